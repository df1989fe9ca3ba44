import PyProof.Rows.All
import Wide.All
import OpenK.AllK
import Wide.FinOn
import Lean
import PyProof.EqAt
import PyProof.EqKinds
import PyProof.TupleCall
import PyProof.NeKinds
import PyProof.FactsAll.list
import PyProof.ListMulRoad
import PyProof.FactsAll.tuple
import PyProof.Rows.TupAdd
import PyProof.StationsW
import PyProof.RulesAs
import OpenK.KOwn
import OpenK.KMake
import PyProof.ExcClass3
import PyProof.ExcInit
import PyProof.InstStoreFacts
import PyProof.ExcAttrAll.ValueError
import PyProof.NsDelKeeps
import KE.KTryMore
import KE.KIsAll
import KE.KDictSum
import PyProof.Rows.SortWalk
import PyProof.StrOps2
import PyProof.WalkInts
import OpenK.KCls
import PyProof.SeqI3
import KE.KEqDict
import PyProof.InstEq
import PyProof.ListRange
import PyProof.TupleOfStr
import PySem.Challenge.RW_papervault_k22_clashes_refused
set_option Elab.async false
set_option linter.all false
set_option maxRecDepth 100000
set_option maxHeartbeats 4000000
namespace L2
open PySem
def inClass (s:Stmt)(j:Nat):Stmt:=match s with
 | .ClassDef _ _ _ body _ _ _ _ _ _ _=>body.getD j (.Pass ⟨0,0,0,0⟩)
 | _=>.Pass ⟨0,0,0,0⟩
def defArgs (s:Stmt):Arguments:=match s with
 | .FunctionDef _ a _ _ _ _ _ _ _ _=>a
 | _=>{posonlyargs:=[],args:=[],vararg:=none,kwonlyargs:=[],kw_defaults:=[],kwarg:=none,defaults:=[]}
def defBody (s:Stmt):List Stmt:=match s with
 | .FunctionDef _ _ b _ _ _ _ _ _ _=>b
 | _=>[]
def defScope (s:Stmt):Scope:=match s with
 | .FunctionDef _ _ _ _ _ _ sc _ _ _=>sc
 | _=>{kind:=.function,names:=[],isGenerator:=false,isCoroutine:=false}
end L2
namespace Pv
open PySem
def top (i:Nat):Stmt:=PySem.Challenge.pw_papervault_k22_clashes_refused.main.body.getD i (.Pass ⟨0,0,0,0⟩)
end Pv
namespace Pv
open PySem PySem.W
abbrev dE (P:Params)(x:Str)(t:Nat)(v:Value):DictEntry:=DictEntry.mk (PyData.keyHash P x) (.str x t) v
abbrev cO (n:Str)(a:Nat)(q:Str)(b c:Nat)(l x y z w:Int)(r:Addr)(g:Bool)(r2:Addr)(e1 e2 e3 e4:Value)(t m:Int)(d:Nat):Obj:=.mk (.type "code") none (.fields #[.str n a,.str q b,.str "/claim/cut.py" c,.int l 0,.int x 0,.int y 0,.int z 0,.int w 0,.ref r,.bool g,.int 181 0,.ref r2,e1,e2,e3,e4,.int t 0,.int m 0,.str "/claim/cut.py" d]) #[]
abbrev fO (c:Value)(n q:Str)(st:Stmt)(g:Addr)(cl:List (Str ×Addr))(df kd doc md:Value)(an:Option Addr)(cd ct:Value)(bl:Addr):Obj:=.mk c none (.func (.mk n q (L2.defArgs st) (.stmts (L2.defBody st)) (L2.defScope st) g cl df kd doc md an cd ct bl)) #[]
abbrev f0 (n q:Str)(st:Stmt):Obj:=fO .none n q st 0 [] .none .none .none .none none .none .none 0
abbrev f1 (n q:Str)(st:Stmt)(m:Str)(k:Nat)(r:Addr):Obj:=fO (.type "function") n q st 3 [] .none .none .none (.str m k) none (.ref r) .none 0
abbrev tO (a:Array Value):Obj:=.mk (.type "tuple") none (.seq a) #[]
abbrev dO (a:Array DictEntry)(n:Nat):Obj:=.mk (.type "dict") none (.dict a n) #[]
def sp:List Obj→List Obj ×List Obj
 | []=>([],[])
 | x::r=>(x::(sp r).2,(sp r).1)
def bt:Nat→List Obj→BT
 | 0,_=>.nil
 | _+1,[]=>.nil
 | n+1,x::r=>.node x (bt n (sp r).1) (bt n (sp r).2)
def wv:List Nat→List Obj→List Obj→List Obj
 | [],_,_=>[]
 | n::r,a,b=>a.take n++wv r b (a.drop n)
def rgs:List (Nat ×Nat)→List Nat
 | []=>[]
 | (a,n)::r=>List.range' a n++rgs r
noncomputable section
abbrev oo0 (P:Params):Obj:=dO #[dE P "__name__" 165 (.str "__main__" 164),dE P "__doc__" 166 .none,dE P "__package__" 167 .none,dE P "__loader__" 168 (.builtin "__main__.__loader__#opaque"),dE P "__spec__" 169 .none,dE P "__annotations__" 170 (.ref 6),dE P "__builtins__" 171 (.ref 4),dE P "__file__" 173 (.str "/claim/cut.py" 172),dE P "__cached__" 174 .none] 9
abbrev oo1 (P:Params):Obj:=dO #[dE P "__name__" 165 (.str "papervault.errors" 187),dE P "__doc__" 166 .none,dE P "__package__" 167 .none,dE P "__loader__" 168 (.builtin "__main__.__loader__#opaque"),dE P "__spec__" 169 .none,dE P "__annotations__" 170 (.ref 6),dE P "__builtins__" 171 (.ref 4),dE P "__file__" 173 (.str "/claim/cut.py" 172),dE P "__cached__" 174 .none,dE P "VaultError" 206 (.ref 24),dE P "NoThing" 222 (.ref 37),dE P "NoPaper" 238 (.ref 49),dE P "BadThing" 254 (.ref 61),dE P "Clash" 281 (.ref 80),dE P "NotOn" 297 (.ref 92),dE P "NoState" 313 (.ref 104),dE P "NoName" 329 (.ref 116)] 17
abbrev oo2 (P:Params):Obj:=.mk .none none (.fields #[.int 2 0,.int 0 0,.ref 20,.int 4 0,.int 0 0,.ref 33,.int 6 0,.int 0 0,.ref 45,.int 8 0,.int 0 0,.ref 57,.int 10 0,.int 0 0,.ref 69,.int 15 0,.int 0 0,.ref 88,.int 17 0,.int 0 0,.ref 100,.int 19 0,.int 0 0,.ref 112]) #[]
abbrev oo3 (P:Params):Obj:=.mk (.type "type") none (.cls (ClassData.mk "VaultError" [.type "ValueError"] [.ref 24,.type "ValueError",.type "Exception",.type "BaseException",.type "object"] 23 "VaultError" true [] [.ref 37,.ref 49,.ref 61,.ref 80,.ref 92,.ref 104,.ref 116] false none false)) #[some (.ref 15),none,some (.str "VaultError" 189),some (.str "VaultError" 197),some (.builtin "ValueError.__new__"),some (.bool true)]
abbrev oo4 (P:Params):Obj:=dO #[dE P "__name__" 165 (.str "papervault.seals" 458),dE P "__doc__" 166 .none,dE P "__package__" 167 .none,dE P "__loader__" 168 (.builtin "__main__.__loader__#opaque"),dE P "__spec__" 169 .none,dE P "__annotations__" 170 (.ref 6),dE P "__builtins__" 171 (.ref 4),dE P "__file__" 173 (.str "/claim/cut.py" 172),dE P "__cached__" 174 .none,dE P "VaultError" 206 (.ref 24),dE P "NoThing" 222 (.ref 37),dE P "NoPaper" 238 (.ref 49),dE P "BadThing" 254 (.ref 61),dE P "Clash" 281 (.ref 80),dE P "NotOn" 297 (.ref 92),dE P "NoState" 313 (.ref 104),dE P "NoName" 329 (.ref 116),dE P "NoTable" 345 (.ref 128),dE P "NoColumn" 361 (.ref 140),dE P "NoRow" 377 (.ref 152),dE P "NoQuestion" 393 (.ref 164),dE P "NoPlan" 409 (.ref 176),dE P "NoStep" 425 (.ref 188),dE P "NotSo" 441 (.ref 200),dE P "NoCommand" 457 (.ref 212),dE P "seal" 468 (.ref 221),dE P "codes" 474 (.ref 226)] 27
abbrev oo5 (P:Params):Obj:=.mk .none none (.fields #[.int 2 0,.int 0 0,.ref 20,.int 4 0,.int 0 0,.ref 33,.int 6 0,.int 0 0,.ref 45,.int 8 0,.int 0 0,.ref 57,.int 10 0,.int 0 0,.ref 69,.int 15 0,.int 0 0,.ref 88,.int 17 0,.int 0 0,.ref 100,.int 19 0,.int 0 0,.ref 112,.int 21 0,.int 0 0,.ref 124,.int 23 0,.int 0 0,.ref 136,.int 25 0,.int 0 0,.ref 148,.int 27 0,.int 0 0,.ref 160,.int 29 0,.int 0 0,.ref 172,.int 31 0,.int 0 0,.ref 184,.int 33 0,.int 0 0,.ref 196,.int 35 0,.int 0 0,.ref 208,.int 38 0,.int 0 0,.ref 220,.int 43 0,.int 0 0,.ref 225]) #[]
abbrev oo6 (P:Params):Obj:=dO #[dE P "__name__" 165 (.str "law_papervault_k22_clashes_refused" 694),dE P "__doc__" 166 .none,dE P "__package__" 167 .none,dE P "__loader__" 168 (.builtin "__main__.__loader__#opaque"),dE P "__spec__" 169 .none,dE P "__annotations__" 170 (.ref 6),dE P "__builtins__" 171 (.ref 4),dE P "__file__" 173 (.str "/claim/cut.py" 172),dE P "__cached__" 174 .none,dE P "VaultError" 206 (.ref 24),dE P "NoThing" 222 (.ref 37),dE P "NoPaper" 238 (.ref 49),dE P "BadThing" 254 (.ref 61),dE P "Clash" 281 (.ref 80),dE P "NotOn" 297 (.ref 92),dE P "NoState" 313 (.ref 104),dE P "NoName" 329 (.ref 116),dE P "NoTable" 345 (.ref 128),dE P "NoColumn" 361 (.ref 140),dE P "NoRow" 377 (.ref 152),dE P "NoQuestion" 393 (.ref 164),dE P "NoPlan" 409 (.ref 176),dE P "NoStep" 425 (.ref 188),dE P "NotSo" 441 (.ref 200),dE P "NoCommand" 457 (.ref 212),dE P "seal" 468 (.ref 221),dE P "codes" 474 (.ref 226),dE P "number_of" 483 (.ref 233),dE P "MOST_SIGNS" 487 (.int 60 486),dE P "MOST_PARTS" 489 (.int 40 488),dE P "MOST_DEEP" 491 (.int 5 490),dE P "PERCENT" 493 (.int 37 492),dE P "is_whole" 500 (.ref 240),dE P "is_thing" 507 (.ref 247),dE P "is_thing_within" 515 (.ref 254),dE P "is_tuple_within" 524 (.ref 261),dE P "has_signs_of_things" 532 (.ref 268),dE P "rising" 540 (.ref 273),dE P "Vault" 594 (.ref 311),dE P "Keeper" 617 (.ref 332),dE P "Reader" 668 (.ref 372),dE P "Witness" 693 (.ref 391),dE P "_law_row" 703 (.ref 400),dE P "_law_take" 712 (.ref 407),dE P "_law_text" 718 (.ref 412),dE P "_law_thing" 724 (.ref 417),dE P "_law_same" 734 (.ref 424),dE P "_law_pair" 745 (.ref 431),dE P "_law_unlike" 751 (.ref 436),dE P "_law_caught" 760 (.ref 443),dE P "_law_refused" 771 (.ref 450),dE P "_law_no_witness" 782 (.ref 457),dE P "_law_of_readers" 788 (.ref 462),dE P "_law_of_vaults" 800 (.ref 469)] 54
abbrev oo7 (P:Params):Obj:=.mk .none none (.fields #[.int 2 0,.int 0 0,.ref 20,.int 4 0,.int 0 0,.ref 33,.int 6 0,.int 0 0,.ref 45,.int 8 0,.int 0 0,.ref 57,.int 10 0,.int 0 0,.ref 69,.int 15 0,.int 0 0,.ref 88,.int 17 0,.int 0 0,.ref 100,.int 19 0,.int 0 0,.ref 112,.int 21 0,.int 0 0,.ref 124,.int 23 0,.int 0 0,.ref 136,.int 25 0,.int 0 0,.ref 148,.int 27 0,.int 0 0,.ref 160,.int 29 0,.int 0 0,.ref 172,.int 31 0,.int 0 0,.ref 184,.int 33 0,.int 0 0,.ref 196,.int 35 0,.int 0 0,.ref 208,.int 38 0,.int 0 0,.ref 220,.int 43 0,.int 0 0,.ref 225,.int 56 0,.int 0 0,.ref 232,.int 66 0,.int 0 0,.ref 239,.int 68 0,.int 0 0,.ref 246,.int 70 0,.int 0 0,.ref 253,.int 78 0,.int 0 0,.ref 260,.int 85 0,.int 0 0,.ref 267,.int 91 0,.int 0 0,.ref 272,.int 93 0,.int 0 0,.ref 279,.int 112 0,.int 0 0,.ref 321,.int 116 0,.int 0 0,.ref 340,.int 139 0,.int 0 0,.ref 380,.int 148 0,.int 0 0,.ref 399,.int 153 0,.int 0 0,.ref 406,.int 160 0,.int 0 0,.ref 411,.int 167 0,.int 0 0,.ref 416,.int 180 0,.int 0 0,.ref 423,.int 193 0,.int 0 0,.ref 430,.int 205 0,.int 0 0,.ref 435,.int 216 0,.int 0 0,.ref 442,.int 224 0,.int 0 0,.ref 449,.int 231 0,.int 0 0,.ref 456,.int 238 0,.int 0 0,.ref 461,.int 256 0,.int 0 0,.ref 468]) #[]
def KK:Params→Frag:=fun P=>
(nat_lit 2,.mk .none none (.dict #[]) #[])::
(nat_lit 3,dO #[dE P "__name__" 165 (.str "law_papervault_k22_clashes_refused" 694),dE P "__doc__" 166 .none,dE P "__package__" 167 .none,dE P "__loader__" 168 (.builtin "__main__.__loader__#opaque"),dE P "__spec__" 169 .none,dE P "__annotations__" 170 (.ref 6),dE P "__builtins__" 171 (.ref 4),dE P "__file__" 173 (.str "/claim/cut.py" 172),dE P "__cached__" 174 .none,dE P "VaultError" 206 (.ref 24),dE P "NoThing" 222 (.ref 37),dE P "NoPaper" 238 (.ref 49),dE P "BadThing" 254 (.ref 61),dE P "Clash" 281 (.ref 80),dE P "NotOn" 297 (.ref 92),dE P "NoState" 313 (.ref 104),dE P "NoName" 329 (.ref 116),dE P "NoTable" 345 (.ref 128),dE P "NoColumn" 361 (.ref 140),dE P "NoRow" 377 (.ref 152),dE P "NoQuestion" 393 (.ref 164),dE P "NoPlan" 409 (.ref 176),dE P "NoStep" 425 (.ref 188),dE P "NotSo" 441 (.ref 200),dE P "NoCommand" 457 (.ref 212),dE P "seal" 468 (.ref 221),dE P "codes" 474 (.ref 226),dE P "number_of" 483 (.ref 233),dE P "MOST_SIGNS" 487 (.int 60 486),dE P "MOST_PARTS" 489 (.int 40 488),dE P "MOST_DEEP" 491 (.int 5 490),dE P "PERCENT" 493 (.int 37 492),dE P "is_whole" 500 (.ref 240),dE P "is_thing" 507 (.ref 247),dE P "is_thing_within" 515 (.ref 254),dE P "is_tuple_within" 524 (.ref 261),dE P "has_signs_of_things" 532 (.ref 268),dE P "rising" 540 (.ref 273),dE P "Vault" 594 (.ref 311),dE P "Keeper" 617 (.ref 332),dE P "Reader" 668 (.ref 372),dE P "Witness" 693 (.ref 391),dE P "_law_row" 703 (.ref 400),dE P "_law_take" 712 (.ref 407),dE P "_law_text" 718 (.ref 412),dE P "_law_thing" 724 (.ref 417),dE P "_law_same" 734 (.ref 424),dE P "_law_pair" 745 (.ref 431),dE P "_law_unlike" 751 (.ref 436),dE P "_law_caught" 760 (.ref 443),dE P "_law_refused" 771 (.ref 450),dE P "_law_no_witness" 782 (.ref 457),dE P "_law_of_readers" 788 (.ref 462),dE P "_law_of_vaults" 800 (.ref 469),dE P "law" 806 (.ref 474)] 55)::
(nat_lit 15,tO #[.type "ValueError"])::
(nat_lit 22,tO #[])::
(nat_lit 23,dO #[dE P "__module__" 196 (.str "papervault.errors" 187),dE P "__firstlineno__" 200 (.int 2 199),dE P "__static_attributes__" 201 (.ref 22),dE P "__weakref__" 203 (.ref 25),dE P "__doc__" 204 .none] 3)::
(nat_lit 24,.mk (.type "type") none (.cls (ClassData.mk "VaultError" [.type "ValueError"] [.ref 24,.type "ValueError",.type "Exception",.type "BaseException",.type "object"] 23 "VaultError" true [] [.ref 37,.ref 49,.ref 61,.ref 80,.ref 92,.ref 104,.ref 116,.ref 128,.ref 140,.ref 152,.ref 164,.ref 176,.ref 188,.ref 200,.ref 212] false none false)) #[some (.ref 15),none,some (.str "VaultError" 189),some (.str "VaultError" 197),some (.builtin "ValueError.__new__"),some (.bool true)])::
(nat_lit 25,.mk (.type "getset_descriptor") none (.fields #[.str "__weakref__" 202,.ref 24,.builtin "ExceptionGroup.__weakref__",.none]) #[])::
(nat_lit 28,tO #[.ref 24])::
(nat_lit 35,tO #[])::
(nat_lit 36,dO #[dE P "__module__" 214 (.str "papervault.errors" 187),dE P "__firstlineno__" 218 (.int 4 217),dE P "__static_attributes__" 219 (.ref 35),dE P "__doc__" 220 .none] 2)::
(nat_lit 37,.mk (.type "type") none (.cls (ClassData.mk "NoThing" [.ref 24] [.ref 37,.ref 24,.type "ValueError",.type "Exception",.type "BaseException",.type "object"] 36 "NoThing" true [] [] false none false)) #[some (.ref 28),none,some (.str "NoThing" 207),some (.str "NoThing" 215),some (.builtin "ValueError.__new__"),some (.bool true)])::
(nat_lit 40,tO #[.ref 24])::
(nat_lit 47,tO #[])::
(nat_lit 48,dO #[dE P "__module__" 230 (.str "papervault.errors" 187),dE P "__firstlineno__" 234 (.int 6 233),dE P "__static_attributes__" 235 (.ref 47),dE P "__doc__" 236 .none] 2)::
(nat_lit 49,.mk (.type "type") none (.cls (ClassData.mk "NoPaper" [.ref 24] [.ref 49,.ref 24,.type "ValueError",.type "Exception",.type "BaseException",.type "object"] 48 "NoPaper" true [] [] false none false)) #[some (.ref 40),none,some (.str "NoPaper" 223),some (.str "NoPaper" 231),some (.builtin "ValueError.__new__"),some (.bool true)])::
(nat_lit 52,tO #[.ref 24])::
(nat_lit 59,tO #[])::
(nat_lit 60,dO #[dE P "__module__" 246 (.str "papervault.errors" 187),dE P "__firstlineno__" 250 (.int 8 249),dE P "__static_attributes__" 251 (.ref 59),dE P "__doc__" 252 .none] 2)::
(nat_lit 61,.mk (.type "type") none (.cls (ClassData.mk "BadThing" [.ref 24] [.ref 61,.ref 24,.type "ValueError",.type "Exception",.type "BaseException",.type "object"] 60 "BadThing" true [] [] false none false)) #[some (.ref 52),none,some (.str "BadThing" 239),some (.str "BadThing" 247),some (.builtin "ValueError.__new__"),some (.bool true)])::
(nat_lit 64,tO #[.ref 24])::
(nat_lit 71,tO #[])::
(nat_lit 73,tO #[.str "self" 270,.str "one" 271,.str "other" 272])::
(nat_lit 74,tO #[])::
(nat_lit 76,cO "__init__" 267 "Clash.__init__" 268 269 12 3 0 0 3 71 true 72 .none (.ref 73) (.ref 74) (.ref 75) 273 12 274)::
(nat_lit 77,f1 "__init__" "Clash.__init__" (L2.inClass (Pv.top 5) 0) "papervault.errors" 187 76)::
(nat_lit 78,tO #[.str "one" 276,.str "other" 277])::
(nat_lit 79,dO #[dE P "__module__" 262 (.str "papervault.errors" 187),dE P "__firstlineno__" 266 (.int 10 265),dE P "__init__" 275 (.ref 77),dE P "__static_attributes__" 278 (.ref 78),dE P "__doc__" 279 .none] 2)::
(nat_lit 80,.mk (.type "type") none (.cls (ClassData.mk "Clash" [.ref 24] [.ref 80,.ref 24,.type "ValueError",.type "Exception",.type "BaseException",.type "object"] 79 "Clash" true [] [] false none false)) #[some (.ref 64),none,some (.str "Clash" 255),some (.str "Clash" 263),some (.builtin "ValueError.__new__"),some (.bool true)])::
(nat_lit 83,tO #[.ref 24])::
(nat_lit 90,tO #[])::
(nat_lit 91,dO #[dE P "__module__" 289 (.str "papervault.errors" 187),dE P "__firstlineno__" 293 (.int 15 292),dE P "__static_attributes__" 294 (.ref 90),dE P "__doc__" 295 .none] 2)::
(nat_lit 92,.mk (.type "type") none (.cls (ClassData.mk "NotOn" [.ref 24] [.ref 92,.ref 24,.type "ValueError",.type "Exception",.type "BaseException",.type "object"] 91 "NotOn" true [] [] false none false)) #[some (.ref 83),none,some (.str "NotOn" 282),some (.str "NotOn" 290),some (.builtin "ValueError.__new__"),some (.bool true)])::
(nat_lit 95,tO #[.ref 24])::
(nat_lit 102,tO #[])::
(nat_lit 103,dO #[dE P "__module__" 305 (.str "papervault.errors" 187),dE P "__firstlineno__" 309 (.int 17 308),dE P "__static_attributes__" 310 (.ref 102),dE P "__doc__" 311 .none] 2)::
(nat_lit 104,.mk (.type "type") none (.cls (ClassData.mk "NoState" [.ref 24] [.ref 104,.ref 24,.type "ValueError",.type "Exception",.type "BaseException",.type "object"] 103 "NoState" true [] [] false none false)) #[some (.ref 95),none,some (.str "NoState" 298),some (.str "NoState" 306),some (.builtin "ValueError.__new__"),some (.bool true)])::
(nat_lit 107,tO #[.ref 24])::
(nat_lit 114,tO #[])::
(nat_lit 115,dO #[dE P "__module__" 321 (.str "papervault.errors" 187),dE P "__firstlineno__" 325 (.int 19 324),dE P "__static_attributes__" 326 (.ref 114),dE P "__doc__" 327 .none] 2)::
(nat_lit 116,.mk (.type "type") none (.cls (ClassData.mk "NoName" [.ref 24] [.ref 116,.ref 24,.type "ValueError",.type "Exception",.type "BaseException",.type "object"] 115 "NoName" true [] [] false none false)) #[some (.ref 107),none,some (.str "NoName" 314),some (.str "NoName" 322),some (.builtin "ValueError.__new__"),some (.bool true)])::
(nat_lit 119,tO #[.ref 24])::
(nat_lit 126,tO #[])::
(nat_lit 127,dO #[dE P "__module__" 337 (.str "papervault.errors" 187),dE P "__firstlineno__" 341 (.int 21 340),dE P "__static_attributes__" 342 (.ref 126),dE P "__doc__" 343 .none] 2)::
(nat_lit 128,.mk (.type "type") none (.cls (ClassData.mk "NoTable" [.ref 24] [.ref 128,.ref 24,.type "ValueError",.type "Exception",.type "BaseException",.type "object"] 127 "NoTable" true [] [] false none false)) #[some (.ref 119),none,some (.str "NoTable" 330),some (.str "NoTable" 338),some (.builtin "ValueError.__new__"),some (.bool true)])::
(nat_lit 131,tO #[.ref 24])::
(nat_lit 138,tO #[])::
(nat_lit 139,dO #[dE P "__module__" 353 (.str "papervault.errors" 187),dE P "__firstlineno__" 357 (.int 23 356),dE P "__static_attributes__" 358 (.ref 138),dE P "__doc__" 359 .none] 2)::
(nat_lit 140,.mk (.type "type") none (.cls (ClassData.mk "NoColumn" [.ref 24] [.ref 140,.ref 24,.type "ValueError",.type "Exception",.type "BaseException",.type "object"] 139 "NoColumn" true [] [] false none false)) #[some (.ref 131),none,some (.str "NoColumn" 346),some (.str "NoColumn" 354),some (.builtin "ValueError.__new__"),some (.bool true)])::
(nat_lit 143,tO #[.ref 24])::
(nat_lit 150,tO #[])::
(nat_lit 151,dO #[dE P "__module__" 369 (.str "papervault.errors" 187),dE P "__firstlineno__" 373 (.int 25 372),dE P "__static_attributes__" 374 (.ref 150),dE P "__doc__" 375 .none] 2)::
(nat_lit 152,.mk (.type "type") none (.cls (ClassData.mk "NoRow" [.ref 24] [.ref 152,.ref 24,.type "ValueError",.type "Exception",.type "BaseException",.type "object"] 151 "NoRow" true [] [] false none false)) #[some (.ref 143),none,some (.str "NoRow" 362),some (.str "NoRow" 370),some (.builtin "ValueError.__new__"),some (.bool true)])::
(nat_lit 155,tO #[.ref 24])::
(nat_lit 162,tO #[])::
(nat_lit 163,dO #[dE P "__module__" 385 (.str "papervault.errors" 187),dE P "__firstlineno__" 389 (.int 27 388),dE P "__static_attributes__" 390 (.ref 162),dE P "__doc__" 391 .none] 2)::
(nat_lit 164,.mk (.type "type") none (.cls (ClassData.mk "NoQuestion" [.ref 24] [.ref 164,.ref 24,.type "ValueError",.type "Exception",.type "BaseException",.type "object"] 163 "NoQuestion" true [] [] false none false)) #[some (.ref 155),none,some (.str "NoQuestion" 378),some (.str "NoQuestion" 386),some (.builtin "ValueError.__new__"),some (.bool true)])::
(nat_lit 167,tO #[.ref 24])::
(nat_lit 174,tO #[])::
(nat_lit 175,dO #[dE P "__module__" 401 (.str "papervault.errors" 187),dE P "__firstlineno__" 405 (.int 29 404),dE P "__static_attributes__" 406 (.ref 174),dE P "__doc__" 407 .none] 2)::
(nat_lit 176,.mk (.type "type") none (.cls (ClassData.mk "NoPlan" [.ref 24] [.ref 176,.ref 24,.type "ValueError",.type "Exception",.type "BaseException",.type "object"] 175 "NoPlan" true [] [] false none false)) #[some (.ref 167),none,some (.str "NoPlan" 394),some (.str "NoPlan" 402),some (.builtin "ValueError.__new__"),some (.bool true)])::
(nat_lit 179,tO #[.ref 24])::
(nat_lit 186,tO #[])::
(nat_lit 187,dO #[dE P "__module__" 417 (.str "papervault.errors" 187),dE P "__firstlineno__" 421 (.int 31 420),dE P "__static_attributes__" 422 (.ref 186),dE P "__doc__" 423 .none] 2)::
(nat_lit 188,.mk (.type "type") none (.cls (ClassData.mk "NoStep" [.ref 24] [.ref 188,.ref 24,.type "ValueError",.type "Exception",.type "BaseException",.type "object"] 187 "NoStep" true [] [] false none false)) #[some (.ref 179),none,some (.str "NoStep" 410),some (.str "NoStep" 418),some (.builtin "ValueError.__new__"),some (.bool true)])::
(nat_lit 191,tO #[.ref 24])::
(nat_lit 198,tO #[])::
(nat_lit 199,dO #[dE P "__module__" 433 (.str "papervault.errors" 187),dE P "__firstlineno__" 437 (.int 33 436),dE P "__static_attributes__" 438 (.ref 198),dE P "__doc__" 439 .none] 2)::
(nat_lit 200,.mk (.type "type") none (.cls (ClassData.mk "NotSo" [.ref 24] [.ref 200,.ref 24,.type "ValueError",.type "Exception",.type "BaseException",.type "object"] 199 "NotSo" true [] [] false none false)) #[some (.ref 191),none,some (.str "NotSo" 426),some (.str "NotSo" 434),some (.builtin "ValueError.__new__"),some (.bool true)])::
(nat_lit 203,tO #[.ref 24])::
(nat_lit 210,tO #[])::
(nat_lit 211,dO #[dE P "__module__" 449 (.str "papervault.errors" 187),dE P "__firstlineno__" 453 (.int 35 452),dE P "__static_attributes__" 454 (.ref 210),dE P "__doc__" 455 .none] 2)::
(nat_lit 212,.mk (.type "type") none (.cls (ClassData.mk "NoCommand" [.ref 24] [.ref 212,.ref 24,.type "ValueError",.type "Exception",.type "BaseException",.type "object"] 211 "NoCommand" true [] [] false none false)) #[some (.ref 203),none,some (.str "NoCommand" 442),some (.str "NoCommand" 450),some (.builtin "ValueError.__new__"),some (.bool true)])::
(nat_lit 215,tO #[])::
(nat_lit 217,tO #[.str "thing" 463,.str "folded" 464,.str "code" 465])::
(nat_lit 218,tO #[])::
(nat_lit 220,cO "seal" 460 "seal" 461 462 38 1 0 0 3 215 true 216 .none (.ref 217) (.ref 218) (.ref 219) 466 38 467)::
(nat_lit 221,f1 "seal" "seal" (Pv.top 18) "papervault.seals" 458 220)::
(nat_lit 222,tO #[])::
(nat_lit 225,cO "codes" 469 "codes" 470 471 43 1 0 0 3 222 true 223 .none .none .none (.ref 224) 472 43 473)::
(nat_lit 226,f1 "codes" "codes" (Pv.top 19) "papervault.seals" 458 225)::
(nat_lit 227,tO #[])::
(nat_lit 229,tO #[.str "signs" 478,.str "number" 479,.str "sign" 480])::
(nat_lit 230,tO #[])::
(nat_lit 232,cO "number_of" 475 "number_of" 476 477 56 1 0 0 3 227 true 228 .none (.ref 229) (.ref 230) (.ref 231) 481 56 482)::
(nat_lit 233,f1 "number_of" "number_of" (Pv.top 20) "papervault.seals" 458 232)::
(nat_lit 234,tO #[])::
(nat_lit 236,tO #[.str "value" 497])::
(nat_lit 237,tO #[])::
(nat_lit 239,cO "is_whole" 494 "is_whole" 495 496 66 1 0 0 3 234 true 235 .none (.ref 236) (.ref 237) (.ref 238) 498 66 499)::
(nat_lit 240,f1 "is_whole" "is_whole" (Pv.top 26) "papervault.things" 484 239)::
(nat_lit 241,tO #[])::
(nat_lit 243,tO #[.str "thing" 504])::
(nat_lit 244,tO #[])::
(nat_lit 246,cO "is_thing" 501 "is_thing" 502 503 68 1 0 0 3 241 true 242 .none (.ref 243) (.ref 244) (.ref 245) 505 68 506)::
(nat_lit 247,f1 "is_thing" "is_thing" (Pv.top 27) "papervault.things" 484 246)::
(nat_lit 248,tO #[])::
(nat_lit 250,tO #[.str "thing" 511,.str "deep" 512])::
(nat_lit 251,tO #[])::
(nat_lit 253,cO "is_thing_within" 508 "is_thing_within" 509 510 70 2 0 0 3 248 true 249 .none (.ref 250) (.ref 251) (.ref 252) 513 70 514)::
(nat_lit 254,f1 "is_thing_within" "is_thing_within" (Pv.top 28) "papervault.things" 484 253)::
(nat_lit 255,tO #[])::
(nat_lit 257,tO #[.str "parts" 519,.str "deep" 520,.str "part" 521])::
(nat_lit 258,tO #[])::
(nat_lit 260,cO "is_tuple_within" 516 "is_tuple_within" 517 518 78 2 0 0 3 255 true 256 .none (.ref 257) (.ref 258) (.ref 259) 522 78 523)::
(nat_lit 261,f1 "is_tuple_within" "is_tuple_within" (Pv.top 29) "papervault.things" 484 260)::
(nat_lit 262,tO #[])::
(nat_lit 264,tO #[.str "text" 528,.str "sign" 529])::
(nat_lit 265,tO #[])::
(nat_lit 267,cO "has_signs_of_things" 525 "has_signs_of_things" 526 527 85 1 0 0 3 262 true 263 .none (.ref 264) (.ref 265) (.ref 266) 530 85 531)::
(nat_lit 268,f1 "has_signs_of_things" "has_signs_of_things" (Pv.top 30) "papervault.things" 484 267)::
(nat_lit 269,tO #[])::
(nat_lit 272,cO "rising" 535 "rising" 536 537 91 1 0 0 3 269 true 270 .none .none .none (.ref 271) 538 91 539)::
(nat_lit 273,f1 "rising" "rising" (Pv.top 32) "papervault.vaults" 533 272)::
(nat_lit 281,tO #[])::
(nat_lit 283,tO #[.str "self" 556])::
(nat_lit 284,tO #[])::
(nat_lit 286,cO "__init__" 553 "Vault.__init__" 554 555 95 1 0 0 3 281 true 282 .none (.ref 283) (.ref 284) (.ref 285) 557 95 558)::
(nat_lit 287,f1 "__init__" "Vault.__init__" (L2.inClass (Pv.top 33) 0) "papervault.vaults" 533 286)::
(nat_lit 288,tO #[])::
(nat_lit 290,tO #[.str "self" 563,.str "number" 564,.str "thing" 565])::
(nat_lit 291,tO #[])::
(nat_lit 293,cO "refuse_clash" 560 "Vault.refuse_clash" 561 562 98 3 0 0 3 288 true 289 .none (.ref 290) (.ref 291) (.ref 292) 566 98 567)::
(nat_lit 294,f1 "refuse_clash" "Vault.refuse_clash" (L2.inClass (Pv.top 33) 1) "papervault.vaults" 533 293)::
(nat_lit 295,tO #[])::
(nat_lit 297,tO #[.str "self" 572,.str "thing" 573,.str "number" 574])::
(nat_lit 298,tO #[])::
(nat_lit 300,cO "lay" 569 "Vault.lay" 570 571 102 2 0 0 3 295 true 296 .none (.ref 297) (.ref 298) (.ref 299) 575 102 576)::
(nat_lit 301,f1 "lay" "Vault.lay" (L2.inClass (Pv.top 33) 2) "papervault.vaults" 533 300)::
(nat_lit 302,tO #[])::
(nat_lit 304,tO #[.str "self" 581,.str "number" 582])::
(nat_lit 305,tO #[])::
(nat_lit 307,cO "thing" 578 "Vault.thing" 579 580 108 2 0 0 3 302 true 303 .none (.ref 304) (.ref 305) (.ref 306) 583 108 584)::
(nat_lit 308,f1 "thing" "Vault.thing" (L2.inClass (Pv.top 33) 3) "papervault.vaults" 533 307)::
(nat_lit 309,tO #[.str "laid" 586])::
(nat_lit 310,dO #[dE P "__module__" 548 (.str "papervault.vaults" 533),dE P "__firstlineno__" 552 (.int 93 551),dE P "__init__" 559 (.ref 287),dE P "refuse_clash" 568 (.ref 294),dE P "lay" 577 (.ref 301),dE P "thing" 585 (.ref 308),dE P "__static_attributes__" 587 (.ref 309),dE P "__dict__" 589 (.ref 312),dE P "__weakref__" 591 (.ref 313),dE P "__doc__" 592 .none] 4)::
(nat_lit 311,.mk (.type "type") none (.cls (ClassData.mk "Vault" [.type "object"] [.ref 311,.type "object"] 310 "Vault" true [] [.ref 332,.ref 372,.ref 391] false none false)) #[none,none,some (.str "Vault" 541),some (.str "Vault" 549),some (.builtin "object.__new__"),some (.bool true)])::
(nat_lit 312,.mk (.type "getset_descriptor") none (.fields #[.str "__dict__" 588,.ref 311,.builtin "function.__dict__",.builtin "function.__dict__#set"]) #[])::
(nat_lit 313,.mk (.type "getset_descriptor") none (.fields #[.str "__weakref__" 590,.ref 311,.builtin "ExceptionGroup.__weakref__",.none]) #[])::
(nat_lit 316,tO #[.ref 311])::
(nat_lit 323,tO #[])::
(nat_lit 325,tO #[.str "self" 610])::
(nat_lit 326,tO #[])::
(nat_lit 328,cO "things" 607 "Keeper.things" 608 609 114 1 0 0 3 323 true 324 .none (.ref 325) (.ref 326) (.ref 327) 611 114 612)::
(nat_lit 329,f1 "things" "Keeper.things" (L2.inClass (Pv.top 34) 0) "papervault.vaults" 533 328)::
(nat_lit 330,tO #[])::
(nat_lit 331,dO #[dE P "__module__" 602 (.str "papervault.vaults" 533),dE P "__firstlineno__" 606 (.int 112 605),dE P "things" 613 (.ref 329),dE P "__static_attributes__" 614 (.ref 330),dE P "__doc__" 615 .none] 2)::
(nat_lit 332,.mk (.type "type") none (.cls (ClassData.mk "Keeper" [.ref 311] [.ref 332,.ref 311,.type "object"] 331 "Keeper" true [] [] false none false)) #[some (.ref 316),none,some (.str "Keeper" 595),some (.str "Keeper" 603),some (.builtin "object.__new__"),some (.bool true)])::
(nat_lit 335,tO #[.ref 311])::
(nat_lit 342,tO #[])::
(nat_lit 344,tO #[.str "self" 633,.str "keeper" 634])::
(nat_lit 345,tO #[])::
(nat_lit 347,cO "__init__" 630 "Reader.__init__" 631 632 118 2 0 0 3 342 true 343 .none (.ref 344) (.ref 345) (.ref 346) 635 118 636)::
(nat_lit 348,f1 "__init__" "Reader.__init__" (L2.inClass (Pv.top 35) 0) "papervault.vaults" 533 347)::
(nat_lit 349,tO #[])::
(nat_lit 351,tO #[.str "self" 641,.str "thing" 642,.str "number" 643])::
(nat_lit 352,tO #[])::
(nat_lit 354,cO "lay" 638 "Reader.lay" 639 640 123 2 0 0 3 349 true 350 .none (.ref 351) (.ref 352) (.ref 353) 644 123 645)::
(nat_lit 355,f1 "lay" "Reader.lay" (L2.inClass (Pv.top 35) 1) "papervault.vaults" 533 354)::
(nat_lit 356,tO #[])::
(nat_lit 358,tO #[.str "self" 650,.str "number" 651,.str "read" 652])::
(nat_lit 359,tO #[])::
(nat_lit 361,cO "thing" 647 "Reader.thing" 648 649 130 2 0 0 3 356 true 357 .none (.ref 358) (.ref 359) (.ref 360) 653 130 654)::
(nat_lit 362,f1 "thing" "Reader.thing" (L2.inClass (Pv.top 35) 2) "papervault.vaults" 533 361)::
(nat_lit 363,tO #[])::
(nat_lit 365,tO #[.str "self" 659])::
(nat_lit 366,tO #[])::
(nat_lit 368,cO "paper" 656 "Reader.paper" 657 658 137 1 0 0 3 363 true 364 .none (.ref 365) (.ref 366) (.ref 367) 660 137 661)::
(nat_lit 369,f1 "paper" "Reader.paper" (L2.inClass (Pv.top 35) 3) "papervault.vaults" 533 368)::
(nat_lit 370,tO #[.str "keeper" 663,.str "noted" 664])::
(nat_lit 371,dO #[dE P "__module__" 625 (.str "papervault.vaults" 533),dE P "__firstlineno__" 629 (.int 116 628),dE P "__init__" 637 (.ref 348),dE P "lay" 646 (.ref 355),dE P "thing" 655 (.ref 362),dE P "paper" 662 (.ref 369),dE P "__static_attributes__" 665 (.ref 370),dE P "__doc__" 666 .none] 2)::
(nat_lit 372,.mk (.type "type") none (.cls (ClassData.mk "Reader" [.ref 311] [.ref 372,.ref 311,.type "object"] 371 "Reader" true [] [] false none false)) #[some (.ref 335),none,some (.str "Reader" 618),some (.str "Reader" 626),some (.builtin "object.__new__"),some (.bool true)])::
(nat_lit 375,tO #[.ref 311])::
(nat_lit 382,tO #[])::
(nat_lit 384,tO #[.str "self" 684,.str "paper" 685,.str "thing" 686])::
(nat_lit 385,tO #[])::
(nat_lit 387,cO "__init__" 681 "Witness.__init__" 682 683 141 2 0 0 3 382 true 383 .none (.ref 384) (.ref 385) (.ref 386) 687 141 688)::
(nat_lit 388,f1 "__init__" "Witness.__init__" (L2.inClass (Pv.top 36) 0) "papervault.vaults" 533 387)::
(nat_lit 389,tO #[])::
(nat_lit 390,dO #[dE P "__module__" 676 (.str "papervault.vaults" 533),dE P "__firstlineno__" 680 (.int 139 679),dE P "__init__" 689 (.ref 388),dE P "__static_attributes__" 690 (.ref 389),dE P "__doc__" 691 .none] 2)::
(nat_lit 391,.mk (.type "type") none (.cls (ClassData.mk "Witness" [.ref 311] [.ref 391,.ref 311,.type "object"] 390 "Witness" true [] [] false none false)) #[some (.ref 375),none,some (.str "Witness" 669),some (.str "Witness" 677),some (.builtin "object.__new__"),some (.bool true)])::
(nat_lit 394,tO #[])::
(nat_lit 396,tO #[.str "cell" 699,.str "low" 700])::
(nat_lit 397,tO #[])::
(nat_lit 399,cO "_law_row" 696 "_law_row" 697 698 148 1 0 0 3 394 true 395 .none (.ref 396) (.ref 397) (.ref 398) 701 148 702)::
(nat_lit 400,f1 "_law_row" "_law_row" (Pv.top 38) "law_papervault_k22_clashes_refused" 694 399)::
(nat_lit 401,tO #[])::
(nat_lit 403,tO #[.str "row" 707,.str "many" 708,.str "got" 709])::
(nat_lit 404,tO #[])::
(nat_lit 406,cO "_law_take" 704 "_law_take" 705 706 153 2 0 0 3 401 true 402 .none (.ref 403) (.ref 404) (.ref 405) 710 153 711)::
(nat_lit 407,f1 "_law_take" "_law_take" (Pv.top 39) "law_papervault_k22_clashes_refused" 694 406)::
(nat_lit 408,tO #[])::
(nat_lit 411,cO "_law_text" 713 "_law_text" 714 715 160 1 0 0 3 408 true 409 .none .none .none (.ref 410) 716 160 717)::
(nat_lit 412,f1 "_law_text" "_law_text" (Pv.top 40) "law_papervault_k22_clashes_refused" 694 411)::
(nat_lit 413,tO #[])::
(nat_lit 416,cO "_law_thing" 719 "_law_thing" 720 721 167 2 0 0 3 413 true 414 .none .none .none (.ref 415) 722 167 723)::
(nat_lit 417,f1 "_law_thing" "_law_thing" (Pv.top 41) "law_papervault_k22_clashes_refused" 694 416)::
(nat_lit 418,tO #[])::
(nat_lit 420,tO #[.str "told" 728,.str "due" 729,.str "one" 730,.str "other" 731])::
(nat_lit 421,tO #[])::
(nat_lit 423,cO "_law_same" 725 "_law_same" 726 727 180 2 0 0 3 418 true 419 .none (.ref 420) (.ref 421) (.ref 422) 732 180 733)::
(nat_lit 424,f1 "_law_same" "_law_same" (Pv.top 42) "law_papervault_k22_clashes_refused" 694 423)::
(nat_lit 425,tO #[])::
(nat_lit 427,tO #[.str "row" 738,.str "kind" 739,.str "numbers" 740,.str "x" 741,.str "y" 742])::
(nat_lit 428,tO #[])::
(nat_lit 430,cO "_law_pair" 735 "_law_pair" 736 737 193 1 0 0 3 425 true 426 .none (.ref 427) (.ref 428) (.ref 429) 743 193 744)::
(nat_lit 431,f1 "_law_pair" "_law_pair" (Pv.top 43) "law_papervault_k22_clashes_refused" 694 430)::
(nat_lit 432,tO #[])::
(nat_lit 435,cO "_law_unlike" 746 "_law_unlike" 747 748 205 1 0 0 3 432 true 433 .none .none .none (.ref 434) 749 205 750)::
(nat_lit 436,f1 "_law_unlike" "_law_unlike" (Pv.top 44) "law_papervault_k22_clashes_refused" 694 435)::
(nat_lit 437,tO #[])::
(nat_lit 439,tO #[.str "e" 755,.str "one" 756,.str "other" 757])::
(nat_lit 440,tO #[])::
(nat_lit 442,cO "_law_caught" 752 "_law_caught" 753 754 216 3 0 0 3 437 true 438 .none (.ref 439) (.ref 440) (.ref 441) 758 216 759)::
(nat_lit 443,f1 "_law_caught" "_law_caught" (Pv.top 45) "law_papervault_k22_clashes_refused" 694 442)::
(nat_lit 444,tO #[])::
(nat_lit 446,tO #[.str "vault" 764,.str "one" 765,.str "other" 766,.str "refused" 767,.str "e" 768])::
(nat_lit 447,tO #[])::
(nat_lit 449,cO "_law_refused" 761 "_law_refused" 762 763 224 3 0 0 3 444 true 445 .none (.ref 446) (.ref 447) (.ref 448) 769 224 770)::
(nat_lit 450,f1 "_law_refused" "_law_refused" (Pv.top 46) "law_papervault_k22_clashes_refused" 694 449)::
(nat_lit 451,tO #[])::
(nat_lit 453,tO #[.str "paper" 775,.str "one" 776,.str "other" 777,.str "refused" 778,.str "e" 779])::
(nat_lit 454,tO #[])::
(nat_lit 456,cO "_law_no_witness" 772 "_law_no_witness" 773 774 231 3 0 0 3 451 true 452 .none (.ref 453) (.ref 454) (.ref 455) 780 231 781)::
(nat_lit 457,f1 "_law_no_witness" "_law_no_witness" (Pv.top 47) "law_papervault_k22_clashes_refused" 694 456)::
(nat_lit 458,tO #[])::
(nat_lit 461,cO "_law_of_readers" 783 "_law_of_readers" 784 785 238 3 0 0 3 458 true 459 .none .none .none (.ref 460) 786 238 787)::
(nat_lit 462,f1 "_law_of_readers" "_law_of_readers" (Pv.top 48) "law_papervault_k22_clashes_refused" 694 461)::
(nat_lit 463,tO #[])::
(nat_lit 465,tO #[.str "one" 792,.str "other" 793,.str "between" 794,.str "keeper" 795,.str "vault" 796,.str "new" 797])::
(nat_lit 466,tO #[])::
(nat_lit 468,cO "_law_of_vaults" 789 "_law_of_vaults" 790 791 256 3 0 0 3 463 true 464 .none (.ref 465) (.ref 466) (.ref 467) 798 256 799)::
(nat_lit 469,f1 "_law_of_vaults" "_law_of_vaults" (Pv.top 49) "law_papervault_k22_clashes_refused" 694 468)::
(nat_lit 470,tO #[])::
(nat_lit 473,cO "law" 801 "law" 802 803 267 1 0 0 3 470 true 471 .none .none .none (.ref 472) 804 267 805)::
(nat_lit 474,f1 "law" "law" (Pv.top 50) "law_papervault_k22_clashes_refused" 694 473)::
[]
def KA:List Addr:=rgs [(2,2),(15,1),(22,4),(28,1),(35,3),(40,1),(47,3),(52,1),(59,3),(64,1),(71,1),(73,2),(76,5),(83,1),(90,3),(95,1),(102,3),(107,1),(114,3),(119,1),(126,3),(131,1),(138,3),(143,1),(150,3),(155,1),(162,3),(167,1),(174,3),(179,1),(186,3),(191,1),(198,3),(203,1),(210,3),(215,1),(217,2),(220,3),(225,3),(229,2),(232,3),(236,2),(239,3),(243,2),(246,3),(250,2),(253,3),(257,2),(260,3),(264,2),(267,3),(272,2),(281,1),(283,2),(286,3),(290,2),(293,3),(297,2),(300,3),(304,2),(307,7),(316,1),(323,1),(325,2),(328,5),(335,1),(342,1),(344,2),(347,3),(351,2),(354,3),(358,2),(361,3),(365,2),(368,5),(375,1),(382,1),(384,2),(387,5),(394,1),(396,2),(399,3),(403,2),(406,3),(411,3),(416,3),(420,2),(423,3),(427,2),(430,3),(435,3),(439,2),(442,3),(446,2),(449,3),(453,2),(456,3),(461,3),(465,2),(468,3),(473,2)]
variable (P:Params)
def OL:List Obj:=[boot_o_0 P,
boot_o_1 P,
boot_o_4 P,
boot_o_5 P,
boot_o_6 P,
boot_o_7 P,
boot_o_8 P,
boot_o_9 P,
boot_o_10 P,
boot_o_7 P,
.mk .none none (.fields #[.int 2 0,.int 0 0,.ref 20,.int 4 0,.int 0 0,.ref 33,.int 6 0,.int 0 0,.ref 45,.int 8 0,.int 0 0,.ref 57,.int 10 0,.int 0 0,.ref 69,.int 15 0,.int 0 0,.ref 88,.int 17 0,.int 0 0,.ref 100,.int 19 0,.int 0 0,.ref 112,.int 21 0,.int 0 0,.ref 124,.int 23 0,.int 0 0,.ref 136,.int 25 0,.int 0 0,.ref 148,.int 27 0,.int 0 0,.ref 160,.int 29 0,.int 0 0,.ref 172,.int 31 0,.int 0 0,.ref 184,.int 33 0,.int 0 0,.ref 196,.int 35 0,.int 0 0,.ref 208,.int 38 0,.int 0 0,.ref 220,.int 43 0,.int 0 0,.ref 225,.int 56 0,.int 0 0,.ref 232,.int 66 0,.int 0 0,.ref 239,.int 68 0,.int 0 0,.ref 246,.int 70 0,.int 0 0,.ref 253,.int 78 0,.int 0 0,.ref 260,.int 85 0,.int 0 0,.ref 267,.int 91 0,.int 0 0,.ref 272,.int 93 0,.int 0 0,.ref 279,.int 112 0,.int 0 0,.ref 321,.int 116 0,.int 0 0,.ref 340,.int 139 0,.int 0 0,.ref 380,.int 148 0,.int 0 0,.ref 399,.int 153 0,.int 0 0,.ref 406,.int 160 0,.int 0 0,.ref 411,.int 167 0,.int 0 0,.ref 416,.int 180 0,.int 0 0,.ref 423,.int 193 0,.int 0 0,.ref 430,.int 205 0,.int 0 0,.ref 435,.int 216 0,.int 0 0,.ref 442,.int 224 0,.int 0 0,.ref 449,.int 231 0,.int 0 0,.ref 456,.int 238 0,.int 0 0,.ref 461,.int 256 0,.int 0 0,.ref 468,.int 267 0,.int 0 0,.ref 473]) #[],
cO "<module>" 182 "<module>" 183 184 1 0 0 0 0 11 false 12 .none .none .none .none 185 1 186,
.mk (.type "frame") none .plain #[some (.ref 13),some (.ref 3),some (.ref 3),none,some (.str "__main__" 164),none,some (.ref 0)],
.mk (.type "builtin_function_or_method") none (.fields #[.builtin "type.__prepare__",.type "type"]) #[],
dO #[dE P "__module__" 196 (.str "papervault.errors" 187),dE P "__qualname__" 198 (.str "VaultError" 197),dE P "__firstlineno__" 200 (.int 2 199),dE P "__static_attributes__" 201 (.ref 22)] 4,
boot_o_7 P,
boot_o_8 P,
cO "VaultError" 191 "VaultError" 192 193 2 0 0 0 0 18 false 19 .none .none .none .none 194 2 195,
.mk (.type "frame") none .plain #[some (.ref 20),some (.ref 3),some (.ref 17),none,some (.str "papervault.errors" 187),none,some (.ref 0)],
.mk (.type "super") none (.fields #[.ref 24,.ref 24,.ref 24]) #[],
.mk (.type "builtin_function_or_method") none (.fields #[.builtin "object.__init_subclass__",.ref 24]) #[],
.mk (.type "builtin_function_or_method") none (.fields #[.builtin "type.__prepare__",.type "type"]) #[],
dO #[dE P "__module__" 214 (.str "papervault.errors" 187),dE P "__qualname__" 216 (.str "NoThing" 215),dE P "__firstlineno__" 218 (.int 4 217),dE P "__static_attributes__" 219 (.ref 35)] 4,
boot_o_7 P,
boot_o_8 P,
cO "NoThing" 209 "NoThing" 210 211 4 0 0 0 0 31 false 32 .none .none .none .none 212 4 213,
.mk (.type "frame") none .plain #[some (.ref 33),some (.ref 3),some (.ref 30),none,some (.str "papervault.errors" 187),none,some (.ref 0)],
.mk (.type "super") none (.fields #[.ref 37,.ref 37,.ref 37]) #[],
.mk (.type "builtin_function_or_method") none (.fields #[.builtin "object.__init_subclass__",.ref 37]) #[],
.mk (.type "builtin_function_or_method") none (.fields #[.builtin "type.__prepare__",.type "type"]) #[],
dO #[dE P "__module__" 230 (.str "papervault.errors" 187),dE P "__qualname__" 232 (.str "NoPaper" 231),dE P "__firstlineno__" 234 (.int 6 233),dE P "__static_attributes__" 235 (.ref 47)] 4,
boot_o_7 P,
boot_o_8 P,
cO "NoPaper" 225 "NoPaper" 226 227 6 0 0 0 0 43 false 44 .none .none .none .none 228 6 229,
.mk (.type "frame") none .plain #[some (.ref 45),some (.ref 3),some (.ref 42),none,some (.str "papervault.errors" 187),none,some (.ref 0)],
.mk (.type "super") none (.fields #[.ref 49,.ref 49,.ref 49]) #[],
.mk (.type "builtin_function_or_method") none (.fields #[.builtin "object.__init_subclass__",.ref 49]) #[],
.mk (.type "builtin_function_or_method") none (.fields #[.builtin "type.__prepare__",.type "type"]) #[],
dO #[dE P "__module__" 246 (.str "papervault.errors" 187),dE P "__qualname__" 248 (.str "BadThing" 247),dE P "__firstlineno__" 250 (.int 8 249),dE P "__static_attributes__" 251 (.ref 59)] 4,
boot_o_7 P,
boot_o_8 P,
cO "BadThing" 241 "BadThing" 242 243 8 0 0 0 0 55 false 56 .none .none .none .none 244 8 245,
.mk (.type "frame") none .plain #[some (.ref 57),some (.ref 3),some (.ref 54),none,some (.str "papervault.errors" 187),none,some (.ref 0)],
.mk (.type "super") none (.fields #[.ref 61,.ref 61,.ref 61]) #[],
.mk (.type "builtin_function_or_method") none (.fields #[.builtin "object.__init_subclass__",.ref 61]) #[],
.mk (.type "builtin_function_or_method") none (.fields #[.builtin "type.__prepare__",.type "type"]) #[],
dO #[dE P "__module__" 262 (.str "papervault.errors" 187),dE P "__qualname__" 264 (.str "Clash" 263),dE P "__firstlineno__" 266 (.int 10 265),dE P "__init__" 275 (.ref 77),dE P "__static_attributes__" 278 (.ref 78)] 5,
boot_o_7 P,
.mk .none none (.fields #[.int 12 0,.int 4 0,.ref 76]) #[],
cO "Clash" 257 "Clash" 258 259 10 0 0 0 0 67 false 68 .none .none .none .none 260 10 261,
.mk (.type "frame") none .plain #[some (.ref 69),some (.ref 3),some (.ref 66),none,some (.str "papervault.errors" 187),none,some (.ref 0)],
boot_o_8 P,
f0 "__init__" "Clash.__init__" (L2.inClass (Pv.top 5) 0),
.mk (.type "super") none (.fields #[.ref 80,.ref 80,.ref 80]) #[],
.mk (.type "builtin_function_or_method") none (.fields #[.builtin "object.__init_subclass__",.ref 80]) #[],
.mk (.type "builtin_function_or_method") none (.fields #[.builtin "type.__prepare__",.type "type"]) #[],
dO #[dE P "__module__" 289 (.str "papervault.errors" 187),dE P "__qualname__" 291 (.str "NotOn" 290),dE P "__firstlineno__" 293 (.int 15 292),dE P "__static_attributes__" 294 (.ref 90)] 4,
boot_o_7 P,
boot_o_8 P,
cO "NotOn" 284 "NotOn" 285 286 15 0 0 0 0 86 false 87 .none .none .none .none 287 15 288,
.mk (.type "frame") none .plain #[some (.ref 88),some (.ref 3),some (.ref 85),none,some (.str "papervault.errors" 187),none,some (.ref 0)],
.mk (.type "super") none (.fields #[.ref 92,.ref 92,.ref 92]) #[],
.mk (.type "builtin_function_or_method") none (.fields #[.builtin "object.__init_subclass__",.ref 92]) #[],
.mk (.type "builtin_function_or_method") none (.fields #[.builtin "type.__prepare__",.type "type"]) #[],
dO #[dE P "__module__" 305 (.str "papervault.errors" 187),dE P "__qualname__" 307 (.str "NoState" 306),dE P "__firstlineno__" 309 (.int 17 308),dE P "__static_attributes__" 310 (.ref 102)] 4,
boot_o_7 P,
boot_o_8 P,
cO "NoState" 300 "NoState" 301 302 17 0 0 0 0 98 false 99 .none .none .none .none 303 17 304,
.mk (.type "frame") none .plain #[some (.ref 100),some (.ref 3),some (.ref 97),none,some (.str "papervault.errors" 187),none,some (.ref 0)],
.mk (.type "super") none (.fields #[.ref 104,.ref 104,.ref 104]) #[],
.mk (.type "builtin_function_or_method") none (.fields #[.builtin "object.__init_subclass__",.ref 104]) #[],
.mk (.type "builtin_function_or_method") none (.fields #[.builtin "type.__prepare__",.type "type"]) #[],
dO #[dE P "__module__" 321 (.str "papervault.errors" 187),dE P "__qualname__" 323 (.str "NoName" 322),dE P "__firstlineno__" 325 (.int 19 324),dE P "__static_attributes__" 326 (.ref 114)] 4,
boot_o_7 P,
boot_o_8 P,
cO "NoName" 316 "NoName" 317 318 19 0 0 0 0 110 false 111 .none .none .none .none 319 19 320,
.mk (.type "frame") none .plain #[some (.ref 112),some (.ref 3),some (.ref 109),none,some (.str "papervault.errors" 187),none,some (.ref 0)],
.mk (.type "super") none (.fields #[.ref 116,.ref 116,.ref 116]) #[],
.mk (.type "builtin_function_or_method") none (.fields #[.builtin "object.__init_subclass__",.ref 116]) #[],
.mk (.type "builtin_function_or_method") none (.fields #[.builtin "type.__prepare__",.type "type"]) #[],
dO #[dE P "__module__" 337 (.str "papervault.errors" 187),dE P "__qualname__" 339 (.str "NoTable" 338),dE P "__firstlineno__" 341 (.int 21 340),dE P "__static_attributes__" 342 (.ref 126)] 4,
boot_o_7 P,
boot_o_8 P,
cO "NoTable" 332 "NoTable" 333 334 21 0 0 0 0 122 false 123 .none .none .none .none 335 21 336,
.mk (.type "frame") none .plain #[some (.ref 124),some (.ref 3),some (.ref 121),none,some (.str "papervault.errors" 187),none,some (.ref 0)],
.mk (.type "super") none (.fields #[.ref 128,.ref 128,.ref 128]) #[],
.mk (.type "builtin_function_or_method") none (.fields #[.builtin "object.__init_subclass__",.ref 128]) #[],
.mk (.type "builtin_function_or_method") none (.fields #[.builtin "type.__prepare__",.type "type"]) #[],
dO #[dE P "__module__" 353 (.str "papervault.errors" 187),dE P "__qualname__" 355 (.str "NoColumn" 354),dE P "__firstlineno__" 357 (.int 23 356),dE P "__static_attributes__" 358 (.ref 138)] 4,
boot_o_7 P,
boot_o_8 P,
cO "NoColumn" 348 "NoColumn" 349 350 23 0 0 0 0 134 false 135 .none .none .none .none 351 23 352,
.mk (.type "frame") none .plain #[some (.ref 136),some (.ref 3),some (.ref 133),none,some (.str "papervault.errors" 187),none,some (.ref 0)],
.mk (.type "super") none (.fields #[.ref 140,.ref 140,.ref 140]) #[],
.mk (.type "builtin_function_or_method") none (.fields #[.builtin "object.__init_subclass__",.ref 140]) #[],
.mk (.type "builtin_function_or_method") none (.fields #[.builtin "type.__prepare__",.type "type"]) #[],
dO #[dE P "__module__" 369 (.str "papervault.errors" 187),dE P "__qualname__" 371 (.str "NoRow" 370),dE P "__firstlineno__" 373 (.int 25 372),dE P "__static_attributes__" 374 (.ref 150)] 4,
boot_o_7 P,
boot_o_8 P,
cO "NoRow" 364 "NoRow" 365 366 25 0 0 0 0 146 false 147 .none .none .none .none 367 25 368,
.mk (.type "frame") none .plain #[some (.ref 148),some (.ref 3),some (.ref 145),none,some (.str "papervault.errors" 187),none,some (.ref 0)],
.mk (.type "super") none (.fields #[.ref 152,.ref 152,.ref 152]) #[],
.mk (.type "builtin_function_or_method") none (.fields #[.builtin "object.__init_subclass__",.ref 152]) #[],
.mk (.type "builtin_function_or_method") none (.fields #[.builtin "type.__prepare__",.type "type"]) #[],
dO #[dE P "__module__" 385 (.str "papervault.errors" 187),dE P "__qualname__" 387 (.str "NoQuestion" 386),dE P "__firstlineno__" 389 (.int 27 388),dE P "__static_attributes__" 390 (.ref 162)] 4,
boot_o_7 P,
boot_o_8 P,
cO "NoQuestion" 380 "NoQuestion" 381 382 27 0 0 0 0 158 false 159 .none .none .none .none 383 27 384,
.mk (.type "frame") none .plain #[some (.ref 160),some (.ref 3),some (.ref 157),none,some (.str "papervault.errors" 187),none,some (.ref 0)],
.mk (.type "super") none (.fields #[.ref 164,.ref 164,.ref 164]) #[],
.mk (.type "builtin_function_or_method") none (.fields #[.builtin "object.__init_subclass__",.ref 164]) #[],
.mk (.type "builtin_function_or_method") none (.fields #[.builtin "type.__prepare__",.type "type"]) #[],
dO #[dE P "__module__" 401 (.str "papervault.errors" 187),dE P "__qualname__" 403 (.str "NoPlan" 402),dE P "__firstlineno__" 405 (.int 29 404),dE P "__static_attributes__" 406 (.ref 174)] 4,
boot_o_7 P,
boot_o_8 P,
cO "NoPlan" 396 "NoPlan" 397 398 29 0 0 0 0 170 false 171 .none .none .none .none 399 29 400,
.mk (.type "frame") none .plain #[some (.ref 172),some (.ref 3),some (.ref 169),none,some (.str "papervault.errors" 187),none,some (.ref 0)],
.mk (.type "super") none (.fields #[.ref 176,.ref 176,.ref 176]) #[],
.mk (.type "builtin_function_or_method") none (.fields #[.builtin "object.__init_subclass__",.ref 176]) #[],
.mk (.type "builtin_function_or_method") none (.fields #[.builtin "type.__prepare__",.type "type"]) #[],
dO #[dE P "__module__" 417 (.str "papervault.errors" 187),dE P "__qualname__" 419 (.str "NoStep" 418),dE P "__firstlineno__" 421 (.int 31 420),dE P "__static_attributes__" 422 (.ref 186)] 4,
boot_o_7 P,
boot_o_8 P,
cO "NoStep" 412 "NoStep" 413 414 31 0 0 0 0 182 false 183 .none .none .none .none 415 31 416,
.mk (.type "frame") none .plain #[some (.ref 184),some (.ref 3),some (.ref 181),none,some (.str "papervault.errors" 187),none,some (.ref 0)],
.mk (.type "super") none (.fields #[.ref 188,.ref 188,.ref 188]) #[],
.mk (.type "builtin_function_or_method") none (.fields #[.builtin "object.__init_subclass__",.ref 188]) #[],
.mk (.type "builtin_function_or_method") none (.fields #[.builtin "type.__prepare__",.type "type"]) #[],
dO #[dE P "__module__" 433 (.str "papervault.errors" 187),dE P "__qualname__" 435 (.str "NotSo" 434),dE P "__firstlineno__" 437 (.int 33 436),dE P "__static_attributes__" 438 (.ref 198)] 4,
boot_o_7 P,
boot_o_8 P,
cO "NotSo" 428 "NotSo" 429 430 33 0 0 0 0 194 false 195 .none .none .none .none 431 33 432,
.mk (.type "frame") none .plain #[some (.ref 196),some (.ref 3),some (.ref 193),none,some (.str "papervault.errors" 187),none,some (.ref 0)],
.mk (.type "super") none (.fields #[.ref 200,.ref 200,.ref 200]) #[],
.mk (.type "builtin_function_or_method") none (.fields #[.builtin "object.__init_subclass__",.ref 200]) #[],
.mk (.type "builtin_function_or_method") none (.fields #[.builtin "type.__prepare__",.type "type"]) #[],
dO #[dE P "__module__" 449 (.str "papervault.errors" 187),dE P "__qualname__" 451 (.str "NoCommand" 450),dE P "__firstlineno__" 453 (.int 35 452),dE P "__static_attributes__" 454 (.ref 210)] 4,
boot_o_7 P,
boot_o_8 P,
cO "NoCommand" 444 "NoCommand" 445 446 35 0 0 0 0 206 false 207 .none .none .none .none 447 35 448,
.mk (.type "frame") none .plain #[some (.ref 208),some (.ref 3),some (.ref 205),none,some (.str "papervault.errors" 187),none,some (.ref 0)],
.mk (.type "super") none (.fields #[.ref 212,.ref 212,.ref 212]) #[],
.mk (.type "builtin_function_or_method") none (.fields #[.builtin "object.__init_subclass__",.ref 212]) #[],
boot_o_8 P,
f0 "seal" "seal" (Pv.top 18),
boot_o_8 P,
f0 "codes" "codes" (Pv.top 19),
boot_o_8 P,
f0 "number_of" "number_of" (Pv.top 20),
boot_o_8 P,
f0 "is_whole" "is_whole" (Pv.top 26),
boot_o_8 P,
f0 "is_thing" "is_thing" (Pv.top 27),
boot_o_8 P,
f0 "is_thing_within" "is_thing_within" (Pv.top 28),
boot_o_8 P,
f0 "is_tuple_within" "is_tuple_within" (Pv.top 29),
boot_o_8 P,
f0 "has_signs_of_things" "has_signs_of_things" (Pv.top 30),
boot_o_8 P,
f0 "rising" "rising" (Pv.top 32),
boot_o_7 P,
.mk (.type "builtin_function_or_method") none (.fields #[.builtin "type.__prepare__",.type "type"]) #[],
dO #[dE P "__module__" 548 (.str "papervault.vaults" 533),dE P "__qualname__" 550 (.str "Vault" 549),dE P "__firstlineno__" 552 (.int 93 551),dE P "__init__" 559 (.ref 287),dE P "refuse_clash" 568 (.ref 294),dE P "lay" 577 (.ref 301),dE P "thing" 585 (.ref 308),dE P "__static_attributes__" 587 (.ref 309)] 8,
boot_o_7 P,
.mk .none none (.fields #[.int 95 0,.int 4 0,.ref 286,.int 98 0,.int 4 0,.ref 293,.int 102 0,.int 4 0,.ref 300,.int 108 0,.int 4 0,.ref 307]) #[],
cO "Vault" 543 "Vault" 544 545 93 0 0 0 0 277 false 278 .none .none .none .none 546 93 547,
.mk (.type "frame") none .plain #[some (.ref 279),some (.ref 3),some (.ref 276),none,some (.str "papervault.vaults" 533),none,some (.ref 0)],
boot_o_8 P,
f0 "__init__" "Vault.__init__" (L2.inClass (Pv.top 33) 0),
boot_o_8 P,
f0 "refuse_clash" "Vault.refuse_clash" (L2.inClass (Pv.top 33) 1),
boot_o_8 P,
f0 "lay" "Vault.lay" (L2.inClass (Pv.top 33) 2),
boot_o_8 P,
f0 "thing" "Vault.thing" (L2.inClass (Pv.top 33) 3),
.mk (.type "super") none (.fields #[.ref 311,.ref 311,.ref 311]) #[],
.mk (.type "builtin_function_or_method") none (.fields #[.builtin "object.__init_subclass__",.ref 311]) #[],
.mk (.type "builtin_function_or_method") none (.fields #[.builtin "type.__prepare__",.type "type"]) #[],
dO #[dE P "__module__" 602 (.str "papervault.vaults" 533),dE P "__qualname__" 604 (.str "Keeper" 603),dE P "__firstlineno__" 606 (.int 112 605),dE P "things" 613 (.ref 329),dE P "__static_attributes__" 614 (.ref 330)] 5,
boot_o_7 P,
.mk .none none (.fields #[.int 114 0,.int 4 0,.ref 328]) #[],
cO "Keeper" 597 "Keeper" 598 599 112 0 0 0 0 319 false 320 .none .none .none .none 600 112 601,
.mk (.type "frame") none .plain #[some (.ref 321),some (.ref 3),some (.ref 318),none,some (.str "papervault.vaults" 533),none,some (.ref 0)],
boot_o_8 P,
f0 "things" "Keeper.things" (L2.inClass (Pv.top 34) 0),
.mk (.type "super") none (.fields #[.ref 332,.ref 332,.ref 332]) #[],
.mk (.type "builtin_function_or_method") none (.fields #[.builtin "object.__init_subclass__",.ref 332]) #[],
.mk (.type "builtin_function_or_method") none (.fields #[.builtin "type.__prepare__",.type "type"]) #[],
dO #[dE P "__module__" 625 (.str "papervault.vaults" 533),dE P "__qualname__" 627 (.str "Reader" 626),dE P "__firstlineno__" 629 (.int 116 628),dE P "__init__" 637 (.ref 348),dE P "lay" 646 (.ref 355),dE P "thing" 655 (.ref 362),dE P "paper" 662 (.ref 369),dE P "__static_attributes__" 665 (.ref 370)] 8,
boot_o_7 P,
.mk .none none (.fields #[.int 118 0,.int 4 0,.ref 347,.int 123 0,.int 4 0,.ref 354,.int 130 0,.int 4 0,.ref 361,.int 137 0,.int 4 0,.ref 368]) #[],
cO "Reader" 620 "Reader" 621 622 116 0 0 0 0 338 false 339 .none .none .none .none 623 116 624,
.mk (.type "frame") none .plain #[some (.ref 340),some (.ref 3),some (.ref 337),none,some (.str "papervault.vaults" 533),none,some (.ref 0)],
boot_o_8 P,
f0 "__init__" "Reader.__init__" (L2.inClass (Pv.top 35) 0),
boot_o_8 P,
f0 "lay" "Reader.lay" (L2.inClass (Pv.top 35) 1),
boot_o_8 P,
f0 "thing" "Reader.thing" (L2.inClass (Pv.top 35) 2),
boot_o_8 P,
f0 "paper" "Reader.paper" (L2.inClass (Pv.top 35) 3),
.mk (.type "super") none (.fields #[.ref 372,.ref 372,.ref 372]) #[],
.mk (.type "builtin_function_or_method") none (.fields #[.builtin "object.__init_subclass__",.ref 372]) #[],
.mk (.type "builtin_function_or_method") none (.fields #[.builtin "type.__prepare__",.type "type"]) #[],
dO #[dE P "__module__" 676 (.str "papervault.vaults" 533),dE P "__qualname__" 678 (.str "Witness" 677),dE P "__firstlineno__" 680 (.int 139 679),dE P "__init__" 689 (.ref 388),dE P "__static_attributes__" 690 (.ref 389)] 5,
boot_o_7 P,
.mk .none none (.fields #[.int 141 0,.int 4 0,.ref 387]) #[],
cO "Witness" 671 "Witness" 672 673 139 0 0 0 0 378 false 379 .none .none .none .none 674 139 675,
.mk (.type "frame") none .plain #[some (.ref 380),some (.ref 3),some (.ref 377),none,some (.str "papervault.vaults" 533),none,some (.ref 0)],
boot_o_8 P,
f0 "__init__" "Witness.__init__" (L2.inClass (Pv.top 36) 0),
.mk (.type "super") none (.fields #[.ref 391,.ref 391,.ref 391]) #[],
.mk (.type "builtin_function_or_method") none (.fields #[.builtin "object.__init_subclass__",.ref 391]) #[],
boot_o_8 P,
f0 "_law_row" "_law_row" (Pv.top 38),
boot_o_8 P,
f0 "_law_take" "_law_take" (Pv.top 39),
boot_o_8 P,
f0 "_law_text" "_law_text" (Pv.top 40),
boot_o_8 P,
f0 "_law_thing" "_law_thing" (Pv.top 41),
boot_o_8 P,
f0 "_law_same" "_law_same" (Pv.top 42),
boot_o_8 P,
f0 "_law_pair" "_law_pair" (Pv.top 43),
boot_o_8 P,
f0 "_law_unlike" "_law_unlike" (Pv.top 44),
boot_o_8 P,
f0 "_law_caught" "_law_caught" (Pv.top 45),
boot_o_8 P,
f0 "_law_refused" "_law_refused" (Pv.top 46),
boot_o_8 P,
f0 "_law_no_witness" "_law_no_witness" (Pv.top 47),
boot_o_8 P,
f0 "_law_of_readers" "_law_of_readers" (Pv.top 48),
boot_o_8 P,
f0 "_law_of_vaults" "_law_of_vaults" (Pv.top 49),
boot_o_8 P,
f0 "law" "law" (Pv.top 50)]
def FL:List Obj:=wv [2,2,11,1,6,4,2,1,6,3,2,1,6,3,2,1,6,3,2,1,6,1,1,2,1,5,2,1,6,3,2,1,6,3,2,1,6,3,2,1,6,3,2,1,6,3,2,1,6,3,2,1,6,3,2,1,6,3,2,1,6,3,2,1,6,3,2,1,6,3,2,1,1,2,1,3,2,3,1,2,1,3,1,2,1,3,1,2,1,3,1,2,1,3,1,2,1,3,1,2,1,3,2,2,7,1,1,2,1,3,1,2,1,3,1,2,1,3,1,2,1,7,2,1,6,1,1,2,1,5,2,1,6,1,1,2,1,3,1,2,1,3,1,2,1,3,1,2,1,5,2,1,6,1,1,2,1,5,2,1,1,2,1,3,1,2,1,3,2,3,2,3,1,2,1,3,1,2,1,3,2,3,1,2,1,3,1,2,1,3,1,2,1,3,2,3,1,2,1,3,2,2] (OL P) ((KK P).map (·.2))
def T0:BT:=bt 12 ((((FL P).take 15).set 3 (oo0 P)).set 12 (boot_o_8 P))
def T1:BT:=bt 12 (((((FL P).take 119).set 3 (oo1 P)).set 12 (oo2 P)).set 24 (oo3 P))
def T2:BT:=bt 12 ((((FL P).take 227).set 3 (oo4 P)).set 12 (oo5 P))
def T3:BT:=bt 12 ((((FL P).take 470).set 3 (oo6 P)).set 12 (oo7 P))
def T4:BT:=bt 12 (FL P)
def HF:Heap:={objs:=⟨FL P⟩}
end
noncomputable def VQ:Program:={PySem.Challenge.pw_papervault_k22_clashes_refused with main:={PySem.Challenge.pw_papervault_k22_clashes_refused.main with body:=[top 1,top 2,top 3,top 4,top 5,top 6,top 7,top 8,top 9,top 10,top 11,top 12,top 13,top 14,top 15,top 16,top 18,top 19,top 20,top 22,top 23,top 24,top 25,top 26,top 27,top 28,top 29,top 30,top 32,top 33,top 34,top 35,top 36,top 38,top 39,top 40,top 41,top 42,top 43,top 44,top 45,top 46,top 47,top 48,top 49,top 50]}}
noncomputable abbrev RQ:OpenRow:=OpenLaw.row PySem.Challenge.rw_papervault_k22_clashes_refused
noncomputable def EV:Env:={scope:=RQ.prog.main.scope,locals:=mainNs,globals:=mainNs,cells:=[],code:=.ref 13,frame:=some 14}
noncomputable abbrev BQ:List Stmt:=behindTheImports RQ.prog
noncomputable abbrev CQ:Code:=.body BQ EV
noncomputable abbrev TQ:List Frame:=[topFrame ⟨0,0,0,0⟩]
noncomputable abbrev ST (t:BT)(n k:Nat)(os:OsState):SharedT:=⟨t,n,{}, #[],{},k,os⟩
private theorem go0 (w:World):(fun os=>topGo treeTable RQ.prog w 11 (some (.ref 6)) 12 {heap:=boot_heap w.params,drawn:=boot_drawn,toks:=boot_toks,os:=os} (topStub RQ.prog))=fun os=>some ((ST (T0 w.params) 15 187 os).abs,⟨denote treeTable CQ,CQ,⟨0,0,0,0⟩,TQ⟩):=by kernel_rfl
private theorem go1 (w:World):(fun os=>segRun treeTable RQ.prog w 11 (some (.ref 6)) 1 1 (ST (T0 w.params) 15 187 os).abs (blockOf BQ EV CQ ⟨0,0,0,0⟩ TQ))=fun os=>some (Flow.next,(ST (T0 w.params) 15 187 os).abs,CQ,⟨0,0,0,0⟩):=by kernel_rfl
private theorem pc1 (w:World):(fun os=>PySem.W.Fast.tw10110043849684766642 PySem.W.Fast.tw14364793385576792824 RQ.prog w 11 (some (.ref 6)) 1 1737 (ST (T0 w.params) 15 187 os) (piecesOf (BQ.take 9) EV CQ ⟨0,0,0,0⟩ TQ))=fun os=>some (Flow.next,ST (T1 w.params) 119 330 os,CQ,⟨19,0,20,8⟩):=by kernel_rfl
private theorem sg1 (w:World)(os:OsState):segRunT treeTable RQ.prog w 11 (some (.ref 6)) 1 1737 (ST (T0 w.params) 15 187 os) (piecesOf (BQ.take 9) EV CQ ⟨0,0,0,0⟩ TQ)=some (Flow.next,ST (T1 w.params) 119 330 os,CQ,⟨19,0,20,8⟩):=by
 rw [PySem.W.Fast.te10110043849684766642,PySem.W.Fast.te14364793385576792824]
 exact congrFun (pc1 w) os
private theorem pc2 (w:World):(fun os=>PySem.W.Fast.tw10110043849684766642 PySem.W.Fast.tw14364793385576792824 RQ.prog w 11 (some (.ref 6)) 1 1789 (ST (T1 w.params) 119 330 os) (piecesOf ((BQ.drop 9).take 11) EV CQ ⟨19,0,20,8⟩ TQ))=fun os=>some (Flow.next,ST (T2 w.params) 227 475 os,CQ,⟨43,0,55,14⟩):=by kernel_rfl
private theorem sg2 (w:World)(os:OsState):segRunT treeTable RQ.prog w 11 (some (.ref 6)) 1 1789 (ST (T1 w.params) 119 330 os) (piecesOf ((BQ.drop 9).take 11) EV CQ ⟨19,0,20,8⟩ TQ)=some (Flow.next,ST (T2 w.params) 227 475 os,CQ,⟨43,0,55,14⟩):=by
 rw [PySem.W.Fast.te10110043849684766642,PySem.W.Fast.te14364793385576792824]
 exact congrFun (pc2 w) os
private theorem pc3 (w:World):(fun os=>PySem.W.Fast.tw10110043849684766642 PySem.W.Fast.tw14364793385576792824 RQ.prog w 11 (some (.ref 6)) 1 1818 (ST (T2 w.params) 227 475 os) (piecesOf (((BQ.drop 9).drop 11).take 30) EV CQ ⟨43,0,55,14⟩ TQ))=fun os=>some (Flow.next,ST (T3 w.params) 470 801 os,CQ,⟨256,0,266,51⟩):=by kernel_rfl
private theorem sg3 (w:World)(os:OsState):segRunT treeTable RQ.prog w 11 (some (.ref 6)) 1 1818 (ST (T2 w.params) 227 475 os) (piecesOf (((BQ.drop 9).drop 11).take 30) EV CQ ⟨43,0,55,14⟩ TQ)=some (Flow.next,ST (T3 w.params) 470 801 os,CQ,⟨256,0,266,51⟩):=by
 rw [PySem.W.Fast.te10110043849684766642,PySem.W.Fast.te14364793385576792824]
 exact congrFun (pc3 w) os
private theorem pc4 (w:World):(fun os=>PySem.W.Fast.tw10110043849684766642 PySem.W.Fast.tw14364793385576792824 RQ.prog w 11 (some (.ref 6)) 1 35 (ST (T3 w.params) 470 801 os) (piecesOf ((((BQ.drop 9).drop 11).drop 30).take 1) EV CQ ⟨256,0,266,51⟩ TQ))=fun os=>some (Flow.next,ST (T4 w.params) 475 807 os,CQ,⟨267,0,281,15⟩):=by kernel_rfl
private theorem sg4 (w:World)(os:OsState):segRunT treeTable RQ.prog w 11 (some (.ref 6)) 1 35 (ST (T3 w.params) 470 801 os) (piecesOf ((((BQ.drop 9).drop 11).drop 30).take 1) EV CQ ⟨256,0,266,51⟩ TQ)=some (Flow.next,ST (T4 w.params) 475 807 os,CQ,⟨267,0,281,15⟩):=by
 rw [PySem.W.Fast.te10110043849684766642,PySem.W.Fast.te14364793385576792824]
 exact congrFun (pc4 w) os
noncomputable abbrev SF (w:World)(os:OsState):Shared:={heap:=HF w.params,toks:=807,os:=os}
private theorem goN (w:World):(fun os=>topRun treeTable RQ.prog w 11 (some (.ref 6)) 3 (ST (T4 w.params) 475 807 os).abs ⟨doneF Flow.next,CQ,⟨267,0,281,15⟩,TQ⟩)=fun os=>some (SF w os):=by kernel_rfl
private theorem goE:((((BQ.drop 9).drop 11).drop 30).drop 1)=[]:=by kernel_rfl
private theorem goA {w:World}{N:Nat}{s r:Shared}{b:List Stmt}{q:Pos}(k:Nat)(h:topRun treeTable RQ.prog w 11 (some (.ref 6)) N s (restOf (b.take k++b.drop k) EV CQ q TQ)=some r):topRun treeTable RQ.prog w 11 (some (.ref 6)) N s (restOf b EV CQ q TQ)=some r:=by rwa [List.take_append_drop] at h
private theorem runs (w:World)(os:OsState):topRun treeTable RQ.prog w 11 (some (.ref 6)) (12+(1+(1737+(1789+(1818+(35+(3))))))) {heap:=boot_heap w.params,drawn:=boot_drawn,toks:=boot_toks,os:=os} (topStub RQ.prog)=some (SF w os):=by
 refine go_top (congrFun (go0 w) os) ?_
 refine piece_block (congrFun (go1 w) os) ?_
 refine goA 9 ?_
 refine piece_app (segRun_of (sg1 w os)) ?_
 refine goA 11 ?_
 refine piece_app (segRun_of (sg2 w os)) ?_
 refine goA 30 ?_
 refine piece_app (segRun_of (sg3 w os)) ?_
 refine goA 1 ?_
 refine piece_app (segRun_of (sg4 w os)) ?_
 rw [goE]
 exact piece_nil (congrFun (goN w) os)
noncomputable abbrev SQ (s:Shared):=PySem.W.Fast.tw4187177175401517315 VQ [] [] (fun s=>xlAt VQ [] s && recOk (RowW.records (OpenRow.toRowW RQ)) s) true s
private theorem mods0:[]=importedModules RQ.prog.main.body:=by kernel_rfl
private theorem opn (w:World):(fencedOpening treeTable RQ.prog w 5395).map (fun s=>(s.heap,s.gens,s.drawn,s.toks))=some (boot_heap w.params, #[],boot_drawn,boot_toks):=by kernel_rfl
private theorem obs0 (w:World)(os:OsState):(staticsOk [] (boot_heap w.params) (HF w.params) && namesBound RQ.prog (HF w.params) && gensDone (SF w os) && laidKept (boot_heap w.params) (HF w.params))=true:=by kernel_rfl
private theorem obs1 (w:World)(os:OsState):(SQ (SF w os)).1=(openGood VQ []).1:=by kernel_rfl
private theorem obs2 (w:World)(os:OsState):(SQ (SF w os)).2.1=(openGood VQ []).2.1:=by kernel_rfl
private theorem obs3 (w:World)(os:OsState):(SQ (SF w os)).2.2.1=(openGood VQ []).2.2.1:=by kernel_rfl
private theorem obs4 (w:World)(os:OsState):(SQ (SF w os)).2.2.2.1=(openGood VQ []).2.2.2.1:=by kernel_rfl
private theorem obs5 (w:World)(os:OsState):(SQ (SF w os)).2.2.2.2.1=(openGood VQ []).2.2.2.2.1:=by kernel_rfl
private theorem obs6 (w:World)(os:OsState):(SQ (SF w os)).2.2.2.2.2=(openGood VQ []).2.2.2.2.2:=by kernel_rfl
private theorem obs7 (w:World):KA.map (HF w.params).get? =(KK w.params).map fun p=>some p.2:=by kernel_rfl
private theorem left:LeftO RQ.prog VQ [] (fun s=>xlAt VQ [] s && recOk (RowW.records (OpenRow.toRowW RQ)) s) (fun s=>KA.map s.heap.get?) (fun w=>(KK w.params).map fun p=>some p.2) 5395:=by
 refine LeftO.of_pieces (H₀:=boot_heap) (H₁:=HF) (gs₀:= #[]) (gs₁:= #[]) (d₀:=boot_drawn) (d₁:={}) (k₀:=boot_toks) (k₁:=807) (m₀:=11) (ann:=some (.ref 6)) (M:=12+(1+(1737+(1789+(1818+(35+(3))))))) opn (fun w=>by kernel_rfl) runs (by kernel_rfl) fun w=>funext fun os=>?_
 rw [←mods0]
 refine Prod.ext (obs0 w os) (Prod.ext ?_ (obs7 w))
 rw [PySem.W.Fast.te4187177175401517315]
 exact Prod.ext (obs1 w os) (Prod.ext (obs2 w os) (Prod.ext (obs3 w os) (Prod.ext (obs4 w os) (Prod.ext (obs5 w os) (obs6 w os)))))
private theorem addrs:∀P,KA=(KK P).map (·.1):=fun P=>by kernel_rfl
private theorem said:PySem.Challenge.rw_papervault_k22_clashes_refused.wellSaid=true:=by kernel_rfl
end Pv
namespace L2
open PySem PySem.Spec PyProof.Rows
def Quiet (o:Obj):Prop:=∃vs,o.data=.fields vs∧vs[2]? =some .none
def HndS (A:Around)(h:Heap):Prop:=A.handled=none∨∃e o,A.handled=some (.ref e)∧h.get? e=some o∧Quiet o
private theorem unchain_entry:entryFor table "proto.unchain" =some Builtin.«proto.unchain»:=by first | rfl | decide+kernel
private theorem raise_h {prog:Program}{w:World}{A:Around}{α:Type}{Q:α→Shared→Prop}{E:Value→Shared→Prop}{s:Shared}{a:Addr}{oa:Obj}{ws:Array Value}(hh:HndS A s.heap)(ga:s.heap.get? a=some oa)(hw:oa.data=.fields ws)(h3:2 < ws.size)
  (na:∀e,A.handled=some (.ref e)→e≠a)
  (k:∀h',(∀b o,b≠a→s.heap.get? b=some o→h'.get? b=some o)→(∃o,h'.get? a=some o∧o.cls=oa.cls)→E (.ref a) {s with heap:=h'}):
  wpAny (model prog w) A (raiseNew (α:=α) (.ref a)) Q E s:=by
 unfold raiseNew
 refine wpAny_bind (wpAny_handled ?_)
 rcases hh with hh | ⟨e,o,hh,ge,vs,hv,h2⟩
 ·rw [hh]
  exact wpAny_throw (k _ (fun b o _ q=>q) ⟨_,ga,rfl⟩)
 ·have ne:=na e hh
  rw [hh]
  have c:((Value.ref e) != (Value.ref a))=true:=by
   simp [bne_iff_ne,ne]
  dsimp only
  rw [if_pos c]
  refine wpAny_bind (wpAny_holding (runValue_entry unchain_entry ?_))
  unfold Builtin.«proto.unchain»
  refine wpAny_bind (wpAny_field ge hv h2 ?_)
  rw [if_pos (by rfl)]
  refine wpAny_pure ⟨_,rfl,?_⟩
  refine wpAny_bind ?_
  unfold updateField
  refine wpAny_bind (wpAny_load ga ?_)
  rw [hw]
  dsimp only
  rw [if_pos h3]
  refine wpAny_update ga ?_
  refine wpAny_throw (k _ (fun b o n q=>by rw [Heap.get?_update_ne _ _ _ _ n];exact q) ⟨_,Heap.get?_update_self _ ga (by obtain ⟨c,d,dt,sl⟩:=oa;dsimp only at hw;subst hw;rfl),?_⟩)
  obtain ⟨c,d,dt,sl⟩:=oa
  dsimp only at hw
  subst hw
  rfl
private theorem stop_h {prog:Program}{w:World}{A:Around}{α:Type}{Q:α→Shared→Prop}{E:Value→Shared→Prop}{s:Shared}(hh:HndS A s.heap)
  (h:∀(a:Addr) (h':Heap),(∃o,h'.get? a=some o∧o.cls=.type "StopIteration")→(∀b o,s.heap.get? b=some o→h'.get? b=some o)→E (.ref a) {s with heap:=h'}):
  wpAny (model prog w) A (Builtin.SmallTypes.stopIteration (α:=α)) Q E s:=by
 unfold Builtin.SmallTypes.stopIteration
 refine wpAny_bind ?_
 unfold newExc
 refine wpAny_bind (wpAny_newObj_type ?_)
 refine wpAny_bind (wpAny_of_eq rfl (wpAny_newObj_type ?_ (sizeOk_excFields _ _ _ _ _ _ _ _)))
 have up:∀b o,s.heap.get? b=some o→((s.heap.push {cls:=Value.type "tuple",data:=Data.seq #[]}).get? b=some o):=fun b o q=>Heap.get?_push_of_some _ q
 refine raise_h (oa:=_) (ws:=_) ?_ (Heap.get?_push_size _ rfl) rfl (by rw [Array.size_append];exact Nat.lt_of_lt_of_le (show 2 < 6 by decide) (Nat.le_add_right _ _)) (fun e he z=>?_) fun h' k1 k2=>?_
 ·rcases hh with hh | ⟨e,o,hh,ge,q⟩
  ·exact .inl hh
  ·exact .inr ⟨e,o,hh,Heap.get?_push_of_some _ (Heap.get?_push_of_some _ ge),q⟩
 ·rcases hh with hh | ⟨e',o,hh,ge,q⟩
  ·rw [hh] at he;cases he
  ·rw [hh] at he
   cases he
   have:=Heap.lt_size (up _ _ ge)
   rw [z] at this
   exact absurd this (Nat.lt_irrefl _)
 ·refine h _ h' k2 fun b o q=>k1 b o (fun z=>?_) (Heap.get?_push_of_some _ (up _ _ q))
  have:=Heap.lt_size (up _ _ q)
  rw [z] at this
  exact absurd this (Nat.lt_irrefl _)
private theorem stopped_h {prog:Program}{w:World}{A:Around}{s s1:Shared}{it:Addr}{α:Type}{P:α→Shared→Prop}{X:Value→Shared→Prop}(hh:HndS A s.heap)(nit:∀e,A.handled=some (.ref e)→e≠it)(hs:∃h1,s1={s with heap:=h1}∧Heap.ExtBut it s.heap h1)
  (hX:∀a h',Shared.TypeIs {s with heap:=h'} (.ref a) "StopIteration" →Heap.ExtBut it s.heap h'→X (.ref a) {s with heap:=h'}):
  wpAny (model prog w) A.in1 (Builtin.SmallTypes.stopIteration (α:=α)) P X s1:=by
 obtain ⟨h1,rfl,eb⟩:=hs
 refine stop_h ?_ fun a h' ty up=>hX a h' ?_ fun b o n q=>up b o (eb b o n q)
 ·rcases hh with hh | ⟨e,o,hh,ge,q⟩
  ·exact .inl hh
  ·exact .inr ⟨e,o,hh,eb e o (nit e hh) ge,q⟩
 ·obtain ⟨o,e,c⟩:=ty
  exact ⟨o,e,c⟩
private theorem list_end_h {prog:Program}{w:World}{A:Around}{E:Value→Shared→Prop}{s:Shared}{it l:Addr}{i:Nat}{items:Array Value}{Q:Option Value→Shared→Prop}(hh:HndS A s.heap)(hit:s.heap.IsListIter it l i)(hl:s.heap.IsList l items)(hx:items[i]? =none)
  (nit:∀e,A.handled=some (.ref e)→e≠it) (hQ:∀h',Heap.ExtBut it s.heap h'→Q none {s with heap:=h'}):wpAny (model prog w) A (pyNext (.ref it)) Q E s:=by
 obtain ⟨o,ho,hc,hd⟩:=id hit
 obtain ⟨ol,hol,cl,nl,hdl⟩:=hl
 unfold pyNext
 refine wpAny_bind (wpAny_attempt (wpAny_callSpecial?_slot hit.typeIs slot_listiter_next (wpAny_call_entry slot_listiter_next hit.typeIs entry_listiter_next ?_ (args_listiter_next _))))
 refine wpAny_bind (wpAny_of_eq rfl (wpAny_bind (wpAny_field ho hd rfl ?_)))
 refine wpAny_bind (wpAny_field ho hd rfl ?_)
 refine wpAny_bind (wpAny_seqItems hol hdl ?_)
 dsimp only
 rw [show items[(i:Int).toNat]? =none from hx]
 refine wpAny_bind (wpAny_rule (wpAny_bind (wpAny_setField ho hd (show 0 < 2 by decide) ?_)))
 exact stopped_h hh nit ⟨_,rfl,fun b o n q=>by rw [Heap.get?_update_ne _ _ _ _ n];exact q⟩ fun a h' ty eb=>wpAny_bind (wpAny_isInstance (b:=true) ty rfl (by rw [if_pos rfl];exact wpAny_pure (hQ h' eb)))
private theorem tuple_end_h {prog:Program}{w:World}{A:Around}{E:Value→Shared→Prop}{s:Shared}{it l:Addr}{i:Nat}{items:Array Value}{Q:Option Value→Shared→Prop}(hh:HndS A s.heap)(hit:s.heap.IsTupleIter it l i)(hl:s.heap.IsTuple l items)(hx:items[i]? =none)
  (nit:∀e,A.handled=some (.ref e)→e≠it) (hQ:∀h',Heap.ExtBut it s.heap h'→Q none {s with heap:=h'}):wpAny (model prog w) A (pyNext (.ref it)) Q E s:=by
 obtain ⟨o,ho,hc,hd⟩:=id hit
 obtain ⟨ol,hol,cl,nl,hdl⟩:=hl
 unfold pyNext
 refine wpAny_bind (wpAny_attempt (wpAny_callSpecial?_slot hit.typeIs slot_tupleiter_next (wpAny_call_entry slot_tupleiter_next hit.typeIs entry_tupleiter_next ?_ (args_tupleiter_next _))))
 refine wpAny_bind (wpAny_of_eq rfl (wpAny_bind (wpAny_field ho hd rfl ?_)))
 refine wpAny_bind (wpAny_field ho hd rfl ?_)
 refine wpAny_bind (wpAny_seqItems hol hdl ?_)
 dsimp only
 rw [show items[(i:Int).toNat]? =none from hx]
 refine wpAny_bind (wpAny_rule (wpAny_bind (wpAny_setField ho hd (show 0 < 2 by decide) ?_)))
 exact stopped_h hh nit ⟨_,rfl,fun b o n q=>by rw [Heap.get?_update_ne _ _ _ _ n];exact q⟩ fun a h' ty eb=>wpAny_bind (wpAny_isInstance (b:=true) ty rfl (by rw [if_pos rfl];exact wpAny_pure (hQ h' eb)))
private theorem range_end_h {prog:Program}{w:World}{A:Around}{E:Value→Shared→Prop}{s:Shared}{it:Addr}{x left step:Int}{Q:Option Value→Shared→Prop}(hh:HndS A s.heap)(hit:IsRangeIter s.heap it x left step)(hl:left≤0)
  (nit:∀e,A.handled=some (.ref e)→e≠it) (hQ:∀h',Heap.ExtBut it s.heap h'→Q none {s with heap:=h'}):wpAny (model prog w) A (pyNext (.ref it)) Q E s:=by
 unfold IsRangeIter at hit
 have ty:s.TypeIs (.ref it) "range_iterator" :=⟨_,hit,rfl⟩
 unfold pyNext
 refine wpAny_bind (wpAny_attempt (wpAny_callSpecial?_slot ty PySem.F.slot_range_iterator_next (wpAny_call_entry PySem.F.slot_range_iterator_next ty PySem.F.entry_range_iterator_next ?_ (PySem.F.args_range_iterator_next_1 _))))
 refine wpAny_bind (wpAny_of_eq rfl (wpAny_bind (wpAny_field (x:=rawInt x) hit rfl rfl ?_)))
 refine wpAny_bind (wpAny_field (x:=rawInt left) hit rfl rfl (wpAny_bind (wpAny_field (x:=rawInt step) hit rfl rfl ?_)))
 unfold rawInt
 dsimp only
 rw [if_pos hl]
 refine wpAny_bind (wpAny_rule (wpAny_bind ?_))
 exact stopped_h hh nit ⟨_,rfl,fun b o n q=>q⟩ fun a h' ty eb=>wpAny_bind (wpAny_isInstance (b:=true) ty rfl (by rw [if_pos rfl];exact wpAny_pure (hQ h' eb)))
private theorem ascii_end_h {prog:Program}{w:World}{A:Around}{E:Value→Shared→Prop}{s:Shared}{it:Addr}{x:Str}{t:Tok}{i:Nat}{Q:Option Value→Shared→Prop}(hh:HndS A s.heap)(hit:s.heap.IsStrIter it "str_ascii_iterator" x t i) (hx:x.cps[i]? =none)
  (nit:∀e,A.handled=some (.ref e)→e≠it) (hQ:∀h',Heap.ExtBut it s.heap h'→Q none {s with heap:=h'}):wpAny (model prog w) A (pyNext (.ref it)) Q E s:=by
 obtain ⟨o,ho,hc,hd⟩:=id hit
 have ty:s.TypeIs (.ref it) "str_ascii_iterator" :=⟨_,ho,hc⟩
 unfold pyNext
 refine wpAny_bind (wpAny_attempt (wpAny_callSpecial?_slot ty PySem.F.slot_str_ascii_iterator_next (wpAny_call_entry PySem.F.slot_str_ascii_iterator_next ty PySem.F.entry_str_ascii_iterator_next ?_ (PySem.F.args_str_ascii_iterator_next_1 _))))
 refine wpAny_bind (wpAny_of_eq rfl (wpAny_bind (wpAny_field (x:=Value.str x t) ho hd rfl ?_)))
 rw [if_neg (show¬(Value.str x t==Value.none)=true from Bool.false_ne_true)]
 refine wpAny_bind (wpAny_of_eq rfl (wpAny_bind (wpAny_field (x:=Value.int (i:Int) 0) ho hd rfl ?_)))
 dsimp only
 rw [show x.cps[(i:Int).toNat]? =none from hx]
 refine wpAny_bind (wpAny_rule (wpAny_bind (wpAny_setField ho hd (show 0 < 2 by decide) (wpAny_bind (wpAny_letGo ?_)))))
 exact stopped_h hh nit ⟨_,rfl,fun b o n q=>by rw [Heap.get?_update_ne _ _ _ _ n];exact q⟩ fun a h' ty eb=>wpAny_bind (wpAny_isInstance (b:=true) ty rfl (by rw [if_pos rfl];exact wpAny_pure (hQ h' eb)))
private theorem wide_end_h {prog:Program}{w:World}{A:Around}{E:Value→Shared→Prop}{s:Shared}{it:Addr}{x:Str}{t:Tok}{i:Nat}{Q:Option Value→Shared→Prop}(hh:HndS A s.heap)(hit:s.heap.IsStrIter it "str_iterator" x t i) (hx:x.cps[i]? =none)
  (nit:∀e,A.handled=some (.ref e)→e≠it) (hQ:∀h',Heap.ExtBut it s.heap h'→Q none {s with heap:=h'}):wpAny (model prog w) A (pyNext (.ref it)) Q E s:=by
 obtain ⟨o,ho,hc,hd⟩:=id hit
 have ty:s.TypeIs (.ref it) "str_iterator" :=⟨_,ho,hc⟩
 unfold pyNext
 refine wpAny_bind (wpAny_attempt (wpAny_callSpecial?_slot ty PySem.F.slot_str_iterator_next (wpAny_call_entry PySem.F.slot_str_iterator_next ty PySem.F.entry_str_iterator_next ?_ (PySem.F.args_str_iterator_next_1 _))))
 refine wpAny_bind (wpAny_of_eq rfl (wpAny_bind (wpAny_field (x:=Value.str x t) ho hd rfl ?_)))
 rw [if_neg (show¬(Value.str x t==Value.none)=true from Bool.false_ne_true)]
 refine wpAny_bind (wpAny_of_eq rfl (wpAny_bind (wpAny_field (x:=Value.int (i:Int) 0) ho hd rfl ?_)))
 dsimp only
 rw [show x.cps[(i:Int).toNat]? =none from hx]
 refine wpAny_bind (wpAny_rule (wpAny_bind (wpAny_setField ho hd (show 0 < 2 by decide) (wpAny_bind (wpAny_letGo ?_)))))
 exact stopped_h hh nit ⟨_,rfl,fun b o n q=>by rw [Heap.get?_update_ne _ _ _ _ n];exact q⟩ fun a h' ty eb=>wpAny_bind (wpAny_isInstance (b:=true) ty rfl (by rw [if_pos rfl];exact wpAny_pure (hQ h' eb)))
end L2
-- CHANGE:your row's module here,as the last of these rows
namespace L2
open PySem PySem.Spec PyProof.Rows
abbrev Key:=Sum Int Str
def keyIs:Key→Value→Bool
 | .inl k,v=>Value.isInt k v
 | .inr x,v=>Value.isStrOf x v
def keyH (w:World):Key→Int
 | .inl k=>hashInt k
 | .inr x=>hashStr w x
private theorem keyIs_shape:∀{k:Key} {v:Value},keyIs k v=true→(∃i t,k=Sum.inl i∧v=Value.int i t)∨(∃x t,k=Sum.inr x∧v=Value.str x t)
 | .inl i,v,h=>by
  obtain ⟨t,e⟩:=Value.isInt_shape (k:=i) (v:=v) h
  exact .inl ⟨i,t,rfl,e⟩
 | .inr x,v,h=>by
  obtain ⟨t,e⟩:=Value.isStrOf_shape (x:=x) (v:=v) h
  exact .inr ⟨x,t,rfl,e⟩
private theorem keyIs_int (i:Int)(t:Tok):keyIs (.inl i) (.int i t)=true:=by simp [keyIs,Value.isInt]
private theorem keyIs_str (x:Str)(t:Tok):keyIs (.inr x) (.str x t)=true:=by simp [keyIs,Value.isStrOf]
private theorem key_ll (a b:Int):decide ((Sum.inl a:Key)=Sum.inl b)=(a==b):=by
 by_cases e:a=b
 ·subst e;simp
 ·have h:¬(Sum.inl a:Key)=Sum.inl b:=fun q=>e (Sum.inl.inj q)
  rw [decide_eq_false h]
  exact (beq_eq_false_iff_ne.mpr e).symm
private theorem key_rr (a b:Str):decide ((Sum.inr a:Key)=Sum.inr b)=decide (a=b):=by
 by_cases e:a=b
 ·subst e;simp
 ·have h:¬(Sum.inr a:Key)=Sum.inr b:=fun q=>e (Sum.inr.inj q)
  rw [decide_eq_false h,decide_eq_false e]
private theorem key_lr (a:Int)(b:Str):decide ((Sum.inl a:Key)=Sum.inr b)=false:=decide_eq_false (fun q=>nomatch q)
private theorem key_rl (a:Str)(b:Int):decide ((Sum.inr a:Key)=Sum.inl b)=false:=decide_eq_false (fun q=>nomatch q)
def mixKind (prog:Program)(w:World):PySem.KeyKind prog w Key where
 is:=keyIs
 hash:=keyH w
 inj:=fun v a b ha hb=>by
  rcases keyIs_shape ha with ⟨i,t,rfl,rfl⟩ | ⟨x,t,rfl,rfl⟩
  ·rcases keyIs_shape hb with ⟨j,u,rfl,e⟩ | ⟨y,u,rfl,e⟩
   ·injection e with e1 _;rw [e1]
   ·exact nomatch e
  ·rcases keyIs_shape hb with ⟨j,u,rfl,e⟩ | ⟨y,u,rfl,e⟩
   ·exact nomatch e
   ·injection e with e1 _;rw [e1]
 byValue:=fun k v h=>by
  rcases keyIs_shape h with ⟨i,t,rfl,rfl⟩ | ⟨x,t,rfl,rfl⟩ <;> rfl
 pyHash:=fun hv h=>by
  rcases keyIs_shape hv with ⟨i,t,rfl,rfl⟩ | ⟨x,t,rfl,rfl⟩
  ·exact wpAny_pyHash_int h
  ·exact wpAny_pyHash_str h
 eqBool:=fun hu hv h=>by
  rcases keyIs_shape hu with ⟨i,t,rfl,rfl⟩ | ⟨x,t,rfl,rfl⟩
  ·rcases keyIs_shape hv with ⟨j,u,rfl,rfl⟩ | ⟨y,u,rfl,rfl⟩
   ·rw [key_ll] at h;exact wpAny_eqBool_int h
   ·rw [key_lr] at h;exact SeqAt.EqAt.int_str i t y u _ _ _ _ h
  ·rcases keyIs_shape hv with ⟨j,u,rfl,rfl⟩ | ⟨y,u,rfl,rfl⟩
   ·rw [key_rl] at h;exact SeqAt.EqAt.str_int x t j u _ _ _ _ h
   ·rw [key_rr] at h;exact wpAny_eqBool_str h
 «strs»:=fun k x t v h=>by
  rcases keyIs_shape h with ⟨i,u,rfl,e⟩ | ⟨y,u,rfl,e⟩
  ·exact nomatch e
  ·injection e with e1 _
   subst e1
   cases v <;> rfl
private theorem mixKind_int (prog:Program)(w:World)(i:Int)(t:Tok):(mixKind prog w).is (.inl i) (.int i t)=true:=keyIs_int i t
private theorem mixKind_str (prog:Program)(w:World)(x:Str)(t:Tok):(mixKind prog w).is (.inr x) (.str x t)=true:=keyIs_str x t
end L2
namespace L2
open PySem PySem.Spec PyProof.Rows
inductive V where
 | non | bl (b:Bool) | int (i:Int) | str (x:Str) | byt (b:Array UInt8) | flt (b:UInt64) | ref (a:Addr) | ty (n:String)
 deriving DecidableEq
def RelV:V→Value→Prop
 | .non,u=>u=Value.none
 | .bl b,u=>u=Value.bool b
 | .int i,u=>∃t,u=Value.int i t
 | .str x,u=>∃t,u=Value.str x t
 | .byt b,u=>∃t,u=Value.bytes b t
 | .flt b,u=>∃t,u=Value.float b t
 | .ref a,u=>u=Value.ref a
 | .ty n,u=>u=Value.type n
abbrev Vals:List V→List Value→Prop:=Paired RelV
private theorem Vals.length {xs:List V}{us:List Value}(r:Vals xs us):xs.length=us.length:=Paired.length r
private theorem Vals.get:∀{xs:List V} {us:List Value} {i:Nat} {x:V},Vals xs us→xs[i]? =some x→∃u,us[i]? =some u∧RelV x u
 | _,_,_,_,.nil,e=>by simp at e
 | _,_,0,_,.cons r _,e=>by simp at e;subst e;exact ⟨_,rfl,r⟩
 | _,_,i+1,x,.cons _ t,e=>by
  obtain ⟨u,h1,h2⟩:=Vals.get (i:=i) (x:=x) t (by simpa using e)
  exact ⟨u,by simpa using h1,h2⟩
private theorem Vals.set {x:V}{u:Value}(r:RelV x u):∀{xs:List V} {us:List Value} (i:Nat),Vals xs us→Vals (xs.set i x) (us.set i u)
 | _,_,_,.nil=>.nil
 | _,_,0,.cons _ t=>.cons r t
 | _,_,i+1,.cons q t=>.cons q (Vals.set r i t)
private theorem Vals.append:∀{xs ys:List V} {us ws:List Value},Vals xs us→Vals ys ws→Vals (xs++ys) (us++ws)
 | _,_,_,_,.nil,s=>s
 | _,_,_,_,.cons r t,s=>.cons r (Vals.append t s)
private theorem Vals.take:∀{xs:List V} {us:List Value} (n:Nat),Vals xs us→Vals (xs.take n) (us.take n)
 | _,_,0,_=>.nil
 | _,_,_+1,.nil=>.nil
 | _,_,n+1,.cons r t=>.cons r (Vals.take n t)
private theorem Vals.drop:∀{xs:List V} {us:List Value} (n:Nat),Vals xs us→Vals (xs.drop n) (us.drop n)
 | _,_,0,r=>r
 | _,_,_+1,.nil=>.nil
 | _,_,n+1,.cons _ t=>Vals.drop n t
def RelO:Option V→Option Value→Prop
 | some v,some u=>RelV v u
 | none,none=>True
 | _,_=>False
def KV {κ:Type}:List (κ ×V)→List (κ ×Value)→Prop:=Paired fun (p:κ ×V) (q:κ ×Value)=>p.1=q.1∧RelV p.2 q.2
def kV:Key→V
 | .inl i=>.int i
 | .inr x=>.str x
inductive HO where
 | lst (xs:List V)
 | tup (xs:List V)
 | dK (kvs:List (Key ×V)) | dT (kvs:List (List Key ×V))
 | set (S:Int→Bool) (n:Nat)
 | ins (C dx:Addr) (fs:List (Str ×V))
 | own (x:Addr)
 | xd (fs:List (Str ×V))
 | met (f x:Addr)
 | rng (lo hi:Int)
 | frz (o:Obj) (u:HO)
 | tbl (ps:Array Value)
 | ext (φ:Heap→Prop)
abbrev Hp:=Addr→Option HO
def upd (H:Hp)(a:Addr)(o:HO):Hp:=fun b=>if b=a then some o else H b
private theorem upd_same {H:Hp}{a:Addr}{o:HO}:upd H a o a=some o:=by unfold upd;rw [if_pos rfl]
private theorem upd_ne {H:Hp}{a b:Addr}{o:HO}(h:b≠a):upd H a o b=H b:=by unfold upd;rw [if_neg h]
private theorem upd_upd {H:Hp}{a:Addr}{o u:HO}:upd (upd H a o) a u=upd H a u:=by
 funext b;unfold upd;split <;> rfl
private theorem ne_of {H:Hp}{a b:Addr}{o u:HO}(h:H a=some o)(h':H b=some u)(d:o≠u):a≠b:=by
 intro e;subst e;rw [h] at h';exact d (Option.some.inj h')
private theorem ne_of_none {H:Hp}{a b:Addr}{o:HO}(h:H a=some o)(h':H b=none):a≠b:=by
 intro e;subst e;rw [h] at h';cases h'
section
variable (P:Program)(w:World)
def ObjOk (H:Hp)(h:Heap)(a:Addr):HO→Prop
 | .lst xs=>xs.length≤sizeLine∧∃(its:List Value) (n:Nat),Vals xs its∧h.get? a=some {cls:=.type "list",data:=.seq its.toArray n}
 | .tup xs=>xs.length≤sizeLine∧∃its:List Value,Vals xs its∧IsTup h a its.toArray
 | .dK kvs=>kvs.length≤sizeLine∧(a==sysModules)=false∧∃vs,KV kvs vs∧h.DictOf (mixKind P w) a vs
 | .dT kvs=>kvs.length≤sizeLine∧(a==sysModules)=false∧∃xs:List (List Key ×Addr ×Value),
   Paired (fun (p:List Key ×V) (q:List Key ×Addr ×Value)=>p.1=q.1∧H q.2.1=some (.tup (p.1.map kV))∧RelV p.2 q.2.2) kvs xs∧
   ∃o es ep,h.get? a=some o∧o.ExactDict∧o.data=.dict es ep∧es.toList=xs.map (entryOfKey (tupleKind (mixKind P w)))∧(xs.map (·.1)).Nodup
 | .set S n=>h.SetOf (intKind P w) a S n
 | .ins C dx fs=>H dx=some (.own a)∧fs.length≤1000∧dx≠a∧h.get? a=some (PySem.W.instObj C dx)∧
   ∃mA,h.Ns1 dx mA∧(∀f,RelO (fs.lookup f) (mA f))∧PySem.Within mA (fs.map (·.1))
 | .own _=>∃o,h.get? a=some o
 | .xd fs=>∃mA,h.Ns1 a mA∧∀f,RelO (fs.lookup f) (mA f)
 | .rng lo hi=>∃t u v,h.get? a=some {cls:=.type "range",data:=.fields #[.int lo t,.int hi u,.int 1 v]}
 | .frz o u=>h.get? a=some o∧ObjOk H h a u
 | .tbl ps=>h.get? a=some {cls:=.none,data:=.fields ps}
 | .met f x=>h.get? a=some (PySem.W.methodObj (.ref f) (.ref x))
 | .ext φ=>φ h∧(∃o,h.get? a=some o)∧∀h1 h2:Heap,φ h1→(∀o,h1.get? a=some o→h2.get? a=some o)→φ h2
def HOk (H:Hp)(h:Heap):Prop:=∀a o,H a=some o→ObjOk P w H h a o
end
section
variable {P:Program}{w:World}{H H':Hp}{h h':Heap}{a:Addr}{o:HO}
private theorem ObjOk.lt (x:ObjOk P w H h a o):a < h.objs.size:=by
 cases o with
 | lst xs=>obtain ⟨_,_,_,_,e⟩:=x;exact Heap.lt_size e
 | tup xs=>obtain ⟨_,_,_,p⟩:=x;exact p.lt
 | dK kvs=>obtain ⟨_,_,_,_,o,_,_,e,_⟩:=x;exact Heap.lt_size e
 | dT kvs=>obtain ⟨_,_,_,_,o,_,_,e,_⟩:=x;exact Heap.lt_size e
 | set S n=>obtain ⟨o,_,_,_,e,_⟩:=x;exact Heap.lt_size e
 | ins C dx fs=>obtain ⟨_,_,_,e,_⟩:=x;exact Heap.lt_size e
 | own y=>obtain ⟨_,e⟩:=x;exact Heap.lt_size e
 | xd fs=>obtain ⟨_,⟨_,_,_,e,_⟩,_⟩:=x;exact Heap.lt_size e
 | rng lo hi=>obtain ⟨_,_,_,e⟩:=x;exact Heap.lt_size e
 | frz ob u=>obtain ⟨e,_⟩:=x;exact Heap.lt_size e
 | tbl ps=>exact Heap.lt_size (show h.get? a=some _ from x)
 | met f y=>exact Heap.lt_size (show h.get? a=some _ from x)
 | ext φ=>obtain ⟨_,⟨_,e⟩,_⟩:=x;exact Heap.lt_size e
private theorem Paired.mapP {α β:Type}{F G:α→β→Prop}:∀{l₁:List α} {l₂:List β},Paired F l₁ l₂→(∀a b,F a b→G a b)→Paired G l₁ l₂
 | _,_,.nil,_=>.nil
 | _,_,.cons r t,f=>.cons (f _ _ r) (Paired.mapP t f)
private theorem ObjOk.stay (x:ObjOk P w H h a o)(k:∀b u,(b=a∨H b=some (.own a))→h.get? b=some u→h'.get? b=some u)
  (ho:∀b,H b=some (.own a)→H' b=some (.own a)) (ht:∀b xs,H b=some (.tup xs)→H' b=some (.tup xs)):ObjOk P w H' h' a o:=by
 induction o with
 | lst xs=>obtain ⟨z,its,n,r,e⟩:=x;exact ⟨z,its,n,r,k _ _ (.inl rfl) e⟩
 | tup xs=>obtain ⟨z,its,r,ob,e,c⟩:=x;exact ⟨z,its,r,ob,k _ _ (.inl rfl) e,c⟩
 | dK kvs=>obtain ⟨z,y,vs,r,ob,es,ep,e,c⟩:=x;exact ⟨z,y,vs,r,ob,es,ep,k _ _ (.inl rfl) e,c⟩
 | dT kvs=>
  obtain ⟨z,y,xs,r,ob,es,ep,e,c⟩:=x
  exact ⟨z,y,xs,Paired.mapP r fun p q z=>⟨z.1,ht _ _ z.2.1,z.2.2⟩,ob,es,ep,k _ _ (.inl rfl) e,c⟩
 | set S n=>obtain ⟨ob,es,ep,t,e,c⟩:=x;exact ⟨ob,es,ep,t,k _ _ (.inl rfl) e,c⟩
 | ins C dx fs=>
  obtain ⟨d,z,ne,e,mA,⟨od,es,ep,e2,c⟩,r⟩:=x
  exact ⟨ho _ d,z,ne,k _ _ (.inl rfl) e,mA,⟨od,es,ep,k _ _ (.inr d) e2,c⟩,r⟩
 | own y=>obtain ⟨ob,e⟩:=x;exact ⟨ob,k _ _ (.inl rfl) e⟩
 | xd fs=>obtain ⟨mA,⟨od,es,ep,e,c⟩,r⟩:=x;exact ⟨mA,⟨od,es,ep,k _ _ (.inl rfl) e,c⟩,r⟩
 | rng lo hi=>obtain ⟨t,u,v,e⟩:=x;exact ⟨t,u,v,k _ _ (.inl rfl) e⟩
 | frz ob u ih=>obtain ⟨e,q⟩:=x;exact ⟨k _ _ (.inl rfl) e,ih q⟩
 | tbl ps=>
  have e:h.get? a=some {cls:=.none,data:=.fields ps}:=x
  show h'.get? a=some {cls:=.none,data:=.fields ps}
  exact k a _ (.inl rfl) e
 | met f y=>
  have e:h.get? a=some (PySem.W.methodObj (.ref f) (.ref y)):=x
  show h'.get? a=some (PySem.W.methodObj (.ref f) (.ref y))
  exact k a _ (.inl rfl) e
 | ext φ=>obtain ⟨p,⟨o,e⟩,st⟩:=x;exact ⟨st _ _ p fun o q=>k _ _ (.inl rfl) q,⟨o,k _ _ (.inl rfl) e⟩,st⟩
private theorem HOk.lt (x:HOk P w H h)(e:H a=some o):a < h.objs.size:=(x a o e).lt
private theorem HOk.fresh (x:HOk P w H h)(e:h.objs.size≤a):H a=none:=by
 cases q:H a with
 | none=>rfl
 | some u=>exact absurd (Nat.lt_of_lt_of_le (x.lt q) e) (Nat.lt_irrefl _)
private theorem HOk.kept (x:HOk P w H h)(k:∀b u,h.get? b=some u→h'.get? b=some u):HOk P w H h':=fun a o e=>
 (x a o e).stay (fun b u _ q=>k b u q) (fun _ q=>q) fun _ _ q=>q
private theorem HOk.laid (x:HOk P w H h)(k:∀b u,h.get? b=some u→h'.get? b=some u)(hp:h.objs.size≤a)(new:ObjOk P w (upd H a o) h' a o):HOk P w (upd H a o) h':=fun b u e=>by
 have hn:=x.fresh hp
 by_cases hb:b=a
 ·subst hb;rw [upd_same] at e;cases e;exact new
 ·rw [upd_ne hb] at e
  exact (x b u e).stay (fun c v _ q=>k c v q) (fun c q=>by rw [upd_ne (ne_of_none q hn)];exact q) fun c xs q=>by rw [upd_ne (ne_of_none q hn)];exact q
end
def Rd (H:Hp)(a:Addr)(u:HO):Prop:=H a=some u∨∃o,H a=some (.frz o u)
private theorem Rd.ok {P:Program}{w:World}{H:Hp}{h:Heap}{a:Addr}{u:HO}(r:Rd H a u)(x:HOk P w H h):ObjOk P w H h a u:=by
 rcases r with r | ⟨o,r⟩
 ·exact x a u r
 ·obtain ⟨_,q⟩:=x a _ r
  exact q
def Mut:Option HO→Prop
 | some (.lst _)=>True
 | some (.dK _)=>True
 | some (.dT _)=>True
 | some (.set _ _)=>True
 | some (.ins _ _ _)=>True
 | some (.ext _)=>True
 | _=>False
section
variable {P:Program}{w:World}{H:Hp}{h h':Heap}{x e:Addr}{o':HO}
private theorem HOk.write (ok:HOk P w H h)(mu:Mut (H x))(he:e=x∨H e=some (.own x))(k:∀b u,b≠e→h.get? b=some u→h'.get? b=some u)(heo:∃u,h'.get? e=some u)
  (new:ObjOk P w (upd H x o') h' x o'):HOk P w (upd H x o') h':=fun b u q=>by
 have nown:∀c y,H c=some (.own y)→c≠x:=fun c y r z=>by subst z;rw [r] at mu;exact mu
 have ntup:∀c xs,H c=some (.tup xs)→c≠x:=fun c xs r z=>by subst z;rw [r] at mu;exact mu
 by_cases hb:b=x
 ·subst hb;rw [upd_same] at q;cases q;exact new
 ·rw [upd_ne hb] at q
  by_cases hbe:b=e
  ·have q':H b=some (.own x):=by
    rcases he with z | z
    ·exact absurd (hbe.trans z) hb
    ·rw [hbe];exact z
   rw [q] at q';cases q'
   obtain ⟨v,hv⟩:=heo
   exact ⟨v,by rw [hbe];exact hv⟩
  ·refine (ok b u q).stay (fun c v hc r=>k c v ?_ r) (fun c r=>by rw [upd_ne (nown c b r)];exact r) fun c xs r=>by rw [upd_ne (ntup c xs r)];exact r
   rcases hc with rfl | hc
   ·exact hbe
   ·rintro rfl
    rcases he with z | z
    ·exact nown c b hc z
    ·rw [hc] at z;cases z;exact hb rfl
end
structure Un (fs ex:List Addr)(H H':Hp)(h h':Heap):Prop where
 keep:∀b o,h.get? b=some o→H b=none→b∉fs→b∉ex→h'.get? b=some o
 slot:∀b o,h.get? b=some o→H b=none→b∈fs→b∉ex→∃sl,h'.get? b=some {o with slots:=sl}
 free:∀b o,h.get? b=some o→H b=none→b∉ex→H' b=none
 there:∀b o,h.get? b=some o→b∉ex→∃o',h'.get? b=some o'
 tups:∀b xs,H b=some (.tup xs)→H' b=some (.tup xs)
 frzs:∀b o u,H b=some (.frz o u)→H' b=some (.frz o u)
 tbls:∀b ps,H b=some (.tbl ps)→∃more,H' b=some (.tbl (ps++more))
section
variable {fs fs' ex ex':List Addr}{H H1 H2:Hp}{h h1 h2 h':Heap}{a x e:Addr}{o:HO}
private theorem Un.any (u:Un fs ex H H1 h h1){b:Addr}{ob:Obj}(q:h.get? b=some ob)(n:H b=none)(hx:b∉ex):∃sl,h1.get? b=some {ob with slots:=sl}:=by
 by_cases hb:b∈fs
 ·exact u.slot b ob q n hb hx
 ·exact ⟨ob.slots,u.keep b ob q n hb hx⟩
private theorem Un.trans (a:Un fs ex H H1 h h1)(b:Un fs ex H1 H2 h1 h2):Un fs ex H H2 h h2 where
 keep:=fun c ob q n hc hx=>b.keep c ob (a.keep c ob q n hc hx) (a.free c ob q n hx) hc hx
 slot:=fun c ob q n hc hx=>by
  obtain ⟨sl,e1⟩:=a.slot c ob q n hc hx
  obtain ⟨sl',e2⟩:=b.slot c _ e1 (a.free c ob q n hx) hc hx
  exact ⟨sl',e2⟩
 free:=fun c ob q n hx=>by
  obtain ⟨o',e1⟩:=a.there c ob q hx
  exact b.free c o' e1 (a.free c ob q n hx) hx
 there:=fun c ob q hx=>by
  obtain ⟨o',e1⟩:=a.there c ob q hx
  exact b.there c o' e1 hx
 tups:=fun c xs q=>b.tups c xs (a.tups c xs q)
 frzs:=fun c ob xs q=>b.frzs c ob xs (a.frzs c ob xs q)
 tbls:=fun c ps q=>by
  obtain ⟨m1,e1⟩:=a.tbls c ps q
  obtain ⟨m2,e2⟩:=b.tbls c _ e1
  exact ⟨m1++m2,by rw [e2,Array.append_assoc]⟩
private theorem Un.kept (k:∀b u,h.get? b=some u→h'.get? b=some u):Un fs ex H H h h':=
 ⟨fun b ob q _ _ _=>k b ob q,fun b ob q _ _ _=>⟨ob.slots,k b ob q⟩,fun _ _ _ n _=>n,fun b ob q _=>⟨ob,k b ob q⟩,fun _ _ q=>q,fun _ _ _ q=>q,fun _ ps q=>⟨#[],by rw [q];simp⟩⟩
private theorem Un.refl:Un fs ex H H h h:=Un.kept fun _ _ q=>q
private theorem Un.laid (k:∀b u,h.get? b=some u→h'.get? b=some u)(hp:h.objs.size≤a)(hn:H a=none):Un fs ex H (upd H a o) h h' where
 keep:=fun b u q _ _ _=>k b u q
 slot:=fun b u q _ _ _=>⟨u.slots,k b u q⟩
 free:=fun b u q n _=>by rw [upd_ne (Nat.ne_of_lt (Nat.lt_of_lt_of_le (Heap.lt_size q) hp))];exact n
 there:=fun b u q _=>⟨u,k b u q⟩
 tups:=fun b xs q=>by rw [upd_ne (ne_of_none q hn)];exact q
 frzs:=fun b u xs q=>by rw [upd_ne (ne_of_none q hn)];exact q
 tbls:=fun b ps q=>⟨#[],by rw [upd_ne (ne_of_none q hn),q];simp⟩
private theorem Un.write (mu:Mut (H x))(he:e=x∨H e=some (.own x))(k:∀b u,b≠e→h.get? b=some u→h'.get? b=some u)(heo:∃u,h'.get? e=some u):Un fs ex H (upd H x o) h h':=by
 have hx:∀b,H b=none→b≠x:=fun b n z=>by subst z;rw [n] at mu;exact mu
 have hb:∀b,H b=none→b≠e:=fun b n z=>by
  subst z
  rcases he with r | r
  ·exact hx b n r
  ·rw [n] at r;cases r
 have hm:∀b u,H b=some u→¬Mut (some u)→b≠x:=fun b u q nm z=>by subst z;rw [q] at mu;exact nm mu
 refine ⟨fun b u q n _ _=>k b u (hb b n) q,fun b u q n _ _=>⟨u.slots,k b u (hb b n) q⟩,fun b u q n _=>by rw [upd_ne (hx b n)];exact n,fun b u q _=>?_,
  fun b xs q=>by rw [upd_ne (hm b _ q fun z=>z)];exact q,fun b u xs q=>by rw [upd_ne (hm b _ q fun z=>z)];exact q,fun b ps q=>⟨#[],by rw [upd_ne (hm b _ q fun z=>z),q];simp⟩⟩
 by_cases hbe:b=e
 ·subst hbe;exact heo
 ·exact ⟨u,k b u hbe q⟩
end
def trk (h:Heap)(H:Hp):List Addr:=(List.range h.objs.size).filter fun a=>(H a).isSome
def hidT (h:Heap)(H:Hp):Heap:=PySem.W.hideAll h (trk h H)
private theorem hidT_size (h:Heap)(H:Hp):(hidT h H).objs.size=h.objs.size:=PySem.W.hideAll_size _ _
private theorem hidT_get {h:Heap}{H:Hp}{b:Addr}{o:Obj}(e:h.get? b=some o)(n:H b=none):(hidT h H).get? b=some o:=
 PySem.W.hideAll_get _ e fun hm=>by
  have q:(H b).isSome=true:=(List.mem_filter.mp hm).2
  rw [n] at q;simp at q
private theorem of_hidT {h:Heap}{H:Hp}{b:Addr}{o:Obj}(e:(hidT h H).get? b=some o):h.get? b=some o∧H b=none:=by
 have e':h.get? b=some o:=PySem.W.of_hideAll (trk h H) e
 refine ⟨e',?_⟩
 cases q:H b with
 | none=>rfl
 | some x=>
  have hm:b∈trk h H:=List.mem_filter.mpr ⟨List.mem_range.mpr (Heap.lt_size e'),by simp [q]⟩
  have z:(hidT h H).get? b=none:=PySem.W.hideAll_none (trk h H) hm
  rw [z] at e;cases e
def allNews (g h:Heap)(L:Addr):List (Addr ×Obj):=(List.range h.objs.size).filterMap fun a=>if a=L∨(g.get? a).isSome=true then none else (h.get? a).map fun o=>(a,o)
def rest (g h:Heap)(L d:Addr):List (Addr ×Obj):=(allNews g h L).filter fun p=>decide (p.1≠d)
end L2
namespace L2
open PySem PySem.Spec PyProof.Rows
structure Mod (K:PySem.W.Frag)(mg:Str→Option Value)(base:Heap):Prop where
 kin:K.In base
 glob:base.Ns mainGlobals mg
 blt:∃mb,base.Ns builtinsNs mb∧∀x:Str,x≠ "__name__" →mb x=bootBuiltins x
 nolimit:base.NoLimit
structure Cx where
 prog:Program
 w:World
 K:PySem.W.Frag
 mg:Str→Option Value
 base:Heap
 A:Around
 N:List Str
 s₀:Shared
 H₀:Hp
 env:Env
 outer:List Env
 stack:List Env
 ex:List Addr
 fn:Str→Bool
 calm:Bool
 pn:List (Addr ×Obj)
 xe:Value→Shared→Prop
def frs (l:List Env):List Addr:=l.filterMap (·.frame)
abbrev Cx.fs (X:Cx):List Addr:=frs X.outer
def Vis (sc:Scope)(x:Str):Prop:=sc.names.lookup x=some .local∨sc.names.lookup x=some .cell∨sc.names.lookup x=some .free
def Loc (sc:Scope)(x:Str):Prop:=sc.names.lookup x=some .local∨sc.names.lookup x=some .cell
def Look (env:Env)(h:Heap)(m:Str→Option Value)(x:Str)(u:Value):Prop:=
 (env.kindOf x=some .local∧m x=some u)∨((env.kindOf x=some .cell∨env.kindOf x=some .free)∧∃c,env.cells.lookup x=some c∧h.IsCell c (some u))
structure Cx.Ok (X:Cx):Prop where
 mod:Mod X.K X.mg X.base
 kind:X.env.scope.kind=.function
 glob:X.env.globals=mainGlobals
 blt:X.env.builtins=builtinsNs
 above:X.s₀.heap.objs.size≤X.env.locals
 inj:∀x y c,X.env.cells.lookup x=some c→X.env.cells.lookup y=some c→x=y
 has:∀x,(X.env.kindOf x=some .cell∨X.env.kindOf x=some .free)→∃c,X.env.cells.lookup x=some c
 cab:∀x c,X.fn x=true→X.env.cells.lookup x=some c→X.s₀.heap.objs.size≤c
 hd:X.calm=true→HndS X.A X.base
 frames:X.A.frames=some X.stack
 stk:X.stack=X.outer∨(X.stack=X.env::X.outer∧X.env.frame=some X.env.locals)
 exf:∀b∈X.ex,b≠X.env.locals∧∀x c,X.env.cells.lookup x=some c→c≠b
 bs:∀b o,X.base.get? b=some o→X.s₀.heap.get? b=some o∧X.H₀ b=none
 bsz:X.base.objs.size≤X.s₀.heap.objs.size
 noex:∀b o,X.base.get? b=some o→b∉X.ex
 exfs:∀b∈X.ex,b∉X.fs
 funs:X.s₀.heap.FunFrames X.base X.outer
 frf:∀b∈X.fs,X.H₀ b=none
structure Inv (X:Cx)(pins:List (Addr ×Obj))(σ:List (Option V))(H:Hp)(s:Shared):Prop where
 ok:X.Ok
 os:s.os=X.s₀.os
 bare:AllBare s.gens
 base:Un X.fs X.ex X.H₀ H X.s₀.heap s.heap
 loc:∃m,s.heap.Ns X.env.locals m∧∀(i:Nat) (x:Str) (v:V),X.N[i]? =some x→σ[i]? =some (some v)→Vis X.env.scope x→∃u,RelV v u∧Look X.env s.heap m x u
 cell:∀x c,X.env.cells.lookup x=some c→∃v,s.heap.IsCell c v
 free:H X.env.locals=none
 freeC:∀x c,X.env.cells.lookup x=some c→H c=none
 pin:∀p∈X.pn++pins,s.heap.get? p.1=some p.2∧H p.1=none∧p.1≠X.env.locals∧p.1∉X.fs∧∀v,p.2.data≠ .cell v
 hok:HOk X.prog X.w H s.heap
 len:σ.length=X.N.length
section
variable {X:Cx}{pins:List (Addr ×Obj)}{σ:List (Option V)}{H H':Hp}{s:Shared}{h':Heap}
private theorem Cx.Ok.nofr (ok:X.Ok){b:Addr}{o:Obj}(e:X.base.get? b=some o):b∉X.fs:=fun hb=>by
 have:=(ok.funs.mem hb).1
 rw [e] at this;cases this
private theorem Inv.bs (I:Inv X pins σ H s):∀b o,X.base.get? b=some o→s.heap.get? b=some o∧H b=none:=fun b o e=>
 ⟨I.base.keep b o (I.ok.bs b o e).1 (I.ok.bs b o e).2 (I.ok.nofr e) (I.ok.noex b o e),I.base.free b o (I.ok.bs b o e).1 (I.ok.bs b o e).2 (I.ok.noex b o e)⟩
private theorem Inv.bk (I:Inv X pins σ H s):∀b o,X.base.get? b=some o→s.heap.get? b=some o:=fun b o e=>(I.bs b o e).1
private theorem Inv.mod (I:Inv X pins σ H s):Mod X.K X.mg X.base:=I.ok.mod
private theorem Inv.kIn (I:Inv X pins σ H s):X.K.In s.heap:=I.ok.mod.kin.keeps I.bk
private theorem Inv.hs (I:Inv X pins σ H s)(hc:X.calm=true):HndS X.A s.heap:=by
 rcases I.ok.hd hc with h | ⟨e,o,h1,h2,h3⟩
 ·exact .inl h
 ·exact .inr ⟨e,o,h1,I.bk e o h2,h3⟩
private theorem Inv.nit (I:Inv X pins σ H s)(hc:X.calm=true){b:Addr}(hb:b∈X.ex∨X.s₀.heap.objs.size≤b):∀e,X.A.handled=some (.ref e)→e≠b:=fun e he z=>by
 subst z
 rcases I.ok.hd hc with h | ⟨e',o,h1,h2,h3⟩
 ·rw [h] at he;cases he
 ·rw [he] at h1
  cases h1
  rcases hb with hb | hb
  ·exact I.ok.noex _ _ h2 hb
  ·exact absurd (Nat.lt_of_lt_of_le (Heap.lt_size (I.ok.bs _ _ h2).1) hb) (Nat.lt_irrefl _)
private theorem Inv.lt (I:Inv X pins σ H s):X.env.locals < s.heap.objs.size:=let ⟨_,hn,_⟩:=I.loc;hn.lt
private theorem Inv.sz (I:Inv X pins σ H s):X.s₀.heap.objs.size≤s.heap.objs.size:=Nat.le_trans I.ok.above (Nat.le_of_lt I.lt)
private theorem Inv.nofs (I:Inv X pins σ H s){a:Addr}(h:s.heap.objs.size≤a):a∉X.fs:=fun hb=>by
 obtain ⟨_,o,ho,_⟩:=I.ok.funs.mem hb
 exact absurd (Nat.lt_of_lt_of_le (Heap.lt_size ho) (Nat.le_trans I.sz h)) (Nat.lt_irrefl _)
private theorem Inv.cne (I:Inv X pins σ H s):∀x c,X.env.cells.lookup x=some c→c≠X.env.locals:=fun x c e z=>by
 obtain ⟨v,o,ho,hd⟩:=I.cell x c e
 obtain ⟨m,⟨o',es,ep,ho',hd',_⟩,_⟩:=I.loc
 rw [z,ho'] at ho;cases ho;rw [hd'] at hd;cases hd
private theorem Inv.funs (I:Inv X pins σ H s):s.heap.FunFrames X.base X.outer:=by
 have all:∀(l:List Env),(∀b∈frs l,b∈X.fs)→X.s₀.heap.FunFrames X.base l→s.heap.FunFrames X.base l:=by
  intro l
  induction l with
  | nil=>intro _ _;trivial
  | cons env r ih=>
   intro hs hl
   obtain ⟨hk,⟨L,o,hf,hn,ho,hd⟩,hr⟩:=hl
   have hL:L∈X.fs:=hs L (by unfold frs;rw [List.filterMap_cons,hf];exact List.mem_cons_self)
   obtain ⟨sl,e⟩:=I.base.slot L o ho (I.ok.frf L hL) hL fun z=>I.ok.exfs L z hL
   exact ⟨hk,⟨L,_,hf,hn,e,hd⟩,ih (fun b hb=>hs b (by unfold frs;rw [List.filterMap_cons,hf];exact List.mem_cons_of_mem _ hb)) hr⟩
 exact all X.outer (fun _ hb=>hb) I.ok.funs
private theorem Inv.stack (I:Inv X pins σ H s):s.heap.FunFrames X.base X.stack:=by
 rcases I.ok.stk with e | ⟨e,hf⟩
 ·rw [e];exact I.funs
 ·rw [e]
  obtain ⟨m,hn,_⟩:=I.loc
  refine .cons (by rw [I.ok.kind];decide) hf hn ?_ I.funs
  exact Heap.get?_none_of_le (Nat.le_trans I.ok.bsz I.ok.above)
private theorem Inv.stkSub (I:Inv X pins σ H s):∀b∈frs X.stack,b∈X.env.locals::X.fs:=fun b hb=>by
 rcases I.ok.stk with e | ⟨e,hf⟩
 ·rw [e] at hb;exact List.mem_cons_of_mem _ hb
 ·rw [e] at hb
  unfold frs at hb
  rw [List.filterMap_cons,hf] at hb
  exact hb
private theorem Inv.stkFree (I:Inv X pins σ H s):∀b∈frs X.stack,H b=none:=fun b hb=>by
 rcases List.mem_cons.mp (I.stkSub b hb) with e | hb
 ·rw [e];exact I.free
 ·obtain ⟨_,o,ho,_⟩:=I.ok.funs.mem hb
  exact I.base.free b o ho (I.ok.frf b hb) fun z=>I.ok.exfs b z hb
private theorem Inv.step {g':Array GenState}{t':Nat}{d':Drawn}{ch:List Addr}(I:Inv X pins σ H s)
  (hch:∀b∈ch,(b∈X.ex∨X.s₀.heap.objs.size≤b)∧b≠X.env.locals∧(∀x c,X.env.cells.lookup x=some c→c≠b)∧∀p∈X.pn++pins,p.1≠b)
  (keep:∀b o,b≠X.env.locals→b∉X.fs→b∉ch→s.heap.get? b=some o→H b=none→h'.get? b=some o)
  (slot:∀b o,b≠X.env.locals→b∈X.fs→b∉ch→s.heap.get? b=some o→H b=none→∃sl,h'.get? b=some {o with slots:=sl}) (free:∀b o,b∉ch→s.heap.get? b=some o→H b=none→H' b=none)
  (there:∀b o,b∉ch→s.heap.get? b=some o→∃o',h'.get? b=some o')
  (tups:∀b xs,H b=some (.tup xs)→H' b=some (.tup xs)) (frzs:∀b o u,H b=some (.frz o u)→H' b=some (.frz o u)) (tbls:∀b ps,H b=some (.tbl ps)→∃more,H' b=some (.tbl (ps++more)))
  (ns:∀m,s.heap.Ns X.env.locals m→h'.Ns X.env.locals m) (hok:HOk X.prog X.w H' h') (hg:AllBare g'):
  Inv X pins σ H' {s with heap:=h',gens:=g',drawn:=d',toks:=t'}:=by
 have neL:∀b o,X.s₀.heap.get? b=some o→b≠X.env.locals:=fun b o e=>Nat.ne_of_lt (Nat.lt_of_lt_of_le (Heap.lt_size e) I.ok.above)
 have neC:∀b o,X.s₀.heap.get? b=some o→b∉X.ex→b∉ch:=fun b o e hx hb=>by
  rcases (hch b hb).1 with z | z
  ·exact hx z
  ·exact absurd (Nat.lt_of_lt_of_le (Heap.lt_size e) z) (Nat.lt_irrefl _)
 have cellK:∀x c,X.env.cells.lookup x=some c→∀v,s.heap.IsCell c v→h'.IsCell c v:=fun x c e v ⟨o,ho,hd⟩=>by
  have nch:c∉ch:=fun z=>(hch c z).2.2.1 x c e rfl
  by_cases hc:c∈X.fs
  ·obtain ⟨sl,q⟩:=slot c o (I.cne x c e) hc nch ho (I.freeC x c e)
   exact ⟨_,q,hd⟩
  ·exact ⟨o,keep c o (I.cne x c e) hc nch ho (I.freeC x c e),hd⟩
 refine ⟨I.ok,I.os,hg,⟨fun b o e n hb hx=>?_,fun b o e n hb hx=>?_,fun b o e n hx=>?_,fun b o e hx=>?_,fun b xs e=>tups b xs (I.base.tups b xs e),fun b o xs e=>frzs b o xs (I.base.frzs b o xs e),fun b ps e=>?_⟩,?_,fun x c e=>?_,?_,fun x c e=>?_,fun p hp=>?_,hok,I.len⟩
 ·exact keep b o (neL b o e) hb (neC b o e hx) (I.base.keep b o e n hb hx) (I.base.free b o e n hx)
 ·obtain ⟨sl,e1⟩:=I.base.slot b o e n hb hx
  obtain ⟨sl',e2⟩:=slot b _ (neL b o e) hb (neC b o e hx) e1 (I.base.free b o e n hx)
  exact ⟨sl',e2⟩
 ·obtain ⟨o',e1⟩:=I.base.there b o e hx
  exact free b o' (neC b o e hx) e1 (I.base.free b o e n hx)
 ·obtain ⟨o',e1⟩:=I.base.there b o e hx
  exact there b o' (neC b o e hx) e1
 ·obtain ⟨m1,e1⟩:=I.base.tbls b ps e
  obtain ⟨m2,e2⟩:=tbls b _ e1
  exact ⟨m1++m2,by rw [e2,Array.append_assoc]⟩
 ·obtain ⟨m,hn,hl⟩:=I.loc
  refine ⟨m,ns m hn,fun i x v e1 e2 e3=>?_⟩
  obtain ⟨u,r,l⟩:=hl i x v e1 e2 e3
  refine ⟨u,r,?_⟩
  rcases l with l | ⟨k,c,e,z⟩
  ·exact .inl l
  ·exact .inr ⟨k,c,e,cellK x c e _ z⟩
 ·obtain ⟨v,z⟩:=I.cell x c e
  exact ⟨v,cellK x c e v z⟩
 ·obtain ⟨m,⟨o,_,_,ho,_⟩,_⟩:=I.loc
  exact free _ o (fun z=>(hch _ z).2.1 rfl) ho I.free
 ·obtain ⟨v,o,ho,hd⟩:=I.cell x c e
  exact free c o (fun z=>(hch c z).2.2.1 x c e rfl) ho (I.freeC x c e)
 ·obtain ⟨e,n,ne,nf,d⟩:=I.pin p hp
  have nch:p.1∉ch:=fun z=>(hch p.1 z).2.2.2 p hp rfl
  exact ⟨keep p.1 p.2 ne nf nch e n,free p.1 p.2 nch e n,ne,nf,d⟩
private theorem Inv.un {t':Nat}(I:Inv X pins σ H s)(u:Un X.fs [] H H' s.heap h')(hok:HOk X.prog X.w H' h'):Inv X pins σ H' {s with heap:=h',toks:=t'}:=by
 obtain ⟨m,⟨o,es,ep,ho,r⟩,_⟩:=id I.loc
 obtain ⟨sl,hL⟩:=u.any ho I.free (by simp)
 exact I.step (g':=s.gens) (d':=s.drawn) (ch:=[]) (fun _ z=>nomatch z) (fun b o _ hb _ e n=>u.keep b o e n hb (by simp)) (fun b o _ hb _ e n=>u.slot b o e n hb (by simp)) (fun b o _ e n=>u.free b o e n (by simp)) (fun b o _ e=>u.there b o e (by simp)) u.tups u.frzs u.tbls (fun m' hm=>by
  obtain ⟨o',es',ep',ho',r'⟩:=hm
  rw [ho] at ho';cases ho'
  exact ⟨_,es',ep',hL,r'⟩) hok I.bare
private theorem Inv.call {g':Array GenState}{t':Nat}{d':Drawn}{ch:List Addr}(I:Inv X pins σ H s)(u:Un (frs X.stack) ch H H' s.heap h')(hok:HOk X.prog X.w H' h')(hg:AllBare g')
  (hch:∀b∈ch,(b∈X.ex∨X.s₀.heap.objs.size≤b)∧b≠X.env.locals∧(∀x c,X.env.cells.lookup x=some c→c≠b)∧∀p∈X.pn++pins,p.1≠b):
  Inv X pins σ H' {s with heap:=h',gens:=g',drawn:=d',toks:=t'}:=by
 obtain ⟨m,⟨o,es,ep,ho,r⟩,_⟩:=id I.loc
 obtain ⟨sl,hL⟩:=u.any ho I.free fun z=>(hch _ z).2.1 rfl
 exact I.step (ch:=ch) hch (fun b o hL hb hc e n=>u.keep b o e n (fun z=>(List.mem_cons.mp (I.stkSub b z)).elim hL hb) hc) (fun b o _ _ hc e n=>u.any e n hc) (fun b o hc e n=>u.free b o e n hc) (fun b o hc e=>u.there b o e hc) u.tups u.frzs u.tbls (fun m' hm=>by
  obtain ⟨o',es',ep',ho',r'⟩:=hm
  rw [ho] at ho';cases ho'
  exact ⟨_,es',ep',hL,r'⟩) hok hg
private theorem Inv.turned {t':Nat}{it:Addr}(I:Inv X pins σ H s)(k:∀b o,b≠it→s.heap.get? b=some o→h'.get? b=some o)(hn:H it=none)(hL:it≠X.env.locals)
  (h1:it∈X.ex∨X.s₀.heap.objs.size≤it) (h2:∀x c,X.env.cells.lookup x=some c→c≠it) (h3:∀p∈X.pn++pins,p.1≠it):Inv X pins σ H {s with heap:=h',toks:=t'}:=by
 have nit:∀b u,H b=some u→b≠it:=fun b u e z=>by rw [z,hn] at e;cases e
 refine I.step (g':=s.gens) (d':=s.drawn) (ch:=[it]) (fun b hb=>?_) (fun b o _ _ hc e _=>k b o (fun z=>hc (by simp [z])) e) (fun b o _ _ hc e _=>⟨o.slots,k b o (fun z=>hc (by simp [z])) e⟩) (fun _ _ _ _ n=>n)
  (fun b o hc e=>⟨o,k b o (fun z=>hc (by simp [z])) e⟩) (fun _ _ e=>e) (fun _ _ _ e=>e) (fun b ps e=>⟨#[],by rw [e];simp⟩) (fun m hm=>?_) (fun b u e=>?_) I.bare
 ·have e:b=it:=by simpa using hb
  subst e
  exact ⟨h1,hL,h2,h3⟩
 ·obtain ⟨o,es,ep,ho,r⟩:=hm
  exact ⟨o,es,ep,k _ o (Ne.symm hL) ho,r⟩
 ·refine (I.hok b u e).stay (fun c v hc q=>k c v ?_ q) (fun _ q=>q) fun _ _ q=>q
  rcases hc with z | z
  ·rw [z];exact nit b u e
  ·exact nit c _ z
private theorem Inv.tok (I:Inv X pins σ H s)(t:Nat):Inv X pins σ H {s with toks:=t}:=I.un (h':=s.heap) (t':=t) Un.refl I.hok
private theorem Inv.kept {t':Nat}(I:Inv X pins σ H s)(k:∀b u,s.heap.get? b=some u→h'.get? b=some u):Inv X pins σ H {s with heap:=h',toks:=t'}:=I.un (Un.kept k) (I.hok.kept k)
private theorem Inv.laid {a:Addr}{o:HO}{t':Nat}(I:Inv X pins σ H s)(k:∀b u,s.heap.get? b=some u→h'.get? b=some u)(hp:s.heap.objs.size≤a)(new:ObjOk X.prog X.w (upd H a o) h' a o):
  Inv X pins σ (upd H a o) {s with heap:=h',toks:=t'}:=I.un (Un.laid k hp (I.hok.fresh hp)) (I.hok.laid k hp new)
private theorem Inv.write {x e:Addr}{o:HO}{t':Nat}(I:Inv X pins σ H s)(mu:Mut (H x))(he:e=x∨H e=some (.own x))(k:∀b u,b≠e→s.heap.get? b=some u→h'.get? b=some u)(heo:∃u,h'.get? e=some u)
  (new:ObjOk X.prog X.w (upd H x o) h' x o):Inv X pins σ (upd H x o) {s with heap:=h',toks:=t'}:=I.un (Un.write mu he k heo) (I.hok.write mu he k heo new)
private theorem Inv.pins_of {pins':List (Addr ×Obj)}(I:Inv X pins σ H s)(h:∀p∈pins',s.heap.get? p.1=some p.2∧H p.1=none∧p.1≠X.env.locals∧p.1∉X.fs∧∀v,p.2.data≠ .cell v):Inv X pins' σ H s:=
 ⟨I.ok,I.os,I.bare,I.base,I.loc,I.cell,I.free,I.freeC,fun p hp=>(List.mem_append.mp hp).elim (fun z=>I.pin p (List.mem_append_left _ z)) (h p),I.hok,I.len⟩
private theorem nodup_ix {N:List Str}(hN:N.Nodup){i j:Nat}{x:Str}(a:N[i]? =some x)(b:N[j]? =some x):i=j:=by
 obtain ⟨h1,e1⟩:=List.getElem?_eq_some_iff.mp a
 obtain ⟨h2,e2⟩:=List.getElem?_eq_some_iff.mp b
 exact (List.getElem_inj hN).mp (e1.trans e2.symm)
private theorem store_ok2 {M:Model}{A:Around}{E:Value→Shared→Prop}{i:Nat}{x:Str}{v:V}{u:Value}{Q:Unit→Shared→Prop}(I:Inv X pins σ H s)(hN:X.N.Nodup)(hi:X.N[i]? =some x)(hx:Loc X.env.scope x)(r:RelV v u)
  (h:∀s',Inv X pins (σ.set i (some v)) H s'→(∃a,Heap.SameBut a s.heap s'.heap∧(a=X.env.locals∨X.env.cells.lookup x=some a))→Q () s') (hf:X.fn x=true∨X.env.scope.names.lookup x=some .local:=by first | exact .inl rfl | exact .inr rfl | assumption):wpAny M A (storeName X.env x u) Q E s:=by
 obtain ⟨m,hn,hl⟩:=id I.loc
 have hcls:(X.env.scope.kind==.class || (X.env.scope.kind==.module && X.env.locals !=X.env.globals))=false:=by rw [I.ok.kind];rfl
 have hiσ:i < σ.length:=by rw [I.len];exact (List.getElem?_eq_some_iff.mp hi).1
 have cne:=I.cne
 have tracked:∀{a:Addr} {h':Heap},(∃o,s.heap.get? a=some o∧H a=none)→Heap.SameBut a s.heap h'→HOk X.prog X.w H h':=fun {a h'} ha hs b ob e=>by
  obtain ⟨_,_,hfree⟩:=ha
  refine (I.hok b ob e).stay (fun c w' hc q=>(hs.2 c ?_).trans q) (fun _ q=>q) fun _ _ q=>q
  rintro rfl
  rcases hc with rfl | hc
  ·rw [hfree] at e;cases e
  ·rw [hfree] at hc;cases hc
 rcases hx with hk | hk
 ·refine wpAny_storeName_local hk hn (fun h' hn' hs=>?_) hcls
  obtain ⟨oL,_,_,hoL,_⟩:=id hn
  refine h _ ⟨I.ok,I.os,I.bare,⟨fun b o e n hb hx=>?_,fun b o e n hb hx=>?_,I.base.free,fun b o e hx=>?_,I.base.tups,I.base.frzs,I.base.tbls⟩,⟨_,hn',fun j y v' e1 e2 e3=>?_⟩,fun y c e=>?_,I.free,I.freeC,fun p hp=>?_,tracked ⟨oL,hoL,I.free⟩ hs,by simpa using I.len⟩ ⟨_,hs,.inl rfl⟩
  ·exact (hs.2 b (Nat.ne_of_lt (Nat.lt_of_lt_of_le (Heap.lt_size e) I.ok.above))).trans (I.base.keep b o e n hb hx)
  ·obtain ⟨sl,e1⟩:=I.base.slot b o e n hb hx
   exact ⟨sl,(hs.2 b (Nat.ne_of_lt (Nat.lt_of_lt_of_le (Heap.lt_size e) I.ok.above))).trans e1⟩
  ·obtain ⟨o',e1⟩:=I.base.there b o e hx
   exact ⟨o',(hs.2 b (Nat.ne_of_lt (Nat.lt_of_lt_of_le (Heap.lt_size e) I.ok.above))).trans e1⟩
  ·by_cases hj:j=i
   ·subst hj
    rw [hi] at e1;cases e1
    rw [List.getElem?_set_self hiσ] at e2
    cases e2
    exact ⟨u,r,.inl ⟨hk,by simp⟩⟩
   ·rw [List.getElem?_set_ne (Ne.symm hj)] at e2
    obtain ⟨u',r',q⟩:=hl j y v' e1 e2 e3
    refine ⟨u',r',?_⟩
    rcases q with ⟨k,e⟩ | ⟨k,c,e,z⟩
    ·refine .inl ⟨k,?_⟩
     have:y≠x:=fun e=>hj (nodup_ix hN e1 (e ▸ hi))
     simp [this,e]
    ·exact .inr ⟨k,c,e,z.sameBut hs (cne y c e)⟩
  ·obtain ⟨w',z⟩:=I.cell y c e
   exact ⟨w',z.sameBut hs (cne y c e)⟩
  ·obtain ⟨e,n,ne,nf,d⟩:=I.pin p hp
   exact ⟨(hs.2 p.1 ne).trans e,n,ne,nf,d⟩
 ·have hfn:X.fn x=true:=by
   rcases hf with z | z
   ·exact z
   ·rw [z] at hk;cases hk
  obtain ⟨c,hc⟩:=I.ok.has x (.inl hk)
  obtain ⟨w',z⟩:=I.cell x c hc
  refine wpAny_storeName_cell I.ok.kind hk hc z (fun h' hc' hs=>?_)
  obtain ⟨oc,hoc,hocd⟩:=id z
  refine h {s with heap:=h'} ⟨I.ok,I.os,I.bare,⟨fun b o e n hb hx=>?_,fun b o e n hb hx=>?_,I.base.free,fun b o e hx=>?_,I.base.tups,I.base.frzs,I.base.tbls⟩,⟨m,hn.sameBut hs (Ne.symm (cne x c hc)),fun j y v' e1 e2 e3=>?_⟩,fun y c' e=>?_,I.free,I.freeC,fun p hp=>?_,tracked ⟨oc,hoc,I.freeC x c hc⟩ hs,by simpa using I.len⟩ ⟨c,hs,.inr hc⟩
  ·exact (hs.2 b (Nat.ne_of_lt (Nat.lt_of_lt_of_le (Heap.lt_size e) (I.ok.cab x c hfn hc)))).trans (I.base.keep b o e n hb hx)
  ·obtain ⟨sl,e1⟩:=I.base.slot b o e n hb hx
   exact ⟨sl,(hs.2 b (Nat.ne_of_lt (Nat.lt_of_lt_of_le (Heap.lt_size e) (I.ok.cab x c hfn hc)))).trans e1⟩
  ·obtain ⟨o',e1⟩:=I.base.there b o e hx
   exact ⟨o',(hs.2 b (Nat.ne_of_lt (Nat.lt_of_lt_of_le (Heap.lt_size e) (I.ok.cab x c hfn hc)))).trans e1⟩
  ·by_cases hj:j=i
   ·subst hj
    rw [hi] at e1;cases e1
    rw [List.getElem?_set_self hiσ] at e2
    cases e2
    exact ⟨u,r,.inr ⟨.inl hk,c,hc,hc'⟩⟩
   ·rw [List.getElem?_set_ne (Ne.symm hj)] at e2
    obtain ⟨u',r',q⟩:=hl j y v' e1 e2 e3
    refine ⟨u',r',?_⟩
    rcases q with q | ⟨k,c',e,z'⟩
    ·exact .inl q
    ·refine .inr ⟨k,c',e,z'.sameBut hs ?_⟩
     rintro rfl
     exact hj (nodup_ix hN e1 (I.ok.inj _ _ _ e hc ▸ hi))
  ·by_cases hcc:c'=c
   ·subst hcc;exact ⟨_,hc'⟩
   ·obtain ⟨w2,z2⟩:=I.cell y c' e
    exact ⟨w2,z2.sameBut hs hcc⟩
  ·obtain ⟨e,n,ne,nf,d⟩:=I.pin p hp
   refine ⟨(hs.2 p.1 ?_).trans e,n,ne,nf,d⟩
   intro q
   rw [q,hoc] at e
   have q':oc=p.2:=Option.some.inj e
   exact d w' (by rw [←q'];exact hocd)
private theorem store_ok {M:Model}{A:Around}{E:Value→Shared→Prop}{i:Nat}{x:Str}{v:V}{u:Value}{Q:Unit→Shared→Prop}(I:Inv X pins σ H s)(hN:X.N.Nodup)(hi:X.N[i]? =some x)(hx:Loc X.env.scope x)(r:RelV v u)
  (h:∀s',Inv X pins (σ.set i (some v)) H s'→Q () s') (hf:X.fn x=true∨X.env.scope.names.lookup x=some .local:=by first | exact .inl rfl | exact .inr rfl | assumption):wpAny M A (storeName X.env x u) Q E s:=
 store_ok2 I hN hi hx r (fun s' I' _=>h s' I') hf
private theorem Inv.call' {s':Shared}{ch:List Addr}(I:Inv X pins σ H s)(ho:s'.os=s.os)(u:Un (frs X.stack) ch H H' s.heap s'.heap)(hok:HOk X.prog X.w H' s'.heap)(hg:AllBare s'.gens)
  (hch:∀b∈ch,(b∈X.ex∨X.s₀.heap.objs.size≤b)∧b≠X.env.locals∧(∀x c,X.env.cells.lookup x=some c→c≠b)∧∀p∈X.pn++pins,p.1≠b):Inv X pins σ H' s':=by
 obtain ⟨h',g',d',t',o'⟩:=s'
 have e:o'=s.os:=ho
 subst e
 exact I.call (g':=g') (t':=t') (d':=d') u hok hg hch
end
abbrev XK:=Value→Option Addr→Hp→Prop
abbrev St:=List (Option V)
abbrev VK:=V→Hp→Prop
abbrev TE:=St→Hp→VK→Prop
abbrev TT:=St→Hp→(Bool→Hp→Prop)→Prop
abbrev TA:=St→Hp→(List V→Hp→Prop)→Prop
structure Ends where
 nx:St→Hp→Prop
 rt:VK
 bk:St→Hp→Prop:=fun _ _=>False
 ct:St→Hp→Prop:=fun _ _=>False
abbrev TS:=Ends→St→Hp→Prop
def EP (X:Cx)(pins:List (Addr ×Obj))(σ:St)(Q:VK)(u:Value)(s':Shared):Prop:=∃v H',Inv X pins σ H' s'∧RelV v u∧Q v H'
def TP (X:Cx)(pins:List (Addr ×Obj))(σ:St)(Q:Bool→Hp→Prop)(b:Bool)(s':Shared):Prop:=∃H',Inv X pins σ H' s'∧Q b H'
def AP (X:Cx)(pins:List (Addr ×Obj))(σ:St)(Q:List V→Hp→Prop)(us:List Value)(s':Shared):Prop:=∃vs H',Inv X pins σ H' s'∧Vals vs us∧Q vs H'
def SP (X:Cx)(pins:List (Addr ×Obj))(D:Ends)(f:Flow)(s':Shared):Prop:=
 match f with
 | .next=>∃σ' H',Inv X pins σ' H' s'∧D.nx σ' H'
 | .brk=>∃σ' H',Inv X pins σ' H' s'∧D.bk σ' H'
 | .cont=>∃σ' H',Inv X pins σ' H' s'∧D.ct σ' H'
 | .ret u=>∃v σ' H',Inv X pins σ' H' s'∧RelV v u∧D.rt v H'
def PE (X:Cx)(e:Expr)(t:TE):Prop:=
 ∀(pins:List (Addr ×Obj)) (s:Shared) (σ:St) (H:Hp) (Q:VK),Inv X pins σ H s→t σ H Q→wpAny (model X.prog X.w) X.A (eval e X.env) (EP X pins σ Q) X.xe s
def PT (X:Cx)(e:Expr)(t:TT):Prop:=
 ∀(pins:List (Addr ×Obj)) (s:Shared) (σ:St) (H:Hp) (Q:Bool→Hp→Prop),Inv X pins σ H s→t σ H Q→wpAny (model X.prog X.w) X.A (isTrue e X.env (eval e X.env)) (TP X pins σ Q) X.xe s
def PW (X:Cx)(e:Expr)(t:TT):Prop:=
 ∀(whole:Sem Value) (pins:List (Addr ×Obj)) (s:Shared) (σ:St) (H:Hp) (Q:Bool→Hp→Prop),Inv X pins σ H s→t σ H Q→wpAny (model X.prog X.w) X.A (isTrue e X.env whole) (TP X pins σ Q) X.xe s
private theorem PW.pt {X:Cx}{e:Expr}{t:TT}(h:PW X e t):PT X e t:=h _
def PA (X:Cx)(es:List Expr)(t:TA):Prop:=
 ∀(pos:Pos) (pins:List (Addr ×Obj)) (s:Shared) (σ:St) (H:Hp) (Q:List V→Hp→Prop),Inv X pins σ H s→t σ H Q→wpAny (model X.prog X.w) X.A (spliced (backTo pos (starEach es X.env))) (AP X pins σ Q) X.xe s
def PS (X:Cx)(st:Stmt)(t:TS):Prop:=
 ∀(pins:List (Addr ×Obj)) (s:Shared) (σ:St) (H:Hp) (D:Ends),Inv X pins σ H s→t D σ H→wpAny (model X.prog X.w) X.A (exec st X.env) (SP X pins D) X.xe s
def PSs (X:Cx)(st:List Stmt)(t:TS):Prop:=
 ∀(pins:List (Addr ×Obj)) (s:Shared) (σ:St) (H:Hp) (D:Ends),Inv X pins σ H s→t D σ H→wpAny (model X.prog X.w) X.A (execs st X.env) (SP X pins D) X.xe s
private theorem thn {α:Type}{t:Sem α}{Q Q':α→Shared→Prop}{M:Model}{A:Around}{E:Value→Shared→Prop}{s:Shared}(h:wpAny M A t Q E s)(hQ:∀a s,Q a s→Q' a s):wpAny M A t Q' E s:=wpAny_mono h hQ fun _ _ x=>x
end L2
namespace L2
open PySem PySem.Spec PyProof.Rows
section
variable {X:Cx}
private theorem bin {a b:Expr}{ta tb:TE}(ha:PE X a ta)(hb:PE X b tb){pins:List (Addr ×Obj)}{s:Shared}{σ:St}{H:Hp}{R:V→V→Hp→Prop}(I:Inv X pins σ H s)(h:ta σ H fun x H1=>tb σ H1 fun y H2=>R x y H2)
  {α:Type} {Q:α→Shared→Prop} {f:Value→Value→Sem α}
  (hf:∀v u s2 x y H2,Inv X pins σ H2 s2→RelV x v→RelV y u→R x y H2→wpAny (model X.prog X.w) X.A (f v u) Q X.xe s2):
  wpAny (model X.prog X.w) X.A (eval a X.env) (fun v s₁=>wpAny (model X.prog X.w) X.A (eval b X.env) (fun u s₂=>wpAny (model X.prog X.w) X.A (f v u) Q X.xe s₂) X.xe s₁) X.xe s:=by
 refine thn (ha pins s σ H _ I h) fun v s1 ⟨x,H1,I1,r1,q1⟩=>?_
 refine thn (hb pins s1 σ H1 _ I1 q1) fun u s2 ⟨y,H2,I2,r2,q2⟩=>?_
 exact hf v u s2 x y H2 I2 r1 r2 q2
def tVar (i:Nat):TE:=fun σ H Q=>∃v,σ[i]? =some (some v)∧Q v H
def tC (v:V):TE:=fun _ H Q=>Q v H
private theorem pe_var {i:Nat}{x:Str}{pos:Pos}(hN:X.N[i]? =some x)(hv:Vis X.env.scope x)(hd:(x==("__debug__" :Str))=false:=by decide) (hcd:(x==("__classdict__" :Str))=false:=by decide):PE X (.Name x pos) (tVar i):=by
 intro pins s σ H Q I h
 obtain ⟨v,e,h⟩:=h
 obtain ⟨m,hn,hl⟩:=I.loc
 obtain ⟨u,r,l⟩:=hl i x v hN e hv
 have fin:EP X pins σ Q u s:=⟨v,H,I,r,h⟩
 rcases l with ⟨hk,hm⟩ | ⟨hk,c,hc,hcell⟩
 ·exact wpAny_Name (wpAny_loadName_local I.ok.kind hk hn hm fin) hd
 ·rcases hk with hk | hk
  ·exact wpAny_Name (wpAny_loadName_cell I.ok.kind hk hc hcell fin) hd
  ·exact wpAny_Name (wpAny_loadName_free I.ok.kind hk hc hcell fin hcd) hd
private theorem pe_int {i j pos}:PE X (.Constant (.int i) j pos) (tC (.int i)):=fun _ _ _ H _ I h=>wpAny_Constant_int ⟨.int i,H,I.tok _,⟨_,rfl⟩,h⟩
private theorem pe_bl {b j pos}:PE X (.Constant (.bool b) j pos) (tC (.bl b)):=fun _ _ _ H _ I h=>Constant_bool ⟨.bl b,H,I,rfl,h⟩
private theorem pe_non {j pos}:PE X (.Constant .none j pos) (tC .non):=fun _ _ _ H _ I h=>Constant_none ⟨.non,H,I,rfl,h⟩
private theorem pe_str {x j pos}:PE X (.Constant (.str x) j pos) (tC (.str x)):=fun _ _ _ H _ I h=>Calls.Constant_str ⟨.str x,H,I.tok _,⟨_,rfl⟩,h⟩
def Gl (X:Cx)(x:Str):Prop:=X.env.kindOf x=some .globalImplicit
private theorem ld_glob {E:Value→Shared→Prop}{pins:List (Addr ×Obj)}{s:Shared}{σ:St}{H:Hp}{x:Str}{u:Value}{pos:Pos}{Q:Value→Shared→Prop}(I:Inv X pins σ H s)(hg:Gl X x)(hm:X.mg x=some u)(h:Q u s)
  (hd:(x==("__debug__" :Str))=false:=by decide):wpAny (model X.prog X.w) X.A (eval (.Name x pos) X.env) Q E s:=
 Calls.Name_function_global I.ok.kind hg (Calls.loadGlobal_global (by rw [I.ok.glob];exact I.mod.glob.keeps I.bk) hm h) hd
private theorem ld_blt {E:Value→Shared→Prop}{pins:List (Addr ×Obj)}{s:Shared}{σ:St}{H:Hp}{x:Str}{u:Value}{pos:Pos}{Q:Value→Shared→Prop}(I:Inv X pins σ H s)(hg:Gl X x)(hm:X.mg x=none)(hv:bootBuiltins x=some u)(h:Q u s)
  (hn:x≠ "__name__" :=by decide) (hd:(x==("__debug__" :Str))=false:=by decide):wpAny (model X.prog X.w) X.A (eval (.Name x pos) X.env) Q E s:=by
 obtain ⟨mb,h1,h2⟩:=I.mod.blt
 exact Calls.Name_function_global I.ok.kind hg (Calls.loadGlobal_builtin (by rw [I.ok.glob];exact I.mod.glob.keeps I.bk) hm (by rw [I.ok.blt];exact h1.keeps I.bk) ((h2 x hn).trans hv) h) hd
private theorem pe_glob {x:Str}{v:V}{u:Value}{pos:Pos}(hg:Gl X x)(hm:X.mg x=some u)(r:RelV v u)(hd:(x==("__debug__" :Str))=false:=by decide):PE X (.Name x pos) (tC v):=
 fun _ _ _ H _ I h=>ld_glob I hg hm ⟨v,H,I,r,h⟩ hd
private theorem pe_bltn {x:Str}{v:V}{u:Value}{pos:Pos}(hg:Gl X x)(hm:X.mg x=none)(hv:bootBuiltins x=some u)(r:RelV v u)(hn:x≠ "__name__" :=by decide) (hd:(x==("__debug__" :Str))=false:=by decide):PE X (.Name x pos) (tC v):=
 fun _ _ _ H _ I h=>ld_blt I hg hm hv ⟨v,H,I,r,h⟩ hn hd
variable {a b:Expr}{ta tb:TE}{pos:Pos}
def PC (X:Cx)(op:CmpOp)(a b:Expr)(t:TE):Prop:=
 ∀(pins:List (Addr ×Obj)) (s:Shared) (σ:St) (H:Hp) (Q:VK),Inv X pins σ H s→t σ H Q→
  wpAny (model X.prog X.w) X.A (eval a X.env) (fun v s₁=>wpAny (model X.prog X.w) X.A (eval b X.env) (fun u s₂=>wpAny (model X.prog X.w) X.A (compareOp op v u) (EP X pins σ Q) X.xe s₂) X.xe s₁) X.xe s
private theorem nobehind (b:Expr){op:CmpOp}(h:op≠ .In)(h2:op≠ .NotIn):behindInMarks op b=false:=by
 have e1:(op==CmpOp.In)=false:=by cases op <;> first | rfl | exact absurd rfl h
 have e2:(op==CmpOp.NotIn)=false:=by cases op <;> first | rfl | exact absurd rfl h2
 cases b <;> simp [behindInMarks,e1,e2]
def tB (t:TE):TT:=fun σ H Q=>t σ H fun x H1=>∃c,x=.bl c∧Q c H1
private theorem pt_cmp {op:CmpOp}{t:TE}(h:PC X op a b t)(h1:behindInMarks op b=false:=by first | exact nobehind _ (by decide) (by decide) | rfl):PT X (.Compare a [op] [b] pos) (tB t):=by
 intro pins s σ H Q I hw
 refine wpAny_isTrue_Compare1 (thn (h pins s σ H _ I hw) fun v s1 h1=>thn h1 fun u s2 h2=>thn h2 fun c s3 ⟨x,H1,I1,r1,q1⟩=>?_) h1
 obtain ⟨d,rfl,q⟩:=q1
 cases r1
 exact wpAny_truthy_bool ⟨H1,I1,q⟩
private theorem pt_val {e:Expr}{t:TE}(h:PE X e t)(he:∀whole,isTrue e X.env whole=(do let v←whole;standAt e.pos;holding [v] (truthy v)):=by intro _;rfl):PT X e (tB t):=by
 intro pins s σ H Q I hw
 refine isTrue_plain (thn (h pins s σ H _ I hw) fun v s1 ⟨x,H1,I1,r1,q1⟩=>?_) (he _)
 obtain ⟨d,rfl,q⟩:=q1
 cases r1
 exact wpAny_truthy_bool ⟨H1,I1,q⟩
variable {tA tB':TT}{rest:List Expr}
def tAnd (t u:TT):TT:=fun σ H Q=>t σ H fun c H1=>if c=true then u σ H1 Q else Q false H1
def tOr (t u:TT):TT:=fun σ H Q=>t σ H fun c H1=>if c=true then Q true H1 else u σ H1 Q
def tNot (t:TT):TT:=fun σ H Q=>t σ H fun c H1=>Q (!c) H1
private theorem pw_and1 (ha:PT X a tA):PW X (.BoolOp .And [a] pos) tA:=by
 intro wh pins s σ H Q I h
 refine isTrue_and (thn (ha pins s σ H Q I h) fun c s1 e=>?_)
 cases c with
 | true=>exact isTrue_and_nil e
 | false=>exact e
private theorem pw_or1 (ha:PT X a tA):PW X (.BoolOp .Or [a] pos) tA:=by
 intro wh pins s σ H Q I h
 refine isTrue_or (thn (ha pins s σ H Q I h) fun c s1 e=>?_)
 cases c with
 | false=>exact isTrue_or_nil e
 | true=>exact e
private theorem pw_and (ha:PT X a tA)(hb:PW X (.BoolOp .And (b::rest) pos) tB'):PW X (.BoolOp .And (a::b::rest) pos) (tAnd tA tB'):=by
 intro wh pins s σ H Q I h
 refine isTrue_and (thn (ha pins s σ H _ I h) fun c s1 ⟨H1,I1,q1⟩=>?_)
 cases c with
 | true=>exact hb wh pins s1 σ H1 Q I1 q1
 | false=>exact ⟨H1,I1,q1⟩
private theorem pw_or (ha:PT X a tA)(hb:PW X (.BoolOp .Or (b::rest) pos) tB'):PW X (.BoolOp .Or (a::b::rest) pos) (tOr tA tB'):=by
 intro wh pins s σ H Q I h
 refine isTrue_or (thn (ha pins s σ H _ I h) fun c s1 ⟨H1,I1,q1⟩=>?_)
 cases c with
 | true=>exact ⟨H1,I1,q1⟩
 | false=>exact hb wh pins s1 σ H1 Q I1 q1
private theorem pt_not (ha:PT X a tA):PT X (.UnaryOp .Not a pos) (tNot tA):=by
 intro pins s σ H Q I h
 exact isTrue_not (ha pins s σ H (fun c H1=>Q (!c) H1) I h)
def tAndV (ta tb:TE):TE:=fun σ H Q=>ta σ H fun x H1=>∃c,x=.bl c∧if c=true then tb σ H1 Q else Q (.bl false) H1
def tNotV (ta:TE):TE:=fun σ H Q=>ta σ H fun x H1=>∃c,x=.bl c∧Q (.bl (!c)) H1
private theorem pe_one {op}{t:TE}(h:PE X a t):PE X (.BoolOp op [a] pos) t:=fun pins s σ H Q I hw=>BoolOp_one (h pins s σ H Q I hw)
private theorem pe_and (ha:PE X a ta)(hb:PE X (.BoolOp .And (b::rest) pos) tb):PE X (.BoolOp .And (a::b::rest) pos) (tAndV ta tb):=by
 intro pins s σ H Q I h
 refine BoolOp_and (thn (ha pins s σ H _ I h) fun v s1 ⟨x,H1,I1,r1,q1⟩=>?_)
 obtain ⟨c,rfl,q1⟩:=q1
 cases r1
 refine wpAny_truthy_bool ?_
 cases c with
 | true=>exact hb pins s1 σ H1 Q I1 q1
 | false=>exact ⟨.bl false,H1,I1,rfl,q1⟩
private theorem pe_not (ha:PE X a ta):PE X (.UnaryOp .Not a pos) (tNotV ta):=by
 intro pins s σ H Q I h
 refine UnaryOp_ (thn (ha pins s σ H _ I h) fun v s1 ⟨x,H1,I1,r1,q1⟩=>?_)
 obtain ⟨c,rfl,q1⟩:=q1
 cases r1
 exact not_of (wpAny_truthy_bool ⟨.bl (!c),H1,I1,rfl,q1⟩)
end
end L2
namespace L2
open PySem PySem.Spec PyProof.Rows
def SqL (K:PySem.W.Frag)(H:Hp)(a:Addr)(xs:List V):Prop:=
 Rd H a (.lst xs)∨
  ∃(o:Obj) (its:Array Value) (n:Nat),K.lookup a=some o∧o.cls=.type "list" ∧o.dict=none∧o.data=.seq its n∧its.size≤sizeLine∧Vals xs its.toList
def SqT (K:PySem.W.Frag)(H:Hp)(a:Addr)(xs:List V):Prop:=
 Rd H a (.tup xs)∨
  ∃(o:Obj) (its:Array Value) (n:Nat),K.lookup a=some o∧o.cls=.type "tuple" ∧o.data=.seq its n∧its.size≤sizeLine∧Vals xs its.toList
def absV:Value→Option V
 | .none=>some .non
 | .bool b=>some (.bl b)
 | .int i _=>some (.int i)
 | .str x _=>some (.str x)
 | .bytes b _=>some (.byt b)
 | .float b _=>some (.flt b)
 | .ref a=>some (.ref a)
 | .type n=>some (.ty n)
 | _=>none
private theorem RelV.abs {x:V}{u:Value}(r:RelV x u):absV u=some x:=by
 cases x with
 | non=>cases r;rfl
 | bl _=>cases r;rfl
 | int _=>obtain ⟨t,rfl⟩:=r;rfl
 | str _=>obtain ⟨t,rfl⟩:=r;rfl
 | byt _=>obtain ⟨t,rfl⟩:=r;rfl
 | flt _=>obtain ⟨t,rfl⟩:=r;rfl
 | ref _=>cases r;rfl
 | ty _=>cases r;rfl
private theorem RelV.inj {x y:V}{u:Value}(r:RelV x u)(q:RelV y u):x=y:=Option.some.inj (r.abs.symm.trans q.abs)
private theorem Vals.inj:∀{xs ys:List V} {us:List Value},Vals xs us→Vals ys us→xs=ys
 | _,_,_,.nil,.nil=>rfl
 | _,_,_,.cons r t,.cons r' t'=>by rw [r.inj r',Vals.inj t t']
section
variable {X:Cx}{pins:List (Addr ×Obj)}{σ:St}{H:Hp}{s:Shared}{a:Addr}{xs ys:List V}
private theorem SqL.of {K:PySem.W.Frag}(h:H a=some (.lst xs)):SqL K H a xs:=.inl (.inl h)
private theorem SqT.of {K:PySem.W.Frag}(h:H a=some (.tup xs)):SqT K H a xs:=.inl (.inl h)
private theorem Inv.list (I:Inv X pins σ H s)(h:SqL X.K H a xs):∃its:List Value,Vals xs its∧PlainL s.heap a its.toArray∧xs.length≤sizeLine:=by
 rcases h with h | ⟨o,its,n,hk,hc,hd,hs,hz,r⟩
 ·obtain ⟨z,its,n,r,e⟩:=h.ok I.hok
  exact ⟨its,r,⟨_,n,e,rfl,rfl,rfl⟩,z⟩
 ·refine ⟨its.toList,r,⟨o,n,I.kIn a o hk,hc,hd,by simpa using hs⟩,?_⟩
  have e:=r.length
  simp only [Array.length_toList] at e
  omega
private theorem Inv.tuple (I:Inv X pins σ H s)(h:SqT X.K H a xs):∃its:List Value,Vals xs its∧IsTup s.heap a its.toArray∧xs.length≤sizeLine:=by
 rcases h with h | ⟨o,its,n,hk,hc,hs,hz,r⟩
 ·obtain ⟨z,its,r,p⟩:=h.ok I.hok
  exact ⟨its,r,p,z⟩
 ·refine ⟨its.toList,r,⟨o,I.kIn a o hk,hc,n,by simpa using hs⟩,?_⟩
  have e:=r.length
  simp only [Array.length_toList] at e
  omega
private theorem Inv.list_inj (I:Inv X pins σ H s)(h:SqL X.K H a xs)(h':SqL X.K H a ys):xs=ys:=by
 obtain ⟨its,r,⟨o,n,e,_,_,d⟩,_⟩:=I.list h
 obtain ⟨its',r',⟨o',n',e',_,_,d'⟩,_⟩:=I.list h'
 rw [e] at e';cases e'
 rw [d] at d'
 injection d' with d1 _
 have:its=its':=by simpa using congrArg Array.toList d1
 subst this
 exact r.inj r'
private theorem Inv.tuple_inj (I:Inv X pins σ H s)(h:SqT X.K H a xs)(h':SqT X.K H a ys):xs=ys:=by
 obtain ⟨its,r,⟨o,e,_,n,d⟩,_⟩:=I.tuple h
 obtain ⟨its',r',⟨o',e',_,n',d'⟩,_⟩:=I.tuple h'
 rw [e] at e';cases e'
 rw [d] at d'
 injection d' with d1 _
 have:its=its':=by simpa using congrArg Array.toList d1
 subst this
 exact r.inj r'
end
abbrev Cx.wish (X:Cx)(E:Value→Shared→Prop):Cx:={X with xe:=E}
abbrev Cx.nox (X:Cx):Cx:=X.wish fun _ _=>False
private theorem Cx.Ok.wish {X:Cx}(ok:X.Ok)(E:Value→Shared→Prop):(X.wish E).Ok:=
 ⟨ok.mod,ok.kind,ok.glob,ok.blt,ok.above,ok.inj,ok.has,ok.cab,ok.hd,ok.frames,ok.stk,ok.exf,ok.bs,ok.bsz,ok.noex,ok.exfs,ok.funs,ok.frf⟩
private theorem Cx.Ok.unwish {X:Cx}{E:Value→Shared→Prop}(ok:(X.wish E).Ok):X.Ok:=
 ⟨ok.mod,ok.kind,ok.glob,ok.blt,ok.above,ok.inj,ok.has,ok.cab,ok.hd,ok.frames,ok.stk,ok.exf,ok.bs,ok.bsz,ok.noex,ok.exfs,ok.funs,ok.frf⟩
section
variable {X:Cx}{pins:List (Addr ×Obj)}{σ:St}{H:Hp}{s:Shared}{E:Value→Shared→Prop}
private theorem Inv.wish (I:Inv X pins σ H s)(E:Value→Shared→Prop):Inv (X.wish E) pins σ H s:=⟨I.ok.wish E,I.os,I.bare,I.base,I.loc,I.cell,I.free,I.freeC,I.pin,I.hok,I.len⟩
private theorem Inv.unwish (I:Inv (X.wish E) pins σ H s):Inv X pins σ H s:=⟨I.ok.unwish,I.os,I.bare,I.base,I.loc,I.cell,I.free,I.freeC,I.pin,I.hok,I.len⟩
private theorem SP.unwish {D:Ends}{f:Flow}{s':Shared}(h:SP (X.wish E) pins D f s'):SP X pins D f s':=by
 cases f with
 | next=>obtain ⟨σ',H',I,q⟩:=h;exact ⟨σ',H',I.unwish,q⟩
 | brk=>obtain ⟨σ',H',I,q⟩:=h;exact ⟨σ',H',I.unwish,q⟩
 | cont=>obtain ⟨σ',H',I,q⟩:=h;exact ⟨σ',H',I.unwish,q⟩
 | ret u=>obtain ⟨v,σ',H',I,r,q⟩:=h;exact ⟨v,σ',H',I.unwish,r,q⟩
private theorem PSs.nox {st:List Stmt}{t:TS}(h:PSs X.nox st t):PSs X st t:=fun pins s σ H D I hw=>
 wpAny_mono (h pins s σ H D (I.wish _) hw) (fun _ _ q=>q.unwish) fun _ _ z=>False.elim z
end
section
variable {X:Cx}{st:Stmt}{rest:List Stmt}{t u:TS}{e:Expr}{te:TE}{pos:Pos}
def tNext:TS:=fun D σ H=>D.nx σ H
def tSeq (t u:TS):TS:=fun D σ H=>t {D with nx:=u D} σ H
private theorem pss_nil:PSs X [] tNext:=fun _ _ σ H _ I h=>wpAny_execs_nil ⟨σ,H,I,h⟩
private theorem pss_cons (h1:PS X st t)(h2:PSs X rest u):PSs X (st::rest) (tSeq t u):=by
 intro pins s σ H D I h
 refine wpAny_execs_cons (thn (h1 pins s σ H {D with nx:=u D} I h) fun f s1 q=>?_)
 cases f with
 | next=>
  obtain ⟨σ',H',I',q⟩:=q
  exact h2 pins s1 σ' H' D I' q
 | ret v=>exact q
 | brk=>exact q
 | cont=>exact q
private theorem pss_one (h1:PS X st t):PSs X [st] t:=by
 intro pins s σ H D I h
 refine wpAny_execs_cons (thn (h1 pins s σ H D I h) fun f s1 q=>?_)
 cases f with
 | next=>exact wpAny_execs_nil q
 | ret v=>exact q
 | brk=>exact q
 | cont=>exact q
private theorem Inv.quiet {pins:List (Addr ×Obj)}{σ:St}{H:Hp}{s:Shared}(I:Inv X pins σ H s):interactive X.env=false:=by simp [interactive,I.ok.kind]
def tDrop (te:TE):TS:=fun D σ H=>te σ H fun _ H1=>D.nx σ H1
private theorem ps_expr (he:PE X e te)(hs:swapsWith e none pos.line X.env=pure false:=by rfl):PS X (.Expr e pos) (tDrop te):=by
 intro pins s σ H D I h
 exact wpAny_Expr_any (thn (he pins s σ H _ I h) fun v s1 ⟨x,H1,I1,r1,q1⟩=>⟨σ,H1,I1,q1⟩) I.quiet hs
def tRet (te:TE):TS:=fun D σ H=>te σ H D.rt
private theorem ps_ret (he:PE X e te):PS X (.Return (some e) pos) (tRet te):=by
 intro pins s σ H D I h
 exact wpAny_Return_some (thn (he pins s σ H _ I h) fun v s1 ⟨x,H1,I1,r1,q1⟩=>⟨x,σ,H1,I1,r1,q1⟩)
def tIfS (c:TT)(t u:TS):TS:=fun D σ H=>c σ H fun b H1=>if b=true then t D σ H1 else u D σ H1
private theorem ps_if {c:Expr}{a b:List Stmt}{tc:TT}(hc:PT X c tc)(ha:PSs X a t)(hb:PSs X b u):PS X (.If c a b pos) (tIfS tc t u):=by
 intro pins s σ H D I h
 refine wpAny_If (thn (hc pins s σ H _ I h) fun d s1 ⟨H1,I1,q1⟩=>?_)
 cases d with
 | true=>exact ha pins s1 σ H1 D I1 q1
 | false=>exact hb pins s1 σ H1 D I1 q1
def tNever:TS:=fun _ _ _=>False
private theorem ps_never:PS X st tNever:=fun _ _ _ _ _ _ h=>h.elim
end
abbrev TG:=V→St→Hp→(St→Hp→Prop)→Prop
abbrev TGs:=List V→St→Hp→(St→Hp→Prop)→Prop
def PG (X:Cx)(target:Expr)(t:TG):Prop:=
 ∀(pins:List (Addr ×Obj)) (s:Shared) (σ:St) (H:Hp) (v:V) (u:Value) (Q:St→Hp→Prop),Inv X pins σ H s→RelV v u→t v σ H Q→
  wpAny (model X.prog X.w) X.A (assign target X.env u) (fun _ s'=>∃σ' H',Inv X pins σ' H' s'∧Q σ' H') X.xe s
def PGs (X:Cx)(ts:List Expr)(t:TGs):Prop:=
 ∀(pins:List (Addr ×Obj)) (s:Shared) (σ:St) (H:Hp) (vs:List V) (us:List Value) (Q:St→Hp→Prop),Inv X pins σ H s→Vals vs us→t vs σ H Q→
  wpAny (model X.prog X.w) X.A (assignInOrder ((assignEach ts X.env).map (·.2)) us) (fun _ s'=>∃σ' H',Inv X pins σ' H' s'∧Q σ' H') X.xe s
abbrev TSet:=V→V→V→Hp→(Hp→Prop)→Prop
def PSet (X:Cx)(t:TSet):Prop:=
 ∀(pins:List (Addr ×Obj)) (s:Shared) (σ:St) (H:Hp) (o i v:V) (ov iv u:Value) (Q:Hp→Prop),Inv X pins σ H s→RelV o ov→RelV i iv→RelV v u→t o i v H Q→
  wpAny (model X.prog X.w) X.A (setItem ov iv u) (fun _ s'=>∃H',Inv X pins σ H' s'∧Q H') X.xe s
section
variable {X:Cx}{pos:Pos}
def gName (i:Nat):TG:=fun v σ H Q=>Q (σ.set i (some v)) H
private theorem pg_name {i:Nat}{x:Str}(hN:X.N.Nodup)(hi:X.N[i]? =some x)(hx:Loc X.env.scope x)(hf:X.fn x=true∨X.env.scope.names.lookup x=some .local:=by first | exact .inl rfl | exact .inr rfl | assumption):PG X (.Name x pos) (gName i):=by
 intro pins s σ H v u Q I r h
 exact wpAny_assign_Name (store_ok I hN hi hx r (fun s' I'=>⟨_,H,I',h⟩) hf)
def gNil:TGs:=fun vs σ H Q=>vs=[]∧Q σ H
def gCons (t:TG)(u:TGs):TGs:=fun vs σ H Q=>∃v r,vs=v::r∧t v σ H fun σ' H'=>u r σ' H' Q
private theorem pgs_nil:PGs X [] gNil:=by
 intro pins s σ H vs us Q I r h
 obtain ⟨e,h⟩:=h
 subst e
 cases r
 exact assignInOrder_nil ⟨σ,H,I,h⟩
private theorem pgs_cons {e:Expr}{es:List Expr}{t:TG}{u:TGs}(h1:PG X e t)(h2:PGs X es u)
  (hs:(assignEach (e::es) X.env).map (·.2)=assign e X.env::(assignEach es X.env).map (·.2):=by rfl):PGs X (e::es) (gCons t u):=by
 intro pins s σ H vs us Q I r h
 obtain ⟨v,vr,e1,h⟩:=h
 subst e1
 cases r with
 | cons r rr=>
  rw [hs]
  refine assignInOrder_cons (thn (h1 pins s σ H _ _ _ I r h) fun _ s1 ⟨σ1,H1,I1,q1⟩=>?_)
  exact h2 pins s1 σ1 H1 _ _ Q I1 rr q1
def gTup (K:PySem.W.Frag)(n:Nat)(t:TGs):TG:=fun v σ H Q=>∃a xs,v=.ref a∧SqT K H a xs∧xs.length=n∧t xs σ H Q
def gSub (to ti:TE)(t:TSet):TG:=fun v σ H Q=>to σ H fun o H1=>ti σ H1 fun i H2=>t o i v H2 fun H3=>Q σ H3
private theorem pg_sub {o i:Expr}{to ti:TE}{t:TSet}(ho:PE X o to)(hi:PE X i ti)(hs:PSet X t)
  (ha:∀v,assign (.Subscript o i pos) X.env v=(do
   let ov←holding [v] (eval o X.env)
   let iv←holding [v,ov] (eval i X.env)
   standAt pos
   holding [v,ov,iv] (setItem ov iv v)
   release [v,ov,iv] []):=by intro _;rfl):PG X (.Subscript o i pos) (gSub to ti t):=by
 intro pins s σ H v u Q I r h
 rw [ha]
 refine wpAny_bind (wpAny_holding (thn (ho pins s σ H _ I h) fun ov s1 ⟨x,H1,I1,r1,q1⟩=>?_))
 refine wpAny_bind (wpAny_holding (thn (hi pins s1 σ H1 _ I1 q1) fun iv s2 ⟨y,H2,I2,r2,q2⟩=>?_))
 refine wpAny_bind (wpAny_standAt (wpAny_bind (wpAny_holding (thn (hs pins s2 σ H2 x y v ov iv u _ I2 r1 r2 r q2) fun _ s3 ⟨H3,I3,q3⟩=>?_))))
 exact wpAny_release ⟨σ,H3,I3,q3⟩
def tAsg (te:TE)(g:TG):TS:=fun D σ H=>te σ H fun x H1=>g x σ H1 D.nx
private theorem ps_asg {tg e:Expr}{te:TE}{g:TG}(he:PE X e te)(hg:PG X tg g)(hs:swapsWithSole [tg] e pos.line X.env=pure false:=by rfl)(hw:swappedStores [tg] e X.env=pure none:=by rfl)
  (h1:(assignEach [tg] X.env).map (·.2)=[assign tg X.env]:=by rfl):PS X (.Assign [tg] e pos) (tAsg te g):=by
 intro pins s σ H D I h
 refine wpAny_Assign_stores (thn (he pins s σ H _ I h) fun v s1 ⟨x,H1,I1,r1,q1⟩=>?_) hs hw
 rw [h1]
 exact thn (hg pins s1 σ H1 x v _ I1 r1 q1) fun _ s2 q=>q
private theorem ps_set {i:Nat}{x:Str}{e:Expr}{te:TE}{pos':Pos}(hN:X.N.Nodup)(hi:X.N[i]? =some x)(hx:Loc X.env.scope x)(he:PE X e te)(hs:swapsWith e (some (.Name x pos')) pos.line X.env=pure false:=by rfl)(hf:X.fn x=true∨X.env.scope.names.lookup x=some .local:=by first | exact .inl rfl | exact .inr rfl | assumption):
  PS X (.Assign [.Name x pos'] e pos) (tAsg te (gName i)):=by
 intro pins s σ H D I h
 refine wpAny_Assign_Name (thn (he pins s σ H _ I h) fun v s1 ⟨y,H1,I1,r1,q1⟩=>?_) hs
 exact store_ok I1 hN hi hx r1 (fun s2 I2=>⟨_,H1,I2,q1⟩) hf
end
section
variable {X:Cx}{pos:Pos}
end
structure It where
 go:Nat→Hp→Prop
 yld:Nat→Hp→V→Hp→Prop
 stop:Nat→Hp→Prop
def FpOk (X:Cx)(pins:List (Addr ×Obj))(H:Hp)(b:Addr):Prop:=
 H b=none∧b≠X.env.locals∧b∉X.fs∧(b∈X.ex∨X.s₀.heap.objs.size≤b)∧(∀x c,X.env.cells.lookup x=some c→c≠b)∧∀p∈X.pn++pins,p.1≠b
private theorem Inv.fpOk {X:Cx}{pins:List (Addr ×Obj)}{σ:St}{H H':Hp}{s:Shared}{b:Addr}(I:Inv X pins σ H s)(hb:s.heap.objs.size≤b)(hn:H' b=none):FpOk X pins H' b:=by
 refine ⟨hn,Nat.ne_of_gt (Nat.lt_of_lt_of_le I.lt hb),I.nofs hb,.inr (Nat.le_trans I.sz hb),fun x c e z=>?_,fun p hp z=>?_⟩
 ·obtain ⟨v,q⟩:=I.cell x c e
  exact absurd (Nat.lt_of_lt_of_le q.lt (by rw [z];exact hb)) (Nat.lt_irrefl _)
 ·exact absurd (Nat.lt_of_lt_of_le (Heap.lt_size (I.pin p hp).1) (by rw [z];exact hb)) (Nat.lt_irrefl _)
structure Turn (P:Program)(w:World)(K:PySem.W.Frag)(tg:Expr)(J:It)(fp:List Addr)(it:Addr)(tn:Nat→Heap→Prop):Prop where
 mem:it∈fp
 obj:∀i h,tn i h→∀b∈fp,∃o,h.get? b=some o∧∀v,o.data≠ .cell v
 keep:∀i h h',tn i h→(∀b∈fp,∀o,h.get? b=some o→h'.get? b=some o)→tn i h'
 item:∀(X:Cx),X.prog=P→X.w=w→X.K=K→X.calm=true→∀(i:Nat) (pins:List (Addr ×Obj)) (s:Shared) (σ:St) (H:Hp) (E:Value→Shared→Prop),Inv X pins σ H s→(∀b∈fp,FpOk X pins H b)→tn i s.heap→J.go i H→
  wpAny (model P w) X.A (pyNext (.ref it)) (fun r s1=>∃u,r=some u∧
   wpAny (model P w) X.A (letOwnedTupleGo tg (.ref it) u) (fun _ s2=>∃x H',Inv X pins σ H' s2∧RelV x u∧J.yld i H x H'∧tn (i+1) s2.heap∧∀b∈fp,H' b=none) E s1) E s
 done:∀(X:Cx),X.prog=P→X.w=w→X.K=K→X.calm=true→∀(i:Nat) (pins:List (Addr ×Obj)) (s:Shared) (σ:St) (H:Hp) (E:Value→Shared→Prop),Inv X pins σ H s→(∀b∈fp,FpOk X pins H b)→tn i s.heap→J.stop i H→
  wpAny (model P w) X.A (pyNext (.ref it)) (fun r s1=>r=none∧Inv X pins σ H s1) E s
 self:∀(A:Around) (i:Nat) (s:Shared) (Q:Value→Shared→Prop) (E:Value→Shared→Prop),tn i s.heap→Q (.ref it) s→wpAny (model P w) A (pyIter (.ref it)) Q E s
abbrev TI:=St→Hp→(It→Hp→Prop)→Prop
def PIE (X:Cx)(pins:List (Addr ×Obj))(σ:St)(tg:Expr)(R:It→Hp→Prop)(itv:Value)(s2:Shared):Prop:=
 ∃(it:Addr) (fp:List Addr) (tn:Nat→Heap→Prop) (J:It) (H':Hp),itv=.ref it∧Inv X pins σ H' s2∧Turn X.prog X.w X.K tg J fp it tn∧tn 0 s2.heap∧(∀b∈fp,FpOk X pins H' b)∧R J H'
def PI (X:Cx)(tg iter:Expr)(wi:TI):Prop:=
 ∀(pins:List (Addr ×Obj)) (s:Shared) (σ:St) (H:Hp) (R:It→Hp→Prop),Inv X pins σ H s→wi σ H R→
  wpAny (model X.prog X.w) X.A (eval iter X.env) (fun v s1=>wpAny (model X.prog X.w) X.A (pyIter v) (PIE X pins σ tg R) X.xe s1) X.xe s
private theorem go_of {M:Model}{A:Around}{E:Value→Shared→Prop}{s:Shared}{tg:Expr}{it:Addr}{u:Value}{o:Obj}{n:String}{vs:Array Value}{Q:Unit→Shared→Prop}(ho:s.heap.get? it=some o)(hc:o.cls=.type n)(hd:o.data=.fields vs)
  (hn:["enumerate","zip","dict_itemiterator","dict_reverseitemiterator","odict_iterator","itertools.zip_longest","itertools.pairwise"].contains n=false) (hQ:Q () s):wpAny M A (letOwnedTupleGo tg (.ref it) u) Q E s:=by
 unfold letOwnedTupleGo
 cases tg <;> first
  | exact wpAny_pure hQ
  | (cases u <;> first
    | exact wpAny_pure hQ
    | (refine wpAny_bind (wpAny_load ho ?_)
       rw [hc,hd]
       show wpAny M A (if (["enumerate","zip","dict_itemiterator","dict_reverseitemiterator","odict_iterator","itertools.zip_longest","itertools.pairwise"].contains n && vs[0]? ==some (rawInt _))=true then _ else _) Q E s
       rw [if_neg (by intro h;rw [hn,Bool.false_and] at h;cases h)]
       exact wpAny_pure hQ))
def Itl (K:PySem.W.Frag)(a:Addr):It:=
 ⟨fun i H=>∃xs x,SqL K H a xs∧xs[i]? =some x,fun i H x H'=>H'=H∧∀xs,SqL K H a xs→xs[i]? =some x,fun i H=>∃xs,SqL K H a xs∧xs.length≤i⟩
def Itt (K:PySem.W.Frag)(a:Addr):It:=
 ⟨fun i H=>∃xs x,SqT K H a xs∧xs[i]? =some x,fun i H x H'=>H'=H∧∀xs,SqT K H a xs→xs[i]? =some x,fun i H=>∃xs,SqT K H a xs∧xs.length≤i⟩
def Itr (lo:Int)(n:Nat):It:=⟨fun i _=>i < n,fun i H x H'=>H'=H∧x=.int (lo+i),fun i _=>n≤i⟩
private theorem turn_list {P:Program}{w:World}{K:PySem.W.Frag}{tg:Expr}(a it:Addr):Turn P w K tg (Itl K a) [it] it (fun i h=>h.IsListIter it a i) where
 mem:=by simp
 obj:=fun i h st b hb=>by
  have e:b=it:=by simpa using hb
  subst e
  obtain ⟨o,e,c,d⟩:=st
  exact ⟨o,e,fun v z=>by rw [d] at z;cases z⟩
 keep:=fun i h h' st k=>st.at fun o e=>k it (by simp) o e
 item:=by
  intro X hP hw hK hc i pins s σ H E I hf st hg
  subst hP hw hK
  obtain ⟨xs,x,hq,hx⟩:=hg
  obtain ⟨its,rv,p,hz⟩:=I.list hq
  obtain ⟨u,hu,ru⟩:=rv.get hx
  obtain ⟨f0,f1,f2,f3,f4,f5⟩:=hf it (by simp)
  refine wpAny_pyNext_list_item st p.isList (x:=u) (by simpa using hu) fun h' st' sb=>?_
  have I1:Inv X pins σ H {s with heap:=h'}:=I.turned (t':=s.toks) (fun b o hb e=>(sb.2 b hb).trans e) f0 f1 f3 f4 f5
  obtain ⟨o,e,c,d⟩:=id st'
  exact ⟨u,rfl,go_of (s:={s with heap:=h'}) e c d (by decide) ⟨x,H,I1,ru,⟨rfl,fun ys hy=>by rw [I.list_inj hy hq];exact hx⟩,st',fun b hb=>(hf b hb).1⟩⟩
 done:=by
  intro X hP hw hK hc i pins s σ H E I hf st hg
  subst hP hw hK
  obtain ⟨xs,hq,hx⟩:=hg
  obtain ⟨its,rv,p,hz⟩:=I.list hq
  obtain ⟨f0,f1,f2,f3,f4,f5⟩:=hf it (by simp)
  have hl:=rv.length
  exact list_end_h (nit:=I.nit hc f3) (I.hs hc) st p.isList (by simp;omega) fun h' eb=>⟨rfl,I.turned (t':=s.toks) (fun b o hb e=>eb b o hb e) f0 f1 f3 f4 f5⟩
 self:=fun _ _ _ _ _ st h=>wpAny_pyIter_listiter st h
private theorem turn_tuple {P:Program}{w:World}{K:PySem.W.Frag}{tg:Expr}(a it:Addr):Turn P w K tg (Itt K a) [it] it (fun i h=>h.IsTupleIter it a i) where
 mem:=by simp
 obj:=fun i h st b hb=>by
  have e:b=it:=by simpa using hb
  subst e
  obtain ⟨o,e,c,d⟩:=st
  exact ⟨o,e,fun v z=>by rw [d] at z;cases z⟩
 keep:=fun i h h' st k=>st.at fun o e=>k it (by simp) o e
 item:=by
  intro X hP hw hK hc i pins s σ H E I hf st hg
  subst hP hw hK
  obtain ⟨xs,x,hq,hx⟩:=hg
  obtain ⟨its,rv,p,hz⟩:=I.tuple hq
  obtain ⟨u,hu,ru⟩:=rv.get hx
  obtain ⟨f0,f1,f2,f3,f4,f5⟩:=hf it (by simp)
  refine wpAny_pyNext_tuple_item st (show s.heap.IsTuple a its.toArray from p) (x:=u) (by simpa using hu) fun h' st' sb=>?_
  have I1:Inv X pins σ H {s with heap:=h'}:=I.turned (t':=s.toks) (fun b o hb e=>(sb.2 b hb).trans e) f0 f1 f3 f4 f5
  obtain ⟨o,e,c,d⟩:=id st'
  exact ⟨u,rfl,go_of (s:={s with heap:=h'}) e c d (by decide) ⟨x,H,I1,ru,⟨rfl,fun ys hy=>by rw [I.tuple_inj hy hq];exact hx⟩,st',fun b hb=>(hf b hb).1⟩⟩
 done:=by
  intro X hP hw hK hc i pins s σ H E I hf st hg
  subst hP hw hK
  obtain ⟨xs,hq,hx⟩:=hg
  obtain ⟨its,rv,p,hz⟩:=I.tuple hq
  obtain ⟨f0,f1,f2,f3,f4,f5⟩:=hf it (by simp)
  have hl:=rv.length
  exact tuple_end_h (nit:=I.nit hc f3) (I.hs hc) st (show s.heap.IsTuple a its.toArray from p) (by simp;omega) fun h' eb=>⟨rfl,I.turned (t':=s.toks) (fun b o hb e=>eb b o hb e) f0 f1 f3 f4 f5⟩
 self:=fun _ _ _ _ _ st h=>wpAny_pyIter_tupleiter st h
private theorem turn_range {P:Program}{w:World}{K:PySem.W.Frag}{tg:Expr}(it:Addr)(lo:Int)(n:Nat):Turn P w K tg (Itr lo n) [it] it (fun i h=>IsRangeIter h it (lo+(i:Nat) * 1) ((n:Int) - (i:Nat)) 1) where
 mem:=by simp
 obj:=fun i h st b hb=>by
  have e:b=it:=by simpa using hb
  subst e
  exact ⟨_,st,fun v z=>by
   have z':Data.fields _=Data.cell v:=z
   cases z'⟩
 keep:=fun i h h' st k=>k it (by simp) _ st
 item:=by
  intro X hP hw hK hc i pins s σ H E I hf st hg
  subst hP hw hK
  obtain ⟨f0,f1,f2,f3,f4,f5⟩:=hf it (by simp)
  refine wpAny_pyNext_range_item st (show (0:Int) < (n:Int) - (i:Nat) from by have:i < n:=hg;omega) fun h' st0 sb=>?_
  have st':IsRangeIter h' it (lo+((i+1:Nat):Int) * 1) ((n:Int) - ((i+1:Nat):Int)) 1:=by
   have e1:lo+(i:Nat) * 1+1=lo+((i+1:Nat):Int) * 1:=by omega
   have e2:(n:Int) - (i:Nat) - 1=(n:Int) - ((i+1:Nat):Int):=by omega
   rw [e1,e2] at st0;exact st0
  have kk:∀b o,b∉ [it]→s.heap.get? b=some o→h'.get? b=some o:=fun b o hb e=>(sb.2 b (by simpa using hb)).trans e
  generalize htk:s.toks+1=tk
  generalize s.toks=t
  have I1:Inv X pins σ H {s with heap:=h',toks:=tk}:=I.turned (fun b o hb e=>kk b o (by simpa using hb) e) f0 f1 f3 f4 f5
  refine ⟨_,rfl,go_of (s:={s with heap:=h',toks:=tk}) (n:= "range_iterator") st' rfl rfl (by decide) ⟨.int (lo+i),H,I1,⟨t,?_⟩,⟨rfl,rfl⟩,st',fun b hb=>(hf b hb).1⟩⟩
  rw [Int.mul_one]
 done:=by
  intro X hP hw hK hc i pins s σ H E I hf st hg
  subst hP hw hK
  obtain ⟨f0,f1,f2,f3,f4,f5⟩:=hf it (by simp)
  exact range_end_h (nit:=I.nit hc f3) (I.hs hc) st (by have:n≤i:=hg;omega) fun h' eb=>⟨rfl,I.turned (t':=s.toks) (fun b o hb e=>eb b o hb e) f0 f1 f3 f4 f5⟩
 self:=fun _ _ _ _ _ st h=>wpAny_pyIter_rangeiter st h
end L2
namespace L2
open PySem PySem.Spec PyProof.Rows
section
variable {X:Cx}{tg:Expr}
def iList (K:PySem.W.Frag)(tl:TE):TI:=fun σ H R=>tl σ H fun x H1=>∃a,x=.ref a∧(∃xs,SqL K H1 a xs)∧R (Itl K a) H1
def iTup (K:PySem.W.Frag)(tl:TE):TI:=fun σ H R=>tl σ H fun x H1=>∃a,x=.ref a∧(∃xs,SqT K H1 a xs)∧R (Itt K a) H1
private theorem pi_list {l:Expr}{tl:TE}(hl:PE X l tl):PI X tg l (iList X.K tl):=by
 intro pins s σ H R I h
 refine thn (hl pins s σ H _ I h) fun v s1 ⟨x,H1,I1,r1,q1⟩=>?_
 obtain ⟨a,e,⟨xs,hq⟩,q⟩:=q1
 subst e
 cases r1
 obtain ⟨its,rv,p,hz⟩:=I1.list hq
 refine wpAny_pyIter_list p.isList ?_
 refine ⟨s1.heap.objs.size,[s1.heap.objs.size],_,_,H1,rfl,I1.kept (t':=s1.toks) fun b o e=>Heap.get?_push_of_some _ e,turn_list a _,⟨_,Heap.get?_push_size _ rfl,rfl,rfl⟩,fun b hb=>?_,q⟩
 have e:b=s1.heap.objs.size:=by simpa using hb
 subst e
 exact I1.fpOk (Nat.le_refl _) (I1.hok.fresh (Nat.le_refl _))
private theorem pi_tup {l:Expr}{tl:TE}(hl:PE X l tl):PI X tg l (iTup X.K tl):=by
 intro pins s σ H R I h
 refine thn (hl pins s σ H _ I h) fun v s1 ⟨x,H1,I1,r1,q1⟩=>?_
 obtain ⟨a,e,⟨xs,hq⟩,q⟩:=q1
 subst e
 cases r1
 obtain ⟨its,rv,p,hz⟩:=I1.tuple hq
 refine wpAny_pyIter_tuple (show s1.heap.IsTuple a its.toArray from p) ?_
 refine ⟨s1.heap.objs.size,[s1.heap.objs.size],_,_,H1,rfl,I1.kept (t':=s1.toks) fun b o e=>Heap.get?_push_of_some _ e,turn_tuple a _,⟨_,Heap.get?_push_size _ rfl,rfl,rfl⟩,fun b hb=>?_,q⟩
 have e:b=s1.heap.objs.size:=by simpa using hb
 subst e
 exact I1.fpOk (Nat.le_refl _) (I1.hok.fresh (Nat.le_refl _))
private theorem range_it {pins:List (Addr ×Obj)}{σ:St}{H:Hp}{s:Shared}{R:It→Hp→Prop}{E:Value→Shared→Prop}{lo hi:Int}{t u v:Tok}{tk:Nat}(I:Inv X pins σ H s)(h1: -(2 ^ 62)≤lo)(h2:lo < 2 ^ 62)(h3: -(2 ^ 62)≤hi)(h4:hi < 2 ^ 62)
  (q:R (Itr lo (hi - lo).toNat) H):wpAny (model X.prog X.w) X.A (pyIter (.ref s.heap.objs.size)) (PIE X pins σ tg R) E {s with heap:=s.heap.push {cls:=.type "range",data:=.fields #[.int lo t,.int hi u,.int 1 v]},toks:=tk}:=by
 refine wpAny_pyIter_range (IsRange.new ..) (small_one h1 h2 h3 h4) ?_
 have I1:Inv X pins σ H {s with heap:=s.heap.push {cls:=.type "range",data:=.fields #[.int lo t,.int hi u,.int 1 v]},toks:=tk}:=I.kept fun b o e=>Heap.get?_push_of_some _ e
 refine ⟨(s.heap.push {cls:=.type "range",data:=.fields #[.int lo t,.int hi u,.int 1 v]}).objs.size,[(s.heap.push {cls:=.type "range",data:=.fields #[.int lo t,.int hi u,.int 1 v]}).objs.size],_,_,H,rfl,
  I1.kept (t':=tk) fun b o e=>Heap.get?_push_of_some _ e,turn_range _ lo (hi - lo).toNat,?_,fun b hb=>?_,q⟩
 ·have e1:lo+((0:Nat):Int) * 1=lo:=by simp
  have e2:(((hi - lo).toNat:Nat):Int) - ((0:Nat):Int)=Builtin.Range.rangeSize lo hi 1:=by rw [rangeSize_one];split <;> omega
  show IsRangeIter _ _ (lo+((0:Nat):Int) * 1) ((((hi - lo).toNat:Nat):Int) - ((0:Nat):Int)) 1
  rw [e1,e2]
  exact Heap.get?_push_size _ rfl
 ·have e:b=(s.heap.push {cls:=.type "range",data:=.fields #[.int lo t,.int hi u,.int 1 v]}).objs.size:=by simpa using hb
  subst e
  exact I1.fpOk (Nat.le_refl _) (I1.hok.fresh (Nat.le_refl _))
def iRng1 (ta:TA):TI:=fun σ H R=>ta σ H fun vs H1=>∃j:Int,vs=[.int j]∧ -(2 ^ 62)≤j∧j < 2 ^ 62∧R (Itr 0 j.toNat) H1
private theorem pi_range1 {a:Expr}{ta:TA}{p pos:Pos}(hg:Gl X "range") (hm:X.mg "range" =none) (ha:PA X [a] ta) (hs:starEach [a] X.env=[(false,eval a X.env)]:=by rfl):PI X tg (.Call (.Name "range" p) [a] [] pos) (iRng1 ta):=by
 intro pins s σ H R I h
 refine Call_ (ld_blt I hg hm boot_range (PyProof.Rows.callWith_type1 (thn (ha pos pins s σ H _ I h) fun us s1 ⟨vs,H1,I1,r1,q1⟩=>?_) hs rfl))
 obtain ⟨j,e,q1,q2,q⟩:=q1
 subst e
 cases r1 with
 | cons r rr=>
  cases rr
  obtain ⟨t,rfl⟩:=r
  exact call_range_1 (range_it I1 (by omega) (by omega) q1 q2 (by simpa using q))
def tFor (wi:TI)(g:TG)(tb:TS):TS:=fun D σ H=>wi σ H fun J H1=>∃W:Nat→Nat→St→Hp→Prop,(∃m,W 0 m σ H1)∧∀i m σ H,W i m σ H→
 (J.stop i H∧D.nx σ H)∨(J.go i H∧∃N:St→Hp→Prop,(∀σ' H',N σ' H'→∃m',m' < m∧W (i+1) m' σ' H')∧∀x H',J.yld i H x H'→g x σ H' fun σ2 H2=>tb {D with nx:=N,ct:=N,bk:=D.nx} σ2 H2)
def pinsAt (fp:List Addr)(h:Heap):List (Addr ×Obj):=fp.filterMap fun b=>(h.get? b).map fun o=>(b,o)
private theorem mem_pinsAt {fp:List Addr}{h:Heap}{b:Addr}{o:Obj}(hb:b∈fp)(e:h.get? b=some o):(b,o)∈pinsAt fp h:=List.mem_filterMap.mpr ⟨b,hb,by rw [e];rfl⟩
private theorem of_pinsAt {fp:List Addr}{h:Heap}{p:Addr ×Obj}(hp:p∈pinsAt fp h):p.1∈fp∧h.get? p.1=some p.2:=by
 obtain ⟨b,hb,e⟩:=List.mem_filterMap.mp hp
 cases q:h.get? b with
 | none=>rw [q] at e;cases e
 | some o=>
  rw [q] at e
  have e':(b,o)=p:=Option.some.inj e
  subst e'
  exact ⟨hb,q⟩
private theorem Inv.pinned {pins:List (Addr ×Obj)}{σ:St}{H:Hp}{s:Shared}{fp:List Addr}(I:Inv X pins σ H s)(hf:∀b∈fp,FpOk X pins H b)(ho:∀b∈fp,∃o,s.heap.get? b=some o∧∀v,o.data≠ .cell v):Inv X (pins++pinsAt fp s.heap) σ H s:=
 I.pins_of fun p hp=>(List.mem_append.mp hp).elim (fun z=>I.pin p (List.mem_append_right _ z)) fun z=>by
  obtain ⟨hb,e⟩:=of_pinsAt z
  obtain ⟨f0,f1,f2,_⟩:=hf p.1 hb
  obtain ⟨o,e',d⟩:=ho p.1 hb
  rw [e] at e';cases e'
  exact ⟨e,f0,f1,f2,d⟩
private theorem Inv.unpinned {pins pl:List (Addr ×Obj)}{σ:St}{H:Hp}{s:Shared}(I:Inv X (pins++pl) σ H s):Inv X pins σ H s:=I.pins_of fun p hp=>I.pin p (List.mem_append_right _ (List.mem_append_left _ hp))
private theorem ps_for {iter:Expr}{body:List Stmt}{wi:TI}{g:TG}{tb:TS}{pos:Pos}(hp:PassesOwn (model X.prog X.w) X.A X.env X.xe)(hc:X.calm=true)(hi:PI X tg iter wi)(hg:PG X tg g)(hb:PSs X body tb)
  (hs:∀x,foldedSetIterable iter X.env x=pure x:=by intro _;rfl):PS X (.For tg iter body [] pos) (tFor wi g tb):=by
 intro pins s σ H D I h
 refine wpAny_For (thn (hi pins s σ H _ I h) fun v s1 h1=>thn h1 fun itv s2 h2=>?_) hs
 obtain ⟨it,fp,tn,J,H2,e,I2,T,st2,f2,W,⟨m0,w0⟩,turn⟩:=h2
 subst e
 -- what stays true of the iterator's objects through the loop
 have stat:∀{H':Hp},(∀b∈fp,H' b=none)→∀b∈fp,FpOk X pins H' b:=fun hn b hb=>⟨hn b hb,(f2 b hb).2⟩
 refine codeAny_forLoop_any (fun n s'=>∃i σ' H',Inv X pins σ' H' s'∧tn i s'.heap∧(∀b∈fp,H' b=none)∧W i n σ' H') ?_ m0 ⟨0,σ,H2,I2,st2,fun b hb=>(f2 b hb).1,w0⟩
 rintro n s3 ⟨i,σ3,H3,I3,st3,fr3,w3⟩
 rcases turn i n σ3 H3 w3 with ⟨stop,qn⟩ | ⟨go,N,hN,step⟩
 ·refine wpAny_passesOwn hp (thn (T.done X rfl rfl rfl hc i pins s3 σ3 H3 X.xe I3 (stat fr3) st3 stop) fun r s4 ⟨hr,I4⟩=>?_)
  subst hr
  exact wpAny_execs_nil ⟨σ3,H3,I4,qn⟩
 ·refine wpAny_passesOwn hp (thn (T.item X rfl rfl rfl hc i pins s3 σ3 H3 X.xe I3 (stat fr3) st3 go) fun r s4 ⟨u,hr,h4⟩=>?_)
  subst hr
  refine wpAny_passesOwn hp (thn h4 fun _ s5 ⟨x,H5,I5,r5,y5,st5,fr5⟩=>?_)
  have I5':=I5.pinned (stat fr5) (T.obj _ _ st5)
  refine wpAny_passesOwn hp (thn (hg _ s5 σ3 H5 x u _ I5' r5 (step x H5 y5)) fun _ s6 ⟨σ6,H6,I6,q6⟩=>?_)
  refine wpAny_passesOwn hp (thn (hb _ s6 σ6 H6 _ I6 q6) fun f s7 q7=>?_)
  have again:∀{σ7:St} {H7:Hp},Inv X (pins++pinsAt fp s5.heap) σ7 H7 s7→N σ7 H7→∃m,m < n∧∃i σ' H',Inv X pins σ' H' s7∧tn i s7.heap∧(∀b∈fp,H' b=none)∧W i m σ' H':=fun {σ7 H7} I7 n7=>by
   obtain ⟨m',hm,w7⟩:=hN σ7 H7 n7
   refine ⟨m',hm,i+1,σ7,H7,I7.unpinned,T.keep _ _ _ st5 fun b hb o e=>(I7.pin (b,o) (List.mem_append_right _ (List.mem_append_right _ (mem_pinsAt hb e)))).1,fun b hb=>?_,w7⟩
   obtain ⟨o,e,d⟩:=T.obj _ _ st5 b hb
   exact (I7.pin (b,o) (List.mem_append_right _ (List.mem_append_right _ (mem_pinsAt hb e)))).2.1
  cases f with
  | next=>obtain ⟨σ7,H7,I7,n7⟩:=q7;exact again I7 n7
  | cont=>obtain ⟨σ7,H7,I7,n7⟩:=q7;exact again I7 n7
  | brk=>obtain ⟨σ7,H7,I7,q7⟩:=q7;exact ⟨σ7,H7,I7.unpinned,q7⟩
  | ret v=>obtain ⟨x7,σ7,H7,I7,r7,q7⟩:=q7;exact ⟨x7,σ7,H7,I7.unpinned,r7,q7⟩
end
private theorem for_list {K:PySem.W.Frag}{a:Addr}{xs:List V}{g:TG}{tb:TS}{D:Ends}{σ:St}{H:Hp}(Pv:Nat→St→Hp→Prop)(h0:Pv 0 σ H)(hl:∀i σ H,i≤xs.length→Pv i σ H→SqL K H a xs)
  (hs:∀i x σ H,xs[i]? =some x→Pv i σ H→g x σ H fun σ2 H2=>tb {D with nx:=Pv (i+1),ct:=Pv (i+1),bk:=D.nx} σ2 H2) (hd:∀σ H,Pv xs.length σ H→D.nx σ H):
  ∃W:Nat→Nat→St→Hp→Prop,(∃m,W 0 m σ H)∧∀i m σ H,W i m σ H→
   ((Itl K a).stop i H∧D.nx σ H)∨((Itl K a).go i H∧∃N:St→Hp→Prop,(∀σ' H',N σ' H'→∃m',m' < m∧W (i+1) m' σ' H')∧∀x H',(Itl K a).yld i H x H'→g x σ H' fun σ2 H2=>tb {D with nx:=N,ct:=N,bk:=D.nx} σ2 H2):=by
 refine ⟨fun i m σ H=>m=xs.length - i∧i≤xs.length∧Pv i σ H,⟨xs.length,by simp,Nat.zero_le _,h0⟩,?_⟩
 rintro i m σ H ⟨rfl,hi,p⟩
 have q:=hl i σ H hi p
 by_cases hlt:i < xs.length
 ·refine .inr ⟨⟨xs,xs[i],q,by simp [hlt]⟩,Pv (i+1),fun σ' H' p'=>⟨xs.length - (i+1),by omega,rfl,hlt,p'⟩,fun x H' y=>?_⟩
  obtain ⟨e,y⟩:=y
  subst e
  exact hs i x σ _ (y xs q) p
 ·have e:i=xs.length:=by omega
  subst e
  exact .inl ⟨⟨xs,q,Nat.le_refl _⟩,hd σ H p⟩
private theorem for_tup {K:PySem.W.Frag}{a:Addr}{xs:List V}{g:TG}{tb:TS}{D:Ends}{σ:St}{H:Hp}(Pv:Nat→St→Hp→Prop)(h0:Pv 0 σ H)(hl:∀i σ H,i≤xs.length→Pv i σ H→SqT K H a xs)
  (hs:∀i x σ H,xs[i]? =some x→Pv i σ H→g x σ H fun σ2 H2=>tb {D with nx:=Pv (i+1),ct:=Pv (i+1),bk:=D.nx} σ2 H2) (hd:∀σ H,Pv xs.length σ H→D.nx σ H):
  ∃W:Nat→Nat→St→Hp→Prop,(∃m,W 0 m σ H)∧∀i m σ H,W i m σ H→
   ((Itt K a).stop i H∧D.nx σ H)∨((Itt K a).go i H∧∃N:St→Hp→Prop,(∀σ' H',N σ' H'→∃m',m' < m∧W (i+1) m' σ' H')∧∀x H',(Itt K a).yld i H x H'→g x σ H' fun σ2 H2=>tb {D with nx:=N,ct:=N,bk:=D.nx} σ2 H2):=by
 refine ⟨fun i m σ H=>m=xs.length - i∧i≤xs.length∧Pv i σ H,⟨xs.length,by simp,Nat.zero_le _,h0⟩,?_⟩
 rintro i m σ H ⟨rfl,hi,p⟩
 have q:=hl i σ H hi p
 by_cases hlt:i < xs.length
 ·refine .inr ⟨⟨xs,xs[i],q,by simp [hlt]⟩,Pv (i+1),fun σ' H' p'=>⟨xs.length - (i+1),by omega,rfl,hlt,p'⟩,fun x H' y=>?_⟩
  obtain ⟨e,y⟩:=y
  subst e
  exact hs i x σ _ (y xs q) p
 ·have e:i=xs.length:=by omega
  subst e
  exact .inl ⟨⟨xs,q,Nat.le_refl _⟩,hd σ H p⟩
private theorem for_range {lo:Int}{n:Nat}{g:TG}{tb:TS}{D:Ends}{σ:St}{H:Hp}(Pv:Nat→St→Hp→Prop)(h0:Pv 0 σ H)
  (hs:∀i σ H,i < n→Pv i σ H→g (.int (lo+i)) σ H fun σ2 H2=>tb {D with nx:=Pv (i+1),ct:=Pv (i+1),bk:=D.nx} σ2 H2) (hd:∀σ H,Pv n σ H→D.nx σ H):
  ∃W:Nat→Nat→St→Hp→Prop,(∃m,W 0 m σ H)∧∀i m σ H,W i m σ H→
   ((Itr lo n).stop i H∧D.nx σ H)∨((Itr lo n).go i H∧∃N:St→Hp→Prop,(∀σ' H',N σ' H'→∃m',m' < m∧W (i+1) m' σ' H')∧∀x H',(Itr lo n).yld i H x H'→g x σ H' fun σ2 H2=>tb {D with nx:=N,ct:=N,bk:=D.nx} σ2 H2):=by
 refine ⟨fun i m σ H=>m=n - i∧i≤n∧Pv i σ H,⟨n,by simp,Nat.zero_le _,h0⟩,?_⟩
 rintro i m σ H ⟨rfl,hi,p⟩
 by_cases hlt:i < n
 ·refine .inr ⟨hlt,Pv (i+1),fun σ' H' p'=>⟨n - (i+1),by omega,rfl,hlt,p'⟩,fun x H' y=>?_⟩
  obtain ⟨e,y⟩:=y
  subst e y
  exact hs i σ _ hlt p
 ·have e:i=n:=by omega
  subst e
  exact .inl ⟨Nat.le_refl _,hd σ H p⟩
end L2
namespace L2
open PySem PySem.Spec PyProof.Rows
abbrev R2:=V→V→Hp→VK→Prop
def OpR (X:Cx)(f:Value→Value→Sem Value)(r:R2):Prop:=
 ∀(pins:List (Addr ×Obj)) (s:Shared) (σ:St) (H:Hp) (x y:V) (v u:Value) (Q:VK),Inv X pins σ H s→RelV x v→RelV y u→r x y H Q→
  wpAny (model X.prog X.w) X.A (f v u) (EP X pins σ Q) X.xe s
def UnR (X:Cx)(f:Value→Sem Value)(r:V→Hp→VK→Prop):Prop:=
 ∀(pins:List (Addr ×Obj)) (s:Shared) (σ:St) (H:Hp) (x:V) (v:Value) (Q:VK),Inv X pins σ H s→RelV x v→r x H Q→
  wpAny (model X.prog X.w) X.A (f v) (EP X pins σ Q) X.xe s
def CallR (X:Cx)(f:Value)(r:List V→Hp→VK→Prop):Prop:=
 ∀(pins:List (Addr ×Obj)) (s:Shared) (σ:St) (H:Hp) (xs:List V) (us:List Value) (Q:VK),Inv X pins σ H s→Vals xs us→r xs H Q→
  wpAny (model X.prog X.w) X.A (call f us) (EP X pins σ Q) X.xe s
def tOp (r:R2)(ta tb:TE):TE:=fun σ H Q=>ta σ H fun x H1=>tb σ H1 fun y H2=>r x y H2 Q
def tUn (r:V→Hp→VK→Prop)(ta:TE):TE:=fun σ H Q=>ta σ H fun x H1=>r x H1 Q
def rI (C:Int→Int→Prop)(g:Int→Int→V):R2:=fun x y H Q=>∃i j,x=.int i∧y=.int j∧C i j∧Q (g i j) H
def rI0 (g:Int→Int→V):R2:=fun x y H Q=>∃i j,x=.int i∧y=.int j∧Q (g i j) H
def rU (g:Int→V):V→Hp→VK→Prop:=fun x H Q=>∃i,x=.int i∧Q (g i) H
section
variable {X:Cx}{a b c:Expr}{ta tb tc:TE}{pos:Pos}
private theorem binT (ha:PE X a ta)(hb:PE X b tb){pins:List (Addr ×Obj)}{s:Shared}{σ:St}{H:Hp}{R:V→V→Hp→Prop}(I:Inv X pins σ H s)
  (h:ta σ H fun x H1=>tb σ H1 fun y H2=>R x y H2) {Q:Value→Shared→Prop} {f:Value→Value→Sem Value}
  (hf:∀v u s2 x y H2,Inv X pins σ H2 s2→RelV x v→RelV y u→R x y H2→wpAny (model X.prog X.w) X.A (f v u) Q X.xe s2):
  wpAny (model X.prog X.w) X.A (eval a X.env) (fun v s₁=>wpAny (model X.prog X.w) X.A (eval b X.env) (fun u s₂=>wpAny (model X.prog X.w) X.A (f v u) Q X.xe s₂) X.xe s₁) X.xe s:=by
 refine thn (ha pins s σ H _ I h) fun v s1 ⟨x,H1,I1,r1,q1⟩=>?_
 refine thn (hb pins s1 σ H1 _ I1 q1) fun u s2 ⟨y,H2,I2,r2,q2⟩=>?_
 exact hf v u s2 x y H2 I2 r1 r2 q2
private theorem pe_op {op:Operator}{r:R2}(ho:OpR X (binaryOp op) r)(ha:PE X a ta)(hb:PE X b tb):PE X (.BinOp a op b pos) (tOp r ta tb):=by
 intro pins s σ H Q I h
 exact wpAny_BinOp (binT ha hb I h fun v u s2 x y H2 I2 rx ry q=>ho pins s2 σ H2 x y v u Q I2 rx ry q)
private theorem pe_un {op:UnaryOp}{r:V→Hp→VK→Prop}(ho:UnR X (unaryOp op) r)(ha:PE X a ta):PE X (.UnaryOp op a pos) (tUn r ta):=by
 intro pins s σ H Q I h
 exact UnaryOp_ (thn (ha pins s σ H _ I h) fun v s1 ⟨x,H1,I1,r1,q1⟩=>ho pins s1 σ H1 x v Q I1 r1 q1)
private theorem opI {f:Value→Value→Sem Value}{C:Int→Int→Prop}{g:Int→Int→Int}
  (rule:∀(i j:Int) (t u:Tok) (s:Shared) (Q:Value→Shared→Prop) (E:Value→Shared→Prop),C i j→Q (.int (g i j) s.toks) {s with toks:=s.toks+1}→wpAny (model X.prog X.w) X.A (f (.int i t) (.int j u)) Q E s):
  OpR X f (rI C fun i j=>.int (g i j)):=by
 intro pins s σ H x y v u Q I rx ry h
 obtain ⟨i,j,rfl,rfl,hc,q⟩:=h
 obtain ⟨t,rfl⟩:=rx
 obtain ⟨t',rfl⟩:=ry
 exact rule i j t t' s _ _ hc ⟨.int (g i j),H,I.tok _,⟨_,rfl⟩,q⟩
private theorem opI0 {f:Value→Value→Sem Value}{g:Int→Int→Int}
  (rule:∀(i j:Int) (t u:Tok) (s:Shared) (Q:Value→Shared→Prop) (E:Value→Shared→Prop),Q (.int (g i j) s.toks) {s with toks:=s.toks+1}→wpAny (model X.prog X.w) X.A (f (.int i t) (.int j u)) Q E s):
  OpR X f (rI0 fun i j=>.int (g i j)):=by
 intro pins s σ H x y v u Q I rx ry h
 obtain ⟨i,j,rfl,rfl,q⟩:=h
 obtain ⟨t,rfl⟩:=rx
 obtain ⟨t',rfl⟩:=ry
 exact rule i j t t' s _ _ ⟨.int (g i j),H,I.tok _,⟨_,rfl⟩,q⟩
private theorem opB0 {f:Value→Value→Sem Value}{g:Int→Int→Bool}
  (rule:∀(i j:Int) (t u:Tok) (s:Shared) (Q:Value→Shared→Prop) (E:Value→Shared→Prop),Q (.bool (g i j)) s→wpAny (model X.prog X.w) X.A (f (.int i t) (.int j u)) Q E s):
  OpR X f (rI0 fun i j=>.bl (g i j)):=by
 intro pins s σ H x y v u Q I rx ry h
 obtain ⟨i,j,rfl,rfl,q⟩:=h
 obtain ⟨t,rfl⟩:=rx
 obtain ⟨t',rfl⟩:=ry
 exact rule i j t t' s _ _ ⟨.bl (g i j),H,I,rfl,q⟩
def CPow (i j:Int):Prop:=0≤j∧j≤1000000∧i.natAbs < 2 ^ 64
def CMul (i j:Int):Prop:=(-(2 ^ 64) < i∧i < 2 ^ 64)∨(-(2 ^ 64) < j∧j < 2 ^ 64)
private theorem CMul.ok {i j:Int}(h:CMul i j):IntMulOk i j:=by
 rcases h with ⟨h1,h2⟩ | ⟨h1,h2⟩
 ·exact .of_left (intBits_le_64 h1 h2)
 ·exact .of_right (intBits_le_64 h1 h2)
private theorem op_add:OpR X (binaryOp .Add) (rI0 fun i j=>.int (i+j)):=opI0 fun _ _ _ _ _ _ _ q=>add_int q
private theorem op_sub:OpR X (binaryOp .Sub) (rI0 fun i j=>.int (i - j)):=opI0 fun _ _ _ _ _ _ _ q=>sub_int q
private theorem op_mul:OpR X (binaryOp .Mult) (rI CMul fun i j=>.int (i * j)):=opI fun _ _ _ _ _ _ _ hc q=>mul_int q hc.ok
private theorem op_mod:OpR X (binaryOp .Mod) (rI (fun _ j=>0 < j) fun i j=>.int (i % j)):=opI fun i j _ _ _ _ _ hc q=>by
 have h1:(0:Int) < j:=hc
 exact mod_int' (by omega) (by rw [Int.fmod_eq_emod_of_nonneg i (by omega)];exact q)
private theorem op_pow:OpR X (binaryOp .Pow) (rI CPow fun i j=>.int (i ^ j.toNat)):=opI fun _ _ _ _ _ _ _ hc q=>pow_int_small hc.1 hc.2.1 hc.2.2 q
private theorem unI {f:Value→Sem Value}{g:Int→Int}
  (rule:∀(i:Int) (t:Tok) (s:Shared) (Q:Value→Shared→Prop) (E:Value→Shared→Prop),Q (.int (g i) s.toks) {s with toks:=s.toks+1}→wpAny (model X.prog X.w) X.A (f (.int i t)) Q E s):
  UnR X f (rU fun i=>.int (g i)):=by
 intro pins s σ H x v Q I rx h
 obtain ⟨i,rfl,q⟩:=h
 obtain ⟨t,rfl⟩:=rx
 exact rule i t s _ _ ⟨.int (g i),H,I.tok _,⟨_,rfl⟩,q⟩
private theorem un_neg:UnR X (unaryOp .USub) (rU fun i=>.int (-i)):=unI fun _ _ _ _ _ q=>neg_int q
end
def scal:V→V→Bool
 | .non,.non=>true | .non,.int _=>true | .int _,.non=>true | .non,.bl _=>true | .bl _,.non=>true | .non,.str _=>true | .str _,.non=>true
 | .int _,.int _=>true | .bl _,.bl _=>true | .str _,.str _=>true | .byt _,.byt _=>true
 | .int _,.str _=>true | .str _,.int _=>true | .bl _,.str _=>true | .str _,.bl _=>true
 | _,_=>false
def rEq:R2:=fun x y H Q=>scal x y=true∧Q (.bl (decide (x=y))) H
def rNe:R2:=fun x y H Q=>scal x y=true∧Q (.bl (!decide (x=y))) H
private theorem dec_int {i j:Int}:decide (V.int i=V.int j)=(i==j):=by
 rw [Bool.eq_iff_iff]
 simp
private theorem dec_bl {i j:Bool}:decide (V.bl i=V.bl j)=(i==j):=by
 rw [Bool.eq_iff_iff]
 simp
private theorem dec_str {i j:Str}:decide (V.str i=V.str j)=(i==j):=by
 rw [Bool.eq_iff_iff]
 simp
private theorem dec_byt {i j:Array UInt8}:decide (V.byt i=V.byt j)=(i.toList==j.toList):=by
 rw [Bool.eq_iff_iff]
 cases i
 cases j
 simp
section
variable {X:Cx}{a b c:Expr}{ta tb tc:TE}{pos:Pos}
private theorem fin_bl {pins:List (Addr ×Obj)}{σ:St}{H:Hp}{s:Shared}{Q:VK}{k k':Bool}(I:Inv X pins σ H s)(q:Q (.bl k) H)(e:k=k'):EP X pins σ Q (.bool k') s:=by
 subst e
 exact ⟨.bl k,H,I,rfl,q⟩
private theorem op_eq:OpR X (compareOp .Eq) rEq:=by
 intro pins s σ H x y v u Q I rx ry h
 obtain ⟨hs,q⟩:=h
 cases x with
 | non=>
  cases rx
  cases y with
  | non=>cases ry;exact PySem.EqNone.eq_none_none (fin_bl I q (by simp))
  | bl j=>cases ry;exact PySem.EqNone.eq_none_bool (fin_bl I q (by simp))
  | int j=>obtain ⟨t',rfl⟩:=ry;exact PySem.EqNone.eq_none_int (fin_bl I q (by simp))
  | str j=>obtain ⟨t',rfl⟩:=ry;exact PySem.EqNone.eq_none_str (fin_bl I q (by simp))
  | _=>exact absurd (show false=true from hs) Bool.false_ne_true
 | bl i=>
  cases rx
  cases y with
  | non=>cases ry;exact PySem.EqNone.eq_bool_none (fin_bl I q (by simp))
  | bl j=>cases ry;exact eq_bool (fin_bl I q dec_bl)
  | str j=>obtain ⟨t',rfl⟩:=ry;exact PySem.EqMixed.eq_bool_str (fin_bl I q (by simp))
  | _=>exact absurd (show false=true from hs) Bool.false_ne_true
 | int i=>
  obtain ⟨t,rfl⟩:=rx
  cases y with
  | non=>cases ry;exact PySem.EqNone.eq_int_none (fin_bl I q (by simp))
  | int j=>obtain ⟨t',rfl⟩:=ry;exact eq_int (fin_bl I q dec_int)
  | str j=>obtain ⟨t',rfl⟩:=ry;exact PySem.EqMixed.eq_int_str (fin_bl I q (by simp))
  | _=>exact absurd (show false=true from hs) Bool.false_ne_true
 | str i=>
  obtain ⟨t,rfl⟩:=rx
  cases y with
  | non=>cases ry;exact PySem.EqNone.eq_str_none (fin_bl I q (by simp))
  | bl j=>cases ry;exact PySem.EqMixed.eq_str_bool (fin_bl I q (by simp))
  | int j=>obtain ⟨t',rfl⟩:=ry;exact PySem.EqMixed.eq_str_int (fin_bl I q (by simp))
  | str j=>obtain ⟨t',rfl⟩:=ry;exact eq_str (fin_bl I q dec_str)
  | _=>exact absurd (show false=true from hs) Bool.false_ne_true
 | byt i=>
  obtain ⟨t,rfl⟩:=rx
  cases y with
  | byt j=>obtain ⟨t',rfl⟩:=ry;exact PySem.W.eq_bytes (fin_bl I q dec_byt)
  | _=>exact absurd (show false=true from hs) Bool.false_ne_true
 | _=>cases y <;> exact absurd (show false=true from hs) Bool.false_ne_true
private theorem op_ne:OpR X (compareOp .NotEq) rNe:=by
 intro pins s σ H x y v u Q I rx ry h
 obtain ⟨hs,q⟩:=h
 cases x with
 | non=>
  cases rx
  cases y with
  | non=>cases ry;exact PySem.EqNone.ne_none_none (fin_bl I q (by simp))
  | bl j=>cases ry;exact PySem.EqNone.ne_none_bool (fin_bl I q (by simp))
  | int j=>obtain ⟨t',rfl⟩:=ry;exact PySem.EqNone.ne_none_int (fin_bl I q (by simp))
  | str j=>obtain ⟨t',rfl⟩:=ry;exact PySem.EqNone.ne_none_str (fin_bl I q (by simp))
  | _=>exact absurd (show false=true from hs) Bool.false_ne_true
 | bl i=>
  cases rx
  cases y with
  | non=>cases ry;exact PySem.EqNone.ne_bool_none (fin_bl I q (by simp))
  | bl j=>cases ry;exact ne_bool (fin_bl I q (congrArg not dec_bl))
  | str j=>obtain ⟨t',rfl⟩:=ry;exact PySem.EqMixed.ne_bool_str (fin_bl I q (by simp))
  | _=>exact absurd (show false=true from hs) Bool.false_ne_true
 | int i=>
  obtain ⟨t,rfl⟩:=rx
  cases y with
  | non=>cases ry;exact PySem.EqNone.ne_int_none (fin_bl I q (by simp))
  | int j=>obtain ⟨t',rfl⟩:=ry;exact ne_int (fin_bl I q (congrArg not dec_int))
  | str j=>obtain ⟨t',rfl⟩:=ry;exact PySem.EqMixed.ne_int_str (fin_bl I q (by simp))
  | _=>exact absurd (show false=true from hs) Bool.false_ne_true
 | str i=>
  obtain ⟨t,rfl⟩:=rx
  cases y with
  | non=>cases ry;exact PySem.EqNone.ne_str_none (fin_bl I q (by simp))
  | bl j=>cases ry;exact PySem.EqMixed.ne_str_bool (fin_bl I q (by simp))
  | int j=>obtain ⟨t',rfl⟩:=ry;exact PySem.EqMixed.ne_str_int (fin_bl I q (by simp))
  | str j=>obtain ⟨t',rfl⟩:=ry;exact ne_str (fin_bl I q (congrArg not dec_str))
  | _=>exact absurd (show false=true from hs) Bool.false_ne_true
 | byt i=>
  obtain ⟨t,rfl⟩:=rx
  cases y with
  | byt j=>obtain ⟨t',rfl⟩:=ry;exact PySem.W.ne_bytes (fin_bl I q (congrArg not dec_byt))
  | _=>exact absurd (show false=true from hs) Bool.false_ne_true
 | _=>cases y <;> exact absurd (show false=true from hs) Bool.false_ne_true
private theorem op_le:OpR X (compareOp .LtE) (rI0 fun i j=>.bl (decide (i≤j))):=opB0 fun _ _ _ _ _ _ _ q=>le_int q
private theorem op_gt:OpR X (compareOp .Gt) (rI0 fun i j=>.bl (decide (j < i))):=opB0 fun _ _ _ _ _ _ _ q=>gt_int q
private theorem op_isN:OpR X (compareOp .Is) (fun x y H Q=>y=.non∧Q (.bl (decide (x=.non))) H):=by
 intro pins s σ H x y v u Q I rx ry h
 obtain ⟨rfl,q⟩:=h
 cases ry
 refine is_none_gen (fin_bl I q ?_)
 cases x <;> first
  | (cases rx;rfl)
  | (obtain ⟨t,rfl⟩:=rx;rfl)
private theorem nomark (b:Expr){op:CmpOp}(h:op≠ .In:=by decide)(h2:op≠ .NotIn:=by decide):behindInMarks op b=false:=by
 have e1:(op==CmpOp.In)=false:=by cases op <;> first | rfl | exact absurd rfl h
 have e2:(op==CmpOp.NotIn)=false:=by cases op <;> first | rfl | exact absurd rfl h2
 cases b <;> simp [behindInMarks,e1,e2]
private theorem pe_cmpR {op:CmpOp}{r:R2}(ho:OpR X (compareOp op) r)(ha:PE X a ta)(hb:PE X b tb)(hm:behindInMarks op b=false):PE X (.Compare a [op] [b] pos) (tOp r ta tb):=by
 intro pins s σ H Q I h
 exact wpAny_Compare1 (binT ha hb I h fun v u s2 x y H2 I2 rx ry q=>ho pins s2 σ H2 x y v u Q I2 rx ry q) hm
def tTest (t:TE):TT:=fun σ H Q=>t σ H fun x H'=>∃k,x=.bl k∧Q k H'
private theorem pt_cmpR {op:CmpOp}{r:R2}(ho:OpR X (compareOp op) r)(ha:PE X a ta)(hb:PE X b tb)(hm:behindInMarks op b=false):PT X (.Compare a [op] [b] pos) (tTest (tOp r ta tb)):=by
 intro pins s σ H Q I h
 refine wpAny_isTrue_Compare1 (thn (ha pins s σ H _ I h) fun v s1 ⟨x,H1,I1,r1,q1⟩=>thn (hb pins s1 σ H1 _ I1 q1) fun u s2 ⟨y,H2,I2,r2,q2⟩=>
  thn (ho pins s2 σ H2 x y v u _ I2 r1 r2 q2) fun c s3 ⟨z,H3,I3,r3,k,e,q3⟩=>?_) hm
 subst e
 cases r3
 exact wpAny_truthy_bool ⟨H3,I3,q3⟩
def tChain (r r':R2)(ta tb tc:TE):TE:=fun σ H Q=>ta σ H fun x H1=>tb σ H1 fun y H2=>r x y H2 fun z H3=>∃k,z=.bl k∧
 (if k=true then tc σ H3 fun w' H4=>r' y w' H4 Q else Q (.bl false) H3)
private theorem pt_chain {op op':CmpOp}{r r':R2}(ho:OpR X (compareOp op) r)(ho':OpR X (compareOp op') r')(ha:PE X a ta)(hb:PE X b tb)(hc:PE X c tc)
  (hm:lastMarks [op,op'] [b,c]=false:=by with_unfolding_all rfl):PT X (.Compare a [op,op'] [b,c] pos) (tTest (tChain r r' ta tb tc)):=by
 intro pins s σ H Q I h
 refine isTrue_chain (thn (ha pins s σ H _ I h) fun v s1 ⟨x,H1,I1,r1,q1⟩=>test_link (thn (hb pins s1 σ H1 _ I1 q1) fun u s2 ⟨y,H2,I2,r2,q2⟩=>
  thn (ho pins s2 σ H2 x y v u _ I2 r1 r2 q2) fun d s3 ⟨z,H3,I3,r3,k,e,q3⟩=>?_)) hm
 subst e
 cases r3
 refine wpAny_truthy_bool ?_
 cases k with
 | false=>
  obtain ⟨k',e',q'⟩:=q3
  cases e'
  exact ite_ff ⟨H3,I3,q'⟩
 | true=>
  refine ite_tt (test_last (thn (hc pins s3 σ H3 _ I3 q3) fun w' s4 ⟨z',H4,I4,r4,q4⟩=>thn (ho' pins s4 σ H4 y z' u w' _ I4 r2 r4 q4) fun d' s5 ⟨z2,H5,I5,r5,k2,e2,q5⟩=>?_))
  subst e2
  cases r5
  exact wpAny_truthy_bool ⟨H5,I5,q5⟩
private theorem line63:(sizeLine:Nat) < 2 ^ 63:=by rw [sizeLine_eq];decide
private theorem op_add_str:OpR X (binaryOp .Add) (fun x y H Q=>∃i j,x=.str i∧y=.str j∧i.length+j.length≤sizeLine∧Q (.str (i++j)) H):=by
 intro pins s σ H x y v u Q I rx ry h
 obtain ⟨i,j,rfl,rfl,hz,q⟩:=h
 obtain ⟨t,rfl⟩:=rx
 obtain ⟨t',rfl⟩:=ry
 exact add_str (fun t' tk=>⟨.str (i++j),H,I.tok _,⟨_,rfl⟩,q⟩) hz
private theorem vals1 {x:V}{us:List Value}(r:Vals [x] us):∃u,us=[u]∧RelV x u:=by
 cases r with
 | cons r1 r2=>cases r2;exact ⟨_,rfl,r1⟩
private theorem vals2 {x y:V}{us:List Value}(r:Vals [x,y] us):∃u w',us=[u,w']∧RelV x u∧RelV y w':=by
 cases r with
 | cons r1 r2=>
  cases r2 with
  | cons r3 r4=>cases r4;exact ⟨_,_,rfl,r1,r3⟩
private theorem call_abs:CallR X (.builtin "abs") (fun xs H Q=>∃i,xs=[.int i]∧Q (.int (if i < 0 then -i else i)) H):=by
 intro pins s σ H xs us Q I r h
 obtain ⟨i,rfl,q⟩:=h
 obtain ⟨u,rfl,t,rfl⟩:=vals1 r
 exact call_abs_int fun u tk=>⟨.int (if i < 0 then -i else i),H,I.tok _,⟨_,rfl⟩,q⟩
private theorem call_int1:CallR X (.type "int") (fun xs H Q=>(∃i,xs=[.int i]∧Q (.int i) H)∨∃k,xs=[.bl k]∧Q (.int (if k then 1 else 0)) H):=by
 intro pins s σ H xs us Q I r h
 rcases h with ⟨i,rfl,q⟩ | ⟨k,rfl,q⟩
 ·obtain ⟨u,rfl,t,rfl⟩:=vals1 r
  exact call_int_int ⟨.int i,H,I,⟨_,rfl⟩,q⟩
 ·obtain ⟨u,rfl,r1⟩:=vals1 r
  cases r1
  exact call_int_bool ⟨.int (if k then 1 else 0),H,I.tok _,⟨_,rfl⟩,q⟩
private theorem call_ord:CallR X (.builtin "ord") (fun xs H Q=>∃x,xs=[.str x]∧x.length=1∧Q (.int (x.cps.getD 0 0:Nat)) H):=by
 intro pins s σ H xs us Q I r h
 obtain ⟨x,rfl,hz,q⟩:=h
 obtain ⟨u,rfl,t,rfl⟩:=vals1 r
 exact ord_of_one hz ⟨.int _,H,I.tok _,⟨_,rfl⟩,q⟩
end
end L2
namespace L2
open PySem PySem.Spec PyProof.Rows
structure ObjM (h:Heap)(x dx C:Addr)(mA:Str→Option Value):Prop where
 obj:h.get? x=some (PySem.W.instObj C dx)
 ns:h.Ns1 dx mA
 ne:dx≠x
private theorem lookIn_ns {h:Heap}{dx:Addr}{mA:Str→Option Value}(n:h.Ns1 dx mA):∃od,h.get? dx=some od∧∀name,PySem.W.lookIn name od=some (mA name):=by
 obtain ⟨o,es,ep,ho,hd,hk,_,hm⟩:=n
 refine ⟨o,ho,fun name=>?_⟩
 have e:=hm name
 unfold nsFind findBy at e
 rw [←Array.find?_toList] at e
 unfold PySem.W.lookIn
 rw [hd]
 dsimp only
 split
 ·rename_i y q
  rw [q] at e
  exact congrArg some e
 ·rename_i q
  rw [q] at e
  have a:es.toList.any (·.refKey)=false:=by
   rw [List.any_eq_false]
   intro y hy
   obtain ⟨z,t,hkey⟩:=hk y (Array.mem_toList_iff.mp hy)
   simp [DictEntry.refKey,hkey]
  have a':¬es.toList.any (·.refKey)=true:=by rw [a];exact Bool.false_ne_true
  rw [if_neg a']
  exact congrArg some e
private theorem ObjM.look {h:Heap}{x dx C:Addr}{mA:Str→Option Value}(I:ObjM h x dx C mA):∃od,PySem.W.InstAt h x (PySem.W.instObj C dx) C (some od)∧∀name,PySem.W.lookIn name od=some (mA name):=
 let ⟨od,ho,hl⟩:=lookIn_ns I.ns
 ⟨od,⟨I.obj,rfl,rfl,ho⟩,hl⟩
section
variable {prog:Program}{w:World}{A:Around}{E:Value→Shared→Prop}{s:Shared}{K:PySem.W.Frag}{x dx C f:Addr}{mA:Str→Option Value}{name:Str}{v:Value}
private theorem get_map {expr:Bool}{Q:Value→Shared→Prop}(X:K.In s.heap)(I:ObjM s.heap x dx C mA)(hg:PySem.W.plainGet K C name=true)(hh:PySem.W.hasDictIn K C=true)
  (ha:PySem.W.findIn K (.ref C) name=some none) (hv:mA name=some v) (hv':PySem.W.handedIn v=true) (h:Q v {s with toks:=s.toks+1}):
  wpAny (model prog w) A (getAttr (.ref x) name expr) Q E s:=by
 obtain ⟨od,J,hl⟩:=I.look
 exact PySem.W.get_value X J (PySem.W.plainGet_of hg).1 (PySem.W.findObj_own hh ha rfl (by rw [hl,hv])) hv' h
private theorem get_meth {pl:Sem Bool}{Q:Value ×List Value→Shared→Prop}(X:K.In s.heap)(I:ObjM s.heap x dx C mA)(hg:PySem.W.plainGet K C name=true)
  (hf:PySem.W.findIn K (.ref C) name=some (some (.ref f))) (ht:PySem.W.isFn K (.ref f)=true) (hv:mA name=none) (h:Q (.ref f,[.ref x]) s):
  wpAny (model prog w) A (getMethod (.ref x) name pl) Q E s:=by
 obtain ⟨od,J,hl⟩:=I.look
 exact PySem.W.method_fn X J (PySem.W.plainGet_of hg).1 (PySem.W.plainGet_of hg).2 hf (beq_iff_eq.mp ht) (by show (PySem.W.lookIn name od).map (·.isSome)=some false;rw [hl,hv];rfl) h
private theorem set_map {ns:List Str}{Q:Unit→Shared→Prop}(X:K.In s.heap)(I:ObjM s.heap x dx C mA)
  (hs:PySem.W.findIn K (.ref C) "__setattr__" =some (some (.builtin "object.__setattr__"))) (hp:PySem.W.plainOver K C=true) (ht:PySem.W.takerIn K C name=some none) (hh:PySem.W.hasDictIn K C=true)
  (hw:PySem.Within mA ns) (hsz:ns.length≤sizeLine)
  (h:∀h',ObjM h' x dx C (fun y=>if y=name then some v else mA y)→Heap.SameBut dx s.heap h'→Q () {s with heap:=h',toks:=s.toks+2}):
  wpAny (model prog w) A (setAttr (.ref x) name v) Q E s:=by
 obtain ⟨od,J,hl⟩:=I.look
 refine PySem.W.set_plain X J hs (PySem.W.osa_open (s:={s with toks:=s.toks+1}) (r:=none) X J hp ht fun b=>?_)
 obtain ⟨cd,hc,hd'⟩:=PySem.W.any_some hh
 have hx:s.heap.get? x=some ⟨.ref C,some dx,.plain, #[]⟩:=I.obj
 refine wpAny_bind (wpAny_pure (wpAny_bind (wpAny_bind (wpAny_loadPart hx (wpAny_bind (PySem.W.Looks.here (s:={s with toks:=s.toks+1}) (PySem.W.looks_clsIn X hc) ?_))))))
 rw [hd']
 refine wpAny_pure (a:=some dx) (wpAny_bind (wpAny_pure (wpAny_bind ?_)))
 refine wpAny_nsSet1 (s:={s with toks:=s.toks+1}) I.ns fun h' hn2 hs2=>?_
 obtain ⟨oD,esD,epD,hoD,hdD,hcD⟩:=hn2.count (PySem.Within.cons name v hw)
 refine wpAny_bind (wpAny_lookBehind hoD (by rw [hdD];exact pastItsLine_dict (Nat.le_trans hcD (by rw [List.length_cons];omega))) ?_)
 exact wpAny_pure (h _ ⟨(hs2.2 _ (Ne.symm I.ne)).trans I.obj,hn2,I.ne⟩ hs2)
private theorem make_map {R:Result→Shared→Prop}{vs:List Value}{kw:List (Str ×Value)}(X:K.In s.heap)(hm:PySem.W.makesIn K C=true)
  (hi:PySem.W.findIn K (.ref C) "__init__" =some (some (.ref f))) (hf:PySem.W.typeIn K (.ref f)=some (.type "function"))
  (h:codeAny (model prog w) (A.under (.builtin "type.__call__" ⟨.ref C::vs,kw⟩)) (.call (.ref f) ⟨.ref (s.heap.objs.size+1)::vs,kw⟩) (PySem.W.InitBack (s.heap.objs.size+1) R)
   {s with heap:=(s.heap.push PySem.W.emptyDict).push (PySem.W.instObj C s.heap.objs.size)}):
  codeAny (model prog w) A (.call (.ref C) ⟨vs,kw⟩) R s:=by
 obtain ⟨hh,g,d,t,os⟩:=s
 exact PySem.W.make_core (PySem.W.makes_of X hm) (PySem.W.looks_findIn X hi) (fun self=>PySem.W.bind_fn X self hf) (.inl rfl) h
end
def putF (f:Str)(v:V):List (Str ×V)→List (Str ×V)
 | []=>[(f,v)]
 | (g,x)::r=>if g=f then (g,v)::r else (g,x)::putF f v r
private theorem lookup_putF (f g:Str)(v:V):∀fs:List (Str ×V),(putF f v fs).lookup g=if g=f then some v else fs.lookup g
 | []=>by
  show List.lookup g [(f,v)]=_
  by_cases h:g=f
  ·have hb:(g==f)=true:=beq_iff_eq.mpr h
   simp only [List.lookup,hb,if_pos h]
  ·have hb:(g==f)=false:=beq_eq_false_iff_ne.mpr h
   simp only [List.lookup,hb,if_neg h]
 | (k,x)::r=>by
  have ih:=lookup_putF f g v r
  rw [show putF f v ((k,x)::r)=(if k=f then (k,v)::r else (k,x)::putF f v r) from rfl]
  by_cases hk:k=f
  ·rw [if_pos hk]
   by_cases h:g=k
   ·have hb:(g==k)=true:=beq_iff_eq.mpr h
    simp only [List.lookup,hb,if_pos (h.trans hk)]
   ·have hb:(g==k)=false:=beq_eq_false_iff_ne.mpr h
    simp only [List.lookup,hb,if_neg (fun e:g=f=>h (e.trans hk.symm))]
  ·rw [if_neg hk]
   by_cases h:g=k
   ·have hb:(g==k)=true:=beq_iff_eq.mpr h
    simp only [List.lookup,hb,if_neg (fun e:g=f=>hk (h.symm.trans e))]
   ·have hb:(g==k)=false:=beq_eq_false_iff_ne.mpr h
    simp only [List.lookup,hb]
    exact ih
private theorem keys_putF (f:Str)(v:V):∀fs:List (Str ×V),f∈(putF f v fs).map (·.1)∧∀g,g∈fs.map (·.1)→g∈(putF f v fs).map (·.1)
 | []=>⟨by simp [putF],fun g h=>by simp at h⟩
 | (k,x)::r=>by
  obtain ⟨i1,i2⟩:=keys_putF f v r
  rw [show putF f v ((k,x)::r)=(if k=f then (k,v)::r else (k,x)::putF f v r) from rfl]
  by_cases hk:k=f
  ·rw [if_pos hk]
   subst hk
   exact ⟨by simp,fun g h=>by simpa using h⟩
  ·rw [if_neg hk]
   refine ⟨?_,fun g h=>?_⟩
   ·rw [List.map_cons]
    exact List.mem_cons_of_mem _ i1
   ·rw [List.map_cons] at h ⊢
    rcases List.mem_cons.mp h with e | e
    ·exact List.mem_cons.mpr (.inl e)
    ·exact List.mem_cons_of_mem _ (i2 g e)
private theorem length_putF (f:Str)(v:V):∀fs:List (Str ×V),(putF f v fs).length≤fs.length+1
 | []=>by simp [putF]
 | (k,x)::r=>by
  have ih:=length_putF f v r
  rw [show putF f v ((k,x)::r)=(if k=f then (k,v)::r else (k,x)::putF f v r) from rfl]
  by_cases hk:k=f
  ·rw [if_pos hk,List.length_cons,List.length_cons];omega
  ·rw [if_neg hk,List.length_cons,List.length_cons];omega
private theorem RelO.some_of {v:V}{o:Option Value}(r:RelO (some v) o):∃u,o=some u∧RelV v u:=by
 cases o with
 | none=>exact (show False from r).elim
 | some u=>exact ⟨u,rfl,r⟩
private theorem RelO.none_of {o:Option Value}(r:RelO none o):o=none:=by
 cases o with
 | none=>rfl
 | some u=>exact (show False from r).elim
private theorem handed_of {v:V}{u:Value}(r:RelV v u):PySem.W.handedIn u=true:=by
 cases v with
 | non=>cases (show u=Value.none from r);rfl
 | bl b=>cases (show u=Value.bool b from r);rfl
 | int i=>obtain ⟨t,e⟩:=(show∃t,u=Value.int i t from r);cases e;rfl
 | str x=>obtain ⟨t,e⟩:=(show∃t,u=Value.str x t from r);cases e;rfl
 | byt b=>obtain ⟨t,e⟩:=(show∃t,u=Value.bytes b t from r);cases e;rfl
 | flt b=>obtain ⟨t,e⟩:=(show∃t,u=Value.float b t from r);cases e;rfl
 | ref a=>cases (show u=Value.ref a from r);rfl
 | ty n=>cases (show u=Value.type n from r);rfl
section
variable {P:Program}{w:World}{H H':Hp}{h h':Heap}{a C dx:Addr}{fs fs':List (Str ×V)}
private theorem ins_get (hok:HOk P w H h)(e:H a=some (.ins C dx fs)):∃mA,ObjM h a dx C mA∧(∀f,RelO (fs.lookup f) (mA f))∧PySem.Within mA (fs.map (·.1))∧fs.length≤1000∧H dx=some (.own a):=by
 obtain ⟨d,z,ne,ob,mA,n,r,q⟩:=(show ObjOk P w H h a (.ins C dx fs) from hok a _ e)
 exact ⟨mA,⟨ob,n,ne⟩,r,q,z,d⟩
end
structure Cls (K:PySem.W.Frag)(C:Addr):Prop where
 pg:PySem.W.plainGet K C Str.empty=true
 hd:PySem.W.hasDictIn K C=true
 po:PySem.W.plainOver K C=true
 sa:PySem.W.findIn K (.ref C) "__setattr__" =some (some (.builtin "object.__setattr__"))
private theorem Cls.get {K:PySem.W.Frag}{C:Addr}(c:Cls K C)(f:Str):PySem.W.plainGet K C f=true:=c.pg
def NoAttr (K:PySem.W.Frag)(C:Addr)(f:Str):Prop:=PySem.W.findIn K (.ref C) f=some none
private theorem NoAttr.taker {K:PySem.W.Frag}{C:Addr}{f:Str}(n:NoAttr K C f):PySem.W.takerIn K C f=some none:=by
 unfold PySem.W.takerIn
 rw [show PySem.W.findIn K (.ref C) f=some none from n]
 rfl
structure Con (K:PySem.W.Frag)(C:Addr)(f:Str)(v:V)(u:Value):Prop where
 at_:PySem.W.findIn K (.ref C) f=some (some u)
 rel:RelV v u
 get:PySem.W.specialIn K u "__get__" =some none
 cp:PySem.W.copiedNames.contains f=false
structure Meth (K:PySem.W.Frag)(C:Addr)(m:Str)(f:Addr):Prop where
 at_:PySem.W.findIn K (.ref C) m=some (some (.ref f))
 fn:PySem.W.isFn K (.ref f)=true
 kp:PySem.W.keepIn K (.ref f)=true
section
variable {X:Cx}{pins:List (Addr ×Obj)}{σ:St}{H:Hp}{s:Shared}{a C dx:Addr}{fs:List (Str ×V)}{f:Str}{v:V}{A:Around}{E:Value→Shared→Prop}
private theorem getattr_ok {b:Bool}{Q:Value→Shared→Prop}(I:Inv X pins σ H s)(e:H a=some (.ins C dx fs))(c:Cls X.K C)(n:NoAttr X.K C f)(l:fs.lookup f=some v)
  (h:∀u s',Inv X pins σ H s'→RelV v u→Q u s'):wpAny (model X.prog X.w) A (getAttr (.ref a) f b) Q E s:=by
 obtain ⟨mA,O,r,_,_,_⟩:=ins_get I.hok e
 obtain ⟨u,hu,ru⟩:=RelO.some_of (v:=v) (o:=mA f) (by rw [←l];exact r f)
 exact get_map I.kIn O (c.get f) c.hd n hu (handed_of ru) (h u _ (I.tok _) ru)
private theorem getmeth_ok {m:Str}{g:Addr}{pl:Sem Bool}{Q:Value ×List Value→Shared→Prop}(I:Inv X pins σ H s)(e:H a=some (.ins C dx fs))(c:Cls X.K C)(k:Meth X.K C m g)(l:fs.lookup m=none)
  (h:Q (.ref g,[.ref a]) s):wpAny (model X.prog X.w) A (getMethod (.ref a) m pl) Q E s:=by
 obtain ⟨mA,O,r,_,_,_⟩:=ins_get I.hok e
 have hn:mA m=none:=RelO.none_of (by rw [←l];exact r m)
 exact get_meth I.kIn O (c.get m) k.at_ k.fn hn h
private theorem setattr_ok {y:V}{u:Value}{Q:Unit→Shared→Prop}(I:Inv X pins σ H s)(e:H a=some (.ins C dx fs))(c:Cls X.K C)(n:NoAttr X.K C f)(hl:fs.length < 1000)(ry:RelV y u)
  (h:∀s',Inv X pins σ (upd H a (.ins C dx (putF f y fs))) s'→Q () s'):wpAny (model X.prog X.w) A (setAttr (.ref a) f u) Q E s:=by
 obtain ⟨mA,O,r,wi,_,ho⟩:=ins_get I.hok e
 have hz:(fs.map (·.1)).length≤sizeLine:=by rw [List.length_map,sizeLine_eq];omega
 refine set_map I.kIn O c.sa c.po n.taker c.hd wi hz fun h' O' sb=>h _ ?_
 have hd:∃o,h'.get? dx=some o:=let ⟨o,_,_,e',_⟩:=O'.ns;⟨o,e'⟩
 refine I.write (x:=a) (e:=dx) (by rw [e];exact True.intro) (.inr ho) (fun b q hb z=>(sb.2 b hb).trans z) hd ?_
 refine ⟨by rw [upd_ne O.ne];exact ho,?_,O.ne,O'.obj,_,O'.ns,fun g=>?_,fun g hg=>?_⟩
 ·have:=length_putF f y fs;omega
 ·show RelO ((putF f y fs).lookup g) (if g=f then some u else mA g)
  rw [lookup_putF]
  by_cases q:g=f
  ·rw [if_pos q,if_pos q];exact ry
  ·rw [if_neg q,if_neg q];exact r g
 ·by_cases q:g=f
  ·rw [q];exact (keys_putF f y fs).1
  ·refine (keys_putF f y fs).2 g (wi g fun z=>hg ?_)
   show (if g=f then some u else mA g)=none
   rw [if_neg q];exact z
private theorem Inv.made (I:Inv X pins σ H s):Inv X pins σ (upd (upd H s.heap.objs.size (.own (s.heap.objs.size+1))) (s.heap.objs.size+1) (.ins C s.heap.objs.size []))
  {s with heap:=(s.heap.push PySem.W.emptyDict).push (PySem.W.instObj C s.heap.objs.size)}:=by
 have e1:(s.heap.push PySem.W.emptyDict).get? s.heap.objs.size=some PySem.W.emptyDict:=Heap.get?_push_size s.heap rfl
 have e2:((s.heap.push PySem.W.emptyDict).push (PySem.W.instObj C s.heap.objs.size)).get? (s.heap.objs.size+1)=some (PySem.W.instObj C s.heap.objs.size):=by
  have:=Heap.get?_push_size (s.heap.push PySem.W.emptyDict) (o:=PySem.W.instObj C s.heap.objs.size) rfl
  rwa [Heap.size_push] at this
 have e3:(s.heap.push PySem.W.emptyDict).Ns s.heap.objs.size (fun _=>none):=⟨PySem.W.emptyDict, #[],_,e1,rfl,(fun e he=>absurd he (by simp)),fun _=>rfl⟩
 have I1:=I.laid (a:=s.heap.objs.size) (o:=.own (s.heap.objs.size+1)) (h':=s.heap.push PySem.W.emptyDict) (t':=s.toks) (fun b u q=>Heap.get?_push_of_some _ q) (Nat.le_refl _) ⟨_,e1⟩
 refine I1.laid (a:=s.heap.objs.size+1) (o:=.ins C s.heap.objs.size []) (t':=s.toks) (fun b u q=>Heap.get?_push_of_some _ q) (Nat.le_of_eq (Heap.size_push _ _)) ?_
 have ne:s.heap.objs.size≠s.heap.objs.size+1:=Nat.ne_of_lt (Nat.lt_succ_self _)
 refine ⟨by rw [upd_ne ne,upd_same],Nat.zero_le _,ne,e2,fun _=>none,(Heap.Ns1.of_empty e3).at fun o q=>Heap.get?_push_of_some _ q,fun _=>True.intro,fun y hy=>absurd rfl hy⟩
private theorem attr_of {prog:Program}{w:World}{env:Env}{e:Expr}{f:Str}{pos:Pos}{s:Shared}{Q:Value→Shared→Prop}(hb:attributeBase e f env (eval e env)=eval e env)
  (h:wpAny (model prog w) A (eval e env) (fun o s₁=>wpAny (model prog w) A (getAttr o f true) Q E s₁) E s):wpAny (model prog w) A (eval (.Attribute e f pos) env) Q E s:=
 Attribute_any_ h (by rw [arm_eval_Attribute,hb])
end
def tFld (K:PySem.W.Frag)(ta:TE)(f:Str):TE:=fun σ H Q=>ta σ H fun x H1=>∃a C dx fs v,x=.ref a∧H1 a=some (.ins C dx fs)∧Cls K C∧NoAttr K C f∧fs.lookup f=some v∧Q v H1
def sFld (K:PySem.W.Frag)(ta tv:TE)(f:Str):TS:=fun D σ H=>tv σ H fun y H1=>ta σ H1 fun x H2=>∃a C dx fs,x=.ref a∧H2 a=some (.ins C dx fs)∧Cls K C∧NoAttr K C f∧fs.length < 1000∧
 D.nx σ (upd H2 a (.ins C dx (putF f y fs)))
section
variable {X:Cx}{o e value:Expr}{f:Str}{pos pos' tpos:Pos}{ta tv:TE}
private theorem pe_fld (he:PE X e ta)(hb:attributeBase e f X.env (eval e X.env)=eval e X.env):PE X (.Attribute e f pos) (tFld X.K ta f):=by
 intro pins s σ H Q I h
 refine attr_of hb (thn (he pins s σ H _ I h) fun u s1 ⟨x,H1,I1,rx,a,C,dx,fs,v,ex,ea,c,n,l,q⟩=>?_)
 subst ex
 obtain rfl:u=Value.ref a:=rx
 exact getattr_ok I1 ea c n l fun u' s2 I2 ru=>⟨v,H1,I2,ru,q⟩
private theorem ps_fld (ha:PE X o ta)(hv:PE X value tv)(hs:swapsWith value (some (.Attribute o f pos')) pos.line X.env=pure false):PS X (.Assign [.Attribute o f pos'] value pos) (sFld X.K ta tv f):=by
 intro pins s σ H D I h
 refine plainObj_wpAny_Assign_Attribute (thn (hv pins s σ H _ I h) fun u s1 ⟨y,H1,I1,ry,q⟩=>thn (ha pins s1 σ H1 _ I1 q) fun ov s2 ⟨x,H2,I2,rx,a,C,dx,fs,ex,ea,c,n,l,q2⟩=>?_) hs
 subst ex
 obtain rfl:ov=Value.ref a:=rx
 exact setattr_ok I2 ea c n l ry fun s3 I3=>⟨σ,_,I3,q2⟩
private theorem methcall_of {pl:Sem Bool}{m:Str}{apos:Pos}{args:List Expr}{pins:List (Addr ×Obj)}{s:Shared}{σ:St}{H:Hp}{Q:Value→Shared→Prop}{te:TE}(he:PE X e te)(I:Inv X pins σ H s)
  (h:te σ H fun x H1=>∃a C dx fs g,x=.ref a∧H1 a=some (.ins C dx fs)∧Cls X.K C∧Meth X.K C m g∧fs.lookup m=none∧
   ∀s1,Inv X pins σ H1 s1→wpAny (model X.prog X.w) X.A (callWith pos (.ref g) [.ref a] (backTo pos (starEach args X.env)) (backToKw pos (keywordEach [] X.env))) Q X.xe s1)
  (ht:eval (.Call (.Attribute e m apos) args [] pos) X.env=(do
   let ov←eval e X.env
   standAt apos.atName
   let (f,first) ←holding [ov] (getMethod ov m pl)
   callWith pos f first (backTo pos (starEach args X.env)) (backToKw pos (keywordEach [] X.env)))):
  wpAny (model X.prog X.w) X.A (eval (.Call (.Attribute e m apos) args [] pos) X.env) Q X.xe s:=by
 refine PySem.W.methodCall_KW (pl:=pl) (thn (he pins s σ H _ I h) fun u s1 ⟨x,H1,I1,rx,a,C,dx,fs,g,ex,ea,c,k,l,q⟩=>?_) ht
 subst ex
 obtain rfl:u=Value.ref a:=rx
 exact getmeth_ok I1 ea c k l (q s1 I1)
end
section
variable {X:Cx}{pins:List (Addr ×Obj)}{σ:St}{H:Hp}{s:Shared}{A:Around}{E:Value→Shared→Prop}{Q:Value→Shared→Prop}{c:Value}{b:Bool}
inductive TyOf (K:PySem.W.Frag) (H:Hp):V→Value→Prop where
 | non:TyOf K H .non (.type "NoneType")
 | bl (x:Bool):TyOf K H (.bl x) (.type "bool")
 | int (i:Int):TyOf K H (.int i) (.type "int")
 | str (x:Str):TyOf K H (.str x) (.type "str")
 | flt (x:UInt64):TyOf K H (.flt x) (.type "float")
 | lst {a:Addr} {xs:List V} (e:H a=some (.lst xs)):TyOf K H (.ref a) (.type "list")
 | frz {a:Addr} {o:Obj} {xs:List V} (e:H a=some (.frz o (.lst xs))):TyOf K H (.ref a) (.type "list")
 | tup {a:Addr} {xs:List V} (e:H a=some (.tup xs)):TyOf K H (.ref a) (.type "tuple")
 | dK {a:Addr} {kvs:List (Key ×V)} (e:H a=some (.dK kvs)):TyOf K H (.ref a) (.type "dict")
 | dT {a:Addr} {kvs:List (List Key ×V)} (e:H a=some (.dT kvs)):TyOf K H (.ref a) (.type "dict")
 | ins {a C dx:Addr} {fs:List (Str ×V)} (e:H a=some (.ins C dx fs)) (cl:Cls K C) (ha:PySem.W.findIn K (.ref C) "__class__" =some (some (.builtin "object.__class__")))
   (hn:PySem.W.specialIn K (.builtin "object.__class__") "__get__" =some (some (.builtin "getset_descriptor.__get__"))) (htk:PySem.W.takesIn K (.builtin "object.__class__")=some true)
   (hm:PySem.W.mroIn K C (.type "object")=some true):TyOf K H (.ref a) (.ref C)
private theorem isinst_ok {x:V}{u t:Value}(I:Inv X pins σ H s)(rx:RelV x u)(ty:TyOf X.K H x t)(e:PySem.W.kitOne X.K t c=some b)(h:∀tk,Q (.bool b) {s with toks:=tk}):
  wpAny (model X.prog X.w) A (call (.builtin "isinstance") [u,c]) Q E s:=by
 cases ty with
 | non=>cases (show u=Value.none from rx);exact PySem.W.kia_one PySem.W.kitx_none I.kIn True.intro e (fun z=>nomatch z) h
 | bl y=>cases (show u=Value.bool y from rx);exact PySem.W.kia_one PySem.W.kitx_bool I.kIn True.intro e (fun z=>nomatch z) h
 | int i=>obtain ⟨t,q⟩:=(show∃t,u=Value.int i t from rx);cases q;exact PySem.W.kia_one PySem.W.kitx_int I.kIn True.intro e (fun z=>nomatch z) h
 | str y=>obtain ⟨t,q⟩:=(show∃t,u=Value.str y t from rx);cases q;exact PySem.W.kia_one PySem.W.kitx_str I.kIn True.intro e (fun z=>nomatch z) h
 | flt y=>obtain ⟨t,q⟩:=(show∃t,u=Value.float y t from rx);cases q;exact PySem.W.kia_one PySem.W.kitx_float I.kIn True.intro e (fun z=>nomatch z) h
 | @lst a xs ea=>
  cases (show u=Value.ref a from rx)
  obtain ⟨_,_,n,_,h1⟩:=(show ObjOk X.prog X.w H s.heap a (.lst xs) from I.hok a _ ea)
  exact PySem.W.kia_one PySem.W.kitx_list I.kIn ⟨_,h1,rfl⟩ e (fun z=>nomatch z) h
 | @frz a ob xs ea=>
  cases (show u=Value.ref a from rx)
  obtain ⟨_,_,_,n,_,h1⟩:=(show ObjOk X.prog X.w H s.heap a (.frz ob (.lst xs)) from I.hok a _ ea)
  exact PySem.W.kia_one PySem.W.kitx_list I.kIn ⟨_,h1,rfl⟩ e (fun z=>nomatch z) h
 | @tup a xs ea=>
  cases (show u=Value.ref a from rx)
  obtain ⟨_,_,_,p⟩:=(show ObjOk X.prog X.w H s.heap a (.tup xs) from I.hok a _ ea)
  obtain ⟨o,h1,h2,_⟩:=p
  exact PySem.W.kia_one PySem.W.kitx_tuple I.kIn ⟨o,h1,h2⟩ e (fun z=>nomatch z) h
 | @dK a kvs ea=>
  cases (show u=Value.ref a from rx)
  obtain ⟨_,_,vs,_,p⟩:=(show ObjOk X.prog X.w H s.heap a (.dK kvs) from I.hok a _ ea)
  obtain ⟨o,es,ep,h1,h2,_⟩:=p
  exact PySem.W.kia_one PySem.W.kitx_dict I.kIn ⟨o,h1,h2.1⟩ e (fun z=>nomatch z) h
 | @dT a kvs ea=>
  cases (show u=Value.ref a from rx)
  obtain ⟨_,_,xs,_,o,es,ep,h1,h2,_⟩:=(show ObjOk X.prog X.w H s.heap a (.dT kvs) from I.hok a _ ea)
  exact PySem.W.kia_one PySem.W.kitx_dict I.kIn ⟨o,h1,h2.1⟩ e (fun z=>nomatch z) h
 | @ins a C dx fs ea cl ha hn htk hm=>
  cases (show u=Value.ref a from rx)
  obtain ⟨mA,O,_⟩:=ins_get I.hok ea
  obtain ⟨od,J,_⟩:=O.look
  exact PySem.W.kia_one (PySem.W.kitx_own (cl.get _) cl.hd ha hn htk hm) I.kIn J e (fun z=>nomatch z) h
end
end L2
namespace L2
open PySem PySem.Spec PyProof.Rows
structure Room (k:Nat)(A:Around):Prop where
 hd:20≤k→A.handled=none
 dp:A.depth+3 * k+5 < recursionLimit
 un:A.units+16 * k+200 < cLine
private theorem Room.mono {j k:Nat}{A:Around}(r:Room k A)(h:j≤k):Room j A:=⟨fun z=>r.hd (Nat.le_trans z h),by have:=r.dp;omega,by have:=r.un;omega⟩
private theorem Room.deeper {k:Nat}{A:Around}(r:Room (k+1) A)(env:Env):Room k (A.deeper env):=
 ⟨fun z=>r.hd (by omega),by have:=r.dp;show A.depth+1+3 * k+5 < _;omega,by have:=r.un;show A.units+3+16 * k+200 < _;omega⟩
private theorem make_depth {A:Around}{C:Addr}{us:List Value}{kw:List (Str ×Value)}:(A.under (.builtin "type.__call__" ⟨.ref C::us,kw⟩)).depth=A.depth+1:=by
 first | rfl | simp [Around.under,Code.weight,Code.isCreation,Code.isGuard,Code.isCaller,Code.frames,Code.isFrame,guardIds]
private theorem make_units {A:Around}{C:Addr}{us:List Value}{kw:List (Str ×Value)}:(A.under (.builtin "type.__call__" ⟨.ref C::us,kw⟩)).units=A.units+1:=by
 first | rfl | simp [Around.under,Code.cUnits,Code.frames,Code.isFrame]
private theorem Room.make {k:Nat}{A:Around}(r:Room (k+1) A)(C:Addr)(us:List Value)(kw:List (Str ×Value)):Room k (A.under (.builtin "type.__call__" ⟨.ref C::us,kw⟩)):=
 ⟨fun z=>r.hd (by omega),by have:=r.dp;rw [make_depth];omega,by have:=r.un;rw [make_units];omega⟩
private theorem Room.depth {k:Nat}{A:Around}(r:Room k A):A.depth < recursionLimit:=by have:=r.dp;omega
private theorem Room.units {k:Nat}{A:Around}(r:Room k A):A.units+64 < cLine:=by have:=r.un;omega
def tNil:TA:=fun _ H Q=>Q [] H
def tCons (ta:TE)(tr:TA):TA:=fun σ H Q=>ta σ H fun x H1=>tr σ H1 fun xs H2=>Q (x::xs) H2
section
variable {X:Cx}{e:Expr}{es:List Expr}{te:TE}{t:TA}{pos:Pos}
private theorem pa_nil:PA X [] tNil:=fun _ _ _ _ H Q I h=>Calls.spliced_nil ⟨[],H,I,.nil,h⟩
private theorem pa_cons (ha:PE X e te)(hr:PA X es t)(hs:starEach (e::es) X.env=(false,eval e X.env)::starEach es X.env:=by rfl):PA X (e::es) (tCons te t):=by
 intro pos pins s σ H Q I h
 rw [hs]
 show wpAny _ _ (spliced ((false,eval e X.env)::backTo pos (starEach es X.env))) _ _ s
 refine Calls.spliced_cons (thn (ha pins s σ H _ I h) fun u s1 ⟨x,H1,I1,r1,q1⟩=>?_)
 exact thn (hr pos pins s1 σ H1 _ I1 q1) fun us s2 ⟨xs,H2,I2,r2,q2⟩=>⟨x::xs,H2,I2,.cons r1 r2,q2⟩
def tTup (t:TA):TE:=fun σ H Q=>t σ H fun xs H1=>xs.length≤sizeLine∧∀p,H1 p=none→Q (.ref p) (upd H1 p (.tup xs))
def tLst (t:TA):TE:=fun σ H Q=>t σ H fun xs H1=>xs.length≤sizeLine∧∀p,H1 p=none→Q (.ref p) (upd H1 p (.lst xs))
private theorem pe_tup {x1}(h:PA X es t):PE X (.Tuple es x1 pos) (tTup t):=by
 intro pins s σ H Q I hq
 refine wpAny_Tuple_spliced (thn (h pos pins s σ H _ I hq) fun us s1 ⟨xs,H1,I1,r,z,q⟩=>⟨by rw [←r.length];exact z,?_⟩)
 have hf:H1 s1.heap.objs.size=none:=I1.hok.fresh (Nat.le_refl _)
 refine ⟨.ref s1.heap.objs.size,upd H1 s1.heap.objs.size (.tup xs),I1.laid (t':=s1.toks) (fun b u e=>Heap.get?_push_of_some _ e) (Nat.le_refl _) ?_,rfl,q _ hf⟩
 exact ⟨z,us,r,⟨_,Heap.get?_push_size _ rfl,rfl,_,rfl⟩⟩
private theorem pe_lst (h:PA X es t):PE X (.List es pos) (tLst t):=by
 intro pins s σ H Q I hq
 refine wpAny_List_spliced (thn (h pos pins s σ H _ I hq) fun us s1 ⟨xs,H1,I1,r,z,q⟩=>⟨by rw [←r.length];exact z,?_⟩)
 have hf:H1 s1.heap.objs.size=none:=I1.hok.fresh (Nat.le_refl _)
 refine ⟨.ref s1.heap.objs.size,upd H1 s1.heap.objs.size (.lst xs),I1.laid (t':=s1.toks) (fun b u e=>Heap.get?_push_of_some _ e) (Nat.le_refl _) ?_,rfl,q _ hf⟩
 exact ⟨z,us,0,r,Heap.get?_push_size _ rfl⟩
end
abbrev Sp:=List V→Hp→VK→XK→Prop
abbrev CXT:=List Env→Hp→Shared→XK→Value→Shared→Prop
structure Env0 (P:Program)(w:World)(K:PySem.W.Frag)(mg:Str→Option Value)(base:Heap)(A:Around)(outer:List Env)(s:Shared)(H:Hp):Prop where
 frames:A.frames=some outer
 mod:Mod K mg base
 bs:∀b o,base.get? b=some o→s.heap.get? b=some o∧H b=none
 bsz:base.objs.size≤s.heap.objs.size
 funs:s.heap.FunFrames base outer
 frf:∀b∈frs outer,H b=none
 hok:HOk P w H s.heap
 bare:AllBare s.gens
 hd:HndS A base
def CE (outer:List Env)(P:Program)(w:World)(H:Hp)(s:Shared)(Q:VK)(u:Value)(s':Shared):Prop:=
 ∃v H',s'.os=s.os∧AllBare s'.gens∧Un (frs outer) [] H H' s.heap s'.heap∧HOk P w H' s'.heap∧RelV v u∧Q v H'
def CR (CX:CXT)(outer:List Env)(P:Program)(w:World)(H:Hp)(s:Shared)(Q:VK)(E:XK)(r:Result)(s':Shared):Prop:=
 match r with
 | .ok (.ret u)=>CE outer P w H s Q u s'
 | .ok _=>False
 | .error e=>CX outer H s E e s'
structure FnOk (P:Program)(w:World)(K:PySem.W.Frag)(mg:Str→Option Value)(base:Heap)(CX:CXT)(k:Nat)(f:Addr)(fd:FuncData)(ps:List Str)(sp:Sp):Prop where
 len:∀vs H Q E,sp vs H Q E→vs.length=ps.length
 run:∀(A:Around) (outer:List Env) (s:Shared) (H:Hp) (args:Args) (us:List Value) (vs:List V) (Q:VK) (E:XK),Room k A→Env0 P w K mg base A outer s H→BindsTo s fd args (ps.zip us)→Vals vs us→sp vs H Q E→
  codeAny (model P w) A (.call (.ref f) args) (CR CX outer P w H s Q E) s
private theorem FnOk.imp {P:Program}{w:World}{K:PySem.W.Frag}{mg:Str→Option Value}{base:Heap}{CX:CXT}{k:Nat}{f:Addr}{fd:FuncData}{ps:List Str}{sp sp':Sp}(F:FnOk P w K mg base CX k f fd ps sp)
  (h:∀vs H Q E,sp' vs H Q E→sp vs H Q E):FnOk P w K mg base CX k f fd ps sp':=
 ⟨fun vs H Q E q=>F.len vs H Q E (h _ _ _ _ q),fun A outer s H args us vs Q E hr he hb hv hs=>F.run A outer s H args us vs Q E hr he hb hv (h _ _ _ _ hs)⟩
private theorem Env0.make {P:Program}{w:World}{K:PySem.W.Frag}{mg:Str→Option Value}{base:Heap}{A:Around}{outer:List Env}{s:Shared}{H:Hp}(e:Env0 P w K mg base A outer s H)(C:Addr)(us:List Value)(kw:List (Str ×Value)):
  Env0 P w K mg base (A.under (.builtin "type.__call__" ⟨.ref C::us,kw⟩)) outer s H:=⟨by first | exact e.frames | (simpa [Around.under,Code.envs,Code.isFrame,pushEnvs] using e.frames),e.mod,e.bs,e.bsz,e.funs,e.frf,e.hok,e.bare,e.hd⟩
section
variable {X:Cx}{pins:List (Addr ×Obj)}{σ:St}{H:Hp}{s s':Shared}
private theorem Inv.env0 (I:Inv X pins σ H s)(hc:X.calm=true):Env0 X.prog X.w X.K X.mg X.base X.A X.stack s H:=
 ⟨I.ok.frames,I.ok.mod,I.bs,Nat.le_trans I.ok.bsz I.sz,I.stack,I.stkFree,I.hok,I.bare,I.ok.hd hc⟩
private theorem Inv.after {Q:VK}{u:Value}(I:Inv X pins σ H s)(h:CE X.stack X.prog X.w H s Q u s'):EP X pins σ Q u s':=by
 obtain ⟨v,H',os,bare,un,hok,r,q⟩:=h
 obtain ⟨hh,g,d,t,os'⟩:=s'
 obtain rfl:os'=s.os:=os
 exact ⟨v,H',I.call (h':=hh) (g':=g) (d':=d) (t':=t) (ch:=[]) un hok bare (fun b z=>absurd z (by simp)),r,q⟩
end
def tCall (sp:Sp)(dvs:List V)(E:XK)(t:TA):TE:=fun σ H Q=>t σ H fun vs H1=>sp (vs++dvs) H1 Q E
def tMeth (C:Addr)(m:Str)(sp:Sp)(dvs:List V)(E:XK)(ta:TE)(t:TA):TE:=fun σ H Q=>ta σ H fun x H1=>∃a dx fs,x=.ref a∧H1 a=some (.ins C dx fs)∧fs.lookup m=none∧
 t σ H1 fun vs H2=>sp (x::(vs++dvs)) H2 Q E
def tMake (C:Addr)(sp:Sp)(dvs:List V)(E:XK)(t:TA):TE:=fun σ H Q=>t σ H fun vs H1=>∀x dx,H1 x=none→H1 dx=none→dx≠x→
 sp (.ref x::(vs++dvs)) (upd (upd H1 dx (.own x)) x (.ins C dx [])) (fun v H2=>v=.non∧Q (.ref x) H2) E
def Binds (K:PySem.W.Frag)(fd:FuncData)(ps:List Str)(ds:List Value):Prop:=
 ∀(s:Shared) (us:List Value),K.In s.heap→(us++ds).length=ps.length→BindsTo s fd ⟨us,[]⟩ (ps.zip (us++ds))
private theorem Binds.all {K:PySem.W.Frag}{fd:FuncData}{ps:List Str}(h:∀us:List Value,us.length=ps.length→bindArgs fd ⟨us,[]⟩=pure (ps.zip us)):Binds K fd ps []:=fun s us _ hl=>by
 rw [List.append_nil] at hl ⊢
 exact .of_eq (h us hl)
def Passes (CX:CXT)(X:Cx)(E:XK):Prop:=∀(pins:List (Addr ×Obj)) (σ:St) (H:Hp) (s:Shared) (e:Value) (s':Shared),Inv X pins σ H s→CX X.stack H s E e s'→X.xe e s'
section
variable {X:Cx}{CX:CXT}{k:Nat}{f C:Addr}{fd:FuncData}{ps:List Str}{sp:Sp}{dvs:List V}{ds:List Value}{E:XK}{x m:Str}{p pos apos:Pos}{e o:Expr}{es:List Expr}{ta:TE}{t:TA}
private theorem run_fn {pins:List (Addr ×Obj)}{σ:St}{H:Hp}{s:Shared}{Q:VK}{us:List Value}{vs:List V}(F:FnOk X.prog X.w X.K X.mg X.base CX k f fd ps sp)(hr:Room k X.A)(hb:Binds X.K fd ps ds)(hd:Vals dvs ds)(hx:Passes CX X E)
  (I:Inv X pins σ H s) (r:Vals vs us) (h:sp (vs++dvs) H Q E) (hc:X.calm=true:=by rfl):wpAny (model X.prog X.w) X.A (call (.ref f) us) (EP X pins σ Q) X.xe s:=by
 have r2:Vals (vs++dvs) (us++ds):=r.append hd
 have hl:(us++ds).length=ps.length:=by rw [←r2.length];exact F.len _ _ _ _ h
 refine wpAny_call (codeAny_mono (F.run X.A X.stack s H ⟨us,[]⟩ (us++ds) (vs++dvs) Q E hr (I.env0 hc) (hb s us I.kIn hl) r2 h) fun r s' hq=>?_)
 cases r with
 | error e=>exact hx pins σ H s e s' I hq
 | ok fl=>
  cases fl with
  | ret u=>exact I.after hq
  | next=>exact False.elim hq
  | brk=>exact False.elim hq
  | cont=>exact False.elim hq
private theorem pe_call (F:FnOk X.prog X.w X.K X.mg X.base CX k f fd ps sp)(hr:Room k X.A)(hg:Gl X x)(hm:X.mg x=some (.ref f))(hk:PySem.W.keepIn X.K (.ref f)=true)(hb:Binds X.K fd ps ds)(hd:Vals dvs ds)(hx:Passes CX X E)
  (ha:PA X (e::es) t) (hdb:(x==("__debug__" :Str))=false:=by decide) (he:starEach (e::es) X.env=(false,eval e X.env)::starEach es X.env:=by rfl) (hpl:(backTo pos (starEach es X.env)).any (·.1)=false:=by rfl) (hc:X.calm=true:=by rfl):
  PE X (.Call (.Name x p) (e::es) [] pos) (tCall sp dvs E t):=by
 intro pins s σ H Q I h
 refine wpAny_Call_Name_kw (ld_glob I hg hm ?_ hdb)
 refine PySem.W.callWith_K (h₀:=X.base) I.ok.mod.kin hk (thn (ha pos pins s σ H _ I h) fun us s1 ⟨vs,H1,I1,r,q⟩=>⟨I1.kIn,?_⟩) he hpl
 exact run_fn (hc:=hc) F hr hb hd hx I1 r q
private theorem pe_meth {pl:Sem Bool}(he:PE X o ta)(c:Cls X.K C)(hm:Meth X.K C m f)(F:FnOk X.prog X.w X.K X.mg X.base CX k f fd ps sp)(hr:Room k X.A)(hb:Binds X.K fd ps ds)(hd:Vals dvs ds)(hx:Passes CX X E)(ha:PA X (e::es) t)
  (hst:starEach (e::es) X.env=(false,eval e X.env)::starEach es X.env:=by rfl) (hpl:(backTo pos (starEach es X.env)).any (·.1)=false:=by rfl)
  (ht:eval (.Call (.Attribute o m apos) (e::es) [] pos) X.env=(do
   let ov←eval o X.env
   standAt apos.atName
   let (f,first) ←holding [ov] (getMethod ov m pl)
   callWith pos f first (backTo pos (starEach (e::es) X.env)) (backToKw pos (keywordEach [] X.env))):=by rfl) (hc:X.calm=true:=by rfl):
  PE X (.Call (.Attribute o m apos) (e::es) [] pos) (tMeth C m sp dvs E ta t):=by
 intro pins s σ H Q I h
 refine PySem.W.methodCall_KW (pl:=pl) (thn (he pins s σ H _ I h) fun u s1 ⟨x,H1,I1,rx,a,dx,fs,ex,ea,l,q⟩=>?_) ht
 subst ex
 obtain rfl:u=Value.ref a:=rx
 refine getmeth_ok I1 ea c hm l ?_
 refine PySem.W.callWith_K (first:=[.ref a]) (h₀:=X.base) I.ok.mod.kin hm.kp (thn (ha pos pins s1 σ H1 _ I1 q) fun us s2 ⟨vs,H2,I2,r,q2⟩=>⟨I2.kIn,?_⟩) hst hpl
 exact run_fn (hc:=hc) (us:=.ref a::us) (vs:=.ref a::vs) F hr hb hd hx I2 (.cons rfl r) q2
private theorem pe_meth0 {pl:Sem Bool}(he:PE X o ta)(c:Cls X.K C)(hm:Meth X.K C m f)(F:FnOk X.prog X.w X.K X.mg X.base CX k f fd ps sp)(hr:Room k X.A)(hb:Binds X.K fd ps ds)(hd:Vals dvs ds)(hx:Passes CX X E)
  (ht:eval (.Call (.Attribute o m apos) [] [] pos) X.env=(do
   let ov←eval o X.env
   standAt apos.atName
   let (f,first) ←holding [ov] (getMethod ov m pl)
   callWith pos f first (backTo pos (starEach [] X.env)) (backToKw pos (keywordEach [] X.env))):=by rfl) (hc:X.calm=true:=by rfl):
  PE X (.Call (.Attribute o m apos) [] [] pos) (tMeth C m sp dvs E ta tNil):=by
 intro pins s σ H Q I h
 refine PySem.W.methodCall_KW (pl:=pl) (thn (he pins s σ H _ I h) fun u s1 ⟨x,H1,I1,rx,a,dx,fs,ex,ea,l,q⟩=>?_) ht
 subst ex
 obtain rfl:u=Value.ref a:=rx
 refine getmeth_ok I1 ea c hm l ?_
 exact PySem.W.callWith_K0 (first:=[.ref a]) I1.kIn hm.kp (run_fn (hc:=hc) (us:=[.ref a]) (vs:=[.ref a]) F hr hb hd hx I1 (.cons rfl .nil) q)
structure Mk (K:PySem.W.Frag)(C f:Addr):Prop where
 makes:PySem.W.makesIn K C=true
 init:PySem.W.findIn K (.ref C) "__init__" =some (some (.ref f))
 fn:PySem.W.isFn K (.ref f)=true
 kp:PySem.W.keepIn K (.ref C)=true
private theorem run_make {pins:List (Addr ×Obj)}{σ:St}{H:Hp}{s:Shared}{Q:VK}{us:List Value}{vs:List V}(M:Mk X.K C f)(F:FnOk X.prog X.w X.K X.mg X.base CX k f fd ps sp)(hr:Room (k+1) X.A)(hb:Binds X.K fd ps ds)(hd:Vals dvs ds)
  (hx:Passes CX X E) (I:Inv X pins σ H s) (r:Vals vs us)
  (h:∀x dx,H x=none→H dx=none→dx≠x→sp (.ref x::(vs++dvs)) (upd (upd H dx (.own x)) x (.ins C dx [])) (fun v H2=>v=.non∧Q (.ref x) H2) E) (hc:X.calm=true:=by rfl):
  wpAny (model X.prog X.w) X.A (call (.ref C) us) (EP X pins σ Q) X.xe s:=by
 have hq:=h (s.heap.objs.size+1) s.heap.objs.size (I.hok.fresh (Nat.le_succ _)) (I.hok.fresh (Nat.le_refl _)) (Nat.ne_of_lt (Nat.lt_succ_self _))
 have I2:=Inv.made (C:=C) I
 have r2:Vals (V.ref (s.heap.objs.size+1)::(vs++dvs)) (Value.ref (s.heap.objs.size+1)::(us++ds)):=.cons rfl (r.append hd)
 have hl:(Value.ref (s.heap.objs.size+1)::us++ds).length=ps.length:=by
  have e:=r2.length
  rw [F.len _ _ _ _ hq] at e
  exact e.symm
 refine wpAny_call (make_map (f:=f) I.kIn M.makes M.init (beq_iff_eq.mp M.fn) (codeAny_mono (F.run _ X.stack _ _ ⟨Value.ref (s.heap.objs.size+1)::us,[]⟩ (Value.ref (s.heap.objs.size+1)::(us++ds)) _ _ E (hr.make C us [])
  ((I2.env0 hc).make C us []) (hb _ (Value.ref (s.heap.objs.size+1)::us) I2.kIn hl) r2 hq) fun r s' hq'=>?_))
 cases r with
 | error e=>exact hx pins σ _ _ e s' I2 hq'
 | ok fl=>
  cases fl with
  | ret u=>
   obtain ⟨v,H',I3,rv,ev,q3⟩:=I2.after hq'
   subst ev
   exact ⟨rv,⟨V.ref (s.heap.objs.size+1),H',I3,rfl,q3⟩⟩
  | next=>exact False.elim hq'
  | brk=>exact False.elim hq'
  | cont=>exact False.elim hq'
private theorem pe_make (M:Mk X.K C f)(F:FnOk X.prog X.w X.K X.mg X.base CX k f fd ps sp)(hr:Room (k+1) X.A)(hg:Gl X x)(hm:X.mg x=some (.ref C))(hb:Binds X.K fd ps ds)(hd:Vals dvs ds)(hx:Passes CX X E)
  (ha:PA X (e::es) t) (hdb:(x==("__debug__" :Str))=false:=by decide) (he:starEach (e::es) X.env=(false,eval e X.env)::starEach es X.env:=by rfl) (hpl:(backTo pos (starEach es X.env)).any (·.1)=false:=by rfl) (hc:X.calm=true:=by rfl):
  PE X (.Call (.Name x p) (e::es) [] pos) (tMake C sp dvs E t):=by
 intro pins s σ H Q I h
 refine wpAny_Call_Name_kw (ld_glob I hg hm ?_ hdb)
 refine PySem.W.callWith_K (h₀:=X.base) I.ok.mod.kin M.kp (thn (ha pos pins s σ H _ I h) fun us s1 ⟨vs,H1,I1,r,q⟩=>⟨I1.kIn,?_⟩) he hpl
 exact run_make (hc:=hc) M F hr hb hd hx I1 r q
private theorem pe_make0 (M:Mk X.K C f)(F:FnOk X.prog X.w X.K X.mg X.base CX k f fd ps sp)(hr:Room (k+1) X.A)(hg:Gl X x)(hm:X.mg x=some (.ref C))(hb:Binds X.K fd ps ds)(hd:Vals dvs ds)(hx:Passes CX X E)
  (hdb:(x==("__debug__" :Str))=false:=by decide) (hc:X.calm=true:=by rfl):PE X (.Call (.Name x p) [] [] pos) (tMake C sp dvs E tNil):=by
 intro pins s σ H Q I h
 refine wpAny_Call_Name_kw (ld_glob I hg hm ?_ hdb)
 exact PySem.W.callWith_K0 I.kIn M.kp (run_make (hc:=hc) (us:=[]) M F hr hb hd hx I .nil h)
end
section
variable {X:Cx}{CX:CXT}{k:Nat}{f C:Addr}{fd:FuncData}{ps ks:List Str}{sp:Sp}{E:XK}{x m:Str}{p pos apos kpos:Pos}{e o:Expr}{es:List Expr}{kws:List Keyword}{te ta:TE}{t tk:TA}{nm:Option Str}
structure KBinds (K:PySem.W.Frag)(fd:FuncData)(ps ks:List Str)(g:List Value→List Value→List Value)(gV:List V→List V→List V):Prop where
 to:∀(s:Shared) (us ws:List Value),K.In s.heap→(g us ws).length=ps.length→BindsTo s fd ⟨us,ks.zip ws⟩ (ps.zip (g us ws))
 rel:∀{vs:List V} {us:List Value} {zs:List V} {ws:List Value},Vals vs us→Vals zs ws→Vals (gV vs zs) (g us ws)
variable {g:List Value→List Value→List Value}{gV:List V→List V→List V}
end
structure FnScope (N P:List Str)(sc:Scope):Prop where
 kind:sc.kind=.function
 co:sc.isCoroutine=false
 gen:sc.isGenerator=false
 nd:N.Nodup
 pre:N.take P.length=P
 par:∀x∈P,sc.names.lookup x=some .local∨sc.names.lookup x=some .cell
 nofree:∀y∈sc.names,y.2≠ .free
theorem fsc {N P:List Str}{sc:Scope}(h:sc.kind=.function∧sc.isCoroutine=false∧sc.isGenerator=false∧N.Nodup∧N.take P.length=P∧(∀x∈P,sc.names.lookup x=some .local∨sc.names.lookup x=some .cell)∧∀y∈sc.names,y.2≠ .free):FnScope N P sc:=⟨h.1,h.2.1,h.2.2.1,h.2.2.2.1,h.2.2.2.2.1,h.2.2.2.2.2.1,h.2.2.2.2.2.2⟩
private theorem bindL_out {kindOf:Str→Option NameKind}{x:Str}:∀{binds:List (Str ×Value)} {m:Str→Option Value},(∀v,(x,v)∉binds)→bindL kindOf binds m x=m x
 | [],_,_=>rfl
 | (n,v)::r,m,h=>by
  unfold bindL
  rw [bindL_out fun w hw=>h w (List.mem_cons_of_mem _ hw)]
  split
  ·have:x≠n:=by rintro rfl;exact h v List.mem_cons_self
   simp [this]
  ·rfl
private theorem bindC_out {kindOf:Str→Option NameKind}{x:Str}:∀{binds:List (Str ×Value)} {m:Str→Option Value},(∀v,(x,v)∉binds)→bindC kindOf binds m x=m x
 | [],_,_=>rfl
 | (n,v)::r,m,h=>by
  unfold bindC
  rw [bindC_out fun w hw=>h w (List.mem_cons_of_mem _ hw)]
  split
  ·rfl
  ·have:x≠n:=by rintro rfl;exact h v List.mem_cons_self
   simp [this]
private theorem bindL_get {kindOf:Str→Option NameKind}{x:Str}{v:Value}:∀{P:List Str} {vs:List Value} {i:Nat} {m:Str→Option Value},P.Nodup→P[i]? =some x→vs[i]? =some v→kindOf x=some .local→
  bindL kindOf (P.zip vs) m x=some v
 | [],_,_,_,_,h,_,_=>by simp at h
 | _::_,[],_,_,_,_,h,_=>by simp at h
 | p::P,w::vs,0,m,nd,h1,h2,hk=>by
  simp at h1 h2;subst h1;subst h2
  show bindL kindOf ((p,w)::P.zip vs) m p=_
  unfold bindL
  rw [bindL_out fun v hv=>(List.nodup_cons.mp nd).1 (List.of_mem_zip hv).1,if_pos hk]
  simp
 | p::P,w::vs,i+1,m,nd,h1,h2,hk=>by
  show bindL kindOf ((p,w)::P.zip vs) m x=_
  unfold bindL
  exact bindL_get (i:=i) (List.nodup_cons.mp nd).2 (by simpa using h1) (by simpa using h2) hk
private theorem bindC_get {kindOf:Str→Option NameKind}{x:Str}{v:Value}:∀{P:List Str} {vs:List Value} {i:Nat} {m:Str→Option Value},P.Nodup→P[i]? =some x→vs[i]? =some v→kindOf x≠some .local→
  bindC kindOf (P.zip vs) m x=some v
 | [],_,_,_,_,h,_,_=>by simp at h
 | _::_,[],_,_,_,_,h,_=>by simp at h
 | p::P,w::vs,0,m,nd,h1,h2,hk=>by
  simp at h1 h2;subst h1;subst h2
  show bindC kindOf ((p,w)::P.zip vs) m p=_
  unfold bindC
  rw [bindC_out fun v hv=>(List.nodup_cons.mp nd).1 (List.of_mem_zip hv).1,if_neg hk]
  simp
 | p::P,w::vs,i+1,m,nd,h1,h2,hk=>by
  show bindC kindOf ((p,w)::P.zip vs) m x=_
  unfold bindC
  exact bindC_get (i:=i) (List.nodup_cons.mp nd).2 (by simpa using h1) (by simpa using h2) hk
def start (N:List Str)(vs:List V):St:=vs.map some++List.replicate (N.length - vs.length) none
def cxOf (CX:CXT)(P:Program)(w:World)(K:PySem.W.Frag)(mg:Str→Option Value)(base:Heap)(N:List Str)(qual:Str)(scope:Scope)(f:Addr)(cd:Value)(A:Around)(outer:List Env)(s:Shared)(H:Hp)(E:XK):Cx where
 prog:=P
 w:=w
 K:=K
 mg:=mg
 base:=base
 A:=A.deeper (envOfC qual scope s.heap.objs.size f cd)
 N:=N
 s₀:=s
 H₀:=H
 env:=envOfC qual scope s.heap.objs.size f cd
 outer:=outer
 stack:=envOfC qual scope s.heap.objs.size f cd::outer
 ex:=[]
 calm:=true
 fn:=fun _=>true
 pn:=[]
 xe:=fun e s'=>wpAny (model P w) (A.deeper (envOfC qual scope s.heap.objs.size f cd)) (leaving (envOfC qual scope s.heap.objs.size f cd) e) (fun _ s''=>CX outer H s E e s'') (fun e' s''=>CX outer H s E e' s'') s'
private theorem cell_has {sc:Scope}{n:Nat}{x:Str}(h:sc.names.lookup x=some .cell):∃c,(cellsFrom n sc.names []).lookup x=some c:=by
 have q:=PySem.W.cellsFrom_some sc.names n [] (.inl h)
 exact Option.isSome_iff_exists.mp q
private theorem inv_start {CX:CXT}{P:Program}{w:World}{K:PySem.W.Frag}{mg:Str→Option Value}{base:Heap}{N ps:List Str}{qual:Str}{scope:Scope}{f:Addr}{cd:Value}{A:Around}{outer:List Env}{s s1:Shared}{H:Hp}{E:XK}{us:List Value}{vs:List V}
  (S:FnScope N ps scope) (e0:Env0 P w K mg base A outer s H) (hl:vs.length=ps.length) (r:Vals vs us)
  (x:InCallC s s.heap.objs.size (bindL (envOfC qual scope s.heap.objs.size f cd).kindOf (ps.zip us) fun _=>none) (cellsFrom (s.heap.objs.size+1) scope.names []) (bindC (envOfC qual scope s.heap.objs.size f cd).kindOf (ps.zip us) fun _=>none) s1):
  Inv (cxOf CX P w K mg base N qual scope f cd A outer s H E) [] (start N vs) H s1:=by
 have hpl:ps.length≤N.length:=by have:=congrArg List.length S.pre;rw [List.length_take] at this;omega
 obtain ⟨h1,tk,rfl,hk⟩:=x.done
 have noA:∀b:Addr,b∉(cxOf CX P w K mg base N qual scope f cd A outer s H E).ex:=fun b z=>absurd (show b∈([]:List Addr) from z) (by simp)
 refine ⟨⟨e0.mod,S.kind,rfl,rfl,Nat.le_refl _,fun y z c h1 h2=>?_,fun y hy=>?_,fun y c _ h=>?_,fun _=>e0.hd,Around.frames_deeper e0.frames,.inr ⟨rfl,rfl⟩,fun b z=>absurd z (noA b),e0.bs,e0.bsz,fun b _ _=>noA b,fun b z=>absurd z (noA b),e0.funs,e0.frf⟩,
  rfl,e0.bare,Un.kept hk,⟨_,x.toInCall.ns,fun i y v h1 h2 h3=>?_⟩,fun y c h=>⟨_,x.cell y c h⟩,e0.hok.fresh (Nat.le_refl _),fun y c h=>?_,fun p hp=>absurd (show p∈([]:List (Addr ×Obj)) from hp) (by simp),e0.hok.kept hk,?_⟩
 ·exact name_of_addr x.apart (PySem.mem_of_lookup h1) (PySem.mem_of_lookup h2)
 ·have hy:scope.names.lookup y=some .cell∨scope.names.lookup y=some .free:=hy
  rcases hy with hy | hy
  ·exact cell_has hy
  ·exact absurd rfl (S.nofree _ (PySem.mem_of_lookup hy))
 ·exact Nat.le_of_lt (x.above y c (PySem.mem_of_lookup h))
 ·have hi:i < vs.length:=by
   unfold start at h2
   by_cases hi:i < vs.length
   ·exact hi
   ·rw [List.getElem?_append_right (by simpa using hi)] at h2
    rw [List.getElem?_replicate] at h2
    split at h2 <;> cases h2
  have ha:vs[i]? =some v:=by
   unfold start at h2
   rw [List.getElem?_append_left (by simpa using hi),List.getElem?_map] at h2
   cases e:vs[i]? with
   | none=>rw [e] at h2;cases h2
   | some a=>rw [e] at h2;cases h2;rfl
  obtain ⟨u,hu,rv⟩:=r.get ha
  have hp:ps[i]? =some y:=by
   rw [←S.pre,List.getElem?_take_of_lt (by omega)];exact h1
  have ndP:ps.Nodup:=by rw [←S.pre];exact S.nd.sublist (List.take_sublist _ _)
  refine ⟨u,rv,?_⟩
  rcases S.par y (List.mem_of_getElem? hp) with k | k
  ·exact .inl ⟨k,bindL_get ndP hp hu k⟩
  ·obtain ⟨c,e⟩:=cell_has (n:=s.heap.objs.size+1) k
   refine .inr ⟨.inl k,c,e,?_⟩
   have q:=x.cell y c e
   rw [bindC_get ndP hp hu (by show scope.names.lookup y≠_;rw [k];decide)] at q
   exact q
 ·exact e0.hok.fresh (Nat.le_of_lt (x.above y c (PySem.mem_of_lookup h)))
 ·unfold start
  show _=N.length
  rw [List.length_append,List.length_map,List.length_replicate]
  omega
private theorem fn_of {CX:CXT}{P:Program}{w:World}{K:PySem.W.Frag}{mg:Str→Option Value}{base:Heap}{k:Nat}{f:Addr}{name qual:Str}{params:Arguments}{body:List Stmt}{scope:Scope}{dV kV doc pm cdv ct oc:Value}{an od:Option Addr}
  {osl:Array (Option Value)} {N ps:List Str} {sp:Sp} (lk:K.lookup f=some ⟨oc,od,.func (PySem.W.fnOf name qual params body scope dV kV doc pm an cdv ct),osl⟩) (hcd:PySem.W.codeIn K cdv qual=true) (S:FnScope N ps scope)
  (len:∀vs H Q E,sp vs H Q E→vs.length=ps.length)
  (hbody:∀(A:Around) (outer:List Env) (s:Shared) (H:Hp) (vs:List V) (Q:VK) (E:XK),Room k (A.deeper (envOfC qual scope s.heap.objs.size f cdv))→sp vs H Q E→
   ∃t,PSs (cxOf CX P w K mg base N qual scope f cdv A outer s H E) body t∧t {nx:=fun _ H'=>Q .non H',rt:=Q} (start N vs) H):
  FnOk P w K mg base CX (k+1) f (PySem.W.fnOf name qual params body scope dV kV doc pm an cdv ct) ps sp:=by
 refine ⟨len,fun A outer s H args us vs Q E hr e0 hb r hsp=>?_⟩
 have hl:=len _ _ _ _ hsp
 have KX:K.In s.heap:=e0.mod.kin.keeps fun b o e=>(e0.bs b o e).1
 have lim:s.heap.NoLimit:=e0.mod.nolimit.keeps fun b o e=>(e0.bs b o e).1
 have hkind:∀y∈ps.zip us,scope.names.lookup y.1=some .local∨(scope.names.lookup y.1=some .cell∧((cellsFrom (s.heap.objs.size+1) scope.names []).lookup y.1).isSome=true):=fun ⟨n,v⟩ hy=>by
  rcases S.par n (List.of_mem_zip hy).1 with q | q
  ·exact .inl q
  ·exact .inr ⟨q,PySem.W.cellsFrom_some _ _ _ (.inl q)⟩
 refine codeAny_call_function hr.depth (KX _ _ lk) rfl S.co S.gen rfl (PySem.W.codeRec_of KX hcd) (hb _ _ _ _ ?_)
 refine wpAny_newFunctionEnv_cells S.kind hkind fun env he s1 x=>?_
 subst he
 refine ⟨lim.keeps x.toInCall.keep,codeAny_func ?_⟩
 obtain ⟨t,ht,hq⟩:=hbody A outer s H vs Q E (hr.deeper _) hsp
 have I:Inv (cxOf CX P w K mg base N qual scope f cdv A outer s H E) [] (start N vs) H s1:=inv_start S e0 hl r x
 refine wpAny_mono (ht [] s1 (start N vs) H _ I hq) (fun fl s' hs=>?_) fun e s' hs=>hs
 have fin:∀{σ':St} {H':Hp} {v:V} {u:Value},Inv (cxOf CX P w K mg base N qual scope f cdv A outer s H E) [] σ' H' s'→RelV v u→Q v H'→CE outer P w H s Q u s':=
  fun {σ' H' v u} J rv q=>⟨v,H',J.os,J.bare,J.base,J.hok,rv,q⟩
 cases fl with
 | ret u=>
  obtain ⟨v,σ',H',J,rv,q⟩:=hs
  exact fin J rv q
 | next=>
  obtain ⟨σ',H',J,q⟩:=hs
  exact fin (v:=V.non) (u:=Value.none) J rfl q
 | brk=>
  obtain ⟨_,_,_,q⟩:=hs
  exact False.elim q
 | cont=>
  obtain ⟨_,_,_,q⟩:=hs
  exact False.elim q
end L2
namespace L2
open PySem PySem.Spec PyProof.Rows
section
variable {X:Cx}{x:Str}{p pos:Pos}{e:Expr}{es:List Expr}{t:TA}{id T:String}{r:List V→Hp→VK→Prop}
def tCB (r:List V→Hp→VK→Prop)(t:TA):TE:=fun σ H Q=>t σ H fun vs H1=>r vs H1 Q
private theorem pe_callB (hc:CallR X (.builtin id) r)(hg:Gl X x)(hm:X.mg x=none)(hv:bootBuiltins x=some (.builtin id))(ha:PA X (e::es) t)(hn:x≠ "__name__" :=by decide) (hdb:(x==("__debug__" :Str))=false:=by decide)
  (he:starEach (e::es) X.env=(false,eval e X.env)::starEach es X.env:=by rfl) (hpl:(backTo pos (starEach es X.env)).any (·.1)=false:=by rfl):PE X (.Call (.Name x p) (e::es) [] pos) (tCB r t):=by
 intro pins s σ H Q I h
 refine wpAny_Call_Name_kw (ld_blt I hg hm hv ?_ hn hdb)
 exact PyProof.Rows.callWith_builtin1 (thn (ha pos pins s σ H _ I h) fun us s1 ⟨vs,H1,I1,r1,q1⟩=>hc pins s1 σ H1 vs us Q I1 r1 q1) he hpl
private theorem pe_callTy (hc:CallR X (.type T) r)(hg:Gl X x)(hm:X.mg x=none)(hv:bootBuiltins x=some (.type T))(ha:PA X (e::es) t)(hn:x≠ "__name__" :=by decide) (hdb:(x==("__debug__" :Str))=false:=by decide)
  (he:starEach (e::es) X.env=(false,eval e X.env)::starEach es X.env:=by rfl) (hpl:(backTo pos (starEach es X.env)).any (·.1)=false:=by rfl):PE X (.Call (.Name x p) (e::es) [] pos) (tCB r t):=by
 intro pins s σ H Q I h
 refine wpAny_Call_Name_kw (ld_blt I hg hm hv ?_ hn hdb)
 exact PyProof.Rows.callWith_type1 (thn (ha pos pins s σ H _ I h) fun us s1 ⟨vs,H1,I1,r1,q1⟩=>hc pins s1 σ H1 vs us Q I1 r1 q1) he hpl
end
end L2
namespace HT
open PySem PyProof.Rows
section
open PySem.SeqAt
open PySem.AutoSeq1 (wpAny_loadPart')
open PySem.MeetsSeq PySem.MeetsSeq2 PySem.MeetsSeq3
end
section
variable {prog:Program}{w:World}{A:Around}{E:Value→Shared→Prop}{s:Shared}
private theorem cat_tup {t b:Addr}{vs ws:List Value}{Q:Value→Shared→Prop}(ht:IsTup s.heap t vs.toArray)(hb:IsTup s.heap b ws.toArray)(hv:vs≠ [])
  (h1:ws=[]→Q (.ref t) s) (h2:ws≠ []→Q (.ref s.heap.objs.size) {s with heap:=s.heap.push {cls:=.type "tuple",data:=.seq (vs++ws).toArray}})
  (hsz:vs.length+ws.length≤sizeLine):wpAny (model prog w) A (binaryOp .Add (.ref t) (.ref b)) Q E s:=by
 obtain ⟨⟨cls,dd,data,sl⟩,ho,hc,n,hd⟩:=id ht
 obtain ⟨⟨cls2,dd2,data2,sl2⟩,ho2,hc2,n2,hd2⟩:=id hb
 simp only at hc hd hc2 hd2
 subst hc hd hc2 hd2
 have e:vs.toArray++ws.toArray=(vs++ws).toArray:=by simp
 by_cases hw:ws=[]
 ·exact concat_meets ⟨_,ho,rfl⟩ ⟨_,ho2,rfl⟩ noFill_tuple_add seq_tuple_add PySem.F.slot_tuple_add PySem.F.entry_tuple_add (PySem.F.args_tuple_add_2 _ _)
   (tuple_addW1 t b vs.toArray ws.toArray n n2 dd dd2 sl sl2 (by simpa using hv) (by simp [hw])) ⟨ho,ho2,h1 hw⟩
 ·refine concat_meets ⟨_,ho,rfl⟩ ⟨_,ho2,rfl⟩ noFill_tuple_add seq_tuple_add PySem.F.slot_tuple_add PySem.F.entry_tuple_add (PySem.F.args_tuple_add_2 _ _)
   (tuple_addW2 t b vs.toArray ws.toArray n n2 dd dd2 sl sl2 (by simpa using hv) (by simpa using hw) (by rw [List.size_toArray,List.size_toArray];exact hsz)) ⟨ho,ho2,?_⟩
  rw [e]
  exact h2 hw
def sIx (n d:Nat):Option Int→Nat
 | none=>d
 | some v=>if v < 0 then (v+(n:Int)).toNat else min v.toNat n
private theorem sIx_none (n d:Nat):sIx n d none=d:=rfl
private theorem sIx_nat (n d k:Nat):sIx n d (some (k:Int))=min k n:=by
 show (if (k:Int) < 0 then ((k:Int)+(n:Int)).toNat else min (k:Int).toNat n)=min k n
 rw [if_neg (by omega),Int.toNat_natCast]
private theorem sIx_le (n d:Nat)(hd:d≤n)(o:Option Int):sIx n d o≤n:=by
 cases o with
 | none=>exact hd
 | some v=>
  show (if v < 0 then (v+(n:Int)).toNat else min v.toNat n)≤n
  by_cases hv:v < 0
  ·rw [if_pos hv];omega
  ·rw [if_neg hv];exact Nat.min_le_right _ _
private theorem clip_eq (v:Int)(n d:Nat):(if v < 0 then max (v+(n:Int)) 0 else min v (n:Int))=((sIx n d (some v):Nat):Int):=by
 show (if v < 0 then max (v+(n:Int)) 0 else min v (n:Int))=(((if v < 0 then (v+(n:Int)).toNat else min v.toNat n):Nat):Int)
 by_cases hv:v < 0
 ·simp only [if_pos hv];omega
 ·simp only [if_neg hv];omega
end
end HT
namespace L2
open PySem PySem.Spec PyProof.Rows
abbrev TO:=St→Hp→(Option Int→Hp→Prop)→Prop
def PO (X:Cx)(e:Option Expr)(t:TO):Prop:=
 ∀(pins:List (Addr ×Obj)) (s:Shared) (σ:St) (H:Hp) (Q:Option Int→Hp→Prop),Inv X pins σ H s→t σ H Q→
  wpAny (model X.prog X.w) X.A (evalPart e X.env) (fun u s'=>∃o H',Inv X pins σ H' s'∧IsPart u o∧Q o H') X.xe s
def tNoPart:TO:=fun _ H Q=>Q none H
def tPart (t:TE):TO:=fun σ H Q=>t σ H fun x H1=>∃i,x=.int i∧Q (some i) H1
section
variable {X:Cx}{e:Expr}{te:TE}{lo hi:Option Expr}{tl th:TO}{pos p2:Pos}
private theorem po_none:PO X none tNoPart:=by
 intro pins s σ H Q I h
 rw [evalPart_none]
 exact wpAny_pure ⟨none,H,I,.none,h⟩
private theorem po_some (h:PE X e te):PO X (some e) (tPart te):=by
 intro pins s σ H Q I hw
 rw [evalPart_some]
 refine thn (h pins s σ H _ I hw) fun u s1 ⟨x,H1,I1,r1,q1⟩=>?_
 obtain ⟨i,rfl,q⟩:=q1
 obtain ⟨t,rfl⟩:=r1
 exact ⟨some i,H1,I1,.int i t,q⟩
def SlR (X:Cx)(r:V→Option Int→Option Int→Hp→VK→Prop):Prop:=
 ∀(pins:List (Addr ×Obj)) (s:Shared) (σ:St) (H:Hp) (x:V) (v vl vu:Value) (lo hi:Option Int) (sl:Addr) (Q:VK),Inv X pins σ H s→RelV x v→s.heap.IsSliceOf sl vl vu .none→IsPart vl lo→IsPart vu hi→r x lo hi H Q→
  ∃T id,typeLookup (.type T) "__getitem__" =pure (some (.builtin id))∧s.TypeIs v T∧wpAny (model X.prog X.w) X.A (getItem v (.ref sl)) (EP X pins σ Q) X.xe s
def tSl (r:V→Option Int→Option Int→Hp→VK→Prop)(te:TE)(tl th:TO):TE:=fun σ H Q=>te σ H fun x H1=>tl σ H1 fun l H2=>th σ H2 fun u H3=>r x l u H3 Q
private theorem pe_slice {r:V→Option Int→Option Int→Hp→VK→Prop}(hr:SlR X r)(he:PE X e te)(hl:PO X lo tl)(hu:PO X hi th):PE X (.Subscript e (.Slice lo hi none p2) pos) (tSl r te tl th):=by
 intro pins s σ H Q I h
 refine Subscript_ (thn (he pins s σ H _ I h) fun v s1 ⟨x,H1,I1,r1,q1⟩=>?_)
 refine wpAny_Slice (thn (hl pins s1 σ H1 _ I1 q1) fun vl s2 ⟨l,H2,I2,pl,q2⟩=>thn (hu pins s2 σ H2 _ I2 q2) fun vu s3 ⟨u,H3,I3,pu,q3⟩=>?_)
 rw [evalPart_none]
 refine wpAny_pure ?_
 have I4:Inv X pins σ H3 {s3 with heap:=s3.heap.push {cls:=.type "slice",data:=.fields #[vl,vu,.none]}}:=I3.kept (t':=s3.toks) fun b ob q=>Heap.get?_push_of_some _ q
 obtain ⟨T,id,hT,ht,hg⟩:=hr pins {s3 with heap:=s3.heap.push {cls:=.type "slice",data:=.fields #[vl,vu,.none]}} σ H3 x v vl vu l u s3.heap.objs.size Q I4 r1 (Heap.IsSliceOf.new ..) pl pu q3
 show wpAny (model X.prog X.w) X.A (subscriptTail e (.Slice lo hi none p2) v (.ref s3.heap.objs.size)) (EP X pins σ Q) X.xe {s3 with heap:=s3.heap.push {cls:=.type "slice",data:=.fields #[vl,vu,.none]}}
 exact tail_any (ops:=[.ref s3.heap.objs.size,v]) ht hT hg (by with_unfolding_all rfl)
def cutV (xs:List V)(lo hi:Option Int):List V:=(xs.drop (HT.sIx xs.length 0 lo)).take (HT.sIx xs.length xs.length hi - HT.sIx xs.length 0 lo)
private theorem cutV_length (xs:List V)(lo hi:Option Int):(cutV xs lo hi).length≤xs.length:=by
 unfold cutV
 rw [List.length_take,List.length_drop]
 omega
def rCatT (K:PySem.W.Frag):R2:=fun x y H Q=>∃a b xs ys,x=.ref a∧y=.ref b∧SqT K H a xs∧SqT K H b ys∧xs≠ []∧xs.length+ys.length≤sizeLine∧
 (ys=[]→Q (.ref a) H)∧(ys≠ []→∀p,H p=none→Q (.ref p) (upd H p (.tup (xs++ys))))
private theorem Vals.nil_iff {xs:List V}{us:List Value}(r:Vals xs us):us=[]↔xs=[]:=by
 cases r with
 | nil=>simp
 | cons _ _=>simp
private theorem op_catT:OpR X (binaryOp .Add) (rCatT X.K):=by
 intro pins s σ H x y v u Q I rx ry h
 obtain ⟨a,b,xs,ys,rfl,rfl,ha,hb,hx,hz,q1,q2⟩:=h
 cases rx
 cases ry
 obtain ⟨its,r1,p1,_⟩:=I.tuple ha
 obtain ⟨its2,r2,p2,_⟩:=I.tuple hb
 refine HT.cat_tup p1 p2 (fun z=>hx (r1.nil_iff.mp z)) (fun z=>⟨.ref a,H,I,rfl,q1 (r2.nil_iff.mp z)⟩) (fun z=>?_) (by rw [←r1.length,←r2.length];exact hz)
 refine ⟨.ref s.heap.objs.size,_,I.laid (t':=s.toks) (o:=.tup (xs++ys)) (fun b ob q=>Heap.get?_push_of_some _ q) (Nat.le_refl _) ?_,rfl,q2 (fun w=>z (r2.nil_iff.mpr w)) _ (I.hok.fresh (Nat.le_refl _))⟩
 exact ⟨by rw [List.length_append];exact hz,_,r1.append r2,IsTup.new _ _⟩
end
end L2
namespace L2
open PySem PySem.Spec PyProof.Rows
def ixN (n:Nat)(i:Int):Option Nat:=if 0≤i then (if i < n then some i.toNat else none) else if -(n:Int)≤i then some (i+n).toNat else none
def atI {α:Type}(xs:List α)(i:Int):Option α:=(ixN xs.length i).bind fun j=>xs[j]?
private theorem ixN_seq {n:Nat}{i:Int}{j:Nat}(h:ixN n i=some j):seqIndex? i n=some j∧j < n∧ -(n:Int)≤i∧i < n:=by
 unfold ixN at h
 by_cases h0:0≤i
 ·rw [if_pos h0] at h
  by_cases h1:i < n
  ·rw [if_pos h1] at h
   have e:i.toNat=j:=Option.some.inj h
   exact ⟨by rw [seqIndex_of h0 h1,e],by omega,by omega,h1⟩
  ·rw [if_neg h1] at h;cases h
 ·rw [if_neg h0] at h
  by_cases h1: -(n:Int)≤i
  ·rw [if_pos h1] at h
   have e:(i+n).toNat=j:=Option.some.inj h
   exact ⟨by rw [seqIndex_neg (by omega) h1,e],by omega,h1,by omega⟩
  ·rw [if_neg h1] at h;cases h
private theorem atI_get {α:Type}{xs:List α}{i:Int}{v:α}(h:atI xs i=some v):∃j,seqIndex? i xs.length=some j∧xs[j]? =some v∧j < xs.length∧ -(xs.length:Int)≤i∧i < xs.length:=by
 unfold atI at h
 cases e:ixN xs.length i with
 | none=>rw [e] at h;cases h
 | some j=>
  rw [e] at h
  obtain ⟨h1,h2,h3,h4⟩:=ixN_seq e
  exact ⟨j,h1,h,h2,h3,h4⟩
private theorem atI_nat {α:Type}{xs:List α}{j:Nat}{v:α}(h:xs[j]? =some v):atI xs (j:Int)=some v:=by
 have hj:j < xs.length:=(List.getElem?_eq_some_iff.mp h).1
 have e:ixN xs.length (j:Int)=some j:=by
  unfold ixN
  rw [if_pos (by omega),if_pos (by omega)];simp
 unfold atI;rw [e];exact h
def PlainIx (b:Expr):Prop:=∀o i,subscripted b false o i=operate [o,i] (getItem o i)
def IxR (X:Cx)(r:R2):Prop:=
 ∀(value slice:Expr) (pins:List (Addr ×Obj)) (s:Shared) (σ:St) (H:Hp) (x y:V) (v u:Value) (Q:VK),Inv X pins σ H s→RelV x v→RelV y u→r x y H Q→
  subscripted slice false v u=operate [v,u] (getItem v u)→wpAny (model X.prog X.w) X.A (subscriptTail value slice v u) (EP X pins σ Q) X.xe s
def MtR (X:Cx)(id:String)(r:V→List V→Hp→VK→Prop):Prop:=
 ∀(pins:List (Addr ×Obj)) (s:Shared) (σ:St) (H:Hp) (x:V) (xs:List V) (v:Value) (us:List Value) (Q:VK),Inv X pins σ H s→RelV x v→Vals xs us→r x xs H Q→
  wpAny (model X.prog X.w) X.A (call (.builtin id) (v::us)) (EP X pins σ Q) X.xe s
section
variable {X:Cx}{a b:Expr}{ta tb:TE}{pos:Pos}
private theorem pe_ix {r:R2}(hr:IxR X r)(ha:PE X a ta)(hb:PE X b tb)(hs:PlainIx b):PE X (.Subscript a b pos) (tOp r ta tb):=by
 intro pins s σ H Q I h
 exact Subscript_ (binT ha hb I h fun v u s2 x y H2 I2 rx ry q=>hr a b pins s2 σ H2 x y v u Q I2 rx ry q (hs _ _))
def rIxL (K:PySem.W.Frag):R2:=fun x y H Q=>∃p xs i v,x=.ref p∧y=.int i∧SqL K H p xs∧atI xs i=some v∧Q v H
def rIxS:R2:=fun x y H Q=>∃z i c,x=.str z∧y=.int i∧z.length≤sizeLine∧atI z.cps.toList i=some c∧Q (.str ⟨#[c]⟩) H
private theorem ix_list:IxR X (rIxL X.K):=by
 intro value slice pins s σ H x y v u Q I rx ry h hs
 obtain ⟨p,xs,i,z,rfl,rfl,hq,he,q⟩:=h
 cases rx
 obtain ⟨t,rfl⟩:=ry
 obtain ⟨its,r,pl,hz⟩:=I.list hq
 obtain ⟨j,h1,h2,h3,h4,h5⟩:=atI_get he
 obtain ⟨w,ew,rw'⟩:=r.get h2
 have hl:=r.length
 have hn:=line63
 have fin:EP X pins σ Q w s:=⟨z,H,I,rw',q⟩
 by_cases h0:0≤i
 ·have hj:i.toNat=j:=by
   rw [seqIndex_of h0 h5] at h1
   exact Option.some.inj h1
  exact item_listR pl.isList h0 (by omega) (by rw [hj];simpa using ew) fin hs
 ·have hj:(i+(its.toArray.size:Int)).toNat=j:=by
   rw [seqIndex_neg (by omega) h4] at h1
   rw [List.size_toArray,←hl]
   exact Option.some.inj h1
  exact subscriptTail_builtinR (x:=w) pl.isList.typeIs slot_list_getitem.lookup
   (wpAny_getItem_list_neg (Q:=fun r s'=>r=w∧EP X pins σ Q r s') pl.isList (by omega) (by rw [List.size_toArray] <;> omega) (by omega) (by rw [hj];simpa using ew) ⟨rfl,fin⟩) hs
private theorem ix_str:IxR X rIxS:=by
 intro value slice pins s σ H x y v u Q I rx ry h hs
 obtain ⟨z,i,c,rfl,rfl,hz,he,q⟩:=h
 obtain ⟨t,rfl⟩:=rx
 obtain ⟨t',rfl⟩:=ry
 obtain ⟨j,h1,h2,h3,h4,h5⟩:=atI_get he
 have hl:z.cps.toList.length=z.length:=by simp [Str.length]
 rw [hl] at h1 h4 h5
 have hn:=line63
 exact tail_any (typeIs_str s z t) slot_str_getitem.lookup (getItem_str (c:=c) (by
  have e1:decide (i < -(2 ^ 63:Int))=false:=decide_eq_false (by omega)
  have e2:decide (i≥2 ^ 63)=false:=decide_eq_false (by omega)
  rw [e1,e2,Bool.or_false]) (by rw [h1];simpa using h2) ⟨.str ⟨#[c]⟩,H,I.tok _,⟨_,rfl⟩,q⟩) hs
private theorem mapSeq_set (its:List Value)(n j:Nat)(u:Value):Obj.mapSeq (·.setIfInBounds j u) {cls:=.type "list",data:=.seq its.toArray n}={cls:=.type "list",data:=.seq (its.set j u).toArray n}:=by
 simp [Obj.mapSeq]
private theorem Inv.lst {pins:List (Addr ×Obj)}{σ:St}{H:Hp}{s:Shared}{p:Addr}{xs:List V}(I:Inv X pins σ H s)(h:H p=some (.lst xs)):
  ∃(its:List Value) (n:Nat),Vals xs its∧s.heap.get? p=some {cls:=.type "list",data:=.seq its.toArray n}∧xs.length≤sizeLine:=by
 obtain ⟨z,its,n,r,e⟩:=I.hok p _ h
 exact ⟨its,n,r,e,z⟩
private theorem Inv.lstUpd {pins:List (Addr ×Obj)}{σ:St}{H:Hp}{s:Shared}{p:Addr}{xs ys:List V}{its its':List Value}{n n':Nat}{f:Obj→Obj}(I:Inv X pins σ H s)(h:H p=some (.lst xs))
  (ho:s.heap.get? p=some {cls:=.type "list",data:=.seq its.toArray n}) (hf:f {cls:=.type "list",data:=.seq its.toArray n}={cls:=.type "list",data:=.seq its'.toArray n'}) (r:Vals ys its') (hz:ys.length≤sizeLine) (t:Nat):
  Inv X pins σ (upd H p (.lst ys)) {s with heap:=s.heap.update p f,toks:=t}:=by
 have e:(s.heap.update p f).get? p=some {cls:=.type "list",data:=.seq its'.toArray n'}:=by
  rw [Heap.get?_update_self f ho (by rw [hf] <;> rfl),hf]
 refine I.write (x:=p) (e:=p) (by rw [h];trivial) (.inl rfl) (fun b u hb q=>(Heap.get?_update_other _ _ (Ne.symm hb)).trans q) ⟨_,e⟩ ?_
 exact ⟨hz,its',n',r,e⟩
def rSetL:V→V→V→Hp→(Hp→Prop)→Prop:=fun o i v H Q=>∃p xs k j,o=.ref p∧i=.int k∧H p=some (.lst xs)∧ixN xs.length k=some j∧Q (upd H p (.lst (xs.set j v)))
private theorem set_list:PSet X rSetL:=by
 intro pins s σ H o i v ov iv u Q I ro ri rv h
 obtain ⟨p,xs,k,j,rfl,rfl,hp,hj,q⟩:=h
 cases ro
 obtain ⟨t,rfl⟩:=ri
 obtain ⟨its,n,r,ho,hz⟩:=I.lst hp
 obtain ⟨h1,h2,h3,h4⟩:=ixN_seq hj
 have hl:=r.length
 have hn:=line63
 have I':Inv X pins σ (upd H p (.lst (xs.set j v))) {s with heap:=s.heap.update p (Obj.mapSeq (·.setIfInBounds j u))}:=
  I.lstUpd hp ho (mapSeq_set its n j u) (r.set rv j) (by rw [List.length_set];exact hz) s.toks
 by_cases h0:0≤k
 ·have hk:k.toNat=j:=by
   rw [seqIndex_of h0 h4] at h1
   exact Option.some.inj h1
  exact PySem.W.ki_setAt ho h0 (by omega) (by rw [List.size_toArray,←hl];exact h4) (by rw [hk];exact ⟨_,I',q⟩)
 ·have hk:(k+(its.toArray.size:Int)).toNat=j:=by
   rw [seqIndex_neg (by omega) h3] at h1
   rw [List.size_toArray,←hl]
   exact Option.some.inj h1
  exact PySem.W.ki_setBack ho (by omega) (by rw [List.size_toArray,←hl];exact h3) (by omega) (by rw [hk];exact ⟨_,I',q⟩)
private theorem clip2 (i:Int)(n d:Nat):max 0 (min (if i < 0 then i+(n:Int) else i) (n:Int))=((HT.sIx n d (some i):Nat):Int):=by
 simp only [HT.sIx]
 by_cases h:i < 0
 ·simp only [h,if_true] <;> omega
 ·simp only [h,if_false] <;> omega
private theorem slice_bounds (lo hi:Option Int)(n:Nat):(sliceBounds lo hi none n).1=((HT.sIx n 0 lo:Nat):Int)∧(sliceBounds lo hi none n).2.1=((HT.sIx n n hi:Nat):Int)∧(sliceBounds lo hi none n).2.2=1:=by
 refine ⟨?_,?_,rfl⟩
 ·cases lo with
  | none=>simp [sliceBounds,HT.sIx]
  | some i=>(simp only [sliceBounds,Option.getD_none,show (1:Int) > 0 by decide,if_true];exact clip2 i n 0)
 ·cases hi with
  | none=>simp [sliceBounds,HT.sIx]
  | some i=>(simp only [sliceBounds,Option.getD_none,show (1:Int) > 0 by decide,if_true];exact clip2 i n n)
private theorem slicePick_cut (its:List Value)(lo hi:Option Int):slicePick its.toArray lo hi none=((its.drop (HT.sIx its.length 0 lo)).take (HT.sIx its.length its.length hi - HT.sIx its.length 0 lo)).toArray:=by
 obtain ⟨h1,h2,h3⟩:=slice_bounds lo hi its.toArray.size
 unfold slicePick
 rw [h1,h2,h3]
 simp only [sliceRange_one,pick_run,List.size_toArray] <;> rfl
def rSlL (K:PySem.W.Frag):V→Option Int→Option Int→Hp→VK→Prop:=fun x lo hi H Q=>∃a xs,x=.ref a∧SqL K H a xs∧∀p,H p=none→Q (.ref p) (upd H p (.lst (cutV xs lo hi)))
private theorem sl_list:SlR X (rSlL X.K):=by
 intro pins s σ H x v vl vu lo hi sl Q I rx hs pl pu h
 obtain ⟨a,xs,rfl,hx,q⟩:=h
 cases rx
 obtain ⟨its,r,ht,hz⟩:=I.list hx
 have hlen:=r.length
 refine ⟨"list",_,slot_list_getitem.lookup,ht.isList.typeIs,?_⟩
 refine wpAny_getItem_list_slice ht.isList hs pl pu .none (by simp) ?_ (by rw [List.size_toArray] <;> omega)
 rw [slicePick_cut,←hlen]
 refine ⟨.ref s.heap.objs.size,_,I.laid (t':=s.toks) (o:=.lst (cutV xs lo hi)) (fun b ob q=>Heap.get?_push_of_some _ q) (Nat.le_refl _) ?_,rfl,q _ (I.hok.fresh (Nat.le_refl _))⟩
 exact ⟨Nat.le_trans (cutV_length xs lo hi) hz,_,0,(r.drop (HT.sIx xs.length 0 lo)).take (HT.sIx xs.length xs.length hi - HT.sIx xs.length 0 lo),Heap.get?_push_size _ rfl⟩
def flatV:V→Bool
 | .non=>true
 | .bl _=>true
 | .int _=>true
 | .str _=>true
 | _=>false
def eqV:V→V→Bool
 | .non,.non=>true
 | .bl a,.bl b=>a==b
 | .bl a,.int b=>(if a then 1 else 0)==b
 | .int a,.bl b=>a==(if b then 1 else 0)
 | .int a,.int b=>a==b
 | .str a,.str b=>a==b
 | _,_=>false
private theorem eqAt_V {A:Around}{s:Shared}{y x:V}{u v:Value}(ry:RelV y u)(rx:RelV x v)(fy:flatV y=true)(fx:flatV x=true):SeqAt.EqAt A s u v (eqV y x):=by
 cases y with
 | non=>
  cases ry
  cases x with
  | non=>cases rx;exact SeqAt.EqAt.same _
  | bl b=>cases rx;exact SeqAt.EqAt.none_bool b
  | int b=>obtain ⟨t,rfl⟩:=rx;exact SeqAt.EqAt.none_int b t
  | str b=>obtain ⟨t,rfl⟩:=rx;exact SeqAt.EqAt.none_str b t
  | _=>exact absurd (show false=true from fx) Bool.false_ne_true
 | bl a=>
  cases ry
  cases x with
  | non=>cases rx;exact SeqAt.EqAt.bool_none a
  | bl b=>cases rx;exact SeqAt.EqAt.bool_bool a b
  | int b=>obtain ⟨t,rfl⟩:=rx;exact SeqAt.EqAt.bool_int a b t
  | str b=>obtain ⟨t,rfl⟩:=rx;exact SeqAt.EqAt.bool_str a b t
  | _=>exact absurd (show false=true from fx) Bool.false_ne_true
 | int a=>
  obtain ⟨t',rfl⟩:=ry
  cases x with
  | non=>cases rx;exact SeqAt.EqAt.int_none a t'
  | bl b=>cases rx;exact SeqAt.EqAt.int_bool a t' b
  | int b=>obtain ⟨t,rfl⟩:=rx;exact SeqAt.EqAt.int_int a t' b t
  | str b=>obtain ⟨t,rfl⟩:=rx;exact SeqAt.EqAt.int_str a t' b t
  | _=>exact absurd (show false=true from fx) Bool.false_ne_true
 | str a=>
  obtain ⟨t',rfl⟩:=ry
  cases x with
  | non=>cases rx;exact SeqAt.EqAt.str_none a t'
  | bl b=>cases rx;exact SeqAt.EqAt.str_bool a t' b
  | int b=>obtain ⟨t,rfl⟩:=rx;exact SeqAt.EqAt.str_int a t' b t
  | str b=>obtain ⟨t,rfl⟩:=rx;exact SeqAt.EqAt.str_str a t' b t
  | _=>exact absurd (show false=true from fx) Bool.false_ne_true
 | _=>exact absurd (show false=true from fy) Bool.false_ne_true
def inV (x:V)(xs:List V):Bool:=xs.any fun y=>eqV y x
private theorem call_len_seq:CallR X (.builtin "len") (fun xs H Q=>∃p ys,xs=[.ref p]∧(SqL X.K H p ys∨SqT X.K H p ys)∧Q (.int ys.length) H):=by
 intro pins s σ H xs us Q I r h
 obtain ⟨p,ys,rfl,hq,q⟩:=h
 obtain ⟨u,rfl,rx⟩:=vals1 r
 cases rx
 have hn:=line63
 rcases hq with hq | hq
 ·obtain ⟨its,r',pl,hz⟩:=I.list hq
  have hlen:=r'.length
  exact Calls.call_len_list pl.isList (by simp only [List.size_toArray] <;> omega) ⟨.int ys.length,H,I.tok _,⟨s.toks+1,by rw [List.size_toArray,hlen]⟩,q⟩
 ·obtain ⟨its,r',pl,hz⟩:=I.tuple hq
  have hlen:=r'.length
  exact len_tuple pl (by simp only [List.size_toArray] <;> omega) ⟨.int ys.length,H,I.tok _,⟨s.toks+1,by rw [List.size_toArray,hlen]⟩,q⟩
private theorem call_len_str:CallR X (.builtin "len") (fun xs H Q=>∃z,xs=[.str z]∧z.length≤sizeLine∧Q (.int z.length) H):=by
 intro pins s σ H xs us Q I r h
 obtain ⟨z,rfl,hz,q⟩:=h
 obtain ⟨u,rfl,t,rfl⟩:=vals1 r
 have hn:=line63
 exact len_str (by omega) ⟨.int z.length,H,I.tok _,⟨_,rfl⟩,q⟩
private theorem CallR.or {f:Value}{r r':List V→Hp→VK→Prop}(h:CallR X f r)(h':CallR X f r'):CallR X f (fun xs H Q=>r xs H Q∨r' xs H Q):=by
 intro pins s σ H xs us Q I rs q
 rcases q with q | q
 ·exact h pins s σ H xs us Q I rs q
 ·exact h' pins s σ H xs us Q I rs q
private theorem call_list_of:CallR X (.type "list") (fun xs H Q=>∃p ys,xs=[.ref p]∧(SqL X.K H p ys∨SqT X.K H p ys)∧∀l,H l=none→Q (.ref l) (upd H l (.lst ys))):=by
 intro pins s σ H xs us Q I r h
 obtain ⟨p,ys,rfl,hq,q⟩:=h
 obtain ⟨u,rfl,rx⟩:=vals1 r
 cases rx
 have fin:∀(its:List Value),Vals ys its→ys.length≤sizeLine→∀(h':Heap) (c':Nat),(∀b o',s.heap.get? b=some o'→h'.get? b=some o')→
   h'.get? s.heap.objs.size=some {cls:=.type "list",dict:=none,data:=.seq its.toArray c',slots:= #[]}→EP X pins σ Q (.ref s.heap.objs.size) {s with heap:=h'}:=fun its r' hz h' c' kp e=>
  ⟨.ref s.heap.objs.size,_,I.laid (t':=s.toks) kp (Nat.le_refl _) (show ObjOk X.prog X.w _ h' _ (.lst ys) from ⟨hz,its,c',r',e⟩),rfl,q _ (I.hok.fresh (Nat.le_refl _))⟩
 rcases hq with hq | hq
 ·obtain ⟨its,r',pl,hz⟩:=I.list hq
  have hlen:=r'.length
  obtain ⟨o,ho,hc,n,hd⟩:=pl.isList
  exact call_list_seq p (.inl rfl) ho hc hd (fun h' c' kp e=>fin its r' hz h' c' kp e) (by simp only [List.size_toArray] <;> omega)
 ·obtain ⟨its,r',pl,hz⟩:=I.tuple hq
  have hlen:=r'.length
  obtain ⟨o,ho,hc,n,hd⟩:=pl
  exact call_list_seq p (.inr rfl) ho hc hd (fun h' c' kp e=>fin its r' hz h' c' kp e) (by simp only [List.size_toArray] <;> omega)
private theorem call_tuple_of:CallR X (.type "tuple") (fun xs H Q=>∃p ys,xs=[.ref p]∧((SqL X.K H p ys∧∀l,H l=none→Q (.ref l) (upd H l (.tup ys)))∨(SqT X.K H p ys∧Q (.ref p) H))):=by
 intro pins s σ H xs us Q I r h
 obtain ⟨p,ys,rfl,h⟩:=h
 obtain ⟨u,rfl,rx⟩:=vals1 r
 cases rx
 rcases h with ⟨hq,q⟩ | ⟨hq,q⟩
 ·obtain ⟨its,r',pl,hz⟩:=I.list hq
  have hlen:=r'.length
  refine call_tuple_list pl.isList (fun h' kp=>?_) (by simp only [List.size_toArray] <;> omega)
  have I1:Inv X pins σ H {s with heap:=h'}:=I.kept (t':=s.toks) kp
  have I2:Inv X pins σ (upd H h'.objs.size (.tup ys)) {s with heap:=h'.push {cls:=.type "tuple",data:=.seq its.toArray}}:=
   I1.laid (t':=s.toks) (fun b o e=>Heap.get?_push_of_some _ e) (Nat.le_refl _) (show ObjOk X.prog X.w _ _ _ (.tup ys) from ⟨hz,its,r',IsTup.new _ _⟩)
  exact ⟨.ref h'.objs.size,_,I2,rfl,q _ (I1.hok.fresh (Nat.le_refl _))⟩
 ·obtain ⟨its,r',pl,hz⟩:=I.tuple hq
  exact call_tuple_same pl ⟨.ref p,H,I,rfl,q⟩
def tyV (K:PySem.W.Frag)(T:String)(x:V)(H:Hp):Prop:=match x with
 | .str _=>T= "str"
 | .int _=>T= "int"
 | .ref p=>(T= "list" ∧∃xs,SqL K H p xs)∨(T= "tuple" ∧∃o,K.lookup p=some o∧o.cls=.type "tuple" ∧o.dict=none)∨
   (T= "dict" ∧((∃kvs,H p=some (.dK kvs))∨∃kvs,H p=some (.dT kvs)))∨(T= "set" ∧∃S n,H p=some (.set S n))
 | _=>False
private theorem tyV_is {pins:List (Addr ×Obj)}{σ:St}{H:Hp}{s:Shared}{T:String}{x:V}{v:Value}(I:Inv X pins σ H s)(r:RelV x v)(ty:tyV X.K T x H):
  s.TypeIs v T∧∀a,v=.ref a→∃ob,s.heap.get? a=some ob∧ob.dict=none:=by
 cases x with
 | str z=>
  obtain ⟨t,rfl⟩:=r
  cases (show T= "str" from ty)
  exact ⟨typeIs_str s z t,fun _ e=>nomatch e⟩
 | int i=>
  obtain ⟨t,rfl⟩:=r
  cases (show T= "int" from ty)
  exact ⟨typeIs_int s i t,fun _ e=>nomatch e⟩
 | ref p=>
  cases r
  rcases ty with ⟨rfl,xs,hq⟩ | ⟨rfl,o,hk,hc,hd⟩ | ⟨rfl,hk⟩ | ⟨rfl,S,n,hk⟩
  ·obtain ⟨its,_,pl,_⟩:=I.list hq
   refine ⟨pl.isList.typeIs,fun a e=>?_⟩
   cases e
   obtain ⟨o,n,e,c,hd,_⟩:=pl
   exact ⟨o,e,hd⟩
  ·refine ⟨⟨o,I.kIn p o hk,hc⟩,fun a e=>?_⟩
   cases e
   exact ⟨o,I.kIn _ o hk,hd⟩
  ·have z:∃o,s.heap.get? p=some o∧o.ExactDict:=by
    rcases hk with ⟨kvs,hk⟩ | ⟨kvs,hk⟩
    ·obtain ⟨_,_,_,_,o,_,_,e,ex,_⟩:=I.hok p _ hk
     exact ⟨o,e,ex⟩
    ·obtain ⟨_,_,_,_,o,_,_,e,ex,_⟩:=I.hok p _ hk
     exact ⟨o,e,ex⟩
   obtain ⟨o,e,ex⟩:=z
   refine ⟨⟨o,e,ex.1⟩,fun a e2=>?_⟩
   cases e2
   exact ⟨o,e,ex.2.1⟩
  ·obtain ⟨o,_,_,_,e,ex,_⟩:=I.hok p _ hk
   refine ⟨⟨o,e,ex.1⟩,fun a e2=>?_⟩
   cases e2
   exact ⟨o,e,ex.2.1⟩
 | _=>exact False.elim ty
def tBM (K:PySem.W.Frag)(T:String)(r:V→List V→Hp→VK→Prop)(to:TE)(t:TA):TE:=fun σ H Q=>to σ H fun x H1=>tyV K T x H1∧t σ H1 fun xs H2=>r x xs H2 Q
variable {o e:Expr}{es:List Expr}{to:TE}{t:TA}{name:Str}{apos cpos:Pos}{T id:String}{r:V→List V→Hp→VK→Prop}
private theorem pe_bm (pa:PlainAttrs T)(slot:Slot T name id)(hty:typeOf (.builtin id)=pure (.type "method_descriptor")) (hm:MtR X id r) (ho:PE X o to) (ha:PA X (e::es) t)
  (hbase:attributeBase o name X.env (eval o X.env)=eval o X.env:=by rfl)
  (hfew:((backTo cpos (starEach (e::es) X.env)).all (fun x=>!x.1) && (backToKw cpos (keywordEach [] X.env)).all (fun x=>x.1.isSome)
   && decide ((e::es).length+([]:List Keyword).length+(if ([]:List Keyword).isEmpty then 0 else 1) < 30))=true:=by rfl)
  (hline:(apos.endLine==cpos.line)=true:=by rfl) (hs:starEach (e::es) X.env=(false,eval e X.env)::starEach es X.env:=by rfl) (hplain:(backTo cpos (starEach es X.env)).any (·.1)=false:=by rfl):
  PE X (.Call (.Attribute o name apos) (e::es) [] cpos) (tBM X.K T r to t):=by
 intro pins s σ H Q I h
 refine wpAny_Call_method_late hbase hfew hline rfl (thn (ho pins s σ H _ I h) fun v s1 ⟨x,H1,I1,r1,ty,q1⟩=>?_)
 obtain ⟨h1,h2⟩:=tyV_is I1 r1 ty
 refine ⟨T,id,pa,slot,hty,h1,h2,?_⟩
 have hA:=ha cpos pins s1 σ H1 _ I1 q1
 rw [hs] at hA ⊢
 refine Calls.callWith_builtin (by show (false || (backTo cpos (starEach es X.env)).any (·.1))=false;rw [hplain] <;> rfl) (Calls.evalArgs_plain ?_)
 exact thn hA fun us s2 ⟨vs,H2,I2,r2,q2⟩=>hm pins s2 σ H2 x vs v us Q I2 r1 r2 q2
/- xs.append(e),list.index on a module's tuple .. are MtR facts of 06m -/
end
end L2
namespace L2
open PySem PySem.Spec PyProof.Rows
def MtM (X:Cx)(id:String)(r:V→List V→Hp→VK→Prop):Prop:=
 ∀(pins:List (Addr ×Obj)) (s:Shared) (σ:St) (H:Hp) (x:V) (xs:List V) (v:Value) (us:List Value) (Q:VK),Inv X pins σ H s→RelV x v→Vals xs us→r x xs H Q→
  wpAny (model X.prog X.w) X.A (call (.builtin id) (v::us)) (EP X pins σ Q) X.xe s
private theorem Vals.one {x:V}{us:List Value}(h:Vals [x] us):∃u,us=[u]∧RelV x u:=by
 cases h with
 | cons r t=>cases t;exact ⟨_,rfl,r⟩
section
variable {X:Cx}{pins:List (Addr ×Obj)}{σ:St}{H:Hp}{s:Shared}{l b:Addr}{xs ys zs:List V}
private theorem Inv.lset {its its':List Value}{n:Nat}{f:Array Value→Array Value}{t':Nat}(I:Inv X pins σ H s)(hH:H l=some (.lst xs))
  (e:s.heap.get? l=some {cls:=.type "list",data:=.seq its.toArray n}) (hf:f its.toArray=its'.toArray) (hv:Vals ys its') (hz:ys.length≤sizeLine):
  Inv X pins σ (upd H l (.lst ys)) {s with heap:=s.heap.update l (Obj.mapSeq f),toks:=t'}:=by
 have q:=PySem.IsL.update e f
 rw [hf] at q
 refine I.write (x:=l) (e:=l) (by rw [hH];exact trivial) (.inl rfl) (fun b' u hb hu=>(Heap.get?_update_other s.heap (Obj.mapSeq f) (Ne.symm hb)).trans hu) ⟨_,q⟩ ?_
 exact ⟨hz,its',_,hv,q⟩
private theorem Inv.lnew {its:List Value}{t':Nat}(I:Inv X pins σ H s)(hv:Vals ys its)(hz:ys.length≤sizeLine):
  Inv X pins σ (upd H s.heap.objs.size (.lst ys)) {s with heap:=s.heap.push {cls:=.type "list",data:=.seq its.toArray},toks:=t'}:=
 I.laid (fun _ _ q=>Heap.get?_push_of_some _ q) (Nat.le_refl _) ⟨hz,its,0,hv,Heap.get?_push_size _ rfl⟩
private theorem Inv.fresh (I:Inv X pins σ H s):H s.heap.objs.size=none:=I.hok.fresh (Nat.le_refl _)
private theorem Inv.lstM (I:Inv X pins σ H s)(hH:H l=some (.lst xs)):xs.length≤sizeLine∧∃(its:List Value) (n:Nat),Vals xs its∧xs.length=its.length∧s.heap.get? l=some {cls:=.type "list",data:=.seq its.toArray n}:=by
 obtain ⟨z,its,n,r,e⟩:=I.hok l _ hH
 exact ⟨z,its,n,r,r.length,e⟩
private theorem notLongL {n:Nat}(h:n≤sizeLine):Builtin.List.listTooLong n=false:=by
 unfold Builtin.List.listTooLong
 exact decide_eq_false (by omega)
end
section
variable {X:Cx}
def rAppend:V→List V→Hp→VK→Prop:=fun x vs H Q=>∃l xs y,x=.ref l∧vs=[y]∧H l=some (.lst xs)∧xs.length < sizeLine∧Q .non (upd H l (.lst (xs++ [y])))
private theorem mt_append:MtM X "list.append" rAppend:=by
 intro pins s σ H x vs v us Q I rx rv h
 obtain ⟨l,xs,y,rfl,rfl,hH,hz,q⟩:=h
 cases rx
 obtain ⟨u,rfl,ru⟩:=rv.one
 obtain ⟨z,its,n,r,hl,e⟩:=I.lstM hH
 refine call_meets F.slot_list_append ⟨_,e,rfl⟩ F.entry_list_append (F.args_list_append_2 _ _) (PySem.list_append l its.toArray n u (by rw [List.size_toArray];omega)) ⟨e,?_⟩
 refine ⟨.non,_,I.lset (its':=its++ [u]) hH e (by simp) (r.append (.cons ru .nil)) ?_,rfl,q⟩
 rw [List.length_append,List.length_singleton]
 omega
def rExtend:V→List V→Hp→VK→Prop:=fun x vs H Q=>∃l b xs zs,x=.ref l∧vs=[.ref b]∧H l=some (.lst xs)∧H b=some (.lst zs)∧xs.length+zs.length≤sizeLine∧Q .non (upd H l (.lst (xs++zs)))
private theorem mt_extend:MtM X "list.extend" rExtend:=by
 intro pins s σ H x vs v us Q I rx rv h
 obtain ⟨l,b,xs,zs,rfl,rfl,hH,hB,hz,q⟩:=h
 cases rx
 obtain ⟨u,rfl,ru⟩:=rv.one
 cases ru
 obtain ⟨z,its,n,r,hl,e⟩:=I.lstM hH
 obtain ⟨z2,its2,n2,r2,hl2,e2⟩:=I.lstM hB
 have hsz:its.toArray.size+its2.toArray.size≤sizeLine:=by rw [List.size_toArray,List.size_toArray];omega
 have hlong:¬(!its.toArray.isEmpty && Builtin.List.listTooLong (its.toArray.size+its2.toArray.size))=true:=by
  rw [notLongL hsz,Bool.and_false]
  exact Bool.false_ne_true
 refine call_meets F.slot_list_extend ⟨_,e,rfl⟩ F.entry_list_extend (F.args_list_extend_2 _ _)
  (AutoSeq1.list_extend_list_list_0 l its.toArray n b its2.toArray n2 hlong (by rw [List.size_toArray];omega) (by omega)) ⟨e,e2,?_⟩
 refine ⟨.non,_,I.lset (its':=its++its2) hH e (by simp) (r.append r2) ?_,rfl,q⟩
 rw [List.length_append]
 omega
def rCat:R2:=fun x y H Q=>∃l b xs zs,x=.ref l∧y=.ref b∧H l=some (.lst xs)∧H b=some (.lst zs)∧xs.length+zs.length≤sizeLine∧∀p,H p=none→Q (.ref p) (upd H p (.lst (xs++zs)))
private theorem op_cat:OpR X (binaryOp .Add) rCat:=by
 intro pins s σ H x y v u Q I rx ry h
 obtain ⟨l,b,xs,zs,rfl,rfl,hH,hB,hz,q⟩:=h
 cases rx
 cases ry
 obtain ⟨z,its,n,r,hl,e⟩:=I.lstM hH
 obtain ⟨z2,its2,n2,r2,hl2,e2⟩:=I.lstM hB
 refine PySem.P.add_list e e2 ?_ (by rw [List.size_toArray,List.size_toArray];omega)
 have ea:its.toArray++its2.toArray=(its++its2).toArray:=by simp
 rw [ea]
 exact ⟨.ref _,_,I.lnew (t':=s.toks) (r.append r2) (by rw [List.length_append];omega),rfl,q _ I.fresh⟩
end
section
variable {prog:Program}{w:World}{A:Around}{E:Value→Shared→Prop}{s:Shared}
end
section
variable {X:Cx}
end
end L2
namespace Att
open PySem PySem.W PySem.Calls PyProof.Rows
private theorem ints_of_wellAll {P:Params}{h:Heap}:∀(ns:List Int) (vs:List Value),WellAll P h vs (ns.map WData.int)→IntsAre vs ns:=by
 intro ns
 induction ns with
 | nil=>
  intro vs w
  rw [List.map_nil] at w
  cases w
  exact .nil
 | cons n ns ih=>
  intro vs w
  rw [List.map_cons] at w
  cases w with
  | cons a b=>
   cases a
   exact .cons _ _ (ih _ b)
private theorem script_of {l:OpenLaw}{n:Nat}(hn:l.most=some n){P:Params}{h:Heap}{args:List WData}{vals:List Value}
  (hpre:l.row.toRowW.claim.pre args=true) (hwl:WellAll P h vals args):
  ∃a vs ns,vals=[Value.ref a]∧args=[WData.list (ns.map WData.int)]∧h.get? a=some {cls:=.type "list",data:=.seq vs.toArray}∧IntsAre vs ns∧ns.length≤n:=by
 have hsh:WShape.hasAll [] args [.list .int]=true:=(pre_splitW hpre).1
 have hc:l.pre.holds [] {args:=args}=true:=(pre_splitW hpre).2
 obtain ⟨d,r,rfl,h1,h2⟩:=hasAllW_cons hsh
 obtain rfl:=hasAllW_nil h2
 obtain ⟨xs,rfl,h3⟩:=hasW_list h1
 obtain ⟨ns,rfl⟩:=items_int h3
 have hlen:ns.length≤n:=by
  unfold OpenLaw.pre at hc
  have h4:(WTm.not (.lt (.lit (.int (n:Int))) (.len (.arg 0)))).holds [] {args:=[.list (ns.map .int)]}=true:=by
   have h4:=(holds_andW hc).1
   rw [hn] at h4
   exact h4
  have h5:=condW_of h4 (w_not (w_lt w_lit (w_len_list (w_arg rfl))))
  rw [List.length_map] at h5
  refine Nat.le_of_not_lt fun q=>?_
  have q':(n:Int) < ((ns.length:Nat):Int):=by omega
  first
   | (rw [decide_eq_true q'] at h5;exact absurd h5 (by decide))
   | (simp at h5;omega)
 cases hwl with
 | cons w1 w2=>
  cases w2
  cases w1 with
  | list ho hall=>exact ⟨_,_,ns,rfl,rfl,ho,ints_of_wellAll ns _ hall,hlen⟩
private theorem post_true (l:OpenLaw)(args:List WData):l.row.toRowW.claim.post args (.bool true) args=true:=
 postW_of (r:=l.row.toRowW) (X:=(true==true))
  (show WShape.has [] (.bool true) .bool=true by first | rfl | decide | simp [WShape.has,WShape.arms,WShape.armsAll])
  (show (WTm.eq .res (.lit (.bool true))).value [] {args:=args,res:=some (.bool true),after:=args}=some (.bool (true==true)) from w_eq_bool (w_res rfl) w_lit) rfl
private theorem attach_call {l:OpenLaw}{n:Nat}{q:Program}{loose:List Str}{XP:(Str→Option Value)→Heap→Prop}{YP:World→Heap→Prop}{d:DefRec}
  (hn:l.most=some n) (hdf:d.params.defaults=[])
  (call:∀(w:World) (s₀ s₁:Shared) (mg mb:Str→Option Value) (fa:Addr) (o:Obj) (pm cd doc:Value) (a:Addr) (vs:List Value) (ns:List Int),
   Ground q loose [] XP w s₀ mg mb s₁.heap→YP w s₁.heap→
   s₁.heap.get? fa=some o→o.data=.func (docDef d.name d.params d.body d.scope pm cd doc)→s₁.heap.CodeRec cd d.name→mg d.name=some (.ref fa)→
   s₁.heap.get? a=some {cls:=.type "list",data:=.seq vs.toArray}→IntsAre vs ns→ns.length≤n→s₁.gens= #[]→
   codeAny (model l.prog w) callerA (.call (.ref fa) ⟨[.ref a],[]⟩) (fun r s'=>r=.ok (.ret (.bool true))∧OldK s₁.heap s'.heap∧s'.os=s₁.os∧AllBare s'.gens) s₁):
  WalkO q loose XP YP l.row.toRowW d [] (fun f vs=>PySem.call f vs):=by
 intro w s₀ s₁ mg mb G Y fa o pm cd doc dV kV ho hd hcd hD hmg hg args vals as hpre hlay hrd hwl hlo
 obtain rfl:dV=.none:=Dflts.none hD hdf
 obtain rfl:kV=.none:=Dflts.noKw hD
 obtain ⟨a,vs,ns,rfl,rfl,hobj,hints,hlen⟩:=script_of hn hpre hwl
 refine enter_call (codeAny_mono (call w s₀ s₁ mg mb fa o pm cd doc a vs ns G Y ho (fd_plain hd) hcd hmg hobj hints hlen hg) fun r s' hq=>?_)
 obtain ⟨rfl,h2,h3,h4⟩:=hq
 exact ⟨.inl ⟨.bool true,.bool true,[],rfl,fun _=>rfl,.bool true,post_true l _,fun _=>⟨List.Pairwise.nil,fun _ hm=>(nomatch hm)⟩⟩,h2,h3,h4⟩
section
variable {prog:Program}{w:World}{A:Around}{E:Value→Shared→Prop}{s:Shared}{K:Frag}
end
end Att
namespace L2
open PySem PySem.Spec PyProof.Rows
private theorem vals_ints:∀{vs:List Value} {ns:List Int},IntsAre vs ns→Vals (ns.map V.int) vs
 | _,_,.nil=>.nil
 | _,_,.cons n t h=>.cons ⟨t,rfl⟩ (vals_ints h)
def Only (H:Hp):Prop:=∀b,H b=none∨∃o xs,H b=some (.frz o (.lst xs))
private theorem law_call {P:Program}{w:World}{K:PySem.W.Frag}{mg mb:Str→Option Value}{CX:CXT}{k:Nat}{fa a:Addr}{fd:FuncData}{x:Str}{sp:Sp}{s₁:Shared}{vs:List Value}{ns:List Int}
  (KX:K.In s₁.heap) (hns:s₁.heap.Ns mainGlobals mg) (hb:s₁.heap.Ns builtinsNs mb) (hbb:∀x:Str,x≠ "__name__" →mb x=bootBuiltins x) (hlim:s₁.heap.NoLimit) (hg:s₁.gens= #[])
  (ha:s₁.heap.get? a=some {cls:=.type "list",data:=.seq vs.toArray}) (hi:IntsAre vs ns) (hl:ns.length≤sizeLine) (hr:Room k callerA)
  (F:∀base:Heap,K.In base→base.Ns mainGlobals mg→FnOk P w K mg base CX k fa fd [x] sp) (hbind:∀(s:Shared) (u:Value),BindsTo s fd ⟨[u],[]⟩ [(x,u)])
  (hsp:∀H:Hp,Only H→SqL K H a (ns.map V.int)→sp [.ref a] H (fun v _=>v=.bl true) fun _ _ _=>False)
  (hCX:∀H e s',CX [] H s₁ (fun _ _ _=>False) e s'→False):
  codeAny (model P w) callerA (.call (.ref fa) ⟨[.ref a],[]⟩) (fun r s'=>r=.ok (.ret (.bool true))∧OldK s₁.heap s'.heap∧s'.os=s₁.os∧AllBare s'.gens) s₁:=by
 have rv:=vals_ints hi
 have lenV:=hi.length
 -- from an abstract heap in which nothing but the script may be tracked
 have core:∀H:Hp,Only H→SqL K H a (ns.map V.int)→HOk P w H s₁.heap→(∀b,H b≠none→b=a)→(H a≠none→K.lookup a=none)→
   codeAny (model P w) callerA (.call (.ref fa) ⟨[.ref a],[]⟩) (fun r s'=>r=.ok (.ret (.bool true))∧OldK s₁.heap s'.heap∧s'.os=s₁.os∧AllBare s'.gens) s₁:=by
  intro H hO hS hok hA hK
  have base_of:∀{b:Addr} {o:Obj},s₁.heap.get? b=some o→H b=none→(hidT s₁.heap H).get? b=some o:=fun e n=>hidT_get e n
  have noA:∀{b:Addr} {o:Obj} {es:Array DictEntry} {ep:Nat},s₁.heap.get? b=some o→o.data=.dict es ep→H b=none:=fun {b o es ep} e d=>by
   cases q:H b with
   | none=>rfl
   | some u=>
    have e':b=a:=hA b (by rw [q];simp)
    subst e'
    rw [ha] at e;cases e
    have d':Data.seq vs.toArray _=Data.dict es ep:=d
    cases d'
  have nsK:∀{b:Addr} {m:Str→Option Value},s₁.heap.Ns b m→(hidT s₁.heap H).Ns b m:=fun {b m} ⟨o,es,ep,e,d,r⟩=>⟨o,es,ep,base_of e (noA e d),d,r⟩
  have hKb:K.In (hidT s₁.heap H):=fun b o e=>base_of (KX b o e) (by
   cases q:H b with
   | none=>rfl
   | some u=>
    have e':b=a:=hA b (by rw [q];simp)
    subst e'
    rw [hK (by rw [q];simp)] at e;cases e)
  have hM:Mod K mg (hidT s₁.heap H):=⟨hKb,nsK hns,⟨mb,nsK hb,hbb⟩,let ⟨mc,h1,h2⟩:=hlim;⟨mc,nsK h1,h2⟩⟩
  have e0:Env0 P w K mg (hidT s₁.heap H) callerA [] s₁ H:=⟨rfl,hM,fun b o e=>of_hidT e,Nat.le_of_eq (hidT_size _ _),trivial,fun b hb=>absurd (show b∈([]:List Addr) from hb) (by simp),hok,.of_eq hg,.inl rfl⟩
  refine codeAny_mono ((F _ hKb (nsK hns)).run callerA [] s₁ H ⟨[.ref a],[]⟩ [.ref a] [.ref a] _ _ hr e0 (hbind s₁ (.ref a)) (.cons rfl .nil) (hsp H hO hS)) fun r s' h=>?_
  cases r with
  | error e=>exact (hCX H e s' h).elim
  | ok fl=>
   cases fl with
   | next=>exact False.elim h
   | brk=>exact False.elim h
   | cont=>exact False.elim h
   | ret u=>
    obtain ⟨v,H',os,bare,un,hok',r',q⟩:=h
    have q':v=.bl true:=q
    subst q'
    obtain rfl:u=Value.bool true:=r'
    refine ⟨rfl,OldK.of_keep fun b o e=>?_,os,bare⟩
    cases q:H b with
    | none=>exact un.keep b o e q (by intro z;exact absurd (show b∈([]:List Addr) from z) (by simp)) (by simp)
    | some u=>
     rcases hO b with z | ⟨ob,xs,z⟩
     ·rw [q] at z;cases z
     ·have z2:=un.frzs b ob _ z
      obtain ⟨e1,_⟩:=hok b _ z
      obtain ⟨e2,_⟩:=hok' b _ z2
      rw [e] at e1;cases e1
      exact e2
 cases hk:K.lookup a with
 | some o=>
  -- the script is one of the module's own objects
  have e:=KX a o hk
  rw [ha] at e
  cases e
  refine core (fun _=>none) (fun _=>.inl rfl) (.inr ⟨_,vs.toArray,_,hk,rfl,rfl,rfl,by rw [List.size_toArray,lenV];exact hl,by simpa using rv⟩) (fun b u z=>by have z':(none:Option HO)=some u:=z;cases z') (fun b z=>absurd rfl z) fun z=>absurd rfl z
 | none=>
  refine core (fun b=>if b=a then some (.frz {cls:=.type "list",data:=.seq vs.toArray} (.lst (ns.map V.int))) else none) (fun b=>?_) (.inl (.inr ⟨{cls:=.type "list",data:=.seq vs.toArray},if_pos rfl⟩)) (fun b u z=>?_) (fun b z=>?_) fun _=>hk
  ·by_cases hb:b=a
   ·exact .inr ⟨_,_,if_pos hb⟩
   ·exact .inl (if_neg hb)
  ·by_cases hb:b=a
   ·have z':=(if_pos hb).symm.trans z
    cases z'
    subst hb
    exact ⟨ha,by rw [List.length_map];exact hl,vs,_,rv,ha⟩
   ·have z':=(if_neg hb).symm.trans z
    cases z'
  ·by_cases hb:b=a
   ·exact hb
   ·exact absurd (if_neg hb) z
end L2
namespace L2
open PySem PySem.Spec PyProof.Rows
abbrev KOf {K:PySem.W.Frag}{h:Heap}(_:K.In h):PySem.W.Frag:=K
private theorem walk_of {l:PySem.W.OpenLaw}{n k:Nat}{q:Program}{loose:List Str}{XP:(Str→Option Value)→Heap→Prop}{YP:World→Heap→Prop}{d:DefRec}{K:Params→PySem.W.Frag}{CX:World→CXT}{sp:World→Sp}{x:Str}
  (hn:l.most=some n) (hn2:n≤sizeLine) (hdf:d.params.defaults=[]) (hr:Room k callerA)
  (hY:∀(w:World) (h:Heap),YP w h→(K w.params).In h)
  (F:∀(w:World) (mg:Str→Option Value) (fa:Addr) (h:Heap),(K w.params).In h→h.Ns mainGlobals mg→mg d.name=some (.ref fa)→
   ∃fd:FuncData,(∀(s:Shared) (u:Value),BindsTo s fd ⟨[u],[]⟩ [(x,u)])∧
    ∀base:Heap,(K w.params).In base→base.Ns mainGlobals mg→FnOk l.prog w (K w.params) mg base (CX w) k fa fd [x] (sp w))
  (hsp:∀(w:World) (H:Hp) (a:Addr) (ns:List Int),ns.length≤n→Only H→SqL (K w.params) H a (ns.map V.int)→sp w [.ref a] H (fun v _=>v=.bl true) fun _ _ _=>False)
  (hCX:∀(w:World) (H:Hp) (s:Shared) (e:Value) (s':Shared),CX w [] H s (fun _ _ _=>False) e s'→False):
  PySem.W.WalkO q loose XP YP l.row.toRowW d [] (fun f vs=>PySem.call f vs):=by
 refine Att.attach_call hn hdf fun w s₀ s₁ mg mb fa o pm cd doc a vs ns G Y ho hd hcd hmg hobj hints hlen hg=>?_
 have KX:=hY w _ Y
 obtain ⟨fd,hb,hF⟩:=F w mg fa _ KX G.T.g hmg
 exact law_call KX G.T.g G.T.b G.T.builtins G.T.nolimit hg hobj hints (Nat.le_trans hlen hn2) hr hF hb (fun H hO hS=>hsp w H a ns hlen hO hS) fun H e s'=>hCX w H s₁ e s'
end L2
/- THE LAST THEOREM (shape;LID,My.* are yours):
  My.Adr:a structure of the addresses that your layer names (classes,functions);My.Txt K t:a structure (Prop) of the equations over K;
  My.txt_mk:{K} {implicit addresses ..} (e1:nsIn K mainGlobals "law" =some (some (.ref f))) (e2:K.lookup f=some ⟨oc,od,.func (fnOf "law" "law" params body scope dV kV doc pm an cdv ct),sl⟩) (e3:codeIn K cdv "law" =true) .. :∃t,My.Txt K t
set_option maxRecDepth 100000 in
set_option maxHeartbeats 0 in
theorem PySem.Challenge.cw_LID_holds : PySem.Challenge.rw_LID.Holds := by
 w_on;o_law;k_head;(case hw=>w_witness2)
 k_fill
 refine L2.walk_of (l:=PySem.Challenge.rw_LID) (n:=63) (k:=40) (x:= "script") (CX:=fun w=>..) (sp:=fun _=>My.sp_law) rfl (by decide) rfl ⟨rfl,by decide,by decide⟩ (fun w h Y=>PySem.W.kIn_of Y) ?F ?S ?C
 case F=>
  intro w mg fa h KX G hmg
  have T:∃t,My.Txt (L2.KOf KX) t:=by
   dsimp only [L2.KOf] -- K must stand as «<heap const> w.params» for k_is
   refine' My.txt_mk ?e1 ?e2 ?e3 ..
   (case e1=>PySem.W.k_is) -- in the order:a name -> its address -> its object -> its parts
   (case e2=>PySem.W.k_is)
   ..
  obtain ⟨t,T⟩:=T
  have e0:=hmg.symm.trans (PySem.W.mg_of KX G T.law)
  cases e0 -- fa is the law's own address
  exact ⟨_,fun s u=>.of_eq rfl,fun base kb nb=>My.law_fn T kb nb⟩ -- if «.of_eq rfl» comes too early:refine' ⟨_,?b,fun base kb nb=>My.law_fn T kb nb⟩;exact fun s u=>.of_eq rfl
 case S=>exact fun w H a ns hl hO hS=>..
 case C=>exact ..
(the tactic k_is has no namespace:write k_is) -/
namespace L2
open PySem PySem.Spec PyProof.Rows
abbrev CX0:CXT:=fun _ _ _ _ _ _=>False
abbrev E0:XK:=fun _ _ _=>False
private theorem pass0 {X:Cx}:Passes CX0 X E0:=fun _ _ _ _ _ _ _ h=>h.elim
structure Fun (K:PySem.W.Frag)(x qual:Str)(st:Stmt)(f:Addr)(fd:FuncData):Prop where
 ex:∃(oc:Value) (od:Option Addr) (kV doc pm:Value) (an:Option Addr) (cdv ct:Value) (osl:Array (Option Value)),
  fd=PySem.W.fnOf x qual (defArgs st) (defBody st) (defScope st) .none kV doc pm an cdv ct∧K.lookup f=some ⟨oc,od,.func fd,osl⟩∧PySem.W.codeIn K cdv qual=true
 kp:PySem.W.keepIn K (.ref f)=true
section
variable {P:Program}{w:World}{K:PySem.W.Frag}{mg:Str→Option Value}{base:Heap}
private theorem Fun.ok {x qual:Str}{st:Stmt}{f:Addr}{fd:FuncData}{N ps:List Str}{k:Nat}{sp:Sp}(F:Fun K x qual st f fd)(S:FnScope N ps (defScope st))(len:∀vs H Q E,sp vs H Q E→vs.length=ps.length)
  (hbody:∀(cdv:Value) (A:Around) (outer:List Env) (s:Shared) (H:Hp) (vs:List V) (Q:VK) (E:XK),Room k (A.deeper (envOfC qual (defScope st) s.heap.objs.size f cdv))→sp vs H Q E→
   ∃t,PSs (cxOf CX0 P w K mg base N qual (defScope st) f cdv A outer s H E).nox (defBody st) t∧t {nx:=fun _ H'=>Q .non H',rt:=Q} (start N vs) H):FnOk P w K mg base CX0 (k+1) f fd ps sp:=by
 obtain ⟨oc,od,kV,doc,pm,an,cdv,ct,osl,rfl,lk,hcd⟩:=F.ex
 refine fn_of lk hcd S len fun A outer s H vs Q E hr hsp=>?_
 obtain ⟨t,h,q⟩:=hbody cdv A outer s H vs Q E hr hsp
 exact ⟨t,h.nox,q⟩
private theorem Fun.binds {x qual:Str}{st:Stmt}{f:Addr}{fd:FuncData}{ps:List Str}(F:Fun K x qual st f fd)
  (h:∀(kV doc pm:Value) (an:Option Addr) (cdv ct:Value) (us:List Value),us.length=ps.length→bindArgs (PySem.W.fnOf x qual (defArgs st) (defBody st) (defScope st) .none kV doc pm an cdv ct) ⟨us,[]⟩=pure (ps.zip us)):Binds K fd ps []:=by
 obtain ⟨oc,od,kV,doc,pm,an,cdv,ct,osl,rfl,lk,hcd⟩:=F.ex
 exact .all (h kV doc pm an cdv ct)
private theorem fun_mk {x qual:Str}{st:Stmt}{f:Addr}{oc:Value}{od an:Option Addr}{osl:Array (Option Value)}{kV doc pm cdv ct:Value}(l:K.lookup f=some ⟨oc,od,.func (PySem.W.fnOf x qual (defArgs st) (defBody st) (defScope st) .none kV doc pm an cdv ct),osl⟩)
  (c:PySem.W.codeIn K cdv qual=true) (k:PySem.W.keepIn K (.ref f)=true):Fun K x qual st f (PySem.W.fnOf x qual (defArgs st) (defBody st) (defScope st) .none kV doc pm an cdv ct):=⟨⟨oc,od,kV,doc,pm,an,cdv,ct,osl,rfl,l,c⟩,k⟩
end
private theorem hu_of {A:Around}{k:Nat}(hr:Room k A):A.units+1 < cLine:=Nat.lt_of_le_of_lt (Nat.add_le_add_left (by decide:1≤64) _) hr.units
private theorem small1000 {n:Nat}(h:n≤1000):n < sizeLine:=Nat.lt_of_le_of_lt h (by decide)
section
variable {X:Cx}
private theorem pv (i:Nat){x:Str}{pos:Pos}(hN:X.N[i]? =some x:=by rfl)(hv:Vis X.env.scope x:=by first | exact Or.inl rfl | exact Or.inr (Or.inl rfl) | exact Or.inr (Or.inr rfl))(hd:(x==("__debug__" :Str))=false:=by decide)
  (hcd:(x==("__classdict__" :Str))=false:=by decide):PE X (.Name x pos) (tVar i):=pe_var hN hv hd hcd
end
def Same (H H':Hp):Prop:=∀b o,H b=some o→H' b=some o
private theorem Same.refl (H:Hp):Same H H:=fun _ _ h=>h
private theorem Same.trans {H H1 H2:Hp}(a:Same H H1)(b:Same H1 H2):Same H H2:=fun c o h=>b c o (a c o h)
private theorem Same.free {H H':Hp}(e:Same H H'){l:Addr}(h:H' l=Option.none):H l=Option.none:=by
 cases q:H l with
 | none=>rfl
 | some o=>
  rw [e l o q] at h
  cases h
end L2
namespace L2
open PySem PySem.Spec PyProof.Rows
section
variable {κ:Type} [DecidableEq κ]
def valV (kvs:List (κ ×V))(k:κ):Option V:=(kvs.find? fun kv=>decide (kv.1=k)).map (·.2)
def putK (kvs:List (κ ×V))(k:κ)(v:V):List (κ ×V):=
 if (kvs.any fun kv=>decide (kv.1=k))=true then kvs.map (fun kv=>if kv.1=k then (kv.1,v) else kv) else kvs++ [(k,v)]
private theorem valV_pos {p:κ ×V}{r:List (κ ×V)}{k:κ}(e:p.1=k):valV (p::r) k=some p.2:=by simp [valV,List.find?_cons,e]
private theorem valV_neg {p:κ ×V}{r:List (κ ×V)}{k:κ}(e:¬p.1=k):valV (p::r) k=valV r k:=by simp [valV,List.find?_cons,e]
private theorem valV_any (k:κ):∀kvs:List (κ ×V),(kvs.any fun kv=>decide (kv.1=k))=(valV kvs k).isSome
 | []=>rfl
 | p::r=>by
  rw [List.any_cons]
  by_cases e:p.1=k
  ·simp only [valV_pos e,decide_eq_true e,Bool.true_or,Option.isSome_some]
  ·rw [valV_neg e,decide_eq_false e,Bool.false_or];exact valV_any k r
private theorem length_putK (kvs:List (κ ×V))(k:κ)(v:V):(putK kvs k v).length≤kvs.length+1:=by
 unfold putK
 split
 ·rw [List.length_map];omega
 ·rw [List.length_append,List.length_cons,List.length_nil];omega
private theorem putK_new {kvs:List (κ ×V)}{k:κ}(v:V)(h:valV kvs k=none):putK kvs k v=kvs++ [(k,v)]:=by
 unfold putK
 rw [valV_any,h]
 exact if_neg (by decide)
private theorem RelO.isSome_eq {o:Option V}{u:Option Value}(r:RelO o u):o.isSome=u.isSome:=by
 cases o with
 | none=>cases u with
  | none=>rfl
  | some _=>exact (show False from r).elim
 | some _=>cases u with
  | none=>exact (show False from r).elim
  | some _=>rfl
private theorem KV.val {kvs:List (κ ×V)}{vs:List (κ ×Value)}(r:KV kvs vs)(k:κ):RelO (valV kvs k) (valueAt vs k):=by
 unfold KV at r
 induction r with
 | nil=>exact True.intro
 | @cons p q ps qs h t ih=>
  obtain ⟨h1,h2⟩:=h
  by_cases e:p.1=k
  ·have e':q.1=k:=h1.symm.trans e
   have b:valueAt (q::qs) k=some q.2:=by simp [valueAt,List.find?_cons,e']
   rw [valV_pos e,b];exact h2
  ·have e':¬q.1=k:=fun z=>e (h1.trans z)
   have b:valueAt (q::qs) k=valueAt qs k:=by simp [valueAt,List.find?_cons,e']
   rw [valV_neg e,b];exact ih
private theorem KV.any {kvs:List (κ ×V)}{vs:List (κ ×Value)}(r:KV kvs vs)(k:κ):(kvs.any fun kv=>decide (kv.1=k))=vs.any fun kv=>decide (kv.1=k):=by
 unfold KV at r
 induction r with
 | nil=>rfl
 | cons h t ih=>rw [List.any_cons,List.any_cons,ih,h.1]
private theorem KV.repl {kvs:List (κ ×V)}{vs:List (κ ×Value)}(r:KV kvs vs)(k:κ){y:V}{u:Value}(ry:RelV y u):
  KV (kvs.map fun kv=>if kv.1=k then (kv.1,y) else kv) (vs.map fun kv=>if kv.1=k then (kv.1,u) else kv):=by
 unfold KV at r ⊢
 induction r with
 | nil=>exact .nil
 | @cons p q ps qs h t ih=>
  rw [List.map_cons,List.map_cons]
  refine .cons ?_ ih
  obtain ⟨h1,h2⟩:=h
  by_cases e:p.1=k
  ·rw [if_pos e,if_pos (h1.symm.trans e)];exact ⟨h1,ry⟩
  ·rw [if_neg e,if_neg (fun z=>e (h1.trans z))];exact ⟨h1,h2⟩
private theorem KV.put {kvs:List (κ ×V)}{vs:List (κ ×Value)}(r:KV kvs vs)(k:κ){y:V}{u:Value}(ry:RelV y u):KV (putK kvs k y) (stored vs k u):=by
 unfold putK stored
 rw [r.any k]
 by_cases e:(vs.any fun kv=>decide (kv.1=k))=true
 ·rw [if_pos e,if_pos e];exact r.repl k ry
 ·rw [if_neg e,if_neg e];exact Paired.snoc r ⟨rfl,ry⟩
private theorem KV.length {kvs:List (κ ×V)}{vs:List (κ ×Value)}(r:KV kvs vs):kvs.length=vs.length:=Paired.length r
end
private theorem kV_is {P:Program}{w:World}{k:Key}{u:Value}(r:RelV (kV k) u):(mixKind P w).is k u=true:=by
 cases k with
 | inl i=>obtain ⟨t,e⟩:=(show∃t,u=Value.int i t from r);subst e;exact mixKind_int P w i t
 | inr x=>obtain ⟨t,e⟩:=(show∃t,u=Value.str x t from r);subst e;exact mixKind_str P w x t
private theorem items_are {P:Program}{w:World}:∀{ks:List Key} {us:List Value},Vals (ks.map kV) us→ItemsAre (mixKind P w) ks us
 | [],_,r=>by rw [List.map_nil] at r;cases r;exact .nil
 | k::ks,_,r=>by
  rw [List.map_cons] at r
  cases r with
  | cons h t=>exact .cons (kV_is h) (items_are t)
abbrev KT (H:Hp):List (List Key ×V)→List (List Key ×Addr ×Value)→Prop:=Paired fun p q=>p.1=q.1∧H q.2.1=some (.tup (p.1.map kV))∧RelV p.2 q.2.2
private theorem KT.val {H:Hp}{kvs:List (List Key ×V)}{xs:List (List Key ×Addr ×Value)}(r:KT H kvs xs)(k:List Key):RelO (valV kvs k) ((atKey xs k).map (·.2)):=by
 induction r with
 | nil=>exact True.intro
 | @cons p q ps qs h t ih=>
  obtain ⟨h1,_,h2⟩:=h
  by_cases e:p.1=k
  ·have e':q.1=k:=h1.symm.trans e
   have b:atKey (q::qs) k=some q.2:=by simp [atKey,List.find?_cons,e']
   rw [valV_pos e,b];exact h2
  ·have e':¬q.1=k:=fun z=>e (h1.trans z)
   have b:atKey (q::qs) k=atKey qs k:=by simp [atKey,List.find?_cons,e']
   rw [valV_neg e,b];exact ih
private theorem KT.repl {H:Hp}{kvs:List (List Key ×V)}{xs:List (List Key ×Addr ×Value)}(r:KT H kvs xs)(k:List Key){y:V}{u:Value}(ry:RelV y u):
  KT H (kvs.map fun kv=>if kv.1=k then (kv.1,y) else kv) (xs.map (putAt k u)):=by
 induction r with
 | nil=>exact .nil
 | @cons p q ps qs h t ih=>
  rw [List.map_cons,List.map_cons]
  refine .cons ?_ ih
  obtain ⟨h1,h2,h3⟩:=h
  unfold putAt
  by_cases e:p.1=k
  ·rw [if_pos e,if_pos (h1.symm.trans e)];exact ⟨h1,h2,ry⟩
  ·rw [if_neg e,if_neg (fun z=>e (h1.trans z))];exact ⟨h1,h2,h3⟩
private theorem KT.put {H:Hp}{kvs:List (List Key ×V)}{xs:List (List Key ×Addr ×Value)}(r:KT H kvs xs)(k:List Key){b:Addr}{y:V}{u:Value}(hb:H b=some (.tup (k.map kV)))(ry:RelV y u):
  KT H (putK kvs k y) (storedH xs k b u):=by
 have e:(kvs.any fun kv=>decide (kv.1=k))=(atKey xs k).isSome:=by
  rw [valV_any,(r.val k).isSome_eq,Option.isSome_map]
 unfold putK storedH
 rw [e]
 by_cases q:(atKey xs k).isSome=true
 ·rw [if_pos q,if_pos q];exact r.repl k ry
 ·rw [if_neg q,if_neg q];exact Paired.snoc r ⟨rfl,hb,ry⟩
private theorem KT.keeps {H H':Hp}{kvs:List (List Key ×V)}{xs:List (List Key ×Addr ×Value)}(r:KT H kvs xs)(ht:∀b ys,H b=some (.tup ys)→H' b=some (.tup ys)):KT H' kvs xs:=
 Paired.mapP r fun _ _ z=>⟨z.1,ht _ _ z.2.1,z.2.2⟩
section
variable {P:Program}{w:World}{H:Hp}{h:Heap}{a:Addr}
private theorem rd_of {u:HO}(ok:HOk P w H h)(e:Rd H a u):ObjOk P w H h a u:=e.ok ok
private theorem dk_rd {kvs:List (Key ×V)}(ok:HOk P w H h)(e:Rd H a (.dK kvs)):kvs.length≤sizeLine∧(a==sysModules)=false∧∃vs,KV kvs vs∧h.DictOf (mixKind P w) a vs:=
 show ObjOk P w H h a (.dK kvs) from rd_of ok e
private theorem dk_of {kvs:List (Key ×V)}(ok:HOk P w H h)(e:H a=some (.dK kvs)):kvs.length≤sizeLine∧(a==sysModules)=false∧∃vs,KV kvs vs∧h.DictOf (mixKind P w) a vs:=dk_rd ok (.inl e)
private theorem key_of {ks:List Key}(ok:HOk P w H h)(e:H a=some (.tup (ks.map kV))):(tupleKind (mixKind P w)).is h ks a:=by
 obtain ⟨_,its,r,o,h1,h2,n,h3⟩:=(show ObjOk P w H h a (.tup (ks.map kV)) from ok a _ e)
 exact ⟨o,its.toArray,n,h1,h2,h3,by simpa using items_are r⟩
private theorem dt_rd {kvs:List (List Key ×V)}(ok:HOk P w H h)(e:Rd H a (.dT kvs)):kvs.length≤sizeLine∧(a==sysModules)=false∧
  ∃xs,KT H kvs xs∧h.DictOfH (tupleKind (mixKind P w)) a xs:=by
 obtain ⟨z,y,xs,r,o,es,ep,h1,h2,h3,h4,h5⟩:=(show ObjOk P w H h a (.dT kvs) from rd_of ok e)
 refine ⟨z,y,xs,r,o,es,ep,h1,h2,h3,h4,fun x hx=>?_,h5⟩
 have all:∀{l:List (List Key ×V)} {m:List (List Key ×Addr ×Value)},KT H l m→∀x∈m,(tupleKind (mixKind P w)).is h x.1 x.2.1:=by
  intro l m q
  induction q with
  | nil=>intro x hx;exact nomatch hx
  | @cons p q ps qs hq t ih=>
   intro x hx
   rcases List.mem_cons.mp hx with e | hx
   ·subst e
    exact key_of ok (by rw [←hq.1];exact hq.2.1)
   ·exact ih x hx
 exact all r x hx
private theorem dt_of {kvs:List (List Key ×V)}(ok:HOk P w H h)(e:H a=some (.dT kvs)):kvs.length≤sizeLine∧(a==sysModules)=false∧
  ∃xs,KT H kvs xs∧h.DictOfH (tupleKind (mixKind P w)) a xs:=dt_rd ok (.inl e)
end
def DGet (H:Hp)(a:Addr)(y:V)(r:Option V):Prop:=
 (∃kvs k,Rd H a (.dK kvs)∧y=kV k∧r=valV kvs k)∨∃kvs k b,Rd H a (.dT kvs)∧y=.ref b∧H b=some (.tup (k.map kV))∧r=valV kvs k
def DPut (H:Hp)(a:Addr)(y v:V)(H':Hp):Prop:=
 (∃kvs k,H a=some (.dK kvs)∧y=kV k∧kvs.length < sizeLine∧H'=upd H a (.dK (putK kvs k v)))∨
 ∃kvs k b,H a=some (.dT kvs)∧y=.ref b∧H b=some (.tup (k.map kV))∧kvs.length < sizeLine∧H'=upd H a (.dT (putK kvs k v))
private theorem DGet.k {H:Hp}{a:Addr}{kvs:List (Key ×V)}{k:Key}(e:H a=some (.dK kvs)):DGet H a (kV k) (valV kvs k):=.inl ⟨kvs,k,.inl e,rfl,rfl⟩
private theorem DPut.k {H:Hp}{a:Addr}{kvs:List (Key ×V)}{k:Key}{v:V}(e:H a=some (.dK kvs))(hl:kvs.length < sizeLine):DPut H a (kV k) v (upd H a (.dK (putK kvs k v))):=.inl ⟨kvs,k,e,rfl,hl,rfl⟩
section
variable {X:Cx}{pins:List (Addr ×Obj)}{σ:St}{H:Hp}{s:Shared}{a:Addr}{y v:V}{u r:Value}{o:Option V}{A:Around}{E:Value→Shared→Prop}
private theorem Inv.big (I:Inv X pins σ H s):sysModules < s.heap.objs.size:=by
 have h:mainGlobals < s.heap.objs.size:=(I.mod.glob.keeps I.bk).lt
 exact Nat.lt_trans (by decide) h
private theorem d_getItem {Q:Value→Shared→Prop}(hu:A.units+1 < cLine)(I:Inv X pins σ H s)(g:DGet H a y (some v))(ry:RelV y u)(h:∀w' s',Inv X pins σ H s'→RelV v w'→Q w' s'):
  wpAny (model X.prog X.w) A (getItem (.ref a) u) Q E s:=by
 rcases g with ⟨kvs,k,e,ey,l⟩ | ⟨kvs,k,b,e,ey,eb,l⟩
 ·subst ey
  obtain ⟨z,hd,vs,rel,dd⟩:=dk_rd I.hok e
  obtain ⟨w',hw,rw'⟩:=RelO.some_of (v:=v) (o:=valueAt vs k) (by rw [l];exact rel.val k)
  exact wpAny_getItem_of (kV_is ry) dd.mapOf hw (h w' _ (I.tok _) rw')
 ·subst ey
  cases (show u=Value.ref b from ry)
  obtain ⟨z,hd,xs,rel,dd⟩:=dt_rd I.hok e
  obtain ⟨w',hw,rw'⟩:=RelO.some_of (v:=v) (o:=(atKey xs k).map (·.2)) (by rw [l];exact rel.val k)
  obtain ⟨p,hp,hp2⟩:=Option.map_eq_some_iff.mp hw
  refine wpAny_getItem_heap (tupleKind_room_in1 hu) (key_of I.hok eb) dd hp ?_
  rw [hp2]
  exact h w' _ (I.tok _) rw'
private theorem d_in {Q:Value→Shared→Prop}(hu:A.units+1 < cLine)(I:Inv X pins σ H s)(g:DGet H a y o)(ry:RelV y u)(h:∀s',Inv X pins σ H s'→Q (.bool o.isSome) s'):
  wpAny (model X.prog X.w) A (compareOp .In u (.ref a)) Q E s:=by
 rcases g with ⟨kvs,k,e,ey,l⟩ | ⟨kvs,k,b,e,ey,eb,l⟩
 ·subst ey
  obtain ⟨z,hd,vs,rel,dd⟩:=dk_rd I.hok e
  refine wpAny_in_of (kV_is ry) hd dd.mapOf ?_
  rw [←(rel.val k).isSome_eq,←l]
  exact h _ (I.tok _)
 ·subst ey
  cases (show u=Value.ref b from ry)
  obtain ⟨z,hd,xs,rel,dd⟩:=dt_rd I.hok e
  refine wpAny_in_heap (tupleKind_room_in1 hu) (key_of I.hok eb) hd dd ?_
  have q:=(rel.val k).isSome_eq
  rw [Option.isSome_map] at q
  rw [←q,←l]
  exact h _ (I.tok _)
private theorem d_notIn {Q:Value→Shared→Prop}(hu:A.units+1 < cLine)(I:Inv X pins σ H s)(g:DGet H a y o)(ry:RelV y u)(h:∀s',Inv X pins σ H s'→Q (.bool (!o.isSome)) s'):
  wpAny (model X.prog X.w) A (compareOp .NotIn u (.ref a)) Q E s:=by
 rcases g with ⟨kvs,k,e,ey,l⟩ | ⟨kvs,k,b,e,ey,eb,l⟩
 ·subst ey
  obtain ⟨z,hd,vs,rel,dd⟩:=dk_rd I.hok e
  refine wpAny_notIn_of (kV_is ry) hd dd.mapOf ?_
  rw [←(rel.val k).isSome_eq,←l]
  exact h _ (I.tok _)
 ·subst ey
  cases (show u=Value.ref b from ry)
  obtain ⟨z,hd,xs,rel,dd⟩:=dt_rd I.hok e
  refine wpAny_notIn_heap (tupleKind_room_in1 hu) (key_of I.hok eb) hd dd ?_
  have q:=(rel.val k).isSome_eq
  rw [Option.isSome_map] at q
  rw [←q,←l]
  exact h _ (I.tok _)
private theorem d_write {h':Heap}{t':Nat}{ob:HO}(I:Inv X pins σ H s)(mu:Mut (H a))(hs:Heap.SameBut a s.heap h')(he:∃q,h'.get? a=some q)(new:ObjOk X.prog X.w (upd H a ob) h' a ob):
  Inv X pins σ (upd H a ob) {s with heap:=h',toks:=t'}:=
 I.write (x:=a) (e:=a) mu (.inl rfl) (fun b q hb z=>(hs.2 b hb).trans z) he new
private theorem dk_new {P:Program}{w:World}{H':Hp}{h':Heap}{kvs:List (Key ×V)}{vs:List (Key ×Value)}(z:kvs.length≤sizeLine)(hd:(a==sysModules)=false)(rel:KV kvs vs)(dd:h'.DictOf (mixKind P w) a vs):
  ObjOk P w H' h' a (.dK kvs):=⟨z,hd,vs,rel,dd⟩
private theorem d_setItem {H':Hp}{Q:Unit→Shared→Prop}(hu:A.units+1 < cLine)(I:Inv X pins σ H s)(g:DPut H a y v H')(ry:RelV y u)(rv:RelV v r)(h:∀s',Inv X pins σ H' s'→Q () s'):
  wpAny (model X.prog X.w) A (setItem (.ref a) u r) Q E s:=by
 rcases g with ⟨kvs,k,e,ey,l,eH⟩ | ⟨kvs,k,b,e,ey,eb,l,eH⟩
 ·subst ey eH
  obtain ⟨z,hd,vs,rel,dd⟩:=dk_of I.hok e
  have hz:vs.length≤sizeLine:=by rw [←rel.length];exact z
  have hl:(putK kvs k v).length≤sizeLine:=by have:=length_putK kvs k v;omega
  refine wpAny_setItem_pairs (hsz:=hz) (kV_is ry) dd fun h' dd' hs=>h _ ?_
  have he:∃q,h'.get? a=some q:=let ⟨q,_,_,hq,_⟩:=dd';⟨q,hq⟩
  exact d_write I (by rw [e];exact True.intro) hs he (dk_new hl hd (rel.put k rv) dd')
 ·subst ey eH
  cases (show u=Value.ref b from ry)
  obtain ⟨z,hd,xs,rel,dd⟩:=dt_of I.hok e
  have hz:xs.length≤sizeLine:=by rw [←Paired.length rel];exact z
  have hl:(putK kvs k v).length≤sizeLine:=by have:=length_putK kvs k v;omega
  refine wpAny_setItem_heap (hsz:=hz) (tupleKind_room_in1 hu) (key_of I.hok eb) dd fun h' dd' hs=>h _ ?_
  obtain ⟨q,es,ep,hq,h2,h3,h4,_,h5⟩:=dd'
  refine d_write I (by rw [e];exact True.intro) hs ⟨q,hq⟩ ⟨hl,hd,_,(rel.put k eb rv).keeps fun c ys ec=>?_,q,es,ep,hq,h2,h3,h4,h5⟩
  rw [upd_ne (ne_of ec e (fun z=>nomatch z))]
  exact ec
end
section
variable {X:Cx}{pins:List (Addr ×Obj)}{σ:St}{H:Hp}{s:Shared}{a:Addr}{kvs:List (Key ×V)}{k:Key}{u:Value}{A:Around}{E:Value→Shared→Prop}
end
def NoSl (i:Expr):Prop:=∀ov iv,subscripted i false ov iv=operate [ov,iv] (getItem ov iv)
private theorem subD_of {prog:Program}{w:World}{A:Around}{E:Value→Shared→Prop}{s:Shared}{env:Env}{value slice:Expr}{pos:Pos}{T id:String}{Q:Value→Shared→Prop}
  (hl:typeLookup (.type T) "__getitem__" =pure (some (.builtin id))) (hs:NoSl slice)
  (h:wpAny (model prog w) A (eval value env) (fun o s₁=>wpAny (model prog w) A (eval slice env) (fun i s₂=>s₂.TypeIs o T∧wpAny (model prog w) A (getItem o i) Q E s₂) E s₁) E s):
  wpAny (model prog w) A (eval (.Subscript value slice pos) env) Q E s:=by
 refine Subscript_ (wpAny_mono h (fun o s₁ h₁=>wpAny_mono h₁ (fun i s₂ h₂=>?_) fun _ _ x=>x) fun _ _ x=>x)
 obtain ⟨hT,h₂⟩:=h₂
 unfold subscriptTail
 refine wpAny_bind ?_
 rw [getitemInPython_of_ne hT.not_modules]
 refine wpAny_bind (wpAny_specialOf hT hl ?_)
 have fin:wpAny (model prog w) A (subscripted slice false o i) (fun r s₃=>wpAny (model prog w) A (letTemporaryGo value o r >>=fun _=>pure r) Q E s₃) E s₂:=by
  rw [hs o i]
  exact wpAny_operating (wpAny_mono h₂ (fun r s₃ h₃=>wpAny_bind (wpAny_letTemporaryGo (wpAny_pure h₃))) fun _ _ x=>x)
 first
  | exact wpAny_pure (wpAny_bind fin)
  | exact wpAny_bind (wpAny_pure (wpAny_bind fin))
  | exact wpAny_bind fin
private theorem dict_typeIs {X:Cx}{pins:List (Addr ×Obj)}{σ:St}{H:Hp}{s:Shared}{a:Addr}{y:V}{o:Option V}(I:Inv X pins σ H s)(g:DGet H a y o):s.TypeIs (.ref a) "dict" :=by
 rcases g with ⟨kvs,k,e,_,_⟩ | ⟨kvs,k,b,e,_,_,_⟩
 ·obtain ⟨_,_,vs,_,dd⟩:=dk_rd I.hok e
  exact dd.typeIs
 ·obtain ⟨_,_,xs,_,dd⟩:=dt_rd I.hok e
  exact dd.typeIs
def tDGet (td ty:TE):TE:=fun σ H Q=>td σ H fun x H1=>ty σ H1 fun y H2=>∃a v,x=.ref a∧DGet H2 a y (some v)∧Q v H2
def tDIn (ty td:TE):TE:=fun σ H Q=>ty σ H fun y H1=>td σ H1 fun x H2=>∃a o,x=.ref a∧DGet H2 a y o∧Q (.bl o.isSome) H2
def tDNotIn (ty td:TE):TE:=fun σ H Q=>ty σ H fun y H1=>td σ H1 fun x H2=>∃a o,x=.ref a∧DGet H2 a y o∧Q (.bl (!o.isSome)) H2
def sDPut (td ty tv:TE):TS:=fun D σ H=>tv σ H fun v H1=>td σ H1 fun x H2=>ty σ H2 fun y H3=>∃a H4,x=.ref a∧DPut H3 a y v H4∧D.nx σ H4
section
variable {X:Cx}{o i e value:Expr}{pos pos' tpos:Pos}{td ty tv:TE}
private theorem pe_dget (hu:X.A.units+1 < cLine)(ho:PE X o td)(hi:PE X i ty)(hs:NoSl i):PE X (.Subscript o i pos) (tDGet td ty):=by
 intro pins s σ H Q I h
 refine subD_of PySem.F.slot_dict_getitem.lookup hs (thn (ho pins s σ H _ I h) fun u s1 ⟨x,H1,I1,rx,q1⟩=>thn (hi pins s1 σ H1 _ I1 q1) fun iv s2 ⟨y,H2,I2,ry,a,v,ex,g,q2⟩=>?_)
 subst ex
 obtain rfl:u=Value.ref a:=rx
 exact ⟨dict_typeIs I2 g,d_getItem hu I2 g ry fun w' s3 I3 rw'=>⟨v,H2,I3,rw',q2⟩⟩
private theorem pc_din (hu:X.A.units+1 < cLine)(hi:PE X i ty)(ho:PE X o td):PC X .In i o (tDIn ty td):=by
 intro pins s σ H Q I h
 refine thn (hi pins s σ H _ I h) fun iv s1 ⟨y,H1,I1,ry,q1⟩=>thn (ho pins s1 σ H1 _ I1 q1) fun u s2 ⟨x,H2,I2,rx,a,ov,ex,g,q2⟩=>?_
 subst ex
 obtain rfl:u=Value.ref a:=rx
 exact d_in hu I2 g ry fun s3 I3=>⟨.bl ov.isSome,H2,I3,rfl,q2⟩
private theorem pc_dnotin (hu:X.A.units+1 < cLine)(hi:PE X i ty)(ho:PE X o td):PC X .NotIn i o (tDNotIn ty td):=by
 intro pins s σ H Q I h
 refine thn (hi pins s σ H _ I h) fun iv s1 ⟨y,H1,I1,ry,q1⟩=>thn (ho pins s1 σ H1 _ I1 q1) fun u s2 ⟨x,H2,I2,rx,a,ov,ex,g,q2⟩=>?_
 subst ex
 obtain rfl:u=Value.ref a:=rx
 exact d_notIn hu I2 g ry fun s3 I3=>⟨.bl (!ov.isSome),H2,I3,rfl,q2⟩
private theorem ps_dput (hu:X.A.units+1 < cLine)(ho:PE X o td)(hi:PE X i ty)(hv:PE X value tv)(hs:swapsWith value (some (.Subscript o i pos')) pos.line X.env=pure false):
  PS X (.Assign [.Subscript o i pos'] value pos) (sDPut td ty tv):=by
 intro pins s σ H D I h
 refine wpAny_Assign_Subscript (thn (hv pins s σ H _ I h) fun r s1 ⟨v,H1,I1,rv,q1⟩=>thn (ho pins s1 σ H1 _ I1 q1) fun u s2 ⟨x,H2,I2,rx,q2⟩=>thn (hi pins s2 σ H2 _ I2 q2) fun iv s3 ⟨y,H3,I3,ry,a,H4,ex,g,q3⟩=>?_) hs
 subst ex
 obtain rfl:u=Value.ref a:=rx
 exact d_setItem hu I3 g ry rv fun s4 I4=>⟨σ,H4,I4,q3⟩
end
private theorem dk_empty {P:Program}{w:World}{H:Hp}(h:Heap)(hb:sysModules < h.objs.size):ObjOk P w H (h.push {cls:=.type "dict",data:=.dict #[]}) h.objs.size (.dK []):=
 ⟨Nat.zero_le _,beq_eq_false_iff_ne.mpr (Ne.symm (Nat.ne_of_lt hb)),[],.nil,Heap.DictOf.new h⟩
def tDNewK:TE:=fun _ H Q=>∀p,H p=none→Q (.ref p) (upd H p (.dK []))
section
variable {X:Cx}{pos:Pos}
private theorem pe_dnewK:PE X (.Dict [] [] pos) tDNewK:=fun pins s σ H Q I h=>
 wpAny_Dict_empty ⟨.ref s.heap.objs.size,_,I.laid (a:=s.heap.objs.size) (o:=.dK []) (t':=s.toks) (fun _ _ q=>Heap.get?_push_of_some _ q) (Nat.le_refl _) (dk_empty s.heap I.big),rfl,h _ (I.hok.fresh (Nat.le_refl _))⟩
end
structure M1 (X:Cx)(o:Expr)(m:Str)(apos:Pos)(e:Expr)(cpos:Pos):Prop where
 base:attributeBase o m X.env (eval o X.env)=eval o X.env
 few:((backTo cpos (starEach [e] X.env)).all (fun x=>!x.1) && (backToKw cpos (keywordEach [] X.env)).all (fun x=>x.1.isSome)
  && decide (([e]:List Expr).length+([]:List Keyword).length+(if ([]:List Keyword).isEmpty then 0 else 1) < 30))=true
 line:(apos.endLine==cpos.line)=true
 trees:backTo cpos (starEach [e] X.env)=[(false,eval e X.env)]
structure M2 (X:Cx)(o:Expr)(m:Str)(apos:Pos)(e f:Expr)(cpos:Pos):Prop where
 base:attributeBase o m X.env (eval o X.env)=eval o X.env
 few:((backTo cpos (starEach [e,f] X.env)).all (fun x=>!x.1) && (backToKw cpos (keywordEach [] X.env)).all (fun x=>x.1.isSome)
  && decide (([e,f]:List Expr).length+([]:List Keyword).length+(if ([]:List Keyword).isEmpty then 0 else 1) < 30))=true
 line:(apos.endLine==cpos.line)=true
 trees:backTo cpos (starEach [e,f] X.env)=[(false,eval e X.env),(false,eval f X.env)]
section
variable {X:Cx}{pins:List (Addr ×Obj)}{σ:St}{H:Hp}{s:Shared}{a:Addr}{y d:V}{u r:Value}{o:Option V}{A:Around}{E:Value→Shared→Prop}
end
section
variable {X:Cx}{o e f:Expr}{apos cpos:Pos}{td ty tx:TE}
end
section
variable {X:Cx}{pins:List (Addr ×Obj)}{σ:St}{H:Hp}{s:Shared}{a:Addr}{kvs:List (Key ×V)}{A:Around}{E:Value→Shared→Prop}
end
section
variable {X:Cx}{pins:List (Addr ×Obj)}{σ:St}{H:Hp}{s:Shared}{a:Addr}{y:V}{u:Value}{A:Around}{E:Value→Shared→Prop}
end
end L2
namespace Px
open PySem
def Tb (h:Heap)(e:Addr)(cls:Value)(od:Option Addr)(T:Addr)(fl:Value):Prop:=
 ∃oe vs oT ts,h.get? e=some oe∧oe.cls=cls∧oe.dict=od∧oe.data=.fields vs∧vs[1]? =some (.ref T)∧T≠e∧h.get? T=some oT∧oT.data=.fields ts∧ts[3]? =some fl∧vs[2]? =some .none
structure Chg (fs:List Addr)(e T:Addr)(h h':Heap):Prop where
 size:h.objs.size≤h'.objs.size
 keep:∀b o,h.get? b=some o→b∉fs→b≠e→b≠T→h'.get? b=some o
 slot:∀b o,h.get? b=some o→b∈fs→b≠e→b≠T→∃sl,h'.get? b=some {o with slots:=sl}
private theorem mf_cls (o:Obj)(f:Array Value→Array Value):(Obj.mapFields f o).cls=o.cls:=Obj.cls_mapFields _ _
private theorem mf_dict (o:Obj)(f:Array Value→Array Value):(Obj.mapFields f o).dict=o.dict:=by
 obtain ⟨c,d,dt,sl⟩:=o
 cases dt <;> rfl
section
variable {M:Model}{A:Around}{E:Value→Shared→Prop}{s:Shared}{base:Heap}{env:Env}{outer:List Env}{L e T:Addr}
private theorem entry {oe:Obj}{vs:Array Value}{head:Value}{hadNext:Bool}{Q:Unit→Shared→Prop}(hfr:A.frames=some (env::outer))
  (hl:s.heap.FunFrames base (env::outer)) (hf:env.frame=some L)
  (he:s.heap.get? e=some oe) (hd:oe.data=.fields vs) (hsz:1 < vs.size) (h2:vs[2]? =some .none)
  (h:∀h' T',s.heap.objs.size≤T'→Tb h' e oe.cls oe.dict T' (rawInt L)→Chg ((env::outer).filterMap (·.frame)) e T' s.heap h'→Q () {s with heap:=h'}):
  wpAny M A (do
   let a←frameOf env
   let pl←entryPlaceOf L hadNext
   let b←EntryCells.newEntry head a .none (rawInt L) .none pl
   setField (.ref e) 1 b) Q E s:=by
 have nfr:e∉(env::outer).filterMap (·.frame):=fun hm=>by
  obtain ⟨_,o,ho,hnf⟩:=hl.mem hm
  have z:oe=o:=Option.some.inj (he.symm.trans ho)
  exact hnf vs (by rw [←z];exact hd)
 refine wpAny_bind (wpAny_frameOf_fun hfr hl hf fun g x=>?_)
 refine wpAny_bind (wpAny_entryPlaceOf fun pl hp=>?_)
 unfold EntryCells.newEntry newFields
 refine wpAny_bind (wpAny_newObj_type ?_ (hp.sizeOk5 _ _ _ _ _))
 have ge:g.get? e=some oe:=(x.2.1 e nfr).trans he
 generalize hN:({cls:=.type "traceback",dict:=none,data:=.fields ([head,.ref L,.none,rawInt L,.none]++(if pl.isEmpty then List.replicate 6 Value.none else pl)).toArray}:Obj)=N
 have nfN:N.isFreed=false:=by rw [←hN];rfl
 have dN:∃ts,N.data=.fields ts∧ts[3]? =some (rawInt L):=by
  rw [←hN]
  exact ⟨_,rfl,by first | (simp;done) | (rcases hp with rfl | ⟨_,_,_,_,_,_,_,rfl⟩ <;> simp)⟩
 have pe:(g.push N).get? e=some oe:=Heap.get?_push_of_some N ge
 have pT:(g.push N).get? g.objs.size=some N:=Heap.get?_push_size g nfN
 have Te:g.objs.size≠e:=Ne.symm (Nat.ne_of_lt (Heap.lt_size ge))
 refine wpAny_setField pe hd hsz (h _ g.objs.size (by rw [x.1];exact Nat.le_refl _) ?_ ?_)
 ·obtain ⟨ts,d1,d2⟩:=dN
  have dd:=Obj.data_mapFields hd (·.setIfInBounds 1 (Value.ref g.objs.size))
  refine ⟨_,_,N,ts,Heap.get?_update_self _ pe (Obj.isFreed_of_fields dd),mf_cls _ _,mf_dict _ _,dd,by simp [hsz],Te,?_,d1,d2,by rw [Array.getElem?_setIfInBounds_ne (by decide)];exact h2⟩
  exact (Heap.get?_update_other _ _ (Ne.symm Te)).trans pT
 ·refine ⟨?_,fun b o q1 q2 q3 q4=>?_,fun b o q1 q2 q3 q4=>?_⟩
  ·rw [Heap.size_after_update,Heap.size_push,x.1];exact Nat.le_succ _
  ·exact (Heap.get?_update_other _ _ (Ne.symm q3)).trans (Heap.get?_push_of_some N ((x.2.1 b q2).trans q1))
  ·obtain ⟨sl,q⟩:=x.2.2 b o q1
   exact ⟨sl,(Heap.get?_update_other _ _ (Ne.symm q3)).trans (Heap.get?_push_of_some N q)⟩
private theorem note1 {oe:Obj}{vs:Array Value}{Q:Unit→Shared→Prop}(hfr:A.frames=some (env::outer))(hl:s.heap.FunFrames base (env::outer))(hf:env.frame=some L)
  (he:s.heap.get? e=some oe) (hd:oe.data=.fields vs) (h1:vs[1]? =some .none) (h2:vs[2]? =some .none)
  (h:∀h' T',s.heap.objs.size≤T'→Tb h' e oe.cls oe.dict T' (rawInt L)→Chg ((env::outer).filterMap (·.frame)) e T' s.heap h'→Q () {s with heap:=h'}):
  wpAny M A (noteFrame (.ref e) env) Q E s:=by
 unfold noteFrame
 simp only [hf]
 refine wpAny_bind (wpAny_field he hd h1 ?_)
 rw [if_neg (by decide)]
 exact entry hfr hl hf he hd (Array.getElem?_eq_some_iff.mp h1).1 h2 h
private theorem note2 {cls:Value}{od:Option Addr}{Q:Unit→Shared→Prop}(hfr:A.frames=some (env::outer))(hl:s.heap.FunFrames base (env::outer))(hf:env.frame=some L)
  (t:Tb s.heap e cls od T .none)
  (h:∀h' T',s.heap.objs.size≤T'→Tb h' e cls od T' (rawInt L)→Chg ((env::outer).filterMap (·.frame)) e T s.heap h'→Q () {s with heap:=h'}):
  wpAny M A (noteFrame (.ref e) env) Q E s:=by
 obtain ⟨oe,vs,oT,ts,he,hc,ho,hd,h1,hTe,hT,hdT,h3,h2⟩:=t
 unfold noteFrame
 simp only [hf]
 refine wpAny_bind (wpAny_field he hd h1 ?_)
 rw [if_pos (show (Value.ref T !=Value.none)=true from by simp)]
 refine wpAny_bind (wpAny_field hT hdT h3 ?_)
 rw [if_neg (show¬((Value.none==rawInt L)=true) from by simp [rawInt])]
 refine wpAny_bind (wpAny_setField hT hdT (Array.getElem?_eq_some_iff.mp h3).1 ?_)
 have oth:∀b,b≠T→(s.heap.update T (Obj.mapFields (·.setIfInBounds 3 Value.none))).get? b=s.heap.get? b:=fun b hb=>Heap.get?_update_other _ _ (Ne.symm hb)
 have apart:∀b o,s.heap.get? b=some o→(∀vs,o.data≠ .fields vs)→b≠T:=fun b o hb hn q=>by
  subst q
  exact hn ts (by rw [←Option.some.inj (hT.symm.trans hb)];exact hdT)
 refine entry (s:={s with heap:=s.heap.update T (Obj.mapFields (·.setIfInBounds 3 Value.none))}) hfr
  (hl.of_keeps fun b o hb hn=>⟨o,(oth b (apart b o hb hn)).trans hb,rfl⟩) hf ((oth e (Ne.symm hTe)).trans he) hd (Array.getElem?_eq_some_iff.mp h1).1 h2 fun h' T' z1 z2 z3=>?_
 have z1':s.heap.objs.size≤T':=by rw [←Heap.size_after_update s.heap T (Obj.mapFields (·.setIfInBounds 3 Value.none))];exact z1
 rw [hc,ho] at z2
 refine h h' T' z1' z2 ⟨?_,fun b o q1 q2 q3 q4=>?_,fun b o q1 q2 q3 q4=>?_⟩
 ·rw [←Heap.size_after_update s.heap T (Obj.mapFields (·.setIfInBounds 3 Value.none))];exact z3.size
 ·exact z3.keep b o ((oth b q4).trans q1) q2 q3 fun q=>absurd (Heap.lt_size q1) (Nat.not_lt.mpr (q ▸ z1'))
 ·exact z3.slot b o ((oth b q4).trans q1) q2 q3 fun q=>absurd (Heap.lt_size q1) (Nat.not_lt.mpr (q ▸ z1'))
private theorem flight {fs:List Addr}{cls fl:Value}{od:Option Addr}{Q:Unit→Shared→Prop}(t:Tb s.heap e cls od T fl)
  (h:∀h',Tb h' e cls od T .none→Chg fs e T s.heap h'→(∀b o,s.heap.get? b=some o→b≠T→h'.get? b=some o)→Q () {s with heap:=h'}):wpAny M A (setFlight (.ref e) none) Q E s:=by
 obtain ⟨oe,vs,oT,ts,he,hc,ho,hd,h1,hTe,hT,hdT,h3,h2⟩:=t
 have z3:3 < ts.size:=(Array.getElem?_eq_some_iff.mp h3).1
 have oth:∀b,b≠T→(s.heap.update T (Obj.mapFields (·.setIfInBounds 3 ((none:Option Addr).elim Value.none fun f=>rawInt f)))).get? b=s.heap.get? b:=
  fun b hb=>Heap.get?_update_other _ _ (Ne.symm hb)
 unfold setFlight
 refine wpAny_bind (wpAny_field he hd h1 ?_)
 rw [if_pos (show (Value.ref T !=Value.none)=true from by simp)]
 have dd:=Obj.data_mapFields hdT (·.setIfInBounds 3 ((none:Option Addr).elim Value.none fun f=>rawInt f))
 refine wpAny_setField hT hdT z3 (h _ ⟨oe,vs,_,_,(oth e (Ne.symm hTe)).trans he,hc,ho,hd,h1,hTe,Heap.get?_update_self _ hT (Obj.isFreed_of_fields dd),dd,by simp [z3],h2⟩ ?_ ?_)
 ·refine ⟨?_,fun b o q1 _ _ q4=>(oth b q4).trans q1,fun b o q1 _ _ q4=>⟨o.slots,(oth b q4).trans q1⟩⟩
  rw [Heap.size_after_update];exact Nat.le_refl _
 ·exact fun b o q1 q4=>(oth b q4).trans q1
end
structure Chg2 (fs:List Addr)(own:Addr→Prop)(h h':Heap):Prop where
 size:h.objs.size≤h'.objs.size
 keep:∀b o,h.get? b=some o→b∉fs→¬own b→h'.get? b=some o
 slot:∀b o,h.get? b=some o→b∈fs→¬own b→∃sl,h'.get? b=some {o with slots:=sl}
private theorem Chg.two {fs:List Addr}{own:Addr→Prop}{e T:Addr}{h h':Heap}(c:Chg fs e T h h')(o1:own e)(o2:own T∨h.get? T=none):Chg2 fs own h h':=by
 have nT:∀b o,h.get? b=some o→¬own b→b≠T:=fun b o q n z=>by
  subst z
  rcases o2 with y | y
  ·exact n y
  ·rw [y] at q;cases q
 exact ⟨c.size,fun b o q a n=>c.keep b o q a (fun z=>n (z ▸ o1)) (nT b o q n),fun b o q a n=>c.slot b o q a (fun z=>n (z ▸ o1)) (nT b o q n)⟩
private theorem Chg2.trans {fs:List Addr}{own:Addr→Prop}{h h1 h2:Heap}(a:Chg2 fs own h h1)(b:Chg2 fs own h1 h2):Chg2 fs own h h2:=
 ⟨Nat.le_trans a.size b.size,fun c o q n m=>b.keep c o (a.keep c o q n m) n m,fun c o q n m=>by
  obtain ⟨s1,e1⟩:=a.slot c o q n m
  obtain ⟨s2,e2⟩:=b.slot c _ e1 n m
  exact ⟨s2,e2⟩⟩
section
variable {M:Model}{A:Around}{E:Value→Shared→Prop}{s:Shared}{base:Heap}{env:Env}{outer:List Env}{L e T:Addr}
private theorem leave1 {oe:Obj}{vs:Array Value}{Q:Unit→Shared→Prop}(hfr:A.frames=some (env::outer))(hl:s.heap.FunFrames base (env::outer))(hf:env.frame=some L)
  (he:s.heap.get? e=some oe) (hd:oe.data=.fields vs) (h1:vs[1]? =some .none) (h2:vs[2]? =some .none)
  (h:∀h' T',s.heap.objs.size≤T'→Tb h' e oe.cls oe.dict T' .none→Chg2 ((env::outer).filterMap (·.frame)) (· =e) s.heap h'→Q () {s with heap:=h'}):
  wpAny M A (leaving env (.ref e)) Q E s:=by
 unfold leaving
 refine wpAny_bind (note1 hfr hl hf he hd h1 h2 fun g T' z t c=>?_)
 refine flight (s:={s with heap:=g}) (fs:=(env::outer).filterMap (·.frame)) t fun h' t' c' k=>h h' T' z t' ?_
 have n:s.heap.get? T'=none:=Heap.get?_none_of_le z
 refine ⟨Nat.le_trans c.size c'.size,fun b o q a m=>?_,fun b o q a m=>?_⟩
 ·have bT:b≠T':=fun y=>by subst y;rw [n] at q;cases q
  exact k b o (c.keep b o q a m bT) bT
 ·have bT:b≠T':=fun y=>by subst y;rw [n] at q;cases q
  obtain ⟨sl,y⟩:=c.slot b o q a m bT
  exact ⟨sl,k b _ y bT⟩
private theorem leave2 {cls:Value}{od:Option Addr}{Q:Unit→Shared→Prop}(hfr:A.frames=some (env::outer))(hl:s.heap.FunFrames base (env::outer))(hf:env.frame=some L)
  (t:Tb s.heap e cls od T .none)
  (h:∀h' T',s.heap.objs.size≤T'→Tb h' e cls od T' .none→Chg2 ((env::outer).filterMap (·.frame)) (fun b=>b=e∨b=T) s.heap h'→Q () {s with heap:=h'}):
  wpAny M A (leaving env (.ref e)) Q E s:=by
 unfold leaving
 refine wpAny_bind (note2 hfr hl hf t fun g T' z t1 c=>?_)
 refine flight (s:={s with heap:=g}) (fs:=(env::outer).filterMap (·.frame)) t1 fun h' t' c' k=>h h' T' z t' ?_
 have n:s.heap.get? T'=none:=Heap.get?_none_of_le z
 refine ⟨Nat.le_trans c.size c'.size,fun b o q a m=>?_,fun b o q a m=>?_⟩
 ·have bT:b≠T':=fun y=>by subst y;rw [n] at q;cases q
  exact k b o (c.keep b o q a (fun y=>m (.inl y)) fun y=>m (.inr y)) bT
 ·have bT:b≠T':=fun y=>by subst y;rw [n] at q;cases q
  obtain ⟨sl,y⟩:=c.slot b o q a (fun y=>m (.inl y)) fun y=>m (.inr y)
  exact ⟨sl,k b _ y bT⟩
private theorem look2 {cls:Value}{od:Option Addr}{Q:Unit→Shared→Prop}(hfr:A.frames=some (env::outer))(hl:s.heap.FunFrames base (env::outer))(hf:env.frame=some L)
  (t:Tb s.heap e cls od T .none)
  (h:∀h' T',s.heap.objs.size≤T'→Tb h' e cls od T' .none→Chg2 ((env::outer).filterMap (·.frame)) (fun b=>b=e∨b=T) s.heap h'→Q () {s with heap:=h'}):
  wpAny M A (noteFrame (.ref e) env) (fun _ s'=>wpAny M A (setFlight (.ref e) none) Q E s') E s:=by
 refine note2 hfr hl hf t fun g T' z t1 c=>?_
 refine flight (s:={s with heap:=g}) (fs:=(env::outer).filterMap (·.frame)) t1 fun h' t' c' k=>h h' T' z t' ?_
 have n:s.heap.get? T'=none:=Heap.get?_none_of_le z
 refine ⟨Nat.le_trans c.size c'.size,fun b o q a m=>?_,fun b o q a m=>?_⟩
 ·have bT:b≠T':=fun y=>by subst y;rw [n] at q;cases q
  exact k b o (c.keep b o q a (fun y=>m (.inl y)) fun y=>m (.inr y)) bT
 ·have bT:b≠T':=fun y=>by subst y;rw [n] at q;cases q
  obtain ⟨sl,y⟩:=c.slot b o q a (fun y=>m (.inl y)) fun y=>m (.inr y)
  exact ⟨sl,k b _ y bT⟩
end
end Px
namespace Px
open PySem PySem.W PySem.Builtin PySem.Builtin.ObjectAttr
abbrev bmV:List Value:=[.type "ValueError",.type "Exception",.type "BaseException",.type "object"]
def xIn (K:Frag)(C:Addr):Bool:=match K.lookup C with
 | some ⟨.type "type",_,.cls cd,sl⟩=>(match cd.mro,sl.toList with
  | .ref D::bm,[_,_,_,_,some (.builtin n),_]=>D==C && n== "ValueError.__new__" && !cd.hasDel && tailIn K bmV bm
  | _,_=>false)
 | _=>false
private theorem x_obj {K:Frag}{h:Heap}{C:Addr}(X:K.In h)(q:xIn K C=true):∃nm qn N bs bm hd sn sub ab col dd k0 k1 k2 k3 k5,
  h.get? C=some (excClassObj nm qn C N bs bm hd sn sub ab col dd k0 k1 k2 k3 k5 "ValueError.__new__")∧OwnTail h bmV bm:=by
 unfold xIn at q
 split at q
 ·rename_i dd cd sl ho
  split at q
  ·rename_i D bm k0 k1 k2 k3 n k5 hm hs
   simp only [Bool.and_eq_true,beq_iff_eq,Bool.not_eq_true'] at q
   obtain ⟨⟨⟨y1,y2⟩,y3⟩,y4⟩:=q
   subst y1;subst y2
   obtain ⟨nm,bs,mro,ns,qn,hd,sn,sub,ab,col,del⟩:=cd
   dsimp only at hm y3
   subst hm;subst y3
   have e:sl= #[k0,k1,k2,k3,some (.builtin "ValueError.__new__"),k5]:=by
    obtain ⟨l⟩:=sl
    exact congrArg Array.mk hs
   subst e
   exact ⟨nm,qn,ns,bs,bm,hd,sn,sub,ab,col,dd,k0,k1,k2,k3,k5,X _ _ ho,tail_of_in X y4⟩
  ·cases q
 ·cases q
abbrev excObj (C t:Addr):Obj:={cls:=.ref C,data:=.fields #[.ref t,.none,.none,.none,.bool false,.none]}
abbrev argObj (vs:List Value):Obj:={cls:=.type "tuple",data:=.seq vs.toArray}
abbrev excHeap (h:Heap)(C:Addr)(vs:List Value):Heap:=(h.push (argObj vs)).push (excObj C h.objs.size)
private theorem excHeap_keep {h:Heap}{C:Addr}{vs:List Value}{b:Addr}{o:Obj}(e:h.get? b=some o):(excHeap h C vs).get? b=some o:=
 Heap.get?_push_of_some _ (Heap.get?_push_of_some _ e)
private theorem excHeap_at {h:Heap}{C:Addr}{vs:List Value}:(excHeap h C vs).get? (h.objs.size+1)=some (excObj C h.objs.size):=
 Heap.get?_push_at (by rw [Heap.size_push]) rfl
section
variable {prog:Program}{w:World}{A:Around}{E:Value→Shared→Prop}{h:Heap}{g:Array GenState}{d:Drawn}{t:Nat}{os:OsState}{K:Frag}{C fI:Addr}{vs:List Value}
private theorem made_type {Q:Fin→Shared→Prop}(X:K.In h)(q:xIn K C=true)(hi:findIn K (.ref C) "__init__" =some (some (.ref fI))) (hf:typeIn K (.ref fI)=some (.type "function"))
  (hq:wpAny (model prog w) A (call (.ref fI) (.ref (h.objs.size+1)::vs)) (fun r s'=>r=.none∧Q (.done (.ret (.ref (h.objs.size+1)))) s') E ⟨excHeap h C vs,g,d,t,os⟩) (hz:vs.length≤sizeLine):
  wpAny (model prog w) A (Builtin.«type.__call__» ⟨.ref C::vs,[]⟩) Q E ⟨h,g,d,t,os⟩:=by
 obtain ⟨nm,qn,N,bs,bm,hd,sn,sub,ab,col,dd,k0,k1,k2,k3,k5,cO,tl⟩:=x_obj X q
 have FV:=PySem.F.excBase_ValueError
 have inV:bmV.contains (.type "ValueError")=true:=by decide
 repeat (first | with_reducible refine wpAny_loadPart_at cO ?_ | with_reducible refine wpAny_madeBy_exc cO ?_ | wp_step)
 refine codeAny_call_builtin_code (Code.quiet_builtin _ FV.quiet) (wpAny_check_new_subU FV inV tl cO ?_)
 refine codeAny_exc_new_subU FV inV FV tl cO ?_ hz
 show wpAny _ _ _ _ _ _
 have cO1:(excHeap h C vs).get? C=_:=excHeap_keep cO
 have X1:K.In (excHeap h C vs):=X.keeps fun b o e=>excHeap_keep e
 have at1:(excHeap h C vs).get? (h.objs.size+1)=some (excObj C h.objs.size):=excHeap_at
 have cC:(Value.ref C::bm).contains (.ref C)=true:=by simp
 unfold isInstance
 repeat (first | with_reducible refine wpAny_loadPart_at at1 ?_ | (with_reducible refine wpAny_isSubtype_exc cO1 ?_;rw [cC]) | wp_step)
 show wpAny _ _ (typeLookup (.ref C) _) _ _ _
 refine (looks_findIn X1 hi).here (s:=⟨excHeap h C vs,g,d,t,os⟩) ?_
 refine wpAny_holding (wpAny_bind ((bind_fn X1 _ hf).here (s:=⟨excHeap h C vs,g,d,t,os⟩) ?_))
 refine wpAny_bind (wpAny_mono hq (fun r s' hr=>?_) fun _ _ x=>x)
 obtain ⟨e1,hQ⟩:=hr
 subst e1
 wp_walk
 exact hQ
private theorem made_call {Q:Value→Shared→Prop}(X:K.In h)(q:xIn K C=true)(hi:findIn K (.ref C) "__init__" =some (some (.ref fI))) (hf:typeIn K (.ref fI)=some (.type "function"))
  (hq:wpAny (model prog w) (A.under (.builtin "type.__call__" ⟨.ref C::vs,[]⟩)) (call (.ref fI) (.ref (h.objs.size+1)::vs)) (fun r s'=>r=.none∧Q (.ref (h.objs.size+1)) s') E ⟨excHeap h C vs,g,d,t,os⟩)
  (hz:vs.length≤sizeLine):wpAny (model prog w) A (call (.ref C) vs) Q E ⟨h,g,d,t,os⟩:=by
 obtain ⟨nm,qn,N,bs,bm,hd,sn,sub,ab,col,dd,k0,k1,k2,k3,k5,cO,tl⟩:=x_obj X q
 have l1:=tc_lookup
 have l2:=tc_bind (.ref C)
 have isT:(⟨h,g,d,t,os⟩:Shared).TypeIs (.ref C) "type" :=⟨_,cO,rfl⟩
 refine wpAny_call (codeAny_of_tree ?_)
 show wpAny _ _ (callAny (.ref C) _) _ _ _
 repeat (any_goals (first | assumption | with_reducible refine wpAny_loadPart_at cO ?_ | wp_step))
 refine ⟨rfl,?_⟩
 refine codeAny_call_builtin_at (Code.quiet_builtin _ (by decide+kernel)) entry_typeCall (wpAny_check_type_call_sub cO (made_type X q hi hf ?_ hz))
 exact hq
private theorem plain_call {s:Shared}{Q:Value→Shared→Prop}(X:K.In s.heap)(q:excIn K C bmV "ValueError.__new__" =true)
  (hq:∀h' e,Heap.MadeExcOf s.heap h' e (.ref C) vs→Q (.ref e) {s with heap:=h'}) (hz:vs.length≤sizeLine):wpAny (model prog w) A (call (.ref C) vs) Q E s:=by
 obtain ⟨h,g,d,t,os⟩:=s
 have FV:=PySem.F.excBase_ValueError
 have inV:bmV.contains (.type "ValueError")=true:=by decide
 unfold excIn at q
 split at q
 ·rename_i dd cd sl ho
  split at q
  ·rename_i D bm k0 k1 k2 k3 n k5 hm hs
   simp only [Bool.and_eq_true,beq_iff_eq,Bool.not_eq_true'] at q
   obtain ⟨⟨⟨⟨⟨y1,y2⟩,y3⟩,y4⟩,y5⟩,y6⟩:=q
   subst y1;subst y2
   obtain ⟨nm,bs,mro,ns,qn,hd,sn,sub,ab,col,del⟩:=cd
   dsimp only at hm y3 y5 y6
   subst hm;subst y3
   have e:sl= #[k0,k1,k2,k3,some (.builtin "ValueError.__new__"),k5]:=by
    obtain ⟨l⟩:=sl
    exact congrArg Array.mk hs
   subst e
   exact wpAny_call_exc_subU FV inV FV (tail_of_in X y4) (X _ _ ho) (.of_isNs (isNs_of_in X y5)) (nsMap_none_of_in X y5 y6) hq hz
  ·cases q
 ·cases q
end
section
variable {prog:Program}{w:World}{A:Around}{E:Value→Shared→Prop}{s:Shared}{env:Env}{K:Frag}
private theorem raise_made {x:Sem Value}{Q:Flow→Shared→Prop}(hh:A.handled=none)
  (h:wpAny (model prog w) A x (fun v s₁=>∃e C t oe,v=.ref e∧K.In s₁.heap∧xIn K C=true∧s₁.heap.get? e=some oe∧oe.cls=.ref C∧oe.data=.fields #[.ref t,.none,.none,.none,.bool false,.none]∧E (.ref e) s₁) E s):
  wpAny (model prog w) A (raiseStmt env (some x) none) Q E s:=by
 unfold raiseStmt
 refine wpAny_bind (wpAny_mono h (fun v s₁ h₁=>?_) fun _ _ x=>x)
 obtain ⟨e,C,t,oe,rfl,X,q,he,hc,hd,hE⟩:=h₁
 obtain ⟨nm,qn,N,bs,bm,hdc,sn,sub,ab,col,dd,k0,k1,k2,k3,k5,cO,tl⟩:=x_obj X q
 have cB:(Value.ref C::bm).contains (.type "BaseException")=true:=by rw [List.contains_cons,tl.hasType (show bmV.contains (.type "BaseException")=true from by decide),Bool.or_true]
 obtain ⟨hp,g,d,tk,os⟩:=s₁
 obtain ⟨c0,d0,dt,sl⟩:=oe
 dsimp only at hc hd
 subst hc;subst hd
 repeat (first | with_reducible refine wpAny_loadPart_at he ?_ | with_reducible refine wpAny_loadPart_at cO ?_ | (with_reducible refine wpAny_isSubtype_exc cO ?_;rw [cB]) | wp_step)
 exact wpAny_raiseNew_none hh hE
end
def valTail:List Value→Bool
 | []=>false
 | v::r=>(v::r)==bmV || (match v with | .ref _=>valTail r | _=>false)
private theorem valTail_cases {P:List Value→Prop}(base:P bmV)(own:∀c r,P r→P (.ref c::r)):∀{l:List Value},valTail l=true→P l
 | [],e=>by cases e
 | v::r,e=>by
  unfold valTail at e
  rcases Bool.or_eq_true_iff.mp e with q | q
  ·rw [beq_iff_eq.mp q];exact base
  ·cases v <;> first | exact own _ _ (valTail_cases base own q) | cases q
def xOver (K:Frag)(C:Addr):Bool:=(clsIn K C).any fun cd=>valTail cd.mro && cd.hasDict
private theorem refuse_val (self:Value){l:List Value}(e:valTail l=true):refuseLoop self "__setattr__" l=pure ():=
 valTail_cases (P:=fun l=>refuseLoop self "__setattr__" l=pure ()) (PySem.F.store_ValueError.passes self) (fun c r q=>by rw [refuseLoop_ref];exact q) e
private theorem val_has {v:Value}(hv:bmV.contains v=true){l:List Value}(e:valTail l=true):l.contains v=true:=
 valTail_cases (P:=fun l=>l.contains v=true) hv (fun c r q=>by rw [List.contains_cons,q,Bool.or_true]) e
private theorem val_ne {l:List Value}(e:valTail l=true):l.isEmpty=false:=by
 cases l with
 | nil=>cases e
 | cons _ _=>rfl
section
variable {prog:Program}{w:World}{A:Around}{E:Value→Shared→Prop}{s:Shared}{K:Frag}{x C:Addr}{ox:Obj}{name:Str}{v:Value}
private theorem x_inst {M:Model}{od:Option Obj}{T:String}(X:K.In s.heap)(I:InstAt s.heap x ox C od)(hp:xOver K C=true)(hT:bmV.contains (.type T)=true):Looks M s.heap (isInstance (.ref x) (.type T)) true:=by
 obtain ⟨cd,hc,ho⟩:=any_some hp
 obtain ⟨o1,o2⟩:=Bool.and_eq_true_iff.mp ho
 refine I.type.andThen (looks_mroIn X ?_)
 unfold mroIn
 rw [hc,Option.bind_some,if_neg (by rw [val_ne o1];decide),val_has hT o1]
private theorem x_open {R:Result→Shared→Prop}{od:Option Obj}{tk:Tok}(X:K.In s.heap)(I:InstAt s.heap x ox C od)(hp:xOver K C=true)(ht:findIn K (.ref C) name=some none)
  (h:∀b,wpAny (model prog w) A.in1 (storeInOwnDict (.ref x) (.ref C) (.str name tk) name v b)
   (fun fin s'=>match fin with
    | .done f=>R (.ok f) s'
    | .again c'=>c'.quiet=true∧codeAny (model prog w) A c' R s') (fun e s'=>R (.error e) s') s):
  codeAny (model prog w) A (.call (.builtin "object.__setattr__") ⟨[.ref x,.str name tk,v],[]⟩) R s:=by
 have FS:=PySem.F.store_ValueError
 have isO:=x_inst (M:=model prog w) (T:= "object") X I hp (by decide)
 obtain ⟨cd,hc,ho⟩:=any_some hp
 obtain ⟨o1,o2⟩:=Bool.and_eq_true_iff.mp ho
 refine codeAny_call_builtin FS.slot.plain FS.entry (@check_slot (model prog w) _ _ s "object.__setattr__" "object" "__setattr__" (.ref x) [.str name tk,v] [] _ FS.kind FS.split isO (FS.args (.ref x) (.str name tk) v) ?_)
 have mr:Looks (model prog w) s.heap (mroOf (.ref C)) cd.mro:=(looks_clsIn X hc).andThen .now
 rw [osa_eq,refuse_eq]
 refine wpAny_bind (wpAny_bind (I.type.here (wpAny_bind (mr.here ?_))))
 rw [refuse_val _ o1]
 have nt:Looks (model prog w) s.heap (storeTaker? none) none:=.now
 refine wpAny_pure (wpAny_bind (I.type.here (wpAny_bind ((looks_findIn X ht).here (wpAny_bind (nt.here ?_))))))
 exact h _
private theorem x_set1 {Q:Unit→Shared→Prop}{vs:Array Value}{sl:Array (Option Value)}(X:K.In s.heap)(hx:s.heap.get? x=some ⟨.ref C,none,.fields vs,sl⟩)(hp:xOver K C=true)
  (hs:findIn K (.ref C) "__setattr__" =some (some (.builtin "object.__setattr__"))) (ht:findIn K (.ref C) name=some none)
  (h:∀h' tk,h'.get? x=some ⟨.ref C,some s.heap.objs.size,.fields vs,sl⟩→h'.Ns1 s.heap.objs.size (fun y=>if y=name then some v else none)→s.heap.objs.size≤h'.objs.size→
   (∀b o,b≠x→s.heap.get? b=some o→h'.get? b=some o)→Q () {s with heap:=h',toks:=tk}):wpAny (model prog w) A (setAttr (.ref x) name v) Q E s:=by
 have I:InstAt s.heap x ⟨.ref C,none,.fields vs,sl⟩ C none:=⟨hx,rfl,rfl,trivial⟩
 obtain ⟨cd,hc,ho⟩:=any_some hp
 obtain ⟨o1,o2⟩:=Bool.and_eq_true_iff.mp ho
 refine set_plain X I hs (x_open (s:={s with toks:=s.toks+1}) X I hp ht fun b=>?_)
 refine wpAny_bind (wpAny_pure (wpAny_bind (wpAny_bind (wpAny_loadPart hx (wpAny_bind (Looks.here (s:={s with toks:=s.toks+1}) (looks_clsIn X hc) ?_))))))
 rw [o2]
 have hx1:(s.heap.push {cls:=.type "dict",data:=.dict #[]}).get? x=some ⟨.ref C,none,.fields vs,sl⟩:=Heap.get?_push_of_some _ hx
 have xs:x≠s.heap.objs.size:=Nat.ne_of_lt (Heap.lt_size hx)
 refine wpAny_bind (wpAny_alloc' ?_)
 refine wpAny_bind (wpAny_update' hx1 ?_)
 refine wpAny_pure ?_
 have gd:((s.heap.push {cls:=.type "dict",data:=.dict #[]}).update x fun o=>{o with dict:=some s.heap.objs.size}).get? s.heap.objs.size=some {cls:=.type "dict",data:=.dict #[]}:=
  (Heap.get?_update_other _ _ xs).trans (Heap.get?_push_size _ rfl)
 have gx:((s.heap.push {cls:=.type "dict",data:=.dict #[]}).update x fun o=>{o with dict:=some s.heap.objs.size}).get? x=some ⟨.ref C,some s.heap.objs.size,.fields vs,sl⟩:=
  Heap.get?_update_self _ hx1 rfl
 have nd:((s.heap.push {cls:=.type "dict",data:=.dict #[]}).update x fun o=>{o with dict:=some s.heap.objs.size}).Ns s.heap.objs.size (fun _=>none):=
  ⟨_, #[],_,gd,rfl,fun e he=>absurd he (by simp),fun _=>rfl⟩
 show wpAny _ _ (storeInDict s.heap.objs.size (.str name _) name v) _ _ _
 unfold storeInDict newKeyGuard
 refine wpAny_bind (wpAny_pure (wpAny_bind (wpAny_nsSet1 (Heap.Ns1.of_empty nd) fun h' n' sb=>?_)))
 obtain ⟨oD,esD,epD,q1,q2,q3⟩:=n'.count (Within.cons name v Within.nil)
 refine wpAny_bind (wpAny_lookBehind q1 (by rw [q2];exact pastItsLine_dict (Nat.le_trans q3 (by rw [List.length_cons,List.length_nil,sizeLine_eq];omega))) ?_)
 refine wpAny_pure (h h' _ ((sb.2 x xs).trans gx) n' ?_ fun b o bx e=>?_)
 ·rw [sb.1,Heap.size_after_update,Heap.size_push];exact Nat.le_succ _
 ·exact (sb.2 b (Nat.ne_of_lt (Heap.lt_size e))).trans ((Heap.get?_update_other _ _ (Ne.symm bx)).trans (Heap.get?_push_of_some _ e))
private theorem x_set2 {Q:Unit→Shared→Prop}{vs:Array Value}{sl:Array (Option Value)}{dx:Addr}{mA:Str→Option Value}{ns:List Str}(X:K.In s.heap)(hx:s.heap.get? x=some ⟨.ref C,some dx,.fields vs,sl⟩)(hd:s.heap.Ns1 dx mA)(hp:xOver K C=true)
  (hs:findIn K (.ref C) "__setattr__" =some (some (.builtin "object.__setattr__"))) (ht:findIn K (.ref C) name=some none) (hw:Within mA ns) (hz:ns.length≤sizeLine)
  (h:∀h' tk,h'.Ns1 dx (fun y=>if y=name then some v else mA y)→Heap.SameBut dx s.heap h'→Q () {s with heap:=h',toks:=tk}):wpAny (model prog w) A (setAttr (.ref x) name v) Q E s:=by
 obtain ⟨od,es0,ep0,g1,g2⟩:=id hd
 have I:InstAt s.heap x ⟨.ref C,some dx,.fields vs,sl⟩ C (some od):=⟨hx,rfl,rfl,g1⟩
 obtain ⟨cd,hc,ho⟩:=any_some hp
 obtain ⟨o1,o2⟩:=Bool.and_eq_true_iff.mp ho
 refine set_plain X I hs (x_open (s:={s with toks:=s.toks+1}) X I hp ht fun b=>?_)
 refine wpAny_bind (wpAny_pure (wpAny_bind (wpAny_bind (wpAny_loadPart hx (wpAny_bind (Looks.here (s:={s with toks:=s.toks+1}) (looks_clsIn X hc) ?_))))))
 rw [o2]
 refine wpAny_pure (a:=some dx) (wpAny_bind (wpAny_pure (wpAny_bind ?_)))
 refine wpAny_nsSet1 (s:={s with toks:=s.toks+1}) hd fun h' n2 sb=>?_
 obtain ⟨oD,esD,epD,q1,q2,q3⟩:=n2.count (Within.cons name v hw)
 refine wpAny_bind (wpAny_lookBehind q1 (by rw [q2];exact pastItsLine_dict (Nat.le_trans q3 (by rw [List.length_cons];omega))) ?_)
 exact wpAny_pure (h _ _ n2 sb)
private theorem x_get {Q:Value→Shared→Prop}{expr:Bool}{od:Obj}(X:K.In s.heap)(I:InstAt s.heap x ox C (some od))(hp:xOver K C=true)
  (hga:findIn K (.ref C) "__getattribute__" =some (some (.builtin "BaseException.__getattribute__"))) (hgn:findIn K (.ref C) "__getattr__" =some none)
  (hf:findObj K C (some od) name=some (.value v)) (hh:handedIn v=true) (h:Q v {s with toks:=s.toks+1}):wpAny (model prog w) A (getAttr (.ref x) name expr) Q E s:=by
 have isB:=x_inst (M:=model prog w) (T:= "BaseException") X I hp (by decide)
 obtain ⟨hp',g,d,t,os⟩:=s
 have L0:=I.type (M:=model prog w)
 have L1:=looks_findIn (M:=model prog w) X hga
 have L2:=looks_findIn (M:=model prog w) X hgn
 have L3:=looks_find (M:=model prog w) X I hf
 have FB:=PySem.F.attrBase_ValueError
 have bi:=FB.ga.bind (.ref x)
 have kd:builtinKind "BaseException.__getattribute__" =some .slot:=by decide+kernel
 have sp:splitId "BaseException.__getattribute__" =some ("BaseException","__getattribute__"):=by decide+kernel
 unfold getAttr getAttrBy
 refine wpAny_bind (wpAny_mkText (wpAny_holding (wpAny_bind (L0.at (wpAny_bind (L1.at ?_))))))
 have nb:(onTheHeap (Value.ref C) && Value.builtin "BaseException.__getattribute__" ==Value.builtin "object.__getattribute__")=false:=by
  rw [show (Value.builtin "BaseException.__getattribute__" ==Value.builtin "object.__getattribute__")=false from by decide+kernel,Bool.and_false]
 dsimp only
 rw [nb,if_neg Bool.false_ne_true]
 unfold getAttrByItsOwn
 refine wpAny_bind ?_
 show wpAny _ _ (typeLookup (.ref C) "__getattr__") _ _ _
 refine L2.at ?_
 have ne:(expr && onTheHeap (Value.builtin "BaseException.__getattribute__"))=false:=by cases expr <;> rfl
 unfold callGetattribute
 rw [ne,if_neg Bool.false_ne_true]
 unfold boundAndCalled
 refine wpAny_bind (wpAny_attempt (wpAny_holding ?_))
 rw [bi]
 refine wpAny_bind (wpAny_pure ?_)
 refine wpAny_call (codeAny_call_builtin FB.ga.plain PySem.F.entry_bexc_ga (@check_slot (model prog w) _ _ _ "BaseException.__getattribute__" "BaseException" "__getattribute__" (.ref x) [.str name t] [] _ kd sp isB (PySem.F.args_bexc_ga _ _) ?_))
 unfold Builtin.«object.__getattribute__»
 repeat (any_goals (first | assumption | with_reducible refine wpAny_bind (L0.at ?_) | with_reducible refine wpAny_bind (L3.at ?_) | wp_step))
 show wpAny _ _ (handedOut v) _ _ _
 rw [handedOut_of hh]
 exact wpAny_pure h
end
end Px
namespace L2
open PySem PySem.Spec PyProof.Rows Px
def exO (a C:Addr)(od:Option Addr)(fr:Bool):HO:=.ext fun h=>∃vs sl,h.get? a=some ⟨.ref C,od,.fields vs,sl⟩∧((fr=true→∃t,vs= #[.ref t,.none,.none,.none,.bool false,.none])∧vs[2]? =some .none)
def xdO (a:Addr)(fs:List (Str ×V)):HO:=.ext fun h=>∃mA,h.Ns1 a mA∧(∀f,RelO (fs.lookup f) (mA f))∧PySem.Within mA (fs.map (·.1))
def del (H:Hp)(a:Addr):Hp:=fun b=>if b=a then none else H b
private theorem del_same {H:Hp}{a:Addr}:del H a a=none:=by unfold del;rw [if_pos rfl]
private theorem del_ne {H:Hp}{a b:Addr}(h:b≠a):del H a b=H b:=by unfold del;rw [if_neg h]
private theorem del_upd {H:Hp}{a:Addr}{o:HO}(h:H a=none):del (upd H a o) a=H:=by
 funext b
 unfold del upd
 by_cases e:b=a
 ·rw [if_pos e,e,h]
 ·rw [if_neg e,if_neg e]
section
variable {P:Program}{w:World}{H H':Hp}{h h' h2:Heap}{a C:Addr}{o:HO}{fs ex fs':List Addr}{own:Addr→Prop}
private theorem exO_ok {od:Option Addr}{fr:Bool}{vs:Array Value}{sl:Array (Option Value)}(e:h.get? a=some ⟨.ref C,od,.fields vs,sl⟩)(f:(fr=true→∃t,vs= #[.ref t,.none,.none,.none,.bool false,.none])∧vs[2]? =some .none):ObjOk P w H h a (exO a C od fr):=
 ⟨⟨vs,sl,e,f⟩,⟨_,e⟩,fun _ _ ⟨vs,sl,e,f⟩ k=>⟨vs,sl,k _ e,f⟩⟩
private theorem exO_get {od:Option Addr}{fr:Bool}(ok:HOk P w H h)(e:H a=some (exO a C od fr)):∃vs sl,h.get? a=some ⟨.ref C,od,.fields vs,sl⟩∧((fr=true→∃t,vs= #[.ref t,.none,.none,.none,.bool false,.none])∧vs[2]? =some .none):=
 (show ObjOk P w H h a (exO a C od fr) from ok a _ e).1
private theorem xdO_ok {l:List (Str ×V)}{mA:Str→Option Value}(n:h.Ns1 a mA)(r:∀f,RelO (l.lookup f) (mA f))(wi:PySem.Within mA (l.map (·.1))):ObjOk P w H h a (xdO a l):=
 ⟨⟨mA,n,r,wi⟩,let ⟨o,_,_,e,_⟩:=n;⟨o,e⟩,fun _ _ ⟨mA,n,r,wi⟩ k=>⟨mA,n.at k,r,wi⟩⟩
private theorem xdO_get {l:List (Str ×V)}(ok:HOk P w H h)(e:H a=some (xdO a l)):∃mA,h.Ns1 a mA∧(∀f,RelO (l.lookup f) (mA f))∧PySem.Within mA (l.map (·.1)):=
 (show ObjOk P w H h a (xdO a l) from ok a _ e).1
private theorem HOk.track (x:HOk P w H h)(n:H a=none)(new:ObjOk P w (upd H a o) h a o):HOk P w (upd H a o) h:=fun b u e=>by
 by_cases hb:b=a
 ·subst hb;rw [upd_same] at e;cases e;exact new
 ·rw [upd_ne hb] at e
  exact (x b u e).stay (fun _ _ _ q=>q) (fun c q=>by rw [upd_ne (ne_of_none q n)];exact q) fun c xs q=>by rw [upd_ne (ne_of_none q n)];exact q
private theorem Un.track (u:Un fs ex H H' h h')(n:H' a=none)(nw:∀ob,h.get? a=some ob→a∈ex∨H a≠none):Un fs ex H (upd H' a o) h h' where
 keep:=u.keep
 slot:=u.slot
 free:=fun b ob q m hx=>by
  rw [upd_ne]
  ·exact u.free b ob q m hx
  ·intro e
   subst e
   rcases nw ob q with z | z
   ·exact hx z
   ·exact z m
 there:=u.there
 tups:=fun b xs q=>by rw [upd_ne (ne_of_none (u.tups b xs q) n)];exact u.tups b xs q
 frzs:=fun b ob v q=>by rw [upd_ne (ne_of_none (u.frzs b ob v q) n)];exact u.frzs b ob v q
 tbls:=fun b ps q=>by
  obtain ⟨m,e⟩:=u.tbls b ps q
  exact ⟨m,by rw [upd_ne (ne_of_none e n)];exact e⟩
private theorem HOk.drop {φ:Heap→Prop}(x:HOk P w H h)(e:H a=some (.ext φ)):HOk P w (del H a) h:=fun b u q=>by
 by_cases hb:b=a
 ·rw [hb,del_same] at q;cases q
 ·rw [del_ne hb] at q
  exact (x b u q).stay (fun _ _ _ z=>z) (fun c z=>by rw [del_ne (ne_of z e (by intro y;cases y))];exact z) fun c xs z=>by rw [del_ne (ne_of z e (by intro y;cases y))];exact z
private theorem Un.drop {φ:Heap→Prop}(u:Un fs ex H H' h h')(e:H' a=some (.ext φ)):Un fs ex H (del H' a) h h' where
 keep:=u.keep
 slot:=u.slot
 free:=fun b ob q m hx=>by
  by_cases hb:b=a
  ·rw [hb];exact del_same
  ·rw [del_ne hb];exact u.free b ob q m hx
 there:=u.there
 tups:=fun b xs q=>by rw [del_ne (ne_of (u.tups b xs q) e (by intro y;cases y))];exact u.tups b xs q
 frzs:=fun b ob v q=>by rw [del_ne (ne_of (u.frzs b ob v q) e (by intro y;cases y))];exact u.frzs b ob v q
 tbls:=fun b ps q=>by
  obtain ⟨m,z⟩:=u.tbls b ps q
  exact ⟨m,by rw [del_ne (ne_of z e (by intro y;cases y))];exact z⟩
private theorem Un.chg (u:Un fs ex H H' h h')(c:Chg2 fs' own h' h2)(hfs:∀b ob,h.get? b=some ob→b∈fs'→b∈fs)
  (nw:∀b,own b→h.get? b=none∨(H b≠none∧∃o',h2.get? b=some o')):Un fs ex H H' h h2:=by
 have no:∀b ob,h.get? b=some ob→H b=none→¬own b:=fun b ob q n z=>by
  rcases nw b z with y | y
  ·rw [y] at q;cases q
  ·exact y.1 n
 refine ⟨fun b ob q n hb hx=>c.keep b ob (u.keep b ob q n hb hx) (fun z=>hb (hfs b ob q z)) (no b ob q n),fun b ob q n hb hx=>?_,u.free,fun b ob q hx=>?_,u.tups,u.frzs,u.tbls⟩
 ·obtain ⟨sl,e⟩:=u.slot b ob q n hb hx
  by_cases z:b∈fs'
  ·obtain ⟨s2,e2⟩:=c.slot b _ e z (no b ob q n)
   exact ⟨s2,e2⟩
  ·exact ⟨sl,c.keep b _ e z (no b ob q n)⟩
 ·obtain ⟨o',e⟩:=u.there b ob q hx
  by_cases y:own b
  ·rcases nw b y with z | z
   ·rw [z] at q;cases q
   ·exact z.2
  ·by_cases z:b∈fs'
   ·obtain ⟨s2,e2⟩:=c.slot b _ e z y
    exact ⟨_,e2⟩
   ·exact ⟨_,c.keep b _ e z y⟩
private theorem HOk.chg (x:HOk P w H h)(c:Chg2 fs' own h h2)(n1:∀b,own b→H b=none)(n2:∀b∈fs',H b=none):HOk P w H h2:=fun b u e=>by
 have k:∀c' v,(∃z,H c'=some z)→h.get? c'=some v→h2.get? c'=some v:=fun c' v ⟨z,hz⟩ q=>
  c.keep c' v q (fun m=>by rw [n2 c' m] at hz;cases hz) (fun m=>by rw [n1 c' m] at hz;cases hz)
 refine (x b u e).stay (fun c' v hc q=>k c' v ?_ q) (fun _ q=>q) fun _ _ q=>q
 rcases hc with z | z
 ·rw [z];exact ⟨_,e⟩
 ·exact ⟨_,z⟩
end
section
variable {X:Cx}{pins:List (Addr ×Obj)}{σ:St}{H:Hp}{s:Shared}{h':Heap}
private theorem ObjOk.thereN {P:Program}{w:World}{H:Hp}{h:Heap}{a:Addr}{u:HO}(x:ObjOk P w H h a u):∃ob,h.get? a=some ob:=by
 cases u with
 | lst xs=>obtain ⟨_,_,_,_,e⟩:=x;exact ⟨_,e⟩
 | tup xs=>obtain ⟨_,_,_,ob,e,_⟩:=x;exact ⟨_,e⟩
 | dK kvs=>obtain ⟨_,_,_,_,o,_,_,e,_⟩:=x;exact ⟨_,e⟩
 | dT kvs=>obtain ⟨_,_,_,_,o,_,_,e,_⟩:=x;exact ⟨_,e⟩
 | set S n=>obtain ⟨o,_,_,_,e,_⟩:=x;exact ⟨_,e⟩
 | ins C dx fs=>obtain ⟨_,_,_,e,_⟩:=x;exact ⟨_,e⟩
 | own y=>exact x
 | xd fs=>obtain ⟨_,⟨_,_,_,e,_⟩,_⟩:=x;exact ⟨_,e⟩
 | rng lo hi=>obtain ⟨_,_,_,e⟩:=x;exact ⟨_,e⟩
 | frz ob u=>obtain ⟨e,_⟩:=x;exact ⟨_,e⟩
 | tbl ps=>exact ⟨_,(show h.get? a=some _ from x)⟩
 | met f y=>exact ⟨_,(show h.get? a=some _ from x)⟩
 | ext φ=>exact x.2.1
private theorem HOk.noneN {P:Program}{w:World}{H:Hp}{h:Heap}{a:Addr}(x:HOk P w H h)(n:h.get? a=none):H a=none:=by
 cases q:H a with
 | none=>rfl
 | some u=>
  obtain ⟨ob,z⟩:=(x a u q).thereN
  rw [n] at z;cases z
private theorem Inv.laidN {a:Addr}{o:HO}{t':Nat}(I:Inv X pins σ H s)(k:∀b u,s.heap.get? b=some u→h'.get? b=some u)(hp:s.heap.get? a=none)(new:ObjOk X.prog X.w (upd H a o) h' a o):
  Inv X pins σ (upd H a o) {s with heap:=h',toks:=t'}:=by
 have n:H a=none:=I.hok.noneN hp
 exact I.un ((Un.kept k).track n fun ob q=>by rw [hp] at q;cases q) ((I.hok.kept k).track n new)
end
def CX1 (P:Program)(w:World):CXT:=fun outer H s E e s'=>∃(ea:Addr) (cls:Value) (od:Option Addr) (H':Hp) (T:Addr),e=.ref ea∧s'.os=s.os∧AllBare s'.gens∧Un (frs outer) [] H H' s.heap s'.heap∧HOk P w H' s'.heap∧
 Tb s'.heap ea cls od T .none∧(s.heap.get? ea=none∨H ea≠none)∧s.heap.get? T=none∧H' ea=none∧H' T=none∧E cls od H'
private theorem none_back {fs ex:List Addr}{H H':Hp}{h h':Heap}{b:Addr}(u:Un fs ex H H' h h')(hx:b∉ex)(n:h'.get? b=none):h.get? b=none:=by
 cases q:h.get? b with
 | none=>rfl
 | some o=>
  obtain ⟨o',e⟩:=u.there b o q hx
  rw [n] at e;cases e
section
variable {P:Program}{w:World}{K:PySem.W.Frag}{mg:Str→Option Value}{base:Heap}{N:List Str}{qual:Str}{scope:Scope}{f:Addr}{cd:Value}{A:Around}{outer:List Env}{s₀:Shared}{H₀:Hp}{E:XK}
def RaisesTo (X:Cx)(E:XK):Prop:=∀(pins:List (Addr ×Obj)) (σ:St) (H:Hp) (s:Shared) (e C:Addr) (od:Option Addr),Inv X pins σ H s→H e=some (exO e C od true)→E (.ref C) od (del H e)→X.xe (.ref e) s
private theorem raise_fn:RaisesTo (cxOf (CX1 P w) P w K mg base N qual scope f cd A outer s₀ H₀ E) E:=by
 intro pins σ H s e C od I he q
 obtain ⟨vs,sl,ge,fr⟩:=exO_get I.hok he
 obtain ⟨t,rfl⟩:=fr.1 rfl
 show wpAny (model P w) (A.deeper _) (leaving _ (.ref e)) _ _ s
 refine leave1 (base:=base) I.ok.frames I.stack rfl ge rfl rfl rfl fun h' T' z tb c=>?_
 have nT:s.heap.get? T'=none:=Heap.get?_none_of_le z
 have old:s₀.heap.get? e=none∨H₀ e≠none:=by
  cases q1:s₀.heap.get? e with
  | none=>exact .inl rfl
  | some ob=>
   refine .inr fun n=>?_
   have:=I.base.free e ob q1 n (by intro z;cases z)
   rw [he] at this;cases this
 have fr2:∀b∈frs (envOfC qual scope s₀.heap.objs.size f cd::outer),H b=none:=I.stkFree
 have te:∃o',h'.get? e=some o':=let ⟨oe,_,_,_,y,_⟩:=tb;⟨oe,y⟩
 refine ⟨e,.ref C,od,del H e,T',rfl,I.os,I.bare,?_,?_,tb,old,none_back I.base (by intro z;cases z) nT,del_same,?_,q⟩
 ·refine (I.base.drop he).chg (fs':=frs (envOfC qual scope s₀.heap.objs.size f cd::outer)) c (fun b ob q1 q2=>?_) fun b y=>?_
  ·have lt:=Heap.lt_size q1
   rcases List.mem_cons.mp (I.stkSub b q2) with y | y
   ·exact absurd lt (by rw [y];exact Nat.not_lt.mpr (Nat.le_refl _))
   ·exact y
  ·subst y
   rcases old with y | y
   ·exact .inl y
   ·exact .inr ⟨y,te⟩
 ·refine (I.hok.drop he).chg c (fun b y=>by rw [y];exact del_same) fun b y=>?_
  by_cases hb:b=e
  ·rw [hb];exact del_same
  ·rw [del_ne hb];exact fr2 b y
 ·have:H T'=none:=I.hok.fresh z
  by_cases hb:T'=e
  ·rw [hb];exact del_same
  ·rw [del_ne hb];exact this
def PassesS (CX:CXT)(X:Cx)(E:St→XK):Prop:=∀(pins:List (Addr ×Obj)) (σ:St) (H:Hp) (s:Shared) (e:Value) (s':Shared),Inv X pins σ H s→CX X.stack H s (E σ) e s'→X.xe e s'
private theorem pass_fn:Passes (CX1 P w) (cxOf (CX1 P w) P w K mg base N qual scope f cd A outer s₀ H₀ E) E:=by
 intro pins σ H s e s' I0 hc
 obtain ⟨ea,cls,od,H',T,rfl,os,bare,un,hok,tb,old,nT,u1,u2,q⟩:=hc
 have I:=I0.call' os un hok bare (fun b z=>nomatch z)
 show wpAny (model P w) (A.deeper _) (leaving _ (.ref ea)) _ _ s'
 refine leave2 (base:=base) I.ok.frames I.stack rfl tb fun h' T' z tb' c=>?_
 have nT':s'.heap.get? T'=none:=Heap.get?_none_of_le z
 have old':s₀.heap.get? ea=none∨H₀ ea≠none:=by
  cases q1:s₀.heap.get? ea with
  | none=>exact .inl rfl
  | some ob=>
   refine .inr fun n=>?_
   rcases old with y | y
   ·have y':s₀.heap.get? ea=none:=none_back I0.base (by intro z;cases z) y
    rw [y'] at q1;cases q1
   ·exact y (I0.base.free ea ob q1 n (by intro z;cases z))
 have te:∃o',h'.get? ea=some o':=let ⟨oe,_,_,_,y,_⟩:=tb';⟨oe,y⟩
 have n0:s₀.heap.get? T=none:=none_back I0.base (by intro z;cases z) nT
 refine ⟨ea,cls,od,H',T',rfl,I.os,I.bare,?_,?_,tb',old',none_back I.base (by intro z;cases z) nT',u1,hok.fresh z,q⟩
 ·refine I.base.chg (fs':=frs (envOfC qual scope s₀.heap.objs.size f cd::outer)) c (fun b ob q1 q2=>?_) fun b y=>?_
  ·have lt:=Heap.lt_size q1
   rcases List.mem_cons.mp (I.stkSub b q2) with y | y
   ·exact absurd lt (by rw [y];exact Nat.not_lt.mpr (Nat.le_refl _))
   ·exact y
  ·rcases y with y | y
   ·subst y
    rcases old' with y | y
    ·exact .inl y
    ·exact .inr ⟨y,te⟩
   ·subst y;exact .inl n0
 ·refine hok.chg c (fun b y=>?_) I.stkFree
  rcases y with y | y
  ·rw [y];exact u1
  ·rw [y];exact u2
end
end L2
namespace L2
open PySem PySem.Spec PyProof.Rows Px
structure XCls (K:PySem.W.Frag)(C:Addr):Prop where
 q:xIn K C=true
 ov:xOver K C=true
 sa:PySem.W.findIn K (.ref C) "__setattr__" =some (some (.builtin "object.__setattr__"))
 ga:PySem.W.findIn K (.ref C) "__getattribute__" =some (some (.builtin "BaseException.__getattribute__"))
 gn:PySem.W.findIn K (.ref C) "__getattr__" =some none
 kp:PySem.W.keepIn K (.ref C)=true
private theorem XCls.hd {K:PySem.W.Frag}{C:Addr}(c:XCls K C):PySem.W.hasDictIn K C=true:=by
 obtain ⟨cd,hc,ho⟩:=PySem.W.any_some c.ov
 unfold PySem.W.hasDictIn
 rw [hc]
 exact (Bool.and_eq_true_iff.mp ho).2
def tExc (C:Addr)(t:TA):TE:=fun σ H Q=>t σ H fun vs H1=>vs.length≤sizeLine∧∀e,H1 e=none→Q (.ref e) (upd H1 e (exO e C none true))
def tExcI (C:Addr)(sp:Sp)(t:TA):TE:=fun σ H Q=>t σ H fun vs H1=>vs.length≤sizeLine∧∀x,H1 x=none→sp (.ref x::vs) (upd H1 x (exO x C none true)) (fun v H2=>v=.non∧Q (.ref x) H2) E0
section
variable {X:Cx}{k:Nat}{f C:Addr}{fd:FuncData}{ps:List Str}{sp:Sp}{x:Str}{p pos:Pos}{e:Expr}{es:List Expr}{t:TA}
private theorem pe_exc (c:XCls X.K C)(hq:PySem.W.excIn X.K C bmV "ValueError.__new__" =true) (hg:Gl X x) (hm:X.mg x=some (.ref C)) (ha:PA X (e::es) t)
  (hdb:(x==("__debug__" :Str))=false:=by decide) (he:starEach (e::es) X.env=(false,eval e X.env)::starEach es X.env:=by rfl) (hpl:(backTo pos (starEach es X.env)).any (·.1)=false:=by rfl):
  PE X (.Call (.Name x p) (e::es) [] pos) (tExc C t):=by
 intro pins s σ H Q I h
 refine wpAny_Call_Name_kw (ld_glob I hg hm ?_ hdb)
 refine PySem.W.callWith_K (h₀:=X.base) I.ok.mod.kin c.kp (thn (ha pos pins s σ H _ I h) fun us s1 ⟨vs,H1,I1,r,z,q⟩=>⟨I1.kIn,?_⟩) he hpl
 refine plain_call I1.kIn hq (fun h' ea mk=>?_) (show us.length≤sizeLine by rw [←r.length];exact z)
 obtain ⟨t,ge,nt,gt⟩:=mk.there
 exact ⟨.ref ea,_,I1.laidN (t':=s1.toks) mk.keeps mk.new (exO_ok ge ⟨fun _=>⟨t,rfl⟩,rfl⟩),rfl,q ea (I1.hok.noneN mk.new)⟩
private theorem pe_excI (c:XCls X.K C)(hi:PySem.W.findIn X.K (.ref C) "__init__" =some (some (.ref f))) (hf:PySem.W.isFn X.K (.ref f)=true) (F:FnOk X.prog X.w X.K X.mg X.base CX0 k f fd ps sp) (hr:Room (k+1) X.A) (hb:Binds X.K fd ps [])
  (hg:Gl X x) (hm:X.mg x=some (.ref C)) (ha:PA X (e::es) t)
  (hdb:(x==("__debug__" :Str))=false:=by decide) (he:starEach (e::es) X.env=(false,eval e X.env)::starEach es X.env:=by rfl) (hpl:(backTo pos (starEach es X.env)).any (·.1)=false:=by rfl) (hc:X.calm=true:=by rfl):
  PE X (.Call (.Name x p) (e::es) [] pos) (tExcI C sp t):=by
 intro pins s σ H Q I h
 refine wpAny_Call_Name_kw (ld_glob I hg hm ?_ hdb)
 refine PySem.W.callWith_K (h₀:=X.base) I.ok.mod.kin c.kp (thn (ha pos pins s σ H _ I h) fun us s1 ⟨vs,H1,I1,r,z,q⟩=>⟨I1.kIn,?_⟩) he hpl
 have I2:Inv X pins σ (upd H1 (s1.heap.objs.size+1) (exO (s1.heap.objs.size+1) C none true)) {s1 with heap:=excHeap s1.heap C us}:=
  I1.laidN (t':=s1.toks) (fun _ _ y=>excHeap_keep y) (Heap.get?_none_of_le (Nat.le_succ _)) (exO_ok excHeap_at ⟨fun _=>⟨_,rfl⟩,rfl⟩)
 have hq:=q (s1.heap.objs.size+1) (I1.hok.fresh (Nat.le_succ _))
 have r2:Vals (V.ref (s1.heap.objs.size+1)::vs) (Value.ref (s1.heap.objs.size+1)::us):=.cons rfl r
 have hl:((Value.ref (s1.heap.objs.size+1)::us)++ []).length=ps.length:=by
  rw [List.append_nil,←r2.length];exact F.len _ _ _ _ hq
 have hz:us.length≤sizeLine:=by rw [←r.length];exact z
 obtain ⟨h1,g1,d1,t1,o1⟩:=s1
 refine made_call I1.kIn c.q hi (beq_iff_eq.mp hf) ?_ hz
 have hbb:=hb _ (Value.ref (h1.objs.size+1)::us) I2.kIn hl
 rw [List.append_nil] at hbb
 refine wpAny_call (codeAny_mono (F.run _ X.stack _ _ ⟨Value.ref (h1.objs.size+1)::us,[]⟩ (Value.ref (h1.objs.size+1)::us) _ _ E0 (hr.make C us []) ((I2.env0 hc).make C us []) hbb r2 hq) fun r s' hq'=>?_)
 cases r with
 | error e=>exact False.elim hq'
 | ok fl=>
  cases fl with
  | ret u=>
   obtain ⟨v,H',I3,rv,ev,q3⟩:=I2.after hq'
   subst ev
   exact ⟨rv,⟨V.ref (h1.objs.size+1),H',I3,rfl,q3⟩⟩
  | next=>exact False.elim hq'
  | brk=>exact False.elim hq'
  | cont=>exact False.elim hq'
end
def tRaise (K:PySem.W.Frag)(te:TE)(E:XK):TS:=fun D σ H=>te σ H fun v H1=>∃e C od,v=.ref e∧H1 e=some (exO e C od true)∧xIn K C=true∧E (.ref C) od (del H1 e)
private theorem ps_raise {X:Cx}{E:XK}{ex:Expr}{te:TE}{pos:Pos}(hx:RaisesTo X E)(hn0:X.A.handled=none)(he:PE X ex te):PS X (.Raise (some ex) none pos) (tRaise X.K te E):=by
 intro pins s σ H D I h
 rw [arm_exec_Raise]
 refine wpAny_bind (wpAny_standAt ?_)
 refine raise_made (K:=X.K) hn0 ?_
 refine wpAny_bind (wpAny_mono (he pins s σ H _ I h) (fun v s1 hv=>wpAny_bind (wpAny_standAt (wpAny_pure ?_))) fun _ _ z=>z)
 obtain ⟨y,H1,I1,ry,ea,C,od,rfl,hea,qC,hE⟩:=hv
 obtain rfl:v=Value.ref ea:=ry
 obtain ⟨vs,sl,ge,fr⟩:=exO_get I1.hok hea
 obtain ⟨t,rfl⟩:=fr.1 rfl
 exact ⟨ea,C,t,_,rfl,I1.kIn,qC,ge,rfl,rfl,hx pins σ H1 s1 ea C od I1 hea hE⟩
def sXF1 (K:PySem.W.Frag)(ta tv:TE)(f:Str):TS:=fun D σ H=>tv σ H fun y H1=>ta σ H1 fun x H2=>∃a C fr,x=.ref a∧H2 a=some (exO a C none fr)∧XCls K C∧NoAttr K C f∧
 ∀d,H2 d=none→d≠a→D.nx σ (upd (upd H2 d (xdO d [(f,y)])) a (exO a C (some d) fr))
def sXF2 (K:PySem.W.Frag)(ta tv:TE)(f:Str):TS:=fun D σ H=>tv σ H fun y H1=>ta σ H1 fun x H2=>∃a C fr d l,x=.ref a∧H2 a=some (exO a C (some d) fr)∧H2 d=some (xdO d l)∧d≠a∧XCls K C∧NoAttr K C f∧l.length < 1000∧
 D.nx σ (upd H2 d (xdO d (putF f y l)))
section
variable {X:Cx}{o e value:Expr}{f:Str}{pos pos':Pos}{ta tv:TE}
private theorem ps_xf1 (ha:PE X o ta)(hv:PE X value tv)(hs:swapsWith value (some (.Attribute o f pos')) pos.line X.env=pure false):PS X (.Assign [.Attribute o f pos'] value pos) (sXF1 X.K ta tv f):=by
 intro pins s σ H D I h
 refine plainObj_wpAny_Assign_Attribute (thn (hv pins s σ H _ I h) fun u s1 ⟨y,H1,I1,ry,q⟩=>thn (ha pins s1 σ H1 _ I1 q) fun ov s2 ⟨x,H2,I2,rx,a,C,fr,ex,ea,c,n,q2⟩=>?_) hs
 subst ex
 obtain rfl:ov=Value.ref a:=rx
 obtain ⟨vs,sl,ge,hfr⟩:=exO_get I2.hok ea
 refine x_set1 I2.kIn ge c.ov c.sa n fun h' tk gx nd sz kp=>?_
 have nd0:H2 s2.heap.objs.size=none:=I2.hok.fresh (Nat.le_refl _)
 have da:s2.heap.objs.size≠a:=Ne.symm (Nat.ne_of_lt (Heap.lt_size ge))
 have na:∀b,H2 b=none→b≠a:=fun b z y=>by rw [y,ea] at z;cases z
 refine ⟨σ,_,?_,q2 _ nd0 da⟩
 refine I2.un (h':=h') (t':=tk) ⟨fun b ob g z _ _=>kp b ob (na b z) g,fun b ob g z _ _=>⟨ob.slots,kp b ob (na b z) g⟩,fun b ob g z _=>?_,fun b ob g _=>?_,fun b xs g=>?_,fun b ob v g=>?_,fun b ps g=>?_⟩ fun b w g=>?_
 ·rw [upd_ne (na b z),upd_ne (Nat.ne_of_lt (Heap.lt_size g))];exact z
 ·by_cases y:b=a
  ·rw [y];exact ⟨_,gx⟩
  ·exact ⟨_,kp b ob y g⟩
 ·rw [upd_ne (ne_of g ea (by intro y;cases y)),upd_ne (ne_of_none g nd0)];exact g
 ·rw [upd_ne (ne_of g ea (by intro y;cases y)),upd_ne (ne_of_none g nd0)];exact g
 ·exact ⟨#[],by rw [upd_ne (ne_of g ea (by intro y;cases y)),upd_ne (ne_of_none g nd0),g];simp⟩
 ·by_cases yy:b=a
  ·subst yy
   rw [upd_same] at g;cases g
   exact exO_ok gx hfr
  ·rw [upd_ne yy] at g
   by_cases y2:b=s2.heap.objs.size
   ·subst y2
    rw [upd_same] at g;cases g
    refine xdO_ok nd (fun j=>?_) fun j hj=>?_
    ·show RelO ([(f,y)].lookup j) _
     by_cases e:j=f
     ·have hb:(j==f)=true:=beq_iff_eq.mpr e
      rw [if_pos e]
      simp only [List.lookup,hb]
      assumption
     ·have hb:(j==f)=false:=beq_eq_false_iff_ne.mpr e
      rw [if_neg e]
      simp only [List.lookup,hb]
      exact True.intro
    ·by_cases e:j=f
     ·rw [e];exact List.mem_cons_self
     ·rw [if_neg e] at hj;exact absurd rfl hj
   ·rw [upd_ne y2] at g
    refine (I2.hok b w g).stay (fun c' v hc gg=>kp c' v ?_ gg) (fun c' z=>?_) fun c' xs z=>?_
    ·rcases hc with z | z
     ·rw [z];exact yy
     ·exact ne_of z ea (by intro y;cases y)
    ·rw [upd_ne (ne_of z ea (by intro y;cases y)),upd_ne (ne_of_none z nd0)];exact z
    ·rw [upd_ne (ne_of z ea (by intro y;cases y)),upd_ne (ne_of_none z nd0)];exact z
private theorem ps_xf2 (ha:PE X o ta)(hv:PE X value tv)(hs:swapsWith value (some (.Attribute o f pos')) pos.line X.env=pure false):PS X (.Assign [.Attribute o f pos'] value pos) (sXF2 X.K ta tv f):=by
 intro pins s σ H D I h
 refine plainObj_wpAny_Assign_Attribute (thn (hv pins s σ H _ I h) fun u s1 ⟨y,H1,I1,ry,q⟩=>thn (ha pins s1 σ H1 _ I1 q) fun ov s2 ⟨x,H2,I2,rx,a,C,fr,d,l,ex,ea,ed,da,c,n,ll,q2⟩=>?_) hs
 subst ex
 obtain rfl:ov=Value.ref a:=rx
 obtain ⟨vs,sl,ge,hfr⟩:=exO_get I2.hok ea
 obtain ⟨mA,ns,rl,wi⟩:=xdO_get I2.hok ed
 have hz:(l.map (·.1)).length≤sizeLine:=by rw [List.length_map,sizeLine_eq];omega
 refine x_set2 I2.kIn ge ns c.ov c.sa n wi hz fun h' tk nd sb=>?_
 have hd:∃o,h'.get? d=some o:=let ⟨o,_,_,e',_⟩:=nd;⟨o,e'⟩
 refine ⟨σ,_,I2.write (x:=d) (e:=d) (t':=tk) (by rw [ed];exact True.intro) (.inl rfl) (fun b w hb z=>(sb.2 b hb).trans z) hd (xdO_ok nd (fun g=>?_) fun g hg=>?_),q2⟩
 ·rw [lookup_putF]
  by_cases z:g=f
  ·rw [if_pos z,if_pos z];exact ry
  ·rw [if_neg z,if_neg z];exact rl g
 ·by_cases z:g=f
  ·rw [z];exact (keys_putF f y l).1
  ·refine (keys_putF f y l).2 g (wi g fun w=>hg ?_)
   show (if g=f then some u else mA g)=none
   rw [if_neg z];exact w
end
def tMethS (C:Addr)(m:Str)(sp:Sp)(E:St→XK)(ta:TE)(t:TA):TE:=fun σ H Q=>ta σ H fun x H1=>∃a dx fs,x=.ref a∧H1 a=some (.ins C dx fs)∧fs.lookup m=none∧t σ H1 fun vs H2=>sp (x::vs) H2 Q (E σ)
section
variable {X:Cx}{CX:CXT}{k:Nat}{f C:Addr}{fd:FuncData}{ps:List Str}{sp:Sp}{E:St→XK}{x m:Str}{p pos apos:Pos}{e o:Expr}{es:List Expr}{ta:TE}{t:TA}
private theorem run_fnS {pins:List (Addr ×Obj)}{σ:St}{H:Hp}{s:Shared}{Q:VK}{us:List Value}{vs:List V}(F:FnOk X.prog X.w X.K X.mg X.base CX k f fd ps sp)(hr:Room k X.A)(hb:Binds X.K fd ps [])(hx:PassesS CX X E)
  (I:Inv X pins σ H s) (r:Vals vs us) (h:sp vs H Q (E σ)) (hc:X.calm=true:=by rfl):wpAny (model X.prog X.w) X.A (call (.ref f) us) (EP X pins σ Q) X.xe s:=by
 have hl:(us++ []).length=ps.length:=by rw [List.append_nil,←r.length];exact F.len _ _ _ _ h
 have hbb:=hb s us I.kIn hl
 rw [List.append_nil] at hbb
 refine wpAny_call (codeAny_mono (F.run X.A X.stack s H ⟨us,[]⟩ us vs Q (E σ) hr (I.env0 hc) hbb r h) fun r s' hq=>?_)
 cases r with
 | error e=>exact hx pins σ H s e s' I hq
 | ok fl=>
  cases fl with
  | ret u=>exact I.after hq
  | next=>exact False.elim hq
  | brk=>exact False.elim hq
  | cont=>exact False.elim hq
private theorem pe_methS {pl:Sem Bool}(he:PE X o ta)(c:Cls X.K C)(hm:Meth X.K C m f)(F:FnOk X.prog X.w X.K X.mg X.base CX k f fd ps sp)(hr:Room k X.A)(hb:Binds X.K fd ps [])(hx:PassesS CX X E)(ha:PA X (e::es) t)
  (hst:starEach (e::es) X.env=(false,eval e X.env)::starEach es X.env:=by rfl) (hpl:(backTo pos (starEach es X.env)).any (·.1)=false:=by rfl)
  (ht:eval (.Call (.Attribute o m apos) (e::es) [] pos) X.env=(do
   let ov←eval o X.env
   standAt apos.atName
   let (f,first) ←holding [ov] (getMethod ov m pl)
   callWith pos f first (backTo pos (starEach (e::es) X.env)) (backToKw pos (keywordEach [] X.env))):=by rfl) (hc:X.calm=true:=by rfl):
  PE X (.Call (.Attribute o m apos) (e::es) [] pos) (tMethS C m sp E ta t):=by
 intro pins s σ H Q I h
 refine PySem.W.methodCall_KW (pl:=pl) (thn (he pins s σ H _ I h) fun u s1 ⟨x,H1,I1,rx,a,dx,fs,ex,ea,l,q⟩=>?_) ht
 subst ex
 obtain rfl:u=Value.ref a:=rx
 refine getmeth_ok I1 ea c hm l ?_
 refine PySem.W.callWith_K (first:=[.ref a]) (h₀:=X.base) I.ok.mod.kin hm.kp (thn (ha pos pins s1 σ H1 _ I1 q) fun us s2 ⟨vs,H2,I2,r,q2⟩=>⟨I2.kIn,?_⟩) hst hpl
 exact run_fnS (hc:=hc) (us:=.ref a::us) (vs:=.ref a::vs) F hr hb hx I2 (.cons rfl r) q2
end
private theorem Fun.okX {P:Program}{w:World}{K:PySem.W.Frag}{mg:Str→Option Value}{base:Heap}{x qual:Str}{st:Stmt}{f:Addr}{fd:FuncData}{N ps:List Str}{k:Nat}{sp:Sp}(F:Fun K x qual st f fd)(S:FnScope N ps (defScope st))(len:∀vs H Q E,sp vs H Q E→vs.length=ps.length)
  (hbody:∀(cdv:Value) (A:Around) (outer:List Env) (s:Shared) (H:Hp) (vs:List V) (Q:VK) (E:XK),Room k (A.deeper (envOfC qual (defScope st) s.heap.objs.size f cdv))→sp vs H Q E→
   ∃t,PSs (cxOf (CX1 P w) P w K mg base N qual (defScope st) f cdv A outer s H E) (defBody st) t∧t {nx:=fun _ H'=>Q .non H',rt:=Q} (start N vs) H):FnOk P w K mg base (CX1 P w) (k+1) f fd ps sp:=by
 obtain ⟨oc,od,kV,doc,pm,an,cdv,ct,osl,rfl,lk,hcd⟩:=F.ex
 exact fn_of lk hcd S len fun A outer s H vs Q E hr hsp=>hbody cdv A outer s H vs Q E hr hsp
abbrev Cx.tried (X:Cx)(xe:Value→Shared→Prop)(pn:List (Addr ×Obj)):Cx:={X with xe:=xe,pn:=pn}
abbrev Cx.suite (X:Cx)(e:Addr):Cx:={X with A:=X.A.mark (some (.ref e)),calm:=false,xe:=fun _ _=>False}
section
variable {X:Cx}{pins pins':List (Addr ×Obj)}{σ:St}{H:Hp}{s:Shared}{xe:Value→Shared→Prop}
private theorem Inv.tried (I:Inv X pins σ H s)(xe:Value→Shared→Prop):Inv (X.tried xe (X.pn++pins)) [] σ H s:=
 ⟨⟨I.ok.mod,I.ok.kind,I.ok.glob,I.ok.blt,I.ok.above,I.ok.inj,I.ok.has,I.ok.cab,I.ok.hd,I.ok.frames,I.ok.stk,I.ok.exf,I.ok.bs,I.ok.bsz,I.ok.noex,I.ok.exfs,I.ok.funs,I.ok.frf⟩,
  I.os,I.bare,I.base,I.loc,I.cell,I.free,I.freeC,fun p hp=>I.pin p (by simpa using hp),I.hok,I.len⟩
private theorem Inv.untried (I:Inv (X.tried xe (X.pn++pins)) pins' σ H s):Inv X pins σ H s:=
 ⟨⟨I.ok.mod,I.ok.kind,I.ok.glob,I.ok.blt,I.ok.above,I.ok.inj,I.ok.has,I.ok.cab,I.ok.hd,I.ok.frames,I.ok.stk,I.ok.exf,I.ok.bs,I.ok.bsz,I.ok.noex,I.ok.exfs,I.ok.funs,I.ok.frf⟩,
  I.os,I.bare,I.base,I.loc,I.cell,I.free,I.freeC,fun p hp=>I.pin p (List.mem_append_left _ hp),I.hok,I.len⟩
private theorem Inv.suite (I:Inv X pins σ H s)(e:Addr):Inv (X.suite e) pins σ H s:=
 ⟨⟨I.ok.mod,I.ok.kind,I.ok.glob,I.ok.blt,I.ok.above,I.ok.inj,I.ok.has,I.ok.cab,(fun z=>nomatch z),I.ok.frames,I.ok.stk,I.ok.exf,I.ok.bs,I.ok.bsz,I.ok.noex,I.ok.exfs,I.ok.funs,I.ok.frf⟩,
  I.os,I.bare,I.base,I.loc,I.cell,I.free,I.freeC,I.pin,I.hok,I.len⟩
private theorem Inv.unsuite {e:Addr}(ok:X.Ok)(I:Inv (X.suite e) pins σ H s):Inv X pins σ H s:=
 ⟨ok,I.os,I.bare,I.base,I.loc,I.cell,I.free,I.freeC,I.pin,I.hok,I.len⟩
private theorem unbind_ok {M:Model}{A:Around}{E:Value→Shared→Prop}{i:Nat}{n:Str}{pos:Pos}{Q:Unit→Shared→Prop}(I:Inv X pins σ H s)(hN:X.N.Nodup)(hi:X.N[i]? =some n)(hk:X.env.scope.names.lookup n=some .local)
  (h:∀s',Inv X pins (σ.set i none) H s'→Q () s'):wpAny M A (do bindName X.env n .none;unbindBehindTheSuite X.env n pos) Q E s:=by
 obtain ⟨m,hn,hl⟩:=id I.loc
 have cl:(X.env.scope.kind==.class || (X.env.scope.kind==.module && X.env.locals !=X.env.globals))=false:=by rw [I.ok.kind];rfl
 refine wpAny_nameGoes_keeps hk hn cl fun h' v hn' sb=>?_
 obtain ⟨oL,_,_,gL,_⟩:=id hn
 have ol:∀b ob,X.s₀.heap.get? b=some ob→b≠X.env.locals:=fun b ob g=>Nat.ne_of_lt (Nat.lt_of_lt_of_le (Heap.lt_size g) I.ok.above)
 refine h _ ⟨I.ok,I.os,I.bare,⟨fun b ob g z hb hx=>(sb.2 b (ol b ob g)).trans (I.base.keep b ob g z hb hx),fun b ob g z hb hx=>?_,I.base.free,fun b ob g hx=>?_,I.base.tups,I.base.frzs,I.base.tbls⟩,
  ⟨_,hn',fun j y v' e1 e2 e3=>?_⟩,fun y c e=>?_,I.free,I.freeC,fun p hp=>?_,fun b w g=>?_,by simpa using I.len⟩
 ·obtain ⟨sl,g1⟩:=I.base.slot b ob g z hb hx
  exact ⟨sl,(sb.2 b (ol b ob g)).trans g1⟩
 ·obtain ⟨o',g1⟩:=I.base.there b ob g hx
  exact ⟨o',(sb.2 b (ol b ob g)).trans g1⟩
 ·have hj:j≠i:=fun z=>by
   subst z
   have:j < σ.length:=by rw [I.len];exact (List.getElem?_eq_some_iff.mp hi).1
   rw [List.getElem?_set_self this] at e2
   cases e2
  rw [List.getElem?_set_ne (Ne.symm hj)] at e2
  obtain ⟨u',r',q⟩:=hl j y v' e1 e2 e3
  refine ⟨u',r',?_⟩
  rcases q with ⟨k,e⟩ | ⟨k,c,e,z⟩
  ·refine .inl ⟨k,?_⟩
   have:y≠n:=fun z=>hj (nodup_ix hN e1 (z ▸ hi))
   show (if y=n then v else m y)=some u'
   rw [if_neg this];exact e
  ·exact .inr ⟨k,c,e,z.sameBut sb (I.cne y c e)⟩
 ·obtain ⟨w',z⟩:=I.cell y c e
  exact ⟨w',z.sameBut sb (I.cne y c e)⟩
 ·obtain ⟨g,z,ne,nf,d⟩:=I.pin p hp
  exact ⟨(sb.2 p.1 ne).trans g,z,ne,nf,d⟩
 ·refine (I.hok b w g).stay (fun c v2 hc q=>(sb.2 c fun z=>?_).trans q) (fun _ q=>q) fun _ _ q=>q
  subst z
  rcases hc with y | y
  ·rw [←y,I.free] at g;cases g
  ·rw [I.free] at y;cases y
end
def Ends.less (D:Ends)(i:Nat):Ends:={nx:=fun σ H=>D.nx (σ.set i none) H,rt:=D.rt,bk:=fun σ H=>D.bk (σ.set i none) H,ct:=fun σ H=>D.ct (σ.set i none) H}
def catchAs (K:PySem.W.Frag)(cv:Value)(i:Nat)(ts:Addr→TS)(D:Ends):St→XK:=fun σ cls od H'=>∃C,cls=.ref C∧PySem.W.exmOne K (.ref C) cv=some true∧
 ∀e,H' e=none→ts e (D.less i) (σ.set i (some (.ref e))) (upd H' e (exO e C od false))
def tTryAs (K:PySem.W.Frag)(cv:Value)(i:Nat)(tb:(St→XK)→TS)(ts:Addr→TS):TS:=fun D σ H=>tb (catchAs K cv i ts D) D σ H
private theorem _root_.Px.Chg2.mono {fs:List Addr}{own own':Addr→Prop}{h h':Heap}(c:Chg2 fs own h h')(k:∀b,own b→own' b):Chg2 fs own' h h':=
 ⟨c.size,fun b o q a n=>c.keep b o q a fun z=>n (k b z),fun b o q a n=>c.slot b o q a fun z=>n (k b z)⟩
section
variable {X:Cx}{x n:Str}{i:Nat}{cv:Value}{body suite:List Stmt}{b₀:Stmt}{np hpos pos:Pos}{tb:(St→XK)→TS}{ts:TS}
private theorem Inv.caught {pins:List (Addr ×Obj)}{σ:St}{H H':Hp}{s s2:Shared}{h4:Heap}{ea C T T':Addr}{od:Option Addr}(J0:Inv X pins σ H s)(os:s2.os=s.os)(bare:AllBare s2.gens)(un:Un (frs X.stack) [] H H' s.heap s2.heap)(hok:HOk X.prog X.w H' s2.heap)
  (old:s.heap.get? ea=none∨H ea≠none) (nT:s.heap.get? T=none) (u1:H' ea=none) (u2:H' T=none) (z:s2.heap.objs.size≤T') (c:Chg2 (frs X.stack) (fun b=>b=ea∨b=T∨b=T') s2.heap h4) (tb:Tb h4 ea (.ref C) od T' .none):
  Inv X pins σ (upd H' ea (exO ea C od false)) {s2 with heap:=h4}:=by
 obtain ⟨oe,vs,oT,tz,ge,e1,e2,e3,_,_,_,_,_,h2⟩:=tb
 have ge':h4.get? ea=some ⟨.ref C,od,.fields vs,oe.slots⟩:=by
  obtain ⟨c0,d0,dt,sl⟩:=oe
  dsimp only at e1 e2 e3
  subst e1;subst e2;subst e3
  exact ge
 have nT2:s2.heap.get? T'=none:=Heap.get?_none_of_le z
 have fr2:∀b∈frs X.stack,H' b=none:=fun b hb=>by
  have J:=J0.call' os un hok bare (fun b z=>nomatch z)
  exact J.stkFree b hb
 have u3:H' T'=none:=hok.fresh z
 have U:Un (frs X.stack) [] H H' s.heap h4:=un.chg c (fun b ob _ y=>y) fun b y=>by
  rcases y with y | y | y
  ·subst y
   rcases old with y | y
   ·exact .inl y
   ·exact .inr ⟨y,⟨_,ge⟩⟩
  ·subst y;exact .inl nT
  ·subst y;exact .inl (none_back un (by intro z;cases z) nT2)
 have O:HOk X.prog X.w H' h4:=hok.chg c (fun b y=>by
  rcases y with y | y | y
  ·rw [y];exact u1
  ·rw [y];exact u2
  ·rw [y];exact u3) fr2
 refine J0.call' (s':={s2 with heap:=h4}) os (U.track u1 fun ob q=>.inr ?_) (O.track u1 (exO_ok ge' ⟨fun z=>(by cases z),h2⟩)) bare (fun b z=>nomatch z)
 rcases old with y | y
 ·rw [y] at q;cases q
 ·exact y
private theorem ps_tryAs {ts:Addr→TS}(hst:X.stack=X.env::X.outer)(hfm:X.env.frame=some X.env.locals)(hN:X.N.Nodup)(hi:X.N[i]? =some n)(hlo:X.env.scope.names.lookup n=some .local)(hg:Gl X x)(hm:X.mg x=some cv)
  (hb:∀xe pn E,PassesS (CX1 X.prog X.w) (X.tried xe pn) E→PSs (X.tried xe pn) body (tb E)) (hs:∀e,PSs (X.suite e) (b₀::suite) (ts e)) (hdb:(x==("__debug__" :Str))=false:=by decide):
  PS X (.Try body [.ExceptHandler (some (.Name x np)) (some n) (b₀::suite) hpos] [] [] pos) (tTryAs X.K cv i tb ts):=by
 intro pins s σ H D I h
 have key:PassesS (CX1 X.prog X.w) (X.tried (fun e s₁=>wpAny (model X.prog X.w) X.A (noteFrame e X.env) (fun _ s₂=>wpAny (model X.prog X.w) X.A (setFlight e none) (fun _ s₃=>
   wpAny (model X.prog X.w) X.A (handleBy e X.env [.ExceptHandler (some (.Name x np)) (some n) (b₀::suite) hpos]) (SP X pins D) X.xe s₃) X.xe s₂) X.xe s₁) (X.pn++pins)) (catchAs X.K cv i ts D):=by
  intro pins' σ' H1 s1 e s2 I1 hc
  obtain ⟨ea,cls,od,H',T,rfl,os,bare,un,hok,tb',old,nT,u1,u2,C,rfl,em,q⟩:=hc
  have J0:Inv X pins σ' H1 s1:=I1.untried
  have J:=J0.call' os un hok bare (fun b z=>nomatch z)
  show wpAny _ _ (noteFrame (.ref ea) X.env) _ _ s2
  refine look2 (base:=X.base) (by rw [←hst];exact J.ok.frames) (by rw [←hst];exact J.stack) hfm tb' fun h3 T' z t3 c3=>?_
  rw [show (X.env::X.outer).filterMap (·.frame)=frs X.stack from by rw [hst];rfl] at c3
  have c3':Chg2 (frs X.stack) (fun b=>b=ea∨b=T∨b=T') s2.heap h3:=c3.mono fun b y=>y.elim .inl fun y=>.inr (.inl y)
  have J3:=J0.caught os bare un hok old nT u1 u2 z c3' t3
  have LT:PySem.W.Looks (model X.prog X.w) h3 (typeOf (.ref ea)) (.ref C):=by
   obtain ⟨vs,sl,ge,_⟩:=exO_get J3.hok upd_same
   exact (PySem.W.Looks.ld ge).andThen .now
  refine wpAny_handleBy_cons (codeAny_handlers_test (ld_glob (X:=X.suite ea) (J3.suite ea) hg hm ?_ hdb)) (by intro y;cases y)
  refine (PySem.W.exm_one J3.kIn LT em).here (s:={s2 with heap:=h3}) ?_
  refine codeAny_handlers_suite_as ?_
  refine flight (s:={s2 with heap:=h3}) (fs:=frs X.stack) t3 fun h4 t4 c4 k4=>?_
  have J4:=J0.caught os bare un hok old nT u1 u2 z (c3'.trans (c4.two (own:=fun b=>b=ea∨b=T∨b=T') (.inl rfl) (.inl (.inr (.inr rfl))))) t4
  refine store_ok (X:=X) J4 hN hi (.inl hlo) (show RelV (.ref ea) (Value.ref ea) from rfl) (fun s5 J5=>?_) (.inr hlo)
  refine wpAny_mono (hs ea pins s5 _ _ (D.less i) (J5.suite ea) (q ea u1)) (fun f s6 q6=>?_) fun _ _ y=>y.elim
  show wpAny _ _ _ _ _ _
  cases f with
  | next=>
   obtain ⟨σ6,H6,J6,y⟩:=q6
   exact unbind_ok (J6.unsuite J0.ok) hN hi hlo fun s7 J7=>⟨_,_,J7,y⟩
  | brk=>
   obtain ⟨σ6,H6,J6,y⟩:=q6
   exact unbind_ok (J6.unsuite J0.ok) hN hi hlo fun s7 J7=>⟨_,_,J7,y⟩
  | cont=>
   obtain ⟨σ6,H6,J6,y⟩:=q6
   exact unbind_ok (J6.unsuite J0.ok) hN hi hlo fun s7 J7=>⟨_,_,J7,y⟩
  | ret u=>
   obtain ⟨v6,σ6,H6,J6,rv,y⟩:=q6
   exact unbind_ok (J6.unsuite J0.ok) hN hi hlo fun s7 J7=>⟨_,_,_,J7,rv,y⟩
 refine wpAny_Try_except (wpAny_mono (hb _ (X.pn++pins) _ key [] s σ H D (I.tried _) h) (fun f s₁ q=>?_) fun _ _ y=>y)
 cases f with
 | next=>obtain ⟨σ',H',I',y⟩:=q;exact wpAny_execs_nil ⟨σ',H',I'.untried,y⟩
 | brk=>obtain ⟨σ',H',I',y⟩:=q;exact ⟨σ',H',I'.untried,y⟩
 | cont=>obtain ⟨σ',H',I',y⟩:=q;exact ⟨σ',H',I'.untried,y⟩
 | ret u=>obtain ⟨v,σ',H',I',rv,y⟩:=q;exact ⟨v,σ',H',I'.untried,rv,y⟩
end
end L2
namespace L2
open PySem PySem.Spec PyProof.Rows
def cxC (X:Cx)(N:List Str)(scope:Scope)(cl:List (Str ×Addr))(s₀:Shared)(H₀:Hp)(ex:List Addr):Cx:=
 {X with N:=N,s₀:=s₀,H₀:=H₀,env:=compEnvC scope cl s₀.heap.objs.size X.env,outer:=X.stack,ex:=ex,fn:=fun _=>false,pn:=[],xe:=fun _ _=>False}
structure CompScope (X:Cx)(x:Str)(ys:List Str)(js:List Nat)(scope:Scope)(cl:List (Str ×Addr)):Prop where
 clos:closureFor scope X.env=pure cl
 kind:scope.kind=.function
 nocell:∀y∈scope.names,y.2≠ .cell
 names:∀y∈scope.names,y.2=.local→scope.names.lookup y.1=some .local
 tgt:scope.names.lookup x=some .local
 nd:(x::ys).Nodup
 sub:∀p∈cl,X.env.cells.lookup p.1=some p.2
 has:∀p∈(relabel scope X.env).names,p.2=.cell∨p.2=.free→p.1∈cl.map (·.1)
 fr:∀(i:Nat) (y:Str),ys[i]? =some y→∃j,js[i]? =some j∧X.N[j]? =some y∧(X.env.kindOf y=some .cell∨X.env.kindOf y=some .free)∧((relabel scope X.env).names.lookup y=some .cell∨(relabel scope X.env).names.lookup y=some .free)
 len:js.length=ys.length
private theorem lookup_of_key {cl:List (Str ×Addr)}:∀{y:Str},y∈cl.map (·.1)→∃c,cl.lookup y=some c:=by
 induction cl with
 | nil=>intro y h;simp at h
 | cons p r ih=>
  intro y h
  rw [List.lookup_cons]
  cases e:y==p.1 with
  | true=>exact ⟨p.2,rfl⟩
  | false=>
   rw [List.map_cons,List.mem_cons] at h
   rcases h with h | h
   ·rw [h] at e;simp at e
   ·exact ih h
def PTs (X:Cx)(ifs:List Expr)(t:TT):Prop:=
 ∀(pins:List (Addr ×Obj)) (s:Shared) (σ:St) (H:Hp) (Q:Bool→Hp→Prop),Inv X pins σ H s→t σ H Q→
  wpAny (model X.prog X.w) X.A (forIn ifs true fun c r=>if r=true then do let ok←isTrue c X.env (eval c X.env);pure (ForInStep.yield ok) else pure (ForInStep.yield r)) (TP X pins σ Q) X.xe s
def tNoTest:TT:=fun _ H Q=>Q true H
private theorem pts_nil {X:Cx}:PTs X [] tNoTest:=fun _ _ _ H _ I h=>wpAny_tests_nil ⟨H,I,h⟩
private theorem pts_one {X:Cx}{c:Expr}{t:TT}(h:PT X c t):PTs X [c] t:=fun pins s σ H Q I q=>wpAny_tests_one (h pins s σ H Q I q)
def frees (σ:St)(js:List Nat):St:=js.map fun j=>(σ[j]?).getD none
def CompW (J:It)(p:Addr)(σ:St)(js:List Nat)(tt:TT)(te:TE)(H1:Hp)(Q:VK):Prop:=
 ∃W:Nat→Nat→List V→Hp→Prop,(∃m,W 0 m [] (upd H1 p (.lst [])))∧∀i m acc H,W i m acc H→
  (J.stop i H∧Q (.ref p) H)∨(J.go i H∧∀x H',J.yld i H x H'→tt (some x::frees σ js) H' fun ok H2=>
   if ok=true then te (some x::frees σ js) H2 fun y H3=>H3 p=some (.lst acc)∧acc.length < sizeLine∧∃m',m' < m∧W (i+1) m' (acc++ [y]) (upd H3 p (.lst (acc++ [y])))
   else∃m',m' < m∧W (i+1) m' acc H2)
def tComp (wi:TI)(js:List Nat)(tt:TT)(te:TE):TE:=fun σ H Q=>wi σ H fun J H1=>∀p,H1 p=none→CompW J p σ js tt te H1 Q
section
variable {X:Cx}{x:Str}{ys:List Str}{js:List Nat}{scope:Scope}{cl:List (Str ×Addr)}{pins:List (Addr ×Obj)}{σ:St}{H:Hp}{s:Shared}
private theorem CompScope.cells (S:CompScope X x ys js scope cl){y:Str}{c:Addr}(h:cl.lookup y=some c):X.env.cells.lookup y=some c:=S.sub (y,c) (PySem.mem_of_lookup h)
private theorem comp_in (S:CompScope X x ys js scope cl)(I:Inv X pins σ H s){fp:List Addr}(f:∀b∈fp,FpOk X pins H b)(fo:∀b∈fp,b < s.heap.objs.size){h1:Heap}{m:Str→Option Value}{t1:Nat}(hn:h1.Ns s.heap.objs.size m)
  (k:∀b o,s.heap.get? b=some o→h1.get? b=some o):
  Inv (cxC X (x::ys) scope cl s H fp) (X.pn++pins) (none::frees σ js) H {s with heap:=h1,toks:=t1}:=by
 have nfs:∀b∈fp,b∉frs X.stack:=fun b hb z=>(List.mem_cons.mp (I.stkSub b z)).elim (f b hb).2.1 (f b hb).2.2.1
 have kept:∀y c,cl.lookup y=some c→∀v,s.heap.IsCell c v→h1.IsCell c v:=fun y c _ v ⟨o,ho,hd⟩=>⟨o,k c o ho,hd⟩
 refine ⟨⟨I.ok.mod,S.kind,I.ok.glob,I.ok.blt,Nat.le_refl _,fun y z c e1 e2=>I.ok.inj y z c (S.cells e1) (S.cells e2),fun y hy=>?_,fun y c e _=>absurd e Bool.false_ne_true,I.ok.hd,I.ok.frames,.inl rfl,fun b hb=>⟨?_,fun y c e=>(f b hb).2.2.2.2.1 y c (S.cells e)⟩,
   I.bs,Nat.le_trans I.ok.bsz I.sz,fun b o e hb=>?_,nfs,I.stack,I.stkFree⟩,
  I.os.trans ?_,I.bare,Un.kept k,⟨m,hn,fun i y v e1 e2 e3=>?_⟩,fun y c e=>?_,I.hok.fresh (Nat.le_refl _),fun y c e=>I.freeC y c (S.cells e),fun p hp=>?_,I.hok.kept k,?_⟩
 ·rcases hy with hy | hy
  ·exact lookup_of_key (S.has _ (PySem.mem_of_lookup hy) (.inl rfl))
  ·exact lookup_of_key (S.has _ (PySem.mem_of_lookup hy) (.inr rfl))
 ·exact Nat.ne_of_lt (fo b hb)
 ·rcases (f b hb).2.2.2.1 with z | z
  ·exact I.ok.noex b o e z
  ·exact absurd (Nat.lt_of_lt_of_le (Heap.lt_size e) (Nat.le_trans I.ok.bsz z)) (Nat.lt_irrefl _)
 ·exact I.os.symm
 ·cases i with
  | zero=>cases e2
  | succ i=>
   obtain ⟨j,ej,eN,ek,ek'⟩:=S.fr i y e1
   have es:σ[j]? =some (some v):=by
    have q:(frees σ js)[i]? =some (some v):=e2
    unfold frees at q
    rw [List.getElem?_map,ej] at q
    have q':(σ[j]?).getD none=some v:=Option.some.inj q
    cases e:σ[j]? with
    | none=>rw [e] at q';cases q'
    | some o=>rw [e] at q';cases q';rfl
   obtain ⟨m0,_,hl⟩:=I.loc
   obtain ⟨u,r,l⟩:=hl j y v eN es (.inr ek)
   rcases l with ⟨l,_⟩ | ⟨_,c,ec,hc⟩
   ·rcases ek with ek | ek <;> · rw [ek] at l;cases l
   ·have hk:y∈cl.map (·.1):=by
     rcases ek' with q | q
     ·exact S.has _ (PySem.mem_of_lookup q) (.inl rfl)
     ·exact S.has _ (PySem.mem_of_lookup q) (.inr rfl)
    obtain ⟨c',ec'⟩:=lookup_of_key hk
    have e:=S.cells ec'
    rw [ec] at e
    cases e
    exact ⟨u,r,.inr ⟨ek',c,ec',kept y c ec' _ hc⟩⟩
 ·obtain ⟨v,q⟩:=I.cell y c (S.cells e)
  exact ⟨v,kept y c e v q⟩
 ·have hp':p∈X.pn++pins:=(List.mem_append.mp hp).elim (fun z=>absurd (show p∈([]:List (Addr ×Obj)) from z) (by simp)) id
  obtain ⟨a,b,c,d,e⟩:=I.pin p hp'
  exact ⟨k _ _ a,b,Nat.ne_of_lt (Heap.lt_size a),fun z=>(List.mem_cons.mp (I.stkSub _ z)).elim c d,e⟩
 ·show _=(x::ys).length
  rw [List.length_cons,List.length_cons]
  unfold frees
  rw [List.length_map,S.len]
private theorem comp_out {H1:Hp}{s1:Shared}{σ':St}{pins':List (Addr ×Obj)}{s0:Shared}{H0:Hp}(I:Inv X pins σ H0 s0){fp:List Addr}(f:∀b∈fp,FpOk X pins H0 b)(U0:Un (frs X.stack) fp H0 H s0.heap s.heap)(ho:s.os=s0.os)
  (J:Inv (cxC X (x::ys) scope cl s H fp) pins' σ' H1 s1):Inv X pins σ H1 s1:=by
 have U1:Un (frs X.stack) fp H H1 s.heap s1.heap:=J.base
 exact I.call' (J.os.trans ho) (U0.trans U1) J.hok J.bare fun b hb=>⟨(f b hb).2.2.2.1,(f b hb).2.1,(f b hb).2.2.2.2.1,(f b hb).2.2.2.2.2⟩
variable {iter elt:Expr}{ifs:List Expr}{px pos:Pos}{wi:TI}{tt:TT}{te:TE}
private theorem comp_run (S:CompScope X x ys js scope cl)(hc:X.calm=true)(ht:∀s₀ H₀ ex,PTs (cxC X (x::ys) scope cl s₀ H₀ ex) ifs tt)(he:∀s₀ H₀ ex,PE (cxC X (x::ys) scope cl s₀ H₀ ex) elt te)
  {s2:Shared} {H2:Hp} {it:Addr} {fp:List Addr} {tn:Nat→Heap→Prop} {J:It} (I2:Inv X pins σ H2 s2) (T:Turn X.prog X.w X.K (.Name x px) J fp it tn) (st2:tn 0 s2.heap) (f2:∀b∈fp,FpOk X pins H2 b)
  {Q:VK} (q:∀p,H2 p=none→CompW J p σ js tt te H2 Q)
  {R:Value→Addr→Result→Shared→Prop}
  (hR:∀(p:Addr) (C:Addr) (H':Hp) (s':Shared) (m:Str→Option Value),s2.heap.objs.size≤C→s'.heap.Ns C m→H' C=none→Inv X pins σ H' s'→Q (.ref p) H'→R (.ref p) C (.ok .next) s'):
  wpAny (model X.prog X.w) X.A (newList []) (fun acc s₃=>wpAny (model X.prog X.w) X.A (newFunctionEnv scope X.env.globals cl [] X.env.qual none .none (some X.env)) (fun cenv s₄=>
   codeAny (model X.prog X.w) X.A (.compStart (.ListComp elt [⟨.Name x px,iter,ifs,0⟩] scope pos) 0 (.ref it) acc {cenv with scope:=relabel scope X.env}) (R acc cenv.locals) s₄) X.xe s₃) X.xe s2:=by
 refine wpAny_newObj_type (wpAny_newFunctionEnv S.nocell (by intro y hy;simp at hy) (fun h₁ hns₁ hsb₁=>?_) S.kind)
 have fr2:H2 s2.heap.objs.size=none:=I2.hok.fresh (Nat.le_refl _)
 obtain ⟨W,⟨m0,w0⟩,turn⟩:=q _ fr2
 have I3:Inv X pins σ (upd H2 s2.heap.objs.size (.lst [])) {s2 with heap:=s2.heap.push {cls:=.type "list",dict:=none,data:=.seq ([]:List Value).toArray}}:=
  I2.laid (t':=s2.toks) (fun b u e=>Heap.get?_push_of_some _ e) (Nat.le_refl _) ⟨Nat.zero_le _,[],0,.nil,Heap.get?_push_size _ rfl⟩
 have U0:Un (frs X.stack) fp H2 (upd H2 s2.heap.objs.size (.lst [])) s2.heap (s2.heap.push {cls:=.type "list",dict:=none,data:=.seq ([]:List Value).toArray}):=
  Un.laid (fun b u e=>Heap.get?_push_of_some _ e) (Nat.le_refl _) fr2
 have fo:∀b∈fp,b < s2.heap.objs.size:=fun b hb=>by
  obtain ⟨o,e,_⟩:=T.obj 0 _ st2 b hb
  exact Heap.lt_size e
 have f3:∀b∈fp,FpOk X pins (upd H2 s2.heap.objs.size (.lst [])) b:=fun b hb=>⟨by rw [upd_ne (Nat.ne_of_lt (fo b hb))];exact (f2 b hb).1,(f2 b hb).2⟩
 have hold:∀b o,(s2.heap.push {cls:=.type "list",dict:=none,data:=.seq ([]:List Value).toArray}).get? b=some o→h₁.get? b=some o:=fun b o e=>
  hsb₁.extBut b o (Nat.ne_of_lt (Heap.lt_size e)) (Heap.get?_push_of_some _ e)
 have fo3:∀b∈fp,b < (s2.heap.push {cls:=.type "list",dict:=none,data:=.seq ([]:List Value).toArray}).objs.size:=fun b hb=>by rw [Heap.size_push];exact Nat.lt_succ_of_lt (fo b hb)
 have I4:=comp_in (t1:=s2.toks+([]:List (Str ×Value)).length) S I3 f3 fo3 hns₁ hold
 have st4:tn 0 h₁:=T.keep _ _ _ st2 fun b _ o e=>hold b o (Heap.get?_push_of_some _ e)
 have stat:∀{H':Hp},(∀b∈fp,H' b=none)→∀b∈fp,FpOk (cxC X (x::ys) scope cl {s2 with heap:=s2.heap.push {cls:=.type "list",dict:=none,data:=.seq ([]:List Value).toArray}} (upd H2 s2.heap.objs.size (.lst [])) fp) (X.pn++pins) H' b:=fun hn b hb=>
  ⟨hn b hb,Nat.ne_of_lt (fo3 b hb),I4.ok.exfs b hb,.inl hb,fun y c e=>(f2 b hb).2.2.2.2.1 y c (S.cells e),fun p hp=>(f2 b hb).2.2.2.2.2 p ((List.mem_append.mp hp).elim (fun z=>absurd (show p∈([]:List (Addr ×Obj)) from z) (by simp)) id)⟩
 have loop:codeAny (model X.prog X.w) X.A (.compLoop (.ListComp elt [⟨.Name x px,iter,ifs,0⟩] scope pos) 0 (.ref it) (.ref s2.heap.objs.size) (compEnvC scope cl (s2.heap.push {cls:=.type "list",dict:=none,data:=.seq ([]:List Value).toArray}).objs.size X.env))
   (R (.ref s2.heap.objs.size) (s2.heap.push {cls:=.type "list",dict:=none,data:=.seq ([]:List Value).toArray}).objs.size) {s2 with heap:=h₁,toks:=s2.toks+([]:List (Str ×Value)).length}:=by
  refine codeAny_loop rfl (fun n s'=>∃i acc v0 H',Inv (cxC X (x::ys) scope cl {s2 with heap:=s2.heap.push {cls:=.type "list",dict:=none,data:=.seq ([]:List Value).toArray}} (upd H2 s2.heap.objs.size (.lst [])) fp) (X.pn++pins) (v0::frees σ js) H' s'∧tn i s'.heap∧(∀b∈fp,H' b=none)∧W i n acc H')
   (fun n s5 hI=>?_) m0 ⟨0,[],none,_,I4,st4,fun b hb=>(f3 b hb).1,w0⟩
  show wpAny _ X.A ((compTurn (.ListComp elt [⟨.Name x px,iter,ifs,0⟩] scope pos) 0 (.ref it) (.ref s2.heap.objs.size) (compEnvC scope cl (s2.heap.push {cls:=.type "list",dict:=none,data:=.seq ([]:List Value).toArray}).objs.size X.env)).onRaise (fun x=>do noteFrame x (compEnvC scope cl (s2.heap.push {cls:=.type "list",dict:=none,data:=.seq ([]:List Value).toArray}).objs.size X.env);theTreesLotGoes x)) _ _ s5
  refine wpAny_noted ?_
  rw [compTurn_list]
  obtain ⟨i,acc,v0,H5,I5,st5,fr5,w5⟩:=hI
  refine wpAny_bind (wpAny_standAt (wpAny_bind ?_))
  rcases turn i n acc H5 w5 with ⟨stop,qn⟩ | ⟨go,step⟩
  ·refine wpAny_mono (T.done (cxC X (x::ys) scope cl {s2 with heap:=s2.heap.push {cls:=.type "list",dict:=none,data:=.seq ([]:List Value).toArray}} (upd H2 s2.heap.objs.size (.lst [])) fp) rfl rfl rfl hc i _ s5 _ H5 _ I5 (stat fr5) st5 stop) (fun r s6 ⟨hr,I6⟩=>?_) fun _ _ e=>e
   subst hr
   obtain ⟨m,hn,_⟩:=I6.loc
   exact wpAny_pure (hR _ _ H5 s6 m (by rw [Heap.size_push];exact Nat.le_succ _) hn I6.free (comp_out I2 f2 U0 (by rfl) I6) qn)
  ·refine wpAny_mono (T.item (cxC X (x::ys) scope cl {s2 with heap:=s2.heap.push {cls:=.type "list",dict:=none,data:=.seq ([]:List Value).toArray}} (upd H2 s2.heap.objs.size (.lst [])) fp) rfl rfl rfl hc i _ s5 _ H5 _ I5 (stat fr5) st5 go) (fun r s6 ⟨u,hr,h6⟩=>?_) fun _ _ e=>e
   subst hr
   refine wpAny_bind (wpAny_mono h6 (fun _ s7 ⟨v,H7,I7,r7,y7,st7,fr7⟩=>?_) fun _ _ e=>e)
   have I7':=I7.pinned (stat fr7) (T.obj _ _ st7)
   have G:PG (cxC X (x::ys) scope cl {s2 with heap:=s2.heap.push {cls:=.type "list",dict:=none,data:=.seq ([]:List Value).toArray}} (upd H2 s2.heap.objs.size (.lst [])) fp) (.Name x px) (gName 0):=
    pg_name S.nd rfl (.inl (lookup_relabel_local S.tgt)) (.inr (lookup_relabel_local S.tgt))
   refine wpAny_bind (wpAny_mono (G _ s7 _ H7 v u (fun σ8 H8=>σ8=some v::frees σ js∧H8=H7) I7' r7 ⟨rfl,rfl⟩) (fun _ s8 ⟨σ8,H8,I8,e8,e8'⟩=>?_) fun _ _ e=>e.elim)
   subst e8 e8'
   refine wpAny_bind (wpAny_mono (ht _ _ _ _ s8 _ _ _ I8 (step v _ y7)) (fun ok s9 ⟨H9,I9,q9⟩=>?_) fun _ _ e=>e.elim)
   have again:∀{acc':List V} {H10:Hp} {s10:Shared},Inv (cxC X (x::ys) scope cl {s2 with heap:=s2.heap.push {cls:=.type "list",dict:=none,data:=.seq ([]:List Value).toArray}} (upd H2 s2.heap.objs.size (.lst [])) fp) (X.pn++pins++pinsAt fp s7.heap) (some v::frees σ js) H10 s10→
     (∃m',m' < n∧W (i+1) m' acc' H10)→∃m,m < n∧∃i acc v0 H',Inv (cxC X (x::ys) scope cl {s2 with heap:=s2.heap.push {cls:=.type "list",dict:=none,data:=.seq ([]:List Value).toArray}} (upd H2 s2.heap.objs.size (.lst [])) fp) (X.pn++pins) (v0::frees σ js) H' s10∧tn i s10.heap∧(∀b∈fp,H' b=none)∧W i m acc H':=fun {acc' H10 s10} I10 ⟨m',hm,w10⟩=>by
    refine ⟨m',hm,i+1,acc',some v,H10,I10.unpinned,T.keep _ _ _ st7 fun b hb o e=>(I10.pin (b,o) (List.mem_append_right _ (List.mem_append_right _ (mem_pinsAt hb e)))).1,fun b hb=>?_,w10⟩
    obtain ⟨o,e,d⟩:=T.obj _ _ st7 b hb
    exact (I10.pin (b,o) (List.mem_append_right _ (List.mem_append_right _ (mem_pinsAt hb e)))).2.1
   cases ok with
   | false=>
    rw [if_neg Bool.false_ne_true] at q9
    exact wpAny_pure ⟨rfl,again I9 q9⟩
   | true=>
    rw [if_pos rfl] at q9
    refine wpAny_bind (wpAny_bind (wpAny_mono (he _ _ _ _ s9 _ _ _ I9 q9) (fun y s10 ⟨z,H10,I10,r10,e10,l10,w10⟩=>?_) fun _ _ e=>e.elim))
    refine wpAny_bind (wpAny_mono (mt_append (X:=cxC X (x::ys) scope cl {s2 with heap:=s2.heap.push {cls:=.type "list",dict:=none,data:=.seq ([]:List Value).toArray}} (upd H2 s2.heap.objs.size (.lst [])) fp) _ s10 _ H10 (.ref s2.heap.objs.size) [z] (.ref s2.heap.objs.size) [y] (fun _ H'=>H'=upd H10 s2.heap.objs.size (.lst (acc++ [z]))) I10 rfl (.cons r10 .nil) ⟨_,acc,z,rfl,rfl,e10,l10,rfl⟩)
     (fun _ s11 ⟨_,H11,I11,_,e11⟩=>?_) fun _ _ e=>e.elim)
    subst e11
    exact wpAny_pure (wpAny_pure ⟨rfl,again I11 w10⟩)
 exact codeAny_compStart_list loop (T.self _ 0 _ _ _ st4 loop)
private theorem pe_lcomp (S:CompScope X x ys js scope cl)(hc:X.calm=true)(hi:PI X (.Name x px) iter wi)(ht:∀s₀ H₀ ex,PTs (cxC X (x::ys) scope cl s₀ H₀ ex) ifs tt)(he:∀s₀ H₀ ex,PE (cxC X (x::ys) scope cl s₀ H₀ ex) elt te)
  (hs:∀x,foldedSetIterable iter X.env x=pure x:=by intro _;rfl):PE X (.ListComp elt [⟨.Name x px,iter,ifs,0⟩] scope pos) (tComp wi js tt te):=by
 intro pins s σ H Q I h
 rw [eval_ListComp]
 refine wpAny_comprehension_free (use:=none) rfl hs S.clos S.kind S.names (thn (hi pins s σ H _ I h) fun v s1 h1=>thn h1 fun itv s2 h2=>?_)
 obtain ⟨it,fp,tn,J,H2,e,I2,T,st2,f2,q⟩:=h2
 subst e
 refine comp_run (Q:=Q) (R:=fun acc C=>compPost (model X.prog X.w) X.A X.xe none (EP X pins σ Q) acc C) S hc ht he I2 T st2 f2 q fun p C H' s' m hC hn hf I' q'=>?_
 refine ⟨m,hn,fun h' hb=>⟨.ref p,H',?_,rfl,q'⟩⟩
 exact I'.turned (it:=C) (t':=s'.toks) (fun b o hne e=>hb.extBut b o hne e) hf (Nat.ne_of_gt (Nat.lt_of_lt_of_le I2.lt hC)) (.inr (Nat.le_trans I2.sz hC))
  (fun y c e z=>by obtain ⟨v,w⟩:=I2.cell y c e;subst z;exact Nat.lt_irrefl _ (Nat.lt_of_lt_of_le w.lt hC)) fun p hp z=>by have q:=Heap.lt_size (I2.pin p hp).1;rw [z] at q;exact Nat.lt_irrefl _ (Nat.lt_of_lt_of_le q hC)
private theorem ps_lcomp {i:Nat}{y:Str}{py spos:Pos}(S:CompScope X x ys js scope cl)(hc:X.calm=true)(hi:PI X (.Name x px) iter wi)(ht:∀s₀ H₀ ex,PTs (cxC X (x::ys) scope cl s₀ H₀ ex) ifs tt)(he:∀s₀ H₀ ex,PE (cxC X (x::ys) scope cl s₀ H₀ ex) elt te)
  (hN:X.N.Nodup) (hy:X.N[i]? =some y) (hx:Loc X.env.scope y) (hsw:swapsWith (.ListComp elt [⟨.Name x px,iter,ifs,0⟩] scope pos) (some (.Name y py)) spos.line X.env=pure true)
  (hf:X.fn y=true∨X.env.scope.names.lookup y=some .local:=by first | exact .inl rfl | exact .inr rfl | assumption)
  (hs:∀x,foldedSetIterable iter X.env x=pure x:=by intro _;rfl):PS X (.Assign [.Name y py] (.ListComp elt [⟨.Name x px,iter,ifs,0⟩] scope pos) spos) (tAsg (tComp wi js tt te) (gName i)):=by
 intro pins s σ H D I h
 rw [exec_Assign_Name_used _ _ _ _ hsw]
 refine wpAny_bind (wpAny_standAt (wpAny_bind ?_))
 show wpAny _ X.A (do let _←comprehension (.ListComp elt [⟨.Name x px,iter,ifs,0⟩] scope pos) scope X.env _ (newList []) false (eval iter X.env) (some (assign (.Name y py) X.env))) _ _ s
 refine wpAny_bind (wpAny_mono (wpAny_comprehension_free (use:=some (assign (.Name y py) X.env)) (Q:=fun _ s'=>SP X pins D .next s') rfl hs S.clos S.kind S.names
  (thn (hi pins s σ H _ I h) fun v s1 h1=>thn h1 fun itv s2 h2=>?_)) (fun _ s' hq=>wpAny_pure (wpAny_pure hq)) fun _ _ e=>e)
 obtain ⟨it,fp,tn,J,H2,e,I2,T,st2,f2,q⟩:=h2
 subst e
 refine comp_run (Q:=fun x H1=>gName i x σ H1 D.nx) (R:=fun acc C=>compPost (model X.prog X.w) X.A X.xe (some (assign (.Name y py) X.env)) (fun _ s'=>SP X pins D .next s') acc C) S hc ht he I2 T st2 f2 q fun p C H' s' m hC hn hf' I' q'=>?_
 have neL:C≠X.env.locals:=Nat.ne_of_gt (Nat.lt_of_lt_of_le I2.lt hC)
 have nfs:C∉X.fs:=I2.nofs hC
 have hn0:=hn
 obtain ⟨o,es,ep,ho,hd,r⟩:=hn
 have Ip:Inv X (pins++ [(C,o)]) σ H' s':=I'.pins_of fun p hp=>(List.mem_append.mp hp).elim (fun z=>I'.pin p (List.mem_append_right _ z)) fun z=>by
  have e:p=(C,o):=by simpa using z
  subst e
  exact ⟨ho,hf',neL,nfs,fun v w=>by rw [hd] at w;cases w⟩
 show wpAny _ _ (assign (.Name y py) X.env (.ref p)) _ _ s'
 refine thn (pg_name (pos:=py) hN hy hx hf _ s' σ H' (.ref p) (.ref p) _ Ip rfl q') fun _ s'' ⟨σ8,H8,I8,q8⟩=>?_
 have pc:=I8.pin (C,o) (List.mem_append_right _ (List.mem_append_right _ (by simp)))
 refine ⟨m,⟨o,es,ep,pc.1,hd,r⟩,fun h' hb=>⟨σ8,H8,?_,q8⟩⟩
 have I9:Inv X pins σ8 H8 s'':=I8.pins_of fun p hp=>I8.pin p (List.mem_append_right _ (List.mem_append_left _ hp))
 exact I9.turned (it:=C) (t':=s''.toks) (fun b o hne e=>hb.extBut b o hne e) pc.2.1 neL (.inr (Nat.le_trans I2.sz hC))
  (fun y c e z=>by obtain ⟨v,w⟩:=I2.cell y c e;subst z;exact Nat.lt_irrefl _ (Nat.lt_of_lt_of_le w.lt hC)) fun p hp z=>by have q:=Heap.lt_size (I2.pin p hp).1;rw [z] at q;exact Nat.lt_irrefl _ (Nat.lt_of_lt_of_le q hC)
end
end L2
namespace L2
open PySem PySem.Spec PyProof.Rows
section
variable {X:Cx}
def CDivL (i j:Int):Prop:=0 < j∧j < 10 ^ 100
private theorem CDivL.log {i j:Int}(h:CDivL i j):j.natAbs.log2 < 9000:=by
 have h1:j.natAbs < 10 ^ 100:=by have:=h.1;have:=h.2;omega
 have h2:j.natAbs < 2 ^ 400:=Nat.lt_trans h1 (by decide+kernel)
 have h3:j.natAbs≠0:=by have:=h.1;omega
 have:=(Nat.log2_lt h3).mpr h2
 omega
private theorem op_fdivL:OpR X (binaryOp .FloorDiv) (rI CDivL fun i j=>.int (i / j)):=opI fun i j _ _ _ _ _ hc q=>by
 rw [←Int.fdiv_eq_ediv_of_nonneg i (Int.le_of_lt hc.1)] at q
 exact floordiv_int (by have:=hc.1;omega) q (.inl (PyProof.noPylong_of_log2 hc.log))
def rInst (K:PySem.W.Frag):List V→Hp→VK→Prop:=fun xs H Q=>∃x T t b,xs=[x,.ty T]∧TyOf K H x t∧PySem.W.kitOne K t (.type T)=some b∧Q (.bl b) H
private theorem call_isinst:CallR X (.builtin "isinstance") (rInst X.K):=by
 intro pins s σ H xs us Q I r h
 obtain ⟨x,T,t,b,rfl,ty,e,q⟩:=h
 obtain ⟨u,w',rfl,ru,rw'⟩:=vals2 r
 cases (show w'=Value.type T from rw')
 exact isinst_ok I ru ty e fun tk=>⟨.bl b,H,I.tok tk,rfl,q⟩
example (K:PySem.W.Frag):PySem.W.kitOne K (.type "NoneType") (.type "int")=some false:=by rfl
example (K:PySem.W.Frag):PySem.W.kitOne K (.type "int") (.type "int")=some true:=by rfl
example (K:PySem.W.Frag):PySem.W.kitOne K (.type "tuple") (.type "str")=some false:=by rfl
example (K:PySem.W.Frag):PySem.W.kitOne K (.type "bool") (.type "int")=some true:=by rfl
example (K:PySem.W.Frag):PySem.W.kitOne K (.type "str") (.type "bool")=some false:=by rfl
def Its (x:Str):It:=⟨fun i _=>i < x.cps.size,fun i H v H'=>H'=H∧∃c,x.cps[i]? =some c∧v=.str ⟨#[c]⟩,fun i _=>x.cps.size≤i⟩
private theorem turn_str {P:Program}{w:World}{K:PySem.W.Frag}{tg:Expr}{x:Str}{it:Addr}{n:String}{t:Tok}(hn:["enumerate","zip","dict_itemiterator","dict_reverseitemiterator","odict_iterator","itertools.zip_longest","itertools.pairwise"].contains n=false)
  (W:∀(A':Around) (s:Shared) (Q:Option Value→Shared→Prop) (E:Value→Shared→Prop) (i c:Nat),s.heap.IsStrIter it n x t i→x.cps[i]? =some c→(∀h',h'.IsStrIter it n x t (i+1)→Heap.SameBut it s.heap h'→Q (some (.str ⟨#[c]⟩ s.toks)) {s with heap:=h',toks:=s.toks+1})→wpAny (model P w) A' (pyNext (.ref it)) Q E s)
  (E0:∀(A':Around) (s:Shared) (Q:Option Value→Shared→Prop) (E:Value→Shared→Prop) (i:Nat),HndS A' s.heap→(∀e,A'.handled=some (.ref e)→e≠it)→s.heap.IsStrIter it n x t i→x.cps.size≤i→(∀h',(∀b o,b≠it→s.heap.get? b=some o→h'.get? b=some o)→Q none {s with heap:=h'})→wpAny (model P w) A' (pyNext (.ref it)) Q E s)
  (S0:∀(A':Around) (s:Shared) (Q:Value→Shared→Prop) (E:Value→Shared→Prop) (i:Nat),s.heap.IsStrIter it n x t i→Q (.ref it) s→wpAny (model P w) A' (pyIter (.ref it)) Q E s):
  Turn P w K tg (Its x) [it] it (fun i h=>h.IsStrIter it n x t i) where
 mem:=by simp
 obj:=fun i h st b hb=>by
  have e:b=it:=by simpa using hb
  subst e
  obtain ⟨o,e,c,d⟩:=st
  exact ⟨o,e,fun v z=>by rw [d] at z;cases z⟩
 keep:=fun i h h' st k=>by
  obtain ⟨o,e,r⟩:=st
  exact ⟨o,k it (by simp) o e,r⟩
 item:=by
  intro X hP hw hK hc i pins s σ H E I hf st hg
  subst hP hw hK
  obtain ⟨f0,f1,f2,f3,f4,f5⟩:=hf it (by simp)
  have hlt:i < x.cps.size:=hg
  have hc':x.cps[i]? =some x.cps[i]:=Array.getElem?_eq_getElem hlt
  generalize x.cps[i]=c at hc'
  refine W X.A s _ _ i c st hc' fun h' st' sb=>?_
  have kk:∀b o,b∉ [it]→s.heap.get? b=some o→h'.get? b=some o:=fun b o hb e=>(sb.2 b (by simpa using hb)).trans e
  generalize s.toks+1=tk
  generalize s.toks=u
  have I1:Inv X pins σ H {s with heap:=h',toks:=tk}:=I.turned (fun b o hb e=>kk b o (by simpa using hb) e) f0 f1 f3 f4 f5
  obtain ⟨o,e,cl,d⟩:=id st'
  exact ⟨_,rfl,go_of (s:={s with heap:=h',toks:=tk}) e cl d hn ⟨.str ⟨#[c]⟩,H,I1,⟨u,rfl⟩,⟨rfl,c,hc',rfl⟩,st',fun b hb=>(hf b hb).1⟩⟩
 done:=by
  intro X hP hw hK hc i pins s σ H E I hf st hg
  subst hP hw hK
  obtain ⟨f0,f1,f2,f3,f4,f5⟩:=hf it (by simp)
  exact E0 X.A s _ _ i (I.hs hc) (I.nit hc f3) st hg fun h' eb=>⟨rfl,I.turned (t':=s.toks) (fun b o hb e=>eb b o hb e) f0 f1 f3 f4 f5⟩
 self:=fun A i s Q E st h=>S0 A s Q E i st h
def iStr (tl:TE):TI:=fun σ H R=>tl σ H fun x H1=>∃z,x=.str z∧R (Its z) H1
private theorem pi_str {tg l:Expr}{tl:TE}(hl:PE X l tl):PI X tg l (iStr tl):=by
 intro pins s σ H R I h
 refine thn (hl pins s σ H _ I h) fun v s1 ⟨x,H1,I1,r1,q1⟩=>?_
 obtain ⟨z,rfl,q⟩:=q1
 obtain ⟨t,rfl⟩:=r1
 have fp:∀b∈ [s1.heap.objs.size],FpOk X pins H1 b:=fun b hb=>by
  have e:b=s1.heap.objs.size:=by simpa using hb
  subst e
  exact I1.fpOk (Nat.le_refl _) (I1.hok.fresh (Nat.le_refl _))
 cases ha:z.cps.all (· < 128)
 ·refine wpAny_pyIter_wide ha ?_
  exact ⟨s1.heap.objs.size,[s1.heap.objs.size],_,_,H1,rfl,I1.kept (t':=s1.toks) fun b o e=>Heap.get?_push_of_some _ e,
   turn_str (n:= "str_iterator") (t:=t) (by decide) (fun A' s Q E i c st hc h=>wpAny_pyNext_wide_item st hc h) (fun A' s Q E i hA hN st hi hQ=>wide_end_h (nit:=hN) hA st (by simpa using hi) fun h' he'=>hQ h' fun b o hb e=>he' b o hb e) (fun A' s Q E i st hQ=>wpAny_pyIter_striter_wide st hQ),
   ⟨_,Heap.get?_push_size _ rfl,rfl,rfl⟩,fp,q⟩
 ·refine wpAny_pyIter_ascii ha ?_
  exact ⟨s1.heap.objs.size,[s1.heap.objs.size],_,_,H1,rfl,I1.kept (t':=s1.toks) fun b o e=>Heap.get?_push_of_some _ e,
   turn_str (n:= "str_ascii_iterator") (t:=t) (by decide) (fun A' s Q E i c st hc h=>wpAny_pyNext_ascii_item st hc h) (fun A' s Q E i hA hN st hi hQ=>ascii_end_h (nit:=hN) hA st (by simpa using hi) fun h' he'=>hQ h' fun b o hb e=>he' b o hb e) (fun A' s Q E i st hQ=>wpAny_pyIter_striter_ascii st hQ),
   ⟨_,Heap.get?_push_size _ rfl,rfl,rfl⟩,fp,q⟩
private theorem for_str {z:Str}{g:TG}{tb:TS}{D:Ends}{σ:St}{H:Hp}(Pv:Nat→St→Hp→Prop)(h0:Pv 0 σ H)
  (hs:∀i c σ H,z.cps[i]? =some c→Pv i σ H→g (.str ⟨#[c]⟩) σ H fun σ2 H2=>tb {D with nx:=Pv (i+1),ct:=Pv (i+1),bk:=D.nx} σ2 H2) (hd:∀σ H,Pv z.cps.size σ H→D.nx σ H):
  ∃W:Nat→Nat→St→Hp→Prop,(∃m,W 0 m σ H)∧∀i m σ H,W i m σ H→
   ((Its z).stop i H∧D.nx σ H)∨((Its z).go i H∧∃N:St→Hp→Prop,(∀σ' H',N σ' H'→∃m',m' < m∧W (i+1) m' σ' H')∧∀x H',(Its z).yld i H x H'→g x σ H' fun σ2 H2=>tb {D with nx:=N,ct:=N,bk:=D.nx} σ2 H2):=by
 refine ⟨fun i m σ H=>m=z.cps.size - i∧i≤z.cps.size∧Pv i σ H,⟨z.cps.size,by simp,Nat.zero_le _,h0⟩,?_⟩
 rintro i m σ H ⟨rfl,hi,p⟩
 by_cases hlt:i < z.cps.size
 ·refine .inr ⟨hlt,Pv (i+1),fun σ' H' p'=>⟨z.cps.size - (i+1),by omega,rfl,hlt,p'⟩,fun x H' y=>?_⟩
  obtain ⟨e,c,ec,ex⟩:=y
  subst e ex
  exact hs i c σ _ ec p
 ·have e:i=z.cps.size:=by omega
  subst e
  exact .inl ⟨Nat.le_refl _,hd σ H p⟩
def Itrs (lo st:Int)(n:Nat):It:=⟨fun i _=>i < n,fun i H x H'=>H'=H∧x=.int (lo+i * st),fun i _=>n≤i⟩
private theorem turn_ranges {P:Program}{w:World}{K:PySem.W.Frag}{tg:Expr}(it:Addr)(lo st:Int)(n:Nat):Turn P w K tg (Itrs lo st n) [it] it (fun i h=>IsRangeIter h it (lo+(i:Nat) * st) ((n:Int) - (i:Nat)) st) where
 mem:=by simp
 obj:=fun i h st b hb=>by
  have e:b=it:=by simpa using hb
  subst e
  exact ⟨_,st,fun v z=>by
   have z':Data.fields _=Data.cell v:=z
   cases z'⟩
 keep:=fun i h h' st k=>k it (by simp) _ st
 item:=by
  intro X hP hw hK hc i pins s σ H E I hf st' hg
  subst hP hw hK
  obtain ⟨f0,f1,f2,f3,f4,f5⟩:=hf it (by simp)
  refine wpAny_pyNext_range_item st' (show (0:Int) < (n:Int) - (i:Nat) from by have:i < n:=hg;omega) fun h' st0 sb=>?_
  have st'':IsRangeIter h' it (lo+((i+1:Nat):Int) * st) ((n:Int) - ((i+1:Nat):Int)) st:=by
   have e1:lo+(i:Nat) * st+st=lo+((i+1:Nat):Int) * st:=by rw [Int.natCast_add,Int.add_mul,←Int.add_assoc];simp
   have e2:(n:Int) - (i:Nat) - 1=(n:Int) - ((i+1:Nat):Int):=by omega
   rw [e1,e2] at st0;exact st0
  have kk:∀b o,b∉ [it]→s.heap.get? b=some o→h'.get? b=some o:=fun b o hb e=>(sb.2 b (by simpa using hb)).trans e
  generalize s.toks+1=tk
  generalize s.toks=t
  have I1:Inv X pins σ H {s with heap:=h',toks:=tk}:=I.turned (fun b o hb e=>kk b o (by simpa using hb) e) f0 f1 f3 f4 f5
  exact ⟨_,rfl,go_of (s:={s with heap:=h',toks:=tk}) (n:= "range_iterator") st'' rfl rfl (by decide) ⟨.int (lo+i * st),H,I1,⟨t,rfl⟩,⟨rfl,rfl⟩,st'',fun b hb=>(hf b hb).1⟩⟩
 done:=by
  intro X hP hw hK hc i pins s σ H E I hf st' hg
  subst hP hw hK
  obtain ⟨f0,f1,f2,f3,f4,f5⟩:=hf it (by simp)
  exact range_end_h (nit:=I.nit hc f3) (I.hs hc) st' (by have:n≤i:=hg;omega) fun h' eb=>⟨rfl,I.turned (t':=s.toks) (fun b o hb e=>eb b o hb e) f0 f1 f3 f4 f5⟩
 self:=fun _ _ _ _ _ st h=>wpAny_pyIter_rangeiter st h
def iRng3 (ta:TA):TI:=fun σ H R=>ta σ H fun vs H1=>∃j c:Int,vs=[.int 0,.int j,.int c]∧0≤j∧j < 2 ^ 60∧0 < c∧c < 1000∧R (Itrs 0 c ((j+c - 1) / c).toNat) H1
private theorem size_steps {j c:Int}(h0:0≤j)(hc:0 < c):Builtin.Range.rangeSize 0 j c=(j+c - 1) / c:=by
 unfold Builtin.Range.rangeSize
 rw [if_pos hc]
 by_cases h:(0:Int) < j
 ·rw [if_pos h]
  have e:j+c - 1=(j - 0 - 1)+c * 1:=by omega
  rw [e,Int.add_mul_ediv_left _ _ (by omega)]
 ·rw [if_neg h]
  have e:j=0:=by omega
  subst e
  rw [Int.ediv_eq_zero_of_lt (by omega) (by omega)]
private theorem vals3 {x y z:V}{us:List Value}(r:Vals [x,y,z] us):∃u v w',us=[u,v,w']∧RelV x u∧RelV y v∧RelV z w':=by
 cases r with
 | cons r1 r=>cases r with
  | cons r2 r=>cases r with
   | cons r3 r=>cases r;exact ⟨_,_,_,rfl,r1,r2,r3⟩
private theorem small_steps {j c:Int}(h0:0≤j)(h1:j < 2 ^ 60)(hc:0 < c)(hc2:c < 1000):Builtin.Range.small 0 j c=true:=by
 have b1:(j+c - 1) / c≤j+c - 1:=Int.ediv_le_self _ (by omega)
 have b2:0≤(j+c - 1) / c:=Int.ediv_nonneg (by omega) (by omega)
 unfold Builtin.Range.small
 rw [size_steps h0 hc]
 simp only [Builtin.Range.rangeFitsLong,Bool.and_eq_true,Bool.or_eq_true,decide_eq_true_eq,beq_iff_eq]
 generalize (j+c - 1) / c=d at b1 b2 ⊢
 have hc':c > 0:=hc
 simp only [hc',if_true,Bool.and_eq_true,decide_eq_true_eq]
 omega
private theorem pi_range3 {tg a b c:Expr}{ta:TA}{p pos:Pos}(hg:Gl X "range") (hm:X.mg "range" =none) (ha:PA X [a,b,c] ta) (hs:starEach [a,b,c] X.env=[(false,eval a X.env),(false,eval b X.env),(false,eval c X.env)]:=by rfl)
  (hs2:starEach [b,c] X.env=[(false,eval b X.env),(false,eval c X.env)]:=by rfl):PI X tg (.Call (.Name "range" p) [a,b,c] [] pos) (iRng3 ta):=by
 intro pins s σ H R I h
 refine Call_ (ld_blt I hg hm boot_range (PyProof.Rows.callWith_type1 (thn (ha pos pins s σ H _ I h) fun us s1 ⟨vs,H1,I1,r1,q1⟩=>?_) (by rw [hs,hs2]) (by rw [hs2];rfl)))
 obtain ⟨j,c,rfl,h0,h1,hc,hc2,q⟩:=q1
 obtain ⟨u,v,w',rfl,⟨t1,rfl⟩,⟨t2,rfl⟩,⟨t3,rfl⟩⟩:=vals3 r1
 refine call_range_3 (by omega) ?_ (.inl (PyProof.noPylong_small (by omega)))
 refine wpAny_pyIter_range (IsRange.new ..) (small_steps h0 h1 hc hc2) ?_
 have I2:Inv X pins σ H1 {s1 with heap:=s1.heap.push {cls:=.type "range",data:=.fields #[.int 0 t1,.int j t2,.int c t3]}}:=I1.kept (t':=s1.toks) fun b o e=>Heap.get?_push_of_some _ e
 refine ⟨_,[_],_,_,H1,rfl,I2.kept (t':=s1.toks) fun b o e=>Heap.get?_push_of_some _ e,turn_ranges _ 0 c ((j+c - 1) / c).toNat,?_,fun b hb=>?_,q⟩
 ·have b2:0≤(j+c - 1) / c:=Int.ediv_nonneg (by omega) (by omega)
  have e1:(0:Int)+((0:Nat):Int) * c=0:=by simp
  have e2:(((((j+c - 1) / c).toNat:Nat):Int) - ((0:Nat):Int))=Builtin.Range.rangeSize 0 j c:=by rw [size_steps h0 hc];omega
  show IsRangeIter _ _ ((0:Int)+((0:Nat):Int) * c) (((((j+c - 1) / c).toNat:Nat):Int) - ((0:Nat):Int)) c
  rw [e1,e2]
  exact Heap.get?_push_size _ rfl
 ·have e:=List.mem_singleton.mp hb
  subst e
  exact I2.fpOk (Nat.le_refl _) (I2.hok.fresh (Nat.le_refl _))
end
end L2
namespace L2
open PySem PySem.Spec PyProof.Rows
def cutS (x:Str)(lo hi:Option Int):Str:=⟨((x.cps.toList.drop (HT.sIx x.length 0 lo)).take (HT.sIx x.length x.length hi - HT.sIx x.length 0 lo)).toArray⟩
private theorem pick_nat (l:List Nat)(i k:Nat):(List.range k).filterMap (fun m=>l[i+m]?)=(l.drop i).take k:=by
 induction k with
 | zero=>simp
 | succ k ih=>
  rw [List.range_succ,List.filterMap_append,ih]
  by_cases h:i+k < l.length
  ·have e:l[i+k]? =some l[i+k]:=List.getElem?_eq_getElem h
   rw [List.take_add_one]
   simp [List.getElem?_drop,e]
  ·have e:l[i+k]? =none:=List.getElem?_eq_none (by omega)
   have e2:((l.drop i).take (k+1))=(l.drop i).take k:=by
    rw [List.take_of_length_le (by rw [List.length_drop];omega),List.take_of_length_le (by rw [List.length_drop];omega)]
   rw [e2]
   simp [e]
private theorem idx_str (lo hi:Option Int)(n:Nat):Builtin.Str.strSliceIndices lo hi 1 n=(List.range (HT.sIx n n hi - HT.sIx n 0 lo)).map fun k=>HT.sIx n 0 lo+k:=by
 have c0:∀(v:Int) (d:Nat),(max 0 (min (if v < 0 then v+(n:Int) else v) (n:Int)))=((HT.sIx n d (some v):Nat):Int):=fun v d=>by
  rw [←HT.clip_eq v n d]
  by_cases h:v < 0
  ·simp only [if_pos h];omega
  ·simp only [if_neg h];omega
 have key:∀a b:Nat,sliceRange (a:Int) (b:Int) 1=(List.range (b - a)).map fun k=>a+k:=fun a b=>by
  unfold sliceRange
  have e1:(if (1:Int) > 0 then (if (a:Int) < (b:Int) then ((b:Int) - (a:Int)+1 - 1) / 1 else 0) else (if (a:Int) > (b:Int) then ((a:Int) - (b:Int) - 1 - 1) / (-1) else 0)).toNat=b - a:=by
   rw [if_pos (by decide)]
   split
   ·rw [Int.ediv_one];omega
   ·omega
  show List.map _ (List.range (if (1:Int) > 0 then (if (a:Int) < (b:Int) then ((b:Int) - (a:Int)+1 - 1) / 1 else 0) else (if (a:Int) > (b:Int) then ((a:Int) - (b:Int) - 1 - 1) / (-1) else 0)).toNat)=_
  rw [e1]
  refine List.map_congr_left fun k _=>?_
  show ((a:Int)+1 * (k:Int)).toNat=a+k
  omega
 unfold Builtin.Str.strSliceIndices
 simp only [show (1:Int) > 0 by decide,if_true]
 cases lo with
 | none=>
  cases hi with
  | none=>exact key 0 n
  | some v=>dsimp only;rw [c0 v n];exact key 0 _
 | some u=>
  cases hi with
  | none=>dsimp only;rw [c0 u 0];exact key _ n
  | some v=>dsimp only;rw [c0 u 0,c0 v n];exact key _ _
private theorem slice_cut (x:Str)(lo hi:Option Int):Txt.slice x lo hi=cutS x lo hi:=by
 have h1:=HT.sIx_le x.length 0 (Nat.zero_le _) lo
 have h2:=HT.sIx_le x.length x.length (Nat.le_refl _) hi
 have hn:x.cps.toList.length=x.length:=Array.length_toList
 have e:((Builtin.Str.strSliceIndices lo hi 1 x.length).filterMap (x.cps[·]?))=(x.cps.toList.drop (HT.sIx x.length 0 lo)).take (HT.sIx x.length x.length hi - HT.sIx x.length 0 lo):=by
  rw [idx_str,List.filterMap_map,←pick_nat]
  refine congrArg (fun f=>List.filterMap f _) ?_
  funext m
  show x.cps[_]? =x.cps.toList[_]?
  rw [Array.getElem?_toList]
 unfold Txt.slice cutS
 split
 ·rename_i h
  have hl:(Builtin.Str.strSliceIndices lo hi 1 x.length).length=x.length:=by simpa using h
  rw [idx_str,List.length_map,List.length_range] at hl
  have a0:HT.sIx x.length 0 lo=0∨x.length=0:=by omega
  rcases a0 with a0 | a0
  ·rw [a0,List.drop_zero,Nat.sub_zero,List.take_of_length_le (by omega)]
  ·have en:x.cps.toList=[]:=List.eq_nil_of_length_eq_zero (by omega)
   rw [en,List.drop_nil,List.take_nil]
   have:x.cps= #[]:=by rw [←Array.toList_inj];exact en
   rcases x with ⟨c⟩
   rw [show c= #[] from this]
 ·rw [e]
section
variable {X:Cx}
def rSlS:V→Option Int→Option Int→Hp→VK→Prop:=fun x lo hi H Q=>∃z,x=.str z∧z.length≤sizeLine∧Q (.str (cutS z lo hi)) H
private theorem sl_str:SlR X rSlS:=by
 intro pins s σ H x v vl vu lo hi sl Q I rx hs pl pu h
 obtain ⟨z,rfl,hz,q⟩:=h
 obtain ⟨t,rfl⟩:=rx
 refine ⟨"str",_,F.slot_str_getitem.lookup,typeIs_str _ _ _,?_⟩
 have main:∀(l u:Option (Int ×Tok)),vl=partValue l→vu=partValue u→lo=l.map (·.1)→hi=u.map (·.1)→wpAny (model X.prog X.w) X.A (getItem (.str z t) (.ref sl)) (EP X pins σ Q) X.xe s:=fun l u e1 e2 e3 e4=>by
  subst e1 e2 e3 e4
  refine wpAny_getItem_str_slice (l:=l) (u:=u) (st:=none) hs rfl (post_val_or_str ⟨Nat.le_trans (Txt.slice_le z _ _) hz,fun t' k=>?_⟩)
  show EP X pins σ Q (.str (Txt.slice z (l.map (·.1)) (u.map (·.1))) t') _
  rw [slice_cut]
  exact ⟨.str _,H,I.tok k,⟨_,rfl⟩,q⟩
 cases pl with
 | none=>
  cases pu with
  | none=>exact main none none rfl rfl rfl rfl
  | int j u=>exact main none (some (j,u)) rfl rfl rfl rfl
 | int i t'=>
  cases pu with
  | none=>exact main (some (i,t')) none rfl rfl rfl rfl
  | int j u=>exact main (some (i,t')) (some (j,u)) rfl rfl rfl rfl
end
end L2
namespace L2
open PySem PySem.Spec PyProof.Rows
structure Dfn (K:PySem.W.Frag)(mg:Str→Option Value)(x:Str)(st:Stmt)(ps:List Str):Prop where
 ex:∃f fd,Fun K x x st f fd∧Binds K fd ps []∧mg x=some (.ref f)
structure Fn (P:Program)(w:World)(K:PySem.W.Frag)(mg:Str→Option Value)(base:Heap)(x:Str)(k:Nat)(ps:List Str)(sp:Sp):Prop where
 ex:∃f fd,FnOk P w K mg base CX0 k f fd ps sp∧Binds K fd ps []∧PySem.W.keepIn K (.ref f)=true∧mg x=some (.ref f)
section
variable {P:Program}{w:World}{K:PySem.W.Frag}{mg:Str→Option Value}{base:Heap}{x:Str}{st:Stmt}{ps N:List Str}{sp sp':Sp}{k:Nat}
private theorem Dfn.ok (D:Dfn K mg x st ps)(S:FnScope N ps (defScope st))(len:∀vs H Q E,sp vs H Q E→vs.length=ps.length)
  (hbody:∀(f:Addr) (cdv:Value) (A:Around) (outer:List Env) (s:Shared) (H:Hp) (vs:List V) (Q:VK) (E:XK),Room k (A.deeper (envOfC x (defScope st) s.heap.objs.size f cdv))→sp vs H Q E→
   ∃t,PSs (cxOf CX0 P w K mg base N x (defScope st) f cdv A outer s H E).nox (defBody st) t∧t {nx:=fun _ H'=>Q .non H',rt:=Q} (start N vs) H):Fn P w K mg base x (k+1) ps sp:=by
 obtain ⟨f,fd,F,b,m⟩:=D.ex
 exact ⟨f,fd,F.ok S len (fun cdv A outer s H vs Q E hr h=>hbody f cdv A outer s H vs Q E hr h),b,F.kp,m⟩
private theorem Dfn.never (D:Dfn K mg x st ps)(no:∀vs H Q E,¬sp vs H Q E):Fn P w K mg base x k ps sp:=by
 obtain ⟨f,fd,F,b,m⟩:=D.ex
 exact ⟨f,fd,⟨fun vs H Q E h=>absurd h (no vs H Q E),fun A outer s H args us vs Q E _ _ _ _ h=>absurd h (no vs H Q E)⟩,b,F.kp,m⟩
end
section
variable {X:Cx}{x:Str}{ps:List Str}{sp:Sp}{k k':Nat}{e:Expr}{es:List Expr}{t:TA}{p pos:Pos}
private theorem pe_fn (F:Fn X.prog X.w X.K X.mg X.base x k ps sp)(hr:Room k' X.A)(hle:k≤k')(hg:Gl X x)(ha:PA X (e::es) t)(hd:(x==("__debug__" :Str))=false:=by decide)
  (he:starEach (e::es) X.env=(false,eval e X.env)::starEach es X.env:=by rfl) (hpl:∀pos,(backTo pos (starEach es X.env)).any (·.1)=false:=by intro _;rfl) (hc:X.calm=true:=by rfl):PE X (.Call (.Name x p) (e::es) [] pos) (tCall sp [] E0 t):=by
 obtain ⟨f,fd,a,b,kp,m⟩:=F.ex
 exact pe_call (hc:=hc) a (hr.mono hle) hg m kp b .nil pass0 ha hd he (hpl _)
end
section
variable {X:Cx}
end
end L2
namespace Pv
open PySem L2
inductive Th where
 | non
 | int (i:Int)
 | str (x:Str)
 | tup (ts:List Th)
mutual
def nodes:Th→Nat
 | .non=>1
 | .int _=>1
 | .str _=>1
 | .tup ts=>1+nodesL ts
def nodesL:List Th→Nat
 | []=>0
 | t::r=>nodes t+nodesL r
end
mutual
def dep:Th→Nat
 | .non=>0
 | .int _=>0
 | .str _=>0
 | .tup ts=>depL ts+1
def depL:List Th→Nat
 | []=>0
 | t::r=>max (dep t) (depL r)
end
def Sign (c:Nat):Prop:=32≤c∧c≤126∧c≠37
def TxtOk (x:Str):Prop:=x.length≤60∧∀c∈x.cps.toList,Sign c
mutual
def Wf:Th→Prop
 | .non=>True
 | .int i=> -(10 ^ 30)≤i∧i≤10 ^ 30
 | .str x=>TxtOk x
 | .tup ts=>ts.length≤40∧WfL ts
def WfL:List Th→Prop
 | []=>True
 | t::r=>Wf t∧WfL r
end
private theorem WfL.get:∀{ts:List Th} {i:Nat} {t:Th},WfL ts→ts[i]? =some t→Wf t
 | [],_,_,_,e=>by simp at e
 | u::r,0,t,h,e=>by simp at e;subst e;exact h.1
 | u::r,i+1,t,h,e=>WfL.get (i:=i) h.2 (by simpa using e)
private theorem WfL.snoc:∀{ts:List Th} {t:Th},WfL ts→Wf t→WfL (ts++ [t])
 | [],_,_,h=>⟨h,trivial⟩
 | _::_,_,h,h'=>⟨h.1,WfL.snoc h.2 h'⟩
private theorem nodesL_snoc:∀(ts:List Th) (t:Th),nodesL (ts++ [t])=nodesL ts+nodes t
 | [],t=>by simp [nodesL]
 | u::r,t=>by
  have:=nodesL_snoc r t
  show nodes u+nodesL (r++ [t])=nodes u+nodesL r+nodes t
  omega
private theorem depL_snoc:∀(ts:List Th) (t:Th),depL (ts++ [t])=max (depL ts) (dep t)
 | [],t=>by simp [depL]
 | u::r,t=>by
  have:=depL_snoc r t
  show max (dep u) (depL (r++ [t]))=max (max (dep u) (depL r)) (dep t)
  rw [this,Nat.max_assoc]
private theorem depL_get:∀{ts:List Th} {i:Nat} {t:Th},ts[i]? =some t→dep t≤depL ts
 | [],_,_,e=>by simp at e
 | u::r,0,t,e=>by simp at e;subst e;exact Nat.le_max_left _ _
 | u::r,i+1,t,e=>Nat.le_trans (depL_get (i:=i) (by simpa using e)) (Nat.le_max_right _ _)
inductive Rep (H:Hp):Th→V→Prop where
 | non:Rep H .non .non
 | int (i:Int):Rep H (.int i) (.int i)
 | str (x:Str):Rep H (.str x) (.str x)
 | tup {a:Addr} {xs:List V} {ts:List Th} (e:H a=some (.tup xs)) (l:xs.length=ts.length) (h:∀(i:Nat) (x:V) (t:Th),xs[i]? =some x→ts[i]? =some t→Rep H t x):Rep H (.tup ts) (.ref a)
def Tups (H H':Hp):Prop:=∀b xs,H b=some (.tup xs)→H' b=some (.tup xs)
private theorem Rep.keep {H H':Hp}{t:Th}{v:V}(r:Rep H t v)(k:Tups H H'):Rep H' t v:=by
 induction r with
 | non=>exact .non
 | int i=>exact .int i
 | str x=>exact .str x
 | tup e l h ih=>exact .tup (k _ _ e) l ih
def Frm (ws:List Addr)(H H':Hp):Prop:=∀b o,b∉ws→H b=some o→H' b=some o
private theorem Frm.trans {ws:List Addr}{H H1 H2:Hp}(a:Frm ws H H1)(b:Frm ws H1 H2):Frm ws H H2:=fun c o n h=>b c o n (a c o n h)
private theorem Frm.new {ws:List Addr}{H:Hp}{p:Addr}{o:HO}(h:H p=none):Frm ws H (upd H p o):=fun b u _ q=>by rw [upd_ne (ne_of_none q h)];exact q
private theorem Frm.upd {ws:List Addr}{H:Hp}{p:Addr}{o:HO}(h:p∈ws):Frm ws H (upd H p o):=fun b u n q=>by rw [upd_ne (fun z=>n (by rw [z];exact h))];exact q
private theorem Frm.same {H H':Hp}(a:Frm [] H H'):Same H H':=fun b o h=>a b o (by simp) h
private theorem Frm.at {ws:List Addr}{H H':Hp}{b:Addr}{o:HO}(a:Frm ws H H')(h:H b=some o)(n:b∉ws):H' b=some o:=a b o n h
def NoT (ws:List Addr)(H:Hp):Prop:=∀b∈ws,∀xs,H b≠some (.tup xs)
private theorem Frm.tups {ws:List Addr}{H H':Hp}(a:Frm ws H H')(n:NoT ws H):Tups H H':=fun b xs e=>a b _ (fun z=>n b z xs e) e
private theorem Same.tups {H H':Hp}(a:Same H H'):Tups H H':=fun b xs e=>a b _ e
private theorem Tups.trans {H H1 H2:Hp}(a:Tups H H1)(b:Tups H1 H2):Tups H H2:=fun c xs e=>b c xs (a c xs e)
private theorem Tups.upd {H:Hp}{p:Addr}{o:HO}(h:∀xs,H p≠some (.tup xs)):Tups H (upd H p o):=fun b xs e=>by rw [upd_ne (fun z=>h xs (by rw [←z];exact e))];exact e
private theorem Tups.new {H:Hp}{p:Addr}{o:HO}(h:H p=none):Tups H (L2.upd H p o):=Tups.upd fun xs e=>by rw [h] at e;cases e
end Pv
namespace L2
open PySem PySem.Spec PyProof.Rows
section
variable {X:Cx}{x y:Str}{scope:Scope}{j:Nat}{c:Addr}
private theorem relabel_mem {env:Env}{p:Str ×NameKind}(h:p∈(relabel scope env).names):∃q∈scope.names,p.1=q.1∧(p=q∨q.2=.free):=by
 obtain ⟨q,hq,e⟩:=List.mem_map.mp h
 obtain ⟨n,k⟩:=q
 refine ⟨(n,k),hq,?_⟩
 dsimp only at e
 split at e
 ·rename_i hc
  subst e
  refine ⟨rfl,.inr ?_⟩
  have:=(Bool.and_eq_true _ _).mp ((Bool.and_eq_true _ _).mp hc).1
  simpa using this.1
 ·subst e
  exact ⟨rfl,.inl rfl⟩
private theorem CompScope.zero (kind:scope.kind=.function)(nf:∀y∈scope.names,y.2≠ .free)(nc:∀y∈scope.names,y.2≠ .cell)(nm:∀y∈scope.names,y.2=.local→scope.names.lookup y.1=some .local)(tgt:scope.names.lookup x=some .local):
  CompScope X x [] [] scope [] where
 clos:=closureFor_none nf
 kind:=kind
 nocell:=nc
 names:=nm
 tgt:=tgt
 nd:=by simp
 sub:=fun p hp=>by simp at hp
 has:=fun p hp hk=>by
  obtain ⟨q,hq,e,h | h⟩:=relabel_mem hp
  ·subst h
   rcases hk with hk | hk
   ·exact absurd hk (nc _ hq)
   ·exact absurd hk (nf _ hq)
  ·exact absurd h (nf _ hq)
 fr:=fun i y e=>by simp at e
 len:=rfl
private theorem CompScope.one (clos:closureFor scope X.env=pure [(y,c)])(kind:scope.kind=.function)(nc:∀y∈scope.names,y.2≠ .cell)(nm:∀y∈scope.names,y.2=.local→scope.names.lookup y.1=some .local)(tgt:scope.names.lookup x=some .local)
  (ne:x≠y) (cell:X.env.cells.lookup y=some c) (only:∀q∈scope.names,q.2=.free→q.1=y) (hN:X.N[j]? =some y) (hk:X.env.kindOf y=some .cell∨X.env.kindOf y=some .free)
  (hk':(relabel scope X.env).names.lookup y=some .cell∨(relabel scope X.env).names.lookup y=some .free):CompScope X x [y] [j] scope [(y,c)] where
 clos:=clos
 kind:=kind
 nocell:=nc
 names:=nm
 tgt:=tgt
 nd:=by simp [ne]
 sub:=fun p hp=>by
  cases List.mem_singleton.mp hp
  exact cell
 has:=fun p hp hk=>by
  obtain ⟨q,hq,e,h | h⟩:=relabel_mem hp
  ·subst h
   rcases hk with hk | hk
   ·exact absurd hk (nc _ hq)
   ·simp [only _ hq hk]
  ·simp [e,only _ hq h]
 fr:=fun i z e=>by
  cases i with
  | zero=>cases e;exact ⟨j,rfl,hN,hk,hk'⟩
  | succ i=>simp at e
 len:=rfl
end
private theorem ifT {c:Bool}{A B:Prop}(h:c=true)(a:A):if c=true then A else B:=by rw [if_pos h];exact a
private theorem ifF {c:Bool}{A B:Prop}(h:c=false)(b:B):if c=true then A else B:=by rw [if_neg (by rw [h];exact Bool.false_ne_true)];exact b
private theorem ifB {c:Bool}{A B:Prop}(a:c=true→A)(b:c=false→B):if c=true then A else B:=by
 cases c with
 | true=>exact ifT rfl (a rfl)
 | false=>exact ifF rfl (b rfl)
private theorem dec_i {i j:Int}:decide (V.int i=V.int j)=decide (i=j):=by
 by_cases h:i=j
 ·subst h;simp
 ·rw [decide_eq_false h];exact decide_eq_false fun z=>h (V.int.inj z)
end L2
namespace L2
open PySem PySem.Spec PyProof.Rows
section
variable {X:Cx}{K:PySem.W.Frag}
end
end L2
namespace L2
open PySem PySem.Spec PyProof.Rows
section
variable {X:Cx}{x:Str}{ps:List Str}{sp:Sp}{k k':Nat}{p pos:Pos}
end
end L2
namespace L2
open PySem PySem.Spec PyProof.Rows Px
structure FnX (P:Program)(w:World)(K:PySem.W.Frag)(mg:Str→Option Value)(base:Heap)(x:Str)(k:Nat)(ps:List Str)(sp:Sp):Prop where
 ex:∃f fd,FnOk P w K mg base (CX1 P w) k f fd ps sp∧Binds K fd ps []∧PySem.W.keepIn K (.ref f)=true∧mg x=some (.ref f)
structure Mdf (K:PySem.W.Frag)(C:Addr)(m qual:Str)(st:Stmt)(ps:List Str):Prop where
 ex:∃f fd,Fun K m qual st f fd∧Binds K fd ps []∧Meth K C m f
structure Mt (P:Program)(w:World)(K:PySem.W.Frag)(mg:Str→Option Value)(base:Heap)(CX:CXT)(C:Addr)(m:Str)(k:Nat)(ps:List Str)(sp:Sp):Prop where
 ex:∃f fd,FnOk P w K mg base CX k f fd ps sp∧Binds K fd ps []∧Meth K C m f
structure Mkd (K:PySem.W.Frag)(mg:Str→Option Value)(x:Str)(C:Addr)(qual:Str)(st:Stmt)(ps:List Str):Prop where
 ex:∃f fd,Fun K "__init__" qual st f fd∧Binds K fd ps []∧Mk K C f∧mg x=some (.ref C)
structure Mkr (P:Program)(w:World)(K:PySem.W.Frag)(mg:Str→Option Value)(base:Heap)(x:Str)(C:Addr)(k:Nat)(ps:List Str)(sp:Sp):Prop where
 ex:∃f fd,FnOk P w K mg base CX0 k f fd ps sp∧Binds K fd ps []∧Mk K C f∧mg x=some (.ref C)
structure XId (K:PySem.W.Frag)(mg:Str→Option Value)(x:Str)(C:Addr)(qual:Str)(st:Stmt)(ps:List Str):Prop where
 cl:XCls K C
 ex:∃f fd,Fun K "__init__" qual st f fd∧Binds K fd ps []∧PySem.W.findIn K (.ref C) "__init__" =some (some (.ref f))∧PySem.W.isFn K (.ref f)=true∧mg x=some (.ref C)
structure XI (P:Program)(w:World)(K:PySem.W.Frag)(mg:Str→Option Value)(base:Heap)(x:Str)(C:Addr)(k:Nat)(ps:List Str)(sp:Sp):Prop where
 cl:XCls K C
 ex:∃f fd,FnOk P w K mg base CX0 k f fd ps sp∧Binds K fd ps []∧PySem.W.findIn K (.ref C) "__init__" =some (some (.ref f))∧PySem.W.isFn K (.ref f)=true∧mg x=some (.ref C)
structure XP (K:PySem.W.Frag)(mg:Str→Option Value)(x:Str)(C:Addr):Prop where
 cl:XCls K C
 ei:PySem.W.excIn K C bmV "ValueError.__new__" =true
 mg:mg x=some (.ref C)
section
variable {P:Program}{w:World}{K:PySem.W.Frag}{mg:Str→Option Value}{base:Heap}{x m qual:Str}{C:Addr}{st:Stmt}{ps N:List Str}{sp sp':Sp}{k:Nat}{CX:CXT}
private theorem Mdf.ok (D:Mdf K C m qual st ps)(S:FnScope N ps (defScope st))(len:∀vs H Q E,sp vs H Q E→vs.length=ps.length)
  (hbody:∀(f:Addr) (cdv:Value) (A:Around) (outer:List Env) (s:Shared) (H:Hp) (vs:List V) (Q:VK) (E:XK),Room k (A.deeper (envOfC qual (defScope st) s.heap.objs.size f cdv))→sp vs H Q E→
   ∃t,PSs (cxOf CX0 P w K mg base N qual (defScope st) f cdv A outer s H E).nox (defBody st) t∧t {nx:=fun _ H'=>Q .non H',rt:=Q} (start N vs) H):Mt P w K mg base CX0 C m (k+1) ps sp:=by
 obtain ⟨f,fd,F,b,me⟩:=D.ex
 exact ⟨f,fd,F.ok S len (fun cdv A outer s H vs Q E hr h=>hbody f cdv A outer s H vs Q E hr h),b,me⟩
private theorem Mdf.okX (D:Mdf K C m qual st ps)(S:FnScope N ps (defScope st))(len:∀vs H Q E,sp vs H Q E→vs.length=ps.length)
  (hbody:∀(f:Addr) (cdv:Value) (A:Around) (outer:List Env) (s:Shared) (H:Hp) (vs:List V) (Q:VK) (E:XK),Room k (A.deeper (envOfC qual (defScope st) s.heap.objs.size f cdv))→sp vs H Q E→
   ∃t,PSs (cxOf (CX1 P w) P w K mg base N qual (defScope st) f cdv A outer s H E) (defBody st) t∧t {nx:=fun _ H'=>Q .non H',rt:=Q} (start N vs) H):Mt P w K mg base (CX1 P w) C m (k+1) ps sp:=by
 obtain ⟨f,fd,F,b,me⟩:=D.ex
 exact ⟨f,fd,F.okX S len (fun cdv A outer s H vs Q E hr h=>hbody f cdv A outer s H vs Q E hr h),b,me⟩
private theorem Mkd.ok (D:Mkd K mg x C qual st ps)(S:FnScope N ps (defScope st))(len:∀vs H Q E,sp vs H Q E→vs.length=ps.length)
  (hbody:∀(f:Addr) (cdv:Value) (A:Around) (outer:List Env) (s:Shared) (H:Hp) (vs:List V) (Q:VK) (E:XK),Room k (A.deeper (envOfC qual (defScope st) s.heap.objs.size f cdv))→sp vs H Q E→
   ∃t,PSs (cxOf CX0 P w K mg base N qual (defScope st) f cdv A outer s H E).nox (defBody st) t∧t {nx:=fun _ H'=>Q .non H',rt:=Q} (start N vs) H):Mkr P w K mg base x C (k+1) ps sp:=by
 obtain ⟨f,fd,F,b,mk,mm⟩:=D.ex
 exact ⟨f,fd,F.ok S len (fun cdv A outer s H vs Q E hr h=>hbody f cdv A outer s H vs Q E hr h),b,mk,mm⟩
private theorem XId.ok (D:XId K mg x C qual st ps)(S:FnScope N ps (defScope st))(len:∀vs H Q E,sp vs H Q E→vs.length=ps.length)
  (hbody:∀(f:Addr) (cdv:Value) (A:Around) (outer:List Env) (s:Shared) (H:Hp) (vs:List V) (Q:VK) (E:XK),Room k (A.deeper (envOfC qual (defScope st) s.heap.objs.size f cdv))→sp vs H Q E→
   ∃t,PSs (cxOf CX0 P w K mg base N qual (defScope st) f cdv A outer s H E).nox (defBody st) t∧t {nx:=fun _ H'=>Q .non H',rt:=Q} (start N vs) H):XI P w K mg base x C (k+1) ps sp:=by
 obtain ⟨c,f,fd,F,b,i,n,mm⟩:=D
 exact ⟨c,f,fd,F.ok S len (fun cdv A outer s H vs Q E hr h=>hbody f cdv A outer s H vs Q E hr h),b,i,n,mm⟩
end
section
variable {X:Cx}{CX:CXT}{x m:Str}{C:Addr}{ps:List Str}{sp:Sp}{k k':Nat}{e o:Expr}{es:List Expr}{ta:TE}{t:TA}{p pos apos:Pos}{E:XK}{ES:St→XK}
private theorem pe_mt {pl:Sem Bool}(he:PE X o ta)(c:Cls X.K C)(M:Mt X.prog X.w X.K X.mg X.base CX C m k ps sp)(hr:Room k' X.A)(hle:k≤k')(hx:Passes CX X E)(ha:PA X (e::es) t)
  (hst:starEach (e::es) X.env=(false,eval e X.env)::starEach es X.env:=by rfl) (hpl:∀pos,(backTo pos (starEach es X.env)).any (·.1)=false:=by intro _;rfl)
  (ht:eval (.Call (.Attribute o m apos) (e::es) [] pos) X.env=(do
   let ov←eval o X.env
   standAt apos.atName
   let (f,first) ←holding [ov] (getMethod ov m pl)
   callWith pos f first (backTo pos (starEach (e::es) X.env)) (backToKw pos (keywordEach [] X.env))):=by rfl) (hc:X.calm=true:=by rfl):
  PE X (.Call (.Attribute o m apos) (e::es) [] pos) (tMeth C m sp [] E ta t):=by
 obtain ⟨f,fd,a,b,me⟩:=M.ex
 exact pe_meth (hc:=hc) he c me a (hr.mono hle) b .nil hx ha hst (hpl _) ht
private theorem pe_mtS {pl:Sem Bool}(he:PE X o ta)(c:Cls X.K C)(M:Mt X.prog X.w X.K X.mg X.base CX C m k ps sp)(hr:Room k' X.A)(hle:k≤k')(hx:PassesS CX X ES)(ha:PA X (e::es) t)
  (hst:starEach (e::es) X.env=(false,eval e X.env)::starEach es X.env:=by rfl) (hpl:∀pos,(backTo pos (starEach es X.env)).any (·.1)=false:=by intro _;rfl)
  (ht:eval (.Call (.Attribute o m apos) (e::es) [] pos) X.env=(do
   let ov←eval o X.env
   standAt apos.atName
   let (f,first) ←holding [ov] (getMethod ov m pl)
   callWith pos f first (backTo pos (starEach (e::es) X.env)) (backToKw pos (keywordEach [] X.env))):=by rfl) (hc:X.calm=true:=by rfl):
  PE X (.Call (.Attribute o m apos) (e::es) [] pos) (tMethS C m sp ES ta t):=by
 obtain ⟨f,fd,a,b,me⟩:=M.ex
 exact pe_methS (hc:=hc) he c me a (hr.mono hle) b hx ha hst (hpl _) ht
private theorem pe_mt0 {pl:Sem Bool}(he:PE X o ta)(c:Cls X.K C)(M:Mt X.prog X.w X.K X.mg X.base CX C m k ps sp)(hr:Room k' X.A)(hle:k≤k')(hx:Passes CX X E)
  (ht:eval (.Call (.Attribute o m apos) [] [] pos) X.env=(do
   let ov←eval o X.env
   standAt apos.atName
   let (f,first) ←holding [ov] (getMethod ov m pl)
   callWith pos f first (backTo pos (starEach [] X.env)) (backToKw pos (keywordEach [] X.env))):=by rfl) (hc:X.calm=true:=by rfl):
  PE X (.Call (.Attribute o m apos) [] [] pos) (tMeth C m sp [] E ta tNil):=by
 obtain ⟨f,fd,a,b,me⟩:=M.ex
 exact pe_meth0 (hc:=hc) he c me a (hr.mono hle) b .nil hx ht
private theorem pe_mkr0 (M:Mkr X.prog X.w X.K X.mg X.base x C k ps sp)(hr:Room k' X.A)(hle:k+1≤k')(hg:Gl X x)(hd:(x==("__debug__" :Str))=false:=by decide) (hc:X.calm=true:=by rfl):PE X (.Call (.Name x p) [] [] pos) (tMake C sp [] E0 tNil):=by
 obtain ⟨f,fd,a,b,mk,mm⟩:=M.ex
 exact pe_make0 (hc:=hc) mk a (hr.mono hle) hg mm b .nil pass0 hd
private theorem pe_mkr (M:Mkr X.prog X.w X.K X.mg X.base x C k ps sp)(hr:Room k' X.A)(hle:k+1≤k')(hg:Gl X x)(ha:PA X (e::es) t)(hd:(x==("__debug__" :Str))=false:=by decide)
  (he:starEach (e::es) X.env=(false,eval e X.env)::starEach es X.env:=by rfl) (hpl:∀pos,(backTo pos (starEach es X.env)).any (·.1)=false:=by intro _;rfl) (hc:X.calm=true:=by rfl):PE X (.Call (.Name x p) (e::es) [] pos) (tMake C sp [] E0 t):=by
 obtain ⟨f,fd,a,b,mk,mm⟩:=M.ex
 exact pe_make (hc:=hc) mk a (hr.mono hle) hg mm b .nil pass0 ha hd he (hpl _)
private theorem pe_xi (M:XI X.prog X.w X.K X.mg X.base x C k ps sp)(hr:Room k' X.A)(hle:k+1≤k')(hg:Gl X x)(ha:PA X (e::es) t)(hd:(x==("__debug__" :Str))=false:=by decide)
  (he:starEach (e::es) X.env=(false,eval e X.env)::starEach es X.env:=by rfl) (hpl:∀pos,(backTo pos (starEach es X.env)).any (·.1)=false:=by intro _;rfl) (hc:X.calm=true:=by rfl):PE X (.Call (.Name x p) (e::es) [] pos) (tExcI C sp t):=by
 obtain ⟨c,f,fd,a,b,i,n,mm⟩:=M
 exact pe_excI (hc:=hc) c i n a (hr.mono hle) b hg mm ha hd he (hpl _)
private theorem pe_xp (M:XP X.K X.mg x C)(hg:Gl X x)(ha:PA X (e::es) t)(hd:(x==("__debug__" :Str))=false:=by decide)
  (he:starEach (e::es) X.env=(false,eval e X.env)::starEach es X.env:=by rfl) (hpl:∀pos,(backTo pos (starEach es X.env)).any (·.1)=false:=by intro _;rfl):PE X (.Call (.Name x p) (e::es) [] pos) (tExc C t):=
 pe_exc M.cl M.ei hg M.mg ha hd he (hpl _)
end
end L2
namespace L2
open PySem PySem.Spec PyProof.Rows Px
def clsV:V→Value
 | .ty n=>.type n
 | .ref a=>.ref a
 | _=>.none
def Clss (ts:List V):Prop:=∀v∈ts,(∃n,v=.ty n)∨∃a,v=.ref a
private theorem clss_vals:∀{ts:List V} {us:List Value},Clss ts→Vals ts us→us=ts.map clsV
 | _,_,_,.nil=>rfl
 | t::ts,u::us,h,.cons r q=>by
  rw [List.map_cons,←clss_vals (fun v hv=>h v (.tail _ hv)) q]
  congr 1
  rcases h t (.head _) with ⟨n,e⟩ | ⟨a,e⟩
  ·subst e;exact r
  ·subst e;exact r
section
variable {X:Cx}{pins:List (Addr ×Obj)}{σ:St}{H:Hp}{s:Shared}
end
section
variable {X:Cx}
end
end L2
namespace L2
open PySem PySem.Spec PyProof.Rows Px
section
variable {K:PySem.W.Frag}{h:Heap}{mg:Str→Option Value}{C f:Addr}{x m qual:Str}{st:Stmt}{ps:List Str}{od an:Option Addr}{sl:Array (Option Value)}{oc kV dc pm cd ct:Value}
private theorem mdf_mk (a:PySem.W.findIn K (.ref C) m=some (some (.ref f)))(fn:PySem.W.isFn K (.ref f)=true)(l:K.lookup f=some ⟨oc,od,.func (PySem.W.fnOf m qual (defArgs st) (defBody st) (defScope st) .none kV dc pm an cd ct),sl⟩)(c:PySem.W.codeIn K cd qual=true)(k:PySem.W.keepIn K (.ref f)=true)
  (b:∀(kV doc pm:Value) (an:Option Addr) (cdv ct:Value) (us:List Value),us.length=ps.length→bindArgs (PySem.W.fnOf m qual (defArgs st) (defBody st) (defScope st) .none kV doc pm an cdv ct) ⟨us,[]⟩=pure (ps.zip us)):Mdf K C m qual st ps:=
 ⟨_,_,fun_mk l c k,(fun_mk l c k).binds b,⟨a,fn,k⟩⟩
private theorem cls_mk (pg:PySem.W.plainGet K C Str.empty=true)(hd:PySem.W.hasDictIn K C=true)(po:PySem.W.plainOver K C=true)(sa:PySem.W.findIn K (.ref C) "__setattr__" =some (some (.builtin "object.__setattr__"))):Cls K C:=⟨pg,hd,po,sa⟩
private theorem mkd_mk (X:K.In h)(G:h.Ns mainGlobals mg)(n:PySem.W.nsIn K mainGlobals x=some (some (.ref C)))(mk:PySem.W.makesIn K C=true)(a:PySem.W.findIn K (.ref C) "__init__" =some (some (.ref f))) (fn:PySem.W.isFn K (.ref f)=true)
  (l:K.lookup f=some ⟨oc,od,.func (PySem.W.fnOf "__init__" qual (defArgs st) (defBody st) (defScope st) .none kV dc pm an cd ct),sl⟩) (c:PySem.W.codeIn K cd qual=true) (k:PySem.W.keepIn K (.ref f)=true) (kc:PySem.W.keepIn K (.ref C)=true)
  (b:∀(kV doc pm:Value) (an:Option Addr) (cdv ct:Value) (us:List Value),us.length=ps.length→bindArgs (PySem.W.fnOf "__init__" qual (defArgs st) (defBody st) (defScope st) .none kV doc pm an cdv ct) ⟨us,[]⟩=pure (ps.zip us)):Mkd K mg x C qual st ps:=
 ⟨_,_,fun_mk l c k,(fun_mk l c k).binds b,⟨mk,a,fn,kc⟩,PySem.W.mg_of X G n⟩
private theorem xcls_mk (q:xIn K C=true)(ov:xOver K C=true)(sa:PySem.W.findIn K (.ref C) "__setattr__" =some (some (.builtin "object.__setattr__"))) (ga:PySem.W.findIn K (.ref C) "__getattribute__" =some (some (.builtin "BaseException.__getattribute__"))) (gn:PySem.W.findIn K (.ref C) "__getattr__" =some none)
  (kp:PySem.W.keepIn K (.ref C)=true):XCls K C:=⟨q,ov,sa,ga,gn,kp⟩
private theorem xid_mk (X:K.In h)(G:h.Ns mainGlobals mg)(n:PySem.W.nsIn K mainGlobals x=some (some (.ref C)))(cl:XCls K C)(a:PySem.W.findIn K (.ref C) "__init__" =some (some (.ref f))) (fn:PySem.W.isFn K (.ref f)=true)
  (l:K.lookup f=some ⟨oc,od,.func (PySem.W.fnOf "__init__" qual (defArgs st) (defBody st) (defScope st) .none kV dc pm an cd ct),sl⟩) (c:PySem.W.codeIn K cd qual=true) (k:PySem.W.keepIn K (.ref f)=true)
  (b:∀(kV doc pm:Value) (an:Option Addr) (cdv ct:Value) (us:List Value),us.length=ps.length→bindArgs (PySem.W.fnOf "__init__" qual (defArgs st) (defBody st) (defScope st) .none kV doc pm an cdv ct) ⟨us,[]⟩=pure (ps.zip us)):XId K mg x C qual st ps:=
 ⟨cl,_,_,fun_mk l c k,(fun_mk l c k).binds b,a,fn,PySem.W.mg_of X G n⟩
private theorem by_name {R:Addr→Prop}(X:K.In h)(n:PySem.W.nsIn K mainGlobals x=some (some (.ref C)))(r:R C):∃C,R C:=⟨C,r⟩
end
end L2
namespace Px
open PySem PySem.W PySem.Builtin PySem.Builtin.ObjectAttr
private theorem fo_data {K:Frag}{C:Addr}{od:Option Obj}{name:Str}{a g:Value}(hc:(clsIn K C).isSome=true)(ha:findIn K (.ref C) name=some (some a))(hg:specialIn K a "__get__" =some (some g))
  (ht:takesIn K a=some true):findObj K C od name=some (.bind g a):=by
 obtain ⟨c,e⟩:=Option.isSome_iff_exists.mp hc
 unfold findObj
 rw [e,Option.bind_some,ha,Option.bind_some]
 simp [hg,ht]
section
variable {prog:Program}{w:World}{A:Around}{E:Value→Shared→Prop}{s:Shared}{K:Frag}{x D:Addr}{ox:Obj}{od:Option Obj}
private theorem xc_class {Q:Option Value→Shared→Prop}(X:K.In s.heap)(I:InstAt s.heap x ox D od)(hp:xOver K D=true)
  (hga:findIn K (.ref D) "__getattribute__" =some (some (.builtin "BaseException.__getattribute__"))) (hgn:findIn K (.ref D) "__getattr__" =some none)
  (ha:findIn K (.ref D) "__class__" =some (some (.builtin "object.__class__"))) (hn:specialIn K (.builtin "object.__class__") "__get__" =some (some (.builtin "getset_descriptor.__get__")))
  (htk:takesIn K (.builtin "object.__class__")=some true) (hm:mroIn K D (.type "object")=some true) (h:Q (some (.ref D)) {s with toks:=s.toks+1}):wpAny (model prog w) A (getAttr? (.ref x) "__class__") Q E s:=by
 have isB:=x_inst (M:=model prog w) (T:= "BaseException") X I hp (by decide)
 have cd:(clsIn K D).isSome=true:=by obtain ⟨c,hc,_⟩:=any_some hp;rw [hc];rfl
 have hf:findObj K D od "__class__" =some (.bind (.builtin "getset_descriptor.__get__") (.builtin "object.__class__")):=fo_data cd ha hn htk
 obtain ⟨hp',g,d,t,os⟩:=s
 have L0:=I.type (M:=model prog w)
 have L1:=looks_findIn (M:=model prog w) X hga
 have L2:=looks_findIn (M:=model prog w) X hgn
 have L3:=looks_find (M:=model prog w) X I hf
 have FB:=PySem.F.attrBase_ValueError
 have bi:=FB.ga.bind (.ref x)
 have kd:builtinKind "BaseException.__getattribute__" =some .slot:=by decide+kernel
 have sp:splitId "BaseException.__getattribute__" =some ("BaseException","__getattribute__"):=by decide+kernel
 unfold getAttr? getAttrBy? getAttrBy
 refine wpAny_bind (wpAny_mkText (wpAny_bind (wpAny_attempt (wpAny_holding (wpAny_bind (L0.at (wpAny_bind (L1.at ?_))))))))
 have nb:(onTheHeap (Value.ref D) && Value.builtin "BaseException.__getattribute__" ==Value.builtin "object.__getattribute__")=false:=by
  rw [show (Value.builtin "BaseException.__getattribute__" ==Value.builtin "object.__getattribute__")=false from by decide+kernel,Bool.and_false]
 dsimp only
 rw [nb,if_neg Bool.false_ne_true]
 unfold getAttrByItsOwn
 refine wpAny_bind ?_
 show wpAny _ _ (typeLookup (.ref D) "__getattr__") _ _ _
 refine L2.at ?_
 unfold callGetattribute
 rw [Bool.false_and,if_neg Bool.false_ne_true]
 unfold boundAndCalled
 refine wpAny_bind (wpAny_attempt (wpAny_holding ?_))
 rw [bi]
 refine wpAny_bind (wpAny_pure ?_)
 refine wpAny_call (codeAny_call_builtin FB.ga.plain PySem.F.entry_bexc_ga (@check_slot (model prog w) _ _ _ "BaseException.__getattribute__" "BaseException" "__getattribute__" (.ref x) [.str "__class__" t] [] _ kd sp isB (PySem.F.args_bexc_ga _ _) ?_))
 unfold Builtin.«object.__getattribute__»
 repeat (any_goals (first | assumption | with_reducible refine wpAny_bind (L0.at ?_) | with_reducible refine wpAny_bind (L3.at ?_) | wp_step))
 refine class_get X I hm ?_
 show wpAny _ _ (ret (.ref D)) _ _ _
 refine wpAny_pure ?_
 show wpAny _ _ (handedOut (.ref D)) _ _ _
 exact wpAny_pure (wpAny_pure h)
private theorem kitx_exc {K:Frag}{x D:Addr}{ox:Obj}{od:Option Obj}(hp:xOver K D=true)
  (hga:findIn K (.ref D) "__getattribute__" =some (some (.builtin "BaseException.__getattribute__"))) (hgn:findIn K (.ref D) "__getattr__" =some none)
  (ha:findIn K (.ref D) "__class__" =some (some (.builtin "object.__class__"))) (hn:specialIn K (.builtin "object.__class__") "__get__" =some (some (.builtin "getset_descriptor.__get__")))
  (htk:takesIn K (.builtin "object.__class__")=some true) (hm:mroIn K D (.type "object")=some true):KitX K (.ref x) (.ref D) (fun h=>InstAt h x ox D od) where
 ty:=fun _ _ _ I=>I.type
 it:=fun _ _ X _=>by
  obtain ⟨c,hc,_⟩:=any_some hp
  unfold clsIn at hc
  split at hc
  ·rename_i ho
   intro A' Q' E' s' k q
   unfold isType loadHead
   exact wpAny_bind (wpAny_loadPart (k _ _ (X _ _ ho)) (wpAny_pure q))
  ·cases hc
 ne:=fun h tp dd its n sl X ht=>by
  obtain ⟨c,hc,_⟩:=any_some hp
  refine Bool.eq_false_iff.mpr fun q=>?_
  have e:D=tp:=Value.ref.inj (beq_iff_eq.mp q)
  subst e
  unfold clsIn at hc
  split at hc
  ·rename_i ho
   have z:=(X _ _ ho).symm.trans ht
   cases z
  ·cases hc
 ca:=fun X I k=>xc_class X I hp hga hgn ha hn htk hm k
end
end Px
namespace L2
open PySem PySem.Spec PyProof.Rows Px
structure XKind (K:PySem.W.Frag)(C:Addr):Prop where
 cl:XCls K C
 ha:PySem.W.findIn K (.ref C) "__class__" =some (some (.builtin "object.__class__"))
 hn:PySem.W.specialIn K (.builtin "object.__class__") "__get__" =some (some (.builtin "getset_descriptor.__get__"))
 ht:PySem.W.takesIn K (.builtin "object.__class__")=some true
 hm:PySem.W.mroIn K C (.type "object")=some true
section
variable {X:Cx}{pins:List (Addr ×Obj)}{σ:St}{H:Hp}{s:Shared}{a C:Addr}{od:Option Addr}{fr:Bool}
end
section
variable {X:Cx}{x n:Str}{cv:Value}{body suite:List Stmt}{b₀:Stmt}{np hpos pos:Pos}{tb:(St→XK)→TS}{ts:TS}
end
end L2
namespace L2
open PySem PySem.Spec PyProof.Rows
section
variable {X:Cx}{x y1 y2:Str}{scope:Scope}{j1 j2:Nat}{c1 c2:Addr}
private theorem CompScope.two (clos:closureFor scope X.env=pure [(y1,c1),(y2,c2)])(kind:scope.kind=.function)(nc:∀y∈scope.names,y.2≠ .cell)(nm:∀y∈scope.names,y.2=.local→scope.names.lookup y.1=some .local)(tgt:scope.names.lookup x=some .local)
  (n1:x≠y1) (n2:x≠y2) (n12:y1≠y2) (e1:X.env.cells.lookup y1=some c1) (e2:X.env.cells.lookup y2=some c2) (only:∀q∈scope.names,q.2=.free→q.1=y1∨q.1=y2) (h1:X.N[j1]? =some y1) (h2:X.N[j2]? =some y2)
  (k1:X.env.kindOf y1=some .cell∨X.env.kindOf y1=some .free) (k2:X.env.kindOf y2=some .cell∨X.env.kindOf y2=some .free)
  (r1:(relabel scope X.env).names.lookup y1=some .cell∨(relabel scope X.env).names.lookup y1=some .free) (r2:(relabel scope X.env).names.lookup y2=some .cell∨(relabel scope X.env).names.lookup y2=some .free):
  CompScope X x [y1,y2] [j1,j2] scope [(y1,c1),(y2,c2)] where
 clos:=clos
 kind:=kind
 nocell:=nc
 names:=nm
 tgt:=tgt
 nd:=by simp [n1,n2,n12]
 sub:=fun p hp=>by
  rcases List.mem_cons.mp hp with z | z
  ·rw [z];exact e1
  ·rw [List.mem_singleton.mp z];exact e2
 has:=fun p hp hk=>by
  have key:∀q:Str ×NameKind,q∈scope.names→q.2=.free→q.1∈ [(y1,c1),(y2,c2)].map (·.1):=fun q hq z=>by
   rcases only q hq z with z | z <;> simp [z]
  obtain ⟨q,hq,e,h | h⟩:=relabel_mem hp
  ·subst h
   rcases hk with hk | hk
   ·exact absurd hk (nc _ hq)
   ·exact key _ hq hk
  ·rw [e];exact key _ hq h
 fr:=fun i z e=>by
  match i,e with
  | 0,e=>cases e;exact ⟨j1,rfl,h1,k1,r1⟩
  | 1,e=>cases e;exact ⟨j2,rfl,h2,k2,r2⟩
  | i+2,e=>simp at e
 len:=rfl
end
end L2
namespace L2
open PySem PySem.Spec PyProof.Rows
section
variable {P:Program}{W:World}{A:Around}{E:Value→Shared→Prop}{z:Shared}
private theorem HndS.by {A:Around}{h h':Heap}(hh:HndS A h)(k:∀e,A.handled=some (.ref e)→∀(o:Obj),h.get? e=some o→h'.get? e=some o):HndS A.in1 h':=by
 rcases hh with hh | ⟨e,o,hh,ge,q⟩
 ·exact .inl hh
 ·exact .inr ⟨e,o,hh,k e hh o ge,q⟩
private theorem draw_tup {j t:Addr}{n:Nat}{us:Array Value}{v:Value}{Q:Value→Shared→Prop}(hj:z.heap.IsTupleIter j t n)(ht:z.heap.IsTuple t us)(hv:us[n]? =some v)
  (q:∀g,g.IsTupleIter j t (n+1)→Heap.SameBut j z.heap g→Q v {z with heap:=g}):wpAny (model P W) A (Builtin.SmallTypes.nextOf (.ref j)) Q E z:=by
 obtain ⟨oj,ej,cj,dj⟩:=id hj;obtain ⟨ot,et,_,nt,dt⟩:=ht;unfold Builtin.SmallTypes.nextOf
 refine wpAny_bind (wpAny_callSpecial?_slot (name:=Str.ofString "__next__") hj.typeIs F.slot_tuple_iterator_next (wpAny_call_entry F.slot_tuple_iterator_next hj.typeIs F.entry_tuple_iterator_next ?_ (F.args_tuple_iterator_next_1 _)))
 show wpAny _ _ (field (.ref j) 0 >>=_) _ _ z;refine wpAny_bind (wpAny_field ej dj (x:=.ref t) rfl ?_)
 show wpAny _ _ (if (Value.ref t==Value.none)=true then _ else _) _ _ z;rw [if_neg (show¬((Value.ref t==Value.none)=true) from Bool.false_ne_true)]
 show wpAny _ _ (field (.ref j) 1 >>=_) _ _ z;refine wpAny_bind (wpAny_field ej dj (x:=.int n 0) rfl ?_)
 show wpAny _ _ (seqItems? (.ref t) >>=_) _ _ z;refine wpAny_bind (wpAny_seqItems et dt ?_);simp only [Int.toNat_natCast,hv]
 refine wpAny_bind (wpAny_setField ej dj (by simp) (wpAny_pure ⟨v,rfl,wpAny_pure (q _ ⟨_,Heap.get?_update_self _ ej (Obj.isFreed_of_fields (Obj.data_mapFields dj _)),(Obj.cls_mapFields ..).trans cj,by rw [Obj.data_mapFields dj];simp [rawInt]⟩ (Heap.SameBut.update ..))⟩))
private theorem draw_end {j t:Addr}{n:Nat}{us:Array Value}{Q:Value→Shared→Prop}(hh:HndS A z.heap)(nit:∀e,A.handled=some (.ref e)→e≠j)(hj:z.heap.IsTupleIter j t n)(ht:z.heap.IsTuple t us)(hv:us[n]? =none)
  (q:∀g e,Heap.ExtBut j z.heap g→(∃o,g.get? e=some o∧o.cls=.type "StopIteration")→E (.ref e) {z with heap:=g}):wpAny (model P W) A (Builtin.SmallTypes.nextOf (.ref j)) Q E z:=by
 obtain ⟨oj,ej,cj,dj⟩:=id hj;obtain ⟨ot,et,_,nt,dt⟩:=ht;unfold Builtin.SmallTypes.nextOf
 refine wpAny_bind (wpAny_callSpecial?_slot (name:=Str.ofString "__next__") hj.typeIs F.slot_tuple_iterator_next (wpAny_call_entry F.slot_tuple_iterator_next hj.typeIs F.entry_tuple_iterator_next ?_ (F.args_tuple_iterator_next_1 _)))
 show wpAny _ _ (field (.ref j) 0 >>=_) _ _ z;refine wpAny_bind (wpAny_field ej dj (x:=.ref t) rfl ?_)
 show wpAny _ _ (if (Value.ref t==Value.none)=true then _ else _) _ _ z;rw [if_neg (show¬((Value.ref t==Value.none)=true) from Bool.false_ne_true)]
 show wpAny _ _ (field (.ref j) 1 >>=_) _ _ z;refine wpAny_bind (wpAny_field ej dj (x:=.int n 0) rfl ?_)
 show wpAny _ _ (seqItems? (.ref t) >>=_) _ _ z;refine wpAny_bind (wpAny_seqItems et dt ?_);simp only [Int.toNat_natCast,hv]
 refine wpAny_bind (wpAny_rule (wpAny_bind (wpAny_setField ej dj (by simp) ?_)))
 refine stop_h (A:=A.in1) ?_ fun a h' ty up=>?_
 ·rcases hh with hh | ⟨e,o,hh,ge,q⟩
  ·exact .inl hh
  ·exact .inr ⟨e,o,hh,by rw [Heap.get?_update_ne _ _ _ _ (nit e hh)];exact ge,q⟩
 ·exact q h' a (fun b o n q=>up b o (by rw [Heap.get?_update_ne _ _ _ _ n];exact q)) ty
structure ZSt (g:Heap)(y a o i k p q:Addr)(n:Nat)(xs us:Array Value)(f:Value):Prop where
 zp:IsZip g y a o f
 its:IsPair g a (.ref i) (.ref k)
 own:∃b c,IsPair g o b c
 i1:g.IsTupleIter i p n
 i2:g.IsTupleIter k q n
 t1:g.IsTuple p xs
 t2:g.IsTuple q us
private theorem zip_turn {y a o i k p q:Addr}{n:Nat}{xs us:Array Value}{u v:Value}{Q:Option Value→Shared→Prop}(D:ZipApart y a o i k p q)(S:ZSt z.heap y a o i k p q n xs us .none)(hu:xs[n]? =some u)(hv:us[n]? =some v)
  (fin:∀g,ZSt g y a o i k p q (n+1) xs us (rawInt z.heap.objs.size)→IsPair g z.heap.objs.size u v→g.objs.size=z.heap.objs.size+1→(∀c r,c≠y→c≠o→c≠i→c≠k→z.heap.get? c=some r→g.get? c=some r)→Q (some (.ref z.heap.objs.size)) {z with heap:=g}):
  wpAny (model P W) A (pyNext (.ref y)) Q E z:=by
 obtain ⟨hz,ha,⟨b,c,ho⟩,hi,hk,hp,hq⟩:=S
 have tz:z.TypeIs (.ref y) "zip" :=⟨_,hz,rfl⟩
 have main:wpAny (model P W) A.in1 (Builtin.«zip.__next__» ⟨[.ref y],[]⟩) (fun r s'=>∃v,r=.done (.ret v)∧Q (some v) s') (fun e s'=>True∧False) z:=by
  show wpAny _ _ (field (.ref y) 2 >>=_) _ _ _;refine wpAny_bind (wpAny_field hz rfl (x:=.bool false) rfl ?_)
  show wpAny _ _ (field (.ref y) 3 >>=_) _ _ _;refine wpAny_bind (wpAny_field hz rfl (x:=.ref a) rfl ?_);refine wpAny_bind (wpAny_seqItems ha rfl ?_)
  show wpAny _ _ (Builtin.SmallTypes.ownedTupleIsFree (.ref y) >>=_) _ _ _;refine wpAny_bind ?_;unfold Builtin.SmallTypes.ownedTupleIsFree
  refine wpAny_bind (wpAny_field hz rfl (x:=.none) rfl (wpAny_pure ?_));simp only [if_true];refine wpAny_bind (wpAny_rule ?_);refine wpAny_bind (wpAny_field hz rfl (x:=.ref o) rfl ?_)
  refine wpAny_bind (wpAny_setField_rec hz (by simp) fun g1 hz1 s1=>?_);replace hz1:IsZip g1 y a o .ellipsis:=hz1;refine wpAny_bind ?_;simp only [List.zipIdx_cons,List.zipIdx_nil,List.forIn_cons,List.forIn_nil]
  refine wpAny_bind (wpAny_bind (wpAny_onRaise ?_));show wpAny _ _ (Builtin.SmallTypes.nextOf (.ref i) >>=_) _ _ _
  refine wpAny_bind (draw_tup (hi.extBut s1.extBut D.i1z) (hp.extBut s1.extBut D.l1z) hu fun g2 i2 s2=>wpAny_pure ?_)
  have ho2:IsPair g2 o b c:=s2.extBut _ _ D.TOi1 (s1.extBut _ _ D.TOz ho)
  refine wpAny_bind (wpAny_seqItems ho2 rfl ?_);refine wpAny_bind (wpAny_updateSeq_pair ho2 fun g3 ho3 s3=>?_);replace ho3:IsPair g3 o u c:=ho3;refine wpAny_bind (wpAny_letGo (wpAny_pure ?_))
  refine wpAny_bind (wpAny_bind (wpAny_onRaise ?_));show wpAny _ _ (Builtin.SmallTypes.nextOf (.ref k) >>=_) _ _ _
  refine wpAny_bind (draw_tup (((hk.extBut s1.extBut D.i2z).extBut s2.extBut D.i12.symm).extBut s3.extBut D.TOi2.symm) (((hq.extBut s1.extBut D.l2z).extBut s2.extBut D.l2i1).extBut s3.extBut D.l2TO) hv fun g4 k4 s4=>wpAny_pure ?_)
  have ho4:IsPair g4 o u c:=s4.extBut _ _ D.TOi2 ho3
  refine wpAny_bind (wpAny_seqItems ho4 rfl ?_);refine wpAny_bind (wpAny_updateSeq_pair ho4 fun g5 ho5 s5=>?_);replace ho5:IsPair g5 o u v:=ho5;refine wpAny_bind (wpAny_letGo (wpAny_pure (wpAny_pure ?_)))
  refine wpAny_bind (wpAny_seqItems ho5 rfl ?_);refine wpAny_bind (wpAny_newTuple ?_)
  have sz:g5.objs.size=z.heap.objs.size:=by rw [s5.1,s4.1,s3.1,s2.1,s1.1]
  have hz5:IsZip g5 y a o .ellipsis:=s5.extBut _ _ D.TOz.symm (s4.extBut _ _ D.i2z.symm (s3.extBut _ _ D.TOz.symm (s2.extBut _ _ D.i1z.symm hz1)))
  have up5:∀c r,c≠y→c≠o→c≠i→c≠k→z.heap.get? c=some r→g5.get? c=some r:=fun c r c1 c2 c3 c4 e=>s5.extBut _ _ c2 (s4.extBut _ _ c4 (s3.extBut _ _ c2 (s2.extBut _ _ c3 (s1.extBut _ _ c1 e))))
  have hi5:g5.IsTupleIter i p (n+1):=((i2.extBut s3.extBut D.TOi1.symm).extBut s4.extBut D.i12).extBut s5.extBut D.TOi1.symm
  have hk5:g5.IsTupleIter k q (n+1):=k4.extBut s5.extBut D.TOi2.symm
  have ly:y < g5.objs.size:=Heap.lt_size hz5
  show wpAny _ _ (Builtin.SmallTypes.ownedTupleHandOut (.ref y) (.ref g5.objs.size) >>=_) _ _ _;refine wpAny_bind ?_;unfold Builtin.SmallTypes.ownedTupleHandOut
  have hz6:IsZip (g5.push {cls:=.type "tuple",data:=.seq #[u,v]}) y a o .ellipsis:=Heap.get?_push_of_some _ hz5
  refine wpAny_bind (wpAny_setField_rec hz6 (by simp) fun g7 hz7 s7=>?_);replace hz7:IsZip g7 y a o (rawInt g5.objs.size):=hz7
  refine wpAny_setField_rec hz7 (by simp) fun g8 hz8 s8=>?_;replace hz8:IsZip g8 y a o (rawInt g5.objs.size):=hz8
  have up:∀c r,c≠y→g5.get? c=some r→g8.get? c=some r:=fun c r c1 e=>s8.extBut _ _ c1 (s7.extBut _ _ c1 (Heap.get?_push_of_some _ e))
  have new8:IsPair g8 g5.objs.size u v:=s8.extBut _ _ (Nat.ne_of_gt ly) (s7.extBut _ _ (Nat.ne_of_gt ly) (Heap.get?_push_size _ rfl))
  have sz8:g8.objs.size=g5.objs.size+1:=by rw [s8.1,s7.1,Heap.size_push]
  rw [sz] at hz8 new8 sz8
  refine wpAny_pure ⟨_,rfl,?_⟩;show Q (some (.ref g5.objs.size)) _;rw [sz]
  have upz:∀c r,c≠y→c≠o→c≠i→c≠k→z.heap.get? c=some r→g8.get? c=some r:=fun c r c1 c2 c3 c4 e=>up c r c1 (up5 c r c1 c2 c3 c4 e)
  refine fin g8 ⟨hz8,upz _ _ D.TIz D.TITO D.TIi1 D.TIi2 ha,⟨_,_,up _ _ D.TOz ho5⟩,?_,?_,?_,?_⟩ new8 sz8 upz
  ·obtain ⟨r,e,x⟩:=hi5;exact ⟨r,up _ r D.i1z e,x⟩
  ·obtain ⟨r,e,x⟩:=hk5;exact ⟨r,up _ r D.i2z e,x⟩
  ·obtain ⟨r,e,x⟩:=hp;exact ⟨r,upz _ r D.l1z D.l1TO D.l1i1 D.l1i2 e,x⟩
  ·obtain ⟨r,e,x⟩:=hq;exact ⟨r,upz _ r D.l2z D.l2TO D.l2i1 D.l2i2 e,x⟩
 unfold pyNext
 exact wpAny_bind (wpAny_attempt (wpAny_callSpecial?_slot (name:=Str.ofString "__next__") tz F.slot_zip_next (wpAny_call_entry F.slot_zip_next tz F.entry_zip_next (wpAny_mono main (fun r s' ⟨v,e,h⟩=>⟨v,e,wpAny_pure h⟩) fun _ _ x=>x.2.elim) (F.args_zip_next_1 _))))
private theorem zip_stop {y a o i k p q:Addr}{n:Nat}{xs us:Array Value}{Q:Option Value→Shared→Prop}(hh:HndS A z.heap)(nit:∀e,A.handled=some (.ref e)→e≠y∧e≠o∧e≠i∧e≠k)(D:ZipApart y a o i k p q)(S:ZSt z.heap y a o i k p q n xs us .none)(he:xs[n]? =none∨us[n]? =none)
  (fin:∀g,(∀c r,c≠y→c≠o→c≠i→c≠k→z.heap.get? c=some r→g.get? c=some r)→Q none {z with heap:=g}):wpAny (model P W) A (pyNext (.ref y)) Q E z:=by
 obtain ⟨hz,ha,⟨b,c,ho⟩,hi,hk,hp,hq⟩:=S
 have tz:z.TypeIs (.ref y) "zip" :=⟨_,hz,rfl⟩
 have main:wpAny (model P W) A.in1 (Builtin.«zip.__next__» ⟨[.ref y],[]⟩) (fun _ _=>False) (fun e s'=>∃g x,e=.ref x∧s'={z with heap:=g}∧(∀c r,c≠y→c≠o→c≠i→c≠k→z.heap.get? c=some r→g.get? c=some r)∧∃r,g.get? x=some r∧r.cls=.type "StopIteration") z:=by
  show wpAny _ _ (field (.ref y) 2 >>=_) _ _ _;refine wpAny_bind (wpAny_field hz rfl (x:=.bool false) rfl ?_)
  show wpAny _ _ (field (.ref y) 3 >>=_) _ _ _;refine wpAny_bind (wpAny_field hz rfl (x:=.ref a) rfl ?_);refine wpAny_bind (wpAny_seqItems ha rfl ?_)
  show wpAny _ _ (Builtin.SmallTypes.ownedTupleIsFree (.ref y) >>=_) _ _ _;refine wpAny_bind ?_;unfold Builtin.SmallTypes.ownedTupleIsFree
  refine wpAny_bind (wpAny_field hz rfl (x:=.none) rfl (wpAny_pure ?_));simp only [if_true];refine wpAny_bind (wpAny_rule ?_);refine wpAny_bind (wpAny_field hz rfl (x:=.ref o) rfl ?_)
  refine wpAny_bind (wpAny_setField_rec hz (by simp) fun g1 hz1 s1=>?_);replace hz1:IsZip g1 y a o .ellipsis:=hz1;refine wpAny_bind ?_;simp only [List.zipIdx_cons,List.zipIdx_nil,List.forIn_cons,List.forIn_nil]
  refine wpAny_bind (wpAny_bind (wpAny_onRaise ?_));show wpAny _ _ (Builtin.SmallTypes.nextOf (.ref i) >>=_) _ _ _
  cases hu:xs[n]? with
  | none=>
   refine wpAny_bind (draw_end (A:=A.in1) (HndS.by hh fun e he o q=>s1.extBut _ _ (nit e he).1 q) (fun e he=>(nit e he).2.2.1) (hi.extBut s1.extBut D.i1z) (hp.extBut s1.extBut D.l1z) hu fun g2 e s2 he2=>?_)
   obtain ⟨r,er,cr⟩:=he2
   have hz2:IsZip g2 y a o .ellipsis:=s2 _ _ D.i1z.symm hz1
   have ne:e≠y:=fun x=>by subst x;rw [hz2] at er;cases er;simp at cr
   exact wpAny_setField_rec hz2 (by simp) fun g3 _ s3=>⟨g3,e,rfl,rfl,fun c r c1 _ c3 _ x=>s3.extBut _ _ c1 (s2 _ _ c3 (s1.extBut _ _ c1 x)),r,s3.extBut _ _ ne er,cr⟩
  | some u=>
   have hv:us[n]? =none:=he.elim (fun z=>by rw [hu] at z;cases z) id
   refine wpAny_bind (draw_tup (hi.extBut s1.extBut D.i1z) (hp.extBut s1.extBut D.l1z) hu fun g2 i2 s2=>wpAny_pure ?_)
   have ho2:IsPair g2 o b c:=s2.extBut _ _ D.TOi1 (s1.extBut _ _ D.TOz ho)
   refine wpAny_bind (wpAny_seqItems ho2 rfl ?_);refine wpAny_bind (wpAny_updateSeq_pair ho2 fun g3 ho3 s3=>?_);refine wpAny_bind (wpAny_letGo (wpAny_pure ?_))
   refine wpAny_bind (wpAny_bind (wpAny_onRaise ?_));show wpAny _ _ (Builtin.SmallTypes.nextOf (.ref k) >>=_) _ _ _
   refine wpAny_bind (draw_end (A:=A.in1) (HndS.by hh fun e he o q=>s3.extBut _ _ (nit e he).2.1 (s2.extBut _ _ (nit e he).2.2.1 (s1.extBut _ _ (nit e he).1 q))) (fun e he=>(nit e he).2.2.2) (((hk.extBut s1.extBut D.i2z).extBut s2.extBut D.i12.symm).extBut s3.extBut D.TOi2.symm) (((hq.extBut s1.extBut D.l2z).extBut s2.extBut D.l2i1).extBut s3.extBut D.l2TO) hv fun g4 e s4 he4=>?_)
   obtain ⟨r,er,cr⟩:=he4
   have hz4:IsZip g4 y a o .ellipsis:=s4 _ _ D.i2z.symm (s3.extBut _ _ D.TOz.symm (s2.extBut _ _ D.i1z.symm hz1))
   have ne:e≠y:=fun x=>by subst x;rw [hz4] at er;cases er;simp at cr
   exact wpAny_setField_rec hz4 (by simp) fun g5 _ s5=>⟨g5,e,rfl,rfl,fun c r c1 c2 c3 c4 x=>s5.extBut _ _ c1 (s4 _ _ c4 (s3.extBut _ _ c2 (s2.extBut _ _ c3 (s1.extBut _ _ c1 x)))),r,s5.extBut _ _ ne er,cr⟩
 unfold pyNext
 refine wpAny_bind (wpAny_attempt (wpAny_callSpecial?_slot (name:=Str.ofString "__next__") tz F.slot_zip_next (wpAny_call_entry F.slot_zip_next tz F.entry_zip_next (wpAny_mono main (fun _ _ x=>x.elim) fun e s' h=>?_) (F.args_zip_next_1 _))))
 obtain ⟨g,x,rfl,rfl,up,r,er,cr⟩:=h
 exact wpAny_bind (wpAny_isInstance (T:= "StopIteration") (b:=true) ⟨r,er,cr⟩ isSubtype_stop (wpAny_pure (fin _ up)))
abbrev tz1 (g:Heap)(p:Addr):Heap:=g.push {cls:=.type "tuple_iterator",data:=.fields #[.ref p,.int 0 0]}
abbrev tz2 (g:Heap)(p q:Addr):Heap:=(tz1 g p).push {cls:=.type "tuple_iterator",data:=.fields #[.ref q,.int 0 0]}
abbrev tz3 (g:Heap)(p q:Addr):Heap:=(tz2 g p q).push {cls:=.type "tuple",data:=.seq #[.ref g.objs.size,.ref (tz1 g p).objs.size]}
abbrev tz4 (g:Heap)(p q:Addr):Heap:=(tz3 g p q).push {cls:=.type "tuple",data:=.seq #[.none,.none]}
abbrev tz5 (g:Heap)(p q:Addr):Heap:=(tz4 g p q).push {cls:=.type "zip",data:=.fields #[.none,.bool false,.bool false,.ref (tz2 g p q).objs.size,.ref (tz3 g p q).objs.size]}
private theorem zip_made {p q:Addr}{xs us:Array Value}{Q:Value→Shared→Prop}(hp:z.heap.IsTuple p xs)(hq:z.heap.IsTuple q us)
  (fin:∀g,ZSt g (z.heap.objs.size+4) (z.heap.objs.size+2) (z.heap.objs.size+3) z.heap.objs.size (z.heap.objs.size+1) p q 0 xs us .none→g.objs.size=z.heap.objs.size+5→(∀c r,z.heap.get? c=some r→g.get? c=some r)→Q (.ref (z.heap.objs.size+4)) {z with heap:=g}):
  wpAny (model P W) A (call (.type "zip") [.ref p,.ref q]) Q E z:=by
 have M:Meets (Builtin.«zip.__new__» ⟨[.type "zip",.ref p,.ref q],[]⟩) (fun _ R s=>s.heap.IsTuple p xs∧s.heap.IsTuple q us∧R (.ok (.ret (.ref (tz4 s.heap p q).objs.size))) {s with heap:=tz5 s.heap p q}):=
  .of_wp fun prog w A R s h=>by
   obtain ⟨hp0,g,d,tk,os⟩:=s;obtain ⟨h1,h2,h⟩:=h
   have hsub:=sub_zip
   have L1:Heap.IsTuple (Shared.heap ⟨hp0,g,d,tk,os⟩) p xs:=h1
   have L2:Heap.IsTuple (Shared.heap ⟨hp0.push {cls:=.type "tuple_iterator",data:=.fields #[.ref p,.int 0 0]},g,d,tk,os⟩) q us:=by
    obtain ⟨r,e,x⟩:=h2;exact ⟨r,Heap.get?_push_of_some _ e,x⟩
   wp_walk using wpAny_pyIter_tuple L1,wpAny_pyIter_tuple L2
   exact ⟨_,rfl,h⟩
 have n1:(tz1 z.heap p).objs.size=z.heap.objs.size+1:=Heap.size_push ..
 have n2:(tz2 z.heap p q).objs.size=z.heap.objs.size+2:=by rw [Heap.size_push,n1]
 have n3:(tz3 z.heap p q).objs.size=z.heap.objs.size+3:=by rw [Heap.size_push,n2]
 have n4:(tz4 z.heap p q).objs.size=z.heap.objs.size+4:=by rw [Heap.size_push,n3]
 have n5:(tz5 z.heap p q).objs.size=z.heap.objs.size+5:=by rw [Heap.size_push,n4]
 have a5:(tz5 z.heap p q).get? (tz4 z.heap p q).objs.size=some _:=Heap.get?_push_size _ rfl
 have a4:(tz5 z.heap p q).get? (tz3 z.heap p q).objs.size=some _:=Heap.get?_push_of_some _ (Heap.get?_push_size _ rfl)
 have a3:(tz5 z.heap p q).get? (tz2 z.heap p q).objs.size=some _:=Heap.get?_push_of_some _ (Heap.get?_push_of_some _ (Heap.get?_push_size _ rfl))
 have a2:(tz5 z.heap p q).get? (tz1 z.heap p).objs.size=some _:=Heap.get?_push_of_some _ (Heap.get?_push_of_some _ (Heap.get?_push_of_some _ (Heap.get?_push_size _ rfl)))
 have a1:(tz5 z.heap p q).get? z.heap.objs.size=some _:=Heap.get?_push_of_some _ (Heap.get?_push_of_some _ (Heap.get?_push_of_some _ (Heap.get?_push_of_some _ (Heap.get?_push_size _ rfl))))
 have up:∀c r,z.heap.get? c=some r→(tz5 z.heap p q).get? c=some r:=fun c r x=>Heap.get?_push_of_some _ (Heap.get?_push_of_some _ (Heap.get?_push_of_some _ (Heap.get?_push_of_some _ (Heap.get?_push_of_some _ x))))
 rw [n2,n3,n4] at a5
 rw [n1,n2] at a3
 rw [n3] at a4
 rw [n1] at a2
 refine callType_new F.called_zip (by decide) (F.typeCall_zip_2 _ _) (F.newCall_zip_2 _ _) (fun obj=>F.args_object_init_3 obj _ _) F.entry_zip_new M ⟨hp,hq,?_⟩
 show _∧_
 rw [n4]
 refine ⟨⟨_,a5,rfl⟩,fin _ ⟨a5,a3,⟨_,_,a4⟩,⟨_,a1,rfl,rfl⟩,⟨_,a2,rfl,rfl⟩,?_,?_⟩ n5 up⟩
 ·obtain ⟨r,e,x⟩:=hp;exact ⟨r,up _ _ e,x⟩
 ·obtain ⟨r,e,x⟩:=hq;exact ⟨r,up _ _ e,x⟩
end
structure ZI (g:Heap)(y a o i k p q:Addr)(n:Nat)(f:Value):Prop where
 zp:IsZip g y a o f
 its:IsPair g a (.ref i) (.ref k)
 own:∃b c,IsPair g o b c
 i1:g.IsTupleIter i p n
 i2:g.IsTupleIter k q n
private theorem ZSt.zi {g:Heap}{y a o i k p q:Addr}{n:Nat}{xs us:Array Value}{f:Value}(S:ZSt g y a o i k p q n xs us f):ZI g y a o i k p q n f:=⟨S.zp,S.its,S.own,S.i1,S.i2⟩
def Itz (K:PySem.W.Frag)(p q:Addr)(xs us:List V):It:=
 ⟨fun n H=>SqT K H p xs∧SqT K H q us∧n < min xs.length us.length,fun n H v H'=>∃(T:Addr) (x u:V),H T=none∧xs[n]? =some x∧us[n]? =some u∧v=.ref T∧H'=upd H T (.tup [x,u]),fun n H=>SqT K H p xs∧SqT K H q us∧min xs.length us.length≤n⟩
private theorem turn_zip {P:Program}{w:World}{K:PySem.W.Frag}{elts:List Expr}{x1:Nat}{tpos:Pos}{y a o i k p q:Addr}{xs us:List V}(D:ZipApart y a o i k p q):
  Turn P w K (.Tuple elts x1 tpos) (Itz K p q xs us) [y,a,o,i,k] y (fun n h=>ZI h y a o i k p q n .none) where
 mem:=by simp
 obj:=fun n h st b hb=>by
  obtain ⟨hz,ha,⟨b1,b2,ho⟩,⟨r1,e1,_,d1⟩,⟨r2,e2,_,d2⟩⟩:=st
  simp only [List.mem_cons,List.not_mem_nil,or_false] at hb
  rcases hb with rfl | rfl | rfl | rfl | rfl
  ·exact ⟨_,hz,fun v z=>by cases z⟩
  ·exact ⟨_,ha,fun v z=>by cases z⟩
  ·exact ⟨_,ho,fun v z=>by cases z⟩
  ·exact ⟨_,e1,fun v z=>by rw [d1] at z;cases z⟩
  ·exact ⟨_,e2,fun v z=>by rw [d2] at z;cases z⟩
 keep:=fun n h h' st kp=>by
  obtain ⟨hz,ha,⟨b1,b2,ho⟩,⟨r1,e1,x1⟩,⟨r2,e2,x2⟩⟩:=st
  exact ⟨kp y (by simp) _ hz,kp a (by simp) _ ha,⟨b1,b2,kp o (by simp) _ ho⟩,⟨r1,kp i (by simp) _ e1,x1⟩,⟨r2,kp k (by simp) _ e2,x2⟩⟩
 item:=by
  intro X hP hw hK hc n pins s σ H E I hf st hg
  subst hP hw hK
  obtain ⟨hp,hq,hn⟩:=hg
  obtain ⟨its,r1,T1,z1⟩:=I.tuple hp
  obtain ⟨jts,r2,T2,z2⟩:=I.tuple hq
  have hx:xs[n]? =some xs[n]:=List.getElem?_eq_getElem (by omega)
  have hu:us[n]? =some us[n]:=List.getElem?_eq_getElem (by omega)
  obtain ⟨v1,e1,q1⟩:=r1.get hx
  obtain ⟨v2,e2,q2⟩:=r2.get hu
  have fy:=hf y (by simp)
  have fa:=hf a (by simp)
  have fo:=hf o (by simp)
  have fi:=hf i (by simp)
  have fk:=hf k (by simp)
  have S:ZSt s.heap y a o i k p q n its.toArray jts.toArray .none:=⟨st.zp,st.its,st.own,st.i1,st.i2,T1,T2⟩
  refine zip_turn D S (u:=v1) (v:=v2) (by simpa using e1) (by simpa using e2) fun g Sg new sz up=>?_
  have hT:H s.heap.objs.size=none:=I.hok.fresh (Nat.le_refl _)
  have inch:∀{b:Addr},H b≠none→b≠y∧b≠o∧b≠i∧b≠k:=fun {b} h=>⟨fun z=>h (by rw [z];exact fy.1),fun z=>h (by rw [z];exact fo.1),fun z=>h (by rw [z];exact fi.1),fun z=>h (by rw [z];exact fk.1)⟩
  have hok:HOk X.prog X.w (upd H s.heap.objs.size (.tup [xs[n],us[n]])) g:=fun b u e=>by
   by_cases hb:b=s.heap.objs.size
   ·subst hb
    rw [upd_same] at e
    cases e
    refine ⟨by simp only [List.length_cons,List.length_nil];rw [sizeLine_eq];decide,[v1,v2],.cons q1 (.cons q2 .nil),⟨_,new,rfl,_,rfl⟩⟩
   ·rw [upd_ne hb] at e
    refine (I.hok b u e).stay (fun c r hc q=>?_) (fun c q=>by rw [upd_ne (ne_of_none q hT)];exact q) fun c ys q=>by rw [upd_ne (ne_of_none q hT)];exact q
    have hne:H c≠none:=by
     rcases hc with rfl | hc
     ·rw [e];intro z;cases z
     ·rw [hc];intro z;cases z
    obtain ⟨c1,c2,c3,c4⟩:=inch hne
    exact up c r c1 c2 c3 c4 q
  have I1:Inv X pins σ (upd H s.heap.objs.size (.tup [xs[n],us[n]])) {s with heap:=g}:=by
   refine I.step (g':=s.gens) (d':=s.drawn) (t':=s.toks) (ch:=[y,o,i,k]) (fun b hb=>?_) (fun b r _ _ hc e _=>?_) (fun b r _ _ hc e _=>⟨r.slots,?_⟩) (fun b r hc e hn=>?_) (fun b r hc e=>⟨r,?_⟩) (fun b ys e=>by rw [upd_ne (ne_of_none e hT)];exact e)
    (fun b r ys e=>by rw [upd_ne (ne_of_none e hT)];exact e) (fun b ps e=>⟨#[],by rw [upd_ne (ne_of_none e hT),e];simp⟩) (fun m hm=>?_) hok I.bare
   ·simp only [List.mem_cons,List.not_mem_nil,or_false] at hb
    rcases hb with rfl | rfl | rfl | rfl
    ·exact ⟨fy.2.2.2.1,fy.2.1,fy.2.2.2.2.1,fy.2.2.2.2.2⟩
    ·exact ⟨fo.2.2.2.1,fo.2.1,fo.2.2.2.2.1,fo.2.2.2.2.2⟩
    ·exact ⟨fi.2.2.2.1,fi.2.1,fi.2.2.2.2.1,fi.2.2.2.2.2⟩
    ·exact ⟨fk.2.2.2.1,fk.2.1,fk.2.2.2.2.1,fk.2.2.2.2.2⟩
   ·simp only [List.mem_cons,List.not_mem_nil,or_false,not_or] at hc
    exact up b r hc.1 hc.2.1 hc.2.2.1 hc.2.2.2 e
   ·simp only [List.mem_cons,List.not_mem_nil,or_false,not_or] at hc
    exact up b r hc.1 hc.2.1 hc.2.2.1 hc.2.2.2 e
   ·rw [upd_ne (Nat.ne_of_lt (Heap.lt_size e))];exact hn
   ·simp only [List.mem_cons,List.not_mem_nil,or_false,not_or] at hc
    exact up b r hc.1 hc.2.1 hc.2.2.1 hc.2.2.2 e
   ·obtain ⟨r,es,ep,er,d⟩:=hm
    exact ⟨r,es,ep,up _ r (Ne.symm fy.2.1) (Ne.symm fo.2.1) (Ne.symm fi.2.1) (Ne.symm fk.2.1) er,d⟩
  have hfp:∀b∈ [y,a,o,i,k],upd H s.heap.objs.size (.tup [xs[n],us[n]]) b=none:=fun b hb=>by
   have fb:=hf b hb
   have lt:b < s.heap.objs.size:=by
    obtain ⟨hz,ha,⟨b1,b2,ho⟩,⟨r1,e1,_⟩,⟨r2,e2,_⟩⟩:=st
    simp only [List.mem_cons,List.not_mem_nil,or_false] at hb
    rcases hb with rfl | rfl | rfl | rfl | rfl
    ·exact Heap.lt_size hz
    ·exact Heap.lt_size ha
    ·exact Heap.lt_size ho
    ·exact Heap.lt_size e1
    ·exact Heap.lt_size e2
   rw [upd_ne (Nat.ne_of_lt lt)];exact fb.1
  refine ⟨_,rfl,wpAny_letOwnedTupleGo_zip Sg.zp fun g2 hz2 s2=>?_⟩
  refine ⟨.ref s.heap.objs.size,_,I1.turned (it:=y) (t':=s.toks) (fun b r hb e=>s2.extBut _ _ hb e) (hfp y (by simp)) fy.2.1 fy.2.2.2.1 fy.2.2.2.2.1 fy.2.2.2.2.2,rfl,⟨_,_,_,hT,hx,hu,rfl,rfl⟩,⟨hz2,s2.extBut _ _ D.TIz Sg.its,?_,Sg.i1.extBut s2.extBut D.i1z,Sg.i2.extBut s2.extBut D.i2z⟩,hfp⟩
  obtain ⟨b1,b2,ho⟩:=Sg.own
  exact ⟨b1,b2,s2.extBut _ _ D.TOz ho⟩
 done:=by
  intro X hP hw hK hc n pins s σ H E I hf st hg
  subst hP hw hK
  obtain ⟨hp,hq,hn⟩:=hg
  obtain ⟨its,r1,T1,z1⟩:=I.tuple hp
  obtain ⟨jts,r2,T2,z2⟩:=I.tuple hq
  have fy:=hf y (by simp)
  have fo:=hf o (by simp)
  have fi:=hf i (by simp)
  have fk:=hf k (by simp)
  have S:ZSt s.heap y a o i k p q n its.toArray jts.toArray .none:=⟨st.zp,st.its,st.own,st.i1,st.i2,T1,T2⟩
  have l1:=r1.length
  have l2:=r2.length
  have he:its.toArray[n]? =none∨jts.toArray[n]? =none:=by
   by_cases h:xs.length≤n
   ·exact .inl (by simp;omega)
   ·exact .inr (by simp;omega)
  refine zip_stop (I.hs hc) (fun e he=>⟨I.nit hc fy.2.2.2.1 e he,I.nit hc fo.2.2.2.1 e he,I.nit hc fi.2.2.2.1 e he,I.nit hc fk.2.2.2.1 e he⟩) D S he fun g up=>⟨rfl,?_⟩
  have inch:∀{b:Addr},H b≠none→b≠y∧b≠o∧b≠i∧b≠k:=fun {b} h=>⟨fun z=>h (by rw [z];exact fy.1),fun z=>h (by rw [z];exact fo.1),fun z=>h (by rw [z];exact fi.1),fun z=>h (by rw [z];exact fk.1)⟩
  refine I.step (g':=s.gens) (d':=s.drawn) (t':=s.toks) (ch:=[y,o,i,k]) (fun b hb=>?_) (fun b r _ _ hc e _=>?_) (fun b r _ _ hc e _=>⟨r.slots,?_⟩) (fun b r hc e hn=>hn) (fun b r hc e=>⟨r,?_⟩) (fun b ys e=>e) (fun b r ys e=>e) (fun b ps e=>⟨#[],by rw [e];simp⟩) (fun m hm=>?_) (fun b u e=>?_) I.bare
  ·simp only [List.mem_cons,List.not_mem_nil,or_false] at hb
   rcases hb with rfl | rfl | rfl | rfl
   ·exact ⟨fy.2.2.2.1,fy.2.1,fy.2.2.2.2.1,fy.2.2.2.2.2⟩
   ·exact ⟨fo.2.2.2.1,fo.2.1,fo.2.2.2.2.1,fo.2.2.2.2.2⟩
   ·exact ⟨fi.2.2.2.1,fi.2.1,fi.2.2.2.2.1,fi.2.2.2.2.2⟩
   ·exact ⟨fk.2.2.2.1,fk.2.1,fk.2.2.2.2.1,fk.2.2.2.2.2⟩
  ·simp only [List.mem_cons,List.not_mem_nil,or_false,not_or] at hc
   exact up b r hc.1 hc.2.1 hc.2.2.1 hc.2.2.2 e
  ·simp only [List.mem_cons,List.not_mem_nil,or_false,not_or] at hc
   exact up b r hc.1 hc.2.1 hc.2.2.1 hc.2.2.2 e
  ·simp only [List.mem_cons,List.not_mem_nil,or_false,not_or] at hc
   exact up b r hc.1 hc.2.1 hc.2.2.1 hc.2.2.2 e
  ·obtain ⟨r,es,ep,er,d⟩:=hm
   exact ⟨r,es,ep,up _ r (Ne.symm fy.2.1) (Ne.symm fo.2.1) (Ne.symm fi.2.1) (Ne.symm fk.2.1) er,d⟩
  ·refine (I.hok b u e).stay (fun c r hc q=>?_) (fun _ q=>q) fun _ _ q=>q
   have hne:H c≠none:=by
    rcases hc with rfl | hc
    ·rw [e];intro z;cases z
    ·rw [hc];intro z;cases z
   obtain ⟨c1,c2,c3,c4⟩:=inch hne
   exact up c r c1 c2 c3 c4 q
 self:=fun _ _ _ _ _ st h=>wpAny_pyIter_zip st.zp h
private theorem zapart (n p q:Nat)(h1:p < n)(h2:q < n):ZipApart (n+4) (n+2) (n+3) n (n+1) p q where
 TIz:=show (n+2:Nat)≠n+4 by omega
 TOz:=show (n+3:Nat)≠n+4 by omega
 i1z:=show (n:Nat)≠n+4 by omega
 i2z:=show (n+1:Nat)≠n+4 by omega
 TITO:=show (n+2:Nat)≠n+3 by omega
 TIi1:=show (n+2:Nat)≠n by omega
 TIi2:=show (n+2:Nat)≠n+1 by omega
 TOi1:=show (n+3:Nat)≠n by omega
 TOi2:=show (n+3:Nat)≠n+1 by omega
 i12:=show (n:Nat)≠n+1 by omega
 l1z:=show (p:Nat)≠n+4 by omega
 l1TO:=show (p:Nat)≠n+3 by omega
 l1i1:=show (p:Nat)≠n by omega
 l1i2:=show (p:Nat)≠n+1 by omega
 l2z:=show (q:Nat)≠n+4 by omega
 l2TO:=show (q:Nat)≠n+3 by omega
 l2i1:=show (q:Nat)≠n by omega
 l2i2:=show (q:Nat)≠n+1 by omega
section
variable {X:Cx}
def iZip (K:PySem.W.Frag)(ta:TA):TI:=fun σ H R=>ta σ H fun vs H1=>∃(p q:Addr) (xs us:List V),vs=[.ref p,.ref q]∧SqT K H1 p xs∧SqT K H1 q us∧R (Itz K p q xs us) H1
private theorem pi_zip {elts:List Expr}{x1:Nat}{tpos:Pos}{a b:Expr}{ta:TA}{p pos:Pos}(hg:Gl X "zip") (hm:X.mg "zip" =none) (ha:PA X [a,b] ta) (hs:starEach [a,b] X.env=[(false,eval a X.env),(false,eval b X.env)]:=by rfl) (hs2:starEach [b] X.env=[(false,eval b X.env)]:=by rfl):
  PI X (.Tuple elts x1 tpos) (.Call (.Name "zip" p) [a,b] [] pos) (iZip X.K ta):=by
 intro pins s σ H R I h
 refine Call_ (ld_blt I hg hm (u:=.type "zip") (by rfl) (PyProof.Rows.callWith_type1 (thn (ha pos pins s σ H _ I h) fun us s1 ⟨vs,H1,I1,r1,q1⟩=>?_) (by rw [hs,hs2]) (by rw [hs2];rfl)))
 obtain ⟨p1,p2,xs,ys,rfl,hp,hq,q⟩:=q1
 obtain ⟨u,w',rfl,ru,rw'⟩:=vals2 r1
 cases (show u=Value.ref _ from ru)
 cases (show w'=Value.ref _ from rw')
 obtain ⟨its,r1,T1,z1⟩:=I1.tuple hp
 obtain ⟨jts,r2,T2,z2⟩:=I1.tuple hq
 refine zip_made T1 T2 fun g S sz up=>wpAny_pyIter_zip S.zp ?_
 have lt1:p1 < s1.heap.objs.size:=by obtain ⟨r,e,_⟩:=T1;exact Heap.lt_size e
 have lt2:p2 < s1.heap.objs.size:=by obtain ⟨r,e,_⟩:=T2;exact Heap.lt_size e
 refine ⟨_,_,_,_,H1,rfl,I1.kept (t':=s1.toks) up,turn_zip (zapart _ _ _ lt1 lt2),S.zi,fun b hb=>?_,q⟩
 have hb':s1.heap.objs.size≤b:=by
  simp only [List.mem_cons,List.not_mem_nil,or_false] at hb
  rcases hb with rfl | rfl | rfl | rfl | rfl
  ·exact Nat.le_add_right _ _
  ·exact Nat.le_add_right _ _
  ·exact Nat.le_add_right _ _
  ·exact Nat.le_refl _
  ·exact Nat.le_add_right _ _
 exact I1.fpOk hb' (I1.hok.fresh hb')
private theorem for_zip {K:PySem.W.Frag}{p q:Addr}{xs us:List V}{g:TG}{tb:TS}{D:Ends}{σ:St}{H:Hp}(Pv:Nat→St→Hp→Prop)(h0:Pv 0 σ H)(hl:∀i σ H,Pv i σ H→SqT K H p xs∧SqT K H q us)
  (hs:∀i x u T σ H,xs[i]? =some x→us[i]? =some u→H T=none→Pv i σ H→g (.ref T) σ (upd H T (.tup [x,u])) fun σ2 H2=>tb {D with nx:=Pv (i+1),ct:=Pv (i+1),bk:=D.nx} σ2 H2) (hd:∀σ H,Pv (min xs.length us.length) σ H→D.nx σ H):
  ∃W:Nat→Nat→St→Hp→Prop,(∃m,W 0 m σ H)∧∀i m σ H,W i m σ H→
   ((Itz K p q xs us).stop i H∧D.nx σ H)∨((Itz K p q xs us).go i H∧∃N:St→Hp→Prop,(∀σ' H',N σ' H'→∃m',m' < m∧W (i+1) m' σ' H')∧∀x H',(Itz K p q xs us).yld i H x H'→g x σ H' fun σ2 H2=>tb {D with nx:=N,ct:=N,bk:=D.nx} σ2 H2):=by
 refine ⟨fun i m σ H=>m=min xs.length us.length - i∧i≤min xs.length us.length∧Pv i σ H,⟨_,rfl,Nat.zero_le _,h0⟩,?_⟩
 rintro i m σ H ⟨rfl,hi,p⟩
 have q:=hl i σ H p
 by_cases hlt:i < min xs.length us.length
 ·refine .inr ⟨⟨q.1,q.2,hlt⟩,Pv (i+1),fun σ' H' p'=>⟨_,by omega,rfl,hlt,p'⟩,fun x H' y=>?_⟩
  obtain ⟨T,a,b,hT,e1,e2,rfl,rfl⟩:=y
  exact hs i a b T σ H e1 e2 hT p
 ·have e:i=min xs.length us.length:=by omega
  subst e
  exact .inl ⟨⟨q.1,q.2,Nat.le_refl _⟩,hd σ H p⟩
end
end L2
namespace Pv
open PySem L2
mutual
def eqT:Th→Th→Bool
 | .non,.non=>true
 | .int a,.int b=>a==b
 | .str a,.str b=>a==b
 | .tup a,.tup b=>eqL a b
 | _,_=>false
def eqL:List Th→List Th→Bool
 | [],[]=>true
 | t::r,u::q=>eqT t u && eqL r q
 | _,_=>false
end
mutual
private theorem eqT_iff:∀t u:Th,eqT t u=true↔t=u
 | .non,.non=>by simp [eqT]
 | .non,.int _=>by simp [eqT]
 | .non,.str _=>by simp [eqT]
 | .non,.tup _=>by simp [eqT]
 | .int _,.non=>by simp [eqT]
 | .int a,.int b=>by simp [eqT]
 | .int _,.str _=>by simp [eqT]
 | .int _,.tup _=>by simp [eqT]
 | .str _,.non=>by simp [eqT]
 | .str _,.int _=>by simp [eqT]
 | .str a,.str b=>by simp [eqT]
 | .str _,.tup _=>by simp [eqT]
 | .tup _,.non=>by simp [eqT]
 | .tup _,.int _=>by simp [eqT]
 | .tup _,.str _=>by simp [eqT]
 | .tup a,.tup b=>by
  have:=eqL_iff a b
  simp [eqT,this]
private theorem eqL_iff:∀a b:List Th,eqL a b=true↔a=b
 | [],[]=>by simp [eqL]
 | [],_::_=>by simp [eqL]
 | _::_,[]=>by simp [eqL]
 | t::r,u::q=>by
  have h1:=eqT_iff t u
  have h2:=eqL_iff r q
  simp [eqL,h1,h2]
end
private theorem eqT_refl (t:Th):eqT t t=true:=(eqT_iff t t).mpr rfl
private theorem eqL_range:∀a b:List Th,eqL a b=((List.range (min a.length b.length)).all (fun j=>eqT (a[j]?.getD .non) (b[j]?.getD .non)) && a.length==b.length)
 | [],[]=>rfl
 | [],_::_=>by simp [eqL]
 | _::_,[]=>by simp [eqL]
 | t::r,u::q=>by
  have h:=eqL_range r q
  show (eqT t u && eqL r q)=_
  rw [h,List.length_cons,List.length_cons,Nat.succ_min_succ,List.range_succ_eq_map,List.all_cons,List.all_map]
  have e:(fun j=>eqT ((t::r)[j]?.getD .non) ((u::q)[j]?.getD .non)) ∘ Nat.succ=fun j=>eqT (r[j]?.getD .non) (q[j]?.getD .non):=by
   funext j
   simp
  rw [e]
  have e2:(r.length+1==q.length+1)=(r.length==q.length):=by
   rw [Bool.eq_iff_iff];simp
  rw [e2,Bool.and_assoc]
  rfl
private theorem Rep.inj {H:Hp}{t u:Th}{v:V}(r:Rep H t v)(q:Rep H u v):t=u:=by
 induction r generalizing u with
 | non=>cases q;rfl
 | int i=>cases q;rfl
 | str x=>cases q;rfl
 | @tup a xs ts e l h ih=>
  cases q with
  | @tup _ ys us e' l' h'=>
   rw [e] at e'
   cases e'
   refine congrArg Th.tup (List.ext_getElem? fun i=>?_)
   by_cases hi:i < xs.length
   ·have h1:ts[i]? =some ts[i]:=List.getElem?_eq_getElem (by omega)
    have h2:us[i]? =some us[i]:=List.getElem?_eq_getElem (by omega)
    rw [h1,h2,ih i xs[i] ts[i] (List.getElem?_eq_getElem hi) h1 (h' i xs[i] us[i] (List.getElem?_eq_getElem hi) h2)]
   ·rw [List.getElem?_eq_none (by omega),List.getElem?_eq_none (by omega)]
open PySem.SeqAt in
section
variable {X:Cx}{pins:List (Addr ×Obj)}{σ:L2.St}{H:Hp}{s:Shared}
private theorem items_eq (I:Inv X pins σ H s){a b:Addr}{xs ys:List V}{ts us:List Th}{A:Around}(e:H a=some (.tup xs))(e':H b=some (.tup ys))(l:xs.length=ts.length)(l':ys.length=us.length)
  (ih:∀(j:Nat) (x y:V) (t u:Th) (vx vy:Value),xs[j]? =some x→ys[j]? =some y→ts[j]? =some t→us[j]? =some u→RelV x vx→RelV y vy→EqAt A.in1 s vx vy (eqT t u)):
  ∃its jts:List Value,s.heap.IsTuple a its.toArray∧s.heap.IsTuple b jts.toArray∧its.length=ts.length∧jts.length=us.length∧
   ∀j (h1:j < its.toArray.size) (h2:j < jts.toArray.size),EqAt A.in1 s its.toArray[j] jts.toArray[j] (eqT (ts[j]?.getD .non) (us[j]?.getD .non)):=by
 obtain ⟨its,r1,T1,_⟩:=I.tuple (SqT.of e)
 obtain ⟨jts,r2,T2,_⟩:=I.tuple (SqT.of e')
 have n1:=r1.length
 have n2:=r2.length
 refine ⟨its,jts,T1,T2,by omega,by omega,fun j h1 h2=>?_⟩
 have h1':j < its.length:=by simpa using h1
 have h2':j < jts.length:=by simpa using h2
 obtain ⟨vx,ex,rx⟩:=r1.get (List.getElem?_eq_getElem (show j < xs.length by omega))
 obtain ⟨vy,ey,ry⟩:=r2.get (List.getElem?_eq_getElem (show j < ys.length by omega))
 have g1:ts[j]? =some ts[j]:=List.getElem?_eq_getElem (by omega)
 have g2:us[j]? =some us[j]:=List.getElem?_eq_getElem (by omega)
 have q:=ih j _ _ _ _ vx vy (List.getElem?_eq_getElem (show j < xs.length by omega)) (List.getElem?_eq_getElem (show j < ys.length by omega)) g1 g2 rx ry
 rw [g1,g2]
 have z1:its.toArray[j]=vx:=by
  have:its[j]? =some its[j]:=List.getElem?_eq_getElem h1'
  rw [this] at ex
  simpa using Option.some.inj ex
 have z2:jts.toArray[j]=vy:=by
  have:jts[j]? =some jts[j]:=List.getElem?_eq_getElem h2'
  rw [this] at ey
  simpa using Option.some.inj ey
 rw [z1,z2]
 exact q
private theorem eqAt_T (I:Inv X pins σ H s){t:Th}{x:V}(r:Rep H t x):∀{u:Th} {y:V} {vx vy:Value} {A:Around},Rep H u y→RelV x vx→RelV y vy→A.units+dep t+1 < cLine→EqAt A s vx vy (eqT t u):=by
 induction r with
 | non=>
  intro u y vx vy A q rx ry hu
  cases (show vx=Value.none from rx)
  cases q with
  | non=>cases (show vy=Value.none from ry);exact EqAt.same _
  | int i=>obtain ⟨k,rfl⟩:=ry;exact EqAt.none_int i k
  | str z=>obtain ⟨k,rfl⟩:=ry;exact EqAt.none_str z k
  | tup e l h=>
   cases (show vy=Value.ref _ from ry)
   obtain ⟨its,_,T,_⟩:=I.tuple (SqT.of e)
   exact EqAt.none_tuple T (by omega)
 | int a=>
  intro u y vx vy A q rx ry hu
  obtain ⟨k1,rfl⟩:=rx
  cases q with
  | non=>cases (show vy=Value.none from ry);exact EqAt.int_none a k1
  | int i=>obtain ⟨k,rfl⟩:=ry;exact EqAt.int_int a k1 i k
  | str z=>obtain ⟨k,rfl⟩:=ry;exact EqAt.int_str a k1 z k
  | tup e l h=>
   cases (show vy=Value.ref _ from ry)
   obtain ⟨its,_,T,_⟩:=I.tuple (SqT.of e)
   exact EqAt.int_tuple a k1 T (by omega)
 | str a=>
  intro u y vx vy A q rx ry hu
  obtain ⟨k1,rfl⟩:=rx
  cases q with
  | non=>cases (show vy=Value.none from ry);exact EqAt.str_none a k1
  | int i=>obtain ⟨k,rfl⟩:=ry;exact EqAt.str_int a k1 i k
  | str z=>obtain ⟨k,rfl⟩:=ry;exact EqAt.str_str a k1 z k
  | tup e l h=>
   cases (show vy=Value.ref _ from ry)
   obtain ⟨its,_,T,_⟩:=I.tuple (SqT.of e)
   exact EqAt.str_tuple a k1 T (by omega)
 | @tup a xs ts e l h ih=>
  intro u y vx vy A q rx ry hu
  cases (show vx=Value.ref a from rx)
  cases q with
  | non=>
   cases (show vy=Value.none from ry)
   obtain ⟨its,_,T,_⟩:=I.tuple (SqT.of e)
   exact EqAt.tuple_none T (by omega)
  | int i=>
   obtain ⟨k,rfl⟩:=ry
   obtain ⟨its,_,T,_⟩:=I.tuple (SqT.of e)
   exact EqAt.tuple_int i k T (by omega)
  | str z=>
   obtain ⟨k,rfl⟩:=ry
   obtain ⟨its,_,T,_⟩:=I.tuple (SqT.of e)
   exact EqAt.tuple_str z k T (by omega)
  | @tup b ys us e' l' h'=>
   cases (show vy=Value.ref b from ry)
   by_cases hab:a=b
   ·subst hab
    have z:=Rep.inj (Rep.tup e l h) (Rep.tup e' l' h')
    rw [←z,eqT_refl]
    exact EqAt.same _
   ·have hd:dep (.tup ts)=depL ts+1:=rfl
    obtain ⟨its,jts,T1,T2,n1,n2,q⟩:=items_eq (A:=A) I e e' l l' fun j x y t u vx vy h1 h2 h3 h4 rx ry=>ih j x t h1 h3 (h' j y u h2 h4) rx ry (by
     have:=depL_get h3
     show A.units+1+dep t+1 < cLine
     omega)
    have R:=RcAt.tuples T1 T2 (show A.units < cLine by omega) q
    have e3:((List.range (min its.toArray.size jts.toArray.size)).all (fun j=>eqT (ts[j]?.getD .non) (us[j]?.getD .non)) && its.toArray.size==jts.toArray.size)=eqT (.tup ts) (.tup us):=by
     show _=eqL ts us
     rw [eqL_range,List.size_toArray,List.size_toArray,n1,n2]
    rw [e3] at R
    exact EqAt.of_refs hab R
private theorem rc_T (I:Inv X pins σ H s){t u:Th}{x y:V}{vx vy:Value}{A:Around}(r:Rep H t x)(q:Rep H u y)(rx:RelV x vx)(ry:RelV y vy)(hu:A.units+dep t+1 < cLine):RcAt A s vx vy (eqT t u)∧RcNeAt A s vx vy (!eqT t u):=by
 cases r with
 | non=>
  cases (show vx=Value.none from rx)
  cases q with
  | non=>cases (show vy=Value.none from ry);exact ⟨RcAt.none_none,RcNeAt.none_none⟩
  | int i=>obtain ⟨k,rfl⟩:=ry;exact ⟨RcAt.none_int i k,RcNeAt.none_int i k⟩
  | str z=>obtain ⟨k,rfl⟩:=ry;exact ⟨RcAt.none_str z k,RcNeAt.none_str z k⟩
  | tup e l h=>
   cases (show vy=Value.ref _ from ry)
   obtain ⟨its,_,T,_⟩:=I.tuple (SqT.of e)
   exact ⟨RcAt.none_tuple T (by omega),RcNeAt.none_tuple T (by omega)⟩
 | int a=>
  obtain ⟨k1,rfl⟩:=rx
  cases q with
  | non=>cases (show vy=Value.none from ry);exact ⟨RcAt.int_none a k1,RcNeAt.int_none a k1⟩
  | int i=>obtain ⟨k,rfl⟩:=ry;exact ⟨RcAt.int_int a k1 i k,RcNeAt.int_int a k1 i k⟩
  | str z=>obtain ⟨k,rfl⟩:=ry;exact ⟨RcAt.int_str a k1 z k,RcNeAt.int_str a k1 z k⟩
  | tup e l h=>
   cases (show vy=Value.ref _ from ry)
   obtain ⟨its,_,T,_⟩:=I.tuple (SqT.of e)
   exact ⟨RcAt.int_tuple a k1 T (by omega),RcNeAt.int_tuple a k1 T (by omega)⟩
 | str a=>
  obtain ⟨k1,rfl⟩:=rx
  cases q with
  | non=>cases (show vy=Value.none from ry);exact ⟨RcAt.str_none a k1,RcNeAt.str_none a k1⟩
  | int i=>obtain ⟨k,rfl⟩:=ry;exact ⟨RcAt.str_int a k1 i k,RcNeAt.str_int a k1 i k⟩
  | str z=>obtain ⟨k,rfl⟩:=ry;exact ⟨RcAt.str_str a k1 z k,RcNeAt.str_str a k1 z k⟩
  | tup e l h=>
   cases (show vy=Value.ref _ from ry)
   obtain ⟨its,_,T,_⟩:=I.tuple (SqT.of e)
   exact ⟨RcAt.str_tuple a k1 T (by omega),RcNeAt.str_tuple a k1 T (by omega)⟩
 | @tup a xs ts e l h=>
  cases (show vx=Value.ref a from rx)
  cases q with
  | non=>
   cases (show vy=Value.none from ry)
   obtain ⟨its,_,T,_⟩:=I.tuple (SqT.of e)
   exact ⟨RcAt.tuple_none T (by omega),RcNeAt.tuple_none T (by omega)⟩
  | int i=>
   obtain ⟨k,rfl⟩:=ry
   obtain ⟨its,_,T,_⟩:=I.tuple (SqT.of e)
   exact ⟨RcAt.tuple_int i k T (by omega),RcNeAt.tuple_int i k T (by omega)⟩
  | str z=>
   obtain ⟨k,rfl⟩:=ry
   obtain ⟨its,_,T,_⟩:=I.tuple (SqT.of e)
   exact ⟨RcAt.tuple_str z k T (by omega),RcNeAt.tuple_str z k T (by omega)⟩
  | @tup b ys us e' l' h'=>
   cases (show vy=Value.ref b from ry)
   have hd:dep (.tup ts)=depL ts+1:=rfl
   obtain ⟨its,jts,T1,T2,n1,n2,q⟩:=items_eq (A:=A) I e e' l l' fun j x y t u vx vy h1 h2 h3 h4 rx ry=>eqAt_T I (h j x t h1 h3) (h' j y u h2 h4) rx ry (by
     have:=depL_get h3
     show A.units+1+dep t+1 < cLine
     omega)
   have e3:((List.range (min its.toArray.size jts.toArray.size)).all (fun j=>eqT (ts[j]?.getD .non) (us[j]?.getD .non)) && its.toArray.size==jts.toArray.size)=eqT (.tup ts) (.tup us):=by
    show _=eqL ts us
    rw [eqL_range,List.size_toArray,List.size_toArray,n1,n2]
   have R:=RcAt.tuples T1 T2 (show A.units < cLine by omega) q
   have R':=RcNeAt.tuples T1 T2 (show A.units < cLine by omega) q
   rw [e3] at R R'
   exact ⟨R,R'⟩
end
section
variable {X:Cx}
private theorem op_eqTh {k:Nat}(hr:Room k X.A):OpR X (compareOp .Eq) (fun x y H Q=>∃t u,Rep H t x∧Rep H u y∧dep t≤50∧Q (.bl (eqT t u)) H):=by
 intro pins s σ H x y v w Q I rx ry h
 obtain ⟨t,u,r1,r2,hd,q⟩:=h
 have hu:=hr.units
 exact (rc_T I r1 r2 rx ry (by omega)).1 _ _ _ _ ⟨.bl _,H,I,rfl,q⟩
private theorem op_neTh {k:Nat}(hr:Room k X.A):OpR X (compareOp .NotEq) (fun x y H Q=>∃t u,Rep H t x∧Rep H u y∧dep t≤50∧Q (.bl (!eqT t u)) H):=by
 intro pins s σ H x y v w Q I rx ry h
 obtain ⟨t,u,r1,r2,hd,q⟩:=h
 have hu:=hr.units
 exact (rc_T I r1 r2 rx ry (by omega)).2 _ _ _ _ ⟨.bl _,H,I,rfl,q⟩
end
end Pv
namespace L2
open PySem PySem.Spec PyProof.Rows
def keysI (kvs:List (Key ×V)):List Int:=kvs.filterMap fun p=>match p.1 with | .inl n=>some n | .inr _=>none
def IntKeys (kvs:List (Key ×V)):Prop:=kvs.map (·.1)=(keysI kvs).map Sum.inl
private theorem KV.at {kvs:List (Key ×V)}{vs:List (Key ×Value)}(r:KV kvs vs):kvs.length=vs.length∧kvs.map (·.1)=vs.map (·.1):=by
 unfold KV at r
 induction r with
 | nil=>exact ⟨rfl,rfl⟩
 | cons h _ ih=>exact ⟨by simp [ih.1],by simp [ih.2,h.1]⟩
section
variable {X:Cx}
private theorem dk_ints {kvs:List (Key ×V)}{vs:List (Key ×Value)}(r:KV kvs vs)(hi:IntKeys kvs){j:Nat}{k:Key}{x v:Value}(e:vs[j]? =some (k,x))(hk:keyIs k v=true):∃t,v=.int ((keysI kvs)[j]?.getD 0) t∧j < (keysI kvs).length:=by
 have h1:(vs.map (·.1))[j]? =some k:=by rw [List.getElem?_map,e];rfl
 rw [←r.at.2,hi,List.getElem?_map] at h1
 cases z:(keysI kvs)[j]? with
 | none=>rw [z] at h1;cases h1
 | some n=>
  rw [z] at h1
  have h2:k=Sum.inl n:=(Option.some.inj h1).symm
  subst h2
  obtain ⟨t,e'⟩:=Value.isInt_shape (k:=n) (v:=v) hk
  exact ⟨t,e',(List.getElem?_eq_some_iff.mp z).1⟩
private theorem intsAre_at:∀{us:List Value} {ns:List Int},us.length=ns.length→(∀(j:Nat) (v:Value),us[j]? =some v→∃t,v=.int (ns[j]?.getD 0) t)→IntsAre us ns
 | [],[],_,_=>.nil
 | v::us,n::ns,hl,h=>by
  obtain ⟨t,e⟩:=h 0 v rfl
  subst e
  exact .cons n t (intsAre_at (by simpa using hl) fun j v e=>h (j+1) v e)
 | [],_::_,hl,_=>by simp at hl
 | _::_,[],hl,_=>by simp at hl
private theorem keysI_length {kvs:List (Key ×V)}(h:IntKeys kvs):(keysI kvs).length=kvs.length:=by
 have:=congrArg List.length h
 simpa using this.symm
private theorem gathered {P:Program}{w:World}{A:Around}{E:Value→Shared→Prop}{s:Shared}{T:String}{a d:Addr}{n:Nat}{F:Nat→Value→Prop}{G:Heap→Prop}{R:List Value→Shared→Prop}
  (src:PySem.W.KdlSrc P w T a d n F G) (calm:A.handled=none) (g:G s.heap) (le:n≤sizeLine)
  (h:∀(h':Heap) (k:Nat) (xs:Array Value),(∀b o,s.heap.get? b=some o→h'.get? b=some o)→s.heap.objs.size < h'.objs.size→PySem.ItemsOf F xs n→R xs.toList {s with heap:=h',toks:=k}):
  wpAny (model P w) A (collect (.ref a)) R E s:=by
 obtain ⟨lt1,lt2⟩:=src.there _ g
 unfold collect
 refine wpAny_bind (wpAny_runValue (codeAny_builtin entry_proto_collect' ?_))
 rw [Around.under_plainId PySem.F.plain_proto_collect _]
 refine wpAny_bind (m:=newList []) (wpAny_newObj_type (wpAny_pure ⟨plainId_quiet PySem.F.plain_list_iadd _,codeAny_builtin entry_list_iadd' ?_⟩))
 rw [Around.under_plainId PySem.F.plain_list_iadd _]
 refine wpAny_mono (PySem.W.kdl_extend (A:=A) (s:={s with heap:=s.heap.push {cls:=.type "list",data:=.seq ([]:List Value).toArray}})
  (R:=fun q s'=>∃h' k xs c,q=.ok (.ret (.ref s.heap.objs.size))∧s'={s with heap:=h',toks:=k}∧(∀b o,s.heap.get? b=some o→h'.get? b=some o)∧h'.get? s.heap.objs.size=some {cls:=.type "list",dict:=none,data:=.seq xs c,slots:= #[]}∧PySem.ItemsOf F xs n)
  src calm (src.keep _ _ g fun b _ o e=>Heap.get?_push_of_some _ e) s.heap.objs.size (Nat.ne_of_gt lt1) (Nat.ne_of_gt lt2) (.ref s.heap.objs.size) 0 (Heap.get?_push_size _ rfl)
  (fun h' k xs c kk hS hx=>⟨h',k,xs,c,rfl,rfl,fun b o e=>kk b o (Nat.ne_of_lt (Heap.lt_size e)) (Heap.get?_push_of_some _ e),hS,hx⟩) le) (fun fin s' x=>?_) (fun e s' x=>?_)
 ·cases fin with
  | done f=>
   obtain ⟨h',k,xs,c,e,rfl,kk,hS,hx⟩:=x
   cases e
   exact wpAny_bind (m:=load s.heap.objs.size) (wpAny_load hS (wpAny_pure (h h' k xs kk (Heap.lt_size hS) hx)))
  | again c₁=>
   refine ⟨x.1,codeAny_mono x.2 fun q s₂ y=>?_⟩
   obtain ⟨h',k,xs,c,rfl,rfl,kk,hS,hx⟩:=y
   exact wpAny_bind (m:=load s.heap.objs.size) (wpAny_load hS (wpAny_pure (h h' k xs kk (Heap.lt_size hS) hx)))
 ·obtain ⟨_,_,_,_,e',_⟩:=x
  cases e'
private theorem call_sortedD (hn0:X.A.handled=none):CallR X (.builtin "sorted") (fun xs H Q=>∃(d:Addr) (kvs:List (Key ×V)),xs=[.ref d]∧H d=some (.dK kvs)∧IntKeys kvs∧kvs.length < 64∧
  ∀(l:Addr) (ns:List Int),H l=none→ns.Perm (keysI kvs)→ns.Pairwise (· ≤ ·)→Q (.ref l) (upd H l (.lst (ns.map V.int)))):=by
 intro pins s σ H xs us Q I r h
 obtain ⟨d,kvs,rfl,hd,hi,h64,q⟩:=h
 obtain ⟨u,rfl,ru⟩:=vals1 r
 cases (show u=Value.ref d from ru)
 obtain ⟨hz,lo,vs,rel,hD⟩:=I.hok d _ hd
 obtain ⟨ep,hat⟩:=hD.dictAt
 have hl:=rel.at.1
 have hkl:=keysI_length hi
 refine Calls.call_function_entry kind_sorted plain_sorted entry_sorted (args_sorted1 _) ?_
 unfold Builtin.«sorted»
 refine wpAny_bind (m:=checkCount "sorted" 1 1 _) (wpAny_pure ?_)
 refine wpAny_bind (gathered (A:=X.A.in1) (PySem.W.kdl_dict (knd:=mixKind X.prog X.w) (kvs:=vs) (ep:=ep) lo) (show X.A.in1.handled=none from hn0) hat (by rw [←hl];exact hz) fun h' tk acc hk hlt hacc=>?_)
 have la:acc.toList.length=vs.length:=by rw [Array.length_toList];exact hacc.1
 refine wpAny_bind (wpAny_newList ?_ (by rw [la,←hl];exact hz))
 have hI:IntsAre acc.toList (keysI kvs):=intsAre_at (by omega) fun j v e=>by
  obtain ⟨k,x,e1,e2⟩:=hacc.2 j v (by rw [←Array.getElem?_toList];exact e)
  obtain ⟨t,e3,_⟩:=dk_ints rel hi e1 e2
  exact ⟨t,e3⟩
 have hoL:(h'.push (seqObj "list" acc.toList.toArray 0)).get? h'.objs.size=some (seqObj "list" acc.toList.toArray 0):=Heap.get?_push_size _ rfl
 refine wpAny_bind (wpAny_holding (wpAny_call_entry slot_list_sort ⟨_,hoL,rfl⟩ entry_list_sort (list_sort_tree hoL hI (by omega) fun out ns' a1 a2 a3=>⟨_,rfl,?_⟩) (args_list_sort _)))
 refine wpAny_pure ⟨_,rfl,?_⟩
 have sz:s.heap.objs.size≤h'.objs.size:=Nat.le_of_lt hlt
 have kk:∀b u,s.heap.get? b=some u→(sortedHeap (h'.push (seqObj "list" acc.toList.toArray 0)) h'.objs.size acc.toList out).get? b=some u:=fun b u e=>by
  have e1:=hk b u e
  have lt:=Heap.lt_size e1
  rw [sortedHeap_old (Nat.ne_of_lt lt) (by rw [size_push'];exact Nat.lt_succ_of_lt lt)]
  exact Heap.get?_push_of_some _ e1
 obtain ⟨e,he⟩:=sortedHeap_at (out:=out) hoL
 have hn:H h'.objs.size=none:=I.hok.fresh sz
 refine ⟨.ref h'.objs.size,_,I.laid (o:=.lst (ns'.map V.int)) kk sz ⟨?_,out.toList,e,vals_ints a1,he⟩,rfl,q _ ns' hn a2 a3⟩
 rw [List.length_map,a2.length_eq,hkl];exact hz
end
end L2
namespace L2
open PySem PySem.Spec PyProof.Rows
section
open PySem.SeqAt
open PySem.AutoSeq1 (wpAny_loadPart')
open PySem.MeetsSeq PySem.MeetsSeq2 PySem.MeetsSeq3
end
section
variable {X:Cx}
end
end L2
namespace L2
open PySem PySem.Spec PyProof.Rows
section
open PySem.AutoSeq1 (wpAny_loadPart')
end
section
variable {X:Cx}
def rCatAny (K:PySem.W.Frag):R2:=fun x y H Q=>∃(a b:Addr) (xs ys:List V),x=.ref a∧y=.ref b∧H a=some (.tup xs)∧H b=some (.tup ys)∧xs.length+ys.length≤sizeLine∧
 ∀(r:Addr) (H':Hp),Same H H'→H' r=some (.tup (xs++ys))→Q (.ref r) H'
private theorem op_catAny:OpR X (binaryOp .Add) (rCatAny X.K):=by
 intro pins s σ H x y v u Q I rx ry h
 obtain ⟨a,b,xs,ys,rfl,rfl,ha,hb,hz,q⟩:=h
 by_cases hx:xs=[]
 ·subst hx
  cases (show v=Value.ref a from rx)
  cases (show u=Value.ref b from ry)
  obtain ⟨its,r1,T1,z1⟩:=I.tuple (SqT.of ha)
  obtain ⟨jts,r2,T2,z2⟩:=I.tuple (SqT.of hb)
  have e1:its=[]:=by cases r1;rfl
  subst e1
  obtain ⟨⟨cls,dd,data,sl⟩,o1,hc,n,hd⟩:=id T1
  obtain ⟨⟨cls2,dd2,data2,sl2⟩,o2,hc2,n2,hd2⟩:=id T2
  simp only at hc hd hc2 hd2
  subst hc hd hc2 hd2
  exact concat_meets ⟨_,o1,rfl⟩ ⟨_,o2,rfl⟩ noFill_tuple_add seq_tuple_add PySem.F.slot_tuple_add PySem.F.entry_tuple_add (PySem.F.args_tuple_add_2 _ _) (tuple_addW0 a b _ _ n n2 dd dd2 sl sl2 (by simp)) ⟨o1,o2,⟨.ref b,H,I,rfl,q b H (Same.refl _) (by simpa using hb)⟩⟩
 ·refine op_catT pins s σ H _ _ v u Q I rx ry ⟨a,b,xs,ys,rfl,rfl,SqT.of ha,SqT.of hb,hx,hz,fun hy=>q a H (Same.refl _) (by rw [hy,List.append_nil];exact ha),fun _ p hp=>q p _ (fun c o hc=>?_) upd_same⟩
  rw [upd_ne (ne_of_none hc hp)];exact hc
end
end L2
namespace Pv
open PySem L2
inductive RepL (H:Hp):List Th→List V→Prop where
 | nil:RepL H [] []
 | cons {t:Th} {v:V} {ts:List Th} {vs:List V} (h:Rep H t v) (r:RepL H ts vs):RepL H (t::ts) (v::vs)
private theorem RepL.len {H:Hp}:∀{ts:List Th} {vs:List V},RepL H ts vs→vs.length=ts.length
 | _,_,.nil=>rfl
 | _,_,.cons _ r=>by rw [List.length_cons,List.length_cons,r.len]
private theorem RepL.at {H:Hp}:∀{ts:List Th} {vs:List V},RepL H ts vs→∀(i:Nat) (x:V) (t:Th),vs[i]? =some x→ts[i]? =some t→Rep H t x
 | _,_,.nil,i,x,t,e,_=>by simp at e
 | _,_,.cons h r,0,x,t,e1,e2=>by
  simp at e1 e2
  subst e1;subst e2
  exact h
 | _,_,.cons h r,i+1,x,t,e1,e2=>r.at i x t (by simpa using e1) (by simpa using e2)
private theorem RepL.keep {H H':Hp}(k:Tups H H'):∀{ts:List Th} {vs:List V},RepL H ts vs→RepL H' ts vs
 | _,_,.nil=>.nil
 | _,_,.cons h r=>.cons (h.keep k) (r.keep k)
private theorem RepL.snoc {H:Hp}{t:Th}{v:V}(h:Rep H t v):∀{ts:List Th} {vs:List V},RepL H ts vs→RepL H (ts++ [t]) (vs++ [v])
 | _,_,.nil=>.cons h .nil
 | _,_,.cons h' r=>.cons h' (r.snoc h)
open PySem.SeqAt in
private theorem rc_Ls {X:Cx}{pins:List (Addr ×Obj)}{σ:L2.St}{H:Hp}{s:Shared}(I:Inv X pins σ H s){a b:Addr}{xs ys:List V}{ts us:List Th}{A:Around}(e:SqL X.K H a xs)(e':SqL X.K H b ys)(r:RepL H ts xs)(q:RepL H us ys)(hd:∀t∈ts,dep t≤50)(hu:A.units+60 < cLine):
  RcAt A s (.ref a) (.ref b) (eqL ts us)∧RcNeAt A s (.ref a) (.ref b) (!eqL ts us):=by
 obtain ⟨its,r1,T1,_⟩:=I.list e
 obtain ⟨jts,r2,T2,_⟩:=I.list e'
 have n1:=r1.length
 have n2:=r2.length
 have l1:=r.len
 have l2:=q.len
 by_cases hl:ts.length=us.length
 ·have key:∀j (h1:j < its.toArray.size) (h2:j < jts.toArray.size),EqAt A.in1 s its.toArray[j] jts.toArray[j] (eqT (ts[j]?.getD .non) (us[j]?.getD .non)):=fun j h1 h2=>by
   have h1':j < its.length:=by simpa using h1
   have h2':j < jts.length:=by simpa using h2
   obtain ⟨vx,ex,rx⟩:=r1.get (List.getElem?_eq_getElem (show j < xs.length by omega))
   obtain ⟨vy,ey,ry⟩:=r2.get (List.getElem?_eq_getElem (show j < ys.length by omega))
   have g1:ts[j]? =some ts[j]:=List.getElem?_eq_getElem (by omega)
   have g2:us[j]? =some us[j]:=List.getElem?_eq_getElem (by omega)
   have dj:=hd ts[j] (List.getElem_mem (by omega))
   rw [g1,g2]
   have z1:its.toArray[j]=vx:=by
    have:its[j]? =some its[j]:=List.getElem?_eq_getElem h1'
    rw [this] at ex
    simpa using Option.some.inj ex
   have z2:jts.toArray[j]=vy:=by
    have:jts[j]? =some jts[j]:=List.getElem?_eq_getElem h2'
    rw [this] at ey
    simpa using Option.some.inj ey
   rw [z1,z2]
   exact eqAt_T I (r.at j _ _ (List.getElem?_eq_getElem (show j < xs.length by omega)) g1) (q.at j _ _ (List.getElem?_eq_getElem (show j < ys.length by omega)) g2) rx ry (by
    show A.units+1+dep ts[j]+1 < cLine
    omega)
  have hsz:its.toArray.size=jts.toArray.size:=by rw [List.size_toArray,List.size_toArray];omega
  have R:=RcAt.lists T1.isList T2.isList hsz (show A.units < cLine by omega) key
  have R':=RcNeAt.lists T1.isList T2.isList hsz (show A.units < cLine by omega) key
  have e3:(List.range its.toArray.size).all (fun j=>eqT (ts[j]?.getD .non) (us[j]?.getD .non))=eqL ts us:=by
   rw [eqL_range,List.size_toArray,show min ts.length us.length=its.length by omega,show (ts.length==us.length)=true by rw [hl];exact beq_self_eq_true _,Bool.and_true]
  rw [e3] at R R'
  exact ⟨R,R'⟩
 ·have hne:eqL ts us=false:=by
   cases z:eqL ts us with
   | true=>exact absurd (congrArg List.length ((eqL_iff ts us).mp z)) hl
   | false=>rfl
  have hsz:(its.toArray.size !=jts.toArray.size)=true:=by
   rw [List.size_toArray,List.size_toArray,bne_iff_ne]
   omega
  rw [hne]
  exact ⟨RcAt.lists_lengths T1.isList T2.isList hsz (by omega),RcNeAt.lists_lengths T1.isList T2.isList hsz (by omega)⟩
section
variable {X:Cx}
private theorem op_eqLs {k:Nat}(hr:Room k X.A):OpR X (compareOp .Eq) (fun x y H Q=>∃a b xs ys ts us,x=.ref a∧y=.ref b∧SqL X.K H a xs∧SqL X.K H b ys∧RepL H ts xs∧RepL H us ys∧(∀t∈ts,dep t≤50)∧Q (.bl (eqL ts us)) H):=by
 intro pins s σ H x y v w Q I rx ry h
 obtain ⟨a,b,xs,ys,ts,us,rfl,rfl,e1,e2,r1,r2,hd,q⟩:=h
 cases (show v=Value.ref a from rx)
 cases (show w=Value.ref b from ry)
 have hu:=hr.units
 exact (rc_Ls I e1 e2 r1 r2 hd (by omega)).1 _ _ _ _ ⟨.bl _,H,I,rfl,q⟩
private theorem op_neLs {k:Nat}(hr:Room k X.A):OpR X (compareOp .NotEq) (fun x y H Q=>∃a b xs ys ts us,x=.ref a∧y=.ref b∧SqL X.K H a xs∧SqL X.K H b ys∧RepL H ts xs∧RepL H us ys∧(∀t∈ts,dep t≤50)∧Q (.bl (!eqL ts us)) H):=by
 intro pins s σ H x y v w Q I rx ry h
 obtain ⟨a,b,xs,ys,ts,us,rfl,rfl,e1,e2,r1,r2,hd,q⟩:=h
 cases (show v=Value.ref a from rx)
 cases (show w=Value.ref b from ry)
 have hu:=hr.units
 exact (rc_Ls I e1 e2 r1 r2 hd (by omega)).2 _ _ _ _ ⟨.bl _,H,I,rfl,q⟩
end
end Pv
namespace Pv
open PySem L2
def lookT (cs:List (Int ×Th))(n:Int):Option Th:=(cs.find? fun p=>decide (p.1=n)).map (·.2)
inductive DRep (H:Hp):List (Int ×Th)→List (Key ×V)→Prop where
 | nil:DRep H [] []
 | cons {n:Int} {t:Th} {v:V} {cs:List (Int ×Th)} {kvs:List (Key ×V)} (h:Rep H t v) (r:DRep H cs kvs):DRep H ((n,t)::cs) ((.inl n,v)::kvs)
private theorem DRep.len {H:Hp}{cs:List (Int ×Th)}{kvs:List (Key ×V)}(r:DRep H cs kvs):kvs.length=cs.length:=by
 induction r with
 | nil=>rfl
 | cons _ _ ih=>rw [List.length_cons,List.length_cons,ih]
private theorem DRep.keep {H H':Hp}(k:Tups H H'){cs:List (Int ×Th)}{kvs:List (Key ×V)}(r:DRep H cs kvs):DRep H' cs kvs:=by
 induction r with
 | nil=>exact .nil
 | cons h _ ih=>exact .cons (h.keep k) ih
private theorem DRep.keys {H:Hp}{cs:List (Int ×Th)}{kvs:List (Key ×V)}(r:DRep H cs kvs):keysI kvs=cs.map (·.1)∧L2.IntKeys kvs:=by
 induction r with
 | nil=>exact ⟨rfl,rfl⟩
 | @cons n t v cs kvs _ _ ih=>
  have e:keysI ((.inl n,v)::kvs)=n::keysI kvs:=rfl
  refine ⟨by rw [e,ih.1];rfl,?_⟩
  unfold L2.IntKeys
  rw [e,List.map_cons,List.map_cons]
  exact congrArg _ ih.2
private theorem lookT_cons {n m:Int}{t:Th}{cs:List (Int ×Th)}:lookT ((n,t)::cs) m=if n=m then some t else lookT cs m:=by
 unfold lookT
 rw [List.find?_cons]
 by_cases e:n=m
 ·rw [if_pos e,decide_eq_true e];rfl
 ·rw [if_neg e,decide_eq_false e]
private theorem valV_consI {n m:Int}{v:V}{kvs:List (Key ×V)}:valV ((Sum.inl n,v)::kvs) (Sum.inl m:Key)=if n=m then some v else valV kvs (.inl m):=by
 by_cases e:n=m
 ·rw [if_pos e];exact valV_pos (by rw [e])
 ·rw [if_neg e]
  unfold valV
  rw [List.find?_cons]
  rw [decide_eq_false (fun z=>e (Sum.inl.inj z))]
private theorem DRep.none {H:Hp}{cs:List (Int ×Th)}{kvs:List (Key ×V)}(r:DRep H cs kvs){n:Int}(h:lookT cs n=.none):valV kvs (.inl n)=.none:=by
 induction r with
 | nil=>rfl
 | @cons m t v cs kvs _ _ ih=>
  rw [lookT_cons] at h
  rw [valV_consI]
  by_cases e:m=n
  ·rw [if_pos e] at h;cases h
  ·rw [if_neg e] at h ⊢;exact ih h
private theorem DRep.some {H:Hp}{cs:List (Int ×Th)}{kvs:List (Key ×V)}(r:DRep H cs kvs){n:Int}{t:Th}(h:lookT cs n=.some t):∃v,valV kvs (.inl n)=.some v∧Rep H t v:=by
 induction r with
 | nil=>cases h
 | @cons m u v cs kvs hv _ ih=>
  rw [lookT_cons] at h
  rw [valV_consI]
  by_cases e:m=n
  ·rw [if_pos e] at h ⊢;cases h;exact ⟨v,rfl,hv⟩
  ·rw [if_neg e] at h ⊢;exact ih h
private theorem DRep.back {H:Hp}{cs:List (Int ×Th)}{kvs:List (Key ×V)}(r:DRep H cs kvs){n:Int}{v:V}(h:valV kvs (.inl n)=.some v):∃t,lookT cs n=.some t∧Rep H t v:=by
 cases e:lookT cs n with
 | none=>rw [r.none e] at h;cases h
 | some t=>
  obtain ⟨v',e',rv⟩:=r.some e
  rw [h] at e';cases e'
  exact ⟨t,rfl,rv⟩
private theorem DRep.snoc {H:Hp}{cs:List (Int ×Th)}{kvs:List (Key ×V)}{n:Int}{t:Th}{v:V}(h:Rep H t v)(r:DRep H cs kvs):DRep H (cs++ [(n,t)]) (kvs++ [(.inl n,v)]):=by
 induction r with
 | nil=>exact .cons h .nil
 | cons h' _ ih=>exact .cons h' ih
private theorem DRep.put {H:Hp}{cs:List (Int ×Th)}{kvs:List (Key ×V)}{n:Int}{t:Th}{v:V}(r:DRep H cs kvs)(h:Rep H t v)(hn:lookT cs n=.none):DRep H (cs++ [(n,t)]) (putK kvs (.inl n) v):=by
 rw [putK_new v (r.none hn)]
 exact r.snoc h
private theorem DRep.again {H:Hp}{cs:List (Int ×Th)}{kvs:List (Key ×V)}{n:Int}{t:Th}{v:V}(r:DRep H cs kvs)(h:Rep H t v)(hn:lookT cs n=.some t)(nd:(cs.map (·.1)).Nodup):DRep H cs (putK kvs (.inl n) v):=by
 have ha:(kvs.any fun kv=>decide (kv.1=(Sum.inl n:Key)))=true:=by
  obtain ⟨v',e,_⟩:=r.some hn
  unfold valV at e
  cases z:kvs.find? fun kv=>decide (kv.1=(Sum.inl n:Key)) with
  | none=>rw [z] at e;cases e
  | some p=>exact List.any_eq_true.mpr ⟨p,List.mem_of_find?_eq_some z,by have:=List.find?_some z;exact this⟩
 unfold putK
 rw [if_pos ha]
 clear ha
 induction r with
 | nil=>exact .nil
 | @cons m u v' cs kvs h' r' ih=>
  have nd':=List.nodup_cons.mp nd
  rw [List.map_cons]
  by_cases e:m=n
  ·subst e
   rw [if_pos rfl]
   rw [lookT_cons,if_pos rfl] at hn
   cases hn
   have rest:kvs.map (fun kv=>if kv.1=(Sum.inl m:Key) then (kv.1,v) else kv)=kvs:=by
    have:∀kv∈kvs,(if kv.1=(Sum.inl m:Key) then (kv.1,v) else kv)=kv:=fun kv hkv=>by
     refine if_neg fun z=>nd'.1 ?_
     have e1:=r'.keys
     have m1:(Sum.inl m:Key)∈kvs.map (·.1):=by rw [←z];exact List.mem_map_of_mem hkv
     rw [e1.2,List.mem_map] at m1
     obtain ⟨i,hi,ei⟩:=m1
     cases ei
     rw [←e1.1];exact hi
    rw [List.map_congr_left this,List.map_id']
   rw [rest]
   exact .cons h r'
  ·rw [if_neg (fun z=>e (Sum.inl.inj z))]
   rw [lookT_cons,if_neg e] at hn
   exact .cons h' (ih hn nd'.2)
private theorem lookT_mem {cs:List (Int ×Th)}{n:Int}{t:Th}(h:lookT cs n=some t):(n,t)∈cs:=by
 induction cs with
 | nil=>cases h
 | cons p cs ih=>
  obtain ⟨m,u⟩:=p
  rw [lookT_cons] at h
  by_cases e:m=n
  ·rw [if_pos e] at h;cases h;subst e;exact List.mem_cons_self
  ·rw [if_neg e] at h;exact List.mem_cons_of_mem _ (ih h)
private theorem lookT_key {cs:List (Int ×Th)}{n:Int}(h:n∈cs.map (·.1)):∃t,lookT cs n=some t:=by
 induction cs with
 | nil=>cases h
 | cons p cs ih=>
  obtain ⟨m,u⟩:=p
  rw [lookT_cons]
  by_cases e:m=n
  ·exact ⟨u,if_pos e⟩
  ·rw [if_neg e]
   rw [List.map_cons,List.mem_cons] at h
   exact ih (h.resolve_left fun z=>e z.symm)
private theorem lookT_none {cs:List (Int ×Th)}{n:Int}(h:lookT cs n=none):n∉cs.map (·.1):=fun z=>by
 obtain ⟨t,e⟩:=lookT_key z
 rw [h] at e;cases e
private theorem lookT_snoc {cs:List (Int ×Th)}{n m:Int}{t:Th}:lookT (cs++ [(n,t)]) m=match lookT cs m with | some u=>some u | none=>if n=m then some t else none:=by
 induction cs with
 | nil=>rw [List.nil_append,lookT_cons];rfl
 | cons p cs ih=>
  obtain ⟨k,u⟩:=p
  rw [List.cons_append,lookT_cons,lookT_cons]
  by_cases e:k=m
  ·rw [if_pos e,if_pos e]
  ·rw [if_neg e,if_neg e,ih]
def worths (cs:List (Int ×Th))(ns:List Int):List Th:=ns.map fun n=>(lookT cs n).getD .non
end Pv
namespace L2
open PySem PySem.Spec PyProof.Rows Px
structure ClsM (K:PySem.W.Frag)(mg:Str→Option Value)(x:Str)(V:Addr)(mc:Value)(m:Str)(f:Addr):Prop where
 mg:mg x=some (.ref V)
 sp:PySem.W.specialIn K (.ref V) "__getattribute__" =some (some (.builtin "type.__getattribute__"))
 rd:PySem.W.readsIn K V mc=true
 fc:PySem.W.findCls K (.ref V) mc m=some (.val (.ref f))
 kp:PySem.W.keepIn K (.ref f)=true
structure Kdf (K:PySem.W.Frag)(mg:Str→Option Value)(x m qual:Str)(st:Stmt)(ps:List Str):Prop where
 ex:∃f fd V mc,Fun K m qual st f fd∧Binds K fd ps []∧ClsM K mg x V mc m f
structure Kfn (P:Program)(w:World)(K:PySem.W.Frag)(mg:Str→Option Value)(base:Heap)(x m:Str)(k:Nat)(ps:List Str)(sp:Sp):Prop where
 ex:∃f fd V mc,FnOk P w K mg base CX0 k f fd ps sp∧Binds K fd ps []∧ClsM K mg x V mc m f
section
variable {P:Program}{w:World}{K:PySem.W.Frag}{mg:Str→Option Value}{base:Heap}{x m qual:Str}{st:Stmt}{ps N:List Str}{sp:Sp}{k:Nat}
private theorem Kdf.ok (D:Kdf K mg x m qual st ps)(S:FnScope N ps (defScope st))(len:∀vs H Q E,sp vs H Q E→vs.length=ps.length)
  (hbody:∀(f:Addr) (cdv:Value) (A:Around) (outer:List Env) (s:Shared) (H:Hp) (vs:List V) (Q:VK) (E:XK),Room k (A.deeper (envOfC qual (defScope st) s.heap.objs.size f cdv))→sp vs H Q E→
   ∃t,PSs (cxOf CX0 P w K mg base N qual (defScope st) f cdv A outer s H E).nox (defBody st) t∧t {nx:=fun _ H'=>Q .non H',rt:=Q} (start N vs) H):Kfn P w K mg base x m (k+1) ps sp:=by
 obtain ⟨f,fd,V,mc,F,b,me⟩:=D.ex
 exact ⟨f,fd,V,mc,F.ok S len (fun cdv A outer s H vs Q E hr h=>hbody f cdv A outer s H vs Q E hr h),b,me⟩
variable {f V:Addr}{mc:Value}{od an:Option Addr}{sl:Array (Option Value)}{oc kV dc pm cd ct:Value}{h:Heap}
private theorem kdf_mk (X:K.In h)(G:h.Ns mainGlobals mg)(n:PySem.W.nsIn K mainGlobals x=some (some (.ref V)))(g:PySem.W.specialIn K (.ref V) "__getattribute__" =some (some (.builtin "type.__getattribute__"))) (rd:PySem.W.readsIn K V mc=true) (fc:PySem.W.findCls K (.ref V) mc m=some (.val (.ref f)))
  (l:K.lookup f=some ⟨oc,od,.func (PySem.W.fnOf m qual (defArgs st) (defBody st) (defScope st) .none kV dc pm an cd ct),sl⟩) (c:PySem.W.codeIn K cd qual=true) (k:PySem.W.keepIn K (.ref f)=true)
  (b:∀(kV doc pm:Value) (an:Option Addr) (cdv ct:Value) (us:List Value),us.length=ps.length→bindArgs (PySem.W.fnOf m qual (defArgs st) (defBody st) (defScope st) .none kV doc pm an cdv ct) ⟨us,[]⟩=pure (ps.zip us)):Kdf K mg x m qual st ps:=
 ⟨_,_,V,mc,fun_mk l c k,(fun_mk l c k).binds b,⟨PySem.W.mg_of X G n,g,rd,fc,k⟩⟩
end
section
variable {X:Cx}{x m:Str}{ps:List Str}{sp:Sp}{k k':Nat}{e:Expr}{es:List Expr}{t:TA}{p pos apos:Pos}
private theorem pe_kfn {pl:Sem Bool}(F:Kfn X.prog X.w X.K X.mg X.base x m k ps sp)(hr:Room k' X.A)(hle:k≤k')(hg:Gl X x)(ha:PA X (e::es) t)(hd:(x==("__debug__" :Str))=false:=by decide)
  (hst:starEach (e::es) X.env=(false,eval e X.env)::starEach es X.env:=by rfl) (hpl:∀pos,(backTo pos (starEach es X.env)).any (·.1)=false:=by intro _;rfl)
  (ht:eval (.Call (.Attribute (.Name x p) m apos) (e::es) [] pos) X.env=(do
   let ov←eval (.Name x p) X.env
   standAt apos.atName
   let (f,first) ←holding [ov] (getMethod ov m pl)
   callWith pos f first (backTo pos (starEach (e::es) X.env)) (backToKw pos (keywordEach [] X.env))):=by rfl) (hc:X.calm=true:=by rfl):
  PE X (.Call (.Attribute (.Name x p) m apos) (e::es) [] pos) (tCall sp [] E0 t):=by
 obtain ⟨f,fd,V,mc,a,b,M⟩:=F.ex
 intro pins s σ H Q I h
 refine PySem.W.methodCall_KW (pl:=pl) (thn (pe_glob (v:=.ref V) hg M.mg rfl hd pins s σ H (fun v H1=>v=.ref V∧H1=H) I ⟨rfl,rfl⟩) fun u s1 ⟨v,H1,I1,r1,e1,e2⟩=>?_) ht
 subst e1 e2
 obtain rfl:u=Value.ref V:=r1
 refine PySem.W.method_cls I1.kIn M.sp (PySem.W.cls_value I1.kIn M.rd M.fc rfl ?_)
 have I2:=I1.tok (s1.toks+1)
 refine PySem.W.callWith_K (first:=[]) (h₀:=X.base) I.ok.mod.kin M.kp (thn (ha pos pins _ σ H1 _ I2 h) fun us s2 ⟨vs,H2,I3,r,q2⟩=>⟨I3.kIn,?_⟩) hst (hpl _)
 exact run_fn (hc:=hc) (us:=us) (vs:=vs) a (hr.mono hle) b .nil pass0 I3 r q2
end
end L2
namespace L2
open PySem PySem.Spec PyProof.Rows
section
variable {prog:Program}{w:World}{A:Around}{E:Value→Shared→Prop}{s:Shared}
private theorem unpackItems_h {t:Addr}{items:Array Value}{Q:List Value→Shared→Prop}(hh:HndS A s.heap)(ht:IsTup s.heap t items)
  (hQ:∀h',Heap.ExtBut s.heap.objs.size s.heap h'→Q items.toList {s with heap:=h'}):wpAny (model prog w) A (unpackItems (.ref t) items.size none) Q E s:=by
 have hlt:t≠s.heap.objs.size:=by obtain ⟨o,ho,_⟩:=ht;exact Nat.ne_of_lt (Heap.lt_size ho)
 unfold unpackItems
 refine wpAny_bind ?_
 ·unfold notIterableAtAll
  refine wpAny_bind (wpAny_specialOf ht.typeIs slot_tuple_iter.lookup ?_)
  refine wpAny_pure ?_
  simp only [Bool.false_eq_true,if_false]
  refine wpAny_bind (wpAny_holding (iter_tuple ht ?_))
  refine wpAny_bind (wpAny_holding (draw_tuple hlt items.size 0 _ _ ⟨_,Heap.get?_push_size _ rfl,rfl,rfl⟩ (ht.push _) (by omega) fun h₁ hit₁ hs₁=>?_))
  have hall:List.take items.size (List.drop 0 items.toList)=items.toList:=by
   rw [List.drop_zero];exact List.take_of_length_le (by simp)
  rw [hall]
  rw [if_neg (by simp)]
  have ht₁:IsTup h₁ t items:=(ht.push _).extBut hs₁.extBut hlt
  have nit:∀e o,s.heap.get? e=some o→e≠s.heap.objs.size:=fun e o q=>Nat.ne_of_lt (Heap.lt_size q)
  have nit':∀e,A.handled=some (.ref e)→e≠s.heap.objs.size:=fun e he=>by
   rcases hh with hh | ⟨e',o,hh,ge,q⟩
   ·rw [hh] at he;cases he
   ·rw [hh] at he;cases he;exact nit _ _ ge
  have hh1:HndS A h₁:=by
   rcases hh with hh | ⟨e',o,hh,ge,q⟩
   ·exact .inl hh
   ·exact .inr ⟨e',o,hh,hs₁.extBut _ _ (nit _ _ ge) (Heap.get?_push_of_some _ ge),q⟩
  refine wpAny_bind (wpAny_holding (tuple_end_h (s:={s with heap:=h₁}) hh1 hit₁ ht₁ (by simp) nit' fun h₂ he₂=>?_))
  simp only [Option.isSome_none,Bool.false_eq_true,if_false]
  refine wpAny_pure (hQ h₂ fun b o hb e=>he₂ b o hb (hs₁.extBut b o hb (Heap.get?_push_of_some _ e)))
private theorem unpack_h {t:Addr}{items:Array Value}{targets:List (Bool ×(Value→Sem Unit))}{Q:Unit→Shared→Prop}(hh:HndS A s.heap)(ht:IsTup s.heap t items)
  (hn:targets.length=items.size) (hstar:targets.findIdx? (·.1)=none)
  (h:∀h',Heap.ExtBut s.heap.objs.size s.heap h'→wpAny (model prog w) A (assignInOrder (targets.map (·.2)) items.toList) Q E {s with heap:=h'}):
  wpAny (model prog w) A (unpack (.ref t) targets) Q E s:=by
 unfold unpack
 rw [hn,hstar]
 exact wpAny_bind (wpAny_holding (unpackItems_h hh ht h))
end
private theorem pg_tupH {X:Cx}{pos:Pos}{es:List Expr}{k:Nat}{t:TGs}{n:Nat}(hc:X.calm=true)(h:PGs X es t)
  (hn:(assignEach es X.env).length=n:=by rfl) (hst:(assignEach es X.env).findIdx? (·.1)=none:=by rfl):PG X (.Tuple es k pos) (gTup X.K n t):=by
 intro pins s σ H v u Q I r hw
 obtain ⟨a,xs,e1,hq,hl,hw⟩:=hw
 subst e1
 cases r
 obtain ⟨its,rv,ht,hz⟩:=I.tuple hq
 rw [assign_Tuple]
 refine wpAny_bind (wpAny_standAt (unpack_h (I.hs hc) ht (by simp [hn,←hl,rv.length]) hst fun h' hx=>?_))
 have I1:Inv X pins σ H {s with heap:=h'}:=I.kept (t':=s.toks) fun b o e=>hx b o (Nat.ne_of_lt (Heap.lt_size e)) e
 exact h pins _ σ H xs _ Q I1 (by simpa using rv) hw
end L2
namespace L2
open PySem PySem.Spec PyProof.Rows
section
variable {X:Cx}{x x2:Str}{scope:Scope}{pins:List (Addr ×Obj)}{σ:St}{H:Hp}{s:Shared}
variable {iter elt:Expr}{ifs:List Expr}{px px2 tpos pos:Pos}{kt:Nat}{wi:TI}{tt:TT}{te:TE}
end
end L2
namespace L2
open PySem PySem.Spec PyProof.Rows
private theorem pass01 {X:Cx}:Passes (CX1 X.prog X.w) X E0:=fun _ _ _ _ _ _ _ h=>by
 obtain ⟨ea,cls,od,H',T,h⟩:=h
 simp only [E0,and_false] at h
end L2
namespace Pv
open PySem L2
private theorem szL {n:Nat}(h:n≤100000):n≤sizeLine:=Nat.le_trans h (by rw [sizeLine_eq];decide)
private theorem comp_it {J:It}{n:Nat}{σ:St}{js:List Nat}{tt:TT}{te:TE}{Q:VK}{H1:Hp}{p:Addr}(Pv:Nat→List V→Hp→Prop)(h0:Pv 0 [] (upd H1 p (.lst [])))
  (hg:∀i acc H,i < n→Pv i acc H→J.go i H) (ht:∀acc H,Pv n acc H→J.stop n H)
  (hs:∀i acc H x H',i < n→Pv i acc H→J.yld i H x H'→tt (some x::frees σ js) H' fun ok H2=>
   if ok=true then te (some x::frees σ js) H2 fun y H3=>H3 p=some (.lst acc)∧acc.length < sizeLine∧∃m',m' < n - i∧(m'=n - (i+1)∧i+1≤n∧Pv (i+1) (acc++ [y]) (upd H3 p (.lst (acc++ [y]))))
   else∃m',m' < n - i∧(m'=n - (i+1)∧i+1≤n∧Pv (i+1) acc H2)) (hd:∀acc H,Pv n acc H→Q (.ref p) H):
  CompW J p σ js tt te H1 Q:=by
 refine ⟨fun i m acc H=>m=n - i∧i≤n∧Pv i acc H,⟨n,by simp,Nat.zero_le _,h0⟩,?_⟩
 rintro i m acc H ⟨rfl,hi,p⟩
 by_cases hlt:i < n
 ·exact .inr ⟨hg i acc H hlt p,fun x H' y=>hs i acc H x H' hlt p y⟩
 ·have e:i=n:=by omega
  subst e
  exact .inl ⟨ht acc H p,hd acc H p⟩
private theorem nxt {i n:Nat}{C:Prop}(h:i < n)(c:C):∃m',m' < n - i∧(m'=n - (i+1)∧i+1≤n∧C):=⟨_,by omega,rfl,h,c⟩
def numOf (l:List Nat):Int:=l.foldl (fun (n:Int) (c:Nat)=>n * 128+(c:Int)) 0
private theorem numOf_snoc (l:List Nat)(c:Nat):numOf (l++ [c])=numOf l * 128+c:=by
 unfold numOf;rw [List.foldl_append];rfl
def chunk (x:Str)(k:Nat):List Nat:=(x.cps.toList.drop (7 * k)).take 7
def chunkS (x:Str)(k:Nat):Str:=⟨(chunk x k).toArray⟩
def many7 (x:Str):Nat:=(x.length+6) / 7
def sevens (x:Str):List Int:=(List.range (many7 x)).map fun k=>numOf (chunk x k)
mutual
def codesT:Th→List Int
 | .non=>[1]
 | .int n=>[2,(n+10 ^ 30) / 10 ^ 15,(n+10 ^ 30) % 10 ^ 15]
 | .str x=>[3,(x.length:Int)]++sevens x
 | .tup ts=>[4,(ts.length:Int)]++codesL ts
def codesL:List Th→List Int
 | []=>[]
 | t::r=>codesT t++codesL r
end
private theorem codesL_snoc:∀(ts:List Th) (t:Th),codesL (ts++ [t])=codesL ts++codesT t
 | [],t=>by simp [codesL]
 | u::r,t=>by
  have:=codesL_snoc r t
  show codesT u++codesL (r++ [t])=codesT u++codesL r++codesT t
  rw [this,List.append_assoc]
private theorem codesL_take {ts:List Th}{i:Nat}{t:Th}(h:ts[i]? =some t):codesL (ts.take (i+1))=codesL (ts.take i)++codesT t:=by
 rw [List.take_add_one,h]
 exact codesL_snoc _ _
mutual
private theorem codes_len:∀t:Th,Wf t→(codesT t).length≤11 * nodes t
 | .non,_=>by show 1≤11 * 1;omega
 | .int n,_=>by show 3≤11 * 1;omega
 | .str x,h=>by
  have h1:x.length≤60:=h.1
  show ([3,(x.length:Int)]++sevens x).length≤11 * 1
  have h2:(sevens x).length=many7 x:=by unfold sevens;rw [List.length_map,List.length_range]
  rw [List.length_append,h2]
  show 2+many7 x≤11
  unfold many7
  omega
 | .tup ts,h=>by
  have:=codesL_len ts h.2
  show ([4,(ts.length:Int)]++codesL ts).length≤11 * (1+nodesL ts)
  rw [List.length_append]
  show 2+(codesL ts).length≤_
  omega
private theorem codesL_len:∀ts:List Th,WfL ts→(codesL ts).length≤11 * nodesL ts
 | [],_=>by show 0≤_;omega
 | t::r,h=>by
  have h1:=codes_len t h.1
  have h2:=codesL_len r h.2
  show (codesT t++codesL r).length≤11 * (nodes t+nodesL r)
  rw [List.length_append]
  omega
end
private theorem codesL_take_len:∀(ts:List Th) (i:Nat),(codesL (ts.take i)).length≤(codesL ts).length
 | [],i=>by rw [List.take_nil];exact Nat.le_refl _
 | t::r,0=>by show 0≤_;omega
 | t::r,i+1=>by
  have:=codesL_take_len r i
  show (codesT t++codesL (r.take i)).length≤(codesT t++codesL r).length
  rw [List.length_append,List.length_append]
  omega
private theorem cut_chunk {x:Str}{k:Nat}(h:k < many7 x):cutS x (some (0+(k:Int) * 7)) (some (0+(k:Int) * 7+7))=chunkS x k:=by
 unfold many7 at h
 have e1:(0+(k:Int) * 7)=((7 * k:Nat):Int):=by omega
 have e2:(0+(k:Int) * 7+7)=((7 * k+7:Nat):Int):=by omega
 unfold cutS chunkS chunk
 rw [e2,e1,HT.sIx_nat,HT.sIx_nat]
 have hl:x.cps.toList.length=x.length:=Array.length_toList
 have a1:min (7 * k) x.length=7 * k:=by omega
 rw [a1]
 refine congrArg (fun l=>(⟨List.toArray l⟩:Str)) ?_
 by_cases hb:7 * k+7≤x.length
 ·rw [show min (7 * k+7) x.length - 7 * k=7 by omega]
 ·rw [List.take_of_length_le (by rw [List.length_drop];omega),List.take_of_length_le (by rw [List.length_drop];omega)]
private theorem many7_div {x:Str}:(((x.length:Int)+7 - 1) / 7).toNat=many7 x:=by unfold many7;omega
def foldS (l:List Int):Int:=l.foldl (fun h c=>(h * 1234567890123456789+c) % 2305843009213693951) 7
def sealT (t:Th):Int:=foldS (codesT t)+1
private theorem foldS_snoc (l:List Int)(c:Int):foldS (l++ [c])=(foldS l * 1234567890123456789+c) % 2305843009213693951:=by
 unfold foldS;rw [List.foldl_append];rfl
private theorem foldS_take {l:List Int}{i:Nat}{c:Int}(h:l[i]? =some c):foldS (l.take (i+1))=(foldS (l.take i) * 1234567890123456789+c) % 2305843009213693951:=by
 rw [List.take_add_one,h];exact foldS_snoc _ _
private theorem foldS_range (l:List Int):0≤foldS l∧foldS l < 2305843009213693951:=by
 rcases List.eq_nil_or_concat l with rfl | ⟨r,c,rfl⟩
 ·exact ⟨by decide,by decide⟩
 ·rw [List.concat_eq_append,foldS_snoc]
  exact ⟨Int.emod_nonneg _ (by decide),Int.emod_lt_of_pos _ (by decide)⟩
end Pv
namespace Pv
private theorem nodesL_get:∀{ts:List Th} {i:Nat} {t:Th},ts[i]? =some t→nodes t≤nodesL ts
 | [],_,_,e=>by simp at e
 | u::r,0,t,e=>by simp at e;subst e;exact Nat.le_add_right _ _
 | u::r,i+1,t,e=>Nat.le_trans (nodesL_get (i:=i) (by simpa using e)) (Nat.le_add_left _ _)
end Pv
namespace Pv
open L2
private theorem tt1 {σ:L2.St}{H:Hp}{A B:Hp→Prop}(h:A H):tNoTest σ H fun ok H2=>if ok=true then A H2 else B H2:=by
 show if true=true then A H else B H
 rw [if_pos rfl]
 exact h
end Pv
namespace Pv
open PySem L2
def kindT:Th→Int
 | .non=>0
 | .int _=>1
 | .str _=>2
 | .tup _=>3
mutual
def aheadT:Th→Th→Bool
 | .non,.non=>false
 | .int a,.int b=>decide (a < b)
 | .str a,.str b=>decide (a.cps.toList < b.cps.toList)
 | .tup a,.tup b=>aheadL a b
 | t,u=>decide (kindT t < kindT u)
def aheadL:List Th→List Th→Bool
 | [],[]=>false
 | [],_::_=>true
 | _::_,[]=>false
 | t::r,u::q=>if eqT t u=true then aheadL r q else aheadT t u
end
mutual
def rowT:Th→List Int
 | .non=>[0]
 | .int a=>[1,a]
 | .str x=>[2]++x.cps.toList.map (fun (c:Nat)=>(c:Int))++ [-1]
 | .tup ts=>[3]++rowL ts++ [-1]
def rowL:List Th→List Int
 | []=>[]
 | t::r=>rowT t++rowL r
end
end Pv
namespace Pv
open PySem L2
def Reps (H:Hp)(ts:List Th)(xs:List V):Prop:=xs.length=ts.length∧∀(i:Nat) (x:V) (t:Th),xs[i]? =some x→ts[i]? =some t→Rep H t x
private theorem Reps.keep {H H':Hp}{ts:List Th}{xs:List V}(r:Reps H ts xs)(k:Tups H H'):Reps H' ts xs:=⟨r.1,fun i x t h1 h2=>(r.2 i x t h1 h2).keep k⟩
private theorem Reps.snoc {H:Hp}{ts:List Th}{xs:List V}{t:Th}{x:V}(r:Reps H ts xs)(h:Rep H t x):Reps H (ts++ [t]) (xs++ [x]):=by
 refine ⟨by simp [r.1],fun i y u h1 h2=>?_⟩
 have hl:=r.1
 by_cases hi:i < xs.length
 ·rw [List.getElem?_append_left hi] at h1
  rw [List.getElem?_append_left (by omega)] at h2
  exact r.2 i y u h1 h2
 ·rw [List.getElem?_append_right (by omega)] at h1 h2
  cases e:i - xs.length with
  | zero=>
   rw [e] at h1
   rw [show i - ts.length=0 by omega] at h2
   cases h1;cases h2;exact h
  | succ k=>rw [e] at h1;simp at h1
private theorem Reps.nil {H:Hp}:Reps H [] []:=⟨rfl,fun i x t h=>by simp at h⟩
end Pv
namespace L2
open PySem PySem.Spec PyProof.Rows
section
variable {X:Cx}{e:Expr}{es:List Expr}{te:TE}{pos:Pos}
private theorem op_le_str:OpR X (compareOp .LtE) (fun x y H Q=>∃i j,x=.str i∧y=.str j∧Q (.bl (!decide (j.cps.toList < i.cps.toList))) H):=by
 intro pins s σ H x y v u Q I rx ry h
 obtain ⟨i,j,rfl,rfl,q⟩:=h
 obtain ⟨t,rfl⟩:=rx
 obtain ⟨t',rfl⟩:=ry
 exact PySem.P.le_str (fin_bl I q rfl)
private theorem strs_of:∀{ys:List Str} {its:List Value},Vals (ys.map V.str) its→StrsAre its ys
 | [],_,.nil=>.nil
 | y::r,_,.cons h t=>by
  obtain ⟨k,rfl⟩:=h
  exact .cons y k (strs_of t)
def rJoin:V→List V→Hp→VK→Prop:=fun x vs H Q=>∃z p ys,x=.str z∧vs=[.ref p]∧H p=some (.lst (ys.map V.str))∧(ys.map (·.length)).sum+ys.length * z.length≤16777216∧Q (.str (Str.join z ys)) H
private theorem mt_join:MtR X "str.join" rJoin:=by
 intro pins s σ H x vs v us Q I rx rv h
 obtain ⟨z,p,ys,rfl,rfl,hH,hz,q⟩:=h
 obtain ⟨t,rfl⟩:=rx
 obtain ⟨u,rfl,ru⟩:=Vals.one rv
 cases ru
 obtain ⟨its,r,pl,_⟩:=I.list (SqL.of hH)
 refine join_list pl.isList (strs_of r) hz fun t' k=>?_
 have e:Txt.join z ys=Str.join z ys:=PySem.StrLaws.glued_eq_join z ys
 rw [e]
 exact ⟨.str _,H,I.tok _,⟨_,rfl⟩,q⟩
end
end L2
namespace Pv
open PySem L2 PyProof.Rows PySem.NumText
def tx (l:List Nat):Str:=⟨l.toArray⟩
private theorem tx_len (l:List Nat):(tx l).length=l.length:=by show l.toArray.size=_;simp
private theorem tx_app (a b:List Nat):tx a++tx b=tx (a++b):=by
 show (⟨a.toArray++b.toArray⟩:Str)=⟨(a++b).toArray⟩
 simp
private theorem tx_join (ls:List (List Nat)):Str.join (tx []) (ls.map tx)=tx ls.flatten:=by
 induction ls with
 | nil=>rfl
 | cons a r ih=>
  cases r with
  | nil=>show tx a=tx _;simp
  | cons b r=>
   show tx a++tx []++Str.join (tx []) ((b::r).map tx)=_
   rw [ih,tx_app,tx_app,List.append_nil]
   rfl
def numL (i:Int):List Nat:=(Str.ofString (toString i)).cps.toList
mutual
def wrT:Th→List Nat
 | .non=>[111]
 | .int i=>110::(numL i++ [59])
 | .str x=>116::(numL x.length++58::x.cps.toList)
 | .tup ts=>40::(wrL ts++ [41])
def wrL:List Th→List Nat
 | []=>[]
 | t::r=>wrT t++wrL r
end
end Pv
namespace Pv
open PySem L2 PyProof.Rows PySem.NumText
end Pv
namespace Pv
open PySem L2
abbrev s_law_row:Stmt:=top 38
private theorem sc_law_row:FnScope ["cell","low"] ["cell"] (defScope s_law_row):=L2.fsc (by decide+kernel)
abbrev s_law_take:Stmt:=top 39
private theorem sc_law_take:FnScope ["row","many","got"] ["row","many"] (defScope s_law_take):=L2.fsc (by decide+kernel)
abbrev s_law_text:Stmt:=top 40
private theorem sc_law_text:FnScope ["row","signs","many"] ["row"] (defScope s_law_text):=L2.fsc (by decide+kernel)
abbrev s_law_thing:Stmt:=top 41
private theorem sc_law_thing:FnScope ["row","deep","kind"] ["row","deep"] (defScope s_law_thing):=L2.fsc (by decide+kernel)
private theorem szl {n:Nat}(h:n≤1000):n≤sizeLine:=Nat.le_of_lt (small1000 h)
def RowV (H:Hp)(row:Addr):Prop:=∃a m:Int,H row=some (.lst [.int a,.int m])∧(m=0∨(m=1∧0≤a∧a < 999999937))
private theorem RowV.keep {H H':Hp}{row:Addr}(r:RowV H row)(s:Same H H'):RowV H' row:=by
 obtain ⟨a,m,e,h⟩:=r
 exact ⟨a,m,s _ _ e,h⟩
private theorem RowV.new {H:Hp}{row p:Addr}{o:HO}(r:RowV H row)(h:H p=none):RowV (upd H p o) row:=by
 obtain ⟨a,m,e,k⟩:=r
 exact ⟨a,m,by rw [upd_ne (ne_of_none e h)];exact e,k⟩
private theorem RowV.ne {H:Hp}{row p:Addr}(r:RowV H row)(h:H p=none):p≠row:=by
 obtain ⟨a,m,e,_⟩:=r
 exact (ne_of_none e h).symm
private theorem RowV.noT {H:Hp}{row:Addr}(r:RowV H row):NoT [row] H:=fun b hb xs z=>by
 cases List.mem_singleton.mp hb
 obtain ⟨a,m,e,_⟩:=r
 rw [e] at z;cases z
private theorem not1 {a b:Addr}(h:a≠b):a∉ [b]:=fun z=>h (List.mem_singleton.mp z)
private theorem same_new {H H1:Hp}{p:Addr}{o:HO}(sm:Same H H1)(h:H1 p=none):Same H (upd H1 p o):=fun b u q=>by
 have q':=sm b u q
 rw [upd_ne (ne_of_none q' h)];exact q'
private theorem same_upd {H H1:Hp}{p:Addr}{o:HO}(sm:Same H H1)(h:H p=none):Same H (upd H1 p o):=fun b u q=>by
 rw [upd_ne (ne_of_none q h)];exact sm b u q
private theorem frm_new {ws:List Addr}{H H1:Hp}{p:Addr}{o:HO}(f:Frm ws H H1)(h:H1 p=none):Frm ws H (upd H1 p o):=f.trans (Frm.new h)
private theorem frm_upd {ws:List Addr}{H H1:Hp}{p:Addr}{o:HO}(f:Frm ws H H1)(h:H p=none):Frm ws H (upd H1 p o):=fun b u n q=>by rw [upd_ne (ne_of_none q h)];exact f b u n q
instance decSign (c:Nat):Decidable (Sign c):=inferInstanceAs (Decidable (32≤c∧c≤126∧c≠37))
def SGs:Str:=Str.ofString " !\"#$&'()*+,-./0123456789:;<=>?@ABCDEFGHIJKLMNOPQRSTUVWXYZ[\\]^_`" ++Str.ofString "abcdefghijklmnopqrstuvwxyz{|}~"
private theorem SG_len:SGs.cps.toList.length=94:=by decide+kernel
private theorem SG_all:∀c∈SGs.cps.toList,Sign c:=by decide+kernel
private theorem SG_at {r:Int}(h0:0≤r)(h1:r < 94):∃c,atI SGs.cps.toList r=some c∧Sign c:=by
 have hl:r.toNat < SGs.cps.toList.length:=by rw [SG_len];omega
 have er:r=((r.toNat:Nat):Int):=by omega
 have q:atI SGs.cps.toList ((r.toNat:Nat):Int)=some SGs.cps.toList[r.toNat]:=atI_nat (List.getElem?_eq_getElem hl)
 rw [←er] at q
 exact ⟨_,q,SG_all _ (List.getElem_mem hl)⟩
def spRow:Sp:=fun vs H Q _=>∃c:Int,vs=[.int c]∧∀(r:Addr) (H':Hp),Same H H'→RowV H' r→H r=none→Q (.ref r) H'
def spTake:Sp:=fun vs H Q _=>∃(row:Addr) (many:Int),vs=[.ref row,.int many]∧RowV H row∧0 < many∧many < 10 ^ 100∧∀(r:Int) (H':Hp),0≤r→r < many→Frm [row] H H'→RowV H' row→Q (.int r) H'
def spText:Sp:=fun vs H Q _=>∃(row:Addr),vs=[.ref row]∧RowV H row∧∀(x:Str) (H':Hp),TxtOk x→Frm [row] H H'→RowV H' row→Q (.str x) H'
def many (n:Nat):Nat:=(3 ^ (n+1) - 1) / 2
def spThing (n:Nat):Sp:=fun vs H Q _=>∃(row:Addr) (deep:Nat),vs=[.ref row,.int (deep:Int)]∧RowV H row∧deep < n∧deep≤3∧
 ∀(t:Th) (v:V) (H':Hp),Wf t→dep t≤deep→nodes t≤many deep→Frm [row] H H'→RowV H' row→Rep H' t v→Q v H'
section
variable {P:Program}{w:World}{K:PySem.W.Frag}{mg:Str→Option Value}{base:Heap}
private theorem ok_row (D:Dfn K mg "_law_row" s_law_row ["cell"]):Fn P w K mg base "_law_row" 1 ["cell"] spRow:=by
 refine D.ok (k:=0) sc_law_row (fun vs H Q E h=>?_) (fun f cdv A outer s H vs Q E hr h=>?_)
 ·obtain ⟨c,rfl,_⟩:=h;rfl
 obtain ⟨c,rfl,q⟩:=h
 refine ⟨_,(pss_cons (ps_if (pt_cmpR op_eq (pe_op op_mod (pv 0) pe_int) pe_int (nomark _))
 (pss_one (ps_ret (pe_lst (pa_cons (pe_op op_fdivL (pv 0) pe_int) (pa_cons pe_int pa_nil)))))
 pss_nil)
 (pss_cons (ps_set (i:=1) sc_law_row.nd rfl (Or.inl rfl) (pe_op op_mod (pv 0) pe_int))
 (pss_one (ps_ret (pe_lst (pa_cons (pe_op op_mod (pe_op op_add (pe_op op_mul (pe_op op_mod (pe_op op_mul (pv 1) (pv 1)) pe_int) (pe_op op_add (pv 1) pe_int)) pe_int) pe_int) (pa_cons pe_int pa_nil))))))),?_⟩
 refine ⟨_,rfl,_,_,rfl,rfl,(show (0:Int) < 2 by decide),rfl,_,rfl,?_⟩
 refine ifB (fun cc=>?_) (fun cc=>?_)
 ·refine ⟨_,rfl,_,_,rfl,rfl,⟨by decide,by decide+kernel⟩,szl (show 2≤1000 by decide),fun p hp=>?_⟩
  exact q p _ (same_new (Same.refl H) hp) ⟨_,_,upd_same,.inl rfl⟩ hp
 ·have b0:0≤c % 999999937:=Int.emod_nonneg _ (by decide)
  have b1:c % 999999937 < 999999937:=Int.emod_lt_of_pos _ (by decide)
  refine ⟨_,rfl,_,_,rfl,rfl,(show (0:Int) < 999999937 by decide),?_⟩
  generalize hd:c % 999999937=d at b0 b1
  show gName 1 (V.int (c % 999999937)) _ _ _
  rw [hd]
  have g0:0≤d * d % 999999937:=Int.emod_nonneg _ (by decide)
  have g1:d * d % 999999937 < 999999937:=Int.emod_lt_of_pos _ (by decide)
  refine ⟨_,rfl,_,rfl,_,_,rfl,rfl,.inl ⟨by omega,by omega⟩,_,_,rfl,rfl,(show (0:Int) < 999999937 by decide),_,rfl,_,_,rfl,rfl,_,_,rfl,rfl,.inl ⟨by omega,by omega⟩,_,_,rfl,rfl,_,_,rfl,rfl,(show (0:Int) < 999999937 by decide),szl (show 2≤1000 by decide),fun p hp=>?_⟩
  exact q p _ (same_new (Same.refl H) hp) ⟨_,_,upd_same,.inr ⟨rfl,Int.emod_nonneg _ (by decide),Int.emod_lt_of_pos _ (by decide)⟩⟩ hp
private theorem ok_take (D:Dfn K mg "_law_take" s_law_take ["row","many"]):Fn P w K mg base "_law_take" 1 ["row","many"] spTake:=by
 refine D.ok (k:=0) sc_law_take (fun vs H Q E h=>?_) (fun f cdv A outer s H vs Q E hr h=>?_)
 ·obtain ⟨row,many,rfl,_⟩:=h;rfl
 obtain ⟨row,many,rfl,⟨a,m,e,hm⟩,h0,h1,q⟩:=h
 refine ⟨_,(pss_cons (ps_if (pt_cmpR op_eq (pe_ix ix_list (pv 0) pe_int (fun _ _=>rfl)) pe_int (nomark _))
 (pss_cons (ps_set (i:=2) sc_law_take.nd rfl (Or.inl rfl) (pe_op op_mod (pe_ix ix_list (pv 0) pe_int (fun _ _=>rfl)) (pv 1)))
 (pss_cons (ps_asg (pe_op op_fdivL (pe_ix ix_list (pv 0) pe_int (fun _ _=>rfl)) (pv 1)) (pg_sub (pv 0) pe_int set_list))
 (pss_one (ps_ret (pv 2)))))
 pss_nil)
 (pss_cons (ps_asg (pe_op op_mod (pe_op op_mul (pe_op op_add (pe_ix ix_list (pv 0) pe_int (fun _ _=>rfl)) pe_int) (pe_op op_add (pe_ix ix_list (pv 0) pe_int (fun _ _=>rfl)) pe_int)) pe_int) (pg_sub (pv 0) pe_int set_list))
 (pss_one (ps_ret (pe_op op_mod (pe_op op_add (pe_op op_mul (pe_ix ix_list (pv 0) pe_int (fun _ _=>rfl)) (pe_op op_pow pe_int pe_int)) pe_int) (pv 1)))))),?_⟩
 refine ⟨_,rfl,row,_,_,_,rfl,rfl,SqL.of e,rfl,rfl,_,rfl,?_⟩
 rcases hm with rfl | ⟨rfl,a0,a1⟩
 ·refine ifT (by decide) ?_
  refine ⟨_,rfl,row,_,_,_,rfl,rfl,SqL.of e,rfl,_,rfl,_,_,rfl,rfl,h0,?_⟩
  refine ⟨_,rfl,row,_,_,_,rfl,rfl,SqL.of e,rfl,_,rfl,_,_,rfl,rfl,⟨h0,h1⟩,_,rfl,row,_,_,_,rfl,rfl,e,rfl,?_⟩
  exact ⟨_,rfl,q _ _ (Int.emod_nonneg _ (by omega)) (Int.emod_lt_of_pos _ h0) (Frm.upd (by simp)) ⟨_,_,upd_same,.inl rfl⟩⟩
 ·refine ifF (by decide) ?_
  refine ⟨_,rfl,row,_,_,_,rfl,rfl,SqL.of e,rfl,_,_,rfl,rfl,_,rfl,row,_,_,_,rfl,rfl,SqL.of e,rfl,_,_,rfl,rfl,_,_,rfl,rfl,.inl ⟨by omega,by omega⟩,_,_,rfl,rfl,(show (0:Int) < 999999937 by decide),_,rfl,row,_,_,_,rfl,rfl,e,rfl,?_⟩
  have z0:0≤(a+32452843) * (a+86028121) % 999999937:=Int.emod_nonneg _ (by decide)
  have z1:(a+32452843) * (a+86028121) % 999999937 < 999999937:=Int.emod_lt_of_pos _ (by decide)
  refine ⟨_,rfl,row,[V.int ((a+32452843) * (a+86028121) % 999999937),V.int 1],_,_,rfl,rfl,SqL.of upd_same,rfl,_,_,rfl,rfl,⟨by decide,by decide,by decide⟩,_,_,rfl,rfl,.inl ⟨by omega,by omega⟩,_,_,rfl,rfl,_,rfl,_,_,rfl,rfl,h0,?_⟩
  exact q _ _ (Int.emod_nonneg _ (by omega)) (Int.emod_lt_of_pos _ h0) (Frm.upd (by simp)) ⟨_,_,upd_same,.inr ⟨rfl,z0,z1⟩⟩
private theorem _root_.Pv.Frm.none_of {row p:Addr}{H H':Hp}(f:Frm [row] H H')(h:H' p=none)(n:p≠row):H p=none:=by
 cases e:H p with
 | none=>rfl
 | some o=>rw [f p o (not1 n) e] at h;cases h
private theorem RowV.upd {H:Hp}{row p:Addr}{o:HO}(r:RowV H row)(n:p≠row):RowV (L2.upd H p o) row:=by
 obtain ⟨a,m,e,k⟩:=r
 exact ⟨a,m,by rw [upd_ne (Ne.symm n)];exact e,k⟩
private theorem joinIf {c:Bool}{A B:Prop}{N:L2.St→Hp→Prop}(Pq:L2.St→Hp→Prop)(b:c=false→(∀σ H,Pq σ H→N σ H)→B)(a:c=true→(∀σ H,Pq σ H→N σ H)→A)(rest:∀σ H,Pq σ H→N σ H):if c=true then A else B:=
 ifB (fun h=>a h rest) (fun h=>b h rest)
private theorem one_sum:∀ds:List Nat,(((ds.map fun c=>tx [c])).map (·.length)).sum=ds.length
 | []=>rfl
 | d::r=>by
  have:=one_sum r
  rw [List.map_cons,List.map_cons,List.sum_cons,this,List.length_cons,tx_len]
  show 1+r.length=r.length+1
  omega
private theorem one_join (ds:List Nat):Str.join (Str.ofString "") (ds.map fun c=>tx [c])=tx ds:=by
 rw [show Str.ofString "" =tx [] from rfl,show (ds.map fun c=>tx [c])=(ds.map fun c=>[c]).map tx from by rw [List.map_map];rfl,tx_join]
 congr 1
 induction ds with
 | nil=>rfl
 | cons d r ih=>rw [List.map_cons,List.flatten_cons,ih];rfl
private theorem ok_text (D:Dfn K mg "_law_text" s_law_text ["row"]) (F_law_take:Fn P w K mg base "_law_take" 1 ["row","many"] spTake) (m_range:mg "range" =none):Fn P w K mg base "_law_text" 2 ["row"] spText:=by
 refine D.ok (k:=1) sc_law_text (fun vs H Q E h=>?_) (fun f cdv A outer s H vs Q E hr h=>?_)
 ·obtain ⟨row,rfl,_⟩:=h;rfl
 obtain ⟨row,rfl,R0,q⟩:=h
 refine ⟨_,(pss_cons (ps_set (i:=1) sc_law_text.nd rfl (Or.inr rfl) pe_str)
 (pss_cons (ps_set (i:=1) sc_law_text.nd rfl (Or.inr rfl) (pe_op op_add_str (pv 1) pe_str))
 (pss_cons (ps_set (i:=2) sc_law_text.nd rfl (Or.inl rfl) (pe_fn F_law_take hr (by omega) (by rfl) (pa_cons (pv 0) (pa_cons pe_int pa_nil))))
 (pss_cons (ps_if (pt_cmpR op_eq (pv 2) pe_int (nomark _))
 (pss_one (ps_set (i:=2) sc_law_text.nd rfl (Or.inl rfl) (pe_fn F_law_take hr (by omega) (by rfl) (pa_cons (pv 0) (pa_cons pe_int pa_nil)))))
 pss_nil)
 (pss_one (ps_ret (pe_bm PySem.F.plainAttrs_str PySem.F.slot_str_join PySem.F.type_str_join mt_join pe_str (pa_cons (pe_lcomp (CompScope.two (y1:= "signs") (y2:= "row") (j1:=1) (j2:=0) (c1:=s.heap.objs.size+2) (c2:=s.heap.objs.size+1) (by rfl) (by rfl) (by decide+kernel) (by decide+kernel) (by rfl) (by decide+kernel) (by decide+kernel) (by decide+kernel) (by rfl) (by rfl) (by decide+kernel) (by rfl) (by rfl) (by first | exact Or.inl rfl | exact Or.inr rfl) (by first | exact Or.inl rfl | exact Or.inr rfl) (by first | exact Or.inl rfl | exact Or.inr rfl) (by first | exact Or.inl rfl | exact Or.inr rfl)) rfl (pi_range1 rfl m_range (pa_cons (pv 2) pa_nil)) (fun _ _ _=>pts_nil) (fun _ _ _=>(pe_ix ix_str (pv 1) (pe_fn F_law_take hr (by omega) (by rfl) (pa_cons (pv 2) (pa_cons pe_int pa_nil))) (fun _ _=>rfl)))) pa_nil)))))))),?_⟩
 refine ⟨_,rfl,_,_,rfl,rfl,szl (by decide+kernel),?_⟩
 refine ⟨_,rfl,row,_,rfl,R0,(show (0:Int) < 9 by decide),(by decide+kernel),fun n1 H1 a0 a1 f1 R1=>?_⟩
 refine ⟨_,rfl,rfl,_,rfl,?_⟩
 refine joinIf (fun σ' H'=>∃n:Int,σ'=[some (.ref row),some (.str SGs),some (.int n)]∧0≤n∧n≤60∧Frm [row] H H'∧RowV H' row) (fun _ k=>k _ _ ⟨n1,rfl,a0,by omega,f1,R1⟩) (fun _ k=>?_) ?_
 ·refine ⟨_,rfl,row,_,rfl,R1,(show (0:Int) < 61 by decide),(by decide+kernel),fun n2 H2 b0 b1 f2 R2=>?_⟩
  exact k _ _ ⟨n2,rfl,b0,by omega,f1.trans f2,R2⟩
 ·rintro σ' H2 ⟨n,rfl,n0,n60,f2,R2⟩
  refine ⟨rfl,_,rfl,_,rfl,by omega,by omega,fun p hp=>?_⟩
  have hHp:=f2.none_of hp (R2.ne hp)
  refine comp_it (J:=Itr 0 n.toNat) (n:=n.toNat) (fun i acc H'=>∃ds:List Nat,acc=(ds.map fun c=>tx [c]).map V.str∧ds.length=i∧(∀c∈ds,Sign c)∧Frm [row] H H'∧RowV H' row∧H' p=some (.lst acc)∧p≠row) ⟨[],rfl,rfl,(fun c h=>nomatch h),frm_new f2 hp,R2.new hp,upd_same,R2.ne hp⟩ (by exact fun i acc H' hi _=>hi) (by exact fun acc H' _=>Nat.le_refl _) ?_ ?_
  ·rintro i acc H' y H'' hi ⟨ds,ha,hl,hs,f3,R3,ep,npr⟩ ⟨e1,e2⟩
   subst e1 e2
   refine tt1 ?_
   refine ⟨_,rfl,_,rfl,row,_,rfl,R3,(show (0:Int) < 94 by decide),(by decide+kernel),fun u H4 u0 u1 f4 R4=>?_⟩
   obtain ⟨c,ec,hc⟩:=SG_at u0 u1
   have hal:acc.length=i:=by rw [ha,List.length_map,List.length_map,hl]
   refine ⟨SGs,_,c,rfl,rfl,szl (by decide+kernel),ec,f4.at ep (not1 npr),Nat.lt_of_lt_of_le (show acc.length < 1000 by omega) (szl (Nat.le_refl _)),nxt hi ⟨ds++ [c],?_,by rw [List.length_append,hl];rfl,?_,?_,?_,upd_same,npr⟩⟩
   ·rw [ha,List.map_append,List.map_append];rfl
   ·intro d hd
    rcases List.mem_append.mp hd with z | z
    ·exact hs d z
    ·rw [List.mem_singleton.mp z];exact hc
   ·exact frm_upd (f3.trans f4) hHp
   ·exact R4.upd npr
  ·rintro acc H' ⟨ds,ha,hl,hs,f3,R3,ep,npr⟩
   refine ⟨_,p,ds.map fun c=>tx [c],rfl,rfl,by rw [ep,ha],?_,?_⟩
   ·rw [one_sum,show (Str.ofString "").length=0 from rfl];omega
   rw [one_join]
   exact q (tx ds) H' ⟨by rw [tx_len];omega,by rw [show (tx ds).cps.toList=ds from by simp [tx]];exact hs⟩ f3 R3
private theorem many_le {n:Nat}(h:n≤3):many n≤40:=by
 match n,h with
 | 0,_=>decide
 | 1,_=>decide
 | 2,_=>decide
 | 3,_=>decide
private theorem many_succ {n:Nat}(h:n≤2):1+3 * many n≤many (n+1):=by
 match n,h with
 | 0,_=>decide
 | 1,_=>decide
 | 2,_=>decide
private theorem many_pos {n:Nat}(h:n≤3):1≤many n:=by
 match n,h with
 | 0,_=>decide
 | 1,_=>decide
 | 2,_=>decide
 | 3,_=>decide
private theorem ok_thing (D:Dfn K mg "_law_thing" s_law_thing ["row","deep"]) (F_law_take:Fn P w K mg base "_law_take" 1 ["row","many"] spTake) (F_law_text:Fn P w K mg base "_law_text" 2 ["row"] spText) (m_range:mg "range" =none) (m_tuple:mg "tuple" =none):
  ∀n:Nat,Fn P w K mg base "_law_thing" (n+2) ["row","deep"] (spThing n)
 | 0=>D.never fun vs H Q E h=>by
   obtain ⟨row,deep,_,_,h1,_⟩:=h
   omega
 | n+1=>by
  have F_law_thing:=ok_thing D F_law_take F_law_text m_range m_tuple n
  refine D.ok (k:=n+2) sc_law_thing (fun vs H Q E h=>?_) (fun f cdv A outer s H vs Q E hr h=>?_)
  ·obtain ⟨row,deep,rfl,_⟩:=h;rfl
  obtain ⟨row,deep,rfl,R0,d1,d3,q⟩:=h
  refine ⟨_,(pss_cons (ps_set (i:=2) sc_law_thing.nd rfl (Or.inl rfl) (pe_fn F_law_take hr (by omega) (by rfl) (pa_cons (pv 0) (pa_cons pe_int pa_nil))))
 (pss_cons (ps_if (pt_cmpR op_eq (pv 2) pe_int (nomark _))
 (pss_one (ps_ret (pe_op op_sub (pe_fn F_law_take hr (by omega) (by rfl) (pa_cons (pv 0) (pa_cons pe_int pa_nil))) pe_int)))
 pss_nil)
 (pss_cons (ps_if (pt_cmpR op_eq (pv 2) pe_int (nomark _))
 (pss_one (ps_ret (pe_op op_sub (pe_fn F_law_take hr (by omega) (by rfl) (pa_cons (pv 0) (pa_cons (pe_op op_add (pe_op op_mul pe_int (pe_op op_pow pe_int pe_int)) pe_int) pa_nil))) (pe_op op_pow pe_int pe_int))))
 pss_nil)
 (pss_cons (ps_if (pt_cmpR op_eq (pv 2) pe_int (nomark _))
 (pss_one (ps_ret (pe_ix ix_list (pe_lst (pa_cons pe_str (pa_cons pe_str (pa_cons pe_int (pa_cons (pe_un un_neg pe_int) pa_nil))))) (pe_fn F_law_take hr (by omega) (by rfl) (pa_cons (pv 0) (pa_cons pe_int pa_nil))) (fun _ _=>rfl))))
 pss_nil)
 (pss_cons (ps_if (pt_cmpR op_eq (pv 2) pe_int (nomark _))
 (pss_one (ps_ret pe_non))
 pss_nil)
 (pss_cons (ps_if (PW.pt (pw_or (pt_cmpR op_eq (pv 2) pe_int (nomark _)) (pw_or1 (pt_cmpR op_eq (pv 1) pe_int (nomark _)))))
 (pss_one (ps_ret (pe_fn F_law_text hr (by omega) (by rfl) (pa_cons (pv 0) pa_nil))))
 pss_nil)
 (pss_one (ps_ret (pe_callTy call_tuple_of (by rfl) m_tuple (by rfl) (pa_cons (pe_lcomp (CompScope.two (y1:= "row") (y2:= "deep") (j1:=0) (j2:=1) (c1:=s.heap.objs.size+1) (c2:=s.heap.objs.size+2) (by rfl) (by rfl) (by decide+kernel) (by decide+kernel) (by rfl) (by decide+kernel) (by decide+kernel) (by decide+kernel) (by rfl) (by rfl) (by decide+kernel) (by rfl) (by rfl) (by first | exact Or.inl rfl | exact Or.inr rfl) (by first | exact Or.inl rfl | exact Or.inr rfl) (by first | exact Or.inl rfl | exact Or.inr rfl) (by first | exact Or.inl rfl | exact Or.inr rfl)) rfl (pi_range1 rfl m_range (pa_cons (pe_fn F_law_take hr (by omega) (by rfl) (pa_cons (pv 0) (pa_cons pe_int pa_nil))) pa_nil)) (fun _ _ _=>pts_nil) (fun _ _ _=>(pe_fn F_law_thing hr (by omega) (by rfl) (pa_cons (pv 1) (pa_cons (pe_op op_sub (pv 2) pe_int) pa_nil))))) pa_nil)))))))))),?_⟩
  have e30:(10:Int) ^ (30:Int).toNat=1000000000000000000000000000000:=by decide+kernel
  have mp:=many_pos d3
  refine ⟨_,rfl,row,_,rfl,R0,(show (0:Int) < 7 by decide),(by decide+kernel),fun kind H1 k0 k1 f1 R1=>?_⟩
  refine ⟨_,rfl,rfl,_,rfl,?_⟩
  refine ifB (fun c=>?_) (fun c=>?_)
  ·refine ⟨_,rfl,row,_,rfl,R1,(show (0:Int) < 9 by decide),(by decide+kernel),fun r H2 r0 r1 f2 R2=>?_⟩
   exact ⟨_,_,rfl,rfl,q (.int _) _ H2 ⟨by omega,by omega⟩ (Nat.zero_le _) mp (f1.trans f2) R2 (.int _)⟩
  refine ⟨_,rfl,rfl,_,rfl,?_⟩
  refine ifB (fun c=>?_) (fun c=>?_)
  ·refine ⟨_,rfl,_,_,rfl,rfl,⟨by decide,by decide,by decide⟩,_,_,rfl,rfl,.inl ⟨by decide,by decide⟩,_,_,rfl,rfl,row,_,rfl,R1,(by decide+kernel),(by decide+kernel),fun r H2 r0 r1 f2 R2=>?_⟩
   refine ⟨_,_,rfl,rfl,⟨by decide,by decide,by decide⟩,_,_,rfl,rfl,q (.int _) _ H2 ?_ (Nat.zero_le _) mp (f1.trans f2) R2 (.int _)⟩
   rw [e30] at r1 ⊢
   exact ⟨by omega,by omega⟩
  refine ⟨_,rfl,rfl,_,rfl,?_⟩
  refine ifB (fun c=>?_) (fun c=>?_)
  ·refine ⟨_,rfl,szl (show 4≤1000 by decide),fun p hp=>?_⟩
   refine ⟨_,rfl,row,_,rfl,R1.new hp,(show (0:Int) < 4 by decide),(by decide+kernel),fun r H2 r0 r1 f2 R2=>?_⟩
   have ep:=f2.at (upd_same (H:=H1) (a:=p) (o:=.lst [.str ("raaAdRnaccsome" :Str),.str ("ElmfalQlaasome" :Str),.int 251530379464423,.int (-1285000000000000000)])) (not1 (R1.ne hp))
   have f02:Frm [row] H H2:=(frm_new f1 hp).trans f2
   rcases (show r=0∨r=1∨r=2∨r=3 by omega) with rfl | rfl | rfl | rfl
   ·exact ⟨p,_,_,_,rfl,rfl,SqL.of ep,rfl,q (.str _) _ H2 ⟨by decide+kernel,by decide+kernel⟩ (Nat.zero_le _) mp f02 R2 (.str _)⟩
   ·exact ⟨p,_,_,_,rfl,rfl,SqL.of ep,rfl,q (.str _) _ H2 ⟨by decide+kernel,by decide+kernel⟩ (Nat.zero_le _) mp f02 R2 (.str _)⟩
   ·exact ⟨p,_,_,_,rfl,rfl,SqL.of ep,rfl,q (.int _) _ H2 ⟨by decide,by decide⟩ (Nat.zero_le _) mp f02 R2 (.int _)⟩
   ·exact ⟨p,_,_,_,rfl,rfl,SqL.of ep,rfl,q (.int _) _ H2 ⟨by decide,by decide⟩ (Nat.zero_le _) mp f02 R2 (.int _)⟩
  refine ⟨_,rfl,rfl,_,rfl,?_⟩
  refine ifB (fun c=>?_) (fun c=>?_)
  ·exact q .non _ H1 trivial (Nat.zero_le _) mp f1 R1 .non
  refine ⟨_,rfl,rfl,_,rfl,?_⟩
  refine ifB (fun c1=>?_) (fun c1=>?_)
  ·refine ifT rfl ?_
   exact ⟨_,rfl,row,rfl,R1,fun x H2 hx f2 R2=>q (.str x) _ H2 hx (Nat.zero_le _) mp (f1.trans f2) R2 (.str x)⟩
  refine ⟨_,rfl,rfl,_,rfl,?_⟩
  rw [dec_i]
  refine ifB (fun c2=>?_) (fun c2=>?_)
  ·exact ⟨_,rfl,row,rfl,R1,fun x H2 hx f2 R2=>q (.str x) _ H2 hx (Nat.zero_le _) mp (f1.trans f2) R2 (.str x)⟩
  have dpos:(deep:Int)≠0:=of_decide_eq_false c2
  have hde:(deep:Int) - 1=((deep - 1:Nat):Int):=by omega
  have hms:=many_succ (n:=deep - 1) (by omega)
  rw [show deep - 1+1=deep from by omega] at hms
  refine ⟨_,rfl,row,_,rfl,R1,(show (0:Int) < 4 by decide),(by decide+kernel),fun m H2 m0 m1 f2 R2=>?_⟩
  refine ⟨_,rfl,by omega,by omega,fun p hp=>?_⟩
  have f02:=f1.trans f2
  have hHp:=f02.none_of hp (R2.ne hp)
  refine comp_it (J:=Itr 0 m.toNat) (n:=m.toNat) (fun i acc H'=>∃ts:List Th,Reps H' ts acc∧ts.length=i∧WfL ts∧depL ts≤deep - 1∧nodesL ts≤i * many (deep - 1)∧Frm [row] H H'∧RowV H' row∧H' p=some (.lst acc)∧p≠row) ⟨[],Reps.nil,rfl,trivial,Nat.zero_le _,Nat.zero_le _,frm_new f02 hp,R2.new hp,upd_same,R2.ne hp⟩ (by exact fun i acc H' hi _=>hi) (by exact fun acc H' _=>Nat.le_refl _) ?_ ?_
  ·rintro i acc H' y H'' hi ⟨ts,rs,hl,hw,hd,hn,f3,R3,ep,npr⟩ ⟨e1,e2⟩
   subst e1 e2
   refine tt1 ?_
   refine ⟨_,rfl,_,rfl,_,_,rfl,rfl,row,deep - 1,by show [V.ref row,V.int ((deep:Int) - 1)]=_;rw [hde],R3,by omega,by omega,fun t v H4 wt dt nt f4 R4 rt=>?_⟩
   have tk:Tups H'' H4:=Frm.tups f4 R3.noT
   have ep4:=f4.at ep (not1 npr)
   have tk2:Tups H4 (upd H4 p (.lst (acc++ [v]))):=Tups.upd fun xs e=>by rw [ep4] at e;cases e
   have hal:acc.length=i:=by rw [rs.1,hl]
   refine ⟨ep4,Nat.lt_of_lt_of_le (show acc.length < 1000 by omega) (szl (Nat.le_refl _)),nxt hi ⟨ts++ [t],((rs.keep tk).keep tk2).snoc (rt.keep tk2),by rw [List.length_append,hl];rfl,hw.snoc wt,?_,?_,frm_upd (f3.trans f4) hHp,R4.upd npr,upd_same,npr⟩⟩
   ·rw [depL_snoc];omega
   ·rw [nodesL_snoc,Nat.add_mul,Nat.one_mul];omega
  ·rintro acc H' ⟨ts,rs,hl,hw,hd,hn,f3,R3,ep,npr⟩
   refine ⟨p,_,rfl,.inl ⟨SqL.of ep,fun l hl2=>?_⟩⟩
   have hlr:l≠row:=R3.ne hl2
   have nl:ts.length≤3:=by omega
   have hn2:nodesL ts≤3 * many (deep - 1):=Nat.le_trans hn (Nat.mul_le_mul_right _ (by omega))
   refine q (.tup ts) _ _ ⟨by omega,hw⟩ ?_ ?_ (frm_new f3 hl2) (R3.new hl2) (.tup upd_same rs.1 fun i x t h1 h2=>(rs.2 i x t h1 h2).keep (Tups.new hl2))
   ·show depL ts+1≤deep
    omega
   ·show 1+nodesL ts≤many deep
    omega
end
end Pv
namespace Pv
open PySem L2
abbrev s_law_same:Stmt:=top 42
private theorem sc_law_same:FnScope ["told","due","one","other"] ["told","due"] (defScope s_law_same):=L2.fsc (by decide+kernel)
def spSameE (n:Nat):Sp:=fun vs H Q _=>∃(t u:Th) (v w:V),vs=[v,w]∧Rep H t v∧Rep H u w∧dep u < n∧dep t≤40∧dep u≤40∧∀H',Same H H'→Q (.bl (eqT t u)) H'
private theorem eqL_drop {ts us:List Th}{i:Nat}(h1:i < ts.length)(h2:i < us.length):eqL (ts.drop i) (us.drop i)=(eqT ts[i] us[i] && eqL (ts.drop (i+1)) (us.drop (i+1))):=by
 rw [List.drop_eq_getElem_cons h1,List.drop_eq_getElem_cons h2]
 rfl
private theorem eqL_len {ts us:List Th}(h:ts.length≠us.length):eqL ts us=false:=by
 cases e:eqL ts us with
 | false=>rfl
 | true=>
  have:eqT (.tup ts) (.tup us)=true:=e
  have z:=(eqT_iff _ _).mp this
  cases z
  exact absurd rfl h
private theorem eqT_ne {t u:Th}(h:t≠u):eqT t u=false:=by
 cases e:eqT t u with
 | false=>rfl
 | true=>exact absurd ((eqT_iff _ _).mp e) h
private theorem isNone {H:Hp}{t:Th}{v:V}(r:Rep H t v):decide (v=V.non)=eqT t .non:=by
 cases r with
 | non=>rfl
 | int i=>rfl
 | str x=>rfl
 | tup e l h=>rfl
section
variable {P:Program}{w:World}{K:PySem.W.Frag}{mg:Str→Option Value}{base:Heap}
private theorem ok_sameE (D:Dfn K mg "_law_same" s_law_same ["told","due"]) (m_isinstance:mg "isinstance" =none) (m_tuple:mg "tuple" =none) (m_int:mg "int" =none) (m_bool:mg "bool" =none) (m_str:mg "str" =none) (m_len:mg "len" =none) (m_zip:mg "zip" =none):
  ∀n:Nat,Fn P w K mg base "_law_same" (n+2) ["told","due"] (spSameE n)
 | 0=>D.never fun vs H Q E h=>by
   obtain ⟨t,u,v,w,_,_,_,h1,_⟩:=h
   omega
 | n+1=>by
  have F_law_same:=ok_sameE D m_isinstance m_tuple m_int m_bool m_str m_len m_zip n
  refine D.ok (k:=n+2) sc_law_same (fun vs H Q E h=>?_) (fun f cdv A outer s H vs Q E hr h=>?_)
  ·obtain ⟨t,u,v,w,rfl,_⟩:=h;rfl
  obtain ⟨t,u,v,w,rfl,r1,r2,hd,hd1,hd2,q⟩:=h
  refine ⟨_,(pss_cons (ps_if (pt_cmpR op_isN (pv 1) pe_non (nomark _))
 (pss_one (ps_ret (pe_cmpR op_isN (pv 0) pe_non (nomark _))))
 pss_nil)
 (pss_cons (ps_if (pt_val (pe_callB (call_isinst) (by rfl) m_isinstance (by rfl) (pa_cons (pv 1) (pa_cons (pe_bltn (v:=.ty "tuple") (by rfl) m_tuple (by rfl) rfl) pa_nil))))
 (pss_cons (ps_if (PW.pt (pw_or (pt_not (pt_val (pe_callB (call_isinst) (by rfl) m_isinstance (by rfl) (pa_cons (pv 0) (pa_cons (pe_bltn (v:=.ty "tuple") (by rfl) m_tuple (by rfl) rfl) pa_nil))))) (pw_or1 (pt_cmpR op_ne (pe_callB (call_len_seq) (by rfl) m_len (by rfl) (pa_cons (pv 0) pa_nil)) (pe_callB (call_len_seq) (by rfl) m_len (by rfl) (pa_cons (pv 1) pa_nil)) (nomark _)))))
 (pss_one (ps_ret pe_bl))
 pss_nil)
 (pss_cons (ps_for PassesOwn.never rfl (pi_zip (by rfl) m_zip (pa_cons (pv 0) (pa_cons (pv 1) pa_nil))) (pg_tupH rfl (pgs_cons (pg_name (i:=2) sc_law_same.nd rfl (Or.inl rfl)) (pgs_cons (pg_name (i:=3) sc_law_same.nd rfl (Or.inl rfl)) pgs_nil)))
 (pss_one (ps_if (pt_not (pt_val (pe_fn F_law_same hr (by omega) (by rfl) (pa_cons (pv 2) (pa_cons (pv 3) pa_nil)))))
 (pss_one (ps_ret pe_bl))
 pss_nil)))
 (pss_one (ps_ret pe_bl))))
 pss_nil)
 (pss_cons (ps_if (pt_val (pe_callB (call_isinst) (by rfl) m_isinstance (by rfl) (pa_cons (pv 1) (pa_cons (pe_bltn (v:=.ty "str") (by rfl) m_str (by rfl) rfl) pa_nil))))
 (pss_one (ps_ret (pe_and (pe_callB (call_isinst) (by rfl) m_isinstance (by rfl) (pa_cons (pv 0) (pa_cons (pe_bltn (v:=.ty "str") (by rfl) m_str (by rfl) rfl) pa_nil))) (pe_one (pe_cmpR (op_eqTh hr) (pv 0) (pv 1) (nomark _))))))
 pss_nil)
 (pss_one (ps_ret (pe_and (pe_callB (call_isinst) (by rfl) m_isinstance (by rfl) (pa_cons (pv 0) (pa_cons (pe_bltn (v:=.ty "int") (by rfl) m_int (by rfl) rfl) pa_nil))) (pe_and (pe_not (pe_callB (call_isinst) (by rfl) m_isinstance (by rfl) (pa_cons (pv 0) (pa_cons (pe_bltn (v:=.ty "bool") (by rfl) m_bool (by rfl) rfl) pa_nil)))) (pe_one (pe_cmpR (op_eqTh hr) (pv 0) (pv 1) (nomark _)))))))))),?_⟩
  have qH:=q H (Same.refl _)
  refine ⟨_,rfl,rfl,_,rfl,?_⟩
  cases r2 with
  | non=>
   refine ifT (by decide) ?_
   refine ⟨_,rfl,rfl,?_⟩
   rw [isNone r1]
   exact qH
  | int i=>
   refine ifF (by rfl) ?_
   refine ⟨_,rfl,_,_,_,_,rfl,.int i,rfl,_,rfl,ifF rfl ?_⟩
   refine ⟨_,rfl,_,_,_,_,rfl,.int i,rfl,_,rfl,ifF rfl ?_⟩
   cases r1 with
   | non=>exact ⟨_,rfl,_,_,_,_,rfl,.non,rfl,_,rfl,ifF rfl qH⟩
   | str x=>exact ⟨_,rfl,_,_,_,_,rfl,.str x,rfl,_,rfl,ifF rfl qH⟩
   | tup e l h=>exact ⟨_,rfl,_,_,_,_,rfl,.tup e,rfl,_,rfl,ifF rfl qH⟩
   | int j=>
    refine ⟨_,rfl,_,_,_,_,rfl,.int j,rfl,_,rfl,ifT rfl ?_⟩
    refine ⟨_,rfl,_,_,_,_,rfl,.int j,rfl,?_⟩
    refine ⟨_,rfl,?_⟩
    refine ⟨_,rfl,?_⟩
    refine ifT rfl ?_
    exact ⟨_,rfl,_,rfl,.int j,.int i,.int j,.int i,by show (0:Nat)≤50;decide,qH⟩
  | str y=>
   refine ifF (by rfl) ?_
   refine ⟨_,rfl,_,_,_,_,rfl,.str y,rfl,_,rfl,ifF rfl ?_⟩
   refine ⟨_,rfl,_,_,_,_,rfl,.str y,rfl,_,rfl,ifT rfl ?_⟩
   cases r1 with
   | non=>exact ⟨_,rfl,_,_,_,_,rfl,.non,rfl,_,rfl,ifF rfl qH⟩
   | int j=>exact ⟨_,rfl,_,_,_,_,rfl,.int j,rfl,_,rfl,ifF rfl qH⟩
   | tup e l h=>exact ⟨_,rfl,_,_,_,_,rfl,.tup e,rfl,_,rfl,ifF rfl qH⟩
   | str x=>
    refine ⟨_,rfl,_,_,_,_,rfl,.str x,rfl,_,rfl,ifT rfl ?_⟩
    exact ⟨_,rfl,_,rfl,.str x,.str y,.str x,.str y,by show (0:Nat)≤50;decide,qH⟩
  | @tup b ys us e2 l2 h2=>
   have hd':depL us+1 < n+1:=hd
   have hd2':depL us+1≤40:=hd2
   refine ifF (by rfl) ?_
   refine ⟨_,rfl,_,_,_,_,rfl,.tup e2,rfl,_,rfl,ifT rfl ?_⟩
   cases r1 with
   | non=>exact ⟨_,rfl,_,_,_,_,rfl,.non,rfl,_,rfl,ifT rfl (ifT rfl qH)⟩
   | int j=>exact ⟨_,rfl,_,_,_,_,rfl,.int j,rfl,_,rfl,ifT rfl (ifT rfl qH)⟩
   | str x=>exact ⟨_,rfl,_,_,_,_,rfl,.str x,rfl,_,rfl,ifT rfl (ifT rfl qH)⟩
   | @tup a xs ts e1 l1 h1=>
    have hd1':depL ts+1≤40:=hd1
    refine ⟨_,rfl,_,_,_,_,rfl,.tup e1,rfl,_,rfl,ifF rfl ?_⟩
    refine ⟨_,rfl,a,_,rfl,.inr (SqT.of e1),_,rfl,b,_,rfl,.inr (SqT.of e2),rfl,_,rfl,?_⟩
    rw [dec_i]
    refine ifB (fun c=>?_) (fun c=>?_)
    ·have ne:ts.length≠us.length:=fun z=>by rw [decide_eq_true (by rw [l1,l2,z])] at c;cases c
     rw [show eqT (.tup ts) (.tup us)=false from eqL_len ne] at qH
     exact qH
    have el:ts.length=us.length:=by
     by_cases z:(xs.length:Int)=(ys.length:Int)
     ·omega
     ·rw [decide_eq_false z] at c;cases c
    refine ⟨_,rfl,_,rfl,a,b,xs,ys,rfl,SqT.of e1,SqT.of e2,?_⟩
    refine for_zip (K:=K) (p:=a) (q:=b) (xs:=xs) (us:=ys) (fun i σ H'=>∃k2 k3,σ=[some (.ref a),some (.ref b),k2,k3]∧Same H H'∧eqL ts us=eqL (ts.drop i) (us.drop i)) ⟨_,_,rfl,Same.refl _,rfl⟩ ?_ ?_ ?_
    ·rintro i σ H1 ⟨k2,k3,rfl,sm,_⟩
     exact ⟨SqT.of (sm _ _ e1),SqT.of (sm _ _ e2)⟩
    ·rintro i x u T σ H1 hx hu hT ⟨k2,k3,rfl,sm,ee⟩
     have hi:i < ts.length:=by rw [←l1];exact (List.getElem?_eq_some_iff.mp hx).1
     have hj:i < us.length:=by omega
     have ht:ts[i]? =some ts[i]:=List.getElem?_eq_getElem hi
     have hv:us[i]? =some us[i]:=List.getElem?_eq_getElem hj
     have sm':Same H (upd H1 T (.tup [x,u])):=same_new sm hT
     have da:=depL_get ht
     have db:=depL_get hv
     rw [eqL_drop hi hj] at ee
     refine ⟨T,_,rfl,SqT.of upd_same,rfl,_,_,rfl,_,_,rfl,rfl,?_⟩
     refine ⟨_,rfl,_,rfl,ts[i],us[i],_,_,rfl,(h1 i x _ hx ht).keep (Same.tups sm'),(h2 i u _ hu hv).keep (Same.tups sm'),by omega,by omega,by omega,fun H2 s2=>⟨_,rfl,?_⟩⟩
     refine ifB (fun c=>?_) (fun c=>?_)
     ·have c':eqT ts[i] us[i]=false:=by cases z:eqT ts[i] us[i] with | true=>rw [z] at c;cases c | false=>rfl
      rw [c',Bool.false_and] at ee
      have:=q H2 (sm'.trans s2)
      rw [show eqT (.tup ts) (.tup us)=false from ee] at this
      exact this
     ·have c':eqT ts[i] us[i]=true:=by cases z:eqT ts[i] us[i] with | true=>rfl | false=>rw [z] at c;cases c
      rw [c',Bool.true_and] at ee
      exact ⟨_,_,rfl,sm'.trans s2,ee⟩
    ·rintro σ H1 ⟨k2,k3,rfl,sm,ee⟩
     have:=q H1 sm
     have dz:eqL (ts.drop (min xs.length ys.length)) (us.drop (min xs.length ys.length))=true:=by
      rw [List.drop_of_length_le (by omega),List.drop_of_length_le (by omega)]
      rfl
     rw [dz] at ee
     rw [show eqT (.tup ts) (.tup us)=true from ee] at this
     exact this
end
end Pv
namespace Pv
open PySem L2
abbrev sseal:Stmt:=top 18
abbrev scodes:Stmt:=top 19
abbrev snumber_of:Stmt:=top 20
private theorem scseal:FnScope ["thing","folded","code"] ["thing"] (defScope sseal):=L2.fsc (by decide+kernel)
private theorem sccodes:FnScope ["thing","raised","sevens","row","part"] ["thing"] (defScope scodes):=L2.fsc (by decide+kernel)
private theorem scnumber_of:FnScope ["signs","number","sign"] ["signs"] (defScope snumber_of):=L2.fsc (by decide+kernel)
def spNumOf:Sp:=fun vs H Q _=>∃x:Str,vs=[.str x]∧Q (.int (numOf x.cps.toList)) H
def spCodes (n:Nat):Sp:=fun vs H Q _=>∃(t:Th) (v:V),vs=[v]∧Rep H t v∧Wf t∧dep t < n∧nodes t≤100∧∀(r:Addr) (H':Hp),Same H H'→H' r=some (.lst ((codesT t).map V.int))→Q (.ref r) H'
def spSeal:Sp:=fun vs H Q _=>∃(t:Th) (v:V),vs=[v]∧Rep H t v∧Wf t∧dep t < 10∧nodes t≤100∧∀(H':Hp),Same H H'→Q (.int (sealT t)) H'
section
variable {P:Program}{w:World}{K:PySem.W.Frag}{mg:Str→Option Value}{base:Heap}
private theorem ok_number_of (D:Dfn K mg "number_of" snumber_of ["signs"]) (m_ord:mg "ord" =none):Fn P w K mg base "number_of" 1 ["signs"] spNumOf:=by
 refine D.ok (k:=0) scnumber_of (fun vs H Q E h=>?_) (fun f cdv A outer s H vs Q E hr h=>?_)
 ·obtain ⟨x,rfl,_⟩:=h;rfl
 obtain ⟨x,rfl,q⟩:=h
 refine ⟨_,(pss_cons (ps_set (i:=1) scnumber_of.nd rfl (Or.inl rfl) pe_int)
 (pss_cons (ps_for PassesOwn.never rfl (pi_str (pv 0)) (pg_name (i:=2) scnumber_of.nd rfl (Or.inl rfl))
 (pss_one (ps_set (i:=1) scnumber_of.nd rfl (Or.inl rfl) (pe_op op_add (pe_op op_mul (pv 1) pe_int) (pe_callB (call_ord) (by rfl) m_ord (by rfl) (pa_cons (pv 2) pa_nil))))))
 (pss_one (ps_ret (pv 1))))),?_⟩
 refine ⟨_,rfl,x,rfl,?_⟩
 refine for_str (z:=x) (fun i σ H'=>H'=H∧∃kk,σ=[some (.str x),some (.int (numOf (x.cps.toList.take i))),kk]) ⟨rfl,_,rfl⟩ ?_ ?_
 ·rintro i c σ H' hc ⟨rfl,kk,rfl⟩
  refine ⟨_,rfl,_,_,rfl,rfl,.inr ⟨by decide,by decide⟩,_,rfl,_,rfl,rfl,_,_,rfl,rfl,rfl,some (.str ⟨#[c]⟩),?_⟩
  have e:x.cps.toList.take (i+1)=x.cps.toList.take i++ [c]:=by
   rw [List.take_add_one,Array.getElem?_toList,hc];rfl
  rw [e,numOf_snoc]
  rfl
 ·rintro σ H' ⟨rfl,kk,rfl⟩
  refine ⟨_,rfl,?_⟩
  have e:x.cps.toList.take x.cps.size=x.cps.toList:=List.take_of_length_le (by simp)
  rw [e]
  exact q
private theorem ok_codes (D:Dfn K mg "codes" scodes ["thing"]) (F_number_of:Fn P w K mg base "number_of" 1 ["signs"] spNumOf) (m_isinstance:mg "isinstance" =none) (m_int:mg "int" =none) (m_str:mg "str" =none) (m_range:mg "range" =none) (m_len:mg "len" =none):
  ∀n:Nat,Fn P w K mg base "codes" (n+2) ["thing"] (spCodes n)
 | 0=>D.never fun vs H Q E h=>by
   obtain ⟨t,v,_,_,_,h1,_⟩:=h
   omega
 | n+1=>by
  have F_codes:=ok_codes D F_number_of m_isinstance m_int m_str m_range m_len n
  refine D.ok (k:=n+2) sccodes (fun vs H Q E h=>?_) (fun f cdv A outer s H vs Q E hr h=>?_)
  ·obtain ⟨t,v,rfl,_⟩:=h;rfl
  obtain ⟨t,v,rfl,hrep,hwf,hdep,hnod,q⟩:=h
  have hlen:=codes_len t hwf
  refine ⟨_,(pss_cons (ps_if (pt_cmpR op_isN (pv 0) pe_non (nomark _))
 (pss_one (ps_ret (pe_lst (pa_cons pe_int pa_nil))))
 pss_nil)
 (pss_cons (ps_if (pt_val (pe_callB (call_isinst) (by rfl) m_isinstance (by rfl) (pa_cons (pv 0) (pa_cons (pe_bltn (v:=.ty "int") (by rfl) m_int (by rfl) rfl) pa_nil))))
 (pss_cons (ps_set (i:=1) sccodes.nd rfl (Or.inl rfl) (pe_op op_add (pv 0) (pe_op op_pow pe_int pe_int)))
 (pss_one (ps_ret (pe_lst (pa_cons pe_int (pa_cons (pe_op op_fdivL (pv 1) (pe_op op_pow pe_int pe_int)) (pa_cons (pe_op op_mod (pv 1) (pe_op op_pow pe_int pe_int)) pa_nil)))))))
 pss_nil)
 (pss_cons (ps_if (pt_val (pe_callB (call_isinst) (by rfl) m_isinstance (by rfl) (pa_cons (pv 0) (pa_cons (pe_bltn (v:=.ty "str") (by rfl) m_str (by rfl) rfl) pa_nil))))
 (pss_cons (ps_lcomp (i:=2) (CompScope.one (y:= "thing") (j:=0) (c:=s.heap.objs.size+1) (by rfl) (by rfl) (by decide+kernel) (by decide+kernel) (by rfl) (by decide+kernel) (by rfl) (by decide+kernel) (by rfl) (by first | exact Or.inl rfl | exact Or.inr rfl) (by first | exact Or.inl rfl | exact Or.inr rfl)) rfl (pi_range3 rfl m_range (pa_cons pe_int (pa_cons (pe_callB (CallR.or call_len_seq call_len_str) (by rfl) m_len (by rfl) (pa_cons (pv 0) pa_nil)) (pa_cons pe_int pa_nil)))) (fun _ _ _=>pts_nil) (fun _ _ _=>(pe_slice sl_str (pv 1) (po_some (pv 0)) (po_some (pe_op op_add (pv 0) pe_int)))) sccodes.nd rfl (Or.inl rfl) (by rfl))
 (pss_one (ps_ret (pe_op op_cat (pe_lst (pa_cons pe_int (pa_cons (pe_callB (CallR.or call_len_seq call_len_str) (by rfl) m_len (by rfl) (pa_cons (pv 0) pa_nil)) pa_nil))) (pe_lcomp (CompScope.zero (by rfl) (by decide+kernel) (by decide+kernel) (by decide+kernel) (by rfl)) rfl (pi_list (pv 2)) (fun _ _ _=>pts_nil) (fun _ _ _=>(pe_fn F_number_of hr (by omega) (by rfl) (pa_cons (pv 0) pa_nil))))))))
 pss_nil)
 (pss_cons (ps_set (i:=3) sccodes.nd rfl (Or.inl rfl) (pe_lst (pa_cons pe_int (pa_cons (pe_callB (CallR.or call_len_seq call_len_str) (by rfl) m_len (by rfl) (pa_cons (pv 0) pa_nil)) pa_nil))))
 (pss_cons (ps_for PassesOwn.never rfl (pi_tup (pv 0)) (pg_name (i:=4) sccodes.nd rfl (Or.inl rfl))
 (pss_one (ps_expr (pe_bm PySem.F.plainAttrs_list PySem.F.slot_list_extend PySem.F.type_list_extend mt_extend (pv 3) (pa_cons (pe_fn F_codes hr (by omega) (by rfl) (pa_cons (pv 4) pa_nil)) pa_nil)))))
 (pss_one (ps_ret (pv 3)))))))),?_⟩
  refine ⟨_,rfl,rfl,_,rfl,?_⟩
  cases hrep with
  | non=>
   refine ifT (by decide) ?_
   refine ⟨szl (show 1≤1000 by decide),fun p hp=>?_⟩
   exact q p _ (Frm.new hp).same upd_same
  | int i=>
   refine ifF (by rfl) ?_
   refine ⟨_,rfl,_,_,_,_,rfl,.int i,rfl,_,rfl,?_⟩
   refine ifT rfl ?_
   refine ⟨_,rfl,_,_,rfl,rfl,⟨by decide,by decide,by decide⟩,_,_,rfl,rfl,?_⟩
   refine ⟨_,rfl,_,_,rfl,rfl,⟨by decide,by decide,by decide⟩,_,_,rfl,rfl,⟨by decide+kernel,by decide+kernel⟩,_,rfl,_,_,rfl,rfl,⟨by decide,by decide,by decide⟩,_,_,rfl,rfl,(show (0:Int) < 10 ^ (15:Int).toNat by decide+kernel),szl (show 3≤1000 by decide),fun p hp=>?_⟩
   exact q p _ (Frm.new hp).same upd_same
  | str x=>
   have hx:x.length≤60:=hwf.1
   refine ifF (by rfl) ?_
   refine ⟨_,rfl,_,_,_,_,rfl,.str x,rfl,_,rfl,?_⟩
   refine ifF rfl ?_
   refine ⟨_,rfl,_,_,_,_,rfl,.str x,rfl,_,rfl,?_⟩
   refine ifT rfl ?_
   refine ⟨_,rfl,.inr ⟨x,rfl,szl (by omega),?_⟩⟩
   refine ⟨_,_,rfl,by omega,by omega,by decide,by decide,fun p hp=>?_⟩
   rw [many7_div]
   refine comp_it (J:=Itrs 0 7 (many7 x)) (n:=many7 x) (fun i acc H'=>acc=(List.range i).map (fun k=>V.str (chunkS x k))∧H'=upd H p (.lst acc)) ⟨rfl,rfl⟩ (by exact fun i acc H' hi _=>hi) (by exact fun acc H' _=>Nat.le_refl _) ?_ ?_
   ·rintro i acc H' y H'' hi ⟨ha,rfl⟩ ⟨e1,e2⟩
    subst e1 e2
    refine tt1 ?_
    refine ⟨_,rfl,_,rfl,_,rfl,_,rfl,_,_,rfl,rfl,_,rfl,x,rfl,szl (by omega),?_⟩
    have hal:acc.length=i:=by rw [ha,List.length_map,List.length_range]
    refine ⟨upd_same,Nat.lt_of_lt_of_le (show acc.length < 1000 by unfold many7 at hi;omega) (szl (Nat.le_refl _)),nxt hi ⟨?_,upd_upd⟩⟩
    rw [List.range_succ,List.map_append,ha,cut_chunk hi]
    rfl
   ·rintro acc H' ⟨ha,rfl⟩
    refine ⟨_,rfl,.inr ⟨x,rfl,szl (by omega),szl (show 2≤1000 by decide),fun p2 hp2=>?_⟩⟩
    have np:p≠p2:=fun z=>by rw [←z,upd_same] at hp2;cases hp2
    have ep:upd (upd H p (.lst acc)) p2 (.lst [.int 3,.int (x.length:Nat)]) p=some (.lst acc):=by rw [upd_ne np];exact upd_same
    have hal:acc.length=many7 x:=by rw [ha,List.length_map,List.length_range]
    refine ⟨_,rfl,p,rfl,⟨_,SqL.of ep⟩,fun p3 hp3=>?_⟩
    have np3:p≠p3:=(ne_of_none ep hp3)
    have np23:p2≠p3:=(ne_of_none upd_same hp3)
    refine comp_it (n:=many7 x) (fun i acc' H'=>acc'=(List.range i).map (fun k=>V.int (numOf (chunk x k)))∧H'=upd (upd (upd H p (.lst acc)) p2 (.lst [.int 3,.int (x.length:Nat)])) p3 (.lst acc')) ⟨rfl,rfl⟩ ?_ ?_ ?_ ?_
    ·rintro i acc' H' hi ⟨_,rfl⟩
     exact ⟨acc,acc[i],SqL.of (by rw [upd_ne np3];exact ep),by rw [List.getElem?_eq_getElem]⟩
    ·rintro acc' H' ⟨_,rfl⟩
     exact ⟨acc,SqL.of (by rw [upd_ne np3];exact ep),by omega⟩
    ·rintro i acc' H' y H'' hi ⟨ha',rfl⟩ ⟨e1,e2⟩
     subst e1
     have ey:=e2 acc (SqL.of (by rw [upd_ne np3];exact ep))
     have ey2:y=V.str (chunkS x i):=by
      rw [ha,List.getElem?_map,List.getElem?_range hi] at ey
      exact (Option.some.inj ey).symm
     subst ey2
     refine tt1 ?_
     refine ⟨_,rfl,_,rfl,upd_same,?_,nxt hi ⟨?_,upd_upd⟩⟩
     ·have:acc'.length=i:=by rw [ha',List.length_map,List.length_range]
      exact Nat.lt_of_lt_of_le (show acc'.length < 1000 by unfold many7 at hi;omega) (szl (Nat.le_refl _))
     ·rw [List.range_succ,List.map_append,ha']
      rfl
    ·rintro acc' H' ⟨ha',rfl⟩
     have hal':acc'.length=many7 x:=by rw [ha',List.length_map,List.length_range]
     refine ⟨p2,p3,[.int 3,.int (x.length:Nat)],acc',rfl,rfl,by rw [upd_ne np23];exact upd_same,upd_same,szl (show 2+acc'.length≤1000 by unfold many7 at hal';omega),fun r hr'=>?_⟩
     refine q r _ (fun b o hb=>?_) ?_
     ·have n1:=ne_of_none hb hp
      have e1:upd H p (.lst acc) b=some o:=by rw [upd_ne n1];exact hb
      have n2:=ne_of_none e1 hp2
      have e2:upd (upd H p (.lst acc)) p2 (.lst [.int 3,.int (x.length:Nat)]) b=some o:=by rw [upd_ne n2];exact e1
      have n3:=ne_of_none e2 hp3
      have e3:upd (upd (upd H p (.lst acc)) p2 (.lst [.int 3,.int (x.length:Nat)])) p3 (.lst acc') b=some o:=by rw [upd_ne n3];exact e2
      rw [upd_ne (ne_of_none e3 hr')]
      exact e3
     ·rw [upd_same,ha']
      show some (HO.lst ([V.int 3,V.int (x.length:Nat)]++_))=some (HO.lst (([3,(x.length:Int)]++sevens x).map V.int))
      rw [List.map_append]
      unfold sevens
      rw [List.map_map]
      rfl
  | @tup a xs ts e hl hrs=>
   have hw:ts.length≤40:=hwf.1
   refine ifF (by rfl) ?_
   refine ⟨_,rfl,_,_,_,_,rfl,.tup e,rfl,_,rfl,?_⟩
   refine ifF rfl ?_
   refine ⟨_,rfl,_,_,_,_,rfl,.tup e,rfl,_,rfl,?_⟩
   refine ifF rfl ?_
   refine ⟨_,rfl,.inl ⟨a,_,rfl,.inr (SqT.of e),szl (show 2≤1000 by decide),fun rw hrw=>?_⟩⟩
   have nra:a≠rw:=ne_of_none e hrw
   have keepT:∀{H':Hp},Same H H'→Tups H H':=fun z=>Same.tups z
   refine ⟨_,rfl,a,rfl,⟨_,SqT.of (by rw [upd_ne nra];exact e)⟩,?_⟩
   refine for_tup (xs:=xs) (fun i σ H'=>∃kk,σ=[some (.ref a),none,none,some (.ref rw),kk]∧Same H H'∧H' rw=some (.lst (([4,(ts.length:Int)]++codesL (ts.take i)).map V.int))) ⟨_,rfl,(Frm.new hrw).same,?_⟩ ?_ ?_ ?_
   ·rw [upd_same,hl]
    rfl
   ·rintro i σ H' hi ⟨kk,rfl,sm,er⟩
    exact SqT.of (sm _ _ e)
   ·rintro i x σ H' hx ⟨kk,rfl,sm,er⟩
    have hil:i < ts.length:=by rw [←hl];exact (List.getElem?_eq_some_iff.mp hx).1
    have ht:ts[i]? =some ts[i]:=List.getElem?_eq_getElem hil
    have hcl:=codesL_len ts hwf.2
    have hcl':=codesL_take_len ts i
    have hcn:1+nodesL ts≤100:=hnod
    have hsub:nodes ts[i]≤nodesL ts:=nodesL_get ht
    refine ⟨_,rfl,.inl ⟨rfl,_,SqL.of er⟩,_,rfl,ts[i],x,rfl,(hrs i x _ hx ht).keep (keepT sm),hwf.2.get ht,?_,by omega,fun r H2 sm2 er2=>?_⟩
    ·have:=depL_get ht
     have:depL ts+1 < n+1:=hdep
     omega
    have hc1:=codes_len ts[i] (hwf.2.get ht)
    refine ⟨rw,r,_,_,rfl,rfl,sm2 _ _ er,er2,szL ?_,?_⟩
    ·simp only [List.length_map,List.length_append,List.length_cons,List.length_nil]
     omega
    ·refine ⟨_,rfl,fun b o hb=>?_,?_⟩
     ·rw [upd_ne (ne_of_none hb hrw)]
      exact sm2 _ _ (sm _ _ hb)
     ·rw [upd_same,codesL_take ht]
      simp only [List.map_append,List.append_assoc]
   ·rintro σ H' ⟨kk,rfl,sm,er⟩
    refine ⟨_,rfl,q rw H' sm ?_⟩
    rw [er,hl,List.take_length]
    rfl
private theorem ok_seal (D:Dfn K mg "seal" sseal ["thing"]) (F_codes:Fn P w K mg base "codes" 12 ["thing"] (spCodes 10)):Fn P w K mg base "seal" 13 ["thing"] spSeal:=by
 refine D.ok (k:=12) scseal (fun vs H Q E h=>?_) (fun f cdv A outer s H vs Q E hr h=>?_)
 ·obtain ⟨t,v,rfl,_⟩:=h;rfl
 obtain ⟨t,v,rfl,hrep,hwf,hdep,hnod,q⟩:=h
 refine ⟨_,(pss_cons (ps_set (i:=1) scseal.nd rfl (Or.inl rfl) pe_int)
 (pss_cons (ps_for PassesOwn.never rfl (pi_list (pe_fn F_codes hr (by omega) (by rfl) (pa_cons (pv 0) pa_nil))) (pg_name (i:=2) scseal.nd rfl (Or.inl rfl))
 (pss_one (ps_set (i:=1) scseal.nd rfl (Or.inl rfl) (pe_op op_mod (pe_op op_add (pe_op op_mul (pv 1) pe_int) (pv 2)) (pe_op op_sub (pe_op op_pow pe_int pe_int) pe_int)))))
 (pss_one (ps_ret (pe_op op_add (pv 1) pe_int))))),?_⟩
 refine ⟨_,rfl,t,v,rfl,hrep,hwf,hdep,hnod,fun r H1 sm er=>?_⟩
 refine ⟨r,rfl,⟨_,SqL.of er⟩,?_⟩
 refine for_list (xs:=(codesT t).map V.int) (fun i σ H'=>H'=H1∧∃kk,σ=[some v,some (.int (foldS ((codesT t).take i))),kk]) ⟨rfl,_,rfl⟩ ?_ ?_ ?_
 ·rintro i σ H' _ ⟨rfl,_⟩
  exact SqL.of er
 ·rintro i x σ H' hx ⟨rfl,kk,rfl⟩
  rw [List.getElem?_map] at hx
  obtain ⟨c,hc,rfl⟩:=Option.map_eq_some_iff.mp hx
  have rg:=foldS_range ((codesT t).take i)
  have e61:(2:Int) ^ (61:Int).toNat - 1=2305843009213693951:=by decide+kernel
  refine ⟨_,rfl,_,_,rfl,rfl,.inl ⟨by omega,by omega⟩,_,rfl,_,_,rfl,rfl,_,_,rfl,rfl,⟨by decide,by decide,by decide⟩,_,_,rfl,rfl,_,_,rfl,rfl,(show (0:Int) < 2 ^ (61:Int).toNat - 1 by decide+kernel),rfl,some (.int c),?_⟩
  rw [foldS_take hc,←e61]
  rfl
 ·rintro σ H' ⟨rfl,kk,rfl⟩
  refine ⟨_,rfl,_,_,rfl,rfl,?_⟩
  rw [List.length_map,List.take_length]
  exact q _ sm
end
end Pv
namespace Pv
open PySem L2
abbrev sVault___init__:Stmt:=inClass (top 33) 0
private theorem scVault___init__:FnScope ["self"] ["self"] (defScope sVault___init__):=L2.fsc (by decide+kernel)
abbrev sVault_refuse_clash:Stmt:=inClass (top 33) 1
private theorem scVault_refuse_clash:FnScope ["self","number","thing"] ["self","number","thing"] (defScope sVault_refuse_clash):=L2.fsc (by decide+kernel)
abbrev sVault_lay:Stmt:=inClass (top 33) 2
private theorem scVault_lay:FnScope ["self","thing","number"] ["self","thing"] (defScope sVault_lay):=L2.fsc (by decide+kernel)
abbrev sVault_thing:Stmt:=inClass (top 33) 3
private theorem scVault_thing:FnScope ["self","number"] ["self","number"] (defScope sVault_thing):=L2.fsc (by decide+kernel)
abbrev sClash___init__:Stmt:=inClass (top 5) 0
private theorem scClash___init__:FnScope ["self","one","other"] ["self","one","other"] (defScope sClash___init__):=L2.fsc (by decide+kernel)
abbrev srising:Stmt:=top 32
private theorem scrising:FnScope ["laid"] ["laid"] (defScope srising):=L2.fsc (by decide+kernel)
abbrev sKeeper_things:Stmt:=inClass (top 34) 0
private theorem scKeeper_things:FnScope ["self"] ["self"] (defScope sKeeper_things):=L2.fsc (by decide+kernel)
structure Good (t:Th):Prop where
 wf:Wf t
 dp:dep t≤8
 nd:nodes t≤80
structure Flds (fs:List (Str ×V))(d:Addr):Prop where
 la:fs.lookup ("laid" :Str)=some (V.ref d)
 n1:fs.lookup ("refuse_clash" :Str)=none
 n2:fs.lookup ("lay" :Str)=none
 n3:fs.lookup ("thing" :Str)=none
 n4:fs.lookup ("things" :Str)=none
 n5:fs.lookup ("paper" :Str)=none
private theorem flds1 (d:Addr):Flds [("laid",.ref d)] d:=⟨rfl,rfl,rfl,rfl,rfl,rfl⟩
structure VOk (H:Hp)(C a d:Addr)(kvs:List (Key ×V)):Prop where
 ob:∃dx fs,H a=some (.ins C dx fs)∧Flds fs d
 di:H d=some (.dK kvs)
private theorem VOk.keep {H H':Hp}{C a d:Addr}{kvs:List (Key ×V)}(v:VOk H C a d kvs)(s:Same H H'):VOk H' C a d kvs:=by
 obtain ⟨⟨dx,fs,e,f⟩,e2⟩:=v
 exact ⟨⟨dx,fs,s _ _ e,f⟩,s _ _ e2⟩
def LaidOk (H:Hp)(kvs:List (Key ×V)):Prop:=∀(n:Int) (v:V),valV kvs (.inl n)=some v→∃t,Rep H t v∧Good t∧sealT t=n
private theorem LaidOk.keep {H H':Hp}{kvs:List (Key ×V)}(l:LaidOk H kvs)(s:Tups H H'):LaidOk H' kvs:=fun n v e=>by
 obtain ⟨t,r,g⟩:=l n v e
 exact ⟨t,r.keep s,g⟩
def ClashAt (E:XK)(CC:Addr)(H:Hp)(t1 t2:Th)(v1 v2:V):Prop:=∀(H':Hp) (x:Addr),Same H H'→H' x=some (xdO x [("one",v1),("other",v2)])→E (.ref CC) (some x) H'
def spVInit (C:Addr):Sp:=fun vs H Q _=>∃(a dx:Addr),vs=[.ref a]∧H a=some (.ins C dx [])∧∀d,H d=none→Q .non (upd (upd H d (.dK [])) a (.ins C dx [("laid",.ref d)]))
def spCInit (CC:Addr):Sp:=fun vs H Q _=>∃(x:Addr) (v1 v2:V),vs=[.ref x,v1,v2]∧H x=some (exO x CC none true)∧
 ∀d,H d=none→d≠x→Q .non (upd (upd (upd H d (xdO d [("one",v1)])) x (exO x CC (some d) true)) d (xdO d [("one",v1),("other",v2)]))
def spRefuse (C CC:Addr):Sp:=fun vs H Q E=>∃(a d:Addr) (kvs:List (Key ×V)) (n:Int) (t:Th) (v:V),vs=[.ref a,.int n,v]∧VOk H C a d kvs∧LaidOk H kvs∧Rep H t v∧Good t∧sealT t=n∧
 ((∀t1 v1,valV kvs (.inl n)=some v1→Rep H t1 v1→t1=t)→Q .non H)∧
 (∀t1 v1,valV kvs (.inl n)=some v1→Rep H t1 v1→Good t1→sealT t1=sealT t→t1≠t→ClashAt E CC H t1 t v1 v)
def spLay (C CC:Addr):Sp:=fun vs H Q E=>∃(a d:Addr) (kvs:List (Key ×V)) (t:Th) (v:V),vs=[.ref a,v]∧VOk H C a d kvs∧LaidOk H kvs∧kvs.length≤900∧Rep H t v∧Good t∧
 (∀H',Same H H'→(∀t1 v1,valV kvs (.inl (sealT t))=some v1→Rep H t1 v1→t1=t)→Q (.int (sealT t)) (upd H' d (.dK (putK kvs (.inl (sealT t)) v))))∧
 (∀t1 v1 H',Same H H'→valV kvs (.inl (sealT t))=some v1→Rep H' t1 v1→Good t1→sealT t1=sealT t→t1≠t→ClashAt E CC H' t1 t v1 v)
def spThingV (C:Addr):Sp:=fun vs H Q _=>∃(a d:Addr) (kvs:List (Key ×V)) (n:Int) (v:V),vs=[.ref a,.int n]∧VOk H C a d kvs∧valV kvs (.inl n)=some v∧Q v H
def spThingX (C CN:Addr):Sp:=fun vs H Q E=>∃(a d:Addr) (kvs:List (Key ×V)) (n:Int),vs=[.ref a,.int n]∧VOk H C a d kvs∧(∀v,valV kvs (.inl n)=some v→Q v H)∧(valV kvs (.inl n)=none→E (.ref CN) none H)
def Risen (cs:List (Int ×Th))(H:Hp)(Q:VK):Prop:=∀(l:Addr) (ns:List Int) (xs:List V) (H':Hp),Same H H'→H l=none→ns.Perm (cs.map (·.1))→ns.Pairwise (· ≤ ·)→H' l=some (.lst xs)→RepL H' (worths cs ns) xs→Q (.ref l) H'
def spRising:Sp:=fun vs H Q _=>∃(d:Addr) (kvs:List (Key ×V)) (cs:List (Int ×Th)),vs=[.ref d]∧H d=some (.dK kvs)∧DRep H cs kvs∧cs.length < 64∧Risen cs H Q
def spThings (C:Addr):Sp:=fun vs H Q _=>∃(a d:Addr) (kvs:List (Key ×V)) (cs:List (Int ×Th)),vs=[.ref a]∧VOk H C a d kvs∧DRep H cs kvs∧cs.length < 64∧Risen cs H Q
private theorem DRep.laidOk {H:Hp}{cs:List (Int ×Th)}{kvs:List (Key ×V)}(r:DRep H cs kvs)(g:∀p∈cs,Good p.2∧sealT p.2=p.1):LaidOk H kvs:=fun n v e=>by
 obtain ⟨t,e1,rv⟩:=r.back e
 obtain ⟨g1,g2⟩:=g _ (lookT_mem e1)
 exact ⟨t,rv,g1,g2⟩
private theorem putF_two (v1 v2:V):putF ("other" :Str) v2 [(("one" :Str),v1)]=[(("one" :Str),v1),(("other" :Str),v2)]:=by
 unfold putF
 rw [if_neg (by decide)]
 rfl
private theorem Rep.uniq {H:Hp}{t u:Th}{v:V}(r:Rep H t v):Rep H u v→t=u:=by
 induction r generalizing u with
 | non=>intro q;cases q;rfl
 | int i=>intro q;cases q;rfl
 | str x=>intro q;cases q;rfl
 | @tup a xs ts e l h ih=>
  intro q
  cases q with
  | @tup _ ys us e' l' h'=>
   rw [e] at e'
   cases e'
   congr 1
   apply List.ext_getElem?
   intro i
   by_cases hi:i < ts.length
   ·have h1:ts[i]? =some ts[i]:=List.getElem?_eq_getElem hi
    have h2:us[i]? =some us[i]:=List.getElem?_eq_getElem (by omega)
    have h3:xs[i]? =some xs[i]:=List.getElem?_eq_getElem (by omega)
    rw [h1,h2,ih i _ _ h3 h1 (h' i _ _ h3 h2)]
   ·rw [List.getElem?_eq_none (by omega),List.getElem?_eq_none (by omega)]
section
variable {P:Program}{w:World}{K:PySem.W.Frag}{mg:Str→Option Value}{base:Heap}{C CC:Addr}{x:Str}
private theorem ok_vinit (D:Mkd K mg x C "Vault.__init__" sVault___init__ ["self"]) (c:Cls K C) (nl:NoAttr K C "laid"):Mkr P w K mg base x C 1 ["self"] (spVInit C):=by
 refine D.ok (k:=0) scVault___init__ (fun vs H Q E h=>?_) (fun f cdv A outer s H vs Q E hr h=>?_)
 ·obtain ⟨a,dx,rfl,_⟩:=h;rfl
 obtain ⟨a,dx,rfl,ea,q⟩:=h
 refine ⟨_,(pss_one (ps_fld (pv 0) pe_dnewK (by rfl))),?_⟩
 intro d hd
 exact ⟨_,rfl,a,C,dx,[],rfl,by rw [upd_ne (ne_of_none ea hd)];exact ea,c,nl,by decide,q d hd⟩
private theorem ok_cinit (D:XId K mg "Clash" CC "Clash.__init__" sClash___init__ ["self","one","other"]) (n1:NoAttr K CC "one") (n2:NoAttr K CC "other"):XI P w K mg base "Clash" CC 1 ["self","one","other"] (spCInit CC):=by
 have c:=D.cl
 refine D.ok (k:=0) scClash___init__ (fun vs H Q E h=>?_) (fun f cdv A outer s H vs Q E hr h=>?_)
 ·obtain ⟨x,v1,v2,rfl,_⟩:=h;rfl
 obtain ⟨x,v1,v2,rfl,ex,q⟩:=h
 refine ⟨_,(pss_cons (ps_xf1 (pv 0) (pv 1) (by rfl))
 (pss_one (ps_xf2 (pv 0) (pv 2) (by rfl)))),?_⟩
 refine ⟨_,rfl,_,rfl,x,CC,true,rfl,ex,c,n1,fun d hd hdx=>?_⟩
 refine ⟨_,rfl,_,rfl,x,CC,true,d,[("one",v1)],rfl,upd_same,by rw [upd_ne hdx];exact upd_same,hdx,c,n2,(show (1:Nat) < 1000 by decide),?_⟩
 show Q .non (upd _ d (xdO d (putF "other" v2 [("one",v1)])))
 rw [putF_two]
 exact q d hd hdx
private theorem ok_refuse (D:Mdf K C "refuse_clash" "Vault.refuse_clash" sVault_refuse_clash ["self","number","thing"]) (X_Clash:XI P w K mg base "Clash" CC 1 ["self","one","other"] (spCInit CC)) (c:Cls K C) (nl:NoAttr K C "laid"):
  Mt P w K mg base (CX1 P w) C "refuse_clash" 23 ["self","number","thing"] (spRefuse C CC):=by
 refine D.okX (k:=22) scVault_refuse_clash (fun vs H Q E h=>?_) (fun f cdv A outer s H vs Q E hr h=>?_)
 ·obtain ⟨a,d,kvs,n,t,v,rfl,_⟩:=h;rfl
 obtain ⟨a,d,kvs,n,t,v,rfl,vo,lo,rt,gt,sn,q,qe⟩:=h
 obtain ⟨⟨dx,fs,eo,fl⟩,ed⟩:=vo
 refine ⟨_,(pss_one (ps_if (PW.pt (pw_and (pt_cmp (pc_din (hu_of hr) (pv 1) (pe_fld (pv 0) (by rfl)))) (pw_and1 (pt_cmpR (op_neTh hr) (pe_dget (hu_of hr) (pe_fld (pv 0) (by rfl)) (pv 1) (fun _ _=>rfl)) (pv 2) (nomark _)))))
 (pss_one (ps_raise raise_fn (hr.hd (by decide)) (pe_xi X_Clash hr (by omega) (by rfl) (pa_cons (pe_dget (hu_of hr) (pe_fld (pv 0) (by rfl)) (pv 1) (fun _ _=>rfl)) (pa_cons (pv 2) pa_nil)))))
 pss_nil)),?_⟩
 refine ⟨_,rfl,_,rfl,a,C,dx,_,_,rfl,eo,c,nl,fl.la,d,_,rfl,DGet.k (k:=Sum.inl n) ed,_,rfl,?_⟩
 cases ev:valV kvs (Sum.inl n) with
 | none=>exact ifF rfl (ifF rfl (q fun t1 v1 e=>by rw [ev] at e;cases e))
 | some v1=>
  obtain ⟨t1,r1,g1,s1⟩:=lo n v1 ev
  have gd:=g1.dp
  have dg:DGet H d (.int n) (some v1):=by rw [←ev];exact DGet.k (k:=Sum.inl n) ed
  refine ifT rfl ?_
  refine ⟨_,rfl,a,C,dx,_,_,rfl,eo,c,nl,fl.la,_,rfl,d,v1,rfl,dg,_,rfl,t1,t,r1,rt,by omega,_,rfl,?_⟩
  refine ifB (fun cc=>?_) (fun cc=>?_)
  ·have ne:t1≠t:=fun z=>by rw [z,eqT_refl] at cc;cases cc
   refine ⟨_,rfl,a,C,dx,_,_,rfl,eo,c,nl,fl.la,_,rfl,d,v1,rfl,dg,_,rfl,szl (show 2≤1000 by decide),fun x hx=>?_⟩
   refine ⟨x,v1,v,rfl,upd_same,fun d' hd' hdx=>⟨rfl,?_⟩⟩
   have hd2:H d'=none:=by rw [upd_ne hdx] at hd';exact hd'
   refine ⟨x,CC,some d',rfl,by rw [upd_ne (Ne.symm hdx)];exact upd_same,X_Clash.cl.q,?_⟩
   refine qe t1 v1 ev r1 g1 (s1.trans sn.symm) ne _ d' (fun b o hb=>?_) ?_
   ·have b1:b≠x:=ne_of_none hb hx
    have b2:b≠d':=ne_of_none hb hd2
    rw [del_ne b1,upd_ne b2,upd_ne b1,upd_ne b2,upd_ne b1];exact hb
   ·rw [del_ne hdx];exact upd_same
  ·have eq:t1=t:=(eqT_iff t1 t).mp (by cases z:eqT t1 t with | true=>rfl | false=>rw [z] at cc;cases cc)
   exact q fun t2 v2 e r2=>by rw [ev] at e;cases e;exact (r2.uniq r1).trans eq
private theorem ok_lay (D:Mdf K C "lay" "Vault.lay" sVault_lay ["self","thing"]) (M_refuse_clash:Mt P w K mg base (CX1 P w) C "refuse_clash" 23 ["self","number","thing"] (spRefuse C CC)) (F_seal:Fn P w K mg base "seal" 13 ["thing"] spSeal) (c_K:Cls K C) (nl:NoAttr K C "laid"):
  Mt P w K mg base (CX1 P w) C "lay" 24 ["self","thing"] (spLay C CC):=by
 refine D.okX (k:=23) scVault_lay (fun vs H Q E h=>?_) (fun f cdv A outer s H vs Q E hr h=>?_)
 ·obtain ⟨a,d,kvs,t,v,rfl,_⟩:=h;rfl
 obtain ⟨a,d,kvs,t,v,rfl,vo,lo,hl,rt,gt,q,qe⟩:=h
 have gd:=gt.dp
 have gn:=gt.nd
 refine ⟨_,(pss_cons (ps_set (i:=2) scVault_lay.nd rfl (Or.inl rfl) (pe_fn F_seal hr (by omega) (by rfl) (pa_cons (pv 1) pa_nil)))
 (pss_cons (ps_expr (pe_mt (pv 0) c_K M_refuse_clash hr (by omega) pass_fn (pa_cons (pv 2) (pa_cons (pv 1) pa_nil))))
 (pss_cons (ps_dput (hu_of hr) (pe_fld (pv 0) (by rfl)) (pv 2) (pv 1) (by rfl))
 (pss_one (ps_ret (pv 2)))))),?_⟩
 refine ⟨_,rfl,t,v,rfl,rt,gt.wf,by omega,by omega,fun H1 s1=>?_⟩
 have vo1:=vo.keep s1
 obtain ⟨⟨dx,fs,eo,fl⟩,ed⟩:=id vo1
 have rt1:=rt.keep (Same.tups s1)
 refine ⟨_,rfl,a,dx,_,rfl,eo,fl.n1,_,rfl,_,rfl,a,d,kvs,_,t,v,rfl,vo1,lo.keep (Same.tups s1),rt1,gt,rfl,fun same=>?_,fun t1 v1 ev r1 g1 sn ne=>qe t1 v1 H1 s1 ev r1 g1 sn ne⟩
 refine ⟨_,rfl,_,rfl,a,C,dx,_,_,rfl,eo,c_K,nl,fl.la,_,rfl,d,_,rfl,DPut.k (k:=Sum.inl (sealT t)) ed (Nat.lt_of_le_of_lt hl (by decide)),?_⟩
 exact ⟨_,rfl,q H1 s1 fun t1 v1 e r=>same t1 v1 e (r.keep (Same.tups s1))⟩
private theorem ok_thingv (D:Mdf K C "thing" "Vault.thing" sVault_thing ["self","number"]) (c:Cls K C) (nl:NoAttr K C "laid"):Mt P w K mg base CX0 C "thing" 1 ["self","number"] (spThingV C):=by
 refine D.ok (k:=0) scVault_thing (fun vs H Q E h=>?_) (fun f cdv A outer s H vs Q E hr h=>?_)
 ·obtain ⟨a,d,kvs,n,v,rfl,_⟩:=h;rfl
 obtain ⟨a,d,kvs,n,v,rfl,⟨⟨dx,fs,eo,fl⟩,ed⟩,ev,q⟩:=h
 have dg:DGet H d (.int n) (some v):=by rw [←ev];exact DGet.k (k:=Sum.inl n) ed
 refine ⟨_,(pss_cons (ps_if (pt_cmp (pc_dnotin (hu_of hr) (pv 1) (pe_fld (pv 0) (by rfl))))
 (pss_one ps_never)
 pss_nil)
 (pss_one (ps_ret (pe_dget (hu_of hr) (pe_fld (pv 0) (by rfl)) (pv 1) (fun _ _=>rfl))))),?_⟩
 refine ⟨_,rfl,_,rfl,a,C,dx,_,_,rfl,eo,c,nl,fl.la,d,_,rfl,dg,_,rfl,ifF rfl ?_⟩
 exact ⟨_,rfl,a,C,dx,_,_,rfl,eo,c,nl,fl.la,_,rfl,d,v,rfl,dg,q⟩
private theorem ok_thingX {CN:Addr}(D:Mdf K C "thing" "Vault.thing" sVault_thing ["self","number"]) (X_NoPaper:XP K mg "NoPaper" CN) (c:Cls K C) (nl:NoAttr K C "laid"):Mt P w K mg base (CX1 P w) C "thing" 21 ["self","number"] (spThingX C CN):=by
 refine D.okX (k:=20) scVault_thing (fun vs H Q E h=>?_) (fun f cdv A outer s H vs Q E hr h=>?_)
 ·obtain ⟨a,d,kvs,n,rfl,_⟩:=h;rfl
 obtain ⟨a,d,kvs,n,rfl,⟨⟨dx,fs,eo,fl⟩,ed⟩,q,qe⟩:=h
 refine ⟨_,(pss_cons (ps_if (pt_cmp (pc_dnotin (hu_of hr) (pv 1) (pe_fld (pv 0) (by rfl))))
 (pss_one (ps_raise raise_fn (hr.hd (by decide)) (pe_xp X_NoPaper (by rfl) (pa_cons pe_str pa_nil))))
 pss_nil)
 (pss_one (ps_ret (pe_dget (hu_of hr) (pe_fld (pv 0) (by rfl)) (pv 1) (fun _ _=>rfl))))),?_⟩
 refine ⟨_,rfl,_,rfl,a,C,dx,_,_,rfl,eo,c,nl,fl.la,d,_,rfl,DGet.k (k:=Sum.inl n) ed,_,rfl,?_⟩
 cases ev:valV kvs (Sum.inl n) with
 | none=>
  refine ifT rfl ⟨szl (show 1≤1000 by decide),fun e he=>⟨e,CN,none,rfl,upd_same,X_NoPaper.cl.q,?_⟩⟩
  rw [del_upd he]
  exact qe ev
 | some v=>
  have dg:DGet H d (.int n) (some v):=by rw [←ev];exact DGet.k (k:=Sum.inl n) ed
  refine ifF rfl ?_
  exact ⟨_,rfl,a,C,dx,_,_,rfl,eo,c,nl,fl.la,_,rfl,d,v,rfl,dg,q v ev⟩
private theorem risen {cs:List (Int ×Th)}{kvs:List (Key ×V)}{H:Hp}{d l:Addr}{ns:List Int}(r:DRep H cs kvs)(hl:H l=none)(hp:ns.Perm (keysI kvs)):ns.Perm (cs.map (·.1))∧∀n∈ns,∃t v,lookT cs n=some t∧valV kvs (.inl n)=some v∧Rep H t v:=by
 rw [r.keys.1] at hp
 refine ⟨hp,fun n hn=>?_⟩
 obtain ⟨t,e⟩:=lookT_key (hp.subset hn)
 obtain ⟨v,e',rv⟩:=r.some e
 exact ⟨t,v,e,e',rv⟩
private theorem ok_rising (D:Dfn K mg "rising" srising ["laid"]) (m_sorted:mg "sorted" =none):Fn P w K mg base "rising" 21 ["laid"] spRising:=by
 refine D.ok (k:=20) scrising (fun vs H Q E h=>?_) (fun f cdv A outer s H vs Q E hr h=>?_)
 ·obtain ⟨d,kvs,cs,rfl,_⟩:=h;rfl
 obtain ⟨d,kvs,cs,rfl,ed,dr,h64,q⟩:=h
 refine ⟨_,(pss_one (ps_ret (pe_lcomp (CompScope.one (y:= "laid") (j:=0) (c:=s.heap.objs.size+1) (by rfl) (by rfl) (by decide+kernel) (by decide+kernel) (by rfl) (by decide+kernel) (by rfl) (by decide+kernel) (by rfl) (by first | exact Or.inl rfl | exact Or.inr rfl) (by first | exact Or.inl rfl | exact Or.inr rfl)) rfl (pi_list (pe_callB (call_sortedD (hr.hd (by decide))) (by rfl) m_sorted (by rfl) (pa_cons (pv 0) pa_nil))) (fun _ _ _=>pts_nil) (fun _ _ _=>(pe_dget (hu_of hr) (pv 1) (pv 0) (fun _ _=>rfl)))))),?_⟩
 refine ⟨_,rfl,d,kvs,rfl,ed,dr.keys.2,by rw [dr.len];exact h64,fun l ns hl hp hs=>?_⟩
 obtain ⟨hp',all⟩:=risen (d:=d) dr hl hp
 have e1:upd H l (.lst (ns.map V.int)) l=some (.lst (ns.map V.int)):=upd_same
 have s1:Same H (upd H l (.lst (ns.map V.int))):=same_new (Same.refl H) hl
 generalize upd H l (.lst (ns.map V.int))=H1 at e1 s1
 refine ⟨l,rfl,⟨_,SqL.of e1⟩,fun p hp1=>?_⟩
 have hn64:ns.length < 64:=by rw [hp'.length_eq,List.length_map];exact h64
 refine comp_it (n:=ns.length) (fun i acc H'=>Same H1 H'∧H' p=some (.lst acc)∧acc.length=i∧RepL H' (worths cs (ns.take i)) acc) ⟨same_new (Same.refl H1) hp1,upd_same,rfl,.nil⟩ ?_ ?_ ?_ ?_
 ·rintro i acc H' hi ⟨sm,ep,la,rr⟩
  exact ⟨ns.map V.int,.int ns[i],SqL.of (sm _ _ e1),by rw [List.getElem?_map,List.getElem?_eq_getElem hi];rfl⟩
 ·rintro acc H' ⟨sm,ep,la,rr⟩
  exact ⟨ns.map V.int,SqL.of (sm _ _ e1),by rw [List.length_map];exact Nat.le_refl _⟩
 ·rintro i acc H' y H'' hi ⟨sm,ep,la,rr⟩ ⟨z1,z2⟩
  subst z1
  have ey:=z2 (ns.map V.int) (SqL.of (sm _ _ e1))
  have ey2:y=V.int ns[i]:=by
   rw [List.getElem?_map,List.getElem?_eq_getElem hi] at ey
   exact (Option.some.inj ey).symm
  subst ey2
  obtain ⟨t,v,lt,lv,rv⟩:=all ns[i] (List.getElem_mem hi)
  have dg:DGet H'' d (.int ns[i]) (some v):=by rw [←lv];exact DGet.k (k:=Sum.inl ns[i]) (sm _ _ (s1 _ _ ed))
  refine tt1 ?_
  refine ⟨_,rfl,_,rfl,d,v,rfl,dg,ep,Nat.lt_of_lt_of_le (show acc.length < 1000 by omega) (szl (Nat.le_refl _)),nxt hi ⟨same_upd sm hp1,upd_same,by rw [List.length_append,la];rfl,?_⟩⟩
  have tk:Tups H'' (upd H'' p (.lst (acc++ [v]))):=Tups.upd fun xs z=>by rw [ep] at z;cases z
  have ew:worths cs (ns.take (i+1))=worths cs (ns.take i)++ [t]:=by
   unfold worths
   rw [List.take_add_one,List.getElem?_eq_getElem hi,List.map_append]
   show _++ [(lookT cs ns[i]).getD .non]=_
   rw [lt];rfl
  rw [ew]
  exact RepL.snoc ((rv.keep (Same.tups (fun b o e=>sm b o (s1 b o e)))).keep tk) (rr.keep tk)
 ·rintro acc H' ⟨sm,ep,la,rr⟩
  rw [List.take_length] at rr
  refine q p ns acc H' (fun b o e=>sm b o (s1 b o e)) ?_ hp' hs ep rr
  cases z:H p with
  | none=>rfl
  | some o=>rw [s1 _ _ z] at hp1;cases hp1
private theorem ok_things (D:Mdf K C "things" "Keeper.things" sKeeper_things ["self"]) (F_rising:Fn P w K mg base "rising" 21 ["laid"] spRising) (c:Cls K C) (nl:NoAttr K C "laid"):Mt P w K mg base CX0 C "things" 22 ["self"] (spThings C):=by
 refine D.ok (k:=21) scKeeper_things (fun vs H Q E h=>?_) (fun f cdv A outer s H vs Q E hr h=>?_)
 ·obtain ⟨a,d,kvs,cs,rfl,_⟩:=h;rfl
 obtain ⟨a,d,kvs,cs,rfl,⟨⟨dx,fs,eo,fl⟩,ed⟩,dr,h64,q⟩:=h
 exact ⟨_,(pss_one (ps_ret (pe_fn F_rising hr (by omega) (by rfl) (pa_cons (pe_fld (pv 0) (by rfl)) pa_nil)))),_,rfl,a,C,dx,_,_,rfl,eo,c,nl,fl.la,d,kvs,cs,rfl,ed,dr,h64,q⟩
end
end Pv
namespace Pv
open PySem L2
def addT (cs:List (Int ×Th))(n:Int)(t:Th):List (Int ×Th):=match lookT cs n with | none=>cs++ [(n,t)] | some _=>cs
def Fits (cs:List (Int ×Th))(n:Int)(t:Th):Prop:=lookT cs n=none∨lookT cs n=some t
structure GoodC (cs:List (Int ×Th)):Prop where
 nd:(cs.map (·.1)).Nodup
 gd:∀p∈cs,Good p.2∧sealT p.2=p.1
private theorem addT_new {cs:List (Int ×Th)}{n:Int}{t:Th}(h:lookT cs n=none):addT cs n t=cs++ [(n,t)]:=by unfold addT;rw [h]
private theorem addT_old {cs:List (Int ×Th)}{n:Int}{t u:Th}(h:lookT cs n=some u):addT cs n t=cs:=by unfold addT;rw [h]
private theorem addT_len (cs:List (Int ×Th))(n:Int)(t:Th):(addT cs n t).length≤cs.length+1:=by
 cases e:lookT cs n with
 | none=>rw [addT_new e,List.length_append];exact Nat.le_refl _
 | some u=>rw [addT_old e];omega
private theorem DRep.add {H:Hp}{cs:List (Int ×Th)}{kvs:List (Key ×V)}{n:Int}{t:Th}{v:V}(r:DRep H cs kvs)(h:Rep H t v)(f:Fits cs n t)(nd:(cs.map (·.1)).Nodup):DRep H (addT cs n t) (putK kvs (.inl n) v):=by
 rcases f with f | f
 ·rw [addT_new f];exact r.put h f
 ·rw [addT_old f];exact r.again h f nd
private theorem GoodC.add {cs:List (Int ×Th)}{n:Int}{t:Th}(g:GoodC cs)(gt:Good t)(sn:sealT t=n):GoodC (addT cs n t):=by
 cases e:lookT cs n with
 | some u=>rw [addT_old e];exact g
 | none=>
  rw [addT_new e]
  refine ⟨?_,fun p hp=>?_⟩
  ·rw [List.map_append,List.nodup_append]
   refine ⟨g.nd,by simp,fun a ha b hb=>?_⟩
   cases List.mem_singleton.mp hb
   exact fun z=>lookT_none e (by have z':a=n:=z;rw [←z'];exact ha)
  ·rcases List.mem_append.mp hp with h | h
   ·exact g.gd p h
   ·cases List.mem_singleton.mp h
    exact ⟨gt,sn⟩
private theorem GoodC.nil:GoodC []:=⟨List.nodup_nil,fun p h=>by cases h⟩
private theorem GoodC.dep {cs:List (Int ×Th)}{n:Int}{t:Th}(g:GoodC cs)(e:lookT cs n=some t):Good t∧sealT t=n:=g.gd _ (lookT_mem e)
private theorem lookT_add {cs:List (Int ×Th)}{n m:Int}{t u:Th}(e:lookT cs m=some u):lookT (addT cs n t) m=some u:=by
 cases z:lookT cs n with
 | some y=>rw [addT_old z];exact e
 | none=>rw [addT_new z,lookT_snoc,e]
private theorem lookT_added {cs:List (Int ×Th)}{n:Int}{t:Th}(f:Fits cs n t):lookT (addT cs n t) n=some t:=by
 rcases f with f | f
 ·rw [addT_new f,lookT_snoc,f];exact if_pos rfl
 ·rw [addT_old f];exact f
private theorem lookT_addI {cs:List (Int ×Th)}{n m:Int}{t u:Th}(e:lookT (addT cs n t) m=some u):lookT cs m=some u∨(m=n∧u=t):=by
 cases z:lookT cs n with
 | some y=>rw [addT_old z] at e;exact .inl e
 | none=>
  rw [addT_new z,lookT_snoc] at e
  cases y:lookT cs m with
  | some w=>rw [y] at e;exact .inl e
  | none=>
   rw [y] at e
   by_cases q:n=m
   ·have e':(if n=m then some t else none)=some u:=e
    rw [if_pos q] at e';cases e';exact .inr ⟨q.symm,rfl⟩
   ·have e':(if n=m then some t else none)=some u:=e
    rw [if_neg q] at e';cases e'
end Pv
namespace Pv
open PySem L2 PySem.NumText
abbrev sis_whole:Stmt:=top 26
abbrev sis_thing:Stmt:=top 27
abbrev sis_thing_within:Stmt:=top 28
abbrev sis_tuple_within:Stmt:=top 29
abbrev shas_signs_of_things:Stmt:=top 30
private theorem scis_whole:FnScope ["value"] ["value"] (defScope sis_whole):=L2.fsc (by decide+kernel)
private theorem scis_thing:FnScope ["thing"] ["thing"] (defScope sis_thing):=L2.fsc (by decide+kernel)
private theorem scis_thing_within:FnScope ["thing","deep"] ["thing","deep"] (defScope sis_thing_within):=L2.fsc (by decide+kernel)
private theorem scis_tuple_within:FnScope ["parts","deep","part"] ["parts","deep"] (defScope sis_tuple_within):=L2.fsc (by decide+kernel)
private theorem schas_signs_of_things:FnScope ["text","sign"] ["text"] (defScope shas_signs_of_things):=L2.fsc (by decide+kernel)
private theorem lt1 (c k:Nat):decide ([c] < [k])=decide (c < k):=by
 by_cases h:c < k
 ·rw [decide_eq_true h];exact decide_eq_true (by simp [List.cons_lt_cons_iff,h])
 ·rw [decide_eq_false h];exact decide_eq_false (by simp [List.cons_lt_cons_iff];omega)
def spWhole:Sp:=fun vs H Q _=>(∃i:Int,vs=[.int i]∧Q (.bl true) H)∨(vs=[.non]∧Q (.bl false) H)
def spSigns:Sp:=fun vs H Q _=>∃x:Str,vs=[.str x]∧(∀c∈x.cps.toList,Sign c)∧Q (.bl true) H
def spWT (n:Nat):Sp:=fun vs H Q _=>∃(t:Th) (v:V) (d:Nat),vs=[v,.int (d:Int)]∧Rep H t v∧Wf t∧dep t≤d∧dep t < n∧Q (.bl true) H
def spTW (n:Nat):Sp:=fun vs H Q _=>∃(ts:List Th) (v:V) (d:Nat),vs=[v,.int (d:Int)]∧Rep H (.tup ts) v∧Wf (.tup ts)∧depL ts+1≤d∧depL ts < n∧Q (.bl true) H
def spIsT:Sp:=fun vs H Q _=>∃(t:Th) (v:V),vs=[v]∧Rep H t v∧Wf t∧dep t≤5∧Q (.bl true) H
section
variable {P:Program}{w:World}{K:PySem.W.Frag}{mg:Str→Option Value}{base:Heap}{t1 t2 t3 t4 t5:Tok}
private theorem ok_whole (D:Dfn K mg "is_whole" sis_whole ["value"]) (m_isinstance:mg "isinstance" =none) (m_int:mg "int" =none) (m_bool:mg "bool" =none):Fn P w K mg base "is_whole" 1 ["value"] spWhole:=by
 refine D.ok (k:=0) scis_whole (fun vs H Q E h=>?_) (fun f cdv A outer s H vs Q E hr h=>?_)
 ·rcases h with ⟨i,rfl,_⟩ | ⟨rfl,_⟩ <;> rfl
 refine ⟨_,(pss_one (ps_ret (pe_and (pe_callB (call_isinst) (by rfl) m_isinstance (by rfl) (pa_cons (pv 0) (pa_cons (pe_bltn (v:=.ty "int") (by rfl) m_int (by rfl) rfl) pa_nil))) (pe_one (pe_not (pe_callB (call_isinst) (by rfl) m_isinstance (by rfl) (pa_cons (pv 0) (pa_cons (pe_bltn (v:=.ty "bool") (by rfl) m_bool (by rfl) rfl) pa_nil)))))))),?_⟩
 rcases h with ⟨i,rfl,q⟩ | ⟨rfl,q⟩
 ·refine ⟨_,rfl,_,_,_,_,rfl,.int i,rfl,_,rfl,ifT rfl ?_⟩
  refine ⟨_,rfl,_,_,_,_,rfl,.int i,rfl,_,rfl,q⟩
 ·exact ⟨_,rfl,_,_,_,_,rfl,.non,rfl,_,rfl,ifF rfl q⟩
private theorem ok_signs (D:Dfn K mg "has_signs_of_things" shas_signs_of_things ["text"]) (m_ord:mg "ord" =none) (g_PERCENT:mg "PERCENT" =some (.int 37 t5)):Fn P w K mg base "has_signs_of_things" 1 ["text"] spSigns:=by
 refine D.ok (k:=0) schas_signs_of_things (fun vs H Q E h=>?_) (fun f cdv A outer s H vs Q E hr h=>?_)
 ·obtain ⟨x,rfl,_⟩:=h;rfl
 obtain ⟨x,rfl,hx,q⟩:=h
 refine ⟨_,(pss_cons (ps_for PassesOwn.never rfl (pi_str (pv 0)) (pg_name (i:=1) schas_signs_of_things.nd rfl (Or.inl rfl))
 (pss_one (ps_if (PW.pt (pw_or (pt_not (pt_chain op_le_str op_le_str pe_str (pv 1) pe_str)) (pw_or1 (pt_cmpR op_eq (pe_callB (call_ord) (by rfl) m_ord (by rfl) (pa_cons (pv 1) pa_nil)) (pe_glob (v:=.int 37) (by rfl) g_PERCENT ⟨_,rfl⟩) (nomark _)))))
 (pss_one (ps_ret pe_bl))
 pss_nil)))
 (pss_one (ps_ret pe_bl))),?_⟩
 refine ⟨_,rfl,x,rfl,?_⟩
 refine for_str (z:=x) (fun i σ H'=>∃k,σ=[some (.str x),k]∧H'=H) ⟨_,rfl,rfl⟩ ?_ ?_
 ·rintro i c σ H' hc ⟨k,rfl,rfl⟩
  have hs:Sign c:=hx c (by
   have:=(Array.getElem?_toList (xs:=x.cps) (i:=i)).trans hc
   exact List.mem_of_getElem? this)
  obtain ⟨h1,h2,h3⟩:=hs
  have e1:(!decide ((⟨#[c]⟩:Str).cps.toList < (Str.ofString " ").cps.toList))=true:=by
   show (!decide ([c] < [32]))=true
   rw [lt1,decide_eq_false (by omega)];rfl
  have e2:(!decide ((Str.ofString "~").cps.toList < (⟨#[c]⟩:Str).cps.toList))=true:=by
   show (!decide ([126] < [c]))=true
   rw [lt1,decide_eq_false (by omega)];rfl
  refine ⟨_,rfl,_,_,rfl,rfl,_,rfl,ifT e1 ?_⟩
  refine ⟨_,_,rfl,rfl,_,rfl,?_⟩
  refine ifF (by rw [e2];rfl) ?_
  refine ⟨_,rfl,_,rfl,rfl,rfl,_,rfl,?_⟩
  rw [dec_i]
  refine ifF (decide_eq_false ?_) ⟨_,rfl,rfl⟩
  show¬((c:Int)=37)
  omega
 ·rintro σ H' ⟨k,rfl,rfl⟩
  exact q
private theorem ok_tuplew {n:Nat}(D:Dfn K mg "is_tuple_within" sis_tuple_within ["parts","deep"]) (F_is_thing_within:Fn P w K mg base "is_thing_within" (2 * n+2) ["thing","deep"] (spWT n)) (m_len:mg "len" =none) (g_MOST_PARTS:mg "MOST_PARTS" =some (.int 40 t2)):Fn P w K mg base "is_tuple_within" (2 * n+3) ["parts","deep"] (spTW n):=by
 refine D.ok (k:=2 * n+2) scis_tuple_within (fun vs H Q E h=>?_) (fun f cdv A outer s H vs Q E hr h=>?_)
 ·obtain ⟨ts,v,d,rfl,_⟩:=h;rfl
 obtain ⟨ts,v,d,rfl,rv,hw,hd,hdn,q⟩:=h
 cases rv with
 | @tup a xs _ e l h=>
 have h40:ts.length≤40:=hw.1
 obtain ⟨d',rfl⟩:∃d',d=d'+1:=⟨d - 1,by omega⟩
 have ed:((d'+1:Nat):Int) - 1=(d':Int):=by omega
 refine ⟨_,(pss_cons (ps_if (PW.pt (pw_or (pt_cmpR op_eq (pv 1) pe_int (nomark _)) (pw_or1 (pt_cmpR op_gt (pe_callB (call_len_seq) (by rfl) m_len (by rfl) (pa_cons (pv 0) pa_nil)) (pe_glob (v:=.int 40) (by rfl) g_MOST_PARTS ⟨_,rfl⟩) (nomark _)))))
 (pss_one (ps_ret pe_bl))
 pss_nil)
 (pss_cons (ps_for PassesOwn.never rfl (pi_tup (pv 0)) (pg_name (i:=2) scis_tuple_within.nd rfl (Or.inl rfl))
 (pss_one (ps_if (pt_not (pt_val (pe_fn F_is_thing_within hr (by omega) (by rfl) (pa_cons (pv 2) (pa_cons (pe_op op_sub (pv 1) pe_int) pa_nil)))))
 (pss_one (ps_ret pe_bl))
 pss_nil)))
 (pss_one (ps_ret pe_bl)))),?_⟩
 refine ⟨_,rfl,rfl,_,rfl,?_⟩
 rw [dec_i]
 refine ifF (decide_eq_false (by omega)) ?_
 refine ⟨_,rfl,a,xs,rfl,.inr (SqT.of e),_,_,rfl,rfl,_,rfl,ifF (decide_eq_false (by omega)) ?_⟩
 refine ⟨_,rfl,a,rfl,⟨_,SqT.of e⟩,?_⟩
 refine for_tup (xs:=xs) (fun i σ H'=>∃kk,σ=[some (.ref a),some (.int ((d'+1:Nat):Int)),kk]∧H'=H) ⟨_,rfl,rfl⟩ ?_ ?_ ?_
 ·rintro i σ H' hi ⟨kk,rfl,rfl⟩
  exact SqT.of e
 ·rintro i x σ H' hx ⟨kk,rfl,rfl⟩
  have hil:i < ts.length:=by rw [←l];exact (List.getElem?_eq_some_iff.mp hx).1
  have ht:ts[i]? =some ts[i]:=List.getElem?_eq_getElem hil
  have hdi:=depL_get ht
  refine ⟨_,rfl,_,rfl,_,_,rfl,rfl,ts[i],x,d',?_,h i x _ hx ht,hw.2.get ht,by omega,by omega,?_⟩
  ·show [x,V.int (((d'+1:Nat):Int) - 1)]=_
   rw [ed]
  ·exact ⟨_,rfl,ifF rfl ⟨some x,rfl,rfl⟩⟩
 ·rintro σ H' ⟨kk,rfl,rfl⟩
  exact q
private theorem ok_withinT (D:Dfn K mg "is_thing_within" sis_thing_within ["thing","deep"]) (Dt:Dfn K mg "is_tuple_within" sis_tuple_within ["parts","deep"]) (F_is_whole:Fn P w K mg base "is_whole" 1 ["value"] spWhole) (F_has_signs_of_things:Fn P w K mg base "has_signs_of_things" 1 ["text"] spSigns)
  (m_isinstance:mg "isinstance" =none) (m_tuple:mg "tuple" =none) (m_str:mg "str" =none) (m_int:mg "int" =none) (m_len:mg "len" =none) (m_abs:mg "abs" =none) (g_MOST_SIGNS:mg "MOST_SIGNS" =some (.int 60 t1)) (g_MOST_PARTS:mg "MOST_PARTS" =some (.int 40 t2)):
  ∀n:Nat,Fn P w K mg base "is_thing_within" (2 * n+2) ["thing","deep"] (spWT n)
 | 0=>D.never fun vs H Q E h=>by
   obtain ⟨t,v,d,_,_,_,_,h1,_⟩:=h
   omega
 | n+1=>by
  have F_is_tuple_within:=ok_tuplew Dt (ok_withinT D Dt F_is_whole F_has_signs_of_things m_isinstance m_tuple m_str m_int m_len m_abs g_MOST_SIGNS g_MOST_PARTS n) m_len g_MOST_PARTS
  refine D.ok (k:=2 * n+3) scis_thing_within (fun vs H Q E h=>?_) (fun f cdv A outer s H vs Q E hr h=>?_)
  ·obtain ⟨t,v,d,rfl,_⟩:=h;rfl
  obtain ⟨t,v,d,rfl,rv,hw,hd,hdn,q⟩:=h
  refine ⟨_,(pss_cons (ps_if (pt_val (pe_callB (call_isinst) (by rfl) m_isinstance (by rfl) (pa_cons (pv 0) (pa_cons (pe_bltn (v:=.ty "tuple") (by rfl) m_tuple (by rfl) rfl) pa_nil))))
 (pss_one (ps_ret (pe_fn F_is_tuple_within hr (by omega) (by rfl) (pa_cons (pv 0) (pa_cons (pv 1) pa_nil)))))
 pss_nil)
 (pss_cons (ps_if (pt_val (pe_callB (call_isinst) (by rfl) m_isinstance (by rfl) (pa_cons (pv 0) (pa_cons (pe_bltn (v:=.ty "str") (by rfl) m_str (by rfl) rfl) pa_nil))))
 (pss_one (ps_ret (pe_and (pe_cmpR op_le (pe_callB (call_len_str) (by rfl) m_len (by rfl) (pa_cons (pv 0) pa_nil)) (pe_glob (v:=.int 60) (by rfl) g_MOST_SIGNS ⟨_,rfl⟩) (nomark _)) (pe_one (pe_fn F_has_signs_of_things hr (by omega) (by rfl) (pa_cons (pv 0) pa_nil))))))
 pss_nil)
 (pss_cons (ps_if (pt_val (pe_fn F_is_whole hr (by omega) (by rfl) (pa_cons (pv 0) pa_nil)))
 (pss_one (ps_ret (pe_cmpR op_le (pe_callB (call_abs) (by rfl) m_abs (by rfl) (pa_cons (pv 0) pa_nil)) (pe_op op_pow pe_int pe_int) (nomark _))))
 pss_nil)
 (pss_one (ps_ret (pe_cmpR op_isN (pv 0) pe_non (nomark _))))))),?_⟩
  cases rv with
  | non=>
   refine ⟨_,rfl,_,_,_,_,rfl,.non,rfl,_,rfl,ifF rfl ?_⟩
   refine ⟨_,rfl,_,_,_,_,rfl,.non,rfl,_,rfl,ifF rfl ?_⟩
   refine ⟨_,rfl,.inr ⟨rfl,_,rfl,ifF rfl ?_⟩⟩
   exact ⟨_,rfl,rfl,q⟩
  | int i=>
   have h0:=hw.1
   have h1:=hw.2
   refine ⟨_,rfl,_,_,_,_,rfl,.int i,rfl,_,rfl,ifF rfl ?_⟩
   refine ⟨_,rfl,_,_,_,_,rfl,.int i,rfl,_,rfl,ifF rfl ?_⟩
   refine ⟨_,rfl,.inl ⟨i,rfl,_,rfl,ifT rfl ?_⟩⟩
   refine ⟨_,rfl,i,rfl,_,_,rfl,rfl,⟨by decide,by decide,by decide⟩,_,_,rfl,rfl,?_⟩
   have e:decide ((if i < 0 then -i else i)≤(10:Int) ^ (30:Int).toNat)=true:=decide_eq_true (by
    show (if i < 0 then -i else i)≤(10:Int) ^ 30
    split <;> omega)
   show Q (.bl (decide ((if i < 0 then -i else i)≤(10:Int) ^ (30:Int).toNat))) H
   rw [e]
   exact q
  | str x=>
   have hl:x.length≤60:=hw.1
   refine ⟨_,rfl,_,_,_,_,rfl,.str x,rfl,_,rfl,ifF rfl ?_⟩
   refine ⟨_,rfl,_,_,_,_,rfl,.str x,rfl,_,rfl,ifT rfl ?_⟩
   refine ⟨_,rfl,x,rfl,szl (by omega),_,_,rfl,rfl,_,rfl,ifT (decide_eq_true (by omega)) ?_⟩
   exact ⟨_,rfl,x,rfl,hw.2,q⟩
  | @tup a xs ts e l h=>
   refine ⟨_,rfl,_,_,_,_,rfl,.tup e,rfl,_,rfl,ifT rfl ?_⟩
   have hd':depL ts+1≤d:=hd
   have hdn':depL ts+1 < n+1:=hdn
   exact ⟨_,rfl,_,rfl,ts,_,d,rfl,.tup e l h,hw,hd',by omega,q⟩
private theorem ok_isT (D:Dfn K mg "is_thing" sis_thing ["thing"]) (F_is_thing_within:Fn P w K mg base "is_thing_within" 14 ["thing","deep"] (spWT 6)) (g_MOST_DEEP:mg "MOST_DEEP" =some (.int 5 t3)):Fn P w K mg base "is_thing" 15 ["thing"] spIsT:=by
 refine D.ok (k:=14) scis_thing (fun vs H Q E h=>?_) (fun f cdv A outer s H vs Q E hr h=>?_)
 ·obtain ⟨t,v,rfl,_⟩:=h;rfl
 obtain ⟨t,v,rfl,rv,hw,hd,q⟩:=h
 exact ⟨_,(pss_one (ps_ret (pe_fn F_is_thing_within hr (by omega) (by rfl) (pa_cons (pv 0) (pa_cons (pe_glob (v:=.int 5) (by rfl) g_MOST_DEEP ⟨_,rfl⟩) pa_nil))))),⟨_,rfl,t,v,5,rfl,rv,hw,hd,by omega,q⟩⟩
end
end Pv
namespace Pv
open PySem L2
abbrev sReader___init__:Stmt:=inClass (top 35) 0
private theorem scReader___init__:FnScope ["self","keeper"] ["self","keeper"] (defScope sReader___init__):=L2.fsc (by decide+kernel)
abbrev sReader_lay:Stmt:=inClass (top 35) 1
private theorem scReader_lay:FnScope ["self","thing","number"] ["self","thing"] (defScope sReader_lay):=L2.fsc (by decide+kernel)
abbrev sReader_thing:Stmt:=inClass (top 35) 2
private theorem scReader_thing:FnScope ["self","number","read"] ["self","number"] (defScope sReader_thing):=L2.fsc (by decide+kernel)
abbrev sReader_paper:Stmt:=inClass (top 35) 3
private theorem scReader_paper:FnScope ["self"] ["self"] (defScope sReader_paper):=L2.fsc (by decide+kernel)
def rFs (dl kp dn:Addr):List (Str ×V):=[("laid",.ref dl),("keeper",.ref kp),("noted",.ref dn)]
private theorem flds3 (dl kp dn:Addr):Flds (rFs dl kp dn) dl:=⟨rfl,rfl,rfl,rfl,rfl,rfl⟩
structure ROk (H:Hp)(R a dl kp dn:Addr)(kvs nvs:List (Key ×V)):Prop where
 ob:∃dx,H a=some (.ins R dx (rFs dl kp dn))
 di:H dl=some (.dK kvs)
 no:H dn=some (.dK nvs)
private theorem ROk.keep {H H':Hp}{R a dl kp dn:Addr}{kvs nvs:List (Key ×V)}(v:ROk H R a dl kp dn kvs nvs)(s:Same H H'):ROk H' R a dl kp dn kvs nvs:=by
 obtain ⟨⟨dx,e⟩,e2,e3⟩:=v
 exact ⟨⟨dx,s _ _ e⟩,s _ _ e2,s _ _ e3⟩
private theorem ROk.vok {H:Hp}{R a dl kp dn:Addr}{kvs nvs:List (Key ×V)}(v:ROk H R a dl kp dn kvs nvs):VOk H R a dl kvs:=by
 obtain ⟨⟨dx,e⟩,e2,e3⟩:=v
 exact ⟨⟨dx,_,e,flds3 dl kp dn⟩,e2⟩
def spRInit (R:Addr):Sp:=fun vs H Q _=>∃(a kp dx:Addr),vs=[.ref a,.ref kp]∧H a=some (.ins R dx [])∧
 ∀(dl dn:Addr) (H':Hp),(∀b o,b≠a→H b=some o→H' b=some o)→H dl=none→H dn=none→dl≠dn→H' a=some (.ins R dx (rFs dl kp dn))→H' dl=some (.dK [])→H' dn=some (.dK [])→Q .non H'
def Alike (H:Hp)(kvs:List (Key ×V))(t:Th):Prop:=∀t1 v1,valV kvs (.inl (sealT t))=some v1→Rep H t1 v1→t1=t
def spRLay (R C CC:Addr):Sp:=fun vs H Q E=>∃(a dl kp dn dk:Addr) (kvs nvs kvk:List (Key ×V)) (t:Th) (v:V),vs=[.ref a,v]∧ROk H R a dl kp dn kvs nvs∧VOk H C kp dk kvk∧LaidOk H kvs∧LaidOk H kvk∧kvs.length≤900∧Rep H t v∧Good t∧
 (∀H',Same H H'→Alike H kvs t→Alike H kvk t→Q (.int (sealT t)) (upd H' dl (.dK (putK kvs (.inl (sealT t)) v))))∧
 (∀t1 v1 H',Same H H'→(valV kvs (.inl (sealT t))=some v1∨(Alike H kvs t∧valV kvk (.inl (sealT t))=some v1))→Rep H' t1 v1→Good t1→sealT t1=sealT t→t1≠t→ClashAt E CC H' t1 t v1 v)
def spRThing (R C CN:Addr):Sp:=fun vs H Q E=>∃(a dl kp dn dk:Addr) (kvs nvs kvk:List (Key ×V)) (n:Int),vs=[.ref a,.int n]∧ROk H R a dl kp dn kvs nvs∧VOk H C kp dk kvk∧nvs.length≤900∧
 (∀v,valV kvs (.inl n)=some v→Q v H)∧(∀v,valV kvs (.inl n)=none→valV kvk (.inl n)=some v→Q v (upd H dn (.dK (putK nvs (.inl n) v))))∧(valV kvs (.inl n)=none→valV kvk (.inl n)=none→E (.ref CN) none H)
def spPaper (R:Addr):Sp:=fun vs H Q _=>∃(a dl kp dn:Addr) (kvs nvs:List (Key ×V)) (cs:List (Int ×Th)),vs=[.ref a]∧ROk H R a dl kp dn kvs nvs∧DRep H cs nvs∧cs.length < 64∧Risen cs H Q
section
variable {P:Program}{w:World}{K:PySem.W.Frag}{mg:Str→Option Value}{base:Heap}{R C CC CN:Addr}{x:Str}
private theorem ok_kinit (D:Kdf K mg "Vault" "__init__" "Vault.__init__" sVault___init__ ["self"]) (c:Cls K C) (nl:NoAttr K C "laid"):Kfn P w K mg base "Vault" "__init__" 1 ["self"] (spVInit C):=by
 refine D.ok (k:=0) scVault___init__ (fun vs H Q E h=>?_) (fun f cdv A outer s H vs Q E hr h=>?_)
 ·obtain ⟨a,dx,rfl,_⟩:=h;rfl
 obtain ⟨a,dx,rfl,ea,q⟩:=h
 refine ⟨_,(pss_one (ps_fld (pv 0) pe_dnewK (by rfl))),?_⟩
 intro d hd
 exact ⟨_,rfl,a,C,dx,[],rfl,by rw [upd_ne (ne_of_none ea hd)];exact ea,c,nl,by decide,q d hd⟩
private theorem putF_keeper (a b:V):putF ("keeper" :Str) b [(("laid" :Str),a)]=[(("laid" :Str),a),(("keeper" :Str),b)]:=by
 unfold putF
 rw [if_neg (by decide)]
 rfl
private theorem putF_noted (a b c:V):putF ("noted" :Str) c [(("laid" :Str),a),(("keeper" :Str),b)]=[(("laid" :Str),a),(("keeper" :Str),b),(("noted" :Str),c)]:=by
 unfold putF
 rw [if_neg (by decide)]
 unfold putF
 rw [if_neg (by decide)]
 rfl
private theorem ok_rinit (D:Mkd K mg x R "Reader.__init__" sReader___init__ ["self","keeper"]) (G_Vault___init__:Kfn P w K mg base "Vault" "__init__" 1 ["self"] (spVInit R)) (c:Cls K R) (nk:NoAttr K R "keeper") (nn:NoAttr K R "noted"):Mkr P w K mg base x R 2 ["self","keeper"] (spRInit R):=by
 refine D.ok (k:=1) scReader___init__ (fun vs H Q E h=>?_) (fun f cdv A outer s H vs Q E hr h=>?_)
 ·obtain ⟨a,kp,dx,rfl,_⟩:=h;rfl
 obtain ⟨a,kp,dx,rfl,ea,q⟩:=h
 refine ⟨_,(pss_cons (ps_expr (pe_kfn G_Vault___init__ hr (by omega) (by rfl) (pa_cons (pv 0) pa_nil)))
 (pss_cons (ps_fld (pv 0) (pv 1) (by rfl))
 (pss_one (ps_fld (pv 0) pe_dnewK (by rfl))))),?_⟩
 refine ⟨_,rfl,a,dx,rfl,ea,fun dl hdl=>?_⟩
 have ad:a≠dl:=ne_of_none ea hdl
 refine ⟨_,rfl,_,rfl,a,R,dx,_,rfl,upd_same,c,nk,(show (1:Nat) < 1000 by decide),?_⟩
 intro dn hdn
 have an:a≠dn:=fun z=>by rw [←z,upd_same] at hdn;cases hdn
 rw [upd_ne (Ne.symm an),upd_ne (Ne.symm an)] at hdn
 have dd:dl≠dn:=fun z=>by rw [←z,upd_same] at hdn;cases hdn
 rw [upd_ne (Ne.symm dd)] at hdn
 refine ⟨_,rfl,a,R,dx,_,rfl,by rw [upd_ne an];exact upd_same,c,nn,by rw [putF_keeper];exact (show (2:Nat) < 1000 by decide),?_⟩
 rw [putF_keeper,putF_noted]
 refine q dl dn _ (fun b o hb e=>?_) hdl hdn dd upd_same ?_ ?_
 ·rw [upd_ne hb,upd_ne (ne_of_none e hdn),upd_ne hb,upd_ne hb,upd_ne (ne_of_none e hdl)];exact e
 ·rw [upd_ne (Ne.symm ad),upd_ne dd,upd_ne (Ne.symm ad),upd_ne (Ne.symm ad)];exact upd_same
 ·rw [upd_ne (Ne.symm an)];exact upd_same
private theorem ok_rlay (D:Mdf K R "lay" "Reader.lay" sReader_lay ["self","thing"]) (M_refuse_R:Mt P w K mg base (CX1 P w) R "refuse_clash" 23 ["self","number","thing"] (spRefuse R CC)) (M_refuse_C:Mt P w K mg base (CX1 P w) C "refuse_clash" 23 ["self","number","thing"] (spRefuse C CC))
  (F_seal:Fn P w K mg base "seal" 13 ["thing"] spSeal) (c_R:Cls K R) (c_C:Cls K C) (nl:NoAttr K R "laid") (nk:NoAttr K R "keeper"):Mt P w K mg base (CX1 P w) R "lay" 24 ["self","thing"] (spRLay R C CC):=by
 refine D.okX (k:=23) scReader_lay (fun vs H Q E h=>?_) (fun f cdv A outer s H vs Q E hr h=>?_)
 ·obtain ⟨a,dl,kp,dn,dk,kvs,nvs,kvk,t,v,rfl,_⟩:=h;rfl
 obtain ⟨a,dl,kp,dn,dk,kvs,nvs,kvk,t,v,rfl,ro,vo,lo,lk,hl,rt,gt,q,qe⟩:=h
 have gd:=gt.dp
 have gn:=gt.nd
 refine ⟨_,(pss_cons (ps_set (i:=2) scReader_lay.nd rfl (Or.inl rfl) (pe_fn F_seal hr (by omega) (by rfl) (pa_cons (pv 1) pa_nil)))
 (pss_cons (ps_expr (pe_mt (pv 0) c_R M_refuse_R hr (by omega) pass_fn (pa_cons (pv 2) (pa_cons (pv 1) pa_nil))))
 (pss_cons (ps_expr (pe_mt (pe_fld (pv 0) (by rfl)) c_C M_refuse_C hr (by omega) pass_fn (pa_cons (pv 2) (pa_cons (pv 1) pa_nil))))
 (pss_cons (ps_dput (hu_of hr) (pe_fld (pv 0) (by rfl)) (pv 2) (pv 1) (by rfl))
 (pss_one (ps_ret (pv 2))))))),?_⟩
 refine ⟨_,rfl,t,v,rfl,rt,gt.wf,by omega,by omega,fun H1 s1=>?_⟩
 have ro1:=ro.keep s1
 have vo1:=vo.keep s1
 obtain ⟨⟨dx,eo⟩,ed,en⟩:=id ro1
 obtain ⟨⟨dy,fs,ek,fl⟩,ed2⟩:=id vo1
 have rt1:=rt.keep (Same.tups s1)
 have back:∀kvs',Alike H1 kvs' t→LaidOk H kvs'→Alike H kvs' t:=fun kvs' al lo' t1 v1 ev r1=>al t1 v1 ev (r1.keep (Same.tups s1))
 refine ⟨_,rfl,a,dx,_,rfl,eo,(flds3 dl kp dn).n1,_,rfl,_,rfl,a,dl,kvs,_,t,v,rfl,ro1.vok,lo.keep (Same.tups s1),rt1,gt,rfl,fun same=>?_,fun t1 v1 ev r1 g1 sn ne=>qe t1 v1 H1 s1 (.inl ev) r1 g1 sn ne⟩
 refine ⟨_,rfl,a,R,dx,_,_,rfl,eo,c_R,nk,rfl,kp,dy,_,rfl,ek,fl.n1,_,rfl,_,rfl,kp,dk,kvk,_,t,v,rfl,vo1,lk.keep (Same.tups s1),rt1,gt,rfl,fun same2=>?_,fun t1 v1 ev r1 g1 sn ne=>qe t1 v1 H1 s1 (.inr ⟨back kvs same lo,ev⟩) r1 g1 sn ne⟩
 refine ⟨_,rfl,_,rfl,a,R,dx,_,_,rfl,eo,c_R,nl,rfl,_,rfl,dl,_,rfl,DPut.k (k:=Sum.inl (sealT t)) ed (Nat.lt_of_le_of_lt hl (by decide)),?_⟩
 exact ⟨_,rfl,q H1 s1 (back kvs same lo) (back kvk same2 lk)⟩
private theorem ok_rthing (D:Mdf K R "thing" "Reader.thing" sReader_thing ["self","number"]) (M_thing:Mt P w K mg base (CX1 P w) C "thing" 21 ["self","number"] (spThingX C CN)) (c_R:Cls K R) (c_C:Cls K C) (nl:NoAttr K R "laid") (nk:NoAttr K R "keeper") (nn:NoAttr K R "noted"):
  Mt P w K mg base (CX1 P w) R "thing" 22 ["self","number"] (spRThing R C CN):=by
 refine D.okX (k:=21) scReader_thing (fun vs H Q E h=>?_) (fun f cdv A outer s H vs Q E hr h=>?_)
 ·obtain ⟨a,dl,kp,dn,dk,kvs,nvs,kvk,n,rfl,_⟩:=h;rfl
 obtain ⟨a,dl,kp,dn,dk,kvs,nvs,kvk,n,rfl,ro,vo,hl,q1,q2,qe⟩:=h
 obtain ⟨⟨dx,eo⟩,ed,en⟩:=id ro
 obtain ⟨⟨dy,fs,ek,fl⟩,ed2⟩:=id vo
 refine ⟨_,(pss_cons (ps_if (pt_cmp (pc_din (hu_of hr) (pv 1) (pe_fld (pv 0) (by rfl))))
 (pss_one (ps_ret (pe_dget (hu_of hr) (pe_fld (pv 0) (by rfl)) (pv 1) (fun _ _=>rfl))))
 pss_nil)
 (pss_cons (ps_set (i:=2) scReader_thing.nd rfl (Or.inl rfl) (pe_mt (pe_fld (pv 0) (by rfl)) c_C M_thing hr (by omega) pass_fn (pa_cons (pv 1) pa_nil)))
 (pss_cons (ps_dput (hu_of hr) (pe_fld (pv 0) (by rfl)) (pv 1) (pv 2) (by rfl))
 (pss_one (ps_ret (pv 2)))))),?_⟩
 refine ⟨_,rfl,_,rfl,a,R,dx,_,_,rfl,eo,c_R,nl,rfl,dl,_,rfl,DGet.k (k:=Sum.inl n) ed,_,rfl,?_⟩
 cases ev:valV kvs (Sum.inl n) with
 | some v=>
  have dg:DGet H dl (.int n) (some v):=by rw [←ev];exact DGet.k (k:=Sum.inl n) ed
  refine ifT rfl ?_
  exact ⟨_,rfl,a,R,dx,_,_,rfl,eo,c_R,nl,rfl,_,rfl,dl,v,rfl,dg,q1 v ev⟩
 | none=>
  refine ifF rfl ?_
  refine ⟨_,rfl,a,R,dx,_,_,rfl,eo,c_R,nk,rfl,kp,dy,_,rfl,ek,fl.n3,_,rfl,kp,dk,kvk,n,rfl,vo,fun v e=>?_,fun e=>qe ev e⟩
  refine ⟨_,rfl,_,rfl,a,R,dx,_,_,rfl,eo,c_R,nn,rfl,_,rfl,dn,_,rfl,DPut.k (k:=Sum.inl n) en (Nat.lt_of_le_of_lt hl (by decide)),?_⟩
  exact ⟨_,rfl,q2 v ev e⟩
private theorem ok_paper (D:Mdf K R "paper" "Reader.paper" sReader_paper ["self"]) (F_rising:Fn P w K mg base "rising" 21 ["laid"] spRising) (c:Cls K R) (nn:NoAttr K R "noted"):Mt P w K mg base CX0 R "paper" 22 ["self"] (spPaper R):=by
 refine D.ok (k:=21) scReader_paper (fun vs H Q E h=>?_) (fun f cdv A outer s H vs Q E hr h=>?_)
 ·obtain ⟨a,dl,kp,dn,kvs,nvs,cs,rfl,_⟩:=h;rfl
 obtain ⟨a,dl,kp,dn,kvs,nvs,cs,rfl,⟨⟨dx,eo⟩,ed,en⟩,dr,h64,q⟩:=h
 exact ⟨_,(pss_one (ps_ret (pe_fn F_rising hr (by omega) (by rfl) (pa_cons (pe_fld (pv 0) (by rfl)) pa_nil)))),_,rfl,a,R,dx,_,_,rfl,eo,c,nn,rfl,dn,nvs,cs,rfl,en,dr,h64,q⟩
end
end Pv
namespace Pv
open PySem L2
def ff (h:Int)(l:List Int):Int:=l.foldl (fun h c=>(h * 1234567890123456789+c) % 2305843009213693951) h
private theorem ff_range {h:Int}(h0:0≤h)(h1:h < 2305843009213693951):∀l:List Int,0≤ff h l∧ff h l < 2305843009213693951
 | []=>⟨h0,h1⟩
 | c::r=>ff_range (h:=(h * 1234567890123456789+c) % 2305843009213693951) (Int.emod_nonneg _ (by decide)) (Int.emod_lt_of_pos _ (by decide)) r
structure PairOk (r t:Int):Prop where
 r0:0 < r
 r1:r < 1000000000000000
 t0: -1000000000000000 < t
 t1:t < 1000000000000000
 ne:t≠0
 dv:(t * 1234567890123456789 - r) % 2305843009213693951=0
structure Two (one other:Int):Prop where
 ex:∃hi lo r t:Int,PairOk r t∧one=hi * 1000000000000000+lo - 10 ^ 30∧other=one+t * 1000000000000000 - r∧r≤lo∧lo < 1000000000000000∧0≤hi∧hi < 2000000000000000∧0≤hi+t∧hi+t < 2000000000000000
abbrev Pl:=List (List Th ×Nat)
private theorem codesL_app:∀(a b:List Th),codesL (a++b)=codesL a++codesL b
 | [],b=>rfl
 | t::r,b=>by
  have:=codesL_app r b
  show codesT t++codesL (r++b)=codesT t++codesL r++codesL b
  rw [this,List.append_assoc]
structure PlOk (ps:Pl):Prop where
 len:ps.length≤4
 each:∀p∈ps,p.1.length≤3∧p.2≤p.1.length∧WfL p.1∧depL p.1≤1∧nodesL p.1≤12
private theorem nodesL_app:∀(a b:List Th),nodesL (a++b)=nodesL a+nodesL b
 | [],b=>by show _=0+_;simp
 | t::r,b=>by
  have:=nodesL_app r b
  show nodes t+nodesL (r++b)=nodes t+nodesL r+nodesL b
  omega
private theorem depL_app:∀(a b:List Th),depL (a++b)=max (depL a) (depL b)
 | [],b=>by show _=max 0 _;simp
 | t::r,b=>by
  have:=depL_app r b
  show max (dep t) (depL (r++b))=max (max (dep t) (depL r)) (depL b)
  omega
end Pv
namespace Pv
open PySem L2
abbrev s_law_pair:Stmt:=top 43
private theorem sc_law_pair:FnScope ["row","kind","numbers","x","y"] ["row"] (defScope s_law_pair):=L2.fsc (by decide+kernel)
abbrev MM:Int:=1234567890123456789
abbrev PP:Int:=2305843009213693951
def valC:List Int→Int
 | []=>0
 | c::r=>c * MM ^ r.length+valC r
private theorem ff_val:∀(l:List Int) (x:Int),∃m,ff x l=x * MM ^ l.length+valC l+PP * m
 | [],x=>⟨0,by show x=x * MM ^ 0+0+PP * 0;rw [Int.pow_zero];omega⟩
 | c::r,x=>by
  obtain ⟨m,h⟩:=ff_val r ((x * MM+c) % PP)
  refine ⟨m - ((x * MM+c) / PP) * MM ^ r.length,?_⟩
  show ff ((x * MM+c) % PP) r=x * MM ^ (r.length+1)+(c * MM ^ r.length+valC r)+_
  have e:(x * MM+c) % PP=(x * MM+c) - PP * ((x * MM+c) / PP):=by have:=Int.mul_ediv_add_emod (x * MM+c) PP;omega
  have e2:∀a b c d k:Int,(a * k+c - b * d) * k ^ r.length=a * k ^ (r.length+1)+c * k ^ r.length - b * (d * k ^ r.length):=fun a b c d k=>by
   rw [Int.sub_mul,Int.add_mul,Int.pow_succ,Int.mul_assoc,Int.mul_assoc,Int.mul_comm k]
  rw [h,e,e2,Int.mul_sub]
  omega
private theorem valC_app:∀a b:List Int,valC (a++b)=valC a * MM ^ b.length+valC b
 | [],b=>by show valC b=0 * _+_;rw [Int.zero_mul,Int.zero_add]
 | c::r,b=>by
  show c * MM ^ (r++b).length+valC (r++b)=(c * MM ^ r.length+valC r) * _+_
  rw [valC_app r b,List.length_append,Int.pow_add,Int.add_mul,Int.mul_assoc]
  omega
def Like (t u:Th):Prop:=(codesT t).length=(codesT u).length∧∃m,valC (codesT t) - valC (codesT u)=PP * m
private theorem Like.seal {t u:Th}(h:Like t u):sealT t=sealT u:=by
 obtain ⟨hl,m,hm⟩:=h
 show ff 7 (codesT t)+1=ff 7 (codesT u)+1
 obtain ⟨a,ha⟩:=ff_val (codesT t) 7
 obtain ⟨b,hb⟩:=ff_val (codesT u) 7
 have r1:=ff_range (h:=7) (by decide) (by decide) (codesT t)
 have r2:=ff_range (h:=7) (by decide) (by decide) (codesT u)
 rw [hl] at ha
 generalize MM ^ (codesT u).length=k at ha hb
 generalize ff 7 (codesT t)=x at ha r1 ⊢
 generalize ff 7 (codesT u)=y at hb r2 ⊢
 generalize valC (codesT t)=p at ha hm
 generalize valC (codesT u)=q at hb hm
 have:x - y=PP * (m+a - b):=by rw [ha,hb,Int.mul_sub,Int.mul_add];omega
 have e1:(2305843009213693951:Int) * (m+a - b)=x - y:=this.symm
 generalize m+a - b=z at e1
 obtain ⟨h1,h2⟩:=r1
 obtain ⟨h3,h4⟩:=r2
 omega
private theorem Like.wrap {t u:Th}(h:Like t u)(fs bs:List Th):Like (.tup (fs++ [t]++bs)) (.tup (fs++ [u]++bs)):=by
 obtain ⟨hl,m,hm⟩:=h
 have e:∀z:Th,codesT (.tup (fs++ [z]++bs))=([4,(((fs++ [t]++bs).length:Nat):Int)]++codesL fs)++(codesT z++codesL bs):=fun z=>by
  show [4,(((fs++ [z]++bs).length:Nat):Int)]++codesL (fs++ [z]++bs)=_
  rw [codesL_app,codesL_app,show codesL [z]=codesT z++ [] from rfl,List.append_nil]
  simp only [List.length_append,List.length_singleton,List.append_assoc]
 refine ⟨?_,m * MM ^ (codesL bs).length,?_⟩
 ·rw [e,e]
  simp only [List.length_append,hl]
 ·have hn:(codesT t++codesL bs).length=(codesT u++codesL bs).length:=by simp only [List.length_append,hl]
  rw [e,e,valC_app,valC_app _ (codesT u++codesL bs),valC_app (codesT t),valC_app (codesT u),hn,←Int.mul_assoc,←hm,Int.sub_mul]
  omega
def isI:Th→Bool
 | .int _=>true
 | _=>false
structure Two0 (t u:Th):Prop where
 w1:Wf t
 w2:Wf u
 d1:dep t≤1
 d2:dep u≤1
 n1:nodes t≤3
 n2:nodes u≤3
 ne:t≠u
 se:sealT t=sealT u
 lk:isI t=isI u→Like t u
private theorem Like.two {t u:Th}(h:Like t u)(w1:Wf t)(w2:Wf u)(d1:dep t≤1)(d2:dep u≤1)(n1:nodes t≤3)(n2:nodes u≤3)(ne:t≠u):Two0 t u:=⟨w1,w2,d1,d2,n1,n2,ne,h.seal,fun _=>h⟩
abbrev tRaa:Str:=Str.ofString "raaAdRnaccsome"
abbrev tElm:Str:=Str.ofString "ElmfalQlaasome"
private theorem two_txt:Two0 (.str tRaa) (.str tElm):=Like.two ⟨by decide+kernel,(valC (codesT (.str tRaa)) - valC (codesT (.str tElm))) / PP,by decide+kernel⟩ ⟨by decide+kernel,by decide+kernel⟩ ⟨by decide+kernel,by decide+kernel⟩ (Nat.zero_le _) (Nat.zero_le _) (by decide) (by decide) (fun z=>by injection z with z;revert z;decide+kernel)
private theorem two_num:Two0 (.int 251530379464423) (.int (-1285000000000000000)):=Like.two ⟨by decide+kernel,(valC (codesT (.int 251530379464423)) - valC (codesT (.int (-1285000000000000000)))) / PP,by decide+kernel⟩ ⟨by decide,by decide⟩ ⟨by decide,by decide⟩ (Nat.zero_le _) (Nat.zero_le _) (by decide) (by decide) (fun z=>by injection z with z;revert z;decide)
private theorem two_non:Two0 (.int 1512115537883387366) .non:=⟨⟨by decide,by decide⟩,trivial,Nat.zero_le _,Nat.zero_le _,by decide,by decide,(fun z=>by cases z),by decide+kernel,fun z=>by cases z⟩
private theorem two_nil:Two0 (.int 4827245976223556021) (.tup []):=⟨⟨by decide,by decide⟩,⟨by decide,trivial⟩,Nat.zero_le _,by decide,by decide,by decide,(fun z=>by cases z),by decide+kernel,fun z=>by cases z⟩
private theorem two_a:Two0 (.int 1259942686423355892) (.str (Str.ofString "a")):=⟨⟨by decide,by decide⟩,⟨by decide+kernel,by decide+kernel⟩,Nat.zero_le _,Nat.zero_le _,by decide,by decide,(fun z=>by cases z),by decide+kernel,fun z=>by cases z⟩
private theorem codes_low {x:Int}(h0:0≤x)(h1:x < 1000000000000000):codesT (.int x)=[2,1000000000000000,x]:=by
 show [2,(x+10 ^ 30) / 10 ^ 15,(x+10 ^ 30) % 10 ^ 15]=_
 rw [show (x+10 ^ 30) / 10 ^ 15=1000000000000000 by omega,show (x+10 ^ 30) % 10 ^ 15=x by omega]
private theorem two_pair {x y:Int}(x0:0≤x)(x1:x < 100000000000)(y0:0≤y)(y1:y < 100000000000):Two0 (.tup [.int x,.int y]) (.tup [.int (x+33951682),.int (y+729379489)]):=by
 have c:∀a b:Int,0≤a→a < 1000000000000000→0≤b→b < 1000000000000000→codesT (.tup [.int a,.int b])=[4,2,2,1000000000000000,a,2,1000000000000000,b]:=fun a b a0 a1 b0 b1=>by
  show [4,2]++(codesT (.int a)++(codesT (.int b)++ []))=_
  rw [codes_low a0 a1,codes_low b0 b1]
  rfl
 refine Like.two ⟨by rw [c x y x0 (by omega) y0 (by omega),c _ _ (by omega) (by omega) (by omega) (by omega)];rfl, -((33951682 * MM ^ 3+729379489) / PP),?_⟩ ?_ ?_ (Nat.le_refl 1) (Nat.le_refl 1) (Nat.le_refl 3) (Nat.le_refl 3) ?_
 ·rw [c x y x0 (by omega) y0 (by omega),c _ _ (by omega) (by omega) (by omega) (by omega)]
  show 4 * MM ^ 7+(2 * MM ^ 6+(2 * MM ^ 5+(1000000000000000 * MM ^ 4+(x * MM ^ 3+(2 * MM ^ 2+(1000000000000000 * MM ^ 1+(y * MM ^ 0+0))))))) -
   (4 * MM ^ 7+(2 * MM ^ 6+(2 * MM ^ 5+(1000000000000000 * MM ^ 4+((x+33951682) * MM ^ 3+(2 * MM ^ 2+(1000000000000000 * MM ^ 1+((y+729379489) * MM ^ 0+0))))))))=_
  have e:PP * -((33951682 * MM ^ 3+729379489) / PP)= -(33951682 * MM ^ 3+729379489):=by decide+kernel
  rw [e,Int.add_mul x,Int.pow_zero]
  generalize MM ^ 3=k
  omega
 ·exact ⟨show (2:Nat)≤40 by decide,⟨by omega,by omega⟩,⟨by omega,by omega⟩,trivial⟩
 ·exact ⟨show (2:Nat)≤40 by decide,⟨by omega,by omega⟩,⟨by omega,by omega⟩,trivial⟩
 ·intro z
  injection z with z
  injection z with z _
  injection z with z
  omega
private theorem RepL.tupA {H:Hp}{ts:List Th}{vs:List V}{a:Addr}(r:RepL H ts vs)(e:H a=some (.tup vs)):Rep H (.tup ts) (.ref a):=.tup e r.len r.at
def spPair:Sp:=fun vs H Q _=>∃row:Addr,vs=[.ref row]∧RowV H row∧∀(t u:Th) (v w:V) (p:Addr) (H':Hp),Two0 t u→Rep H' t v→Rep H' u w→H' p=some (.tup [v,w])→Frm [row] H H'→RowV H' row→Q (.ref p) H'
section
variable {P:Program}{w:World}{K:PySem.W.Frag}{mg:Str→Option Value}{base:Heap}
private theorem ok_pair (D:Dfn K mg "_law_pair" s_law_pair ["row"]) (F_law_take:Fn P w K mg base "_law_take" 1 ["row","many"] spTake):Fn P w K mg base "_law_pair" 2 ["row"] spPair:=by
 refine D.ok (k:=1) sc_law_pair (fun vs H Q E h=>?_) (fun f cdv A outer s H vs Q E hr h=>?_)
 ·obtain ⟨row,rfl,_⟩:=h;rfl
 obtain ⟨row,rfl,R0,q⟩:=h
 refine ⟨_,(pss_cons (ps_set (i:=1) sc_law_pair.nd rfl (Or.inl rfl) (pe_fn F_law_take hr (by omega) (by rfl) (pa_cons (pv 0) (pa_cons pe_int pa_nil))))
 (pss_cons (ps_if (pt_cmpR op_eq (pv 1) pe_int (nomark _))
 (pss_one (ps_ret (pe_tup (pa_cons pe_str (pa_cons pe_str pa_nil)))))
 pss_nil)
 (pss_cons (ps_if (pt_cmpR op_gt (pv 1) pe_int (nomark _))
 (pss_cons (ps_set (i:=2) sc_law_pair.nd rfl (Or.inl rfl) (pe_lst (pa_cons pe_int (pa_cons pe_int (pa_cons pe_int pa_nil)))))
 (pss_one (ps_ret (pe_tup (pa_cons (pe_ix ix_list (pv 2) (pe_op op_sub (pv 1) pe_int) (fun _ _=>rfl)) (pa_cons (pe_ix ix_list (pe_lst (pa_cons pe_non (pa_cons (pe_tup pa_nil) (pa_cons pe_str pa_nil)))) (pe_op op_sub (pv 1) pe_int) (fun _ _=>rfl)) pa_nil))))))
 pss_nil)
 (pss_cons (ps_if (pt_cmpR op_eq (pv 1) pe_int (nomark _))
 (pss_one (ps_ret (pe_tup (pa_cons pe_int (pa_cons (pe_un un_neg pe_int) pa_nil)))))
 pss_nil)
 (pss_cons (ps_set (i:=3) sc_law_pair.nd rfl (Or.inl rfl) (pe_fn F_law_take hr (by omega) (by rfl) (pa_cons (pv 0) (pa_cons (pe_op op_pow pe_int pe_int) pa_nil))))
 (pss_cons (ps_set (i:=4) sc_law_pair.nd rfl (Or.inl rfl) (pe_fn F_law_take hr (by omega) (by rfl) (pa_cons (pv 0) (pa_cons (pe_op op_pow pe_int pe_int) pa_nil))))
 (pss_one (ps_ret (pe_tup (pa_cons (pe_tup (pa_cons (pv 3) (pa_cons (pv 4) pa_nil))) (pa_cons (pe_tup (pa_cons (pe_op op_add (pv 3) pe_int) (pa_cons (pe_op op_add (pv 4) pe_int) pa_nil))) pa_nil))))))))))),?_⟩
 refine ⟨_,rfl,row,_,rfl,R0,(show (0:Int) < 6 by decide),(by decide+kernel),fun kind H1 k0 k1 f1 R1=>?_⟩
 refine ⟨_,rfl,rfl,_,rfl,?_⟩
 rw [dec_i]
 refine ifB (fun c=>?_) (fun c=>?_)
 ·refine ⟨szl (show 2≤1000 by decide),fun p hp=>?_⟩
  exact q _ _ _ _ p _ two_txt (.str _) (.str _) upd_same (frm_new f1 hp) (R1.new hp)
 have kn:kind≠0:=of_decide_eq_false c
 refine ⟨_,rfl,_,_,rfl,rfl,_,rfl,?_⟩
 refine ifB (fun c=>?_) (fun c=>?_)
 ·have k2:2 < kind:=by have:=of_decide_eq_true c;omega
  refine ⟨szl (show 3≤1000 by decide),fun p hp=>?_⟩
  have ep:upd H1 p (.lst [.int 1512115537883387366,.int 4827245976223556021,.int 1259942686423355892]) p=some (.lst [.int 1512115537883387366,.int 4827245976223556021,.int 1259942686423355892]):=upd_same
  have f2:=frm_new (o:=.lst [.int 1512115537883387366,.int 4827245976223556021,.int 1259942686423355892]) f1 hp
  have R2:=R1.new (o:=.lst [.int 1512115537883387366,.int 4827245976223556021,.int 1259942686423355892]) hp
  generalize upd H1 p (.lst [.int 1512115537883387366,.int 4827245976223556021,.int 1259942686423355892])=H2 at ep f2 R2
  have fin:∀(n:Int) (y:V) (u:Th) (pe:Addr),Two0 (.int n) u→H2 pe=none→(∀H',Same (upd H2 pe (.tup [])) H'→Rep H' u y)→∀pl,upd H2 pe (.tup []) pl=none→∀o pt,upd (upd H2 pe (.tup [])) pl o pt=none→Q (.ref pt) (upd (upd (upd H2 pe (.tup [])) pl o) pt (.tup [.int n,y])):=fun n y u pe tw hpe ru pl hpl o pt hpt=>by
   have s1:Same (upd H2 pe (.tup [])) (upd (upd (upd H2 pe (.tup [])) pl o) pt (.tup [.int n,y])):=same_new (same_new (Same.refl _) hpl) hpt
   exact q _ _ _ _ pt _ tw (.int n) (ru _ s1) upd_same (frm_new (frm_new (frm_new f2 hpe) hpl) hpt) (((R2.new hpe).new hpl).new hpt)
  rcases (show kind=3∨kind=4∨kind=5 by omega) with rfl | rfl | rfl
  ·refine ⟨_,rfl,_,rfl,_,_,rfl,rfl,p,_,_,_,rfl,rfl,SqL.of ep,rfl,szl (show 0≤1000 by decide),fun pe hpe=>⟨szl (show 3≤1000 by decide),fun pl hpl=>?_⟩⟩
   exact ⟨_,rfl,_,_,rfl,rfl,pl,_,_,_,rfl,rfl,SqL.of upd_same,rfl,szl (show 2≤1000 by decide),fun pt hpt=>fin _ .non .non pe two_non hpe (fun _ _=>.non) pl hpl _ pt hpt⟩
  ·refine ⟨_,rfl,_,rfl,_,_,rfl,rfl,p,_,_,_,rfl,rfl,SqL.of ep,rfl,szl (show 0≤1000 by decide),fun pe hpe=>⟨szl (show 3≤1000 by decide),fun pl hpl=>?_⟩⟩
   exact ⟨_,rfl,_,_,rfl,rfl,pl,_,_,_,rfl,rfl,SqL.of upd_same,rfl,szl (show 2≤1000 by decide),fun pt hpt=>fin _ (.ref pe) (.tup []) pe two_nil hpe (fun H' s=>.tup (s _ _ upd_same) rfl fun i x t h=>by simp at h) pl hpl _ pt hpt⟩
  ·refine ⟨_,rfl,_,rfl,_,_,rfl,rfl,p,_,_,_,rfl,rfl,SqL.of ep,rfl,szl (show 0≤1000 by decide),fun pe hpe=>⟨szl (show 3≤1000 by decide),fun pl hpl=>?_⟩⟩
   exact ⟨_,rfl,_,_,rfl,rfl,pl,_,_,_,rfl,rfl,SqL.of upd_same,rfl,szl (show 2≤1000 by decide),fun pt hpt=>fin _ (.str _) (.str _) pe two_a hpe (fun _ _=>.str _) pl hpl _ pt hpt⟩
 ·refine ⟨_,rfl,rfl,_,rfl,?_⟩
  rw [dec_i]
  refine ifB (fun c=>?_) (fun c=>?_)
  ·exact ⟨_,rfl,szl (show 2≤1000 by decide),fun p hp=>q _ _ _ _ p _ two_num (.int _) (.int _) upd_same (frm_new f1 hp) (R1.new hp)⟩
  have e11:(10:Int) ^ (11:Int).toNat=100000000000:=by decide+kernel
  refine ⟨_,rfl,_,_,rfl,rfl,⟨by decide,by decide,by decide⟩,row,_,rfl,R1,(by decide+kernel),(by decide+kernel),fun x H2 x0 x1 f2 R2=>?_⟩
  refine ⟨_,rfl,_,_,rfl,rfl,⟨by decide,by decide,by decide⟩,row,_,rfl,R2,(by decide+kernel),(by decide+kernel),fun y H3 y0 y1 f3 R3=>?_⟩
  rw [e11] at x1 y1
  refine ⟨_,rfl,_,rfl,szl (show 2≤1000 by decide),fun p1 h1=>?_⟩
  refine ⟨_,rfl,_,_,rfl,rfl,_,rfl,_,_,rfl,rfl,szl (show 2≤1000 by decide),fun p2 h2=>⟨szl (show 2≤1000 by decide),fun p3 h3=>?_⟩⟩
  have ne:p1≠p2:=fun z=>by rw [←z,upd_same] at h2;cases h2
  have n13:p1≠p3:=fun z=>by rw [←z,upd_ne ne,upd_same] at h3;cases h3
  have n23:p2≠p3:=fun z=>by rw [←z,upd_same] at h3;cases h3
  refine q _ _ _ _ p3 _ (two_pair x0 x1 y0 y1) ((RepL.cons (.int x) (.cons (.int y) .nil)).tupA (a:=p1) (by rw [upd_ne n13,upd_ne ne];exact upd_same)) ((RepL.cons (.int _) (.cons (.int _) .nil)).tupA (a:=p2) (by rw [upd_ne n23];exact upd_same)) upd_same (frm_new (frm_new (frm_new (f1.trans (f2.trans f3)) h1) h2) h3) (((R3.new h1).new h2).new h3)
end
end Pv
namespace Pv
open PySem L2
abbrev s_law_unlike:Stmt:=top 44
private theorem sc_law_unlike:FnScope ["row","one","other","wraps","k","front","back"] ["row"] (defScope s_law_unlike):=L2.fsc (by decide+kernel)
private theorem thing_comp {p row:Addr}{σ:L2.St}{js:List Nat}{te:TE}{Q:VK}{H1:Hp}{m:Nat}(hm:m≤2)(R1:RowV H1 row)(hp:H1 p=none)
  (te_ok:∀(y:V) (H':Hp) (Z:VK),RowV H' row→(∀(t:Th) (v:V) (H'':Hp),Wf t→dep t≤1→nodes t≤many 1→Frm [row] H' H''→RowV H'' row→Rep H'' t v→Z v H'')→te (some y::frees σ js) H' Z)
  (q:∀(ts:List Th) (acc:List V) (H':Hp),RepL H' ts acc→ts.length=m→WfL ts→depL ts≤1→nodesL ts≤8→Frm [row] H1 H'→RowV H' row→H' p=some (.lst acc)→Q (.ref p) H'):CompW (Itr 0 m) p σ js tNoTest te H1 Q:=by
 have npr:p≠row:=R1.ne hp
 refine comp_it (J:=Itr 0 m) (n:=m) (fun i acc H'=>∃ts:List Th,RepL H' ts acc∧ts.length=i∧WfL ts∧depL ts≤1∧nodesL ts≤i * 4∧Frm [row] H1 H'∧RowV H' row∧H' p=some (.lst acc)) ⟨[],.nil,rfl,trivial,Nat.zero_le _,Nat.zero_le _,Frm.new hp,R1.new hp,upd_same⟩ (by exact fun i acc H' hi _=>hi) (by exact fun acc H' _=>Nat.le_refl _) ?_ ?_
 ·rintro i acc H' y H'' hi ⟨ts,rs,hl,hw,hd,hn,f3,R3,ep⟩ ⟨e1,e2⟩
  subst e1 e2
  refine tt1 (te_ok _ _ _ R3 fun t v H4 wt dt nt f4 R4 rt=>?_)
  have nt4:nodes t≤4:=nt
  have tk:=Frm.tups f4 R3.noT
  have ep4:=f4.at ep (not1 npr)
  have tk2:Tups H4 (upd H4 p (.lst (acc++ [v]))):=Tups.upd fun xs e=>by rw [ep4] at e;cases e
  have hal:acc.length=i:=by rw [rs.len,hl]
  refine ⟨ep4,Nat.lt_of_lt_of_le (show acc.length < 1000 by omega) (szl (Nat.le_refl _)),nxt hi ⟨ts++ [t],((rs.keep tk).keep tk2).snoc (rt.keep tk2),by rw [List.length_append,hl];rfl,hw.snoc wt,?_,?_,frm_upd (f3.trans f4) hp,R4.upd npr,upd_same⟩⟩
  ·rw [depL_snoc];omega
  ·rw [nodesL_snoc];omega
 ·rintro acc H' ⟨ts,rs,hl,hw,hd,hn,f3,R3,ep⟩
  exact q ts acc H' rs hl hw hd (by omega) f3 R3 ep
private theorem isint_of {K:PySem.W.Frag}{H:Hp}{t:Th}{v:V}(r:Rep H t v):∃y,TyOf K H v y∧PySem.W.kitOne K y (.type "int")=some (isI t):=by
 cases r with
 | non=>exact ⟨_,.non,rfl⟩
 | int i=>exact ⟨_,.int i,rfl⟩
 | str x=>exact ⟨_,.str x,rfl⟩
 | tup e l h=>exact ⟨_,.tup e,rfl⟩
private theorem RepL.app {H:Hp}{ts us:List Th}{vs ws:List V}(r:RepL H ts vs)(q:RepL H us ws):RepL H (ts++us) (vs++ws):=by
 induction r with
 | nil=>exact q
 | cons h _ ih=>exact .cons h ih
structure TwoI (i:Nat)(t u:Th):Prop where
 w1:Wf t
 w2:Wf u
 d1:dep t≤1+i
 d2:dep u≤1+i
 n1:nodes t≤3+17 * i
 n2:nodes u≤3+17 * i
 ne:t≠u
 se:sealT t=sealT u
private theorem WfL.app:∀{a b:List Th},WfL a→WfL b→WfL (a++b)
 | [],_,_,h=>h
 | _::_,_,h1,h2=>⟨h1.1,h1.2.app h2⟩
private theorem wf_wrap {t:Th}{fs bs:List Th}(w:Wf t)(wf:WfL fs)(wb:WfL bs)(lf:fs.length≤2)(lb:bs.length≤2):Wf (.tup (fs++ [t]++bs)):=
 ⟨by rw [List.length_append,List.length_append,List.length_singleton];omega,(wf.app (b:=[t]) ⟨w,trivial⟩).app wb⟩
private theorem dep_wrap {t:Th}{fs bs:List Th}{k:Nat}(h:dep t≤1+k)(df:depL fs≤1)(db:depL bs≤1):dep (.tup (fs++ [t]++bs))≤1+(k+1):=by
 show depL (fs++ [t]++bs)+1≤_
 rw [depL_app,depL_app]
 have:depL [t]=max (dep t) 0:=rfl
 omega
private theorem nodes_wrap {t:Th}{fs bs:List Th}{k:Nat}(h:nodes t≤3+17 * k)(nf:nodesL fs≤8)(nb:nodesL bs≤8):nodes (.tup (fs++ [t]++bs))≤3+17 * (k+1):=by
 show 1+nodesL (fs++ [t]++bs)≤_
 rw [nodesL_app,nodesL_app]
 have:nodesL [t]=nodes t+0:=rfl
 omega
structure G5 (t:Th):Prop where
 wf:Wf t
 dp:dep t≤5
 nd:nodes t≤80
private theorem G5.good {t:Th}(g:G5 t):Good t:=⟨g.wf,Nat.le_trans g.dp (by decide),g.nd⟩
structure Pr (t u:Th):Prop where
 g1:G5 t
 g2:G5 u
 ne:t≠u
 se:sealT t=sealT u
private theorem Pr.symm {t u:Th}(h:Pr t u):Pr u t:=⟨h.g2,h.g1,h.ne.symm,h.se.symm⟩
def spUnl:Sp:=fun vs H Q _=>∃row:Addr,vs=[.ref row]∧RowV H row∧∀(t u:Th) (v w:V) (p:Addr) (H':Hp),Pr t u→Rep H' t v→Rep H' u w→H' p=some (.tup [v,w])→Frm [row] H H'→RowV H' row→Q (.ref p) H'
section
variable {P:Program}{w:World}{K:PySem.W.Frag}{mg:Str→Option Value}{base:Heap}
private theorem ok_unl (D:Dfn K mg "_law_unlike" s_law_unlike ["row"]) (F_law_take:Fn P w K mg base "_law_take" 1 ["row","many"] spTake) (F_law_pair:Fn P w K mg base "_law_pair" 2 ["row"] spPair) (F_law_thing:Fn P w K mg base "_law_thing" 4 ["row","deep"] (spThing 2))
  (m_isinstance:mg "isinstance" =none) (m_int:mg "int" =none) (m_range:mg "range" =none) (m_tuple:mg "tuple" =none):Fn P w K mg base "_law_unlike" 21 ["row"] spUnl:=by
 refine D.ok (k:=20) sc_law_unlike (fun vs H Q E h=>?_) (fun f cdv A outer s H vs Q E hr h=>?_)
 ·obtain ⟨row,rfl,_⟩:=h;rfl
 obtain ⟨row,rfl,R0,q⟩:=h
 refine ⟨_,(pss_cons (ps_asg (pe_fn F_law_pair hr (by omega) (by rfl) (pa_cons (pv 0) pa_nil)) (pg_tupH rfl (pgs_cons (pg_name (i:=1) sc_law_unlike.nd rfl (Or.inl rfl)) (pgs_cons (pg_name (i:=2) sc_law_unlike.nd rfl (Or.inl rfl)) pgs_nil))))
 (pss_cons (ps_set (i:=3) sc_law_unlike.nd rfl (Or.inl rfl) (pe_op op_mul (pe_fn F_law_take hr (by omega) (by rfl) (pa_cons (pv 0) (pa_cons pe_int pa_nil))) (pe_callTy call_int1 (by rfl) m_int (by rfl) (pa_cons (pe_cmpR op_eq (pe_callB (call_isinst) (by rfl) m_isinstance (by rfl) (pa_cons (pv 1) (pa_cons (pe_bltn (v:=.ty "int") (by rfl) m_int (by rfl) rfl) pa_nil))) (pe_callB (call_isinst) (by rfl) m_isinstance (by rfl) (pa_cons (pv 2) (pa_cons (pe_bltn (v:=.ty "int") (by rfl) m_int (by rfl) rfl) pa_nil))) (nomark _)) pa_nil))))
 (pss_cons (ps_for PassesOwn.never rfl (pi_range1 rfl m_range (pa_cons (pv 3) pa_nil)) (pg_name (i:=4) sc_law_unlike.nd rfl (Or.inl rfl))
 (pss_cons (ps_set (i:=5) sc_law_unlike.nd rfl (Or.inl rfl) (pe_callTy call_tuple_of (by rfl) m_tuple (by rfl) (pa_cons (pe_lcomp (CompScope.one (y:= "row") (j:=0) (c:=s.heap.objs.size+1) (by rfl) (by rfl) (by decide+kernel) (by decide+kernel) (by rfl) (by decide+kernel) (by rfl) (by decide+kernel) (by rfl) (by first | exact Or.inl rfl | exact Or.inr rfl) (by first | exact Or.inl rfl | exact Or.inr rfl)) rfl (pi_range1 rfl m_range (pa_cons (pe_fn F_law_take hr (by omega) (by rfl) (pa_cons (pv 0) (pa_cons pe_int pa_nil))) pa_nil)) (fun _ _ _=>pts_nil) (fun _ _ _=>(pe_fn F_law_thing hr (by omega) (by rfl) (pa_cons (pv 1) (pa_cons pe_int pa_nil))))) pa_nil)))
 (pss_cons (ps_set (i:=6) sc_law_unlike.nd rfl (Or.inl rfl) (pe_callTy call_tuple_of (by rfl) m_tuple (by rfl) (pa_cons (pe_lcomp (CompScope.one (y:= "row") (j:=0) (c:=s.heap.objs.size+1) (by rfl) (by rfl) (by decide+kernel) (by decide+kernel) (by rfl) (by decide+kernel) (by rfl) (by decide+kernel) (by rfl) (by first | exact Or.inl rfl | exact Or.inr rfl) (by first | exact Or.inl rfl | exact Or.inr rfl)) rfl (pi_range1 rfl m_range (pa_cons (pe_fn F_law_take hr (by omega) (by rfl) (pa_cons (pv 0) (pa_cons pe_int pa_nil))) pa_nil)) (fun _ _ _=>pts_nil) (fun _ _ _=>(pe_fn F_law_thing hr (by omega) (by rfl) (pa_cons (pv 1) (pa_cons pe_int pa_nil))))) pa_nil)))
 (pss_cons (ps_set (i:=1) sc_law_unlike.nd rfl (Or.inl rfl) (pe_op op_catAny (pe_op op_catAny (pv 5) (pe_tup (pa_cons (pv 1) pa_nil))) (pv 6)))
 (pss_one (ps_set (i:=2) sc_law_unlike.nd rfl (Or.inl rfl) (pe_op op_catAny (pe_op op_catAny (pv 5) (pe_tup (pa_cons (pv 2) pa_nil))) (pv 6))))))))
 (pss_cons (ps_if (pt_cmpR op_eq (pe_fn F_law_take hr (by omega) (by rfl) (pa_cons (pv 0) (pa_cons pe_int pa_nil))) pe_int (nomark _))
 (pss_one (ps_ret (pe_tup (pa_cons (pv 1) (pa_cons (pv 2) pa_nil)))))
 pss_nil)
 (pss_one (ps_ret (pe_tup (pa_cons (pv 2) (pa_cons (pv 1) pa_nil))))))))),?_⟩
 refine ⟨_,rfl,row,rfl,R0,fun t u v w p H1 tw rv rw' ep f1 R1=>?_⟩
 refine ⟨p,_,rfl,SqT.of ep,rfl,_,_,rfl,_,_,rfl,rfl,?_⟩
 refine ⟨_,rfl,row,_,rfl,R1,(show (0:Int) < 3 by decide),(by decide+kernel),fun n H2 n0 n1 f2 R2=>?_⟩
 have tk2:=Frm.tups f2 R1.noT
 have rv2:=rv.keep tk2
 have rw2:=rw'.keep tk2
 obtain ⟨y1,ty1,ki1⟩:=isint_of (K:=K) rv2
 obtain ⟨y2,ty2,ki2⟩:=isint_of (K:=K) rw2
 refine ⟨_,rfl,_,_,_,_,rfl,ty1,ki1,?_⟩
 refine ⟨_,rfl,_,_,_,_,rfl,ty2,ki2,?_⟩
 refine ⟨rfl,.inr ⟨_,rfl,_,_,rfl,rfl,?_⟩⟩
 have em:∃m:Nat,n * (if decide (V.bl (isI t)=V.bl (isI u))=true then 1 else 0)=(m:Int)∧m≤2∧(0 < m→isI t=isI u):=by
  by_cases c:isI t=isI u
  ·exact ⟨n.toNat,by rw [if_pos (decide_eq_true (by rw [c]))];omega,by omega,fun _=>c⟩
  ·exact ⟨0,by rw [if_neg (by rw [decide_eq_false (fun z=>c (by injection z))];exact Bool.false_ne_true),Int.mul_zero];rfl,by omega,fun z=>absurd z (Nat.lt_irrefl _)⟩
 obtain ⟨m,hm,m2,ml⟩:=em
 refine ⟨.inl ⟨by omega,by omega⟩,?_⟩
 show gName 3 (V.int (n * _)) _ _ _
 rw [hm]
 have mn:((m:Nat):Int).toNat=m:=rfl
 have tn:∀i,i < m→Like t u:=fun i h=>tw.lk (ml (by omega))
 refine ⟨_,rfl,_,rfl,by omega,by omega,?_⟩
 refine for_range (n:=((m:Nat):Int).toNat) (fun i σ H'=>∃(t' u':Th) (v' w':V) (k4 k5 k6:Option V),σ=[some (.ref row),some v',some w',some (.int (m:Int)),k4,k5,k6]∧Frm [row] H H'∧RowV H' row∧Rep H' t' v'∧Rep H' u' w'∧TwoI i t' u'∧(0 < m→Like t' u')) ⟨t,u,v,w,_,_,_,rfl,f1.trans f2,R2,rv2,rw2,⟨tw.w1,tw.w2,tw.d1,tw.d2,tw.n1,tw.n2,tw.ne,tw.se⟩,fun h=>tw.lk (ml h)⟩ ?_ ?_
 ·rintro i σ H' hi ⟨t',u',v',w',k4,k5,k6,rfl,fH,Ri,ri,rj,tI,lk⟩
  have lk:=lk (by omega)
  refine ⟨_,rfl,row,_,rfl,Ri,(show (0:Int) < 3 by decide),(by decide+kernel),fun a Ha a0 a1 fa Ra=>?_⟩
  refine ⟨_,rfl,by omega,by omega,fun p1 hp1=>?_⟩
  refine thing_comp (row:=row) (m:=a.toNat) (by omega) Ra hp1 (fun y Hx Z Rx z=>⟨_,rfl,row,1,rfl,Rx,by omega,by omega,fun t v H'' wt dt nt f4 R4 rt=>z t v H'' wt dt nt f4 R4 rt⟩) fun fs facc Hb rf lf wf df nf fb Rb eb=>?_
  refine ⟨p1,_,rfl,.inl ⟨SqL.of eb,fun q1 hq1=>?_⟩⟩
  have rf1:=rf.keep (Tups.new (o:=.tup facc) hq1)
  have eq1:upd Hb q1 (.tup facc) q1=some (.tup facc):=upd_same
  have fc:Frm [row] H' (upd Hb q1 (.tup facc)):=frm_new (fa.trans fb) hq1
  have Rc:=Rb.new (o:=.tup facc) hq1
  generalize upd Hb q1 (.tup facc)=Hc at rf1 eq1 fc Rc
  refine ⟨_,rfl,row,_,rfl,Rc,(show (0:Int) < 3 by decide),(by decide+kernel),fun b Hd b0 b1 fd Rd=>?_⟩
  refine ⟨_,rfl,by omega,by omega,fun p2 hp2=>?_⟩
  refine thing_comp (row:=row) (m:=b.toNat) (by omega) Rd hp2 (fun y Hx Z Rx z=>⟨_,rfl,row,1,rfl,Rx,by omega,by omega,fun t v H'' wt dt nt f4 R4 rt=>z t v H'' wt dt nt f4 R4 rt⟩) fun bs bacc He rb lb wb db nb fe Re ee=>?_
  refine ⟨p2,_,rfl,.inl ⟨SqL.of ee,fun q2 hq2=>?_⟩⟩
  have fce:Frm [row] Hc He:=fd.trans fe
  have nq1:q1≠row:=by
   obtain ⟨x,y,e,_⟩:=Rc
   exact fun z=>by rw [z,e] at eq1;cases eq1
  have fcf:Frm [row] Hc (upd He q2 (.tup bacc)):=frm_new fce hq2
  have eq1':=fcf.at eq1 (not1 nq1)
  have rf2:=rf1.keep (Frm.tups fcf Rc.noT)
  have rb2:=rb.keep (Tups.new (o:=.tup bacc) hq2)
  have eq2:upd He q2 (.tup bacc) q2=some (.tup bacc):=upd_same
  have Rf:=Re.new (o:=.tup bacc) hq2
  have fHf:Frm [row] H' (upd He q2 (.tup bacc)):=fc.trans fcf
  generalize upd He q2 (.tup bacc)=Hf at eq1' rf2 rb2 eq2 Rf fHf
  have tkf:=Frm.tups fHf Ri.noT
  have ri2:=ri.keep tkf
  have rj2:=rj.keep tkf
  have lfa:=rf2.len
  have lba:=rb2.len
  refine ⟨_,rfl,_,rfl,szl (show 1≤1000 by decide),fun q3 hq3=>?_⟩
  have s3:Same Hf (upd Hf q3 (.tup [v'])):=same_new (Same.refl Hf) hq3
  refine ⟨q1,q3,facc,[v'],rfl,rfl,s3 _ _ eq1',upd_same,szl (show facc.length+1≤1000 by omega),fun q4 Hg s4 eq4=>?_⟩
  have s34:Same Hf Hg:=s3.trans s4
  refine ⟨_,rfl,q4,q2,_,bacc,rfl,rfl,eq4,s34 _ _ eq2,szl (show (facc++ [v']).length+bacc.length≤1000 by rw [List.length_append,List.length_singleton];omega),fun q5 Hh s5 eq5=>?_⟩
  have s35:Same Hf Hh:=s34.trans s5
  have r1:Rep Hh (.tup (fs++ [t']++bs)) (.ref q5):=(((rf2.keep (Same.tups s35)).app (.cons (ri2.keep (Same.tups s35)) .nil)).app (rb2.keep (Same.tups s35))).tupA eq5
  refine ⟨_,rfl,_,rfl,szl (show 1≤1000 by decide),fun q6 hq6=>?_⟩
  have s6:Same Hf (upd Hh q6 (.tup [w'])):=same_new s35 hq6
  refine ⟨q1,q6,facc,[w'],rfl,rfl,s6 _ _ eq1',upd_same,szl (show facc.length+1≤1000 by omega),fun q7 Hi s7 eq7=>?_⟩
  have s67:Same Hf Hi:=s6.trans s7
  refine ⟨_,rfl,q7,q2,_,bacc,rfl,rfl,eq7,s67 _ _ eq2,szl (show (facc++ [w']).length+bacc.length≤1000 by rw [List.length_append,List.length_singleton];omega),fun q8 Hj s8 eq8=>?_⟩
  have s68:Same Hf Hj:=s67.trans s8
  have shj:Same Hh Hj:=(same_new (Same.refl Hh) hq6).trans (s7.trans s8)
  have r2:Rep Hj (.tup (fs++ [u']++bs)) (.ref q8):=(((rf2.keep (Same.tups s68)).app (.cons (rj2.keep (Same.tups s68)) .nil)).app (rb2.keep (Same.tups s68))).tupA eq8
  have lw:=lk.wrap fs bs
  refine ⟨_,_,_,_,_,_,_,rfl,(fH.trans fHf).trans (fun b o _ e=>s68 b o e),Rf.keep s68,r1.keep (Same.tups shj),r2,⟨wf_wrap tI.w1 wf wb (by omega) (by omega),wf_wrap tI.w2 wf wb (by omega) (by omega),dep_wrap tI.d1 df db,dep_wrap tI.d2 df db,nodes_wrap tI.n1 nf nb,nodes_wrap tI.n2 nf nb,fun z=>tI.ne ?_,lw.seal⟩,fun _=>lw⟩
  injection z with z
  have z2:=List.append_cancel_left (List.append_cancel_right z)
  injection z2
 ·rintro σ H' ⟨t',u',v',w',k4,k5,k6,rfl,fH,Ri,ri,rj,tI,_⟩
  rw [mn] at tI
  have pr:Pr t' u':=⟨⟨tI.w1,by have:=tI.d1;omega,by have:=tI.n1;omega⟩,⟨tI.w2,by have:=tI.d2;omega,by have:=tI.n2;omega⟩,tI.ne,tI.se⟩
  refine ⟨_,rfl,row,_,rfl,Ri,(show (0:Int) < 2 by decide),(by decide+kernel),fun b Hd b0 b1 fd Rd=>?_⟩
  have tk:=Frm.tups fd Ri.noT
  refine ⟨rfl,_,rfl,?_⟩
  refine ifB (fun c=>?_) (fun c=>?_)
  ·refine ⟨_,rfl,_,rfl,szl (show 2≤1000 by decide),fun p hp=>?_⟩
   have tn:=Tups.new (o:=.tup [v',w']) hp
   exact q t' u' v' w' p _ pr ((ri.keep tk).keep tn) ((rj.keep tk).keep tn) upd_same (frm_new (fH.trans fd) hp) (Rd.new hp)
  ·refine ⟨_,rfl,_,rfl,szl (show 2≤1000 by decide),fun p hp=>?_⟩
   have tn:=Tups.new (o:=.tup [w',v']) hp
   exact q u' t' w' v' p _ pr.symm ((rj.keep tk).keep tn) ((ri.keep tk).keep tn) upd_same (frm_new (fH.trans fd) hp) (Rd.new hp)
end
end Pv
namespace L2
open PySem PySem.Spec PyProof.Rows Px
structure MkrX (P:Program)(w:World)(K:PySem.W.Frag)(mg:Str→Option Value)(base:Heap)(x:Str)(C:Addr)(k:Nat)(ps:List Str)(sp:Sp):Prop where
 ex:∃f fd,FnOk P w K mg base (CX1 P w) k f fd ps sp∧Binds K fd ps []∧Mk K C f∧mg x=some (.ref C)
section
variable {P:Program}{w:World}{K:PySem.W.Frag}{mg:Str→Option Value}{base:Heap}{x qual:Str}{C:Addr}{st:Stmt}{ps N:List Str}{sp:Sp}{k:Nat}
private theorem Mkd.okX (D:Mkd K mg x C qual st ps)(S:FnScope N ps (defScope st))(len:∀vs H Q E,sp vs H Q E→vs.length=ps.length)
  (hbody:∀(f:Addr) (cdv:Value) (A:Around) (outer:List Env) (s:Shared) (H:Hp) (vs:List V) (Q:VK) (E:XK),Room k (A.deeper (envOfC qual (defScope st) s.heap.objs.size f cdv))→sp vs H Q E→
   ∃t,PSs (cxOf (CX1 P w) P w K mg base N qual (defScope st) f cdv A outer s H E) (defBody st) t∧t {nx:=fun _ H'=>Q .non H',rt:=Q} (start N vs) H):MkrX P w K mg base x C (k+1) ps sp:=by
 obtain ⟨f,fd,F,b,mk,mm⟩:=D.ex
 exact ⟨f,fd,F.okX S len (fun cdv A outer s H vs Q E hr h=>hbody f cdv A outer s H vs Q E hr h),b,mk,mm⟩
end
def tMakeS (C:Addr)(sp:Sp)(E:St→XK)(t:TA):TE:=fun σ H Q=>t σ H fun vs H1=>∀x dx,H1 x=none→H1 dx=none→dx≠x→
 sp (.ref x::vs) (upd (upd H1 dx (.own x)) x (.ins C dx [])) (fun v H2=>v=.non∧Q (.ref x) H2) (E σ)
section
variable {X:Cx}{CX:CXT}{x:Str}{C f:Addr}{fd:FuncData}{ps:List Str}{sp:Sp}{k k':Nat}{e:Expr}{es:List Expr}{t:TA}{p pos:Pos}{E:XK}{ES:St→XK}
private theorem run_makeS {pins:List (Addr ×Obj)}{σ:St}{H:Hp}{s:Shared}{Q:VK}{us:List Value}{vs:List V}(M:Mk X.K C f)(F:FnOk X.prog X.w X.K X.mg X.base CX k f fd ps sp)(hr:Room (k+1) X.A)(hb:Binds X.K fd ps [])
  (hx:PassesS CX X ES) (I:Inv X pins σ H s) (r:Vals vs us)
  (h:∀x dx,H x=none→H dx=none→dx≠x→sp (.ref x::vs) (upd (upd H dx (.own x)) x (.ins C dx [])) (fun v H2=>v=.non∧Q (.ref x) H2) (ES σ)) (hc:X.calm=true:=by rfl):
  wpAny (model X.prog X.w) X.A (call (.ref C) us) (EP X pins σ Q) X.xe s:=by
 have hq:=h (s.heap.objs.size+1) s.heap.objs.size (I.hok.fresh (Nat.le_succ _)) (I.hok.fresh (Nat.le_refl _)) (Nat.ne_of_lt (Nat.lt_succ_self _))
 have I2:=Inv.made (C:=C) I
 have r2:Vals (V.ref (s.heap.objs.size+1)::vs) (Value.ref (s.heap.objs.size+1)::us):=.cons rfl r
 have hl:(Value.ref (s.heap.objs.size+1)::us++ []).length=ps.length:=by
  have e:=r2.length
  rw [F.len _ _ _ _ hq] at e
  rw [List.append_nil]
  exact e.symm
 have hbb:=hb _ (Value.ref (s.heap.objs.size+1)::us) I2.kIn hl
 rw [List.append_nil] at hbb
 refine wpAny_call (make_map (f:=f) I.kIn M.makes M.init (beq_iff_eq.mp M.fn) (codeAny_mono (F.run _ X.stack _ _ ⟨Value.ref (s.heap.objs.size+1)::us,[]⟩ (Value.ref (s.heap.objs.size+1)::us) _ _ (ES σ) (hr.make C us [])
  ((I2.env0 hc).make C us []) hbb r2 hq) fun r s' hq'=>?_))
 cases r with
 | error e=>exact hx pins σ _ _ e s' I2 hq'
 | ok fl=>
  cases fl with
  | ret u=>
   obtain ⟨v,H',I3,rv,ev,q3⟩:=I2.after hq'
   subst ev
   exact ⟨rv,⟨V.ref (s.heap.objs.size+1),H',I3,rfl,q3⟩⟩
  | next=>exact False.elim hq'
  | brk=>exact False.elim hq'
  | cont=>exact False.elim hq'
private theorem pe_mkrS (M:MkrX X.prog X.w X.K X.mg X.base x C k ps sp)(hr:Room k' X.A)(hle:k+1≤k')(hg:Gl X x)(hx:PassesS (CX1 X.prog X.w) X ES)(ha:PA X (e::es) t)(hd:(x==("__debug__" :Str))=false:=by decide)
  (he:starEach (e::es) X.env=(false,eval e X.env)::starEach es X.env:=by rfl) (hpl:∀pos,(backTo pos (starEach es X.env)).any (·.1)=false:=by intro _;rfl) (hc:X.calm=true:=by rfl):PE X (.Call (.Name x p) (e::es) [] pos) (tMakeS C sp ES t):=by
 obtain ⟨f,fd,a,b,mk,mm⟩:=M.ex
 intro pins s σ H Q I h
 refine wpAny_Call_Name_kw (ld_glob I hg mm ?_ hd)
 refine PySem.W.callWith_K (h₀:=X.base) I.ok.mod.kin mk.kp (thn (ha pos pins s σ H _ I h) fun us s1 ⟨vs,H1,I1,r,q⟩=>⟨I1.kIn,?_⟩) he (hpl _)
 exact run_makeS (hc:=hc) mk a (hr.mono hle) b hx I1 r q
private theorem pe_mkrX (M:MkrX X.prog X.w X.K X.mg X.base x C k ps sp)(hr:Room k' X.A)(hle:k+1≤k')(hg:Gl X x)(ha:PA X (e::es) t)(hd:(x==("__debug__" :Str))=false:=by decide)
  (he:starEach (e::es) X.env=(false,eval e X.env)::starEach es X.env:=by rfl) (hpl:∀pos,(backTo pos (starEach es X.env)).any (·.1)=false:=by intro _;rfl) (hc:X.calm=true:=by rfl):PE X (.Call (.Name x p) (e::es) [] pos) (tMake C sp [] E0 t):=by
 obtain ⟨f,fd,a,b,mk,mm⟩:=M.ex
 exact pe_make (hc:=hc) mk a (hr.mono hle) hg mm b .nil pass01 ha hd he (hpl _)
end
section
variable {X:Cx}{K:PySem.W.Frag}{o e:Expr}{es:List Expr}{to:TE}{t:TA}{name:Str}{apos cpos:Pos}{T id:String}{r:V→List V→Hp→VK→Prop}
end
end L2
namespace Pv
open PySem L2
abbrev sWitness___init__:Stmt:=inClass (top 36) 0
private theorem scWitness___init__:FnScope ["self","paper","thing"] ["self","paper"] (defScope sWitness___init__):=L2.fsc (by decide+kernel)
def laidAll (ts:List Th):List (Int ×Th):=ts.foldl (fun cs t=>addT cs (sealT t) t) []
private theorem laidAll_take {ts:List Th}{i:Nat}(h:i < ts.length):laidAll (ts.take (i+1))=addT (laidAll (ts.take i)) (sealT ts[i]) ts[i]:=by
 unfold laidAll
 rw [List.take_add_one,List.getElem?_eq_getElem h,List.foldl_append]
 rfl
private theorem laidAll_mem:∀{ts:List Th} {i:Nat} {n:Int} {u:Th},lookT (laidAll (ts.take i)) n=some u→u∈ts∧sealT u=n
 | ts,0,n,u,h=>by cases h
 | ts,i+1,n,u,h=>by
  by_cases hi:i < ts.length
  ·rw [laidAll_take hi] at h
   rcases lookT_addI h with h | ⟨rfl,rfl⟩
   ·exact laidAll_mem h
   ·exact ⟨List.getElem_mem hi,rfl⟩
  ·rw [List.take_of_length_le (by omega),←List.take_of_length_le (i:=i) (show ts.length≤i by omega)] at h
   exact laidAll_mem h
private theorem laidAll_good {ts:List Th}(g:∀t∈ts,G5 t):∀i,i≤ts.length→GoodC (laidAll (ts.take i))
 | 0,_=>GoodC.nil
 | i+1,h=>by
  rw [laidAll_take (show i < ts.length by omega)]
  exact (laidAll_good g i (by omega)).add (g _ (List.getElem_mem (by omega))).good rfl
private theorem laidAll_len (ts:List Th):∀i,i≤ts.length→(laidAll (ts.take i)).length≤i
 | 0,_=>Nat.le_refl _
 | i+1,h=>by
  rw [laidAll_take (show i < ts.length by omega)]
  have:=addT_len (laidAll (ts.take i)) (sealT ts[i]) ts[i]
  have:=laidAll_len ts i (by omega)
  omega
def NoTwo (ts:List Th):Prop:=∀t∈ts,∀u∈ts,sealT t=sealT u→t=u
structure VS (H:Hp)(C a d:Addr)(cs:List (Int ×Th)):Prop where
 vo:∃kv,VOk H C a d kv∧DRep H cs kv
 gc:GoodC cs
private theorem VS.same {H H':Hp}{C a d:Addr}{cs:List (Int ×Th)}(v:VS H C a d cs)(s:Same H H'):VS H' C a d cs:=by
 obtain ⟨kv,vo,dr⟩:=v.vo
 exact ⟨⟨kv,vo.keep s,dr.keep (Same.tups s)⟩,v.gc⟩
def spW22 (W CC:Addr):Sp:=fun vs H Q E=>∃(a pp dx:Addr) (pvs:List V) (ts:List Th),vs=[.ref a,.ref pp]∧H a=some (.ins W dx [])∧H pp=some (.lst pvs)∧ts.length≤500∧ts.length≤pvs.length∧RepL H ts (pvs.take ts.length)∧(∀t∈ts,G5 t)∧NoTwo ts∧
 ((ts.length=pvs.length∧∀(d:Addr) (H':Hp),(∀b o,b≠a→H b=some o→H' b=some o)→H d=none→VS H' W a d (laidAll ts)→Q .non H')∨
  (∃(x:V) (t u:Th),pvs[ts.length]? =some x∧Rep H t x∧G5 t∧u∈ts∧sealT u=sealT t∧u≠t∧∀(H':Hp) (dd:Addr) (v1 v2:V),(∀b o,b≠a→H b=some o→H' b=some o)→Rep H' u v1→Rep H' t v2→H' dd=some (xdO dd [("one",v1),("other",v2)])→E (.ref CC) (some dd) H'))
section
variable {P:Program}{w:World}{K:PySem.W.Frag}{mg:Str→Option Value}{base:Heap}{W CB CC:Addr}{x:Str}
private theorem laidAll_some {ts:List Th}(nt:NoTwo ts):∀(i:Nat) (t:Th),i≤ts.length→t∈ts.take i→lookT (laidAll (ts.take i)) (sealT t)=some t
 | 0,t,_,h=>by cases h
 | i+1,t,hi,h=>by
  have hil:i < ts.length:=by omega
  rw [List.take_add_one,List.getElem?_eq_getElem hil] at h
  rw [laidAll_take hil]
  rcases List.mem_append.mp h with h | h
  ·exact lookT_add (laidAll_some nt i t (by omega) h)
  ·have e:t=ts[i]:=by simpa using h
   subst e
   refine lookT_added ?_
   cases z:lookT (laidAll (ts.take i)) (sealT ts[i]) with
   | none=>exact .inl z
   | some u=>
    obtain ⟨hu,su⟩:=laidAll_mem z
    rw [nt u hu ts[i] (List.getElem_mem hil) su] at z
    exact .inr z
private theorem ok_w22 (D:Mkd K mg x W "Witness.__init__" sWitness___init__ ["self","paper"]) (G_Vault___init__:Kfn P w K mg base "Vault" "__init__" 1 ["self"] (spVInit W)) (F_is_thing:Fn P w K mg base "is_thing" 15 ["thing"] spIsT) (M_lay:Mt P w K mg base (CX1 P w) W "lay" 24 ["self","thing"] (spLay W CC)) (X_BadThing:XP K mg "BadThing" CB) (c_W:Cls K W):
  MkrX P w K mg base x W 26 ["self","paper"] (spW22 W CC):=by
 refine D.okX (k:=25) scWitness___init__ (fun vs H Q E h=>?_) (fun f cdv A outer s H vs Q E hr h=>?_)
 ·obtain ⟨a,pp,dx,pvs,ts,rfl,_⟩:=h;rfl
 obtain ⟨a,pp,dx,pvs,ts,rfl,ea,epp,hl,hlp,rp,hg,nt,q⟩:=h
 refine ⟨_,(pss_cons (ps_expr (pe_kfn G_Vault___init__ hr (by omega) (by rfl) (pa_cons (pv 0) pa_nil)))
 (pss_one (ps_for PassesOwn.leaving rfl (pi_list (pv 1)) (pg_name (i:=2) scWitness___init__.nd rfl (Or.inl rfl))
 (pss_cons (ps_if (pt_not (pt_val (pe_fn F_is_thing hr (by omega) (by rfl) (pa_cons (pv 2) pa_nil))))
 (pss_one (ps_raise raise_fn (hr.hd (by decide)) (pe_xp X_BadThing (by rfl) (pa_cons pe_str pa_nil))))
 pss_nil)
 (pss_one (ps_expr (pe_mt (pv 0) c_W M_lay hr (by omega) pass_fn (pa_cons (pv 2) pa_nil)))))))),?_⟩
 refine ⟨_,rfl,a,dx,rfl,ea,fun d hd=>?_⟩
 have ad:a≠d:=ne_of_none ea hd
 have f0:∀b o,b≠a→H b=some o→upd (upd H d (.dK [])) a (.ins W dx [("laid",.ref d)]) b=some o:=fun b o n e=>by rw [upd_ne n,upd_ne (ne_of_none e hd)];exact e
 have ea0:upd (upd H d (.dK [])) a (.ins W dx [("laid",.ref d)]) a=some (.ins W dx [("laid",.ref d)]):=upd_same
 have ed0:upd (upd H d (.dK [])) a (.ins W dx [("laid",.ref d)]) d=some (.dK []):=by rw [upd_ne ad.symm];exact upd_same
 generalize upd (upd H d (.dK [])) a (.ins W dx [("laid",.ref d)])=H0 at f0 ea0 ed0
 have pa:pp≠a:=ne_of epp ea (by intro z;cases z)
 have epp0:=f0 _ _ pa epp
 have tk0:Tups H H0:=fun b xs e=>f0 b _ (ne_of e ea (by intro z;cases z)) e
 have rp0:=rp.keep tk0
 refine ⟨_,rfl,pp,rfl,⟨_,SqL.of epp0⟩,?_⟩
 refine for_list (xs:=pvs) (fun i σ H'=>i≤ts.length∧∃(k2:Option V) (kvs:List (Key ×V)),σ=[some (.ref a),some (.ref pp),k2]∧(∀b o,b≠d→H0 b=some o→H' b=some o)∧H' d=some (.dK kvs)∧DRep H' (laidAll (ts.take i)) kvs) ⟨Nat.zero_le _,_,[],rfl,fun b o _ e=>e,ed0,.nil⟩ ?_ ?_ ?_
 ·rintro i σ H' _ ⟨_,k2,kvs,rfl,f1,e1,d1⟩
  exact SqL.of (f1 _ _ (ne_of epp0 ed0 (by intro z;cases z)) epp0)
 ·rintro i y σ H' hy ⟨hi,k2,kvs,rfl,f1,e1,d1⟩
  have tk1:Tups H0 H':=fun b xs e=>f1 b _ (ne_of e ed0 (by intro z;cases z)) e
  have ea1:=f1 _ _ ad ea0
  have vo:VOk H' W a d kvs:=⟨⟨dx,_,ea1,flds1 _⟩,e1⟩
  have gc:=laidAll_good hg i (by omega)
  have ln:=laidAll_len ts i (by omega)
  have lk:=d1.len
  have fr:∀b o,b≠a→H b=some o→H' b=some o:=fun b o n e=>f1 b o (ne_of_none e hd) (f0 b o n e)
  by_cases hil:i < ts.length
  ·have ht:ts[i]? =some ts[i]:=List.getElem?_eq_getElem hil
   have hy':(pvs.take ts.length)[i]? =some y:=by rw [List.getElem?_take_of_lt hil];exact hy
   have ry:=(rp0.at i y _ hy' ht).keep tk1
   have g:=hg ts[i] (List.getElem_mem hil)
   have fits:Fits (laidAll (ts.take i)) (sealT ts[i]) ts[i]:=by
    cases z:lookT (laidAll (ts.take i)) (sealT ts[i]) with
    | none=>exact .inl z
    | some u=>
     obtain ⟨hu,su⟩:=laidAll_mem z
     rw [nt u hu ts[i] (List.getElem_mem hil) su] at z
     exact .inr z
   refine ⟨_,rfl,ts[i],y,rfl,ry,g.wf,g.dp,_,rfl,ifF rfl ?_⟩
   refine ⟨_,rfl,a,dx,_,rfl,ea1,(flds1 d).n2,_,rfl,a,d,kvs,ts[i],y,rfl,vo,d1.laidOk gc.gd,by omega,ry,g.good,fun H2 s2 _=>?_,fun t1 v1 H2 s2 ev r1 g1 sn ne=>?_⟩
   ·have e2:=s2 _ _ e1
    have tk2:Tups H' (upd H2 d (.dK (putK kvs (.inl (sealT ts[i])) y))):=(Same.tups s2).trans (Tups.upd fun xs z=>by rw [e2] at z;cases z)
    refine ⟨hil,_,_,rfl,fun b o n e=>by rw [upd_ne n];exact s2 _ _ (f1 b o n e),upd_same,?_⟩
    rw [laidAll_take hil]
    exact (d1.keep tk2).add (ry.keep tk2) fits gc.nd
   ·obtain ⟨u,eu,ru⟩:=d1.back ev
    rcases fits with f | f
    ·rw [f] at eu;cases eu
    ·rw [f] at eu;cases eu
     exact absurd (Rep.inj r1 (ru.keep (Same.tups s2))) ne
  ·have ei:i=ts.length:=by omega
   subst ei
   rcases q with ⟨hq,_⟩ | ⟨z,t,u,hz,rz,g,hu,su,ne,q⟩
   ·have:=(List.getElem?_eq_some_iff.mp hy).1
    omega
   ·have:y=z:=Option.some.inj (hy.symm.trans hz)
    subst this
    have tk:Tups H H':=tk0.trans tk1
    have rz':=rz.keep tk
    rw [List.take_length] at d1 ln gc lk
    refine ⟨_,rfl,t,y,rfl,rz',g.wf,g.dp,_,rfl,ifF rfl ?_⟩
    refine ⟨_,rfl,a,dx,_,rfl,ea1,(flds1 d).n2,_,rfl,a,d,kvs,t,y,rfl,vo,d1.laidOk gc.gd,by omega,rz',g.good,fun H2 s2 al=>?_,fun t1 v1 H2 s2 ev r1 g1 sn ne' H3 dd s3 e3=>?_⟩
    ·have lu:=laidAll_some nt ts.length u (Nat.le_refl _) (by rw [List.take_length];exact hu)
     rw [List.take_length,su] at lu
     obtain ⟨v1,ev,rv⟩:=d1.some lu
     exact absurd (al u v1 ev rv) ne
    ·have lu:=laidAll_some nt ts.length u (Nat.le_refl _) (by rw [List.take_length];exact hu)
     rw [List.take_length,su] at lu
     obtain ⟨v3,ev3,rv3⟩:=d1.some lu
     rw [ev] at ev3
     cases ev3
     exact q H3 dd _ _ (fun b o n e=>s3 b o (s2 b o (fr b o n e))) (rv3.keep ((Same.tups s2).trans (Same.tups s3))) (rz'.keep ((Same.tups s2).trans (Same.tups s3))) e3
 ·rintro σ H' ⟨hi,k2,kvs,rfl,f1,e1,d1⟩
  rcases q with ⟨hq,q⟩ | ⟨z,t,u,hz,_⟩
  ·rw [←hq,List.take_length] at d1
   refine q d H' (fun b o n e=>f1 b o (ne_of_none e hd) (f0 b o n e)) hd ⟨⟨kvs,⟨⟨dx,_,f1 _ _ ad ea0,flds1 _⟩,e1⟩,d1⟩,?_⟩
   have:=laidAll_good hg ts.length (Nat.le_refl _)
   rwa [List.take_length] at this
  ·have:=(List.getElem?_eq_some_iff.mp hz).1
   omega
end
end Pv
namespace L2
open PySem PySem.Spec PyProof.Rows Px
def hideBut (base:Heap)(e:Addr):Hp:=fun b=>if b=e∨(base.get? b).isSome=true then none else some (.own 0)
private theorem hideBut_none {base:Heap}{e b:Addr}(h:hideBut base e b=none):b=e∨∃o,base.get? b=some o:=by
 unfold hideBut at h
 split at h
 ·next c=>
  rcases c with c | c
  ·exact .inl c
  ·exact .inr (Option.isSome_iff_exists.mp c)
 ·cases h
private theorem hideBut_e {base:Heap}{e:Addr}:hideBut base e e=none:=by unfold hideBut;rw [if_pos (.inl rfl)]
private theorem hideBut_b {base:Heap}{e b:Addr}{o:Obj}(h:base.get? b=some o):hideBut base e b=none:=by unfold hideBut;rw [if_pos (.inr (by rw [h];rfl))]
private theorem Room.mark {k k':Nat}{A:Around}{h:Option Value}(r:Room k' A)(le:k≤k')(lt:k < 20):Room k (A.mark h):=⟨fun z=>absurd (Nat.lt_of_lt_of_le lt z) (Nat.lt_irrefl _),(r.mono le).dp,(r.mono le).un⟩
section
variable {X:Cx}{pins:List (Addr ×Obj)}{σ:St}{H:Hp}{s:Shared}{ea C:Addr}{od:Option Addr}
private theorem Inv.envQ (I:Inv X pins σ H s)(hA:X.A.handled=some (.ref ea))(he:H ea=some (exO ea C od false)):
  Env0 X.prog X.w X.K X.mg (hidT s.heap (hideBut X.base ea)) X.A X.stack s (del H ea):=by
 obtain ⟨vs,sl,ge,_,h2⟩:=exO_get I.hok he
 have bk:∀b o,X.base.get? b=some o→(hidT s.heap (hideBut X.base ea)).get? b=some o:=fun b o q=>hidT_get (I.bk b o q) (hideBut_b q)
 have nsK:∀{b:Addr} {m:Str→Option Value},X.base.Ns b m→(hidT s.heap (hideBut X.base ea)).Ns b m:=fun {b m} ⟨o,es,ep,e,d,r⟩=>⟨o,es,ep,bk _ _ e,d,r⟩
 have M:Mod X.K X.mg X.base:=I.ok.mod
 have nf:∀b∈frs X.stack,b≠ea:=fun b hb z=>by
  have:=I.stkFree b hb
  rw [z,he] at this;cases this
 have fun':∀l:List Env,(∀b∈frs l,b≠ea)→s.heap.FunFrames X.base l→s.heap.FunFrames (hidT s.heap (hideBut X.base ea)) l:=by
  intro l
  induction l with
  | nil=>intro _ _;trivial
  | cons env r ih=>
   intro hs hl
   obtain ⟨hk,⟨L,o,hf,hn,ho,hd⟩,hr⟩:=hl
   have hL:L≠ea:=hs L (by unfold frs;rw [List.filterMap_cons,hf];exact List.mem_cons_self)
   refine ⟨hk,⟨L,o,hf,?_,ho,hd⟩,ih (fun b hb=>hs b (by unfold frs;rw [List.filterMap_cons,hf];exact List.mem_cons_of_mem _ hb)) hr⟩
   cases q:(hidT s.heap (hideBut X.base ea)).get? L with
   | none=>rfl
   | some o'=>
    rcases hideBut_none (of_hidT q).2 with z | ⟨o2,z⟩
    ·exact absurd z hL
    ·rw [hn] at z;cases z
 refine ⟨I.ok.frames,⟨fun b o q=>bk b o (M.kin b o q),nsK M.glob,?_,?_⟩,fun b o q=>?_,Nat.le_of_eq (hidT_size _ _),fun' _ nf I.stack,fun b hb=>?_,I.hok.drop he,I.bare,.inr ⟨ea,_,hA,hidT_get ge hideBut_e,vs,rfl,h2⟩⟩
 ·obtain ⟨mb,h1,h2⟩:=M.blt
  exact ⟨mb,nsK h1,h2⟩
 ·obtain ⟨mc,h1,h2⟩:=M.nolimit
  exact ⟨mc,nsK h1,h2⟩
 ·obtain ⟨q1,q2⟩:=of_hidT q
  refine ⟨q1,?_⟩
  by_cases z:b=ea
  ·rw [z];exact del_same
  ·rw [del_ne z]
   rcases hideBut_none q2 with y | ⟨o',y⟩
   ·exact absurd y z
   ·exact (I.bs b o' y).2
 ·rw [del_ne (nf b hb)];exact I.stkFree b hb
private theorem Un.back {fs ex:List Addr}{H H':Hp}{h h':Heap}{e:Addr}{o:HO}{φ:Heap→Prop}(u:Un fs ex (del H e) H' h h')(he:H e=some (.ext φ))(n:H' e=none):Un fs ex H (upd H' e o) h h' where
 keep:=fun b ob q m hf hx=>u.keep b ob q (by rw [del_ne (fun z=>by rw [z,he] at m;cases m)];exact m) hf hx
 slot:=fun b ob q m hf hx=>u.slot b ob q (by rw [del_ne (fun z=>by rw [z,he] at m;cases m)];exact m) hf hx
 free:=fun b ob q m hx=>by
  have ne:b≠e:=fun z=>by rw [z,he] at m;cases m
  rw [upd_ne ne]
  exact u.free b ob q (by rw [del_ne ne];exact m) hx
 there:=u.there
 tups:=fun b xs q=>by
  have ne:b≠e:=fun z=>by rw [z,he] at q;cases q
  rw [upd_ne ne];exact u.tups b xs (by rw [del_ne ne];exact q)
 frzs:=fun b ob v q=>by
  have ne:b≠e:=fun z=>by rw [z,he] at q;cases q
  rw [upd_ne ne];exact u.frzs b ob v (by rw [del_ne ne];exact q)
 tbls:=fun b ps q=>by
  have ne:b≠e:=fun z=>by rw [z,he] at q;cases q
  obtain ⟨m,y⟩:=u.tbls b ps (by rw [del_ne ne];exact q)
  exact ⟨m,by rw [upd_ne ne];exact y⟩
end
section
variable {X:Cx}{x:Str}{ps:List Str}{sp:Sp}{k k':Nat}{e:Expr}{es:List Expr}{t:TA}{p pos:Pos}{ea:Addr}
end
end L2
namespace L2
open PySem PySem.Spec PyProof.Rows Px
def XB (base:Heap)(e C:Addr)(od:Option Addr):Prop:=∃vs sl,base.get? e=some ⟨.ref C,od,.fields vs,sl⟩
def tXGB (base:Heap)(K:PySem.W.Frag)(ta:TE)(f:Str):TE:=fun σ H Q=>ta σ H fun x H1=>∃a C d l v,x=.ref a∧XB base a C (some d)∧H1 d=some (xdO d l)∧XCls K C∧NoAttr K C f∧l.lookup f=some v∧Q v H1
def rInstB (base:Heap)(K:PySem.W.Frag):List V→Hp→VK→Prop:=fun xs H Q=>∃a C od y b,xs=[.ref a,y]∧XB base a C od∧XKind K C∧(∀d,od=some d→∃l,H d=some (xdO d l))∧Q (.bl b) H∧
 ((∃c,(y=.ty c∧PySem.W.kitOne K (.ref C) (.type c)=some b))∨(∃c,(y=.ref c∧PySem.W.kitOne K (.ref C) (.ref c)=some b))∨∃p ts,y=.ref p∧H p=some (.tup ts)∧Clss ts∧PySem.W.kitAny K (.ref C) (ts.map clsV)=some b)
def tCallR (ea:Addr)(sp:Heap→Sp)(t:TA):TE:=fun σ H Q=>t σ H fun vs H1=>∃C od,H1 ea=some (exO ea C od false)∧∀base,XB base ea C od→sp base vs (del H1 ea) (fun v H2=>Q v (upd H2 ea (exO ea C od false))) E0
section
variable {X:Cx}{e:Expr}{f:Str}{pos:Pos}{ta:TE}
private theorem pe_xgB (he:PE X e ta)(hb:attributeBase e f X.env (eval e X.env)=eval e X.env):PE X (.Attribute e f pos) (tXGB X.base X.K ta f):=by
 intro pins s σ H Q I h
 refine attr_of hb (thn (he pins s σ H _ I h) fun u s1 ⟨x,H1,I1,rx,a,C,d,l,v,ex,⟨vs,sl,gb⟩,ed,c,n,lk,q⟩=>?_)
 subst ex
 obtain rfl:u=Value.ref a:=rx
 have ge:=I1.bk _ _ gb
 obtain ⟨mA,ns,rl,wi⟩:=xdO_get I1.hok ed
 obtain ⟨w,hw,rw'⟩:=RelO.some_of (v:=v) (o:=mA f) (by rw [←lk];exact rl f)
 obtain ⟨ob,hob,hl⟩:=lookIn_ns ns
 have J:PySem.W.InstAt s1.heap a ⟨.ref C,some d,.fields vs,sl⟩ C (some ob):=⟨ge,rfl,rfl,hob⟩
 exact x_get I1.kIn J c.ov c.ga c.gn (PySem.W.findObj_own c.hd n rfl (by rw [hl,hw])) (handed_of rw') ⟨v,H1,I1.tok _,rw',q⟩
private theorem call_isinstB:CallR X (.builtin "isinstance") (rInstB X.base X.K):=by
 intro pins s σ H xs us Q I r h
 obtain ⟨a,C,od,y,b,rfl,⟨vs,sl,gb⟩,k,hd,q,hy⟩:=h
 obtain ⟨u,w',rfl,ru,rw'⟩:=vals2 r
 cases (show u=Value.ref a from ru)
 have ge:=I.bk _ _ gb
 have kz:∃Z:Heap→Prop,PySem.W.KitX X.K (.ref a) (.ref C) Z∧Z s.heap:=by
  cases od with
  | none=>exact ⟨_,kitx_exc (od:=none) k.cl.ov k.cl.ga k.cl.gn k.ha k.hn k.ht k.hm,⟨ge,rfl,rfl,trivial⟩⟩
  | some d=>
   obtain ⟨l,ed⟩:=hd d rfl
   obtain ⟨mA,ns,_,_⟩:=xdO_get I.hok ed
   obtain ⟨ob,hob,_⟩:=lookIn_ns ns
   exact ⟨_,kitx_exc (od:=some ob) k.cl.ov k.cl.ga k.cl.gn k.ha k.hn k.ht k.hm,⟨ge,rfl,rfl,hob⟩⟩
 obtain ⟨Z,kx,z⟩:=kz
 rcases hy with ⟨c,rfl,e⟩ | ⟨c,rfl,e⟩ | ⟨p,ts,rfl,ep,cl,e⟩
 ·cases (show w'=Value.type c from rw')
  exact PySem.W.kia_one kx I.kIn z e (fun y=>nomatch y) fun tk=>⟨.bl b,H,I.tok tk,rfl,q⟩
 ·cases (show w'=Value.ref c from rw')
  exact PySem.W.kia_one kx I.kIn z e (fun y=>nomatch y) fun tk=>⟨.bl b,H,I.tok tk,rfl,q⟩
 ·cases (show w'=Value.ref p from rw')
  obtain ⟨_,its,vs,o,h1,h2,n,h3⟩:=(show ObjOk X.prog X.w H s.heap p (.tup ts) from I.hok p _ ep)
  have ei:=clss_vals cl vs
  obtain ⟨c0,d0,dt,sl⟩:=o
  dsimp only at h2 h3
  subst h2;subst h3
  exact PySem.W.kia_tup kx I.kIn z h1 (by rw [ei];exact e) (fun y=>nomatch y) fun tk=>⟨.bl b,H,I.tok tk,rfl,q⟩
end
section
variable {X:Cx}{pins:List (Addr ×Obj)}{σ:St}{H:Hp}{s:Shared}{ea C:Addr}{od:Option Addr}
private theorem run_fnR {k k':Nat}{f:Addr}{ps:List Str}{sp:Heap→Sp}{Q:VK}{us:List Value}{vs:List V}(F:∀base,∃fd,FnOk X.prog X.w X.K X.mg base CX0 k f fd ps (sp base)∧Binds X.K fd ps [])(hr:Room k' X.A)(hle:k≤k')(hA:X.A.handled=some (.ref ea))
  (I:Inv X pins σ H s) (he:H ea=some (exO ea C od false)) (r:Vals vs us) (h:∀base,XB base ea C od→sp base vs (del H ea) (fun v H2=>Q v (upd H2 ea (exO ea C od false))) E0):
  wpAny (model X.prog X.w) X.A (call (.ref f) us) (EP X pins σ Q) X.xe s:=by
 have e0:=I.envQ hA he
 obtain ⟨vsx,sl,ge,gx⟩:=exO_get I.hok he
 have h:=h (hidT s.heap (hideBut X.base ea)) ⟨vsx,sl,hidT_get ge hideBut_e⟩
 obtain ⟨fd,Fb,hb⟩:=F (hidT s.heap (hideBut X.base ea))
 have hl:(us++ []).length=ps.length:=by rw [List.append_nil,←r.length];exact Fb.len _ _ _ _ h
 have hbb:=hb s us I.kIn hl
 rw [List.append_nil] at hbb
 refine wpAny_call (codeAny_mono (Fb.run X.A X.stack s (del H ea) ⟨us,[]⟩ us vs _ E0 (hr.mono hle) e0 hbb r h) fun r s' hq=>?_)
 cases r with
 | error e=>exact hq.elim
 | ok fl=>
  cases fl with
  | ret u=>
   obtain ⟨v,H',os,bare,un,hok,rv,q⟩:=hq
   have nea:ea∉frs X.stack:=fun hm=>by
    have:=I.stkFree ea hm
    rw [he] at this;cases this
   have g':=un.keep ea _ ge del_same nea (by simp)
   have n':H' ea=none:=un.free ea _ ge del_same (by simp)
   refine ⟨v,_,I.call' os (un.back he n') (hok.track n' (exO_ok g' gx)) bare (fun b z=>nomatch z),rv,q⟩
  | next=>exact False.elim hq
  | brk=>exact False.elim hq
  | cont=>exact False.elim hq
end
section
variable {X:Cx}{x:Str}{ps:List Str}{sp:Heap→Sp}{k k':Nat}{e:Expr}{es:List Expr}{t:TA}{p pos:Pos}{ea:Addr}
private theorem pe_fnR (F:∀base,Fn X.prog X.w X.K X.mg base x k ps (sp base))(hr:Room k' X.A)(hle:k≤k')(hA:X.A.handled=some (.ref ea))(hg:Gl X x)(ha:PA X (e::es) t)(hd:(x==("__debug__" :Str))=false:=by decide)
  (he:starEach (e::es) X.env=(false,eval e X.env)::starEach es X.env:=by rfl) (hpl:∀pos,(backTo pos (starEach es X.env)).any (·.1)=false:=by intro _;rfl):PE X (.Call (.Name x p) (e::es) [] pos) (tCallR ea sp t):=by
 intro pins s σ H Q I h
 obtain ⟨f,fd,a,b,kp,m⟩:=(F X.base).ex
 refine wpAny_Call_Name_kw (ld_glob I hg m ?_ hd)
 refine PySem.W.callWith_K (h₀:=X.base) I.ok.mod.kin kp (thn (ha pos pins s σ H _ I h) fun us s1 ⟨vs,H1,I1,r,C,od,hea,q⟩=>⟨I1.kIn,?_⟩) he (hpl _)
 refine run_fnR (X:=X) (ps:=ps) (fun base=>?_) hr hle hA I1 hea r q
 obtain ⟨f',fd',a',b',kp',m'⟩:=(F base).ex
 rw [m] at m'
 cases m'
 exact ⟨fd',a',b'⟩
end
end L2
namespace Pv
open PySem L2
abbrev s_law_caught:Stmt:=top 45
private theorem sc_law_caught:FnScope ["e","one","other"] ["e","one","other"] (defScope s_law_caught):=L2.fsc (by decide+kernel)
structure CauOk (K:PySem.W.Frag)(CVaultError CClash CBadThing CNoColumn CNoCommand CNoName CNoPaper CNoPlan CNoQuestion CNoRow CNoState CNoStep CNoTable CNoThing CNotOn CNotSo:Addr):Prop where
 kd:XKind K CClash
 em:PySem.W.exmOne K (.ref CClash) (.ref CVaultError)=some true
 k1:PySem.W.kitOne K (.ref CClash) (.ref CClash)=some true
 k2:PySem.W.kitOne K (.ref CClash) (.type "ValueError")=some true
 k3:PySem.W.kitAny K (.ref CClash) [.ref CBadThing,.ref CNoColumn,.ref CNoCommand,.ref CNoName,.ref CNoPaper,.ref CNoPlan,.ref CNoQuestion,.ref CNoRow,.ref CNoState]=some false
 k4:PySem.W.kitAny K (.ref CClash) [.ref CNoStep,.ref CNoTable,.ref CNoThing,.ref CNotOn,.ref CNotSo]=some false
def spCau (CC:Addr)(base:Heap):Sp:=fun vs H Q _=>∃(e dd:Addr) (v1 v2 w1 w2:V) (t u:Th),vs=[.ref e,w1,w2]∧XB base e CC (some dd)∧H dd=some (xdO dd [("one",v1),("other",v2)])∧Rep H t v1∧Rep H u v2∧Rep H t w1∧Rep H u w2∧dep t≤8∧dep u≤8∧∀H',Same H H'→Q (.bl true) H'
section
variable {P:Program}{w:World}{K:PySem.W.Frag}{mg:Str→Option Value}{CVaultError CClash CBadThing CNoColumn CNoCommand CNoName CNoPaper CNoPlan CNoQuestion CNoRow CNoState CNoStep CNoTable CNoThing CNotOn CNotSo:Addr}
private theorem ok_cau (D:Dfn K mg "_law_caught" s_law_caught ["e","one","other"]) (Fs:∀base,Fn P w K mg base "_law_same" 11 ["told","due"] (spSameE 9)) (ko:CauOk K CVaultError CClash CBadThing CNoColumn CNoCommand CNoName CNoPaper CNoPlan CNoQuestion CNoRow CNoState CNoStep CNoTable CNoThing CNotOn CNotSo)
  (n1:NoAttr K CClash "one") (n2:NoAttr K CClash "other")
  (c_Clash:mg "Clash" =some (.ref CClash)) (c_NoPaper:mg "NoPaper" =some (.ref CNoPaper)) (c_BadThing:mg "BadThing" =some (.ref CBadThing)) (c_NoColumn:mg "NoColumn" =some (.ref CNoColumn)) (c_NoCommand:mg "NoCommand" =some (.ref CNoCommand)) (c_NoName:mg "NoName" =some (.ref CNoName)) (c_NoPlan:mg "NoPlan" =some (.ref CNoPlan)) (c_NoQuestion:mg "NoQuestion" =some (.ref CNoQuestion)) (c_NoRow:mg "NoRow" =some (.ref CNoRow)) (c_NoState:mg "NoState" =some (.ref CNoState)) (c_NoStep:mg "NoStep" =some (.ref CNoStep)) (c_NoTable:mg "NoTable" =some (.ref CNoTable)) (c_NoThing:mg "NoThing" =some (.ref CNoThing)) (c_NotOn:mg "NotOn" =some (.ref CNotOn)) (c_NotSo:mg "NotSo" =some (.ref CNotSo))
  (m_isinstance:mg "isinstance" =none) (m_ValueError:mg "ValueError" =none) (base:Heap):Fn P w K mg base "_law_caught" 12 ["e","one","other"] (spCau CClash base):=by
 have F_law_same:=Fs base
 refine D.ok (k:=11) sc_law_caught (fun vs H Q E h=>?_) (fun f cdv A outer s H vs Q E hr h=>?_)
 ·obtain ⟨e,dd,v1,v2,w1,w2,t,u,rfl,_⟩:=h;rfl
 obtain ⟨e,dd,v1,v2,w1,w2,t,u,rfl,xb,ed,r1,r2,r3,r4,d1,d2,q⟩:=h
 refine ⟨_,(pss_cons (ps_if (PW.pt (pw_or (pt_not (pt_val (pe_callB (call_isinstB) (by rfl) m_isinstance (by rfl) (pa_cons (pv 0) (pa_cons (pe_glob (v:=.ref CClash) (by rfl) c_Clash rfl) pa_nil))))) (pw_or1 (pt_not (pt_val (pe_callB (call_isinstB) (by rfl) m_isinstance (by rfl) (pa_cons (pv 0) (pa_cons (pe_bltn (v:=.ty "ValueError") (by rfl) m_ValueError (by rfl) rfl) pa_nil))))))))
 (pss_one (ps_ret pe_bl))
 pss_nil)
 (pss_cons (ps_if (pt_val (pe_callB (call_isinstB) (by rfl) m_isinstance (by rfl) (pa_cons (pv 0) (pa_cons (pe_tup (pa_cons (pe_glob (v:=.ref CBadThing) (by rfl) c_BadThing rfl) (pa_cons (pe_glob (v:=.ref CNoColumn) (by rfl) c_NoColumn rfl) (pa_cons (pe_glob (v:=.ref CNoCommand) (by rfl) c_NoCommand rfl) (pa_cons (pe_glob (v:=.ref CNoName) (by rfl) c_NoName rfl) (pa_cons (pe_glob (v:=.ref CNoPaper) (by rfl) c_NoPaper rfl) (pa_cons (pe_glob (v:=.ref CNoPlan) (by rfl) c_NoPlan rfl) (pa_cons (pe_glob (v:=.ref CNoQuestion) (by rfl) c_NoQuestion rfl) (pa_cons (pe_glob (v:=.ref CNoRow) (by rfl) c_NoRow rfl) (pa_cons (pe_glob (v:=.ref CNoState) (by rfl) c_NoState rfl) pa_nil)))))))))) pa_nil))))
 (pss_one (ps_ret pe_bl))
 pss_nil)
 (pss_cons (ps_if (pt_val (pe_callB (call_isinstB) (by rfl) m_isinstance (by rfl) (pa_cons (pv 0) (pa_cons (pe_tup (pa_cons (pe_glob (v:=.ref CNoStep) (by rfl) c_NoStep rfl) (pa_cons (pe_glob (v:=.ref CNoTable) (by rfl) c_NoTable rfl) (pa_cons (pe_glob (v:=.ref CNoThing) (by rfl) c_NoThing rfl) (pa_cons (pe_glob (v:=.ref CNotOn) (by rfl) c_NotOn rfl) (pa_cons (pe_glob (v:=.ref CNotSo) (by rfl) c_NotSo rfl) pa_nil)))))) pa_nil))))
 (pss_one (ps_ret pe_bl))
 pss_nil)
 (pss_one (ps_ret (pe_and (pe_fn F_law_same hr (by omega) (by rfl) (pa_cons (pe_xgB (pv 0) (by rfl)) (pa_cons (pv 1) pa_nil))) (pe_one (pe_fn F_law_same hr (by omega) (by rfl) (pa_cons (pe_xgB (pv 0) (by rfl)) (pa_cons (pv 2) pa_nil)))))))))),?_⟩
 have ho:∀H':Hp,Same H H'→∀d,(some dd:Option Addr)=some d→∃l,H' d=some (xdO d l):=fun H' s d z=>by cases z;exact ⟨_,s _ _ ed⟩
 refine ⟨_,rfl,e,CClash,some dd,_,true,rfl,xb,ko.kd,ho _ (Same.refl H),⟨_,rfl,ifF rfl ?_⟩,.inr (.inl ⟨_,rfl,ko.k1⟩)⟩
 refine ⟨_,rfl,e,CClash,some dd,_,true,rfl,xb,ko.kd,ho _ (Same.refl H),⟨_,rfl,ifF rfl ?_⟩,.inl ⟨_,rfl,ko.k2⟩⟩
 refine ⟨_,rfl,szl (show 9≤1000 by decide),fun p hp=>?_⟩
 generalize hts:[V.ref CBadThing,.ref CNoColumn,.ref CNoCommand,.ref CNoName,.ref CNoPaper,.ref CNoPlan,.ref CNoQuestion,.ref CNoRow,.ref CNoState]=ts
 have et:upd H p (.tup ts) p=some (.tup ts):=upd_same
 have s4:Same H (upd H p (.tup ts)):=same_new (Same.refl H) hp
 generalize upd H p (.tup ts)=H4 at et s4
 refine ⟨e,CClash,some dd,_,false,rfl,xb,ko.kd,ho _ s4,?_,.inr (.inr ⟨p,ts,rfl,et,?_,?_⟩)⟩
 ·refine ⟨_,rfl,ifF rfl ?_⟩
  refine ⟨_,rfl,szl (show 5≤1000 by decide),fun p' hp'=>?_⟩
  generalize hus:[V.ref CNoStep,.ref CNoTable,.ref CNoThing,.ref CNotOn,.ref CNotSo]=us
  have et':upd H4 p' (.tup us) p'=some (.tup us):=upd_same
  have s5:Same H (upd H4 p' (.tup us)):=same_new s4 hp'
  generalize upd H4 p' (.tup us)=H5 at et' s5
  refine ⟨e,CClash,some dd,_,false,rfl,xb,ko.kd,ho _ s5,?_,.inr (.inr ⟨p',us,rfl,et',?_,?_⟩)⟩
  ·refine ⟨_,rfl,ifF rfl ?_⟩
   have tk:=Same.tups s5
   refine ⟨_,rfl,e,CClash,dd,_,_,rfl,xb,s5 _ _ ed,ko.kd.cl,n1,rfl,_,rfl,t,t,v1,w1,rfl,r1.keep tk,r3.keep tk,by omega,by omega,by omega,fun H6 s6=>⟨_,rfl,?_⟩⟩
   refine ifT (by rw [eqT_refl]) ?_
   have s56:=s5.trans s6
   have tk6:=Same.tups s56
   refine ⟨_,rfl,e,CClash,dd,_,_,rfl,xb,s56 _ _ ed,ko.kd.cl,n2,rfl,_,rfl,u,u,v2,w2,rfl,r2.keep tk6,r4.keep tk6,by omega,by omega,by omega,fun H7 s7=>?_⟩
   rw [eqT_refl]
   exact q _ (s56.trans s7)
  ·intro v hv
   rw [←hus] at hv
   simp only [List.mem_cons,List.not_mem_nil,or_false] at hv
   rcases hv with rfl | rfl | rfl | rfl | rfl <;> exact .inr ⟨_,rfl⟩
  ·rw [←hus];exact ko.k4
 ·intro v hv
  rw [←hts] at hv
  simp only [List.mem_cons,List.not_mem_nil,or_false] at hv
  rcases hv with rfl | rfl | rfl | rfl | rfl | rfl | rfl | rfl | rfl <;> exact .inr ⟨_,rfl⟩
 ·rw [←hts];exact ko.k3
end
end Pv
namespace L2
open PySem PySem.Spec PyProof.Rows
private theorem pe_any {ι:Type}{X:Cx}{e:Expr}{Ws:List ι}{t:ι→TE}(h:∀W,W∈Ws→PE X e (t W)):PE X e (fun σ H Q=>∃W,W∈Ws∧t W σ H Q):=by
 intro pins s σ H Q I q
 obtain ⟨W,hW,q⟩:=q
 exact h W hW pins s σ H Q I q
end L2
namespace Pv
open PySem L2
abbrev s_law_refused:Stmt:=top 46
private theorem sc_law_refused:FnScope ["vault","one","other","refused","e"] ["vault","one","other"] (defScope s_law_refused):=L2.fsc (by decide+kernel)
abbrev s_law_no_witness:Stmt:=top 47
private theorem sc_law_no_witness:FnScope ["paper","one","other","refused","e"] ["paper","one","other"] (defScope s_law_no_witness):=L2.fsc (by decide+kernel)
private theorem Mt.imp {P:Program}{w:World}{K:PySem.W.Frag}{mg:Str→Option Value}{base:Heap}{CX:CXT}{C:Addr}{m:Str}{k:Nat}{ps:List Str}{sp sp':Sp}(F:Mt P w K mg base CX C m k ps sp)(h:∀vs H Q E,sp' vs H Q E→sp vs H Q E):Mt P w K mg base CX C m k ps sp':=by
 obtain ⟨f,fd,a,b⟩:=F.ex
 exact ⟨f,fd,a.imp h,b⟩
inductive Vk where | v | k | w | r
def allV:List Vk:=[.v,.k,.w,.r]
private theorem mem_allV (k:Vk):k∈allV:=by cases k <;> simp [allV]
def clsV4 (CV CK CW CR:Addr):Vk→Addr
 | .v=>CV
 | .k=>CK
 | .w=>CW
 | .r=>CR
structure RS (H:Hp)(CR CK a dl kp dn dk:Addr)(cs ns ks:List (Int ×Th)):Prop where
 ro:∃kvs nvs,ROk H CR a dl kp dn kvs nvs∧DRep H cs kvs∧DRep H ns nvs
 kv:VS H CK kp dk ks
 gc:GoodC cs
 gn:GoodC ns
 n1:dl≠dn
 n2:dl≠dk
 n3:dn≠dk
private theorem RS.same {H H':Hp}{CR CK a dl kp dn dk:Addr}{cs ns ks:List (Int ×Th)}(r:RS H CR CK a dl kp dn dk cs ns ks)(s:Same H H'):RS H' CR CK a dl kp dn dk cs ns ks:=by
 obtain ⟨⟨kvs,nvs,ro,d1,d2⟩,kv,gc,gn,n1,n2,n3⟩:=r
 exact ⟨⟨kvs,nvs,ro.keep s,d1.keep (Same.tups s),d2.keep (Same.tups s)⟩,kv.same s,gc,gn,n1,n2,n3⟩
def RefSt (CV CK CW CR:Addr)(k:Vk)(H:Hp)(a:Addr)(t u:Th):Prop:=match k with
 | .r=>∃dl kp dn dk cs ns ks,RS H CR CK a dl kp dn dk cs ns ks∧cs.length≤900∧(lookT cs (sealT t)=some u∨(lookT cs (sealT t)=none∧lookT ks (sealT t)=some u))
 | k=>∃d cs,VS H (clsV4 CV CK CW CR k) a d cs∧cs.length≤900∧lookT cs (sealT t)=some u
def spRefLay (CV CK CW CR CC:Addr)(k:Vk):Sp:=fun vs H Q E=>∃(a:Addr) (v:V) (t u:Th),vs=[.ref a,v]∧RefSt CV CK CW CR k H a t u∧Rep H t v∧Good t∧u≠t∧
 ∀(H':Hp) (x:Addr) (v1:V),Same H H'→Rep H' u v1→H' x=some (xdO x [("one",v1),("other",v)])→E (.ref CC) (some x) H'
section
variable {P:Program}{w:World}{K:PySem.W.Frag}{mg:Str→Option Value}{base:Heap}{CV CK CW CR CC:Addr}
private theorem ref_vault {W:Addr}{H:Hp}{vs:List V}{Q:VK}{E:XK}{a d:Addr}{v:V}{t u:Th}{cs:List (Int ×Th)}(e:vs=[.ref a,v])(st:VS H W a d cs)(hl:cs.length≤900)(lu:lookT cs (sealT t)=some u)(rv:Rep H t v)(gt:Good t)(ne:u≠t)
  (q:∀(H':Hp) (x:Addr) (v1:V),Same H H'→Rep H' u v1→H' x=some (xdO x [("one",v1),("other",v)])→E (.ref CC) (some x) H'):spLay W CC vs H Q E:=by
 obtain ⟨kv,vo,dr⟩:=st.vo
 obtain ⟨v0,ev0,r0⟩:=dr.some lu
 refine ⟨a,d,kv,t,v,e,vo,dr.laidOk st.gc.gd,by rw [dr.len];exact hl,rv,gt,fun H' s al=>absurd (al u v0 ev0 r0) ne,fun t1 v1 H' s ev r1 g1 sn n1 H2 x s2 ex=>?_⟩
 rw [ev0] at ev
 cases ev
 exact q H2 x v0 (s.trans s2) (r0.keep ((Same.tups s).trans (Same.tups s2))) ex
private theorem ok_refLay (Mv:∀W,W=CV∨W=CK∨W=CW→Mt P w K mg base (CX1 P w) W "lay" 24 ["self","thing"] (spLay W CC)) (Mr:Mt P w K mg base (CX1 P w) CR "lay" 24 ["self","thing"] (spRLay CR CK CC)):
  ∀k,k∈allV→Mt P w K mg base (CX1 P w) (clsV4 CV CK CW CR k) "lay" 24 ["self","thing"] (spRefLay CV CK CW CR CC k):=fun k _=>by
 cases k with
 | v=>exact Mt.imp (Mv CV (.inl rfl)) fun vs H Q E ⟨a,v,t,u,e,⟨d,cs,st,hl,lu⟩,rv,gt,ne,q⟩=>ref_vault e st hl lu rv gt ne q
 | k=>exact Mt.imp (Mv CK (.inr (.inl rfl))) fun vs H Q E ⟨a,v,t,u,e,⟨d,cs,st,hl,lu⟩,rv,gt,ne,q⟩=>ref_vault e st hl lu rv gt ne q
 | w=>exact Mt.imp (Mv CW (.inr (.inr rfl))) fun vs H Q E ⟨a,v,t,u,e,⟨d,cs,st,hl,lu⟩,rv,gt,ne,q⟩=>ref_vault e st hl lu rv gt ne q
 | r=>
  refine Mt.imp Mr fun vs H Q E h=>?_
  obtain ⟨a,v,t,u,e,⟨dl,kp,dn,dk,cs,ns,ks,⟨⟨kvs,nvs,ro,dc,dnn⟩,⟨⟨kvk,vk,dkk⟩,gk⟩,gc,gn,_,_,_⟩,hl,hc⟩,rv,gt,ne,q⟩:=h
  refine ⟨a,dl,kp,dn,dk,kvs,nvs,kvk,t,v,e,ro,vk,dc.laidOk gc.gd,dkk.laidOk gk.gd,by rw [dc.len];exact hl,rv,gt,fun H' s a1 a2=>?_,fun t1 v1 H' s hv r1 g1 sn n1 H2 x s2 ex=>?_⟩
  ·rcases hc with hc | ⟨_,hc⟩
   ·obtain ⟨v0,ev0,r0⟩:=dc.some hc
    exact absurd (a1 u v0 ev0 r0) ne
   ·obtain ⟨v0,ev0,r0⟩:=dkk.some hc
    exact absurd (a2 u v0 ev0 r0) ne
  ·have key:Rep H u v1:=by
    rcases hc with hc | ⟨hn,hc⟩
    ·obtain ⟨v0,ev0,r0⟩:=dc.some hc
     rcases hv with hv | ⟨al,hv⟩
     ·rw [ev0] at hv;cases hv;exact r0
     ·exact absurd (al u v0 ev0 r0) ne
    ·obtain ⟨v0,ev0,r0⟩:=dkk.some hc
     rcases hv with hv | ⟨al,hv⟩
     ·rw [dc.none hn] at hv;cases hv
     ·rw [ev0] at hv;cases hv;exact r0
   exact q H2 x v1 (s.trans s2) (key.keep ((Same.tups s).trans (Same.tups s2))) ex
def spRefused (CV CK CW CR:Addr):Sp:=fun vs H Q _=>∃(k:Vk) (a:Addr) (w1 v:V) (t u:Th),vs=[.ref a,w1,v]∧RefSt CV CK CW CR k H a t u∧Rep H u w1∧Rep H t v∧Good t∧Good u∧u≠t∧∀H',Same H H'→Q (.bl true) H'
variable {CVaultError CBadThing CNoColumn CNoCommand CNoName CNoPaper CNoPlan CNoQuestion CNoRow CNoState CNoStep CNoTable CNoThing CNotOn CNotSo:Addr}
private theorem ok_refused (D:Dfn K mg "_law_refused" s_law_refused ["vault","one","other"]) (M:∀k,k∈allV→Mt P w K mg base (CX1 P w) (clsV4 CV CK CW CR k) "lay" 24 ["self","thing"] (spRefLay CV CK CW CR CC k)) (Cc:∀k,k∈allV→Cls K (clsV4 CV CK CW CR k))
  (F_law_caught:∀base,Fn P w K mg base "_law_caught" 12 ["e","one","other"] (spCau CC base)) (em:PySem.W.exmOne K (.ref CC) (.ref CVaultError)=some true) (c_VaultError:mg "VaultError" =some (.ref CVaultError)):
  Fn P w K mg base "_law_refused" 25 ["vault","one","other"] (spRefused CV CK CW CR):=by
 refine D.ok (k:=24) sc_law_refused (fun vs H Q E h=>?_) (fun f cdv A outer s H vs Q E hr h=>?_)
 ·obtain ⟨k,a,w1,v,t,u,rfl,_⟩:=h;rfl
 obtain ⟨k,a,w1,v,t,u,rfl,st,ru,rt,gt,gu,ne,q⟩:=h
 refine ⟨_,(pss_cons (ps_set (i:=3) sc_law_refused.nd rfl (Or.inl rfl) pe_bl)
 (pss_cons (ps_tryAs (i:=4) rfl rfl sc_law_refused.nd rfl rfl (by rfl) c_VaultError (fun xe pn E hx=>(pss_one (ps_expr (pe_any fun W hW=>pe_mtS (pv 0) (Cc W hW) (M W hW) (show Room 24 _ from hr) (by omega) hx (pa_cons (pv 2) pa_nil))))) (fun e=>(pss_one (ps_set (i:=3) sc_law_refused.nd rfl (Or.inl rfl) (pe_fnR (ea:=e) F_law_caught (Room.mark (k:=19) (show Room 24 _ from hr) (by decide) (by decide)) (by decide) rfl (by rfl) (pa_cons (pv 4) (pa_cons (pv 1) (pa_cons (pv 2) pa_nil))))))))
 (pss_one (ps_ret (pv 3))))),?_⟩
 have hi:∃dx fs,H a=some (.ins (clsV4 CV CK CW CR k) dx fs)∧fs.lookup ("lay" :Str)=none:=by
  cases k with
  | r=>obtain ⟨dl,kp,dn,dk,cs,ns,ks,⟨⟨kvs,nvs,⟨⟨dx,eo⟩,_,_⟩,_,_⟩,_⟩,_⟩:=st;exact ⟨dx,_,eo,rfl⟩
  | v=>obtain ⟨d,cs,⟨⟨kv,⟨⟨dx,fs,eo,fl⟩,_⟩,_⟩,_⟩,_⟩:=st;exact ⟨dx,fs,eo,fl.n2⟩
  | k=>obtain ⟨d,cs,⟨⟨kv,⟨⟨dx,fs,eo,fl⟩,_⟩,_⟩,_⟩,_⟩:=st;exact ⟨dx,fs,eo,fl.n2⟩
  | w=>obtain ⟨d,cs,⟨⟨kv,⟨⟨dx,fs,eo,fl⟩,_⟩,_⟩,_⟩,_⟩:=st;exact ⟨dx,fs,eo,fl.n2⟩
 obtain ⟨dx,fs,eo,nl⟩:=hi
 refine ⟨k,mem_allV k,_,rfl,a,dx,fs,rfl,eo,nl,_,rfl,a,v,t,u,rfl,st,rt,gt,ne,fun H1 x v1 s1 r1 ex=>⟨CC,rfl,em,fun e he=>?_⟩⟩
 refine ⟨_,rfl,_,rfl,_,rfl,CC,some x,upd_same,fun b xb=>?_⟩
 rw [del_upd he]
 have gd:=gt.dp
 have gd2:=gu.dp
 refine ⟨e,x,v1,v,w1,v,u,t,rfl,xb,ex,r1,rt.keep (Same.tups s1),ru.keep (Same.tups s1),rt.keep (Same.tups s1),gd2,gd,fun H2 s2=>?_⟩
 exact ⟨_,rfl,q _ (same_upd (s1.trans s2) (s1.free he))⟩
def spNoWit:Sp:=fun vs H Q _=>∃(pp:Addr) (w1 v x:V) (pvs:List V) (ts:List Th) (t u:Th),vs=[.ref pp,w1,v]∧H pp=some (.lst pvs)∧ts.length≤500∧RepL H ts (pvs.take ts.length)∧(∀t∈ts,G5 t)∧NoTwo ts∧pvs[ts.length]? =some x∧Rep H t x∧G5 t∧u∈ts∧sealT u=sealT t∧u≠t∧
 Rep H u w1∧Rep H t v∧∀H',Same H H'→Q (.bl true) H'
private theorem ok_noWit (D:Dfn K mg "_law_no_witness" s_law_no_witness ["paper","one","other"]) (K_Witness:MkrX P w K mg base "Witness" CW 26 ["self","paper"] (spW22 CW CC))
  (F_law_caught:∀base,Fn P w K mg base "_law_caught" 12 ["e","one","other"] (spCau CC base)) (em:PySem.W.exmOne K (.ref CC) (.ref CVaultError)=some true) (c_VaultError:mg "VaultError" =some (.ref CVaultError)):
  Fn P w K mg base "_law_no_witness" 28 ["paper","one","other"] spNoWit:=by
 refine D.ok (k:=27) sc_law_no_witness (fun vs H Q E h=>?_) (fun f cdv A outer s H vs Q E hr h=>?_)
 ·obtain ⟨pp,w1,v,x,pvs,ts,t,u,rfl,_⟩:=h;rfl
 obtain ⟨pp,w1,v,x,pvs,ts,t,u,rfl,epp,hl,rp,hg,nt,hx,rx,gx,hu,se,ne,ru,rt,q⟩:=h
 refine ⟨_,(pss_cons (ps_set (i:=3) sc_law_no_witness.nd rfl (Or.inl rfl) pe_bl)
 (pss_cons (ps_tryAs (i:=4) rfl rfl sc_law_no_witness.nd rfl rfl (by rfl) c_VaultError (fun xe pn E hx=>(pss_one (ps_expr (pe_mkrS K_Witness (show Room 27 _ from hr) (by omega) (by rfl) hx (pa_cons (pv 0) pa_nil))))) (fun e=>(pss_one (ps_set (i:=3) sc_law_no_witness.nd rfl (Or.inl rfl) (pe_fnR (ea:=e) F_law_caught (Room.mark (k:=19) (show Room 27 _ from hr) (by decide) (by decide)) (by decide) rfl (by rfl) (pa_cons (pv 4) (pa_cons (pv 1) (pa_cons (pv 2) pa_nil))))))))
 (pss_one (ps_ret (pv 3))))),?_⟩
 refine ⟨_,rfl,fun a dx ha hdx nx=>?_⟩
 have s0:Same H (upd (upd H dx (.own a)) a (.ins CW dx [])):=same_upd (same_new (Same.refl H) hdx) ha
 have ea:upd (upd H dx (.own a)) a (.ins CW dx []) a=some (.ins CW dx []):=upd_same
 generalize upd (upd H dx (.own a)) a (.ins CW dx [])=H0 at s0 ea
 have tk0:=Same.tups s0
 refine ⟨a,pp,dx,pvs,ts,rfl,ea,s0 _ _ epp,hl,Nat.le_of_lt (List.getElem?_eq_some_iff.mp hx).1,rp.keep tk0,hg,nt,.inr ⟨x,t,u,hx,rx.keep tk0,gx,hu,se,ne,fun H1 dd v1 v2 fr r1 r2 ex=>⟨CC,rfl,em,fun e he=>?_⟩⟩⟩
 have s1:Same H H1:=fun b o eb=>fr b o (ne_of_none eb ha) (s0 b o eb)
 refine ⟨_,rfl,_,rfl,_,rfl,CC,some dd,upd_same,fun b xb=>?_⟩
 rw [del_upd he]
 have gd:=gx.dp
 have gd2:=(hg u hu).dp
 refine ⟨e,dd,v1,v2,w1,v,u,t,rfl,xb,ex,r1,r2,ru.keep (Same.tups s1),rt.keep (Same.tups s1),by omega,by omega,fun H2 s2=>?_⟩
 exact ⟨_,rfl,q _ (same_upd (s1.trans s2) (s1.free he))⟩
end
end Pv
namespace Pv
open PySem L2
abbrev s_law_of_vaults:Stmt:=top 49
private theorem sc_law_of_vaults:FnScope ["one","other","between","keeper","vault","new"] ["one","other","between"] (defScope s_law_of_vaults):=L2.fsc (by decide+kernel)
def layAll (cs:List (Int ×Th))(ts:List Th):List (Int ×Th):=ts.foldl (fun cs t=>addT cs (sealT t) t) cs
private theorem layAll_take {cs:List (Int ×Th)}{ts:List Th}{i:Nat}(h:i < ts.length):layAll cs (ts.take (i+1))=addT (layAll cs (ts.take i)) (sealT ts[i]) ts[i]:=by
 unfold layAll
 rw [List.take_add_one,List.getElem?_eq_getElem h,List.foldl_append]
 rfl
def SubL (cs:List (Int ×Th))(ts:List Th):Prop:=∀n u,lookT cs n=some u→u∈ts∧sealT u=n
private theorem SubL.fits {cs:List (Int ×Th)}{ts:List Th}(h:SubL cs ts)(nt:NoTwo ts){t:Th}(ht:t∈ts):Fits cs (sealT t) t:=by
 cases z:lookT cs (sealT t) with
 | none=>exact .inl z
 | some u=>
  obtain ⟨hu,su⟩:=h _ _ z
  rw [nt u hu t ht su] at z
  exact .inr z
private theorem SubL.add {cs:List (Int ×Th)}{ts:List Th}(h:SubL cs ts){t:Th}(ht:t∈ts):SubL (addT cs (sealT t) t) ts:=fun n u e=>by
 rcases lookT_addI e with e | ⟨rfl,rfl⟩
 ·exact h n u e
 ·exact ⟨ht,rfl⟩
private theorem SubL.nil (ts:List Th):SubL [] ts:=fun n u e=>by cases e
private theorem SubL.laid (ts us:List Th)(s:∀t∈ts,t∈us):SubL (laidAll ts) us:=fun n u e=>by
 have e':lookT (laidAll (ts.take ts.length)) n=some u:=by rw [List.take_length];exact e
 obtain ⟨h1,h2⟩:=laidAll_mem e'
 exact ⟨s u h1,h2⟩
private theorem NoTwo.sub {ts us:List Th}(h:NoTwo us)(s:∀t∈ts,t∈us):NoTwo ts:=fun t ht u hu e=>h t (s t ht) u (s u hu) e
abbrev Apart (ts:List Th):Prop:=ts.Pairwise fun t u=>sealT t≠sealT u
private theorem Apart.two:∀{ts:List Th},Apart ts→NoTwo ts
 | [],_=>fun t ht=>by cases ht
 | a::r,h=>fun t ht u hu e=>by
  obtain ⟨h1,h2⟩:=List.pairwise_cons.mp h
  rcases List.mem_cons.mp ht with rfl | ht'
  ·rcases List.mem_cons.mp hu with rfl | hu'
   ·rfl
   ·exact absurd e (h1 u hu')
  ·rcases List.mem_cons.mp hu with rfl | hu'
   ·exact absurd e.symm (h1 t ht')
   ·exact Apart.two h2 t ht' u hu' e
private theorem laidAll_all {ts:List Th}(h:Apart ts):∀i,i≤ts.length→(laidAll (ts.take i)).length=i
 | 0,_=>rfl
 | i+1,hi=>by
  have hil:i < ts.length:=by omega
  have ih:=laidAll_all h i (by omega)
  rw [laidAll_take hil]
  cases z:lookT (laidAll (ts.take i)) (sealT ts[i]) with
  | none=>rw [addT_new z,List.length_append,ih];rfl
  | some u=>
   have z':lookT (laidAll ((ts.take i).take i)) (sealT ts[i])=some u:=by rw [List.take_take,Nat.min_self];exact z
   obtain ⟨hu,su⟩:=laidAll_mem z'
   obtain ⟨j,hj,ej⟩:=List.getElem_of_mem hu
   rw [List.length_take] at hj
   have hp:=List.pairwise_iff_getElem.mp h j i (by omega) hil (by omega)
   rw [List.getElem_take] at ej
   rw [ej] at hp
   exact absurd su hp
private theorem layAll_sub {cs:List (Int ×Th)}{ts:List Th}(h:SubL cs ts):∀i,i≤ts.length→SubL (layAll cs (ts.take i)) ts
 | 0,_=>h
 | i+1,hi=>by
  rw [layAll_take (show i < ts.length by omega)]
  exact (layAll_sub h i (by omega)).add (List.getElem_mem _)
private theorem layAll_held {cs:List (Int ×Th)}{ts:List Th}(h:SubL cs ts)(nt:NoTwo ts):∀i,i≤ts.length→∀t∈ts.take i,lookT (layAll cs (ts.take i)) (sealT t)=some t
 | 0,_,t,ht=>by cases ht
 | i+1,hi,t,ht=>by
  have hil:i < ts.length:=by omega
  rw [List.take_add_one,List.getElem?_eq_getElem hil] at ht
  rw [layAll_take hil]
  rcases List.mem_append.mp ht with ht | ht
  ·exact lookT_add (layAll_held h nt i (by omega) t ht)
  ·have e:t=ts[i]:=by simpa using ht
   subst e
   exact lookT_added ((layAll_sub h i (by omega)).fits nt (List.getElem_mem _))
private theorem layAll_len (cs:List (Int ×Th))(ts:List Th):∀i,i≤ts.length→(layAll cs (ts.take i)).length≤cs.length+i
 | 0,_=>Nat.le_refl _
 | i+1,hi=>by
  rw [layAll_take (show i < ts.length by omega)]
  have:=addT_len (layAll cs (ts.take i)) (sealT ts[i]) ts[i]
  have:=layAll_len cs ts i (by omega)
  omega
def Fr1 (d:Addr)(H H':Hp):Prop:=∀b o,b≠d→H b=some o→H' b=some o
private theorem Fr1.refl (d:Addr)(H:Hp):Fr1 d H H:=fun _ _ _ e=>e
private theorem Fr1.trans {d:Addr}{H H' H'':Hp}(f:Fr1 d H H')(g:Fr1 d H' H''):Fr1 d H H'':=fun b o n e=>g b o n (f b o n e)
private theorem fr1_of {d:Addr}{H H':Hp}(s:Same H H'):Fr1 d H H':=fun b o _ e=>s b o e
private theorem Fr1.same {d:Addr}{H0 H H':Hp}(f:Fr1 d H H')(s:Same H0 H)(n:H0 d=none):Same H0 H':=fun b o e=>f b o (ne_of_none e n) (s b o e)
private theorem VS.ne {H:Hp}{C a d:Addr}{cs:List (Int ×Th)}{b:Addr}{o:HO}(v:VS H C a d cs)(e:H b=some o)(h:∀kv,o≠ .dK kv):b≠d:=by
 obtain ⟨kv,vo,_⟩:=v.vo
 intro z
 rw [z,vo.di] at e
 cases e
 exact h kv rfl
private theorem VS.tups {H H':Hp}{C a d:Addr}{cs:List (Int ×Th)}(v:VS H C a d cs)(f:Fr1 d H H'):Tups H H':=fun b xs e=>f b _ (v.ne e (by intro kv z;cases z)) e
private theorem VS.lst {H H':Hp}{C a d:Addr}{cs:List (Int ×Th)}{b:Addr}{xs:List V}(v:VS H C a d cs)(f:Fr1 d H H')(e:H b=some (.lst xs)):H' b=some (.lst xs):=f b _ (v.ne e (by intro kv z;cases z)) e
private theorem VS.obj {H:Hp}{C a d:Addr}{cs:List (Int ×Th)}(v:VS H C a d cs):∃dx fs,H a=some (.ins C dx fs)∧Flds fs d:=by
 obtain ⟨kv,⟨⟨dx,fs,eo,fl⟩,ed⟩,dr⟩:=v.vo
 exact ⟨dx,fs,eo,fl⟩
private theorem VS.fr {H H':Hp}{C a d C' a' d':Addr}{cs cs':List (Int ×Th)}(v:VS H C a d cs)(u:VS H C' a' d' cs')(f:Fr1 d' H H')(n:d≠d'):VS H' C a d cs:=by
 obtain ⟨kv,⟨⟨dx,fs,eo,fl⟩,ed⟩,dr⟩:=v.vo
 exact ⟨⟨kv,⟨⟨dx,fs,f _ _ (u.ne eo (by intro kv z;cases z)) eo,fl⟩,f _ _ n ed⟩,dr.keep (u.tups f)⟩,v.gc⟩
def kI:Nat→Vk
 | 0=>.v
 | 1=>.k
 | _=>.w
structure V4 (CV CK CW CR:Addr)(H:Hp)(as ds:Nat→Addr)(cs:Nat→List (Int ×Th)):Prop where
 v:∀i,i < 4→VS H (clsV4 CV CK CW CR (kI i)) (as i) (ds i) (cs i)
 nd:∀i j,i < 4→j < 4→i≠j→ds i≠ds j
private theorem V4.step {CV CK CW CR:Addr}{H H':Hp}{as ds:Nat→Addr}{cs:Nat→List (Int ×Th)}(v:V4 CV CK CW CR H as ds cs){i:Nat}(hi:i < 4){c:List (Int ×Th)}(f:Fr1 (ds i) H H')(u:VS H' (clsV4 CV CK CW CR (kI i)) (as i) (ds i) c):V4 CV CK CW CR H' as ds (fun j=>if j=i then c else cs j):=by
 refine ⟨fun j hj=>?_,v.nd⟩
 by_cases e:j=i
 ·subst e
  rw [if_pos rfl];exact u
 ·show VS H' _ _ _ (if j=i then c else cs j)
  rw [if_neg e]
  exact (v.v j hj).fr (v.v i hi) f (v.nd j i hj hi e)
def sel {α:Type}(a b c d:α):Nat→α
 | 0=>a
 | 1=>b
 | 2=>c
 | _=>d
private theorem lt4 {i:Nat}(h:i < 4):i=0∨i=1∨i=2∨i=3:=by omega
private theorem sel_ne {a b c d:Addr}(h1:a≠b)(h2:a≠c)(h3:a≠d)(h4:b≠c)(h5:b≠d)(h6:c≠d)(i j:Nat)(hi:i < 4)(hj:j < 4)(n:i≠j):sel a b c d i≠sel a b c d j:=by
 rcases lt4 hi with rfl | rfl | rfl | rfl <;> rcases lt4 hj with rfl | rfl | rfl | rfl <;> first | exact absurd rfl n | assumption | (exact Ne.symm (by assumption))
private theorem refst_of {CV CK CW CR:Addr}{k:Vk}{H:Hp}{a d:Addr}{t u:Th}{cs:List (Int ×Th)}(hk:k∈ [Vk.v,.k,.w])(st:VS H (clsV4 CV CK CW CR k) a d cs)(hl:cs.length≤900)(lu:lookT cs (sealT t)=some u):RefSt CV CK CW CR k H a t u:=by
 cases k with
 | v=>exact ⟨d,cs,st,hl,lu⟩
 | k=>exact ⟨d,cs,st,hl,lu⟩
 | w=>exact ⟨d,cs,st,hl,lu⟩
 | r=>simp at hk
def kV:List Vk:=[.v,.k,.w]
private theorem kI_mem (i:Nat):kI i∈kV:=by
 match i with
 | 0=>simp [kI,kV]
 | 1=>simp [kI,kV]
 | n+2=>simp [kI,kV]
def spLayV (CV CK CW CR:Addr)(k:Vk):Sp:=fun vs H Q _=>∃(a d:Addr) (v:V) (t:Th) (cs:List (Int ×Th)),vs=[.ref a,v]∧VS H (clsV4 CV CK CW CR k) a d cs∧cs.length≤900∧Rep H t v∧Good t∧Fits cs (sealT t) t∧∀H',Fr1 d H H'→VS H' (clsV4 CV CK CW CR k) a d (addT cs (sealT t) t)→Q (.int (sealT t)) H'
def spThgV (CV CK CW CR:Addr)(k:Vk):Sp:=fun vs H Q _=>∃(a d:Addr) (n:Int) (t:Th) (cs:List (Int ×Th)),vs=[.ref a,.int n]∧VS H (clsV4 CV CK CW CR k) a d cs∧lookT cs n=some t∧∀v,Rep H t v→Q v H
private theorem lay_fits {C CC:Addr}{vs:List V}{H:Hp}{Q:VK}{E:XK}{a d:Addr}{v:V}{t:Th}{cs:List (Int ×Th)}(e:vs=[.ref a,v])(st:VS H C a d cs)(hl:cs.length≤900)(rv:Rep H t v)(gt:Good t)(ft:Fits cs (sealT t) t)(q:∀H',Fr1 d H H'→VS H' C a d (addT cs (sealT t) t)→Q (.int (sealT t)) H'):spLay C CC vs H Q E:=by
 obtain ⟨kv,vo,dr⟩:=st.vo
 refine ⟨a,d,kv,t,v,e,vo,dr.laidOk st.gc.gd,by rw [dr.len];exact hl,rv,gt,fun H' s _=>?_,fun t1 v1 H' s ev r1 g1 sn ne=>?_⟩
 ·have ed':=s _ _ vo.di
  have tk:Tups H (upd H' d (.dK (putK kv (.inl (sealT t)) v))):=(Same.tups s).trans (Tups.upd fun xs z=>by rw [ed'] at z;cases z)
  have fr:Fr1 d H (upd H' d (.dK (putK kv (.inl (sealT t)) v))):=fun b o n e=>by rw [upd_ne n];exact s b o e
  obtain ⟨⟨dx,fs,eo,fl⟩,ed⟩:=id vo
  exact q _ fr ⟨⟨_,⟨⟨dx,fs,fr _ _ (ne_of eo ed (by intro z;cases z)) eo,fl⟩,upd_same⟩,(dr.keep tk).add (rv.keep tk) ft st.gc.nd⟩,st.gc.add gt rfl⟩
 ·obtain ⟨u,eu,ru⟩:=dr.back ev
  rcases ft with f | f
  ·rw [f] at eu;cases eu
  ·rw [f] at eu;cases eu
   exact absurd (Rep.uniq r1 (ru.keep (Same.tups s))) ne
private theorem new_vs {C x dx:Addr}{H:Hp}{R:Hp→Prop}{E:XK}(hx:H x=none)(hdx:H dx=none)(n:dx≠x)(q:∀d H',Same H H'→H d=none→VS H' C x d []→R H'):
  spVInit C [.ref x] (upd (upd H dx (.own x)) x (.ins C dx [])) (fun v H2=>v=.non∧R H2) E:=by
 refine ⟨x,dx,rfl,upd_same,fun d hd=>⟨rfl,?_⟩⟩
 have xd:x≠d:=fun z=>by rw [←z,upd_same] at hd;cases hd
 have dd:dx≠d:=fun z=>by rw [←z,upd_ne n,upd_same] at hd;cases hd
 have hd0:H d=none:=by rw [upd_ne (Ne.symm xd),upd_ne (Ne.symm dd)] at hd;exact hd
 refine q d _ (fun b o e=>?_) hd0 ⟨⟨[],⟨⟨dx,_,upd_same,flds1 d⟩,by rw [upd_ne (Ne.symm xd)];exact upd_same⟩,.nil⟩,GoodC.nil⟩
 have n1:=ne_of_none e hx
 rw [upd_ne n1,upd_ne (ne_of_none e hd0),upd_ne n1,upd_ne (ne_of_none e hdx)];exact e
private theorem new_wit {W CC x dx pp:Addr}{H:Hp}{R:Hp→Prop}{E:XK}{pvs:List V}{ts:List Th}(hx:H x=none)(hdx:H dx=none)(epp:H pp=some (.lst pvs))(rp:RepL H ts pvs)(hl:ts.length≤500)(hg:∀t∈ts,G5 t)(nt:NoTwo ts)(q:∀d H',Same H H'→H d=none→VS H' W x d (laidAll ts)→R H'):
  spW22 W CC [.ref x,.ref pp] (upd (upd H dx (.own x)) x (.ins W dx [])) (fun v H2=>v=.non∧R H2) E:=by
 have s0:Same H (upd (upd H dx (.own x)) x (.ins W dx [])):=same_upd (same_new (Same.refl H) hdx) hx
 have en:=rp.len
 refine ⟨x,pp,dx,pvs,ts,rfl,upd_same,s0 _ _ epp,hl,by omega,by rw [←en,List.take_length];exact rp.keep (Same.tups s0),hg,nt,.inl ⟨en.symm,fun d H' fr hd vs=>⟨rfl,q d H' (fun b o e=>fr b o (ne_of_none e hx) (s0 b o e)) (s0.free hd) vs⟩⟩⟩
section
variable {P:Program}{w:World}{K:PySem.W.Frag}{mg:Str→Option Value}{base:Heap}{CV CK CW CR CC:Addr}
private theorem cls_kV {k:Vk}(h:k∈kV):clsV4 CV CK CW CR k=CV∨clsV4 CV CK CW CR k=CK∨clsV4 CV CK CW CR k=CW:=by
 cases k with
 | v=>exact .inl rfl
 | k=>exact .inr (.inl rfl)
 | w=>exact .inr (.inr rfl)
 | r=>simp [kV] at h
private theorem ok_layV (Mv:∀W,W=CV∨W=CK∨W=CW→Mt P w K mg base (CX1 P w) W "lay" 24 ["self","thing"] (spLay W CC)):∀k,k∈kV→Mt P w K mg base (CX1 P w) (clsV4 CV CK CW CR k) "lay" 24 ["self","thing"] (spLayV CV CK CW CR k):=fun k hk=>
 Mt.imp (Mv _ (cls_kV hk)) fun vs H Q E ⟨a,d,v,t,cs,e,st,hl,rv,gt,ft,q⟩=>lay_fits e st hl rv gt ft q
private theorem ok_thgV (Mv:∀W,W=CV∨W=CK∨W=CW→Mt P w K mg base CX0 W "thing" 1 ["self","number"] (spThingV W)):∀k,k∈kV→Mt P w K mg base CX0 (clsV4 CV CK CW CR k) "thing" 1 ["self","number"] (spThgV CV CK CW CR k):=fun k hk=>
 Mt.imp (Mv _ (cls_kV hk)) fun vs H Q E h=>by
  obtain ⟨a,d,n,t,cs,e,vs',lt,q⟩:=h
  obtain ⟨kv,vo,dr⟩:=vs'.vo
  obtain ⟨v,ev,rv⟩:=dr.some lt
  exact ⟨a,d,kv,n,v,e,vo,ev,q v rv⟩
def spOfV:Sp:=fun vs H Q _=>∃(w1 v:V) (bp:Addr) (bvs:List V) (one other:Th) (bts:List Th),vs=[w1,v,.ref bp]∧Rep H one w1∧Rep H other v∧H bp=some (.lst bvs)∧RepL H bts bvs∧Pr one other∧bts.length≤3∧(∀t∈bts,G5 t)∧Apart (one::bts)∧∀H',Same H H'→Q (.bl true) H'
private theorem ok_ofV (D:Dfn K mg "_law_of_vaults" s_law_of_vaults ["one","other","between"]) (K_Keeper:Mkr P w K mg base "Keeper" CK 1 ["self"] (spVInit CK)) (K_Vault:Mkr P w K mg base "Vault" CV 1 ["self"] (spVInit CV)) (K_Witness:MkrX P w K mg base "Witness" CW 26 ["self","paper"] (spW22 CW CC))
  (M:∀k,k∈kV→Mt P w K mg base (CX1 P w) (clsV4 CV CK CW CR k) "lay" 24 ["self","thing"] (spLayV CV CK CW CR k)) (N:∀k,k∈kV→Mt P w K mg base CX0 (clsV4 CV CK CW CR k) "thing" 1 ["self","number"] (spThgV CV CK CW CR k)) (Cc:∀k,k∈kV→Cls K (clsV4 CV CK CW CR k))
  (F_law_refused:Fn P w K mg base "_law_refused" 25 ["vault","one","other"] (spRefused CV CK CW CR)) (F_law_same:Fn P w K mg base "_law_same" 11 ["told","due"] (spSameE 9)) (F_seal:Fn P w K mg base "seal" 13 ["thing"] spSeal) (M_things:Mt P w K mg base CX0 CK "things" 22 ["self"] (spThings CK)) (c_K:Cls K CK) (m_len:mg "len" =none):
  Fn P w K mg base "_law_of_vaults" 29 ["one","other","between"] spOfV:=by
 refine D.ok (k:=28) sc_law_of_vaults (fun vs H Q E h=>?_) (fun f cdv A outer s H vs Q E hr h=>?_)
 ·obtain ⟨w1,v,bp,bvs,one,other,bts,rfl,_⟩:=h;rfl
 obtain ⟨w1,v,bp,bvs,one,other,bts,rfl,r1,r2,eb,rb,pr,hl3,hg,ap,q⟩:=h
 refine ⟨_,(pss_cons (ps_set (i:=3) sc_law_of_vaults.nd rfl (Or.inl rfl) (pe_mkr0 K_Keeper hr (by omega) (by rfl)))
 (pss_cons (ps_for PassesOwn.never rfl (pi_list (pe_lst (pa_cons (pe_mkr0 K_Vault hr (by omega) (by rfl)) (pa_cons (pv 3) (pa_cons (pe_mkrX K_Witness hr (by omega) (by rfl) (pa_cons (pe_op op_cat (pe_lst (pa_cons (pv 0) pa_nil)) (pv 2)) pa_nil)) (pa_cons (pe_mkrX K_Witness hr (by omega) (by rfl) (pa_cons (pv 2) pa_nil)) pa_nil)))))) (pg_name (i:=4) sc_law_of_vaults.nd rfl (Or.inl rfl))
 (pss_cons (ps_for PassesOwn.never rfl (pi_list (pe_op op_cat (pe_lst (pa_cons (pv 0) pa_nil)) (pv 2))) (pg_name (i:=5) sc_law_of_vaults.nd rfl (Or.inl rfl))
 (pss_one (ps_expr (pe_any fun W hW=>pe_mt (pv 4) (Cc W hW) (M W hW) hr (by omega) pass01 (pa_cons (pv 5) pa_nil)))))
 (pss_cons (ps_if (PW.pt (pw_or (pt_not (pt_val (pe_fn F_law_refused hr (by omega) (by rfl) (pa_cons (pv 4) (pa_cons (pv 0) (pa_cons (pv 1) pa_nil)))))) (pw_or1 (pt_not (pt_val (pe_fn F_law_refused hr (by omega) (by rfl) (pa_cons (pv 4) (pa_cons (pv 0) (pa_cons (pv 1) pa_nil)))))))))
 (pss_one (ps_ret pe_bl))
 pss_nil)
 (pss_one (ps_for PassesOwn.never rfl (pi_list (pe_op op_cat (pe_lst (pa_cons (pv 0) pa_nil)) (pv 2))) (pg_name (i:=5) sc_law_of_vaults.nd rfl (Or.inl rfl))
 (pss_one (ps_if (PW.pt (pw_or (pt_not (pt_val (pe_fn F_law_same hr (by omega) (by rfl) (pa_cons (pe_any fun W hW=>pe_mt (pv 4) (Cc W hW) (N W hW) hr (by omega) pass0 (pa_cons (pe_fn F_seal hr (by omega) (by rfl) (pa_cons (pv 5) pa_nil)) pa_nil)) (pa_cons (pv 5) pa_nil))))) (pw_or1 (pt_cmpR op_ne (pe_any fun W hW=>pe_mt (pv 4) (Cc W hW) (M W hW) hr (by omega) pass01 (pa_cons (pv 5) pa_nil)) (pe_fn F_seal hr (by omega) (by rfl) (pa_cons (pv 5) pa_nil)) (nomark _)))))
 (pss_one (ps_ret pe_bl))
 pss_nil)))))))
 (pss_one (ps_ret (pe_cmpR op_eq (pe_callB (call_len_seq) (by rfl) m_len (by rfl) (pa_cons (pe_mt0 (pv 3) c_K M_things hr (by omega) pass0) pa_nil)) (pe_op op_add pe_int (pe_callB (call_len_seq) (by rfl) m_len (by rfl) (pa_cons (pv 2) pa_nil))) (nomark _)))))),?_⟩
 have nt:=ap.two
 have hgL:∀t∈one::bts,G5 t:=fun t ht=>by
  rcases List.mem_cons.mp ht with rfl | ht
  ·exact pr.g1
  ·exact hg t ht
 have rL:RepL H (one::bts) ([w1]++bvs):=.cons r1 rb
 have hbl:=rb.len
 have hLl:(one::bts).length=bts.length+1:=rfl
 have hxl:([w1]++bvs).length=bts.length+1:=by rw [List.length_append,hbl];exact Nat.add_comm 1 _
 have sb:∀t∈bts,t∈one::bts:=fun t ht=>List.mem_cons_of_mem _ ht
 refine fun a1 dx1 h1 hx1 n1=>new_vs h1 hx1 n1 fun d1 H1 s1 hd1 v1=>?_
 refine fun a0 dx0 h0 hx0 n0=>new_vs h0 hx0 n0 fun d0 H2 s2 hd0 v0=>?_
 refine ⟨_,rfl,_,rfl,szl (show 1≤1000 by decide),fun p1 hp1=>?_⟩
 have s3:Same H2 (upd H2 p1 (.lst [w1])):=same_new (Same.refl H2) hp1
 have e3:upd H2 p1 (.lst [w1]) p1=some (.lst [w1]):=upd_same
 generalize upd H2 p1 (.lst [w1])=H3 at s3 e3
 have s13:Same H H3:=s1.trans (s2.trans s3)
 refine ⟨_,rfl,p1,bp,[w1],bvs,rfl,rfl,e3,s13 _ _ eb,szl (show 1+bvs.length≤1000 by omega),fun p2 hp2=>?_⟩
 have s4:Same H3 (upd H3 p2 (.lst ([w1]++bvs))):=same_new (Same.refl H3) hp2
 have e4:upd H3 p2 (.lst ([w1]++bvs)) p2=some (.lst ([w1]++bvs)):=upd_same
 generalize upd H3 p2 (.lst ([w1]++bvs))=H4 at s4 e4
 have s14:Same H H4:=s13.trans s4
 refine fun a2 dx2 h2 hx2 n2=>new_wit h2 hx2 e4 (rL.keep (Same.tups s14)) (by omega) hgL nt fun d2 H5 s5 hd2 v2=>?_
 have s15:Same H H5:=s14.trans s5
 refine ⟨_,rfl,fun a3 dx3 h3 hx3 n3=>new_wit h3 hx3 (s15 _ _ eb) (rb.keep (Same.tups s15)) (by omega) hg (nt.sub sb) fun d3 H6 s6 hd3 v3=>⟨szl (show 4≤1000 by decide),fun pl hpl=>?_⟩⟩
 have s7:Same H6 (upd H6 pl (.lst [.ref a0,.ref a1,.ref a2,.ref a3])):=same_new (Same.refl H6) hpl
 have e7:upd H6 pl (.lst [.ref a0,.ref a1,.ref a2,.ref a3]) pl=some (.lst [.ref a0,.ref a1,.ref a2,.ref a3]):=upd_same
 generalize upd H6 pl (.lst [.ref a0,.ref a1,.ref a2,.ref a3])=H7 at s7 e7
 have s27:Same H2 H7:=s3.trans (s4.trans (s5.trans (s6.trans s7)))
 have V0:V4 CV CK CW CR H7 (sel a0 a1 a2 a3) (sel d0 d1 d2 d3) (sel [] [] (laidAll (one::bts)) (laidAll bts)):=by
  refine ⟨fun i hi=>?_,?_⟩
  ·rcases lt4 hi with rfl | rfl | rfl | rfl
   ·exact v0.same s27
   ·exact v1.same (s2.trans s27)
   ·exact v2.same (s6.trans s7)
   ·exact v3.same s7
  ·have key:∀{Ha Hb:Hp} {C a d b:Addr} {cs:List (Int ×Th)},VS Ha C a d cs→Same Ha Hb→Hb b=none→b≠d:=fun v s hb z=>by
    obtain ⟨kv,vo,_⟩:=v.vo
    rw [z,s _ _ vo.di] at hb;cases hb
   exact sel_ne (key v1 (Same.refl _) hd0) (key v0 (s3.trans s4) hd2).symm (key v0 (s3.trans (s4.trans s5)) hd3).symm (key v1 (s2.trans (s3.trans s4)) hd2).symm (key v1 (s2.trans (s3.trans (s4.trans s5))) hd3).symm (key v2 (Same.refl _) hd3).symm
 have s17:Same H H7:=s1.trans (s2.trans s27)
 have hds:∀i,i < 4→H (sel d0 d1 d2 d3 i)=none:=fun i hi=>by
  rcases lt4 hi with rfl | rfl | rfl | rfl
  ·exact s1.free hd0
  ·exact hd1
  ·exact s14.free hd2
  ·exact s15.free hd3
 have c0s:∀i,i < 4→SubL (sel [] [] (laidAll (one::bts)) (laidAll bts) i) (one::bts)∧(sel [] [] (laidAll (one::bts)) (laidAll bts) i).length≤4:=fun i hi=>by
  have l1:=laidAll_len (one::bts) _ (Nat.le_refl _)
  have l2:=laidAll_len bts _ (Nat.le_refl _)
  rw [List.take_length] at l1 l2
  rcases lt4 hi with rfl | rfl | rfl | rfl
  ·exact ⟨SubL.nil _,Nat.zero_le _⟩
  ·exact ⟨SubL.nil _,Nat.zero_le _⟩
  ·exact ⟨SubL.laid _ _ fun t ht=>ht,by show (laidAll (one::bts)).length≤4;omega⟩
  ·exact ⟨SubL.laid _ _ sb,by show (laidAll bts).length≤4;omega⟩
 have hat:∀i y,([.ref a0,.ref a1,.ref a2,.ref a3]:List V)[i]? =some y→i < 4∧y=.ref (sel a0 a1 a2 a3 i):=fun i y h=>by
  have hi:i < 4:=(List.getElem?_eq_some_iff.mp h).1
  rcases lt4 hi with rfl | rfl | rfl | rfl <;> exact ⟨hi,(Option.some.inj h).symm⟩
 have a1e:sel a0 a1 a2 a3 1=a1:=rfl
 have cfin:sel [] [] (laidAll (one::bts)) (laidAll bts) 1=[]:=rfl
 generalize sel d0 d1 d2 d3=ds at V0 hds
 generalize sel [] [] (laidAll (one::bts)) (laidAll bts)=c0 at V0 c0s cfin
 generalize sel a0 a1 a2 a3=as at V0 hat a1e
 clear v0 v1 v2 v3 hd0 hd1 hd2 hd3 h0 h1 h2 h3 hx0 hx1 hx2 hx3 hp1 hp2 hpl s2 s3 s4 s5 s6 s7 s13 s14 s15 s27 e3 e4 s1
 refine ⟨pl,rfl,⟨_,SqL.of e7⟩,?_⟩
 refine for_list (xs:=[.ref a0,.ref a1,.ref a2,.ref a3]) (fun i σ H'=>∃(k4 k5:Option V),σ=[some w1,some v,some (.ref bp),some (.ref a1),k4,k5]∧Same H H'∧H' pl=some (.lst [.ref a0,.ref a1,.ref a2,.ref a3])∧V4 CV CK CW CR H' as ds (fun j=>if j < i then layAll (c0 j) (one::bts) else c0 j)) ⟨_,_,rfl,s17,e7,V0⟩ ?_ ?_ ?_
 ·rintro i σ H' _ ⟨k4,k5,rfl,sH,epl,W4⟩
  exact SqL.of epl
 ·rintro i y σ H' hy ⟨k4,k5,rfl,sH,epl,W4⟩
  obtain ⟨hi,rfl⟩:=hat i y hy
  obtain ⟨sc,lc⟩:=c0s i hi
  have v0:VS H' (clsV4 CV CK CW CR (kI i)) (as i) (ds i) (c0 i):=by
   have:=W4.v i hi
   simpa only [Nat.lt_irrefl,if_false] using this
  refine ⟨_,rfl,szl (show 1≤1000 by decide),fun p1 hp1=>?_⟩
  have s3:Same H' (upd H' p1 (.lst [w1])):=same_new (Same.refl H') hp1
  have e3:upd H' p1 (.lst [w1]) p1=some (.lst [w1]):=upd_same
  generalize upd H' p1 (.lst [w1])=H3 at s3 e3
  refine ⟨_,rfl,p1,bp,[w1],bvs,rfl,rfl,e3,(sH.trans s3) _ _ eb,szl (show 1+bvs.length≤1000 by omega),fun p2 hp2=>?_⟩
  have s4:Same H' (upd H3 p2 (.lst ([w1]++bvs))):=same_new s3 hp2
  have e4:upd H3 p2 (.lst ([w1]++bvs)) p2=some (.lst ([w1]++bvs)):=upd_same
  generalize upd H3 p2 (.lst ([w1]++bvs))=H4 at s4 e4
  have v4:=v0.same s4
  have rL4:=rL.keep (Same.tups (sH.trans s4))
  refine ⟨p2,rfl,⟨_,SqL.of e4⟩,?_⟩
  refine for_list (xs:=[w1]++bvs) (fun j σ Hb=>∃(k5:Option V),σ=[some w1,some v,some (.ref bp),some (.ref a1),some (.ref (as i)),k5]∧Fr1 (ds i) H4 Hb∧VS Hb (clsV4 CV CK CW CR (kI i)) (as i) (ds i) (layAll (c0 i) ((one::bts).take j))) ⟨_,rfl,Fr1.refl _ _,v4⟩ ?_ ?_ ?_
  ·rintro j σ Hb _ ⟨k5,rfl,fb,vb⟩
   exact SqL.of (v4.lst fb e4)
  ·rintro j x σ Hb hx ⟨k5,rfl,fb,vb⟩
   have hj:j < (one::bts).length:=by rw [hLl,←hxl];exact (List.getElem?_eq_some_iff.mp hx).1
   have rx:=(rL4.at j x _ hx (List.getElem?_eq_getElem hj)).keep (v4.tups fb)
   have gx:=hgL _ (List.getElem_mem hj)
   have ln:=layAll_len (c0 i) (one::bts) j (by omega)
   obtain ⟨kv,⟨⟨dx,fs,eo,fl⟩,ed⟩,dr⟩:=vb.vo
   refine ⟨kI i,kI_mem i,_,rfl,as i,dx,fs,rfl,eo,fl.n2,_,rfl,as i,ds i,x,(one::bts)[j],_,rfl,vb,by omega,rx,gx.good,(layAll_sub sc j (by omega)).fits nt (List.getElem_mem hj),fun Hc fc vc=>?_⟩
   exact ⟨_,rfl,fb.trans fc,by rw [layAll_take hj];exact vc⟩
  ·rintro σ Hb ⟨k5',rfl,fb,vb⟩
   rw [hxl,←hLl,List.take_length] at vb
   have f1:Fr1 (ds i) H' Hb:=(fr1_of s4).trans fb
   have sHb:Same H Hb:=f1.same sH (hds i hi)
   have held:=layAll_held sc nt _ (Nat.le_refl _)
   have ln:=layAll_len (c0 i) (one::bts) _ (Nat.le_refl _)
   rw [List.take_length] at held ln
   have l900:(layAll (c0 i) (one::bts)).length≤900:=by omega
   have lone:lookT (layAll (c0 i) (one::bts)) (sealT other)=some one:=by rw [←pr.se];exact held one List.mem_cons_self
   generalize hcL:layAll (c0 i) (one::bts)=cL at vb held l900 lone
   refine ⟨_,rfl,_,rfl,_,rfl,kI i,as i,w1,v,other,one,rfl,refst_of (kI_mem i) vb l900 lone,r1.keep (Same.tups sHb),r2.keep (Same.tups sHb),pr.g2.good,pr.g1.good,pr.ne,fun Hc sc'=>⟨_,rfl,ifF rfl ?_⟩⟩
   have sHc:=sHb.trans sc'
   refine ⟨_,rfl,_,rfl,_,rfl,kI i,as i,w1,v,other,one,rfl,refst_of (kI_mem i) (vb.same sc') l900 lone,r1.keep (Same.tups sHc),r2.keep (Same.tups sHc),pr.g2.good,pr.g1.good,pr.ne,fun Hd sd=>⟨_,rfl,ifF rfl ?_⟩⟩
   have sHd:=sHc.trans sd
   have vd:=(vb.same sc').same sd
   have f2:Fr1 (ds i) H' Hd:=f1.trans (fr1_of (sc'.trans sd))
   clear sHc sc' sd vb sHb f1 v4 s3 e3 e4 rL4 s4 fb
   refine ⟨_,rfl,szl (show 1≤1000 by decide),fun p3 hp3=>?_⟩
   have s5:Same Hd (upd Hd p3 (.lst [w1])):=same_new (Same.refl Hd) hp3
   have e5:upd Hd p3 (.lst [w1]) p3=some (.lst [w1]):=upd_same
   generalize upd Hd p3 (.lst [w1])=H5 at s5 e5
   refine ⟨_,rfl,p3,bp,[w1],bvs,rfl,rfl,e5,(sHd.trans s5) _ _ eb,szl (show 1+bvs.length≤1000 by omega),fun p4 hp4=>?_⟩
   have s6:Same Hd (upd H5 p4 (.lst ([w1]++bvs))):=same_new s5 hp4
   have e6:upd H5 p4 (.lst ([w1]++bvs)) p4=some (.lst ([w1]++bvs)):=upd_same
   generalize upd H5 p4 (.lst ([w1]++bvs))=He at s6 e6
   have ve:=vd.same s6
   have rLe:=rL.keep (Same.tups (sHd.trans s6))
   have f3:Fr1 (ds i) H' He:=f2.trans (fr1_of s6)
   refine ⟨p4,rfl,⟨_,SqL.of e6⟩,?_⟩
   refine for_list (xs:=[w1]++bvs) (fun j σ Hb=>∃(k5:Option V),σ=[some w1,some v,some (.ref bp),some (.ref a1),some (.ref (as i)),k5]∧Fr1 (ds i) He Hb∧VS Hb (clsV4 CV CK CW CR (kI i)) (as i) (ds i) cL) ⟨_,rfl,Fr1.refl _ _,ve⟩ ?_ ?_ ?_
   ·rintro j σ Hb _ ⟨k5,rfl,fb,vb⟩
    exact SqL.of (ve.lst fb e6)
   ·rintro j x σ Hb hx ⟨k5,rfl,fb,vb⟩
    have hj:j < (one::bts).length:=by rw [hLl,←hxl];exact (List.getElem?_eq_some_iff.mp hx).1
    have rx:=(rLe.at j x _ hx (List.getElem?_eq_getElem hj)).keep (ve.tups fb)
    have gx:=hgL _ (List.getElem_mem hj)
    have hx1:=held _ (List.getElem_mem hj)
    generalize (one::bts)[j]=tj at rx gx hx1
    have g1:=gx.dp
    have g2:=gx.nd
    obtain ⟨dx,fs,eo,fl⟩:=vb.obj
    refine ⟨kI i,kI_mem i,_,rfl,as i,dx,fs,rfl,eo,fl.n3,_,rfl,tj,x,rfl,rx,gx.wf,by omega,by omega,fun Hc sc'=>?_⟩
    have rxc:=rx.keep (Same.tups sc')
    have vc:=vb.same sc'
    refine ⟨as i,ds i,_,tj,cL,rfl,vc,hx1,fun v' rv'=>?_⟩
    refine ⟨_,rfl,tj,tj,v',x,rfl,rv',rxc,by omega,by omega,by omega,fun Hd' sd=>⟨_,rfl,ifF (by rw [eqT_refl];rfl) ?_⟩⟩
    have vd':=vc.same sd
    obtain ⟨dx,fs,eo,fl⟩:=vd'.obj
    refine ⟨kI i,kI_mem i,_,rfl,as i,dx,fs,rfl,eo,fl.n2,_,rfl,as i,ds i,x,tj,cL,rfl,vd',l900,rxc.keep (Same.tups sd),gx.good,.inr hx1,fun Hf ff vf=>?_⟩
    rw [addT_old hx1] at vf
    refine ⟨_,rfl,tj,x,rfl,(rxc.keep (Same.tups sd)).keep (vd'.tups ff),gx.wf,by omega,by omega,fun Hg sg=>⟨rfl,_,rfl,ifF (by simp) ?_⟩⟩
    exact ⟨_,rfl,fb.trans ((fr1_of (sc'.trans sd)).trans (ff.trans (fr1_of sg))),vf.same sg⟩
   ·rintro σ Hb ⟨k5'',rfl,fb,vb⟩
    have f4:=f3.trans fb
    refine ⟨_,_,rfl,f4.same sH (hds i hi),v0.lst f4 epl,?_⟩
    have:=W4.step hi f4 vb
    have ef:(fun j=>if j=i then cL else if j < i then layAll (c0 j) (one::bts) else c0 j)=fun j=>if j < i+1 then layAll (c0 j) (one::bts) else c0 j:=by
     funext j
     by_cases e:j=i
     ·subst e
      rw [if_pos rfl,if_pos (Nat.lt_succ_self _),hcL]
     ·by_cases l:j < i
      ·rw [if_neg e,if_pos l,if_pos (by omega)]
      ·rw [if_neg e,if_neg l,if_neg (by omega)]
    rw [ef] at this
    exact this
 ·rintro σ H' ⟨k4,k5,rfl,sH,epl,W4⟩
  have vk:VS H' CK (as 1) (ds 1) (laidAll (one::bts)):=by
   have:=W4.v 1 (by decide)
   rw [if_pos (show 1 < [V.ref a0,V.ref a1,V.ref a2,V.ref a3].length from (by decide:(1:Nat) < 4)),cfin] at this
   exact this
  rw [a1e] at vk
  have ll:=laidAll_all ap _ (Nat.le_refl _)
  rw [List.take_length,hLl] at ll
  obtain ⟨dx,fs,eo,fl⟩:=vk.obj
  obtain ⟨kv,vo,dr⟩:=vk.vo
  refine ⟨_,rfl,a1,dx,fs,rfl,eo,fl.n4,a1,_,kv,_,rfl,vo,dr,by omega,fun l ns xs H2 s2 hl hp hs el rl=>?_⟩
  have hxs:xs.length=bts.length+1:=by
   rw [rl.len]
   unfold worths
   rw [List.length_map,hp.length_eq,List.length_map,ll]
  refine ⟨l,xs,rfl,.inl (SqL.of el),_,rfl,bp,bvs,rfl,.inl (SqL.of (s2 _ _ (sH _ _ eb))),_,_,rfl,rfl,rfl,?_⟩
  have e:decide (V.int (xs.length:Int)=V.int (1+(bvs.length:Int)))=true:=decide_eq_true (by rw [hxs,hbl];congr 1;omega)
  rw [e]
  exact q _ (sH.trans s2)
end
end Pv
namespace L2
open PySem PySem.Spec PyProof.Rows
section
variable {X:Cx}
end
end L2
namespace L2
open PySem PySem.Spec PyProof.Rows
section
variable {X:Cx}
end
end L2
namespace Px
open PySem PySem.W PySem.Builtin
section
variable {prog:Program}{w:World}{A:Around}{E:Value→Shared→Prop}{s:Shared}{K:Frag}{x D:Addr}{ox:Obj}{od:Option Obj}
end
end Px
namespace L2
open PySem PySem.Spec PyProof.Rows Px
section
variable {X:Cx}
end
end L2
namespace Px
open PySem PySem.W PySem.Builtin
open PySem.AutoSeq1 (wpAny_loadPart')
section
variable {prog:Program}{w:World}{A:Around}{E:Value→Shared→Prop}{s:Shared}
end
end Px
namespace L2
open PySem PySem.Spec PyProof.Rows Px
section
variable {X:Cx}{e:Expr}{ta:TA}{p1 p2 q1 q2:Pos}
end
end L2
namespace L2
open PySem PySem.Spec PyProof.Rows
section
variable {X:Cx}
open PySem.SeqAt in
private theorem rc_Fl {pins:List (Addr ×Obj)}{σ:St}{H:Hp}{s:Shared}(I:Inv X pins σ H s){a b:Addr}{xs:List V}{A:Around}(e:SqL X.K H a xs)(e':SqL X.K H b xs)(h:∀x∈xs,flatV x=true∧eqV x x=true)(hu:A.units+60 < cLine):
  RcAt A s (.ref a) (.ref b) true∧RcNeAt A s (.ref a) (.ref b) false:=by
 obtain ⟨its,r1,T1,_⟩:=I.list e
 obtain ⟨jts,r2,T2,_⟩:=I.list e'
 have n1:=r1.length
 have n2:=r2.length
 have key:∀j (h1:j < its.toArray.size) (h2:j < jts.toArray.size),EqAt A.in1 s its.toArray[j] jts.toArray[j] true:=fun j h1 h2=>by
  have h1':j < its.length:=by simpa using h1
  have h2':j < jts.length:=by simpa using h2
  have hx:xs[j]? =some xs[j]:=List.getElem?_eq_getElem (show j < xs.length by omega)
  obtain ⟨vx,ex,rx⟩:=r1.get hx
  obtain ⟨vy,ey,ry⟩:=r2.get hx
  have z1:its.toArray[j]=vx:=by
   rw [List.getElem?_eq_getElem h1'] at ex
   simpa using Option.some.inj ex
  have z2:jts.toArray[j]=vy:=by
   rw [List.getElem?_eq_getElem h2'] at ey
   simpa using Option.some.inj ey
  rw [z1,z2]
  obtain ⟨f1,f2⟩:=h xs[j] (List.getElem_mem (show j < xs.length by omega))
  have:=eqAt_V (A:=A.in1) (s:=s) rx ry f1 f1
  rw [f2] at this
  exact this
 have hsz:its.toArray.size=jts.toArray.size:=by rw [List.size_toArray,List.size_toArray];omega
 have R:=RcAt.lists (e:=fun _=>true) T1.isList T2.isList hsz (show A.units < cLine by omega) key
 have R':=RcNeAt.lists (e:=fun _=>true) T1.isList T2.isList hsz (show A.units < cLine by omega) key
 have e3:(List.range its.toArray.size).all (fun _=>true)=true:=List.all_eq_true.mpr fun _ _=>rfl
 rw [e3] at R R'
 exact ⟨R,R'⟩
private theorem op_eqFl {k:Nat}(hr:Room k X.A):OpR X (compareOp .Eq) (fun x y H Q=>∃a b xs,x=.ref a∧y=.ref b∧SqL X.K H a xs∧SqL X.K H b xs∧(∀x∈xs,flatV x=true∧eqV x x=true)∧Q (.bl true) H):=by
 intro pins s σ H x y v w Q I rx ry h
 obtain ⟨a,b,xs,rfl,rfl,e1,e2,hf,q⟩:=h
 cases (show v=Value.ref a from rx)
 cases (show w=Value.ref b from ry)
 have hu:=hr.units
 exact (rc_Fl I e1 e2 hf (by omega)).1 _ _ _ _ ⟨.bl _,H,I,rfl,q⟩
private theorem op_neFl {k:Nat}(hr:Room k X.A):OpR X (compareOp .NotEq) (fun x y H Q=>∃a b xs,x=.ref a∧y=.ref b∧SqL X.K H a xs∧SqL X.K H b xs∧(∀x∈xs,flatV x=true∧eqV x x=true)∧Q (.bl false) H):=by
 intro pins s σ H x y v w Q I rx ry h
 obtain ⟨a,b,xs,rfl,rfl,e1,e2,hf,q⟩:=h
 cases (show v=Value.ref a from rx)
 cases (show w=Value.ref b from ry)
 have hu:=hr.units
 exact (rc_Fl I e1 e2 hf (by omega)).2 _ _ _ _ ⟨.bl _,H,I,rfl,q⟩
end
end L2
namespace L2
open PySem PySem.Spec PyProof.Rows
section
variable {X:Cx}
private theorem op_neNil {k:Nat}(hr:Room k X.A):OpR X (compareOp .NotEq) (fun x y H Q=>∃a b xs,x=.ref a∧y=.ref b∧SqL X.K H a xs∧SqL X.K H b []∧Q (.bl (!xs.isEmpty)) H):=by
 intro pins s σ H x y v w Q I rx ry h
 obtain ⟨a,b,xs,rfl,rfl,e,e',q⟩:=h
 cases (show v=Value.ref a from rx)
 cases (show w=Value.ref b from ry)
 have hu:=hr.units
 obtain ⟨its,r1,T1,_⟩:=I.list e
 obtain ⟨jts,r2,T2,_⟩:=I.list e'
 have n1:=r1.length
 have n2:=r2.length
 cases xs with
 | nil=>
  have z1:its=[]:=by cases its with | nil=>rfl | cons=>simp at n1
  have z2:jts=[]:=by cases jts with | nil=>rfl | cons=>simp at n2
  subst z1 z2
  exact (PySem.SeqAt.RcNeAt.lists (e:=fun _=>true) T1.isList T2.isList rfl (by omega) (fun j h1=>absurd h1 (Nat.not_lt_zero _))) _ _ _ _ ⟨.bl _,H,I,rfl,q⟩
 | cons c xs=>
  have z2:jts=[]:=by cases jts with | nil=>rfl | cons=>simp at n2
  subst z2
  have hsz:(its.toArray.size != (#[]:Array Value).size)=true:=by
   rw [List.size_toArray,bne_iff_ne,←n1,List.length_cons]
   exact Nat.succ_ne_zero _
  exact (PySem.SeqAt.RcNeAt.lists_lengths T1.isList T2.isList hsz (by omega)) _ _ _ _ ⟨.bl _,H,I,rfl,q⟩
end
end L2
namespace Pv
open PySem L2
abbrev s_law_of_readers:Stmt:=top 48
private theorem sc_law_of_readers:FnScope ["one","other","between","keeper","reader","new","notes"] ["one","other","between"] (defScope s_law_of_readers):=L2.fsc (by decide+kernel)
section
variable {H H':Hp}{CR CK a dl kp dn dk:Addr}{cs ns ks:List (Int ×Th)}
private theorem RS.obj (r:RS H CR CK a dl kp dn dk cs ns ks):∃dx fs,H a=some (.ins CR dx fs)∧Flds fs dl:=by
 obtain ⟨⟨kvs,nvs,⟨⟨dx,eo⟩,_,_⟩,_,_⟩,_⟩:=r
 exact ⟨dx,_,eo,flds3 dl kp dn⟩
private theorem RS.neL (r:RS H CR CK a dl kp dn dk cs ns ks){b:Addr}{o:HO}(e:H b=some o)(h:∀kv,o≠ .dK kv):b≠dl:=by
 obtain ⟨⟨kvs,nvs,⟨_,e1,_⟩,_,_⟩,_⟩:=r
 intro z;rw [z,e1] at e;cases e;exact h _ rfl
private theorem RS.neN (r:RS H CR CK a dl kp dn dk cs ns ks){b:Addr}{o:HO}(e:H b=some o)(h:∀kv,o≠ .dK kv):b≠dn:=by
 obtain ⟨⟨kvs,nvs,⟨_,_,e1⟩,_,_⟩,_⟩:=r
 intro z;rw [z,e1] at e;cases e;exact h _ rfl
end
def spRLayF (CR CK:Addr):Sp:=fun vs H Q _=>∃(a dl kp dn dk:Addr) (cs ns ks:List (Int ×Th)) (t:Th) (v:V),vs=[.ref a,v]∧RS H CR CK a dl kp dn dk cs ns ks∧cs.length≤900∧Rep H t v∧Good t∧Fits cs (sealT t) t∧Fits ks (sealT t) t∧
 ∀H',Fr1 dl H H'→Tups H H'→RS H' CR CK a dl kp dn dk (addT cs (sealT t) t) ns ks→Q (.int (sealT t)) H'
def spRThgF (CR CK:Addr):Sp:=fun vs H Q _=>∃(a dl kp dn dk:Addr) (cs ns ks:List (Int ×Th)) (n:Int) (t:Th),vs=[.ref a,.int n]∧RS H CR CK a dl kp dn dk cs ns ks∧ns.length≤900∧
 ((lookT cs n=some t∧∀v,Rep H t v→Q v H)∨(lookT cs n=none∧lookT ks n=some t∧Fits ns n t∧∀H' v,Fr1 dn H H'→Tups H H'→RS H' CR CK a dl kp dn dk cs (addT ns n t) ks→Rep H' t v→Q v H'))
def spRPapF (CR CK:Addr):Sp:=fun vs H Q _=>∃(a dl kp dn dk:Addr) (cs ns ks:List (Int ×Th)),vs=[.ref a]∧RS H CR CK a dl kp dn dk cs ns ks∧ns.length < 64∧Risen ns H Q
section
variable {P:Program}{w:World}{K:PySem.W.Frag}{mg:Str→Option Value}{base:Heap}{CK CR CC CN:Addr}
private theorem fits_alike {H:Hp}{cs:List (Int ×Th)}{kv:List (Key ×V)}{t:Th}{n:Int}(dr:DRep H cs kv)(f:Fits cs n t){t1:Th}{v1:V}(ev:valV kv (.inl n)=some v1)(r1:Rep H t1 v1):t1=t:=by
 obtain ⟨u,eu,ru⟩:=dr.back ev
 rcases f with f | f
 ·rw [f] at eu;cases eu
 ·rw [f] at eu;cases eu
  exact Rep.uniq r1 ru
private theorem ok_rlayF (M:Mt P w K mg base (CX1 P w) CR "lay" 24 ["self","thing"] (spRLay CR CK CC)):Mt P w K mg base (CX1 P w) CR "lay" 24 ["self","thing"] (spRLayF CR CK):=Mt.imp M fun vs H Q E h=>by
 obtain ⟨a,dl,kp,dn,dk,cs,ns,ks,t,v,e,⟨⟨kvs,nvs,ro,dc,dnn⟩,⟨⟨kvk,vk,dkk⟩,gk⟩,gc,gn,n1,n2,n3⟩,hl,rv,gt,f1,f2,q⟩:=h
 refine ⟨a,dl,kp,dn,dk,kvs,nvs,kvk,t,v,e,ro,vk,dc.laidOk gc.gd,dkk.laidOk gk.gd,by rw [dc.len];exact hl,rv,gt,fun H' s a1 a2=>?_,fun t1 v1 H' s hv r1 g1 sn ne=>?_⟩
 ·obtain ⟨⟨dx,eo⟩,e1,e2⟩:=id ro
  have ed':=s _ _ e1
  have tk:Tups H (upd H' dl (.dK (putK kvs (.inl (sealT t)) v))):=(Same.tups s).trans (Tups.upd fun xs z=>by rw [ed'] at z;cases z)
  have fr:Fr1 dl H (upd H' dl (.dK (putK kvs (.inl (sealT t)) v))):=fun b o n e=>by rw [upd_ne n];exact s b o e
  obtain ⟨⟨dy,fs,ek,fl⟩,edk⟩:=id vk
  exact q _ fr tk ⟨⟨_,_,⟨⟨dx,fr _ _ (ne_of eo e1 (by intro z;cases z)) eo⟩,upd_same,fr _ _ n1.symm e2⟩,(dc.keep tk).add (rv.keep tk) f1 gc.nd,dnn.keep tk⟩,⟨⟨kvk,⟨⟨dy,fs,fr _ _ (ne_of ek e1 (by intro z;cases z)) ek,fl⟩,fr _ _ n2.symm edk⟩,dkk.keep tk⟩,gk⟩,gc.add gt rfl,gn,n1,n2,n3⟩
 ·rcases hv with hv | ⟨_,hv⟩
  ·obtain ⟨u,eu,ru⟩:=dc.back hv
   exact absurd ((Rep.uniq r1 (ru.keep (Same.tups s))).trans (fits_alike dc f1 hv ru)) ne
  ·obtain ⟨u,eu,ru⟩:=dkk.back hv
   exact absurd ((Rep.uniq r1 (ru.keep (Same.tups s))).trans (fits_alike dkk f2 hv ru)) ne
private theorem ok_rthgF (M:Mt P w K mg base (CX1 P w) CR "thing" 22 ["self","number"] (spRThing CR CK CN)):Mt P w K mg base (CX1 P w) CR "thing" 22 ["self","number"] (spRThgF CR CK):=Mt.imp M fun vs H Q E h=>by
 obtain ⟨a,dl,kp,dn,dk,cs,ns,ks,n,t,e,⟨⟨kvs,nvs,ro,dc,dnn⟩,⟨⟨kvk,vk,dkk⟩,gk⟩,gc,gn,n1,n2,n3⟩,hl,hq⟩:=h
 refine ⟨a,dl,kp,dn,dk,kvs,nvs,kvk,n,e,ro,vk,by rw [dnn.len];exact hl,fun v ev=>?_,fun v ev ek=>?_,fun ev ek=>?_⟩
 ·obtain ⟨u,eu,ru⟩:=dc.back ev
  rcases hq with ⟨lt,q⟩ | ⟨ln,_⟩
  ·rw [lt] at eu;cases eu;exact q v ru
  ·rw [ln] at eu;cases eu
 ·obtain ⟨u,eu,ru⟩:=dkk.back ek
  rcases hq with ⟨lt,q⟩ | ⟨ln,lk,ft,q⟩
  ·obtain ⟨v0,e0,_⟩:=dc.some lt
   rw [ev] at e0;cases e0
  ·rw [lk] at eu;cases eu
   obtain ⟨⟨dx,eo⟩,e1,e2⟩:=id ro
   have tk:Tups H (upd H dn (.dK (putK nvs (.inl n) v))):=Tups.upd fun xs z=>by rw [e2] at z;cases z
   have fr:Fr1 dn H (upd H dn (.dK (putK nvs (.inl n) v))):=fun b o n e=>by rw [upd_ne n];exact e
   obtain ⟨⟨dy,fs,ek',fl⟩,edk⟩:=id vk
   obtain ⟨g1,g2⟩:=gk.dep lk
   exact q _ v fr tk ⟨⟨_,_,⟨⟨dx,fr _ _ (ne_of eo e2 (by intro z;cases z)) eo⟩,fr _ _ n1 e1,upd_same⟩,dc.keep tk,(dnn.keep tk).add (ru.keep tk) ft gn.nd⟩,⟨⟨kvk,⟨⟨dy,fs,fr _ _ (ne_of ek' e2 (by intro z;cases z)) ek',fl⟩,fr _ _ n3.symm edk⟩,dkk.keep tk⟩,gk⟩,gc,gn.add g1 g2,n1,n2,n3⟩ (ru.keep tk)
 ·rcases hq with ⟨lt,q⟩ | ⟨ln,lk,ft,q⟩
  ·obtain ⟨v0,e0,_⟩:=dc.some lt
   rw [ev] at e0;cases e0
  ·obtain ⟨v0,e0,_⟩:=dkk.some lk
   rw [ek] at e0;cases e0
private theorem ok_rpapF (M:Mt P w K mg base CX0 CR "paper" 22 ["self"] (spPaper CR)):Mt P w K mg base CX0 CR "paper" 22 ["self"] (spRPapF CR CK):=Mt.imp M fun vs H Q E h=>by
 obtain ⟨a,dl,kp,dn,dk,cs,ns,ks,e,⟨⟨kvs,nvs,ro,dc,dnn⟩,_,_,_,_,_,_⟩,hl,q⟩:=h
 exact ⟨a,dl,kp,dn,kvs,nvs,ns,e,ro,dnn,hl,q⟩
private theorem new_rs {x dx kp dk:Addr}{H:Hp}{R:Hp→Prop}{E:XK}{ks:List (Int ×Th)}(hx:H x=none)(hdx:H dx=none)(n:dx≠x)(vk:VS H CK kp dk ks)(q:∀dl dn H',Same H H'→H dl=none→H dn=none→RS H' CR CK x dl kp dn dk [] [] ks→R H'):
  spRInit CR [.ref x,.ref kp] (upd (upd H dx (.own x)) x (.ins CR dx [])) (fun v H2=>v=.non∧R H2) E:=by
 have s0:Same H (upd (upd H dx (.own x)) x (.ins CR dx [])):=same_upd (same_new (Same.refl H) hdx) hx
 refine ⟨x,kp,dx,rfl,upd_same,fun dl dn H' fr hdl hdn ne eo e1 e2=>⟨rfl,?_⟩⟩
 have s1:Same H H':=fun b o e=>fr b o (ne_of_none e hx) (s0 b o e)
 have key:∀b,H b=none→b≠dk:=fun b hb z=>by
  obtain ⟨kv,vo,_⟩:=vk.vo
  rw [z,vo.di] at hb;cases hb
 exact q dl dn H' s1 (s0.free hdl) (s0.free hdn) ⟨⟨[],[],⟨⟨dx,eo⟩,e1,e2⟩,.nil,.nil⟩,vk.same s1,GoodC.nil,GoodC.nil,ne,key _ (s0.free hdl),key _ (s0.free hdn)⟩
def spLayK (CK:Addr):Sp:=fun vs H Q _=>∃(a d:Addr) (v:V) (t:Th) (cs:List (Int ×Th)),vs=[.ref a,v]∧VS H CK a d cs∧cs.length≤900∧Rep H t v∧Good t∧Fits cs (sealT t) t∧∀H',Fr1 d H H'→VS H' CK a d (addT cs (sealT t) t)→Q (.int (sealT t)) H'
private theorem ok_layK (M:Mt P w K mg base (CX1 P w) CK "lay" 24 ["self","thing"] (spLay CK CC)):Mt P w K mg base (CX1 P w) CK "lay" 24 ["self","thing"] (spLayK CK):=Mt.imp M fun vs H Q E ⟨a,d,v,t,cs,e,st,hl,rv,gt,ft,q⟩=>lay_fits e st hl rv gt ft q
private theorem comp_list {pL p:Addr}{σ:L2.St}{js:List Nat}{te:TE}{H1:Hp}{Q:VK}{xs:List V}(I:Nat→List V→Hp→Prop)(h0:I 0 [] (upd H1 p (.lst [])))(hl:∀i acc H',I i acc H'→H' pL=some (.lst xs)∧acc.length=i)(hn:xs.length≤900)
  (hs:∀i acc H' x,xs[i]? =some x→I i acc H'→∀Z:VK,(∀y H3,H3 p=some (.lst acc)→I (i+1) (acc++ [y]) (upd H3 p (.lst (acc++ [y])))→Z y H3)→te (some x::frees σ js) H' Z) (q:∀acc H',I xs.length acc H'→Q (.ref p) H'):CompW (Itl K pL) p σ js tNoTest te H1 Q:=by
 refine comp_it (n:=xs.length) I h0 ?_ ?_ ?_ q
 ·intro i acc H' hi h
  exact ⟨xs,xs[i],SqL.of (hl i acc H' h).1,List.getElem?_eq_getElem hi⟩
 ·intro acc H' h
  exact ⟨xs,SqL.of (hl _ acc H' h).1,Nat.le_refl _⟩
 ·rintro i acc H' y H'' hi h ⟨z1,z2⟩
  subst z1
  have ey:=z2 xs (SqL.of (hl i acc _ h).1)
  have la:=(hl i acc _ h).2
  exact tt1 (hs i acc _ y ey h _ fun y H3 e h'=>⟨e,Nat.lt_of_lt_of_le (show acc.length < 1000 by omega) (szl (Nat.le_refl _)),nxt hi h'⟩)
private theorem RS.updL {H:Hp}{a dl kp dn dk p:Addr}{cs ns ks:List (Int ×Th)}{xs ys:List V}(r:RS H CR CK a dl kp dn dk cs ns ks)(e:H p=some (.lst xs)):RS (upd H p (.lst ys)) CR CK a dl kp dn dk cs ns ks:=by
 obtain ⟨⟨kvs,nvs,⟨⟨dx,eo⟩,e1,e2⟩,d1,d2⟩,⟨⟨kv,⟨⟨dy,fs,ek,fl⟩,ed⟩,d3⟩,gk⟩,gc,gn,n1,n2,n3⟩:=r
 have f:∀b o,H b=some o→(∀zs,o≠ .lst zs)→upd H p (.lst ys) b=some o:=fun b o hb ho=>by rw [upd_ne (fun z=>by rw [z,e] at hb;cases hb;exact ho xs rfl)];exact hb
 have tk:Tups H (upd H p (.lst ys)):=fun b zs hb=>f b _ hb (by intro zs z;cases z)
 exact ⟨⟨kvs,nvs,⟨⟨dx,f _ _ eo (by intro zs z;cases z)⟩,f _ _ e1 (by intro zs z;cases z),f _ _ e2 (by intro zs z;cases z)⟩,d1.keep tk,d2.keep tk⟩,⟨⟨kv,⟨⟨dy,fs,f _ _ ek (by intro zs z;cases z),fl⟩,f _ _ ed (by intro zs z;cases z)⟩,d3.keep tk⟩,gk⟩,gc,gn,n1,n2,n3⟩
private theorem fr_updL {d p:Addr}{H H':Hp}{o:HO}(f:Fr1 d H H')(h:H p=none):Fr1 d H (upd H' p o):=fun b u n e=>by rw [upd_ne (ne_of_none e h)];exact f b u n e
private theorem risen_len {cs:List (Int ×Th)}{ns:List Int}{xs:List V}{H:Hp}(rl:RepL H (worths cs ns) xs)(hp:ns.Perm (cs.map (·.1))):xs.length=cs.length:=by
 rw [rl.len]
 unfold worths
 rw [List.length_map,hp.length_eq,List.length_map]
private theorem flat_ints (ts:List Th):∀x∈ts.map (fun t=>V.int (sealT t)),flatV x=true∧eqV x x=true:=fun x hx=>by
 obtain ⟨b,_,rfl⟩:=List.mem_map.mp hx
 refine ⟨rfl,?_⟩
 show (_==_)=true
 simp
private theorem take_map {ts:List Th}{i:Nat}(h:i < ts.length):(ts.take (i+1)).map (fun t=>V.int (sealT t))=(ts.take i).map (fun t=>V.int (sealT t))++ [V.int (sealT ts[i])]:=by
 rw [List.take_add_one,List.getElem?_eq_getElem h,List.map_append];rfl
variable {CV CW:Addr}
private theorem ok_ofR (D:Dfn K mg "_law_of_readers" s_law_of_readers ["one","other","between"]) (K_Keeper:Mkr P w K mg base "Keeper" CK 1 ["self"] (spVInit CK)) (K_Reader:Mkr P w K mg base "Reader" CR 2 ["self","keeper"] (spRInit CR))
  (M_rlay:Mt P w K mg base (CX1 P w) CR "lay" 24 ["self","thing"] (spRLayF CR CK)) (M_rthing:Mt P w K mg base (CX1 P w) CR "thing" 22 ["self","number"] (spRThgF CR CK)) (M_paper:Mt P w K mg base CX0 CR "paper" 22 ["self"] (spRPapF CR CK)) (M_klay:Mt P w K mg base (CX1 P w) CK "lay" 24 ["self","thing"] (spLayK CK))
  (F_law_refused:Fn P w K mg base "_law_refused" 25 ["vault","one","other"] (spRefused CV CK CW CR)) (F_law_same:Fn P w K mg base "_law_same" 11 ["told","due"] (spSameE 9)) (F_seal:Fn P w K mg base "seal" 13 ["thing"] spSeal) (M_things:Mt P w K mg base CX0 CK "things" 22 ["self"] (spThings CK)) (c_K:Cls K CK) (c_R:Cls K CR) (m_len:mg "len" =none):
  Fn P w K mg base "_law_of_readers" 29 ["one","other","between"] spOfV:=by
 refine D.ok (k:=28) sc_law_of_readers (fun vs H Q E h=>?_) (fun f cdv A outer s H vs Q E hr h=>?_)
 ·obtain ⟨w1,v,bp,bvs,one,other,bts,rfl,_⟩:=h;rfl
 obtain ⟨w1,v,bp,bvs,one,other,bts,rfl,r1,r2,eb,rb,pr,hl3,hg,ap,q⟩:=h
 refine ⟨_,(pss_cons (ps_set (i:=3) sc_law_of_readers.nd rfl (Or.inl rfl) (pe_mkr0 K_Keeper hr (by omega) (by rfl)))
 (pss_cons (ps_set (i:=4) sc_law_of_readers.nd rfl (Or.inr rfl) (pe_mkr K_Reader hr (by omega) (by rfl) (pa_cons (pv 3) pa_nil)))
 (pss_cons (ps_if (pt_cmpR (op_neFl hr) (pe_lcomp (CompScope.one (y:= "reader") (j:=4) (c:=s.heap.objs.size+1) (by rfl) (by rfl) (by decide+kernel) (by decide+kernel) (by rfl) (by decide+kernel) (by rfl) (by decide+kernel) (by rfl) (by first | exact Or.inl rfl | exact Or.inr rfl) (by first | exact Or.inl rfl | exact Or.inr rfl)) rfl (pi_list (pe_op op_cat (pe_lst (pa_cons (pv 0) pa_nil)) (pv 2))) (fun _ _ _=>pts_nil) (fun _ _ _=>(pe_mt (pv 1) c_R M_rlay hr (by omega) pass01 (pa_cons (pv 0) pa_nil)))) (pe_lcomp (CompScope.zero (by rfl) (by decide+kernel) (by decide+kernel) (by decide+kernel) (by rfl)) rfl (pi_list (pe_op op_cat (pe_lst (pa_cons (pv 0) pa_nil)) (pv 2))) (fun _ _ _=>pts_nil) (fun _ _ _=>(pe_fn F_seal hr (by omega) (by rfl) (pa_cons (pv 0) pa_nil)))) (nomark _))
 (pss_one (ps_ret pe_bl))
 pss_nil)
 (pss_cons (ps_if (PW.pt (pw_or (pt_not (pt_val (pe_fn F_law_refused hr (by omega) (by rfl) (pa_cons (pv 4) (pa_cons (pv 0) (pa_cons (pv 1) pa_nil)))))) (pw_or (pt_cmpR (op_neNil hr) (pe_mt0 (pv 4) c_R M_paper hr (by omega) pass0) (pe_lst pa_nil) (nomark _)) (pw_or1 (pt_cmpR (op_neNil hr) (pe_mt0 (pv 3) c_K M_things hr (by omega) pass0) (pe_lst pa_nil) (nomark _))))))
 (pss_one (ps_ret pe_bl))
 pss_nil)
 (pss_cons (ps_if (PW.pt (pw_or (pt_not (pt_val (pe_fn F_law_same hr (by omega) (by rfl) (pa_cons (pe_mt (pv 4) c_R M_rthing hr (by omega) pass01 (pa_cons (pe_fn F_seal hr (by omega) (by rfl) (pa_cons (pv 0) pa_nil)) pa_nil)) (pa_cons (pv 0) pa_nil))))) (pw_or1 (pt_cmpR op_ne (pe_mt (pv 3) c_K M_klay hr (by omega) pass01 (pa_cons (pv 0) pa_nil)) (pe_fn F_seal hr (by omega) (by rfl) (pa_cons (pv 0) pa_nil)) (nomark _)))))
 (pss_one (ps_ret pe_bl))
 pss_nil)
 (pss_cons (ps_for PassesOwn.never rfl (pi_list (pv 2)) (pg_name (i:=5) sc_law_of_readers.nd rfl (Or.inl rfl))
 (pss_one (ps_expr (pe_mt (pv 3) c_K M_klay hr (by omega) pass01 (pa_cons (pv 5) pa_nil)))))
 (pss_cons (ps_set (i:=4) sc_law_of_readers.nd rfl (Or.inr rfl) (pe_mkr K_Reader hr (by omega) (by rfl) (pa_cons (pv 3) pa_nil)))
 (pss_cons (ps_lcomp (i:=6) (CompScope.one (y:= "reader") (j:=4) (c:=s.heap.objs.size+1) (by rfl) (by rfl) (by decide+kernel) (by decide+kernel) (by rfl) (by decide+kernel) (by rfl) (by decide+kernel) (by rfl) (by first | exact Or.inl rfl | exact Or.inr rfl) (by first | exact Or.inl rfl | exact Or.inr rfl)) rfl (pi_list (pv 2)) (fun _ _ _=>pts_nil) (fun _ _ _=>(pe_mt (pv 1) c_R M_rthing hr (by omega) pass01 (pa_cons (pe_fn F_seal hr (by omega) (by rfl) (pa_cons (pv 0) pa_nil)) pa_nil))) sc_law_of_readers.nd rfl (Or.inl rfl) (by rfl))
 (pss_cons (ps_if (PW.pt (pw_or (pt_not (pt_val (pe_fn F_law_refused hr (by omega) (by rfl) (pa_cons (pv 4) (pa_cons (pv 0) (pa_cons (pv 1) pa_nil)))))) (pw_or (pt_cmpR op_ne (pe_callB (call_len_seq) (by rfl) m_len (by rfl) (pa_cons (pe_mt0 (pv 4) c_R M_paper hr (by omega) pass0) pa_nil)) (pe_callB (call_len_seq) (by rfl) m_len (by rfl) (pa_cons (pv 6) pa_nil)) (nomark _)) (pw_or1 (pt_cmpR op_ne (pe_mt (pv 4) c_R M_rlay hr (by omega) pass01 (pa_cons (pv 0) pa_nil)) (pe_fn F_seal hr (by omega) (by rfl) (pa_cons (pv 0) pa_nil)) (nomark _))))))
 (pss_one (ps_ret pe_bl))
 pss_nil)
 (pss_cons (ps_if (PW.pt (pw_or (pt_not (pt_val (pe_fn F_law_same hr (by omega) (by rfl) (pa_cons (pe_mt (pv 4) c_R M_rthing hr (by omega) pass01 (pa_cons (pe_fn F_seal hr (by omega) (by rfl) (pa_cons (pv 1) pa_nil)) pa_nil)) (pa_cons (pv 0) pa_nil))))) (pw_or1 (pt_cmpR op_ne (pe_callB (call_len_seq) (by rfl) m_len (by rfl) (pa_cons (pe_mt0 (pv 4) c_R M_paper hr (by omega) pass0) pa_nil)) (pe_callB (call_len_seq) (by rfl) m_len (by rfl) (pa_cons (pv 6) pa_nil)) (nomark _)))))
 (pss_one (ps_ret pe_bl))
 pss_nil)
 (pss_one (ps_ret (pe_cmpR op_eq (pe_callB (call_len_seq) (by rfl) m_len (by rfl) (pa_cons (pe_mt0 (pv 3) c_K M_things hr (by omega) pass0) pa_nil)) (pe_op op_add pe_int (pe_callB (call_len_seq) (by rfl) m_len (by rfl) (pa_cons (pv 2) pa_nil))) (nomark _)))))))))))))),?_⟩
 have nt:=ap.two
 have hgL:∀t∈one::bts,G5 t:=fun t ht=>by
  rcases List.mem_cons.mp ht with rfl | ht
  ·exact pr.g1
  ·exact hg t ht
 have rL:RepL H (one::bts) ([w1]++bvs):=.cons r1 rb
 have hbl:=rb.len
 have hLl:(one::bts).length=bts.length+1:=rfl
 have hxl:([w1]++bvs).length=bts.length+1:=by rw [List.length_append,hbl];exact Nat.add_comm 1 _
 have sb:∀t∈bts,t∈one::bts:=fun t ht=>List.mem_cons_of_mem _ ht
 have g1:=pr.g1.dp
 have g2:=pr.g2.dp
 have g3:=pr.g1.nd
 have g4:=pr.g2.nd
 have heldL:=layAll_held (SubL.nil (one::bts)) nt _ (Nat.le_refl _)
 have llL:=laidAll_all ap _ (Nat.le_refl _)
 have llB:=laidAll_all (List.pairwise_cons.mp ap).2 _ (Nat.le_refl _)
 rw [List.take_length] at heldL llL llB
 have eL:layAll [] (one::bts)=laidAll (one::bts):=rfl
 rw [eL] at heldL
 have h1:=heldL one List.mem_cons_self
 have h2:lookT (laidAll (one::bts)) (sealT other)=some one:=by rw [←pr.se];exact h1
 refine fun a1 dx1 ha1 hx1 n1=>new_vs ha1 hx1 n1 fun d1 H1 s1 hd1 v1=>?_
 refine ⟨_,rfl,fun ar dxr har hxr nr=>new_rs har hxr nr v1 fun dl dn H2 s2 hdl hdn rs=>?_⟩
 have hdl0:=s1.free hdl
 have hdn0:=s1.free hdn
 refine ⟨_,rfl,szl (show 1≤1000 by decide),fun p1 hp1=>?_⟩
 have s3:Same H2 (upd H2 p1 (.lst [w1])):=same_new (Same.refl H2) hp1
 have e3:upd H2 p1 (.lst [w1]) p1=some (.lst [w1]):=upd_same
 generalize upd H2 p1 (.lst [w1])=H3 at s3 e3
 have s13:Same H H3:=s1.trans (s2.trans s3)
 refine ⟨_,rfl,p1,bp,[w1],bvs,rfl,rfl,e3,s13 _ _ eb,szl (show 1+bvs.length≤1000 by omega),fun p2 hp2=>?_⟩
 have s4:Same H3 (upd H3 p2 (.lst ([w1]++bvs))):=same_new (Same.refl H3) hp2
 have e4:upd H3 p2 (.lst ([w1]++bvs)) p2=some (.lst ([w1]++bvs)):=upd_same
 generalize upd H3 p2 (.lst ([w1]++bvs))=H4 at s4 e4
 have s14:Same H H4:=s13.trans s4
 have rs4:=rs.same (s3.trans s4)
 have rL4:=rL.keep (Same.tups s14)
 clear s1 s2 s3 s4 s13 e3 v1 rs
 refine ⟨p2,rfl,⟨_,SqL.of e4⟩,fun p3 hp3=>?_⟩
 refine comp_list (xs:=[w1]++bvs) (fun i acc H'=>Fr1 dl H4 H'∧Tups H4 H'∧RS H' CR CK ar dl a1 dn d1 (layAll [] ((one::bts).take i)) [] []∧H' p3=some (.lst acc)∧acc=((one::bts).take i).map (fun t=>V.int (sealT t))∧i≤(one::bts).length)
  ⟨fr_updL (Fr1.refl _ _) hp3,Tups.new hp3,(rs4.same (same_new (Same.refl H4) hp3)),upd_same,rfl,Nat.zero_le _⟩ ?_ (by omega) ?_ ?_
 ·rintro i acc H' ⟨fr,tk,rs,ep,ea,hi⟩
  exact ⟨fr _ _ (rs4.neL e4 (by intro kv z;cases z)) e4,by rw [ea,List.length_map,List.length_take];omega⟩
 ·rintro i acc H' x hx ⟨fr,tk,rs,ep,ea,_⟩ Z hZ
  have hj:i < (one::bts).length:=by rw [hLl,←hxl];exact (List.getElem?_eq_some_iff.mp hx).1
  have rx:=(rL4.at i x _ hx (List.getElem?_eq_getElem hj)).keep tk
  have gx:=hgL _ (List.getElem_mem hj)
  have ln:=layAll_len [] (one::bts) i (by omega)
  have l0:([]:List (Int ×Th)).length=0:=rfl
  obtain ⟨dx,fs,eo,fl⟩:=rs.obj
  refine ⟨_,rfl,ar,dx,fs,rfl,eo,fl.n2,_,rfl,ar,dl,a1,dn,d1,_,[],[],(one::bts)[i],x,rfl,rs,by omega,rx,gx.good,(layAll_sub (SubL.nil _) i (by omega)).fits nt (List.getElem_mem hj),.inl rfl,fun H3 f3 t3 rs3=>?_⟩
  have ep3:=f3 _ _ (rs.neL ep (by intro kv z;cases z)) ep
  refine hZ _ _ ep3 ⟨fr_updL (fr.trans f3) hp3,(tk.trans t3).trans (Tups.upd fun xs z=>by rw [ep3] at z;cases z),by rw [layAll_take hj];exact rs3.updL ep3,upd_same,by rw [take_map hj,ea],hj⟩
 rintro acc H5 ⟨fr5,tk5,rs5,ep5,ea,_⟩
 rw [hxl,←hLl,List.take_length] at ea rs5
 rw [eL] at rs5
 have s15:Same H H5:=fr5.same s14 hdl0
 refine ⟨_,rfl,szl (show 1≤1000 by decide),fun p4 hp4=>?_⟩
 have s6:Same H5 (upd H5 p4 (.lst [w1])):=same_new (Same.refl H5) hp4
 have e6:upd H5 p4 (.lst [w1]) p4=some (.lst [w1]):=upd_same
 generalize upd H5 p4 (.lst [w1])=H6 at s6 e6
 refine ⟨_,rfl,p4,bp,[w1],bvs,rfl,rfl,e6,(s15.trans s6) _ _ eb,szl (show 1+bvs.length≤1000 by omega),fun p5 hp5=>?_⟩
 have s7:Same H5 (upd H6 p5 (.lst ([w1]++bvs))):=same_new s6 hp5
 have e7:upd H6 p5 (.lst ([w1]++bvs)) p5=some (.lst ([w1]++bvs)):=upd_same
 generalize upd H6 p5 (.lst ([w1]++bvs))=H7 at s7 e7
 refine ⟨p5,rfl,⟨_,SqL.of e7⟩,fun p6 hp6=>?_⟩
 have rL7:=rL.keep (Same.tups (s15.trans s7))
 refine comp_list (xs:=[w1]++bvs) (fun i acc H'=>Same H7 H'∧H' p6=some (.lst acc)∧acc=((one::bts).take i).map (fun t=>V.int (sealT t))∧i≤(one::bts).length)
  ⟨same_new (Same.refl H7) hp6,upd_same,rfl,Nat.zero_le _⟩ ?_ (by omega) ?_ ?_
 ·rintro i acc H' ⟨sm,ep,ea,hi⟩
  exact ⟨sm _ _ e7,by rw [ea,List.length_map,List.length_take];omega⟩
 ·rintro i acc H' x hx ⟨sm,ep,ea,_⟩ Z hZ
  have hj:i < (one::bts).length:=by rw [hLl,←hxl];exact (List.getElem?_eq_some_iff.mp hx).1
  have rx:=(rL7.at i x _ hx (List.getElem?_eq_getElem hj)).keep (Same.tups sm)
  have gx:=hgL _ (List.getElem_mem hj)
  have gx1:=gx.dp
  have gx2:=gx.nd
  refine ⟨_,rfl,(one::bts)[i],x,rfl,rx,gx.wf,by omega,by omega,fun H3 s3=>?_⟩
  exact hZ _ _ (s3 _ _ ep) ⟨same_upd (sm.trans s3) hp6,upd_same,by rw [take_map hj,ea],hj⟩
 rintro acc2 H8 ⟨s8,ep8,ea2,_⟩
 rw [hxl,←hLl,List.take_length] at ea2
 subst ea ea2
 have s58:Same H5 H8:=s7.trans s8
 refine ⟨p3,p6,_,rfl,rfl,SqL.of (s58 _ _ ep5),SqL.of ep8,flat_ints _,_,rfl,ifF rfl ?_⟩
 have s18:Same H H8:=s15.trans s58
 have rs8:=rs5.same s58
 clear s58 s7 s8 s15 s6 e6 e7 rL7 ep5 ep8 rs5 fr5 tk5 rs4 rL4 s14 e4 hp4 hp5 hp6 hp3 hp1 hp2
 have tk8:=Same.tups s18
 refine ⟨_,rfl,_,rfl,_,rfl,.r,ar,w1,v,other,one,rfl,⟨dl,a1,dn,d1,_,_,_,rs8,by omega,.inl h2⟩,r1.keep tk8,r2.keep tk8,pr.g2.good,pr.g1.good,pr.ne,fun H9 s9=>⟨_,rfl,ifF rfl ?_⟩⟩
 have rs9:=rs8.same s9
 obtain ⟨dx,fs,eo,fl⟩:=rs9.obj
 refine ⟨_,rfl,ar,dx,fs,rfl,eo,fl.n5,ar,dl,a1,dn,d1,_,_,_,rfl,rs9,by decide,fun l ns xs H10 s10 hl hp hs el rl=>?_⟩
 have xn:xs=[]:=List.eq_nil_of_length_eq_zero (risen_len rl hp)
 subst xn
 refine ⟨szl (show 0≤1000 by decide),fun pe hpe=>?_⟩
 have s11:Same H10 (upd H10 pe (.lst [])):=same_new (Same.refl H10) hpe
 have e11:upd H10 pe (.lst []) pe=some (.lst []):=upd_same
 generalize upd H10 pe (.lst [])=H11 at s11 e11
 refine ⟨l,pe,[],rfl,rfl,SqL.of (s11 _ _ el),SqL.of e11,_,rfl,ifF rfl ?_⟩
 have rs11:=rs9.same (s10.trans s11)
 obtain ⟨kv,vo,dr⟩:=rs11.kv.vo
 obtain ⟨dx,fs,eo,fl⟩:=rs11.kv.obj
 refine ⟨_,rfl,a1,dx,fs,rfl,eo,fl.n4,a1,_,kv,_,rfl,vo,dr,by decide,fun l2 ns2 xs2 H12 s12 hl2 hp2 hs2 el2 rl2=>?_⟩
 have xn2:xs2=[]:=List.eq_nil_of_length_eq_zero (risen_len rl2 hp2)
 subst xn2
 refine ⟨szl (show 0≤1000 by decide),fun pe2 hpe2=>?_⟩
 have s13:Same H12 (upd H12 pe2 (.lst [])):=same_new (Same.refl H12) hpe2
 have e13:upd H12 pe2 (.lst []) pe2=some (.lst []):=upd_same
 generalize upd H12 pe2 (.lst [])=H13 at s13 e13
 refine ⟨l2,pe2,[],rfl,rfl,SqL.of (s13 _ _ el2),SqL.of e13,_,rfl,ifF rfl ?_⟩
 have rs13:=rs11.same (s12.trans s13)
 have s113:Same H H13:=s18.trans (s9.trans (s10.trans (s11.trans (s12.trans s13))))
 clear s18 rs8 tk8 s9 rs9 s10 s11 e11 rs11 kv vo dr s12 s13 e13 el el2 rl rl2 hpe hpe2
 obtain ⟨dx,fs,eo,fl⟩:=rs13.obj
 have tk13:=Same.tups s113
 refine ⟨_,rfl,ar,dx,fs,rfl,eo,fl.n3,_,rfl,one,w1,rfl,r1.keep tk13,pr.g1.wf,by omega,by omega,fun H14 s14=>?_⟩
 have rs14:=rs13.same s14
 have s114:=s113.trans s14
 refine ⟨ar,dl,a1,dn,d1,_,_,_,_,one,rfl,rs14,by decide,.inl ⟨h1,fun v' rv'=>?_⟩⟩
 refine ⟨_,rfl,one,one,v',w1,rfl,rv',r1.keep (Same.tups s114),by omega,by omega,by omega,fun H15 s15=>⟨_,rfl,ifF (by rw [eqT_refl];rfl) ?_⟩⟩
 have vk:=(rs14.same s15).kv
 have s115:=s114.trans s15
 clear s113 rs13 tk13 s14 rs14 s114 s15
 obtain ⟨dx,fs,eo,fl⟩:=vk.obj
 refine ⟨_,rfl,a1,dx,fs,rfl,eo,fl.n2,_,rfl,a1,d1,w1,one,[],rfl,vk,by decide,r1.keep (Same.tups s115),pr.g1.good,.inl rfl,fun H16 f16 v16=>?_⟩
 have s116:=f16.same s115 hd1
 refine ⟨_,rfl,one,w1,rfl,r1.keep (Same.tups s116),pr.g1.wf,by omega,by omega,fun H17 s17=>⟨rfl,_,rfl,ifF (by simp) ?_⟩⟩
 have v17:VS H17 CK a1 d1 (layAll [] ((one::bts).take 1)):=v16.same s17
 have s117:=s116.trans s17
 clear vk s115 f16 v16 s116 s17
 refine ⟨_,rfl,bp,rfl,⟨_,SqL.of (s117 _ _ eb)⟩,?_⟩
 refine for_list (xs:=bvs) (fun i σ H'=>∃(k5:Option V),σ=[some w1,some v,some (.ref bp),some (.ref a1),some (.ref ar),k5,none]∧Same H H'∧VS H' CK a1 d1 (layAll [] ((one::bts).take (i+1)))) ⟨_,rfl,s117,v17⟩ ?_ ?_ ?_
 ·rintro i σ H' _ ⟨k5,rfl,sm,_⟩
  exact SqL.of (sm _ _ eb)
 ·rintro i x σ H' hx ⟨k5,rfl,sm,vv⟩
  have hj:i < bts.length:=by rw [←hbl];exact (List.getElem?_eq_some_iff.mp hx).1
  have hj':i+1 < (one::bts).length:=by omega
  have rx:=(rb.at i x _ hx (List.getElem?_eq_getElem hj)).keep (Same.tups sm)
  have gx:=hg _ (List.getElem_mem hj)
  have ln:=layAll_len [] (one::bts) (i+1) (by omega)
  have l0:([]:List (Int ×Th)).length=0:=rfl
  obtain ⟨dx,fs,eo,fl⟩:=vv.obj
  have ei:(one::bts)[i+1]=bts[i]:=rfl
  have ft:=(layAll_sub (SubL.nil (one::bts)) (i+1) (by omega)).fits nt (List.getElem_mem hj')
  rw [ei] at ft
  refine ⟨_,rfl,a1,dx,fs,rfl,eo,fl.n2,_,rfl,a1,d1,x,bts[i],_,rfl,vv,by omega,rx,gx.good,ft,fun H3 f3 v3=>?_⟩
  exact ⟨_,rfl,f3.same sm hd1,by rw [layAll_take hj',ei];exact v3⟩
 rintro σ H18 ⟨k5,rfl,s118,v18⟩
 rw [hbl,←hLl,List.take_length,eL] at v18
 clear v17 s117
 refine ⟨_,rfl,fun ar2 dxr2 har2 hxr2 nr2=>new_rs har2 hxr2 nr2 v18 fun dl2 dn2 H19 s19 hdl2 hdn2 rs=>?_⟩
 have s119:=s118.trans s19
 have hdl0:=s118.free hdl2
 have hdn0:=s118.free hdn2
 have ntB:=nt.sub sb
 have l0:([]:List (Int ×Th)).length=0:=rfl
 clear v18 s118 s19
 refine ⟨_,rfl,bp,rfl,⟨_,SqL.of (s119 _ _ eb)⟩,fun p7 hp7=>?_⟩
 have hp70:=s119.free hp7
 refine comp_list (xs:=bvs) (fun i acc H'=>Same H H'∧RS H' CR CK ar2 dl2 a1 dn2 d1 [] (layAll [] (bts.take i)) (laidAll (one::bts))∧H' p7=some (.lst acc)∧acc.length=i)
  ⟨same_upd s119 hp70,rs.same (same_new (Same.refl H19) hp7),upd_same,rfl⟩ ?_ (by omega) ?_ ?_
 ·rintro i acc H' ⟨sm,rs,ep,la⟩
  exact ⟨sm _ _ eb,la⟩
 ·rintro i acc H' x hx ⟨sm,rs,ep,la⟩ Z hZ
  have hj:i < bts.length:=by rw [←hbl];exact (List.getElem?_eq_some_iff.mp hx).1
  have rx:=(rb.at i x _ hx (List.getElem?_eq_getElem hj)).keep (Same.tups sm)
  have gx:=hg _ (List.getElem_mem hj)
  have gx1:=gx.dp
  have gx2:=gx.nd
  have ln:=layAll_len [] bts i (by omega)
  obtain ⟨dx,fs,eo,fl⟩:=rs.obj
  refine ⟨_,rfl,ar2,dx,fs,rfl,eo,fl.n3,_,rfl,bts[i],x,rfl,rx,gx.wf,by omega,by omega,fun H3 s3=>?_⟩
  have rs3:=rs.same s3
  refine ⟨ar2,dl2,a1,dn2,d1,[],_,_,_,bts[i],rfl,rs3,by omega,.inr ⟨rfl,heldL _ (sb _ (List.getElem_mem hj)),(layAll_sub (SubL.nil bts) i (by omega)).fits ntB (List.getElem_mem hj),fun H4 v4 f4 t4 rs4 rv4=>?_⟩⟩
  have ep4:=f4 _ _ (rs3.neN (s3 _ _ ep) (by intro kv z;cases z)) (s3 _ _ ep)
  exact hZ _ _ ep4 ⟨same_upd (f4.same (sm.trans s3) hdn0) hp70,by rw [layAll_take hj];exact rs4.updL ep4,upd_same,by rw [List.length_append,la];rfl⟩
 rintro acc H20 ⟨s120,rs20,ep20,la⟩
 rw [hbl,List.take_length,show layAll [] bts=laidAll bts from rfl] at rs20
 rw [hbl] at la
 clear rs s119 hp7
 have tk20:=Same.tups s120
 refine ⟨_,rfl,_,rfl,_,rfl,.r,ar2,w1,v,other,one,rfl,⟨dl2,a1,dn2,d1,_,_,_,rs20,by decide,.inr ⟨rfl,h2⟩⟩,r1.keep tk20,r2.keep tk20,pr.g2.good,pr.g1.good,pr.ne,fun H21 s21=>⟨_,rfl,ifF rfl ?_⟩⟩
 have rs21:=rs20.same s21
 obtain ⟨dx,fs,eo,fl⟩:=rs21.obj
 refine ⟨_,rfl,ar2,dx,fs,rfl,eo,fl.n5,ar2,dl2,a1,dn2,d1,_,_,_,rfl,rs21,by omega,fun l ns xs H22 s22 hl hp hs el rl=>?_⟩
 have hxs:xs.length=acc.length:=by rw [risen_len rl hp,llB,la]
 have ep22:=s22 _ _ (s21 _ _ ep20)
 refine ⟨l,xs,rfl,.inl (SqL.of el),_,rfl,p7,acc,rfl,.inl (SqL.of ep22),rfl,_,rfl,ifF (by rw [hxs];simp) ?_⟩
 have rs22:=rs21.same s22
 have s122:=s120.trans (s21.trans s22)
 clear rs20 ep20 tk20 s120 s21 rs21 el rl hxs s22
 obtain ⟨dx,fs,eo,fl⟩:=rs22.obj
 refine ⟨_,rfl,ar2,dx,fs,rfl,eo,fl.n2,_,rfl,ar2,dl2,a1,dn2,d1,[],_,_,one,w1,rfl,rs22,by decide,r1.keep (Same.tups s122),pr.g1.good,.inl rfl,.inr h1,fun H23 f23 t23 rs23=>?_⟩
 have ep23:=f23 _ _ (rs22.neL ep22 (by intro kv z;cases z)) ep22
 have s123:=f23.same s122 hdl0
 refine ⟨_,rfl,one,w1,rfl,r1.keep (Same.tups s123),pr.g1.wf,by omega,by omega,fun H24 s24=>⟨rfl,_,rfl,ifF (by simp) ?_⟩⟩
 have rs24:=rs23.same s24
 have s124:=s123.trans s24
 have ep24:=s24 _ _ ep23
 clear rs22 s122 ep22 f23 t23 rs23 ep23 s123 s24
 obtain ⟨dx,fs,eo,fl⟩:=rs24.obj
 have lo:lookT (addT [] (sealT one) one) (sealT other)=some one:=by rw [←pr.se];exact lookT_added (.inl rfl)
 refine ⟨_,rfl,ar2,dx,fs,rfl,eo,fl.n3,_,rfl,other,v,rfl,r2.keep (Same.tups s124),pr.g2.wf,by omega,by omega,fun H25 s25=>?_⟩
 have rs25:=rs24.same s25
 have s125:=s124.trans s25
 refine ⟨ar2,dl2,a1,dn2,d1,_,_,_,_,one,rfl,rs25,by omega,.inl ⟨lo,fun v' rv'=>?_⟩⟩
 refine ⟨_,rfl,one,one,v',w1,rfl,rv',r1.keep (Same.tups s125),by omega,by omega,by omega,fun H26 s26=>⟨_,rfl,ifF (by rw [eqT_refl];rfl) ?_⟩⟩
 have rs26:=rs25.same s26
 have s126:=s125.trans s26
 have ep26:=s26 _ _ (s25 _ _ ep24)
 clear rs24 s124 ep24 rs25 s125 s25 s26
 obtain ⟨dx,fs,eo,fl⟩:=rs26.obj
 refine ⟨_,rfl,ar2,dx,fs,rfl,eo,fl.n5,ar2,dl2,a1,dn2,d1,_,_,_,rfl,rs26,by omega,fun l3 ns3 xs3 H27 s27 hl3' hp3 hs3 el3 rl3=>?_⟩
 have hxs:xs3.length=acc.length:=by rw [risen_len rl3 hp3,llB,la]
 have ep27:=s27 _ _ ep26
 refine ⟨l3,xs3,rfl,.inl (SqL.of el3),_,rfl,p7,acc,rfl,.inl (SqL.of ep27),rfl,_,rfl,ifF (by rw [hxs];simp) ?_⟩
 have vk:=(rs26.same s27).kv
 have s127:=s126.trans s27
 obtain ⟨dx,fs,eo,fl⟩:=vk.obj
 obtain ⟨kv,vo,dr⟩:=vk.vo
 refine ⟨_,rfl,a1,dx,fs,rfl,eo,fl.n4,a1,_,kv,_,rfl,vo,dr,by omega,fun l4 ns4 xs4 H28 s28 hl4 hp4 hs4 el4 rl4=>?_⟩
 have hx4:xs4.length=bts.length+1:=by rw [risen_len rl4 hp4,llL];rfl
 refine ⟨l4,xs4,rfl,.inl (SqL.of el4),_,rfl,bp,bvs,rfl,.inl (SqL.of (s28 _ _ (s127 _ _ eb))),_,_,rfl,rfl,rfl,?_⟩
 have e:decide (V.int (xs4.length:Int)=V.int (1+(bvs.length:Int)))=true:=decide_eq_true (by rw [hx4,hbl];congr 1;omega)
 rw [e]
 exact q _ (s127.trans s28)
end
end Pv
namespace L2
open PySem PySem.Spec PyProof.Rows
private theorem SqL.keepS {K:PySem.W.Frag}{H H':Hp}{a:Addr}{xs:List V}(h:SqL K H a xs)(s:Same H H'):SqL K H' a xs:=by
 rcases h with h | h
 ·rcases h with h | ⟨o,h⟩
  ·exact .inl (.inl (s _ _ h))
  ·exact .inl (.inr ⟨o,s _ _ h⟩)
 ·exact .inr h
end L2
namespace Pv
open PySem L2
abbrev slaw:Stmt:=top 50
private theorem sclaw:FnScope ["script","cell","row","one","other","between","more","paper","handed"] ["script"] (defScope slaw):=L2.fsc (by decide+kernel)
def spLaw (K:PySem.W.Frag):Sp:=fun vs H Q _=>∃(a:Addr) (ns:List Int),vs=[.ref a]∧SqL K H a (ns.map V.int)∧ns.length≤63∧∀H',Q (.bl true) H'
def bT (k:Nat):Th:=.tup [.str (Str.ofString "b"),.int (k:Int)]
def nT (k:Nat):Th:=.int (k:Int)
private theorem six:Apart ((List.range 3).map nT++(List.range 3).map bT):=by unfold Apart;decide+kernel
private theorem g_bT (k:Nat)(h:k < 3):G5 (bT k):=⟨⟨show (2:Nat)≤40 by decide,⟨by decide+kernel,by decide+kernel⟩,⟨by omega,by omega⟩,trivial⟩,show (1:Nat)≤5 by decide,show (3:Nat)≤80 by decide⟩
private theorem g_nT (k:Nat)(h:k < 3):G5 (nT k):=⟨⟨by omega,by omega⟩,Nat.zero_le _,show (1:Nat)≤80 by decide⟩
private theorem pick_sub {m:Nat}(hm:m≤3)(f:Nat→Bool)(g:Nat→Th):(((List.range m).filter f).map g).Sublist ((List.range 3).map g):=
 (List.Sublist.map g (List.filter_sublist.trans (List.range_sublist.mpr hm)))
private theorem pick_mem {m:Nat}{f:Nat→Bool}{g:Nat→Th}{t:Th}(h:t∈((List.range m).filter f).map g):∃k,k < m∧f k=true∧t=g k:=by
 obtain ⟨k,hk,rfl⟩:=List.mem_map.mp h
 obtain ⟨h1,h2⟩:=List.mem_filter.mp hk
 exact ⟨k,List.mem_range.mp h1,h2,rfl⟩
def otherB (one:Th)(g:Nat→Th)(k:Nat):Bool:= !decide (V.int (sealT (g k))=V.int (sealT one))
private theorem otherB_ne {one:Th}{g:Nat→Th}{k:Nat}(h:otherB one g k=true):sealT (g k)≠sealT one:=fun z=>by
 unfold otherB at h
 rw [z] at h
 simp at h
private theorem comp_pick {p:Addr}{σ:L2.St}{js:List Nat}{tt:TT}{te:TE}{Q:VK}{H1:Hp}{m:Nat}(f:Nat→Bool)(g:Nat→Th)(hm:m≤3)(hp:H1 p=none)
  (ht:∀(i:Nat) (H':Hp) (Z:Bool→Hp→Prop),i < m→Same H1 H'→(∀H'',Same H' H''→Z (f i) H'')→tt (some (.int (0+(i:Int)))::frees σ js) H' Z)
  (he:∀(i:Nat) (H':Hp) (Z:VK),i < m→Same H1 H'→(∀(v:V) (H'':Hp),Same H' H''→Rep H'' (g i) v→Z v H'')→te (some (.int (0+(i:Int)))::frees σ js) H' Z)
  (q:∀acc H',Same H1 H'→RepL H' (((List.range m).filter f).map g) acc→H' p=some (.lst acc)→Q (.ref p) H'):CompW (Itr 0 m) p σ js tt te H1 Q:=by
 refine comp_it (J:=Itr 0 m) (n:=m) (fun i acc H'=>Same H1 H'∧RepL H' (((List.range i).filter f).map g) acc∧H' p=some (.lst acc)∧acc.length≤i) ⟨same_new (Same.refl H1) hp,.nil,upd_same,Nat.le_refl _⟩ (by exact fun i acc H' hi _=>hi) (by exact fun acc H' _=>Nat.le_refl _) ?_ ?_
 ·rintro i acc H' y H'' hi ⟨sm,ra,ep,la⟩ ⟨e1,e2⟩
  subst e1 e2
  refine ht i _ _ hi sm fun H2 s2=>?_
  have er:(((List.range (i+1)).filter f).map g)=(((List.range i).filter f).map g)++(if f i=true then [g i] else []):=by
   rw [List.range_succ,List.filter_append,List.map_append]
   congr 1
   by_cases c:f i=true
   ·rw [if_pos c,List.filter_cons_of_pos c];rfl
   ·rw [if_neg c,List.filter_cons_of_neg c];rfl
  by_cases c:f i=true
  ·rw [if_pos c]
   refine he i _ _ hi (sm.trans s2) fun v H3 s3 rv=>?_
   have ep3:=s3 _ _ (s2 _ _ ep)
   have tk:Tups H3 (upd H3 p (.lst (acc++ [v]))):=Tups.upd fun xs z=>by rw [ep3] at z;cases z
   refine ⟨ep3,Nat.lt_of_lt_of_le (show acc.length < 1000 by omega) (szl (Nat.le_refl _)),nxt hi ⟨same_upd (sm.trans (s2.trans s3)) hp,?_,upd_same,by rw [List.length_append,List.length_singleton];omega⟩⟩
   rw [er,if_pos c]
   exact ((ra.keep ((Same.tups s2).trans (Same.tups s3))).keep tk).app (.cons (rv.keep tk) .nil)
  ·rw [if_neg c]
   refine nxt hi ⟨sm.trans s2,?_,s2 _ _ ep,by omega⟩
   rw [er,if_neg c,List.append_nil]
   exact ra.keep (Same.tups s2)
 ·rintro acc H' ⟨sm,ra,ep,la⟩
  exact q acc H' sm ra ep
private theorem cut_front (ns:List Int)(k:Int)(h:0≤k):∃ms:List Int,cutV (ns.map V.int) none (some k)=ms.map V.int∧(ms.length:Int)≤k∧ms.length≤ns.length:=by
 refine ⟨ns.take (min k.toNat ns.length),?_,?_,?_⟩
 ·have e:k=((k.toNat:Nat):Int):=by omega
  unfold cutV
  rw [HT.sIx_none,e,HT.sIx_nat,List.length_map,List.map_take]
  rfl
 ·rw [List.length_take];omega
 ·rw [List.length_take];omega
private theorem frm_same {row:Addr}{H0 Ha Hb:Hp}(f:Frm [row] Ha Hb)(s:Same H0 Ha)(n:H0 row=none):Same H0 Hb:=fun b o e=>f b o (not1 (ne_of_none e n)) (s b o e)
section
variable {P:Program}{w:World}{K:PySem.W.Frag}{mg:Str→Option Value}{base:Heap}
private theorem ok_law {f:Addr}{fd:FuncData}(F:Fun K "law" "law" slaw f fd) (F_law_row:Fn P w K mg base "_law_row" 1 ["cell"] spRow) (F_law_take:Fn P w K mg base "_law_take" 1 ["row","many"] spTake) (F_law_unlike:Fn P w K mg base "_law_unlike" 21 ["row"] spUnl) (F_seal:Fn P w K mg base "seal" 13 ["thing"] spSeal)
  (F_law_of_vaults:Fn P w K mg base "_law_of_vaults" 29 ["one","other","between"] spOfV) (F_law_of_readers:Fn P w K mg base "_law_of_readers" 29 ["one","other","between"] spOfV) (F_law_no_witness:Fn P w K mg base "_law_no_witness" 28 ["paper","one","other"] spNoWit) (m_range:mg "range" =none) (m_list:mg "list" =none):FnOk P w K mg base CX0 65 f fd ["script"] (spLaw K):=by
 refine F.ok (k:=64) sclaw (fun vs H Q E h=>?_) (fun cdv A outer s H vs Q E hr h=>?_)
 ·obtain ⟨a,ns,rfl,_⟩:=h;rfl
 obtain ⟨a,ns,rfl,hS,h63,q⟩:=h
 refine ⟨_,(pss_cons (ps_for PassesOwn.never rfl (pi_list (pe_op op_cat (pe_lst (pa_cons pe_int pa_nil)) (pe_slice sl_list (pv 0) po_none (po_some pe_int)))) (pg_name (i:=1) sclaw.nd rfl (Or.inl rfl))
 (pss_cons (ps_set (i:=2) sclaw.nd rfl (Or.inl rfl) (pe_fn F_law_row hr (by omega) (by rfl) (pa_cons (pv 1) pa_nil)))
 (pss_cons (ps_asg (pe_fn F_law_unlike hr (by omega) (by rfl) (pa_cons (pv 2) pa_nil)) (pg_tupH rfl (pgs_cons (pg_name (i:=3) sclaw.nd rfl (Or.inr rfl)) (pgs_cons (pg_name (i:=4) sclaw.nd rfl (Or.inl rfl)) pgs_nil))))
 (pss_cons (ps_if (PW.pt (pw_or (pt_cmpR op_ne (pe_fn F_seal hr (by omega) (by rfl) (pa_cons (pv 3) pa_nil)) (pe_fn F_seal hr (by omega) (by rfl) (pa_cons (pv 4) pa_nil)) (nomark _)) (pw_or1 (pt_cmpR (op_eqTh hr) (pv 3) (pv 4) (nomark _)))))
 (pss_one (ps_ret pe_bl))
 pss_nil)
 (pss_cons (ps_lcomp (i:=5) (CompScope.one (y:= "one") (j:=3) (c:=s.heap.objs.size+1) (by rfl) (by rfl) (by decide+kernel) (by decide+kernel) (by rfl) (by decide+kernel) (by rfl) (by decide+kernel) (by rfl) (by first | exact Or.inl rfl | exact Or.inr rfl) (by first | exact Or.inl rfl | exact Or.inr rfl)) rfl (pi_range1 rfl m_range (pa_cons (pe_fn F_law_take hr (by omega) (by rfl) (pa_cons (pv 2) (pa_cons pe_int pa_nil))) pa_nil)) (fun _ _ _=>pts_one (pt_cmpR op_ne (pe_fn F_seal hr (by omega) (by rfl) (pa_cons (pe_tup (pa_cons pe_str (pa_cons (pv 0) pa_nil))) pa_nil)) (pe_fn F_seal hr (by omega) (by rfl) (pa_cons (pv 1) pa_nil)) (nomark _))) (fun _ _ _=>(pe_tup (pa_cons pe_str (pa_cons (pv 0) pa_nil)))) sclaw.nd rfl (Or.inl rfl) (by rfl))
 (pss_cons (ps_if (PW.pt (pw_or (pt_not (pt_val (pe_fn F_law_of_vaults hr (by omega) (by rfl) (pa_cons (pv 3) (pa_cons (pv 4) (pa_cons (pv 5) pa_nil)))))) (pw_or1 (pt_not (pt_val (pe_fn F_law_of_readers hr (by omega) (by rfl) (pa_cons (pv 3) (pa_cons (pv 4) (pa_cons (pv 5) pa_nil)))))))))
 (pss_one (ps_ret pe_bl))
 pss_nil)
 (pss_cons (ps_lcomp (i:=6) (CompScope.one (y:= "one") (j:=3) (c:=s.heap.objs.size+1) (by rfl) (by rfl) (by decide+kernel) (by decide+kernel) (by rfl) (by decide+kernel) (by rfl) (by decide+kernel) (by rfl) (by first | exact Or.inl rfl | exact Or.inr rfl) (by first | exact Or.inl rfl | exact Or.inr rfl)) rfl (pi_range1 rfl m_range (pa_cons (pe_fn F_law_take hr (by omega) (by rfl) (pa_cons (pv 2) (pa_cons pe_int pa_nil))) pa_nil)) (fun _ _ _=>pts_one (pt_cmpR op_ne (pe_fn F_seal hr (by omega) (by rfl) (pa_cons (pv 0) pa_nil)) (pe_fn F_seal hr (by omega) (by rfl) (pa_cons (pv 1) pa_nil)) (nomark _))) (fun _ _ _=>(pv 0)) sclaw.nd rfl (Or.inl rfl) (by rfl))
 (pss_cons (ps_set (i:=7) sclaw.nd rfl (Or.inl rfl) (pe_op op_cat (pe_op op_cat (pe_op op_cat (pe_op op_cat (pe_op op_cat (pv 6) (pe_lst (pa_cons (pv 3) pa_nil))) (pv 5)) (pv 6)) (pe_lst (pa_cons (pv 4) (pa_cons (pv 3) pa_nil)))) (pv 6)))
 (pss_cons (ps_set (i:=8) sclaw.nd rfl (Or.inl rfl) (pe_callTy call_list_of (by rfl) m_list (by rfl) (pa_cons (pv 7) pa_nil)))
 (pss_one (ps_if (PW.pt (pw_or (pt_not (pt_val (pe_fn F_law_no_witness hr (by omega) (by rfl) (pa_cons (pv 8) (pa_cons (pv 3) (pa_cons (pv 4) pa_nil)))))) (pw_or1 (pt_cmpR (op_neLs hr) (pv 8) (pv 7) (nomark _)))))
 (pss_one (ps_ret pe_bl))
 pss_nil)))))))))))
 (pss_one (ps_ret pe_bl))),?_⟩
 obtain ⟨ms,ems,hms,hms2⟩:=cut_front ns 63 (by decide)
 refine ⟨szl (show 1≤1000 by decide),fun p1 hp1=>?_⟩
 have s1:Same H (upd H p1 (.lst [.int 0])):=same_new (Same.refl H) hp1
 have e1:upd H p1 (.lst [.int 0]) p1=some (.lst [.int 0]):=upd_same
 generalize upd H p1 (.lst [.int 0])=H1 at s1 e1
 refine ⟨_,rfl,_,rfl,a,_,rfl,SqL.keepS hS s1,fun pc hpc=>?_⟩
 have s2:Same H1 (upd H1 pc (.lst (cutV (ns.map V.int) none (some 63)))):=same_new (Same.refl H1) hpc
 have e2:upd H1 pc (.lst (cutV (ns.map V.int) none (some 63))) pc=some (.lst (ms.map V.int)):=by rw [ems];exact upd_same
 generalize upd H1 pc (.lst (cutV (ns.map V.int) none (some 63)))=H2 at s2 e2
 have lm:(ms.map V.int).length=ms.length:=List.length_map ..
 refine ⟨p1,pc,_,_,rfl,rfl,s2 _ _ e1,e2,szl (show 1+(ms.map V.int).length≤1000 by omega),fun p2 hp2=>?_⟩
 have e3:upd H2 p2 (.lst ([.int 0]++ms.map V.int)) p2=some (.lst ([.int 0]++ms.map V.int)):=upd_same
 generalize upd H2 p2 (.lst ([.int 0]++ms.map V.int))=H3 at e3
 refine ⟨p2,rfl,⟨_,SqL.of e3⟩,?_⟩
 clear e1 e2 s1 s2 hp1 hp2 hpc hS
 refine for_list (xs:=[.int 0]++ms.map V.int) (fun i σ H'=>∃(k1 k2 k3 k4 k5 k6 k7 k8:Option V),σ=[some (.ref a),k1,k2,k3,k4,k5,k6,k7,k8]∧H' p2=some (.lst ([.int 0]++ms.map V.int))) ⟨_,_,_,_,_,_,_,_,rfl,e3⟩ ?_ ?_ ?_
 ·rintro i σ H' _ ⟨k1,k2,k3,k4,k5,k6,k7,k8,rfl,ep⟩
  exact SqL.of ep
 ·rintro i y σ H0 hy ⟨k1,k2,k3,k4,k5,k6,k7,k8,rfl,ep⟩
  obtain ⟨c,rfl⟩:∃c:Int,y=.int c:=by
   rcases List.mem_append.mp (List.mem_of_getElem? hy) with h | h
   ·exact ⟨0,List.mem_singleton.mp h⟩
   ·obtain ⟨c,_,rfl⟩:=List.mem_map.mp h
    exact ⟨c,rfl⟩
  refine ⟨_,rfl,c,rfl,fun r H1 s1 R1 hr1=>?_⟩
  refine ⟨_,rfl,r,rfl,R1,fun one other w1 v pt H2 pr ro ru ept f2 R2=>?_⟩
  have s2:=frm_same f2 s1 hr1
  have g1:=pr.g1.dp
  have g2:=pr.g2.dp
  have g3:=pr.g1.nd
  have g4:=pr.g2.nd
  refine ⟨pt,_,rfl,SqT.of ept,rfl,_,_,rfl,_,_,rfl,rfl,?_⟩
  refine ⟨_,rfl,one,w1,rfl,ro,pr.g1.wf,by omega,by omega,fun H3 s3=>?_⟩
  refine ⟨_,rfl,other,v,rfl,ru.keep (Same.tups s3),pr.g2.wf,by omega,by omega,fun H4 s4=>⟨rfl,_,rfl,ifF (by rw [pr.se];simp) ?_⟩⟩
  have s24:=s3.trans s4
  have ro4:=ro.keep (Same.tups s24)
  have ru4:=ru.keep (Same.tups s24)
  refine ⟨_,rfl,_,rfl,one,other,ro4,ru4,by omega,_,rfl,ifF (eqT_ne pr.ne) ?_⟩
  have R4:=R2.keep s24
  have s04:=s2.trans s24
  clear s24 R2 s2 ept ro ru s3 s4 f2 R1 s1
  refine ⟨_,rfl,r,_,rfl,R4,(show (0:Int) < 4 by decide),(by decide+kernel),fun m H5 m0 m1 f5 R5=>?_⟩
  have s05:=frm_same f5 s04 hr1
  have tk5:=Frm.tups f5 R4.noT
  have ro5:=ro4.keep tk5
  have ru5:=ru4.keep tk5
  refine ⟨_,rfl,by omega,by omega,fun pb hpb=>comp_pick (m:=m.toNat) (otherB one bT) bT (by omega) hpb ?_ ?_ ?_⟩
  ·intro i H' Z hi sm z
   have gb:=g_bT i (by omega)
   rw [show (0:Int)+(i:Int)=i from Int.zero_add _]
   refine ⟨_,rfl,szl (show 2≤1000 by decide),fun pq hpq=>?_⟩
   have sq:=same_new (o:=.tup [.str (Str.ofString "b"),.int (i:Int)]) (Same.refl H') hpq
   refine ⟨bT i,.ref pq,rfl,(RepL.cons (.str _) (.cons (.int _) .nil)).tupA upd_same,gb.wf,show (1:Nat) < 10 by decide,show (3:Nat)≤100 by decide,fun Ha sa=>?_⟩
   refine ⟨_,rfl,one,w1,rfl,ro5.keep (Same.tups (sm.trans (sq.trans sa))),pr.g1.wf,by omega,by omega,fun Hb sb=>⟨rfl,_,rfl,?_⟩⟩
   exact z Hb (sq.trans (sa.trans sb))
  ·intro i H' Z hi sm z
   rw [show (0:Int)+(i:Int)=i from Int.zero_add _]
   refine ⟨_,rfl,szl (show 2≤1000 by decide),fun pq hpq=>?_⟩
   exact z _ _ (same_new (Same.refl H') hpq) ((RepL.cons (.str _) (.cons (.int _) .nil)).tupA upd_same)
  intro bvs H6 s6 rb epb
  have s06:=s05.trans s6
  have hb3:m.toNat≤3:=by omega
  have sub1:=pick_sub hb3 (otherB one bT) bT
  have bg:∀t∈((List.range m.toNat).filter (otherB one bT)).map bT,G5 t:=fun t ht=>by
   obtain ⟨k,hk,_,rfl⟩:=pick_mem ht
   exact g_bT k (by omega)
  have bo:∀t∈((List.range m.toNat).filter (otherB one bT)).map bT,sealT t≠sealT one:=fun t ht=>by
   obtain ⟨k,hk,ho,rfl⟩:=pick_mem ht
   exact otherB_ne ho
  have bl:(((List.range m.toNat).filter (otherB one bT)).map bT).length≤3:=sub1.length_le
  generalize ((List.range m.toNat).filter (otherB one bT)).map bT=bts at rb sub1 bg bo bl
  have ro6:=ro5.keep (Same.tups s6)
  have ru6:=ru5.keep (Same.tups s6)
  have R6:=R5.keep s6
  have apB:Apart bts:=List.Pairwise.sublist sub1 (List.pairwise_append.mp six).2.1
  have ap:Apart (one::bts):=List.pairwise_cons.mpr ⟨fun t ht=>(bo t ht).symm,apB⟩
  refine ⟨_,rfl,_,rfl,_,rfl,w1,v,pb,bvs,one,other,bts,rfl,ro6,ru6,epb,rb,pr,bl,bg,ap,fun H7 s7=>⟨_,rfl,ifF rfl ?_⟩⟩
  have tk7:=Same.tups s7
  refine ⟨_,rfl,_,rfl,_,rfl,w1,v,pb,bvs,one,other,bts,rfl,ro6.keep tk7,ru6.keep tk7,s7 _ _ epb,rb.keep tk7,pr,bl,bg,ap,fun H8 s8=>⟨_,rfl,ifF rfl ?_⟩⟩
  have s68:=s7.trans s8
  have R8:=R6.keep s68
  have s08:=s06.trans s68
  refine ⟨_,rfl,r,_,rfl,R8,(show (0:Int) < 4 by decide),(by decide+kernel),fun n H9 n0 n1 f9 R9=>?_⟩
  have s09:=frm_same f9 s08 hr1
  have tk9:Tups H6 H9:=(Same.tups s68).trans (Frm.tups f9 R8.noT)
  have npr:pb≠r:=by
   obtain ⟨x,y,e,_⟩:=R8
   exact fun z=>by
    have e':=s68 _ _ epb
    rw [z,e] at e'
    cases e'
    have:=rb.len
    obtain ⟨_,ht1⟩:=(⟨bts,rfl⟩:∃z,z=bts)
    cases rb with
    | cons h r'=>
     rename_i t0 ts0
     obtain ⟨k,_,hk⟩:=List.mem_map.mp (sub1.subset List.mem_cons_self)
     rw [←hk] at h
     cases h
  have epb9:=f9.at (s68 _ _ epb) (not1 npr)
  have ro9:=ro6.keep tk9
  have ru9:=ru6.keep tk9
  have rb9:=rb.keep tk9
  clear s05 s06 s08 s68 s7 s8 R4 R5 R6 R8 f5 f9 ro4 ru4 ro5 ru5 ro6 ru6 tk5 tk7 rb epb
  refine ⟨_,rfl,by omega,by omega,fun pm hpm=>comp_pick (m:=n.toNat) (otherB one nT) nT (by omega) hpm ?_ ?_ ?_⟩
  ·intro i H' Z hi sm z
   have gb:=g_nT i (by omega)
   rw [show (0:Int)+(i:Int)=i from Int.zero_add _]
   refine ⟨_,rfl,nT i,.int (i:Int),rfl,.int _,gb.wf,show (0:Nat) < 10 by decide,show (1:Nat)≤100 by decide,fun Ha sa=>?_⟩
   refine ⟨_,rfl,one,w1,rfl,ro9.keep (Same.tups (sm.trans sa)),pr.g1.wf,by omega,by omega,fun Hb sb=>⟨rfl,_,rfl,?_⟩⟩
   exact z Hb (sa.trans sb)
  ·intro i H' Z hi sm z
   rw [show (0:Int)+(i:Int)=i from Int.zero_add _]
   exact ⟨_,rfl,z _ _ (Same.refl H') (.int _)⟩
  intro mvs H10 s10 rm epm
  have hm3:n.toNat≤3:=by omega
  have sub2:=pick_sub hm3 (otherB one nT) nT
  have mg':∀t∈((List.range n.toNat).filter (otherB one nT)).map nT,G5 t:=fun t ht=>by
   obtain ⟨k,hk,_,rfl⟩:=pick_mem ht
   exact g_nT k (by omega)
  have mo:∀t∈((List.range n.toNat).filter (otherB one nT)).map nT,sealT t≠sealT one:=fun t ht=>by
   obtain ⟨k,hk,ho,rfl⟩:=pick_mem ht
   exact otherB_ne ho
  have ml:(((List.range n.toNat).filter (otherB one nT)).map nT).length≤3:=sub2.length_le
  generalize ((List.range n.toNat).filter (otherB one nT)).map nT=mts at rm sub2 mg' mo ml
  have s010:=s09.trans s10
  have tk10:=Same.tups s10
  have ro10:=ro9.keep tk10
  have ru10:=ru9.keep tk10
  have rb10:=rb9.keep tk10
  have epb10:=s10 _ _ epb9
  have ep10:=s010 _ _ ep
  clear ro9 ru9 rb9 epb9 s09 s010 s04 ep
  have lm:=rm.len
  have lb:=rb10.len
  have ap2:Apart (mts++(one::bts)):=by
   have:=List.Pairwise.sublist (List.Sublist.append sub2 sub1) six
   obtain ⟨a1,a2,a3⟩:=List.pairwise_append.mp this
   refine List.pairwise_append.mpr ⟨a1,ap,fun t ht u hu=>?_⟩
   rcases List.mem_cons.mp hu with rfl | hu
   ·exact mo t ht
   ·exact a3 t ht u hu
  have nt:NoTwo (mts++ [one]++bts++mts):=(Apart.two ap2).sub fun t ht=>by
   simp only [List.mem_append,List.mem_cons,List.not_mem_nil,or_false] at ht ⊢
   rcases ht with ((h | h) | h) | h
   ·exact .inl h
   ·exact .inr (.inl h)
   ·exact .inr (.inr h)
   ·exact .inl h
  have gA:∀t∈mts++ [one]++bts++mts,G5 t:=fun t ht=>by
   simp only [List.mem_append,List.mem_cons,List.not_mem_nil,or_false] at ht
   rcases ht with ((h | h) | h) | h
   ·exact mg' t h
   ·rw [h];exact pr.g1
   ·exact bg t h
   ·exact mg' t h
  have hone:one∈mts++ [one]++bts++mts:=by simp
  refine ⟨_,rfl,_,rfl,szl (show 1≤1000 by decide),fun q1 hq1=>?_⟩
  have t1:Same H10 (upd H10 q1 (.lst [w1])):=same_new (Same.refl H10) hq1
  have c1:upd H10 q1 (.lst [w1]) q1=some (.lst [w1]):=upd_same
  generalize upd H10 q1 (.lst [w1])=Ha at t1 c1
  refine ⟨pm,q1,mvs,[w1],rfl,rfl,t1 _ _ epm,c1,szl (show mvs.length+1≤1000 by omega),fun q2 hq2=>?_⟩
  have t2:Same H10 (upd Ha q2 (.lst (mvs++ [w1]))):=same_new t1 hq2
  have c2:upd Ha q2 (.lst (mvs++ [w1])) q2=some (.lst (mvs++ [w1])):=upd_same
  generalize upd Ha q2 (.lst (mvs++ [w1]))=Hb at t2 c2
  refine ⟨_,rfl,q2,pb,mvs++ [w1],bvs,rfl,rfl,c2,t2 _ _ epb10,szl (show (mvs++ [w1]).length+bvs.length≤1000 by rw [List.length_append,List.length_singleton];omega),fun q3 hq3=>?_⟩
  have t3:Same H10 (upd Hb q3 (.lst (mvs++ [w1]++bvs))):=same_new t2 hq3
  have c3:upd Hb q3 (.lst (mvs++ [w1]++bvs)) q3=some (.lst (mvs++ [w1]++bvs)):=upd_same
  generalize upd Hb q3 (.lst (mvs++ [w1]++bvs))=Hc at t3 c3
  have l3:(mvs++ [w1]++bvs).length=mvs.length+1+bvs.length:=by rw [List.length_append,List.length_append,List.length_singleton]
  refine ⟨_,rfl,q3,pm,mvs++ [w1]++bvs,mvs,rfl,rfl,c3,t3 _ _ epm,szl (show (mvs++ [w1]++bvs).length+mvs.length≤1000 by omega),fun q4 hq4=>?_⟩
  have t4:Same H10 (upd Hc q4 (.lst (mvs++ [w1]++bvs++mvs))):=same_new t3 hq4
  have c4:upd Hc q4 (.lst (mvs++ [w1]++bvs++mvs)) q4=some (.lst (mvs++ [w1]++bvs++mvs)):=upd_same
  generalize upd Hc q4 (.lst (mvs++ [w1]++bvs++mvs))=Hd at t4 c4
  have l4:(mvs++ [w1]++bvs++mvs).length=mvs.length+1+bvs.length+mvs.length:=by rw [List.length_append,l3]
  have rA:RepL H10 (mts++ [one]++bts++mts) (mvs++ [w1]++bvs++mvs):=((rm.app (.cons ro10 .nil)).app rb10).app rm
  have lA:=rA.len
  have rAll:RepL H10 (mts++ [one]++bts++mts++ [other,one]++mts) (mvs++ [w1]++bvs++mvs++ [v,w1]++mvs):=(rA.app (.cons ru10 (.cons ro10 .nil))).app rm
  have gAll:∀t∈mts++ [one]++bts++mts++ [other,one]++mts,dep t≤50:=fun t ht=>by
   rcases List.mem_append.mp ht with h | h
   ·rcases List.mem_append.mp h with h | h
    ·have:=(gA t h).dp;omega
    ·rcases List.mem_cons.mp h with rfl | h
     ·omega
     ·rw [List.mem_singleton.mp h];omega
   ·have:=(mg' t h).dp;omega
  generalize mvs++ [w1]++bvs++mvs=avs at c4 t4 l4 lA rA rAll
  generalize mts++ [one]++bts++mts=ats at nt gA hone lA rA rAll gAll
  refine ⟨_,rfl,_,rfl,szl (show 2≤1000 by decide),fun q5 hq5=>?_⟩
  have t5:Same Hd (upd Hd q5 (.lst [v,w1])):=same_new (Same.refl Hd) hq5
  have c5:upd Hd q5 (.lst [v,w1]) q5=some (.lst [v,w1]):=upd_same
  generalize upd Hd q5 (.lst [v,w1])=He at t5 c5
  refine ⟨q4,q5,avs,[v,w1],rfl,rfl,t5 _ _ c4,c5,szl (show avs.length+2≤1000 by omega),fun q6 hq6=>?_⟩
  have t6:Same H10 (upd He q6 (.lst (avs++ [v,w1]))):=same_new (t4.trans t5) hq6
  have c6:upd He q6 (.lst (avs++ [v,w1])) q6=some (.lst (avs++ [v,w1])):=upd_same
  generalize upd He q6 (.lst (avs++ [v,w1]))=Hf at t6 c6
  refine ⟨_,rfl,q6,pm,avs++ [v,w1],mvs,rfl,rfl,c6,t6 _ _ epm,szl (show (avs++ [v,w1]).length+mvs.length≤1000 by rw [List.length_append,show [v,w1].length=2 from rfl];omega),fun q7 hq7=>?_⟩
  have t7:Same H10 (upd Hf q7 (.lst (avs++ [v,w1]++mvs))):=same_new t6 hq7
  have c7:upd Hf q7 (.lst (avs++ [v,w1]++mvs)) q7=some (.lst (avs++ [v,w1]++mvs)):=upd_same
  generalize upd Hf q7 (.lst (avs++ [v,w1]++mvs))=Hg at t7 c7
  refine ⟨_,rfl,q7,_,rfl,.inl (SqL.of c7),fun ph hph=>?_⟩
  have t8:Same Hg (upd Hg ph (.lst (avs++ [v,w1]++mvs))):=same_new (Same.refl Hg) hph
  have c8:upd Hg ph (.lst (avs++ [v,w1]++mvs)) ph=some (.lst (avs++ [v,w1]++mvs)):=upd_same
  generalize upd Hg ph (.lst (avs++ [v,w1]++mvs))=Hi at t8 c8
  have t18:=t7.trans t8
  have tk8:=Same.tups t18
  have ru8:=ru10.keep tk8
  have ro8:=ro10.keep tk8
  have etk:(avs++ [v,w1]++mvs).take ats.length=avs:=by rw [List.append_assoc,←lA,List.take_left]
  have eat:(avs++ [v,w1]++mvs)[ats.length]? =some v:=by
   rw [List.append_assoc,List.getElem?_append_right (by omega),←lA,Nat.sub_self]
   rfl
  refine ⟨_,rfl,_,rfl,_,rfl,ph,w1,v,v,_,ats,other,one,rfl,c8,by omega,by rw [etk];exact rA.keep tk8,gA,nt,eat,ru8,pr.g2,hone,pr.se,pr.ne,ro8,ru8,fun Hj sj=>⟨_,rfl,ifF rfl ?_⟩⟩
  have rj:=rAll.keep (Same.tups (t18.trans sj))
  refine ⟨_,rfl,_,rfl,ph,q7,_,_,_,_,rfl,rfl,SqL.of (sj _ _ c8),SqL.of (sj _ _ (t8 _ _ c7)),rj,rj,gAll,_,rfl,ifF (by rw [(eqL_iff _ _).mpr rfl];rfl) ?_⟩
  exact ⟨_,_,_,_,_,_,_,_,rfl,(t18.trans sj) _ _ ep10⟩
 ·rintro σ H' ⟨k1,k2,k3,k4,k5,k6,k7,k8,rfl,ep⟩
  exact q _
end
end Pv
namespace Pv
open PySem L2
private theorem len0 {us:List Value}(h:us.length=0):us=[]:=List.length_eq_zero_iff.mp h
private theorem len1 {us:List Value}(h:us.length=1):∃a,us=[a]:=List.length_eq_one_iff.mp h
private theorem len2 {us:List Value}(h:us.length=2):∃a b,us=[a,b]:=by
 cases us with
 | nil=>cases h
 | cons a r=>
  obtain ⟨b,rfl⟩:=len1 (Nat.succ.inj h)
  exact ⟨a,b,rfl⟩
private theorem len3 {us:List Value}(h:us.length=3):∃a b c,us=[a,b,c]:=by
 cases us with
 | nil=>cases h
 | cons a r=>
  obtain ⟨b,c,rfl⟩:=len2 (Nat.succ.inj h)
  exact ⟨a,b,c,rfl⟩
private theorem len4 {us:List Value}(h:us.length=4):∃a b c d,us=[a,b,c,d]:=by
 cases us with
 | nil=>cases h
 | cons a r=>
  obtain ⟨b,c,d,rfl⟩:=len3 (Nat.succ.inj h)
  exact ⟨a,b,c,d,rfl⟩
private theorem len5 {us:List Value}(h:us.length=5):∃a b c d e,us=[a,b,c,d,e]:=by
 cases us with
 | nil=>cases h
 | cons a r=>
  obtain ⟨b,c,d,e,rfl⟩:=len4 (Nat.succ.inj h)
  exact ⟨a,b,c,d,e,rfl⟩
private theorem len6 {us:List Value}(h:us.length=6):∃a b c d e f,us=[a,b,c,d,e,f]:=by
 cases us with
 | nil=>cases h
 | cons a r=>
  obtain ⟨b,c,d,e,f,rfl⟩:=len5 (Nat.succ.inj h)
  exact ⟨a,b,c,d,e,f,rfl⟩
private theorem len7 {us:List Value}(h:us.length=7):∃a b c d e f g,us=[a,b,c,d,e,f,g]:=by
 cases us with
 | nil=>cases h
 | cons a r=>
  obtain ⟨b,c,d,e,f,g,rfl⟩:=len6 (Nat.succ.inj h)
  exact ⟨a,b,c,d,e,f,g,rfl⟩
private theorem dfn_mk {K:PySem.W.Frag}{h:Heap}{mg:Str→Option Value}(x:Str)(st:Stmt)(ps:List Str){f:Addr}{od an:Option Addr}{sl:Array (Option Value)}{oc kV dc pm cd ct:Value}(X:K.In h)(G:h.Ns mainGlobals mg)
  (a:PySem.W.nsIn K mainGlobals x=some (some (.ref f))) (l:K.lookup f=some ⟨oc,od,.func (PySem.W.fnOf x x (defArgs st) (defBody st) (defScope st) .none kV dc pm an cd ct),sl⟩) (c:PySem.W.codeIn K cd x=true) (k:PySem.W.keepIn K (.ref f)=true)
  (b:∀(kV doc pm:Value) (an:Option Addr) (cdv ct:Value) (us:List Value),us.length=ps.length→bindArgs (PySem.W.fnOf x x (defArgs st) (defBody st) (defScope st) .none kV doc pm an cdv ct) ⟨us,[]⟩=pure (ps.zip us)):Dfn K mg x st ps:=
 ⟨_,_,fun_mk l c k,(fun_mk l c k).binds b,PySem.W.mg_of X G a⟩
private theorem dfn1 {K:PySem.W.Frag}{h:Heap}{mg:Str→Option Value}{x:Str}{st:Stmt}{ps:List Str}{f:Addr}{od an:Option Addr}{sl:Array (Option Value)}{oc kV dc pm cd ct:Value}(X:K.In h)(G:h.Ns mainGlobals mg)(hl:ps.length=1)
  (a:PySem.W.nsIn K mainGlobals x=some (some (.ref f))) (l:K.lookup f=some ⟨oc,od,.func (PySem.W.fnOf x x (defArgs st) (defBody st) (defScope st) .none kV dc pm an cd ct),sl⟩) (c:PySem.W.codeIn K cd x=true) (k:PySem.W.keepIn K (.ref f)=true)
  (b:∀(kV doc pm:Value) (an:Option Addr) (cdv ct u0:Value),bindArgs (PySem.W.fnOf x x (defArgs st) (defBody st) (defScope st) .none kV doc pm an cdv ct) ⟨[u0],[]⟩=pure (ps.zip [u0])):Dfn K mg x st ps:=
 dfn_mk x st ps X G a l c k fun _ _ _ _ _ _ us h=>by
  rw [hl] at h
  obtain ⟨_,rfl⟩:=len1 h
  exact b ..
private theorem dfn2 {K:PySem.W.Frag}{h:Heap}{mg:Str→Option Value}{x:Str}{st:Stmt}{ps:List Str}{f:Addr}{od an:Option Addr}{sl:Array (Option Value)}{oc kV dc pm cd ct:Value}(X:K.In h)(G:h.Ns mainGlobals mg)(hl:ps.length=2)
  (a:PySem.W.nsIn K mainGlobals x=some (some (.ref f))) (l:K.lookup f=some ⟨oc,od,.func (PySem.W.fnOf x x (defArgs st) (defBody st) (defScope st) .none kV dc pm an cd ct),sl⟩) (c:PySem.W.codeIn K cd x=true) (k:PySem.W.keepIn K (.ref f)=true)
  (b:∀(kV doc pm:Value) (an:Option Addr) (cdv ct u0 u1:Value),bindArgs (PySem.W.fnOf x x (defArgs st) (defBody st) (defScope st) .none kV doc pm an cdv ct) ⟨[u0,u1],[]⟩=pure (ps.zip [u0,u1])):Dfn K mg x st ps:=
 dfn_mk x st ps X G a l c k fun _ _ _ _ _ _ us h=>by
  rw [hl] at h
  obtain ⟨_,_,rfl⟩:=len2 h
  exact b ..
private theorem dfn3 {K:PySem.W.Frag}{h:Heap}{mg:Str→Option Value}{x:Str}{st:Stmt}{ps:List Str}{f:Addr}{od an:Option Addr}{sl:Array (Option Value)}{oc kV dc pm cd ct:Value}(X:K.In h)(G:h.Ns mainGlobals mg)(hl:ps.length=3)
  (a:PySem.W.nsIn K mainGlobals x=some (some (.ref f))) (l:K.lookup f=some ⟨oc,od,.func (PySem.W.fnOf x x (defArgs st) (defBody st) (defScope st) .none kV dc pm an cd ct),sl⟩) (c:PySem.W.codeIn K cd x=true) (k:PySem.W.keepIn K (.ref f)=true)
  (b:∀(kV doc pm:Value) (an:Option Addr) (cdv ct u0 u1 u2:Value),bindArgs (PySem.W.fnOf x x (defArgs st) (defBody st) (defScope st) .none kV doc pm an cdv ct) ⟨[u0,u1,u2],[]⟩=pure (ps.zip [u0,u1,u2])):Dfn K mg x st ps:=
 dfn_mk x st ps X G a l c k fun _ _ _ _ _ _ us h=>by
  rw [hl] at h
  obtain ⟨_,_,_,rfl⟩:=len3 h
  exact b ..
private theorem dfn4 {K:PySem.W.Frag}{h:Heap}{mg:Str→Option Value}{x:Str}{st:Stmt}{ps:List Str}{f:Addr}{od an:Option Addr}{sl:Array (Option Value)}{oc kV dc pm cd ct:Value}(X:K.In h)(G:h.Ns mainGlobals mg)(hl:ps.length=4)
  (a:PySem.W.nsIn K mainGlobals x=some (some (.ref f))) (l:K.lookup f=some ⟨oc,od,.func (PySem.W.fnOf x x (defArgs st) (defBody st) (defScope st) .none kV dc pm an cd ct),sl⟩) (c:PySem.W.codeIn K cd x=true) (k:PySem.W.keepIn K (.ref f)=true)
  (b:∀(kV doc pm:Value) (an:Option Addr) (cdv ct u0 u1 u2 u3:Value),bindArgs (PySem.W.fnOf x x (defArgs st) (defBody st) (defScope st) .none kV doc pm an cdv ct) ⟨[u0,u1,u2,u3],[]⟩=pure (ps.zip [u0,u1,u2,u3])):Dfn K mg x st ps:=
 dfn_mk x st ps X G a l c k fun _ _ _ _ _ _ us h=>by
  rw [hl] at h
  obtain ⟨_,_,_,_,rfl⟩:=len4 h
  exact b ..
private theorem dfn5 {K:PySem.W.Frag}{h:Heap}{mg:Str→Option Value}{x:Str}{st:Stmt}{ps:List Str}{f:Addr}{od an:Option Addr}{sl:Array (Option Value)}{oc kV dc pm cd ct:Value}(X:K.In h)(G:h.Ns mainGlobals mg)(hl:ps.length=5)
  (a:PySem.W.nsIn K mainGlobals x=some (some (.ref f))) (l:K.lookup f=some ⟨oc,od,.func (PySem.W.fnOf x x (defArgs st) (defBody st) (defScope st) .none kV dc pm an cd ct),sl⟩) (c:PySem.W.codeIn K cd x=true) (k:PySem.W.keepIn K (.ref f)=true)
  (b:∀(kV doc pm:Value) (an:Option Addr) (cdv ct u0 u1 u2 u3 u4:Value),bindArgs (PySem.W.fnOf x x (defArgs st) (defBody st) (defScope st) .none kV doc pm an cdv ct) ⟨[u0,u1,u2,u3,u4],[]⟩=pure (ps.zip [u0,u1,u2,u3,u4])):Dfn K mg x st ps:=
 dfn_mk x st ps X G a l c k fun _ _ _ _ _ _ us h=>by
  rw [hl] at h
  obtain ⟨_,_,_,_,_,rfl⟩:=len5 h
  exact b ..
private theorem dfn6 {K:PySem.W.Frag}{h:Heap}{mg:Str→Option Value}{x:Str}{st:Stmt}{ps:List Str}{f:Addr}{od an:Option Addr}{sl:Array (Option Value)}{oc kV dc pm cd ct:Value}(X:K.In h)(G:h.Ns mainGlobals mg)(hl:ps.length=6)
  (a:PySem.W.nsIn K mainGlobals x=some (some (.ref f))) (l:K.lookup f=some ⟨oc,od,.func (PySem.W.fnOf x x (defArgs st) (defBody st) (defScope st) .none kV dc pm an cd ct),sl⟩) (c:PySem.W.codeIn K cd x=true) (k:PySem.W.keepIn K (.ref f)=true)
  (b:∀(kV doc pm:Value) (an:Option Addr) (cdv ct u0 u1 u2 u3 u4 u5:Value),bindArgs (PySem.W.fnOf x x (defArgs st) (defBody st) (defScope st) .none kV doc pm an cdv ct) ⟨[u0,u1,u2,u3,u4,u5],[]⟩=pure (ps.zip [u0,u1,u2,u3,u4,u5])):Dfn K mg x st ps:=
 dfn_mk x st ps X G a l c k fun _ _ _ _ _ _ us h=>by
  rw [hl] at h
  obtain ⟨_,_,_,_,_,_,rfl⟩:=len6 h
  exact b ..
private theorem dfn7 {K:PySem.W.Frag}{h:Heap}{mg:Str→Option Value}{x:Str}{st:Stmt}{ps:List Str}{f:Addr}{od an:Option Addr}{sl:Array (Option Value)}{oc kV dc pm cd ct:Value}(X:K.In h)(G:h.Ns mainGlobals mg)(hl:ps.length=7)
  (a:PySem.W.nsIn K mainGlobals x=some (some (.ref f))) (l:K.lookup f=some ⟨oc,od,.func (PySem.W.fnOf x x (defArgs st) (defBody st) (defScope st) .none kV dc pm an cd ct),sl⟩) (c:PySem.W.codeIn K cd x=true) (k:PySem.W.keepIn K (.ref f)=true)
  (b:∀(kV doc pm:Value) (an:Option Addr) (cdv ct u0 u1 u2 u3 u4 u5 u6:Value),bindArgs (PySem.W.fnOf x x (defArgs st) (defBody st) (defScope st) .none kV doc pm an cdv ct) ⟨[u0,u1,u2,u3,u4,u5,u6],[]⟩=pure (ps.zip [u0,u1,u2,u3,u4,u5,u6])):Dfn K mg x st ps:=
 dfn_mk x st ps X G a l c k fun _ _ _ _ _ _ us h=>by
  rw [hl] at h
  obtain ⟨_,_,_,_,_,_,_,rfl⟩:=len7 h
  exact b ..
private theorem glob_mk {K:PySem.W.Frag}{h:Heap}{mg:Str→Option Value}{x:Str}{i:Int}{t:Tok}(X:K.In h)(G:h.Ns mainGlobals mg)(a:PySem.W.nsIn K mainGlobals x=some (some (.int i t))):∃t,mg x=some (.int i t):=⟨t,PySem.W.mg_of X G a⟩
private theorem law_mk {l:PySem.W.OpenLaw}{w:World}{K:PySem.W.Frag}{h:Heap}{mg:Str→Option Value}{fa f:Addr}{od an:Option Addr}{sl:Array (Option Value)}{oc kV dc pm cd ct:Value}(X:K.In h)(G:h.Ns mainGlobals mg)(hfa:mg "law" =some (.ref fa))
  (a:PySem.W.nsIn K mainGlobals "law" =some (some (.ref f))) (lk:K.lookup f=some ⟨oc,od,.func (PySem.W.fnOf "law" "law" (defArgs slaw) (defBody slaw) (defScope slaw) .none kV dc pm an cd ct),sl⟩) (c:PySem.W.codeIn K cd "law" =true) (k:PySem.W.keepIn K (.ref f)=true)
  (ok:∀(base:Heap) (fd:FuncData),Fun K "law" "law" slaw f fd→FnOk l.prog w K mg base CX0 65 f fd ["script"] (spLaw K)):
  ∃fd:FuncData,(∀(s:Shared) (v:Value),BindsTo s fd ⟨[v],[]⟩ [("script",v)])∧∀base:Heap,K.In base→base.Ns mainGlobals mg→FnOk l.prog w K mg base CX0 65 fa fd ["script"] (spLaw K):=by
 have e:=hfa.symm.trans (PySem.W.mg_of X G a)
 cases e
 exact ⟨PySem.W.fnOf "law" "law" (defArgs slaw) (defBody slaw) (defScope slaw) .none kV dc pm an cd ct,fun s v=>.of_eq rfl,fun base _ _=>ok base _ (fun_mk lk c k)⟩
private theorem walk {l:PySem.W.OpenLaw}{q:Program}{loose:List Str}{XP:(Str→Option Value)→Heap→Prop}{YP:World→Heap→Prop}{d:DefRec}{K:Params→PySem.W.Frag}(hn:l.most=some 63)(hdf:d.params.defaults=[])
  (hY:∀(w:World) (h:Heap),YP w h→(K w.params).In h)
  (F:∀(w:World) (mg:Str→Option Value) (fa:Addr) (h:Heap),(K w.params).In h→h.Ns mainGlobals mg→mg d.name=some (.ref fa)→
   ∃fd:FuncData,(∀(s:Shared) (u:Value),BindsTo s fd ⟨[u],[]⟩ [("script",u)])∧∀base:Heap,(K w.params).In base→base.Ns mainGlobals mg→FnOk l.prog w (K w.params) mg base CX0 65 fa fd ["script"] (spLaw (K w.params))):
  PySem.W.WalkO q loose XP YP l.row.toRowW d [] (fun f vs=>PySem.call f vs):=
 L2.walk_of (n:=63) (k:=65) (x:= "script") (CX:=fun _=>CX0) (sp:=fun w=>spLaw (K w.params)) hn (by decide) hdf ⟨fun _=>rfl,by decide,by decide⟩ hY F (fun _ _ a ns hl _ hS=>⟨a,ns,rfl,hS,hl,fun _=>rfl⟩) fun _ _ _ _ _ z=>z
end Pv
open PySem PySem.W PyProof.Rows
set_option maxRecDepth 100000 in
set_option maxHeartbeats 0 in
theorem PySem.Challenge.cw_papervault_k22_clashes_refused_holds : PySem.Challenge.rw_papervault_k22_clashes_refused.Holds := by
 refine holds_law Pv.said fun said=>?_
 refine holds_open (q:=Pv.VQ) (loose:=[]) (XP:=XL Pv.VQ []) (YP:=InK Pv.KK) Pv.left (InK.of Pv.addrs) InK.keeps (fun s e=>xl_of s (Bool.and_eq_true_iff.mp e).1) XL.keeps (by rfl) (by rfl) (by rfl) (fun s e=>recFacts_of (Bool.and_eq_true_iff.mp e).2) (by rfl) said (by decide+kernel) ⟨rfl,rfl,rfl,rfl,rfl,by decide+kernel⟩ ?hw ?hc
 (case hw=>w_witness2)
 k_fill
 refine Pv.walk (l:=PySem.Challenge.rw_papervault_k22_clashes_refused) rfl rfl (fun w h Y=>Y) ?F
 case F=>
  intro w mg fa h KX G hmg
  have D_seal:L2.Dfn (L2.KOf KX) mg "seal" Pv.sseal ["thing"]:=by
   dsimp only [L2.KOf];refine' Pv.dfn1 KX G rfl ?a ?l ?c ?k fun _ _ _ _ _ _ _=>rfl;case a | l | c | k=>k_is
  have D_codes:L2.Dfn (L2.KOf KX) mg "codes" Pv.scodes ["thing"]:=by
   dsimp only [L2.KOf];refine' Pv.dfn1 KX G rfl ?a ?l ?c ?k fun _ _ _ _ _ _ _=>rfl;case a | l | c | k=>k_is
  have D_number_of:L2.Dfn (L2.KOf KX) mg "number_of" Pv.snumber_of ["signs"]:=by
   dsimp only [L2.KOf];refine' Pv.dfn1 KX G rfl ?a ?l ?c ?k fun _ _ _ _ _ _ _=>rfl;case a | l | c | k=>k_is
  have D_is_whole:L2.Dfn (L2.KOf KX) mg "is_whole" Pv.sis_whole ["value"]:=by
   dsimp only [L2.KOf];refine' Pv.dfn1 KX G rfl ?a ?l ?c ?k fun _ _ _ _ _ _ _=>rfl;case a | l | c | k=>k_is
  have D_is_thing:L2.Dfn (L2.KOf KX) mg "is_thing" Pv.sis_thing ["thing"]:=by
   dsimp only [L2.KOf];refine' Pv.dfn1 KX G rfl ?a ?l ?c ?k fun _ _ _ _ _ _ _=>rfl;case a | l | c | k=>k_is
  have D_is_thing_within:L2.Dfn (L2.KOf KX) mg "is_thing_within" Pv.sis_thing_within ["thing","deep"]:=by
   dsimp only [L2.KOf];refine' Pv.dfn2 KX G rfl ?a ?l ?c ?k fun _ _ _ _ _ _ _ _=>rfl;case a | l | c | k=>k_is
  have D_is_tuple_within:L2.Dfn (L2.KOf KX) mg "is_tuple_within" Pv.sis_tuple_within ["parts","deep"]:=by
   dsimp only [L2.KOf];refine' Pv.dfn2 KX G rfl ?a ?l ?c ?k fun _ _ _ _ _ _ _ _=>rfl;case a | l | c | k=>k_is
  have D_has_signs_of_things:L2.Dfn (L2.KOf KX) mg "has_signs_of_things" Pv.shas_signs_of_things ["text"]:=by
   dsimp only [L2.KOf];refine' Pv.dfn1 KX G rfl ?a ?l ?c ?k fun _ _ _ _ _ _ _=>rfl;case a | l | c | k=>k_is
  have D_rising:L2.Dfn (L2.KOf KX) mg "rising" Pv.srising ["laid"]:=by
   dsimp only [L2.KOf];refine' Pv.dfn1 KX G rfl ?a ?l ?c ?k fun _ _ _ _ _ _ _=>rfl;case a | l | c | k=>k_is
  have D__law_row:L2.Dfn (L2.KOf KX) mg "_law_row" Pv.s_law_row ["cell"]:=by
   dsimp only [L2.KOf];refine' Pv.dfn1 KX G rfl ?a ?l ?c ?k fun _ _ _ _ _ _ _=>rfl;case a | l | c | k=>k_is
  have D__law_take:L2.Dfn (L2.KOf KX) mg "_law_take" Pv.s_law_take ["row","many"]:=by
   dsimp only [L2.KOf];refine' Pv.dfn2 KX G rfl ?a ?l ?c ?k fun _ _ _ _ _ _ _ _=>rfl;case a | l | c | k=>k_is
  have D__law_text:L2.Dfn (L2.KOf KX) mg "_law_text" Pv.s_law_text ["row"]:=by
   dsimp only [L2.KOf];refine' Pv.dfn1 KX G rfl ?a ?l ?c ?k fun _ _ _ _ _ _ _=>rfl;case a | l | c | k=>k_is
  have D__law_thing:L2.Dfn (L2.KOf KX) mg "_law_thing" Pv.s_law_thing ["row","deep"]:=by
   dsimp only [L2.KOf];refine' Pv.dfn2 KX G rfl ?a ?l ?c ?k fun _ _ _ _ _ _ _ _=>rfl;case a | l | c | k=>k_is
  have D__law_same:L2.Dfn (L2.KOf KX) mg "_law_same" Pv.s_law_same ["told","due"]:=by
   dsimp only [L2.KOf];refine' Pv.dfn2 KX G rfl ?a ?l ?c ?k fun _ _ _ _ _ _ _ _=>rfl;case a | l | c | k=>k_is
  have D__law_pair:L2.Dfn (L2.KOf KX) mg "_law_pair" Pv.s_law_pair ["row"]:=by
   dsimp only [L2.KOf];refine' Pv.dfn1 KX G rfl ?a ?l ?c ?k fun _ _ _ _ _ _ _=>rfl;case a | l | c | k=>k_is
  have D__law_unlike:L2.Dfn (L2.KOf KX) mg "_law_unlike" Pv.s_law_unlike ["row"]:=by
   dsimp only [L2.KOf];refine' Pv.dfn1 KX G rfl ?a ?l ?c ?k fun _ _ _ _ _ _ _=>rfl;case a | l | c | k=>k_is
  have D__law_caught:L2.Dfn (L2.KOf KX) mg "_law_caught" Pv.s_law_caught ["e","one","other"]:=by
   dsimp only [L2.KOf];refine' Pv.dfn3 KX G rfl ?a ?l ?c ?k fun _ _ _ _ _ _ _ _ _=>rfl;case a | l | c | k=>k_is
  have D__law_refused:L2.Dfn (L2.KOf KX) mg "_law_refused" Pv.s_law_refused ["vault","one","other"]:=by
   dsimp only [L2.KOf];refine' Pv.dfn3 KX G rfl ?a ?l ?c ?k fun _ _ _ _ _ _ _ _ _=>rfl;case a | l | c | k=>k_is
  have D__law_no_witness:L2.Dfn (L2.KOf KX) mg "_law_no_witness" Pv.s_law_no_witness ["paper","one","other"]:=by
   dsimp only [L2.KOf];refine' Pv.dfn3 KX G rfl ?a ?l ?c ?k fun _ _ _ _ _ _ _ _ _=>rfl;case a | l | c | k=>k_is
  have D__law_of_readers:L2.Dfn (L2.KOf KX) mg "_law_of_readers" Pv.s_law_of_readers ["one","other","between"]:=by
   dsimp only [L2.KOf];refine' Pv.dfn3 KX G rfl ?a ?l ?c ?k fun _ _ _ _ _ _ _ _ _=>rfl;case a | l | c | k=>k_is
  have D__law_of_vaults:L2.Dfn (L2.KOf KX) mg "_law_of_vaults" Pv.s_law_of_vaults ["one","other","between"]:=by
   dsimp only [L2.KOf];refine' Pv.dfn3 KX G rfl ?a ?l ?c ?k fun _ _ _ _ _ _ _ _ _=>rfl;case a | l | c | k=>k_is
  have m_ValueError:mg "ValueError" =none:=by
   refine' PySem.W.mg_none_of KX G ?z
   (case z=>k_is)
  have m_abs:mg "abs" =none:=by
   refine' PySem.W.mg_none_of KX G ?z
   (case z=>k_is)
  have m_bool:mg "bool" =none:=by
   refine' PySem.W.mg_none_of KX G ?z
   (case z=>k_is)
  have m_int:mg "int" =none:=by
   refine' PySem.W.mg_none_of KX G ?z
   (case z=>k_is)
  have m_isinstance:mg "isinstance" =none:=by
   refine' PySem.W.mg_none_of KX G ?z
   (case z=>k_is)
  have m_len:mg "len" =none:=by
   refine' PySem.W.mg_none_of KX G ?z
   (case z=>k_is)
  have m_list:mg "list" =none:=by
   refine' PySem.W.mg_none_of KX G ?z
   (case z=>k_is)
  have m_ord:mg "ord" =none:=by
   refine' PySem.W.mg_none_of KX G ?z
   (case z=>k_is)
  have m_range:mg "range" =none:=by
   refine' PySem.W.mg_none_of KX G ?z
   (case z=>k_is)
  have m_sorted:mg "sorted" =none:=by
   refine' PySem.W.mg_none_of KX G ?z
   (case z=>k_is)
  have m_str:mg "str" =none:=by
   refine' PySem.W.mg_none_of KX G ?z
   (case z=>k_is)
  have m_tuple:mg "tuple" =none:=by
   refine' PySem.W.mg_none_of KX G ?z
   (case z=>k_is)
  have m_zip:mg "zip" =none:=by
   refine' PySem.W.mg_none_of KX G ?z
   (case z=>k_is)
  have g_MOST_DEEP:∃t,mg "MOST_DEEP" =some (.int 5 t):=by
   refine' Pv.glob_mk KX G ?z
   (case z=>k_is)
  obtain ⟨t_MOST_DEEP,g_MOST_DEEP⟩:=g_MOST_DEEP
  have g_MOST_PARTS:∃t,mg "MOST_PARTS" =some (.int 40 t):=by
   refine' Pv.glob_mk KX G ?z
   (case z=>k_is)
  obtain ⟨t_MOST_PARTS,g_MOST_PARTS⟩:=g_MOST_PARTS
  have g_MOST_SIGNS:∃t,mg "MOST_SIGNS" =some (.int 60 t):=by
   refine' Pv.glob_mk KX G ?z
   (case z=>k_is)
  obtain ⟨t_MOST_SIGNS,g_MOST_SIGNS⟩:=g_MOST_SIGNS
  have g_PERCENT:∃t,mg "PERCENT" =some (.int 37 t):=by
   refine' Pv.glob_mk KX G ?z
   (case z=>k_is)
  obtain ⟨t_PERCENT,g_PERCENT⟩:=g_PERCENT
  obtain ⟨CV,cV,nLV,dVI,dVR,dVL,dVT⟩:∃C,L2.Cls (L2.KOf KX) C∧L2.NoAttr (L2.KOf KX) C "laid" ∧L2.Mkd (L2.KOf KX) mg "Vault" C "Vault.__init__" Pv.sVault___init__ ["self"]∧L2.Mdf (L2.KOf KX) C "refuse_clash" "Vault.refuse_clash" Pv.sVault_refuse_clash ["self","number","thing"]∧L2.Mdf (L2.KOf KX) C "lay" "Vault.lay" Pv.sVault_lay ["self","thing"]∧L2.Mdf (L2.KOf KX) C "thing" "Vault.thing" Pv.sVault_thing ["self","number"]:=by
   dsimp only [L2.KOf]
   refine' L2.by_name KX (x:= "Vault") ?n ⟨?c0,?c1,?c2,?c3,?c4,?c5⟩
   (case n=>k_is)
   (case c0=>refine' L2.cls_mk ?a ?b ?c ?d;(case a | b | c | d=>k_is))
   (case c1=>unfold L2.NoAttr;k_is)
   (case c2=>refine' L2.mkd_mk (qual:= "Vault.__init__") (st:=Pv.sVault___init__) (ps:=["self"]) KX G ?n ?mk ?a ?fn ?l ?c ?k ?kc ?b;(case n | mk | a | fn | l | c | k | kc=>k_is);(case b=>intro _ _ _ _ _ _ us hl;obtain ⟨_,rfl⟩:=Pv.len1 hl;rfl))
   (case c3=>refine' L2.mdf_mk (m:= "refuse_clash") (qual:= "Vault.refuse_clash") (st:=Pv.sVault_refuse_clash) (ps:=["self","number","thing"]) ?a ?fn ?l ?c ?k ?b;(case a | fn | l | c | k=>k_is);(case b=>intro _ _ _ _ _ _ us hl;obtain ⟨_,_,_,rfl⟩:=Pv.len3 hl;rfl))
   (case c4=>refine' L2.mdf_mk (m:= "lay") (qual:= "Vault.lay") (st:=Pv.sVault_lay) (ps:=["self","thing"]) ?a ?fn ?l ?c ?k ?b;(case a | fn | l | c | k=>k_is);(case b=>intro _ _ _ _ _ _ us hl;obtain ⟨_,_,rfl⟩:=Pv.len2 hl;rfl))
   (case c5=>refine' L2.mdf_mk (m:= "thing") (qual:= "Vault.thing") (st:=Pv.sVault_thing) (ps:=["self","number"]) ?a ?fn ?l ?c ?k ?b;(case a | fn | l | c | k=>k_is);(case b=>intro _ _ _ _ _ _ us hl;obtain ⟨_,_,rfl⟩:=Pv.len2 hl;rfl))
  obtain ⟨CK,cK,nLK,dKI,dKR,dKL,dKT,dKS⟩:∃C,L2.Cls (L2.KOf KX) C∧L2.NoAttr (L2.KOf KX) C "laid" ∧L2.Mkd (L2.KOf KX) mg "Keeper" C "Vault.__init__" Pv.sVault___init__ ["self"]∧L2.Mdf (L2.KOf KX) C "refuse_clash" "Vault.refuse_clash" Pv.sVault_refuse_clash ["self","number","thing"]∧L2.Mdf (L2.KOf KX) C "lay" "Vault.lay" Pv.sVault_lay ["self","thing"]∧L2.Mdf (L2.KOf KX) C "thing" "Vault.thing" Pv.sVault_thing ["self","number"]∧L2.Mdf (L2.KOf KX) C "things" "Keeper.things" Pv.sKeeper_things ["self"]:=by
   dsimp only [L2.KOf]
   refine' L2.by_name KX (x:= "Keeper") ?n ⟨?c0,?c1,?c2,?c3,?c4,?c5,?c6⟩
   (case n=>k_is)
   (case c0=>refine' L2.cls_mk ?a ?b ?c ?d;(case a | b | c | d=>k_is))
   (case c1=>unfold L2.NoAttr;k_is)
   (case c2=>refine' L2.mkd_mk (qual:= "Vault.__init__") (st:=Pv.sVault___init__) (ps:=["self"]) KX G ?n ?mk ?a ?fn ?l ?c ?k ?kc ?b;(case n | mk | a | fn | l | c | k | kc=>k_is);(case b=>intro _ _ _ _ _ _ us hl;obtain ⟨_,rfl⟩:=Pv.len1 hl;rfl))
   (case c3=>refine' L2.mdf_mk (m:= "refuse_clash") (qual:= "Vault.refuse_clash") (st:=Pv.sVault_refuse_clash) (ps:=["self","number","thing"]) ?a ?fn ?l ?c ?k ?b;(case a | fn | l | c | k=>k_is);(case b=>intro _ _ _ _ _ _ us hl;obtain ⟨_,_,_,rfl⟩:=Pv.len3 hl;rfl))
   (case c4=>refine' L2.mdf_mk (m:= "lay") (qual:= "Vault.lay") (st:=Pv.sVault_lay) (ps:=["self","thing"]) ?a ?fn ?l ?c ?k ?b;(case a | fn | l | c | k=>k_is);(case b=>intro _ _ _ _ _ _ us hl;obtain ⟨_,_,rfl⟩:=Pv.len2 hl;rfl))
   (case c5=>refine' L2.mdf_mk (m:= "thing") (qual:= "Vault.thing") (st:=Pv.sVault_thing) (ps:=["self","number"]) ?a ?fn ?l ?c ?k ?b;(case a | fn | l | c | k=>k_is);(case b=>intro _ _ _ _ _ _ us hl;obtain ⟨_,_,rfl⟩:=Pv.len2 hl;rfl))
   (case c6=>refine' L2.mdf_mk (m:= "things") (qual:= "Keeper.things") (st:=Pv.sKeeper_things) (ps:=["self"]) ?a ?fn ?l ?c ?k ?b;(case a | fn | l | c | k=>k_is);(case b=>intro _ _ _ _ _ _ us hl;obtain ⟨_,rfl⟩:=Pv.len1 hl;rfl))
  obtain ⟨CR,cR,nLR,nKR,nNR,dRI,dRR,dRL,dRT,dRP⟩:∃C,L2.Cls (L2.KOf KX) C∧L2.NoAttr (L2.KOf KX) C "laid" ∧L2.NoAttr (L2.KOf KX) C "keeper" ∧L2.NoAttr (L2.KOf KX) C "noted" ∧L2.Mkd (L2.KOf KX) mg "Reader" C "Reader.__init__" Pv.sReader___init__ ["self","keeper"]∧L2.Mdf (L2.KOf KX) C "refuse_clash" "Vault.refuse_clash" Pv.sVault_refuse_clash ["self","number","thing"]∧L2.Mdf (L2.KOf KX) C "lay" "Reader.lay" Pv.sReader_lay ["self","thing"]∧L2.Mdf (L2.KOf KX) C "thing" "Reader.thing" Pv.sReader_thing ["self","number"]∧L2.Mdf (L2.KOf KX) C "paper" "Reader.paper" Pv.sReader_paper ["self"]:=by
   dsimp only [L2.KOf]
   refine' L2.by_name KX (x:= "Reader") ?n ⟨?c0,?c1,?c2,?c3,?c4,?c5,?c6,?c7,?c8⟩
   (case n=>k_is)
   (case c0=>refine' L2.cls_mk ?a ?b ?c ?d;(case a | b | c | d=>k_is))
   (case c1=>unfold L2.NoAttr;k_is)
   (case c2=>unfold L2.NoAttr;k_is)
   (case c3=>unfold L2.NoAttr;k_is)
   (case c4=>refine' L2.mkd_mk (qual:= "Reader.__init__") (st:=Pv.sReader___init__) (ps:=["self","keeper"]) KX G ?n ?mk ?a ?fn ?l ?c ?k ?kc ?b;(case n | mk | a | fn | l | c | k | kc=>k_is);(case b=>intro _ _ _ _ _ _ us hl;obtain ⟨_,_,rfl⟩:=Pv.len2 hl;rfl))
   (case c5=>refine' L2.mdf_mk (m:= "refuse_clash") (qual:= "Vault.refuse_clash") (st:=Pv.sVault_refuse_clash) (ps:=["self","number","thing"]) ?a ?fn ?l ?c ?k ?b;(case a | fn | l | c | k=>k_is);(case b=>intro _ _ _ _ _ _ us hl;obtain ⟨_,_,_,rfl⟩:=Pv.len3 hl;rfl))
   (case c6=>refine' L2.mdf_mk (m:= "lay") (qual:= "Reader.lay") (st:=Pv.sReader_lay) (ps:=["self","thing"]) ?a ?fn ?l ?c ?k ?b;(case a | fn | l | c | k=>k_is);(case b=>intro _ _ _ _ _ _ us hl;obtain ⟨_,_,rfl⟩:=Pv.len2 hl;rfl))
   (case c7=>refine' L2.mdf_mk (m:= "thing") (qual:= "Reader.thing") (st:=Pv.sReader_thing) (ps:=["self","number"]) ?a ?fn ?l ?c ?k ?b;(case a | fn | l | c | k=>k_is);(case b=>intro _ _ _ _ _ _ us hl;obtain ⟨_,_,rfl⟩:=Pv.len2 hl;rfl))
   (case c8=>refine' L2.mdf_mk (m:= "paper") (qual:= "Reader.paper") (st:=Pv.sReader_paper) (ps:=["self"]) ?a ?fn ?l ?c ?k ?b;(case a | fn | l | c | k=>k_is);(case b=>intro _ _ _ _ _ _ us hl;obtain ⟨_,rfl⟩:=Pv.len1 hl;rfl))
  obtain ⟨CW,cW,nLW,dWI,dWR,dWL,dWT⟩:∃C,L2.Cls (L2.KOf KX) C∧L2.NoAttr (L2.KOf KX) C "laid" ∧L2.Mkd (L2.KOf KX) mg "Witness" C "Witness.__init__" Pv.sWitness___init__ ["self","paper"]∧L2.Mdf (L2.KOf KX) C "refuse_clash" "Vault.refuse_clash" Pv.sVault_refuse_clash ["self","number","thing"]∧L2.Mdf (L2.KOf KX) C "lay" "Vault.lay" Pv.sVault_lay ["self","thing"]∧L2.Mdf (L2.KOf KX) C "thing" "Vault.thing" Pv.sVault_thing ["self","number"]:=by
   dsimp only [L2.KOf]
   refine' L2.by_name KX (x:= "Witness") ?n ⟨?c0,?c1,?c2,?c3,?c4,?c5⟩
   (case n=>k_is)
   (case c0=>refine' L2.cls_mk ?a ?b ?c ?d;(case a | b | c | d=>k_is))
   (case c1=>unfold L2.NoAttr;k_is)
   (case c2=>refine' L2.mkd_mk (qual:= "Witness.__init__") (st:=Pv.sWitness___init__) (ps:=["self","paper"]) KX G ?n ?mk ?a ?fn ?l ?c ?k ?kc ?b;(case n | mk | a | fn | l | c | k | kc=>k_is);(case b=>intro _ _ _ _ _ _ us hl;obtain ⟨_,_,rfl⟩:=Pv.len2 hl;rfl))
   (case c3=>refine' L2.mdf_mk (m:= "refuse_clash") (qual:= "Vault.refuse_clash") (st:=Pv.sVault_refuse_clash) (ps:=["self","number","thing"]) ?a ?fn ?l ?c ?k ?b;(case a | fn | l | c | k=>k_is);(case b=>intro _ _ _ _ _ _ us hl;obtain ⟨_,_,_,rfl⟩:=Pv.len3 hl;rfl))
   (case c4=>refine' L2.mdf_mk (m:= "lay") (qual:= "Vault.lay") (st:=Pv.sVault_lay) (ps:=["self","thing"]) ?a ?fn ?l ?c ?k ?b;(case a | fn | l | c | k=>k_is);(case b=>intro _ _ _ _ _ _ us hl;obtain ⟨_,_,rfl⟩:=Pv.len2 hl;rfl))
   (case c5=>refine' L2.mdf_mk (m:= "thing") (qual:= "Vault.thing") (st:=Pv.sVault_thing) (ps:=["self","number"]) ?a ?fn ?l ?c ?k ?b;(case a | fn | l | c | k=>k_is);(case b=>intro _ _ _ _ _ _ us hl;obtain ⟨_,_,rfl⟩:=Pv.len2 hl;rfl))
  have gI:L2.Kdf (L2.KOf KX) mg "Vault" "__init__" "Vault.__init__" Pv.sVault___init__ ["self"]:=by
   dsimp only [L2.KOf]
   refine' L2.kdf_mk (mc:=.type "type") (qual:= "Vault.__init__") (st:=Pv.sVault___init__) (ps:=["self"]) KX G ?n ?g ?rd ?fc ?l ?c ?k ?b
   (case n | g | rd | fc | l | c | k=>k_is)
   (case b=>intro _ _ _ _ _ _ us hl;obtain ⟨_,rfl⟩:=Pv.len1 hl;rfl)
  obtain ⟨CVaultError,CClash,CBadThing,CNoColumn,CNoCommand,CNoName,CNoPaper,CNoPlan,CNoQuestion,CNoRow,CNoState,CNoStep,CNoTable,CNoThing,CNotOn,CNotSo,c_VaultError,c_Clash,c_BadThing,c_NoColumn,c_NoCommand,c_NoName,c_NoPaper,c_NoPlan,c_NoQuestion,c_NoRow,c_NoState,c_NoStep,c_NoTable,c_NoThing,c_NotOn,c_NotSo,ko,xN,xB,xC,n1,n2⟩:∃CVaultError CClash CBadThing CNoColumn CNoCommand CNoName CNoPaper CNoPlan CNoQuestion CNoRow CNoState CNoStep CNoTable CNoThing CNotOn CNotSo,mg "VaultError" =some (.ref CVaultError)∧mg "Clash" =some (.ref CClash)∧mg "BadThing" =some (.ref CBadThing)∧mg "NoColumn" =some (.ref CNoColumn)∧mg "NoCommand" =some (.ref CNoCommand)∧mg "NoName" =some (.ref CNoName)∧mg "NoPaper" =some (.ref CNoPaper)∧mg "NoPlan" =some (.ref CNoPlan)∧mg "NoQuestion" =some (.ref CNoQuestion)∧mg "NoRow" =some (.ref CNoRow)∧mg "NoState" =some (.ref CNoState)∧mg "NoStep" =some (.ref CNoStep)∧mg "NoTable" =some (.ref CNoTable)∧mg "NoThing" =some (.ref CNoThing)∧mg "NotOn" =some (.ref CNotOn)∧mg "NotSo" =some (.ref CNotSo)∧Pv.CauOk (L2.KOf KX) CVaultError CClash CBadThing CNoColumn CNoCommand CNoName CNoPaper CNoPlan CNoQuestion CNoRow CNoState CNoStep CNoTable CNoThing CNotOn CNotSo∧L2.XP (L2.KOf KX) mg "NoPaper" CNoPaper∧L2.XP (L2.KOf KX) mg "BadThing" CBadThing∧L2.XId (L2.KOf KX) mg "Clash" CClash "Clash.__init__" Pv.sClash___init__ ["self","one","other"]∧L2.NoAttr (L2.KOf KX) CClash "one" ∧L2.NoAttr (L2.KOf KX) CClash "other" :=by
   dsimp only [L2.KOf]
   refine' L2.by_name KX (x:= "VaultError") ?n0 (L2.by_name KX (x:= "Clash") ?n1 (L2.by_name KX (x:= "BadThing") ?n2 (L2.by_name KX (x:= "NoColumn") ?n3 (L2.by_name KX (x:= "NoCommand") ?n4 (L2.by_name KX (x:= "NoName") ?n5 (L2.by_name KX (x:= "NoPaper") ?n6 (L2.by_name KX (x:= "NoPlan") ?n7 (L2.by_name KX (x:= "NoQuestion") ?n8 (L2.by_name KX (x:= "NoRow") ?n9 (L2.by_name KX (x:= "NoState") ?n10 (L2.by_name KX (x:= "NoStep") ?n11 (L2.by_name KX (x:= "NoTable") ?n12 (L2.by_name KX (x:= "NoThing") ?n13 (L2.by_name KX (x:= "NotOn") ?n14 (L2.by_name KX (x:= "NotSo") ?n15 (⟨?c0,?c1,?c2,?c3,?c4,?c5,?c6,?c7,?c8,?c9,?c10,?c11,?c12,?c13,?c14,?c15,?c16,?c17,?c18,?c19,?c20,?c21⟩))))))))))))))))
   (case n0=>k_is)
   (case n1=>k_is)
   (case n2=>k_is)
   (case n3=>k_is)
   (case n4=>k_is)
   (case n5=>k_is)
   (case n6=>k_is)
   (case n7=>k_is)
   (case n8=>k_is)
   (case n9=>k_is)
   (case n10=>k_is)
   (case n11=>k_is)
   (case n12=>k_is)
   (case n13=>k_is)
   (case n14=>k_is)
   (case n15=>k_is)
   (case c0=>refine' PySem.W.mg_of KX G ?z;(case z=>k_is))
   (case c1=>refine' PySem.W.mg_of KX G ?z;(case z=>k_is))
   (case c2=>refine' PySem.W.mg_of KX G ?z;(case z=>k_is))
   (case c3=>refine' PySem.W.mg_of KX G ?z;(case z=>k_is))
   (case c4=>refine' PySem.W.mg_of KX G ?z;(case z=>k_is))
   (case c5=>refine' PySem.W.mg_of KX G ?z;(case z=>k_is))
   (case c6=>refine' PySem.W.mg_of KX G ?z;(case z=>k_is))
   (case c7=>refine' PySem.W.mg_of KX G ?z;(case z=>k_is))
   (case c8=>refine' PySem.W.mg_of KX G ?z;(case z=>k_is))
   (case c9=>refine' PySem.W.mg_of KX G ?z;(case z=>k_is))
   (case c10=>refine' PySem.W.mg_of KX G ?z;(case z=>k_is))
   (case c11=>refine' PySem.W.mg_of KX G ?z;(case z=>k_is))
   (case c12=>refine' PySem.W.mg_of KX G ?z;(case z=>k_is))
   (case c13=>refine' PySem.W.mg_of KX G ?z;(case z=>k_is))
   (case c14=>refine' PySem.W.mg_of KX G ?z;(case z=>k_is))
   (case c15=>refine' PySem.W.mg_of KX G ?z;(case z=>k_is))
   (case c16=>refine' ⟨?kd,?em,?k1,?k2,?k3,?k4⟩;(case kd=>refine' ⟨?cl,?ha,?hn,?ht,?hm⟩;(case cl=>refine' L2.xcls_mk ?xq ?xo ?xs ?xg ?xh ?xk;(case xq=>kernel_rfl);(case xo=>kernel_rfl);(case xs | xg | xh | xk=>k_is));(case ha=>k_is);(case hn=>first | k_is | kernel_rfl);(case ht=>first | k_is | kernel_rfl);(case hm=>first | k_is | kernel_rfl));(case em=>kernel_rfl);(case k1=>kernel_rfl);(case k2=>kernel_rfl);(case k3=>kernel_rfl);(case k4=>kernel_rfl))
   (case c17=>refine' ⟨?cl,?ei,?m⟩;(case cl=>refine' L2.xcls_mk ?xq ?xo ?xs ?xg ?xh ?xk;(case xq=>kernel_rfl);(case xo=>kernel_rfl);(case xs | xg | xh | xk=>k_is));(case ei=>kernel_rfl);(case m=>refine' PySem.W.mg_of KX G ?z;(case z=>k_is)))
   (case c18=>refine' ⟨?cl,?ei,?m⟩;(case cl=>refine' L2.xcls_mk ?xq ?xo ?xs ?xg ?xh ?xk;(case xq=>kernel_rfl);(case xo=>kernel_rfl);(case xs | xg | xh | xk=>k_is));(case ei=>kernel_rfl);(case m=>refine' PySem.W.mg_of KX G ?z;(case z=>k_is)))
   (case c19=>refine' L2.xid_mk (qual:= "Clash.__init__") (st:=Pv.sClash___init__) (ps:=["self","one","other"]) KX G ?n ?cl ?a ?fn ?l ?c ?k ?b;(case n=>k_is);(case cl=>refine' L2.xcls_mk ?xq ?xo ?xs ?xg ?xh ?xk;(case xq=>kernel_rfl);(case xo=>kernel_rfl);(case xs | xg | xh | xk=>k_is));(case a | fn | l | c | k=>k_is);(case b=>intro _ _ _ _ _ _ us hl;obtain ⟨_,_,_,rfl⟩:=Pv.len3 hl;rfl))
   (case c20=>unfold L2.NoAttr;k_is)
   (case c21=>unfold L2.NoAttr;k_is)
  refine' Pv.law_mk KX G hmg ?a ?l ?c ?k ?ok
  (case a | l | c | k=>k_is)
  case ok=>
   intro base fd F
   have f_row:=Pv.ok_row (P:=PySem.Challenge.rw_papervault_k22_clashes_refused.prog) (w:=w) (base:=base) D__law_row
   have f_take:=Pv.ok_take (P:=PySem.Challenge.rw_papervault_k22_clashes_refused.prog) (w:=w) (base:=base) D__law_take
   have f_text:=Pv.ok_text D__law_text f_take m_range
   have f_thing:=Pv.ok_thing D__law_thing f_take f_text m_range m_tuple 2
   have f_pair:=Pv.ok_pair D__law_pair f_take
   have f_unl:=Pv.ok_unl D__law_unlike f_take f_pair f_thing m_isinstance m_int m_range m_tuple
   have f_sameA:∀b,L2.Fn PySem.Challenge.rw_papervault_k22_clashes_refused.prog w (L2.KOf KX) mg b "_law_same" 11 ["told","due"] (Pv.spSameE 9):=fun b=>Pv.ok_sameE (P:=PySem.Challenge.rw_papervault_k22_clashes_refused.prog) (w:=w) (base:=b) D__law_same m_isinstance m_tuple m_int m_bool m_str m_len m_zip 9
   have f_same:=f_sameA base
   have f_num:=Pv.ok_number_of (P:=PySem.Challenge.rw_papervault_k22_clashes_refused.prog) (w:=w) (base:=base) D_number_of m_ord
   have f_codes:=Pv.ok_codes D_codes f_num m_isinstance m_int m_str m_range m_len 10
   have f_seal:=Pv.ok_seal D_seal f_codes
   have f_whole:=Pv.ok_whole (P:=PySem.Challenge.rw_papervault_k22_clashes_refused.prog) (w:=w) (base:=base) D_is_whole m_isinstance m_int m_bool
   have f_signs:=Pv.ok_signs (P:=PySem.Challenge.rw_papervault_k22_clashes_refused.prog) (w:=w) (base:=base) D_has_signs_of_things m_ord g_PERCENT
   have f_within:=Pv.ok_withinT D_is_thing_within D_is_tuple_within f_whole f_signs m_isinstance m_tuple m_str m_int m_len m_abs g_MOST_SIGNS g_MOST_PARTS 6
   have f_isT:=Pv.ok_isT D_is_thing f_within g_MOST_DEEP
   have x_clash:=Pv.ok_cinit (P:=PySem.Challenge.rw_papervault_k22_clashes_refused.prog) (w:=w) (base:=base) xC n1 n2
   have m_refV:=Pv.ok_refuse dVR x_clash cV nLV
   have m_refK:=Pv.ok_refuse dKR x_clash cK nLK
   have m_refR:=Pv.ok_refuse dRR x_clash cR nLR
   have m_refW:=Pv.ok_refuse dWR x_clash cW nLW
   have m_layV:=Pv.ok_lay dVL m_refV f_seal cV nLV
   have m_layK:=Pv.ok_lay dKL m_refK f_seal cK nLK
   have m_layW:=Pv.ok_lay dWL m_refW f_seal cW nLW
   have m_rlay:=Pv.ok_rlay dRL m_refR m_refK f_seal cR cK nLR nKR
   have m_thV:=Pv.ok_thingv (P:=PySem.Challenge.rw_papervault_k22_clashes_refused.prog) (w:=w) (base:=base) (mg:=mg) dVT cV nLV
   have m_thK:=Pv.ok_thingv (P:=PySem.Challenge.rw_papervault_k22_clashes_refused.prog) (w:=w) (base:=base) (mg:=mg) dKT cK nLK
   have m_thW:=Pv.ok_thingv (P:=PySem.Challenge.rw_papervault_k22_clashes_refused.prog) (w:=w) (base:=base) (mg:=mg) dWT cW nLW
   have m_thX:=Pv.ok_thingX (P:=PySem.Challenge.rw_papervault_k22_clashes_refused.prog) (w:=w) (base:=base) dKT xN cK nLK
   have m_rthing:=Pv.ok_rthing dRT m_thX cR cK nLR nKR nNR
   have f_rising:=Pv.ok_rising (P:=PySem.Challenge.rw_papervault_k22_clashes_refused.prog) (w:=w) (base:=base) D_rising m_sorted
   have m_things:=Pv.ok_things dKS f_rising cK nLK
   have m_paper:=Pv.ok_paper dRP f_rising cR nNR
   have k_V:=Pv.ok_vinit (P:=PySem.Challenge.rw_papervault_k22_clashes_refused.prog) (w:=w) (base:=base) dVI cV nLV
   have k_K:=Pv.ok_vinit (P:=PySem.Challenge.rw_papervault_k22_clashes_refused.prog) (w:=w) (base:=base) dKI cK nLK
   have g_initR:=Pv.ok_kinit (P:=PySem.Challenge.rw_papervault_k22_clashes_refused.prog) (w:=w) (base:=base) gI cR nLR
   have k_R:=Pv.ok_rinit dRI g_initR cR nKR nNR
   have g_initW:=Pv.ok_kinit (P:=PySem.Challenge.rw_papervault_k22_clashes_refused.prog) (w:=w) (base:=base) gI cW nLW
   have k_W:=Pv.ok_w22 dWI g_initW f_isT m_layW xB cW
   have MLV:∀W,W=CV∨W=CK∨W=CW→L2.Mt PySem.Challenge.rw_papervault_k22_clashes_refused.prog w (L2.KOf KX) mg base (L2.CX1 PySem.Challenge.rw_papervault_k22_clashes_refused.prog w) W "lay" 24 ["self","thing"] (Pv.spLay W CClash):=fun W h=>by rcases h with rfl | rfl | rfl;exact m_layV;exact m_layK;exact m_layW
   have MTV:∀W,W=CV∨W=CK∨W=CW→L2.Mt PySem.Challenge.rw_papervault_k22_clashes_refused.prog w (L2.KOf KX) mg base L2.CX0 W "thing" 1 ["self","number"] (Pv.spThingV W):=fun W h=>by rcases h with rfl | rfl | rfl;exact m_thV;exact m_thK;exact m_thW
   have M4:=Pv.ok_refLay MLV m_rlay
   have MC4:∀k,k∈Pv.allV→L2.Cls (L2.KOf KX) (Pv.clsV4 CV CK CW CR k):=fun k _=>by cases k;exact cV;exact cK;exact cW;exact cR
   have f_cau:=Pv.ok_cau (P:=PySem.Challenge.rw_papervault_k22_clashes_refused.prog) (w:=w) D__law_caught f_sameA ko n1 n2 c_Clash c_NoPaper c_BadThing c_NoColumn c_NoCommand c_NoName c_NoPlan c_NoQuestion c_NoRow c_NoState c_NoStep c_NoTable c_NoThing c_NotOn c_NotSo m_isinstance m_ValueError
   have f_refused:=Pv.ok_refused D__law_refused M4 MC4 f_cau ko.em c_VaultError
   have f_noWit:=Pv.ok_noWit D__law_no_witness k_W f_cau ko.em c_VaultError
   have f_ofV:=Pv.ok_ofV D__law_of_vaults k_K k_V k_W (Pv.ok_layV (CR:=CR) MLV) (Pv.ok_thgV MTV) (fun k _=>MC4 k (Pv.mem_allV k)) f_refused f_same f_seal m_things cK m_len
   have f_ofR:=Pv.ok_ofR D__law_of_readers k_K k_R (Pv.ok_rlayF m_rlay) (Pv.ok_rthgF m_rthing) (Pv.ok_rpapF m_paper) (Pv.ok_layK m_layK) f_refused f_same f_seal m_things cK cR m_len
   exact Pv.ok_law F f_row f_take f_unl f_seal f_ofV f_ofR f_noWit m_range m_list
#print axioms PySem.Challenge.cw_papervault_k22_clashes_refused_holds
