import PyProof.Rows.All
import Wide.All
import OpenK.AllK
import Wide.FinOn
import Lean
import PyProof.EqAt
import PyProof.EqKinds
import PyProof.TupleCall
import PyProof.NeKinds
import PyProof.FactsAll.list
import PyProof.ListMulRoad
import PyProof.FactsAll.tuple
import PyProof.Rows.TupAdd
import PyProof.StationsW
import PyProof.RulesAs
import OpenK.KOwn
import OpenK.KMake
import PyProof.ExcClass3
import PyProof.ExcInit
import PyProof.InstStoreFacts
import PyProof.ExcAttrAll.ValueError
import PyProof.NsDelKeeps
import KE.KTryMore
import KE.KIsAll
import KE.KDictSum
import PyProof.Rows.SortWalk
import PyProof.StrOps2
import PyProof.WalkInts
import OpenK.KCls
import PyProof.DictWalks
import KE.KRevIter
import PyProof.ListNew
import PyProof.EnumMake
import PyProof.EnumFor
import PyProof.FactsAll.NoneType_1
import PyProof.DictRoadsH
import PySem.Challenge.RW_papervault_k46_asked_again
local macro_rules | `(tactic| lia) => `(tactic| first | assumption | decide | lia (splits:=9) | omega)
set_option compiler.extract_closed false
set_option Elab.async false
set_option linter.all false
set_option maxRecDepth 100000
set_option maxHeartbeats 4000000
namespace L2
open PySem
def inClass (s:Stmt)(j:Nat):Stmt:=match s with
 | .ClassDef _ _ _ body _ _ _ _ _ _ _=>body.getD j (.Pass ⟨0,0,0,0⟩)
 | _=>.Pass ⟨0,0,0,0⟩
def zI (s:Stmt):Arguments:=match s with
 | .FunctionDef _ a _ _ _ _ _ _ _ _=>a
 | _=>{posonlyargs:=[],args:=[],vararg:=none,kwonlyargs:=[],kw_defaults:=[],kwarg:=none,defaults:=[]}
def zD (s:Stmt):List Stmt:=match s with
 | .FunctionDef _ _ b _ _ _ _ _ _ _=>b
 | _=>[]
def zo (s:Stmt):Scope:=match s with
 | .FunctionDef _ _ _ _ _ _ sc _ _ _=>sc
 | _=>{kind:=.function,names:=[],isGenerator:=false,isCoroutine:=false}
end L2
namespace Pv
open PySem
def top (i:Nat):Stmt:=PySem.Challenge.pw_papervault_k46_asked_again.main.body.getD i (.Pass ⟨0,0,0,0⟩)
end Pv
namespace Pv
open PySem PySem.W
abbrev dE (P:Params)(x:Str)(t:Nat)(v:Value):DictEntry:=DictEntry.mk (PyData.keyHash P x) (.str x t) v
abbrev cO (n:Str)(a:Nat)(q:Str)(b c:Nat)(l x y z w:Int)(r:Addr)(g:Bool)(r2:Addr)(e1 e2 e3 e4:Value)(t m:Int)(d:Nat):Obj:=.mk (.type "code") none (.fields #[.str n a,.str q b,.str "/claim/cut.py" c,.int l 0,.int x 0,.int y 0,.int z 0,.int w 0,.ref r,.bool g,.int 181 0,.ref r2,e1,e2,e3,e4,.int t 0,.int m 0,.str "/claim/cut.py" d]) #[]
abbrev _root_.QN:=Option Addr
abbrev fO (c:Value)(n q:Str)(st:Stmt)(g:Addr)(cl:List (Str ×Addr))(df kd doc md:Value)(an:QN)(cd ct:Value)(bl:Addr):Obj:=.mk c none (.func (.mk n q (L2.zI st) (.stmts (L2.zD st)) (L2.zo st) g cl df kd doc md an cd ct bl)) #[]
abbrev f0 (n q:Str)(st:Stmt):Obj:=fO .none n q st 0 [] .none .none .none .none none .none .none 0
abbrev f1 (n q:Str)(st:Stmt)(m:Str)(k:Nat)(r:Addr):Obj:=fO (.type "function") n q st 3 [] .none .none .none (.str m k) none (.ref r) .none 0
abbrev tO (a:Array Value):Obj:=.mk (.type "tuple") none (.seq a) #[]
abbrev dO (a:Array DictEntry)(n:Nat):Obj:=.mk (.type "dict") none (.dict a n) #[]
abbrev fi (a:Array Value):Obj:=.mk .none none (.fields a) #[]
abbrev fy (x:String)(a:Array Value):Obj:=.mk (.type x) none (.fields a) #[]
abbrev fr (c d:Addr)(v:Value):Obj:=.mk (.type "frame") none .plain #[some (.ref c),some (.ref 3),some (.ref d),none,some v,none,some (.ref 0)]
abbrev HBT:=List (List Obj ×List Obj)
def nm (t:Nat):List Str->List Value
 | []=>[]
 | x::r=>.str x t::nm (t+1) r
def cs (i:Int):List (Int ×Nat)->List Value
 | []=>[]
 | (l,a)::r=>.int l 0::.int i 0::.ref a::cs i r
def ka:HBT->List Obj
 | []=>[]
 | x::r=>x.1++ka r
def kb:HBT->List Obj
 | []=>[]
 | x::r=>x.2++kb r
def sp:List Obj->List Obj ×List Obj
 | []=>([],[])
 | x::r=>(x::(sp r).2,(sp r).1)
def bt:Nat->List Obj->BT
 | 0,_=>.nil
 | _+1,[]=>.nil
 | n+1,x::r=>.node x (bt n (sp r).1) (bt n (sp r).2)
def wv (i:Nat):List (Nat ×Nat)->List Obj->List Obj->List Obj
 | [],a,_=>a
 | (p,n)::r,a,b=>a.take (p - i)++(b.take n++wv (p+n) r (a.drop (p - i)) (b.drop n))
def rgs:List (Nat ×Nat)->List Nat
 | []=>[]
 | (a,n)::r=>List.range' a n++rgs r
def kz:List Addr->List Obj->Frag
 | a::r,o::s=>(a,o)::kz r s
 | _,_=>[]
noncomputable section
abbrev _root_.QQ:=List Str
def dl (a t:Nat)(l p:Int)(n q:Str)(st:Stmt)(ns:QQ)(m:Value):List Obj ×List Obj:=([tO #[],tO (nm (t+3) ns).toArray,tO #[],cO n t q (t+1) (t+2) l p 0 0 3 a true (a+1) .none (.ref (a+2)) (.ref (a+3)) (.ref (a+4)) (t+3+ns.length:Nat) l (t+4+ns.length),fO (.type "function") n q st 3 [] .none .none .none m none (.ref (a+5)) .none 0],[fi #[],f0 n q st])
def dt (a t:Nat)(l p:Int)(n:Str)(i:Nat)(ns:QQ)(m:Value):List Obj ×List Obj:=dl a t l p n n (Pv.top i) ns m
def ds (a t:Nat)(l p:Int)(n q:Str)(st:Stmt)(m:Value):List Obj ×List Obj:=([tO #[],cO n t q (t+1) (t+2) l p 0 0 3 a true (a+1) .none .none .none (.ref (a+2)) (t+3:Nat) l (t+4),fO (.type "function") n q st 3 [] .none .none .none m none (.ref (a+3)) .none 0],[fi #[],f0 n q st])
def mE (P:Params):List (Str ×Nat ×Int ×Nat)->List DictEntry
 | []=>[]
 | (x,t,l,a)::r=>dE P x t (.ref (a+1))::mE P r
def mC:List (Str ×Nat ×Int ×Nat)->List (Int ×Nat)
 | []=>[]
 | (_,_,l,a)::r=>(l,a)::mC r
variable (P:Params)
abbrev _root_.QO:=List Value
def cl (m:Value)(a t:Nat)(n:Str)(l:Int)(ms:List (Str ×Nat ×Int ×Nat))(p s:Nat)(at':QO)(body:HBT)(K0 O0:List Obj)(b mr sb:QO)(z:Option Value)(nw:String)(ge:List DictEntry)(gs:List Obj)(dn:Nat)(d:Nat):HBT:=
 (K0,O0++ [fy "builtin_function_or_method" #[.builtin "type.__prepare__",.type "type"],dO (dE P "__module__" (t+7) m::dE P "__qualname__" (t+9) (.str n (t+8))::dE P "__firstlineno__" (t+11) (.int l (t+10))::(mE P ms++ [dE P "__static_attributes__" s (.ref p)])).toArray (ms.length+4),tO #[],fi (cs 4 (mC ms)).toArray,cO n (t+2) n (t+3) (t+4) l 0 0 0 0 (a+3) false (a+4) .none .none .none .none (t+5:Nat) l (t+6),fr (a+5) (a+2) m])::(body++ [([tO at'.toArray,dO (dE P "__module__" (t+7) m::dE P "__firstlineno__" (t+11) (.int l (t+10))::(mE P ms++(dE P "__static_attributes__" s (.ref p)::(ge++ [dE P "__doc__" d .none])))).toArray dn,.mk (.type "type") none (.cls (ClassData.mk n b (.ref (p+2)::mr) (p+1) n true [] sb false none false)) #[z,none,some (.str n t),some (.str n (t+8)),some (.builtin nw),some (.bool true)]]++gs,[fy "super" #[.ref (p+2),.ref (p+2),.ref (p+2)],fy "builtin_function_or_method" #[.builtin "object.__init_subclass__",.ref (p+2)]])])
def gD (p c t:Nat):Obj:=fy "getset_descriptor" #[.str "__dict__" t,.ref c,.builtin "function.__dict__",.builtin "function.__dict__#set"]
def gW (c t:Nat):Obj:=fy "getset_descriptor" #[.str "__weakref__" t,.ref c,.builtin "ExceptionGroup.__weakref__",.none]
def c0 (m:Value)(a t:Nat)(n:Str)(l:Int)(ms:List (Str ×Nat ×Int ×Nat))(p s:Nat)(at':QO)(sb:QO)(body:HBT):HBT:=cl P m a t n l ms p s at' body [] [tO #[]] [.type "object"] [.type "object"] sb none "object.__new__" [dE P "__dict__" (s+2) (.ref (p+3)),dE P "__weakref__" (s+4) (.ref (p+4))] [gD p (p+2) (s+1),gW (p+2) (s+3)] 4 (s+5)
def c1 (m:Value)(a t:Nat)(n:Str)(l:Int)(ms:List (Str ×Nat ×Int ×Nat))(p s:Nat)(at':QO)(b:Nat)(body:HBT):HBT:=cl P m a t n l ms p s at' body [tO #[.ref b]] [] [.ref b] [.ref b,.type "object"] [] (some (.ref a)) "object.__new__" [] [] 2 (s+1)
def c2 (m:Value)(a t:Nat)(n:Str)(l:Int)(ms:List (Str ×Nat ×Int ×Nat))(p s:Nat)(at':QO)(body:HBT):HBT:=cl P m a t n l ms p s at' body [tO #[.ref 24]] [] [.ref 24] [.ref 24,.type "ValueError",.type "Exception",.type "BaseException",.type "object"] [] (some (.ref a)) "ValueError.__new__" [] [] 2 (s+1)
def c3 (m:Value)(a t:Nat)(n:Str)(l:Int)(p s:Nat):HBT:=c2 P m a t n l [] p s [] []
def mm0:Value:=.str "papervault.errors" 187
def mm1:Value:=.str "papervault.seals" 458
def mm2:Value:=.str "papervault.things" 484
def mm3:Value:=.str "papervault.vaults" 559
def mm4:Value:=.str "papervault.papers" 720
def mm5:Value:=.str "papervault.nodes" 742
def mm6:Value:=.str "papervault.trees" 816
def mm7:Value:=.str "papervault.asks" 1031
def mm8:Value:=.str "law_papervault_k46_asked_again" 1303
noncomputable def GE:List DictEntry:=[dE P "__doc__" 166 .none,dE P "__package__" 167 .none,dE P "__loader__" 168 (.builtin "__main__.__loader__#opaque"),dE P "__spec__" 169 .none,dE P "__annotations__" 170 (.ref 6),dE P "__builtins__" 171 (.ref 4),dE P "__file__" 173 (.str "/claim/cut.py" 172),dE P "__cached__" 174 .none,dE P "VaultError" 206 (.ref 24),dE P "NoThing" 222 (.ref 37),dE P "NoPaper" 238 (.ref 49),dE P "BadThing" 254 (.ref 61),dE P "Clash" 281 (.ref 80),dE P "NotOn" 297 (.ref 92),dE P "NoState" 313 (.ref 104),dE P "NoName" 329 (.ref 116),dE P "NoTable" 345 (.ref 128),dE P "NoColumn" 361 (.ref 140),dE P "NoRow" 377 (.ref 152),dE P "NoQuestion" 393 (.ref 164),dE P "NoPlan" 409 (.ref 176),dE P "NoStep" 425 (.ref 188),dE P "NotSo" 441 (.ref 200),dE P "NoCommand" 457 (.ref 212),dE P "seal" 468 (.ref 221),dE P "codes" 474 (.ref 226),dE P "number_of" 483 (.ref 233),dE P "MOST_SIGNS" 487 (.int 60 486),dE P "MOST_PARTS" 489 (.int 40 488),dE P "MOST_DEEP" 491 (.int 5 490),dE P "PERCENT" 493 (.int 37 492),dE P "is_whole" 500 (.ref 240),dE P "is_thing" 507 (.ref 247),dE P "is_thing_within" 515 (.ref 254),dE P "is_tuple_within" 524 (.ref 261),dE P "has_signs_of_things" 532 (.ref 268),dE P "kind_of" 539 (.ref 275),dE P "ahead" 548 (.ref 282),dE P "is_tuple_ahead" 558 (.ref 289),dE P "rising" 566 (.ref 294),dE P "Vault" 620 (.ref 332),dE P "Keeper" 643 (.ref 353),dE P "Reader" 694 (.ref 393),dE P "Witness" 719 (.ref 412),dE P "answer_with_paper" 732 (.ref 421),dE P "checked" 741 (.ref 428),dE P "KEY" 745 (.int 0 744),dE P "WORTH" 747 (.int 1 746),dE P "LEFT" 749 (.int 2 748),dE P "RIGHT" 751 (.int 3 750),dE P "COUNT" 753 (.int 4 752),dE P "MOST_NODES" 755 (.int 300 754),dE P "BENEATH_NONE" 757 (.int 301 756),dE P "node_beneath" 767 (.ref 435),dE P "is_node" 774 (.ref 442),dE P "is_root" 781 (.ref 449),dE P "size" 789 (.ref 456),dE P "size_beneath" 798 (.ref 463),dE P "rank" 805 (.ref 470),dE P "above" 815 (.ref 477),dE P "side_of" 825 (.ref 484),dE P "way_to" 837 (.ref 491),dE P "ends_at" 845 (.ref 498),dE P "found" 855 (.ref 505),dE P "is_empty" 863 (.ref 512),dE P "goes_left" 871 (.ref 519),dE P "goes_right" 879 (.ref 526),dE P "refuse_sum" 889 (.ref 533),dE P "stretch" 903 (.ref 540),dE P "count_ahead" 914 (.ref 547),dE P "counted" 925 (.ref 554),dE P "nth" 937 (.ref 561),dE P "with_tree" 947 (.ref 568),dE P "hung" 959 (.ref 575),dE P "parted" 975 (.ref 582),dE P "place_in" 985 (.ref 589),dE P "put" 1001 (.ref 596),dE P "cut" 1012 (.ref 603),dE P "joined" 1030 (.ref 610),dE P "Ask" 1061 (.ref 627),dE P "Find" 1095 (.ref 655),dE P "Stretch" 1131 (.ref 681),dE P "Count" 1167 (.ref 707),dE P "Nth" 1201 (.ref 733),dE P "Put" 1237 (.ref 759),dE P "Cut" 1271 (.ref 785),dE P "Also" 1302 (.ref 809),dE P "_law_row" 1312 (.ref 818),dE P "_law_take" 1321 (.ref 825),dE P "_law_text" 1327 (.ref 830),dE P "_law_thing" 1333 (.ref 835),dE P "_law_first" 1339 (.ref 840),dE P "_law_some" 1347 (.ref 847),dE P "_law_sorted" 1353 (.ref 852),dE P "_law_grown" 1367 (.ref 859),dE P "_law_within" 1379 (.ref 866),dE P "_law_key" 1387 (.ref 873),dE P "_law_ask" 1399 (.ref 880),dE P "_law_lacks" 1411 (.ref 887),dE P "_law_copy" 1417 (.ref 892),dE P "_law_told" 1428 (.ref 899),dE P "_law_slowly" 1439 (.ref 906),dE P "_law_checked_again" 1449 (.ref 913),dE P "_law_held" 1455 (.ref 918),dE P "law" 1465 (.ref 925)]
noncomputable def CT:List (Int ×Nat):=[(2,20),(4,33),(6,45),(8,57),(10,69),(15,88),(17,100),(19,112),(21,124),(23,136),(25,148),(27,160),(29,172),(31,184),(33,196),(35,208),(38,220),(43,225),(56,232),(66,239),(68,246),(70,253),(78,260),(85,267),(90,274),(98,281),(107,288),(113,293),(115,300),(134,342),(138,361),(161,401),(170,420),(174,427),(184,434),(189,441),(197,448),(199,455),(201,462),(205,469),(207,476),(214,483),(216,490),(227,497),(229,504),(232,511),(234,518),(236,525),(238,532),(243,539),(264,546),(273,553),(280,560),(298,567),(302,574),(306,581),(319,588),(324,595),(335,602),(341,609),(362,616),(366,637),(373,663),(381,689),(389,715),(396,741),(404,767),(411,793),(419,817),(424,824),(431,829),(438,834),(451,839),(459,846),(464,851),(472,858),(487,865),(493,872),(497,879),(515,886),(525,891),(529,898),(532,905),(539,912),(548,917),(566,924)]
def HB:HBT:=[([.mk .none none (.dict #[]) #[],dO (dE P "__name__" 165 (.str "law_papervault_k46_asked_again" 1303)::GE P).toArray 106],[boot_o_0 P,boot_o_1 P,boot_o_4 P,boot_o_5 P,boot_o_6 P,boot_o_7 P,boot_o_8 P,boot_o_9 P,boot_o_10 P,boot_o_7 P,fi (cs 0 CT).toArray,cO "<module>" 182 "<module>" 183 184 1 0 0 0 0 11 false 12 .none .none .none .none 185 1 186,.mk (.type "frame") none .plain #[some (.ref 13),some (.ref 3),some (.ref 3),none,some (.str "__main__" 164),none,some (.ref 0)]])]
++cl P mm0 15 189 "VaultError" 2 [] 22 201 [] [] [tO #[.type "ValueError"]] [] [.type "ValueError"] [.type "ValueError",.type "Exception",.type "BaseException",.type "object"] [.ref 37,.ref 49,.ref 61,.ref 80,.ref 92,.ref 104,.ref 116,.ref 128,.ref 140,.ref 152,.ref 164,.ref 176,.ref 188,.ref 200,.ref 212] (some (.ref 15)) "ValueError.__new__" [dE P "__weakref__" 203 (.ref 25)] [gW 24 202] 3 204
++c3 P mm0 28 207 "NoThing" 4 35 219
++c3 P mm0 40 223 "NoPaper" 6 47 235
++c3 P mm0 52 239 "BadThing" 8 59 251
++c2 P mm0 64 255 "Clash" 10 [("__init__",275,12,76)] 78 278 [.str "one" 276,.str "other" 277] [dl 71 267 12 3 "__init__" "Clash.__init__" (L2.inClass (Pv.top 5) 0) ["self","one","other"] mm0]
++c3 P mm0 83 282 "NotOn" 15 90 294
++c3 P mm0 95 298 "NoState" 17 102 310
++c3 P mm0 107 314 "NoName" 19 114 326
++c3 P mm0 119 330 "NoTable" 21 126 342
++c3 P mm0 131 346 "NoColumn" 23 138 358
++c3 P mm0 143 362 "NoRow" 25 150 374
++c3 P mm0 155 378 "NoQuestion" 27 162 390
++c3 P mm0 167 394 "NoPlan" 29 174 406
++c3 P mm0 179 410 "NoStep" 31 186 422
++c3 P mm0 191 426 "NotSo" 33 198 438
++c3 P mm0 203 442 "NoCommand" 35 210 454
++ [dt 215 460 38 1 "seal" 18 ["thing","folded","code"] mm1,
ds 222 469 43 1 "codes" "codes" (Pv.top 19) mm1,
dt 227 475 56 1 "number_of" 20 ["signs","number","sign"] mm1,
dt 234 494 66 1 "is_whole" 26 ["value"] mm2,
dt 241 501 68 1 "is_thing" 27 ["thing"] mm2,
dt 248 508 70 2 "is_thing_within" 28 ["thing","deep"] mm2,
dt 255 516 78 2 "is_tuple_within" 29 ["parts","deep","part"] mm2,
dt 262 525 85 1 "has_signs_of_things" 30 ["text","sign"] mm2,
dt 269 533 90 1 "kind_of" 31 ["thing"] mm2,
dt 276 540 98 2 "ahead" 32 ["one","other","kind"] mm2,
dt 283 549 107 2 "is_tuple_ahead" 33 ["one","other","mine","its"] mm2,
ds 290 561 113 1 "rising" "rising" (Pv.top 35) mm3]
++c0 P mm3 295 567 "Vault" 115 [("__init__",585,117,307),("refuse_clash",594,120,314),("lay",603,124,321),("thing",611,130,328)] 330 613 [.str "laid" 612] [.ref 353,.ref 393,.ref 412] [dl 302 579 117 1 "__init__" "Vault.__init__" (L2.inClass (Pv.top 36) 0) ["self"] mm3,dl 309 586 120 3 "refuse_clash" "Vault.refuse_clash" (L2.inClass (Pv.top 36) 1) ["self","number","thing"] mm3,dl 316 595 124 2 "lay" "Vault.lay" (L2.inClass (Pv.top 36) 2) ["self","thing","number"] mm3,dl 323 604 130 2 "thing" "Vault.thing" (L2.inClass (Pv.top 36) 3) ["self","number"] mm3]
++c1 P mm3 337 621 "Keeper" 134 [("things",639,136,349)] 351 640 [] 332 [dl 344 633 136 1 "things" "Keeper.things" (L2.inClass (Pv.top 37) 0) ["self"] mm3]
++c1 P mm3 356 644 "Reader" 138 [("__init__",663,140,368),("lay",672,145,375),("thing",681,152,382),("paper",688,159,389)] 391 691 [.str "keeper" 689,.str "noted" 690] 332 [dl 363 656 140 2 "__init__" "Reader.__init__" (L2.inClass (Pv.top 38) 0) ["self","keeper"] mm3,dl 370 664 145 2 "lay" "Reader.lay" (L2.inClass (Pv.top 38) 1) ["self","thing","number"] mm3,dl 377 673 152 2 "thing" "Reader.thing" (L2.inClass (Pv.top 38) 2) ["self","number","read"] mm3,dl 384 682 159 1 "paper" "Reader.paper" (L2.inClass (Pv.top 38) 3) ["self"] mm3]
++c1 P mm3 396 695 "Witness" 161 [("__init__",715,163,408)] 410 716 [] 332 [dl 403 707 163 2 "__init__" "Witness.__init__" (L2.inClass (Pv.top 39) 0) ["self","paper","thing"] mm3]
++ [dt 415 722 170 3 "answer_with_paper" 41 ["keeper","root","ask","reader","answer"] mm4,
dt 422 733 174 3 "checked" 42 ["root","ask","paper"] mm4,
dt 429 758 184 3 "node_beneath" 51 ["vault","root","count","node"] mm5,
dt 436 768 189 1 "is_node" 52 ["thing"] mm5,
dt 443 775 197 1 "is_root" 53 ["thing"] mm5,
dt 450 782 199 2 "size" 54 ["vault","root"] mm5,
dt 457 790 201 3 "size_beneath" 55 ["vault","root","count"] mm5,
dt 464 799 205 1 "rank" 56 ["key"] mm5,
dt 471 806 207 2 "above" 57 ["key","other","mine","its"] mm5,
dt 478 818 214 2 "side_of" 59 ["node","key"] mm6,
dt 485 826 216 3 "way_to" 60 ["vault","root","key","way","count","node"] mm6,
dt 492 838 227 2 "ends_at" 61 ["way","key"] mm6,
dt 499 846 229 3 "found" 62 ["vault","root","key","way"] mm6,
dt 506 856 232 2 "is_empty" 63 ["low","high"] mm6,
dt 513 864 234 2 "goes_left" 64 ["node","low"] mm6,
dt 520 872 236 2 "goes_right" 65 ["node","high"] mm6,
dt 527 880 238 2 "refuse_sum" 66 ["vault","node","left","right"] mm6,
dt 534 890 243 4 "stretch" 67 ["vault","root","low","high","pairs","begun","count","node"] mm6,
dt 541 904 264 3 "count_ahead" 68 ["vault","root","key","many","node"] mm6,
dt 548 915 273 4 "counted" 69 ["vault","root","low","high","many"] mm6,
dt 555 926 280 3 "nth" 70 ["vault","root","number","count","node","left"] mm6,
dt 562 938 298 4 "with_tree" 71 ["node","side","root","count"] mm6,
dt 569 948 302 5 "hung" 72 ["vault","way","key","root","more","node"] mm6,
dt 576 960 306 5 "parted" 73 ["vault","way","key","root","count","left","left_count","right","right_count","node"] mm6,
dt 583 976 319 2 "place_in" 74 ["way","key","number","node"] mm6,
dt 590 986 324 4 "put" 75 ["vault","root","key","worth","way","own","new","place","trees","count"] mm6,
dt 597 1002 335 3 "cut" 76 ["vault","root","key","way","own"] mm6,
dt 604 1013 341 4 "joined" 77 ["vault","left","right","count","left_count","right_count","down","one","other","both","root","step"] mm6]
++c0 P mm7 611 1033 "Ask" 362 [("answer",1053,364,623)] 625 1054 [] [.ref 655,.ref 681,.ref 707,.ref 733,.ref 759,.ref 785,.ref 809] [dl 618 1045 364 3 "answer" "Ask.answer" (L2.inClass (Pv.top 79) 0) ["self","vault","root"] mm7]
++c1 P mm7 632 1062 "Find" 366 [("__init__",1081,368,644),("answer",1090,371,651)] 653 1092 [.str "key" 1091] 627 [dl 639 1074 368 2 "__init__" "Find.__init__" (L2.inClass (Pv.top 80) 0) ["self","key"] mm7,dl 646 1082 371 3 "answer" "Find.answer" (L2.inClass (Pv.top 80) 1) ["self","vault","root"] mm7]
++c1 P mm7 658 1096 "Stretch" 373 [("__init__",1116,375,670),("answer",1125,379,677)] 679 1128 [.str "high" 1126,.str "low" 1127] 627 [dl 665 1108 375 3 "__init__" "Stretch.__init__" (L2.inClass (Pv.top 81) 0) ["self","low","high"] mm7,dl 672 1117 379 3 "answer" "Stretch.answer" (L2.inClass (Pv.top 81) 1) ["self","vault","root"] mm7]
++c1 P mm7 684 1132 "Count" 381 [("__init__",1152,383,696),("answer",1161,387,703)] 705 1164 [.str "high" 1162,.str "low" 1163] 627 [dl 691 1144 383 3 "__init__" "Count.__init__" (L2.inClass (Pv.top 82) 0) ["self","low","high"] mm7,dl 698 1153 387 3 "answer" "Count.answer" (L2.inClass (Pv.top 82) 1) ["self","vault","root"] mm7]
++c1 P mm7 710 1168 "Nth" 389 [("__init__",1187,391,722),("answer",1196,394,729)] 731 1198 [.str "number" 1197] 627 [dl 717 1180 391 2 "__init__" "Nth.__init__" (L2.inClass (Pv.top 83) 0) ["self","number"] mm7,dl 724 1188 394 3 "answer" "Nth.answer" (L2.inClass (Pv.top 83) 1) ["self","vault","root"] mm7]
++c1 P mm7 736 1202 "Put" 396 [("__init__",1222,398,748),("answer",1231,402,755)] 757 1234 [.str "key" 1232,.str "worth" 1233] 627 [dl 743 1214 398 3 "__init__" "Put.__init__" (L2.inClass (Pv.top 84) 0) ["self","key","worth"] mm7,dl 750 1223 402 3 "answer" "Put.answer" (L2.inClass (Pv.top 84) 1) ["self","vault","root"] mm7]
++c1 P mm7 762 1238 "Cut" 404 [("__init__",1257,406,774),("answer",1266,409,781)] 783 1268 [.str "key" 1267] 627 [dl 769 1250 406 2 "__init__" "Cut.__init__" (L2.inClass (Pv.top 85) 0) ["self","key"] mm7,dl 776 1258 409 3 "answer" "Cut.answer" (L2.inClass (Pv.top 85) 1) ["self","vault","root"] mm7]
++c1 P mm7 788 1272 "Also" 411 [("__init__",1291,413,800),("answer",1297,416,805)] 807 1299 [.str "asks" 1298] 627 [dl 795 1284 413 2 "__init__" "Also.__init__" (L2.inClass (Pv.top 86) 0) ["self","asks"] mm7,ds 802 1292 416 3 "answer" "Also.answer" (L2.inClass (Pv.top 86) 1) mm7]
++ [dt 812 1305 419 1 "_law_row" 88 ["cell","low"] mm8,
dt 819 1313 424 2 "_law_take" 89 ["row","many","got"] mm8,
ds 826 1322 431 1 "_law_text" "_law_text" (Pv.top 90) mm8,
ds 831 1328 438 2 "_law_thing" "_law_thing" (Pv.top 91) mm8,
ds 836 1334 451 1 "_law_first" "_law_first" (Pv.top 92) mm8,
dt 841 1340 459 1 "_law_some" 93 ["row","new"] mm8,
([],[boot_o_7 P,boot_o_8 P,f0 "_law_sorted" "_law_sorted" (Pv.top 94),cO "_law_sorted" 1348 "_law_sorted" 1349 1350 464 1 0 0 3 848 true 849 .none .none .none (.ref 850) 1351 464 1352,f1 "_law_sorted" "_law_sorted" (Pv.top 94) "law_papervault_k46_asked_again" 1303 851]),
dt 853 1354 472 4 "_law_grown" 95 ["keeper","cells","pool","plain","root","cell","row","key"] mm8,
([],[boot_o_7 P,boot_o_8 P,tO #[.str "pairs" 1371,.str "low" 1372,.str "high" 1373,.str "some" 1374,.str "key" 1375,.str "worth" 1376],boot_o_7 P,f0 "_law_within" "_law_within" (Pv.top 96),cO "_law_within" 1368 "_law_within" 1369 1370 487 3 0 0 3 860 true 861 .none (.ref 862) (.ref 863) (.ref 864) 1377 487 1378,f1 "_law_within" "_law_within" (Pv.top 96) "law_papervault_k46_asked_again" 1303 865]),
dt 867 1380 493 2 "_law_key" 97 ["row","pool"] mm8,
dt 874 1388 497 2 "_law_ask" 98 ["row","pool","kind","low","high","key"] mm8,
dt 881 1400 515 3 "_law_lacks" 99 ["keeper","root","ask","lacks","other","e"] mm8,
ds 888 1412 525 1 "_law_copy" "_law_copy" (Pv.top 100) mm8,
dt 893 1418 529 3 "_law_told" 101 ["keeper","root","ask","answer","paper"] mm8,
dt 900 1429 532 3 "_law_slowly" 102 ["root","ask","told","keeper","k"] mm8,
dt 907 1440 539 3 "_law_checked_again" 103 ["root","ask","told","lacks"] mm8,
ds 914 1450 548 1 "_law_held" "_law_held" (Pv.top 104) mm8,
dt 919 1456 566 1 "law" 105 ["script","caught","right","e"] mm8]
noncomputable def RL:List (Nat ×Nat):=[(2,2),(15,1),(22,4),(28,1),(35,3),(40,1),(47,3),(52,1),(59,3),(64,1),(71,1),(73,2),(76,5),(83,1),(90,3),(95,1),(102,3),(107,1),(114,3),(119,1),(126,3),(131,1),(138,3),(143,1),(150,3),(155,1),(162,3),(167,1),(174,3),(179,1),(186,3),(191,1),(198,3),(203,1),(210,3),(215,1),(217,2),(220,3),(225,3),(229,2),(232,3),(236,2),(239,3),(243,2),(246,3),(250,2),(253,3),(257,2),(260,3),(264,2),(267,3),(271,2),(274,3),(278,2),(281,3),(285,2),(288,3),(293,2),(302,1),(304,2),(307,3),(311,2),(314,3),(318,2),(321,3),(325,2),(328,7),(337,1),(344,1),(346,2),(349,5),(356,1),(363,1),(365,2),(368,3),(372,2),(375,3),(379,2),(382,3),(386,2),(389,5),(396,1),(403,1),(405,2),(408,5),(415,1),(417,2),(420,3),(424,2),(427,3),(431,2),(434,3),(438,2),(441,3),(445,2),(448,3),(452,2),(455,3),(459,2),(462,3),(466,2),(469,3),(473,2),(476,3),(480,2),(483,3),(487,2),(490,3),(494,2),(497,3),(501,2),(504,3),(508,2),(511,3),(515,2),(518,3),(522,2),(525,3),(529,2),(532,3),(536,2),(539,3),(543,2),(546,3),(550,2),(553,3),(557,2),(560,3),(564,2),(567,3),(571,2),(574,3),(578,2),(581,3),(585,2),(588,3),(592,2),(595,3),(599,2),(602,3),(606,2),(609,2),(618,1),(620,2),(623,7),(632,1),(639,1),(641,2),(644,3),(648,2),(651,5),(658,1),(665,1),(667,2),(670,3),(674,2),(677,5),(684,1),(691,1),(693,2),(696,3),(700,2),(703,5),(710,1),(717,1),(719,2),(722,3),(726,2),(729,5),(736,1),(743,1),(745,2),(748,3),(752,2),(755,5),(762,1),(769,1),(771,2),(774,3),(778,2),(781,5),(788,1),(795,1),(797,2),(800,3),(805,5),(812,1),(814,2),(817,3),(821,2),(824,3),(829,3),(834,3),(839,3),(843,2),(846,2),(853,1),(855,2),(858,2),(867,1),(869,2),(872,3),(876,2),(879,3),(883,2),(886,3),(891,3),(895,2),(898,3),(902,2),(905,3),(909,2),(912,3),(917,3),(921,2),(924,2)]
abbrev _root_.QP:=List Addr
noncomputable def KA:List Addr:=by
 refine(?g:(f:QP)->f=rgs RL->List Addr) ?f ?pf
 case g=>exact λf _=>f
 case pf=>
  conv=>rhs;reduce
noncomputable def KO:List Obj:=by
 refine(?g:(f:List Obj)->f=ka (HB P)->List Obj) ?f ?pf
 case g=>exact λf _=>f
 case pf=>
  dsimp only[HB,GE,CT,dt,dl,ds,mE,mC,cl,gD,gW,c0,c1,c2,c3,nm,cs,mm0,mm1,mm2,mm3,mm4,mm5,mm6,mm7,mm8,ka,List.cons_append,List.nil_append,List.append_nil,List.length_cons,List.length_nil,Nat.reduceAdd,Int.cast_ofNat_Int]
  rfl
noncomputable def KK:Params->Frag:=λP=>by
 refine(?g:(f:Frag)->f=kz KA (KO P)->Frag) ?f ?pf
 case g=>exact λf _=>f
 case pf=>
  conv=>rhs;delta KA KO;(repeat (whnf;arg 2));whnf
def FL:List Obj:=wv 0 RL (kb (HB P)) ((KK P).map (·.2))
def T0:BT:=bt 12 ((((FL P).take 15).set 3 (dO (dE P "__name__" 165 (.str "__main__" 164)::(GE P).take 8).toArray 9)).set 12 (boot_o_8 P))
def T1:BT:=bt 12 (((((FL P).take 119).set 3 (dO (dE P "__name__" 165 (.str "papervault.errors" 187)::(GE P).take 16).toArray 17)).set 12 (fi (cs 0 (CT.take 8)).toArray)).set 24 (.mk (.type "type") none (.cls (ClassData.mk "VaultError" [.type "ValueError"] [.ref 24,.type "ValueError",.type "Exception",.type "BaseException",.type "object"] 23 "VaultError" true [] [.ref 37,.ref 49,.ref 61,.ref 80,.ref 92,.ref 104,.ref 116] false none false)) #[some (.ref 15),none,some (.str "VaultError" 189),some (.str "VaultError" 197),some (.builtin "ValueError.__new__"),some (.bool true)]))
def T2:BT:=bt 12 ((((FL P).take 227).set 3 (dO (dE P "__name__" 165 (.str "papervault.seals" 458)::(GE P).take 26).toArray 27)).set 12 (fi (cs 0 (CT.take 18)).toArray))
def T3:BT:=bt 12 ((((FL P).take 464).set 3 (dO (dE P "__name__" 165 (.str "papervault.nodes" 742)::(GE P).take 58).toArray 59)).set 12 (fi (cs 0 (CT.take 39)).toArray))
def T4:BT:=bt 12 (((((FL P).take 710).set 3 (dO (dE P "__name__" 165 (.str "papervault.asks" 1031)::(GE P).take 83).toArray 84)).set 12 (fi (cs 0 (CT.take 64)).toArray)).set 627 (.mk (.type "type") none (.cls (ClassData.mk "Ask" [.type "object"] [.ref 627,.type "object"] 626 "Ask" true [] [.ref 655,.ref 681,.ref 707] false none false)) #[none,none,some (.str "Ask" 1033),some (.str "Ask" 1041),some (.builtin "object.__new__"),some (.bool true)]))
def T5:BT:=bt 12 (FL P)
def HF:Heap:={objs:=⟨FL P⟩}
end
noncomputable abbrev PQ:Program:=PySem.Challenge.rw_papervault_k46_asked_again.prog
noncomputable def VQ:Program:={PySem.Challenge.pw_papervault_k46_asked_again with main:={PySem.Challenge.pw_papervault_k46_asked_again.main with body:=[top 1,top 2,top 3,top 4,top 5,top 6,top 7,top 8,top 9,top 10,top 11,top 12,top 13,top 14,top 15,top 16,top 18,top 19,top 20,top 22,top 23,top 24,top 25,top 26,top 27,top 28,top 29,top 30,top 31,top 32,top 33,top 35,top 36,top 37,top 38,top 39,top 41,top 42,top 44,top 45,top 46,top 47,top 48,top 49,top 50,top 51,top 52,top 53,top 54,top 55,top 56,top 57,top 59,top 60,top 61,top 62,top 63,top 64,top 65,top 66,top 67,top 68,top 69,top 70,top 71,top 72,top 73,top 74,top 75,top 76,top 77,top 79,top 80,top 81,top 82,top 83,top 84,top 85,top 86,top 88,top 89,top 90,top 91,top 92,top 93,top 94,top 95,top 96,top 97,top 98,top 99,top 100,top 101,top 102,top 103,top 104,top 105]}}
noncomputable abbrev RQ:OpenRow:=OpenLaw.row PySem.Challenge.rw_papervault_k46_asked_again
noncomputable def EV:Env:={scope:=RQ.prog.main.scope,locals:=mainNs,globals:=mainNs,cells:=[],code:=.ref 13,frame:=some 14}
noncomputable abbrev BQ:List Stmt:=behindTheImports RQ.prog
noncomputable abbrev CQ:Code:=.body BQ EV
noncomputable abbrev TQ:List Frame:=[topFrame ⟨0,0,0,0⟩]
noncomputable abbrev ST (t:BT)(n k:Nat)(os:OsState):SharedT:=⟨t,n,{}, #[],{},k,os⟩
theorem go0 (w:World):(λos=>topGo treeTable RQ.prog w 11 (some (.ref 6)) 12 {heap:=boot_heap w.params,drawn:=boot_drawn,toks:=boot_toks,os:=os} (topStub RQ.prog))=λos=>some ((ST (T0 w.params) 15 187 os).abs,⟨denote treeTable CQ,CQ,⟨0,0,0,0⟩,TQ⟩):=by kernel_rfl
theorem go1 (w:World):(λos=>segRun treeTable RQ.prog w 11 (some (.ref 6)) 1 1 (ST (T0 w.params) 15 187 os).abs (blockOf BQ EV CQ ⟨0,0,0,0⟩ TQ))=λos=>some (Flow.next,(ST (T0 w.params) 15 187 os).abs,CQ,⟨0,0,0,0⟩):=by kernel_rfl
theorem pc1 (w:World):(λos=>PySem.W.Fast.tw10110043849684766642 PySem.W.Fast.tw14364793385576792824 RQ.prog w 11 (some (.ref 6)) 1 1737 (ST (T0 w.params) 15 187 os) (piecesOf (BQ.take 9) EV CQ ⟨0,0,0,0⟩ TQ))=λos=>some (Flow.next,ST (T1 w.params) 119 330 os,CQ,⟨19,0,20,8⟩):=by kernel_rfl
theorem sg1 (w:World)(os:OsState):segRunT treeTable RQ.prog w 11 (some (.ref 6)) 1 1737 (ST (T0 w.params) 15 187 os) (piecesOf (BQ.take 9) EV CQ ⟨0,0,0,0⟩ TQ)=some (Flow.next,ST (T1 w.params) 119 330 os,CQ,⟨19,0,20,8⟩):=by rw[PySem.W.Fast.te10110043849684766642,PySem.W.Fast.te14364793385576792824];exact congrFun (pc1 w) os
theorem pc2 (w:World):(λos=>PySem.W.Fast.tw10110043849684766642 PySem.W.Fast.tw14364793385576792824 RQ.prog w 11 (some (.ref 6)) 1 1789 (ST (T1 w.params) 119 330 os) (piecesOf ((BQ.drop 9).take 11) EV CQ ⟨19,0,20,8⟩ TQ))=λos=>some (Flow.next,ST (T2 w.params) 227 475 os,CQ,⟨43,0,55,14⟩):=by kernel_rfl
theorem sg2 (w:World)(os:OsState):segRunT treeTable RQ.prog w 11 (some (.ref 6)) 1 1789 (ST (T1 w.params) 119 330 os) (piecesOf ((BQ.drop 9).take 11) EV CQ ⟨19,0,20,8⟩ TQ)=some (Flow.next,ST (T2 w.params) 227 475 os,CQ,⟨43,0,55,14⟩):=by rw[PySem.W.Fast.te10110043849684766642,PySem.W.Fast.te14364793385576792824];exact congrFun (pc2 w) os
theorem pc3 (w:World):(λos=>PySem.W.Fast.tw10110043849684766642 PySem.W.Fast.tw14364793385576792824 RQ.prog w 11 (some (.ref 6)) 1 1842 (ST (T2 w.params) 227 475 os) (piecesOf (((BQ.drop 9).drop 11).take 36) EV CQ ⟨43,0,55,14⟩ TQ))=λos=>some (Flow.next,ST (T3 w.params) 464 799 os,CQ,⟨201,0,204,50⟩):=by kernel_rfl
theorem sg3 (w:World)(os:OsState):segRunT treeTable RQ.prog w 11 (some (.ref 6)) 1 1842 (ST (T2 w.params) 227 475 os) (piecesOf (((BQ.drop 9).drop 11).take 36) EV CQ ⟨43,0,55,14⟩ TQ)=some (Flow.next,ST (T3 w.params) 464 799 os,CQ,⟨201,0,204,50⟩):=by rw[PySem.W.Fast.te10110043849684766642,PySem.W.Fast.te14364793385576792824];exact congrFun (pc3 w) os
theorem pc4 (w:World):(λos=>PySem.W.Fast.tw10110043849684766642 PySem.W.Fast.tw14364793385576792824 RQ.prog w 11 (some (.ref 6)) 1 1805 (ST (T3 w.params) 464 799 os) (piecesOf ((((BQ.drop 9).drop 11).drop 36).take 27) EV CQ ⟨201,0,204,50⟩ TQ))=λos=>some (Flow.next,ST (T4 w.params) 710 1168 os,CQ,⟨381,0,388,56⟩):=by kernel_rfl
theorem sg4 (w:World)(os:OsState):segRunT treeTable RQ.prog w 11 (some (.ref 6)) 1 1805 (ST (T3 w.params) 464 799 os) (piecesOf ((((BQ.drop 9).drop 11).drop 36).take 27) EV CQ ⟨201,0,204,50⟩ TQ)=some (Flow.next,ST (T4 w.params) 710 1168 os,CQ,⟨381,0,388,56⟩):=by rw[PySem.W.Fast.te10110043849684766642,PySem.W.Fast.te14364793385576792824];exact congrFun (pc4 w) os
theorem pc5 (w:World):(λos=>PySem.W.Fast.tw10110043849684766642 PySem.W.Fast.tw14364793385576792824 RQ.prog w 11 (some (.ref 6)) 1 1694 (ST (T4 w.params) 710 1168 os) (piecesOf (((((BQ.drop 9).drop 11).drop 36).drop 27).take 23) EV CQ ⟨381,0,388,56⟩ TQ))=λos=>some (Flow.next,ST (T5 w.params) 926 1466 os,CQ,⟨566,0,575,16⟩):=by kernel_rfl
theorem sg5 (w:World)(os:OsState):segRunT treeTable RQ.prog w 11 (some (.ref 6)) 1 1694 (ST (T4 w.params) 710 1168 os) (piecesOf (((((BQ.drop 9).drop 11).drop 36).drop 27).take 23) EV CQ ⟨381,0,388,56⟩ TQ)=some (Flow.next,ST (T5 w.params) 926 1466 os,CQ,⟨566,0,575,16⟩):=by rw[PySem.W.Fast.te10110043849684766642,PySem.W.Fast.te14364793385576792824];exact congrFun (pc5 w) os
noncomputable abbrev SF (w:World)(os:OsState):Shared:={heap:=HF w.params,toks:=1466,os:=os}
theorem goN (w:World):(λos=>topRun treeTable RQ.prog w 11 (some (.ref 6)) 3 (ST (T5 w.params) 926 1466 os).abs ⟨doneF Flow.next,CQ,⟨566,0,575,16⟩,TQ⟩)=λos=>some (SF w os):=by kernel_rfl
theorem goE:(((((BQ.drop 9).drop 11).drop 36).drop 27).drop 23)=[]:=by kernel_rfl
theorem goA {r:Shared}{b:List Stmt}(k:Nat)(h:topRun treeTable RQ.prog w 11 (some (.ref 6)) N s (restOf (b.take k++b.drop k) EV CQ q TQ)=some r):topRun treeTable RQ.prog w 11 (some (.ref 6)) N s (restOf b EV CQ q TQ)=some r:=by rwa[List.take_append_drop] at h
theorem runs (w:World)(os:OsState):topRun treeTable RQ.prog w 11 (some (.ref 6)) (12+(1+(1737+(1789+(1842+(1805+(1694+(3)))))))) {heap:=boot_heap w.params,drawn:=boot_drawn,toks:=boot_toks,os:=os} (topStub RQ.prog)=some (SF w os):=by refine go_top (congrFun (go0 w) os) ?_;refine piece_block (congrFun (go1 w) os) ?_;refine goA 9 ?_;refine piece_app (segRun_of (sg1 w os)) ?_;refine goA 11 ?_;refine piece_app (segRun_of (sg2 w os)) ?_;refine goA 36 ?_;refine piece_app (segRun_of (sg3 w os)) ?_;refine goA 27 ?_;refine piece_app (segRun_of (sg4 w os)) ?_;refine goA 23 ?_;refine piece_app (segRun_of (sg5 w os)) ?_;rw[goE];exact piece_nil (congrFun (goN w) os)
noncomputable abbrev SQ (s:Shared):=PySem.W.Fast.tw4187177175401517315 VQ [] [] (λs=>xlAt VQ [] s && recOk (RowW.records (OpenRow.toRowW RQ)) s) true s
theorem zs5:[]=importedModules RQ.prog.main.body:=by kernel_rfl
theorem opn (w:World):(fencedOpening treeTable RQ.prog w 8883).map (λs=>(s.heap,s.gens,s.drawn,s.toks))=some (boot_heap w.params, #[],boot_drawn,boot_toks):=by kernel_rfl
theorem obs0 (w:World)(os:OsState):(staticsOk [] (boot_heap w.params) (HF w.params) && namesBound RQ.prog (HF w.params) && gensDone (SF w os) && laidKept (boot_heap w.params) (HF w.params))=true:=by kernel_rfl
theorem obs1 (w:World)(os:OsState):(SQ (SF w os)).1=(openGood VQ []).1:=by kernel_rfl
theorem obs2 (w:World)(os:OsState):(SQ (SF w os)).2.1=(openGood VQ []).2.1:=by kernel_rfl
theorem obs3 (w:World)(os:OsState):(SQ (SF w os)).2.2.1=(openGood VQ []).2.2.1:=by kernel_rfl
theorem obs4 (w:World)(os:OsState):(SQ (SF w os)).2.2.2.1=(openGood VQ []).2.2.2.1:=by kernel_rfl
theorem obs5 (w:World)(os:OsState):(SQ (SF w os)).2.2.2.2.1=(openGood VQ []).2.2.2.2.1:=by kernel_rfl
theorem obs6 (w:World)(os:OsState):(SQ (SF w os)).2.2.2.2.2=(openGood VQ []).2.2.2.2.2:=by kernel_rfl
theorem obs7 (w:World):KA.map (HF w.params).get? =(KK w.params).map λp=>some p.2:=by kernel_rfl
theorem left:LeftO RQ.prog VQ [] (λs=>xlAt VQ [] s && recOk (RowW.records (OpenRow.toRowW RQ)) s) (λs=>KA.map s.heap.get?) (λw=>(KK w.params).map λp=>some p.2) 8883:=by refine LeftO.of_pieces (H₀:=boot_heap) (H₁:=HF) (gs₀:= #[]) (gs₁:= #[]) (d₀:=boot_drawn) (d₁:={}) (k₀:=boot_toks) (k₁:=1466) (m₀:=11) (ann:=some (.ref 6)) (M:=12+(1+(1737+(1789+(1842+(1805+(1694+(3)))))))) opn (λw=>by kernel_rfl) runs (by kernel_rfl) λw=>funext λos=>?_;rw[<-zs5];refine Prod.ext (obs0 w os) (Prod.ext ?_ (obs7 w));rw[PySem.W.Fast.te4187177175401517315];exact Prod.ext (obs1 w os) (Prod.ext (obs2 w os) (Prod.ext (obs3 w os) (Prod.ext (obs4 w os) (Prod.ext (obs5 w os) (obs6 w os)))))
theorem addrs:∀P,KA=(KK P).map (·.1):=λP=>by kernel_rfl
theorem said:PySem.Challenge.rw_papervault_k46_asked_again.wellSaid=true:=by kernel_rfl
end Pv
namespace L2
open PySem PySem.Spec PyProof.Rows
abbrev Key:=Sum Int Str
def zfk:Key->Value->Bool
 | .inl k,v=>Value.isInt k v
 | .inr x,v=>Value.isStrOf x v
def keyH (w:World):Key->Int
 | .inl k=>hashInt k
 | .inr x=>hashStr w x
theorem zJ:∀{k:Key}{v:Value},zfk k v=true->(∃i t,k=Sum.inl i/\v=Value.int i t)\/(∃x t,k=Sum.inr x/\v=Value.str x t)
 | .inl i,v,h=>by obtain⟨t,e⟩:=Value.isInt_shape (k:=i) (v:=v) h;exact .inl ⟨i,t,rfl,e⟩
 | .inr x,v,h=>by obtain⟨t,e⟩:=Value.isStrOf_shape (x:=x) (v:=v) h;exact .inr ⟨x,t,rfl,e⟩
def zlR (i:Int)(t:Tok):zfk (.inl i) (.int i t)=true:=by simp[zfk,Value.isInt]
def zlP (x:Str)(t:Tok):zfk (.inr x) (.str x t)=true:=by simp[zfk,Value.isStrOf]
def _root_.Jd:=@decide_eq_false
theorem zrw (a b:Int):decide ((Sum.inl a:Key)=Sum.inl b)=(a==b):=by
 by_cases e:a=b
 ·subst e;simp
 ·have h:¬(Sum.inl a:Key)=Sum.inl b:=λq=>e (Sum.inl.inj q);rw[Jd h];exact(beq_eq_false_iff_ne.mpr e).symm
theorem zrl (a b:Str):decide ((Sum.inr a:Key)=Sum.inr b)=decide (a=b):=by
 by_cases e:a=b
 ·subst e;simp
 ·have h:¬(Sum.inr a:Key)=Sum.inr b:=λq=>e (Sum.inr.inj q);rw[Jd h,Jd e]
theorem zsu (a:Int)(b:Str):decide ((Sum.inl a:Key)=Sum.inr b)=false:=Jd (λq=>nomatch q)
theorem zrU (a:Str)(b:Int):decide ((Sum.inr a:Key)=Sum.inl b)=false:=Jd (λq=>nomatch q)
def zac (prog:Program)(w:World):PySem.KeyKind prog w Key where
 is:=zfk
 hash:=keyH w
 inj:=λv a b ha hb=>by
  rcases zJ ha with ⟨i,t,rfl,rfl⟩ | ⟨x,t,rfl,rfl⟩
  ·rcases zJ hb with ⟨j,u,rfl,e⟩ | ⟨y,u,rfl,e⟩
   ·injection e with e1 _;rw[e1]
   ·exact nomatch e
  ·rcases zJ hb with ⟨j,u,rfl,e⟩ | ⟨y,u,rfl,e⟩
   ·exact nomatch e
   ·injection e with e1 _;rw[e1]
 byValue:=λk v h=>by rcases zJ h with ⟨i,t,rfl,rfl⟩ | ⟨x,t,rfl,rfl⟩ <;> rfl
 pyHash:=λhv h=>by
  rcases zJ hv with ⟨i,t,rfl,rfl⟩ | ⟨x,t,rfl,rfl⟩
  ·exact wpAny_pyHash_int h
  ·exact wpAny_pyHash_str h
 eqBool:=λhu hv h=>by
  rcases zJ hu with ⟨i,t,rfl,rfl⟩ | ⟨x,t,rfl,rfl⟩
  ·rcases zJ hv with ⟨j,u,rfl,rfl⟩ | ⟨y,u,rfl,rfl⟩
   ·rw[zrw] at h;exact wpAny_eqBool_int h
   ·rw[zsu] at h;exact SeqAt.EqAt.int_str i t y u _ _ _ _ h
  ·rcases zJ hv with ⟨j,u,rfl,rfl⟩ | ⟨y,u,rfl,rfl⟩
   ·rw[zrU] at h;exact SeqAt.EqAt.str_int x t j u _ _ _ _ h
   ·rw[zrl] at h;exact wpAny_eqBool_str h
 «strs»:=λk x t v h=>by
  rcases zJ h with ⟨i,u,rfl,e⟩ | ⟨y,u,rfl,e⟩
  ·exact nomatch e
  ·injection e with e1 _
   subst e1;cases v <;> rfl
def ziG (prog:Program)(w:World)(i:Int)(t:Tok):(zac prog w).is (.inl i) (.int i t)=true:=zlR i t
def ziY (prog:Program)(w:World)(x:Str)(t:Tok):(zac prog w).is (.inr x) (.str x t)=true:=zlP x t
inductive V where
 | non | bl (b:Bool) | int (i:Int) | str (x:Str) | byt (b:Array UInt8) | flt (b:UInt64) | ref (a:Addr) | ty (n:String)
 deriving DecidableEq
def RelV:V->Value->Prop
 | .non,u=>u=Value.none
 | .bl b,u=>u=Value.bool b
 | .int i,u=>∃t,u=Value.int i t
 | .str x,u=>∃t,u=Value.str x t
 | .byt b,u=>∃t,u=Value.bytes b t
 | .flt b,u=>∃t,u=Value.float b t
 | .ref a,u=>u=Value.ref a
 | .ty n,u=>u=Value.type n
abbrev Vals:List V->List Value->Prop:=Paired RelV
abbrev _root_.QR:=List V
theorem Vals.length (r:Vals xs us):xs.length=us.length:=Paired.length r
theorem Vals.get:∀{xs:QR}{us:QO}{i:Nat}{x:V},Vals xs us->xs[i]? =some x->∃u,us[i]? =some u/\RelV x u
 | _,_,_,_,.nil,e=>by simp at e
 | _,_,0,_,.cons r _,e=>by simp at e;subst e;exact⟨_,rfl,r⟩
 | _,_,i+1,x,.cons _ t,e=>by obtain⟨u,h1,h2⟩:=Vals.get (i:=i) (x:=x) t (by simpa using e);exact⟨u,by simpa using h1,h2⟩
theorem Vals.set (r:RelV x u):∀{xs:QR}{us:QO}(i:Nat),Vals xs us->Vals (xs.set i x) (us.set i u)
 | _,_,_,.nil=>.nil
 | _,_,0,.cons _ t=>.cons r t
 | _,_,i+1,.cons q t=>.cons q (Vals.set r i t)
theorem Vals.append:∀{xs ys:QR}{us ws:QO},Vals xs us->Vals ys ws->Vals (xs++ys) (us++ws)
 | _,_,_,_,.nil,s=>s
 | _,_,_,_,.cons r t,s=>.cons r (Vals.append t s)
theorem Vals.take:∀{xs:QR}{us:QO}(n:Nat),Vals xs us->Vals (xs.take n) (us.take n)
 | _,_,0,_=>.nil
 | _,_,_+1,.nil=>.nil
 | _,_,n+1,.cons r t=>.cons r (Vals.take n t)
theorem Vals.drop:∀{xs:QR}{us:QO}(n:Nat),Vals xs us->Vals (xs.drop n) (us.drop n)
 | _,_,0,r=>r
 | _,_,_+1,.nil=>.nil
 | _,_,n+1,.cons _ t=>Vals.drop n t
def RelO:Option V->Option Value->Prop
 | some v,some u=>RelV v u
 | none,none=>True
 | _,_=>False
def KV {κ:Type}:List (κ ×V)->List (κ ×Value)->Prop:=Paired λ(p:κ ×V) (q:κ ×Value)=>p.1=q.1/\RelV p.2 q.2
def kV:Key->V
 | .inl i=>.int i
 | .inr x=>.str x
abbrev _root_.QG:=List (Key ×V)
abbrev _root_.QI:=List (Str ×V)
inductive HO where
 | lst (xs:QR)
 | tup (xs:QR)
 | dK (kvs:QG) | dT (kvs:List (List Key ×V))
 | set (S:Int->Bool) (n:Nat)
 | ins (C dx:Addr) (fs:QI)
 | own (x:Addr)
 | xd (fs:QI)
 | met (f x:Addr)
 | rng (lo hi:Int)
 | frz (o:Obj) (u:HO)
 | tbl (ps:Array Value)
 | ext (φ:Heap->Prop)
abbrev Hp:=Addr->Option HO
def upd (H:Hp)(a:Addr)(o:HO):Hp:=λb=>if b=a then some o else H b
theorem za:upd H a o a=some o:=by unfold upd;rw[if_pos rfl]
theorem zc {a b:Addr}(h:b≠a):upd H a o b=H b:=by unfold upd;rw[if_neg h]
def zlk:upd (upd H a o) a u=upd H a u:=by funext b;unfold upd;split <;> rfl
def _root_.JO:=@Option.some.inj
theorem zR {H:Hp}{a b:Addr}{o u:HO}(h:H a=some o)(h':H b=some u)(d:o≠u):a≠b:=by intro e;subst e;rw[h] at h';exact d (JO h')
theorem zd {H:Hp}{a b:Addr}{o:HO}(h:H a=some o)(h':H b=none):a≠b:=by intro e;subst e;rw[h] at h';cases h'
section
variable (P:Program)(w:World)
def zA (H:Hp)(h:Heap)(a:Addr):HO->Prop
 | .lst xs=>xs.length<=sizeLine/\∃(its:QO)(n:Nat),Vals xs its/\h.get? a=some {cls:=.type "list",data:=.seq its.toArray n}
 | .tup xs=>xs.length<=sizeLine/\∃its:List Value,Vals xs its/\IsTup h a its.toArray
 | .dK kvs=>kvs.length<=sizeLine/\(a==sysModules)=false/\∃vs,KV kvs vs/\h.DictOf (zac P w) a vs
 | .dT kvs=>kvs.length<=sizeLine/\(a==sysModules)=false/\∃xs:List (List Key ×Addr ×Value),
   Paired (λ(p:List Key ×V) (q:List Key ×Addr ×Value)=>p.1=q.1/\H q.2.1=some (.tup (p.1.map kV))/\RelV p.2 q.2.2) kvs xs/\
   ∃o es ep,h.get? a=some o/\o.ExactDict/\o.data=.dict es ep/\es.toList=xs.map (entryOfKey (tupleKind (zac P w)))/\(xs.map (·.1)).Nodup
 | .set S n=>h.SetOf (intKind P w) a S n
 | .ins C dx fs=>H dx=some (.own a)/\fs.length<=1000/\dx≠a/\h.get? a=some (PySem.W.instObj C dx)/\
   ∃mA,h.Ns1 dx mA/\(∀f,RelO (fs.lookup f) (mA f))/\PySem.Within mA (fs.map (·.1))
 | .own _=>∃o,h.get? a=some o
 | .xd fs=>∃mA,h.Ns1 a mA/\∀f,RelO (fs.lookup f) (mA f)
 | .rng lo hi=>∃t u v,h.get? a=some {cls:=.type "range",data:=.fields #[.int lo t,.int hi u,.int 1 v]}
 | .frz o u=>h.get? a=some o/\zA H h a u
 | .tbl ps=>h.get? a=some {cls:=.none,data:=.fields ps}
 | .met f x=>h.get? a=some (PySem.W.methodObj (.ref f) (.ref x))
 | .ext φ=>φ h/\(∃o,h.get? a=some o)/\∀h1 h2:Heap,φ h1->(∀o,h1.get? a=some o->h2.get? a=some o)->φ h2
def HOk (H:Hp)(h:Heap):Prop:=∀a o,H a=some o->zA P w H h a o
end
section
variable {P:Program}{w:World}{H H':Hp}{h h':Heap}{a:Addr}{o:HO}
def _root_.JF:=@PySem.Heap.lt_size
theorem zA.lt (x:zA P w H h a o):a < h.objs.size:=by
 cases o with
 | lst xs=>obtain⟨_,_,_,_,e⟩:=x;exact JF e
 | tup xs=>obtain⟨_,_,_,p⟩:=x;exact p.lt
 | dK kvs=>obtain⟨_,_,_,_,o,_,_,e,_⟩:=x;exact JF e
 | dT kvs=>obtain⟨_,_,_,_,o,_,_,e,_⟩:=x;exact JF e
 | set S n=>obtain⟨o,_,_,_,e,_⟩:=x;exact JF e
 | ins C dx fs=>obtain⟨_,_,_,e,_⟩:=x;exact JF e
 | own y=>obtain⟨_,e⟩:=x;exact JF e
 | xd fs=>obtain⟨_,⟨_,_,_,e,_⟩,_⟩:=x;exact JF e
 | rng lo hi=>obtain⟨_,_,_,e⟩:=x;exact JF e
 | frz ob u=>obtain⟨e,_⟩:=x;exact JF e
 | tbl ps=>exact JF (show h.get? a=some _ from x)
 | met f y=>exact JF (show h.get? a=some _ from x)
 | ext φ=>obtain⟨_,⟨_,e⟩,_⟩:=x;exact JF e
theorem Paired.mapP {α β:Type}{F G:α->β->Prop}:∀{l₁:List α}{l₂:List β},Paired F l₁ l₂->(∀a b,F a b->G a b)->Paired G l₁ l₂
 | _,_,.nil,_=>.nil
 | _,_,.cons r t,f=>.cons (f _ _ r) (Paired.mapP t f)
def zA.stay (x:zA P w H h a o)(k:∀b u,(b=a\/H b=some (.own a))->h.get? b=some u->h'.get? b=some u)
  (ho:∀b,H b=some (.own a)->H' b=some (.own a)) (ht:∀b xs,H b=some (.tup xs)->H' b=some (.tup xs)):zA P w H' h' a o:=by
 induction o with
 | lst xs=>obtain⟨z,its,n,r,e⟩:=x;exact⟨z,its,n,r,k _ _ (.inl rfl) e⟩
 | tup xs=>obtain⟨z,its,r,ob,e,c⟩:=x;exact⟨z,its,r,ob,k _ _ (.inl rfl) e,c⟩
 | dK kvs=>obtain⟨z,y,vs,r,ob,es,ep,e,c⟩:=x;exact⟨z,y,vs,r,ob,es,ep,k _ _ (.inl rfl) e,c⟩
 | dT kvs=>obtain⟨z,y,xs,r,ob,es,ep,e,c⟩:=x;exact⟨z,y,xs,Paired.mapP r λp q z=>⟨z.1,ht _ _ z.2.1,z.2.2⟩,ob,es,ep,k _ _ (.inl rfl) e,c⟩
 | set S n=>obtain⟨ob,es,ep,t,e,c⟩:=x;exact⟨ob,es,ep,t,k _ _ (.inl rfl) e,c⟩
 | ins C dx fs=>obtain⟨d,z,ne,e,mA,⟨od,es,ep,e2,c⟩,r⟩:=x;exact⟨ho _ d,z,ne,k _ _ (.inl rfl) e,mA,⟨od,es,ep,k _ _ (.inr d) e2,c⟩,r⟩
 | own y=>obtain⟨ob,e⟩:=x;exact⟨ob,k _ _ (.inl rfl) e⟩
 | xd fs=>obtain⟨mA,⟨od,es,ep,e,c⟩,r⟩:=x;exact⟨mA,⟨od,es,ep,k _ _ (.inl rfl) e,c⟩,r⟩
 | rng lo hi=>obtain⟨t,u,v,e⟩:=x;exact⟨t,u,v,k _ _ (.inl rfl) e⟩
 | frz ob u ih=>obtain⟨e,q⟩:=x;exact⟨k _ _ (.inl rfl) e,ih q⟩
 | tbl ps=>have e:h.get? a=some {cls:=.none,data:=.fields ps}:=x;show h'.get? a=some {cls:=.none,data:=.fields ps};exact k a _ (.inl rfl) e
 | met f y=>have e:h.get? a=some (PySem.W.methodObj (.ref f) (.ref y)):=x;show h'.get? a=some (PySem.W.methodObj (.ref f) (.ref y));exact k a _ (.inl rfl) e
 | ext φ=>obtain⟨p,⟨o,e⟩,st⟩:=x;exact⟨st _ _ p λo q=>k _ _ (.inl rfl) q,⟨o,k _ _ (.inl rfl) e⟩,st⟩
theorem HOk.lt (x:HOk P w H h)(e:H a=some o):a < h.objs.size:=(x a o e).lt
def _root_.Je:=@Nat.lt_of_lt_of_le
noncomputable abbrev _root_.Jf:=@absurd
def _root_.Jv:=@Nat.lt_irrefl
def HOk.fresh (x:HOk P w H h)(e:h.objs.size<=a):H a=none:=by
 cases q:H a with
 | none=>rfl
 | some u=>exact Jf (Je (x.lt q) e) (Jv _)
theorem HOk.kept (x:HOk P w H h)(k:∀b u,h.get? b=some u->h'.get? b=some u):HOk P w H h':=λa o e=>
 (x a o e).stay (λb u _ q=>k b u q) (λ_ q=>q) λ_ _ q=>q
def HOk.laid (x:HOk P w H h)(k:∀b u,h.get? b=some u->h'.get? b=some u)(hp:h.objs.size<=a)(new:zA P w (upd H a o) h' a o):HOk P w (upd H a o) h':=λb u e=>by
 have hn:=x.fresh hp;by_cases hb:b=a
 ·subst hb;rw[za] at e;cases e;exact new
 ·rw[zc hb] at e;exact(x b u e).stay (λc v _ q=>k c v q) (λc q=>by rw[zc (zd q hn)];exact q) λc xs q=>by rw[zc (zd q hn)];exact q
end
def Rd (H:Hp)(a:Addr)(u:HO):Prop:=H a=some u\/∃o,H a=some (.frz o u)
def Rd.ok (r:Rd H a u)(x:HOk P w H h):zA P w H h a u:=by
 rcases r with r | ⟨o,r⟩
 ·exact x a u r
 ·obtain⟨_,q⟩:=x a _ r;exact q
def Mut:Option HO->Prop
 | some (.lst _)=>True
 | some (.dK _)=>True
 | some (.dT _)=>True
 | some (.set _ _)=>True
 | some (.ins _ _ _)=>True
 | some (.ext _)=>True
 | _=>False
section
variable {P:Program}{w:World}{H:Hp}{h h':Heap}{x e:Addr}{o':HO}
def HOk.write (ok:HOk P w H h)(mu:Mut (H x))(he:e=x\/H e=some (.own x))(k:∀b u,b≠e->h.get? b=some u->h'.get? b=some u)(heo:∃u,h'.get? e=some u)
  (new:zA P w (upd H x o') h' x o'):HOk P w (upd H x o') h':=λb u q=>by
 have nown:∀c y,H c=some (.own y)->c≠x:=λc y r z=>by subst z;rw[r] at mu;exact mu
 have ntup:∀c xs,H c=some (.tup xs)->c≠x:=λc xs r z=>by subst z;rw[r] at mu;exact mu
 by_cases hb:b=x
 ·subst hb;rw[za] at q;cases q;exact new
 ·rw[zc hb] at q;by_cases hbe:b=e
  ·have q':H b=some (.own x):=by
    rcases he with z | z
    ·exact Jf (hbe.trans z) hb
    ·rw[hbe];exact z
   rw[q] at q';cases q';obtain⟨v,hv⟩:=heo;exact⟨v,by rw[hbe];exact hv⟩
  ·refine(ok b u q).stay (λc v hc r=>k c v ?_ r) (λc r=>by rw[zc (nown c b r)];exact r) λc xs r=>by rw[zc (ntup c xs r)];exact r
   rcases hc with rfl | hc
   ·exact hbe
   ·rintro rfl;rcases he with z | z
    ·exact nown c b hc z
    ·rw[hc] at z;cases z;exact hb rfl
end
structure Un (fs ex:QP)(H H':Hp)(h h':Heap):Prop where
 keep:∀b o,h.get? b=some o->H b=none->b∉fs->b∉ex->h'.get? b=some o
 slot:∀b o,h.get? b=some o->H b=none->b∈fs->b∉ex->∃sl,h'.get? b=some {o with slots:=sl}
 free:∀b o,h.get? b=some o->H b=none->b∉ex->H' b=none
 there:∀b o,h.get? b=some o->b∉ex->∃o',h'.get? b=some o'
 tups:∀b xs,H b=some (.tup xs)->H' b=some (.tup xs)
 frzs:∀b o u,H b=some (.frz o u)->H' b=some (.frz o u)
 tbls:∀b ps,H b=some (.tbl ps)->∃more,H' b=some (.tbl (ps++more))
section
variable {fs fs' ex ex':QP}{H H1 H2:Hp}{h h1 h2 h':Heap}{a x e:Addr}{o:HO}
theorem Un.any (u:Un fs ex H H1 h h1){ob:Obj}(q:h.get? b=some ob)(n:H b=none)(hx:b∉ex):∃sl,h1.get? b=some {ob with slots:=sl}:=by
 by_cases hb:b∈fs
 ·exact u.slot b ob q n hb hx
 ·exact⟨ob.slots,u.keep b ob q n hb hx⟩
theorem Un.trans (a:Un fs ex H H1 h h1)(b:Un fs ex H1 H2 h1 h2):Un fs ex H H2 h h2 where
 keep:=λc ob q n hc hx=>b.keep c ob (a.keep c ob q n hc hx) (a.free c ob q n hx) hc hx
 slot:=λc ob q n hc hx=>by obtain⟨sl,e1⟩:=a.slot c ob q n hc hx;obtain⟨sl',e2⟩:=b.slot c _ e1 (a.free c ob q n hx) hc hx;exact⟨sl',e2⟩
 free:=λc ob q n hx=>by obtain⟨o',e1⟩:=a.there c ob q hx;exact b.free c o' e1 (a.free c ob q n hx) hx
 there:=λc ob q hx=>by obtain⟨o',e1⟩:=a.there c ob q hx;exact b.there c o' e1 hx
 tups:=λc xs q=>b.tups c xs (a.tups c xs q)
 frzs:=λc ob xs q=>b.frzs c ob xs (a.frzs c ob xs q)
 tbls:=λc ps q=>by obtain⟨m1,e1⟩:=a.tbls c ps q;obtain⟨m2,e2⟩:=b.tbls c _ e1;exact⟨m1++m2,by rw[e2,Array.append_assoc]⟩
theorem Un.kept (k:∀b u,h.get? b=some u->h'.get? b=some u):Un fs ex H H h h':=
 ⟨λb ob q _ _ _=>k b ob q,λb ob q _ _ _=>⟨ob.slots,k b ob q⟩,λ_ _ _ n _=>n,λb ob q _=>⟨ob,k b ob q⟩,λ_ _ q=>q,λ_ _ _ q=>q,λ_ ps q=>⟨#[],by rw[q];simp⟩⟩
def Un.refl:Un fs ex H H h h:=Un.kept λ_ _ q=>q
def _root_.Jk:=@Nat.ne_of_lt
def Un.laid (k:∀b u,h.get? b=some u->h'.get? b=some u)(hp:h.objs.size<=a)(hn:H a=none):Un fs ex H (upd H a o) h h' where
 keep:=λb u q _ _ _=>k b u q
 slot:=λb u q _ _ _=>⟨u.slots,k b u q⟩
 free:=λb u q n _=>by rw[zc (Jk (Je (JF q) hp))];exact n
 there:=λb u q _=>⟨u,k b u q⟩
 tups:=λb xs q=>by rw[zc (zd q hn)];exact q
 frzs:=λb u xs q=>by rw[zc (zd q hn)];exact q
 tbls:=λb ps q=>⟨#[],by rw[zc (zd q hn),q];simp⟩
def Un.write (mu:Mut (H x))(he:e=x\/H e=some (.own x))(k:∀b u,b≠e->h.get? b=some u->h'.get? b=some u)(heo:∃u,h'.get? e=some u):Un fs ex H (upd H x o) h h':=by
 have hx:∀b,H b=none->b≠x:=λb n z=>by subst z;rw[n] at mu;exact mu
 have hb:∀b,H b=none->b≠e:=λb n z=>by
  subst z;rcases he with r | r
  ·exact hx b n r
  ·rw[n] at r;cases r
 have hm:∀b u,H b=some u->¬Mut (some u)->b≠x:=λb u q nm z=>by subst z;rw[q] at mu;exact nm mu
 refine⟨λb u q n _ _=>k b u (hb b n) q,λb u q n _ _=>⟨u.slots,k b u (hb b n) q⟩,λb u q n _=>by rw[zc (hx b n)];exact n,λb u q _=>?_,
  λb xs q=>by rw[zc (hm b _ q λz=>z)];exact q,λb u xs q=>by rw[zc (hm b _ q λz=>z)];exact q,λb ps q=>⟨#[],by rw[zc (hm b _ q λz=>z),q];simp⟩⟩
 by_cases hbe:b=e
 ·subst hbe;exact heo
 ·exact⟨u,k b u hbe q⟩
end
def trk (h:Heap)(H:Hp):List Addr:=(List.range h.objs.size).filter λa=>(H a).isSome
def hidT (h:Heap)(H:Hp):Heap:=PySem.W.hideAll h (trk h H)
def zlU (h:Heap)(H:Hp):(hidT h H).objs.size=h.objs.size:=PySem.W.hideAll_size _ _
def _root_.Jz:=@List.mem_filter
def zos {h:Heap}{H:Hp}{b:Addr}{o:Obj}(e:h.get? b=some o)(n:H b=none):(hidT h H).get? b=some o:=
 PySem.W.hideAll_get _ e λhm=>by have q:(H b).isSome=true:=(Jz.mp hm).2;rw[n] at q;simp at q
def zpD {b:Addr}{o:Obj}(e:(hidT h H).get? b=some o):h.get? b=some o/\H b=none:=by
 have e':h.get? b=some o:=PySem.W.of_hideAll (trk h H) e;refine⟨e',?_⟩;cases q:H b with
 | none=>rfl
 | some x=>have hm:b∈trk h H:=Jz.mpr ⟨List.mem_range.mpr (JF e'),by simp[q]⟩;have z:(hidT h H).get? b=none:=PySem.W.hideAll_none (trk h H) hm;rw[z] at e;cases e
def zpC (g h:Heap)(L:Addr):List (Addr ×Obj):=(List.range h.objs.size).filterMap λa=>if a=L\/(g.get? a).isSome=true then none else(h.get? a).map λo=>(a,o)
def rest (g h:Heap)(L d:Addr):List (Addr ×Obj):=(zpC g h L).filter λp=>decide (p.1≠d)
abbrev _root_.QA:=PySem.W.Frag
abbrev _root_.QB:=Str->Option Value
structure Mod (K:QA)(mg:QB)(base:Heap):Prop where
 kin:K.In base
 glob:base.Ns mainGlobals mg
 blt:∃mb,base.Ns builtinsNs mb/\∀x:Str,x≠ "__name__" ->mb x=bootBuiltins x
 nolimit:base.NoLimit
structure Cx where
 prog:Program
 w:World
 K:QA
 mg:Str->Option Value
 base:Heap
 A:Around
 N:List Str
 s₀:Shared
 H₀:Hp
 env:Env
 outer:List Env
 stack:List Env
 ex:List Addr
 fn:Str->Bool
 calm:Bool
 pn:List (Addr ×Obj)
 xe:Value->Shared->Prop
def frs (l:List Env):List Addr:=l.filterMap (·.frame)
abbrev Cx.fs (X:Cx):List Addr:=frs X.outer
def Vis (sc:Scope)(x:Str):Prop:=sc.names.lookup x=some .local\/sc.names.lookup x=some .cell\/sc.names.lookup x=some .free
def Loc (sc:Scope)(x:Str):Prop:=sc.names.lookup x=some .local\/sc.names.lookup x=some .cell
def Look (env:Env)(h:Heap)(m:QB)(x:Str)(u:Value):Prop:=
 (env.kindOf x=some .local/\m x=some u)\/((env.kindOf x=some .cell\/env.kindOf x=some .free)/\∃c,env.cells.lookup x=some c/\h.IsCell c (some u))
structure Cx.Ok (X:Cx):Prop where
 mod:Mod X.K X.mg X.base
 kind:X.env.scope.kind=.function
 glob:X.env.globals=mainGlobals
 blt:X.env.builtins=builtinsNs
 above:X.s₀.heap.objs.size<=X.env.locals
 inj:∀x y c,X.env.cells.lookup x=some c->X.env.cells.lookup y=some c->x=y
 has:∀x,(X.env.kindOf x=some .cell\/X.env.kindOf x=some .free)->∃c,X.env.cells.lookup x=some c
 cab:∀x c,X.fn x=true->X.env.cells.lookup x=some c->X.s₀.heap.objs.size<=c
 hd:X.calm=true->X.A.handled=none
 frames:X.A.frames=some X.stack
 stk:X.stack=X.outer\/(X.stack=X.env::X.outer/\X.env.frame=some X.env.locals)
 exf:∀b∈X.ex,b≠X.env.locals/\∀x c,X.env.cells.lookup x=some c->c≠b
 bs:∀b o,X.base.get? b=some o->X.s₀.heap.get? b=some o/\X.H₀ b=none
 bsz:X.base.objs.size<=X.s₀.heap.objs.size
 noex:∀b o,X.base.get? b=some o->b∉X.ex
 exfs:∀b∈X.ex,b∉X.fs
 funs:X.s₀.heap.FunFrames X.base X.outer
 frf:∀b∈X.fs,X.H₀ b=none
abbrev _root_.QE:=List (Addr ×Obj)
structure Inv (X:Cx)(pins:QE)(σ:List (Option V))(H:Hp)(s:Shared):Prop where
 ok:X.Ok
 os:s.os=X.s₀.os
 bare:AllBare s.gens
 base:Un X.fs X.ex X.H₀ H X.s₀.heap s.heap
 loc:∃m,s.heap.Ns X.env.locals m/\∀(i:Nat)(x:Str)(v:V),X.N[i]? =some x->σ[i]? =some (some v)->Vis X.env.scope x->∃u,RelV v u/\Look X.env s.heap m x u
 cell:∀x c,X.env.cells.lookup x=some c->∃v,s.heap.IsCell c v
 free:H X.env.locals=none
 freeC:∀x c,X.env.cells.lookup x=some c->H c=none
 pin:∀p∈X.pn++pins,s.heap.get? p.1=some p.2/\H p.1=none/\p.1≠X.env.locals/\p.1∉X.fs/\∀v,p.2.data≠ .cell v
 hok:HOk X.prog X.w H s.heap
 len:σ.length=X.N.length
section
variable {X:Cx}{pins:QE}{σ:List (Option V)}{H H':Hp}{s:Shared}{h':Heap}
def Cx.Ok.nofr (ok:X.Ok){o:Obj}(e:X.base.get? b=some o):b∉X.fs:=λhb=>by have:=(ok.funs.mem hb).1;rw[e] at this;cases this
theorem Inv.bs (I:Inv X pins σ H s):∀b o,X.base.get? b=some o->s.heap.get? b=some o/\H b=none:=λb o e=>
 ⟨I.base.keep b o (I.ok.bs b o e).1 (I.ok.bs b o e).2 (I.ok.nofr e) (I.ok.noex b o e),I.base.free b o (I.ok.bs b o e).1 (I.ok.bs b o e).2 (I.ok.noex b o e)⟩
def Inv.bk (I:Inv X pins σ H s):∀b o,X.base.get? b=some o->s.heap.get? b=some o:=λb o e=>(I.bs b o e).1
theorem Inv.mod (I:Inv X pins σ H s):Mod X.K X.mg X.base:=I.ok.mod
def Inv.kIn (I:Inv X pins σ H s):X.K.In s.heap:=I.ok.mod.kin.keeps I.bk
theorem Inv.lt (I:Inv X pins σ H s):X.env.locals < s.heap.objs.size:=let ⟨_,hn,_⟩:=I.loc;hn.lt
def _root_.Jg:=@Nat.le_trans
theorem Inv.sz (I:Inv X pins σ H s):X.s₀.heap.objs.size<=s.heap.objs.size:=Jg I.ok.above (Nat.le_of_lt I.lt)
def Inv.nofs (I:Inv X pins σ H s){a:Addr}(h:s.heap.objs.size<=a):a∉X.fs:=λhb=>by obtain⟨_,o,ho,_⟩:=I.ok.funs.mem hb;exact Jf (Je (JF ho) (Jg I.sz h)) (Jv _)
def Inv.cne (I:Inv X pins σ H s):∀x c,X.env.cells.lookup x=some c->c≠X.env.locals:=λx c e z=>by obtain⟨v,o,ho,hd⟩:=I.cell x c e;obtain⟨m,⟨o',es,ep,ho',hd',_⟩,_⟩:=I.loc;rw[z,ho'] at ho;cases ho;rw[hd'] at hd;cases hd
def _root_.Ji:=@List.mem_cons_of_mem
def _root_.JL:=@List.mem_cons_self
def _root_.Nn:=@List.filterMap_cons
theorem Inv.funs (I:Inv X pins σ H s):s.heap.FunFrames X.base X.outer:=by
 have all:∀(l:List Env),(∀b∈frs l,b∈X.fs)->X.s₀.heap.FunFrames X.base l->s.heap.FunFrames X.base l:=by
  intro l
  induction l with
  | nil=>intro _ _;trivial
  | cons env r ih=>intro hs hl;obtain⟨hk,⟨L,o,hf,hn,ho,hd⟩,hr⟩:=hl;have hL:L∈X.fs:=hs L (by unfold frs;rw[Nn,hf];exact JL);obtain⟨sl,e⟩:=I.base.slot L o ho (I.ok.frf L hL) hL λz=>I.ok.exfs L z hL;exact⟨hk,⟨L,_,hf,hn,e,hd⟩,ih (λb hb=>hs b (by unfold frs;rw[Nn,hf];exact Ji _ hb)) hr⟩
 exact all X.outer (λ_ hb=>hb) I.ok.funs
def _root_.JT:=@PySem.Heap.get?_none_of_le
theorem Inv.stack (I:Inv X pins σ H s):s.heap.FunFrames X.base X.stack:=by
 rcases I.ok.stk with e | ⟨e,hf⟩
 ·rw[e];exact I.funs
 ·rw[e];obtain⟨m,hn,_⟩:=I.loc;refine .cons (by rw[I.ok.kind];decide) hf hn ?_ I.funs;exact JT (Jg I.ok.bsz I.ok.above)
def Inv.stkSub (I:Inv X pins σ H s):∀b∈frs X.stack,b∈X.env.locals::X.fs:=λb hb=>by
 rcases I.ok.stk with e | ⟨e,hf⟩
 ·rw[e] at hb;exact Ji _ hb
 ·rw[e] at hb;unfold frs at hb;rw[Nn,hf] at hb;exact hb
def _root_.JD:=@List.mem_cons
def Inv.stkFree (I:Inv X pins σ H s):∀b∈frs X.stack,H b=none:=λb hb=>by
 rcases JD.mp (I.stkSub b hb) with e | hb
 ·rw[e];exact I.free
 ·obtain⟨_,o,ho,_⟩:=I.ok.funs.mem hb;exact I.base.free b o ho (I.ok.frf b hb) λz=>I.ok.exfs b z hb
def Inv.step {t':Nat}{d':Drawn}{ch:QP}(I:Inv X pins σ H s)
  (hch:∀b∈ch,(b∈X.ex\/X.s₀.heap.objs.size<=b)/\b≠X.env.locals/\(∀x c,X.env.cells.lookup x=some c->c≠b)/\∀p∈X.pn++pins,p.1≠b)
  (keep:∀b o,b≠X.env.locals->b∉X.fs->b∉ch->s.heap.get? b=some o->H b=none->h'.get? b=some o)
  (slot:∀b o,b≠X.env.locals->b∈X.fs->b∉ch->s.heap.get? b=some o->H b=none->∃sl,h'.get? b=some {o with slots:=sl}) (free:∀b o,b∉ch->s.heap.get? b=some o->H b=none->H' b=none)
  (there:∀b o,b∉ch->s.heap.get? b=some o->∃o',h'.get? b=some o')
  (tups:∀b xs,H b=some (.tup xs)->H' b=some (.tup xs)) (frzs:∀b o u,H b=some (.frz o u)->H' b=some (.frz o u)) (tbls:∀b ps,H b=some (.tbl ps)->∃more,H' b=some (.tbl (ps++more)))
  (ns:∀m,s.heap.Ns X.env.locals m->h'.Ns X.env.locals m) (hok:HOk X.prog X.w H' h') (hg:AllBare g'):
  Inv X pins σ H' {s with heap:=h',gens:=g',drawn:=d',toks:=t'}:=by
 have neL:∀b o,X.s₀.heap.get? b=some o->b≠X.env.locals:=λb o e=>Jk (Je (JF e) I.ok.above);have neC:∀b o,X.s₀.heap.get? b=some o->b∉X.ex->b∉ch:=λb o e hx hb=>by
  rcases(hch b hb).1 with z | z
  ·exact hx z
  ·exact Jf (Je (JF e) z) (Jv _)
 have cellK:∀x c,X.env.cells.lookup x=some c->∀v,s.heap.IsCell c v->h'.IsCell c v:=λx c e v ⟨o,ho,hd⟩=>by
  have nch:c∉ch:=λz=>(hch c z).2.2.1 x c e rfl;by_cases hc:c∈X.fs
  ·obtain⟨sl,q⟩:=slot c o (I.cne x c e) hc nch ho (I.freeC x c e);exact⟨_,q,hd⟩
  ·exact⟨o,keep c o (I.cne x c e) hc nch ho (I.freeC x c e),hd⟩
 refine⟨I.ok,I.os,hg,⟨λb o e n hb hx=>?_,λb o e n hb hx=>?_,λb o e n hx=>?_,λb o e hx=>?_,λb xs e=>tups b xs (I.base.tups b xs e),λb o xs e=>frzs b o xs (I.base.frzs b o xs e),λb ps e=>?_⟩,?_,λx c e=>?_,?_,λx c e=>?_,λp hp=>?_,hok,I.len⟩
 ·exact keep b o (neL b o e) hb (neC b o e hx) (I.base.keep b o e n hb hx) (I.base.free b o e n hx)
 ·obtain⟨sl,e1⟩:=I.base.slot b o e n hb hx;obtain⟨sl',e2⟩:=slot b _ (neL b o e) hb (neC b o e hx) e1 (I.base.free b o e n hx);exact⟨sl',e2⟩
 ·obtain⟨o',e1⟩:=I.base.there b o e hx;exact free b o' (neC b o e hx) e1 (I.base.free b o e n hx)
 ·obtain⟨o',e1⟩:=I.base.there b o e hx;exact there b o' (neC b o e hx) e1
 ·obtain⟨m1,e1⟩:=I.base.tbls b ps e;obtain⟨m2,e2⟩:=tbls b _ e1;exact⟨m1++m2,by rw[e2,Array.append_assoc]⟩
 ·obtain⟨m,hn,hl⟩:=I.loc;refine⟨m,ns m hn,λi x v e1 e2 e3=>?_⟩;obtain⟨u,r,l⟩:=hl i x v e1 e2 e3;refine⟨u,r,?_⟩;rcases l with l | ⟨k,c,e,z⟩
  ·exact .inl l
  ·exact .inr ⟨k,c,e,cellK x c e _ z⟩
 ·obtain⟨v,z⟩:=I.cell x c e;exact⟨v,cellK x c e v z⟩
 ·obtain⟨m,⟨o,_,_,ho,_⟩,_⟩:=I.loc;exact free _ o (λz=>(hch _ z).2.1 rfl) ho I.free
 ·obtain⟨v,o,ho,hd⟩:=I.cell x c e;exact free c o (λz=>(hch c z).2.2.1 x c e rfl) ho (I.freeC x c e)
 ·obtain⟨e,n,ne,nf,d⟩:=I.pin p hp;have nch:p.1∉ch:=λz=>(hch p.1 z).2.2.2 p hp rfl;exact⟨keep p.1 p.2 ne nf nch e n,free p.1 p.2 nch e n,ne,nf,d⟩
def Inv.un {t':Nat}(I:Inv X pins σ H s)(u:Un X.fs [] H H' s.heap h')(hok:HOk X.prog X.w H' h'):Inv X pins σ H' {s with heap:=h',toks:=t'}:=by obtain⟨m,⟨o,es,ep,ho,r⟩,_⟩:=id I.loc;obtain⟨sl,hL⟩:=u.any ho I.free (by simp);exact I.step (g':=s.gens) (d':=s.drawn) (ch:=[]) (λ_ z=>nomatch z) (λb o _ hb _ e n=>u.keep b o e n hb (by simp)) (λb o _ hb _ e n=>u.slot b o e n hb (by simp)) (λb o _ e n=>u.free b o e n (by simp)) (λb o _ e=>u.there b o e (by simp)) u.tups u.frzs u.tbls (λm' hm=>by obtain⟨o',es',ep',ho',r'⟩:=hm;rw[ho] at ho';cases ho';exact⟨_,es',ep',hL,r'⟩) hok I.bare
def Inv.call {t':Nat}{d':Drawn}{ch:QP}(I:Inv X pins σ H s)(u:Un (frs X.stack) ch H H' s.heap h')(hok:HOk X.prog X.w H' h')(hg:AllBare g')
  (hch:∀b∈ch,(b∈X.ex\/X.s₀.heap.objs.size<=b)/\b≠X.env.locals/\(∀x c,X.env.cells.lookup x=some c->c≠b)/\∀p∈X.pn++pins,p.1≠b):
  Inv X pins σ H' {s with heap:=h',gens:=g',drawn:=d',toks:=t'}:=by
 obtain⟨m,⟨o,es,ep,ho,r⟩,_⟩:=id I.loc;obtain⟨sl,hL⟩:=u.any ho I.free λz=>(hch _ z).2.1 rfl;exact I.step (ch:=ch) hch (λb o hL hb hc e n=>u.keep b o e n (λz=>(JD.mp (I.stkSub b z)).elim hL hb) hc) (λb o _ _ hc e n=>u.any e n hc) (λb o hc e n=>u.free b o e n hc) (λb o hc e=>u.there b o e hc) u.tups u.frzs u.tbls (λm' hm=>by obtain⟨o',es',ep',ho',r'⟩:=hm;rw[ho] at ho';cases ho';exact⟨_,es',ep',hL,r'⟩) hok hg
def Inv.turned {t':Nat}{it:Addr}(I:Inv X pins σ H s)(k:∀b o,b≠it->s.heap.get? b=some o->h'.get? b=some o)(hn:H it=none)(hL:it≠X.env.locals)
  (h1:it∈X.ex\/X.s₀.heap.objs.size<=it) (h2:∀x c,X.env.cells.lookup x=some c->c≠it) (h3:∀p∈X.pn++pins,p.1≠it):Inv X pins σ H {s with heap:=h',toks:=t'}:=by
 have nit:∀b u,H b=some u->b≠it:=λb u e z=>by rw[z,hn] at e;cases e
 refine I.step (g':=s.gens) (d':=s.drawn) (ch:=[it]) (λb hb=>?_) (λb o _ _ hc e _=>k b o (λz=>hc (by simp[z])) e) (λb o _ _ hc e _=>⟨o.slots,k b o (λz=>hc (by simp[z])) e⟩) (λ_ _ _ _ n=>n)
  (λb o hc e=>⟨o,k b o (λz=>hc (by simp[z])) e⟩) (λ_ _ e=>e) (λ_ _ _ e=>e) (λb ps e=>⟨#[],by rw[e];simp⟩) (λm hm=>?_) (λb u e=>?_) I.bare
 ·have e:b=it:=by simpa using hb
  subst e;exact⟨h1,hL,h2,h3⟩
 ·obtain⟨o,es,ep,ho,r⟩:=hm;exact⟨o,es,ep,k _ o (Ne.symm hL) ho,r⟩
 ·refine(I.hok b u e).stay (λc v hc q=>k c v ?_ q) (λ_ q=>q) λ_ _ q=>q;rcases hc with z | z
  ·rw[z];exact nit b u e
  ·exact nit c _ z
theorem Inv.tok (I:Inv X pins σ H s)(t:Nat):Inv X pins σ H {s with toks:=t}:=I.un (h':=s.heap) (t':=t) Un.refl I.hok
theorem Inv.kept {t':Nat}(I:Inv X pins σ H s)(k:∀b u,s.heap.get? b=some u->h'.get? b=some u):Inv X pins σ H {s with heap:=h',toks:=t'}:=I.un (Un.kept k) (I.hok.kept k)
def Inv.laid {a:Addr}{t':Nat}(I:Inv X pins σ H s)(k:∀b u,s.heap.get? b=some u->h'.get? b=some u)(hp:s.heap.objs.size<=a)(new:zA X.prog X.w (upd H a o) h' a o):
  Inv X pins σ (upd H a o) {s with heap:=h',toks:=t'}:=I.un (Un.laid k hp (I.hok.fresh hp)) (I.hok.laid k hp new)
def Inv.write {e:Addr}{t':Nat}(I:Inv X pins σ H s)(mu:Mut (H x))(he:e=x\/H e=some (.own x))(k:∀b u,b≠e->s.heap.get? b=some u->h'.get? b=some u)(heo:∃u,h'.get? e=some u)
  (new:zA X.prog X.w (upd H x o) h' x o):Inv X pins σ (upd H x o) {s with heap:=h',toks:=t'}:=I.un (Un.write mu he k heo) (I.hok.write mu he k heo new)
def _root_.Jm:=@List.mem_append
def _root_.Jp:=@List.mem_append_left
def Inv.pins_of {pins':QE}(I:Inv X pins σ H s)(h:∀p∈pins',s.heap.get? p.1=some p.2/\H p.1=none/\p.1≠X.env.locals/\p.1∉X.fs/\∀v,p.2.data≠ .cell v):Inv X pins' σ H s:=
 ⟨I.ok,I.os,I.bare,I.base,I.loc,I.cell,I.free,I.freeC,λp hp=>(Jm.mp hp).elim (λz=>I.pin p (Jp _ z)) (h p),I.hok,I.len⟩
def _root_.JH:=@List.getElem?_eq_some_iff
def zfe {N:QQ}(hN:N.Nodup){i j:Nat}{x:Str}(a:N[i]? =some x)(b:N[j]? =some x):i=j:=by obtain⟨h1,e1⟩:=JH.mp a;obtain⟨h2,e2⟩:=JH.mp b;exact(List.getElem_inj hN).mp (e1.trans e2.symm)
abbrev _root_.QC:=Value->Shared->Prop
abbrev _root_.QD:=Unit->Shared->Prop
def zlC {i:Nat}{x:Str}{Q:QD}(I:Inv X pins σ H s)(hN:X.N.Nodup)(hi:X.N[i]? =some x)(hx:Loc X.env.scope x)(r:RelV v u)
  (h:∀s',Inv X pins (σ.set i (some v)) H s'->(∃a,Heap.SameBut a s.heap s'.heap/\(a=X.env.locals\/X.env.cells.lookup x=some a))->Q () s') (hf:X.fn x=true\/X.env.scope.names.lookup x=some .local:=by first | exact .inl rfl | exact .inr rfl | assumption):wpAny M A (storeName X.env x u) Q E s:=by
 obtain⟨m,hn,hl⟩:=id I.loc;have hcls:(X.env.scope.kind==.class || (X.env.scope.kind==.module && X.env.locals !=X.env.globals))=false:=by rw[I.ok.kind];rfl
 have hiσ:i < σ.length:=by rw[I.len];exact(JH.mp hi).1
 have cne:=I.cne;have tracked:∀{a:Addr}{h':Heap},(∃o,s.heap.get? a=some o/\H a=none)->Heap.SameBut a s.heap h'->HOk X.prog X.w H h':=λ{a h'} ha hs b ob e=>by
  obtain⟨_,_,hfree⟩:=ha;refine(I.hok b ob e).stay (λc w' hc q=>(hs.2 c ?_).trans q) (λ_ q=>q) λ_ _ q=>q;rintro rfl;rcases hc with rfl | hc
  ·rw[hfree] at e;cases e
  ·rw[hfree] at hc;cases hc
 rcases hx with hk | hk
 ·refine wpAny_storeName_local hk hn (λh' hn' hs=>?_) hcls;obtain⟨oL,_,_,hoL,_⟩:=id hn;refine h _ ⟨I.ok,I.os,I.bare,⟨λb o e n hb hx=>?_,λb o e n hb hx=>?_,I.base.free,λb o e hx=>?_,I.base.tups,I.base.frzs,I.base.tbls⟩,⟨_,hn',λj y v' e1 e2 e3=>?_⟩,λy c e=>?_,I.free,I.freeC,λp hp=>?_,tracked ⟨oL,hoL,I.free⟩ hs,by simpa using I.len⟩ ⟨_,hs,.inl rfl⟩
  ·exact(hs.2 b (Jk (Je (JF e) I.ok.above))).trans (I.base.keep b o e n hb hx)
  ·obtain⟨sl,e1⟩:=I.base.slot b o e n hb hx;exact⟨sl,(hs.2 b (Jk (Je (JF e) I.ok.above))).trans e1⟩
  ·obtain⟨o',e1⟩:=I.base.there b o e hx;exact⟨o',(hs.2 b (Jk (Je (JF e) I.ok.above))).trans e1⟩
  ·by_cases hj:j=i
   ·subst hj;rw[hi] at e1;cases e1;rw[List.getElem?_set_self hiσ] at e2;cases e2;exact⟨u,r,.inl ⟨hk,by simp⟩⟩
   ·rw[List.getElem?_set_ne (Ne.symm hj)] at e2;obtain⟨u',r',q⟩:=hl j y v' e1 e2 e3;refine⟨u',r',?_⟩;rcases q with ⟨k,e⟩ | ⟨k,c,e,z⟩
    ·refine .inl ⟨k,?_⟩;have:y≠x:=λe=>hj (zfe hN e1 (e ▸ hi));simp[this,e]
    ·exact .inr ⟨k,c,e,z.sameBut hs (cne y c e)⟩
  ·obtain⟨w',z⟩:=I.cell y c e;exact⟨w',z.sameBut hs (cne y c e)⟩
  ·obtain⟨e,n,ne,nf,d⟩:=I.pin p hp;exact⟨(hs.2 p.1 ne).trans e,n,ne,nf,d⟩
 ·have hfn:X.fn x=true:=by
   rcases hf with z | z
   ·exact z
   ·rw[z] at hk;cases hk
  obtain⟨c,hc⟩:=I.ok.has x (.inl hk);obtain⟨w',z⟩:=I.cell x c hc;refine wpAny_storeName_cell I.ok.kind hk hc z (λh' hc' hs=>?_);obtain⟨oc,hoc,hocd⟩:=id z;refine h {s with heap:=h'} ⟨I.ok,I.os,I.bare,⟨λb o e n hb hx=>?_,λb o e n hb hx=>?_,I.base.free,λb o e hx=>?_,I.base.tups,I.base.frzs,I.base.tbls⟩,⟨m,hn.sameBut hs (Ne.symm (cne x c hc)),λj y v' e1 e2 e3=>?_⟩,λy c' e=>?_,I.free,I.freeC,λp hp=>?_,tracked ⟨oc,hoc,I.freeC x c hc⟩ hs,by simpa using I.len⟩ ⟨c,hs,.inr hc⟩
  ·exact(hs.2 b (Jk (Je (JF e) (I.ok.cab x c hfn hc)))).trans (I.base.keep b o e n hb hx)
  ·obtain⟨sl,e1⟩:=I.base.slot b o e n hb hx;exact⟨sl,(hs.2 b (Jk (Je (JF e) (I.ok.cab x c hfn hc)))).trans e1⟩
  ·obtain⟨o',e1⟩:=I.base.there b o e hx;exact⟨o',(hs.2 b (Jk (Je (JF e) (I.ok.cab x c hfn hc)))).trans e1⟩
  ·by_cases hj:j=i
   ·subst hj;rw[hi] at e1;cases e1;rw[List.getElem?_set_self hiσ] at e2;cases e2;exact⟨u,r,.inr ⟨.inl hk,c,hc,hc'⟩⟩
   ·rw[List.getElem?_set_ne (Ne.symm hj)] at e2;obtain⟨u',r',q⟩:=hl j y v' e1 e2 e3;refine⟨u',r',?_⟩;rcases q with q | ⟨k,c',e,z'⟩
    ·exact .inl q
    ·refine .inr ⟨k,c',e,z'.sameBut hs ?_⟩;rintro rfl;exact hj (zfe hN e1 (I.ok.inj _ _ _ e hc ▸ hi))
  ·by_cases hcc:c'=c
   ·subst hcc;exact⟨_,hc'⟩
   ·obtain⟨w2,z2⟩:=I.cell y c' e;exact⟨w2,z2.sameBut hs hcc⟩
  ·obtain⟨e,n,ne,nf,d⟩:=I.pin p hp;refine⟨(hs.2 p.1 ?_).trans e,n,ne,nf,d⟩;intro q;rw[q,hoc] at e;have q':oc=p.2:=JO e;exact d w' (by rw[<-q'];exact hocd)
def zfr {i:Nat}{x:Str}{Q:QD}(I:Inv X pins σ H s)(hN:X.N.Nodup)(hi:X.N[i]? =some x)(hx:Loc X.env.scope x)(r:RelV v u)
  (h:∀s',Inv X pins (σ.set i (some v)) H s'->Q () s') (hf:X.fn x=true\/X.env.scope.names.lookup x=some .local:=by first | exact .inl rfl | exact .inr rfl | assumption):wpAny M A (storeName X.env x u) Q E s:=
 zlC I hN hi hx r (λs' I' _=>h s' I') hf
def Inv.call' {s':Shared}{ch:QP}(I:Inv X pins σ H s)(ho:s'.os=s.os)(u:Un (frs X.stack) ch H H' s.heap s'.heap)(hok:HOk X.prog X.w H' s'.heap)(hg:AllBare s'.gens)
  (hch:∀b∈ch,(b∈X.ex\/X.s₀.heap.objs.size<=b)/\b≠X.env.locals/\(∀x c,X.env.cells.lookup x=some c->c≠b)/\∀p∈X.pn++pins,p.1≠b):Inv X pins σ H' s':=by
 obtain⟨h',g',d',t',o'⟩:=s';have e:o'=s.os:=ho;subst e;exact I.call (g':=g') (t':=t') (d':=d') u hok hg hch
end
abbrev XK:=Value->Option Addr->Hp->Prop
abbrev St:=List (Option V)
abbrev VK:=V->Hp->Prop
abbrev TE:=St->Hp->VK->Prop
abbrev TT:=St->Hp->(Bool->Hp->Prop)->Prop
abbrev TA:=St->Hp->(List V->Hp->Prop)->Prop
structure Ends where
 nx:St->Hp->Prop
 rt:VK
 bk:St->Hp->Prop:=λ_ _=>False
 ct:St->Hp->Prop:=λ_ _=>False
abbrev TS:=Ends->St->Hp->Prop
def EP (X:Cx)(pins:QE)(σ:St)(Q:VK)(u:Value)(s':Shared):Prop:=∃v H',Inv X pins σ H' s'/\RelV v u/\Q v H'
def TP (X:Cx)(pins:QE)(σ:St)(Q:Bool->Hp->Prop)(b:Bool)(s':Shared):Prop:=∃H',Inv X pins σ H' s'/\Q b H'
def AP (X:Cx)(pins:QE)(σ:St)(Q:List V->Hp->Prop)(us:QO)(s':Shared):Prop:=∃vs H',Inv X pins σ H' s'/\Vals vs us/\Q vs H'
def SP (X:Cx)(pins:QE)(D:Ends)(f:Flow)(s':Shared):Prop:=
 match f with
 | .next=>∃σ' H',Inv X pins σ' H' s'/\D.nx σ' H'
 | .brk=>∃σ' H',Inv X pins σ' H' s'/\D.bk σ' H'
 | .cont=>∃σ' H',Inv X pins σ' H' s'/\D.ct σ' H'
 | .ret u=>∃v σ' H',Inv X pins σ' H' s'/\RelV v u/\D.rt v H'
def PE (X:Cx)(e:Expr)(t:TE):Prop:=
 ∀(pins:QE)(s:Shared)(σ:St)(H:Hp)(Q:VK),Inv X pins σ H s->t σ H Q->wpAny (model X.prog X.w) X.A (eval e X.env) (EP X pins σ Q) X.xe s
def PT (X:Cx)(e:Expr)(t:TT):Prop:=
 ∀(pins:QE)(s:Shared)(σ:St)(H:Hp)(Q:Bool->Hp->Prop),Inv X pins σ H s->t σ H Q->wpAny (model X.prog X.w) X.A (isTrue e X.env (eval e X.env)) (TP X pins σ Q) X.xe s
def PW (X:Cx)(e:Expr)(t:TT):Prop:=
 ∀(whole:Sem Value)(pins:QE)(s:Shared)(σ:St)(H:Hp)(Q:Bool->Hp->Prop),Inv X pins σ H s->t σ H Q->wpAny (model X.prog X.w) X.A (isTrue e X.env whole) (TP X pins σ Q) X.xe s
def PW.pt (h:PW X e t):PT X e t:=h _
def PA (X:Cx)(es:List Expr)(t:TA):Prop:=
 ∀(pos:Pos)(pins:QE)(s:Shared)(σ:St)(H:Hp)(Q:List V->Hp->Prop),Inv X pins σ H s->t σ H Q->wpAny (model X.prog X.w) X.A (spliced (backTo pos (starEach es X.env))) (AP X pins σ Q) X.xe s
def PS (X:Cx)(st:Stmt)(t:TS):Prop:=
 ∀(pins:QE)(s:Shared)(σ:St)(H:Hp)(D:Ends),Inv X pins σ H s->t D σ H->wpAny (model X.prog X.w) X.A (exec st X.env) (SP X pins D) X.xe s
def PSs (X:Cx)(st:List Stmt)(t:TS):Prop:=
 ∀(pins:QE)(s:Shared)(σ:St)(H:Hp)(D:Ends),Inv X pins σ H s->t D σ H->wpAny (model X.prog X.w) X.A (execs st X.env) (SP X pins D) X.xe s
def thn {t:Sem α}{Q Q':α->Shared->Prop}{s:Shared}(h:wpAny M A t Q E s)(hQ:∀a s,Q a s->Q' a s):wpAny M A t Q' E s:=wpAny_mono h hQ λ_ _ x=>x
section
variable {X:Cx}
def bin (ha:PE X a ta)(hb:PE X b tb){R:V->V->Hp->Prop}(I:Inv X pins σ H s)(h:ta σ H λx H1=>tb σ H1 λy H2=>R x y H2)
  {α:Type} {Q:α->Shared->Prop} {f:Value->Value->Sem α}
  (hf:∀v u s2 x y H2,Inv X pins σ H2 s2->RelV x v->RelV y u->R x y H2->wpAny (model X.prog X.w) X.A (f v u) Q X.xe s2):
  wpAny (model X.prog X.w) X.A (eval a X.env) (λv s₁=>wpAny (model X.prog X.w) X.A (eval b X.env) (λu s₂=>wpAny (model X.prog X.w) X.A (f v u) Q X.xe s₂) X.xe s₁) X.xe s:=by
 refine thn (ha pins s σ H _ I h) λv s1 ⟨x,H1,I1,r1,q1⟩=>?_;refine thn (hb pins s1 σ H1 _ I1 q1) λu s2 ⟨y,H2,I2,r2,q2⟩=>?_;exact hf v u s2 x y H2 I2 r1 r2 q2
inductive tVar (i:Nat)(σ:St)(H:Hp)(Q:VK):Prop
 | mk (v:V)(_:σ[i]? =some (some v)) (_:Q v H):tVar i σ H Q
def tC (v:V):TE:=λ_ H Q=>Q v H
def zrv {i:Nat}{x:Str}{pos:Pos}(hN:X.N[i]? =some x)(hv:Vis X.env.scope x)(hd:(x==("__debug__" :Str))=false:=by decide) (hcd:(x==("__classdict__" :Str))=false:=by decide):PE X (.Name x pos) (tVar i):=by
 intro pins s σ H Q I h;obtain⟨v,e,h⟩:=h;obtain⟨m,hn,hl⟩:=I.loc;obtain⟨u,r,l⟩:=hl i x v hN e hv;have fin:EP X pins σ Q u s:=⟨v,H,I,r,h⟩;rcases l with ⟨hk,hm⟩ | ⟨hk,c,hc,hcell⟩
 ·exact wpAny_Name (wpAny_loadName_local I.ok.kind hk hn hm fin) hd
 ·rcases hk with hk | hk
  ·exact wpAny_Name (wpAny_loadName_cell I.ok.kind hk hc hcell fin) hd
  ·exact wpAny_Name (wpAny_loadName_free I.ok.kind hk hc hcell fin hcd) hd
def zaH {i j pos}:PE X (.Constant (.int i) j pos) (tC (.int i)):=λ_ _ _ H _ I h=>wpAny_Constant_int ⟨.int i,H,I.tok _,⟨_,rfl⟩,h⟩
def ztp {b j pos}:PE X (.Constant (.bool b) j pos) (tC (.bl b)):=λ_ _ _ H _ I h=>Constant_bool ⟨.bl b,H,I,rfl,h⟩
def znB {j pos}:PE X (.Constant .none j pos) (tC .non):=λ_ _ _ H _ I h=>Constant_none ⟨.non,H,I,rfl,h⟩
def zeg {x j pos}:PE X (.Constant (.str x) j pos) (tC (.str x)):=λ_ _ _ H _ I h=>Calls.Constant_str ⟨.str x,H,I.tok _,⟨_,rfl⟩,h⟩
def Gl (X:Cx)(x:Str):Prop:=X.env.kindOf x=some .globalImplicit
def za3 {u:Value}{pos:Pos}{Q:QC}(I:Inv X pins σ H s)(hg:Gl X x)(hm:X.mg x=some u)(h:Q u s)
  (hd:(x==("__debug__" :Str))=false:=by decide):wpAny (model X.prog X.w) X.A (eval (.Name x pos) X.env) Q E s:=
 Calls.Name_function_global I.ok.kind hg (Calls.loadGlobal_global (by rw[I.ok.glob];exact I.mod.glob.keeps I.bk) hm h) hd
def zce {u:Value}{pos:Pos}{Q:QC}(I:Inv X pins σ H s)(hg:Gl X x)(hm:X.mg x=none)(hv:bootBuiltins x=some u)(h:Q u s)
  (hn:x≠ "__name__" :=by decide) (hd:(x==("__debug__" :Str))=false:=by decide):wpAny (model X.prog X.w) X.A (eval (.Name x pos) X.env) Q E s:=by
 obtain⟨mb,h1,h2⟩:=I.mod.blt;exact Calls.Name_function_global I.ok.kind hg (Calls.loadGlobal_builtin (by rw[I.ok.glob];exact I.mod.glob.keeps I.bk) hm (by rw[I.ok.blt];exact h1.keeps I.bk) ((h2 x hn).trans hv) h) hd
def zhz {u:Value}{pos:Pos}(hg:Gl X x)(hm:X.mg x=some u)(r:RelV v u)(hd:(x==("__debug__" :Str))=false:=by decide):PE X (.Name x pos) (tC v):=
 λ_ _ _ H _ I h=>za3 I hg hm ⟨v,H,I,r,h⟩ hd
def zpx {u:Value}{pos:Pos}(hg:Gl X x)(hm:X.mg x=none)(hv:bootBuiltins x=some u)(r:RelV v u)(hn:x≠ "__name__" :=by decide) (hd:(x==("__debug__" :Str))=false:=by decide):PE X (.Name x pos) (tC v):=
 λ_ _ _ H _ I h=>zce I hg hm hv ⟨v,H,I,r,h⟩ hn hd
variable {a b:Expr}{ta tb:TE}{pos:Pos}
def PC (X:Cx)(op:CmpOp)(a b:Expr)(t:TE):Prop:=
 ∀(pins:QE)(s:Shared)(σ:St)(H:Hp)(Q:VK),Inv X pins σ H s->t σ H Q->
  wpAny (model X.prog X.w) X.A (eval a X.env) (λv s₁=>wpAny (model X.prog X.w) X.A (eval b X.env) (λu s₂=>wpAny (model X.prog X.w) X.A (compareOp op v u) (EP X pins σ Q) X.xe s₂) X.xe s₁) X.xe s
def znV (b:Expr){op:CmpOp}(h:op≠ .In)(h2:op≠ .NotIn):behindInMarks op b=false:=by
 have e1:(op==CmpOp.In)=false:=by cases op <;> first | rfl | exact Jf rfl h
 have e2:(op==CmpOp.NotIn)=false:=by cases op <;> first | rfl | exact Jf rfl h2
 cases b <;> simp[behindInMarks,e1,e2]
def tB (t:TE):TT:=fun σ H Q=>t σ H λx H1=>∃c,x=.bl c/\Q c H1
def zoB (h:PC X op a b t)(h1:behindInMarks op b=false:=by first | exact znV _ (by decide) (by decide) | rfl):PT X (.Compare a [op] [b] pos) (tB t):=by intro pins s σ H Q I hw;refine wpAny_isTrue_Compare1 (thn (h pins s σ H _ I hw) λv s1 h1=>thn h1 λu s2 h2=>thn h2 λc s3 ⟨x,H1,I1,r1,q1⟩=>?_) h1;obtain⟨d,rfl,q⟩:=q1;cases r1;exact wpAny_truthy_bool ⟨H1,I1,q⟩
def zsi (h:PE X e t)(he:∀whole,isTrue e X.env whole=(do let v<-whole;standAt e.pos;holding [v] (truthy v)):=by intro _;rfl):PT X e (tB t):=by intro pins s σ H Q I hw;refine isTrue_plain (thn (h pins s σ H _ I hw) λv s1 ⟨x,H1,I1,r1,q1⟩=>?_) (he _);obtain⟨d,rfl,q⟩:=q1;cases r1;exact wpAny_truthy_bool ⟨H1,I1,q⟩
variable {tA tB':TT}{rest:List Expr}
def tAnd (t u:TT):TT:=fun σ H Q=>t σ H λc H1=>if c=true then u σ H1 Q else Q false H1
def tOr (t u:TT):TT:=fun σ H Q=>t σ H λc H1=>if c=true then Q true H1 else u σ H1 Q
def tNot (t:TT):TT:=fun σ H Q=>t σ H λc H1=>Q (!c) H1
def zky (ha:PT X a tA):PW X (.BoolOp .And [a] pos) tA:=by
 intro wh pins s σ H Q I h;refine isTrue_and (thn (ha pins s σ H Q I h) λc s1 e=>?_);cases c with
 | true=>exact isTrue_and_nil e
 | false=>exact e
def zhM (ha:PT X a tA):PW X (.BoolOp .Or [a] pos) tA:=by
 intro wh pins s σ H Q I h;refine isTrue_or (thn (ha pins s σ H Q I h) λc s1 e=>?_);cases c with
 | false=>exact isTrue_or_nil e
 | true=>exact e
def zka (ha:PT X a tA)(hb:PW X (.BoolOp .And (b::rest) pos) tB'):PW X (.BoolOp .And (a::b::rest) pos) (tAnd tA tB'):=by
 intro wh pins s σ H Q I h;refine isTrue_and (thn (ha pins s σ H _ I h) λc s1 ⟨H1,I1,q1⟩=>?_);cases c with
 | true=>exact hb wh pins s1 σ H1 Q I1 q1
 | false=>exact⟨H1,I1,q1⟩
def zil (ha:PT X a tA)(hb:PW X (.BoolOp .Or (b::rest) pos) tB'):PW X (.BoolOp .Or (a::b::rest) pos) (tOr tA tB'):=by
 intro wh pins s σ H Q I h;refine isTrue_or (thn (ha pins s σ H _ I h) λc s1 ⟨H1,I1,q1⟩=>?_);cases c with
 | true=>exact⟨H1,I1,q1⟩
 | false=>exact hb wh pins s1 σ H1 Q I1 q1
def znw (ha:PT X a tA):PT X (.UnaryOp .Not a pos) (tNot tA):=by intro pins s σ H Q I h;exact isTrue_not (ha pins s σ H (λc H1=>Q (!c) H1) I h)
def ztd (ta tb:TE):TE:=fun σ H Q=>ta σ H λx H1=>∃c,x=.bl c/\if c=true then tb σ H1 Q else Q (.bl false) H1
def tOrV (ta tb:TE):TE:=fun σ H Q=>ta σ H λx H1=>∃c,x=.bl c/\if c=true then Q (.bl true) H1 else tb σ H1 Q
def ztw (ta:TE):TE:=fun σ H Q=>ta σ H λx H1=>∃c,x=.bl c/\Q (.bl (!c)) H1
def zb0 {op}(h:PE X a t):PE X (.BoolOp op [a] pos) t:=λpins s σ H Q I hw=>BoolOp_one (h pins s σ H Q I hw)
def zc9 (ha:PE X a ta)(hb:PE X (.BoolOp .And (b::rest) pos) tb):PE X (.BoolOp .And (a::b::rest) pos) (ztd ta tb):=by
 intro pins s σ H Q I h;refine BoolOp_and (thn (ha pins s σ H _ I h) λv s1 ⟨x,H1,I1,r1,q1⟩=>?_);obtain⟨c,rfl,q1⟩:=q1;cases r1;refine wpAny_truthy_bool ?_;cases c with
 | true=>exact hb pins s1 σ H1 Q I1 q1
 | false=>exact⟨.bl false,H1,I1,rfl,q1⟩
def zqP (ha:PE X a ta)(hb:PE X (.BoolOp .Or (b::rest) pos) tb):PE X (.BoolOp .Or (a::b::rest) pos) (tOrV ta tb):=by
 intro pins s σ H Q I h;refine BoolOp_or (thn (ha pins s σ H _ I h) λv s1 ⟨x,H1,I1,r1,q1⟩=>?_);obtain⟨c,rfl,q1⟩:=q1;cases r1;refine wpAny_truthy_bool ?_;cases c with
 | false=>exact hb pins s1 σ H1 Q I1 q1
 | true=>exact⟨.bl true,H1,I1,rfl,q1⟩
def zsy (ha:PE X a ta):PE X (.UnaryOp .Not a pos) (ztw ta):=by intro pins s σ H Q I h;refine UnaryOp_ (thn (ha pins s σ H _ I h) λv s1 ⟨x,H1,I1,r1,q1⟩=>?_);obtain⟨c,rfl,q1⟩:=q1;cases r1;exact not_of (wpAny_truthy_bool ⟨.bl (!c),H1,I1,rfl,q1⟩)
def tIf (t:TT)(ta tb:TE):TE:=fun σ H Q=>t σ H λc H1=>if c=true then ta σ H1 Q else tb σ H1 Q
def zfj (hc:PT X c tA)(ha:PE X a ta)(hb:PE X b tb):PE X (.IfExp c a b pos) (tIf tA ta tb):=by
 intro pins s σ H Q I h;refine wpAny_IfExp (thn (hc pins s σ H _ I h) λd s1 ⟨H1,I1,q1⟩=>?_);cases d with
 | true=>exact ha pins s1 σ H1 Q I1 q1
 | false=>exact hb pins s1 σ H1 Q I1 q1
end
def SqL (K:QA)(H:Hp)(a:Addr)(xs:QR):Prop:=
 Rd H a (.lst xs)\/
  ∃(o:Obj)(its:Array Value)(n:Nat),K.lookup a=some o/\o.cls=.type "list" /\o.dict=none/\o.data=.seq its n/\its.size<=sizeLine/\Vals xs its.toList
def SqT (K:QA)(H:Hp)(a:Addr)(xs:QR):Prop:=
 Rd H a (.tup xs)\/
  ∃(o:Obj)(its:Array Value)(n:Nat),K.lookup a=some o/\o.cls=.type "tuple" /\o.data=.seq its n/\its.size<=sizeLine/\Vals xs its.toList
def absV:Value->Option V
 | .none=>some .non
 | .bool b=>some (.bl b)
 | .int i _=>some (.int i)
 | .str x _=>some (.str x)
 | .bytes b _=>some (.byt b)
 | .float b _=>some (.flt b)
 | .ref a=>some (.ref a)
 | .type n=>some (.ty n)
 | _=>none
def RelV.abs (r:RelV x u):absV u=some x:=by
 cases x with
 | non=>cases r;rfl
 | bl _=>cases r;rfl
 | int _=>obtain⟨t,rfl⟩:=r;rfl
 | str _=>obtain⟨t,rfl⟩:=r;rfl
 | byt _=>obtain⟨t,rfl⟩:=r;rfl
 | flt _=>obtain⟨t,rfl⟩:=r;rfl
 | ref _=>cases r;rfl
 | ty _=>cases r;rfl
theorem RelV.inj (r:RelV x u)(q:RelV y u):x=y:=JO (r.abs.symm.trans q.abs)
theorem Vals.inj:∀{xs ys:QR}{us:QO},Vals xs us->Vals ys us->xs=ys
 | _,_,_,.nil,.nil=>rfl
 | _,_,_,.cons r t,.cons r' t'=>by rw[r.inj r',Vals.inj t t']
section
variable {X:Cx}{pins:QE}{σ:St}{H:Hp}{s:Shared}{a:Addr}{xs ys:QR}
def SqL.of {K:QA}(h:H a=some (.lst xs)):SqL K H a xs:=.inl (.inl h)
def SqT.of {K:QA}(h:H a=some (.tup xs)):SqT K H a xs:=.inl (.inl h)
def _root_.Nf:=@Array.length_toList
def Inv.list (I:Inv X pins σ H s)(h:SqL X.K H a xs):∃its:List Value,Vals xs its/\PlainL s.heap a its.toArray/\xs.length<=sizeLine:=by
 rcases h with h | ⟨o,its,n,hk,hc,hd,hs,hz,r⟩
 ·obtain⟨z,its,n,r,e⟩:=h.ok I.hok;exact⟨its,r,⟨_,n,e,rfl,rfl,rfl⟩,z⟩
 ·refine⟨its.toList,r,⟨o,n,I.kIn a o hk,hc,hd,by simpa using hs⟩,?_⟩;have e:=r.length;simp only[Nf] at e;lia
def Inv.tuple (I:Inv X pins σ H s)(h:SqT X.K H a xs):∃its:List Value,Vals xs its/\IsTup s.heap a its.toArray/\xs.length<=sizeLine:=by
 rcases h with h | ⟨o,its,n,hk,hc,hs,hz,r⟩
 ·obtain⟨z,its,r,p⟩:=h.ok I.hok;exact⟨its,r,p,z⟩
 ·refine⟨its.toList,r,⟨o,I.kIn a o hk,hc,n,by simpa using hs⟩,?_⟩;have e:=r.length;simp only[Nf] at e;lia
theorem Inv.list_inj (I:Inv X pins σ H s)(h:SqL X.K H a xs)(h':SqL X.K H a ys):xs=ys:=by
 obtain⟨its,r,⟨o,n,e,_,_,d⟩,_⟩:=I.list h;obtain⟨its',r',⟨o',n',e',_,_,d'⟩,_⟩:=I.list h';rw[e] at e';cases e';rw[d] at d';injection d' with d1 _
 have:its=its':=by simpa using congrArg Array.toList d1
 subst this;exact r.inj r'
theorem Inv.tuple_inj (I:Inv X pins σ H s)(h:SqT X.K H a xs)(h':SqT X.K H a ys):xs=ys:=by
 obtain⟨its,r,⟨o,e,_,n,d⟩,_⟩:=I.tuple h;obtain⟨its',r',⟨o',e',_,n',d'⟩,_⟩:=I.tuple h';rw[e] at e';cases e';rw[d] at d';injection d' with d1 _
 have:its=its':=by simpa using congrArg Array.toList d1
 subst this;exact r.inj r'
end
abbrev Cx.wish (X:Cx)(E:QC):Cx:={X with xe:=E}
abbrev Cx.nox (X:Cx):Cx:=X.wish λ_ _=>False
def Cx.Ok.wish {X:Cx}(ok:X.Ok)(E:QC):(X.wish E).Ok:=
 ⟨ok.mod,ok.kind,ok.glob,ok.blt,ok.above,ok.inj,ok.has,ok.cab,ok.hd,ok.frames,ok.stk,ok.exf,ok.bs,ok.bsz,ok.noex,ok.exfs,ok.funs,ok.frf⟩
def Cx.Ok.unwish {X:Cx}{E:QC}(ok:(X.wish E).Ok):X.Ok:=
 ⟨ok.mod,ok.kind,ok.glob,ok.blt,ok.above,ok.inj,ok.has,ok.cab,ok.hd,ok.frames,ok.stk,ok.exf,ok.bs,ok.bsz,ok.noex,ok.exfs,ok.funs,ok.frf⟩
section
variable {X:Cx}{pins:QE}{σ:St}{H:Hp}{s:Shared}{E:QC}
def Inv.wish (I:Inv X pins σ H s)(E:QC):Inv (X.wish E) pins σ H s:=⟨I.ok.wish E,I.os,I.bare,I.base,I.loc,I.cell,I.free,I.freeC,I.pin,I.hok,I.len⟩
def Inv.unwish (I:Inv (X.wish E) pins σ H s):Inv X pins σ H s:=⟨I.ok.unwish,I.os,I.bare,I.base,I.loc,I.cell,I.free,I.freeC,I.pin,I.hok,I.len⟩
def SP.unwish (h:SP (X.wish E) pins D f s'):SP X pins D f s':=by
 cases f with
 | next=>obtain⟨σ',H',I,q⟩:=h;exact⟨σ',H',I.unwish,q⟩
 | brk=>obtain⟨σ',H',I,q⟩:=h;exact⟨σ',H',I.unwish,q⟩
 | cont=>obtain⟨σ',H',I,q⟩:=h;exact⟨σ',H',I.unwish,q⟩
 | ret u=>obtain⟨v,σ',H',I,r,q⟩:=h;exact⟨v,σ',H',I.unwish,r,q⟩
def PSs.nox {st:List Stmt}{t:TS}(h:PSs X.nox st t):PSs X st t:=λpins s σ H D I hw=>
 wpAny_mono (h pins s σ H D (I.wish _) hw) (λ_ _ q=>q.unwish) λ_ _ z=>False.elim z
variable {st:Stmt}{rest:List Stmt}{t u:TS}{e:Expr}{te:TE}{pos:Pos}
def zqV:TS:=λD σ H=>D.nx σ H
def tSeq (t u:TS):TS:=λD σ H=>t {D with nx:=u D} σ H
def zai:PSs X [] zqV:=λ_ _ σ H _ I h=>wpAny_execs_nil ⟨σ,H,I,h⟩
def zf (h1:PS X st t)(h2:PSs X rest u):PSs X (st::rest) (tSeq t u):=by
 intro pins s σ H D I h;refine wpAny_execs_cons (thn (h1 pins s σ H {D with nx:=u D} I h) λf s1 q=>?_);cases f with
 | next=>obtain⟨σ',H',I',q⟩:=q;exact h2 pins s1 σ' H' D I' q
 | ret v=>exact q
 | brk=>exact q
 | cont=>exact q
def zw (h1:PS X st t):PSs X [st] t:=by
 intro pins s σ H D I h;refine wpAny_execs_cons (thn (h1 pins s σ H D I h) λf s1 q=>?_);cases f with
 | next=>exact wpAny_execs_nil q
 | ret v=>exact q
 | brk=>exact q
 | cont=>exact q
def zto:TS:=λD σ H=>D.ct σ H
def ziK:PS X (.Continue pos) zto:=λ_ _ σ H _ I h=>wpAny_Continue ⟨σ,H,I,h⟩
def Inv.quiet (I:Inv X pins σ H s):interactive X.env=false:=by simp[interactive,I.ok.kind]
def ztx (te:TE):TS:=λD σ H=>te σ H λ_ H1=>D.nx σ H1
def zcQ (he:PE X e te)(hs:swapsWith e none pos.line X.env=pure false:=by rfl):PS X (.Expr e pos) (ztx te):=by intro pins s σ H D I h;exact wpAny_Expr_any (thn (he pins s σ H _ I h) λv s1 ⟨x,H1,I1,r1,q1⟩=>⟨σ,H1,I1,q1⟩) I.quiet hs
def tRet (te:TE):TS:=λD σ H=>te σ H D.rt
def zaa (he:PE X e te):PS X (.Return (some e) pos) (tRet te):=by intro pins s σ H D I h;exact wpAny_Return_some (thn (he pins s σ H _ I h) λv s1 ⟨x,H1,I1,r1,q1⟩=>⟨x,σ,H1,I1,r1,q1⟩)
def tIfS (c:TT)(t u:TS):TS:=λD σ H=>c σ H λb H1=>if b=true then t D σ H1 else u D σ H1
def zbr (hc:PT X c tc)(ha:PSs X a t)(hb:PSs X b u):PS X (.If c a b pos) (tIfS tc t u):=by
 intro pins s σ H D I h;refine wpAny_If (thn (hc pins s σ H _ I h) λd s1 ⟨H1,I1,q1⟩=>?_);cases d with
 | true=>exact ha pins s1 σ H1 D I1 q1
 | false=>exact hb pins s1 σ H1 D I1 q1
end
abbrev TG:=V->St->Hp->(St->Hp->Prop)->Prop
abbrev TGs:=List V->St->Hp->(St->Hp->Prop)->Prop
def PG (X:Cx)(target:Expr)(t:TG):Prop:=
 ∀(pins:QE)(s:Shared)(σ:St)(H:Hp)(v:V)(u:Value)(Q:St->Hp->Prop),Inv X pins σ H s->RelV v u->t v σ H Q->
  wpAny (model X.prog X.w) X.A (assign target X.env u) (λ_ s'=>∃σ' H',Inv X pins σ' H' s'/\Q σ' H') X.xe s
def PGs (X:Cx)(ts:List Expr)(t:TGs):Prop:=
 ∀(pins:QE)(s:Shared)(σ:St)(H:Hp)(vs:QR)(us:QO)(Q:St->Hp->Prop),Inv X pins σ H s->Vals vs us->t vs σ H Q->
  wpAny (model X.prog X.w) X.A (assignInOrder ((assignEach ts X.env).map (·.2)) us) (λ_ s'=>∃σ' H',Inv X pins σ' H' s'/\Q σ' H') X.xe s
abbrev TSet:=V->V->V->Hp->(Hp->Prop)->Prop
def PSet (X:Cx)(t:TSet):Prop:=
 ∀(pins:QE)(s:Shared)(σ:St)(H:Hp)(o i v:V)(ov iv u:Value)(Q:Hp->Prop),Inv X pins σ H s->RelV o ov->RelV i iv->RelV v u->t o i v H Q->
  wpAny (model X.prog X.w) X.A (setItem ov iv u) (λ_ s'=>∃H',Inv X pins σ H' s'/\Q H') X.xe s
section
variable {X:Cx}{pos:Pos}
def zbN (i:Nat):TG:=λv σ H Q=>Q (σ.set i (some v)) H
def zhu {i:Nat}{x:Str}(hN:X.N.Nodup)(hi:X.N[i]? =some x)(hx:Loc X.env.scope x)(hf:X.fn x=true\/X.env.scope.names.lookup x=some .local:=by first | exact .inl rfl | exact .inr rfl | assumption):PG X (.Name x pos) (zbN i):=by intro pins s σ H v u Q I r h;exact wpAny_assign_Name (zfr I hN hi hx r (λs' I'=>⟨_,H,I',h⟩) hf)
def gNil:TGs:=λvs σ H Q=>vs=[]/\Q σ H
def ztl (t:TG)(u:TGs):TGs:=λvs σ H Q=>∃v r,vs=v::r/\t v σ H fun σ' H'=>u r σ' H' Q
def zpp:PGs X [] gNil:=by intro pins s σ H vs us Q I r h;obtain⟨e,h⟩:=h;subst e;cases r;exact assignInOrder_nil ⟨σ,H,I,h⟩
def znx (h1:PG X e t)(h2:PGs X es u)
  (hs:(assignEach (e::es) X.env).map (·.2)=assign e X.env::(assignEach es X.env).map (·.2):=by rfl):PGs X (e::es) (ztl t u):=by
 intro pins s σ H vs us Q I r h;obtain⟨v,vr,e1,h⟩:=h;subst e1;cases r with
 | cons r rr=>rw[hs];refine assignInOrder_cons (thn (h1 pins s σ H _ _ _ I r h) λ_ s1 ⟨σ1,H1,I1,q1⟩=>?_);exact h2 pins s1 σ1 H1 _ _ Q I1 rr q1
def gTup (K:QA)(n:Nat)(t:TGs):TG:=λv σ H Q=>∃a xs,v=.ref a/\SqT K H a xs/\xs.length=n/\t xs σ H Q
def zr5 {k:Nat}{n:Nat}(hc:X.calm=true)(h:PGs X es t)
  (hn:(assignEach es X.env).length=n:=by rfl) (hst:(assignEach es X.env).findIdx? (·.1)=none:=by rfl):PG X (.Tuple es k pos) (gTup X.K n t):=by
 intro pins s σ H v u Q I r hw;obtain⟨a,xs,e1,hq,hl,hw⟩:=hw;subst e1;cases r;obtain⟨its,rv,ht,hz⟩:=I.tuple hq;refine assign_Tuple_tuple (I.ok.hd hc) ht (by simp[hn,<-hl,rv.length]) hst λh' hx=>?_;have I1:Inv X pins σ H {s with heap:=h'}:=I.kept (t':=s.toks) λb o e=>hx b o (Jk (JF e)) e;exact h pins _ σ H xs _ Q I1 (by simpa using rv) hw
def gSub (to ti:TE)(t:TSet):TG:=λv σ H Q=>to σ H λo H1=>ti σ H1 λi H2=>t o i v H2 λH3=>Q σ H3
def _root_.Ja:=@wpAny_bind
def zrC (ho:PE X o to)(hi:PE X i ti)(hs:PSet X t)
  (ha:∀v,assign (.Subscript o i pos) X.env v=(do
   let ov<-holding [v] (eval o X.env)
   let iv<-holding [v,ov] (eval i X.env)
   standAt pos
   holding [v,ov,iv] (setItem ov iv v)
   release [v,ov,iv] []):=by intro _;rfl):PG X (.Subscript o i pos) (gSub to ti t):=by
 intro pins s σ H v u Q I r h;rw[ha];refine Ja (wpAny_holding (thn (ho pins s σ H _ I h) λov s1 ⟨x,H1,I1,r1,q1⟩=>?_));refine Ja (wpAny_holding (thn (hi pins s1 σ H1 _ I1 q1) λiv s2 ⟨y,H2,I2,r2,q2⟩=>?_));refine Ja (wpAny_standAt (Ja (wpAny_holding (thn (hs pins s2 σ H2 x y v ov iv u _ I2 r1 r2 r q2) λ_ s3 ⟨H3,I3,q3⟩=>?_))));exact wpAny_release ⟨σ,H3,I3,q3⟩
def tAsg (te:TE)(g:TG):TS:=λD σ H=>te σ H λx H1=>g x σ H1 D.nx
def zsn (he:PE X e te)(hg:PG X tg g)(hs:swapsWithSole [tg] e pos.line X.env=pure false:=by rfl)(hw:swappedStores [tg] e X.env=pure none:=by rfl)
  (h1:(assignEach [tg] X.env).map (·.2)=[assign tg X.env]:=by rfl):PS X (.Assign [tg] e pos) (tAsg te g):=by
 intro pins s σ H D I h;refine wpAny_Assign_stores (thn (he pins s σ H _ I h) λv s1 ⟨x,H1,I1,r1,q1⟩=>?_) hs hw;rw[h1];exact thn (hg pins s1 σ H1 x v _ I1 r1 q1) λ_ s2 q=>q
def zsA {i:Nat}{x:Str}{pos':Pos}(hN:X.N.Nodup)(hi:X.N[i]? =some x)(hx:Loc X.env.scope x)(he:PE X e te)(hs:swapsWith e (some (.Name x pos')) pos.line X.env=pure false:=by rfl)(hf:X.fn x=true\/X.env.scope.names.lookup x=some .local:=by first | exact .inl rfl | exact .inr rfl | assumption):
  PS X (.Assign [.Name x pos'] e pos) (tAsg te (zbN i)):=by
 intro pins s σ H D I h;refine wpAny_Assign_Name (thn (he pins s σ H _ I h) λv s1 ⟨y,H1,I1,r1,q1⟩=>?_) hs;exact zfr I1 hN hi hx r1 (λs2 I2=>⟨_,H1,I2,q1⟩) hf
def zsd (c:TT)(tb:TS):TS:=λD σ H=>∃W:Nat->St->Hp->Prop,(∃m,W m σ H)/\∀m σ H,W m σ H->
 c σ H λb H1=>if b=true then∃N:St->Hp->Prop,(∀σ' H',N σ' H'->∃m',m' < m/\W m' σ' H')/\tb {D with nx:=N,ct:=N,bk:=D.nx} σ H1 else D.nx σ H1
def _root_.Jc:=@Bool.false_ne_true
def znr (hp:PassesOwn (model X.prog X.w) X.A X.env X.xe)(hc:PT X c tc)(hb:PSs X body tb):PS X (.While c body [] pos) (zsd tc tb):=by
 intro pins s σ H D I h;obtain⟨W,⟨m0,w0⟩,turn⟩:=h;refine wpAny_While (codeAny_whileLoop (λn s'=>∃σ' H',Inv X pins σ' H' s'/\W n σ' H') ?_ m0 ⟨σ,H,I,w0⟩);rintro n s1 ⟨σ1,H1,I1,w1⟩;refine wpAny_passesOwn hp (thn (hc pins s1 σ1 H1 _ I1 (turn n σ1 H1 w1)) λb s2 ⟨H2,I2,q2⟩=>?_);cases b with
 | true=>
  obtain⟨N,hN,q2⟩:=q2;rw[if_pos rfl];refine wpAny_passesOwn hp (thn (hb pins s2 σ1 H2 _ I2 q2) λf s3 q3=>?_);cases f with
  | next=>obtain⟨σ3,H3,I3,n3⟩:=q3;obtain⟨m',hm,w3⟩:=hN σ3 H3 n3;exact⟨m',hm,σ3,H3,I3,w3⟩
  | cont=>obtain⟨σ3,H3,I3,n3⟩:=q3;obtain⟨m',hm,w3⟩:=hN σ3 H3 n3;exact⟨m',hm,σ3,H3,I3,w3⟩
  | brk=>exact q3
  | ret v=>exact q3
 | false=>rw[if_neg Jc];exact wpAny_execs_nil ⟨σ1,H2,I2,q2⟩
end
structure It where
 go:Nat->Hp->Prop
 yld:Nat->Hp->V->Hp->Prop
 stop:Nat->Hp->Prop
def FpOk (X:Cx)(pins:QE)(H:Hp)(b:Addr):Prop:=
 H b=none/\b≠X.env.locals/\b∉X.fs/\(b∈X.ex\/X.s₀.heap.objs.size<=b)/\(∀x c,X.env.cells.lookup x=some c->c≠b)/\∀p∈X.pn++pins,p.1≠b
def Inv.fpOk {H':Hp}{b:Addr}(I:Inv X pins σ H s)(hb:s.heap.objs.size<=b)(hn:H' b=none):FpOk X pins H' b:=by
 refine⟨hn,Nat.ne_of_gt (Je I.lt hb),I.nofs hb,.inr (Jg I.sz hb),λx c e z=>?_,λp hp z=>?_⟩
 ·obtain⟨v,q⟩:=I.cell x c e;exact Jf (Je q.lt (by rw[z];exact hb)) (Jv _)
 ·exact Jf (Je (JF (I.pin p hp).1) (by rw[z];exact hb)) (Jv _)
structure Turn (P:Program)(w:World)(K:QA)(tg:Expr)(J:It)(fp:QP)(it:Addr)(tn:Nat->Heap->Prop):Prop where
 mem:it∈fp
 obj:∀i h,tn i h->∀b∈fp,∃o,h.get? b=some o/\∀v,o.data≠ .cell v
 keep:∀i h h',tn i h->(∀b∈fp,∀o,h.get? b=some o->h'.get? b=some o)->tn i h'
 item:∀(X:Cx),X.prog=P->X.w=w->X.K=K->X.calm=true->∀(i:Nat)(pins:QE)(s:Shared)(σ:St)(H:Hp)(E:QC),Inv X pins σ H s->(∀b∈fp,FpOk X pins H b)->tn i s.heap->J.go i H->
  wpAny (model P w) X.A (pyNext (.ref it)) (λr s1=>∃u,r=some u/\
   wpAny (model P w) X.A (letOwnedTupleGo tg (.ref it) u) (λ_ s2=>∃x H',Inv X pins σ H' s2/\RelV x u/\J.yld i H x H'/\tn (i+1) s2.heap/\∀b∈fp,H' b=none) E s1) E s
 done:∀(X:Cx),X.prog=P->X.w=w->X.K=K->X.calm=true->∀(i:Nat)(pins:QE)(s:Shared)(σ:St)(H:Hp)(E:QC),Inv X pins σ H s->(∀b∈fp,FpOk X pins H b)->tn i s.heap->J.stop i H->
  wpAny (model P w) X.A (pyNext (.ref it)) (λr s1=>r=none/\Inv X pins σ H s1) E s
 self:∀(A:Around)(i:Nat)(s:Shared)(Q:QC)(E:QC),tn i s.heap->Q (.ref it) s->wpAny (model P w) A (pyIter (.ref it)) Q E s
abbrev TI:=St->Hp->(It->Hp->Prop)->Prop
def PIE (X:Cx)(pins:QE)(σ:St)(tg:Expr)(R:It->Hp->Prop)(itv:Value)(s2:Shared):Prop:=
 ∃(it:Addr)(fp:QP)(tn:Nat->Heap->Prop)(J:It)(H':Hp),itv=.ref it/\Inv X pins σ H' s2/\Turn X.prog X.w X.K tg J fp it tn/\tn 0 s2.heap/\(∀b∈fp,FpOk X pins H' b)/\R J H'
def PI (X:Cx)(tg iter:Expr)(wi:TI):Prop:=
 ∀(pins:QE)(s:Shared)(σ:St)(H:Hp)(R:It->Hp->Prop),Inv X pins σ H s->wi σ H R->
  wpAny (model X.prog X.w) X.A (eval iter X.env) (λv s1=>wpAny (model X.prog X.w) X.A (pyIter v) (PIE X pins σ tg R) X.xe s1) X.xe s
def zgD {s:Shared}{tg:Expr}{it:Addr}{u:Value}{o:Obj}{n:String}{vs:Array Value}{Q:QD}(ho:s.heap.get? it=some o)(hc:o.cls=.type n)(hd:o.data=.fields vs)
  (hn:["enumerate","zip","dict_itemiterator","dict_reverseitemiterator","odict_iterator","itertools.zip_longest","itertools.pairwise"].contains n=false) (hQ:Q () s):wpAny M A (letOwnedTupleGo tg (.ref it) u) Q E s:=by
 unfold letOwnedTupleGo;cases tg <;> first
  | exact wpAny_pure hQ
  | (cases u <;> first
    | exact wpAny_pure hQ
    | (refine Ja (wpAny_load ho ?_)
       rw[hc,hd];show wpAny M A (if (["enumerate","zip","dict_itemiterator","dict_reverseitemiterator","odict_iterator","itertools.zip_longest","itertools.pairwise"].contains n && vs[0]? ==some (rawInt _))=true then _ else _) Q E s;rw[if_neg (by intro h;rw[hn,Bool.false_and] at h;cases h)];exact wpAny_pure hQ))
def Itl (K:QA)(a:Addr):It:=
 ⟨λi H=>∃xs x,SqL K H a xs/\xs[i]? =some x,λi H x H'=>H'=H/\∀xs,SqL K H a xs->xs[i]? =some x,λi H=>∃xs,SqL K H a xs/\xs.length<=i⟩
def Itt (K:QA)(a:Addr):It:=
 ⟨λi H=>∃xs x,SqT K H a xs/\xs[i]? =some x,λi H x H'=>H'=H/\∀xs,SqT K H a xs->xs[i]? =some x,λi H=>∃xs,SqT K H a xs/\xs.length<=i⟩
def Itr (lo:Int)(n:Nat):It:=⟨λi _=>i < n,λi H x H'=>H'=H/\x=.int (lo+i),λi _=>n<=i⟩
def zme {P:Program}{w:World}{K:QA}{tg:Expr}(a it:Addr):Turn P w K tg (Itl K a) [it] it (λi h=>h.IsListIter it a i) where
 mem:=by simp
 obj:=λi h st b hb=>by
  have e:b=it:=by simpa using hb
  subst e;obtain⟨o,e,c,d⟩:=st;exact⟨o,e,λv z=>by rw[d] at z;cases z⟩
 keep:=λi h h' st k=>st.at λo e=>k it (by simp) o e
 item:=by intro X hP hw hK hc i pins s σ H E I hf st hg;subst hP hw hK;obtain⟨xs,x,hq,hx⟩:=hg;obtain⟨its,rv,p,hz⟩:=I.list hq;obtain⟨u,hu,ru⟩:=rv.get hx;obtain⟨f0,f1,f2,f3,f4,f5⟩:=hf it (by simp);refine wpAny_pyNext_list_item st p.isList (x:=u) (by simpa using hu) λh' st' sb=>?_;have I1:Inv X pins σ H {s with heap:=h'}:=I.turned (t':=s.toks) (λb o hb e=>(sb.2 b hb).trans e) f0 f1 f3 f4 f5;obtain⟨o,e,c,d⟩:=id st';exact⟨u,rfl,zgD (s:={s with heap:=h'}) e c d (by decide) ⟨x,H,I1,ru,⟨rfl,λys hy=>by rw[I.list_inj hy hq];exact hx⟩,st',λb hb=>(hf b hb).1⟩⟩
 done:=by intro X hP hw hK hc i pins s σ H E I hf st hg;subst hP hw hK;obtain⟨xs,hq,hx⟩:=hg;obtain⟨its,rv,p,hz⟩:=I.list hq;obtain⟨f0,f1,f2,f3,f4,f5⟩:=hf it (by simp);have hl:=rv.length;exact wpAny_pyNext_list_end (I.ok.hd hc) st p.isList (by simp;lia) λh' eb=>⟨rfl,I.turned (t':=s.toks) (λb o hb e=>eb b o hb e) f0 f1 f3 f4 f5⟩
 self:=λ_ _ _ _ _ st h=>wpAny_pyIter_listiter st h
def zkb {P:Program}{w:World}{K:QA}{tg:Expr}(a it:Addr):Turn P w K tg (Itt K a) [it] it (λi h=>h.IsTupleIter it a i) where
 mem:=by simp
 obj:=λi h st b hb=>by
  have e:b=it:=by simpa using hb
  subst e;obtain⟨o,e,c,d⟩:=st;exact⟨o,e,λv z=>by rw[d] at z;cases z⟩
 keep:=λi h h' st k=>st.at λo e=>k it (by simp) o e
 item:=by intro X hP hw hK hc i pins s σ H E I hf st hg;subst hP hw hK;obtain⟨xs,x,hq,hx⟩:=hg;obtain⟨its,rv,p,hz⟩:=I.tuple hq;obtain⟨u,hu,ru⟩:=rv.get hx;obtain⟨f0,f1,f2,f3,f4,f5⟩:=hf it (by simp);refine wpAny_pyNext_tuple_item st (show s.heap.IsTuple a its.toArray from p) (x:=u) (by simpa using hu) λh' st' sb=>?_;have I1:Inv X pins σ H {s with heap:=h'}:=I.turned (t':=s.toks) (λb o hb e=>(sb.2 b hb).trans e) f0 f1 f3 f4 f5;obtain⟨o,e,c,d⟩:=id st';exact⟨u,rfl,zgD (s:={s with heap:=h'}) e c d (by decide) ⟨x,H,I1,ru,⟨rfl,λys hy=>by rw[I.tuple_inj hy hq];exact hx⟩,st',λb hb=>(hf b hb).1⟩⟩
 done:=by intro X hP hw hK hc i pins s σ H E I hf st hg;subst hP hw hK;obtain⟨xs,hq,hx⟩:=hg;obtain⟨its,rv,p,hz⟩:=I.tuple hq;obtain⟨f0,f1,f2,f3,f4,f5⟩:=hf it (by simp);have hl:=rv.length;exact wpAny_pyNext_tuple_end (I.ok.hd hc) st (show s.heap.IsTuple a its.toArray from p) (by simp;lia) λh' eb=>⟨rfl,I.turned (t':=s.toks) (λb o hb e=>eb b o hb e) f0 f1 f3 f4 f5⟩
 self:=λ_ _ _ _ _ st h=>wpAny_pyIter_tupleiter st h
def zjO {P:Program}{w:World}{K:QA}{tg:Expr}(it:Addr)(lo:Int)(n:Nat):Turn P w K tg (Itr lo n) [it] it (λi h=>IsRangeIter h it (lo+(i:Nat) * 1) ((n:Int) - (i:Nat)) 1) where
 mem:=by simp
 obj:=λi h st b hb=>by
  have e:b=it:=by simpa using hb
  subst e;exact⟨_,st,λv z=>by have z':Data.fields _=Data.cell v:=z;cases z'⟩
 keep:=λi h h' st k=>k it (by simp) _ st
 item:=by intro X hP hw hK hc i pins s σ H E I hf st hg;subst hP hw hK;obtain⟨f0,f1,f2,f3,f4,f5⟩:=hf it (by simp);have W:=Walks.range (prog:=X.prog) (w:=X.w) (I.ok.hd hc) it lo 1 n;refine W.item i s _ _ hg st λv h' tk hv st' kk=>?_;obtain⟨t,rfl⟩:=hv;have I1:Inv X pins σ H {s with heap:=h',toks:=tk}:=I.turned (λb o hb e=>kk b o (by simpa using hb) e) f0 f1 f3 f4 f5;refine⟨_,rfl,zgD (s:={s with heap:=h',toks:=tk}) (n:= "range_iterator") st' rfl rfl (by decide) ⟨.int (lo+i),H,I1,⟨t,?_⟩,⟨rfl,rfl⟩,st',λb hb=>(hf b hb).1⟩⟩;rw[Int.mul_one]
 done:=by intro X hP hw hK hc i pins s σ H E I hf st hg;subst hP hw hK;obtain⟨f0,f1,f2,f3,f4,f5⟩:=hf it (by simp);exact wpAny_pyNext_range_end (I.ok.hd hc) st (by have:n<=i:=hg;lia) λh' eb=>⟨rfl,I.turned (t':=s.toks) (λb o hb e=>eb b o hb e) f0 f1 f3 f4 f5⟩
 self:=λ_ _ _ _ _ st h=>wpAny_pyIter_rangeiter st h
section
variable {X:Cx}{tg:Expr}
def zs7 (K:QA)(tl:TE):TI:=fun σ H R=>tl σ H λx H1=>∃a,x=.ref a/\(∃xs,SqL K H1 a xs)/\R (Itl K a) H1
def iTup (K:QA)(tl:TE):TI:=fun σ H R=>tl σ H λx H1=>∃a,x=.ref a/\(∃xs,SqT K H1 a xs)/\R (Itt K a) H1
def _root_.Jb:=@Nat.le_refl
def _root_.JC:=@PySem.Heap.get?_push_of_some
def _root_.JJ:=@PySem.Heap.get?_push_size
def zg9 (hl:PE X l tl):PI X tg l (zs7 X.K tl):=by
 intro pins s σ H R I h;refine thn (hl pins s σ H _ I h) λv s1 ⟨x,H1,I1,r1,q1⟩=>?_;obtain⟨a,e,⟨xs,hq⟩,q⟩:=q1;subst e;cases r1;obtain⟨its,rv,p,hz⟩:=I1.list hq;refine wpAny_pyIter_list p.isList ?_;refine⟨s1.heap.objs.size,[s1.heap.objs.size],_,_,H1,rfl,I1.kept (t':=s1.toks) λb o e=>JC _ e,zme a _,⟨_,JJ _ rfl,rfl,rfl⟩,λb hb=>?_,q⟩;have e:b=s1.heap.objs.size:=by simpa using hb
 subst e;exact I1.fpOk (Jb _) (I1.hok.fresh (Jb _))
def zjJ (hl:PE X l tl):PI X tg l (iTup X.K tl):=by
 intro pins s σ H R I h;refine thn (hl pins s σ H _ I h) λv s1 ⟨x,H1,I1,r1,q1⟩=>?_;obtain⟨a,e,⟨xs,hq⟩,q⟩:=q1;subst e;cases r1;obtain⟨its,rv,p,hz⟩:=I1.tuple hq;refine wpAny_pyIter_tuple (show s1.heap.IsTuple a its.toArray from p) ?_;refine⟨s1.heap.objs.size,[s1.heap.objs.size],_,_,H1,rfl,I1.kept (t':=s1.toks) λb o e=>JC _ e,zkb a _,⟨_,JJ _ rfl,rfl,rfl⟩,λb hb=>?_,q⟩;have e:b=s1.heap.objs.size:=by simpa using hb
 subst e;exact I1.fpOk (Jb _) (I1.hok.fresh (Jb _))
def znQ {R:It->Hp->Prop}{lo hi:Int}{t u v:Tok}{tk:Nat}(I:Inv X pins σ H s)(h1: -(2 ^ 62)<=lo)(h2:lo < 2 ^ 62)(h3: -(2 ^ 62)<=hi)(h4:hi < 2 ^ 62)
  (q:R (Itr lo (hi - lo).toNat) H):wpAny (model X.prog X.w) X.A (pyIter (.ref s.heap.objs.size)) (PIE X pins σ tg R) E {s with heap:=s.heap.push {cls:=.type "range",data:=.fields #[.int lo t,.int hi u,.int 1 v]},toks:=tk}:=by
 refine wpAny_pyIter_range (IsRange.new ..) (small_one h1 h2 h3 h4) ?_;have I1:Inv X pins σ H {s with heap:=s.heap.push {cls:=.type "range",data:=.fields #[.int lo t,.int hi u,.int 1 v]},toks:=tk}:=I.kept λb o e=>JC _ e;refine⟨(s.heap.push {cls:=.type "range",data:=.fields #[.int lo t,.int hi u,.int 1 v]}).objs.size,[(s.heap.push {cls:=.type "range",data:=.fields #[.int lo t,.int hi u,.int 1 v]}).objs.size],_,_,H,rfl,
  I1.kept (t':=tk) λb o e=>JC _ e,zjO _ lo (hi - lo).toNat,?_,λb hb=>?_,q⟩
 ·have e1:lo+((0:Nat):Int) * 1=lo:=by simp
  have e2:(((hi - lo).toNat:Nat):Int) - ((0:Nat):Int)=Builtin.Range.rangeSize lo hi 1:=by rw[rangeSize_one];split <;> lia
  show IsRangeIter _ _ (lo+((0:Nat):Int) * 1) ((((hi - lo).toNat:Nat):Int) - ((0:Nat):Int)) 1;rw[e1,e2];exact JJ _ rfl
 ·have e:b=(s.heap.push {cls:=.type "range",data:=.fields #[.int lo t,.int hi u,.int 1 v]}).objs.size:=by simpa using hb
  subst e;exact I1.fpOk (Jb _) (I1.hok.fresh (Jb _))
def ztD (ta:TA):TI:=fun σ H R=>ta σ H λvs H1=>∃j:Int,vs=[.int j]/\ -(2 ^ 62)<=j/\j < 2 ^ 62/\R (Itr 0 j.toNat) H1
def zmq {a:Expr}{p pos:Pos}(hg:Gl X "range") (hm:X.mg "range" =none) (ha:PA X [a] ta) (hs:starEach [a] X.env=[(false,eval a X.env)]:=by rfl):PI X tg (.Call (.Name "range" p) [a] [] pos) (ztD ta):=by
 intro pins s σ H R I h;refine Call_ (zce I hg hm boot_range (PyProof.Rows.callWith_type1 (thn (ha pos pins s σ H _ I h) λus s1 ⟨vs,H1,I1,r1,q1⟩=>?_) hs rfl));obtain⟨j,e,q1,q2,q⟩:=q1;subst e;cases r1 with
 | cons r rr=>cases rr;obtain⟨t,rfl⟩:=r;exact call_range_1 (znQ I1 (by lia) (by lia) q1 q2 (by simpa using q))
def tFor (wi:TI)(g:TG)(tb:TS):TS:=λD σ H=>wi σ H λJ H1=>∃W:Nat->Nat->St->Hp->Prop,(∃m,W 0 m σ H1)/\∀i m σ H,W i m σ H->
 (J.stop i H/\D.nx σ H)\/(J.go i H/\∃N:St->Hp->Prop,(∀σ' H',N σ' H'->∃m',m' < m/\W (i+1) m' σ' H')/\∀x H',J.yld i H x H'->g x σ H' fun σ2 H2=>tb {D with nx:=N,ct:=N,bk:=D.nx} σ2 H2)
def zff (fp:QP)(h:Heap):List (Addr ×Obj):=fp.filterMap λb=>(h.get? b).map λo=>(b,o)
def zb4 {fp:QP}{h:Heap}{b:Addr}{o:Obj}(hb:b∈fp)(e:h.get? b=some o):(b,o)∈zff fp h:=List.mem_filterMap.mpr ⟨b,hb,by rw[e];rfl⟩
def zlK {p:Addr ×Obj}(hp:p∈zff fp h):p.1∈fp/\h.get? p.1=some p.2:=by
 obtain⟨b,hb,e⟩:=List.mem_filterMap.mp hp;cases q:h.get? b with
 | none=>rw[q] at e;cases e
 | some o=>rw[q] at e;have e':(b,o)=p:=JO e;subst e';exact⟨hb,q⟩
def _root_.Jh:=@List.mem_append_right
def Inv.pinned {fp:QP}(I:Inv X pins σ H s)(hf:∀b∈fp,FpOk X pins H b)(ho:∀b∈fp,∃o,s.heap.get? b=some o/\∀v,o.data≠ .cell v):Inv X (pins++zff fp s.heap) σ H s:=
 I.pins_of λp hp=>(Jm.mp hp).elim (λz=>I.pin p (Jh _ z)) λz=>by obtain⟨hb,e⟩:=zlK z;obtain⟨f0,f1,f2,_⟩:=hf p.1 hb;obtain⟨o,e',d⟩:=ho p.1 hb;rw[e] at e';cases e';exact⟨e,f0,f1,f2,d⟩
def Inv.unpinned {pins pl:QE}(I:Inv X (pins++pl) σ H s):Inv X pins σ H s:=I.pins_of λp hp=>I.pin p (Jh _ (Jp _ hp))
def zcy {pos:Pos}(hp:PassesOwn (model X.prog X.w) X.A X.env X.xe)(hc:X.calm=true)(hi:PI X tg iter wi)(hg:PG X tg g)(hb:PSs X body tb)
  (hs:∀x,foldedSetIterable iter X.env x=pure x:=by intro _;rfl):PS X (.For tg iter body [] pos) (tFor wi g tb):=by
 intro pins s σ H D I h;refine wpAny_For (thn (hi pins s σ H _ I h) λv s1 h1=>thn h1 λitv s2 h2=>?_) hs;obtain⟨it,fp,tn,J,H2,e,I2,T,st2,f2,W,⟨m0,w0⟩,turn⟩:=h2;subst e
 have stat:∀{H':Hp},(∀b∈fp,H' b=none)->∀b∈fp,FpOk X pins H' b:=λhn b hb=>⟨hn b hb,(f2 b hb).2⟩;refine codeAny_forLoop_any (λn s'=>∃i σ' H',Inv X pins σ' H' s'/\tn i s'.heap/\(∀b∈fp,H' b=none)/\W i n σ' H') ?_ m0 ⟨0,σ,H2,I2,st2,λb hb=>(f2 b hb).1,w0⟩;rintro n s3 ⟨i,σ3,H3,I3,st3,fr3,w3⟩;rcases turn i n σ3 H3 w3 with ⟨stop,qn⟩ | ⟨go,N,hN,step⟩
 ·refine wpAny_passesOwn hp (thn (T.done X rfl rfl rfl hc i pins s3 σ3 H3 X.xe I3 (stat fr3) st3 stop) λr s4 ⟨hr,I4⟩=>?_);subst hr;exact wpAny_execs_nil ⟨σ3,H3,I4,qn⟩
 ·refine wpAny_passesOwn hp (thn (T.item X rfl rfl rfl hc i pins s3 σ3 H3 X.xe I3 (stat fr3) st3 go) λr s4 ⟨u,hr,h4⟩=>?_);subst hr;refine wpAny_passesOwn hp (thn h4 λ_ s5 ⟨x,H5,I5,r5,y5,st5,fr5⟩=>?_);have I5':=I5.pinned (stat fr5) (T.obj _ _ st5);refine wpAny_passesOwn hp (thn (hg _ s5 σ3 H5 x u _ I5' r5 (step x H5 y5)) λ_ s6 ⟨σ6,H6,I6,q6⟩=>?_);refine wpAny_passesOwn hp (thn (hb _ s6 σ6 H6 _ I6 q6) λf s7 q7=>?_);have again:∀{σ7:St}{H7:Hp},Inv X (pins++zff fp s5.heap) σ7 H7 s7->N σ7 H7->∃m,m < n/\∃i σ' H',Inv X pins σ' H' s7/\tn i s7.heap/\(∀b∈fp,H' b=none)/\W i m σ' H':=λ{σ7 H7} I7 n7=>by obtain⟨m',hm,w7⟩:=hN σ7 H7 n7;refine⟨m',hm,i+1,σ7,H7,I7.unpinned,T.keep _ _ _ st5 λb hb o e=>(I7.pin (b,o) (Jh _ (Jh _ (zb4 hb e)))).1,λb hb=>?_,w7⟩;obtain⟨o,e,d⟩:=T.obj _ _ st5 b hb;exact(I7.pin (b,o) (Jh _ (Jh _ (zb4 hb e)))).2.1
  cases f with
  | next=>obtain⟨σ7,H7,I7,n7⟩:=q7;exact again I7 n7
  | cont=>obtain⟨σ7,H7,I7,n7⟩:=q7;exact again I7 n7
  | brk=>obtain⟨σ7,H7,I7,q7⟩:=q7;exact⟨σ7,H7,I7.unpinned,q7⟩
  | ret v=>obtain⟨x7,σ7,H7,I7,r7,q7⟩:=q7;exact⟨x7,σ7,H7,I7.unpinned,r7,q7⟩
end
def _root_.JM:=@Nat.zero_le
def zck {K:QA}{a:Addr}{xs:QR}{g:TG}{tb:TS}{D:Ends}{σ:St}{H:Hp}(Pv:Nat->St->Hp->Prop)(h0:Pv 0 σ H)(hl:∀i σ H,i<=xs.length->Pv i σ H->SqL K H a xs)
  (hs:∀i x σ H,xs[i]? =some x->Pv i σ H->g x σ H fun σ2 H2=>tb {D with nx:=Pv (i+1),ct:=Pv (i+1),bk:=D.nx} σ2 H2) (hd:∀σ H,Pv xs.length σ H->D.nx σ H):
  ∃W:Nat->Nat->St->Hp->Prop,(∃m,W 0 m σ H)/\∀i m σ H,W i m σ H->
   ((Itl K a).stop i H/\D.nx σ H)\/((Itl K a).go i H/\∃N:St->Hp->Prop,(∀σ' H',N σ' H'->∃m',m' < m/\W (i+1) m' σ' H')/\∀x H',(Itl K a).yld i H x H'->g x σ H' fun σ2 H2=>tb {D with nx:=N,ct:=N,bk:=D.nx} σ2 H2):=by
 refine⟨λi m σ H=>m=xs.length - i/\i<=xs.length/\Pv i σ H,⟨xs.length,by simp,JM _,h0⟩,?_⟩;rintro i m σ H ⟨rfl,hi,p⟩;have q:=hl i σ H hi p;by_cases hlt:i < xs.length
 ·refine .inr ⟨⟨xs,xs[i],q,by simp[hlt]⟩,Pv (i+1),fun σ' H' p'=>⟨xs.length - (i+1),by lia,rfl,hlt,p'⟩,λx H' y=>?_⟩;obtain⟨e,y⟩:=y;subst e;exact hs i x σ _ (y xs q) p
 ·have e:i=xs.length:=by lia
  subst e;exact .inl ⟨⟨xs,q,Jb _⟩,hd σ H p⟩
def zlc {K:QA}{a:Addr}{xs:QR}{g:TG}{tb:TS}{D:Ends}{σ:St}{H:Hp}(Pv:Nat->St->Hp->Prop)(h0:Pv 0 σ H)(hl:∀i σ H,i<=xs.length->Pv i σ H->SqT K H a xs)
  (hs:∀i x σ H,xs[i]? =some x->Pv i σ H->g x σ H fun σ2 H2=>tb {D with nx:=Pv (i+1),ct:=Pv (i+1),bk:=D.nx} σ2 H2) (hd:∀σ H,Pv xs.length σ H->D.nx σ H):
  ∃W:Nat->Nat->St->Hp->Prop,(∃m,W 0 m σ H)/\∀i m σ H,W i m σ H->
   ((Itt K a).stop i H/\D.nx σ H)\/((Itt K a).go i H/\∃N:St->Hp->Prop,(∀σ' H',N σ' H'->∃m',m' < m/\W (i+1) m' σ' H')/\∀x H',(Itt K a).yld i H x H'->g x σ H' fun σ2 H2=>tb {D with nx:=N,ct:=N,bk:=D.nx} σ2 H2):=by
 refine⟨λi m σ H=>m=xs.length - i/\i<=xs.length/\Pv i σ H,⟨xs.length,by simp,JM _,h0⟩,?_⟩;rintro i m σ H ⟨rfl,hi,p⟩;have q:=hl i σ H hi p;by_cases hlt:i < xs.length
 ·refine .inr ⟨⟨xs,xs[i],q,by simp[hlt]⟩,Pv (i+1),fun σ' H' p'=>⟨xs.length - (i+1),by lia,rfl,hlt,p'⟩,λx H' y=>?_⟩;obtain⟨e,y⟩:=y;subst e;exact hs i x σ _ (y xs q) p
 ·have e:i=xs.length:=by lia
  subst e;exact .inl ⟨⟨xs,q,Jb _⟩,hd σ H p⟩
def zl9 {lo:Int}{n:Nat}{g:TG}{tb:TS}{D:Ends}{σ:St}{H:Hp}(Pv:Nat->St->Hp->Prop)(h0:Pv 0 σ H)
  (hs:∀i σ H,i < n->Pv i σ H->g (.int (lo+i)) σ H fun σ2 H2=>tb {D with nx:=Pv (i+1),ct:=Pv (i+1),bk:=D.nx} σ2 H2) (hd:∀σ H,Pv n σ H->D.nx σ H):
  ∃W:Nat->Nat->St->Hp->Prop,(∃m,W 0 m σ H)/\∀i m σ H,W i m σ H->
   ((Itr lo n).stop i H/\D.nx σ H)\/((Itr lo n).go i H/\∃N:St->Hp->Prop,(∀σ' H',N σ' H'->∃m',m' < m/\W (i+1) m' σ' H')/\∀x H',(Itr lo n).yld i H x H'->g x σ H' fun σ2 H2=>tb {D with nx:=N,ct:=N,bk:=D.nx} σ2 H2):=by
 refine⟨λi m σ H=>m=n - i/\i<=n/\Pv i σ H,⟨n,by simp,JM _,h0⟩,?_⟩;rintro i m σ H ⟨rfl,hi,p⟩;by_cases hlt:i < n
 ·refine .inr ⟨hlt,Pv (i+1),fun σ' H' p'=>⟨n - (i+1),by lia,rfl,hlt,p'⟩,λx H' y=>?_⟩;obtain⟨e,y⟩:=y;subst e y;exact hs i σ _ hlt p
 ·have e:i=n:=by lia
  subst e;exact .inl ⟨Jb _,hd σ H p⟩
abbrev R2:=V->V->Hp->VK->Prop
def OpR (X:Cx)(f:Value->Value->Sem Value)(r:R2):Prop:=
 ∀(pins:QE)(s:Shared)(σ:St)(H:Hp)(x y:V)(v u:Value)(Q:VK),Inv X pins σ H s->RelV x v->RelV y u->r x y H Q->
  wpAny (model X.prog X.w) X.A (f v u) (EP X pins σ Q) X.xe s
def UnR (X:Cx)(f:Value->Sem Value)(r:V->Hp->VK->Prop):Prop:=
 ∀(pins:QE)(s:Shared)(σ:St)(H:Hp)(x:V)(v:Value)(Q:VK),Inv X pins σ H s->RelV x v->r x H Q->
  wpAny (model X.prog X.w) X.A (f v) (EP X pins σ Q) X.xe s
def zal (X:Cx)(f:Value)(r:List V->Hp->VK->Prop):Prop:=
 ∀(pins:QE)(s:Shared)(σ:St)(H:Hp)(xs:QR)(us:QO)(Q:VK),Inv X pins σ H s->Vals xs us->r xs H Q->
  wpAny (model X.prog X.w) X.A (call f us) (EP X pins σ Q) X.xe s
def tOp (r:R2)(ta tb:TE):TE:=fun σ H Q=>ta σ H λx H1=>tb σ H1 λy H2=>r x y H2 Q
def tUn (r:V->Hp->VK->Prop)(ta:TE):TE:=fun σ H Q=>ta σ H λx H1=>r x H1 Q
inductive rI (C:Int->Int->Prop)(g:Int->Int->V)(x y:V)(H:Hp)(Q:VK):Prop
 | mk (i j:Int)(_:x=.int i)(_:y=.int j)(_:C i j)(_:Q (g i j) H):rI C g x y H Q
inductive rI0 (g:Int->Int->V)(x y:V)(H:Hp)(Q:VK):Prop
 | mk (i j:Int)(_:x=.int i)(_:y=.int j)(_:Q (g i j) H):rI0 g x y H Q
def rU (g:Int->V):V->Hp->VK->Prop:=λx H Q=>∃i,x=.int i/\Q (g i) H
section
variable {X:Cx}{a b c:Expr}{ta tb tc:TE}{pos:Pos}
def binT (ha:PE X a ta)(hb:PE X b tb){R:V->V->Hp->Prop}(I:Inv X pins σ H s)
  (h:ta σ H λx H1=>tb σ H1 λy H2=>R x y H2)  {f:Value->Value->Sem Value}
  (hf:∀v u s2 x y H2,Inv X pins σ H2 s2->RelV x v->RelV y u->R x y H2->wpAny (model X.prog X.w) X.A (f v u) Q X.xe s2):
  wpAny (model X.prog X.w) X.A (eval a X.env) (λv s₁=>wpAny (model X.prog X.w) X.A (eval b X.env) (λu s₂=>wpAny (model X.prog X.w) X.A (f v u) Q X.xe s₂) X.xe s₁) X.xe s:=by
 refine thn (ha pins s σ H _ I h) λv s1 ⟨x,H1,I1,r1,q1⟩=>?_;refine thn (hb pins s1 σ H1 _ I1 q1) λu s2 ⟨y,H2,I2,r2,q2⟩=>?_;exact hf v u s2 x y H2 I2 r1 r2 q2
def zkK (ho:OpR X (binaryOp op) r)(ha:PE X a ta)(hb:PE X b tb):PE X (.BinOp a op b pos) (tOp r ta tb):=by intro pins s σ H Q I h;exact wpAny_BinOp (binT ha hb I h λv u s2 x y H2 I2 rx ry q=>ho pins s2 σ H2 x y v u Q I2 rx ry q)
def ztm (ho:UnR X (unaryOp op) r)(ha:PE X a ta):PE X (.UnaryOp op a pos) (tUn r ta):=by intro pins s σ H Q I h;exact UnaryOp_ (thn (ha pins s σ H _ I h) λv s1 ⟨x,H1,I1,r1,q1⟩=>ho pins s1 σ H1 x v Q I1 r1 q1)
def opI {f:Value->Value->Sem Value}{C:Int->Int->Prop}{g:Int->Int->Int}
  (rule:∀(i j:Int)(t u:Tok)(s:Shared)(Q:QC)(E:QC),C i j->Q (.int (g i j) s.toks) {s with toks:=s.toks+1}->wpAny (model X.prog X.w) X.A (f (.int i t) (.int j u)) Q E s):
  OpR X f (rI C λi j=>.int (g i j)):=by
 intro pins s σ H x y v u Q I rx ry h;obtain⟨i,j,rfl,rfl,hc,q⟩:=h;obtain⟨t,rfl⟩:=rx;obtain⟨t',rfl⟩:=ry;exact rule i j t t' s _ _ hc ⟨.int (g i j),H,I.tok _,⟨_,rfl⟩,q⟩
def opI0 {f:Value->Value->Sem Value}{g:Int->Int->Int}
  (rule:∀(i j:Int)(t u:Tok)(s:Shared)(Q:QC)(E:QC),Q (.int (g i j) s.toks) {s with toks:=s.toks+1}->wpAny (model X.prog X.w) X.A (f (.int i t) (.int j u)) Q E s):
  OpR X f (rI0 λi j=>.int (g i j)):=by
 intro pins s σ H x y v u Q I rx ry h;obtain⟨i,j,rfl,rfl,q⟩:=h;obtain⟨t,rfl⟩:=rx;obtain⟨t',rfl⟩:=ry;exact rule i j t t' s _ _ ⟨.int (g i j),H,I.tok _,⟨_,rfl⟩,q⟩
def opB0 {f:Value->Value->Sem Value}{g:Int->Int->Bool}
  (rule:∀(i j:Int)(t u:Tok)(s:Shared)(Q:QC)(E:QC),Q (.bool (g i j)) s->wpAny (model X.prog X.w) X.A (f (.int i t) (.int j u)) Q E s):
  OpR X f (rI0 λi j=>.bl (g i j)):=by
 intro pins s σ H x y v u Q I rx ry h;obtain⟨i,j,rfl,rfl,q⟩:=h;obtain⟨t,rfl⟩:=rx;obtain⟨t',rfl⟩:=ry;exact rule i j t t' s _ _ ⟨.bl (g i j),H,I,rfl,q⟩
def CPow (i j:Int):Prop:=0<=j/\j<=1000000/\i.natAbs < 2 ^ 64
def CMul (i j:Int):Prop:=(-(2 ^ 64) < i/\i < 2 ^ 64)\/(-(2 ^ 64) < j/\j < 2 ^ 64)
def CMul.ok (h:CMul i j):IntMulOk i j:=by
 rcases h with ⟨h1,h2⟩ | ⟨h1,h2⟩
 ·exact .of_left (intBits_le_64 h1 h2)
 ·exact .of_right (intBits_le_64 h1 h2)
def zsb:OpR X (binaryOp .Add) (rI0 λi j=>.int (i+j)):=opI0 λ_ _ _ _ _ _ _ q=>add_int q
def zsk:OpR X (binaryOp .Sub) (rI0 λi j=>.int (i - j)):=opI0 λ_ _ _ _ _ _ _ q=>sub_int q
def zrW:OpR X (binaryOp .Mult) (rI CMul λi j=>.int (i * j)):=opI λ_ _ _ _ _ _ _ hc q=>mul_int q hc.ok
def zrI:OpR X (binaryOp .Mod) (rI (λ_ j=>0 < j) λi j=>.int (i % j)):=opI λi j _ _ _ _ _ hc q=>by have h1:(0:Int) < j:=hc;exact mod_int' (by lia) (by rw[Int.fmod_eq_emod_of_nonneg i (by lia)];exact q)
def zsl:OpR X (binaryOp .Pow) (rI CPow λi j=>.int (i ^ j.toNat)):=opI λ_ _ _ _ _ _ _ hc q=>pow_int_small hc.1 hc.2.1 hc.2.2 q
def unI {f:Value->Sem Value}{g:Int->Int}
  (rule:∀(i:Int)(t:Tok)(s:Shared)(Q:QC)(E:QC),Q (.int (g i) s.toks) {s with toks:=s.toks+1}->wpAny (model X.prog X.w) X.A (f (.int i t)) Q E s):
  UnR X f (rU λi=>.int (g i)):=by
 intro pins s σ H x v Q I rx h;obtain⟨i,rfl,q⟩:=h;obtain⟨t,rfl⟩:=rx;exact rule i t s _ _ ⟨.int (g i),H,I.tok _,⟨_,rfl⟩,q⟩
def zr0:UnR X (unaryOp .USub) (rU λi=>.int (-i)):=unI λ_ _ _ _ _ q=>neg_int q
end
def scal:V->V->Bool
 | .non,.non=>true | .non,.int _=>true | .int _,.non=>true | .non,.bl _=>true | .bl _,.non=>true | .non,.str _=>true | .str _,.non=>true
 | .int _,.int _=>true | .bl _,.bl _=>true | .str _,.str _=>true | .byt _,.byt _=>true
 | .int _,.str _=>true | .str _,.int _=>true | .bl _,.str _=>true | .str _,.bl _=>true
 | _,_=>false
def rEq:R2:=λx y H Q=>scal x y=true/\Q (.bl (decide (x=y))) H
def rNe:R2:=λx y H Q=>scal x y=true/\Q (.bl (!decide (x=y))) H
def _root_.Np:=@Bool.eq_iff_iff
def zli:decide (V.int i=V.int j)=(i==j):=by rw[Np];simp
def znj:decide (V.bl i=V.bl j)=(i==j):=by rw[Np];simp
def zk4:decide (V.str i=V.str j)=(i==j):=by rw[Np];simp
def zk7:decide (V.byt i=V.byt j)=(i.toList==j.toList):=by rw[Np];cases i;cases j;simp
section
variable {X:Cx}{a b c:Expr}{ta tb tc:TE}{pos:Pos}
def zx {Q:VK}{k k':Bool}(I:Inv X pins σ H s)(q:Q (.bl k) H)(e:k=k'):EP X pins σ Q (.bool k') s:=by subst e;exact⟨.bl k,H,I,rfl,q⟩
def zqY:OpR X (compareOp .Eq) rEq:=by
 intro pins s σ H x y v u Q I rx ry h;obtain⟨hs,q⟩:=h;cases x with
 | non=>
  cases rx;cases y with
  | non=>cases ry;exact PySem.EqNone.eq_none_none (zx I q (by simp))
  | bl j=>cases ry;exact PySem.EqNone.eq_none_bool (zx I q (by simp))
  | int j=>obtain⟨t',rfl⟩:=ry;exact PySem.EqNone.eq_none_int (zx I q (by simp))
  | str j=>obtain⟨t',rfl⟩:=ry;exact PySem.EqNone.eq_none_str (zx I q (by simp))
  | _=>exact Jf (show false=true from hs) Jc
 | bl i=>
  cases rx;cases y with
  | non=>cases ry;exact PySem.EqNone.eq_bool_none (zx I q (by simp))
  | bl j=>cases ry;exact eq_bool (zx I q znj)
  | str j=>obtain⟨t',rfl⟩:=ry;exact PySem.EqMixed.eq_bool_str (zx I q (by simp))
  | _=>exact Jf (show false=true from hs) Jc
 | int i=>
  obtain⟨t,rfl⟩:=rx;cases y with
  | non=>cases ry;exact PySem.EqNone.eq_int_none (zx I q (by simp))
  | int j=>obtain⟨t',rfl⟩:=ry;exact eq_int (zx I q zli)
  | str j=>obtain⟨t',rfl⟩:=ry;exact PySem.EqMixed.eq_int_str (zx I q (by simp))
  | _=>exact Jf (show false=true from hs) Jc
 | str i=>
  obtain⟨t,rfl⟩:=rx;cases y with
  | non=>cases ry;exact PySem.EqNone.eq_str_none (zx I q (by simp))
  | bl j=>cases ry;exact PySem.EqMixed.eq_str_bool (zx I q (by simp))
  | int j=>obtain⟨t',rfl⟩:=ry;exact PySem.EqMixed.eq_str_int (zx I q (by simp))
  | str j=>obtain⟨t',rfl⟩:=ry;exact eq_str (zx I q zk4)
  | _=>exact Jf (show false=true from hs) Jc
 | byt i=>
  obtain⟨t,rfl⟩:=rx;cases y with
  | byt j=>obtain⟨t',rfl⟩:=ry;exact PySem.W.eq_bytes (zx I q zk7)
  | _=>exact Jf (show false=true from hs) Jc
 | _=>cases y <;> exact Jf (show false=true from hs) Jc
def zs6:OpR X (compareOp .NotEq) rNe:=by
 intro pins s σ H x y v u Q I rx ry h;obtain⟨hs,q⟩:=h;cases x with
 | non=>
  cases rx;cases y with
  | non=>cases ry;exact PySem.EqNone.ne_none_none (zx I q (by simp))
  | bl j=>cases ry;exact PySem.EqNone.ne_none_bool (zx I q (by simp))
  | int j=>obtain⟨t',rfl⟩:=ry;exact PySem.EqNone.ne_none_int (zx I q (by simp))
  | str j=>obtain⟨t',rfl⟩:=ry;exact PySem.EqNone.ne_none_str (zx I q (by simp))
  | _=>exact Jf (show false=true from hs) Jc
 | bl i=>
  cases rx;cases y with
  | non=>cases ry;exact PySem.EqNone.ne_bool_none (zx I q (by simp))
  | bl j=>cases ry;exact ne_bool (zx I q (congrArg not znj))
  | str j=>obtain⟨t',rfl⟩:=ry;exact PySem.EqMixed.ne_bool_str (zx I q (by simp))
  | _=>exact Jf (show false=true from hs) Jc
 | int i=>
  obtain⟨t,rfl⟩:=rx;cases y with
  | non=>cases ry;exact PySem.EqNone.ne_int_none (zx I q (by simp))
  | int j=>obtain⟨t',rfl⟩:=ry;exact ne_int (zx I q (congrArg not zli))
  | str j=>obtain⟨t',rfl⟩:=ry;exact PySem.EqMixed.ne_int_str (zx I q (by simp))
  | _=>exact Jf (show false=true from hs) Jc
 | str i=>
  obtain⟨t,rfl⟩:=rx;cases y with
  | non=>cases ry;exact PySem.EqNone.ne_str_none (zx I q (by simp))
  | bl j=>cases ry;exact PySem.EqMixed.ne_str_bool (zx I q (by simp))
  | int j=>obtain⟨t',rfl⟩:=ry;exact PySem.EqMixed.ne_str_int (zx I q (by simp))
  | str j=>obtain⟨t',rfl⟩:=ry;exact ne_str (zx I q (congrArg not zk4))
  | _=>exact Jf (show false=true from hs) Jc
 | byt i=>
  obtain⟨t,rfl⟩:=rx;cases y with
  | byt j=>obtain⟨t',rfl⟩:=ry;exact PySem.W.ne_bytes (zx I q (congrArg not zk7))
  | _=>exact Jf (show false=true from hs) Jc
 | _=>cases y <;> exact Jf (show false=true from hs) Jc
def zq9:OpR X (compareOp .Lt) (rI0 λi j=>.bl (decide (i < j))):=opB0 λ_ _ _ _ _ _ _ q=>lt_int q
def zqR:OpR X (compareOp .LtE) (rI0 λi j=>.bl (decide (i<=j))):=opB0 λ_ _ _ _ _ _ _ q=>le_int q
def ztK:OpR X (compareOp .Gt) (rI0 λi j=>.bl (decide (j < i))):=opB0 λ_ _ _ _ _ _ _ q=>gt_int q
def ztk:OpR X (compareOp .GtE) (rI0 λi j=>.bl (decide (j<=i))):=opB0 λ_ _ _ _ _ _ _ q=>ge_int q
def zmf:OpR X (compareOp .Lt) (λx y H Q=>∃i j,x=.str i/\y=.str j/\Q (.bl (decide (i.cps.toList < j.cps.toList))) H):=by intro pins s σ H x y v u Q I rx ry h;obtain⟨i,j,rfl,rfl,q⟩:=h;obtain⟨t,rfl⟩:=rx;obtain⟨t',rfl⟩:=ry;exact lt_str (zx I q rfl)
def zsq:OpR X (compareOp .Is) (λx y H Q=>y=.non/\Q (.bl (decide (x=.non))) H):=by
 intro pins s σ H x y v u Q I rx ry h;obtain⟨rfl,q⟩:=h;cases ry;refine is_none_gen (zx I q ?_);cases x <;> first
  | (cases rx;rfl)
  | (obtain⟨t,rfl⟩:=rx;rfl)
def zqb:OpR X (compareOp .IsNot) (λx y H Q=>y=.non/\Q (.bl (!decide (x=.non))) H):=by
 intro pins s σ H x y v u Q I rx ry h;obtain⟨rfl,q⟩:=h;cases ry;refine isnot_none_gen (zx I q ?_);cases x <;> first
  | (cases rx;rfl)
  | (obtain⟨t,rfl⟩:=rx;rfl)
def OpR.or (h:OpR X f r)(h':OpR X f r'):OpR X f (λx y H Q=>r x y H Q\/r' x y H Q):=by
 intro pins s σ H x y v u Q I rx ry q;rcases q with q | q
 ·exact h pins s σ H x y v u Q I rx ry q
 ·exact h' pins s σ H x y v u Q I rx ry q
def zau (b:Expr){op:CmpOp}(h:op≠ .In:=by decide)(h2:op≠ .NotIn:=by decide):behindInMarks op b=false:=by
 have e1:(op==CmpOp.In)=false:=by cases op <;> first | rfl | exact Jf rfl h
 have e2:(op==CmpOp.NotIn)=false:=by cases op <;> first | rfl | exact Jf rfl h2
 cases b <;> simp[behindInMarks,e1,e2]
def zak (ho:OpR X (compareOp op) r)(ha:PE X a ta)(hb:PE X b tb)(hm:behindInMarks op b=false):PE X (.Compare a [op] [b] pos) (tOp r ta tb):=by intro pins s σ H Q I h;exact wpAny_Compare1 (binT ha hb I h λv u s2 x y H2 I2 rx ry q=>ho pins s2 σ H2 x y v u Q I2 rx ry q) hm
inductive isBl (x:V)(H:Hp)(Q:Bool->Hp->Prop):Prop
 | mk (k:Bool)(_:x=.bl k)(_:Q k H):isBl x H Q
def zrd (t:TE):TT:=fun σ H Q=>t σ H λx H'=>isBl x H' Q
def zaA (ho:OpR X (compareOp op) r)(ha:PE X a ta)(hb:PE X b tb)(hm:behindInMarks op b=false):PT X (.Compare a [op] [b] pos) (zrd (tOp r ta tb)):=by
 intro pins s σ H Q I h;refine wpAny_isTrue_Compare1 (thn (ha pins s σ H _ I h) λv s1 ⟨x,H1,I1,r1,q1⟩=>thn (hb pins s1 σ H1 _ I1 q1) λu s2 ⟨y,H2,I2,r2,q2⟩=>
  thn (ho pins s2 σ H2 x y v u _ I2 r1 r2 q2) λc s3 ⟨z,H3,I3,r3,k,e,q3⟩=>?_) hm
 subst e;cases r3;exact wpAny_truthy_bool ⟨H3,I3,q3⟩
def zmR (r r':R2)(ta tb tc:TE):TE:=fun σ H Q=>ta σ H λx H1=>tb σ H1 λy H2=>r x y H2 λz H3=>∃k,z=.bl k/\
 (if k=true then tc σ H3 λw' H4=>r' y w' H4 Q else Q (.bl false) H3)
def znM (ho:OpR X (compareOp op) r)(ho':OpR X (compareOp op') r')(ha:PE X a ta)(hb:PE X b tb)(hc:PE X c tc)
  (hm:lastMarks [op,op'] [b,c]=false:=by with_unfolding_all rfl):PE X (.Compare a [op,op'] [b,c] pos) (zmR r r' ta tb tc):=by
 intro pins s σ H Q I h;refine Compare_chain (thn (ha pins s σ H _ I h) λv s1 ⟨x,H1,I1,r1,q1⟩=>chain_link (thn (hb pins s1 σ H1 _ I1 q1) λu s2 ⟨y,H2,I2,r2,q2⟩=>
  thn (ho pins s2 σ H2 x y v u _ I2 r1 r2 q2) λd s3 ⟨z,H3,I3,r3,k,e,q3⟩=>?_)) hm
 subst e;cases r3;refine wpAny_truthy_bool ?_;cases k with
 | false=>exact ite_ff ⟨.bl false,H3,I3,rfl,q3⟩
 | true=>exact ite_tt (chain_last (thn (hc pins s3 σ H3 _ I3 q3) λw' s4 ⟨z',H4,I4,r4,q4⟩=>ho' pins s4 σ H4 y z' u w' Q I4 r2 r4 q4))
def ziy (ho:OpR X (compareOp op) r)(ho':OpR X (compareOp op') r')(ha:PE X a ta)(hb:PE X b tb)(hc:PE X c tc)
  (hm:lastMarks [op,op'] [b,c]=false:=by with_unfolding_all rfl):PT X (.Compare a [op,op'] [b,c] pos) (zrd (zmR r r' ta tb tc)):=by
 intro pins s σ H Q I h;refine isTrue_chain (thn (ha pins s σ H _ I h) λv s1 ⟨x,H1,I1,r1,q1⟩=>test_link (thn (hb pins s1 σ H1 _ I1 q1) λu s2 ⟨y,H2,I2,r2,q2⟩=>
  thn (ho pins s2 σ H2 x y v u _ I2 r1 r2 q2) λd s3 ⟨z,H3,I3,r3,k,e,q3⟩=>?_)) hm
 subst e;cases r3;refine wpAny_truthy_bool ?_;cases k with
 | false=>obtain⟨k',e',q'⟩:=q3;cases e';exact ite_ff ⟨H3,I3,q'⟩
 | true=>refine ite_tt (test_last (thn (hc pins s3 σ H3 _ I3 q3) λw' s4 ⟨z',H4,I4,r4,q4⟩=>thn (ho' pins s4 σ H4 y z' u w' _ I4 r2 r4 q4) λd' s5 ⟨z2,H5,I5,r5,k2,e2,q5⟩=>?_));subst e2;cases r5;exact wpAny_truthy_bool ⟨H5,I5,q5⟩
def zd2:(sizeLine:Nat) < 2 ^ 63:=by rw[sizeLine_eq];decide
def zjP:OpR X (binaryOp .Add) (λx y H Q=>∃i j,x=.str i/\y=.str j/\i.length+j.length<=sizeLine/\Q (.str (i++j)) H):=by intro pins s σ H x y v u Q I rx ry h;obtain⟨i,j,rfl,rfl,hz,q⟩:=h;obtain⟨t,rfl⟩:=rx;obtain⟨t',rfl⟩:=ry;exact add_str (λt' tk=>⟨.str (i++j),H,I.tok _,⟨_,rfl⟩,q⟩) hz
def vals1 {x:V}(r:Vals [x] us):∃u,us=[u]/\RelV x u:=by
 cases r with
 | cons r1 r2=>cases r2;exact⟨_,rfl,r1⟩
theorem vals2 {x y:V}(r:Vals [x,y] us):∃u w',us=[u,w']/\RelV x u/\RelV y w':=by
 cases r with
 | cons r1 r2=>
  cases r2 with
  | cons r3 r4=>cases r4;exact⟨_,_,rfl,r1,r3⟩
def zoJ:zal X (.builtin "abs") (λxs H Q=>∃i,xs=[.int i]/\Q (.int (if i < 0 then -i else i)) H):=by intro pins s σ H xs us Q I r h;obtain⟨i,rfl,q⟩:=h;obtain⟨u,rfl,t,rfl⟩:=vals1 r;exact call_abs_int λu tk=>⟨.int (if i < 0 then -i else i),H,I.tok _,⟨_,rfl⟩,q⟩
def zlB:zal X (.type "int") (λxs H Q=>(∃i,xs=[.int i]/\Q (.int i) H)\/∃k,xs=[.bl k]/\Q (.int (if k then 1 else 0)) H):=by
 intro pins s σ H xs us Q I r h;rcases h with ⟨i,rfl,q⟩ | ⟨k,rfl,q⟩
 ·obtain⟨u,rfl,t,rfl⟩:=vals1 r;exact call_int_int ⟨.int i,H,I,⟨_,rfl⟩,q⟩
 ·obtain⟨u,rfl,r1⟩:=vals1 r;cases r1;exact call_int_bool ⟨.int (if k then 1 else 0),H,I.tok _,⟨_,rfl⟩,q⟩
def zol:zal X (.builtin "ord") (λxs H Q=>∃x,xs=[.str x]/\x.length=1/\Q (.int (x.cps.getD 0 0:Nat)) H):=by intro pins s σ H xs us Q I r h;obtain⟨x,rfl,hz,q⟩:=h;obtain⟨u,rfl,t,rfl⟩:=vals1 r;exact ord_of_one hz ⟨.int _,H,I.tok _,⟨_,rfl⟩,q⟩
end
structure ObjM (h:Heap)(x dx C:Addr)(mA:QB):Prop where
 obj:h.get? x=some (PySem.W.instObj C dx)
 ns:h.Ns1 dx mA
 ne:dx≠x
def zek {h:Heap}{dx:Addr}{mA:QB}(n:h.Ns1 dx mA):∃od,h.get? dx=some od/\∀name,PySem.W.lookIn name od=some (mA name):=by
 obtain⟨o,es,ep,ho,hd,hk,_,hm⟩:=n;refine⟨o,ho,λname=>?_⟩;have e:=hm name;unfold nsFind findBy at e;rw[<-Array.find?_toList] at e;unfold PySem.W.lookIn;rw[hd];dsimp only;split
 ·rename_i y q;rw[q] at e;exact congrArg some e
 ·rename_i q;rw[q] at e;have a:es.toList.any (·.refKey)=false:=by rw[List.any_eq_false];intro y hy;obtain⟨z,t,hkey⟩:=hk y (Array.mem_toList_iff.mp hy);simp[DictEntry.refKey,hkey]
  have a':¬es.toList.any (·.refKey)=true:=by rw[a];exact Jc
  rw[if_neg a'];exact congrArg some e
theorem ObjM.look (I:ObjM h x dx C mA):∃od,PySem.W.InstAt h x (PySem.W.instObj C dx) C (some od)/\∀name,PySem.W.lookIn name od=some (mA name):=
 let ⟨od,ho,hl⟩:=zek I.ns
 ⟨od,⟨I.obj,rfl,rfl,ho⟩,hl⟩
section
variable {prog:Program}{w:World}{A:Around}{E:QC}{s:Shared}{K:QA}{x dx C f:Addr}{mA:QB}{name:Str}{v:Value}
def get_map {Q:QC}(X:K.In s.heap)(I:ObjM s.heap x dx C mA)(hg:PySem.W.plainGet K C name=true)(hh:PySem.W.hasDictIn K C=true)
  (ha:PySem.W.findIn K (.ref C) name=some none) (hv:mA name=some v) (hv':PySem.W.handedIn v=true) (h:Q v {s with toks:=s.toks+1}):
  wpAny (model prog w) A (getAttr (.ref x) name expr) Q E s:=by
 obtain⟨od,J,hl⟩:=I.look;exact PySem.W.get_value X J (PySem.W.plainGet_of hg).1 (PySem.W.findObj_own hh ha rfl (by rw[hl,hv])) hv' h
def zoa {Q:Value ×List Value->Shared->Prop}(X:K.In s.heap)(I:ObjM s.heap x dx C mA)(hg:PySem.W.plainGet K C name=true)
  (hf:PySem.W.findIn K (.ref C) name=some (some (.ref f))) (ht:PySem.W.isFn K (.ref f)=true) (hv:mA name=none) (h:Q (.ref f,[.ref x]) s):
  wpAny (model prog w) A (getMethod (.ref x) name pl) Q E s:=by
 obtain⟨od,J,hl⟩:=I.look;exact PySem.W.method_fn X J (PySem.W.plainGet_of hg).1 (PySem.W.plainGet_of hg).2 hf (beq_iff_eq.mp ht) (by show(PySem.W.lookIn name od).map (·.isSome)=some false;rw[hl,hv];rfl) h
def _root_.JK:=@List.length_cons
def zpZ {Q:QD}(X:K.In s.heap)(I:ObjM s.heap x dx C mA)
  (hs:PySem.W.findIn K (.ref C) "__setattr__" =some (some (.builtin "object.__setattr__"))) (hp:PySem.W.plainOver K C=true) (ht:PySem.W.takerIn K C name=some none) (hh:PySem.W.hasDictIn K C=true)
  (hw:PySem.Within mA ns) (hsz:ns.length<=sizeLine)
  (h:∀h',ObjM h' x dx C (λy=>if y=name then some v else mA y)->Heap.SameBut dx s.heap h'->Q () {s with heap:=h',toks:=s.toks+2}):
  wpAny (model prog w) A (setAttr (.ref x) name v) Q E s:=by
 obtain⟨od,J,hl⟩:=I.look;refine PySem.W.set_plain X J hs (PySem.W.osa_open (s:={s with toks:=s.toks+1}) (r:=none) X J hp ht λb=>?_);obtain⟨cd,hc,hd'⟩:=PySem.W.any_some hh;have hx:s.heap.get? x=some ⟨.ref C,some dx,.plain, #[]⟩:=I.obj;refine Ja (wpAny_pure (Ja (Ja (wpAny_loadPart hx (Ja (PySem.W.Looks.here (s:={s with toks:=s.toks+1}) (PySem.W.looks_clsIn X hc) ?_))))));rw[hd'];refine wpAny_pure (a:=some dx) (Ja (wpAny_pure (Ja ?_)));refine wpAny_nsSet1 (s:={s with toks:=s.toks+1}) I.ns λh' hn2 hs2=>?_;obtain⟨oD,esD,epD,hoD,hdD,hcD⟩:=hn2.count (PySem.Within.cons name v hw);refine Ja (wpAny_lookBehind hoD (by rw[hdD];exact pastItsLine_dict (Jg hcD (by rw[JK];lia))) ?_);exact wpAny_pure (h _ ⟨(hs2.2 _ (Ne.symm I.ne)).trans I.obj,hn2,I.ne⟩ hs2)
abbrev _root_.QL:=List (Str ×Value)
def zm0 {vs:QO}{kw:QL}(X:K.In s.heap)(hm:PySem.W.makesIn K C=true)
  (hi:PySem.W.findIn K (.ref C) "__init__" =some (some (.ref f))) (hf:PySem.W.typeIn K (.ref f)=some (.type "function"))
  (h:codeAny (model prog w) (A.under (.builtin "type.__call__" ⟨.ref C::vs,kw⟩)) (.call (.ref f) ⟨.ref (s.heap.objs.size+1)::vs,kw⟩) (PySem.W.InitBack (s.heap.objs.size+1) R)
   {s with heap:=(s.heap.push PySem.W.emptyDict).push (PySem.W.instObj C s.heap.objs.size)}):
  codeAny (model prog w) A (.call (.ref C) ⟨vs,kw⟩) R s:=by
 obtain⟨hh,g,d,t,os⟩:=s;exact PySem.W.make_core (PySem.W.makes_of X hm) (PySem.W.looks_findIn X hi) (λself=>PySem.W.bind_fn X self hf) (.inl rfl) h
end
def putF (f:Str)(v:V):List (Str ×V)->List (Str ×V)
 | []=>[(f,v)]
 | (g,x)::r=>if g=f then(g,v)::r else(g,x)::putF f v r
theorem zcA (f g:Str)(v:V):∀fs:List (Str ×V),(putF f v fs).lookup g=if g=f then some v else fs.lookup g
 | []=>by
  show List.lookup g [(f,v)]=_;by_cases h:g=f
  ·have hb:(g==f)=true:=beq_iff_eq.mpr h;simp only[List.lookup,hb,if_pos h]
  ·have hb:(g==f)=false:=beq_eq_false_iff_ne.mpr h;simp only[List.lookup,hb,if_neg h]
 | (k,x)::r=>by
  have ih:=zcA f g v r;rw[show putF f v ((k,x)::r)=(if k=f then(k,v)::r else(k,x)::putF f v r) from rfl];by_cases hk:k=f
  ·rw[if_pos hk];by_cases h:g=k
   ·have hb:(g==k)=true:=beq_iff_eq.mpr h;simp only[List.lookup,hb,if_pos (h.trans hk)]
   ·have hb:(g==k)=false:=beq_eq_false_iff_ne.mpr h;simp only[List.lookup,hb,if_neg (λe:g=f=>h (e.trans hk.symm))]
  ·rw[if_neg hk];by_cases h:g=k
   ·have hb:(g==k)=true:=beq_iff_eq.mpr h;simp only[List.lookup,hb,if_neg (λe:g=f=>hk (h.symm.trans e))]
   ·have hb:(g==k)=false:=beq_eq_false_iff_ne.mpr h;simp only[List.lookup,hb];exact ih
def _root_.JS:=@List.map_cons
theorem zbL (f:Str)(v:V):∀fs:List (Str ×V),f∈(putF f v fs).map (·.1)/\∀g,g∈fs.map (·.1)->g∈(putF f v fs).map (·.1)
 | []=>⟨by simp[putF],λg h=>by simp at h⟩
 | (k,x)::r=>by
  obtain⟨i1,i2⟩:=zbL f v r;rw[show putF f v ((k,x)::r)=(if k=f then(k,v)::r else(k,x)::putF f v r) from rfl];by_cases hk:k=f
  ·rw[if_pos hk];subst hk;exact⟨by simp,λg h=>by simpa using h⟩
  ·rw[if_neg hk];refine⟨?_,λg h=>?_⟩
   ·rw[JS];exact Ji _ i1
   ·rw[JS] at h ⊢;rcases JD.mp h with e | e
    ·exact JD.mpr (.inl e)
    ·exact Ji _ (i2 g e)
theorem zet (f:Str)(v:V):∀fs:List (Str ×V),(putF f v fs).length<=fs.length+1
 | []=>by simp[putF]
 | (k,x)::r=>by
  have ih:=zet f v r;rw[show putF f v ((k,x)::r)=(if k=f then(k,v)::r else(k,x)::putF f v r) from rfl];by_cases hk:k=f
  ·rw[if_pos hk,JK,JK];lia
  ·rw[if_neg hk,JK,JK];lia
theorem RelO.some_of {v:V}(r:RelO (some v) o):∃u,o=some u/\RelV v u:=by
 cases o with
 | none=>exact(show False from r).elim
 | some u=>exact⟨u,rfl,r⟩
def RelO.none_of (r:RelO none o):o=none:=by
 cases o with
 | none=>rfl
 | some u=>exact(show False from r).elim
theorem zgA (r:RelV v u):PySem.W.handedIn u=true:=by
 cases v with
 | non=>cases (show u=Value.none from r);rfl
 | bl b=>cases (show u=Value.bool b from r);rfl
 | int i=>obtain⟨t,e⟩:=(show∃t,u=Value.int i t from r);cases e;rfl
 | str x=>obtain⟨t,e⟩:=(show∃t,u=Value.str x t from r);cases e;rfl
 | byt b=>obtain⟨t,e⟩:=(show∃t,u=Value.bytes b t from r);cases e;rfl
 | flt b=>obtain⟨t,e⟩:=(show∃t,u=Value.float b t from r);cases e;rfl
 | ref a=>cases (show u=Value.ref a from r);rfl
 | ty n=>cases (show u=Value.type n from r);rfl
section
variable {P:Program}{w:World}{H H':Hp}{h h':Heap}{a C dx:Addr}{fs fs':QI}
def ze0 (hok:HOk P w H h)(e:H a=some (.ins C dx fs)):∃mA,ObjM h a dx C mA/\(∀f,RelO (fs.lookup f) (mA f))/\PySem.Within mA (fs.map (·.1))/\fs.length<=1000/\H dx=some (.own a):=by obtain⟨d,z,ne,ob,mA,n,r,q⟩:=(show zA P w H h a (.ins C dx fs) from hok a _ e);exact⟨mA,⟨ob,n,ne⟩,r,q,z,d⟩
end
structure Cls (K:QA)(C:Addr):Prop where
 pg:PySem.W.plainGet K C Str.empty=true
 hd:PySem.W.hasDictIn K C=true
 po:PySem.W.plainOver K C=true
 sa:PySem.W.findIn K (.ref C) "__setattr__" =some (some (.builtin "object.__setattr__"))
theorem Cls.get {K:QA}{C:Addr}(c:Cls K C)(f:Str):PySem.W.plainGet K C f=true:=c.pg
def zl (K:QA)(C:Addr)(f:Str):Prop:=PySem.W.findIn K (.ref C) f=some none
def zl.taker {K:QA}{C:Addr}{f:Str}(n:zl K C f):PySem.W.takerIn K C f=some none:=by
 unfold PySem.W.takerIn;rw[show PySem.W.findIn K (.ref C) f=some none from n]
 rfl
structure Con (K:QA)(C:Addr)(f:Str)(v:V)(u:Value):Prop where
 at_:PySem.W.findIn K (.ref C) f=some (some u)
 rel:RelV v u
 get:PySem.W.specialIn K u "__get__" =some none
 cp:PySem.W.copiedNames.contains f=false
structure Meth (K:QA)(C:Addr)(m:Str)(f:Addr):Prop where
 at_:PySem.W.findIn K (.ref C) m=some (some (.ref f))
 fn:PySem.W.isFn K (.ref f)=true
 kp:PySem.W.keepIn K (.ref f)=true
section
variable {X:Cx}{pins:QE}{σ:St}{H:Hp}{s:Shared}{a C dx:Addr}{fs:QI}{f:Str}{v:V}{A:Around}{E:QC}
def zj0 {Q:QC}(I:Inv X pins σ H s)(e:H a=some (.ins C dx fs))(c:Cls X.K C)(n:zl X.K C f)(l:fs.lookup f=some v)
  (h:∀u s',Inv X pins σ H s'->RelV v u->Q u s'):wpAny (model X.prog X.w) A (getAttr (.ref a) f b) Q E s:=by
 obtain⟨mA,O,r,_,_,_⟩:=ze0 I.hok e;obtain⟨u,hu,ru⟩:=RelO.some_of (v:=v) (o:=mA f) (by rw[<-l];exact r f);exact get_map I.kIn O (c.get f) c.hd n hu (zgA ru) (h u _ (I.tok _) ru)
def zc7 {Q:Value ×List Value->Shared->Prop}(I:Inv X pins σ H s)(e:H a=some (.ins C dx fs))(c:Cls X.K C)(k:Meth X.K C m g)(l:fs.lookup m=none)
  (h:Q (.ref g,[.ref a]) s):wpAny (model X.prog X.w) A (getMethod (.ref a) m pl) Q E s:=by
 obtain⟨mA,O,r,_,_,_⟩:=ze0 I.hok e;have hn:mA m=none:=RelO.none_of (by rw[<-l];exact r m);exact zoa I.kIn O (c.get m) k.at_ k.fn hn h
def _root_.JE:=@List.length_map
def zjK {Q:QD}(I:Inv X pins σ H s)(e:H a=some (.ins C dx fs))(c:Cls X.K C)(n:zl X.K C f)(hl:fs.length < 1000)(ry:RelV y u)
  (h:∀s',Inv X pins σ (upd H a (.ins C dx (putF f y fs))) s'->Q () s'):wpAny (model X.prog X.w) A (setAttr (.ref a) f u) Q E s:=by
 obtain⟨mA,O,r,wi,_,ho⟩:=ze0 I.hok e;have hz:(fs.map (·.1)).length<=sizeLine:=by rw[JE,sizeLine_eq];lia
 refine zpZ I.kIn O c.sa c.po n.taker c.hd wi hz λh' O' sb=>h _ ?_;have hd:∃o,h'.get? dx=some o:=let ⟨o,_,_,e',_⟩:=O'.ns;⟨o,e'⟩;refine I.write (x:=a) (e:=dx) (by rw[e];exact True.intro) (.inr ho) (λb q hb z=>(sb.2 b hb).trans z) hd ?_;refine⟨by rw[zc O.ne];exact ho,?_,O.ne,O'.obj,_,O'.ns,λg=>?_,λg hg=>?_⟩
 ·have:=zet f y fs;lia
 ·show RelO ((putF f y fs).lookup g) (if g=f then some u else mA g);rw[zcA];by_cases q:g=f
  ·rw[if_pos q,if_pos q];exact ry
  ·rw[if_neg q,if_neg q];exact r g
 ·by_cases q:g=f
  ·rw[q];exact(zbL f y fs).1
  ·refine(zbL f y fs).2 g (wi g λz=>hg ?_);show(if g=f then some u else mA g)=none;rw[if_neg q];exact z
def _root_.Jt:=@Nat.lt_succ_self
def _root_.J2:=@PySem.Heap.size_push
def Inv.made (I:Inv X pins σ H s):Inv X pins σ (upd (upd H s.heap.objs.size (.own (s.heap.objs.size+1))) (s.heap.objs.size+1) (.ins C s.heap.objs.size []))
  {s with heap:=(s.heap.push PySem.W.emptyDict).push (PySem.W.instObj C s.heap.objs.size)}:=by
 have e1:(s.heap.push PySem.W.emptyDict).get? s.heap.objs.size=some PySem.W.emptyDict:=JJ s.heap rfl;have e2:((s.heap.push PySem.W.emptyDict).push (PySem.W.instObj C s.heap.objs.size)).get? (s.heap.objs.size+1)=some (PySem.W.instObj C s.heap.objs.size):=by have:=JJ (s.heap.push PySem.W.emptyDict) (o:=PySem.W.instObj C s.heap.objs.size) rfl;rwa[J2] at this
 have e3:(s.heap.push PySem.W.emptyDict).Ns s.heap.objs.size (λ_=>none):=⟨PySem.W.emptyDict, #[],_,e1,rfl,(λe he=>Jf he (by simp)),λ_=>rfl⟩;have I1:=I.laid (a:=s.heap.objs.size) (o:=.own (s.heap.objs.size+1)) (h':=s.heap.push PySem.W.emptyDict) (t':=s.toks) (λb u q=>JC _ q) (Jb _) ⟨_,e1⟩;refine I1.laid (a:=s.heap.objs.size+1) (o:=.ins C s.heap.objs.size []) (t':=s.toks) (λb u q=>JC _ q) (Nat.le_of_eq (J2 _ _)) ?_;have ne:s.heap.objs.size≠s.heap.objs.size+1:=Jk (Jt _);refine⟨by rw[zc ne,za],JM _,ne,e2,λ_=>none,(Heap.Ns1.of_empty e3).at λo q=>JC _ q,λ_=>True.intro,λy hy=>Jf rfl hy⟩
def zle {env:Env}{e:Expr}{f:Str}{pos:Pos}(hb:attributeBase e f env (eval e env)=eval e env)
  (h:wpAny (model prog w) A (eval e env) (λo s₁=>wpAny (model prog w) A (getAttr o f true) Q E s₁) E s):wpAny (model prog w) A (eval (.Attribute e f pos) env) Q E s:=
 Attribute_any_ h (by rw[arm_eval_Attribute,hb])
end
def tFld (K:QA)(ta:TE)(f:Str):TE:=fun σ H Q=>ta σ H λx H1=>∃a C dx fs v,x=.ref a/\H1 a=some (.ins C dx fs)/\Cls K C/\zl K C f/\fs.lookup f=some v/\Q v H1
def sFld (K:QA)(ta tv:TE)(f:Str):TS:=λD σ H=>tv σ H λy H1=>ta σ H1 λx H2=>∃a C dx fs,x=.ref a/\H2 a=some (.ins C dx fs)/\Cls K C/\zl K C f/\fs.length < 1000/\
 D.nx σ (upd H2 a (.ins C dx (putF f y fs)))
section
variable {X:Cx}{o e value:Expr}{f:Str}{pos pos' tpos:Pos}{ta tv:TE}
def zrX (he:PE X e ta)(hb:attributeBase e f X.env (eval e X.env)=eval e X.env):PE X (.Attribute e f pos) (tFld X.K ta f):=by intro pins s σ H Q I h;refine zle hb (thn (he pins s σ H _ I h) λu s1 ⟨x,H1,I1,rx,a,C,dx,fs,v,ex,ea,c,n,l,q⟩=>?_);subst ex;obtain rfl:u=Value.ref a:=rx;exact zj0 I1 ea c n l λu' s2 I2 ru=>⟨v,H1,I2,ru,q⟩
def zrF (ha:PE X o ta)(hv:PE X value tv)(hs:swapsWith value (some (.Attribute o f pos')) pos.line X.env=pure false):PS X (.Assign [.Attribute o f pos'] value pos) (sFld X.K ta tv f):=by intro pins s σ H D I h;refine plainObj_wpAny_Assign_Attribute (thn (hv pins s σ H _ I h) λu s1 ⟨y,H1,I1,ry,q⟩=>thn (ha pins s1 σ H1 _ I1 q) λov s2 ⟨x,H2,I2,rx,a,C,dx,fs,ex,ea,c,n,l,q2⟩=>?_) hs;subst ex;obtain rfl:ov=Value.ref a:=rx;exact zjK I2 ea c n l ry λs3 I3=>⟨σ,_,I3,q2⟩
def zq2 {apos:Pos}(he:PE X e te)(I:Inv X pins σ H s)
  (h:te σ H λx H1=>∃a C dx fs g,x=.ref a/\H1 a=some (.ins C dx fs)/\Cls X.K C/\Meth X.K C m g/\fs.lookup m=none/\
   ∀s1,Inv X pins σ H1 s1->wpAny (model X.prog X.w) X.A (callWith pos (.ref g) [.ref a] (backTo pos (starEach args X.env)) (backToKw pos (keywordEach [] X.env))) Q X.xe s1)
  (ht:eval (.Call (.Attribute e m apos) args [] pos) X.env=(do
   let ov<-eval e X.env
   standAt apos.atName
   let (f,first) <-holding [ov] (getMethod ov m pl)
   callWith pos f first (backTo pos (starEach args X.env)) (backToKw pos (keywordEach [] X.env)))):
  wpAny (model X.prog X.w) X.A (eval (.Call (.Attribute e m apos) args [] pos) X.env) Q X.xe s:=by
 refine PySem.W.methodCall_KW (pl:=pl) (thn (he pins s σ H _ I h) λu s1 ⟨x,H1,I1,rx,a,C,dx,fs,g,ex,ea,c,k,l,q⟩=>?_) ht;subst ex;obtain rfl:u=Value.ref a:=rx;exact zc7 I1 ea c k l (q s1 I1)
variable {pins:QE}{σ:St}{H:Hp}{s:Shared}{A:Around}{E:QC}{Q:QC}{c:Value}{b:Bool}
inductive TyOf (K:QA)(H:Hp):V->Value->Prop where
 | non:TyOf K H .non (.type "NoneType")
 | bl (x:Bool):TyOf K H (.bl x) (.type "bool")
 | int (i:Int):TyOf K H (.int i) (.type "int")
 | str (x:Str):TyOf K H (.str x) (.type "str")
 | flt (x:UInt64):TyOf K H (.flt x) (.type "float")
 | lst {a:Addr} {xs:QR} (e:H a=some (.lst xs)):TyOf K H (.ref a) (.type "list")
 | frz {a:Addr} {o:Obj} {xs:QR} (e:H a=some (.frz o (.lst xs))):TyOf K H (.ref a) (.type "list")
 | tup {a:Addr} {xs:QR} (e:H a=some (.tup xs)):TyOf K H (.ref a) (.type "tuple")
 | dK {a:Addr} {kvs:QG} (e:H a=some (.dK kvs)):TyOf K H (.ref a) (.type "dict")
 | dT {a:Addr} {kvs:List (List Key ×V)} (e:H a=some (.dT kvs)):TyOf K H (.ref a) (.type "dict")
 | ins {a C dx:Addr} {fs:QI} (e:H a=some (.ins C dx fs)) (cl:Cls K C) (ha:PySem.W.findIn K (.ref C) "__class__" =some (some (.builtin "object.__class__")))
   (hn:PySem.W.specialIn K (.builtin "object.__class__") "__get__" =some (some (.builtin "getset_descriptor.__get__"))) (htk:PySem.W.takesIn K (.builtin "object.__class__")=some true)
   (hm:PySem.W.mroIn K C (.type "object")=some true):TyOf K H (.ref a) (.ref C)
def zl3 (I:Inv X pins σ H s)(rx:RelV x u)(ty:TyOf X.K H x t)(e:PySem.W.kitOne X.K t c=some b)(h:∀tk,Q (.bool b) {s with toks:=tk}):
  wpAny (model X.prog X.w) A (call (.builtin "isinstance") [u,c]) Q E s:=by
 cases ty with
 | non=>cases (show u=Value.none from rx);exact PySem.W.kia_one PySem.W.kitx_none I.kIn True.intro e (λz=>nomatch z) h
 | bl y=>cases (show u=Value.bool y from rx);exact PySem.W.kia_one PySem.W.kitx_bool I.kIn True.intro e (λz=>nomatch z) h
 | int i=>obtain⟨t,q⟩:=(show∃t,u=Value.int i t from rx);cases q;exact PySem.W.kia_one PySem.W.kitx_int I.kIn True.intro e (λz=>nomatch z) h
 | str y=>obtain⟨t,q⟩:=(show∃t,u=Value.str y t from rx);cases q;exact PySem.W.kia_one PySem.W.kitx_str I.kIn True.intro e (λz=>nomatch z) h
 | flt y=>obtain⟨t,q⟩:=(show∃t,u=Value.float y t from rx);cases q;exact PySem.W.kia_one PySem.W.kitx_float I.kIn True.intro e (λz=>nomatch z) h
 | @lst a xs ea=>cases (show u=Value.ref a from rx);obtain⟨_,_,n,_,h1⟩:=(show zA X.prog X.w H s.heap a (.lst xs) from I.hok a _ ea);exact PySem.W.kia_one PySem.W.kitx_list I.kIn ⟨_,h1,rfl⟩ e (λz=>nomatch z) h
 | @frz a ob xs ea=>cases (show u=Value.ref a from rx);obtain⟨_,_,_,n,_,h1⟩:=(show zA X.prog X.w H s.heap a (.frz ob (.lst xs)) from I.hok a _ ea);exact PySem.W.kia_one PySem.W.kitx_list I.kIn ⟨_,h1,rfl⟩ e (λz=>nomatch z) h
 | @tup a xs ea=>cases (show u=Value.ref a from rx);obtain⟨_,_,_,p⟩:=(show zA X.prog X.w H s.heap a (.tup xs) from I.hok a _ ea);obtain⟨o,h1,h2,_⟩:=p;exact PySem.W.kia_one PySem.W.kitx_tuple I.kIn ⟨o,h1,h2⟩ e (λz=>nomatch z) h
 | @dK a kvs ea=>cases (show u=Value.ref a from rx);obtain⟨_,_,vs,_,p⟩:=(show zA X.prog X.w H s.heap a (.dK kvs) from I.hok a _ ea);obtain⟨o,es,ep,h1,h2,_⟩:=p;exact PySem.W.kia_one PySem.W.kitx_dict I.kIn ⟨o,h1,h2.1⟩ e (λz=>nomatch z) h
 | @dT a kvs ea=>cases (show u=Value.ref a from rx);obtain⟨_,_,xs,_,o,es,ep,h1,h2,_⟩:=(show zA X.prog X.w H s.heap a (.dT kvs) from I.hok a _ ea);exact PySem.W.kia_one PySem.W.kitx_dict I.kIn ⟨o,h1,h2.1⟩ e (λz=>nomatch z) h
 | @ins a C dx fs ea cl ha hn htk hm=>cases (show u=Value.ref a from rx);obtain⟨mA,O,_⟩:=ze0 I.hok ea;obtain⟨od,J,_⟩:=O.look;exact PySem.W.kia_one (PySem.W.kitx_own (cl.get _) cl.hd ha hn htk hm) I.kIn J e (λz=>nomatch z) h
end
structure Room (k:Nat)(A:Around):Prop where
 hd:A.handled=none
 dp:A.depth+3 * k+5 < recursionLimit
 un:A.units+16 * k+200 < cLine
theorem Room.mono {j:Nat}(r:Room k A)(h:j<=k):Room j A:=⟨r.hd,by have:=r.dp;lia,by have:=r.un;lia⟩
def Room.deeper {k:Nat}(r:Room (k+1) A)(env:Env):Room k (A.deeper env):=
 ⟨r.hd,by have:=r.dp;show A.depth+1+3 * k+5 < _;lia,by have:=r.un;show A.units+3+16 * k+200 < _;lia⟩
theorem zjI {A:Around}{C:Addr}{us:QO}{kw:QL}:(A.under (.builtin "type.__call__" ⟨.ref C::us,kw⟩)).depth=A.depth+1:=by
 first | rfl | simp[Around.under,Code.weight,Code.isCreation,Code.isGuard,Code.isCaller,Code.frames,Code.isFrame,guardIds]
theorem zj7 {A:Around}{C:Addr}{us:QO}{kw:QL}:(A.under (.builtin "type.__call__" ⟨.ref C::us,kw⟩)).units=A.units+1:=by
 first | rfl | simp[Around.under,Code.cUnits,Code.frames,Code.isFrame]
def Room.make {k:Nat}(r:Room (k+1) A)(C:Addr)(us:QO)(kw:QL):Room k (A.under (.builtin "type.__call__" ⟨.ref C::us,kw⟩)):=
 ⟨r.hd,by have:=r.dp;rw[zjI];lia,by have:=r.un;rw[zj7];lia⟩
def Room.depth (r:Room k A):A.depth < recursionLimit:=by have:=r.dp;lia
def Room.units (r:Room k A):A.units+64 < cLine:=by have:=r.un;lia
def tNil:TA:=λ_ H Q=>Q [] H
def zeu (ta:TE)(tr:TA):TA:=fun σ H Q=>ta σ H λx H1=>tr σ H1 λxs H2=>Q (x::xs) H2
section
variable {X:Cx}{e:Expr}{es:List Expr}{te:TE}{t:TA}{pos:Pos}
def zS:PA X [] tNil:=λ_ _ _ _ H Q I h=>Calls.spliced_nil ⟨[],H,I,.nil,h⟩
def zq (ha:PE X e te)(hr:PA X es t)(hs:starEach (e::es) X.env=(false,eval e X.env)::starEach es X.env:=by rfl):PA X (e::es) (zeu te t):=by intro pos pins s σ H Q I h;rw[hs];show wpAny _ _ (spliced ((false,eval e X.env)::backTo pos (starEach es X.env))) _ _ s;refine Calls.spliced_cons (thn (ha pins s σ H _ I h) λu s1 ⟨x,H1,I1,r1,q1⟩=>?_);exact thn (hr pos pins s1 σ H1 _ I1 q1) λus s2 ⟨xs,H2,I2,r2,q2⟩=>⟨x::xs,H2,I2,.cons r1 r2,q2⟩
def tTup (t:TA):TE:=fun σ H Q=>t σ H λxs H1=>xs.length<=sizeLine/\∀p,H1 p=none->Q (.ref p) (upd H1 p (.tup xs))
def tLst (t:TA):TE:=fun σ H Q=>t σ H λxs H1=>xs.length<=sizeLine/\∀p,H1 p=none->Q (.ref p) (upd H1 p (.lst xs))
def zrp {x1}(h:PA X es t):PE X (.Tuple es x1 pos) (tTup t):=by intro pins s σ H Q I hq;refine wpAny_Tuple_spliced (thn (h pos pins s σ H _ I hq) λus s1 ⟨xs,H1,I1,r,z,q⟩=>⟨by rw[<-r.length];exact z,?_⟩);have hf:H1 s1.heap.objs.size=none:=I1.hok.fresh (Jb _);refine⟨.ref s1.heap.objs.size,upd H1 s1.heap.objs.size (.tup xs),I1.laid (t':=s1.toks) (λb u e=>JC _ e) (Jb _) ?_,rfl,q _ hf⟩;exact⟨z,us,r,⟨_,JJ _ rfl,rfl,_,rfl⟩⟩
def zhh (h:PA X es t):PE X (.List es pos) (tLst t):=by intro pins s σ H Q I hq;refine wpAny_List_spliced (thn (h pos pins s σ H _ I hq) λus s1 ⟨xs,H1,I1,r,z,q⟩=>⟨by rw[<-r.length];exact z,?_⟩);have hf:H1 s1.heap.objs.size=none:=I1.hok.fresh (Jb _);refine⟨.ref s1.heap.objs.size,upd H1 s1.heap.objs.size (.lst xs),I1.laid (t':=s1.toks) (λb u e=>JC _ e) (Jb _) ?_,rfl,q _ hf⟩;exact⟨z,us,0,r,JJ _ rfl⟩
end
abbrev Sp:=List V->Hp->VK->XK->Prop
abbrev CXT:=List Env->Hp->Shared->XK->Value->Shared->Prop
structure Env0 (P:Program)(w:World)(K:QA)(mg:QB)(base:Heap)(A:Around)(outer:List Env)(s:Shared)(H:Hp):Prop where
 frames:A.frames=some outer
 mod:Mod K mg base
 bs:∀b o,base.get? b=some o->s.heap.get? b=some o/\H b=none
 bsz:base.objs.size<=s.heap.objs.size
 funs:s.heap.FunFrames base outer
 frf:∀b∈frs outer,H b=none
 hok:HOk P w H s.heap
 bare:AllBare s.gens
def CE (outer:List Env)(P:Program)(w:World)(H:Hp)(s:Shared)(Q:VK)(u:Value)(s':Shared):Prop:=
 ∃v H',s'.os=s.os/\AllBare s'.gens/\Un (frs outer) [] H H' s.heap s'.heap/\HOk P w H' s'.heap/\RelV v u/\Q v H'
def CR (CX:CXT)(outer:List Env)(P:Program)(w:World)(H:Hp)(s:Shared)(Q:VK)(E:XK)(r:Result)(s':Shared):Prop:=
 match r with
 | .ok (.ret u)=>CE outer P w H s Q u s'
 | .ok _=>False
 | .error e=>CX outer H s E e s'
structure FnOk (P:Program)(w:World)(K:QA)(mg:QB)(base:Heap)(CX:CXT)(k:Nat)(f:Addr)(fd:FuncData)(ps:QQ)(sp:Sp):Prop where
 len:∀vs H Q E,sp vs H Q E->vs.length=ps.length
 run:∀(A:Around)(outer:List Env)(s:Shared)(H:Hp)(args:Args)(us:QO)(vs:QR)(Q:VK)(E:XK),Room k A->Env0 P w K mg base A outer s H->BindsTo s fd args (ps.zip us)->Vals vs us->sp vs H Q E->
  codeAny (model P w) A (.call (.ref f) args) (CR CX outer P w H s Q E) s
theorem FnOk.mono {P:Program}{w:World}{K:QA}{mg:QB}{base:Heap}{CX:CXT}{j k:Nat}{f:Addr}{fd:FuncData}{ps:QQ}{sp:Sp}(F:FnOk P w K mg base CX j f fd ps sp)(h:j<=k):
  FnOk P w K mg base CX k f fd ps sp:=⟨F.len,λA outer s H args us vs Q E hr=>F.run A outer s H args us vs Q E (hr.mono h)⟩
def FnOk.imp {P:Program}{w:World}{K:QA}{mg:QB}{base:Heap}{CX:CXT}{k:Nat}{f:Addr}{fd:FuncData}{ps:QQ}{sp sp':Sp}(F:FnOk P w K mg base CX k f fd ps sp)
  (h:∀vs H Q E,sp' vs H Q E->sp vs H Q E):FnOk P w K mg base CX k f fd ps sp':=
 ⟨λvs H Q E q=>F.len vs H Q E (h _ _ _ _ q),λA outer s H args us vs Q E hr he hb hv hs=>F.run A outer s H args us vs Q E hr he hb hv (h _ _ _ _ hs)⟩
def Env0.make {P:Program}{w:World}{K:QA}{mg:QB}{base:Heap}{A:Around}{outer:List Env}{s:Shared}{H:Hp}(e:Env0 P w K mg base A outer s H)(C:Addr)(us:QO)(kw:QL):
  Env0 P w K mg base (A.under (.builtin "type.__call__" ⟨.ref C::us,kw⟩)) outer s H:=⟨by first | exact e.frames | (simpa [Around.under,Code.envs,Code.isFrame,pushEnvs] using e.frames),e.mod,e.bs,e.bsz,e.funs,e.frf,e.hok,e.bare⟩
section
variable {X:Cx}{pins:QE}{σ:St}{H:Hp}{s s':Shared}
def Inv.env0 (I:Inv X pins σ H s):Env0 X.prog X.w X.K X.mg X.base X.A X.stack s H:=
 ⟨I.ok.frames,I.ok.mod,I.bs,Jg I.ok.bsz I.sz,I.stack,I.stkFree,I.hok,I.bare⟩
def Inv.after (I:Inv X pins σ H s)(h:CE X.stack X.prog X.w H s Q u s'):EP X pins σ Q u s':=by obtain⟨v,H',os,bare,un,hok,r,q⟩:=h;obtain⟨hh,g,d,t,os'⟩:=s';obtain rfl:os'=s.os:=os;exact⟨v,H',I.call (h':=hh) (g':=g) (d':=d) (t':=t) (ch:=[]) un hok bare (λb z=>Jf z (by simp)),r,q⟩
end
def zgo (sp:Sp)(dvs:QR)(E:XK)(t:TA):TE:=fun σ H Q=>t σ H λvs H1=>sp (vs++dvs) H1 Q E
def zk1 (C:Addr)(m:Str)(sp:Sp)(dvs:QR)(E:XK)(ta:TE)(t:TA):TE:=fun σ H Q=>ta σ H λx H1=>∃a dx fs,x=.ref a/\H1 a=some (.ins C dx fs)/\fs.lookup m=none/\
 t σ H1 λvs H2=>sp (x::(vs++dvs)) H2 Q E
def zi8 (C:Addr)(sp:Sp)(dvs:QR)(E:XK)(t:TA):TE:=fun σ H Q=>t σ H λvs H1=>∀x dx,H1 x=none->H1 dx=none->dx≠x->
 sp (.ref x::(vs++dvs)) (upd (upd H1 dx (.own x)) x (.ins C dx [])) (λv H2=>v=.non/\Q (.ref x) H2) E
def Binds (K:QA)(fd:FuncData)(ps:QQ)(ds:QO):Prop:=
 ∀(s:Shared)(us:QO),K.In s.heap->(us++ds).length=ps.length->BindsTo s fd ⟨us,[]⟩ (ps.zip (us++ds))
def _root_.JP:=@List.append_nil
theorem Binds.all {K:QA}{fd:FuncData}{ps:QQ}(h:∀us:List Value,us.length=ps.length->bindArgs fd ⟨us,[]⟩=pure (ps.zip us)):Binds K fd ps []:=λs us _ hl=>by rw[JP] at hl ⊢;exact .of_eq (h us hl)
def zas (CX:CXT)(X:Cx)(E:XK):Prop:=∀(pins:QE)(σ:St)(H:Hp)(s:Shared)(e:Value)(s':Shared),Inv X pins σ H s->CX X.stack H s E e s'->X.xe e s'
section
variable {X:Cx}{CX:CXT}{k:Nat}{f C:Addr}{fd:FuncData}{ps:QQ}{sp:Sp}{dvs:QR}{ds:QO}{E:XK}{x m:Str}{p pos apos:Pos}{e o:Expr}{es:List Expr}{ta:TE}{t:TA}
def zh3 (F:FnOk X.prog X.w X.K X.mg X.base CX k f fd ps sp)(hr:Room k X.A)(hb:Binds X.K fd ps ds)(hd:Vals dvs ds)(hx:zas CX X E)
  (I:Inv X pins σ H s) (r:Vals vs us) (h:sp (vs++dvs) H Q E):wpAny (model X.prog X.w) X.A (call (.ref f) us) (EP X pins σ Q) X.xe s:=by
 have r2:Vals (vs++dvs) (us++ds):=r.append hd;have hl:(us++ds).length=ps.length:=by rw[<-r2.length];exact F.len _ _ _ _ h
 refine wpAny_call (codeAny_mono (F.run X.A X.stack s H ⟨us,[]⟩ (us++ds) (vs++dvs) Q E hr I.env0 (hb s us I.kIn hl) r2 h) λr s' hq=>?_);cases r with
 | error e=>exact hx pins σ H s e s' I hq
 | ok fl=>
  cases fl with
  | ret u=>exact I.after hq
  | next=>exact False.elim hq
  | brk=>exact False.elim hq
  | cont=>exact False.elim hq
def zkI (F:FnOk X.prog X.w X.K X.mg X.base CX k f fd ps sp)(hr:Room k X.A)(hg:Gl X x)(hm:X.mg x=some (.ref f))(hk:PySem.W.keepIn X.K (.ref f)=true)(hb:Binds X.K fd ps ds)(hd:Vals dvs ds)(hx:zas CX X E)
  (ha:PA X (e::es) t) (hdb:(x==("__debug__" :Str))=false:=by decide) (he:starEach (e::es) X.env=(false,eval e X.env)::starEach es X.env:=by rfl) (hpl:(backTo pos (starEach es X.env)).any (·.1)=false:=by rfl):
  PE X (.Call (.Name x p) (e::es) [] pos) (zgo sp dvs E t):=by
 intro pins s σ H Q I h;refine wpAny_Call_Name_kw (za3 I hg hm ?_ hdb);refine PySem.W.callWith_K (h₀:=X.base) I.ok.mod.kin hk (thn (ha pos pins s σ H _ I h) λus s1 ⟨vs,H1,I1,r,q⟩=>⟨I1.kIn,?_⟩) he hpl;exact zh3 F hr hb hd hx I1 r q
def zqf (he:PE X o ta)(c:Cls X.K C)(hm:Meth X.K C m f)(F:FnOk X.prog X.w X.K X.mg X.base CX k f fd ps sp)(hr:Room k X.A)(hb:Binds X.K fd ps ds)(hd:Vals dvs ds)(hx:zas CX X E)(ha:PA X (e::es) t)
  (hst:starEach (e::es) X.env=(false,eval e X.env)::starEach es X.env:=by rfl) (hpl:(backTo pos (starEach es X.env)).any (·.1)=false:=by rfl)
  (ht:eval (.Call (.Attribute o m apos) (e::es) [] pos) X.env=(do
   let ov<-eval o X.env
   standAt apos.atName
   let (f,first) <-holding [ov] (getMethod ov m pl)
   callWith pos f first (backTo pos (starEach (e::es) X.env)) (backToKw pos (keywordEach [] X.env))):=by rfl):
  PE X (.Call (.Attribute o m apos) (e::es) [] pos) (zk1 C m sp dvs E ta t):=by
 intro pins s σ H Q I h;refine PySem.W.methodCall_KW (pl:=pl) (thn (he pins s σ H _ I h) λu s1 ⟨x,H1,I1,rx,a,dx,fs,ex,ea,l,q⟩=>?_) ht;subst ex;obtain rfl:u=Value.ref a:=rx;refine zc7 I1 ea c hm l ?_;refine PySem.W.callWith_K (first:=[.ref a]) (h₀:=X.base) I.ok.mod.kin hm.kp (thn (ha pos pins s1 σ H1 _ I1 q) λus s2 ⟨vs,H2,I2,r,q2⟩=>⟨I2.kIn,?_⟩) hst hpl;exact zh3 (us:=.ref a::us) (vs:=.ref a::vs) F hr hb hd hx I2 (.cons rfl r) q2
def zmV (he:PE X o ta)(c:Cls X.K C)(hm:Meth X.K C m f)(F:FnOk X.prog X.w X.K X.mg X.base CX k f fd ps sp)(hr:Room k X.A)(hb:Binds X.K fd ps ds)(hd:Vals dvs ds)(hx:zas CX X E)
  (ht:eval (.Call (.Attribute o m apos) [] [] pos) X.env=(do
   let ov<-eval o X.env
   standAt apos.atName
   let (f,first) <-holding [ov] (getMethod ov m pl)
   callWith pos f first (backTo pos (starEach [] X.env)) (backToKw pos (keywordEach [] X.env))):=by rfl):
  PE X (.Call (.Attribute o m apos) [] [] pos) (zk1 C m sp dvs E ta tNil):=by
 intro pins s σ H Q I h;refine PySem.W.methodCall_KW (pl:=pl) (thn (he pins s σ H _ I h) λu s1 ⟨x,H1,I1,rx,a,dx,fs,ex,ea,l,q⟩=>?_) ht;subst ex;obtain rfl:u=Value.ref a:=rx;refine zc7 I1 ea c hm l ?_;exact PySem.W.callWith_K0 (first:=[.ref a]) I1.kIn hm.kp (zh3 (us:=[.ref a]) (vs:=[.ref a]) F hr hb hd hx I1 (.cons rfl .nil) q)
structure Mk (K:QA)(C f:Addr):Prop where
 makes:PySem.W.makesIn K C=true
 init:PySem.W.findIn K (.ref C) "__init__" =some (some (.ref f))
 fn:PySem.W.isFn K (.ref f)=true
 kp:PySem.W.keepIn K (.ref C)=true
def ziL {Q:VK}(M:Mk X.K C f)(F:FnOk X.prog X.w X.K X.mg X.base CX k f fd ps sp)(hr:Room (k+1) X.A)(hb:Binds X.K fd ps ds)(hd:Vals dvs ds)
  (hx:zas CX X E) (I:Inv X pins σ H s) (r:Vals vs us)
  (h:∀x dx,H x=none->H dx=none->dx≠x->sp (.ref x::(vs++dvs)) (upd (upd H dx (.own x)) x (.ins C dx [])) (λv H2=>v=.non/\Q (.ref x) H2) E):
  wpAny (model X.prog X.w) X.A (call (.ref C) us) (EP X pins σ Q) X.xe s:=by
 have hq:=h (s.heap.objs.size+1) s.heap.objs.size (I.hok.fresh (Nat.le_succ _)) (I.hok.fresh (Jb _)) (Jk (Jt _));have I2:=Inv.made (C:=C) I;have r2:Vals (V.ref (s.heap.objs.size+1)::(vs++dvs)) (Value.ref (s.heap.objs.size+1)::(us++ds)):=.cons rfl (r.append hd);have hl:(Value.ref (s.heap.objs.size+1)::us++ds).length=ps.length:=by have e:=r2.length;rw[F.len _ _ _ _ hq] at e;exact e.symm
 refine wpAny_call (zm0 (f:=f) I.kIn M.makes M.init (beq_iff_eq.mp M.fn) (codeAny_mono (F.run _ X.stack _ _ ⟨Value.ref (s.heap.objs.size+1)::us,[]⟩ (Value.ref (s.heap.objs.size+1)::(us++ds)) _ _ E (hr.make C us [])
  (I2.env0.make C us []) (hb _ (Value.ref (s.heap.objs.size+1)::us) I2.kIn hl) r2 hq) λr s' hq'=>?_))
 cases r with
 | error e=>exact hx pins σ _ _ e s' I2 hq'
 | ok fl=>
  cases fl with
  | ret u=>obtain⟨v,H',I3,rv,ev,q3⟩:=I2.after hq';subst ev;exact⟨rv,⟨V.ref (s.heap.objs.size+1),H',I3,rfl,q3⟩⟩
  | next=>exact False.elim hq'
  | brk=>exact False.elim hq'
  | cont=>exact False.elim hq'
def zk6 (M:Mk X.K C f)(F:FnOk X.prog X.w X.K X.mg X.base CX k f fd ps sp)(hr:Room (k+1) X.A)(hg:Gl X x)(hm:X.mg x=some (.ref C))(hb:Binds X.K fd ps ds)(hd:Vals dvs ds)(hx:zas CX X E)
  (ha:PA X (e::es) t) (hdb:(x==("__debug__" :Str))=false:=by decide) (he:starEach (e::es) X.env=(false,eval e X.env)::starEach es X.env:=by rfl) (hpl:(backTo pos (starEach es X.env)).any (·.1)=false:=by rfl):
  PE X (.Call (.Name x p) (e::es) [] pos) (zi8 C sp dvs E t):=by
 intro pins s σ H Q I h;refine wpAny_Call_Name_kw (za3 I hg hm ?_ hdb);refine PySem.W.callWith_K (h₀:=X.base) I.ok.mod.kin M.kp (thn (ha pos pins s σ H _ I h) λus s1 ⟨vs,H1,I1,r,q⟩=>⟨I1.kIn,?_⟩) he hpl;exact ziL M F hr hb hd hx I1 r q
def zoL (M:Mk X.K C f)(F:FnOk X.prog X.w X.K X.mg X.base CX k f fd ps sp)(hr:Room (k+1) X.A)(hg:Gl X x)(hm:X.mg x=some (.ref C))(hb:Binds X.K fd ps ds)(hd:Vals dvs ds)(hx:zas CX X E)
  (hdb:(x==("__debug__" :Str))=false:=by decide):PE X (.Call (.Name x p) [] [] pos) (zi8 C sp dvs E tNil):=by
 intro pins s σ H Q I h;refine wpAny_Call_Name_kw (za3 I hg hm ?_ hdb);exact PySem.W.callWith_K0 I.kIn M.kp (ziL (us:=[]) M F hr hb hd hx I .nil h)
variable {ks:QQ}{kpos:Pos}{kws:List Keyword}{te:TE}{tk:TA}{nm:Option Str}
structure zt7 (K:QA)(fd:FuncData)(ps ks:QQ)(g:List Value->List Value->List Value)(gV:List V->List V->List V):Prop where
 to:∀(s:Shared)(us ws:QO),K.In s.heap->(g us ws).length=ps.length->BindsTo s fd ⟨us,ks.zip ws⟩ (ps.zip (g us ws))
 rel:∀{vs:QR}{us:QO}{zs:QR}{ws:QO},Vals vs us->Vals zs ws->Vals (gV vs zs) (g us ws)
variable {g:List Value->List Value->List Value}{gV:List V->List V->List V}
end
structure zaj (N P:QQ)(sc:Scope):Prop where
 kind:sc.kind=.function
 co:sc.isCoroutine=false
 gen:sc.isGenerator=false
 nd:N.Nodup
 pre:N.take P.length=P
 par:∀x∈P,sc.names.lookup x=some .local\/sc.names.lookup x=some .cell
 nofree:∀y∈sc.names,y.2≠ .free
def fsN (N:QQ){P:QQ}{sc:Scope}(h:sc.kind=.function/\sc.isCoroutine=false/\sc.isGenerator=false/\N.Nodup/\N.take P.length=P/\(∀x∈P,sc.names.lookup x=some .local\/sc.names.lookup x=some .cell)/\∀y∈sc.names,y.2≠ .free:=by decide+kernel):zaj N P sc:=⟨h.1,h.2.1,h.2.2.1,h.2.2.2.1,h.2.2.2.2.1,h.2.2.2.2.2.1,h.2.2.2.2.2.2⟩
theorem zgB {kindOf:Str->Option NameKind}{x:Str}:∀{binds:QL}{m:QB},(∀v,(x,v)∉binds)->bindL kindOf binds m x=m x
 | [],_,_=>rfl
 | (n,v)::r,m,h=>by
  unfold bindL;rw[zgB λw hw=>h w (Ji _ hw)];split
  ·have:x≠n:=by rintro rfl;exact h v JL
   simp[this]
  ·rfl
theorem zgT {kindOf:Str->Option NameKind}{x:Str}:∀{binds:QL}{m:QB},(∀v,(x,v)∉binds)->bindC kindOf binds m x=m x
 | [],_,_=>rfl
 | (n,v)::r,m,h=>by
  unfold bindC;rw[zgT λw hw=>h w (Ji _ hw)];split
  ·rfl
  ·have:x≠n:=by rintro rfl;exact h v JL
   simp[this]
def _root_.Nh:=@List.nodup_cons
theorem zgC {kindOf:Str->Option NameKind}{x:Str}{v:Value}:∀{P:QQ}{vs:QO}{i:Nat}{m:QB},P.Nodup->P[i]? =some x->vs[i]? =some v->kindOf x=some .local->
  bindL kindOf (P.zip vs) m x=some v
 | [],_,_,_,_,h,_,_=>by simp at h
 | _::_,[],_,_,_,_,h,_=>by simp at h
 | p::P,w::vs,0,m,nd,h1,h2,hk=>by simp at h1 h2;subst h1;subst h2;show bindL kindOf ((p,w)::P.zip vs) m p=_;unfold bindL;rw[zgB λv hv=>(Nh.mp nd).1 (List.of_mem_zip hv).1,if_pos hk];simp
 | p::P,w::vs,i+1,m,nd,h1,h2,hk=>by show bindL kindOf ((p,w)::P.zip vs) m x=_;unfold bindL;exact zgC (i:=i) (Nh.mp nd).2 (by simpa using h1) (by simpa using h2) hk
theorem zgQ {kindOf:Str->Option NameKind}{x:Str}{v:Value}:∀{P:QQ}{vs:QO}{i:Nat}{m:QB},P.Nodup->P[i]? =some x->vs[i]? =some v->kindOf x≠some .local->
  bindC kindOf (P.zip vs) m x=some v
 | [],_,_,_,_,h,_,_=>by simp at h
 | _::_,[],_,_,_,_,h,_=>by simp at h
 | p::P,w::vs,0,m,nd,h1,h2,hk=>by simp at h1 h2;subst h1;subst h2;show bindC kindOf ((p,w)::P.zip vs) m p=_;unfold bindC;rw[zgT λv hv=>(Nh.mp nd).1 (List.of_mem_zip hv).1,if_neg hk];simp
 | p::P,w::vs,i+1,m,nd,h1,h2,hk=>by show bindC kindOf ((p,w)::P.zip vs) m x=_;unfold bindC;exact zgQ (i:=i) (Nh.mp nd).2 (by simpa using h1) (by simpa using h2) hk
def start (N:QQ)(vs:QR):St:=vs.map some++List.replicate (N.length - vs.length) none
def cxOf (CX:CXT)(P:Program)(w:World)(K:QA)(mg:QB)(base:Heap)(N:QQ)(qual:Str)(scope:Scope)(f:Addr)(cd:Value)(A:Around)(outer:List Env)(s:Shared)(H:Hp)(E:XK):Cx where
 prog:=P
 w:=w
 K:=K
 mg:=mg
 base:=base
 A:=A.deeper (envOfC qual scope s.heap.objs.size f cd)
 N:=N
 s₀:=s
 H₀:=H
 env:=envOfC qual scope s.heap.objs.size f cd
 outer:=outer
 stack:=envOfC qual scope s.heap.objs.size f cd::outer
 ex:=[]
 calm:=true
 fn:=λ_=>true
 pn:=[]
 xe:=λe s'=>wpAny (model P w) (A.deeper (envOfC qual scope s.heap.objs.size f cd)) (leaving (envOfC qual scope s.heap.objs.size f cd) e) (λ_ s''=>CX outer H s E e s'') (λe' s''=>CX outer H s E e' s'') s'
def ziR {sc:Scope}{x:Str}(h:sc.names.lookup x=some .cell):∃c,(cellsFrom n sc.names []).lookup x=some c:=by have q:=PySem.W.cellsFrom_some sc.names n [] (.inl h);exact Option.isSome_iff_exists.mp q
def _root_.JI:=@List.length_append
def _root_.JQ:=@List.getElem?_map
def _root_.JX:=@List.mem_of_getElem?
def _root_.JY:=@List.getElem?_append_right
def _root_.No:=@List.getElem?_append_left
def _root_.Nt:=@List.length_take
def zlS {CX:CXT}{P:Program}{w:World}{K:QA}{mg:QB}{base:Heap}{N ps:QQ}{qual:Str}{scope:Scope}{f:Addr}{cd:Value}{A:Around}{outer:List Env}{s s1:Shared}{H:Hp}{E:XK}{us:QO}{vs:QR}
  (S:zaj N ps scope) (hd:A.handled=none) (e0:Env0 P w K mg base A outer s H) (hl:vs.length=ps.length) (r:Vals vs us)
  (x:InCallC s s.heap.objs.size (bindL (envOfC qual scope s.heap.objs.size f cd).kindOf (ps.zip us) λ_=>none) (cellsFrom (s.heap.objs.size+1) scope.names []) (bindC (envOfC qual scope s.heap.objs.size f cd).kindOf (ps.zip us) λ_=>none) s1):
  Inv (cxOf CX P w K mg base N qual scope f cd A outer s H E) [] (start N vs) H s1:=by
 have hpl:ps.length<=N.length:=by have:=congrArg List.length S.pre;rw[Nt] at this;lia
 obtain⟨h1,tk,rfl,hk⟩:=x.done;have noA:∀b:Addr,b∉(cxOf CX P w K mg base N qual scope f cd A outer s H E).ex:=λb z=>Jf (show b∈([]:QP) from z) (by simp);refine⟨⟨e0.mod,S.kind,rfl,rfl,Jb _,λy z c h1 h2=>?_,λy hy=>?_,λy c _ h=>?_,λ_=>hd,Around.frames_deeper e0.frames,.inr ⟨rfl,rfl⟩,λb z=>Jf z (noA b),e0.bs,e0.bsz,λb _ _=>noA b,λb z=>Jf z (noA b),e0.funs,e0.frf⟩,
  rfl,e0.bare,Un.kept hk,⟨_,x.toInCall.ns,λi y v h1 h2 h3=>?_⟩,λy c h=>⟨_,x.cell y c h⟩,e0.hok.fresh (Jb _),λy c h=>?_,λp hp=>Jf (show p∈([]:QE) from hp) (by simp),e0.hok.kept hk,?_⟩
 ·exact name_of_addr x.apart (PySem.mem_of_lookup h1) (PySem.mem_of_lookup h2)
 ·have hy:scope.names.lookup y=some .cell\/scope.names.lookup y=some .free:=hy;rcases hy with hy | hy
  ·exact ziR hy
  ·exact Jf rfl (S.nofree _ (PySem.mem_of_lookup hy))
 ·exact Nat.le_of_lt (x.above y c (PySem.mem_of_lookup h))
 ·have hi:i < vs.length:=by
   unfold start at h2;by_cases hi:i < vs.length
   ·exact hi
   ·rw[JY (by simpa using hi)] at h2;rw[List.getElem?_replicate] at h2;split at h2 <;> cases h2
  have ha:vs[i]? =some v:=by
   unfold start at h2;rw[No (by simpa using hi),JQ] at h2;cases e:vs[i]? with
   | none=>rw[e] at h2;cases h2
   | some a=>rw[e] at h2;cases h2;rfl
  obtain⟨u,hu,rv⟩:=r.get ha;have hp:ps[i]? =some y:=by rw[<-S.pre,List.getElem?_take_of_lt (by lia)];exact h1
  have ndP:ps.Nodup:=by rw[<-S.pre];exact S.nd.sublist (List.take_sublist _ _)
  refine⟨u,rv,?_⟩;rcases S.par y (JX hp) with k | k
  ·exact .inl ⟨k,zgC ndP hp hu k⟩
  ·obtain⟨c,e⟩:=ziR (n:=s.heap.objs.size+1) k;refine .inr ⟨.inl k,c,e,?_⟩;have q:=x.cell y c e;rw[zgQ ndP hp hu (by show scope.names.lookup y≠_;rw[k];decide)] at q;exact q
 ·exact e0.hok.fresh (Nat.le_of_lt (x.above y c (PySem.mem_of_lookup h)))
 ·unfold start;show _=N.length;rw[JI,JE,List.length_replicate];lia
abbrev _root_.QJ:=Array (Option Value)
def zq3 {CX:CXT}{P:Program}{w:World}{K:QA}{mg:QB}{base:Heap}{k:Nat}{f:Addr}{name qual:Str}{params:Arguments}{body:List Stmt}{scope:Scope}{dV kV doc pm cdv ct oc:Value}{an od:QN}
  {osl:QJ} {N ps:QQ} {sp:Sp} (lk:K.lookup f=some ⟨oc,od,.func (PySem.W.fnOf name qual params body scope dV kV doc pm an cdv ct),osl⟩) (hcd:PySem.W.codeIn K cdv qual=true) (S:zaj N ps scope)
  (len:∀vs H Q E,sp vs H Q E->vs.length=ps.length)
  (hbody:∀(A:Around)(outer:List Env)(s:Shared)(H:Hp)(vs:QR)(Q:VK)(E:XK),Room k (A.deeper (envOfC qual scope s.heap.objs.size f cdv))->sp vs H Q E->
   ∃t,PSs (cxOf CX P w K mg base N qual scope f cdv A outer s H E) body t/\t {nx:=λ_ H'=>Q .non H',rt:=Q} (start N vs) H):
  FnOk P w K mg base CX (k+1) f (PySem.W.fnOf name qual params body scope dV kV doc pm an cdv ct) ps sp:=by
 refine⟨len,λA outer s H args us vs Q E hr e0 hb r hsp=>?_⟩;have hl:=len _ _ _ _ hsp;have KX:K.In s.heap:=e0.mod.kin.keeps λb o e=>(e0.bs b o e).1;have lim:s.heap.NoLimit:=e0.mod.nolimit.keeps λb o e=>(e0.bs b o e).1;have hkind:∀y∈ps.zip us,scope.names.lookup y.1=some .local\/(scope.names.lookup y.1=some .cell/\((cellsFrom (s.heap.objs.size+1) scope.names []).lookup y.1).isSome=true):=λ⟨n,v⟩ hy=>by
  rcases S.par n (List.of_mem_zip hy).1 with q | q
  ·exact .inl q
  ·exact .inr ⟨q,PySem.W.cellsFrom_some _ _ _ (.inl q)⟩
 refine codeAny_call_function hr.depth (KX _ _ lk) rfl S.co S.gen rfl (PySem.W.codeRec_of KX hcd) (hb _ _ _ _ ?_);refine wpAny_newFunctionEnv_cells S.kind hkind λenv he s1 x=>?_;subst he;refine⟨lim.keeps x.toInCall.keep,codeAny_func ?_⟩;obtain⟨t,ht,hq⟩:=hbody A outer s H vs Q E (hr.deeper _) hsp;have I:Inv (cxOf CX P w K mg base N qual scope f cdv A outer s H E) [] (start N vs) H s1:=zlS S hr.hd e0 hl r x;refine wpAny_mono (ht [] s1 (start N vs) H _ I hq) (λfl s' hs=>?_) λe s' hs=>hs;have fin:∀{σ':St}{H':Hp}{v:V}{u:Value},Inv (cxOf CX P w K mg base N qual scope f cdv A outer s H E) [] σ' H' s'->RelV v u->Q v H'->CE outer P w H s Q u s':=
  λ{σ' H' v u} J rv q=>⟨v,H',J.os,J.bare,J.base,J.hok,rv,q⟩
 cases fl with
 | ret u=>obtain⟨v,σ',H',J,rv,q⟩:=hs;exact fin J rv q
 | next=>obtain⟨σ',H',J,q⟩:=hs;exact fin (v:=V.non) (u:=Value.none) J rfl q
 | brk=>obtain⟨_,_,_,q⟩:=hs;exact False.elim q
 | cont=>obtain⟨_,_,_,q⟩:=hs;exact False.elim q
section
variable {X:Cx}{x:Str}{p pos:Pos}{e:Expr}{es:List Expr}{t:TA}{id T:String}{r:List V->Hp->VK->Prop}
def tCB (r:List V->Hp->VK->Prop)(t:TA):TE:=fun σ H Q=>t σ H λvs H1=>r vs H1 Q
def zar (hc:zal X (.builtin id) r)(hg:Gl X x)(hm:X.mg x=none)(hv:bootBuiltins x=some (.builtin id))(ha:PA X (e::es) t)(hn:x≠ "__name__" :=by decide) (hdb:(x==("__debug__" :Str))=false:=by decide)
  (he:starEach (e::es) X.env=(false,eval e X.env)::starEach es X.env:=by rfl) (hpl:(backTo pos (starEach es X.env)).any (·.1)=false:=by rfl):PE X (.Call (.Name x p) (e::es) [] pos) (tCB r t):=by
 intro pins s σ H Q I h;refine wpAny_Call_Name_kw (zce I hg hm hv ?_ hn hdb);exact PyProof.Rows.callWith_builtin1 (thn (ha pos pins s σ H _ I h) λus s1 ⟨vs,H1,I1,r1,q1⟩=>hc pins s1 σ H1 vs us Q I1 r1 q1) he hpl
def zd4 (hc:zal X (.type T) r)(hg:Gl X x)(hm:X.mg x=none)(hv:bootBuiltins x=some (.type T))(ha:PA X (e::es) t)(hn:x≠ "__name__" :=by decide) (hdb:(x==("__debug__" :Str))=false:=by decide)
  (he:starEach (e::es) X.env=(false,eval e X.env)::starEach es X.env:=by rfl) (hpl:(backTo pos (starEach es X.env)).any (·.1)=false:=by rfl):PE X (.Call (.Name x p) (e::es) [] pos) (tCB r t):=by
 intro pins s σ H Q I h;refine wpAny_Call_Name_kw (zce I hg hm hv ?_ hn hdb);exact PyProof.Rows.callWith_type1 (thn (ha pos pins s σ H _ I h) λus s1 ⟨vs,H1,I1,r1,q1⟩=>hc pins s1 σ H1 vs us Q I1 r1 q1) he hpl
end
end L2
namespace HT
open PySem PyProof.Rows
def lexLt:List Int->List Int->Bool
 | [],[]=>false
 | [],_::_=>true
 | _::_,[]=>false
 | x::xs,y::ys=>if x=y then lexLt xs ys else decide (x < y)
theorem lexLt_cons (x y:Int)(xs ys:List Int):lexLt (x::xs) (y::ys)=if x=y then lexLt xs ys else decide (x < y):=rfl
section
open PySem.SeqAt
open PySem.AutoSeq1 (wpAny_loadPart')
open PySem.MeetsSeq PySem.MeetsSeq2 PySem.MeetsSeq3
end
section
variable {prog:Program}{w:World}{A:Around}{E:QC}{s:Shared}
def sIx (n d:Nat):Option Int->Nat
 | none=>d
 | some v=>if v < 0 then(v+(n:Int)).toNat else min v.toNat n
theorem sIx_none (n d:Nat):sIx n d none=d:=rfl
theorem sIx_nat (n d k:Nat):sIx n d (some (k:Int))=min k n:=by show(if (k:Int) < 0 then((k:Int)+(n:Int)).toNat else min (k:Int).toNat n)=min k n;rw[if_neg (by lia),Int.toNat_natCast]
def sIx_le (n d:Nat)(hd:d<=n)(o:Option Int):sIx n d o<=n:=by
 cases o with
 | none=>exact hd
 | some v=>
  show(if v < 0 then(v+(n:Int)).toNat else min v.toNat n)<=n;by_cases hv:v < 0
  ·rw[if_pos hv];lia
  ·rw[if_neg hv];exact Nat.min_le_right _ _
theorem clip_eq (v:Int)(n d:Nat):(if v < 0 then max (v+(n:Int)) 0 else min v (n:Int))=((sIx n d (some v):Nat):Int):=by
 show(if v < 0 then max (v+(n:Int)) 0 else min v (n:Int))=(((if v < 0 then(v+(n:Int)).toNat else min v.toNat n):Nat):Int);by_cases hv:v < 0
 ·simp only[if_pos hv];lia
 ·simp only[if_neg hv];lia
end
end HT
namespace L2
open PySem PySem.Spec PyProof.Rows
abbrev TO:=St->Hp->(Option Int->Hp->Prop)->Prop
def PO (X:Cx)(e:Option Expr)(t:TO):Prop:=
 ∀(pins:QE)(s:Shared)(σ:St)(H:Hp)(Q:Option Int->Hp->Prop),Inv X pins σ H s->t σ H Q->
  wpAny (model X.prog X.w) X.A (evalPart e X.env) (λu s'=>∃o H',Inv X pins σ H' s'/\IsPart u o/\Q o H') X.xe s
def zpq:TO:=λ_ H Q=>Q none H
def ztF (t:TE):TO:=fun σ H Q=>t σ H λx H1=>∃i,x=.int i/\Q (some i) H1
section
variable {X:Cx}{e:Expr}{te:TE}{lo hi:Option Expr}{tl th:TO}{pos p2:Pos}
def zeQ:PO X none zpq:=by intro pins s σ H Q I h;rw[evalPart_none];exact wpAny_pure ⟨none,H,I,.none,h⟩
def zdz (h:PE X e te):PO X (some e) (ztF te):=by intro pins s σ H Q I hw;rw[evalPart_some];refine thn (h pins s σ H _ I hw) λu s1 ⟨x,H1,I1,r1,q1⟩=>?_;obtain⟨i,rfl,q⟩:=q1;obtain⟨t,rfl⟩:=r1;exact⟨some i,H1,I1,.int i t,q⟩
def SlR (X:Cx)(r:V->Option Int->Option Int->Hp->VK->Prop):Prop:=
 ∀(pins:QE)(s:Shared)(σ:St)(H:Hp)(x:V)(v vl vu:Value)(lo hi:Option Int)(sl:Addr)(Q:VK),Inv X pins σ H s->RelV x v->s.heap.IsSliceOf sl vl vu .none->IsPart vl lo->IsPart vu hi->r x lo hi H Q->
  ∃T id,typeLookup (.type T) "__getitem__" =pure (some (.builtin id))/\s.TypeIs v T/\wpAny (model X.prog X.w) X.A (getItem v (.ref sl)) (EP X pins σ Q) X.xe s
def tSl (r:V->Option Int->Option Int->Hp->VK->Prop)(te:TE)(tl th:TO):TE:=fun σ H Q=>te σ H λx H1=>tl σ H1 λl H2=>th σ H2 λu H3=>r x l u H3 Q
def zfP (hr:SlR X r)(he:PE X e te)(hl:PO X lo tl)(hu:PO X hi th):PE X (.Subscript e (.Slice lo hi none p2) pos) (tSl r te tl th):=by intro pins s σ H Q I h;refine Subscript_ (thn (he pins s σ H _ I h) λv s1 ⟨x,H1,I1,r1,q1⟩=>?_);refine wpAny_Slice (thn (hl pins s1 σ H1 _ I1 q1) λvl s2 ⟨l,H2,I2,pl,q2⟩=>thn (hu pins s2 σ H2 _ I2 q2) λvu s3 ⟨u,H3,I3,pu,q3⟩=>?_);rw[evalPart_none];refine wpAny_pure ?_;have I4:Inv X pins σ H3 {s3 with heap:=s3.heap.push {cls:=.type "slice",data:=.fields #[vl,vu,.none]}}:=I3.kept (t':=s3.toks) λb ob q=>JC _ q;obtain⟨T,id,hT,ht,hg⟩:=hr pins {s3 with heap:=s3.heap.push {cls:=.type "slice",data:=.fields #[vl,vu,.none]}} σ H3 x v vl vu l u s3.heap.objs.size Q I4 r1 (Heap.IsSliceOf.new ..) pl pu q3;show wpAny (model X.prog X.w) X.A (subscriptTail e (.Slice lo hi none p2) v (.ref s3.heap.objs.size)) (EP X pins σ Q) X.xe {s3 with heap:=s3.heap.push {cls:=.type "slice",data:=.fields #[vl,vu,.none]}};exact tail_any (ops:=[.ref s3.heap.objs.size,v]) ht hT hg (by with_unfolding_all rfl)
def cutV (xs:QR)(lo hi:Option Int):List V:=(xs.drop (HT.sIx xs.length 0 lo)).take (HT.sIx xs.length xs.length hi - HT.sIx xs.length 0 lo)
def _root_.Nj:=@List.length_drop
def zjg (xs:QR)(lo hi:Option Int):(cutV xs lo hi).length<=xs.length:=by unfold cutV;rw[Nt,Nj];lia
end
def ixN (n:Nat)(i:Int):Option Nat:=if 0<=i then(if i < n then some i.toNat else none) else if -(n:Int)<=i then some (i+n).toNat else none
def atI {α:Type}(xs:List α)(i:Int):Option α:=(ixN xs.length i).bind λj=>xs[j]?
def zk8 {j:Nat}(h:ixN n i=some j):seqIndex? i n=some j/\j < n/\ -(n:Int)<=i/\i < n:=by
 unfold ixN at h;by_cases h0:0<=i
 ·rw[if_pos h0] at h;by_cases h1:i < n
  ·rw[if_pos h1] at h;have e:i.toNat=j:=JO h;exact⟨by rw[seqIndex_of h0 h1,e],by lia,by lia,h1⟩
  ·rw[if_neg h1] at h;cases h
 ·rw[if_neg h0] at h;by_cases h1: -(n:Int)<=i
  ·rw[if_pos h1] at h;have e:(i+n).toNat=j:=JO h;exact⟨by rw[seqIndex_neg (by lia) h1,e],by lia,h1,by lia⟩
  ·rw[if_neg h1] at h;cases h
def zha {xs:List α}{i:Int}{v:α}(h:atI xs i=some v):∃j,seqIndex? i xs.length=some j/\xs[j]? =some v/\j < xs.length/\ -(xs.length:Int)<=i/\i < xs.length:=by
 unfold atI at h;cases e:ixN xs.length i with
 | none=>rw[e] at h;cases h
 | some j=>rw[e] at h;obtain⟨h1,h2,h3,h4⟩:=zk8 e;exact⟨j,h1,h,h2,h3,h4⟩
theorem zdN {xs:List α}{j:Nat}{v:α}(h:xs[j]? =some v):atI xs (j:Int)=some v:=by
 have hj:j < xs.length:=(JH.mp h).1;have e:ixN xs.length (j:Int)=some j:=by unfold ixN;rw[if_pos (by lia),if_pos (by lia)];simp
 unfold atI;rw[e];exact h
def zct (xs:List α)(v:α):atI (xs++ [v]) (-1)=some v:=by
 have hl:(xs++ [v]).length=xs.length+1:=by simp
 have e:ixN (xs++ [v]).length (-1)=some xs.length:=by unfold ixN;rw[hl,if_neg (by decide),if_pos (by lia)];congr 1;lia
 unfold atI;rw[e];show(xs++ [v])[xs.length]? =some v;simp
def zpE (b:Expr):Prop:=∀o i,subscripted b false o i=operate [o,i] (getItem o i)
def IxR (X:Cx)(r:R2):Prop:=
 ∀(value slice:Expr)(pins:QE)(s:Shared)(σ:St)(H:Hp)(x y:V)(v u:Value)(Q:VK),Inv X pins σ H s->RelV x v->RelV y u->r x y H Q->
  subscripted slice false v u=operate [v,u] (getItem v u)->wpAny (model X.prog X.w) X.A (subscriptTail value slice v u) (EP X pins σ Q) X.xe s
def MtR (X:Cx)(id:String)(r:V->List V->Hp->VK->Prop):Prop:=
 ∀(pins:QE)(s:Shared)(σ:St)(H:Hp)(x:V)(xs:QR)(v:Value)(us:QO)(Q:VK),Inv X pins σ H s->RelV x v->Vals xs us->r x xs H Q->
  wpAny (model X.prog X.w) X.A (call (.builtin id) (v::us)) (EP X pins σ Q) X.xe s
section
variable {X:Cx}{a b:Expr}{ta tb:TE}{pos:Pos}
def zbD (hr:IxR X r)(ha:PE X a ta)(hb:PE X b tb)(hs:zpE b):PE X (.Subscript a b pos) (tOp r ta tb):=by intro pins s σ H Q I h;exact Subscript_ (binT ha hb I h λv u s2 x y H2 I2 rx ry q=>hr a b pins s2 σ H2 x y v u Q I2 rx ry q (hs _ _))
inductive rIxL (K:QA)(x y:V)(H:Hp)(Q:VK):Prop
 | mk (p:Addr)(xs:QR)(i:Int)(v:V)(_:x=.ref p)(_:y=.int i)(_:SqL K H p xs)(_:atI xs i=some v)(_:Q v H):rIxL K x y H Q
inductive rIxT (K:QA)(x y:V)(H:Hp)(Q:VK):Prop
 | mk (p:Addr)(xs:QR)(i:Int)(v:V)(_:x=.ref p)(_:y=.int i)(_:SqT K H p xs)(_:atI xs i=some v)(_:Q v H):rIxT K x y H Q
def rIxS:R2:=λx y H Q=>∃z i c,x=.str z/\y=.int i/\z.length<=sizeLine/\atI z.cps.toList i=some c/\Q (.str ⟨#[c]⟩) H
def _root_.JG:=@List.size_toArray
def zdH:IxR X (rIxL X.K):=by
 intro value slice pins s σ H x y v u Q I rx ry h hs;obtain⟨p,xs,i,z,rfl,rfl,hq,he,q⟩:=h;cases rx;obtain⟨t,rfl⟩:=ry;obtain⟨its,r,pl,hz⟩:=I.list hq;obtain⟨j,h1,h2,h3,h4,h5⟩:=zha he;obtain⟨w,ew,rw'⟩:=r.get h2;have hl:=r.length;have hn:=zd2;have fin:EP X pins σ Q w s:=⟨z,H,I,rw',q⟩;by_cases h0:0<=i
 ·have hj:i.toNat=j:=by rw[seqIndex_of h0 h5] at h1;exact JO h1
  exact item_listR pl.isList h0 (by lia) (by rw[hj];simpa using ew) fin hs
 ·have hj:(i+(its.toArray.size:Int)).toNat=j:=by rw[seqIndex_neg (by lia) h4] at h1;rw[JG,<-hl];exact JO h1
  exact subscriptTail_builtinR (x:=w) pl.isList.typeIs slot_list_getitem.lookup
   (wpAny_getItem_list_neg (Q:=λr s'=>r=w/\EP X pins σ Q r s') pl.isList (by lia) (by rw[JG] <;> lia) (by lia) (by rw[hj];simpa using ew) ⟨rfl,fin⟩) hs
def zfL:IxR X (rIxT X.K):=by
 intro value slice pins s σ H x y v u Q I rx ry h hs;obtain⟨p,xs,i,z,rfl,rfl,hq,he,q⟩:=h;cases rx;obtain⟨t,rfl⟩:=ry;obtain⟨its,r,pl,hz⟩:=I.tuple hq;obtain⟨j,h1,h2,h3,h4,h5⟩:=zha he;obtain⟨w,ew,rw'⟩:=r.get h2;have hl:=r.length;have hn:=zd2;have fin:EP X pins σ Q w s:=⟨z,H,I,rw',q⟩;exact subscriptTail_builtinR (x:=w) pl.typeIs slot_tuple_getitem.lookup
  (getItem_tuple (j:=j) (Q:=λr s'=>r=w/\EP X pins σ Q r s') pl (by lia) (by lia) (by rw[JG,<-hl];exact h1) (by simpa using ew) ⟨rfl,fin⟩) hs
def zsj:IxR X rIxS:=by
 intro value slice pins s σ H x y v u Q I rx ry h hs;obtain⟨z,i,c,rfl,rfl,hz,he,q⟩:=h;obtain⟨t,rfl⟩:=rx;obtain⟨t',rfl⟩:=ry;obtain⟨j,h1,h2,h3,h4,h5⟩:=zha he;have hl:z.cps.toList.length=z.length:=by simp[Str.length]
 rw[hl] at h1 h4 h5;have hn:=zd2;exact tail_any (typeIs_str s z t) slot_str_getitem.lookup (getItem_str (c:=c) (by
  have e1:decide (i < -(2 ^ 63:Int))=false:=Jd (by lia);have e2:decide (i≥2 ^ 63)=false:=Jd (by lia);rw[e1,e2,Bool.or_false]) (by rw[h1];simpa using h2) ⟨.str ⟨#[c]⟩,H,I.tok _,⟨_,rfl⟩,q⟩) hs
def zjR (its:QO)(n j:Nat)(u:Value):Obj.mapSeq (·.setIfInBounds j u) {cls:=.type "list",data:=.seq its.toArray n}={cls:=.type "list",data:=.seq (its.set j u).toArray n}:=by simp[Obj.mapSeq]
theorem Inv.lst {pins:QE}{σ:St}{H:Hp}{s:Shared}{p:Addr}{xs:QR}(I:Inv X pins σ H s)(h:H p=some (.lst xs)):
  ∃(its:QO)(n:Nat),Vals xs its/\s.heap.get? p=some {cls:=.type "list",data:=.seq its.toArray n}/\xs.length<=sizeLine:=by
 obtain⟨z,its,n,r,e⟩:=I.hok p _ h;exact⟨its,n,r,e,z⟩
def _root_.JU:=@PySem.Heap.get?_update_self
def _root_.JW:=@PySem.Heap.get?_update_other
def Inv.lstUpd {p:Addr}{xs:QR}{its its':QO}{n n':Nat}{f:Obj->Obj}(I:Inv X pins σ H s)(h:H p=some (.lst xs))
  (ho:s.heap.get? p=some {cls:=.type "list",data:=.seq its.toArray n}) (hf:f {cls:=.type "list",data:=.seq its.toArray n}={cls:=.type "list",data:=.seq its'.toArray n'}) (r:Vals ys its') (hz:ys.length<=sizeLine) (t:Nat):
  Inv X pins σ (upd H p (.lst ys)) {s with heap:=s.heap.update p f,toks:=t}:=by
 have e:(s.heap.update p f).get? p=some {cls:=.type "list",data:=.seq its'.toArray n'}:=by rw[JU f ho (by rw[hf] <;> rfl),hf]
 refine I.write (x:=p) (e:=p) (by rw[h];trivial) (.inl rfl) (λb u hb q=>(JW _ _ (Ne.symm hb)).trans q) ⟨_,e⟩ ?_;exact⟨hz,its',n',r,e⟩
def zts:V->V->V->Hp->(Hp->Prop)->Prop:=λo i v H Q=>∃p xs k j,o=.ref p/\i=.int k/\H p=some (.lst xs)/\ixN xs.length k=some j/\Q (upd H p (.lst (xs.set j v)))
def set_list:PSet X zts:=by
 intro pins s σ H o i v ov iv u Q I ro ri rv h;obtain⟨p,xs,k,j,rfl,rfl,hp,hj,q⟩:=h;cases ro;obtain⟨t,rfl⟩:=ri;obtain⟨its,n,r,ho,hz⟩:=I.lst hp;obtain⟨h1,h2,h3,h4⟩:=zk8 hj;have hl:=r.length;have hn:=zd2;have I':Inv X pins σ (upd H p (.lst (xs.set j v))) {s with heap:=s.heap.update p (Obj.mapSeq (·.setIfInBounds j u))}:=
  I.lstUpd hp ho (zjR its n j u) (r.set rv j) (by rw[List.length_set];exact hz) s.toks
 by_cases h0:0<=k
 ·have hk:k.toNat=j:=by rw[seqIndex_of h0 h4] at h1;exact JO h1
  exact PySem.W.ki_setAt ho h0 (by lia) (by rw[JG,<-hl];exact h4) (by rw[hk];exact⟨_,I',q⟩)
 ·have hk:(k+(its.toArray.size:Int)).toNat=j:=by rw[seqIndex_neg (by lia) h3] at h1;rw[JG,<-hl];exact JO h1
  exact PySem.W.ki_setBack ho (by lia) (by rw[JG,<-hl];exact h3) (by lia) (by rw[hk];exact⟨_,I',q⟩)
def zqZ (i:Int)(n d:Nat):max 0 (min (if i < 0 then i+(n:Int) else i) (n:Int))=((HT.sIx n d (some i):Nat):Int):=by
 simp only[HT.sIx];by_cases h:i < 0
 ·simp only[h,if_true] <;> lia
 ·simp only[h,if_false] <;> lia
def zhC (lo hi:Option Int)(n:Nat):(sliceBounds lo hi none n).1=((HT.sIx n 0 lo:Nat):Int)/\(sliceBounds lo hi none n).2.1=((HT.sIx n n hi:Nat):Int)/\(sliceBounds lo hi none n).2.2=1:=by
 refine⟨?_,?_,rfl⟩
 ·cases lo with
  | none=>simp[sliceBounds,HT.sIx]
  | some i=>(simp only[sliceBounds,Option.getD_none,show(1:Int) > 0 by decide,if_true];exact zqZ i n 0)
 ·cases hi with
  | none=>simp[sliceBounds,HT.sIx]
  | some i=>(simp only[sliceBounds,Option.getD_none,show(1:Int) > 0 by decide,if_true];exact zqZ i n n)
theorem zgg (its:QO)(lo hi:Option Int):slicePick its.toArray lo hi none=((its.drop (HT.sIx its.length 0 lo)).take (HT.sIx its.length its.length hi - HT.sIx its.length 0 lo)).toArray:=by obtain⟨h1,h2,h3⟩:=zhC lo hi its.toArray.size;unfold slicePick;rw[h1,h2,h3];simp only[sliceRange_one,pick_run,JG] <;> rfl
def rSlL (K:QA):V->Option Int->Option Int->Hp->VK->Prop:=λx lo hi H Q=>∃a xs,x=.ref a/\SqL K H a xs/\∀p,H p=none->Q (.ref p) (upd H p (.lst (cutV xs lo hi)))
def zlr:SlR X (rSlL X.K):=by intro pins s σ H x v vl vu lo hi sl Q I rx hs pl pu h;obtain⟨a,xs,rfl,hx,q⟩:=h;cases rx;obtain⟨its,r,ht,hz⟩:=I.list hx;have hlen:=r.length;refine⟨"list",_,slot_list_getitem.lookup,ht.isList.typeIs,?_⟩;refine wpAny_getItem_list_slice ht.isList hs pl pu .none (by simp) ?_ (by rw[JG] <;> lia);rw[zgg,<-hlen];refine⟨.ref s.heap.objs.size,_,I.laid (t':=s.toks) (o:=.lst (cutV xs lo hi)) (λb ob q=>JC _ q) (Jb _) ?_,rfl,q _ (I.hok.fresh (Jb _))⟩;exact⟨Jg (zjg xs lo hi) hz,_,0,(r.drop (HT.sIx xs.length 0 lo)).take (HT.sIx xs.length xs.length hi - HT.sIx xs.length 0 lo),JJ _ rfl⟩
def eqV:V->V->Bool
 | .non,.non=>true
 | .bl a,.bl b=>a==b
 | .bl a,.int b=>(if a then 1 else 0)==b
 | .int a,.bl b=>a==(if b then 1 else 0)
 | .int a,.int b=>a==b
 | .str a,.str b=>a==b
 | _,_=>false
def inV (x:V)(xs:QR):Bool:=xs.any λy=>eqV y x
def za0:zal X (.builtin "len") (λxs H Q=>∃p ys,xs=[.ref p]/\(SqL X.K H p ys\/SqT X.K H p ys)/\Q (.int ys.length) H):=by
 intro pins s σ H xs us Q I r h;obtain⟨p,ys,rfl,hq,q⟩:=h;obtain⟨u,rfl,rx⟩:=vals1 r;cases rx;have hn:=zd2;rcases hq with hq | hq
 ·obtain⟨its,r',pl,hz⟩:=I.list hq;have hlen:=r'.length;exact Calls.call_len_list pl.isList (by simp only[JG] <;> lia) ⟨.int ys.length,H,I.tok _,⟨s.toks+1,by rw[JG,hlen]⟩,q⟩
 ·obtain⟨its,r',pl,hz⟩:=I.tuple hq;have hlen:=r'.length;exact len_tuple pl (by simp only[JG] <;> lia) ⟨.int ys.length,H,I.tok _,⟨s.toks+1,by rw[JG,hlen]⟩,q⟩
def za1:zal X (.builtin "len") (λxs H Q=>∃z,xs=[.str z]/\z.length<=sizeLine/\Q (.int z.length) H):=by intro pins s σ H xs us Q I r h;obtain⟨z,rfl,hz,q⟩:=h;obtain⟨u,rfl,t,rfl⟩:=vals1 r;have hn:=zd2;exact len_str (by lia) ⟨.int z.length,H,I.tok _,⟨_,rfl⟩,q⟩
def zal.or (h:zal X f r)(h':zal X f r'):zal X f (λxs H Q=>r xs H Q\/r' xs H Q):=by
 intro pins s σ H xs us Q I rs q;rcases q with q | q
 ·exact h pins s σ H xs us Q I rs q
 ·exact h' pins s σ H xs us Q I rs q
def zhG:zal X (.type "list") (λxs H Q=>∃p ys,xs=[.ref p]/\(SqL X.K H p ys\/SqT X.K H p ys)/\∀l,H l=none->Q (.ref l) (upd H l (.lst ys))):=by
 intro pins s σ H xs us Q I r h;obtain⟨p,ys,rfl,hq,q⟩:=h;obtain⟨u,rfl,rx⟩:=vals1 r;cases rx;have fin:∀(its:QO),Vals ys its->ys.length<=sizeLine->∀(h':Heap)(c':Nat),(∀b o',s.heap.get? b=some o'->h'.get? b=some o')->
   h'.get? s.heap.objs.size=some {cls:=.type "list",dict:=none,data:=.seq its.toArray c',slots:= #[]}->EP X pins σ Q (.ref s.heap.objs.size) {s with heap:=h'}:=λits r' hz h' c' kp e=>
  ⟨.ref s.heap.objs.size,_,I.laid (t':=s.toks) kp (Jb _) (show zA X.prog X.w _ h' _ (.lst ys) from⟨hz,its,c',r',e⟩),rfl,q _ (I.hok.fresh (Jb _))⟩
 rcases hq with hq | hq
 ·obtain⟨its,r',pl,hz⟩:=I.list hq;have hlen:=r'.length;obtain⟨o,ho,hc,n,hd⟩:=pl.isList;exact call_list_seq p (.inl rfl) ho hc hd (λh' c' kp e=>fin its r' hz h' c' kp e) (by simp only[JG] <;> lia)
 ·obtain⟨its,r',pl,hz⟩:=I.tuple hq;have hlen:=r'.length;obtain⟨o,ho,hc,n,hd⟩:=pl;exact call_list_seq p (.inr rfl) ho hc hd (λh' c' kp e=>fin its r' hz h' c' kp e) (by simp only[JG] <;> lia)
def zbu:zal X (.type "tuple") (λxs H Q=>∃p ys,xs=[.ref p]/\((SqL X.K H p ys/\∀l,H l=none->Q (.ref l) (upd H l (.tup ys)))\/(SqT X.K H p ys/\Q (.ref p) H))):=by
 intro pins s σ H xs us Q I r h;obtain⟨p,ys,rfl,h⟩:=h;obtain⟨u,rfl,rx⟩:=vals1 r;cases rx;rcases h with ⟨hq,q⟩ | ⟨hq,q⟩
 ·obtain⟨its,r',pl,hz⟩:=I.list hq;have hlen:=r'.length;refine call_tuple_list pl.isList (λh' kp=>?_) (by simp only[JG] <;> lia);have I1:Inv X pins σ H {s with heap:=h'}:=I.kept (t':=s.toks) kp;have I2:Inv X pins σ (upd H h'.objs.size (.tup ys)) {s with heap:=h'.push {cls:=.type "tuple",data:=.seq its.toArray}}:=
   I1.laid (t':=s.toks) (λb o e=>JC _ e) (Jb _) (show zA X.prog X.w _ _ _ (.tup ys) from⟨hz,its,r',IsTup.new _ _⟩)
  exact⟨.ref h'.objs.size,_,I2,rfl,q _ (I1.hok.fresh (Jb _))⟩
 ·obtain⟨its,r',pl,hz⟩:=I.tuple hq;exact call_tuple_same pl ⟨.ref p,H,I,rfl,q⟩
def tyV (K:QA)(T:String)(x:V)(H:Hp):Prop:=match x with
 | .str _=>T= "str"
 | .int _=>T= "int"
 | .ref p=>(T= "list" /\∃xs,SqL K H p xs)\/(T= "tuple" /\∃o,K.lookup p=some o/\o.cls=.type "tuple" /\o.dict=none)\/
   (T= "dict" /\((∃kvs,H p=some (.dK kvs))\/∃kvs,H p=some (.dT kvs)))\/(T= "set" /\∃S n,H p=some (.set S n))
 | _=>False
def znL (I:Inv X pins σ H s)(r:RelV x v)(ty:tyV X.K T x H):
  s.TypeIs v T/\∀a,v=.ref a->∃ob,s.heap.get? a=some ob/\ob.dict=none:=by
 cases x with
 | str z=>obtain⟨t,rfl⟩:=r;cases (show T= "str" from ty);exact⟨typeIs_str s z t,λ_ e=>nomatch e⟩
 | int i=>obtain⟨t,rfl⟩:=r;cases (show T= "int" from ty);exact⟨typeIs_int s i t,λ_ e=>nomatch e⟩
 | ref p=>
  cases r;rcases ty with ⟨rfl,xs,hq⟩ | ⟨rfl,o,hk,hc,hd⟩ | ⟨rfl,hk⟩ | ⟨rfl,S,n,hk⟩
  ·obtain⟨its,_,pl,_⟩:=I.list hq;refine⟨pl.isList.typeIs,λa e=>?_⟩;cases e;obtain⟨o,n,e,c,hd,_⟩:=pl;exact⟨o,e,hd⟩
  ·refine⟨⟨o,I.kIn p o hk,hc⟩,λa e=>?_⟩;cases e;exact⟨o,I.kIn _ o hk,hd⟩
  ·have z:∃o,s.heap.get? p=some o/\o.ExactDict:=by
    rcases hk with ⟨kvs,hk⟩ | ⟨kvs,hk⟩
    ·obtain⟨_,_,_,_,o,_,_,e,ex,_⟩:=I.hok p _ hk;exact⟨o,e,ex⟩
    ·obtain⟨_,_,_,_,o,_,_,e,ex,_⟩:=I.hok p _ hk;exact⟨o,e,ex⟩
   obtain⟨o,e,ex⟩:=z;refine⟨⟨o,e,ex.1⟩,λa e2=>?_⟩;cases e2;exact⟨o,e,ex.2.1⟩
  ·obtain⟨o,_,_,_,e,ex,_⟩:=I.hok p _ hk;refine⟨⟨o,e,ex.1⟩,λa e2=>?_⟩;cases e2;exact⟨o,e,ex.2.1⟩
 | _=>exact False.elim ty
def tBM0 (K:QA)(T:String)(r:V->List V->Hp->VK->Prop)(to:TE):TE:=fun σ H Q=>to σ H λx H1=>tyV K T x H1/\r x [] H1 Q
def tBM (K:QA)(T:String)(r:V->List V->Hp->VK->Prop)(to:TE)(t:TA):TE:=fun σ H Q=>to σ H λx H1=>tyV K T x H1/\t σ H1 λxs H2=>r x xs H2 Q
variable {o e:Expr}{es:List Expr}{to:TE}{t:TA}{name:Str}{apos cpos:Pos}{T id:String}{r:V->List V->Hp->VK->Prop}
def zr6 (pa:PlainAttrs T)(slot:Slot T name id)(hty:typeOf (.builtin id)=pure (.type "method_descriptor")) (hm:MtR X id r) (ho:PE X o to)
  (hbase:attributeBase o name X.env (eval o X.env)=eval o X.env:=by rfl) (hline:(apos.endLine==cpos.line)=true:=by rfl):PE X (.Call (.Attribute o name apos) [] [] cpos) (tBM0 X.K T r to):=by
 intro pins s σ H Q I h;refine wpAny_Call_method0_late hbase hline (thn (ho pins s σ H _ I h) λv s1 ⟨x,H1,I1,r1,ty,q1⟩=>?_);obtain⟨h1,h2⟩:=znL I1 r1 ty;exact⟨T,id,pa,slot,hty,h1,h2,Calls.callWith_builtin rfl (PySem.evalArgs_none (hm pins s1 σ H1 x [] v [] Q I1 r1 .nil q1))⟩
def zkS (pa:PlainAttrs T)(slot:Slot T name id)(hty:typeOf (.builtin id)=pure (.type "method_descriptor")) (hm:MtR X id r) (ho:PE X o to) (ha:PA X (e::es) t)
  (hbase:attributeBase o name X.env (eval o X.env)=eval o X.env:=by rfl)
  (hfew:((backTo cpos (starEach (e::es) X.env)).all (λx=>!x.1) && (backToKw cpos (keywordEach [] X.env)).all (λx=>x.1.isSome)
   && decide ((e::es).length+([]:List Keyword).length+(if ([]:List Keyword).isEmpty then 0 else 1) < 30))=true:=by rfl)
  (hline:(apos.endLine==cpos.line)=true:=by rfl) (hs:starEach (e::es) X.env=(false,eval e X.env)::starEach es X.env:=by rfl) (hplain:(backTo cpos (starEach es X.env)).any (·.1)=false:=by rfl):
  PE X (.Call (.Attribute o name apos) (e::es) [] cpos) (tBM X.K T r to t):=by
 intro pins s σ H Q I h;refine wpAny_Call_method_late hbase hfew hline rfl (thn (ho pins s σ H _ I h) λv s1 ⟨x,H1,I1,r1,ty,q1⟩=>?_);obtain⟨h1,h2⟩:=znL I1 r1 ty;refine⟨T,id,pa,slot,hty,h1,h2,?_⟩;have hA:=ha cpos pins s1 σ H1 _ I1 q1;rw[hs] at hA ⊢;refine Calls.callWith_builtin (by show(false || (backTo cpos (starEach es X.env)).any (·.1))=false;rw[hplain] <;> rfl) (Calls.evalArgs_plain ?_);exact thn hA λus s2 ⟨vs,H2,I2,r2,q2⟩=>hm pins s2 σ H2 x vs v us Q I2 r1 r2 q2
end
def MtM (X:Cx)(id:String)(r:V->List V->Hp->VK->Prop):Prop:=
 ∀(pins:QE)(s:Shared)(σ:St)(H:Hp)(x:V)(xs:QR)(v:Value)(us:QO)(Q:VK),Inv X pins σ H s->RelV x v->Vals xs us->r x xs H Q->
  wpAny (model X.prog X.w) X.A (call (.builtin id) (v::us)) (EP X pins σ Q) X.xe s
def Vals.one {x:V}(h:Vals [x] us):∃u,us=[u]/\RelV x u:=by
 cases h with
 | cons r t=>cases t;exact⟨_,rfl,r⟩
theorem Vals.zero:∀{us:QO},Vals [] us->us=[]
 | _,.nil=>rfl
def Vals.dropLast (h:Vals xs us):Vals xs.dropLast us.dropLast:=by
 induction h with
 | nil=>exact .nil
 | cons r t ih=>
  cases t with
  | nil=>exact .nil
  | cons q t'=>exact .cons r ih
theorem zjV (l:List α):l.eraseIdx (l.length - 1)=l.dropLast:=by
 induction l with
 | nil=>rfl
 | cons a r ih=>
  cases r with
  | nil=>rfl
  | cons b r=>
   have e:(a::b::r).length - 1=((b::r).length - 1)+1:=by have h1:(a::b::r).length=r.length+2:=rfl;have h2:(b::r).length=r.length+1:=rfl;lia
   rw[e,List.eraseIdx_cons_succ,ih]
   all_goals rfl
section
variable {X:Cx}{pins:QE}{σ:St}{H:Hp}{s:Shared}{l b:Addr}{xs ys zs:QR}
def Inv.lset {its its':QO}{n:Nat}{f:Array Value->Array Value}{t':Nat}(I:Inv X pins σ H s)(hH:H l=some (.lst xs))
  (e:s.heap.get? l=some {cls:=.type "list",data:=.seq its.toArray n}) (hf:f its.toArray=its'.toArray) (hv:Vals ys its') (hz:ys.length<=sizeLine):
  Inv X pins σ (upd H l (.lst ys)) {s with heap:=s.heap.update l (Obj.mapSeq f),toks:=t'}:=by
 have q:=PySem.IsL.update e f;rw[hf] at q;refine I.write (x:=l) (e:=l) (by rw[hH];exact trivial) (.inl rfl) (λb' u hb hu=>(JW s.heap (Obj.mapSeq f) (Ne.symm hb)).trans hu) ⟨_,q⟩ ?_;exact⟨hz,its',_,hv,q⟩
def Inv.lnew {t':Nat}(I:Inv X pins σ H s)(hv:Vals ys its)(hz:ys.length<=sizeLine):
  Inv X pins σ (upd H s.heap.objs.size (.lst ys)) {s with heap:=s.heap.push {cls:=.type "list",data:=.seq its.toArray},toks:=t'}:=
 I.laid (λ_ _ q=>JC _ q) (Jb _) ⟨hz,its,0,hv,JJ _ rfl⟩
def Inv.fresh (I:Inv X pins σ H s):H s.heap.objs.size=none:=I.hok.fresh (Jb _)
def Inv.lstM (I:Inv X pins σ H s)(hH:H l=some (.lst xs)):xs.length<=sizeLine/\∃(its:QO)(n:Nat),Vals xs its/\xs.length=its.length/\s.heap.get? l=some {cls:=.type "list",data:=.seq its.toArray n}:=by obtain⟨z,its,n,r,e⟩:=I.hok l _ hH;exact⟨z,its,n,r,r.length,e⟩
theorem zog {n:Nat}(h:n<=sizeLine):Builtin.List.listTooLong n=false:=by unfold Builtin.List.listTooLong;exact Jd (by lia)
def zps:V->List V->Hp->VK->Prop:=λx vs H Q=>∃l xs y,x=.ref l/\vs=[y]/\H l=some (.lst xs)/\xs.length < sizeLine/\Q .non (upd H l (.lst (xs++ [y])))
def zgY:MtM X "list.append" zps:=by intro pins s σ H x vs v us Q I rx rv h;obtain⟨l,xs,y,rfl,rfl,hH,hz,q⟩:=h;cases rx;obtain⟨u,rfl,ru⟩:=rv.one;obtain⟨z,its,n,r,hl,e⟩:=I.lstM hH;refine call_meets F.slot_list_append ⟨_,e,rfl⟩ F.entry_list_append (F.args_list_append_2 _ _) (PySem.list_append l its.toArray n u (by rw[JG];lia)) ⟨e,?_⟩;refine⟨.non,_,I.lset (its':=its++ [u]) hH e (by simp) (r.append (.cons ru .nil)) ?_,rfl,q⟩;rw[JI,List.length_singleton];lia
def zpk:V->List V->Hp->VK->Prop:=λx vs H Q=>∃l b xs zs,x=.ref l/\vs=[.ref b]/\H l=some (.lst xs)/\H b=some (.lst zs)/\xs.length+zs.length<=sizeLine/\Q .non (upd H l (.lst (xs++zs)))
def zlD:MtM X "list.extend" zpk:=by
 intro pins s σ H x vs v us Q I rx rv h;obtain⟨l,b,xs,zs,rfl,rfl,hH,hB,hz,q⟩:=h;cases rx;obtain⟨u,rfl,ru⟩:=rv.one;cases ru;obtain⟨z,its,n,r,hl,e⟩:=I.lstM hH;obtain⟨z2,its2,n2,r2,hl2,e2⟩:=I.lstM hB;have hsz:its.toArray.size+its2.toArray.size<=sizeLine:=by rw[JG,JG];lia
 have hlong:¬(!its.toArray.isEmpty && Builtin.List.listTooLong (its.toArray.size+its2.toArray.size))=true:=by rw[zog hsz,Bool.and_false];exact Jc
 refine call_meets F.slot_list_extend ⟨_,e,rfl⟩ F.entry_list_extend (F.args_list_extend_2 _ _)
  (AutoSeq1.list_extend_list_list_0 l its.toArray n b its2.toArray n2 hlong (by rw[JG];lia) (by lia)) ⟨e,e2,?_⟩
 refine⟨.non,_,I.lset (its':=its++its2) hH e (by simp) (r.append r2) ?_,rfl,q⟩;rw[JI];lia
def rPop:V->List V->Hp->VK->Prop:=λx vs H Q=>∃l xs y,x=.ref l/\vs=[]/\H l=some (.lst xs)/\xs[xs.length - 1]? =some y/\Q y (upd H l (.lst xs.dropLast))
def _root_.JZ:=@Array.getElem?_toList
def zrn:MtM X "list.pop" rPop:=by
 intro pins s σ H x vs v us Q I rx rv h;obtain⟨l,xs,y,rfl,rfl,hH,hy,q⟩:=h;cases rx;have hus:=rv.zero;subst hus;obtain⟨z,its,n,r,hl,e⟩:=I.lstM hH;obtain⟨u,hu,ru⟩:=r.get hy;have hy':its.toArray[its.toArray.size - 1]? =some u:=by show its.toArray[its.length - 1]? =some u;rw[<-JZ,<-hl];exact hu
 refine call_meets F.slot_list_pop ⟨_,e,rfl⟩ F.entry_list_pop (F.args_list_pop_1 _) (MeetsSeq.list_pop_last l its.toArray n u hy' (by rw[JG];lia)) ⟨e,?_⟩;refine⟨y,_,I.lset (its':=its.dropLast) hH e ?_ r.dropLast ?_,ru,q⟩
 ·show its.toArray.eraseIdxIfInBounds (its.toArray.size - 1)=its.dropLast.toArray;rw[JG,List.eraseIdxIfInBounds_toArray,zjV]
 ·rw[List.length_dropLast];lia
def rCat:R2:=λx y H Q=>∃l b xs zs,x=.ref l/\y=.ref b/\H l=some (.lst xs)/\H b=some (.lst zs)/\xs.length+zs.length<=sizeLine/\∀p,H p=none->Q (.ref p) (upd H p (.lst (xs++zs)))
def zoA:OpR X (binaryOp .Add) rCat:=by
 intro pins s σ H x y v u Q I rx ry h;obtain⟨l,b,xs,zs,rfl,rfl,hH,hB,hz,q⟩:=h;cases rx;cases ry;obtain⟨z,its,n,r,hl,e⟩:=I.lstM hH;obtain⟨z2,its2,n2,r2,hl2,e2⟩:=I.lstM hB;refine PySem.P.add_list e e2 ?_ (by rw[JG,JG];lia);have ea:its.toArray++its2.toArray=(its++its2).toArray:=by simp
 rw[ea];exact⟨.ref _,_,I.lnew (t':=s.toks) (r.append r2) (by rw[JI];lia),rfl,q _ I.fresh⟩
variable {prog:Program}{w:World}{A:Around}{E:QC}
end
end L2
namespace Att
open PySem PySem.W PySem.Calls PyProof.Rows
def zeN:∀(ns:List Int)(vs:QO),WellAll P h vs (ns.map WData.int)->IntsAre vs ns:=by
 intro ns
 induction ns with
 | nil=>intro vs w;rw[List.map_nil] at w;cases w;exact .nil
 | cons n ns ih=>
  intro vs w;rw[JS] at w;cases w with
  | cons a b=>cases a;exact .cons _ _ (ih _ b)
def zlH {l:OpenLaw}{n:Nat}(hn:l.most=some n){args:List WData}
  (hpre:l.row.toRowW.claim.pre args=true) (hwl:WellAll P h vals args):
  ∃a vs ns,vals=[Value.ref a]/\args=[WData.list (ns.map WData.int)]/\h.get? a=some {cls:=.type "list",data:=.seq vs.toArray}/\IntsAre vs ns/\ns.length<=n:=by
 have hsh:WShape.hasAll [] args [.list .int]=true:=(pre_splitW hpre).1;have hc:l.pre.holds [] {args:=args}=true:=(pre_splitW hpre).2;obtain⟨d,r,rfl,h1,h2⟩:=hasAllW_cons hsh;obtain rfl:=hasAllW_nil h2;obtain⟨xs,rfl,h3⟩:=hasW_list h1;obtain⟨ns,rfl⟩:=items_int h3;have hlen:ns.length<=n:=by
  unfold OpenLaw.pre at hc;have h4:(WTm.not (.lt (.lit (.int (n:Int))) (.len (.arg 0)))).holds [] {args:=[.list (ns.map .int)]}=true:=by have h4:=(holds_andW hc).1;rw[hn] at h4;exact h4
  have h5:=condW_of h4 (w_not (w_lt w_lit (w_len_list (w_arg rfl))));rw[JE] at h5;refine Nat.le_of_not_lt λq=>?_;have q':(n:Int) < ((ns.length:Nat):Int):=by lia
  first
   | (rw[decide_eq_true q'] at h5;exact Jf h5 (by decide))
   | (simp at h5;lia)
 cases hwl with
 | cons w1 w2=>
  cases w2;cases w1 with
  | list ho hall=>exact⟨_,_,ns,rfl,rfl,ho,zeN ns _ hall,hlen⟩
def zmb (l:OpenLaw)(args:List WData):l.row.toRowW.claim.post args (.bool true) args=true:=
 postW_of (r:=l.row.toRowW) (X:=(true==true))
  (show WShape.has [] (.bool true) .bool=true by first | rfl | decide | simp[WShape.has,WShape.arms,WShape.armsAll])
  (show(WTm.eq .res (.lit (.bool true))).value [] {args:=args,res:=some (.bool true),after:=args}=some (.bool (true==true)) from w_eq_bool (w_res rfl) w_lit) rfl
def attach_call {l:OpenLaw}{n:Nat}{YP:World->Heap->Prop}{d:DefRec}
  (hn:l.most=some n) (hdf:d.params.defaults=[])
  (call:∀(w:World)(s₀ s₁:Shared)(mg mb:QB)(fa:Addr)(o:Obj)(pm cd doc:Value)(a:Addr)(vs:QO)(ns:List Int),
   Ground q loose [] XP w s₀ mg mb s₁.heap->YP w s₁.heap->
   s₁.heap.get? fa=some o->o.data=.func (docDef d.name d.params d.body d.scope pm cd doc)->s₁.heap.CodeRec cd d.name->mg d.name=some (.ref fa)->
   s₁.heap.get? a=some {cls:=.type "list",data:=.seq vs.toArray}->IntsAre vs ns->ns.length<=n->s₁.gens= #[]->
   codeAny (model l.prog w) callerA (.call (.ref fa) ⟨[.ref a],[]⟩) (λr s'=>r=.ok (.ret (.bool true))/\OldK s₁.heap s'.heap/\s'.os=s₁.os/\AllBare s'.gens) s₁):
  WalkO q loose XP YP l.row.toRowW d [] (λf vs=>PySem.call f vs):=by
 intro w s₀ s₁ mg mb G Y fa o pm cd doc dV kV ho hd hcd hD hmg hg args vals as hpre hlay hrd hwl hlo;obtain rfl:dV=.none:=Dflts.none hD hdf;obtain rfl:kV=.none:=Dflts.noKw hD;obtain⟨a,vs,ns,rfl,rfl,hobj,hints,hlen⟩:=zlH hn hpre hwl;refine enter_call (codeAny_mono (call w s₀ s₁ mg mb fa o pm cd doc a vs ns G Y ho (fd_plain hd) hcd hmg hobj hints hlen hg) λr s' hq=>?_);obtain⟨rfl,h2,h3,h4⟩:=hq;exact⟨.inl ⟨.bool true,.bool true,[],rfl,λ_=>rfl,.bool true,zmb l _,λ_=>⟨List.Pairwise.nil,λ_ hm=>(nomatch hm)⟩⟩,h2,h3,h4⟩
section
variable {prog:Program}{w:World}{A:Around}{E:QC}{s:Shared}{K:Frag}
end
end Att
namespace L2
open PySem PySem.Spec PyProof.Rows
theorem zea:∀{vs:QO}{ns:List Int},IntsAre vs ns->Vals (ns.map V.int) vs
 | _,_,.nil=>.nil
 | _,_,.cons n t h=>.cons ⟨t,rfl⟩ (zea h)
def Only (H:Hp):Prop:=∀b,H b=none\/∃o xs,H b=some (.frz o (.lst xs))
def zm3 {K:QA}{mg mb:QB}{a:Addr}{x:Str}{s₁:Shared}{vs:QO}
  (KX:K.In s₁.heap) (hns:s₁.heap.Ns mainGlobals mg) (hb:s₁.heap.Ns builtinsNs mb) (hbb:∀x:Str,x≠ "__name__" ->mb x=bootBuiltins x) (hlim:s₁.heap.NoLimit) (hg:s₁.gens= #[])
  (ha:s₁.heap.get? a=some {cls:=.type "list",data:=.seq vs.toArray}) (hi:IntsAre vs ns) (hl:ns.length<=sizeLine) (hr:Room k callerA)
  (F:∀base:Heap,K.In base->base.Ns mainGlobals mg->FnOk P w K mg base CX k fa fd [x] sp) (hbind:∀(s:Shared)(u:Value),BindsTo s fd ⟨[u],[]⟩ [(x,u)])
  (hsp:∀H:Hp,Only H->SqL K H a (ns.map V.int)->sp [.ref a] H (λv _=>v=.bl true) λ_ _ _=>False)
  (hCX:∀H e s',CX [] H s₁ (λ_ _ _=>False) e s'->False):
  codeAny (model P w) callerA (.call (.ref fa) ⟨[.ref a],[]⟩) (λr s'=>r=.ok (.ret (.bool true))/\OldK s₁.heap s'.heap/\s'.os=s₁.os/\AllBare s'.gens) s₁:=by
 have rv:=zea hi;have lenV:=hi.length
 have core:∀H:Hp,Only H->SqL K H a (ns.map V.int)->HOk P w H s₁.heap->(∀b,H b≠none->b=a)->(H a≠none->K.lookup a=none)->
   codeAny (model P w) callerA (.call (.ref fa) ⟨[.ref a],[]⟩) (λr s'=>r=.ok (.ret (.bool true))/\OldK s₁.heap s'.heap/\s'.os=s₁.os/\AllBare s'.gens) s₁:=by
  intro H hO hS hok hA hK;have base_of:∀{b:Addr}{o:Obj},s₁.heap.get? b=some o->H b=none->(hidT s₁.heap H).get? b=some o:=λe n=>zos e n;have noA:∀{b:Addr}{o:Obj}{es:Array DictEntry}{ep:Nat},s₁.heap.get? b=some o->o.data=.dict es ep->H b=none:=λ{b o es ep} e d=>by
   cases q:H b with
   | none=>rfl
   | some u=>have e':b=a:=hA b (by rw[q];simp);subst e';rw[ha] at e;cases e;have d':Data.seq vs.toArray _=Data.dict es ep:=d;cases d'
  have nsK:∀{b:Addr}{m:QB},s₁.heap.Ns b m->(hidT s₁.heap H).Ns b m:=λ{b m} ⟨o,es,ep,e,d,r⟩=>⟨o,es,ep,base_of e (noA e d),d,r⟩;have hKb:K.In (hidT s₁.heap H):=λb o e=>base_of (KX b o e) (by
   cases q:H b with
   | none=>rfl
   | some u=>have e':b=a:=hA b (by rw[q];simp);subst e';rw[hK (by rw[q];simp)] at e;cases e)
  have hM:Mod K mg (hidT s₁.heap H):=⟨hKb,nsK hns,⟨mb,nsK hb,hbb⟩,let ⟨mc,h1,h2⟩:=hlim;⟨mc,nsK h1,h2⟩⟩
  have e0:Env0 P w K mg (hidT s₁.heap H) callerA [] s₁ H:=⟨rfl,hM,λb o e=>zpD e,Nat.le_of_eq (zlU _ _),trivial,λb hb=>Jf (show b∈([]:QP) from hb) (by simp),hok,.of_eq hg⟩;refine codeAny_mono ((F _ hKb (nsK hns)).run callerA [] s₁ H ⟨[.ref a],[]⟩ [.ref a] [.ref a] _ _ hr e0 (hbind s₁ (.ref a)) (.cons rfl .nil) (hsp H hO hS)) λr s' h=>?_;cases r with
  | error e=>exact(hCX H e s' h).elim
  | ok fl=>
   cases fl with
   | next=>exact False.elim h
   | brk=>exact False.elim h
   | cont=>exact False.elim h
   | ret u=>
    obtain⟨v,H',os,bare,un,hok',r',q⟩:=h;have q':v=.bl true:=q;subst q';obtain rfl:u=Value.bool true:=r';refine⟨rfl,OldK.of_keep λb o e=>?_,os,bare⟩;cases q:H b with
    | none=>exact un.keep b o e q (by intro z;exact Jf (show b∈([]:QP) from z) (by simp)) (by simp)
    | some u=>
     rcases hO b with z | ⟨ob,xs,z⟩
     ·rw[q] at z;cases z
     ·have z2:=un.frzs b ob _ z;obtain⟨e1,_⟩:=hok b _ z;obtain⟨e2,_⟩:=hok' b _ z2;rw[e] at e1;cases e1;exact e2
 cases hk:K.lookup a with
 | some o=>
  have e:=KX a o hk;rw[ha] at e;cases e;refine core (λ_=>none) (λ_=>.inl rfl) (.inr ⟨_,vs.toArray,_,hk,rfl,rfl,rfl,by rw[JG,lenV];exact hl,by simpa using rv⟩) (λb u z=>by have z':(none:Option HO)=some u:=z;cases z') (λb z=>Jf rfl z) λz=>Jf rfl z
 | none=>
  refine core (λb=>if b=a then some (.frz {cls:=.type "list",data:=.seq vs.toArray} (.lst (ns.map V.int))) else none) (λb=>?_) (.inl (.inr ⟨{cls:=.type "list",data:=.seq vs.toArray},if_pos rfl⟩)) (λb u z=>?_) (λb z=>?_) λ_=>hk
  ·by_cases hb:b=a
   ·exact .inr ⟨_,_,if_pos hb⟩
   ·exact .inl (if_neg hb)
  ·by_cases hb:b=a
   ·have z':=(if_pos hb).symm.trans z;cases z';subst hb;exact⟨ha,by rw[JE];exact hl,vs,_,rv,ha⟩
   ·have z':=(if_neg hb).symm.trans z;cases z'
  ·by_cases hb:b=a
   ·exact hb
   ·exact Jf (if_neg hb) z
abbrev KOf {K:QA}{h:Heap}(_:K.In h):QA:=K
def zqg {l:PySem.W.OpenLaw}{n:Nat}{YP:World->Heap->Prop}{d:DefRec}{K:Params->QA}{CX:World->CXT}{sp:World->Sp}{x:Str}
  (hn:l.most=some n) (hn2:n<=sizeLine) (hdf:d.params.defaults=[]) (hr:Room k callerA)
  (hY:∀(w:World)(h:Heap),YP w h->(K w.params).In h)
  (F:∀(w:World)(mg:QB)(fa:Addr)(h:Heap),(K w.params).In h->h.Ns mainGlobals mg->mg d.name=some (.ref fa)->
   ∃fd:FuncData,(∀(s:Shared)(u:Value),BindsTo s fd ⟨[u],[]⟩ [(x,u)])/\
    ∀base:Heap,(K w.params).In base->base.Ns mainGlobals mg->FnOk l.prog w (K w.params) mg base (CX w) k fa fd [x] (sp w))
  (hsp:∀(w:World)(H:Hp)(a:Addr)(ns:List Int),ns.length<=n->Only H->SqL (K w.params) H a (ns.map V.int)->sp w [.ref a] H (λv _=>v=.bl true) λ_ _ _=>False)
  (hCX:∀(w:World)(H:Hp)(s:Shared)(e:Value)(s':Shared),CX w [] H s (λ_ _ _=>False) e s'->False):
  PySem.W.WalkO q loose XP YP l.row.toRowW d [] (λf vs=>PySem.call f vs):=by
 refine Att.attach_call hn hdf λw s₀ s₁ mg mb fa o pm cd doc a vs ns G Y ho hd hcd hmg hobj hints hlen hg=>?_;have KX:=hY w _ Y;obtain⟨fd,hb,hF⟩:=F w mg fa _ KX G.T.g hmg;exact zm3 KX G.T.g G.T.b G.T.builtins G.T.nolimit hg hobj hints (Jg hlen hn2) hr hF hb (λH hO hS=>hsp w H a ns hlen hO hS) λH e s'=>hCX w H s₁ e s'
abbrev CX0:CXT:=λ_ _ _ _ _ _=>False
abbrev E0:XK:=λ_ _ _=>False
def ziT:zas CX0 X E0:=λ_ _ _ _ _ _ _ h=>h.elim
structure Fun (K:QA)(x qual:Str)(st:Stmt)(f:Addr)(fd:FuncData):Prop where
 ex:∃(oc:Value)(od:QN)(kV doc pm:Value)(an:QN)(cdv ct:Value)(osl:QJ),
  fd=PySem.W.fnOf x qual (zI st) (zD st) (zo st) .none kV doc pm an cdv ct/\K.lookup f=some ⟨oc,od,.func fd,osl⟩/\PySem.W.codeIn K cdv qual=true
 kp:PySem.W.keepIn K (.ref f)=true
section
variable {P:Program}{w:World}{K:QA}{mg:QB}{base:Heap}
def Fun.ok {x qual:Str}{st:Stmt}{f:Addr}{fd:FuncData}{N ps:QQ}{k:Nat}{sp:Sp}(F:Fun K x qual st f fd)(S:zaj N ps (zo st))(len:∀vs H Q E,sp vs H Q E->vs.length=ps.length)
  (hbody:∀(cdv:Value)(A:Around)(outer:List Env)(s:Shared)(H:Hp)(vs:QR)(Q:VK)(E:XK),Room k (A.deeper (envOfC qual (zo st) s.heap.objs.size f cdv))->sp vs H Q E->
   ∃t,PSs (cxOf CX0 P w K mg base N qual (zo st) f cdv A outer s H E).nox (zD st) t/\t {nx:=λ_ H'=>Q .non H',rt:=Q} (start N vs) H):FnOk P w K mg base CX0 (k+1) f fd ps sp:=by
 obtain⟨oc,od,kV,doc,pm,an,cdv,ct,osl,rfl,lk,hcd⟩:=F.ex;refine zq3 lk hcd S len λA outer s H vs Q E hr hsp=>?_;obtain⟨t,h,q⟩:=hbody cdv A outer s H vs Q E hr hsp;exact⟨t,h.nox,q⟩
def Fun.binds {x qual:Str}{st:Stmt}{f:Addr}{fd:FuncData}{ps:QQ}(F:Fun K x qual st f fd)
  (h:∀(kV doc pm:Value)(an:QN)(cdv ct:Value)(us:QO),us.length=ps.length->bindArgs (PySem.W.fnOf x qual (zI st) (zD st) (zo st) .none kV doc pm an cdv ct) ⟨us,[]⟩=pure (ps.zip us)):Binds K fd ps []:=by
 obtain⟨oc,od,kV,doc,pm,an,cdv,ct,osl,rfl,lk,hcd⟩:=F.ex;exact .all (h kV doc pm an cdv ct)
def za9 {x qual:Str}{st:Stmt}{f:Addr}{oc:Value}{od an:QN}{osl:QJ}{kV doc pm cdv ct:Value}(l:K.lookup f=some ⟨oc,od,.func (PySem.W.fnOf x qual (zI st) (zD st) (zo st) .none kV doc pm an cdv ct),osl⟩)
  (c:PySem.W.codeIn K cdv qual=true) (k:PySem.W.keepIn K (.ref f)=true):Fun K x qual st f (PySem.W.fnOf x qual (zI st) (zD st) (zo st) .none kV doc pm an cdv ct):=⟨⟨oc,od,kV,doc,pm,an,cdv,ct,osl,rfl,l,c⟩,k⟩
end
def _root_.Jx:=@Nat.lt_of_le_of_lt
def zqN (hr:Room k A):A.units+1 < cLine:=Jx (Nat.add_le_add_left (by decide:1<=64) _) hr.units
def zlX {n:Nat}(h:n<=1000):n < sizeLine:=Jx h (by decide)
section
variable {X:Cx}
def pv (i:Nat){x:Str}{pos:Pos}(hN:X.N[i]? =some x:=by rfl)(hv:Vis X.env.scope x:=by first | exact Or.inl rfl | exact Or.inr (Or.inl rfl) | exact Or.inr (Or.inr rfl))(hd:(x==("__debug__" :Str))=false:=by decide)
  (hcd:(x==("__classdict__" :Str))=false:=by decide):PE X (.Name x pos) (tVar i):=zrv hN hv hd hcd
end
def Same (H H':Hp):Prop:=∀b o,H b=some o->H' b=some o
def Same.refl (H:Hp):Same H H:=λ_ _ h=>h
theorem Same.trans (a:Same H H1)(b:Same H1 H2):Same H H2:=λc o h=>b c o (a c o h)
theorem Same.free (e:Same H H'){l:Addr}(h:H' l=Option.none):H l=Option.none:=by
 cases q:H l with
 | none=>rfl
 | some o=>rw[e l o q] at h;cases h
section
variable {κ:Type} [DecidableEq κ]
def valV (kvs:List (κ ×V))(k:κ):Option V:=(kvs.find? λkv=>decide (kv.1=k)).map (·.2)
def putK (kvs:List (κ ×V))(k:κ)(v:V):List (κ ×V):=
 if (kvs.any λkv=>decide (kv.1=k))=true then kvs.map (λkv=>if kv.1=k then(kv.1,v) else kv) else kvs++ [(k,v)]
def _root_.Ni:=@List.find?_cons
theorem zdt {p:κ ×V}{r:List (κ ×V)}{k:κ}(e:p.1=k):valV (p::r) k=some p.2:=by simp[valV,Ni,e]
theorem ze8 {p:κ ×V}{r:List (κ ×V)}{k:κ}(e:¬p.1=k):valV (p::r) k=valV r k:=by simp[valV,Ni,e]
theorem zfz (k:κ):∀kvs:List (κ ×V),(kvs.any λkv=>decide (kv.1=k))=(valV kvs k).isSome
 | []=>rfl
 | p::r=>by
  rw[List.any_cons];by_cases e:p.1=k
  ·simp only[zdt e,decide_eq_true e,Bool.true_or,Option.isSome_some]
  ·rw[ze8 e,Jd e,Bool.false_or];exact zfz k r
def _root_.Nx:=@List.length_nil
def zex (kvs:List (κ ×V))(k:κ)(v:V):(putK kvs k v).length<=kvs.length+1:=by
 unfold putK;split
 ·rw[JE];lia
 ·rw[JI,JK,Nx];lia
theorem zob {kvs:List (κ ×V)}{k:κ}(v:V)(h:valV kvs k=none):putK kvs k v=kvs++ [(k,v)]:=by unfold putK;rw[zfz,h];exact if_neg (by decide)
theorem RelO.isSome_eq (r:RelO o u):o.isSome=u.isSome:=by
 cases o with
 | none=>cases u with
  | none=>rfl
  | some _=>exact(show False from r).elim
 | some _=>cases u with
  | none=>exact(show False from r).elim
  | some _=>rfl
theorem KV.val (r:KV kvs vs)(k:κ):RelO (valV kvs k) (valueAt vs k):=by
 unfold KV at r
 induction r with
 | nil=>exact True.intro
 | @cons p q ps qs h t ih=>
  obtain⟨h1,h2⟩:=h;by_cases e:p.1=k
  ·have e':q.1=k:=h1.symm.trans e;have b:valueAt (q::qs) k=some q.2:=by simp[valueAt,Ni,e']
   rw[zdt e,b];exact h2
  ·have e':¬q.1=k:=λz=>e (h1.trans z);have b:valueAt (q::qs) k=valueAt qs k:=by simp[valueAt,Ni,e']
   rw[ze8 e,b];exact ih
theorem KV.any (r:KV kvs vs)(k:κ):(kvs.any λkv=>decide (kv.1=k))=vs.any λkv=>decide (kv.1=k):=by
 unfold KV at r
 induction r with
 | nil=>rfl
 | cons h t ih=>rw[List.any_cons,List.any_cons,ih,h.1]
def KV.repl (r:KV kvs vs)(k:κ)(ry:RelV y u):
  KV (kvs.map λkv=>if kv.1=k then(kv.1,y) else kv) (vs.map λkv=>if kv.1=k then(kv.1,u) else kv):=by
 unfold KV at r ⊢
 induction r with
 | nil=>exact .nil
 | @cons p q ps qs h t ih=>
  rw[JS,JS];refine .cons ?_ ih;obtain⟨h1,h2⟩:=h;by_cases e:p.1=k
  ·rw[if_pos e,if_pos (h1.symm.trans e)];exact⟨h1,ry⟩
  ·rw[if_neg e,if_neg (λz=>e (h1.trans z))];exact⟨h1,h2⟩
def KV.put (r:KV kvs vs)(k:κ)(ry:RelV y u):KV (putK kvs k y) (stored vs k u):=by
 unfold putK stored;rw[r.any k];by_cases e:(vs.any λkv=>decide (kv.1=k))=true
 ·rw[if_pos e,if_pos e];exact r.repl k ry
 ·rw[if_neg e,if_neg e];exact Paired.snoc r ⟨rfl,ry⟩
theorem KV.length (r:KV kvs vs):kvs.length=vs.length:=Paired.length r
end
def zi6 (r:RelV (kV k) u):(zac P w).is k u=true:=by
 cases k with
 | inl i=>obtain⟨t,e⟩:=(show∃t,u=Value.int i t from r);subst e;exact ziG P w i t
 | inr x=>obtain⟨t,e⟩:=(show∃t,u=Value.str x t from r);subst e;exact ziY P w x t
theorem zgL:∀{ks:List Key}{us:QO},Vals (ks.map kV) us->ItemsAre (zac P w) ks us
 | [],_,r=>by rw[List.map_nil] at r;cases r;exact .nil
 | k::ks,_,r=>by
  rw[JS] at r;cases r with
  | cons h t=>exact .cons (zi6 h) (zgL t)
abbrev KT (H:Hp):List (List Key ×V)->List (List Key ×Addr ×Value)->Prop:=Paired λp q=>p.1=q.1/\H q.2.1=some (.tup (p.1.map kV))/\RelV p.2 q.2.2
theorem KT.val (r:KT H kvs xs)(k:List Key):RelO (valV kvs k) ((atKey xs k).map (·.2)):=by
 induction r with
 | nil=>exact True.intro
 | @cons p q ps qs h t ih=>
  obtain⟨h1,_,h2⟩:=h;by_cases e:p.1=k
  ·have e':q.1=k:=h1.symm.trans e;have b:atKey (q::qs) k=some q.2:=by simp[atKey,Ni,e']
   rw[zdt e,b];exact h2
  ·have e':¬q.1=k:=λz=>e (h1.trans z);have b:atKey (q::qs) k=atKey qs k:=by simp[atKey,Ni,e']
   rw[ze8 e,b];exact ih
def KT.repl (r:KT H kvs xs)(k:List Key)(ry:RelV y u):
  KT H (kvs.map λkv=>if kv.1=k then(kv.1,y) else kv) (xs.map (putAt k u)):=by
 induction r with
 | nil=>exact .nil
 | @cons p q ps qs h t ih=>
  rw[JS,JS];refine .cons ?_ ih;obtain⟨h1,h2,h3⟩:=h;unfold putAt;by_cases e:p.1=k
  ·rw[if_pos e,if_pos (h1.symm.trans e)];exact⟨h1,h2,ry⟩
  ·rw[if_neg e,if_neg (λz=>e (h1.trans z))];exact⟨h1,h2,h3⟩
def KT.put (r:KT H kvs xs)(k:List Key){b:Addr}(hb:H b=some (.tup (k.map kV)))(ry:RelV y u):
  KT H (putK kvs k y) (storedH xs k b u):=by
 have e:(kvs.any λkv=>decide (kv.1=k))=(atKey xs k).isSome:=by rw[zfz,(r.val k).isSome_eq,Option.isSome_map]
 unfold putK storedH;rw[e];by_cases q:(atKey xs k).isSome=true
 ·rw[if_pos q,if_pos q];exact r.repl k ry
 ·rw[if_neg q,if_neg q];exact Paired.snoc r ⟨rfl,hb,ry⟩
def KT.keeps {H':Hp}(r:KT H kvs xs)(ht:∀b ys,H b=some (.tup ys)->H' b=some (.tup ys)):KT H' kvs xs:=
 Paired.mapP r λ_ _ z=>⟨z.1,ht _ _ z.2.1,z.2.2⟩
section
variable {P:Program}{w:World}{H:Hp}{h:Heap}{a:Addr}
def zra (ok:HOk P w H h)(e:Rd H a u):zA P w H h a u:=e.ok ok
def ziM {kvs:QG}(ok:HOk P w H h)(e:Rd H a (.dK kvs)):kvs.length<=sizeLine/\(a==sysModules)=false/\∃vs,KV kvs vs/\h.DictOf (zac P w) a vs:=
 show zA P w H h a (.dK kvs) from zra ok e
def ztq {kvs:QG}(ok:HOk P w H h)(e:H a=some (.dK kvs)):kvs.length<=sizeLine/\(a==sysModules)=false/\∃vs,KV kvs vs/\h.DictOf (zac P w) a vs:=ziM ok (.inl e)
def zfg {ks:List Key}(ok:HOk P w H h)(e:H a=some (.tup (ks.map kV))):(tupleKind (zac P w)).is h ks a:=by obtain⟨_,its,r,o,h1,h2,n,h3⟩:=(show zA P w H h a (.tup (ks.map kV)) from ok a _ e);exact⟨o,its.toArray,n,h1,h2,h3,by simpa using zgL r⟩
def ziC {kvs:List (List Key ×V)}(ok:HOk P w H h)(e:Rd H a (.dT kvs)):kvs.length<=sizeLine/\(a==sysModules)=false/\
  ∃xs,KT H kvs xs/\h.DictOfH (tupleKind (zac P w)) a xs:=by
 obtain⟨z,y,xs,r,o,es,ep,h1,h2,h3,h4,h5⟩:=(show zA P w H h a (.dT kvs) from zra ok e);refine⟨z,y,xs,r,o,es,ep,h1,h2,h3,h4,λx hx=>?_,h5⟩;have all:∀{l:List (List Key ×V)}{m:List (List Key ×Addr ×Value)},KT H l m->∀x∈m,(tupleKind (zac P w)).is h x.1 x.2.1:=by
  intro l m q
  induction q with
  | nil=>intro x hx;exact nomatch hx
  | @cons p q ps qs hq t ih=>
   intro x hx;rcases JD.mp hx with e | hx
   ·subst e;exact zfg ok (by rw[<-hq.1];exact hq.2.1)
   ·exact ih x hx
 exact all r x hx
def zs9 {kvs:List (List Key ×V)}(ok:HOk P w H h)(e:H a=some (.dT kvs)):kvs.length<=sizeLine/\(a==sysModules)=false/\
  ∃xs,KT H kvs xs/\h.DictOfH (tupleKind (zac P w)) a xs:=ziC ok (.inl e)
end
def DGet (H:Hp)(a:Addr)(y:V)(r:Option V):Prop:=
 (∃kvs k,Rd H a (.dK kvs)/\y=kV k/\r=valV kvs k)\/∃kvs k b,Rd H a (.dT kvs)/\y=.ref b/\H b=some (.tup (k.map kV))/\r=valV kvs k
def DPut (H:Hp)(a:Addr)(y v:V)(H':Hp):Prop:=
 (∃kvs k,H a=some (.dK kvs)/\y=kV k/\kvs.length < sizeLine/\H'=upd H a (.dK (putK kvs k v)))\/
 ∃kvs k b,H a=some (.dT kvs)/\y=.ref b/\H b=some (.tup (k.map kV))/\kvs.length < sizeLine/\H'=upd H a (.dT (putK kvs k v))
theorem DGet.k {H:Hp}{a:Addr}{kvs:QG}{k:Key}(e:H a=some (.dK kvs)):DGet H a (kV k) (valV kvs k):=.inl ⟨kvs,k,.inl e,rfl,rfl⟩
theorem DPut.k {H:Hp}{a:Addr}{kvs:QG}{k:Key}{v:V}(e:H a=some (.dK kvs))(hl:kvs.length < sizeLine):DPut H a (kV k) v (upd H a (.dK (putK kvs k v))):=.inl ⟨kvs,k,e,rfl,hl,rfl⟩
section
variable {X:Cx}{pins:QE}{σ:St}{H:Hp}{s:Shared}{a:Addr}{y v:V}{u r:Value}{o:Option V}{A:Around}{E:QC}
def Inv.big (I:Inv X pins σ H s):sysModules < s.heap.objs.size:=by have h:mainGlobals < s.heap.objs.size:=(I.mod.glob.keeps I.bk).lt;exact Nat.lt_trans (by decide) h
def zl5 {Q:QC}(hu:A.units+1 < cLine)(I:Inv X pins σ H s)(g:DGet H a y (some v))(ry:RelV y u)(h:∀w' s',Inv X pins σ H s'->RelV v w'->Q w' s'):
  wpAny (model X.prog X.w) A (getItem (.ref a) u) Q E s:=by
 rcases g with ⟨kvs,k,e,ey,l⟩ | ⟨kvs,k,b,e,ey,eb,l⟩
 ·subst ey;obtain⟨z,hd,vs,rel,dd⟩:=ziM I.hok e;obtain⟨w',hw,rw'⟩:=RelO.some_of (v:=v) (o:=valueAt vs k) (by rw[l];exact rel.val k);exact wpAny_getItem_of (zi6 ry) dd.mapOf hw (h w' _ (I.tok _) rw')
 ·subst ey;cases (show u=Value.ref b from ry);obtain⟨z,hd,xs,rel,dd⟩:=ziC I.hok e;obtain⟨w',hw,rw'⟩:=RelO.some_of (v:=v) (o:=(atKey xs k).map (·.2)) (by rw[l];exact rel.val k);obtain⟨p,hp,hp2⟩:=Option.map_eq_some_iff.mp hw;refine wpAny_getItem_heap (tupleKind_room_in1 hu) (zfg I.hok eb) dd hp ?_;rw[hp2];exact h w' _ (I.tok _) rw'
def d_in {Q:QC}(hu:A.units+1 < cLine)(I:Inv X pins σ H s)(g:DGet H a y o)(ry:RelV y u)(h:∀s',Inv X pins σ H s'->Q (.bool o.isSome) s'):
  wpAny (model X.prog X.w) A (compareOp .In u (.ref a)) Q E s:=by
 rcases g with ⟨kvs,k,e,ey,l⟩ | ⟨kvs,k,b,e,ey,eb,l⟩
 ·subst ey;obtain⟨z,hd,vs,rel,dd⟩:=ziM I.hok e;refine wpAny_in_of (zi6 ry) hd dd.mapOf ?_;rw[<-(rel.val k).isSome_eq,<-l];exact h _ (I.tok _)
 ·subst ey;cases (show u=Value.ref b from ry);obtain⟨z,hd,xs,rel,dd⟩:=ziC I.hok e;refine wpAny_in_heap (tupleKind_room_in1 hu) (zfg I.hok eb) hd dd ?_;have q:=(rel.val k).isSome_eq;rw[Option.isSome_map] at q;rw[<-q,<-l];exact h _ (I.tok _)
def zpu {Q:QC}(hu:A.units+1 < cLine)(I:Inv X pins σ H s)(g:DGet H a y o)(ry:RelV y u)(h:∀s',Inv X pins σ H s'->Q (.bool (!o.isSome)) s'):
  wpAny (model X.prog X.w) A (compareOp .NotIn u (.ref a)) Q E s:=by
 rcases g with ⟨kvs,k,e,ey,l⟩ | ⟨kvs,k,b,e,ey,eb,l⟩
 ·subst ey;obtain⟨z,hd,vs,rel,dd⟩:=ziM I.hok e;refine wpAny_notIn_of (zi6 ry) hd dd.mapOf ?_;rw[<-(rel.val k).isSome_eq,<-l];exact h _ (I.tok _)
 ·subst ey;cases (show u=Value.ref b from ry);obtain⟨z,hd,xs,rel,dd⟩:=ziC I.hok e;refine wpAny_notIn_heap (tupleKind_room_in1 hu) (zfg I.hok eb) hd dd ?_;have q:=(rel.val k).isSome_eq;rw[Option.isSome_map] at q;rw[<-q,<-l];exact h _ (I.tok _)
def zdn {t':Nat}(I:Inv X pins σ H s)(mu:Mut (H a))(hs:Heap.SameBut a s.heap h')(he:∃q,h'.get? a=some q)(new:zA X.prog X.w (upd H a ob) h' a ob):
  Inv X pins σ (upd H a ob) {s with heap:=h',toks:=t'}:=
 I.write (x:=a) (e:=a) mu (.inl rfl) (λb q hb z=>(hs.2 b hb).trans z) he new
def zrG {h':Heap}{kvs:QG}(z:kvs.length<=sizeLine)(hd:(a==sysModules)=false)(rel:KV kvs vs)(dd:h'.DictOf (zac P w) a vs):
  zA P w H' h' a (.dK kvs):=⟨z,hd,vs,rel,dd⟩
def zlF {Q:QD}(hu:A.units+1 < cLine)(I:Inv X pins σ H s)(g:DPut H a y v H')(ry:RelV y u)(rv:RelV v r)(h:∀s',Inv X pins σ H' s'->Q () s'):
  wpAny (model X.prog X.w) A (setItem (.ref a) u r) Q E s:=by
 rcases g with ⟨kvs,k,e,ey,l,eH⟩ | ⟨kvs,k,b,e,ey,eb,l,eH⟩
 ·subst ey eH;obtain⟨z,hd,vs,rel,dd⟩:=ztq I.hok e;have hz:vs.length<=sizeLine:=by rw[<-rel.length];exact z
  have hl:(putK kvs k v).length<=sizeLine:=by have:=zex kvs k v;lia
  refine wpAny_setItem_pairs (hsz:=hz) (zi6 ry) dd λh' dd' hs=>h _ ?_;have he:∃q,h'.get? a=some q:=let ⟨q,_,_,hq,_⟩:=dd';⟨q,hq⟩;exact zdn I (by rw[e];exact True.intro) hs he (zrG hl hd (rel.put k rv) dd')
 ·subst ey eH;cases (show u=Value.ref b from ry);obtain⟨z,hd,xs,rel,dd⟩:=zs9 I.hok e;have hz:xs.length<=sizeLine:=by rw[<-Paired.length rel];exact z
  have hl:(putK kvs k v).length<=sizeLine:=by have:=zex kvs k v;lia
  refine wpAny_setItem_heap (hsz:=hz) (tupleKind_room_in1 hu) (zfg I.hok eb) dd λh' dd' hs=>h _ ?_;obtain⟨q,es,ep,hq,h2,h3,h4,_,h5⟩:=dd';refine zdn I (by rw[e];exact True.intro) hs ⟨q,hq⟩ ⟨hl,hd,_,(rel.put k eb rv).keeps λc ys ec=>?_,q,es,ep,hq,h2,h3,h4,h5⟩;rw[zc (zR ec e (λz=>nomatch z))];exact ec
variable {kvs:QG}{k:Key}
end
def NoSl (i:Expr):Prop:=∀ov iv,subscripted i false ov iv=operate [ov,iv] (getItem ov iv)
def zlm {pos:Pos}{T id:String}
  (hl:typeLookup (.type T) "__getitem__" =pure (some (.builtin id))) (hs:NoSl slice)
  (h:wpAny (model prog w) A (eval value env) (λo s₁=>wpAny (model prog w) A (eval slice env) (λi s₂=>s₂.TypeIs o T/\wpAny (model prog w) A (getItem o i) Q E s₂) E s₁) E s):
  wpAny (model prog w) A (eval (.Subscript value slice pos) env) Q E s:=by
 refine Subscript_ (wpAny_mono h (λo s₁ h₁=>wpAny_mono h₁ (λi s₂ h₂=>?_) λ_ _ x=>x) λ_ _ x=>x);obtain⟨hT,h₂⟩:=h₂;unfold subscriptTail;refine Ja ?_;rw[getitemInPython_of_ne hT.not_modules];refine Ja (wpAny_specialOf hT hl ?_);have fin:wpAny (model prog w) A (subscripted slice false o i) (λr s₃=>wpAny (model prog w) A (letTemporaryGo value o r >>=λ_=>pure r) Q E s₃) E s₂:=by rw[hs o i];exact wpAny_operating (wpAny_mono h₂ (λr s₃ h₃=>Ja (wpAny_letTemporaryGo (wpAny_pure h₃))) λ_ _ x=>x)
 first
  | exact wpAny_pure (Ja fin)
  | exact Ja (wpAny_pure (Ja fin))
  | exact Ja fin
def zit (I:Inv X pins σ H s)(g:DGet H a y o):s.TypeIs (.ref a) "dict" :=by
 rcases g with ⟨kvs,k,e,_,_⟩ | ⟨kvs,k,b,e,_,_,_⟩
 ·obtain⟨_,_,vs,_,dd⟩:=ziM I.hok e;exact dd.typeIs
 ·obtain⟨_,_,xs,_,dd⟩:=ziC I.hok e;exact dd.typeIs
def ztJ (td ty:TE):TE:=fun σ H Q=>td σ H λx H1=>ty σ H1 λy H2=>∃a v,x=.ref a/\DGet H2 a y (some v)/\Q v H2
def tDIn (ty td:TE):TE:=fun σ H Q=>ty σ H λy H1=>td σ H1 λx H2=>∃a o,x=.ref a/\DGet H2 a y o/\Q (.bl o.isSome) H2
def zpU (ty td:TE):TE:=fun σ H Q=>ty σ H λy H1=>td σ H1 λx H2=>∃a o,x=.ref a/\DGet H2 a y o/\Q (.bl (!o.isSome)) H2
def ztj (td ty tv:TE):TS:=λD σ H=>tv σ H λv H1=>td σ H1 λx H2=>ty σ H2 λy H3=>∃a H4,x=.ref a/\DPut H3 a y v H4/\D.nx σ H4
section
variable {X:Cx}{o i e value:Expr}{pos pos' tpos:Pos}{td ty tv:TE}
def zlp (hu:X.A.units+1 < cLine)(ho:PE X o td)(hi:PE X i ty)(hs:NoSl i):PE X (.Subscript o i pos) (ztJ td ty):=by intro pins s σ H Q I h;refine zlm PySem.F.slot_dict_getitem.lookup hs (thn (ho pins s σ H _ I h) λu s1 ⟨x,H1,I1,rx,q1⟩=>thn (hi pins s1 σ H1 _ I1 q1) λiv s2 ⟨y,H2,I2,ry,a,v,ex,g,q2⟩=>?_);subst ex;obtain rfl:u=Value.ref a:=rx;exact⟨zit I2 g,zl5 hu I2 g ry λw' s3 I3 rw'=>⟨v,H2,I3,rw',q2⟩⟩
def znX (hu:X.A.units+1 < cLine)(hi:PE X i ty)(ho:PE X o td):PC X .In i o (tDIn ty td):=by intro pins s σ H Q I h;refine thn (hi pins s σ H _ I h) λiv s1 ⟨y,H1,I1,ry,q1⟩=>thn (ho pins s1 σ H1 _ I1 q1) λu s2 ⟨x,H2,I2,rx,a,ov,ex,g,q2⟩=>?_;subst ex;obtain rfl:u=Value.ref a:=rx;exact d_in hu I2 g ry λs3 I3=>⟨.bl ov.isSome,H2,I3,rfl,q2⟩
def zgW (hu:X.A.units+1 < cLine)(hi:PE X i ty)(ho:PE X o td):PC X .NotIn i o (zpU ty td):=by intro pins s σ H Q I h;refine thn (hi pins s σ H _ I h) λiv s1 ⟨y,H1,I1,ry,q1⟩=>thn (ho pins s1 σ H1 _ I1 q1) λu s2 ⟨x,H2,I2,rx,a,ov,ex,g,q2⟩=>?_;subst ex;obtain rfl:u=Value.ref a:=rx;exact zpu hu I2 g ry λs3 I3=>⟨.bl (!ov.isSome),H2,I3,rfl,q2⟩
def zpl (hu:X.A.units+1 < cLine)(ho:PE X o td)(hi:PE X i ty)(hv:PE X value tv)(hs:swapsWith value (some (.Subscript o i pos')) pos.line X.env=pure false):
  PS X (.Assign [.Subscript o i pos'] value pos) (ztj td ty tv):=by
 intro pins s σ H D I h;refine wpAny_Assign_Subscript (thn (hv pins s σ H _ I h) λr s1 ⟨v,H1,I1,rv,q1⟩=>thn (ho pins s1 σ H1 _ I1 q1) λu s2 ⟨x,H2,I2,rx,q2⟩=>thn (hi pins s2 σ H2 _ I2 q2) λiv s3 ⟨y,H3,I3,ry,a,H4,ex,g,q3⟩=>?_) hs;subst ex;obtain rfl:u=Value.ref a:=rx;exact zlF hu I3 g ry rv λs4 I4=>⟨σ,H4,I4,q3⟩
end
def zoy (h:Heap)(hb:sysModules < h.objs.size):zA P w H (h.push {cls:=.type "dict",data:=.dict #[]}) h.objs.size (.dK []):=
 ⟨JM _,beq_eq_false_iff_ne.mpr (Ne.symm (Jk hb)),[],.nil,Heap.DictOf.new h⟩
def zrP:TE:=λ_ H Q=>∀p,H p=none->Q (.ref p) (upd H p (.dK []))
section
variable {X:Cx}{pos:Pos}
def zoI:PE X (.Dict [] [] pos) zrP:=λpins s σ H Q I h=>
 wpAny_Dict_empty ⟨.ref s.heap.objs.size,_,I.laid (a:=s.heap.objs.size) (o:=.dK []) (t':=s.toks) (λ_ _ q=>JC _ q) (Jb _) (zoy s.heap I.big),rfl,h _ (I.hok.fresh (Jb _))⟩
end
def zn8:List (TE ×TE)->St->Hp->(List (V ×V)->Hp->Prop)->Prop
 | [],_,H,Q=>Q [] H
 | (tk,tv)::r,σ,H,Q=>tk σ H λx H1=>tv σ H1 λy H2=>zn8 r σ H2 λps H3=>Q ((x,y)::ps) H3
abbrev VV:List (V ×V)->List (Value ×Value)->Prop:=Paired λp q=>RelV p.1 q.1/\RelV p.2 q.2
def PPs (X:Cx)(pos:Pos)(keys:List (Option Expr))(values:List Expr)(trs:List (TE ×TE)):Prop:=
 ∀(pins:QE)(s:Shared)(σ:St)(H:Hp)(Q:List (V ×V)->Hp->Prop),Inv X pins σ H s->zn8 trs σ H Q->
  wpAny (model X.prog X.w) X.A (evalPairs (pairTrees keys values X.env pos)) (λvs s'=>∃ps H',Inv X pins σ H' s'/\VV ps vs/\Q ps H') X.xe s
structure M1 (X:Cx)(o:Expr)(m:Str)(apos:Pos)(e:Expr)(cpos:Pos):Prop where
 base:attributeBase o m X.env (eval o X.env)=eval o X.env
 few:((backTo cpos (starEach [e] X.env)).all (λx=>!x.1) && (backToKw cpos (keywordEach [] X.env)).all (λx=>x.1.isSome)
  && decide (([e]:List Expr).length+([]:List Keyword).length+(if ([]:List Keyword).isEmpty then 0 else 1) < 30))=true
 line:(apos.endLine==cpos.line)=true
 trees:backTo cpos (starEach [e] X.env)=[(false,eval e X.env)]
structure M2 (X:Cx)(o:Expr)(m:Str)(apos:Pos)(e f:Expr)(cpos:Pos):Prop where
 base:attributeBase o m X.env (eval o X.env)=eval o X.env
 few:((backTo cpos (starEach [e,f] X.env)).all (λx=>!x.1) && (backToKw cpos (keywordEach [] X.env)).all (λx=>x.1.isSome)
  && decide (([e,f]:List Expr).length+([]:List Keyword).length+(if ([]:List Keyword).isEmpty then 0 else 1) < 30))=true
 line:(apos.endLine==cpos.line)=true
 trees:backTo cpos (starEach [e,f] X.env)=[(false,eval e X.env),(false,eval f X.env)]
section
variable {X:Cx}{pins:QE}{σ:St}{H:Hp}{s:Shared}{a:Addr}{y d:V}{u r:Value}{o:Option V}{A:Around}{E:QC}
end
section
variable {X:Cx}{o e f:Expr}{apos cpos:Pos}{td ty tx:TE}
variable {pins:QE}{σ:St}{H:Hp}{s:Shared}{a:Addr}{kvs:QG}{A:Around}{E:QC}
variable {y:V}{u:Value}
end
end L2
namespace Px
open PySem
def Tb (h:Heap)(e:Addr)(cls:Value)(od:QN)(T:Addr)(fl:Value):Prop:=
 ∃oe vs oT ts,h.get? e=some oe/\oe.cls=cls/\oe.dict=od/\oe.data=.fields vs/\vs[1]? =some (.ref T)/\T≠e/\h.get? T=some oT/\oT.data=.fields ts/\ts[3]? =some fl
structure Chg (fs:QP)(e T:Addr)(h h':Heap):Prop where
 size:h.objs.size<=h'.objs.size
 keep:∀b o,h.get? b=some o->b∉fs->b≠e->b≠T->h'.get? b=some o
 slot:∀b o,h.get? b=some o->b∈fs->b≠e->b≠T->∃sl,h'.get? b=some {o with slots:=sl}
def zrR (o:Obj)(f:Array Value->Array Value):(Obj.mapFields f o).cls=o.cls:=Obj.cls_mapFields _ _
def zqk (o:Obj)(f:Array Value->Array Value):(Obj.mapFields f o).dict=o.dict:=by obtain⟨c,d,dt,sl⟩:=o;cases dt <;> rfl
section
variable {M:Model}{A:Around}{E:QC}{s:Shared}{base:Heap}{env:Env}{outer:List Env}{L e T:Addr}
def _root_.Nc:=@PySem.Heap.size_after_update
def entry {oe:Obj}{vs:Array Value}{Q:QD}(hfr:A.frames=some (env::outer))
  (hl:s.heap.FunFrames base (env::outer)) (hf:env.frame=some L)
  (he:s.heap.get? e=some oe) (hd:oe.data=.fields vs) (hsz:1 < vs.size)
  (h:∀h' T',s.heap.objs.size<=T'->Tb h' e oe.cls oe.dict T' (rawInt L)->Chg ((env::outer).filterMap (·.frame)) e T' s.heap h'->Q () {s with heap:=h'}):
  wpAny M A (do
   let a<-frameOf env
   let pl<-entryPlaceOf L hadNext
   let b<-EntryCells.newEntry head a .none (rawInt L) .none pl
   setField (.ref e) 1 b) Q E s:=by
 have nfr:e∉(env::outer).filterMap (·.frame):=λhm=>by obtain⟨_,o,ho,hnf⟩:=hl.mem hm;have z:oe=o:=JO (he.symm.trans ho);exact hnf vs (by rw[<-z];exact hd)
 refine Ja (wpAny_frameOf_fun hfr hl hf λg x=>?_);refine Ja (wpAny_entryPlaceOf λpl hp=>?_);unfold EntryCells.newEntry newFields;refine Ja (wpAny_newObj_type ?_ (hp.sizeOk5 _ _ _ _ _));have ge:g.get? e=some oe:=(x.2.1 e nfr).trans he;generalize hN:({cls:=.type "traceback",dict:=none,data:=.fields ([head,.ref L,.none,rawInt L,.none]++(if pl.isEmpty then List.replicate 6 Value.none else pl)).toArray}:Obj)=N;have nfN:N.isFreed=false:=by rw[<-hN];rfl
 have dN:∃ts,N.data=.fields ts/\ts[3]? =some (rawInt L):=by rw[<-hN];exact⟨_,rfl,by first | (simp;done) | (rcases hp with rfl | ⟨_,_,_,_,_,_,_,rfl⟩ <;> simp)⟩
 have pe:(g.push N).get? e=some oe:=JC N ge;have pT:(g.push N).get? g.objs.size=some N:=JJ g nfN;have Te:g.objs.size≠e:=Ne.symm (Jk (JF ge));refine wpAny_setField pe hd hsz (h _ g.objs.size (by rw[x.1];exact Jb _) ?_ ?_)
 ·obtain⟨ts,d1,d2⟩:=dN;have dd:=Obj.data_mapFields hd (·.setIfInBounds 1 (Value.ref g.objs.size));refine⟨_,_,N,ts,JU _ pe (Obj.isFreed_of_fields dd),zrR _ _,zqk _ _,dd,by simp[hsz],Te,?_,d1,d2⟩;exact(JW _ _ (Ne.symm Te)).trans pT
 ·refine⟨?_,λb o q1 q2 q3 q4=>?_,λb o q1 q2 q3 q4=>?_⟩
  ·rw[Nc,J2,x.1];exact Nat.le_succ _
  ·exact(JW _ _ (Ne.symm q3)).trans (JC N ((x.2.1 b q2).trans q1))
  ·obtain⟨sl,q⟩:=x.2.2 b o q1;exact⟨sl,(JW _ _ (Ne.symm q3)).trans (JC N q)⟩
def _root_.J8:=@Array.getElem?_eq_some_iff
def ztr {oe:Obj}{vs:Array Value}{Q:QD}(hfr:A.frames=some (env::outer))(hl:s.heap.FunFrames base (env::outer))(hf:env.frame=some L)
  (he:s.heap.get? e=some oe) (hd:oe.data=.fields vs) (h1:vs[1]? =some .none)
  (h:∀h' T',s.heap.objs.size<=T'->Tb h' e oe.cls oe.dict T' (rawInt L)->Chg ((env::outer).filterMap (·.frame)) e T' s.heap h'->Q () {s with heap:=h'}):
  wpAny M A (noteFrame (.ref e) env) Q E s:=by
 unfold noteFrame;simp only[hf];refine Ja (wpAny_field he hd h1 ?_);rw[if_neg (by decide)];exact entry hfr hl hf he hd (J8.mp h1).1 h
def znK {Q:QD}(hfr:A.frames=some (env::outer))(hl:s.heap.FunFrames base (env::outer))(hf:env.frame=some L)
  (t:Tb s.heap e cls od T .none)
  (h:∀h' T',s.heap.objs.size<=T'->Tb h' e cls od T' (rawInt L)->Chg ((env::outer).filterMap (·.frame)) e T s.heap h'->Q () {s with heap:=h'}):
  wpAny M A (noteFrame (.ref e) env) Q E s:=by
 obtain⟨oe,vs,oT,ts,he,hc,ho,hd,h1,hTe,hT,hdT,h3⟩:=t;unfold noteFrame;simp only[hf];refine Ja (wpAny_field he hd h1 ?_);rw[if_pos (show(Value.ref T !=Value.none)=true from by simp)];refine Ja (wpAny_field hT hdT h3 ?_);rw[if_neg (show¬((Value.none==rawInt L)=true) from by simp[rawInt])];refine Ja (wpAny_setField hT hdT (J8.mp h3).1 ?_);have oth:∀b,b≠T->(s.heap.update T (Obj.mapFields (·.setIfInBounds 3 Value.none))).get? b=s.heap.get? b:=λb hb=>JW _ _ (Ne.symm hb);have apart:∀b o,s.heap.get? b=some o->(∀vs,o.data≠ .fields vs)->b≠T:=λb o hb hn q=>by subst q;exact hn ts (by rw[<-JO (hT.symm.trans hb)];exact hdT)
 refine entry (s:={s with heap:=s.heap.update T (Obj.mapFields (·.setIfInBounds 3 Value.none))}) hfr
  (hl.of_keeps λb o hb hn=>⟨o,(oth b (apart b o hb hn)).trans hb,rfl⟩) hf ((oth e (Ne.symm hTe)).trans he) hd (J8.mp h1).1 λh' T' z1 z2 z3=>?_
 have z1':s.heap.objs.size<=T':=by rw[<-Nc s.heap T (Obj.mapFields (·.setIfInBounds 3 Value.none))];exact z1
 rw[hc,ho] at z2;refine h h' T' z1' z2 ⟨?_,λb o q1 q2 q3 q4=>?_,λb o q1 q2 q3 q4=>?_⟩
 ·rw[<-Nc s.heap T (Obj.mapFields (·.setIfInBounds 3 Value.none))];exact z3.size
 ·exact z3.keep b o ((oth b q4).trans q1) q2 q3 λq=>Jf (JF q1) (Nat.not_lt.mpr (q ▸ z1'))
 ·exact z3.slot b o ((oth b q4).trans q1) q2 q3 λq=>Jf (JF q1) (Nat.not_lt.mpr (q ▸ z1'))
def zem {Q:QD}(t:Tb s.heap e cls od T fl)
  (h:∀h',Tb h' e cls od T .none->Chg fs e T s.heap h'->(∀b o,s.heap.get? b=some o->b≠T->h'.get? b=some o)->Q () {s with heap:=h'}):wpAny M A (setFlight (.ref e) none) Q E s:=by
 obtain⟨oe,vs,oT,ts,he,hc,ho,hd,h1,hTe,hT,hdT,h3⟩:=t;have z3:3 < ts.size:=(J8.mp h3).1;have oth:∀b,b≠T->(s.heap.update T (Obj.mapFields (·.setIfInBounds 3 ((none:QN).elim Value.none λf=>rawInt f)))).get? b=s.heap.get? b:=
  λb hb=>JW _ _ (Ne.symm hb)
 unfold setFlight;refine Ja (wpAny_field he hd h1 ?_);rw[if_pos (show(Value.ref T !=Value.none)=true from by simp)];have dd:=Obj.data_mapFields hdT (·.setIfInBounds 3 ((none:QN).elim Value.none λf=>rawInt f));refine wpAny_setField hT hdT z3 (h _ ⟨oe,vs,_,_,(oth e (Ne.symm hTe)).trans he,hc,ho,hd,h1,hTe,JU _ hT (Obj.isFreed_of_fields dd),dd,by simp[z3]⟩ ?_ ?_)
 ·refine⟨?_,λb o q1 _ _ q4=>(oth b q4).trans q1,λb o q1 _ _ q4=>⟨o.slots,(oth b q4).trans q1⟩⟩;rw[Nc];exact Jb _
 ·exact λb o q1 q4=>(oth b q4).trans q1
end
structure Chg2 (fs:QP)(own:Addr->Prop)(h h':Heap):Prop where
 size:h.objs.size<=h'.objs.size
 keep:∀b o,h.get? b=some o->b∉fs->¬own b->h'.get? b=some o
 slot:∀b o,h.get? b=some o->b∈fs->¬own b->∃sl,h'.get? b=some {o with slots:=sl}
def Chg.two {own:Addr->Prop}(c:Chg fs e T h h')(o1:own e)(o2:own T\/h.get? T=none):Chg2 fs own h h':=by
 have nT:∀b o,h.get? b=some o->¬own b->b≠T:=λb o q n z=>by
  subst z;rcases o2 with y | y
  ·exact n y
  ·rw[y] at q;cases q
 exact⟨c.size,λb o q a n=>c.keep b o q a (λz=>n (z ▸ o1)) (nT b o q n),λb o q a n=>c.slot b o q a (λz=>n (z ▸ o1)) (nT b o q n)⟩
theorem Chg2.trans (a:Chg2 fs own h h1)(b:Chg2 fs own h1 h2):Chg2 fs own h h2:=
 ⟨Jg a.size b.size,λc o q n m=>b.keep c o (a.keep c o q n m) n m,λc o q n m=>by obtain⟨s1,e1⟩:=a.slot c o q n m;obtain⟨s2,e2⟩:=b.slot c _ e1 n m;exact⟨s2,e2⟩⟩
section
variable {M:Model}{A:Around}{E:QC}{s:Shared}{base:Heap}{env:Env}{outer:List Env}{L e T:Addr}
def zso {oe:Obj}{vs:Array Value}{Q:QD}(hfr:A.frames=some (env::outer))(hl:s.heap.FunFrames base (env::outer))(hf:env.frame=some L)
  (he:s.heap.get? e=some oe) (hd:oe.data=.fields vs) (h1:vs[1]? =some .none)
  (h:∀h' T',s.heap.objs.size<=T'->Tb h' e oe.cls oe.dict T' .none->Chg2 ((env::outer).filterMap (·.frame)) (· =e) s.heap h'->Q () {s with heap:=h'}):
  wpAny M A (leaving env (.ref e)) Q E s:=by
 unfold leaving;refine Ja (ztr hfr hl hf he hd h1 λg T' z t c=>?_);refine zem (s:={s with heap:=g}) (fs:=(env::outer).filterMap (·.frame)) t λh' t' c' k=>h h' T' z t' ?_;have n:s.heap.get? T'=none:=JT z;refine⟨Jg c.size c'.size,λb o q a m=>?_,λb o q a m=>?_⟩
 ·have bT:b≠T':=λy=>by subst y;rw[n] at q;cases q
  exact k b o (c.keep b o q a m bT) bT
 ·have bT:b≠T':=λy=>by subst y;rw[n] at q;cases q
  obtain⟨sl,y⟩:=c.slot b o q a m bT;exact⟨sl,k b _ y bT⟩
def zrx {Q:QD}(hfr:A.frames=some (env::outer))(hl:s.heap.FunFrames base (env::outer))(hf:env.frame=some L)
  (t:Tb s.heap e cls od T .none)
  (h:∀h' T',s.heap.objs.size<=T'->Tb h' e cls od T' .none->Chg2 ((env::outer).filterMap (·.frame)) (λb=>b=e\/b=T) s.heap h'->Q () {s with heap:=h'}):
  wpAny M A (leaving env (.ref e)) Q E s:=by
 unfold leaving;refine Ja (znK hfr hl hf t λg T' z t1 c=>?_);refine zem (s:={s with heap:=g}) (fs:=(env::outer).filterMap (·.frame)) t1 λh' t' c' k=>h h' T' z t' ?_;have n:s.heap.get? T'=none:=JT z;refine⟨Jg c.size c'.size,λb o q a m=>?_,λb o q a m=>?_⟩
 ·have bT:b≠T':=λy=>by subst y;rw[n] at q;cases q
  exact k b o (c.keep b o q a (λy=>m (.inl y)) λy=>m (.inr y)) bT
 ·have bT:b≠T':=λy=>by subst y;rw[n] at q;cases q
  obtain⟨sl,y⟩:=c.slot b o q a (λy=>m (.inl y)) λy=>m (.inr y);exact⟨sl,k b _ y bT⟩
def zrc {Q:QD}(hfr:A.frames=some (env::outer))(hl:s.heap.FunFrames base (env::outer))(hf:env.frame=some L)
  (t:Tb s.heap e cls od T .none)
  (h:∀h' T',s.heap.objs.size<=T'->Tb h' e cls od T' .none->Chg2 ((env::outer).filterMap (·.frame)) (λb=>b=e\/b=T) s.heap h'->Q () {s with heap:=h'}):
  wpAny M A (noteFrame (.ref e) env) (λ_ s'=>wpAny M A (setFlight (.ref e) none) Q E s') E s:=by
 refine znK hfr hl hf t λg T' z t1 c=>?_;refine zem (s:={s with heap:=g}) (fs:=(env::outer).filterMap (·.frame)) t1 λh' t' c' k=>h h' T' z t' ?_;have n:s.heap.get? T'=none:=JT z;refine⟨Jg c.size c'.size,λb o q a m=>?_,λb o q a m=>?_⟩
 ·have bT:b≠T':=λy=>by subst y;rw[n] at q;cases q
  exact k b o (c.keep b o q a (λy=>m (.inl y)) λy=>m (.inr y)) bT
 ·have bT:b≠T':=λy=>by subst y;rw[n] at q;cases q
  obtain⟨sl,y⟩:=c.slot b o q a (λy=>m (.inl y)) λy=>m (.inr y);exact⟨sl,k b _ y bT⟩
end
end Px
namespace Px
open PySem PySem.W PySem.Builtin PySem.Builtin.ObjectAttr
abbrev bmV:List Value:=[.type "ValueError",.type "Exception",.type "BaseException",.type "object"]
def xIn (K:Frag)(C:Addr):Bool:=match K.lookup C with
 | some ⟨.type "type",_,.cls cd,sl⟩=>(match cd.mro,sl.toList with
  | .ref D::bm,[_,_,_,_,some (.builtin n),_]=>D==C && n== "ValueError.__new__" && !cd.hasDel && tailIn K bmV bm
  | _,_=>false)
 | _=>false
def _root_.Nk:=@Bool.and_eq_true
def zok {K:Frag}{h:Heap}(X:K.In h)(q:xIn K C=true):∃nm qn N bs bm hd sn sub ab col dd k0 k1 k2 k3 k5,
  h.get? C=some (excClassObj nm qn C N bs bm hd sn sub ab col dd k0 k1 k2 k3 k5 "ValueError.__new__")/\OwnTail h bmV bm:=by
 unfold xIn at q;split at q
 ·rename_i dd cd sl ho;split at q
  ·rename_i D bm k0 k1 k2 k3 n k5 hm hs;simp only[Nk,beq_iff_eq,Bool.not_eq_true'] at q;obtain⟨⟨⟨y1,y2⟩,y3⟩,y4⟩:=q;subst y1;subst y2;obtain⟨nm,bs,mro,ns,qn,hd,sn,sub,ab,col,del⟩:=cd;dsimp only at hm y3;subst hm;subst y3;have e:sl= #[k0,k1,k2,k3,some (.builtin "ValueError.__new__"),k5]:=by obtain⟨l⟩:=sl;exact congrArg Array.mk hs
   subst e;exact⟨nm,qn,ns,bs,bm,hd,sn,sub,ab,col,dd,k0,k1,k2,k3,k5,X _ _ ho,tail_of_in X y4⟩
  ·cases q
 ·cases q
abbrev zjH (C t:Addr):Obj:={cls:=.ref C,data:=.fields #[.ref t,.none,.none,.none,.bool false,.none]}
abbrev zsf (vs:QO):Obj:={cls:=.type "tuple",data:=.seq vs.toArray}
abbrev zaM (h:Heap)(C:Addr)(vs:QO):Heap:=(h.push (zsf vs)).push (zjH C h.objs.size)
def zbZ {h:Heap}{b:Addr}{o:Obj}(e:h.get? b=some o):(zaM h C vs).get? b=some o:=
 JC _ (JC _ e)
def zfK:(zaM h C vs).get? (h.objs.size+1)=some (zjH C h.objs.size):=
 Heap.get?_push_at (by rw[J2]) rfl
section
variable {prog:Program}{w:World}{A:Around}{E:QC}{h:Heap}{g:Array GenState}{d:Drawn}{t:Nat}{os:OsState}{K:Frag}{C fI:Addr}{vs:QO}
def zmu {Q:Fin->Shared->Prop}(X:K.In h)(q:xIn K C=true)(hi:findIn K (.ref C) "__init__" =some (some (.ref fI))) (hf:typeIn K (.ref fI)=some (.type "function"))
  (hq:wpAny (model prog w) A (call (.ref fI) (.ref (h.objs.size+1)::vs)) (λr s'=>r=.none/\Q (.done (.ret (.ref (h.objs.size+1)))) s') E ⟨zaM h C vs,g,d,t,os⟩) (hz:vs.length<=sizeLine):
  wpAny (model prog w) A (Builtin.«type.__call__» ⟨.ref C::vs,[]⟩) Q E ⟨h,g,d,t,os⟩:=by
 obtain⟨nm,qn,N,bs,bm,hd,sn,sub,ab,col,dd,k0,k1,k2,k3,k5,cO,tl⟩:=zok X q;have FV:=PySem.F.excBase_ValueError;have inV:bmV.contains (.type "ValueError")=true:=by decide
 repeat (first | with_reducible refine wpAny_loadPart_at cO ?_ | with_reducible refine wpAny_madeBy_exc cO ?_ | wp_step)
 refine codeAny_call_builtin_code (Code.quiet_builtin _ FV.quiet) (wpAny_check_new_subU FV inV tl cO ?_);refine codeAny_exc_new_subU FV inV FV tl cO ?_ hz;show wpAny _ _ _ _ _ _;have cO1:(zaM h C vs).get? C=_:=zbZ cO;have X1:K.In (zaM h C vs):=X.keeps λb o e=>zbZ e;have at1:(zaM h C vs).get? (h.objs.size+1)=some (zjH C h.objs.size):=zfK;have cC:(Value.ref C::bm).contains (.ref C)=true:=by simp
 unfold isInstance
 repeat (first | with_reducible refine wpAny_loadPart_at at1 ?_ | (with_reducible refine wpAny_isSubtype_exc cO1 ?_;rw[cC]) | wp_step)
 show wpAny _ _ (typeLookup (.ref C) _) _ _ _;refine(looks_findIn X1 hi).here (s:=⟨zaM h C vs,g,d,t,os⟩) ?_;refine wpAny_holding (Ja ((bind_fn X1 _ hf).here (s:=⟨zaM h C vs,g,d,t,os⟩) ?_));refine Ja (wpAny_mono hq (λr s' hr=>?_) λ_ _ x=>x);obtain⟨e1,hQ⟩:=hr;subst e1
 wp_walk
 exact hQ
def zmo {Q:QC}(X:K.In h)(q:xIn K C=true)(hi:findIn K (.ref C) "__init__" =some (some (.ref fI))) (hf:typeIn K (.ref fI)=some (.type "function"))
  (hq:wpAny (model prog w) (A.under (.builtin "type.__call__" ⟨.ref C::vs,[]⟩)) (call (.ref fI) (.ref (h.objs.size+1)::vs)) (λr s'=>r=.none/\Q (.ref (h.objs.size+1)) s') E ⟨zaM h C vs,g,d,t,os⟩)
  (hz:vs.length<=sizeLine):wpAny (model prog w) A (call (.ref C) vs) Q E ⟨h,g,d,t,os⟩:=by
 obtain⟨nm,qn,N,bs,bm,hd,sn,sub,ab,col,dd,k0,k1,k2,k3,k5,cO,tl⟩:=zok X q;have l1:=tc_lookup;have l2:=tc_bind (.ref C);have isT:(⟨h,g,d,t,os⟩:Shared).TypeIs (.ref C) "type" :=⟨_,cO,rfl⟩;refine wpAny_call (codeAny_of_tree ?_);show wpAny _ _ (callAny (.ref C) _) _ _ _
 repeat (any_goals (first | assumption | with_reducible refine wpAny_loadPart_at cO ?_ | wp_step))
 refine⟨rfl,?_⟩;refine codeAny_call_builtin_at (Code.quiet_builtin _ (by decide+kernel)) entry_typeCall (wpAny_check_type_call_sub cO (zmu X q hi hf ?_ hz));exact hq
def zjG {s:Shared}{Q:QC}(X:K.In s.heap)(q:excIn K C bmV "ValueError.__new__" =true)
  (hq:∀h' e,Heap.MadeExcOf s.heap h' e (.ref C) vs->Q (.ref e) {s with heap:=h'}) (hz:vs.length<=sizeLine):wpAny (model prog w) A (call (.ref C) vs) Q E s:=by
 obtain⟨h,g,d,t,os⟩:=s;have FV:=PySem.F.excBase_ValueError;have inV:bmV.contains (.type "ValueError")=true:=by decide
 unfold excIn at q;split at q
 ·rename_i dd cd sl ho;split at q
  ·rename_i D bm k0 k1 k2 k3 n k5 hm hs;simp only[Nk,beq_iff_eq,Bool.not_eq_true'] at q;obtain⟨⟨⟨⟨⟨y1,y2⟩,y3⟩,y4⟩,y5⟩,y6⟩:=q;subst y1;subst y2;obtain⟨nm,bs,mro,ns,qn,hd,sn,sub,ab,col,del⟩:=cd;dsimp only at hm y3 y5 y6;subst hm;subst y3;have e:sl= #[k0,k1,k2,k3,some (.builtin "ValueError.__new__"),k5]:=by obtain⟨l⟩:=sl;exact congrArg Array.mk hs
   subst e;exact wpAny_call_exc_subU FV inV FV (tail_of_in X y4) (X _ _ ho) (.of_isNs (isNs_of_in X y5)) (nsMap_none_of_in X y5 y6) hq hz
  ·cases q
 ·cases q
variable {s:Shared}{env:Env}
def zj4 (hh:A.handled=none)
  (h:wpAny (model prog w) A x (λv s₁=>∃e C t oe,v=.ref e/\K.In s₁.heap/\xIn K C=true/\s₁.heap.get? e=some oe/\oe.cls=.ref C/\oe.data=.fields #[.ref t,.none,.none,.none,.bool false,.none]/\E (.ref e) s₁) E s):
  wpAny (model prog w) A (raiseStmt env (some x) none) Q E s:=by
 unfold raiseStmt;refine Ja (wpAny_mono h (λv s₁ h₁=>?_) λ_ _ x=>x);obtain⟨e,C,t,oe,rfl,X,q,he,hc,hd,hE⟩:=h₁;obtain⟨nm,qn,N,bs,bm,hdc,sn,sub,ab,col,dd,k0,k1,k2,k3,k5,cO,tl⟩:=zok X q;have cB:(Value.ref C::bm).contains (.type "BaseException")=true:=by rw[List.contains_cons,tl.hasType (show bmV.contains (.type "BaseException")=true from by decide),Bool.or_true]
 obtain⟨hp,g,d,tk,os⟩:=s₁;obtain⟨c0,d0,dt,sl⟩:=oe;dsimp only at hc hd;subst hc;subst hd
 repeat (first | with_reducible refine wpAny_loadPart_at he ?_ | with_reducible refine wpAny_loadPart_at cO ?_ | (with_reducible refine wpAny_isSubtype_exc cO ?_;rw[cB]) | wp_step)
 exact wpAny_raiseNew_none hh hE
end
def zbT:List Value->Bool
 | []=>false
 | v::r=>(v::r)==bmV || (match v with | .ref _=>zbT r | _=>false)
theorem zbz {P:List Value->Prop}(base:P bmV)(own:∀c r,P r->P (.ref c::r)):∀{l:QO},zbT l=true->P l
 | [],e=>by cases e
 | v::r,e=>by
  unfold zbT at e;rcases Bool.or_eq_true_iff.mp e with q | q
  ·rw[beq_iff_eq.mp q];exact base
  ·cases v <;> first | exact own _ _ (zbz base own q) | cases q
def zdl (K:Frag)(C:Addr):Bool:=(clsIn K C).any λcd=>zbT cd.mro && cd.hasDict
theorem zjM (self:Value)(e:zbT l=true):refuseLoop self "__setattr__" l=pure ():=
 zbz (P:=λl=>refuseLoop self "__setattr__" l=pure ()) (PySem.F.store_ValueError.passes self) (λc r q=>by rw[refuseLoop_ref];exact q) e
def zpY (hv:bmV.contains v=true)(e:zbT l=true):l.contains v=true:=
 zbz (P:=λl=>l.contains v=true) hv (λc r q=>by rw[List.contains_cons,q,Bool.or_true]) e
theorem zrT (e:zbT l=true):l.isEmpty=false:=by
 cases l with
 | nil=>cases e
 | cons _ _=>rfl
section
variable {prog:Program}{w:World}{A:Around}{E:QC}{s:Shared}{K:Frag}{x C:Addr}{ox:Obj}{name:Str}{v:Value}
def _root_.Ju:=@Bool.and_eq_true_iff
def zjX {T:String}(X:K.In s.heap)(I:InstAt s.heap x ox C od)(hp:zdl K C=true)(hT:bmV.contains (.type T)=true):Looks M s.heap (isInstance (.ref x) (.type T)) true:=by obtain⟨cd,hc,ho⟩:=any_some hp;obtain⟨o1,o2⟩:=Ju.mp ho;refine I.type.andThen (looks_mroIn X ?_);unfold mroIn;rw[hc,Option.bind_some,if_neg (by rw[zrT o1];decide),zpY hT o1]
def znS {R:Result->Shared->Prop}{tk:Tok}(X:K.In s.heap)(I:InstAt s.heap x ox C od)(hp:zdl K C=true)(ht:findIn K (.ref C) name=some none)
  (h:∀b,wpAny (model prog w) A.in1 (storeInOwnDict (.ref x) (.ref C) (.str name tk) name v b)
   (λfin s'=>match fin with
    | .done f=>R (.ok f) s'
    | .again c'=>c'.quiet=true/\codeAny (model prog w) A c' R s') (λe s'=>R (.error e) s') s):
  codeAny (model prog w) A (.call (.builtin "object.__setattr__") ⟨[.ref x,.str name tk,v],[]⟩) R s:=by
 have FS:=PySem.F.store_ValueError;have isO:=zjX (M:=model prog w) (T:= "object") X I hp (by decide);obtain⟨cd,hc,ho⟩:=any_some hp;obtain⟨o1,o2⟩:=Ju.mp ho;refine codeAny_call_builtin FS.slot.plain FS.entry (@check_slot (model prog w) _ _ s "object.__setattr__" "object" "__setattr__" (.ref x) [.str name tk,v] [] _ FS.kind FS.split isO (FS.args (.ref x) (.str name tk) v) ?_);have mr:Looks (model prog w) s.heap (mroOf (.ref C)) cd.mro:=(looks_clsIn X hc).andThen .now;rw[osa_eq,refuse_eq];refine Ja (Ja (I.type.here (Ja (mr.here ?_))));rw[zjM _ o1];have nt:Looks (model prog w) s.heap (storeTaker? none) none:=.now;refine wpAny_pure (Ja (I.type.here (Ja ((looks_findIn X ht).here (Ja (nt.here ?_))))));exact h _
def zru {Q:QD}{vs:Array Value}{sl:QJ}(X:K.In s.heap)(hx:s.heap.get? x=some ⟨.ref C,none,.fields vs,sl⟩)(hp:zdl K C=true)
  (hs:findIn K (.ref C) "__setattr__" =some (some (.builtin "object.__setattr__"))) (ht:findIn K (.ref C) name=some none)
  (h:∀h' tk,h'.get? x=some ⟨.ref C,some s.heap.objs.size,.fields vs,sl⟩->h'.Ns1 s.heap.objs.size (λy=>if y=name then some v else none)->s.heap.objs.size<=h'.objs.size->
   (∀b o,b≠x->s.heap.get? b=some o->h'.get? b=some o)->Q () {s with heap:=h',toks:=tk}):wpAny (model prog w) A (setAttr (.ref x) name v) Q E s:=by
 have I:InstAt s.heap x ⟨.ref C,none,.fields vs,sl⟩ C none:=⟨hx,rfl,rfl,trivial⟩;obtain⟨cd,hc,ho⟩:=any_some hp;obtain⟨o1,o2⟩:=Ju.mp ho;refine set_plain X I hs (znS (s:={s with toks:=s.toks+1}) X I hp ht λb=>?_);refine Ja (wpAny_pure (Ja (Ja (wpAny_loadPart hx (Ja (Looks.here (s:={s with toks:=s.toks+1}) (looks_clsIn X hc) ?_))))));rw[o2];have hx1:(s.heap.push {cls:=.type "dict",data:=.dict #[]}).get? x=some ⟨.ref C,none,.fields vs,sl⟩:=JC _ hx;have xs:x≠s.heap.objs.size:=Jk (JF hx);refine Ja (wpAny_alloc' ?_);refine Ja (wpAny_update' hx1 ?_);refine wpAny_pure ?_;have gd:((s.heap.push {cls:=.type "dict",data:=.dict #[]}).update x λo=>{o with dict:=some s.heap.objs.size}).get? s.heap.objs.size=some {cls:=.type "dict",data:=.dict #[]}:=
  (JW _ _ xs).trans (JJ _ rfl)
 have gx:((s.heap.push {cls:=.type "dict",data:=.dict #[]}).update x λo=>{o with dict:=some s.heap.objs.size}).get? x=some ⟨.ref C,some s.heap.objs.size,.fields vs,sl⟩:=
  JU _ hx1 rfl
 have nd:((s.heap.push {cls:=.type "dict",data:=.dict #[]}).update x λo=>{o with dict:=some s.heap.objs.size}).Ns s.heap.objs.size (λ_=>none):=
  ⟨_, #[],_,gd,rfl,λe he=>Jf he (by simp),λ_=>rfl⟩
 show wpAny _ _ (storeInDict s.heap.objs.size (.str name _) name v) _ _ _;unfold storeInDict newKeyGuard;refine Ja (wpAny_pure (Ja (wpAny_nsSet1 (Heap.Ns1.of_empty nd) λh' n' sb=>?_)));obtain⟨oD,esD,epD,q1,q2,q3⟩:=n'.count (Within.cons name v Within.nil);refine Ja (wpAny_lookBehind q1 (by rw[q2];exact pastItsLine_dict (Jg q3 (by rw[JK,Nx,sizeLine_eq];lia))) ?_);refine wpAny_pure (h h' _ ((sb.2 x xs).trans gx) n' ?_ λb o bx e=>?_)
 ·rw[sb.1,Nc,J2];exact Nat.le_succ _
 ·exact(sb.2 b (Jk (JF e))).trans ((JW _ _ (Ne.symm bx)).trans (JC _ e))
def zrS {Q:QD}{vs:Array Value}{sl:QJ}{dx:Addr}(X:K.In s.heap)(hx:s.heap.get? x=some ⟨.ref C,some dx,.fields vs,sl⟩)(hd:s.heap.Ns1 dx mA)(hp:zdl K C=true)
  (hs:findIn K (.ref C) "__setattr__" =some (some (.builtin "object.__setattr__"))) (ht:findIn K (.ref C) name=some none) (hw:Within mA ns) (hz:ns.length<=sizeLine)
  (h:∀h' tk,h'.Ns1 dx (λy=>if y=name then some v else mA y)->Heap.SameBut dx s.heap h'->Q () {s with heap:=h',toks:=tk}):wpAny (model prog w) A (setAttr (.ref x) name v) Q E s:=by
 obtain⟨od,es0,ep0,g1,g2⟩:=id hd;have I:InstAt s.heap x ⟨.ref C,some dx,.fields vs,sl⟩ C (some od):=⟨hx,rfl,rfl,g1⟩;obtain⟨cd,hc,ho⟩:=any_some hp;obtain⟨o1,o2⟩:=Ju.mp ho;refine set_plain X I hs (znS (s:={s with toks:=s.toks+1}) X I hp ht λb=>?_);refine Ja (wpAny_pure (Ja (Ja (wpAny_loadPart hx (Ja (Looks.here (s:={s with toks:=s.toks+1}) (looks_clsIn X hc) ?_))))));rw[o2];refine wpAny_pure (a:=some dx) (Ja (wpAny_pure (Ja ?_)));refine wpAny_nsSet1 (s:={s with toks:=s.toks+1}) hd λh' n2 sb=>?_;obtain⟨oD,esD,epD,q1,q2,q3⟩:=n2.count (Within.cons name v hw);refine Ja (wpAny_lookBehind q1 (by rw[q2];exact pastItsLine_dict (Jg q3 (by rw[JK];lia))) ?_);exact wpAny_pure (h _ _ n2 sb)
def ztn {Q:QC}{od:Obj}(X:K.In s.heap)(I:InstAt s.heap x ox C (some od))(hp:zdl K C=true)
  (hga:findIn K (.ref C) "__getattribute__" =some (some (.builtin "BaseException.__getattribute__"))) (hgn:findIn K (.ref C) "__getattr__" =some none)
  (hf:findObj K C (some od) name=some (.value v)) (hh:handedIn v=true) (h:Q v {s with toks:=s.toks+1}):wpAny (model prog w) A (getAttr (.ref x) name expr) Q E s:=by
 have isB:=zjX (M:=model prog w) (T:= "BaseException") X I hp (by decide);obtain⟨hp',g,d,t,os⟩:=s;have L0:=I.type (M:=model prog w);have L1:=looks_findIn (M:=model prog w) X hga;have L2:=looks_findIn (M:=model prog w) X hgn;have L3:=looks_find (M:=model prog w) X I hf;have FB:=PySem.F.attrBase_ValueError;have bi:=FB.ga.bind (.ref x);have kd:builtinKind "BaseException.__getattribute__" =some .slot:=by decide+kernel
 have sp:splitId "BaseException.__getattribute__" =some ("BaseException","__getattribute__"):=by decide+kernel
 unfold getAttr getAttrBy;refine Ja (wpAny_mkText (wpAny_holding (Ja (L0.at (Ja (L1.at ?_))))));have nb:(onTheHeap (Value.ref C) && Value.builtin "BaseException.__getattribute__" ==Value.builtin "object.__getattribute__")=false:=by rw[show(Value.builtin "BaseException.__getattribute__" ==Value.builtin "object.__getattribute__")=false from by decide+kernel,Bool.and_false]
 dsimp only;rw[nb,if_neg Jc];unfold getAttrByItsOwn;refine Ja ?_;show wpAny _ _ (typeLookup (.ref C) "__getattr__") _ _ _;refine L2.at ?_;have ne:(expr && onTheHeap (Value.builtin "BaseException.__getattribute__"))=false:=by cases expr <;> rfl
 unfold callGetattribute;rw[ne,if_neg Jc];unfold boundAndCalled;refine Ja (wpAny_attempt (wpAny_holding ?_));rw[bi];refine Ja (wpAny_pure ?_);refine wpAny_call (codeAny_call_builtin FB.ga.plain PySem.F.entry_bexc_ga (@check_slot (model prog w) _ _ _ "BaseException.__getattribute__" "BaseException" "__getattribute__" (.ref x) [.str name t] [] _ kd sp isB (PySem.F.args_bexc_ga _ _) ?_));unfold Builtin.«object.__getattribute__»
 repeat (any_goals (first | assumption | with_reducible refine Ja (L0.at ?_) | with_reducible refine Ja (L3.at ?_) | wp_step))
 show wpAny _ _ (handedOut v) _ _ _;rw[handedOut_of hh];exact wpAny_pure h
end
end Px
namespace L2
open PySem PySem.Spec PyProof.Rows Px
def exO (a C:Addr)(od:QN)(fr:Bool):HO:=.ext λh=>∃vs sl,h.get? a=some ⟨.ref C,od,.fields vs,sl⟩/\(fr=true->∃t,vs= #[.ref t,.none,.none,.none,.bool false,.none])
def xdO (a:Addr)(fs:QI):HO:=.ext λh=>∃mA,h.Ns1 a mA/\(∀f,RelO (fs.lookup f) (mA f))/\PySem.Within mA (fs.map (·.1))
def del (H:Hp)(a:Addr):Hp:=λb=>if b=a then none else H b
theorem zbC:del H a a=none:=by unfold del;rw[if_pos rfl]
theorem zbb {a b:Addr}(h:b≠a):del H a b=H b:=by unfold del;rw[if_neg h]
theorem zeU {H:Hp}{a:Addr}(h:H a=none):del (upd H a o) a=H:=by
 funext b;unfold del upd;by_cases e:b=a
 ·rw[if_pos e,e,h]
 ·rw[if_neg e,if_neg e]
section
variable {P:Program}{w:World}{H H':Hp}{h h' h2:Heap}{a C:Addr}{o:HO}{fs ex fs':QP}{own:Addr->Prop}
def zh2 {od:QN}{fr:Bool}{vs:Array Value}{sl:QJ}(e:h.get? a=some ⟨.ref C,od,.fields vs,sl⟩)(f:fr=true->∃t,vs= #[.ref t,.none,.none,.none,.bool false,.none]):zA P w H h a (exO a C od fr):=
 ⟨⟨vs,sl,e,f⟩,⟨_,e⟩,λ_ _ ⟨vs,sl,e,f⟩ k=>⟨vs,sl,k _ e,f⟩⟩
def zbi (ok:HOk P w H h)(e:H a=some (exO a C od fr)):∃vs sl,h.get? a=some ⟨.ref C,od,.fields vs,sl⟩/\(fr=true->∃t,vs= #[.ref t,.none,.none,.none,.bool false,.none]):=
 (show zA P w H h a (exO a C od fr) from ok a _ e).1
def zne {l:QI}(n:h.Ns1 a mA)(r:∀f,RelO (l.lookup f) (mA f))(wi:PySem.Within mA (l.map (·.1))):zA P w H h a (xdO a l):=
 ⟨⟨mA,n,r,wi⟩,let ⟨o,_,_,e,_⟩:=n;⟨o,e⟩,λ_ _ ⟨mA,n,r,wi⟩ k=>⟨mA,n.at k,r,wi⟩⟩
def zhJ (ok:HOk P w H h)(e:H a=some (xdO a l)):∃mA,h.Ns1 a mA/\(∀f,RelO (l.lookup f) (mA f))/\PySem.Within mA (l.map (·.1)):=
 (show zA P w H h a (xdO a l) from ok a _ e).1
def HOk.track (x:HOk P w H h)(n:H a=none)(new:zA P w (upd H a o) h a o):HOk P w (upd H a o) h:=λb u e=>by
 by_cases hb:b=a
 ·subst hb;rw[za] at e;cases e;exact new
 ·rw[zc hb] at e;exact(x b u e).stay (λ_ _ _ q=>q) (λc q=>by rw[zc (zd q n)];exact q) λc xs q=>by rw[zc (zd q n)];exact q
def Un.track (u:Un fs ex H H' h h')(n:H' a=none)(nw:∀ob,h.get? a=some ob->a∈ex\/H a≠none):Un fs ex H (upd H' a o) h h' where
 keep:=u.keep
 slot:=u.slot
 free:=λb ob q m hx=>by
  rw[zc]
  ·exact u.free b ob q m hx
  ·intro e;subst e;rcases nw ob q with z | z
   ·exact hx z
   ·exact z m
 there:=u.there
 tups:=λb xs q=>by rw[zc (zd (u.tups b xs q) n)];exact u.tups b xs q
 frzs:=λb ob v q=>by rw[zc (zd (u.frzs b ob v q) n)];exact u.frzs b ob v q
 tbls:=λb ps q=>by obtain⟨m,e⟩:=u.tbls b ps q;exact⟨m,by rw[zc (zd e n)];exact e⟩
def HOk.drop {φ:Heap->Prop}(x:HOk P w H h)(e:H a=some (.ext φ)):HOk P w (del H a) h:=λb u q=>by
 by_cases hb:b=a
 ·rw[hb,zbC] at q;cases q
 ·rw[zbb hb] at q;exact(x b u q).stay (λ_ _ _ z=>z) (λc z=>by rw[zbb (zR z e (by intro y;cases y))];exact z) λc xs z=>by rw[zbb (zR z e (by intro y;cases y))];exact z
def Un.drop {φ:Heap->Prop}(u:Un fs ex H H' h h')(e:H' a=some (.ext φ)):Un fs ex H (del H' a) h h' where
 keep:=u.keep
 slot:=u.slot
 free:=λb ob q m hx=>by
  by_cases hb:b=a
  ·rw[hb];exact zbC
  ·rw[zbb hb];exact u.free b ob q m hx
 there:=u.there
 tups:=λb xs q=>by rw[zbb (zR (u.tups b xs q) e (by intro y;cases y))];exact u.tups b xs q
 frzs:=λb ob v q=>by rw[zbb (zR (u.frzs b ob v q) e (by intro y;cases y))];exact u.frzs b ob v q
 tbls:=λb ps q=>by obtain⟨m,z⟩:=u.tbls b ps q;exact⟨m,by rw[zbb (zR z e (by intro y;cases y))];exact z⟩
def Un.chg (u:Un fs ex H H' h h')(c:Chg2 fs' own h' h2)(hfs:∀b ob,h.get? b=some ob->b∈fs'->b∈fs)
  (nw:∀b,own b->h.get? b=none\/(H b≠none/\∃o',h2.get? b=some o')):Un fs ex H H' h h2:=by
 have no:∀b ob,h.get? b=some ob->H b=none->¬own b:=λb ob q n z=>by
  rcases nw b z with y | y
  ·rw[y] at q;cases q
  ·exact y.1 n
 refine⟨λb ob q n hb hx=>c.keep b ob (u.keep b ob q n hb hx) (λz=>hb (hfs b ob q z)) (no b ob q n),λb ob q n hb hx=>?_,u.free,λb ob q hx=>?_,u.tups,u.frzs,u.tbls⟩
 ·obtain⟨sl,e⟩:=u.slot b ob q n hb hx;by_cases z:b∈fs'
  ·obtain⟨s2,e2⟩:=c.slot b _ e z (no b ob q n);exact⟨s2,e2⟩
  ·exact⟨sl,c.keep b _ e z (no b ob q n)⟩
 ·obtain⟨o',e⟩:=u.there b ob q hx;by_cases y:own b
  ·rcases nw b y with z | z
   ·rw[z] at q;cases q
   ·exact z.2
  ·by_cases z:b∈fs'
   ·obtain⟨s2,e2⟩:=c.slot b _ e z y;exact⟨_,e2⟩
   ·exact⟨_,c.keep b _ e z y⟩
def HOk.chg (x:HOk P w H h)(c:Chg2 fs' own h h2)(n1:∀b,own b->H b=none)(n2:∀b∈fs',H b=none):HOk P w H h2:=λb u e=>by
 have k:∀c' v,(∃z,H c'=some z)->h.get? c'=some v->h2.get? c'=some v:=λc' v ⟨z,hz⟩ q=>
  c.keep c' v q (λm=>by rw[n2 c' m] at hz;cases hz) (λm=>by rw[n1 c' m] at hz;cases hz)
 refine(x b u e).stay (λc' v hc q=>k c' v ?_ q) (λ_ q=>q) λ_ _ q=>q;rcases hc with z | z
 ·rw[z];exact⟨_,e⟩
 ·exact⟨_,z⟩
variable {X:Cx}{pins:QE}{σ:St}{s:Shared}
def zA.thereN (x:zA P w H h a u):∃ob,h.get? a=some ob:=by
 cases u with
 | lst xs=>obtain⟨_,_,_,_,e⟩:=x;exact⟨_,e⟩
 | tup xs=>obtain⟨_,_,_,ob,e,_⟩:=x;exact⟨_,e⟩
 | dK kvs=>obtain⟨_,_,_,_,o,_,_,e,_⟩:=x;exact⟨_,e⟩
 | dT kvs=>obtain⟨_,_,_,_,o,_,_,e,_⟩:=x;exact⟨_,e⟩
 | set S n=>obtain⟨o,_,_,_,e,_⟩:=x;exact⟨_,e⟩
 | ins C dx fs=>obtain⟨_,_,_,e,_⟩:=x;exact⟨_,e⟩
 | own y=>exact x
 | xd fs=>obtain⟨_,⟨_,_,_,e,_⟩,_⟩:=x;exact⟨_,e⟩
 | rng lo hi=>obtain⟨_,_,_,e⟩:=x;exact⟨_,e⟩
 | frz ob u=>obtain⟨e,_⟩:=x;exact⟨_,e⟩
 | tbl ps=>exact⟨_,(show h.get? a=some _ from x)⟩
 | met f y=>exact⟨_,(show h.get? a=some _ from x)⟩
 | ext φ=>exact x.2.1
def HOk.noneN {a:Addr}(x:HOk P w H h)(n:h.get? a=none):H a=none:=by
 cases q:H a with
 | none=>rfl
 | some u=>obtain⟨ob,z⟩:=(x a u q).thereN;rw[n] at z;cases z
def Inv.laidN {t':Nat}(I:Inv X pins σ H s)(k:∀b u,s.heap.get? b=some u->h'.get? b=some u)(hp:s.heap.get? a=none)(new:zA X.prog X.w (upd H a o) h' a o):
  Inv X pins σ (upd H a o) {s with heap:=h',toks:=t'}:=by
 have n:H a=none:=I.hok.noneN hp;exact I.un ((Un.kept k).track n λob q=>by rw[hp] at q;cases q) ((I.hok.kept k).track n new)
end
def CX1 (P:Program)(w:World):CXT:=λouter H s E e s'=>∃(ea:Addr)(cls:Value)(od:QN)(H':Hp)(T:Addr),e=.ref ea/\s'.os=s.os/\AllBare s'.gens/\Un (frs outer) [] H H' s.heap s'.heap/\HOk P w H' s'.heap/\
 Tb s'.heap ea cls od T .none/\(s.heap.get? ea=none\/H ea≠none)/\s.heap.get? T=none/\H' ea=none/\H' T=none/\E cls od H'
theorem zah {b:Addr}(u:Un fs ex H H' h h')(hx:b∉ex)(n:h'.get? b=none):h.get? b=none:=by
 cases q:h.get? b with
 | none=>rfl
 | some o=>obtain⟨o',e⟩:=u.there b o q hx;rw[n] at e;cases e
section
variable {P:Program}{w:World}{K:QA}{mg:QB}{base:Heap}{N:QQ}{qual:Str}{scope:Scope}{f:Addr}{cd:Value}{A:Around}{outer:List Env}{s₀:Shared}{H₀:Hp}{E:XK}
def zi0 (X:Cx)(E:XK):Prop:=∀(pins:QE)(σ:St)(H:Hp)(s:Shared)(e C:Addr)(od:QN),Inv X pins σ H s->H e=some (exO e C od true)->E (.ref C) od (del H e)->X.xe (.ref e) s
def zot:zi0 (cxOf (CX1 P w) P w K mg base N qual scope f cd A outer s₀ H₀ E) E:=by
 intro pins σ H s e C od I he q;obtain⟨vs,sl,ge,fr⟩:=zbi I.hok he;obtain⟨t,rfl⟩:=fr rfl;show wpAny (model P w) (A.deeper _) (leaving _ (.ref e)) _ _ s;refine zso (base:=base) I.ok.frames I.stack rfl ge rfl rfl λh' T' z tb c=>?_;have nT:s.heap.get? T'=none:=JT z;have old:s₀.heap.get? e=none\/H₀ e≠none:=by
  cases q1:s₀.heap.get? e with
  | none=>exact .inl rfl
  | some ob=>refine .inr λn=>?_;have:=I.base.free e ob q1 n (by intro z;cases z);rw[he] at this;cases this
 have fr2:∀b∈frs (envOfC qual scope s₀.heap.objs.size f cd::outer),H b=none:=I.stkFree;have te:∃o',h'.get? e=some o':=let ⟨oe,_,_,_,y,_⟩:=tb;⟨oe,y⟩;refine⟨e,.ref C,od,del H e,T',rfl,I.os,I.bare,?_,?_,tb,old,zah I.base (by intro z;cases z) nT,zbC,?_,q⟩
 ·refine(I.base.drop he).chg (fs':=frs (envOfC qual scope s₀.heap.objs.size f cd::outer)) c (λb ob q1 q2=>?_) λb y=>?_
  ·have lt:=JF q1;rcases JD.mp (I.stkSub b q2) with y | y
   ·exact Jf lt (by rw[y];exact Nat.not_lt.mpr (Jb _))
   ·exact y
  ·subst y;rcases old with y | y
   ·exact .inl y
   ·exact .inr ⟨y,te⟩
 ·refine(I.hok.drop he).chg c (λb y=>by rw[y];exact zbC) λb y=>?_;by_cases hb:b=e
  ·rw[hb];exact zbC
  ·rw[zbb hb];exact fr2 b y
 ·have:H T'=none:=I.hok.fresh z;by_cases hb:T'=e
  ·rw[hb];exact zbC
  ·rw[zbb hb];exact this
def zbS (CX:CXT)(X:Cx)(E:St->XK):Prop:=∀(pins:QE)(σ:St)(H:Hp)(s:Shared)(e:Value)(s':Shared),Inv X pins σ H s->CX X.stack H s (E σ) e s'->X.xe e s'
def zaZ:zas (CX1 P w) (cxOf (CX1 P w) P w K mg base N qual scope f cd A outer s₀ H₀ E) E:=by
 intro pins σ H s e s' I0 hc;obtain⟨ea,cls,od,H',T,rfl,os,bare,un,hok,tb,old,nT,u1,u2,q⟩:=hc;have I:=I0.call' os un hok bare (λb z=>nomatch z);show wpAny (model P w) (A.deeper _) (leaving _ (.ref ea)) _ _ s';refine zrx (base:=base) I.ok.frames I.stack rfl tb λh' T' z tb' c=>?_;have nT':s'.heap.get? T'=none:=JT z;have old':s₀.heap.get? ea=none\/H₀ ea≠none:=by
  cases q1:s₀.heap.get? ea with
  | none=>exact .inl rfl
  | some ob=>
   refine .inr λn=>?_;rcases old with y | y
   ·have y':s₀.heap.get? ea=none:=zah I0.base (by intro z;cases z) y;rw[y'] at q1;cases q1
   ·exact y (I0.base.free ea ob q1 n (by intro z;cases z))
 have te:∃o',h'.get? ea=some o':=let ⟨oe,_,_,_,y,_⟩:=tb';⟨oe,y⟩
 have n0:s₀.heap.get? T=none:=zah I0.base (by intro z;cases z) nT;refine⟨ea,cls,od,H',T',rfl,I.os,I.bare,?_,?_,tb',old',zah I.base (by intro z;cases z) nT',u1,hok.fresh z,q⟩
 ·refine I.base.chg (fs':=frs (envOfC qual scope s₀.heap.objs.size f cd::outer)) c (λb ob q1 q2=>?_) λb y=>?_
  ·have lt:=JF q1;rcases JD.mp (I.stkSub b q2) with y | y
   ·exact Jf lt (by rw[y];exact Nat.not_lt.mpr (Jb _))
   ·exact y
  ·rcases y with y | y
   ·subst y;rcases old' with y | y
    ·exact .inl y
    ·exact .inr ⟨y,te⟩
   ·subst y;exact .inl n0
 ·refine hok.chg c (λb y=>?_) I.stkFree;rcases y with y | y
  ·rw[y];exact u1
  ·rw[y];exact u2
end
structure XCls (K:QA)(C:Addr):Prop where
 q:xIn K C=true
 ov:zdl K C=true
 sa:PySem.W.findIn K (.ref C) "__setattr__" =some (some (.builtin "object.__setattr__"))
 ga:PySem.W.findIn K (.ref C) "__getattribute__" =some (some (.builtin "BaseException.__getattribute__"))
 gn:PySem.W.findIn K (.ref C) "__getattr__" =some none
 kp:PySem.W.keepIn K (.ref C)=true
theorem XCls.hd {K:QA}{C:Addr}(c:XCls K C):PySem.W.hasDictIn K C=true:=by obtain⟨cd,hc,ho⟩:=PySem.W.any_some c.ov;unfold PySem.W.hasDictIn;rw[hc];exact(Ju.mp ho).2
def tExc (C:Addr)(t:TA):TE:=fun σ H Q=>t σ H λvs H1=>vs.length<=sizeLine/\∀e,H1 e=none->Q (.ref e) (upd H1 e (exO e C none true))
def zrb (C:Addr)(sp:Sp)(t:TA):TE:=fun σ H Q=>t σ H λvs H1=>vs.length<=sizeLine/\∀x,H1 x=none->sp (.ref x::vs) (upd H1 x (exO x C none true)) (λv H2=>v=.non/\Q (.ref x) H2) E0
section
variable {X:Cx}{k:Nat}{f C:Addr}{fd:FuncData}{ps:QQ}{sp:Sp}{x:Str}{p pos:Pos}{e:Expr}{es:List Expr}{t:TA}
def zsp (c:XCls X.K C)(hq:PySem.W.excIn X.K C bmV "ValueError.__new__" =true) (hg:Gl X x) (hm:X.mg x=some (.ref C)) (ha:PA X (e::es) t)
  (hdb:(x==("__debug__" :Str))=false:=by decide) (he:starEach (e::es) X.env=(false,eval e X.env)::starEach es X.env:=by rfl) (hpl:(backTo pos (starEach es X.env)).any (·.1)=false:=by rfl):
  PE X (.Call (.Name x p) (e::es) [] pos) (tExc C t):=by
 intro pins s σ H Q I h;refine wpAny_Call_Name_kw (za3 I hg hm ?_ hdb);refine PySem.W.callWith_K (h₀:=X.base) I.ok.mod.kin c.kp (thn (ha pos pins s σ H _ I h) λus s1 ⟨vs,H1,I1,r,z,q⟩=>⟨I1.kIn,?_⟩) he hpl;refine zjG I1.kIn hq (λh' ea mk=>?_) (show us.length<=sizeLine by rw[<-r.length];exact z);obtain⟨t,ge,nt,gt⟩:=mk.there;exact⟨.ref ea,_,I1.laidN (t':=s1.toks) mk.keeps mk.new (zh2 ge λ_=>⟨t,rfl⟩),rfl,q ea (I1.hok.noneN mk.new)⟩
def zp5 (c:XCls X.K C)(hi:PySem.W.findIn X.K (.ref C) "__init__" =some (some (.ref f))) (hf:PySem.W.isFn X.K (.ref f)=true) (F:FnOk X.prog X.w X.K X.mg X.base CX0 k f fd ps sp) (hr:Room (k+1) X.A) (hb:Binds X.K fd ps [])
  (hg:Gl X x) (hm:X.mg x=some (.ref C)) (ha:PA X (e::es) t)
  (hdb:(x==("__debug__" :Str))=false:=by decide) (he:starEach (e::es) X.env=(false,eval e X.env)::starEach es X.env:=by rfl) (hpl:(backTo pos (starEach es X.env)).any (·.1)=false:=by rfl):
  PE X (.Call (.Name x p) (e::es) [] pos) (zrb C sp t):=by
 intro pins s σ H Q I h;refine wpAny_Call_Name_kw (za3 I hg hm ?_ hdb);refine PySem.W.callWith_K (h₀:=X.base) I.ok.mod.kin c.kp (thn (ha pos pins s σ H _ I h) λus s1 ⟨vs,H1,I1,r,z,q⟩=>⟨I1.kIn,?_⟩) he hpl;have I2:Inv X pins σ (upd H1 (s1.heap.objs.size+1) (exO (s1.heap.objs.size+1) C none true)) {s1 with heap:=zaM s1.heap C us}:=
  I1.laidN (t':=s1.toks) (λ_ _ y=>zbZ y) (JT (Nat.le_succ _)) (zh2 zfK λ_=>⟨_,rfl⟩)
 have hq:=q (s1.heap.objs.size+1) (I1.hok.fresh (Nat.le_succ _));have r2:Vals (V.ref (s1.heap.objs.size+1)::vs) (Value.ref (s1.heap.objs.size+1)::us):=.cons rfl r;have hl:((Value.ref (s1.heap.objs.size+1)::us)++ []).length=ps.length:=by rw[JP,<-r2.length];exact F.len _ _ _ _ hq
 have hz:us.length<=sizeLine:=by rw[<-r.length];exact z
 obtain⟨h1,g1,d1,t1,o1⟩:=s1;refine zmo I1.kIn c.q hi (beq_iff_eq.mp hf) ?_ hz;have hbb:=hb _ (Value.ref (h1.objs.size+1)::us) I2.kIn hl;rw[JP] at hbb;refine wpAny_call (codeAny_mono (F.run _ X.stack _ _ ⟨Value.ref (h1.objs.size+1)::us,[]⟩ (Value.ref (h1.objs.size+1)::us) _ _ E0 (hr.make C us []) (I2.env0.make C us []) hbb r2 hq) λr s' hq'=>?_);cases r with
 | error e=>exact False.elim hq'
 | ok fl=>
  cases fl with
  | ret u=>obtain⟨v,H',I3,rv,ev,q3⟩:=I2.after hq';subst ev;exact⟨rv,⟨V.ref (h1.objs.size+1),H',I3,rfl,q3⟩⟩
  | next=>exact False.elim hq'
  | brk=>exact False.elim hq'
  | cont=>exact False.elim hq'
end
def zsr (K:QA)(te:TE)(E:XK):TS:=λD σ H=>te σ H λv H1=>∃e C od,v=.ref e/\H1 e=some (exO e C od true)/\xIn K C=true/\E (.ref C) od (del H1 e)
def zoP {pos:Pos}(hx:zi0 X E)(hc:X.calm=true)(he:PE X ex te):PS X (.Raise (some ex) none pos) (zsr X.K te E):=by intro pins s σ H D I h;rw[arm_exec_Raise];refine Ja (wpAny_standAt ?_);refine zj4 (K:=X.K) (I.ok.hd hc) ?_;refine Ja (wpAny_mono (he pins s σ H _ I h) (λv s1 hv=>Ja (wpAny_standAt (wpAny_pure ?_))) λ_ _ z=>z);obtain⟨y,H1,I1,ry,ea,C,od,rfl,hea,qC,hE⟩:=hv;obtain rfl:v=Value.ref ea:=ry;obtain⟨vs,sl,ge,fr⟩:=zbi I1.hok hea;obtain⟨t,rfl⟩:=fr rfl;exact⟨ea,C,t,_,rfl,I1.kIn,qC,ge,rfl,rfl,hx pins σ H1 s1 ea C od I1 hea hE⟩
def sXF1 (K:QA)(ta tv:TE)(f:Str):TS:=λD σ H=>tv σ H λy H1=>ta σ H1 λx H2=>∃a C fr,x=.ref a/\H2 a=some (exO a C none fr)/\XCls K C/\zl K C f/\
 ∀d,H2 d=none->d≠a->D.nx σ (upd (upd H2 d (xdO d [(f,y)])) a (exO a C (some d) fr))
def sXF2 (K:QA)(ta tv:TE)(f:Str):TS:=λD σ H=>tv σ H λy H1=>ta σ H1 λx H2=>∃a C fr d l,x=.ref a/\H2 a=some (exO a C (some d) fr)/\H2 d=some (xdO d l)/\d≠a/\XCls K C/\zl K C f/\l.length < 1000/\
 D.nx σ (upd H2 d (xdO d (putF f y l)))
def tXG (K:QA)(ta:TE)(f:Str):TE:=fun σ H Q=>ta σ H λx H1=>∃a C fr d l v,x=.ref a/\H1 a=some (exO a C (some d) fr)/\H1 d=some (xdO d l)/\XCls K C/\zl K C f/\l.lookup f=some v/\Q v H1
section
variable {X:Cx}{o e value:Expr}{f:Str}{pos pos':Pos}{ta tv:TE}
def zr2 (ha:PE X o ta)(hv:PE X value tv)(hs:swapsWith value (some (.Attribute o f pos')) pos.line X.env=pure false):PS X (.Assign [.Attribute o f pos'] value pos) (sXF1 X.K ta tv f):=by
 intro pins s σ H D I h;refine plainObj_wpAny_Assign_Attribute (thn (hv pins s σ H _ I h) λu s1 ⟨y,H1,I1,ry,q⟩=>thn (ha pins s1 σ H1 _ I1 q) λov s2 ⟨x,H2,I2,rx,a,C,fr,ex,ea,c,n,q2⟩=>?_) hs;subst ex;obtain rfl:ov=Value.ref a:=rx;obtain⟨vs,sl,ge,hfr⟩:=zbi I2.hok ea;refine zru I2.kIn ge c.ov c.sa n λh' tk gx nd sz kp=>?_;have nd0:H2 s2.heap.objs.size=none:=I2.hok.fresh (Jb _);have da:s2.heap.objs.size≠a:=Ne.symm (Jk (JF ge));have na:∀b,H2 b=none->b≠a:=λb z y=>by rw[y,ea] at z;cases z
 refine⟨σ,_,?_,q2 _ nd0 da⟩;refine I2.un (h':=h') (t':=tk) ⟨λb ob g z _ _=>kp b ob (na b z) g,λb ob g z _ _=>⟨ob.slots,kp b ob (na b z) g⟩,λb ob g z _=>?_,λb ob g _=>?_,λb xs g=>?_,λb ob v g=>?_,λb ps g=>?_⟩ λb w g=>?_
 ·rw[zc (na b z),zc (Jk (JF g))];exact z
 ·by_cases y:b=a
  ·rw[y];exact⟨_,gx⟩
  ·exact⟨_,kp b ob y g⟩
 ·rw[zc (zR g ea (by intro y;cases y)),zc (zd g nd0)];exact g
 ·rw[zc (zR g ea (by intro y;cases y)),zc (zd g nd0)];exact g
 ·exact⟨#[],by rw[zc (zR g ea (by intro y;cases y)),zc (zd g nd0),g];simp⟩
 ·by_cases yy:b=a
  ·subst yy;rw[za] at g;cases g;exact zh2 gx hfr
  ·rw[zc yy] at g;by_cases y2:b=s2.heap.objs.size
   ·subst y2;rw[za] at g;cases g;refine zne nd (λj=>?_) λj hj=>?_
    ·show RelO ([(f,y)].lookup j) _;by_cases e:j=f
     ·have hb:(j==f)=true:=beq_iff_eq.mpr e;rw[if_pos e];simp only[List.lookup,hb]
      assumption
     ·have hb:(j==f)=false:=beq_eq_false_iff_ne.mpr e;rw[if_neg e];simp only[List.lookup,hb];exact True.intro
    ·by_cases e:j=f
     ·rw[e];exact JL
     ·rw[if_neg e] at hj;exact Jf rfl hj
   ·rw[zc y2] at g;refine(I2.hok b w g).stay (λc' v hc gg=>kp c' v ?_ gg) (λc' z=>?_) λc' xs z=>?_
    ·rcases hc with z | z
     ·rw[z];exact yy
     ·exact zR z ea (by intro y;cases y)
    ·rw[zc (zR z ea (by intro y;cases y)),zc (zd z nd0)];exact z
    ·rw[zc (zR z ea (by intro y;cases y)),zc (zd z nd0)];exact z
def zrO (ha:PE X o ta)(hv:PE X value tv)(hs:swapsWith value (some (.Attribute o f pos')) pos.line X.env=pure false):PS X (.Assign [.Attribute o f pos'] value pos) (sXF2 X.K ta tv f):=by
 intro pins s σ H D I h;refine plainObj_wpAny_Assign_Attribute (thn (hv pins s σ H _ I h) λu s1 ⟨y,H1,I1,ry,q⟩=>thn (ha pins s1 σ H1 _ I1 q) λov s2 ⟨x,H2,I2,rx,a,C,fr,d,l,ex,ea,ed,da,c,n,ll,q2⟩=>?_) hs;subst ex;obtain rfl:ov=Value.ref a:=rx;obtain⟨vs,sl,ge,hfr⟩:=zbi I2.hok ea;obtain⟨mA,ns,rl,wi⟩:=zhJ I2.hok ed;have hz:(l.map (·.1)).length<=sizeLine:=by rw[JE,sizeLine_eq];lia
 refine zrS I2.kIn ge ns c.ov c.sa n wi hz λh' tk nd sb=>?_;have hd:∃o,h'.get? d=some o:=let ⟨o,_,_,e',_⟩:=nd;⟨o,e'⟩;refine⟨σ,_,I2.write (x:=d) (e:=d) (t':=tk) (by rw[ed];exact True.intro) (.inl rfl) (λb w hb z=>(sb.2 b hb).trans z) hd (zne nd (λg=>?_) λg hg=>?_),q2⟩
 ·rw[zcA];by_cases z:g=f
  ·rw[if_pos z,if_pos z];exact ry
  ·rw[if_neg z,if_neg z];exact rl g
 ·by_cases z:g=f
  ·rw[z];exact(zbL f y l).1
  ·refine(zbL f y l).2 g (wi g λw=>hg ?_);show(if g=f then some u else mA g)=none;rw[if_neg z];exact w
def ztC (he:PE X e ta)(hb:attributeBase e f X.env (eval e X.env)=eval e X.env):PE X (.Attribute e f pos) (tXG X.K ta f):=by intro pins s σ H Q I h;refine zle hb (thn (he pins s σ H _ I h) λu s1 ⟨x,H1,I1,rx,a,C,fr,d,l,v,ex,ea,ed,c,n,lk,q⟩=>?_);subst ex;obtain rfl:u=Value.ref a:=rx;obtain⟨vs,sl,ge,hfr⟩:=zbi I1.hok ea;obtain⟨mA,ns,rl,wi⟩:=zhJ I1.hok ed;obtain⟨w,hw,rw'⟩:=RelO.some_of (v:=v) (o:=mA f) (by rw[<-lk];exact rl f);obtain⟨ob,hob,hl⟩:=zek ns;have J:PySem.W.InstAt s1.heap a ⟨.ref C,some d,.fields vs,sl⟩ C (some ob):=⟨ge,rfl,rfl,hob⟩;exact ztn I1.kIn J c.ov c.ga c.gn (PySem.W.findObj_own c.hd n rfl (by rw[hl,hw])) (zgA rw') ⟨v,H1,I1.tok _,rw',q⟩
end
def znv (sp:Sp)(E:St->XK)(t:TA):TE:=fun σ H Q=>t σ H λvs H1=>sp vs H1 Q (E σ)
section
variable {X:Cx}{CX:CXT}{k:Nat}{f C:Addr}{fd:FuncData}{ps:QQ}{sp:Sp}{E:St->XK}{x m:Str}{p pos apos:Pos}{e o:Expr}{es:List Expr}{ta:TE}{t:TA}
def zpt (F:FnOk X.prog X.w X.K X.mg X.base CX k f fd ps sp)(hr:Room k X.A)(hb:Binds X.K fd ps [])(hx:zbS CX X E)
  (I:Inv X pins σ H s) (r:Vals vs us) (h:sp vs H Q (E σ)):wpAny (model X.prog X.w) X.A (call (.ref f) us) (EP X pins σ Q) X.xe s:=by
 have hl:(us++ []).length=ps.length:=by rw[JP,<-r.length];exact F.len _ _ _ _ h
 have hbb:=hb s us I.kIn hl;rw[JP] at hbb;refine wpAny_call (codeAny_mono (F.run X.A X.stack s H ⟨us,[]⟩ us vs Q (E σ) hr I.env0 hbb r h) λr s' hq=>?_);cases r with
 | error e=>exact hx pins σ H s e s' I hq
 | ok fl=>
  cases fl with
  | ret u=>exact I.after hq
  | next=>exact False.elim hq
  | brk=>exact False.elim hq
  | cont=>exact False.elim hq
def zm5 (F:FnOk X.prog X.w X.K X.mg X.base CX k f fd ps sp)(hr:Room k X.A)(hg:Gl X x)(hm:X.mg x=some (.ref f))(hk:PySem.W.keepIn X.K (.ref f)=true)(hb:Binds X.K fd ps [])(hx:zbS CX X E)
  (ha:PA X (e::es) t) (hdb:(x==("__debug__" :Str))=false:=by decide) (he:starEach (e::es) X.env=(false,eval e X.env)::starEach es X.env:=by rfl) (hpl:(backTo pos (starEach es X.env)).any (·.1)=false:=by rfl):
  PE X (.Call (.Name x p) (e::es) [] pos) (znv sp E t):=by
 intro pins s σ H Q I h;refine wpAny_Call_Name_kw (za3 I hg hm ?_ hdb);refine PySem.W.callWith_K (h₀:=X.base) I.ok.mod.kin hk (thn (ha pos pins s σ H _ I h) λus s1 ⟨vs,H1,I1,r,q⟩=>⟨I1.kIn,?_⟩) he hpl;exact zpt F hr hb hx I1 r q
end
def Fun.okX {P:Program}{w:World}{K:QA}{mg:QB}{base:Heap}{x qual:Str}{st:Stmt}{f:Addr}{fd:FuncData}{N ps:QQ}{k:Nat}{sp:Sp}(F:Fun K x qual st f fd)(S:zaj N ps (zo st))(len:∀vs H Q E,sp vs H Q E->vs.length=ps.length)
  (hbody:∀(cdv:Value)(A:Around)(outer:List Env)(s:Shared)(H:Hp)(vs:QR)(Q:VK)(E:XK),Room k (A.deeper (envOfC qual (zo st) s.heap.objs.size f cdv))->sp vs H Q E->
   ∃t,PSs (cxOf (CX1 P w) P w K mg base N qual (zo st) f cdv A outer s H E) (zD st) t/\t {nx:=λ_ H'=>Q .non H',rt:=Q} (start N vs) H):FnOk P w K mg base (CX1 P w) (k+1) f fd ps sp:=by
 obtain⟨oc,od,kV,doc,pm,an,cdv,ct,osl,rfl,lk,hcd⟩:=F.ex;exact zq3 lk hcd S len λA outer s H vs Q E hr hsp=>hbody cdv A outer s H vs Q E hr hsp
abbrev Cx.tried (X:Cx)(xe:QC)(pn:QE):Cx:={X with xe:=xe,pn:=pn}
abbrev Cx.suite (X:Cx)(e:Addr):Cx:={X with A:=X.A.mark (some (.ref e)),calm:=false,xe:=λ_ _=>False}
section
variable {X:Cx}{pins pins':QE}{σ:St}{H:Hp}{s:Shared}{xe:QC}
def Inv.tried (I:Inv X pins σ H s)(xe:QC):Inv (X.tried xe (X.pn++pins)) [] σ H s:=
 ⟨⟨I.ok.mod,I.ok.kind,I.ok.glob,I.ok.blt,I.ok.above,I.ok.inj,I.ok.has,I.ok.cab,I.ok.hd,I.ok.frames,I.ok.stk,I.ok.exf,I.ok.bs,I.ok.bsz,I.ok.noex,I.ok.exfs,I.ok.funs,I.ok.frf⟩,
  I.os,I.bare,I.base,I.loc,I.cell,I.free,I.freeC,λp hp=>I.pin p (by simpa using hp),I.hok,I.len⟩
def Inv.untried (I:Inv (X.tried xe (X.pn++pins)) pins' σ H s):Inv X pins σ H s:=
 ⟨⟨I.ok.mod,I.ok.kind,I.ok.glob,I.ok.blt,I.ok.above,I.ok.inj,I.ok.has,I.ok.cab,I.ok.hd,I.ok.frames,I.ok.stk,I.ok.exf,I.ok.bs,I.ok.bsz,I.ok.noex,I.ok.exfs,I.ok.funs,I.ok.frf⟩,
  I.os,I.bare,I.base,I.loc,I.cell,I.free,I.freeC,λp hp=>I.pin p (Jp _ hp),I.hok,I.len⟩
def Inv.suite (I:Inv X pins σ H s)(e:Addr):Inv (X.suite e) pins σ H s:=
 ⟨⟨I.ok.mod,I.ok.kind,I.ok.glob,I.ok.blt,I.ok.above,I.ok.inj,I.ok.has,I.ok.cab,(λz=>nomatch z),I.ok.frames,I.ok.stk,I.ok.exf,I.ok.bs,I.ok.bsz,I.ok.noex,I.ok.exfs,I.ok.funs,I.ok.frf⟩,
  I.os,I.bare,I.base,I.loc,I.cell,I.free,I.freeC,I.pin,I.hok,I.len⟩
def Inv.unsuite (ok:X.Ok)(I:Inv (X.suite e) pins σ H s):Inv X pins σ H s:=
 ⟨ok,I.os,I.bare,I.base,I.loc,I.cell,I.free,I.freeC,I.pin,I.hok,I.len⟩
def zcM {i:Nat}{n:Str}{Q:QD}(I:Inv X pins σ H s)(hN:X.N.Nodup)(hi:X.N[i]? =some n)(hk:X.env.scope.names.lookup n=some .local)
  (h:∀s',Inv X pins (σ.set i none) H s'->Q () s'):wpAny M A (do bindName X.env n .none;unbindBehindTheSuite X.env n pos) Q E s:=by
 obtain⟨m,hn,hl⟩:=id I.loc;have cl:(X.env.scope.kind==.class || (X.env.scope.kind==.module && X.env.locals !=X.env.globals))=false:=by rw[I.ok.kind];rfl
 refine wpAny_nameGoes_keeps hk hn cl λh' v hn' sb=>?_;obtain⟨oL,_,_,gL,_⟩:=id hn;have ol:∀b ob,X.s₀.heap.get? b=some ob->b≠X.env.locals:=λb ob g=>Jk (Je (JF g) I.ok.above);refine h _ ⟨I.ok,I.os,I.bare,⟨λb ob g z hb hx=>(sb.2 b (ol b ob g)).trans (I.base.keep b ob g z hb hx),λb ob g z hb hx=>?_,I.base.free,λb ob g hx=>?_,I.base.tups,I.base.frzs,I.base.tbls⟩,
  ⟨_,hn',λj y v' e1 e2 e3=>?_⟩,λy c e=>?_,I.free,I.freeC,λp hp=>?_,λb w g=>?_,by simpa using I.len⟩
 ·obtain⟨sl,g1⟩:=I.base.slot b ob g z hb hx;exact⟨sl,(sb.2 b (ol b ob g)).trans g1⟩
 ·obtain⟨o',g1⟩:=I.base.there b ob g hx;exact⟨o',(sb.2 b (ol b ob g)).trans g1⟩
 ·have hj:j≠i:=λz=>by
   subst z;have:j < σ.length:=by rw[I.len];exact(JH.mp hi).1
   rw[List.getElem?_set_self this] at e2;cases e2
  rw[List.getElem?_set_ne (Ne.symm hj)] at e2;obtain⟨u',r',q⟩:=hl j y v' e1 e2 e3;refine⟨u',r',?_⟩;rcases q with ⟨k,e⟩ | ⟨k,c,e,z⟩
  ·refine .inl ⟨k,?_⟩;have:y≠n:=λz=>hj (zfe hN e1 (z ▸ hi));show(if y=n then v else m y)=some u';rw[if_neg this];exact e
  ·exact .inr ⟨k,c,e,z.sameBut sb (I.cne y c e)⟩
 ·obtain⟨w',z⟩:=I.cell y c e;exact⟨w',z.sameBut sb (I.cne y c e)⟩
 ·obtain⟨g,z,ne,nf,d⟩:=I.pin p hp;exact⟨(sb.2 p.1 ne).trans g,z,ne,nf,d⟩
 ·refine(I.hok b w g).stay (λc v2 hc q=>(sb.2 c λz=>?_).trans q) (λ_ q=>q) λ_ _ q=>q;subst z;rcases hc with y | y
  ·rw[<-y,I.free] at g;cases g
  ·rw[I.free] at y;cases y
end
def Ends.less (D:Ends)(i:Nat):Ends:={nx:=fun σ H=>D.nx (σ.set i none) H,rt:=D.rt,bk:=fun σ H=>D.bk (σ.set i none) H,ct:=fun σ H=>D.ct (σ.set i none) H}
def zkR (K:QA)(cv:Value)(i:Nat)(ts:TS)(D:Ends):St->XK:=fun σ cls od H'=>∃C,cls=.ref C/\PySem.W.exmOne K (.ref C) cv=some true/\
 ∀e,H' e=none->ts (D.less i) (σ.set i (some (.ref e))) (upd H' e (exO e C od false))
def zoD (K:QA)(cv:Value)(ts:TS)(D:Ends):St->XK:=fun σ cls od H'=>∃C,cls=.ref C/\PySem.W.exmOne K (.ref C) cv=some true/\
 ∀e,H' e=none->ts D σ (upd H' e (exO e C od false))
def zrz (K:QA)(cv:Value)(i:Nat)(tb:(St->XK)->TS)(ts:TS):TS:=λD σ H=>tb (zkR K cv i ts D) D σ H
def ztt (K:QA)(cv:Value)(tb:(St->XK)->TS)(ts:TS):TS:=λD σ H=>tb (zoD K cv ts D) D σ H
theorem _root_.Px.Chg2.mono {own':Addr->Prop}(c:Chg2 fs own h h')(k:∀b,own b->own' b):Chg2 fs own' h h':=
 ⟨c.size,λb o q a n=>c.keep b o q a λz=>n (k b z),λb o q a n=>c.slot b o q a λz=>n (k b z)⟩
section
variable {X:Cx}{x n:Str}{i:Nat}{cv:Value}{body suite:List Stmt}{b₀:Stmt}{np hpos pos:Pos}{tb:(St->XK)->TS}{ts:TS}
def Inv.caught {s2:Shared}{ea C T T':Addr}(J0:Inv X pins σ H s)(os:s2.os=s.os)(bare:AllBare s2.gens)(un:Un (frs X.stack) [] H H' s.heap s2.heap)(hok:HOk X.prog X.w H' s2.heap)
  (old:s.heap.get? ea=none\/H ea≠none) (nT:s.heap.get? T=none) (u1:H' ea=none) (u2:H' T=none) (z:s2.heap.objs.size<=T') (c:Chg2 (frs X.stack) (λb=>b=ea\/b=T\/b=T') s2.heap h4) (tb:Tb h4 ea (.ref C) od T' .none):
  Inv X pins σ (upd H' ea (exO ea C od false)) {s2 with heap:=h4}:=by
 obtain⟨oe,vs,oT,tz,ge,e1,e2,e3,_⟩:=tb;have ge':h4.get? ea=some ⟨.ref C,od,.fields vs,oe.slots⟩:=by obtain⟨c0,d0,dt,sl⟩:=oe;dsimp only at e1 e2 e3;subst e1;subst e2;subst e3;exact ge
 have nT2:s2.heap.get? T'=none:=JT z;have fr2:∀b∈frs X.stack,H' b=none:=λb hb=>by have J:=J0.call' os un hok bare (λb z=>nomatch z);exact J.stkFree b hb
 have u3:H' T'=none:=hok.fresh z;have U:Un (frs X.stack) [] H H' s.heap h4:=un.chg c (λb ob _ y=>y) λb y=>by
  rcases y with y | y | y
  ·subst y;rcases old with y | y
   ·exact .inl y
   ·exact .inr ⟨y,⟨_,ge⟩⟩
  ·subst y;exact .inl nT
  ·subst y;exact .inl (zah un (by intro z;cases z) nT2)
 have O:HOk X.prog X.w H' h4:=hok.chg c (λb y=>by
  rcases y with y | y | y
  ·rw[y];exact u1
  ·rw[y];exact u2
  ·rw[y];exact u3) fr2
 refine J0.call' (s':={s2 with heap:=h4}) os (U.track u1 λob q=>.inr ?_) (O.track u1 (zh2 ge' λz=>by cases z)) bare (λb z=>nomatch z);rcases old with y | y
 ·rw[y] at q;cases q
 ·exact y
def ziE (hst:X.stack=X.env::X.outer)(hfm:X.env.frame=some X.env.locals)(hN:X.N.Nodup)(hi:X.N[i]? =some n)(hlo:X.env.scope.names.lookup n=some .local)(hg:Gl X x)(hm:X.mg x=some cv)
  (hb:∀xe pn E,zbS (CX1 X.prog X.w) (X.tried xe pn) E->PSs (X.tried xe pn) body (tb E)) (hs:∀e,PSs (X.suite e) (b₀::suite) ts) (hdb:(x==("__debug__" :Str))=false:=by decide):
  PS X (.Try body [.ExceptHandler (some (.Name x np)) (some n) (b₀::suite) hpos] [] [] pos) (zrz X.K cv i tb ts):=by
 intro pins s σ H D I h;have key:zbS (CX1 X.prog X.w) (X.tried (λe s₁=>wpAny (model X.prog X.w) X.A (noteFrame e X.env) (λ_ s₂=>wpAny (model X.prog X.w) X.A (setFlight e none) (λ_ s₃=>
   wpAny (model X.prog X.w) X.A (handleBy e X.env [.ExceptHandler (some (.Name x np)) (some n) (b₀::suite) hpos]) (SP X pins D) X.xe s₃) X.xe s₂) X.xe s₁) (X.pn++pins)) (zkR X.K cv i ts D):=by
  intro pins' σ' H1 s1 e s2 I1 hc;obtain⟨ea,cls,od,H',T,rfl,os,bare,un,hok,tb',old,nT,u1,u2,C,rfl,em,q⟩:=hc;have J0:Inv X pins σ' H1 s1:=I1.untried;have J:=J0.call' os un hok bare (λb z=>nomatch z);show wpAny _ _ (noteFrame (.ref ea) X.env) _ _ s2;refine zrc (base:=X.base) (by rw[<-hst];exact J.ok.frames) (by rw[<-hst];exact J.stack) hfm tb' λh3 T' z t3 c3=>?_;rw[show(X.env::X.outer).filterMap (·.frame)=frs X.stack from by rw[hst];rfl] at c3;have c3':Chg2 (frs X.stack) (λb=>b=ea\/b=T\/b=T') s2.heap h3:=c3.mono λb y=>y.elim .inl λy=>.inr (.inl y);have J3:=J0.caught os bare un hok old nT u1 u2 z c3' t3;have LT:PySem.W.Looks (model X.prog X.w) h3 (typeOf (.ref ea)) (.ref C):=by obtain⟨vs,sl,ge,_⟩:=zbi J3.hok za;exact(PySem.W.Looks.ld ge).andThen .now
  refine wpAny_handleBy_cons (codeAny_handlers_test (za3 (X:=X.suite ea) (J3.suite ea) hg hm ?_ hdb)) (by intro y;cases y);refine(PySem.W.exm_one J3.kIn LT em).here (s:={s2 with heap:=h3}) ?_;refine codeAny_handlers_suite_as ?_;refine zem (s:={s2 with heap:=h3}) (fs:=frs X.stack) t3 λh4 t4 c4 k4=>?_;have J4:=J0.caught os bare un hok old nT u1 u2 z (c3'.trans (c4.two (own:=λb=>b=ea\/b=T\/b=T') (.inl rfl) (.inl (.inr (.inr rfl))))) t4;refine zfr (X:=X) J4 hN hi (.inl hlo) (show RelV (.ref ea) (Value.ref ea) from rfl) (λs5 J5=>?_) (.inr hlo);refine wpAny_mono (hs ea pins s5 _ _ (D.less i) (J5.suite ea) (q ea u1)) (λf s6 q6=>?_) λ_ _ y=>y.elim;show wpAny _ _ _ _ _ _;cases f with
  | next=>obtain⟨σ6,H6,J6,y⟩:=q6;exact zcM (J6.unsuite J0.ok) hN hi hlo λs7 J7=>⟨_,_,J7,y⟩
  | brk=>obtain⟨σ6,H6,J6,y⟩:=q6;exact zcM (J6.unsuite J0.ok) hN hi hlo λs7 J7=>⟨_,_,J7,y⟩
  | cont=>obtain⟨σ6,H6,J6,y⟩:=q6;exact zcM (J6.unsuite J0.ok) hN hi hlo λs7 J7=>⟨_,_,J7,y⟩
  | ret u=>obtain⟨v6,σ6,H6,J6,rv,y⟩:=q6;exact zcM (J6.unsuite J0.ok) hN hi hlo λs7 J7=>⟨_,_,_,J7,rv,y⟩
 refine wpAny_Try_except (wpAny_mono (hb _ (X.pn++pins) _ key [] s σ H D (I.tried _) h) (λf s₁ q=>?_) λ_ _ y=>y);cases f with
 | next=>obtain⟨σ',H',I',y⟩:=q;exact wpAny_execs_nil ⟨σ',H',I'.untried,y⟩
 | brk=>obtain⟨σ',H',I',y⟩:=q;exact⟨σ',H',I'.untried,y⟩
 | cont=>obtain⟨σ',H',I',y⟩:=q;exact⟨σ',H',I'.untried,y⟩
 | ret u=>obtain⟨v,σ',H',I',rv,y⟩:=q;exact⟨v,σ',H',I'.untried,rv,y⟩
end
end L2
namespace L2
open PySem PySem.Spec PyProof.Rows
def cxC (X:Cx)(N:QQ)(scope:Scope)(cl:List (Str ×Addr))(s₀:Shared)(H₀:Hp)(ex:QP):Cx:=
 {X with N:=N,s₀:=s₀,H₀:=H₀,env:=compEnvC scope cl s₀.heap.objs.size X.env,outer:=X.stack,ex:=ex,fn:=λ_=>false,pn:=[],xe:=λ_ _=>False}
structure zm (X:Cx)(x:Str)(ys:QQ)(js:List Nat)(scope:Scope)(cl:List (Str ×Addr)):Prop where
 clos:closureFor scope X.env=pure cl
 kind:scope.kind=.function
 nocell:∀y∈scope.names,y.2≠ .cell
 names:∀y∈scope.names,y.2=.local->scope.names.lookup y.1=some .local
 tgt:scope.names.lookup x=some .local
 nd:(x::ys).Nodup
 sub:∀p∈cl,X.env.cells.lookup p.1=some p.2
 has:∀p∈(relabel scope X.env).names,p.2=.cell\/p.2=.free->p.1∈cl.map (·.1)
 fr:∀(i:Nat)(y:Str),ys[i]? =some y->∃j,js[i]? =some j/\X.N[j]? =some y/\(X.env.kindOf y=some .cell\/X.env.kindOf y=some .free)/\((relabel scope X.env).names.lookup y=some .cell\/(relabel scope X.env).names.lookup y=some .free)
 len:js.length=ys.length
def zbA {cl:List (Str ×Addr)}:∀{y:Str},y∈cl.map (·.1)->∃c,cl.lookup y=some c:=by
 induction cl with
 | nil=>intro y h;simp at h
 | cons p r ih=>
  intro y h;rw[List.lookup_cons];cases e:y==p.1 with
  | true=>exact⟨p.2,rfl⟩
  | false=>
   rw[JS,JD] at h;rcases h with h | h
   ·rw[h] at e;simp at e
   ·exact ih h
def PTs (X:Cx)(ifs:List Expr)(t:TT):Prop:=
 ∀(pins:QE)(s:Shared)(σ:St)(H:Hp)(Q:Bool->Hp->Prop),Inv X pins σ H s->t σ H Q->
  wpAny (model X.prog X.w) X.A (forIn ifs true λc r=>if r=true then do let ok<-isTrue c X.env (eval c X.env);pure (ForInStep.yield ok) else pure (ForInStep.yield r)) (TP X pins σ Q) X.xe s
def zk2:TT:=λ_ H Q=>Q true H
def zaO:PTs X [] zk2:=λ_ _ _ H _ I h=>wpAny_tests_nil ⟨H,I,h⟩
def frees (σ:St)(js:List Nat):St:=js.map λj=>(σ[j]?).getD none
def zkx (J:It)(p:Addr)(σ:St)(js:List Nat)(tt:TT)(te:TE)(H1:Hp)(Q:VK):Prop:=
 ∃W:Nat->Nat->List V->Hp->Prop,(∃m,W 0 m [] (upd H1 p (.lst [])))/\∀i m acc H,W i m acc H->
  (J.stop i H/\Q (.ref p) H)\/(J.go i H/\∀x H',J.yld i H x H'->tt (some x::frees σ js) H' λok H2=>
   if ok=true then te (some x::frees σ js) H2 λy H3=>H3 p=some (.lst acc)/\acc.length < sizeLine/\∃m',m' < m/\W (i+1) m' (acc++ [y]) (upd H3 p (.lst (acc++ [y])))
   else∃m',m' < m/\W (i+1) m' acc H2)
def zgH (wi:TI)(js:List Nat)(tt:TT)(te:TE):TE:=fun σ H Q=>wi σ H λJ H1=>∀p,H1 p=none->zkx J p σ js tt te H1 Q
section
variable {X:Cx}{x:Str}{ys:QQ}{js:List Nat}{scope:Scope}{cl:List (Str ×Addr)}{pins:QE}{σ:St}{H:Hp}{s:Shared}
def zm.cells (S:zm X x ys js scope cl){c:Addr}(h:cl.lookup y=some c):X.env.cells.lookup y=some c:=S.sub (y,c) (PySem.mem_of_lookup h)
def zpR (S:zm X x ys js scope cl)(I:Inv X pins σ H s){fp:QP}(f:∀b∈fp,FpOk X pins H b)(fo:∀b∈fp,b < s.heap.objs.size){h1:Heap}{m:QB}{t1:Nat}(hn:h1.Ns s.heap.objs.size m)
  (k:∀b o,s.heap.get? b=some o->h1.get? b=some o):
  Inv (cxC X (x::ys) scope cl s H fp) (X.pn++pins) (none::frees σ js) H {s with heap:=h1,toks:=t1}:=by
 have nfs:∀b∈fp,b∉frs X.stack:=λb hb z=>(JD.mp (I.stkSub b z)).elim (f b hb).2.1 (f b hb).2.2.1;have kept:∀y c,cl.lookup y=some c->∀v,s.heap.IsCell c v->h1.IsCell c v:=λy c _ v ⟨o,ho,hd⟩=>⟨o,k c o ho,hd⟩;refine⟨⟨I.ok.mod,S.kind,I.ok.glob,I.ok.blt,Jb _,λy z c e1 e2=>I.ok.inj y z c (S.cells e1) (S.cells e2),λy hy=>?_,λy c e _=>Jf e Jc,I.ok.hd,I.ok.frames,.inl rfl,λb hb=>⟨?_,λy c e=>(f b hb).2.2.2.2.1 y c (S.cells e)⟩,
   I.bs,Jg I.ok.bsz I.sz,λb o e hb=>?_,nfs,I.stack,I.stkFree⟩,
  I.os.trans ?_,I.bare,Un.kept k,⟨m,hn,λi y v e1 e2 e3=>?_⟩,λy c e=>?_,I.hok.fresh (Jb _),λy c e=>I.freeC y c (S.cells e),λp hp=>?_,I.hok.kept k,?_⟩
 ·rcases hy with hy | hy
  ·exact zbA (S.has _ (PySem.mem_of_lookup hy) (.inl rfl))
  ·exact zbA (S.has _ (PySem.mem_of_lookup hy) (.inr rfl))
 ·exact Jk (fo b hb)
 ·rcases(f b hb).2.2.2.1 with z | z
  ·exact I.ok.noex b o e z
  ·exact Jf (Je (JF e) (Jg I.ok.bsz z)) (Jv _)
 ·exact I.os.symm
 ·cases i with
  | zero=>cases e2
  | succ i=>
   obtain⟨j,ej,eN,ek,ek'⟩:=S.fr i y e1;have es:σ[j]? =some (some v):=by
    have q:(frees σ js)[i]? =some (some v):=e2;unfold frees at q;rw[JQ,ej] at q;have q':(σ[j]?).getD none=some v:=JO q;cases e:σ[j]? with
    | none=>rw[e] at q';cases q'
    | some o=>rw[e] at q';cases q';rfl
   obtain⟨m0,_,hl⟩:=I.loc;obtain⟨u,r,l⟩:=hl j y v eN es (.inr ek);rcases l with ⟨l,_⟩ | ⟨_,c,ec,hc⟩
   ·rcases ek with ek | ek <;> · rw[ek] at l;cases l
   ·have hk:y∈cl.map (·.1):=by
     rcases ek' with q | q
     ·exact S.has _ (PySem.mem_of_lookup q) (.inl rfl)
     ·exact S.has _ (PySem.mem_of_lookup q) (.inr rfl)
    obtain⟨c',ec'⟩:=zbA hk;have e:=S.cells ec';rw[ec] at e;cases e;exact⟨u,r,.inr ⟨ek',c,ec',kept y c ec' _ hc⟩⟩
 ·obtain⟨v,q⟩:=I.cell y c (S.cells e);exact⟨v,kept y c e v q⟩
 ·have hp':p∈X.pn++pins:=(Jm.mp hp).elim (λz=>Jf (show p∈([]:QE) from z) (by simp)) id;obtain⟨a,b,c,d,e⟩:=I.pin p hp';exact⟨k _ _ a,b,Jk (JF a),λz=>(JD.mp (I.stkSub _ z)).elim c d,e⟩
 ·show _=(x::ys).length;rw[JK,JK];unfold frees;rw[JE,S.len]
def ziF (I:Inv X pins σ H0 s0){fp:QP}(f:∀b∈fp,FpOk X pins H0 b)(U0:Un (frs X.stack) fp H0 H s0.heap s.heap)(ho:s.os=s0.os)
  (J:Inv (cxC X (x::ys) scope cl s H fp) pins' σ' H1 s1):Inv X pins σ H1 s1:=by
 have U1:Un (frs X.stack) fp H H1 s.heap s1.heap:=J.base;exact I.call' (J.os.trans ho) (U0.trans U1) J.hok J.bare λb hb=>⟨(f b hb).2.2.2.1,(f b hb).2.1,(f b hb).2.2.2.2.1,(f b hb).2.2.2.2.2⟩
variable {iter elt:Expr}{ifs:List Expr}{px pos:Pos}{wi:TI}{tt:TT}{te:TE}
def zgk {W:Shared->Hp->List Addr->Value->Shared->Prop}(S:zm X x ys js scope cl)(hc:X.calm=true)(ht:∀s₀ H₀ ex,PTs (cxC X (x::ys) scope cl s₀ H₀ ex) ifs tt)(he:∀s₀ H₀ ex,PE ((cxC X (x::ys) scope cl s₀ H₀ ex).wish (W s₀ H₀ ex)) elt te)
     {fp:QP}   (I2:Inv X pins σ H2 s2) (T:Turn X.prog X.w X.K (.Name x px) J fp it tn) (st2:tn 0 s2.heap) (f2:∀b∈fp,FpOk X pins H2 b)
   (q:∀p,H2 p=none->zkx J p σ js tt te H2 Q)
  {R:Value->Addr->Result->Shared->Prop}
  (hR:∀(p:Addr)(C:Addr)(H':Hp)(s':Shared)(m:QB),s2.heap.objs.size<=C->s'.heap.Ns C m->H' C=none->Inv X pins σ H' s'->Q (.ref p) H'->R (.ref p) C (.ok .next) s')
  (hW:∀e s',W {s2 with heap:=(s2.heap.push {cls:=.type "list",dict:=none,data:=.seq ([]:QO).toArray})} (upd H2 s2.heap.objs.size (.lst [])) fp e s'->notedBy (model X.prog X.w) X.A (compEnvC scope cl (s2.heap.push {cls:=.type "list",dict:=none,data:=.seq ([]:QO).toArray}).objs.size X.env) (λe s'=>R (.ref s2.heap.objs.size) (s2.heap.push {cls:=.type "list",dict:=none,data:=.seq ([]:QO).toArray}).objs.size (.error e) s') e s'):
  wpAny (model X.prog X.w) X.A (newList []) (λacc s₃=>wpAny (model X.prog X.w) X.A (newFunctionEnv scope X.env.globals cl [] X.env.qual none .none (some X.env)) (λcenv s₄=>
   codeAny (model X.prog X.w) X.A (.compStart (.ListComp elt [⟨.Name x px,iter,ifs,0⟩] scope pos) 0 (.ref it) acc {cenv with scope:=relabel scope X.env}) (R acc cenv.locals) s₄) X.xe s₃) X.xe s2:=by
 refine wpAny_newObj_type (wpAny_newFunctionEnv S.nocell (by intro y hy;simp at hy) (λh₁ hns₁ hsb₁=>?_) S.kind);have fr2:H2 s2.heap.objs.size=none:=I2.hok.fresh (Jb _);obtain⟨Y1,⟨m0,w0⟩,turn⟩:=q _ fr2;have I3:Inv X pins σ (upd H2 s2.heap.objs.size (.lst [])) {s2 with heap:=s2.heap.push {cls:=.type "list",dict:=none,data:=.seq ([]:QO).toArray}}:=
  I2.laid (t':=s2.toks) (λb u e=>JC _ e) (Jb _) ⟨JM _,[],0,.nil,JJ _ rfl⟩
 have U0:Un (frs X.stack) fp H2 (upd H2 s2.heap.objs.size (.lst [])) s2.heap (s2.heap.push {cls:=.type "list",dict:=none,data:=.seq ([]:QO).toArray}):=
  Un.laid (λb u e=>JC _ e) (Jb _) fr2
 have fo:∀b∈fp,b < s2.heap.objs.size:=λb hb=>by obtain⟨o,e,_⟩:=T.obj 0 _ st2 b hb;exact JF e
 have f3:∀b∈fp,FpOk X pins (upd H2 s2.heap.objs.size (.lst [])) b:=λb hb=>⟨by rw[zc (Jk (fo b hb))];exact(f2 b hb).1,(f2 b hb).2⟩
 have hold:∀b o,(s2.heap.push {cls:=.type "list",dict:=none,data:=.seq ([]:QO).toArray}).get? b=some o->h₁.get? b=some o:=λb o e=>
  hsb₁.extBut b o (Jk (JF e)) (JC _ e)
 have fo3:∀b∈fp,b < (s2.heap.push {cls:=.type "list",dict:=none,data:=.seq ([]:QO).toArray}).objs.size:=λb hb=>by rw[J2];exact Nat.lt_succ_of_lt (fo b hb)
 have I4:=zpR (t1:=s2.toks+([]:QL).length) S I3 f3 fo3 hns₁ hold;have st4:tn 0 h₁:=T.keep _ _ _ st2 λb _ o e=>hold b o (JC _ e);have stat:∀{H':Hp},(∀b∈fp,H' b=none)->∀b∈fp,FpOk (cxC X (x::ys) scope cl {s2 with heap:=s2.heap.push {cls:=.type "list",dict:=none,data:=.seq ([]:QO).toArray}} (upd H2 s2.heap.objs.size (.lst [])) fp) (X.pn++pins) H' b:=λhn b hb=>
  ⟨hn b hb,Jk (fo3 b hb),I4.ok.exfs b hb,.inl hb,λy c e=>(f2 b hb).2.2.2.2.1 y c (S.cells e),λp hp=>(f2 b hb).2.2.2.2.2 p ((Jm.mp hp).elim (λz=>Jf (show p∈([]:QE) from z) (by simp)) id)⟩
 have loop:codeAny (model X.prog X.w) X.A (.compLoop (.ListComp elt [⟨.Name x px,iter,ifs,0⟩] scope pos) 0 (.ref it) (.ref s2.heap.objs.size) (compEnvC scope cl (s2.heap.push {cls:=.type "list",dict:=none,data:=.seq ([]:QO).toArray}).objs.size X.env))
   (R (.ref s2.heap.objs.size) (s2.heap.push {cls:=.type "list",dict:=none,data:=.seq ([]:QO).toArray}).objs.size) {s2 with heap:=h₁,toks:=s2.toks+([]:QL).length}:=by
  refine codeAny_loop rfl (λn s'=>∃i acc v0 H',Inv (cxC X (x::ys) scope cl {s2 with heap:=s2.heap.push {cls:=.type "list",dict:=none,data:=.seq ([]:QO).toArray}} (upd H2 s2.heap.objs.size (.lst [])) fp) (X.pn++pins) (v0::frees σ js) H' s'/\tn i s'.heap/\(∀b∈fp,H' b=none)/\Y1 i n acc H')
   (λn s5 hI=>?_) m0 ⟨0,[],none,_,I4,st4,λb hb=>(f3 b hb).1,w0⟩
  show wpAny _ X.A ((compTurn (.ListComp elt [⟨.Name x px,iter,ifs,0⟩] scope pos) 0 (.ref it) (.ref s2.heap.objs.size) (compEnvC scope cl (s2.heap.push {cls:=.type "list",dict:=none,data:=.seq ([]:QO).toArray}).objs.size X.env)).onRaise (λx=>do noteFrame x (compEnvC scope cl (s2.heap.push {cls:=.type "list",dict:=none,data:=.seq ([]:QO).toArray}).objs.size X.env);theTreesLotGoes x)) _ _ s5;refine wpAny_noted ?_;rw[compTurn_list];obtain⟨i,acc,v0,H5,I5,st5,fr5,w5⟩:=hI;refine Ja (wpAny_standAt (Ja ?_));rcases turn i n acc H5 w5 with ⟨stop,qn⟩ | ⟨go,step⟩
  ·refine wpAny_mono (T.done (cxC X (x::ys) scope cl {s2 with heap:=s2.heap.push {cls:=.type "list",dict:=none,data:=.seq ([]:QO).toArray}} (upd H2 s2.heap.objs.size (.lst [])) fp) rfl rfl rfl hc i _ s5 _ H5 _ I5 (stat fr5) st5 stop) (λr s6 ⟨hr,I6⟩=>?_) λ_ _ e=>e;subst hr;obtain⟨m,hn,_⟩:=I6.loc;exact wpAny_pure (hR _ _ H5 s6 m (by rw[J2];exact Nat.le_succ _) hn I6.free (ziF I2 f2 U0 (by rfl) I6) qn)
  ·refine wpAny_mono (T.item (cxC X (x::ys) scope cl {s2 with heap:=s2.heap.push {cls:=.type "list",dict:=none,data:=.seq ([]:QO).toArray}} (upd H2 s2.heap.objs.size (.lst [])) fp) rfl rfl rfl hc i _ s5 _ H5 _ I5 (stat fr5) st5 go) (λr s6 ⟨u,hr,h6⟩=>?_) λ_ _ e=>e;subst hr;refine Ja (wpAny_mono h6 (λ_ s7 ⟨v,H7,I7,r7,y7,st7,fr7⟩=>?_) λ_ _ e=>e);have I7':=I7.pinned (stat fr7) (T.obj _ _ st7);have G:PG (cxC X (x::ys) scope cl {s2 with heap:=s2.heap.push {cls:=.type "list",dict:=none,data:=.seq ([]:QO).toArray}} (upd H2 s2.heap.objs.size (.lst [])) fp) (.Name x px) (zbN 0):=
    zhu S.nd rfl (.inl (lookup_relabel_local S.tgt)) (.inr (lookup_relabel_local S.tgt))
   refine Ja (wpAny_mono (G _ s7 _ H7 v u (fun σ8 H8=>σ8=some v::frees σ js/\H8=H7) I7' r7 ⟨rfl,rfl⟩) (λ_ s8 ⟨σ8,H8,I8,e8,e8'⟩=>?_) λ_ _ e=>e.elim);subst e8 e8';refine Ja (wpAny_mono (ht _ _ _ _ s8 _ _ _ I8 (step v _ y7)) (λok s9 ⟨H9,I9,q9⟩=>?_) λ_ _ e=>e.elim);have again:∀{acc':QR}{H10:Hp}{s10:Shared},Inv (cxC X (x::ys) scope cl {s2 with heap:=s2.heap.push {cls:=.type "list",dict:=none,data:=.seq ([]:QO).toArray}} (upd H2 s2.heap.objs.size (.lst [])) fp) (X.pn++pins++zff fp s7.heap) (some v::frees σ js) H10 s10->
     (∃m',m' < n/\Y1 (i+1) m' acc' H10)->∃m,m < n/\∃i acc v0 H',Inv (cxC X (x::ys) scope cl {s2 with heap:=s2.heap.push {cls:=.type "list",dict:=none,data:=.seq ([]:QO).toArray}} (upd H2 s2.heap.objs.size (.lst [])) fp) (X.pn++pins) (v0::frees σ js) H' s10/\tn i s10.heap/\(∀b∈fp,H' b=none)/\Y1 i m acc H':=λ{acc' H10 s10} I10 ⟨m',hm,w10⟩=>by
    refine⟨m',hm,i+1,acc',some v,H10,I10.unpinned,T.keep _ _ _ st7 λb hb o e=>(I10.pin (b,o) (Jh _ (Jh _ (zb4 hb e)))).1,λb hb=>?_,w10⟩;obtain⟨o,e,d⟩:=T.obj _ _ st7 b hb;exact(I10.pin (b,o) (Jh _ (Jh _ (zb4 hb e)))).2.1
   cases ok with
   | false=>rw[if_neg Jc] at q9;exact wpAny_pure ⟨rfl,again I9 q9⟩
   | true=>
    rw[if_pos rfl] at q9;refine Ja (Ja (wpAny_mono (he _ _ _ _ s9 _ _ _ (I9.wish _) q9) (λy s10 ⟨z,H10,I10',r10,e10,l10,w10⟩=>?_) hW));have I10:=I10'.unwish;refine Ja (wpAny_mono (zgY (X:=cxC X (x::ys) scope cl {s2 with heap:=s2.heap.push {cls:=.type "list",dict:=none,data:=.seq ([]:QO).toArray}} (upd H2 s2.heap.objs.size (.lst [])) fp) _ s10 _ H10 (.ref s2.heap.objs.size) [z] (.ref s2.heap.objs.size) [y] (λ_ H'=>H'=upd H10 s2.heap.objs.size (.lst (acc++ [z]))) I10 rfl (.cons r10 .nil) ⟨_,acc,z,rfl,rfl,e10,l10,rfl⟩)
     (λ_ s11 ⟨_,H11,I11,_,e11⟩=>?_) λ_ _ e=>e.elim)
    subst e11;exact wpAny_pure (wpAny_pure ⟨rfl,again I11 w10⟩)
 exact codeAny_compStart_list loop (T.self _ 0 _ _ _ st4 loop)
def CRun (X:Cx)(x:Str)(px:Pos)(iter elt:Expr)(ifs:List Expr)(js:List Nat)(scope:Scope)(cl:List (Str ×Addr))(pos:Pos)(tt:TT)(te:TE):Prop:=
 ∀{pins:QE}{σ:St}{s2:Shared}{H2:Hp}{it:Addr}{fp:QP}{tn:Nat->Heap->Prop}{J:It},Inv X pins σ H2 s2->Turn X.prog X.w X.K (.Name x px) J fp it tn->tn 0 s2.heap->(∀b∈fp,FpOk X pins H2 b)->
  ∀{Q:VK},(∀p,H2 p=none->zkx J p σ js tt te H2 Q)->∀{use:Option (Value->Sem Unit)}{F:QC},
  (∀(p:Addr)(C:Addr)(H':Hp)(s':Shared)(m:QB),s2.heap.objs.size<=C->s'.heap.Ns C m->H' C=none->Inv X pins σ H' s'->Q (.ref p) H'->compPost (model X.prog X.w) X.A X.xe use F (.ref p) C (.ok .next) s')->
  wpAny (model X.prog X.w) X.A (newList []) (λacc s₃=>wpAny (model X.prog X.w) X.A (newFunctionEnv scope X.env.globals cl [] X.env.qual none .none (some X.env)) (λcenv s₄=>
   codeAny (model X.prog X.w) X.A (.compStart (.ListComp elt [⟨.Name x px,iter,ifs,0⟩] scope pos) 0 (.ref it) acc {cenv with scope:=relabel scope X.env}) (compPost (model X.prog X.w) X.A X.xe use F acc cenv.locals) s₄) X.xe s₃) X.xe s2
def crun (S:zm X x ys js scope cl)(hc:X.calm=true)(ht:∀s₀ H₀ ex,PTs (cxC X (x::ys) scope cl s₀ H₀ ex) ifs tt)(he:∀s₀ H₀ ex,PE (cxC X (x::ys) scope cl s₀ H₀ ex) elt te):CRun X x px iter elt ifs js scope cl pos tt te:=
 λI2 T st2 f2 _ q _ _ hR=>zgk (W:=λ_ _ _ _ _=>False) S hc ht he I2 T st2 f2 q hR λ_ _ z=>z.elim
def zgM (hr:CRun X x px iter elt ifs js scope cl pos tt te)(S:zm X x ys js scope cl)(hi:PI X (.Name x px) iter wi)
  (hs:∀x,foldedSetIterable iter X.env x=pure x:=by intro _;rfl):PE X (.ListComp elt [⟨.Name x px,iter,ifs,0⟩] scope pos) (zgH wi js tt te):=by
 intro pins s σ H Q I h;rw[eval_ListComp];refine wpAny_comprehension_free (use:=none) rfl hs S.clos S.kind S.names (thn (hi pins s σ H _ I h) λv s1 h1=>thn h1 λitv s2 h2=>?_);obtain⟨it,fp,tn,J,H2,e,I2,T,st2,f2,q⟩:=h2;subst e;refine hr I2 T st2 f2 (Q:=Q) q λp C H' s' m hC hn hf I' q'=>?_;refine⟨m,hn,λh' hb=>⟨.ref p,H',?_,rfl,q'⟩⟩;exact I'.turned (it:=C) (t':=s'.toks) (λb o hne e=>hb.extBut b o hne e) hf (Nat.ne_of_gt (Je I2.lt hC)) (.inr (Jg I2.sz hC))
  (λy c e z=>by obtain⟨v,w⟩:=I2.cell y c e;subst z;exact Jv _ (Je w.lt hC)) λp hp z=>by have q:=JF (I2.pin p hp).1;rw[z] at q;exact Jv _ (Je q hC)
def za8 (S:zm X x ys js scope cl)(hc:X.calm=true)(hi:PI X (.Name x px) iter wi)(ht:∀s₀ H₀ ex,PTs (cxC X (x::ys) scope cl s₀ H₀ ex) ifs tt)(he:∀s₀ H₀ ex,PE (cxC X (x::ys) scope cl s₀ H₀ ex) elt te)
  (hs:∀x,foldedSetIterable iter X.env x=pure x:=by intro _;rfl):PE X (.ListComp elt [⟨.Name x px,iter,ifs,0⟩] scope pos) (zgH wi js tt te):=
 zgM (crun S hc ht he) S hi hs
def zgN {i:Nat}{y:Str}{py spos:Pos}(hr:CRun X x px iter elt ifs js scope cl pos tt te)(S:zm X x ys js scope cl)(hi:PI X (.Name x px) iter wi)
  (hN:X.N.Nodup) (hy:X.N[i]? =some y) (hx:Loc X.env.scope y) (hsw:swapsWith (.ListComp elt [⟨.Name x px,iter,ifs,0⟩] scope pos) (some (.Name y py)) spos.line X.env=pure true)
  (hf:X.fn y=true\/X.env.scope.names.lookup y=some .local:=by first | exact .inl rfl | exact .inr rfl | assumption)
  (hs:∀x,foldedSetIterable iter X.env x=pure x:=by intro _;rfl):PS X (.Assign [.Name y py] (.ListComp elt [⟨.Name x px,iter,ifs,0⟩] scope pos) spos) (tAsg (zgH wi js tt te) (zbN i)):=by
 intro pins s σ H D I h;rw[exec_Assign_Name_used _ _ _ _ hsw];refine Ja (wpAny_standAt (Ja ?_));show wpAny _ X.A (do let _<-comprehension (.ListComp elt [⟨.Name x px,iter,ifs,0⟩] scope pos) scope X.env _ (newList []) false (eval iter X.env) (some (assign (.Name y py) X.env))) _ _ s;refine Ja (wpAny_mono (wpAny_comprehension_free (use:=some (assign (.Name y py) X.env)) (Q:=λ_ s'=>SP X pins D .next s') rfl hs S.clos S.kind S.names
  (thn (hi pins s σ H _ I h) λv s1 h1=>thn h1 λitv s2 h2=>?_)) (λ_ s' hq=>wpAny_pure (wpAny_pure hq)) λ_ _ e=>e)
 obtain⟨it,fp,tn,J,H2,e,I2,T,st2,f2,q⟩:=h2;subst e;refine hr I2 T st2 f2 (Q:=λx H1=>zbN i x σ H1 D.nx) q λp C H' s' m hC hn hf' I' q'=>?_;have neL:C≠X.env.locals:=Nat.ne_of_gt (Je I2.lt hC);have nfs:C∉X.fs:=I2.nofs hC;have hn0:=hn;obtain⟨o,es,ep,ho,hd,r⟩:=hn;have Ip:Inv X (pins++ [(C,o)]) σ H' s':=I'.pins_of λp hp=>(Jm.mp hp).elim (λz=>I'.pin p (Jh _ z)) λz=>by
  have e:p=(C,o):=by simpa using z
  subst e;exact⟨ho,hf',neL,nfs,λv w=>by rw[hd] at w;cases w⟩
 show wpAny _ _ (assign (.Name y py) X.env (.ref p)) _ _ s';refine thn (zhu (pos:=py) hN hy hx hf _ s' σ H' (.ref p) (.ref p) _ Ip rfl q') λ_ s'' ⟨σ8,H8,I8,q8⟩=>?_;have pc:=I8.pin (C,o) (Jh _ (Jh _ (by simp)));refine⟨m,⟨o,es,ep,pc.1,hd,r⟩,λh' hb=>⟨σ8,H8,?_,q8⟩⟩;have I9:Inv X pins σ8 H8 s'':=I8.pins_of λp hp=>I8.pin p (Jh _ (Jp _ hp));exact I9.turned (it:=C) (t':=s''.toks) (λb o hne e=>hb.extBut b o hne e) pc.2.1 neL (.inr (Jg I2.sz hC))
  (λy c e z=>by obtain⟨v,w⟩:=I2.cell y c e;subst z;exact Jv _ (Je w.lt hC)) λp hp z=>by have q:=JF (I2.pin p hp).1;rw[z] at q;exact Jv _ (Je q hC)
def zny {i:Nat}{y:Str}{py spos:Pos}(S:zm X x ys js scope cl)(hc:X.calm=true)(hi:PI X (.Name x px) iter wi)(ht:∀s₀ H₀ ex,PTs (cxC X (x::ys) scope cl s₀ H₀ ex) ifs tt)(he:∀s₀ H₀ ex,PE (cxC X (x::ys) scope cl s₀ H₀ ex) elt te)
  (hN:X.N.Nodup) (hy:X.N[i]? =some y) (hx:Loc X.env.scope y) (hsw:swapsWith (.ListComp elt [⟨.Name x px,iter,ifs,0⟩] scope pos) (some (.Name y py)) spos.line X.env=pure true)
  (hf:X.fn y=true\/X.env.scope.names.lookup y=some .local:=by first | exact .inl rfl | exact .inr rfl | assumption)
  (hs:∀x,foldedSetIterable iter X.env x=pure x:=by intro _;rfl):PS X (.Assign [.Name y py] (.ListComp elt [⟨.Name x px,iter,ifs,0⟩] scope pos) spos) (tAsg (zgH wi js tt te) (zbN i)):=
 zgN (crun S hc ht he) S hi hN hy hx hsw hf hs
def zou (i j:Int):Prop:=0 < j/\j < 10 ^ 100
def zou.log (h:zou i j):j.natAbs.log2 < 9000:=by
 have h1:j.natAbs < 10 ^ 100:=by have:=h.1;have:=h.2;lia
 have h2:j.natAbs < 2 ^ 400:=Nat.lt_trans h1 (by decide+kernel);have h3:j.natAbs≠0:=by have:=h.1;lia
 have:=(Nat.log2_lt h3).mpr h2;lia
def zn0:OpR X (binaryOp .FloorDiv) (rI zou λi j=>.int (i / j)):=opI λi j _ _ _ _ _ hc q=>by rw[<-Int.fdiv_eq_ediv_of_nonneg i (Int.le_of_lt hc.1)] at q;exact floordiv_int (by have:=hc.1;lia) q (.inl (PyProof.noPylong_of_log2 hc.log))
def ztB (K:QA):List V->Hp->VK->Prop:=λxs H Q=>∃x T t b,xs=[x,.ty T]/\TyOf K H x t/\PySem.W.kitOne K t (.type T)=some b/\Q (.bl b) H
def zi9:zal X (.builtin "isinstance") (ztB X.K):=by intro pins s σ H xs us Q I r h;obtain⟨x,T,t,b,rfl,ty,e,q⟩:=h;obtain⟨u,w',rfl,ru,rw'⟩:=vals2 r;cases (show w'=Value.type T from rw');exact zl3 I ru ty e λtk=>⟨.bl b,H,I.tok tk,rfl,q⟩
example (K:QA):PySem.W.kitOne K (.type "NoneType") (.type "int")=some false:=by rfl
example (K:QA):PySem.W.kitOne K (.type "int") (.type "int")=some true:=by rfl
example (K:QA):PySem.W.kitOne K (.type "tuple") (.type "str")=some false:=by rfl
example (K:QA):PySem.W.kitOne K (.type "bool") (.type "int")=some true:=by rfl
example (K:QA):PySem.W.kitOne K (.type "str") (.type "bool")=some false:=by rfl
def Its (x:Str):It:=⟨λi _=>i < x.cps.size,λi H v H'=>H'=H/\∃c,x.cps[i]? =some c/\v=.str ⟨#[c]⟩,λi _=>x.cps.size<=i⟩
def zis {P:Program}{w:World}{K:QA}{tg:Expr}{x:Str}{it:Addr}{n:String}{t:Tok}(hn:["enumerate","zip","dict_itemiterator","dict_reverseitemiterator","odict_iterator","itertools.zip_longest","itertools.pairwise"].contains n=false)
  (W:∀A':Around,A'.handled=none->Walks P w A' it [it] [it] x.cps.size (SignAt x) (λi h=>h.IsStrIter it n x t i))
  (E0:∀(A':Around)(s:Shared)(Q:Option Value->Shared->Prop)(E:QC)(i:Nat),A'.handled=none->s.heap.IsStrIter it n x t i->x.cps.size<=i->(∀h',(∀b o,b≠it->s.heap.get? b=some o->h'.get? b=some o)->Q none {s with heap:=h'})->wpAny (model P w) A' (pyNext (.ref it)) Q E s)
  (S0:∀(A':Around)(s:Shared)(Q:QC)(E:QC)(i:Nat),s.heap.IsStrIter it n x t i->Q (.ref it) s->wpAny (model P w) A' (pyIter (.ref it)) Q E s):
  Turn P w K tg (Its x) [it] it (λi h=>h.IsStrIter it n x t i) where
 mem:=by simp
 obj:=λi h st b hb=>by
  have e:b=it:=by simpa using hb
  subst e;obtain⟨o,e,c,d⟩:=st;exact⟨o,e,λv z=>by rw[d] at z;cases z⟩
 keep:=λi h h' st k=>by obtain⟨o,e,r⟩:=st;exact⟨o,k it (by simp) o e,r⟩
 item:=by intro X hP hw hK hc i pins s σ H E I hf st hg;subst hP hw hK;obtain⟨f0,f1,f2,f3,f4,f5⟩:=hf it (by simp);refine(W X.A (I.ok.hd hc)).item i s _ _ hg st λv h' tk hv st' kk=>?_;obtain⟨c,u,hc',rfl⟩:=hv;have I1:Inv X pins σ H {s with heap:=h',toks:=tk}:=I.turned (λb o hb e=>kk b o (by simpa using hb) e) f0 f1 f3 f4 f5;obtain⟨o,e,cl,d⟩:=id st';exact⟨_,rfl,zgD (s:={s with heap:=h',toks:=tk}) e cl d hn ⟨.str ⟨#[c]⟩,H,I1,⟨u,rfl⟩,⟨rfl,c,hc',rfl⟩,st',λb hb=>(hf b hb).1⟩⟩
 done:=by intro X hP hw hK hc i pins s σ H E I hf st hg;subst hP hw hK;obtain⟨f0,f1,f2,f3,f4,f5⟩:=hf it (by simp);exact E0 X.A s _ _ i (I.ok.hd hc) st hg λh' eb=>⟨rfl,I.turned (t':=s.toks) (λb o hb e=>eb b o hb e) f0 f1 f3 f4 f5⟩
 self:=λA i s Q E st h=>S0 A s Q E i st h
def iStr (tl:TE):TI:=fun σ H R=>tl σ H λx H1=>∃z,x=.str z/\R (Its z) H1
def znq (hl:PE X l tl):PI X tg l (iStr tl):=by
 intro pins s σ H R I h;refine thn (hl pins s σ H _ I h) λv s1 ⟨x,H1,I1,r1,q1⟩=>?_;obtain⟨z,rfl,q⟩:=q1;obtain⟨t,rfl⟩:=r1;have fp:∀b∈ [s1.heap.objs.size],FpOk X pins H1 b:=λb hb=>by
  have e:b=s1.heap.objs.size:=by simpa using hb
  subst e;exact I1.fpOk (Jb _) (I1.hok.fresh (Jb _))
 cases ha:z.cps.all (· < 128)
 ·refine wpAny_pyIter_wide ha ?_;exact⟨s1.heap.objs.size,[s1.heap.objs.size],_,_,H1,rfl,I1.kept (t':=s1.toks) λb o e=>JC _ e,
   zis (n:= "str_iterator") (t:=t) (by decide) (λA' hA=>Walks.strWide hA _ z t) (λA' s Q E i hA st hi hQ=>wpAny_pyNext_wide_end hA st (by simpa using hi) λh' he'=>hQ h' λb o hb e=>he' b o hb e) (λA' s Q E i st hQ=>wpAny_pyIter_striter_wide st hQ),
   ⟨_,JJ _ rfl,rfl,rfl⟩,fp,q⟩
 ·refine wpAny_pyIter_ascii ha ?_;exact⟨s1.heap.objs.size,[s1.heap.objs.size],_,_,H1,rfl,I1.kept (t':=s1.toks) λb o e=>JC _ e,
   zis (n:= "str_ascii_iterator") (t:=t) (by decide) (λA' hA=>Walks.strAscii hA _ z t) (λA' s Q E i hA st hi hQ=>wpAny_pyNext_ascii_end hA st (by simpa using hi) λh' he'=>hQ h' λb o hb e=>he' b o hb e) (λA' s Q E i st hQ=>wpAny_pyIter_striter_ascii st hQ),
   ⟨_,JJ _ rfl,rfl,rfl⟩,fp,q⟩
def zkL {z:Str}{g:TG}{tb:TS}{D:Ends}{σ:St}{H:Hp}(Pv:Nat->St->Hp->Prop)(h0:Pv 0 σ H)
  (hs:∀i c σ H,z.cps[i]? =some c->Pv i σ H->g (.str ⟨#[c]⟩) σ H fun σ2 H2=>tb {D with nx:=Pv (i+1),ct:=Pv (i+1),bk:=D.nx} σ2 H2) (hd:∀σ H,Pv z.cps.size σ H->D.nx σ H):
  ∃W:Nat->Nat->St->Hp->Prop,(∃m,W 0 m σ H)/\∀i m σ H,W i m σ H->
   ((Its z).stop i H/\D.nx σ H)\/((Its z).go i H/\∃N:St->Hp->Prop,(∀σ' H',N σ' H'->∃m',m' < m/\W (i+1) m' σ' H')/\∀x H',(Its z).yld i H x H'->g x σ H' fun σ2 H2=>tb {D with nx:=N,ct:=N,bk:=D.nx} σ2 H2):=by
 refine⟨λi m σ H=>m=z.cps.size - i/\i<=z.cps.size/\Pv i σ H,⟨z.cps.size,by simp,JM _,h0⟩,?_⟩;rintro i m σ H ⟨rfl,hi,p⟩;by_cases hlt:i < z.cps.size
 ·refine .inr ⟨hlt,Pv (i+1),fun σ' H' p'=>⟨z.cps.size - (i+1),by lia,rfl,hlt,p'⟩,λx H' y=>?_⟩;obtain⟨e,c,ec,ex⟩:=y;subst e ex;exact hs i c σ _ ec p
 ·have e:i=z.cps.size:=by lia
  subst e;exact .inl ⟨Jb _,hd σ H p⟩
def Itrs (lo st:Int)(n:Nat):It:=⟨λi _=>i < n,λi H x H'=>H'=H/\x=.int (lo+i * st),λi _=>n<=i⟩
def zi5 {P:Program}{w:World}{K:QA}{tg:Expr}(it:Addr)(lo st:Int)(n:Nat):Turn P w K tg (Itrs lo st n) [it] it (λi h=>IsRangeIter h it (lo+(i:Nat) * st) ((n:Int) - (i:Nat)) st) where
 mem:=by simp
 obj:=λi h st b hb=>by
  have e:b=it:=by simpa using hb
  subst e;exact⟨_,st,λv z=>by have z':Data.fields _=Data.cell v:=z;cases z'⟩
 keep:=λi h h' st k=>k it (by simp) _ st
 item:=by intro X hP hw hK hc i pins s σ H E I hf st' hg;subst hP hw hK;obtain⟨f0,f1,f2,f3,f4,f5⟩:=hf it (by simp);have W:=Walks.range (prog:=X.prog) (w:=X.w) (I.ok.hd hc) it lo st n;refine W.item i s _ _ hg st' λv h' tk hv st'' kk=>?_;obtain⟨t,rfl⟩:=hv;have I1:Inv X pins σ H {s with heap:=h',toks:=tk}:=I.turned (λb o hb e=>kk b o (by simpa using hb) e) f0 f1 f3 f4 f5;exact⟨_,rfl,zgD (s:={s with heap:=h',toks:=tk}) (n:= "range_iterator") st'' rfl rfl (by decide) ⟨.int (lo+i * st),H,I1,⟨t,rfl⟩,⟨rfl,rfl⟩,st'',λb hb=>(hf b hb).1⟩⟩
 done:=by intro X hP hw hK hc i pins s σ H E I hf st' hg;subst hP hw hK;obtain⟨f0,f1,f2,f3,f4,f5⟩:=hf it (by simp);exact wpAny_pyNext_range_end (I.ok.hd hc) st' (by have:n<=i:=hg;lia) λh' eb=>⟨rfl,I.turned (t':=s.toks) (λb o hb e=>eb b o hb e) f0 f1 f3 f4 f5⟩
 self:=λ_ _ _ _ _ st h=>wpAny_pyIter_rangeiter st h
def ztG (ta:TA):TI:=fun σ H R=>ta σ H λvs H1=>∃j c:Int,vs=[.int 0,.int j,.int c]/\0<=j/\j < 2 ^ 60/\0 < c/\c < 1000/\R (Itrs 0 c ((j+c - 1) / c).toNat) H1
theorem zfA {j c:Int}(h0:0<=j)(hc:0 < c):Builtin.Range.rangeSize 0 j c=(j+c - 1) / c:=by
 unfold Builtin.Range.rangeSize;rw[if_pos hc];by_cases h:(0:Int) < j
 ·rw[if_pos h];have e:j+c - 1=(j - 0 - 1)+c * 1:=by lia
  rw[e,Int.add_mul_ediv_left _ _ (by lia)]
 ·rw[if_neg h];have e:j=0:=by lia
  subst e;rw[Int.ediv_eq_zero_of_lt (by lia) (by lia)]
def vals3 {x y z:V}(r:Vals [x,y,z] us):∃u v w',us=[u,v,w']/\RelV x u/\RelV y v/\RelV z w':=by
 cases r with
 | cons r1 r=>cases r with
  | cons r2 r=>cases r with
   | cons r3 r=>cases r;exact⟨_,_,_,rfl,r1,r2,r3⟩
def ziU {j c:Int}(h0:0<=j)(h1:j < 2 ^ 60)(hc:0 < c)(hc2:c < 1000):Builtin.Range.small 0 j c=true:=by have b1:(j+c - 1) / c<=j+c - 1:=Int.ediv_le_self _ (by lia);have b2:0<=(j+c - 1) / c:=Int.ediv_nonneg (by lia) (by lia);unfold Builtin.Range.small;rw[zfA h0 hc];simp only[Builtin.Range.rangeFitsLong,Nk,Bool.or_eq_true,decide_eq_true_eq,beq_iff_eq];generalize(j+c - 1) / c=d at b1 b2 ⊢;have hc':c > 0:=hc;simp only[hc',if_true,Nk,decide_eq_true_eq];lia
def _root_.Jj:=@List.mem_singleton
def zg0 {a b c:Expr}{p pos:Pos}(hg:Gl X "range") (hm:X.mg "range" =none) (ha:PA X [a,b,c] ta) (hs:starEach [a,b,c] X.env=[(false,eval a X.env),(false,eval b X.env),(false,eval c X.env)]:=by rfl)
  (hs2:starEach [b,c] X.env=[(false,eval b X.env),(false,eval c X.env)]:=by rfl):PI X tg (.Call (.Name "range" p) [a,b,c] [] pos) (ztG ta):=by
 intro pins s σ H R I h;refine Call_ (zce I hg hm boot_range (PyProof.Rows.callWith_type1 (thn (ha pos pins s σ H _ I h) λus s1 ⟨vs,H1,I1,r1,q1⟩=>?_) (by rw[hs,hs2]) (by rw[hs2];rfl)));obtain⟨j,c,rfl,h0,h1,hc,hc2,q⟩:=q1;obtain⟨u,v,w',rfl,⟨t1,rfl⟩,⟨t2,rfl⟩,⟨t3,rfl⟩⟩:=vals3 r1;refine call_range_3 (by lia) ?_ (.inl (PyProof.noPylong_small (by lia)));refine wpAny_pyIter_range (IsRange.new ..) (ziU h0 h1 hc hc2) ?_;have I2:Inv X pins σ H1 {s1 with heap:=s1.heap.push {cls:=.type "range",data:=.fields #[.int 0 t1,.int j t2,.int c t3]}}:=I1.kept (t':=s1.toks) λb o e=>JC _ e;refine⟨_,[_],_,_,H1,rfl,I2.kept (t':=s1.toks) λb o e=>JC _ e,zi5 _ 0 c ((j+c - 1) / c).toNat,?_,λb hb=>?_,q⟩
 ·have b2:0<=(j+c - 1) / c:=Int.ediv_nonneg (by lia) (by lia);have e1:(0:Int)+((0:Nat):Int) * c=0:=by simp
  have e2:(((((j+c - 1) / c).toNat:Nat):Int) - ((0:Nat):Int))=Builtin.Range.rangeSize 0 j c:=by rw[zfA h0 hc];lia
  show IsRangeIter _ _ ((0:Int)+((0:Nat):Int) * c) (((((j+c - 1) / c).toNat:Nat):Int) - ((0:Nat):Int)) c;rw[e1,e2];exact JJ _ rfl
 ·have e:=Jj.mp hb;subst e;exact I2.fpOk (Jb _) (I2.hok.fresh (Jb _))
end
def cutS (x:Str)(lo hi:Option Int):Str:=⟨((x.cps.toList.drop (HT.sIx x.length 0 lo)).take (HT.sIx x.length x.length hi - HT.sIx x.length 0 lo)).toArray⟩
def _root_.Jr:=@List.take_of_length_le
def _root_.JB:=@List.getElem?_eq_getElem
def _root_.JV:=@List.getElem?_eq_none
def _root_.Na:=@List.take_add_one
theorem zoj (l:List Nat)(i k:Nat):(List.range k).filterMap (λm=>l[i+m]?)=(l.drop i).take k:=by
 induction k with
 | zero=>simp
 | succ k ih=>
  rw[List.range_succ,List.filterMap_append,ih];by_cases h:i+k < l.length
  ·have e:l[i+k]? =some l[i+k]:=JB h;rw[Na];simp[List.getElem?_drop,e]
  ·have e:l[i+k]? =none:=JV (by lia);have e2:((l.drop i).take (k+1))=(l.drop i).take k:=by rw[Jr (by rw[Nj];lia),Jr (by rw[Nj];lia)]
   rw[e2];simp[e]
theorem zkQ (lo hi:Option Int)(n:Nat):Builtin.Str.strSliceIndices lo hi 1 n=(List.range (HT.sIx n n hi - HT.sIx n 0 lo)).map λk=>HT.sIx n 0 lo+k:=by
 have c0:∀(v:Int)(d:Nat),(max 0 (min (if v < 0 then v+(n:Int) else v) (n:Int)))=((HT.sIx n d (some v):Nat):Int):=λv d=>by
  rw[<-HT.clip_eq v n d];by_cases h:v < 0
  ·simp only[if_pos h];lia
  ·simp only[if_neg h];lia
 have key:∀a b:Nat,sliceRange (a:Int) (b:Int) 1=(List.range (b - a)).map λk=>a+k:=λa b=>by
  unfold sliceRange;have e1:(if (1:Int) > 0 then(if (a:Int) < (b:Int) then((b:Int) - (a:Int)+1 - 1) / 1 else 0) else(if (a:Int) > (b:Int) then((a:Int) - (b:Int) - 1 - 1) / (-1) else 0)).toNat=b - a:=by
   rw[if_pos (by decide)];split
   ·rw[Int.ediv_one];lia
   ·lia
  show List.map _ (List.range (if (1:Int) > 0 then(if (a:Int) < (b:Int) then((b:Int) - (a:Int)+1 - 1) / 1 else 0) else(if (a:Int) > (b:Int) then((a:Int) - (b:Int) - 1 - 1) / (-1) else 0)).toNat)=_;rw[e1];refine List.map_congr_left λk _=>?_;show((a:Int)+1 * (k:Int)).toNat=a+k;lia
 unfold Builtin.Str.strSliceIndices;simp only[show(1:Int) > 0 by decide,if_true];cases lo with
 | none=>
  cases hi with
  | none=>exact key 0 n
  | some v=>dsimp only;rw[c0 v n];exact key 0 _
 | some u=>
  cases hi with
  | none=>dsimp only;rw[c0 u 0];exact key _ n
  | some v=>dsimp only;rw[c0 u 0,c0 v n];exact key _ _
def _root_.Nz:=@List.length_range
theorem zl6 (x:Str)(lo hi:Option Int):Txt.slice x lo hi=cutS x lo hi:=by
 have h1:=HT.sIx_le x.length 0 (JM _) lo;have h2:=HT.sIx_le x.length x.length (Jb _) hi;have hn:x.cps.toList.length=x.length:=Nf;have e:((Builtin.Str.strSliceIndices lo hi 1 x.length).filterMap (x.cps[·]?))=(x.cps.toList.drop (HT.sIx x.length 0 lo)).take (HT.sIx x.length x.length hi - HT.sIx x.length 0 lo):=by rw[zkQ,List.filterMap_map,<-zoj];refine congrArg (λf=>List.filterMap f _) ?_;funext m;show x.cps[_]? =x.cps.toList[_]?;rw[JZ]
 unfold Txt.slice cutS;split
 ·rename_i h;have hl:(Builtin.Str.strSliceIndices lo hi 1 x.length).length=x.length:=by simpa using h
  rw[zkQ,JE,Nz] at hl;have a0:HT.sIx x.length 0 lo=0\/x.length=0:=by lia
  rcases a0 with a0 | a0
  ·rw[a0,List.drop_zero,Nat.sub_zero,Jr (by lia)]
  ·have en:x.cps.toList=[]:=List.eq_nil_of_length_eq_zero (by lia);rw[en,List.drop_nil,List.take_nil];have:x.cps= #[]:=by rw[<-Array.toList_inj];exact en
   rcases x with ⟨c⟩;rw[show c= #[] from this]
 ·rw[e]
section
variable {X:Cx}
def rSlS:V->Option Int->Option Int->Hp->VK->Prop:=λx lo hi H Q=>∃z,x=.str z/\z.length<=sizeLine/\Q (.str (cutS z lo hi)) H
def zrB:SlR X rSlS:=by
 intro pins s σ H x v vl vu lo hi sl Q I rx hs pl pu h;obtain⟨z,rfl,hz,q⟩:=h;obtain⟨t,rfl⟩:=rx;refine⟨"str",_,F.slot_str_getitem.lookup,typeIs_str _ _ _,?_⟩;have main:∀(l u:Option (Int ×Tok)),vl=partValue l->vu=partValue u->lo=l.map (·.1)->hi=u.map (·.1)->wpAny (model X.prog X.w) X.A (getItem (.str z t) (.ref sl)) (EP X pins σ Q) X.xe s:=λl u e1 e2 e3 e4=>by subst e1 e2 e3 e4;refine wpAny_getItem_str_slice (l:=l) (u:=u) (st:=none) hs rfl (post_val_or_str ⟨Jg (Txt.slice_le z _ _) hz,λt' k=>?_⟩);show EP X pins σ Q (.str (Txt.slice z (l.map (·.1)) (u.map (·.1))) t') _;rw[zl6];exact⟨.str _,H,I.tok k,⟨_,rfl⟩,q⟩
 cases pl with
 | none=>
  cases pu with
  | none=>exact main none none rfl rfl rfl rfl
  | int j u=>exact main none (some (j,u)) rfl rfl rfl rfl
 | int i t'=>
  cases pu with
  | none=>exact main (some (i,t')) none rfl rfl rfl rfl
  | int j u=>exact main (some (i,t')) (some (j,u)) rfl rfl rfl rfl
end
structure Dfn (K:QA)(mg:QB)(x:Str)(st:Stmt)(ps:QQ):Prop where
 ex:∃f fd,Fun K x x st f fd/\Binds K fd ps []/\mg x=some (.ref f)
structure Fn (P:Program)(w:World)(K:QA)(mg:QB)(base:Heap)(x:Str)(k:Nat)(ps:QQ)(sp:Sp):Prop where
 ex:∃f fd,FnOk P w K mg base CX0 k f fd ps sp/\Binds K fd ps []/\PySem.W.keepIn K (.ref f)=true/\mg x=some (.ref f)
section
variable {P:Program}{w:World}{K:QA}{mg:QB}{base:Heap}{x:Str}{st:Stmt}{ps N:QQ}{sp sp':Sp}{k:Nat}
abbrev Bd0 (P:Program)(w:World)(K:QA)(mg:QB)(base:Heap)(N:QQ)(q:Str)(st:Stmt)(k:Nat)(sp:Sp):Prop:=∀(f:Addr)(cdv:Value)(A:Around)(outer:List Env)(s:Shared)(H:Hp)(vs:QR)(Q:VK)(E:XK),Room k (A.deeper (envOfC q (zo st) s.heap.objs.size f cdv))->sp vs H Q E->
 ∃t,PSs (cxOf CX0 P w K mg base N q (zo st) f cdv A outer s H E).nox (zD st) t/\t {nx:=λ_ H'=>Q .non H',rt:=Q} (start N vs) H
def Dfn.ok (D:Dfn K mg x st ps)(S:zaj N ps (zo st))(hbody:Bd0 P w K mg base N x st k sp)
  (len:∀vs H Q E,sp vs H Q E->vs.length=ps.length:=by intro vs H Q E h;cases h;subst_vars;rfl):Fn P w K mg base x (k+1) ps sp:=by
 obtain⟨f,fd,F,b,m⟩:=D.ex;exact⟨f,fd,F.ok S len (λcdv A outer s H vs Q E hr h=>hbody f cdv A outer s H vs Q E hr h),b,F.kp,m⟩
def Dfn.never (D:Dfn K mg x st ps)(no:∀vs H Q E,¬sp vs H Q E):Fn P w K mg base x k ps sp:=by obtain⟨f,fd,F,b,m⟩:=D.ex;exact⟨f,fd,⟨λvs H Q E h=>Jf h (no vs H Q E),λA outer s H args us vs Q E _ _ _ _ h=>Jf h (no vs H Q E)⟩,b,F.kp,m⟩
variable {X:Cx}{k':Nat}{e:Expr}{es:List Expr}{t:TA}{p pos:Pos}
def znR (F:Fn X.prog X.w X.K X.mg X.base x k ps sp)(hr:Room k' X.A)(ha:PA X (e::es) t)(hle:k<=k':=by lia)(hg:Gl X x:=by rfl)(hd:(x==("__debug__" :Str))=false:=by decide)
  (he:starEach (e::es) X.env=(false,eval e X.env)::starEach es X.env:=by rfl) (hpl:∀pos,(backTo pos (starEach es X.env)).any (·.1)=false:=by intro _;rfl):PE X (.Call (.Name x p) (e::es) [] pos) (zgo sp [] E0 t):=by
 obtain⟨f,fd,a,b,kp,m⟩:=F.ex;exact zkI a (hr.mono hle) hg m kp b .nil ziT ha hd he (hpl _)
end
end L2
namespace Pv
open PySem L2
inductive Th where
 | non
 | int (i:Int)
 | str (x:Str)
 | tup (ts:List Th)
mutual
def nodes:Th->Nat
 | .non=>1
 | .int _=>1
 | .str _=>1
 | .tup ts=>1+zK ts
def zK:List Th->Nat
 | []=>0
 | t::r=>nodes t+zK r
end
mutual
def dep:Th->Nat
 | .non=>0
 | .int _=>0
 | .str _=>0
 | .tup ts=>depL ts+1
def depL:List Th->Nat
 | []=>0
 | t::r=>max (dep t) (depL r)
end
def Sign (c:Nat):Prop:=32<=c/\c<=126/\c≠37
def ziD (x:Str):Prop:=x.length<=60/\∀c∈x.cps.toList,Sign c
mutual
def Wf:Th->Prop
 | .non=>True
 | .int i=> -(10 ^ 30)<=i/\i<=10 ^ 30
 | .str x=>ziD x
 | .tup ts=>ts.length<=40/\WfL ts
def WfL:List Th->Prop
 | []=>True
 | t::r=>Wf t/\WfL r
end
theorem WfL.get:∀{ts:List Th}{i:Nat}{t:Th},WfL ts->ts[i]? =some t->Wf t
 | [],_,_,_,e=>by simp at e
 | u::r,0,t,h,e=>by simp at e;subst e;exact h.1
 | u::r,i+1,t,h,e=>WfL.get (i:=i) h.2 (by simpa using e)
theorem zay:∀{ts:List Th}{i:Nat}{t:Th},ts[i]? =some t->dep t<=depL ts
 | [],_,_,e=>by simp at e
 | u::r,0,t,e=>by simp at e;subst e;exact Nat.le_max_left _ _
 | u::r,i+1,t,e=>Jg (zay (i:=i) (by simpa using e)) (Nat.le_max_right _ _)
def _root_.JA:=@Nat.le_add_right
theorem zmw:∀t:Th,1<=nodes t
 | .non=>Jb _
 | .int _=>Jb _
 | .str _=>Jb _
 | .tup ts=>JA _ _
theorem zfD:∀ts:List Th,ts.length<=zK ts
 | []=>Jb _
 | t::r=>by have:=zfD r;have:=zmw t;show r.length+1<=nodes t+zK r;lia
inductive Rep (H:Hp):Th->V->Prop where
 | non:Rep H .non .non
 | int (i:Int):Rep H (.int i) (.int i)
 | str (x:Str):Rep H (.str x) (.str x)
 | tup {a:Addr} {xs:QR} {ts:List Th} (e:H a=some (.tup xs)) (l:xs.length=ts.length) (h:∀(i:Nat)(x:V)(t:Th),xs[i]? =some x->ts[i]? =some t->Rep H t x):Rep H (.tup ts) (.ref a)
def Tups (H H':Hp):Prop:=∀b xs,H b=some (.tup xs)->H' b=some (.tup xs)
theorem Rep.keep (r:Rep H t v)(k:Tups H H'):Rep H' t v:=by
 induction r with
 | non=>exact .non
 | int i=>exact .int i
 | str x=>exact .str x
 | tup e l h ih=>exact .tup (k _ _ e) l ih
def Frm (ws:QP)(H H':Hp):Prop:=∀b o,b∉ws->H b=some o->H' b=some o
def Frm.refl:Frm ws H H:=λ_ _ _ h=>h
theorem Frm.trans (a:Frm ws H H1)(b:Frm ws H1 H2):Frm ws H H2:=λc o n h=>b c o n (a c o n h)
theorem Frm.mono {ws ws':QP}(a:Frm ws H H1)(h:∀b∈ws,b∈ws'):Frm ws' H H1:=λc o n e=>a c o (λz=>n (h c z)) e
theorem Frm.new {H:Hp}{p:Addr}(h:H p=none):Frm ws H (upd H p o):=λb u _ q=>by rw[zc (zd q h)];exact q
theorem Frm.upd {ws:QP}{p:Addr}(h:p∈ws):Frm ws H (upd H p o):=λb u n q=>by rw[zc (λz=>n (by rw[z];exact h))];exact q
theorem Frm.same (a:Frm [] H H'):Same H H':=λb o h=>a b o (by simp) h
def Frm.of (a:Same H H'):Frm ws H H':=λb o _ h=>a b o h
theorem Frm.at {b:Addr}{o:HO}(a:Frm ws H H')(h:H b=some o)(n:b∉ws):H' b=some o:=a b o n h
def NoT (ws:QP)(H:Hp):Prop:=∀b∈ws,∀xs,H b≠some (.tup xs)
theorem Frm.tups (a:Frm ws H H')(n:NoT ws H):Tups H H':=λb xs e=>a b _ (λz=>n b z xs e) e
theorem Same.tups (a:Same H H'):Tups H H':=λb xs e=>a b _ e
theorem Tups.trans (a:Tups H H1)(b:Tups H1 H2):Tups H H2:=λc xs e=>b c xs (a c xs e)
theorem Tups.upd {H:Hp}{p:Addr}(h:∀xs,H p≠some (.tup xs)):Tups H (upd H p o):=λb xs e=>by rw[zc (λz=>h xs (by rw[<-z];exact e))];exact e
theorem Tups.new {H:Hp}{p:Addr}(h:H p=none):Tups H (L2.upd H p o):=Tups.upd λxs e=>by rw[h] at e;cases e
end Pv
namespace L2
open PySem PySem.Spec PyProof.Rows
section
variable {X:Cx}{x y:Str}{scope:Scope}{j:Nat}{c:Addr}
def _root_.Nl:=@List.mem_map
def zbo {p:Str ×NameKind}(h:p∈(relabel scope env).names):∃q∈scope.names,p.1=q.1/\(p=q\/q.2=.free):=by
 obtain⟨q,hq,e⟩:=Nl.mp h;obtain⟨n,k⟩:=q;refine⟨(n,k),hq,?_⟩;dsimp only at e;split at e
 ·rename_i hc;subst e;refine⟨rfl,.inr ?_⟩;have:=(Nk _ _).mp ((Nk _ _).mp hc).1;simpa using this.1
 ·subst e;exact⟨rfl,.inl rfl⟩
def zm.zero (kind:scope.kind=.function)(nf:∀y∈scope.names,y.2≠ .free)(nc:∀y∈scope.names,y.2≠ .cell)(nm:∀y∈scope.names,y.2=.local->scope.names.lookup y.1=some .local)(tgt:scope.names.lookup x=some .local):
  zm X x [] [] scope [] where
 clos:=closureFor_none nf
 kind:=kind
 nocell:=nc
 names:=nm
 tgt:=tgt
 nd:=by simp
 sub:=λp hp=>by simp at hp
 has:=λp hp hk=>by
  obtain⟨q,hq,e,h | h⟩:=zbo hp
  ·subst h;rcases hk with hk | hk
   ·exact Jf hk (nc _ hq)
   ·exact Jf hk (nf _ hq)
  ·exact Jf h (nf _ hq)
 fr:=λi y e=>by simp at e
 len:=rfl
def zm.one (clos:closureFor scope X.env=pure [(y,c)])(kind:scope.kind=.function)(nc:∀y∈scope.names,y.2≠ .cell)(nm:∀y∈scope.names,y.2=.local->scope.names.lookup y.1=some .local)(tgt:scope.names.lookup x=some .local)
  (ne:x≠y) (cell:X.env.cells.lookup y=some c) (only:∀q∈scope.names,q.2=.free->q.1=y) (hN:X.N[j]? =some y) (hk:X.env.kindOf y=some .cell\/X.env.kindOf y=some .free)
  (hk':(relabel scope X.env).names.lookup y=some .cell\/(relabel scope X.env).names.lookup y=some .free):zm X x [y] [j] scope [(y,c)] where
 clos:=clos
 kind:=kind
 nocell:=nc
 names:=nm
 tgt:=tgt
 nd:=by simp[ne]
 sub:=λp hp=>by cases Jj.mp hp;exact cell
 has:=λp hp hk=>by
  obtain⟨q,hq,e,h | h⟩:=zbo hp
  ·subst h;rcases hk with hk | hk
   ·exact Jf hk (nc _ hq)
   ·simp[only _ hq hk]
  ·simp[e,only _ hq h]
 fr:=λi z e=>by
  cases i with
  | zero=>cases e;exact⟨j,rfl,hN,hk,hk'⟩
  | succ i=>simp at e
 len:=rfl
end
def ifT {c:Bool}{A:Prop}(h:c=true)(a:A):if c=true then A else B:=by rw[if_pos h];exact a
def ifF {c:Bool}{B:Prop}(h:c=false)(b:B):if c=true then A else B:=by rw[if_neg (by rw[h];exact Jc)];exact b
def ifB {c:Bool}{A B:Prop}(a:c=true->A)(b:c=false->B):if c=true then A else B:=by
 cases c with
 | true=>exact ifT rfl (a rfl)
 | false=>exact ifF rfl (b rfl)
theorem zE:decide (V.int i=V.int j)=decide (i=j):=by
 by_cases h:i=j
 ·subst h;simp
 ·rw[Jd h];exact Jd λz=>h (V.int.inj z)
section
variable {X:Cx}{K:QA}
def zeO (h:X.K=K):IxR X (rIxT K):=h ▸ zfL
variable {x:Str}{ps:QQ}{sp:Sp}{k k':Nat}{p pos:Pos}
end
end L2
namespace L2
open PySem PySem.Spec PyProof.Rows Px
structure FnX (P:Program)(w:World)(K:QA)(mg:QB)(base:Heap)(x:Str)(k:Nat)(ps:QQ)(sp:Sp):Prop where
 ex:∃f fd,FnOk P w K mg base (CX1 P w) k f fd ps sp/\Binds K fd ps []/\PySem.W.keepIn K (.ref f)=true/\mg x=some (.ref f)
structure Mdf (K:QA)(C:Addr)(m qual:Str)(st:Stmt)(ps:QQ):Prop where
 ex:∃f fd,Fun K m qual st f fd/\Binds K fd ps []/\Meth K C m f
structure Mt (P:Program)(w:World)(K:QA)(mg:QB)(base:Heap)(CX:CXT)(C:Addr)(m:Str)(k:Nat)(ps:QQ)(sp:Sp):Prop where
 ex:∃f fd,FnOk P w K mg base CX k f fd ps sp/\Binds K fd ps []/\Meth K C m f
structure Mkd (K:QA)(mg:QB)(x:Str)(C:Addr)(qual:Str)(st:Stmt)(ps:QQ):Prop where
 ex:∃f fd,Fun K "__init__" qual st f fd/\Binds K fd ps []/\Mk K C f/\mg x=some (.ref C)
structure Mkr (P:Program)(w:World)(K:QA)(mg:QB)(base:Heap)(x:Str)(C:Addr)(k:Nat)(ps:QQ)(sp:Sp):Prop where
 ex:∃f fd,FnOk P w K mg base CX0 k f fd ps sp/\Binds K fd ps []/\Mk K C f/\mg x=some (.ref C)
structure XId (K:QA)(mg:QB)(x:Str)(C:Addr)(qual:Str)(st:Stmt)(ps:QQ):Prop where
 cl:XCls K C
 ex:∃f fd,Fun K "__init__" qual st f fd/\Binds K fd ps []/\PySem.W.findIn K (.ref C) "__init__" =some (some (.ref f))/\PySem.W.isFn K (.ref f)=true/\mg x=some (.ref C)
structure XI (P:Program)(w:World)(K:QA)(mg:QB)(base:Heap)(x:Str)(C:Addr)(k:Nat)(ps:QQ)(sp:Sp):Prop where
 cl:XCls K C
 ex:∃f fd,FnOk P w K mg base CX0 k f fd ps sp/\Binds K fd ps []/\PySem.W.findIn K (.ref C) "__init__" =some (some (.ref f))/\PySem.W.isFn K (.ref f)=true/\mg x=some (.ref C)
structure XP (K:QA)(mg:QB)(x:Str)(C:Addr):Prop where
 cl:XCls K C
 ei:PySem.W.excIn K C bmV "ValueError.__new__" =true
 mg:mg x=some (.ref C)
section
variable {P:Program}{w:World}{K:QA}{mg:QB}{base:Heap}{x m qual:Str}{C:Addr}{st:Stmt}{ps N:QQ}{sp sp':Sp}{k:Nat}{CX:CXT}
abbrev BdX (P:Program)(w:World)(K:QA)(mg:QB)(base:Heap)(N:QQ)(q:Str)(st:Stmt)(k:Nat)(sp:Sp):Prop:=∀(f:Addr)(cdv:Value)(A:Around)(outer:List Env)(s:Shared)(H:Hp)(vs:QR)(Q:VK)(E:XK),Room k (A.deeper (envOfC q (zo st) s.heap.objs.size f cdv))->sp vs H Q E->
 ∃t,PSs (cxOf (CX1 P w) P w K mg base N q (zo st) f cdv A outer s H E) (zD st) t/\t {nx:=λ_ H'=>Q .non H',rt:=Q} (start N vs) H
def Dfn.okX (D:Dfn K mg x st ps)(S:zaj N ps (zo st))(hbody:BdX P w K mg base N x st k sp)
  (len:∀vs H Q E,sp vs H Q E->vs.length=ps.length:=by intro vs H Q E h;cases h;subst_vars;rfl):FnX P w K mg base x (k+1) ps sp:=by
 obtain⟨f,fd,F,b,m⟩:=D.ex;exact⟨f,fd,F.okX S len (λcdv A outer s H vs Q E hr h=>hbody f cdv A outer s H vs Q E hr h),b,F.kp,m⟩
def Mdf.ok (D:Mdf K C m qual st ps)(S:zaj N ps (zo st))(hbody:Bd0 P w K mg base N qual st k sp)
  (len:∀vs H Q E,sp vs H Q E->vs.length=ps.length:=by intro vs H Q E h;cases h;subst_vars;rfl):Mt P w K mg base CX0 C m (k+1) ps sp:=by
 obtain⟨f,fd,F,b,me⟩:=D.ex;exact⟨f,fd,F.ok S len (λcdv A outer s H vs Q E hr h=>hbody f cdv A outer s H vs Q E hr h),b,me⟩
def Mdf.okX (D:Mdf K C m qual st ps)(S:zaj N ps (zo st))(hbody:BdX P w K mg base N qual st k sp)
  (len:∀vs H Q E,sp vs H Q E->vs.length=ps.length:=by intro vs H Q E h;cases h;subst_vars;rfl):Mt P w K mg base (CX1 P w) C m (k+1) ps sp:=by
 obtain⟨f,fd,F,b,me⟩:=D.ex;exact⟨f,fd,F.okX S len (λcdv A outer s H vs Q E hr h=>hbody f cdv A outer s H vs Q E hr h),b,me⟩
def Mkd.ok (D:Mkd K mg x C qual st ps)(S:zaj N ps (zo st))(hbody:Bd0 P w K mg base N qual st k sp)
  (len:∀vs H Q E,sp vs H Q E->vs.length=ps.length:=by intro vs H Q E h;cases h;subst_vars;rfl):Mkr P w K mg base x C (k+1) ps sp:=by
 obtain⟨f,fd,F,b,mk,mm⟩:=D.ex;exact⟨f,fd,F.ok S len (λcdv A outer s H vs Q E hr h=>hbody f cdv A outer s H vs Q E hr h),b,mk,mm⟩
def XId.ok (D:XId K mg x C qual st ps)(S:zaj N ps (zo st))(hbody:Bd0 P w K mg base N qual st k sp)
  (len:∀vs H Q E,sp vs H Q E->vs.length=ps.length:=by intro vs H Q E h;cases h;subst_vars;rfl):XI P w K mg base x C (k+1) ps sp:=by
 obtain⟨c,f,fd,F,b,i,n,mm⟩:=D;exact⟨c,f,fd,F.ok S len (λcdv A outer s H vs Q E hr h=>hbody f cdv A outer s H vs Q E hr h),b,i,n,mm⟩
variable {X:Cx}{k':Nat}{e o:Expr}{es:List Expr}{ta:TE}{t:TA}{p pos apos:Pos}{E:XK}{ES:St->XK}
def zd5 (F:FnX X.prog X.w X.K X.mg X.base x k ps sp)(hr:Room k' X.A)(hx:zas (CX1 X.prog X.w) X E)(ha:PA X (e::es) t)(hle:k<=k':=by lia)(hg:Gl X x:=by rfl)(hd:(x==("__debug__" :Str))=false:=by decide)
  (he:starEach (e::es) X.env=(false,eval e X.env)::starEach es X.env:=by rfl) (hpl:∀pos,(backTo pos (starEach es X.env)).any (·.1)=false:=by intro _;rfl):PE X (.Call (.Name x p) (e::es) [] pos) (zgo sp [] E t):=by
 obtain⟨f,fd,a,b,kp,m⟩:=F.ex;exact zkI a (hr.mono hle) hg m kp b .nil hx ha hd he (hpl _)
def znn (F:FnX X.prog X.w X.K X.mg X.base x k ps sp)(hr:Room k' X.A)(hx:zbS (CX1 X.prog X.w) X ES)(ha:PA X (e::es) t)(hle:k<=k':=by lia)(hg:Gl X x:=by rfl)(hd:(x==("__debug__" :Str))=false:=by decide)
  (he:starEach (e::es) X.env=(false,eval e X.env)::starEach es X.env:=by rfl) (hpl:∀pos,(backTo pos (starEach es X.env)).any (·.1)=false:=by intro _;rfl):PE X (.Call (.Name x p) (e::es) [] pos) (znv sp ES t):=by
 obtain⟨f,fd,a,b,kp,m⟩:=F.ex;exact zm5 a (hr.mono hle) hg m kp b hx ha hd he (hpl _)
def zes (he:PE X o ta)(c:Cls X.K C)(M:Mt X.prog X.w X.K X.mg X.base CX C m k ps sp)(hr:Room k' X.A)(hle:k<=k')(hx:zas CX X E)(ha:PA X (e::es) t)
  (hst:starEach (e::es) X.env=(false,eval e X.env)::starEach es X.env:=by rfl) (hpl:∀pos,(backTo pos (starEach es X.env)).any (·.1)=false:=by intro _;rfl)
  (ht:eval (.Call (.Attribute o m apos) (e::es) [] pos) X.env=(do
   let ov<-eval o X.env
   standAt apos.atName
   let (f,first) <-holding [ov] (getMethod ov m pl)
   callWith pos f first (backTo pos (starEach (e::es) X.env)) (backToKw pos (keywordEach [] X.env))):=by rfl):
  PE X (.Call (.Attribute o m apos) (e::es) [] pos) (zk1 C m sp [] E ta t):=by
 obtain⟨f,fd,a,b,me⟩:=M.ex;exact zqf he c me a (hr.mono hle) b .nil hx ha hst (hpl _) ht
def zsx (he:PE X o ta)(c:Cls X.K C)(M:Mt X.prog X.w X.K X.mg X.base CX C m k ps sp)(hr:Room k' X.A)(hle:k<=k')(hx:zas CX X E)
  (ht:eval (.Call (.Attribute o m apos) [] [] pos) X.env=(do
   let ov<-eval o X.env
   standAt apos.atName
   let (f,first) <-holding [ov] (getMethod ov m pl)
   callWith pos f first (backTo pos (starEach [] X.env)) (backToKw pos (keywordEach [] X.env))):=by rfl):
  PE X (.Call (.Attribute o m apos) [] [] pos) (zk1 C m sp [] E ta tNil):=by
 obtain⟨f,fd,a,b,me⟩:=M.ex;exact zmV he c me a (hr.mono hle) b .nil hx ht
def zpj (M:Mkr X.prog X.w X.K X.mg X.base x C k ps sp)(hr:Room k' X.A)(hle:k+1<=k':=by lia)(hg:Gl X x:=by rfl)(hd:(x==("__debug__" :Str))=false:=by decide):PE X (.Call (.Name x p) [] [] pos) (zi8 C sp [] E0 tNil):=by obtain⟨f,fd,a,b,mk,mm⟩:=M.ex;exact zoL mk a (hr.mono hle) hg mm b .nil ziT hd
def zhi (M:Mkr X.prog X.w X.K X.mg X.base x C k ps sp)(hr:Room k' X.A)(ha:PA X (e::es) t)(hle:k+1<=k':=by lia)(hg:Gl X x:=by rfl)(hd:(x==("__debug__" :Str))=false:=by decide)
  (he:starEach (e::es) X.env=(false,eval e X.env)::starEach es X.env:=by rfl) (hpl:∀pos,(backTo pos (starEach es X.env)).any (·.1)=false:=by intro _;rfl):PE X (.Call (.Name x p) (e::es) [] pos) (zi8 C sp [] E0 t):=by
 obtain⟨f,fd,a,b,mk,mm⟩:=M.ex;exact zk6 mk a (hr.mono hle) hg mm b .nil ziT ha hd he (hpl _)
def zs8 (M:XI X.prog X.w X.K X.mg X.base x C k ps sp)(hr:Room k' X.A)(ha:PA X (e::es) t)(hle:k+1<=k':=by lia)(hg:Gl X x:=by rfl)(hd:(x==("__debug__" :Str))=false:=by decide)
  (he:starEach (e::es) X.env=(false,eval e X.env)::starEach es X.env:=by rfl) (hpl:∀pos,(backTo pos (starEach es X.env)).any (·.1)=false:=by intro _;rfl):PE X (.Call (.Name x p) (e::es) [] pos) (zrb C sp t):=by
 obtain⟨c,f,fd,a,b,i,n,mm⟩:=M;exact zp5 c i n a (hr.mono hle) b hg mm ha hd he (hpl _)
def zth (M:XP X.K X.mg x C)(hg:Gl X x)(ha:PA X (e::es) t)(hd:(x==("__debug__" :Str))=false:=by decide)
  (he:starEach (e::es) X.env=(false,eval e X.env)::starEach es X.env:=by rfl) (hpl:∀pos,(backTo pos (starEach es X.env)).any (·.1)=false:=by intro _;rfl):PE X (.Call (.Name x p) (e::es) [] pos) (tExc C t):=
 zsp M.cl M.ei hg M.mg ha hd he (hpl _)
end
def clsV:V->Value
 | .ty n=>.type n
 | .ref a=>.ref a
 | _=>.none
def Clss (ts:QR):Prop:=∀v∈ts,(∃n,v=.ty n)\/∃a,v=.ref a
theorem zgs:∀{ts:QR}{us:QO},Clss ts->Vals ts us->us=ts.map clsV
 | _,_,_,.nil=>rfl
 | t::ts,u::us,h,.cons r q=>by
  rw[JS,<-zgs (λv hv=>h v (.tail _ hv)) q];congr 1;rcases h t (.head _) with ⟨n,e⟩ | ⟨a,e⟩
  ·subst e;exact r
  ·subst e;exact r
section
variable {X:Cx}{pins:QE}{σ:St}{H:Hp}{s:Shared}
variable {K:QA}{h:Heap}{mg:QB}{C f:Addr}{x m qual:Str}{st:Stmt}{ps:QQ}{od an:QN}{sl:QJ}{oc kV dc pm cd ct:Value}
def zsa (a:PySem.W.findIn K (.ref C) m=some (some (.ref f)))(fn:PySem.W.isFn K (.ref f)=true)(l:K.lookup f=some ⟨oc,od,.func (PySem.W.fnOf m qual (zI st) (zD st) (zo st) .none kV dc pm an cd ct),sl⟩)(c:PySem.W.codeIn K cd qual=true)(k:PySem.W.keepIn K (.ref f)=true)
  (b:∀(kV doc pm:Value)(an:QN)(cdv ct:Value)(us:QO),us.length=ps.length->bindArgs (PySem.W.fnOf m qual (zI st) (zD st) (zo st) .none kV doc pm an cdv ct) ⟨us,[]⟩=pure (ps.zip us)):Mdf K C m qual st ps:=
 ⟨_,_,za9 l c k,(za9 l c k).binds b,⟨a,fn,k⟩⟩
def zrt (pg:PySem.W.plainGet K C Str.empty=true)(hd:PySem.W.hasDictIn K C=true)(po:PySem.W.plainOver K C=true)(sa:PySem.W.findIn K (.ref C) "__setattr__" =some (some (.builtin "object.__setattr__"))):Cls K C:=⟨pg,hd,po,sa⟩
def zsw (X:K.In h)(G:h.Ns mainGlobals mg)(n:PySem.W.nsIn K mainGlobals x=some (some (.ref C)))(mk:PySem.W.makesIn K C=true)(a:PySem.W.findIn K (.ref C) "__init__" =some (some (.ref f))) (fn:PySem.W.isFn K (.ref f)=true)
  (l:K.lookup f=some ⟨oc,od,.func (PySem.W.fnOf "__init__" qual (zI st) (zD st) (zo st) .none kV dc pm an cd ct),sl⟩) (c:PySem.W.codeIn K cd qual=true) (k:PySem.W.keepIn K (.ref f)=true) (kc:PySem.W.keepIn K (.ref C)=true)
  (b:∀(kV doc pm:Value)(an:QN)(cdv ct:Value)(us:QO),us.length=ps.length->bindArgs (PySem.W.fnOf "__init__" qual (zI st) (zD st) (zo st) .none kV doc pm an cdv ct) ⟨us,[]⟩=pure (ps.zip us)):Mkd K mg x C qual st ps:=
 ⟨_,_,za9 l c k,(za9 l c k).binds b,⟨mk,a,fn,kc⟩,PySem.W.mg_of X G n⟩
def zhx (q:xIn K C=true)(ov:zdl K C=true)(sa:PySem.W.findIn K (.ref C) "__setattr__" =some (some (.builtin "object.__setattr__"))) (ga:PySem.W.findIn K (.ref C) "__getattribute__" =some (some (.builtin "BaseException.__getattribute__"))) (gn:PySem.W.findIn K (.ref C) "__getattr__" =some none)
  (kp:PySem.W.keepIn K (.ref C)=true):XCls K C:=⟨q,ov,sa,ga,gn,kp⟩
def zrA (X:K.In h)(G:h.Ns mainGlobals mg)(n:PySem.W.nsIn K mainGlobals x=some (some (.ref C)))(cl:XCls K C)(a:PySem.W.findIn K (.ref C) "__init__" =some (some (.ref f))) (fn:PySem.W.isFn K (.ref f)=true)
  (l:K.lookup f=some ⟨oc,od,.func (PySem.W.fnOf "__init__" qual (zI st) (zD st) (zo st) .none kV dc pm an cd ct),sl⟩) (c:PySem.W.codeIn K cd qual=true) (k:PySem.W.keepIn K (.ref f)=true)
  (b:∀(kV doc pm:Value)(an:QN)(cdv ct:Value)(us:QO),us.length=ps.length->bindArgs (PySem.W.fnOf "__init__" qual (zI st) (zD st) (zo st) .none kV doc pm an cdv ct) ⟨us,[]⟩=pure (ps.zip us)):XId K mg x C qual st ps:=
 ⟨cl,_,_,za9 l c k,(za9 l c k).binds b,a,fn,PySem.W.mg_of X G n⟩
def zM {R:Addr->Prop}(X:K.In h)(n:PySem.W.nsIn K mainGlobals x=some (some (.ref C)))(r:R C):∃C,R C:=⟨C,r⟩
end
end L2
namespace Px
open PySem PySem.W PySem.Builtin PySem.Builtin.ObjectAttr
def zpO {a g:Value}(hc:(clsIn K C).isSome=true)(ha:findIn K (.ref C) name=some (some a))(hg:specialIn K a "__get__" =some (some g))
  (ht:takesIn K a=some true):findObj K C od name=some (.bind g a):=by
 obtain⟨c,e⟩:=Option.isSome_iff_exists.mp hc;unfold findObj;rw[e,Option.bind_some,ha,Option.bind_some];simp[hg,ht]
section
variable {prog:Program}{w:World}{A:Around}{E:QC}{s:Shared}{K:Frag}{x D:Addr}{ox:Obj}{od:Option Obj}
def zn1 {Q:Option Value->Shared->Prop}(X:K.In s.heap)(I:InstAt s.heap x ox D od)(hp:zdl K D=true)
  (hga:findIn K (.ref D) "__getattribute__" =some (some (.builtin "BaseException.__getattribute__"))) (hgn:findIn K (.ref D) "__getattr__" =some none)
  (ha:findIn K (.ref D) "__class__" =some (some (.builtin "object.__class__"))) (hn:specialIn K (.builtin "object.__class__") "__get__" =some (some (.builtin "getset_descriptor.__get__")))
  (htk:takesIn K (.builtin "object.__class__")=some true) (hm:mroIn K D (.type "object")=some true) (h:Q (some (.ref D)) {s with toks:=s.toks+1}):wpAny (model prog w) A (getAttr? (.ref x) "__class__") Q E s:=by
 have isB:=zjX (M:=model prog w) (T:= "BaseException") X I hp (by decide);have cd:(clsIn K D).isSome=true:=by obtain⟨c,hc,_⟩:=any_some hp;rw[hc];rfl
 have hf:findObj K D od "__class__" =some (.bind (.builtin "getset_descriptor.__get__") (.builtin "object.__class__")):=zpO cd ha hn htk;obtain⟨hp',g,d,t,os⟩:=s;have L0:=I.type (M:=model prog w);have L1:=looks_findIn (M:=model prog w) X hga;have L2:=looks_findIn (M:=model prog w) X hgn;have L3:=looks_find (M:=model prog w) X I hf;have FB:=PySem.F.attrBase_ValueError;have bi:=FB.ga.bind (.ref x);have kd:builtinKind "BaseException.__getattribute__" =some .slot:=by decide+kernel
 have sp:splitId "BaseException.__getattribute__" =some ("BaseException","__getattribute__"):=by decide+kernel
 unfold getAttr? getAttrBy? getAttrBy;refine Ja (wpAny_mkText (Ja (wpAny_attempt (wpAny_holding (Ja (L0.at (Ja (L1.at ?_))))))));have nb:(onTheHeap (Value.ref D) && Value.builtin "BaseException.__getattribute__" ==Value.builtin "object.__getattribute__")=false:=by rw[show(Value.builtin "BaseException.__getattribute__" ==Value.builtin "object.__getattribute__")=false from by decide+kernel,Bool.and_false]
 dsimp only;rw[nb,if_neg Jc];unfold getAttrByItsOwn;refine Ja ?_;show wpAny _ _ (typeLookup (.ref D) "__getattr__") _ _ _;refine L2.at ?_;unfold callGetattribute;rw[Bool.false_and,if_neg Jc];unfold boundAndCalled;refine Ja (wpAny_attempt (wpAny_holding ?_));rw[bi];refine Ja (wpAny_pure ?_);refine wpAny_call (codeAny_call_builtin FB.ga.plain PySem.F.entry_bexc_ga (@check_slot (model prog w) _ _ _ "BaseException.__getattribute__" "BaseException" "__getattribute__" (.ref x) [.str "__class__" t] [] _ kd sp isB (PySem.F.args_bexc_ga _ _) ?_));unfold Builtin.«object.__getattribute__»
 repeat (any_goals (first | assumption | with_reducible refine Ja (L0.at ?_) | with_reducible refine Ja (L3.at ?_) | wp_step))
 refine class_get X I hm ?_;show wpAny _ _ (ret (.ref D)) _ _ _;refine wpAny_pure ?_;show wpAny _ _ (handedOut (.ref D)) _ _ _;exact wpAny_pure (wpAny_pure h)
def zio {x:Addr}(hp:zdl K D=true)
  (hga:findIn K (.ref D) "__getattribute__" =some (some (.builtin "BaseException.__getattribute__"))) (hgn:findIn K (.ref D) "__getattr__" =some none)
  (ha:findIn K (.ref D) "__class__" =some (some (.builtin "object.__class__"))) (hn:specialIn K (.builtin "object.__class__") "__get__" =some (some (.builtin "getset_descriptor.__get__")))
  (htk:takesIn K (.builtin "object.__class__")=some true) (hm:mroIn K D (.type "object")=some true):KitX K (.ref x) (.ref D) (λh=>InstAt h x ox D od) where
 ty:=λ_ _ _ I=>I.type
 it:=λ_ _ X _=>by
  obtain⟨c,hc,_⟩:=any_some hp;unfold clsIn at hc;split at hc
  ·rename_i ho;intro A' Q' E' s' k q;unfold isType loadHead;exact Ja (wpAny_loadPart (k _ _ (X _ _ ho)) (wpAny_pure q))
  ·cases hc
 ne:=λh tp dd its n sl X ht=>by
  obtain⟨c,hc,_⟩:=any_some hp;refine Bool.eq_false_iff.mpr λq=>?_;have e:D=tp:=Value.ref.inj (beq_iff_eq.mp q);subst e;unfold clsIn at hc;split at hc
  ·rename_i ho;have z:=(X _ _ ho).symm.trans ht;cases z
  ·cases hc
 ca:=λX I k=>zn1 X I hp hga hgn ha hn htk hm k
end
end Px
namespace L2
open PySem PySem.Spec PyProof.Rows Px
structure zoc (K:QA)(C:Addr):Prop where
 cl:XCls K C
 ha:PySem.W.findIn K (.ref C) "__class__" =some (some (.builtin "object.__class__"))
 hn:PySem.W.specialIn K (.builtin "object.__class__") "__get__" =some (some (.builtin "getset_descriptor.__get__"))
 ht:PySem.W.takesIn K (.builtin "object.__class__")=some true
 hm:PySem.W.mroIn K C (.type "object")=some true
section
variable {X:Cx}{pins:QE}{σ:St}{H:Hp}{s:Shared}{a C:Addr}{od:QN}{fr:Bool}
def zpI (I:Inv X pins σ H s)(e:H a=some (exO a C od fr))(k:zoc X.K C)(hd:∀d,od=some d->∃l,H d=some (xdO d l)):∃Z:Heap->Prop,PySem.W.KitX X.K (.ref a) (.ref C) Z/\Z s.heap:=by
 obtain⟨vs,sl,ge,_⟩:=zbi I.hok e;cases od with
 | none=>exact⟨_,zio (od:=none) k.cl.ov k.cl.ga k.cl.gn k.ha k.hn k.ht k.hm,⟨ge,rfl,rfl,trivial⟩⟩
 | some d=>obtain⟨l,ed⟩:=hd d rfl;obtain⟨mA,ns,_,_⟩:=zhJ I.hok ed;obtain⟨ob,hob,_⟩:=zek ns;exact⟨_,zio (od:=some ob) k.cl.ov k.cl.ga k.cl.gn k.ha k.hn k.ht k.hm,⟨ge,rfl,rfl,hob⟩⟩
def zoK (K:QA):List V->Hp->VK->Prop:=λxs H Q=>∃a C od fr y b,xs=[.ref a,y]/\H a=some (exO a C od fr)/\zoc K C/\(∀d,od=some d->∃l,H d=some (xdO d l))/\Q (.bl b) H/\
 ((∃c,(y=.ty c/\PySem.W.kitOne K (.ref C) (.type c)=some b))\/(∃c,(y=.ref c/\PySem.W.kitOne K (.ref C) (.ref c)=some b))\/∃p ts,y=.ref p/\H p=some (.tup ts)/\Clss ts/\PySem.W.kitAny K (.ref C) (ts.map clsV)=some b)
def zhd:zal X (.builtin "isinstance") (zoK X.K):=by
 intro pins s σ H xs us Q I r h;obtain⟨a,C,od,fr,y,b,rfl,ea,k,hd,q,hy⟩:=h;obtain⟨u,w',rfl,ru,rw'⟩:=vals2 r;cases (show u=Value.ref a from ru);obtain⟨Z,kx,z⟩:=zpI I ea k hd;rcases hy with ⟨c,rfl,e⟩ | ⟨c,rfl,e⟩ | ⟨p,ts,rfl,ep,cl,e⟩
 ·cases (show w'=Value.type c from rw');exact PySem.W.kia_one kx I.kIn z e (λy=>nomatch y) λtk=>⟨.bl b,H,I.tok tk,rfl,q⟩
 ·cases (show w'=Value.ref c from rw');exact PySem.W.kia_one kx I.kIn z e (λy=>nomatch y) λtk=>⟨.bl b,H,I.tok tk,rfl,q⟩
 ·cases (show w'=Value.ref p from rw');obtain⟨_,its,vs,o,h1,h2,n,h3⟩:=(show zA X.prog X.w H s.heap p (.tup ts) from I.hok p _ ep);have ei:=zgs cl vs;obtain⟨c0,d0,dt,sl⟩:=o;dsimp only at h2 h3;subst h2;subst h3;exact PySem.W.kia_tup kx I.kIn z h1 (by rw[ei];exact e) (λy=>nomatch y) λtk=>⟨.bl b,H,I.tok tk,rfl,q⟩
variable {x n:Str}{cv:Value}{body suite:List Stmt}{b₀:Stmt}{np hpos pos:Pos}{tb:(St->XK)->TS}{ts:TS}
def zp4 (hst:X.stack=X.env::X.outer)(hfm:X.env.frame=some X.env.locals)(hg:Gl X x)(hm:X.mg x=some cv)
  (hb:∀xe pn E,zbS (CX1 X.prog X.w) (X.tried xe pn) E->PSs (X.tried xe pn) body (tb E)) (hs:∀e,PSs (X.suite e) (b₀::suite) ts) (hdb:(x==("__debug__" :Str))=false:=by decide):
  PS X (.Try body [.ExceptHandler (some (.Name x np)) none (b₀::suite) hpos] [] [] pos) (ztt X.K cv tb ts):=by
 intro pins s σ H D I h;have key:zbS (CX1 X.prog X.w) (X.tried (λe s₁=>wpAny (model X.prog X.w) X.A (noteFrame e X.env) (λ_ s₂=>wpAny (model X.prog X.w) X.A (setFlight e none) (λ_ s₃=>
   wpAny (model X.prog X.w) X.A (handleBy e X.env [.ExceptHandler (some (.Name x np)) none (b₀::suite) hpos]) (SP X pins D) X.xe s₃) X.xe s₂) X.xe s₁) (X.pn++pins)) (zoD X.K cv ts D):=by
  intro pins' σ' H1 s1 e s2 I1 hc;obtain⟨ea,cls,od,H',T,rfl,os,bare,un,hok,tb',old,nT,u1,u2,C,rfl,em,q⟩:=hc;have J0:Inv X pins σ' H1 s1:=I1.untried;have J:=J0.call' os un hok bare (λb z=>nomatch z);show wpAny _ _ (noteFrame (.ref ea) X.env) _ _ s2;refine zrc (base:=X.base) (by rw[<-hst];exact J.ok.frames) (by rw[<-hst];exact J.stack) hfm tb' λh3 T' z t3 c3=>?_;rw[show(X.env::X.outer).filterMap (·.frame)=frs X.stack from by rw[hst];rfl] at c3;have c3':Chg2 (frs X.stack) (λb=>b=ea\/b=T\/b=T') s2.heap h3:=c3.mono λb y=>y.elim .inl λy=>.inr (.inl y);have J3:=J0.caught os bare un hok old nT u1 u2 z c3' t3;have LT:PySem.W.Looks (model X.prog X.w) h3 (typeOf (.ref ea)) (.ref C):=by obtain⟨vs,sl,ge,_⟩:=zbi J3.hok za;exact(PySem.W.Looks.ld ge).andThen .now
  refine wpAny_handleBy_cons (codeAny_handlers_test (za3 (X:=X.suite ea) (J3.suite ea) hg hm ?_ hdb)) (by intro y;cases y);refine(PySem.W.exm_one J3.kIn LT em).here (s:={s2 with heap:=h3}) ?_;refine codeAny_handlers_suite ?_;refine zem (s:={s2 with heap:=h3}) (fs:=frs X.stack) t3 λh4 t4 c4 k4=>?_;have J4:=J0.caught os bare un hok old nT u1 u2 z (c3'.trans (c4.two (own:=λb=>b=ea\/b=T\/b=T') (.inl rfl) (.inl (.inr (.inr rfl))))) t4;refine wpAny_mono (hs ea pins {s2 with heap:=h4} _ _ D (J4.suite ea) (q ea u1)) (λf s6 q6=>?_) λ_ _ y=>y.elim;cases f with
  | next=>obtain⟨σ6,H6,J6,y⟩:=q6;exact⟨_,_,J6.unsuite J0.ok,y⟩
  | brk=>obtain⟨σ6,H6,J6,y⟩:=q6;exact⟨_,_,J6.unsuite J0.ok,y⟩
  | cont=>obtain⟨σ6,H6,J6,y⟩:=q6;exact⟨_,_,J6.unsuite J0.ok,y⟩
  | ret u=>obtain⟨v6,σ6,H6,J6,rv,y⟩:=q6;exact⟨_,_,_,J6.unsuite J0.ok,rv,y⟩
 refine wpAny_Try_except (wpAny_mono (hb _ (X.pn++pins) _ key [] s σ H D (I.tried _) h) (λf s₁ q=>?_) λ_ _ y=>y);cases f with
 | next=>obtain⟨σ',H',I',y⟩:=q;exact wpAny_execs_nil ⟨σ',H',I'.untried,y⟩
 | brk=>obtain⟨σ',H',I',y⟩:=q;exact⟨σ',H',I'.untried,y⟩
 | cont=>obtain⟨σ',H',I',y⟩:=q;exact⟨σ',H',I'.untried,y⟩
 | ret u=>obtain⟨v,σ',H',I',rv,y⟩:=q;exact⟨v,σ',H',I'.untried,rv,y⟩
end
end L2
namespace L2
open PySem PySem.Spec PyProof.Rows
section
variable {X:Cx}{x y1 y2:Str}{scope:Scope}{j1 j2:Nat}{c1 c2:Addr}
def zm.two (clos:closureFor scope X.env=pure [(y1,c1),(y2,c2)])(kind:scope.kind=.function)(nc:∀y∈scope.names,y.2≠ .cell)(nm:∀y∈scope.names,y.2=.local->scope.names.lookup y.1=some .local)(tgt:scope.names.lookup x=some .local)
  (n1:x≠y1) (n2:x≠y2) (n12:y1≠y2) (e1:X.env.cells.lookup y1=some c1) (e2:X.env.cells.lookup y2=some c2) (only:∀q∈scope.names,q.2=.free->q.1=y1\/q.1=y2) (h1:X.N[j1]? =some y1) (h2:X.N[j2]? =some y2)
  (k1:X.env.kindOf y1=some .cell\/X.env.kindOf y1=some .free) (k2:X.env.kindOf y2=some .cell\/X.env.kindOf y2=some .free)
  (r1:(relabel scope X.env).names.lookup y1=some .cell\/(relabel scope X.env).names.lookup y1=some .free) (r2:(relabel scope X.env).names.lookup y2=some .cell\/(relabel scope X.env).names.lookup y2=some .free):
  zm X x [y1,y2] [j1,j2] scope [(y1,c1),(y2,c2)] where
 clos:=clos
 kind:=kind
 nocell:=nc
 names:=nm
 tgt:=tgt
 nd:=by simp[n1,n2,n12]
 sub:=λp hp=>by
  rcases JD.mp hp with z | z
  ·rw[z];exact e1
  ·rw[Jj.mp z];exact e2
 has:=λp hp hk=>by
  have key:∀q:Str ×NameKind,q∈scope.names->q.2=.free->q.1∈ [(y1,c1),(y2,c2)].map (·.1):=λq hq z=>by rcases only q hq z with z | z <;> simp[z]
  obtain⟨q,hq,e,h | h⟩:=zbo hp
  ·subst h;rcases hk with hk | hk
   ·exact Jf hk (nc _ hq)
   ·exact key _ hq hk
  ·rw[e];exact key _ hq h
 fr:=λi z e=>by
  match i,e with
  | 0,e=>cases e;exact⟨j1,rfl,h1,k1,r1⟩
  | 1,e=>cases e;exact⟨j2,rfl,h2,k2,r2⟩
  | i+2,e=>simp at e
 len:=rfl
variable {P:Program}{W:World}{A:Around}{E:QC}{z:Shared}
def zfE {v:Value}{Q:QC}(hj:z.heap.IsTupleIter j t n)(ht:z.heap.IsTuple t us)(hv:us[n]? =some v)
  (q:∀g,g.IsTupleIter j t (n+1)->Heap.SameBut j z.heap g->Q v {z with heap:=g}):wpAny (model P W) A (Builtin.SmallTypes.nextOf (.ref j)) Q E z:=by
 obtain⟨oj,ej,cj,dj⟩:=id hj;obtain⟨ot,et,_,nt,dt⟩:=ht;unfold Builtin.SmallTypes.nextOf;refine Ja (wpAny_callSpecial?_slot (name:=Str.ofString "__next__") hj.typeIs F.slot_tuple_iterator_next (wpAny_call_entry F.slot_tuple_iterator_next hj.typeIs F.entry_tuple_iterator_next ?_ (F.args_tuple_iterator_next_1 _)));show wpAny _ _ (field (.ref j) 0 >>=_) _ _ z;refine Ja (wpAny_field ej dj (x:=.ref t) rfl ?_);show wpAny _ _ (if (Value.ref t==Value.none)=true then _ else _) _ _ z;rw[if_neg (show¬((Value.ref t==Value.none)=true) from Jc)];show wpAny _ _ (field (.ref j) 1 >>=_) _ _ z;refine Ja (wpAny_field ej dj (x:=.int n 0) rfl ?_);show wpAny _ _ (seqItems? (.ref t) >>=_) _ _ z;refine Ja (wpAny_seqItems et dt ?_);simp only[Int.toNat_natCast,hv];refine Ja (wpAny_setField ej dj (by simp) (wpAny_pure ⟨v,rfl,wpAny_pure (q _ ⟨_,JU _ ej (Obj.isFreed_of_fields (Obj.data_mapFields dj _)),(Obj.cls_mapFields ..).trans cj,by rw[Obj.data_mapFields dj];simp[rawInt]⟩ (Heap.SameBut.update ..))⟩))
def ziX (hh:A.handled=none)(hj:z.heap.IsTupleIter j t n)(ht:z.heap.IsTuple t us)(hv:us[n]? =none)
  (q:∀g e,Heap.ExtBut j z.heap g->(∃o,g.get? e=some o/\o.cls=.type "StopIteration")->E (.ref e) {z with heap:=g}):wpAny (model P W) A (Builtin.SmallTypes.nextOf (.ref j)) Q E z:=by
 obtain⟨oj,ej,cj,dj⟩:=id hj;obtain⟨ot,et,_,nt,dt⟩:=ht;unfold Builtin.SmallTypes.nextOf;refine Ja (wpAny_callSpecial?_slot (name:=Str.ofString "__next__") hj.typeIs F.slot_tuple_iterator_next (wpAny_call_entry F.slot_tuple_iterator_next hj.typeIs F.entry_tuple_iterator_next ?_ (F.args_tuple_iterator_next_1 _)));show wpAny _ _ (field (.ref j) 0 >>=_) _ _ z;refine Ja (wpAny_field ej dj (x:=.ref t) rfl ?_);show wpAny _ _ (if (Value.ref t==Value.none)=true then _ else _) _ _ z;rw[if_neg (show¬((Value.ref t==Value.none)=true) from Jc)];show wpAny _ _ (field (.ref j) 1 >>=_) _ _ z;refine Ja (wpAny_field ej dj (x:=.int n 0) rfl ?_);show wpAny _ _ (seqItems? (.ref t) >>=_) _ _ z;refine Ja (wpAny_seqItems et dt ?_);simp only[Int.toNat_natCast,hv];refine Ja (wpAny_rule (Ja (wpAny_setField ej dj (by simp) ?_)));show wpAny _ _ (newExc (.type "StopIteration") [] >>=_) _ _ _;refine Ja ?_;simp only[newExc,newTuple];refine Ja (wpAny_newObj_type ?_ (by size_fits));refine Ja (m:=firstArgMember _ _) (wpAny_of_eq (a:=Value.none) (by first | rfl | (simp only[firstArgMember];rfl)) ?_);refine wpAny_newObj_type ?_ (by size_fits);simp only[raiseNew];refine Ja (wpAny_handled ?_);first | rw[show A.in1.handled=none from hh] | rw[hh]
 refine Ja (wpAny_pure (wpAny_throw ?_));exact q _ _ (((Heap.SameBut.update ..).extBut.push _).push _) ⟨_,JJ _ rfl,rfl⟩
structure ZSt (g:Heap)(y a o i k p q:Addr)(n:Nat)(xs us:Array Value)(f:Value):Prop where
 zp:IsZip g y a o f
 its:IsPair g a (.ref i) (.ref k)
 own:∃b c,IsPair g o b c
 i1:g.IsTupleIter i p n
 i2:g.IsTupleIter k q n
 t1:g.IsTuple p xs
 t2:g.IsTuple q us
def znu {u v:Value}{Q:Option Value->Shared->Prop}(D:ZipApart y a o i k p q)(S:ZSt z.heap y a o i k p q n xs us .none)(hu:xs[n]? =some u)(hv:us[n]? =some v)
  (fin:∀g,ZSt g y a o i k p q (n+1) xs us (rawInt z.heap.objs.size)->IsPair g z.heap.objs.size u v->g.objs.size=z.heap.objs.size+1->(∀c r,c≠y->c≠o->c≠i->c≠k->z.heap.get? c=some r->g.get? c=some r)->Q (some (.ref z.heap.objs.size)) {z with heap:=g}):
  wpAny (model P W) A (pyNext (.ref y)) Q E z:=by
 obtain⟨hz,ha,⟨b,c,ho⟩,hi,hk,hp,hq⟩:=S;have tz:z.TypeIs (.ref y) "zip" :=⟨_,hz,rfl⟩;have main:wpAny (model P W) A.in1 (Builtin.«zip.__next__» ⟨[.ref y],[]⟩) (λr s'=>∃v,r=.done (.ret v)/\Q (some v) s') (λe s'=>True/\False) z:=by
  show wpAny _ _ (field (.ref y) 2 >>=_) _ _ _;refine Ja (wpAny_field hz rfl (x:=.bool false) rfl ?_);show wpAny _ _ (field (.ref y) 3 >>=_) _ _ _;refine Ja (wpAny_field hz rfl (x:=.ref a) rfl ?_);refine Ja (wpAny_seqItems ha rfl ?_);show wpAny _ _ (Builtin.SmallTypes.ownedTupleIsFree (.ref y) >>=_) _ _ _;refine Ja ?_;unfold Builtin.SmallTypes.ownedTupleIsFree;refine Ja (wpAny_field hz rfl (x:=.none) rfl (wpAny_pure ?_));simp only[if_true];refine Ja (wpAny_rule ?_);refine Ja (wpAny_field hz rfl (x:=.ref o) rfl ?_);refine Ja (wpAny_setField_rec hz (by simp) λg1 hz1 s1=>?_);replace hz1:IsZip g1 y a o .ellipsis:=hz1;refine Ja ?_;simp only[List.zipIdx_cons,List.zipIdx_nil,List.forIn_cons,List.forIn_nil];refine Ja (Ja (wpAny_onRaise ?_));show wpAny _ _ (Builtin.SmallTypes.nextOf (.ref i) >>=_) _ _ _;refine Ja (zfE (hi.extBut s1.extBut D.i1z) (hp.extBut s1.extBut D.l1z) hu λg2 i2 s2=>wpAny_pure ?_);have ho2:IsPair g2 o b c:=s2.extBut _ _ D.TOi1 (s1.extBut _ _ D.TOz ho);refine Ja (wpAny_seqItems ho2 rfl ?_);refine Ja (wpAny_updateSeq_pair ho2 λg3 ho3 s3=>?_);replace ho3:IsPair g3 o u c:=ho3;refine Ja (wpAny_letGo (wpAny_pure ?_));refine Ja (Ja (wpAny_onRaise ?_));show wpAny _ _ (Builtin.SmallTypes.nextOf (.ref k) >>=_) _ _ _;refine Ja (zfE (((hk.extBut s1.extBut D.i2z).extBut s2.extBut D.i12.symm).extBut s3.extBut D.TOi2.symm) (((hq.extBut s1.extBut D.l2z).extBut s2.extBut D.l2i1).extBut s3.extBut D.l2TO) hv λg4 k4 s4=>wpAny_pure ?_);have ho4:IsPair g4 o u c:=s4.extBut _ _ D.TOi2 ho3;refine Ja (wpAny_seqItems ho4 rfl ?_);refine Ja (wpAny_updateSeq_pair ho4 λg5 ho5 s5=>?_);replace ho5:IsPair g5 o u v:=ho5;refine Ja (wpAny_letGo (wpAny_pure (wpAny_pure ?_)));refine Ja (wpAny_seqItems ho5 rfl ?_);refine Ja (wpAny_newTuple ?_);have sz:g5.objs.size=z.heap.objs.size:=by rw[s5.1,s4.1,s3.1,s2.1,s1.1]
  have hz5:IsZip g5 y a o .ellipsis:=s5.extBut _ _ D.TOz.symm (s4.extBut _ _ D.i2z.symm (s3.extBut _ _ D.TOz.symm (s2.extBut _ _ D.i1z.symm hz1)));have up5:∀c r,c≠y->c≠o->c≠i->c≠k->z.heap.get? c=some r->g5.get? c=some r:=λc r c1 c2 c3 c4 e=>s5.extBut _ _ c2 (s4.extBut _ _ c4 (s3.extBut _ _ c2 (s2.extBut _ _ c3 (s1.extBut _ _ c1 e))));have hi5:g5.IsTupleIter i p (n+1):=((i2.extBut s3.extBut D.TOi1.symm).extBut s4.extBut D.i12).extBut s5.extBut D.TOi1.symm;have hk5:g5.IsTupleIter k q (n+1):=k4.extBut s5.extBut D.TOi2.symm;have ly:y < g5.objs.size:=JF hz5;show wpAny _ _ (Builtin.SmallTypes.ownedTupleHandOut (.ref y) (.ref g5.objs.size) >>=_) _ _ _;refine Ja ?_;unfold Builtin.SmallTypes.ownedTupleHandOut;have hz6:IsZip (g5.push {cls:=.type "tuple",data:=.seq #[u,v]}) y a o .ellipsis:=JC _ hz5;refine Ja (wpAny_setField_rec hz6 (by simp) λg7 hz7 s7=>?_);replace hz7:IsZip g7 y a o (rawInt g5.objs.size):=hz7;refine wpAny_setField_rec hz7 (by simp) λg8 hz8 s8=>?_;replace hz8:IsZip g8 y a o (rawInt g5.objs.size):=hz8;have up:∀c r,c≠y->g5.get? c=some r->g8.get? c=some r:=λc r c1 e=>s8.extBut _ _ c1 (s7.extBut _ _ c1 (JC _ e));have new8:IsPair g8 g5.objs.size u v:=s8.extBut _ _ (Nat.ne_of_gt ly) (s7.extBut _ _ (Nat.ne_of_gt ly) (JJ _ rfl));have sz8:g8.objs.size=g5.objs.size+1:=by rw[s8.1,s7.1,J2]
  rw[sz] at hz8 new8 sz8;refine wpAny_pure ⟨_,rfl,?_⟩;show Q (some (.ref g5.objs.size)) _;rw[sz];have upz:∀c r,c≠y->c≠o->c≠i->c≠k->z.heap.get? c=some r->g8.get? c=some r:=λc r c1 c2 c3 c4 e=>up c r c1 (up5 c r c1 c2 c3 c4 e);refine fin g8 ⟨hz8,upz _ _ D.TIz D.TITO D.TIi1 D.TIi2 ha,⟨_,_,up _ _ D.TOz ho5⟩,?_,?_,?_,?_⟩ new8 sz8 upz
  ·obtain⟨r,e,x⟩:=hi5;exact⟨r,up _ r D.i1z e,x⟩
  ·obtain⟨r,e,x⟩:=hk5;exact⟨r,up _ r D.i2z e,x⟩
  ·obtain⟨r,e,x⟩:=hp;exact⟨r,upz _ r D.l1z D.l1TO D.l1i1 D.l1i2 e,x⟩
  ·obtain⟨r,e,x⟩:=hq;exact⟨r,upz _ r D.l2z D.l2TO D.l2i1 D.l2i2 e,x⟩
 unfold pyNext;exact Ja (wpAny_attempt (wpAny_callSpecial?_slot (name:=Str.ofString "__next__") tz F.slot_zip_next (wpAny_call_entry F.slot_zip_next tz F.entry_zip_next (wpAny_mono main (λr s' ⟨v,e,h⟩=>⟨v,e,wpAny_pure h⟩) λ_ _ x=>x.2.elim) (F.args_zip_next_1 _))))
def zox {Q:Option Value->Shared->Prop}(hh:A.handled=none)(D:ZipApart y a o i k p q)(S:ZSt z.heap y a o i k p q n xs us .none)(he:xs[n]? =none\/us[n]? =none)
  (fin:∀g,(∀c r,c≠y->c≠o->c≠i->c≠k->z.heap.get? c=some r->g.get? c=some r)->Q none {z with heap:=g}):wpAny (model P W) A (pyNext (.ref y)) Q E z:=by
 obtain⟨hz,ha,⟨b,c,ho⟩,hi,hk,hp,hq⟩:=S;have tz:z.TypeIs (.ref y) "zip" :=⟨_,hz,rfl⟩;have main:wpAny (model P W) A.in1 (Builtin.«zip.__next__» ⟨[.ref y],[]⟩) (λ_ _=>False) (λe s'=>∃g x,e=.ref x/\s'={z with heap:=g}/\(∀c r,c≠y->c≠o->c≠i->c≠k->z.heap.get? c=some r->g.get? c=some r)/\∃r,g.get? x=some r/\r.cls=.type "StopIteration") z:=by
  show wpAny _ _ (field (.ref y) 2 >>=_) _ _ _;refine Ja (wpAny_field hz rfl (x:=.bool false) rfl ?_);show wpAny _ _ (field (.ref y) 3 >>=_) _ _ _;refine Ja (wpAny_field hz rfl (x:=.ref a) rfl ?_);refine Ja (wpAny_seqItems ha rfl ?_);show wpAny _ _ (Builtin.SmallTypes.ownedTupleIsFree (.ref y) >>=_) _ _ _;refine Ja ?_;unfold Builtin.SmallTypes.ownedTupleIsFree;refine Ja (wpAny_field hz rfl (x:=.none) rfl (wpAny_pure ?_));simp only[if_true];refine Ja (wpAny_rule ?_);refine Ja (wpAny_field hz rfl (x:=.ref o) rfl ?_);refine Ja (wpAny_setField_rec hz (by simp) λg1 hz1 s1=>?_);replace hz1:IsZip g1 y a o .ellipsis:=hz1;refine Ja ?_;simp only[List.zipIdx_cons,List.zipIdx_nil,List.forIn_cons,List.forIn_nil];refine Ja (Ja (wpAny_onRaise ?_));show wpAny _ _ (Builtin.SmallTypes.nextOf (.ref i) >>=_) _ _ _;cases hu:xs[n]? with
  | none=>
   refine Ja (ziX (A:=A.in1) (show A.in1.handled=none from hh) (hi.extBut s1.extBut D.i1z) (hp.extBut s1.extBut D.l1z) hu λg2 e s2 he2=>?_);obtain⟨r,er,cr⟩:=he2;have hz2:IsZip g2 y a o .ellipsis:=s2 _ _ D.i1z.symm hz1;have ne:e≠y:=λx=>by subst x;rw[hz2] at er;cases er;simp at cr
   exact wpAny_setField_rec hz2 (by simp) λg3 _ s3=>⟨g3,e,rfl,rfl,λc r c1 _ c3 _ x=>s3.extBut _ _ c1 (s2 _ _ c3 (s1.extBut _ _ c1 x)),r,s3.extBut _ _ ne er,cr⟩
  | some u=>
   have hv:us[n]? =none:=he.elim (λz=>by rw[hu] at z;cases z) id;refine Ja (zfE (hi.extBut s1.extBut D.i1z) (hp.extBut s1.extBut D.l1z) hu λg2 i2 s2=>wpAny_pure ?_);have ho2:IsPair g2 o b c:=s2.extBut _ _ D.TOi1 (s1.extBut _ _ D.TOz ho);refine Ja (wpAny_seqItems ho2 rfl ?_);refine Ja (wpAny_updateSeq_pair ho2 λg3 ho3 s3=>?_);refine Ja (wpAny_letGo (wpAny_pure ?_));refine Ja (Ja (wpAny_onRaise ?_));show wpAny _ _ (Builtin.SmallTypes.nextOf (.ref k) >>=_) _ _ _;refine Ja (ziX (A:=A.in1) (show A.in1.handled=none from hh) (((hk.extBut s1.extBut D.i2z).extBut s2.extBut D.i12.symm).extBut s3.extBut D.TOi2.symm) (((hq.extBut s1.extBut D.l2z).extBut s2.extBut D.l2i1).extBut s3.extBut D.l2TO) hv λg4 e s4 he4=>?_);obtain⟨r,er,cr⟩:=he4;have hz4:IsZip g4 y a o .ellipsis:=s4 _ _ D.i2z.symm (s3.extBut _ _ D.TOz.symm (s2.extBut _ _ D.i1z.symm hz1));have ne:e≠y:=λx=>by subst x;rw[hz4] at er;cases er;simp at cr
   exact wpAny_setField_rec hz4 (by simp) λg5 _ s5=>⟨g5,e,rfl,rfl,λc r c1 c2 c3 c4 x=>s5.extBut _ _ c1 (s4 _ _ c4 (s3.extBut _ _ c2 (s2.extBut _ _ c3 (s1.extBut _ _ c1 x)))),r,s5.extBut _ _ ne er,cr⟩
 unfold pyNext;refine Ja (wpAny_attempt (wpAny_callSpecial?_slot (name:=Str.ofString "__next__") tz F.slot_zip_next (wpAny_call_entry F.slot_zip_next tz F.entry_zip_next (wpAny_mono main (λ_ _ x=>x.elim) λe s' h=>?_) (F.args_zip_next_1 _))));obtain⟨g,x,rfl,rfl,up,r,er,cr⟩:=h;exact Ja (wpAny_isInstance (T:= "StopIteration") (b:=true) ⟨r,er,cr⟩ isSubtype_stop (wpAny_pure (fin _ up)))
abbrev tz1 (g:Heap)(p:Addr):Heap:=g.push {cls:=.type "tuple_iterator",data:=.fields #[.ref p,.int 0 0]}
abbrev tz2 (g:Heap)(p q:Addr):Heap:=(tz1 g p).push {cls:=.type "tuple_iterator",data:=.fields #[.ref q,.int 0 0]}
abbrev tz3 (g:Heap)(p q:Addr):Heap:=(tz2 g p q).push {cls:=.type "tuple",data:=.seq #[.ref g.objs.size,.ref (tz1 g p).objs.size]}
abbrev tz4 (g:Heap)(p q:Addr):Heap:=(tz3 g p q).push {cls:=.type "tuple",data:=.seq #[.none,.none]}
abbrev tz5 (g:Heap)(p q:Addr):Heap:=(tz4 g p q).push {cls:=.type "zip",data:=.fields #[.none,.bool false,.bool false,.ref (tz2 g p q).objs.size,.ref (tz3 g p q).objs.size]}
def znI {Q:QC}(hp:z.heap.IsTuple p xs)(hq:z.heap.IsTuple q us)
  (fin:∀g,ZSt g (z.heap.objs.size+4) (z.heap.objs.size+2) (z.heap.objs.size+3) z.heap.objs.size (z.heap.objs.size+1) p q 0 xs us .none->g.objs.size=z.heap.objs.size+5->(∀c r,z.heap.get? c=some r->g.get? c=some r)->Q (.ref (z.heap.objs.size+4)) {z with heap:=g}):
  wpAny (model P W) A (call (.type "zip") [.ref p,.ref q]) Q E z:=by
 have M:Meets (Builtin.«zip.__new__» ⟨[.type "zip",.ref p,.ref q],[]⟩) (λ_ R s=>s.heap.IsTuple p xs/\s.heap.IsTuple q us/\R (.ok (.ret (.ref (tz4 s.heap p q).objs.size))) {s with heap:=tz5 s.heap p q}):=
  .of_wp λprog w A R s h=>by
   obtain⟨hp0,g,d,tk,os⟩:=s;obtain⟨h1,h2,h⟩:=h;have hsub:=sub_zip;have L1:Heap.IsTuple (Shared.heap ⟨hp0,g,d,tk,os⟩) p xs:=h1;have L2:Heap.IsTuple (Shared.heap ⟨hp0.push {cls:=.type "tuple_iterator",data:=.fields #[.ref p,.int 0 0]},g,d,tk,os⟩) q us:=by obtain⟨r,e,x⟩:=h2;exact⟨r,JC _ e,x⟩
   wp_walk using wpAny_pyIter_tuple L1,wpAny_pyIter_tuple L2
   exact⟨_,rfl,h⟩
 have n1:(tz1 z.heap p).objs.size=z.heap.objs.size+1:=J2 ..;have n2:(tz2 z.heap p q).objs.size=z.heap.objs.size+2:=by rw[J2,n1]
 have n3:(tz3 z.heap p q).objs.size=z.heap.objs.size+3:=by rw[J2,n2]
 have n4:(tz4 z.heap p q).objs.size=z.heap.objs.size+4:=by rw[J2,n3]
 have n5:(tz5 z.heap p q).objs.size=z.heap.objs.size+5:=by rw[J2,n4]
 have a5:(tz5 z.heap p q).get? (tz4 z.heap p q).objs.size=some _:=JJ _ rfl;have a4:(tz5 z.heap p q).get? (tz3 z.heap p q).objs.size=some _:=JC _ (JJ _ rfl);have a3:(tz5 z.heap p q).get? (tz2 z.heap p q).objs.size=some _:=JC _ (JC _ (JJ _ rfl));have a2:(tz5 z.heap p q).get? (tz1 z.heap p).objs.size=some _:=JC _ (JC _ (JC _ (JJ _ rfl)));have a1:(tz5 z.heap p q).get? z.heap.objs.size=some _:=JC _ (JC _ (JC _ (JC _ (JJ _ rfl))));have up:∀c r,z.heap.get? c=some r->(tz5 z.heap p q).get? c=some r:=λc r x=>JC _ (JC _ (JC _ (JC _ (JC _ x))));rw[n2,n3,n4] at a5;rw[n1,n2] at a3;rw[n3] at a4;rw[n1] at a2;refine callType_new F.called_zip (by decide) (F.typeCall_zip_2 _ _) (F.newCall_zip_2 _ _) (λobj=>F.args_object_init_3 obj _ _) F.entry_zip_new M ⟨hp,hq,?_⟩;show _/\_;rw[n4];refine⟨⟨_,a5,rfl⟩,fin _ ⟨a5,a3,⟨_,_,a4⟩,⟨_,a1,rfl,rfl⟩,⟨_,a2,rfl,rfl⟩,?_,?_⟩ n5 up⟩
 ·obtain⟨r,e,x⟩:=hp;exact⟨r,up _ _ e,x⟩
 ·obtain⟨r,e,x⟩:=hq;exact⟨r,up _ _ e,x⟩
end
structure ZI (g:Heap)(y a o i k p q:Addr)(n:Nat)(f:Value):Prop where
 zp:IsZip g y a o f
 its:IsPair g a (.ref i) (.ref k)
 own:∃b c,IsPair g o b c
 i1:g.IsTupleIter i p n
 i2:g.IsTupleIter k q n
def ZSt.zi (S:ZSt g y a o i k p q n xs us f):ZI g y a o i k p q n f:=⟨S.zp,S.its,S.own,S.i1,S.i2⟩
def Itz (K:QA)(p q:Addr)(xs us:QR):It:=
 ⟨λn H=>SqT K H p xs/\SqT K H q us/\n < min xs.length us.length,λn H v H'=>∃(T:Addr)(x u:V),H T=none/\xs[n]? =some x/\us[n]? =some u/\v=.ref T/\H'=upd H T (.tup [x,u]),λn H=>SqT K H p xs/\SqT K H q us/\min xs.length us.length<=n⟩
def _root_.JN:=@List.not_mem_nil
def znW {P:Program}{w:World}{K:QA}{elts:List Expr}{x1:Nat}{tpos:Pos}{y a o i k p q:Addr}{xs us:QR}(D:ZipApart y a o i k p q):
  Turn P w K (.Tuple elts x1 tpos) (Itz K p q xs us) [y,a,o,i,k] y (λn h=>ZI h y a o i k p q n .none) where
 mem:=by simp
 obj:=λn h st b hb=>by
  obtain⟨hz,ha,⟨b1,b2,ho⟩,⟨r1,e1,_,d1⟩,⟨r2,e2,_,d2⟩⟩:=st;simp only[JD,JN,or_false] at hb;rcases hb with rfl | rfl | rfl | rfl | rfl
  ·exact⟨_,hz,λv z=>by cases z⟩
  ·exact⟨_,ha,λv z=>by cases z⟩
  ·exact⟨_,ho,λv z=>by cases z⟩
  ·exact⟨_,e1,λv z=>by rw[d1] at z;cases z⟩
  ·exact⟨_,e2,λv z=>by rw[d2] at z;cases z⟩
 keep:=λn h h' st kp=>by obtain⟨hz,ha,⟨b1,b2,ho⟩,⟨r1,e1,x1⟩,⟨r2,e2,x2⟩⟩:=st;exact⟨kp y (by simp) _ hz,kp a (by simp) _ ha,⟨b1,b2,kp o (by simp) _ ho⟩,⟨r1,kp i (by simp) _ e1,x1⟩,⟨r2,kp k (by simp) _ e2,x2⟩⟩
 item:=by
  intro X hP hw hK hc n pins s σ H E I hf st hg;subst hP hw hK;obtain⟨hp,hq,hn⟩:=hg;obtain⟨its,r1,T1,z1⟩:=I.tuple hp;obtain⟨jts,r2,T2,z2⟩:=I.tuple hq;have hx:xs[n]? =some xs[n]:=JB (by lia);have hu:us[n]? =some us[n]:=JB (by lia);obtain⟨v1,e1,q1⟩:=r1.get hx;obtain⟨v2,e2,q2⟩:=r2.get hu;have fy:=hf y (by simp);have fa:=hf a (by simp);have fo:=hf o (by simp);have fi:=hf i (by simp);have fk:=hf k (by simp);have S:ZSt s.heap y a o i k p q n its.toArray jts.toArray .none:=⟨st.zp,st.its,st.own,st.i1,st.i2,T1,T2⟩;refine znu D S (u:=v1) (v:=v2) (by simpa using e1) (by simpa using e2) λg Sg new sz up=>?_;have hT:H s.heap.objs.size=none:=I.hok.fresh (Jb _);have inch:∀{b:Addr},H b≠none->b≠y/\b≠o/\b≠i/\b≠k:=λ{b} h=>⟨λz=>h (by rw[z];exact fy.1),λz=>h (by rw[z];exact fo.1),λz=>h (by rw[z];exact fi.1),λz=>h (by rw[z];exact fk.1)⟩;have hok:HOk X.prog X.w (upd H s.heap.objs.size (.tup [xs[n],us[n]])) g:=λb u e=>by
   by_cases hb:b=s.heap.objs.size
   ·subst hb;rw[za] at e;cases e;refine⟨by simp only[JK,Nx];rw[sizeLine_eq];decide,[v1,v2],.cons q1 (.cons q2 .nil),⟨_,new,rfl,_,rfl⟩⟩
   ·rw[zc hb] at e;refine(I.hok b u e).stay (λc r hc q=>?_) (λc q=>by rw[zc (zd q hT)];exact q) λc ys q=>by rw[zc (zd q hT)];exact q
    have hne:H c≠none:=by
     rcases hc with rfl | hc
     ·rw[e];intro z;cases z
     ·rw[hc];intro z;cases z
    obtain⟨c1,c2,c3,c4⟩:=inch hne;exact up c r c1 c2 c3 c4 q
  have I1:Inv X pins σ (upd H s.heap.objs.size (.tup [xs[n],us[n]])) {s with heap:=g}:=by
   refine I.step (g':=s.gens) (d':=s.drawn) (t':=s.toks) (ch:=[y,o,i,k]) (λb hb=>?_) (λb r _ _ hc e _=>?_) (λb r _ _ hc e _=>⟨r.slots,?_⟩) (λb r hc e hn=>?_) (λb r hc e=>⟨r,?_⟩) (λb ys e=>by rw[zc (zd e hT)];exact e)
    (λb r ys e=>by rw[zc (zd e hT)];exact e) (λb ps e=>⟨#[],by rw[zc (zd e hT),e];simp⟩) (λm hm=>?_) hok I.bare
   ·simp only[JD,JN,or_false] at hb;rcases hb with rfl | rfl | rfl | rfl
    ·exact⟨fy.2.2.2.1,fy.2.1,fy.2.2.2.2.1,fy.2.2.2.2.2⟩
    ·exact⟨fo.2.2.2.1,fo.2.1,fo.2.2.2.2.1,fo.2.2.2.2.2⟩
    ·exact⟨fi.2.2.2.1,fi.2.1,fi.2.2.2.2.1,fi.2.2.2.2.2⟩
    ·exact⟨fk.2.2.2.1,fk.2.1,fk.2.2.2.2.1,fk.2.2.2.2.2⟩
   ·simp only[JD,JN,or_false,not_or] at hc;exact up b r hc.1 hc.2.1 hc.2.2.1 hc.2.2.2 e
   ·simp only[JD,JN,or_false,not_or] at hc;exact up b r hc.1 hc.2.1 hc.2.2.1 hc.2.2.2 e
   ·rw[zc (Jk (JF e))];exact hn
   ·simp only[JD,JN,or_false,not_or] at hc;exact up b r hc.1 hc.2.1 hc.2.2.1 hc.2.2.2 e
   ·obtain⟨r,es,ep,er,d⟩:=hm;exact⟨r,es,ep,up _ r (Ne.symm fy.2.1) (Ne.symm fo.2.1) (Ne.symm fi.2.1) (Ne.symm fk.2.1) er,d⟩
  have hfp:∀b∈ [y,a,o,i,k],upd H s.heap.objs.size (.tup [xs[n],us[n]]) b=none:=λb hb=>by
   have fb:=hf b hb;have lt:b < s.heap.objs.size:=by
    obtain⟨hz,ha,⟨b1,b2,ho⟩,⟨r1,e1,_⟩,⟨r2,e2,_⟩⟩:=st;simp only[JD,JN,or_false] at hb;rcases hb with rfl | rfl | rfl | rfl | rfl
    ·exact JF hz
    ·exact JF ha
    ·exact JF ho
    ·exact JF e1
    ·exact JF e2
   rw[zc (Jk lt)];exact fb.1
  refine⟨_,rfl,wpAny_letOwnedTupleGo_zip Sg.zp λg2 hz2 s2=>?_⟩;refine⟨.ref s.heap.objs.size,_,I1.turned (it:=y) (t':=s.toks) (λb r hb e=>s2.extBut _ _ hb e) (hfp y (by simp)) fy.2.1 fy.2.2.2.1 fy.2.2.2.2.1 fy.2.2.2.2.2,rfl,⟨_,_,_,hT,hx,hu,rfl,rfl⟩,⟨hz2,s2.extBut _ _ D.TIz Sg.its,?_,Sg.i1.extBut s2.extBut D.i1z,Sg.i2.extBut s2.extBut D.i2z⟩,hfp⟩;obtain⟨b1,b2,ho⟩:=Sg.own;exact⟨b1,b2,s2.extBut _ _ D.TOz ho⟩
 done:=by
  intro X hP hw hK hc n pins s σ H E I hf st hg;subst hP hw hK;obtain⟨hp,hq,hn⟩:=hg;obtain⟨its,r1,T1,z1⟩:=I.tuple hp;obtain⟨jts,r2,T2,z2⟩:=I.tuple hq;have fy:=hf y (by simp);have fo:=hf o (by simp);have fi:=hf i (by simp);have fk:=hf k (by simp);have S:ZSt s.heap y a o i k p q n its.toArray jts.toArray .none:=⟨st.zp,st.its,st.own,st.i1,st.i2,T1,T2⟩;have l1:=r1.length;have l2:=r2.length;have he:its.toArray[n]? =none\/jts.toArray[n]? =none:=by
   by_cases h:xs.length<=n
   ·exact .inl (by simp;lia)
   ·exact .inr (by simp;lia)
  refine zox (I.ok.hd hc) D S he λg up=>⟨rfl,?_⟩;have inch:∀{b:Addr},H b≠none->b≠y/\b≠o/\b≠i/\b≠k:=λ{b} h=>⟨λz=>h (by rw[z];exact fy.1),λz=>h (by rw[z];exact fo.1),λz=>h (by rw[z];exact fi.1),λz=>h (by rw[z];exact fk.1)⟩;refine I.step (g':=s.gens) (d':=s.drawn) (t':=s.toks) (ch:=[y,o,i,k]) (λb hb=>?_) (λb r _ _ hc e _=>?_) (λb r _ _ hc e _=>⟨r.slots,?_⟩) (λb r hc e hn=>hn) (λb r hc e=>⟨r,?_⟩) (λb ys e=>e) (λb r ys e=>e) (λb ps e=>⟨#[],by rw[e];simp⟩) (λm hm=>?_) (λb u e=>?_) I.bare
  ·simp only[JD,JN,or_false] at hb;rcases hb with rfl | rfl | rfl | rfl
   ·exact⟨fy.2.2.2.1,fy.2.1,fy.2.2.2.2.1,fy.2.2.2.2.2⟩
   ·exact⟨fo.2.2.2.1,fo.2.1,fo.2.2.2.2.1,fo.2.2.2.2.2⟩
   ·exact⟨fi.2.2.2.1,fi.2.1,fi.2.2.2.2.1,fi.2.2.2.2.2⟩
   ·exact⟨fk.2.2.2.1,fk.2.1,fk.2.2.2.2.1,fk.2.2.2.2.2⟩
  ·simp only[JD,JN,or_false,not_or] at hc;exact up b r hc.1 hc.2.1 hc.2.2.1 hc.2.2.2 e
  ·simp only[JD,JN,or_false,not_or] at hc;exact up b r hc.1 hc.2.1 hc.2.2.1 hc.2.2.2 e
  ·simp only[JD,JN,or_false,not_or] at hc;exact up b r hc.1 hc.2.1 hc.2.2.1 hc.2.2.2 e
  ·obtain⟨r,es,ep,er,d⟩:=hm;exact⟨r,es,ep,up _ r (Ne.symm fy.2.1) (Ne.symm fo.2.1) (Ne.symm fi.2.1) (Ne.symm fk.2.1) er,d⟩
  ·refine(I.hok b u e).stay (λc r hc q=>?_) (λ_ q=>q) λ_ _ q=>q;have hne:H c≠none:=by
    rcases hc with rfl | hc
    ·rw[e];intro z;cases z
    ·rw[hc];intro z;cases z
   obtain⟨c1,c2,c3,c4⟩:=inch hne;exact up c r c1 c2 c3 c4 q
 self:=λ_ _ _ _ _ st h=>wpAny_pyIter_zip st.zp h
def zse (n p q:Nat)(h1:p < n)(h2:q < n):ZipApart (n+4) (n+2) (n+3) n (n+1) p q where
 TIz:=show(n+2:Nat)≠n+4 by lia
 TOz:=show(n+3:Nat)≠n+4 by lia
 i1z:=show(n:Nat)≠n+4 by lia
 i2z:=show(n+1:Nat)≠n+4 by lia
 TITO:=show(n+2:Nat)≠n+3 by lia
 TIi1:=show(n+2:Nat)≠n by lia
 TIi2:=show(n+2:Nat)≠n+1 by lia
 TOi1:=show(n+3:Nat)≠n by lia
 TOi2:=show(n+3:Nat)≠n+1 by lia
 i12:=show(n:Nat)≠n+1 by lia
 l1z:=show(p:Nat)≠n+4 by lia
 l1TO:=show(p:Nat)≠n+3 by lia
 l1i1:=show(p:Nat)≠n by lia
 l1i2:=show(p:Nat)≠n+1 by lia
 l2z:=show(q:Nat)≠n+4 by lia
 l2TO:=show(q:Nat)≠n+3 by lia
 l2i1:=show(q:Nat)≠n by lia
 l2i2:=show(q:Nat)≠n+1 by lia
section
variable {X:Cx}
def iZip (K:QA)(ta:TA):TI:=fun σ H R=>ta σ H λvs H1=>∃(p q:Addr)(xs us:QR),vs=[.ref p,.ref q]/\SqT K H1 p xs/\SqT K H1 q us/\R (Itz K p q xs us) H1
def zrs {elts:List Expr}{x1:Nat}{tpos:Pos}{a b:Expr}{p pos:Pos}(hg:Gl X "zip") (hm:X.mg "zip" =none) (ha:PA X [a,b] ta) (hs:starEach [a,b] X.env=[(false,eval a X.env),(false,eval b X.env)]:=by rfl) (hs2:starEach [b] X.env=[(false,eval b X.env)]:=by rfl):
  PI X (.Tuple elts x1 tpos) (.Call (.Name "zip" p) [a,b] [] pos) (iZip X.K ta):=by
 intro pins s σ H R I h;refine Call_ (zce I hg hm (u:=.type "zip") (by rfl) (PyProof.Rows.callWith_type1 (thn (ha pos pins s σ H _ I h) λus s1 ⟨vs,H1,I1,r1,q1⟩=>?_) (by rw[hs,hs2]) (by rw[hs2];rfl)));obtain⟨p1,p2,xs,ys,rfl,hp,hq,q⟩:=q1;obtain⟨u,w',rfl,ru,rw'⟩:=vals2 r1;cases (show u=Value.ref _ from ru);cases (show w'=Value.ref _ from rw');obtain⟨its,r1,T1,z1⟩:=I1.tuple hp;obtain⟨jts,r2,T2,z2⟩:=I1.tuple hq;refine znI T1 T2 λg S sz up=>wpAny_pyIter_zip S.zp ?_;have lt1:p1 < s1.heap.objs.size:=by obtain⟨r,e,_⟩:=T1;exact JF e
 have lt2:p2 < s1.heap.objs.size:=by obtain⟨r,e,_⟩:=T2;exact JF e
 refine⟨_,_,_,_,H1,rfl,I1.kept (t':=s1.toks) up,znW (zse _ _ _ lt1 lt2),S.zi,λb hb=>?_,q⟩;have hb':s1.heap.objs.size<=b:=by
  simp only[JD,JN,or_false] at hb;rcases hb with rfl | rfl | rfl | rfl | rfl
  ·exact JA _ _
  ·exact JA _ _
  ·exact JA _ _
  ·exact Jb _
  ·exact JA _ _
 exact I1.fpOk hb' (I1.hok.fresh hb')
def zpG {K:QA}{p q:Addr}{xs us:QR}{g:TG}{tb:TS}{D:Ends}{σ:St}{H:Hp}(Pv:Nat->St->Hp->Prop)(h0:Pv 0 σ H)(hl:∀i σ H,Pv i σ H->SqT K H p xs/\SqT K H q us)
  (hs:∀i x u T σ H,xs[i]? =some x->us[i]? =some u->H T=none->Pv i σ H->g (.ref T) σ (upd H T (.tup [x,u])) fun σ2 H2=>tb {D with nx:=Pv (i+1),ct:=Pv (i+1),bk:=D.nx} σ2 H2) (hd:∀σ H,Pv (min xs.length us.length) σ H->D.nx σ H):
  ∃W:Nat->Nat->St->Hp->Prop,(∃m,W 0 m σ H)/\∀i m σ H,W i m σ H->
   ((Itz K p q xs us).stop i H/\D.nx σ H)\/((Itz K p q xs us).go i H/\∃N:St->Hp->Prop,(∀σ' H',N σ' H'->∃m',m' < m/\W (i+1) m' σ' H')/\∀x H',(Itz K p q xs us).yld i H x H'->g x σ H' fun σ2 H2=>tb {D with nx:=N,ct:=N,bk:=D.nx} σ2 H2):=by
 refine⟨λi m σ H=>m=min xs.length us.length - i/\i<=min xs.length us.length/\Pv i σ H,⟨_,rfl,JM _,h0⟩,?_⟩;rintro i m σ H ⟨rfl,hi,p⟩;have q:=hl i σ H p;by_cases hlt:i < min xs.length us.length
 ·refine .inr ⟨⟨q.1,q.2,hlt⟩,Pv (i+1),fun σ' H' p'=>⟨_,by lia,rfl,hlt,p'⟩,λx H' y=>?_⟩;obtain⟨T,a,b,hT,e1,e2,rfl,rfl⟩:=y;exact hs i a b T σ H e1 e2 hT p
 ·have e:i=min xs.length us.length:=by lia
  subst e;exact .inl ⟨⟨q.1,q.2,Jb _⟩,hd σ H p⟩
end
end L2
namespace Pv
open PySem L2
mutual
def eqT:Th->Th->Bool
 | .non,.non=>true
 | .int a,.int b=>a==b
 | .str a,.str b=>a==b
 | .tup a,.tup b=>eqL a b
 | _,_=>false
def eqL:List Th->List Th->Bool
 | [],[]=>true
 | t::r,u::q=>eqT t u && eqL r q
 | _,_=>false
end
mutual
theorem zV:∀t u:Th,eqT t u=true↔t=u
 | .non,.non=>by simp[eqT]
 | .non,.int _=>by simp[eqT]
 | .non,.str _=>by simp[eqT]
 | .non,.tup _=>by simp[eqT]
 | .int _,.non=>by simp[eqT]
 | .int a,.int b=>by simp[eqT]
 | .int _,.str _=>by simp[eqT]
 | .int _,.tup _=>by simp[eqT]
 | .str _,.non=>by simp[eqT]
 | .str _,.int _=>by simp[eqT]
 | .str a,.str b=>by simp[eqT]
 | .str _,.tup _=>by simp[eqT]
 | .tup _,.non=>by simp[eqT]
 | .tup _,.int _=>by simp[eqT]
 | .tup _,.str _=>by simp[eqT]
 | .tup a,.tup b=>by have:=zdj a b;simp[eqT,this]
theorem zdj:∀a b:List Th,eqL a b=true↔a=b
 | [],[]=>by simp[eqL]
 | [],_::_=>by simp[eqL]
 | _::_,[]=>by simp[eqL]
 | t::r,u::q=>by have h1:=zV t u;have h2:=zdj r q;simp[eqL,h1,h2]
end
theorem zap (t:Th):eqT t t=true:=(zV t t).mpr rfl
theorem zcR:∀a b:List Th,eqL a b=((List.range (min a.length b.length)).all (λj=>eqT (a[j]?.getD .non) (b[j]?.getD .non)) && a.length==b.length)
 | [],[]=>rfl
 | [],_::_=>by simp[eqL]
 | _::_,[]=>by simp[eqL]
 | t::r,u::q=>by
  have h:=zcR r q;show(eqT t u && eqL r q)=_;rw[h,JK,JK,Nat.succ_min_succ,List.range_succ_eq_map,List.all_cons,List.all_map];have e:(λj=>eqT ((t::r)[j]?.getD .non) ((u::q)[j]?.getD .non)) ∘ Nat.succ=λj=>eqT (r[j]?.getD .non) (q[j]?.getD .non):=by funext j;simp
  rw[e];have e2:(r.length+1==q.length+1)=(r.length==q.length):=by rw[Np];simp
  rw[e2,Bool.and_assoc]
  rfl
theorem Rep.inj (r:Rep H t v)(q:Rep H u v):t=u:=by
 induction r generalizing u with
 | non=>cases q;rfl
 | int i=>cases q;rfl
 | str x=>cases q;rfl
 | @tup a xs ts e l h ih=>
  cases q with
  | @tup _ ys us e' l' h'=>
   rw[e] at e';cases e';refine congrArg Th.tup (List.ext_getElem? λi=>?_);by_cases hi:i < xs.length
   ·have h1:ts[i]? =some ts[i]:=JB (by lia);have h2:us[i]? =some us[i]:=JB (by lia);rw[h1,h2,ih i xs[i] ts[i] (JB hi) h1 (h' i xs[i] us[i] (JB hi) h2)]
   ·rw[JV (by lia),JV (by lia)]
open PySem.SeqAt in
section
variable {X:Cx}{pins:QE}{σ:L2.St}{H:Hp}{s:Shared}
def zix (I:Inv X pins σ H s){xs ys:QR}{ts us:List Th}{A:Around}(e:H a=some (.tup xs))(e':H b=some (.tup ys))(l:xs.length=ts.length)(l':ys.length=us.length)
  (ih:∀(j:Nat)(x y:V)(t u:Th)(vx vy:Value),xs[j]? =some x->ys[j]? =some y->ts[j]? =some t->us[j]? =some u->RelV x vx->RelV y vy->EqAt A.in1 s vx vy (eqT t u)):
  ∃its jts:List Value,s.heap.IsTuple a its.toArray/\s.heap.IsTuple b jts.toArray/\its.length=ts.length/\jts.length=us.length/\
   ∀j (h1:j < its.toArray.size) (h2:j < jts.toArray.size),EqAt A.in1 s its.toArray[j] jts.toArray[j] (eqT (ts[j]?.getD .non) (us[j]?.getD .non)):=by
 obtain⟨its,r1,T1,_⟩:=I.tuple (SqT.of e);obtain⟨jts,r2,T2,_⟩:=I.tuple (SqT.of e');have n1:=r1.length;have n2:=r2.length;refine⟨its,jts,T1,T2,by lia,by lia,λj h1 h2=>?_⟩;have h1':j < its.length:=by simpa using h1
 have h2':j < jts.length:=by simpa using h2
 obtain⟨vx,ex,rx⟩:=r1.get (JB (show j < xs.length by lia));obtain⟨vy,ey,ry⟩:=r2.get (JB (show j < ys.length by lia));have g1:ts[j]? =some ts[j]:=JB (by lia);have g2:us[j]? =some us[j]:=JB (by lia);have q:=ih j _ _ _ _ vx vy (JB (show j < xs.length by lia)) (JB (show j < ys.length by lia)) g1 g2 rx ry;rw[g1,g2];have z1:its.toArray[j]=vx:=by have:its[j]? =some its[j]:=JB h1';rw[this] at ex;simpa using JO ex
 have z2:jts.toArray[j]=vy:=by have:jts[j]? =some jts[j]:=JB h2';rw[this] at ey;simpa using JO ey
 rw[z1,z2];exact q
def zhT (I:Inv X pins σ H s)(r:Rep H t x):∀{u:Th}{y:V}{vx vy:Value}{A:Around},Rep H u y->RelV x vx->RelV y vy->A.units+dep t+1 < cLine->EqAt A s vx vy (eqT t u):=by
 induction r with
 | non=>
  intro u y vx vy A q rx ry hu;cases (show vx=Value.none from rx);cases q with
  | non=>cases (show vy=Value.none from ry);exact EqAt.same _
  | int i=>obtain⟨k,rfl⟩:=ry;exact EqAt.none_int i k
  | str z=>obtain⟨k,rfl⟩:=ry;exact EqAt.none_str z k
  | tup e l h=>cases (show vy=Value.ref _ from ry);obtain⟨its,_,T,_⟩:=I.tuple (SqT.of e);exact EqAt.none_tuple T (by lia)
 | int a=>
  intro u y vx vy A q rx ry hu;obtain⟨k1,rfl⟩:=rx;cases q with
  | non=>cases (show vy=Value.none from ry);exact EqAt.int_none a k1
  | int i=>obtain⟨k,rfl⟩:=ry;exact EqAt.int_int a k1 i k
  | str z=>obtain⟨k,rfl⟩:=ry;exact EqAt.int_str a k1 z k
  | tup e l h=>cases (show vy=Value.ref _ from ry);obtain⟨its,_,T,_⟩:=I.tuple (SqT.of e);exact EqAt.int_tuple a k1 T (by lia)
 | str a=>
  intro u y vx vy A q rx ry hu;obtain⟨k1,rfl⟩:=rx;cases q with
  | non=>cases (show vy=Value.none from ry);exact EqAt.str_none a k1
  | int i=>obtain⟨k,rfl⟩:=ry;exact EqAt.str_int a k1 i k
  | str z=>obtain⟨k,rfl⟩:=ry;exact EqAt.str_str a k1 z k
  | tup e l h=>cases (show vy=Value.ref _ from ry);obtain⟨its,_,T,_⟩:=I.tuple (SqT.of e);exact EqAt.str_tuple a k1 T (by lia)
 | @tup a xs ts e l h ih=>
  intro u y vx vy A q rx ry hu;cases (show vx=Value.ref a from rx);cases q with
  | non=>cases (show vy=Value.none from ry);obtain⟨its,_,T,_⟩:=I.tuple (SqT.of e);exact EqAt.tuple_none T (by lia)
  | int i=>obtain⟨k,rfl⟩:=ry;obtain⟨its,_,T,_⟩:=I.tuple (SqT.of e);exact EqAt.tuple_int i k T (by lia)
  | str z=>obtain⟨k,rfl⟩:=ry;obtain⟨its,_,T,_⟩:=I.tuple (SqT.of e);exact EqAt.tuple_str z k T (by lia)
  | @tup b ys us e' l' h'=>
   cases (show vy=Value.ref b from ry);by_cases hab:a=b
   ·subst hab;have z:=Rep.inj (Rep.tup e l h) (Rep.tup e' l' h');rw[<-z,zap];exact EqAt.same _
   ·have hd:dep (.tup ts)=depL ts+1:=rfl;obtain⟨its,jts,T1,T2,n1,n2,q⟩:=zix (A:=A) I e e' l l' λj x y t u vx vy h1 h2 h3 h4 rx ry=>ih j x t h1 h3 (h' j y u h2 h4) rx ry (by
     have:=zay h3;show A.units+1+dep t+1 < cLine;lia)
    have R:=RcAt.tuples T1 T2 (show A.units < cLine by lia) q;have e3:((List.range (min its.toArray.size jts.toArray.size)).all (λj=>eqT (ts[j]?.getD .non) (us[j]?.getD .non)) && its.toArray.size==jts.toArray.size)=eqT (.tup ts) (.tup us):=by show _=eqL ts us;rw[zcR,JG,JG,n1,n2]
    rw[e3] at R;exact EqAt.of_refs hab R
def rc_T (I:Inv X pins σ H s){A:Around}(r:Rep H t x)(q:Rep H u y)(rx:RelV x vx)(ry:RelV y vy)(hu:A.units+dep t+1 < cLine):RcAt A s vx vy (eqT t u)/\RcNeAt A s vx vy (!eqT t u):=by
 cases r with
 | non=>
  cases (show vx=Value.none from rx);cases q with
  | non=>cases (show vy=Value.none from ry);exact⟨RcAt.none_none,RcNeAt.none_none⟩
  | int i=>obtain⟨k,rfl⟩:=ry;exact⟨RcAt.none_int i k,RcNeAt.none_int i k⟩
  | str z=>obtain⟨k,rfl⟩:=ry;exact⟨RcAt.none_str z k,RcNeAt.none_str z k⟩
  | tup e l h=>cases (show vy=Value.ref _ from ry);obtain⟨its,_,T,_⟩:=I.tuple (SqT.of e);exact⟨RcAt.none_tuple T (by lia),RcNeAt.none_tuple T (by lia)⟩
 | int a=>
  obtain⟨k1,rfl⟩:=rx;cases q with
  | non=>cases (show vy=Value.none from ry);exact⟨RcAt.int_none a k1,RcNeAt.int_none a k1⟩
  | int i=>obtain⟨k,rfl⟩:=ry;exact⟨RcAt.int_int a k1 i k,RcNeAt.int_int a k1 i k⟩
  | str z=>obtain⟨k,rfl⟩:=ry;exact⟨RcAt.int_str a k1 z k,RcNeAt.int_str a k1 z k⟩
  | tup e l h=>cases (show vy=Value.ref _ from ry);obtain⟨its,_,T,_⟩:=I.tuple (SqT.of e);exact⟨RcAt.int_tuple a k1 T (by lia),RcNeAt.int_tuple a k1 T (by lia)⟩
 | str a=>
  obtain⟨k1,rfl⟩:=rx;cases q with
  | non=>cases (show vy=Value.none from ry);exact⟨RcAt.str_none a k1,RcNeAt.str_none a k1⟩
  | int i=>obtain⟨k,rfl⟩:=ry;exact⟨RcAt.str_int a k1 i k,RcNeAt.str_int a k1 i k⟩
  | str z=>obtain⟨k,rfl⟩:=ry;exact⟨RcAt.str_str a k1 z k,RcNeAt.str_str a k1 z k⟩
  | tup e l h=>cases (show vy=Value.ref _ from ry);obtain⟨its,_,T,_⟩:=I.tuple (SqT.of e);exact⟨RcAt.str_tuple a k1 T (by lia),RcNeAt.str_tuple a k1 T (by lia)⟩
 | @tup a xs ts e l h=>
  cases (show vx=Value.ref a from rx);cases q with
  | non=>cases (show vy=Value.none from ry);obtain⟨its,_,T,_⟩:=I.tuple (SqT.of e);exact⟨RcAt.tuple_none T (by lia),RcNeAt.tuple_none T (by lia)⟩
  | int i=>obtain⟨k,rfl⟩:=ry;obtain⟨its,_,T,_⟩:=I.tuple (SqT.of e);exact⟨RcAt.tuple_int i k T (by lia),RcNeAt.tuple_int i k T (by lia)⟩
  | str z=>obtain⟨k,rfl⟩:=ry;obtain⟨its,_,T,_⟩:=I.tuple (SqT.of e);exact⟨RcAt.tuple_str z k T (by lia),RcNeAt.tuple_str z k T (by lia)⟩
  | @tup b ys us e' l' h'=>
   cases (show vy=Value.ref b from ry);have hd:dep (.tup ts)=depL ts+1:=rfl;obtain⟨its,jts,T1,T2,n1,n2,q⟩:=zix (A:=A) I e e' l l' λj x y t u vx vy h1 h2 h3 h4 rx ry=>zhT I (h j x t h1 h3) (h' j y u h2 h4) rx ry (by
     have:=zay h3;show A.units+1+dep t+1 < cLine;lia)
   have e3:((List.range (min its.toArray.size jts.toArray.size)).all (λj=>eqT (ts[j]?.getD .non) (us[j]?.getD .non)) && its.toArray.size==jts.toArray.size)=eqT (.tup ts) (.tup us):=by show _=eqL ts us;rw[zcR,JG,JG,n1,n2]
   have R:=RcAt.tuples T1 T2 (show A.units < cLine by lia) q;have R':=RcNeAt.tuples T1 T2 (show A.units < cLine by lia) q;rw[e3] at R R';exact⟨R,R'⟩
end
section
variable {X:Cx}
def zeZ (hr:Room k X.A):OpR X (compareOp .Eq) (λx y H Q=>∃t u,Rep H t x/\Rep H u y/\dep t<=50/\Q (.bl (eqT t u)) H):=by intro pins s σ H x y v w Q I rx ry h;obtain⟨t,u,r1,r2,hd,q⟩:=h;have hu:=hr.units;exact(rc_T I r1 r2 rx ry (by lia)).1 _ _ _ _ ⟨.bl _,H,I,rfl,q⟩
def zhO (hr:Room k X.A):OpR X (compareOp .NotEq) (λx y H Q=>∃t u,Rep H t x/\Rep H u y/\dep t<=50/\Q (.bl (!eqT t u)) H):=by intro pins s σ H x y v w Q I rx ry h;obtain⟨t,u,r1,r2,hd,q⟩:=h;have hu:=hr.units;exact(rc_T I r1 r2 rx ry (by lia)).2 _ _ _ _ ⟨.bl _,H,I,rfl,q⟩
end
end Pv
namespace L2
open PySem PySem.Spec PyProof.Rows
def zch (kvs:QG):List Int:=kvs.filterMap λp=>match p.1 with | .inl n=>some n | .inr _=>none
def IntKeys (kvs:QG):Prop:=kvs.map (·.1)=(zch kvs).map Sum.inl
theorem KV.at {kvs:QG}{vs:List (Key ×Value)}(r:KV kvs vs):kvs.length=vs.length/\kvs.map (·.1)=vs.map (·.1):=by
 unfold KV at r
 induction r with
 | nil=>exact⟨rfl,rfl⟩
 | cons h _ ih=>exact⟨by simp[ih.1],by simp[ih.2,h.1]⟩
section
variable {X:Cx}
def zpo (r:KV kvs vs)(hi:IntKeys kvs){j:Nat}{k:Key}{x:Value}(e:vs[j]? =some (k,x))(hk:zfk k v=true):∃t,v=.int ((zch kvs)[j]?.getD 0) t/\j < (zch kvs).length:=by
 have h1:(vs.map (·.1))[j]? =some k:=by rw[JQ,e];rfl
 rw[<-r.at.2,hi,JQ] at h1;cases z:(zch kvs)[j]? with
 | none=>rw[z] at h1;cases h1
 | some n=>rw[z] at h1;have h2:k=Sum.inl n:=(JO h1).symm;subst h2;obtain⟨t,e'⟩:=Value.isInt_shape (k:=n) (v:=v) hk;exact⟨t,e',(JH.mp z).1⟩
theorem zfi:∀{us:QO}{ns:List Int},us.length=ns.length->(∀(j:Nat)(v:Value),us[j]? =some v->∃t,v=.int (ns[j]?.getD 0) t)->IntsAre us ns
 | [],[],_,_=>.nil
 | v::us,n::ns,hl,h=>by obtain⟨t,e⟩:=h 0 v rfl;subst e;exact .cons n t (zfi (by simpa using hl) λj v e=>h (j+1) v e)
 | [],_::_,hl,_=>by simp at hl
 | _::_,[],hl,_=>by simp at hl
def zhX (h:IntKeys kvs):(zch kvs).length=kvs.length:=by have:=congrArg List.length h;simpa using this.symm
def gathered {A:Around}{s:Shared}{R:List Value->Shared->Prop}
  (src:PySem.W.KdlSrc P w T a d n F G) (calm:A.handled=none) (g:G s.heap) (le:n<=sizeLine)
  (h:∀(h':Heap)(k:Nat)(xs:Array Value),(∀b o,s.heap.get? b=some o->h'.get? b=some o)->s.heap.objs.size < h'.objs.size->PySem.ItemsOf F xs n->R xs.toList {s with heap:=h',toks:=k}):
  wpAny (model P w) A (collect (.ref a)) R E s:=by
 obtain⟨lt1,lt2⟩:=src.there _ g;unfold collect;refine Ja (wpAny_runValue (codeAny_builtin entry_proto_collect' ?_));rw[Around.under_plainId PySem.F.plain_proto_collect _];refine Ja (m:=newList []) (wpAny_newObj_type (wpAny_pure ⟨plainId_quiet PySem.F.plain_list_iadd _,codeAny_builtin entry_list_iadd' ?_⟩));rw[Around.under_plainId PySem.F.plain_list_iadd _];refine wpAny_mono (PySem.W.kdl_extend (A:=A) (s:={s with heap:=s.heap.push {cls:=.type "list",data:=.seq ([]:QO).toArray}})
  (R:=λq s'=>∃h' k xs c,q=.ok (.ret (.ref s.heap.objs.size))/\s'={s with heap:=h',toks:=k}/\(∀b o,s.heap.get? b=some o->h'.get? b=some o)/\h'.get? s.heap.objs.size=some {cls:=.type "list",dict:=none,data:=.seq xs c,slots:= #[]}/\PySem.ItemsOf F xs n)
  src calm (src.keep _ _ g λb _ o e=>JC _ e) s.heap.objs.size (Nat.ne_of_gt lt1) (Nat.ne_of_gt lt2) (.ref s.heap.objs.size) 0 (JJ _ rfl)
  (λh' k xs c kk hS hx=>⟨h',k,xs,c,rfl,rfl,λb o e=>kk b o (Jk (JF e)) (JC _ e),hS,hx⟩) le) (λfin s' x=>?_) (λe s' x=>?_)
 ·cases fin with
  | done f=>obtain⟨h',k,xs,c,e,rfl,kk,hS,hx⟩:=x;cases e;exact Ja (m:=load s.heap.objs.size) (wpAny_load hS (wpAny_pure (h h' k xs kk (JF hS) hx)))
  | again c₁=>refine⟨x.1,codeAny_mono x.2 λq s₂ y=>?_⟩;obtain⟨h',k,xs,c,rfl,rfl,kk,hS,hx⟩:=y;exact Ja (m:=load s.heap.objs.size) (wpAny_load hS (wpAny_pure (h h' k xs kk (JF hS) hx)))
 ·obtain⟨_,_,_,_,e',_⟩:=x;cases e'
def zht (hc:X.calm=true):zal X (.builtin "sorted") (λxs H Q=>∃(d:Addr)(kvs:QG),xs=[.ref d]/\H d=some (.dK kvs)/\IntKeys kvs/\kvs.length < 64/\
  ∀(l:Addr)(ns:List Int),H l=none->ns.Perm (zch kvs)->ns.Pairwise (· <= ·)->Q (.ref l) (upd H l (.lst (ns.map V.int)))):=by
 intro pins s σ H xs us Q I r h;obtain⟨d,kvs,rfl,hd,hi,h64,q⟩:=h;obtain⟨u,rfl,ru⟩:=vals1 r;cases (show u=Value.ref d from ru);obtain⟨hz,lo,vs,rel,hD⟩:=I.hok d _ hd;obtain⟨ep,hat⟩:=hD.dictAt;have hl:=rel.at.1;have hkl:=zhX hi;refine Calls.call_function_entry kind_sorted plain_sorted entry_sorted (args_sorted1 _) ?_;unfold Builtin.«sorted»;refine Ja (m:=checkCount "sorted" 1 1 _) (wpAny_pure ?_);refine Ja (gathered (A:=X.A.in1) (PySem.W.kdl_dict (knd:=zac X.prog X.w) (kvs:=vs) (ep:=ep) lo) (show X.A.in1.handled=none from I.ok.hd hc) hat (by rw[<-hl];exact hz) λh' tk acc hk hlt hacc=>?_);have la:acc.toList.length=vs.length:=by rw[Nf];exact hacc.1
 refine Ja (wpAny_newList ?_ (by rw[la,<-hl];exact hz));have hI:IntsAre acc.toList (zch kvs):=zfi (by lia) λj v e=>by obtain⟨k,x,e1,e2⟩:=hacc.2 j v (by rw[<-JZ];exact e);obtain⟨t,e3,_⟩:=zpo rel hi e1 e2;exact⟨t,e3⟩
 have hoL:(h'.push (seqObj "list" acc.toList.toArray 0)).get? h'.objs.size=some (seqObj "list" acc.toList.toArray 0):=JJ _ rfl;refine Ja (wpAny_holding (wpAny_call_entry slot_list_sort ⟨_,hoL,rfl⟩ entry_list_sort (list_sort_tree hoL hI (by lia) λout ns' a1 a2 a3=>⟨_,rfl,?_⟩) (args_list_sort _)));refine wpAny_pure ⟨_,rfl,?_⟩;have sz:s.heap.objs.size<=h'.objs.size:=Nat.le_of_lt hlt;have kk:∀b u,s.heap.get? b=some u->(sortedHeap (h'.push (seqObj "list" acc.toList.toArray 0)) h'.objs.size acc.toList out).get? b=some u:=λb u e=>by have e1:=hk b u e;have lt:=JF e1;rw[sortedHeap_old (Jk lt) (by rw[size_push'];exact Nat.lt_succ_of_lt lt)];exact JC _ e1
 obtain⟨e,he⟩:=sortedHeap_at (out:=out) hoL;have hn:H h'.objs.size=none:=I.hok.fresh sz;refine⟨.ref h'.objs.size,_,I.laid (o:=.lst (ns'.map V.int)) kk sz ⟨?_,out.toList,e,zea a1,he⟩,rfl,q _ ns' hn a2 a3⟩;rw[JE,a2.length_eq,hkl];exact hz
end
section
open PySem.SeqAt
open PySem.AutoSeq1 (wpAny_loadPart')
open PySem.MeetsSeq PySem.MeetsSeq2 PySem.MeetsSeq3
end
section
variable {X:Cx}
end
section
open PySem.AutoSeq1 (wpAny_loadPart')
end
section
variable {X:Cx}
end
end L2
namespace Pv
open PySem L2
inductive RepL (H:Hp):List Th->List V->Prop where
 | nil:RepL H [] []
 | cons {t:Th} {v:V} {ts:List Th} {vs:QR} (h:Rep H t v) (r:RepL H ts vs):RepL H (t::ts) (v::vs)
theorem RepL.len:∀{ts:List Th}{vs:QR},RepL H ts vs->vs.length=ts.length
 | _,_,.nil=>rfl
 | _,_,.cons _ r=>by rw[JK,JK,r.len]
theorem RepL.at:∀{ts:List Th}{vs:QR},RepL H ts vs->∀(i:Nat)(x:V)(t:Th),vs[i]? =some x->ts[i]? =some t->Rep H t x
 | _,_,.nil,i,x,t,e,_=>by simp at e
 | _,_,.cons h r,0,x,t,e1,e2=>by simp at e1 e2;subst e1;subst e2;exact h
 | _,_,.cons h r,i+1,x,t,e1,e2=>r.at i x t (by simpa using e1) (by simpa using e2)
theorem RepL.keep (k:Tups H H'):∀{ts:List Th}{vs:QR},RepL H ts vs->RepL H' ts vs
 | _,_,.nil=>.nil
 | _,_,.cons h r=>.cons (h.keep k) (r.keep k)
theorem RepL.new {p:Addr}(r:RepL H ts vs)(hp:H p=none):Rep (upd H p (.tup vs)) (.tup ts) (.ref p):=
 .tup za r.len λi x t e1 e2=>(r.at i x t e1 e2).keep (Tups.new hp)
theorem RepL.of:∀{ts:List Th}{vs:QR},vs.length=ts.length->(∀(i:Nat)(x:V)(t:Th),vs[i]? =some x->ts[i]? =some t->Rep H t x)->RepL H ts vs
 | [],[],_,_=>.nil
 | t::ts,v::vs,l,h=>.cons (h 0 v t rfl rfl) (RepL.of (by simpa using l) λi x u e1 e2=>h (i+1) x u (by simpa using e1) (by simpa using e2))
 | [],_::_,l,_=>by simp at l
 | _::_,[],l,_=>by simp at l
def Rep.list {ts:List Th}(r:Rep H (.tup ts) v):∃a xs,v=.ref a/\H a=some (.tup xs)/\RepL H ts xs:=by
 cases r with
 | @tup a xs _ e l h=>exact⟨a,xs,rfl,e,RepL.of l h⟩
def _root_.Jn:=@List.getElem_mem
def RepL.pick {ts:List Th}{p:Th->Prop}{i:Int}(r:RepL H ts vs)(h0:0<=i)(h1:i < ts.length)(hp:∀t∈ts,p t):∃v t,atI vs i=some v/\Rep H t v/\p t:=by
 have hl:=r.len;have hi:i.toNat < ts.length:=by lia
 have hv:i.toNat < vs.length:=by lia
 have ei:i=((i.toNat:Nat):Int):=by lia
 have q:atI vs ((i.toNat:Nat):Int)=some vs[i.toNat]:=zdN (JB hv);rw[<-ei] at q;exact⟨_,ts[i.toNat],q,r.at _ _ _ (JB hv) (JB hi),hp _ (Jn hi)⟩
theorem RepL.snoc (h:Rep H t v):∀{ts:List Th}{vs:QR},RepL H ts vs->RepL H (ts++ [t]) (vs++ [v])
 | _,_,.nil=>.cons h .nil
 | _,_,.cons h' r=>.cons h' (r.snoc h)
open PySem.SeqAt in
def zre (I:Inv X pins σ H s){ts:List Th}{A:Around}(e:SqL X.K H a xs)(e':SqL X.K H b ys)(r:RepL H ts xs)(q:RepL H us ys)(hd:∀t∈ts,dep t<=50)(hu:A.units+60 < cLine):
  RcAt A s (.ref a) (.ref b) (eqL ts us)/\RcNeAt A s (.ref a) (.ref b) (!eqL ts us):=by
 obtain⟨its,r1,T1,_⟩:=I.list e;obtain⟨jts,r2,T2,_⟩:=I.list e';have n1:=r1.length;have n2:=r2.length;have l1:=r.len;have l2:=q.len;by_cases hl:ts.length=us.length
 ·have key:∀j (h1:j < its.toArray.size) (h2:j < jts.toArray.size),EqAt A.in1 s its.toArray[j] jts.toArray[j] (eqT (ts[j]?.getD .non) (us[j]?.getD .non)):=λj h1 h2=>by
   have h1':j < its.length:=by simpa using h1
   have h2':j < jts.length:=by simpa using h2
   obtain⟨vx,ex,rx⟩:=r1.get (JB (show j < xs.length by lia));obtain⟨vy,ey,ry⟩:=r2.get (JB (show j < ys.length by lia));have g1:ts[j]? =some ts[j]:=JB (by lia);have g2:us[j]? =some us[j]:=JB (by lia);have dj:=hd ts[j] (Jn (by lia));rw[g1,g2];have z1:its.toArray[j]=vx:=by have:its[j]? =some its[j]:=JB h1';rw[this] at ex;simpa using JO ex
   have z2:jts.toArray[j]=vy:=by have:jts[j]? =some jts[j]:=JB h2';rw[this] at ey;simpa using JO ey
   rw[z1,z2];exact zhT I (r.at j _ _ (JB (show j < xs.length by lia)) g1) (q.at j _ _ (JB (show j < ys.length by lia)) g2) rx ry (by
    show A.units+1+dep ts[j]+1 < cLine;lia)
  have hsz:its.toArray.size=jts.toArray.size:=by rw[JG,JG];lia
  have R:=RcAt.lists T1.isList T2.isList hsz (show A.units < cLine by lia) key;have R':=RcNeAt.lists T1.isList T2.isList hsz (show A.units < cLine by lia) key;have e3:(List.range its.toArray.size).all (λj=>eqT (ts[j]?.getD .non) (us[j]?.getD .non))=eqL ts us:=by rw[zcR,JG,show min ts.length us.length=its.length by lia,show(ts.length==us.length)=true by rw[hl];exact beq_self_eq_true _,Bool.and_true]
  rw[e3] at R R';exact⟨R,R'⟩
 ·have hne:eqL ts us=false:=by
   cases z:eqL ts us with
   | true=>exact Jf (congrArg List.length ((zdj ts us).mp z)) hl
   | false=>rfl
  have hsz:(its.toArray.size !=jts.toArray.size)=true:=by rw[JG,JG,bne_iff_ne];lia
  rw[hne];exact⟨RcAt.lists_lengths T1.isList T2.isList hsz (by lia),RcNeAt.lists_lengths T1.isList T2.isList hsz (by lia)⟩
section
variable {X:Cx}
def zt3 (hr:Room k X.A):OpR X (compareOp .Eq) (λx y H Q=>∃a b xs ys ts us,x=.ref a/\y=.ref b/\SqL X.K H a xs/\SqL X.K H b ys/\RepL H ts xs/\RepL H us ys/\(∀t∈ts,dep t<=50)/\Q (.bl (eqL ts us)) H):=by intro pins s σ H x y v w Q I rx ry h;obtain⟨a,b,xs,ys,ts,us,rfl,rfl,e1,e2,r1,r2,hd,q⟩:=h;cases (show v=Value.ref a from rx);cases (show w=Value.ref b from ry);have hu:=hr.units;exact(zre I e1 e2 r1 r2 hd (by lia)).1 _ _ _ _ ⟨.bl _,H,I,rfl,q⟩
def zhW (hr:Room k X.A):OpR X (compareOp .NotEq) (λx y H Q=>∃a b xs ys ts us,x=.ref a/\y=.ref b/\SqL X.K H a xs/\SqL X.K H b ys/\RepL H ts xs/\RepL H us ys/\(∀t∈ts,dep t<=50)/\Q (.bl (!eqL ts us)) H):=by intro pins s σ H x y v w Q I rx ry h;obtain⟨a,b,xs,ys,ts,us,rfl,rfl,e1,e2,r1,r2,hd,q⟩:=h;cases (show v=Value.ref a from rx);cases (show w=Value.ref b from ry);have hu:=hr.units;exact(zre I e1 e2 r1 r2 hd (by lia)).2 _ _ _ _ ⟨.bl _,H,I,rfl,q⟩
end
abbrev _root_.QF:=List (Int ×Th)
def zg (cs:QF)(n:Int):Option Th:=(cs.find? λp=>decide (p.1=n)).map (·.2)
inductive DRep (H:Hp):List (Int ×Th)->List (Key ×V)->Prop where
 | nil:DRep H [] []
 | cons {n:Int} {t:Th} {v:V} {cs:QF} {kvs:QG} (h:Rep H t v) (r:DRep H cs kvs):DRep H ((n,t)::cs) ((.inl n,v)::kvs)
theorem DRep.len {H:Hp}{cs:QF}{kvs:QG}(r:DRep H cs kvs):kvs.length=cs.length:=by
 induction r with
 | nil=>rfl
 | cons _ _ ih=>rw[JK,JK,ih]
theorem DRep.keep {H H':Hp}(k:Tups H H'){cs:QF}{kvs:QG}(r:DRep H cs kvs):DRep H' cs kvs:=by
 induction r with
 | nil=>exact .nil
 | cons h _ ih=>exact .cons (h.keep k) ih
def DRep.keys {H:Hp}{cs:QF}{kvs:QG}(r:DRep H cs kvs):zch kvs=cs.map (·.1)/\L2.IntKeys kvs:=by
 induction r with
 | nil=>exact⟨rfl,rfl⟩
 | @cons n t v cs kvs _ _ ih=>have e:zch ((.inl n,v)::kvs)=n::zch kvs:=rfl;refine⟨by rw[e,ih.1];rfl,?_⟩;unfold L2.IntKeys;rw[e,JS,JS];exact congrArg _ ih.2
theorem zF {n:Int}{t:Th}{cs:QF}:zg ((n,t)::cs) m=if n=m then some t else zg cs m:=by
 unfold zg;rw[Ni];by_cases e:n=m
 ·rw[if_pos e,decide_eq_true e];rfl
 ·rw[if_neg e,Jd e]
theorem ze5 {n m:Int}{v:V}{kvs:QG}:valV ((Sum.inl n,v)::kvs) (Sum.inl m:Key)=if n=m then some v else valV kvs (.inl m):=by
 by_cases e:n=m
 ·rw[if_pos e];exact zdt (by rw[e])
 ·rw[if_neg e];unfold valV;rw[Ni];rw[Jd (λz=>e (Sum.inl.inj z))]
theorem DRep.none {H:Hp}{cs:QF}{kvs:QG}(r:DRep H cs kvs){n:Int}(h:zg cs n=.none):valV kvs (.inl n)=.none:=by
 induction r with
 | nil=>rfl
 | @cons m t v cs kvs _ _ ih=>
  rw[zF] at h;rw[ze5];by_cases e:m=n
  ·rw[if_pos e] at h;cases h
  ·rw[if_neg e] at h ⊢;exact ih h
theorem DRep.some {H:Hp}{cs:QF}{kvs:QG}(r:DRep H cs kvs){n:Int}{t:Th}(h:zg cs n=.some t):∃v,valV kvs (.inl n)=.some v/\Rep H t v:=by
 induction r with
 | nil=>cases h
 | @cons m u v cs kvs hv _ ih=>
  rw[zF] at h;rw[ze5];by_cases e:m=n
  ·rw[if_pos e] at h ⊢;cases h;exact⟨v,rfl,hv⟩
  ·rw[if_neg e] at h ⊢;exact ih h
def DRep.back {H:Hp}{cs:QF}{kvs:QG}(r:DRep H cs kvs){n:Int}{v:V}(h:valV kvs (.inl n)=.some v):∃t,zg cs n=.some t/\Rep H t v:=by
 cases e:zg cs n with
 | none=>rw[r.none e] at h;cases h
 | some t=>obtain⟨v',e',rv⟩:=r.some e;rw[h] at e';cases e';exact⟨t,rfl,rv⟩
def DRep.snoc {H:Hp}{cs:QF}{kvs:QG}{n:Int}{t:Th}{v:V}(h:Rep H t v)(r:DRep H cs kvs):DRep H (cs++ [(n,t)]) (kvs++ [(.inl n,v)]):=by
 induction r with
 | nil=>exact .cons h .nil
 | cons h' _ ih=>exact .cons h' ih
def DRep.put {H:Hp}{cs:QF}{kvs:QG}{n:Int}{t:Th}{v:V}(r:DRep H cs kvs)(h:Rep H t v)(hn:zg cs n=.none):DRep H (cs++ [(n,t)]) (putK kvs (.inl n) v):=by rw[zob v (r.none hn)];exact r.snoc h
def DRep.again {H:Hp}{cs:QF}{kvs:QG}{n:Int}{t:Th}{v:V}(r:DRep H cs kvs)(h:Rep H t v)(hn:zg cs n=.some t)(nd:(cs.map (·.1)).Nodup):DRep H cs (putK kvs (.inl n) v):=by
 have ha:(kvs.any λkv=>decide (kv.1=(Sum.inl n:Key)))=true:=by
  obtain⟨v',e,_⟩:=r.some hn;unfold valV at e;cases z:kvs.find? λkv=>decide (kv.1=(Sum.inl n:Key)) with
  | none=>rw[z] at e;cases e
  | some p=>exact List.any_eq_true.mpr ⟨p,List.mem_of_find?_eq_some z,by have:=List.find?_some z;exact this⟩
 unfold putK;rw[if_pos ha];clear ha
 induction r with
 | nil=>exact .nil
 | @cons m u v' cs kvs h' r' ih=>
  have nd':=Nh.mp nd;rw[JS];by_cases e:m=n
  ·subst e;rw[if_pos rfl];rw[zF,if_pos rfl] at hn;cases hn;have rest:kvs.map (λkv=>if kv.1=(Sum.inl m:Key) then(kv.1,v) else kv)=kvs:=by
    have:∀kv∈kvs,(if kv.1=(Sum.inl m:Key) then(kv.1,v) else kv)=kv:=λkv hkv=>by
     refine if_neg λz=>nd'.1 ?_;have e1:=r'.keys;have m1:(Sum.inl m:Key)∈kvs.map (·.1):=by rw[<-z];exact List.mem_map_of_mem hkv
     rw[e1.2,Nl] at m1;obtain⟨i,hi,ei⟩:=m1;cases ei;rw[<-e1.1];exact hi
    rw[List.map_congr_left this,List.map_id']
   rw[rest];exact .cons h r'
  ·rw[if_neg (λz=>e (Sum.inl.inj z))];rw[zF,if_neg e] at hn;exact .cons h' (ih hn nd'.2)
def zd7 {cs:QF}{n:Int}{t:Th}(h:zg cs n=some t):(n,t)∈cs:=by
 induction cs with
 | nil=>cases h
 | cons p cs ih=>
  obtain⟨m,u⟩:=p;rw[zF] at h;by_cases e:m=n
  ·rw[if_pos e] at h;cases h;subst e;exact JL
  ·rw[if_neg e] at h;exact Ji _ (ih h)
def zbJ {cs:QF}{n:Int}(h:n∈cs.map (·.1)):∃t,zg cs n=some t:=by
 induction cs with
 | nil=>cases h
 | cons p cs ih=>
  obtain⟨m,u⟩:=p;rw[zF];by_cases e:m=n
  ·exact⟨u,if_pos e⟩
  ·rw[if_neg e];rw[JS,JD] at h;exact ih (h.resolve_left λz=>e z.symm)
def zjZ {cs:QF}{n:Int}(h:zg cs n=none):n∉cs.map (·.1):=λz=>by obtain⟨t,e⟩:=zbJ z;rw[h] at e;cases e
def _root_.J9:=@List.cons_append
theorem zb1 {cs:QF}{n:Int}{t:Th}:zg (cs++ [(n,t)]) m=match zg cs m with | some u=>some u | none=>if n=m then some t else none:=by
 induction cs with
 | nil=>rw[List.nil_append,zF];rfl
 | cons p cs ih=>
  obtain⟨k,u⟩:=p;rw[J9,zF,zF];by_cases e:k=m
  ·rw[if_pos e,if_pos e]
  ·rw[if_neg e,if_neg e,ih]
theorem zgP:∀{l k:List Int},l.Perm k->l.Pairwise (· <= ·)->k.Pairwise (· <= ·)->l=k
 | [],k,p,_,_=>p.nil_eq
 | a::l,k,p,h1,h2=>by
  cases k with
  | nil=>exact Jf p.length_eq (by simp)
  | cons b k=>
   have ha:a∈b::k:=p.subset JL;have hb:b∈a::l:=p.symm.subset JL;have h1':=List.pairwise_cons.mp h1;have h2':=List.pairwise_cons.mp h2;have e:a=b:=by
    rcases JD.mp ha with z | z
    ·exact z
    ·rcases JD.mp hb with y | y
     ·exact y.symm
     ·have:=h1'.1 b y;have:=h2'.1 a z;lia
   subst e;rw[zgP (List.Perm.cons_inv p) h1'.2 h2'.2]
def zH (cs:QF)(ns:List Int):List Th:=ns.map λn=>(zg cs n).getD .non
end Pv
namespace L2
open PySem PySem.Spec PyProof.Rows Px
structure ClsM (K:QA)(mg:QB)(x:Str)(V:Addr)(mc:Value)(m:Str)(f:Addr):Prop where
 mg:mg x=some (.ref V)
 sp:PySem.W.specialIn K (.ref V) "__getattribute__" =some (some (.builtin "type.__getattribute__"))
 rd:PySem.W.readsIn K V mc=true
 fc:PySem.W.findCls K (.ref V) mc m=some (.val (.ref f))
 kp:PySem.W.keepIn K (.ref f)=true
structure Kdf (K:QA)(mg:QB)(x m qual:Str)(st:Stmt)(ps:QQ):Prop where
 ex:∃f fd V mc,Fun K m qual st f fd/\Binds K fd ps []/\ClsM K mg x V mc m f
structure Kfn (P:Program)(w:World)(K:QA)(mg:QB)(base:Heap)(x m:Str)(k:Nat)(ps:QQ)(sp:Sp):Prop where
 ex:∃f fd V mc,FnOk P w K mg base CX0 k f fd ps sp/\Binds K fd ps []/\ClsM K mg x V mc m f
section
variable {P:Program}{w:World}{K:QA}{mg:QB}{base:Heap}{x m qual:Str}{st:Stmt}{ps N:QQ}{sp:Sp}{k:Nat}
def Kdf.ok (D:Kdf K mg x m qual st ps)(S:zaj N ps (zo st))(hbody:Bd0 P w K mg base N qual st k sp)
  (len:∀vs H Q E,sp vs H Q E->vs.length=ps.length:=by intro vs H Q E h;cases h;subst_vars;rfl):Kfn P w K mg base x m (k+1) ps sp:=by
 obtain⟨f,fd,V,mc,F,b,me⟩:=D.ex;exact⟨f,fd,V,mc,F.ok S len (λcdv A outer s H vs Q E hr h=>hbody f cdv A outer s H vs Q E hr h),b,me⟩
variable {f V:Addr}{mc:Value}{od an:QN}{sl:QJ}{oc kV dc pm cd ct:Value}{h:Heap}
def zry (X:K.In h)(G:h.Ns mainGlobals mg)(n:PySem.W.nsIn K mainGlobals x=some (some (.ref V)))(g:PySem.W.specialIn K (.ref V) "__getattribute__" =some (some (.builtin "type.__getattribute__"))) (rd:PySem.W.readsIn K V mc=true) (fc:PySem.W.findCls K (.ref V) mc m=some (.val (.ref f)))
  (l:K.lookup f=some ⟨oc,od,.func (PySem.W.fnOf m qual (zI st) (zD st) (zo st) .none kV dc pm an cd ct),sl⟩) (c:PySem.W.codeIn K cd qual=true) (k:PySem.W.keepIn K (.ref f)=true)
  (b:∀(kV doc pm:Value)(an:QN)(cdv ct:Value)(us:QO),us.length=ps.length->bindArgs (PySem.W.fnOf m qual (zI st) (zD st) (zo st) .none kV doc pm an cdv ct) ⟨us,[]⟩=pure (ps.zip us)):Kdf K mg x m qual st ps:=
 ⟨_,_,V,mc,za9 l c k,(za9 l c k).binds b,⟨PySem.W.mg_of X G n,g,rd,fc,k⟩⟩
variable {X:Cx}{k':Nat}{e:Expr}{es:List Expr}{t:TA}{p pos apos:Pos}
def zr7 (F:Kfn X.prog X.w X.K X.mg X.base x m k ps sp)(hr:Room k' X.A)(ha:PA X (e::es) t)(hle:k<=k':=by lia)(hg:Gl X x:=by rfl)(hd:(x==("__debug__" :Str))=false:=by decide)
  (hst:starEach (e::es) X.env=(false,eval e X.env)::starEach es X.env:=by rfl) (hpl:∀pos,(backTo pos (starEach es X.env)).any (·.1)=false:=by intro _;rfl)
  (ht:eval (.Call (.Attribute (.Name x p) m apos) (e::es) [] pos) X.env=(do
   let ov<-eval (.Name x p) X.env
   standAt apos.atName
   let (f,first) <-holding [ov] (getMethod ov m pl)
   callWith pos f first (backTo pos (starEach (e::es) X.env)) (backToKw pos (keywordEach [] X.env))):=by rfl):
  PE X (.Call (.Attribute (.Name x p) m apos) (e::es) [] pos) (zgo sp [] E0 t):=by
 obtain⟨f,fd,V,mc,a,b,M⟩:=F.ex;intro pins s σ H Q I h;refine PySem.W.methodCall_KW (pl:=pl) (thn (zhz (v:=.ref V) hg M.mg rfl hd pins s σ H (λv H1=>v=.ref V/\H1=H) I ⟨rfl,rfl⟩) λu s1 ⟨v,H1,I1,r1,e1,e2⟩=>?_) ht;subst e1 e2;obtain rfl:u=Value.ref V:=r1;refine PySem.W.method_cls I1.kIn M.sp (PySem.W.cls_value I1.kIn M.rd M.fc rfl ?_);have I2:=I1.tok (s1.toks+1);refine PySem.W.callWith_K (first:=[]) (h₀:=X.base) I.ok.mod.kin M.kp (thn (ha pos pins _ σ H1 _ I2 h) λus s2 ⟨vs,H2,I3,r,q2⟩=>⟨I3.kIn,?_⟩) hst (hpl _);exact zh3 (us:=us) (vs:=vs) a (hr.mono hle) b .nil ziT I3 r q2
end
end L2
namespace L2
open PySem PySem.Spec PyProof.Rows
section
variable {X:Cx}{x x2:Str}{scope:Scope}{pins:QE}{σ:St}{H:Hp}{s:Shared}
variable {iter elt:Expr}{ifs:List Expr}{px px2 tpos pos:Pos}{kt:Nat}{wi:TI}{tt:TT}{te:TE}
end
def zh4 {X:Cx}:zas (CX1 X.prog X.w) X E0:=λ_ _ _ _ _ _ _ h=>by obtain⟨ea,cls,od,H',T,h⟩:=h;simp only[E0,and_false] at h
end L2
namespace L2
open PySem
def ndS:List Str->Bool
 | []=>true
 | x::r=>!r.contains x && ndS r
theorem zfs:∀{l:QQ},ndS l=true->l.Nodup
 | [],_=>List.nodup_nil
 | x::r,h=>by have h:(!r.contains x && ndS r)=true:=h;rw[Nk,Bool.not_eq_true'] at h;refine Nh.mpr ⟨λhx=>?_,zfs h.2⟩;rw[List.contains_iff_mem.mpr hx] at h;exact Jf h.1 (by decide)
section
variable {X:Cx}{pos:Pos}{x:Str}
def setA (i:Nat){pos':Pos}(hi:X.N[i]? =some x)(he:PE X e te)(hN:ndS X.N=true:=by rfl)(hx:Loc X.env.scope x:=by first | exact Or.inl rfl | exact Or.inr rfl)(hs:swapsWith e (some (.Name x pos')) pos.line X.env=pure false:=by rfl)(hf:X.fn x=true\/X.env.scope.names.lookup x=some .local:=by first | exact .inl rfl | exact .inr rfl | assumption):
  PS X (.Assign [.Name x pos'] e pos) (tAsg te (zbN i)):=zsA (zfs hN) hi hx he hs hf
def nameA (i:Nat)(hi:X.N[i]? =some x:=by rfl)(hN:ndS X.N=true:=by rfl)(hx:Loc X.env.scope x:=by first | exact Or.inl rfl | exact Or.inr rfl)(hf:X.fn x=true\/X.env.scope.names.lookup x=some .local:=by first | exact .inl rfl | exact .inr rfl | assumption):PG X (.Name x pos) (zbN i):=zhu (zfs hN) hi hx hf
def ztb {n:Int}{t:Tok}(m:X.mg x=some (.int n t))(h:Gl X x:=by rfl)(hd:(x==("__debug__" :Str))=false:=by decide):PE X (.Name x pos) (tC (.int n)):=zhz h m ⟨_,rfl⟩ hd
def zti {a:Addr}(m:X.mg x=some (.ref a))(h:Gl X x:=by rfl)(hd:(x==("__debug__" :Str))=false:=by decide):PE X (.Name x pos) (tC (.ref a)):=zhz h m rfl hd
def bltT {T:String}(m:X.mg x=none)(h:Gl X x:=by rfl)(hb:bootBuiltins x=some (.type T):=by rfl)(h1:x≠("__name__" :Str):=by decide) (hd:(x==("__debug__" :Str))=false:=by decide):PE X (.Name x pos) (tC (.ty T)):=zpx h m hb rfl h1 hd
end
end L2
namespace Pv
open PySem L2
theorem szL {n:Nat}(h:n<=100000):n<=sizeLine:=Jg h (by rw[sizeLine_eq];decide)
def zaL {J:It}{n:Nat}{tt:TT}{Q:VK}(Pv:Nat->List V->Hp->Prop)(h0:Pv 0 [] (upd H1 p (.lst [])))
  (hg:∀i acc H,i < n->Pv i acc H->J.go i H) (ht:∀acc H,Pv n acc H->J.stop n H)
  (hs:∀i acc H x H',i < n->Pv i acc H->J.yld i H x H'->tt (some x::frees σ js) H' λok H2=>
   if ok=true then te (some x::frees σ js) H2 λy H3=>H3 p=some (.lst acc)/\acc.length < sizeLine/\∃m',m' < n - i/\(m'=n - (i+1)/\i+1<=n/\Pv (i+1) (acc++ [y]) (upd H3 p (.lst (acc++ [y]))))
   else∃m',m' < n - i/\(m'=n - (i+1)/\i+1<=n/\Pv (i+1) acc H2)) (hd:∀acc H,Pv n acc H->Q (.ref p) H):
  zkx J p σ js tt te H1 Q:=by
 refine⟨λi m acc H=>m=n - i/\i<=n/\Pv i acc H,⟨n,by simp,JM _,h0⟩,?_⟩;rintro i m acc H ⟨rfl,hi,p⟩;by_cases hlt:i < n
 ·exact .inr ⟨hg i acc H hlt p,λx H' y=>hs i acc H x H' hlt p y⟩
 ·have e:i=n:=by lia
  subst e;exact .inl ⟨ht acc H p,hd acc H p⟩
def nxt {i n:Nat}{C:Prop}(h:i < n)(c:C):∃m',m' < n - i/\(m'=n - (i+1)/\i+1<=n/\C):=⟨_,by lia,rfl,h,c⟩
def numOf (l:List Nat):Int:=l.foldl (λ(n:Int) (c:Nat)=>n * 128+(c:Int)) 0
theorem zjE (l:List Nat)(c:Nat):numOf (l++ [c])=numOf l * 128+c:=by unfold numOf;rw[List.foldl_append];rfl
def chunk (x:Str)(k:Nat):List Nat:=(x.cps.toList.drop (7 * k)).take 7
def zhE (x:Str)(k:Nat):Str:=⟨(chunk x k).toArray⟩
def zaY (x:Str):Nat:=(x.length+6) / 7
def zdZ (x:Str):List Int:=(List.range (zaY x)).map λk=>numOf (chunk x k)
mutual
def zam:Th->List Int
 | .non=>[1]
 | .int n=>[2,(n+10 ^ 30) / 10 ^ 15,(n+10 ^ 30) % 10 ^ 15]
 | .str x=>[3,(x.length:Int)]++zdZ x
 | .tup ts=>[4,(ts.length:Int)]++zab ts
def zab:List Th->List Int
 | []=>[]
 | t::r=>zam t++zab r
end
def _root_.Ng:=@List.append_assoc
theorem zeD:∀(ts:List Th)(t:Th),zab (ts++ [t])=zab ts++zam t
 | [],t=>by simp[zab]
 | u::r,t=>by have:=zeD r t;show zam u++zab (r++ [t])=zam u++zab r++zam t;rw[this,Ng]
theorem ziZ {ts:List Th}{i:Nat}{t:Th}(h:ts[i]? =some t):zab (ts.take (i+1))=zab (ts.take i)++zam t:=by rw[Na,h];exact zeD _ _
mutual
theorem zd8:∀t:Th,Wf t->(zam t).length<=11 * nodes t
 | .non,_=>by show 1<=11 * 1;lia
 | .int n,_=>by show 3<=11 * 1;lia
 | .str x,h=>by
  have h1:x.length<=60:=h.1;show([3,(x.length:Int)]++zdZ x).length<=11 * 1;have h2:(zdZ x).length=zaY x:=by unfold zdZ;rw[JE,Nz]
  rw[JI,h2];show 2+zaY x<=11;unfold zaY;lia
 | .tup ts,h=>by have:=zde ts h.2;show([4,(ts.length:Int)]++zab ts).length<=11 * (1+zK ts);rw[JI];show 2+(zab ts).length<=_;lia
theorem zde:∀ts:List Th,WfL ts->(zab ts).length<=11 * zK ts
 | [],_=>by show 0<=_;lia
 | t::r,h=>by have h1:=zd8 t h.1;have h2:=zde r h.2;show(zam t++zab r).length<=11 * (nodes t+zK r);rw[JI];lia
end
theorem zca:∀(ts:List Th)(i:Nat),(zab (ts.take i)).length<=(zab ts).length
 | [],i=>by rw[List.take_nil];exact Jb _
 | t::r,0=>by show 0<=_;lia
 | t::r,i+1=>by have:=zca r i;show(zam t++zab (r.take i)).length<=(zam t++zab r).length;rw[JI,JI];lia
theorem zmr {k:Nat}(h:k < zaY x):cutS x (some (0+(k:Int) * 7)) (some (0+(k:Int) * 7+7))=zhE x k:=by
 unfold zaY at h;have e1:(0+(k:Int) * 7)=((7 * k:Nat):Int):=by lia
 have e2:(0+(k:Int) * 7+7)=((7 * k+7:Nat):Int):=by lia
 unfold cutS zhE chunk;rw[e2,e1,HT.sIx_nat,HT.sIx_nat];have hl:x.cps.toList.length=x.length:=Nf;have a1:min (7 * k) x.length=7 * k:=by lia
 rw[a1];refine congrArg (λl=>(⟨List.toArray l⟩:Str)) ?_;by_cases hb:7 * k+7<=x.length
 ·rw[show min (7 * k+7) x.length - 7 * k=7 by lia]
 ·rw[Jr (by rw[Nj];lia),Jr (by rw[Nj];lia)]
theorem zlE {x:Str}:(((x.length:Int)+7 - 1) / 7).toNat=zaY x:=by unfold zaY;lia
def zdk (l:List Int):Int:=l.foldl (λh c=>(h * 1234567890123456789+c) % 2305843009213693951) 7
def zh (t:Th):Int:=zdk (zam t)+1
theorem zfG (l:List Int)(c:Int):zdk (l++ [c])=(zdk l * 1234567890123456789+c) % 2305843009213693951:=by unfold zdk;rw[List.foldl_append];rfl
theorem zjN {l:List Int}{i:Nat}{c:Int}(h:l[i]? =some c):zdk (l.take (i+1))=(zdk (l.take i) * 1234567890123456789+c) % 2305843009213693951:=by rw[Na,h];exact zfG _ _
def _root_.Jy:=@Int.emod_lt_of_pos
def _root_.Nv:=@List.eq_nil_or_concat
def _root_.Nw:=@List.concat_eq_append
def _root_.Ny:=@Int.emod_nonneg
def zeH (l:List Int):0<=zdk l/\zdk l < 2305843009213693951:=by
 rcases Nv l with rfl | ⟨r,c,rfl⟩
 ·exact⟨by decide,by decide⟩
 ·rw[Nw,zfG];exact⟨Ny _ (by decide),Jy _ (by decide)⟩
end Pv
namespace Pv
theorem zdd:∀{ts:List Th}{i:Nat}{t:Th},ts[i]? =some t->nodes t<=zK ts
 | [],_,_,e=>by simp at e
 | u::r,0,t,e=>by simp at e;subst e;exact JA _ _
 | u::r,i+1,t,e=>Jg (zdd (i:=i) (by simpa using e)) (Nat.le_add_left _ _)
end Pv
namespace Pv
open L2
def tt1 {σ:L2.St}{H:Hp}{A B:Hp->Prop}(h:A H):zk2 σ H λok H2=>if ok=true then A H2 else B H2:=by
 show if true=true then A H else B H
 rw[if_pos rfl];exact h
end Pv
namespace Pv
open PySem L2
def zaq:Th->Int
 | .non=>0
 | .int _=>1
 | .str _=>2
 | .tup _=>3
mutual
def zb:Th->Th->Bool
 | .non,.non=>false
 | .int a,.int b=>decide (a < b)
 | .str a,.str b=>decide (a.cps.toList < b.cps.toList)
 | .tup a,.tup b=>zaI a b
 | t,u=>decide (zaq t < zaq u)
def zaI:List Th->List Th->Bool
 | [],[]=>false
 | [],_::_=>true
 | _::_,[]=>false
 | t::r,u::q=>if eqT t u=true then zaI r q else zb t u
end
mutual
def rowT:Th->List Int
 | .non=>[0]
 | .int a=>[1,a]
 | .str x=>[2]++x.cps.toList.map (λ(c:Nat)=>(c:Int))++ [-1]
 | .tup ts=>[3]++rowL ts++ [-1]
def rowL:List Th->List Int
 | []=>[]
 | t::r=>rowT t++rowL r
end
theorem zhb:∀(p a b:List Int),HT.lexLt (p++a) (p++b)=HT.lexLt a b
 | [],_,_=>rfl
 | x::r,a,b=>by rw[J9,J9,HT.lexLt_cons,if_pos rfl];exact zhb r a b
theorem zbe {x y:Int}(h:x≠y)(a b:List Int):HT.lexLt (x::a) (y::b)=decide (x < y):=by rw[HT.lexLt_cons,if_neg h]
theorem zkB:∀(x y:List Nat)(a b:List Int),x≠y->HT.lexLt (x.map (λ(c:Nat)=>(c:Int))++ -1::a) (y.map (λ(c:Nat)=>(c:Int))++ -1::b)=decide (x < y)
 | [],[],_,_,h=>Jf rfl h
 | [],d::y,a,b,_=>by show HT.lexLt (-1::a) ((d:Int)::_)=_;rw[zbe (by lia),decide_eq_true (by lia)];exact(decide_eq_true (List.nil_lt_cons d y)).symm
 | c::x,[],a,b,_=>by show HT.lexLt ((c:Int)::_) (-1::b)=_;rw[zbe (by lia),Jd (by lia)];exact(Jd (List.not_lt_nil _)).symm
 | c::x,d::y,a,b,h=>by
  show HT.lexLt ((c:Int)::_) ((d:Int)::_)=_;by_cases e:c=d
  ·subst e;rw[HT.lexLt_cons,if_pos rfl];have:=zkB x y a b (λz=>h (by rw[z]));refine Eq.trans this ?_;rw[Np];simp[List.cons_lt_cons_iff]
  ·rw[zbe (by lia)];rw[Np];simp[List.cons_lt_cons_iff,e]
def zdB (t:Th):∃r,rowT t=zaq t::r:=by
 cases t with
 | non=>exact⟨[],rfl⟩
 | int a=>exact⟨[a],rfl⟩
 | str x=>exact⟨_,rfl⟩
 | tup ts=>exact⟨_,rfl⟩
def zk5 (t:Th):0<=zaq t:=by
 cases t with
 | non=>exact(by decide:(0:Int)<=0)
 | int _=>exact(by decide:(0:Int)<=1)
 | str _=>exact(by decide:(0:Int)<=2)
 | tup _=>exact(by decide:(0:Int)<=3)
def zrr {x y:Str}(h:x≠y):x.cps.toList≠y.cps.toList:=λz=>h (by
 rcases x with ⟨a⟩;rcases y with ⟨b⟩;have:a=b:=Array.toList_inj.mp z;rw[this])
def zT (h:zaq t≠zaq u)(a b:List Int):HT.lexLt (rowT t++a) (rowT u++b)=decide (zaq t < zaq u):=by obtain⟨r,e⟩:=zdB t;obtain⟨q,e'⟩:=zdB u;rw[e,e',J9,J9];exact zbe h _ _
mutual
theorem zls:∀(t u:Th)(a b:List Int),t≠u->HT.lexLt (rowT t++a) (rowT u++b)=zb t u
 | .non,.non,_,_,h=>Jf rfl h
 | .non,.int _,a,b,_=>zT (t:=.non) (u:=.int _) (by show(0:Int)≠1;decide) a b
 | .non,.str _,a,b,_=>zT (t:=.non) (u:=.str _) (by show(0:Int)≠2;decide) a b
 | .non,.tup _,a,b,_=>zT (t:=.non) (u:=.tup _) (by show(0:Int)≠3;decide) a b
 | .int _,.non,a,b,_=>zT (t:=.int _) (u:=.non) (by show(1:Int)≠0;decide) a b
 | .int x,.int y,a,b,h=>by show HT.lexLt (1::x::a) (1::y::b)=decide (x < y);rw[HT.lexLt_cons,if_pos rfl];exact zbe (λz=>h (by rw[z])) _ _
 | .int _,.str _,a,b,_=>zT (t:=.int _) (u:=.str _) (by show(1:Int)≠2;decide) a b
 | .int _,.tup _,a,b,_=>zT (t:=.int _) (u:=.tup _) (by show(1:Int)≠3;decide) a b
 | .str _,.non,a,b,_=>zT (t:=.str _) (u:=.non) (by show(2:Int)≠0;decide) a b
 | .str _,.int _,a,b,_=>zT (t:=.str _) (u:=.int _) (by show(2:Int)≠1;decide) a b
 | .str x,.str y,a,b,h=>by
  have e:∀(z:Str)(w:List Int),rowT (.str z)++w=2::(z.cps.toList.map (λ(c:Nat)=>(c:Int))++ -1::w):=λz w=>by show([2]++_++ [-1])++w=_;simp
  rw[e,e,HT.lexLt_cons,if_pos rfl];exact zkB _ _ a b (zrr λz=>h (by rw[z]))
 | .str _,.tup _,a,b,_=>zT (t:=.str _) (u:=.tup _) (by show(2:Int)≠3;decide) a b
 | .tup _,.non,a,b,_=>zT (t:=.tup _) (u:=.non) (by show(3:Int)≠0;decide) a b
 | .tup _,.int _,a,b,_=>zT (t:=.tup _) (u:=.int _) (by show(3:Int)≠1;decide) a b
 | .tup _,.str _,a,b,_=>zT (t:=.tup _) (u:=.str _) (by show(3:Int)≠2;decide) a b
 | .tup x,.tup y,a,b,h=>by
  have e:∀(z:List Th)(w:List Int),rowT (.tup z)++w=3::(rowL z++ -1::w):=λz w=>by show([3]++_++ [-1])++w=_;simp
  rw[e,e,HT.lexLt_cons,if_pos rfl];exact zqO x y a b (λz=>h (by rw[z]))
theorem zqO:∀(x y:List Th)(a b:List Int),x≠y->HT.lexLt (rowL x++ -1::a) (rowL y++ -1::b)=zaI x y
 | [],[],_,_,h=>Jf rfl h
 | [],u::q,a,b,_=>by obtain⟨r,e⟩:=zdB u;have:=zk5 u;show HT.lexLt (-1::a) ((rowT u++rowL q)++ -1::b)=true;rw[e,J9,J9,zbe (by lia),decide_eq_true (by lia)]
 | t::r,[],a,b,_=>by obtain⟨r',e⟩:=zdB t;have:=zk5 t;show HT.lexLt ((rowT t++rowL r)++ -1::a) (-1::b)=false;rw[e,J9,J9,zbe (by lia),Jd (by lia)]
 | t::r,u::q,a,b,h=>by
  show HT.lexLt ((rowT t++rowL r)++ -1::a) ((rowT u++rowL q)++ -1::b)=if eqT t u=true then zaI r q else zb t u
  rw[Ng,Ng];by_cases e:t=u
  ·subst e;rw[zhb,if_pos (zap t)];exact zqO r q a b (λz=>h (by rw[z]))
  ·rw[if_neg (λz=>e ((zV t u).mp z))];exact zls t u _ _ e
end
theorem zdG:∀l:List Int,HT.lexLt l l=false
 | []=>rfl
 | x::r=>by rw[HT.lexLt_cons,if_pos rfl];exact zdG r
mutual
theorem zB:∀t:Th,zb t t=false
 | .non=>rfl
 | .int a=>by show decide (a < a)=false;exact Jd (by lia)
 | .str x=>by show decide (x.cps.toList < x.cps.toList)=false;exact Jd (List.lt_irrefl _)
 | .tup ts=>zc4 ts
theorem zc4:∀ts:List Th,zaI ts ts=false
 | []=>rfl
 | t::r=>by show(if eqT t t=true then zaI r r else zb t t)=false;rw[if_pos (zap t)];exact zc4 r
end
theorem zaK (t u:Th):HT.lexLt (rowT t) (rowT u)=zb t u:=by
 by_cases h:t=u
 ·subst h;rw[zdG,zB]
 ·have:=zls t u [] [] h;rwa[JP,JP] at this
theorem ziP (h:zaq t≠zaq u):zb t u=decide (zaq t < zaq u):=by have:=zT h [] [];rwa[JP,JP,zaK] at this
def _root_.Jo:=@List.drop_eq_getElem_cons
theorem zjd {ts us:List Th}{i:Nat}(h1:i < ts.length)(h2:i < us.length):zaI (ts.drop i) (us.drop i)=if eqT ts[i] us[i]=true then zaI (ts.drop (i+1)) (us.drop (i+1)) else zb ts[i] us[i]:=by
 rw[Jo h1,Jo h2]
 rfl
theorem zj2 (ts us:List Th):zaI (ts.drop (min ts.length us.length)) (us.drop (min ts.length us.length))=decide (ts.length < us.length):=by
 by_cases h:ts.length < us.length
 ·rw[Nat.min_eq_left (by lia),List.drop_length,Jo h,decide_eq_true h]
  rfl
 ·rw[Nat.min_eq_right (by lia),List.drop_length,Jd h];cases e:ts.drop us.length <;> rfl
def Reps (H:Hp)(ts:List Th)(xs:QR):Prop:=xs.length=ts.length/\∀(i:Nat)(x:V)(t:Th),xs[i]? =some x->ts[i]? =some t->Rep H t x
theorem Reps.keep (r:Reps H ts xs)(k:Tups H H'):Reps H' ts xs:=⟨r.1,λi x t h1 h2=>(r.2 i x t h1 h2).keep k⟩
def Reps.snoc (r:Reps H ts xs)(h:Rep H t x):Reps H (ts++ [t]) (xs++ [x]):=by
 refine⟨by simp[r.1],λi y u h1 h2=>?_⟩;have hl:=r.1;by_cases hi:i < xs.length
 ·rw[No hi] at h1;rw[No (by lia)] at h2;exact r.2 i y u h1 h2
 ·rw[JY (by lia)] at h1 h2;cases e:i - xs.length with
  | zero=>rw[e] at h1;rw[show i - ts.length=0 by lia] at h2;cases h1;cases h2;exact h
  | succ k=>rw[e] at h1;simp at h1
theorem Reps.nil:Reps H [] []:=⟨rfl,λi x t h=>by simp at h⟩
end Pv
namespace L2
open PySem PySem.Spec PyProof.Rows
section
variable {X:Cx}{e:Expr}{es:List Expr}{te:TE}{pos:Pos}
def zgO:OpR X (compareOp .LtE) (λx y H Q=>∃i j,x=.str i/\y=.str j/\Q (.bl (!decide (j.cps.toList < i.cps.toList))) H):=by intro pins s σ H x y v u Q I rx ry h;obtain⟨i,j,rfl,rfl,q⟩:=h;obtain⟨t,rfl⟩:=rx;obtain⟨t',rfl⟩:=ry;exact PySem.P.le_str (zx I q rfl)
theorem zla:∀{ys:QQ}{its:QO},Vals (ys.map V.str) its->StrsAre its ys
 | [],_,.nil=>.nil
 | y::r,_,.cons h t=>by obtain⟨k,rfl⟩:=h;exact .cons y k (zla t)
def rJoin:V->List V->Hp->VK->Prop:=λx vs H Q=>∃z p ys,x=.str z/\vs=[.ref p]/\H p=some (.lst (ys.map V.str))/\(ys.map (·.length)).sum+ys.length * z.length<=16777216/\Q (.str (Str.join z ys)) H
def zkJ:MtR X "str.join" rJoin:=by intro pins s σ H x vs v us Q I rx rv h;obtain⟨z,p,ys,rfl,rfl,hH,hz,q⟩:=h;obtain⟨t,rfl⟩:=rx;obtain⟨u,rfl,ru⟩:=Vals.one rv;cases ru;obtain⟨its,r,pl,_⟩:=I.list (SqL.of hH);refine join_list pl.isList (zla r) hz λt' k=>?_;have e:Txt.join z ys=Str.join z ys:=PySem.StrLaws.glued_eq_join z ys;rw[e];exact⟨.str _,H,I.tok _,⟨_,rfl⟩,q⟩
end
end L2
namespace Pv
open PySem L2 PyProof.Rows PySem.NumText
def tx (l:List Nat):Str:=⟨l.toArray⟩
theorem zm2 (l:List Nat):(tx l).length=l.length:=by show l.toArray.size=_;simp
theorem znU (a b:List Nat):tx a++tx b=tx (a++b):=by show(⟨a.toArray++b.toArray⟩:Str)=⟨(a++b).toArray⟩;simp
def zqj (ls:List (List Nat)):Str.join (tx []) (ls.map tx)=tx ls.flatten:=by
 induction ls with
 | nil=>rfl
 | cons a r ih=>
  cases r with
  | nil=>show tx a=tx _;simp
  | cons b r=>
   show tx a++tx []++Str.join (tx []) ((b::r).map tx)=_;rw[ih,znU,znU,JP]
   rfl
def numL (i:Int):List Nat:=(Str.ofString (toString i)).cps.toList
mutual
def wrT:Th->List Nat
 | .non=>[111]
 | .int i=>110::(numL i++ [59])
 | .str x=>116::(numL x.length++58::x.cps.toList)
 | .tup ts=>40::(wrL ts++ [41])
def wrL:List Th->List Nat
 | []=>[]
 | t::r=>wrT t++wrL r
end
def _root_.Jq:=@of_decide_eq_false
theorem zkN:∀a b:List Int,HT.lexLt a b=false->HT.lexLt b a=false->a=b
 | [],[],_,_=>rfl
 | [],_::_,h,_=>by cases h
 | _::_,[],_,h=>by cases h
 | x::a,y::b,h1,h2=>by
  rw[HT.lexLt_cons] at h1 h2;by_cases e:x=y
  ·rw[if_pos e] at h1;rw[if_pos e.symm] at h2;rw[e,zkN a b h1 h2]
  ·rw[if_neg e] at h1;rw[if_neg (λz=>e z.symm)] at h2;have:=Jq h1;have:=Jq h2;lia
def _root_.Jl:=@of_decide_eq_true
theorem zld:∀a b c:List Int,HT.lexLt a c=true->HT.lexLt a b=true\/HT.lexLt b c=true
 | [],[],[],h=>by cases h
 | [],[],_::_,_=>.inr rfl
 | [],_::_,_,_=>.inl rfl
 | _::_,_,[],h=>by cases h
 | _::_,[],_::_,_=>.inr rfl
 | x::a,y::b,z::c,h=>by
  rw[HT.lexLt_cons] at h;rw[HT.lexLt_cons,HT.lexLt_cons];by_cases e1:x=y
  ·by_cases e2:y=z
   ·rw[if_pos (e1.trans e2)] at h;rw[if_pos e1,if_pos e2];exact zld a b c h
   ·rw[if_neg (λq=>e2 (e1.symm.trans q))] at h;rw[if_neg e2];have:=Jl h;exact .inr (decide_eq_true (by lia))
  ·by_cases e2:y=z
   ·rw[if_neg (λq=>e1 (q.trans e2.symm))] at h;rw[if_neg e1];have:=Jl h;exact .inl (decide_eq_true (by lia))
   ·rw[if_neg e1,if_neg e2];by_cases hx:x < y
    ·exact .inl (decide_eq_true hx)
    ·refine .inr (decide_eq_true ?_);by_cases e3:x=z
     ·lia
     ·rw[if_neg e3] at h;have:=Jl h;lia
def zpg (h:rowT t=rowT u):t=u:=by refine Classical.byContradiction λne=>?_;have e1:=zls t u [0] [1] ne;have e2:=zls t u [1] [0] ne;rw[h,zhb] at e1 e2;rw[<-e1] at e2;exact Jf e2 (by decide)
def zmA (h1:zb t u=false)(h2:zb u t=false):t=u:=zpg (zkN _ _ (by rw[zaK];exact h1) (by rw[zaK];exact h2))
theorem zG (h:zb t u=true):zb u t=false:=by
 cases e:zb u t with
 | false=>rfl
 | true=>
  rw[<-zaK] at h e;have:∀a b:List Int,HT.lexLt a b=true->HT.lexLt b a=true->False:=λa b=>by
   induction a generalizing b with
   | nil=>intro p q;cases b <;> cases q
   | cons x a ih=>
    intro p q;cases b with
    | nil=>cases p
    | cons y b=>
     rw[HT.lexLt_cons] at p q;by_cases z:x=y
     ·rw[if_pos z] at p;rw[if_pos z.symm] at q;exact ih b p q
     ·rw[if_neg z] at p;rw[if_neg (λk=>z k.symm)] at q;have:=Jl p;have:=Jl q;lia
  exact(this _ _ h e).elim
end Pv
namespace Pv
open PySem L2
def zma (b:Th)(h:zb a c=true):zb a b=true\/zb b c=true:=by rw[<-zaK] at h;rw[<-zaK,<-zaK];exact zld _ _ _ h
theorem zU (h1:zb a b=true)(h2:zb b c=true):zb a c=true:=by
 rcases zma c h1 with h | h
 ·exact h
 ·rw[zG h2] at h;cases h
theorem zcj (h:zb a b=false)(n:a≠b):zb b a=true:=by
 cases e:zb b a with
 | true=>rfl
 | false=>exact Jf (zmA h e) n
def zcp (t:Th):Int:=zh (.tup [.str ("rank" :Str),t])
def z9 (t u:Th):Bool:=if zcp t=zcp u then zb t u else decide (zcp u < zcp t)
abbrev zaF (k wo:Th)(l r c:Int):Th:=.tup [k,wo,.int l,.int r,.int c]
def zi4 (t:Th):1<=zh t/\zh t<=2305843009213693951:=by have:=zeH (zam t);unfold zh;lia
structure KeyT (t:Th):Prop where
 wf:Wf t
 dp:dep t<=3
 nd:nodes t<=20
 ne:t≠ .non
instance decTh:DecidableEq Th:=λt u=>decidable_of_iff _ (zV t u)
inductive Tr where
 | nil:Tr
 | node (l:Tr) (k w:Th) (r:Tr):Tr
namespace Tr
def ps:Tr->List (Th ×Th)
 | nil=>[]
 | node l k w r=>l.ps++(k,w)::r.ps
def root:Tr->Int
 | nil=>0
 | node l k w r=>zh (zaF k w l.root r.root (((l.ps++(k,w)::r.ps).length:Nat):Int))
abbrev cnt (T:Tr):Nat:=T.ps.length
def thing:Tr->Th
 | nil=>.non
 | node l k w r=>zaF k w l.root r.root (((l.ps++(k,w)::r.ps).length:Nat):Int)
def InV (cs:QF):Tr->Prop
 | nil=>True
 | node l k w r=>zg cs (node l k w r).root=some (node l k w r).thing/\l.InV cs/\r.InV cs
def kid (x:Th):Tr->Tr
 | nil=>nil
 | node l k _ r=>if zb k x=true then r else l
def down (x:Th):Nat->Tr->Tr
 | 0,T=>T
 | n+1,T=>down x n (T.kid x)
def plug (x:Th):Nat->Tr->Tr->Tr
 | 0,_,S=>S
 | _+1,nil,_=>nil
 | n+1,node l k w r,S=>if zb k x=true then node l k w (plug x n r S) else node (plug x n l S) k w r
def spl (x:Th):Nat->Tr->Tr ×Tr
 | 0,T=>(T,nil)
 | _+1,nil=>(nil,nil)
 | n+1,node l k w r=>if zb k x=true then(node l k w (spl x n r).1,(spl x n r).2) else((spl x n l).1,node (spl x n l).2 k w r)
def wl (x:Th):Tr->Nat
 | nil=>0
 | node l k _ r=>if k=x then 1 else(if zb k x=true then r.wl x else l.wl x)+1
def own (x:Th):Tr->Tr
 | nil=>nil
 | node l k w r=>if k=x then node l k w r else if zb k x=true then r.own x else l.own x
end Tr
open Tr
theorem zgK (l:Tr)(k w:Th)(r:Tr):(node l k w r).root=zh (node l k w r).thing:=rfl
def zaJ {T:Tr}:T.root=0↔T=nil:=by
 cases T with
 | nil=>exact⟨λ_=>rfl,λ_=>rfl⟩
 | node l k w r=>refine⟨λh=>?_,λh=>by cases h⟩;have:=(zi4 (node l k w r).thing).1;rw[zgK] at h;lia
def ze6 (T:Tr):0<=T.root/\T.root<=2305843009213693951:=by
 cases T with
 | nil=>exact⟨Int.le_refl 0,by decide⟩
 | node l k w r=>have:=zi4 (node l k w r).thing;rw[zgK];lia
theorem zt (l:Tr)(k w:Th)(r:Tr):(node l k w r).cnt=l.cnt+r.cnt+1:=by show(l.ps++(k,w)::r.ps).length=_;rw[JI,JK];show l.ps.length+(r.ps.length+1)=l.ps.length+r.ps.length+1;lia
def Sub (cs cs':QF):Prop:=∀n t,zg cs n=some t->zg cs' n=some t
def Sub.refl (cs:QF):Sub cs cs:=λ_ _ h=>h
theorem Sub.trans (h:Sub a b)(h':Sub b c):Sub a c:=λn t e=>h' n t (h n t e)
theorem InV.mono {cs cs':QF}(s:Sub cs cs'):∀{T:Tr},T.InV cs->T.InV cs'
 | nil,_=>trivial
 | node _ _ _ _,h=>⟨s _ _ h.1,InV.mono s h.2.1,InV.mono s h.2.2⟩
abbrev _root_.QH:=List (Th ×Th)
def Srt (ps:QH):Prop:=ps.Pairwise λp q=>zb p.1 q.1=true
def zbM {l:Tr}{r:Tr}(h:Srt (node l k w r).ps):Srt l.ps/\Srt r.ps/\(∀p∈l.ps,zb p.1 k=true)/\(∀p∈r.ps,zb k p.1=true):=by have h':Srt (l.ps++(k,w)::r.ps):=h;obtain⟨h1,h2,h3⟩:=List.pairwise_append.mp h';obtain⟨h4,h5⟩:=List.pairwise_cons.mp h2;exact⟨h1,h5,λp hp=>h3 p hp _ JL,λp hp=>h4 p hp⟩
def lo (ps:QH)(x:Th):List (Th ×Th):=ps.filter λp=>zb p.1 x
def hi (ps:QH)(x:Th):List (Th ×Th):=ps.filter λp=>zb x p.1
def hiE (ps:QH)(x:Th):List (Th ×Th):=ps.filter λp=>!zb p.1 x
def insP (ps:QH)(x w:Th):List (Th ×Th):=lo ps x++(x,w)::hi ps x
def _root_.Nu:=@List.filter_append
theorem zcK (a b:QH)(x:Th):lo (a++b) x=lo a x++lo b x:=Nu ..
theorem zd6 (a b:QH)(x:Th):hi (a++b) x=hi a x++hi b x:=Nu ..
theorem zj6 (a b:QH)(x:Th):hiE (a++b) x=hiE a x++hiE b x:=Nu ..
theorem zhN {a:QH}(h:∀p∈a,zb p.1 x=true):lo a x=a:=List.filter_eq_self.mpr h
theorem znG {a:QH}(h:∀p∈a,zb x p.1=true):hi a x=a:=List.filter_eq_self.mpr h
theorem zkE {a:QH}(h:∀p∈a,zb p.1 x=false):hiE a x=a:=List.filter_eq_self.mpr λp hp=>by rw[h p hp];rfl
def _root_.Nq:=@List.filter_eq_nil_iff
theorem ze3 {a:QH}(h:∀p∈a,zb p.1 x=false):lo a x=[]:=Nq.mpr λp hp=>by rw[h p hp];exact Jc
theorem zlq {a:QH}(h:∀p∈a,zb x p.1=false):hi a x=[]:=Nq.mpr λp hp=>by rw[h p hp];exact Jc
theorem ziH {a:QH}(h:∀p∈a,zb p.1 x=true):hiE a x=[]:=Nq.mpr λp hp=>by rw[h p hp];exact Jc
theorem ztH {p:Th ×Th}{a:QH}(h:zb p.1 x=true):lo (p::a) x=p::lo a x:=List.filter_cons_of_pos h
theorem znf {p:Th ×Th}{a:QH}(h:zb p.1 x=false):lo (p::a) x=lo a x:=List.filter_cons_of_neg (by rw[h];exact Jc)
theorem ztz {p:Th ×Th}{a:QH}(h:zb x p.1=false):hi (p::a) x=hi a x:=List.filter_cons_of_neg (by rw[h];exact Jc)
theorem zoC {p:Th ×Th}{a:QH}(h:zb p.1 x=false):hiE (p::a) x=p::hiE a x:=List.filter_cons_of_pos (by rw[h];rfl)
theorem zrE {p:Th ×Th}{a:QH}(h:zb p.1 x=true):hiE (p::a) x=hiE a x:=List.filter_cons_of_neg (by rw[h];exact Jc)
theorem zkY {A M B:QH}{w:Th}(hA:∀p∈A,zb p.1 x=true)(hB:∀p∈B,zb x p.1=true):insP (A++M++B) x w=A++insP M x w++B:=by unfold insP;rw[zcK,zcK,zd6,zd6,zhN hA,znG hB,zlq (a:=A) λp hp=>zG (hA p hp),ze3 (a:=B) λp hp=>zG (hB p hp)];simp
theorem zlN {l r:QH}{w w':Th}(hl:∀p∈l,zb p.1 k=true)(hr:∀p∈r,zb k p.1=true):insP (l++(k,w)::r) k w'=l++(k,w')::r:=by unfold insP;rw[zcK,zd6,zhN hl,znf (zB k),ztz (zB k),znG hr,ze3 (a:=r) λp hp=>zG (hr p hp),zlq (a:=l) λp hp=>zG (hl p hp)];simp
theorem zrH {a:QH}{x:Th}(h:∀p∈a,p.1≠x):hi a x=hiE a x:=by
 unfold hi hiE;refine List.filter_congr λp hp=>?_;cases e:zb p.1 x with
 | true=>rw[zG e];rfl
 | false=>rw[zcj e (h p hp)];rfl
def Up (x:Th):Nat->Tr->Prop
 | 0,_=>True
 | _+1,nil=>False
 | n+1,node l k _ r=>k≠x/\Up x n (if zb k x=true then r else l)
theorem zcd:∀{n:Nat}{T:Tr},Srt T.ps->Up x n T->∃A B:List (Th ×Th),(∀S,(plug x n T S).ps=A++S.ps++B)/\T.ps=A++(down x n T).ps++B/\(∀p∈A,zb p.1 x=true)/\(∀p∈B,zb x p.1=true)
 | 0,T,_,_=>⟨[],[],λS=>(JP _).symm,(JP _).symm,λp h=>(nomatch h),λp h=>(nomatch h)⟩
 | n+1,nil,_,h=>h.elim
 | n+1,node l k w r,hs,h=>by
  obtain⟨h1,h2,h3,h4⟩:=zbM hs;obtain⟨ne,h⟩:=h;by_cases c:zb k x=true
  ·rw[if_pos c] at h;obtain⟨A,B,e1,e2,e3,e4⟩:=zcd h2 h;refine⟨l.ps++(k,w)::A,B,λS=>?_,?_,λp hp=>?_,e4⟩
   ·show(if zb k x=true then node l k w (plug x n r S) else node (plug x n l S) k w r).ps=_;rw[if_pos c];show l.ps++(k,w)::(plug x n r S).ps=_;rw[e1 S];simp
   ·show l.ps++(k,w)::r.ps=(l.ps++(k,w)::A)++(down x n (if zb k x=true then r else l)).ps++B;rw[if_pos c,e2];simp
   ·rcases Jm.mp hp with hp | hp
    ·exact zU (h3 p hp) c
    ·rcases JD.mp hp with rfl | hp
     ·exact c
     ·exact e3 p hp
  ·rw[if_neg c] at h;have c':zb k x=false:=by cases z:zb k x with | true=>exact Jf z c | false=>rfl
   have xk:=zcj c' ne;obtain⟨A,B,e1,e2,e3,e4⟩:=zcd h1 h;refine⟨A,B++(k,w)::r.ps,λS=>?_,?_,e3,λp hp=>?_⟩
   ·show(if zb k x=true then node l k w (plug x n r S) else node (plug x n l S) k w r).ps=_;rw[if_neg c];show(plug x n l S).ps++(k,w)::r.ps=_;rw[e1 S];simp
   ·show l.ps++(k,w)::r.ps=A++(down x n (if zb k x=true then r else l)).ps++(B++(k,w)::r.ps);rw[if_neg c,e2];simp
   ·rcases Jm.mp hp with hp | hp
    ·exact e4 p hp
    ·rcases JD.mp hp with rfl | hp
     ·exact xk
     ·exact zU xk (h4 p hp)
def _root_.Jw:=@Nat.succ_lt_succ
theorem zfc:∀{n:Nat}{T S:Tr},(∀m,m < n->down x m T≠nil)->(plug x n T S).cnt+(down x n T).cnt=T.cnt+S.cnt
 | 0,T,S,_=>Nat.add_comm _ _
 | n+1,nil,S,h=>Jf rfl (h 0 (Nat.zero_lt_succ _))
 | n+1,node l k w r,S,h=>by
  show(if zb k x=true then node l k w (plug x n r S) else node (plug x n l S) k w r).cnt+(down x n (if zb k x=true then r else l)).cnt=_;have h':∀m,m < n->down x m (if zb k x=true then r else l)≠nil:=λm hm=>h (m+1) (Jw hm);by_cases c:zb k x=true
  ·rw[if_pos c] at h' ⊢;rw[if_pos c];have:=zfc (S:=S) h';rw[zt,zt];lia
  ·rw[if_neg c] at h' ⊢;rw[if_neg c];have:=zfc (S:=S) h';rw[zt,zt];lia
theorem up_down:∀{n:Nat}{T:Tr},Up x n T->∀m,m < n->down x m T≠nil
 | 0,_,_,m,hm=>Jf hm (Nat.not_lt_zero m)
 | n+1,nil,h,_,_=>h.elim
 | n+1,node l k w r,h,0,_=>λz=>by cases z
 | n+1,node l k w r,h,m+1,hm=>up_down (T:=if zb k x=true then r else l) h.2 m (Nat.lt_of_succ_lt_succ hm)
theorem zfh:∀(n m:Nat)(T:Tr),down x (n+m) T=down x m (down x n T)
 | 0,m,T=>by rw[Nat.zero_add];rfl
 | n+1,m,T=>by rw[Nat.succ_add];exact zfh n m (T.kid x)
theorem zhr:∀{n m:Nat}{T:Tr},Up x n T->m<=n->Up x m T
 | _,0,_,_,_=>trivial
 | 0,m+1,_,_,h=>Jf h (Nat.not_succ_le_zero m)
 | n+1,m+1,nil,h,_=>h.elim
 | n+1,m+1,node l k w r,h,hm=>⟨h.1,zhr h.2 (Nat.le_of_succ_le_succ hm)⟩
theorem zdJ:∀{T:Tr},own x T=nil->Up x (wl x T) T/\down x (wl x T) T=nil
 | nil,_=>⟨trivial,rfl⟩
 | node l k w r,h=>by
  unfold own at h;by_cases e:k=x
  ·rw[if_pos e] at h;cases h
  ·rw[if_neg e] at h;unfold wl;rw[if_neg e];by_cases c:zb k x=true
   ·rw[if_pos c] at h ⊢;obtain⟨a,b⟩:=zdJ h;refine⟨⟨e,?_⟩,?_⟩
    ·rw[if_pos c];exact a
    ·show down x _ (if zb k x=true then r else l)=nil;rw[if_pos c];exact b
   ·rw[if_neg c] at h ⊢;obtain⟨a,b⟩:=zdJ h;refine⟨⟨e,?_⟩,?_⟩
    ·rw[if_neg c];exact a
    ·show down x _ (if zb k x=true then r else l)=nil;rw[if_neg c];exact b
theorem zbH:∀{T l' r':Tr}{k' w':Th},own x T=node l' k' w' r'->k'=x/\∃n,wl x T=n+1/\Up x n T/\down x n T=node l' k' w' r'
 | nil,_,_,_,_,h=>by cases h
 | node l k w r,l',r',k',w',h=>by
  unfold own at h;by_cases e:k=x
  ·rw[if_pos e] at h;cases h;unfold wl;rw[if_pos e];exact⟨e,0,rfl,trivial,rfl⟩
  ·rw[if_neg e] at h;unfold wl;rw[if_neg e];by_cases c:zb k x=true
   ·rw[if_pos c] at h ⊢;obtain⟨a,n,b,d,f⟩:=zbH h;refine⟨a,n+1,by rw[b],⟨e,?_⟩,?_⟩
    ·rw[if_pos c];exact d
    ·show down x n (if zb k x=true then r else l)=_;rw[if_pos c];exact f
   ·rw[if_neg c] at h ⊢;obtain⟨a,n,b,d,f⟩:=zbH h;refine⟨a,n+1,by rw[b],⟨e,?_⟩,?_⟩
    ·rw[if_neg c];exact d
    ·show down x n (if zb k x=true then r else l)=_;rw[if_neg c];exact f
def zpQ:∀{n:Nat},Up x n T->wl x T=n+wl x (down x n T):=by
 intro n
 induction n generalizing T with
 | zero=>intro _;rw[Nat.zero_add];rfl
 | succ n ih=>
  intro h;cases T with
  | nil=>exact h.elim
  | node l k w r=>
   obtain⟨e,h⟩:=h;have:=ih h;show(if k=x then 1 else(if zb k x=true then r.wl x else l.wl x)+1)=n+1+wl x (down x n (if zb k x=true then r else l));rw[if_neg e];by_cases c:zb k x=true
   ·rw[if_pos c] at this ⊢;rw[if_pos c];lia
   ·rw[if_neg c] at this ⊢;rw[if_neg c];lia
theorem zkZ:∀T:Tr,wl x T<=T.cnt
 | nil=>Jb _
 | node l k w r=>by
  rw[zt];unfold wl;have h1:=zkZ (x:=x) l;have h2:=zkZ (x:=x) r;split
  ·lia
  ·split <;> lia
theorem zci:∀{n:Nat}{T:Tr},Srt T.ps->Srt (down x n T).ps
 | 0,_,h=>h
 | n+1,T,h=>zci (n:=n) (T:=T.kid x) (by
  cases T with
  | nil=>exact List.Pairwise.nil
  | node l k w r=>
   obtain⟨h1,h2,_,_⟩:=zbM h;show Srt (if zb k x=true then r else l).ps;split
   ·exact h2
   ·exact h1)
theorem zjS:∀{T:Tr},Srt T.ps->(spl x (wl x T) T).1.ps=lo T.ps x/\(spl x (wl x T) T).2.ps=hiE T.ps x
 | nil,_=>⟨rfl,rfl⟩
 | node l k w r,h=>by
  obtain⟨h1,h2,h3,h4⟩:=zbM h;show(spl x (if k=x then 1 else(if zb k x=true then r.wl x else l.wl x)+1) (node l k w r)).1.ps=lo (l.ps++(k,w)::r.ps) x/\(spl x (if k=x then 1 else(if zb k x=true then r.wl x else l.wl x)+1) (node l k w r)).2.ps=hiE (l.ps++(k,w)::r.ps) x;rw[zcK,zj6];by_cases e:k=x
  ·subst e;rw[if_pos rfl];have c:=zB k;show(if zb k k=true then(node l k w r,nil) else(l,node nil k w r)).1.ps=_/\(if zb k k=true then(node l k w r,nil) else(l,node nil k w r)).2.ps=_;rw[c,zhN h3,znf c,zoC c,ze3 λp hp=>zG (h4 p hp),ziH h3,zkE λp hp=>zG (h4 p hp)];exact⟨(JP _).symm,rfl⟩
  ·rw[if_neg e];by_cases c:zb k x=true
   ·obtain⟨i1,i2⟩:=zjS (x:=x) h2;rw[if_pos c];show(if zb k x=true then(node l k w (spl x (r.wl x) r).1,(spl x (r.wl x) r).2) else _).1.ps=_/\(if zb k x=true then(node l k w (spl x (r.wl x) r).1,(spl x (r.wl x) r).2) else _).2.ps=_;rw[if_pos c,zhN λp hp=>zU (h3 p hp) c,ztH c,ziH λp hp=>zU (h3 p hp) c,zrE c];refine⟨?_,by rw[List.nil_append];exact i2⟩;show l.ps++(k,w)::(spl x (r.wl x) r).1.ps=_;rw[i1]
   ·have c':zb k x=false:=by cases z:zb k x with | true=>exact Jf z c | false=>rfl
    have xk:=zcj c' e;obtain⟨i1,i2⟩:=zjS (x:=x) h1;rw[if_neg c];show(if zb k x=true then _ else((spl x (l.wl x) l).1,node (spl x (l.wl x) l).2 k w r)).1.ps=_/\(if zb k x=true then _ else((spl x (l.wl x) l).1,node (spl x (l.wl x) l).2 k w r)).2.ps=_;have hr:∀p∈r.ps,zb p.1 x=false:=λp hp=>zG (zU xk (h4 p hp));rw[if_neg c,znf c',zoC c',ze3 hr,zkE hr];refine⟨by rw[JP];exact i1,?_⟩;show(spl x (l.wl x) l).2.ps++(k,w)::r.ps=_;rw[i2]
def Tr.plc (x:Th):Tr->Nat
 | nil=>0
 | node l k _ r=>if z9 x k=true then 0 else(if zb k x=true then r.plc x else l.plc x)+1
theorem zhe:∀{T:Tr},own x T=nil->plc x T<=wl x T
 | nil,_=>Jb _
 | node l k w r,h=>by
  unfold own at h;by_cases e:k=x
  ·rw[if_pos e] at h;cases h
  ·rw[if_neg e] at h;unfold plc wl;rw[if_neg e];split
   ·exact JM _
   ·by_cases c:zb k x=true
    ·rw[if_pos c] at h;rw[if_pos c,if_pos c];exact Nat.succ_le_succ (zhe h)
    ·rw[if_neg c] at h;rw[if_neg c,if_neg c];exact Nat.succ_le_succ (zhe h)
theorem znF:∀{n:Nat}{T:Tr},Up x n T->own x (down x n T)=own x T
 | 0,_,_=>rfl
 | n+1,nil,h=>h.elim
 | n+1,node l k w r,h=>by
  show own x (down x n (if zb k x=true then r else l))=own x (node l k w r);rw[znF h.2]
  conv=>rhs;unfold own
  rw[if_neg h.1];split <;> rfl
theorem ze1:∀{T:Tr},Srt T.ps->own x T=nil->∀p∈T.ps,p.1≠x
 | nil,_,_,p,hp=>by cases hp
 | node l k w r,hs,h,p,hp=>by
  obtain⟨h1,h2,h3,h4⟩:=zbM hs;unfold own at h;by_cases e:k=x
  ·rw[if_pos e] at h;cases h
  ·rw[if_neg e] at h;by_cases c:zb k x=true
   ·rw[if_pos c] at h;rcases Jm.mp hp with hp | hp
    ·intro z;have:=zU (h3 p hp) c;rw[z,zB] at this;cases this
    ·rcases JD.mp hp with rfl | hp
     ·exact e
     ·exact ze1 h2 h p hp
   ·rw[if_neg c] at h;have c':zb k x=false:=by cases z:zb k x with | true=>exact Jf z c | false=>rfl
    have xk:=zcj c' e;rcases Jm.mp hp with hp | hp
    ·exact ze1 h1 h p hp
    ·rcases JD.mp hp with rfl | hp
     ·exact e
     ·intro z;have:=zU xk (h4 p hp);rw[z,zB] at this;cases this
def Tr.putT (x w:Th)(T:Tr):Tr:=
 match own x T with
 | node l _ _ r=>plug x (wl x T - 1) T (node l x w r)
 | nil=>plug x (plc x T) T (node (spl x (wl x T - plc x T) (down x (plc x T) T)).1 x w (spl x (wl x T - plc x T) (down x (plc x T) T)).2)
def zow {T:Tr}(hs:Srt T.ps):(putT x w T).ps=insP T.ps x w:=by
 unfold putT;cases h:own x T with
 | nil=>
  obtain⟨u,d⟩:=zdJ h;have hp:=zhe h;have u':=zhr u hp;obtain⟨A,B,e1,e2,e3,e4⟩:=zcd hs u';have hd:=zpQ u';have ew:wl x T - plc x T=wl x (down x (plc x T) T):=by lia
  have s1:=zjS (x:=x) (zci (x:=x) (n:=plc x T) hs);show(plug x (plc x T) T (node (spl x (wl x T - plc x T) (down x (plc x T) T)).1 x w (spl x (wl x T - plc x T) (down x (plc x T) T)).2)).ps=_;rw[ew,e1]
  conv=>rhs;rw[e2]
  rw[zkY e3 e4];show A++((spl x (wl x (down x (plc x T) T)) (down x (plc x T) T)).1.ps++(x,w)::(spl x (wl x (down x (plc x T) T)) (down x (plc x T) T)).2.ps)++B=_;rw[s1.1,s1.2];unfold insP;rw[zrH (ze1 (zci hs) (by rw[znF u',h]))]
 | node l k' w' r=>
  obtain⟨rfl,n,ew,u,d⟩:=zbH h;show(plug k' (wl k' T - 1) T (node l k' w r)).ps=_;rw[ew,Nat.add_sub_cancel];obtain⟨A,B,e1,e2,e3,e4⟩:=zcd hs u;rw[e1]
  conv=>rhs;rw[e2]
  rw[zkY e3 e4,d];obtain⟨_,_,h3,h4⟩:=zbM (d ▸ zci hs);show A++(l.ps++(k',w)::r.ps)++B=A++insP (l.ps++(k',w')::r.ps) k' w++B;rw[zlN h3 h4]
def zfH {ps:QH}(h:Srt ps)(f:Th ×Th->Bool):Srt (ps.filter f):=List.Pairwise.filter f h
def zp1 {ps:QH}{x w:Th}(h:Srt ps):Srt (insP ps x w):=by
 refine List.pairwise_append.mpr ⟨zfH h _,List.pairwise_cons.mpr ⟨λp hp=>(Jz.mp hp).2,zfH h _⟩,λp hp q hq=>?_⟩;have a:=(Jz.mp hp).2;rcases JD.mp hq with rfl | hq
 ·exact a
 ·exact zU a (Jz.mp hq).2
def zkF {ps:QH}{x w:Th}:(insP ps x w).length<=ps.length+1:=by
 unfold insP lo hi;rw[JI,JK];have:∀qs:List (Th ×Th),(qs.filter λp=>zb p.1 x).length+(qs.filter λp=>zb x p.1).length<=qs.length:=λqs=>by
  induction qs with
  | nil=>exact Jb _
  | cons q qs ih=>
   rw[List.filter_cons,List.filter_cons];cases a:zb q.1 x with
   | true=>rw[zG a];show(q::qs.filter _).length+(qs.filter _).length<=_;rw[JK,JK];lia
   | false=>
    show(qs.filter _).length+(if zb x q.1=true then q::qs.filter _ else qs.filter _).length<=_;split
    ·rw[JK,JK];lia
    ·rw[JK];lia
 have:=this ps;lia
def zlb {ps:QH}{x w:Th}{p:Th ×Th}(h:p∈insP ps x w):p∈ps\/p=(x,w):=by
 rcases Jm.mp h with h | h
 ·exact .inl (Jz.mp h).1
 ·rcases JD.mp h with h | h
  ·exact .inr h
  ·exact .inl (Jz.mp h).1
end Pv
namespace L2
open PySem PySem.Spec PyProof.Rows
structure PEw (X:Cx)(e:Expr)(t:TE):Prop where
 h:PE X e t
structure PAw (X:Cx)(es:List Expr)(t:TA):Prop where
 h:PA X es t
structure PPw (X:Cx)(pos:Pos)(keys:List (Option Expr))(values:List Expr)(trs:List (TE ×TE)):Prop where
 h:PPs X pos keys values trs
structure PSw (X:Cx)(st:Stmt)(t:TS):Prop where
 h:PS X st t
structure PSq (X:Cx)(st:List Stmt)(t:TS):Prop where
 h:PSs X st t
section
variable {X:Cx}
variable {pins:QE}{σ:St}{H:Hp}{s:Shared}{d:Addr}{kvs:QG}{o:Obj}
variable {tg:Expr}
end
end L2
namespace L2
open PySem PySem.Spec PyProof.Rows PySem.W
section
variable {P:Program}{w:World}{A:Around}{E:QC}{s:Shared}{R:Result->Shared->Prop}{I l S:Addr}{items:Array Value}
variable {X:Cx}{e:Expr}{te:TE}{p1 p2 q1 q2:Pos}
end
def Itv (K:QA)(p:Addr)(xs:QR):It:=
 ⟨λn H=>SqL K H p xs/\n < xs.length,λn H v H'=>H'=H/\xs.reverse[n]? =some v,λn H=>SqL K H p xs/\xs.length<=n⟩
def znC {P:Program}{w:World}{K:QA}{tg:Expr}{xs:QR}(p it:Addr):Turn P w K tg (Itv K p xs) [it] it (λi h=>i<=xs.length/\h.IsRevIter it p ((xs.length:Int) - 1 - (i:Nat))) where
 mem:=by simp
 obj:=λi h st b hb=>by
  have e:b=it:=by simpa using hb
  subst e;obtain⟨_,o,e,c,d⟩:=st;exact⟨o,e,λv z=>by rw[d] at z;cases z⟩
 keep:=λi h h' st k=>⟨st.1,st.2.at λo e=>k it (by simp) o e⟩
 item:=by
  intro X hP hw hK hc i pins s σ H E I hf st hg;subst hP hw hK;obtain⟨hq,hi⟩:=hg;obtain⟨_,st⟩:=st;obtain⟨its,rv,p',hz⟩:=I.list hq;have hn:xs.length - 1 - i < xs.length:=by lia
  have hx:xs[xs.length - 1 - i]? =some xs[xs.length - 1 - i]:=JB hn;obtain⟨u,hu,ru⟩:=rv.get hx;obtain⟨f0,f1,f2,f3,f4,f5⟩:=hf it (by simp);have en:(xs.length:Int) - 1 - (i:Nat)=((xs.length - 1 - i:Nat):Int):=by lia
  rw[en] at st;refine wpAny_pyNext_rev_item st p'.isList (x:=u) (by simpa using hu) λh' st' sb=>?_;have I1:Inv X pins σ H {s with heap:=h'}:=I.turned (t':=s.toks) (λb o hb e=>(sb.2 b hb).trans e) f0 f1 f3 f4 f5;obtain⟨o,e,c,d⟩:=id st';have en2:((xs.length - 1 - i:Nat):Int) - 1=(xs.length:Int) - 1 - ((i+1:Nat):Int):=by lia
  rw[en2] at st';exact⟨u,rfl,zgD (s:={s with heap:=h'}) e c d (by decide) ⟨_,H,I1,ru,⟨rfl,by rw[List.getElem?_reverse hi];exact hx⟩,⟨hi,st'⟩,λb hb=>(hf b hb).1⟩⟩
 done:=by
  intro X hP hw hK hc i pins s σ H E I hf st hg;subst hP hw hK;obtain⟨hq,hx⟩:=hg;obtain⟨hi,st⟩:=st;obtain⟨f0,f1,f2,f3,f4,f5⟩:=hf it (by simp);have en:(xs.length:Int) - 1 - (i:Nat)= -1:=by lia
  rw[en] at st;exact wpAny_pyNext_rev_end (I.ok.hd hc) st λh' eb=>⟨rfl,I.turned (t':=s.toks) (λb o hb e=>eb b o hb e) f0 f1 f3 f4 f5⟩
 self:=λ_ _ _ _ _ st h=>wpAny_pyIter_revIter st.2 h
section
variable {X:Cx}
def iRev (K:QA)(te:TE):TI:=fun σ H R=>te σ H λx H1=>∃(p:Addr)(xs:QR),x=.ref p/\SqL K H1 p xs/\R (Itv K p xs) H1
def zsh {p pos:Pos}(hg:Gl X "reversed") (hm:X.mg "reversed" =none) (he:PE X a te) (hs:starEach [a] X.env=[(false,eval a X.env)]:=by rfl):
  PI X tg (.Call (.Name "reversed" p) [a] [] pos) (iRev X.K te):=by
 intro pins s σ H R I h;refine wpAny_Call_Name_kw (zce I hg hm (show bootBuiltins "reversed" =some (.type "reversed") from by rfl) ?_ (by decide) (by decide));refine PyProof.Rows.callWith_type1 ?_ hs rfl;rw[hs];show wpAny _ _ (spliced ((false,eval a X.env)::[])) _ _ s;refine Calls.spliced_cons (thn (he pins s σ H _ I h) λu t1 ⟨x,H1,I1,r1,p,ys,ex,hq,q⟩=>Calls.spliced_nil ?_);subst ex;cases (show u=Value.ref p from r1);obtain⟨its,rv,pl,hz⟩:=I1.list hq;have hlen:=rv.length;refine call_reversed_list pl.isList ?_;have hri:(t1.heap.push (revObj p ((its.toArray.size:Int) - 1))).IsRevIter t1.heap.objs.size p ((ys.length:Int) - 1 - ((0:Nat):Int)):=⟨_,JJ _ rfl,rfl,by rw[JG,<-hlen];simp[revObj]⟩;refine wpAny_pyIter_revIter (s:={t1 with heap:=t1.heap.push (revObj p ((its.toArray.size:Int) - 1))}) hri ?_;refine⟨t1.heap.objs.size,[t1.heap.objs.size],_,_,H1,rfl,I1.kept (t':=t1.toks) λb o e=>JC _ e,znC p _,⟨JM _,hri⟩,λb hb=>?_,q⟩;have e:b=t1.heap.objs.size:=by simpa using hb
 subst e;exact I1.fpOk (Jb _) (I1.hok.fresh (Jb _))
def zhY {K:QA}{p:Addr}{xs:QR}{g:TG}{tb:TS}{D:Ends}{σ:St}{H:Hp}(Pv:Nat->St->Hp->Prop)(h0:Pv 0 σ H)(hl:∀i σ H,Pv i σ H->SqL K H p xs)
  (hs:∀i x σ H,i < xs.length->xs.reverse[i]? =some x->Pv i σ H->g x σ H fun σ2 H2=>tb {D with nx:=Pv (i+1),ct:=Pv (i+1),bk:=D.nx} σ2 H2) (hd:∀σ H,Pv xs.length σ H->D.nx σ H):
  ∃W:Nat->Nat->St->Hp->Prop,(∃m,W 0 m σ H)/\∀i m σ H,W i m σ H->
   ((Itv K p xs).stop i H/\D.nx σ H)\/((Itv K p xs).go i H/\∃N:St->Hp->Prop,(∀σ' H',N σ' H'->∃m',m' < m/\W (i+1) m' σ' H')/\∀x H',(Itv K p xs).yld i H x H'->g x σ H' fun σ2 H2=>tb {D with nx:=N,ct:=N,bk:=D.nx} σ2 H2):=by
 refine⟨λi m σ H=>m=xs.length - i/\i<=xs.length/\Pv i σ H,⟨_,rfl,JM _,h0⟩,?_⟩;rintro i m σ H ⟨rfl,hi,p⟩;have q:=hl i σ H p;by_cases hlt:i < xs.length
 ·refine .inr ⟨⟨q,hlt⟩,Pv (i+1),fun σ' H' p'=>⟨_,by lia,rfl,hlt,p'⟩,λx H' y=>?_⟩;obtain⟨rfl,e1⟩:=y;exact hs i x σ _ hlt e1 p
 ·have e:i=xs.length:=by lia
  subst e;exact .inl ⟨⟨q,Jb _⟩,hd σ H p⟩
end
end L2
namespace L2
open PySem PySem.Spec PyProof.Rows
def Ite (K:QA)(p:Addr)(xs:QR):It:=
 ⟨λn H=>SqL K H p xs/\n < xs.length,λn H v H'=>∃(T:Addr)(x:V),H T=none/\xs[n]? =some x/\v=.ref T/\H'=upd H T (.tup [.int n,x]),λn H=>SqL K H p xs/\xs.length<=n⟩
def zlV {P:Program}{w:World}{K:QA}{elts:List Expr}{x1:Nat}{tpos:Pos}{e i p:Addr}{xs:QR}(D:e≠i):
  Turn P w K (.Tuple elts x1 tpos) (Ite K p xs) [e,i] e (λn h=>(∃old,IsEnum h e i (n:Int) old)/\h.IsListIter i p n) where
 mem:=by simp
 obj:=λn h st b hb=>by
  obtain⟨⟨old,he⟩,⟨r1,e1,_,d1⟩⟩:=st;simp only[JD,JN,or_false] at hb;rcases hb with rfl | rfl
  ·exact⟨_,he,λv z=>by cases z⟩
  ·exact⟨_,e1,λv z=>by rw[d1] at z;cases z⟩
 keep:=λn h h' st kp=>by obtain⟨⟨old,he⟩,⟨r1,e1,x1⟩⟩:=st;exact⟨⟨old,kp e (by simp) _ he⟩,⟨r1,kp i (by simp) _ e1,x1⟩⟩
 item:=by
  intro X hP hw hK hc n pins s σ H E I hf st hg;subst hP hw hK;obtain⟨hp,hn⟩:=hg;obtain⟨⟨old,he⟩,hi⟩:=st;obtain⟨its,r1,T1,z1⟩:=I.list hp;have hx:xs[n]? =some xs[n]:=JB hn;obtain⟨v1,e1,q1⟩:=r1.get hx;have fe:=hf e (by simp);have fi:=hf i (by simp);refine wpAny_pyNext_enum_item he hi T1.isList (x:=v1) (by simpa using e1) D λg eo ig new sz up=>?_;have hT:H s.heap.objs.size=none:=I.hok.fresh (Jb _);have inch:∀{b:Addr},H b≠none->b≠e/\b≠i:=λ{b} h=>⟨λz=>h (by rw[z];exact fe.1),λz=>h (by rw[z];exact fi.1)⟩;have hok:HOk X.prog X.w (upd H s.heap.objs.size (.tup [.int n,xs[n]])) g:=λb u e=>by
   by_cases hb:b=s.heap.objs.size
   ·subst hb;rw[za] at e;cases e;refine⟨by simp only[JK,Nx];rw[sizeLine_eq];decide,[.int n s.toks,v1],.cons ⟨_,rfl⟩ (.cons q1 .nil),⟨_,new,rfl,_,rfl⟩⟩
   ·rw[zc hb] at e;refine(I.hok b u e).stay (λc r hc q=>?_) (λc q=>by rw[zc (zd q hT)];exact q) λc ys q=>by rw[zc (zd q hT)];exact q
    have hne:H c≠none:=by
     rcases hc with rfl | hc
     ·rw[e];intro z;cases z
     ·rw[hc];intro z;cases z
    obtain⟨c1,c2⟩:=inch hne;exact up c r c1 c2 q
  have I1:Inv X pins σ (upd H s.heap.objs.size (.tup [.int n,xs[n]])) {s with heap:=g,toks:=s.toks+1}:=by
   refine I.step (g':=s.gens) (d':=s.drawn) (t':=s.toks+1) (ch:=[e,i]) (λb hb=>?_) (λb r _ _ hc e _=>?_) (λb r _ _ hc e _=>⟨r.slots,?_⟩) (λb r hc e hn=>?_) (λb r hc e=>⟨r,?_⟩) (λb ys e=>by rw[zc (zd e hT)];exact e)
    (λb r ys e=>by rw[zc (zd e hT)];exact e) (λb ps e=>⟨#[],by rw[zc (zd e hT),e];simp⟩) (λm hm=>?_) hok I.bare
   ·simp only[JD,JN,or_false] at hb;rcases hb with rfl | rfl
    ·exact⟨fe.2.2.2.1,fe.2.1,fe.2.2.2.2.1,fe.2.2.2.2.2⟩
    ·exact⟨fi.2.2.2.1,fi.2.1,fi.2.2.2.2.1,fi.2.2.2.2.2⟩
   ·simp only[JD,JN,or_false,not_or] at hc;exact up b r hc.1 hc.2 e
   ·simp only[JD,JN,or_false,not_or] at hc;exact up b r hc.1 hc.2 e
   ·rw[zc (Jk (JF e))];exact hn
   ·simp only[JD,JN,or_false,not_or] at hc;exact up b r hc.1 hc.2 e
   ·obtain⟨r,es,ep,er,d⟩:=hm;exact⟨r,es,ep,up _ r (Ne.symm fe.2.1) (Ne.symm fi.2.1) er,d⟩
  have le:e < s.heap.objs.size:=JF he;have hfp:∀b∈ [e,i],upd H s.heap.objs.size (.tup [.int n,xs[n]]) b=none:=λb hb=>by
   have fb:=hf b hb;have lt:b < s.heap.objs.size:=by
    obtain⟨r1,e1,_⟩:=hi;simp only[JD,JN,or_false] at hb;rcases hb with rfl | rfl
    ·exact le
    ·exact JF e1
   rw[zc (Jk lt)];exact fb.1
  refine⟨_,rfl,wpAny_letOwnedTupleGo_enum eo λg2 e2 s2=>?_⟩;refine⟨.ref s.heap.objs.size,_,I1.turned (it:=e) (t':=s.toks+1) (λb r hb q=>s2.extBut _ _ hb q) (hfp e (by simp)) fe.2.1 fe.2.2.2.1 fe.2.2.2.2.1 fe.2.2.2.2.2,rfl,⟨_,_,hT,hx,rfl,rfl⟩,⟨⟨_,e2⟩,ig.extBut s2.extBut (Ne.symm D)⟩,hfp⟩
 done:=by intro X hP hw hK hc n pins s σ H E I hf st hg;subst hP hw hK;obtain⟨hp,hn⟩:=hg;obtain⟨⟨old,he⟩,hi⟩:=st;obtain⟨its,r1,T1,z1⟩:=I.list hp;have fi:=hf i (by simp);have l1:=r1.length;refine wpAny_pyNext_enum_end (I.ok.hd hc) he hi T1.isList (by simp;lia) λg up=>⟨rfl,?_⟩;exact I.turned (it:=i) (t':=s.toks) up fi.1 fi.2.1 fi.2.2.2.1 fi.2.2.2.2.1 fi.2.2.2.2.2
 self:=λ_ _ _ _ _ st h=>by obtain⟨⟨old,he⟩,hi⟩:=st;exact wpAny_pyIter_enum he h
section
variable {X:Cx}
def zty (K:QA)(ta:TA):TI:=fun σ H R=>ta σ H λvs H1=>∃(p:Addr)(xs:QR),vs=[.ref p]/\SqL K H1 p xs/\R (Ite K p xs) H1
def zqo {elts:List Expr}{x1:Nat}{tpos:Pos}{a:Expr}{p pos:Pos}(hg:Gl X "enumerate") (hm:X.mg "enumerate" =none) (ha:PA X [a] ta) (hs:starEach [a] X.env=[(false,eval a X.env)]:=by rfl):
  PI X (.Tuple elts x1 tpos) (.Call (.Name "enumerate" p) [a] [] pos) (zty X.K ta):=by
 intro pins s σ H R I h;refine Call_ (zce I hg hm (u:=.type "enumerate") (by rfl) (PyProof.Rows.callWith_type1 (thn (ha pos pins s σ H _ I h) λus s1 ⟨vs,H1,I1,r1,q1⟩=>?_) (by rw[hs];rfl) rfl));obtain⟨p1,xs,rfl,hp,q⟩:=q1;obtain⟨u,rfl,ru⟩:=Vals.one r1;cases (show u=Value.ref _ from ru);obtain⟨its,r1,T1,z1⟩:=I1.list hp;refine call_enumerate_list T1.isList λg eg ig sz up=>wpAny_pyIter_enum eg ?_;refine⟨_,_,_,_,H1,rfl,I1.kept (t':=s1.toks) up,zlV (show s1.heap.objs.size+1≠s1.heap.objs.size by lia),⟨⟨_,eg⟩,ig⟩,λb hb=>?_,q⟩;have hb':s1.heap.objs.size<=b:=by
  simp only[JD,JN,or_false] at hb;rcases hb with rfl | rfl
  ·exact JA _ _
  ·exact Jb _
 exact I1.fpOk hb' (I1.hok.fresh hb')
def zov {K:QA}{p:Addr}{xs:QR}{g:TG}{tb:TS}{D:Ends}{σ:St}{H:Hp}(Pv:Nat->St->Hp->Prop)(h0:Pv 0 σ H)(hl:∀i σ H,Pv i σ H->SqL K H p xs)
  (hs:∀i x T σ H,xs[i]? =some x->H T=none->Pv i σ H->g (.ref T) σ (upd H T (.tup [.int i,x])) fun σ2 H2=>tb {D with nx:=Pv (i+1),ct:=Pv (i+1),bk:=D.nx} σ2 H2) (hd:∀σ H,Pv xs.length σ H->D.nx σ H):
  ∃W:Nat->Nat->St->Hp->Prop,(∃m,W 0 m σ H)/\∀i m σ H,W i m σ H->
   ((Ite K p xs).stop i H/\D.nx σ H)\/((Ite K p xs).go i H/\∃N:St->Hp->Prop,(∀σ' H',N σ' H'->∃m',m' < m/\W (i+1) m' σ' H')/\∀x H',(Ite K p xs).yld i H x H'->g x σ H' fun σ2 H2=>tb {D with nx:=N,ct:=N,bk:=D.nx} σ2 H2):=by
 refine⟨λi m σ H=>m=xs.length - i/\i<=xs.length/\Pv i σ H,⟨_,rfl,JM _,h0⟩,?_⟩;rintro i m σ H ⟨rfl,hi,p⟩;have q:=hl i σ H p;by_cases hlt:i < xs.length
 ·refine .inr ⟨⟨q,hlt⟩,Pv (i+1),fun σ' H' p'=>⟨_,by lia,rfl,hlt,p'⟩,λx H' y=>?_⟩;obtain⟨T,a,hT,e1,rfl,rfl⟩:=y;exact hs i a T σ H e1 hT p
 ·have e:i=xs.length:=by lia
  subst e;exact .inl ⟨⟨q,Jb _⟩,hd σ H p⟩
end
end L2
namespace Pv
open PySem L2
open Tr
def inR (a b:Th)(p:Th ×Th):Bool:=(decide (a=.non) || !zb p.1 a) && (decide (b=.non) || zb p.1 b)
def rng (a b:Th)(ps:QH):List (Th ×Th):=ps.filter (inR a b)
def zcf (a b:Th):Bool:= !decide (a=.non) && (!decide (b=.non) && !zb a b)
def zbc (a k:Th):Bool:=decide (a=.non) || zb a k
def zbd (b k:Th):Bool:=decide (b=.non) || zb k b
def Tr.ca (x:Th):Tr->Nat
 | nil=>0
 | node l k _ r=>if k=x then l.cnt else if zb k x=true then l.cnt+1+r.ca x else l.ca x
def Abv:Tr->Prop
 | nil=>True
 | node l k _ r=>(∀p∈l.ps,z9 k p.1=true)/\(∀p∈r.ps,z9 k p.1=true)/\Abv l/\Abv r
def Tr.joinT:Tr->Tr->Tr
 | nil,R=>R
 | node l k w r,nil=>node l k w r
 | node l k w r,node l' k' w' r'=>if z9 k k'=true then node l k w (joinT r (node l' k' w' r')) else node (joinT (node l k w r) l') k' w' r'
 termination_by L R=>sizeOf L+sizeOf R
theorem zmm (L:Tr):joinT L nil=L:=by
 cases L with
 | nil=>rw[joinT]
 | node l k w r=>rw[joinT]
theorem zeT:∀(L R:Tr),(joinT L R).ps=L.ps++R.ps
 | nil,R=>by rw[joinT];rfl
 | node l k w r,nil=>by rw[joinT];exact(JP _).symm
 | node l k w r,node l' k' w' r'=>by
  rw[joinT];by_cases c:z9 k k'=true
  ·rw[if_pos c];show l.ps++(k,w)::(joinT r (node l' k' w' r')).ps=(l.ps++(k,w)::r.ps)++_;rw[zeT r (node l' k' w' r')];simp
  ·rw[if_neg c];show(joinT (node l k w r) l').ps++(k',w')::r'.ps=_++(l'.ps++(k',w')::r'.ps);rw[zeT (node l k w r) l'];simp
 termination_by L R=>sizeOf L+sizeOf R
def Tr.cutT (x:Th)(T:Tr):Tr:=
 match own x T with
 | nil=>T
 | node l _ _ r=>plug x (wl x T - 1) T (joinT l r)
def offP (ps:QH)(x:Th):List (Th ×Th):=ps.filter λp=>!eqT p.1 x
def zrN {p x:Th}(h:p≠x):(!eqT p x)=true:=by
 cases z:eqT p x with
 | true=>exact Jf ((zV p x).mp z) h
 | false=>rfl
def zcN {ps:QH}{x:Th}(h:∀p∈ps,p.1≠x):offP ps x=ps:=List.filter_eq_self.mpr λp hp=>zrN (h p hp)
def zsm {T:Tr}(hs:Srt T.ps):(cutT x T).ps=offP T.ps x:=by
 unfold cutT;cases z:own x T with
 | nil=>exact(zcN (ze1 hs z)).symm
 | node l k v r=>
  obtain⟨rfl,n,ew,u,d⟩:=zbH z;show(plug k (wl k T - 1) T (joinT l r)).ps=_;rw[ew,Nat.add_sub_cancel];obtain⟨A,B,e1,e2,e3,e4⟩:=zcd hs u;obtain⟨_,_,h3,h4⟩:=zbM (d ▸ zci hs);rw[e1,zeT]
  conv=>rhs;rw[e2,d]
  unfold offP;rw[Nu,Nu];have nA:∀p∈A,p.1≠k:=λp hp e=>by have:=e3 p hp;rw[e,zB] at this;cases this
  have nB:∀p∈B,p.1≠k:=λp hp e=>by have:=e4 p hp;rw[e,zB] at this;cases this
  have nl:∀p∈l.ps,p.1≠k:=λp hp e=>by have:=h3 p hp;rw[e,zB] at this;cases this
  have nr:∀p∈r.ps,p.1≠k:=λp hp e=>by have:=h4 p hp;rw[e,zB] at this;cases this
  have:=zcN nA;have hA:A.filter (λp=>!eqT p.1 k)=A:=zcN nA;have hB:B.filter (λp=>!eqT p.1 k)=B:=zcN nB;have hl:l.ps.filter (λp=>!eqT p.1 k)=l.ps:=zcN nl;have hr:r.ps.filter (λp=>!eqT p.1 k)=r.ps:=zcN nr;rw[hA,hB];show A++(l.ps++r.ps)++B=A++(l.ps++(k,v)::r.ps).filter (λp=>!eqT p.1 k)++B;rw[Nu,List.filter_cons,hl,hr,zap]
  rfl
end Pv
namespace L2
open PySem PySem.Spec PyProof.Rows Px
section
variable {M:Model}{A:Around}{E:QC}{s:Shared}{base:Heap}{env:Env}{outer:List Env}{L e T:Addr}{cls fl:Value}{od:QN}
def ztu {Q:QD}(hfr:A.frames=some (env::outer))(hl:s.heap.FunFrames base (env::outer))(hf:env.frame=some L)
  (t:Tb s.heap e cls od T fl)
  (h:∀h' T',(T'=T\/s.heap.objs.size<=T')->Tb h' e cls od T' (rawInt L)->Chg2 ((env::outer).filterMap (·.frame)) (λb=>b=e\/b=T) s.heap h'->Q () {s with heap:=h'}):
  wpAny M A (noteFrame (.ref e) env) Q E s:=by
 obtain⟨oe,vs,oT,ts,he,hc,ho,hd,h1,hTe,hT,hdT,h3⟩:=t;unfold noteFrame;simp only[hf];refine Ja (wpAny_field he hd h1 ?_);rw[if_pos (show(Value.ref T !=Value.none)=true from by simp)];refine Ja (wpAny_field hT hdT h3 ?_);by_cases q:(fl==rawInt L)=true
 ·rw[if_pos q];rw[eq_of_beq q] at h3;exact wpAny_pure (h s.heap T (.inl rfl) ⟨oe,vs,oT,ts,he,hc,ho,hd,h1,hTe,hT,hdT,h3⟩ ⟨Jb _,λ_ _ q _ _=>q,λ_ o q _ _=>⟨o.slots,q⟩⟩)
 rw[if_neg q];refine Ja (wpAny_setField hT hdT (J8.mp h3).1 ?_);have oth:∀b,b≠T->(s.heap.update T (Obj.mapFields (·.setIfInBounds 3 Value.none))).get? b=s.heap.get? b:=λb hb=>JW _ _ (Ne.symm hb);have apart:∀b o,s.heap.get? b=some o->(∀vs,o.data≠ .fields vs)->b≠T:=λb o hb hn q=>by subst q;exact hn ts (by rw[<-JO (hT.symm.trans hb)];exact hdT)
 refine entry (s:={s with heap:=s.heap.update T (Obj.mapFields (·.setIfInBounds 3 Value.none))}) hfr
  (hl.of_keeps λb o hb hn=>⟨o,(oth b (apart b o hb hn)).trans hb,rfl⟩) hf ((oth e (Ne.symm hTe)).trans he) hd (J8.mp h1).1 λh' T' z1 z2 z3=>?_
 have z1':s.heap.objs.size<=T':=by rw[<-Nc s.heap T (Obj.mapFields (·.setIfInBounds 3 Value.none))];exact z1
 rw[hc,ho] at z2;have nT':∀b o,s.heap.get? b=some o->b≠T':=λb o q1 q=>Jf (JF q1) (Nat.not_lt.mpr (q ▸ z1'));refine h h' T' (.inr z1') z2 ⟨?_,λb o q1 q2 q3=>?_,λb o q1 q2 q3=>?_⟩
 ·rw[<-Nc s.heap T (Obj.mapFields (·.setIfInBounds 3 Value.none))];exact z3.size
 ·exact z3.keep b o ((oth b λy=>q3 (.inr y)).trans q1) q2 (λy=>q3 (.inl y)) (nT' b o q1)
 ·exact z3.slot b o ((oth b λy=>q3 (.inr y)).trans q1) q2 (λy=>q3 (.inl y)) (nT' b o q1)
def zr9 {Q:QD}(hfr:A.frames=some (env::outer))(hl:s.heap.FunFrames base (env::outer))(hf:env.frame=some L)
  (t:Tb s.heap e cls od T fl)
  (h:∀h' T',(T'=T\/s.heap.objs.size<=T')->Tb h' e cls od T' .none->Chg2 ((env::outer).filterMap (·.frame)) (λb=>b=e\/b=T) s.heap h'->Q () {s with heap:=h'}):
  wpAny M A (leaving env (.ref e)) Q E s:=by
 unfold leaving;refine Ja (ztu hfr hl hf t λg T' z t1 c=>?_);refine zem (s:={s with heap:=g}) (fs:=(env::outer).filterMap (·.frame)) t1 λh' t' c' k=>h h' T' z t' ?_;have bT:∀b o,s.heap.get? b=some o->¬(b=e\/b=T)->b≠T':=λb o q m y=>by
  rcases z with z | z
  ·exact m (.inr (y.trans z))
  ·subst y;rw[JT z] at q;cases q
 refine⟨Jg c.size c'.size,λb o q a m=>?_,λb o q a m=>?_⟩
 ·exact k b o (c.keep b o q a m) (bT b o q m)
 ·obtain⟨sl,y⟩:=c.slot b o q a m;exact⟨sl,k b _ y (bT b o q m)⟩
def zp0 {α:Type}{Q:α->Shared->Prop}(t:Tb s.heap e cls od T fl)
  (h:∀h' fl',Tb h' e cls od T fl'->s.heap.objs.size<=h'.objs.size->(∀b o,s.heap.get? b=some o->b≠T->h'.get? b=some o)->E (.ref e) {s with heap:=h'}):wpAny M A (passOn what (.ref e) env:Sem α) Q E s:=by
 obtain⟨oe,vs,oT,ts,he,hc,ho,hd,h1,hTe,hT,hdT,h3⟩:=t;have z3:3 < ts.size:=(J8.mp h3).1;unfold PySem.passOn;refine Ja (wpAny_field he hd h1 ?_);rw[if_neg (show¬(Value.ref T==Value.none)=true from by simp)];refine Ja ?_;unfold setFlight;refine Ja (wpAny_field he hd h1 ?_);rw[if_pos (show(Value.ref T !=Value.none)=true from by simp)];generalize env.frame.elim Value.none (λf=>rawInt f)=fl';have oth:∀b,b≠T->(s.heap.update T (Obj.mapFields (·.setIfInBounds 3 fl'))).get? b=s.heap.get? b:=λb hb=>JW _ _ (Ne.symm hb);have dd:=Obj.data_mapFields hdT (·.setIfInBounds 3 fl');refine wpAny_setField hT hdT z3 (wpAny_throw (h _ fl' ⟨oe,vs,_,_,(oth e (Ne.symm hTe)).trans he,hc,ho,hd,h1,hTe,JU _ hT (Obj.isFreed_of_fields dd),dd,by simp[z3]⟩ ?_ λb o q1 q4=>(oth b q4).trans q1));rw[Nc];exact Jb _
end
def Un.chgE (u:Un fs ex H H' h h')(c:Chg2 fs' own h' h2)(hfs:∀b ob,h.get? b=some ob->b∈fs'->b∈fs)
  (nw:∀b,own b->b∈ex\/h.get? b=none\/(H b≠none/\∃o',h2.get? b=some o')):Un fs ex H H' h h2:=by
 have no:∀b ob,h.get? b=some ob->H b=none->b∉ex->¬own b:=λb ob q n x z=>by
  rcases nw b z with y | y | y
  ·exact x y
  ·rw[y] at q;cases q
  ·exact y.1 n
 refine⟨λb ob q n hb hx=>c.keep b ob (u.keep b ob q n hb hx) (λz=>hb (hfs b ob q z)) (no b ob q n hx),λb ob q n hb hx=>?_,u.free,λb ob q hx=>?_,u.tups,u.frzs,u.tbls⟩
 ·obtain⟨sl,e⟩:=u.slot b ob q n hb hx;by_cases z:b∈fs'
  ·obtain⟨s2,e2⟩:=c.slot b _ e z (no b ob q n hx);exact⟨s2,e2⟩
  ·exact⟨sl,c.keep b _ e z (no b ob q n hx)⟩
 ·obtain⟨o',e⟩:=u.there b ob q hx;by_cases y:own b
  ·rcases nw b y with z | z | z
   ·exact Jf z hx
   ·rw[z] at q;cases q
   ·exact z.2
  ·by_cases z:b∈fs'
   ·obtain⟨s2,e2⟩:=c.slot b _ e z y;exact⟨_,e2⟩
   ·exact⟨_,c.keep b _ e z y⟩
def zdu (X:Cx)(E:XK):Prop:=∀(pins:QE)(σ:St)(H:Hp)(s:Shared)(ea:Addr)(cls:Value)(od:QN)(T:Addr)(fl:Value),Inv X pins σ H s->Tb s.heap ea cls od T fl->(X.s₀.heap.get? ea=none\/X.H₀ ea≠none)->X.s₀.heap.get? T=none->H ea=none->H T=none->E cls od H->X.xe (.ref ea) s
section
variable {P:Program}{w:World}{K:QA}{mg:QB}{base:Heap}{N:QQ}{qual:Str}{scope:Scope}{f:Addr}{cd:Value}{A:Around}{outer:List Env}{s₀:Shared}{H₀:Hp}{E:XK}
def zjf:zdu (cxOf (CX1 P w) P w K mg base N qual scope f cd A outer s₀ H₀ E) E:=by
 intro pins σ H s ea cls od T fl I tb old nT u1 u2 q;show wpAny (model P w) (A.deeper _) (leaving _ (.ref ea)) _ _ s;refine zr9 (base:=base) I.ok.frames I.stack rfl tb λh' T' z tb' c=>?_;have te:∃o',h'.get? ea=some o':=let ⟨oe,_,_,_,y,_⟩:=tb';⟨oe,y⟩;have nT':s₀.heap.get? T'=none:=by
  rcases z with z | z
  ·rw[z];exact nT
  ·exact zah I.base (by intro z;cases z) (JT z)
 refine⟨ea,cls,od,H,T',rfl,I.os,I.bare,?_,?_,tb',old,nT',u1,?_,q⟩
 ·refine I.base.chg (fs':=frs (envOfC qual scope s₀.heap.objs.size f cd::outer)) c (λb ob q1 q2=>?_) λb y=>?_
  ·have lt:=JF q1;rcases JD.mp (I.stkSub b q2) with y | y
   ·exact Jf lt (by rw[y];exact Nat.not_lt.mpr (Jb _))
   ·exact y
  ·rcases y with y | y
   ·subst y;rcases old with y | y
    ·exact .inl y
    ·exact .inr ⟨y,te⟩
   ·subst y;exact .inl nT
 ·refine I.hok.chg c (λb y=>?_) I.stkFree;rcases y with y | y
  ·rw[y];exact u1
  ·rw[y];exact u2
 ·rcases z with z | z
  ·rw[z];exact u2
  ·exact I.hok.fresh z
end
def xeC (E:XK)(X:Cx)(N:QQ)(scope:Scope)(cl:List (Str ×Addr))(s₀:Shared)(H₀:Hp)(ex:QP):Value->Shared->Prop:=λe s=>
 ∃(pins:QE)(σ:St)(H:Hp)(ea:Addr)(cls:Value)(od:QN)(T:Addr),e=.ref ea/\Inv (cxC X N scope cl s₀ H₀ ex) pins σ H s/\Tb s.heap ea cls od T .none/\(ea∉ex->s₀.heap.get? ea=none\/H₀ ea≠none)/\
  (T∉ex->s₀.heap.get? T=none)/\H ea=none/\H T=none/\E cls od H
abbrev cxE (E:XK)(X:Cx)(N:QQ)(scope:Scope)(cl:List (Str ×Addr))(s₀:Shared)(H₀:Hp)(ex:QP):Cx:=(cxC X N scope cl s₀ H₀ ex).wish (xeC E X N scope cl s₀ H₀ ex)
def zq5 {X:Cx}:zas (CX1 X.prog X.w) (cxE E X N scope cl s₀ H₀ ex) E:=by
 intro pins σ H s e s' I0 hc;obtain⟨ea,cls,od,H',T,rfl,os,bare,un,hok,tb,old,nT,u1,u2,q⟩:=hc;have I:=I0.call' os un hok bare (λb z=>nomatch z);refine⟨pins,σ,H',ea,cls,od,T,rfl,I.unwish,tb,λhx=>?_,λhx=>zah I0.base hx nT,u1,u2,q⟩;cases q1:s₀.heap.get? ea with
 | none=>exact .inl rfl
 | some ob=>
  refine .inr λn=>?_;rcases old with y | y
  ·have y':s₀.heap.get? ea=none:=zah I0.base hx y;rw[y'] at q1;cases q1
  ·exact y (I0.base.free ea ob q1 n hx)
def zqU (X:Cx)(H2:Hp)(s2:Shared)(fp:QP)(E:XK)(C ea:Addr)(s':Shared):Prop:=∃(H':Hp)(cls:Value)(od:QN)(T:Addr)(fl:Value)(m:QB),s2.heap.objs.size<=C/\s'.heap.Ns C m/\H' C=none/\s'.os=s2.os/\AllBare s'.gens/\
 Un (frs X.stack) fp H2 H' s2.heap s'.heap/\HOk X.prog X.w H' s'.heap/\Tb s'.heap ea cls od T fl/\(X.s₀.heap.get? ea=none\/X.H₀ ea≠none)/\s2.heap.objs.size<=T/\H' ea=none/\H' T=none/\(∀b∈frs X.stack,H' b=none)/\E cls od H'
section
variable {X:Cx}{x:Str}{ys:QQ}{js:List Nat}{scope:Scope}{cl:List (Str ×Addr)}{pins:QE}{σ:St}{H:Hp}{s:Shared}{E:XK}
def zpM {fp:QP}(hN:zdu X E)(I2:Inv X pins σ H2 s2)(f2:∀b∈fp,FpOk X pins H2 b)(h:zqU X H2 s2 fp E C ea s'):
  compPost (model X.prog X.w) X.A X.xe use Q acc C (.error (.ref ea)) s':=by
 obtain⟨H',cls,od,T,fl,m,hC,hn,fC,os,bare,U,hok,tb,old,hT,u1,u2,fr,q⟩:=h
 suffices g:∃m,s'.heap.Ns C m/\∀h',Heap.SameBut C s'.heap h'->∀cenv:Env,cenv.locals=C->wpAny (model X.prog X.w) X.A (passOn "comprehension.variables-let-go" (.ref ea) cenv:Sem Value) (λ_ _=>False) X.xe {s' with heap:=h'} by cases use <;> exact g
 refine⟨m,hn,λh' hb cenv _=>?_⟩;obtain⟨oC,es,ep,ho,hd,_⟩:=hn;obtain⟨oe,vs,oT,ts,he,hc,hod,hde,h1,hTe,gT,hdT,h3⟩:=tb;have nC:∀{b:Addr}{o:Obj}{vs:Array Value},s'.heap.get? b=some o->o.data=.fields vs->b≠C:=λ{b o vs} q1 q2 z=>by subst z;rw[ho] at q1;cases q1;rw[hd] at q2;cases q2
 have tb':Tb h' ea cls od T fl:=⟨oe,vs,oT,ts,hb.extBut _ _ (nC he hde) he,hc,hod,hde,h1,hTe,hb.extBut _ _ (nC gT hdT) gT,hdT,h3⟩;refine zp0 (s:={s' with heap:=h'}) tb' λh4 fl' t4 z4 k4=>?_;have c:Chg2 (frs X.stack) (λb=>b=C\/b=T) s'.heap h4:=
  ⟨Jg (Nat.le_of_eq hb.1.symm) z4,λb o q _ n=>k4 b o (hb.extBut b o (λy=>n (.inl y)) q) λy=>n (.inr y),λb o q _ n=>⟨o.slots,k4 b o (hb.extBut b o (λy=>n (.inl y)) q) λy=>n (.inr y)⟩⟩
 have U':Un (frs X.stack) fp H2 H' s2.heap h4:=U.chgE c (λ_ _ _ y=>y) λb y=>.inr (.inl (by
  rcases y with y | y
  ·rw[y];exact JT hC
  ·rw[y];exact JT hT))
 have O:HOk X.prog X.w H' h4:=hok.chg c (λb y=>by
  rcases y with y | y
  ·rw[y];exact fC
  ·rw[y];exact u2) fr
 have I4:Inv X pins σ H' {s' with heap:=h4}:=I2.call' (s':={s' with heap:=h4}) os U' O bare λb hb=>⟨(f2 b hb).2.2.2.1,(f2 b hb).2.1,(f2 b hb).2.2.2.2.1,(f2 b hb).2.2.2.2.2⟩;exact hN pins σ H' _ ea cls od T fl' I4 t4 old (JT (Jg I2.sz hT)) u1 u2 q
def zm4 {fp:QP}{s' s3:Shared}{R:Result->Shared->Prop}(hst:X.stack=X.env::X.outer)(hfm:X.env.frame=some X.env.locals)(hex:X.ex=[])
  (I2:Inv X pins σ H2 s2) (f2:∀b∈fp,FpOk X pins H2 b) (o3:s3.os=s2.os) (U0:Un (frs X.stack) fp H2 (upd H2 p (.lst [])) s2.heap s3.heap) (hp:s2.heap.objs.size<=p) (k3:∀b o,s2.heap.get? b=some o->s3.heap.get? b=some o) (z3:s2.heap.objs.size<=s3.heap.objs.size)
  (h:xeC E X (x::ys) scope cl s3 (upd H2 p (.lst [])) fp e s') (hR:∀ea s'',zqU X H2 s2 fp E s3.heap.objs.size ea s''->R (.error (.ref ea)) s''):
  notedBy (model X.prog X.w) X.A (compEnvC scope cl s3.heap.objs.size X.env) (λe s'=>R (.error e) s') e s':=by
 obtain⟨pins',σ',H',ea,cls,od,T,rfl,J,tb,old,nT,u1,u2,q⟩:=h;have I':Inv X pins σ H' s':=ziF I2 f2 U0 o3 J;show wpAny _ X.A (noteFrame (.ref ea) X.env) _ _ s';refine znK (base:=X.base) (by rw[<-hst];exact I'.ok.frames) (by rw[<-hst];exact I'.stack) hfm tb λh4 T' z t4 c=>?_;rw[show(X.env::X.outer).filterMap (·.frame)=frs X.stack from by rw[hst];rfl] at c;have U1:Un (frs X.stack) fp (upd H2 p (.lst [])) H' s3.heap s'.heap:=J.base;have U:Un (frs X.stack) fp H2 H' s2.heap s'.heap:=U0.trans U1;have sz:s2.heap.objs.size<=s'.heap.objs.size:=Jg z3 J.sz;have te:∃o',h4.get? ea=some o':=let ⟨oe,_,_,_,y,_⟩:=t4;⟨oe,y⟩;have old2:ea∈fp\/s2.heap.get? ea=none\/H2 ea≠none:=by
  by_cases hx:ea∈fp
  ·exact .inl hx
  ·refine .inr ?_;rcases old hx with y | y
   ·refine .inl ?_;cases q1:s2.heap.get? ea with
    | none=>rfl
    | some o=>rw[k3 _ _ q1] at y;cases y
   ·by_cases he:ea=p
    ·rw[he];exact .inl (JT hp)
    ·rw[zc he] at y;exact .inr y
 have nT2:T∈fp\/s2.heap.get? T=none:=by
  by_cases hx:T∈fp
  ·exact .inl hx
  ·refine .inr ?_;cases q1:s2.heap.get? T with
   | none=>rfl
   | some o=>have y:=nT hx;rw[k3 _ _ q1] at y;cases y
 have old0:X.s₀.heap.get? ea=none\/X.H₀ ea≠none:=by
  cases q1:X.s₀.heap.get? ea with
  | none=>exact .inl rfl
  | some ob=>
   have nx:∀{b},b∉X.ex:=by rw[hex];intro b y;cases y
   refine .inr λn=>?_;rcases old2 with y | y | y
   ·rcases(f2 ea y).2.2.2.1 with w | w
    ·exact nx w
    ·exact Jf (JF q1) (Nat.not_lt.mpr w)
   ·rw[zah I2.base nx y] at q1;cases q1
   ·exact y (I2.base.free ea ob q1 n nx)
 obtain⟨m,⟨oC,es,ep,ho,hd,r⟩,_⟩:=J.loc;have hC:s2.heap.objs.size<=s3.heap.objs.size:=z3;have nfr:s3.heap.objs.size∉frs X.stack:=λy=>by
  rcases JD.mp (I2.stkSub _ y) with w | w
  ·exact Jf I2.lt (Nat.not_lt.mpr (w ▸ hC))
  ·exact I2.nofs hC w
 have nE:s3.heap.objs.size≠ea:=λy=>by obtain⟨oe,vs,_,_,he,_,_,hde,_⟩:=tb;have e':=ho.symm.trans (show s'.heap.get? s3.heap.objs.size=some oe from by rw[y];exact he);cases e';rw[hd] at hde;cases hde
 have nTC:s3.heap.objs.size≠T:=λy=>by obtain⟨oe,vs,oT,ts,_,_,_,_,_,_,gT,hdT,_⟩:=tb;have e':=ho.symm.trans (show s'.heap.get? s3.heap.objs.size=some oT from by rw[y];exact gT);cases e';rw[hd] at hdT;cases hdT
 have c2:Chg2 (frs X.stack) (λb=>b=ea\/b=T) s'.heap h4:=c.two (.inl rfl) (.inl (.inr rfl));refine hR ea _ ⟨H',cls,od,T',_,m,hC,⟨oC,es,ep,c.keep _ _ ho nfr nE nTC,hd,r⟩,J.free,J.os.trans o3,J.bare,?_,?_,t4,old0,Jg sz z,u1,J.hok.fresh z,I'.stkFree,q⟩
 ·refine U.chgE c2 (λ_ _ _ y=>y) λb y=>?_;rcases y with y | y
  ·subst y;rcases old2 with w | w | w
   ·exact .inl w
   ·exact .inr (.inl w)
   ·exact .inr (.inr ⟨w,te⟩)
  ·subst y;rcases nT2 with w | w
   ·exact .inl w
   ·exact .inr (.inl w)
 ·refine J.hok.chg c2 (λb y=>?_) I'.stkFree;rcases y with y | y
  ·rw[y];exact u1
  ·rw[y];exact u2
variable {iter elt:Expr}{ifs:List Expr}{px pos:Pos}{wi:TI}{tt:TT}{te:TE}
def zqX (hst:X.stack=X.env::X.outer)(hfm:X.env.frame=some X.env.locals)(hex:X.ex=[])(hN:zdu X E)(S:zm X x ys js scope cl)(hc:X.calm=true)(ht:∀s₀ H₀ ex,PTs (cxC X (x::ys) scope cl s₀ H₀ ex) ifs tt)(he:∀s₀ H₀ ex,PE (cxE E X (x::ys) scope cl s₀ H₀ ex) elt te):CRun X x px iter elt ifs js scope cl pos tt te:=
 λI2 T st2 f2 _ q _ _ hR=>zgk (W:=λs₀ H₀ ex=>xeC E X (x::ys) scope cl s₀ H₀ ex) S hc ht he I2 T st2 f2 q hR λ_ _ e'=>
  zm4 hst hfm hex I2 f2 (by rfl) (Un.laid (λb u e=>JC _ e) (Jb _) (I2.hok.fresh (Jb _))) (Jb _) (λb o q=>JC _ q) (by rw[J2];exact Nat.le_succ _) e' λea s'' h=>zpM hN I2 f2 h
def zlQ (hst:X.stack=X.env::X.outer)(hfm:X.env.frame=some X.env.locals)(hex:X.ex=[])(hN:zdu X E)(S:zm X x ys js scope cl)(hc:X.calm=true)(hi:PI X (.Name x px) iter wi)(ht:∀s₀ H₀ ex,PTs (cxC X (x::ys) scope cl s₀ H₀ ex) ifs tt)(he:∀s₀ H₀ ex,PE (cxE E X (x::ys) scope cl s₀ H₀ ex) elt te)
  (hs:∀x,foldedSetIterable iter X.env x=pure x:=by intro _;rfl):PE X (.ListComp elt [⟨.Name x px,iter,ifs,0⟩] scope pos) (zgH wi js tt te):=
 zgM (zqX hst hfm hex hN S hc ht he) S hi hs
end
structure MkrX (P:Program)(w:World)(K:QA)(mg:QB)(base:Heap)(x:Str)(C:Addr)(k:Nat)(ps:QQ)(sp:Sp):Prop where
 ex:∃f fd,FnOk P w K mg base (CX1 P w) k f fd ps sp/\Binds K fd ps []/\Mk K C f/\mg x=some (.ref C)
section
variable {P:Program}{w:World}{K:QA}{mg:QB}{base:Heap}{x qual:Str}{C:Addr}{st:Stmt}{ps N:QQ}{sp:Sp}{k:Nat}
def Mkd.okX (D:Mkd K mg x C qual st ps)(S:zaj N ps (zo st))(hbody:BdX P w K mg base N qual st k sp)
  (len:∀vs H Q E,sp vs H Q E->vs.length=ps.length:=by intro vs H Q E h;cases h;subst_vars;rfl):MkrX P w K mg base x C (k+1) ps sp:=by
 obtain⟨f,fd,F,b,mk,mm⟩:=D.ex;exact⟨f,fd,F.okX S len (λcdv A outer s H vs Q E hr h=>hbody f cdv A outer s H vs Q E hr h),b,mk,mm⟩
variable {X:Cx}{CX:CXT}{f:Addr}{fd:FuncData}{k':Nat}{e:Expr}{es:List Expr}{t:TA}{p pos:Pos}{E:XK}{ES:St->XK}
variable {o:Expr}{to:TE}{name:Str}{apos cpos:Pos}{T id:String}{r:V->List V->Hp->VK->Prop}
def zaN (h:X.K=K):zal X (.builtin "isinstance") (zoK K):=h ▸ zhd
end
end L2
namespace Pv
open PySem L2 PySem.Spec PyProof.Rows
def truT:Th->Bool
 | .non=>false
 | .int i=>i !=0
 | .str z=>(z.length:Int) !=0
 | .tup ts=>!ts.isEmpty
inductive OrT (x:V)(H:Hp)(Q:L2.VK)(N:Prop):Prop
 | mk (t:Th)(_:Rep H t x)(_:Wf t)(_:truT t=true->Q x H)(_:truT t=false->N):OrT x H Q N
def tOrT (ta tb:TE):TE:=fun σ H Q=>ta σ H λx H1=>OrT x H1 Q (tb σ H1 Q)
section
variable {X:Cx}{a b:Expr}{rest:List Expr}{pos:Pos}{ta tb:TE}
def znH (ha:PE X a ta)(hb:PE X (.BoolOp .Or (b::rest) pos) tb):PE X (.BoolOp .Or (a::b::rest) pos) (tOrT ta tb):=by
 intro pins s σ H Q I h;refine BoolOp_or (thn (ha pins s σ H _ I h) λv s1 ⟨x,H1,I1,r1,q1⟩=>?_);obtain⟨t,rt,wt,q1,q2⟩:=q1;cases rt with
 | non=>cases (show v=Value.none from r1);unfold truthy;exact wpAny_pure (hb pins s1 σ H1 Q I1 (q2 rfl))
 | int i=>
  obtain⟨k,rfl⟩:=r1;refine PySem.P.truthy_int ?_;cases hz:i !=0 with
  | false=>exact hb pins s1 σ H1 Q I1 (q2 hz)
  | true=>exact⟨.int i,H1,I1,⟨k,rfl⟩,q1 hz⟩
 | str z=>
  obtain⟨k,rfl⟩:=r1;have hz:z.length<=60:=wt.1;refine PySem.P.truthy_str (by lia) ?_;cases hz:(z.length:Int) !=0 with
  | false=>exact hb pins _ σ H1 Q (I1.tok _) (q2 hz)
  | true=>exact⟨.str z,H1,I1.tok _,⟨k,rfl⟩,q1 hz⟩
 | @tup p xs ts e l hh=>
  cases (show v=Value.ref p from r1);obtain⟨its,r2,T,_⟩:=I1.tuple (SqT.of e);have n1:=r2.length;have hz:ts.length<=40:=wt.1;refine PyProof.Rows.truthy_tuple T (by rw[JG];lia) ?_;have ee:(!its.toArray.isEmpty)=truT (.tup ts):=by
   show _= !ts.isEmpty;rw[List.isEmpty_toArray];cases its with
   | nil=>cases ts with | nil=>rfl | cons _ _=>exact Jf l (by simp at n1;rw[n1];simp)
   | cons _ _=>cases ts with | nil=>exact Jf l (by simp at n1;simp[n1]) | cons _ _=>rfl
  rw[ee];cases hz:truT (.tup ts) with
  | false=>exact hb pins _ σ H1 Q (I1.tok _) (q2 hz)
  | true=>exact⟨.ref p,H1,I1.tok _,rfl,q1 hz⟩
end
end Pv
namespace Pv
open PySem L2
inductive TV (h:Heap):Th->Value->Prop
 | non:TV h .non .none
 | int (i:Int) (t:Tok):TV h (.int i) (.int i t)
 | str (x:Str) (t:Tok):TV h (.str x) (.str x t)
 | tup {a:Addr} {o:Obj} {items:Array Value} {n:Nat} {ts:List Th} (ho:h.get? a=some o) (hc:o.cls=.type "tuple") (hd:o.data=.seq items n) (l:items.size=ts.length)
   (k:∀(i:Nat)(u:Value)(t:Th),items[i]? =some u->ts[i]? =some t->TV h t u):TV h (.tup ts) (.ref a)
def TV.of (I:L2.Inv X pins σ H s)(r:Rep H t v):∀{u:Value},RelV v u->TV s.heap t u:=by
 induction r with
 | non=>intro u ru;cases (show u=Value.none from ru);exact .non
 | int i=>intro u ru;obtain⟨k,rfl⟩:=ru;exact .int i k
 | str x=>intro u ru;obtain⟨k,rfl⟩:=ru;exact .str x k
 | @tup a xs ts e l h ih=>
  intro u ru;cases (show u=Value.ref a from ru);obtain⟨_,its,rv,o,h1,h2,n,h3⟩:=(show zA X.prog X.w H s.heap a (.tup xs) from I.hok a _ e);have hl:=rv.length;refine .tup h1 h2 h3 (by rw[JG];lia) λi u t eu et=>?_;have hi:i < xs.length:=by have:=(JH.mp et).1;lia
  have ex:xs[i]? =some xs[i]:=JB hi;obtain⟨w,ew,rw'⟩:=rv.get ex;have:u=w:=by
   have e2:its[i]? =some u:=by simpa using eu
   rw[ew] at e2;exact(JO e2).symm
  subst this;exact ih i _ _ ex et rw'
theorem TV.inj (r:TV h t u):∀{t':Th},TV h t' u->t=t':=by
 induction r with
 | non=>intro t' q;cases q;rfl
 | int i k=>intro t' q;cases q;rfl
 | str x k=>intro t' q;cases q;rfl
 | @tup a o items n ts ho hc hd l k ih=>
  intro t' q;cases q with
  | @tup _ o' items' n' ts' ho' hc' hd' l' k'=>
   obtain rfl:o=o':=JO (ho.symm.trans ho');rw[hd] at hd';injection hd' with e1 _
   subst e1;congr 1;apply List.ext_getElem?;intro i;by_cases hi:i < ts.length
   ·have e1:ts[i]? =some ts[i]:=JB hi;have e2:ts'[i]? =some (ts'[i]'(by lia)):=JB (by lia);have e3:items[i]? =some (items[i]'(by lia)):=Array.getElem?_eq_getElem (by lia);rw[e1,e2,ih i _ _ e3 e1 (k' i _ _ e3 e2)]
   ·rw[JV (by lia),JV (by lia)]
def hsh (w:World):Th->Int
 | .non=>0xFCA86420
 | .int i=>hashInt i
 | .str x=>hashStr w x
 | .tup ts=>reduceHash (Builtin.Tuple.tupleHashOf (hshL w ts))
where hshL (w:World):List Th->List Int
 | []=>[]
 | t::ts=>hsh w t::hshL w ts
theorem ziJ (w:World):∀ts:List Th,hsh.hshL w ts=ts.map (hsh w)
 | []=>rfl
 | t::ts=>by show hsh w t::hsh.hshL w ts=hsh w t::ts.map (hsh w);rw[ziJ w ts]
section
variable {prog:Program}{w:World}{A:Around}{E:QC}{s:Shared}
def typeIs_none (s:Shared):s.TypeIs .none "NoneType" :=by
 first | rfl | trivial | exact⟨_,rfl⟩
def zlZ {Q:Int->Shared->Prop}(h:∀k,Q 0xFCA86420 {s with toks:=k}):wpAny (model prog w) A (pyHash .none) Q E s:=by
 unfold pyHash;have hv:[Value.none].any Value.onHeap=false:=rfl;unfold pyHashByItsType;refine Ja ?_;rw[cRoomFor,if_neg (by rw[hv];exact Jc)];refine wpAny_pure ?_;refine Ja (wpAny_specialOf (typeIs_none s) F.slot_NoneType_hash.lookup ?_);show wpAny _ _ (if (some (Value.builtin "NoneType.__hash__")==some Value.none)=true then _ else _) Q E s;rw[if_neg (by rw[beq_builtin_none];exact Jc)];refine Ja (wpAny_specialOf (typeIs_none s) F.slot_NoneType_hash.lookup ?_);show wpAny _ _ (callSpecialIfBoundUnlessNone? .none "__hash__" _ >>=_) Q E s;refine Ja (wpAny_callSpecialIfBoundUnlessNone?_slot (typeIs_none s) F.slot_NoneType_hash
  (wpAny_call_entry F.slot_NoneType_hash (typeIs_none s) F.entry_NoneType_hash (show wpAny _ _ (do ret (<-mkInt 0xFCA86420)) _ _ s from wpAny_ret_mkInt ?_) (F.args_NoneType_hash_1 _)))
 show wpAny _ _ (if (decide (-(2:Int) ^ 63<=0xFCA86420) && decide ((0xFCA86420:Int) < 2 ^ 63))=true then _ else _) Q E _;rw[if_pos (by decide+kernel)];exact wpAny_pure (h _)
def _root_.JR:=@List.map_append
def _root_.J1:=@List.take_length
def zh0 (r:TV s.heap t u):∀{A:Around}{E:QC}{Q:Int->Shared->Prop}{n:Nat},A.units+4 * dep t < cLine->(∀k,Q (hsh w t) {s with toks:=k})->wpAny (model prog w) A (pyHash u) Q E {s with toks:=n}:=by
 induction r with
 | non=>intro A E Q n _ h;exact zlZ λk=>h k
 | int i k=>intro A E Q n _ h;exact wpAny_pyHash_int (h _)
 | str x k=>intro A E Q n _ h;exact wpAny_pyHash_str (h _)
 | @tup a o items m ts ho hc hd l k ih=>
  intro A E Q n hu h;have hT:({s with toks:=n}:Shared).TypeIs (.ref a) "tuple" :=⟨o,ho,hc⟩;have hdep:dep (.tup ts)=depL ts+1:=rfl;unfold pyHash
  first | unfold pyHashByItsType | skip
  refine Ja (wpAny_cRoomFor_or (.inr (by lia)) ?_);refine Ja (wpAny_specialOf hT F.slot_tuple_hash.lookup ?_);show wpAny _ _ (if (some (Value.builtin "tuple.__hash__")==some Value.none)=true then _ else _) Q E _;rw[if_neg (by rw[beq_builtin_none];exact Jc)];refine Ja (wpAny_specialOf hT F.slot_tuple_hash.lookup ?_);show wpAny _ _ (callSpecialIfBoundUnlessNone? (.ref a) "__hash__" _ >>=_) Q E _;refine Ja (wpAny_callSpecialIfBoundUnlessNone?_slot hT F.slot_tuple_hash (wpAny_call_entry F.slot_tuple_hash hT F.entry_tuple_hash ?_ (F.args_tuple_hash_1 _)));show wpAny _ _ (Builtin.Tuple.tupleItemsOf (.ref a) >>=_) _ _ _;refine Ja (wpAny_tupleItemsOf (s:={s with toks:=n}) ho hd ?_);refine Ja ?_;rw[<-Array.forIn_toList];refine wpAny_forIn_list _
   (λrest (b:Array Int) s'=>∃(i:Nat)(n':Nat),i<=ts.length/\rest=items.toList.drop i/\b.toList=(ts.take i).map (hsh w)/\s'={s with toks:=n'})
   _ ?_ ?_ _ _ ⟨0,n,JM _,rfl,rfl,rfl⟩
  ·rintro x rest b s' ⟨i,n',hi,hr,hb,rfl⟩;have hil:i < items.toList.length:=by have:=congrArg List.length hr;rw[JK,Nj] at this;lia
   have hit:i < ts.length:=by rw[Nf] at hil;lia
   rw[Jo hil] at hr;injection hr with e1 e2
   have ex:items[i]? =some x:=by rw[e1,<-JZ];exact JB hil
   have et:ts[i]? =some ts[i]:=JB hit;have hdi:=zay et;refine Ja (ih i x _ ex et (A:=_) (by
    first
    | (show A.in1.units+4 * dep ts[i] < cLine;show A.units+1+4 * dep ts[i] < cLine;lia)
    | lia) λk'=>?_)
   first
    | exact wpAny_pure ⟨i+1,k',hit,e2,(by rw[Array.toList_push,hb,Na,et,JR];rfl),rfl⟩
    | exact Ja (wpAny_pure (wpAny_pure ⟨i+1,k',hit,e2,(by rw[Array.toList_push,hb,Na,et,JR];rfl),rfl⟩))
  ·rintro b s' ⟨i,n',hi,hr,hb,rfl⟩;have:i=ts.length:=by have:=congrArg List.length hr;rw[Nx,Nj,Nf] at this;lia
   subst this;rw[J1] at hb;have hQ:hsh w (.tup ts)=reduceHash (Builtin.Tuple.tupleHashOf (ts.map (hsh w))):=by show reduceHash (Builtin.Tuple.tupleHashOf (hsh.hshL w ts))=_;rw[ziJ]
   rw[hQ] at h;show wpAny _ _ (retInt (Builtin.Tuple.tupleHashOf b.toList)) _ _ _;rw[hb];refine wpAny_ret_mkInt ?_;show wpAny _ _ (if (decide (-(2:Int) ^ 63<=Builtin.Tuple.tupleHashOf (ts.map (hsh w))) && decide (Builtin.Tuple.tupleHashOf (ts.map (hsh w)) < 2 ^ 63))=true then _ else _) Q E _;unfold reduceHash at h;by_cases hr:(decide (-(2:Int) ^ 63<=Builtin.Tuple.tupleHashOf (ts.map (hsh w))) && decide (Builtin.Tuple.tupleHashOf (ts.map (hsh w)) < 2 ^ 63))=true
   ·rw[if_pos hr];simp only[if_pos hr] at h;exact wpAny_pure (h _)
   ·rw[if_neg hr];simp only[if_neg hr] at h;exact Ja (wpAny_rule (wpAny_pure (h _)))
end
open PySem.SeqAt in
section
variable {prog:Program}{w:World}{A:Around}{E:QC}{s:Shared}
def zjL:isSubtype (.type "tuple") (.type "tuple")=pure true:=by rw[isSubtype_type];kernel_rfl
def _root_.Nm:=@Bool.false_eq_true
def zkP (r:TV s.heap t u):∀{n:Nat}{A:Around}{E:QC}{Q:Bool->Shared->Prop},dep t<=n->Q true s->wpAny (model prog w) A (eqIsQuiet n u) Q E s:=by
 induction r with
 | non=>intro n A E Q _ h;rw[eqIsQuiet_byValue n rfl];exact wpAny_pure h
 | int i k=>intro n A E Q _ h;rw[eqIsQuiet_byValue n rfl];exact wpAny_pure h
 | str x k=>intro n A E Q _ h;rw[eqIsQuiet_byValue n rfl];exact wpAny_pure h
 | @tup a o items m ts ho hc hd l k ih=>
  intro n A E Q hn h;have hdep:dep (.tup ts)=depL ts+1:=rfl;cases n with
  | zero=>lia
  | succ n=>
  have hT:s.TypeIs (.ref a) "tuple" :=⟨o,ho,hc⟩;unfold eqIsQuiet;refine Ja (wpAny_specialOf hT F.slot_tuple_eq.lookup ?_);show wpAny _ _ (isInstance (.ref a) (.type "tuple") >>=_) _ _ s;refine Ja (wpAny_isInstance hT zjL ?_);simp only[Bool.not_true,Nm,if_false];refine Ja (wpAny_seqItems ho hd ?_);refine Ja ?_;show wpAny _ _ (forIn items _ _) _ _ s;rw[<-Array.forIn_toList];refine wpAny_forIn_list _ (λrest r s'=>r.1=none/\s'=s/\∃i,i<=ts.length/\rest=items.toList.drop i) _ ?_ ?_ _ _ ⟨rfl,rfl,0,JM _,rfl⟩
  ·rintro v rest r s' ⟨hr0,rfl,i,hi,hr⟩;have hil:i < items.toList.length:=by have:=congrArg List.length hr;rw[JK,Nj] at this;lia
   have hit:i < ts.length:=by rw[Nf] at hil;lia
   rw[Jo hil] at hr;injection hr with e1 e2
   have ex:items[i]? =some v:=by rw[e1,<-JZ];exact JB hil
   have et:ts[i]? =some ts[i]:=JB hit;have hdi:=zay et;refine Ja (ih i v _ ex et (n:=n) (by lia) ?_);simp only[Bool.not_true,Nm,if_false];exact wpAny_pure ⟨rfl,rfl,i+1,hit,e2⟩
  ·rintro⟨r1,r2⟩ s' ⟨hr,rfl,_⟩;simp only at hr;subst hr;exact wpAny_pure h
abbrev Ent:=Th ×Value ×Value
def entT (w:World)(x:Ent):DictEntry:=⟨hsh w x.1,x.2.1,x.2.2⟩
theorem zcB {es:Array DictEntry}{xs:List Ent}(he:es.toList=xs.map (entT w))(j:Nat):es[j]? =(xs[j]?).map (entT w):=by rw[<-JZ,he,JQ]
def zdE {es:Array DictEntry}{xs:List Ent}(he:es.toList=xs.map (entT w)):es.size=xs.length:=by rw[<-Nf,he,JE]
def zoM {xs:List Ent}(hn:(xs.map (·.1)).Nodup):∀{i j:Nat}{k:Th}{p q:Value ×Value},xs[i]? =some (k,p)->xs[j]? =some (k,q)->i=j:=by
 intro i j k p q hi hj;have hi':(xs.map (·.1))[i]? =some k:=by rw[JQ,hi];rfl
 have hj':(xs.map (·.1))[j]? =some k:=by rw[JQ,hj];rfl
 exact(List.getElem?_inj (JH.mp hi').1 hn).mp (hi'.trans hj'.symm)
def zoS {stored:QO}{Q:Bool->Shared->Prop}(hkey:TV s.heap t u)(h8:dep t<=8)(hst:∀v∈stored,∃t',TV s.heap t' v/\dep t'<=8)(h:Q false s):wpAny (model prog w) A (tableMayTell u stored) Q E s:=by
 unfold tableMayTell;split
 ·exact wpAny_pure h
 ·refine Ja (zkP hkey h8 ?_);simp only[Bool.not_true,Nm,if_false];refine Ja ?_;refine wpAny_forIn_list _ (λrest r s'=>s'=s/\r=(none,())/\∀v∈rest,∃t',TV s.heap t' v/\dep t'<=8) _ ?_ ?_ _ _ ⟨rfl,rfl,hst⟩
  ·rintro x rest r s' ⟨rfl,rfl,hr⟩;obtain⟨t',ht',h8'⟩:=hr x JL;refine Ja (zkP ht' h8' ?_);simp only[Bool.not_true,Nm,if_false];exact wpAny_pure ⟨rfl,rfl,λv hv=>hr v (Ji _ hv)⟩
  ·rintro r s' ⟨rfl,rfl,_⟩;exact wpAny_pure h
structure FK (w:World)(A:Around)(s:Shared)(d:Addr)(o:Obj)(es:Array DictEntry)(ep:Nat)(xs:List Ent)(t:Th)(key:Value):Prop where
 tv:TV s.heap t key
 h8:dep t<=8
 ho:s.heap.get? d=some o
 hd:o.data=.dict es ep
 he:es.toList=xs.map (entT w)
 is:∀x∈xs,TV s.heap x.1 x.2.1/\dep x.1<=8
 eq:∀x∈xs,EqAt A s x.2.1 key (eqT x.1 t)
 nd:(xs.map (·.1)).Nodup
variable {d:Addr}{o:Obj}{es:Array DictEntry}{ep:Nat}{xs:List Ent}{t:Th}{key:Value}{Q:Option Nat->Shared->Prop}
theorem FK.has (F:FK w A s d o es ep xs t key)(j:Nat)(p:Value ×Value)(hj:xs[j]? =some (t,p)):((es[j]?.map (·.hash))==some (hsh w t))=true:=by rw[zcB F.he j,hj];simp[entT]
def FK.mem (F:FK w A s d o es ep xs t key):∀e∈es,∃x∈xs,e=entT w x:=by intro e hin;have:e∈xs.map (entT w):=F.he ▸ Array.mem_toList_iff.mpr hin;obtain⟨x,hx,rfl⟩:=Nl.mp this;exact⟨x,hx,rfl⟩
def zsg (F:FK w A s d o es ep xs t key)(hnone:(∀(j:Nat)(p:Value ×Value),xs[j]? ≠some (t,p))->Q none s)(hsome:∀(j:Nat)(p:Value ×Value),xs[j]? =some (t,p)->Q (some j) s):
  wpAny (model prog w) A (dictWalkPlain d key (hsh w t) es (placesWithHash es.size (λi=>es[i]?.map (·.hash)) (hsh w t))) Q E s:=by
 have hsz:es.size=xs.length:=zdE F.he;refine Ja ?_;refine wpAny_forIn_list _
  (λrest b s'=>s'=s/\b=(none,())/\∃i,rest=(List.range' i (es.size - i)).filter (λi=>(es[i]?.map (·.hash))==some (hsh w t))/\i<=es.size/\
   ∀j p,j < i->xs[j]? ≠some (t,p)) _ ?_ ?_ _ _
  ⟨rfl,rfl,0,by rw[placesWithHash,List.range_eq_range',Nat.sub_zero],JM _,λ_ _ h=>Jf h (Nat.not_lt_zero _)⟩
 ·rintro x rest b s' ⟨rfl,rfl,i,hr,hi,hno⟩;obtain⟨hix,hxn,hpx,hskip,hrest⟩:=filter_range'_cons _ _ _ _ _ hr.symm;have hlt:x < es.size:=by lia
  have hxl:x < xs.length:=by lia
  obtain⟨⟨t',kv,v'⟩,hkv⟩:∃y,xs[x]? =some y:=⟨xs[x],JB hxl⟩;have hex:es[x]? =some ⟨hsh w t',kv,v'⟩:=by rw[zcB F.he x,hkv];rfl
  have hno':∀j p,j < x->xs[j]? ≠some (t,p):=λj p hjx hj=>by
   rcases Nat.lt_or_ge j i with h | h
   ·exact hno j p h hj
   ·have:=hskip j h hjx;rw[F.has j p hj] at this;exact Jf this (by decide)
  have hnext:¬t'=t->∃i,rest=(List.range' i (es.size - i)).filter (λi=>(es[i]?.map (·.hash))==some (hsh w t))/\i<=es.size/\∀j p,j < i->xs[j]? ≠some (t,p):=λhne=>
   ⟨x+1,by rw[hrest];congr 2;lia,hlt,λj p hji hj=>by
    rcases Nat.lt_or_ge j x with h' | h'
    ·exact hno' j p h' hj
    ·have:j=x:=by lia
     subst this;rw[hkv] at hj;injection hj with hj
     injection hj with hj
     exact hne hj⟩
  rw[hex];dsimp only;by_cases hh:(hsh w t'==hsh w t)=true
  ·rw[if_pos hh];refine Ja (wpAny_dictEpoch F.ho F.hd (Ja (F.eq _ (JX hkv) _ _ _ _ (Ja (wpAny_dictEpoch F.ho F.hd ?_)))));show wpAny _ _ (if (ep !=ep)=true then _ else _) _ E _;rw[if_neg (by simp)];cases z:eqT t' t with
   | true=>have:t'=t:=(zV t' t).mp z;subst this;exact Ja (wpAny_rule (wpAny_pure (wpAny_pure (hsome x _ hkv))))
   | false=>
    have hne:¬t'=t:=λe=>by rw[e,zap] at z;cases z
    exact Ja (wpAny_rule (wpAny_pure ⟨rfl,rfl,hnext hne⟩))
  ·rw[if_neg hh];exact wpAny_pure ⟨rfl,rfl,hnext λe=>by rw[e] at hh;simp at hh⟩
 ·rintro b s' ⟨rfl,rfl,i,hr,hi,hno⟩;refine wpAny_pure (hnone λj p hj=>?_);rcases Nat.lt_or_ge j i with h | h
  ·exact hno j p h hj
  ·have hjl:j < es.size:=by rw[hsz];exact(JH.mp hj).1
   have:=Nq.mp hr.symm j (List.mem_range'_1.mpr ⟨h,by lia⟩);exact this (F.has j p hj)
end
open PySem.SeqAt in
section
variable {prog:Program}{w:World}{A:Around}{E:QC}{s:Shared}{d:Addr}{o:Obj}{es:Array DictEntry}{ep:Nat}{xs:List Ent}{t:Th}{key:Value}{Q:Option Nat->Shared->Prop}
theorem FK.st (F:FK w A s d o es ep xs t key):∀v∈(placesWithHash es.size (λi=>es[i]?.map (·.hash)) (hsh w t)).filterMap (λi=>es[i]?.map (·.key)),∃t',TV s.heap t' v/\dep t'<=8:=by
 intro v hv;obtain⟨i,_,hi⟩:=List.mem_filterMap.mp hv;cases hei:es[i]? with
 | none=>rw[hei] at hi;cases hi
 | some e=>
  rw[hei] at hi;obtain rfl:e.key=v:=by simpa using hi
  obtain⟨x,hx,rfl⟩:=F.mem e (Array.mem_of_getElem? hei);exact⟨x.1,(F.is x hx).1,(F.is x hx).2⟩
def zhP (F:FK w A s d o es ep xs t key)(hk:t≠ .non)(hnone:(∀(j:Nat)(p:Value ×Value),xs[j]? ≠some (t,p))->Q none s)(hsome:∀(j:Nat)(p:Value ×Value),xs[j]? =some (t,p)->Q (some j) s):
  wpAny (model prog w) A (dictFind d key (hsh w t)) Q E s:=by
 have hany:¬(es.any λe=>e.key==key && e.hash !=hsh w t)=true:=by rw[<-Array.any_toList,List.any_eq_true];rintro⟨e,hin,hc⟩;obtain⟨x,hx,rfl⟩:=F.mem e (Array.mem_toList_iff.mp hin);simp only[entT,Nk,beq_iff_eq,bne_iff_ne,ne_eq] at hc;obtain⟨hxa,hne⟩:=hc;have:=(F.is x hx).1;rw[hxa] at this;exact hne (by rw[this.inj F.tv])
 have hsz:es.size=xs.length:=zdE F.he;have hst:=F.st;have hall:=Classical.em (((key::((placesWithHash es.size (λi=>es[i]?.map (·.hash)) (hsh w t)).filterMap (λi=>es[i]?.map (·.key)))).all carriedByValue)=true);have hone:=Classical.em ((((placesWithHash es.size (λi=>es[i]?.map (·.hash)) (hsh w t)).filterMap (λi=>es[i]?.map (·.key)))==[key])=true);have kk:(∃n k,key=.int n k)\/(∃y k,key=.str y k/\t=.str y)\/∃a,key=.ref a:=by
  have tv:=F.tv;cases tv with
  | non=>exact Jf rfl hk
  | int i k=>exact .inl ⟨_,_,rfl⟩
  | str x k=>exact .inr (.inl ⟨_,_,rfl,rfl⟩)
  | tup ho hc hd l k=>exact .inr (.inr ⟨_,rfl⟩)
 rcases kk with ⟨n,k,rfl⟩ | ⟨y,k,rfl,et⟩ | ⟨a,rfl⟩ <;> unfold dictFind <;> (try with_reducible refine wpAny_holding ?_) <;> refine Ja (wpAny_dictEntries F.ho F.hd ?_) <;> dsimp only
 rotate_left
 refine(Classical.em ((es.all λe=>isExactStrKey e.key)=true)).elim (λhex=>?_) λhex=>?_
 ·rw[if_pos hex];unfold foundByValue;have isk:∀(j:Nat)(t':Th)(kv v':Value),xs[j]? =some (t',kv,v')->(kv.isStr y=true↔t'=t):=λj t' kv v' hj=>by
   have h1:=(F.is _ (JX hj)).1;have h2:isExactStrKey kv=true:=by
    rw[Array.all_eq_true] at hex;have hjl:j < es.size:=by rw[hsz];exact(JH.mp hj).1
    have h3:=hex j hjl;have h4:=zcB F.he j;rw[hj,Array.getElem?_eq_getElem hjl] at h4;have h5:es[j]=entT w (t',kv,v'):=by simpa using h4
    rw[h5] at h3;exact h3
   rw[et];have h1':TV s.heap t' kv:=h1;cases h1' with
   | str z k'=>
    constructor
    ·intro h;have:z=y:=by simpa [Value.isStr] using h
     rw[this]
    ·intro h;cases h;simp[Value.isStr]
   | _=>cases h2
  cases hf:es.findIdx? (λe=>e.key.isStr y) with
  | none=>
   dsimp only;refine wpAny_pure (hnone λj p hj=>?_);rw[Array.findIdx?_eq_none_iff] at hf;have hjl:j < es.size:=by rw[hsz];exact(JH.mp hj).1
   have h4:=zcB F.he j;rw[hj,Array.getElem?_eq_getElem hjl] at h4;have h5:es[j]=entT w (t,p):=by simpa using h4
   have h6:=hf es[j] (Array.getElem_mem hjl);rw[h5] at h6;have h7:=(isk j t p.1 p.2 hj).mpr rfl;have h8:p.1.isStr y=false:=h6;rw[h7] at h8;cases h8
  | some i=>
   obtain⟨hil,hi1,_⟩:=Array.findIdx?_eq_some_iff_getElem.mp hf;have hixl:i < xs.length:=by lia
   obtain⟨⟨t',kv,v'⟩,hkv⟩:∃z,xs[i]? =some z:=⟨xs[i],JB hixl⟩;have h4:es[i]? =some ⟨hsh w t',kv,v'⟩:=by rw[zcB F.he i,hkv];rfl
   have h5:es[i]=⟨hsh w t',kv,v'⟩:=by rw[Array.getElem?_eq_getElem hil] at h4;exact JO h4
   have h6:kv.isStr y=true:=by rw[h5] at hi1;exact hi1
   have h7:t'=t:=(isk i t' kv v' hkv).mp h6;subst h7;dsimp only;rw[h4];dsimp only;refine Ja (wpAny_dictEpoch F.ho F.hd (Ja (F.eq _ (JX hkv) _ _ _ _ (Ja (wpAny_dictEpoch F.ho F.hd ?_)))));show wpAny _ _ (if (ep !=ep)=true then _ else _) _ E _;rw[if_neg (by simp),zap];exact Ja (wpAny_rule (wpAny_pure (hsome i _ hkv)))
 rw[if_neg hex]
 all_goals
  rcases hall with hall | hall
  ·rw[if_pos hall];exact zsg F hnone hsome
  ·rw[if_neg hall]
   try rw[if_neg hany]
   rcases hone with hone | hone <;>
   (first | rw[if_pos hone] | rw[if_neg hone]) <;> (first | refine Ja (wpAny_pure ?_) | refine Ja (zoS F.tv F.h8 hst ?_)) <;> (
    rw[if_neg (by simp)];refine Ja ?_;refine wpAny_forIn_list _
     (λrest b s'=>s'=s/\∃i hit,b=(none,hit)/\rest=(List.range' i (es.size - i)).filter (λi=>(es[i]?.map (·.hash))==some (hsh w t))/\i<=es.size/\
      ((hit=none/\∀j p,j < i->xs[j]? ≠some (t,p))\/∃j p,hit=some j/\j < i/\xs[j]? =some (t,p))) _ ?_ ?_ _ _
     ⟨rfl,0,none,rfl,by rw[placesWithHash,List.range_eq_range',Nat.sub_zero],JM _,.inl ⟨rfl,λ_ _ h=>Jf h (Nat.not_lt_zero _)⟩⟩
    ·rintro x rest b s' ⟨rfl,i,hit,rfl,hr,hi,hH⟩;obtain⟨hix,hxn,hpx,hskip,hrest⟩:=filter_range'_cons _ _ _ _ _ hr.symm;have hlt:x < es.size:=by lia
     have hxl:x < xs.length:=by lia
     have hrest':rest=(List.range' (x+1) (es.size - (x+1))).filter (λi=>(es[i]?.map (·.hash))==some (hsh w t)):=by rw[hrest];congr 2;lia
     obtain⟨⟨t',kv,v'⟩,hkv⟩:∃y,xs[x]? =some y:=⟨xs[x],JB hxl⟩;have hex:es[x]? =some ⟨hsh w t',kv,v'⟩:=by rw[zcB F.he x,hkv];rfl
     have hHx:(hit=none/\∀j p,j < x->xs[j]? ≠some (t,p))\/∃j p,hit=some j/\j < x/\xs[j]? =some (t,p):=by
      rcases hH with ⟨h0,hno⟩ | ⟨j,p,h1,hji,hj⟩
      ·refine .inl ⟨h0,λj p hjx hj=>?_⟩;rcases Nat.lt_or_ge j i with h | h
       ·exact hno j p h hj
       ·have:=hskip j h hjx;rw[F.has j p hj] at this;exact Jf this (by decide)
      ·exact .inr ⟨j,p,h1,by lia,hj⟩
     have hstay:¬t'=t->((hit=none/\∀j p,j < x+1->xs[j]? ≠some (t,p))\/∃j p,hit=some j/\j < x+1/\xs[j]? =some (t,p)):=by
      intro hne;rcases hHx with ⟨h0,hno⟩ | ⟨j,p,h1,hjx,hj⟩
      ·refine .inl ⟨h0,λj p hjx hj=>?_⟩;rcases Nat.lt_or_ge j x with h | h
       ·exact hno j p h hj
       ·have hjx':j=x:=by lia
        subst hjx';rw[hkv] at hj;injection hj with hj
        injection hj with hj
        exact hne hj
      ·exact .inr ⟨j,p,h1,by lia,hj⟩
     rw[hex];dsimp only;by_cases hh:(hsh w t'==hsh w t)=true
     ·rw[if_pos hh];refine Ja (wpAny_dictEpoch F.ho F.hd (Ja (F.eq _ (JX hkv) _ _ _ _ (Ja (wpAny_dictEpoch F.ho F.hd ?_)))));show wpAny _ _ (if (ep !=ep)=true then _ else _) _ E _;rw[if_neg (by simp)];cases z:eqT t' t with
      | true=>
       have hkk:t'=t:=(zV t' t).mp z;subst hkk;rcases hHx with ⟨rfl,_⟩ | ⟨j,p,_,hjx,hj⟩
       ·first | rw[if_pos rfl] | skip
        simp only[Option.isSome_none,Nm,if_false]
        first | refine Ja (wpAny_pure ?_) | skip
        refine Ja (wpAny_rule ?_);split
        ·exact wpAny_pure (wpAny_pure (hsome x _ hkv))
        ·exact wpAny_pure ⟨rfl,x+1,some x,rfl,hrest',hlt,.inr ⟨x,_,rfl,Jt x,hkv⟩⟩
       ·exact Jf (zoM F.nd hj hkv) (by lia)
      | false=>
       have hkk:¬t'=t:=λe=>by rw[e,zap] at z;cases z
       simp only[Nm,if_false];refine Ja (wpAny_rule ?_)
       first | rw[if_neg (by simp)] | skip
       first
        | exact wpAny_pure ⟨rfl,x+1,hit,rfl,hrest',hlt,hstay hkk⟩
        | exact Ja (wpAny_pure (wpAny_pure ⟨rfl,x+1,hit,rfl,hrest',hlt,hstay hkk⟩))
     ·rw[if_neg hh];refine wpAny_pure ⟨rfl,x+1,hit,rfl,hrest',hlt,hstay ?_⟩;intro hkk;rw[hkk] at hh;simp at hh
    ·rintro b s' ⟨rfl,i,hit,rfl,hr,hi,hH⟩;have hall2:∀j,i<=j->j < es.size->((es[j]?.map (·.hash))==some (hsh w t))=false:=by intro j h1 h2;have:=Nq.mp hr.symm j (List.mem_range'_1.mpr ⟨h1,by lia⟩);simpa using this
     rcases hH with ⟨rfl,hno⟩ | ⟨j,p,rfl,_,hj⟩
     ·refine wpAny_pure (hnone λj p hj=>?_);rcases Nat.lt_or_ge j i with h | h
      ·exact hno j p h hj
      ·have hjl:j < es.size:=by rw[hsz];exact(JH.mp hj).1
       have:=hall2 j h hjl;rw[F.has j p hj] at this;exact Jf this (by decide)
     ·exact wpAny_pure (hsome j p hj))
end
end Pv
set_option maxHeartbeats 400000
namespace Pv
open PySem L2 PySem.Spec PyProof.Rows
abbrev Kv:=Th ×V ×V
def zqS (w:World)(x:Kv)(e:DictEntry):Prop:=e.hash=hsh w x.1/\RelV x.2.1 e.key/\RelV x.2.2 e.val
def IsTD (w:World)(d:Addr)(xs:List Kv)(h:Heap):Prop:=
 (d==sysModules)=false/\xs.length<=sizeLine/\∃o es ep,h.get? d=some o/\o.ExactDict/\o.data=.dict es ep/\Paired (zqS w) xs es.toList
def TD (w:World)(d:Addr)(xs:List Kv):HO:=.ext (IsTD w d xs)
def vT (xs:List Kv)(t:Th):Option V:=(xs.find? λx=>decide (x.1=t)).map (·.2.2)
def Keyed (H:Hp)(xs:List Kv):Prop:=(∀x∈xs,Rep H x.1 x.2.1/\dep x.1<=8)/\(xs.map (·.1)).Nodup
def zkG (q:IsTD w d xs h):zA P w H h d (TD w d xs):=by
 refine⟨q,?_,?_⟩
 ·obtain⟨_,_,o,_,_,ho,_⟩:=q;exact⟨o,ho⟩
 ·rintro h1 h2 ⟨a,b,o,es,ep,ho,r⟩ k;exact⟨a,b,o,es,ep,k _ ho,r⟩
abbrev EntP (x:Kv)(y:Ent):Prop:=y.1=x.1/\RelV x.2.1 y.2.1/\RelV x.2.2 y.2.2
theorem ents:∀{xs:List Kv}{l:List DictEntry},Paired (zqS w) xs l->∃ys:List Ent,l=ys.map (entT w)/\Paired EntP xs ys:=by
 intro xs l r;induction r with
 | nil=>exact⟨[],rfl,.nil⟩
 | @cons x e xs l h r ih=>
  obtain⟨ys,e1,e2⟩:=ih;refine⟨(x.1,e.key,e.val)::ys,?_,.cons ⟨rfl,h.2.1,h.2.2⟩ e2⟩;rw[JS,<-e1];have:e=entT w (x.1,e.key,e.val):=by cases e;have h1:=h.1;simp only at h1;simp[entT,h1]
  rw[<-this]
theorem ze7:∀{xs:List Kv}{ys:List Ent},Paired EntP xs ys->∀y∈ys,∃x∈xs,EntP x y:=by
 intro xs ys r;induction r with
 | nil=>intro y hy;exact nomatch hy
 | @cons x e xs l h r ih=>
  intro y hy;rcases JD.mp hy with rfl | hy
  ·exact⟨x,JL,h⟩
  ·obtain⟨z,hz,p⟩:=ih y hy;exact⟨z,Ji _ hz,p⟩
theorem zej:∀{xs:List Kv}{ys:List Ent},Paired EntP xs ys->ys.map (·.1)=xs.map (·.1):=by
 intro xs ys r;induction r with
 | nil=>rfl
 | @cons x e xs l h r ih=>rw[JS,JS,h.1,ih]
def zeA {x:Kv}{xs:List Kv}{t:Th}(e:x.1=t):vT (x::xs) t=some x.2.2:=by simp[vT,Ni,e]
theorem zcr {x:Kv}{xs:List Kv}{t:Th}(e:¬x.1=t):vT (x::xs) t=vT xs t:=by simp[vT,Ni,e]
def zqi {xs:List Kv}(h:vT xs t=none):∀x∈xs,x.1≠t:=by intro x hx e;rw[vT,Option.map_eq_none_iff,List.find?_eq_none] at h;exact h x hx (by simpa using e)
theorem zpw (xs:List Kv)(t u:Th)(y v:V)(h:vT xs t=none):vT (xs++ [(t,y,v)]) u=if u=t then some v else vT xs u:=by
 unfold vT;rw[List.find?_append];by_cases e:u=t
 ·subst e;rw[if_pos rfl];unfold vT at h;rw[Option.map_eq_none_iff] at h;rw[h];simp
 ·rw[if_neg e];have:List.find? (λx=>decide (x.1=u)) [(t,y,v)]=none:=by have e':¬t=u:=λq=>e q.symm;simp[Ni,e']
  rw[this];simp
theorem ze4:∀{xs:List Kv}{ys:List Ent}{t:Th},Paired EntP xs ys->(∀(j:Nat)(p:Value ×Value),ys[j]? ≠some (t,p))->vT xs t=none:=by
 intro xs ys t r;induction r with
 | nil=>intro _;rfl
 | @cons x e xs l h r ih=>intro no;have n0:¬x.1=t:=λq=>no 0 e.2 (by rw[<-q,<-h.1];rfl);rw[zcr n0];exact ih λj p=>no (j+1) p
def zf0 {t:Th}{p:Value ×Value}(r:Paired EntP xs ys):∀{j:Nat},(xs.map (·.1)).Nodup->ys[j]? =some (t,p)->∃v,vT xs t=some v/\RelV v p.2:=by
 induction r with
 | nil=>intro j _ q;rw[List.getElem?_nil] at q;cases q
 | @cons x e xs l h r ih=>
  intro j nd q;cases j with
  | zero=>rw[List.getElem?_cons_zero] at q;have q':=JO q;have h1:=h.1;have h3:=h.2.2;rw[q'] at h1 h3;exact⟨x.2.2,zeA h1.symm,h3⟩
  | succ j=>
   rw[List.getElem?_cons_succ] at q;rw[JS,Nh] at nd;have n0:¬x.1=t:=λz=>nd.1 (by
    rw[<-zej r,z];exact Nl.mpr ⟨_,JX q,rfl⟩)
   rw[zcr n0];exact ih nd.2 q
section
variable {X:Cx}{pins:QE}{σ:L2.St}{H:Hp}{s:Shared}{d:Addr}{xs:List Kv}{t:Th}{y v:V}{key r:Value}{A:Around}{E:QC}
def zfC (I:L2.Inv X pins σ H s)(e:H d=some (TD X.w d xs)):IsTD X.w d xs s.heap:=(show zA X.prog X.w H s.heap d (TD X.w d xs) from I.hok d _ e).1
def zll (hu:A.units+40 < cLine)(I:L2.Inv X pins σ H s)(kd:Keyed H xs)(rt:Rep H t y)(h8:dep t<=8)(ry:RelV y key){o:Obj}{es:Array DictEntry}{ep:Nat}{ys:List Ent}
  (ho:s.heap.get? d=some o) (hd:o.data=.dict es ep) (he:es.toList=ys.map (entT X.w)) (pp:Paired EntP xs ys):FK X.w A s d o es ep ys t key where
 tv:=TV.of I rt ry
 h8:=h8
 ho:=ho
 hd:=hd
 he:=he
 is:=λb hb=>by obtain⟨x,hx,e1,e2,_⟩:=ze7 pp b hb;obtain⟨k1,k2⟩:=kd.1 x hx;rw[e1];exact⟨TV.of I k1 e2,k2⟩
 eq:=λb hb=>by obtain⟨x,hx,e1,e2,_⟩:=ze7 pp b hb;obtain⟨k1,k2⟩:=kd.1 x hx;rw[e1];exact zhT I k1 rt e2 ry (by lia)
 nd:=by rw[zej pp];exact kd.2
def zgV {Q:Option Value->Shared->Prop}(hu:A.units+40 < cLine)(I:L2.Inv X pins σ H s)(e:H d=some (TD X.w d xs))(kd:Keyed H xs)(rt:Rep H t y)(h8:dep t<=8)(hn:t≠ .non)(ry:RelV y key)
  (h:∀k o,RelO (vT xs t) o->Q o {s with toks:=k}):wpAny (model X.prog X.w) A (dictGet d key) Q E s:=by
 obtain⟨_,_,o,es,ep,ho,_,hd,hp⟩:=zfC I e;obtain⟨ys,he,pp⟩:=ents hp;unfold dictGet
 try with_reducible refine wpAny_holding ?_
 refine Ja (zh0 (s:=s) (n:=s.toks) (TV.of I rt ry) (by lia) λk=>Ja (zhP (s:={s with toks:=k}) (zll (A:=A) hu (I.tok k) kd rt h8 ry ho hd he pp) hn ?_ ?_))
 ·intro hno;have z:=ze4 pp hno;exact wpAny_pure (h k none (by rw[z];trivial))
 ·intro j p hj;obtain⟨v,e1,e2⟩:=zf0 pp kd.2 hj;refine Ja (wpAny_dictEntries (s:={s with toks:=k}) ho hd ?_);rw[zcB he j,hj];exact wpAny_pure (h k (some p.2) (by rw[e1];exact e2))
def zmk {Q:QD}(hu:A.units+40 < cLine)(I:L2.Inv X pins σ H s)(e:H d=some (TD X.w d xs))(kd:Keyed H xs)(rt:Rep H t y)(h8:dep t<=8)(hn:t≠ .non)(ry:RelV y key)(rv:RelV v r)
  (hv:vT xs t=none) (hl:xs.length < sizeLine) (h:∀s',L2.Inv X pins σ (upd H d (TD X.w d (xs++ [(t,y,v)]))) s'->Q () s'):wpAny (model X.prog X.w) A (dictSet d key r) Q E s:=by
 obtain⟨hm,_,o,es,ep,ho,hc,hd,hp⟩:=zfC I e;obtain⟨ys,he,pp⟩:=ents hp;unfold dictSet
 try with_reducible refine wpAny_holding ?_
 refine Ja (zh0 (s:=s) (n:=s.toks) (TV.of I rt ry) (by lia) λk=>?_);unfold dictSetHashed
 try with_reducible refine wpAny_holding ?_
 refine Ja (zhP (s:={s with toks:=k}) (zll (A:=A) hu (I.tok k) kd rt h8 ry ho hd he pp) hn ?_ ?_)
 ·intro hno;have hz:es.size<=sizeLine:=by have z1:=zdE he;have z2:=Paired.length pp;lia
  refine Ja (wpAny_rule (wpAny_updateDictKeys (hz:=hz) (s:={s with toks:=k}) ho hd (h _ (zdn (t':=k) (I.tok k) (by rw[e];trivial) (Heap.SameBut.update ..) ⟨_,JU _ ho (Obj.isFreed_of_dict (Obj.data_mapDictKeys hd _))⟩ (zkG ⟨hm,?_,?_⟩)))))
  ·rw[JI];simp only[JK,Nx];lia
  ·refine⟨_,_,ep+1,JU _ ho (Obj.isFreed_of_dict (Obj.data_mapDictKeys hd _)),hc.mapDictKeys _,Obj.data_mapDictKeys hd _,?_⟩;rw[Array.toList_push];exact Paired.snoc hp ⟨rfl,ry,rv⟩
 ·intro j p hj;obtain⟨v',e1,_⟩:=zf0 pp kd.2 hj;rw[hv] at e1;cases e1
end
def TGet (w:World)(H:Hp)(a:Addr)(y:V)(o:Option V):Prop:=∃xs t,H a=some (TD w a xs)/\Keyed H xs/\Rep H t y/\dep t<=8/\t≠ .non/\o=vT xs t
def ztg (w:World)(td ty:TE):TE:=fun σ H Q=>td σ H λx H1=>ty σ H1 λy H2=>∃a v,x=.ref a/\TGet w H2 a y (some v)/\Q v H2
def zqW (w:World):TE:=λ_ H Q=>∀p,H p=none->Q (.ref p) (upd H p (TD w p []))
section
variable {X:Cx}{pins:QE}{σ:L2.St}{H:Hp}{s:Shared}{a:Addr}{y v:V}{u r:Value}{o:Option V}{A:Around}{E:QC}
def zcO (I:L2.Inv X pins σ H s)(g:TGet X.w H a y o):s.TypeIs (.ref a) "dict" :=by obtain⟨xs,t,e,_⟩:=g;obtain⟨_,_,o,es,ep,ho,hc,_⟩:=zfC I e;exact⟨o,ho,hc.1⟩
def zl8 {Q:QC}(hu:A.units+50 < cLine)(I:L2.Inv X pins σ H s)(g:TGet X.w H a y (some v))(ry:RelV y u)(h:∀w' s',L2.Inv X pins σ H s'->RelV v w'->Q w' s'):
  wpAny (model X.prog X.w) A (getItem (.ref a) u) Q E s:=by
 have hT:=zcO I g;obtain⟨xs,t,e,kd,rt,h8,hn,l⟩:=g;unfold getItem
 try with_reducible refine wpAny_holding ?_
 refine Ja (wpAny_sequenceKey hT (by decide) ?_);refine Ja (wpAny_callSpecial?_slot (name:=Str.ofString "__getitem__") hT slot_dict_getitem
  (wpAny_call_entry slot_dict_getitem hT entry_dict_getitem ?_ (args_dict_getitem _ _)))
 show wpAny _ _ (dictGet a u >>=_) _ _ s;refine Ja (zgV (A:=A.in1) (show A.units+1+40 < cLine by lia) I e kd rt h8 hn ry λk o' ro=>?_);rw[<-l] at ro;obtain⟨w',rfl,rw'⟩:=RelO.some_of ro;exact wpAny_pure ⟨w',rfl,wpAny_pure (h w' _ (I.tok _) rw')⟩
end
section
variable {X:Cx}{o i value:Expr}{pos pos' tpos:Pos}{td ty tv:TE}
def zpW (hu:X.A.units+50 < cLine)(ho:PE X o td)(hi:PE X i ty)(hs:NoSl i):PE X (.Subscript o i pos) (ztg X.w td ty):=by intro pins s σ H Q I h;refine zlm PySem.F.slot_dict_getitem.lookup hs (thn (ho pins s σ H _ I h) λu s1 ⟨x,H1,I1,rx,q1⟩=>thn (hi pins s1 σ H1 _ I1 q1) λiv s2 ⟨y,H2,I2,ry,a,v,ex,g,q2⟩=>?_);subst ex;obtain rfl:u=Value.ref a:=rx;exact⟨zcO I2 g,zl8 hu I2 g ry λw' s3 I3 rw'=>⟨v,H2,I3,rw',q2⟩⟩
def zmQ (h:Heap)(hb:sysModules < h.objs.size):zA P w H (h.push {cls:=.type "dict",data:=.dict #[]}) h.objs.size (TD w h.objs.size []):=
 zkG ⟨beq_eq_false_iff_ne.mpr (Ne.symm (Jk hb)),JM _,_, #[],0,JJ _ rfl,⟨rfl,rfl,rfl⟩,rfl,.nil⟩
def zqn:PE X (.Dict [] [] pos) (zqW X.w):=λpins s σ H Q I h=>
 wpAny_Dict_empty ⟨.ref s.heap.objs.size,_,I.laid (a:=s.heap.objs.size) (o:=TD X.w s.heap.objs.size []) (t':=s.toks) (λ_ _ q=>JC _ q) (Jb _) (zmQ s.heap I.big),rfl,h _ (I.hok.fresh (Jb _))⟩
end
end Pv
namespace Pv
open PySem L2
def hu_t (hr:Room k A):A.units+50 < cLine:=Jx (Nat.add_le_add_left (by decide:50<=64) _) hr.units
end Pv
set_option maxHeartbeats 4000000
namespace Pv
open PySem L2 PySem.Spec PyProof.Rows
theorem Paired.erase {α β:Type}{F:α->β->Prop}:∀{xs:List α}{ys:List β}(j:Nat),Paired F xs ys->Paired F (xs.eraseIdx j) (ys.eraseIdx j)
 | [],[],_,.nil=>.nil
 | _::_,_::_,0,.cons _ r=>r
 | _::_,_::_,j+1,.cons h r=>.cons h (Paired.erase j r)
theorem Paired.set {α β:Type}{F:α->β->Prop}{a:α}{b:β}(h:F a b):∀{xs:List α}{ys:List β}(j:Nat),Paired F xs ys->Paired F (xs.set j a) (ys.set j b)
 | [],[],_,.nil=>.nil
 | _::_,_::_,0,.cons _ r=>.cons h r
 | _::_,_::_,j+1,.cons h' r=>.cons h' (Paired.set h j r)
theorem Paired.at {α β:Type}{F:α->β->Prop}:∀{xs:List α}{ys:List β}{j:Nat}{y:β},Paired F xs ys->ys[j]? =some y->∃x,xs[j]? =some x/\F x y
 | [],[],_,_,.nil,e=>by simp at e
 | _::_,_::_,0,_,.cons h _,e=>⟨_,rfl,by cases e;exact h⟩
 | _::_,_::_,j+1,_,.cons _ r,e=>Paired.at (j:=j) r e
theorem zn2 {xs:List Kv}{j:Nat}{x:Kv}{v:V}(h:xs[j]? =some x):(xs.set j (x.1,x.2.1,v)).map (·.1)=xs.map (·.1):=by
 rw[List.map_set];refine List.ext_getElem? λi=>?_;rw[List.getElem?_set,JQ];by_cases e:j=i
 ·subst e;have hj:=(JH.mp h).1;rw[if_pos rfl,if_pos (by rw[JE];exact hj),h];rfl
 ·rw[if_neg e]
def zss {xs:List Kv}{j:Nat}{x:Kv}{v:V}:(xs.map (·.1)).Nodup->xs[j]? =some x->vT (xs.set j (x.1,x.2.1,v)) x.1=some v:=by
 induction xs generalizing j with
 | nil=>intro _ h;cases h
 | cons z r ih=>
  intro hn h;cases j with
  | zero=>cases h;exact zeA rfl
  | succ j=>rw[JS,Nh] at hn;have hr:r[j]? =some x:=h;rw[List.set_cons_succ,zcr λe=>hn.1 (by rw[e];exact Nl.mpr ⟨x,JX hr,rfl⟩)];exact ih hn.2 hr
section
variable {X:Cx}{pins:QE}{σ:L2.St}{H:Hp}{s:Shared}{d a:Addr}{xs:List Kv}{t:Th}{y v:V}{key r u:Value}{A:Around}{E:QC}
def zjW {Q:QD}(hu:A.units+40 < cLine)(I:L2.Inv X pins σ H s)(e:H d=some (TD X.w d xs))(kd:Keyed H xs)(rt:Rep H t y)(h8:dep t<=8)(hn:t≠ .non)(ry:RelV y key)(rv:RelV v r)
  (hl:xs.length < sizeLine) (h:∀xs' s',Keyed H xs'->vT xs' t=some v->xs'.length<=xs.length+1->L2.Inv X pins σ (upd H d (TD X.w d xs')) s'->Q () s'):wpAny (model X.prog X.w) A (dictSet d key r) Q E s:=by
 cases hv:vT xs t with
 | none=>
  refine zmk hu I e kd rt h8 hn ry rv hv hl λs' I'=>h _ s' ⟨λx hx=>?_,?_⟩ ?_ ?_ I'
  ·rcases Jm.mp hx with hx | hx
   ·exact kd.1 x hx
   ·rw[Jj.mp hx];exact⟨rt,h8⟩
  ·rw[JR,List.nodup_append];refine⟨kd.2,Nh.mpr ⟨λz=>(nomatch z),List.nodup_nil⟩,λz hz z' hz'=>?_⟩;obtain⟨x,hx,rfl⟩:=Nl.mp hz;rw[Jj.mp hz'];exact zqi hv x hx
  ·rw[zpw _ _ _ _ _ hv,if_pos rfl]
  ·rw[JI];exact Jb _
 | some v0=>
 obtain⟨hm,hlen,o,es,ep,ho,hc,hd,hp⟩:=zfC I e;obtain⟨ys,he,pp⟩:=ents hp;unfold dictSet
 try with_reducible refine wpAny_holding ?_
 refine Ja (zh0 (s:=s) (n:=s.toks) (TV.of I rt ry) (by lia) λk=>?_);unfold dictSetHashed
 try with_reducible refine wpAny_holding ?_
 refine Ja (zhP (s:={s with toks:=k}) (zll (A:=A) hu (I.tok k) kd rt h8 ry ho hd he pp) hn ?_ ?_)
 ·intro hno;rw[ze4 pp hno] at hv;cases hv
 ·intro j p hj;obtain⟨x,hx,e1,e2,e3⟩:=Paired.at pp hj;have e1':x.1=t:=e1.symm;have hxm:=JX hx;refine Ja (wpAny_rule (Ja (wpAny_updateDict (s:={s with toks:=k}) ho hd (wpAny_point (h (xs.set j (x.1,x.2.1,v)) _ ⟨λz hz=>?_,?_⟩ ?_ ?_ (zdn (t':=k) (I.tok k) (by rw[e];trivial) (Heap.SameBut.update ..) ⟨_,JU _ ho (Obj.isFreed_of_dict (Obj.data_mapDict hd _))⟩ (zkG ⟨hm,?_,?_⟩)))) (by rw[Array.size_modify];exact Jb _))))
  ·rcases List.mem_or_eq_of_mem_set hz with hz | rfl
   ·exact kd.1 z hz
   ·exact kd.1 x hxm
  ·rw[zn2 hx];exact kd.2
  ·rw[<-e1'];exact zss kd.2 hx
  ·rw[List.length_set];exact Nat.le_succ _
  ·rw[List.length_set];exact hlen
  ·refine⟨_,_,_,JU _ ho (Obj.isFreed_of_dict (Obj.data_mapDict hd _)),hc.mapDict _,Obj.data_mapDict hd _,?_⟩;have hj2:es.toList[j]? =some (entT X.w (t,p)):=by rw[he,JQ,hj];rfl
   have hmod:(es.modify j λe=>{e with val:=r}).toList=es.toList.set j {entT X.w (t,p) with val:=r}:=by
    refine List.ext_getElem? λi=>?_;rw[JZ,Array.getElem?_modify,List.getElem?_set,<-JZ];by_cases z:j=i
    ·subst z;have hjl:=(JH.mp hj2).1;rw[if_pos rfl,if_pos rfl,if_pos hjl,hj2];rfl
    ·rw[if_neg z,if_neg z]
   rw[hmod];exact Paired.set ⟨by show(entT X.w (t,p)).hash=_;rw[e1'];rfl,e2,rv⟩ j hp
def zmh {Q:QC}(hu:A.units+50 < cLine)(I:L2.Inv X pins σ H s)(e:H a=some (TD X.w a xs))(kd:Keyed H xs)(rt:Rep H t y)(h8:dep t<=8)(hn:t≠ .non)(ry:RelV y key)(hv:vT xs t=some v)
  (h:∀xs' s' w',Keyed H xs'->xs'.length<=xs.length->L2.Inv X pins σ (upd H a (TD X.w a xs')) s'->RelV v w'->Q w' s'):wpAny (model X.prog X.w) A (call (.builtin "dict.pop") [.ref a,key]) Q E s:=by
 obtain⟨hm,hlen,o,es,ep,ho,hc,hd,hp⟩:=zfC I e;obtain⟨ys,he,pp⟩:=ents hp;have hT:s.TypeIs (.ref a) "dict" :=⟨o,ho,hc.1⟩;have l1:=Paired.length pp;have l2:=zdE he;refine wpAny_call_entry PySem.F.slot_dict_pop hT PySem.F.entry_dict_pop ?_ (PySem.F.args_dict_pop_2 _ _);show wpAny _ _ (Builtin.«dict.pop» ⟨[.ref a,key],[]⟩) _ _ s;unfold Builtin.«dict.pop»;refine Ja ?_;unfold Builtin.Dict.keyAndDefault;refine Ja (wpAny_notOrdered_dict hT ?_);show wpAny _ _ (pure (a,key,none)) _ _ s;refine wpAny_pure ?_;have hne:es.isEmpty=false:=by
  cases z:es.isEmpty with
  | false=>rfl
  | true=>
   have z':es.size=0:=by simpa using z
   have:xs=[]:=List.length_eq_zero_iff.mp (by lia);rw[this] at hv;cases hv
 dsimp only;split
 rotate_left
 refine Ja (wpAny_dictEntries ho hd (Ja (wpAny_pure ?_)));rw[hne]
 rotate_left
 refine Ja (wpAny_pure ?_)
 all_goals
  simp only[Nm,if_false];refine Ja ?_;unfold Builtin.Dict.takeOut
  try with_reducible refine wpAny_holding ?_
  refine Ja (zh0 (s:=s) (n:=s.toks) (TV.of I rt ry) (by show A.units+1+4 * dep t < cLine;lia) λk=>?_);refine Ja (zhP (s:={s with toks:=k}) (zll (A:=A.in1) (show A.units+1+40 < cLine by lia) (I.tok k) kd rt h8 ry ho hd he pp) hn ?_ ?_)
  ·intro hno;rw[ze4 pp hno] at hv;cases hv
  ·intro j p hj;obtain⟨v',e1,e2⟩:=zf0 pp kd.2 hj;rw[hv] at e1;cases e1;refine Ja (wpAny_dictEntries (s:={s with toks:=k}) ho hd ?_);rw[zcB he j,hj];refine Ja (wpAny_updateDictKeys (hz:=by lia) (s:={s with toks:=k}) ho hd (wpAny_pure ?_));simp only[Option.isNone_some,Nm,if_false];refine Ja (wpAny_letGo (wpAny_pure ⟨_,rfl,h (xs.eraseIdx j) _ _ ⟨λz hz=>kd.1 z (List.mem_of_mem_eraseIdx hz),?_⟩ (List.length_eraseIdx_le ..) (zdn (t':=k) I (by rw[e];trivial) (Heap.SameBut.update ..) ⟨_,JU _ ho (Obj.isFreed_of_dict (Obj.data_mapDictKeys hd _))⟩ (zkG ⟨hm,?_,?_⟩)) e2⟩))
   ·exact kd.2.sublist (List.Sublist.map _ (List.eraseIdx_sublist ..))
   ·exact Jg (List.length_eraseIdx_le ..) hlen
   ·refine⟨_,_,_,JU _ ho (Obj.isFreed_of_dict (Obj.data_mapDictKeys hd _)),hc.mapDictKeys _,Obj.data_mapDictKeys hd _,?_⟩;rw[Array.toList_eraseIdxIfInBounds];exact Paired.erase j hp
def t_in {Q:QC}(hu:A.units+50 < cLine)(I:L2.Inv X pins σ H s)(g:TGet X.w H a y o)(ry:RelV y u)(h:∀s',L2.Inv X pins σ H s'->Q (.bool o.isSome) s'):
  wpAny (model X.prog X.w) A (compareOp .In u (.ref a)) Q E s:=by
 have hT:=zcO I g;obtain⟨xs,t,e,kd,rt,h8,hn,l⟩:=g;have hd:=(zfC I e).1;show wpAny _ _ (do return .bool (<-contains (.ref a) u)) Q E s;refine Ja ?_;unfold contains
 try with_reducible refine wpAny_holding ?_
 refine Ja (wpAny_specialOf hT slot_dict_contains.lookup ?_);show wpAny _ _ (if (some (Value.builtin "dict.__contains__")==some Value.none)=true then _ else _) _ E s;rw[if_neg (by rw[beq_builtin_none];exact Jc)];refine Ja (wpAny_callSpecialUnlessNone?_slot (name:=Str.ofString "__contains__") hT slot_dict_contains
  (wpAny_call_entry slot_dict_contains hT entry_dict_contains ?_ (args_dict_contains _ _)))
 show wpAny _ _ (dictGet a u >>=_) _ _ s;refine Ja (zgV (A:=A.in1) (show A.units+1+40 < cLine by lia) I e kd rt h8 hn ry λk o' ro=>?_);rw[<-l] at ro;have q:=ro.isSome_eq;have h':=h _ (I.tok k);cases o' with
 | some p=>rw[q] at h';show wpAny _ _ (ret (.bool true)) _ _ _;exact wpAny_pure ⟨_,rfl,wpAny_truthy_bool (wpAny_pure h')⟩
 | none=>rw[q] at h';show wpAny _ _ (Builtin.Dict.pendingKey? a u >>=_) _ _ _;exact Ja (wpAny_pendingKey_other hd (wpAny_pure ⟨_,rfl,wpAny_truthy_bool (wpAny_pure h')⟩))
def zrJ {Q:QD}(hu:A.units+50 < cLine)(I:L2.Inv X pins σ H s)(e:H a=some (TD X.w a xs))(kd:Keyed H xs)(rt:Rep H t y)(h8:dep t<=8)(hn:t≠ .non)(hl:xs.length < sizeLine)(ry:RelV y u)(rv:RelV v r)
  (h:∀xs' s',Keyed H xs'->vT xs' t=some v->xs'.length<=xs.length+1->L2.Inv X pins σ (upd H a (TD X.w a xs')) s'->Q () s'):wpAny (model X.prog X.w) A (setItem (.ref a) u r) Q E s:=by
 have hT:=zcO (o:=vT xs t) I ⟨xs,t,e,kd,rt,h8,hn,rfl⟩;unfold setItem
 try with_reducible refine wpAny_holding ?_
 refine Ja (wpAny_sequenceKey hT (by decide) ?_);refine Ja (wpAny_callSpecial?_slot (name:=Str.ofString "__setitem__") hT slot_dict_setitem
  (wpAny_call_entry slot_dict_setitem hT entry_dict_setitem ?_ (args_dict_setitem _ _ _)))
 show wpAny _ _ (Builtin.Dict.notOrdered "__setitem__" ⟨[.ref a,u,r],[]⟩ >>=_) _ _ s;refine Ja (wpAny_notOrdered_dict hT ?_);show wpAny _ _ (dictSet a u r >>=_) _ _ s;exact Ja (zjW (A:=A.in1) (show A.units+1+40 < cLine by lia) I e kd rt h8 hn ry rv hl λxs' s' a1 a2 a3 I'=>wpAny_pure ⟨.none,rfl,wpAny_pure (h xs' s' a1 a2 a3 I')⟩)
end
def tTIn (w:World)(ty td:TE):TE:=fun σ H Q=>ty σ H λy H1=>td σ H1 λx H2=>∃a o,x=.ref a/\TGet w H2 a y o/\Q (.bl o.isSome) H2
inductive zq6 (w:World)(x y v:V)(H:Hp)(Q:Hp->Prop):Prop
 | mk (a:Addr)(xs:List Kv)(t:Th)(_:x=.ref a)(_:H a=some (TD w a xs)) (_:Keyed H xs) (_:Rep H t y) (_:dep t<=8) (_:t≠ .non) (_:xs.length < sizeLine) (_:∀xs',Keyed H xs'->vT xs' t=some v->xs'.length<=xs.length+1->Q (upd H a (TD w a xs'))):zq6 w x y v H Q
def zsv (w:World)(td ty tv:TE):TS:=λD σ H=>tv σ H λv H1=>td σ H1 λx H2=>ty σ H2 λy H3=>zq6 w x y v H3 (D.nx σ)
inductive TPop (w:World)(a:Addr)(y:V)(H:Hp)(Q:L2.VK):Prop
 | mk (xs:List Kv)(t:Th)(v:V)(_:H a=some (TD w a xs)) (_:Keyed H xs) (_:Rep H t y) (_:dep t<=8) (_:t≠ .non) (_:vT xs t=some v) (_:∀xs',Keyed H xs'->xs'.length<=xs.length->Q v (upd H a (TD w a xs'))):TPop w a y H Q
def zs4 (w:World)(td ty:TE):TE:=fun σ H Q=>td σ H λx H1=>∃a xs,x=.ref a/\H1 a=some (TD w a xs)/\ty σ H1 λy H2=>TPop w a y H2 Q
section
variable {X:Cx}{o i e value:Expr}{pos pos' tpos apos cpos:Pos}{td ty tv:TE}
def zr8 (hu:X.A.units+50 < cLine)(hi:PE X i ty)(ho:PE X o td):PC X .In i o (tTIn X.w ty td):=by intro pins s σ H Q I h;refine thn (hi pins s σ H _ I h) λiv s1 ⟨y,H1,I1,ry,q1⟩=>thn (ho pins s1 σ H1 _ I1 q1) λu s2 ⟨x,H2,I2,rx,a,ov,ex,g,q2⟩=>?_;subst ex;obtain rfl:u=Value.ref a:=rx;exact t_in hu I2 g ry λs3 I3=>⟨.bl ov.isSome,H2,I3,rfl,q2⟩
def znd (hu:X.A.units+50 < cLine)(ho:PE X o td)(hi:PE X i ty)(hv:PE X value tv)(hs:swapsWith value (some (.Subscript o i pos')) pos.line X.env=pure false):
  PS X (.Assign [.Subscript o i pos'] value pos) (zsv X.w td ty tv):=by
 intro pins s σ H D I h;refine wpAny_Assign_Subscript (thn (hv pins s σ H _ I h) λr s1 ⟨v,H1,I1,rv,q1⟩=>thn (ho pins s1 σ H1 _ I1 q1) λu s2 ⟨x,H2,I2,rx,q2⟩=>thn (hi pins s2 σ H2 _ I2 q2) λiv s3 ⟨y,H3,I3,ry,q3⟩=>?_) hs;obtain⟨a,xs,t,rfl,e,kd,rt,h8,hn,hl,q⟩:=q3;obtain rfl:u=Value.ref a:=rx;exact zrJ hu I3 e kd rt h8 hn hl ry rv λxs' s4 a1 a2 a3 I4=>⟨σ,_,I4,q xs' a1 a2 a3⟩
def zpL (hu:X.A.units+60 < cLine)(ho:PE X o td)(he:PE X e ty)(m:M1 X o "pop" apos e cpos):PE X (.Call (.Attribute o "pop" apos) [e] [] cpos) (zs4 X.w td ty):=by intro pins s σ H Q I h;refine wpAny_Call_method m.base m.few m.line PySem.F.plainAttrs_dict PySem.F.slot_dict_pop PySem.F.type_dict_pop (thn (ho pins s σ H _ I h) λu s1 ⟨x,H1,I1,rx,a,xs,ex,ea,q1⟩=>?_);subst ex;obtain rfl:u=Value.ref a:=rx;obtain⟨_,_,ob,_,_,hob,hc,_⟩:=zfC I1 ea;refine⟨⟨ob,hob,hc.1⟩,λb q=>by cases q;exact⟨ob,hob,hc.2.1⟩,?_⟩;rw[m.trees];refine Calls.callWith_builtin rfl (Calls.evalArgs_plain (Calls.spliced_cons (thn (he pins s1 σ H1 _ I1 q1) λiv s2 ⟨y,H2,I2,ry,q2⟩=>Calls.spliced_nil ?_)));obtain⟨xs,t,v,e,kd,rt,h8,hn,hv,q⟩:=q2;exact zmh (by show X.A.units+50 < cLine;lia) I2 e kd rt h8 hn ry hv λxs' s3 w' a1 a2 I3 rw'=>⟨v,_,I3,rw',q xs' a1 a2⟩
end
end Pv
namespace Pv
open PySem L2
inductive Alk (K:QA)(H:Hp):Nat->V->V->Prop
 | th {n:Nat} {t:Th} {x y:V} (r:Rep H t x) (q:Rep H t y) (d:dep t<=50):Alk K H n x y
 | ls {n:Nat} {a b:Addr} {xs ys:QR} (e:SqL K H a xs) (e':SqL K H b ys) (l:xs.length=ys.length) (h:∀(i:Nat)(x y:V),xs[i]? =some x->ys[i]? =some y->Alk K H n x y):Alk K H (n+1) (.ref a) (.ref b)
 | tp {n:Nat} {a b:Addr} {xs ys:QR} (e:SqT K H a xs) (e':SqT K H b ys) (l:xs.length=ys.length) (h:∀(i:Nat)(x y:V),xs[i]? =some x->ys[i]? =some y->Alk K H n x y):Alk K H (n+1) (.ref a) (.ref b)
open PySem.SeqAt in
def ziN {A:Around}{s:Shared}{its jts:QO}(r1:Vals xs its)(r2:Vals ys jts)(l:xs.length=ys.length)(q:∀(i:Nat)(x y:V),xs[i]? =some x->ys[i]? =some y->∀vx vy,RelV x vx->RelV y vy->EqAt A.in1 s vx vy true):
  its.toArray.size=jts.toArray.size/\∀j (h1:j < its.toArray.size) (h2:j < jts.toArray.size),EqAt A.in1 s its.toArray[j] jts.toArray[j] true:=by
 have n1:=r1.length;have n2:=r2.length;refine⟨by rw[JG,JG];lia,λj h1 h2=>?_⟩;have h1':j < its.length:=by simpa using h1
 have h2':j < jts.length:=by simpa using h2
 have e1:xs[j]? =some xs[j]:=JB (by lia);have e2:ys[j]? =some ys[j]:=JB (by lia);obtain⟨vx,ex,rx⟩:=r1.get e1;obtain⟨vy,ey,ry⟩:=r2.get e2;rw[JB h1'] at ex;rw[JB h2'] at ey;rw[List.getElem_toArray,List.getElem_toArray,JO ex,JO ey];exact q j _ _ e1 e2 vx vy rx ry
theorem all_true (n:Nat):(List.range n).all (λ_=>true)=true:=List.all_eq_true.mpr λ_ _=>rfl
open PySem.SeqAt in
def Alk.rc (I:L2.Inv X pins σ H s)(h:Alk X.K H n x y):∀{A:Around}{vx vy:Value},RelV x vx->RelV y vy->A.units+n+52 < cLine->(RcAt A s vx vy true/\RcNeAt A s vx vy false)/\EqAt A s vx vy true:=by
 induction h with
 | @th n t x y r q d=>intro A vx vy rx ry hu;have h1:=rc_T I r q rx ry (A:=A) (by lia);have h2:=zhT I r q rx ry (A:=A) (by lia);rw[zap] at h1 h2;exact⟨h1,h2⟩
 | @ls n a b xs ys e e' l h ih=>
  intro A vx vy rx ry hu;cases (show vx=Value.ref a from rx);cases (show vy=Value.ref b from ry);obtain⟨its,r1,T1,_⟩:=I.list e;obtain⟨jts,r2,T2,_⟩:=I.list e';obtain⟨hsz,key⟩:=ziN (A:=A) r1 r2 l λi x y e1 e2 vx vy q1 q2=>(ih i x y e1 e2 q1 q2 (by show A.units+1+n+52 < cLine;lia)).2;have R:=RcAt.lists (e:=λ_=>true) T1.isList T2.isList hsz (show A.units < cLine by lia) key;have R':=RcNeAt.lists (e:=λ_=>true) T1.isList T2.isList hsz (show A.units < cLine by lia) key;rw[all_true] at R R';refine⟨⟨R,R'⟩,?_⟩;by_cases hab:a=b
  ·subst hab;exact EqAt.same _
  ·exact EqAt.of_refs hab R
 | @tp n a b xs ys e e' l h ih=>
  intro A vx vy rx ry hu;cases (show vx=Value.ref a from rx);cases (show vy=Value.ref b from ry);obtain⟨its,r1,T1,_⟩:=I.tuple e;obtain⟨jts,r2,T2,_⟩:=I.tuple e';obtain⟨hsz,key⟩:=ziN (A:=A) r1 r2 l λi x y e1 e2 vx vy q1 q2=>(ih i x y e1 e2 q1 q2 (by show A.units+1+n+52 < cLine;lia)).2;have R:=RcAt.tuples (e:=λ_=>true) T1 T2 (show A.units < cLine by lia) key;have R':=RcNeAt.tuples (e:=λ_=>true) T1 T2 (show A.units < cLine by lia) key;rw[all_true,hsz,beq_self_eq_true] at R R';refine⟨⟨R,R'⟩,?_⟩;by_cases hab:a=b
  ·subst hab;exact EqAt.same _
  ·exact EqAt.of_refs hab R
section
variable {X:Cx}
def zhm (hr:Room k X.A):OpR X (compareOp .Eq) (λx y H Q=>Alk X.K H 6 x y/\Q (.bl true) H):=by intro pins s σ H x y v w Q I rx ry ⟨h,q⟩;have hu:=hr.units;exact(h.rc I rx ry (by lia)).1.1 _ _ _ _ ⟨.bl _,H,I,rfl,q⟩
def zeR (hr:Room k X.A):OpR X (compareOp .NotEq) (λx y H Q=>Alk X.K H 6 x y/\Q (.bl false) H):=by intro pins s σ H x y v w Q I rx ry ⟨h,q⟩;have hu:=hr.units;exact(h.rc I rx ry (by lia)).1.2 _ _ _ _ ⟨.bl _,H,I,rfl,q⟩
end
end Pv
namespace L2
open PySem PySem.Spec PyProof.Rows
def pickN {α:Type}(is:List Nat)(xs:List α):List α:=is.filterMap λi=>xs[i]?
def picks (n:Nat)(lo hi st:Option Int):List Nat:=sliceRange (sliceBounds lo hi st n).1 (sliceBounds lo hi st n).2.1 (sliceBounds lo hi st n).2.2
theorem Vals.pickN:∀(is:List Nat){xs:QR}{its:QO},Vals xs its->Vals (L2.pickN is xs) (L2.pickN is its)
 | [],_,_,_=>.nil
 | i::is,xs,its,r=>by
  unfold L2.pickN;rw[Nn,Nn];have hl:=r.length;by_cases h:i < xs.length
  ·have e1:xs[i]? =some xs[i]:=JB h;obtain⟨u,e2,ru⟩:=r.get e1;rw[e1,e2];exact .cons ru (Vals.pickN is r)
  ·rw[JV (by lia),JV (by lia)];exact Vals.pickN is r
theorem zfq (its:QO)(lo hi st:Option Int):slicePick its.toArray lo hi st=(pickN (picks its.length lo hi st) its).toArray:=by unfold slicePick pickN picks;simp only[JG];congr 1;congr 1;funext i;simp
section
variable {X:Cx}{e e3:Expr}{lo hi:Option Expr}{te:TE}{tl th ts:St->Hp->(Option Int->Hp->Prop)->Prop}{p2 pos:Pos}
def tSl3 (K:QA)(te:TE)(tl th ts:St->Hp->(Option Int->Hp->Prop)->Prop):TE:=fun σ H Q=>te σ H λx H1=>tl σ H1 λl H2=>th σ H2 λu H3=>ts σ H3 λk H4=>∃a xs,x=.ref a/\SqL K H4 a xs/\k≠some 0/\(picks xs.length l u k).length<=sizeLine/\∀p,H4 p=none->Q (.ref p) (upd H4 p (.lst (pickN (picks xs.length l u k) xs)))
def zgv (he:PE X e te)(hl:PO X lo tl)(hu:PO X hi th)(hk:PO X (some e3) ts):PE X (.Subscript e (.Slice lo hi (some e3) p2) pos) (tSl3 X.K te tl th ts):=by intro pins s σ H Q I h;refine Subscript_ (thn (he pins s σ H _ I h) λv s1 ⟨x,H1,I1,r1,q1⟩=>?_);refine wpAny_Slice (thn (hl pins s1 σ H1 _ I1 q1) λvl s2 ⟨l,H2,I2,pl,q2⟩=>thn (hu pins s2 σ H2 _ I2 q2) λvu s3 ⟨u,H3,I3,pu,q3⟩=>thn (hk pins s3 σ H3 _ I3 q3) λvk s4 ⟨k,H4,I4,pk,q4⟩=>?_);obtain⟨a,xs,rfl,hx,h0,hlen,q⟩:=q4;cases r1;have I5:Inv X pins σ H4 {s4 with heap:=s4.heap.push {cls:=.type "slice",data:=.fields #[vl,vu,vk]}}:=I4.kept (t':=s4.toks) λb ob q=>JC _ q;obtain⟨its,r,ht,hz⟩:=I5.list hx;have hl2:=r.length;show wpAny (model X.prog X.w) X.A (subscriptTail e (.Slice lo hi (some e3) p2) (.ref a) (.ref s4.heap.objs.size)) (EP X pins σ Q) X.xe {s4 with heap:=s4.heap.push {cls:=.type "slice",data:=.fields #[vl,vu,vk]}};refine tail_any (ops:=[.ref a,.ref s4.heap.objs.size]) ht.isList.typeIs slot_list_getitem.lookup ?_ (by with_unfolding_all rfl);refine wpAny_getItem_list_slice ht.isList (Heap.IsSliceOf.new ..) pl pu pk h0 ?_ (by rw[JG] <;> lia);rw[zfq,<-hl2];refine⟨.ref (s4.heap.push {cls:=.type "slice",data:=.fields #[vl,vu,vk]}).objs.size,_,I5.laid (t':=s4.toks) (o:=.lst (pickN (picks xs.length l u k) xs)) (λb ob q=>JC _ q) (Jb _) ?_,rfl,q _ (I5.hok.fresh (Jb _))⟩;exact⟨Jg (List.length_filterMap_le _ _) hlen,_,0,r.pickN _,JJ _ rfl⟩
end
end L2
namespace Pv
open PySem L2
theorem RepL.pickN:∀(is:List Nat){ts:List Th}{xs:QR},RepL H ts xs->RepL H (L2.pickN is ts) (L2.pickN is xs)
 | [],_,_,_=>.nil
 | i::is,ts,xs,r=>by
  unfold L2.pickN;rw[Nn,Nn];have hl:=r.len;by_cases h:i < xs.length
  ·have e1:xs[i]? =some xs[i]:=JB h;have e2:ts[i]? =some (ts[i]'(by lia)):=JB (by lia);rw[e1,e2];exact .cons (r.at i _ _ e1 e2) (RepL.pickN is r)
  ·rw[JV (by lia),JV (by lia)];exact RepL.pickN is r
theorem zgU {is:List Nat}{xs:List α}{y:α}:y∈L2.pickN is xs↔∃i∈is,xs[i]? =some y:=by unfold L2.pickN;rw[List.mem_filterMap]
end Pv
namespace L2
open PySem PySem.Spec PyProof.Rows
section
variable {X:Cx}{x y1 y2 y3:Str}{scope:Scope}{j1 j2 j3:Nat}{c1 c2 c3:Addr}
def zm.three (clos:closureFor scope X.env=pure [(y1,c1),(y2,c2),(y3,c3)])(kind:scope.kind=.function)(nc:∀y∈scope.names,y.2≠ .cell)(nm:∀y∈scope.names,y.2=.local->scope.names.lookup y.1=some .local)(tgt:scope.names.lookup x=some .local)
  (n1:x≠y1) (n2:x≠y2) (n3:x≠y3) (n12:y1≠y2) (n13:y1≠y3) (n23:y2≠y3) (e1:X.env.cells.lookup y1=some c1) (e2:X.env.cells.lookup y2=some c2) (e3:X.env.cells.lookup y3=some c3) (only:∀q∈scope.names,q.2=.free->q.1=y1\/q.1=y2\/q.1=y3) (h1:X.N[j1]? =some y1) (h2:X.N[j2]? =some y2) (h3:X.N[j3]? =some y3)
  (k1:X.env.kindOf y1=some .cell\/X.env.kindOf y1=some .free) (k2:X.env.kindOf y2=some .cell\/X.env.kindOf y2=some .free) (k3:X.env.kindOf y3=some .cell\/X.env.kindOf y3=some .free)
  (r1:(relabel scope X.env).names.lookup y1=some .cell\/(relabel scope X.env).names.lookup y1=some .free) (r2:(relabel scope X.env).names.lookup y2=some .cell\/(relabel scope X.env).names.lookup y2=some .free) (r3:(relabel scope X.env).names.lookup y3=some .cell\/(relabel scope X.env).names.lookup y3=some .free):
  zm X x [y1,y2,y3] [j1,j2,j3] scope [(y1,c1),(y2,c2),(y3,c3)] where
 clos:=clos
 kind:=kind
 nocell:=nc
 names:=nm
 tgt:=tgt
 nd:=by simp[n1,n2,n3,n12,n13,n23]
 sub:=λp hp=>by
  rcases JD.mp hp with z | z
  ·rw[z];exact e1
  ·rcases JD.mp z with z | z
   ·rw[z];exact e2
   ·rw[Jj.mp z];exact e3
 has:=λp hp hk=>by
  have key:∀q:Str ×NameKind,q∈scope.names->q.2=.free->q.1∈ [(y1,c1),(y2,c2),(y3,c3)].map (·.1):=λq hq z=>by rcases only q hq z with z | z | z <;> simp[z]
  obtain⟨q,hq,e,h | h⟩:=zbo hp
  ·subst h;rcases hk with hk | hk
   ·exact Jf hk (nc _ hq)
   ·exact key _ hq hk
  ·rw[e];exact key _ hq h
 fr:=λi z e=>by
  match i,e with
  | 0,e=>cases e;exact⟨j1,rfl,h1,k1,r1⟩
  | 1,e=>cases e;exact⟨j2,rfl,h2,k2,r2⟩
  | 2,e=>cases e;exact⟨j3,rfl,h3,k3,r3⟩
  | i+3,e=>simp at e
 len:=rfl
end
end L2
namespace L2
open PySem PySem.Spec PyProof.Rows Px
section
variable {X:Cx}{x:Str}{ys:QQ}{js:List Nat}{scope:Scope}{cl:List (Str ×Addr)}{pins:QE}{σ:St}{H:Hp}{s:Shared}{E:XK}
variable {iter elt:Expr}{ifs:List Expr}{px pos:Pos}{wi:TI}{tt:TT}{te:TE}
def zlM {i:Nat}{y:Str}{py spos:Pos}(hst:X.stack=X.env::X.outer)(hfm:X.env.frame=some X.env.locals)(hex:X.ex=[])(hPN:zdu X E)(S:zm X x ys js scope cl)(hc:X.calm=true)(hi:PI X (.Name x px) iter wi)(ht:∀s₀ H₀ ex,PTs (cxC X (x::ys) scope cl s₀ H₀ ex) ifs tt)(he:∀s₀ H₀ ex,PE (cxE E X (x::ys) scope cl s₀ H₀ ex) elt te)
  (hN:X.N.Nodup) (hy:X.N[i]? =some y) (hx:Loc X.env.scope y) (hsw:swapsWith (.ListComp elt [⟨.Name x px,iter,ifs,0⟩] scope pos) (some (.Name y py)) spos.line X.env=pure true)
  (hf:X.fn y=true\/X.env.scope.names.lookup y=some .local:=by first | exact .inl rfl | exact .inr rfl | assumption)
  (hs:∀x,foldedSetIterable iter X.env x=pure x:=by intro _;rfl):PS X (.Assign [.Name y py] (.ListComp elt [⟨.Name x px,iter,ifs,0⟩] scope pos) spos) (tAsg (zgH wi js tt te) (zbN i)):=
 zgN (zqX hst hfm hex hPN S hc ht he) S hi hN hy hx hsw hf hs
end
end L2
set_option hygiene false
local macro_rules | `(tactic| infer_instance)=> `(tactic| first | assumption | rfl | exact Or.inl rfl | exact Or.inr rfl | exact Or.inr (Or.inl rfl) | exact Or.inr (Or.inr rfl) | exact zaZ | exact zq5 | exact ziT | exact PassesOwn.leaving | exact PassesOwn.never | exact zot | exact λ_=>rfl | exact λ_ _=>rfl | exact zqN (by assumption) | lia | decide)
local macro_rules | `(tactic| ac_rfl)=> `(tactic| first
 | (show PE _ _ _;first | (show PE _ (.Name _ _) _;first | apply pv 0 | apply pv 1 | apply pv 2 | apply pv 3 | apply pv 4 | apply pv 5 | apply pv 6 | apply pv 7 | apply pv 8 | apply pv 9 | apply pv 10 | apply pv 11 | apply pv 12 | apply pv 13 | apply pv 14 | (apply ztb <;> ac_rfl) | (apply bltT <;> ac_rfl) | (apply zti <;> ac_rfl)) | (show PE _ (.Constant _ _ _) _;first | apply zaH | apply zeg | apply znB | apply ztp) | (show PE _ (.Call (.Name _ _) _ _ _) _;first | (apply znR;assumption) <;> ac_rfl | (apply zd5;assumption) <;> ac_rfl | (apply znn;assumption) <;> ac_rfl | (first | (apply zar;case hv=>rfl) | (apply zd4;case hv=>rfl)) <;> ac_rfl | (apply zth <;> ac_rfl) | (apply zpj <;> ac_rfl) | (apply zhi <;> ac_rfl) | (apply zs8 <;> ac_rfl)) | (show PE _ (.Call _ _ _ _) _;first | ((first | apply zes | apply zsx);case M=>assumption) <;> ac_rfl | (apply zr7 <;> ac_rfl) | (apply zkS PySem.F.plainAttrs_list PySem.F.slot_list_append PySem.F.type_list_append zgY <;> ac_rfl) | (apply zkS PySem.F.plainAttrs_list PySem.F.slot_list_extend PySem.F.type_list_extend zlD <;> ac_rfl) | (apply zr6 PySem.F.plainAttrs_list PySem.F.slot_list_pop PySem.F.type_list_pop zrn <;> ac_rfl) | (apply zkS PySem.F.plainAttrs_str PySem.F.slot_str_join PySem.F.type_str_join zkJ <;> ac_rfl)) | (show PE _ (.Subscript _ _ _) _;first | (apply zfP <;> ac_rfl) | (apply zgv <;> ac_rfl) | (show PE _ (.Subscript (.Attribute _ _ _) _ _) _;apply zlp <;> ac_rfl) | (apply zbD <;> ac_rfl)) | (show PE _ (.Compare _ _ _ _) _;first | (show PE _ (.Compare _ _ [.Constant _ _ _] _) _;apply zak <;> ac_rfl) | (show PE _ (.Compare _ [.NotEq] [.List _ _] _) _;apply zak (zhW (by assumption)) <;> ac_rfl) | ((have:=θ;first | apply zak (zeZ (by assumption)) | apply zak (zhO (by assumption))) <;> ac_rfl) | ((apply pe_cmp;first | apply znX | apply zgW) <;> ac_rfl) | (apply zak <;> ac_rfl) | (apply znM <;> ac_rfl)) | (apply zrp <;> ac_rfl) | (apply zhh <;> ac_rfl) | (apply zkK <;> ac_rfl) | (apply zrX <;> ac_rfl) | (apply zfj <;> ac_rfl) | (apply ztm <;> ac_rfl) | (apply zsy <;> ac_rfl) | (apply zb0 <;> ac_rfl) | (apply zc9 <;> ac_rfl) | (apply zqP <;> ac_rfl) | apply zoI)
 | (show PA _ _ _;first | apply zS | (apply zq <;> ac_rfl))
 | (show PS _ _ _;first | (show PS _ (.Assign _ _ _) _;first | (apply setA 0;rfl) <;> ac_rfl | (apply setA 1;rfl) <;> ac_rfl | (apply setA 2;rfl) <;> ac_rfl | (apply setA 3;rfl) <;> ac_rfl | (apply setA 4;rfl) <;> ac_rfl | (apply setA 5;rfl) <;> ac_rfl | (apply setA 6;rfl) <;> ac_rfl | (apply setA 7;rfl) <;> ac_rfl | (apply setA 8;rfl) <;> ac_rfl | (apply setA 9;rfl) <;> ac_rfl | (apply setA 10;rfl) <;> ac_rfl | (apply setA 11;rfl) <;> ac_rfl | (apply setA 12;rfl) <;> ac_rfl | (apply setA 13;rfl) <;> ac_rfl | (apply setA 14;rfl) <;> ac_rfl | (show PS _ (.Assign [.Subscript (.Attribute _ _ _) _ _] _ _) _;apply zpl <;> ac_rfl) | (apply zrF <;> ac_rfl) | (apply zsn <;> ac_rfl)) | (apply zaa <;> ac_rfl) | (apply zcQ <;> ac_rfl) | (apply zbr <;> ac_rfl) | (apply zcy <;> ac_rfl) | (apply znr <;> ac_rfl) | (apply zoP <;> ac_rfl) | apply ziK)
 | (show PSs _ _ _;first | apply zai | (apply zw <;> ac_rfl) | (apply zf <;> ac_rfl))
 | (show PT _ _ _;first | (show PT _ (.Compare _ _ _ _) _;first | (show PT _ (.Compare _ _ [.Constant _ _ _] _) _;apply zaA <;> ac_rfl) | (show PT _ (.Compare _ [.NotEq] [.List _ _] _) _;apply zaA (zhW (by assumption)) <;> ac_rfl) | ((have:=θ;first | apply zaA (zeZ (by assumption)) | apply zaA (zhO (by assumption))) <;> ac_rfl) | ((apply zoB;first | apply znX | apply zgW) <;> ac_rfl) | (apply zaA <;> ac_rfl) | (apply ziy <;> ac_rfl)) | (apply znw <;> ac_rfl) | ((apply PW.pt;first | apply zka | apply zil) <;> ac_rfl) | (apply zsi <;> ac_rfl))
 | (show PW _ _ _;first | (apply zky <;> ac_rfl) | (apply zhM <;> ac_rfl) | (apply zka <;> ac_rfl) | (apply zil <;> ac_rfl))
 | (show OpR _ _ _;first | assumption | apply zsb | apply zsk | apply zqY | apply zs6 | apply zq9 | apply zqR | apply ztK | apply ztk | apply zsq | apply zqb | apply zrI | apply zn0 | apply zrW | apply zsl)
 | (show PI _ _ _ _;first | (apply zmq <;> ac_rfl) | (apply zg0 <;> ac_rfl) | (apply zsh <;> ac_rfl) | (apply zqo <;> ac_rfl) | (apply zrs <;> ac_rfl) | (apply zg9 <;> ac_rfl))
 | (show PG _ _ _;first | apply nameA 0 | apply nameA 1 | apply nameA 2 | apply nameA 3 | apply nameA 4 | apply nameA 5 | apply nameA 6 | apply nameA 7 | apply nameA 8 | apply nameA 9 | apply nameA 10 | apply nameA 11 | apply nameA 12 | apply nameA 13 | apply nameA 14 | (apply zr5 <;> ac_rfl) | (apply zrC <;> ac_rfl))
 | (show PGs _ _ _;first | apply zpp | (apply znx <;> ac_rfl))
 | (show zal _ _ _;first | apply za0 | apply zi9 | apply zol | apply zoJ | apply zlB | apply zhG | apply zbu)
 | (show PO _ _ _;first | apply zeQ | (apply zdz <;> ac_rfl))
 | (show _=_;first | rfl | assumption | exact zau _)
 | (show IxR _ _;first | (have:=ι;apply zfL) | apply zdH)
 | apply zlr
 | apply zr0
 | apply set_list
 | infer_instance)
set_option hygiene true
seal L2.PE L2.PT L2.PW L2.PA L2.PS L2.PSs L2.PC L2.PG L2.PGs L2.PSet L2.PI L2.OpR L2.UnR L2.zal L2.PO L2.SlR L2.IxR L2.PTs
namespace Pv
open PySem L2
abbrev zgF:Stmt:=top 88
abbrev zfn:Stmt:=top 89
abbrev zfw:Stmt:=top 90
abbrev zey:Stmt:=top 91
def szl {n:Nat}(h:n<=1000):n<=sizeLine:=Nat.le_of_lt (zlX h)
def RowV (H:Hp)(row:Addr):Prop:=∃a m:Int,H row=some (.lst [.int a,.int m])/\(m=0\/(m=1/\0<=a/\a < 999999937))
theorem not1 {a b:Addr}(h:a≠b):a∉ [b]:=λz=>h (Jj.mp z)
def zj {p:Addr}(sm:Same H H1)(h:H1 p=none):Same H (upd H1 p o):=λb u q=>by have q':=sm b u q;rw[zc (zd q' h)];exact q'
def zbB {p:Addr}(sm:Same H H1)(h:H p=none):Same H (upd H1 p o):=λb u q=>by rw[zc (zd q h)];exact sm b u q
def zdC {p:Addr}(f:Frm ws H H1)(h:H1 p=none):Frm ws H (upd H1 p o):=f.trans (Frm.new h)
def zbP {p:Addr}(f:Frm ws H H1)(h:H p=none):Frm ws H (upd H1 p o):=λb u n q=>by rw[zc (zd q h)];exact f b u n q
instance decSign (c:Nat):Decidable (Sign c):=inferInstanceAs (Decidable (32<=c/\c<=126/\c≠37))
def SGs:Str:=Str.ofString " !\"#$&'()*+,-./0123456789:;<=>?@ABCDEFGHIJKLMNOPQRSTUVWXYZ[\\]^_`" ++Str.ofString "abcdefghijklmnopqrstuvwxyz{|}~"
theorem zmS:SGs.cps.toList.length=94:=by decide+kernel
def zrL:∀c∈SGs.cps.toList,Sign c:=by decide+kernel
inductive ztc (vs:QR)(H:Hp)(Q:L2.VK)(_E:XK):Prop
 | mk (c:Int)(_:vs=[.int c])(_:∀(r:Addr)(H':Hp),Same H H'->RowV H' r->H r=none->Q (.ref r) H'):ztc vs H Q _E
inductive zrZ (vs:QR)(H:Hp)(Q:L2.VK)(_E:XK):Prop
 | mk (row:Addr)(many:Int)(_:vs=[.ref row,.int many])(_:RowV H row)(_:0 < many)(_:many < 10 ^ 100)(_:∀(r:Int)(H':Hp),0<=r->r < many->Frm [row] H H'->RowV H' row->Q (.int r) H'):zrZ vs H Q _E
inductive zsz (vs:QR)(H:Hp)(Q:L2.VK)(_E:XK):Prop
 | mk (row:Addr)(_:vs=[.ref row])(_:RowV H row)(_:∀(x:Str)(H':Hp),ziD x->Frm [row] H H'->RowV H' row->Q (.str x) H'):zsz vs H Q _E
def many (n:Nat):Nat:=(3 ^ (n+1) - 1) / 2
inductive zpS (n:Nat)(vs:QR)(H:Hp)(Q:L2.VK)(_E:XK):Prop
 | mk (row:Addr)(deep:Nat)(_:vs=[.ref row,.int (deep:Int)]) (_:RowV H row) (_:deep < n) (_:deep<=3) (_:∀(t:Th)(v:V)(H':Hp),Wf t->dep t<=deep->nodes t<=many deep->Frm [row] H H'->RowV H' row->Rep H' t v->Q v H'):zpS n vs H Q _E
def _root_.Pv.Frm.none_of {row p:Addr}(f:Frm [row] H H')(h:H' p=none)(n:p≠row):H p=none:=by
 cases e:H p with
 | none=>rfl
 | some o=>rw[f p o (not1 n) e] at h;cases h
def zr1 {c:Bool}{A B:Prop}{N:L2.St->Hp->Prop}(Pq:L2.St->Hp->Prop)(b:c=false->(∀σ H,Pq σ H->N σ H)->B)(a:c=true->(∀σ H,Pq σ H->N σ H)->A)(rest:∀σ H,Pq σ H->N σ H):if c=true then A else B:=
 ifB (λh=>a h rest) (λh=>b h rest)
theorem zk3:∀ds:List Nat,(((ds.map λc=>tx [c])).map (·.length)).sum=ds.length
 | []=>rfl
 | d::r=>by have:=zk3 r;rw[JS,JS,List.sum_cons,this,JK,zm2];show 1+r.length=r.length+1;lia
theorem zmT (ds:List Nat):Str.join (Str.ofString "") (ds.map λc=>tx [c])=tx ds:=by
 rw[show Str.ofString "" =tx [] from rfl,show(ds.map λc=>tx [c])=(ds.map λc=>[c]).map tx from by rw[List.map_map];rfl,zqj];congr 1
 induction ds with
 | nil=>rfl
 | cons d r ih=>rw[JS,List.flatten_cons,ih];rfl
def zt2 {n:Nat}(h:n<=3):many n<=40:=by
 match n,h with
 | 0,_=>decide
 | 1,_=>decide
 | 2,_=>decide
 | 3,_=>decide
def zl4 {n:Nat}(h:n<=2):1+3 * many n<=many (n+1):=by
 match n,h with
 | 0,_=>decide
 | 1,_=>decide
 | 2,_=>decide
def zi3 {n:Nat}(h:n<=3):1<=many n:=by
 match n,h with
 | 0,_=>decide
 | 1,_=>decide
 | 2,_=>decide
 | 3,_=>decide
abbrev zq4:Stmt:=top 18
abbrev zoi:Stmt:=top 19
abbrev zfx:Stmt:=top 20
inductive zh5 (vs:QR)(H:Hp)(Q:L2.VK)(_E:XK):Prop
 | mk (x:Str)(_:vs=[.str x])(_:Q (.int (numOf x.cps.toList)) H):zh5 vs H Q _E
inductive zhj (n:Nat)(vs:QR)(H:Hp)(Q:L2.VK)(_E:XK):Prop
 | mk (t:Th)(v:V)(_:vs=[v])(_:Rep H t v)(_:Wf t)(_:dep t < n)(_:nodes t<=100)(_:∀(r:Addr)(H':Hp),Same H H'->H' r=some (.lst ((zam t).map V.int))->Q (.ref r) H'):zhj n vs H Q _E
inductive zeb (vs:QR)(H:Hp)(Q:L2.VK)(_E:XK):Prop
 | mk (t:Th)(v:V)(_:vs=[v])(_:Rep H t v)(_:Wf t)(_:dep t < 10)(_:nodes t<=100)(_:∀(H':Hp),Same H H'->Q (.int (zh t)) H'):zeb vs H Q _E
def zhg (D:Dfn K mg "number_of" zfx ["signs"]) (m_ord:mg "ord" =none):Fn P w K mg base "number_of" 1 ["signs"] zh5:=by
 refine D.ok (k:=0) (fsN ["signs","number","sign"]) (λ_ _ _ _ _ H _ Q E hr h=>?_);obtain⟨x,rfl,q⟩:=h;refine⟨_,(zf (by ac_rfl)
 (zf (zcy PassesOwn.never rfl (znq (pv 0)) (by ac_rfl)
 (by ac_rfl))
 (by ac_rfl))),?_⟩
 refine⟨_,rfl,x,rfl,?_⟩;refine zkL (z:=x) (λi σ H'=>H'=H/\∃kk,σ=[some (.str x),some (.int (numOf (x.cps.toList.take i))),kk]) ⟨rfl,_,rfl⟩ ?_ ?_
 ·rintro i c σ H' hc ⟨rfl,kk,rfl⟩;refine⟨_,rfl,_,_,rfl,rfl,.inr ⟨by decide,by decide⟩,_,rfl,_,rfl,rfl,_,_,rfl,rfl,rfl,some (.str ⟨#[c]⟩),?_⟩;have e:x.cps.toList.take (i+1)=x.cps.toList.take i++ [c]:=by rw[Na,JZ,hc];rfl
  rw[e,zjE]
  rfl
 ·rintro σ H' ⟨rfl,kk,rfl⟩;refine⟨_,rfl,?_⟩;have e:x.cps.toList.take x.cps.size=x.cps.toList:=Jr (by simp);rw[e];exact q
abbrev _root_.Se:List PySem.Str:=["thing"]
theorem zi1 (D:Dfn K mg "codes" zoi Se) (zjh:Fn P w K mg base "number_of" 1 ["signs"] zh5) (zk:mg "isinstance" =none) (zbs:mg "int" =none) (zeI:mg "str" =none) (zaC:mg "range" =none) (zC:mg "len" =none):
  ∀n:Nat,Fn P w K mg base "codes" (n+2) Se (zhj n)
 | 0=>D.never λvs H Q E h=>by obtain⟨t,v,_,_,_,h1,_⟩:=h;lia
 | n+1=>by
  have zqs:=zi1 D zjh zk zbs zeI zaC zC n;refine D.ok (k:=n+2) (fsN ["thing","raised","sevens","row","part"]) (λ_ _ _ _ s H _ Q E hr h=>?_);obtain⟨t,v,rfl,hrep,hwf,hdep,hnod,q⟩:=h;have hlen:=zd8 t hwf;refine⟨_,(zf (by ac_rfl)
 (zf (by ac_rfl)
 (zf (zbr (by ac_rfl)
 (zf (zny (i:=2) (zm.one (y:= "thing") (j:=0) (c:=s.heap.objs.size+1) (by rfl) (by rfl) (by decide+kernel) (by decide+kernel) (by rfl) (by decide+kernel) (by rfl) (by decide+kernel) (by rfl) (by first | exact Or.inl rfl | exact Or.inr rfl) (by first | exact Or.inl rfl | exact Or.inr rfl)) rfl (zg0 rfl zaC (zq zaH (zq (zar (zal.or za0 za1) (by rfl) zC (by rfl) (by ac_rfl)) (zq zaH zS)))) (λ_ _ _=>zaO) (λ_ _ _=>(zfP zrB (pv 1) (zdz (pv 0)) (zdz (by ac_rfl)))) (zfs rfl) rfl (Or.inl rfl) (by rfl))
 (zw (zaa (zkK zoA (zhh (zq zaH (zq (zar (zal.or za0 za1) (by rfl) zC (by rfl) (by ac_rfl)) zS))) (za8 (zm.zero (by rfl) (by decide+kernel) (by decide+kernel) (by decide+kernel) (by rfl)) rfl (by ac_rfl) (λ_ _ _=>zaO) (λ_ _ _=>(by ac_rfl)))))))
 zai)
 (zf (setA 3 rfl (zhh (zq zaH (zq (zar (zal.or za0 za1) (by rfl) zC (by rfl) (by ac_rfl)) zS))))
 (zf (zcy PassesOwn.never rfl (zjJ (pv 0)) (by ac_rfl)
 (by ac_rfl))
 (by ac_rfl)))))),?_⟩
  refine⟨_,rfl,rfl,_,rfl,?_⟩;cases hrep with
  | non=>refine ifT (by decide) ?_;refine⟨szl (show 1<=1000 by decide),λp hp=>?_⟩;exact q p _ (Frm.new hp).same za
  | int i=>refine ifF (by rfl) ?_;refine⟨_,rfl,_,_,_,_,rfl,.int i,rfl,_,rfl,?_⟩;refine ifT rfl ?_;refine⟨_,rfl,_,_,rfl,rfl,⟨by decide,by decide,by decide⟩,_,_,rfl,rfl,?_⟩;refine⟨_,rfl,_,_,rfl,rfl,⟨by decide,by decide,by decide⟩,_,_,rfl,rfl,⟨by decide+kernel,by decide+kernel⟩,_,rfl,_,_,rfl,rfl,⟨by decide,by decide,by decide⟩,_,_,rfl,rfl,(show(0:Int) < 10 ^ (15:Int).toNat by decide+kernel),szl (show 3<=1000 by decide),λp hp=>?_⟩;exact q p _ (Frm.new hp).same za
  | str x=>
   have hx:x.length<=60:=hwf.1;refine ifF (by rfl) ?_;refine⟨_,rfl,_,_,_,_,rfl,.str x,rfl,_,rfl,?_⟩;refine ifF rfl ?_;refine⟨_,rfl,_,_,_,_,rfl,.str x,rfl,_,rfl,?_⟩;refine ifT rfl ?_;refine⟨_,rfl,.inr ⟨x,rfl,szl (by lia),?_⟩⟩;refine⟨_,_,rfl,by lia,by lia,by decide,by decide,λp hp=>?_⟩;rw[zlE];refine zaL (J:=Itrs 0 7 (zaY x)) (n:=zaY x) (λi acc H'=>acc=(List.range i).map (λk=>V.str (zhE x k))/\H'=upd H p (.lst acc)) ⟨rfl,rfl⟩ (by exact λi acc H' hi _=>hi) (by exact λacc H' _=>Jb _) ?_ ?_
   ·rintro i acc H' y H'' hi ⟨ha,rfl⟩ ⟨e1,e2⟩;subst e1 e2;refine tt1 ?_;refine⟨_,rfl,_,rfl,_,rfl,_,rfl,_,_,rfl,rfl,_,rfl,x,rfl,szl (by lia),?_⟩;have hal:acc.length=i:=by rw[ha,JE,Nz]
    refine⟨za,Je (show acc.length < 1000 by unfold zaY at hi;lia) (szl (Jb _)),nxt hi ⟨?_,zlk⟩⟩;rw[List.range_succ,JR,ha,zmr hi]
    rfl
   ·rintro acc H' ⟨ha,rfl⟩;refine⟨_,rfl,.inr ⟨x,rfl,szl (by lia),szl (show 2<=1000 by decide),λp2 hp2=>?_⟩⟩;have np:p≠p2:=λz=>by rw[<-z,za] at hp2;cases hp2
    have ep:upd (upd H p (.lst acc)) p2 (.lst [.int 3,.int (x.length:Nat)]) p=some (.lst acc):=by rw[zc np];exact za
    have hal:acc.length=zaY x:=by rw[ha,JE,Nz]
    refine⟨_,rfl,p,rfl,⟨_,SqL.of ep⟩,λp3 hp3=>?_⟩;have np3:p≠p3:=(zd ep hp3);have np23:p2≠p3:=(zd za hp3);refine zaL (n:=zaY x) (λi acc' H'=>acc'=(List.range i).map (λk=>V.int (numOf (chunk x k)))/\H'=upd (upd (upd H p (.lst acc)) p2 (.lst [.int 3,.int (x.length:Nat)])) p3 (.lst acc')) ⟨rfl,rfl⟩ ?_ ?_ ?_ ?_
    ·rintro i acc' H' hi ⟨_,rfl⟩;exact⟨acc,acc[i],SqL.of (by rw[zc np3];exact ep),by rw[JB]⟩
    ·rintro acc' H' ⟨_,rfl⟩;exact⟨acc,SqL.of (by rw[zc np3];exact ep),by lia⟩
    ·rintro i acc' H' y H'' hi ⟨ha',rfl⟩ ⟨e1,e2⟩;subst e1;have ey:=e2 acc (SqL.of (by rw[zc np3];exact ep));have ey2:y=V.str (zhE x i):=by rw[ha,JQ,List.getElem?_range hi] at ey;exact(JO ey).symm
     subst ey2;refine tt1 ?_;refine⟨_,rfl,_,rfl,za,?_,nxt hi ⟨?_,zlk⟩⟩
     ·have:acc'.length=i:=by rw[ha',JE,Nz]
      exact Je (show acc'.length < 1000 by unfold zaY at hi;lia) (szl (Jb _))
     ·rw[List.range_succ,JR,ha']
      rfl
    ·rintro acc' H' ⟨ha',rfl⟩;have hal':acc'.length=zaY x:=by rw[ha',JE,Nz]
     refine⟨p2,p3,[.int 3,.int (x.length:Nat)],acc',rfl,rfl,by rw[zc np23];exact za,za,szl (show 2+acc'.length<=1000 by unfold zaY at hal';lia),λr hr'=>?_⟩
     refine q r _ (λb o hb=>?_) ?_
     ·have n1:=zd hb hp;have e1:upd H p (.lst acc) b=some o:=by rw[zc n1];exact hb
      have n2:=zd e1 hp2;have e2:upd (upd H p (.lst acc)) p2 (.lst [.int 3,.int (x.length:Nat)]) b=some o:=by rw[zc n2];exact e1
      have n3:=zd e2 hp3;have e3:upd (upd (upd H p (.lst acc)) p2 (.lst [.int 3,.int (x.length:Nat)])) p3 (.lst acc') b=some o:=by rw[zc n3];exact e2
      rw[zc (zd e3 hr')];exact e3
     ·rw[za,ha'];show some (HO.lst ([V.int 3,V.int (x.length:Nat)]++_))=some (HO.lst (([3,(x.length:Int)]++zdZ x).map V.int));rw[JR];unfold zdZ;rw[List.map_map]
      rfl
  | @tup a xs ts e hl hrs=>
   have hw:ts.length<=40:=hwf.1;refine ifF (by rfl) ?_;refine⟨_,rfl,_,_,_,_,rfl,.tup e,rfl,_,rfl,?_⟩;refine ifF rfl ?_;refine⟨_,rfl,_,_,_,_,rfl,.tup e,rfl,_,rfl,?_⟩;refine ifF rfl ?_;refine⟨_,rfl,.inl ⟨a,_,rfl,.inr (SqT.of e),szl (show 2<=1000 by decide),λrw hrw=>?_⟩⟩;have nra:a≠rw:=zd e hrw;have keepT:∀{H':Hp},Same H H'->Tups H H':=λz=>Same.tups z;refine⟨_,rfl,a,rfl,⟨_,SqT.of (by rw[zc nra];exact e)⟩,?_⟩;refine zlc (xs:=xs) (λi σ H'=>∃kk,σ=[some (.ref a),none,none,some (.ref rw),kk]/\Same H H'/\H' rw=some (.lst (([4,(ts.length:Int)]++zab (ts.take i)).map V.int))) ⟨_,rfl,(Frm.new hrw).same,?_⟩ ?_ ?_ ?_
   ·rw[za,hl]
    rfl
   ·rintro i σ H' hi ⟨kk,rfl,sm,er⟩;exact SqT.of (sm _ _ e)
   ·rintro i x σ H' hx ⟨kk,rfl,sm,er⟩;have hil:i < ts.length:=by rw[<-hl];exact(JH.mp hx).1
    have ht:ts[i]? =some ts[i]:=JB hil;have hcl:=zde ts hwf.2;have hcl':=zca ts i;have hcn:1+zK ts<=100:=hnod;have hsub:nodes ts[i]<=zK ts:=zdd ht;refine⟨_,rfl,.inl ⟨rfl,_,SqL.of er⟩,_,rfl,ts[i],x,rfl,(hrs i x _ hx ht).keep (keepT sm),hwf.2.get ht,?_,by lia,λr H2 sm2 er2=>?_⟩
    ·have:=zay ht;have:depL ts+1 < n+1:=hdep;lia
    have hc1:=zd8 ts[i] (hwf.2.get ht);refine⟨rw,r,_,_,rfl,rfl,sm2 _ _ er,er2,szL ?_,?_⟩
    ·simp only[JE,JI,JK,Nx];lia
    ·refine⟨_,rfl,λb o hb=>?_,?_⟩
     ·rw[zc (zd hb hrw)];exact sm2 _ _ (sm _ _ hb)
     ·rw[za,ziZ ht];simp only[JR,Ng]
   ·rintro σ H' ⟨kk,rfl,sm,er⟩;refine⟨_,rfl,q rw H' sm ?_⟩;rw[er,hl,J1]
    rfl
def zpe (D:Dfn K mg "seal" zq4 Se) (zqs:Fn P w K mg base "codes" 12 Se (zhj 10)):Fn P w K mg base "seal" 13 Se zeb:=by
 refine D.ok (k:=12) (fsN ["thing","folded","code"]) (λ_ _ _ _ _ H _ Q E hr h=>?_);obtain⟨t,v,rfl,hrep,hwf,hdep,hnod,q⟩:=h;refine⟨_,(by ac_rfl),?_⟩;refine⟨_,rfl,t,v,rfl,hrep,hwf,hdep,hnod,λr H1 sm er=>?_⟩;refine⟨r,rfl,⟨_,SqL.of er⟩,?_⟩;refine zck (xs:=(zam t).map V.int) (λi σ H'=>H'=H1/\∃kk,σ=[some v,some (.int (zdk ((zam t).take i))),kk]) ⟨rfl,_,rfl⟩ ?_ ?_ ?_
 ·rintro i σ H' _ ⟨rfl,_⟩;exact SqL.of er
 ·rintro i x σ H' hx ⟨rfl,kk,rfl⟩;rw[JQ] at hx;obtain⟨c,hc,rfl⟩:=Option.map_eq_some_iff.mp hx;have rg:=zeH ((zam t).take i);have e61:(2:Int) ^ (61:Int).toNat - 1=2305843009213693951:=by decide+kernel
  refine⟨_,rfl,_,_,rfl,rfl,.inl ⟨by lia,by lia⟩,_,rfl,_,_,rfl,rfl,_,_,rfl,rfl,⟨by decide,by decide,by decide⟩,_,_,rfl,rfl,_,_,rfl,rfl,(show(0:Int) < 2 ^ (61:Int).toNat - 1 by decide+kernel),rfl,some (.int c),?_⟩;rw[zjN hc,<-e61]
  rfl
 ·rintro σ H' ⟨rfl,kk,rfl⟩;refine⟨_,rfl,_,_,rfl,rfl,?_⟩;rw[JE,J1];exact q _ sm
abbrev zij:Stmt:=top 31
abbrev znc:Stmt:=top 32
abbrev zaT:Stmt:=top 33
inductive zkh (vs:QR)(H:Hp)(Q:L2.VK)(_E:XK):Prop
 | mk (t:Th)(v:V)(_:vs=[v])(_:Rep H t v)(_:Q (.int (zaq t)) H):zkh vs H Q _E
inductive zaz (n:Nat)(vs:QR)(H:Hp)(Q:L2.VK)(_E:XK):Prop
 | mk (t u:Th)(v w:V)(_:vs=[v,w])(_:Rep H t v)(_:Rep H u w)(_:dep t < n)(_:dep t<=40)(_:∀H':Hp,Same H H'->Q (.bl (zb t u)) H'):zaz n vs H Q _E
inductive zjb (n:Nat)(vs:QR)(H:Hp)(Q:L2.VK)(_E:XK):Prop
 | mk (ts us:List Th)(v w:V)(_:vs=[v,w])(_:Rep H (.tup ts) v) (_:Rep H (.tup us) w) (_:depL ts < n) (_:depL ts<=39) (_:∀H':Hp,Same H H'->Q (.bl (zaI ts us)) H'):zjb n vs H Q _E
def zqe (D:Dfn K mg "kind_of" zij Se) (zk:mg "isinstance" =none) (zbs:mg "int" =none) (zeI:mg "str" =none):Fn P w K mg base "kind_of" 1 Se zkh:=by
 refine D.ok (k:=0) (fsN Se) (λ_ _ _ _ _ H _ Q E hr h=>?_);obtain⟨t,v,rfl,rt,q⟩:=h;refine⟨_,(by ac_rfl),?_⟩;refine⟨_,rfl,rfl,_,rfl,?_⟩;cases rt with
 | non=>exact ifT (by decide) q
 | int i=>refine ifF (by rfl) ?_;refine⟨_,rfl,_,_,_,_,rfl,.int i,rfl,_,rfl,?_⟩;exact ifT rfl q
 | str x=>refine ifF (by rfl) ?_;refine⟨_,rfl,_,_,_,_,rfl,.str x,rfl,_,rfl,?_⟩;refine ifF rfl ?_;refine⟨_,rfl,_,_,_,_,rfl,.str x,rfl,_,rfl,?_⟩;exact ifT rfl q
 | tup e l h=>refine ifF (by rfl) ?_;refine⟨_,rfl,_,_,_,_,rfl,.tup e,rfl,_,rfl,?_⟩;refine ifF rfl ?_;refine⟨_,rfl,_,_,_,_,rfl,.tup e,rfl,_,rfl,?_⟩;exact ifF rfl q
abbrev _root_.Sk:List PySem.Str:=["one","other"]
def zlO {n:Nat}(D:Dfn K mg "is_tuple_ahead" zaT Sk) (zaQ:Fn P w K mg base "ahead" (2 * n+2) Sk (zaz n)) (zji:mg "zip" =none) (zC:mg "len" =none):Fn P w K mg base "is_tuple_ahead" (2 * n+3) Sk (zjb n):=by
 refine D.ok (k:=2 * n+2) (fsN ["one","other","mine","its"]) (λ_ _ _ _ _ H _ Q E hr h=>?_);obtain⟨ts,us,v,w,rfl,r1,r2,hd,hd40,q⟩:=h;cases r1 with
 | @tup a xs _ e1 l1 h1=>
 cases r2 with
 | @tup b ys _ e2 l2 h2=>
 refine⟨_,(by have θ:=0;ac_rfl),?_⟩;refine⟨_,rfl,_,rfl,a,b,xs,ys,rfl,SqT.of e1,SqT.of e2,?_⟩;refine zpG (K:=K) (p:=a) (q:=b) (xs:=xs) (us:=ys) (λi σ H'=>∃k2 k3,σ=[some (.ref a),some (.ref b),k2,k3]/\Same H H'/\zaI ts us=zaI (ts.drop i) (us.drop i)) ⟨_,_,rfl,Same.refl _,rfl⟩ ?_ ?_ ?_
 ·rintro i σ H1 ⟨k2,k3,rfl,sm,_⟩;exact⟨SqT.of (sm _ _ e1),SqT.of (sm _ _ e2)⟩
 ·rintro i x u T σ H1 hx hu hT ⟨k2,k3,rfl,sm,ea⟩;have hi:i < ts.length:=by rw[<-l1];exact(JH.mp hx).1
  have hj:i < us.length:=by rw[<-l2];exact(JH.mp hu).1
  have ht:ts[i]? =some ts[i]:=JB hi;have hv:us[i]? =some us[i]:=JB hj;have tk:Tups H (upd H1 T (.tup [x,u])):=(Same.tups sm).trans (Tups.new hT);have ra:=(h1 i x _ hx ht).keep tk;have rb:=(h2 i u _ hu hv).keep tk;have hdi:=zay ht;refine⟨T,_,rfl,SqT.of za,rfl,_,_,rfl,_,_,rfl,rfl,?_⟩;refine⟨_,rfl,_,rfl,ts[i],us[i],ra,rb,by lia,_,rfl,?_⟩;have sm':Same H (upd H1 T (.tup [x,u])):=λc o hc=>by rw[zc (zd (sm _ _ hc) hT)];exact sm _ _ hc
  rw[zjd hi hj] at ea;refine ifB (λc=>?_) (λc=>?_)
  ·have ne:¬eqT ts[i] us[i]=true:=by intro z;rw[z] at c;cases c
   rw[if_neg ne] at ea;refine⟨_,rfl,_,rfl,ts[i],us[i],_,_,rfl,ra,rb,by lia,by lia,λH2 s2=>?_⟩;rw[<-ea];exact q H2 (sm'.trans s2)
  ·have eq:eqT ts[i] us[i]=true:=by
    cases z:eqT ts[i] us[i] with
    | true=>rfl
    | false=>rw[z] at c;cases c
   rw[if_pos eq] at ea;exact⟨_,_,rfl,sm',ea⟩
 ·rintro σ H1 ⟨k2,k3,rfl,sm,ea⟩;refine⟨_,rfl,a,_,rfl,.inr (SqT.of (sm _ _ e1)),_,rfl,b,_,rfl,.inr (SqT.of (sm _ _ e2)),_,_,rfl,rfl,?_⟩;rw[l1,l2,zj2] at ea;have ed:decide ((xs.length:Int) < (ys.length:Int))=zaI ts us:=by rw[ea,l1,l2];rw[Np];simp
  show Q (.bl (decide ((xs.length:Int) < (ys.length:Int)))) H1;rw[ed];exact q H1 sm
theorem ziW (Da:Dfn K mg "ahead" znc Sk) (Dt:Dfn K mg "is_tuple_ahead" zaT Sk) (zmC:Fn P w K mg base "kind_of" 1 Se zkh) (zji:mg "zip" =none) (zC:mg "len" =none) (zk:mg "isinstance" =none) (zO:mg "tuple" =none):
  ∀n:Nat,Fn P w K mg base "ahead" (2 * n+2) Sk (zaz n)
 | 0=>Da.never λvs H Q E h=>by obtain⟨t,u,v,w,_,_,_,h1,_⟩:=h;lia
 | n+1=>by
  have zmD:=zlO Dt (ziW Da Dt zmC zji zC zk zO n) zji zC;refine Da.ok (k:=2 * n+3) (fsN ["one","other","kind"]) (λ_ _ _ _ _ H _ Q E hr h=>?_);obtain⟨t,u,v,w,rfl,r1,r2,hd,hd40,q⟩:=h;refine⟨_,(zf (by ac_rfl)
 (zf (by ac_rfl)
 (zf (by ac_rfl)
 (zf (by ac_rfl)
 (zw (zaa (zak (OpR.or zq9 zmf) (pv 0) (pv 1) (zau _)))))))),?_⟩
  refine⟨_,rfl,t,v,rfl,r1,?_⟩;refine⟨_,rfl,_,rfl,u,w,rfl,r2,rfl,_,rfl,?_⟩;rw[zE];refine ifB (λc=>?_) (λc=>?_)
  ·have ne:zaq t≠zaq u:=λz=>by rw[decide_eq_true z] at c;cases c
   refine⟨_,rfl,_,rfl,u,w,rfl,r2,_,_,rfl,rfl,?_⟩;show Q (.bl (decide (zaq t < zaq u))) H;rw[<-ziP ne];exact q H (Same.refl _)
  ·have eq:zaq t=zaq u:=by
    by_cases z:zaq t=zaq u
    ·exact z
    ·rw[Jd z] at c;cases c
   refine⟨_,rfl,rfl,_,rfl,?_⟩;cases r1 with
   | non=>
    refine ifT (by decide) ?_;cases r2 with
    | non=>exact q H (Same.refl _)
    | int i=>exact Jf eq (by show(0:Int)≠1;decide)
    | str x=>exact Jf eq (by show(0:Int)≠2;decide)
    | tup e l h=>exact Jf eq (by show(0:Int)≠3;decide)
   | int i=>
    refine ifF (by rfl) ?_;refine⟨_,rfl,_,_,_,_,rfl,.int i,rfl,_,rfl,?_⟩;refine ifF rfl ?_;cases r2 with
    | non=>exact Jf eq (by show(1:Int)≠0;decide)
    | int j=>exact⟨_,rfl,_,rfl,.inl ⟨_,_,rfl,rfl,q H (Same.refl _)⟩⟩
    | str x=>exact Jf eq (by show(1:Int)≠2;decide)
    | tup e l h=>exact Jf eq (by show(1:Int)≠3;decide)
   | str x=>
    refine ifF (by rfl) ?_;refine⟨_,rfl,_,_,_,_,rfl,.str x,rfl,_,rfl,?_⟩;refine ifF rfl ?_;cases r2 with
    | non=>exact Jf eq (by show(2:Int)≠0;decide)
    | int j=>exact Jf eq (by show(2:Int)≠1;decide)
    | str y=>exact⟨_,rfl,_,rfl,.inr ⟨_,_,rfl,rfl,q H (Same.refl _)⟩⟩
    | tup e l h=>exact Jf eq (by show(2:Int)≠3;decide)
   | @tup a xs ts e l h=>
    refine ifF (by rfl) ?_;refine⟨_,rfl,_,_,_,_,rfl,.tup e,rfl,_,rfl,?_⟩;refine ifT rfl ?_;cases r2 with
    | non=>exact Jf eq (by show(3:Int)≠0;decide)
    | int j=>exact Jf eq (by show(3:Int)≠1;decide)
    | str y=>exact Jf eq (by show(3:Int)≠2;decide)
    | @tup b ys us e' l' h'=>have hd':depL ts+1 < n+1:=hd;have hd'':depL ts+1<=40:=hd40;exact⟨_,rfl,_,rfl,ts,us,_,_,rfl,.tup e l h,.tup e' l' h',by lia,by lia,λH2 s2=>q H2 s2⟩
abbrev zZ:Stmt:=inClass (top 36) 0
abbrev zN:Stmt:=inClass (top 36) 1
abbrev zdc:Stmt:=inClass (top 36) 2
abbrev zbQ:Stmt:=inClass (top 36) 3
abbrev zaS:Stmt:=inClass (top 5) 0
structure Good (t:Th):Prop where
 wf:Wf t
 dp:dep t<=8
 nd:nodes t<=80
structure Flds (fs:QI)(d:Addr):Prop where
 la:fs.lookup ("laid" :Str)=some (V.ref d)
 n1:fs.lookup ("refuse_clash" :Str)=none
 n2:fs.lookup ("lay" :Str)=none
 n3:fs.lookup ("thing" :Str)=none
 n4:fs.lookup ("things" :Str)=none
 n5:fs.lookup ("paper" :Str)=none
def zkD (d:Addr):Flds [("laid",.ref d)] d:=⟨rfl,rfl,rfl,rfl,rfl,rfl⟩
structure VOk (H:Hp)(C a d:Addr)(kvs:QG):Prop where
 ob:∃dx fs,H a=some (.ins C dx fs)/\Flds fs d
 di:H d=some (.dK kvs)
theorem VOk.keep (v:VOk H C a d kvs)(s:Same H H'):VOk H' C a d kvs:=by obtain⟨⟨dx,fs,e,f⟩,e2⟩:=v;exact⟨⟨dx,fs,s _ _ e,f⟩,s _ _ e2⟩
def zbV (H:Hp)(kvs:QG):Prop:=∀(n:Int)(v:V),valV kvs (.inl n)=some v->∃t,Rep H t v/\Good t/\zh t=n
theorem zbV.keep (l:zbV H kvs)(s:Tups H H'):zbV H' kvs:=λn v e=>by obtain⟨t,r,g⟩:=l n v e;exact⟨t,r.keep s,g⟩
def zh1 (E:XK)(CC:Addr)(H:Hp)(t1 t2:Th)(v1 v2:V):Prop:=∀(H':Hp)(x:Addr),Same H H'->H' x=some (xdO x [("one",v1),("other",v2)])->E (.ref CC) (some x) H'
inductive zbj (C:Addr)(vs:QR)(H:Hp)(Q:L2.VK)(_E:XK):Prop
 | mk (a dx:Addr)(_:vs=[.ref a])(_:H a=some (.ins C dx [])) (_:∀d,H d=none->Q .non (upd (upd H d (.dK [])) a (.ins C dx [("laid",.ref d)]))):zbj C vs H Q _E
inductive zhl (CC:Addr)(vs:QR)(H:Hp)(Q:L2.VK)(_E:XK):Prop
 | mk (x:Addr)(v1 v2:V)(_:vs=[.ref x,v1,v2])(_:H x=some (exO x CC none true)) (_:∀d,H d=none->d≠x->Q .non (upd (upd (upd H d (xdO d [("one",v1)])) x (exO x CC (some d) true)) d (xdO d [("one",v1),("other",v2)]))):zhl CC vs H Q _E
inductive zcz (C CC:Addr)(vs:QR)(H:Hp)(Q:L2.VK)(E:XK):Prop
 | mk (a d:Addr)(kvs:QG)(n:Int)(t:Th)(v:V)(_:vs=[.ref a,.int n,v])(_:VOk H C a d kvs)(_:zbV H kvs)(_:Rep H t v)(_:Good t)(_:zh t=n)(_:((∀t1 v1,valV kvs (.inl n)=some v1->Rep H t1 v1->t1=t)->Q .non H)) (_:(∀t1 v1,valV kvs (.inl n)=some v1->Rep H t1 v1->Good t1->zh t1=zh t->t1≠t->zh1 E CC H t1 t v1 v)):zcz C CC vs H Q E
inductive zlf (C CC:Addr)(vs:QR)(H:Hp)(Q:L2.VK)(E:XK):Prop
 | mk (a d:Addr)(kvs:QG)(t:Th)(v:V)(_:vs=[.ref a,v])(_:VOk H C a d kvs)(_:zbV H kvs)(_:kvs.length<=1000000)(_:Rep H t v)(_:Good t)(_:(∀H',Same H H'->(∀t1 v1,valV kvs (.inl (zh t))=some v1->Rep H t1 v1->t1=t)->Q (.int (zh t)) (upd H' d (.dK (putK kvs (.inl (zh t)) v))))) (_:(∀t1 v1 H',Same H H'->valV kvs (.inl (zh t))=some v1->Rep H' t1 v1->Good t1->zh t1=zh t->t1≠t->zh1 E CC H' t1 t v1 v)):zlf C CC vs H Q E
inductive zoO (C:Addr)(vs:QR)(H:Hp)(Q:L2.VK)(_E:XK):Prop
 | mk (a d:Addr)(kvs:QG)(n:Int)(v:V)(_:vs=[.ref a,.int n])(_:VOk H C a d kvs)(_:valV kvs (.inl n)=some v) (_:Q v H):zoO C vs H Q _E
inductive zdo (C CN:Addr)(vs:QR)(H:Hp)(Q:L2.VK)(E:XK):Prop
 | mk (a d:Addr)(kvs:QG)(n:Int)(_:vs=[.ref a,.int n])(_:VOk H C a d kvs)(_:(∀v,valV kvs (.inl n)=some v->Q v H)) (_:(valV kvs (.inl n)=none->E (.ref CN) none H)):zdo C CN vs H Q E
def DRep.laidOk {cs:QF}(r:DRep H cs kvs)(g:∀p∈cs,Good p.2/\zh p.2=p.1):zbV H kvs:=λn v e=>by obtain⟨t,e1,rv⟩:=r.back e;obtain⟨g1,g2⟩:=g _ (zd7 e1);exact⟨t,rv,g1,g2⟩
theorem znZ (v1 v2:V):putF ("other" :Str) v2 [(("one" :Str),v1)]=[(("one" :Str),v1),(("other" :Str),v2)]:=by
 unfold putF;rw[if_neg (by decide)]
 rfl
def Rep.uniq (r:Rep H t v):Rep H u v->t=u:=by
 induction r generalizing u with
 | non=>intro q;cases q;rfl
 | int i=>intro q;cases q;rfl
 | str x=>intro q;cases q;rfl
 | @tup a xs ts e l h ih=>
  intro q;cases q with
  | @tup _ ys us e' l' h'=>
   rw[e] at e';cases e';congr 1;apply List.ext_getElem?;intro i;by_cases hi:i < ts.length
   ·have h1:ts[i]? =some ts[i]:=JB hi;have h2:us[i]? =some us[i]:=JB (by lia);have h3:xs[i]? =some xs[i]:=JB (by lia);rw[h1,h2,ih i _ _ h3 h1 (h' i _ _ h3 h2)]
   ·rw[JV (by lia),JV (by lia)]
abbrev _root_.Sv:List PySem.Str:=["self"]
def znb (D:Mkd K mg x C "Vault.__init__" zZ Sv) (c:Cls K C) (nl:zl K C "laid"):Mkr P w K mg base x C 1 Sv (zbj C):=by refine D.ok (k:=0) (fsN Sv) (λ_ _ _ _ _ H _ Q E hr h=>?_);obtain⟨a,dx,rfl,ea,q⟩:=h;refine⟨_,(by ac_rfl),?_⟩;intro d hd;exact⟨_,rfl,a,C,dx,[],rfl,by rw[zc (zd ea hd)];exact ea,c,nl,by decide,q d hd⟩
abbrev _root_.Sx:List PySem.Str:=["self","one","other"]
def zop (D:XId K mg "Clash" CC "Clash.__init__" zaS Sx) (n1:zl K CC "one") (n2:zl K CC "other"):XI P w K mg base "Clash" CC 1 Sx (zhl CC):=by
 have c:=D.cl;refine D.ok (k:=0) (fsN Sx) (λ_ _ _ _ _ H _ Q E hr h=>?_);obtain⟨x,v1,v2,rfl,ex,q⟩:=h;refine⟨_,(zf (zr2 (pv 0) (pv 1) (by rfl))
 (zw (zrO (pv 0) (pv 2) (by rfl)))),?_⟩
 refine⟨_,rfl,_,rfl,x,CC,true,rfl,ex,c,n1,λd hd hdx=>?_⟩;refine⟨_,rfl,_,rfl,x,CC,true,d,[("one",v1)],rfl,za,by rw[zc hdx];exact za,hdx,c,n2,(show(1:Nat) < 1000 by decide),?_⟩;show Q .non (upd _ d (xdO d (putF "other" v2 [("one",v1)])));rw[znZ];exact q d hd hdx
abbrev _root_.Sn:List PySem.Str:=["self","number","thing"]
def zec (D:Mdf K C "refuse_clash" "Vault.refuse_clash" zN Sn) (zqt:XI P w K mg base "Clash" CC 1 Sx (zhl CC)) (c:Cls K C) (nl:zl K C "laid"):
  Mt P w K mg base (CX1 P w) C "refuse_clash" 3 Sn (zcz C CC):=by
 refine D.okX (k:=2) (fsN Sn) (λ_ _ _ _ _ H _ Q E hr h=>?_);obtain⟨a,d,kvs,n,t,v,rfl,vo,lo,rt,gt,sn,q,qe⟩:=h;obtain⟨⟨dx,fs,eo,fl⟩,ed⟩:=vo;refine⟨_,(by have θ:=0;ac_rfl),?_⟩;refine⟨_,rfl,_,rfl,a,C,dx,_,_,rfl,eo,c,nl,fl.la,d,_,rfl,DGet.k (k:=Sum.inl n) ed,_,rfl,?_⟩;cases ev:valV kvs (Sum.inl n) with
 | none=>exact ifF rfl (ifF rfl (q λt1 v1 e=>by rw[ev] at e;cases e))
 | some v1=>
  obtain⟨t1,r1,g1,s1⟩:=lo n v1 ev;have gd:=g1.dp;have dg:DGet H d (.int n) (some v1):=by rw[<-ev];exact DGet.k (k:=Sum.inl n) ed
  refine ifT rfl ?_;refine⟨_,rfl,a,C,dx,_,_,rfl,eo,c,nl,fl.la,_,rfl,d,v1,rfl,dg,_,rfl,t1,t,r1,rt,by lia,_,rfl,?_⟩;refine ifB (λcc=>?_) (λcc=>?_)
  ·have ne:t1≠t:=λz=>by rw[z,zap] at cc;cases cc
   refine⟨_,rfl,a,C,dx,_,_,rfl,eo,c,nl,fl.la,_,rfl,d,v1,rfl,dg,_,rfl,szl (show 2<=1000 by decide),λx hx=>?_⟩;refine⟨x,v1,v,rfl,za,λd' hd' hdx=>⟨rfl,?_⟩⟩;have hd2:H d'=none:=by rw[zc hdx] at hd';exact hd'
   refine⟨x,CC,some d',rfl,by rw[zc (Ne.symm hdx)];exact za,zqt.cl.q,?_⟩;refine qe t1 v1 ev r1 g1 (s1.trans sn.symm) ne _ d' (λb o hb=>?_) ?_
   ·have b1:b≠x:=zd hb hx;have b2:b≠d':=zd hb hd2;rw[zbb b1,zc b2,zc b1,zc b2,zc b1];exact hb
   ·rw[zbb hdx];exact za
  ·have eq:t1=t:=(zV t1 t).mp (by cases z:eqT t1 t with | true=>rfl | false=>rw[z] at cc;cases cc);exact q λt2 v2 e r2=>by rw[ev] at e;cases e;exact(r2.uniq r1).trans eq
abbrev _root_.Sh:List PySem.Str:=["self","thing"]
def zoG (D:Mdf K C "lay" "Vault.lay" zdc Sh) (zoT:Mt P w K mg base (CX1 P w) C "refuse_clash" 3 Sn (zcz C CC)) (zf3:Fn P w K mg base "seal" 13 Se zeb) (c_K:Cls K C) (nl:zl K C "laid"):
  Mt P w K mg base (CX1 P w) C "lay" 14 Sh (zlf C CC):=by
 refine D.okX (k:=13) (fsN ["self","thing","number"]) (λ_ _ _ _ _ H _ Q E hr h=>?_);obtain⟨a,d,kvs,t,v,rfl,vo,lo,hl,rt,gt,q,qe⟩:=h;have gd:=gt.dp;have gn:=gt.nd;refine⟨_,(by ac_rfl),?_⟩;refine⟨_,rfl,t,v,rfl,rt,gt.wf,by lia,by lia,λH1 s1=>?_⟩;have vo1:=vo.keep s1;obtain⟨⟨dx,fs,eo,fl⟩,ed⟩:=id vo1;have rt1:=rt.keep (Same.tups s1);refine⟨_,rfl,a,dx,_,rfl,eo,fl.n1,_,rfl,_,rfl,a,d,kvs,_,t,v,rfl,vo1,lo.keep (Same.tups s1),rt1,gt,rfl,λsame=>?_,λt1 v1 ev r1 g1 sn ne=>qe t1 v1 H1 s1 ev r1 g1 sn ne⟩;refine⟨_,rfl,_,rfl,a,C,dx,_,_,rfl,eo,c_K,nl,fl.la,_,rfl,d,_,rfl,DPut.k (k:=Sum.inl (zh t)) ed (Jx hl (by decide+kernel)),?_⟩;exact⟨_,rfl,q H1 s1 λt1 v1 e r=>same t1 v1 e (r.keep (Same.tups s1))⟩
abbrev _root_.Sd:List PySem.Str:=["self","number"]
def zgZ (D:Mdf K C "thing" "Vault.thing" zbQ Sd) (zmE:XP K mg "NoPaper" CN) (c:Cls K C) (nl:zl K C "laid"):Mt P w K mg base (CX1 P w) C "thing" 1 Sd (zdo C CN):=by
 refine D.okX (k:=0) (fsN Sd) (λ_ _ _ _ _ H _ Q E hr h=>?_);obtain⟨a,d,kvs,n,rfl,⟨⟨dx,fs,eo,fl⟩,ed⟩,q,qe⟩:=h;refine⟨_,(by ac_rfl),?_⟩;refine⟨_,rfl,_,rfl,a,C,dx,_,_,rfl,eo,c,nl,fl.la,d,_,rfl,DGet.k (k:=Sum.inl n) ed,_,rfl,?_⟩;cases ev:valV kvs (Sum.inl n) with
 | none=>refine ifT rfl ⟨szl (show 1<=1000 by decide),λe he=>⟨e,CN,none,rfl,za,zmE.cl.q,?_⟩⟩;rw[zeU he];exact qe ev
 | some v=>
  have dg:DGet H d (.int n) (some v):=by rw[<-ev];exact DGet.k (k:=Sum.inl n) ed
  refine ifF rfl ?_;exact⟨_,rfl,a,C,dx,_,_,rfl,eo,c,nl,fl.la,_,rfl,d,v,rfl,dg,q v ev⟩
def addT (cs:QF)(n:Int)(t:Th):List (Int ×Th):=match zg cs n with | none=>cs++ [(n,t)] | some _=>cs
def Fits (cs:QF)(n:Int)(t:Th):Prop:=zg cs n=none\/zg cs n=some t
structure GoodC (cs:QF):Prop where
 nd:(cs.map (·.1)).Nodup
 gd:∀p∈cs,Good p.2/\zh p.2=p.1
theorem za6 {cs:QF}{n:Int}{t:Th}(h:zg cs n=none):addT cs n t=cs++ [(n,t)]:=by unfold addT;rw[h]
theorem za7 {cs:QF}{n:Int}{t u:Th}(h:zg cs n=some u):addT cs n t=cs:=by unfold addT;rw[h]
def zdv (cs:QF)(n:Int)(t:Th):(addT cs n t).length<=cs.length+1:=by
 cases e:zg cs n with
 | none=>rw[za6 e,JI];exact Jb _
 | some u=>rw[za7 e];lia
def DRep.add {H:Hp}{cs:QF}{kvs:QG}{n:Int}{t:Th}{v:V}(r:DRep H cs kvs)(h:Rep H t v)(f:Fits cs n t)(nd:(cs.map (·.1)).Nodup):DRep H (addT cs n t) (putK kvs (.inl n) v):=by
 rcases f with f | f
 ·rw[za6 f];exact r.put h f
 ·rw[za7 f];exact r.again h f nd
def GoodC.add {cs:QF}{n:Int}{t:Th}(g:GoodC cs)(gt:Good t)(sn:zh t=n):GoodC (addT cs n t):=by
 cases e:zg cs n with
 | some u=>rw[za7 e];exact g
 | none=>
  rw[za6 e];refine⟨?_,λp hp=>?_⟩
  ·rw[JR,List.nodup_append];refine⟨g.nd,by simp,λa ha b hb=>?_⟩;cases Jj.mp hb;exact λz=>zjZ e (by have z':a=n:=z;rw[<-z'];exact ha)
  ·rcases Jm.mp hp with h | h
   ·exact g.gd p h
   ·cases Jj.mp h;exact⟨gt,sn⟩
theorem GoodC.nil:GoodC []:=⟨List.nodup_nil,λp h=>by cases h⟩
theorem GoodC.dep {cs:QF}{n:Int}{t:Th}(g:GoodC cs)(e:zg cs n=some t):Good t/\zh t=n:=g.gd _ (zd7 e)
theorem za4 {cs:QF}{n m:Int}{t u:Th}(e:zg cs m=some u):zg (addT cs n t) m=some u:=by
 cases z:zg cs n with
 | some y=>rw[za7 z];exact e
 | none=>rw[za6 z,zb1,e]
theorem zaf {cs:QF}{n:Int}{t:Th}(f:Fits cs n t):zg (addT cs n t) n=some t:=by
 rcases f with f | f
 ·rw[za6 f,zb1,f];exact if_pos rfl
 ·rw[za7 f];exact f
def zX {cs:QF}{n m:Int}{t u:Th}(e:zg (addT cs n t) m=some u):zg cs m=some u\/(m=n/\u=t):=by
 cases z:zg cs n with
 | some y=>rw[za7 z] at e;exact .inl e
 | none=>
  rw[za6 z,zb1] at e;cases y:zg cs m with
  | some w=>rw[y] at e;exact .inl e
  | none=>
   rw[y] at e;by_cases q:n=m
   ·have e':(if n=m then some t else none)=some u:=e;rw[if_pos q] at e';cases e';exact .inr ⟨q.symm,rfl⟩
   ·have e':(if n=m then some t else none)=some u:=e;rw[if_neg q] at e';cases e'
abbrev zd0:Stmt:=top 26
abbrev ziu:Stmt:=top 53
abbrev ziz:Stmt:=top 52
abbrev zby:Stmt:=top 51
abbrev zbw:Stmt:=top 55
abbrev ssize:Stmt:=top 54
abbrev zq1:Stmt:=top 56
abbrev zm1:Stmt:=top 57
open Tr
def Mt.imp {P:Program}{w:World}{K:QA}{mg:QB}{base:Heap}{CX:CXT}{C:Addr}{m:Str}{k:Nat}{ps:QQ}{sp sp':Sp}(F:Mt P w K mg base CX C m k ps sp)(h:∀vs H Q E,sp' vs H Q E->sp vs H Q E):Mt P w K mg base CX C m k ps sp':=by obtain⟨f,fd,a,b⟩:=F.ex;exact⟨f,fd,a.imp h,b⟩
structure VS (H:Hp)(C a d:Addr)(cs:QF):Prop where
 vo:∃kv,VOk H C a d kv/\DRep H cs kv
 gc:GoodC cs
theorem VS.same {H H':Hp}{C a d:Addr}{cs:QF}(v:VS H C a d cs)(s:Same H H'):VS H' C a d cs:=by obtain⟨kv,vo,dr⟩:=v.vo;exact⟨⟨kv,vo.keep s,dr.keep (Same.tups s)⟩,v.gc⟩
def Fr1 (d:Addr)(H H':Hp):Prop:=∀b o,b≠d->H b=some o->H' b=some o
def Fr1.refl (d:Addr)(H:Hp):Fr1 d H H:=λ_ _ _ e=>e
theorem Fr1.trans (f:Fr1 d H H')(g:Fr1 d H' H''):Fr1 d H H'':=λb o n e=>g b o n (f b o n e)
theorem VS.ne {H:Hp}{C a d:Addr}{cs:QF}{b:Addr}{o:HO}(v:VS H C a d cs)(e:H b=some o)(h:∀kv,o≠ .dK kv):b≠d:=by obtain⟨kv,vo,_⟩:=v.vo;intro z;rw[z,vo.di] at e;cases e;exact h kv rfl
theorem VS.tups {H H':Hp}{C a d:Addr}{cs:QF}(v:VS H C a d cs)(f:Fr1 d H H'):Tups H H':=λb xs e=>f b _ (v.ne e (by intro kv z;cases z)) e
theorem VS.lst {H H':Hp}{C a d:Addr}{cs:QF}{b:Addr}{xs:QR}(v:VS H C a d cs)(f:Fr1 d H H')(e:H b=some (.lst xs)):H' b=some (.lst xs):=f b _ (v.ne e (by intro kv z;cases z)) e
def Cl (CC:Addr)(E:XK):Prop:=∀(t1 t2:Th)(v1 v2:V)(H:Hp)(x:Addr),Rep H t1 v1->Rep H t2 v2->Good t1->Good t2->t1≠t2->zh t1=zh t2->H x=some (xdO x [("one",v1),("other",v2)])->E (.ref CC) (some x) H
inductive zrY (C CC:Addr)(vs:QR)(H:Hp)(Q:L2.VK)(E:XK):Prop
 | mk (a d:Addr)(cs:QF)(t:Th)(v:V)(_:vs=[.ref a,v])(_:VS H C a d cs)(_:cs.length<=1000000)(_:Rep H t v)(_:Good t)(_:Cl CC E)(_:∀H',Fr1 d H H'->Fits cs (zh t) t->VS H' C a d (addT cs (zh t) t)->Q (.int (zh t)) H'):zrY C CC vs H Q E
inductive zom (C:Addr)(vs:QR)(H:Hp)(Q:L2.VK)(_E:XK):Prop
 | mk (a d:Addr)(cs:QF)(n:Int)(t:Th)(_:vs=[.ref a,.int n])(_:VS H C a d cs)(_:zg cs n=some t)(_:∀v,Rep H t v->Q v H):zom C vs H Q _E
def zpX {cs:QF}{n:Int}{t:Th}:Sub cs (addT cs n t):=λ_ _ e=>za4 e
structure NodeOk (k wo:Th)(l r c:Int):Prop where
 k0:k≠ .non
 w0:wo≠ .non
 l0:0<=l
 r0:0<=r
 c1:1<=c
 c2:c<=300
def zkW:Sp:=λvs H Q _=>(∃i:Int,vs=[.int i]/\Q (.bl true) H)\/(vs=[.non]/\Q (.bl false) H)
inductive zr4 (vs:QR)(H:Hp)(Q:L2.VK)(_E:XK):Prop
 | mk (i:Int)(_:vs=[.int i])(_:0<=i)(_:Q (.bl true) H):zr4 vs H Q _E
inductive zn3 (vs:QR)(H:Hp)(Q:L2.VK)(_E:XK):Prop
 | mk (v:V)(k wo:Th)(l r c:Int)(_:vs=[v])(_:Rep H (zaF k wo l r c) v) (_:NodeOk k wo l r c) (_:Q (.bl true) H):zn3 vs H Q _E
structure TOk (cs:QF)(T:Tr):Prop where
 iv:T.InV cs
 ky:∀p∈T.ps,KeyT p.1/\KeyT p.2
 ct:T.cnt<=300
theorem TOk.mono {cs cs':QF}{T:Tr}(t:TOk cs T)(s:Sub cs cs'):TOk cs' T:=⟨InV.mono s t.iv,t.ky,t.ct⟩
theorem TOk.nil {cs:QF}:TOk cs Tr.nil:=⟨trivial,λp h=>(nomatch h),JM _⟩
theorem TOk.l {cs:QF}{l r:Tr}{k w:Th}(t:TOk cs (node l k w r)):TOk cs l:=⟨t.iv.2.1,λp h=>t.ky p (Jp _ h),by have:=t.ct;rw[zt] at this;lia⟩
theorem TOk.r {cs:QF}{l r:Tr}{k w:Th}(t:TOk cs (node l k w r)):TOk cs r:=⟨t.iv.2.2,λp h=>t.ky p (Jh _ (Ji _ h)),by have:=t.ct;rw[zt] at this;lia⟩
theorem TOk.kw {cs:QF}{l r:Tr}{k w:Th}(t:TOk cs (node l k w r)):KeyT k/\KeyT w:=t.ky (k,w) (Jh _ JL)
def TOk.kid {cs:QF}{T:Tr}{x:Th}(t:TOk cs T):TOk cs (T.kid x):=by
 cases T with
 | nil=>exact .nil
 | node l k w r=>
  show TOk cs (if zb k x=true then r else l);split
  ·exact t.r
  ·exact t.l
theorem TOk.down {cs:QF}{x:Th}:∀{n:Nat}{T:Tr},TOk cs T->TOk cs (down x n T)
 | 0,_,t=>t
 | n+1,_,t=>TOk.down (n:=n) t.kid
def KeyT.good (k:KeyT t):Good t:=⟨k.wf,Jg k.dp (by decide),Jg k.nd (by decide)⟩
def zmg {l r c:Int}(hk:KeyT k)(hw:KeyT wo)(l0:0<=l)(l1:l<=10 ^ 30)(r0:0<=r)(r1:r<=10 ^ 30)(c0:1<=c)(c1:c<=300):NodeOk k wo l r c/\Good (zaF k wo l r c):=by
 refine⟨⟨hk.ne,hw.ne,l0,r0,c0,c1⟩,⟨⟨by show(5:Nat)<=40;decide,hk.wf,hw.wf,⟨by lia,l1⟩,⟨by lia,r1⟩,⟨by lia,by lia⟩,trivial⟩,?_,?_⟩⟩
 ·have h1:=hk.dp;have h2:=hw.dp;show max (dep k) (max (dep wo) (max 0 (max 0 (max 0 0))))+1<=8;lia
 ·have h1:=hk.nd;have h2:=hw.nd;show 1+(nodes k+(nodes wo+(1+(1+(1+0)))))<=80;lia
def za2 (hk:KeyT k)(hw:KeyT w)(h:(node l k w r).cnt<=300):NodeOk k w l.root r.root (((l.ps++(k,w)::r.ps).length:Nat):Int)/\Good (node l k w r).thing:=by have h1:=ze6 l;have h2:=ze6 r;have h3:(l.ps++(k,w)::r.ps).length=(node l k w r).cnt:=rfl;have h4:=zt l k w r;exact zmg hk hw h1.1 (by lia) h2.1 (by lia) (by lia) (by lia)
inductive ztv (C:Addr)(vs:QR)(H:Hp)(Q:L2.VK)(_E:XK):Prop
 | mk (a d:Addr)(cs:QF)(l r:Tr)(k w:Th)(m:Int)(_:vs=[.ref a,.int (node l k w r).root,.int m]) (_:VS H C a d cs) (_:TOk cs (node l k w r)) (_:((node l k w r).cnt:Int) < m) (_:∀v,Rep H (node l k w r).thing v->Q v H):ztv C vs H Q _E
inductive zpf (C:Addr)(vs:QR)(H:Hp)(Q:L2.VK)(_E:XK):Prop
 | mk (a d:Addr)(cs:QF)(T:Tr)(_:vs=[.ref a,.int T.root])(_:VS H C a d cs)(_:TOk cs T)(_:Q (.int (T.cnt:Int)) H):zpf C vs H Q _E
inductive zoe (C:Addr)(vs:QR)(H:Hp)(Q:L2.VK)(_E:XK):Prop
 | mk (a d:Addr)(cs:QF)(T:Tr)(m:Int)(_:vs=[.ref a,.int T.root,.int m])(_:VS H C a d cs)(_:TOk cs T)(_:(T.cnt:Int) < m) (_:Q (.int (T.cnt:Int)) H):zoe C vs H Q _E
inductive zkg (vs:QR)(H:Hp)(Q:L2.VK)(_E:XK):Prop
 | mk (t:Th)(v:V)(_:vs=[v])(_:Rep H t v)(_:Good t)(_:∀H',Same H H'->Q (.int (zcp t)) H'):zkg vs H Q _E
inductive zdK (vs:QR)(H:Hp)(Q:L2.VK)(_E:XK):Prop
 | mk (t u:Th)(v w:V)(_:vs=[v,w])(_:Rep H t v)(_:Rep H u w)(_:Good t)(_:Good u)(_:∀H',Same H H'->Q (.bl (z9 t u)) H'):zdK vs H Q _E
def zl0 (g:Good t):Wf (.tup [.str ("rank" :Str),t])/\dep (.tup [.str ("rank" :Str),t]) < 10/\nodes (.tup [.str ("rank" :Str),t])<=100:=by
 have h1:=g.dp;have h2:=g.nd;refine⟨⟨by show(2:Nat)<=40;decide,⟨by decide+kernel,by decide+kernel⟩,g.wf,trivial⟩,?_,?_⟩
 ·show max 0 (max (dep t) 0)+1 < 10;lia
 ·show 1+(1+(nodes t+0))<=100;lia
theorem zr (rep:Rep H (zaF k wo l r c) v):∃a vk vw,v=.ref a/\H a=some (.tup [vk,vw,.int l,.int r,.int c])/\Rep H k vk/\Rep H wo vw:=by
 obtain⟨a,xs,e,ea,r1⟩:=rep.list;cases r1 with
 | cons h1 r2=>
 cases r2 with
 | cons h2 r3=>
 cases r3 with
 | cons h3 r4=>
 cases r4 with
 | cons h4 r5=>
 cases r5 with
 | cons h5 r6=>
 cases r6 with
 | nil=>
 cases h3;cases h4;cases h5;exact⟨a,_,_,e,ea,h1,h2⟩
abbrev _root_.SJ:List PySem.Str:=["value"]
def zoo (D:Dfn K mg "is_whole" zd0 SJ) (zk:mg "isinstance" =none) (zbs:mg "int" =none) (zia:mg "bool" =none):Fn P w K mg base "is_whole" 1 SJ zkW:=by
 refine D.ok (k:=0) (fsN SJ) (λ_ _ _ _ _ H _ Q E hr h=>?_) (λvs H Q E h=>?_)
 rotate_left
 ·rcases h with ⟨i,rfl,_⟩ | ⟨rfl,_⟩ <;> rfl
 refine⟨_,(by ac_rfl),?_⟩;rcases h with ⟨i,rfl,q⟩ | ⟨rfl,q⟩
 ·refine⟨_,rfl,_,_,_,_,rfl,.int i,rfl,_,rfl,ifT rfl ?_⟩;refine⟨_,rfl,_,_,_,_,rfl,.int i,rfl,_,rfl,q⟩
 ·exact⟨_,rfl,_,_,_,_,rfl,.non,rfl,_,rfl,ifF rfl q⟩
def zpB (D:Dfn K mg "rank" zq1 ["key"]) (zf3:Fn P w K mg base "seal" 13 Se zeb):Fn P w K mg base "rank" 14 ["key"] zkg:=by refine D.ok (k:=13) (fsN ["key"]) (λ_ _ _ _ _ H _ Q E hr h=>?_);obtain⟨t,v,rfl,rt,gt,q⟩:=h;obtain⟨g1,g2,g3⟩:=zl0 gt;refine⟨_,(by ac_rfl),?_⟩;refine⟨_,rfl,szl (show 2<=1000 by decide),λp hp=>?_⟩;exact⟨_,_,rfl,(RepL.cons (.str _) (.cons rt .nil)).new hp,g1,g2,g3,λH' s'=>q H' ((zj (Same.refl H) hp).trans s')⟩
abbrev _root_.SK:List PySem.Str:=["key","other"]
def znA (D:Dfn K mg "above" zm1 SK) (zt8:Fn P w K mg base "rank" 14 ["key"] zkg) (zaQ:Fn P w K mg base "ahead" 20 Sk (zaz 9)):Fn P w K mg base "above" 21 SK zdK:=by
 refine D.ok (k:=20) (fsN ["key","other","mine","its"]) (λ_ _ _ _ _ H _ Q E hr h=>?_);obtain⟨t,u,v,w,rfl,rt,ru,gt,gu,q⟩:=h;refine⟨_,(by ac_rfl),?_⟩;refine⟨_,rfl,t,v,rfl,rt,gt,λH1 s1=>?_⟩;refine⟨_,rfl,u,w,rfl,ru.keep (Same.tups s1),gu,λH2 s2=>?_⟩;have s12:=s1.trans s2;have gd:=gt.dp;refine⟨_,rfl,_,rfl,rfl,_,rfl,?_⟩;rw[zE];refine ifB (λc=>?_) (λc=>?_)
 ·have ne:zcp t≠zcp u:=λz=>by rw[decide_eq_true z] at c;cases c
  refine⟨_,rfl,_,rfl,_,_,rfl,rfl,?_⟩;have:=q H2 s12;unfold z9 at this;rw[if_neg ne] at this;exact this
 ·have eq:zcp t=zcp u:=by
   by_cases z:zcp t=zcp u
   ·exact z
   ·rw[Jd z] at c;cases c
  refine⟨_,rfl,_,rfl,t,u,v,w,rfl,rt.keep (Same.tups s12),ru.keep (Same.tups s12),by lia,by lia,λH3 s3=>?_⟩;have:=q H3 (s12.trans s3);unfold z9 at this;rw[if_pos eq] at this;exact this
end Pv
namespace Pv
open PySem L2
theorem zaP (r:Rep H t v):decide (v=V.non)=decide (t=.non):=by
 cases r with
 | non=>rfl
 | int i=>exact(Jd (by intro z;cases z)).trans (Jd (by intro z;cases z)).symm
 | str x=>exact(Jd (by intro z;cases z)).trans (Jd (by intro z;cases z)).symm
 | tup e l h=>exact(Jd (by intro z;cases z)).trans (Jd (by intro z;cases z)).symm
structure Nd where
 k:Th
 w:Th
 l:Int
 r:Int
 c:Int
abbrev Nd.th (n:Nd):Th:=zaF n.k n.w n.l n.r n.c
def isW:Th->Bool
 | .int _=>true
 | _=>false
def isR:Th->Bool
 | .int i=>decide (0<=i)
 | _=>false
def zoN:Th->Bool
 | .int i=>decide (1<=i) && decide (i<=300)
 | _=>false
def isN:Th->Bool
 | .tup [k,w,l,r,c]=>!decide (k=.non) && (!decide (w=.non) && (isR l && (isR r && zoN c)))
 | _=>false
def ndOf:Th->Option Nd
 | .tup [k,w,.int l,.int r,.int c]=>if isN (.tup [k,w,.int l,.int r,.int c])=true then some ⟨k,w,l,r,c⟩ else none
 | _=>none
theorem zk0 {ts:List Th}(h:ts.length≠5):isN (.tup ts)=false:=by
 match ts,h with
 | [],_=>rfl
 | [_],_=>rfl
 | [_,_],_=>rfl
 | [_,_,_],_=>rfl
 | [_,_,_,_],_=>rfl
 | [_,_,_,_,_],h=>exact Jf rfl h
 | _::_::_::_::_::_::_,_=>rfl
def zr3 {nd:Nd}(h:NodeOk nd.k nd.w nd.l nd.r nd.c):isN nd.th=true:=by
 show(!decide (nd.k=.non) && (!decide (nd.w=.non) && (decide (0<=nd.l) && (decide (0<=nd.r) && (decide (1<=nd.c) && decide (nd.c<=300))))))=true;rw[Jd h.k0,Jd h.w0,decide_eq_true h.l0,decide_eq_true h.r0,decide_eq_true h.c1,decide_eq_true h.c2]
 rfl
def znO {nd:Nd}(h:isN nd.th=true):NodeOk nd.k nd.w nd.l nd.r nd.c:=by have h':(!decide (nd.k=.non) && (!decide (nd.w=.non) && (decide (0<=nd.l) && (decide (0<=nd.r) && (decide (1<=nd.c) && decide (nd.c<=300))))))=true:=h;simp only[Nk,Bool.not_eq_true',decide_eq_false_iff_not,decide_eq_true_eq] at h';obtain⟨a,b,c,d,e,f⟩:=h';exact⟨a,b,c,d,e,f⟩
theorem zkT {nd:Nd}(h:isN nd.th=true):ndOf nd.th=some nd:=by show(if isN nd.th=true then some nd else none)=some nd;rw[if_pos h]
def zlj (h:isR t=true):∃i,t=.int i:=by
 cases t with
 | int i=>exact⟨i,rfl⟩
 | non=>cases h
 | str x=>cases h
 | tup ts=>cases h
def zsc (h:isN t=true):∃nd:Nd,t=nd.th:=by
 cases t with
 | non=>cases h
 | int i=>cases h
 | str x=>cases h
 | tup ts=>
  by_cases hl:ts.length=5
  ·match ts,hl,h with
   | [k,w,l,r,c],_,h=>
    have h':(!decide (k=.non) && (!decide (w=.non) && (isR l && (isR r && zoN c))))=true:=h;simp only[Nk] at h';obtain⟨_,_,h3,h4,h5⟩:=h';obtain⟨l',rfl⟩:=zlj h3;obtain⟨r',rfl⟩:=zlj h4;cases c with
    | int c'=>exact⟨⟨k,w,l',r',c'⟩,rfl⟩
    | non=>cases h5
    | str x=>cases h5
    | tup ts=>cases h5
  ·rw[zk0 hl] at h;cases h
def zen {nd:Nd}(h:ndOf t=some nd):t=nd.th/\isN t=true:=by
 unfold ndOf at h;split at h
 ·rename_i k w l r c;split at h
  ·rename_i z;cases h;exact⟨rfl,z⟩
  ·cases h
 ·cases h
theorem zlL (h:ndOf t=none):isN t=false:=by
 cases z:isN t with
 | false=>rfl
 | true=>obtain⟨nd,rfl⟩:=zsc z;rw[zkT z] at h;cases h
inductive zdD (vs:QR)(H:Hp)(Q:L2.VK)(_E:XK):Prop
 | mk (t:Th)(v:V)(_:vs=[v])(_:Rep H t v)(_:Q (.bl (isW t)) H):zdD vs H Q _E
inductive zhL (vs:QR)(H:Hp)(Q:L2.VK)(_E:XK):Prop
 | mk (t:Th)(v:V)(_:vs=[v])(_:Rep H t v)(_:Q (.bl (isR t)) H):zhL vs H Q _E
inductive zkA (vs:QR)(H:Hp)(Q:L2.VK)(_E:XK):Prop
 | mk (t:Th)(v:V)(_:vs=[v])(_:Rep H t v)(_:Q (.bl (isN t)) H):zkA vs H Q _E
def zml (D:Dfn K mg "is_whole" zd0 SJ) (zk:mg "isinstance" =none) (zbs:mg "int" =none) (zia:mg "bool" =none):Fn P w K mg base "is_whole" 1 SJ zdD:=by
 refine D.ok (k:=0) (fsN SJ) (λ_ _ _ _ _ H _ Q E hr h=>?_);obtain⟨t,v,rfl,rt,q⟩:=h;refine⟨_,(by ac_rfl),?_⟩;cases rt with
 | non=>exact⟨_,rfl,_,_,_,_,rfl,.non,rfl,_,rfl,ifF rfl q⟩
 | int i=>refine⟨_,rfl,_,_,_,_,rfl,.int i,rfl,_,rfl,ifT rfl ?_⟩;exact⟨_,rfl,_,_,_,_,rfl,.int i,rfl,_,rfl,q⟩
 | str x=>exact⟨_,rfl,_,_,_,_,rfl,.str x,rfl,_,rfl,ifF rfl q⟩
 | tup e l h=>exact⟨_,rfl,_,_,_,_,rfl,.tup e,rfl,_,rfl,ifF rfl q⟩
def zoF (D:Dfn K mg "is_root" ziu Se) (zdf:Fn P w K mg base "is_whole" 1 SJ zdD):Fn P w K mg base "is_root" 2 Se zhL:=by
 refine D.ok (k:=1) (fsN Se) (λ_ _ _ _ _ H _ Q E hr h=>?_);obtain⟨t,v,rfl,rt,q⟩:=h;refine⟨_,(by ac_rfl),?_⟩;refine⟨_,rfl,t,v,rfl,rt,_,rfl,?_⟩;cases rt with
 | non=>exact ifF rfl q
 | int i=>exact ifT rfl ⟨_,rfl,_,_,rfl,rfl,q⟩
 | str x=>exact ifF rfl q
 | tup e l h=>exact ifF rfl q
def zl1 (D:Dfn K mg "is_node" ziz Se) (zsY:Fn P w K mg base "is_root" 2 Se zhL) (zdf:Fn P w K mg base "is_whole" 1 SJ zdD) (zk:mg "isinstance" =none) (zO:mg "tuple" =none) (zC:mg "len" =none)
  (zax:mg "KEY" =some (.int 0 t1)) (zbt:mg "WORTH" =some (.int 1 t2)) (zaw:mg "LEFT" =some (.int 2 t3)) (zae:mg "RIGHT" =some (.int 3 t4)) (zY:mg "COUNT" =some (.int 4 t5)) (zdQ:mg "MOST_NODES" =some (.int 300 t6)):
  Fn P w K mg base "is_node" 3 Se zkA:=by
 refine D.ok (k:=2) (fsN Se) (λ_ _ _ _ _ H _ Q E hr h=>?_);obtain⟨t,v,rfl,rt,q⟩:=h;refine⟨_,(by have ι:=0;ac_rfl),?_⟩;cases rt with
 | non=>exact⟨_,rfl,_,_,_,_,rfl,.non,rfl,_,rfl,ifT rfl (ifT rfl q)⟩
 | int i=>exact⟨_,rfl,_,_,_,_,rfl,.int i,rfl,_,rfl,ifT rfl (ifT rfl q)⟩
 | str x=>exact⟨_,rfl,_,_,_,_,rfl,.str x,rfl,_,rfl,ifT rfl (ifT rfl q)⟩
 | @tup a xs ts ea l0 h0=>
  refine⟨_,rfl,_,_,_,_,rfl,.tup ea,rfl,_,rfl,ifF rfl ?_⟩;refine⟨_,rfl,a,_,rfl,.inr (SqT.of ea),rfl,_,rfl,?_⟩;rw[zE];by_cases hl:ts.length=5
  ·have rep:Rep H (.tup ts) (.ref a):=.tup ea l0 h0
   match ts,hl,rep,q with
   | [k,wo,l,r,c],_,rep,q=>
   obtain⟨a',xs',e,ea',r1⟩:=rep.list;cases e;rw[ea] at ea';cases ea';cases r1 with
   | cons rk r2=>
   cases r2 with
   | cons rw' r3=>
   cases r3 with
   | cons rl r4=>
   cases r4 with
   | cons rr r5=>
   cases r5 with
   | cons rc r6=>
   cases r6 with
   | nil=>
   refine ifF (by rfl) ?_;rename_i vk vw vl vr vc;have et:SqT K H a [vk,vw,vl,vr,vc]:=SqT.of ea;have q':Q (.bl (!decide (k=.non) && (!decide (wo=.non) && (isR l && (isR r && zoN c))))) H:=q;refine⟨_,rfl,a,_,_,_,rfl,rfl,et,rfl,rfl,_,rfl,?_⟩;rw[zaP rk];cases z1:decide (k=.non) with
   | true=>rw[z1] at q';exact ifT rfl (ifT rfl q')
   | false=>
   rw[z1] at q';refine ifF rfl ?_;refine⟨_,rfl,a,_,_,_,rfl,rfl,et,rfl,rfl,_,rfl,?_⟩;rw[zaP rw'];cases z2:decide (wo=.non) with
   | true=>rw[z2] at q';exact ifT rfl q'
   | false=>
   rw[z2] at q';refine ifF rfl ?_;refine⟨_,rfl,a,_,_,_,rfl,rfl,et,rfl,l,_,rfl,rl,_,rfl,?_⟩;cases z3:isR l with
   | false=>rw[z3] at q';exact ifT rfl (ifT rfl q')
   | true=>
   rw[z3] at q';refine ifF rfl ?_;refine⟨_,rfl,a,_,_,_,rfl,rfl,et,rfl,r,_,rfl,rr,_,rfl,?_⟩;cases z4:isR r with
   | false=>rw[z4] at q';exact ifT rfl q'
   | true=>
   rw[z4] at q';refine ifF rfl ?_;refine⟨_,rfl,a,_,_,_,rfl,rfl,et,rfl,c,_,rfl,rc,_,rfl,?_⟩;cases rc with
   | non=>exact ifF rfl q'
   | str x=>exact ifF rfl q'
   | tup e l h=>exact ifF rfl q'
   | int i=>
    refine ifT rfl ?_;refine⟨_,rfl,a,_,_,_,rfl,rfl,et,rfl,_,_,rfl,rfl,_,rfl,?_⟩;have q2:Q (.bl (decide (1<=i) && decide (i<=300))) H:=q';cases z5:decide (1<=i) with
    | false=>rw[z5] at q2;exact ifF rfl q2
    | true=>rw[z5] at q2;exact ifT rfl ⟨_,_,rfl,rfl,q2⟩
  ·rw[zk0 hl] at q;refine ifT (by rw[l0];rw[Jd (show¬((ts.length:Nat):Int)=5 by lia)];rfl) q
inductive Er where
 | bad
 | lacks
 | clash (u t:Th)
structure Vst where
 own:List (Int ×Th)
 kp:List (Int ×Th)
 nt:List (Int ×Th)
 n:Nat
def Vst.all (s:Vst):List (Int ×Th):=s.own++s.kp
def Vst.look (s:Vst)(n:Int):Option (Th ×Vst):=
 match zg s.own n with
 | some t=>some (t,{s with n:=s.n - 1})
 | none=>match zg s.kp n with
  | some t=>some (t,{s with nt:=addT s.nt n t,n:=s.n - 1})
  | none=>none
def Vst.add (s:Vst)(t:Th):Vst:={s with own:=addT s.own (zh t) t,n:=s.n - 1}
def Vst.stop (s:Vst)(t:Th):Option Th:=match zg s.all (zh t) with
 | none=>none
 | some u=>if u=t then none else some u
inductive Pg (α:Type) where
 | ret (x:α)
 | bad
 | rd (n:Int) (k:Th->Pg α)
 | lay (t:Th) (k:Pg α)
def Pg.bind {α β:Type}:Pg α->(α->Pg β)->Pg β
 | .ret x,f=>f x
 | .bad,_=>.bad
 | .rd n k,f=>.rd n λt=>(k t).bind f
 | .lay t k,f=>.lay t (k.bind f)
def Pg.wp {α:Type}:Pg α->Vst->(α->Vst->Prop)->(Er->Vst->Prop)->Prop
 | .ret x,s,q,_=>q x s
 | .bad,s,_,e=>e .bad s
 | .rd n k,s,q,e=>0 < s.n/\(∀t s',s.look n=some (t,s')->(k t).wp s' q e)/\(s.look n=none->e .lacks s)
 | .lay t k,s,q,e=>0 < s.n/\Good t/\(s.stop t=none->k.wp (s.add t) q e)/\(∀u,s.stop t=some u->e (.clash u t) s)
theorem Pg.wp_bind {α:Type}{f:α->Pg β}{q:β->Vst->Prop}{e:Er->Vst->Prop}:∀{p:Pg α}{s:Vst},(p.bind f).wp s q e=p.wp s (λx s'=>(f x).wp s' q e) e
 | .ret x,s=>rfl
 | .bad,s=>rfl
 | .rd n k,s=>by show(0 < s.n/\(∀t s',s.look n=some (t,s')->((k t).bind f).wp s' q e)/\(s.look n=none->e .lacks s))=(0 < s.n/\(∀t s',s.look n=some (t,s')->(k t).wp s' (λx s'=>(f x).wp s' q e) e)/\(s.look n=none->e .lacks s));rw[show(∀t s',s.look n=some (t,s')->((k t).bind f).wp s' q e)=(∀t s',s.look n=some (t,s')->(k t).wp s' (λx s'=>(f x).wp s' q e) e) from forall_congr λt=>forall_congr λs'=>by rw[wp_bind (p:=k t)]]
 | .lay t k,s=>by show(0 < s.n/\Good t/\(s.stop t=none->(k.bind f).wp (s.add t) q e)/\(∀u,s.stop t=some u->e (.clash u t) s))=(0 < s.n/\Good t/\(s.stop t=none->k.wp (s.add t) (λx s'=>(f x).wp s' q e) e)/\(∀u,s.stop t=some u->e (.clash u t) s));rw[wp_bind (p:=k)]
theorem Pg.wp_mono {α:Type}{q q':α->Vst->Prop}{e e':Er->Vst->Prop}(hq:∀x s,q x s->q' x s)(he:∀r s,e r s->e' r s):∀{p:Pg α}{s:Vst},p.wp s q e->p.wp s q' e'
 | .ret x,s,h=>hq x s h
 | .bad,s,h=>he _ s h
 | .rd n k,s,⟨h0,h,h2⟩=>⟨h0,λt s' z=>wp_mono hq he (h t s' z),λz=>he _ s (h2 z)⟩
 | .lay t k,s,⟨h0,hg,h,h2⟩=>⟨h0,hg,λz=>wp_mono hq he (h z),λu z=>he _ s (h2 u z)⟩
def NL (H H':Hp):Prop:=∀b o,(∀xs,o≠ .lst xs)->H b=some o->H' b=some o
theorem Same.nl (s:Same H H'):NL H H':=λb o _ e=>s b o e
theorem NL.lst {H:Hp}{p:Addr}{xs ys:QR}(e:H p=some (.lst xs)):NL H (upd H p (.lst ys)):=λb o h q=>by rw[zc (λz=>by rw[z,e] at q;cases q;exact h xs rfl)];exact q
abbrev VRT:=Hp->Addr->List Addr->Vst->Prop
structure VI (C:Addr)(VR:VRT):Prop where
 ins:∀{H a D s},VR H a D s->∃dx fs,H a=some (.ins C dx fs)/\fs.lookup ("thing" :Str)=none/\fs.lookup ("lay" :Str)=none
 dic:∀{H a D s},VR H a D s->∀d∈D,∃kv,H d=some (.dK kv)
 nl:∀{H H' a D s},VR H a D s->NL H H'->VR H' a D s
theorem VI.same (I:VI C VR){H:Hp}{a:Addr}{D:QP}{s:Vst}(v:VR H a D s)(sm:Same H H'):VR H' a D s:=I.nl v (Same.nl sm)
def VI.not (I:VI C VR){H:Hp}{a b:Addr}{D:QP}{s:Vst}{o:HO}(v:VR H a D s)(e:H b=some o)(h:∀kv,o≠ .dK kv):b∉D:=λz=>by obtain⟨kv,ek⟩:=I.dic v b z;rw[ek] at e;cases e;exact h kv rfl
theorem VI.tups (I:VI C VR){H:Hp}{a:Addr}{D:QP}{s:Vst}(v:VR H a D s)(f:Frm D H H'):Tups H H':=λb xs e=>f b _ (I.not v e (by intro kv z;cases z)) e
theorem VI.lst {C:Addr}{VR:VRT}(I:VI C VR){H H':Hp}{a b:Addr}{D:QP}{s:Vst}{xs:QR}(v:VR H a D s)(f:Frm D H H')(e:H b=some (.lst xs)):H' b=some (.lst xs):=f b _ (I.not v e (by intro kv z;cases z)) e
def OutE (VR:VRT)(CN CB CC a:Addr)(D:QP)(H:Hp)(E:XK):Er->Vst->Prop
 | .bad,s=>∀H',Frm D H H'->VR H' a D s->E (.ref CB) none H'
 | .lacks,s=>∀H',Frm D H H'->VR H' a D s->E (.ref CN) none H'
 | .clash u t,s=>∀(x:Addr)(v1 v2:V)(H':Hp),Frm D H H'->VR H' a D s->Rep H' u v1->Rep H' t v2->Good u->Good t->u≠t->zh u=zh t->H' x=some (xdO x [("one",v1),("other",v2)])->E (.ref CC) (some x) H'
theorem OutE.on (f:Frm D H H1):∀r s,OutE VR CN CB CC a D H E r s->OutE VR CN CB CC a D H1 E r s
 | .bad,s,h=>λH' f' v=>h H' (f.trans f') v
 | .lacks,s,h=>λH' f' v=>h H' (f.trans f') v
 | .clash u t,s,h=>λx v1 v2 H' f' v=>h x v1 v2 H' (f.trans f') v
def OutQ {α:Type}(VR:VRT)(a:Addr)(D:QP)(rp:Hp->α->V->Prop)(H:Hp)(Q:V->Hp->Prop)(x:α)(s:Vst):Prop:=∀v H',Frm D H H'->VR H' a D s->rp H' x v->Q v H'
def OutQ.on {α:Type}{rp:Hp->α->V->Prop}(f:Frm D H H1)(x:α)(s:Vst)(h:OutQ VR a D rp H Q x s):OutQ VR a D rp H1 Q x s:=λv H' f'=>h v H' (f.trans f')
abbrev Out {α:Type}(VR:VRT)(CN CB CC a:Addr)(D:QP)(p:Pg α)(s:Vst)(rp:Hp->α->V->Prop)(H:Hp)(Q:V->Hp->Prop)(E:XK):Prop:=p.wp s (OutQ VR a D rp H Q) (OutE VR CN CB CC a D H E)
inductive zcs (VR:VRT)(CN:Addr)(vs:QR)(H:Hp)(Q:L2.VK)(E:XK):Prop
 | mk (a:Addr)(D:QP)(s:Vst)(n:Int)(_:vs=[.ref a,.int n])(_:VR H a D s)(_:0 < s.n)(_:(∀t s' v H',s.look n=some (t,s')->Frm D H H'->VR H' a D s'->Rep H' t v->Good t->Q v H')) (_:(∀H',s.look n=none->Frm D H H'->VR H' a D s->E (.ref CN) none H')):zcs VR CN vs H Q E
inductive zbX (VR:VRT)(CC:Addr)(vs:QR)(H:Hp)(Q:L2.VK)(E:XK):Prop
 | mk (a:Addr)(D:QP)(s:Vst)(t:Th)(v:V)(_:vs=[.ref a,v])(_:VR H a D s)(_:0 < s.n)(_:Rep H t v)(_:Good t)(_:(∀H',s.stop t=none->Frm D H H'->VR H' a D (s.add t)->Q (.int (zh t)) H')) (_:(∀(u:Th)(x:Addr)(v1 v2:V)(H':Hp),s.stop t=some u->Frm D H H'->VR H' a D s->Rep H' u v1->Rep H' t v2->Good u->Good t->u≠t->zh u=zh t->H' x=some (xdO x [("one",v1),("other",v2)])->E (.ref CC) (some x) H')):zbX VR CC vs H Q E
def NdR (H:Hp)(nd:Nd)(v:V):Prop:=Rep H nd.th v/\Good nd.th
def benK (m:Int)(t:Th):Pg Nd:=match ndOf t with
 | none=>.bad
 | some nd=>if nd.c < m then .ret nd else .bad
theorem zee (h:ndOf t=none):benK m t=.bad:=by unfold benK;rw[h]
theorem zcJ {nd:Nd}(h:ndOf t=some nd):benK m t=if nd.c < m then .ret nd else .bad:=by unfold benK;rw[h]
def benP (n m:Int):Pg Nd:=.rd n (benK m)
def zjc {s:Vst}{q:Nd->Vst->Prop}{e:Er->Vst->Prop}(h:(benP n m).wp s q e):(benP n m).wp s (λnd s'=>(1<=nd.c/\nd.c < m)/\q nd s') e:=by
 refine⟨h.1,λt s' z=>?_,h.2.2⟩;have h1:=h.2.1 t s' z;cases y:ndOf t with
 | none=>rw[zee y] at h1 ⊢;exact h1
 | some nd=>
  rw[zcJ y] at h1 ⊢;obtain⟨rfl,zz⟩:=zen y;by_cases hc:nd.c < m
  ·rw[if_pos hc] at h1 ⊢;exact⟨⟨(znO zz).c1,hc⟩,h1⟩
  ·rw[if_neg hc] at h1 ⊢;exact h1
def zbl (n m:Int):Pg Int:=if n=0 then .ret 0 else(benP n m).bind λnd=>.ret nd.c
def IntR (_:Hp)(i:Int)(v:V):Prop:=v=.int i
def NonR (_:Hp)(_:Unit)(v:V):Prop:=v=.non
def sumP (nd:Nd):Pg Unit:=(zbl nd.l nd.c).bind λx=>(zbl nd.r nd.c).bind λy=>if x+y+1=nd.c then .ret () else .bad
inductive zcC (VR:VRT)(CN CB CC:Addr)(vs:QR)(H:Hp)(Q:L2.VK)(E:XK):Prop
 | mk (a:Addr)(D:QP)(s:Vst)(n m:Int)(_:vs=[.ref a,.int n,.int m])(_:VR H a D s)(_:Out VR CN CB CC a D (benP n m) s NdR H Q E):zcC VR CN CB CC vs H Q E
inductive zbE (VR:VRT)(CN CB CC:Addr)(vs:QR)(H:Hp)(Q:L2.VK)(E:XK):Prop
 | mk (a:Addr)(D:QP)(s:Vst)(n m:Int)(_:vs=[.ref a,.int n,.int m])(_:VR H a D s)(_:Out VR CN CB CC a D (zbl n m) s IntR H Q E):zbE VR CN CB CC vs H Q E
inductive zhp (VR:VRT)(CN CB CC:Addr)(vs:QR)(H:Hp)(Q:L2.VK)(E:XK):Prop
 | mk (a:Addr)(D:QP)(s:Vst)(n:Int)(_:vs=[.ref a,.int n])(_:VR H a D s)(_:Out VR CN CB CC a D (zbl n 301) s IntR H Q E):zhp VR CN CB CC vs H Q E
inductive zj1 (VR:VRT)(CN CB CC:Addr)(vs:QR)(H:Hp)(Q:L2.VK)(E:XK):Prop
 | mk (a:Addr)(D:QP)(s:Vst)(nd:Nd)(v:V)(_:vs=[.ref a,v])(_:VR H a D s)(_:NdR H nd v)(_:Out VR CN CB CC a D (sumP nd) s NonR H Q E):zj1 VR CN CB CC vs H Q E
abbrev _root_.Sc:List PySem.Str:=["vault","root","count"]
def zp6 (I:VI C VR)(D:Dfn K mg "node_beneath" zby Sc) (zlt:Mt P w K mg base (CX1 P w) C "thing" 2 Sd (zcs VR CN)) (c_K:Cls K C) (zg1:Fn P w K mg base "is_node" 3 Se zkA) (zbf:XP K mg "BadThing" CB) (zY:mg "COUNT" =some (.int 4 t5)):
  FnX P w K mg base "node_beneath" 4 Sc (zcC VR CN CB CC):=by
 refine D.okX (k:=3) (fsN ["vault","root","count","node"]) (λ_ _ _ _ s H vs Q E hr h=>?_);obtain⟨a,D,s,n,m,rfl,vs,h⟩:=h;obtain⟨h0,h1,h2⟩:=h;obtain⟨dx,fs,eo,n1,n2⟩:=I.ins vs;refine⟨_,(by have ι:=0;ac_rfl),?_⟩;refine⟨_,rfl,a,dx,_,rfl,eo,n1,_,rfl,a,D,s,n,rfl,vs,h0,λt s' v H1 lt f1 vs1 rep gt=>?_,λH1 ln f1 vs1=>h2 ln H1 f1 vs1⟩;have h3:=h1 t s' lt;refine⟨_,rfl,t,v,rfl,rep,_,rfl,?_⟩;cases z:ndOf t with
 | none=>rw[zee z] at h3;rw[zlL z];refine ifT rfl (ifT rfl ⟨szl (show 1<=1000 by decide),λe he=>⟨e,CB,none,rfl,za,zbf.cl.q,?_⟩⟩);rw[zeU he];exact h3 H1 f1 vs1
 | some nd=>
  rw[zcJ z] at h3;obtain⟨rfl,zz⟩:=zen z;rw[zz];obtain⟨p,vk,vw,rfl,ea,rk,rw'⟩:=zr rep;have et:SqT K H1 p [vk,vw,.int nd.l,.int nd.r,.int nd.c]:=SqT.of ea;refine ifF rfl ⟨_,rfl,p,_,_,_,rfl,rfl,et,rfl,_,rfl,_,_,rfl,rfl,_,rfl,?_⟩;by_cases hc:nd.c < m
  ·rw[if_pos hc] at h3;exact ifF (Jd (Int.not_le.mpr hc)) ⟨_,rfl,h3 _ H1 f1 vs1 ⟨rep,gt⟩⟩
  ·rw[if_neg hc] at h3;refine ifT (decide_eq_true (Int.not_lt.mp hc)) ⟨szl (show 1<=1000 by decide),λe he=>⟨e,CB,none,rfl,za,zbf.cl.q,?_⟩⟩;rw[zeU he];exact h3 H1 f1 vs1
def zmz (I:VI C VR)(D:Dfn K mg "size_beneath" zbw Sc) (zaD:FnX P w K mg base "node_beneath" 4 Sc (zcC VR CN CB CC)) (zY:mg "COUNT" =some (.int 4 t5)):
  FnX P w K mg base "size_beneath" 5 Sc (zbE VR CN CB CC):=by
 refine D.okX (k:=4) (fsN Sc) (λ_ _ _ _ s H vs Q E hr h=>?_);obtain⟨a,D,s,n,m,rfl,vs,h⟩:=h;refine⟨_,(by have ι:=0;ac_rfl),?_⟩;refine⟨_,rfl,rfl,_,rfl,?_⟩;rw[zE];unfold zbl Out at h;by_cases h0:n=0
 ·rw[if_pos h0] at h;exact ifT (decide_eq_true h0) (h _ H (Frm.of (Same.refl H)) vs rfl)
 ·rw[if_neg h0,Pg.wp_bind] at h;refine ifF (Jd h0) ?_;refine⟨_,rfl,_,rfl,_,rfl,a,D,s,n,m,rfl,vs,Pg.wp_mono (λnd s' q v H1 f1 vs1 rn=>?_) (λ_ _ z=>z) h⟩;obtain⟨p,vk,vw,rfl,ea,rk,rw'⟩:=zr rn.1;exact⟨p,_,_,_,rfl,rfl,SqT.of ea,rfl,q _ H1 f1 vs1 rfl⟩
abbrev _root_.SH:List PySem.Str:=["vault","root"]
def znp (I:VI C VR)(D:Dfn K mg "size" ssize SH) (zbg:FnX P w K mg base "size_beneath" 5 Sc (zbE VR CN CB CC)) (zag:mg "BENEATH_NONE" =some (.int 301 t7)):
  FnX P w K mg base "size" 6 SH (zhp VR CN CB CC):=by
 refine D.okX (k:=5) (fsN SH) (λ_ _ _ _ s H vs Q E hr h=>?_);obtain⟨a,D,s,n,rfl,vs,h⟩:=h;refine⟨_,(by ac_rfl),?_⟩;exact⟨_,rfl,_,rfl,a,D,s,n,301,rfl,vs,h⟩
abbrev zi2:Stmt:=top 59
abbrev zfJ:Stmt:=top 71
abbrev zhy:Stmt:=top 60
abbrev ziI:Stmt:=top 61
abbrev zkc:Stmt:=top 62
def zct {xs:QR}{v:V}:atI (xs++ [v]) (-1)=some v:=by
 unfold atI ixN;rw[if_neg (by decide),if_pos (by simp only[JI,List.length_singleton];lia)];show(xs++ [v])[((-1:Int)+(((xs++ [v]).length:Nat):Int)).toNat]? =_;rw[show((-1:Int)+(((xs++ [v]).length:Nat):Int)).toNat=xs.length by simp only[JI,List.length_singleton];lia,JY (Jb _),Nat.sub_self]
 rfl
theorem RepL.unsnoc {t:Th}:∀{ts:List Th}{vs:QR},RepL H (ts++ [t]) vs->∃us v,vs=us++ [v]/\RepL H ts us/\Rep H t v
 | [],_,.cons h .nil=>⟨[],_,rfl,.nil,h⟩
 | u::ts,_,.cons h r=>by obtain⟨us,v,e,r',h'⟩:=RepL.unsnoc r;exact⟨_::us,v,by rw[e];rfl,.cons h r',h'⟩
def zbY {nd:Nd}(g:Good nd.th):dep nd.k<=7/\dep nd.w<=7:=by have h:max (dep nd.k) (max (dep nd.w) (max 0 (max 0 (max 0 0))))+1<=8:=Jg g.dp (by decide);lia
def zb8 (k x:Th):Int:=if zb k x=true then 3 else 2
def kidI (nd:Nd)(x:Th):Int:=if zb nd.k x=true then nd.r else nd.l
def wayP (x:Th):Nat->Int->Int->Pg (List Nd)
 | 0,_,_=>.bad
 | f+1,n,m=>if n=0 then .ret [] else(benP n m).bind λnd=>if nd.k=x then .ret [nd] else(wayP x f (kidI nd x) nd.c).bind λns=>.ret (nd::ns)
theorem znY {q:List Nd->Vst->Prop}{e:Er->Vst->Prop}:∀{f:Nat}{n m:Int}{s:Vst},m<=301->(wayP x f n m).wp s q e->(wayP x f n m).wp s (λns s'=>(∀nd∈ns,1<=nd.c/\nd.c<=300)/\q ns s') e
 | 0,_,_,_,_,h=>h
 | f+1,n,m,s,hm,h=>by
  unfold wayP at h ⊢;by_cases h0:n=0
  ·rw[if_pos h0] at h ⊢;exact⟨λnd z=>(nomatch z),h⟩
  ·rw[if_neg h0,Pg.wp_bind] at h ⊢;refine Pg.wp_mono (λnd s' h1=>?_) (λ_ _ z=>z) (zjc h);obtain⟨⟨c1,c2⟩,h1⟩:=h1;by_cases ek:nd.k=x
   ·rw[if_pos ek] at h1 ⊢;exact⟨λy hy=>by rw[Jj.mp hy];exact⟨c1,by lia⟩,h1⟩
   ·rw[if_neg ek,Pg.wp_bind] at h1 ⊢;refine Pg.wp_mono (λns s2 h2=>?_) (λ_ _ z=>z) (znY (by lia) h1);refine⟨λy hy=>?_,h2.2⟩;rcases JD.mp hy with rfl | hy
    ·exact⟨c1,by lia⟩
    ·exact h2.1 y hy
def WayR (H:Hp)(ns:List Nd)(v:V):Prop:=∃pw ws,v=.ref pw/\H pw=some (.lst ws)/\RepL H (ns.map Nd.th) ws/\(∀nd∈ns,Good nd.th)/\ns.length<=301
def zc5 (ns:List Nd)(x:Th):Bool:=match ns.getLast? with
 | none=>false
 | some nd=>eqT nd.k x
def endW (ns:List Nd)(x:Th):Th:=match ns.getLast? with
 | none=>.non
 | some nd=>if nd.k=x then nd.w else .non
def zhk (n:Int)(x:Th):Pg Th:=(wayP x 301 n 301).bind λns=>.ret (endW ns x)
def ThR (H:Hp)(t:Th)(v:V):Prop:=Rep H t v
inductive zcS (vs:QR)(H:Hp)(Q:L2.VK)(_E:XK):Prop
 | mk (v vx:V)(nd:Nd)(x:Th)(_:vs=[v,vx])(_:Rep H nd.th v)(_:Rep H x vx)(_:dep nd.k<=7)(_:∀H',Same H H'->Q (.int (zb8 nd.k x)) H'):zcS vs H Q _E
def zL (nd:Nd)(s n m:Int):Nd:=if s=2 then⟨nd.k,nd.w,n,nd.r,m⟩ else⟨nd.k,nd.w,nd.l,n,m⟩
inductive zcP (vs:QR)(H:Hp)(Q:L2.VK)(_E:XK):Prop
 | mk (v:V)(nd:Nd)(i n m:Int)(_:vs=[v,.int i,.int n,.int m])(_:Rep H nd.th v)(_:∀p H',Same H H'->Rep H' (zL nd i n m).th (.ref p)->Q (.ref p) H'):zcP vs H Q _E
inductive zdX (VR:VRT)(CN CB CC:Addr)(vs:QR)(H:Hp)(Q:L2.VK)(E:XK):Prop
 | mk (a:Addr)(D:QP)(s:Vst)(n:Int)(x:Th)(vx:V)(_:vs=[.ref a,.int n,vx])(_:VR H a D s)(_:Rep H x vx)(_:dep x<=8)(_:Out VR CN CB CC a D (wayP x 301 n 301) s WayR H Q E):zdX VR CN CB CC vs H Q E
inductive zcT (K:QA)(vs:QR)(H:Hp)(Q:L2.VK)(_E:XK):Prop
 | mk (pw:Addr)(ws:QR)(ns:List Nd)(x:Th)(vx:V)(_:vs=[.ref pw,vx])(_:SqL K H pw ws)(_:RepL H (ns.map Nd.th) ws) (_:(∀nd∈ns,Good nd.th)) (_:Rep H x vx) (_:Q (.bl (zc5 ns x)) H):zcT K vs H Q _E
inductive zfy (VR:VRT)(CN CB CC:Addr)(vs:QR)(H:Hp)(Q:L2.VK)(E:XK):Prop
 | mk (a:Addr)(D:QP)(s:Vst)(n:Int)(x:Th)(vx:V)(_:vs=[.ref a,.int n,vx])(_:VR H a D s)(_:Rep H x vx)(_:dep x<=8)(_:Out VR CN CB CC a D (zhk n x) s ThR H Q E):zfy VR CN CB CC vs H Q E
theorem zfQ {t u:Th}(h:t=u):eqT t u=true:=by rw[h,zap]
theorem zhI {t u:Th}(h:t≠u):eqT t u=false:=by
 cases z:eqT t u with
 | true=>exact Jf ((zV _ _).mp z) h
 | false=>rfl
abbrev _root_.SC:List PySem.Str:=["node","key"]
def zmX (D:Dfn K mg "side_of" zi2 SC) (zaQ:Fn P w K mg base "ahead" 20 Sk (zaz 9)) (zax:mg "KEY" =some (.int 0 t1)) (zaw:mg "LEFT" =some (.int 2 t3)) (zae:mg "RIGHT" =some (.int 3 t4)):Fn P w K mg base "side_of" 21 SC zcS:=by
 refine D.ok (k:=20) (fsN SC) (λ_ _ _ _ _ H _ Q E hr h=>?_);obtain⟨v,vx,nd,x,rfl,rn,rx,kd,q⟩:=h;obtain⟨p,vk,vw,rfl,ea,rk,rw'⟩:=zr rn;have et:SqT K H p [vk,vw,.int nd.l,.int nd.r,.int nd.c]:=SqT.of ea;refine⟨_,(by have ι:=0;ac_rfl),?_⟩;refine⟨_,rfl,p,_,_,_,rfl,rfl,et,rfl,_,rfl,nd.k,x,_,_,rfl,rk,rx,by lia,by lia,λH1 s1=>⟨_,rfl,?_⟩⟩;have q1:=q H1 s1;unfold zb8 at q1;cases z:zb nd.k x with
 | true=>rw[if_pos z] at q1;exact ifT rfl q1
 | false=>rw[if_neg (by rw[z];exact Jc)] at q1;exact ifF rfl q1
abbrev _root_.Sl:List PySem.Str:=["node","side","root","count"]
def zoh (D:Dfn K mg "with_tree" zfJ Sl) (zax:mg "KEY" =some (.int 0 t1)) (zbt:mg "WORTH" =some (.int 1 t2)) (zaw:mg "LEFT" =some (.int 2 t3)) (zae:mg "RIGHT" =some (.int 3 t4)):Fn P w K mg base "with_tree" 1 Sl zcP:=by
 refine D.ok (k:=0) (fsN Sl) (λ_ _ _ _ _ H _ Q E hr h=>?_);obtain⟨v,nd,i,n,m,rfl,rn,q⟩:=h;obtain⟨p,vk,vw,rfl,ea,rk,rw'⟩:=zr rn;have et:SqT K H p [vk,vw,.int nd.l,.int nd.r,.int nd.c]:=SqT.of ea;refine⟨_,(by have ι:=0;ac_rfl),?_⟩;refine⟨_,rfl,rfl,_,rfl,?_⟩;rw[zE];unfold zL at q;by_cases z:i=2
 ·refine ifT (decide_eq_true z) ?_;refine⟨_,rfl,p,_,_,_,rfl,rfl,et,rfl,_,rfl,p,_,_,_,rfl,rfl,et,rfl,_,rfl,_,rfl,p,_,_,_,rfl,rfl,et,rfl,_,rfl,szl (show 5<=1000 by decide),λp' hp'=>?_⟩;refine q p' _ (zj (Same.refl H) hp') ?_;rw[if_pos z];exact(RepL.cons rk (.cons rw' (.cons (.int _) (.cons (.int _) (.cons (.int _) .nil))))).new hp'
 ·refine ifF (Jd z) ?_;refine⟨_,rfl,p,_,_,_,rfl,rfl,et,rfl,_,rfl,p,_,_,_,rfl,rfl,et,rfl,_,rfl,p,_,_,_,rfl,rfl,et,rfl,_,rfl,_,rfl,szl (show 5<=1000 by decide),λp' hp'=>?_⟩;refine q p' _ (zj (Same.refl H) hp') ?_;rw[if_neg z];exact(RepL.cons rk (.cons rw' (.cons (.int _) (.cons (.int _) (.cons (.int _) .nil))))).new hp'
abbrev _root_.Sb:List PySem.Str:=["vault","root","key"]
def zp7 (I:VI C VR)(D:Dfn K mg "way_to" zhy Sb) (zaD:FnX P w K mg base "node_beneath" 4 Sc (zcC VR CN CB CC)) (zg2:Fn P w K mg base "side_of" 21 SC zcS) (zax:mg "KEY" =some (.int 0 t1)) (zY:mg "COUNT" =some (.int 4 t5)) (zag:mg "BENEATH_NONE" =some (.int 301 t7)):
  FnX P w K mg base "way_to" 22 Sb (zdX VR CN CB CC):=by
 refine D.okX (k:=21) (fsN ["vault","root","key","way","count","node"]) (λ_ _ _ _ s H vs Q E hr h=>?_);obtain⟨a,D,s,n,x,vx,rfl,vs,rx,dx,h⟩:=h;refine⟨_,(by have ι:=0;have θ:=0;ac_rfl),?_⟩;refine⟨szl (show 0<=1000 by decide),λpw hpw=>?_⟩;have s0:=zj (o:=.lst []) (Same.refl H) hpw;have e0:upd H pw (.lst []) pw=some (.lst []):=za;generalize upd H pw (.lst [])=H0 at s0 e0;refine⟨λm σ H'=>∃(s1:Vst)(n c:Int)(done:List Nd)(ws:QR)(k5:Option V),(wayP x m n c).wp s1 (λrest s'=>OutQ VR a D WayR H Q (done++rest) s') (OutE VR CN CB CC a D H E)/\1<=c/\c<=(m:Int)/\done.length+m<=301/\σ=[some (.ref a),some (.int n),some vx,some (.ref pw),some (.int c),k5]/\Frm D H H'/\VR H' a D s1/\H' pw=some (.lst ws)/\RepL H' (done.map Nd.th) ws/\(∀nd∈done,Good nd.th),⟨301,s,n,301,[],[],_,h,by decide,by decide,by decide,rfl,Frm.of s0,I.same vs s0,e0,.nil,λnd z=>by cases z⟩,?_⟩;clear h;rintro m σ H1 ⟨s1,n,c,done,ws,k5,h,hc1,hcm,hdm,rfl,f1,vs1,e1,r1,gd⟩;refine⟨_,rfl,rfl,_,rfl,?_⟩;rw[zE];obtain⟨m,rfl⟩:∃j,m=j+1:=⟨m - 1,by lia⟩;unfold wayP at h;by_cases hn:n=0
 ·rw[if_pos hn] at h;refine ifF (by rw[decide_eq_true hn];rfl) ⟨_,rfl,h _ H1 f1 vs1 ⟨pw,ws,rfl,e1,?_,?_,?_⟩⟩
  ·rw[JP];exact r1
  ·rw[JP];exact gd
  ·rw[JP];lia
 rw[if_neg hn,Pg.wp_bind] at h;refine ifT (by rw[Jd hn];rfl) ⟨_,fun σ' H' h=>h,?_⟩;refine⟨_,rfl,_,rfl,_,rfl,a,D,s1,n,c,rfl,vs1,?_⟩;have hb:(benP n c).wp s1 (λnd s'=>(1<=nd.c/\nd.c < c)/\(if nd.k=x then Pg.ret [nd] else(wayP x m (kidI nd x) nd.c).bind λns=>.ret (nd::ns)).wp s' (λrest s'=>OutQ VR a D WayR H Q (done++rest) s') (OutE VR CN CB CC a D H E)) (OutE VR CN CB CC a D H E):=zjc h;refine Pg.wp_mono (λnd s2 h2 v H2 f2 vs2 rn=>?_) (OutE.on f1) hb;obtain⟨⟨c1,c2⟩,h2⟩:=h2;obtain⟨rn,gn⟩:=rn;obtain⟨p,vk,vw,rfl,ea,rk,rw'⟩:=zr rn;have gd':∀nd'∈done++ [nd],Good nd'.th:=λnd' z=>by
  rcases Jm.mp z with z | z
  ·exact gd nd' z
  ·rw[Jj.mp z];exact gn
 have e2:=I.lst vs1 f2 e1;have hlw:ws.length=done.length:=by rw[r1.len,JE]
 refine⟨_,rfl,.inl ⟨rfl,_,SqL.of e2⟩,_,rfl,pw,ws,_,rfl,rfl,e2,Je (show ws.length < 1000 by lia) (szl (Jb _)),?_⟩;have tk1:Tups H2 (upd H2 pw (.lst (ws++ [.ref p]))):=Tups.upd λxs z=>by rw[e2] at z;cases z
 have e3:upd H2 pw (.lst (ws++ [.ref p])) pw=some (.lst (ws++ [.ref p])):=za;have f3:Frm D H (upd H2 pw (.lst (ws++ [.ref p]))):=zbP (f1.trans f2) hpw;have vs3:VR (upd H2 pw (.lst (ws++ [.ref p]))) a D s2:=I.nl vs2 (NL.lst e2);have r3:RepL (upd H2 pw (.lst (ws++ [.ref p]))) ((done++ [nd]).map Nd.th) (ws++ [.ref p]):=by rw[JR];exact((r1.keep (I.tups vs1 f2)).keep tk1).snoc (rn.keep tk1)
 have rn3:=rn.keep tk1;have ea3:=tk1 _ _ ea;have rk3:=rk.keep tk1;have rx3:=(rx.keep ((I.tups vs (f1.trans f2)).trans tk1));generalize upd H2 pw (.lst (ws++ [.ref p]))=H3 at tk1 e3 f3 vs3 r3 rn3 ea3 rk3 rx3;have et:SqT K H3 p _:=SqT.of ea3;have kd:=(zbY gn).1;refine⟨_,rfl,p,_,_,_,rfl,rfl,et,rfl,_,rfl,nd.k,x,rk3,rx3,by lia,_,rfl,?_⟩;by_cases ek:nd.k=x
 ·rw[if_pos ek] at h2;exact ifT (zfQ ek) ⟨_,rfl,h2 _ H3 f3 vs3 ⟨pw,_,rfl,e3,r3,gd',by rw[JI];show done.length+1<=301;lia⟩⟩
 ·rw[if_neg ek,Pg.wp_bind] at h2;refine ifF (zhI ek) ?_;refine⟨_,rfl,_,rfl,_,rfl,_,_,nd,x,rfl,rn3,rx3,kd,λH4 s4=>?_⟩;have et4:SqT K H4 p _:=SqT.of (s4 _ _ ea3);have ix:atI [vk,vw,.int nd.l,.int nd.r,.int nd.c] (zb8 nd.k x)=some (.int (kidI nd x)):=by
   unfold zb8 kidI;by_cases y:zb nd.k x=true
   ·rw[if_pos y,if_pos y];rfl
   ·rw[if_neg y,if_neg y];rfl
  refine⟨p,_,_,_,rfl,rfl,et4,ix,?_⟩;refine⟨_,rfl,p,_,_,_,rfl,rfl,et4,rfl,?_⟩;refine⟨m,Jt m,s2,_,_,done++ [nd],_,_,Pg.wp_mono (λns s' z=>?_) (λ_ _ z=>z) h2,c1,by lia,by rw[JI];show done.length+1+m<=301;lia,rfl,f3.trans (Frm.of s4),I.same vs3 s4,s4 _ _ e3,r3.keep (Same.tups s4),gd'⟩;have z':OutQ VR a D WayR H Q (done++(nd::ns)) s':=z;rw[Ng];exact z'
abbrev _root_.Sr:List PySem.Str:=["way","key"]
def _root_.Nb:=@List.getLast?_concat
def zn9 (D:Dfn K mg "ends_at" ziI Sr) (zax:mg "KEY" =some (.int 0 t1)) (zC:mg "len" =none):Fn P w K mg base "ends_at" 1 Sr (zcT K):=by
 refine D.ok (k:=0) (fsN Sr) (λ_ _ _ _ _ H _ Q E hr h=>?_);obtain⟨pw,ws,ns,x,vx,rfl,hs,rw,kt,rx,q⟩:=h;have hl:ws.length=ns.length:=by rw[rw.len,JE]
 refine⟨_,(zw (zaa (zc9 (by ac_rfl) (zb0 (zak (zeZ hr) (zbD zfL (by ac_rfl) (by ac_rfl) (λ_ _=>rfl)) (pv 1) (zau _)))))),?_⟩;refine⟨_,rfl,pw,_,rfl,.inl hs,_,_,rfl,rfl,_,rfl,?_⟩;rcases Nv ns with e | ⟨pre,nd,e⟩
 ·subst e;refine ifF (by show decide ((0:Int) < ((ws.length:Nat):Int))=false;rw[hl];rfl) q
 ·rw[Nw] at e;subst e;have kd:=(zbY (kt nd (by simp))).1;rw[JR] at rw;obtain⟨us,v,rfl,rus,rn⟩:=rw.unsnoc;obtain⟨p,vk,vw,rfl,ea,rk,_⟩:=zr rn;refine ifT (decide_eq_true (show(0:Int) < (((us++ [V.ref p]).length:Nat):Int) by simp only[JI,List.length_singleton];lia)) ?_;have q':Q (.bl (eqT nd.k x)) H:=by unfold zc5 at q;rw[Nb] at q;exact q
  exact⟨_,rfl,_,rfl,pw,_,_,_,rfl,rfl,hs,zct,p,_,_,_,rfl,rfl,SqT.of ea,rfl,_,rfl,nd.k,x,rk,rx,by lia,q'⟩
def zmB (I:VI C VR)(D:Dfn K mg "found" zkc Sb) (zf4:FnX P w K mg base "way_to" 22 Sb (zdX VR CN CB CC)) (zg3:Fn P w K mg base "ends_at" 1 Sr (zcT K)) (zbt:mg "WORTH" =some (.int 1 t2)):FnX P w K mg base "found" 23 Sb (zfy VR CN CB CC):=by
 refine D.okX (k:=22) (fsN ["vault","root","key","way"]) (λ_ _ _ _ s H vs Q E hr h=>?_);obtain⟨a,D,s,n,x,vx,rfl,vs,rx,dx,h⟩:=h;refine⟨_,(zf (by ac_rfl)
 (zw (zaa (zfj (by ac_rfl) (zbD zfL (by ac_rfl) (by ac_rfl) (λ_ _=>rfl)) znB)))),?_⟩
 unfold Out zhk at h;rw[Pg.wp_bind] at h;refine⟨_,rfl,_,rfl,_,rfl,a,D,s,n,x,vx,rfl,vs,rx,dx,Pg.wp_mono (λns s1 h1 v H1 f1 vs1 rn=>?_) (λ_ _ z=>z) h⟩;obtain⟨pw,ws,rfl,ew,rwy,gd,hl⟩:=rn;refine⟨_,rfl,_,rfl,pw,ws,ns,x,vx,rfl,SqL.of ew,rwy,gd,rx.keep (I.tups vs f1),_,rfl,?_⟩;have h2:OutQ VR a D ThR H Q (endW ns x) s1:=h1;rcases Nv ns with e | ⟨pre,nd,e⟩
 ·subst e;exact ifF rfl (h2 _ H1 f1 vs1 .non)
 ·rw[Nw] at e;subst e;have eb:zc5 (pre++ [nd]) x=eqT nd.k x:=by unfold zc5;rw[Nb]
  have ew':endW (pre++ [nd]) x=if nd.k=x then nd.w else .non:=by unfold endW;rw[Nb]
  rw[ew'] at h2;rw[eb];by_cases ek:nd.k=x
  ·rw[if_pos ek] at h2;rw[JR] at rwy;obtain⟨us,v,rfl,rus,rn⟩:=rwy.unsnoc;obtain⟨p,vk,vw,rfl,ea,rk,rw'⟩:=zr rn;exact ifT (zfQ ek) ⟨_,rfl,_,rfl,pw,_,_,_,rfl,rfl,SqL.of ew,zct,p,_,_,_,rfl,rfl,SqT.of ea,rfl,h2 vw H1 f1 vs1 rw'⟩
  ·rw[if_neg ek] at h2;exact ifF (zhI ek) (h2 _ H1 f1 vs1 .non)
abbrev zm7:Stmt:=top 72
abbrev zhA:Stmt:=top 73
abbrev zgm:Stmt:=top 74
abbrev sput:Stmt:=top 75
theorem RepL.take:∀{ts:List Th}{vs:QR}(n:Nat),RepL H ts vs->RepL H (ts.take n) (vs.take n)
 | _,_,0,_=>by rw[List.take_zero,List.take_zero];exact .nil
 | _,_,n+1,.nil=>by rw[List.take_nil,List.take_nil];exact .nil
 | _,_,n+1,.cons h r=>.cons h (RepL.take n r)
theorem RepL.drop:∀{ts:List Th}{vs:QR}(n:Nat),RepL H ts vs->RepL H (ts.drop n) (vs.drop n)
 | _,_,0,r=>r
 | _,_,n+1,.nil=>by rw[List.drop_nil,List.drop_nil];exact .nil
 | _,_,n+1,.cons h r=>RepL.drop n r
theorem ztI {xs:QR}{n:Nat}(h:n<=xs.length):cutV xs none (some (n:Int))=xs.take n:=by
 unfold cutV;rw[HT.sIx_none,HT.sIx_nat,Nat.min_eq_left h]
 rfl
theorem zpA {xs:QR}{n:Nat}(h:n<=xs.length):cutV xs (some (n:Int)) none=xs.drop n:=by unfold cutV;rw[HT.sIx_none,HT.sIx_nat,Nat.min_eq_left h];exact Jr (by rw[Nj];exact Jb _)
theorem zlh {xs:QR}{n:Nat}(h:xs.length=n+1):cutV xs none (some (-1))=xs.take n:=by unfold cutV;rw[HT.sIx_none];show(xs.drop 0).take (HT.sIx xs.length xs.length (some (-1)) - 0)=_;rw[List.drop_zero,Nat.sub_zero,h];congr 1;unfold HT.sIx;simp;lia
def joinM {c:Bool}{A B N:Prop}(a:c=true->N->A)(b:c=false->N->B)(rest:N):if c=true then A else B:=ifB (λh=>a h rest) (λh=>b h rest)
def zfX {nd:Nd}(g:Good nd.th):Good nd.k/\Good nd.w:=by have h1:max (dep nd.k) (max (dep nd.w) (max 0 (max 0 (max 0 0))))+1<=dep nd.th:=Jb _;have h4:=g.dp;have h2:1+(nodes nd.k+(nodes nd.w+(1+(1+(1+0)))))<=80:=g.nd;have h3:Wf nd.k/\Wf nd.w:=⟨g.wf.2.1,g.wf.2.2.1⟩;exact⟨⟨h3.1,by lia,by lia⟩,⟨h3.2,by lia,by lia⟩⟩
def zaX (x:Th)(more:Int):List Nd->Int->Pg Int
 | [],n=>.ret n
 | nd::r,n=>.lay (zL nd (zb8 nd.k x) n (nd.c+more)).th (zaX x more r (zh (zL nd (zb8 nd.k x) n (nd.c+more)).th))
def zeF (x:Th):List Nd->Int->Int->Int->Int->Pg (Int ×Int)
 | [],l,_,r,_=>.ret (l,r)
 | nd::t,l,lc,r,rc=>if zb nd.k x=true then .lay (zL nd 3 l (nd.c - rc)).th (zeF x t (zh (zL nd 3 l (nd.c - rc)).th) (nd.c - rc) r rc)
  else .lay (zL nd 2 r (nd.c - lc)).th (zeF x t l lc (zh (zL nd 2 r (nd.c - lc)).th) (nd.c - lc))
def zav (x:Th):List Nd->Nat
 | []=>0
 | nd::r=>if z9 x nd.k=true then 0 else zav x r+1
theorem zgJ (x:Th):∀ns:List Nd,zav x ns<=ns.length
 | []=>Jb _
 | nd::r=>by
  unfold zav;split
  ·exact JM _
  ·exact Nat.succ_le_succ (zgJ x r)
def zdp (ns:List Nd)(i:Nat):Int:=match ns[i]? with
 | some nd=>nd.c
 | none=>0
def putN (x wo:Th)(ns:List Nd):Pg Int:=(zeF x (ns.drop (zav x ns)).reverse 0 0 0 0).bind λlr=>
 .lay (Nd.mk x wo lr.1 lr.2 (zdp ns (zav x ns)+1)).th (zaX x 1 (ns.take (zav x ns)).reverse (zh (Nd.mk x wo lr.1 lr.2 (zdp ns (zav x ns)+1)).th))
def putO (x wo:Th)(ns:List Nd)(own:Nd):Pg Int:=.lay (Nd.mk x wo own.l own.r own.c).th (zaX x 0 ns.dropLast.reverse (zh (Nd.mk x wo own.l own.r own.c).th))
def zds (x wo:Th)(ns:List Nd):Pg Int:=match ns.getLast? with
 | none=>putN x wo ns
 | some own=>if own.k=x then putO x wo ns own else putN x wo ns
def putP (n:Int)(x wo:Th):Pg Int:=(wayP x 301 n 301).bind (zds x wo)
def zq0 (H:Hp)(y:Int ×Int)(v:V):Prop:=∃p,v=.ref p/\H p=some (.tup [.int y.1,.int y.2])
inductive zdh (VR:VRT)(CN CB CC:Addr)(vs:QR)(H:Hp)(Q:L2.VK)(E:XK):Prop
 | mk (a pw:Addr)(D:QP)(s:Vst)(ws:QR)(ns:List Nd)(x:Th)(vx:V)(n more:Int)(_:vs=[.ref a,.ref pw,vx,.int n,.int more])(_:VR H a D s)(_:H pw=some (.lst ws)) (_:RepL H (ns.map Nd.th) ws) (_:(∀nd∈ns,Good nd.th)) (_:Rep H x vx) (_:Out VR CN CB CC a D (zaX x more ns.reverse n) s IntR H Q E):zdh VR CN CB CC vs H Q E
inductive zcI (VR:VRT)(CN CB CC:Addr)(vs:QR)(H:Hp)(Q:L2.VK)(E:XK):Prop
 | mk (a pw:Addr)(D:QP)(s:Vst)(ws:QR)(ns:List Nd)(x:Th)(vx:V)(n m:Int)(_:vs=[.ref a,.ref pw,vx,.int n,.int m])(_:VR H a D s)(_:H pw=some (.lst ws)) (_:RepL H (ns.map Nd.th) ws) (_:(∀nd∈ns,Good nd.th)) (_:Rep H x vx) (_:Out VR CN CB CC a D (zeF x ns.reverse n m 0 0) s zq0 H Q E):zcI VR CN CB CC vs H Q E
inductive zdi (vs:QR)(H:Hp)(Q:L2.VK)(_E:XK):Prop
 | mk (pw:Addr)(ws:QR)(ns:List Nd)(x:Th)(vx:V)(_:vs=[.ref pw,vx])(_:H pw=some (.lst ws)) (_:RepL H (ns.map Nd.th) ws) (_:(∀nd∈ns,Good nd.th)) (_:Good x) (_:Rep H x vx) (_:∀H',Same H H'->Q (.int (zav x ns:Int)) H'):zdi vs H Q _E
inductive zd9 (VR:VRT)(CN CB CC:Addr)(vs:QR)(H:Hp)(Q:L2.VK)(E:XK):Prop
 | mk (a:Addr)(D:QP)(s:Vst)(n:Int)(x wo:Th)(vx vw:V)(_:vs=[.ref a,.int n,vx,vw])(_:VR H a D s)(_:Rep H x vx)(_:Good x)(_:Rep H wo vw)(_:Out VR CN CB CC a D (putP n x wo) s IntR H Q E):zd9 VR CN CB CC vs H Q E
def zj3 {α:Type}{f:α->Th}{ns:List α}{j:Nat}{y:V}(r:RepL H (ns.map f) ws)(hj:j < ws.length)(hy:ws.reverse[j]? =some y):∃nd,nd∈ns/\ns.reverse.drop j=nd::ns.reverse.drop (j+1)/\Rep H (f nd) y:=by
 have hl:ws.length=ns.length:=by rw[r.len,JE]
 have hr:j < ns.reverse.length:=by rw[List.length_reverse];lia
 rw[List.getElem?_reverse hj] at hy;have hn:ns[ns.length - 1 - j]? =some (ns[ns.length - 1 - j]'(by lia)):=JB (by lia);refine⟨ns[ns.length - 1 - j]'(by lia),Jn _,?_,r.at (ws.length - 1 - j) _ _ hy (by rw[hl,JQ,hn];rfl)⟩;rw[Jo hr,List.getElem_reverse]
abbrev _root_.Sj:List PySem.Str:=["vault","way","key","root","more"]
def _root_.Nr:=@List.drop_of_length_le
def znE (I:VI C VR)(D:Dfn K mg "hung" zm7 Sj) (zg4:Mt P w K mg base (CX1 P w) C "lay" 14 Sh (zbX VR CC)) (c_C:Cls K C) (zeJ:Fn P w K mg base "with_tree" 1 Sl zcP) (zg2:Fn P w K mg base "side_of" 21 SC zcS) (zY:mg "COUNT" =some (.int 4 t5)) (zb5:mg "reversed" =none):
  FnX P w K mg base "hung" 22 Sj (zdh VR CN CB CC):=by
 refine D.okX (k:=21) (fsN ["vault","way","key","root","more","node"]) (λ_ _ _ _ s H vs Q E hr h=>?_);obtain⟨a,pw,D,s,ws,ns,x,vx,n,more,rfl,vs,ew,rw,gd,rx,h⟩:=h;have hl:ws.length=ns.length:=by rw[rw.len,JE]
 refine⟨_,(by have ι:=0;ac_rfl),?_⟩;refine⟨_,rfl,pw,ws,rfl,SqL.of ew,?_⟩;refine zhY (λj σ H'=>∃(s1:Vst)(n:Int)(k5:Option V),(zaX x more (ns.reverse.drop j) n).wp s1 (OutQ VR a D IntR H Q) (OutE VR CN CB CC a D H E)/\σ=[some (.ref a),some (.ref pw),some vx,some (.int n),some (.int more),k5]/\Frm D H H'/\VR H' a D s1) ⟨s,n,_,h,rfl,Frm.refl,vs⟩ ?_ ?_ ?_
 ·rintro j σ H' ⟨s1,n,k5,_,rfl,fr,_⟩;exact SqL.of (I.lst vs fr ew)
 ·rintro j y σ H' hj hy ⟨s1,n,k5,h,rfl,fr,vs1⟩;obtain⟨nd,hm,ed,rl⟩:=zj3 rw hj hy;have gn:=gd nd hm;rw[ed] at h;obtain⟨h0,gN,h1,h2⟩:=h;have tk:=I.tups vs fr;have rl':=rl.keep tk;obtain⟨p,vk,vw,rfl,ea,rk,rw'⟩:=zr rl';obtain⟨dx,fs,eo,_,n2⟩:=I.ins vs1;refine⟨_,rfl,a,dx,fs,rfl,eo,n2,_,rfl,_,rfl,_,rfl,_,_,nd,x,rfl,rl',rx.keep tk,(zbY gn).1,λH1 s1'=>?_⟩;refine⟨_,rfl,_,rfl,p,_,_,_,rfl,rfl,SqT.of (s1' _ _ ea),rfl,_,rfl,_,_,rfl,rfl,_,nd,_,_,_,rfl,rl'.keep (Same.tups s1'),λp2 H2 s2 r2=>?_⟩;have s12:Same H' H2:=λb o e=>s2 b o (s1' b o e);have f12:=fr.trans (Frm.of s12);exact⟨a,D,s1,_,_,rfl,I.same vs1 s12,h0,r2,gN,λH3 st f3 vs3=>⟨_,_,_,h1 st,rfl,f12.trans f3,vs3⟩,λu x' v1 v2 H3 st f3=>h2 u st x' v1 v2 H3 (f12.trans f3)⟩
 ·rintro σ H' ⟨s1,n,k5,h,rfl,fr,vs1⟩;rw[Nr (by rw[List.length_reverse];lia)] at h;exact⟨_,rfl,h _ H' fr vs1 rfl⟩
abbrev _root_.So:List PySem.Str:=["vault","way","key","root","count"]
def zkd (I:VI C VR)(D:Dfn K mg "parted" zhA So) (zg4:Mt P w K mg base (CX1 P w) C "lay" 14 Sh (zbX VR CC)) (c_C:Cls K C) (zeJ:Fn P w K mg base "with_tree" 1 Sl zcP) (zg2:Fn P w K mg base "side_of" 21 SC zcS) (zY:mg "COUNT" =some (.int 4 t5)) (zaw:mg "LEFT" =some (.int 2 t3)) (zae:mg "RIGHT" =some (.int 3 t4)) (zb5:mg "reversed" =none):
  FnX P w K mg base "parted" 22 So (zcI VR CN CB CC):=by
 refine D.okX (k:=21) (fsN ["vault","way","key","root","count","left","left_count","right","right_count","node"]) (λ_ _ _ _ s H vs Q E hr h=>?_);obtain⟨a,pw,D,s,ws,ns,x,vx,n,m,rfl,vs,ew,rw,gd,rx,h⟩:=h;have hl:ws.length=ns.length:=by rw[rw.len,JE]
 refine⟨_,(by have ι:=0;ac_rfl),?_⟩;refine⟨_,rfl,_,rfl,_,rfl,pw,ws,rfl,SqL.of ew,?_⟩;refine zhY (λj σ H'=>∃(s1:Vst)(l lc r rc:Int)(k9:Option V),(zeF x (ns.reverse.drop j) l lc r rc).wp s1 (OutQ VR a D zq0 H Q) (OutE VR CN CB CC a D H E)/\σ=[some (.ref a),some (.ref pw),some vx,some (.int n),some (.int m),some (.int l),some (.int lc),some (.int r),some (.int rc),k9]/\Frm D H H'/\VR H' a D s1) ⟨s,n,m,0,0,_,h,rfl,Frm.refl,vs⟩ ?_ ?_ ?_
 ·rintro j σ H' ⟨s1,l,lc,r,rc,k9,_,rfl,fr,_⟩;exact SqL.of (I.lst vs fr ew)
 ·rintro j y σ H' hj hy ⟨s1,l,lc,r,rc,k9,h,rfl,fr,vs1⟩;obtain⟨nd,hm,ed,rl⟩:=zj3 rw hj hy;have gn:=gd nd hm;rw[ed] at h;unfold zeF at h;have tk:=I.tups vs fr;have rl':=rl.keep tk;obtain⟨p,vk,vw,rfl,ea,rk,rw'⟩:=zr rl';refine⟨_,rfl,_,rfl,_,_,nd,x,rfl,rl',rx.keep tk,(zbY gn).1,λH1 s1'=>⟨rfl,_,rfl,?_⟩⟩;rw[zE];have vs2:=I.same vs1 s1';obtain⟨dx,fs,eo,_,n2⟩:=I.ins vs2;by_cases c:zb nd.k x=true
  ·have e3:zb8 nd.k x=3:=if_pos c;rw[if_pos c] at h;obtain⟨h0,gN,h1,h2⟩:=h;refine ifT (decide_eq_true e3) ?_;refine⟨_,rfl,p,_,_,_,rfl,rfl,SqT.of (s1' _ _ ea),rfl,_,rfl,_,_,rfl,rfl,?_⟩;refine⟨_,rfl,a,dx,fs,rfl,eo,n2,_,rfl,_,rfl,_,rfl,_,nd,_,_,_,rfl,rl'.keep (Same.tups s1'),λp2 H2 s2 r2=>?_⟩;have f12:Frm D H H2:=fr.trans ((Frm.of s1').trans (Frm.of s2));exact⟨a,D,s1,_,_,rfl,I.same vs2 s2,h0,r2,gN,λH3 st f3 vs3=>⟨_,_,_,_,_,_,h1 st,rfl,f12.trans f3,vs3⟩,λu x' v1 v2 H3 st f3=>h2 u st x' v1 v2 H3 (f12.trans f3)⟩
  ·have e3:zb8 nd.k x=2:=if_neg c;rw[if_neg c] at h;obtain⟨h0,gN,h1,h2⟩:=h;refine ifF (Jd (by rw[e3];decide)) ?_;refine⟨_,rfl,p,_,_,_,rfl,rfl,SqT.of (s1' _ _ ea),rfl,_,rfl,_,_,rfl,rfl,?_⟩;refine⟨_,rfl,a,dx,fs,rfl,eo,n2,_,rfl,_,rfl,_,rfl,_,nd,_,_,_,rfl,rl'.keep (Same.tups s1'),λp2 H2 s2 r2=>?_⟩;have f12:Frm D H H2:=fr.trans ((Frm.of s1').trans (Frm.of s2));exact⟨a,D,s1,_,_,rfl,I.same vs2 s2,h0,r2,gN,λH3 st f3 vs3=>⟨_,_,_,_,_,_,h1 st,rfl,f12.trans f3,vs3⟩,λu x' v1 v2 H3 st f3=>h2 u st x' v1 v2 H3 (f12.trans f3)⟩
 ·rintro σ H' ⟨s1,l,lc,r,rc,k9,h,rfl,fr,vs1⟩;rw[Nr (by rw[List.length_reverse];lia)] at h;refine⟨_,rfl,_,rfl,szl (show 2<=1000 by decide),λp hp=>?_⟩;have s2:=zj (o:=.tup [.int l,.int r]) (Same.refl H') hp;exact h _ _ (fr.trans (Frm.of s2)) (I.same vs1 s2) ⟨p,rfl,za⟩
def zmc (D:Dfn K mg "place_in" zgm Sr) (zib:Fn P w K mg base "above" 21 SK zdK) (zax:mg "KEY" =some (.int 0 t1)) (zeK:mg "enumerate" =none) (zC:mg "len" =none):Fn P w K mg base "place_in" 22 Sr zdi:=by
 refine D.ok (k:=21) (fsN ["way","key","number","node"]) (λ_ _ _ _ _ H _ Q E hr h=>?_);obtain⟨pw,ws,ns,x,vx,rfl,ew,rw,gd,gx,rx,q⟩:=h;have hl:ws.length=ns.length:=by rw[rw.len,JE]
 refine⟨_,(by have ι:=0;ac_rfl),?_⟩;refine⟨_,rfl,pw,ws,rfl,SqL.of ew,?_⟩;refine zov (λi σ H'=>∃k2 k3,σ=[some (.ref pw),some vx,k2,k3]/\Same H H'/\zav x ns=i+zav x (ns.drop i)) ⟨_,_,rfl,Same.refl _,by rw[Nat.zero_add];rfl⟩ ?_ ?_ ?_
 ·rintro i σ H' ⟨k2,k3,rfl,sm,_⟩;exact SqL.of (sm _ _ ew)
 ·rintro i y U σ H' hy hU ⟨k2,k3,rfl,sm,hp⟩;have hi:i < ws.length:=(JH.mp hy).1;have hn:ns[i]? =some (ns[i]'(by lia)):=JB (by lia);have rl:=rw.at i y _ hy (by rw[JQ,hn];rfl);have gn:=gd _ (Jn (show i < ns.length by lia));have ed:ns.drop i=ns[i]'(by lia)::ns.drop (i+1):=Jo (by lia);generalize ns[i]'(by lia)=nd at rl gn ed;have sm':Same H (upd H' U (.tup [.int i,y])):=zj sm hU;have eU:upd H' U (.tup [.int i,y]) U=some (.tup [.int i,y]):=za;generalize upd H' U (.tup [.int i,y])=H1 at sm' eU;obtain⟨p,vk,vw,rfl,ea,rk,_⟩:=zr rl;refine⟨U,_,rfl,SqT.of eU,rfl,_,_,rfl,_,_,rfl,rfl,?_⟩;refine⟨_,rfl,_,rfl,p,_,_,_,rfl,rfl,SqT.of (sm' _ _ ea),rfl,x,nd.k,_,_,rfl,rx.keep (Same.tups sm'),rk.keep (Same.tups sm'),gx,(zfX gn).1,λH2 s2=>⟨_,rfl,?_⟩⟩;have s02:Same H H2:=λb o e=>s2 b o (sm' b o e);have e0:zav x (ns.drop i)=if z9 x nd.k=true then 0 else zav x (ns.drop (i+1))+1:=by rw[ed];rfl
  cases z:z9 x nd.k with
  | true=>rw[if_pos z] at e0;refine ifT rfl ⟨_,rfl,?_⟩;have:=q H2 s02;rw[hp,e0] at this;exact this
  | false=>rw[if_neg (by rw[z];exact Jc)] at e0;exact ifF rfl ⟨_,_,rfl,s02,by lia⟩
 ·rintro σ H' ⟨k2,k3,rfl,sm,hp⟩;refine⟨_,rfl,pw,_,rfl,.inl (SqL.of (sm _ _ ew)),?_⟩;rw[Nr (by lia)] at hp;have:=q H' sm;rw[hp] at this;exact this
abbrev _root_.Sm:List PySem.Str:=["vault","root","key","worth"]
def zqr (I:VI C VR)(D:Dfn K mg "put" sput Sm) (zf4:FnX P w K mg base "way_to" 22 Sb (zdX VR CN CB CC)) (zg3:Fn P w K mg base "ends_at" 1 Sr (zcT K)) (zg4:Mt P w K mg base (CX1 P w) C "lay" 14 Sh (zbX VR CC)) (c_C:Cls K C) (zsB:FnX P w K mg base "hung" 22 Sj (zdh VR CN CB CC)) (ztM:FnX P w K mg base "parted" 22 So (zcI VR CN CB CC))
  (zsC:Fn P w K mg base "place_in" 22 Sr zdi) (zY:mg "COUNT" =some (.int 4 t5)) (zaw:mg "LEFT" =some (.int 2 t3)) (zae:mg "RIGHT" =some (.int 3 t4)) (zC:mg "len" =none):FnX P w K mg base "put" 23 Sm (zd9 VR CN CB CC):=by
 refine D.okX (k:=22) (fsN ["vault","root","key","worth","way","own","new","place","trees","count"]) (λ_ _ _ _ s H vs Q E hr h=>?_);obtain⟨a,D,s,n,x,wo,vx,vw,rfl,vs,rx,gx,rw0,h⟩:=h;unfold Out putP at h;rw[Pg.wp_bind] at h;have ι:=0;refine⟨_,(zf (by ac_rfl)
 (zf (zbr (by ac_rfl)
 (zf (setA 5 rfl (zbD zdH (pv 4) (by ac_rfl) (λ_ _=>rfl)))
 (by ac_rfl))
 zai)
 (zf (by ac_rfl)
 (zf (by ac_rfl)
 (zf (setA 9 rfl (zfj (by ac_rfl) (zbD zfL (zbD zdH (pv 4) (pv 7) (λ_ _=>rfl)) (by ac_rfl) (λ_ _=>rfl)) zaH))
 (by ac_rfl)))))),?_⟩
 refine⟨_,rfl,_,rfl,_,rfl,a,D,s,n,x,vx,rfl,vs,rx,(Jg gx.dp (by decide)),Pg.wp_mono (λns s1 h1 v H1 f1 vs1 rn=>?_) (λ_ _ z=>z) h⟩;clear h;obtain⟨pw,ws,rfl,ew,rwy,gd,hl3⟩:=rn;have hl:ws.length=ns.length:=by rw[rwy.len,JE]
 have rx1:=rx.keep (I.tups vs f1);have rw1:=rw0.keep (I.tups vs f1);refine⟨_,rfl,_,rfl,pw,ws,ns,x,vx,rfl,SqL.of ew,rwy,gd,rx1,_,rfl,?_⟩;have new:zc5 ns x=false->(putN x wo ns).wp s1 (OutQ VR a D IntR H Q) (OutE VR CN CB CC a D H E):=λz=>by
  have h2:(zds x wo ns).wp s1 (OutQ VR a D IntR H Q) (OutE VR CN CB CC a D H E):=h1;unfold zds at h2;unfold zc5 at z;cases y:ns.getLast? with
  | none=>rw[y] at h2;exact h2
  | some own=>
   rw[y] at h2 z;have z2:eqT own.k x=false:=z;have z':own.k≠x:=λe=>by rw[zfQ e] at z2;cases z2
   have h3:(if own.k=x then putO x wo ns own else putN x wo ns).wp s1 (OutQ VR a D IntR H Q) (OutE VR CN CB CC a D H E):=h2;rw[if_neg z'] at h3;exact h3
 cases z:zc5 ns x with
 | true=>
  refine ifT rfl ?_;rcases Nv ns with e | ⟨pre,nd,e⟩
  ·subst e;cases z
  rw[Nw] at e;subst e;have ek:nd.k=x:=by unfold zc5 at z;rw[Nb] at z;exact(zV _ _).mp z
  have h2:(zds x wo (pre++ [nd])).wp s1 (OutQ VR a D IntR H Q) (OutE VR CN CB CC a D H E):=h1;unfold zds at h2;rw[Nb] at h2;have h3:(if nd.k=x then putO x wo (pre++ [nd]) nd else putN x wo (pre++ [nd])).wp s1 (OutQ VR a D IntR H Q) (OutE VR CN CB CC a D H E):=h2;rw[if_pos ek] at h3;obtain⟨h0,gN,h4,h5⟩:=h3;rw[List.dropLast_concat] at h4;rw[JR] at rwy;obtain⟨us,v,rfl,rus,rnd⟩:=rwy.unsnoc;obtain⟨p,vk,vw',rfl,ea,rk,_⟩:=zr rnd;have et:SqT K H1 p _:=SqT.of ea;obtain⟨dx,fs,eo,_,n2⟩:=I.ins vs1;refine⟨_,rfl,_,rfl,pw,_,_,_,rfl,rfl,SqL.of ew,zct,?_⟩;refine⟨_,rfl,a,dx,fs,rfl,eo,n2,_,rfl,_,rfl,_,rfl,p,_,_,_,rfl,rfl,et,rfl,_,rfl,p,_,_,_,rfl,rfl,et,rfl,_,rfl,p,_,_,_,rfl,rfl,et,rfl,szl (show 5<=1000 by decide),λp2 hp2=>?_⟩;have r2:Rep (upd H1 p2 (.tup [vx,vw,.int nd.l,.int nd.r,.int nd.c])) (Nd.mk x wo nd.l nd.r nd.c).th (.ref p2):=(RepL.cons rx1 (.cons rw1 (.cons (.int _) (.cons (.int _) (.cons (.int _) .nil))))).new hp2;have s12:=zj (o:=.tup [vx,vw,.int nd.l,.int nd.r,.int nd.c]) (Same.refl H1) hp2;generalize upd H1 p2 (.tup [vx,vw,.int nd.l,.int nd.r,.int nd.c])=H2 at r2 s12;have vs2:=I.same vs1 s12;have f2:=f1.trans (Frm.of s12);refine⟨a,D,s1,_,_,rfl,vs2,h0,r2,gN,λH3 st f3 vs3=>?_,λu x' v1 v2 H3 st f3=>h5 u st x' v1 v2 H3 (f2.trans f3)⟩;have ew3:=I.lst vs2 f3 (s12 _ _ ew);have tk3:Tups H1 H3:=(Same.tups s12).trans (I.tups vs2 f3);refine⟨_,rfl,_,rfl,_,rfl,_,rfl,pw,_,rfl,SqL.of ew3,λpc hpc=>?_⟩;rw[zlh (n:=us.length) (by simp),List.take_left];have s34:=zj (o:=.lst us) (Same.refl H3) hpc;have ec:upd H3 pc (.lst us) pc=some (.lst us):=za;generalize upd H3 pc (.lst us)=H4 at s34 ec;have f4:=(f2.trans f3).trans (Frm.of s34);have tk4:=tk3.trans (Same.tups s34);exact⟨_,rfl,_,rfl,a,pc,D,_,us,pre,x,vx,_,0,rfl,I.same vs3 s34,ec,rus.keep tk4,λy hy=>gd y (Jp _ hy),rx1.keep tk4,Pg.wp_mono (OutQ.on f4) (OutE.on f4) (h4 st)⟩
 | false=>
  have h2:=new z;refine ifF rfl ?_;clear new h1;unfold putN at h2;rw[Pg.wp_bind] at h2;have hpl:=zgJ x ns;refine⟨_,rfl,_,rfl,pw,ws,ns,x,vx,rfl,ew,rwy,gd,gx,rx1,λH2 s2=>?_⟩;generalize zav x ns=pl at hpl h2;have vs2:=I.same vs1 s2;have ew2:=s2 _ _ ew;have rwy2:=rwy.keep (Same.tups s2);have rx2:=rx1.keep (Same.tups s2);have rw2:=rw1.keep (Same.tups s2);refine⟨_,rfl,_,rfl,_,rfl,_,rfl,pw,_,rfl,SqL.of ew2,λpc hpc=>?_⟩;rw[zpA (by lia)];have s23:=zj (o:=.lst (ws.drop pl)) (Same.refl H2) hpc;have ec:upd H2 pc (.lst (ws.drop pl)) pc=some (.lst (ws.drop pl)):=za;generalize upd H2 pc (.lst (ws.drop pl))=H3 at s23 ec;have rd:=(rwy2.keep (Same.tups s23)).drop pl;rw[<-List.map_drop] at rd;have vs3:=I.same vs2 s23;have f3:Frm D H H3:=f1.trans ((Frm.of s2).trans (Frm.of s23));refine⟨_,rfl,a,pc,D,s1,ws.drop pl,ns.drop pl,x,vx,0,0,rfl,vs3,ec,rd,λy hy=>gd y (List.mem_of_mem_drop hy),rx2.keep (Same.tups s23),Pg.wp_mono (λlr s4 h4 v H4 f4 vs4 rp=>?_) (OutE.on f3) h2⟩;obtain⟨pt,rfl,et⟩:=rp;have ew4:=I.lst vs3 f4 (s23 _ _ ew2);have tk24:Tups H2 H4:=(Same.tups s23).trans (I.tups vs3 f4);have rwy4:=rwy2.keep tk24;obtain⟨h0,gN,h5,h6⟩:=h4;refine⟨_,rfl,_,rfl,pw,_,rfl,.inl (SqL.of ew4),_,_,rfl,rfl,_,rfl,?_⟩;have key:pl < ns.length->∃p xs,atI ws (pl:Int)=some (.ref p)/\H4 p=some (.tup xs)/\atI xs 4=some (.int (zdp ns pl)):=λhlt=>by have hv:ws[pl]? =some (ws[pl]'(by lia)):=JB (by lia);have hn:ns[pl]? =some (ns[pl]'hlt):=JB hlt;have rl:=rwy4.at pl _ _ hv (by rw[JQ,hn];rfl);obtain⟨p,vk,vw',ev,ea,rk,_⟩:=zr rl;refine⟨p,_,by rw[zdN hv,ev],ea,?_⟩;unfold zdp;rw[hn];rfl
  refine' joinM (λc hn=>?ja) (λc hn=>?jb) ?jr
  case ja=>have c':(pl:Int) < ((ws.length:Nat):Int):=Jl c;obtain⟨p,xs,e1,e2,e3⟩:=key (by clear hn;lia);exact⟨_,rfl,_,rfl,pw,_,_,_,rfl,rfl,SqL.of ew4,e1,p,_,_,_,rfl,rfl,SqT.of e2,e3,hn⟩
  case jb=>
   have c':¬(pl:Int) < ((ws.length:Nat):Int):=Jq c;have hz:zdp ns pl=0:=by unfold zdp;rw[JV (by clear hn;lia)]
   rw[hz] at hn;exact hn
  have et4:SqT K H4 pt [.int lr.1,.int lr.2]:=SqT.of et;obtain⟨dx4,fs4,eo4,_,n4⟩:=I.ins vs4;have rx4:=rx2.keep tk24;have rw4:=rw2.keep tk24;generalize zdp ns pl=cn at gN h5 h6;refine⟨_,rfl,a,dx4,fs4,rfl,eo4,n4,_,rfl,_,rfl,_,rfl,pt,_,_,_,rfl,rfl,et4,rfl,_,rfl,pt,_,_,_,rfl,rfl,et4,rfl,_,rfl,_,_,rfl,rfl,szl (show 5<=1000 by decide),λp2 hp2=>?_⟩;have r5:Rep (upd H4 p2 (.tup [vx,vw,.int lr.1,.int lr.2,.int (cn+1)])) (Nd.mk x wo lr.1 lr.2 (cn+1)).th (.ref p2):=(RepL.cons rx4 (.cons rw4 (.cons (.int _) (.cons (.int _) (.cons (.int _) .nil))))).new hp2;have s45:=zj (o:=.tup [vx,vw,.int lr.1,.int lr.2,.int (cn+1)]) (Same.refl H4) hp2;generalize upd H4 p2 (.tup [vx,vw,.int lr.1,.int lr.2,.int (cn+1)])=H5 at r5 s45;have vs5:=I.same vs4 s45;have f5:Frm D H H5:=f3.trans (f4.trans (Frm.of s45));refine⟨a,D,s4,_,_,rfl,vs5,h0,r5,gN,λH6 st f6 vs6=>?_,λu x' v1 v2 H6 st f6=>h6 u st x' v1 v2 H6 (f5.trans f6)⟩;have ew6:=I.lst vs5 f6 (s45 _ _ ew4);have tk46:Tups H4 H6:=(Same.tups s45).trans (I.tups vs5 f6);refine⟨_,rfl,_,rfl,_,rfl,_,rfl,pw,_,rfl,SqL.of ew6,λpq hpq=>?_⟩;rw[ztI (by lia)];have s67:=zj (o:=.lst (ws.take pl)) (Same.refl H6) hpq;have eq7:upd H6 pq (.lst (ws.take pl)) pq=some (.lst (ws.take pl)):=za;generalize upd H6 pq (.lst (ws.take pl))=H7 at s67 eq7;have rt:=(rwy4.keep (tk46.trans (Same.tups s67))).take pl;rw[<-List.map_take] at rt;have f7:=(f5.trans f6).trans (Frm.of s67);exact⟨_,rfl,_,rfl,a,pq,D,_,ws.take pl,ns.take pl,x,vx,_,1,rfl,I.same vs6 s67,eq7,rt,λy hy=>gd y (List.mem_of_mem_take hy),(rx4.keep tk46).keep (Same.tups s67),Pg.wp_mono (OutQ.on f7) (OutE.on f7) (h5 st)⟩
abbrev zgr:Stmt:=top 63
abbrev zbR:Stmt:=top 68
abbrev zfV:Stmt:=top 69
abbrev snth:Stmt:=top 70
abbrev zaB (p:Th ×Th):Th:=.tup [p.1,p.2]
def zaU {t u:TS}{D:L2.Ends}{σ:L2.St}{H:Hp}(Pq:L2.St->Hp->Prop)(a:∀N:L2.St->Hp->Prop,(∀σ H,Pq σ H->N σ H)->t {D with nx:=N} σ H)(rest:∀σ H,Pq σ H->u D σ H):tSeq t u D σ H:=a (u D) rest
def cntL (x:Th):List Nd->Int->Pg Int
 | [],m=>.ret m
 | nd::r,m=>if zb x nd.k=true then cntL x r m else(zbl nd.l nd.c).bind λc=>cntL x r (m+c+(if nd.k=x then 0 else 1))
def cntP (n:Int)(x:Th):Pg Int:=(wayP x 301 n 301).bind λns=>cntL x ns 0
def zfl (n:Int)(lo:Th)(m:Int):Pg Int:=if lo=.non then .ret m else(cntP n lo).bind λk=>.ret (m - k)
def zdr (n:Int)(lo hi:Th):Pg Int:=if zcf lo hi=true then .ret 0 else(if hi=.non then zbl n 301 else cntP n hi).bind (zfl n lo)
def nthL:Nat->Int->Int->Int->Pg Th
 | 0,_,_,_=>.bad
 | f+1,n,m,i=>if n=0 then .ret .non else(benP n m).bind λnd=>if nd.c<=i then .ret .non else(zbl nd.l nd.c).bind λl=>
  if i=l then .ret (zaB (nd.k,nd.w)) else if i < l then nthL f nd.l nd.c i else nthL f nd.r nd.c (i - l - 1)
def nthQ (n i:Int):Pg Th:=if i < 0 then .ret .non else nthL 301 n 301 i
inductive zcG (vs:QR)(H:Hp)(Q:L2.VK)(_E:XK):Prop
 | mk (a b:Th)(va vb:V)(_:vs=[va,vb])(_:Rep H a va)(_:Rep H b vb)(_:dep a<=8)(_:∀H',Same H H'->Q (.bl (zcf a b)) H'):zcG vs H Q _E
inductive zjD (VR:VRT)(CN CB CC:Addr)(vs:QR)(H:Hp)(Q:L2.VK)(E:XK):Prop
 | mk (a:Addr)(D:QP)(s:Vst)(n:Int)(x:Th)(vx:V)(_:vs=[.ref a,.int n,vx])(_:VR H a D s)(_:Rep H x vx)(_:dep x<=8)(_:Out VR CN CB CC a D (cntP n x) s IntR H Q E):zjD VR CN CB CC vs H Q E
inductive zc8 (VR:VRT)(CN CB CC:Addr)(vs:QR)(H:Hp)(Q:L2.VK)(E:XK):Prop
 | mk (a:Addr)(D:QP)(s:Vst)(n:Int)(lo hi:Th)(vl vh:V)(_:vs=[.ref a,.int n,vl,vh])(_:VR H a D s)(_:Rep H lo vl)(_:Rep H hi vh)(_:dep lo<=8)(_:dep hi<=8)(_:Out VR CN CB CC a D (zdr n lo hi) s IntR H Q E):zc8 VR CN CB CC vs H Q E
inductive zkf (VR:VRT)(CN CB CC:Addr)(vs:QR)(H:Hp)(Q:L2.VK)(E:XK):Prop
 | mk (a:Addr)(D:QP)(s:Vst)(n i:Int)(_:vs=[.ref a,.int n,.int i])(_:VR H a D s)(_:Out VR CN CB CC a D (nthQ n i) s ThR H Q E):zkf VR CN CB CC vs H Q E
abbrev _root_.Sz:List PySem.Str:=["low","high"]
def zmd (D:Dfn K mg "is_empty" zgr Sz) (zaQ:Fn P w K mg base "ahead" 20 Sk (zaz 9)):Fn P w K mg base "is_empty" 21 Sz zcG:=by
 refine D.ok (k:=20) (fsN Sz) (λ_ _ _ _ _ H _ Q E hr h=>?_);obtain⟨a,b,va,vb,rfl,ra,rb,hd,q⟩:=h;refine⟨_,(by ac_rfl),?_⟩;have e1:=zaP ra;have e2:=zaP rb;refine⟨_,rfl,rfl,_,rfl,?_⟩;rw[e1];unfold zcf at q;cases z:decide (a=.non) with
 | true=>rw[z] at q;exact ifF rfl (q H (Same.refl H))
 | false=>
  rw[z] at q;refine ifT rfl ⟨_,rfl,rfl,_,rfl,?_⟩;rw[e2];cases y:decide (b=.non) with
  | true=>rw[y] at q;exact ifF rfl (q H (Same.refl H))
  | false=>rw[y] at q;refine ifT rfl ⟨_,rfl,_,rfl,a,b,_,_,rfl,ra,rb,by lia,by lia,λH1 s1=>⟨_,rfl,q H1 s1⟩⟩
def zqq (I:VI C VR)(D:Dfn K mg "count_ahead" zbR Sb) (zf4:FnX P w K mg base "way_to" 22 Sb (zdX VR CN CB CC)) (zaQ:Fn P w K mg base "ahead" 20 Sk (zaz 9)) (zbg:FnX P w K mg base "size_beneath" 5 Sc (zbE VR CN CB CC)) (zax:mg "KEY" =some (.int 0 t1)) (zaw:mg "LEFT" =some (.int 2 t3)) (zY:mg "COUNT" =some (.int 4 t5)):
  FnX P w K mg base "count_ahead" 23 Sb (zjD VR CN CB CC):=by
 refine D.okX (k:=22) (fsN ["vault","root","key","many","node"]) (λ_ _ _ _ s H vs Q E hr h=>?_);obtain⟨a,D,s,n,x,vx,rfl,vs,rx,dx,h⟩:=h;unfold Out cntP at h;rw[Pg.wp_bind] at h;refine⟨_,(by have ι:=0;have θ:=0;ac_rfl),?_⟩;refine⟨_,rfl,_,rfl,_,rfl,a,D,s,n,x,vx,rfl,vs,rx,dx,Pg.wp_mono (λns s1 h1 v H1 f1 vs1 rn=>?_) (λ_ _ z=>z) h⟩;clear h;obtain⟨pw,ws,rfl,ew,rw,gd,hl3⟩:=rn;have hl:ws.length=ns.length:=by rw[rw.len,JE]
 refine⟨pw,rfl,⟨ws,SqL.of ew⟩,?_⟩;refine zck (xs:=ws) (λi σ H'=>∃(s2:Vst)(m:Int)(k4:Option V),(cntL x (ns.drop i) m).wp s2 (OutQ VR a D IntR H Q) (OutE VR CN CB CC a D H E)/\σ=[some (.ref a),some (.int n),some vx,some (.int m),k4]/\Frm D H1 H'/\VR H' a D s2) ⟨s1,0,_,h1,rfl,Frm.refl,vs1⟩ ?_ ?_ ?_
 ·rintro i σ H' _ ⟨s2,m,k4,_,rfl,fr,_⟩;exact SqL.of (I.lst vs1 fr ew)
 ·rintro i y σ H' hy ⟨s2,m,k4,h2,rfl,fr,vs2⟩;have hi:i < ws.length:=(JH.mp hy).1;have hin:i < ns.length:=by lia
  have en:ns[i]? =some ns[i]:=JB hin;have rn:Rep H' ns[i].th y:=(rw.at i y _ hy (by rw[JQ,en];rfl)).keep (I.tups vs1 fr);have gn:=gd _ (Jn hin);rw[Jo hin] at h2;generalize ns[i]=nd at rn gn h2;have kd:=(zbY gn).1;obtain⟨p,vk,vw,rfl,ea,rk,_⟩:=zr rn;have f1':=f1.trans fr;have rx':=rx.keep (I.tups vs f1');refine⟨_,rfl,_,rfl,p,_,_,_,rfl,rfl,SqT.of ea,rfl,x,nd.k,_,_,rfl,rx',rk,by lia,by lia,λH2 s2'=>⟨_,rfl,?_⟩⟩;have vs3:=I.same vs2 s2';unfold cntL at h2;cases z:zb x nd.k with
  | true=>rw[if_pos z] at h2;exact ifT rfl ⟨_,m,_,h2,rfl,fr.trans (Frm.of s2'),vs3⟩
  | false=>
   rw[if_neg (by rw[z];exact Jc),Pg.wp_bind] at h2;refine ifF rfl ?_;have et2:SqT K H2 p _:=SqT.of (s2' _ _ ea);refine⟨_,rfl,_,rfl,_,rfl,p,_,_,_,rfl,rfl,et2,rfl,_,rfl,p,_,_,_,rfl,rfl,et2,rfl,a,D,s2,nd.l,nd.c,rfl,vs3,Pg.wp_mono (λc s4 h4 v H4 f4 vs4 ev=>?_) (OutE.on (f1'.trans (Frm.of s2'))) h2⟩;have ev':v=.int c:=ev;subst ev';have tk4:=I.tups vs3 f4;refine⟨_,_,rfl,rfl,?_⟩;refine⟨_,rfl,p,_,_,_,rfl,rfl,SqT.of (tk4 _ _ (s2' _ _ ea)),rfl,_,rfl,nd.k,x,(rk.keep (Same.tups s2')).keep tk4,(rx'.keep (Same.tups s2')).keep tk4,by lia,_,rfl,?_⟩;have f14:=fr.trans ((Frm.of s2').trans f4);by_cases ek:nd.k=x
   ·rw[if_pos ek,Int.add_zero] at h4;rw[zfQ ek];exact ifF rfl ⟨_,_,_,h4,rfl,f14,vs4⟩
   ·rw[if_neg ek] at h4;rw[zhI ek];exact ifT rfl ⟨_,rfl,_,_,rfl,rfl,_,_,_,h4,rfl,f14,vs4⟩
 ·rintro σ H' ⟨s2,m,k4,h2,rfl,fr,vs2⟩;rw[Nr (by lia)] at h2;exact⟨_,rfl,h2 _ H' (f1.trans fr) vs2 rfl⟩
abbrev _root_.Si:List PySem.Str:=["vault","root","low","high"]
def zir (I:VI C VR)(D:Dfn K mg "counted" zfV Si) (zkj:Fn P w K mg base "is_empty" 21 Sz zcG) (zt9:FnX P w K mg base "size" 6 SH (zhp VR CN CB CC)) (zpc:FnX P w K mg base "count_ahead" 23 Sb (zjD VR CN CB CC)):FnX P w K mg base "counted" 24 Si (zc8 VR CN CB CC):=by
 refine D.okX (k:=23) (fsN ["vault","root","low","high","many"]) (λ_ _ _ _ s H vs Q E hr h=>?_);obtain⟨a,D,s,n,lo,hi,vl,vh,rfl,vs,rl,rh,dl,dh,h⟩:=h;refine⟨_,(by ac_rfl),?_⟩;refine⟨_,rfl,_,rfl,lo,hi,vl,vh,rfl,rl,rh,dl,λH1 s1=>⟨_,rfl,?_⟩⟩;have rl1:=rl.keep (Same.tups s1);have rh1:=rh.keep (Same.tups s1);have vs1:=I.same vs s1;unfold Out zdr at h;cases ze:zcf lo hi with
 | true=>rw[if_pos ze] at h;exact ifT rfl (h _ H1 (Frm.of s1) vs1 rfl)
 | false=>
  rw[if_neg (by rw[ze];exact Jc),Pg.wp_bind] at h;refine ifF rfl ?_;dsimp only[zqV];refine zaU (fun σ H2=>∃(m:Int)(s2:Vst),σ=[some (.ref a),some (.int n),some vl,some vh,some (.int m)]/\(zfl n lo m).wp s2 (OutQ VR a D IntR H Q) (OutE VR CN CB CC a D H E)/\Frm D H1 H2/\VR H2 a D s2) (λN kN=>?_) ?_
  ·refine⟨_,rfl,rfl,_,rfl,?_⟩;rw[zaP rh];by_cases eh:hi=.non
   ·rw[if_pos eh] at h;refine ifT (decide_eq_true eh) ⟨_,rfl,_,rfl,a,D,s,n,rfl,vs1,Pg.wp_mono (λm s2 h2 v H2 f2 vs2 ev=>?_) (OutE.on (Frm.of s1)) h⟩;have ev':v=.int m:=ev;subst ev';exact kN _ H2 ⟨m,s2,rfl,h2,f2,vs2⟩
   ·rw[if_neg eh] at h;refine ifF (Jd eh) ⟨_,rfl,_,rfl,_,rfl,a,D,s,n,hi,vh,rfl,vs1,rh1,dh,Pg.wp_mono (λm s2 h2 v H2 f2 vs2 ev=>?_) (OutE.on (Frm.of s1)) h⟩;have ev':v=.int m:=ev;subst ev';exact kN _ H2 ⟨m,s2,rfl,h2,f2,vs2⟩
  ·rintro σ H2 ⟨m,s2,rfl,h2,f2,vs2⟩;refine⟨_,rfl,rfl,_,rfl,?_⟩;rw[zaP rl];unfold zfl at h2;by_cases el:lo=.non
   ·rw[if_pos el] at h2;exact ifT (decide_eq_true el) ⟨_,rfl,h2 _ H2 ((Frm.of s1).trans f2) vs2 rfl⟩
   ·rw[if_neg el,Pg.wp_bind] at h2;have f02:Frm D H H2:=(Frm.of s1).trans f2;refine ifF (Jd el) ⟨_,rfl,_,rfl,_,rfl,_,rfl,a,D,s2,n,lo,vl,rfl,vs2,rl.keep (I.tups vs f02),dl,Pg.wp_mono (λk s3 h3 v H3 f3 vs3 ev=>?_) (OutE.on f02) h2⟩;have ev':v=.int k:=ev;subst ev';exact⟨_,_,rfl,rfl,h3 _ H3 (f02.trans f3) vs3 rfl⟩
abbrev _root_.SB:List PySem.Str:=["vault","root","number"]
def zpi (I:VI C VR)(D:Dfn K mg "nth" snth SB) (zaD:FnX P w K mg base "node_beneath" 4 Sc (zcC VR CN CB CC)) (zbg:FnX P w K mg base "size_beneath" 5 Sc (zbE VR CN CB CC)) (zax:mg "KEY" =some (.int 0 t1)) (zbt:mg "WORTH" =some (.int 1 t2)) (zaw:mg "LEFT" =some (.int 2 t3)) (zae:mg "RIGHT" =some (.int 3 t4)) (zY:mg "COUNT" =some (.int 4 t5)) (zag:mg "BENEATH_NONE" =some (.int 301 t7)):
  FnX P w K mg base "nth" 6 SB (zkf VR CN CB CC):=by
 refine D.okX (k:=5) (fsN ["vault","root","number","count","node","left"]) (λ_ _ _ _ s H vs Q E hr h=>?_);obtain⟨a,D,s,n,i,rfl,vs,h⟩:=h;refine⟨_,(by have ι:=0;ac_rfl),?_⟩;refine⟨_,rfl,_,_,rfl,rfl,_,rfl,?_⟩;unfold Out nthQ at h;by_cases hi:i < 0
 ·rw[if_pos hi] at h;exact ifT (decide_eq_true hi) (h _ H Frm.refl vs .non)
 rw[if_neg hi] at h;refine ifF (Jd hi) ?_;refine⟨λm σ H'=>∃(s1:Vst)(n c i:Int)(k4 k5:Option V),(nthL m n c i).wp s1 (OutQ VR a D ThR H Q) (OutE VR CN CB CC a D H E)/\1<=c/\c<=(m:Int)/\σ=[some (.ref a),some (.int n),some (.int i),some (.int c),k4,k5]/\Frm D H H'/\VR H' a D s1,⟨301,s,n,301,i,_,_,h,by decide,by decide,rfl,Frm.refl,vs⟩,?_⟩;clear h hi;rintro m σ H1 ⟨s1,n,c,i,k4,k5,h,c1,cm,rfl,f1,vs1⟩;obtain⟨m,rfl⟩:∃j,m=j+1:=⟨m - 1,by lia⟩;refine⟨_,rfl,rfl,_,rfl,?_⟩;rw[zE];unfold nthL at h;by_cases hn:n=0
 ·rw[if_pos hn] at h;exact ifF (by rw[decide_eq_true hn];rfl) (h _ H1 f1 vs1 .non)
 rw[if_neg hn,Pg.wp_bind] at h;refine ifT (by rw[Jd hn];rfl) ⟨_,fun σ' H' h=>h,?_⟩;refine⟨_,rfl,_,rfl,_,rfl,a,D,s1,n,c,rfl,vs1,Pg.wp_mono (λnd s2 h2 v H2 f2 vs2 rn=>?_) (OutE.on f1) (zjc h)⟩;obtain⟨⟨d1,d2⟩,h2⟩:=h2;obtain⟨p,vk,vw,rfl,ea,rk,rw'⟩:=zr rn.1;have et:SqT K H2 p _:=SqT.of ea;refine⟨_,rfl,p,_,_,_,rfl,rfl,et,rfl,?_⟩;refine⟨_,rfl,_,rfl,_,_,rfl,rfl,_,rfl,?_⟩;have f12:=f1.trans f2;by_cases hc:nd.c<=i
 ·rw[if_pos hc] at h2;exact ifT (decide_eq_true hc) (h2 _ H2 f12 vs2 .non)
 rw[if_neg hc,Pg.wp_bind] at h2;refine ifF (Jd (show¬i≥nd.c from hc)) ?_;refine⟨_,rfl,_,rfl,p,_,_,_,rfl,rfl,et,rfl,_,rfl,a,D,s2,nd.l,nd.c,rfl,vs2,Pg.wp_mono (λl s3 h3 v H3 f3 vs3 ev=>?_) (OutE.on f12) h2⟩;have ev':v=.int l:=ev;subst ev';have tk3:=I.tups vs2 f3;have et3:SqT K H3 p _:=SqT.of (tk3 _ _ ea);have f13:=f12.trans f3;refine⟨_,rfl,_,rfl,rfl,_,rfl,?_⟩;rw[zE];by_cases h1:i=l
 ·rw[if_pos h1] at h3;refine ifT (decide_eq_true h1) ?_;refine⟨_,rfl,p,_,_,_,rfl,rfl,et3,rfl,_,rfl,p,_,_,_,rfl,rfl,et3,rfl,szl (show 2<=1000 by decide),λp2 hp2=>?_⟩;have s4:=zj (o:=.tup [vk,vw]) (Same.refl H3) hp2;exact h3 _ _ (f13.trans (Frm.of s4)) (I.same vs3 s4) ((RepL.cons (rk.keep tk3) (.cons (rw'.keep tk3) .nil)).new hp2)
 rw[if_neg h1] at h3;refine ifF (Jd h1) ?_;refine⟨_,rfl,_,rfl,_,_,rfl,rfl,_,rfl,?_⟩;by_cases h4:i < l
 ·rw[if_pos h4] at h3;refine ifT (decide_eq_true h4) ⟨_,rfl,p,_,_,_,rfl,rfl,et3,rfl,?_⟩;exact⟨m,Jt m,s3,_,_,i,_,_,h3,d1,by lia,rfl,f13,vs3⟩
 ·rw[if_neg h4] at h3;refine ifF (Jd h4) ⟨_,rfl,p,_,_,_,rfl,rfl,et3,rfl,?_⟩;refine⟨_,rfl,_,rfl,_,_,rfl,rfl,_,_,rfl,rfl,?_⟩;exact⟨m,Jt m,s3,_,_,i - l - 1,_,_,h3,d1,by lia,rfl,f13,vs3⟩
abbrev zhQ:Stmt:=top 77
abbrev scut:Stmt:=top 76
structure Js where
 nd:Nd
 i:Int
 c:Int
abbrev Js.th (j:Js):Th:=.tup [j.nd.th,.int j.i,.int j.c]
def joinR:Nat->Int->Int->Int->Int->Pg (List Js ×Int)
 | 0,_,_,_,_=>.bad
 | f+1,l,lc,r,rc=>if l=0 then .ret ([],r) else if r=0 then .ret ([],l) else(benP l lc).bind λa=>(benP r rc).bind λb=>
  if z9 a.k b.k=true then(joinR f a.r a.c r rc).bind λy=>.ret (⟨a,3,a.c+b.c⟩::y.1,y.2) else(joinR f l lc b.l b.c).bind λy=>.ret (⟨b,2,a.c+b.c⟩::y.1,y.2)
def upP:List Js->Int->Pg Int
 | [],n=>.ret n
 | j::r,n=>.lay (zL j.nd j.i n j.c).th (upP r (zh (zL j.nd j.i n j.c).th))
def ziv (l r c:Int):Pg Int:=(joinR 600 l c r c).bind λy=>upP y.1.reverse y.2
def cutK (n:Int)(x:Th)(ns:List Nd):Pg Int:=match ns.getLast? with
 | none=>.ret n
 | some own=>if own.k=x then(ziv own.l own.r own.c).bind λm=>zaX x (-1) ns.dropLast.reverse m else .ret n
def cutP (n:Int)(x:Th):Pg Int:=(wayP x 301 n 301).bind (cutK n x)
inductive zel (VR:VRT)(CN CB CC:Addr)(vs:QR)(H:Hp)(Q:L2.VK)(E:XK):Prop
 | mk (a:Addr)(D:QP)(s:Vst)(l r c:Int)(_:vs=[.ref a,.int l,.int r,.int c])(_:VR H a D s)(_:1<=c)(_:c<=300)(_:Out VR CN CB CC a D (ziv l r c) s IntR H Q E):zel VR CN CB CC vs H Q E
inductive zfT (VR:VRT)(CN CB CC:Addr)(vs:QR)(H:Hp)(Q:L2.VK)(E:XK):Prop
 | mk (a:Addr)(D:QP)(s:Vst)(n:Int)(x:Th)(vx:V)(_:vs=[.ref a,.int n,vx])(_:VR H a D s)(_:Rep H x vx)(_:dep x<=8)(_:Out VR CN CB CC a D (cutP n x) s IntR H Q E):zfT VR CN CB CC vs H Q E
abbrev _root_.Su:List PySem.Str:=["vault","left","right","count"]
def zmY (I:VI C VR)(D:Dfn K mg "joined" zhQ Su) (zaD:FnX P w K mg base "node_beneath" 4 Sc (zcC VR CN CB CC)) (zib:Fn P w K mg base "above" 21 SK zdK) (zg4:Mt P w K mg base (CX1 P w) C "lay" 14 Sh (zbX VR CC)) (c_C:Cls K C) (zeJ:Fn P w K mg base "with_tree" 1 Sl zcP)
  (zax:mg "KEY" =some (.int 0 t1)) (zaw:mg "LEFT" =some (.int 2 t3)) (zae:mg "RIGHT" =some (.int 3 t4)) (zY:mg "COUNT" =some (.int 4 t5)) (zb5:mg "reversed" =none):FnX P w K mg base "joined" 22 Su (zel VR CN CB CC):=by
 refine D.okX (k:=21) (fsN ["vault","left","right","count","left_count","right_count","down","one","other","both","root","step"]) (λ_ _ _ _ s H vs Q E hr h=>?_);obtain⟨a,D,s,l,r,c,rfl,vs,c1,c3,h⟩:=h;unfold Out ziv at h;rw[Pg.wp_bind] at h;refine⟨_,(by have ι:=0;ac_rfl),?_⟩;refine⟨_,rfl,_,rfl,szl (show 0<=1000 by decide),λpd hpd=>?_⟩;have s0:=zj (o:=.lst []) (Same.refl H) hpd;have e0:upd H pd (.lst []) pd=some (.lst []):=za;generalize upd H pd (.lst [])=H0 at s0 e0;dsimp only[zbN];refine zaU (fun σ H'=>∃(s1:Vst)(l r lc rc:Int)(js:List Js)(ds:QR)(k7 k8 k9:Option V),(l=0\/r=0)/\(upP js.reverse (if l=0 then r else l)).wp s1 (OutQ VR a D IntR H Q) (OutE VR CN CB CC a D H E)/\σ=[some (.ref a),some (.int l),some (.int r),some (.int c),some (.int lc),some (.int rc),some (.ref pd),k7,k8,k9,none,none]/\Frm D H H'/\VR H' a D s1/\H' pd=some (.lst ds)/\RepL H' (js.map Js.th) ds) (λN kN=>?_) ?_
 ·refine⟨λm σ H'=>∃(s1:Vst)(l r lc rc:Int)(js:List Js)(ds:QR)(k7 k8 k9:Option V),(joinR m l lc r rc).wp s1 (λy s'=>(upP (js++y.1).reverse y.2).wp s' (OutQ VR a D IntR H Q) (OutE VR CN CB CC a D H E)) (OutE VR CN CB CC a D H E)/\1<=lc/\1<=rc/\lc+rc<=(m:Int)/\js.length+m<=600/\σ=[some (.ref a),some (.int l),some (.int r),some (.int c),some (.int lc),some (.int rc),some (.ref pd),k7,k8,k9,none,none]/\Frm D H H'/\VR H' a D s1/\H' pd=some (.lst ds)/\RepL H' (js.map Js.th) ds,⟨600,s,l,r,c,c,[],[],_,_,_,h,c1,c1,by lia,by decide,rfl,Frm.of s0,I.same vs s0,e0,.nil⟩,?_⟩;clear h;rintro m σ H1 ⟨s1,l,r,lc,rc,js,ds,k7,k8,k9,h,l1,r1,lm,jm,rfl,f1,vs1,e1,r1'⟩;obtain⟨m,rfl⟩:∃j,m=j+1:=⟨m - 1,by lia⟩;refine⟨_,rfl,rfl,_,rfl,?_⟩;rw[zE];unfold joinR at h;by_cases hl:l=0
  ·rw[if_pos hl] at h;refine ifF (by rw[decide_eq_true hl];rfl) (ifF rfl (kN _ H1 ⟨s1,l,r,lc,rc,js,ds,k7,k8,k9,.inl hl,?_,rfl,f1,vs1,e1,r1'⟩));have h':(upP (js++ []).reverse r).wp s1 (OutQ VR a D IntR H Q) (OutE VR CN CB CC a D H E):=h;rw[JP] at h';rw[if_pos hl];exact h'
  rw[if_neg hl] at h;refine ifT (by rw[Jd hl];rfl) ⟨_,rfl,rfl,_,rfl,?_⟩;rw[zE];by_cases hr0:r=0
  ·rw[if_pos hr0] at h;refine ifF (by rw[decide_eq_true hr0];rfl) (kN _ H1 ⟨s1,l,r,lc,rc,js,ds,k7,k8,k9,.inr hr0,?_,rfl,f1,vs1,e1,r1'⟩);have h':(upP (js++ []).reverse l).wp s1 (OutQ VR a D IntR H Q) (OutE VR CN CB CC a D H E):=h;rw[JP] at h';rw[if_neg hl];exact h'
  rw[if_neg hr0,Pg.wp_bind] at h;refine ifT (by rw[Jd hr0];rfl) ⟨_,fun σ' H' h=>h,?_⟩;refine⟨_,rfl,_,rfl,_,rfl,a,D,s1,l,lc,rfl,vs1,Pg.wp_mono (λone s2 h2 v H2 f2 vs2 rn=>?_) (OutE.on f1) (zjc h)⟩;obtain⟨⟨o1,o2⟩,h2⟩:=h2;rw[Pg.wp_bind] at h2;have f12:=f1.trans f2;refine⟨_,rfl,_,rfl,_,rfl,a,D,s2,r,rc,rfl,vs2,Pg.wp_mono (λother s3 h3 v' H3 f3 vs3 rn'=>?_) (OutE.on f12) (zjc h2)⟩;obtain⟨⟨q1,q2⟩,h3⟩:=h3;have f13:=f12.trans f3;obtain⟨rn,gn⟩:=rn;obtain⟨rn',gn'⟩:=rn';have rn3:=rn.keep (I.tups vs2 f3);have tk13:=(I.tups vs1 f2).trans (I.tups vs2 f3);have e3:=I.lst vs2 f3 (I.lst vs1 f2 e1);have r3:=r1'.keep tk13;clear rn r1' e1 h h2;obtain⟨p,vk,vw,rfl,ea,rk,_⟩:=zr rn3;obtain⟨p',vk',vw',rfl,ea',rk',_⟩:=zr rn';have et:SqT K H3 p _:=SqT.of ea;have et':SqT K H3 p' _:=SqT.of ea';refine⟨_,rfl,p,_,_,_,rfl,rfl,et,rfl,_,rfl,p',_,_,_,rfl,rfl,et',rfl,_,_,rfl,rfl,?_⟩;refine⟨_,rfl,p,_,_,_,rfl,rfl,et,rfl,_,rfl,p',_,_,_,rfl,rfl,et',rfl,one.k,other.k,_,_,rfl,rk,rk',(zfX gn).1,(zfX gn').1,λH4 s4=>⟨_,rfl,?_⟩⟩;have f14:=f13.trans (Frm.of s4);have vs4:=I.same vs3 s4;have e4:=s4 _ _ e3;have r4:=r3.keep (Same.tups s4);have ea4:=s4 _ _ ea;have ea4':=s4 _ _ ea';have rn4:=rn3.keep (Same.tups s4);have rn4':=rn'.keep (Same.tups s4);have hds:ds.length=js.length:=by rw[r4.len,JE]
  have grow:∀(j:Js)(q:Addr)(d2:Addr),Rep H4 j.nd.th (.ref q)->H4 d2=none->∃H5,upd (upd H4 d2 (.tup [.ref q,.int j.i,.int j.c])) pd (.lst (ds++ [.ref d2]))=H5/\upd H4 d2 (.tup [.ref q,.int j.i,.int j.c]) pd=some (.lst ds)/\Frm D H H5/\VR H5 a D s3/\H5 pd=some (.lst (ds++ [.ref d2]))/\RepL H5 ((js++ [j]).map Js.th) (ds++ [.ref d2])/\Tups H4 H5:=λj q d2 rq hd2=>by
   have s5:=zj (o:=.tup [.ref q,.int j.i,.int j.c]) (Same.refl H4) hd2;have rp:Rep (upd H4 d2 (.tup [.ref q,.int j.i,.int j.c])) j.th (.ref d2):=(RepL.cons rq (.cons (.int _) (.cons (.int _) .nil))).new hd2;generalize upd H4 d2 (.tup [.ref q,.int j.i,.int j.c])=H5 at s5 rp;have e5:=s5 _ _ e4;have tk:Tups H5 (upd H5 pd (.lst (ds++ [.ref d2]))):=Tups.upd λxs z=>by rw[e5] at z;cases z
   refine⟨_,rfl,e5,zbP (f14.trans (Frm.of s5)) hpd,I.nl (I.same vs4 s5) (NL.lst e5),za,?_,(Same.tups s5).trans tk⟩;rw[JR];exact((r4.keep (Same.tups s5)).keep tk).snoc (rp.keep tk)
  cases z:z9 one.k other.k with
  | true=>rw[if_pos z,Pg.wp_bind] at h3;refine ifT rfl ?_;refine⟨_,rfl,.inl ⟨rfl,_,SqL.of e4⟩,_,rfl,_,rfl,szl (show 3<=1000 by decide),λpt hpt=>?_⟩;obtain⟨H5,eH,e5,f5,vs5,e5',r5,tk5⟩:=grow ⟨one,3,one.c+other.c⟩ p pt rn4 hpt;refine⟨pd,ds,_,rfl,rfl,e5,Je (show ds.length < 1000 by lia) (szl (Jb _)),?_⟩;rw[eH];have ea5:=tk5 _ _ ea4;refine⟨_,rfl,p,_,_,_,rfl,rfl,SqT.of ea5,rfl,?_⟩;refine⟨_,rfl,p,_,_,_,rfl,rfl,SqT.of ea5,rfl,?_⟩;refine⟨m,Jt m,s3,_,_,_,_,js++ [⟨one,3,one.c+other.c⟩],_,_,_,_,Pg.wp_mono (λy s' z=>?_) (λ_ _ z=>z) h3,o1,r1,by lia,by rw[JI];show js.length+1+m<=600;lia,rfl,f5,vs5,e5',r5⟩;have z':(upP (js++(⟨one,3,one.c+other.c⟩::y.1)).reverse y.2).wp s' (OutQ VR a D IntR H Q) (OutE VR CN CB CC a D H E):=z;rw[Ng];exact z'
  | false=>rw[if_neg (by rw[z];exact Jc),Pg.wp_bind] at h3;refine ifF rfl ?_;refine⟨_,rfl,.inl ⟨rfl,_,SqL.of e4⟩,_,rfl,_,rfl,szl (show 3<=1000 by decide),λpt hpt=>?_⟩;obtain⟨H5,eH,e5,f5,vs5,e5',r5,tk5⟩:=grow ⟨other,2,one.c+other.c⟩ p' pt rn4' hpt;refine⟨pd,ds,_,rfl,rfl,e5,Je (show ds.length < 1000 by lia) (szl (Jb _)),?_⟩;rw[eH];have ea5:=tk5 _ _ ea4';refine⟨_,rfl,p',_,_,_,rfl,rfl,SqT.of ea5,rfl,?_⟩;refine⟨_,rfl,p',_,_,_,rfl,rfl,SqT.of ea5,rfl,?_⟩;refine⟨m,Jt m,s3,_,_,_,_,js++ [⟨other,2,one.c+other.c⟩],_,_,_,_,Pg.wp_mono (λy s' z=>?_) (λ_ _ z=>z) h3,l1,q1,by lia,by rw[JI];show js.length+1+m<=600;lia,rfl,f5,vs5,e5',r5⟩;have z':(upP (js++(⟨other,2,one.c+other.c⟩::y.1)).reverse y.2).wp s' (OutQ VR a D IntR H Q) (OutE VR CN CB CC a D H E):=z;rw[Ng];exact z'
 ·clear h;rintro σ H1 ⟨s1,l,r,lc,rc,js,ds,k7,k8,k9,hlr,h,rfl,f1,vs1,e1,r1⟩;have hds:ds.length=js.length:=by rw[r1.len,JE]
  refine zaU (fun σ H'=>σ=[some (.ref a),some (.int l),some (.int r),some (.int c),some (.int lc),some (.int rc),some (.ref pd),k7,k8,k9,some (.int (if l=0 then r else l)),none]/\H'=H1) (λN kN=>?_) ?_
  ·refine⟨_,rfl,rfl,_,rfl,?_⟩;rw[zE];by_cases hl:l=0
   ·exact ifT (decide_eq_true hl) ⟨_,rfl,kN _ _ ⟨by rw[if_pos hl];rfl,rfl⟩⟩
   ·exact ifF (Jd hl) ⟨_,rfl,kN _ _ ⟨by rw[if_neg hl];rfl,rfl⟩⟩
  rintro σ H1' ⟨rfl,rfl⟩;generalize(if l=0 then r else l)=n at h;refine⟨_,rfl,pd,_,rfl,SqL.of e1,?_⟩;refine zhY (λj σ H'=>∃(s2:Vst)(n:Int)(k11:Option V),(upP (js.reverse.drop j) n).wp s2 (OutQ VR a D IntR H Q) (OutE VR CN CB CC a D H E)/\σ=[some (.ref a),some (.int l),some (.int r),some (.int c),some (.int lc),some (.int rc),some (.ref pd),k7,k8,k9,some (.int n),k11]/\Frm D H1' H'/\VR H' a D s2) ⟨s1,n,_,h,rfl,Frm.refl,vs1⟩ ?_ ?_ ?_
  ·rintro j σ H' ⟨s2,n,k11,_,rfl,fr,_⟩;exact SqL.of (I.lst vs1 fr e1)
  ·rintro j y σ H' hj hy ⟨s2,n,k11,h,rfl,fr,vs2⟩;obtain⟨st,hm,ed,rl⟩:=zj3 r1 hj hy;rw[ed] at h;obtain⟨h0,gN,h1,h2⟩:=h;have rl':=rl.keep (I.tups vs1 fr);obtain⟨pt,xs,e,ept,rx⟩:=rl'.list;subst e;cases rx with
   | cons rn rx2=>
   cases rx2 with
   | cons r2 rx3=>
   cases rx3 with
   | cons r3 rx4=>
   cases rx4 with
   | nil=>
   cases r2;cases r3;obtain⟨dx,fs,eo,_,n2⟩:=I.ins vs2;have et:SqT K H' pt _:=SqT.of ept;refine⟨_,rfl,a,dx,fs,rfl,eo,n2,_,rfl,pt,_,_,_,rfl,rfl,et,rfl,_,rfl,pt,_,_,_,rfl,rfl,et,rfl,_,rfl,_,rfl,pt,_,_,_,rfl,rfl,et,rfl,_,st.nd,_,_,_,rfl,rn,λp2 H3 s3 r3=>?_⟩;have f12:=f1.trans (fr.trans (Frm.of s3));exact⟨a,D,s2,_,_,rfl,I.same vs2 s3,h0,r3,gN,λH4 st4 f4 vs4=>⟨_,_,_,h1 st4,rfl,fr.trans ((Frm.of s3).trans f4),vs4⟩,λu x' v1 v2 H4 st4 f4=>h2 u st4 x' v1 v2 H4 (f12.trans f4)⟩
  ·rintro σ H' ⟨s2,n,k11,h,rfl,fr,vs2⟩;rw[Nr (by rw[List.length_reverse];lia)] at h;exact⟨_,rfl,h _ H' (f1.trans fr) vs2 rfl⟩
def zqm (I:VI C VR)(D:Dfn K mg "cut" scut Sb) (zf4:FnX P w K mg base "way_to" 22 Sb (zdX VR CN CB CC)) (zg3:Fn P w K mg base "ends_at" 1 Sr (zcT K)) (zsB:FnX P w K mg base "hung" 22 Sj (zdh VR CN CB CC)) (ztN:FnX P w K mg base "joined" 22 Su (zel VR CN CB CC))
  (zY:mg "COUNT" =some (.int 4 t5)) (zaw:mg "LEFT" =some (.int 2 t3)) (zae:mg "RIGHT" =some (.int 3 t4)):FnX P w K mg base "cut" 23 Sb (zfT VR CN CB CC):=by
 refine D.okX (k:=22) (fsN ["vault","root","key","way","own"]) (λ_ _ _ _ s H vs Q E hr h=>?_);obtain⟨a,D,s,n,x,vx,rfl,vs,rx,dx,h⟩:=h;unfold Out cutP at h;rw[Pg.wp_bind] at h;have ι:=0;refine⟨_,(zf (by ac_rfl)
 (zf (by ac_rfl)
 (zf (setA 4 rfl (zbD zdH (pv 3) (by ac_rfl) (λ_ _=>rfl)))
 (by ac_rfl)))),?_⟩
 refine⟨_,rfl,_,rfl,_,rfl,a,D,s,n,x,vx,rfl,vs,rx,dx,Pg.wp_mono (λns s1 h1 v H1 f1 vs1 rn=>?_) (λ_ _ z=>z) (znY (by decide) h)⟩;obtain⟨hok,h1⟩:=h1;clear h;obtain⟨pw,ws,rfl,ew,rwy,gd,hl3⟩:=rn;have rx1:=rx.keep (I.tups vs f1);refine⟨_,rfl,_,rfl,pw,ws,ns,x,vx,rfl,SqL.of ew,rwy,gd,rx1,_,rfl,?_⟩;unfold cutK at h1;rcases Nv ns with e | ⟨pre,nd,e⟩
 ·subst e;exact ifT rfl ⟨_,rfl,h1 _ H1 f1 vs1 rfl⟩
 rw[Nw] at e;subst e;have eb:zc5 (pre++ [nd]) x=eqT nd.k x:=by unfold zc5;rw[Nb]
 rw[Nb] at h1;have h3:(if nd.k=x then(ziv nd.l nd.r nd.c).bind λm=>zaX x (-1) (pre++ [nd]).dropLast.reverse m else .ret n).wp s1 (OutQ VR a D IntR H Q) (OutE VR CN CB CC a D H E):=h1;rw[eb];by_cases ek:nd.k=x
 ·rw[if_pos ek,Pg.wp_bind,List.dropLast_concat] at h3;rw[zfQ ek];refine ifF rfl ?_;have okn:=hok nd (Jh _ JL);rw[JR] at rwy;obtain⟨us,v,rfl,rus,rnd⟩:=rwy.unsnoc;obtain⟨p,vk,vw',rfl,ea,rk,_⟩:=zr rnd;have et:SqT K H1 p _:=SqT.of ea;refine⟨_,rfl,_,rfl,pw,_,_,_,rfl,rfl,SqL.of ew,zct,?_⟩;refine⟨_,rfl,_,rfl,_,rfl,_,rfl,pw,_,rfl,SqL.of ew,λpc hpc=>?_⟩;rw[zlh (n:=us.length) (by simp),List.take_left];have s12:=zj (o:=.lst us) (Same.refl H1) hpc;have ec:upd H1 pc (.lst us) pc=some (.lst us):=za;generalize upd H1 pc (.lst us)=H2 at s12 ec;have vs2:=I.same vs1 s12;have et2:SqT K H2 p _:=SqT.of (s12 _ _ ea);have f2:=f1.trans (Frm.of s12);refine⟨_,rfl,_,rfl,_,rfl,p,_,_,_,rfl,rfl,et2,rfl,_,rfl,p,_,_,_,rfl,rfl,et2,rfl,_,rfl,p,_,_,_,rfl,rfl,et2,rfl,a,D,s1,nd.l,nd.r,nd.c,rfl,vs2,okn.1,okn.2,Pg.wp_mono (λm s3 h4 v H3 f3 vs3 ev=>?_) (OutE.on f2) h3⟩;have ev':v=.int m:=ev;subst ev';have f23:=f2.trans f3;have tk3:=(Same.tups s12).trans (I.tups vs2 f3);exact⟨_,rfl,a,pc,D,s3,us,pre,x,vx,m, -1,rfl,vs3,I.lst vs2 f3 ec,rus.keep tk3,λy hy=>gd y (Jp _ hy),rx1.keep tk3,Pg.wp_mono (OutQ.on f23) (OutE.on f23) h4⟩
 ·rw[if_neg ek] at h3;rw[zhI ek];exact ifT rfl ⟨_,rfl,h3 _ H1 f1 vs1 rfl⟩
abbrev zkX:Stmt:=top 35
def zq8 (cs:QF)(H:Hp)(Q:VK):Prop:=∀(l:Addr)(ns:List Int)(xs:QR)(H':Hp),Same H H'->H l=none->ns.Perm (cs.map (·.1))->ns.Pairwise (· <= ·)->H' l=some (.lst xs)->RepL H' (zH cs ns) xs->Q (.ref l) H'
inductive zfI (vs:QR)(H:Hp)(Q:L2.VK)(_E:XK):Prop
 | mk (d:Addr)(kvs:QG)(cs:QF)(_:vs=[.ref d])(_:H d=some (.dK kvs)) (_:DRep H cs kvs) (_:cs.length < 64) (_:zq8 cs H Q):zfI vs H Q _E
def zta {cs:QF}{kvs:QG}{H:Hp}{d l:Addr}{ns:List Int}(r:DRep H cs kvs)(hl:H l=none)(hp:ns.Perm (zch kvs)):ns.Perm (cs.map (·.1))/\∀n∈ns,∃t v,zg cs n=some t/\valV kvs (.inl n)=some v/\Rep H t v:=by rw[r.keys.1] at hp;refine⟨hp,λn hn=>?_⟩;obtain⟨t,e⟩:=zbJ (hp.subset hn);obtain⟨v,e',rv⟩:=r.some e;exact⟨t,v,e,e',rv⟩
def zl7 (D:Dfn K mg "rising" zkX ["laid"]) (zf5:mg "sorted" =none):Fn P w K mg base "rising" 1 ["laid"] zfI:=by
 refine D.ok (k:=0) (fsN ["laid"]) (λ_ _ _ _ s H _ Q E hr h=>?_);obtain⟨d,kvs,cs,rfl,ed,dr,h64,q⟩:=h;refine⟨_,(zw (zaa (za8 (zm.one (y:= "laid") (j:=0) (c:=s.heap.objs.size+1) (by rfl) (by rfl) (by decide+kernel) (by decide+kernel) (by rfl) (by decide+kernel) (by rfl) (by decide+kernel) (by rfl) (by first | exact Or.inl rfl | exact Or.inr rfl) (by first | exact Or.inl rfl | exact Or.inr rfl)) rfl (zg9 (zar (zht rfl) (by rfl) zf5 (by rfl) (by ac_rfl))) (λ_ _ _=>zaO) (λ_ _ _=>(zlp (zqN hr) (pv 1) (pv 0) (λ_ _=>rfl)))))),?_⟩;refine⟨_,rfl,d,kvs,rfl,ed,dr.keys.2,by rw[dr.len];exact h64,λl ns hl hp hs=>?_⟩;obtain⟨hp',all⟩:=zta (d:=d) dr hl hp;have e1:upd H l (.lst (ns.map V.int)) l=some (.lst (ns.map V.int)):=za;have s1:Same H (upd H l (.lst (ns.map V.int))):=zj (Same.refl H) hl;generalize upd H l (.lst (ns.map V.int))=H1 at e1 s1;refine⟨l,rfl,⟨_,SqL.of e1⟩,λp hp1=>?_⟩;have hn64:ns.length < 64:=by rw[hp'.length_eq,JE];exact h64
 refine zaL (n:=ns.length) (λi acc H'=>Same H1 H'/\H' p=some (.lst acc)/\acc.length=i/\RepL H' (zH cs (ns.take i)) acc) ⟨zj (Same.refl H1) hp1,za,rfl,.nil⟩ ?_ ?_ ?_ ?_
 ·rintro i acc H' hi ⟨sm,ep,la,rr⟩;exact⟨ns.map V.int,.int ns[i],SqL.of (sm _ _ e1),by rw[JQ,JB hi];rfl⟩
 ·rintro acc H' ⟨sm,ep,la,rr⟩;exact⟨ns.map V.int,SqL.of (sm _ _ e1),by rw[JE];exact Jb _⟩
 ·rintro i acc H' y H'' hi ⟨sm,ep,la,rr⟩ ⟨z1,z2⟩;subst z1;have ey:=z2 (ns.map V.int) (SqL.of (sm _ _ e1));have ey2:y=V.int ns[i]:=by rw[JQ,JB hi] at ey;exact(JO ey).symm
  subst ey2;obtain⟨t,v,lt,lv,rv⟩:=all ns[i] (Jn hi);have dg:DGet H'' d (.int ns[i]) (some v):=by rw[<-lv];exact DGet.k (k:=Sum.inl ns[i]) (sm _ _ (s1 _ _ ed))
  refine tt1 ?_;refine⟨_,rfl,_,rfl,d,v,rfl,dg,ep,Je (show acc.length < 1000000 by lia) (by decide+kernel),nxt hi ⟨zbB sm hp1,za,by rw[JI,la];rfl,?_⟩⟩;have tk:Tups H'' (upd H'' p (.lst (acc++ [v]))):=Tups.upd λxs z=>by rw[ep] at z;cases z
  have ew:zH cs (ns.take (i+1))=zH cs (ns.take i)++ [t]:=by unfold zH;rw[Na,JB hi,JR];show _++ [(zg cs ns[i]).getD .non]=_;rw[lt];rfl
  rw[ew];exact RepL.snoc ((rv.keep (Same.tups (λb o e=>sm b o (s1 b o e)))).keep tk) (rr.keep tk)
 ·rintro acc H' ⟨sm,ep,la,rr⟩;rw[J1] at rr;refine q p ns acc H' (λb o e=>sm b o (s1 b o e)) ?_ hp' hs ep rr;cases z:H p with
  | none=>rfl
  | some o=>rw[s1 _ _ z] at hp1;cases hp1
abbrev zbG:Stmt:=inClass (top 38) 0
abbrev zez:Stmt:=inClass (top 38) 1
abbrev zc0:Stmt:=inClass (top 38) 2
abbrev zcZ:Stmt:=inClass (top 38) 3
def rFs (dl kp dn:Addr):List (Str ×V):=[("laid",.ref dl),("keeper",.ref kp),("noted",.ref dn)]
def zkC (dl kp dn:Addr):Flds (rFs dl kp dn) dl:=⟨rfl,rfl,rfl,rfl,rfl,rfl⟩
structure ROk (H:Hp)(R a dl kp dn:Addr)(kvs nvs:QG):Prop where
 ob:∃dx,H a=some (.ins R dx (rFs dl kp dn))
 di:H dl=some (.dK kvs)
 no:H dn=some (.dK nvs)
theorem ROk.keep {H H':Hp}{R a dl kp dn:Addr}{kvs nvs:QG}(v:ROk H R a dl kp dn kvs nvs)(s:Same H H'):ROk H' R a dl kp dn kvs nvs:=by obtain⟨⟨dx,e⟩,e2,e3⟩:=v;exact⟨⟨dx,s _ _ e⟩,s _ _ e2,s _ _ e3⟩
def ROk.vok {H:Hp}{R a dl kp dn:Addr}{kvs nvs:QG}(v:ROk H R a dl kp dn kvs nvs):VOk H R a dl kvs:=by obtain⟨⟨dx,e⟩,e2,e3⟩:=v;exact⟨⟨dx,_,e,zkC dl kp dn⟩,e2⟩
inductive zeY (R:Addr)(vs:QR)(H:Hp)(Q:L2.VK)(_E:XK):Prop
 | mk (a kp dx:Addr)(_:vs=[.ref a,.ref kp])(_:H a=some (.ins R dx [])) (_:∀(dl dn:Addr)(H':Hp),(∀b o,b≠a->H b=some o->H' b=some o)->H dl=none->H dn=none->dl≠dn->H' a=some (.ins R dx (rFs dl kp dn))->H' dl=some (.dK [])->H' dn=some (.dK [])->Q .non H'):zeY R vs H Q _E
def Alike (H:Hp)(kvs:QG)(t:Th):Prop:=∀t1 v1,valV kvs (.inl (zh t))=some v1->Rep H t1 v1->t1=t
inductive zjF (R C CC:Addr)(vs:QR)(H:Hp)(Q:L2.VK)(E:XK):Prop
 | mk (a dl kp dn dk:Addr)(kvs nvs kvk:QG)(t:Th)(v:V)(_:vs=[.ref a,v])(_:ROk H R a dl kp dn kvs nvs)(_:VOk H C kp dk kvk)(_:zbV H kvs)(_:zbV H kvk)(_:kvs.length<=1000000)(_:Rep H t v)(_:Good t)(_:(∀H',Same H H'->Alike H kvs t->Alike H kvk t->Q (.int (zh t)) (upd H' dl (.dK (putK kvs (.inl (zh t)) v))))) (_:(∀t1 v1 H',Same H H'->(valV kvs (.inl (zh t))=some v1\/(Alike H kvs t/\valV kvk (.inl (zh t))=some v1))->Rep H' t1 v1->Good t1->zh t1=zh t->t1≠t->zh1 E CC H' t1 t v1 v)):zjF R C CC vs H Q E
inductive ze9 (R C CN:Addr)(vs:QR)(H:Hp)(Q:L2.VK)(E:XK):Prop
 | mk (a dl kp dn dk:Addr)(kvs nvs kvk:QG)(n:Int)(_:vs=[.ref a,.int n])(_:ROk H R a dl kp dn kvs nvs)(_:VOk H C kp dk kvk)(_:nvs.length<=1000000)(_:(∀v,valV kvs (.inl n)=some v->Q v H)) (_:(∀v,valV kvs (.inl n)=none->valV kvk (.inl n)=some v->Q v (upd H dn (.dK (putK nvs (.inl n) v))))) (_:(valV kvs (.inl n)=none->valV kvk (.inl n)=none->E (.ref CN) none H)):ze9 R C CN vs H Q E
inductive zhR (R:Addr)(vs:QR)(H:Hp)(Q:L2.VK)(_E:XK):Prop
 | mk (a dl kp dn:Addr)(kvs nvs:QG)(cs:QF)(_:vs=[.ref a])(_:ROk H R a dl kp dn kvs nvs)(_:DRep H cs nvs)(_:cs.length < 64)(_:zq8 cs H Q):zhR R vs H Q _E
def zja (D:Kdf K mg "Vault" "__init__" "Vault.__init__" zZ Sv) (c:Cls K C) (nl:zl K C "laid"):Kfn P w K mg base "Vault" "__init__" 1 Sv (zbj C):=by refine D.ok (k:=0) (fsN Sv) (λ_ _ _ _ _ H _ Q E hr h=>?_);obtain⟨a,dx,rfl,ea,q⟩:=h;refine⟨_,(by ac_rfl),?_⟩;intro d hd;exact⟨_,rfl,a,C,dx,[],rfl,by rw[zc (zd ea hd)];exact ea,c,nl,by decide,q d hd⟩
theorem zeC (a b:V):putF ("keeper" :Str) b [(("laid" :Str),a)]=[(("laid" :Str),a),(("keeper" :Str),b)]:=by
 unfold putF;rw[if_neg (by decide)]
 rfl
theorem zjY (a b c:V):putF ("noted" :Str) c [(("laid" :Str),a),(("keeper" :Str),b)]=[(("laid" :Str),a),(("keeper" :Str),b),(("noted" :Str),c)]:=by
 unfold putF;rw[if_neg (by decide)];unfold putF;rw[if_neg (by decide)]
 rfl
abbrev _root_.SM:List PySem.Str:=["self","keeper"]
def zoq (D:Mkd K mg x R "Reader.__init__" zbG SM) (zeo:Kfn P w K mg base "Vault" "__init__" 1 Sv (zbj R)) (c:Cls K R) (nk:zl K R "keeper") (nn:zl K R "noted"):Mkr P w K mg base x R 2 SM (zeY R):=by
 refine D.ok (k:=1) (fsN SM) (λ_ _ _ _ _ H _ Q E hr h=>?_);obtain⟨a,kp,dx,rfl,ea,q⟩:=h;refine⟨_,(by ac_rfl),?_⟩;refine⟨_,rfl,a,dx,rfl,ea,λdl hdl=>?_⟩;have ad:a≠dl:=zd ea hdl;refine⟨_,rfl,_,rfl,a,R,dx,_,rfl,za,c,nk,(show(1:Nat) < 1000 by decide),?_⟩;intro dn hdn;have an:a≠dn:=λz=>by rw[<-z,za] at hdn;cases hdn
 rw[zc (Ne.symm an),zc (Ne.symm an)] at hdn;have dd:dl≠dn:=λz=>by rw[<-z,za] at hdn;cases hdn
 rw[zc (Ne.symm dd)] at hdn;refine⟨_,rfl,a,R,dx,_,rfl,by rw[zc an];exact za,c,nn,by rw[zeC];exact(show(2:Nat) < 1000 by decide),?_⟩;rw[zeC,zjY];refine q dl dn _ (λb o hb e=>?_) hdl hdn dd za ?_ ?_
 ·rw[zc hb,zc (zd e hdn),zc hb,zc hb,zc (zd e hdl)];exact e
 ·rw[zc (Ne.symm ad),zc dd,zc (Ne.symm ad),zc (Ne.symm ad)];exact za
 ·rw[zc (Ne.symm an)];exact za
def zqd (D:Mdf K R "lay" "Reader.lay" zez Sh) (zkk:Mt P w K mg base (CX1 P w) R "refuse_clash" 3 Sn (zcz R CC)) (zkl:Mt P w K mg base (CX1 P w) C "refuse_clash" 3 Sn (zcz C CC))
  (zf3:Fn P w K mg base "seal" 13 Se zeb) (c_R:Cls K R) (c_C:Cls K C) (nl:zl K R "laid") (nk:zl K R "keeper"):Mt P w K mg base (CX1 P w) R "lay" 14 Sh (zjF R C CC):=by
 refine D.okX (k:=13) (fsN ["self","thing","number"]) (λ_ _ _ _ _ H _ Q E hr h=>?_);obtain⟨a,dl,kp,dn,dk,kvs,nvs,kvk,t,v,rfl,ro,vo,lo,lk,hl,rt,gt,q,qe⟩:=h;have gd:=gt.dp;have gn:=gt.nd;refine⟨_,(zf (by ac_rfl)
 (zf (zcQ (zes (pv 0) c_R zkk hr (by lia) zaZ (by ac_rfl)))
 (zf (zcQ (zes (by ac_rfl) c_C zkl hr (by lia) zaZ (by ac_rfl)))
 (by ac_rfl)))),?_⟩
 refine⟨_,rfl,t,v,rfl,rt,gt.wf,by lia,by lia,λH1 s1=>?_⟩;have ro1:=ro.keep s1;have vo1:=vo.keep s1;obtain⟨⟨dx,eo⟩,ed,en⟩:=id ro1;obtain⟨⟨dy,fs,ek,fl⟩,ed2⟩:=id vo1;have rt1:=rt.keep (Same.tups s1);have back:∀kvs',Alike H1 kvs' t->zbV H kvs'->Alike H kvs' t:=λkvs' al lo' t1 v1 ev r1=>al t1 v1 ev (r1.keep (Same.tups s1));refine⟨_,rfl,a,dx,_,rfl,eo,(zkC dl kp dn).n1,_,rfl,_,rfl,a,dl,kvs,_,t,v,rfl,ro1.vok,lo.keep (Same.tups s1),rt1,gt,rfl,λsame=>?_,λt1 v1 ev r1 g1 sn ne=>qe t1 v1 H1 s1 (.inl ev) r1 g1 sn ne⟩;refine⟨_,rfl,a,R,dx,_,_,rfl,eo,c_R,nk,rfl,kp,dy,_,rfl,ek,fl.n1,_,rfl,_,rfl,kp,dk,kvk,_,t,v,rfl,vo1,lk.keep (Same.tups s1),rt1,gt,rfl,λsame2=>?_,λt1 v1 ev r1 g1 sn ne=>qe t1 v1 H1 s1 (.inr ⟨back kvs same lo,ev⟩) r1 g1 sn ne⟩;refine⟨_,rfl,_,rfl,a,R,dx,_,_,rfl,eo,c_R,nl,rfl,_,rfl,dl,_,rfl,DPut.k (k:=Sum.inl (zh t)) ed (Jx hl (by decide+kernel)),?_⟩;exact⟨_,rfl,q H1 s1 (back kvs same lo) (back kvk same2 lk)⟩
def zl2 (D:Mdf K R "thing" "Reader.thing" zc0 Sd) (zlt:Mt P w K mg base (CX1 P w) C "thing" 1 Sd (zdo C CN)) (c_R:Cls K R) (c_C:Cls K C) (nl:zl K R "laid") (nk:zl K R "keeper") (nn:zl K R "noted"):
  Mt P w K mg base (CX1 P w) R "thing" 2 Sd (ze9 R C CN):=by
 refine D.okX (k:=1) (fsN ["self","number","read"]) (λ_ _ _ _ _ H _ Q E hr h=>?_);obtain⟨a,dl,kp,dn,dk,kvs,nvs,kvk,n,rfl,ro,vo,hl,q1,q2,qe⟩:=h;obtain⟨⟨dx,eo⟩,ed,en⟩:=id ro;obtain⟨⟨dy,fs,ek,fl⟩,ed2⟩:=id vo;refine⟨_,(zf (by ac_rfl)
 (zf (setA 2 rfl (zes (by ac_rfl) c_C zlt hr (by lia) zaZ (by ac_rfl)))
 (by ac_rfl))),?_⟩
 refine⟨_,rfl,_,rfl,a,R,dx,_,_,rfl,eo,c_R,nl,rfl,dl,_,rfl,DGet.k (k:=Sum.inl n) ed,_,rfl,?_⟩;cases ev:valV kvs (Sum.inl n) with
 | some v=>
  have dg:DGet H dl (.int n) (some v):=by rw[<-ev];exact DGet.k (k:=Sum.inl n) ed
  refine ifT rfl ?_;exact⟨_,rfl,a,R,dx,_,_,rfl,eo,c_R,nl,rfl,_,rfl,dl,v,rfl,dg,q1 v ev⟩
 | none=>refine ifF rfl ?_;refine⟨_,rfl,a,R,dx,_,_,rfl,eo,c_R,nk,rfl,kp,dy,_,rfl,ek,fl.n3,_,rfl,kp,dk,kvk,n,rfl,vo,λv e=>?_,λe=>qe ev e⟩;refine⟨_,rfl,_,rfl,a,R,dx,_,_,rfl,eo,c_R,nn,rfl,_,rfl,dn,_,rfl,DPut.k (k:=Sum.inl n) en (Jx hl (by decide+kernel)),?_⟩;exact⟨_,rfl,q2 v ev e⟩
def zno (D:Mdf K R "paper" "Reader.paper" zcZ Sv) (ztO:Fn P w K mg base "rising" 1 ["laid"] zfI) (c:Cls K R) (nn:zl K R "noted"):Mt P w K mg base CX0 R "paper" 2 Sv (zhR R):=by refine D.ok (k:=1) (fsN Sv) (λ_ _ _ _ _ H _ Q E hr h=>?_);obtain⟨a,dl,kp,dn,kvs,nvs,cs,rfl,⟨⟨dx,eo⟩,ed,en⟩,dr,h64,q⟩:=h;refine⟨_,(by ac_rfl),?_⟩;exact⟨_,rfl,a,R,dx,_,_,rfl,eo,c,nn,rfl,dn,nvs,cs,rfl,en,dr,h64,q⟩
theorem Mt.mono {P:Program}{w:World}{K:QA}{mg:QB}{base:Heap}{CX:CXT}{C:Addr}{m:Str}{j k:Nat}{ps:QQ}{sp:Sp}(F:Mt P w K mg base CX C m j ps sp)(h:j<=k):Mt P w K mg base CX C m k ps sp:=by obtain⟨f,fd,a,b⟩:=F.ex;exact⟨f,fd,a.mono h,b⟩
theorem NL.tups (n:NL H H'):Tups H H':=λb xs e=>n b _ (by intro ys z;cases z) e
theorem VOk.nl (v:VOk H C a d kvs)(n:NL H H'):VOk H' C a d kvs:=by obtain⟨⟨dx,fs,e,f⟩,e2⟩:=v;exact⟨⟨dx,fs,n _ _ (by intro ys z;cases z) e,f⟩,n _ _ (by intro ys z;cases z) e2⟩
theorem VS.nl {H H':Hp}{C a d:Addr}{cs:QF}(v:VS H C a d cs)(n:NL H H'):VS H' C a d cs:=by obtain⟨kv,vo,dr⟩:=v.vo;exact⟨⟨kv,vo.nl n,dr.keep n.tups⟩,v.gc⟩
theorem zcL {a b:QF}:zg (a++b) n=(zg a n).or (zg b n):=by
 induction a with
 | nil=>rfl
 | cons p r ih=>
  obtain⟨k,u⟩:=p;rw[J9,zF,zF];by_cases h:k=n
  ·rw[if_pos h,if_pos h];rfl
  ·rw[if_neg h,if_neg h];exact ih
theorem Vst.all_own {s:Vst}{n:Int}{t:Th}(h:zg s.own n=some t):zg s.all n=some t:=by unfold Vst.all;rw[zcL,h];rfl
theorem Vst.all_kp {s:Vst}{n:Int}(h:zg s.own n=none):zg s.all n=zg s.kp n:=by unfold Vst.all;rw[zcL,h];rfl
def zeh {s:Vst}{t:Th}(h:s.stop t=none):zg s.all (zh t)=none\/zg s.all (zh t)=some t:=by
 unfold Vst.stop at h;cases z:zg s.all (zh t) with
 | none=>exact .inl rfl
 | some u=>
  rw[z] at h;have h':(if u=t then none else some u)=(none:Option Th):=h;by_cases e:u=t
  ·rw[e];exact .inr rfl
  ·rw[if_neg e] at h';cases h'
def zeS {s:Vst}(h:zg s.all (zh t)=none\/zg s.all (zh t)=some t):s.stop t=none:=by
 unfold Vst.stop;rcases h with h | h
 ·rw[h]
 ·rw[h];exact if_pos rfl
def zei {s:Vst}{u:Th}(h:zg s.all (zh t)=some u)(n:u≠t):s.stop t=some u:=by unfold Vst.stop;rw[h];exact if_neg n
structure VK (C:Addr)(H:Hp)(a:Addr)(D:QP)(s:Vst):Prop where
 vs:∃d,D=[d]/\VS H C a d s.own
 kp:s.kp=[]
 rm:s.own.length+s.n<=1000000
def vi_K (C:Addr):VI C (VK C) where
 ins:=λv=>by obtain⟨d,_,vs⟩:=v.vs;obtain⟨kv,⟨⟨dx,fs,e,f⟩,_⟩,_⟩:=vs.vo;exact⟨dx,fs,e,f.n3,f.n2⟩
 dic:=λv b hb=>by obtain⟨d,e,vs⟩:=v.vs;obtain⟨kv,vo,_⟩:=vs.vo;subst e;rw[Jj.mp hb];exact⟨kv,vo.di⟩
 nl:=λv n=>by obtain⟨d,e,vs⟩:=v.vs;exact⟨⟨d,e,vs.nl n⟩,v.kp,v.rm⟩
structure VRd (R C kp dk:Addr)(H:Hp)(a:Addr)(D:QP)(s:Vst):Prop where
 ro:∃dl dn kvs nvs,D=[dl,dn]/\ROk H R a dl kp dn kvs nvs/\DRep H s.own kvs/\DRep H s.nt nvs/\dl≠dn/\dk≠dl/\dk≠dn
 vs:VS H C kp dk s.kp
 g1:GoodC s.own
 g2:GoodC s.nt
 co:∀n t u,zg s.own n=some t->zg s.kp n=some u->t=u
 su:∀n t,zg s.nt n=some t->zg s.kp n=some t
 r1:s.own.length+s.n<=1000000
 r2:s.nt.length+s.n<=1000000
theorem ROk.nl {H H':Hp}{R a dl kp dn:Addr}{kvs nvs:QG}(v:ROk H R a dl kp dn kvs nvs)(n:NL H H'):ROk H' R a dl kp dn kvs nvs:=by obtain⟨⟨dx,e⟩,e2,e3⟩:=v;exact⟨⟨dx,n _ _ (by intro ys z;cases z) e⟩,n _ _ (by intro ys z;cases z) e2,n _ _ (by intro ys z;cases z) e3⟩
def vi_R (R C kp dk:Addr):VI R (VRd R C kp dk) where
 ins:=λv=>by obtain⟨dl,dn,kvs,nvs,_,ro,_⟩:=v.ro;obtain⟨⟨dx,e⟩,_⟩:=ro;exact⟨dx,_,e,(zkC dl kp dn).n3,(zkC dl kp dn).n2⟩
 dic:=λv b hb=>by
  obtain⟨dl,dn,kvs,nvs,e,ro,_⟩:=v.ro;subst e;simp only[JD,JN,or_false] at hb;rcases hb with rfl | rfl
  ·exact⟨_,ro.di⟩
  ·exact⟨_,ro.no⟩
 nl:=λv n=>by obtain⟨dl,dn,kvs,nvs,e,ro,d1,d2,ne⟩:=v.ro;exact⟨⟨dl,dn,kvs,nvs,e,ro.nl n,d1.keep n.tups,d2.keep n.tups,ne⟩,v.vs.nl n,v.g1,v.g2,v.co,v.su,v.r1,v.r2⟩
theorem Vst.look_own {s:Vst}{n:Int}{t:Th}(h:zg s.own n=some t):s.look n=some (t,{s with n:=s.n - 1}):=by unfold Vst.look;rw[h]
theorem Vst.look_kp {s:Vst}{n:Int}{t:Th}(h:zg s.own n=none)(k:zg s.kp n=some t):s.look n=some (t,{s with nt:=addT s.nt n t,n:=s.n - 1}):=by unfold Vst.look;rw[h];show(match zg s.kp n with | some t=>_ | none=>_)=_;rw[k]
theorem Vst.look_no {s:Vst}{n:Int}(h:zg s.own n=none)(k:zg s.kp n=none):s.look n=none:=by unfold Vst.look;rw[h];show(match zg s.kp n with | some t=>_ | none=>_)=_;rw[k]
def zkO (M:Mt P w K mg base (CX1 P w) C "thing" 1 Sd (zdo C CN)):Mt P w K mg base (CX1 P w) C "thing" 2 Sd (zcs (VK C) CN):=Mt.mono (Mt.imp M λvs H Q E h=>by
 obtain⟨a,D,s,n,rfl,vk,h0,q,qe⟩:=h;obtain⟨d,rfl,vs⟩:=id vk.vs;obtain⟨kv,vo,dr⟩:=vs.vo;refine⟨a,d,kv,n,rfl,vo,λv ev=>?_,λev=>?_⟩
 ·obtain⟨t,e1,rv⟩:=dr.back ev;exact q t _ v H (Vst.look_own e1) Frm.refl ⟨⟨d,rfl,vs⟩,vk.kp,by have:=vk.rm;show s.own.length+(s.n - 1)<=1000000;lia⟩ rv (vs.gc.dep e1).1
 ·refine qe H (Vst.look_no ?_ (by rw[vk.kp];rfl)) Frm.refl vk;cases z:zg s.own n with
  | none=>rfl
  | some t=>obtain⟨y,ey,_⟩:=dr.some z;rw[ev] at ey;cases ey) (by decide)
def zoH (M:Mt P w K mg base (CX1 P w) C "lay" 14 Sh (zlf C CC)):Mt P w K mg base (CX1 P w) C "lay" 14 Sh (zbX (VK C) CC):=Mt.imp M λvs H Q E h=>by
 obtain⟨a,D,s,t,v,rfl,vk,h0,rt,gt,q,qe⟩:=h;obtain⟨d,rfl,vs⟩:=id vk.vs;obtain⟨kv,vo,dr⟩:=vs.vo;have rm:=vk.rm;have eall:∀n,zg s.all n=zg s.own n:=λn=>by unfold Vst.all;rw[vk.kp,JP]
 refine⟨a,d,kv,t,v,rfl,vo,dr.laidOk vs.gc.gd,by rw[dr.len];lia,rt,gt,λH' sm alike=>?_,λt1 v1 H' sm e1 r1 g1 se ne H2 x s2 ex=>?_⟩
 ·have ft:Fits s.own (zh t) t:=by
   cases z:zg s.own (zh t) with
   | none=>exact .inl z
   | some u=>obtain⟨y,ey,ry⟩:=dr.some z;rw[alike u y ey ry] at z;exact .inr z
  have ed':=sm _ _ vo.di;have tk:Tups H (upd H' d (.dK (putK kv (.inl (zh t)) v))):=(Same.tups sm).trans (Tups.upd λxs z=>by rw[ed'] at z;cases z);have fr:Frm [d] H (upd H' d (.dK (putK kv (.inl (zh t)) v))):=λb o n e=>by rw[zc (λz=>n (by rw[z];exact Jj.mpr rfl))];exact sm b o e
  obtain⟨⟨dx,fs,eo,fl⟩,ed⟩:=id vo;have hal:=zdv s.own (zh t) t;have had:a∉ [d]:=λz=>zR eo ed (by intro y;cases y) (Jj.mp z);exact q _ (zeS (by rw[eall];exact ft)) fr ⟨⟨d,rfl,⟨⟨_,⟨⟨dx,fs,fr _ _ had eo,fl⟩,za⟩,(dr.keep tk).add (rt.keep tk) ft vs.gc.nd⟩,vs.gc.add gt rfl⟩⟩,vk.kp,by show(addT s.own (zh t) t).length+(s.n - 1)<=1000000;lia⟩
 ·obtain⟨t2,e2,r2⟩:=dr.back e1;have e12:t2=t1:=(r2.keep (Same.tups sm)).uniq r1;subst e12;exact qe t2 x v1 v H2 (zei (by rw[eall];exact e2) ne) (Frm.of λb o z=>s2 b o (sm b o z)) ((vi_K C).same vk λb o z=>s2 b o (sm b o z)) (r1.keep (Same.tups s2)) (rt.keep ((Same.tups sm).trans (Same.tups s2))) g1 gt ne se ex
def zpm (M:Mt P w K mg base (CX1 P w) R "thing" 2 Sd (ze9 R C CN)):Mt P w K mg base (CX1 P w) R "thing" 2 Sd (zcs (VRd R C kp dk) CN):=Mt.imp M λvs H Q E h=>by
 obtain⟨a,D,s,n,rfl,vr,h0,q,qe⟩:=h;obtain⟨dl,dn,kvs,nvs,rfl,ro,d1,d2,ne,nk1,nk2⟩:=id vr.ro;obtain⟨kv,vo,dr⟩:=vr.vs.vo;have r1:=vr.r1;have r2:=vr.r2;have non:∀{cs:QF}{kvs:QG},DRep H cs kvs->valV kvs (Sum.inl n)=none->zg cs n=none:=λd ev=>by
  rename_i cs _;cases z:zg cs n with
  | none=>rfl
  | some t=>obtain⟨y,ey,_⟩:=d.some z;rw[ev] at ey;cases ey
 refine⟨a,dl,kp,dn,dk,kvs,nvs,kv,n,rfl,ro,vo,by rw[d2.len];lia,λv ev=>?_,λv e0 ev=>?_,λe0 ev=>?_⟩
 ·obtain⟨t,e1,rv⟩:=d1.back ev;exact q t _ v H (Vst.look_own e1) Frm.refl ⟨vr.ro,vr.vs,vr.g1,vr.g2,vr.co,vr.su,by show s.own.length+(s.n - 1)<=1000000;lia,by show s.nt.length+(s.n - 1)<=1000000;lia⟩ rv (vr.g1.dep e1).1
 ·obtain⟨t,e1,rv⟩:=dr.back ev;have ft:Fits s.nt n t:=by
   cases z:zg s.nt n with
   | none=>exact .inl z
   | some u=>have:=vr.su n u z;rw[e1] at this;cases this;exact .inr z
  have en:=ro.no;have tk:Tups H (upd H dn (.dK (putK nvs (.inl n) v))):=Tups.upd λxs z=>by rw[en] at z;cases z
  have fr:Frm [dl,dn] H (upd H dn (.dK (putK nvs (.inl n) v))):=Frm.upd (by simp);obtain⟨gt,sn⟩:=vr.vs.gc.dep e1;have hal:=zdv s.nt n t;obtain⟨⟨dx,eo⟩,ed,_⟩:=id ro;obtain⟨⟨dy,fs,eok,flk⟩,edk⟩:=id vo;refine q t _ v _ (Vst.look_kp (non d1 e0) e1) fr ⟨⟨dl,dn,kvs,_,rfl,⟨⟨dx,?_⟩,?_,za⟩,d1.keep tk,(d2.keep tk).add (rv.keep tk) ft vr.g2.nd,ne,nk1,nk2⟩,⟨⟨kv,⟨⟨dy,fs,?_,flk⟩,?_⟩,dr.keep tk⟩,vr.vs.gc⟩,vr.g1,vr.g2.add gt sn,vr.co,λm u z=>?_,by show s.own.length+(s.n - 1)<=1000000;lia,by show(addT s.nt n t).length+(s.n - 1)<=1000000;lia⟩ (rv.keep tk) gt
  ·rw[zc (zR eo en (by intro z;cases z))];exact eo
  ·rw[zc ne];exact ed
  ·rw[zc (zR eok en (by intro z;cases z))];exact eok
  ·rw[zc nk2];exact edk
  ·rcases zX z with z | ⟨rfl,rfl⟩
   ·exact vr.su m u z
   ·exact e1
 ·exact qe H (Vst.look_no (non d1 e0) (non dr ev)) Frm.refl vr
def ztA (M:Mt P w K mg base (CX1 P w) R "lay" 14 Sh (zjF R C CC)):Mt P w K mg base (CX1 P w) R "lay" 14 Sh (zbX (VRd R C kp dk) CC):=Mt.imp M λvs H Q E h=>by
 obtain⟨a,D,s,t,v,rfl,vr,h0,rt,gt,q,qe⟩:=h;obtain⟨dl,dn,kvs,nvs,rfl,ro,d1,d2,ne,nk1,nk2⟩:=id vr.ro;obtain⟨kv,vo,dr⟩:=vr.vs.vo;have r1:=vr.r1;have r2:=vr.r2;have fits:∀{cs:QF}{kvs:QG},DRep H cs kvs->Alike H kvs t->Fits cs (zh t) t:=λd al=>by
  rename_i cs _;cases z:zg cs (zh t) with
  | none=>exact .inl z
  | some u=>obtain⟨y,ey,ry⟩:=d.some z;rw[al u y ey ry] at z;exact .inr z
 refine⟨a,dl,kp,dn,dk,kvs,nvs,kv,t,v,rfl,ro,vo,d1.laidOk vr.g1.gd,dr.laidOk vr.vs.gc.gd,by rw[d1.len];lia,rt,gt,λH' sm al1 al2=>?_,λt1 v1 H' sm e1 r1' g1 se nt H2 x s2 ex=>?_⟩
 ·have f1:=fits d1 al1;have f2:=fits dr al2;have ed':=sm _ _ ro.di;have tk:Tups H (upd H' dl (.dK (putK kvs (.inl (zh t)) v))):=(Same.tups sm).trans (Tups.upd λxs z=>by rw[ed'] at z;cases z);have fr:Frm [dl,dn] H (upd H' dl (.dK (putK kvs (.inl (zh t)) v))):=λb o n e=>by rw[zc (λz=>n (by rw[z];simp))];exact sm b o e
  obtain⟨⟨dx,eo⟩,ed,en⟩:=id ro;obtain⟨⟨dy,fs,eok,flk⟩,edk⟩:=id vo;have hal:=zdv s.own (zh t) t;refine q _ (zeS ?_) fr ⟨⟨dl,dn,_,nvs,rfl,⟨⟨dx,?_⟩,za,?_⟩,(d1.keep tk).add (rt.keep tk) f1 vr.g1.nd,d2.keep tk,ne,nk1,nk2⟩,⟨⟨kv,⟨⟨dy,fs,?_,flk⟩,?_⟩,dr.keep tk⟩,vr.vs.gc⟩,vr.g1.add gt rfl,vr.g2,λm u u' z z'=>?_,vr.su,by show(addT s.own (zh t) t).length+(s.n - 1)<=1000000;lia,by show s.nt.length+(s.n - 1)<=1000000;lia⟩
  ·rcases f1 with f1 | f1
   ·rw[Vst.all_kp f1];exact f2
   ·rw[Vst.all_own f1];exact .inr rfl
  ·rw[zc (zR eo ed (by intro z;cases z))];exact sm _ _ eo
  ·rw[zc (Ne.symm ne)];exact sm _ _ en
  ·rw[zc (zR eok ed (by intro z;cases z))];exact sm _ _ eok
  ·rw[zc nk1];exact sm _ _ edk
  ·have z':zg s.kp m=some u':=z';rcases zX z with z | ⟨rfl,rfl⟩
   ·exact vr.co m u u' z z'
   ·rcases f2 with f2 | f2
    ·rw[f2] at z';cases z'
    ·rw[f2] at z';cases z';rfl
 ·have st:s.stop t=some t1:=by
   rcases e1 with e1 | ⟨al,e1⟩
   ·obtain⟨t2,e2,r2'⟩:=d1.back e1;have e12:t2=t1:=(r2'.keep (Same.tups sm)).uniq r1';subst e12;exact zei (Vst.all_own e2) nt
   ·obtain⟨t2,e2,r2'⟩:=dr.back e1;have e12:t2=t1:=(r2'.keep (Same.tups sm)).uniq r1';subst e12;rcases fits d1 al with f1 | f1
    ·exact zei (by rw[Vst.all_kp f1];exact e2) nt
    ·have:=vr.co _ _ _ f1 e2;exact Jf this.symm nt
  exact qe t1 x v1 v H2 st (Frm.of λb o z=>s2 b o (sm b o z)) ((vi_R R C kp dk).same vr λb o z=>s2 b o (sm b o z)) (r1'.keep (Same.tups s2)) (rt.keep ((Same.tups sm).trans (Same.tups s2))) g1 gt nt se ex
end Pv
namespace Pv
open PySem L2
open Tr
theorem zcE:∀{n:Nat}{T:Tr},(down x n T).cnt<=T.cnt
 | 0,_=>Jb _
 | n+1,nil=>zcE (n:=n) (T:=nil)
 | n+1,node l k w r=>by
  have h:=zcE (x:=x) (n:=n) (T:=if zb k x=true then r else l);show(down x n (if zb k x=true then r else l)).cnt<=_;rw[zt];by_cases c:zb k x=true
  ·rw[if_pos c] at h ⊢;lia
  ·rw[if_neg c] at h ⊢;lia
theorem zeV:∀{n:Nat}{T:Tr},(∀m,m < n->down x m T≠nil)->(spl x n T).1.cnt+(spl x n T).2.cnt=T.cnt
 | 0,T,_=>rfl
 | n+1,nil,h=>Jf rfl (h 0 (Nat.zero_lt_succ _))
 | n+1,node l k w r,h=>by
  have h':∀m,m < n->down x m (if zb k x=true then r else l)≠nil:=λm hm=>h (m+1) (Jw hm);show(if zb k x=true then(node l k w (spl x n r).1,(spl x n r).2) else((spl x n l).1,node (spl x n l).2 k w r)).1.cnt+(if zb k x=true then(node l k w (spl x n r).1,(spl x n r).2) else((spl x n l).1,node (spl x n l).2 k w r)).2.cnt=_;by_cases c:zb k x=true
  ·rw[if_pos c] at h' ⊢;have:=zeV h';show(node l k w (spl x n r).1).cnt+(spl x n r).2.cnt=_;rw[zt,zt];lia
  ·rw[if_neg c] at h' ⊢;have:=zeV h';show(spl x n l).1.cnt+(node (spl x n l).2 k w r).cnt=_;rw[zt,zt];lia
structure Go (A:Th->Prop)(j:Nat)(s s':Vst):Prop where
 kp:s'.kp=s.kp
 al:Sub s.all s'.all
 nt:∀n t,zg s'.nt n=some t->zg s.nt n=some t\/A t
 n:s.n<=s'.n+j
def Go.refl (s:Vst):Go A 0 s s:=⟨rfl,Sub.refl _,λ_ _ h=>.inl h,Jb _⟩
theorem Go.trans (g:Go A i s s')(g':Go A j s' s''):Go A (i+j) s s'':=
 ⟨g'.kp.trans g.kp,g.al.trans g'.al,λn t h=>by
  rcases g'.nt n t h with h | h
  ·exact g.nt n t h
  ·exact .inr h,by have:=g.n;have:=g'.n;lia⟩
theorem Go.mono {j:Nat}(g:Go A i s s')(h:i<=j):Go A j s s':=⟨g.kp,g.al,g.nt,by have:=g.n;lia⟩
def zng {s:Vst}{t:Th}{A:Th->Prop}(h:zg s.all n=some t)(hA:A t)(h0:0 < s.n):∃s',s.look n=some (t,s')/\Go A 1 s s'/\s'.own=s.own:=by
 cases z:zg s.own n with
 | some u=>rw[Vst.all_own z] at h;cases h;exact⟨_,Vst.look_own z,⟨rfl,Sub.refl _,λ_ _ h=>.inl h,by show s.n<=s.n - 1+1;lia⟩,rfl⟩
 | none=>
  rw[Vst.all_kp z] at h;refine⟨_,Vst.look_kp z h,⟨rfl,Sub.refl _,λm u y=>?_,by show s.n<=s.n - 1+1;lia⟩,rfl⟩;rcases zX y with y | ⟨_,rfl⟩
  ·exact .inl y
  ·exact .inr hA
def ndT (l:Tr)(k w:Th)(r:Tr):Nd:=⟨k,w,l.root,r.root,(((l.ps++(k,w)::r.ps).length:Nat):Int)⟩
theorem zrM {m:Int}(kw:KeyT k/\KeyT w)(c3:(node l k w r).cnt<=300)(hm:((node l k w r).cnt:Int) < m):benK m (node l k w r).thing=.ret (ndT l k w r):=by have ok:=(za2 kw.1 kw.2 c3).1;have e:ndOf (node l k w r).thing=some (ndT l k w r):=zkT (nd:=ndT l k w r) (zr3 (nd:=ndT l k w r) ok);rw[zcJ e,if_pos (show(ndT l k w r).c < m from hm)]
def zcU {A:Th->Prop}{m:Int}{s:Vst}{q:Nd->Vst->Prop}{e:Er->Vst->Prop}(tk:TOk s.all (node l k w r))(hm:((node l k w r).cnt:Int) < m)(h0:0 < s.n)(hA:A (node l k w r).thing)(h:∀s',Go A 1 s s'->s'.own=s.own->q (ndT l k w r) s'):(benP (node l k w r).root m).wp s q e:=by
 obtain⟨s',e1,g,eo⟩:=zng tk.iv.1 hA h0;refine⟨h0,λt s2 z=>?_,λz=>?_⟩
 ·rw[e1] at z;cases z;rw[zrM tk.kw tk.ct hm];exact h _ g eo
 ·rw[e1] at z;cases z
def wayN (x:Th):Tr->List Nd
 | nil=>[]
 | node l k w r=>ndT l k w r::(if k=x then[] else if zb k x=true then wayN x r else wayN x l)
theorem zkV {x:Th}{k:Th}(h:k≠x):wayN x (node l k w r)=ndT l k w r::wayN x ((node l k w r).kid x):=by
 show ndT l k w r::(if k=x then[] else if zb k x=true then wayN x r else wayN x l)=ndT l k w r::wayN x (if zb k x=true then r else l);rw[if_neg h];by_cases c:zb k x=true
 ·rw[if_pos c,if_pos c]
 ·rw[if_neg c,if_neg c]
def zk9 {x:Th}:((node l k w r).kid x).cnt+1<=(node l k w r).cnt:=by have:=zt l k w r;show(if zb k x=true then r else l).cnt+1<=_;split <;> lia
theorem znJ:kidI (ndT l k w r) x=((node l k w r).kid x).root:=by show(if zb k x=true then r.root else l.root)=(if zb k x=true then r else l).root;split <;> rfl
def TOk.go {s:Vst}(t:TOk s.all T)(g:Go A j s s'):TOk s'.all T:=t.mono g.al
theorem zfR {A:Th->Prop}{x:Th}{e:Er->Vst->Prop}:∀{T:Tr}{f:Nat}{m:Int}{s:Vst}{q:List Nd->Vst->Prop},TOk s.all T->T.cnt < f->(T.cnt:Int) < m->T.cnt<=s.n->(∀nd∈wayN x T,A nd.th)->(∀s',Go A T.cnt s s'->s'.own=s.own->q (wayN x T) s')->(wayP x f T.root m).wp s q e:=by
 intro T f;induction f generalizing T with
 | zero=>intro m s q _ h;exact absurd h (Nat.not_lt_zero _)
 | succ f ih=>
 intro m s q tk hf hm hn hA h;cases T with
 | nil=>unfold wayP;rw[if_pos (show(Tr.nil).root=0 from rfl)];exact h s (Go.refl s) rfl
 | node l k w r=>
  have kc:=zk9 (x:=x) (l:=l) (r:=r) (k:=k) (w:=w);unfold wayP;rw[if_neg (λz=>by cases zaJ.mp z),Pg.wp_bind];refine zcU (A:=A) tk hm (by lia) (hA _ JL) λs1 g1 o1=>?_;by_cases ek:k=x
  ·rw[if_pos (show(ndT l k w r).k=x from ek)];have e1:wayN x (node l k w r)=[ndT l k w r]:=by show _::(if k=x then[] else _)=_;rw[if_pos ek]
   rw[e1] at h;exact h s1 (g1.mono (by lia)) o1
  ·rw[if_neg (show¬(ndT l k w r).k=x from ek),Pg.wp_bind,znJ];rw[zkV ek] at hA h;have gn:=g1.n;refine ih (T:=(node l k w r).kid x) (tk.go g1).kid (by lia) (by show _ < (((l.ps++(k,w)::r.ps).length:Nat):Int);have:(l.ps++(k,w)::r.ps).length=(node l k w r).cnt:=rfl;lia) (by lia) (λnd hnd=>hA nd (Ji _ hnd)) λs2 g2 o2=>?_;exact h s2 ((g1.trans g2).mono (by lia)) (o2.trans o1)
def zhs {s:Vst}{t:Th}(h:s.stop t=none):Sub s.all (s.add t).all/\zg (s.add t).all (zh t)=some t:=by
 have h':=zeh h;have key:zg (s.add t).all (zh t)=some t:=by
  show zg (addT s.own (zh t) t++s.kp) (zh t)=some t;rw[zcL];cases z:zg s.own (zh t) with
  | none=>rw[zaf (.inl z)];rfl
  | some u=>
   rw[Vst.all_own z] at h';rcases h' with h' | h'
   ·cases h'
   ·cases h';rw[zaf (.inr z)];rfl
 refine⟨λn u e=>?_,key⟩;show zg (addT s.own (zh t) t++s.kp) n=some u;rw[zcL];cases z:zg s.own n with
 | some v=>rw[Vst.all_own z] at e;cases e;rw[za4 z];rfl
 | none=>
  rw[Vst.all_kp z] at e;cases y:zg (addT s.own (zh t) t) n with
  | none=>exact e
  | some v=>
   rcases zX y with y | ⟨rfl,rfl⟩
   ·rw[z] at y;cases y
   ·rw[Vst.all_kp z,e] at h';rcases h' with h' | h'
    ·cases h'
    ·exact h'.symm
def zbk {t:Th}{k:Pg α}{s:Vst}{q:α->Vst->Prop}{e:Er->Vst->Prop}(h0:0 < s.n)(g:Good t)(hc:∀u t s',e (.clash u t) s')(h:∀s',Go A 1 s s'->zg s'.all (zh t)=some t->k.wp s' q e):(Pg.lay t k).wp s q e:=by refine⟨h0,g,λz=>?_,λu _=>hc u t s⟩;obtain⟨a,b⟩:=zhs z;exact h _ ⟨rfl,a,λ_ _ h=>.inl h,by show s.n<=s.n - 1+1;lia⟩ b
def wayT (x:Th):Nat->Tr->List Nd
 | 0,_=>[]
 | _+1,nil=>[]
 | n+1,node l k w r=>ndT l k w r::wayT x n ((node l k w r).kid x)
theorem zbF:∀{T:Tr},wayN x T=wayT x (wl x T) T
 | nil=>rfl
 | node l k w r=>by
  by_cases ek:k=x
  ·have e1:wl x (node l k w r)=1:=by show(if k=x then 1 else _)=1;rw[if_pos ek]
   rw[e1];show _::(if k=x then[] else _)=_;rw[if_pos ek];rfl
  ·have e1:wl x (node l k w r)=wl x ((node l k w r).kid x)+1:=by show(if k=x then 1 else(if zb k x=true then r.wl x else l.wl x)+1)=wl x (if zb k x=true then r else l)+1;rw[if_neg ek];split <;> rfl
   rw[e1,zkV ek];show _=ndT l k w r::wayT x (wl x ((node l k w r).kid x)) ((node l k w r).kid x);congr 1;show wayN x (if zb k x=true then r else l)=wayT x (wl x (if zb k x=true then r else l)) (if zb k x=true then r else l);by_cases c:zb k x=true
   ·rw[if_pos c];exact zbF
   ·rw[if_neg c];exact zbF
theorem zgu:∀{m n:Nat}{T:Tr},m<=n->(wayT x n T).take m=wayT x m T
 | 0,_,_,_=>by rw[List.take_zero];rfl
 | m+1,0,_,h=>Jf h (Nat.not_succ_le_zero m)
 | m+1,n+1,nil,_=>rfl
 | m+1,n+1,node l k w r,h=>congrArg (ndT l k w r:: ·) (zgu (Nat.le_of_succ_le_succ h))
theorem zgI:∀{m n:Nat}{T:Tr},m<=n->(wayT x n T).drop m=wayT x (n - m) (down x m T)
 | 0,n,_,_=>rfl
 | m+1,0,_,h=>Jf h (Nat.not_succ_le_zero m)
 | m+1,n+1,nil,h=>by
  have e:wayT x (n+1) nil=[]:=rfl;rw[e,List.drop_nil];have:∀(j i:Nat),wayT x i (down x j nil)=[]:=λj=>by
   induction j with
   | zero=>intro i;cases i <;> rfl
   | succ j ih=>exact ih
  exact(this (m+1) _).symm
 | m+1,n+1,node l k w r,h=>by show(wayT x n ((node l k w r).kid x)).drop m=wayT x (n+1 - (m+1)) (down x m ((node l k w r).kid x));rw[zgI (Nat.le_of_succ_le_succ h),Nat.succ_sub_succ]
theorem zgn:∀{a b:List Nd}{n:Int},zaX x more (a++b) n=(zaX x more a n).bind (zaX x more b)
 | [],_,_=>rfl
 | nd::a,b,n=>by show Pg.lay _ (zaX x more (a++b) _)=Pg.lay _ ((zaX x more a _).bind _);rw[zgn]
def _root_.NA:=@List.reverse_cons
theorem zeP {e:Er->Vst->Prop}(hc:∀u t s',e (.clash u t) s'){more:Int}:∀{n:Nat}{T S:Tr}{s:Vst}{q:Int->Vst->Prop},TOk s.all T->S.InV s.all->(∀m,m < n->down x m T≠nil)->T.cnt+S.cnt<=300+(down x n T).cnt->more=(S.cnt:Int) - ((down x n T).cnt:Int)->n<=s.n->
  (∀s',Go A n s s'->(plug x n T S).InV s'.all->q (plug x n T S).root s')->(zaX x more (wayT x n T).reverse S.root).wp s q e
 | 0,T,S,s,q,_,iS,_,_,_,_,h=>h s (Go.refl s) iS
 | n+1,nil,_,_,_,_,_,nn,_,_,_,_=>Jf rfl (nn 0 (Nat.zero_lt_succ _))
 | n+1,node l k w r,S,s,q,tk,iS,nn,h3,hm,hn,h=>by
  have kc:=zk9 (x:=x) (l:=l) (r:=r) (k:=k) (w:=w);show(zaX x more (ndT l k w r::wayT x n ((node l k w r).kid x)).reverse S.root).wp s q e;have hd:down x (n+1) (node l k w r)=down x n ((node l k w r).kid x):=rfl;rw[hd] at h3 hm;rw[NA,zgn,Pg.wp_bind];refine zeP (A:=A) hc (n:=n) (T:=(node l k w r).kid x) tk.kid iS (λm hm=>nn (m+1) (Jw hm)) (by lia) hm (by lia) λs1 g1 i1=>?_;have pc:=zfc (x:=x) (n:=n) (T:=(node l k w r).kid x) (S:=S) (λm hm=>nn (m+1) (Jw hm));have tk1:=tk.go g1;have gn:=g1.n;have cn:=zt l k w r;generalize hP:plug x n ((node l k w r).kid x) S=Pj at pc i1;have hnew:plug x (n+1) (node l k w r) S=if zb k x=true then node l k w Pj else node Pj k w r:=by
   show(if zb k x=true then node l k w (plug x n r S) else node (plug x n l S) k w r)=_;by_cases c:zb k x=true
   ·have e1:(node l k w r).kid x=r:=if_pos c;rw[e1] at hP;rw[if_pos c,if_pos c,hP]
   ·have e1:(node l k w r).kid x=l:=if_neg c;rw[e1] at hP;rw[if_neg c,if_neg c,hP]
  rw[hnew] at h;have hlen:(l.ps++(k,w)::r.ps).length=(node l k w r).cnt:=rfl;by_cases c:zb k x=true
  ·rw[if_pos c] at h;have e1:(node l k w r).kid x=r:=if_pos c;rw[e1] at pc h3 hm;have cn2:=zt l k w Pj;have et:(zL (ndT l k w r) (zb8 (ndT l k w r).k x) Pj.root ((ndT l k w r).c+more)).th=(node l k w Pj).thing:=by have e3:zb8 (ndT l k w r).k x=3:=if_pos c;rw[e3];show zaF k w l.root Pj.root ((((l.ps++(k,w)::r.ps).length:Nat):Int)+more)=zaF k w l.root Pj.root (((l.ps++(k,w)::Pj.ps).length:Nat):Int);have:(l.ps++(k,w)::Pj.ps).length=(node l k w Pj).cnt:=rfl;rw[show(((l.ps++(k,w)::r.ps).length:Nat):Int)+more=(((l.ps++(k,w)::Pj.ps).length:Nat):Int) by lia]
   show(Pg.lay _ (Pg.ret _)).wp s1 q e;rw[et];refine zbk (A:=A) (by lia) (za2 tk.kw.1 tk.kw.2 (by lia)).2 hc λs2 g2 e2=>?_;exact h s2 ((g1.trans g2).mono (Jb _)) ⟨e2,(tk1.go g2).l.iv,InV.mono g2.al i1⟩
  ·rw[if_neg c] at h;have e1:(node l k w r).kid x=l:=if_neg c;rw[e1] at pc h3 hm;have cn2:=zt Pj k w r;have et:(zL (ndT l k w r) (zb8 (ndT l k w r).k x) Pj.root ((ndT l k w r).c+more)).th=(node Pj k w r).thing:=by have e3:zb8 (ndT l k w r).k x=2:=if_neg c;rw[e3];show zaF k w Pj.root r.root ((((l.ps++(k,w)::r.ps).length:Nat):Int)+more)=zaF k w Pj.root r.root (((Pj.ps++(k,w)::r.ps).length:Nat):Int);have:(Pj.ps++(k,w)::r.ps).length=(node Pj k w r).cnt:=rfl;rw[show(((l.ps++(k,w)::r.ps).length:Nat):Int)+more=(((Pj.ps++(k,w)::r.ps).length:Nat):Int) by lia]
   show(Pg.lay _ (Pg.ret _)).wp s1 q e;rw[et];refine zbk (A:=A) (by lia) (za2 tk.kw.1 tk.kw.2 (by lia)).2 hc λs2 g2 e2=>?_;exact h s2 ((g1.trans g2).mono (Jb _)) ⟨e2,InV.mono g2.al i1,(tk1.go g2).r.iv⟩
def zbI (x:Th):List Nd->Int->Int->Int->Int->Pg (Int ×Int ×Int ×Int)
 | [],l,lc,r,rc=>.ret (l,lc,r,rc)
 | nd::t,l,lc,r,rc=>if zb nd.k x=true then .lay (zL nd 3 l (nd.c - rc)).th (zbI x t (zh (zL nd 3 l (nd.c - rc)).th) (nd.c - rc) r rc)
  else .lay (zL nd 2 r (nd.c - lc)).th (zbI x t l lc (zh (zL nd 2 r (nd.c - lc)).th) (nd.c - lc))
theorem zfN:∀{a:List Nd}{l lc r rc:Int},zeF x a l lc r rc=(zbI x a l lc r rc).bind λy=>.ret (y.1,y.2.2.1)
 | [],_,_,_,_=>rfl
 | nd::a,l,lc,r,rc=>by
  unfold zeF zbI;split
  ·show Pg.lay _ _=Pg.lay _ _;rw[zfN]
  ·show Pg.lay _ _=Pg.lay _ _;rw[zfN]
theorem ziB {nd:Nd}{a:List Nd}(h:zb nd.k x=true):zbI x (nd::a) l lc r rc=.lay (zL nd 3 l (nd.c - rc)).th (zbI x a (zh (zL nd 3 l (nd.c - rc)).th) (nd.c - rc) r rc):=if_pos h
theorem zin {nd:Nd}{a:List Nd}(h:¬zb nd.k x=true):zbI x (nd::a) l lc r rc=.lay (zL nd 2 r (nd.c - lc)).th (zbI x a l lc (zh (zL nd 2 r (nd.c - lc)).th) (nd.c - lc)):=if_neg h
theorem zd3:∀{a b:List Nd}{l lc r rc:Int},zbI x (a++b) l lc r rc=(zbI x a l lc r rc).bind λy=>zbI x b y.1 y.2.1 y.2.2.1 y.2.2.2
 | [],_,_,_,_,_=>rfl
 | nd::a,b,l,lc,r,rc=>by
  by_cases c:zb nd.k x=true
  ·rw[J9,ziB c,ziB c,zd3];rfl
  ·rw[J9,zin c,zin c,zd3];rfl
theorem zlo {e:Er->Vst->Prop}(hc:∀u t s',e (.clash u t) s'):∀{n:Nat}{T:Tr}{s:Vst}{q:Int ×Int ×Int ×Int->Vst->Prop},TOk s.all T->(∀m,m < n->down x m T≠nil)->n<=s.n->
  (∀s',Go A n s s'->(spl x n T).1.InV s'.all->(spl x n T).2.InV s'.all->q ((spl x n T).1.root,((spl x n T).1.cnt:Int),(spl x n T).2.root,((spl x n T).2.cnt:Int)) s')->(zbI x (wayT x n T).reverse (down x n T).root ((down x n T).cnt:Int) 0 0).wp s q e
 | 0,T,s,q,tk,_,_,h=>h s (Go.refl s) tk.iv trivial
 | n+1,nil,_,_,_,nn,_,_=>Jf rfl (nn 0 (Nat.zero_lt_succ _))
 | n+1,node l k w r,s,q,tk,nn,hn,h=>by
  have hd:down x (n+1) (node l k w r)=down x n ((node l k w r).kid x):=rfl;rw[hd];show(zbI x (ndT l k w r::wayT x n ((node l k w r).kid x)).reverse _ _ 0 0).wp s q e;rw[NA,zd3,Pg.wp_bind];have sc:=zeV (x:=x) (n:=n) (T:=(node l k w r).kid x) (λm hm=>nn (m+1) (Jw hm));refine zlo (A:=A) hc (n:=n) (T:=(node l k w r).kid x) tk.kid (λm hm=>nn (m+1) (Jw hm)) (by lia) λs1 g1 i1 i2=>?_;have tk1:=tk.go g1;have gn:=g1.n;have cn:=zt l k w r;have ct:=tk.ct;have hlen:(l.ps++(k,w)::r.ps).length=(node l k w r).cnt:=rfl;have hnew:spl x (n+1) (node l k w r)=if zb k x=true then(node l k w (spl x n ((node l k w r).kid x)).1,(spl x n ((node l k w r).kid x)).2) else((spl x n ((node l k w r).kid x)).1,node (spl x n ((node l k w r).kid x)).2 k w r):=by
   show(if zb k x=true then(node l k w (spl x n r).1,(spl x n r).2) else((spl x n l).1,node (spl x n l).2 k w r))=_;by_cases c:zb k x=true
   ·have e1:(node l k w r).kid x=r:=if_pos c;rw[e1,if_pos c,if_pos c]
   ·have e1:(node l k w r).kid x=l:=if_neg c;rw[e1,if_neg c,if_neg c]
  rw[hnew] at h;generalize(spl x n ((node l k w r).kid x)).1=L at sc i1 h ⊢;generalize(spl x n ((node l k w r).kid x)).2=R at sc i2 h ⊢;show(if zb k x=true then Pg.lay (zL (ndT l k w r) 3 L.root ((ndT l k w r).c - (R.cnt:Int))).th (Pg.ret (_,_,R.root,(R.cnt:Int))) else Pg.lay (zL (ndT l k w r) 2 R.root ((ndT l k w r).c - (L.cnt:Int))).th (Pg.ret (L.root,(L.cnt:Int),_,_))).wp s1 q e;by_cases c:zb k x=true
  ·rw[if_pos c] at h ⊢;have e1:(node l k w r).kid x=r:=if_pos c;rw[e1] at sc;have cn2:=zt l k w L;have hl2:(l.ps++(k,w)::L.ps).length=(node l k w L).cnt:=rfl;have ec:(ndT l k w r).c - (R.cnt:Int)=((node l k w L).cnt:Int):=by show(((l.ps++(k,w)::r.ps).length:Nat):Int) - _=_;lia
   rw[ec];have et:(zL (ndT l k w r) 3 L.root ((node l k w L).cnt:Int)).th=(node l k w L).thing:=rfl;rw[et];refine zbk (A:=A) (by lia) (za2 tk.kw.1 tk.kw.2 (by lia)).2 hc λs2 g2 e2=>?_;exact h s2 (g1.trans g2) ⟨e2,(tk1.go g2).l.iv,InV.mono g2.al i1⟩ (InV.mono g2.al i2)
  ·rw[if_neg c] at h ⊢;have e1:(node l k w r).kid x=l:=if_neg c;rw[e1] at sc;have cn2:=zt R k w r;have hl2:(R.ps++(k,w)::r.ps).length=(node R k w r).cnt:=rfl;have ec:(ndT l k w r).c - (L.cnt:Int)=((node R k w r).cnt:Int):=by show(((l.ps++(k,w)::r.ps).length:Nat):Int) - _=_;lia
   rw[ec];have et:(zL (ndT l k w r) 2 R.root ((node R k w r).cnt:Int)).th=(node R k w r).thing:=rfl;rw[et];refine zbk (A:=A) (by lia) (za2 tk.kw.1 tk.kw.2 (by lia)).2 hc λs2 g2 e2=>?_;exact h s2 (g1.trans g2) (InV.mono g2.al i1) ⟨e2,InV.mono g2.al i2,(tk1.go g2).r.iv⟩
theorem zd1:∀{n:Nat}{T l r:Tr}{k w:Th},down x n T=node l k w r->(∀m,m < n->down x m T≠nil)->wayT x (n+1) T=wayT x n T++ [ndT l k w r]
 | 0,node l' k' w' r',l,r,k,w,e,_=>by cases e;rfl
 | 0,nil,_,_,_,_,e,_=>by cases e
 | n+1,nil,_,_,_,_,_,h=>Jf rfl (h 0 (Nat.zero_lt_succ _))
 | n+1,node l' k' w' r',l,r,k,w,e,h=>congrArg (ndT l' k' w' r':: ·) (zd1 (n:=n) (T:=(node l' k' w' r').kid x) e λm hm=>h (m+1) (Jw hm))
theorem zdI {x:Th}:∀{T:Tr},own x T=nil->∀nd∈wayN x T,nd.k≠x
 | nil,_,nd,h=>by cases h
 | node l k w r,h,nd,hn=>by
  unfold own at h;by_cases e:k=x
  ·rw[if_pos e] at h;cases h
  ·rw[if_neg e] at h;have hn':nd∈ndT l k w r::(if k=x then[] else if zb k x=true then wayN x r else wayN x l):=hn;rw[if_neg e] at hn';rcases JD.mp hn' with rfl | hn'
   ·exact e
   ·by_cases c:zb k x=true
    ·rw[if_pos c] at h hn';exact zdI h nd hn'
    ·rw[if_neg c] at h hn';exact zdI h nd hn'
theorem zef:∀{T:Tr},own x T=nil->zav x (wayN x T)=plc x T
 | nil,_=>rfl
 | node l k w r,h=>by
  unfold own at h;by_cases e:k=x
  ·rw[if_pos e] at h;cases h
  ·rw[if_neg e] at h;show(if z9 x k=true then 0 else zav x (if k=x then[] else if zb k x=true then wayN x r else wayN x l)+1)=(if z9 x k=true then 0 else(if zb k x=true then r.plc x else l.plc x)+1);rw[if_neg e];by_cases c:zb k x=true
   ·rw[if_pos c] at h;rw[if_pos c,if_pos c,zef h]
   ·rw[if_neg c] at h;rw[if_neg c,if_neg c,zef h]
theorem znt:∀{n i:Nat}{T:Tr},i<=n->(∀m,m < n->down x m T≠nil)->down x n T=nil->zdp (wayT x n T) i=((down x i T).cnt:Int)
 | 0,0,T,_,_,e=>by have e':T=nil:=e;subst e';rfl
 | 0,i+1,_,h,_,_=>Jf h (Nat.not_succ_le_zero i)
 | n+1,_,nil,_,h,_=>Jf rfl (h 0 (Nat.zero_lt_succ _))
 | n+1,0,node l k w r,_,_,_=>rfl
 | n+1,i+1,node l k w r,hi,h,e=>znt (n:=n) (i:=i) (T:=(node l k w r).kid x) (Nat.le_of_succ_le_succ hi) (λm hm=>h (m+1) (Jw hm)) e
def zj8 {A:Th->Prop}{x:Th}{e:Er->Vst->Prop}(hc:∀u t s',e (.clash u t) s'){T:Tr}{s:Vst}{q:Int->Vst->Prop}(tk:TOk s.all T)(c9:T.cnt<=299)(kx:KeyT x)(kw:KeyT wo)(hn:1000<=s.n)(hA:∀nd∈wayN x T,A nd.th)(h:∀s',Go A 1000 s s'->(putT x wo T).InV s'.all->q (putT x wo T).root s'):(putP T.root x wo).wp s q e:=by
 unfold putP;rw[Pg.wp_bind];refine zfR (A:=A) tk (by lia) (by lia) (by lia) hA λs1 g1 _=>?_;have tk1:=tk.go g1;have gn:=g1.n;have hwl:=zkZ (x:=x) T;cases z:own x T with
 | node l k w r=>
  obtain⟨rfl,n,ewl,up,ed⟩:=zbH z;have ew:wayN k T=wayT k n T++ [ndT l k w r]:=by rw[zbF,ewl,zd1 ed (up_down up)]
  have ek:zds k wo (wayN k T)=putO k wo (wayN k T) (ndT l k w r):=by unfold zds;rw[ew,Nb];exact if_pos rfl
  rw[ek];unfold putO;rw[ew,List.dropLast_concat];have hlen:(l.ps++(k,w)::r.ps).length=(l.ps++(k,wo)::r.ps).length:=by simp
  have et:(Nd.mk k wo (ndT l k w r).l (ndT l k w r).r (ndT l k w r).c).th=(node l k wo r).thing:=by show zaF k wo l.root r.root (((l.ps++(k,w)::r.ps).length:Nat):Int)=zaF k wo l.root r.root (((l.ps++(k,wo)::r.ps).length:Nat):Int);rw[hlen]
  rw[et];have hcn:(node l k wo r).cnt=(node l k w r).cnt:=by rw[zt,zt]
  have hdc:(node l k w r).cnt<=T.cnt:=by rw[<-ed];exact zcE
  have td:=tk1.down (x:=k) (n:=n);rw[ed] at td;refine zbk (A:=A) (by lia) (za2 kx kw (by lia)).2 hc λs2 g2 e2=>?_;have gn2:=g2.n;have ep:putT k wo T=plug k n T (node l k wo r):=by unfold putT;rw[z,ewl,Nat.add_sub_cancel]
  rw[ep] at h;exact zeP (A:=A) hc (S:=node l k wo r) (tk1.go g2) ⟨e2,(td.go g2).l.iv,(td.go g2).r.iv⟩ (up_down up) (by rw[ed,hcn];lia) (by rw[ed,hcn];lia) (by lia) λs3 g3 i3=>h s3 ((g1.trans (g2.trans g3)).mono (by lia)) i3
 | nil=>
  obtain⟨up,dn⟩:=zdJ z;have hpl:=zhe z;have ek:zds x wo (wayN x T)=putN x wo (wayN x T):=by
   unfold zds;cases y:(wayN x T).getLast? with
   | none=>rfl
   | some nd=>exact if_neg (zdI z nd (List.mem_of_getLast? y))
  rw[ek];unfold putN;rw[zef z,zfN];generalize hp:plc x T=pl at hpl;have hdn:down x (wl x T - pl) (down x pl T)=nil:=by rw[<-zfh,show pl+(wl x T - pl)=wl x T by lia];exact dn
  have hnn:∀m,m < wl x T - pl->down x m (down x pl T)≠nil:=λm hm=>by rw[<-zfh];exact up_down up _ (by lia)
  have ecn:zdp (wayN x T) pl=((down x pl T).cnt:Int):=by rw[zbF];exact znt hpl (up_down up) dn
  rw[ecn,zbF,zgI hpl,zgu hpl,Pg.wp_bind,Pg.wp_bind];have hdc:(down x pl T).cnt<=T.cnt:=zcE;have hsc:=zeV hnn;have key:=zlo (A:=A) (x:=x) (e:=e) hc (n:=wl x T - pl) (T:=down x pl T) (s:=s1) (q:=λy s'=>(Pg.ret (y.1,y.2.2.1)).wp s' (λlr s'=>(Pg.lay (Nd.mk x wo lr.1 lr.2 (((down x pl T).cnt:Int)+1)).th (zaX x 1 (wayT x pl T).reverse (zh (Nd.mk x wo lr.1 lr.2 (((down x pl T).cnt:Int)+1)).th))).wp s' q e) e) tk1.down hnn (by lia);rw[hdn] at key;refine key λs2 g2 i1 i2=>?_;clear key;have gn2:=g2.n;have hpq:putT x wo T=plug x pl T (node (spl x (wl x T - pl) (down x pl T)).1 x wo (spl x (wl x T - pl) (down x pl T)).2):=by unfold putT;rw[z,hp]
  rw[hpq] at h;generalize(spl x (wl x T - pl) (down x pl T)).1=L at i1 hsc h ⊢;generalize(spl x (wl x T - pl) (down x pl T)).2=R at i2 hsc h ⊢;have hcn:=zt L x wo R;have et:(Nd.mk x wo L.root R.root (((down x pl T).cnt:Int)+1)).th=(node L x wo R).thing:=by show zaF x wo L.root R.root (((down x pl T).cnt:Int)+1)=zaF x wo L.root R.root (((L.ps++(x,wo)::R.ps).length:Nat):Int);have:(L.ps++(x,wo)::R.ps).length=(node L x wo R).cnt:=rfl;rw[show((down x pl T).cnt:Int)+1=(((L.ps++(x,wo)::R.ps).length:Nat):Int) by lia]
  show(Pg.lay (Nd.mk x wo L.root R.root (((down x pl T).cnt:Int)+1)).th (zaX x 1 (wayT x pl T).reverse (zh (Nd.mk x wo L.root R.root (((down x pl T).cnt:Int)+1)).th))).wp s2 q e;rw[et];refine zbk (A:=A) (by lia) (za2 kx kw (by lia)).2 hc λs3 g3 e3=>?_;have gn3:=g3.n;exact zeP (A:=A) hc (S:=node L x wo R) ((tk1.go g2).go g3) ⟨e3,InV.mono g3.al i1,InV.mono g3.al i2⟩ (up_down (zhr up hpl)) (by lia) (by lia) (by lia) λs4 g4 i4=>h s4 ((g1.trans (g2.trans (g3.trans g4))).mono (by lia)) i4
def zgx:Tr->List Nd
 | nil=>[]
 | node l k w r=>ndT l k w r::zgx r
def zgt:Tr->List Nd
 | nil=>[]
 | node l k w r=>ndT l k w r::zgt l
theorem zhS:∀{a b:List Js}{n:Int},upP (a++b) n=(upP a n).bind (upP b)
 | [],_,_=>rfl
 | j::a,b,n=>by show Pg.lay _ (upP (a++b) _)=Pg.lay _ ((upP a _).bind _);rw[zhS]
def zfY (L R:Tr):(joinT L R).cnt=L.cnt+R.cnt:=by unfold Tr.cnt;rw[zeT,JI]
theorem zhf {A:Th->Prop}{e:Er->Vst->Prop}(hc:∀u t s',e (.clash u t) s'):∀{f:Nat}{L R:Tr}{lc rc:Int}{s:Vst}{q:Int->Vst->Prop},TOk s.all L->TOk s.all R->(L.cnt:Int) < lc->(R.cnt:Int) < rc->L.cnt+R.cnt<=300->L.cnt+R.cnt < f->3 * (L.cnt+R.cnt)<=s.n->(∀nd∈zgx L,A nd.th)->(∀nd∈zgt R,A nd.th)->
  (∀s',Go A (3 * (L.cnt+R.cnt)) s s'->(joinT L R).InV s'.all->q (joinT L R).root s')->(joinR f L.root lc R.root rc).wp s (λy s'=>(upP y.1.reverse y.2).wp s' q e) e:=by
 intro f;induction f with
 | zero=>intro L R lc rc s q _ _ _ _ _ h;exact absurd h (Nat.not_lt_zero _)
 | succ f ih=>
 intro L R lc rc s q tl tr hl hr h3 hf hn hA hB h;cases L with
 | nil=>
  unfold joinR;rw[if_pos (show(Tr.nil).root=0 from rfl)];have ej:joinT nil R=R:=by rw[joinT]
  rw[ej] at h;exact h s ((Go.refl s).mono (JM _)) tr.iv
 | node l k w r=>cases R with
  | nil=>
   unfold joinR;rw[if_neg (λz=>by cases zaJ.mp z),if_pos (show(Tr.nil).root=0 from rfl)];rw[zmm] at h;exact h s ((Go.refl s).mono (JM _)) tl.iv
  | node l' k' w' r'=>
   have c1:=zt l k w r;have c2:=zt l' k' w' r';unfold joinR;rw[if_neg (λz=>by cases zaJ.mp z),if_neg (λz=>by cases zaJ.mp z),Pg.wp_bind];refine zcU (A:=A) tl hl (by lia) (hA _ JL) λs1 g1 _=>?_;have n1:=g1.n;rw[Pg.wp_bind];refine zcU (A:=A) (tr.go g1) hr (by lia) (hB _ JL) λs2 g2 _=>?_;have n2:=g2.n;have g12:=g1.trans g2;have tl2:=tl.go g12;have tr2:=tr.go g12;have hb:(ndT l k w r).c+(ndT l' k' w' r').c=(((node l k w r).cnt+(node l' k' w' r').cnt:Nat):Int):=by show(((l.ps++(k,w)::r.ps).length:Nat):Int)+(((l'.ps++(k',w')::r'.ps).length:Nat):Int)=_;have:(l.ps++(k,w)::r.ps).length=(node l k w r).cnt:=rfl;have:(l'.ps++(k',w')::r'.ps).length=(node l' k' w' r').cnt:=rfl;lia
   by_cases c:z9 k k'=true
   ·rw[if_pos (show z9 (ndT l k w r).k (ndT l' k' w' r').k=true from c),Pg.wp_bind];have ej:joinT (node l k w r) (node l' k' w' r')=node l k w (joinT r (node l' k' w' r')):=by rw[joinT,if_pos c]
    rw[ej] at h;have jc:=zfY r (node l' k' w' r');have cn:=zt l k w (joinT r (node l' k' w' r'));have key:=ih (L:=r) (R:=node l' k' w' r') (lc:=(ndT l k w r).c) (rc:=rc) (s:=s2) (q:=λn s'=>(upP [⟨ndT l k w r,3,(ndT l k w r).c+(ndT l' k' w' r').c⟩] n).wp s' q e) tl2.r tr2
     (by show(r.cnt:Int) < (((l.ps++(k,w)::r.ps).length:Nat):Int);have:(l.ps++(k,w)::r.ps).length=(node l k w r).cnt:=rfl;lia) hr (by lia) (by lia) (by lia) (λnd hd=>hA nd (Ji _ hd)) hB
    refine Pg.wp_mono (λy s' z=>?_) (λ_ _ z=>z) (key λs3 g3 i3=>?_)
    ·show(upP (_::y.1).reverse y.2).wp s' q e;rw[NA,zhS,Pg.wp_bind];exact z
    ·have n3:=g3.n;show(Pg.lay (zL (ndT l k w r) 3 (joinT r (node l' k' w' r')).root ((ndT l k w r).c+(ndT l' k' w' r').c)).th (Pg.ret _)).wp s3 q e;have et:(zL (ndT l k w r) 3 (joinT r (node l' k' w' r')).root ((ndT l k w r).c+(ndT l' k' w' r').c)).th=(node l k w (joinT r (node l' k' w' r'))).thing:=by
      rw[hb];show zaF k w l.root _ (((node l k w r).cnt+(node l' k' w' r').cnt:Nat):Int)=zaF k w l.root _ (((l.ps++(k,w)::(joinT r (node l' k' w' r')).ps).length:Nat):Int);have:(l.ps++(k,w)::(joinT r (node l' k' w' r')).ps).length=(node l k w (joinT r (node l' k' w' r'))).cnt:=rfl;rw[show(node l k w r).cnt+(node l' k' w' r').cnt=(l.ps++(k,w)::(joinT r (node l' k' w' r')).ps).length by lia]
      rfl
     rw[et];refine zbk (A:=A) (by lia) (za2 tl.kw.1 tl.kw.2 (by lia)).2 hc λs4 g4 e4=>?_;exact h s4 ((g12.trans (g3.trans g4)).mono (by lia)) ⟨e4,((tl2.go g3).go g4).l.iv,InV.mono g4.al i3⟩
   ·rw[if_neg (show¬z9 (ndT l k w r).k (ndT l' k' w' r').k=true from c),Pg.wp_bind];have ej:joinT (node l k w r) (node l' k' w' r')=node (joinT (node l k w r) l') k' w' r':=by rw[joinT,if_neg c]
    rw[ej] at h;have jc:=zfY (node l k w r) l';have cn:=zt (joinT (node l k w r) l') k' w' r';have key:=ih (L:=node l k w r) (R:=l') (lc:=lc) (rc:=(ndT l' k' w' r').c) (s:=s2) (q:=λn s'=>(upP [⟨ndT l' k' w' r',2,(ndT l k w r).c+(ndT l' k' w' r').c⟩] n).wp s' q e) tl2 tr2.l hl
     (by show(l'.cnt:Int) < (((l'.ps++(k',w')::r'.ps).length:Nat):Int);have:(l'.ps++(k',w')::r'.ps).length=(node l' k' w' r').cnt:=rfl;lia) (by lia) (by lia) (by lia) hA (λnd hd=>hB nd (Ji _ hd))
    refine Pg.wp_mono (λy s' z=>?_) (λ_ _ z=>z) (key λs3 g3 i3=>?_)
    ·show(upP (_::y.1).reverse y.2).wp s' q e;rw[NA,zhS,Pg.wp_bind];exact z
    ·have n3:=g3.n;show(Pg.lay (zL (ndT l' k' w' r') 2 (joinT (node l k w r) l').root ((ndT l k w r).c+(ndT l' k' w' r').c)).th (Pg.ret _)).wp s3 q e;have et:(zL (ndT l' k' w' r') 2 (joinT (node l k w r) l').root ((ndT l k w r).c+(ndT l' k' w' r').c)).th=(node (joinT (node l k w r) l') k' w' r').thing:=by
      rw[hb];show zaF k' w' _ r'.root (((node l k w r).cnt+(node l' k' w' r').cnt:Nat):Int)=zaF k' w' _ r'.root ((((joinT (node l k w r) l').ps++(k',w')::r'.ps).length:Nat):Int);have:((joinT (node l k w r) l').ps++(k',w')::r'.ps).length=(node (joinT (node l k w r) l') k' w' r').cnt:=rfl;rw[show(node l k w r).cnt+(node l' k' w' r').cnt=((joinT (node l k w r) l').ps++(k',w')::r'.ps).length by lia]
      rfl
     rw[et];refine zbk (A:=A) (by lia) (za2 tr.kw.1 tr.kw.2 (by lia)).2 hc λs4 g4 e4=>?_;exact h s4 ((g12.trans (g3.trans g4)).mono (by lia)) ⟨e4,InV.mono g4.al i3,((tr2.go g3).go g4).r.iv⟩
def gapN (x:Th)(T:Tr):List Nd:=match own x T with
 | nil=>[]
 | node l _ _ r=>zgx l++zgt r
def zna {A:Th->Prop}{x:Th}{e:Er->Vst->Prop}(hc:∀u t s',e (.clash u t) s'){T:Tr}{s:Vst}{q:Int->Vst->Prop}(tk:TOk s.all T)(hn:3000<=s.n)(hA:∀nd∈wayN x T,A nd.th)(hB:∀nd∈gapN x T,A nd.th)(h:∀s',Go A 3000 s s'->(cutT x T).InV s'.all->q (cutT x T).root s'):(cutP T.root x).wp s q e:=by
 have ct:=tk.ct;unfold cutP;rw[Pg.wp_bind];refine zfR (A:=A) tk (by lia) (by lia) (by lia) hA λs1 g1 _=>?_;have tk1:=tk.go g1;have gn:=g1.n;have hwl:=zkZ (x:=x) T;unfold gapN at hB;unfold cutK;cases z:own x T with
 | node l k w r=>
  rw[z] at hB;obtain⟨rfl,n,ewl,up,ed⟩:=zbH z;have ew:wayN k T=wayT k n T++ [ndT l k w r]:=by rw[zbF,ewl,zd1 ed (up_down up)]
  rw[ew,Nb];have ep:cutT k T=plug k n T (joinT l r):=by unfold cutT;rw[z,ewl,Nat.add_sub_cancel]
  rw[ep] at h;have hdc:(node l k w r).cnt<=T.cnt:=by rw[<-ed];exact zcE
  have td:=tk1.down (x:=k) (n:=n);rw[ed] at td;have cn:=zt l k w r;have jc:=zfY l r;have hlen:(l.ps++(k,w)::r.ps).length=(node l k w r).cnt:=rfl;show(if (ndT l k w r).k=k then _ else _:Pg Int).wp s1 q e;rw[if_pos (show(ndT l k w r).k=k from rfl),Pg.wp_bind];unfold ziv;rw[Pg.wp_bind,List.dropLast_concat];have dc:((ndT l k w r).c)=((node l k w r).cnt:Int):=rfl;rw[dc];refine zhf (A:=A) hc (L:=l) (R:=r) td.l td.r (by lia) (by lia) (by lia) (by lia) (by lia) (λnd hd=>hB nd (Jp _ hd)) (λnd hd=>hB nd (Jh _ hd)) λs2 g2 i2=>?_;have gn2:=g2.n;exact zeP (A:=A) hc (S:=joinT l r) (tk1.go g2) i2 (up_down up) (by rw[ed];lia) (by rw[ed];lia) (by lia) λs3 g3 i3=>h s3 ((g1.trans (g2.trans g3)).mono (by lia)) i3
 | nil=>
  have ep:cutT x T=T:=by unfold cutT;rw[z]
  rw[ep] at h;cases y:(wayN x T).getLast? with
  | none=>exact h s1 (g1.mono (by lia)) tk1.iv
  | some nd=>show(if nd.k=x then _ else _:Pg Int).wp s1 q e;rw[if_neg (zdI z nd (List.mem_of_getLast? y))];exact h s1 (g1.mono (by lia)) tk1.iv
def topN:Tr->List Nd
 | nil=>[]
 | node l k w r=>[ndT l k w r]
def zcg {A:Th->Prop}{e:Er->Vst->Prop}{T:Tr}{m:Int}{s:Vst}{q:Int->Vst->Prop}(tk:TOk s.all T)(hm:(T.cnt:Int) < m)(h0:0 < s.n)(hA:∀nd∈topN T,A nd.th)(h:∀s',Go A 1 s s'->q (T.cnt:Int) s'):(zbl T.root m).wp s q e:=by
 unfold zbl;cases T with
 | nil=>rw[if_pos (show(Tr.nil).root=0 from rfl)];exact h s ((Go.refl s).mono (JM _))
 | node l k w r=>rw[if_neg (λz=>by cases zaJ.mp z),Pg.wp_bind];exact zcU (A:=A) tk hm h0 (hA _ JL) λs1 g1 _=>h s1 g1
def cntN (x:Th):Tr->List Nd
 | nil=>[]
 | node l k _ r=>if zb x k=true then cntN x l else topN l++(if k=x then[] else cntN x r)
theorem zhF {A:Th->Prop}{x:Th}{e:Er->Vst->Prop}:∀{T:Tr}{m:Int}{s:Vst}{q:Int->Vst->Prop},TOk s.all T->T.cnt<=s.n->(∀nd∈cntN x T,A nd.th)->(∀s',Go A T.cnt s s'->q (m+(ca x T:Int)) s')->(cntL x (wayN x T) m).wp s q e
 | nil,m,s,q,_,_,_,h=>by have h':=h s (Go.refl s);have:m+((ca x nil:Nat):Int)=m:=Int.add_zero m;rw[this] at h';exact h'
 | node l k w r,m,s,q,tk,hn,hA,h=>by
  have cn:=zt l k w r;have hA':∀nd∈(if zb x k=true then cntN x l else topN l++(if k=x then[] else cntN x r)),A nd.th:=hA;have ec:ca x (node l k w r)=if k=x then l.cnt else if zb k x=true then l.cnt+1+r.ca x else l.ca x:=rfl
  show(if zb x k=true then cntL x (if k=x then[] else if zb k x=true then wayN x r else wayN x l) m else(zbl l.root (((l.ps++(k,w)::r.ps).length:Nat):Int)).bind λc=>cntL x (if k=x then[] else if zb k x=true then wayN x r else wayN x l) (m+c+(if k=x then 0 else 1))).wp s q e;by_cases c:zb x k=true
  ·have ne:k≠x:=λz=>by rw[z,zB] at c;cases c
   have c':¬zb k x=true:=λz=>by rw[zG c] at z;cases z
   rw[if_pos c] at hA' ⊢;rw[if_neg ne,if_neg c'] at ec ⊢;refine zhF tk.l (by lia) hA' λs1 g1=>?_;have:=h s1 (g1.mono (by lia));rw[ec] at this;exact this
  ·rw[if_neg c] at hA' ⊢;rw[Pg.wp_bind];refine zcg (A:=A) tk.l (by have:(l.ps++(k,w)::r.ps).length=(node l k w r).cnt:=rfl;lia) (by lia) (λnd hd=>hA' nd (Jp _ hd)) λs1 g1=>?_;have n1:=g1.n;by_cases ne:k=x
   ·rw[if_pos ne] at ec;rw[if_pos ne,if_pos ne,Int.add_zero];have:=h s1 (g1.mono (by lia));rw[ec] at this;exact this
   ·have c':zb k x=true:=zcj (by cases z:zb x k with | true=>exact Jf z c | false=>rfl) (λz=>ne z.symm);rw[if_neg ne,if_pos c'] at ec;rw[if_neg ne] at hA';rw[if_neg ne,if_neg ne,if_pos c'];refine zhF (tk.go g1).r (by lia) (λnd hd=>hA' nd (Jh _ hd)) λs2 g2=>?_;have:=h s2 ((g1.trans g2).mono (by lia));rw[ec] at this;rw[show m+(l.cnt:Int)+1+((ca x r:Nat):Int)=m+((l.cnt+1+ca x r:Nat):Int) by lia];exact this
def zn6 {A:Th->Prop}{x:Th}{e:Er->Vst->Prop}{T:Tr}{s:Vst}{q:Int->Vst->Prop}(tk:TOk s.all T)(hn:1000<=s.n)(hA:∀nd∈wayN x T,A nd.th)(hB:∀nd∈cntN x T,A nd.th)(h:∀s',Go A 1000 s s'->q (ca x T:Int) s'):(cntP T.root x).wp s q e:=by have ct:=tk.ct;unfold cntP;rw[Pg.wp_bind];refine zfR (A:=A) tk (by lia) (by lia) (by lia) hA λs1 g1 _=>?_;have n1:=g1.n;refine zhF (A:=A) (tk.go g1) (by lia) hB λs2 g2=>?_;have:=h s2 ((g1.trans g2).mono (by lia));rw[Int.zero_add];exact this
def nthV:Tr->Int->Th
 | nil,_=>.non
 | node l k w r,i=>if ((node l k w r).cnt:Int)<=i then .non else if i=(l.cnt:Int) then zaB (k,w) else if i < (l.cnt:Int) then nthV l i else nthV r (i - (l.cnt:Int) - 1)
def nthN:Tr->Int->List Nd
 | nil,_=>[]
 | node l k w r,i=>ndT l k w r::(if ((node l k w r).cnt:Int)<=i then[] else topN l++(if i=(l.cnt:Int) then[] else if i < (l.cnt:Int) then nthN l i else nthN r (i - (l.cnt:Int) - 1)))
theorem zhc {A:Th->Prop}{e:Er->Vst->Prop}:∀{T:Tr}{f:Nat}{m i:Int}{s:Vst}{q:Th->Vst->Prop},TOk s.all T->T.cnt < f->(T.cnt:Int) < m->2 * T.cnt<=s.n->(∀nd∈nthN T i,A nd.th)->(∀s',Go A (2 * T.cnt) s s'->q (nthV T i) s')->(nthL f T.root m i).wp s q e:=by
 intro T f;induction f generalizing T with
 | zero=>intro m i s q _ h;exact absurd h (Nat.not_lt_zero _)
 | succ f ih=>
 intro m i s q tk hf hm hn hA h;cases T with
 | nil=>unfold nthL;rw[if_pos (show(Tr.nil).root=0 from rfl)];exact h s (Go.refl s)
 | node l k w r=>
  have cn:=zt l k w r;have hlen:(l.ps++(k,w)::r.ps).length=(node l k w r).cnt:=rfl;unfold nthL;unfold nthN at hA;unfold nthV at h;rw[if_neg (λz=>by cases zaJ.mp z),Pg.wp_bind];refine zcU (A:=A) tk hm (by lia) (hA _ JL) λs1 g1 _=>?_;have n1:=g1.n;by_cases c:((node l k w r).cnt:Int)<=i
  ·rw[if_pos c] at h;rw[if_pos (show(ndT l k w r).c<=i from c)];exact h s1 (g1.mono (by lia))
  rw[if_neg c] at h hA;rw[if_neg (show¬(ndT l k w r).c<=i from c),Pg.wp_bind];refine zcg (A:=A) (tk.go g1).l (by show(l.cnt:Int) < (((l.ps++(k,w)::r.ps).length:Nat):Int);lia) (by lia) (λnd hd=>hA nd (Ji _ (Jp _ hd))) λs2 g2=>?_;have n2:=g2.n;have g12:=g1.trans g2;by_cases e1:i=(l.cnt:Int)
  ·rw[if_pos e1] at h;rw[if_pos e1];exact h s2 (g12.mono (by lia))
  rw[if_neg e1] at h hA;rw[if_neg e1];by_cases e2:i < (l.cnt:Int)
  ·rw[if_pos e2] at h hA;rw[if_pos e2];exact ih (T:=l) (tk.go g12).l (by lia) (by show(l.cnt:Int) < (((l.ps++(k,w)::r.ps).length:Nat):Int);lia) (by lia) (λnd hd=>hA nd (Ji _ (Jh _ hd))) λs3 g3=>h s3 ((g12.trans g3).mono (by lia))
  ·rw[if_neg e2] at h hA;rw[if_neg e2];exact ih (T:=r) (tk.go g12).r (by lia) (by show(r.cnt:Int) < (((l.ps++(k,w)::r.ps).length:Nat):Int);lia) (by lia) (λnd hd=>hA nd (Ji _ (Jh _ hd))) λs3 g3=>h s3 ((g12.trans g3).mono (by lia))
end Pv
namespace Pv
open PySem L2
abbrev zfO:Stmt:=top 64
abbrev zeG:Stmt:=top 65
abbrev zcF:Stmt:=top 66
abbrev zfB:Stmt:=top 67
def inB (lo hi:Th)(nd:Nd):Bool:=zbd hi nd.k && (decide (lo=.non) || !zb nd.k lo)
def strL (lo hi:Th):Nat->Int->Int->List Nd->List (Th ×Th)->Pg (List (Th ×Th))
 | 0,_,_,_,_=>.bad
 | f+1,n,c,st,ps=>if n=0 then(match st with
   | []=>.ret ps
   | nd::st'=>strL lo hi f (if zbd hi nd.k=true then nd.r else 0) nd.c st' (if inB lo hi nd=true then ps++ [(nd.k,nd.w)] else ps))
  else(benP n c).bind λnd=>(if (zbc lo nd.k && zbd hi nd.k)=true then sumP nd else .ret ()).bind λ_=>strL lo hi f (if zbc lo nd.k=true then nd.l else 0) nd.c (nd::st) ps
def strP (n:Int)(lo hi:Th):Pg (List (Th ×Th)):=if zcf lo hi=true then .ret [] else strL lo hi 700 n 301 [] []
def znl (H:Hp)(ps:QH)(v:V):Prop:=∃pp xs,v=.ref pp/\H pp=some (.lst xs)/\RepL H (ps.map zaB) xs/\ps.length<=700
def zco (H0 H:Hp)(ps:QH)(v:V):Prop:=znl H ps v/\∀pp,v=.ref pp->H0 pp=none
def cntA (al:QF)(n:Int):Nat:=if n=0 then 0 else match zg al n with
 | none=>0
 | some t=>match ndOf t with
  | none=>0
  | some nd=>nd.c.toNat
def wgt (al:QF)(n c:Int):Nat:=2 * min (cntA al n) (c.toNat - 1)
def stkW (al:QF)(hi:Th):List Nd->Nat
 | []=>0
 | nd::st=>1+(if zbd hi nd.k=true then wgt al nd.r nd.c else 0)+stkW al hi st
def zms {s s':Vst}{n:Int}{t:Th}(h:s.look n=some (t,s')):zg s.all n=some t/\s'.own=s.own/\s'.kp=s.kp:=by
 cases z:zg s.own n with
 | some u=>rw[Vst.look_own z] at h;cases h;exact⟨Vst.all_own z,rfl,rfl⟩
 | none=>
  cases y:zg s.kp n with
  | some u=>rw[Vst.look_kp z y] at h;cases h;exact⟨by rw[Vst.all_kp z];exact y,rfl,rfl⟩
  | none=>rw[Vst.look_no z y] at h;cases h
def zpK {n:Int}{nd:Nd}{t:Th}(h0:n≠0)(h:zg al n=some t)(e:ndOf t=some nd):cntA al n=nd.c.toNat:=by unfold cntA;rw[if_neg h0,h];show(match ndOf t with | none=>0 | some nd=>nd.c.toNat)=_;rw[e]
def zi7 {n:Int}{s:Vst}{q:Nd->Vst->Prop}{e:Er->Vst->Prop}(h0:n≠0)(h:(benP n m).wp s q e):(benP n m).wp s (λnd s'=>(cntA s.all n=nd.c.toNat/\1<=nd.c/\nd.c < m)/\(s'.own=s.own/\s'.kp=s.kp)/\q nd s') e:=by
 refine⟨h.1,λt s' z=>?_,h.2.2⟩;have h1:=h.2.1 t s' z;obtain⟨a,b⟩:=zms z;cases y:ndOf t with
 | none=>rw[zee y] at h1 ⊢;exact h1
 | some nd=>
  rw[zcJ y] at h1 ⊢;obtain⟨rfl,zz⟩:=zen y;by_cases hc:nd.c < m
  ·rw[if_pos hc] at h1 ⊢;exact⟨⟨zpK h0 a y,(znO zz).c1,hc⟩,b,h1⟩
  ·rw[if_neg hc] at h1 ⊢;exact h1
def zgj {s:Vst}{q:Int->Vst->Prop}{e:Er->Vst->Prop}(h:(zbl n m).wp s q e):(zbl n m).wp s (λx s'=>x=(cntA s.all n:Int)/\(s'.own=s.own/\s'.kp=s.kp)/\q x s') e:=by
 unfold zbl at h ⊢;by_cases h0:n=0
 ·rw[if_pos h0] at h ⊢;have e0:cntA s.all n=0:=by unfold cntA;rw[if_pos h0]
  exact⟨by rw[e0];rfl,⟨rfl,rfl⟩,h⟩
 ·rw[if_neg h0,Pg.wp_bind] at h ⊢;refine Pg.wp_mono (λnd s' z=>?_) (λ_ _ z=>z) (zi7 h0 h);obtain⟨⟨z1,z2,_⟩,z4,z5⟩:=z;exact⟨by lia,z4,z5⟩
def zns {s:Vst}{q:Unit->Vst->Prop}{e:Er->Vst->Prop}(h:(sumP nd).wp s q e):(sumP nd).wp s (λu s'=>(cntA s.all nd.l:Int)+(cntA s.all nd.r:Int)+1=nd.c/\(s'.own=s.own/\s'.kp=s.kp)/\q u s') e:=by
 unfold sumP at h ⊢;rw[Pg.wp_bind] at h ⊢;refine Pg.wp_mono (λx s1 z=>?_) (λ_ _ z=>z) (zgj h);obtain⟨e1,⟨o1,k1⟩,h1⟩:=z;rw[Pg.wp_bind] at h1 ⊢;refine Pg.wp_mono (λy s2 z=>?_) (λ_ _ z=>z) (zgj h1);obtain⟨e2,⟨o2,k2⟩,h2⟩:=z;have ea:s1.all=s.all:=by unfold Vst.all;rw[o1,k1]
 rw[ea] at e2;by_cases hs:x+y+1=nd.c
 ·rw[if_pos hs] at h2 ⊢;exact⟨by lia,⟨o2.trans o1,k2.trans k1⟩,h2⟩
 ·rw[if_neg hs] at h2 ⊢;exact h2
inductive zdF (vs:QR)(H:Hp)(Q:L2.VK)(_E:XK):Prop
 | mk (v va:V)(nd:Nd)(a:Th)(_:vs=[v,va])(_:Rep H nd.th v)(_:Rep H a va)(_:dep a<=8)(_:∀H',Same H H'->Q (.bl (zbc a nd.k)) H'):zdF vs H Q _E
inductive zdw (vs:QR)(H:Hp)(Q:L2.VK)(_E:XK):Prop
 | mk (v va:V)(nd:Nd)(a:Th)(_:vs=[v,va])(_:Rep H nd.th v)(_:Rep H a va)(_:dep nd.k<=8)(_:∀H',Same H H'->Q (.bl (zbd a nd.k)) H'):zdw vs H Q _E
inductive zjQ (VR:VRT)(CN CB CC:Addr)(vs:QR)(H:Hp)(Q:L2.VK)(E:XK):Prop
 | mk (a:Addr)(D:QP)(s:Vst)(n:Int)(lo hi:Th)(vl vh:V)(_:vs=[.ref a,.int n,vl,vh])(_:VR H a D s)(_:Rep H lo vl)(_:Rep H hi vh)(_:dep lo<=8)(_:dep hi<=8)(_:Out VR CN CB CC a D (strP n lo hi) s (zco H) H Q E):zjQ VR CN CB CC vs H Q E
structure SX (D:QP)(H0 H:Hp)(pp pb:Addr)(st:List Nd)(ps:QH):Prop where
 fr:Frm D H0 H
 xs:∃xs,H pp=some (.lst xs)/\RepL H (ps.map zaB) xs
 bs:∃bs,H pb=some (.lst bs)/\RepL H (st.reverse.map Nd.th) bs
def SX.go (I:VI C VR){a:Addr}{s:Vst}(i:SX D H0 H pp pb st ps)(v:VR H a D s)(f:Frm D H H'):SX D H0 H' pp pb st ps:=by obtain⟨xs,e1,r1⟩:=i.xs;obtain⟨bs,e2,r2⟩:=i.bs;exact⟨i.fr.trans f,⟨xs,I.lst v f e1,r1.keep (I.tups v f)⟩,⟨bs,I.lst v f e2,r2.keep (I.tups v f)⟩⟩
def SX.setB {st':List Nd}(i:SX D H0 H pp pb st ps)(np:pp≠pb)(hb:H0 pb=none)(r:RepL H (st'.reverse.map Nd.th) bs'):SX D H0 (upd H pb (.lst bs')) pp pb st' ps:=by
 obtain⟨xs,e1,r1⟩:=i.xs;obtain⟨bs,e2,r2⟩:=i.bs;have tk:Tups H (upd H pb (.lst bs')):=Tups.upd λxs z=>by rw[e2] at z;cases z
 exact⟨zbP i.fr hb,⟨xs,by rw[zc np];exact e1,r1.keep tk⟩,⟨_,za,r.keep tk⟩⟩
def SX.setP {ps':QH}(i:SX D H0 H pp pb st ps)(np:pp≠pb)(hb:H0 pp=none)(r:RepL H (ps'.map zaB) xs'):SX D H0 (upd H pp (.lst xs')) pp pb st ps':=by
 obtain⟨xs,e1,r1⟩:=i.xs;obtain⟨bs,e2,r2⟩:=i.bs;have tk:Tups H (upd H pp (.lst xs')):=Tups.upd λxs z=>by rw[e1] at z;cases z
 exact⟨zbP i.fr hb,⟨_,za,r.keep tk⟩,⟨bs,by rw[zc (Ne.symm np)];exact e2,r2.keep tk⟩⟩
abbrev _root_.SN:List PySem.Str:=["node","low"]
def zlI (D:Dfn K mg "goes_left" zfO SN) (zaQ:Fn P w K mg base "ahead" 20 Sk (zaz 9)) (zax:mg "KEY" =some (.int 0 t1)):Fn P w K mg base "goes_left" 21 SN zdF:=by
 refine D.ok (k:=20) (fsN SN) (λ_ _ _ _ _ H _ Q E hr h=>?_);obtain⟨v,va,nd,a,rfl,rn,ra,hd,q⟩:=h;obtain⟨p,vk,vw,rfl,ea,rk,rw'⟩:=zr rn;refine⟨_,(by have ι:=0;ac_rfl),?_⟩;refine⟨_,rfl,rfl,_,rfl,?_⟩;rw[zaP ra];unfold zbc at q;cases z:decide (a=.non) with
 | true=>rw[z] at q;exact ifT rfl (q H (Same.refl H))
 | false=>rw[z] at q;exact ifF rfl ⟨_,rfl,_,rfl,p,_,_,_,rfl,rfl,SqT.of ea,rfl,a,nd.k,_,_,rfl,ra,rk,by lia,by lia,λH1 s1=>q H1 s1⟩
abbrev _root_.SL:List PySem.Str:=["node","high"]
def zlT (D:Dfn K mg "goes_right" zeG SL) (zaQ:Fn P w K mg base "ahead" 20 Sk (zaz 9)) (zax:mg "KEY" =some (.int 0 t1)):Fn P w K mg base "goes_right" 21 SL zdw:=by
 refine D.ok (k:=20) (fsN SL) (λ_ _ _ _ _ H _ Q E hr h=>?_);obtain⟨v,va,nd,a,rfl,rn,ra,hd,q⟩:=h;obtain⟨p,vk,vw,rfl,ea,rk,rw'⟩:=zr rn;refine⟨_,(by have ι:=0;ac_rfl),?_⟩;refine⟨_,rfl,rfl,_,rfl,?_⟩;rw[zaP ra];unfold zbd at q;cases z:decide (a=.non) with
 | true=>rw[z] at q;exact ifT rfl (q H (Same.refl H))
 | false=>rw[z] at q;exact ifF rfl ⟨_,rfl,p,_,_,_,rfl,rfl,SqT.of ea,rfl,_,rfl,nd.k,a,_,_,rfl,rk,ra,by lia,by lia,λH1 s1=>q H1 s1⟩
abbrev _root_.SO:List PySem.Str:=["vault","node"]
def zp3 (I:VI C VR)(D:Dfn K mg "refuse_sum" zcF SO) (zbg:FnX P w K mg base "size_beneath" 5 Sc (zbE VR CN CB CC)) (zbf:XP K mg "BadThing" CB) (zaw:mg "LEFT" =some (.int 2 t3)) (zae:mg "RIGHT" =some (.int 3 t4)) (zY:mg "COUNT" =some (.int 4 t5)):FnX P w K mg base "refuse_sum" 6 SO (zj1 VR CN CB CC):=by
 refine D.okX (k:=5) (fsN ["vault","node","left","right"]) (λ_ _ _ _ s H vs Q E hr h=>?_);obtain⟨a,D,s,nd,v,rfl,vs,rn,h⟩:=h;obtain⟨p,vk,vw,rfl,ea,rk,rw'⟩:=zr rn.1;have et:SqT K H p [vk,vw,.int nd.l,.int nd.r,.int nd.c]:=SqT.of ea;unfold Out sumP at h;rw[Pg.wp_bind] at h;refine⟨_,(by have ι:=0;ac_rfl),?_⟩;refine⟨_,rfl,_,rfl,p,_,_,_,rfl,rfl,et,rfl,_,rfl,p,_,_,_,rfl,rfl,et,rfl,a,D,s,nd.l,nd.c,rfl,vs,Pg.wp_mono (λx s1 h1 v H1 f1 vs1 ev=>?_) (λ_ _ z=>z) h⟩;have ev':v=.int x:=ev;subst ev';rw[Pg.wp_bind] at h1;have ea1:=I.tups vs f1 _ _ ea;have et1:SqT K H1 p _:=SqT.of ea1;refine⟨_,rfl,_,rfl,p,_,_,_,rfl,rfl,et1,rfl,_,rfl,p,_,_,_,rfl,rfl,et1,rfl,a,D,s1,nd.r,nd.c,rfl,vs1,Pg.wp_mono (λy s2 h2 v H2 f2 vs2 ev=>?_) (OutE.on f1) h1⟩;have ev':v=.int y:=ev;subst ev';have et2:SqT K H2 p _:=SqT.of (I.tups vs1 f2 _ _ ea1);refine⟨_,rfl,_,rfl,_,_,rfl,rfl,_,_,rfl,rfl,_,rfl,p,_,_,_,rfl,rfl,et2,rfl,rfl,_,rfl,?_⟩;rw[zE];by_cases hs:x+y+1=nd.c
 ·rw[if_pos hs] at h2;exact ifF (by rw[decide_eq_true hs];rfl) (h2 _ H2 (f1.trans f2) vs2 rfl)
 ·rw[if_neg hs] at h2;refine ifT (by rw[Jd hs];rfl) ⟨szl (show 1<=1000 by decide),λe he=>⟨e,CB,none,rfl,za,zbf.cl.q,?_⟩⟩;rw[zeU he];exact h2 H2 (f1.trans f2) vs2
def zp2 (I:VI C VR)(D:Dfn K mg "stretch" zfB Si) (zkj:Fn P w K mg base "is_empty" 21 Sz zcG) (zaD:FnX P w K mg base "node_beneath" 4 Sc (zcC VR CN CB CC)) (zrf:Fn P w K mg base "goes_left" 21 SN zdF) (zqu:Fn P w K mg base "goes_right" 21 SL zdw) (zqv:FnX P w K mg base "refuse_sum" 6 SO (zj1 VR CN CB CC)) (zaQ:Fn P w K mg base "ahead" 20 Sk (zaz 9))
  (zax:mg "KEY" =some (.int 0 t1)) (zbt:mg "WORTH" =some (.int 1 t2)) (zaw:mg "LEFT" =some (.int 2 t3)) (zae:mg "RIGHT" =some (.int 3 t4)) (zY:mg "COUNT" =some (.int 4 t5)) (zag:mg "BENEATH_NONE" =some (.int 301 t7)) (zC:mg "len" =none):FnX P w K mg base "stretch" 22 Si (zjQ VR CN CB CC):=by
 refine D.okX (k:=21) (fsN ["vault","root","low","high","pairs","begun","count","node"]) (λ_ _ _ _ s H vs Q E hr h=>?_);obtain⟨a,D,s,n,lo,hi,vx,vy,rfl,vs,rx,ry,dx,dy,h⟩:=h;refine⟨_,(by have ι:=0;ac_rfl),?_⟩;refine⟨szl (show 0<=1000 by decide),λpp hpp=>?_⟩;have s1:=zj (o:=.lst []) (Same.refl H) hpp;have e1:upd H pp (.lst []) pp=some (.lst []):=za;generalize upd H pp (.lst [])=H1 at s1 e1;refine⟨_,rfl,_,rfl,lo,hi,vx,vy,rfl,rx.keep (Same.tups s1),ry.keep (Same.tups s1),dx,λH2 s2=>⟨_,rfl,?_⟩⟩;have s02:Same H H2:=λb o e=>s2 b o (s1 b o e);have e2:=s2 _ _ e1;unfold Out strP at h;cases ze:zcf lo hi with
 | true=>rw[if_pos ze] at h;exact ifT rfl ⟨_,rfl,h _ H2 (Frm.of s02) (I.same vs s02) ⟨⟨pp,[],rfl,e2,.nil,by decide⟩,λ_ z=>by cases z;exact hpp⟩⟩
 | false=>
 rw[if_neg (by rw[ze];exact Jc)] at h;refine ifF rfl ?_;refine⟨szl (show 0<=1000 by decide),λpb hpb=>?_⟩;have s3:=zj (o:=.lst []) (Same.refl H2) hpb;have e3:upd H2 pb (.lst []) pb=some (.lst []):=za;have nb:pp≠pb:=zd e2 hpb;have hpb0:H pb=none:=by
  cases y:H pb with
  | none=>rfl
  | some o=>rw[s02 _ _ y] at hpb;cases hpb
 generalize upd H2 pb (.lst [])=H3 at s3 e3;have w0:wgt s.all n 301 < 700:=by unfold wgt;have:min (cntA s.all n) ((301:Int).toNat - 1)<=300:=Nat.min_le_right _ _;lia
 refine⟨λm σ H'=>∃(s1:Vst)(n c:Int)(st:List Nd)(ps:QH)(k7:Option V),(strL lo hi m n c st ps).wp s1 (OutQ VR a D (zco H) H Q) (OutE VR CN CB CC a D H E)/\wgt s.all n c+stkW s.all hi st < m/\s1.all=s.all/\st.length+m<=700/\ps.length+m<=700/\σ=[some (.ref a),some (.int n),some vx,some vy,some (.ref pp),some (.ref pb),some (.int c),k7]/\SX D H H' pp pb st ps/\VR H' a D s1/\∀nd∈st,Good nd.th,
  ⟨700,s,n,301,[],[],_,h,w0,rfl,by decide,by decide,rfl,⟨(Frm.of s02).trans (Frm.of s3),⟨[],s3 _ _ e2,.nil⟩,⟨[],e3,.nil⟩⟩,I.same (I.same vs s02) s3,λnd z=>by cases z⟩,?_⟩
 clear h w0;rintro m σ H4 ⟨s4,n,c,st,ps,k7,h,hw,hal,hb1,hb2,rfl,si,vs4,gd⟩;obtain⟨m,rfl⟩:∃j,m=j+1:=⟨m - 1,by lia⟩;have t04:=I.tups vs si.fr;have rx4:=rx.keep t04;have ry4:=ry.keep t04;obtain⟨xs,ex,rxs⟩:=si.xs;obtain⟨bs,eb,rbs⟩:=si.bs;have hxs:xs.length<=700:=by rw[rxs.len,JE];lia
 have hbl:bs.length=st.length:=by rw[rbs.len,JE,List.length_reverse]
 unfold strL at h;refine⟨_,rfl,rfl,_,rfl,?_⟩;rw[zE];by_cases hn:n=0
 ·subst hn;rw[if_pos rfl] at h;refine ifF rfl ?_;refine⟨_,rfl,pb,_,rfl,.inl (SqL.of eb),_,_,rfl,rfl,_,rfl,?_⟩;cases st with
  | nil=>
   refine ifF (by show decide ((0:Int) < ((bs.length:Nat):Int))=false;rw[hbl];rfl) ?_
   exact⟨_,rfl,h _ H4 si.fr vs4 ⟨⟨pp,xs,rfl,ex,rxs,by lia⟩,λ_ z=>by cases z;exact hpp⟩⟩
  | cons nd st'=>
   replace h:(strL lo hi m (if zbd hi nd.k=true then nd.r else 0) nd.c st' (if inB lo hi nd=true then ps++ [(nd.k,nd.w)] else ps)).wp s4 (OutQ VR a D (zco H) H Q) (OutE VR CN CB CC a D H E):=h;have gn:=gd nd JL;have kd:=(zbY gn).1;have hsl:(nd::st').length=st'.length+1:=rfl;have hw':wgt s.all 0 c+(1+(if zbd hi nd.k=true then wgt s.all nd.r nd.c else 0)+stkW s.all hi st') < m+1:=hw;refine ifT (decide_eq_true (show(0:Int) < ((bs.length:Nat):Int) by lia)) ⟨_,fun σ' H' h=>h,?_⟩;rw[NA,JR] at rbs;obtain⟨us,v,rfl,rus,rn⟩:=rbs.unsnoc;have si5:=si.setB (st':=st') nb hpb0 (bs':=us) rus;have vs5:VR (upd H4 pb (.lst us)) a D s4:=I.nl vs4 (NL.lst eb);refine zaU (fun σ H'=>∃(n':Int)(ps':QH)(v:V),σ=[some (.ref a),some (.int n'),some vx,some vy,some (.ref pp),some (.ref pb),some (.int c),some v]/\SX D H H' pp pb st' ps'/\(strL lo hi m n' nd.c st' ps').wp s4 (OutQ VR a D (zco H) H Q) (OutE VR CN CB CC a D H E)/\wgt s.all n' nd.c+stkW s.all hi st' < m/\ps'.length+m<=700/\Rep H' nd.th v/\VR H' a D s4) (λN kN=>?_) ?_
   ·refine⟨_,rfl,rfl,_,rfl,?_⟩;rw[zE];refine ifF rfl ?_;refine⟨_,rfl,.inl ⟨rfl,_,SqL.of eb⟩,pb,_,v,rfl,rfl,eb,by rw[JI,JY (by simp)];simp,?_⟩;rw[List.dropLast_concat];have tk5:Tups H4 (upd H4 pb (.lst us)):=Tups.upd λxs z=>by rw[eb] at z;cases z
    have rn5:=rn.keep tk5;have rx5:=rx4.keep tk5;have ry5:=ry4.keep tk5;generalize upd H4 pb (.lst us)=H5 at si5 tk5 rn5 rx5 ry5 vs5;refine⟨_,rfl,_,rfl,v,vy,nd,hi,rfl,rn5,ry5,by lia,λH6 s6=>⟨_,rfl,?_⟩⟩;have si6:=si5.go I vs5 (Frm.of s6);have vs6:=I.same vs5 s6;have rn6:=rn5.keep (Same.tups s6);have rx6:=rx5.keep (Same.tups s6);have w00:wgt s.all 0 nd.c=0:=by unfold wgt cntA;rw[if_pos rfl,Nat.zero_min]
    cases z1:zbd hi nd.k with
    | false=>
     have hin:inB lo hi nd=false:=by unfold inB;rw[z1];rfl
     rw[z1,hin,if_neg Jc,if_neg Jc] at h;rw[z1,if_neg Jc] at hw';exact ifF rfl (kN _ _ ⟨0,ps,v,rfl,si6,h,by lia,by lia,rn6,vs6⟩)
    | true=>
     rw[z1,if_pos rfl] at h hw';refine ifT rfl ?_;refine zaU (fun σ H'=>∃ps',σ=[some (.ref a),some (.int 0),some vx,some vy,some (.ref pp),some (.ref pb),some (.int c),some v]/\SX D H H' pp pb st' ps'/\Rep H' nd.th v/\(strL lo hi m nd.r nd.c st' ps').wp s4 (OutQ VR a D (zco H) H Q) (OutE VR CN CB CC a D H E)/\ps'.length<=ps.length+1/\VR H' a D s4) (λN2 k2=>?_) ?_
     ·obtain⟨p,vk,vw,rfl,ea,rk,rw'⟩:=zr rn6;obtain⟨xs6,ex6,rxs6⟩:=si6.xs;have hx6:xs6.length<=700:=by rw[rxs6.len,JE];lia
      have hinB:∀b,(decide (lo=.non) || !zb nd.k lo)=b->inB lo hi nd=b:=λb e=>by unfold inB;rw[z1,e];rfl
      have app:∀(H7:Hp)(s67:Same H6 H7)(h:inB lo hi nd=true)(p2:Addr),H7 p2=none->N2 [some (.ref a),some (.int 0),some vx,some vy,some (.ref pp),some (.ref pb),some (.int c),some (.ref p)] (upd (upd H7 p2 (.tup [vk,vw])) pp (.lst (xs6++ [.ref p2]))):=λH7 s67 hin p2 hp2=>by
       have rp:=(RepL.cons (rk.keep (Same.tups s67)) (.cons (rw'.keep (Same.tups s67)) .nil)).new hp2;have s78:=zj (o:=.tup [vk,vw]) (Same.refl H7) hp2;generalize upd H7 p2 (.tup [vk,vw])=H8 at rp s78;have s68:Same H6 H8:=λb o e=>s78 b o (s67 b o e);have si8:=si6.go I vs6 (Frm.of s68);have ex8:=s68 _ _ ex6;have rxs8:=rxs6.keep (Same.tups s68);have tk9:Tups H8 (upd H8 pp (.lst (xs6++ [.ref p2]))):=Tups.upd λxs z=>by rw[ex8] at z;cases z
       rw[hin,if_pos rfl] at h;refine k2 _ _ ⟨ps++ [(nd.k,nd.w)],rfl,si8.setP nb hpp ?_,(rn6.keep (Same.tups s68)).keep tk9,h,by simp,I.nl (I.same vs6 s68) (NL.lst ex8)⟩;rw[JR];exact rxs8.snoc rp
      refine⟨_,rfl,rfl,_,rfl,?_⟩;rw[zaP rx6];cases z2:decide (lo=.non) with
      | true=>have hin:=hinB true (by rw[z2];rfl);refine ifT rfl (ifT rfl ?_);exact⟨_,rfl,.inl ⟨rfl,_,SqL.of ex6⟩,_,rfl,p,_,_,_,rfl,rfl,SqT.of ea,rfl,_,rfl,p,_,_,_,rfl,rfl,SqT.of ea,rfl,szl (show 2<=1000 by decide),λp2 hp2=>⟨pp,xs6,_,rfl,rfl,by rw[zc (zd ex6 hp2)];exact ex6,Je (show xs6.length < 1000 by lia) (szl (Jb _)),app H6 (Same.refl _) hin p2 hp2⟩⟩
      | false=>
       refine ifF rfl ⟨_,rfl,p,_,_,_,rfl,rfl,SqT.of ea,rfl,_,rfl,nd.k,lo,_,_,rfl,rk,rx6,by lia,by lia,λH7 s7=>⟨_,rfl,?_⟩⟩;have ex7:=s7 _ _ ex6;have ea7:=s7 _ _ ea;cases z3:zb nd.k lo with
       | true=>have hin:=hinB false (by rw[z2,z3];rfl);rw[hin,if_neg Jc] at h;exact ifF rfl (k2 _ _ ⟨ps,rfl,si6.go I vs6 (Frm.of s7),rn6.keep (Same.tups s7),h,by lia,I.same vs6 s7⟩)
       | false=>have hin:=hinB true (by rw[z2,z3];rfl);refine ifT rfl ?_;exact⟨_,rfl,.inl ⟨rfl,_,SqL.of ex7⟩,_,rfl,p,_,_,_,rfl,rfl,SqT.of ea7,rfl,_,rfl,p,_,_,_,rfl,rfl,SqT.of ea7,rfl,szl (show 2<=1000 by decide),λp2 hp2=>⟨pp,xs6,_,rfl,rfl,by rw[zc (zd ex7 hp2)];exact ex7,Je (show xs6.length < 1000 by lia) (szl (Jb _)),app H7 s7 hin p2 hp2⟩⟩
     ·rintro σ H7 ⟨ps',rfl,si7,rn7,h7,hl7,vs7⟩;obtain⟨p,vk,vw,rfl,ea,rk,rw'⟩:=zr rn7;exact⟨_,rfl,p,_,_,_,rfl,rfl,SqT.of ea,rfl,kN _ _ ⟨nd.r,ps',_,rfl,si7,h7,by lia,by lia,rn7,vs7⟩⟩
   ·rintro σ H5 ⟨n',ps',v',rfl,si',h',hw2,hp',rn',vs'⟩;obtain⟨p,vk,vw,rfl,ea,rk,rw'⟩:=zr rn';exact⟨_,rfl,p,_,_,_,rfl,rfl,SqT.of ea,rfl,m,Jt m,s4,n',_,st',ps',_,h',hw2,hal,by lia,by lia,rfl,si',vs',λy hy=>gd y (Ji _ hy)⟩
 ·rw[if_neg hn,Pg.wp_bind] at h;refine ifT (by rw[Jd hn];rfl) (ifT rfl ⟨_,fun σ' H' h=>h,?_⟩);refine zaU (fun σ H'=>∃(s5:Vst)(nd:Nd)(v:V),σ=[some (.ref a),some (.int (if zbc lo nd.k=true then nd.l else 0)),some vx,some vy,some (.ref pp),some (.ref pb),some (.int c),some v]/\SX D H H' pp pb (nd::st) ps/\(strL lo hi m (if zbc lo nd.k=true then nd.l else 0) nd.c (nd::st) ps).wp s5 (OutQ VR a D (zco H) H Q) (OutE VR CN CB CC a D H E)/\wgt s.all (if zbc lo nd.k=true then nd.l else 0) nd.c+stkW s.all hi (nd::st) < m/\s5.all=s.all/\Rep H' nd.th v/\Good nd.th/\VR H' a D s5) (λN kN=>?_) ?_
  ·refine⟨_,rfl,rfl,_,rfl,?_⟩;rw[zE];refine ifT (by rw[Jd hn];rfl) ?_;refine⟨_,rfl,_,rfl,_,rfl,a,D,s4,n,c,rfl,vs4,Pg.wp_mono (λnd s5 h5 v H5 f5 vs5 rn=>?_) (OutE.on si.fr) (zi7 hn h)⟩;obtain⟨⟨c1,c2,c3⟩,⟨o5,k5⟩,h5⟩:=h5;obtain⟨rn,gn⟩:=rn;have kd:=(zbY gn).1;have ea5:s5.all=s.all:=by rw[<-hal];unfold Vst.all;rw[o5,k5]
   rw[hal] at c1;have si5:=si.go I vs4 f5;have t45:=I.tups vs4 f5;have rx5:=rx4.keep t45;have ry5:=ry4.keep t45;rw[Pg.wp_bind] at h5;have wn:wgt s.all n c=2 * nd.c.toNat:=by unfold wgt;rw[c1,Nat.min_eq_left (by lia)]
   have wk:∀k,wgt s.all k nd.c<=2 * (nd.c.toNat - 1):=λk=>by unfold wgt;have:=Nat.min_le_right (cntA s.all k) (nd.c.toNat - 1);lia
   have w00:wgt s.all 0 nd.c=0:=by unfold wgt cntA;rw[if_pos rfl,Nat.zero_min]
   dsimp only[zbN];refine zaU (fun σ H'=>∃s6:Vst,σ=[some (.ref a),some (.int n),some vx,some vy,some (.ref pp),some (.ref pb),some (.int c),some v]/\Frm D H5 H'/\VR H' a D s6/\s6.all=s.all/\(strL lo hi m (if zbc lo nd.k=true then nd.l else 0) nd.c (nd::st) ps).wp s6 (OutQ VR a D (zco H) H Q) (OutE VR CN CB CC a D H E)/\wgt s.all (if zbc lo nd.k=true then nd.l else 0) nd.c+(if zbd hi nd.k=true then wgt s.all nd.r nd.c else 0)+1 < wgt s.all n c) (λN2 k2=>?_) ?_
   ·refine⟨_,rfl,_,rfl,v,vx,nd,lo,rfl,rn,rx5,dx,λH6 s6=>⟨_,rfl,?_⟩⟩;cases z1:zbc lo nd.k with
    | false=>rw[z1] at h5 k2;rw[if_neg (by rw[Bool.false_and];exact Jc)] at h5;refine ifF rfl (ifF rfl (k2 _ _ ⟨s5,rfl,Frm.of s6,I.same vs5 s6,ea5,h5,?_⟩));rw[if_neg Jc,w00];have:=wk nd.r;split <;> lia
    | true=>
     rw[z1] at h5 k2;refine ifT rfl ⟨_,rfl,_,rfl,v,vy,nd,hi,rfl,rn.keep (Same.tups s6),ry5.keep (Same.tups s6),by lia,λH7 s7=>⟨_,rfl,?_⟩⟩;have s57:Same H5 H7:=λb o e=>s7 b o (s6 b o e);have wl:=wk nd.l;cases z2:zbd hi nd.k with
     | false=>rw[z2] at h5 k2;rw[if_neg (by exact Jc)] at h5;refine ifF rfl (k2 _ _ ⟨s5,rfl,Frm.of s57,I.same vs5 s57,ea5,h5,?_⟩);rw[if_pos rfl,if_neg Jc];lia
     | true=>
      rw[z2] at h5 k2;rw[if_pos (by rfl)] at h5;refine ifT rfl ⟨_,rfl,_,rfl,a,D,s5,nd,v,rfl,I.same vs5 s57,⟨rn.keep (Same.tups s57),gn⟩,Pg.wp_mono (λu s6' h6 v6 H8 f8 vs8 ev=>?_) (OutE.on ((si.fr.trans f5).trans (Frm.of s57))) (zns h5)⟩;obtain⟨he,⟨o6,k6⟩,h6⟩:=h6;have ea6:s6'.all=s.all:=by rw[<-ea5];unfold Vst.all;rw[o6,k6]
      rw[ea5] at he;refine k2 _ _ ⟨s6',rfl,(Frm.of s57).trans f8,vs8,ea6,h6,?_⟩;rw[if_pos rfl,if_pos rfl];have h1:wgt s.all nd.l nd.c<=2 * cntA s.all nd.l:=by unfold wgt;have:=Nat.min_le_left (cntA s.all nd.l) (nd.c.toNat - 1);lia
      have h2:wgt s.all nd.r nd.c<=2 * cntA s.all nd.r:=by unfold wgt;have:=Nat.min_le_left (cntA s.all nd.r) (nd.c.toNat - 1);lia
      lia
   ·rintro σ H7 ⟨s7,rfl,f7,vs7,ea7,h7,hw7⟩;have si7:=si5.go I vs5 f7;have t57:=I.tups vs5 f7;have eb7:=I.lst vs5 f7 (I.lst vs4 f5 eb);have rbs7:=(rbs.keep t45).keep t57;have rn7:=rn.keep t57;refine⟨_,rfl,.inl ⟨rfl,_,SqL.of eb7⟩,_,rfl,pb,bs,_,rfl,rfl,eb7,Je (show bs.length < 1000 by lia) (szl (Jb _)),?_⟩;have si8:=si7.setB (st':=nd::st) nb hpb0 (bs':=bs++ [v]) (by rw[NA,JR];exact rbs7.snoc rn7);have tk8:Tups H7 (upd H7 pb (.lst (bs++ [v]))):=Tups.upd λxs z=>by rw[eb7] at z;cases z
    have rn8:=rn7.keep tk8;have rx8:=(rx5.keep t57).keep tk8;have vs8:VR (upd H7 pb (.lst (bs++ [v]))) a D s7:=I.nl vs7 (NL.lst eb7);generalize upd H7 pb (.lst (bs++ [v]))=H8 at si8 tk8 rn8 rx8 vs8;refine⟨_,rfl,_,rfl,v,vx,nd,lo,rfl,rn8,rx8,dx,λH9 s9=>⟨_,rfl,?_⟩⟩;have si9:=si8.go I vs8 (Frm.of s9);have rn9:=rn8.keep (Same.tups s9);have hws:wgt s.all (if zbc lo nd.k=true then nd.l else 0) nd.c+stkW s.all hi (nd::st) < m:=by show _+(1+(if zbd hi nd.k=true then wgt s.all nd.r nd.c else 0)+stkW s.all hi st) < m;lia
    cases z1:zbc lo nd.k with
    | true=>obtain⟨p,vk,vw,rfl,ea,rk,rw'⟩:=zr rn9;refine ifT rfl ⟨_,rfl,p,_,_,_,rfl,rfl,SqT.of ea,rfl,kN _ _ ⟨s7,nd,_,?_,si9,h7,hws,ea7,rn9,gn,I.same vs8 s9⟩⟩;rw[z1];rfl
    | false=>refine ifF rfl (kN _ _ ⟨s7,nd,v,?_,si9,h7,hws,ea7,rn9,gn,I.same vs8 s9⟩);rw[z1];rfl
  ·rintro σ H5 ⟨s5,nd,v,rfl,si',h',hw',ea',rn,gn,vs'⟩;obtain⟨p,vk,vw,rfl,ea,rk,rw'⟩:=zr rn;refine⟨_,rfl,p,_,_,_,rfl,rfl,SqT.of ea,rfl,m,Jt m,s5,_,_,nd::st,ps,_,h',hw',ea',by show st.length+1+m<=700;lia,by lia,rfl,si',vs',λy hy=>?_⟩;rcases JD.mp hy with rfl | hy
   ·exact gn
   ·exact gd y hy
inductive Pg.Run {α:Type}:Pg α->Vst->Except Er α->Vst->Prop
 | ret {x:α} {s:Vst}:Pg.Run (.ret x) s (.ok x) s
 | bad {s:Vst}:Pg.Run .bad s (.error .bad) s
 | rd {n:Int} {k:Th->Pg α} {s s1 s':Vst} {t:Th} {r:Except Er α}:s.look n=some (t,s1)->Pg.Run (k t) s1 r s'->Pg.Run (.rd n k) s r s'
 | lacks {n:Int} {k:Th->Pg α} {s:Vst}:s.look n=none->Pg.Run (.rd n k) s (.error .lacks) s
 | lay {t:Th} {k:Pg α} {s s':Vst} {r:Except Er α}:s.stop t=none->Pg.Run k (s.add t) r s'->Pg.Run (.lay t k) s r s'
 | clash {t u:Th} {k:Pg α} {s:Vst}:s.stop t=some u->Pg.Run (.lay t k) s (.error (.clash u t)) s
inductive Pg.Fit {α:Type}:Pg α->Vst->Prop
 | ret {x:α} {s:Vst}:Pg.Fit (.ret x) s
 | bad {s:Vst}:Pg.Fit .bad s
 | rd {n:Int} {k:Th->Pg α} {s:Vst}:0 < s.n->(∀t s1,s.look n=some (t,s1)->Pg.Fit (k t) s1)->Pg.Fit (.rd n k) s
 | lay {t:Th} {k:Pg α} {s:Vst}:0 < s.n->Good t->(s.stop t=none->Pg.Fit k (s.add t))->Pg.Fit (.lay t k) s
theorem Pg.run_ex {α:Type}:∀(p:Pg α)(s:Vst),∃r s',Pg.Run p s r s'
 | .ret x,s=>⟨_,_,.ret⟩
 | .bad,s=>⟨_,_,.bad⟩
 | .rd n k,s=>by
  cases z:s.look n with
  | none=>exact⟨_,_,.lacks z⟩
  | some y=>obtain⟨r,s',h⟩:=run_ex (k y.1) y.2;exact⟨r,s',.rd z h⟩
 | .lay t k,s=>by
  cases z:s.stop t with
  | none=>obtain⟨r,s',h⟩:=run_ex k (s.add t);exact⟨r,s',.lay z h⟩
  | some u=>exact⟨_,_,.clash z⟩
theorem Pg.wp_of {α:Type}{q:α->Vst->Prop}{e:Er->Vst->Prop}:∀{p:Pg α}{s:Vst},p.Fit s->(∀x s',Pg.Run p s (.ok x) s'->q x s')->(∀r s',Pg.Run p s (.error r) s'->e r s')->p.wp s q e
 | .ret x,s,_,hq,_=>hq x s .ret
 | .bad,s,_,_,he=>he _ s .bad
 | .rd n k,s,.rd h0 hf,hq,he=>⟨h0,λt s' z=>wp_of (hf t s' z) (λx s2 r=>hq x s2 (.rd z r)) (λr s2 y=>he r s2 (.rd z y)),λz=>he _ s (.lacks z)⟩
 | .lay t k,s,.lay h0 hg hf,hq,he=>⟨h0,hg,λz=>wp_of (hf z) (λx s2 r=>hq x s2 (.lay z r)) (λr s2 y=>he r s2 (.lay z y)),λu z=>he _ s (.clash z)⟩
theorem Pg.of_wp {α:Type}{q:α->Vst->Prop}:∀{p:Pg α}{s:Vst},p.wp s q e->p.Fit s/\(∀x s',Pg.Run p s (.ok x) s'->q x s')/\(∀r s',Pg.Run p s (.error r) s'->e r s')
 | .ret x,s,h=>⟨.ret,λy s' r=>by cases r;exact h,λ_ _ r=>by cases r⟩
 | .bad,s,h=>⟨.bad,λ_ _ r=>(by cases r),λ_ _ r=>by cases r;exact h⟩
 | .rd n k,s,⟨h0,h1,h2⟩=>by
  refine⟨.rd h0 λt s1 z=>(of_wp (h1 t s1 z)).1,λx s' r=>?_,λr s' y=>?_⟩
  ·cases r with
   | rd z r=>exact(of_wp (h1 _ _ z)).2.1 x s' r
  ·cases y with
   | rd z r=>exact(of_wp (h1 _ _ z)).2.2 _ s' r
   | lacks z=>exact h2 z
 | .lay t k,s,⟨h0,hg,h1,h2⟩=>by
  refine⟨.lay h0 hg λz=>(of_wp (h1 z)).1,λx s' r=>?_,λr s' y=>?_⟩
  ·cases r with
   | lay z r=>exact(of_wp (h1 z)).2.1 x s' r
  ·cases y with
   | lay z r=>exact(of_wp (h1 z)).2.2 _ s' r
   | clash z=>exact h2 _ z
def zqp {s s':Vst}{n:Int}{t:Th}(h:s.look n=some (t,s')):Sub s.nt s'.nt:=by
 cases z:zg s.own n with
 | some u=>rw[Vst.look_own z] at h;cases h;exact Sub.refl _
 | none=>
  cases y:zg s.kp n with
  | some u=>rw[Vst.look_kp z y] at h;cases h;exact zpX
  | none=>rw[Vst.look_no z y] at h;cases h
def Pg.Run.nt {p:Pg α}{r:Except Er α}(h:Pg.Run p s r s'):Sub s.nt s'.nt:=by
 induction h with
 | ret=>exact Sub.refl _
 | bad=>exact Sub.refl _
 | rd z _ ih=>exact(zqp z).trans ih
 | lacks=>exact Sub.refl _
 | lay _ _ ih=>exact ih
 | clash=>exact Sub.refl _
def zni {s s':Vst}{n:Int}{t:Th}(h:s.look n=some (t,s')):s'.n=s.n - 1:=by
 cases z:zg s.own n with
 | some u=>rw[Vst.look_own z] at h;cases h;rfl
 | none=>
  cases y:zg s.kp n with
  | none=>rw[Vst.look_no z y] at h;cases h
  | some u=>rw[Vst.look_kp z y] at h;cases h;rfl
def zfa {s s':Vst}{n:Int}{t:Th}(su:Sub s.nt s.kp)(h:s.look n=some (t,s')):s'.own=s.own/\s'.kp=s.kp/\Sub s'.nt s'.kp/\(zg s.own n=some t\/(zg s.own n=none/\zg s'.nt n=some t))/\∀m,m≠n->zg s'.nt m=zg s.nt m:=by
 cases z:zg s.own n with
 | some u=>rw[Vst.look_own z] at h;cases h;exact⟨rfl,rfl,su,.inl rfl,λ_ _=>rfl⟩
 | none=>
  cases y:zg s.kp n with
  | none=>rw[Vst.look_no z y] at h;cases h
  | some u=>
   rw[Vst.look_kp z y] at h;cases h;have ft:Fits s.nt n t:=by
    cases x:zg s.nt n with
    | none=>exact .inl x
    | some v=>have:=su _ _ x;rw[y] at this;cases this;exact .inr x
   refine⟨rfl,rfl,λm v e=>?_,.inr ⟨rfl,zaf ft⟩,λm hm=>?_⟩
   ·rcases zX e with e | ⟨rfl,rfl⟩
    ·exact su _ _ e
    ·exact y
   ·show zg (addT s.nt n t) m=zg s.nt m;rcases ft with ft | ft
    ·rw[za6 ft,zb1];cases zg s.nt m with
     | some v=>rfl
     | none=>exact if_neg λz=>hm z.symm
    ·rw[za7 ft]
theorem Pg.Run.noted {p:Pg α}{r:Except Er α}(h:Pg.Run p s r s'):∀{m:Int}{t:Th},Sub s.nt s.kp->zg s.own m=some t->zg s'.nt m=zg s.nt m:=by
 induction h with
 | ret=>intros;rfl
 | bad=>intros;rfl
 | lacks=>intros;rfl
 | clash=>intros;rfl
 | @rd n k s s1 s' t r z hr ih=>
  intro m u su ho;obtain⟨e1,e2,su1,hl,hm⟩:=zfa su z;rw[ih (m:=m) (t:=u) su1 (by rw[e1];exact ho)];by_cases e:m=n
  ·subst e;rw[Vst.look_own ho] at z;cases z;rfl
  ·exact hm m e
 | @lay t k s s' r z hr ih=>intro m u su ho;exact ih (m:=m) (t:=u) su (za4 ho)
end Pv
namespace L2
open PySem PySem.Spec PyProof.Rows
unseal PE in
def zj9 {Ws:List ι}{t:ι->TE}(h:∀W,W∈Ws->PE X e (t W)):PE X e (fun σ H Q=>∃W,W∈Ws/\t W σ H Q):=by intro pins s σ H Q I q;obtain⟨W,hW,q⟩:=q;exact h W hW pins s σ H Q I q
end L2
namespace Pv
open PySem L2
abbrev zcD:Stmt:=inClass (top 80) 0
abbrev zb2:Stmt:=inClass (top 80) 1
abbrev zbp:Stmt:=inClass (top 81) 0
abbrev zaV:Stmt:=inClass (top 81) 1
abbrev zb9:Stmt:=inClass (top 82) 0
abbrev zbx:Stmt:=inClass (top 82) 1
abbrev zc1:Stmt:=inClass (top 83) 0
abbrev zcx:Stmt:=inClass (top 83) 1
abbrev zc3:Stmt:=inClass (top 84) 0
abbrev zcv:Stmt:=inClass (top 84) 1
abbrev zcY:Stmt:=inClass (top 85) 0
abbrev zcw:Stmt:=inClass (top 85) 1
inductive Qn where
 | find (k:Th)
 | str (lo hi:Th)
 | cnt (lo hi:Th)
 | nth (i:Int)
 | put (k w:Th)
 | cut (k:Th)
inductive Kd where
 | fi | st | co | nt | pu | cu
def Qn.kd:Qn->Kd
 | .find _=>.fi
 | .str _ _=>.st
 | .cnt _ _=>.co
 | .nth _=>.nt
 | .put _ _=>.pu
 | .cut _=>.cu
def zft:List Kd:=[.fi,.st,.co,.nt,.pu,.cu]
def znk (k:Kd):k∈zft:=by cases k <;> simp[zft]
def Qn.fs (H:Hp):Qn->List (Str ×V)->Prop
 | .find k,fs=>∃v,fs=[(("key" :Str),v)]/\Rep H k v
 | .str lo hi,fs=>∃v u,fs=[(("low" :Str),v),(("high" :Str),u)]/\Rep H lo v/\Rep H hi u
 | .cnt lo hi,fs=>∃v u,fs=[(("low" :Str),v),(("high" :Str),u)]/\Rep H lo v/\Rep H hi u
 | .nth i,fs=>fs=[(("number" :Str),V.int i)]
 | .put k w,fs=>∃v u,fs=[(("key" :Str),v),(("worth" :Str),u)]/\Rep H k v/\Rep H w u
 | .cut k,fs=>∃v,fs=[(("key" :Str),v)]/\Rep H k v
def Qn.fs_keep {q:Qn}{fs:QI}(t:Tups H H')(h:q.fs H fs):q.fs H' fs:=by
 cases q with
 | find k=>obtain⟨v,e,r⟩:=h;exact⟨v,e,r.keep t⟩
 | str lo hi=>obtain⟨v,u,e,r,s⟩:=h;exact⟨v,u,e,r.keep t,s.keep t⟩
 | cnt lo hi=>obtain⟨v,u,e,r,s⟩:=h;exact⟨v,u,e,r.keep t,s.keep t⟩
 | nth i=>exact h
 | put k w=>obtain⟨v,u,e,r,s⟩:=h;exact⟨v,u,e,r.keep t,s.keep t⟩
 | cut k=>obtain⟨v,e,r⟩:=h;exact⟨v,e,r.keep t⟩
def Qn.noAns {H:Hp}{q:Qn}{fs:QI}(h:q.fs H fs):fs.lookup ("answer" :Str)=none:=by
 cases q with
 | find k=>obtain⟨v,rfl,_⟩:=h;rfl
 | str lo hi=>obtain⟨v,u,rfl,_⟩:=h;rfl
 | cnt lo hi=>obtain⟨v,u,rfl,_⟩:=h;rfl
 | nth i=>cases h;rfl
 | put k w=>obtain⟨v,u,rfl,_⟩:=h;rfl
 | cut k=>obtain⟨v,rfl,_⟩:=h;rfl
def QAt (cl:Kd->Addr)(H:Hp)(q:Qn)(b:Addr):Prop:=∃dx fs,H b=some (.ins (cl q.kd) dx fs)/\q.fs H fs
theorem QAt.same {cl:Kd->Addr}{H H':Hp}{q:Qn}{b:Addr}(h:QAt cl H q b)(s:Same H H'):QAt cl H' q b:=by obtain⟨dx,fs,e,f⟩:=h;exact⟨dx,fs,s _ _ e,Qn.fs_keep (Same.tups s) f⟩
def QAt.go {cl:Kd->Addr}{C:Addr}{VR:VRT}(I:VI C VR){H H':Hp}{a b:Addr}{D:QP}{s:Vst}{q:Qn}(h:QAt cl H q b)(v:VR H a D s)(f:Frm D H H'):QAt cl H' q b:=by obtain⟨dx,fs,e,g⟩:=h;exact⟨dx,fs,f _ _ (I.not v e (by intro kv z;cases z)) e,Qn.fs_keep (I.tups v f) g⟩
inductive Av where
 | th (t:Th)
 | ls (ps:QH)
def AvF (H0 H:Hp):Av->V->Prop
 | .th t,v=>Rep H t v
 | .ls ps,v=>zco H0 H ps v
def ansP (n:Int):Qn->Pg Av
 | .find k=>(zhk n k).bind λt=>.ret (.th t)
 | .str lo hi=>(strP n lo hi).bind λps=>.ret (.ls ps)
 | .cnt lo hi=>(zdr n lo hi).bind λi=>.ret (.th (.int i))
 | .nth i=>(nthQ n i).bind λt=>.ret (.th t)
 | .put k w=>(putP n k w).bind λi=>.ret (.th (.int i))
 | .cut k=>(cutP n k).bind λi=>.ret (.th (.int i))
def QOk:Qn->Prop
 | .find k=>dep k<=8
 | .str lo hi=>dep lo<=8/\dep hi<=8
 | .cnt lo hi=>dep lo<=8/\dep hi<=8
 | .nth _=>True
 | .put k _=>Good k
 | .cut k=>dep k<=8
inductive zbv (cl:Kd->Addr)(VR:VRT)(CN CB CC:Addr)(kd:Kd)(vs:QR)(H:Hp)(Q:L2.VK)(E:XK):Prop
 | mk (b a:Addr)(D:QP)(s:Vst)(n:Int)(q:Qn)(_:vs=[.ref b,.ref a,.int n])(_:q.kd=kd)(_:QAt cl H q b)(_:QOk q)(_:VR H a D s)(_:Out VR CN CB CC a D (ansP n q) s (AvF H) H Q E):zbv cl VR CN CB CC kd vs H Q E
inductive spI1 (C:Addr)(f:Str)(vs:QR)(H:Hp)(Q:L2.VK)(_E:XK):Prop
 | mk (a dx:Addr)(v:V)(_:vs=[.ref a,v])(_:H a=some (.ins C dx [])) (_:∀H',(∀b o,b≠a->H b=some o->H' b=some o)->H' a=some (.ins C dx [(f,v)])->Q .non H'):spI1 C f vs H Q _E
inductive spI2 (C:Addr)(f g:Str)(vs:QR)(H:Hp)(Q:L2.VK)(_E:XK):Prop
 | mk (a dx:Addr)(v u:V)(_:vs=[.ref a,v,u])(_:H a=some (.ins C dx [])) (_:∀H',(∀b o,b≠a->H b=some o->H' b=some o)->H' a=some (.ins C dx [(f,v),(g,u)])->Q .non H'):spI2 C f g vs H Q _E
def zjU {f g:Str}{v:V}(h:(f==g)=false):putF g u [(f,v)]=[(f,v),(g,u)]:=by
 unfold putF;rw[if_neg (by intro z;rw[z,beq_self_eq_true] at h;cases h)]
 rfl
section
variable {cl:Kd->Addr}
abbrev _root_.Sw:List PySem.Str:=["self","key"]
def zof (D:Mkd K mg "Find" A "Find.__init__" zcD Sw) (c:Cls K A) (n1:zl K A "key"):Mkr P w K mg base "Find" A 1 Sw (spI1 A "key"):=by refine D.ok (k:=0) (fsN Sw) (λf cdv A' outer s H vs Q E hr h=>?_);obtain⟨a,dx,v,rfl,ea,q⟩:=h;refine⟨_,(by ac_rfl),?_⟩;exact⟨_,rfl,_,rfl,a,A,dx,[],rfl,ea,c,n1,by decide,q _ (λb o n e=>by rw[zc n];exact e) za⟩
abbrev _root_.Sq:List PySem.Str:=["self","low","high"]
def zim (D:Mkd K mg "Stretch" A "Stretch.__init__" zbp Sq) (c:Cls K A) (n1:zl K A "low") (n2:zl K A "high"):Mkr P w K mg base "Stretch" A 1 Sq (spI2 A "low" "high"):=by refine D.ok (k:=0) (fsN Sq) (λf cdv A' outer s H vs Q E hr h=>?_);obtain⟨a,dx,v,u,rfl,ea,q⟩:=h;refine⟨_,(by ac_rfl),?_⟩;refine⟨_,rfl,_,rfl,a,A,dx,[],rfl,ea,c,n1,by decide,?_⟩;refine⟨_,rfl,_,rfl,a,A,dx,_,rfl,za,c,n2,(show(1:Nat) < 1000 by decide),q _ (λb o n e=>by rw[zc n,zc n];exact e) ?_⟩;rw[za];exact congrArg (λz=>some (HO.ins A dx z)) (zjU (by decide))
def zmp (D:Mkd K mg "Count" A "Count.__init__" zb9 Sq) (c:Cls K A) (n1:zl K A "low") (n2:zl K A "high"):Mkr P w K mg base "Count" A 1 Sq (spI2 A "low" "high"):=by refine D.ok (k:=0) (fsN Sq) (λf cdv A' outer s H vs Q E hr h=>?_);obtain⟨a,dx,v,u,rfl,ea,q⟩:=h;refine⟨_,(by ac_rfl),?_⟩;refine⟨_,rfl,_,rfl,a,A,dx,[],rfl,ea,c,n1,by decide,?_⟩;refine⟨_,rfl,_,rfl,a,A,dx,_,rfl,za,c,n2,(show(1:Nat) < 1000 by decide),q _ (λb o n e=>by rw[zc n,zc n];exact e) ?_⟩;rw[za];exact congrArg (λz=>some (HO.ins A dx z)) (zjU (by decide))
def zpT (D:Mkd K mg "Nth" A "Nth.__init__" zc1 Sd) (c:Cls K A) (n1:zl K A "number"):Mkr P w K mg base "Nth" A 1 Sd (spI1 A "number"):=by refine D.ok (k:=0) (fsN Sd) (λf cdv A' outer s H vs Q E hr h=>?_);obtain⟨a,dx,v,rfl,ea,q⟩:=h;refine⟨_,(by ac_rfl),?_⟩;exact⟨_,rfl,_,rfl,a,A,dx,[],rfl,ea,c,n1,by decide,q _ (λb o n e=>by rw[zc n];exact e) za⟩
abbrev _root_.SE:List PySem.Str:=["self","key","worth"]
def zqc (D:Mkd K mg "Put" A "Put.__init__" zc3 SE) (c:Cls K A) (n1:zl K A "key") (n2:zl K A "worth"):Mkr P w K mg base "Put" A 1 SE (spI2 A "key" "worth"):=by refine D.ok (k:=0) (fsN SE) (λf cdv A' outer s H vs Q E hr h=>?_);obtain⟨a,dx,v,u,rfl,ea,q⟩:=h;refine⟨_,(by ac_rfl),?_⟩;refine⟨_,rfl,_,rfl,a,A,dx,[],rfl,ea,c,n1,by decide,?_⟩;refine⟨_,rfl,_,rfl,a,A,dx,_,rfl,za,c,n2,(show(1:Nat) < 1000 by decide),q _ (λb o n e=>by rw[zc n,zc n];exact e) ?_⟩;rw[za];exact congrArg (λz=>some (HO.ins A dx z)) (zjU (by decide))
def zpJ (D:Mkd K mg "Cut" A "Cut.__init__" zcY Sw) (c:Cls K A) (n1:zl K A "key"):Mkr P w K mg base "Cut" A 1 Sw (spI1 A "key"):=by refine D.ok (k:=0) (fsN Sw) (λf cdv A' outer s H vs Q E hr h=>?_);obtain⟨a,dx,v,rfl,ea,q⟩:=h;refine⟨_,(by ac_rfl),?_⟩;exact⟨_,rfl,_,rfl,a,A,dx,[],rfl,ea,c,n1,by decide,q _ (λb o n e=>by rw[zc n];exact e) za⟩
abbrev _root_.Sa:List PySem.Str:=["self","vault","root"]
def zmZ (D:Mdf K (cl .fi) "answer" "Find.answer" zb2 Sa) (zt4:FnX P w K mg base "found" 23 Sb (zfy VR CN CB CC)) (c:Cls K (cl .fi)) (n1:zl K (cl .fi) "key"):Mt P w K mg base (CX1 P w) (cl .fi) "answer" 25 Sa (zbv cl VR CN CB CC .fi):=by
 refine D.okX (k:=24) (fsN Sa) (λ_ _ _ _ s H vs Q E hr h=>?_);obtain⟨b,a,D,s,n,qn,rfl,hk,⟨dx,fs,eb,hf⟩,qo,vs,h⟩:=h;refine⟨_,(by ac_rfl),?_⟩;have int:∀(m:Int)(s':Vst),(Pg.ret (Av.th (Th.int m))).wp s' (OutQ VR a D (AvF H) H Q) (OutE VR CN CB CC a D H E)->OutQ VR a D IntR H Q m s':=λm s' z v H' f' vs' ev=>by have ev':v=.int m:=ev;subst ev';exact z _ H' f' vs' (Rep.int m)
 cases qn with
 | str _ _=>cases hk
 | cnt _ _=>cases hk
 | nth _=>cases hk
 | put _ _=>cases hk
 | cut _=>cases hk
 | find k=>
 obtain⟨v,rfl,rk⟩:=hf;unfold Out ansP at h;rw[Pg.wp_bind] at h;exact⟨_,rfl,_,rfl,_,rfl,b,cl .fi,dx,_,_,rfl,eb,c,n1,rfl,a,D,s,n,k,v,rfl,vs,rk,qo,Pg.wp_mono (λt s1 z v1 H1 f1 vs1 r1=>z v1 H1 f1 vs1 r1) (λ_ _ z=>z) h⟩
def ziw (D:Mdf K (cl .st) "answer" "Stretch.answer" zaV Sa) (zsZ:FnX P w K mg base "stretch" 22 Si (zjQ VR CN CB CC)) (c:Cls K (cl .st)) (n1:zl K (cl .st) "low") (n2:zl K (cl .st) "high"):Mt P w K mg base (CX1 P w) (cl .st) "answer" 25 Sa (zbv cl VR CN CB CC .st):=by
 refine D.okX (k:=24) (fsN Sa) (λ_ _ _ _ s H vs Q E hr h=>?_);obtain⟨b,a,D,s,n,qn,rfl,hk,⟨dx,fs,eb,hf⟩,qo,vs,h⟩:=h;refine⟨_,(by ac_rfl),?_⟩;have int:∀(m:Int)(s':Vst),(Pg.ret (Av.th (Th.int m))).wp s' (OutQ VR a D (AvF H) H Q) (OutE VR CN CB CC a D H E)->OutQ VR a D IntR H Q m s':=λm s' z v H' f' vs' ev=>by have ev':v=.int m:=ev;subst ev';exact z _ H' f' vs' (Rep.int m)
 cases qn with
 | find _=>cases hk
 | cnt _ _=>cases hk
 | nth _=>cases hk
 | put _ _=>cases hk
 | cut _=>cases hk
 | str lo hi=>
 obtain⟨v,u,rfl,r1,r2⟩:=hf;unfold Out ansP at h;rw[Pg.wp_bind] at h;exact⟨_,rfl,_,rfl,_,rfl,b,cl .st,dx,_,_,rfl,eb,c,n1,rfl,_,rfl,b,cl .st,dx,_,_,rfl,eb,c,n2,rfl,a,D,s,n,lo,hi,v,u,rfl,vs,r1,r2,qo.1,qo.2,Pg.wp_mono (λt s1 z v1 H1 f1 vs1 r1=>z v1 H1 f1 vs1 r1) (λ_ _ z=>z) h⟩
def zmx (D:Mdf K (cl .co) "answer" "Count.answer" zbx Sa) (zs0:FnX P w K mg base "counted" 24 Si (zc8 VR CN CB CC)) (c:Cls K (cl .co)) (n1:zl K (cl .co) "low") (n2:zl K (cl .co) "high"):Mt P w K mg base (CX1 P w) (cl .co) "answer" 25 Sa (zbv cl VR CN CB CC .co):=by
 refine D.okX (k:=24) (fsN Sa) (λ_ _ _ _ s H vs Q E hr h=>?_);obtain⟨b,a,D,s,n,qn,rfl,hk,⟨dx,fs,eb,hf⟩,qo,vs,h⟩:=h;refine⟨_,(by ac_rfl),?_⟩;have int:∀(m:Int)(s':Vst),(Pg.ret (Av.th (Th.int m))).wp s' (OutQ VR a D (AvF H) H Q) (OutE VR CN CB CC a D H E)->OutQ VR a D IntR H Q m s':=λm s' z v H' f' vs' ev=>by have ev':v=.int m:=ev;subst ev';exact z _ H' f' vs' (Rep.int m)
 cases qn with
 | find _=>cases hk
 | str _ _=>cases hk
 | nth _=>cases hk
 | put _ _=>cases hk
 | cut _=>cases hk
 | cnt lo hi=>
 obtain⟨v,u,rfl,r1,r2⟩:=hf;unfold Out ansP at h;rw[Pg.wp_bind] at h;exact⟨_,rfl,_,rfl,_,rfl,b,cl .co,dx,_,_,rfl,eb,c,n1,rfl,_,rfl,b,cl .co,dx,_,_,rfl,eb,c,n2,rfl,a,D,s,n,lo,hi,v,u,rfl,vs,r1,r2,qo.1,qo.2,Pg.wp_mono int (λ_ _ z=>z) h⟩
def zqa (D:Mdf K (cl .nt) "answer" "Nth.answer" zcx Sa) (zuf:FnX P w K mg base "nth" 6 SB (zkf VR CN CB CC)) (c:Cls K (cl .nt)) (n1:zl K (cl .nt) "number"):Mt P w K mg base (CX1 P w) (cl .nt) "answer" 25 Sa (zbv cl VR CN CB CC .nt):=by
 refine D.okX (k:=24) (fsN Sa) (λ_ _ _ _ s H vs Q E hr h=>?_);obtain⟨b,a,D,s,n,qn,rfl,hk,⟨dx,fs,eb,hf⟩,qo,vs,h⟩:=h;refine⟨_,(by ac_rfl),?_⟩;have int:∀(m:Int)(s':Vst),(Pg.ret (Av.th (Th.int m))).wp s' (OutQ VR a D (AvF H) H Q) (OutE VR CN CB CC a D H E)->OutQ VR a D IntR H Q m s':=λm s' z v H' f' vs' ev=>by have ev':v=.int m:=ev;subst ev';exact z _ H' f' vs' (Rep.int m)
 cases qn with
 | find _=>cases hk
 | str _ _=>cases hk
 | cnt _ _=>cases hk
 | put _ _=>cases hk
 | cut _=>cases hk
 | nth i=>
 have hf:fs=_:=hf;subst hf;unfold Out ansP at h;rw[Pg.wp_bind] at h;exact⟨_,rfl,_,rfl,_,rfl,b,cl .nt,dx,_,_,rfl,eb,c,n1,rfl,a,D,s,n,i,rfl,vs,Pg.wp_mono (λt s1 z v1 H1 f1 vs1 r1=>z v1 H1 f1 vs1 r1) (λ_ _ z=>z) h⟩
def zqh (D:Mdf K (cl .pu) "answer" "Put.answer" zcv Sa) (zoU:FnX P w K mg base "put" 23 Sm (zd9 VR CN CB CC)) (c:Cls K (cl .pu)) (n1:zl K (cl .pu) "key") (n2:zl K (cl .pu) "worth"):Mt P w K mg base (CX1 P w) (cl .pu) "answer" 25 Sa (zbv cl VR CN CB CC .pu):=by
 refine D.okX (k:=24) (fsN Sa) (λ_ _ _ _ s H vs Q E hr h=>?_);obtain⟨b,a,D,s,n,qn,rfl,hk,⟨dx,fs,eb,hf⟩,qo,vs,h⟩:=h;refine⟨_,(by ac_rfl),?_⟩;have int:∀(m:Int)(s':Vst),(Pg.ret (Av.th (Th.int m))).wp s' (OutQ VR a D (AvF H) H Q) (OutE VR CN CB CC a D H E)->OutQ VR a D IntR H Q m s':=λm s' z v H' f' vs' ev=>by have ev':v=.int m:=ev;subst ev';exact z _ H' f' vs' (Rep.int m)
 cases qn with
 | find _=>cases hk
 | str _ _=>cases hk
 | cnt _ _=>cases hk
 | nth _=>cases hk
 | cut _=>cases hk
 | put k wo=>
 obtain⟨v,u,rfl,rk,rw'⟩:=hf;unfold Out ansP at h;rw[Pg.wp_bind] at h;exact⟨_,rfl,_,rfl,_,rfl,b,cl .pu,dx,_,_,rfl,eb,c,n1,rfl,_,rfl,b,cl .pu,dx,_,_,rfl,eb,c,n2,rfl,a,D,s,n,k,wo,v,u,rfl,vs,rk,qo,rw',Pg.wp_mono int (λ_ _ z=>z) h⟩
def zpV (D:Mdf K (cl .cu) "answer" "Cut.answer" zcw Sa) (ztP:FnX P w K mg base "cut" 23 Sb (zfT VR CN CB CC)) (c:Cls K (cl .cu)) (n1:zl K (cl .cu) "key"):Mt P w K mg base (CX1 P w) (cl .cu) "answer" 25 Sa (zbv cl VR CN CB CC .cu):=by
 refine D.okX (k:=24) (fsN Sa) (λ_ _ _ _ s H vs Q E hr h=>?_);obtain⟨b,a,D,s,n,qn,rfl,hk,⟨dx,fs,eb,hf⟩,qo,vs,h⟩:=h;refine⟨_,(by ac_rfl),?_⟩;have int:∀(m:Int)(s':Vst),(Pg.ret (Av.th (Th.int m))).wp s' (OutQ VR a D (AvF H) H Q) (OutE VR CN CB CC a D H E)->OutQ VR a D IntR H Q m s':=λm s' z v H' f' vs' ev=>by have ev':v=.int m:=ev;subst ev';exact z _ H' f' vs' (Rep.int m)
 cases qn with
 | find _=>cases hk
 | str _ _=>cases hk
 | cnt _ _=>cases hk
 | nth _=>cases hk
 | put _ _=>cases hk
 | cut k=>
 obtain⟨v,rfl,rk⟩:=hf;unfold Out ansP at h;rw[Pg.wp_bind] at h;exact⟨_,rfl,_,rfl,_,rfl,b,cl .cu,dx,_,_,rfl,eb,c,n1,rfl,a,D,s,n,k,v,rfl,vs,rk,qo,Pg.wp_mono int (λ_ _ z=>z) h⟩
end
abbrev zcl:Stmt:=inClass (top 86) 0
abbrev zbW:Stmt:=inClass (top 86) 1
def zfp (n:Int):List Qn->Pg (List Av)
 | []=>.ret []
 | q::r=>(ansP n q).bind λx=>(zfp n r).bind λxs=>.ret (x::xs)
structure QsAt (cl:Kd->Addr)(CA:Addr)(H:Hp)(qs:List Qn)(b:Addr):Prop where
 ob:∃(dx pl:Addr)(vs:QR),H b=some (.ins CA dx [("asks",.ref pl)])/\H pl=some (.lst vs)/\vs.length=qs.length/\∀(i:Nat)(q:Qn),qs[i]? =some q->∃b',vs[i]? =some (.ref b')/\QAt cl H q b'
def AvR (H:Hp):Av->V->Prop
 | .th t,v=>Rep H t v
 | .ls ps,v=>znl H ps v
def AvsR (H:Hp)(xs:List Av)(v:V):Prop:=∃(p:Addr)(vs:QR),v=.ref p/\H p=some (.lst vs)/\vs.length=xs.length/\∀(i:Nat)(x:Av)(u:V),xs[i]? =some x->vs[i]? =some u->AvR H x u
def AvN (p:Addr)(H:Hp)(x:Av)(u:V):Prop:=AvR H x u/\∀ps,x=.ls ps->u≠ .ref p
theorem AvN.keep (h:AvN p H x u)(t:Tups H H')(l:∀b xs,b≠p->H b=some (.lst xs)->H' b=some (.lst xs)):AvN p H' x u:=by
 refine⟨?_,h.2⟩;cases x with
 | th t'=>exact Rep.keep h.1 t
 | ls ps=>obtain⟨pp,xs,rfl,e,r,k⟩:=h.1;exact⟨pp,xs,rfl,l pp xs (λz=>h.2 ps rfl (by rw[z])) e,r.keep t,k⟩
def AvF.non {p:Addr}{o:HO}(h:AvF H0 H x u)(e:H0 p=some o):AvN p H x u:=by
 cases x with
 | th t=>exact⟨h,λ_ z=>by cases z⟩
 | ls ps=>exact⟨h.1,λ_ _ z=>by rw[h.2 p z] at e;cases e⟩
inductive zhZ (cl:Kd->Addr)(CA:Addr)(VR:VRT)(CN CB CC:Addr)(vs:QR)(H:Hp)(Q:L2.VK)(E:XK):Prop
 | mk (b a:Addr)(D:QP)(s:Vst)(n:Int)(qs:List Qn)(_:vs=[.ref b,.ref a,.int n])(_:QsAt cl CA H qs b)(_:qs.length<=100)(_:(∀q∈qs,QOk q)) (_:VR H a D s) (_:Out VR CN CB CC a D (zfp n qs) s AvsR H Q E):zhZ cl CA VR CN CB CC vs H Q E
inductive zhv (CA:Addr)(vs:QR)(H:Hp)(Q:L2.VK)(_E:XK):Prop
 | mk (a dx pl:Addr)(xs:QR)(_:vs=[.ref a,.ref pl])(_:H a=some (.ins CA dx [])) (_:H pl=some (.lst xs)) (_:∀(p:Addr)(H':Hp),H p=none->(∀b o,b≠a->H b=some o->H' b=some o)->H' a=some (.ins CA dx [("asks",.ref p)])->H' p=some (.lst xs)->Q .non H'):zhv CA vs H Q _E
section
variable {cl:Kd->Addr}
def znz (D:Mkd K mg "Also" A "Also.__init__" zcl ["self","asks"]) (zdg:mg "list" =none) (c:Cls K A) (n1:zl K A "asks"):Mkr P w K mg base "Also" A 1 ["self","asks"] (zhv A):=by
 refine D.ok (k:=0) (fsN ["self","asks"]) (λf cdv A' outer s H vs Q E hr h=>?_);obtain⟨a,dx,pl,xs,rfl,ea,el,q⟩:=h;refine⟨_,(by ac_rfl),?_⟩;refine⟨_,rfl,pl,xs,rfl,.inl (SqL.of el),λp hp=>?_⟩;have ea1:upd H p (.lst xs) a=some (.ins A dx []):=by rw[zc (zd ea hp)];exact ea
 refine⟨_,rfl,a,A,dx,[],rfl,ea1,c,n1,by decide,q p _ hp (λb o n e=>by rw[zc n,zc (zd e hp)];exact e) za ?_⟩;rw[zc (λz=>by rw[z] at hp;rw[hp] at ea;cases ea)];exact za
def zoR (I:VI C VR)(D:Mdf K CA "answer" "Also.answer" zbW Sa) (M:∀k∈zft,Mt P w K mg base (CX1 P w) (cl k) "answer" 25 Sa (zbv cl VR CN CB CC k)) (Cc:∀k∈zft,Cls K (cl k)) (c:Cls K CA) (n1:zl K CA "asks"):Mt P w K mg base (CX1 P w) CA "answer" 26 Sa (zhZ cl CA VR CN CB CC):=by
 refine D.okX (k:=25) (fsN Sa) (λ_ _ _ _ s H vs Q E hr h=>?_);obtain⟨b,a,D,st,n,qs,rfl,⟨dx,pl,vs0,eb,el,hl,hq⟩,h100,qo,vs,h⟩:=h;refine⟨_,(zw (zaa (zlQ (E:=E) (by rfl) (by rfl) (by rfl) zjf (zm.two (y1:= "vault") (y2:= "root") (j1:=1) (j2:=2) (c1:=s.heap.objs.size+1) (c2:=s.heap.objs.size+2) (by rfl) (by rfl) (by decide+kernel) (by decide+kernel) (by rfl) (by decide+kernel) (by decide+kernel) (by decide+kernel) (by rfl) (by rfl) (by decide+kernel) (by rfl) (by rfl) (by first | exact Or.inl rfl | exact Or.inr rfl) (by first | exact Or.inl rfl | exact Or.inr rfl) (by first | exact Or.inl rfl | exact Or.inr rfl) (by first | exact Or.inl rfl | exact Or.inr rfl)) rfl (by ac_rfl) (λ_ _ _=>zaO) (λ_ _ _=>(zj9 λW hW=>zes (pv 0) (Cc W hW) (M W hW) hr (by lia) zq5 (by ac_rfl)))))),?_⟩;refine⟨_,rfl,b,CA,dx,_,_,rfl,eb,c,n1,rfl,pl,rfl,⟨_,SqL.of el⟩,λp hp=>?_⟩;refine zaL (n:=qs.length) (λi acc H'=>∃(st':Vst)(xs:List Av),acc.length=i/\xs.length=i/\(∀(j:Nat)(x:Av)(u:V),xs[j]? =some x->acc[j]? =some u->AvN p H' x u)/\Frm D H H'/\VR H' a D st'/\H' p=some (.lst acc)/\
  (zfp n (qs.drop i)).wp st' (λys s1=>OutQ VR a D AvsR H Q (xs++ys) s1) (OutE VR CN CB CC a D H E)) ⟨st,[],rfl,rfl,λj x u z=>(by cases z),Frm.new hp,I.same vs (zj (Same.refl H) hp),za,h⟩ ?_ ?_ ?_ ?_
 ·rintro i acc H' hi ⟨st',xs,la,lx,rr,fr,vs',ep,hw⟩;exact⟨vs0,vs0[i],SqL.of (I.lst vs fr el),JB (by lia)⟩
 ·rintro acc H' ⟨st',xs,la,lx,rr,fr,vs',ep,hw⟩;exact⟨vs0,SqL.of (I.lst vs fr el),by lia⟩
 ·rintro i acc H' y H'' hi ⟨st',xs,la,lx,rr,fr,vs',ep,hw⟩ ⟨z1,z2⟩;subst z1;obtain⟨b',eb',qa⟩:=hq i qs[i] (JB hi);have ey:=z2 vs0 (SqL.of (I.lst vs fr el));rw[eb'] at ey;have ey2:=(JO ey).symm;subst ey2;have qa':=qa.go I vs fr;have hd:qs.drop i=qs[i]::qs.drop (i+1):=Jo hi;rw[hd] at hw;unfold zfp at hw;rw[Pg.wp_bind] at hw;obtain⟨dx',fs',eo,hf⟩:=qa';refine tt1 ⟨qs[i].kd,znk _,_,rfl,b',dx',fs',rfl,eo,Qn.noAns hf,_,rfl,_,rfl,b',a,D,st',n,qs[i],rfl,rfl,⟨dx',fs',eo,hf⟩,qo _ (Jn hi),vs',Pg.wp_mono (λx s1 z v H3 f3 vs3 r3=>?_) (OutE.on fr) hw⟩;have np:=I.not vs' ep (by intro kv z;cases z);have ep3:=f3 p _ np ep;have h0:H p=none:=hp;have tk:Tups H'' (upd H3 p (.lst (acc++ [v]))):=(I.tups vs' f3).trans (Tups.upd λxs z=>by rw[ep3] at z;cases z);have tk3:Tups H3 (upd H3 p (.lst (acc++ [v]))):=Tups.upd λxs z=>by rw[ep3] at z;cases z
  refine⟨ep3,Je (show acc.length < 1000000 by lia) (by decide+kernel),nxt hi ⟨s1,xs++ [x],by rw[JI,la];rfl,by rw[JI,lx];rfl,λj x' u e1 e2=>?_,zbP (fr.trans f3) h0,I.nl vs3 (NL.lst ep3),za,?_⟩⟩
  ·by_cases hj:j < i
   ·rw[No (by lia)] at e1 e2;exact(rr j x' u e1 e2).keep tk λb xs nb e=>by rw[zc nb];exact I.lst vs' f3 e
   ·rw[JY (by lia),lx] at e1;rw[JY (by lia),la] at e2;have ej:j - i=0:=by
     cases w:j - i with
     | zero=>rfl
     | succ k=>rw[w] at e1;cases e1
    rw[ej] at e1 e2;cases e1;cases e2;exact(AvF.non r3 ep).keep tk3 λb xs nb e=>by rw[zc nb];exact e
  ·rw[Pg.wp_bind] at z;refine Pg.wp_mono (λys s2 z2=>?_) (λ_ _ z=>z) z;rw[Ng];exact z2
 ·rintro acc H' ⟨st',xs,la,lx,rr,fr,vs',ep,hw⟩;rw[List.drop_length] at hw;have hw':OutQ VR a D AvsR H Q (xs++ []) st':=hw;rw[JP] at hw';exact hw' _ H' fr vs' ⟨p,acc,rfl,ep,by rw[la,lx],λi x u e1 e2=>(rr i x u e1 e2).1⟩
end
end Pv
namespace Pv
open PySem L2 PySem.NumText
abbrev zgE:Stmt:=top 27
abbrev zbK:Stmt:=top 28
abbrev zaG:Stmt:=top 29
abbrev zaR:Stmt:=top 30
theorem lt1 (c k:Nat):decide ([c] < [k])=decide (c < k):=by
 by_cases h:c < k
 ·rw[decide_eq_true h];exact decide_eq_true (by simp[List.cons_lt_cons_iff,h])
 ·rw[Jd h];exact Jd (by simp[List.cons_lt_cons_iff];lia)
def zte {c:Bool}{A B N:Prop}(b:c=false->N->B)(a:c=true->N->A)(rest:N):if c=true then A else B:=ifB (λh=>a h rest) (λh=>b h rest)
def zph:Sp:=λ_ _ _ _=>False
inductive zhH (vs:QR)(H:Hp)(Q:L2.VK)(_E:XK):Prop
 | mk (x:Str)(_:vs=[.str x])(_:(∀c∈x.cps.toList,Sign c)) (_:Q (.bl true) H):zhH vs H Q _E
def ThV (v:V):Prop:=(∃i:Int,v=.int i/\ -(10 ^ 30)<=i/\i<=10 ^ 30)\/∃x:Str,v=.str x/\ziD x
inductive zoE (vs:QR)(H:Hp)(Q:L2.VK)(_E:XK):Prop
 | mk (v:V)(d:Int)(_:vs=[v,.int d])(_:ThV v)(_:Q (.bl true) H):zoE vs H Q _E
inductive spWT (n:Nat)(vs:QR)(H:Hp)(Q:L2.VK)(_E:XK):Prop
 | mk (t:Th)(v:V)(d:Nat)(_:vs=[v,.int (d:Int)]) (_:Rep H t v) (_:Wf t) (_:dep t<=d) (_:dep t < n) (_:Q (.bl true) H):spWT n vs H Q _E
inductive spTW (n:Nat)(vs:QR)(H:Hp)(Q:L2.VK)(_E:XK):Prop
 | mk (ts:List Th)(v:V)(d:Nat)(_:vs=[v,.int (d:Int)]) (_:Rep H (.tup ts) v) (_:Wf (.tup ts)) (_:depL ts+1<=d) (_:depL ts < n) (_:Q (.bl true) H):spTW n vs H Q _E
inductive zmP (vs:QR)(H:Hp)(Q:L2.VK)(_E:XK):Prop
 | mk (t:Th)(v:V)(_:vs=[v])(_:Rep H t v)(_:Wf t)(_:dep t<=5)(_:Q (.bl true) H):zmP vs H Q _E
inductive zmt (vs:QR)(H:Hp)(Q:L2.VK)(_E:XK):Prop
 | mk (v:V)(_:vs=[v])(_:ThV v)(_:Q (.bl true) H):zmt vs H Q _E
def znm (D:Dfn K mg "has_signs_of_things" zaR ["text"]) (m_ord:mg "ord" =none) (zg5:mg "PERCENT" =some (.int 37 t5)):Fn P w K mg base "has_signs_of_things" 1 ["text"] zhH:=by
 refine D.ok (k:=0) (fsN ["text","sign"]) (λ_ _ _ _ _ H _ Q E hr h=>?_);obtain⟨x,rfl,hx,q⟩:=h;refine⟨_,(zf (zcy PassesOwn.never rfl (znq (pv 0)) (by ac_rfl)
 (zw (zbr (PW.pt (zil (znw (ziy zgO zgO zeg (pv 1) zeg)) (zhM (by ac_rfl))))
 (by ac_rfl)
 zai)))
 (by ac_rfl)),?_⟩
 refine⟨_,rfl,x,rfl,?_⟩;refine zkL (z:=x) (λi σ H'=>∃k,σ=[some (.str x),k]/\H'=H) ⟨_,rfl,rfl⟩ ?_ ?_
 ·rintro i c σ H' hc ⟨k,rfl,rfl⟩;have hs:Sign c:=hx c (by
   have:=(JZ (xs:=x.cps) (i:=i)).trans hc;exact JX this)
  obtain⟨h1,h2,h3⟩:=hs;have e1:(!decide ((⟨#[c]⟩:Str).cps.toList < (Str.ofString " ").cps.toList))=true:=by show(!decide ([c] < [32]))=true;rw[lt1,Jd (by lia)];rfl
  have e2:(!decide ((Str.ofString "~").cps.toList < (⟨#[c]⟩:Str).cps.toList))=true:=by show(!decide ([126] < [c]))=true;rw[lt1,Jd (by lia)];rfl
  refine⟨_,rfl,_,_,rfl,rfl,_,rfl,ifT e1 ?_⟩;refine⟨_,_,rfl,rfl,_,rfl,?_⟩;refine ifF (by rw[e2];rfl) ?_;refine⟨_,rfl,_,rfl,rfl,rfl,_,rfl,?_⟩;rw[zE];refine ifF (Jd ?_) ⟨_,rfl,rfl⟩;show¬((c:Int)=37);lia
 ·rintro σ H' ⟨k,rfl,rfl⟩;exact q
abbrev _root_.SI:List PySem.Str:=["thing","deep"]
def zmj {n:Nat}(D:Dfn K mg "is_tuple_within" zaG ["parts","deep"]) (zdR:Fn P w K mg base "is_thing_within" (2 * n+2) SI (spWT n)) (zC:mg "len" =none) (zaE:mg "MOST_PARTS" =some (.int 40 t2)):Fn P w K mg base "is_tuple_within" (2 * n+3) ["parts","deep"] (spTW n):=by
 refine D.ok (k:=2 * n+2) (fsN ["parts","deep","part"]) (λ_ _ _ _ _ H _ Q E hr h=>?_);obtain⟨ts,v,d,rfl,rv,hw,hd,hdn,q⟩:=h;cases rv with
 | @tup a xs _ e l h=>
 have h40:ts.length<=40:=hw.1;obtain⟨d',rfl⟩:∃d',d=d'+1:=⟨d - 1,by lia⟩;have ed:((d'+1:Nat):Int) - 1=(d':Int):=by lia
 refine⟨_,(zf (by ac_rfl)
 (zf (zcy PassesOwn.never rfl (zjJ (pv 0)) (by ac_rfl)
 (by ac_rfl))
 (by ac_rfl))),?_⟩
 refine⟨_,rfl,rfl,_,rfl,?_⟩;rw[zE];refine ifF (Jd (by lia)) ?_;refine⟨_,rfl,a,xs,rfl,.inr (SqT.of e),_,_,rfl,rfl,_,rfl,ifF (Jd (by lia)) ?_⟩;refine⟨_,rfl,a,rfl,⟨_,SqT.of e⟩,?_⟩;refine zlc (xs:=xs) (λi σ H'=>∃kk,σ=[some (.ref a),some (.int ((d'+1:Nat):Int)),kk]/\H'=H) ⟨_,rfl,rfl⟩ ?_ ?_ ?_
 ·rintro i σ H' hi ⟨kk,rfl,rfl⟩;exact SqT.of e
 ·rintro i x σ H' hx ⟨kk,rfl,rfl⟩;have hil:i < ts.length:=by rw[<-l];exact(JH.mp hx).1
  have ht:ts[i]? =some ts[i]:=JB hil;have hdi:=zay ht;refine⟨_,rfl,_,rfl,_,_,rfl,rfl,ts[i],x,d',?_,h i x _ hx ht,hw.2.get ht,by lia,by lia,?_⟩
  ·show[x,V.int (((d'+1:Nat):Int) - 1)]=_;rw[ed]
  ·exact⟨_,rfl,ifF rfl ⟨some x,rfl,rfl⟩⟩
 ·rintro σ H' ⟨kk,rfl,rfl⟩;exact q
theorem zfu (D:Dfn K mg "is_thing_within" zbK SI) (Dt:Dfn K mg "is_tuple_within" zaG ["parts","deep"]) (zdf:Fn P w K mg base "is_whole" 1 SJ zkW) (zcb:Fn P w K mg base "has_signs_of_things" 1 ["text"] zhH)
  (zk:mg "isinstance" =none) (zO:mg "tuple" =none) (zeI:mg "str" =none) (zbs:mg "int" =none) (zC:mg "len" =none) (zoV:mg "abs" =none) (zb6:mg "MOST_SIGNS" =some (.int 60 t1)) (zaE:mg "MOST_PARTS" =some (.int 40 t2)):
  ∀n:Nat,Fn P w K mg base "is_thing_within" (2 * n+2) SI (spWT n)
 | 0=>D.never λvs H Q E h=>by obtain⟨t,v,d,_,_,_,_,h1,_⟩:=h;lia
 | n+1=>by
  have zlu:=zmj Dt (zfu D Dt zdf zcb zk zO zeI zbs zC zoV zb6 zaE n) zC zaE;refine D.ok (k:=2 * n+3) (fsN SI) (λ_ _ _ _ _ H _ Q E hr h=>?_);obtain⟨t,v,d,rfl,rv,hw,hd,hdn,q⟩:=h;refine⟨_,(zf (by ac_rfl)
 (zf (zbr (by ac_rfl)
 (zw (zaa (zc9 (zak zqR (zar (za1) (by rfl) zC (by rfl) (by ac_rfl)) (by ac_rfl) (zau _)) (zb0 (by ac_rfl)))))
 zai)
 (by ac_rfl))),?_⟩
  cases rv with
  | non=>refine⟨_,rfl,_,_,_,_,rfl,.non,rfl,_,rfl,ifF rfl ?_⟩;refine⟨_,rfl,_,_,_,_,rfl,.non,rfl,_,rfl,ifF rfl ?_⟩;refine⟨_,rfl,.inr ⟨rfl,_,rfl,ifF rfl ?_⟩⟩;exact⟨_,rfl,rfl,q⟩
  | int i=>
   have h0:=hw.1;have h1:=hw.2;refine⟨_,rfl,_,_,_,_,rfl,.int i,rfl,_,rfl,ifF rfl ?_⟩;refine⟨_,rfl,_,_,_,_,rfl,.int i,rfl,_,rfl,ifF rfl ?_⟩;refine⟨_,rfl,.inl ⟨i,rfl,_,rfl,ifT rfl ?_⟩⟩;refine⟨_,rfl,i,rfl,_,_,rfl,rfl,⟨by decide,by decide,by decide⟩,_,_,rfl,rfl,?_⟩;have e:decide ((if i < 0 then -i else i)<=(10:Int) ^ (30:Int).toNat)=true:=decide_eq_true (by
    show(if i < 0 then -i else i)<=(10:Int) ^ 30;split <;> lia)
   show Q (.bl (decide ((if i < 0 then -i else i)<=(10:Int) ^ (30:Int).toNat))) H;rw[e];exact q
  | str x=>have hl:x.length<=60:=hw.1;refine⟨_,rfl,_,_,_,_,rfl,.str x,rfl,_,rfl,ifF rfl ?_⟩;refine⟨_,rfl,_,_,_,_,rfl,.str x,rfl,_,rfl,ifT rfl ?_⟩;refine⟨_,rfl,x,rfl,szl (by lia),_,_,rfl,rfl,_,rfl,ifT (decide_eq_true (by lia)) ?_⟩;exact⟨_,rfl,x,rfl,hw.2,q⟩
  | @tup a xs ts e l h=>refine⟨_,rfl,_,_,_,_,rfl,.tup e,rfl,_,rfl,ifT rfl ?_⟩;have hd':depL ts+1<=d:=hd;have hdn':depL ts+1 < n+1:=hdn;exact⟨_,rfl,_,rfl,ts,_,d,rfl,.tup e l h,hw,hd',by lia,q⟩
def zrm (D:Dfn K mg "is_thing" zgE Se) (zdR:Fn P w K mg base "is_thing_within" 14 SI (spWT 6)) (zeL:mg "MOST_DEEP" =some (.int 5 t3)):Fn P w K mg base "is_thing" 15 Se zmP:=by refine D.ok (k:=14) (fsN Se) (λ_ _ _ _ _ H _ Q E hr h=>?_);obtain⟨t,v,rfl,rv,hw,hd,q⟩:=h;refine⟨_,(by ac_rfl),?_⟩;exact⟨_,rfl,t,v,5,rfl,rv,hw,hd,by lia,q⟩
end Pv
namespace Pv
open PySem L2
abbrev zbq:Stmt:=inClass (top 39) 0
structure G5 (t:Th):Prop where
 wf:Wf t
 dp:dep t<=5
 nd:nodes t<=80
def G5.good (g:G5 t):Good t:=⟨g.wf,Jg g.dp (by decide),g.nd⟩
def zu (ts:List Th):List (Int ×Th):=ts.foldl (λcs t=>addT cs (zh t) t) []
theorem zW {ts:List Th}{i:Nat}(h:i < ts.length):zu (ts.take (i+1))=addT (zu (ts.take i)) (zh ts[i]) ts[i]:=by
 unfold zu;rw[Na,JB h,List.foldl_append]
 rfl
theorem zbn:∀{ts:List Th}{i:Nat}{n:Int}{u:Th},zg (zu (ts.take i)) n=some u->u∈ts/\zh u=n
 | ts,0,n,u,h=>by cases h
 | ts,i+1,n,u,h=>by
  by_cases hi:i < ts.length
  ·rw[zW hi] at h;rcases zX h with h | ⟨rfl,rfl⟩
   ·exact zbn h
   ·exact⟨Jn hi,rfl⟩
  ·rw[Jr (by lia),<-Jr (i:=i) (show ts.length<=i by lia)] at h;exact zbn h
theorem zhn {ts:List Th}(g:∀t∈ts,G5 t):∀i,i<=ts.length->GoodC (zu (ts.take i))
 | 0,_=>GoodC.nil
 | i+1,h=>by rw[zW (show i < ts.length by lia)];exact(zhn g i (by lia)).add (g _ (Jn (by lia))).good rfl
theorem zcm (ts:List Th):∀i,i<=ts.length->(zu (ts.take i)).length<=i
 | 0,_=>Jb _
 | i+1,h=>by rw[zW (show i < ts.length by lia)];have:=zdv (zu (ts.take i)) (zh ts[i]) ts[i];have:=zcm ts i (by lia);lia
def zcu (ts:List Th):Prop:=∀t∈ts,∀u∈ts,zh t=zh u->t=u
def ClS (CC:Addr)(H:Hp)(E:XK):Prop:=∀(t1 t2:Th)(v1 v2:V)(H':Hp)(x:Addr),Same H H'->Rep H' t1 v1->Rep H' t2 v2->Good t1->Good t2->t1≠t2->zh t1=zh t2->H' x=some (xdO x [("one",v1),("other",v2)])->E (.ref CC) (some x) H'
inductive zke (C CC:Addr)(vs:QR)(H:Hp)(Q:L2.VK)(E:XK):Prop
 | mk (a d:Addr)(cs:QF)(t:Th)(v:V)(_:vs=[.ref a,v])(_:VS H C a d cs)(_:cs.length<=1000000)(_:Rep H t v)(_:Good t)(_:(¬Fits cs (zh t) t->ClS CC H E)) (_:∀H',Fr1 d H H'->Fits cs (zh t) t->VS H' C a d (addT cs (zh t) t)->Q (.int (zh t)) H'):zke C CC vs H Q E
def zpn (M:Mt P w K mg base (CX1 P w) C "lay" 14 Sh (zlf C CC)):Mt P w K mg base (CX1 P w) C "lay" 14 Sh (zke C CC):=Mt.imp M λvs H Q E h=>by
 obtain⟨a,d,cs,t,v,rfl,vs,hl,rt,gt,cl,q⟩:=h;obtain⟨kv,vo,dr⟩:=vs.vo;refine⟨a,d,kv,t,v,rfl,vo,dr.laidOk vs.gc.gd,by rw[dr.len];exact hl,rt,gt,λH' s alike=>?_,λt1 v1 H' s e1 r1 g1 se ne H2 x s2 ex=>?_⟩
 ·have ft:Fits cs (zh t) t:=by
   cases z:zg cs (zh t) with
   | none=>exact .inl z
   | some u=>obtain⟨y,ey,ry⟩:=dr.some z;rw[alike u y ey ry] at z;exact .inr z
  have ed':=s _ _ vo.di;have tk:Tups H (upd H' d (.dK (putK kv (.inl (zh t)) v))):=(Same.tups s).trans (Tups.upd λxs z=>by rw[ed'] at z;cases z);have fr:Fr1 d H (upd H' d (.dK (putK kv (.inl (zh t)) v))):=λb o n e=>by rw[zc n];exact s b o e
  obtain⟨⟨dx,fs,eo,fl⟩,ed⟩:=id vo;exact q _ fr ft ⟨⟨_,⟨⟨dx,fs,fr _ _ (zR eo ed (by intro z;cases z)) eo,fl⟩,za⟩,(dr.keep tk).add (rt.keep tk) ft vs.gc.nd⟩,vs.gc.add gt rfl⟩
 ·refine cl (λft=>ne ?_) t1 t v1 v H2 x (λb o e=>s2 b o (s b o e)) (r1.keep (Same.tups s2)) (rt.keep ((Same.tups s).trans (Same.tups s2))) g1 gt ne se ex;obtain⟨t',e',r'⟩:=dr.back e1;rcases ft with z | z
  ·rw[z] at e';cases e'
  ·rw[z] at e';cases e';exact Rep.uniq r1 (r'.keep (Same.tups s))
def Held (cs:QF)(ts:List Th):Prop:=∀t∈ts,zg cs (zh t)=some t
def zb3 (h:zcu ts){i:Nat}(hi:i < ts.length):zg (zu (ts.take i)) (zh ts[i])=none\/zg (zu (ts.take i)) (zh ts[i])=some ts[i]:=by
 cases e:zg (zu (ts.take i)) (zh ts[i]) with
 | none=>exact .inl rfl
 | some u=>obtain⟨hu,es⟩:=zbn e;rw[h u hu _ (Jn hi) es];exact .inr rfl
inductive spWI (W CC:Addr)(vs:QR)(H:Hp)(Q:L2.VK)(E:XK):Prop
 | mk (a pp dx:Addr)(pvs:QR)(ts:List Th)(_:vs=[.ref a,.ref pp])(_:H a=some (.ins W dx [])) (_:H pp=some (.lst pvs)) (_:RepL H ts pvs) (_:ts.length<=500) (_:(∀t∈ts,G5 t)) (_:(¬zcu ts->∀H',(∀b o,b≠a->H b=some o->H' b=some o)->ClS CC H' E)) (_:∀(d:Addr)(H':Hp),H d=none->(∀b o,b≠a->H b=some o->H' b=some o)->VS H' W a d (zu ts)->Held (zu ts) ts->Q .non H'):spWI W CC vs H Q E
def ztE (D:Mkd K mg x W "Witness.__init__" zbq ["self","paper"]) (zeo:Kfn P w K mg base "Vault" "__init__" 1 Sv (zbj W)) (zsD:Fn P w K mg base "is_thing" 15 Se zmP) (zg4:Mt P w K mg base (CX1 P w) W "lay" 14 Sh (zke W CC)) (zbf:XP K mg "BadThing" CB) (c_W:Cls K W):
  MkrX P w K mg base x W 16 ["self","paper"] (spWI W CC):=by
 refine D.okX (k:=15) (fsN ["self","paper","thing"]) (λ_ _ _ _ _ H _ Q E hr h=>?_);obtain⟨a,pp,dx,pvs,ts,rfl,ea,epp,rp,hl,hg,cl,q⟩:=h;refine⟨_,(by ac_rfl),?_⟩;refine⟨_,rfl,a,dx,rfl,ea,λd hd=>?_⟩;have ad:a≠d:=zd ea hd;have f0:∀b o,b≠a->H b=some o->upd (upd H d (.dK [])) a (.ins W dx [("laid",.ref d)]) b=some o:=λb o n e=>by rw[zc n,zc (zd e hd)];exact e
 have ea0:upd (upd H d (.dK [])) a (.ins W dx [("laid",.ref d)]) a=some (.ins W dx [("laid",.ref d)]):=za;have ed0:upd (upd H d (.dK [])) a (.ins W dx [("laid",.ref d)]) d=some (.dK []):=by rw[zc ad.symm];exact za
 generalize upd (upd H d (.dK [])) a (.ins W dx [("laid",.ref d)])=H0 at f0 ea0 ed0;have pa:pp≠a:=zR epp ea (by intro z;cases z);have epp0:=f0 _ _ pa epp;have tk0:Tups H H0:=λb xs e=>f0 b _ (zR e ea (by intro z;cases z)) e;have rp0:=rp.keep tk0;have hpv:=rp.len;have vs0:VS H0 W a d (zu (ts.take 0)):=⟨⟨[],⟨⟨dx,_,ea0,zkD d⟩,ed0⟩,.nil⟩,GoodC.nil⟩;refine⟨_,rfl,pp,rfl,⟨_,SqL.of epp0⟩,?_⟩;refine zck (xs:=pvs) (λi σ H'=>∃(k2:Option V),σ=[some (.ref a),some (.ref pp),k2]/\Fr1 d H0 H'/\VS H' W a d (zu (ts.take i))/\Held (zu (ts.take i)) (ts.take i)) ⟨_,rfl,Fr1.refl _ _,vs0,λt h=>by cases h⟩ ?_ ?_ ?_
 ·rintro i σ H' _ ⟨k2,rfl,f1,v1,_⟩;exact SqL.of (vs0.lst f1 epp0)
 ·rintro i y σ H' hy ⟨k2,rfl,f1,v1,h1⟩;have hil:i < ts.length:=by rw[<-hpv];exact(JH.mp hy).1
  have ht:ts[i]? =some ts[i]:=JB hil;have ry:=(rp0.at i y _ hy ht).keep (vs0.tups f1);have g:=hg ts[i] (Jn hil);have ea1:=f1 _ _ ad ea0;have ln:=zcm ts i (by lia);refine⟨_,rfl,ts[i],y,rfl,ry,g.wf,g.dp,_,rfl,ifF rfl ?_⟩;refine⟨_,rfl,a,dx,_,rfl,ea1,(zkD d).n2,_,rfl,a,d,_,ts[i],y,rfl,v1,by lia,ry,g.good,(λnf=>cl (λnt=>nf (zb3 nt hil)) H' λb o n e=>f1 b o (zd e hd) (f0 b o n e)),λH2 f2 ft v2=>?_⟩;refine⟨_,rfl,f1.trans f2,by rw[zW hil];exact v2,?_⟩;rw[zW hil];intro t ht';rw[Na,ht] at ht';rcases Jm.mp ht' with h | h
  ·exact za4 (h1 t h)
  ·have e:t=ts[i]:=by simpa using h
   rw[e];exact zaf ft
 ·rintro σ H' ⟨k2,rfl,f1,v1,h1⟩;rw[hpv,J1] at v1 h1;exact q d H' hd (λb o n e=>f1 b o (zd e hd) (f0 b o n e)) v1 h1
end Pv
namespace L2
open PySem PySem.Spec PyProof.Rows Px
def zpH {X:Cx}{e:Expr}{es:List Expr}{p pos:Pos}(M:MkrX X.prog X.w X.K X.mg X.base x C k ps sp)(hr:Room k' X.A)(hx:zas (CX1 X.prog X.w) X E)(ha:PA X (e::es) t)(hle:k+1<=k':=by lia)(hg:Gl X x:=by rfl)(hd:(x==("__debug__" :Str))=false:=by decide)
  (he:starEach (e::es) X.env=(false,eval e X.env)::starEach es X.env:=by rfl) (hpl:∀pos,(backTo pos (starEach es X.env)).any (·.1)=false:=by intro _;rfl):PE X (.Call (.Name x p) (e::es) [] pos) (zi8 C sp [] E t):=by
 obtain⟨f,fd,a,b,mk,mm⟩:=M.ex;exact zk6 mk a (hr.mono hle) hg mm b .nil hx ha hd he (hpl _)
end L2
namespace Pv
open PySem L2
abbrev ziO:Stmt:=top 42
inductive As where
 | one (q:Qn)
 | also (qs:List Qn)
inductive K7 where
 | k (k:Kd)
 | al
def As.kd:As->K7
 | .one q=>.k q.kd
 | .also _=>.al
def all7:List K7:=[.k .fi,.k .st,.k .co,.k .nt,.k .pu,.k .cu,.al]
def zod (k:K7):k∈all7:=by
 cases k with
 | k k=>cases k <;> simp[all7]
 | al=>simp[all7]
def cl7 (cl:Kd->Addr)(CA:Addr):K7->Addr
 | .k k=>cl k
 | .al=>CA
def AsAt (cl:Kd->Addr)(CA:Addr)(H:Hp):As->Addr->Prop
 | .one q,b=>QAt cl H q b
 | .also qs,b=>QsAt cl CA H qs b
def AsOk:As->Prop
 | .one q=>QOk q
 | .also qs=>qs.length<=100/\∀q∈qs,QOk q
inductive An where
 | one (x:Av)
 | many (xs:List Av)
def AnF (H0 H:Hp):An->V->Prop
 | .one x,v=>AvF H0 H x v
 | .many xs,v=>AvsR H xs v
def AnF.weak {H0':Hp}(h:AnF H0 H x v)(w:∀c,H0 c=none->H0' c=none):AnF H0' H x v:=by
 cases x with
 | many xs=>exact h
 | one x=>
  cases x with
  | th t=>exact h
  | ls ps=>exact⟨h.1,λpp e=>w pp (h.2 pp e)⟩
def asP (n:Int):As->Pg An
 | .one q=>(ansP n q).bind λx=>.ret (.one x)
 | .also qs=>(zfp n qs).bind λxs=>.ret (.many xs)
def AsAt.noAns {cl:Kd->Addr}{CA:Addr}{H:Hp}{q:As}{b:Addr}(h:AsAt cl CA H q b):∃dx fs,H b=some (.ins (cl7 cl CA q.kd) dx fs)/\fs.lookup ("answer" :Str)=none:=by
 cases q with
 | one q=>obtain⟨dx,fs,e,f⟩:=h;exact⟨dx,fs,e,Qn.noAns f⟩
 | also qs=>obtain⟨dx,pl,vs,e,_⟩:=h.ob;exact⟨dx,_,e,rfl⟩
theorem AsAt.same {cl:Kd->Addr}{CA:Addr}{H H':Hp}{q:As}{b:Addr}(h:AsAt cl CA H q b)(s:Same H H'):AsAt cl CA H' q b:=by
 cases q with
 | one q=>exact QAt.same h s
 | also qs=>obtain⟨dx,pl,vs,e,el,hl,hq⟩:=h.ob;refine⟨dx,pl,vs,s _ _ e,s _ _ el,hl,λi q hi=>?_⟩;obtain⟨b',e',qa⟩:=hq i q hi;exact⟨b',e',qa.same s⟩
inductive spAs (cl:Kd->Addr)(CA:Addr)(VR:VRT)(CN CB CC:Addr)(k7:K7)(vs:QR)(H:Hp)(Q:L2.VK)(E:XK):Prop
 | mk (b a:Addr)(D:QP)(s:Vst)(n:Int)(q:As)(_:vs=[.ref b,.ref a,.int n])(_:q.kd=k7)(_:AsAt cl CA H q b)(_:AsOk q)(_:VR H a D s)(_:Out VR CN CB CC a D (asP n q) s (AnF H) H Q E):spAs cl CA VR CN CB CC k7 vs H Q E
def ErS (CN CB CC:Addr)(H:Hp)(E:XK):Er->Prop
 | .bad=>∀H',Same H H'->E (.ref CB) none H'
 | .lacks=>∀H',Same H H'->E (.ref CN) none H'
 | .clash u t=>∀(x:Addr)(v1 v2:V)(H':Hp),Same H H'->Rep H' u v1->Rep H' t v2->Good u->Good t->u≠t->zh u=zh t->H' x=some (xdO x [("one",v1),("other",v2)])->E (.ref CC) (some x) H'
inductive zhK (cl:Kd->Addr)(CA W CN CB CC:Addr)(vs:QR)(H:Hp)(Q:L2.VK)(E:XK):Prop
 | mk (b pp:Addr)(n:Int)(q:As)(pvs:QR)(ts:List Th)(_:vs=[.int n,.ref b,.ref pp])(_:AsAt cl CA H q b)(_:AsOk q)(_:H pp=some (.lst pvs)) (_:RepL H ts pvs) (_:ts.length<=500) (_:(∀t∈ts,G5 t)) (_:(¬zcu ts->ClS CC H E)) (_:(Held (zu ts) ts->(asP n q).wp ⟨zu ts,[],[],900000⟩ (λx _=>∀v H',Same H H'->AnF H H' x v->Q v H') (λe _=>ErS CN CB CC H E e))):zhK cl CA W CN CB CC vs H Q E
section
variable {cl:Kd->Addr}
def mt7 (M:∀k∈zft,Mt P w K mg base (CX1 P w) (cl k) "answer" 25 Sa (zbv cl VR CN CB CC k)) (M':Mt P w K mg base (CX1 P w) CA "answer" 26 Sa (zhZ cl CA VR CN CB CC)):
  ∀k∈all7,Mt P w K mg base (CX1 P w) (cl7 cl CA k) "answer" 26 Sa (spAs cl CA VR CN CB CC k):=by
 intro k _;cases k with
 | k k=>
  refine Mt.mono (Mt.imp (M k (znk k)) λvs H Q E h=>?_) (by lia);obtain⟨b,a,D,s,n,q,rfl,hk,qa,qo,vr,h⟩:=h;cases q with
  | also qs=>cases hk
  | one q=>unfold Out asP at h;rw[Pg.wp_bind] at h;exact⟨b,a,D,s,n,q,rfl,K7.k.inj hk,qa,qo,vr,Pg.wp_mono (λx s1 z v H1 f1 v1 r1=>z v H1 f1 v1 r1) (λ_ _ z=>z) h⟩
 | al=>
  refine Mt.imp M' λvs H Q E h=>?_;obtain⟨b,a,D,s,n,q,rfl,hk,qa,qo,vr,h⟩:=h;cases q with
  | one q=>cases hk
  | also qs=>unfold Out asP at h;rw[Pg.wp_bind] at h;exact⟨b,a,D,s,n,qs,rfl,qa,qo.1,qo.2,vr,Pg.wp_mono (λx s1 z v H1 f1 v1 r1=>z v H1 f1 v1 r1) (λ_ _ z=>z) h⟩
abbrev _root_.SG:List PySem.Str:=["root","ask","paper"]
def zpr (D:Dfn K mg "checked" ziO SG) (zmF:MkrX P w K mg base "Witness" W 16 ["self","paper"] (spWI W CC)) (M:∀k∈all7,Mt P w K mg base (CX1 P w) (cl7 cl CA k) "answer" 26 Sa (spAs cl CA (VK W) CN CB CC k)) (Cc:∀k∈all7,Cls K (cl7 cl CA k)):FnX P w K mg base "checked" 27 SG (zhK cl CA W CN CB CC):=by
 refine D.okX (k:=26) (fsN SG) (λ_ _ _ _ _ H _ Q E hr h=>?_);obtain⟨b,pp,n,q,pvs,ts,rfl,qa,qo,epp,rp,hl,hg,cl',h⟩:=h;refine⟨_,(zw (zaa (zj9 λW hW=>zes (pv 1) (Cc W hW) (M W hW) hr (by lia) zaZ (zq (zpH zmF hr zaZ (by ac_rfl)) (zq (pv 0) zS))))),?_⟩;obtain⟨dx,fs,eb,hf⟩:=qa.noAns;refine⟨q.kd,zod _,_,rfl,b,dx,fs,rfl,eb,hf,_,rfl,λx dx' hx hdx nx=>?_⟩;have sm:Same H (upd (upd H dx' (.own x)) x (.ins W dx' [])):=zbB (zj (Same.refl H) hdx) hx;have ex:upd (upd H dx' (.own x)) x (.ins W dx' []) x=some (.ins W dx' []):=za;generalize upd (upd H dx' (.own x)) x (.ins W dx' [])=H1 at sm ex;refine⟨x,pp,dx',pvs,ts,rfl,ex,sm _ _ epp,rp.keep (Same.tups sm),hl,hg,(λnt H2 f2 t1 t2 v1 v2 H3 x3 s3=>cl' nt t1 t2 v1 v2 H3 x3 λc o e=>s3 c o (f2 c o (zd e hx) (sm c o e))),λd H2 hd f2 vs2 held=>⟨rfl,?_⟩⟩;have s2:Same H H2:=λc o e=>f2 c o (zd e hx) (sm c o e);have hd0:H d=none:=by
  cases y:H d with
  | none=>rfl
  | some o=>rw[sm _ _ y] at hd;cases hd
 have sf:∀{H3:Hp},Frm [d] H2 H3->Same H H3:=λf3 c o e=>f3 c o (λz=>by rw[Jj.mp z,hd0] at e;cases e) (s2 c o e);have nw:∀c,H2 c=none->H c=none:=λc e=>by
  cases y:H c with
  | none=>rfl
  | some o=>rw[s2 _ _ y] at e;cases e
 have ln:=zcm ts ts.length (Jb _);rw[J1] at ln;refine⟨_,rfl,b,x,[d],⟨zu ts,[],[],900000⟩,n,q,rfl,rfl,qa.same s2,qo,⟨⟨d,rfl,vs2⟩,rfl,by show(zu ts).length+900000<=1000000;lia⟩,Pg.wp_mono (λy s1 z v H3 f3 v3 r3=>z v H3 (sf f3) (AnF.weak r3 nw)) (λe s1 z=>?_) (h held)⟩;cases e with
 | bad=>exact λH3 f3 _=>z H3 (sf f3)
 | lacks=>exact λH3 f3 _=>z H3 (sf f3)
 | clash u t=>exact λx v1 v2 H3 f3 _=>z x v1 v2 H3 (sf f3)
end
abbrev za5:Stmt:=top 41
def zjC {R x dx:Addr}{H:Hp}{Z:Hp->Prop}(hx:H x=none)(hdx:H dx=none)(n:dx≠x)(q:∀dl dn H',Same H H'->H dl=none->H dn=none->dl≠dn->H' x=some (.ins R dx (rFs dl kp dn))->H' dl=some (.dK [])->H' dn=some (.dK [])->Z H'):
  zeY R [.ref x,.ref kp] (upd (upd H dx (.own x)) x (.ins R dx [])) (λv H2=>v=.non/\Z H2) E:=by
 refine⟨x,kp,dx,rfl,za,λdl dn H' f hl hn ne e1 e2 e3=>⟨rfl,?_⟩⟩;have un:∀b,upd (upd H dx (.own x)) x (.ins R dx []) b=none->H b=none:=λb hb=>by
  have xb:b≠x:=λz=>by rw[z,za] at hb;cases hb
  rw[zc xb] at hb;have db:b≠dx:=λz=>by rw[z,za] at hb;cases hb
  rw[zc db] at hb;exact hb
 refine q dl dn H' (λb o e=>?_) (un _ hl) (un _ hn) ne e1 e2 e3;have n1:=zd e hx;exact f b o n1 (by rw[zc n1,zc (zd e hdx)];exact e)
def zhD {R C kp dk x dx dl dn:Addr}{H H':Hp}{cs:QF}(s:Same H H')(hl:H dl=none)(hn:H dn=none)(ne:dl≠dn)(e1:H' x=some (.ins R dx (rFs dl kp dn)))(e2:H' dl=some (.dK []))(e3:H' dn=some (.dK []))(vs:VS H C kp dk cs):VRd R C kp dk H' x [dl,dn] ⟨[],cs,[],900000⟩:=by obtain⟨kv,vo,_⟩:=vs.vo;have n1:dk≠dl:=zd vo.di hl;have n2:dk≠dn:=zd vo.di hn;exact⟨⟨dl,dn,[],[],rfl,⟨⟨dx,e1⟩,e2,e3⟩,.nil,.nil,ne,n1,n2⟩,vs.same s,GoodC.nil,GoodC.nil,λn t u h _=>(by cases h),λn t h=>(by cases h),by show 0+900000<=1000000;decide,by show 0+900000<=1000000;decide⟩
def zdx {D:QP}(s:Same H H1)(hD:∀d∈D,H d=none)(f:Frm D H1 H2):Same H H2:=λb o e=>f b o (λz=>by rw[hD b z] at e;cases e) (s b o e)
theorem AvR.same (h:AvR H x v)(s:Same H H'):AvR H' x v:=by
 cases x with
 | th t=>exact Rep.keep h (Same.tups s)
 | ls ps=>obtain⟨pp,xs,e,el,r,k⟩:=h;exact⟨pp,xs,e,s _ _ el,r.keep (Same.tups s),k⟩
theorem AnF.same (h:AnF H0 H x v)(s:Same H H'):AnF H0 H' x v:=by
 cases x with
 | one x=>
  cases x with
  | th t=>exact Rep.keep h (Same.tups s)
  | ls ps=>obtain⟨pp,xs,e,el,r,k⟩:=h.1;exact⟨⟨pp,xs,e,s _ _ el,r.keep (Same.tups s),k⟩,h.2⟩
 | many xs=>obtain⟨p,vs,e,el,hl,r⟩:=h;exact⟨p,vs,e,s _ _ el,hl,λi x u e1 e2=>(r i x u e1 e2).same s⟩
def PprR (H0 H:Hp)(x:An)(nt:QF)(p:Addr):Prop:=∃(va:V)(l:Addr)(ns:List Int)(xs:QR),H p=some (.tup [va,.ref l])/\AnF H0 H x va/\H0 l=none/\ns.Perm (nt.map (·.1))/\ns.Pairwise (· <= ·)/\H l=some (.lst xs)/\RepL H (zH nt ns) xs
inductive zkz (cl:Kd->Addr)(CA C CN CB CC:Addr)(vs:QR)(H:Hp)(Q:L2.VK)(E:XK):Prop
 | mk (kp dk b:Addr)(cs:QF)(n:Int)(q:As)(_:vs=[.ref kp,.int n,.ref b])(_:VS H C kp dk cs)(_:AsAt cl CA H q b)(_:AsOk q)(_:(asP n q).wp ⟨[],cs,[],900000⟩ (λx s1=>s1.nt.length < 64/\∀(p:Addr)(H':Hp),Same H H'->GoodC s1.nt->PprR H H' x s1.nt p->Q (.ref p) H') (λe _=>ErS CN CB CC H E e)):zkz cl CA C CN CB CC vs H Q E
section
variable {cl:Kd->Addr}
abbrev _root_.Sf:List PySem.Str:=["keeper","root","ask"]
def zrK (D:Dfn K mg "answer_with_paper" za5 Sf) (ztQ:Mkr P w K mg base "Reader" R 2 SM (zeY R)) (zt5:Mt P w K mg base CX0 R "paper" 2 Sv (zhR R)) (c_R:Cls K R) (M:∀kp dk,∀k∈all7,Mt P w K mg base (CX1 P w) (cl7 cl CA k) "answer" 26 Sa (spAs cl CA (VRd R C kp dk) CN CB CC k)) (Cc:∀k∈all7,Cls K (cl7 cl CA k)):FnX P w K mg base "answer_with_paper" 27 Sf (zkz cl CA C CN CB CC):=by
 refine D.okX (k:=26) (fsN ["keeper","root","ask","reader","answer"]) (λ_ _ _ _ _ H vs Q E hr h=>?_);obtain⟨kp,dk,b,cs,n,q,rfl,vs,qa,qo,h⟩:=h;replace M:=M kp dk;refine⟨_,(zf (by ac_rfl)
 (zf (setA 4 rfl (zj9 λW hW=>zes (pv 2) (Cc W hW) (M W hW) hr (by lia) zaZ (by ac_rfl)))
 (by ac_rfl))),?_⟩
 refine⟨_,rfl,λx dx hx hdx nx=>zjC hx hdx nx λdl dn H1 s1 hl hn ne e1 e2 e3=>?_⟩;have vr:=zhD s1 hl hn ne e1 e2 e3 vs;obtain⟨dxb,fs,eb,hf⟩:=(qa.same s1).noAns;have hD:∀d∈ [dl,dn],H d=none:=λd hd=>by
  simp only[JD,JN,or_false] at hd;rcases hd with rfl | rfl
  ·exact hl
  ·exact hn
 have nw:∀c,H1 c=none->H c=none:=λc e=>by
  cases y:H c with
  | none=>rfl
  | some o=>rw[s1 _ _ y] at e;cases e
 refine⟨q.kd,zod _,_,rfl,b,dxb,fs,rfl,eb,hf,_,rfl,_,rfl,b,x,[dl,dn],⟨[],cs,[],900000⟩,n,q,rfl,rfl,qa.same s1,qo,vr,Pg.wp_mono (λy s2 z v H2 f2 v2 r2=>?_) (λe s2 z=>?_) h⟩
 ·have s02:=zdx s1 hD f2;obtain⟨dl',dn',kvs,nvs,eD,ro,d1,d2,_⟩:=v2.ro;obtain⟨⟨dx2,eo⟩,ed,en⟩:=id ro;refine⟨_,rfl,_,rfl,x,dx2,_,rfl,eo,rfl,x,dl',kp,dn',kvs,nvs,s2.nt,rfl,ro,d2,z.1,λl ns xs H3 s3 hl3 hp hs el rr=>?_⟩;refine⟨szl (show 2<=1000 by decide),λp hp3=>?_⟩;have s34:Same H3 (upd H3 p (.tup [v,.ref l])):=zj (Same.refl H3) hp3;have l0:H l=none:=by
   cases y:H l with
   | none=>rfl
   | some o=>rw[s02 _ _ y] at hl3;cases hl3
  refine z.2 p _ (λc o e=>s34 c o (s3 c o (s02 c o e))) v2.g2 ⟨v,l,ns,xs,za,((AnF.weak r2 nw).same s3).same s34,l0,hp,hs,s34 _ _ el,rr.keep (Same.tups s34)⟩
 ·cases e with
  | bad=>exact λH3 f3 _=>z H3 (zdx s1 hD f3)
  | lacks=>exact λH3 f3 _=>z H3 (zdx s1 hD f3)
  | clash u t=>exact λx v1 v2 H3 f3 _=>z x v1 v2 H3 (zdx s1 hD f3)
end
abbrev zeE:Stmt:=top 92
theorem take_snoc {l:List α}{i:Nat}(h:i < l.length):l.take (i+1)=l.take i++ [l[i]]:=by rw[Na,JB h];rfl
inductive zql (n:Nat)(vs:QR)(H:Hp)(Q:L2.VK)(_E:XK):Prop
 | mk (t:Th)(v:V)(_:vs=[v])(_:Rep H t v)(_:Wf t)(_:dep t < n)(_:dep t<=8)(_:nodes t<=10000)(_:∀u v' H',Same H H'->Wf u->dep u<=dep t->nodes u<=nodes t->(t≠ .non->u≠ .non)->Rep H' u v'->Q v' H'):zql n vs H Q _E
end Pv
namespace Pv
open PySem L2
open Tr
def allN:Tr->List Nd
 | nil=>[]
 | node l k w r=>ndT l k w r::(allN l++allN r)
theorem zfW:∀T:Tr,(allN T).length=T.cnt
 | nil=>rfl
 | node l k w r=>by rw[zt];show(allN l++allN r).length+1=_;rw[JI,zfW l,zfW r]
def zbU {nd:Nd}(h:nd∈allN l):nd∈allN (node l k w r):=Ji _ (Jp _ h)
def zda {nd:Nd}(h:nd∈allN r):nd∈allN (node l k w r):=Ji _ (Jh _ h)
theorem zeX:∀{T:Tr}{nd:Nd},nd∈wayN x T->nd∈allN T
 | nil,_,h=>h
 | node l k w r,nd,h=>by
  have h':nd∈ndT l k w r::(if k=x then[] else if zb k x=true then wayN x r else wayN x l):=h;rcases JD.mp h' with rfl | h'
  ·exact JL
  ·split at h'
   ·cases h'
   ·split at h'
    ·exact zda (zeX h')
    ·exact zbU (zeX h')
theorem zdO:∀{T:Tr}{nd:Nd},nd∈zgx T\/nd∈zgt T->nd∈allN T
 | nil,_,h=>by rcases h with h | h <;> exact h
 | node l k w r,nd,h=>by
  rcases h with h | h
  ·rcases JD.mp (show nd∈ndT l k w r::zgx r from h) with rfl | h
   ·exact JL
   ·exact zda (zdO (.inl h))
  ·rcases JD.mp (show nd∈ndT l k w r::zgt l from h) with rfl | h
   ·exact JL
   ·exact zbU (zdO (.inr h))
theorem all_own:∀{T l r:Tr}{k w:Th}{nd:Nd},own x T=node l k w r->nd∈allN (node l k w r)->nd∈allN T
 | nil,_,_,_,_,_,e,_=>by cases e
 | node l' k' w' r',l,r,k,w,nd,e,h=>by
  unfold own at e;split at e
  ·rw[e];exact h
  ·split at e
   ·exact zda (all_own e h)
   ·exact zbU (all_own e h)
def zpP {nd:Nd}(h:nd∈gapN x T):nd∈allN T:=by
 unfold gapN at h;cases z:own x T with
 | nil=>rw[z] at h;cases h
 | node l k w r=>
  rw[z] at h;rcases Jm.mp (show nd∈zgx l++zgt r from h) with h | h
  ·exact all_own z (zbU (zdO (.inl h)))
  ·exact all_own z (zda (zdO (.inr h)))
def zdq {nd:Nd}(h:nd∈topN T):nd∈allN T:=by
 cases T with
 | nil=>exact h
 | node l k w r=>rw[Jj.mp h];exact JL
theorem zhq:∀{T:Tr}{nd:Nd},nd∈cntN x T->nd∈allN T
 | nil,_,h=>h
 | node l k w r,nd,h=>by
  unfold cntN at h;split at h
  ·exact zbU (zhq h)
  ·rcases Jm.mp h with h | h
   ·exact zbU (zdq h)
   ·split at h
    ·cases h
    ·exact zda (zhq h)
theorem zh9:∀{T:Tr}{i:Int}{nd:Nd},nd∈nthN T i->nd∈allN T
 | nil,_,_,h=>h
 | node l k w r,i,nd,h=>by
  unfold nthN at h;rcases JD.mp h with rfl | h
  ·exact JL
  split at h
  ·cases h
  rcases Jm.mp h with h | h
  ·exact zbU (zdq h)
  split at h
  ·cases h
  split at h
  ·exact zbU (zh9 h)
  ·exact zda (zh9 h)
theorem zeW {cs:QF}:∀{T:Tr}{nd:Nd},TOk cs T->nd∈allN T->KeyT nd.k/\KeyT nd.w
 | nil,_,_,h=>by cases h
 | node l k w r,nd,tk,h=>by
  rcases JD.mp (show nd∈ndT l k w r::(allN l++allN r) from h) with rfl | h
  ·exact tk.kw
  ·rcases Jm.mp h with h | h
   ·exact zeW tk.l h
   ·exact zeW tk.r h
def AvK:Av->Prop
 | .th t=>dep t<=50
 | .ls ps=>∀p∈ps,dep (zaB p)<=50
def ziA (h:KeyT k/\KeyT w):dep (zaB (k,w))<=50:=by have h1:=h.1.dp;have h2:=h.2.dp;show max (dep k) (max (dep w) 0)+1<=50;lia
theorem zh8 {A:Th->Prop}{lo hi:Th}{e:Er->Vst->Prop}:∀{T:Tr}{f:Nat}{m:Int}{st:List Nd}{ps:QH}{s:Vst}{q:List (Th ×Th)->Vst->Prop},TOk s.all T->(T.cnt:Int) < m->2 * T.cnt<=f->3 * T.cnt<=s.n->(∀nd∈allN T,A nd.th)->(∀p∈ps,dep (zaB p)<=50)->
  (∀f' c ps' s',f<=f'+2 * T.cnt->Go A (3 * T.cnt) s s'->(∀p∈ps',dep (zaB p)<=50)->(strL lo hi f' 0 c st ps').wp s' q e)->(strL lo hi f T.root m st ps).wp s q e
 | nil,f,m,st,ps,s,q,_,_,_,_,_,hp,h=>h f m ps s (Jb _) (Go.refl s) hp
 | node l k w r,f,m,st,ps,s,q,tk,hm,hf,hn,hA,hp,h=>by
  have cn:=zt l k w r;have hlen:(l.ps++(k,w)::r.ps).length=(node l k w r).cnt:=rfl;have hc:(ndT l k w r).c=((node l k w r).cnt:Int):=rfl;obtain⟨f,rfl⟩:∃f0,f=f0+1:=⟨f - 1,by lia⟩;unfold strL;rw[if_neg (λz=>by cases zaJ.mp z),Pg.wp_bind];refine zcU (A:=A) tk hm (by lia) (hA _ JL) λs1 g1 _=>?_;have n1:=g1.n;have hl:∀nd∈allN l,A nd.th:=λnd hd=>hA nd (zbU hd);have hr:∀nd∈allN r,A nd.th:=λnd hd=>hA nd (zda hd)
  have back:∀f' c ps' s',f<=f'+2 * l.cnt->Go A (3+3 * l.cnt) s s'->(∀p∈ps',dep (zaB p)<=50)->(strL lo hi f' 0 c (ndT l k w r::st) ps').wp s' q e:=λf' c ps' s' hf' g' hp'=>by
   have n':=g'.n;obtain⟨f',rfl⟩:∃f0,f'=f0+1:=⟨f' - 1,by lia⟩;unfold strL;rw[if_pos rfl];have hp2:∀p∈(if inB lo hi (ndT l k w r)=true then ps'++ [((ndT l k w r).k,(ndT l k w r).w)] else ps'),dep (zaB p)<=50:=λp hq=>by
    split at hq
    ·rcases Jm.mp hq with hq | hq
     ·exact hp' p hq
     ·rw[Jj.mp hq];exact ziA tk.kw
    ·exact hp' p hq
   show(strL lo hi f' (if zbd hi (ndT l k w r).k=true then(ndT l k w r).r else 0) (ndT l k w r).c st _).wp s' q e;generalize(if inB lo hi (ndT l k w r)=true then ps'++ [((ndT l k w r).k,(ndT l k w r).w)] else ps')=ps2 at hp2;by_cases c2:zbd hi (ndT l k w r).k=true
   ·rw[if_pos c2];exact zh8 (T:=r) (tk.go g').r (by lia) (by lia) (by lia) hr hp2 λf2 c2 ps3 s3 h1 g3 h3=>h f2 c2 ps3 s3 (by lia) ((g'.trans g3).mono (by lia)) h3
   ·rw[if_neg c2];exact h f' _ ps2 s' (by lia) (g'.mono (by lia)) hp2
  have goL:∀s2,Go A 3 s s2->(strL lo hi f (if zbc lo (ndT l k w r).k=true then(ndT l k w r).l else 0) (ndT l k w r).c (ndT l k w r::st) ps).wp s2 q e:=λs2 g2=>by
   have n2:=g2.n;by_cases c1:zbc lo (ndT l k w r).k=true
   ·rw[if_pos c1];exact zh8 (T:=l) (tk.go g2).l (by lia) (by lia) (by lia) hl hp λf' c ps' s' h1 g' h3=>back f' c ps' s' h1 (g2.trans g') h3
   ·rw[if_neg c1];exact back f _ ps s2 (by lia) (g2.mono (by lia)) hp
  rw[Pg.wp_bind];by_cases c0:(zbc lo (ndT l k w r).k && zbd hi (ndT l k w r).k)=true
  ·rw[if_pos c0];unfold sumP;rw[Pg.wp_bind];refine zcg (A:=A) (T:=l) (tk.go g1).l (by lia) (by lia) (λnd hd=>hl nd (zdq hd)) λs2 g2=>?_;have n2:=g2.n;rw[Pg.wp_bind];refine zcg (A:=A) (T:=r) ((tk.go g1).go g2).r (by lia) (by lia) (λnd hd=>hr nd (zdq hd)) λs3 g3=>?_;rw[if_pos (by lia)];exact goL s3 ((g1.trans (g2.trans g3)).mono (by lia))
  ·rw[if_neg c0];exact goL s1 (g1.mono (by lia))
def QK:Qn->Prop
 | .find k=>KeyT k
 | .str lo hi=>(lo=.non\/KeyT lo)/\(hi=.non\/KeyT hi)
 | .cnt lo hi=>(lo=.non\/KeyT lo)/\(hi=.non\/KeyT hi)
 | .nth _=>True
 | .put k w=>KeyT k/\KeyT w
 | .cut k=>KeyT k
def zm8 {cs:QF}{x:Th}{T:Tr}(tk:TOk cs T):dep (endW (wayN x T) x)<=50:=by
 unfold endW;cases z:(wayN x T).getLast? with
 | none=>exact JM _
 | some nd=>
  have:=(zeW tk (zeX (List.mem_of_getLast? z))).2.dp;show dep (if nd.k=x then nd.w else .non)<=50;split
  ·lia
  ·exact JM _
theorem zfb {cs:QF}:∀{T:Tr}{i:Int},TOk cs T->dep (nthV T i)<=50
 | nil,_,_=>JM _
 | node l k w r,i,tk=>by
  unfold nthV;split
  ·exact JM _
  ·split
   ·exact ziA tk.kw
   ·split
    ·exact zfb tk.l
    ·exact zfb tk.r
def zm6 {A:Th->Prop}{e:Er->Vst->Prop}(hc:∀u t s',e (.clash u t) s'){T:Tr}{s:Vst}{q:Av->Vst->Prop}(tk:TOk s.all T)(c9:T.cnt<=299)(ok:QK qn)(hn:3000<=s.n)(hA:∀nd∈allN T,A nd.th)(h:∀x s',Go A 3000 s s'->AvK x->q x s'):(ansP T.root qn).wp s q e:=by
 have hw:∀x,∀nd∈wayN x T,A nd.th:=λx nd hd=>hA nd (zeX hd);have hcn:∀x,∀nd∈cntN x T,A nd.th:=λx nd hd=>hA nd (zhq hd);have zz:∀{i:Int},AvK (.th (.int i)):=JM _;cases qn with
 | find k=>unfold ansP zhk;rw[Pg.wp_bind,Pg.wp_bind];exact zfR (A:=A) tk (by lia) (by lia) (by lia) (hw k) λs1 g1 _=>h _ s1 (g1.mono (by lia)) (zm8 tk)
 | str lo hi=>
  unfold ansP strP;rw[Pg.wp_bind];by_cases z:zcf lo hi=true
  ·rw[if_pos z];exact h _ s ((Go.refl s).mono (JM _)) (λp hp=>by cases hp)
  ·rw[if_neg z];refine zh8 (A:=A) (T:=T) tk (by lia) (by lia) (by lia) hA (λp hp=>by cases hp) λf c ps s1 hf g1 hp=>?_;obtain⟨f,rfl⟩:∃f0,f=f0+1:=⟨f - 1,by lia⟩;unfold strL;rw[if_pos rfl];exact h _ s1 (g1.mono (by lia)) hp
 | cnt lo hi=>
  unfold ansP zdr;rw[Pg.wp_bind];by_cases z:zcf lo hi=true
  ·rw[if_pos z];exact h _ s ((Go.refl s).mono (JM _)) zz
  ·rw[if_neg z,Pg.wp_bind];have lower:∀m s1,Go A 1000 s s1->(zfl T.root lo m).wp s1 (λi s2=>(Pg.ret (Av.th (.int i))).wp s2 q e) e:=λm s1 g1=>by
    have n1:=g1.n;unfold zfl;by_cases y:lo=.non
    ·rw[if_pos y];exact h _ s1 (g1.mono (by lia)) zz
    ·rw[if_neg y,Pg.wp_bind];exact zn6 (A:=A) (tk.go g1) (by lia) (hw lo) (hcn lo) λs2 g2=>h _ s2 ((g1.trans g2).mono (by lia)) zz
   by_cases y:hi=.non
   ·rw[if_pos y];exact zcg (A:=A) tk (by lia) (by lia) (λnd hd=>hA nd (zdq hd)) λs1 g1=>lower _ s1 (g1.mono (by lia))
   ·rw[if_neg y];exact zn6 (A:=A) tk (by lia) (hw hi) (hcn hi) λs1 g1=>lower _ s1 g1
 | nth i=>
  unfold ansP nthQ;rw[Pg.wp_bind];by_cases z:i < 0
  ·rw[if_pos z];exact h _ s ((Go.refl s).mono (JM _)) (JM _)
  ·rw[if_neg z];exact zhc (A:=A) tk (by lia) (by lia) (by lia) (λnd hd=>hA nd (zh9 hd)) λs1 g1=>h _ s1 (g1.mono (by lia)) (zfb tk)
 | put k w=>unfold ansP;rw[Pg.wp_bind];exact zj8 (A:=A) hc tk c9 ok.1 ok.2 (by lia) (hw k) λs1 g1 _=>h _ s1 (g1.mono (by lia)) zz
 | cut k=>unfold ansP;rw[Pg.wp_bind];exact zna (A:=A) hc tk (by lia) (hw k) (λnd hd=>hA nd (zpP hd)) λs1 g1 _=>h _ s1 (g1.mono (by lia)) zz
theorem zlg {A:Th->Prop}{e:Er->Vst->Prop}(hc:∀u t s',e (.clash u t) s'){T:Tr}(c9:T.cnt<=299)(hA:∀nd∈allN T,A nd.th):∀{qs:List Qn}{s:Vst}{q:List Av->Vst->Prop},TOk s.all T->(∀qn∈qs,QK qn)->3000 * qs.length<=s.n->(∀xs s',Go A (3000 * qs.length) s s'->xs.length=qs.length->(∀x∈xs,AvK x)->q xs s')->(zfp T.root qs).wp s q e
 | [],s,q,_,_,_,h=>h [] s (Go.refl s) rfl λx hx=>by cases hx
 | qn::qs,s,q,tk,ok,hn,h=>by
  have hl:(qn::qs).length=qs.length+1:=rfl;unfold zfp;rw[Pg.wp_bind];refine zm6 (A:=A) hc tk c9 (ok _ JL) (by lia) hA λx s1 g1 k1=>?_;have n1:=g1.n;rw[Pg.wp_bind];refine zlg hc c9 hA (tk.go g1) (λz hz=>ok z (Ji _ hz)) (by lia) λxs s2 g2 l2 k2=>h _ s2 ((g1.trans g2).mono (by lia)) (congrArg (· +1) l2) λy hy=>?_;rcases JD.mp hy with rfl | hy
  ·exact k1
  ·exact k2 y hy
def AsK:As->Prop
 | .one q=>QK q
 | .also qs=>qs.length<=5/\∀q∈qs,QK q
def AnK:An->Prop
 | .one x=>AvK x
 | .many xs=>xs.length<=100/\∀x∈xs,AvK x
def ztf {A:Th->Prop}{e:Er->Vst->Prop}(hc:∀u t s',e (.clash u t) s'){T:Tr}{s:Vst}{q:An->Vst->Prop}(tk:TOk s.all T)(c9:T.cnt<=299)(ok:AsK a)(hn:15000<=s.n)(hA:∀nd∈allN T,A nd.th)(h:∀x s',Go A 15000 s s'->AnK x->q x s'):(asP T.root a).wp s q e:=by
 cases a with
 | one qn=>unfold asP;rw[Pg.wp_bind];exact zm6 (A:=A) hc tk c9 ok (by lia) hA λx s1 g1 k1=>h _ s1 (g1.mono (by lia)) k1
 | also qs=>unfold asP;have:=ok.1;rw[Pg.wp_bind];exact zlg (A:=A) hc c9 hA tk ok.2 (by lia) λx s1 g1 l1 k1=>h _ s1 (g1.mono (by lia)) ⟨by lia,k1⟩
def QK.ok (h:QK qn):QOk qn:=by
 have d:∀{t:Th},KeyT t->dep t<=8:=λk=>Jg k.dp (by decide);have d':∀{t:Th},t=.non\/KeyT t->dep t<=8:=λk=>by
  rcases k with rfl | k
  ·exact JM _
  ·exact d k
 cases qn with
 | find k=>exact d h
 | str lo hi=>exact⟨d' h.1,d' h.2⟩
 | cnt lo hi=>exact⟨d' h.1,d' h.2⟩
 | nth i=>trivial
 | put k w=>exact h.1.good
 | cut k=>exact d h
def AsK.ok (h:AsK a):AsOk a:=by
 cases a with
 | one q=>exact QK.ok h
 | also qs=>exact⟨Jg h.1 (by decide),λq hq=>(h.2 q hq).ok⟩
def zlY {l:List Int}:∀{m:List Int},l.Nodup->(∀a∈l,a∈m)->l.length<=m.length:=by
 induction l with
 | nil=>intro m _ _;exact JM _
 | cons a l ih=>intro m hn hs;rw[Nh] at hn;have hm:=hs a JL;have h1:=ih (m:=m.erase a) hn.2 λb hb=>(List.mem_erase_of_ne (λz=>hn.1 (by rw[<-z];exact hb))).mpr (hs b (Ji _ hb));have h2:=List.length_pos_of_mem hm;rw[List.length_erase_of_mem hm] at h1;rw[JK];lia
def zmn {T:Tr}(g:GoodC nt)(h:∀n t,zg nt n=some t->∃nd∈allN T,t=nd.th):nt.length<=T.cnt:=by
 have hs:∀n∈nt.map (·.1),n∈(allN T).map λnd=>zh nd.th:=λn hn=>by obtain⟨t,e⟩:=zbJ hn;obtain⟨nd,hd,rfl⟩:=h n t e;exact Nl.mpr ⟨nd,hd,(g.dep e).2⟩
 have:=zlY g.nd hs;rw[JE,JE,zfW] at this;exact this
end Pv
namespace Pv
open PySem L2
abbrev Gs:=Int ×Int
def GOk (g:Gs):Prop:=g.2=0\/(g.2=1/\0<=g.1/\g.1 < 999999937)
structure RowA (H:Hp)(row:Addr)(g:Gs):Prop where
 le:H row=some (.lst [.int g.1,.int g.2])
 ok:GOk g
def rowF (c:Int):Gs:=if c % 2=0 then(c / 2,0) else((c % 999999937 * (c % 999999937) % 999999937 * (c % 999999937+11)+5) % 999999937,1)
def zy (g:Gs)(m:Int):Int:=if g.2=0 then g.1 % m else((g.1+32452843) * (g.1+86028121) % 999999937 * 49979687 ^ (4:Int).toNat+13) % m
def zv (g:Gs)(m:Int):Gs:=if g.2=0 then(g.1 / m,0) else((g.1+32452843) * (g.1+86028121) % 999999937,1)
def zad {m:Int}(h:0 < m):0<=zy g m/\zy g m < m:=by
 unfold zy;split
 ·exact⟨Ny _ (by lia),Jy _ h⟩
 ·exact⟨Ny _ (by lia),Jy _ h⟩
theorem RowA.keep (r:RowA H row g)(s:Same H H'):RowA H' row g:=⟨s _ _ r.le,r.ok⟩
theorem RowA.new {p:Addr}(r:RowA H row g)(h:H p=none):RowA (upd H p o) row g:=⟨by rw[zc (zd r.le h)];exact r.le,r.ok⟩
theorem RowA.ne {p:Addr}(r:RowA H row g)(h:H p=none):p≠row:=(zd r.le h).symm
def RowA.noT (r:RowA H row g):NoT [row] H:=λb hb xs z=>by cases Jj.mp hb;rw[r.le] at z;cases z
theorem RowA.upd {p:Addr}(r:RowA H row g)(n:p≠row):RowA (L2.upd H p o) row g:=⟨by rw[zc (Ne.symm n)];exact r.le,r.ok⟩
def chF (g:Gs):Nat:=SGs.cps.toList.getD (zy g 94).toNat 0
def zat:Nat->Gs->List Nat ×Gs
 | 0,g=>([],g)
 | n+1,g=>(chF g::(zat n (zv g 94)).1,(zat n (zv g 94)).2)
def zfo (g:Gs):List Nat ×Gs:=if zy g 9=8 then zat (zy (zv g 9) 61).toNat (zv (zv g 9) 61) else zat (zy g 9).toNat (zv g 9)
def zan (f:Gs->Th ×Gs):Nat->Gs->List Th ×Gs
 | 0,g=>([],g)
 | n+1,g=>((f g).1::(zan f n (f g).2).1,(zan f n (f g).2).2)
def twoF (n:Int):Th:=if n=0 then .str "raaAdRnaccsome" else if n=1 then .str "ElmfalQlaasome" else if n=2 then .int 251530379464423 else .int (-1285000000000000000)
def zcq (d0:Bool)(f:Gs->Th ×Gs)(g:Gs):Th ×Gs:=
 if zy g 7=0 then(.int (zy (zv g 7) 9 - 4),zv (zv g 7) 9) else
 if zy g 7=1 then(.int (zy (zv g 7) (2 * 10 ^ (30:Int).toNat+1) - 10 ^ (30:Int).toNat),zv (zv g 7) (2 * 10 ^ (30:Int).toNat+1)) else
 if zy g 7=2 then(twoF (zy (zv g 7) 4),zv (zv g 7) 4) else
 if zy g 7=3 then(.non,zv g 7) else
 if zy g 7=4\/d0=true then(.str (tx (zfo (zv g 7)).1),(zfo (zv g 7)).2) else f (zv g 7)
def zP:Nat->Gs->Th ×Gs
 | 0=>zcq true λg=>(.non,g)
 | d+1=>zcq false λg=>(.tup (zan (zP d) (zy g 4).toNat (zv g 4)).1,(zan (zP d) (zy g 4).toNat (zv g 4)).2)
theorem zgz:∀(n:Nat)(g:Gs),(zat n g).1.length=n/\∀c∈(zat n g).1,Sign c
 | 0,g=>⟨rfl,λc h=>by cases h⟩
 | n+1,g=>by
  obtain⟨h1,h2⟩:=zgz n (zv g 94);refine⟨congrArg (· +1) h1,λc hc=>?_⟩;rcases JD.mp hc with rfl | hc
  ·obtain⟨b0,b1⟩:=zad (g:=g) (m:=94) (by decide);have hl:(zy g 94).toNat < SGs.cps.toList.length:=by rw[zmS];lia
   unfold chF;rw[List.getD_eq_getElem?_getD,JB hl];exact zrL _ (Jn hl)
  ·exact h2 c hc
def zrD (g:Gs):atI SGs.cps.toList (zy g 94)=some (chF g):=by
 obtain⟨b0,b1⟩:=zad (g:=g) (m:=94) (by decide);have hl:(zy g 94).toNat < SGs.cps.toList.length:=by rw[zmS];lia
 have er:zy g 94=(((zy g 94).toNat:Nat):Int):=by lia
 rw[er,zdN (JB hl)];unfold chF;rw[List.getD_eq_getElem?_getD,JB hl];rfl
def zn4 (g:Gs):ziD (tx (zfo g).1):=by
 have key:∀n g,n<=60->ziD (tx (zat n g).1):=λn g h=>by obtain⟨h1,h2⟩:=zgz n g;exact⟨by rw[zm2,h1];exact h,by rw[show(tx (zat n g).1).cps.toList=(zat n g).1 from by simp[tx]];exact h2⟩
 unfold zfo;split
 ·have:=zad (g:=zv g 9) (m:=61) (by decide);exact key _ _ (by lia)
 ·have:=zad (g:=g) (m:=9) (by decide);exact key _ _ (by lia)
theorem zje {f:Gs->Th ×Gs}{d m:Nat}(hf:∀g,Wf (f g).1/\dep (f g).1<=d/\nodes (f g).1<=m):∀(n:Nat)(g:Gs),(zan f n g).1.length=n/\WfL (zan f n g).1/\depL (zan f n g).1<=d/\zK (zan f n g).1<=n * m
 | 0,g=>⟨rfl,trivial,JM _,JM _⟩
 | n+1,g=>by obtain⟨h1,h2,h3,h4⟩:=zje hf n (f g).2;obtain⟨a,b,c⟩:=hf g;refine⟨congrArg (· +1) h1,⟨a,h2⟩,Nat.max_le.mpr ⟨b,h3⟩,?_⟩;show nodes _+zK _<=_;rw[Nat.add_mul,Nat.one_mul];lia
def ziQ {d0:Bool}{f:Gs->Th ×Gs}{d m:Nat}(hm:1<=m)(hf:∀g,d0=false->Wf (f g).1/\dep (f g).1<=d/\nodes (f g).1<=m)(g:Gs):Wf (zcq d0 f g).1/\dep (zcq d0 f g).1<=d/\nodes (zcq d0 f g).1<=m:=by
 have e30:(10:Int) ^ (30:Int).toNat=1000000000000000000000000000000:=by decide+kernel
 unfold zcq;split
 ·have:=zad (g:=zv g 7) (m:=9) (by decide);exact⟨⟨by lia,by lia⟩,JM _,hm⟩
 split
 ·rw[e30];have:=zad (g:=zv g 7) (m:=2 * 1000000000000000000000000000000+1) (by decide);exact⟨⟨by lia,by lia⟩,JM _,hm⟩
 split
 ·unfold twoF;split
  ·exact⟨⟨by decide+kernel,by decide+kernel⟩,JM _,hm⟩
  split
  ·exact⟨⟨by decide+kernel,by decide+kernel⟩,JM _,hm⟩
  split
  ·exact⟨⟨by decide,by decide⟩,JM _,hm⟩
  ·exact⟨⟨by decide,by decide⟩,JM _,hm⟩
 split
 ·exact⟨trivial,JM _,hm⟩
 split
 ·exact⟨zn4 _,JM _,hm⟩
 ·rename_i h;exact hf _ (by cases d0 with | false=>rfl | true=>exact Jf (.inr rfl) h)
theorem zdY:∀(n:Nat)(g:Gs),n<=3->Wf (zP n g).1/\dep (zP n g).1<=n/\nodes (zP n g).1<=many n
 | 0,g,h=>ziQ (zi3 h) (λg z=>by cases z) g
 | n+1,g,h=>by refine ziQ (zi3 h) (λg _=>?_) g;obtain⟨h1,h2,h3,h4⟩:=zje (d:=n) (m:=many n) (λg=>zdY n g (by lia)) (zy g 4).toNat (zv g 4);have b:=zad (g:=g) (m:=4) (by decide);have hms:=zl4 (n:=n) (by lia);have h5:zK (zan (zP n) (zy g 4).toNat (zv g 4)).1<=3 * many n:=Jg h4 (Nat.mul_le_mul_right _ (by lia));exact⟨⟨by show(zan _ _ _).1.length<=40;lia,h2⟩,Nat.succ_le_succ h3,by show 1+zK _<=_;lia⟩
inductive zh7 (vs:QR)(H:Hp)(Q:L2.VK)(_E:XK):Prop
 | mk (c:Int)(_:vs=[.int c])(_:∀(r:Addr)(H':Hp),Same H H'->RowA H' r (rowF c)->H r=none->Q (.ref r) H'):zh7 vs H Q _E
inductive zbm (vs:QR)(H:Hp)(Q:L2.VK)(_E:XK):Prop
 | mk (row:Addr)(many:Int)(g:Gs)(_:vs=[.ref row,.int many])(_:RowA H row g)(_:0 < many)(_:many < 10 ^ 100)(_:∀H',Frm [row] H H'->RowA H' row (zv g many)->Q (.int (zy g many)) H'):zbm vs H Q _E
inductive zhU (vs:QR)(H:Hp)(Q:L2.VK)(_E:XK):Prop
 | mk (row:Addr)(g:Gs)(_:vs=[.ref row])(_:RowA H row g)(_:∀H',Frm [row] H H'->RowA H' row (zfo g).2->Q (.str (tx (zfo g).1)) H'):zhU vs H Q _E
inductive zfS (n:Nat)(vs:QR)(H:Hp)(Q:L2.VK)(_E:XK):Prop
 | mk (row:Addr)(deep:Nat)(g:Gs)(_:vs=[.ref row,.int (deep:Int)]) (_:RowA H row g) (_:deep < n) (_:deep<=3) (_:∀(v:V)(H':Hp),Frm [row] H H'->RowA H' row (zP deep g).2->Rep H' (zP deep g).1 v->Q v H'):zfS n vs H Q _E
def zp9 (D:Dfn K mg "_law_row" zgF ["cell"]):Fn P w K mg base "_law_row" 1 ["cell"] zh7:=by
 refine D.ok (k:=0) (fsN ["cell","low"]) (λ_ _ _ _ _ H _ Q E hr h=>?_);obtain⟨c,rfl,q⟩:=h;unfold rowF at q;refine⟨_,(by ac_rfl),?_⟩;refine⟨_,rfl,_,_,rfl,rfl,(show(0:Int) < 2 by decide),rfl,_,rfl,?_⟩;rw[zE];by_cases cc:c % 2=0
 ·rw[if_pos cc] at q;refine ifT (decide_eq_true cc) ⟨_,rfl,_,_,rfl,rfl,⟨by decide,by decide+kernel⟩,szl (show 2<=1000 by decide),λp hp=>?_⟩;exact q p _ (zj (Same.refl H) hp) ⟨za,.inl rfl⟩ hp
 ·rw[if_neg cc] at q;have b0:0<=c % 999999937:=Ny _ (by decide);have b1:c % 999999937 < 999999937:=Jy _ (by decide);refine ifF (Jd cc) ⟨_,rfl,_,_,rfl,rfl,(show(0:Int) < 999999937 by decide),?_⟩;generalize hd:c % 999999937=d at b0 b1 q;have g0:0<=d * d % 999999937:=Ny _ (by decide);have g1:d * d % 999999937 < 999999937:=Jy _ (by decide);refine⟨_,rfl,_,rfl,_,_,rfl,rfl,.inl ⟨by lia,by lia⟩,_,_,rfl,rfl,(show(0:Int) < 999999937 by decide),_,rfl,_,_,rfl,rfl,_,_,rfl,rfl,.inl ⟨by lia,by lia⟩,_,_,rfl,rfl,_,_,rfl,rfl,(show(0:Int) < 999999937 by decide),szl (show 2<=1000 by decide),λp hp=>?_⟩;exact q p _ (zj (Same.refl H) hp) ⟨za,.inr ⟨rfl,Ny _ (by decide),Jy _ (by decide)⟩⟩ hp
abbrev _root_.SD:List PySem.Str:=["row","many"]
def znT (D:Dfn K mg "_law_take" zfn SD):Fn P w K mg base "_law_take" 1 SD zbm:=by
 refine D.ok (k:=0) (fsN ["row","many","got"]) (λ_ _ _ _ _ H _ Q E hr h=>?_);obtain⟨row,many,⟨a,m⟩,rfl,⟨e,hm⟩,h0,h1,q⟩:=h;refine⟨_,(by ac_rfl),?_⟩;refine⟨_,rfl,row,_,_,_,rfl,rfl,SqL.of e,rfl,rfl,_,rfl,?_⟩;unfold zy zv at q;rcases hm with hm | ⟨hm,a0,a1⟩
 ·have hm':m=0:=hm;subst hm';rw[if_pos rfl,if_pos rfl] at q;refine ifT (by show decide (V.int 0=V.int 0)=true;decide) ?_;refine⟨_,rfl,row,_,_,_,rfl,rfl,SqL.of e,rfl,_,rfl,_,_,rfl,rfl,h0,?_⟩;refine⟨_,rfl,row,_,_,_,rfl,rfl,SqL.of e,rfl,_,rfl,_,_,rfl,rfl,⟨h0,h1⟩,_,rfl,row,_,_,_,rfl,rfl,e,rfl,?_⟩;exact⟨_,rfl,q _ (Frm.upd (by simp)) ⟨za,.inl rfl⟩⟩
 ·have hm':m=1:=hm;subst hm';rw[if_neg (show¬(1:Int)=0 by decide),if_neg (show¬(1:Int)=0 by decide)] at q;have a0:0<=a:=a0;have a1:a < 999999937:=a1;refine ifF (by show decide (V.int 1=V.int 0)=false;decide) ?_;refine⟨_,rfl,row,_,_,_,rfl,rfl,SqL.of e,rfl,_,_,rfl,rfl,_,rfl,row,_,_,_,rfl,rfl,SqL.of e,rfl,_,_,rfl,rfl,_,_,rfl,rfl,.inl ⟨by lia,by lia⟩,_,_,rfl,rfl,(show(0:Int) < 999999937 by decide),_,rfl,row,_,_,_,rfl,rfl,e,rfl,?_⟩;have z0:0<=(a+32452843) * (a+86028121) % 999999937:=Ny _ (by decide);have z1:(a+32452843) * (a+86028121) % 999999937 < 999999937:=Jy _ (by decide);refine⟨_,rfl,row,[V.int ((a+32452843) * (a+86028121) % 999999937),V.int 1],_,_,rfl,rfl,SqL.of za,rfl,_,_,rfl,rfl,⟨by decide,by decide,by decide⟩,_,_,rfl,rfl,.inl ⟨by lia,by lia⟩,_,_,rfl,rfl,_,rfl,_,_,rfl,rfl,h0,?_⟩;exact q _ (Frm.upd (by simp)) ⟨za,.inr ⟨rfl,z0,z1⟩⟩
def zor (D:Dfn K mg "_law_text" zfw ["row"]) (zbh:Fn P w K mg base "_law_take" 1 SD zbm) (zaC:mg "range" =none):Fn P w K mg base "_law_text" 2 ["row"] zhU:=by
 refine D.ok (k:=1) (fsN ["row","signs","many"]) (λ_ _ _ _ s H _ Q E hr h=>?_);obtain⟨row,g,rfl,R0,q⟩:=h;refine⟨_,(zf (by ac_rfl)
 (zf (setA 1 rfl (zkK zjP (pv 1) zeg))
 (zf (by ac_rfl)
 (zf (by ac_rfl)
 (zw (zaa (zkS PySem.F.plainAttrs_str PySem.F.slot_str_join PySem.F.type_str_join zkJ zeg (zq (za8 (zm.two (y1:= "signs") (y2:= "row") (j1:=1) (j2:=0) (c1:=s.heap.objs.size+2) (c2:=s.heap.objs.size+1) (by rfl) (by rfl) (by decide+kernel) (by decide+kernel) (by rfl) (by decide+kernel) (by decide+kernel) (by decide+kernel) (by rfl) (by rfl) (by decide+kernel) (by rfl) (by rfl) (by first | exact Or.inl rfl | exact Or.inr rfl) (by first | exact Or.inl rfl | exact Or.inr rfl) (by first | exact Or.inl rfl | exact Or.inr rfl) (by first | exact Or.inl rfl | exact Or.inr rfl)) rfl (by ac_rfl) (λ_ _ _=>zaO) (λ_ _ _=>(zbD zsj (pv 1) (by ac_rfl) (λ_ _=>rfl)))) zS)))))))),?_⟩
 refine⟨_,rfl,_,_,rfl,rfl,szl (by decide+kernel),?_⟩;refine⟨_,rfl,row,_,g,rfl,R0,(show(0:Int) < 9 by decide),(by decide+kernel),λH1 f1 R1=>?_⟩;have a:=zad (g:=g) (m:=9) (by decide);refine⟨_,rfl,rfl,_,rfl,?_⟩;unfold zfo at q;refine zr1 (fun σ' H'=>∃(n:Int)(g':Gs),σ'=[some (.ref row),some (.str SGs),some (.int n)]/\0<=n/\n<=60/\Frm [row] H H'/\RowA H' row g'/\∀H',Frm [row] H H'->RowA H' row (zat n.toNat g').2->Q (.str (tx (zat n.toNat g').1)) H') (λc k=>k _ _ ⟨_,_,rfl,a.1,by lia,f1,R1,by rw[zE] at c;rw[if_neg (Jq c)] at q;exact q⟩) (λc k=>?_) ?_
 ·rw[zE] at c;rw[if_pos (Jl c)] at q;refine⟨_,rfl,row,_,_,rfl,R1,(show(0:Int) < 61 by decide),(by decide+kernel),λH2 f2 R2=>?_⟩;have b:=zad (g:=zv g 9) (m:=61) (by decide);exact k _ _ ⟨_,_,rfl,b.1,by lia,f1.trans f2,R2,q⟩
 ·rintro σ' H2 ⟨n,g',rfl,n0,n60,f2,R2,q⟩;refine⟨rfl,_,rfl,_,rfl,by lia,by lia,λp hp=>?_⟩;have hHp:=f2.none_of hp (R2.ne hp);refine zaL (J:=Itr 0 n.toNat) (n:=n.toNat) (λi acc H'=>∃(ds:List Nat)(gi:Gs),acc=(ds.map λc=>tx [c]).map V.str/\ds.length=i/\zat n.toNat g'=(ds++(zat (n.toNat - i) gi).1,(zat (n.toNat - i) gi).2)/\Frm [row] H H'/\RowA H' row gi/\H' p=some (.lst acc)/\p≠row) ⟨[],g',rfl,rfl,rfl,zdC f2 hp,R2.new hp,za,R2.ne hp⟩ (by exact λi acc H' hi _=>hi) (by exact λacc H' _=>Jb _) ?_ ?_
  ·rintro i acc H' y H'' hi ⟨ds,gi,ha,hl,hs,f3,R3,ep,npr⟩ ⟨e1,e2⟩;subst e1 e2;refine tt1 ?_;refine⟨_,rfl,_,rfl,row,_,_,rfl,R3,(show(0:Int) < 94 by decide),(by decide+kernel),λH4 f4 R4=>?_⟩;have hal:acc.length=i:=by rw[ha,JE,JE,hl]
   refine⟨SGs,_,_,rfl,rfl,szl (by decide+kernel),zrD gi,f4.at ep (not1 npr),Je (show acc.length < 1000 by lia) (szl (Jb _)),nxt hi ⟨ds++ [chF gi],_,?_,by rw[JI,hl];rfl,?_,?_,R4.upd npr,za,npr⟩⟩
   ·rw[ha,JR,JR];rfl
   ·rw[hs,show n.toNat - i=(n.toNat - (i+1))+1 by lia,Ng];rfl
   ·exact zbP (f3.trans f4) hHp
  ·rintro acc H' ⟨ds,gi,ha,hl,hs,f3,R3,ep,npr⟩;rw[Nat.sub_self] at hs;have hs':zat n.toNat g'=(ds,gi):=by rw[hs];show(ds++ [],gi)=_;rw[JP]
   rw[hs'] at q;refine⟨_,p,ds.map λc=>tx [c],rfl,rfl,by rw[ep,ha],?_,?_⟩
   ·rw[zk3,show(Str.ofString "").length=0 from rfl];lia
   rw[zmT];exact q H' f3 R3
def Frm.tupsA {row:Addr}(f:Frm [row] H H')(r:RowA H row g):Tups H H':=Frm.tups f r.noT
theorem zlJ (d:Nat)(g:Gs):zP d g=zcq (decide (d=0)) (λg=>(.tup (zan (zP (d - 1)) (zy g 4).toNat (zv g 4)).1,(zan (zP (d - 1)) (zy g 4).toNat (zv g 4)).2)) g:=by
 cases d with
 | zero=>show zcq true _ g=zcq true _ g;unfold zcq;rw[if_pos (Or.inr rfl:zy g 7=4\/true=true),if_pos (Or.inr rfl:zy g 7=4\/true=true)]
 | succ d=>rfl
theorem zgG (D:Dfn K mg "_law_thing" zey ["row","deep"]) (zbh:Fn P w K mg base "_law_take" 1 SD zbm) (zkm:Fn P w K mg base "_law_text" 2 ["row"] zhU) (zaC:mg "range" =none) (zO:mg "tuple" =none):
  ∀n:Nat,Fn P w K mg base "_law_thing" (n+2) ["row","deep"] (zfS n)
 | 0=>D.never λvs H Q E h=>by obtain⟨row,deep,g,_,_,h1,_⟩:=h;lia
 | n+1=>by
  have zjj:=zgG D zbh zkm zaC zO n;refine D.ok (k:=n+2) (fsN ["row","deep","kind"]) (λ_ _ _ _ s H _ Q E hr h=>?_);obtain⟨row,deep,g,rfl,R0,d1,d3,q⟩:=h;refine⟨_,(zf (by ac_rfl)
 (zf (by ac_rfl)
 (zf (by ac_rfl)
 (zf (by ac_rfl)
 (zf (by ac_rfl)
 (zf (by ac_rfl)
 (zw (zaa (zd4 zbu (by rfl) zO (by rfl) (zq (za8 (zm.two (y1:= "row") (y2:= "deep") (j1:=0) (j2:=1) (c1:=s.heap.objs.size+1) (c2:=s.heap.objs.size+2) (by rfl) (by rfl) (by decide+kernel) (by decide+kernel) (by rfl) (by decide+kernel) (by decide+kernel) (by decide+kernel) (by rfl) (by rfl) (by decide+kernel) (by rfl) (by rfl) (by first | exact Or.inl rfl | exact Or.inr rfl) (by first | exact Or.inl rfl | exact Or.inr rfl) (by first | exact Or.inl rfl | exact Or.inr rfl) (by first | exact Or.inl rfl | exact Or.inr rfl)) rfl (by ac_rfl) (λ_ _ _=>zaO) (λ_ _ _=>(by ac_rfl))) zS)))))))))),?_⟩
  rw[zlJ] at q;unfold zcq at q;refine⟨_,rfl,row,_,_,rfl,R0,(show(0:Int) < 7 by decide),(by decide+kernel),λH1 f1 R1=>?_⟩;have no:∀{c:Int},decide (zy g 7=c)=false->¬zy g 7=c:=λh=>Jq h;refine⟨_,rfl,rfl,_,rfl,?_⟩;rw[zE];refine ifB (λc=>?_) (λc=>?_)
  ·rw[if_pos (Jl c)] at q;refine⟨_,rfl,row,_,_,rfl,R1,(show(0:Int) < 9 by decide),(by decide+kernel),λH2 f2 R2=>?_⟩;exact⟨_,_,rfl,rfl,q _ H2 (f1.trans f2) R2 (.int _)⟩
  rw[if_neg (no c)] at q;refine⟨_,rfl,rfl,_,rfl,?_⟩;rw[zE];refine ifB (λc=>?_) (λc=>?_)
  ·rw[if_pos (Jl c)] at q;refine⟨_,rfl,_,_,rfl,rfl,⟨by decide,by decide,by decide⟩,_,_,rfl,rfl,.inl ⟨by decide,by decide⟩,_,_,rfl,rfl,row,_,_,rfl,R1,(by decide+kernel),(by decide+kernel),λH2 f2 R2=>?_⟩;exact⟨_,_,rfl,rfl,⟨by decide,by decide,by decide⟩,_,_,rfl,rfl,q _ H2 (f1.trans f2) R2 (.int _)⟩
  rw[if_neg (no c)] at q;refine⟨_,rfl,rfl,_,rfl,?_⟩;rw[zE];refine ifB (λc=>?_) (λc=>?_)
  ·rw[if_pos (Jl c)] at q;refine⟨_,rfl,szl (show 4<=1000 by decide),λp hp=>?_⟩;refine⟨_,rfl,row,_,_,rfl,R1.new hp,(show(0:Int) < 4 by decide),(by decide+kernel),λH2 f2 R2=>?_⟩;have ep:=f2.at (za (H:=H1) (a:=p) (o:=.lst [.str ("raaAdRnaccsome" :Str),.str ("ElmfalQlaasome" :Str),.int 251530379464423,.int (-1285000000000000000)])) (not1 (R1.ne hp));have f02:Frm [row] H H2:=(zdC f1 hp).trans f2;have b:=zad (g:=zv g 7) (m:=4) (by decide);generalize zy (zv g 7) 4=r at b q;have fin:∀{v:V},atI [V.str ("raaAdRnaccsome" :Str),.str ("ElmfalQlaasome" :Str),.int 251530379464423,.int (-1285000000000000000)] r=some v->Rep H2 (twoF r) v->rIxL K (.ref p) (.int r) H2 Q:=λe1 r1=>⟨p,_,_,_,rfl,rfl,SqL.of ep,e1,q _ H2 f02 R2 r1⟩;rcases(show r=0\/r=1\/r=2\/r=3 by lia) with rfl | rfl | rfl | rfl
   ·exact fin rfl (.str _)
   ·exact fin rfl (.str _)
   ·exact fin rfl (.int _)
   ·exact fin rfl (.int _)
  rw[if_neg (no c)] at q;refine⟨_,rfl,rfl,_,rfl,?_⟩;rw[zE];refine ifB (λc=>?_) (λc=>?_)
  ·rw[if_pos (Jl c)] at q;exact q _ H1 f1 R1 .non
  rw[if_neg (no c)] at q;refine⟨_,rfl,rfl,_,rfl,?_⟩;rw[zE];refine ifB (λc1=>?_) (λc1=>?_)
  ·rw[if_pos (.inl (Jl c1))] at q;refine ifT rfl ?_;exact⟨_,rfl,row,_,rfl,R1,λH2 f2 R2=>q _ H2 (f1.trans f2) R2 (.str _)⟩
  refine⟨_,rfl,rfl,_,rfl,?_⟩;rw[zE];refine ifB (λc2=>?_) (λc2=>?_)
  ·have e0:deep=0:=by have:=Jl c2;lia
   rw[if_pos (.inr (decide_eq_true e0))] at q;exact⟨_,rfl,row,_,rfl,R1,λH2 f2 R2=>q _ H2 (f1.trans f2) R2 (.str _)⟩
  have dpos:(deep:Int)≠0:=Jq c2;have hde:(deep:Int) - 1=((deep - 1:Nat):Int):=by lia
  rw[if_neg (λz=>by
   rcases z with z | z
   ·exact no c1 z
   ·have:=Jl z;lia)] at q
  dsimp only at q;refine⟨_,rfl,row,_,_,rfl,R1,(show(0:Int) < 4 by decide),(by decide+kernel),λH2 f2 R2=>?_⟩;have b:=zad (g:=zv g 7) (m:=4) (by decide);generalize zy (zv g 7) 4=m at b q;generalize zv (zv g 7) 4=g0 at R2 q;refine⟨_,rfl,by lia,by lia,λp hp=>?_⟩;have f02:=f1.trans f2;have hHp:=f02.none_of hp (R2.ne hp);refine zaL (J:=Itr 0 m.toNat) (n:=m.toNat) (λi acc H'=>∃(ts:List Th)(gi:Gs),Reps H' ts acc/\ts.length=i/\zan (zP (deep - 1)) m.toNat g0=(ts++(zan (zP (deep - 1)) (m.toNat - i) gi).1,(zan (zP (deep - 1)) (m.toNat - i) gi).2)/\Frm [row] H H'/\RowA H' row gi/\H' p=some (.lst acc)/\p≠row) ⟨[],g0,Reps.nil,rfl,rfl,zdC f02 hp,R2.new hp,za,R2.ne hp⟩ (by exact λi acc H' hi _=>hi) (by exact λacc H' _=>Jb _) ?_ ?_
  ·rintro i acc H' y H'' hi ⟨ts,gi,rs,hl,hs,f3,R3,ep,npr⟩ ⟨e1,e2⟩;subst e1 e2;refine tt1 ?_;refine⟨_,rfl,_,rfl,_,_,rfl,rfl,row,deep - 1,gi,by show[V.ref row,V.int ((deep:Int) - 1)]=_;rw[hde],R3,by lia,by lia,λv H4 f4 R4 rt=>?_⟩;have tk:Tups H'' H4:=Frm.tups f4 R3.noT;have ep4:=f4.at ep (not1 npr);have tk2:Tups H4 (upd H4 p (.lst (acc++ [v]))):=Tups.upd λxs e=>by rw[ep4] at e;cases e
   have hal:acc.length=i:=by rw[rs.1,hl]
   refine⟨ep4,Je (show acc.length < 1000 by lia) (szl (Jb _)),nxt hi ⟨ts++ [(zP (deep - 1) gi).1],_,((rs.keep tk).keep tk2).snoc (rt.keep tk2),by rw[JI,hl];rfl,?_,zbP (f3.trans f4) hHp,R4.upd npr,za,npr⟩⟩
   rw[hs,show m.toNat - i=(m.toNat - (i+1))+1 by lia,Ng];rfl
  ·rintro acc H' ⟨ts,gi,rs,hl,hs,f3,R3,ep,npr⟩;rw[Nat.sub_self] at hs;have hs':zan (zP (deep - 1)) m.toNat g0=(ts,gi):=by rw[hs];show(ts++ [],gi)=_;rw[JP]
   rw[hs'] at q;refine⟨p,_,rfl,.inl ⟨SqL.of ep,λl hl2=>?_⟩⟩;exact q _ _ (zdC f3 hl2) (R3.new hl2) (.tup za rs.1 λi x t h1 h2=>(rs.2 i x t h1 h2).keep (Tups.new hl2))
abbrev zfd:Stmt:=top 93
abbrev zgS:Stmt:=top 97
mutual
def zQ:Th->Th
 | .int n=>if n= -1285000000000000000 then .int 251530379464423 else .int n
 | .tup ts=>.tup (zao ts)
 | .non=>.non
 | .str x=>if x= "ElmfalQlaasome" then .str "raaAdRnaccsome" else .str x
def zao:List Th->List Th
 | []=>[]
 | t::r=>zQ t::zao r
end
theorem zc6:∀ts:List Th,(zao ts).length=ts.length
 | []=>rfl
 | t::r=>by show(zao r).length+1=r.length+1;rw[zc6 r]
theorem zer:∀(ts:List Th)(t:Th),zao (ts++ [t])=zao ts++ [zQ t]
 | [],t=>rfl
 | u::r,t=>by show zQ u::zao (r++ [t])=zQ u::(zao r++ [zQ t]);rw[zer r t]
mutual
theorem ziq:∀t:Th,Wf t->Wf (zQ t)/\dep (zQ t)=dep t/\nodes (zQ t)=nodes t
 | .non,h=>⟨h,rfl,rfl⟩
 | .str x,h=>by
  unfold zQ;split
  ·exact⟨⟨by decide+kernel,by decide+kernel⟩,rfl,rfl⟩
  ·exact⟨h,rfl,rfl⟩
 | .int n,h=>by
  unfold zQ;split
  ·exact⟨⟨by decide,by decide⟩,rfl,rfl⟩
  ·exact⟨h,rfl,rfl⟩
 | .tup ts,h=>by
  obtain⟨h1,h2,h3⟩:=zgq ts h.2;refine⟨⟨by rw[zc6];exact h.1,h1⟩,?_,?_⟩
  ·show depL (zao ts)+1=depL ts+1;rw[h2]
  ·show 1+zK (zao ts)=1+zK ts;rw[h3]
theorem zgq:∀ts:List Th,WfL ts->WfL (zao ts)/\depL (zao ts)=depL ts/\zK (zao ts)=zK ts
 | [],h=>⟨h,rfl,rfl⟩
 | t::r,h=>by
  obtain⟨a1,a2,a3⟩:=ziq t h.1;obtain⟨b1,b2,b3⟩:=zgq r h.2;refine⟨⟨a1,b1⟩,?_,?_⟩
  ·show max (dep (zQ t)) (depL (zao r))=max (dep t) (depL r);rw[a2,b2]
  ·show nodes (zQ t)+zK (zao r)=nodes t+zK r;rw[a3,b3]
end
def ziV (t:Th):Th:=if zQ t=.non then .int 7 else zQ t
def zc2 (g:Gs):Th ×Gs:=(ziV (zP 2 g).1,(zP 2 g).2)
def zcn (g:Gs):KeyT (zc2 g).1:=by
 obtain⟨h1,h2,h3⟩:=zdY 2 g (by decide);obtain⟨a1,a2,a3⟩:=ziq _ h1;show KeyT (ziV _);unfold ziV;split
 ·exact⟨⟨by decide,by decide⟩,by decide,by decide,λz=>by cases z⟩
 ·rename_i hn;have m2:many 2=13:=by decide
  exact⟨a1,by lia,by lia,hn⟩
def keyF (ts:List Th)(g:Gs):Th ×Gs:=if ts=[] then zc2 g else if zy g 3 > 0 then(ts.getD (zy (zv g 3) ts.length).toNat .non,zv (zv g 3) ts.length) else zc2 (zv g 3)
def zpv {ts:List Th}{m:Int}(hn:ts≠ [])(h0:0<=m)(h1:m < ts.length):ts.getD m.toNat .non∈ts:=by
 have hl:m.toNat < ts.length:=by lia
 rw[List.getD_eq_getElem?_getD,JB hl];exact Jn hl
def zkM {ts:List Th}(h:∀t∈ts,KeyT t)(g:Gs):KeyT (keyF ts g).1:=by
 unfold keyF;split
 ·exact zcn g
 ·rename_i hn;have hl:=List.length_pos_iff.mpr hn;split
  ·have b:=zad (g:=zv g 3) (m:=ts.length) (by lia);exact h _ (zpv hn b.1 b.2)
  ·exact zcn _
inductive zfU (n:Nat)(vs:QR)(H:Hp)(Q:L2.VK)(_E:XK):Prop
 | mk (t:Th)(v:V)(_:vs=[v])(_:Rep H t v)(_:dep t < n)(_:dep t<=8)(_:nodes t<=10000)(_:∀v' H',Same H H'->Rep H' (zQ t) v'->Q v' H'):zfU n vs H Q _E
inductive zdm (vs:QR)(H:Hp)(Q:L2.VK)(_E:XK):Prop
 | mk (row:Addr)(g:Gs)(_:vs=[.ref row])(_:RowA H row g)(_:∀v H',Frm [row] H H'->RowA H' row (zc2 g).2->Rep H' (zc2 g).1 v->Q v H'):zdm vs H Q _E
inductive zhV (vs:QR)(H:Hp)(Q:L2.VK)(_E:XK):Prop
 | mk (row pl:Addr)(g:Gs)(xs:QR)(ts:List Th)(_:vs=[.ref row,.ref pl])(_:RowA H row g)(_:H pl=some (.lst xs)) (_:RepL H ts xs) (_:(∀t∈ts,KeyT t)) (_:ts.length<=100) (_:pl≠row) (_:∀v H',Frm [row] H H'->RowA H' row (keyF ts g).2->Rep H' (keyF ts g).1 v->Q v H'):zhV vs H Q _E
theorem zgp (D:Dfn K mg "_law_first" zeE Se) (zk:mg "isinstance" =none) (zO:mg "tuple" =none):
  ∀n:Nat,Fn P w K mg base "_law_first" (n+2) Se (zfU n)
 | 0=>D.never λvs H Q E h=>by obtain⟨t,v,_,_,h1,_⟩:=h;lia
 | n+1=>by
  have zjk:=zgp (P:=P) (w:=w) (base:=base) D zk zO n;refine D.ok (k:=n+2) (fsN Se) (λ_ _ _ _ _ H _ Q E hr h=>?_);obtain⟨t,v,rfl,rv,d1,d3,n3,q⟩:=h;have θ:=0;refine⟨_,(zf (zbr (zaA (zeZ hr) (pv 0) zeg (zau _))
 (by ac_rfl)
 zai)
 (zf (by ac_rfl)
 (zf (zbr (by ac_rfl)
 (zw (zaa (zd4 zbu (by rfl) zO (by rfl) (zq (za8 (zm.zero (by rfl) (by decide+kernel) (by decide+kernel) (by decide+kernel) (by rfl)) rfl (zjJ (pv 0)) (λ_ _ _=>zaO) (λ_ _ _=>(by ac_rfl))) zS))))
 zai)
 (by ac_rfl)))),?_⟩
  refine⟨_,rfl,t,.str "ElmfalQlaasome",rv,.str _,by lia,_,rfl,?_⟩;refine ifB (λc=>?_) (λc=>?_)
  ·have et:=(zV _ _).mp c;subst et;unfold zQ at q;rw[if_pos rfl] at q;exact q _ H (Same.refl H) (.str _)
  have c1:t≠ .str "ElmfalQlaasome" :=λz=>by rw[(zV _ _).mpr z] at c;cases c
  refine⟨_,rfl,_,rfl,t,.int (-1285000000000000000),rv,.int _,by lia,_,rfl,?_⟩;refine ifB (λc=>?_) (λc=>?_)
  ·have et:=(zV _ _).mp c;subst et;unfold zQ at q;rw[if_pos rfl] at q;exact q _ H (Same.refl H) (.int _)
  have c2:t≠ .int (-1285000000000000000):=λz=>by rw[(zV _ _).mpr z] at c;cases c
  cases rv with
  | non=>exact⟨_,rfl,_,_,_,_,rfl,.non,rfl,_,rfl,ifF rfl ⟨_,rfl,q _ H (Same.refl H) .non⟩⟩
  | int i=>unfold zQ at q;rw[if_neg (λz=>c2 (by rw[z]))] at q;exact⟨_,rfl,_,_,_,_,rfl,.int i,rfl,_,rfl,ifF rfl ⟨_,rfl,q _ H (Same.refl H) (.int i)⟩⟩
  | str x=>unfold zQ at q;rw[if_neg (λz=>c1 (by rw[z]))] at q;exact⟨_,rfl,_,_,_,_,rfl,.str x,rfl,_,rfl,ifF rfl ⟨_,rfl,q _ H (Same.refl H) (.str x)⟩⟩
  | @tup a xs ts e l hh=>
  have dt:dep (.tup ts)=depL ts+1:=rfl;refine⟨_,rfl,_,_,_,_,rfl,.tup e,rfl,_,rfl,ifT rfl ?_⟩;refine⟨_,rfl,a,rfl,⟨_,SqT.of e⟩,λp hp=>?_⟩;refine zaL (n:=xs.length) (λi acc H'=>Same H H'/\H' p=some (.lst acc)/\Reps H' (zao (ts.take i)) acc) ⟨zj (Same.refl H) hp,za,Reps.nil⟩ ?_ ?_ ?_ ?_
  ·rintro i acc H' hi ⟨sm,ep,rs⟩;exact⟨xs,xs[i],SqT.of (sm _ _ e),JB hi⟩
  ·rintro acc H' ⟨sm,ep,rs⟩;exact⟨xs,SqT.of (sm _ _ e),Jb _⟩
  ·rintro i acc H' y H'' hi ⟨sm,ep,rs⟩ ⟨z1,z2⟩;subst z1;have ey:=z2 xs (SqT.of (sm _ _ e));have hit:i < ts.length:=by lia
   have et:=JB hit;have dd:=zay et;have nn:=zdd et;have nl:=zfD ts;have n3':1+zK ts<=10000:=n3;have la:acc.length=i:=by rw[rs.1,zc6,Nt];lia
   refine tt1 ⟨_,rfl,ts[i],y,rfl,(hh i y ts[i] ey et).keep (Same.tups sm),by lia,by lia,by lia,λv' H3 s3 ru=>⟨s3 _ _ ep,Je (show acc.length < 1000000 by lia) (by decide+kernel),nxt hi ⟨zbB (λb o z=>s3 b o (sm b o z)) hp,za,?_⟩⟩⟩;rw[take_snoc hit,zer];have tk:Tups H3 (upd H3 p (.lst (acc++ [v']))):=Tups.upd λxs z=>by rw[s3 _ _ ep] at z;cases z
   exact((rs.keep (Same.tups s3)).snoc ru).keep tk
  ·rintro acc H' ⟨sm,ep,rs⟩;rw[l,J1] at rs;refine⟨p,acc,rfl,.inl ⟨SqL.of ep,λr hr'=>?_⟩⟩;have tk:Tups H' (upd H' r (.tup acc)):=Tups.new hr';exact q _ _ (zj sm hr') (.tup za rs.1 λi x t h1 h2=>(rs.2 i x t h1 h2).keep tk)
def znD (D:Dfn K mg "_law_some" zfd ["row"]) (zjk:Fn P w K mg base "_law_first" 6 Se (zfU 4)) (zjj:Fn P w K mg base "_law_thing" 6 ["row","deep"] (zfS 4)):Fn P w K mg base "_law_some" 7 ["row"] zdm:=by
 refine D.ok (k:=6) (fsN ["row","new"]) (λ_ _ _ _ _ H _ Q E hr h=>?_);obtain⟨row,g,rfl,R0,q⟩:=h;refine⟨_,(by ac_rfl),?_⟩;obtain⟨h1,h2,h3⟩:=zdY 2 g (by decide);have m2:many 2=13:=by decide
 refine⟨_,rfl,row,2,g,rfl,R0,by lia,by lia,λv H1 f1 R1 r1=>?_⟩;refine⟨_,v,rfl,r1,by lia,by lia,by lia,λv' H2 s2 r2=>?_⟩;have q:∀v,Rep H2 (ziV (zP 2 g).1) v->Q v H2:=λv r=>q v H2 (f1.trans (Frm.of s2)) (R1.keep s2) r;unfold ziV at q;refine⟨_,rfl,rfl,_,rfl,?_⟩;rw[zaP r2];by_cases z:zQ (zP 2 g).1=.non
 ·rw[if_pos z] at q;exact ifT (decide_eq_true z) (q _ (.int 7))
 ·rw[if_neg z] at q;exact ifF (Jd z) ⟨_,rfl,q _ r2⟩
abbrev _root_.SA:List PySem.Str:=["row","pool"]
def zpF (D:Dfn K mg "_law_key" zgS SA) (zbh:Fn P w K mg base "_law_take" 1 SD zbm) (zf6:Fn P w K mg base "_law_some" 7 ["row"] zdm) (zC:mg "len" =none):Fn P w K mg base "_law_key" 8 SA zhV:=by
 refine D.ok (k:=7) (fsN SA) (λ_ _ _ _ _ H _ Q E hr h=>?_);obtain⟨row,pl,g,xs,ts,rfl,R0,el,rl,hk,hl,npr,q⟩:=h;refine⟨_,(by ac_rfl),?_⟩;unfold keyF at q;refine⟨_,rfl,szl (show 0<=1000 by decide),λp hp=>?_⟩;have el1:upd H p (.lst []) pl=some (.lst xs):=by rw[zc (zd el hp)];exact el
 have f1:Frm [row] H (upd H p (.lst [])):=Frm.new hp;have R1:=R0.new (o:=.lst []) hp;have rl1:=rl.keep (Tups.new (o:=.lst []) hp);have ep:upd H p (.lst []) p=some (.lst []):=za;generalize upd H p (.lst [])=H1 at el1 f1 R1 rl1 ep;refine⟨pl,p,xs,[],ts,[],rfl,rfl,SqL.of el1,SqL.of ep,rl1,.nil,λt ht=>Jg (hk t ht).dp (by decide),?_⟩;have hxl:=rl.len;refine⟨_,rfl,?_⟩;by_cases z:ts=[]
 ·subst z;rw[if_pos rfl] at q;refine ifF rfl (ifF rfl ⟨_,rfl,row,g,rfl,R1,λv H2 f2 R2 r2=>q v H2 (f1.trans f2) R2 r2⟩)
 ·rw[if_neg z] at q;have hpos:=List.length_pos_iff.mpr z;have ne:eqL ts []=false:=by
   cases y:eqL ts [] with
   | false=>rfl
   | true=>exact Jf ((zdj _ _).mp y) z
  rw[ne];refine ifT rfl ⟨_,rfl,row,_,g,rfl,R1,(show(0:Int) < 3 by decide),(by decide+kernel),λH2 f2 R2=>?_⟩;have f12:=f1.trans f2;refine⟨_,_,rfl,rfl,_,rfl,?_⟩;by_cases c:zy g 3 > 0
  ·rw[if_pos c] at q;have el2:=f2.at el1 (not1 npr);have rl2:=rl1.keep (Frm.tupsA f2 R1);refine ifT (decide_eq_true c) ⟨_,rfl,_,rfl,_,rfl,pl,_,rfl,.inl (SqL.of el2),row,_,_,by show[V.ref row,V.int (xs.length:Int)]=_;rw[hxl],R2,(by lia),by omega +splitNatSub,λH3 f3 R3=>?_⟩;have b:=zad (g:=zv g 3) (m:=ts.length) (by lia);have el3:=f3.at el2 (not1 npr);have rl3:=rl2.keep (Frm.tupsA f3 R2);obtain⟨j,ej⟩:∃j:Nat,zy (zv g 3) ts.length=j:=⟨_,(Int.toNat_of_nonneg b.1).symm⟩;rw[ej] at b;rw[ej,Int.toNat_natCast] at q;have hit:j < ts.length:=by lia
   refine⟨pl,xs,_,xs[j],rfl,rfl,SqL.of el3,by rw[ej];exact zdN (JB (by lia)),q _ H3 (f12.trans f3) R3 (rl3.at j _ _ (JB (by lia)) ?_)⟩
   rw[List.getD_eq_getElem?_getD,JB hit];rfl
  ·rw[if_neg c] at q;exact ifF (Jd c) ⟨_,rfl,row,_,rfl,R2,λv H3 f3 R3 r3=>q v H3 (f12.trans f3) R3 r3⟩
abbrev zgw:Stmt:=top 98
def bndF (ts:List Th)(g:Gs):Th ×Gs:=(if zy (keyF ts g).2 4 > 0 then(keyF ts g).1 else .non,zv (keyF ts g).2 4)
def orF (t:Th)(n:Int):Th:=if truT t=true then t else .int n
def askA (ts:List Th)(kd:Int)(lo hi k:Th)(g:Gs):As:=
 if kd=0 then .one (.find k) else if kd=1 then .one (.str lo hi) else if kd=2 then .one (.cnt lo hi) else if kd=3 then .one (.nth (zy g (ts.length+3) - 1)) else
 if kd=4 then .one (.put k (zc2 g).1) else if kd=5 then .one (.cut k) else .also [.put k (orF lo 1),.find k,.cut (orF hi 2),.str lo hi,.cnt .non hi]
def askF (ts:List Th)(g:Gs):As:=
 askA ts (zy g 7) (bndF ts (zv g 7)).1 (bndF ts (bndF ts (zv g 7)).2).1 (keyF ts (bndF ts (bndF ts (zv g 7)).2).2).1 (keyF ts (bndF ts (bndF ts (zv g 7)).2).2).2
def ze2 {ts:List Th}(h:∀t∈ts,KeyT t)(g:Gs):(bndF ts g).1=.non\/KeyT (bndF ts g).1:=by
 unfold bndF;by_cases c:zy (keyF ts g).2 4 > 0
 ·exact .inr (by rw[if_pos c];exact zkM h g)
 ·exact .inl (if_neg c)
def zn5 {t:Th}{n:Int}(hn:n=1\/n=2)(h:t=.non\/KeyT t):KeyT (orF t n):=by
 unfold orF;by_cases c:truT t=true
 ·rw[if_pos c];rcases h with rfl | h
  ·cases c
  ·exact h
 ·rw[if_neg c];rcases hn with rfl | rfl <;> exact⟨⟨by decide,by decide⟩,by show(0:Nat)<=3;decide,by show(1:Nat)<=20;decide,λz=>by cases z⟩
def zrk {ts:List Th}(h:∀t∈ts,KeyT t)(g:Gs):AsK (askF ts g):=by
 have l:=ze2 h (zv g 7);have u:=ze2 h (bndF ts (zv g 7)).2;have k:=zkM h (bndF ts (bndF ts (zv g 7)).2).2;unfold askF askA;split
 ·exact k
 split
 ·exact⟨l,u⟩
 split
 ·exact⟨l,u⟩
 split
 ·trivial
 split
 ·exact⟨k,zcn _⟩
 split
 ·exact k
 ·refine⟨Jb 5,λq hq=>?_⟩;simp only[JD,JN,or_false] at hq;rcases hq with rfl | rfl | rfl | rfl | rfl
  ·exact⟨k,zn5 (.inl rfl) l⟩
  ·exact k
  ·exact zn5 (.inr rfl) u
  ·exact⟨l,u⟩
  ·exact⟨.inl rfl,u⟩
def zdA {C x dx:Addr}{H:Hp}(hx:H x=none)(hdx:H dx=none)(n:dx≠x){H':Hp}(f:∀b o,b≠x->upd (upd H dx (.own x)) x (.ins C dx []) b=some o->H' b=some o):Same H H':=λb o e=>by have n1:=zd e hx;exact f b o n1 (by rw[zc n1,zc (zd e hdx)];exact e)
def ziS {cl:Kd->Addr}{x dx:Addr}{f:Str}{v:V}{q:Qn}{H:Hp}{Z:Hp->Prop}{E:XK}(hx:H x=none)(hdx:H dx=none)(n:dx≠x)(hf:∀H',Same H H'->q.fs H' [(f,v)])(z:∀H',Same H H'->QAt cl H' q x->Z H'):
  spI1 (cl q.kd) f [.ref x,v] (upd (upd H dx (.own x)) x (.ins (cl q.kd) dx [])) (λu H2=>u=.non/\Z H2) E:=
 ⟨x,dx,v,rfl,za,λH' f' e=>⟨rfl,z H' (zdA hx hdx n f') ⟨dx,_,e,hf H' (zdA hx hdx n f')⟩⟩⟩
def zgR {cl:Kd->Addr}{x dx:Addr}{f g:Str}{v u:V}{q:Qn}{H:Hp}{Z:Hp->Prop}{E:XK}(hx:H x=none)(hdx:H dx=none)(n:dx≠x)(hf:∀H',Same H H'->q.fs H' [(f,v),(g,u)])(z:∀H',Same H H'->QAt cl H' q x->Z H'):
  spI2 (cl q.kd) f g [.ref x,v,u] (upd (upd H dx (.own x)) x (.ins (cl q.kd) dx [])) (λu H2=>u=.non/\Z H2) E:=
 ⟨x,dx,v,u,rfl,za,λH' f' e=>⟨rfl,z H' (zdA hx hdx n f') ⟨dx,_,e,hf H' (zdA hx hdx n f')⟩⟩⟩
def zkU {σ:L2.St}{H:Hp}{Q:L2.VK}{xs:QR}{ts:List Th}(h0:σ[0]? =some (some (V.ref row)))(h1:σ[1]? =some (some (V.ref pl)))(R:RowA H row g)(el:H pl=some (.lst xs))(rl:RepL H ts xs)(hk:∀t∈ts,KeyT t)(hl:ts.length<=100)(npr:pl≠row)(q:∀v H',Frm [row] H H'->RowA H' row (bndF ts g).2->Rep H' (bndF ts g).1 v->Q v H'):
  tOp (rIxL K) (tLst (zeu (tC V.non) (zeu (zgo zhV [] E0 (zeu (tVar 0) (zeu (tVar 1) tNil))) tNil))) (tCB (λxs H Q=>(∃i,xs=[V.int i]/\Q (V.int i) H)\/∃k,xs=[V.bl k]/\Q (V.int (if k=true then 1 else 0)) H) (zeu (tOp (rI0 λi j=>V.bl (decide (j < i))) (zgo zbm [] E0 (zeu (tVar 0) (zeu (tC (V.int 4)) tNil))) (tC (V.int 0))) tNil)) σ H Q:=by
 refine⟨_,h0,_,h1,row,pl,g,xs,ts,rfl,R,el,rl,hk,hl,npr,λv H1 f1 R1 r1=>?_⟩;refine⟨szl (show 2<=1000 by decide),λp hp=>?_⟩;refine⟨_,h0,row,_,_,rfl,R1.new hp,(show(0:Int) < 4 by decide),(by decide+kernel),λH2 f2 R2=>?_⟩;have ep:=f2.at (za (H:=H1) (a:=p) (o:=.lst [.non,v])) (not1 (R1.ne hp));have r2:=(r1.keep (Tups.new (o:=.lst [.non,v]) hp)).keep (Frm.tupsA f2 (R1.new hp));have f02:=(zdC (o:=.lst [.non,v]) f1 hp).trans f2;refine⟨_,_,rfl,rfl,.inr ⟨_,rfl,?_⟩⟩;unfold bndF at q;by_cases c:zy (keyF ts g).2 4 > 0
 ·rw[if_pos c] at q;exact⟨p,_,_,v,rfl,rfl,SqL.of ep,by rw[decide_eq_true c];rfl,q v H2 f02 R2 r2⟩
 ·rw[if_neg c] at q;exact⟨p,_,_,.non,rfl,rfl,SqL.of ep,by rw[Jd c];rfl,q _ H2 f02 R2 .non⟩
inductive zjB (cl:Kd->Addr)(CA:Addr)(vs:QR)(H:Hp)(Q:L2.VK)(_E:XK):Prop
 | mk (row pl:Addr)(g:Gs)(xs:QR)(ts:List Th)(_:vs=[.ref row,.ref pl])(_:RowA H row g)(_:H pl=some (.lst xs)) (_:RepL H ts xs) (_:(∀t∈ts,KeyT t)) (_:ts.length<=100) (_:pl≠row) (_:∀b H',Frm [row] H H'->AsAt cl CA H' (askF ts g) b->Q (.ref b) H'):zjB cl CA vs H Q _E
section
variable {cl:Kd->Addr}
def zpN (D:Dfn K mg "_law_ask" zgw SA) (zbh:Fn P w K mg base "_law_take" 1 SD zbm) (zf6:Fn P w K mg base "_law_some" 7 ["row"] zdm) (zs1:Fn P w K mg base "_law_key" 8 SA zhV) (zC:mg "len" =none) (zbs:mg "int" =none)
  (zua:Mkr P w K mg base "Find" (cl .fi) 1 Sw (spI1 (cl .fi) "key")) (zs2:Mkr P w K mg base "Stretch" (cl .st) 1 Sq (spI2 (cl .st) "low" "high")) (zt6:Mkr P w K mg base "Count" (cl .co) 1 Sq (spI2 (cl .co) "low" "high")) (zug:Mkr P w K mg base "Nth" (cl .nt) 1 Sd (spI1 (cl .nt) "number")) (ztR:Mkr P w K mg base "Put" (cl .pu) 1 SE (spI2 (cl .pu) "key" "worth")) (ztS:Mkr P w K mg base "Cut" (cl .cu) 1 Sw (spI1 (cl .cu) "key")) (zsE:Mkr P w K mg base "Also" CA 1 ["self","asks"] (zhv CA)):Fn P w K mg base "_law_ask" 9 SA (zjB cl CA):=by
 refine D.ok (k:=8) (fsN ["row","pool","kind","low","high","key"]) (λf _ _ _ s H _ Q E hr h=>?_);obtain⟨row,pl,g,xs,ts,rfl,R0,el,rl,hk,hl,npr,q⟩:=h;refine⟨_,(zf (by ac_rfl)
 (zf (by ac_rfl)
 (zf (by ac_rfl)
 (zf (by ac_rfl)
 (zf (by ac_rfl)
 (zf (by ac_rfl)
 (zf (by ac_rfl)
 (zf (by ac_rfl)
 (zf (by ac_rfl)
 (zf (by ac_rfl)
 (zw (zaa (zhi zsE hr (zq (zhh (zq (zhi ztR hr (zq (pv 5) (zq (znH (pv 3) (zb0 zaH)) zS))) (zq (by ac_rfl) (zq (zhi ztS hr (zq (znH (pv 4) (zb0 zaH)) zS)) (zq (by ac_rfl) (zq (by ac_rfl) zS)))))) zS)))))))))))))),?_⟩
 have hxl:=rl.len;unfold askF at q;refine⟨_,rfl,row,_,g,rfl,R0,(show(0:Int) < 7 by decide),(by decide+kernel),λH1 f1 R1=>?_⟩;have el1:=f1.at el (not1 npr);have rl1:=rl.keep (Frm.tupsA f1 R0);generalize zy g 7=kd at q;generalize zv g 7=g1 at q R1;refine zkU rfl rfl R1 el1 rl1 hk hl npr λvl H2 f2 R2 r2=>?_;have el2:=f2.at el1 (not1 npr);have rl2:=rl1.keep (Frm.tupsA f2 R1);have wl:Wf (bndF ts g1).1:=by
  rcases ze2 hk g1 with z | z
  ·rw[z];trivial
  ·exact z.wf
 generalize(bndF ts g1).1=lo at q r2 wl;generalize(bndF ts g1).2=g2 at q R2;refine zkU rfl rfl R2 el2 rl2 hk hl npr λvh H3 f3 R3 r3=>?_;have el3:=f3.at el2 (not1 npr);have rl3:=rl2.keep (Frm.tupsA f3 R2);have r2:=r2.keep (Frm.tupsA f3 R2);have wh:Wf (bndF ts g2).1:=by
  rcases ze2 hk g2 with z | z
  ·rw[z];trivial
  ·exact z.wf
 generalize(bndF ts g2).1=hi at q r3 wh;generalize(bndF ts g2).2=g3 at q R3;refine⟨_,rfl,_,rfl,row,pl,g3,xs,ts,rfl,R3,el3,rl3,hk,hl,npr,λvk H4 f4 R4 r4=>?_⟩;have el4:=f4.at el3 (not1 npr);have r2:=r2.keep (Frm.tupsA f4 R3);have r3:=r3.keep (Frm.tupsA f4 R3);have f04:=f1.trans (f2.trans (f3.trans f4));generalize(keyF ts g3).1=k at q r4;generalize(keyF ts g3).2=g4 at q R4;clear f1 f2 f3 f4 R1 R2 R3 el1 el2 el3 rl1 rl2 rl3;unfold askA at q;have fin:∀{b:Addr}{H' H5:Hp},Frm [row] H H5->Same H5 H'->Frm [row] H H':=λf s=>f.trans (Frm.of s);refine⟨_,rfl,rfl,_,rfl,?_⟩;rw[zE];refine ifB (λc=>?_) (λc=>?_)
 ·rw[if_pos (Jl c)] at q;exact⟨_,rfl,λx dx hx hdx n=>ziS (q:=.find k) hx hdx n (λH' s=>⟨_,rfl,r4.keep (Same.tups s)⟩) λH' s qa=>q x H' (f04.trans (Frm.of s)) qa⟩
 rw[if_neg (Jq c)] at q;refine⟨_,rfl,rfl,_,rfl,?_⟩;rw[zE];refine ifB (λc=>?_) (λc=>?_)
 ·rw[if_pos (Jl c)] at q;exact⟨_,rfl,_,rfl,λx dx hx hdx n=>zgR (q:=.str lo hi) hx hdx n (λH' s=>⟨_,_,rfl,r2.keep (Same.tups s),r3.keep (Same.tups s)⟩) λH' s qa=>q x H' (f04.trans (Frm.of s)) qa⟩
 rw[if_neg (Jq c)] at q;refine⟨_,rfl,rfl,_,rfl,?_⟩;rw[zE];refine ifB (λc=>?_) (λc=>?_)
 ·rw[if_pos (Jl c)] at q;exact⟨_,rfl,_,rfl,λx dx hx hdx n=>zgR (q:=.cnt lo hi) hx hdx n (λH' s=>⟨_,_,rfl,r2.keep (Same.tups s),r3.keep (Same.tups s)⟩) λH' s qa=>q x H' (f04.trans (Frm.of s)) qa⟩
 rw[if_neg (Jq c)] at q;refine⟨_,rfl,rfl,_,rfl,?_⟩;rw[zE];refine ifB (λc=>?_) (λc=>?_)
 ·rw[if_pos (Jl c)] at q;refine⟨_,rfl,_,rfl,pl,_,rfl,.inl (SqL.of el4),_,_,rfl,rfl,row,_,g4,rfl,R4,by lia,by lia,λH5 f5 R5=>?_⟩;rw[hxl];exact⟨_,_,rfl,rfl,λx dx hx hdx n=>ziS (q:=.nth (zy g4 (ts.length+3) - 1)) hx hdx n (λH' s=>rfl) λH' s qa=>q x H' ((f04.trans f5).trans (Frm.of s)) qa⟩
 rw[if_neg (Jq c)] at q;refine⟨_,rfl,rfl,_,rfl,?_⟩;rw[zE];refine ifB (λc=>?_) (λc=>?_)
 ·rw[if_pos (Jl c)] at q;refine⟨_,rfl,_,rfl,row,g4,rfl,R4,λvw H5 f5 R5 r5=>?_⟩;have r4:=r4.keep (Frm.tupsA f5 R4);exact λx dx hx hdx n=>zgR (q:=.put k (zc2 g4).1) hx hdx n (λH' s=>⟨_,_,rfl,r4.keep (Same.tups s),r5.keep (Same.tups s)⟩) λH' s qa=>q x H' ((f04.trans f5).trans (Frm.of s)) qa
 rw[if_neg (Jq c)] at q;refine⟨_,rfl,rfl,_,rfl,?_⟩;rw[zE];refine ifB (λc=>?_) (λc=>?_)
 ·rw[if_pos (Jl c)] at q;exact⟨_,rfl,λx dx hx hdx n=>ziS (q:=.cut k) hx hdx n (λH' s=>⟨_,rfl,r4.keep (Same.tups s)⟩) λH' s qa=>q x H' (f04.trans (Frm.of s)) qa⟩
 rw[if_neg (Jq c)] at q
 have or1:∀{x:V}{t:Th}{n:Int}{H0:Hp}{Z:L2.VK},Rep H0 t x->Wf t->(∀u,Rep H0 (orF t n) u->Z u H0)->OrT x H0 Z (Z (.int n) H0):=λr wt z=>by
  unfold orF at z;refine⟨_,r,wt,λc=>?_,λc=>?_⟩
  ·rw[if_pos c] at z;exact z _ r
  ·rw[if_neg (by rw[c];exact Jc)] at z;exact z _ (.int _)
 refine⟨_,rfl,_,rfl,or1 r2 wl λu1 ru1=>?_⟩;refine λx1 d1 hx1 hd1 n1=>zgR (q:=.put k (orF lo 1)) hx1 hd1 n1 (λH' s=>⟨_,_,rfl,r4.keep (Same.tups s),ru1.keep (Same.tups s)⟩) λH5 s5 q1=>?_;refine⟨_,rfl,λx2 d2 hx2 hd2 n2=>ziS (q:=.find k) hx2 hd2 n2 (λH' s=>⟨_,rfl,r4.keep (Same.tups (s5.trans s))⟩) λH6 s6 q2=>?_⟩;have s46:=s5.trans s6;refine⟨_,rfl,or1 (r3.keep (Same.tups s46)) wh λu3 ru3=>?_⟩;refine λx3 d3 hx3 hd3 n3=>ziS (q:=.cut (orF hi 2)) hx3 hd3 n3 (λH' s=>⟨_,rfl,ru3.keep (Same.tups s)⟩) λH7 s7 q3=>?_;have s47:=s46.trans s7;refine⟨_,rfl,_,rfl,λx4 d4 hx4 hd4 n4=>zgR (q:=.str lo hi) hx4 hd4 n4 (λH' s=>⟨_,_,rfl,r2.keep (Same.tups (s47.trans s)),r3.keep (Same.tups (s47.trans s))⟩) λH8 s8 q4=>?_⟩;have s48:=s47.trans s8;refine⟨_,rfl,λx5 d5 hx5 hd5 n5=>zgR (q:=.cnt .non hi) hx5 hd5 n5 (λH' s=>⟨_,_,rfl,.non,r3.keep (Same.tups (s48.trans s))⟩) λH9 s9 q5=>?_⟩;refine⟨szl (show 5<=1000 by decide),λp hp=>?_⟩;have sp:Same H9 (upd H9 p (.lst [.ref x1,.ref x2,.ref x3,.ref x4,.ref x5])):=zj (Same.refl H9) hp;have ep:upd H9 p (.lst [.ref x1,.ref x2,.ref x3,.ref x4,.ref x5]) p=some (.lst [.ref x1,.ref x2,.ref x3,.ref x4,.ref x5]):=za;generalize upd H9 p (.lst [.ref x1,.ref x2,.ref x3,.ref x4,.ref x5])=H10 at sp ep;intro x6 d6 hx6 hd6 n6;refine⟨x6,d6,p,_,rfl,za,by rw[zc (zd ep hx6),zc (zd ep hd6)];exact ep,λp' H' hp' f' e1 e2=>⟨rfl,?_⟩⟩;have s':=zdA hx6 hd6 n6 f';have t9:=sp.trans s';have t8:=s9.trans t9;have t7:=s8.trans t8;have t6:=s7.trans t7;refine q x6 H' (f04.trans (Frm.of (s46.trans t6))) ⟨d6,p',_,e1,e2,rfl,λi qn hi=>?_⟩
 match i,hi with
 | 0,hi=>cases hi;exact⟨x1,rfl,q1.same (s6.trans t6)⟩
 | 1,hi=>cases hi;exact⟨x2,rfl,q2.same t6⟩
 | 2,hi=>cases hi;exact⟨x3,rfl,q3.same t7⟩
 | 3,hi=>cases hi;exact⟨x4,rfl,q4.same t8⟩
 | 4,hi=>cases hi;exact⟨x5,rfl,q5.same t9⟩
 | i+5,hi=>cases hi
end
end Pv
namespace Pv
open PySem L2
open Tr
abbrev zew:Stmt:=top 95
def hu_p (hr:Room k A):A.units+60 < cLine:=Jx (Nat.add_le_add_left (by decide:60<=64) _) hr.units
def zh6 (cl:Cl CC E)(u t:Th)(s:Vst):OutE VR CN CB CC a D H E (.clash u t) s:=λx v1 v2 H' _ _ r1 r2 g1 g2 ne sn ex=>cl u t v1 v2 H' x r1 r2 g1 g2 ne sn ex
def VK.at1 {C d p:Addr}{o:HO}(v:VK C H a [d] s)(e:H p=some o)(h1:∀C dx fs,o≠ .ins C dx fs)(h2:∀kv,o≠ .dK kv)(h3:∀xs,o≠ .tup xs)(f:Frm [p] H H'):VK C H' a [d] s:=by obtain⟨d',ed,⟨kv,⟨⟨dx,fs,eo,fl⟩,ek⟩,dr⟩,gc⟩:=v.vs;cases ed;refine⟨⟨d,rfl,⟨kv,⟨⟨dx,fs,f _ _ (not1 (zR eo e λz=>h1 _ _ _ z.symm)) eo,fl⟩,f _ _ (not1 (zR ek e λz=>h2 _ z.symm)) ek⟩,dr.keep λb xs q=>f b _ (not1 (zR q e λz=>h3 _ z.symm)) q⟩,gc⟩,v.kp,v.rm⟩
structure zq7 (C:Addr)(H:Hp)(a d:Addr)(st:Vst)(T:Tr):Prop where
 vk:VK C H a [d] st
 tk:TOk st.all T
 so:Srt T.ps
structure Pool (H:Hp)(pl:Addr)(ts:List Th):Prop where
 ex:∃xs,H pl=some (.lst xs)/\RepL H ts xs
 ky:∀t∈ts,KeyT t
def Pool.frm (p:Pool H pl ts)(f:Frm W H H')(n:pl∉W)(t:Tups H H'):Pool H' pl ts:=by obtain⟨xs,e,r⟩:=p.ex;exact⟨⟨xs,f _ _ n e,r.keep t⟩,p.ky⟩
structure Plain (w:World)(H:Hp)(pd:Addr)(n:Nat):Prop where
 ex:∃xs,H pd=some (TD w pd xs)/\Keyed H xs/\xs.length<=n
theorem Keyed.keep (k:Keyed H xs)(t:Tups H H'):Keyed H' xs:=⟨λx hx=>⟨(k.1 x hx).1.keep t,(k.1 x hx).2⟩,k.2⟩
def Plain.frm (p:Plain w H pd m)(f:Frm W H H')(n:pd∉W)(t:Tups H H'):Plain w H' pd m:=by obtain⟨xs,e,k,l⟩:=p.ex;exact⟨xs,f _ _ n e,k.keep t,l⟩
def zdP {o:HO}(h:∀f,o≠ .ext f):TD w pd xs≠o:=λz=>h _ z.symm
structure GS (C:Addr)(w:World)(a d pl pd:Addr)(H:Hp)(st:Vst)(T:Tr)(ts:List Th)(m:Nat):Prop where
 gr:zq7 C H a d st T
 po:Pool H pl ts
 pa:Plain w H pd m
theorem GS.same (g:GS C w a d pl pd H st T ts m)(s:Same H H'):GS C w a d pl pd H' st T ts m:=
 ⟨⟨(vi_K C).same g.gr.vk s,g.gr.tk,g.gr.so⟩,g.po.frm (W:=[]) (Frm.of s) (λz=>nomatch z) (Same.tups s),g.pa.frm (W:=[]) (Frm.of s) (λz=>nomatch z) (Same.tups s)⟩
theorem GS.row {C:Addr}{w:World}{a d pl pd row:Addr}{H H':Hp}{st:Vst}{T:Tr}{ts:List Th}{m:Nat}{r:Gs}(g:GS C w a d pl pd H st T ts m)(R:RowA H row r)(n:pl≠row)(f:Frm [row] H H'):GS C w a d pl pd H' st T ts m:=by obtain⟨xs,e,_⟩:=g.pa.ex;exact⟨⟨g.gr.vk.at1 R.le (by intro _ _ _ z;cases z) (by intro _ z;cases z) (by intro _ z;cases z) f,g.gr.tk,g.gr.so⟩,g.po.frm f (not1 n) (Frm.tupsA f R),g.pa.frm f (not1 (zR e R.le (zdP (by intro _ z;cases z)))) (Frm.tupsA f R)⟩
inductive zhw (C CC:Addr)(w:World)(vs:QR)(H:Hp)(Q:L2.VK)(E:XK):Prop
 | mk (a d cp pl pd:Addr)(cells:List Int)(_:vs=[.ref a,.ref cp,.ref pl,.ref pd])(_:VK C H a [d] ⟨[],[],[],1000000⟩)(_:H cp=some (.lst (cells.map V.int))) (_:cells.length<=30) (_:H pl=some (.lst [])) (_:cp≠pl) (_:Plain w H pd 0) (_:Cl CC E) (_:∀(T:Tr)(st:Vst)(ts:List Th)(H':Hp),Frm [d,pl,pd] H H'->zq7 C H' a d st T->Pool H' pl ts->T.cnt<=30->ts.length<=30->900000<=st.n->Q (.int T.root) H'):zhw C CC w vs H Q E
abbrev _root_.Sy:List PySem.Str:=["keeper","cells","pool","plain"]
def zm9 (D:Dfn K mg "_law_grown" zew Sy) (zmG:Fn P w K mg base "_law_row" 1 ["cell"] zh7) (zbh:Fn P w K mg base "_law_take" 1 SD zbm) (zf6:Fn P w K mg base "_law_some" 7 ["row"] zdm) (zoU:FnX P w K mg base "put" 23 Sm (zd9 (VK C) CN CB CC)) (ztP:FnX P w K mg base "cut" 23 Sb (zfT (VK C) CN CB CC)) (zC:mg "len" =none):
  FnX P w K mg base "_law_grown" 24 Sy (zhw C CC w):=by
 refine D.okX (k:=23) (fsN ["keeper","cells","pool","plain","root","cell","row","key"]) (λf _ A _ _ H _ Q E hr h=>?_);obtain⟨a,d,cp,pl,pd,cells,rfl,vk,ecp,hcl,epl,ncp,pd0,cl,q⟩:=h;refine⟨_,(zf (by ac_rfl)
 (zf (zcy PassesOwn.leaving rfl (by ac_rfl) (by ac_rfl)
 (zf (by ac_rfl)
 (zf (by ac_rfl)
 (zf (by ac_rfl)
 (zf (zbr (PW.pt (zka (by ac_rfl) (zky (zoB (zr8 (hu_t hr) (pv 7) (pv 3))))))
 (zf (by ac_rfl)
 (zw (zcQ (zpL (hu_p hr) (pv 3) (pv 7) ⟨by rfl,by rfl,by rfl,by rfl⟩))))
 (zf (znd (hu_t hr) (pv 3) (pv 7) (by ac_rfl) (by rfl))
 (zw (setA 4 rfl (zd5 zoU hr zaZ (zq (pv 0) (zq (pv 4) (zq (pv 7) (zq (zpW (hu_t hr) (pv 3) (pv 7) (λ_ _=>rfl)) zS)))))))))
 (by ac_rfl))))))
 (by ac_rfl))),?_⟩
 dsimp only[cxOf];refine⟨_,rfl,cp,rfl,⟨_,SqL.of ecp⟩,?_⟩;have hD:∀{st:Vst}{T:Tr}{ts:List Th}{m:Nat}{H1:Hp},GS C w a d pl pd H1 st T ts m->d≠pl/\d≠pd/\pl≠pd:=λg=>by obtain⟨d',ed,⟨kv,⟨_,ek⟩,_⟩,_⟩:=g.gr.vk.vs;cases ed;obtain⟨xs,e1,_⟩:=g.po.ex;obtain⟨ys,e2,_⟩:=g.pa.ex;exact⟨zR ek e1 (by intro z;cases z),(zR e2 ek (zdP (by intro _ z;cases z))).symm,(zR e2 e1 (zdP (by intro _ z;cases z))).symm⟩
 have g0:GS C w a d pl pd H ⟨[],[],[],1000000⟩ nil [] 0:=⟨⟨vk,TOk.nil,List.Pairwise.nil⟩,⟨⟨[],epl,.nil⟩,λt h=>(nomatch h)⟩,pd0⟩;obtain⟨nd1,nd2,nd3⟩:=hD g0;have ncpW:cp∉ [d,pl,pd]:=λz=>by
  simp only[JD,JN,or_false] at z;rcases z with z | z | z
  ·exact(vi_K C).not vk ecp (by intro kv z;cases z) (Jj.mpr z)
  ·exact ncp z
  ·obtain⟨xs,e,_⟩:=pd0.ex;rw[z,e] at ecp;cases ecp
 refine zck (xs:=cells.map V.int) (λi σ H'=>∃(T:Tr)(st:Vst)(ts:List Th)(k5 k6 k7:Option V),σ=[some (.ref a),some (.ref cp),some (.ref pl),some (.ref pd),some (.int T.root),k5,k6,k7]/\GS C w a d pl pd H' st T ts i/\ts.length=i/\T.cnt<=i/\1000000<=st.n+3000 * i/\Frm [d,pl,pd] H H')
  ⟨nil,_,[],_,_,_,rfl,g0,rfl,Jb _,Jb _,Frm.refl⟩ ?_ ?_ ?_
 ·rintro i σ H1 _ ⟨T,st,ts,k5,k6,k7,rfl,g1,hl,hc,hn,fr⟩;exact SqL.of (fr.at ecp ncpW)
 ·rintro i y σ H1 hy ⟨T,st,ts,k5,k6,k7,rfl,g1,hl,hc,hn,fr⟩;have hi:i < 30:=by have:=(JH.mp hy).1;rw[JE] at this;lia
  obtain⟨c,ec⟩:∃c,y=.int c:=by rw[JQ] at hy;obtain⟨c,_,e⟩:=Option.map_eq_some_iff.mp hy;exact⟨c,e.symm⟩
  subst ec;refine⟨_,rfl,c,rfl,λrow H2 s2 R2 hrow=>?_⟩;have nrow:pl≠row:=λz=>by obtain⟨xs,e,_⟩:=g1.po.ex;rw[z,hrow] at e;cases e
  have g2:=g1.same s2;have f2:Frm [d,pl,pd] H H2:=fr.trans (Frm.of s2);have hrow0:H row=none:=by
   cases e:H row with
   | none=>rfl
   | some o=>
    have nW:row∉ [d,pl,pd]:=λz=>by
     obtain⟨d',ed,⟨kv,⟨_,ek⟩,_⟩,_⟩:=g1.gr.vk.vs;cases ed;obtain⟨xs,e1,_⟩:=g1.po.ex;obtain⟨ys,e2,_⟩:=g1.pa.ex;simp only[JD,JN,or_false] at z;rcases z with z | z | z
     ·rw[z,ek] at hrow;cases hrow
     ·rw[z,e1] at hrow;cases hrow
     ·rw[z,e2] at hrow;cases hrow
    rw[fr row o nW e] at hrow;cases hrow
  have fW:∀{H3 H4:Hp},Frm [d,pl,pd] H H3->Frm [row] H3 H4->Frm [d,pl,pd] H H4:=λf f' b o n e=>f' b o (not1 λz=>by rw[z,hrow0] at e;cases e) (f b o n e);refine⟨_,rfl,row,_,rfl,R2,λv H3 f3 R3 r3=>?_⟩;have k3:=zcn (rowF c);generalize(zc2 (rowF c)).1=k at r3 k3;generalize(zc2 (rowF c)).2=gg at R3;have g3:=g2.row R2 nrow f3;have f03:=fW f2 f3;dsimp only[zbN];refine zaU (fun σ H'=>∃(v:V)(k:Th)(gg:Gs),σ=[some (.ref a),some (.ref cp),some (.ref pl),some (.ref pd),some (.int T.root),some (.int c),some (.ref row),some v]/\KeyT k/\Rep H' k v/\RowA H' row gg/\GS C w a d pl pd H' st T ts i/\Frm [d,pl,pd] H H') (λN hN=>?_) ?_
  ·refine⟨_,rfl,row,_,_,rfl,R3,(show(0:Int) < 3 by decide),(by decide+kernel),λH4 f4 R4=>⟨rfl,_,rfl,?_⟩⟩;have g4:=g3.row R3 nrow f4;have r4:=r3.keep (Frm.tupsA f4 R3);have f04:=fW f03 f4;refine ifB (λc1=>?_) (λc1=>?_)
   rotate_left
   ·exact ifF rfl (hN _ _ ⟨v,k,_,rfl,k3,r4,R4,g4,f04⟩)
   refine⟨_,rfl,szl (show 0<=1000 by decide),λp hp=>?_⟩;have s5:Same H4 (upd H4 p (.lst [])):=zj (Same.refl H4) hp;have ep:upd H4 p (.lst []) p=some (.lst []):=za;generalize upd H4 p (.lst [])=H5 at s5 ep;have g5:=g4.same s5;have R5:=R4.keep s5;have r5:=r4.keep (Same.tups s5);have f05:Frm [d,pl,pd] H H5:=f04.trans (Frm.of s5);obtain⟨xs,el,rl⟩:=g5.po.ex;have hxl:=rl.len;refine⟨pl,p,xs,[],ts,[],rfl,rfl,SqL.of el,SqL.of ep,rl,.nil,λt ht=>Jg (g5.po.ky t ht).dp (by decide),⟨_,rfl,?_⟩⟩;by_cases z:ts=[]
   ·subst z;exact ifF rfl (hN _ _ ⟨v,k,_,rfl,k3,r5,R5,g5,f05⟩)
   have hpos:=List.length_pos_iff.mpr z;have ne:eqL ts []=false:=by
    cases y:eqL ts [] with
    | false=>rfl
    | true=>exact Jf ((zdj _ _).mp y) z
   rw[ne];refine ifT rfl ⟨_,rfl,_,rfl,_,rfl,pl,_,rfl,.inl (SqL.of el),row,_,_,by show[V.ref row,V.int (xs.length:Int)]=_;rw[hxl],R5,by lia,by lia,λH6 f6 R6=>?_⟩;have g6:=g5.row R5 nrow f6;have b:=zad (g:=zv gg 3) (m:=ts.length) (by lia);obtain⟨xs6,el6,rl6⟩:=g6.po.ex;obtain⟨v6,t6,e6,r6,k6⟩:=rl6.pick b.1 b.2 g6.po.ky;exact⟨pl,xs6,_,v6,rfl,rfl,SqL.of el6,e6,hN _ _ ⟨v6,t6,_,rfl,k6,r6,R6,g6,fW f05 f6⟩⟩
  clear R3 r3 g3 f03 f3;rintro σ H4 ⟨v,k,gg,rfl,kk,r4,R4,g4,f04⟩;refine zaU (fun σ H'=>∃(v:V)(k:Th)(T':Tr)(st':Vst),σ=[some (.ref a),some (.ref cp),some (.ref pl),some (.ref pd),some (.int T'.root),some (.int c),some (.ref row),some v]/\KeyT k/\Rep H' k v/\GS C w a d pl pd H' st' T' ts (i+1)/\T'.cnt<=i+1/\1000000<=st'.n+3000 * (i+1)/\Frm [d,pl,pd] H H') (λN hN=>?_) ?_
  ·refine⟨_,rfl,row,_,_,rfl,R4,(show(0:Int) < 5 by decide),(by decide+kernel),λH5 f5 R5=>⟨rfl,_,rfl,?_⟩⟩;have g5:=g4.row R4 nrow f5;have r5:=r4.keep (Frm.tupsA f5 R4);have f05:=fW f04 f5;obtain⟨xs,epd,kd,xl⟩:=g5.pa.ex;obtain⟨m1,m2,m3⟩:=hD g5;have k8:dep k<=8:=Jg kk.dp (by decide);have tkU:∀{H6:Hp}{ys zs:List Kv},H6 pd=some (TD w pd ys)->Tups H6 (upd H6 pd (TD w pd zs)):=λe=>Tups.upd λxs z=>by rw[e] at z;cases z
   refine zte (λ_ n=>ifF rfl n) (λc1 n=>?_) ?_
   ·refine⟨_,rfl,_,rfl,pd,_,rfl,⟨xs,k,epd,kd,r5,k8,kk.ne,rfl⟩,_,rfl,?_⟩;cases hv:vT xs k with
    | none=>exact ifF rfl n
    | some v0=>
    clear n;refine ifT rfl ⟨_,rfl,_,rfl,_,rfl,a,[d],st,T.root,k,v,rfl,g5.gr.vk,r5,k8,zna (A:=λ_=>True) (zh6 cl) g5.gr.tk (by lia) (λ_ _=>trivial) (λ_ _=>trivial) λs6 g6 i6 v6 H6 f6 vk6 ev6=>?_⟩;have ev6':v6=.int (cutT k T).root:=ev6;subst ev6';have ep:=zsm (x:=k) g5.gr.so;have gn:=g6.n;have tk:=g5.gr.tk;have cl':(cutT k T).cnt<=T.cnt:=by show(cutT k T).ps.length<=T.ps.length;rw[ep];exact List.length_filter_le _ _
    have t6:=(vi_K C).tups g5.gr.vk f6;have epd6:=f6 _ _ (not1 m2.symm) epd;have r6:=r5.keep t6;have po6:=g5.po.frm f6 (not1 m1.symm) t6;refine⟨_,rfl,pd,xs,rfl,epd6,_,rfl,⟨xs,k,v0,epd6,kd.keep t6,r6,k8,kk.ne,hv,λxs' kd' l'=>?_⟩⟩;have t7:=tkU (zs:=xs') epd6;refine hN _ _ ⟨v,k,cutT k T,s6,rfl,kk,r6.keep t7,⟨⟨vk6.at1 epd6 (λ_ _ _=>zdP (by intro _ z;cases z)) (λ_=>zdP (by intro _ z;cases z)) (λ_=>zdP (by intro _ z;cases z)) (Frm.upd (by simp)),⟨i6,λp hp=>tk.ky p ?_,by have:=tk.ct;lia⟩,?_⟩,po6.frm (W:=[pd]) (Frm.upd (by simp)) (not1 m3) t7,⟨xs',za,kd'.keep t7,by lia⟩⟩,by lia,by lia,(f05.trans (Frm.mono f6 (by simp))).trans (Frm.upd (by simp))⟩
    ·rw[ep] at hp;exact(Jz.mp hp).1
    ·rw[ep];exact List.Pairwise.filter _ g5.gr.so
   ·refine⟨_,rfl,row,_,rfl,R5,λv1 H6 f6 R6 r6=>?_⟩;have k1k:=zcn (zv gg 5);generalize(zc2 (zv gg 5)).1=k1 at r6 k1k;have g6:=g5.row R5 nrow f6;have rk6:=r5.keep (Frm.tupsA f6 R5);have f06:=fW f05 f6;obtain⟨ys,epd6,kd6,yl⟩:=g6.pa.ex;refine⟨_,rfl,_,rfl,⟨pd,ys,k,rfl,epd6,kd6,rk6,k8,kk.ne,Je (show ys.length < 1000 by lia) (szl (Jb _)),λxs' kd' hv' l'=>?_⟩⟩;have t7:=tkU (zs:=xs') epd6;have vk7:VK C (upd H6 pd (TD w pd xs')) a [d] st:=g6.gr.vk.at1 epd6 (λ_ _ _=>zdP (by intro _ z;cases z)) (λ_=>zdP (by intro _ z;cases z)) (λ_=>zdP (by intro _ z;cases z)) (Frm.upd (by simp));have po7:=g6.po.frm (W:=[pd]) (Frm.upd (o:=TD w pd xs') (by simp)) (not1 m3) t7;have f07:Frm [d,pl,pd] H (upd H6 pd (TD w pd xs')):=f06.trans (Frm.upd (by simp));have e7:upd H6 pd (TD w pd xs') pd=some (TD w pd xs'):=za;have rk7:=rk6.keep t7;have r7:=r6.keep t7;have kd7:=kd'.keep t7;generalize upd H6 pd (TD w pd xs')=H7 at vk7 po7 f07 e7 rk7 r7 kd7;refine⟨_,rfl,_,rfl,_,rfl,_,rfl,_,rfl,pd,v1,rfl,⟨xs',k,e7,kd7,rk7,k8,kk.ne,hv'.symm⟩,a,[d],st,T.root,k,k1,v,v1,rfl,vk7,rk7,kk.good,r7,zj8 (A:=λ_=>True) (zh6 cl) g6.gr.tk (by lia) kk k1k (by lia) (λ_ _=>trivial) λs8 g8 i8 v8 H8 f8 vk8 ev8=>?_⟩;have ev8':v8=.int (Tr.putT k k1 T).root:=ev8;subst ev8';have so:=g6.gr.so;have tk:=g6.gr.tk;have ep:=zow (x:=k) (w:=k1) so;have il:=zkF (ps:=T.ps) (x:=k) (w:=k1);have gn:=g8.n;have cl':(Tr.putT k k1 T).cnt<=T.cnt+1:=by show(Tr.putT k k1 T).ps.length<=_;rw[ep];exact il
    have t8:=(vi_K C).tups vk7 f8;refine hN _ _ ⟨v,k,Tr.putT k k1 T,s8,rfl,kk,rk7.keep t8,⟨⟨vk8,⟨i8,λp hp=>?_,by lia⟩,by rw[ep];exact zp1 so⟩,po7.frm f8 (not1 m1.symm) t8,⟨xs',f8 _ _ (not1 m2.symm) e7,kd7.keep t8,by lia⟩⟩,by lia,by lia,f07.trans (Frm.mono f8 (by simp))⟩;rw[ep] at hp;rcases zlb hp with hp | hp
    ·exact tk.ky p hp
    ·rw[hp];exact⟨kk,k1k⟩
  rintro σ H5 ⟨v,k,T',st',rfl,kk,r5,g5,hc5,hn5,f05⟩;obtain⟨xs,el,rl⟩:=g5.po.ex;have hxl:=rl.len;obtain⟨m1,m2,m3⟩:=hD g5;refine⟨_,rfl,.inl ⟨rfl,_,SqL.of el⟩,_,rfl,pl,xs,v,rfl,rfl,el,Je (show xs.length < 1000 by lia) (szl (Jb _)),T',st',ts++ [k],_,_,_,rfl,⟨⟨(vi_K C).nl g5.gr.vk (NL.lst el),g5.gr.tk,g5.gr.so⟩,⟨⟨_,za,?_⟩,λt ht=>?_⟩,?_⟩,by rw[JI,hl];rfl,hc5,hn5,f05.trans (Frm.upd (by simp))⟩
  ·exact(RepL.snoc r5 rl).keep (Tups.upd λys z=>by rw[el] at z;cases z)
  ·rcases Jm.mp ht with ht | ht
   ·exact g5.po.ky t ht
   ·rw[Jj.mp ht];exact kk
  ·exact g5.pa.frm (W:=[pl]) (Frm.upd (by simp)) (not1 m3.symm) (Tups.upd λys z=>by rw[el] at z;cases z)
 ·rintro σ H1 ⟨T,st,ts,k5,k6,k7,rfl,g1,hl,hc,hn,fr⟩;rw[JE] at hl hc hn;exact⟨_,rfl,q T st ts H1 fr g1.gr g1.po (by lia) (by lia) (by lia)⟩
end Pv
namespace Pv
open PySem L2
def Pg.Run.det {p:Pg α}{r1 r2:Except Er α}(h:Pg.Run p s r1 s1):Pg.Run p s r2 s2->r1=r2/\s1=s2:=by
 induction h with
 | ret=>intro g;cases g;exact⟨rfl,rfl⟩
 | bad=>intro g;cases g;exact⟨rfl,rfl⟩
 | rd z _ ih=>
  intro g;cases g with
  | rd y g=>rw[z] at y;cases y;exact ih g
  | lacks y=>rw[z] at y;cases y
 | lacks z=>
  intro g;cases g with
  | rd y g=>rw[z] at y;cases y
  | lacks y=>exact⟨rfl,rfl⟩
 | lay z _ ih=>
  intro g;cases g with
  | lay y g=>exact ih g
  | clash y=>rw[z] at y;cases y
 | clash z=>
  intro g;cases g with
  | lay y g=>rw[z] at y;cases y
  | clash y=>rw[z] at y;cases y;exact⟨rfl,rfl⟩
theorem look_own {s s':Vst}{n:Int}{t:Th}(h:s.look n=some (t,s')):s'.own=s.own/\s'.kp=s.kp/\zg s.all n=some t/\((zg s.own n=some t/\s'.nt=s.nt)\/(zg s.own n=none/\zg s.kp n=some t/\s'.nt=addT s.nt n t)):=by
 cases z:zg s.own n with
 | some u=>rw[Vst.look_own z] at h;cases h;exact⟨rfl,rfl,Vst.all_own z,.inl ⟨rfl,rfl⟩⟩
 | none=>
  cases y:zg s.kp n with
  | some u=>rw[Vst.look_kp z y] at h;cases h;exact⟨rfl,rfl,by rw[Vst.all_kp z];exact y,.inr ⟨rfl,rfl,rfl⟩⟩
  | none=>rw[Vst.look_no z y] at h;cases h
def zdM {cs:QF}{ns:List Int}(g:GoodC cs)(hp:ns.Perm (cs.map (·.1))):(zH cs ns).map zh=ns:=by
 unfold zH;rw[List.map_map];have:∀n∈ns,(zh ∘ λn=>(zg cs n).getD .non) n=id n:=λn hn=>by obtain⟨u,eu⟩:=zbJ (hp.subset hn);show zh ((zg cs n).getD .non)=n;rw[eu];exact(g.dep eu).2
 rw[List.map_congr_left this,List.map_id]
def zba {cs:QF}{ns:List Int}(g:GoodC cs)(hp:ns.Perm (cs.map (·.1))){t:Th}:t∈zH cs ns↔zg cs (zh t)=some t:=by
 unfold zH;constructor
 ·intro h;obtain⟨n,hn,e⟩:=Nl.mp h;obtain⟨u,eu⟩:=zbJ (hp.subset hn);rw[eu] at e;have e':u=t:=e;subst e';rw[(g.dep eu).2];exact eu
 ·intro h;refine Nl.mpr ⟨zh t,hp.symm.subset (Nl.mpr ⟨_,zd7 h,rfl⟩),?_⟩;rw[h];rfl
def zfF {cs:QF}{ns:List Int}(g:GoodC cs)(hp:ns.Perm (cs.map (·.1))):zcu (zH cs ns):=λt ht u hu e=>by have h1:=(zba g hp).mp ht;have h2:=(zba g hp).mp hu;rw[e,h2] at h1;exact(JO h1).symm
def zf2 {cs:QF}{ns:List Int}(hp:ns.Perm (cs.map (·.1))):(zH cs ns).length=cs.length:=by unfold zH;rw[JE,hp.length_eq,JE]
theorem Sub.nil (b:QF):Sub [] b:=λn t e=>by cases e
def all_none {w:Vst}(h:zg w.all n=none):zg w.own n=none/\zg w.kp n=none:=by
 cases z:zg w.own n with
 | some u=>rw[Vst.all_own z] at h;cases h
 | none=>rw[Vst.all_kp z] at h;exact⟨rfl,h⟩
def zmW {w:Vst}{t:Th}(h:zg w.all n=some t):∃w1,w.look n=some (t,w1):=by
 cases z:zg w.own n with
 | some u=>rw[Vst.all_own z] at h;cases h;exact⟨_,Vst.look_own z⟩
 | none=>rw[Vst.all_kp z] at h;exact⟨_,Vst.look_kp z h⟩
def zkH {w:Vst}{t v:Th}(h:zg (w.add t).all m=some v):zg w.all m=some v\/(m=zh t/\v=t):=by
 cases z:zg (w.add t).own m with
 | some u=>
  rw[Vst.all_own z] at h;cases h;rcases zX z with z | ⟨a,b⟩
  ·exact .inl (Vst.all_own z)
  ·exact .inr ⟨a,b⟩
 | none=>
  rw[Vst.all_kp z] at h;cases y:zg w.own m with
  | none=>exact .inl (by rw[Vst.all_kp y];exact h)
  | some u=>have z':zg (addT w.own (zh t) t) m=none:=z;rw[za4 y] at z';cases z'
def Pg.part {α:Type}{p:Pg α}{r:Except Er α}(h:Pg.Run p s r s'):∀{x:α}{w:Vst},r=.ok x->p.Fit s->s.n<=w.n->Sub s.nt s.kp->Sub s.own w.all->Sub w.all s.all->Sub s.nt w.all->
  p.Fit w/\∃w',(Sub s'.nt w.all/\Pg.Run p w (.ok x) w'/\(w.own=s.own->w.nt=s.nt->w'.nt=s'.nt))\/(¬Sub s'.nt w.all/\Pg.Run p w (.error .lacks) w'):=by
 induction h with
 | ret=>intro x w e _ _ _ _ _ sn;cases e;exact⟨.ret,w,.inl ⟨sn,.ret,λ_ z=>z⟩⟩
 | bad=>intro x w e;cases e
 | lacks=>intro x w e;cases e
 | clash=>intro x w e;cases e
 | @rd n k s s1 s' t r z hr ih=>
  intro x w e fi hwn su so sa sn;obtain⟨e1,e2,ea,hl⟩:=look_own z;obtain⟨_,_,su1,_⟩:=zfa su z;have n1:=zni z;cases fi with
  | rd f0 ff=>
  cases q:zg w.all n with
  | none=>
   obtain⟨q1,q2⟩:=all_none q;have no:=Vst.look_no q1 q2;refine⟨.rd (by lia) λt' w1 z'=>(by rw[no] at z';cases z'),w,.inr ⟨λy=>?_,.lacks no⟩⟩;rcases hl with ⟨lo,_⟩ | ⟨lo,lk,e3⟩
   ·have:=so _ _ lo;rw[q] at this;cases this
   ·have ft:Fits s.nt n t:=by
     cases v:zg s.nt n with
     | none=>exact .inl v
     | some u=>have:=su _ _ v;rw[lk] at this;cases this;exact .inr v
    have:=y n t (hr.nt _ _ (by rw[e3];exact zaf ft));rw[q] at this;cases this
  | some u=>
   have eu:=sa _ _ q;rw[ea] at eu;cases eu;obtain⟨w1,lw⟩:=zmW q;obtain⟨o1,o2,_,ol⟩:=look_own lw;have nw:=zni lw;have al:w1.all=w.all:=by unfold Vst.all;rw[o1,o2]
   have sl:s1.all=s.all:=by unfold Vst.all;rw[e1,e2]
   obtain⟨fw,w',hw⟩:=ih (w:=w1) e (ff _ _ z) (by lia) su1 (by rw[e1,al];exact so) (by rw[al,sl];exact sa) (by
    rw[al];rcases hl with ⟨_,e3⟩ | ⟨_,_,e3⟩
    ·rw[e3];exact sn
    ·rw[e3];intro m v y;rcases zX y with y | ⟨rfl,rfl⟩
     ·exact sn _ _ y
     ·exact q)
   refine⟨.rd (by lia) λt' w2 z'=>(by rw[lw] at z';cases z';exact fw),w',?_⟩;rw[al] at hw;rcases hw with ⟨a,b,c⟩ | ⟨a,b⟩
   ·refine .inl ⟨a,.rd lw b,λeo en=>c (by rw[o1,e1];exact eo) ?_⟩;rcases hl with ⟨l1,e3⟩ | ⟨l1,_,e3⟩ <;> rcases ol with ⟨l2,e4⟩ | ⟨l2,_,e4⟩
    ·rw[e3,e4];exact en
    ·rw[eo,l1] at l2;cases l2
    ·rw[eo,l1] at l2;cases l2
    ·rw[e3,e4,en]
   ·exact .inr ⟨a,.rd lw b⟩
 | @lay t k s s' r z hr ih=>
  intro x w e fi hwn su so sa sn;cases fi with
  | lay f0 fg ff=>
  have st:w.stop t=none:=zeS (by
   cases q:zg w.all (zh t) with
   | none=>exact .inl rfl
   | some u=>
    rcases zeh z with y | y
    ·rw[sa _ _ q] at y;cases y
    ·rw[sa _ _ q] at y;exact .inr y)
  obtain⟨w1,w2⟩:=zhs st;obtain⟨s1,s2⟩:=zhs z;have hown:zg (s.add t).own (zh t)=some t:=zaf (by
   cases q:zg s.own (zh t) with
   | none=>exact .inl q
   | some u=>
    rcases zeh z with y | y
    ·rw[Vst.all_own q] at y;cases y
    ·rw[Vst.all_own q] at y;exact .inr (q.trans y))
  obtain⟨fw,w',hw⟩:=ih (w:=w.add t) e (ff z) (by show s.n - 1<=w.n - 1;lia) su (λm v y=>by
   rcases zX y with y | ⟨rfl,rfl⟩
   ·exact w1 _ _ (so _ _ y)
   ·exact w2) (λm v y=>by
   rcases zkH y with y | ⟨rfl,rfl⟩
   ·exact s1 _ _ (sa _ _ y)
   ·exact s2) (λm v y=>w1 _ _ (sn _ _ y))
  refine⟨.lay (by lia) fg λ_=>fw,w',?_⟩;rcases hw with ⟨a,b,c⟩ | ⟨a,b⟩
  ·refine .inl ⟨λm v y=>?_,.lay st b,λeo en=>c (by show addT w.own _ _=addT s.own _ _;rw[eo]) en⟩
   rcases zkH (a m v y) with q | ⟨rfl,rfl⟩
   ·exact q
   ·rw[hr.noted su hown] at y;exact sn _ _ y
  ·exact .inr ⟨λy=>a λm v q=>w1 _ _ (y m v q),.lay st b⟩
theorem zdL (nt:zcu ts):∀i,i<=ts.length->Held (zu (ts.take i)) (ts.take i)
 | 0,_=>λt h=>by cases h
 | i+1,hi=>λt ht=>by
  have hil:i < ts.length:=by lia
  rw[Na,JB hil] at ht;rw[zW hil];rcases Jm.mp ht with ht | ht
  ·exact za4 (zdL nt i (by lia) t ht)
  ·have e:t=ts[i]:=by simpa using ht
   subst e;exact zaf (zb3 nt hil)
section
variable {α:Type}{p:Pg α}{cs:QF}{x:α}{s1:Vst}{us:List Th}
def zon (h:zcu us):Held (zu us) us:=by have:=zdL h _ (Jb _);rw[J1] at this;exact this
def zik {u:Th}(h:zg (zu us) n=some u):u∈us/\zh u=n:=zbn (ts:=us) (i:=us.length) (by rw[J1];exact h)
def zgy {w:Vst}(r1:Pg.Run p ⟨[],cs,[],900000⟩ (.ok x) s1)(f0:p.Fit ⟨[],cs,[],900000⟩)(g:GoodC s1.nt)(nt:zcu us)(hin:∀t∈us,zg cs (zh t)=some t)(hw:w.all=zu us)(hn:w.n=900000):p.Fit w/\
  ∃w',((∀n t,zg s1.nt n=some t->t∈us)/\Pg.Run p w (.ok x) w'/\(w.own=[]->w.nt=[]->w'.nt=s1.nt))\/((¬∀n t,zg s1.nt n=some t->t∈us)/\Pg.Run p w (.error .lacks) w'):=by
 have held:=zon nt;obtain⟨fw,w',h⟩:=Pg.part (w:=w) r1 rfl f0 (by rw[hn];exact Jb _) (Sub.nil _) (Sub.nil _) (λn t e=>by rw[hw] at e;obtain⟨a,b⟩:=zik e;rw[<-b];exact hin t a) (Sub.nil _)
 rw[hw] at h;refine⟨fw,w',?_⟩;rcases h with ⟨a,b⟩ | ⟨a,b⟩
 ·exact .inl ⟨λn t e=>(zik (a n t e)).1,b⟩
 ·exact .inr ⟨λz=>a λn t e=>by rw[<-(g.dep e).2];exact held t (z n t e),b⟩
def zlW (r1:Pg.Run p ⟨[],cs,[],900000⟩ (.ok x) s1)(f0:p.Fit ⟨[],cs,[],900000⟩)(g:GoodC s1.nt)(nt:zcu us)(hin:∀t∈us,zg cs (zh t)=some t):p.Fit ⟨[],zu us,[],900000⟩/\
  ∃w',((∀n t,zg s1.nt n=some t->t∈us)/\Pg.Run p ⟨[],zu us,[],900000⟩ (.ok x) w'/\w'.nt=s1.nt)\/((¬∀n t,zg s1.nt n=some t->t∈us)/\Pg.Run p ⟨[],zu us,[],900000⟩ (.error .lacks) w'):=by
 obtain⟨fw,w',h⟩:=zgy (w:=⟨[],zu us,[],900000⟩) r1 f0 g nt hin rfl rfl;exact⟨fw,w',h.imp (λz=>⟨z.1,z.2.1,z.2.2 rfl rfl⟩) id⟩
def Pg.wp_run {q:α->Vst->Prop}{e:Er->Vst->Prop}(fi:p.Fit s)(h:Pg.Run p s r s')(hq:∀x,r=.ok x->q x s')(he:∀y,r=.error y->e y s'):p.wp s q e:=
 Pg.wp_of fi (λx s2 g=>by obtain⟨a,b⟩:=h.det g;subst b;exact hq x a) (λy s2 g=>by obtain⟨a,b⟩:=h.det g;subst b;exact he y a)
end
abbrev zfM:Stmt:=top 100
abbrev zfZ:Stmt:=top 101
def AnR (H:Hp):An->V->Prop
 | .one x,v=>AvR H x v
 | .many xs,v=>AvsR H xs v
def lvl:An->Nat
 | .one (.th _)=>0
 | .one (.ls _)=>1
 | .many _=>2
theorem AnF.r (h:AnF H0 H x v):AnR H x v:=by
 cases x with
 | many xs=>exact h
 | one x=>cases x with
  | th t=>exact h
  | ls ps=>exact h.1
theorem AnR.same (h:AnR H x v)(s:Same H H'):AnR H' x v:=by
 cases x with
 | one x=>exact AvR.same h s
 | many xs=>obtain⟨p,vs,e,el,hl,r⟩:=h;exact⟨p,vs,e,s _ _ el,hl,λi x u e1 e2=>(r i x u e1 e2).same s⟩
def AnG (H0 H:Hp):An->V->Prop
 | .one x,v=>AvF H0 H x v
 | .many xs,v=>∃(p:Addr)(vs:QR),v=.ref p/\H0 p=none/\H p=some (.lst vs)/\vs.length=xs.length/\∀(i:Nat)(x:Av)(u:V),xs[i]? =some x->vs[i]? =some u->AvF H0 H x u
theorem AvF.r (h:AvF H0 H x v):AvR H x v:=by
 cases x with
 | th t=>exact h
 | ls ps=>exact h.1
theorem AnG.r (h:AnG H0 H x v):AnR H x v:=by
 cases x with
 | one x=>exact AvF.r h
 | many xs=>obtain⟨p,vs,e,_,el,hl,r⟩:=h;exact⟨p,vs,e,el,hl,λi x u e1 e2=>(r i x u e1 e2).r⟩
def AvF.to {H0':Hp}(h:AvF H0 H x v)(w:∀c,H0 c=none->H0' c=none)(t:Tups H H')(l:∀b xs,H0 b=none->H b=some (.lst xs)->H' b=some (.lst xs)):AvF H0' H' x v:=by
 cases x with
 | th t'=>exact Rep.keep h t
 | ls ps=>obtain⟨⟨pp,xs,rfl,e,r,k⟩,f⟩:=h;exact⟨⟨pp,xs,rfl,l _ _ (f _ rfl) e,r.keep t,k⟩,λc z=>w c (f c z)⟩
def AnG.to {H0':Hp}(h:AnG H0 H x v)(w:∀c,H0 c=none->H0' c=none)(t:Tups H H')(l:∀b xs,H0 b=none->H b=some (.lst xs)->H' b=some (.lst xs)):AnG H0' H' x v:=by
 cases x with
 | one x=>exact AvF.to h w t l
 | many xs=>obtain⟨p,vs,e,hp,el,hl,r⟩:=h;exact⟨p,vs,e,w _ hp,l _ _ hp el,hl,λi x u e1 e2=>(r i x u e1 e2).to w t l⟩
inductive spCp (n:Nat)(vs:QR)(H:Hp)(Q:L2.VK)(_E:XK):Prop
 | mk (x:An)(v:V)(_:vs=[v])(_:AnR H x v)(_:lvl x<=n)(_:(∀xs,x=.many xs->xs.length<=100)) (_:∀v' H',Same H H'->AnG H H' x v'->Q v' H'):spCp n vs H Q _E
theorem zln (D:Dfn K mg "_law_copy" zfM ["answer"]) (zk:mg "isinstance" =none) (zdg:mg "list" =none):
  ∀n:Nat,Fn P w K mg base "_law_copy" (n+2) ["answer"] (spCp n)
 | 0=>by
  have zf7:Fn P w K mg base "_law_copy" 1 ["answer"] zph:=D.never λvs H Q E h=>h;refine D.ok (k:=1) (fsN ["answer"]) (λ_ cdv A outer s H vs Q E hr h=>?_);obtain⟨x,v,rfl,r,hl,hm,q⟩:=h;refine⟨_,(zf (zbr (by ac_rfl)
 (zw (zaa (za8 (zm.zero (by rfl) (by decide+kernel) (by decide+kernel) (by decide+kernel) (by rfl)) rfl (by ac_rfl) (λ_ _ _=>zaO) (λ_ _ _=>(by ac_rfl)))))
 zai)
 (by ac_rfl)),?_⟩
  cases x with
  | many ys=>cases hl
  | one x=>
   cases x with
   | ls ps=>cases hl
   | th t=>
    have r':Rep H t v:=r;have q':Q v H:=q v H (Same.refl H) r';cases r' with
    | non=>exact⟨_,rfl,_,_,_,_,rfl,.non,rfl,_,rfl,ifF rfl ⟨_,rfl,q'⟩⟩
    | int i=>exact⟨_,rfl,_,_,_,_,rfl,.int i,rfl,_,rfl,ifF rfl ⟨_,rfl,q'⟩⟩
    | str z=>exact⟨_,rfl,_,_,_,_,rfl,.str z,rfl,_,rfl,ifF rfl ⟨_,rfl,q'⟩⟩
    | tup e _ _=>exact⟨_,rfl,_,_,_,_,rfl,.tup e,rfl,_,rfl,ifF rfl ⟨_,rfl,q'⟩⟩
 | n+1=>by
  have zf7:=zln (P:=P) (w:=w) (base:=base) D zk zdg n;refine D.ok (k:=n+2) (fsN ["answer"]) (λf cdv A outer s H vs Q E hr h=>?_);obtain⟨x,v,rfl,r,hl,hm,q⟩:=h;refine⟨_,(zf (zbr (by ac_rfl)
 (zw (zaa (za8 (zm.zero (by rfl) (by decide+kernel) (by decide+kernel) (by decide+kernel) (by rfl)) rfl (by ac_rfl) (λ_ _ _=>zaO) (λ_ _ _=>(by ac_rfl)))))
 zai)
 (by ac_rfl)),?_⟩
  dsimp only[cxOf];cases x with
  | one x=>
   cases x with
   | th t=>
    have r':Rep H t v:=r;have q':Q v H:=q v H (Same.refl H) r';cases r' with
    | non=>exact⟨_,rfl,_,_,_,_,rfl,.non,rfl,_,rfl,ifF rfl ⟨_,rfl,q'⟩⟩
    | int i=>exact⟨_,rfl,_,_,_,_,rfl,.int i,rfl,_,rfl,ifF rfl ⟨_,rfl,q'⟩⟩
    | str z=>exact⟨_,rfl,_,_,_,_,rfl,.str z,rfl,_,rfl,ifF rfl ⟨_,rfl,q'⟩⟩
    | tup e _ _=>exact⟨_,rfl,_,_,_,_,rfl,.tup e,rfl,_,rfl,ifF rfl ⟨_,rfl,q'⟩⟩
   | ls ps=>
    obtain⟨pp,xs,rfl,e,rl,hk⟩:=r;have hxl:=rl.len;rw[JE] at hxl;refine⟨_,rfl,_,_,_,_,rfl,.lst e,rfl,_,rfl,ifT rfl ⟨_,rfl,pp,rfl,⟨_,SqL.of e⟩,λp hp=>?_⟩⟩;refine zaL (n:=xs.length) (λi acc H'=>Same H H'/\H' p=some (.lst acc)/\acc.length=i/\RepL H' ((ps.take i).map zaB) acc) ⟨zj (Same.refl H) hp,za,rfl,.nil⟩ ?_ ?_ ?_ ?_
    ·rintro i acc H' hi ⟨sm,ep,la,rr⟩;exact⟨xs,xs[i],SqL.of (sm _ _ e),JB hi⟩
    ·rintro acc H' ⟨sm,ep,la,rr⟩;exact⟨xs,SqL.of (sm _ _ e),Jb _⟩
    ·rintro i acc H' y H'' hi ⟨sm,ep,la,rr⟩ ⟨z1,z2⟩;subst z1;have ey:=z2 xs (SqL.of (sm _ _ e));have hip:i < ps.length:=by lia
     have ry:=(rl.at i y (zaB ps[i]) ey (by rw[JQ,JB hip];rfl)).keep (Same.tups sm);refine tt1 ⟨_,rfl,.one (.th (zaB ps[i])),y,rfl,ry,JM _,(λ_ z=>nomatch z),λv' H3 s3 r3=>⟨s3 _ _ ep,Je (show acc.length < 1000 by lia) (szl (Jb _)),nxt hi ⟨zbB (sm.trans s3) hp,za,by rw[JI,la];rfl,?_⟩⟩⟩;have tk:Tups H3 (upd H3 p (.lst (acc++ [v']))):=Tups.upd λys z=>by rw[s3 _ _ ep] at z;cases z
     rw[take_snoc hip,JR];exact RepL.snoc (Rep.keep r3 tk) ((rr.keep (Same.tups s3)).keep tk)
    ·rintro acc H' ⟨sm,ep,la,rr⟩;rw[hxl,J1] at rr;exact q (.ref p) H' sm ⟨⟨p,acc,rfl,ep,rr,hk⟩,λpp z=>by cases z;exact hp⟩
  | many ys=>
   have hl2:2<=n+1:=hl;obtain⟨pp,xs,rfl,e,hxl,rl⟩:=r;have h100:=hm ys rfl;refine⟨_,rfl,_,_,_,_,rfl,.lst e,rfl,_,rfl,ifT rfl ⟨_,rfl,pp,rfl,⟨_,SqL.of e⟩,λp hp=>?_⟩⟩;obtain⟨Hb,hb⟩:∃Hb,Hb=upd H p (.lst []):=⟨_,rfl⟩;have sb:Same H Hb:=by rw[hb];exact zj (Same.refl H) hp
   have eb:Hb p=some (.lst []):=by rw[hb];exact za
   refine zaL (n:=xs.length) (λi acc H'=>(Same H H'/\∀c,H' c=none->Hb c=none)/\H' p=some (.lst acc)/\acc.length=i/\∀(j:Nat)(x:Av)(u:V),(ys.take i)[j]? =some x->acc[j]? =some u->AvF Hb H' x u) ⟨⟨by rw[<-hb];exact sb,λ_ z=>by rw[hb];exact z⟩,by rw[<-hb];exact eb,rfl,λj x u z=>(by simp at z)⟩ ?_ ?_ ?_ ?_
   ·rintro i acc H' hi ⟨⟨sm,bk⟩,ep,la,rr⟩;exact⟨xs,xs[i],SqL.of (sm _ _ e),JB hi⟩
   ·rintro acc H' ⟨⟨sm,bk⟩,ep,la,rr⟩;exact⟨xs,SqL.of (sm _ _ e),Jb _⟩
   ·rintro i acc H' y H'' hi ⟨⟨sm,bk⟩,ep,la,rr⟩ ⟨z1,z2⟩;subst z1;have ey:=z2 xs (SqL.of (sm _ _ e));have hip:i < ys.length:=by lia
    have ry:=(rl i ys[i] y (JB hip) ey).same sm;refine tt1 ⟨_,rfl,.one ys[i],y,rfl,ry,(by cases ys[i] with | th t=>exact JM _ | ls ps=>show 1<=n;lia),(λ_ z=>nomatch z),λv' H3 s3 r3=>⟨s3 _ _ ep,Je (show acc.length < 1000 by lia) (szl (Jb _)),nxt hi ⟨⟨zbB (sm.trans s3) hp,λc z=>bk c (s3.free ?_)⟩,za,by rw[JI,la];rfl,λj x u e1 e2=>?_⟩⟩⟩
    ·by_cases hc:c=p
     ·rw[hc,za] at z;cases z
     ·rw[zc hc] at z;exact z
    have tk:Tups H3 (upd H3 p (.lst (acc++ [v']))):=Tups.upd λys z=>by rw[s3 _ _ ep] at z;cases z
    have kp:∀b xs,Hb b=none->H3 b=some (.lst xs)->upd H3 p (.lst (acc++ [v'])) b=some (.lst xs):=λb xs hb e=>by rw[zc (λz=>by rw[z,eb] at hb;cases hb)];exact e
    rw[take_snoc hip] at e1;have hl2:(ys.take i).length=i:=by rw[Nt];lia
    by_cases hj:j < i
    ·rw[No (by lia)] at e1 e2;exact((rr j x u e1 e2).to (λ_ z=>z) (Same.tups s3) λb xs _ e=>s3 _ _ e).to (λ_ z=>z) tk kp
    ·rw[JY (by lia),hl2] at e1;rw[JY (by lia),la] at e2;have ej:j - i=0:=by
      cases w:j - i with
      | zero=>rfl
      | succ k=>rw[w] at e1;cases e1
     rw[ej] at e1 e2;cases e1;cases e2;exact(AvF.to r3 bk (λ_ _ z=>z) λ_ _ _ z=>z).to (λ_ z=>z) tk kp
   ·rintro acc H' ⟨⟨sm,bk⟩,ep,la,rr⟩;rw[hxl,J1] at rr;exact q (.ref p) H' sm ⟨p,acc,rfl,hp,ep,by lia,λi x u e1 e2=>(rr i x u e1 e2).to (λ_ z=>sb.free z) (λ_ _ z=>z) λ_ _ _ z=>z⟩
structure Told (H:Hp)(x:An)(nt:QF)(p:Addr):Prop where
 ex:∃(va:V)(l:Addr)(ns:List Int)(xs:QR),H p=some (.tup [va,.ref l])/\AnR H x va/\ns.Perm (nt.map (·.1))/\ns.Pairwise (· <= ·)/\H l=some (.lst xs)/\RepL H (zH nt ns) xs
theorem Told.same (t:Told H x nt p)(s:Same H H'):Told H' x nt p:=by obtain⟨va,l,ns,xs,e,r,a,b,el,rl⟩:=t.ex;exact⟨va,l,ns,xs,s _ _ e,r.same s,a,b,s _ _ el,rl.keep (Same.tups s)⟩
structure ToldF (H0 H:Hp)(x:An)(nt:QF)(p:Addr):Prop where
 ex:∃(va:V)(l:Addr)(ns:List Int)(xs:QR),H p=some (.tup [va,.ref l])/\AnG H0 H x va/\H0 l=none/\ns.Perm (nt.map (·.1))/\ns.Pairwise (· <= ·)/\H l=some (.lst xs)/\RepL H (zH nt ns) xs
theorem ToldF.t (t:ToldF H0 H x nt p):Told H x nt p:=by obtain⟨va,l,ns,xs,e,r,_,a,b,el,rl⟩:=t.ex;exact⟨va,l,ns,xs,e,r.r,a,b,el,rl⟩
def ToldF.to {H0':Hp}(t:ToldF H0 H x nt p)(w:∀c,H0 c=none->H0' c=none)(k:Tups H H')(l:∀b xs,H0 b=none->H b=some (.lst xs)->H' b=some (.lst xs)):ToldF H0' H' x nt p:=by obtain⟨va,l',ns,xs,e,r,hl,a,b,el,rl⟩:=t.ex;exact⟨va,l',ns,xs,k _ _ e,r.to w k l,w _ hl,a,b,l _ _ hl el,rl.keep k⟩
def znN {H:Hp}{n:Nat}{a b:Addr}{xs ys:QR}{ts:List Th}(e:H a=some (.lst xs))(e':H b=some (.lst ys))(r:RepL H ts xs)(r':RepL H ts ys)(d:∀t∈ts,dep t<=50):Alk K H (n+1) (.ref a) (.ref b):=by
 have l1:=r.len;have l2:=r'.len;refine .ls (SqL.of e) (SqL.of e') (by lia) λi x y e1 e2=>?_;have hi:i < ts.length:=by have:=(JH.mp e1).1;lia
 exact .th (r.at i x _ e1 (JB hi)) (r'.at i y _ e2 (JB hi)) (d _ (Jn hi))
def AvR.alk {n:Nat}(h:AvR H x u)(h':AvR H x v)(k:AvK x):Alk K H (n+1) u v:=by
 cases x with
 | th t=>exact .th h h' k
 | ls ps=>obtain⟨a,xs,rfl,e,r,_⟩:=h;obtain⟨b,ys,rfl,e',r',_⟩:=h';refine znN e e' r r' λt ht=>?_;obtain⟨p,hp,rfl⟩:=Nl.mp ht;exact k p hp
def AnR.alk {n:Nat}(h:AnR H x u)(h':AnR H x v)(k:AnK x):Alk K H (n+2) u v:=by
 cases x with
 | one x=>exact AvR.alk h h' k
 | many xs=>
  obtain⟨a,us,rfl,e,l,r⟩:=h;obtain⟨b,ws,rfl,e',l',r'⟩:=h';refine .ls (SqL.of e) (SqL.of e') (by lia) λi y z e1 e2=>?_;have hi:i < xs.length:=by have:=(JH.mp e1).1;lia
  exact(r i _ y (JB hi) e1).alk (r' i _ z (JB hi) e2) (k.2 _ (Jn hi))
def zjT {cs:QF}{ns:List Int}(g:GoodC cs)(hp:ns.Perm (cs.map (·.1))):∀t∈zH cs ns,dep t<=50:=λt ht=>Jg (g.dep ((zba g hp).mp ht)).1.dp (by decide)
def Told.alk (t:Told H x nt p)(t':Told H x nt p')(g:GoodC nt)(k:AnK x):Alk K H 6 (.ref p) (.ref p'):=by
 obtain⟨va,l,ns,xs,e,r,a,b,el,rl⟩:=t.ex;obtain⟨vb,l',ns',ys,e',r',a',b',el',rl'⟩:=t'.ex;have en:ns'=ns:=zgP (a'.trans a.symm) b' b;subst en;refine .tp (SqT.of e) (SqT.of e') rfl λi y z e1 e2=>?_
 match i,e1,e2 with
 | 0,e1,e2=>cases e1;cases e2;exact r.alk r' k
 | 1,e1,e2=>cases e1;cases e2;exact znN el el' rl rl' (zjT g a)
 | i+2,e1,e2=>cases e1
def zrq (x:An):lvl x<=2:=by
 cases x with
 | many xs=>exact Jb 2
 | one x=>cases x with
  | th t=>exact JM _
  | ls ps=>exact Nat.le_succ 1
inductive zdb (cl:Kd->Addr)(CA C CN CB CC:Addr)(vs:QR)(H:Hp)(Q:L2.VK)(E:XK):Prop
 | mk (kp dk b:Addr)(cs:QF)(n:Int)(q:As)(_:vs=[.ref kp,.int n,.ref b])(_:VS H C kp dk cs)(_:AsAt cl CA H q b)(_:AsOk q)(_:(asP n q).wp ⟨[],cs,[],900000⟩ (λx s1=>s1.nt.length < 64/\(∀xs,x=.many xs->xs.length<=100)/\∀(p:Addr)(H':Hp),Same H H'->GoodC s1.nt->ToldF H H' x s1.nt p->Q (.ref p) H') (λe _=>ErS CN CB CC H E e)):zdb cl CA C CN CB CC vs H Q E
section
variable {cl:Kd->Addr}
def zpy (D:Dfn K mg "_law_told" zfZ Sf) (zcW:FnX P w K mg base "answer_with_paper" 27 Sf (zkz cl CA C CN CB CC)) (zf7:Fn P w K mg base "_law_copy" 4 ["answer"] (spCp 2)) (zdg:mg "list" =none):FnX P w K mg base "_law_told" 28 Sf (zdb cl CA C CN CB CC):=by refine D.okX (k:=27) (fsN ["keeper","root","ask","answer","paper"]) (λ_ _ _ _ s H vs Q E hr h=>?_);obtain⟨kp,dk,b,cs,n,q,rfl,vs,qa,qo,h⟩:=h;refine⟨_,(by ac_rfl),?_⟩;dsimp only[cxOf];refine⟨_,rfl,_,rfl,_,rfl,kp,dk,b,cs,n,q,rfl,vs,qa,qo,Pg.wp_mono (λx s1 z=>⟨z.1,λp H1 s1' g pr=>?_⟩) (λe s z=>z) h⟩;obtain⟨va,l,ns,xs,ep,ra,l0,hp,hs,el,rl⟩:=pr;refine⟨p,_,rfl,SqT.of ep,rfl,_,_,rfl,_,_,rfl,rfl,?_⟩;refine⟨_,rfl,x,va,rfl,ra.r,zrq x,z.2.1,λv' H2 s2 r2=>?_⟩;have el2:=s2 _ _ el;refine⟨_,rfl,l,xs,rfl,.inl (SqL.of el2),λl' hl'=>⟨szl (show 2<=1000 by decide),λp' hp'=>?_⟩⟩;have s3:Same H2 (upd H2 l' (.lst xs)):=zj (Same.refl H2) hl';have e3:upd H2 l' (.lst xs) l'=some (.lst xs):=za;generalize upd H2 l' (.lst xs)=H3 at s3 e3 hp';have s4:Same H3 (upd H3 p' (.tup [v',.ref l'])):=zj (Same.refl H3) hp';have t24:=s3.trans s4;exact z.2.2 p' _ (s1'.trans (s2.trans t24)) g ⟨v',l',ns,xs,za,r2.to (λ_ z=>s1'.free z) (Same.tups t24) (λ_ _ _ z=>t24 _ _ z),(s1'.trans s2).free hl',hp,hs,s4 _ _ e3,rl.keep (Same.tups (s2.trans t24))⟩
end
abbrev zeB:Stmt:=top 99
structure zqQ (K:QA)(C CV:Addr)(T1 T2:QO):Prop where
 kd:zoc K C
 em:PySem.W.exmOne K (.ref C) (.ref CV)=some true
 k1:PySem.W.kitOne K (.ref C) (.ref C)=some true
 k3:PySem.W.kitOne K (.ref C) (.type "ValueError")=some true
 k4:PySem.W.kitAny K (.ref C) T1=some false
 k5:PySem.W.kitAny K (.ref C) T2=some false
inductive zfm (cl:Kd->Addr)(CA C:Addr)(vs:QR)(H:Hp)(Q:L2.VK)(_E:XK):Prop
 | mk (kp dk b:Addr)(cs:QF)(n:Int)(q:As)(_:vs=[.ref kp,.int n,.ref b])(_:VS H C kp dk cs)(_:AsAt cl CA H q b)(_:AsOk q)(_:(asP n q).wp ⟨[],cs,[],900000⟩ (λ_ _=>False) (λe _=>e=.lacks)) (_:∀H',Same H H'->Q (.bl true) H'):zfm cl CA C vs H Q _E
section
variable {cl:Kd->Addr}
def zmy (D:Dfn K mg "_law_lacks" zeB Sf) (zcW:FnX P w K mg base "answer_with_paper" 27 Sf (zkz cl CA C Ya CB CC)) (kb:zqQ K Ya Yj [.ref Yd,.ref Yi,.ref Ye,.ref Yc,.ref Yk,.ref Yl,.ref Yb,.ref Ym,.ref Yh] [.ref Yn,.ref Yg,.ref Yf,.ref Yo,.ref Yp])
  (zb7:mg "VaultError" =some (.ref Yj)) (zf8:mg "BadThing" =some (.ref Yd)) (zdS:mg "Clash" =some (.ref Yi)) (zf9:mg "NoColumn" =some (.ref Ye)) (zeM:mg "NoCommand" =some (.ref Yc)) (zjl:mg "NoName" =some (.ref Yk)) (zbO:mg "NoPaper" =some (.ref Ya)) (zjm:mg "NoPlan" =some (.ref Yl)) (zdT:mg "NoQuestion" =some (.ref Yb)) (zlv:mg "NoRow" =some (.ref Ym)) (zg6:mg "NoState" =some (.ref Yh)) (zjn:mg "NoStep" =some (.ref Yn)) (zg7:mg "NoTable" =some (.ref Yg)) (zg8:mg "NoThing" =some (.ref Yf)) (zlw:mg "NotOn" =some (.ref Yo)) (zlx:mg "NotSo" =some (.ref Yp))
  (zk:mg "isinstance" =none) (zdU:mg "ValueError" =none):Fn P w K mg base "_law_lacks" 28 Sf (zfm cl CA C):=by
 refine D.ok (k:=27) (fsN ["keeper","root","ask","lacks","other","e"]) (λ_ _ _ _ _ H vs Q E hr h=>?_);obtain⟨kp,dk,b,cs,n,q,rfl,vs,qa,qo,an,q'⟩:=h;refine⟨_,(zf (by ac_rfl)
 (zf (by ac_rfl)
 (zf (ziE (i:=5) rfl rfl (zfs rfl) rfl rfl (by rfl) zb7 (λxe pn E hx=>(by ac_rfl)) (λe=>(zf (setA 3 rfl (zc9 (zar (zaN (K:=K) rfl) (by rfl) zk (by rfl) (by ac_rfl)) (zb0 (zar (zaN (K:=K) rfl) (by rfl) zk (by rfl) (by ac_rfl)))))
 (zf (setA 4 rfl (zar (zaN (K:=K) rfl) (by rfl) zk (by rfl) (by ac_rfl)))
 (zw (setA 4 rfl (zqP (pv 4) (zb0 (zar (zaN (K:=K) rfl) (by rfl) zk (by rfl) (by ac_rfl))))))))))
 (by ac_rfl)))),?_⟩
 refine⟨_,rfl,_,rfl,_,rfl,kp,dk,b,cs,n,q,rfl,vs,qa,qo,Pg.wp_mono (λ_ _ z=>z.elim) (λe s1 ee=>?_) an⟩;subst ee;intro H1 s1';refine⟨Ya,rfl,kb.em,λe he=>?_⟩;have s2:=zj (o:=exO e Ya none false) s1' he;have ee:upd H1 e (exO e Ya none false) e=some (exO e Ya none false):=za;generalize upd H1 e (exO e Ya none false)=H2 at s2 ee;have hod:∀(H:Hp)(d:Addr),(none:QN)=some d->∃l,H d=some (xdO d l):=λ_ d z=>nomatch z
 refine⟨_,rfl,e,Ya,none,false,_,true,rfl,ee,kb.kd,hod H2,?_,.inr (.inl ⟨_,rfl,kb.k1⟩)⟩;refine⟨true,rfl,?_⟩;rw[if_pos rfl];refine⟨_,rfl,e,Ya,none,false,_,true,rfl,ee,kb.kd,hod H2,?_,.inl ⟨_,rfl,kb.k3⟩⟩;refine⟨_,rfl,szl (show 9<=1000 by decide),λp1 hp1=>?_⟩;have s3:=zj (o:=.tup [.ref Yd,.ref Yi,.ref Ye,.ref Yc,.ref Yk,.ref Yl,.ref Yb,.ref Ym,.ref Yh]) s2 hp1;have t3:upd H2 p1 (.tup [.ref Yd,.ref Yi,.ref Ye,.ref Yc,.ref Yk,.ref Yl,.ref Yb,.ref Ym,.ref Yh]) p1=some (.tup [.ref Yd,.ref Yi,.ref Ye,.ref Yc,.ref Yk,.ref Yl,.ref Yb,.ref Ym,.ref Yh]):=za;have e3:upd H2 p1 (.tup [.ref Yd,.ref Yi,.ref Ye,.ref Yc,.ref Yk,.ref Yl,.ref Yb,.ref Ym,.ref Yh]) e=some (exO e Ya none false):=by rw[zc (zd ee hp1)];exact ee
 generalize upd H2 p1 (.tup [.ref Yd,.ref Yi,.ref Ye,.ref Yc,.ref Yk,.ref Yl,.ref Yb,.ref Ym,.ref Yh])=H3 at s3 t3 e3;refine⟨e,Ya,none,false,_,false,rfl,e3,kb.kd,hod H3,?_,.inr (.inr ⟨p1,_,rfl,t3,?_,kb.k4⟩)⟩
 ·refine⟨_,rfl,false,rfl,?_⟩;rw[if_neg Jc];refine⟨_,rfl,szl (show 5<=1000 by decide),λp2 hp2=>?_⟩;have s4:=zj (o:=.tup [.ref Yn,.ref Yg,.ref Yf,.ref Yo,.ref Yp]) s3 hp2;have t4:upd H3 p2 (.tup [.ref Yn,.ref Yg,.ref Yf,.ref Yo,.ref Yp]) p2=some (.tup [.ref Yn,.ref Yg,.ref Yf,.ref Yo,.ref Yp]):=za;have e4:upd H3 p2 (.tup [.ref Yn,.ref Yg,.ref Yf,.ref Yo,.ref Yp]) e=some (exO e Ya none false):=by rw[zc (zd e3 hp2)];exact e3
  generalize upd H3 p2 (.tup [.ref Yn,.ref Yg,.ref Yf,.ref Yo,.ref Yp])=H4 at s4 t4 e4;refine⟨e,Ya,none,false,_,false,rfl,e4,kb.kd,hod H4,?_,.inr (.inr ⟨p2,_,rfl,t4,?_,kb.k5⟩)⟩
  ·refine⟨_,rfl,true,rfl,?_⟩;rw[if_pos rfl];exact⟨_,rfl,false,rfl,q' _ s4⟩
  ·intro v hv;simp only[JD,JN,or_false] at hv;rcases hv with rfl | rfl | rfl | rfl | rfl <;> exact .inr ⟨_,rfl⟩
 ·intro v hv;simp only[JD,JN,or_false] at hv;rcases hv with rfl | rfl | rfl | rfl | rfl | rfl | rfl | rfl | rfl <;> exact .inr ⟨_,rfl⟩
end
abbrev zdy:Stmt:=top 102
def zgX {C x dx:Addr}{H:Hp}{Z:Hp->Prop}(hx:H x=none)(hdx:H dx=none)(n:dx≠x)(q:∀d H',Same H H'->H d=none->H' x=some (.ins C dx [("laid",.ref d)])->H' d=some (.dK [])->Z H'):
  zbj C [.ref x] (upd (upd H dx (.own x)) x (.ins C dx [])) (λv H2=>v=.non/\Z H2) E:=by
 refine⟨x,dx,rfl,za,λd hd=>⟨rfl,?_⟩⟩;have xd:x≠d:=λz=>by rw[<-z,za] at hd;cases hd
 have dd:dx≠d:=λz=>by rw[<-z,zc n,za] at hd;cases hd
 have hd0:H d=none:=by rw[zc (Ne.symm xd),zc (Ne.symm dd)] at hd;exact hd
 refine q d _ (λb o e=>?_) hd0 za (by rw[zc (Ne.symm xd)];exact za);have n1:=zd e hx;rw[zc n1,zc (zd e hd0),zc n1,zc (zd e hdx)];exact e
structure Tells (cs:QF)(n:Int)(q:As)(x:An)(nt:QF):Prop where
 ru:∃s1,Pg.Run (asP n q) ⟨[],cs,[],900000⟩ (.ok x) s1/\s1.nt=nt
 fi:(asP n q).Fit ⟨[],cs,[],900000⟩
 gc:GoodC nt
 su:∀m t,zg nt m=some t->zg cs m=some t
 g5:∀m t,zg nt m=some t->G5 t
 fw:nt.length < 64
 ak:AnK x
 mn:∀xs,x=.many xs->xs.length<=100
inductive zki (cl:Kd->Addr)(CA:Addr)(vs:QR)(H:Hp)(Q:L2.VK)(_E:XK):Prop
 | mk (b p:Addr)(n:Int)(q:As)(cs:QF)(x:An)(nt:QF)(_:vs=[.int n,.ref b,.ref p])(_:AsAt cl CA H q b)(_:AsOk q)(_:Told H x nt p)(_:Tells cs n q x nt)(_:∀H',Same H H'->Q (.bl true) H'):zki cl CA vs H Q _E
section
variable {cl:Kd->Addr}
abbrev _root_.Ss:List PySem.Str:=["root","ask","told"]
def zpz (D:Dfn K mg "_law_slowly" zdy Ss) (zoW:Mkr P w K mg base "Keeper" C 1 Sv (zbj C)) (zg4:Mt P w K mg base (CX1 P w) C "lay" 14 Sh (zbX (VK C) CC)) (c_C:Cls K C) (zrg:Fn P w K mg base "_law_lacks" 28 Sf (zfm cl CA C)) (zga:FnX P w K mg base "_law_told" 28 Sf (zdb cl CA C CN CB CC)) (zaC:mg "range" =none) (zC:mg "len" =none):Fn P w K mg base "_law_slowly" 29 Ss (zki cl CA):=by
 refine D.ok (k:=28) (fsN ["root","ask","told","keeper","k"]) (λ_ _ _ _ _ H _ Q E hr h=>?_);obtain⟨b,p,n,q,cs,x,nt,rfl,qa,qo,td,tl,qq⟩:=h;have ι:=0;refine⟨_,(zf (by ac_rfl)
 (zf (zcy PassesOwn.never rfl (by ac_rfl) (by ac_rfl)
 (zf (by ac_rfl)
 (zw (zcQ (zes (pv 3) c_C zg4 hr (by lia) zh4 (zq (zbD zdH (by ac_rfl) (pv 4) (λ_ _=>rfl)) zS))))))
 (zw (zaa (zak (zhm hr) (zd5 zga hr zh4 (by ac_rfl)) (pv 2) (zau _)))))),?_⟩
 dsimp only[cxOf];obtain⟨va,l,ns,xs,ep,ra,hp,hs,el,rl⟩:=td.ex;obtain⟨s1,run,en⟩:=tl.ru;have gc:=tl.gc;have hm:∀{t:Th},t∈zH nt ns↔zg nt (zh t)=some t:=zba gc hp;have nt2:=zfF gc hp;have hsl:=zdM gc hp;have hln:=zf2 (cs:=nt) hp;have nd:((zH nt ns).map zh).Nodup:=by rw[hsl];exact hp.nodup_iff.mpr gc.nd
 have fw:=tl.fw;generalize zH nt ns=ts at hm nt2 hln rl nd;have hxl:=rl.len;have hin:∀i,∀t∈ts.take i,zg cs (zh t)=some t:=λi t ht=>tl.su _ _ (hm.mp (List.mem_of_mem_take ht));have nti:∀i,zcu (ts.take i):=λi t ht u hu e=>nt2 t (List.mem_of_mem_take ht) u (List.mem_of_mem_take hu) e;have less:=λi=>zlW run tl.fi (by rw[en];exact gc) (nti i) (hin i);intro a dx ha hdx ndx;refine zgX ha hdx ndx λd H1 s1' hd ex ed=>?_;have vs1:VS H1 C a d []:=⟨⟨[],⟨⟨dx,_,ex,zkD d⟩,ed⟩,.nil⟩,GoodC.nil⟩;have vk1:VK C H1 a [d] ⟨zu (ts.take 0),[],[],950000⟩:=⟨⟨d,rfl,vs1⟩,rfl,by show 0+950000<=1000000;decide⟩;have sf:∀{H3:Hp},Frm [d] H1 H3->Same H H3:=λf3 c o e=>f3 c o (λz=>by rw[Jj.mp z,hd] at e;cases e) (s1' c o e);refine⟨_,rfl,p,_,_,_,rfl,rfl,SqT.of (s1' _ _ ep),rfl,l,xs,rfl,.inl (SqL.of (s1' _ _ el)),_,rfl,by lia,by lia,?_⟩;have e0:(0:Int)+xs.length=xs.length:=Int.zero_add _;refine zl9 (lo:=0) (λi σ H'=>∃k4:Option V,σ=[some (.int n),some (.ref b),some (.ref p),some (.ref a),k4]/\Frm [d] H1 H'/\VK C H' a [d] ⟨zu (ts.take i),[],[],950000 - i⟩) ⟨_,rfl,Frm.refl,vk1⟩ ?_ ?_
 ·rintro i σ H2 hi ⟨k4,rfl,f2,v2⟩;have hit:i < ts.length:=by lia
  have s02:=sf f2;have td2:=td.same s02;obtain⟨d',ed',vs2⟩:=v2.vs;cases ed';dsimp only[zbN];refine zaU (fun σ H'=>σ=[some (.int n),some (.ref b),some (.ref p),some (.ref a),some (.int (0+(i:Int)))]/\Same H2 H') (λN hN=>?_) ?_
  ·refine⟨_,rfl,_,_,rfl,rfl,(show(0:Int) < 3 by decide),rfl,_,rfl,?_⟩;refine ifB (λc=>?_) (λc=>ifF rfl (hN _ _ ⟨rfl,Same.refl H2⟩));obtain⟨fi2,w',hw⟩:=less i;rcases hw with ⟨al,_⟩ | ⟨_,run2⟩
   ·exfalso;have h1:=hm.mp (Jn hit);have h2:=al _ _ (by rw[en];exact h1);obtain⟨j,hj,ej⟩:=List.mem_iff_getElem.mp h2;rw[Nt] at hj;rw[List.getElem_take] at ej;have:=(List.pairwise_iff_getElem.mp nd) j i (by rw[JE];lia) (by rw[JE];lia) (by lia);rw[List.getElem_map,List.getElem_map,ej] at this;exact this rfl
   ·exact⟨_,rfl,_,rfl,_,rfl,a,d,b,_,n,q,rfl,vs2,qa.same s02,qo,Pg.wp_run fi2 run2 (λy ey=>by cases ey) (λy ey=>by cases ey;rfl),λH3 s3=>⟨_,rfl,hN _ _ ⟨rfl,s3⟩⟩⟩
  ·rintro σ H3 ⟨rfl,s3⟩;have s03:=s02.trans s3;have v3:=(vi_K C).same v2 s3;obtain⟨dx',fs',eo,hf1,hf2⟩:=(vi_K C).ins v3;have ry:=(rl.at i xs[i] _ (JB (by lia)) (JB hit)).keep (Same.tups s03);have st0:(⟨zu (ts.take i),[],[],950000 - i⟩:Vst).stop ts[i]=none:=zeS (by
    show Fits (zu (ts.take i)++ []) _ _;rw[JP];exact zb3 nt2 hit)
   have ei:atI xs (0+(i:Int))=some xs[i]:=by rw[Int.zero_add];exact zdN (JB (by lia))
   refine⟨_,rfl,a,dx',fs',rfl,eo,hf2,_,rfl,p,_,_,_,rfl,rfl,SqT.of (s03 _ _ ep),rfl,_,rfl,l,_,_,_,rfl,rfl,SqL.of (s03 _ _ el),ei,a,[d],_,ts[i],xs[i],rfl,v3,(show 0 < 950000 - i by lia),ry,(gc.dep (hm.mp (Jn hit))).1,λH4 _ f4 v4=>⟨_,rfl,f2.trans ((Frm.of s3).trans f4),?_⟩,λu x' w1 w2 H4 e=>by rw[st0] at e;cases e⟩;rw[zW hit,show 950000 - (i+1)=950000 - i - 1 by lia];exact v4
 ·rintro σ H2 ⟨k4,rfl,f2,v2⟩;rw[hxl,Int.toNat_natCast,J1] at v2;have s02:=sf f2;obtain⟨d',ed',vs2⟩:=v2.vs;cases ed';have ls:=less ts.length;rw[J1] at ls;obtain⟨fi2,w',hw⟩:=ls;rcases hw with ⟨_,run2,en2⟩ | ⟨no,_⟩
  ·refine⟨_,rfl,_,rfl,_,rfl,a,d,b,_,n,q,rfl,vs2,qa.same s02,qo,Pg.wp_run fi2 run2 (λy ey=>?_) (λy ey=>by cases ey)⟩;cases ey;rw[en2,en];exact⟨tl.fw,tl.mn,λp' H3 s3 _ t3=>⟨_,rfl,t3.t.alk (td.same (s02.trans s3)) gc tl.ak,qq H3 (s02.trans s3)⟩⟩
  ·exact Jf (λm t e=>hm.mpr (by rw[en] at e;rw[(gc.dep e).2];exact e)) no
end
end Pv
namespace L2
open PySem PySem.Spec PyProof.Rows
def zn7 {X:Cx}{K:QA}(h:X.K=K):SlR X (rSlL K):=h ▸ zlr
end L2
namespace Pv
open PySem L2
abbrev zaW:Stmt:=top 103
def zmi (n:Nat):(L2.picks n none none (some (-1))).length<=n/\∀i,i < n->i∈L2.picks n none none (some (-1)):=by
 constructor
 ·unfold L2.picks;unfold sliceRange;simp[sliceBounds];split <;> lia
 ·intro i hi;unfold L2.picks sliceRange;refine Nl.mpr ⟨n - 1 - i,List.mem_range.mpr ?_,?_⟩
  ·simp[sliceBounds];rw[if_pos (by lia)];lia
  ·simp[sliceBounds];lia
theorem zrQ (v:V)(r:QR):cutV (v::r) (some 1) none=r:=by unfold cutV HT.sIx;simp
inductive zho (cl:Kd->Addr)(CA:Addr)(vs:QR)(H:Hp)(Q:L2.VK)(_E:XK):Prop
 | mk (b p:Addr)(n:Int)(q:As)(cs:QF)(x:An)(nt:QF)(_:vs=[.int n,.ref b,.ref p])(_:AsAt cl CA H q b)(_:AsOk q)(_:Told H x nt p)(_:Tells cs n q x nt)(_:∀H',Same H H'->Q (.bl true) H'):zho cl CA vs H Q _E
section
variable {cl:Kd->Addr}
def zoQ (D:Dfn K mg "_law_checked_again" zaW Ss) (zep:FnX P w K mg base "checked" 27 SG (zhK cl CA W Ya CB CC)) (zbO:mg "NoPaper" =some (.ref Ya)) (em:PySem.W.exmOne K (.ref Ya) (.ref Ya)=some true):Fn P w K mg base "_law_checked_again" 28 Ss (zho cl CA):=by
 refine D.ok (k:=27) (fsN ["root","ask","told","lacks"]) (λ_ _ _ _ _ H _ Q E hr h=>?_);obtain⟨b,p,n,q,cs,x,nt,rfl,qa,qo,td,tl,qq⟩:=h;have ι:=0;refine⟨_,(zf (by ac_rfl)
 (zf (zbr (zaA (zhW hr) (zbD (zeO (K:=K) rfl) (pv 2) zaH (λ_ _=>rfl)) (by ac_rfl) (zau _))
 (zf (by ac_rfl)
 (zw (zp4 rfl rfl (by rfl) zbO (λxe pn E hx=>(zw (zcQ (znn zep hr hx (zq (pv 0) (zq (pv 1) (zq (zfP (zn7 (K:=K) rfl) (zbD (zeO (K:=K) rfl) (pv 2) zaH (λ_ _=>rfl)) (zdz zaH) zeQ) zS))))))) (λe=>(by ac_rfl)))))
 zai)
 (zw (zaa (zc9 (pv 3) (zc9 (zak (zhm hr) (zd5 zep hr zh4 (zq (pv 0) (zq (pv 1) (zq (zbD (zeO (K:=K) rfl) (pv 2) zaH (λ_ _=>rfl)) zS)))) (by ac_rfl) (zau _)) (zb0 (zak (zhm hr) (zd5 zep hr zh4 (zq (pv 0) (zq (pv 1) (zq (zgv (zbD (zeO (K:=K) rfl) (pv 2) zaH (λ_ _=>rfl)) zeQ zeQ (zdz (by ac_rfl))) zS)))) (by ac_rfl) (zau _))))))))),?_⟩
 dsimp only[cxOf];obtain⟨va,l,ns,xs,ep,ra,hp,hs,el,rl⟩:=td.ex;obtain⟨s1,run,en⟩:=tl.ru;have gc:=tl.gc;have hm:∀{t:Th},t∈zH nt ns↔zg nt (zh t)=some t:=zba gc hp;have nt2:=zfF gc hp;have hsl:=zdM gc hp;have hln:=zf2 (cs:=nt) hp;have nd:((zH nt ns).map zh).Nodup:=by rw[hsl];exact hp.nodup_iff.mpr gc.nd
 have fw:=tl.fw;generalize zH nt ns=ts at hm nt2 hln rl nd;have hxl:=rl.len;have all:∀m t,zg s1.nt m=some t->t∈ts:=λm t e=>hm.mpr (by rw[en] at e;rw[(gc.dep e).2];exact e);have g5:∀t∈ts,G5 t:=λt ht=>tl.g5 _ _ (hm.mp ht)
 have part:∀{us:List Th},(∀t∈us,t∈ts)->zcu us/\(asP n q).Fit ⟨zu us,[],[],900000⟩/\∃w',((∀m t,zg s1.nt m=some t->t∈us)/\Pg.Run (asP n q) ⟨zu us,[],[],900000⟩ (.ok x) w')\/((¬∀m t,zg s1.nt m=some t->t∈us)/\Pg.Run (asP n q) ⟨zu us,[],[],900000⟩ (.error .lacks) w'):=λhu=>by have n2:zcu _:=λt ht u hu' e=>nt2 t (hu t ht) u (hu u hu') e;obtain⟨f2,w',h2⟩:=zgy (w:=⟨zu _,[],[],900000⟩) run tl.fi (by rw[en];exact gc) n2 (λt ht=>tl.su _ _ (hm.mp (hu t ht))) (JP _) rfl;exact⟨n2,f2,w',h2.imp (λz=>⟨z.1,z.2.1⟩) id⟩
 refine zaU (fun σ H'=>σ=[some (.int n),some (.ref b),some (.ref p),some (.bl true)]/\H'=H) (λN hN=>hN _ _ ⟨rfl,rfl⟩) ?_;rintro σ H ⟨rfl,rfl⟩;refine zaU (fun σ H'=>σ=[some (.int n),some (.ref b),some (.ref p),some (.bl true)]/\Same H H') (λN hN=>?_) ?_
 ·refine⟨_,rfl,p,_,_,_,rfl,rfl,SqT.of ep,rfl,szl (show 0<=1000 by decide),λpz hpz=>?_⟩;have sz:Same H (upd H pz (.lst [])):=zj (Same.refl H) hpz;have ez:upd H pz (.lst []) pz=some (.lst []):=za;generalize upd H pz (.lst [])=H1 at sz ez;refine⟨l,pz,xs,[],ts,[],rfl,rfl,SqL.of (sz _ _ el),SqL.of ez,rl.keep (Same.tups sz),.nil,λt ht=>Jg (g5 t ht).dp (by decide),⟨_,rfl,?_⟩⟩;cases ts with
  | nil=>exact ifF rfl (hN _ _ ⟨rfl,sz⟩)
  | cons t0 us=>
  cases xs with
  | nil=>cases hxl
  | cons v0 ys=>
  have rl':RepL H us ys:=by cases rl with | cons _ r=>exact r
  refine ifT rfl ⟨_,rfl,_,rfl,_,rfl,p,_,_,_,rfl,rfl,SqT.of (sz _ _ ep),rfl,_,rfl,l,_,rfl,SqL.of (sz _ _ el),λpy hpy=>?_⟩;rw[zrQ];have sy:Same H1 (upd H1 py (.lst ys)):=zj (Same.refl H1) hpy;have ey:upd H1 py (.lst ys) py=some (.lst ys):=za;generalize upd H1 py (.lst ys)=H2 at sy ey;have s02:=sz.trans sy;obtain⟨n2,f2,w',h2⟩:=part (us:=us) λt ht=>Ji _ ht;have hlu:us.length+1=nt.length:=hln;refine⟨b,py,n,q,ys,us,rfl,qa.same s02,qo,ey,rl'.keep (Same.tups s02),by lia,λt ht=>g5 t (Ji _ ht),λz=>Jf n2 z,λ_=>?_⟩;rcases h2 with ⟨al,_⟩ | ⟨_,run2⟩
  ·exfalso;have h1:=hm.mp (JL (a:=t0) (l:=us));have h3:=al _ _ (by rw[en];exact h1);rw[JS,Nh] at nd;exact nd.1 (Nl.mpr ⟨t0,h3,rfl⟩)
  ·refine Pg.wp_run f2 run2 (λy ey=>by cases ey) (λy ey=>?_);cases ey;exact λH3 s3=>⟨Ya,rfl,em,λe he=>hN _ _ ⟨rfl,zj (s02.trans s3) he⟩⟩
 ·rintro σ H1 ⟨rfl,s01⟩;have chk:∀{H2:Hp}{pp:Addr}{us:List Th}{pvs:QR}{Z:L2.VK}{E:XK},Same H H2->H2 pp=some (.lst pvs)->RepL H2 us pvs->us.length<=100->(∀t,t∈us↔t∈ts)->(∀v H3,Same H2 H3->AnR H3 x v->Z v H3)->zhK cl CA W Ya CB CC [.int n,.ref b,.ref pp] H2 Z E:=λs2 epp rp hl hu z=>by
   obtain⟨n2,f2,w',h2⟩:=part λt ht=>(hu t).mp ht;refine⟨b,_,n,q,_,_,rfl,qa.same s2,qo,epp,rp,by lia,λt ht=>g5 t ((hu t).mp ht),λy=>Jf n2 y,λ_=>?_⟩;rcases h2 with ⟨_,run2⟩ | ⟨no,_⟩
   ·refine Pg.wp_run f2 run2 (λy ey=>?_) (λy ey=>by cases ey);cases ey;exact λv H3 s3 r3=>z v H3 s3 r3.r
   ·exact Jf (λm t e=>(hu t).mpr (all m t e)) no
  refine⟨_,rfl,true,rfl,?_⟩;rw[if_pos rfl];refine⟨_,rfl,_,rfl,_,rfl,p,_,_,_,rfl,rfl,SqT.of (s01 _ _ ep),rfl,chk s01 (s01 _ _ el) (rl.keep (Same.tups s01)) (by lia) (λt=>Iff.rfl) λv H2 s2 r2=>?_⟩;have s02:=s01.trans s2;refine⟨_,rfl,p,_,_,_,rfl,rfl,SqT.of (s02 _ _ ep),rfl,r2.alk (ra.same s02) tl.ak,true,rfl,?_⟩;rw[if_pos rfl];have pr:=zmi xs.length;refine⟨_,rfl,_,rfl,_,rfl,p,_,_,_,rfl,rfl,SqT.of (s02 _ _ ep),rfl,_,rfl,_,rfl,l,xs,rfl,SqL.of (s02 _ _ el),by decide,Jg pr.1 (szl (by lia)),λpy hpy=>?_⟩;have sy:=zj (o:=.lst (L2.pickN (L2.picks xs.length none none (some (-1))) xs)) (Same.refl H2) hpy;have s03:=s02.trans sy;refine chk s03 za ((RepL.pickN _ rl).keep (Same.tups s03)) ?_ (λt=>?_) λv H3 s3 r3=>?_
  ·refine Jg (List.length_filterMap_le ..) (Jg pr.1 (by lia))
  ·rw[zgU];constructor
   ·rintro⟨i,_,e⟩;exact JX e
   ·intro h;obtain⟨i,hi,e⟩:=List.getElem_of_mem h;exact⟨i,pr.2 i (by lia),by rw[JB hi,e]⟩
  ·have s04:=s03.trans s3;exact⟨_,rfl,p,_,_,_,rfl,rfl,SqT.of (s04 _ _ ep),rfl,r3.alk (ra.same s04) tl.ak,qq H3 s04⟩
end
end Pv
namespace Pv
open PySem L2
open Tr
abbrev zf1:Stmt:=top 104
def znP {X:Cx}{w:World}{pos:Pos}(h:X.w=w):PE X (.Dict [] [] pos) (zqW w):=h ▸ zqn
def SqL.keepS (h:SqL K H a xs)(s:Same H H'):SqL K H' a xs:=by
 rcases h with h | h
 ·rcases h with h | ⟨o,h⟩
  ·exact .inl (.inl (s _ _ h))
  ·exact .inl (.inr ⟨o,s _ _ h⟩)
 ·exact .inr h
def znh (ns:List Int)(lo hi:Option Int):∃ms:List Int,cutV (ns.map V.int) lo hi=ms.map V.int/\ms.length<=ns.length:=by
 refine⟨(ns.drop (HT.sIx ns.length 0 lo)).take (HT.sIx ns.length ns.length hi - HT.sIx ns.length 0 lo),?_,?_⟩
 ·unfold cutV;rw[JE,List.map_take,List.map_drop]
 ·rw[Nt,Nj];lia
def zfv {row:Addr}(s:Same H H1)(hr:H row=none)(f:Frm [row] H1 H2):Same H H2:=λb o e=>f b o (not1 (zd e hr)) (s b o e)
def zmv (ns:List Int){v:Int}(h:0<=v):∃ms:List Int,cutV (ns.map V.int) none (some v)=ms.map V.int/\ms.length<=v.toNat:=by
 refine⟨ns.take (HT.sIx ns.length ns.length (some v)),?_,?_⟩
 ·unfold cutV;rw[JE,List.map_take]
  rfl
 ·rw[Nt];show min (if v < 0 then(v+(ns.length:Int)).toNat else min v.toNat ns.length) _<=_;rw[if_neg (by lia)];lia
def zed:KeyT (.tup [.str "other",.int 1]):=⟨⟨by decide,⟨by decide+kernel,by decide+kernel⟩,⟨by decide,by decide⟩,trivial⟩,by decide,by decide,λz=>by cases z⟩
def zqT:KeyT (.int 2):=⟨⟨by decide,by decide⟩,by decide,by decide,λz=>by cases z⟩
theorem Pg.Run.keep {p:Pg α}{r:Except Er α}(h:Pg.Run p s r s'):GoodC s.kp->Sub s.nt s.kp->GoodC s.nt->Sub s'.nt s.kp/\GoodC s'.nt:=by
 induction h with
 | ret=>intro _ a b;exact⟨a,b⟩
 | bad=>intro _ a b;exact⟨a,b⟩
 | lacks=>intro _ a b;exact⟨a,b⟩
 | clash=>intro _ a b;exact⟨a,b⟩
 | lay _ _ ih=>exact ih
 | rd z _ ih=>
  intro g a b;obtain⟨_,e2,su,_⟩:=zfa a z;obtain⟨_,_,_,hl⟩:=look_own z;rw[e2] at ih su;refine ih g su ?_;rcases hl with ⟨_,e3⟩ | ⟨_,lk,e3⟩
  ·rw[e3];exact b
  ·rw[e3];exact b.add (g.dep lk).1 (g.dep lk).2
def zlG {cs:QF}{T:Tr}{q:As}(gk:GoodC cs)(tk:TOk cs T)(c9:T.cnt<=60)(ok:AsK q):(asP T.root q).Fit ⟨[],cs,[],900000⟩/\∃r s1,Pg.Run (asP T.root q) ⟨[],cs,[],900000⟩ r s1/\((∃x,r=.ok x/\Tells cs T.root q x s1.nt)\/∃u t,r=.error (.clash u t)):=by
 obtain⟨fi,h1,h2⟩:=Pg.of_wp (ztf (A:=λt=>∃nd∈allN T,t=nd.th) (e:=λr _=>∃u t,r=.clash u t) (q:=λx s'=>Go (λt=>∃nd∈allN T,t=nd.th) 15000 ⟨[],cs,[],900000⟩ s'/\AnK x) (s:=⟨[],cs,[],900000⟩) (a:=q) (λu t _=>⟨u,t,rfl⟩) tk (by lia) ok (by show 15000<=900000;decide) (λnd hd=>⟨nd,hd,rfl⟩) λx s' g k=>⟨g,k⟩);obtain⟨r,s1,run⟩:=Pg.run_ex (asP T.root q) ⟨[],cs,[],900000⟩;refine⟨fi,r,s1,run,?_⟩;cases r with
 | error y=>obtain⟨u,t,e⟩:=h2 y s1 run;exact .inr ⟨u,t,by rw[e]⟩
 | ok x=>
  obtain⟨g,k⟩:=h1 x s1 run;obtain⟨su,gc⟩:=run.keep gk (Sub.nil _) GoodC.nil;have hA:∀m t,zg s1.nt m=some t->∃nd∈allN T,t=nd.th:=λm t e=>by
   rcases g.nt m t e with z | z
   ·cases z
   ·exact z
  have fw:=zmn gc hA;refine .inl ⟨x,rfl,⟨⟨s1,run,rfl⟩,fi,gc,su,λm t e=>?_,by lia,k,λxs e=>by subst e;exact k.1⟩⟩;obtain⟨nd,hd,rfl⟩:=hA m t e;obtain⟨k1,k2⟩:=zeW tk hd;have h1:=k1.dp;have h2:=k2.dp;have gd:=(gc.dep e).1;refine⟨gd.wf,?_,gd.nd⟩;show max (dep nd.k) (max (dep nd.w) (max 0 (max 0 (max 0 0))))+1<=5;lia
def Tells.again {cl:Kd->Addr}{CA C CN CB CC kp dk b:Addr}{cs:QF}{n:Int}{q:As}{x:An}{nt:QF}{H:Hp}{Q:L2.VK}{E:XK}(tl:Tells cs n q x nt)(vs:VS H C kp dk cs)(qa:AsAt cl CA H q b)(qo:AsOk q)(z:∀p H',Same H H'->ToldF H H' x nt p->Q (.ref p) H'):zdb cl CA C CN CB CC [.ref kp,.int n,.ref b] H Q E:=by obtain⟨s1,run,rfl⟩:=tl.ru;refine⟨kp,dk,b,cs,n,q,rfl,vs,qa,qo,Pg.wp_run tl.fi run (λy ey=>?_) (λy ey=>by cases ey)⟩;cases ey;exact⟨tl.fw,tl.mn,λp H' s' _ t=>z p H' s' t⟩
def zoz {cl:Kd->Addr}{CA C CN CB CC kp dk b:Addr}{cs:QF}{T:Tr}{q:As}{H:Hp}{Q:L2.VK}{E:XK}(cc:Cl CC E)(vs:VS H C kp dk cs)(tk:TOk cs T)(c9:T.cnt<=60)(ok:AsK q)(qa:AsAt cl CA H q b)(z:∀x nt p H',Same H H'->Tells cs T.root q x nt->ToldF H H' x nt p->Q (.ref p) H'):zdb cl CA C CN CB CC [.ref kp,.int T.root,.ref b] H Q E:=by
 obtain⟨fi,r,s1,run,h⟩:=zlG vs.gc tk c9 ok;rcases h with ⟨x,rfl,tl⟩ | ⟨u,t,rfl⟩
 ·exact tl.again vs qa ok.ok λp H' s' t=>z x _ p H' s' tl t
 ·refine⟨kp,dk,b,cs,T.root,q,rfl,vs,qa,ok.ok,Pg.wp_run fi run (λy ey=>by cases ey) (λy ey=>?_)⟩;cases ey;exact λx v1 v2 H' _ r1 r2 g1 g2 ne sn ex=>cc u t v1 v2 H' x r1 r2 g1 g2 ne sn ex
inductive Dues (cs:QF)(q:As)(T T2:Tr)(Hq H:Hp):Nat->List V->Prop
 | zero:Dues cs q T T2 Hq H 0 []
 | one {p0:Addr} {x:An} {nt:QF} (_:Tells cs T.root q x nt) (_:ToldF Hq H x nt p0):Dues cs q T T2 Hq H 1 [.ref p0]
 | two {p0 p1:Addr} {x y:An} {nt nu:QF} (_:Tells cs T.root q x nt) (_:ToldF Hq H x nt p0) (_:Tells cs T2.root q y nu) (_:ToldF Hq H y nu p1):Dues cs q T T2 Hq H 2 [.ref p0,.ref p1]
inductive zj5 (K:QA)(CC:Addr)(vs:QR)(H:Hp)(Q:L2.VK)(E:XK):Prop
 | mk (a:Addr)(ns:List Int)(_:vs=[.ref a])(_:SqL K H a (ns.map V.int)) (_:ns.length<=63) (_:(∀H',Q (.bl true) H')) (_:Cl CC E):zj5 K CC vs H Q E
section
variable {cl:Kd->Addr}
def zp8 (D:Dfn K mg "_law_held" zf1 ["script"]) (zoW:Mkr P w K mg base "Keeper" C 1 Sv (zbj C)) (zjo:FnX P w K mg base "_law_grown" 24 Sy (zhw C CC w)) (zoU:FnX P w K mg base "put" 23 Sm (zd9 (VK C) CN CB CC)) (zmG:Fn P w K mg base "_law_row" 1 ["cell"] zh7) (zs3:Fn P w K mg base "_law_ask" 9 SA (zjB cl CA)) (zga:FnX P w K mg base "_law_told" 28 Sf (zdb cl CA C CN CB CC)) (zqw:Fn P w K mg base "_law_slowly" 29 Ss (zki cl CA)) (zjA:Fn P w K mg base "_law_checked_again" 28 Ss (zho cl CA)) (zC:mg "len" =none):FnX P w K mg base "_law_held" 30 ["script"] (zj5 K CC):=by
 refine D.okX (k:=29) (fsN ["script","keeper","cells","pool","root","other","cell","ask","dues"]) (λ_ _ A _ s H vs Q E hr h=>?_);obtain⟨sc,ns,rfl,hS,h63,q,cc⟩:=h;refine⟨_,(zf (by ac_rfl)
 (zf (by ac_rfl)
 (zf (by ac_rfl)
 (zf (setA 4 rfl (zd5 zjo hr zaZ (zq (pv 1) (zq (by ac_rfl) (zq (pv 3) (zq (znP (w:=w) rfl) zS))))))
 (zf (by ac_rfl)
 (zf (zcy PassesOwn.leaving rfl (zg9 (zkK zoA (by ac_rfl) (by ac_rfl))) (by ac_rfl)
 (zf (by ac_rfl)
 (zf (zlM (i:=8) (E:=E) (by rfl) (by rfl) (by rfl) zjf (zm.three (y1:= "pool") (y2:= "keeper") (y3:= "cell") (j1:=3) (j2:=1) (j3:=6) (c1:=s.heap.objs.size+2) (c2:=s.heap.objs.size+1) (c3:=s.heap.objs.size+3) (by rfl) (by rfl) (by decide+kernel) (by decide+kernel) (by rfl) (by decide+kernel) (by decide+kernel) (by decide+kernel) (by decide+kernel) (by decide+kernel) (by decide+kernel) (by rfl) (by rfl) (by rfl) (by decide+kernel) (by rfl) (by rfl) (by rfl) (by first | exact Or.inl rfl | exact Or.inr rfl) (by first | exact Or.inl rfl | exact Or.inr rfl) (by first | exact Or.inl rfl | exact Or.inr rfl) (by first | exact Or.inl rfl | exact Or.inr rfl) (by first | exact Or.inl rfl | exact Or.inr rfl) (by first | exact Or.inl rfl | exact Or.inr rfl)) rfl (by ac_rfl) (λ_ _ _=>zaO) (λ_ _ _=>(by ac_rfl)) (zfs rfl) rfl (Or.inl rfl) (by rfl))
 (zf (zbr (PW.pt (zil (zaA (zeR hr) (by ac_rfl) (by ac_rfl) (zau _)) (zhM (zaA (zeR hr) (by ac_rfl) (by ac_rfl) (zau _)))))
 (by ac_rfl)
 zai)
 (zf (by ac_rfl)
 (zf (by ac_rfl)
 (zw (zbr (PW.pt (zil (zaA (zeR hr) (by ac_rfl) (by ac_rfl) (zau _)) (zhM (zaA (zeR hr) (by ac_rfl) (by ac_rfl) (zau _)))))
 (by ac_rfl)
 zai))))))))
 (by ac_rfl))))))),?_⟩
 dsimp only[cxOf];intro a dx ha hdx ndx;refine zgX ha hdx ndx λd H1 s1 hd ex ed=>?_;have vk1:VK C H1 a [d] ⟨[],[],[],1000000⟩:=⟨⟨d,rfl,⟨⟨[],⟨⟨dx,_,ex,zkD d⟩,ed⟩,.nil⟩,GoodC.nil⟩⟩,rfl,by show 0+1000000<=1000000;decide⟩;obtain⟨ms,ems,hms⟩:=znh ns none (some 63);refine⟨_,rfl,_,rfl,sc,_,rfl,Pv.SqL.keepS hS s1,λcp hcp=>?_⟩;rw[ems];have s2:=zj (o:=.lst (ms.map V.int)) (Same.refl H1) hcp;have ecp:upd H1 cp (.lst (ms.map V.int)) cp=some (.lst (ms.map V.int)):=za;generalize upd H1 cp (.lst (ms.map V.int))=H2 at s2 ecp;refine⟨szl (show 0<=1000 by decide),λpl hpl=>?_⟩;have s3:=zj (o:=.lst []) (Same.refl H2) hpl;have epl:upd H2 pl (.lst []) pl=some (.lst []):=za;generalize upd H2 pl (.lst [])=H3 at s3 epl;have hml:(ms.map V.int).length=ms.length:=JE _;have ecp3:=s3 _ _ ecp;refine⟨_,rfl,_,rfl,_,rfl,cp,_,rfl,.inl (SqL.of ecp3),_,_,rfl,rfl,⟨by decide,by decide+kernel⟩,_,rfl,cp,_,rfl,SqL.of ecp3,λc1 hc1=>?_⟩;obtain⟨cells,ece,hcl⟩:=zmv ms (v:=((ms.map V.int).length:Int) / 3) (by lia);rw[ece];have s4:=zj (o:=.lst (cells.map V.int)) (Same.refl H3) hc1;have ec1:upd H3 c1 (.lst (cells.map V.int)) c1=some (.lst (cells.map V.int)):=za;have n1:c1≠pl:=(zd epl hc1).symm;generalize upd H3 c1 (.lst (cells.map V.int))=H4 at s4 ec1;refine⟨_,rfl,λpd hpd=>?_⟩;have s5:=zj (o:=TD w pd []) (Same.refl H4) hpd;have epd:upd H4 pd (TD w pd []) pd=some (TD w pd []):=za;generalize upd H4 pd (TD w pd [])=H5 at s5 epd;have s15:=s2.trans (s3.trans (s4.trans s5));refine⟨a,d,c1,pl,pd,cells,rfl,(vi_K C).same vk1 s15,s5 _ _ ec1,by lia,(s4.trans s5) _ _ epl,n1,⟨[],epd,⟨λx hx=>(nomatch hx),List.nodup_nil⟩,Jb _⟩,cc,λT st ts H6 f6 g6 po6 c6 l6 n6=>?_⟩;have ncp:cp∉ [d,pl,pd]:=λz=>by
  simp only[JD,JN,or_false] at z;rcases z with z | z | z
  ·rw[z,s2 _ _ ed] at ecp;cases ecp
  ·rw[z,hpl] at ecp;cases ecp
  ·rw[z] at ecp3;rw[s4 _ _ ecp3] at hpd;cases hpd
 have ecp6:=f6 _ _ ncp ((s4.trans s5) _ _ ecp3);refine⟨_,rfl,_,rfl,szl (show 2<=1000 by decide),λpo hpo=>?_⟩;have s7:=zj (o:=.tup [.str "other",.int 1]) (Same.refl H6) hpo;have rpo:=RepL.new (H:=H6) (ts:=[.str "other",.int 1]) (vs:=[.str "other",.int 1]) (.cons (.str _) (.cons (.int _) .nil)) hpo;generalize upd H6 po (.tup [V.str "other",V.int 1])=H7 at s7 rpo;have po7:=po6.frm (W:=[]) (Frm.of s7) (λz=>nomatch z) (Same.tups s7);refine⟨a,[d],st,T.root,.tup [.str "other",.int 1],.int 2,.ref po,.int 2,rfl,(vi_K C).same g6.vk s7,rpo,zed.good,.int 2,zj8 (A:=λ_=>True) (zh6 cc) g6.tk (by lia) zed zqT (by lia) (λ_ _=>trivial) λs8 g8 i8 v8 H8 f8 vk8 ev8=>?_⟩;have ev8':v8=.int (Tr.putT (.tup [.str "other",.int 1]) (.int 2) T).root:=ev8;subst ev8';have ep:=zow (x:=.tup [.str "other",.int 1]) (w:=.int 2) g6.so;have il:=zkF (ps:=T.ps) (x:=.tup [.str "other",.int 1]) (w:=.int 2);have c8:(Tr.putT (.tup [.str "other",.int 1]) (.int 2) T).cnt<=T.cnt+1:=by show(Tr.putT _ _ T).ps.length<=_;rw[ep];exact il
 have tk2:TOk s8.all (Tr.putT (.tup [.str "other",.int 1]) (.int 2) T):=⟨i8,λp hp=>by
  rw[ep] at hp;rcases zlb hp with hp | hp
  ·exact g6.tk.ky p hp
  ·rw[hp];exact⟨zed,zqT⟩,by lia⟩
 have tk1:=g6.tk.go g8;have npl:pl∉ [d]:=λz=>by obtain⟨xs,e,_⟩:=po7.ex;exact(vi_K C).not ((vi_K C).same g6.vk s7) e (by intro kv z;cases z) z
 have ncp':cp∉ [d]:=λz=>ncp (by rw[Jj.mp z];simp);have po8:=po7.frm f8 npl ((vi_K C).tups ((vi_K C).same g6.vk s7) f8);have ecp8:=f8 _ _ ncp' (s7 _ _ ecp6);obtain⟨d',ed',vs8⟩:=vk8.vs;cases ed';have hall:s8.all=s8.own:=by unfold Vst.all;rw[vk8.kp,JP]
 rw[hall] at tk1 tk2;generalize s8.own=cs at vs8 tk1 tk2;generalize Tr.putT (.tup [.str "other",.int 1]) (.int 2) T=T2 at c8 tk2;clear i8 ep il f8 g8 g6 vk8 hall ev8 f6 s15 s7 rpo po7 po6 ecp6;refine⟨szl (show 2<=1000 by decide),λp0 hp0=>?_⟩;have sA:=zj (o:=.lst [.int 0,.int 12]) (Same.refl H8) hp0;have e0:upd H8 p0 (.lst [.int 0,.int 12]) p0=some (.lst [.int 0,.int 12]):=za;generalize upd H8 p0 (.lst [.int 0,.int 12])=HA at sA e0;have ecpA:=sA _ _ ecp8;have hpk:(L2.picks (ms.map V.int).length (some (((ms.map V.int).length:Int) / 3)) none (some 5)).length<=ms.length:=by unfold L2.picks;refine Jg (sliceRange_len_le _ _ _ (by simp[sliceBounds])) ?_;simp[sliceBounds];lia
 refine⟨_,rfl,_,rfl,cp,_,rfl,.inl (SqL.of ecpA),_,_,rfl,rfl,⟨by decide,by decide+kernel⟩,_,rfl,_,rfl,cp,_,rfl,SqL.of ecpA,by decide,Jg hpk (szl (by lia)),λp1 hp1=>?_⟩;have hpm:∀y∈L2.pickN (L2.picks (ms.map V.int).length (some (((ms.map V.int).length:Int) / 3)) none (some 5)) (ms.map V.int),∃n:Int,y=.int n:=λy hy=>by obtain⟨i,_,e⟩:=zgU.mp hy;obtain⟨n,_,e'⟩:=Nl.mp (JX e);exact⟨n,e'.symm⟩
 have hpl2:=Jg (List.length_filterMap_le (λi=>(ms.map V.int)[i]?) (L2.picks (ms.map V.int).length (some (((ms.map V.int).length:Int) / 3)) none (some 5))) hpk;have hpl3:(L2.pickN (L2.picks (ms.map V.int).length (some (((ms.map V.int).length:Int) / 3)) none (some 5)) (ms.map V.int)).length<=ms.length:=hpl2;generalize L2.pickN (L2.picks (ms.map V.int).length (some (((ms.map V.int).length:Int) / 3)) none (some 5)) (ms.map V.int)=more at hpm hpl3;have sB:=zj (o:=.lst more) (Same.refl HA) hp1;have e1:upd HA p1 (.lst more) p1=some (.lst more):=za;generalize upd HA p1 (.lst more)=HB at sB e1;refine⟨p0,p1,_,_,rfl,rfl,sB _ _ e0,e1,szl (by show 2+_<=1000;lia),λpr hpr=>?_⟩;have sC:=zj (o:=.lst ([V.int 0,V.int 12]++more)) (sA.trans sB) hpr;have e2:upd HB pr (.lst ([V.int 0,V.int 12]++more)) pr=some (.lst ([V.int 0,V.int 12]++more)):=za;generalize upd HB pr (.lst ([V.int 0,V.int 12]++more))=HC at sC e2;have vsC:=vs8.same sC;obtain⟨xs,elC,rlC⟩:=(po8.frm (W:=[]) (Frm.of sC) (λz=>nomatch z) (Same.tups sC)).ex;have hk:=po8.ky;refine⟨pr,rfl,⟨_,SqL.of e2⟩,?_⟩;refine zck (xs:=[V.int 0,V.int 12]++more) (λi σ H'=>∃k6 k7 k8:Option V,σ=[some (.ref sc),some (.ref a),some (.ref cp),some (.ref pl),some (.int T.root),some (.int T2.root),k6,k7,k8]/\Same HC H') ⟨_,_,_,rfl,Same.refl _⟩ ?_ ?_ ?_
 ·rintro i σ H' _ ⟨k6,k7,k8,rfl,sm⟩;exact SqL.of (sm _ _ e2)
 ·rintro i y σ H' hy ⟨k6,k7,k8,rfl,sm⟩;have key:∃n:Int,y=.int n:=by
   rcases Jm.mp (JX hy) with h | h
   ·simp only[JD,JN,or_false] at h;rcases h with rfl | rfl <;> exact⟨_,rfl⟩
   ·exact hpm y h
  obtain⟨n,rfl⟩:=key;have ok:=zrk hk (rowF n);have askP:∀{Ha Hr:Hp}{row:Addr},Same HC Ha->Same Ha Hr->Ha row=none->Hr pl=some (.lst xs)/\RepL Hr ts xs/\pl≠row:=λsa sr h0=>⟨(sa.trans sr) _ _ elC,rlC.keep (Same.tups (sa.trans sr)),λe=>by rw[<-e,sa _ _ elC] at h0;cases h0⟩;refine⟨_,rfl,n,rfl,λrow Hr sr Rr hr0=>?_⟩;obtain⟨el,rl,npr⟩:=askP sm sr hr0;refine⟨_,rfl,row,pl,_,xs,ts,rfl,Rr,el,rl,hk,by lia,npr,λb Hb fb qa=>?_⟩;have sb:=sm.trans (zfv sr hr0 fb);generalize hak:askF ts (rowF n)=ak at ok qa;clear el rl npr Rr sr hr0 fb;refine⟨_,rfl,_,rfl,szl (show 2<=1000 by decide),λpz hpz=>?_⟩;have sz:=zj (o:=.lst [.int T.root,.int T2.root]) (Same.refl Hb) hpz;have ez:upd Hb pz (.lst [.int T.root,.int T2.root]) pz=some (.lst [.int T.root,.int T2.root]):=za;generalize upd Hb pz (.lst [.int T.root,.int T2.root])=Hz at sz ez;refine⟨pz,rfl,⟨_,SqL.of ez⟩,λp hp=>?_⟩;obtain⟨Hq,hHq⟩:∃Hq,Hq=upd Hz p (.lst []):=⟨_,rfl⟩;have sp:Same Hz Hq:=by rw[hHq];exact zj (Same.refl Hz) hp
  have ep:Hq p=some (.lst []):=by rw[hHq];exact za
  have sCz:=sb.trans sz;refine zaL (n:=2) (λi acc Hx=>(Same Hz Hx/\∀c,Hx c=none->Hq c=none)/\Hx p=some (.lst acc)/\Dues cs ak T T2 Hq Hx i acc) ⟨⟨by rw[<-hHq];exact sp,λ_ z=>by rw[hHq];exact z⟩,by rw[<-hHq];exact ep,.zero⟩ ?_ ?_ ?_ ?_
  ·rintro i acc Hx hi ⟨⟨sx,bk⟩,ex,du⟩;exact⟨_,_,SqL.of (sx _ _ ez),JB (l:=[V.int T.root,V.int T2.root]) hi⟩
  ·rintro acc Hx ⟨⟨sx,bk⟩,ex,du⟩;exact⟨_,SqL.of (sx _ _ ez),Jb 2⟩
  ·rintro i acc Hx y Hx' hi ⟨⟨sx,bk⟩,ex,du⟩ ⟨z1,z2⟩;subst z1;have ey:=z2 _ (SqL.of (sx _ _ ez));have sCx:=sCz.trans sx
   have next:∀{H5:Hp}{acc':QR},Same Hx' H5->(∀c,upd H5 p (.lst acc') c=none->Hq c=none)/\Same Hz (upd H5 p (.lst acc'))/\∀{x nt p0},ToldF Hq H5 x nt p0->ToldF Hq (upd H5 p (.lst acc')) x nt p0:=λ{H5 acc'} s5=>by
    have ex5:=s5 _ _ ex;refine⟨λc z=>bk c (s5.free ?_),zbB (sx.trans s5) hp,λt=>t.to (λ_ z=>z) (Tups.upd λys z=>by rw[ex5] at z;cases z) λb ys hb e=>by rw[zc (λz=>by rw[z,ep] at hb;cases hb)];exact e⟩;by_cases hc:c=p
    ·rw[hc,za] at z;cases z
    ·rw[zc hc] at z;exact z
   have go:∀{T':Tr}{Z:L2.VK},TOk cs T'->T'.cnt<=60->(∀x nt p0 H5,Same Hx' H5->Tells cs T'.root ak x nt->ToldF Hq H5 x nt p0->Z (.ref p0) H5)->∀{b2:Addr}{H4:Hp},Same Hx' H4->AsAt cl CA H4 (askF ts (rowF n)) b2->zdb cl CA C CN CB CC [.ref a,.int T'.root,.ref b2] H4 Z E:=λtk c9 z _ _ s4 qa2=>by rw[hak] at qa2;exact zoz cc (vsC.same (sCx.trans s4)) tk c9 ok qa2 λx nt p0 H5 s5 tl td=>z x nt p0 H5 (s4.trans s5) tl (td.to (λc w=>bk c (s4.free w)) (λ_ _ z=>z) λ_ _ _ z=>z)
   cases du with
   | zero=>
    cases ey;refine tt1 ⟨_,rfl,_,rfl,_,rfl,n,rfl,λrow2 Hr sr Rr hr0=>?_⟩;obtain⟨el,rl,npr⟩:=askP sCx sr hr0;refine⟨_,rfl,row2,pl,_,xs,ts,rfl,Rr,el,rl,hk,by lia,npr,λb2 H4 f4 qa2=>go tk1 (by lia) (λx nt p0 H5 s5 tl td=>?_) (zfv sr hr0 f4) qa2⟩;obtain⟨n1,n2,n3⟩:=next (acc':=[.ref p0]) s5
    exact⟨s5 _ _ ex,by decide+kernel,nxt hi ⟨⟨n2,n1⟩,za,.one tl (n3 td)⟩⟩
   | one tl0 td0=>
    cases ey;refine tt1 ⟨_,rfl,_,rfl,_,rfl,n,rfl,λrow2 Hr sr Rr hr0=>?_⟩;obtain⟨el,rl,npr⟩:=askP sCx sr hr0;refine⟨_,rfl,row2,pl,_,xs,ts,rfl,Rr,el,rl,hk,by lia,npr,λb2 H4 f4 qa2=>go tk2 (by lia) (λx nt p1 H5 s5 tl td=>?_) (zfv sr hr0 f4) qa2⟩;obtain⟨n1,n2,n3⟩:=next (acc':=[_,.ref p1]) s5
    exact⟨s5 _ _ ex,by show 1 < sizeLine;decide+kernel,nxt hi ⟨⟨n2,n1⟩,za,.two tl0 (n3 (td0.to (λ_ z=>z) (Same.tups s5) λ_ _ _ z=>s5 _ _ z)) tl (n3 td)⟩⟩
   | two=>exact Jf hi (by decide)
  ·rintro acc Hx ⟨⟨sx,bk⟩,ex,du⟩;cases du with
   | two tl0 td0 tl1 td1=>
   have t0:=td0.t;have t1:=td1.t;have vsX:=vsC.same (sCz.trans sx);have qaX:=qa.same (sz.trans sx);have sX:=sCz.trans sx;clear td0 td1 bk;refine⟨_,rfl,_,rfl,_,rfl,tl0.again vsX qaX ok.ok λq1 Y1 y1 u1=>?_⟩;refine⟨_,rfl,p,_,_,_,rfl,rfl,SqL.of (y1 _ _ ex),rfl,u1.t.alk (t0.same y1) tl0.gc tl0.ak,_,rfl,ifF rfl ?_⟩;refine⟨_,rfl,_,rfl,_,rfl,tl1.again (vsX.same y1) (qaX.same y1) ok.ok λq2 Y2 y2 u2=>?_⟩;have z2:=y1.trans y2;refine⟨_,rfl,p,_,_,_,rfl,rfl,SqL.of (z2 _ _ ex),rfl,u2.t.alk (t1.same z2) tl1.gc tl1.ak,_,rfl,ifF rfl ?_⟩;refine⟨_,rfl,_,rfl,_,rfl,p,_,_,_,rfl,rfl,SqL.of (z2 _ _ ex),rfl,b,_,_,ak,cs,_,_,rfl,qaX.same z2,ok.ok,t0.same z2,tl0,λY3 y3=>⟨_,rfl,ifF rfl ?_⟩⟩;have z3:=z2.trans y3;refine⟨_,rfl,_,rfl,_,rfl,p,_,_,_,rfl,rfl,SqL.of (z3 _ _ ex),rfl,b,_,_,ak,cs,_,_,rfl,qaX.same z3,ok.ok,t1.same z3,tl1,λY4 y4=>⟨_,rfl,ifF rfl ?_⟩⟩;have z4:=z3.trans y4;refine⟨_,rfl,_,rfl,_,rfl,p,_,_,_,rfl,rfl,SqL.of (z4 _ _ ex),rfl,b,_,_,ak,cs,_,_,rfl,qaX.same z4,ok.ok,t1.same z4,tl1,λY5 y5=>⟨_,rfl,ifF rfl ?_⟩⟩;have z5:=z4.trans y5;refine⟨_,rfl,_,rfl,_,rfl,p,_,_,_,rfl,rfl,SqL.of (z5 _ _ ex),rfl,b,_,_,ak,cs,_,_,rfl,qaX.same z5,ok.ok,t0.same z5,tl0,λY6 y6=>⟨_,rfl,ifF rfl ?_⟩⟩;have z6:=z5.trans y6;refine⟨_,rfl,_,rfl,_,rfl,tl0.again (vsX.same z6) (qaX.same z6) ok.ok λq7 Y7 y7 u7=>?_⟩;have z7:=z6.trans y7;refine⟨_,rfl,p,_,_,_,rfl,rfl,SqL.of (z7 _ _ ex),rfl,u7.t.alk (t0.same z7) tl0.gc tl0.ak,_,rfl,ifF rfl ?_⟩;refine⟨_,rfl,_,rfl,_,rfl,tl1.again (vsX.same z7) (qaX.same z7) ok.ok λq8 Y8 y8 u8=>?_⟩;have z8:=z7.trans y8;exact⟨_,rfl,p,_,_,_,rfl,rfl,SqL.of (z8 _ _ ex),rfl,u8.t.alk (t1.same z8) tl1.gc tl1.ak,_,rfl,ifF rfl ⟨_,_,_,rfl,sX.trans z8⟩⟩
 ·rintro σ H' ⟨k6,k7,k8,rfl,sm⟩;exact q H'
end
end Pv
namespace L2
open PySem PySem.Spec PyProof.Rows Px
def zhB {X:Cx}{K:QA}{f:Str}{pos:Pos}(hK:X.K=K)(he:PE X e ta)(hb:attributeBase e f X.env (eval e X.env)=eval e X.env):PE X (.Attribute e f pos) (tXG K ta f):=hK ▸ ztC he hb
end L2
namespace Pv
open PySem L2
abbrev slaw:Stmt:=top 105
inductive zgl (K:QA)(vs:QR)(H:Hp)(Q:L2.VK)(_E:XK):Prop
 | mk (a:Addr)(ns:List Int)(_:vs=[.ref a])(_:SqL K H a (ns.map V.int)) (_:ns.length<=63) (_:∀H',Q (.bl true) H'):zgl K vs H Q _E
section
def zst (F:Fun K "law" "law" slaw f fd) (zsF:FnX P w K mg base "_law_held" 30 ["script"] (zj5 K CC)) (zf3:Fn P w K mg base "seal" 13 Se zeb) (zdS:mg "Clash" =some (.ref CC)) (xc:XCls K CC) (n1:zl K CC "one") (n2:zl K CC "other")
  (em:PySem.W.exmOne K (.ref CC) (.ref CC)=some true):FnOk P w K mg base CX0 65 f fd ["script"] (zgl K):=by
 refine F.ok (k:=64) (fsN ["script","caught","right","e"]) (λvs H Q E h=>?_) (λcdv A outer s H vs Q E hr h=>?_)
 ·obtain⟨a,ns,rfl,_⟩:=h;rfl
 obtain⟨a,ns,rfl,hS,h63,q⟩:=h;refine⟨_,(zf (by ac_rfl)
 (zf (by ac_rfl)
 (zf (ziE (i:=3) rfl rfl (zfs rfl) rfl rfl (by rfl) zdS (λxe pn E hx=>(by ac_rfl)) (λe=>(by ac_rfl)))
 (zf (zbr (by ac_rfl)
 (zw (zaa (zc9 (zak (zhO hr) (zhB (K:=K) rfl (pv 1) (by rfl)) (zhB (K:=K) rfl (pv 1) (by rfl)) (zau _)) (zb0 (zak zqY (znR zf3 hr (zq (zhB (K:=K) rfl (pv 1) (by rfl)) zS)) (znR zf3 hr (zq (zhB (K:=K) rfl (pv 1) (by rfl)) zS)) (zau _))))))
 zai)
 (by ac_rfl))))),?_⟩
 refine⟨_,rfl,a,ns,rfl,hS,h63,λH1=>?_,λt1 t2 v1 v2 H1 x r1 r2 g1 g2 ne sn ex=>⟨CC,rfl,em,λe he=>?_⟩⟩
 ·refine⟨_,rfl,rfl,_,rfl,ifF rfl ?_⟩;exact⟨_,rfl,q H1⟩
 ·have xe:x≠e:=zd ex he;have ex2:upd H1 e (exO e CC (some x) false) x=some (xdO x [("one",v1),("other",v2)]):=by rw[zc xe];exact ex
  have ee2:upd H1 e (exO e CC (some x) false) e=some (exO e CC (some x) false):=za;have tk:Tups H1 (upd H1 e (exO e CC (some x) false)):=Tups.new he;have ra:=r1.keep tk;have rb:=r2.keep tk;generalize upd H1 e (exO e CC (some x) false)=H2 at ex2 ee2 tk ra rb;have gd:=g1.dp;have gd2:=g2.dp;have gn:=g1.nd;have gn2:=g2.nd;refine⟨_,rfl,?_⟩;refine⟨_,rfl,rfl,_,rfl,ifT rfl ?_⟩;refine⟨_,rfl,e,CC,false,x,_,v1,rfl,ee2,ex2,xc,n1,by rfl,_,rfl,e,CC,false,x,_,v2,rfl,ee2,ex2,xc,n2,by rfl,t1,t2,ra,rb,by lia,_,rfl,ifT (by rw[show eqT t1 t2=false from by cases z:eqT t1 t2 with | true=>exact Jf ((zV _ _).mp z) ne | false=>rfl];rfl) ?_⟩;refine⟨_,rfl,e,CC,false,x,_,v1,rfl,ee2,ex2,xc,n1,by rfl,t1,v1,rfl,ra,g1.wf,by lia,by lia,λH3 s3=>?_⟩;refine⟨_,rfl,e,CC,false,x,_,v2,rfl,s3 _ _ ee2,s3 _ _ ex2,xc,n2,by rfl,t2,v2,rfl,rb.keep (Same.tups s3),g2.wf,by lia,by lia,λH4 s4=>?_⟩;refine⟨rfl,?_⟩;rw[sn,decide_eq_true rfl];exact q H4
variable {P:Program}{w:World}{K:QA}{mg:QB}{base:Heap}{CA CC CN CB:Addr}{cl:Kd->Addr}{t1 t2 t3 t4 t5 t7:Tok}
def zrV (D1:Dfn K mg "node_beneath" zby Sc) (zg1:Fn P w K mg base "is_node" 3 Se zkA) (xB:XP K mg "BadThing" CB) (Ds:Dfn K mg "size_beneath" zbw Sc) (Dz:Dfn K mg "size" ssize SH) (D4:Dfn K mg "way_to" zhy Sb) (zkn:Fn P w K mg base "side_of" 21 SC zcS) (zko:Fn P w K mg base "ends_at" 1 Sr (zcT K)) (Df:Dfn K mg "found" zkc Sb) (D6:Dfn K mg "hung" zm7 Sj) (D7:Dfn K mg "parted" zhA So) (zkp:Fn P w K mg base "with_tree" 1 Sl zcP) (zqx:Fn P w K mg base "place_in" 22 Sr zdi) (D8:Dfn K mg "put" sput Sm) (D9:Dfn K mg "joined" zhQ Su) (D10:Dfn K mg "cut" scut Sb) (zib:Fn P w K mg base "above" 21 SK zdK)
  (zaQ:Fn P w K mg base "ahead" 20 Sk (zaz 9)) (zly:Fn P w K mg base "is_empty" 21 Sz zcG) (zub:Fn P w K mg base "goes_left" 21 SN zdF) (zuc:Fn P w K mg base "goes_right" 21 SL zdw) (Du:Dfn K mg "refuse_sum" zcF SO) (Dt:Dfn K mg "stretch" zfB Si) (Dc:Dfn K mg "count_ahead" zbR Sb) (Dd:Dfn K mg "counted" zfV Si) (Dn:Dfn K mg "nth" snth SB)
  (dFind:Mdf K (cl .fi) "answer" "Find.answer" zb2 Sa) (cFind:Cls K (cl .fi)) (nFind0:zl K (cl .fi) "key") (dStretch:Mdf K (cl .st) "answer" "Stretch.answer" zaV Sa) (cStretch:Cls K (cl .st)) (nStretch0:zl K (cl .st) "low") (nStretch1:zl K (cl .st) "high") (dCount:Mdf K (cl .co) "answer" "Count.answer" zbx Sa) (cCount:Cls K (cl .co)) (nCount0:zl K (cl .co) "low") (nCount1:zl K (cl .co) "high") (dNth:Mdf K (cl .nt) "answer" "Nth.answer" zcx Sa) (cNth:Cls K (cl .nt)) (nNth0:zl K (cl .nt) "number") (dPut:Mdf K (cl .pu) "answer" "Put.answer" zcv Sa) (cPut:Cls K (cl .pu)) (nPut0:zl K (cl .pu) "key") (nPut1:zl K (cl .pu) "worth") (dCut:Mdf K (cl .cu) "answer" "Cut.answer" zcw Sa) (cCut:Cls K (cl .cu)) (nCut0:zl K (cl .cu) "key") (dAlso:Mdf K CA "answer" "Also.answer" zbW Sa) (cAlso:Cls K CA) (nAlso:zl K CA "asks")
  (g1:mg "KEY" =some (.int 0 t1)) (g2:mg "WORTH" =some (.int 1 t2)) (g3:mg "LEFT" =some (.int 2 t3)) (g4:mg "RIGHT" =some (.int 3 t4)) (g5:mg "COUNT" =some (.int 4 t5)) (g7:mg "BENEATH_NONE" =some (.int 301 t7)) (zC:mg "len" =none) (zoX:mg "reversed" =none) {W:Addr} {VR:VRT} (I:VI W VR) (M1:Mt P w K mg base (CX1 P w) W "thing" 2 Sd (zcs VR CN)) (M2:Mt P w K mg base (CX1 P w) W "lay" 14 Sh (zbX VR CC)) (c:Cls K W):
  FnX P w K mg base "put" 23 Sm (zd9 VR CN CB CC)/\FnX P w K mg base "cut" 23 Sb (zfT VR CN CB CC)/\∀k∈all7,Mt P w K mg base (CX1 P w) (cl7 cl CA k) "answer" 26 Sa (spAs cl CA VR CN CB CC k):=by
 have f1:FnX P w K mg base "node_beneath" 4 Sc (zcC VR CN CB CC):=zp6 I D1 M1 c zg1 xB g5;have f2:=zmz I Ds f1 g5;have f3:=znp I Dz f2 g7;have f4:=zp7 I D4 f1 zkn g1 g5 g7;have f6:FnX P w K mg base "hung" 22 Sj (zdh VR CN CB CC):=znE I D6 M2 c zkp zkn g5 zoX;have f7:FnX P w K mg base "parted" 22 So (zcI VR CN CB CC):=zkd I D7 M2 c zkp zkn g5 g3 g4 zoX;have f9:=zmY I D9 f1 zib M2 c zkp g1 g3 g4 g5 zoX;have fp:=zqr I D8 f4 zko M2 c f6 f7 zqx g5 g3 g4 zC;have fc:=zqm I D10 f4 zko f6 f9 g5 g3 g4;have M:∀k∈zft,Mt P w K mg base (CX1 P w) (cl k) "answer" 25 Sa (zbv cl VR CN CB CC k):=λk _=>by
  cases k with
  | fi=>exact zmZ dFind (zmB I Df f4 zko g2) cFind nFind0
  | st=>exact ziw dStretch (zp2 I Dt zly f1 zub zuc (zp3 I Du f2 xB g3 g4 g5) zaQ g1 g2 g3 g4 g5 g7 zC) cStretch nStretch0 nStretch1
  | co=>exact zmx dCount (zir I Dd zly f3 (zqq I Dc f4 zaQ f2 g1 g3 g5)) cCount nCount0 nCount1
  | nt=>exact zqa dNth (zpi I Dn f1 f2 g1 g2 g3 g4 g5 g7) cNth nNth0
  | pu=>exact zqh dPut fp cPut nPut0 nPut1
  | cu=>exact zpV dCut fc cCut nCut0
 have Cc:∀k∈zft,Cls K (cl k):=λk _=>by cases k <;> assumption
 exact⟨fp,fc,mt7 M (zoR I dAlso M Cc cAlso nAlso)⟩
end
def zmU {K:QA}{h:Heap}{mg:QB}(x:Str)(st:Stmt)(ps:QQ){f:Addr}{od an:QN}{sl:QJ}{oc kV pm ct:Value}(X:K.In h)(G:h.Ns mainGlobals mg)
  (a:PySem.W.nsIn K mainGlobals x=some (some (.ref f))) (l:K.lookup f=some ⟨oc,od,.func (PySem.W.fnOf x x (zI st) (zD st) (zo st) .none kV dc pm an cd ct),sl⟩) (c:PySem.W.codeIn K cd x=true) (k:PySem.W.keepIn K (.ref f)=true)
  (b:∀(kV doc pm:Value)(an:QN)(cdv ct:Value)(us:QO),us.length=ps.length->bindArgs (PySem.W.fnOf x x (zI st) (zD st) (zo st) .none kV doc pm an cdv ct) ⟨us,[]⟩=pure (ps.zip us)):Dfn K mg x st ps:=
 ⟨_,_,za9 l c k,(za9 l c k).binds b,PySem.W.mg_of X G a⟩
def zpd {K:QA}{h:Heap}{mg:QB}{i:Int}{t:Tok}(X:K.In h)(G:h.Ns mainGlobals mg)(a:PySem.W.nsIn K mainGlobals x=some (some (.int i t))):∃t,mg x=some (.int i t):=⟨t,PySem.W.mg_of X G a⟩
def zro {l:PySem.W.OpenLaw}{w:World}{K:QA}{h:Heap}{mg:QB}{fa f:Addr}{od an:QN}{sl:QJ}{oc kV dc pm cd ct:Value}(X:K.In h)(G:h.Ns mainGlobals mg)(hfa:mg "law" =some (.ref fa))
  (a:PySem.W.nsIn K mainGlobals "law" =some (some (.ref f))) (lk:K.lookup f=some ⟨oc,od,.func (PySem.W.fnOf "law" "law" (zI slaw) (zD slaw) (zo slaw) .none kV dc pm an cd ct),sl⟩) (c:PySem.W.codeIn K cd "law" =true) (k:PySem.W.keepIn K (.ref f)=true)
  (ok:∀(base:Heap)(fd:FuncData),Fun K "law" "law" slaw f fd->FnOk l.prog w K mg base CX0 65 f fd ["script"] (zgl K)):
  ∃fd:FuncData,(∀(s:Shared)(v:Value),BindsTo s fd ⟨[v],[]⟩ [("script",v)])/\∀base:Heap,K.In base->base.Ns mainGlobals mg->FnOk l.prog w K mg base CX0 65 fa fd ["script"] (zgl K):=by
 have e:=hfa.symm.trans (PySem.W.mg_of X G a);cases e;exact⟨PySem.W.fnOf "law" "law" (zI slaw) (zD slaw) (zo slaw) .none kV dc pm an cd ct,λs v=>.of_eq rfl,λbase _ _=>ok base _ (za9 lk c k)⟩
def walk {l:PySem.W.OpenLaw}{q:Program}{loose:QQ}{XP:(Str->Option Value)->Heap->Prop}{YP:World->Heap->Prop}{d:DefRec}{K:Params->QA}(hn:l.most=some 63)(hdf:d.params.defaults=[])
  (hY:∀(w:World)(h:Heap),YP w h->(K w.params).In h)
  (F:∀(w:World)(mg:QB)(fa:Addr)(h:Heap),(K w.params).In h->h.Ns mainGlobals mg->mg d.name=some (.ref fa)->
   ∃fd:FuncData,(∀(s:Shared)(u:Value),BindsTo s fd ⟨[u],[]⟩ [("script",u)])/\∀base:Heap,(K w.params).In base->base.Ns mainGlobals mg->FnOk l.prog w (K w.params) mg base CX0 65 fa fd ["script"] (zgl (K w.params))):
  PySem.W.WalkO q loose XP YP l.row.toRowW d [] (λf vs=>PySem.call f vs):=
 L2.zqg (n:=63) (k:=65) (x:= "script") (CX:=λ_=>CX0) (sp:=λw=>zgl (K w.params)) hn (by decide) hdf ⟨rfl,by decide,by decide⟩ hY F (λ_ _ a ns hl _ hS=>⟨a,ns,rfl,hS,hl,λ_=>rfl⟩) λ_ _ _ _ _ z=>z
def lt (f:Nat->Value)(i:Nat):Nat->List Value
 | 0=>[]
 | n+1=>f i::lt f (i+1) n
def ltx {us:QO}:∀{n i:Nat}{g:Nat->Value},us.length=n->∃f,us=lt f i n/\∀j,j < i->f j=g j:=by
 induction us with
 | nil=>intro n i g h;cases h;exact⟨g,rfl,λ_ _=>rfl⟩
 | cons a r ih=>
  intro n i g h;cases n with
  | zero=>cases h
  | succ n=>obtain⟨f,e,q⟩:=ih (i:=i+1) (g:=λj=>if j=i then a else g j) (Nat.succ.inj h);have z:=q i (Jt i);rw[if_pos rfl] at z;exact⟨f,by rw[lt,<-e,z],λj hj=>(q j (Nat.lt_succ_of_lt hj)).trans (if_neg (Jk hj))⟩
def lts {us:QO}{n:Nat}(h:us.length=n):∃f,us=lt f 0 n:=
 let ⟨f,e,_⟩:=ltx (i:=0) (g:=λ_=>.none) h
 ⟨f,e⟩
def Ds (K:QA)(mg:QB):List (Str ×Stmt ×List Str)->Prop
 | []=>True
 | (x,s,p)::r=>Dfn K mg x s p/\Ds K mg r
def Zs (mg:QB):List Str->Prop
 | []=>True
 | x::r=>mg x=none/\Zs mg r
def Gis (mg:QB):List (Str ×Int)->Prop
 | []=>True
 | (x,i)::r=>(∃t,mg x=some (.int i t))/\Gis mg r
def NAs (K:QA)(C:Addr):List Str->Prop
 | []=>True
 | x::r=>zl K C x/\NAs K C r
def Ms (K:QA)(C:Addr):List (Str ×Str ×Stmt ×List Str)->Prop
 | []=>True
 | (m,q,s,p)::r=>Mdf K C m q s p/\Ms K C r
def Cs (K:QA)(mg:QB):List (Str ×Str ×Stmt ×List Str ×List Str ×List (Str ×Str ×Stmt ×List Str))->Prop
 | []=>True
 | (x,q,s,p,ns,ms)::r=>(∃C,Cls K C/\Mkd K mg x C q s p/\NAs K C ns/\Ms K C ms)/\Cs K mg r
def ztL {K:QA}{h:Heap}{C:Addr}(_:K.In h)(_:PySem.W.nsIn K mainGlobals x=some (some (.ref C)))(a:Cls K C)(b:Mkd K mg x C q s p)(c:NAs K C ns)(d:Ms K C ms)(e:Cs K mg r):Cs K mg ((x,q,s,p,ns,ms)::r):=⟨⟨C,a,b,c,d⟩,e⟩
end Pv
open PySem PySem.W PyProof.Rows
set_option maxRecDepth 100000 in
set_option maxHeartbeats 0 in
theorem PySem.Challenge.cw_papervault_k46_asked_again_holds : PySem.Challenge.rw_papervault_k46_asked_again.Holds := by
 refine holds_law Pv.said λsaid=>?_;refine holds_open (q:=Pv.VQ) (loose:=[]) (XP:=XL Pv.VQ []) (YP:=InK Pv.KK) Pv.left (InK.of Pv.addrs) InK.keeps (λs e=>xl_of s (Ju.mp e).1) XL.keeps (by rfl) (by rfl) (by rfl) (λs e=>recFacts_of (Ju.mp e).2) (by rfl) said (by decide+kernel) ⟨rfl,rfl,rfl,rfl,rfl,by decide+kernel⟩ ?hw ?hc
 (case hw=>w_witness2)
 k_fill
 refine Pv.walk (l:=PySem.Challenge.rw_papervault_k46_asked_again) rfl rfl (λw h Y=>Y) ?F
 case F=>
  intro w mg fa h KX G hmg;obtain⟨zsG,zqy,zjp,zgb,zkq,zdV,zdW,zcc,zmH,zqz,zeq,zoY,zcX,zmI,zgc,zmJ,zmK,zsH,zgd,zsI,zqA,zmL,zoZ,zmM,zqB,zkr,zjq,zic,zid,zmN,_⟩:Pv.Ds (L2.KOf KX) mg [("seal",Pv.zq4,Se),("codes",Pv.zoi,Se),("number_of",Pv.zfx,["signs"]),("is_whole",Pv.zd0,SJ),("is_thing",Pv.zgE,Se),("is_thing_within",Pv.zbK,SI),("is_tuple_within",Pv.zaG,["parts","deep"]),("has_signs_of_things",Pv.zaR,["text"]),("kind_of",Pv.zij,Se),("ahead",Pv.znc,Sk),("is_tuple_ahead",Pv.zaT,Sk),("rising",Pv.zkX,["laid"]),("answer_with_paper",Pv.za5,Sf),("checked",Pv.ziO,SG),("node_beneath",Pv.zby,Sc),("is_node",Pv.ziz,Se),("is_root",Pv.ziu,Se),("size",Pv.ssize,SH),("size_beneath",Pv.zbw,Sc),("rank",Pv.zq1,["key"]),("above",Pv.zm1,SK),("side_of",Pv.zi2,SC),("way_to",Pv.zhy,Sb),("ends_at",Pv.ziI,Sr),("found",Pv.zkc,Sb),("is_empty",Pv.zgr,Sz),("goes_left",Pv.zfO,SN),("goes_right",Pv.zeG,SL),("refuse_sum",Pv.zcF,SO),("stretch",Pv.zfB,Si)]:=by
   dsimp only[L2.KOf]
   iterate 30 refine⟨by refine' Pv.zmU _ _ _ KX G ?a ?l ?c ?k ?b;(case a | l | c | k=>k_is);(case b=>intro _ _ _ _ _ _ us hl;obtain⟨f,rfl⟩:=Pv.lts hl;rfl),?_⟩
   trivial
  obtain⟨zgh,zmO,ztT,zjr,zsJ,zo0,zks,ztU,ztV,zo1,zkt,zjs,zjt,zie,zif,zju,zig,zku,zkv,zih,zjv,zjw,zgi,zcH,zjx,_⟩:Pv.Ds (L2.KOf KX) mg [("count_ahead",Pv.zbR,Sb),("counted",Pv.zfV,Si),("nth",Pv.snth,SB),("with_tree",Pv.zfJ,Sl),("hung",Pv.zm7,Sj),("parted",Pv.zhA,So),("place_in",Pv.zgm,Sr),("put",Pv.sput,Sm),("cut",Pv.scut,Sb),("joined",Pv.zhQ,Su),("_law_row",Pv.zgF,["cell"]),("_law_take",Pv.zfn,SD),("_law_text",Pv.zfw,["row"]),("_law_thing",Pv.zey,["row","deep"]),("_law_first",Pv.zeE,Se),("_law_some",Pv.zfd,["row"]),("_law_grown",Pv.zew,Sy),("_law_key",Pv.zgS,SA),("_law_ask",Pv.zgw,SA),("_law_lacks",Pv.zeB,Sf),("_law_copy",Pv.zfM,["answer"]),("_law_told",Pv.zfZ,Sf),("_law_slowly",Pv.zdy,Ss),("_law_checked_again",Pv.zaW,Ss),("_law_held",Pv.zf1,["script"])]:=by
   dsimp only[L2.KOf]
   iterate 25 refine⟨by refine' Pv.zmU _ _ _ KX G ?a ?l ?c ?k ?b;(case a | l | c | k=>k_is);(case b=>intro _ _ _ _ _ _ us hl;obtain⟨f,rfl⟩:=Pv.lts hl;rfl),?_⟩
   trivial
  obtain⟨zdU,zoV,zia,zeK,zbs,zk,zC,zdg,m_ord,zaC,zb5,zf5,zeI,zO,zji,_⟩:Pv.Zs mg ["ValueError","abs","bool","enumerate","int","isinstance","len","list","ord","range","reversed","sorted","str","tuple","zip"]:=by
   iterate 15 refine⟨by refine' PySem.W.mg_none_of KX G ?z;(case z=>k_is),?_⟩
   trivial
  obtain⟨⟨_,zag⟩,⟨_,zY⟩,⟨_,zax⟩,⟨_,zaw⟩,⟨_,zeL⟩,⟨_,zdQ⟩,⟨_,zaE⟩,⟨_,zb6⟩,⟨_,zg5⟩,⟨_,zae⟩,⟨_,zbt⟩,_⟩:Pv.Gis mg [("BENEATH_NONE",301),("COUNT",4),("KEY",0),("LEFT",2),("MOST_DEEP",5),("MOST_NODES",300),("MOST_PARTS",40),("MOST_SIGNS",60),("PERCENT",37),("RIGHT",3),("WORTH",1)]:=by
   iterate 11 refine⟨by refine' Pv.zpd KX G ?z;(case z=>k_is),?_⟩
   trivial
  obtain⟨⟨CK,cK,dI,⟨nL,_⟩,⟨dR,dL,dT,_⟩⟩,⟨CW,cW,dWI,⟨nLW,_⟩,⟨dWR,dWL,dWT,_⟩⟩,⟨CR,cR,dRI,⟨nLR,nKR,nNR,_⟩,⟨dRR,dRL,dRT,dRP,_⟩⟩,⟨CFind,cFind,dFindI,⟨nFind0,_⟩,⟨dFindA,_⟩⟩,⟨CStretch,cStretch,dStretchI,⟨nStretch0,nStretch1,_⟩,⟨dStretchA,_⟩⟩,⟨CCount,cCount,dCountI,⟨nCount0,nCount1,_⟩,⟨dCountA,_⟩⟩,⟨CNth,cNth,dNthI,⟨nNth0,_⟩,⟨dNthA,_⟩⟩,⟨CPut,cPut,dPutI,⟨nPut0,nPut1,_⟩,⟨dPutA,_⟩⟩,⟨CCut,cCut,dCutI,⟨nCut0,_⟩,⟨dCutA,_⟩⟩,⟨CAlso,cAlso,dAlsoI,⟨nAlso0,_⟩,⟨dAlsoA,_⟩⟩,_⟩:Pv.Cs (L2.KOf KX) mg [("Keeper","Vault.__init__",Pv.zZ,Sv,["laid"],[("refuse_clash","Vault.refuse_clash",Pv.zN,Sn),("lay","Vault.lay",Pv.zdc,Sh),("thing","Vault.thing",Pv.zbQ,Sd)]),("Witness","Witness.__init__",Pv.zbq,["self","paper"],["laid"],[("refuse_clash","Vault.refuse_clash",Pv.zN,Sn),("lay","Vault.lay",Pv.zdc,Sh),("thing","Vault.thing",Pv.zbQ,Sd)]),("Reader","Reader.__init__",Pv.zbG,SM,["laid","keeper","noted"],[("refuse_clash","Vault.refuse_clash",Pv.zN,Sn),("lay","Reader.lay",Pv.zez,Sh),("thing","Reader.thing",Pv.zc0,Sd),("paper","Reader.paper",Pv.zcZ,Sv)]),("Find","Find.__init__",Pv.zcD,Sw,["key"],[("answer","Find.answer",Pv.zb2,Sa)]),("Stretch","Stretch.__init__",Pv.zbp,Sq,Sz,[("answer","Stretch.answer",Pv.zaV,Sa)]),("Count","Count.__init__",Pv.zb9,Sq,Sz,[("answer","Count.answer",Pv.zbx,Sa)]),("Nth","Nth.__init__",Pv.zc1,Sd,["number"],[("answer","Nth.answer",Pv.zcx,Sa)]),("Put","Put.__init__",Pv.zc3,SE,["key","worth"],[("answer","Put.answer",Pv.zcv,Sa)]),("Cut","Cut.__init__",Pv.zcY,Sw,["key"],[("answer","Cut.answer",Pv.zcw,Sa)]),("Also","Also.__init__",Pv.zcl,["self","asks"],["asks"],[("answer","Also.answer",Pv.zbW,Sa)])]:=by
   dsimp only[L2.KOf]
   iterate 10
    refine' Pv.ztL KX ?n ?c0 ?c1 ?c2 ?c3 ?_
    (case n=>k_is)
    (case c0=>refine' L2.zrt ?a ?b ?c ?d;(case a | b | c | d=>k_is))
    (case c1=>refine' L2.zsw KX G ?n ?mk ?a ?fn ?l ?c ?k ?kc ?b;(case n | mk | a | fn | l | c | k | kc=>k_is);(case b=>intro _ _ _ _ _ _ us hl;obtain⟨f,rfl⟩:=Pv.lts hl;rfl))
    (case c2=>(repeat refine⟨by unfold L2.zl;k_is,?_⟩);trivial)
    (case c3=>(repeat refine⟨by refine' L2.zsa ?a ?fn ?l ?c ?k ?b;(case a | fn | l | c | k=>k_is);(case b=>intro _ _ _ _ _ _ us hl;obtain⟨f,rfl⟩:=Pv.lts hl;rfl),?_⟩);trivial)
   trivial
  have gI:L2.Kdf (L2.KOf KX) mg "Vault" "__init__" "Vault.__init__" Pv.zZ Sv:=by
   dsimp only[L2.KOf];refine' L2.zry (mc:=.type "type") (qual:= "Vault.__init__") (st:=Pv.zZ) (ps:=Sv) KX G ?n ?g ?rd ?fc ?l ?c ?k ?b
   (case n | g | rd | fc | l | c | k=>k_is)
   (case b=>intro _ _ _ _ _ _ us hl;obtain⟨f,rfl⟩:=Pv.lts hl;rfl)
  obtain⟨Yj,Yd,Yi,Ye,Yc,Yk,Ya,Yl,Yb,Ym,Yh,Yn,Yg,Yf,Yo,Yp,zb7,zf8,zdS,zf9,zeM,zjl,zbO,zjm,zdT,zlv,zg6,zjn,zg7,zg8,zlw,zlx,kL,e6,e7,xB,xN,xC,n1,n2⟩:∃Yj Yd Yi Ye Yc Yk Ya Yl Yb Ym Yh Yn Yg Yf Yo Yp,mg "VaultError" =some (.ref Yj)/\mg "BadThing" =some (.ref Yd)/\mg "Clash" =some (.ref Yi)/\mg "NoColumn" =some (.ref Ye)/\mg "NoCommand" =some (.ref Yc)/\mg "NoName" =some (.ref Yk)/\mg "NoPaper" =some (.ref Ya)/\mg "NoPlan" =some (.ref Yl)/\mg "NoQuestion" =some (.ref Yb)/\mg "NoRow" =some (.ref Ym)/\mg "NoState" =some (.ref Yh)/\mg "NoStep" =some (.ref Yn)/\mg "NoTable" =some (.ref Yg)/\mg "NoThing" =some (.ref Yf)/\mg "NotOn" =some (.ref Yo)/\mg "NotSo" =some (.ref Yp)/\Pv.zqQ (L2.KOf KX) Ya Yj [.ref Yd,.ref Yi,.ref Ye,.ref Yc,.ref Yk,.ref Yl,.ref Yb,.ref Ym,.ref Yh] [.ref Yn,.ref Yg,.ref Yf,.ref Yo,.ref Yp]/\PySem.W.exmOne (L2.KOf KX) (.ref Yi) (.ref Yi)=some true/\PySem.W.exmOne (L2.KOf KX) (.ref Ya) (.ref Ya)=some true/\L2.XP (L2.KOf KX) mg "BadThing" Yd/\L2.XP (L2.KOf KX) mg "NoPaper" Ya/\L2.XId (L2.KOf KX) mg "Clash" Yi "Clash.__init__" Pv.zaS Sx/\L2.zl (L2.KOf KX) Yi "one" /\L2.zl (L2.KOf KX) Yi "other" :=by
   dsimp only[L2.KOf];refine' L2.zM KX (x:= "VaultError") ?n0 (L2.zM KX (x:= "BadThing") ?n1 (L2.zM KX (x:= "Clash") ?n2 (L2.zM KX (x:= "NoColumn") ?n3 (L2.zM KX (x:= "NoCommand") ?n4 (L2.zM KX (x:= "NoName") ?n5 (L2.zM KX (x:= "NoPaper") ?n6 (L2.zM KX (x:= "NoPlan") ?n7 (L2.zM KX (x:= "NoQuestion") ?n8 (L2.zM KX (x:= "NoRow") ?n9 (L2.zM KX (x:= "NoState") ?n10 (L2.zM KX (x:= "NoStep") ?n11 (L2.zM KX (x:= "NoTable") ?n12 (L2.zM KX (x:= "NoThing") ?n13 (L2.zM KX (x:= "NotOn") ?n14 (L2.zM KX (x:= "NotSo") ?n15 (?r))))))))))))))))
   (case n0 | n1 | n2 | n3 | n4 | n5 | n6 | n7 | n8 | n9 | n10 | n11 | n12 | n13 | n14 | n15=>k_is)
   and_intros
   all_goals first
    | (refine' PySem.W.mg_of KX G ?z;(case z=>k_is))
    | (unfold L2.zl;k_is)
    | (refine'⟨?cl,?ei,?m⟩;(case cl=>refine' L2.zhx ?xq ?xo ?xs ?xg ?xh ?xk;(case xq=>kernel_rfl);(case xo=>kernel_rfl);(case xs | xg | xh | xk=>k_is));(case ei=>kernel_rfl);(case m=>refine' PySem.W.mg_of KX G ?z;(case z=>k_is)))
    | (refine' L2.zrA (qual:= "Clash.__init__") (st:=Pv.zaS) (ps:=Sx) KX G ?n ?cl ?a ?fn ?l ?c ?k ?b;(case n=>k_is);(case cl=>refine' L2.zhx ?xq ?xo ?xs ?xg ?xh ?xk;(case xq=>kernel_rfl);(case xo=>kernel_rfl);(case xs | xg | xh | xk=>k_is));(case a | fn | l | c | k=>k_is);(case b=>intro _ _ _ _ _ _ us hl;obtain⟨f,rfl⟩:=Pv.lts hl;rfl))
    | (refine'⟨?kd,?em,?k1,?k3,?k4,?k5⟩;(case kd=>refine'⟨?cl,?ha,?hn,?ht,?hm⟩;(case cl=>refine' L2.zhx ?xq ?xo ?xs ?xg ?xh ?xk;(case xq=>kernel_rfl);(case xo=>kernel_rfl);(case xs | xg | xh | xk=>k_is));(case ha=>k_is);(case hn=>first | k_is | kernel_rfl);(case ht=>first | k_is | kernel_rfl);(case hm=>first | k_is | kernel_rfl));(case em=>kernel_rfl);(case k1=>kernel_rfl);(case k3=>kernel_rfl);(case k4=>kernel_rfl);(case k5=>kernel_rfl))
    | (kernel_rfl)
  refine' Pv.zro KX G hmg ?a ?l ?c ?k ?ok
  (case a | l | c | k=>k_is)
  case ok=>
   intro base fd F;have zrh:=Pv.zp9 (P:=Pv.PQ) (w:=w) (base:=base) zkt;have zge:=Pv.znT (P:=Pv.PQ) (w:=w) (base:=base) zjs;have zsK:=Pv.zor zjt zge zaC;have zqC:=Pv.zgG zie zge zsK zaC zO 4;have zqD:=Pv.zgp (P:=Pv.PQ) (w:=w) (base:=base) zif zk zO 4;have zkw:=Pv.znD zju zqD zqC;have ztW:=Pv.zpF zku zge zkw zC;have ztX:=Pv.zhg (P:=Pv.PQ) (w:=w) (base:=base) zjp m_ord;have zqE:=Pv.zi1 zqy ztX zk zbs zeI zaC zC 10;have zgf:=Pv.zpe zsG zqE;have zsL:=Pv.zqe (P:=Pv.PQ) (w:=w) (base:=base) zmH zk zbs zeI;have zcV:=Pv.ziW zqz zeq zsL zji zC zk zO 9;have zii:=Pv.zop (P:=Pv.PQ) (w:=w) (base:=base) xC n1 n2;have zo2:=Pv.znb (P:=Pv.PQ) (w:=w) (base:=base) dI cK nL;have zjy:=Pv.zec dR zii cK nL;have zsM:=Pv.zec dWR zii cW nLW;have zsN:=Pv.zec dRR zii cR nLR;have zri:=Pv.zoG dL zjy zgf cK nL;have zo3:=Pv.zoG dWL zsM zgf cW nLW;have zjz:=Pv.zgZ (P:=Pv.PQ) (w:=w) (base:=base) dT xN cK nL;have zo4:=Pv.zgZ (P:=Pv.PQ) (w:=w) (base:=base) dWT xN cW nLW;have zo5:=Pv.zl7 (P:=Pv.PQ) (w:=w) (base:=base) zoY zf5;have zsO:=Pv.zja (P:=Pv.PQ) (w:=w) (base:=base) gI cR nLR;have zqF:=Pv.zja (P:=Pv.PQ) (w:=w) (base:=base) gI cW nLW;have zo6:=Pv.zoq dRI zsO cR nKR nNR;have zsP:=Pv.zqd dRL zsN zjy zgf cR cK nLR nKR;have zo7:=Pv.zl2 dRT zjz cR cK nLR nKR nNR;have zqG:=Pv.zno dRP zo5 cR nNR;have zo8:=Pv.zoo (P:=Pv.PQ) (w:=w) (base:=base) zgb zk zbs zia;have zqH:=Pv.znm (P:=Pv.PQ) (w:=w) (base:=base) zcc m_ord zg5;have zo9:=Pv.zfu zdV zdW zo8 zqH zk zO zeI zbs zC zoV zb6 zaE 6;have ztY:=Pv.zrm zkq zo9 zeL;have ztZ:=Pv.ztE dWI zqF ztY (Pv.zpn zo3) xB cW;have zlz:=Pv.zml (P:=Pv.PQ) (w:=w) (base:=base) zgb zk zbs zia;have zsQ:=Pv.zoF zmK zlz;have zpa:=Pv.zl1 zmJ zsQ zlz zk zO zC zax zbt zaw zae zY zdQ;have zsR:=Pv.zpB zsI zgf;have zlA:=Pv.znA zqA zsR zcV;have zsS:=Pv.zmX zmL zcV zax zaw zae;have zsT:=Pv.zoh (P:=Pv.PQ) (w:=w) (base:=base) zjr zax zbt zaw zae;have zsU:=Pv.zn9 (P:=Pv.PQ) (w:=w) (base:=base) zmM zax zC;have zqI:=Pv.zmc zks zlA zax zeK zC;have zqJ:=Pv.zmd zkr zcV;have zud:=Pv.zlI zjq zcV zax;have zue:=Pv.zlT zic zcV zax;have tr:= @Pv.zrV _ _ _ _ _ CAlso Yi Ya _ (λk=>match k with | .fi=>CFind | .st=>CStretch | .co=>CCount | .nt=>CNth | .pu=>CPut | .cu=>CCut) _ _ _ _ _ _ zgc zpa xB zgd zsH zoZ zsS zsU zqB zsJ zo0 zsT zqI ztU zo1 ztV zlA zcV zqJ zud zue zid zmN zgh zmO ztT dFindA cFind nFind0 dStretchA cStretch nStretch0 nStretch1 dCountA cCount nCount0 nCount1 dNthA cNth nNth0 dPutA cPut nPut0 nPut1 dCutA cCut nCut0 dAlsoA cAlso nAlso0 zax zbt zaw zae zY zag zC zb5;have trK:=tr (Pv.vi_K CK) (Pv.zkO zjz) (Pv.zoH zri) cK;have trW:=tr (Pv.vi_K CW) (Pv.zkO zo4) (Pv.zoH zo3) cW;have trR:=λ(kp dk:Addr)=>tr (Pv.vi_R CR CK kp dk) (Pv.zpm zo7) (Pv.ztA zsP) cR;have Cc:∀k∈Pv.all7,L2.Cls (L2.KOf KX) (Pv.cl7 (λk=>match k with | .fi=>CFind | .st=>CStretch | .co=>CCount | .nt=>CNth | .pu=>CPut | .cu=>CCut) CAlso k):=λk _=>by
    cases k with
    | al=>exact cAlso
    | k k=>cases k <;> assumption
   have zrj:=Pv.zrK zcX zo6 zqG cR (λkp dk=>(trR kp dk).2.2) Cc;have zt0:=Pv.zpr zmI ztZ trW.2.2 Cc;have zsV:=Pv.zln (P:=Pv.PQ) (w:=w) (base:=base) zjv zk zdg 2;have zpb:=Pv.zpy zjw zrj zsV zdg;have zqK:=Pv.zmy zih zrj kL zb7 zf8 zdS zf9 zeM zjl zbO zjm zdT zlv zg6 zjn zg7 zg8 zlw zlx zk zdU;have zsW:=Pv.zpz zgi zo2 (Pv.zoH zri) cK zqK zpb zaC zC;have zqL:=Pv.zoQ zcH zt0 zbO e7;have zqM:=Pv.zm9 zig zrh zge zkw trK.1 trK.2.1 zC;have zt1:=Pv.zpN (cl:=λk=>match k with | .fi=>CFind | .st=>CStretch | .co=>CCount | .nt=>CNth | .pu=>CPut | .cu=>CCut) (CA:=CAlso) zkv zge zkw ztW zC zbs (Pv.zof (P:=Pv.PQ) (w:=w) (base:=base) dFindI cFind nFind0) (Pv.zim (P:=Pv.PQ) (w:=w) (base:=base) dStretchI cStretch nStretch0 nStretch1) (Pv.zmp (P:=Pv.PQ) (w:=w) (base:=base) dCountI cCount nCount0 nCount1) (Pv.zpT (P:=Pv.PQ) (w:=w) (base:=base) dNthI cNth nNth0) (Pv.zqc (P:=Pv.PQ) (w:=w) (base:=base) dPutI cPut nPut0 nPut1) (Pv.zpJ (P:=Pv.PQ) (w:=w) (base:=base) dCutI cCut nCut0) (Pv.znz (P:=Pv.PQ) (w:=w) (base:=base) dAlsoI zdg cAlso nAlso0);have zsX:=Pv.zp8 zjx zo2 zqM trK.1 zrh zt1 zpb zsW zqL zC;exact Pv.zst F zsX zgf zdS xC.cl n1 n2 e6
#print axioms PySem.Challenge.cw_papervault_k46_asked_again_holds
