import PyProof.Rows.All
import Wide.All
import OpenK.AllK
import Wide.FinOn
import Lean
import PyProof.EqAt
import PyProof.EqKinds
import PyProof.TupleCall
import PyProof.NeKinds
import PyProof.FactsAll.list
import PyProof.ListMulRoad
import PyProof.FactsAll.tuple
import PyProof.Rows.TupAdd
import PyProof.StationsW
import PyProof.RulesAs
import OpenK.KOwn
import OpenK.KMake
import PyProof.ExcClass3
import PyProof.ExcInit
import PyProof.InstStoreFacts
import PyProof.ExcAttrAll.ValueError
import PyProof.NsDelKeeps
import KE.KTryMore
import KE.KIsAll
import KE.KDictSum
import PyProof.Rows.SortWalk
import PyProof.StrOps2
import PyProof.WalkInts
import OpenK.KCls
import PyProof.DictWalks
import KE.KRevIter
import PyProof.ListNew
import PyProof.EnumMake
import PyProof.EnumFor
import PyProof.SeqI3
import KE.KEqDict
import PyProof.InstEq
import PyProof.ListRange
import PyProof.TupleOfStr
import PyProof.Rows.SetFrom
import PyProof.DictKinds
import PyProof.DictStraight
import PyProof.Rows.CountFlat
import PyProof.ConsumeWalk
import PyProof.Rows.SortStr
import PySem.Challenge.RW_papervault_k61_names_and_tables
set_option compiler.extract_closed false
set_option Elab.async false
set_option linter.all false
set_option maxRecDepth 100000
set_option maxHeartbeats 4000000
namespace L2
open PySem
noncomputable def inClass (s:Stmt)(j:Nat):Stmt:=match s with
 | .ClassDef _ _ _ body _ _ _ _ _ _ _=>body.getD j (.Pass ⟨0,0,0,0⟩)
 | _=>.Pass ⟨0,0,0,0⟩
noncomputable def z7 (s:Stmt):Arguments:=match s with
 | .FunctionDef _ a _ _ _ _ _ _ _ _=>a
 | _=>{posonlyargs:=[],args:=[],vararg:=none,kwonlyargs:=[],kw_defaults:=[],kwarg:=none,defaults:=[]}
noncomputable def zI (s:Stmt):List Stmt:=match s with
 | .FunctionDef _ _ b _ _ _ _ _ _ _=>b
 | _=>[]
noncomputable def zr (s:Stmt):Scope:=match s with
 | .FunctionDef _ _ _ _ _ _ sc _ _ _=>sc
 | _=>{kind:=.function,names:=[],isGenerator:=false,isCoroutine:=false}
end L2
namespace Pv
open PySem
noncomputable def top (i:Nat):Stmt:=PySem.Challenge.pw_papervault_k61_names_and_tables.main.body.getD i (.Pass ⟨0,0,0,0⟩)
end Pv
namespace Pv
open PySem PySem.W
noncomputable abbrev dE (P:Params)(x:Str)(t:Nat)(v:Value):DictEntry:=DictEntry.mk (PyData.keyHash P x) (.str x t) v
noncomputable abbrev cO (n:Str)(a:Nat)(q:Str)(b c:Nat)(l x y z w:Int)(r:Addr)(g:Bool)(r2:Addr)(e1 e2 e3 e4:Value)(t m:Int)(d:Nat):Obj:=.mk (.type "code") none (.fields #[.str n a,.str q b,.str "/claim/cut.py" c,.int l 0,.int x 0,.int y 0,.int z 0,.int w 0,.ref r,.bool g,.int 181 0,.ref r2,e1,e2,e3,e4,.int t 0,.int m 0,.str "/claim/cut.py" d]) #[]
noncomputable abbrev _root_.QM:=Option Addr
noncomputable abbrev fO (c:Value)(n q:Str)(st:Stmt)(g:Addr)(cl:List (Str ×Addr))(df kd doc md:Value)(an:QM)(cd ct:Value)(bl:Addr):Obj:=.mk c none (.func (.mk n q (L2.z7 st) (.stmts (L2.zI st)) (L2.zr st) g cl df kd doc md an cd ct bl)) #[]
noncomputable abbrev f0 (n q:Str)(st:Stmt):Obj:=fO .none n q st 0 [] .none .none .none .none none .none .none 0
noncomputable abbrev f1 (n q:Str)(st:Stmt)(m:Str)(k:Nat)(r:Addr):Obj:=fO (.type "function") n q st 3 [] .none .none .none (.str m k) none (.ref r) .none 0
noncomputable abbrev tO (a:Array Value):Obj:=.mk (.type "tuple") none (.seq a) #[]
noncomputable abbrev dO (a:Array DictEntry)(n:Nat):Obj:=.mk (.type "dict") none (.dict a n) #[]
noncomputable abbrev fi (a:Array Value):Obj:=.mk .none none (.fields a) #[]
noncomputable abbrev fy (x:String)(a:Array Value):Obj:=.mk (.type x) none (.fields a) #[]
noncomputable abbrev fr (c d:Addr)(v:Value):Obj:=.mk (.type "frame") none .plain #[some (.ref c),some (.ref 3),some (.ref d),none,some v,none,some (.ref 0)]
noncomputable abbrev HBT:=List (List Obj ×List Obj)
noncomputable def nm (t:Nat):List Str->List Value
 | []=>[]
 | x::r=>.str x t::nm (t+1) r
noncomputable def cs (i:Int):List (Int ×Nat)->List Value
 | []=>[]
 | (l,a)::r=>.int l 0::.int i 0::.ref a::cs i r
noncomputable def ka:HBT->List Obj
 | []=>[]
 | x::r=>x.1++ka r
noncomputable def kb:HBT->List Obj
 | []=>[]
 | x::r=>x.2++kb r
noncomputable def sp:List Obj->List Obj ×List Obj
 | []=>([],[])
 | x::r=>(x::(sp r).2,(sp r).1)
noncomputable def bt:Nat->List Obj->BT
 | 0,_=>.nil
 | _+1,[]=>.nil
 | n+1,x::r=>.node x (bt n (sp r).1) (bt n (sp r).2)
noncomputable def wv (i:Nat):List (Nat ×Nat)->List Obj->List Obj->List Obj
 | [],a,_=>a
 | (p,n)::r,a,b=>a.take (p - i)++(b.take n++wv (p+n) r (a.drop (p - i)) (b.drop n))
noncomputable def rgs:List (Nat ×Nat)->List Nat
 | []=>[]
 | (a,n)::r=>List.range' a n++rgs r
noncomputable def kz:List Addr->List Obj->Frag
 | a::r,o::s=>(a,o)::kz r s
 | _,_=>[]
noncomputable section
noncomputable abbrev _root_.QP:=List Str
noncomputable def dl (a t:Nat)(l p:Int)(n q:Str)(st:Stmt)(ns:QP)(m:Value):List Obj ×List Obj:=([tO #[],tO (nm (t+3) ns).toArray,tO #[],cO n t q (t+1) (t+2) l p 0 0 3 a true (a+1) .none (.ref (a+2)) (.ref (a+3)) (.ref (a+4)) (t+3+ns.length:Nat) l (t+4+ns.length),fO (.type "function") n q st 3 [] .none .none .none m none (.ref (a+5)) .none 0],[fi #[],f0 n q st])
noncomputable def dt (a t:Nat)(l p:Int)(n:Str)(i:Nat)(ns:QP)(m:Value):List Obj ×List Obj:=dl a t l p n n (Pv.top i) ns m
noncomputable def ds (a t:Nat)(l p:Int)(n q:Str)(st:Stmt)(m:Value):List Obj ×List Obj:=([tO #[],cO n t q (t+1) (t+2) l p 0 0 3 a true (a+1) .none .none .none (.ref (a+2)) (t+3:Nat) l (t+4),fO (.type "function") n q st 3 [] .none .none .none m none (.ref (a+3)) .none 0],[fi #[],f0 n q st])
noncomputable def mE (P:Params):List (Str ×Nat ×Int ×Nat)->List DictEntry
 | []=>[]
 | (x,t,l,a)::r=>dE P x t (.ref (a+1))::mE P r
noncomputable def mC:List (Str ×Nat ×Int ×Nat)->List (Int ×Nat)
 | []=>[]
 | (_,_,l,a)::r=>(l,a)::mC r
variable (P:Params)
noncomputable abbrev _root_.QN:=List Value
noncomputable def cl (m:Value)(a t:Nat)(n:Str)(l:Int)(ms:List (Str ×Nat ×Int ×Nat))(p s:Nat)(at':QN)(body:HBT)(K0 O0:List Obj)(b mr sb:QN)(z:Option Value)(nw:String)(ge:List DictEntry)(gs:List Obj)(dn:Nat)(d:Nat):HBT:=
 (K0,O0++ [fy "builtin_function_or_method" #[.builtin "type.__prepare__",.type "type"],dO (dE P "__module__" (t+7) m::dE P "__qualname__" (t+9) (.str n (t+8))::dE P "__firstlineno__" (t+11) (.int l (t+10))::(mE P ms++ [dE P "__static_attributes__" s (.ref p)])).toArray (ms.length+4),tO #[],fi (cs 4 (mC ms)).toArray,cO n (t+2) n (t+3) (t+4) l 0 0 0 0 (a+3) false (a+4) .none .none .none .none (t+5:Nat) l (t+6),fr (a+5) (a+2) m])::(body++ [([tO at'.toArray,dO (dE P "__module__" (t+7) m::dE P "__firstlineno__" (t+11) (.int l (t+10))::(mE P ms++(dE P "__static_attributes__" s (.ref p)::(ge++ [dE P "__doc__" d .none])))).toArray dn,.mk (.type "type") none (.cls (ClassData.mk n b (.ref (p+2)::mr) (p+1) n true [] sb false none false)) #[z,none,some (.str n t),some (.str n (t+8)),some (.builtin nw),some (.bool true)]]++gs,[fy "super" #[.ref (p+2),.ref (p+2),.ref (p+2)],fy "builtin_function_or_method" #[.builtin "object.__init_subclass__",.ref (p+2)]])])
noncomputable def gD (p c t:Nat):Obj:=fy "getset_descriptor" #[.str "__dict__" t,.ref c,.builtin "function.__dict__",.builtin "function.__dict__#set"]
noncomputable def gW (c t:Nat):Obj:=fy "getset_descriptor" #[.str "__weakref__" t,.ref c,.builtin "ExceptionGroup.__weakref__",.none]
noncomputable def c0 (m:Value)(a t:Nat)(n:Str)(l:Int)(ms:List (Str ×Nat ×Int ×Nat))(p s:Nat)(at':QN)(sb:QN)(body:HBT):HBT:=cl P m a t n l ms p s at' body [] [tO #[]] [.type "object"] [.type "object"] sb none "object.__new__" [dE P "__dict__" (s+2) (.ref (p+3)),dE P "__weakref__" (s+4) (.ref (p+4))] [gD p (p+2) (s+1),gW (p+2) (s+3)] 4 (s+5)
noncomputable def c1 (m:Value)(a t:Nat)(n:Str)(l:Int)(ms:List (Str ×Nat ×Int ×Nat))(p s:Nat)(at':QN)(b:Nat)(body:HBT):HBT:=cl P m a t n l ms p s at' body [tO #[.ref b]] [] [.ref b] [.ref b,.type "object"] [] (some (.ref a)) "object.__new__" [] [] 2 (s+1)
noncomputable def c2 (m:Value)(a t:Nat)(n:Str)(l:Int)(ms:List (Str ×Nat ×Int ×Nat))(p s:Nat)(at':QN)(body:HBT):HBT:=cl P m a t n l ms p s at' body [tO #[.ref 24]] [] [.ref 24] [.ref 24,.type "ValueError",.type "Exception",.type "BaseException",.type "object"] [] (some (.ref a)) "ValueError.__new__" [] [] 2 (s+1)
noncomputable def c3 (m:Value)(a t:Nat)(n:Str)(l:Int)(p s:Nat):HBT:=c2 P m a t n l [] p s [] []
noncomputable def mm0:Value:=.str "papervault.errors" 187
noncomputable def mm1:Value:=.str "papervault.things" 410
noncomputable def mm2:Value:=.str "papervault.names" 455
noncomputable def mm3:Value:=.str "papervault.seals" 483
noncomputable def mm4:Value:=.str "papervault.nodes" 509
noncomputable def mm5:Value:=.str "papervault.trees" 575
noncomputable def mm6:Value:=.str "papervault.tables" 756
noncomputable def mm7:Value:=.str "papervault.vaults" 895
noncomputable def mm8:Value:=.str "law_papervault_k61_names_and_tables" 980
noncomputable def GE:List DictEntry:=[dE P "__doc__" 166 .none,dE P "__package__" 167 .none,dE P "__loader__" 168 (.builtin "__main__.__loader__#opaque"),dE P "__spec__" 169 .none,dE P "__annotations__" 170 (.ref 6),dE P "__builtins__" 171 (.ref 4),dE P "__file__" 173 (.str "/claim/cut.py" 172),dE P "__cached__" 174 .none,dE P "VaultError" 206 (.ref 24),dE P "NoPaper" 222 (.ref 37),dE P "BadThing" 238 (.ref 49),dE P "Clash" 265 (.ref 68),dE P "NoState" 281 (.ref 80),dE P "NoName" 297 (.ref 92),dE P "NoTable" 313 (.ref 104),dE P "NoColumn" 329 (.ref 116),dE P "NoRow" 345 (.ref 128),dE P "NoQuestion" 361 (.ref 140),dE P "NoPlan" 377 (.ref 152),dE P "NoStep" 393 (.ref 164),dE P "NotSo" 409 (.ref 176),dE P "PERCENT" 413 (.int 37 412),dE P "is_whole" 420 (.ref 185),dE P "has_signs_of_things" 428 (.ref 192),dE P "kind_of" 435 (.ref 199),dE P "ahead" 444 (.ref 206),dE P "is_tuple_ahead" 454 (.ref 213),dE P "MOST_LETTERS" 458 (.int 8 457),dE P "MOST_SIGNS" 460 (.int 20 459),dE P "is_name" 468 (.ref 220),dE P "is_value" 475 (.ref 227),dE P "has_signs_of_values" 482 (.ref 234),dE P "seal" 493 (.ref 241),dE P "codes" 499 (.ref 246),dE P "number_of" 508 (.ref 253),dE P "KEY" 512 (.int 0 511),dE P "WORTH" 514 (.int 1 513),dE P "LEFT" 516 (.int 2 515),dE P "RIGHT" 518 (.int 3 517),dE P "COUNT" 520 (.int 4 519),dE P "MOST_NODES" 522 (.int 300 521),dE P "BENEATH_NONE" 524 (.int 301 523),dE P "node_beneath" 534 (.ref 260),dE P "is_node" 541 (.ref 267),dE P "is_root" 548 (.ref 274),dE P "size_beneath" 557 (.ref 281),dE P "rank" 564 (.ref 288),dE P "above" 574 (.ref 295),dE P "side_of" 584 (.ref 302),dE P "way_to" 596 (.ref 309),dE P "ends_at" 604 (.ref 316),dE P "found" 614 (.ref 323),dE P "is_empty" 622 (.ref 330),dE P "goes_left" 630 (.ref 337),dE P "goes_right" 638 (.ref 344),dE P "refuse_sum" 648 (.ref 351),dE P "stretch" 662 (.ref 358),dE P "with_tree" 672 (.ref 365),dE P "hung" 684 (.ref 372),dE P "parted" 700 (.ref 379),dE P "place_in" 710 (.ref 386),dE P "put" 726 (.ref 393),dE P "cut" 737 (.ref 400),dE P "joined" 755 (.ref 407),dE P "COLUMNS" 759 (.int 0 758),dE P "ROWS" 761 (.int 1 760),dE P "ORDERS" 763 (.int 2 762),dE P "NUMBER" 765 (.int 0 764),dE P "TREE" 767 (.int 1 766),dE P "MOST_COLUMNS" 769 (.int 6 768),dE P "are_columns" 777 (.ref 414),dE P "are_orders" 787 (.ref 421),dE P "is_order" 794 (.ref 428),dE P "is_table" 802 (.ref 435),dE P "are_values" 811 (.ref 442),dE P "row_of" 820 (.ref 449),dE P "names" 826 (.ref 454),dE P "table_at" 836 (.ref 461),dE P "columns_of" 845 (.ref 468),dE P "ordered" 851 (.ref 473),dE P "rows_in" 857 (.ref 478),dE P "rows_of" 866 (.ref 485),dE P "make_table" 876 (.ref 492),dE P "stands" 885 (.ref 499),dE P "drop_table" 894 (.ref 506),dE P "rising" 902 (.ref 511),dE P "Vault" 956 (.ref 549),dE P "Keeper" 979 (.ref 570),dE P "_law_hand" 991 (.ref 579),dE P "_law_draw" 1000 (.ref 586),dE P "_law_text" 1011 (.ref 593),dE P "_law_value" 1019 (.ref 600),dE P "_law_name" 1028 (.ref 607),dE P "_law_columns" 1038 (.ref 614),dE P "_law_is_name" 1044 (.ref 619),dE P "_law_is_value" 1050 (.ref 624),dE P "_law_things" 1062 (.ref 631),dE P "_law_bad_columns" 1072 (.ref 638),dE P "_law_due" 1082 (.ref 645),dE P "_law_kind" 1091 (.ref 652),dE P "_law_asked" 1105 (.ref 659),dE P "_law_told" 1116 (.ref 666),dE P "_law_holds" 1122 (.ref 671),dE P "law" 1132 (.ref 678)]
noncomputable def CT:List (Int ×Nat):=[(2,20),(4,33),(6,45),(8,57),(13,76),(15,88),(17,100),(19,112),(21,124),(23,136),(25,148),(27,160),(29,172),(33,184),(35,191),(40,198),(48,205),(57,212),(65,219),(72,226),(76,233),(79,240),(84,245),(97,252),(110,259),(115,266),(123,273),(125,280),(129,287),(131,294),(138,301),(140,308),(151,315),(153,322),(156,329),(158,336),(160,343),(162,350),(167,357),(188,364),(192,371),(196,378),(209,385),(214,392),(225,399),(231,406),(258,413),(265,420),(274,427),(276,434),(283,441),(290,448),(294,453),(300,460),(307,467),(309,472),(311,477),(313,484),(315,491),(321,498),(327,505),(331,510),(333,517),(352,559),(357,578),(362,585),(369,592),(375,599),(384,606),(391,613),(398,618),(402,623),(408,630),(420,637),(433,644),(442,651),(451,658),(462,665),(473,670),(505,677)]
noncomputable def HB:HBT:=[([.mk .none none (.dict #[]) #[],dO (dE P "__name__" 165 (.str "law_papervault_k61_names_and_tables" 980)::GE P).toArray 105],[boot_o_0 P,boot_o_1 P,boot_o_4 P,boot_o_5 P,boot_o_6 P,boot_o_7 P,boot_o_8 P,boot_o_9 P,boot_o_10 P,boot_o_7 P,fi (cs 0 CT).toArray,cO "<module>" 182 "<module>" 183 184 1 0 0 0 0 11 false 12 .none .none .none .none 185 1 186,.mk (.type "frame") none .plain #[some (.ref 13),some (.ref 3),some (.ref 3),none,some (.str "__main__" 164),none,some (.ref 0)]])]
++cl P mm0 15 189 "VaultError" 2 [] 22 201 [] [] [tO #[.type "ValueError"]] [] [.type "ValueError"] [.type "ValueError",.type "Exception",.type "BaseException",.type "object"] [.ref 37,.ref 49,.ref 68,.ref 80,.ref 92,.ref 104,.ref 116,.ref 128,.ref 140,.ref 152,.ref 164,.ref 176] (some (.ref 15)) "ValueError.__new__" [dE P "__weakref__" 203 (.ref 25)] [gW 24 202] 3 204
++c3 P mm0 28 207 "NoPaper" 4 35 219
++c3 P mm0 40 223 "BadThing" 6 47 235
++c2 P mm0 52 239 "Clash" 8 [("__init__",259,10,64)] 66 262 [.str "one" 260,.str "other" 261] [dl 59 251 10 3 "__init__" "Clash.__init__" (L2.inClass (Pv.top 4) 0) ["self","one","other"] mm0]
++c3 P mm0 71 266 "NoState" 13 78 278
++c3 P mm0 83 282 "NoName" 15 90 294
++c3 P mm0 95 298 "NoTable" 17 102 310
++c3 P mm0 107 314 "NoColumn" 19 114 326
++c3 P mm0 119 330 "NoRow" 21 126 342
++c3 P mm0 131 346 "NoQuestion" 23 138 358
++c3 P mm0 143 362 "NoPlan" 25 150 374
++c3 P mm0 155 378 "NoStep" 27 162 390
++c3 P mm0 167 394 "NotSo" 29 174 406
++ [dt 179 414 33 1 "is_whole" 16 ["value"] mm1,
dt 186 421 35 1 "has_signs_of_things" 17 ["text","sign"] mm1,
dt 193 429 40 1 "kind_of" 18 ["thing"] mm1,
dt 200 436 48 2 "ahead" 19 ["one","other","kind"] mm1,
dt 207 445 57 2 "is_tuple_ahead" 20 ["one","other","mine","its"] mm1,
dt 214 461 65 1 "is_name" 24 ["thing","sign"] mm2,
dt 221 469 72 1 "is_value" 25 ["thing"] mm2,
dt 228 476 76 1 "has_signs_of_values" 26 ["text"] mm2,
dt 235 485 79 1 "seal" 28 ["thing","folded","code"] mm3,
ds 242 494 84 1 "codes" "codes" (Pv.top 29) mm3,
dt 247 500 97 1 "number_of" 30 ["signs","number","sign"] mm3,
dt 254 525 110 3 "node_beneath" 39 ["vault","root","count","node"] mm4,
dt 261 535 115 1 "is_node" 40 ["thing"] mm4,
dt 268 542 123 1 "is_root" 41 ["thing"] mm4,
dt 275 549 125 3 "size_beneath" 42 ["vault","root","count"] mm4,
dt 282 558 129 1 "rank" 43 ["key"] mm4,
dt 289 565 131 2 "above" 44 ["key","other","mine","its"] mm4,
dt 296 577 138 2 "side_of" 46 ["node","key"] mm5,
dt 303 585 140 3 "way_to" 47 ["vault","root","key","way","count","node"] mm5,
dt 310 597 151 2 "ends_at" 48 ["way","key"] mm5,
dt 317 605 153 3 "found" 49 ["vault","root","key","way"] mm5,
dt 324 615 156 2 "is_empty" 50 ["low","high"] mm5,
dt 331 623 158 2 "goes_left" 51 ["node","low"] mm5,
dt 338 631 160 2 "goes_right" 52 ["node","high"] mm5,
dt 345 639 162 2 "refuse_sum" 53 ["vault","node","left","right"] mm5,
dt 352 649 167 4 "stretch" 54 ["vault","root","low","high","pairs","begun","count","node"] mm5,
dt 359 663 188 4 "with_tree" 55 ["node","side","root","count"] mm5,
dt 366 673 192 5 "hung" 56 ["vault","way","key","root","more","node"] mm5,
dt 373 685 196 5 "parted" 57 ["vault","way","key","root","count","left","left_count","right","right_count","node"] mm5,
dt 380 701 209 2 "place_in" 58 ["way","key","number","node"] mm5,
dt 387 711 214 4 "put" 59 ["vault","root","key","worth","way","own","new","place","trees","count"] mm5,
dt 394 727 225 3 "cut" 60 ["vault","root","key","way","own"] mm5,
dt 401 738 231 4 "joined" 61 ["vault","left","right","count","left_count","right_count","down","one","other","both","root","step"] mm5,
dt 408 770 258 1 "are_columns" 69 ["given","column"] mm6,
dt 415 778 265 2 "are_orders" 70 ["thing","many","last","order"] mm6,
dt 422 788 274 1 "is_order" 71 ["thing"] mm6,
dt 429 795 276 1 "is_table" 72 ["thing","columns"] mm6,
dt 436 803 283 2 "are_values" 73 ["given","many","value"] mm6,
dt 443 812 290 3 "row_of" 74 ["table","key","worth"] mm6,
ds 450 821 294 2 "names" "names" (Pv.top 75) mm6,
dt 455 827 300 3 "table_at" 76 ["vault","root","name","worth"] mm6,
dt 462 837 307 3 "columns_of" 77 ["vault","root","name"] mm6,
ds 469 846 309 3 "ordered" "ordered" (Pv.top 78) mm6,
ds 474 852 311 2 "rows_in" "rows_in" (Pv.top 79) mm6,
dt 479 858 313 3 "rows_of" 80 ["vault","root","name"] mm6,
dt 486 867 315 4 "make_table" 81 ["vault","root","name","columns"] mm6,
dt 493 877 321 3 "stands" 82 ["vault","root","name"] mm6,
dt 500 886 327 3 "drop_table" 83 ["vault","root","name"] mm6,
ds 507 897 331 1 "rising" "rising" (Pv.top 85) mm7]
++c0 P mm7 512 903 "Vault" 333 [("__init__",921,335,524),("refuse_clash",930,338,531),("lay",939,342,538),("thing",947,348,545)] 547 949 [.str "laid" 948] [.ref 570] [dl 519 915 335 1 "__init__" "Vault.__init__" (L2.inClass (Pv.top 86) 0) ["self"] mm7,dl 526 922 338 3 "refuse_clash" "Vault.refuse_clash" (L2.inClass (Pv.top 86) 1) ["self","number","thing"] mm7,dl 533 931 342 2 "lay" "Vault.lay" (L2.inClass (Pv.top 86) 2) ["self","thing","number"] mm7,dl 540 940 348 2 "thing" "Vault.thing" (L2.inClass (Pv.top 86) 3) ["self","number"] mm7]
++c1 P mm7 554 957 "Keeper" 352 [("things",975,354,566)] 568 976 [] 549 [dl 561 969 354 1 "things" "Keeper.things" (L2.inClass (Pv.top 87) 0) ["self"] mm7]
++ [dt 573 982 357 3 "_law_hand" 89 ["script","cell","k","way"] mm8,
dt 580 992 362 2 "_law_draw" 90 ["hand","limit","got"] mm8,
dt 587 1001 369 2 "_law_text" 91 ["hand","most","some","text","k"] mm8,
dt 594 1012 375 1 "_law_value" 92 ["hand","kind"] mm8,
dt 601 1020 384 1 "_law_name" 93 ["hand","name","k"] mm8,
dt 608 1029 391 1 "_law_columns" 94 ["hand","got","k","one"] mm8,
ds 615 1039 398 1 "_law_is_name" "_law_is_name" (Pv.top 95) mm8,
ds 620 1045 402 1 "_law_is_value" "_law_is_value" (Pv.top 96) mm8,
dt 625 1051 408 1 "_law_things" 97 ["hand","some","letters","k","text","number"] mm8,
dt 632 1063 420 1 "_law_bad_columns" 98 ["hand","fields","kind","bad"] mm8,
dt 639 1073 433 3 "_law_due" 99 ["model","name","fields","k"] mm8,
dt 646 1083 442 1 "_law_kind" 100 ["caught","kinds","other"] mm8,
dt 653 1092 451 5 "_law_asked" 101 ["vault","root","name","fields","way","caught","got","e"] mm8,
dt 660 1106 462 3 "_law_told" 102 ["vault","root","model","here","name"] mm8,
ds 667 1117 473 1 "_law_holds" "_law_holds" (Pv.top 103) mm8,
dt 672 1123 505 1 "law" 104 ["script","clash","got","e"] mm8]
noncomputable def RL:List (Nat ×Nat):=[(2,2),(15,1),(22,4),(28,1),(35,3),(40,1),(47,3),(52,1),(59,1),(61,2),(64,5),(71,1),(78,3),(83,1),(90,3),(95,1),(102,3),(107,1),(114,3),(119,1),(126,3),(131,1),(138,3),(143,1),(150,3),(155,1),(162,3),(167,1),(174,3),(179,1),(181,2),(184,3),(188,2),(191,3),(195,2),(198,3),(202,2),(205,3),(209,2),(212,3),(216,2),(219,3),(223,2),(226,3),(230,2),(233,3),(237,2),(240,3),(245,3),(249,2),(252,3),(256,2),(259,3),(263,2),(266,3),(270,2),(273,3),(277,2),(280,3),(284,2),(287,3),(291,2),(294,3),(298,2),(301,3),(305,2),(308,3),(312,2),(315,3),(319,2),(322,3),(326,2),(329,3),(333,2),(336,3),(340,2),(343,3),(347,2),(350,3),(354,2),(357,3),(361,2),(364,3),(368,2),(371,3),(375,2),(378,3),(382,2),(385,3),(389,2),(392,3),(396,2),(399,3),(403,2),(406,3),(410,2),(413,3),(417,2),(420,3),(424,2),(427,3),(431,2),(434,3),(438,2),(441,3),(445,2),(448,3),(453,3),(457,2),(460,3),(464,2),(467,3),(472,3),(477,3),(481,2),(484,3),(488,2),(491,3),(495,2),(498,3),(502,2),(505,3),(510,2),(519,1),(521,2),(524,3),(528,2),(531,3),(535,2),(538,3),(542,2),(545,7),(554,1),(561,1),(563,2),(566,5),(573,1),(575,2),(578,3),(582,2),(585,3),(589,2),(592,3),(596,2),(599,3),(603,2),(606,3),(610,2),(613,3),(618,3),(623,3),(627,2),(630,3),(634,2),(637,3),(641,2),(644,3),(648,2),(651,3),(655,2),(658,3),(662,2),(665,3),(670,3),(674,2),(677,2)]
noncomputable abbrev _root_.QO:=List Addr
noncomputable def KA:List Addr:=by
 refine(?g:(f:QO)->f=rgs RL->List Addr) ?f ?pf
 case g=>exact λf _=>f
 case pf=>
  conv=>rhs;reduce
noncomputable def KO:List Obj:=by
 refine(?g:(f:List Obj)->f=ka (HB P)->List Obj) ?f ?pf
 case g=>exact λf _=>f
 case pf=>
  dsimp only[HB,GE,CT,dt,dl,ds,mE,mC,cl,gD,gW,c0,c1,c2,c3,nm,cs,mm0,mm1,mm2,mm3,mm4,mm5,mm6,mm7,mm8,ka,List.cons_append,List.nil_append,List.append_nil,List.length_cons,List.length_nil,Nat.reduceAdd,Int.cast_ofNat_Int]
  rfl
noncomputable def KK:Params->Frag:=λP=>by
 refine(?g:(f:Frag)->f=kz KA (KO P)->Frag) ?f ?pf
 case g=>exact λf _=>f
 case pf=>
  conv=>rhs;delta KA KO;(repeat (whnf;arg 2));whnf
noncomputable def FL:List Obj:=wv 0 RL (kb (HB P)) ((KK P).map (·.2))
noncomputable def T0:BT:=bt 12 ((((FL P).take 15).set 3 (dO (dE P "__name__" 165 (.str "__main__" 164)::(GE P).take 8).toArray 9)).set 12 (boot_o_8 P))
noncomputable def T1:BT:=bt 12 (((((FL P).take 119).set 3 (dO (dE P "__name__" 165 (.str "papervault.errors" 187)::(GE P).take 16).toArray 17)).set 12 (fi (cs 0 (CT.take 8)).toArray)).set 24 (.mk (.type "type") none (.cls (ClassData.mk "VaultError" [.type "ValueError"] [.ref 24,.type "ValueError",.type "Exception",.type "BaseException",.type "object"] 23 "VaultError" true [] [.ref 37,.ref 49,.ref 68,.ref 80,.ref 92,.ref 104,.ref 116] false none false)) #[some (.ref 15),none,some (.str "VaultError" 189),some (.str "VaultError" 197),some (.builtin "ValueError.__new__"),some (.bool true)]))
noncomputable def T2:BT:=bt 12 ((((FL P).take 310).set 3 (dO (dE P "__name__" 165 (.str "papervault.trees" 575)::(GE P).take 50).toArray 51)).set 12 (fi (cs 0 (CT.take 32)).toArray))
noncomputable def T3:BT:=bt 12 ((((FL P).take 620).set 3 (dO (dE P "__name__" 165 (.str "law_papervault_k61_names_and_tables" 980)::(GE P).take 95).toArray 96)).set 12 (fi (cs 0 (CT.take 71)).toArray))
noncomputable def T4:BT:=bt 12 (FL P)
noncomputable def HF:Heap:={objs:=⟨FL P⟩}
end
noncomputable abbrev PQ:Program:=PySem.Challenge.rw_papervault_k61_names_and_tables.prog
noncomputable def VQ:Program:={PySem.Challenge.pw_papervault_k61_names_and_tables with main:={PySem.Challenge.pw_papervault_k61_names_and_tables.main with body:=[top 1,top 2,top 3,top 4,top 5,top 6,top 7,top 8,top 9,top 10,top 11,top 12,top 13,top 15,top 16,top 17,top 18,top 19,top 20,top 22,top 23,top 24,top 25,top 26,top 28,top 29,top 30,top 32,top 33,top 34,top 35,top 36,top 37,top 38,top 39,top 40,top 41,top 42,top 43,top 44,top 46,top 47,top 48,top 49,top 50,top 51,top 52,top 53,top 54,top 55,top 56,top 57,top 58,top 59,top 60,top 61,top 63,top 64,top 65,top 66,top 67,top 68,top 69,top 70,top 71,top 72,top 73,top 74,top 75,top 76,top 77,top 78,top 79,top 80,top 81,top 82,top 83,top 85,top 86,top 87,top 89,top 90,top 91,top 92,top 93,top 94,top 95,top 96,top 97,top 98,top 99,top 100,top 101,top 102,top 103,top 104]}}
noncomputable abbrev RQ:OpenRow:=OpenLaw.row PySem.Challenge.rw_papervault_k61_names_and_tables
noncomputable def EV:Env:={scope:=RQ.prog.main.scope,locals:=mainNs,globals:=mainNs,cells:=[],code:=.ref 13,frame:=some 14}
noncomputable abbrev BQ:List Stmt:=behindTheImports RQ.prog
noncomputable abbrev CQ:Code:=.body BQ EV
noncomputable abbrev TQ:List Frame:=[topFrame ⟨0,0,0,0⟩]
noncomputable abbrev ST (t:BT)(n k:Nat)(os:OsState):SharedT:=⟨t,n,{}, #[],{},k,os⟩
theorem go0 (w:World):(λos=>topGo treeTable RQ.prog w 11 (some (.ref 6)) 12 {heap:=boot_heap w.params,drawn:=boot_drawn,toks:=boot_toks,os:=os} (topStub RQ.prog))=λos=>some ((ST (T0 w.params) 15 187 os).abs,⟨denote treeTable CQ,CQ,⟨0,0,0,0⟩,TQ⟩):=by kernel_rfl
theorem go1 (w:World):(λos=>segRun treeTable RQ.prog w 11 (some (.ref 6)) 1 1 (ST (T0 w.params) 15 187 os).abs (blockOf BQ EV CQ ⟨0,0,0,0⟩ TQ))=λos=>some (Flow.next,(ST (T0 w.params) 15 187 os).abs,CQ,⟨0,0,0,0⟩):=by kernel_rfl
theorem pc1 (w:World):(λos=>PySem.W.Fast.tw10110043849684766642 PySem.W.Fast.tw14364793385576792824 RQ.prog w 11 (some (.ref 6)) 1 1737 (ST (T0 w.params) 15 187 os) (piecesOf (BQ.take 9) EV CQ ⟨0,0,0,0⟩ TQ))=λos=>some (Flow.next,ST (T1 w.params) 119 330 os,CQ,⟨19,0,20,8⟩):=by kernel_rfl
theorem sg1 (w:World)(os:OsState):segRunT treeTable RQ.prog w 11 (some (.ref 6)) 1 1737 (ST (T0 w.params) 15 187 os) (piecesOf (BQ.take 9) EV CQ ⟨0,0,0,0⟩ TQ)=some (Flow.next,ST (T1 w.params) 119 330 os,CQ,⟨19,0,20,8⟩):=by rw[PySem.W.Fast.te10110043849684766642,PySem.W.Fast.te14364793385576792824];exact congrFun (pc1 w) os
theorem pc2 (w:World):(λos=>PySem.W.Fast.tw10110043849684766642 PySem.W.Fast.tw14364793385576792824 RQ.prog w 11 (some (.ref 6)) 1 1820 (ST (T1 w.params) 119 330 os) (piecesOf ((BQ.drop 9).take 39) EV CQ ⟨19,0,20,8⟩ TQ))=λos=>some (Flow.next,ST (T2 w.params) 310 597 os,CQ,⟨140,0,150,14⟩):=by kernel_rfl
theorem sg2 (w:World)(os:OsState):segRunT treeTable RQ.prog w 11 (some (.ref 6)) 1 1820 (ST (T1 w.params) 119 330 os) (piecesOf ((BQ.drop 9).take 39) EV CQ ⟨19,0,20,8⟩ TQ)=some (Flow.next,ST (T2 w.params) 310 597 os,CQ,⟨140,0,150,14⟩):=by rw[PySem.W.Fast.te10110043849684766642,PySem.W.Fast.te14364793385576792824];exact congrFun (pc2 w) os
theorem pc3 (w:World):(λos=>PySem.W.Fast.tw10110043849684766642 PySem.W.Fast.tw14364793385576792824 RQ.prog w 11 (some (.ref 6)) 1 1856 (ST (T2 w.params) 310 597 os) (piecesOf (((BQ.drop 9).drop 39).take 48) EV CQ ⟨140,0,150,14⟩ TQ))=λos=>some (Flow.next,ST (T3 w.params) 620 1045 os,CQ,⟨398,0,401,85⟩):=by kernel_rfl
theorem sg3 (w:World)(os:OsState):segRunT treeTable RQ.prog w 11 (some (.ref 6)) 1 1856 (ST (T2 w.params) 310 597 os) (piecesOf (((BQ.drop 9).drop 39).take 48) EV CQ ⟨140,0,150,14⟩ TQ)=some (Flow.next,ST (T3 w.params) 620 1045 os,CQ,⟨398,0,401,85⟩):=by rw[PySem.W.Fast.te10110043849684766642,PySem.W.Fast.te14364793385576792824];exact congrFun (pc3 w) os
theorem pc4 (w:World):(λos=>PySem.W.Fast.tw10110043849684766642 PySem.W.Fast.tw14364793385576792824 RQ.prog w 11 (some (.ref 6)) 1 299 (ST (T3 w.params) 620 1045 os) (piecesOf ((((BQ.drop 9).drop 39).drop 48).take 9) EV CQ ⟨398,0,401,85⟩ TQ))=λos=>some (Flow.next,ST (T4 w.params) 679 1133 os,CQ,⟨505,0,514,14⟩):=by kernel_rfl
theorem sg4 (w:World)(os:OsState):segRunT treeTable RQ.prog w 11 (some (.ref 6)) 1 299 (ST (T3 w.params) 620 1045 os) (piecesOf ((((BQ.drop 9).drop 39).drop 48).take 9) EV CQ ⟨398,0,401,85⟩ TQ)=some (Flow.next,ST (T4 w.params) 679 1133 os,CQ,⟨505,0,514,14⟩):=by rw[PySem.W.Fast.te10110043849684766642,PySem.W.Fast.te14364793385576792824];exact congrFun (pc4 w) os
noncomputable abbrev SF (w:World)(os:OsState):Shared:={heap:=HF w.params,toks:=1133,os:=os}
theorem goN (w:World):(λos=>topRun treeTable RQ.prog w 11 (some (.ref 6)) 3 (ST (T4 w.params) 679 1133 os).abs ⟨doneF Flow.next,CQ,⟨505,0,514,14⟩,TQ⟩)=λos=>some (SF w os):=by kernel_rfl
theorem goE:((((BQ.drop 9).drop 39).drop 48).drop 9)=[]:=by kernel_rfl
theorem goA {w:World}{N:Nat}{s r:Shared}{b:List Stmt}{q:Pos}(k:Nat)(h:topRun treeTable RQ.prog w 11 (some (.ref 6)) N s (restOf (b.take k++b.drop k) EV CQ q TQ)=some r):topRun treeTable RQ.prog w 11 (some (.ref 6)) N s (restOf b EV CQ q TQ)=some r:=by rwa[List.take_append_drop] at h
theorem runs (w:World)(os:OsState):topRun treeTable RQ.prog w 11 (some (.ref 6)) (12+(1+(1737+(1820+(1856+(299+(3))))))) {heap:=boot_heap w.params,drawn:=boot_drawn,toks:=boot_toks,os:=os} (topStub RQ.prog)=some (SF w os):=by refine go_top (congrFun (go0 w) os) ?_;refine piece_block (congrFun (go1 w) os) ?_;refine goA 9 ?_;refine piece_app (segRun_of (sg1 w os)) ?_;refine goA 39 ?_;refine piece_app (segRun_of (sg2 w os)) ?_;refine goA 48 ?_;refine piece_app (segRun_of (sg3 w os)) ?_;refine goA 9 ?_;refine piece_app (segRun_of (sg4 w os)) ?_;rw[goE];exact piece_nil (congrFun (goN w) os)
noncomputable abbrev SQ (s:Shared):=PySem.W.Fast.tw4187177175401517315 VQ [] [] (λs=>xlAt VQ [] s && recOk (RowW.records (OpenRow.toRowW RQ)) s) true s
theorem zrG:[]=importedModules RQ.prog.main.body:=by kernel_rfl
theorem opn (w:World):(fencedOpening treeTable RQ.prog w 5728).map (λs=>(s.heap,s.gens,s.drawn,s.toks))=some (boot_heap w.params, #[],boot_drawn,boot_toks):=by kernel_rfl
theorem obs0 (w:World)(os:OsState):(staticsOk [] (boot_heap w.params) (HF w.params) && namesBound RQ.prog (HF w.params) && gensDone (SF w os) && laidKept (boot_heap w.params) (HF w.params))=true:=by kernel_rfl
theorem obs1 (w:World)(os:OsState):(SQ (SF w os)).1=(openGood VQ []).1:=by kernel_rfl
theorem obs2 (w:World)(os:OsState):(SQ (SF w os)).2.1=(openGood VQ []).2.1:=by kernel_rfl
theorem obs3 (w:World)(os:OsState):(SQ (SF w os)).2.2.1=(openGood VQ []).2.2.1:=by kernel_rfl
theorem obs4 (w:World)(os:OsState):(SQ (SF w os)).2.2.2.1=(openGood VQ []).2.2.2.1:=by kernel_rfl
theorem obs5 (w:World)(os:OsState):(SQ (SF w os)).2.2.2.2.1=(openGood VQ []).2.2.2.2.1:=by kernel_rfl
theorem obs6 (w:World)(os:OsState):(SQ (SF w os)).2.2.2.2.2=(openGood VQ []).2.2.2.2.2:=by kernel_rfl
theorem obs7 (w:World):KA.map (HF w.params).get? =(KK w.params).map λp=>some p.2:=by kernel_rfl
theorem left:LeftO RQ.prog VQ [] (λs=>xlAt VQ [] s && recOk (RowW.records (OpenRow.toRowW RQ)) s) (λs=>KA.map s.heap.get?) (λw=>(KK w.params).map λp=>some p.2) 5728:=by refine LeftO.of_pieces (H₀:=boot_heap) (H₁:=HF) (gs₀:= #[]) (gs₁:= #[]) (d₀:=boot_drawn) (d₁:={}) (k₀:=boot_toks) (k₁:=1133) (m₀:=11) (ann:=some (.ref 6)) (M:=12+(1+(1737+(1820+(1856+(299+(3))))))) opn (λw=>by kernel_rfl) runs (by kernel_rfl) λw=>funext λos=>?_;rw[<-zrG];refine Prod.ext (obs0 w os) (Prod.ext ?_ (obs7 w));rw[PySem.W.Fast.te4187177175401517315];exact Prod.ext (obs1 w os) (Prod.ext (obs2 w os) (Prod.ext (obs3 w os) (Prod.ext (obs4 w os) (Prod.ext (obs5 w os) (obs6 w os)))))
theorem addrs:∀P,KA=(KK P).map (·.1):=λP=>by kernel_rfl
theorem said:PySem.Challenge.rw_papervault_k61_names_and_tables.wellSaid=true:=by kernel_rfl
end Pv
namespace L2
open PySem PySem.Spec PyProof.Rows
noncomputable abbrev Key:=Sum Int Str
noncomputable def zfv:Key->Value->Bool
 | .inl k,v=>Value.isInt k v
 | .inr x,v=>Value.isStrOf x v
noncomputable def keyH (w:World):Key->Int
 | .inl k=>hashInt k
 | .inr x=>hashStr w x
theorem zU:∀{k:Key} {v:Value},zfv k v=true->(∃i t,k=Sum.inl i/\v=Value.int i t)\/(∃x t,k=Sum.inr x/\v=Value.str x t)
 | .inl i,v,h=>by obtain⟨t,e⟩:=Value.isInt_shape (k:=i) (v:=v) h;exact .inl ⟨i,t,rfl,e⟩
 | .inr x,v,h=>by obtain⟨t,e⟩:=Value.isStrOf_shape (x:=x) (v:=v) h;exact .inr ⟨x,t,rfl,e⟩
theorem zku (i:Int)(t:Tok):zfv (.inl i) (.int i t)=true:=by simp[zfv,Value.isInt]
theorem zkE (x:Str)(t:Tok):zfv (.inr x) (.str x t)=true:=by simp[zfv,Value.isStrOf]
theorem zqY (a b:Int):decide ((Sum.inl a:Key)=Sum.inl b)=(a==b):=by
 by_cases e:a=b
 ·subst e;simp
 ·have h:¬(Sum.inl a:Key)=Sum.inl b:=λq=>e (Sum.inl.inj q);rw[decide_eq_false h];exact(beq_eq_false_iff_ne.mpr e).symm
theorem zqB (a b:Str):decide ((Sum.inr a:Key)=Sum.inr b)=decide (a=b):=by
 by_cases e:a=b
 ·subst e;simp
 ·have h:¬(Sum.inr a:Key)=Sum.inr b:=λq=>e (Sum.inr.inj q);rw[decide_eq_false h,decide_eq_false e]
theorem zqG (a:Int)(b:Str):decide ((Sum.inl a:Key)=Sum.inr b)=false:=decide_eq_false (λq=>nomatch q)
theorem zqE (a:Str)(b:Int):decide ((Sum.inr a:Key)=Sum.inl b)=false:=decide_eq_false (λq=>nomatch q)
noncomputable def zX (prog:Program)(w:World):PySem.KeyKind prog w Key where
 is:=zfv
 hash:=keyH w
 inj:=λv a b ha hb=>by
  rcases zU ha with ⟨i,t,rfl,rfl⟩ | ⟨x,t,rfl,rfl⟩
  ·rcases zU hb with ⟨j,u,rfl,e⟩ | ⟨y,u,rfl,e⟩
   ·injection e with e1 _;rw[e1]
   ·exact nomatch e
  ·rcases zU hb with ⟨j,u,rfl,e⟩ | ⟨y,u,rfl,e⟩
   ·exact nomatch e
   ·injection e with e1 _;rw[e1]
 byValue:=λk v h=>by rcases zU h with ⟨i,t,rfl,rfl⟩ | ⟨x,t,rfl,rfl⟩ <;> rfl
 pyHash:=λhv h=>by
  rcases zU hv with ⟨i,t,rfl,rfl⟩ | ⟨x,t,rfl,rfl⟩
  ·exact wpAny_pyHash_int h
  ·exact wpAny_pyHash_str h
 eqBool:=λhu hv h=>by
  rcases zU hu with ⟨i,t,rfl,rfl⟩ | ⟨x,t,rfl,rfl⟩
  ·rcases zU hv with ⟨j,u,rfl,rfl⟩ | ⟨y,u,rfl,rfl⟩
   ·rw[zqY] at h;exact wpAny_eqBool_int h
   ·rw[zqG] at h;exact SeqAt.EqAt.int_str i t y u _ _ _ _ h
  ·rcases zU hv with ⟨j,u,rfl,rfl⟩ | ⟨y,u,rfl,rfl⟩
   ·rw[zqE] at h;exact SeqAt.EqAt.str_int x t j u _ _ _ _ h
   ·rw[zqB] at h;exact wpAny_eqBool_str h
 «strs»:=λk x t v h=>by
  rcases zU h with ⟨i,u,rfl,e⟩ | ⟨y,u,rfl,e⟩
  ·exact nomatch e
  ·injection e with e1 _
   subst e1;cases v <;> rfl
theorem zhz (prog:Program)(w:World)(i:Int)(t:Tok):(zX prog w).is (.inl i) (.int i t)=true:=zku i t
theorem zht (prog:Program)(w:World)(x:Str)(t:Tok):(zX prog w).is (.inr x) (.str x t)=true:=zkE x t
end L2
namespace L2
open PySem PySem.Spec PyProof.Rows
inductive V where
 | non | bl (b:Bool) | int (i:Int) | str (x:Str) | byt (b:Array UInt8) | flt (b:UInt64) | ref (a:Addr) | ty (n:String)
 deriving DecidableEq
noncomputable def RelV:V->Value->Prop
 | .non,u=>u=Value.none
 | .bl b,u=>u=Value.bool b
 | .int i,u=>∃t,u=Value.int i t
 | .str x,u=>∃t,u=Value.str x t
 | .byt b,u=>∃t,u=Value.bytes b t
 | .flt b,u=>∃t,u=Value.float b t
 | .ref a,u=>u=Value.ref a
 | .ty n,u=>u=Value.type n
noncomputable abbrev Vals:List V->List Value->Prop:=Paired RelV
noncomputable abbrev _root_.QQ:=List V
theorem Vals.length {xs:QQ}{us:QN}(r:Vals xs us):xs.length=us.length:=Paired.length r
theorem Vals.get:∀{xs:QQ} {us:QN} {i:Nat} {x:V},Vals xs us->xs[i]? =some x->∃u,us[i]? =some u/\RelV x u
 | _,_,_,_,.nil,e=>by simp at e
 | _,_,0,_,.cons r _,e=>by simp at e;subst e;exact⟨_,rfl,r⟩
 | _,_,i+1,x,.cons _ t,e=>by obtain⟨u,h1,h2⟩:=Vals.get (i:=i) (x:=x) t (by simpa using e);exact⟨u,by simpa using h1,h2⟩
theorem Vals.set {x:V}{u:Value}(r:RelV x u):∀{xs:QQ} {us:QN} (i:Nat),Vals xs us->Vals (xs.set i x) (us.set i u)
 | _,_,_,.nil=>.nil
 | _,_,0,.cons _ t=>.cons r t
 | _,_,i+1,.cons q t=>.cons q (Vals.set r i t)
theorem Vals.append:∀{xs ys:QQ} {us ws:QN},Vals xs us->Vals ys ws->Vals (xs++ys) (us++ws)
 | _,_,_,_,.nil,s=>s
 | _,_,_,_,.cons r t,s=>.cons r (Vals.append t s)
theorem Vals.take:∀{xs:QQ} {us:QN} (n:Nat),Vals xs us->Vals (xs.take n) (us.take n)
 | _,_,0,_=>.nil
 | _,_,_+1,.nil=>.nil
 | _,_,n+1,.cons r t=>.cons r (Vals.take n t)
theorem Vals.drop:∀{xs:QQ} {us:QN} (n:Nat),Vals xs us->Vals (xs.drop n) (us.drop n)
 | _,_,0,r=>r
 | _,_,_+1,.nil=>.nil
 | _,_,n+1,.cons _ t=>Vals.drop n t
noncomputable def RelO:Option V->Option Value->Prop
 | some v,some u=>RelV v u
 | none,none=>True
 | _,_=>False
noncomputable def KV {κ:Type}:List (κ ×V)->List (κ ×Value)->Prop:=Paired λ(p:κ ×V) (q:κ ×Value)=>p.1=q.1/\RelV p.2 q.2
noncomputable def kV:Key->V
 | .inl i=>.int i
 | .inr x=>.str x
noncomputable abbrev _root_.QG:=List (Key ×V)
inductive HO where
 | lst (xs:QQ)
 | tup (xs:QQ)
 | dK (kvs:QG) | dT (kvs:List (List Key ×V))
 | set (S:Int->Bool) (n:Nat)
 | ins (C dx:Addr) (fs:List (Str ×V))
 | own (x:Addr)
 | xd (fs:List (Str ×V))
 | met (f x:Addr)
 | rng (lo hi:Int)
 | frz (o:Obj) (u:HO)
 | tbl (ps:Array Value)
 | ext (φ:Heap->Prop)
noncomputable abbrev Hp:=Addr->Option HO
noncomputable def upd (H:Hp)(a:Addr)(o:HO):Hp:=λb=>if b=a then some o else H b
theorem za {H:Hp}{a:Addr}{o:HO}:upd H a o a=some o:=by unfold upd;rw[if_pos rfl]
theorem zf {H:Hp}{a b:Addr}{o:HO}(h:b≠a):upd H a o b=H b:=by unfold upd;rw[if_neg h]
theorem zgT {H:Hp}{a:Addr}{o u:HO}:upd (upd H a o) a u=upd H a u:=by funext b;unfold upd;split <;> rfl
theorem zaf {H:Hp}{a b:Addr}{o u:HO}(h:H a=some o)(h':H b=some u)(d:o≠u):a≠b:=by intro e;subst e;rw[h] at h';exact d (Option.some.inj h')
theorem zg {H:Hp}{a b:Addr}{o:HO}(h:H a=some o)(h':H b=none):a≠b:=by intro e;subst e;rw[h] at h';cases h'
section
variable (P:Program)(w:World)
noncomputable def zE (H:Hp)(h:Heap)(a:Addr):HO->Prop
 | .lst xs=>xs.length<=sizeLine/\∃(its:QN) (n:Nat),Vals xs its/\h.get? a=some {cls:=.type "list",data:=.seq its.toArray n}
 | .tup xs=>xs.length<=sizeLine/\∃its:List Value,Vals xs its/\IsTup h a its.toArray
 | .dK kvs=>kvs.length<=sizeLine/\(a==sysModules)=false/\∃vs,KV kvs vs/\h.DictOf (zX P w) a vs
 | .dT kvs=>kvs.length<=sizeLine/\(a==sysModules)=false/\∃xs:List (List Key ×Addr ×Value),
   Paired (λ(p:List Key ×V) (q:List Key ×Addr ×Value)=>p.1=q.1/\H q.2.1=some (.tup (p.1.map kV))/\RelV p.2 q.2.2) kvs xs/\
   ∃o es ep,h.get? a=some o/\o.ExactDict/\o.data=.dict es ep/\es.toList=xs.map (entryOfKey (tupleKind (zX P w)))/\(xs.map (·.1)).Nodup
 | .set S n=>h.SetOf (intKind P w) a S n
 | .ins C dx fs=>H dx=some (.own a)/\fs.length<=1000/\dx≠a/\h.get? a=some (PySem.W.instObj C dx)/\
   ∃mA,h.Ns1 dx mA/\(∀f,RelO (fs.lookup f) (mA f))/\PySem.Within mA (fs.map (·.1))
 | .own _=>∃o,h.get? a=some o
 | .xd fs=>∃mA,h.Ns1 a mA/\∀f,RelO (fs.lookup f) (mA f)
 | .rng lo hi=>∃t u v,h.get? a=some {cls:=.type "range",data:=.fields #[.int lo t,.int hi u,.int 1 v]}
 | .frz o u=>h.get? a=some o/\zE H h a u
 | .tbl ps=>h.get? a=some {cls:=.none,data:=.fields ps}
 | .met f x=>h.get? a=some (PySem.W.methodObj (.ref f) (.ref x))
 | .ext φ=>φ h/\(∃o,h.get? a=some o)/\∀h1 h2:Heap,φ h1->(∀o,h1.get? a=some o->h2.get? a=some o)->φ h2
noncomputable def HOk (H:Hp)(h:Heap):Prop:=∀a o,H a=some o->zE P w H h a o
end
section
variable {P:Program}{w:World}{H H':Hp}{h h':Heap}{a:Addr}{o:HO}
theorem zE.lt (x:zE P w H h a o):a < h.objs.size:=by
 cases o with
 | lst xs=>obtain⟨_,_,_,_,e⟩:=x;exact Heap.lt_size e
 | tup xs=>obtain⟨_,_,_,p⟩:=x;exact p.lt
 | dK kvs=>obtain⟨_,_,_,_,o,_,_,e,_⟩:=x;exact Heap.lt_size e
 | dT kvs=>obtain⟨_,_,_,_,o,_,_,e,_⟩:=x;exact Heap.lt_size e
 | set S n=>obtain⟨o,_,_,_,e,_⟩:=x;exact Heap.lt_size e
 | ins C dx fs=>obtain⟨_,_,_,e,_⟩:=x;exact Heap.lt_size e
 | own y=>obtain⟨_,e⟩:=x;exact Heap.lt_size e
 | xd fs=>obtain⟨_,⟨_,_,_,e,_⟩,_⟩:=x;exact Heap.lt_size e
 | rng lo hi=>obtain⟨_,_,_,e⟩:=x;exact Heap.lt_size e
 | frz ob u=>obtain⟨e,_⟩:=x;exact Heap.lt_size e
 | tbl ps=>exact Heap.lt_size (show h.get? a=some _ from x)
 | met f y=>exact Heap.lt_size (show h.get? a=some _ from x)
 | ext φ=>obtain⟨_,⟨_,e⟩,_⟩:=x;exact Heap.lt_size e
theorem Paired.mapP {α β:Type}{F G:α->β->Prop}:∀{l₁:List α} {l₂:List β},Paired F l₁ l₂->(∀a b,F a b->G a b)->Paired G l₁ l₂
 | _,_,.nil,_=>.nil
 | _,_,.cons r t,f=>.cons (f _ _ r) (Paired.mapP t f)
theorem zE.stay (x:zE P w H h a o)(k:∀b u,(b=a\/H b=some (.own a))->h.get? b=some u->h'.get? b=some u)
  (ho:∀b,H b=some (.own a)->H' b=some (.own a)) (ht:∀b xs,H b=some (.tup xs)->H' b=some (.tup xs)):zE P w H' h' a o:=by
 induction o with
 | lst xs=>obtain⟨z,its,n,r,e⟩:=x;exact⟨z,its,n,r,k _ _ (.inl rfl) e⟩
 | tup xs=>obtain⟨z,its,r,ob,e,c⟩:=x;exact⟨z,its,r,ob,k _ _ (.inl rfl) e,c⟩
 | dK kvs=>obtain⟨z,y,vs,r,ob,es,ep,e,c⟩:=x;exact⟨z,y,vs,r,ob,es,ep,k _ _ (.inl rfl) e,c⟩
 | dT kvs=>obtain⟨z,y,xs,r,ob,es,ep,e,c⟩:=x;exact⟨z,y,xs,Paired.mapP r λp q z=>⟨z.1,ht _ _ z.2.1,z.2.2⟩,ob,es,ep,k _ _ (.inl rfl) e,c⟩
 | set S n=>obtain⟨ob,es,ep,t,e,c⟩:=x;exact⟨ob,es,ep,t,k _ _ (.inl rfl) e,c⟩
 | ins C dx fs=>obtain⟨d,z,ne,e,mA,⟨od,es,ep,e2,c⟩,r⟩:=x;exact⟨ho _ d,z,ne,k _ _ (.inl rfl) e,mA,⟨od,es,ep,k _ _ (.inr d) e2,c⟩,r⟩
 | own y=>obtain⟨ob,e⟩:=x;exact⟨ob,k _ _ (.inl rfl) e⟩
 | xd fs=>obtain⟨mA,⟨od,es,ep,e,c⟩,r⟩:=x;exact⟨mA,⟨od,es,ep,k _ _ (.inl rfl) e,c⟩,r⟩
 | rng lo hi=>obtain⟨t,u,v,e⟩:=x;exact⟨t,u,v,k _ _ (.inl rfl) e⟩
 | frz ob u ih=>obtain⟨e,q⟩:=x;exact⟨k _ _ (.inl rfl) e,ih q⟩
 | tbl ps=>have e:h.get? a=some {cls:=.none,data:=.fields ps}:=x;show h'.get? a=some {cls:=.none,data:=.fields ps};exact k a _ (.inl rfl) e
 | met f y=>have e:h.get? a=some (PySem.W.methodObj (.ref f) (.ref y)):=x;show h'.get? a=some (PySem.W.methodObj (.ref f) (.ref y));exact k a _ (.inl rfl) e
 | ext φ=>obtain⟨p,⟨o,e⟩,st⟩:=x;exact⟨st _ _ p λo q=>k _ _ (.inl rfl) q,⟨o,k _ _ (.inl rfl) e⟩,st⟩
theorem HOk.lt (x:HOk P w H h)(e:H a=some o):a < h.objs.size:=(x a o e).lt
noncomputable abbrev _root_.Jd:=@Nat.lt_of_lt_of_le
noncomputable abbrev _root_.Je:=@absurd
noncomputable abbrev _root_.Jp:=@Nat.lt_irrefl
theorem HOk.fresh (x:HOk P w H h)(e:h.objs.size<=a):H a=none:=by
 cases q:H a with
 | none=>rfl
 | some u=>exact Je (Jd (x.lt q) e) (Jp _)
theorem HOk.kept (x:HOk P w H h)(k:∀b u,h.get? b=some u->h'.get? b=some u):HOk P w H h':=λa o e=>
 (x a o e).stay (λb u _ q=>k b u q) (λ_ q=>q) λ_ _ q=>q
theorem HOk.laid (x:HOk P w H h)(k:∀b u,h.get? b=some u->h'.get? b=some u)(hp:h.objs.size<=a)(new:zE P w (upd H a o) h' a o):HOk P w (upd H a o) h':=λb u e=>by
 have hn:=x.fresh hp;by_cases hb:b=a
 ·subst hb;rw[za] at e;cases e;exact new
 ·rw[zf hb] at e;exact(x b u e).stay (λc v _ q=>k c v q) (λc q=>by rw[zf (zg q hn)];exact q) λc xs q=>by rw[zf (zg q hn)];exact q
end
noncomputable def Rd (H:Hp)(a:Addr)(u:HO):Prop:=H a=some u\/∃o,H a=some (.frz o u)
theorem Rd.ok {P:Program}{w:World}{H:Hp}{h:Heap}{a:Addr}{u:HO}(r:Rd H a u)(x:HOk P w H h):zE P w H h a u:=by
 rcases r with r | ⟨o,r⟩
 ·exact x a u r
 ·obtain⟨_,q⟩:=x a _ r;exact q
noncomputable def Mut:Option HO->Prop
 | some (.lst _)=>True
 | some (.dK _)=>True
 | some (.dT _)=>True
 | some (.set _ _)=>True
 | some (.ins _ _ _)=>True
 | some (.ext _)=>True
 | _=>False
section
variable {P:Program}{w:World}{H:Hp}{h h':Heap}{x e:Addr}{o':HO}
theorem HOk.write (ok:HOk P w H h)(mu:Mut (H x))(he:e=x\/H e=some (.own x))(k:∀b u,b≠e->h.get? b=some u->h'.get? b=some u)(heo:∃u,h'.get? e=some u)
  (new:zE P w (upd H x o') h' x o'):HOk P w (upd H x o') h':=λb u q=>by
 have nown:∀c y,H c=some (.own y)->c≠x:=λc y r z=>by subst z;rw[r] at mu;exact mu
 have ntup:∀c xs,H c=some (.tup xs)->c≠x:=λc xs r z=>by subst z;rw[r] at mu;exact mu
 by_cases hb:b=x
 ·subst hb;rw[za] at q;cases q;exact new
 ·rw[zf hb] at q;by_cases hbe:b=e
  ·have q':H b=some (.own x):=by
    rcases he with z | z
    ·exact Je (hbe.trans z) hb
    ·rw[hbe];exact z
   rw[q] at q';cases q';obtain⟨v,hv⟩:=heo;exact⟨v,by rw[hbe];exact hv⟩
  ·refine(ok b u q).stay (λc v hc r=>k c v ?_ r) (λc r=>by rw[zf (nown c b r)];exact r) λc xs r=>by rw[zf (ntup c xs r)];exact r
   rcases hc with rfl | hc
   ·exact hbe
   ·rintro rfl;rcases he with z | z
    ·exact nown c b hc z
    ·rw[hc] at z;cases z;exact hb rfl
end
structure Un (fs ex:QO)(H H':Hp)(h h':Heap):Prop where
 keep:∀b o,h.get? b=some o->H b=none->b∉fs->b∉ex->h'.get? b=some o
 slot:∀b o,h.get? b=some o->H b=none->b∈fs->b∉ex->∃sl,h'.get? b=some {o with slots:=sl}
 free:∀b o,h.get? b=some o->H b=none->b∉ex->H' b=none
 there:∀b o,h.get? b=some o->b∉ex->∃o',h'.get? b=some o'
 tups:∀b xs,H b=some (.tup xs)->H' b=some (.tup xs)
 frzs:∀b o u,H b=some (.frz o u)->H' b=some (.frz o u)
 tbls:∀b ps,H b=some (.tbl ps)->∃more,H' b=some (.tbl (ps++more))
section
variable {fs fs' ex ex':QO}{H H1 H2:Hp}{h h1 h2 h':Heap}{a x e:Addr}{o:HO}
theorem Un.any (u:Un fs ex H H1 h h1){b:Addr}{ob:Obj}(q:h.get? b=some ob)(n:H b=none)(hx:b∉ex):∃sl,h1.get? b=some {ob with slots:=sl}:=by
 by_cases hb:b∈fs
 ·exact u.slot b ob q n hb hx
 ·exact⟨ob.slots,u.keep b ob q n hb hx⟩
theorem Un.trans (a:Un fs ex H H1 h h1)(b:Un fs ex H1 H2 h1 h2):Un fs ex H H2 h h2 where
 keep:=λc ob q n hc hx=>b.keep c ob (a.keep c ob q n hc hx) (a.free c ob q n hx) hc hx
 slot:=λc ob q n hc hx=>by obtain⟨sl,e1⟩:=a.slot c ob q n hc hx;obtain⟨sl',e2⟩:=b.slot c _ e1 (a.free c ob q n hx) hc hx;exact⟨sl',e2⟩
 free:=λc ob q n hx=>by obtain⟨o',e1⟩:=a.there c ob q hx;exact b.free c o' e1 (a.free c ob q n hx) hx
 there:=λc ob q hx=>by obtain⟨o',e1⟩:=a.there c ob q hx;exact b.there c o' e1 hx
 tups:=λc xs q=>b.tups c xs (a.tups c xs q)
 frzs:=λc ob xs q=>b.frzs c ob xs (a.frzs c ob xs q)
 tbls:=λc ps q=>by obtain⟨m1,e1⟩:=a.tbls c ps q;obtain⟨m2,e2⟩:=b.tbls c _ e1;exact⟨m1++m2,by rw[e2,Array.append_assoc]⟩
theorem Un.kept (k:∀b u,h.get? b=some u->h'.get? b=some u):Un fs ex H H h h':=
 ⟨λb ob q _ _ _=>k b ob q,λb ob q _ _ _=>⟨ob.slots,k b ob q⟩,λ_ _ _ n _=>n,λb ob q _=>⟨ob,k b ob q⟩,λ_ _ q=>q,λ_ _ _ q=>q,λ_ ps q=>⟨#[],by rw[q];simp⟩⟩
theorem Un.refl:Un fs ex H H h h:=Un.kept λ_ _ q=>q
noncomputable abbrev _root_.Jg:=@Nat.ne_of_lt
theorem Un.laid (k:∀b u,h.get? b=some u->h'.get? b=some u)(hp:h.objs.size<=a)(hn:H a=none):Un fs ex H (upd H a o) h h' where
 keep:=λb u q _ _ _=>k b u q
 slot:=λb u q _ _ _=>⟨u.slots,k b u q⟩
 free:=λb u q n _=>by rw[zf (Jg (Jd (Heap.lt_size q) hp))];exact n
 there:=λb u q _=>⟨u,k b u q⟩
 tups:=λb xs q=>by rw[zf (zg q hn)];exact q
 frzs:=λb u xs q=>by rw[zf (zg q hn)];exact q
 tbls:=λb ps q=>⟨#[],by rw[zf (zg q hn),q];simp⟩
theorem Un.write (mu:Mut (H x))(he:e=x\/H e=some (.own x))(k:∀b u,b≠e->h.get? b=some u->h'.get? b=some u)(heo:∃u,h'.get? e=some u):Un fs ex H (upd H x o) h h':=by
 have hx:∀b,H b=none->b≠x:=λb n z=>by subst z;rw[n] at mu;exact mu
 have hb:∀b,H b=none->b≠e:=λb n z=>by
  subst z;rcases he with r | r
  ·exact hx b n r
  ·rw[n] at r;cases r
 have hm:∀b u,H b=some u->¬Mut (some u)->b≠x:=λb u q nm z=>by subst z;rw[q] at mu;exact nm mu
 refine⟨λb u q n _ _=>k b u (hb b n) q,λb u q n _ _=>⟨u.slots,k b u (hb b n) q⟩,λb u q n _=>by rw[zf (hx b n)];exact n,λb u q _=>?_,
  λb xs q=>by rw[zf (hm b _ q λz=>z)];exact q,λb u xs q=>by rw[zf (hm b _ q λz=>z)];exact q,λb ps q=>⟨#[],by rw[zf (hm b _ q λz=>z),q];simp⟩⟩
 by_cases hbe:b=e
 ·subst hbe;exact heo
 ·exact⟨u,k b u hbe q⟩
end
noncomputable def trk (h:Heap)(H:Hp):List Addr:=(List.range h.objs.size).filter λa=>(H a).isSome
noncomputable def hidT (h:Heap)(H:Hp):Heap:=PySem.W.hideAll h (trk h H)
theorem zkH (h:Heap)(H:Hp):(hidT h H).objs.size=h.objs.size:=PySem.W.hideAll_size _ _
theorem zmI {h:Heap}{H:Hp}{b:Addr}{o:Obj}(e:h.get? b=some o)(n:H b=none):(hidT h H).get? b=some o:=
 PySem.W.hideAll_get _ e λhm=>by have q:(H b).isSome=true:=(List.mem_filter.mp hm).2;rw[n] at q;simp at q
theorem zop {h:Heap}{H:Hp}{b:Addr}{o:Obj}(e:(hidT h H).get? b=some o):h.get? b=some o/\H b=none:=by
 have e':h.get? b=some o:=PySem.W.of_hideAll (trk h H) e;refine⟨e',?_⟩;cases q:H b with
 | none=>rfl
 | some x=>have hm:b∈trk h H:=List.mem_filter.mpr ⟨List.mem_range.mpr (Heap.lt_size e'),by simp[q]⟩;have z:(hidT h H).get? b=none:=PySem.W.hideAll_none (trk h H) hm;rw[z] at e;cases e
noncomputable def znV (g h:Heap)(L:Addr):List (Addr ×Obj):=(List.range h.objs.size).filterMap λa=>if a=L\/(g.get? a).isSome=true then none else(h.get? a).map λo=>(a,o)
noncomputable def rest (g h:Heap)(L d:Addr):List (Addr ×Obj):=(znV g h L).filter λp=>decide (p.1≠d)
end L2
namespace L2
open PySem PySem.Spec PyProof.Rows
noncomputable abbrev _root_.QA:=PySem.W.Frag
noncomputable abbrev _root_.QB:=Str->Option Value
structure Mod (K:QA)(mg:QB)(base:Heap):Prop where
 kin:K.In base
 glob:base.Ns mainGlobals mg
 blt:∃mb,base.Ns builtinsNs mb/\∀x:Str,x≠ "__name__" ->mb x=bootBuiltins x
 nolimit:base.NoLimit
structure Cx where
 prog:Program
 w:World
 K:QA
 mg:Str->Option Value
 base:Heap
 A:Around
 N:List Str
 s₀:Shared
 H₀:Hp
 env:Env
 outer:List Env
 stack:List Env
 ex:List Addr
 fn:Str->Bool
 calm:Bool
 pn:List (Addr ×Obj)
 xe:Value->Shared->Prop
noncomputable def frs (l:List Env):List Addr:=l.filterMap (·.frame)
noncomputable abbrev Cx.fs (X:Cx):List Addr:=frs X.outer
noncomputable def Vis (sc:Scope)(x:Str):Prop:=sc.names.lookup x=some .local\/sc.names.lookup x=some .cell\/sc.names.lookup x=some .free
noncomputable def Loc (sc:Scope)(x:Str):Prop:=sc.names.lookup x=some .local\/sc.names.lookup x=some .cell
noncomputable def Look (env:Env)(h:Heap)(m:QB)(x:Str)(u:Value):Prop:=
 (env.kindOf x=some .local/\m x=some u)\/((env.kindOf x=some .cell\/env.kindOf x=some .free)/\∃c,env.cells.lookup x=some c/\h.IsCell c (some u))
structure Cx.Ok (X:Cx):Prop where
 mod:Mod X.K X.mg X.base
 kind:X.env.scope.kind=.function
 glob:X.env.globals=mainGlobals
 blt:X.env.builtins=builtinsNs
 above:X.s₀.heap.objs.size<=X.env.locals
 inj:∀x y c,X.env.cells.lookup x=some c->X.env.cells.lookup y=some c->x=y
 has:∀x,(X.env.kindOf x=some .cell\/X.env.kindOf x=some .free)->∃c,X.env.cells.lookup x=some c
 cab:∀x c,X.fn x=true->X.env.cells.lookup x=some c->X.s₀.heap.objs.size<=c
 hd:X.calm=true->X.A.handled=none
 frames:X.A.frames=some X.stack
 stk:X.stack=X.outer\/(X.stack=X.env::X.outer/\X.env.frame=some X.env.locals)
 exf:∀b∈X.ex,b≠X.env.locals/\∀x c,X.env.cells.lookup x=some c->c≠b
 bs:∀b o,X.base.get? b=some o->X.s₀.heap.get? b=some o/\X.H₀ b=none
 bsz:X.base.objs.size<=X.s₀.heap.objs.size
 noex:∀b o,X.base.get? b=some o->b∉X.ex
 exfs:∀b∈X.ex,b∉X.fs
 funs:X.s₀.heap.FunFrames X.base X.outer
 frf:∀b∈X.fs,X.H₀ b=none
noncomputable abbrev _root_.QE:=List (Addr ×Obj)
structure Inv (X:Cx)(pins:QE)(σ:List (Option V))(H:Hp)(s:Shared):Prop where
 ok:X.Ok
 os:s.os=X.s₀.os
 bare:AllBare s.gens
 base:Un X.fs X.ex X.H₀ H X.s₀.heap s.heap
 loc:∃m,s.heap.Ns X.env.locals m/\∀(i:Nat) (x:Str) (v:V),X.N[i]? =some x->σ[i]? =some (some v)->Vis X.env.scope x->∃u,RelV v u/\Look X.env s.heap m x u
 cell:∀x c,X.env.cells.lookup x=some c->∃v,s.heap.IsCell c v
 free:H X.env.locals=none
 freeC:∀x c,X.env.cells.lookup x=some c->H c=none
 pin:∀p∈X.pn++pins,s.heap.get? p.1=some p.2/\H p.1=none/\p.1≠X.env.locals/\p.1∉X.fs/\∀v,p.2.data≠ .cell v
 hok:HOk X.prog X.w H s.heap
 len:σ.length=X.N.length
section
variable {X:Cx}{pins:QE}{σ:List (Option V)}{H H':Hp}{s:Shared}{h':Heap}
theorem Cx.Ok.nofr (ok:X.Ok){b:Addr}{o:Obj}(e:X.base.get? b=some o):b∉X.fs:=λhb=>by have:=(ok.funs.mem hb).1;rw[e] at this;cases this
theorem Inv.bs (I:Inv X pins σ H s):∀b o,X.base.get? b=some o->s.heap.get? b=some o/\H b=none:=λb o e=>
 ⟨I.base.keep b o (I.ok.bs b o e).1 (I.ok.bs b o e).2 (I.ok.nofr e) (I.ok.noex b o e),I.base.free b o (I.ok.bs b o e).1 (I.ok.bs b o e).2 (I.ok.noex b o e)⟩
theorem Inv.bk (I:Inv X pins σ H s):∀b o,X.base.get? b=some o->s.heap.get? b=some o:=λb o e=>(I.bs b o e).1
theorem Inv.mod (I:Inv X pins σ H s):Mod X.K X.mg X.base:=I.ok.mod
theorem Inv.kIn (I:Inv X pins σ H s):X.K.In s.heap:=I.ok.mod.kin.keeps I.bk
theorem Inv.lt (I:Inv X pins σ H s):X.env.locals < s.heap.objs.size:=let ⟨_,hn,_⟩:=I.loc;hn.lt
noncomputable abbrev _root_.Ji:=@Nat.le_trans
theorem Inv.sz (I:Inv X pins σ H s):X.s₀.heap.objs.size<=s.heap.objs.size:=Ji I.ok.above (Nat.le_of_lt I.lt)
theorem Inv.nofs (I:Inv X pins σ H s){a:Addr}(h:s.heap.objs.size<=a):a∉X.fs:=λhb=>by obtain⟨_,o,ho,_⟩:=I.ok.funs.mem hb;exact Je (Jd (Heap.lt_size ho) (Ji I.sz h)) (Jp _)
theorem Inv.cne (I:Inv X pins σ H s):∀x c,X.env.cells.lookup x=some c->c≠X.env.locals:=λx c e z=>by obtain⟨v,o,ho,hd⟩:=I.cell x c e;obtain⟨m,⟨o',es,ep,ho',hd',_⟩,_⟩:=I.loc;rw[z,ho'] at ho;cases ho;rw[hd'] at hd;cases hd
noncomputable abbrev _root_.Jh:=@List.mem_cons_of_mem
theorem Inv.funs (I:Inv X pins σ H s):s.heap.FunFrames X.base X.outer:=by
 have all:∀(l:List Env),(∀b∈frs l,b∈X.fs)->X.s₀.heap.FunFrames X.base l->s.heap.FunFrames X.base l:=by
  intro l
  induction l with
  | nil=>intro _ _;trivial
  | cons env r ih=>intro hs hl;obtain⟨hk,⟨L,o,hf,hn,ho,hd⟩,hr⟩:=hl;have hL:L∈X.fs:=hs L (by unfold frs;rw[List.filterMap_cons,hf];exact List.mem_cons_self);obtain⟨sl,e⟩:=I.base.slot L o ho (I.ok.frf L hL) hL λz=>I.ok.exfs L z hL;exact⟨hk,⟨L,_,hf,hn,e,hd⟩,ih (λb hb=>hs b (by unfold frs;rw[List.filterMap_cons,hf];exact Jh _ hb)) hr⟩
 exact all X.outer (λ_ hb=>hb) I.ok.funs
theorem Inv.stack (I:Inv X pins σ H s):s.heap.FunFrames X.base X.stack:=by
 rcases I.ok.stk with e | ⟨e,hf⟩
 ·rw[e];exact I.funs
 ·rw[e];obtain⟨m,hn,_⟩:=I.loc;refine .cons (by rw[I.ok.kind];decide) hf hn ?_ I.funs;exact Heap.get?_none_of_le (Ji I.ok.bsz I.ok.above)
theorem Inv.stkSub (I:Inv X pins σ H s):∀b∈frs X.stack,b∈X.env.locals::X.fs:=λb hb=>by
 rcases I.ok.stk with e | ⟨e,hf⟩
 ·rw[e] at hb;exact Jh _ hb
 ·rw[e] at hb;unfold frs at hb;rw[List.filterMap_cons,hf] at hb;exact hb
theorem Inv.stkFree (I:Inv X pins σ H s):∀b∈frs X.stack,H b=none:=λb hb=>by
 rcases List.mem_cons.mp (I.stkSub b hb) with e | hb
 ·rw[e];exact I.free
 ·obtain⟨_,o,ho,_⟩:=I.ok.funs.mem hb;exact I.base.free b o ho (I.ok.frf b hb) λz=>I.ok.exfs b z hb
theorem Inv.step {g':Array GenState}{t':Nat}{d':Drawn}{ch:QO}(I:Inv X pins σ H s)
  (hch:∀b∈ch,(b∈X.ex\/X.s₀.heap.objs.size<=b)/\b≠X.env.locals/\(∀x c,X.env.cells.lookup x=some c->c≠b)/\∀p∈X.pn++pins,p.1≠b)
  (keep:∀b o,b≠X.env.locals->b∉X.fs->b∉ch->s.heap.get? b=some o->H b=none->h'.get? b=some o)
  (slot:∀b o,b≠X.env.locals->b∈X.fs->b∉ch->s.heap.get? b=some o->H b=none->∃sl,h'.get? b=some {o with slots:=sl}) (free:∀b o,b∉ch->s.heap.get? b=some o->H b=none->H' b=none)
  (there:∀b o,b∉ch->s.heap.get? b=some o->∃o',h'.get? b=some o')
  (tups:∀b xs,H b=some (.tup xs)->H' b=some (.tup xs)) (frzs:∀b o u,H b=some (.frz o u)->H' b=some (.frz o u)) (tbls:∀b ps,H b=some (.tbl ps)->∃more,H' b=some (.tbl (ps++more)))
  (ns:∀m,s.heap.Ns X.env.locals m->h'.Ns X.env.locals m) (hok:HOk X.prog X.w H' h') (hg:AllBare g'):
  Inv X pins σ H' {s with heap:=h',gens:=g',drawn:=d',toks:=t'}:=by
 have neL:∀b o,X.s₀.heap.get? b=some o->b≠X.env.locals:=λb o e=>Jg (Jd (Heap.lt_size e) I.ok.above);have neC:∀b o,X.s₀.heap.get? b=some o->b∉X.ex->b∉ch:=λb o e hx hb=>by
  rcases(hch b hb).1 with z | z
  ·exact hx z
  ·exact Je (Jd (Heap.lt_size e) z) (Jp _)
 have cellK:∀x c,X.env.cells.lookup x=some c->∀v,s.heap.IsCell c v->h'.IsCell c v:=λx c e v ⟨o,ho,hd⟩=>by
  have nch:c∉ch:=λz=>(hch c z).2.2.1 x c e rfl;by_cases hc:c∈X.fs
  ·obtain⟨sl,q⟩:=slot c o (I.cne x c e) hc nch ho (I.freeC x c e);exact⟨_,q,hd⟩
  ·exact⟨o,keep c o (I.cne x c e) hc nch ho (I.freeC x c e),hd⟩
 refine⟨I.ok,I.os,hg,⟨λb o e n hb hx=>?_,λb o e n hb hx=>?_,λb o e n hx=>?_,λb o e hx=>?_,λb xs e=>tups b xs (I.base.tups b xs e),λb o xs e=>frzs b o xs (I.base.frzs b o xs e),λb ps e=>?_⟩,?_,λx c e=>?_,?_,λx c e=>?_,λp hp=>?_,hok,I.len⟩
 ·exact keep b o (neL b o e) hb (neC b o e hx) (I.base.keep b o e n hb hx) (I.base.free b o e n hx)
 ·obtain⟨sl,e1⟩:=I.base.slot b o e n hb hx;obtain⟨sl',e2⟩:=slot b _ (neL b o e) hb (neC b o e hx) e1 (I.base.free b o e n hx);exact⟨sl',e2⟩
 ·obtain⟨o',e1⟩:=I.base.there b o e hx;exact free b o' (neC b o e hx) e1 (I.base.free b o e n hx)
 ·obtain⟨o',e1⟩:=I.base.there b o e hx;exact there b o' (neC b o e hx) e1
 ·obtain⟨m1,e1⟩:=I.base.tbls b ps e;obtain⟨m2,e2⟩:=tbls b _ e1;exact⟨m1++m2,by rw[e2,Array.append_assoc]⟩
 ·obtain⟨m,hn,hl⟩:=I.loc;refine⟨m,ns m hn,λi x v e1 e2 e3=>?_⟩;obtain⟨u,r,l⟩:=hl i x v e1 e2 e3;refine⟨u,r,?_⟩;rcases l with l | ⟨k,c,e,z⟩
  ·exact .inl l
  ·exact .inr ⟨k,c,e,cellK x c e _ z⟩
 ·obtain⟨v,z⟩:=I.cell x c e;exact⟨v,cellK x c e v z⟩
 ·obtain⟨m,⟨o,_,_,ho,_⟩,_⟩:=I.loc;exact free _ o (λz=>(hch _ z).2.1 rfl) ho I.free
 ·obtain⟨v,o,ho,hd⟩:=I.cell x c e;exact free c o (λz=>(hch c z).2.2.1 x c e rfl) ho (I.freeC x c e)
 ·obtain⟨e,n,ne,nf,d⟩:=I.pin p hp;have nch:p.1∉ch:=λz=>(hch p.1 z).2.2.2 p hp rfl;exact⟨keep p.1 p.2 ne nf nch e n,free p.1 p.2 nch e n,ne,nf,d⟩
theorem Inv.un {t':Nat}(I:Inv X pins σ H s)(u:Un X.fs [] H H' s.heap h')(hok:HOk X.prog X.w H' h'):Inv X pins σ H' {s with heap:=h',toks:=t'}:=by
 obtain⟨m,⟨o,es,ep,ho,r⟩,_⟩:=id I.loc;obtain⟨sl,hL⟩:=u.any ho I.free (by simp);exact I.step (g':=s.gens) (d':=s.drawn) (ch:=[]) (λ_ z=>nomatch z) (λb o _ hb _ e n=>u.keep b o e n hb (by simp)) (λb o _ hb _ e n=>u.slot b o e n hb (by simp)) (λb o _ e n=>u.free b o e n (by simp)) (λb o _ e=>u.there b o e (by simp)) u.tups u.frzs u.tbls (λm' hm=>by
  obtain⟨o',es',ep',ho',r'⟩:=hm;rw[ho] at ho';cases ho';exact⟨_,es',ep',hL,r'⟩) hok I.bare
theorem Inv.call {g':Array GenState}{t':Nat}{d':Drawn}{ch:QO}(I:Inv X pins σ H s)(u:Un (frs X.stack) ch H H' s.heap h')(hok:HOk X.prog X.w H' h')(hg:AllBare g')
  (hch:∀b∈ch,(b∈X.ex\/X.s₀.heap.objs.size<=b)/\b≠X.env.locals/\(∀x c,X.env.cells.lookup x=some c->c≠b)/\∀p∈X.pn++pins,p.1≠b):
  Inv X pins σ H' {s with heap:=h',gens:=g',drawn:=d',toks:=t'}:=by
 obtain⟨m,⟨o,es,ep,ho,r⟩,_⟩:=id I.loc;obtain⟨sl,hL⟩:=u.any ho I.free λz=>(hch _ z).2.1 rfl;exact I.step (ch:=ch) hch (λb o hL hb hc e n=>u.keep b o e n (λz=>(List.mem_cons.mp (I.stkSub b z)).elim hL hb) hc) (λb o _ _ hc e n=>u.any e n hc) (λb o hc e n=>u.free b o e n hc) (λb o hc e=>u.there b o e hc) u.tups u.frzs u.tbls (λm' hm=>by
  obtain⟨o',es',ep',ho',r'⟩:=hm;rw[ho] at ho';cases ho';exact⟨_,es',ep',hL,r'⟩) hok hg
theorem Inv.turned {t':Nat}{it:Addr}(I:Inv X pins σ H s)(k:∀b o,b≠it->s.heap.get? b=some o->h'.get? b=some o)(hn:H it=none)(hL:it≠X.env.locals)
  (h1:it∈X.ex\/X.s₀.heap.objs.size<=it) (h2:∀x c,X.env.cells.lookup x=some c->c≠it) (h3:∀p∈X.pn++pins,p.1≠it):Inv X pins σ H {s with heap:=h',toks:=t'}:=by
 have nit:∀b u,H b=some u->b≠it:=λb u e z=>by rw[z,hn] at e;cases e
 refine I.step (g':=s.gens) (d':=s.drawn) (ch:=[it]) (λb hb=>?_) (λb o _ _ hc e _=>k b o (λz=>hc (by simp[z])) e) (λb o _ _ hc e _=>⟨o.slots,k b o (λz=>hc (by simp[z])) e⟩) (λ_ _ _ _ n=>n)
  (λb o hc e=>⟨o,k b o (λz=>hc (by simp[z])) e⟩) (λ_ _ e=>e) (λ_ _ _ e=>e) (λb ps e=>⟨#[],by rw[e];simp⟩) (λm hm=>?_) (λb u e=>?_) I.bare
 ·have e:b=it:=by simpa using hb
  subst e;exact⟨h1,hL,h2,h3⟩
 ·obtain⟨o,es,ep,ho,r⟩:=hm;exact⟨o,es,ep,k _ o (Ne.symm hL) ho,r⟩
 ·refine(I.hok b u e).stay (λc v hc q=>k c v ?_ q) (λ_ q=>q) λ_ _ q=>q;rcases hc with z | z
  ·rw[z];exact nit b u e
  ·exact nit c _ z
theorem Inv.tok (I:Inv X pins σ H s)(t:Nat):Inv X pins σ H {s with toks:=t}:=I.un (h':=s.heap) (t':=t) Un.refl I.hok
theorem Inv.kept {t':Nat}(I:Inv X pins σ H s)(k:∀b u,s.heap.get? b=some u->h'.get? b=some u):Inv X pins σ H {s with heap:=h',toks:=t'}:=I.un (Un.kept k) (I.hok.kept k)
theorem Inv.laid {a:Addr}{o:HO}{t':Nat}(I:Inv X pins σ H s)(k:∀b u,s.heap.get? b=some u->h'.get? b=some u)(hp:s.heap.objs.size<=a)(new:zE X.prog X.w (upd H a o) h' a o):
  Inv X pins σ (upd H a o) {s with heap:=h',toks:=t'}:=I.un (Un.laid k hp (I.hok.fresh hp)) (I.hok.laid k hp new)
theorem Inv.write {x e:Addr}{o:HO}{t':Nat}(I:Inv X pins σ H s)(mu:Mut (H x))(he:e=x\/H e=some (.own x))(k:∀b u,b≠e->s.heap.get? b=some u->h'.get? b=some u)(heo:∃u,h'.get? e=some u)
  (new:zE X.prog X.w (upd H x o) h' x o):Inv X pins σ (upd H x o) {s with heap:=h',toks:=t'}:=I.un (Un.write mu he k heo) (I.hok.write mu he k heo new)
noncomputable abbrev _root_.Jk:=@List.mem_append_left
theorem Inv.pins_of {pins':QE}(I:Inv X pins σ H s)(h:∀p∈pins',s.heap.get? p.1=some p.2/\H p.1=none/\p.1≠X.env.locals/\p.1∉X.fs/\∀v,p.2.data≠ .cell v):Inv X pins' σ H s:=
 ⟨I.ok,I.os,I.bare,I.base,I.loc,I.cell,I.free,I.freeC,λp hp=>(List.mem_append.mp hp).elim (λz=>I.pin p (Jk _ z)) (h p),I.hok,I.len⟩
theorem zem {N:QP}(hN:N.Nodup){i j:Nat}{x:Str}(a:N[i]? =some x)(b:N[j]? =some x):i=j:=by obtain⟨h1,e1⟩:=List.getElem?_eq_some_iff.mp a;obtain⟨h2,e2⟩:=List.getElem?_eq_some_iff.mp b;exact(List.getElem_inj hN).mp (e1.trans e2.symm)
noncomputable abbrev _root_.QC:=Value->Shared->Prop
noncomputable abbrev _root_.QD:=Unit->Shared->Prop
theorem zko {M:Model}{A:Around}{E:QC}{i:Nat}{x:Str}{v:V}{u:Value}{Q:QD}(I:Inv X pins σ H s)(hN:X.N.Nodup)(hi:X.N[i]? =some x)(hx:Loc X.env.scope x)(r:RelV v u)
  (h:∀s',Inv X pins (σ.set i (some v)) H s'->(∃a,Heap.SameBut a s.heap s'.heap/\(a=X.env.locals\/X.env.cells.lookup x=some a))->Q () s') (hf:X.fn x=true\/X.env.scope.names.lookup x=some .local:=by first | exact .inl rfl | exact .inr rfl | assumption):wpAny M A (storeName X.env x u) Q E s:=by
 obtain⟨m,hn,hl⟩:=id I.loc;have hcls:(X.env.scope.kind==.class || (X.env.scope.kind==.module && X.env.locals !=X.env.globals))=false:=by rw[I.ok.kind];rfl
 have hiσ:i < σ.length:=by rw[I.len];exact(List.getElem?_eq_some_iff.mp hi).1
 have cne:=I.cne;have tracked:∀{a:Addr} {h':Heap},(∃o,s.heap.get? a=some o/\H a=none)->Heap.SameBut a s.heap h'->HOk X.prog X.w H h':=λ{a h'} ha hs b ob e=>by
  obtain⟨_,_,hfree⟩:=ha;refine(I.hok b ob e).stay (λc w' hc q=>(hs.2 c ?_).trans q) (λ_ q=>q) λ_ _ q=>q;rintro rfl;rcases hc with rfl | hc
  ·rw[hfree] at e;cases e
  ·rw[hfree] at hc;cases hc
 rcases hx with hk | hk
 ·refine wpAny_storeName_local hk hn (λh' hn' hs=>?_) hcls;obtain⟨oL,_,_,hoL,_⟩:=id hn;refine h _ ⟨I.ok,I.os,I.bare,⟨λb o e n hb hx=>?_,λb o e n hb hx=>?_,I.base.free,λb o e hx=>?_,I.base.tups,I.base.frzs,I.base.tbls⟩,⟨_,hn',λj y v' e1 e2 e3=>?_⟩,λy c e=>?_,I.free,I.freeC,λp hp=>?_,tracked ⟨oL,hoL,I.free⟩ hs,by simpa using I.len⟩ ⟨_,hs,.inl rfl⟩
  ·exact(hs.2 b (Jg (Jd (Heap.lt_size e) I.ok.above))).trans (I.base.keep b o e n hb hx)
  ·obtain⟨sl,e1⟩:=I.base.slot b o e n hb hx;exact⟨sl,(hs.2 b (Jg (Jd (Heap.lt_size e) I.ok.above))).trans e1⟩
  ·obtain⟨o',e1⟩:=I.base.there b o e hx;exact⟨o',(hs.2 b (Jg (Jd (Heap.lt_size e) I.ok.above))).trans e1⟩
  ·by_cases hj:j=i
   ·subst hj;rw[hi] at e1;cases e1;rw[List.getElem?_set_self hiσ] at e2;cases e2;exact⟨u,r,.inl ⟨hk,by simp⟩⟩
   ·rw[List.getElem?_set_ne (Ne.symm hj)] at e2;obtain⟨u',r',q⟩:=hl j y v' e1 e2 e3;refine⟨u',r',?_⟩;rcases q with ⟨k,e⟩ | ⟨k,c,e,z⟩
    ·refine .inl ⟨k,?_⟩;have:y≠x:=λe=>hj (zem hN e1 (e ▸ hi));simp[this,e]
    ·exact .inr ⟨k,c,e,z.sameBut hs (cne y c e)⟩
  ·obtain⟨w',z⟩:=I.cell y c e;exact⟨w',z.sameBut hs (cne y c e)⟩
  ·obtain⟨e,n,ne,nf,d⟩:=I.pin p hp;exact⟨(hs.2 p.1 ne).trans e,n,ne,nf,d⟩
 ·have hfn:X.fn x=true:=by
   rcases hf with z | z
   ·exact z
   ·rw[z] at hk;cases hk
  obtain⟨c,hc⟩:=I.ok.has x (.inl hk);obtain⟨w',z⟩:=I.cell x c hc;refine wpAny_storeName_cell I.ok.kind hk hc z (λh' hc' hs=>?_);obtain⟨oc,hoc,hocd⟩:=id z;refine h {s with heap:=h'} ⟨I.ok,I.os,I.bare,⟨λb o e n hb hx=>?_,λb o e n hb hx=>?_,I.base.free,λb o e hx=>?_,I.base.tups,I.base.frzs,I.base.tbls⟩,⟨m,hn.sameBut hs (Ne.symm (cne x c hc)),λj y v' e1 e2 e3=>?_⟩,λy c' e=>?_,I.free,I.freeC,λp hp=>?_,tracked ⟨oc,hoc,I.freeC x c hc⟩ hs,by simpa using I.len⟩ ⟨c,hs,.inr hc⟩
  ·exact(hs.2 b (Jg (Jd (Heap.lt_size e) (I.ok.cab x c hfn hc)))).trans (I.base.keep b o e n hb hx)
  ·obtain⟨sl,e1⟩:=I.base.slot b o e n hb hx;exact⟨sl,(hs.2 b (Jg (Jd (Heap.lt_size e) (I.ok.cab x c hfn hc)))).trans e1⟩
  ·obtain⟨o',e1⟩:=I.base.there b o e hx;exact⟨o',(hs.2 b (Jg (Jd (Heap.lt_size e) (I.ok.cab x c hfn hc)))).trans e1⟩
  ·by_cases hj:j=i
   ·subst hj;rw[hi] at e1;cases e1;rw[List.getElem?_set_self hiσ] at e2;cases e2;exact⟨u,r,.inr ⟨.inl hk,c,hc,hc'⟩⟩
   ·rw[List.getElem?_set_ne (Ne.symm hj)] at e2;obtain⟨u',r',q⟩:=hl j y v' e1 e2 e3;refine⟨u',r',?_⟩;rcases q with q | ⟨k,c',e,z'⟩
    ·exact .inl q
    ·refine .inr ⟨k,c',e,z'.sameBut hs ?_⟩;rintro rfl;exact hj (zem hN e1 (I.ok.inj _ _ _ e hc ▸ hi))
  ·by_cases hcc:c'=c
   ·subst hcc;exact⟨_,hc'⟩
   ·obtain⟨w2,z2⟩:=I.cell y c' e;exact⟨w2,z2.sameBut hs hcc⟩
  ·obtain⟨e,n,ne,nf,d⟩:=I.pin p hp;refine⟨(hs.2 p.1 ?_).trans e,n,ne,nf,d⟩;intro q;rw[q,hoc] at e;have q':oc=p.2:=Option.some.inj e;exact d w' (by rw[<-q'];exact hocd)
theorem zcQ {M:Model}{A:Around}{E:QC}{i:Nat}{x:Str}{v:V}{u:Value}{Q:QD}(I:Inv X pins σ H s)(hN:X.N.Nodup)(hi:X.N[i]? =some x)(hx:Loc X.env.scope x)(r:RelV v u)
  (h:∀s',Inv X pins (σ.set i (some v)) H s'->Q () s') (hf:X.fn x=true\/X.env.scope.names.lookup x=some .local:=by first | exact .inl rfl | exact .inr rfl | assumption):wpAny M A (storeName X.env x u) Q E s:=
 zko I hN hi hx r (λs' I' _=>h s' I') hf
theorem Inv.call' {s':Shared}{ch:QO}(I:Inv X pins σ H s)(ho:s'.os=s.os)(u:Un (frs X.stack) ch H H' s.heap s'.heap)(hok:HOk X.prog X.w H' s'.heap)(hg:AllBare s'.gens)
  (hch:∀b∈ch,(b∈X.ex\/X.s₀.heap.objs.size<=b)/\b≠X.env.locals/\(∀x c,X.env.cells.lookup x=some c->c≠b)/\∀p∈X.pn++pins,p.1≠b):Inv X pins σ H' s':=by
 obtain⟨h',g',d',t',o'⟩:=s';have e:o'=s.os:=ho;subst e;exact I.call (g':=g') (t':=t') (d':=d') u hok hg hch
end
noncomputable abbrev XK:=Value->Option Addr->Hp->Prop
noncomputable abbrev St:=List (Option V)
noncomputable abbrev VK:=V->Hp->Prop
noncomputable abbrev TE:=St->Hp->VK->Prop
noncomputable abbrev TT:=St->Hp->(Bool->Hp->Prop)->Prop
noncomputable abbrev TA:=St->Hp->(List V->Hp->Prop)->Prop
structure Ends where
 nx:St->Hp->Prop
 rt:VK
 bk:St->Hp->Prop:=λ_ _=>False
 ct:St->Hp->Prop:=λ_ _=>False
noncomputable abbrev TS:=Ends->St->Hp->Prop
noncomputable def EP (X:Cx)(pins:QE)(σ:St)(Q:VK)(u:Value)(s':Shared):Prop:=∃v H',Inv X pins σ H' s'/\RelV v u/\Q v H'
noncomputable def TP (X:Cx)(pins:QE)(σ:St)(Q:Bool->Hp->Prop)(b:Bool)(s':Shared):Prop:=∃H',Inv X pins σ H' s'/\Q b H'
noncomputable def AP (X:Cx)(pins:QE)(σ:St)(Q:List V->Hp->Prop)(us:QN)(s':Shared):Prop:=∃vs H',Inv X pins σ H' s'/\Vals vs us/\Q vs H'
noncomputable def SP (X:Cx)(pins:QE)(D:Ends)(f:Flow)(s':Shared):Prop:=
 match f with
 | .next=>∃σ' H',Inv X pins σ' H' s'/\D.nx σ' H'
 | .brk=>∃σ' H',Inv X pins σ' H' s'/\D.bk σ' H'
 | .cont=>∃σ' H',Inv X pins σ' H' s'/\D.ct σ' H'
 | .ret u=>∃v σ' H',Inv X pins σ' H' s'/\RelV v u/\D.rt v H'
noncomputable def PE (X:Cx)(e:Expr)(t:TE):Prop:=
 ∀(pins:QE) (s:Shared) (σ:St) (H:Hp) (Q:VK),Inv X pins σ H s->t σ H Q->wpAny (model X.prog X.w) X.A (eval e X.env) (EP X pins σ Q) X.xe s
noncomputable def PT (X:Cx)(e:Expr)(t:TT):Prop:=
 ∀(pins:QE) (s:Shared) (σ:St) (H:Hp) (Q:Bool->Hp->Prop),Inv X pins σ H s->t σ H Q->wpAny (model X.prog X.w) X.A (isTrue e X.env (eval e X.env)) (TP X pins σ Q) X.xe s
noncomputable def PW (X:Cx)(e:Expr)(t:TT):Prop:=
 ∀(whole:Sem Value) (pins:QE) (s:Shared) (σ:St) (H:Hp) (Q:Bool->Hp->Prop),Inv X pins σ H s->t σ H Q->wpAny (model X.prog X.w) X.A (isTrue e X.env whole) (TP X pins σ Q) X.xe s
theorem PW.pt {X:Cx}{e:Expr}{t:TT}(h:PW X e t):PT X e t:=h _
noncomputable def PA (X:Cx)(es:List Expr)(t:TA):Prop:=
 ∀(pos:Pos) (pins:QE) (s:Shared) (σ:St) (H:Hp) (Q:List V->Hp->Prop),Inv X pins σ H s->t σ H Q->wpAny (model X.prog X.w) X.A (spliced (backTo pos (starEach es X.env))) (AP X pins σ Q) X.xe s
noncomputable def PS (X:Cx)(st:Stmt)(t:TS):Prop:=
 ∀(pins:QE) (s:Shared) (σ:St) (H:Hp) (D:Ends),Inv X pins σ H s->t D σ H->wpAny (model X.prog X.w) X.A (exec st X.env) (SP X pins D) X.xe s
noncomputable def PSs (X:Cx)(st:List Stmt)(t:TS):Prop:=
 ∀(pins:QE) (s:Shared) (σ:St) (H:Hp) (D:Ends),Inv X pins σ H s->t D σ H->wpAny (model X.prog X.w) X.A (execs st X.env) (SP X pins D) X.xe s
theorem thn {α:Type}{t:Sem α}{Q Q':α->Shared->Prop}{M:Model}{A:Around}{E:QC}{s:Shared}(h:wpAny M A t Q E s)(hQ:∀a s,Q a s->Q' a s):wpAny M A t Q' E s:=wpAny_mono h hQ λ_ _ x=>x
end L2
namespace L2
open PySem PySem.Spec PyProof.Rows
section
variable {X:Cx}
theorem bin {a b:Expr}{ta tb:TE}(ha:PE X a ta)(hb:PE X b tb){pins:QE}{s:Shared}{σ:St}{H:Hp}{R:V->V->Hp->Prop}(I:Inv X pins σ H s)(h:ta σ H λx H1=>tb σ H1 λy H2=>R x y H2)
  {α:Type} {Q:α->Shared->Prop} {f:Value->Value->Sem α}
  (hf:∀v u s2 x y H2,Inv X pins σ H2 s2->RelV x v->RelV y u->R x y H2->wpAny (model X.prog X.w) X.A (f v u) Q X.xe s2):
  wpAny (model X.prog X.w) X.A (eval a X.env) (λv s₁=>wpAny (model X.prog X.w) X.A (eval b X.env) (λu s₂=>wpAny (model X.prog X.w) X.A (f v u) Q X.xe s₂) X.xe s₁) X.xe s:=by
 refine thn (ha pins s σ H _ I h) λv s1 ⟨x,H1,I1,r1,q1⟩=>?_;refine thn (hb pins s1 σ H1 _ I1 q1) λu s2 ⟨y,H2,I2,r2,q2⟩=>?_;exact hf v u s2 x y H2 I2 r1 r2 q2
noncomputable def tVar (i:Nat):TE:=fun σ H Q=>∃v,σ[i]? =some (some v)/\Q v H
noncomputable def tC (v:V):TE:=λ_ H Q=>Q v H
theorem zqt {i:Nat}{x:Str}{pos:Pos}(hN:X.N[i]? =some x)(hv:Vis X.env.scope x)(hd:(x==("__debug__" :Str))=false:=by decide) (hcd:(x==("__classdict__" :Str))=false:=by decide):PE X (.Name x pos) (tVar i):=by
 intro pins s σ H Q I h;obtain⟨v,e,h⟩:=h;obtain⟨m,hn,hl⟩:=I.loc;obtain⟨u,r,l⟩:=hl i x v hN e hv;have fin:EP X pins σ Q u s:=⟨v,H,I,r,h⟩;rcases l with ⟨hk,hm⟩ | ⟨hk,c,hc,hcell⟩
 ·exact wpAny_Name (wpAny_loadName_local I.ok.kind hk hn hm fin) hd
 ·rcases hk with hk | hk
  ·exact wpAny_Name (wpAny_loadName_cell I.ok.kind hk hc hcell fin) hd
  ·exact wpAny_Name (wpAny_loadName_free I.ok.kind hk hc hcell fin hcd) hd
theorem zap {i j pos}:PE X (.Constant (.int i) j pos) (tC (.int i)):=λ_ _ _ H _ I h=>wpAny_Constant_int ⟨.int i,H,I.tok _,⟨_,rfl⟩,h⟩
theorem zmt {b j pos}:PE X (.Constant (.bool b) j pos) (tC (.bl b)):=λ_ _ _ H _ I h=>Constant_bool ⟨.bl b,H,I,rfl,h⟩
theorem zmJ {j pos}:PE X (.Constant .none j pos) (tC .non):=λ_ _ _ H _ I h=>Constant_none ⟨.non,H,I,rfl,h⟩
theorem zar {x j pos}:PE X (.Constant (.str x) j pos) (tC (.str x)):=λ_ _ _ H _ I h=>Calls.Constant_str ⟨.str x,H,I.tok _,⟨_,rfl⟩,h⟩
noncomputable def Gl (X:Cx)(x:Str):Prop:=X.env.kindOf x=some .globalImplicit
theorem zao {E:QC}{pins:QE}{s:Shared}{σ:St}{H:Hp}{x:Str}{u:Value}{pos:Pos}{Q:QC}(I:Inv X pins σ H s)(hg:Gl X x)(hm:X.mg x=some u)(h:Q u s)
  (hd:(x==("__debug__" :Str))=false:=by decide):wpAny (model X.prog X.w) X.A (eval (.Name x pos) X.env) Q E s:=
 Calls.Name_function_global I.ok.kind hg (Calls.loadGlobal_global (by rw[I.ok.glob];exact I.mod.glob.keeps I.bk) hm h) hd
theorem zbj {E:QC}{pins:QE}{s:Shared}{σ:St}{H:Hp}{x:Str}{u:Value}{pos:Pos}{Q:QC}(I:Inv X pins σ H s)(hg:Gl X x)(hm:X.mg x=none)(hv:bootBuiltins x=some u)(h:Q u s)
  (hn:x≠ "__name__" :=by decide) (hd:(x==("__debug__" :Str))=false:=by decide):wpAny (model X.prog X.w) X.A (eval (.Name x pos) X.env) Q E s:=by
 obtain⟨mb,h1,h2⟩:=I.mod.blt;exact Calls.Name_function_global I.ok.kind hg (Calls.loadGlobal_builtin (by rw[I.ok.glob];exact I.mod.glob.keeps I.bk) hm (by rw[I.ok.blt];exact h1.keeps I.bk) ((h2 x hn).trans hv) h) hd
theorem zjH {x:Str}{v:V}{u:Value}{pos:Pos}(hg:Gl X x)(hm:X.mg x=some u)(r:RelV v u)(hd:(x==("__debug__" :Str))=false:=by decide):PE X (.Name x pos) (tC v):=
 λ_ _ _ H _ I h=>zao I hg hm ⟨v,H,I,r,h⟩ hd
theorem zji {x:Str}{v:V}{u:Value}{pos:Pos}(hg:Gl X x)(hm:X.mg x=none)(hv:bootBuiltins x=some u)(r:RelV v u)(hn:x≠ "__name__" :=by decide) (hd:(x==("__debug__" :Str))=false:=by decide):PE X (.Name x pos) (tC v):=
 λ_ _ _ H _ I h=>zbj I hg hm hv ⟨v,H,I,r,h⟩ hn hd
variable {a b:Expr}{ta tb:TE}{pos:Pos}
noncomputable def PC (X:Cx)(op:CmpOp)(a b:Expr)(t:TE):Prop:=
 ∀(pins:QE) (s:Shared) (σ:St) (H:Hp) (Q:VK),Inv X pins σ H s->t σ H Q->
  wpAny (model X.prog X.w) X.A (eval a X.env) (λv s₁=>wpAny (model X.prog X.w) X.A (eval b X.env) (λu s₂=>wpAny (model X.prog X.w) X.A (compareOp op v u) (EP X pins σ Q) X.xe s₂) X.xe s₁) X.xe s
theorem zhq (b:Expr){op:CmpOp}(h:op≠ .In)(h2:op≠ .NotIn):behindInMarks op b=false:=by
 have e1:(op==CmpOp.In)=false:=by cases op <;> first | rfl | exact Je rfl h
 have e2:(op==CmpOp.NotIn)=false:=by cases op <;> first | rfl | exact Je rfl h2
 cases b <;> simp[behindInMarks,e1,e2]
noncomputable def tB (t:TE):TT:=fun σ H Q=>t σ H λx H1=>∃c,x=.bl c/\Q c H1
theorem zna {op:CmpOp}{t:TE}(h:PC X op a b t)(h1:behindInMarks op b=false:=by first | exact zhq _ (by decide) (by decide) | rfl):PE X (.Compare a [op] [b] pos) t:=λpins s σ H Q I hw=>wpAny_Compare1 (h pins s σ H Q I hw) h1
theorem zlC {op:CmpOp}{t:TE}(h:PC X op a b t)(h1:behindInMarks op b=false:=by first | exact zhq _ (by decide) (by decide) | rfl):PT X (.Compare a [op] [b] pos) (tB t):=by intro pins s σ H Q I hw;refine wpAny_isTrue_Compare1 (thn (h pins s σ H _ I hw) λv s1 h1=>thn h1 λu s2 h2=>thn h2 λc s3 ⟨x,H1,I1,r1,q1⟩=>?_) h1;obtain⟨d,rfl,q⟩:=q1;cases r1;exact wpAny_truthy_bool ⟨H1,I1,q⟩
theorem zbL {e:Expr}{t:TE}(h:PE X e t)(he:∀whole,isTrue e X.env whole=(do let v<-whole;standAt e.pos;holding [v] (truthy v)):=by intro _;rfl):PT X e (tB t):=by intro pins s σ H Q I hw;refine isTrue_plain (thn (h pins s σ H _ I hw) λv s1 ⟨x,H1,I1,r1,q1⟩=>?_) (he _);obtain⟨d,rfl,q⟩:=q1;cases r1;exact wpAny_truthy_bool ⟨H1,I1,q⟩
variable {tA tB':TT}{rest:List Expr}
noncomputable def tAnd (t u:TT):TT:=fun σ H Q=>t σ H λc H1=>if c=true then u σ H1 Q else Q false H1
noncomputable def tOr (t u:TT):TT:=fun σ H Q=>t σ H λc H1=>if c=true then Q true H1 else u σ H1 Q
noncomputable def tNot (t:TT):TT:=fun σ H Q=>t σ H λc H1=>Q (!c) H1
theorem zjo (ha:PT X a tA):PW X (.BoolOp .And [a] pos) tA:=by
 intro wh pins s σ H Q I h;refine isTrue_and (thn (ha pins s σ H Q I h) λc s1 e=>?_);cases c with
 | true=>exact isTrue_and_nil e
 | false=>exact e
theorem zaA (ha:PT X a tA):PW X (.BoolOp .Or [a] pos) tA:=by
 intro wh pins s σ H Q I h;refine isTrue_or (thn (ha pins s σ H Q I h) λc s1 e=>?_);cases c with
 | false=>exact isTrue_or_nil e
 | true=>exact e
theorem zik (ha:PT X a tA)(hb:PW X (.BoolOp .And (b::rest) pos) tB'):PW X (.BoolOp .And (a::b::rest) pos) (tAnd tA tB'):=by
 intro wh pins s σ H Q I h;refine isTrue_and (thn (ha pins s σ H _ I h) λc s1 ⟨H1,I1,q1⟩=>?_);cases c with
 | true=>exact hb wh pins s1 σ H1 Q I1 q1
 | false=>exact⟨H1,I1,q1⟩
theorem zaJ (ha:PT X a tA)(hb:PW X (.BoolOp .Or (b::rest) pos) tB'):PW X (.BoolOp .Or (a::b::rest) pos) (tOr tA tB'):=by
 intro wh pins s σ H Q I h;refine isTrue_or (thn (ha pins s σ H _ I h) λc s1 ⟨H1,I1,q1⟩=>?_);cases c with
 | true=>exact⟨H1,I1,q1⟩
 | false=>exact hb wh pins s1 σ H1 Q I1 q1
theorem zaN (ha:PT X a tA):PT X (.UnaryOp .Not a pos) (tNot tA):=by intro pins s σ H Q I h;exact isTrue_not (ha pins s σ H (λc H1=>Q (!c) H1) I h)
noncomputable def zsa (ta tb:TE):TE:=fun σ H Q=>ta σ H λx H1=>∃c,x=.bl c/\if c=true then tb σ H1 Q else Q (.bl false) H1
noncomputable def tOrV (ta tb:TE):TE:=fun σ H Q=>ta σ H λx H1=>∃c,x=.bl c/\if c=true then Q (.bl true) H1 else tb σ H1 Q
noncomputable def zrC (ta:TE):TE:=fun σ H Q=>ta σ H λx H1=>∃c,x=.bl c/\Q (.bl (!c)) H1
theorem zdn {op}{t:TE}(h:PE X a t):PE X (.BoolOp op [a] pos) t:=λpins s σ H Q I hw=>BoolOp_one (h pins s σ H Q I hw)
theorem zbV (ha:PE X a ta)(hb:PE X (.BoolOp .And (b::rest) pos) tb):PE X (.BoolOp .And (a::b::rest) pos) (zsa ta tb):=by
 intro pins s σ H Q I h;refine BoolOp_and (thn (ha pins s σ H _ I h) λv s1 ⟨x,H1,I1,r1,q1⟩=>?_);obtain⟨c,rfl,q1⟩:=q1;cases r1;refine wpAny_truthy_bool ?_;cases c with
 | true=>exact hb pins s1 σ H1 Q I1 q1
 | false=>exact⟨.bl false,H1,I1,rfl,q1⟩
theorem zr7 (ha:PE X a ta)(hb:PE X (.BoolOp .Or (b::rest) pos) tb):PE X (.BoolOp .Or (a::b::rest) pos) (tOrV ta tb):=by
 intro pins s σ H Q I h;refine BoolOp_or (thn (ha pins s σ H _ I h) λv s1 ⟨x,H1,I1,r1,q1⟩=>?_);obtain⟨c,rfl,q1⟩:=q1;cases r1;refine wpAny_truthy_bool ?_;cases c with
 | false=>exact hb pins s1 σ H1 Q I1 q1
 | true=>exact⟨.bl true,H1,I1,rfl,q1⟩
theorem zlR (ha:PE X a ta):PE X (.UnaryOp .Not a pos) (zrC ta):=by intro pins s σ H Q I h;refine UnaryOp_ (thn (ha pins s σ H _ I h) λv s1 ⟨x,H1,I1,r1,q1⟩=>?_);obtain⟨c,rfl,q1⟩:=q1;cases r1;exact not_of (wpAny_truthy_bool ⟨.bl (!c),H1,I1,rfl,q1⟩)
noncomputable def tIf (t:TT)(ta tb:TE):TE:=fun σ H Q=>t σ H λc H1=>if c=true then ta σ H1 Q else tb σ H1 Q
theorem zeC {c:Expr}(hc:PT X c tA)(ha:PE X a ta)(hb:PE X b tb):PE X (.IfExp c a b pos) (tIf tA ta tb):=by
 intro pins s σ H Q I h;refine wpAny_IfExp (thn (hc pins s σ H _ I h) λd s1 ⟨H1,I1,q1⟩=>?_);cases d with
 | true=>exact ha pins s1 σ H1 Q I1 q1
 | false=>exact hb pins s1 σ H1 Q I1 q1
end
end L2
namespace L2
open PySem PySem.Spec PyProof.Rows
noncomputable def SqL (K:QA)(H:Hp)(a:Addr)(xs:QQ):Prop:=
 Rd H a (.lst xs)\/
  ∃(o:Obj) (its:Array Value) (n:Nat),K.lookup a=some o/\o.cls=.type "list" /\o.dict=none/\o.data=.seq its n/\its.size<=sizeLine/\Vals xs its.toList
noncomputable def SqT (K:QA)(H:Hp)(a:Addr)(xs:QQ):Prop:=
 Rd H a (.tup xs)\/
  ∃(o:Obj) (its:Array Value) (n:Nat),K.lookup a=some o/\o.cls=.type "tuple" /\o.data=.seq its n/\its.size<=sizeLine/\Vals xs its.toList
noncomputable def absV:Value->Option V
 | .none=>some .non
 | .bool b=>some (.bl b)
 | .int i _=>some (.int i)
 | .str x _=>some (.str x)
 | .bytes b _=>some (.byt b)
 | .float b _=>some (.flt b)
 | .ref a=>some (.ref a)
 | .type n=>some (.ty n)
 | _=>none
theorem RelV.abs {x:V}{u:Value}(r:RelV x u):absV u=some x:=by
 cases x with
 | non=>cases r;rfl
 | bl _=>cases r;rfl
 | int _=>obtain⟨t,rfl⟩:=r;rfl
 | str _=>obtain⟨t,rfl⟩:=r;rfl
 | byt _=>obtain⟨t,rfl⟩:=r;rfl
 | flt _=>obtain⟨t,rfl⟩:=r;rfl
 | ref _=>cases r;rfl
 | ty _=>cases r;rfl
theorem RelV.inj {x y:V}{u:Value}(r:RelV x u)(q:RelV y u):x=y:=Option.some.inj (r.abs.symm.trans q.abs)
theorem Vals.inj:∀{xs ys:QQ} {us:QN},Vals xs us->Vals ys us->xs=ys
 | _,_,_,.nil,.nil=>rfl
 | _,_,_,.cons r t,.cons r' t'=>by rw[r.inj r',Vals.inj t t']
section
variable {X:Cx}{pins:QE}{σ:St}{H:Hp}{s:Shared}{a:Addr}{xs ys:QQ}
theorem SqL.of {K:QA}(h:H a=some (.lst xs)):SqL K H a xs:=.inl (.inl h)
theorem SqT.of {K:QA}(h:H a=some (.tup xs)):SqT K H a xs:=.inl (.inl h)
theorem Inv.list (I:Inv X pins σ H s)(h:SqL X.K H a xs):∃its:List Value,Vals xs its/\PlainL s.heap a its.toArray/\xs.length<=sizeLine:=by
 rcases h with h | ⟨o,its,n,hk,hc,hd,hs,hz,r⟩
 ·obtain⟨z,its,n,r,e⟩:=h.ok I.hok;exact⟨its,r,⟨_,n,e,rfl,rfl,rfl⟩,z⟩
 ·refine⟨its.toList,r,⟨o,n,I.kIn a o hk,hc,hd,by simpa using hs⟩,?_⟩;have e:=r.length;simp only[Array.length_toList] at e;omega
theorem Inv.tuple (I:Inv X pins σ H s)(h:SqT X.K H a xs):∃its:List Value,Vals xs its/\IsTup s.heap a its.toArray/\xs.length<=sizeLine:=by
 rcases h with h | ⟨o,its,n,hk,hc,hs,hz,r⟩
 ·obtain⟨z,its,r,p⟩:=h.ok I.hok;exact⟨its,r,p,z⟩
 ·refine⟨its.toList,r,⟨o,I.kIn a o hk,hc,n,by simpa using hs⟩,?_⟩;have e:=r.length;simp only[Array.length_toList] at e;omega
theorem Inv.list_inj (I:Inv X pins σ H s)(h:SqL X.K H a xs)(h':SqL X.K H a ys):xs=ys:=by
 obtain⟨its,r,⟨o,n,e,_,_,d⟩,_⟩:=I.list h;obtain⟨its',r',⟨o',n',e',_,_,d'⟩,_⟩:=I.list h';rw[e] at e';cases e';rw[d] at d';injection d' with d1 _
 have:its=its':=by simpa using congrArg Array.toList d1
 subst this;exact r.inj r'
theorem Inv.tuple_inj (I:Inv X pins σ H s)(h:SqT X.K H a xs)(h':SqT X.K H a ys):xs=ys:=by
 obtain⟨its,r,⟨o,e,_,n,d⟩,_⟩:=I.tuple h;obtain⟨its',r',⟨o',e',_,n',d'⟩,_⟩:=I.tuple h';rw[e] at e';cases e';rw[d] at d';injection d' with d1 _
 have:its=its':=by simpa using congrArg Array.toList d1
 subst this;exact r.inj r'
end
noncomputable abbrev Cx.wish (X:Cx)(E:QC):Cx:={X with xe:=E}
noncomputable abbrev Cx.nox (X:Cx):Cx:=X.wish λ_ _=>False
theorem Cx.Ok.wish {X:Cx}(ok:X.Ok)(E:QC):(X.wish E).Ok:=
 ⟨ok.mod,ok.kind,ok.glob,ok.blt,ok.above,ok.inj,ok.has,ok.cab,ok.hd,ok.frames,ok.stk,ok.exf,ok.bs,ok.bsz,ok.noex,ok.exfs,ok.funs,ok.frf⟩
theorem Cx.Ok.unwish {X:Cx}{E:QC}(ok:(X.wish E).Ok):X.Ok:=
 ⟨ok.mod,ok.kind,ok.glob,ok.blt,ok.above,ok.inj,ok.has,ok.cab,ok.hd,ok.frames,ok.stk,ok.exf,ok.bs,ok.bsz,ok.noex,ok.exfs,ok.funs,ok.frf⟩
section
variable {X:Cx}{pins:QE}{σ:St}{H:Hp}{s:Shared}{E:QC}
theorem Inv.wish (I:Inv X pins σ H s)(E:QC):Inv (X.wish E) pins σ H s:=⟨I.ok.wish E,I.os,I.bare,I.base,I.loc,I.cell,I.free,I.freeC,I.pin,I.hok,I.len⟩
theorem Inv.unwish (I:Inv (X.wish E) pins σ H s):Inv X pins σ H s:=⟨I.ok.unwish,I.os,I.bare,I.base,I.loc,I.cell,I.free,I.freeC,I.pin,I.hok,I.len⟩
theorem SP.unwish {D:Ends}{f:Flow}{s':Shared}(h:SP (X.wish E) pins D f s'):SP X pins D f s':=by
 cases f with
 | next=>obtain⟨σ',H',I,q⟩:=h;exact⟨σ',H',I.unwish,q⟩
 | brk=>obtain⟨σ',H',I,q⟩:=h;exact⟨σ',H',I.unwish,q⟩
 | cont=>obtain⟨σ',H',I,q⟩:=h;exact⟨σ',H',I.unwish,q⟩
 | ret u=>obtain⟨v,σ',H',I,r,q⟩:=h;exact⟨v,σ',H',I.unwish,r,q⟩
theorem PSs.nox {st:List Stmt}{t:TS}(h:PSs X.nox st t):PSs X st t:=λpins s σ H D I hw=>
 wpAny_mono (h pins s σ H D (I.wish _) hw) (λ_ _ q=>q.unwish) λ_ _ z=>False.elim z
end
section
variable {X:Cx}{st:Stmt}{rest:List Stmt}{t u:TS}{e:Expr}{te:TE}{pos:Pos}
noncomputable def zmR:TS:=λD σ H=>D.nx σ H
noncomputable def tSeq (t u:TS):TS:=λD σ H=>t {D with nx:=u D} σ H
theorem zy:PSs X [] zmR:=λ_ _ σ H _ I h=>wpAny_execs_nil ⟨σ,H,I,h⟩
theorem zc (h1:PS X st t)(h2:PSs X rest u):PSs X (st::rest) (tSeq t u):=by
 intro pins s σ H D I h;refine wpAny_execs_cons (thn (h1 pins s σ H {D with nx:=u D} I h) λf s1 q=>?_);cases f with
 | next=>obtain⟨σ',H',I',q⟩:=q;exact h2 pins s1 σ' H' D I' q
 | ret v=>exact q
 | brk=>exact q
 | cont=>exact q
theorem zm (h1:PS X st t):PSs X [st] t:=by
 intro pins s σ H D I h;refine wpAny_execs_cons (thn (h1 pins s σ H D I h) λf s1 q=>?_);cases f with
 | next=>exact wpAny_execs_nil q
 | ret v=>exact q
 | brk=>exact q
 | cont=>exact q
theorem Inv.quiet {pins:QE}{σ:St}{H:Hp}{s:Shared}(I:Inv X pins σ H s):interactive X.env=false:=by simp[interactive,I.ok.kind]
noncomputable def zrN (te:TE):TS:=λD σ H=>te σ H λ_ H1=>D.nx σ H1
theorem zgQ (he:PE X e te)(hs:swapsWith e none pos.line X.env=pure false:=by rfl):PS X (.Expr e pos) (zrN te):=by intro pins s σ H D I h;exact wpAny_Expr_any (thn (he pins s σ H _ I h) λv s1 ⟨x,H1,I1,r1,q1⟩=>⟨σ,H1,I1,q1⟩) I.quiet hs
noncomputable def tRet (te:TE):TS:=λD σ H=>te σ H D.rt
theorem zZ (he:PE X e te):PS X (.Return (some e) pos) (tRet te):=by intro pins s σ H D I h;exact wpAny_Return_some (thn (he pins s σ H _ I h) λv s1 ⟨x,H1,I1,r1,q1⟩=>⟨x,σ,H1,I1,r1,q1⟩)
noncomputable def tIfS (c:TT)(t u:TS):TS:=λD σ H=>c σ H λb H1=>if b=true then t D σ H1 else u D σ H1
theorem zV {c:Expr}{a b:List Stmt}{tc:TT}(hc:PT X c tc)(ha:PSs X a t)(hb:PSs X b u):PS X (.If c a b pos) (tIfS tc t u):=by
 intro pins s σ H D I h;refine wpAny_If (thn (hc pins s σ H _ I h) λd s1 ⟨H1,I1,q1⟩=>?_);cases d with
 | true=>exact ha pins s1 σ H1 D I1 q1
 | false=>exact hb pins s1 σ H1 D I1 q1
noncomputable def zqX:TS:=λ_ _ _=>False
theorem zkO {sts:List Stmt}:PSs X sts zqX:=λ_ _ _ _ _ _ h=>h.elim
end
noncomputable abbrev TG:=V->St->Hp->(St->Hp->Prop)->Prop
noncomputable abbrev TGs:=List V->St->Hp->(St->Hp->Prop)->Prop
noncomputable def PG (X:Cx)(target:Expr)(t:TG):Prop:=
 ∀(pins:QE) (s:Shared) (σ:St) (H:Hp) (v:V) (u:Value) (Q:St->Hp->Prop),Inv X pins σ H s->RelV v u->t v σ H Q->
  wpAny (model X.prog X.w) X.A (assign target X.env u) (λ_ s'=>∃σ' H',Inv X pins σ' H' s'/\Q σ' H') X.xe s
noncomputable def PGs (X:Cx)(ts:List Expr)(t:TGs):Prop:=
 ∀(pins:QE) (s:Shared) (σ:St) (H:Hp) (vs:QQ) (us:QN) (Q:St->Hp->Prop),Inv X pins σ H s->Vals vs us->t vs σ H Q->
  wpAny (model X.prog X.w) X.A (assignInOrder ((assignEach ts X.env).map (·.2)) us) (λ_ s'=>∃σ' H',Inv X pins σ' H' s'/\Q σ' H') X.xe s
noncomputable abbrev TSet:=V->V->V->Hp->(Hp->Prop)->Prop
noncomputable def PSet (X:Cx)(t:TSet):Prop:=
 ∀(pins:QE) (s:Shared) (σ:St) (H:Hp) (o i v:V) (ov iv u:Value) (Q:Hp->Prop),Inv X pins σ H s->RelV o ov->RelV i iv->RelV v u->t o i v H Q->
  wpAny (model X.prog X.w) X.A (setItem ov iv u) (λ_ s'=>∃H',Inv X pins σ H' s'/\Q H') X.xe s
section
variable {X:Cx}{pos:Pos}
noncomputable def za5 (i:Nat):TG:=λv σ H Q=>Q (σ.set i (some v)) H
theorem zcg {i:Nat}{x:Str}(hN:X.N.Nodup)(hi:X.N[i]? =some x)(hx:Loc X.env.scope x)(hf:X.fn x=true\/X.env.scope.names.lookup x=some .local:=by first | exact .inl rfl | exact .inr rfl | assumption):PG X (.Name x pos) (za5 i):=by intro pins s σ H v u Q I r h;exact wpAny_assign_Name (zcQ I hN hi hx r (λs' I'=>⟨_,H,I',h⟩) hf)
noncomputable def gNil:TGs:=λvs σ H Q=>vs=[]/\Q σ H
noncomputable def zhW (t:TG)(u:TGs):TGs:=λvs σ H Q=>∃v r,vs=v::r/\t v σ H fun σ' H'=>u r σ' H' Q
theorem zjy:PGs X [] gNil:=by intro pins s σ H vs us Q I r h;obtain⟨e,h⟩:=h;subst e;cases r;exact assignInOrder_nil ⟨σ,H,I,h⟩
theorem ze5 {e:Expr}{es:List Expr}{t:TG}{u:TGs}(h1:PG X e t)(h2:PGs X es u)
  (hs:(assignEach (e::es) X.env).map (·.2)=assign e X.env::(assignEach es X.env).map (·.2):=by rfl):PGs X (e::es) (zhW t u):=by
 intro pins s σ H vs us Q I r h;obtain⟨v,vr,e1,h⟩:=h;subst e1;cases r with
 | cons r rr=>rw[hs];refine assignInOrder_cons (thn (h1 pins s σ H _ _ _ I r h) λ_ s1 ⟨σ1,H1,I1,q1⟩=>?_);exact h2 pins s1 σ1 H1 _ _ Q I1 rr q1
noncomputable def gTup (K:QA)(n:Nat)(t:TGs):TG:=λv σ H Q=>∃a xs,v=.ref a/\SqT K H a xs/\xs.length=n/\t xs σ H Q
theorem zmu {es:List Expr}{k:Nat}{t:TGs}{n:Nat}(hc:X.calm=true)(h:PGs X es t)
  (hn:(assignEach es X.env).length=n:=by rfl) (hst:(assignEach es X.env).findIdx? (·.1)=none:=by rfl):PG X (.Tuple es k pos) (gTup X.K n t):=by
 intro pins s σ H v u Q I r hw;obtain⟨a,xs,e1,hq,hl,hw⟩:=hw;subst e1;cases r;obtain⟨its,rv,ht,hz⟩:=I.tuple hq;refine assign_Tuple_tuple (I.ok.hd hc) ht (by simp[hn,<-hl,rv.length]) hst λh' hx=>?_;have I1:Inv X pins σ H {s with heap:=h'}:=I.kept (t':=s.toks) λb o e=>hx b o (Jg (Heap.lt_size e)) e;exact h pins _ σ H xs _ Q I1 (by simpa using rv) hw
noncomputable def gSub (to ti:TE)(t:TSet):TG:=λv σ H Q=>to σ H λo H1=>ti σ H1 λi H2=>t o i v H2 λH3=>Q σ H3
noncomputable abbrev _root_.Ja:=@wpAny_bind
theorem zqk {o i:Expr}{to ti:TE}{t:TSet}(ho:PE X o to)(hi:PE X i ti)(hs:PSet X t)
  (ha:∀v,assign (.Subscript o i pos) X.env v=(do
   let ov<-holding [v] (eval o X.env)
   let iv<-holding [v,ov] (eval i X.env)
   standAt pos
   holding [v,ov,iv] (setItem ov iv v)
   release [v,ov,iv] []):=by intro _;rfl):PG X (.Subscript o i pos) (gSub to ti t):=by
 intro pins s σ H v u Q I r h;rw[ha];refine Ja (wpAny_holding (thn (ho pins s σ H _ I h) λov s1 ⟨x,H1,I1,r1,q1⟩=>?_));refine Ja (wpAny_holding (thn (hi pins s1 σ H1 _ I1 q1) λiv s2 ⟨y,H2,I2,r2,q2⟩=>?_));refine Ja (wpAny_standAt (Ja (wpAny_holding (thn (hs pins s2 σ H2 x y v ov iv u _ I2 r1 r2 r q2) λ_ s3 ⟨H3,I3,q3⟩=>?_))));exact wpAny_release ⟨σ,H3,I3,q3⟩
noncomputable def tAsg (te:TE)(g:TG):TS:=λD σ H=>te σ H λx H1=>g x σ H1 D.nx
theorem zqs {tg e:Expr}{te:TE}{g:TG}(he:PE X e te)(hg:PG X tg g)(hs:swapsWithSole [tg] e pos.line X.env=pure false:=by rfl)(hw:swappedStores [tg] e X.env=pure none:=by rfl)
  (h1:(assignEach [tg] X.env).map (·.2)=[assign tg X.env]:=by rfl):PS X (.Assign [tg] e pos) (tAsg te g):=by
 intro pins s σ H D I h;refine wpAny_Assign_stores (thn (he pins s σ H _ I h) λv s1 ⟨x,H1,I1,r1,q1⟩=>?_) hs hw;rw[h1];exact thn (hg pins s1 σ H1 x v _ I1 r1 q1) λ_ s2 q=>q
theorem zmH {i:Nat}{x:Str}{e:Expr}{te:TE}{pos':Pos}(hN:X.N.Nodup)(hi:X.N[i]? =some x)(hx:Loc X.env.scope x)(he:PE X e te)(hs:swapsWith e (some (.Name x pos')) pos.line X.env=pure false:=by rfl)(hf:X.fn x=true\/X.env.scope.names.lookup x=some .local:=by first | exact .inl rfl | exact .inr rfl | assumption):
  PS X (.Assign [.Name x pos'] e pos) (tAsg te (za5 i)):=by
 intro pins s σ H D I h;refine wpAny_Assign_Name (thn (he pins s σ H _ I h) λv s1 ⟨y,H1,I1,r1,q1⟩=>?_) hs;exact zcQ I1 hN hi hx r1 (λs2 I2=>⟨_,H1,I2,q1⟩) hf
end
section
variable {X:Cx}{pos:Pos}
noncomputable def zq1 (c:TT)(tb:TS):TS:=λD σ H=>∃W:Nat->St->Hp->Prop,(∃m,W m σ H)/\∀m σ H,W m σ H->
 c σ H λb H1=>if b=true then∃N:St->Hp->Prop,(∀σ' H',N σ' H'->∃m',m' < m/\W m' σ' H')/\tb {D with nx:=N,ct:=N,bk:=D.nx} σ H1 else D.nx σ H1
noncomputable abbrev _root_.Jc:=@Bool.false_ne_true
theorem zlX {c:Expr}{body:List Stmt}{tc:TT}{tb:TS}(hp:PassesOwn (model X.prog X.w) X.A X.env X.xe)(hc:PT X c tc)(hb:PSs X body tb):PS X (.While c body [] pos) (zq1 tc tb):=by
 intro pins s σ H D I h;obtain⟨W,⟨m0,w0⟩,turn⟩:=h;refine wpAny_While (codeAny_whileLoop (λn s'=>∃σ' H',Inv X pins σ' H' s'/\W n σ' H') ?_ m0 ⟨σ,H,I,w0⟩);rintro n s1 ⟨σ1,H1,I1,w1⟩;refine wpAny_passesOwn hp (thn (hc pins s1 σ1 H1 _ I1 (turn n σ1 H1 w1)) λb s2 ⟨H2,I2,q2⟩=>?_);cases b with
 | true=>
  obtain⟨N,hN,q2⟩:=q2;rw[if_pos rfl];refine wpAny_passesOwn hp (thn (hb pins s2 σ1 H2 _ I2 q2) λf s3 q3=>?_);cases f with
  | next=>obtain⟨σ3,H3,I3,n3⟩:=q3;obtain⟨m',hm,w3⟩:=hN σ3 H3 n3;exact⟨m',hm,σ3,H3,I3,w3⟩
  | cont=>obtain⟨σ3,H3,I3,n3⟩:=q3;obtain⟨m',hm,w3⟩:=hN σ3 H3 n3;exact⟨m',hm,σ3,H3,I3,w3⟩
  | brk=>exact q3
  | ret v=>exact q3
 | false=>rw[if_neg Jc];exact wpAny_execs_nil ⟨σ1,H2,I2,q2⟩
end
structure It where
 go:Nat->Hp->Prop
 yld:Nat->Hp->V->Hp->Prop
 stop:Nat->Hp->Prop
noncomputable def FpOk (X:Cx)(pins:QE)(H:Hp)(b:Addr):Prop:=
 H b=none/\b≠X.env.locals/\b∉X.fs/\(b∈X.ex\/X.s₀.heap.objs.size<=b)/\(∀x c,X.env.cells.lookup x=some c->c≠b)/\∀p∈X.pn++pins,p.1≠b
theorem Inv.fpOk {X:Cx}{pins:QE}{σ:St}{H H':Hp}{s:Shared}{b:Addr}(I:Inv X pins σ H s)(hb:s.heap.objs.size<=b)(hn:H' b=none):FpOk X pins H' b:=by
 refine⟨hn,Nat.ne_of_gt (Jd I.lt hb),I.nofs hb,.inr (Ji I.sz hb),λx c e z=>?_,λp hp z=>?_⟩
 ·obtain⟨v,q⟩:=I.cell x c e;exact Je (Jd q.lt (by rw[z];exact hb)) (Jp _)
 ·exact Je (Jd (Heap.lt_size (I.pin p hp).1) (by rw[z];exact hb)) (Jp _)
structure Turn (P:Program)(w:World)(K:QA)(tg:Expr)(J:It)(fp:QO)(it:Addr)(tn:Nat->Heap->Prop):Prop where
 mem:it∈fp
 obj:∀i h,tn i h->∀b∈fp,∃o,h.get? b=some o/\∀v,o.data≠ .cell v
 keep:∀i h h',tn i h->(∀b∈fp,∀o,h.get? b=some o->h'.get? b=some o)->tn i h'
 item:∀(X:Cx),X.prog=P->X.w=w->X.K=K->X.calm=true->∀(i:Nat) (pins:QE) (s:Shared) (σ:St) (H:Hp) (E:QC),Inv X pins σ H s->(∀b∈fp,FpOk X pins H b)->tn i s.heap->J.go i H->
  wpAny (model P w) X.A (pyNext (.ref it)) (λr s1=>∃u,r=some u/\
   wpAny (model P w) X.A (letOwnedTupleGo tg (.ref it) u) (λ_ s2=>∃x H',Inv X pins σ H' s2/\RelV x u/\J.yld i H x H'/\tn (i+1) s2.heap/\∀b∈fp,H' b=none) E s1) E s
 done:∀(X:Cx),X.prog=P->X.w=w->X.K=K->X.calm=true->∀(i:Nat) (pins:QE) (s:Shared) (σ:St) (H:Hp) (E:QC),Inv X pins σ H s->(∀b∈fp,FpOk X pins H b)->tn i s.heap->J.stop i H->
  wpAny (model P w) X.A (pyNext (.ref it)) (λr s1=>r=none/\Inv X pins σ H s1) E s
 self:∀(A:Around) (i:Nat) (s:Shared) (Q:QC) (E:QC),tn i s.heap->Q (.ref it) s->wpAny (model P w) A (pyIter (.ref it)) Q E s
noncomputable abbrev TI:=St->Hp->(It->Hp->Prop)->Prop
noncomputable def PIE (X:Cx)(pins:QE)(σ:St)(tg:Expr)(R:It->Hp->Prop)(itv:Value)(s2:Shared):Prop:=
 ∃(it:Addr) (fp:QO) (tn:Nat->Heap->Prop) (J:It) (H':Hp),itv=.ref it/\Inv X pins σ H' s2/\Turn X.prog X.w X.K tg J fp it tn/\tn 0 s2.heap/\(∀b∈fp,FpOk X pins H' b)/\R J H'
noncomputable def PI (X:Cx)(tg iter:Expr)(wi:TI):Prop:=
 ∀(pins:QE) (s:Shared) (σ:St) (H:Hp) (R:It->Hp->Prop),Inv X pins σ H s->wi σ H R->
  wpAny (model X.prog X.w) X.A (eval iter X.env) (λv s1=>wpAny (model X.prog X.w) X.A (pyIter v) (PIE X pins σ tg R) X.xe s1) X.xe s
theorem zft {M:Model}{A:Around}{E:QC}{s:Shared}{tg:Expr}{it:Addr}{u:Value}{o:Obj}{n:String}{vs:Array Value}{Q:QD}(ho:s.heap.get? it=some o)(hc:o.cls=.type n)(hd:o.data=.fields vs)
  (hn:["enumerate","zip","dict_itemiterator","dict_reverseitemiterator","odict_iterator","itertools.zip_longest","itertools.pairwise"].contains n=false) (hQ:Q () s):wpAny M A (letOwnedTupleGo tg (.ref it) u) Q E s:=by
 unfold letOwnedTupleGo;cases tg <;> first
  | exact wpAny_pure hQ
  | (cases u <;> first
    | exact wpAny_pure hQ
    | (refine Ja (wpAny_load ho ?_)
       rw[hc,hd];show wpAny M A (if (["enumerate","zip","dict_itemiterator","dict_reverseitemiterator","odict_iterator","itertools.zip_longest","itertools.pairwise"].contains n && vs[0]? ==some (rawInt _))=true then _ else _) Q E s;rw[if_neg (by intro h;rw[hn,Bool.false_and] at h;cases h)];exact wpAny_pure hQ))
noncomputable def Itl (K:QA)(a:Addr):It:=
 ⟨λi H=>∃xs x,SqL K H a xs/\xs[i]? =some x,λi H x H'=>H'=H/\∀xs,SqL K H a xs->xs[i]? =some x,λi H=>∃xs,SqL K H a xs/\xs.length<=i⟩
noncomputable def Itt (K:QA)(a:Addr):It:=
 ⟨λi H=>∃xs x,SqT K H a xs/\xs[i]? =some x,λi H x H'=>H'=H/\∀xs,SqT K H a xs->xs[i]? =some x,λi H=>∃xs,SqT K H a xs/\xs.length<=i⟩
noncomputable def Itr (lo:Int)(n:Nat):It:=⟨λi _=>i < n,λi H x H'=>H'=H/\x=.int (lo+i),λi _=>n<=i⟩
theorem zk5 {P:Program}{w:World}{K:QA}{tg:Expr}(a it:Addr):Turn P w K tg (Itl K a) [it] it (λi h=>h.IsListIter it a i) where
 mem:=by simp
 obj:=λi h st b hb=>by
  have e:b=it:=by simpa using hb
  subst e;obtain⟨o,e,c,d⟩:=st;exact⟨o,e,λv z=>by rw[d] at z;cases z⟩
 keep:=λi h h' st k=>st.at λo e=>k it (by simp) o e
 item:=by intro X hP hw hK hc i pins s σ H E I hf st hg;subst hP hw hK;obtain⟨xs,x,hq,hx⟩:=hg;obtain⟨its,rv,p,hz⟩:=I.list hq;obtain⟨u,hu,ru⟩:=rv.get hx;obtain⟨f0,f1,f2,f3,f4,f5⟩:=hf it (by simp);refine wpAny_pyNext_list_item st p.isList (x:=u) (by simpa using hu) λh' st' sb=>?_;have I1:Inv X pins σ H {s with heap:=h'}:=I.turned (t':=s.toks) (λb o hb e=>(sb.2 b hb).trans e) f0 f1 f3 f4 f5;obtain⟨o,e,c,d⟩:=id st';exact⟨u,rfl,zft (s:={s with heap:=h'}) e c d (by decide) ⟨x,H,I1,ru,⟨rfl,λys hy=>by rw[I.list_inj hy hq];exact hx⟩,st',λb hb=>(hf b hb).1⟩⟩
 done:=by intro X hP hw hK hc i pins s σ H E I hf st hg;subst hP hw hK;obtain⟨xs,hq,hx⟩:=hg;obtain⟨its,rv,p,hz⟩:=I.list hq;obtain⟨f0,f1,f2,f3,f4,f5⟩:=hf it (by simp);have hl:=rv.length;exact wpAny_pyNext_list_end (I.ok.hd hc) st p.isList (by simp;omega) λh' eb=>⟨rfl,I.turned (t':=s.toks) (λb o hb e=>eb b o hb e) f0 f1 f3 f4 f5⟩
 self:=λ_ _ _ _ _ st h=>wpAny_pyIter_listiter st h
theorem zir {P:Program}{w:World}{K:QA}{tg:Expr}(a it:Addr):Turn P w K tg (Itt K a) [it] it (λi h=>h.IsTupleIter it a i) where
 mem:=by simp
 obj:=λi h st b hb=>by
  have e:b=it:=by simpa using hb
  subst e;obtain⟨o,e,c,d⟩:=st;exact⟨o,e,λv z=>by rw[d] at z;cases z⟩
 keep:=λi h h' st k=>st.at λo e=>k it (by simp) o e
 item:=by intro X hP hw hK hc i pins s σ H E I hf st hg;subst hP hw hK;obtain⟨xs,x,hq,hx⟩:=hg;obtain⟨its,rv,p,hz⟩:=I.tuple hq;obtain⟨u,hu,ru⟩:=rv.get hx;obtain⟨f0,f1,f2,f3,f4,f5⟩:=hf it (by simp);refine wpAny_pyNext_tuple_item st (show s.heap.IsTuple a its.toArray from p) (x:=u) (by simpa using hu) λh' st' sb=>?_;have I1:Inv X pins σ H {s with heap:=h'}:=I.turned (t':=s.toks) (λb o hb e=>(sb.2 b hb).trans e) f0 f1 f3 f4 f5;obtain⟨o,e,c,d⟩:=id st';exact⟨u,rfl,zft (s:={s with heap:=h'}) e c d (by decide) ⟨x,H,I1,ru,⟨rfl,λys hy=>by rw[I.tuple_inj hy hq];exact hx⟩,st',λb hb=>(hf b hb).1⟩⟩
 done:=by intro X hP hw hK hc i pins s σ H E I hf st hg;subst hP hw hK;obtain⟨xs,hq,hx⟩:=hg;obtain⟨its,rv,p,hz⟩:=I.tuple hq;obtain⟨f0,f1,f2,f3,f4,f5⟩:=hf it (by simp);have hl:=rv.length;exact wpAny_pyNext_tuple_end (I.ok.hd hc) st (show s.heap.IsTuple a its.toArray from p) (by simp;omega) λh' eb=>⟨rfl,I.turned (t':=s.toks) (λb o hb e=>eb b o hb e) f0 f1 f3 f4 f5⟩
 self:=λ_ _ _ _ _ st h=>wpAny_pyIter_tupleiter st h
theorem zio {P:Program}{w:World}{K:QA}{tg:Expr}(it:Addr)(lo:Int)(n:Nat):Turn P w K tg (Itr lo n) [it] it (λi h=>IsRangeIter h it (lo+(i:Nat) * 1) ((n:Int) - (i:Nat)) 1) where
 mem:=by simp
 obj:=λi h st b hb=>by
  have e:b=it:=by simpa using hb
  subst e;exact⟨_,st,λv z=>by
   have z':Data.fields _=Data.cell v:=z;cases z'⟩
 keep:=λi h h' st k=>k it (by simp) _ st
 item:=by intro X hP hw hK hc i pins s σ H E I hf st hg;subst hP hw hK;obtain⟨f0,f1,f2,f3,f4,f5⟩:=hf it (by simp);have W:=Walks.range (prog:=X.prog) (w:=X.w) (I.ok.hd hc) it lo 1 n;refine W.item i s _ _ hg st λv h' tk hv st' kk=>?_;obtain⟨t,rfl⟩:=hv;have I1:Inv X pins σ H {s with heap:=h',toks:=tk}:=I.turned (λb o hb e=>kk b o (by simpa using hb) e) f0 f1 f3 f4 f5;refine⟨_,rfl,zft (s:={s with heap:=h',toks:=tk}) (n:= "range_iterator") st' rfl rfl (by decide) ⟨.int (lo+i),H,I1,⟨t,?_⟩,⟨rfl,rfl⟩,st',λb hb=>(hf b hb).1⟩⟩;rw[Int.mul_one]
 done:=by intro X hP hw hK hc i pins s σ H E I hf st hg;subst hP hw hK;obtain⟨f0,f1,f2,f3,f4,f5⟩:=hf it (by simp);exact wpAny_pyNext_range_end (I.ok.hd hc) st (by have:n<=i:=hg;omega) λh' eb=>⟨rfl,I.turned (t':=s.toks) (λb o hb e=>eb b o hb e) f0 f1 f3 f4 f5⟩
 self:=λ_ _ _ _ _ st h=>wpAny_pyIter_rangeiter st h
end L2
namespace L2
open PySem PySem.Spec PyProof.Rows
section
variable {X:Cx}{tg:Expr}
noncomputable def zrL (K:QA)(tl:TE):TI:=fun σ H R=>tl σ H λx H1=>∃a,x=.ref a/\(∃xs,SqL K H1 a xs)/\R (Itl K a) H1
noncomputable def iTup (K:QA)(tl:TE):TI:=fun σ H R=>tl σ H λx H1=>∃a,x=.ref a/\(∃xs,SqT K H1 a xs)/\R (Itt K a) H1
noncomputable abbrev _root_.Jb:=@Nat.le_refl
theorem zor {l:Expr}{tl:TE}(hl:PE X l tl):PI X tg l (zrL X.K tl):=by
 intro pins s σ H R I h;refine thn (hl pins s σ H _ I h) λv s1 ⟨x,H1,I1,r1,q1⟩=>?_;obtain⟨a,e,⟨xs,hq⟩,q⟩:=q1;subst e;cases r1;obtain⟨its,rv,p,hz⟩:=I1.list hq;refine wpAny_pyIter_list p.isList ?_;refine⟨s1.heap.objs.size,[s1.heap.objs.size],_,_,H1,rfl,I1.kept (t':=s1.toks) λb o e=>Heap.get?_push_of_some _ e,zk5 a _,⟨_,Heap.get?_push_size _ rfl,rfl,rfl⟩,λb hb=>?_,q⟩;have e:b=s1.heap.objs.size:=by simpa using hb
 subst e;exact I1.fpOk (Jb _) (I1.hok.fresh (Jb _))
theorem zgK {l:Expr}{tl:TE}(hl:PE X l tl):PI X tg l (iTup X.K tl):=by
 intro pins s σ H R I h;refine thn (hl pins s σ H _ I h) λv s1 ⟨x,H1,I1,r1,q1⟩=>?_;obtain⟨a,e,⟨xs,hq⟩,q⟩:=q1;subst e;cases r1;obtain⟨its,rv,p,hz⟩:=I1.tuple hq;refine wpAny_pyIter_tuple (show s1.heap.IsTuple a its.toArray from p) ?_;refine⟨s1.heap.objs.size,[s1.heap.objs.size],_,_,H1,rfl,I1.kept (t':=s1.toks) λb o e=>Heap.get?_push_of_some _ e,zir a _,⟨_,Heap.get?_push_size _ rfl,rfl,rfl⟩,λb hb=>?_,q⟩;have e:b=s1.heap.objs.size:=by simpa using hb
 subst e;exact I1.fpOk (Jb _) (I1.hok.fresh (Jb _))
theorem zlZ {pins:QE}{σ:St}{H:Hp}{s:Shared}{R:It->Hp->Prop}{E:QC}{lo hi:Int}{t u v:Tok}{tk:Nat}(I:Inv X pins σ H s)(h1: -(2 ^ 62)<=lo)(h2:lo < 2 ^ 62)(h3: -(2 ^ 62)<=hi)(h4:hi < 2 ^ 62)
  (q:R (Itr lo (hi - lo).toNat) H):wpAny (model X.prog X.w) X.A (pyIter (.ref s.heap.objs.size)) (PIE X pins σ tg R) E {s with heap:=s.heap.push {cls:=.type "range",data:=.fields #[.int lo t,.int hi u,.int 1 v]},toks:=tk}:=by
 refine wpAny_pyIter_range (IsRange.new ..) (small_one h1 h2 h3 h4) ?_;have I1:Inv X pins σ H {s with heap:=s.heap.push {cls:=.type "range",data:=.fields #[.int lo t,.int hi u,.int 1 v]},toks:=tk}:=I.kept λb o e=>Heap.get?_push_of_some _ e;refine⟨(s.heap.push {cls:=.type "range",data:=.fields #[.int lo t,.int hi u,.int 1 v]}).objs.size,[(s.heap.push {cls:=.type "range",data:=.fields #[.int lo t,.int hi u,.int 1 v]}).objs.size],_,_,H,rfl,
  I1.kept (t':=tk) λb o e=>Heap.get?_push_of_some _ e,zio _ lo (hi - lo).toNat,?_,λb hb=>?_,q⟩
 ·have e1:lo+((0:Nat):Int) * 1=lo:=by simp
  have e2:(((hi - lo).toNat:Nat):Int) - ((0:Nat):Int)=Builtin.Range.rangeSize lo hi 1:=by rw[rangeSize_one];split <;> omega
  show IsRangeIter _ _ (lo+((0:Nat):Int) * 1) ((((hi - lo).toNat:Nat):Int) - ((0:Nat):Int)) 1;rw[e1,e2];exact Heap.get?_push_size _ rfl
 ·have e:b=(s.heap.push {cls:=.type "range",data:=.fields #[.int lo t,.int hi u,.int 1 v]}).objs.size:=by simpa using hb
  subst e;exact I1.fpOk (Jb _) (I1.hok.fresh (Jb _))
noncomputable def zse (ta:TA):TI:=fun σ H R=>ta σ H λvs H1=>∃j:Int,vs=[.int j]/\ -(2 ^ 62)<=j/\j < 2 ^ 62/\R (Itr 0 j.toNat) H1
theorem zkT {a:Expr}{ta:TA}{p pos:Pos}(hg:Gl X "range") (hm:X.mg "range" =none) (ha:PA X [a] ta) (hs:starEach [a] X.env=[(false,eval a X.env)]:=by rfl):PI X tg (.Call (.Name "range" p) [a] [] pos) (zse ta):=by
 intro pins s σ H R I h;refine Call_ (zbj I hg hm boot_range (PyProof.Rows.callWith_type1 (thn (ha pos pins s σ H _ I h) λus s1 ⟨vs,H1,I1,r1,q1⟩=>?_) hs rfl));obtain⟨j,e,q1,q2,q⟩:=q1;subst e;cases r1 with
 | cons r rr=>cases rr;obtain⟨t,rfl⟩:=r;exact call_range_1 (zlZ I1 (by omega) (by omega) q1 q2 (by simpa using q))
noncomputable def tFor (wi:TI)(g:TG)(tb:TS):TS:=λD σ H=>wi σ H λJ H1=>∃W:Nat->Nat->St->Hp->Prop,(∃m,W 0 m σ H1)/\∀i m σ H,W i m σ H->
 (J.stop i H/\D.nx σ H)\/(J.go i H/\∃N:St->Hp->Prop,(∀σ' H',N σ' H'->∃m',m' < m/\W (i+1) m' σ' H')/\∀x H',J.yld i H x H'->g x σ H' fun σ2 H2=>tb {D with nx:=N,ct:=N,bk:=D.nx} σ2 H2)
noncomputable def zeo (fp:QO)(h:Heap):List (Addr ×Obj):=fp.filterMap λb=>(h.get? b).map λo=>(b,o)
theorem zbH {fp:QO}{h:Heap}{b:Addr}{o:Obj}(hb:b∈fp)(e:h.get? b=some o):(b,o)∈zeo fp h:=List.mem_filterMap.mpr ⟨b,hb,by rw[e];rfl⟩
theorem zkP {fp:QO}{h:Heap}{p:Addr ×Obj}(hp:p∈zeo fp h):p.1∈fp/\h.get? p.1=some p.2:=by
 obtain⟨b,hb,e⟩:=List.mem_filterMap.mp hp;cases q:h.get? b with
 | none=>rw[q] at e;cases e
 | some o=>rw[q] at e;have e':(b,o)=p:=Option.some.inj e;subst e';exact⟨hb,q⟩
noncomputable abbrev _root_.Jf:=@List.mem_append_right
theorem Inv.pinned {pins:QE}{σ:St}{H:Hp}{s:Shared}{fp:QO}(I:Inv X pins σ H s)(hf:∀b∈fp,FpOk X pins H b)(ho:∀b∈fp,∃o,s.heap.get? b=some o/\∀v,o.data≠ .cell v):Inv X (pins++zeo fp s.heap) σ H s:=
 I.pins_of λp hp=>(List.mem_append.mp hp).elim (λz=>I.pin p (Jf _ z)) λz=>by obtain⟨hb,e⟩:=zkP z;obtain⟨f0,f1,f2,_⟩:=hf p.1 hb;obtain⟨o,e',d⟩:=ho p.1 hb;rw[e] at e';cases e';exact⟨e,f0,f1,f2,d⟩
theorem Inv.unpinned {pins pl:QE}{σ:St}{H:Hp}{s:Shared}(I:Inv X (pins++pl) σ H s):Inv X pins σ H s:=I.pins_of λp hp=>I.pin p (Jf _ (Jk _ hp))
theorem zam {iter:Expr}{body:List Stmt}{wi:TI}{g:TG}{tb:TS}{pos:Pos}(hp:PassesOwn (model X.prog X.w) X.A X.env X.xe)(hc:X.calm=true)(hi:PI X tg iter wi)(hg:PG X tg g)(hb:PSs X body tb)
  (hs:∀x,foldedSetIterable iter X.env x=pure x:=by intro _;rfl):PS X (.For tg iter body [] pos) (tFor wi g tb):=by
 intro pins s σ H D I h;refine wpAny_For (thn (hi pins s σ H _ I h) λv s1 h1=>thn h1 λitv s2 h2=>?_) hs;obtain⟨it,fp,tn,J,H2,e,I2,T,st2,f2,W,⟨m0,w0⟩,turn⟩:=h2;subst e
 have stat:∀{H':Hp},(∀b∈fp,H' b=none)->∀b∈fp,FpOk X pins H' b:=λhn b hb=>⟨hn b hb,(f2 b hb).2⟩;refine codeAny_forLoop_any (λn s'=>∃i σ' H',Inv X pins σ' H' s'/\tn i s'.heap/\(∀b∈fp,H' b=none)/\W i n σ' H') ?_ m0 ⟨0,σ,H2,I2,st2,λb hb=>(f2 b hb).1,w0⟩;rintro n s3 ⟨i,σ3,H3,I3,st3,fr3,w3⟩;rcases turn i n σ3 H3 w3 with ⟨stop,qn⟩ | ⟨go,N,hN,step⟩
 ·refine wpAny_passesOwn hp (thn (T.done X rfl rfl rfl hc i pins s3 σ3 H3 X.xe I3 (stat fr3) st3 stop) λr s4 ⟨hr,I4⟩=>?_);subst hr;exact wpAny_execs_nil ⟨σ3,H3,I4,qn⟩
 ·refine wpAny_passesOwn hp (thn (T.item X rfl rfl rfl hc i pins s3 σ3 H3 X.xe I3 (stat fr3) st3 go) λr s4 ⟨u,hr,h4⟩=>?_);subst hr;refine wpAny_passesOwn hp (thn h4 λ_ s5 ⟨x,H5,I5,r5,y5,st5,fr5⟩=>?_);have I5':=I5.pinned (stat fr5) (T.obj _ _ st5);refine wpAny_passesOwn hp (thn (hg _ s5 σ3 H5 x u _ I5' r5 (step x H5 y5)) λ_ s6 ⟨σ6,H6,I6,q6⟩=>?_);refine wpAny_passesOwn hp (thn (hb _ s6 σ6 H6 _ I6 q6) λf s7 q7=>?_);have again:∀{σ7:St} {H7:Hp},Inv X (pins++zeo fp s5.heap) σ7 H7 s7->N σ7 H7->∃m,m < n/\∃i σ' H',Inv X pins σ' H' s7/\tn i s7.heap/\(∀b∈fp,H' b=none)/\W i m σ' H':=λ{σ7 H7} I7 n7=>by obtain⟨m',hm,w7⟩:=hN σ7 H7 n7;refine⟨m',hm,i+1,σ7,H7,I7.unpinned,T.keep _ _ _ st5 λb hb o e=>(I7.pin (b,o) (Jf _ (Jf _ (zbH hb e)))).1,λb hb=>?_,w7⟩;obtain⟨o,e,d⟩:=T.obj _ _ st5 b hb;exact(I7.pin (b,o) (Jf _ (Jf _ (zbH hb e)))).2.1
  cases f with
  | next=>obtain⟨σ7,H7,I7,n7⟩:=q7;exact again I7 n7
  | cont=>obtain⟨σ7,H7,I7,n7⟩:=q7;exact again I7 n7
  | brk=>obtain⟨σ7,H7,I7,q7⟩:=q7;exact⟨σ7,H7,I7.unpinned,q7⟩
  | ret v=>obtain⟨x7,σ7,H7,I7,r7,q7⟩:=q7;exact⟨x7,σ7,H7,I7.unpinned,r7,q7⟩
end
theorem zb0 {K:QA}{a:Addr}{xs:QQ}{g:TG}{tb:TS}{D:Ends}{σ:St}{H:Hp}(Pv:Nat->St->Hp->Prop)(h0:Pv 0 σ H)(hl:∀i σ H,i<=xs.length->Pv i σ H->SqL K H a xs)
  (hs:∀i x σ H,xs[i]? =some x->Pv i σ H->g x σ H fun σ2 H2=>tb {D with nx:=Pv (i+1),ct:=Pv (i+1),bk:=D.nx} σ2 H2) (hd:∀σ H,Pv xs.length σ H->D.nx σ H):
  ∃W:Nat->Nat->St->Hp->Prop,(∃m,W 0 m σ H)/\∀i m σ H,W i m σ H->
   ((Itl K a).stop i H/\D.nx σ H)\/((Itl K a).go i H/\∃N:St->Hp->Prop,(∀σ' H',N σ' H'->∃m',m' < m/\W (i+1) m' σ' H')/\∀x H',(Itl K a).yld i H x H'->g x σ H' fun σ2 H2=>tb {D with nx:=N,ct:=N,bk:=D.nx} σ2 H2):=by
 refine⟨λi m σ H=>m=xs.length - i/\i<=xs.length/\Pv i σ H,⟨xs.length,by simp,Nat.zero_le _,h0⟩,?_⟩;rintro i m σ H ⟨rfl,hi,p⟩;have q:=hl i σ H hi p;by_cases hlt:i < xs.length
 ·refine .inr ⟨⟨xs,xs[i],q,by simp[hlt]⟩,Pv (i+1),fun σ' H' p'=>⟨xs.length - (i+1),by omega,rfl,hlt,p'⟩,λx H' y=>?_⟩;obtain⟨e,y⟩:=y;subst e;exact hs i x σ _ (y xs q) p
 ·have e:i=xs.length:=by omega
  subst e;exact .inl ⟨⟨xs,q,Jb _⟩,hd σ H p⟩
theorem zgj {K:QA}{a:Addr}{xs:QQ}{g:TG}{tb:TS}{D:Ends}{σ:St}{H:Hp}(Pv:Nat->St->Hp->Prop)(h0:Pv 0 σ H)(hl:∀i σ H,i<=xs.length->Pv i σ H->SqT K H a xs)
  (hs:∀i x σ H,xs[i]? =some x->Pv i σ H->g x σ H fun σ2 H2=>tb {D with nx:=Pv (i+1),ct:=Pv (i+1),bk:=D.nx} σ2 H2) (hd:∀σ H,Pv xs.length σ H->D.nx σ H):
  ∃W:Nat->Nat->St->Hp->Prop,(∃m,W 0 m σ H)/\∀i m σ H,W i m σ H->
   ((Itt K a).stop i H/\D.nx σ H)\/((Itt K a).go i H/\∃N:St->Hp->Prop,(∀σ' H',N σ' H'->∃m',m' < m/\W (i+1) m' σ' H')/\∀x H',(Itt K a).yld i H x H'->g x σ H' fun σ2 H2=>tb {D with nx:=N,ct:=N,bk:=D.nx} σ2 H2):=by
 refine⟨λi m σ H=>m=xs.length - i/\i<=xs.length/\Pv i σ H,⟨xs.length,by simp,Nat.zero_le _,h0⟩,?_⟩;rintro i m σ H ⟨rfl,hi,p⟩;have q:=hl i σ H hi p;by_cases hlt:i < xs.length
 ·refine .inr ⟨⟨xs,xs[i],q,by simp[hlt]⟩,Pv (i+1),fun σ' H' p'=>⟨xs.length - (i+1),by omega,rfl,hlt,p'⟩,λx H' y=>?_⟩;obtain⟨e,y⟩:=y;subst e;exact hs i x σ _ (y xs q) p
 ·have e:i=xs.length:=by omega
  subst e;exact .inl ⟨⟨xs,q,Jb _⟩,hd σ H p⟩
theorem zbs {lo:Int}{n:Nat}{g:TG}{tb:TS}{D:Ends}{σ:St}{H:Hp}(Pv:Nat->St->Hp->Prop)(h0:Pv 0 σ H)
  (hs:∀i σ H,i < n->Pv i σ H->g (.int (lo+i)) σ H fun σ2 H2=>tb {D with nx:=Pv (i+1),ct:=Pv (i+1),bk:=D.nx} σ2 H2) (hd:∀σ H,Pv n σ H->D.nx σ H):
  ∃W:Nat->Nat->St->Hp->Prop,(∃m,W 0 m σ H)/\∀i m σ H,W i m σ H->
   ((Itr lo n).stop i H/\D.nx σ H)\/((Itr lo n).go i H/\∃N:St->Hp->Prop,(∀σ' H',N σ' H'->∃m',m' < m/\W (i+1) m' σ' H')/\∀x H',(Itr lo n).yld i H x H'->g x σ H' fun σ2 H2=>tb {D with nx:=N,ct:=N,bk:=D.nx} σ2 H2):=by
 refine⟨λi m σ H=>m=n - i/\i<=n/\Pv i σ H,⟨n,by simp,Nat.zero_le _,h0⟩,?_⟩;rintro i m σ H ⟨rfl,hi,p⟩;by_cases hlt:i < n
 ·refine .inr ⟨hlt,Pv (i+1),fun σ' H' p'=>⟨n - (i+1),by omega,rfl,hlt,p'⟩,λx H' y=>?_⟩;obtain⟨e,y⟩:=y;subst e y;exact hs i σ _ hlt p
 ·have e:i=n:=by omega
  subst e;exact .inl ⟨Jb _,hd σ H p⟩
end L2
namespace L2
open PySem PySem.Spec PyProof.Rows
noncomputable abbrev R2:=V->V->Hp->VK->Prop
noncomputable def OpR (X:Cx)(f:Value->Value->Sem Value)(r:R2):Prop:=
 ∀(pins:QE) (s:Shared) (σ:St) (H:Hp) (x y:V) (v u:Value) (Q:VK),Inv X pins σ H s->RelV x v->RelV y u->r x y H Q->
  wpAny (model X.prog X.w) X.A (f v u) (EP X pins σ Q) X.xe s
noncomputable def UnR (X:Cx)(f:Value->Sem Value)(r:V->Hp->VK->Prop):Prop:=
 ∀(pins:QE) (s:Shared) (σ:St) (H:Hp) (x:V) (v:Value) (Q:VK),Inv X pins σ H s->RelV x v->r x H Q->
  wpAny (model X.prog X.w) X.A (f v) (EP X pins σ Q) X.xe s
noncomputable def z9 (X:Cx)(f:Value)(r:List V->Hp->VK->Prop):Prop:=
 ∀(pins:QE) (s:Shared) (σ:St) (H:Hp) (xs:QQ) (us:QN) (Q:VK),Inv X pins σ H s->Vals xs us->r xs H Q->
  wpAny (model X.prog X.w) X.A (call f us) (EP X pins σ Q) X.xe s
noncomputable def tOp (r:R2)(ta tb:TE):TE:=fun σ H Q=>ta σ H λx H1=>tb σ H1 λy H2=>r x y H2 Q
noncomputable def tUn (r:V->Hp->VK->Prop)(ta:TE):TE:=fun σ H Q=>ta σ H λx H1=>r x H1 Q
noncomputable def rI (C:Int->Int->Prop)(g:Int->Int->V):R2:=λx y H Q=>∃i j,x=.int i/\y=.int j/\C i j/\Q (g i j) H
noncomputable def rI0 (g:Int->Int->V):R2:=λx y H Q=>∃i j,x=.int i/\y=.int j/\Q (g i j) H
noncomputable def rU (g:Int->V):V->Hp->VK->Prop:=λx H Q=>∃i,x=.int i/\Q (g i) H
section
variable {X:Cx}{a b c:Expr}{ta tb tc:TE}{pos:Pos}
theorem binT (ha:PE X a ta)(hb:PE X b tb){pins:QE}{s:Shared}{σ:St}{H:Hp}{R:V->V->Hp->Prop}(I:Inv X pins σ H s)
  (h:ta σ H λx H1=>tb σ H1 λy H2=>R x y H2) {Q:QC} {f:Value->Value->Sem Value}
  (hf:∀v u s2 x y H2,Inv X pins σ H2 s2->RelV x v->RelV y u->R x y H2->wpAny (model X.prog X.w) X.A (f v u) Q X.xe s2):
  wpAny (model X.prog X.w) X.A (eval a X.env) (λv s₁=>wpAny (model X.prog X.w) X.A (eval b X.env) (λu s₂=>wpAny (model X.prog X.w) X.A (f v u) Q X.xe s₂) X.xe s₁) X.xe s:=by
 refine thn (ha pins s σ H _ I h) λv s1 ⟨x,H1,I1,r1,q1⟩=>?_;refine thn (hb pins s1 σ H1 _ I1 q1) λu s2 ⟨y,H2,I2,r2,q2⟩=>?_;exact hf v u s2 x y H2 I2 r1 r2 q2
theorem zdP {op:Operator}{r:R2}(ho:OpR X (binaryOp op) r)(ha:PE X a ta)(hb:PE X b tb):PE X (.BinOp a op b pos) (tOp r ta tb):=by intro pins s σ H Q I h;exact wpAny_BinOp (binT ha hb I h λv u s2 x y H2 I2 rx ry q=>ho pins s2 σ H2 x y v u Q I2 rx ry q)
theorem zrE {op:UnaryOp}{r:V->Hp->VK->Prop}(ho:UnR X (unaryOp op) r)(ha:PE X a ta):PE X (.UnaryOp op a pos) (tUn r ta):=by intro pins s σ H Q I h;exact UnaryOp_ (thn (ha pins s σ H _ I h) λv s1 ⟨x,H1,I1,r1,q1⟩=>ho pins s1 σ H1 x v Q I1 r1 q1)
theorem opI {f:Value->Value->Sem Value}{C:Int->Int->Prop}{g:Int->Int->Int}
  (rule:∀(i j:Int) (t u:Tok) (s:Shared) (Q:QC) (E:QC),C i j->Q (.int (g i j) s.toks) {s with toks:=s.toks+1}->wpAny (model X.prog X.w) X.A (f (.int i t) (.int j u)) Q E s):
  OpR X f (rI C λi j=>.int (g i j)):=by
 intro pins s σ H x y v u Q I rx ry h;obtain⟨i,j,rfl,rfl,hc,q⟩:=h;obtain⟨t,rfl⟩:=rx;obtain⟨t',rfl⟩:=ry;exact rule i j t t' s _ _ hc ⟨.int (g i j),H,I.tok _,⟨_,rfl⟩,q⟩
theorem opI0 {f:Value->Value->Sem Value}{g:Int->Int->Int}
  (rule:∀(i j:Int) (t u:Tok) (s:Shared) (Q:QC) (E:QC),Q (.int (g i j) s.toks) {s with toks:=s.toks+1}->wpAny (model X.prog X.w) X.A (f (.int i t) (.int j u)) Q E s):
  OpR X f (rI0 λi j=>.int (g i j)):=by
 intro pins s σ H x y v u Q I rx ry h;obtain⟨i,j,rfl,rfl,q⟩:=h;obtain⟨t,rfl⟩:=rx;obtain⟨t',rfl⟩:=ry;exact rule i j t t' s _ _ ⟨.int (g i j),H,I.tok _,⟨_,rfl⟩,q⟩
theorem opB0 {f:Value->Value->Sem Value}{g:Int->Int->Bool}
  (rule:∀(i j:Int) (t u:Tok) (s:Shared) (Q:QC) (E:QC),Q (.bool (g i j)) s->wpAny (model X.prog X.w) X.A (f (.int i t) (.int j u)) Q E s):
  OpR X f (rI0 λi j=>.bl (g i j)):=by
 intro pins s σ H x y v u Q I rx ry h;obtain⟨i,j,rfl,rfl,q⟩:=h;obtain⟨t,rfl⟩:=rx;obtain⟨t',rfl⟩:=ry;exact rule i j t t' s _ _ ⟨.bl (g i j),H,I,rfl,q⟩
noncomputable def CPow (i j:Int):Prop:=0<=j/\j<=1000000/\i.natAbs < 2 ^ 64
noncomputable def CMul (i j:Int):Prop:=(-(2 ^ 64) < i/\i < 2 ^ 64)\/(-(2 ^ 64) < j/\j < 2 ^ 64)
theorem CMul.ok {i j:Int}(h:CMul i j):IntMulOk i j:=by
 rcases h with ⟨h1,h2⟩ | ⟨h1,h2⟩
 ·exact .of_left (intBits_le_64 h1 h2)
 ·exact .of_right (intBits_le_64 h1 h2)
theorem zqb:OpR X (binaryOp .Add) (rI0 λi j=>.int (i+j)):=opI0 λ_ _ _ _ _ _ _ q=>add_int q
theorem zqJ:OpR X (binaryOp .Sub) (rI0 λi j=>.int (i - j)):=opI0 λ_ _ _ _ _ _ _ q=>sub_int q
theorem zqN:OpR X (binaryOp .Mult) (rI CMul λi j=>.int (i * j)):=opI λ_ _ _ _ _ _ _ hc q=>mul_int q hc.ok
theorem zqm:OpR X (binaryOp .Mod) (rI (λ_ j=>0 < j) λi j=>.int (i % j)):=opI λi j _ _ _ _ _ hc q=>by have h1:(0:Int) < j:=hc;exact mod_int' (by omega) (by rw[Int.fmod_eq_emod_of_nonneg i (by omega)];exact q)
theorem zpZ:OpR X (binaryOp .Pow) (rI CPow λi j=>.int (i ^ j.toNat)):=opI λ_ _ _ _ _ _ _ hc q=>pow_int_small hc.1 hc.2.1 hc.2.2 q
theorem unI {f:Value->Sem Value}{g:Int->Int}
  (rule:∀(i:Int) (t:Tok) (s:Shared) (Q:QC) (E:QC),Q (.int (g i) s.toks) {s with toks:=s.toks+1}->wpAny (model X.prog X.w) X.A (f (.int i t)) Q E s):
  UnR X f (rU λi=>.int (g i)):=by
 intro pins s σ H x v Q I rx h;obtain⟨i,rfl,q⟩:=h;obtain⟨t,rfl⟩:=rx;exact rule i t s _ _ ⟨.int (g i),H,I.tok _,⟨_,rfl⟩,q⟩
theorem zqj:UnR X (unaryOp .USub) (rU λi=>.int (-i)):=unI λ_ _ _ _ _ q=>neg_int q
end
noncomputable def scal:V->V->Bool
 | .non,.non=>true | .non,.int _=>true | .int _,.non=>true | .non,.bl _=>true | .bl _,.non=>true | .non,.str _=>true | .str _,.non=>true
 | .int _,.int _=>true | .bl _,.bl _=>true | .str _,.str _=>true | .byt _,.byt _=>true
 | .int _,.str _=>true | .str _,.int _=>true | .bl _,.str _=>true | .str _,.bl _=>true
 | _,_=>false
noncomputable def rEq:R2:=λx y H Q=>scal x y=true/\Q (.bl (decide (x=y))) H
noncomputable def rNe:R2:=λx y H Q=>scal x y=true/\Q (.bl (!decide (x=y))) H
theorem zjp {i j:Int}:decide (V.int i=V.int j)=(i==j):=by rw[Bool.eq_iff_iff];simp
theorem zmk {i j:Bool}:decide (V.bl i=V.bl j)=(i==j):=by rw[Bool.eq_iff_iff];simp
theorem zjV {i j:Str}:decide (V.str i=V.str j)=(i==j):=by rw[Bool.eq_iff_iff];simp
theorem zjF {i j:Array UInt8}:decide (V.byt i=V.byt j)=(i.toList==j.toList):=by rw[Bool.eq_iff_iff];cases i;cases j;simp
section
variable {X:Cx}{a b c:Expr}{ta tb tc:TE}{pos:Pos}
theorem zw {pins:QE}{σ:St}{H:Hp}{s:Shared}{Q:VK}{k k':Bool}(I:Inv X pins σ H s)(q:Q (.bl k) H)(e:k=k'):EP X pins σ Q (.bool k') s:=by subst e;exact⟨.bl k,H,I,rfl,q⟩
theorem znl:OpR X (compareOp .Eq) rEq:=by
 intro pins s σ H x y v u Q I rx ry h;obtain⟨hs,q⟩:=h;cases x with
 | non=>
  cases rx;cases y with
  | non=>cases ry;exact PySem.EqNone.eq_none_none (zw I q (by simp))
  | bl j=>cases ry;exact PySem.EqNone.eq_none_bool (zw I q (by simp))
  | int j=>obtain⟨t',rfl⟩:=ry;exact PySem.EqNone.eq_none_int (zw I q (by simp))
  | str j=>obtain⟨t',rfl⟩:=ry;exact PySem.EqNone.eq_none_str (zw I q (by simp))
  | _=>exact Je (show false=true from hs) Jc
 | bl i=>
  cases rx;cases y with
  | non=>cases ry;exact PySem.EqNone.eq_bool_none (zw I q (by simp))
  | bl j=>cases ry;exact eq_bool (zw I q zmk)
  | str j=>obtain⟨t',rfl⟩:=ry;exact PySem.EqMixed.eq_bool_str (zw I q (by simp))
  | _=>exact Je (show false=true from hs) Jc
 | int i=>
  obtain⟨t,rfl⟩:=rx;cases y with
  | non=>cases ry;exact PySem.EqNone.eq_int_none (zw I q (by simp))
  | int j=>obtain⟨t',rfl⟩:=ry;exact eq_int (zw I q zjp)
  | str j=>obtain⟨t',rfl⟩:=ry;exact PySem.EqMixed.eq_int_str (zw I q (by simp))
  | _=>exact Je (show false=true from hs) Jc
 | str i=>
  obtain⟨t,rfl⟩:=rx;cases y with
  | non=>cases ry;exact PySem.EqNone.eq_str_none (zw I q (by simp))
  | bl j=>cases ry;exact PySem.EqMixed.eq_str_bool (zw I q (by simp))
  | int j=>obtain⟨t',rfl⟩:=ry;exact PySem.EqMixed.eq_str_int (zw I q (by simp))
  | str j=>obtain⟨t',rfl⟩:=ry;exact eq_str (zw I q zjV)
  | _=>exact Je (show false=true from hs) Jc
 | byt i=>
  obtain⟨t,rfl⟩:=rx;cases y with
  | byt j=>obtain⟨t',rfl⟩:=ry;exact PySem.W.eq_bytes (zw I q zjF)
  | _=>exact Je (show false=true from hs) Jc
 | _=>cases y <;> exact Je (show false=true from hs) Jc
theorem zm4:OpR X (compareOp .NotEq) rNe:=by
 intro pins s σ H x y v u Q I rx ry h;obtain⟨hs,q⟩:=h;cases x with
 | non=>
  cases rx;cases y with
  | non=>cases ry;exact PySem.EqNone.ne_none_none (zw I q (by simp))
  | bl j=>cases ry;exact PySem.EqNone.ne_none_bool (zw I q (by simp))
  | int j=>obtain⟨t',rfl⟩:=ry;exact PySem.EqNone.ne_none_int (zw I q (by simp))
  | str j=>obtain⟨t',rfl⟩:=ry;exact PySem.EqNone.ne_none_str (zw I q (by simp))
  | _=>exact Je (show false=true from hs) Jc
 | bl i=>
  cases rx;cases y with
  | non=>cases ry;exact PySem.EqNone.ne_bool_none (zw I q (by simp))
  | bl j=>cases ry;exact ne_bool (zw I q (congrArg not zmk))
  | str j=>obtain⟨t',rfl⟩:=ry;exact PySem.EqMixed.ne_bool_str (zw I q (by simp))
  | _=>exact Je (show false=true from hs) Jc
 | int i=>
  obtain⟨t,rfl⟩:=rx;cases y with
  | non=>cases ry;exact PySem.EqNone.ne_int_none (zw I q (by simp))
  | int j=>obtain⟨t',rfl⟩:=ry;exact ne_int (zw I q (congrArg not zjp))
  | str j=>obtain⟨t',rfl⟩:=ry;exact PySem.EqMixed.ne_int_str (zw I q (by simp))
  | _=>exact Je (show false=true from hs) Jc
 | str i=>
  obtain⟨t,rfl⟩:=rx;cases y with
  | non=>cases ry;exact PySem.EqNone.ne_str_none (zw I q (by simp))
  | bl j=>cases ry;exact PySem.EqMixed.ne_str_bool (zw I q (by simp))
  | int j=>obtain⟨t',rfl⟩:=ry;exact PySem.EqMixed.ne_str_int (zw I q (by simp))
  | str j=>obtain⟨t',rfl⟩:=ry;exact ne_str (zw I q (congrArg not zjV))
  | _=>exact Je (show false=true from hs) Jc
 | byt i=>
  obtain⟨t,rfl⟩:=rx;cases y with
  | byt j=>obtain⟨t',rfl⟩:=ry;exact PySem.W.ne_bytes (zw I q (congrArg not zjF))
  | _=>exact Je (show false=true from hs) Jc
 | _=>cases y <;> exact Je (show false=true from hs) Jc
theorem zpC:OpR X (compareOp .Lt) (rI0 λi j=>.bl (decide (i < j))):=opB0 λ_ _ _ _ _ _ _ q=>lt_int q
theorem zfF:OpR X (compareOp .LtE) (rI0 λi j=>.bl (decide (i<=j))):=opB0 λ_ _ _ _ _ _ _ q=>le_int q
theorem zpH:OpR X (compareOp .Gt) (rI0 λi j=>.bl (decide (j < i))):=opB0 λ_ _ _ _ _ _ _ q=>gt_int q
theorem zrP:OpR X (compareOp .GtE) (rI0 λi j=>.bl (decide (j<=i))):=opB0 λ_ _ _ _ _ _ _ q=>ge_int q
theorem zf0:OpR X (compareOp .Lt) (λx y H Q=>∃i j,x=.str i/\y=.str j/\Q (.bl (decide (i.cps.toList < j.cps.toList))) H):=by intro pins s σ H x y v u Q I rx ry h;obtain⟨i,j,rfl,rfl,q⟩:=h;obtain⟨t,rfl⟩:=rx;obtain⟨t',rfl⟩:=ry;exact lt_str (zw I q rfl)
theorem zj9:OpR X (compareOp .In) (λx y H Q=>∃i j,x=.str i/\y=.str j/\Q (.bl (!(Builtin.Str.occurrences j i 0 j.length 1).isEmpty)) H):=by intro pins s σ H x y v u Q I rx ry h;obtain⟨i,j,rfl,rfl,q⟩:=h;obtain⟨t,rfl⟩:=rx;obtain⟨t',rfl⟩:=ry;exact in_str (zw I q rfl)
theorem zqO:OpR X (compareOp .Is) (λx y H Q=>y=.non/\Q (.bl (decide (x=.non))) H):=by
 intro pins s σ H x y v u Q I rx ry h;obtain⟨rfl,q⟩:=h;cases ry;refine is_none_gen (zw I q ?_);cases x <;> first
  | (cases rx;rfl)
  | (obtain⟨t,rfl⟩:=rx;rfl)
theorem zoL:OpR X (compareOp .IsNot) (λx y H Q=>y=.non/\Q (.bl (!decide (x=.non))) H):=by
 intro pins s σ H x y v u Q I rx ry h;obtain⟨rfl,q⟩:=h;cases ry;refine isnot_none_gen (zw I q ?_);cases x <;> first
  | (cases rx;rfl)
  | (obtain⟨t,rfl⟩:=rx;rfl)
theorem zbK:OpR X (compareOp .NotIn) (λx y H Q=>∃i j,x=.str i/\y=.str j/\Q (.bl (!(!(Builtin.Str.occurrences j i 0 j.length 1).isEmpty))) H):=by intro pins s σ H x y v u Q I rx ry h;obtain⟨i,j,rfl,rfl,q⟩:=h;obtain⟨t,rfl⟩:=rx;obtain⟨t',rfl⟩:=ry;exact notIn_str (zw I q rfl)
theorem OpR.or {f:Value->Value->Sem Value}{r r':R2}(h:OpR X f r)(h':OpR X f r'):OpR X f (λx y H Q=>r x y H Q\/r' x y H Q):=by
 intro pins s σ H x y v u Q I rx ry q;rcases q with q | q
 ·exact h pins s σ H x y v u Q I rx ry q
 ·exact h' pins s σ H x y v u Q I rx ry q
theorem zO (b:Expr){op:CmpOp}(h:op≠ .In:=by decide)(h2:op≠ .NotIn:=by decide):behindInMarks op b=false:=by
 have e1:(op==CmpOp.In)=false:=by cases op <;> first | rfl | exact Je rfl h
 have e2:(op==CmpOp.NotIn)=false:=by cases op <;> first | rfl | exact Je rfl h2
 cases b <;> simp[behindInMarks,e1,e2]
theorem z8 {op:CmpOp}{r:R2}(ho:OpR X (compareOp op) r)(ha:PE X a ta)(hb:PE X b tb)(hm:behindInMarks op b=false):PE X (.Compare a [op] [b] pos) (tOp r ta tb):=by intro pins s σ H Q I h;exact wpAny_Compare1 (binT ha hb I h λv u s2 x y H2 I2 rx ry q=>ho pins s2 σ H2 x y v u Q I2 rx ry q) hm
noncomputable def zfT (t:TE):TT:=fun σ H Q=>t σ H λx H'=>∃k,x=.bl k/\Q k H'
theorem zG {op:CmpOp}{r:R2}(ho:OpR X (compareOp op) r)(ha:PE X a ta)(hb:PE X b tb)(hm:behindInMarks op b=false):PT X (.Compare a [op] [b] pos) (zfT (tOp r ta tb)):=by
 intro pins s σ H Q I h;refine wpAny_isTrue_Compare1 (thn (ha pins s σ H _ I h) λv s1 ⟨x,H1,I1,r1,q1⟩=>thn (hb pins s1 σ H1 _ I1 q1) λu s2 ⟨y,H2,I2,r2,q2⟩=>
  thn (ho pins s2 σ H2 x y v u _ I2 r1 r2 q2) λc s3 ⟨z,H3,I3,r3,k,e,q3⟩=>?_) hm
 subst e;cases r3;exact wpAny_truthy_bool ⟨H3,I3,q3⟩
noncomputable def ziY (r r':R2)(ta tb tc:TE):TE:=fun σ H Q=>ta σ H λx H1=>tb σ H1 λy H2=>r x y H2 λz H3=>∃k,z=.bl k/\
 (if k=true then tc σ H3 λw' H4=>r' y w' H4 Q else Q (.bl false) H3)
theorem zml {op op':CmpOp}{r r':R2}(ho:OpR X (compareOp op) r)(ho':OpR X (compareOp op') r')(ha:PE X a ta)(hb:PE X b tb)(hc:PE X c tc)
  (hm:lastMarks [op,op'] [b,c]=false:=by with_unfolding_all rfl):PE X (.Compare a [op,op'] [b,c] pos) (ziY r r' ta tb tc):=by
 intro pins s σ H Q I h;refine Compare_chain (thn (ha pins s σ H _ I h) λv s1 ⟨x,H1,I1,r1,q1⟩=>chain_link (thn (hb pins s1 σ H1 _ I1 q1) λu s2 ⟨y,H2,I2,r2,q2⟩=>
  thn (ho pins s2 σ H2 x y v u _ I2 r1 r2 q2) λd s3 ⟨z,H3,I3,r3,k,e,q3⟩=>?_)) hm
 subst e;cases r3;refine wpAny_truthy_bool ?_;cases k with
 | false=>exact ite_ff ⟨.bl false,H3,I3,rfl,q3⟩
 | true=>exact ite_tt (chain_last (thn (hc pins s3 σ H3 _ I3 q3) λw' s4 ⟨z',H4,I4,r4,q4⟩=>ho' pins s4 σ H4 y z' u w' Q I4 r2 r4 q4))
theorem zb9 {op op':CmpOp}{r r':R2}(ho:OpR X (compareOp op) r)(ho':OpR X (compareOp op') r')(ha:PE X a ta)(hb:PE X b tb)(hc:PE X c tc)
  (hm:lastMarks [op,op'] [b,c]=false:=by with_unfolding_all rfl):PT X (.Compare a [op,op'] [b,c] pos) (zfT (ziY r r' ta tb tc)):=by
 intro pins s σ H Q I h;refine isTrue_chain (thn (ha pins s σ H _ I h) λv s1 ⟨x,H1,I1,r1,q1⟩=>test_link (thn (hb pins s1 σ H1 _ I1 q1) λu s2 ⟨y,H2,I2,r2,q2⟩=>
  thn (ho pins s2 σ H2 x y v u _ I2 r1 r2 q2) λd s3 ⟨z,H3,I3,r3,k,e,q3⟩=>?_)) hm
 subst e;cases r3;refine wpAny_truthy_bool ?_;cases k with
 | false=>obtain⟨k',e',q'⟩:=q3;cases e';exact ite_ff ⟨H3,I3,q'⟩
 | true=>refine ite_tt (test_last (thn (hc pins s3 σ H3 _ I3 q3) λw' s4 ⟨z',H4,I4,r4,q4⟩=>thn (ho' pins s4 σ H4 y z' u w' _ I4 r2 r4 q4) λd' s5 ⟨z2,H5,I5,r5,k2,e2,q5⟩=>?_));subst e2;cases r5;exact wpAny_truthy_bool ⟨H5,I5,q5⟩
theorem zdu:(sizeLine:Nat) < 2 ^ 63:=by rw[sizeLine_eq];decide
theorem za1:OpR X (binaryOp .Add) (λx y H Q=>∃i j,x=.str i/\y=.str j/\i.length+j.length<=sizeLine/\Q (.str (i++j)) H):=by intro pins s σ H x y v u Q I rx ry h;obtain⟨i,j,rfl,rfl,hz,q⟩:=h;obtain⟨t,rfl⟩:=rx;obtain⟨t',rfl⟩:=ry;exact add_str (λt' tk=>⟨.str (i++j),H,I.tok _,⟨_,rfl⟩,q⟩) hz
theorem vals1 {x:V}{us:QN}(r:Vals [x] us):∃u,us=[u]/\RelV x u:=by
 cases r with
 | cons r1 r2=>cases r2;exact⟨_,rfl,r1⟩
theorem vals2 {x y:V}{us:QN}(r:Vals [x,y] us):∃u w',us=[u,w']/\RelV x u/\RelV y w':=by
 cases r with
 | cons r1 r2=>
  cases r2 with
  | cons r3 r4=>cases r4;exact⟨_,_,rfl,r1,r3⟩
theorem zmF:z9 X (.builtin "abs") (λxs H Q=>∃i,xs=[.int i]/\Q (.int (if i < 0 then -i else i)) H):=by intro pins s σ H xs us Q I r h;obtain⟨i,rfl,q⟩:=h;obtain⟨u,rfl,t,rfl⟩:=vals1 r;exact call_abs_int λu tk=>⟨.int (if i < 0 then -i else i),H,I.tok _,⟨_,rfl⟩,q⟩
theorem zfZ:z9 X (.type "int") (λxs H Q=>(∃i,xs=[.int i]/\Q (.int i) H)\/∃k,xs=[.bl k]/\Q (.int (if k then 1 else 0)) H):=by
 intro pins s σ H xs us Q I r h;rcases h with ⟨i,rfl,q⟩ | ⟨k,rfl,q⟩
 ·obtain⟨u,rfl,t,rfl⟩:=vals1 r;exact call_int_int ⟨.int i,H,I,⟨_,rfl⟩,q⟩
 ·obtain⟨u,rfl,r1⟩:=vals1 r;cases r1;exact call_int_bool ⟨.int (if k then 1 else 0),H,I.tok _,⟨_,rfl⟩,q⟩
theorem zmC:z9 X (.builtin "ord") (λxs H Q=>∃x,xs=[.str x]/\x.length=1/\Q (.int (x.cps.getD 0 0:Nat)) H):=by intro pins s σ H xs us Q I r h;obtain⟨x,rfl,hz,q⟩:=h;obtain⟨u,rfl,t,rfl⟩:=vals1 r;exact ord_of_one hz ⟨.int _,H,I.tok _,⟨_,rfl⟩,q⟩
end
end L2
namespace L2
open PySem PySem.Spec PyProof.Rows
structure ObjM (h:Heap)(x dx C:Addr)(mA:QB):Prop where
 obj:h.get? x=some (PySem.W.instObj C dx)
 ns:h.Ns1 dx mA
 ne:dx≠x
theorem zdk {h:Heap}{dx:Addr}{mA:QB}(n:h.Ns1 dx mA):∃od,h.get? dx=some od/\∀name,PySem.W.lookIn name od=some (mA name):=by
 obtain⟨o,es,ep,ho,hd,hk,_,hm⟩:=n;refine⟨o,ho,λname=>?_⟩;have e:=hm name;unfold nsFind findBy at e;rw[<-Array.find?_toList] at e;unfold PySem.W.lookIn;rw[hd];dsimp only;split
 ·rename_i y q;rw[q] at e;exact congrArg some e
 ·rename_i q;rw[q] at e;have a:es.toList.any (·.refKey)=false:=by rw[List.any_eq_false];intro y hy;obtain⟨z,t,hkey⟩:=hk y (Array.mem_toList_iff.mp hy);simp[DictEntry.refKey,hkey]
  have a':¬es.toList.any (·.refKey)=true:=by rw[a];exact Jc
  rw[if_neg a'];exact congrArg some e
theorem ObjM.look {h:Heap}{x dx C:Addr}{mA:QB}(I:ObjM h x dx C mA):∃od,PySem.W.InstAt h x (PySem.W.instObj C dx) C (some od)/\∀name,PySem.W.lookIn name od=some (mA name):=
 let ⟨od,ho,hl⟩:=zdk I.ns
 ⟨od,⟨I.obj,rfl,rfl,ho⟩,hl⟩
section
variable {prog:Program}{w:World}{A:Around}{E:QC}{s:Shared}{K:QA}{x dx C f:Addr}{mA:QB}{name:Str}{v:Value}
theorem get_map {expr:Bool}{Q:QC}(X:K.In s.heap)(I:ObjM s.heap x dx C mA)(hg:PySem.W.plainGet K C name=true)(hh:PySem.W.hasDictIn K C=true)
  (ha:PySem.W.findIn K (.ref C) name=some none) (hv:mA name=some v) (hv':PySem.W.handedIn v=true) (h:Q v {s with toks:=s.toks+1}):
  wpAny (model prog w) A (getAttr (.ref x) name expr) Q E s:=by
 obtain⟨od,J,hl⟩:=I.look;exact PySem.W.get_value X J (PySem.W.plainGet_of hg).1 (PySem.W.findObj_own hh ha rfl (by rw[hl,hv])) hv' h
theorem zmc {pl:Sem Bool}{Q:Value ×List Value->Shared->Prop}(X:K.In s.heap)(I:ObjM s.heap x dx C mA)(hg:PySem.W.plainGet K C name=true)
  (hf:PySem.W.findIn K (.ref C) name=some (some (.ref f))) (ht:PySem.W.isFn K (.ref f)=true) (hv:mA name=none) (h:Q (.ref f,[.ref x]) s):
  wpAny (model prog w) A (getMethod (.ref x) name pl) Q E s:=by
 obtain⟨od,J,hl⟩:=I.look;exact PySem.W.method_fn X J (PySem.W.plainGet_of hg).1 (PySem.W.plainGet_of hg).2 hf (beq_iff_eq.mp ht) (by show(PySem.W.lookIn name od).map (·.isSome)=some false;rw[hl,hv];rfl) h
theorem zn7 {ns:QP}{Q:QD}(X:K.In s.heap)(I:ObjM s.heap x dx C mA)
  (hs:PySem.W.findIn K (.ref C) "__setattr__" =some (some (.builtin "object.__setattr__"))) (hp:PySem.W.plainOver K C=true) (ht:PySem.W.takerIn K C name=some none) (hh:PySem.W.hasDictIn K C=true)
  (hw:PySem.Within mA ns) (hsz:ns.length<=sizeLine)
  (h:∀h',ObjM h' x dx C (λy=>if y=name then some v else mA y)->Heap.SameBut dx s.heap h'->Q () {s with heap:=h',toks:=s.toks+2}):
  wpAny (model prog w) A (setAttr (.ref x) name v) Q E s:=by
 obtain⟨od,J,hl⟩:=I.look;refine PySem.W.set_plain X J hs (PySem.W.osa_open (s:={s with toks:=s.toks+1}) (r:=none) X J hp ht λb=>?_);obtain⟨cd,hc,hd'⟩:=PySem.W.any_some hh;have hx:s.heap.get? x=some ⟨.ref C,some dx,.plain, #[]⟩:=I.obj;refine Ja (wpAny_pure (Ja (Ja (wpAny_loadPart hx (Ja (PySem.W.Looks.here (s:={s with toks:=s.toks+1}) (PySem.W.looks_clsIn X hc) ?_))))));rw[hd'];refine wpAny_pure (a:=some dx) (Ja (wpAny_pure (Ja ?_)));refine wpAny_nsSet1 (s:={s with toks:=s.toks+1}) I.ns λh' hn2 hs2=>?_;obtain⟨oD,esD,epD,hoD,hdD,hcD⟩:=hn2.count (PySem.Within.cons name v hw);refine Ja (wpAny_lookBehind hoD (by rw[hdD];exact pastItsLine_dict (Ji hcD (by rw[List.length_cons];omega))) ?_);exact wpAny_pure (h _ ⟨(hs2.2 _ (Ne.symm I.ne)).trans I.obj,hn2,I.ne⟩ hs2)
noncomputable abbrev _root_.QK:=List (Str ×Value)
theorem zmN {R:Result->Shared->Prop}{vs:QN}{kw:QK}(X:K.In s.heap)(hm:PySem.W.makesIn K C=true)
  (hi:PySem.W.findIn K (.ref C) "__init__" =some (some (.ref f))) (hf:PySem.W.typeIn K (.ref f)=some (.type "function"))
  (h:codeAny (model prog w) (A.under (.builtin "type.__call__" ⟨.ref C::vs,kw⟩)) (.call (.ref f) ⟨.ref (s.heap.objs.size+1)::vs,kw⟩) (PySem.W.InitBack (s.heap.objs.size+1) R)
   {s with heap:=(s.heap.push PySem.W.emptyDict).push (PySem.W.instObj C s.heap.objs.size)}):
  codeAny (model prog w) A (.call (.ref C) ⟨vs,kw⟩) R s:=by
 obtain⟨hh,g,d,t,os⟩:=s;exact PySem.W.make_core (PySem.W.makes_of X hm) (PySem.W.looks_findIn X hi) (λself=>PySem.W.bind_fn X self hf) (.inl rfl) h
end
noncomputable def putF (f:Str)(v:V):List (Str ×V)->List (Str ×V)
 | []=>[(f,v)]
 | (g,x)::r=>if g=f then(g,v)::r else(g,x)::putF f v r
theorem zbU (f g:Str)(v:V):∀fs:List (Str ×V),(putF f v fs).lookup g=if g=f then some v else fs.lookup g
 | []=>by
  show List.lookup g [(f,v)]=_;by_cases h:g=f
  ·have hb:(g==f)=true:=beq_iff_eq.mpr h;simp only[List.lookup,hb,if_pos h]
  ·have hb:(g==f)=false:=beq_eq_false_iff_ne.mpr h;simp only[List.lookup,hb,if_neg h]
 | (k,x)::r=>by
  have ih:=zbU f g v r;rw[show putF f v ((k,x)::r)=(if k=f then(k,v)::r else(k,x)::putF f v r) from rfl];by_cases hk:k=f
  ·rw[if_pos hk];by_cases h:g=k
   ·have hb:(g==k)=true:=beq_iff_eq.mpr h;simp only[List.lookup,hb,if_pos (h.trans hk)]
   ·have hb:(g==k)=false:=beq_eq_false_iff_ne.mpr h;simp only[List.lookup,hb,if_neg (λe:g=f=>h (e.trans hk.symm))]
  ·rw[if_neg hk];by_cases h:g=k
   ·have hb:(g==k)=true:=beq_iff_eq.mpr h;simp only[List.lookup,hb,if_neg (λe:g=f=>hk (h.symm.trans e))]
   ·have hb:(g==k)=false:=beq_eq_false_iff_ne.mpr h;simp only[List.lookup,hb];exact ih
theorem zbA (f:Str)(v:V):∀fs:List (Str ×V),f∈(putF f v fs).map (·.1)/\∀g,g∈fs.map (·.1)->g∈(putF f v fs).map (·.1)
 | []=>⟨by simp[putF],λg h=>by simp at h⟩
 | (k,x)::r=>by
  obtain⟨i1,i2⟩:=zbA f v r;rw[show putF f v ((k,x)::r)=(if k=f then(k,v)::r else(k,x)::putF f v r) from rfl];by_cases hk:k=f
  ·rw[if_pos hk];subst hk;exact⟨by simp,λg h=>by simpa using h⟩
  ·rw[if_neg hk];refine⟨?_,λg h=>?_⟩
   ·rw[List.map_cons];exact Jh _ i1
   ·rw[List.map_cons] at h ⊢;rcases List.mem_cons.mp h with e | e
    ·exact List.mem_cons.mpr (.inl e)
    ·exact Jh _ (i2 g e)
theorem zdS (f:Str)(v:V):∀fs:List (Str ×V),(putF f v fs).length<=fs.length+1
 | []=>by simp[putF]
 | (k,x)::r=>by
  have ih:=zdS f v r;rw[show putF f v ((k,x)::r)=(if k=f then(k,v)::r else(k,x)::putF f v r) from rfl];by_cases hk:k=f
  ·rw[if_pos hk,List.length_cons,List.length_cons];omega
  ·rw[if_neg hk,List.length_cons,List.length_cons];omega
theorem RelO.some_of {v:V}{o:Option Value}(r:RelO (some v) o):∃u,o=some u/\RelV v u:=by
 cases o with
 | none=>exact(show False from r).elim
 | some u=>exact⟨u,rfl,r⟩
theorem RelO.none_of {o:Option Value}(r:RelO none o):o=none:=by
 cases o with
 | none=>rfl
 | some u=>exact(show False from r).elim
theorem zfG {v:V}{u:Value}(r:RelV v u):PySem.W.handedIn u=true:=by
 cases v with
 | non=>cases (show u=Value.none from r);rfl
 | bl b=>cases (show u=Value.bool b from r);rfl
 | int i=>obtain⟨t,e⟩:=(show∃t,u=Value.int i t from r);cases e;rfl
 | str x=>obtain⟨t,e⟩:=(show∃t,u=Value.str x t from r);cases e;rfl
 | byt b=>obtain⟨t,e⟩:=(show∃t,u=Value.bytes b t from r);cases e;rfl
 | flt b=>obtain⟨t,e⟩:=(show∃t,u=Value.float b t from r);cases e;rfl
 | ref a=>cases (show u=Value.ref a from r);rfl
 | ty n=>cases (show u=Value.type n from r);rfl
section
variable {P:Program}{w:World}{H H':Hp}{h h':Heap}{a C dx:Addr}{fs fs':List (Str ×V)}
theorem zec (hok:HOk P w H h)(e:H a=some (.ins C dx fs)):∃mA,ObjM h a dx C mA/\(∀f,RelO (fs.lookup f) (mA f))/\PySem.Within mA (fs.map (·.1))/\fs.length<=1000/\H dx=some (.own a):=by obtain⟨d,z,ne,ob,mA,n,r,q⟩:=(show zE P w H h a (.ins C dx fs) from hok a _ e);exact⟨mA,⟨ob,n,ne⟩,r,q,z,d⟩
end
structure Cls (K:QA)(C:Addr):Prop where
 pg:PySem.W.plainGet K C Str.empty=true
 hd:PySem.W.hasDictIn K C=true
 po:PySem.W.plainOver K C=true
 sa:PySem.W.findIn K (.ref C) "__setattr__" =some (some (.builtin "object.__setattr__"))
theorem Cls.get {K:QA}{C:Addr}(c:Cls K C)(f:Str):PySem.W.plainGet K C f=true:=c.pg
noncomputable def zN (K:QA)(C:Addr)(f:Str):Prop:=PySem.W.findIn K (.ref C) f=some none
theorem zN.taker {K:QA}{C:Addr}{f:Str}(n:zN K C f):PySem.W.takerIn K C f=some none:=by
 unfold PySem.W.takerIn;rw[show PySem.W.findIn K (.ref C) f=some none from n]
 rfl
structure Con (K:QA)(C:Addr)(f:Str)(v:V)(u:Value):Prop where
 at_:PySem.W.findIn K (.ref C) f=some (some u)
 rel:RelV v u
 get:PySem.W.specialIn K u "__get__" =some none
 cp:PySem.W.copiedNames.contains f=false
structure Meth (K:QA)(C:Addr)(m:Str)(f:Addr):Prop where
 at_:PySem.W.findIn K (.ref C) m=some (some (.ref f))
 fn:PySem.W.isFn K (.ref f)=true
 kp:PySem.W.keepIn K (.ref f)=true
section
variable {X:Cx}{pins:QE}{σ:St}{H:Hp}{s:Shared}{a C dx:Addr}{fs:List (Str ×V)}{f:Str}{v:V}{A:Around}{E:QC}
theorem ziK {b:Bool}{Q:QC}(I:Inv X pins σ H s)(e:H a=some (.ins C dx fs))(c:Cls X.K C)(n:zN X.K C f)(l:fs.lookup f=some v)
  (h:∀u s',Inv X pins σ H s'->RelV v u->Q u s'):wpAny (model X.prog X.w) A (getAttr (.ref a) f b) Q E s:=by
 obtain⟨mA,O,r,_,_,_⟩:=zec I.hok e;obtain⟨u,hu,ru⟩:=RelO.some_of (v:=v) (o:=mA f) (by rw[<-l];exact r f);exact get_map I.kIn O (c.get f) c.hd n hu (zfG ru) (h u _ (I.tok _) ru)
theorem zeO {m:Str}{g:Addr}{pl:Sem Bool}{Q:Value ×List Value->Shared->Prop}(I:Inv X pins σ H s)(e:H a=some (.ins C dx fs))(c:Cls X.K C)(k:Meth X.K C m g)(l:fs.lookup m=none)
  (h:Q (.ref g,[.ref a]) s):wpAny (model X.prog X.w) A (getMethod (.ref a) m pl) Q E s:=by
 obtain⟨mA,O,r,_,_,_⟩:=zec I.hok e;have hn:mA m=none:=RelO.none_of (by rw[<-l];exact r m);exact zmc I.kIn O (c.get m) k.at_ k.fn hn h
theorem ziB {y:V}{u:Value}{Q:QD}(I:Inv X pins σ H s)(e:H a=some (.ins C dx fs))(c:Cls X.K C)(n:zN X.K C f)(hl:fs.length < 1000)(ry:RelV y u)
  (h:∀s',Inv X pins σ (upd H a (.ins C dx (putF f y fs))) s'->Q () s'):wpAny (model X.prog X.w) A (setAttr (.ref a) f u) Q E s:=by
 obtain⟨mA,O,r,wi,_,ho⟩:=zec I.hok e;have hz:(fs.map (·.1)).length<=sizeLine:=by rw[List.length_map,sizeLine_eq];omega
 refine zn7 I.kIn O c.sa c.po n.taker c.hd wi hz λh' O' sb=>h _ ?_;have hd:∃o,h'.get? dx=some o:=let ⟨o,_,_,e',_⟩:=O'.ns;⟨o,e'⟩;refine I.write (x:=a) (e:=dx) (by rw[e];exact True.intro) (.inr ho) (λb q hb z=>(sb.2 b hb).trans z) hd ?_;refine⟨by rw[zf O.ne];exact ho,?_,O.ne,O'.obj,_,O'.ns,λg=>?_,λg hg=>?_⟩
 ·have:=zdS f y fs;omega
 ·show RelO ((putF f y fs).lookup g) (if g=f then some u else mA g);rw[zbU];by_cases q:g=f
  ·rw[if_pos q,if_pos q];exact ry
  ·rw[if_neg q,if_neg q];exact r g
 ·by_cases q:g=f
  ·rw[q];exact(zbA f y fs).1
  ·refine(zbA f y fs).2 g (wi g λz=>hg ?_);show(if g=f then some u else mA g)=none;rw[if_neg q];exact z
noncomputable abbrev _root_.Jm:=@Nat.lt_succ_self
theorem Inv.made (I:Inv X pins σ H s):Inv X pins σ (upd (upd H s.heap.objs.size (.own (s.heap.objs.size+1))) (s.heap.objs.size+1) (.ins C s.heap.objs.size []))
  {s with heap:=(s.heap.push PySem.W.emptyDict).push (PySem.W.instObj C s.heap.objs.size)}:=by
 have e1:(s.heap.push PySem.W.emptyDict).get? s.heap.objs.size=some PySem.W.emptyDict:=Heap.get?_push_size s.heap rfl;have e2:((s.heap.push PySem.W.emptyDict).push (PySem.W.instObj C s.heap.objs.size)).get? (s.heap.objs.size+1)=some (PySem.W.instObj C s.heap.objs.size):=by have:=Heap.get?_push_size (s.heap.push PySem.W.emptyDict) (o:=PySem.W.instObj C s.heap.objs.size) rfl;rwa[Heap.size_push] at this
 have e3:(s.heap.push PySem.W.emptyDict).Ns s.heap.objs.size (λ_=>none):=⟨PySem.W.emptyDict, #[],_,e1,rfl,(λe he=>Je he (by simp)),λ_=>rfl⟩;have I1:=I.laid (a:=s.heap.objs.size) (o:=.own (s.heap.objs.size+1)) (h':=s.heap.push PySem.W.emptyDict) (t':=s.toks) (λb u q=>Heap.get?_push_of_some _ q) (Jb _) ⟨_,e1⟩;refine I1.laid (a:=s.heap.objs.size+1) (o:=.ins C s.heap.objs.size []) (t':=s.toks) (λb u q=>Heap.get?_push_of_some _ q) (Nat.le_of_eq (Heap.size_push _ _)) ?_;have ne:s.heap.objs.size≠s.heap.objs.size+1:=Jg (Jm _);refine⟨by rw[zf ne,za],Nat.zero_le _,ne,e2,λ_=>none,(Heap.Ns1.of_empty e3).at λo q=>Heap.get?_push_of_some _ q,λ_=>True.intro,λy hy=>Je rfl hy⟩
theorem zjr {prog:Program}{w:World}{env:Env}{e:Expr}{f:Str}{pos:Pos}{s:Shared}{Q:QC}(hb:attributeBase e f env (eval e env)=eval e env)
  (h:wpAny (model prog w) A (eval e env) (λo s₁=>wpAny (model prog w) A (getAttr o f true) Q E s₁) E s):wpAny (model prog w) A (eval (.Attribute e f pos) env) Q E s:=
 Attribute_any_ h (by rw[arm_eval_Attribute,hb])
end
noncomputable def tFld (K:QA)(ta:TE)(f:Str):TE:=fun σ H Q=>ta σ H λx H1=>∃a C dx fs v,x=.ref a/\H1 a=some (.ins C dx fs)/\Cls K C/\zN K C f/\fs.lookup f=some v/\Q v H1
noncomputable def sFld (K:QA)(ta tv:TE)(f:Str):TS:=λD σ H=>tv σ H λy H1=>ta σ H1 λx H2=>∃a C dx fs,x=.ref a/\H2 a=some (.ins C dx fs)/\Cls K C/\zN K C f/\fs.length < 1000/\
 D.nx σ (upd H2 a (.ins C dx (putF f y fs)))
section
variable {X:Cx}{o e value:Expr}{f:Str}{pos pos' tpos:Pos}{ta tv:TE}
theorem zqI (he:PE X e ta)(hb:attributeBase e f X.env (eval e X.env)=eval e X.env):PE X (.Attribute e f pos) (tFld X.K ta f):=by intro pins s σ H Q I h;refine zjr hb (thn (he pins s σ H _ I h) λu s1 ⟨x,H1,I1,rx,a,C,dx,fs,v,ex,ea,c,n,l,q⟩=>?_);subst ex;obtain rfl:u=Value.ref a:=rx;exact ziK I1 ea c n l λu' s2 I2 ru=>⟨v,H1,I2,ru,q⟩
theorem zqQ (ha:PE X o ta)(hv:PE X value tv)(hs:swapsWith value (some (.Attribute o f pos')) pos.line X.env=pure false):PS X (.Assign [.Attribute o f pos'] value pos) (sFld X.K ta tv f):=by intro pins s σ H D I h;refine plainObj_wpAny_Assign_Attribute (thn (hv pins s σ H _ I h) λu s1 ⟨y,H1,I1,ry,q⟩=>thn (ha pins s1 σ H1 _ I1 q) λov s2 ⟨x,H2,I2,rx,a,C,dx,fs,ex,ea,c,n,l,q2⟩=>?_) hs;subst ex;obtain rfl:ov=Value.ref a:=rx;exact ziB I2 ea c n l ry λs3 I3=>⟨σ,_,I3,q2⟩
theorem zpE {pl:Sem Bool}{m:Str}{apos:Pos}{args:List Expr}{pins:QE}{s:Shared}{σ:St}{H:Hp}{Q:QC}{te:TE}(he:PE X e te)(I:Inv X pins σ H s)
  (h:te σ H λx H1=>∃a C dx fs g,x=.ref a/\H1 a=some (.ins C dx fs)/\Cls X.K C/\Meth X.K C m g/\fs.lookup m=none/\
   ∀s1,Inv X pins σ H1 s1->wpAny (model X.prog X.w) X.A (callWith pos (.ref g) [.ref a] (backTo pos (starEach args X.env)) (backToKw pos (keywordEach [] X.env))) Q X.xe s1)
  (ht:eval (.Call (.Attribute e m apos) args [] pos) X.env=(do
   let ov<-eval e X.env
   standAt apos.atName
   let (f,first) <-holding [ov] (getMethod ov m pl)
   callWith pos f first (backTo pos (starEach args X.env)) (backToKw pos (keywordEach [] X.env)))):
  wpAny (model X.prog X.w) X.A (eval (.Call (.Attribute e m apos) args [] pos) X.env) Q X.xe s:=by
 refine PySem.W.methodCall_KW (pl:=pl) (thn (he pins s σ H _ I h) λu s1 ⟨x,H1,I1,rx,a,C,dx,fs,g,ex,ea,c,k,l,q⟩=>?_) ht;subst ex;obtain rfl:u=Value.ref a:=rx;exact zeO I1 ea c k l (q s1 I1)
end
section
variable {X:Cx}{pins:QE}{σ:St}{H:Hp}{s:Shared}{A:Around}{E:QC}{Q:QC}{c:Value}{b:Bool}
inductive TyOf (K:QA) (H:Hp):V->Value->Prop where
 | non:TyOf K H .non (.type "NoneType")
 | bl (x:Bool):TyOf K H (.bl x) (.type "bool")
 | int (i:Int):TyOf K H (.int i) (.type "int")
 | str (x:Str):TyOf K H (.str x) (.type "str")
 | flt (x:UInt64):TyOf K H (.flt x) (.type "float")
 | lst {a:Addr} {xs:QQ} (e:H a=some (.lst xs)):TyOf K H (.ref a) (.type "list")
 | frz {a:Addr} {o:Obj} {xs:QQ} (e:H a=some (.frz o (.lst xs))):TyOf K H (.ref a) (.type "list")
 | tup {a:Addr} {xs:QQ} (e:H a=some (.tup xs)):TyOf K H (.ref a) (.type "tuple")
 | dK {a:Addr} {kvs:QG} (e:H a=some (.dK kvs)):TyOf K H (.ref a) (.type "dict")
 | dT {a:Addr} {kvs:List (List Key ×V)} (e:H a=some (.dT kvs)):TyOf K H (.ref a) (.type "dict")
 | ins {a C dx:Addr} {fs:List (Str ×V)} (e:H a=some (.ins C dx fs)) (cl:Cls K C) (ha:PySem.W.findIn K (.ref C) "__class__" =some (some (.builtin "object.__class__")))
   (hn:PySem.W.specialIn K (.builtin "object.__class__") "__get__" =some (some (.builtin "getset_descriptor.__get__"))) (htk:PySem.W.takesIn K (.builtin "object.__class__")=some true)
   (hm:PySem.W.mroIn K C (.type "object")=some true):TyOf K H (.ref a) (.ref C)
theorem zkG {x:V}{u t:Value}(I:Inv X pins σ H s)(rx:RelV x u)(ty:TyOf X.K H x t)(e:PySem.W.kitOne X.K t c=some b)(h:∀tk,Q (.bool b) {s with toks:=tk}):
  wpAny (model X.prog X.w) A (call (.builtin "isinstance") [u,c]) Q E s:=by
 cases ty with
 | non=>cases (show u=Value.none from rx);exact PySem.W.kia_one PySem.W.kitx_none I.kIn True.intro e (λz=>nomatch z) h
 | bl y=>cases (show u=Value.bool y from rx);exact PySem.W.kia_one PySem.W.kitx_bool I.kIn True.intro e (λz=>nomatch z) h
 | int i=>obtain⟨t,q⟩:=(show∃t,u=Value.int i t from rx);cases q;exact PySem.W.kia_one PySem.W.kitx_int I.kIn True.intro e (λz=>nomatch z) h
 | str y=>obtain⟨t,q⟩:=(show∃t,u=Value.str y t from rx);cases q;exact PySem.W.kia_one PySem.W.kitx_str I.kIn True.intro e (λz=>nomatch z) h
 | flt y=>obtain⟨t,q⟩:=(show∃t,u=Value.float y t from rx);cases q;exact PySem.W.kia_one PySem.W.kitx_float I.kIn True.intro e (λz=>nomatch z) h
 | @lst a xs ea=>cases (show u=Value.ref a from rx);obtain⟨_,_,n,_,h1⟩:=(show zE X.prog X.w H s.heap a (.lst xs) from I.hok a _ ea);exact PySem.W.kia_one PySem.W.kitx_list I.kIn ⟨_,h1,rfl⟩ e (λz=>nomatch z) h
 | @frz a ob xs ea=>cases (show u=Value.ref a from rx);obtain⟨_,_,_,n,_,h1⟩:=(show zE X.prog X.w H s.heap a (.frz ob (.lst xs)) from I.hok a _ ea);exact PySem.W.kia_one PySem.W.kitx_list I.kIn ⟨_,h1,rfl⟩ e (λz=>nomatch z) h
 | @tup a xs ea=>cases (show u=Value.ref a from rx);obtain⟨_,_,_,p⟩:=(show zE X.prog X.w H s.heap a (.tup xs) from I.hok a _ ea);obtain⟨o,h1,h2,_⟩:=p;exact PySem.W.kia_one PySem.W.kitx_tuple I.kIn ⟨o,h1,h2⟩ e (λz=>nomatch z) h
 | @dK a kvs ea=>cases (show u=Value.ref a from rx);obtain⟨_,_,vs,_,p⟩:=(show zE X.prog X.w H s.heap a (.dK kvs) from I.hok a _ ea);obtain⟨o,es,ep,h1,h2,_⟩:=p;exact PySem.W.kia_one PySem.W.kitx_dict I.kIn ⟨o,h1,h2.1⟩ e (λz=>nomatch z) h
 | @dT a kvs ea=>cases (show u=Value.ref a from rx);obtain⟨_,_,xs,_,o,es,ep,h1,h2,_⟩:=(show zE X.prog X.w H s.heap a (.dT kvs) from I.hok a _ ea);exact PySem.W.kia_one PySem.W.kitx_dict I.kIn ⟨o,h1,h2.1⟩ e (λz=>nomatch z) h
 | @ins a C dx fs ea cl ha hn htk hm=>cases (show u=Value.ref a from rx);obtain⟨mA,O,_⟩:=zec I.hok ea;obtain⟨od,J,_⟩:=O.look;exact PySem.W.kia_one (PySem.W.kitx_own (cl.get _) cl.hd ha hn htk hm) I.kIn J e (λz=>nomatch z) h
end
end L2
namespace L2
open PySem PySem.Spec PyProof.Rows
structure Room (k:Nat)(A:Around):Prop where
 hd:A.handled=none
 dp:A.depth+3 * k+5 < recursionLimit
 un:A.units+16 * k+200 < cLine
theorem Room.mono {j k:Nat}{A:Around}(r:Room k A)(h:j<=k):Room j A:=⟨r.hd,by have:=r.dp;omega,by have:=r.un;omega⟩
theorem Room.deeper {k:Nat}{A:Around}(r:Room (k+1) A)(env:Env):Room k (A.deeper env):=
 ⟨r.hd,by have:=r.dp;show A.depth+1+3 * k+5 < _;omega,by have:=r.un;show A.units+3+16 * k+200 < _;omega⟩
theorem ziI {A:Around}{C:Addr}{us:QN}{kw:QK}:(A.under (.builtin "type.__call__" ⟨.ref C::us,kw⟩)).depth=A.depth+1:=by
 first | rfl | simp[Around.under,Code.weight,Code.isCreation,Code.isGuard,Code.isCaller,Code.frames,Code.isFrame,guardIds]
theorem ziz {A:Around}{C:Addr}{us:QN}{kw:QK}:(A.under (.builtin "type.__call__" ⟨.ref C::us,kw⟩)).units=A.units+1:=by
 first | rfl | simp[Around.under,Code.cUnits,Code.frames,Code.isFrame]
theorem Room.make {k:Nat}{A:Around}(r:Room (k+1) A)(C:Addr)(us:QN)(kw:QK):Room k (A.under (.builtin "type.__call__" ⟨.ref C::us,kw⟩)):=
 ⟨r.hd,by have:=r.dp;rw[ziI];omega,by have:=r.un;rw[ziz];omega⟩
theorem Room.depth {k:Nat}{A:Around}(r:Room k A):A.depth < recursionLimit:=by have:=r.dp;omega
theorem Room.units {k:Nat}{A:Around}(r:Room k A):A.units+64 < cLine:=by have:=r.un;omega
noncomputable def tNil:TA:=λ_ H Q=>Q [] H
noncomputable def zpv (ta:TE)(tr:TA):TA:=fun σ H Q=>ta σ H λx H1=>tr σ H1 λxs H2=>Q (x::xs) H2
section
variable {X:Cx}{e:Expr}{es:List Expr}{te:TE}{t:TA}{pos:Pos}
theorem za6:PA X [] tNil:=λ_ _ _ _ H Q I h=>Calls.spliced_nil ⟨[],H,I,.nil,h⟩
theorem zH (ha:PE X e te)(hr:PA X es t)(hs:starEach (e::es) X.env=(false,eval e X.env)::starEach es X.env:=by rfl):PA X (e::es) (zpv te t):=by intro pos pins s σ H Q I h;rw[hs];show wpAny _ _ (spliced ((false,eval e X.env)::backTo pos (starEach es X.env))) _ _ s;refine Calls.spliced_cons (thn (ha pins s σ H _ I h) λu s1 ⟨x,H1,I1,r1,q1⟩=>?_);exact thn (hr pos pins s1 σ H1 _ I1 q1) λus s2 ⟨xs,H2,I2,r2,q2⟩=>⟨x::xs,H2,I2,.cons r1 r2,q2⟩
noncomputable def tTup (t:TA):TE:=fun σ H Q=>t σ H λxs H1=>xs.length<=sizeLine/\∀p,H1 p=none->Q (.ref p) (upd H1 p (.tup xs))
noncomputable def tLst (t:TA):TE:=fun σ H Q=>t σ H λxs H1=>xs.length<=sizeLine/\∀p,H1 p=none->Q (.ref p) (upd H1 p (.lst xs))
theorem zlE {x1}(h:PA X es t):PE X (.Tuple es x1 pos) (tTup t):=by intro pins s σ H Q I hq;refine wpAny_Tuple_spliced (thn (h pos pins s σ H _ I hq) λus s1 ⟨xs,H1,I1,r,z,q⟩=>⟨by rw[<-r.length];exact z,?_⟩);have hf:H1 s1.heap.objs.size=none:=I1.hok.fresh (Jb _);refine⟨.ref s1.heap.objs.size,upd H1 s1.heap.objs.size (.tup xs),I1.laid (t':=s1.toks) (λb u e=>Heap.get?_push_of_some _ e) (Jb _) ?_,rfl,q _ hf⟩;exact⟨z,us,r,⟨_,Heap.get?_push_size _ rfl,rfl,_,rfl⟩⟩
theorem zgz (h:PA X es t):PE X (.List es pos) (tLst t):=by intro pins s σ H Q I hq;refine wpAny_List_spliced (thn (h pos pins s σ H _ I hq) λus s1 ⟨xs,H1,I1,r,z,q⟩=>⟨by rw[<-r.length];exact z,?_⟩);have hf:H1 s1.heap.objs.size=none:=I1.hok.fresh (Jb _);refine⟨.ref s1.heap.objs.size,upd H1 s1.heap.objs.size (.lst xs),I1.laid (t':=s1.toks) (λb u e=>Heap.get?_push_of_some _ e) (Jb _) ?_,rfl,q _ hf⟩;exact⟨z,us,0,r,Heap.get?_push_size _ rfl⟩
end
noncomputable abbrev Sp:=List V->Hp->VK->XK->Prop
noncomputable abbrev CXT:=List Env->Hp->Shared->XK->Value->Shared->Prop
structure Env0 (P:Program)(w:World)(K:QA)(mg:QB)(base:Heap)(A:Around)(outer:List Env)(s:Shared)(H:Hp):Prop where
 frames:A.frames=some outer
 mod:Mod K mg base
 bs:∀b o,base.get? b=some o->s.heap.get? b=some o/\H b=none
 bsz:base.objs.size<=s.heap.objs.size
 funs:s.heap.FunFrames base outer
 frf:∀b∈frs outer,H b=none
 hok:HOk P w H s.heap
 bare:AllBare s.gens
noncomputable def CE (outer:List Env)(P:Program)(w:World)(H:Hp)(s:Shared)(Q:VK)(u:Value)(s':Shared):Prop:=
 ∃v H',s'.os=s.os/\AllBare s'.gens/\Un (frs outer) [] H H' s.heap s'.heap/\HOk P w H' s'.heap/\RelV v u/\Q v H'
noncomputable def CR (CX:CXT)(outer:List Env)(P:Program)(w:World)(H:Hp)(s:Shared)(Q:VK)(E:XK)(r:Result)(s':Shared):Prop:=
 match r with
 | .ok (.ret u)=>CE outer P w H s Q u s'
 | .ok _=>False
 | .error e=>CX outer H s E e s'
structure FnOk (P:Program)(w:World)(K:QA)(mg:QB)(base:Heap)(CX:CXT)(k:Nat)(f:Addr)(fd:FuncData)(ps:QP)(sp:Sp):Prop where
 len:∀vs H Q E,sp vs H Q E->vs.length=ps.length
 run:∀(A:Around) (outer:List Env) (s:Shared) (H:Hp) (args:Args) (us:QN) (vs:QQ) (Q:VK) (E:XK),Room k A->Env0 P w K mg base A outer s H->BindsTo s fd args (ps.zip us)->Vals vs us->sp vs H Q E->
  codeAny (model P w) A (.call (.ref f) args) (CR CX outer P w H s Q E) s
theorem FnOk.mono {P:Program}{w:World}{K:QA}{mg:QB}{base:Heap}{CX:CXT}{j k:Nat}{f:Addr}{fd:FuncData}{ps:QP}{sp:Sp}(F:FnOk P w K mg base CX j f fd ps sp)(h:j<=k):
  FnOk P w K mg base CX k f fd ps sp:=⟨F.len,λA outer s H args us vs Q E hr=>F.run A outer s H args us vs Q E (hr.mono h)⟩
theorem FnOk.imp {P:Program}{w:World}{K:QA}{mg:QB}{base:Heap}{CX:CXT}{k:Nat}{f:Addr}{fd:FuncData}{ps:QP}{sp sp':Sp}(F:FnOk P w K mg base CX k f fd ps sp)
  (h:∀vs H Q E,sp' vs H Q E->sp vs H Q E):FnOk P w K mg base CX k f fd ps sp':=
 ⟨λvs H Q E q=>F.len vs H Q E (h _ _ _ _ q),λA outer s H args us vs Q E hr he hb hv hs=>F.run A outer s H args us vs Q E hr he hb hv (h _ _ _ _ hs)⟩
theorem Env0.make {P:Program}{w:World}{K:QA}{mg:QB}{base:Heap}{A:Around}{outer:List Env}{s:Shared}{H:Hp}(e:Env0 P w K mg base A outer s H)(C:Addr)(us:QN)(kw:QK):
  Env0 P w K mg base (A.under (.builtin "type.__call__" ⟨.ref C::us,kw⟩)) outer s H:=⟨by first | exact e.frames | (simpa [Around.under,Code.envs,Code.isFrame,pushEnvs] using e.frames),e.mod,e.bs,e.bsz,e.funs,e.frf,e.hok,e.bare⟩
section
variable {X:Cx}{pins:QE}{σ:St}{H:Hp}{s s':Shared}
theorem Inv.env0 (I:Inv X pins σ H s):Env0 X.prog X.w X.K X.mg X.base X.A X.stack s H:=
 ⟨I.ok.frames,I.ok.mod,I.bs,Ji I.ok.bsz I.sz,I.stack,I.stkFree,I.hok,I.bare⟩
theorem Inv.after {Q:VK}{u:Value}(I:Inv X pins σ H s)(h:CE X.stack X.prog X.w H s Q u s'):EP X pins σ Q u s':=by obtain⟨v,H',os,bare,un,hok,r,q⟩:=h;obtain⟨hh,g,d,t,os'⟩:=s';obtain rfl:os'=s.os:=os;exact⟨v,H',I.call (h':=hh) (g':=g) (d':=d) (t':=t) (ch:=[]) un hok bare (λb z=>Je z (by simp)),r,q⟩
end
noncomputable def zlq (sp:Sp)(dvs:QQ)(E:XK)(t:TA):TE:=fun σ H Q=>t σ H λvs H1=>sp (vs++dvs) H1 Q E
noncomputable def zpK (C:Addr)(m:Str)(sp:Sp)(dvs:QQ)(E:XK)(ta:TE)(t:TA):TE:=fun σ H Q=>ta σ H λx H1=>∃a dx fs,x=.ref a/\H1 a=some (.ins C dx fs)/\fs.lookup m=none/\
 t σ H1 λvs H2=>sp (x::(vs++dvs)) H2 Q E
noncomputable def zpB (C:Addr)(sp:Sp)(dvs:QQ)(E:XK)(t:TA):TE:=fun σ H Q=>t σ H λvs H1=>∀x dx,H1 x=none->H1 dx=none->dx≠x->
 sp (.ref x::(vs++dvs)) (upd (upd H1 dx (.own x)) x (.ins C dx [])) (λv H2=>v=.non/\Q (.ref x) H2) E
noncomputable def Binds (K:QA)(fd:FuncData)(ps:QP)(ds:QN):Prop:=
 ∀(s:Shared) (us:QN),K.In s.heap->(us++ds).length=ps.length->BindsTo s fd ⟨us,[]⟩ (ps.zip (us++ds))
theorem Binds.all {K:QA}{fd:FuncData}{ps:QP}(h:∀us:List Value,us.length=ps.length->bindArgs fd ⟨us,[]⟩=pure (ps.zip us)):Binds K fd ps []:=λs us _ hl=>by rw[List.append_nil] at hl ⊢;exact .of_eq (h us hl)
noncomputable def zbG (CX:CXT)(X:Cx)(E:XK):Prop:=∀(pins:QE) (σ:St) (H:Hp) (s:Shared) (e:Value) (s':Shared),Inv X pins σ H s->CX X.stack H s E e s'->X.xe e s'
section
variable {X:Cx}{CX:CXT}{k:Nat}{f C:Addr}{fd:FuncData}{ps:QP}{sp:Sp}{dvs:QQ}{ds:QN}{E:XK}{x m:Str}{p pos apos:Pos}{e o:Expr}{es:List Expr}{ta:TE}{t:TA}
theorem zmq {pins:QE}{σ:St}{H:Hp}{s:Shared}{Q:VK}{us:QN}{vs:QQ}(F:FnOk X.prog X.w X.K X.mg X.base CX k f fd ps sp)(hr:Room k X.A)(hb:Binds X.K fd ps ds)(hd:Vals dvs ds)(hx:zbG CX X E)
  (I:Inv X pins σ H s) (r:Vals vs us) (h:sp (vs++dvs) H Q E):wpAny (model X.prog X.w) X.A (call (.ref f) us) (EP X pins σ Q) X.xe s:=by
 have r2:Vals (vs++dvs) (us++ds):=r.append hd;have hl:(us++ds).length=ps.length:=by rw[<-r2.length];exact F.len _ _ _ _ h
 refine wpAny_call (codeAny_mono (F.run X.A X.stack s H ⟨us,[]⟩ (us++ds) (vs++dvs) Q E hr I.env0 (hb s us I.kIn hl) r2 h) λr s' hq=>?_);cases r with
 | error e=>exact hx pins σ H s e s' I hq
 | ok fl=>
  cases fl with
  | ret u=>exact I.after hq
  | next=>exact False.elim hq
  | brk=>exact False.elim hq
  | cont=>exact False.elim hq
theorem zjw (F:FnOk X.prog X.w X.K X.mg X.base CX k f fd ps sp)(hr:Room k X.A)(hg:Gl X x)(hm:X.mg x=some (.ref f))(hk:PySem.W.keepIn X.K (.ref f)=true)(hb:Binds X.K fd ps ds)(hd:Vals dvs ds)(hx:zbG CX X E)
  (ha:PA X (e::es) t) (hdb:(x==("__debug__" :Str))=false:=by decide) (he:starEach (e::es) X.env=(false,eval e X.env)::starEach es X.env:=by rfl) (hpl:(backTo pos (starEach es X.env)).any (·.1)=false:=by rfl):
  PE X (.Call (.Name x p) (e::es) [] pos) (zlq sp dvs E t):=by
 intro pins s σ H Q I h;refine wpAny_Call_Name_kw (zao I hg hm ?_ hdb);refine PySem.W.callWith_K (h₀:=X.base) I.ok.mod.kin hk (thn (ha pos pins s σ H _ I h) λus s1 ⟨vs,H1,I1,r,q⟩=>⟨I1.kIn,?_⟩) he hpl;exact zmq F hr hb hd hx I1 r q
theorem znX {pl:Sem Bool}(he:PE X o ta)(c:Cls X.K C)(hm:Meth X.K C m f)(F:FnOk X.prog X.w X.K X.mg X.base CX k f fd ps sp)(hr:Room k X.A)(hb:Binds X.K fd ps ds)(hd:Vals dvs ds)(hx:zbG CX X E)(ha:PA X (e::es) t)
  (hst:starEach (e::es) X.env=(false,eval e X.env)::starEach es X.env:=by rfl) (hpl:(backTo pos (starEach es X.env)).any (·.1)=false:=by rfl)
  (ht:eval (.Call (.Attribute o m apos) (e::es) [] pos) X.env=(do
   let ov<-eval o X.env
   standAt apos.atName
   let (f,first) <-holding [ov] (getMethod ov m pl)
   callWith pos f first (backTo pos (starEach (e::es) X.env)) (backToKw pos (keywordEach [] X.env))):=by rfl):
  PE X (.Call (.Attribute o m apos) (e::es) [] pos) (zpK C m sp dvs E ta t):=by
 intro pins s σ H Q I h;refine PySem.W.methodCall_KW (pl:=pl) (thn (he pins s σ H _ I h) λu s1 ⟨x,H1,I1,rx,a,dx,fs,ex,ea,l,q⟩=>?_) ht;subst ex;obtain rfl:u=Value.ref a:=rx;refine zeO I1 ea c hm l ?_;refine PySem.W.callWith_K (first:=[.ref a]) (h₀:=X.base) I.ok.mod.kin hm.kp (thn (ha pos pins s1 σ H1 _ I1 q) λus s2 ⟨vs,H2,I2,r,q2⟩=>⟨I2.kIn,?_⟩) hst hpl;exact zmq (us:=.ref a::us) (vs:=.ref a::vs) F hr hb hd hx I2 (.cons rfl r) q2
structure Mk (K:QA)(C f:Addr):Prop where
 makes:PySem.W.makesIn K C=true
 init:PySem.W.findIn K (.ref C) "__init__" =some (some (.ref f))
 fn:PySem.W.isFn K (.ref f)=true
 kp:PySem.W.keepIn K (.ref C)=true
theorem zmr {pins:QE}{σ:St}{H:Hp}{s:Shared}{Q:VK}{us:QN}{vs:QQ}(M:Mk X.K C f)(F:FnOk X.prog X.w X.K X.mg X.base CX k f fd ps sp)(hr:Room (k+1) X.A)(hb:Binds X.K fd ps ds)(hd:Vals dvs ds)
  (hx:zbG CX X E) (I:Inv X pins σ H s) (r:Vals vs us)
  (h:∀x dx,H x=none->H dx=none->dx≠x->sp (.ref x::(vs++dvs)) (upd (upd H dx (.own x)) x (.ins C dx [])) (λv H2=>v=.non/\Q (.ref x) H2) E):
  wpAny (model X.prog X.w) X.A (call (.ref C) us) (EP X pins σ Q) X.xe s:=by
 have hq:=h (s.heap.objs.size+1) s.heap.objs.size (I.hok.fresh (Nat.le_succ _)) (I.hok.fresh (Jb _)) (Jg (Jm _));have I2:=Inv.made (C:=C) I;have r2:Vals (V.ref (s.heap.objs.size+1)::(vs++dvs)) (Value.ref (s.heap.objs.size+1)::(us++ds)):=.cons rfl (r.append hd);have hl:(Value.ref (s.heap.objs.size+1)::us++ds).length=ps.length:=by have e:=r2.length;rw[F.len _ _ _ _ hq] at e;exact e.symm
 refine wpAny_call (zmN (f:=f) I.kIn M.makes M.init (beq_iff_eq.mp M.fn) (codeAny_mono (F.run _ X.stack _ _ ⟨Value.ref (s.heap.objs.size+1)::us,[]⟩ (Value.ref (s.heap.objs.size+1)::(us++ds)) _ _ E (hr.make C us [])
  (I2.env0.make C us []) (hb _ (Value.ref (s.heap.objs.size+1)::us) I2.kIn hl) r2 hq) λr s' hq'=>?_))
 cases r with
 | error e=>exact hx pins σ _ _ e s' I2 hq'
 | ok fl=>
  cases fl with
  | ret u=>obtain⟨v,H',I3,rv,ev,q3⟩:=I2.after hq';subst ev;exact⟨rv,⟨V.ref (s.heap.objs.size+1),H',I3,rfl,q3⟩⟩
  | next=>exact False.elim hq'
  | brk=>exact False.elim hq'
  | cont=>exact False.elim hq'
theorem zmn (M:Mk X.K C f)(F:FnOk X.prog X.w X.K X.mg X.base CX k f fd ps sp)(hr:Room (k+1) X.A)(hg:Gl X x)(hm:X.mg x=some (.ref C))(hb:Binds X.K fd ps ds)(hd:Vals dvs ds)(hx:zbG CX X E)
  (hdb:(x==("__debug__" :Str))=false:=by decide):PE X (.Call (.Name x p) [] [] pos) (zpB C sp dvs E tNil):=by
 intro pins s σ H Q I h;refine wpAny_Call_Name_kw (zao I hg hm ?_ hdb);exact PySem.W.callWith_K0 I.kIn M.kp (zmr (us:=[]) M F hr hb hd hx I .nil h)
end
section
variable {X:Cx}{CX:CXT}{k:Nat}{f C:Addr}{fd:FuncData}{ps ks:QP}{sp:Sp}{E:XK}{x m:Str}{p pos apos kpos:Pos}{e o:Expr}{es:List Expr}{kws:List Keyword}{te ta:TE}{t tk:TA}{nm:Option Str}
structure zsy (K:QA)(fd:FuncData)(ps ks:QP)(g:List Value->List Value->List Value)(gV:List V->List V->List V):Prop where
 to:∀(s:Shared) (us ws:QN),K.In s.heap->(g us ws).length=ps.length->BindsTo s fd ⟨us,ks.zip ws⟩ (ps.zip (g us ws))
 rel:∀{vs:QQ} {us:QN} {zs:QQ} {ws:QN},Vals vs us->Vals zs ws->Vals (gV vs zs) (g us ws)
variable {g:List Value->List Value->List Value}{gV:List V->List V->List V}
end
structure zaE (N P:QP)(sc:Scope):Prop where
 kind:sc.kind=.function
 co:sc.isCoroutine=false
 gen:sc.isGenerator=false
 nd:N.Nodup
 pre:N.take P.length=P
 par:∀x∈P,sc.names.lookup x=some .local\/sc.names.lookup x=some .cell
 nofree:∀y∈sc.names,y.2≠ .free
theorem fsN (N:QP){P:QP}{sc:Scope}(h:sc.kind=.function/\sc.isCoroutine=false/\sc.isGenerator=false/\N.Nodup/\N.take P.length=P/\(∀x∈P,sc.names.lookup x=some .local\/sc.names.lookup x=some .cell)/\∀y∈sc.names,y.2≠ .free:=by decide+kernel):zaE N P sc:=⟨h.1,h.2.1,h.2.2.1,h.2.2.2.1,h.2.2.2.2.1,h.2.2.2.2.2.1,h.2.2.2.2.2.2⟩
theorem zfx {kindOf:Str->Option NameKind}{x:Str}:∀{binds:QK} {m:QB},(∀v,(x,v)∉binds)->bindL kindOf binds m x=m x
 | [],_,_=>rfl
 | (n,v)::r,m,h=>by
  unfold bindL;rw[zfx λw hw=>h w (Jh _ hw)];split
  ·have:x≠n:=by rintro rfl;exact h v List.mem_cons_self
   simp[this]
  ·rfl
theorem zfI {kindOf:Str->Option NameKind}{x:Str}:∀{binds:QK} {m:QB},(∀v,(x,v)∉binds)->bindC kindOf binds m x=m x
 | [],_,_=>rfl
 | (n,v)::r,m,h=>by
  unfold bindC;rw[zfI λw hw=>h w (Jh _ hw)];split
  ·rfl
  ·have:x≠n:=by rintro rfl;exact h v List.mem_cons_self
   simp[this]
theorem zfS {kindOf:Str->Option NameKind}{x:Str}{v:Value}:∀{P:QP} {vs:QN} {i:Nat} {m:QB},P.Nodup->P[i]? =some x->vs[i]? =some v->kindOf x=some .local->
  bindL kindOf (P.zip vs) m x=some v
 | [],_,_,_,_,h,_,_=>by simp at h
 | _::_,[],_,_,_,_,h,_=>by simp at h
 | p::P,w::vs,0,m,nd,h1,h2,hk=>by simp at h1 h2;subst h1;subst h2;show bindL kindOf ((p,w)::P.zip vs) m p=_;unfold bindL;rw[zfx λv hv=>(List.nodup_cons.mp nd).1 (List.of_mem_zip hv).1,if_pos hk];simp
 | p::P,w::vs,i+1,m,nd,h1,h2,hk=>by show bindL kindOf ((p,w)::P.zip vs) m x=_;unfold bindL;exact zfS (i:=i) (List.nodup_cons.mp nd).2 (by simpa using h1) (by simpa using h2) hk
theorem zfW {kindOf:Str->Option NameKind}{x:Str}{v:Value}:∀{P:QP} {vs:QN} {i:Nat} {m:QB},P.Nodup->P[i]? =some x->vs[i]? =some v->kindOf x≠some .local->
  bindC kindOf (P.zip vs) m x=some v
 | [],_,_,_,_,h,_,_=>by simp at h
 | _::_,[],_,_,_,_,h,_=>by simp at h
 | p::P,w::vs,0,m,nd,h1,h2,hk=>by simp at h1 h2;subst h1;subst h2;show bindC kindOf ((p,w)::P.zip vs) m p=_;unfold bindC;rw[zfI λv hv=>(List.nodup_cons.mp nd).1 (List.of_mem_zip hv).1,if_neg hk];simp
 | p::P,w::vs,i+1,m,nd,h1,h2,hk=>by show bindC kindOf ((p,w)::P.zip vs) m x=_;unfold bindC;exact zfW (i:=i) (List.nodup_cons.mp nd).2 (by simpa using h1) (by simpa using h2) hk
noncomputable def start (N:QP)(vs:QQ):St:=vs.map some++List.replicate (N.length - vs.length) none
noncomputable def cxOf (CX:CXT)(P:Program)(w:World)(K:QA)(mg:QB)(base:Heap)(N:QP)(qual:Str)(scope:Scope)(f:Addr)(cd:Value)(A:Around)(outer:List Env)(s:Shared)(H:Hp)(E:XK):Cx where
 prog:=P
 w:=w
 K:=K
 mg:=mg
 base:=base
 A:=A.deeper (envOfC qual scope s.heap.objs.size f cd)
 N:=N
 s₀:=s
 H₀:=H
 env:=envOfC qual scope s.heap.objs.size f cd
 outer:=outer
 stack:=envOfC qual scope s.heap.objs.size f cd::outer
 ex:=[]
 calm:=true
 fn:=λ_=>true
 pn:=[]
 xe:=λe s'=>wpAny (model P w) (A.deeper (envOfC qual scope s.heap.objs.size f cd)) (leaving (envOfC qual scope s.heap.objs.size f cd) e) (λ_ s''=>CX outer H s E e s'') (λe' s''=>CX outer H s E e' s'') s'
theorem zhh {sc:Scope}{n:Nat}{x:Str}(h:sc.names.lookup x=some .cell):∃c,(cellsFrom n sc.names []).lookup x=some c:=by have q:=PySem.W.cellsFrom_some sc.names n [] (.inl h);exact Option.isSome_iff_exists.mp q
theorem zky {CX:CXT}{P:Program}{w:World}{K:QA}{mg:QB}{base:Heap}{N ps:QP}{qual:Str}{scope:Scope}{f:Addr}{cd:Value}{A:Around}{outer:List Env}{s s1:Shared}{H:Hp}{E:XK}{us:QN}{vs:QQ}
  (S:zaE N ps scope) (hd:A.handled=none) (e0:Env0 P w K mg base A outer s H) (hl:vs.length=ps.length) (r:Vals vs us)
  (x:InCallC s s.heap.objs.size (bindL (envOfC qual scope s.heap.objs.size f cd).kindOf (ps.zip us) λ_=>none) (cellsFrom (s.heap.objs.size+1) scope.names []) (bindC (envOfC qual scope s.heap.objs.size f cd).kindOf (ps.zip us) λ_=>none) s1):
  Inv (cxOf CX P w K mg base N qual scope f cd A outer s H E) [] (start N vs) H s1:=by
 have hpl:ps.length<=N.length:=by have:=congrArg List.length S.pre;rw[List.length_take] at this;omega
 obtain⟨h1,tk,rfl,hk⟩:=x.done;have noA:∀b:Addr,b∉(cxOf CX P w K mg base N qual scope f cd A outer s H E).ex:=λb z=>Je (show b∈([]:QO) from z) (by simp);refine⟨⟨e0.mod,S.kind,rfl,rfl,Jb _,λy z c h1 h2=>?_,λy hy=>?_,λy c _ h=>?_,λ_=>hd,Around.frames_deeper e0.frames,.inr ⟨rfl,rfl⟩,λb z=>Je z (noA b),e0.bs,e0.bsz,λb _ _=>noA b,λb z=>Je z (noA b),e0.funs,e0.frf⟩,
  rfl,e0.bare,Un.kept hk,⟨_,x.toInCall.ns,λi y v h1 h2 h3=>?_⟩,λy c h=>⟨_,x.cell y c h⟩,e0.hok.fresh (Jb _),λy c h=>?_,λp hp=>Je (show p∈([]:QE) from hp) (by simp),e0.hok.kept hk,?_⟩
 ·exact name_of_addr x.apart (PySem.mem_of_lookup h1) (PySem.mem_of_lookup h2)
 ·have hy:scope.names.lookup y=some .cell\/scope.names.lookup y=some .free:=hy;rcases hy with hy | hy
  ·exact zhh hy
  ·exact Je rfl (S.nofree _ (PySem.mem_of_lookup hy))
 ·exact Nat.le_of_lt (x.above y c (PySem.mem_of_lookup h))
 ·have hi:i < vs.length:=by
   unfold start at h2;by_cases hi:i < vs.length
   ·exact hi
   ·rw[List.getElem?_append_right (by simpa using hi)] at h2;rw[List.getElem?_replicate] at h2;split at h2 <;> cases h2
  have ha:vs[i]? =some v:=by
   unfold start at h2;rw[List.getElem?_append_left (by simpa using hi),List.getElem?_map] at h2;cases e:vs[i]? with
   | none=>rw[e] at h2;cases h2
   | some a=>rw[e] at h2;cases h2;rfl
  obtain⟨u,hu,rv⟩:=r.get ha;have hp:ps[i]? =some y:=by rw[<-S.pre,List.getElem?_take_of_lt (by omega)];exact h1
  have ndP:ps.Nodup:=by rw[<-S.pre];exact S.nd.sublist (List.take_sublist _ _)
  refine⟨u,rv,?_⟩;rcases S.par y (List.mem_of_getElem? hp) with k | k
  ·exact .inl ⟨k,zfS ndP hp hu k⟩
  ·obtain⟨c,e⟩:=zhh (n:=s.heap.objs.size+1) k;refine .inr ⟨.inl k,c,e,?_⟩;have q:=x.cell y c e;rw[zfW ndP hp hu (by show scope.names.lookup y≠_;rw[k];decide)] at q;exact q
 ·exact e0.hok.fresh (Nat.le_of_lt (x.above y c (PySem.mem_of_lookup h)))
 ·unfold start;show _=N.length;rw[List.length_append,List.length_map,List.length_replicate];omega
noncomputable abbrev _root_.QJ:=Array (Option Value)
theorem zpL {CX:CXT}{P:Program}{w:World}{K:QA}{mg:QB}{base:Heap}{k:Nat}{f:Addr}{name qual:Str}{params:Arguments}{body:List Stmt}{scope:Scope}{dV kV doc pm cdv ct oc:Value}{an od:QM}
  {osl:QJ} {N ps:QP} {sp:Sp} (lk:K.lookup f=some ⟨oc,od,.func (PySem.W.fnOf name qual params body scope dV kV doc pm an cdv ct),osl⟩) (hcd:PySem.W.codeIn K cdv qual=true) (S:zaE N ps scope)
  (len:∀vs H Q E,sp vs H Q E->vs.length=ps.length)
  (hbody:∀(A:Around) (outer:List Env) (s:Shared) (H:Hp) (vs:QQ) (Q:VK) (E:XK),Room k (A.deeper (envOfC qual scope s.heap.objs.size f cdv))->sp vs H Q E->
   ∃t,PSs (cxOf CX P w K mg base N qual scope f cdv A outer s H E) body t/\t {nx:=λ_ H'=>Q .non H',rt:=Q} (start N vs) H):
  FnOk P w K mg base CX (k+1) f (PySem.W.fnOf name qual params body scope dV kV doc pm an cdv ct) ps sp:=by
 refine⟨len,λA outer s H args us vs Q E hr e0 hb r hsp=>?_⟩;have hl:=len _ _ _ _ hsp;have KX:K.In s.heap:=e0.mod.kin.keeps λb o e=>(e0.bs b o e).1;have lim:s.heap.NoLimit:=e0.mod.nolimit.keeps λb o e=>(e0.bs b o e).1;have hkind:∀y∈ps.zip us,scope.names.lookup y.1=some .local\/(scope.names.lookup y.1=some .cell/\((cellsFrom (s.heap.objs.size+1) scope.names []).lookup y.1).isSome=true):=λ⟨n,v⟩ hy=>by
  rcases S.par n (List.of_mem_zip hy).1 with q | q
  ·exact .inl q
  ·exact .inr ⟨q,PySem.W.cellsFrom_some _ _ _ (.inl q)⟩
 refine codeAny_call_function hr.depth (KX _ _ lk) rfl S.co S.gen rfl (PySem.W.codeRec_of KX hcd) (hb _ _ _ _ ?_);refine wpAny_newFunctionEnv_cells S.kind hkind λenv he s1 x=>?_;subst he;refine⟨lim.keeps x.toInCall.keep,codeAny_func ?_⟩;obtain⟨t,ht,hq⟩:=hbody A outer s H vs Q E (hr.deeper _) hsp;have I:Inv (cxOf CX P w K mg base N qual scope f cdv A outer s H E) [] (start N vs) H s1:=zky S hr.hd e0 hl r x;refine wpAny_mono (ht [] s1 (start N vs) H _ I hq) (λfl s' hs=>?_) λe s' hs=>hs;have fin:∀{σ':St} {H':Hp} {v:V} {u:Value},Inv (cxOf CX P w K mg base N qual scope f cdv A outer s H E) [] σ' H' s'->RelV v u->Q v H'->CE outer P w H s Q u s':=
  λ{σ' H' v u} J rv q=>⟨v,H',J.os,J.bare,J.base,J.hok,rv,q⟩
 cases fl with
 | ret u=>obtain⟨v,σ',H',J,rv,q⟩:=hs;exact fin J rv q
 | next=>obtain⟨σ',H',J,q⟩:=hs;exact fin (v:=V.non) (u:=Value.none) J rfl q
 | brk=>obtain⟨_,_,_,q⟩:=hs;exact False.elim q
 | cont=>obtain⟨_,_,_,q⟩:=hs;exact False.elim q
end L2
namespace L2
open PySem PySem.Spec PyProof.Rows
section
variable {X:Cx}{x:Str}{p pos:Pos}{e:Expr}{es:List Expr}{t:TA}{id T:String}{r:List V->Hp->VK->Prop}
noncomputable def tCB (r:List V->Hp->VK->Prop)(t:TA):TE:=fun σ H Q=>t σ H λvs H1=>r vs H1 Q
theorem zv (hc:z9 X (.builtin id) r)(hg:Gl X x)(hm:X.mg x=none)(hv:bootBuiltins x=some (.builtin id))(ha:PA X (e::es) t)(hn:x≠ "__name__" :=by decide) (hdb:(x==("__debug__" :Str))=false:=by decide)
  (he:starEach (e::es) X.env=(false,eval e X.env)::starEach es X.env:=by rfl) (hpl:(backTo pos (starEach es X.env)).any (·.1)=false:=by rfl):PE X (.Call (.Name x p) (e::es) [] pos) (tCB r t):=by
 intro pins s σ H Q I h;refine wpAny_Call_Name_kw (zbj I hg hm hv ?_ hn hdb);exact PyProof.Rows.callWith_builtin1 (thn (ha pos pins s σ H _ I h) λus s1 ⟨vs,H1,I1,r1,q1⟩=>hc pins s1 σ H1 vs us Q I1 r1 q1) he hpl
theorem zf8 (hc:z9 X (.type T) r)(hg:Gl X x)(hm:X.mg x=none)(hv:bootBuiltins x=some (.type T))(ha:PA X (e::es) t)(hn:x≠ "__name__" :=by decide) (hdb:(x==("__debug__" :Str))=false:=by decide)
  (he:starEach (e::es) X.env=(false,eval e X.env)::starEach es X.env:=by rfl) (hpl:(backTo pos (starEach es X.env)).any (·.1)=false:=by rfl):PE X (.Call (.Name x p) (e::es) [] pos) (tCB r t):=by
 intro pins s σ H Q I h;refine wpAny_Call_Name_kw (zbj I hg hm hv ?_ hn hdb);exact PyProof.Rows.callWith_type1 (thn (ha pos pins s σ H _ I h) λus s1 ⟨vs,H1,I1,r1,q1⟩=>hc pins s1 σ H1 vs us Q I1 r1 q1) he hpl
end
end L2
namespace HT
open PySem PyProof.Rows
noncomputable def lexLt:List Int->List Int->Bool
 | [],[]=>false
 | [],_::_=>true
 | _::_,[]=>false
 | x::xs,y::ys=>if x=y then lexLt xs ys else decide (x < y)
theorem lexLt_cons (x y:Int)(xs ys:List Int):lexLt (x::xs) (y::ys)=if x=y then lexLt xs ys else decide (x < y):=rfl
section
open PySem.SeqAt
open PySem.AutoSeq1 (wpAny_loadPart')
open PySem.MeetsSeq PySem.MeetsSeq2 PySem.MeetsSeq3
end
section
variable {prog:Program}{w:World}{A:Around}{E:QC}{s:Shared}
noncomputable def sIx (n d:Nat):Option Int->Nat
 | none=>d
 | some v=>if v < 0 then(v+(n:Int)).toNat else min v.toNat n
theorem sIx_none (n d:Nat):sIx n d none=d:=rfl
theorem sIx_nat (n d k:Nat):sIx n d (some (k:Int))=min k n:=by show(if (k:Int) < 0 then((k:Int)+(n:Int)).toNat else min (k:Int).toNat n)=min k n;rw[if_neg (by omega),Int.toNat_natCast]
theorem sIx_le (n d:Nat)(hd:d<=n)(o:Option Int):sIx n d o<=n:=by
 cases o with
 | none=>exact hd
 | some v=>
  show(if v < 0 then(v+(n:Int)).toNat else min v.toNat n)<=n;by_cases hv:v < 0
  ·rw[if_pos hv];omega
  ·rw[if_neg hv];exact Nat.min_le_right _ _
theorem clip_eq (v:Int)(n d:Nat):(if v < 0 then max (v+(n:Int)) 0 else min v (n:Int))=((sIx n d (some v):Nat):Int):=by
 show(if v < 0 then max (v+(n:Int)) 0 else min v (n:Int))=(((if v < 0 then(v+(n:Int)).toNat else min v.toNat n):Nat):Int);by_cases hv:v < 0
 ·simp only[if_pos hv];omega
 ·simp only[if_neg hv];omega
end
end HT
namespace L2
open PySem PySem.Spec PyProof.Rows
noncomputable abbrev TO:=St->Hp->(Option Int->Hp->Prop)->Prop
noncomputable def PO (X:Cx)(e:Option Expr)(t:TO):Prop:=
 ∀(pins:QE) (s:Shared) (σ:St) (H:Hp) (Q:Option Int->Hp->Prop),Inv X pins σ H s->t σ H Q->
  wpAny (model X.prog X.w) X.A (evalPart e X.env) (λu s'=>∃o H',Inv X pins σ H' s'/\IsPart u o/\Q o H') X.xe s
noncomputable def zoZ:TO:=λ_ H Q=>Q none H
noncomputable def zsc (t:TE):TO:=fun σ H Q=>t σ H λx H1=>∃i,x=.int i/\Q (some i) H1
section
variable {X:Cx}{e:Expr}{te:TE}{lo hi:Option Expr}{tl th:TO}{pos p2:Pos}
theorem zoV:PO X none zoZ:=by intro pins s σ H Q I h;rw[evalPart_none];exact wpAny_pure ⟨none,H,I,.none,h⟩
theorem zgk (h:PE X e te):PO X (some e) (zsc te):=by intro pins s σ H Q I hw;rw[evalPart_some];refine thn (h pins s σ H _ I hw) λu s1 ⟨x,H1,I1,r1,q1⟩=>?_;obtain⟨i,rfl,q⟩:=q1;obtain⟨t,rfl⟩:=r1;exact⟨some i,H1,I1,.int i t,q⟩
noncomputable def SlR (X:Cx)(r:V->Option Int->Option Int->Hp->VK->Prop):Prop:=
 ∀(pins:QE) (s:Shared) (σ:St) (H:Hp) (x:V) (v vl vu:Value) (lo hi:Option Int) (sl:Addr) (Q:VK),Inv X pins σ H s->RelV x v->s.heap.IsSliceOf sl vl vu .none->IsPart vl lo->IsPart vu hi->r x lo hi H Q->
  ∃T id,typeLookup (.type T) "__getitem__" =pure (some (.builtin id))/\s.TypeIs v T/\wpAny (model X.prog X.w) X.A (getItem v (.ref sl)) (EP X pins σ Q) X.xe s
noncomputable def tSl (r:V->Option Int->Option Int->Hp->VK->Prop)(te:TE)(tl th:TO):TE:=fun σ H Q=>te σ H λx H1=>tl σ H1 λl H2=>th σ H2 λu H3=>r x l u H3 Q
theorem zhS {r:V->Option Int->Option Int->Hp->VK->Prop}(hr:SlR X r)(he:PE X e te)(hl:PO X lo tl)(hu:PO X hi th):PE X (.Subscript e (.Slice lo hi none p2) pos) (tSl r te tl th):=by intro pins s σ H Q I h;refine Subscript_ (thn (he pins s σ H _ I h) λv s1 ⟨x,H1,I1,r1,q1⟩=>?_);refine wpAny_Slice (thn (hl pins s1 σ H1 _ I1 q1) λvl s2 ⟨l,H2,I2,pl,q2⟩=>thn (hu pins s2 σ H2 _ I2 q2) λvu s3 ⟨u,H3,I3,pu,q3⟩=>?_);rw[evalPart_none];refine wpAny_pure ?_;have I4:Inv X pins σ H3 {s3 with heap:=s3.heap.push {cls:=.type "slice",data:=.fields #[vl,vu,.none]}}:=I3.kept (t':=s3.toks) λb ob q=>Heap.get?_push_of_some _ q;obtain⟨T,id,hT,ht,hg⟩:=hr pins {s3 with heap:=s3.heap.push {cls:=.type "slice",data:=.fields #[vl,vu,.none]}} σ H3 x v vl vu l u s3.heap.objs.size Q I4 r1 (Heap.IsSliceOf.new ..) pl pu q3;show wpAny (model X.prog X.w) X.A (subscriptTail e (.Slice lo hi none p2) v (.ref s3.heap.objs.size)) (EP X pins σ Q) X.xe {s3 with heap:=s3.heap.push {cls:=.type "slice",data:=.fields #[vl,vu,.none]}};exact tail_any (ops:=[.ref s3.heap.objs.size,v]) ht hT hg (by with_unfolding_all rfl)
noncomputable def cutV (xs:QQ)(lo hi:Option Int):List V:=(xs.drop (HT.sIx xs.length 0 lo)).take (HT.sIx xs.length xs.length hi - HT.sIx xs.length 0 lo)
theorem zhl (xs:QQ)(lo hi:Option Int):(cutV xs lo hi).length<=xs.length:=by unfold cutV;rw[List.length_take,List.length_drop];omega
end
end L2
namespace L2
open PySem PySem.Spec PyProof.Rows
noncomputable def ixN (n:Nat)(i:Int):Option Nat:=if 0<=i then(if i < n then some i.toNat else none) else if -(n:Int)<=i then some (i+n).toNat else none
noncomputable def atI {α:Type}(xs:List α)(i:Int):Option α:=(ixN xs.length i).bind λj=>xs[j]?
theorem zjK {n:Nat}{i:Int}{j:Nat}(h:ixN n i=some j):seqIndex? i n=some j/\j < n/\ -(n:Int)<=i/\i < n:=by
 unfold ixN at h;by_cases h0:0<=i
 ·rw[if_pos h0] at h;by_cases h1:i < n
  ·rw[if_pos h1] at h;have e:i.toNat=j:=Option.some.inj h;exact⟨by rw[seqIndex_of h0 h1,e],by omega,by omega,h1⟩
  ·rw[if_neg h1] at h;cases h
 ·rw[if_neg h0] at h;by_cases h1: -(n:Int)<=i
  ·rw[if_pos h1] at h;have e:(i+n).toNat=j:=Option.some.inj h;exact⟨by rw[seqIndex_neg (by omega) h1,e],by omega,h1,by omega⟩
  ·rw[if_neg h1] at h;cases h
theorem zgI {α:Type}{xs:List α}{i:Int}{v:α}(h:atI xs i=some v):∃j,seqIndex? i xs.length=some j/\xs[j]? =some v/\j < xs.length/\ -(xs.length:Int)<=i/\i < xs.length:=by
 unfold atI at h;cases e:ixN xs.length i with
 | none=>rw[e] at h;cases h
 | some j=>rw[e] at h;obtain⟨h1,h2,h3,h4⟩:=zjK e;exact⟨j,h1,h,h2,h3,h4⟩
theorem zgC {α:Type}{xs:List α}{j:Nat}{v:α}(h:xs[j]? =some v):atI xs (j:Int)=some v:=by
 have hj:j < xs.length:=(List.getElem?_eq_some_iff.mp h).1;have e:ixN xs.length (j:Int)=some j:=by unfold ixN;rw[if_pos (by omega),if_pos (by omega)];simp
 unfold atI;rw[e];exact h
theorem zb1 {α:Type}(xs:List α)(v:α):atI (xs++ [v]) (-1)=some v:=by
 have hl:(xs++ [v]).length=xs.length+1:=by simp
 have e:ixN (xs++ [v]).length (-1)=some xs.length:=by unfold ixN;rw[hl,if_neg (by decide),if_pos (by omega)];congr 1;omega
 unfold atI;rw[e];show(xs++ [v])[xs.length]? =some v;simp
noncomputable def zom (b:Expr):Prop:=∀o i,subscripted b false o i=operate [o,i] (getItem o i)
noncomputable def IxR (X:Cx)(r:R2):Prop:=
 ∀(value slice:Expr) (pins:QE) (s:Shared) (σ:St) (H:Hp) (x y:V) (v u:Value) (Q:VK),Inv X pins σ H s->RelV x v->RelV y u->r x y H Q->
  subscripted slice false v u=operate [v,u] (getItem v u)->wpAny (model X.prog X.w) X.A (subscriptTail value slice v u) (EP X pins σ Q) X.xe s
noncomputable def MtR (X:Cx)(id:String)(r:V->List V->Hp->VK->Prop):Prop:=
 ∀(pins:QE) (s:Shared) (σ:St) (H:Hp) (x:V) (xs:QQ) (v:Value) (us:QN) (Q:VK),Inv X pins σ H s->RelV x v->Vals xs us->r x xs H Q->
  wpAny (model X.prog X.w) X.A (call (.builtin id) (v::us)) (EP X pins σ Q) X.xe s
section
variable {X:Cx}{a b:Expr}{ta tb:TE}{pos:Pos}
theorem zaK {r:R2}(hr:IxR X r)(ha:PE X a ta)(hb:PE X b tb)(hs:zom b):PE X (.Subscript a b pos) (tOp r ta tb):=by intro pins s σ H Q I h;exact Subscript_ (binT ha hb I h λv u s2 x y H2 I2 rx ry q=>hr a b pins s2 σ H2 x y v u Q I2 rx ry q (hs _ _))
noncomputable def rIxL (K:QA):R2:=λx y H Q=>∃p xs i v,x=.ref p/\y=.int i/\SqL K H p xs/\atI xs i=some v/\Q v H
noncomputable def rIxT (K:QA):R2:=λx y H Q=>∃p xs i v,x=.ref p/\y=.int i/\SqT K H p xs/\atI xs i=some v/\Q v H
noncomputable def rIxS:R2:=λx y H Q=>∃z i c,x=.str z/\y=.int i/\z.length<=sizeLine/\atI z.cps.toList i=some c/\Q (.str ⟨#[c]⟩) H
theorem zcj:IxR X (rIxL X.K):=by
 intro value slice pins s σ H x y v u Q I rx ry h hs;obtain⟨p,xs,i,z,rfl,rfl,hq,he,q⟩:=h;cases rx;obtain⟨t,rfl⟩:=ry;obtain⟨its,r,pl,hz⟩:=I.list hq;obtain⟨j,h1,h2,h3,h4,h5⟩:=zgI he;obtain⟨w,ew,rw'⟩:=r.get h2;have hl:=r.length;have hn:=zdu;have fin:EP X pins σ Q w s:=⟨z,H,I,rw',q⟩;by_cases h0:0<=i
 ·have hj:i.toNat=j:=by rw[seqIndex_of h0 h5] at h1;exact Option.some.inj h1
  exact item_listR pl.isList h0 (by omega) (by rw[hj];simpa using ew) fin hs
 ·have hj:(i+(its.toArray.size:Int)).toNat=j:=by rw[seqIndex_neg (by omega) h4] at h1;rw[List.size_toArray,<-hl];exact Option.some.inj h1
  exact subscriptTail_builtinR (x:=w) pl.isList.typeIs slot_list_getitem.lookup
   (wpAny_getItem_list_neg (Q:=λr s'=>r=w/\EP X pins σ Q r s') pl.isList (by omega) (by rw[List.size_toArray] <;> omega) (by omega) (by rw[hj];simpa using ew) ⟨rfl,fin⟩) hs
theorem zcG:IxR X (rIxT X.K):=by
 intro value slice pins s σ H x y v u Q I rx ry h hs;obtain⟨p,xs,i,z,rfl,rfl,hq,he,q⟩:=h;cases rx;obtain⟨t,rfl⟩:=ry;obtain⟨its,r,pl,hz⟩:=I.tuple hq;obtain⟨j,h1,h2,h3,h4,h5⟩:=zgI he;obtain⟨w,ew,rw'⟩:=r.get h2;have hl:=r.length;have hn:=zdu;have fin:EP X pins σ Q w s:=⟨z,H,I,rw',q⟩;exact subscriptTail_builtinR (x:=w) pl.typeIs slot_tuple_getitem.lookup
  (getItem_tuple (j:=j) (Q:=λr s'=>r=w/\EP X pins σ Q r s') pl (by omega) (by omega) (by rw[List.size_toArray,<-hl];exact h1) (by simpa using ew) ⟨rfl,fin⟩) hs
theorem zeM:IxR X rIxS:=by
 intro value slice pins s σ H x y v u Q I rx ry h hs;obtain⟨z,i,c,rfl,rfl,hz,he,q⟩:=h;obtain⟨t,rfl⟩:=rx;obtain⟨t',rfl⟩:=ry;obtain⟨j,h1,h2,h3,h4,h5⟩:=zgI he;have hl:z.cps.toList.length=z.length:=by simp[Str.length]
 rw[hl] at h1 h4 h5;have hn:=zdu;exact tail_any (typeIs_str s z t) slot_str_getitem.lookup (getItem_str (c:=c) (by
  have e1:decide (i < -(2 ^ 63:Int))=false:=decide_eq_false (by omega);have e2:decide (i≥2 ^ 63)=false:=decide_eq_false (by omega);rw[e1,e2,Bool.or_false]) (by rw[h1];simpa using h2) ⟨.str ⟨#[c]⟩,H,I.tok _,⟨_,rfl⟩,q⟩) hs
theorem ziM (its:QN)(n j:Nat)(u:Value):Obj.mapSeq (·.setIfInBounds j u) {cls:=.type "list",data:=.seq its.toArray n}={cls:=.type "list",data:=.seq (its.set j u).toArray n}:=by simp[Obj.mapSeq]
theorem Inv.lst {pins:QE}{σ:St}{H:Hp}{s:Shared}{p:Addr}{xs:QQ}(I:Inv X pins σ H s)(h:H p=some (.lst xs)):
  ∃(its:QN) (n:Nat),Vals xs its/\s.heap.get? p=some {cls:=.type "list",data:=.seq its.toArray n}/\xs.length<=sizeLine:=by
 obtain⟨z,its,n,r,e⟩:=I.hok p _ h;exact⟨its,n,r,e,z⟩
theorem Inv.lstUpd {pins:QE}{σ:St}{H:Hp}{s:Shared}{p:Addr}{xs ys:QQ}{its its':QN}{n n':Nat}{f:Obj->Obj}(I:Inv X pins σ H s)(h:H p=some (.lst xs))
  (ho:s.heap.get? p=some {cls:=.type "list",data:=.seq its.toArray n}) (hf:f {cls:=.type "list",data:=.seq its.toArray n}={cls:=.type "list",data:=.seq its'.toArray n'}) (r:Vals ys its') (hz:ys.length<=sizeLine) (t:Nat):
  Inv X pins σ (upd H p (.lst ys)) {s with heap:=s.heap.update p f,toks:=t}:=by
 have e:(s.heap.update p f).get? p=some {cls:=.type "list",data:=.seq its'.toArray n'}:=by rw[Heap.get?_update_self f ho (by rw[hf] <;> rfl),hf]
 refine I.write (x:=p) (e:=p) (by rw[h];trivial) (.inl rfl) (λb u hb q=>(Heap.get?_update_other _ _ (Ne.symm hb)).trans q) ⟨_,e⟩ ?_;exact⟨hz,its',n',r,e⟩
noncomputable def zr6:V->V->V->Hp->(Hp->Prop)->Prop:=λo i v H Q=>∃p xs k j,o=.ref p/\i=.int k/\H p=some (.lst xs)/\ixN xs.length k=some j/\Q (upd H p (.lst (xs.set j v)))
theorem set_list:PSet X zr6:=by
 intro pins s σ H o i v ov iv u Q I ro ri rv h;obtain⟨p,xs,k,j,rfl,rfl,hp,hj,q⟩:=h;cases ro;obtain⟨t,rfl⟩:=ri;obtain⟨its,n,r,ho,hz⟩:=I.lst hp;obtain⟨h1,h2,h3,h4⟩:=zjK hj;have hl:=r.length;have hn:=zdu;have I':Inv X pins σ (upd H p (.lst (xs.set j v))) {s with heap:=s.heap.update p (Obj.mapSeq (·.setIfInBounds j u))}:=
  I.lstUpd hp ho (ziM its n j u) (r.set rv j) (by rw[List.length_set];exact hz) s.toks
 by_cases h0:0<=k
 ·have hk:k.toNat=j:=by rw[seqIndex_of h0 h4] at h1;exact Option.some.inj h1
  exact PySem.W.ki_setAt ho h0 (by omega) (by rw[List.size_toArray,<-hl];exact h4) (by rw[hk];exact⟨_,I',q⟩)
 ·have hk:(k+(its.toArray.size:Int)).toNat=j:=by rw[seqIndex_neg (by omega) h3] at h1;rw[List.size_toArray,<-hl];exact Option.some.inj h1
  exact PySem.W.ki_setBack ho (by omega) (by rw[List.size_toArray,<-hl];exact h3) (by omega) (by rw[hk];exact⟨_,I',q⟩)
theorem zpJ (i:Int)(n d:Nat):max 0 (min (if i < 0 then i+(n:Int) else i) (n:Int))=((HT.sIx n d (some i):Nat):Int):=by
 simp only[HT.sIx];by_cases h:i < 0
 ·simp only[h,if_true] <;> omega
 ·simp only[h,if_false] <;> omega
theorem zgn (lo hi:Option Int)(n:Nat):(sliceBounds lo hi none n).1=((HT.sIx n 0 lo:Nat):Int)/\(sliceBounds lo hi none n).2.1=((HT.sIx n n hi:Nat):Int)/\(sliceBounds lo hi none n).2.2=1:=by
 refine⟨?_,?_,rfl⟩
 ·cases lo with
  | none=>simp[sliceBounds,HT.sIx]
  | some i=>(simp only[sliceBounds,Option.getD_none,show(1:Int) > 0 by decide,if_true];exact zpJ i n 0)
 ·cases hi with
  | none=>simp[sliceBounds,HT.sIx]
  | some i=>(simp only[sliceBounds,Option.getD_none,show(1:Int) > 0 by decide,if_true];exact zpJ i n n)
theorem zfl (its:QN)(lo hi:Option Int):slicePick its.toArray lo hi none=((its.drop (HT.sIx its.length 0 lo)).take (HT.sIx its.length its.length hi - HT.sIx its.length 0 lo)).toArray:=by obtain⟨h1,h2,h3⟩:=zgn lo hi its.toArray.size;unfold slicePick;rw[h1,h2,h3];simp only[sliceRange_one,pick_run,List.size_toArray] <;> rfl
noncomputable def rSlL (K:QA):V->Option Int->Option Int->Hp->VK->Prop:=λx lo hi H Q=>∃a xs,x=.ref a/\SqL K H a xs/\∀p,H p=none->Q (.ref p) (upd H p (.lst (cutV xs lo hi)))
theorem zot:SlR X (rSlL X.K):=by intro pins s σ H x v vl vu lo hi sl Q I rx hs pl pu h;obtain⟨a,xs,rfl,hx,q⟩:=h;cases rx;obtain⟨its,r,ht,hz⟩:=I.list hx;have hlen:=r.length;refine⟨"list",_,slot_list_getitem.lookup,ht.isList.typeIs,?_⟩;refine wpAny_getItem_list_slice ht.isList hs pl pu .none (by simp) ?_ (by rw[List.size_toArray] <;> omega);rw[zfl,<-hlen];refine⟨.ref s.heap.objs.size,_,I.laid (t':=s.toks) (o:=.lst (cutV xs lo hi)) (λb ob q=>Heap.get?_push_of_some _ q) (Jb _) ?_,rfl,q _ (I.hok.fresh (Jb _))⟩;exact⟨Ji (zhl xs lo hi) hz,_,0,(r.drop (HT.sIx xs.length 0 lo)).take (HT.sIx xs.length xs.length hi - HT.sIx xs.length 0 lo),Heap.get?_push_size _ rfl⟩
noncomputable def zaO:V->Bool
 | .non=>true
 | .bl _=>true
 | .int _=>true
 | .str _=>true
 | _=>false
noncomputable def eqV:V->V->Bool
 | .non,.non=>true
 | .bl a,.bl b=>a==b
 | .bl a,.int b=>(if a then 1 else 0)==b
 | .int a,.bl b=>a==(if b then 1 else 0)
 | .int a,.int b=>a==b
 | .str a,.str b=>a==b
 | _,_=>false
theorem ziW {A:Around}{s:Shared}{y x:V}{u v:Value}(ry:RelV y u)(rx:RelV x v)(fy:zaO y=true)(fx:zaO x=true):SeqAt.EqAt A s u v (eqV y x):=by
 cases y with
 | non=>
  cases ry;cases x with
  | non=>cases rx;exact SeqAt.EqAt.same _
  | bl b=>cases rx;exact SeqAt.EqAt.none_bool b
  | int b=>obtain⟨t,rfl⟩:=rx;exact SeqAt.EqAt.none_int b t
  | str b=>obtain⟨t,rfl⟩:=rx;exact SeqAt.EqAt.none_str b t
  | _=>exact Je (show false=true from fx) Jc
 | bl a=>
  cases ry;cases x with
  | non=>cases rx;exact SeqAt.EqAt.bool_none a
  | bl b=>cases rx;exact SeqAt.EqAt.bool_bool a b
  | int b=>obtain⟨t,rfl⟩:=rx;exact SeqAt.EqAt.bool_int a b t
  | str b=>obtain⟨t,rfl⟩:=rx;exact SeqAt.EqAt.bool_str a b t
  | _=>exact Je (show false=true from fx) Jc
 | int a=>
  obtain⟨t',rfl⟩:=ry;cases x with
  | non=>cases rx;exact SeqAt.EqAt.int_none a t'
  | bl b=>cases rx;exact SeqAt.EqAt.int_bool a t' b
  | int b=>obtain⟨t,rfl⟩:=rx;exact SeqAt.EqAt.int_int a t' b t
  | str b=>obtain⟨t,rfl⟩:=rx;exact SeqAt.EqAt.int_str a t' b t
  | _=>exact Je (show false=true from fx) Jc
 | str a=>
  obtain⟨t',rfl⟩:=ry;cases x with
  | non=>cases rx;exact SeqAt.EqAt.str_none a t'
  | bl b=>cases rx;exact SeqAt.EqAt.str_bool a t' b
  | int b=>obtain⟨t,rfl⟩:=rx;exact SeqAt.EqAt.str_int a t' b t
  | str b=>obtain⟨t,rfl⟩:=rx;exact SeqAt.EqAt.str_str a t' b t
  | _=>exact Je (show false=true from fx) Jc
 | _=>exact Je (show false=true from fy) Jc
noncomputable def eqU (x:V)(u:Value):Bool:=match u with
 | .none=>eqV .non x
 | .bool b=>eqV (.bl b) x
 | .int i _=>eqV (.int i) x
 | .str z _=>eqV (.str z) x
 | _=>false
theorem zmi {x y:V}{u:Value}(r:RelV y u)(f:zaO y=true):eqU x u=eqV y x:=by
 cases y with
 | non=>cases r;rfl
 | bl b=>cases r;rfl
 | int i=>obtain⟨t,rfl⟩:=r;rfl
 | str z=>obtain⟨t,rfl⟩:=r;rfl
 | _=>exact Je (show false=true from f) Jc
theorem zcV {x:V}:∀{xs:QQ} {us:QN},Vals xs us->xs.all zaO=true->us.any (eqU x)=xs.any λy=>eqV y x
 | _,_,.nil,_=>rfl
 | y::xs,u::us,.cons r t,f=>by rw[List.all_cons,Bool.and_eq_true] at f;rw[List.any_cons,List.any_cons,zmi r f.1,zcV t f.2]
theorem zbX {A:Around}{s:Shared}{x:V}{v:Value}(rx:RelV x v)(fx:zaO x=true):∀{xs:QQ} {us:QN},Vals xs us->xs.all zaO=true->∀u∈us,SeqAt.EqAt A s u v (eqU x u)
 | _,_,.nil,_=>λu hu=>by cases hu
 | y::xs,u::us,.cons r t,f=>λu' hu=>by
  rw[List.all_cons,Bool.and_eq_true] at f;rcases List.mem_cons.mp hu with rfl | hu
  ·rw[zmi r f.1];exact ziW r rx f.1 fx
  ·exact zbX rx fx t f.2 u' hu
noncomputable def inV (x:V)(xs:QQ):Bool:=xs.any λy=>eqV y x
noncomputable def rIn (K:QA)(neg:Bool):R2:=λx y H Q=>∃p xs,y=.ref p/\(SqL K H p xs\/SqT K H p xs)/\zaO x=true/\xs.all zaO=true/\Q (.bl (if neg then !inV x xs else inV x xs)) H
theorem zkb:OpR X (compareOp .In) (rIn X.K false):=by
 intro pins s σ H x y v u Q I rx ry h;obtain⟨p,xs,rfl,hq,fx,fs,q⟩:=h;cases ry;rcases hq with hq | hq
 ·obtain⟨its,r,pl,hz⟩:=I.list hq;refine SeqAt.in_listAt (eqU x) pl.isList (λw hw=>zbX rx fx r fs w (by simpa using hw)) ⟨.bl _,H,I,rfl,?_⟩;rw[show its.toArray.any (eqU x)=its.any (eqU x) by simp,zcV r fs];exact q
 ·obtain⟨its,r,pl,hz⟩:=I.tuple hq;refine SeqAt.in_tupleAt (eqU x) pl (λw hw=>zbX rx fx r fs w (by simpa using hw)) ⟨.bl _,H,I,rfl,?_⟩;rw[show its.toArray.any (eqU x)=its.any (eqU x) by simp,zcV r fs];exact q
theorem zgo:OpR X (compareOp .NotIn) (rIn X.K true):=by
 intro pins s σ H x y v u Q I rx ry h;obtain⟨p,xs,rfl,hq,fx,fs,q⟩:=h;cases ry;rcases hq with hq | hq
 ·obtain⟨its,r,pl,hz⟩:=I.list hq;refine SeqAt.notIn_listAt (eqU x) pl.isList (λw hw=>zbX rx fx r fs w (by simpa using hw)) ⟨.bl _,H,I,rfl,?_⟩;rw[show its.toArray.any (eqU x)=its.any (eqU x) by simp,zcV r fs];exact q
 ·obtain⟨its,r,pl,hz⟩:=I.tuple hq;refine SeqAt.notIn_tupleAt (eqU x) pl (λw hw=>zbX rx fx r fs w (by simpa using hw)) ⟨.bl _,H,I,rfl,?_⟩;rw[show its.toArray.any (eqU x)=its.any (eqU x) by simp,zcV r fs];exact q
theorem zaW:z9 X (.builtin "len") (λxs H Q=>∃p ys,xs=[.ref p]/\(SqL X.K H p ys\/SqT X.K H p ys)/\Q (.int ys.length) H):=by
 intro pins s σ H xs us Q I r h;obtain⟨p,ys,rfl,hq,q⟩:=h;obtain⟨u,rfl,rx⟩:=vals1 r;cases rx;have hn:=zdu;rcases hq with hq | hq
 ·obtain⟨its,r',pl,hz⟩:=I.list hq;have hlen:=r'.length;exact Calls.call_len_list pl.isList (by simp only[List.size_toArray] <;> omega) ⟨.int ys.length,H,I.tok _,⟨s.toks+1,by rw[List.size_toArray,hlen]⟩,q⟩
 ·obtain⟨its,r',pl,hz⟩:=I.tuple hq;have hlen:=r'.length;exact len_tuple pl (by simp only[List.size_toArray] <;> omega) ⟨.int ys.length,H,I.tok _,⟨s.toks+1,by rw[List.size_toArray,hlen]⟩,q⟩
theorem zR:z9 X (.builtin "len") (λxs H Q=>∃z,xs=[.str z]/\z.length<=sizeLine/\Q (.int z.length) H):=by intro pins s σ H xs us Q I r h;obtain⟨z,rfl,hz,q⟩:=h;obtain⟨u,rfl,t,rfl⟩:=vals1 r;have hn:=zdu;exact len_str (by omega) ⟨.int z.length,H,I.tok _,⟨_,rfl⟩,q⟩
theorem z9.or {f:Value}{r r':List V->Hp->VK->Prop}(h:z9 X f r)(h':z9 X f r'):z9 X f (λxs H Q=>r xs H Q\/r' xs H Q):=by
 intro pins s σ H xs us Q I rs q;rcases q with q | q
 ·exact h pins s σ H xs us Q I rs q
 ·exact h' pins s σ H xs us Q I rs q
theorem zgS:z9 X (.type "list") (λxs H Q=>∃p ys,xs=[.ref p]/\(SqL X.K H p ys\/SqT X.K H p ys)/\∀l,H l=none->Q (.ref l) (upd H l (.lst ys))):=by
 intro pins s σ H xs us Q I r h;obtain⟨p,ys,rfl,hq,q⟩:=h;obtain⟨u,rfl,rx⟩:=vals1 r;cases rx;have fin:∀(its:QN),Vals ys its->ys.length<=sizeLine->∀(h':Heap) (c':Nat),(∀b o',s.heap.get? b=some o'->h'.get? b=some o')->
   h'.get? s.heap.objs.size=some {cls:=.type "list",dict:=none,data:=.seq its.toArray c',slots:= #[]}->EP X pins σ Q (.ref s.heap.objs.size) {s with heap:=h'}:=λits r' hz h' c' kp e=>
  ⟨.ref s.heap.objs.size,_,I.laid (t':=s.toks) kp (Jb _) (show zE X.prog X.w _ h' _ (.lst ys) from⟨hz,its,c',r',e⟩),rfl,q _ (I.hok.fresh (Jb _))⟩
 rcases hq with hq | hq
 ·obtain⟨its,r',pl,hz⟩:=I.list hq;have hlen:=r'.length;obtain⟨o,ho,hc,n,hd⟩:=pl.isList;exact call_list_seq p (.inl rfl) ho hc hd (λh' c' kp e=>fin its r' hz h' c' kp e) (by simp only[List.size_toArray] <;> omega)
 ·obtain⟨its,r',pl,hz⟩:=I.tuple hq;have hlen:=r'.length;obtain⟨o,ho,hc,n,hd⟩:=pl;exact call_list_seq p (.inr rfl) ho hc hd (λh' c' kp e=>fin its r' hz h' c' kp e) (by simp only[List.size_toArray] <;> omega)
theorem zfm:z9 X (.type "tuple") (λxs H Q=>∃p ys,xs=[.ref p]/\((SqL X.K H p ys/\∀l,H l=none->Q (.ref l) (upd H l (.tup ys)))\/(SqT X.K H p ys/\Q (.ref p) H))):=by
 intro pins s σ H xs us Q I r h;obtain⟨p,ys,rfl,h⟩:=h;obtain⟨u,rfl,rx⟩:=vals1 r;cases rx;rcases h with ⟨hq,q⟩ | ⟨hq,q⟩
 ·obtain⟨its,r',pl,hz⟩:=I.list hq;have hlen:=r'.length;refine call_tuple_list pl.isList (λh' kp=>?_) (by simp only[List.size_toArray] <;> omega);have I1:Inv X pins σ H {s with heap:=h'}:=I.kept (t':=s.toks) kp;have I2:Inv X pins σ (upd H h'.objs.size (.tup ys)) {s with heap:=h'.push {cls:=.type "tuple",data:=.seq its.toArray}}:=
   I1.laid (t':=s.toks) (λb o e=>Heap.get?_push_of_some _ e) (Jb _) (show zE X.prog X.w _ _ _ (.tup ys) from⟨hz,its,r',IsTup.new _ _⟩)
  exact⟨.ref h'.objs.size,_,I2,rfl,q _ (I1.hok.fresh (Jb _))⟩
 ·obtain⟨its,r',pl,hz⟩:=I.tuple hq;exact call_tuple_same pl ⟨.ref p,H,I,rfl,q⟩
noncomputable def tyV (K:QA)(T:String)(x:V)(H:Hp):Prop:=match x with
 | .str _=>T= "str"
 | .int _=>T= "int"
 | .ref p=>(T= "list" /\∃xs,SqL K H p xs)\/(T= "tuple" /\∃o,K.lookup p=some o/\o.cls=.type "tuple" /\o.dict=none)\/
   (T= "dict" /\((∃kvs,H p=some (.dK kvs))\/∃kvs,H p=some (.dT kvs)))\/(T= "set" /\∃S n,H p=some (.set S n))
 | _=>False
theorem zlM {pins:QE}{σ:St}{H:Hp}{s:Shared}{T:String}{x:V}{v:Value}(I:Inv X pins σ H s)(r:RelV x v)(ty:tyV X.K T x H):
  s.TypeIs v T/\∀a,v=.ref a->∃ob,s.heap.get? a=some ob/\ob.dict=none:=by
 cases x with
 | str z=>obtain⟨t,rfl⟩:=r;cases (show T= "str" from ty);exact⟨typeIs_str s z t,λ_ e=>nomatch e⟩
 | int i=>obtain⟨t,rfl⟩:=r;cases (show T= "int" from ty);exact⟨typeIs_int s i t,λ_ e=>nomatch e⟩
 | ref p=>
  cases r;rcases ty with ⟨rfl,xs,hq⟩ | ⟨rfl,o,hk,hc,hd⟩ | ⟨rfl,hk⟩ | ⟨rfl,S,n,hk⟩
  ·obtain⟨its,_,pl,_⟩:=I.list hq;refine⟨pl.isList.typeIs,λa e=>?_⟩;cases e;obtain⟨o,n,e,c,hd,_⟩:=pl;exact⟨o,e,hd⟩
  ·refine⟨⟨o,I.kIn p o hk,hc⟩,λa e=>?_⟩;cases e;exact⟨o,I.kIn _ o hk,hd⟩
  ·have z:∃o,s.heap.get? p=some o/\o.ExactDict:=by
    rcases hk with ⟨kvs,hk⟩ | ⟨kvs,hk⟩
    ·obtain⟨_,_,_,_,o,_,_,e,ex,_⟩:=I.hok p _ hk;exact⟨o,e,ex⟩
    ·obtain⟨_,_,_,_,o,_,_,e,ex,_⟩:=I.hok p _ hk;exact⟨o,e,ex⟩
   obtain⟨o,e,ex⟩:=z;refine⟨⟨o,e,ex.1⟩,λa e2=>?_⟩;cases e2;exact⟨o,e,ex.2.1⟩
  ·obtain⟨o,_,_,_,e,ex,_⟩:=I.hok p _ hk;refine⟨⟨o,e,ex.1⟩,λa e2=>?_⟩;cases e2;exact⟨o,e,ex.2.1⟩
 | _=>exact False.elim ty
noncomputable def tBM0 (K:QA)(T:String)(r:V->List V->Hp->VK->Prop)(to:TE):TE:=fun σ H Q=>to σ H λx H1=>tyV K T x H1/\r x [] H1 Q
noncomputable def tBM (K:QA)(T:String)(r:V->List V->Hp->VK->Prop)(to:TE)(t:TA):TE:=fun σ H Q=>to σ H λx H1=>tyV K T x H1/\t σ H1 λxs H2=>r x xs H2 Q
variable {o e:Expr}{es:List Expr}{to:TE}{t:TA}{name:Str}{apos cpos:Pos}{T id:String}{r:V->List V->Hp->VK->Prop}
theorem zqM (pa:PlainAttrs T)(slot:Slot T name id)(hty:typeOf (.builtin id)=pure (.type "method_descriptor")) (hm:MtR X id r) (ho:PE X o to)
  (hbase:attributeBase o name X.env (eval o X.env)=eval o X.env:=by rfl) (hline:(apos.endLine==cpos.line)=true:=by rfl):PE X (.Call (.Attribute o name apos) [] [] cpos) (tBM0 X.K T r to):=by
 intro pins s σ H Q I h;refine wpAny_Call_method0_late hbase hline (thn (ho pins s σ H _ I h) λv s1 ⟨x,H1,I1,r1,ty,q1⟩=>?_);obtain⟨h1,h2⟩:=zlM I1 r1 ty;exact⟨T,id,pa,slot,hty,h1,h2,Calls.callWith_builtin rfl (PySem.evalArgs_none (hm pins s1 σ H1 x [] v [] Q I1 r1 .nil q1))⟩
theorem zhG (pa:PlainAttrs T)(slot:Slot T name id)(hty:typeOf (.builtin id)=pure (.type "method_descriptor")) (hm:MtR X id r) (ho:PE X o to) (ha:PA X (e::es) t)
  (hbase:attributeBase o name X.env (eval o X.env)=eval o X.env:=by rfl)
  (hfew:((backTo cpos (starEach (e::es) X.env)).all (λx=>!x.1) && (backToKw cpos (keywordEach [] X.env)).all (λx=>x.1.isSome)
   && decide ((e::es).length+([]:List Keyword).length+(if ([]:List Keyword).isEmpty then 0 else 1) < 30))=true:=by rfl)
  (hline:(apos.endLine==cpos.line)=true:=by rfl) (hs:starEach (e::es) X.env=(false,eval e X.env)::starEach es X.env:=by rfl) (hplain:(backTo cpos (starEach es X.env)).any (·.1)=false:=by rfl):
  PE X (.Call (.Attribute o name apos) (e::es) [] cpos) (tBM X.K T r to t):=by
 intro pins s σ H Q I h;refine wpAny_Call_method_late hbase hfew hline rfl (thn (ho pins s σ H _ I h) λv s1 ⟨x,H1,I1,r1,ty,q1⟩=>?_);obtain⟨h1,h2⟩:=zlM I1 r1 ty;refine⟨T,id,pa,slot,hty,h1,h2,?_⟩;have hA:=ha cpos pins s1 σ H1 _ I1 q1;rw[hs] at hA ⊢;refine Calls.callWith_builtin (by show(false || (backTo cpos (starEach es X.env)).any (·.1))=false;rw[hplain] <;> rfl) (Calls.evalArgs_plain ?_);exact thn hA λus s2 ⟨vs,H2,I2,r2,q2⟩=>hm pins s2 σ H2 x vs v us Q I2 r1 r2 q2
end
end L2
namespace L2
open PySem PySem.Spec PyProof.Rows
noncomputable def MtM (X:Cx)(id:String)(r:V->List V->Hp->VK->Prop):Prop:=
 ∀(pins:QE) (s:Shared) (σ:St) (H:Hp) (x:V) (xs:QQ) (v:Value) (us:QN) (Q:VK),Inv X pins σ H s->RelV x v->Vals xs us->r x xs H Q->
  wpAny (model X.prog X.w) X.A (call (.builtin id) (v::us)) (EP X pins σ Q) X.xe s
theorem Vals.one {x:V}{us:QN}(h:Vals [x] us):∃u,us=[u]/\RelV x u:=by
 cases h with
 | cons r t=>cases t;exact⟨_,rfl,r⟩
theorem Vals.zero:∀{us:QN},Vals [] us->us=[]
 | _,.nil=>rfl
theorem Vals.dropLast {xs:QQ}{us:QN}(h:Vals xs us):Vals xs.dropLast us.dropLast:=by
 induction h with
 | nil=>exact .nil
 | cons r t ih=>
  cases t with
  | nil=>exact .nil
  | cons q t'=>exact .cons r ih
theorem ziO {α:Type}(l:List α):l.eraseIdx (l.length - 1)=l.dropLast:=by
 induction l with
 | nil=>rfl
 | cons a r ih=>
  cases r with
  | nil=>rfl
  | cons b r=>
   have e:(a::b::r).length - 1=((b::r).length - 1)+1:=by have h1:(a::b::r).length=r.length+2:=rfl;have h2:(b::r).length=r.length+1:=rfl;omega
   rw[e,List.eraseIdx_cons_succ,ih]
   all_goals rfl
section
variable {X:Cx}{pins:QE}{σ:St}{H:Hp}{s:Shared}{l b:Addr}{xs ys zs:QQ}
theorem Inv.lset {its its':QN}{n:Nat}{f:Array Value->Array Value}{t':Nat}(I:Inv X pins σ H s)(hH:H l=some (.lst xs))
  (e:s.heap.get? l=some {cls:=.type "list",data:=.seq its.toArray n}) (hf:f its.toArray=its'.toArray) (hv:Vals ys its') (hz:ys.length<=sizeLine):
  Inv X pins σ (upd H l (.lst ys)) {s with heap:=s.heap.update l (Obj.mapSeq f),toks:=t'}:=by
 have q:=PySem.IsL.update e f;rw[hf] at q;refine I.write (x:=l) (e:=l) (by rw[hH];exact trivial) (.inl rfl) (λb' u hb hu=>(Heap.get?_update_other s.heap (Obj.mapSeq f) (Ne.symm hb)).trans hu) ⟨_,q⟩ ?_;exact⟨hz,its',_,hv,q⟩
theorem Inv.lnew {its:QN}{t':Nat}(I:Inv X pins σ H s)(hv:Vals ys its)(hz:ys.length<=sizeLine):
  Inv X pins σ (upd H s.heap.objs.size (.lst ys)) {s with heap:=s.heap.push {cls:=.type "list",data:=.seq its.toArray},toks:=t'}:=
 I.laid (λ_ _ q=>Heap.get?_push_of_some _ q) (Jb _) ⟨hz,its,0,hv,Heap.get?_push_size _ rfl⟩
theorem Inv.fresh (I:Inv X pins σ H s):H s.heap.objs.size=none:=I.hok.fresh (Jb _)
theorem Inv.lstM (I:Inv X pins σ H s)(hH:H l=some (.lst xs)):xs.length<=sizeLine/\∃(its:QN) (n:Nat),Vals xs its/\xs.length=its.length/\s.heap.get? l=some {cls:=.type "list",data:=.seq its.toArray n}:=by obtain⟨z,its,n,r,e⟩:=I.hok l _ hH;exact⟨z,its,n,r,r.length,e⟩
theorem zlz {n:Nat}(h:n<=sizeLine):Builtin.List.listTooLong n=false:=by unfold Builtin.List.listTooLong;exact decide_eq_false (by omega)
end
section
variable {X:Cx}
noncomputable def zoN:V->List V->Hp->VK->Prop:=λx vs H Q=>∃l xs y,x=.ref l/\vs=[y]/\H l=some (.lst xs)/\xs.length < sizeLine/\Q .non (upd H l (.lst (xs++ [y])))
theorem zdz:MtM X "list.append" zoN:=by intro pins s σ H x vs v us Q I rx rv h;obtain⟨l,xs,y,rfl,rfl,hH,hz,q⟩:=h;cases rx;obtain⟨u,rfl,ru⟩:=rv.one;obtain⟨z,its,n,r,hl,e⟩:=I.lstM hH;refine call_meets F.slot_list_append ⟨_,e,rfl⟩ F.entry_list_append (F.args_list_append_2 _ _) (PySem.list_append l its.toArray n u (by rw[List.size_toArray];omega)) ⟨e,?_⟩;refine⟨.non,_,I.lset (its':=its++ [u]) hH e (by simp) (r.append (.cons ru .nil)) ?_,rfl,q⟩;rw[List.length_append,List.length_singleton];omega
noncomputable def zog:V->List V->Hp->VK->Prop:=λx vs H Q=>∃l b xs zs,x=.ref l/\vs=[.ref b]/\H l=some (.lst xs)/\H b=some (.lst zs)/\xs.length+zs.length<=sizeLine/\Q .non (upd H l (.lst (xs++zs)))
theorem zks:MtM X "list.extend" zog:=by
 intro pins s σ H x vs v us Q I rx rv h;obtain⟨l,b,xs,zs,rfl,rfl,hH,hB,hz,q⟩:=h;cases rx;obtain⟨u,rfl,ru⟩:=rv.one;cases ru;obtain⟨z,its,n,r,hl,e⟩:=I.lstM hH;obtain⟨z2,its2,n2,r2,hl2,e2⟩:=I.lstM hB;have hsz:its.toArray.size+its2.toArray.size<=sizeLine:=by rw[List.size_toArray,List.size_toArray];omega
 have hlong:¬(!its.toArray.isEmpty && Builtin.List.listTooLong (its.toArray.size+its2.toArray.size))=true:=by rw[zlz hsz,Bool.and_false];exact Jc
 refine call_meets F.slot_list_extend ⟨_,e,rfl⟩ F.entry_list_extend (F.args_list_extend_2 _ _)
  (AutoSeq1.list_extend_list_list_0 l its.toArray n b its2.toArray n2 hlong (by rw[List.size_toArray];omega) (by omega)) ⟨e,e2,?_⟩
 refine⟨.non,_,I.lset (its':=its++its2) hH e (by simp) (r.append r2) ?_,rfl,q⟩;rw[List.length_append];omega
noncomputable def rPop:V->List V->Hp->VK->Prop:=λx vs H Q=>∃l xs y,x=.ref l/\vs=[]/\H l=some (.lst xs)/\xs[xs.length - 1]? =some y/\Q y (upd H l (.lst xs.dropLast))
theorem zq3:MtM X "list.pop" rPop:=by
 intro pins s σ H x vs v us Q I rx rv h;obtain⟨l,xs,y,rfl,rfl,hH,hy,q⟩:=h;cases rx;have hus:=rv.zero;subst hus;obtain⟨z,its,n,r,hl,e⟩:=I.lstM hH;obtain⟨u,hu,ru⟩:=r.get hy;have hy':its.toArray[its.toArray.size - 1]? =some u:=by show its.toArray[its.length - 1]? =some u;rw[<-Array.getElem?_toList,<-hl];exact hu
 refine call_meets F.slot_list_pop ⟨_,e,rfl⟩ F.entry_list_pop (F.args_list_pop_1 _) (MeetsSeq.list_pop_last l its.toArray n u hy' (by rw[List.size_toArray];omega)) ⟨e,?_⟩;refine⟨y,_,I.lset (its':=its.dropLast) hH e ?_ r.dropLast ?_,ru,q⟩
 ·show its.toArray.eraseIdxIfInBounds (its.toArray.size - 1)=its.dropLast.toArray;rw[List.size_toArray,List.eraseIdxIfInBounds_toArray,ziO]
 ·rw[List.length_dropLast];omega
noncomputable def rCat:R2:=λx y H Q=>∃l b xs zs,x=.ref l/\y=.ref b/\H l=some (.lst xs)/\H b=some (.lst zs)/\xs.length+zs.length<=sizeLine/\∀p,H p=none->Q (.ref p) (upd H p (.lst (xs++zs)))
theorem zmT:OpR X (binaryOp .Add) rCat:=by
 intro pins s σ H x y v u Q I rx ry h;obtain⟨l,b,xs,zs,rfl,rfl,hH,hB,hz,q⟩:=h;cases rx;cases ry;obtain⟨z,its,n,r,hl,e⟩:=I.lstM hH;obtain⟨z2,its2,n2,r2,hl2,e2⟩:=I.lstM hB;refine PySem.P.add_list e e2 ?_ (by rw[List.size_toArray,List.size_toArray];omega);have ea:its.toArray++its2.toArray=(its++its2).toArray:=by simp
 rw[ea];exact⟨.ref _,_,I.lnew (t':=s.toks) (r.append r2) (by rw[List.length_append];omega),rfl,q _ I.fresh⟩
end
section
variable {prog:Program}{w:World}{A:Around}{E:QC}{s:Shared}
end
section
variable {X:Cx}
end
end L2
namespace Att
open PySem PySem.W PySem.Calls PyProof.Rows
theorem zdZ {P:Params}{h:Heap}:∀(ns:List Int) (vs:QN),WellAll P h vs (ns.map WData.int)->IntsAre vs ns:=by
 intro ns
 induction ns with
 | nil=>intro vs w;rw[List.map_nil] at w;cases w;exact .nil
 | cons n ns ih=>
  intro vs w;rw[List.map_cons] at w;cases w with
  | cons a b=>cases a;exact .cons _ _ (ih _ b)
theorem zkx {l:OpenLaw}{n:Nat}(hn:l.most=some n){P:Params}{h:Heap}{args:List WData}{vals:QN}
  (hpre:l.row.toRowW.claim.pre args=true) (hwl:WellAll P h vals args):
  ∃a vs ns,vals=[Value.ref a]/\args=[WData.list (ns.map WData.int)]/\h.get? a=some {cls:=.type "list",data:=.seq vs.toArray}/\IntsAre vs ns/\ns.length<=n:=by
 have hsh:WShape.hasAll [] args [.list .int]=true:=(pre_splitW hpre).1;have hc:l.pre.holds [] {args:=args}=true:=(pre_splitW hpre).2;obtain⟨d,r,rfl,h1,h2⟩:=hasAllW_cons hsh;obtain rfl:=hasAllW_nil h2;obtain⟨xs,rfl,h3⟩:=hasW_list h1;obtain⟨ns,rfl⟩:=items_int h3;have hlen:ns.length<=n:=by
  unfold OpenLaw.pre at hc;have h4:(WTm.not (.lt (.lit (.int (n:Int))) (.len (.arg 0)))).holds [] {args:=[.list (ns.map .int)]}=true:=by have h4:=(holds_andW hc).1;rw[hn] at h4;exact h4
  have h5:=condW_of h4 (w_not (w_lt w_lit (w_len_list (w_arg rfl))));rw[List.length_map] at h5;refine Nat.le_of_not_lt λq=>?_;have q':(n:Int) < ((ns.length:Nat):Int):=by omega
  first
   | (rw[decide_eq_true q'] at h5;exact Je h5 (by decide))
   | (simp at h5;omega)
 cases hwl with
 | cons w1 w2=>
  cases w2;cases w1 with
  | list ho hall=>exact⟨_,_,ns,rfl,rfl,ho,zdZ ns _ hall,hlen⟩
theorem zj8 (l:OpenLaw)(args:List WData):l.row.toRowW.claim.post args (.bool true) args=true:=
 postW_of (r:=l.row.toRowW) (X:=(true==true))
  (show WShape.has [] (.bool true) .bool=true by first | rfl | decide | simp[WShape.has,WShape.arms,WShape.armsAll])
  (show(WTm.eq .res (.lit (.bool true))).value [] {args:=args,res:=some (.bool true),after:=args}=some (.bool (true==true)) from w_eq_bool (w_res rfl) w_lit) rfl
theorem attach_call {l:OpenLaw}{n:Nat}{q:Program}{loose:QP}{XP:(Str->Option Value)->Heap->Prop}{YP:World->Heap->Prop}{d:DefRec}
  (hn:l.most=some n) (hdf:d.params.defaults=[])
  (call:∀(w:World) (s₀ s₁:Shared) (mg mb:QB) (fa:Addr) (o:Obj) (pm cd doc:Value) (a:Addr) (vs:QN) (ns:List Int),
   Ground q loose [] XP w s₀ mg mb s₁.heap->YP w s₁.heap->
   s₁.heap.get? fa=some o->o.data=.func (docDef d.name d.params d.body d.scope pm cd doc)->s₁.heap.CodeRec cd d.name->mg d.name=some (.ref fa)->
   s₁.heap.get? a=some {cls:=.type "list",data:=.seq vs.toArray}->IntsAre vs ns->ns.length<=n->s₁.gens= #[]->
   codeAny (model l.prog w) callerA (.call (.ref fa) ⟨[.ref a],[]⟩) (λr s'=>r=.ok (.ret (.bool true))/\OldK s₁.heap s'.heap/\s'.os=s₁.os/\AllBare s'.gens) s₁):
  WalkO q loose XP YP l.row.toRowW d [] (λf vs=>PySem.call f vs):=by
 intro w s₀ s₁ mg mb G Y fa o pm cd doc dV kV ho hd hcd hD hmg hg args vals as hpre hlay hrd hwl hlo;obtain rfl:dV=.none:=Dflts.none hD hdf;obtain rfl:kV=.none:=Dflts.noKw hD;obtain⟨a,vs,ns,rfl,rfl,hobj,hints,hlen⟩:=zkx hn hpre hwl;refine enter_call (codeAny_mono (call w s₀ s₁ mg mb fa o pm cd doc a vs ns G Y ho (fd_plain hd) hcd hmg hobj hints hlen hg) λr s' hq=>?_);obtain⟨rfl,h2,h3,h4⟩:=hq;exact⟨.inl ⟨.bool true,.bool true,[],rfl,λ_=>rfl,.bool true,zj8 l _,λ_=>⟨List.Pairwise.nil,λ_ hm=>(nomatch hm)⟩⟩,h2,h3,h4⟩
section
variable {prog:Program}{w:World}{A:Around}{E:QC}{s:Shared}{K:Frag}
end
end Att
namespace L2
open PySem PySem.Spec PyProof.Rows
theorem zfY:∀{vs:QN} {ns:List Int},IntsAre vs ns->Vals (ns.map V.int) vs
 | _,_,.nil=>.nil
 | _,_,.cons n t h=>.cons ⟨t,rfl⟩ (zfY h)
noncomputable def Only (H:Hp):Prop:=∀b,H b=none\/∃o xs,H b=some (.frz o (.lst xs))
theorem zma {P:Program}{w:World}{K:QA}{mg mb:QB}{CX:CXT}{k:Nat}{fa a:Addr}{fd:FuncData}{x:Str}{sp:Sp}{s₁:Shared}{vs:QN}{ns:List Int}
  (KX:K.In s₁.heap) (hns:s₁.heap.Ns mainGlobals mg) (hb:s₁.heap.Ns builtinsNs mb) (hbb:∀x:Str,x≠ "__name__" ->mb x=bootBuiltins x) (hlim:s₁.heap.NoLimit) (hg:s₁.gens= #[])
  (ha:s₁.heap.get? a=some {cls:=.type "list",data:=.seq vs.toArray}) (hi:IntsAre vs ns) (hl:ns.length<=sizeLine) (hr:Room k callerA)
  (F:∀base:Heap,K.In base->base.Ns mainGlobals mg->FnOk P w K mg base CX k fa fd [x] sp) (hbind:∀(s:Shared) (u:Value),BindsTo s fd ⟨[u],[]⟩ [(x,u)])
  (hsp:∀H:Hp,Only H->SqL K H a (ns.map V.int)->sp [.ref a] H (λv _=>v=.bl true) λ_ _ _=>False)
  (hCX:∀H e s',CX [] H s₁ (λ_ _ _=>False) e s'->False):
  codeAny (model P w) callerA (.call (.ref fa) ⟨[.ref a],[]⟩) (λr s'=>r=.ok (.ret (.bool true))/\OldK s₁.heap s'.heap/\s'.os=s₁.os/\AllBare s'.gens) s₁:=by
 have rv:=zfY hi;have lenV:=hi.length
 have core:∀H:Hp,Only H->SqL K H a (ns.map V.int)->HOk P w H s₁.heap->(∀b,H b≠none->b=a)->(H a≠none->K.lookup a=none)->
   codeAny (model P w) callerA (.call (.ref fa) ⟨[.ref a],[]⟩) (λr s'=>r=.ok (.ret (.bool true))/\OldK s₁.heap s'.heap/\s'.os=s₁.os/\AllBare s'.gens) s₁:=by
  intro H hO hS hok hA hK;have base_of:∀{b:Addr} {o:Obj},s₁.heap.get? b=some o->H b=none->(hidT s₁.heap H).get? b=some o:=λe n=>zmI e n;have noA:∀{b:Addr} {o:Obj} {es:Array DictEntry} {ep:Nat},s₁.heap.get? b=some o->o.data=.dict es ep->H b=none:=λ{b o es ep} e d=>by
   cases q:H b with
   | none=>rfl
   | some u=>have e':b=a:=hA b (by rw[q];simp);subst e';rw[ha] at e;cases e;have d':Data.seq vs.toArray _=Data.dict es ep:=d;cases d'
  have nsK:∀{b:Addr} {m:QB},s₁.heap.Ns b m->(hidT s₁.heap H).Ns b m:=λ{b m} ⟨o,es,ep,e,d,r⟩=>⟨o,es,ep,base_of e (noA e d),d,r⟩;have hKb:K.In (hidT s₁.heap H):=λb o e=>base_of (KX b o e) (by
   cases q:H b with
   | none=>rfl
   | some u=>
    have e':b=a:=hA b (by rw[q];simp);subst e';rw[hK (by rw[q];simp)] at e;cases e)
  have hM:Mod K mg (hidT s₁.heap H):=⟨hKb,nsK hns,⟨mb,nsK hb,hbb⟩,let ⟨mc,h1,h2⟩:=hlim;⟨mc,nsK h1,h2⟩⟩
  have e0:Env0 P w K mg (hidT s₁.heap H) callerA [] s₁ H:=⟨rfl,hM,λb o e=>zop e,Nat.le_of_eq (zkH _ _),trivial,λb hb=>Je (show b∈([]:QO) from hb) (by simp),hok,.of_eq hg⟩;refine codeAny_mono ((F _ hKb (nsK hns)).run callerA [] s₁ H ⟨[.ref a],[]⟩ [.ref a] [.ref a] _ _ hr e0 (hbind s₁ (.ref a)) (.cons rfl .nil) (hsp H hO hS)) λr s' h=>?_;cases r with
  | error e=>exact(hCX H e s' h).elim
  | ok fl=>
   cases fl with
   | next=>exact False.elim h
   | brk=>exact False.elim h
   | cont=>exact False.elim h
   | ret u=>
    obtain⟨v,H',os,bare,un,hok',r',q⟩:=h;have q':v=.bl true:=q;subst q';obtain rfl:u=Value.bool true:=r';refine⟨rfl,OldK.of_keep λb o e=>?_,os,bare⟩;cases q:H b with
    | none=>exact un.keep b o e q (by intro z;exact Je (show b∈([]:QO) from z) (by simp)) (by simp)
    | some u=>
     rcases hO b with z | ⟨ob,xs,z⟩
     ·rw[q] at z;cases z
     ·have z2:=un.frzs b ob _ z;obtain⟨e1,_⟩:=hok b _ z;obtain⟨e2,_⟩:=hok' b _ z2;rw[e] at e1;cases e1;exact e2
 cases hk:K.lookup a with
 | some o=>
  have e:=KX a o hk;rw[ha] at e;cases e;refine core (λ_=>none) (λ_=>.inl rfl) (.inr ⟨_,vs.toArray,_,hk,rfl,rfl,rfl,by rw[List.size_toArray,lenV];exact hl,by simpa using rv⟩) (λb u z=>by have z':(none:Option HO)=some u:=z;cases z') (λb z=>Je rfl z) λz=>Je rfl z
 | none=>
  refine core (λb=>if b=a then some (.frz {cls:=.type "list",data:=.seq vs.toArray} (.lst (ns.map V.int))) else none) (λb=>?_) (.inl (.inr ⟨{cls:=.type "list",data:=.seq vs.toArray},if_pos rfl⟩)) (λb u z=>?_) (λb z=>?_) λ_=>hk
  ·by_cases hb:b=a
   ·exact .inr ⟨_,_,if_pos hb⟩
   ·exact .inl (if_neg hb)
  ·by_cases hb:b=a
   ·have z':=(if_pos hb).symm.trans z;cases z';subst hb;exact⟨ha,by rw[List.length_map];exact hl,vs,_,rv,ha⟩
   ·have z':=(if_neg hb).symm.trans z;cases z'
  ·by_cases hb:b=a
   ·exact hb
   ·exact Je (if_neg hb) z
end L2
namespace L2
open PySem PySem.Spec PyProof.Rows
noncomputable abbrev KOf {K:QA}{h:Heap}(_:K.In h):QA:=K
theorem zoO {l:PySem.W.OpenLaw}{n k:Nat}{q:Program}{loose:QP}{XP:(Str->Option Value)->Heap->Prop}{YP:World->Heap->Prop}{d:DefRec}{K:Params->QA}{CX:World->CXT}{sp:World->Sp}{x:Str}
  (hn:l.most=some n) (hn2:n<=sizeLine) (hdf:d.params.defaults=[]) (hr:Room k callerA)
  (hY:∀(w:World) (h:Heap),YP w h->(K w.params).In h)
  (F:∀(w:World) (mg:QB) (fa:Addr) (h:Heap),(K w.params).In h->h.Ns mainGlobals mg->mg d.name=some (.ref fa)->
   ∃fd:FuncData,(∀(s:Shared) (u:Value),BindsTo s fd ⟨[u],[]⟩ [(x,u)])/\
    ∀base:Heap,(K w.params).In base->base.Ns mainGlobals mg->FnOk l.prog w (K w.params) mg base (CX w) k fa fd [x] (sp w))
  (hsp:∀(w:World) (H:Hp) (a:Addr) (ns:List Int),ns.length<=n->Only H->SqL (K w.params) H a (ns.map V.int)->sp w [.ref a] H (λv _=>v=.bl true) λ_ _ _=>False)
  (hCX:∀(w:World) (H:Hp) (s:Shared) (e:Value) (s':Shared),CX w [] H s (λ_ _ _=>False) e s'->False):
  PySem.W.WalkO q loose XP YP l.row.toRowW d [] (λf vs=>PySem.call f vs):=by
 refine Att.attach_call hn hdf λw s₀ s₁ mg mb fa o pm cd doc a vs ns G Y ho hd hcd hmg hobj hints hlen hg=>?_;have KX:=hY w _ Y;obtain⟨fd,hb,hF⟩:=F w mg fa _ KX G.T.g hmg;exact zma KX G.T.g G.T.b G.T.builtins G.T.nolimit hg hobj hints (Ji hlen hn2) hr hF hb (λH hO hS=>hsp w H a ns hlen hO hS) λH e s'=>hCX w H s₁ e s'
end L2
namespace L2
open PySem PySem.Spec PyProof.Rows
noncomputable abbrev CX0:CXT:=λ_ _ _ _ _ _=>False
noncomputable abbrev E0:XK:=λ_ _ _=>False
theorem zlP {X:Cx}:zbG CX0 X E0:=λ_ _ _ _ _ _ _ h=>h.elim
structure Fun (K:QA)(x qual:Str)(st:Stmt)(f:Addr)(fd:FuncData):Prop where
 ex:∃(oc:Value) (od:QM) (kV doc pm:Value) (an:QM) (cdv ct:Value) (osl:QJ),
  fd=PySem.W.fnOf x qual (z7 st) (zI st) (zr st) .none kV doc pm an cdv ct/\K.lookup f=some ⟨oc,od,.func fd,osl⟩/\PySem.W.codeIn K cdv qual=true
 kp:PySem.W.keepIn K (.ref f)=true
section
variable {P:Program}{w:World}{K:QA}{mg:QB}{base:Heap}
theorem Fun.ok {x qual:Str}{st:Stmt}{f:Addr}{fd:FuncData}{N ps:QP}{k:Nat}{sp:Sp}(F:Fun K x qual st f fd)(S:zaE N ps (zr st))(len:∀vs H Q E,sp vs H Q E->vs.length=ps.length)
  (hbody:∀(cdv:Value) (A:Around) (outer:List Env) (s:Shared) (H:Hp) (vs:QQ) (Q:VK) (E:XK),Room k (A.deeper (envOfC qual (zr st) s.heap.objs.size f cdv))->sp vs H Q E->
   ∃t,PSs (cxOf CX0 P w K mg base N qual (zr st) f cdv A outer s H E).nox (zI st) t/\t {nx:=λ_ H'=>Q .non H',rt:=Q} (start N vs) H):FnOk P w K mg base CX0 (k+1) f fd ps sp:=by
 obtain⟨oc,od,kV,doc,pm,an,cdv,ct,osl,rfl,lk,hcd⟩:=F.ex;refine zpL lk hcd S len λA outer s H vs Q E hr hsp=>?_;obtain⟨t,h,q⟩:=hbody cdv A outer s H vs Q E hr hsp;exact⟨t,h.nox,q⟩
theorem Fun.binds {x qual:Str}{st:Stmt}{f:Addr}{fd:FuncData}{ps:QP}(F:Fun K x qual st f fd)
  (h:∀(kV doc pm:Value) (an:QM) (cdv ct:Value) (us:QN),us.length=ps.length->bindArgs (PySem.W.fnOf x qual (z7 st) (zI st) (zr st) .none kV doc pm an cdv ct) ⟨us,[]⟩=pure (ps.zip us)):Binds K fd ps []:=by
 obtain⟨oc,od,kV,doc,pm,an,cdv,ct,osl,rfl,lk,hcd⟩:=F.ex;exact .all (h kV doc pm an cdv ct)
theorem zbM {x qual:Str}{st:Stmt}{f:Addr}{oc:Value}{od an:QM}{osl:QJ}{kV doc pm cdv ct:Value}(l:K.lookup f=some ⟨oc,od,.func (PySem.W.fnOf x qual (z7 st) (zI st) (zr st) .none kV doc pm an cdv ct),osl⟩)
  (c:PySem.W.codeIn K cdv qual=true) (k:PySem.W.keepIn K (.ref f)=true):Fun K x qual st f (PySem.W.fnOf x qual (z7 st) (zI st) (zr st) .none kV doc pm an cdv ct):=⟨⟨oc,od,kV,doc,pm,an,cdv,ct,osl,rfl,l,c⟩,k⟩
end
theorem zhH {A:Around}{k:Nat}(hr:Room k A):A.units+1 < cLine:=Nat.lt_of_le_of_lt (Nat.add_le_add_left (by decide:1<=64) _) hr.units
theorem zaX {n:Nat}(h:n<=1000):n < sizeLine:=Nat.lt_of_le_of_lt h (by decide)
section
variable {X:Cx}
theorem pv (i:Nat){x:Str}{pos:Pos}(hN:X.N[i]? =some x:=by rfl)(hv:Vis X.env.scope x:=by first | exact Or.inl rfl | exact Or.inr (Or.inl rfl) | exact Or.inr (Or.inr rfl))(hd:(x==("__debug__" :Str))=false:=by decide)
  (hcd:(x==("__classdict__" :Str))=false:=by decide):PE X (.Name x pos) (tVar i):=zqt hN hv hd hcd
end
noncomputable def Same (H H':Hp):Prop:=∀b o,H b=some o->H' b=some o
theorem Same.refl (H:Hp):Same H H:=λ_ _ h=>h
theorem Same.trans {H H1 H2:Hp}(a:Same H H1)(b:Same H1 H2):Same H H2:=λc o h=>b c o (a c o h)
theorem Same.free {H H':Hp}(e:Same H H'){l:Addr}(h:H' l=Option.none):H l=Option.none:=by
 cases q:H l with
 | none=>rfl
 | some o=>rw[e l o q] at h;cases h
theorem Same.seq {K:QA}{H H':Hp}{a:Addr}{xs:QQ}(e:Same H H')(h:SqL K H a xs):SqL K H' a xs:=by
 rcases h with (h | ⟨o,h⟩) | h
 ·exact .inl (.inl (e _ _ h))
 ·exact .inl (.inr ⟨o,e _ _ h⟩)
 ·exact .inr h
end L2
namespace L2
open PySem PySem.Spec PyProof.Rows
section
variable {κ:Type} [DecidableEq κ]
noncomputable def valV (kvs:List (κ ×V))(k:κ):Option V:=(kvs.find? λkv=>decide (kv.1=k)).map (·.2)
noncomputable def putK (kvs:List (κ ×V))(k:κ)(v:V):List (κ ×V):=
 if (kvs.any λkv=>decide (kv.1=k))=true then kvs.map (λkv=>if kv.1=k then(kv.1,v) else kv) else kvs++ [(k,v)]
noncomputable def zbf (kvs:List (κ ×V))(k:κ):List (κ ×V):=kvs.filter λkv=>decide (kv.1≠k)
theorem zS {p:κ ×V}{r:List (κ ×V)}{k:κ}(e:p.1=k):valV (p::r) k=some p.2:=by simp[valV,List.find?_cons,e]
theorem zP {p:κ ×V}{r:List (κ ×V)}{k:κ}(e:¬p.1=k):valV (p::r) k=valV r k:=by simp[valV,List.find?_cons,e]
theorem zbz (k:κ):∀kvs:List (κ ×V),(kvs.any λkv=>decide (kv.1=k))=(valV kvs k).isSome
 | []=>rfl
 | p::r=>by
  rw[List.any_cons];by_cases e:p.1=k
  ·simp only[zS e,decide_eq_true e,Bool.true_or,Option.isSome_some]
  ·rw[zP e,decide_eq_false e,Bool.false_or];exact zbz k r
theorem zhR (k j:κ)(y:V):∀kvs:List (κ ×V),valV (kvs.map λkv=>if kv.1=k then(kv.1,y) else kv) j=(valV kvs j).map λx=>if j=k then y else x
 | []=>rfl
 | p::r=>by
  have ih:=zhR k j y r;rw[List.map_cons];by_cases h:p.1=k
  ·rw[if_pos h];by_cases e:p.1=j
   ·rw[zS (p:=(p.1,y)) e,zS e,Option.map_some,if_pos (e.symm.trans h)]
   ·rw[zP (p:=(p.1,y)) e,zP e,ih]
  ·rw[if_neg h];by_cases e:p.1=j
   ·rw[zS (p:=p) e,zS e,Option.map_some,if_neg (λz=>h (e.trans z))]
   ·rw[zP (p:=p) e,zP e,ih]
theorem zfJ (k j:κ)(y:V):∀kvs:List (κ ×V),valV kvs k=none->valV (kvs++ [(k,y)]) j=if j=k then some y else valV kvs j
 | [],_=>by
  by_cases e:k=j
  ·rw[if_pos e.symm];exact zS (p:=(k,y)) e
  ·rw[if_neg (λz=>e z.symm)];exact zP (p:=(k,y)) e
 | p::r,hn=>by
  rw[List.cons_append];have hk:¬p.1=k:=λz=>by rw[zS z] at hn;cases hn
  rw[zP hk] at hn;have ih:=zfJ k j y r hn;by_cases e:p.1=j
  ·rw[zS e,zS e,if_neg (λz=>hk (e.trans z))]
  ·rw[zP e,zP e,ih]
theorem zls (kvs:List (κ ×V))(k j:κ)(y:V):valV (putK kvs k y) j=if j=k then some y else valV kvs j:=by
 unfold putK;by_cases a:(kvs.any λkv=>decide (kv.1=k))=true
 ·rw[if_pos a,zhR];rw[zbz] at a;by_cases e:j=k
  ·obtain⟨x,hx⟩:=Option.isSome_iff_exists.mp a;rw[if_pos e,e,hx,Option.map_some,if_pos rfl]
  ·rw[if_neg e];cases valV kvs j with
   | none=>rfl
   | some x=>rw[Option.map_some,if_neg e]
 ·rw[if_neg a];refine zfJ k j y kvs ?_;rw[zbz] at a;cases q:valV kvs k with
  | none=>rfl
  | some x=>rw[q] at a;exact(a rfl).elim
theorem zdE (kvs:List (κ ×V))(k:κ)(v:V):(putK kvs k v).length<=kvs.length+1:=by
 unfold putK;split
 ·rw[List.length_map];omega
 ·rw[List.length_append,List.length_cons,List.length_nil];omega
theorem zh2 {kvs:List (κ ×V)}{k:κ}(v:V)(h:valV kvs k=none):putK kvs k v=kvs++ [(k,v)]:=by unfold putK;rw[zbz,h];exact if_neg (by decide)
theorem RelO.isSome_eq {o:Option V}{u:Option Value}(r:RelO o u):o.isSome=u.isSome:=by
 cases o with
 | none=>cases u with
  | none=>rfl
  | some _=>exact(show False from r).elim
 | some _=>cases u with
  | none=>exact(show False from r).elim
  | some _=>rfl
theorem KV.val {kvs:List (κ ×V)}{vs:List (κ ×Value)}(r:KV kvs vs)(k:κ):RelO (valV kvs k) (valueAt vs k):=by
 unfold KV at r
 induction r with
 | nil=>exact True.intro
 | @cons p q ps qs h t ih=>
  obtain⟨h1,h2⟩:=h;by_cases e:p.1=k
  ·have e':q.1=k:=h1.symm.trans e;have b:valueAt (q::qs) k=some q.2:=by simp[valueAt,List.find?_cons,e']
   rw[zS e,b];exact h2
  ·have e':¬q.1=k:=λz=>e (h1.trans z);have b:valueAt (q::qs) k=valueAt qs k:=by simp[valueAt,List.find?_cons,e']
   rw[zP e,b];exact ih
theorem KV.any {kvs:List (κ ×V)}{vs:List (κ ×Value)}(r:KV kvs vs)(k:κ):(kvs.any λkv=>decide (kv.1=k))=vs.any λkv=>decide (kv.1=k):=by
 unfold KV at r
 induction r with
 | nil=>rfl
 | cons h t ih=>rw[List.any_cons,List.any_cons,ih,h.1]
theorem KV.repl {kvs:List (κ ×V)}{vs:List (κ ×Value)}(r:KV kvs vs)(k:κ){y:V}{u:Value}(ry:RelV y u):
  KV (kvs.map λkv=>if kv.1=k then(kv.1,y) else kv) (vs.map λkv=>if kv.1=k then(kv.1,u) else kv):=by
 unfold KV at r ⊢
 induction r with
 | nil=>exact .nil
 | @cons p q ps qs h t ih=>
  rw[List.map_cons,List.map_cons];refine .cons ?_ ih;obtain⟨h1,h2⟩:=h;by_cases e:p.1=k
  ·rw[if_pos e,if_pos (h1.symm.trans e)];exact⟨h1,ry⟩
  ·rw[if_neg e,if_neg (λz=>e (h1.trans z))];exact⟨h1,h2⟩
theorem KV.put {kvs:List (κ ×V)}{vs:List (κ ×Value)}(r:KV kvs vs)(k:κ){y:V}{u:Value}(ry:RelV y u):KV (putK kvs k y) (stored vs k u):=by
 unfold putK stored;rw[r.any k];by_cases e:(vs.any λkv=>decide (kv.1=k))=true
 ·rw[if_pos e,if_pos e];exact r.repl k ry
 ·rw[if_neg e,if_neg e];exact Paired.snoc r ⟨rfl,ry⟩
theorem KV.drop {kvs:List (κ ×V)}{vs:List (κ ×Value)}(r:KV kvs vs)(k:κ):KV (zbf kvs k) (without vs k):=by
 unfold KV at r ⊢;unfold zbf without
 induction r with
 | nil=>exact .nil
 | @cons p q ps qs h t ih=>
  obtain⟨h1,h2⟩:=h;rw[List.filter_cons,List.filter_cons];by_cases e:p.1=k
  ·have a:¬decide (p.1≠k)=true:=by simp[e]
   have b:¬decide (q.1≠k)=true:=by simp[h1.symm.trans e]
   rw[if_neg a,if_neg b];exact ih
  ·have e':¬q.1=k:=λz=>e (h1.trans z);have a:decide (p.1≠k)=true:=by simp[e]
   have b:decide (q.1≠k)=true:=by simp[e']
   rw[if_pos a,if_pos b];exact .cons ⟨h1,h2⟩ ih
theorem KV.length {kvs:List (κ ×V)}{vs:List (κ ×Value)}(r:KV kvs vs):kvs.length=vs.length:=Paired.length r
theorem zhb (kvs:List (κ ×V))(k:κ):(zbf kvs k).length<=kvs.length:=List.length_filter_le _ _
end
theorem zeq {P:Program}{w:World}{k:Key}{u:Value}(r:RelV (kV k) u):(zX P w).is k u=true:=by
 cases k with
 | inl i=>obtain⟨t,e⟩:=(show∃t,u=Value.int i t from r);subst e;exact zhz P w i t
 | inr x=>obtain⟨t,e⟩:=(show∃t,u=Value.str x t from r);subst e;exact zht P w x t
theorem zfE {P:Program}{w:World}:∀{ks:List Key} {us:QN},Vals (ks.map kV) us->ItemsAre (zX P w) ks us
 | [],_,r=>by rw[List.map_nil] at r;cases r;exact .nil
 | k::ks,_,r=>by
  rw[List.map_cons] at r;cases r with
  | cons h t=>exact .cons (zeq h) (zfE t)
noncomputable abbrev KT (H:Hp):List (List Key ×V)->List (List Key ×Addr ×Value)->Prop:=Paired λp q=>p.1=q.1/\H q.2.1=some (.tup (p.1.map kV))/\RelV p.2 q.2.2
theorem KT.val {H:Hp}{kvs:List (List Key ×V)}{xs:List (List Key ×Addr ×Value)}(r:KT H kvs xs)(k:List Key):RelO (valV kvs k) ((atKey xs k).map (·.2)):=by
 induction r with
 | nil=>exact True.intro
 | @cons p q ps qs h t ih=>
  obtain⟨h1,_,h2⟩:=h;by_cases e:p.1=k
  ·have e':q.1=k:=h1.symm.trans e;have b:atKey (q::qs) k=some q.2:=by simp[atKey,List.find?_cons,e']
   rw[zS e,b];exact h2
  ·have e':¬q.1=k:=λz=>e (h1.trans z);have b:atKey (q::qs) k=atKey qs k:=by simp[atKey,List.find?_cons,e']
   rw[zP e,b];exact ih
theorem KT.repl {H:Hp}{kvs:List (List Key ×V)}{xs:List (List Key ×Addr ×Value)}(r:KT H kvs xs)(k:List Key){y:V}{u:Value}(ry:RelV y u):
  KT H (kvs.map λkv=>if kv.1=k then(kv.1,y) else kv) (xs.map (putAt k u)):=by
 induction r with
 | nil=>exact .nil
 | @cons p q ps qs h t ih=>
  rw[List.map_cons,List.map_cons];refine .cons ?_ ih;obtain⟨h1,h2,h3⟩:=h;unfold putAt;by_cases e:p.1=k
  ·rw[if_pos e,if_pos (h1.symm.trans e)];exact⟨h1,h2,ry⟩
  ·rw[if_neg e,if_neg (λz=>e (h1.trans z))];exact⟨h1,h2,h3⟩
theorem KT.put {H:Hp}{kvs:List (List Key ×V)}{xs:List (List Key ×Addr ×Value)}(r:KT H kvs xs)(k:List Key){b:Addr}{y:V}{u:Value}(hb:H b=some (.tup (k.map kV)))(ry:RelV y u):
  KT H (putK kvs k y) (storedH xs k b u):=by
 have e:(kvs.any λkv=>decide (kv.1=k))=(atKey xs k).isSome:=by rw[zbz,(r.val k).isSome_eq,Option.isSome_map]
 unfold putK storedH;rw[e];by_cases q:(atKey xs k).isSome=true
 ·rw[if_pos q,if_pos q];exact r.repl k ry
 ·rw[if_neg q,if_neg q];exact Paired.snoc r ⟨rfl,hb,ry⟩
theorem KT.keeps {H H':Hp}{kvs:List (List Key ×V)}{xs:List (List Key ×Addr ×Value)}(r:KT H kvs xs)(ht:∀b ys,H b=some (.tup ys)->H' b=some (.tup ys)):KT H' kvs xs:=
 Paired.mapP r λ_ _ z=>⟨z.1,ht _ _ z.2.1,z.2.2⟩
section
variable {P:Program}{w:World}{H:Hp}{h:Heap}{a:Addr}
theorem zpw {u:HO}(ok:HOk P w H h)(e:Rd H a u):zE P w H h a u:=e.ok ok
theorem zfX {kvs:QG}(ok:HOk P w H h)(e:Rd H a (.dK kvs)):kvs.length<=sizeLine/\(a==sysModules)=false/\∃vs,KV kvs vs/\h.DictOf (zX P w) a vs:=
 show zE P w H h a (.dK kvs) from zpw ok e
theorem zlJ {kvs:QG}(ok:HOk P w H h)(e:H a=some (.dK kvs)):kvs.length<=sizeLine/\(a==sysModules)=false/\∃vs,KV kvs vs/\h.DictOf (zX P w) a vs:=zfX ok (.inl e)
theorem zer {ks:List Key}(ok:HOk P w H h)(e:H a=some (.tup (ks.map kV))):(tupleKind (zX P w)).is h ks a:=by obtain⟨_,its,r,o,h1,h2,n,h3⟩:=(show zE P w H h a (.tup (ks.map kV)) from ok a _ e);exact⟨o,its.toArray,n,h1,h2,h3,by simpa using zfE r⟩
theorem zfQ {kvs:List (List Key ×V)}(ok:HOk P w H h)(e:Rd H a (.dT kvs)):kvs.length<=sizeLine/\(a==sysModules)=false/\
  ∃xs,KT H kvs xs/\h.DictOfH (tupleKind (zX P w)) a xs:=by
 obtain⟨z,y,xs,r,o,es,ep,h1,h2,h3,h4,h5⟩:=(show zE P w H h a (.dT kvs) from zpw ok e);refine⟨z,y,xs,r,o,es,ep,h1,h2,h3,h4,λx hx=>?_,h5⟩;have all:∀{l:List (List Key ×V)} {m:List (List Key ×Addr ×Value)},KT H l m->∀x∈m,(tupleKind (zX P w)).is h x.1 x.2.1:=by
  intro l m q
  induction q with
  | nil=>intro x hx;exact nomatch hx
  | @cons p q ps qs hq t ih=>
   intro x hx;rcases List.mem_cons.mp hx with e | hx
   ·subst e;exact zer ok (by rw[<-hq.1];exact hq.2.1)
   ·exact ih x hx
 exact all r x hx
theorem zrF {kvs:List (List Key ×V)}(ok:HOk P w H h)(e:H a=some (.dT kvs)):kvs.length<=sizeLine/\(a==sysModules)=false/\
  ∃xs,KT H kvs xs/\h.DictOfH (tupleKind (zX P w)) a xs:=zfQ ok (.inl e)
end
noncomputable def DGet (H:Hp)(a:Addr)(y:V)(r:Option V):Prop:=
 (∃kvs k,Rd H a (.dK kvs)/\y=kV k/\r=valV kvs k)\/∃kvs k b,Rd H a (.dT kvs)/\y=.ref b/\H b=some (.tup (k.map kV))/\r=valV kvs k
noncomputable def DPut (H:Hp)(a:Addr)(y v:V)(H':Hp):Prop:=
 (∃kvs k,H a=some (.dK kvs)/\y=kV k/\kvs.length < sizeLine/\H'=upd H a (.dK (putK kvs k v)))\/
 ∃kvs k b,H a=some (.dT kvs)/\y=.ref b/\H b=some (.tup (k.map kV))/\kvs.length < sizeLine/\H'=upd H a (.dT (putK kvs k v))
theorem DGet.k {H:Hp}{a:Addr}{kvs:QG}{k:Key}(e:H a=some (.dK kvs)):DGet H a (kV k) (valV kvs k):=.inl ⟨kvs,k,.inl e,rfl,rfl⟩
theorem DPut.k {H:Hp}{a:Addr}{kvs:QG}{k:Key}{v:V}(e:H a=some (.dK kvs))(hl:kvs.length < sizeLine):DPut H a (kV k) v (upd H a (.dK (putK kvs k v))):=.inl ⟨kvs,k,e,rfl,hl,rfl⟩
section
variable {X:Cx}{pins:QE}{σ:St}{H:Hp}{s:Shared}{a:Addr}{y v:V}{u r:Value}{o:Option V}{A:Around}{E:QC}
theorem Inv.big (I:Inv X pins σ H s):sysModules < s.heap.objs.size:=by have h:mainGlobals < s.heap.objs.size:=(I.mod.glob.keeps I.bk).lt;exact Nat.lt_trans (by decide) h
theorem zka {Q:QC}(hu:A.units+1 < cLine)(I:Inv X pins σ H s)(g:DGet H a y (some v))(ry:RelV y u)(h:∀w' s',Inv X pins σ H s'->RelV v w'->Q w' s'):
  wpAny (model X.prog X.w) A (getItem (.ref a) u) Q E s:=by
 rcases g with ⟨kvs,k,e,ey,l⟩ | ⟨kvs,k,b,e,ey,eb,l⟩
 ·subst ey;obtain⟨z,hd,vs,rel,dd⟩:=zfX I.hok e;obtain⟨w',hw,rw'⟩:=RelO.some_of (v:=v) (o:=valueAt vs k) (by rw[l];exact rel.val k);exact wpAny_getItem_of (zeq ry) dd.mapOf hw (h w' _ (I.tok _) rw')
 ·subst ey;cases (show u=Value.ref b from ry);obtain⟨z,hd,xs,rel,dd⟩:=zfQ I.hok e;obtain⟨w',hw,rw'⟩:=RelO.some_of (v:=v) (o:=(atKey xs k).map (·.2)) (by rw[l];exact rel.val k);obtain⟨p,hp,hp2⟩:=Option.map_eq_some_iff.mp hw;refine wpAny_getItem_heap (tupleKind_room_in1 hu) (zer I.hok eb) dd hp ?_;rw[hp2];exact h w' _ (I.tok _) rw'
theorem d_in {Q:QC}(hu:A.units+1 < cLine)(I:Inv X pins σ H s)(g:DGet H a y o)(ry:RelV y u)(h:∀s',Inv X pins σ H s'->Q (.bool o.isSome) s'):
  wpAny (model X.prog X.w) A (compareOp .In u (.ref a)) Q E s:=by
 rcases g with ⟨kvs,k,e,ey,l⟩ | ⟨kvs,k,b,e,ey,eb,l⟩
 ·subst ey;obtain⟨z,hd,vs,rel,dd⟩:=zfX I.hok e;refine wpAny_in_of (zeq ry) hd dd.mapOf ?_;rw[<-(rel.val k).isSome_eq,<-l];exact h _ (I.tok _)
 ·subst ey;cases (show u=Value.ref b from ry);obtain⟨z,hd,xs,rel,dd⟩:=zfQ I.hok e;refine wpAny_in_heap (tupleKind_room_in1 hu) (zer I.hok eb) hd dd ?_;have q:=(rel.val k).isSome_eq;rw[Option.isSome_map] at q;rw[<-q,<-l];exact h _ (I.tok _)
theorem zoM {Q:QC}(hu:A.units+1 < cLine)(I:Inv X pins σ H s)(g:DGet H a y o)(ry:RelV y u)(h:∀s',Inv X pins σ H s'->Q (.bool (!o.isSome)) s'):
  wpAny (model X.prog X.w) A (compareOp .NotIn u (.ref a)) Q E s:=by
 rcases g with ⟨kvs,k,e,ey,l⟩ | ⟨kvs,k,b,e,ey,eb,l⟩
 ·subst ey;obtain⟨z,hd,vs,rel,dd⟩:=zfX I.hok e;refine wpAny_notIn_of (zeq ry) hd dd.mapOf ?_;rw[<-(rel.val k).isSome_eq,<-l];exact h _ (I.tok _)
 ·subst ey;cases (show u=Value.ref b from ry);obtain⟨z,hd,xs,rel,dd⟩:=zfQ I.hok e;refine wpAny_notIn_heap (tupleKind_room_in1 hu) (zer I.hok eb) hd dd ?_;have q:=(rel.val k).isSome_eq;rw[Option.isSome_map] at q;rw[<-q,<-l];exact h _ (I.tok _)
theorem zd9 {h':Heap}{t':Nat}{ob:HO}(I:Inv X pins σ H s)(mu:Mut (H a))(hs:Heap.SameBut a s.heap h')(he:∃q,h'.get? a=some q)(new:zE X.prog X.w (upd H a ob) h' a ob):
  Inv X pins σ (upd H a ob) {s with heap:=h',toks:=t'}:=
 I.write (x:=a) (e:=a) mu (.inl rfl) (λb q hb z=>(hs.2 b hb).trans z) he new
theorem zin {P:Program}{w:World}{H':Hp}{h':Heap}{kvs:QG}{vs:List (Key ×Value)}(z:kvs.length<=sizeLine)(hd:(a==sysModules)=false)(rel:KV kvs vs)(dd:h'.DictOf (zX P w) a vs):
  zE P w H' h' a (.dK kvs):=⟨z,hd,vs,rel,dd⟩
theorem zk6 {H':Hp}{Q:QD}(hu:A.units+1 < cLine)(I:Inv X pins σ H s)(g:DPut H a y v H')(ry:RelV y u)(rv:RelV v r)(h:∀s',Inv X pins σ H' s'->Q () s'):
  wpAny (model X.prog X.w) A (setItem (.ref a) u r) Q E s:=by
 rcases g with ⟨kvs,k,e,ey,l,eH⟩ | ⟨kvs,k,b,e,ey,eb,l,eH⟩
 ·subst ey eH;obtain⟨z,hd,vs,rel,dd⟩:=zlJ I.hok e;have hz:vs.length<=sizeLine:=by rw[<-rel.length];exact z
  have hl:(putK kvs k v).length<=sizeLine:=by have:=zdE kvs k v;omega
  refine wpAny_setItem_pairs (hsz:=hz) (zeq ry) dd λh' dd' hs=>h _ ?_;have he:∃q,h'.get? a=some q:=let ⟨q,_,_,hq,_⟩:=dd';⟨q,hq⟩;exact zd9 I (by rw[e];exact True.intro) hs he (zin hl hd (rel.put k rv) dd')
 ·subst ey eH;cases (show u=Value.ref b from ry);obtain⟨z,hd,xs,rel,dd⟩:=zrF I.hok e;have hz:xs.length<=sizeLine:=by rw[<-Paired.length rel];exact z
  have hl:(putK kvs k v).length<=sizeLine:=by have:=zdE kvs k v;omega
  refine wpAny_setItem_heap (hsz:=hz) (tupleKind_room_in1 hu) (zer I.hok eb) dd λh' dd' hs=>h _ ?_;obtain⟨q,es,ep,hq,h2,h3,h4,_,h5⟩:=dd';refine zd9 I (by rw[e];exact True.intro) hs ⟨q,hq⟩ ⟨hl,hd,_,(rel.put k eb rv).keeps λc ys ec=>?_,q,es,ep,hq,h2,h3,h4,h5⟩;rw[zf (zaf ec e (λz=>nomatch z))];exact ec
end
section
variable {X:Cx}{pins:QE}{σ:St}{H:Hp}{s:Shared}{a:Addr}{kvs:QG}{k:Key}{u:Value}{A:Around}{E:QC}
theorem zrw {Q:QD}(I:Inv X pins σ H s)(e:H a=some (.dK kvs))(ry:RelV (kV k) u)(l:(valV kvs k).isSome=true)(h:∀s',Inv X pins σ (upd H a (.dK (zbf kvs k))) s'->Q () s'):
  wpAny (model X.prog X.w) A (delItem (.ref a) u) Q E s:=by
 obtain⟨z,hd,vs,rel,dd⟩:=zlJ I.hok e;refine wpAny_delItem_slot dd.typeIs (by decide) PySem.F.slot_dict_delitem
  (call_meetsIn PySem.F.slot_dict_delitem dd.typeIs PySem.F.entry_dict_delitem (PySem.F.args_dict_delitem_2 _ _) (meets_dict_delitem_pairs (zX X.prog X.w) a (zeq ry)) ⟨vs,dd,by rw[<-rel.length];exact z,by rw[<-(rel.val k).isSome_eq];exact l,λh' dd' hs=>h _ ?_⟩)
 have he:∃q,h'.get? a=some q:=let ⟨q,_,_,hq,_⟩:=dd';⟨q,hq⟩
 exact zd9 I (by rw[e];exact True.intro) hs he (zin (Ji (zhb kvs k) z) hd (rel.drop k) dd')
theorem zrW {v:V}{more:QN}{Q:QC}(I:Inv X pins σ H s)(e:H a=some (.dK kvs))(ry:RelV (kV k) u)(l:valV kvs k=some v)(hm:more=[]\/∃x,more=[x])
  (h:∀w' s',Inv X pins σ (upd H a (.dK (zbf kvs k))) s'->RelV v w'->Q w' s'):wpAny (model X.prog X.w) A (call (.builtin "dict.pop") (.ref a::u::more)) Q E s:=by
 obtain⟨z,hd,vs,rel,dd⟩:=zlJ I.hok e;obtain⟨w',hw,rw'⟩:=RelO.some_of (v:=v) (o:=valueAt vs k) (by rw[<-l];exact rel.val k);have hp:(keyPart u).isSome=true:=by
  cases k with
  | inl i=>obtain⟨t,q⟩:=(show∃t,u=Value.int i t from ry);subst q;rfl
  | inr x=>obtain⟨t,q⟩:=(show∃t,u=Value.str x t from ry);subst q;rfl
 have ha:argsOk "dict.pop" ⟨.ref a::u::more,[]⟩:=by
  rcases hm with q | ⟨x,q⟩
  ·subst q;exact PySem.F.args_dict_pop_2 _ _
  ·subst q;exact PySem.F.args_dict_pop_3 _ _ _
 refine call_meetsIn PySem.F.slot_dict_pop dd.typeIs PySem.F.entry_dict_pop ha (meets_dict_pop_there (zX X.prog X.w) a (zeq ry) more hm hp)
  ⟨vs,w',dd,by rw[<-rel.length];exact z,hw,λh' dd' hs=>h w' _ ?_ rw'⟩
 have he:∃q,h'.get? a=some q:=let ⟨q,_,_,hq,_⟩:=dd';⟨q,hq⟩
 exact zd9 I (by rw[e];exact True.intro) hs he (zin (Ji (zhb kvs k) z) hd (rel.drop k) dd')
end
noncomputable def NoSl (i:Expr):Prop:=∀ov iv,subscripted i false ov iv=operate [ov,iv] (getItem ov iv)
theorem zoh {prog:Program}{w:World}{A:Around}{E:QC}{s:Shared}{env:Env}{value slice:Expr}{pos:Pos}{T id:String}{Q:QC}
  (hl:typeLookup (.type T) "__getitem__" =pure (some (.builtin id))) (hs:NoSl slice)
  (h:wpAny (model prog w) A (eval value env) (λo s₁=>wpAny (model prog w) A (eval slice env) (λi s₂=>s₂.TypeIs o T/\wpAny (model prog w) A (getItem o i) Q E s₂) E s₁) E s):
  wpAny (model prog w) A (eval (.Subscript value slice pos) env) Q E s:=by
 refine Subscript_ (wpAny_mono h (λo s₁ h₁=>wpAny_mono h₁ (λi s₂ h₂=>?_) λ_ _ x=>x) λ_ _ x=>x);obtain⟨hT,h₂⟩:=h₂;unfold subscriptTail;refine Ja ?_;rw[getitemInPython_of_ne hT.not_modules];refine Ja (wpAny_specialOf hT hl ?_);have fin:wpAny (model prog w) A (subscripted slice false o i) (λr s₃=>wpAny (model prog w) A (letTemporaryGo value o r >>=λ_=>pure r) Q E s₃) E s₂:=by rw[hs o i];exact wpAny_operating (wpAny_mono h₂ (λr s₃ h₃=>Ja (wpAny_letTemporaryGo (wpAny_pure h₃))) λ_ _ x=>x)
 first
  | exact wpAny_pure (Ja fin)
  | exact Ja (wpAny_pure (Ja fin))
  | exact Ja fin
theorem zhT {X:Cx}{pins:QE}{σ:St}{H:Hp}{s:Shared}{a:Addr}{y:V}{o:Option V}(I:Inv X pins σ H s)(g:DGet H a y o):s.TypeIs (.ref a) "dict" :=by
 rcases g with ⟨kvs,k,e,_,_⟩ | ⟨kvs,k,b,e,_,_,_⟩
 ·obtain⟨_,_,vs,_,dd⟩:=zfX I.hok e;exact dd.typeIs
 ·obtain⟨_,_,xs,_,dd⟩:=zfQ I.hok e;exact dd.typeIs
noncomputable def zrU (td ty:TE):TE:=fun σ H Q=>td σ H λx H1=>ty σ H1 λy H2=>∃a v,x=.ref a/\DGet H2 a y (some v)/\Q v H2
noncomputable def tDIn (ty td:TE):TE:=fun σ H Q=>ty σ H λy H1=>td σ H1 λx H2=>∃a o,x=.ref a/\DGet H2 a y o/\Q (.bl o.isSome) H2
noncomputable def zoD (ty td:TE):TE:=fun σ H Q=>ty σ H λy H1=>td σ H1 λx H2=>∃a o,x=.ref a/\DGet H2 a y o/\Q (.bl (!o.isSome)) H2
noncomputable def zr3 (td ty tv:TE):TS:=λD σ H=>tv σ H λv H1=>td σ H1 λx H2=>ty σ H2 λy H3=>∃a H4,x=.ref a/\DPut H3 a y v H4/\D.nx σ H4
section
variable {X:Cx}{o i e value:Expr}{pos pos' tpos:Pos}{td ty tv:TE}
theorem zjG (hu:X.A.units+1 < cLine)(ho:PE X o td)(hi:PE X i ty)(hs:NoSl i):PE X (.Subscript o i pos) (zrU td ty):=by intro pins s σ H Q I h;refine zoh PySem.F.slot_dict_getitem.lookup hs (thn (ho pins s σ H _ I h) λu s1 ⟨x,H1,I1,rx,q1⟩=>thn (hi pins s1 σ H1 _ I1 q1) λiv s2 ⟨y,H2,I2,ry,a,v,ex,g,q2⟩=>?_);subst ex;obtain rfl:u=Value.ref a:=rx;exact⟨zhT I2 g,zka hu I2 g ry λw' s3 I3 rw'=>⟨v,H2,I3,rw',q2⟩⟩
theorem zgG (hu:X.A.units+1 < cLine)(hi:PE X i ty)(ho:PE X o td):PC X .In i o (tDIn ty td):=by intro pins s σ H Q I h;refine thn (hi pins s σ H _ I h) λiv s1 ⟨y,H1,I1,ry,q1⟩=>thn (ho pins s1 σ H1 _ I1 q1) λu s2 ⟨x,H2,I2,rx,a,ov,ex,g,q2⟩=>?_;subst ex;obtain rfl:u=Value.ref a:=rx;exact d_in hu I2 g ry λs3 I3=>⟨.bl ov.isSome,H2,I3,rfl,q2⟩
theorem zf4 (hu:X.A.units+1 < cLine)(hi:PE X i ty)(ho:PE X o td):PC X .NotIn i o (zoD ty td):=by intro pins s σ H Q I h;refine thn (hi pins s σ H _ I h) λiv s1 ⟨y,H1,I1,ry,q1⟩=>thn (ho pins s1 σ H1 _ I1 q1) λu s2 ⟨x,H2,I2,rx,a,ov,ex,g,q2⟩=>?_;subst ex;obtain rfl:u=Value.ref a:=rx;exact zoM hu I2 g ry λs3 I3=>⟨.bl (!ov.isSome),H2,I3,rfl,q2⟩
theorem zjd (hu:X.A.units+1 < cLine)(ho:PE X o td)(hi:PE X i ty)(hv:PE X value tv)(hs:swapsWith value (some (.Subscript o i pos')) pos.line X.env=pure false):
  PS X (.Assign [.Subscript o i pos'] value pos) (zr3 td ty tv):=by
 intro pins s σ H D I h;refine wpAny_Assign_Subscript (thn (hv pins s σ H _ I h) λr s1 ⟨v,H1,I1,rv,q1⟩=>thn (ho pins s1 σ H1 _ I1 q1) λu s2 ⟨x,H2,I2,rx,q2⟩=>thn (hi pins s2 σ H2 _ I2 q2) λiv s3 ⟨y,H3,I3,ry,a,H4,ex,g,q3⟩=>?_) hs;subst ex;obtain rfl:u=Value.ref a:=rx;exact zk6 hu I3 g ry rv λs4 I4=>⟨σ,H4,I4,q3⟩
end
theorem zm2 {P:Program}{w:World}{H:Hp}(h:Heap)(hb:sysModules < h.objs.size):zE P w H (h.push {cls:=.type "dict",data:=.dict #[]}) h.objs.size (.dK []):=
 ⟨Nat.zero_le _,beq_eq_false_iff_ne.mpr (Ne.symm (Jg hb)),[],.nil,Heap.DictOf.new h⟩
noncomputable def zq4:TE:=λ_ H Q=>∀p,H p=none->Q (.ref p) (upd H p (.dK []))
section
variable {X:Cx}{pos:Pos}
theorem zm9:PE X (.Dict [] [] pos) zq4:=λpins s σ H Q I h=>
 wpAny_Dict_empty ⟨.ref s.heap.objs.size,_,I.laid (a:=s.heap.objs.size) (o:=.dK []) (t':=s.toks) (λ_ _ q=>Heap.get?_push_of_some _ q) (Jb _) (zm2 s.heap I.big),rfl,h _ (I.hok.fresh (Jb _))⟩
end
noncomputable def zmx:List (TE ×TE)->St->Hp->(List (V ×V)->Hp->Prop)->Prop
 | [],_,H,Q=>Q [] H
 | (tk,tv)::r,σ,H,Q=>tk σ H λx H1=>tv σ H1 λy H2=>zmx r σ H2 λps H3=>Q ((x,y)::ps) H3
noncomputable abbrev VV:List (V ×V)->List (Value ×Value)->Prop:=Paired λp q=>RelV p.1 q.1/\RelV p.2 q.2
noncomputable def PPs (X:Cx)(pos:Pos)(keys:List (Option Expr))(values:List Expr)(trs:List (TE ×TE)):Prop:=
 ∀(pins:QE) (s:Shared) (σ:St) (H:Hp) (Q:List (V ×V)->Hp->Prop),Inv X pins σ H s->zmx trs σ H Q->
  wpAny (model X.prog X.w) X.A (evalPairs (pairTrees keys values X.env pos)) (λvs s'=>∃ps H',Inv X pins σ H' s'/\VV ps vs/\Q ps H') X.xe s
structure M1 (X:Cx)(o:Expr)(m:Str)(apos:Pos)(e:Expr)(cpos:Pos):Prop where
 base:attributeBase o m X.env (eval o X.env)=eval o X.env
 few:((backTo cpos (starEach [e] X.env)).all (λx=>!x.1) && (backToKw cpos (keywordEach [] X.env)).all (λx=>x.1.isSome)
  && decide (([e]:List Expr).length+([]:List Keyword).length+(if ([]:List Keyword).isEmpty then 0 else 1) < 30))=true
 line:(apos.endLine==cpos.line)=true
 trees:backTo cpos (starEach [e] X.env)=[(false,eval e X.env)]
structure M2 (X:Cx)(o:Expr)(m:Str)(apos:Pos)(e f:Expr)(cpos:Pos):Prop where
 base:attributeBase o m X.env (eval o X.env)=eval o X.env
 few:((backTo cpos (starEach [e,f] X.env)).all (λx=>!x.1) && (backToKw cpos (keywordEach [] X.env)).all (λx=>x.1.isSome)
  && decide (([e,f]:List Expr).length+([]:List Keyword).length+(if ([]:List Keyword).isEmpty then 0 else 1) < 30))=true
 line:(apos.endLine==cpos.line)=true
 trees:backTo cpos (starEach [e,f] X.env)=[(false,eval e X.env),(false,eval f X.env)]
noncomputable def IsD (H:Hp)(a:Addr):Prop:=(∃kvs,Rd H a (.dK kvs))\/∃kvs,Rd H a (.dT kvs)
theorem zq7 {X:Cx}{pins:QE}{σ:St}{H:Hp}{s:Shared}{a:Addr}(I:Inv X pins σ H s)(d:IsD H a):
  s.TypeIs (.ref a) "dict" /\(∀b,Value.ref a=.ref b->∃ob,s.heap.get? b=some ob/\ob.dict=none)/\(a==sysModules)=false:=by
 rcases d with ⟨kvs,e⟩ | ⟨kvs,e⟩
 ·obtain⟨_,hd,vs,_,dd⟩:=zfX I.hok e;refine⟨dd.typeIs,λb q=>?_,hd⟩;cases q;obtain⟨ob,_,_,h1,h2,_⟩:=dd;exact⟨ob,h1,h2.2.1⟩
 ·obtain⟨_,hd,xs,_,dd⟩:=zfQ I.hok e;refine⟨dd.typeIs,λb q=>?_,hd⟩;cases q;obtain⟨ob,_,_,h1,h2,_⟩:=dd;exact⟨ob,h1,h2.2.1⟩
section
variable {X:Cx}{pins:QE}{σ:St}{H:Hp}{s:Shared}{a:Addr}{y d:V}{u r:Value}{o:Option V}{A:Around}{E:QC}
end
noncomputable def zqi (td ty:TE):TE:=fun σ H Q=>td σ H λx H1=>∃a,x=.ref a/\IsD H1 a/\ty σ H1 λy H2=>∃kvs k v,H2 a=some (.dK kvs)/\y=kV k/\valV kvs k=some v/\Q v (upd H2 a (.dK (zbf kvs k)))
section
variable {X:Cx}{o e f:Expr}{apos cpos:Pos}{td ty tx:TE}
theorem zl6 (ho:PE X o td)(he:PE X e ty)(m:M1 X o "pop" apos e cpos):PE X (.Call (.Attribute o "pop" apos) [e] [] cpos) (zqi td ty):=by intro pins s σ H Q I h;refine wpAny_Call_method m.base m.few m.line PySem.F.plainAttrs_dict PySem.F.slot_dict_pop PySem.F.type_dict_pop (thn (ho pins s σ H _ I h) λu s1 ⟨x,H1,I1,rx,a,ex,d,q1⟩=>?_);subst ex;obtain rfl:u=Value.ref a:=rx;obtain⟨t1,t2,_⟩:=zq7 I1 d;refine⟨t1,t2,?_⟩;rw[m.trees];refine Calls.callWith_builtin rfl (Calls.evalArgs_plain (Calls.spliced_cons (thn (he pins s1 σ H1 _ I1 q1) λiv s2 ⟨y,H2,I2,ry,kvs,k,v,ea,ey,l,q2⟩=>Calls.spliced_nil ?_)));subst ey;exact zrW I2 ea ry l (.inl rfl) λw' s3 I3 rw'=>⟨v,_,I3,rw',q2⟩
end
section
variable {X:Cx}{pins:QE}{σ:St}{H:Hp}{s:Shared}{a:Addr}{kvs:QG}{A:Around}{E:QC}
end
section
variable {X:Cx}{pins:QE}{σ:St}{H:Hp}{s:Shared}{a:Addr}{y:V}{u:Value}{A:Around}{E:QC}
end
end L2
namespace Px
open PySem
noncomputable def Tb (h:Heap)(e:Addr)(cls:Value)(od:QM)(T:Addr)(fl:Value):Prop:=
 ∃oe vs oT ts,h.get? e=some oe/\oe.cls=cls/\oe.dict=od/\oe.data=.fields vs/\vs[1]? =some (.ref T)/\T≠e/\h.get? T=some oT/\oT.data=.fields ts/\ts[3]? =some fl
structure Chg (fs:QO)(e T:Addr)(h h':Heap):Prop where
 size:h.objs.size<=h'.objs.size
 keep:∀b o,h.get? b=some o->b∉fs->b≠e->b≠T->h'.get? b=some o
 slot:∀b o,h.get? b=some o->b∈fs->b≠e->b≠T->∃sl,h'.get? b=some {o with slots:=sl}
theorem zqe (o:Obj)(f:Array Value->Array Value):(Obj.mapFields f o).cls=o.cls:=Obj.cls_mapFields _ _
theorem zn9 (o:Obj)(f:Array Value->Array Value):(Obj.mapFields f o).dict=o.dict:=by obtain⟨c,d,dt,sl⟩:=o;cases dt <;> rfl
section
variable {M:Model}{A:Around}{E:QC}{s:Shared}{base:Heap}{env:Env}{outer:List Env}{L e T:Addr}
theorem entry {oe:Obj}{vs:Array Value}{head:Value}{hadNext:Bool}{Q:QD}(hfr:A.frames=some (env::outer))
  (hl:s.heap.FunFrames base (env::outer)) (hf:env.frame=some L)
  (he:s.heap.get? e=some oe) (hd:oe.data=.fields vs) (hsz:1 < vs.size)
  (h:∀h' T',s.heap.objs.size<=T'->Tb h' e oe.cls oe.dict T' (rawInt L)->Chg ((env::outer).filterMap (·.frame)) e T' s.heap h'->Q () {s with heap:=h'}):
  wpAny M A (do
   let a<-frameOf env
   let pl<-entryPlaceOf L hadNext
   let b<-EntryCells.newEntry head a .none (rawInt L) .none pl
   setField (.ref e) 1 b) Q E s:=by
 have nfr:e∉(env::outer).filterMap (·.frame):=λhm=>by obtain⟨_,o,ho,hnf⟩:=hl.mem hm;have z:oe=o:=Option.some.inj (he.symm.trans ho);exact hnf vs (by rw[<-z];exact hd)
 refine Ja (wpAny_frameOf_fun hfr hl hf λg x=>?_);refine Ja (wpAny_entryPlaceOf λpl hp=>?_);unfold EntryCells.newEntry newFields;refine Ja (wpAny_newObj_type ?_ (hp.sizeOk5 _ _ _ _ _));have ge:g.get? e=some oe:=(x.2.1 e nfr).trans he;generalize hN:({cls:=.type "traceback",dict:=none,data:=.fields ([head,.ref L,.none,rawInt L,.none]++(if pl.isEmpty then List.replicate 6 Value.none else pl)).toArray}:Obj)=N;have nfN:N.isFreed=false:=by rw[<-hN];rfl
 have dN:∃ts,N.data=.fields ts/\ts[3]? =some (rawInt L):=by rw[<-hN];exact⟨_,rfl,by first | (simp;done) | (rcases hp with rfl | ⟨_,_,_,_,_,_,_,rfl⟩ <;> simp)⟩
 have pe:(g.push N).get? e=some oe:=Heap.get?_push_of_some N ge;have pT:(g.push N).get? g.objs.size=some N:=Heap.get?_push_size g nfN;have Te:g.objs.size≠e:=Ne.symm (Jg (Heap.lt_size ge));refine wpAny_setField pe hd hsz (h _ g.objs.size (by rw[x.1];exact Jb _) ?_ ?_)
 ·obtain⟨ts,d1,d2⟩:=dN;have dd:=Obj.data_mapFields hd (·.setIfInBounds 1 (Value.ref g.objs.size));refine⟨_,_,N,ts,Heap.get?_update_self _ pe (Obj.isFreed_of_fields dd),zqe _ _,zn9 _ _,dd,by simp[hsz],Te,?_,d1,d2⟩;exact(Heap.get?_update_other _ _ (Ne.symm Te)).trans pT
 ·refine⟨?_,λb o q1 q2 q3 q4=>?_,λb o q1 q2 q3 q4=>?_⟩
  ·rw[Heap.size_after_update,Heap.size_push,x.1];exact Nat.le_succ _
  ·exact(Heap.get?_update_other _ _ (Ne.symm q3)).trans (Heap.get?_push_of_some N ((x.2.1 b q2).trans q1))
  ·obtain⟨sl,q⟩:=x.2.2 b o q1;exact⟨sl,(Heap.get?_update_other _ _ (Ne.symm q3)).trans (Heap.get?_push_of_some N q)⟩
theorem zrJ {oe:Obj}{vs:Array Value}{Q:QD}(hfr:A.frames=some (env::outer))(hl:s.heap.FunFrames base (env::outer))(hf:env.frame=some L)
  (he:s.heap.get? e=some oe) (hd:oe.data=.fields vs) (h1:vs[1]? =some .none)
  (h:∀h' T',s.heap.objs.size<=T'->Tb h' e oe.cls oe.dict T' (rawInt L)->Chg ((env::outer).filterMap (·.frame)) e T' s.heap h'->Q () {s with heap:=h'}):
  wpAny M A (noteFrame (.ref e) env) Q E s:=by
 unfold noteFrame;simp only[hf];refine Ja (wpAny_field he hd h1 ?_);rw[if_neg (by decide)];exact entry hfr hl hf he hd (Array.getElem?_eq_some_iff.mp h1).1 h
theorem zpz {cls:Value}{od:QM}{Q:QD}(hfr:A.frames=some (env::outer))(hl:s.heap.FunFrames base (env::outer))(hf:env.frame=some L)
  (t:Tb s.heap e cls od T .none)
  (h:∀h' T',s.heap.objs.size<=T'->Tb h' e cls od T' (rawInt L)->Chg ((env::outer).filterMap (·.frame)) e T s.heap h'->Q () {s with heap:=h'}):
  wpAny M A (noteFrame (.ref e) env) Q E s:=by
 obtain⟨oe,vs,oT,ts,he,hc,ho,hd,h1,hTe,hT,hdT,h3⟩:=t;unfold noteFrame;simp only[hf];refine Ja (wpAny_field he hd h1 ?_);rw[if_pos (show(Value.ref T !=Value.none)=true from by simp)];refine Ja (wpAny_field hT hdT h3 ?_);rw[if_neg (show¬((Value.none==rawInt L)=true) from by simp[rawInt])];refine Ja (wpAny_setField hT hdT (Array.getElem?_eq_some_iff.mp h3).1 ?_);have oth:∀b,b≠T->(s.heap.update T (Obj.mapFields (·.setIfInBounds 3 Value.none))).get? b=s.heap.get? b:=λb hb=>Heap.get?_update_other _ _ (Ne.symm hb);have apart:∀b o,s.heap.get? b=some o->(∀vs,o.data≠ .fields vs)->b≠T:=λb o hb hn q=>by subst q;exact hn ts (by rw[<-Option.some.inj (hT.symm.trans hb)];exact hdT)
 refine entry (s:={s with heap:=s.heap.update T (Obj.mapFields (·.setIfInBounds 3 Value.none))}) hfr
  (hl.of_keeps λb o hb hn=>⟨o,(oth b (apart b o hb hn)).trans hb,rfl⟩) hf ((oth e (Ne.symm hTe)).trans he) hd (Array.getElem?_eq_some_iff.mp h1).1 λh' T' z1 z2 z3=>?_
 have z1':s.heap.objs.size<=T':=by rw[<-Heap.size_after_update s.heap T (Obj.mapFields (·.setIfInBounds 3 Value.none))];exact z1
 rw[hc,ho] at z2;refine h h' T' z1' z2 ⟨?_,λb o q1 q2 q3 q4=>?_,λb o q1 q2 q3 q4=>?_⟩
 ·rw[<-Heap.size_after_update s.heap T (Obj.mapFields (·.setIfInBounds 3 Value.none))];exact z3.size
 ·exact z3.keep b o ((oth b q4).trans q1) q2 q3 λq=>Je (Heap.lt_size q1) (Nat.not_lt.mpr (q ▸ z1'))
 ·exact z3.slot b o ((oth b q4).trans q1) q2 q3 λq=>Je (Heap.lt_size q1) (Nat.not_lt.mpr (q ▸ z1'))
theorem zcD {fs:QO}{cls fl:Value}{od:QM}{Q:QD}(t:Tb s.heap e cls od T fl)
  (h:∀h',Tb h' e cls od T .none->Chg fs e T s.heap h'->(∀b o,s.heap.get? b=some o->b≠T->h'.get? b=some o)->Q () {s with heap:=h'}):wpAny M A (setFlight (.ref e) none) Q E s:=by
 obtain⟨oe,vs,oT,ts,he,hc,ho,hd,h1,hTe,hT,hdT,h3⟩:=t;have z3:3 < ts.size:=(Array.getElem?_eq_some_iff.mp h3).1;have oth:∀b,b≠T->(s.heap.update T (Obj.mapFields (·.setIfInBounds 3 ((none:QM).elim Value.none λf=>rawInt f)))).get? b=s.heap.get? b:=
  λb hb=>Heap.get?_update_other _ _ (Ne.symm hb)
 unfold setFlight;refine Ja (wpAny_field he hd h1 ?_);rw[if_pos (show(Value.ref T !=Value.none)=true from by simp)];have dd:=Obj.data_mapFields hdT (·.setIfInBounds 3 ((none:QM).elim Value.none λf=>rawInt f));refine wpAny_setField hT hdT z3 (h _ ⟨oe,vs,_,_,(oth e (Ne.symm hTe)).trans he,hc,ho,hd,h1,hTe,Heap.get?_update_self _ hT (Obj.isFreed_of_fields dd),dd,by simp[z3]⟩ ?_ ?_)
 ·refine⟨?_,λb o q1 _ _ q4=>(oth b q4).trans q1,λb o q1 _ _ q4=>⟨o.slots,(oth b q4).trans q1⟩⟩;rw[Heap.size_after_update];exact Jb _
 ·exact λb o q1 q4=>(oth b q4).trans q1
end
structure Chg2 (fs:QO)(own:Addr->Prop)(h h':Heap):Prop where
 size:h.objs.size<=h'.objs.size
 keep:∀b o,h.get? b=some o->b∉fs->¬own b->h'.get? b=some o
 slot:∀b o,h.get? b=some o->b∈fs->¬own b->∃sl,h'.get? b=some {o with slots:=sl}
theorem Chg.two {fs:QO}{own:Addr->Prop}{e T:Addr}{h h':Heap}(c:Chg fs e T h h')(o1:own e)(o2:own T\/h.get? T=none):Chg2 fs own h h':=by
 have nT:∀b o,h.get? b=some o->¬own b->b≠T:=λb o q n z=>by
  subst z;rcases o2 with y | y
  ·exact n y
  ·rw[y] at q;cases q
 exact⟨c.size,λb o q a n=>c.keep b o q a (λz=>n (z ▸ o1)) (nT b o q n),λb o q a n=>c.slot b o q a (λz=>n (z ▸ o1)) (nT b o q n)⟩
theorem Chg2.trans {fs:QO}{own:Addr->Prop}{h h1 h2:Heap}(a:Chg2 fs own h h1)(b:Chg2 fs own h1 h2):Chg2 fs own h h2:=
 ⟨Ji a.size b.size,λc o q n m=>b.keep c o (a.keep c o q n m) n m,λc o q n m=>by
  obtain⟨s1,e1⟩:=a.slot c o q n m;obtain⟨s2,e2⟩:=b.slot c _ e1 n m;exact⟨s2,e2⟩⟩
section
variable {M:Model}{A:Around}{E:QC}{s:Shared}{base:Heap}{env:Env}{outer:List Env}{L e T:Addr}
theorem zp6 {oe:Obj}{vs:Array Value}{Q:QD}(hfr:A.frames=some (env::outer))(hl:s.heap.FunFrames base (env::outer))(hf:env.frame=some L)
  (he:s.heap.get? e=some oe) (hd:oe.data=.fields vs) (h1:vs[1]? =some .none)
  (h:∀h' T',s.heap.objs.size<=T'->Tb h' e oe.cls oe.dict T' .none->Chg2 ((env::outer).filterMap (·.frame)) (· =e) s.heap h'->Q () {s with heap:=h'}):
  wpAny M A (leaving env (.ref e)) Q E s:=by
 unfold leaving;refine Ja (zrJ hfr hl hf he hd h1 λg T' z t c=>?_);refine zcD (s:={s with heap:=g}) (fs:=(env::outer).filterMap (·.frame)) t λh' t' c' k=>h h' T' z t' ?_;have n:s.heap.get? T'=none:=Heap.get?_none_of_le z;refine⟨Ji c.size c'.size,λb o q a m=>?_,λb o q a m=>?_⟩
 ·have bT:b≠T':=λy=>by subst y;rw[n] at q;cases q
  exact k b o (c.keep b o q a m bT) bT
 ·have bT:b≠T':=λy=>by subst y;rw[n] at q;cases q
  obtain⟨sl,y⟩:=c.slot b o q a m bT;exact⟨sl,k b _ y bT⟩
theorem zp7 {cls:Value}{od:QM}{Q:QD}(hfr:A.frames=some (env::outer))(hl:s.heap.FunFrames base (env::outer))(hf:env.frame=some L)
  (t:Tb s.heap e cls od T .none)
  (h:∀h' T',s.heap.objs.size<=T'->Tb h' e cls od T' .none->Chg2 ((env::outer).filterMap (·.frame)) (λb=>b=e\/b=T) s.heap h'->Q () {s with heap:=h'}):
  wpAny M A (leaving env (.ref e)) Q E s:=by
 unfold leaving;refine Ja (zpz hfr hl hf t λg T' z t1 c=>?_);refine zcD (s:={s with heap:=g}) (fs:=(env::outer).filterMap (·.frame)) t1 λh' t' c' k=>h h' T' z t' ?_;have n:s.heap.get? T'=none:=Heap.get?_none_of_le z;refine⟨Ji c.size c'.size,λb o q a m=>?_,λb o q a m=>?_⟩
 ·have bT:b≠T':=λy=>by subst y;rw[n] at q;cases q
  exact k b o (c.keep b o q a (λy=>m (.inl y)) λy=>m (.inr y)) bT
 ·have bT:b≠T':=λy=>by subst y;rw[n] at q;cases q
  obtain⟨sl,y⟩:=c.slot b o q a (λy=>m (.inl y)) λy=>m (.inr y);exact⟨sl,k b _ y bT⟩
theorem zlY {cls:Value}{od:QM}{Q:QD}(hfr:A.frames=some (env::outer))(hl:s.heap.FunFrames base (env::outer))(hf:env.frame=some L)
  (t:Tb s.heap e cls od T .none)
  (h:∀h' T',s.heap.objs.size<=T'->Tb h' e cls od T' .none->Chg2 ((env::outer).filterMap (·.frame)) (λb=>b=e\/b=T) s.heap h'->Q () {s with heap:=h'}):
  wpAny M A (noteFrame (.ref e) env) (λ_ s'=>wpAny M A (setFlight (.ref e) none) Q E s') E s:=by
 refine zpz hfr hl hf t λg T' z t1 c=>?_;refine zcD (s:={s with heap:=g}) (fs:=(env::outer).filterMap (·.frame)) t1 λh' t' c' k=>h h' T' z t' ?_;have n:s.heap.get? T'=none:=Heap.get?_none_of_le z;refine⟨Ji c.size c'.size,λb o q a m=>?_,λb o q a m=>?_⟩
 ·have bT:b≠T':=λy=>by subst y;rw[n] at q;cases q
  exact k b o (c.keep b o q a (λy=>m (.inl y)) λy=>m (.inr y)) bT
 ·have bT:b≠T':=λy=>by subst y;rw[n] at q;cases q
  obtain⟨sl,y⟩:=c.slot b o q a (λy=>m (.inl y)) λy=>m (.inr y);exact⟨sl,k b _ y bT⟩
end
end Px
namespace Px
open PySem PySem.W PySem.Builtin PySem.Builtin.ObjectAttr
noncomputable abbrev bmV:List Value:=[.type "ValueError",.type "Exception",.type "BaseException",.type "object"]
noncomputable def xIn (K:Frag)(C:Addr):Bool:=match K.lookup C with
 | some ⟨.type "type",_,.cls cd,sl⟩=>(match cd.mro,sl.toList with
  | .ref D::bm,[_,_,_,_,some (.builtin n),_]=>D==C && n== "ValueError.__new__" && !cd.hasDel && tailIn K bmV bm
  | _,_=>false)
 | _=>false
theorem zm7 {K:Frag}{h:Heap}{C:Addr}(X:K.In h)(q:xIn K C=true):∃nm qn N bs bm hd sn sub ab col dd k0 k1 k2 k3 k5,
  h.get? C=some (excClassObj nm qn C N bs bm hd sn sub ab col dd k0 k1 k2 k3 k5 "ValueError.__new__")/\OwnTail h bmV bm:=by
 unfold xIn at q;split at q
 ·rename_i dd cd sl ho;split at q
  ·rename_i D bm k0 k1 k2 k3 n k5 hm hs;simp only[Bool.and_eq_true,beq_iff_eq,Bool.not_eq_true'] at q;obtain⟨⟨⟨y1,y2⟩,y3⟩,y4⟩:=q;subst y1;subst y2;obtain⟨nm,bs,mro,ns,qn,hd,sn,sub,ab,col,del⟩:=cd;dsimp only at hm y3;subst hm;subst y3;have e:sl= #[k0,k1,k2,k3,some (.builtin "ValueError.__new__"),k5]:=by obtain⟨l⟩:=sl;exact congrArg Array.mk hs
   subst e;exact⟨nm,qn,ns,bs,bm,hd,sn,sub,ab,col,dd,k0,k1,k2,k3,k5,X _ _ ho,tail_of_in X y4⟩
  ·cases q
 ·cases q
noncomputable abbrev ziH (C t:Addr):Obj:={cls:=.ref C,data:=.fields #[.ref t,.none,.none,.none,.bool false,.none]}
noncomputable abbrev zp3 (vs:QN):Obj:={cls:=.type "tuple",data:=.seq vs.toArray}
noncomputable abbrev zaG (h:Heap)(C:Addr)(vs:QN):Heap:=(h.push (zp3 vs)).push (ziH C h.objs.size)
theorem zbN {h:Heap}{C:Addr}{vs:QN}{b:Addr}{o:Obj}(e:h.get? b=some o):(zaG h C vs).get? b=some o:=
 Heap.get?_push_of_some _ (Heap.get?_push_of_some _ e)
theorem zeP {h:Heap}{C:Addr}{vs:QN}:(zaG h C vs).get? (h.objs.size+1)=some (ziH C h.objs.size):=
 Heap.get?_push_at (by rw[Heap.size_push]) rfl
section
variable {prog:Program}{w:World}{A:Around}{E:QC}{h:Heap}{g:Array GenState}{d:Drawn}{t:Nat}{os:OsState}{K:Frag}{C fI:Addr}{vs:QN}
theorem zkS {Q:Fin->Shared->Prop}(X:K.In h)(q:xIn K C=true)(hi:findIn K (.ref C) "__init__" =some (some (.ref fI))) (hf:typeIn K (.ref fI)=some (.type "function"))
  (hq:wpAny (model prog w) A (call (.ref fI) (.ref (h.objs.size+1)::vs)) (λr s'=>r=.none/\Q (.done (.ret (.ref (h.objs.size+1)))) s') E ⟨zaG h C vs,g,d,t,os⟩) (hz:vs.length<=sizeLine):
  wpAny (model prog w) A (Builtin.«type.__call__» ⟨.ref C::vs,[]⟩) Q E ⟨h,g,d,t,os⟩:=by
 obtain⟨nm,qn,N,bs,bm,hd,sn,sub,ab,col,dd,k0,k1,k2,k3,k5,cO,tl⟩:=zm7 X q;have FV:=PySem.F.excBase_ValueError;have inV:bmV.contains (.type "ValueError")=true:=by decide
 repeat (first | with_reducible refine wpAny_loadPart_at cO ?_ | with_reducible refine wpAny_madeBy_exc cO ?_ | wp_step)
 refine codeAny_call_builtin_code (Code.quiet_builtin _ FV.quiet) (wpAny_check_new_subU FV inV tl cO ?_);refine codeAny_exc_new_subU FV inV FV tl cO ?_ hz;show wpAny _ _ _ _ _ _;have cO1:(zaG h C vs).get? C=_:=zbN cO;have X1:K.In (zaG h C vs):=X.keeps λb o e=>zbN e;have at1:(zaG h C vs).get? (h.objs.size+1)=some (ziH C h.objs.size):=zeP;have cC:(Value.ref C::bm).contains (.ref C)=true:=by simp
 unfold isInstance
 repeat (first | with_reducible refine wpAny_loadPart_at at1 ?_ | (with_reducible refine wpAny_isSubtype_exc cO1 ?_;rw[cC]) | wp_step)
 show wpAny _ _ (typeLookup (.ref C) _) _ _ _;refine(looks_findIn X1 hi).here (s:=⟨zaG h C vs,g,d,t,os⟩) ?_;refine wpAny_holding (Ja ((bind_fn X1 _ hf).here (s:=⟨zaG h C vs,g,d,t,os⟩) ?_));refine Ja (wpAny_mono hq (λr s' hr=>?_) λ_ _ x=>x);obtain⟨e1,hQ⟩:=hr;subst e1
 wp_walk
 exact hQ
theorem zkX {Q:QC}(X:K.In h)(q:xIn K C=true)(hi:findIn K (.ref C) "__init__" =some (some (.ref fI))) (hf:typeIn K (.ref fI)=some (.type "function"))
  (hq:wpAny (model prog w) (A.under (.builtin "type.__call__" ⟨.ref C::vs,[]⟩)) (call (.ref fI) (.ref (h.objs.size+1)::vs)) (λr s'=>r=.none/\Q (.ref (h.objs.size+1)) s') E ⟨zaG h C vs,g,d,t,os⟩)
  (hz:vs.length<=sizeLine):wpAny (model prog w) A (call (.ref C) vs) Q E ⟨h,g,d,t,os⟩:=by
 obtain⟨nm,qn,N,bs,bm,hd,sn,sub,ab,col,dd,k0,k1,k2,k3,k5,cO,tl⟩:=zm7 X q;have l1:=tc_lookup;have l2:=tc_bind (.ref C);have isT:(⟨h,g,d,t,os⟩:Shared).TypeIs (.ref C) "type" :=⟨_,cO,rfl⟩;refine wpAny_call (codeAny_of_tree ?_);show wpAny _ _ (callAny (.ref C) _) _ _ _
 repeat (any_goals (first | assumption | with_reducible refine wpAny_loadPart_at cO ?_ | wp_step))
 refine⟨rfl,?_⟩;refine codeAny_call_builtin_at (Code.quiet_builtin _ (by decide+kernel)) entry_typeCall (wpAny_check_type_call_sub cO (zkS X q hi hf ?_ hz));exact hq
theorem zii {s:Shared}{Q:QC}(X:K.In s.heap)(q:excIn K C bmV "ValueError.__new__" =true)
  (hq:∀h' e,Heap.MadeExcOf s.heap h' e (.ref C) vs->Q (.ref e) {s with heap:=h'}) (hz:vs.length<=sizeLine):wpAny (model prog w) A (call (.ref C) vs) Q E s:=by
 obtain⟨h,g,d,t,os⟩:=s;have FV:=PySem.F.excBase_ValueError;have inV:bmV.contains (.type "ValueError")=true:=by decide
 unfold excIn at q;split at q
 ·rename_i dd cd sl ho;split at q
  ·rename_i D bm k0 k1 k2 k3 n k5 hm hs;simp only[Bool.and_eq_true,beq_iff_eq,Bool.not_eq_true'] at q;obtain⟨⟨⟨⟨⟨y1,y2⟩,y3⟩,y4⟩,y5⟩,y6⟩:=q;subst y1;subst y2;obtain⟨nm,bs,mro,ns,qn,hd,sn,sub,ab,col,del⟩:=cd;dsimp only at hm y3 y5 y6;subst hm;subst y3;have e:sl= #[k0,k1,k2,k3,some (.builtin "ValueError.__new__"),k5]:=by obtain⟨l⟩:=sl;exact congrArg Array.mk hs
   subst e;exact wpAny_call_exc_subU FV inV FV (tail_of_in X y4) (X _ _ ho) (.of_isNs (isNs_of_in X y5)) (nsMap_none_of_in X y5 y6) hq hz
  ·cases q
 ·cases q
end
section
variable {prog:Program}{w:World}{A:Around}{E:QC}{s:Shared}{env:Env}{K:Frag}
theorem ziG {x:Sem Value}{Q:Flow->Shared->Prop}(hh:A.handled=none)
  (h:wpAny (model prog w) A x (λv s₁=>∃e C t oe,v=.ref e/\K.In s₁.heap/\xIn K C=true/\s₁.heap.get? e=some oe/\oe.cls=.ref C/\oe.data=.fields #[.ref t,.none,.none,.none,.bool false,.none]/\E (.ref e) s₁) E s):
  wpAny (model prog w) A (raiseStmt env (some x) none) Q E s:=by
 unfold raiseStmt;refine Ja (wpAny_mono h (λv s₁ h₁=>?_) λ_ _ x=>x);obtain⟨e,C,t,oe,rfl,X,q,he,hc,hd,hE⟩:=h₁;obtain⟨nm,qn,N,bs,bm,hdc,sn,sub,ab,col,dd,k0,k1,k2,k3,k5,cO,tl⟩:=zm7 X q;have cB:(Value.ref C::bm).contains (.type "BaseException")=true:=by rw[List.contains_cons,tl.hasType (show bmV.contains (.type "BaseException")=true from by decide),Bool.or_true]
 obtain⟨hp,g,d,tk,os⟩:=s₁;obtain⟨c0,d0,dt,sl⟩:=oe;dsimp only at hc hd;subst hc;subst hd
 repeat (first | with_reducible refine wpAny_loadPart_at he ?_ | with_reducible refine wpAny_loadPart_at cO ?_ | (with_reducible refine wpAny_isSubtype_exc cO ?_;rw[cB]) | wp_step)
 exact wpAny_raiseNew_none hh hE
end
noncomputable def zbJ:List Value->Bool
 | []=>false
 | v::r=>(v::r)==bmV || (match v with | .ref _=>zbJ r | _=>false)
theorem zbl {P:List Value->Prop}(base:P bmV)(own:∀c r,P r->P (.ref c::r)):∀{l:QN},zbJ l=true->P l
 | [],e=>by cases e
 | v::r,e=>by
  unfold zbJ at e;rcases Bool.or_eq_true_iff.mp e with q | q
  ·rw[beq_iff_eq.mp q];exact base
  ·cases v <;> first | exact own _ _ (zbl base own q) | cases q
noncomputable def zb7 (K:Frag)(C:Addr):Bool:=(clsIn K C).any λcd=>zbJ cd.mro && cd.hasDict
theorem ziy (self:Value){l:QN}(e:zbJ l=true):refuseLoop self "__setattr__" l=pure ():=
 zbl (P:=λl=>refuseLoop self "__setattr__" l=pure ()) (PySem.F.store_ValueError.passes self) (λc r q=>by rw[refuseLoop_ref];exact q) e
theorem zoi {v:Value}(hv:bmV.contains v=true){l:QN}(e:zbJ l=true):l.contains v=true:=
 zbl (P:=λl=>l.contains v=true) hv (λc r q=>by rw[List.contains_cons,q,Bool.or_true]) e
theorem zqh {l:QN}(e:zbJ l=true):l.isEmpty=false:=by
 cases l with
 | nil=>cases e
 | cons _ _=>rfl
section
variable {prog:Program}{w:World}{A:Around}{E:QC}{s:Shared}{K:Frag}{x C:Addr}{ox:Obj}{name:Str}{v:Value}
noncomputable abbrev _root_.Jr:=@Bool.and_eq_true_iff
theorem zgJ {M:Model}{od:Option Obj}{T:String}(X:K.In s.heap)(I:InstAt s.heap x ox C od)(hp:zb7 K C=true)(hT:bmV.contains (.type T)=true):Looks M s.heap (isInstance (.ref x) (.type T)) true:=by obtain⟨cd,hc,ho⟩:=any_some hp;obtain⟨o1,o2⟩:=Jr.mp ho;refine I.type.andThen (looks_mroIn X ?_);unfold mroIn;rw[hc,Option.bind_some,if_neg (by rw[zqh o1];decide),zoi hT o1]
theorem zmM {R:Result->Shared->Prop}{od:Option Obj}{tk:Tok}(X:K.In s.heap)(I:InstAt s.heap x ox C od)(hp:zb7 K C=true)(ht:findIn K (.ref C) name=some none)
  (h:∀b,wpAny (model prog w) A.in1 (storeInOwnDict (.ref x) (.ref C) (.str name tk) name v b)
   (λfin s'=>match fin with
    | .done f=>R (.ok f) s'
    | .again c'=>c'.quiet=true/\codeAny (model prog w) A c' R s') (λe s'=>R (.error e) s') s):
  codeAny (model prog w) A (.call (.builtin "object.__setattr__") ⟨[.ref x,.str name tk,v],[]⟩) R s:=by
 have FS:=PySem.F.store_ValueError;have isO:=zgJ (M:=model prog w) (T:= "object") X I hp (by decide);obtain⟨cd,hc,ho⟩:=any_some hp;obtain⟨o1,o2⟩:=Jr.mp ho;refine codeAny_call_builtin FS.slot.plain FS.entry (@check_slot (model prog w) _ _ s "object.__setattr__" "object" "__setattr__" (.ref x) [.str name tk,v] [] _ FS.kind FS.split isO (FS.args (.ref x) (.str name tk) v) ?_);have mr:Looks (model prog w) s.heap (mroOf (.ref C)) cd.mro:=(looks_clsIn X hc).andThen .now;rw[osa_eq,refuse_eq];refine Ja (Ja (I.type.here (Ja (mr.here ?_))));rw[ziy _ o1];have nt:Looks (model prog w) s.heap (storeTaker? none) none:=.now;refine wpAny_pure (Ja (I.type.here (Ja ((looks_findIn X ht).here (Ja (nt.here ?_))))));exact h _
theorem zqH {Q:QD}{vs:Array Value}{sl:QJ}(X:K.In s.heap)(hx:s.heap.get? x=some ⟨.ref C,none,.fields vs,sl⟩)(hp:zb7 K C=true)
  (hs:findIn K (.ref C) "__setattr__" =some (some (.builtin "object.__setattr__"))) (ht:findIn K (.ref C) name=some none)
  (h:∀h' tk,h'.get? x=some ⟨.ref C,some s.heap.objs.size,.fields vs,sl⟩->h'.Ns1 s.heap.objs.size (λy=>if y=name then some v else none)->s.heap.objs.size<=h'.objs.size->
   (∀b o,b≠x->s.heap.get? b=some o->h'.get? b=some o)->Q () {s with heap:=h',toks:=tk}):wpAny (model prog w) A (setAttr (.ref x) name v) Q E s:=by
 have I:InstAt s.heap x ⟨.ref C,none,.fields vs,sl⟩ C none:=⟨hx,rfl,rfl,trivial⟩;obtain⟨cd,hc,ho⟩:=any_some hp;obtain⟨o1,o2⟩:=Jr.mp ho;refine set_plain X I hs (zmM (s:={s with toks:=s.toks+1}) X I hp ht λb=>?_);refine Ja (wpAny_pure (Ja (Ja (wpAny_loadPart hx (Ja (Looks.here (s:={s with toks:=s.toks+1}) (looks_clsIn X hc) ?_))))));rw[o2];have hx1:(s.heap.push {cls:=.type "dict",data:=.dict #[]}).get? x=some ⟨.ref C,none,.fields vs,sl⟩:=Heap.get?_push_of_some _ hx;have xs:x≠s.heap.objs.size:=Jg (Heap.lt_size hx);refine Ja (wpAny_alloc' ?_);refine Ja (wpAny_update' hx1 ?_);refine wpAny_pure ?_;have gd:((s.heap.push {cls:=.type "dict",data:=.dict #[]}).update x λo=>{o with dict:=some s.heap.objs.size}).get? s.heap.objs.size=some {cls:=.type "dict",data:=.dict #[]}:=
  (Heap.get?_update_other _ _ xs).trans (Heap.get?_push_size _ rfl)
 have gx:((s.heap.push {cls:=.type "dict",data:=.dict #[]}).update x λo=>{o with dict:=some s.heap.objs.size}).get? x=some ⟨.ref C,some s.heap.objs.size,.fields vs,sl⟩:=
  Heap.get?_update_self _ hx1 rfl
 have nd:((s.heap.push {cls:=.type "dict",data:=.dict #[]}).update x λo=>{o with dict:=some s.heap.objs.size}).Ns s.heap.objs.size (λ_=>none):=
  ⟨_, #[],_,gd,rfl,λe he=>Je he (by simp),λ_=>rfl⟩
 show wpAny _ _ (storeInDict s.heap.objs.size (.str name _) name v) _ _ _;unfold storeInDict newKeyGuard;refine Ja (wpAny_pure (Ja (wpAny_nsSet1 (Heap.Ns1.of_empty nd) λh' n' sb=>?_)));obtain⟨oD,esD,epD,q1,q2,q3⟩:=n'.count (Within.cons name v Within.nil);refine Ja (wpAny_lookBehind q1 (by rw[q2];exact pastItsLine_dict (Ji q3 (by rw[List.length_cons,List.length_nil,sizeLine_eq];omega))) ?_);refine wpAny_pure (h h' _ ((sb.2 x xs).trans gx) n' ?_ λb o bx e=>?_)
 ·rw[sb.1,Heap.size_after_update,Heap.size_push];exact Nat.le_succ _
 ·exact(sb.2 b (Jg (Heap.lt_size e))).trans ((Heap.get?_update_other _ _ (Ne.symm bx)).trans (Heap.get?_push_of_some _ e))
theorem zqa {Q:QD}{vs:Array Value}{sl:QJ}{dx:Addr}{mA:QB}{ns:QP}(X:K.In s.heap)(hx:s.heap.get? x=some ⟨.ref C,some dx,.fields vs,sl⟩)(hd:s.heap.Ns1 dx mA)(hp:zb7 K C=true)
  (hs:findIn K (.ref C) "__setattr__" =some (some (.builtin "object.__setattr__"))) (ht:findIn K (.ref C) name=some none) (hw:Within mA ns) (hz:ns.length<=sizeLine)
  (h:∀h' tk,h'.Ns1 dx (λy=>if y=name then some v else mA y)->Heap.SameBut dx s.heap h'->Q () {s with heap:=h',toks:=tk}):wpAny (model prog w) A (setAttr (.ref x) name v) Q E s:=by
 obtain⟨od,es0,ep0,g1,g2⟩:=id hd;have I:InstAt s.heap x ⟨.ref C,some dx,.fields vs,sl⟩ C (some od):=⟨hx,rfl,rfl,g1⟩;obtain⟨cd,hc,ho⟩:=any_some hp;obtain⟨o1,o2⟩:=Jr.mp ho;refine set_plain X I hs (zmM (s:={s with toks:=s.toks+1}) X I hp ht λb=>?_);refine Ja (wpAny_pure (Ja (Ja (wpAny_loadPart hx (Ja (Looks.here (s:={s with toks:=s.toks+1}) (looks_clsIn X hc) ?_))))));rw[o2];refine wpAny_pure (a:=some dx) (Ja (wpAny_pure (Ja ?_)));refine wpAny_nsSet1 (s:={s with toks:=s.toks+1}) hd λh' n2 sb=>?_;obtain⟨oD,esD,epD,q1,q2,q3⟩:=n2.count (Within.cons name v hw);refine Ja (wpAny_lookBehind q1 (by rw[q2];exact pastItsLine_dict (Ji q3 (by rw[List.length_cons];omega))) ?_);exact wpAny_pure (h _ _ n2 sb)
theorem zrO {Q:QC}{expr:Bool}{od:Obj}(X:K.In s.heap)(I:InstAt s.heap x ox C (some od))(hp:zb7 K C=true)
  (hga:findIn K (.ref C) "__getattribute__" =some (some (.builtin "BaseException.__getattribute__"))) (hgn:findIn K (.ref C) "__getattr__" =some none)
  (hf:findObj K C (some od) name=some (.value v)) (hh:handedIn v=true) (h:Q v {s with toks:=s.toks+1}):wpAny (model prog w) A (getAttr (.ref x) name expr) Q E s:=by
 have isB:=zgJ (M:=model prog w) (T:= "BaseException") X I hp (by decide);obtain⟨hp',g,d,t,os⟩:=s;have L0:=I.type (M:=model prog w);have L1:=looks_findIn (M:=model prog w) X hga;have L2:=looks_findIn (M:=model prog w) X hgn;have L3:=looks_find (M:=model prog w) X I hf;have FB:=PySem.F.attrBase_ValueError;have bi:=FB.ga.bind (.ref x);have kd:builtinKind "BaseException.__getattribute__" =some .slot:=by decide+kernel
 have sp:splitId "BaseException.__getattribute__" =some ("BaseException","__getattribute__"):=by decide+kernel
 unfold getAttr getAttrBy;refine Ja (wpAny_mkText (wpAny_holding (Ja (L0.at (Ja (L1.at ?_))))));have nb:(onTheHeap (Value.ref C) && Value.builtin "BaseException.__getattribute__" ==Value.builtin "object.__getattribute__")=false:=by rw[show(Value.builtin "BaseException.__getattribute__" ==Value.builtin "object.__getattribute__")=false from by decide+kernel,Bool.and_false]
 dsimp only;rw[nb,if_neg Jc];unfold getAttrByItsOwn;refine Ja ?_;show wpAny _ _ (typeLookup (.ref C) "__getattr__") _ _ _;refine L2.at ?_;have ne:(expr && onTheHeap (Value.builtin "BaseException.__getattribute__"))=false:=by cases expr <;> rfl
 unfold callGetattribute;rw[ne,if_neg Jc];unfold boundAndCalled;refine Ja (wpAny_attempt (wpAny_holding ?_));rw[bi];refine Ja (wpAny_pure ?_);refine wpAny_call (codeAny_call_builtin FB.ga.plain PySem.F.entry_bexc_ga (@check_slot (model prog w) _ _ _ "BaseException.__getattribute__" "BaseException" "__getattribute__" (.ref x) [.str name t] [] _ kd sp isB (PySem.F.args_bexc_ga _ _) ?_));unfold Builtin.«object.__getattribute__»
 repeat (any_goals (first | assumption | with_reducible refine Ja (L0.at ?_) | with_reducible refine Ja (L3.at ?_) | wp_step))
 show wpAny _ _ (handedOut v) _ _ _;rw[handedOut_of hh];exact wpAny_pure h
end
end Px
namespace L2
open PySem PySem.Spec PyProof.Rows Px
noncomputable def exO (a C:Addr)(od:QM)(fr:Bool):HO:=.ext λh=>∃vs sl,h.get? a=some ⟨.ref C,od,.fields vs,sl⟩/\(fr=true->∃t,vs= #[.ref t,.none,.none,.none,.bool false,.none])
noncomputable def xdO (a:Addr)(fs:List (Str ×V)):HO:=.ext λh=>∃mA,h.Ns1 a mA/\(∀f,RelO (fs.lookup f) (mA f))/\PySem.Within mA (fs.map (·.1))
noncomputable def del (H:Hp)(a:Addr):Hp:=λb=>if b=a then none else H b
theorem zbv {H:Hp}{a:Addr}:del H a a=none:=by unfold del;rw[if_pos rfl]
theorem za3 {H:Hp}{a b:Addr}(h:b≠a):del H a b=H b:=by unfold del;rw[if_neg h]
theorem zbd {H:Hp}{a:Addr}{o:HO}(h:H a=none):del (upd H a o) a=H:=by
 funext b;unfold del upd;by_cases e:b=a
 ·rw[if_pos e,e,h]
 ·rw[if_neg e,if_neg e]
section
variable {P:Program}{w:World}{H H':Hp}{h h' h2:Heap}{a C:Addr}{o:HO}{fs ex fs':QO}{own:Addr->Prop}
theorem zgt {od:QM}{fr:Bool}{vs:Array Value}{sl:QJ}(e:h.get? a=some ⟨.ref C,od,.fields vs,sl⟩)(f:fr=true->∃t,vs= #[.ref t,.none,.none,.none,.bool false,.none]):zE P w H h a (exO a C od fr):=
 ⟨⟨vs,sl,e,f⟩,⟨_,e⟩,λ_ _ ⟨vs,sl,e,f⟩ k=>⟨vs,sl,k _ e,f⟩⟩
theorem zaF {od:QM}{fr:Bool}(ok:HOk P w H h)(e:H a=some (exO a C od fr)):∃vs sl,h.get? a=some ⟨.ref C,od,.fields vs,sl⟩/\(fr=true->∃t,vs= #[.ref t,.none,.none,.none,.bool false,.none]):=
 (show zE P w H h a (exO a C od fr) from ok a _ e).1
theorem zmX {l:List (Str ×V)}{mA:QB}(n:h.Ns1 a mA)(r:∀f,RelO (l.lookup f) (mA f))(wi:PySem.Within mA (l.map (·.1))):zE P w H h a (xdO a l):=
 ⟨⟨mA,n,r,wi⟩,let ⟨o,_,_,e,_⟩:=n;⟨o,e⟩,λ_ _ ⟨mA,n,r,wi⟩ k=>⟨mA,n.at k,r,wi⟩⟩
theorem zgr {l:List (Str ×V)}(ok:HOk P w H h)(e:H a=some (xdO a l)):∃mA,h.Ns1 a mA/\(∀f,RelO (l.lookup f) (mA f))/\PySem.Within mA (l.map (·.1)):=
 (show zE P w H h a (xdO a l) from ok a _ e).1
theorem HOk.track (x:HOk P w H h)(n:H a=none)(new:zE P w (upd H a o) h a o):HOk P w (upd H a o) h:=λb u e=>by
 by_cases hb:b=a
 ·subst hb;rw[za] at e;cases e;exact new
 ·rw[zf hb] at e;exact(x b u e).stay (λ_ _ _ q=>q) (λc q=>by rw[zf (zg q n)];exact q) λc xs q=>by rw[zf (zg q n)];exact q
theorem Un.track (u:Un fs ex H H' h h')(n:H' a=none)(nw:∀ob,h.get? a=some ob->a∈ex\/H a≠none):Un fs ex H (upd H' a o) h h' where
 keep:=u.keep
 slot:=u.slot
 free:=λb ob q m hx=>by
  rw[zf]
  ·exact u.free b ob q m hx
  ·intro e;subst e;rcases nw ob q with z | z
   ·exact hx z
   ·exact z m
 there:=u.there
 tups:=λb xs q=>by rw[zf (zg (u.tups b xs q) n)];exact u.tups b xs q
 frzs:=λb ob v q=>by rw[zf (zg (u.frzs b ob v q) n)];exact u.frzs b ob v q
 tbls:=λb ps q=>by obtain⟨m,e⟩:=u.tbls b ps q;exact⟨m,by rw[zf (zg e n)];exact e⟩
theorem HOk.drop {φ:Heap->Prop}(x:HOk P w H h)(e:H a=some (.ext φ)):HOk P w (del H a) h:=λb u q=>by
 by_cases hb:b=a
 ·rw[hb,zbv] at q;cases q
 ·rw[za3 hb] at q;exact(x b u q).stay (λ_ _ _ z=>z) (λc z=>by rw[za3 (zaf z e (by intro y;cases y))];exact z) λc xs z=>by rw[za3 (zaf z e (by intro y;cases y))];exact z
theorem Un.drop {φ:Heap->Prop}(u:Un fs ex H H' h h')(e:H' a=some (.ext φ)):Un fs ex H (del H' a) h h' where
 keep:=u.keep
 slot:=u.slot
 free:=λb ob q m hx=>by
  by_cases hb:b=a
  ·rw[hb];exact zbv
  ·rw[za3 hb];exact u.free b ob q m hx
 there:=u.there
 tups:=λb xs q=>by rw[za3 (zaf (u.tups b xs q) e (by intro y;cases y))];exact u.tups b xs q
 frzs:=λb ob v q=>by rw[za3 (zaf (u.frzs b ob v q) e (by intro y;cases y))];exact u.frzs b ob v q
 tbls:=λb ps q=>by obtain⟨m,z⟩:=u.tbls b ps q;exact⟨m,by rw[za3 (zaf z e (by intro y;cases y))];exact z⟩
theorem Un.chg (u:Un fs ex H H' h h')(c:Chg2 fs' own h' h2)(hfs:∀b ob,h.get? b=some ob->b∈fs'->b∈fs)
  (nw:∀b,own b->h.get? b=none\/(H b≠none/\∃o',h2.get? b=some o')):Un fs ex H H' h h2:=by
 have no:∀b ob,h.get? b=some ob->H b=none->¬own b:=λb ob q n z=>by
  rcases nw b z with y | y
  ·rw[y] at q;cases q
  ·exact y.1 n
 refine⟨λb ob q n hb hx=>c.keep b ob (u.keep b ob q n hb hx) (λz=>hb (hfs b ob q z)) (no b ob q n),λb ob q n hb hx=>?_,u.free,λb ob q hx=>?_,u.tups,u.frzs,u.tbls⟩
 ·obtain⟨sl,e⟩:=u.slot b ob q n hb hx;by_cases z:b∈fs'
  ·obtain⟨s2,e2⟩:=c.slot b _ e z (no b ob q n);exact⟨s2,e2⟩
  ·exact⟨sl,c.keep b _ e z (no b ob q n)⟩
 ·obtain⟨o',e⟩:=u.there b ob q hx;by_cases y:own b
  ·rcases nw b y with z | z
   ·rw[z] at q;cases q
   ·exact z.2
  ·by_cases z:b∈fs'
   ·obtain⟨s2,e2⟩:=c.slot b _ e z y;exact⟨_,e2⟩
   ·exact⟨_,c.keep b _ e z y⟩
theorem HOk.chg (x:HOk P w H h)(c:Chg2 fs' own h h2)(n1:∀b,own b->H b=none)(n2:∀b∈fs',H b=none):HOk P w H h2:=λb u e=>by
 have k:∀c' v,(∃z,H c'=some z)->h.get? c'=some v->h2.get? c'=some v:=λc' v ⟨z,hz⟩ q=>
  c.keep c' v q (λm=>by rw[n2 c' m] at hz;cases hz) (λm=>by rw[n1 c' m] at hz;cases hz)
 refine(x b u e).stay (λc' v hc q=>k c' v ?_ q) (λ_ q=>q) λ_ _ q=>q;rcases hc with z | z
 ·rw[z];exact⟨_,e⟩
 ·exact⟨_,z⟩
end
section
variable {X:Cx}{pins:QE}{σ:St}{H:Hp}{s:Shared}{h':Heap}
theorem zE.thereN {P:Program}{w:World}{H:Hp}{h:Heap}{a:Addr}{u:HO}(x:zE P w H h a u):∃ob,h.get? a=some ob:=by
 cases u with
 | lst xs=>obtain⟨_,_,_,_,e⟩:=x;exact⟨_,e⟩
 | tup xs=>obtain⟨_,_,_,ob,e,_⟩:=x;exact⟨_,e⟩
 | dK kvs=>obtain⟨_,_,_,_,o,_,_,e,_⟩:=x;exact⟨_,e⟩
 | dT kvs=>obtain⟨_,_,_,_,o,_,_,e,_⟩:=x;exact⟨_,e⟩
 | set S n=>obtain⟨o,_,_,_,e,_⟩:=x;exact⟨_,e⟩
 | ins C dx fs=>obtain⟨_,_,_,e,_⟩:=x;exact⟨_,e⟩
 | own y=>exact x
 | xd fs=>obtain⟨_,⟨_,_,_,e,_⟩,_⟩:=x;exact⟨_,e⟩
 | rng lo hi=>obtain⟨_,_,_,e⟩:=x;exact⟨_,e⟩
 | frz ob u=>obtain⟨e,_⟩:=x;exact⟨_,e⟩
 | tbl ps=>exact⟨_,(show h.get? a=some _ from x)⟩
 | met f y=>exact⟨_,(show h.get? a=some _ from x)⟩
 | ext φ=>exact x.2.1
theorem HOk.noneN {P:Program}{w:World}{H:Hp}{h:Heap}{a:Addr}(x:HOk P w H h)(n:h.get? a=none):H a=none:=by
 cases q:H a with
 | none=>rfl
 | some u=>obtain⟨ob,z⟩:=(x a u q).thereN;rw[n] at z;cases z
theorem Inv.laidN {a:Addr}{o:HO}{t':Nat}(I:Inv X pins σ H s)(k:∀b u,s.heap.get? b=some u->h'.get? b=some u)(hp:s.heap.get? a=none)(new:zE X.prog X.w (upd H a o) h' a o):
  Inv X pins σ (upd H a o) {s with heap:=h',toks:=t'}:=by
 have n:H a=none:=I.hok.noneN hp;exact I.un ((Un.kept k).track n λob q=>by rw[hp] at q;cases q) ((I.hok.kept k).track n new)
end
noncomputable def CX1 (P:Program)(w:World):CXT:=λouter H s E e s'=>∃(ea:Addr) (cls:Value) (od:QM) (H':Hp) (T:Addr),e=.ref ea/\s'.os=s.os/\AllBare s'.gens/\Un (frs outer) [] H H' s.heap s'.heap/\HOk P w H' s'.heap/\
 Tb s'.heap ea cls od T .none/\(s.heap.get? ea=none\/H ea≠none)/\s.heap.get? T=none/\H' ea=none/\H' T=none/\E cls od H'
theorem zaj {fs ex:QO}{H H':Hp}{h h':Heap}{b:Addr}(u:Un fs ex H H' h h')(hx:b∉ex)(n:h'.get? b=none):h.get? b=none:=by
 cases q:h.get? b with
 | none=>rfl
 | some o=>obtain⟨o',e⟩:=u.there b o q hx;rw[n] at e;cases e
section
variable {P:Program}{w:World}{K:QA}{mg:QB}{base:Heap}{N:QP}{qual:Str}{scope:Scope}{f:Addr}{cd:Value}{A:Around}{outer:List Env}{s₀:Shared}{H₀:Hp}{E:XK}
noncomputable def zhQ (X:Cx)(E:XK):Prop:=∀(pins:QE) (σ:St) (H:Hp) (s:Shared) (e C:Addr) (od:QM),Inv X pins σ H s->H e=some (exO e C od true)->E (.ref C) od (del H e)->X.xe (.ref e) s
theorem zhF:zhQ (cxOf (CX1 P w) P w K mg base N qual scope f cd A outer s₀ H₀ E) E:=by
 intro pins σ H s e C od I he q;obtain⟨vs,sl,ge,fr⟩:=zaF I.hok he;obtain⟨t,rfl⟩:=fr rfl;show wpAny (model P w) (A.deeper _) (leaving _ (.ref e)) _ _ s;refine zp6 (base:=base) I.ok.frames I.stack rfl ge rfl rfl λh' T' z tb c=>?_;have nT:s.heap.get? T'=none:=Heap.get?_none_of_le z;have old:s₀.heap.get? e=none\/H₀ e≠none:=by
  cases q1:s₀.heap.get? e with
  | none=>exact .inl rfl
  | some ob=>refine .inr λn=>?_;have:=I.base.free e ob q1 n (by intro z;cases z);rw[he] at this;cases this
 have fr2:∀b∈frs (envOfC qual scope s₀.heap.objs.size f cd::outer),H b=none:=I.stkFree;have te:∃o',h'.get? e=some o':=let ⟨oe,_,_,_,y,_⟩:=tb;⟨oe,y⟩;refine⟨e,.ref C,od,del H e,T',rfl,I.os,I.bare,?_,?_,tb,old,zaj I.base (by intro z;cases z) nT,zbv,?_,q⟩
 ·refine(I.base.drop he).chg (fs':=frs (envOfC qual scope s₀.heap.objs.size f cd::outer)) c (λb ob q1 q2=>?_) λb y=>?_
  ·have lt:=Heap.lt_size q1;rcases List.mem_cons.mp (I.stkSub b q2) with y | y
   ·exact Je lt (by rw[y];exact Nat.not_lt.mpr (Jb _))
   ·exact y
  ·subst y;rcases old with y | y
   ·exact .inl y
   ·exact .inr ⟨y,te⟩
 ·refine(I.hok.drop he).chg c (λb y=>by rw[y];exact zbv) λb y=>?_;by_cases hb:b=e
  ·rw[hb];exact zbv
  ·rw[za3 hb];exact fr2 b y
 ·have:H T'=none:=I.hok.fresh z;by_cases hb:T'=e
  ·rw[hb];exact zbv
  ·rw[za3 hb];exact this
noncomputable def zaU (CX:CXT)(X:Cx)(E:St->XK):Prop:=∀(pins:QE) (σ:St) (H:Hp) (s:Shared) (e:Value) (s':Shared),Inv X pins σ H s->CX X.stack H s (E σ) e s'->X.xe e s'
theorem zn3:zbG (CX1 P w) (cxOf (CX1 P w) P w K mg base N qual scope f cd A outer s₀ H₀ E) E:=by
 intro pins σ H s e s' I0 hc;obtain⟨ea,cls,od,H',T,rfl,os,bare,un,hok,tb,old,nT,u1,u2,q⟩:=hc;have I:=I0.call' os un hok bare (λb z=>nomatch z);show wpAny (model P w) (A.deeper _) (leaving _ (.ref ea)) _ _ s';refine zp7 (base:=base) I.ok.frames I.stack rfl tb λh' T' z tb' c=>?_;have nT':s'.heap.get? T'=none:=Heap.get?_none_of_le z;have old':s₀.heap.get? ea=none\/H₀ ea≠none:=by
  cases q1:s₀.heap.get? ea with
  | none=>exact .inl rfl
  | some ob=>
   refine .inr λn=>?_;rcases old with y | y
   ·have y':s₀.heap.get? ea=none:=zaj I0.base (by intro z;cases z) y;rw[y'] at q1;cases q1
   ·exact y (I0.base.free ea ob q1 n (by intro z;cases z))
 have te:∃o',h'.get? ea=some o':=let ⟨oe,_,_,_,y,_⟩:=tb';⟨oe,y⟩
 have n0:s₀.heap.get? T=none:=zaj I0.base (by intro z;cases z) nT;refine⟨ea,cls,od,H',T',rfl,I.os,I.bare,?_,?_,tb',old',zaj I.base (by intro z;cases z) nT',u1,hok.fresh z,q⟩
 ·refine I.base.chg (fs':=frs (envOfC qual scope s₀.heap.objs.size f cd::outer)) c (λb ob q1 q2=>?_) λb y=>?_
  ·have lt:=Heap.lt_size q1;rcases List.mem_cons.mp (I.stkSub b q2) with y | y
   ·exact Je lt (by rw[y];exact Nat.not_lt.mpr (Jb _))
   ·exact y
  ·rcases y with y | y
   ·subst y;rcases old' with y | y
    ·exact .inl y
    ·exact .inr ⟨y,te⟩
   ·subst y;exact .inl n0
 ·refine hok.chg c (λb y=>?_) I.stkFree;rcases y with y | y
  ·rw[y];exact u1
  ·rw[y];exact u2
end
end L2
namespace L2
open PySem PySem.Spec PyProof.Rows Px
structure XCls (K:QA)(C:Addr):Prop where
 q:xIn K C=true
 ov:zb7 K C=true
 sa:PySem.W.findIn K (.ref C) "__setattr__" =some (some (.builtin "object.__setattr__"))
 ga:PySem.W.findIn K (.ref C) "__getattribute__" =some (some (.builtin "BaseException.__getattribute__"))
 gn:PySem.W.findIn K (.ref C) "__getattr__" =some none
 kp:PySem.W.keepIn K (.ref C)=true
theorem XCls.hd {K:QA}{C:Addr}(c:XCls K C):PySem.W.hasDictIn K C=true:=by obtain⟨cd,hc,ho⟩:=PySem.W.any_some c.ov;unfold PySem.W.hasDictIn;rw[hc];exact(Jr.mp ho).2
noncomputable def tExc (C:Addr)(t:TA):TE:=fun σ H Q=>t σ H λvs H1=>vs.length<=sizeLine/\∀e,H1 e=none->Q (.ref e) (upd H1 e (exO e C none true))
noncomputable def zpP (C:Addr)(sp:Sp)(t:TA):TE:=fun σ H Q=>t σ H λvs H1=>vs.length<=sizeLine/\∀x,H1 x=none->sp (.ref x::vs) (upd H1 x (exO x C none true)) (λv H2=>v=.non/\Q (.ref x) H2) E0
section
variable {X:Cx}{k:Nat}{f C:Addr}{fd:FuncData}{ps:QP}{sp:Sp}{x:Str}{p pos:Pos}{e:Expr}{es:List Expr}{t:TA}
theorem zqf (c:XCls X.K C)(hq:PySem.W.excIn X.K C bmV "ValueError.__new__" =true) (hg:Gl X x) (hm:X.mg x=some (.ref C)) (ha:PA X (e::es) t)
  (hdb:(x==("__debug__" :Str))=false:=by decide) (he:starEach (e::es) X.env=(false,eval e X.env)::starEach es X.env:=by rfl) (hpl:(backTo pos (starEach es X.env)).any (·.1)=false:=by rfl):
  PE X (.Call (.Name x p) (e::es) [] pos) (tExc C t):=by
 intro pins s σ H Q I h;refine wpAny_Call_Name_kw (zao I hg hm ?_ hdb);refine PySem.W.callWith_K (h₀:=X.base) I.ok.mod.kin c.kp (thn (ha pos pins s σ H _ I h) λus s1 ⟨vs,H1,I1,r,z,q⟩=>⟨I1.kIn,?_⟩) he hpl;refine zii I1.kIn hq (λh' ea mk=>?_) (show us.length<=sizeLine by rw[<-r.length];exact z);obtain⟨t,ge,nt,gt⟩:=mk.there;exact⟨.ref ea,_,I1.laidN (t':=s1.toks) mk.keeps mk.new (zgt ge λ_=>⟨t,rfl⟩),rfl,q ea (I1.hok.noneN mk.new)⟩
theorem zoo (c:XCls X.K C)(hi:PySem.W.findIn X.K (.ref C) "__init__" =some (some (.ref f))) (hf:PySem.W.isFn X.K (.ref f)=true) (F:FnOk X.prog X.w X.K X.mg X.base CX0 k f fd ps sp) (hr:Room (k+1) X.A) (hb:Binds X.K fd ps [])
  (hg:Gl X x) (hm:X.mg x=some (.ref C)) (ha:PA X (e::es) t)
  (hdb:(x==("__debug__" :Str))=false:=by decide) (he:starEach (e::es) X.env=(false,eval e X.env)::starEach es X.env:=by rfl) (hpl:(backTo pos (starEach es X.env)).any (·.1)=false:=by rfl):
  PE X (.Call (.Name x p) (e::es) [] pos) (zpP C sp t):=by
 intro pins s σ H Q I h;refine wpAny_Call_Name_kw (zao I hg hm ?_ hdb);refine PySem.W.callWith_K (h₀:=X.base) I.ok.mod.kin c.kp (thn (ha pos pins s σ H _ I h) λus s1 ⟨vs,H1,I1,r,z,q⟩=>⟨I1.kIn,?_⟩) he hpl;have I2:Inv X pins σ (upd H1 (s1.heap.objs.size+1) (exO (s1.heap.objs.size+1) C none true)) {s1 with heap:=zaG s1.heap C us}:=
  I1.laidN (t':=s1.toks) (λ_ _ y=>zbN y) (Heap.get?_none_of_le (Nat.le_succ _)) (zgt zeP λ_=>⟨_,rfl⟩)
 have hq:=q (s1.heap.objs.size+1) (I1.hok.fresh (Nat.le_succ _));have r2:Vals (V.ref (s1.heap.objs.size+1)::vs) (Value.ref (s1.heap.objs.size+1)::us):=.cons rfl r;have hl:((Value.ref (s1.heap.objs.size+1)::us)++ []).length=ps.length:=by rw[List.append_nil,<-r2.length];exact F.len _ _ _ _ hq
 have hz:us.length<=sizeLine:=by rw[<-r.length];exact z
 obtain⟨h1,g1,d1,t1,o1⟩:=s1;refine zkX I1.kIn c.q hi (beq_iff_eq.mp hf) ?_ hz;have hbb:=hb _ (Value.ref (h1.objs.size+1)::us) I2.kIn hl;rw[List.append_nil] at hbb;refine wpAny_call (codeAny_mono (F.run _ X.stack _ _ ⟨Value.ref (h1.objs.size+1)::us,[]⟩ (Value.ref (h1.objs.size+1)::us) _ _ E0 (hr.make C us []) (I2.env0.make C us []) hbb r2 hq) λr s' hq'=>?_);cases r with
 | error e=>exact False.elim hq'
 | ok fl=>
  cases fl with
  | ret u=>obtain⟨v,H',I3,rv,ev,q3⟩:=I2.after hq';subst ev;exact⟨rv,⟨V.ref (h1.objs.size+1),H',I3,rfl,q3⟩⟩
  | next=>exact False.elim hq'
  | brk=>exact False.elim hq'
  | cont=>exact False.elim hq'
end
noncomputable def zqA (K:QA)(te:TE)(E:XK):TS:=λD σ H=>te σ H λv H1=>∃e C od,v=.ref e/\H1 e=some (exO e C od true)/\xIn K C=true/\E (.ref C) od (del H1 e)
theorem zhJ {X:Cx}{E:XK}{ex:Expr}{te:TE}{pos:Pos}(hx:zhQ X E)(hc:X.calm=true)(he:PE X ex te):PS X (.Raise (some ex) none pos) (zqA X.K te E):=by intro pins s σ H D I h;rw[arm_exec_Raise];refine Ja (wpAny_standAt ?_);refine ziG (K:=X.K) (I.ok.hd hc) ?_;refine Ja (wpAny_mono (he pins s σ H _ I h) (λv s1 hv=>Ja (wpAny_standAt (wpAny_pure ?_))) λ_ _ z=>z);obtain⟨y,H1,I1,ry,ea,C,od,rfl,hea,qC,hE⟩:=hv;obtain rfl:v=Value.ref ea:=ry;obtain⟨vs,sl,ge,fr⟩:=zaF I1.hok hea;obtain⟨t,rfl⟩:=fr rfl;exact⟨ea,C,t,_,rfl,I1.kIn,qC,ge,rfl,rfl,hx pins σ H1 s1 ea C od I1 hea hE⟩
noncomputable def sXF1 (K:QA)(ta tv:TE)(f:Str):TS:=λD σ H=>tv σ H λy H1=>ta σ H1 λx H2=>∃a C fr,x=.ref a/\H2 a=some (exO a C none fr)/\XCls K C/\zN K C f/\
 ∀d,H2 d=none->d≠a->D.nx σ (upd (upd H2 d (xdO d [(f,y)])) a (exO a C (some d) fr))
noncomputable def sXF2 (K:QA)(ta tv:TE)(f:Str):TS:=λD σ H=>tv σ H λy H1=>ta σ H1 λx H2=>∃a C fr d l,x=.ref a/\H2 a=some (exO a C (some d) fr)/\H2 d=some (xdO d l)/\d≠a/\XCls K C/\zN K C f/\l.length < 1000/\
 D.nx σ (upd H2 d (xdO d (putF f y l)))
noncomputable def tXG (K:QA)(ta:TE)(f:Str):TE:=fun σ H Q=>ta σ H λx H1=>∃a C fr d l v,x=.ref a/\H1 a=some (exO a C (some d) fr)/\H1 d=some (xdO d l)/\XCls K C/\zN K C f/\l.lookup f=some v/\Q v H1
section
variable {X:Cx}{o e value:Expr}{f:Str}{pos pos':Pos}{ta tv:TE}
theorem zp5 (ha:PE X o ta)(hv:PE X value tv)(hs:swapsWith value (some (.Attribute o f pos')) pos.line X.env=pure false):PS X (.Assign [.Attribute o f pos'] value pos) (sXF1 X.K ta tv f):=by
 intro pins s σ H D I h;refine plainObj_wpAny_Assign_Attribute (thn (hv pins s σ H _ I h) λu s1 ⟨y,H1,I1,ry,q⟩=>thn (ha pins s1 σ H1 _ I1 q) λov s2 ⟨x,H2,I2,rx,a,C,fr,ex,ea,c,n,q2⟩=>?_) hs;subst ex;obtain rfl:ov=Value.ref a:=rx;obtain⟨vs,sl,ge,hfr⟩:=zaF I2.hok ea;refine zqH I2.kIn ge c.ov c.sa n λh' tk gx nd sz kp=>?_;have nd0:H2 s2.heap.objs.size=none:=I2.hok.fresh (Jb _);have da:s2.heap.objs.size≠a:=Ne.symm (Jg (Heap.lt_size ge));have na:∀b,H2 b=none->b≠a:=λb z y=>by rw[y,ea] at z;cases z
 refine⟨σ,_,?_,q2 _ nd0 da⟩;refine I2.un (h':=h') (t':=tk) ⟨λb ob g z _ _=>kp b ob (na b z) g,λb ob g z _ _=>⟨ob.slots,kp b ob (na b z) g⟩,λb ob g z _=>?_,λb ob g _=>?_,λb xs g=>?_,λb ob v g=>?_,λb ps g=>?_⟩ λb w g=>?_
 ·rw[zf (na b z),zf (Jg (Heap.lt_size g))];exact z
 ·by_cases y:b=a
  ·rw[y];exact⟨_,gx⟩
  ·exact⟨_,kp b ob y g⟩
 ·rw[zf (zaf g ea (by intro y;cases y)),zf (zg g nd0)];exact g
 ·rw[zf (zaf g ea (by intro y;cases y)),zf (zg g nd0)];exact g
 ·exact⟨#[],by rw[zf (zaf g ea (by intro y;cases y)),zf (zg g nd0),g];simp⟩
 ·by_cases yy:b=a
  ·subst yy;rw[za] at g;cases g;exact zgt gx hfr
  ·rw[zf yy] at g;by_cases y2:b=s2.heap.objs.size
   ·subst y2;rw[za] at g;cases g;refine zmX nd (λj=>?_) λj hj=>?_
    ·show RelO ([(f,y)].lookup j) _;by_cases e:j=f
     ·have hb:(j==f)=true:=beq_iff_eq.mpr e;rw[if_pos e];simp only[List.lookup,hb]
      assumption
     ·have hb:(j==f)=false:=beq_eq_false_iff_ne.mpr e;rw[if_neg e];simp only[List.lookup,hb];exact True.intro
    ·by_cases e:j=f
     ·rw[e];exact List.mem_cons_self
     ·rw[if_neg e] at hj;exact Je rfl hj
   ·rw[zf y2] at g;refine(I2.hok b w g).stay (λc' v hc gg=>kp c' v ?_ gg) (λc' z=>?_) λc' xs z=>?_
    ·rcases hc with z | z
     ·rw[z];exact yy
     ·exact zaf z ea (by intro y;cases y)
    ·rw[zf (zaf z ea (by intro y;cases y)),zf (zg z nd0)];exact z
    ·rw[zf (zaf z ea (by intro y;cases y)),zf (zg z nd0)];exact z
theorem zp0 (ha:PE X o ta)(hv:PE X value tv)(hs:swapsWith value (some (.Attribute o f pos')) pos.line X.env=pure false):PS X (.Assign [.Attribute o f pos'] value pos) (sXF2 X.K ta tv f):=by
 intro pins s σ H D I h;refine plainObj_wpAny_Assign_Attribute (thn (hv pins s σ H _ I h) λu s1 ⟨y,H1,I1,ry,q⟩=>thn (ha pins s1 σ H1 _ I1 q) λov s2 ⟨x,H2,I2,rx,a,C,fr,d,l,ex,ea,ed,da,c,n,ll,q2⟩=>?_) hs;subst ex;obtain rfl:ov=Value.ref a:=rx;obtain⟨vs,sl,ge,hfr⟩:=zaF I2.hok ea;obtain⟨mA,ns,rl,wi⟩:=zgr I2.hok ed;have hz:(l.map (·.1)).length<=sizeLine:=by rw[List.length_map,sizeLine_eq];omega
 refine zqa I2.kIn ge ns c.ov c.sa n wi hz λh' tk nd sb=>?_;have hd:∃o,h'.get? d=some o:=let ⟨o,_,_,e',_⟩:=nd;⟨o,e'⟩;refine⟨σ,_,I2.write (x:=d) (e:=d) (t':=tk) (by rw[ed];exact True.intro) (.inl rfl) (λb w hb z=>(sb.2 b hb).trans z) hd (zmX nd (λg=>?_) λg hg=>?_),q2⟩
 ·rw[zbU];by_cases z:g=f
  ·rw[if_pos z,if_pos z];exact ry
  ·rw[if_neg z,if_neg z];exact rl g
 ·by_cases z:g=f
  ·rw[z];exact(zbA f y l).1
  ·refine(zbA f y l).2 g (wi g λw=>hg ?_);show(if g=f then some u else mA g)=none;rw[if_neg z];exact w
theorem zsd (he:PE X e ta)(hb:attributeBase e f X.env (eval e X.env)=eval e X.env):PE X (.Attribute e f pos) (tXG X.K ta f):=by intro pins s σ H Q I h;refine zjr hb (thn (he pins s σ H _ I h) λu s1 ⟨x,H1,I1,rx,a,C,fr,d,l,v,ex,ea,ed,c,n,lk,q⟩=>?_);subst ex;obtain rfl:u=Value.ref a:=rx;obtain⟨vs,sl,ge,hfr⟩:=zaF I1.hok ea;obtain⟨mA,ns,rl,wi⟩:=zgr I1.hok ed;obtain⟨w,hw,rw'⟩:=RelO.some_of (v:=v) (o:=mA f) (by rw[<-lk];exact rl f);obtain⟨ob,hob,hl⟩:=zdk ns;have J:PySem.W.InstAt s1.heap a ⟨.ref C,some d,.fields vs,sl⟩ C (some ob):=⟨ge,rfl,rfl,hob⟩;exact zrO I1.kIn J c.ov c.ga c.gn (PySem.W.findObj_own c.hd n rfl (by rw[hl,hw])) (zfG rw') ⟨v,H1,I1.tok _,rw',q⟩
end
noncomputable def zlS (sp:Sp)(E:St->XK)(t:TA):TE:=fun σ H Q=>t σ H λvs H1=>sp vs H1 Q (E σ)
section
variable {X:Cx}{CX:CXT}{k:Nat}{f C:Addr}{fd:FuncData}{ps:QP}{sp:Sp}{E:St->XK}{x m:Str}{p pos apos:Pos}{e o:Expr}{es:List Expr}{ta:TE}{t:TA}
theorem zoa {pins:QE}{σ:St}{H:Hp}{s:Shared}{Q:VK}{us:QN}{vs:QQ}(F:FnOk X.prog X.w X.K X.mg X.base CX k f fd ps sp)(hr:Room k X.A)(hb:Binds X.K fd ps [])(hx:zaU CX X E)
  (I:Inv X pins σ H s) (r:Vals vs us) (h:sp vs H Q (E σ)):wpAny (model X.prog X.w) X.A (call (.ref f) us) (EP X pins σ Q) X.xe s:=by
 have hl:(us++ []).length=ps.length:=by rw[List.append_nil,<-r.length];exact F.len _ _ _ _ h
 have hbb:=hb s us I.kIn hl;rw[List.append_nil] at hbb;refine wpAny_call (codeAny_mono (F.run X.A X.stack s H ⟨us,[]⟩ us vs Q (E σ) hr I.env0 hbb r h) λr s' hq=>?_);cases r with
 | error e=>exact hx pins σ H s e s' I hq
 | ok fl=>
  cases fl with
  | ret u=>exact I.after hq
  | next=>exact False.elim hq
  | brk=>exact False.elim hq
  | cont=>exact False.elim hq
theorem zlU (F:FnOk X.prog X.w X.K X.mg X.base CX k f fd ps sp)(hr:Room k X.A)(hg:Gl X x)(hm:X.mg x=some (.ref f))(hk:PySem.W.keepIn X.K (.ref f)=true)(hb:Binds X.K fd ps [])(hx:zaU CX X E)
  (ha:PA X (e::es) t) (hdb:(x==("__debug__" :Str))=false:=by decide) (he:starEach (e::es) X.env=(false,eval e X.env)::starEach es X.env:=by rfl) (hpl:(backTo pos (starEach es X.env)).any (·.1)=false:=by rfl):
  PE X (.Call (.Name x p) (e::es) [] pos) (zlS sp E t):=by
 intro pins s σ H Q I h;refine wpAny_Call_Name_kw (zao I hg hm ?_ hdb);refine PySem.W.callWith_K (h₀:=X.base) I.ok.mod.kin hk (thn (ha pos pins s σ H _ I h) λus s1 ⟨vs,H1,I1,r,q⟩=>⟨I1.kIn,?_⟩) he hpl;exact zoa F hr hb hx I1 r q
end
theorem Fun.okX {P:Program}{w:World}{K:QA}{mg:QB}{base:Heap}{x qual:Str}{st:Stmt}{f:Addr}{fd:FuncData}{N ps:QP}{k:Nat}{sp:Sp}(F:Fun K x qual st f fd)(S:zaE N ps (zr st))(len:∀vs H Q E,sp vs H Q E->vs.length=ps.length)
  (hbody:∀(cdv:Value) (A:Around) (outer:List Env) (s:Shared) (H:Hp) (vs:QQ) (Q:VK) (E:XK),Room k (A.deeper (envOfC qual (zr st) s.heap.objs.size f cdv))->sp vs H Q E->
   ∃t,PSs (cxOf (CX1 P w) P w K mg base N qual (zr st) f cdv A outer s H E) (zI st) t/\t {nx:=λ_ H'=>Q .non H',rt:=Q} (start N vs) H):FnOk P w K mg base (CX1 P w) (k+1) f fd ps sp:=by
 obtain⟨oc,od,kV,doc,pm,an,cdv,ct,osl,rfl,lk,hcd⟩:=F.ex;exact zpL lk hcd S len λA outer s H vs Q E hr hsp=>hbody cdv A outer s H vs Q E hr hsp
noncomputable abbrev Cx.tried (X:Cx)(xe:QC)(pn:QE):Cx:={X with xe:=xe,pn:=pn}
noncomputable abbrev Cx.suite (X:Cx)(e:Addr):Cx:={X with A:=X.A.mark (some (.ref e)),calm:=false,xe:=λ_ _=>False}
section
variable {X:Cx}{pins pins':QE}{σ:St}{H:Hp}{s:Shared}{xe:QC}
theorem Inv.tried (I:Inv X pins σ H s)(xe:QC):Inv (X.tried xe (X.pn++pins)) [] σ H s:=
 ⟨⟨I.ok.mod,I.ok.kind,I.ok.glob,I.ok.blt,I.ok.above,I.ok.inj,I.ok.has,I.ok.cab,I.ok.hd,I.ok.frames,I.ok.stk,I.ok.exf,I.ok.bs,I.ok.bsz,I.ok.noex,I.ok.exfs,I.ok.funs,I.ok.frf⟩,
  I.os,I.bare,I.base,I.loc,I.cell,I.free,I.freeC,λp hp=>I.pin p (by simpa using hp),I.hok,I.len⟩
theorem Inv.untried (I:Inv (X.tried xe (X.pn++pins)) pins' σ H s):Inv X pins σ H s:=
 ⟨⟨I.ok.mod,I.ok.kind,I.ok.glob,I.ok.blt,I.ok.above,I.ok.inj,I.ok.has,I.ok.cab,I.ok.hd,I.ok.frames,I.ok.stk,I.ok.exf,I.ok.bs,I.ok.bsz,I.ok.noex,I.ok.exfs,I.ok.funs,I.ok.frf⟩,
  I.os,I.bare,I.base,I.loc,I.cell,I.free,I.freeC,λp hp=>I.pin p (Jk _ hp),I.hok,I.len⟩
theorem Inv.suite (I:Inv X pins σ H s)(e:Addr):Inv (X.suite e) pins σ H s:=
 ⟨⟨I.ok.mod,I.ok.kind,I.ok.glob,I.ok.blt,I.ok.above,I.ok.inj,I.ok.has,I.ok.cab,(λz=>nomatch z),I.ok.frames,I.ok.stk,I.ok.exf,I.ok.bs,I.ok.bsz,I.ok.noex,I.ok.exfs,I.ok.funs,I.ok.frf⟩,
  I.os,I.bare,I.base,I.loc,I.cell,I.free,I.freeC,I.pin,I.hok,I.len⟩
theorem Inv.unsuite {e:Addr}(ok:X.Ok)(I:Inv (X.suite e) pins σ H s):Inv X pins σ H s:=
 ⟨ok,I.os,I.bare,I.base,I.loc,I.cell,I.free,I.freeC,I.pin,I.hok,I.len⟩
theorem zat {M:Model}{A:Around}{E:QC}{i:Nat}{n:Str}{pos:Pos}{Q:QD}(I:Inv X pins σ H s)(hN:X.N.Nodup)(hi:X.N[i]? =some n)(hk:X.env.scope.names.lookup n=some .local)
  (h:∀s',Inv X pins (σ.set i none) H s'->Q () s'):wpAny M A (do bindName X.env n .none;unbindBehindTheSuite X.env n pos) Q E s:=by
 obtain⟨m,hn,hl⟩:=id I.loc;have cl:(X.env.scope.kind==.class || (X.env.scope.kind==.module && X.env.locals !=X.env.globals))=false:=by rw[I.ok.kind];rfl
 refine wpAny_nameGoes_keeps hk hn cl λh' v hn' sb=>?_;obtain⟨oL,_,_,gL,_⟩:=id hn;have ol:∀b ob,X.s₀.heap.get? b=some ob->b≠X.env.locals:=λb ob g=>Jg (Jd (Heap.lt_size g) I.ok.above);refine h _ ⟨I.ok,I.os,I.bare,⟨λb ob g z hb hx=>(sb.2 b (ol b ob g)).trans (I.base.keep b ob g z hb hx),λb ob g z hb hx=>?_,I.base.free,λb ob g hx=>?_,I.base.tups,I.base.frzs,I.base.tbls⟩,
  ⟨_,hn',λj y v' e1 e2 e3=>?_⟩,λy c e=>?_,I.free,I.freeC,λp hp=>?_,λb w g=>?_,by simpa using I.len⟩
 ·obtain⟨sl,g1⟩:=I.base.slot b ob g z hb hx;exact⟨sl,(sb.2 b (ol b ob g)).trans g1⟩
 ·obtain⟨o',g1⟩:=I.base.there b ob g hx;exact⟨o',(sb.2 b (ol b ob g)).trans g1⟩
 ·have hj:j≠i:=λz=>by
   subst z;have:j < σ.length:=by rw[I.len];exact(List.getElem?_eq_some_iff.mp hi).1
   rw[List.getElem?_set_self this] at e2;cases e2
  rw[List.getElem?_set_ne (Ne.symm hj)] at e2;obtain⟨u',r',q⟩:=hl j y v' e1 e2 e3;refine⟨u',r',?_⟩;rcases q with ⟨k,e⟩ | ⟨k,c,e,z⟩
  ·refine .inl ⟨k,?_⟩;have:y≠n:=λz=>hj (zem hN e1 (z ▸ hi));show(if y=n then v else m y)=some u';rw[if_neg this];exact e
  ·exact .inr ⟨k,c,e,z.sameBut sb (I.cne y c e)⟩
 ·obtain⟨w',z⟩:=I.cell y c e;exact⟨w',z.sameBut sb (I.cne y c e)⟩
 ·obtain⟨g,z,ne,nf,d⟩:=I.pin p hp;exact⟨(sb.2 p.1 ne).trans g,z,ne,nf,d⟩
 ·refine(I.hok b w g).stay (λc v2 hc q=>(sb.2 c λz=>?_).trans q) (λ_ q=>q) λ_ _ q=>q;subst z;rcases hc with y | y
  ·rw[<-y,I.free] at g;cases g
  ·rw[I.free] at y;cases y
end
noncomputable def Ends.less (D:Ends)(i:Nat):Ends:={nx:=fun σ H=>D.nx (σ.set i none) H,rt:=D.rt,bk:=fun σ H=>D.bk (σ.set i none) H,ct:=fun σ H=>D.ct (σ.set i none) H}
noncomputable def zjL (K:QA)(cv:Value)(i:Nat)(ts:TS)(D:Ends):St->XK:=fun σ cls od H'=>∃C,cls=.ref C/\PySem.W.exmOne K (.ref C) cv=some true/\
 ∀e,H' e=none->ts (D.less i) (σ.set i (some (.ref e))) (upd H' e (exO e C od false))
noncomputable def zni (K:QA)(cv:Value)(ts:TS)(D:Ends):St->XK:=fun σ cls od H'=>∃C,cls=.ref C/\PySem.W.exmOne K (.ref C) cv=some true/\
 ∀e,H' e=none->ts D σ (upd H' e (exO e C od false))
noncomputable def zqu (K:QA)(cv:Value)(i:Nat)(tb:(St->XK)->TS)(ts:TS):TS:=λD σ H=>tb (zjL K cv i ts D) D σ H
noncomputable def zsb (K:QA)(cv:Value)(tb:(St->XK)->TS)(ts:TS):TS:=λD σ H=>tb (zni K cv ts D) D σ H
theorem _root_.Px.Chg2.mono {fs:QO}{own own':Addr->Prop}{h h':Heap}(c:Chg2 fs own h h')(k:∀b,own b->own' b):Chg2 fs own' h h':=
 ⟨c.size,λb o q a n=>c.keep b o q a λz=>n (k b z),λb o q a n=>c.slot b o q a λz=>n (k b z)⟩
section
variable {X:Cx}{x n:Str}{i:Nat}{cv:Value}{body suite:List Stmt}{b₀:Stmt}{np hpos pos:Pos}{tb:(St->XK)->TS}{ts:TS}
theorem Inv.caught {pins:QE}{σ:St}{H H':Hp}{s s2:Shared}{h4:Heap}{ea C T T':Addr}{od:QM}(J0:Inv X pins σ H s)(os:s2.os=s.os)(bare:AllBare s2.gens)(un:Un (frs X.stack) [] H H' s.heap s2.heap)(hok:HOk X.prog X.w H' s2.heap)
  (old:s.heap.get? ea=none\/H ea≠none) (nT:s.heap.get? T=none) (u1:H' ea=none) (u2:H' T=none) (z:s2.heap.objs.size<=T') (c:Chg2 (frs X.stack) (λb=>b=ea\/b=T\/b=T') s2.heap h4) (tb:Tb h4 ea (.ref C) od T' .none):
  Inv X pins σ (upd H' ea (exO ea C od false)) {s2 with heap:=h4}:=by
 obtain⟨oe,vs,oT,tz,ge,e1,e2,e3,_⟩:=tb;have ge':h4.get? ea=some ⟨.ref C,od,.fields vs,oe.slots⟩:=by obtain⟨c0,d0,dt,sl⟩:=oe;dsimp only at e1 e2 e3;subst e1;subst e2;subst e3;exact ge
 have nT2:s2.heap.get? T'=none:=Heap.get?_none_of_le z;have fr2:∀b∈frs X.stack,H' b=none:=λb hb=>by have J:=J0.call' os un hok bare (λb z=>nomatch z);exact J.stkFree b hb
 have u3:H' T'=none:=hok.fresh z;have U:Un (frs X.stack) [] H H' s.heap h4:=un.chg c (λb ob _ y=>y) λb y=>by
  rcases y with y | y | y
  ·subst y;rcases old with y | y
   ·exact .inl y
   ·exact .inr ⟨y,⟨_,ge⟩⟩
  ·subst y;exact .inl nT
  ·subst y;exact .inl (zaj un (by intro z;cases z) nT2)
 have O:HOk X.prog X.w H' h4:=hok.chg c (λb y=>by
  rcases y with y | y | y
  ·rw[y];exact u1
  ·rw[y];exact u2
  ·rw[y];exact u3) fr2
 refine J0.call' (s':={s2 with heap:=h4}) os (U.track u1 λob q=>.inr ?_) (O.track u1 (zgt ge' λz=>by cases z)) bare (λb z=>nomatch z);rcases old with y | y
 ·rw[y] at q;cases q
 ·exact y
theorem zlx (hst:X.stack=X.env::X.outer)(hfm:X.env.frame=some X.env.locals)(hN:X.N.Nodup)(hi:X.N[i]? =some n)(hlo:X.env.scope.names.lookup n=some .local)(hg:Gl X x)(hm:X.mg x=some cv)
  (hb:∀xe pn E,zaU (CX1 X.prog X.w) (X.tried xe pn) E->PSs (X.tried xe pn) body (tb E)) (hs:∀e,PSs (X.suite e) (b₀::suite) ts) (hdb:(x==("__debug__" :Str))=false:=by decide):
  PS X (.Try body [.ExceptHandler (some (.Name x np)) (some n) (b₀::suite) hpos] [] [] pos) (zqu X.K cv i tb ts):=by
 intro pins s σ H D I h;have key:zaU (CX1 X.prog X.w) (X.tried (λe s₁=>wpAny (model X.prog X.w) X.A (noteFrame e X.env) (λ_ s₂=>wpAny (model X.prog X.w) X.A (setFlight e none) (λ_ s₃=>
   wpAny (model X.prog X.w) X.A (handleBy e X.env [.ExceptHandler (some (.Name x np)) (some n) (b₀::suite) hpos]) (SP X pins D) X.xe s₃) X.xe s₂) X.xe s₁) (X.pn++pins)) (zjL X.K cv i ts D):=by
  intro pins' σ' H1 s1 e s2 I1 hc;obtain⟨ea,cls,od,H',T,rfl,os,bare,un,hok,tb',old,nT,u1,u2,C,rfl,em,q⟩:=hc;have J0:Inv X pins σ' H1 s1:=I1.untried;have J:=J0.call' os un hok bare (λb z=>nomatch z);show wpAny _ _ (noteFrame (.ref ea) X.env) _ _ s2;refine zlY (base:=X.base) (by rw[<-hst];exact J.ok.frames) (by rw[<-hst];exact J.stack) hfm tb' λh3 T' z t3 c3=>?_;rw[show(X.env::X.outer).filterMap (·.frame)=frs X.stack from by rw[hst];rfl] at c3;have c3':Chg2 (frs X.stack) (λb=>b=ea\/b=T\/b=T') s2.heap h3:=c3.mono λb y=>y.elim .inl λy=>.inr (.inl y);have J3:=J0.caught os bare un hok old nT u1 u2 z c3' t3;have LT:PySem.W.Looks (model X.prog X.w) h3 (typeOf (.ref ea)) (.ref C):=by obtain⟨vs,sl,ge,_⟩:=zaF J3.hok za;exact(PySem.W.Looks.ld ge).andThen .now
  refine wpAny_handleBy_cons (codeAny_handlers_test (zao (X:=X.suite ea) (J3.suite ea) hg hm ?_ hdb)) (by intro y;cases y);refine(PySem.W.exm_one J3.kIn LT em).here (s:={s2 with heap:=h3}) ?_;refine codeAny_handlers_suite_as ?_;refine zcD (s:={s2 with heap:=h3}) (fs:=frs X.stack) t3 λh4 t4 c4 k4=>?_;have J4:=J0.caught os bare un hok old nT u1 u2 z (c3'.trans (c4.two (own:=λb=>b=ea\/b=T\/b=T') (.inl rfl) (.inl (.inr (.inr rfl))))) t4;refine zcQ (X:=X) J4 hN hi (.inl hlo) (show RelV (.ref ea) (Value.ref ea) from rfl) (λs5 J5=>?_) (.inr hlo);refine wpAny_mono (hs ea pins s5 _ _ (D.less i) (J5.suite ea) (q ea u1)) (λf s6 q6=>?_) λ_ _ y=>y.elim;show wpAny _ _ _ _ _ _;cases f with
  | next=>obtain⟨σ6,H6,J6,y⟩:=q6;exact zat (J6.unsuite J0.ok) hN hi hlo λs7 J7=>⟨_,_,J7,y⟩
  | brk=>obtain⟨σ6,H6,J6,y⟩:=q6;exact zat (J6.unsuite J0.ok) hN hi hlo λs7 J7=>⟨_,_,J7,y⟩
  | cont=>obtain⟨σ6,H6,J6,y⟩:=q6;exact zat (J6.unsuite J0.ok) hN hi hlo λs7 J7=>⟨_,_,J7,y⟩
  | ret u=>obtain⟨v6,σ6,H6,J6,rv,y⟩:=q6;exact zat (J6.unsuite J0.ok) hN hi hlo λs7 J7=>⟨_,_,_,J7,rv,y⟩
 refine wpAny_Try_except (wpAny_mono (hb _ (X.pn++pins) _ key [] s σ H D (I.tried _) h) (λf s₁ q=>?_) λ_ _ y=>y);cases f with
 | next=>obtain⟨σ',H',I',y⟩:=q;exact wpAny_execs_nil ⟨σ',H',I'.untried,y⟩
 | brk=>obtain⟨σ',H',I',y⟩:=q;exact⟨σ',H',I'.untried,y⟩
 | cont=>obtain⟨σ',H',I',y⟩:=q;exact⟨σ',H',I'.untried,y⟩
 | ret u=>obtain⟨v,σ',H',I',rv,y⟩:=q;exact⟨v,σ',H',I'.untried,rv,y⟩
end
end L2
namespace L2
open PySem PySem.Spec PyProof.Rows
noncomputable def cxC (X:Cx)(N:QP)(scope:Scope)(cl:List (Str ×Addr))(s₀:Shared)(H₀:Hp)(ex:QO):Cx:=
 {X with N:=N,s₀:=s₀,H₀:=H₀,env:=compEnvC scope cl s₀.heap.objs.size X.env,outer:=X.stack,ex:=ex,fn:=λ_=>false,pn:=[],xe:=λ_ _=>False}
structure zt (X:Cx)(x:Str)(ys:QP)(js:List Nat)(scope:Scope)(cl:List (Str ×Addr)):Prop where
 clos:closureFor scope X.env=pure cl
 kind:scope.kind=.function
 nocell:∀y∈scope.names,y.2≠ .cell
 names:∀y∈scope.names,y.2=.local->scope.names.lookup y.1=some .local
 tgt:scope.names.lookup x=some .local
 nd:(x::ys).Nodup
 sub:∀p∈cl,X.env.cells.lookup p.1=some p.2
 has:∀p∈(relabel scope X.env).names,p.2=.cell\/p.2=.free->p.1∈cl.map (·.1)
 fr:∀(i:Nat) (y:Str),ys[i]? =some y->∃j,js[i]? =some j/\X.N[j]? =some y/\(X.env.kindOf y=some .cell\/X.env.kindOf y=some .free)/\((relabel scope X.env).names.lookup y=some .cell\/(relabel scope X.env).names.lookup y=some .free)
 len:js.length=ys.length
theorem zbk {cl:List (Str ×Addr)}:∀{y:Str},y∈cl.map (·.1)->∃c,cl.lookup y=some c:=by
 induction cl with
 | nil=>intro y h;simp at h
 | cons p r ih=>
  intro y h;rw[List.lookup_cons];cases e:y==p.1 with
  | true=>exact⟨p.2,rfl⟩
  | false=>
   rw[List.map_cons,List.mem_cons] at h;rcases h with h | h
   ·rw[h] at e;simp at e
   ·exact ih h
noncomputable def PTs (X:Cx)(ifs:List Expr)(t:TT):Prop:=
 ∀(pins:QE) (s:Shared) (σ:St) (H:Hp) (Q:Bool->Hp->Prop),Inv X pins σ H s->t σ H Q->
  wpAny (model X.prog X.w) X.A (forIn ifs true λc r=>if r=true then do let ok<-isTrue c X.env (eval c X.env);pure (ForInStep.yield ok) else pure (ForInStep.yield r)) (TP X pins σ Q) X.xe s
noncomputable def zcf:TT:=λ_ H Q=>Q true H
theorem zcl {X:Cx}:PTs X [] zcf:=λ_ _ _ H _ I h=>wpAny_tests_nil ⟨H,I,h⟩
theorem zjA {X:Cx}{c:Expr}{t:TT}(h:PT X c t):PTs X [c] t:=λpins s σ H Q I q=>wpAny_tests_one (h pins s σ H Q I q)
noncomputable def frees (σ:St)(js:List Nat):St:=js.map λj=>(σ[j]?).getD none
noncomputable def zcT (J:It)(p:Addr)(σ:St)(js:List Nat)(tt:TT)(te:TE)(H1:Hp)(Q:VK):Prop:=
 ∃W:Nat->Nat->List V->Hp->Prop,(∃m,W 0 m [] (upd H1 p (.lst [])))/\∀i m acc H,W i m acc H->
  (J.stop i H/\Q (.ref p) H)\/(J.go i H/\∀x H',J.yld i H x H'->tt (some x::frees σ js) H' λok H2=>
   if ok=true then te (some x::frees σ js) H2 λy H3=>H3 p=some (.lst acc)/\acc.length < sizeLine/\∃m',m' < m/\W (i+1) m' (acc++ [y]) (upd H3 p (.lst (acc++ [y])))
   else∃m',m' < m/\W (i+1) m' acc H2)
noncomputable def zl0 (n:Nat)(g:TG)(J:It)(p:Addr)(σ:St)(js:List Nat)(tt:TT)(te:TE)(H1:Hp)(Q:VK):Prop:=
 ∃W:Nat->Nat->List V->Hp->Prop,(∃m,W 0 m [] (upd H1 p (.lst [])))/\∀i m acc H,W i m acc H->
  (J.stop i H/\Q (.ref p) H)\/(J.go i H/\∀x H',J.yld i H x H'->∃vs:St,vs.length=n/\(∀(σ0:St) (R:St->Hp->Prop),σ0.length=n->R (vs++frees σ js) H'->g x (σ0++frees σ js) H' R)/\tt (vs++frees σ js) H' λok H2=>
   if ok=true then te (vs++frees σ js) H2 λy H3=>H3 p=some (.lst acc)/\acc.length < sizeLine/\∃m',m' < m/\W (i+1) m' (acc++ [y]) (upd H3 p (.lst (acc++ [y])))
   else∃m',m' < m/\W (i+1) m' acc H2)
theorem zcT.g {J:It}{p:Addr}{σ:St}{js:List Nat}{tt:TT}{te:TE}{H1:Hp}{Q:VK}(h:zcT J p σ js tt te H1 Q):zl0 1 (za5 0) J p σ js tt te H1 Q:=by
 obtain⟨W,w0,f⟩:=h;refine⟨W,w0,λi m acc H w=>?_⟩;rcases f i m acc H w with z | ⟨z,y⟩
 ·exact .inl z
 ·refine .inr ⟨z,λx H' e=>⟨[some x],rfl,fun σ0 R l r=>?_,y x H' e⟩⟩;obtain⟨o,rfl⟩:=List.length_eq_one_iff.mp l;exact r
noncomputable abbrev Lp (h:Heap):Heap:=h.push {cls:=.type "list",dict:=none,data:=.seq ([]:QN).toArray}
noncomputable def zl9 (wi:TI)(Cw:It->Addr->St->Hp->VK->Prop):TE:=fun σ H Q=>wi σ H λJ H1=>∀p,H1 p=none->Cw J p σ H1 Q
noncomputable def zpA (wi:TI)(js:List Nat)(tt:TT)(te:TE):TE:=fun σ H Q=>wi σ H λJ H1=>∀p,H1 p=none->zcT J p σ js tt te H1 Q
section
variable {X:Cx}{x:Str}{ys:QP}{js:List Nat}{scope:Scope}{cl:List (Str ×Addr)}{pins:QE}{σ:St}{H:Hp}{s:Shared}
theorem zt.cells (S:zt X x ys js scope cl){y:Str}{c:Addr}(h:cl.lookup y=some c):X.env.cells.lookup y=some c:=S.sub (y,c) (PySem.mem_of_lookup h)
theorem zob {zs:QP}(S:zt X x ys js scope cl)(I:Inv X pins σ H s){fp:QO}(f:∀b∈fp,FpOk X pins H b)(fo:∀b∈fp,b < s.heap.objs.size){h1:Heap}{m:QB}{t1:Nat}(hn:h1.Ns s.heap.objs.size m)
  (k:∀b o,s.heap.get? b=some o->h1.get? b=some o):
  Inv (cxC X (zs++ys) scope cl s H fp) (X.pn++pins) (List.replicate zs.length none++frees σ js) H {s with heap:=h1,toks:=t1}:=by
 have nfs:∀b∈fp,b∉frs X.stack:=λb hb z=>(List.mem_cons.mp (I.stkSub b z)).elim (f b hb).2.1 (f b hb).2.2.1;have kept:∀y c,cl.lookup y=some c->∀v,s.heap.IsCell c v->h1.IsCell c v:=λy c _ v ⟨o,ho,hd⟩=>⟨o,k c o ho,hd⟩;refine⟨⟨I.ok.mod,S.kind,I.ok.glob,I.ok.blt,Jb _,λy z c e1 e2=>I.ok.inj y z c (S.cells e1) (S.cells e2),λy hy=>?_,λy c e _=>Je e Jc,I.ok.hd,I.ok.frames,.inl rfl,λb hb=>⟨?_,λy c e=>(f b hb).2.2.2.2.1 y c (S.cells e)⟩,
   I.bs,Ji I.ok.bsz I.sz,λb o e hb=>?_,nfs,I.stack,I.stkFree⟩,
  I.os.trans ?_,I.bare,Un.kept k,⟨m,hn,λi y v e1 e2 e3=>?_⟩,λy c e=>?_,I.hok.fresh (Jb _),λy c e=>I.freeC y c (S.cells e),λp hp=>?_,I.hok.kept k,?_⟩
 ·rcases hy with hy | hy
  ·exact zbk (S.has _ (PySem.mem_of_lookup hy) (.inl rfl))
  ·exact zbk (S.has _ (PySem.mem_of_lookup hy) (.inr rfl))
 ·exact Jg (fo b hb)
 ·rcases(f b hb).2.2.2.1 with z | z
  ·exact I.ok.noex b o e z
  ·exact Je (Jd (Heap.lt_size e) (Ji I.ok.bsz z)) (Jp _)
 ·exact I.os.symm
 ·have e1:(zs++ys)[i]? =some y:=e1;by_cases hi:i < zs.length
  ·rw[List.getElem?_append_left (by rw[List.length_replicate];exact hi),List.getElem?_replicate,if_pos hi] at e2;cases e2
  ·rw[List.getElem?_append_right (by omega)] at e1;rw[List.getElem?_append_right (by rw[List.length_replicate];omega),List.length_replicate] at e2;generalize i - zs.length=i at e1 e2;obtain⟨j,ej,eN,ek,ek'⟩:=S.fr i y e1;have es:σ[j]? =some (some v):=by
    have q:(frees σ js)[i]? =some (some v):=e2;unfold frees at q;rw[List.getElem?_map,ej] at q;have q':(σ[j]?).getD none=some v:=Option.some.inj q;cases e:σ[j]? with
    | none=>rw[e] at q';cases q'
    | some o=>rw[e] at q';cases q';rfl
   obtain⟨m0,_,hl⟩:=I.loc;obtain⟨u,r,l⟩:=hl j y v eN es (.inr ek);rcases l with ⟨l,_⟩ | ⟨_,c,ec,hc⟩
   ·rcases ek with ek | ek <;> · rw[ek] at l;cases l
   ·have hk:y∈cl.map (·.1):=by
     rcases ek' with q | q
     ·exact S.has _ (PySem.mem_of_lookup q) (.inl rfl)
     ·exact S.has _ (PySem.mem_of_lookup q) (.inr rfl)
    obtain⟨c',ec'⟩:=zbk hk;have e:=S.cells ec';rw[ec] at e;cases e;exact⟨u,r,.inr ⟨ek',c,ec',kept y c ec' _ hc⟩⟩
 ·obtain⟨v,q⟩:=I.cell y c (S.cells e);exact⟨v,kept y c e v q⟩
 ·have hp':p∈X.pn++pins:=(List.mem_append.mp hp).elim (λz=>Je (show p∈([]:QE) from z) (by simp)) id;obtain⟨a,b,c,d,e⟩:=I.pin p hp';exact⟨k _ _ a,b,Jg (Heap.lt_size a),λz=>(List.mem_cons.mp (I.stkSub _ z)).elim c d,e⟩
 ·show _=(zs++ys).length;unfold frees;rw[List.length_append,List.length_append,List.length_replicate,List.length_map,S.len]
theorem zlK {H1:Hp}{s1:Shared}{σ':St}{pins':QE}{s0:Shared}{H0:Hp}(I:Inv X pins σ H0 s0){fp:QO}(f:∀b∈fp,FpOk X pins H0 b)(U0:Un (frs X.stack) fp H0 H s0.heap s.heap)(ho:s.os=s0.os)
  {N:QP} (J:Inv (cxC X N scope cl s H fp) pins' σ' H1 s1):Inv X pins σ H1 s1:=by
 have U1:Un (frs X.stack) fp H H1 s.heap s1.heap:=J.base;exact I.call' (J.os.trans ho) (U0.trans U1) J.hok J.bare λb hb=>⟨(f b hb).2.2.2.1,(f b hb).2.1,(f b hb).2.2.2.2.1,(f b hb).2.2.2.2.2⟩
variable {iter elt:Expr}{ifs:List Expr}{px pos:Pos}{wi:TI}{tt:TT}{te:TE}
noncomputable abbrev _root_.Jt:=@Nat.lt_succ_of_lt
theorem zfP {zs:QP}{tg:Expr}{g:TG}{W:Shared->Hp->List Addr->Value->Shared->Prop}(S:zt X x ys js scope cl)(hc:X.calm=true)(G:∀s₀ H₀ ex,PG (cxC X (zs++ys) scope cl s₀ H₀ ex) tg g)(ht:∀s₀ H₀ ex,PTs (cxC X (zs++ys) scope cl s₀ H₀ ex) ifs tt)(he:∀s₀ H₀ ex,PE ((cxC X (zs++ys) scope cl s₀ H₀ ex).wish (W s₀ H₀ ex)) elt te)
  {s2:Shared} {H2:Hp} {it:Addr} {fp:QO} {tn:Nat->Heap->Prop} {J:It} (I2:Inv X pins σ H2 s2) (T:Turn X.prog X.w X.K tg J fp it tn) (st2:tn 0 s2.heap) (f2:∀b∈fp,FpOk X pins H2 b)
  {Q:VK} (q:∀p,H2 p=none->zl0 zs.length g J p σ js tt te H2 Q)
  {R:Value->Addr->Result->Shared->Prop}
  (hR:∀(p:Addr) (C:Addr) (H':Hp) (s':Shared) (m:QB),s2.heap.objs.size<=C->s'.heap.Ns C m->H' C=none->Inv X pins σ H' s'->Q (.ref p) H'->R (.ref p) C (.ok .next) s')
  (hW:∀e s',W {s2 with heap:=(Lp s2.heap)} (upd H2 s2.heap.objs.size (.lst [])) fp e s'->notedBy (model X.prog X.w) X.A (compEnvC scope cl (Lp s2.heap).objs.size X.env) (λe s'=>R (.ref s2.heap.objs.size) (Lp s2.heap).objs.size (.error e) s') e s'):
  wpAny (model X.prog X.w) X.A (newList []) (λacc s₃=>wpAny (model X.prog X.w) X.A (newFunctionEnv scope X.env.globals cl [] X.env.qual none .none (some X.env)) (λcenv s₄=>
   codeAny (model X.prog X.w) X.A (.compStart (.ListComp elt [⟨tg,iter,ifs,0⟩] scope pos) 0 (.ref it) acc {cenv with scope:=relabel scope X.env}) (R acc cenv.locals) s₄) X.xe s₃) X.xe s2:=by
 refine wpAny_newObj_type (wpAny_newFunctionEnv S.nocell (by intro y hy;simp at hy) (λh₁ hns₁ hsb₁=>?_) S.kind);have fr2:H2 s2.heap.objs.size=none:=I2.hok.fresh (Jb _);obtain⟨Y1,⟨m0,w0⟩,turn⟩:=q _ fr2;have I3:Inv X pins σ (upd H2 s2.heap.objs.size (.lst [])) {s2 with heap:=Lp s2.heap}:=
  I2.laid (t':=s2.toks) (λb u e=>Heap.get?_push_of_some _ e) (Jb _) ⟨Nat.zero_le _,[],0,.nil,Heap.get?_push_size _ rfl⟩
 have U0:Un (frs X.stack) fp H2 (upd H2 s2.heap.objs.size (.lst [])) s2.heap (Lp s2.heap):=
  Un.laid (λb u e=>Heap.get?_push_of_some _ e) (Jb _) fr2
 have fo:∀b∈fp,b < s2.heap.objs.size:=λb hb=>by obtain⟨o,e,_⟩:=T.obj 0 _ st2 b hb;exact Heap.lt_size e
 have f3:∀b∈fp,FpOk X pins (upd H2 s2.heap.objs.size (.lst [])) b:=λb hb=>⟨by rw[zf (Jg (fo b hb))];exact(f2 b hb).1,(f2 b hb).2⟩
 have hold:∀b o,(Lp s2.heap).get? b=some o->h₁.get? b=some o:=λb o e=>
  hsb₁.extBut b o (Jg (Heap.lt_size e)) (Heap.get?_push_of_some _ e)
 have fo3:∀b∈fp,b < (Lp s2.heap).objs.size:=λb hb=>by rw[Heap.size_push];exact Jt (fo b hb)
 have I4:=zob (zs:=zs) (t1:=s2.toks+([]:QK).length) S I3 f3 fo3 hns₁ hold;have st4:tn 0 h₁:=T.keep _ _ _ st2 λb _ o e=>hold b o (Heap.get?_push_of_some _ e);have stat:∀{H':Hp},(∀b∈fp,H' b=none)->∀b∈fp,FpOk (cxC X (zs++ys) scope cl {s2 with heap:=Lp s2.heap} (upd H2 s2.heap.objs.size (.lst [])) fp) (X.pn++pins) H' b:=λhn b hb=>
  ⟨hn b hb,Jg (fo3 b hb),I4.ok.exfs b hb,.inl hb,λy c e=>(f2 b hb).2.2.2.2.1 y c (S.cells e),λp hp=>(f2 b hb).2.2.2.2.2 p ((List.mem_append.mp hp).elim (λz=>Je (show p∈([]:QE) from z) (by simp)) id)⟩
 have loop:codeAny (model X.prog X.w) X.A (.compLoop (.ListComp elt [⟨tg,iter,ifs,0⟩] scope pos) 0 (.ref it) (.ref s2.heap.objs.size) (compEnvC scope cl (Lp s2.heap).objs.size X.env))
   (R (.ref s2.heap.objs.size) (Lp s2.heap).objs.size) {s2 with heap:=h₁,toks:=s2.toks+([]:QK).length}:=by
  refine codeAny_loop rfl (λn s'=>∃i acc σ0 H',σ0.length=zs.length/\Inv (cxC X (zs++ys) scope cl {s2 with heap:=Lp s2.heap} (upd H2 s2.heap.objs.size (.lst [])) fp) (X.pn++pins) (σ0++frees σ js) H' s'/\tn i s'.heap/\(∀b∈fp,H' b=none)/\Y1 i n acc H')
   (λn s5 hI=>?_) m0 ⟨0,[],List.replicate zs.length none,_,List.length_replicate ..,I4,st4,λb hb=>(f3 b hb).1,w0⟩
  show wpAny _ X.A ((compTurn (.ListComp elt [⟨tg,iter,ifs,0⟩] scope pos) 0 (.ref it) (.ref s2.heap.objs.size) (compEnvC scope cl (Lp s2.heap).objs.size X.env)).onRaise (λx=>do noteFrame x (compEnvC scope cl (Lp s2.heap).objs.size X.env);theTreesLotGoes x)) _ _ s5;refine wpAny_noted ?_;rw[compTurn_list];obtain⟨i,acc,σ0,H5,l0,I5,st5,fr5,w5⟩:=hI;refine Ja (wpAny_standAt (Ja ?_));rcases turn i n acc H5 w5 with ⟨stop,qn⟩ | ⟨go,step⟩
  ·refine wpAny_mono (T.done (cxC X (zs++ys) scope cl {s2 with heap:=Lp s2.heap} (upd H2 s2.heap.objs.size (.lst [])) fp) rfl rfl rfl hc i _ s5 _ H5 _ I5 (stat fr5) st5 stop) (λr s6 ⟨hr,I6⟩=>?_) λ_ _ e=>e;subst hr;obtain⟨m,hn,_⟩:=I6.loc;exact wpAny_pure (hR _ _ H5 s6 m (by rw[Heap.size_push];exact Nat.le_succ _) hn I6.free (zlK I2 f2 U0 (by rfl) I6) qn)
  ·refine wpAny_mono (T.item (cxC X (zs++ys) scope cl {s2 with heap:=Lp s2.heap} (upd H2 s2.heap.objs.size (.lst [])) fp) rfl rfl rfl hc i _ s5 _ H5 _ I5 (stat fr5) st5 go) (λr s6 ⟨u,hr,h6⟩=>?_) λ_ _ e=>e;subst hr;refine Ja (wpAny_mono h6 (λ_ s7 ⟨v,H7,I7,r7,y7,st7,fr7⟩=>?_) λ_ _ e=>e);have I7':=I7.pinned (stat fr7) (T.obj _ _ st7);obtain⟨vs,lv,gv,step⟩:=step v _ y7;refine Ja (wpAny_mono (G _ _ _ _ s7 _ H7 v u (fun σ8 H8=>σ8=vs++frees σ js/\H8=H7) I7' r7 (gv _ _ l0 ⟨rfl,rfl⟩)) (λ_ s8 ⟨σ8,H8,I8,e8,e8'⟩=>?_) λ_ _ e=>e.elim);subst e8 e8';refine Ja (wpAny_mono (ht _ _ _ _ s8 _ _ _ I8 step) (λok s9 ⟨H9,I9,q9⟩=>?_) λ_ _ e=>e.elim);have again:∀{acc':QQ} {H10:Hp} {s10:Shared},Inv (cxC X (zs++ys) scope cl {s2 with heap:=Lp s2.heap} (upd H2 s2.heap.objs.size (.lst [])) fp) (X.pn++pins++zeo fp s7.heap) (vs++frees σ js) H10 s10->
     (∃m',m' < n/\Y1 (i+1) m' acc' H10)->∃m,m < n/\∃i acc σ0 H',σ0.length=zs.length/\Inv (cxC X (zs++ys) scope cl {s2 with heap:=Lp s2.heap} (upd H2 s2.heap.objs.size (.lst [])) fp) (X.pn++pins) (σ0++frees σ js) H' s10/\tn i s10.heap/\(∀b∈fp,H' b=none)/\Y1 i m acc H':=λ{acc' H10 s10} I10 ⟨m',hm,w10⟩=>by
    refine⟨m',hm,i+1,acc',vs,H10,lv,I10.unpinned,T.keep _ _ _ st7 λb hb o e=>(I10.pin (b,o) (Jf _ (Jf _ (zbH hb e)))).1,λb hb=>?_,w10⟩;obtain⟨o,e,d⟩:=T.obj _ _ st7 b hb;exact(I10.pin (b,o) (Jf _ (Jf _ (zbH hb e)))).2.1
   cases ok with
   | false=>rw[if_neg Jc] at q9;exact wpAny_pure ⟨rfl,again I9 q9⟩
   | true=>
    rw[if_pos rfl] at q9;refine Ja (Ja (wpAny_mono (he _ _ _ _ s9 _ _ _ (I9.wish _) q9) (λy s10 ⟨z,H10,I10',r10,e10,l10,w10⟩=>?_) hW));have I10:=I10'.unwish;refine Ja (wpAny_mono (zdz (X:=cxC X (zs++ys) scope cl {s2 with heap:=Lp s2.heap} (upd H2 s2.heap.objs.size (.lst [])) fp) _ s10 _ H10 (.ref s2.heap.objs.size) [z] (.ref s2.heap.objs.size) [y] (λ_ H'=>H'=upd H10 s2.heap.objs.size (.lst (acc++ [z]))) I10 rfl (.cons r10 .nil) ⟨_,acc,z,rfl,rfl,e10,l10,rfl⟩)
     (λ_ s11 ⟨_,H11,I11,_,e11⟩=>?_) λ_ _ e=>e.elim)
    subst e11;exact wpAny_pure (wpAny_pure ⟨rfl,again I11 w10⟩)
 exact codeAny_compStart_list loop (T.self _ 0 _ _ _ st4 loop)
noncomputable def CRun (X:Cx)(tg:Expr)(Cw:It->Addr->St->Hp->VK->Prop)(iter elt:Expr)(ifs:List Expr)(scope:Scope)(cl:List (Str ×Addr))(pos:Pos):Prop:=
 ∀{pins:QE} {σ:St} {s2:Shared} {H2:Hp} {it:Addr} {fp:QO} {tn:Nat->Heap->Prop} {J:It},Inv X pins σ H2 s2->Turn X.prog X.w X.K tg J fp it tn->tn 0 s2.heap->(∀b∈fp,FpOk X pins H2 b)->
  ∀{Q:VK},(∀p,H2 p=none->Cw J p σ H2 Q)->∀{use:Option (Value->Sem Unit)} {F:QC},
  (∀(p:Addr) (C:Addr) (H':Hp) (s':Shared) (m:QB),s2.heap.objs.size<=C->s'.heap.Ns C m->H' C=none->Inv X pins σ H' s'->Q (.ref p) H'->compPost (model X.prog X.w) X.A X.xe use F (.ref p) C (.ok .next) s')->
  wpAny (model X.prog X.w) X.A (newList []) (λacc s₃=>wpAny (model X.prog X.w) X.A (newFunctionEnv scope X.env.globals cl [] X.env.qual none .none (some X.env)) (λcenv s₄=>
   codeAny (model X.prog X.w) X.A (.compStart (.ListComp elt [⟨tg,iter,ifs,0⟩] scope pos) 0 (.ref it) acc {cenv with scope:=relabel scope X.env}) (compPost (model X.prog X.w) X.A X.xe use F acc cenv.locals) s₄) X.xe s₃) X.xe s2
theorem tgN (S:zt X x ys js scope cl){s₀:Shared}{H₀:Hp}{ex:QO}:PG (cxC X (x::ys) scope cl s₀ H₀ ex) (.Name x px) (za5 0):=zcg S.nd rfl (.inl (lookup_relabel_local S.tgt)) (.inr (lookup_relabel_local S.tgt))
theorem crun (S:zt X x ys js scope cl)(hc:X.calm=true)(ht:∀s₀ H₀ ex,PTs (cxC X (x::ys) scope cl s₀ H₀ ex) ifs tt)(he:∀s₀ H₀ ex,PE (cxC X (x::ys) scope cl s₀ H₀ ex) elt te):CRun X (.Name x px) (λJ p σ H1 Q=>zcT J p σ js tt te H1 Q) iter elt ifs scope cl pos:=
 λI2 T st2 f2 _ q _ _ hR=>zfP (zs:=[x]) (W:=λ_ _ _ _ _=>False) S hc (λ_ _ _=>tgN S) ht he I2 T st2 f2 (λp hp=>(q p hp).g) hR λ_ _ z=>z.elim
theorem zf3 {tg:Expr}{Cw:It->Addr->St->Hp->VK->Prop}(hr:CRun X tg Cw iter elt ifs scope cl pos)(S:zt X x ys js scope cl)(hi:PI X tg iter wi)
  (hs:∀x,foldedSetIterable iter X.env x=pure x:=by intro _;rfl):PE X (.ListComp elt [⟨tg,iter,ifs,0⟩] scope pos) (zl9 wi Cw):=by
 intro pins s σ H Q I h;rw[eval_ListComp];refine wpAny_comprehension_free (use:=none) rfl hs S.clos S.kind S.names (thn (hi pins s σ H _ I h) λv s1 h1=>thn h1 λitv s2 h2=>?_);obtain⟨it,fp,tn,J,H2,e,I2,T,st2,f2,q⟩:=h2;subst e;refine hr I2 T st2 f2 (Q:=Q) q λp C H' s' m hC hn hf I' q'=>?_;refine⟨m,hn,λh' hb=>⟨.ref p,H',?_,rfl,q'⟩⟩;exact I'.turned (it:=C) (t':=s'.toks) (λb o hne e=>hb.extBut b o hne e) hf (Nat.ne_of_gt (Jd I2.lt hC)) (.inr (Ji I2.sz hC))
  (λy c e z=>by obtain⟨v,w⟩:=I2.cell y c e;subst z;exact Jp _ (Jd w.lt hC)) λp hp z=>by have q:=Heap.lt_size (I2.pin p hp).1;rw[z] at q;exact Jp _ (Jd q hC)
theorem zb5 (S:zt X x ys js scope cl)(hc:X.calm=true)(hi:PI X (.Name x px) iter wi)(ht:∀s₀ H₀ ex,PTs (cxC X (x::ys) scope cl s₀ H₀ ex) ifs tt)(he:∀s₀ H₀ ex,PE (cxC X (x::ys) scope cl s₀ H₀ ex) elt te)
  (hs:∀x,foldedSetIterable iter X.env x=pure x:=by intro _;rfl):PE X (.ListComp elt [⟨.Name x px,iter,ifs,0⟩] scope pos) (zpA wi js tt te):=
 zf3 (crun S hc ht he) S hi hs
theorem zkK {i:Nat}{y:Str}{py spos:Pos}{tg:Expr}{Cw:It->Addr->St->Hp->VK->Prop}(hr:CRun X tg Cw iter elt ifs scope cl pos)(S:zt X x ys js scope cl)(hi:PI X tg iter wi)
  (hN:X.N.Nodup) (hy:X.N[i]? =some y) (hx:Loc X.env.scope y) (hsw:swapsWith (.ListComp elt [⟨tg,iter,ifs,0⟩] scope pos) (some (.Name y py)) spos.line X.env=pure true)
  (hf:X.fn y=true\/X.env.scope.names.lookup y=some .local:=by first | exact .inl rfl | exact .inr rfl | assumption)
  (hs:∀x,foldedSetIterable iter X.env x=pure x:=by intro _;rfl):PS X (.Assign [.Name y py] (.ListComp elt [⟨tg,iter,ifs,0⟩] scope pos) spos) (tAsg (zl9 wi Cw) (za5 i)):=by
 intro pins s σ H D I h;rw[exec_Assign_Name_used _ _ _ _ hsw];refine Ja (wpAny_standAt (Ja ?_));show wpAny _ X.A (do let _<-comprehension (.ListComp elt [⟨tg,iter,ifs,0⟩] scope pos) scope X.env _ (newList []) false (eval iter X.env) (some (assign (.Name y py) X.env))) _ _ s;refine Ja (wpAny_mono (wpAny_comprehension_free (use:=some (assign (.Name y py) X.env)) (Q:=λ_ s'=>SP X pins D .next s') rfl hs S.clos S.kind S.names
  (thn (hi pins s σ H _ I h) λv s1 h1=>thn h1 λitv s2 h2=>?_)) (λ_ s' hq=>wpAny_pure (wpAny_pure hq)) λ_ _ e=>e)
 obtain⟨it,fp,tn,J,H2,e,I2,T,st2,f2,q⟩:=h2;subst e;refine hr I2 T st2 f2 (Q:=λx H1=>za5 i x σ H1 D.nx) q λp C H' s' m hC hn hf' I' q'=>?_;have neL:C≠X.env.locals:=Nat.ne_of_gt (Jd I2.lt hC);have nfs:C∉X.fs:=I2.nofs hC;have hn0:=hn;obtain⟨o,es,ep,ho,hd,r⟩:=hn;have Ip:Inv X (pins++ [(C,o)]) σ H' s':=I'.pins_of λp hp=>(List.mem_append.mp hp).elim (λz=>I'.pin p (Jf _ z)) λz=>by
  have e:p=(C,o):=by simpa using z
  subst e;exact⟨ho,hf',neL,nfs,λv w=>by rw[hd] at w;cases w⟩
 show wpAny _ _ (assign (.Name y py) X.env (.ref p)) _ _ s';refine thn (zcg (pos:=py) hN hy hx hf _ s' σ H' (.ref p) (.ref p) _ Ip rfl q') λ_ s'' ⟨σ8,H8,I8,q8⟩=>?_;have pc:=I8.pin (C,o) (Jf _ (Jf _ (by simp)));refine⟨m,⟨o,es,ep,pc.1,hd,r⟩,λh' hb=>⟨σ8,H8,?_,q8⟩⟩;have I9:Inv X pins σ8 H8 s'':=I8.pins_of λp hp=>I8.pin p (Jf _ (Jk _ hp));exact I9.turned (it:=C) (t':=s''.toks) (λb o hne e=>hb.extBut b o hne e) pc.2.1 neL (.inr (Ji I2.sz hC))
  (λy c e z=>by obtain⟨v,w⟩:=I2.cell y c e;subst z;exact Jp _ (Jd w.lt hC)) λp hp z=>by have q:=Heap.lt_size (I2.pin p hp).1;rw[z] at q;exact Jp _ (Jd q hC)
theorem zhf {i:Nat}{y:Str}{py spos:Pos}(S:zt X x ys js scope cl)(hc:X.calm=true)(hi:PI X (.Name x px) iter wi)(ht:∀s₀ H₀ ex,PTs (cxC X (x::ys) scope cl s₀ H₀ ex) ifs tt)(he:∀s₀ H₀ ex,PE (cxC X (x::ys) scope cl s₀ H₀ ex) elt te)
  (hN:X.N.Nodup) (hy:X.N[i]? =some y) (hx:Loc X.env.scope y) (hsw:swapsWith (.ListComp elt [⟨.Name x px,iter,ifs,0⟩] scope pos) (some (.Name y py)) spos.line X.env=pure true)
  (hf:X.fn y=true\/X.env.scope.names.lookup y=some .local:=by first | exact .inl rfl | exact .inr rfl | assumption)
  (hs:∀x,foldedSetIterable iter X.env x=pure x:=by intro _;rfl):PS X (.Assign [.Name y py] (.ListComp elt [⟨.Name x px,iter,ifs,0⟩] scope pos) spos) (tAsg (zpA wi js tt te) (za5 i)):=
 zkK (crun S hc ht he) S hi hN hy hx hsw hf hs
end
end L2
namespace L2
open PySem PySem.Spec PyProof.Rows
section
variable {X:Cx}
noncomputable def zm6 (i j:Int):Prop:=0 < j/\j < 10 ^ 100
theorem zm6.log {i j:Int}(h:zm6 i j):j.natAbs.log2 < 9000:=by
 have h1:j.natAbs < 10 ^ 100:=by have:=h.1;have:=h.2;omega
 have h2:j.natAbs < 2 ^ 400:=Nat.lt_trans h1 (by decide+kernel);have h3:j.natAbs≠0:=by have:=h.1;omega
 have:=(Nat.log2_lt h3).mpr h2;omega
theorem zl8:OpR X (binaryOp .FloorDiv) (rI zm6 λi j=>.int (i / j)):=opI λi j _ _ _ _ _ hc q=>by rw[<-Int.fdiv_eq_ediv_of_nonneg i (Int.le_of_lt hc.1)] at q;exact floordiv_int (by have:=hc.1;omega) q (.inl (PyProof.noPylong_of_log2 hc.log))
noncomputable def zpO (K:QA):List V->Hp->VK->Prop:=λxs H Q=>∃x T t b,xs=[x,.ty T]/\TyOf K H x t/\PySem.W.kitOne K t (.type T)=some b/\Q (.bl b) H
theorem zJ:z9 X (.builtin "isinstance") (zpO X.K):=by intro pins s σ H xs us Q I r h;obtain⟨x,T,t,b,rfl,ty,e,q⟩:=h;obtain⟨u,w',rfl,ru,rw'⟩:=vals2 r;cases (show w'=Value.type T from rw');exact zkG I ru ty e λtk=>⟨.bl b,H,I.tok tk,rfl,q⟩
example (K:QA):PySem.W.kitOne K (.type "NoneType") (.type "int")=some false:=by rfl
example (K:QA):PySem.W.kitOne K (.type "int") (.type "int")=some true:=by rfl
example (K:QA):PySem.W.kitOne K (.type "tuple") (.type "str")=some false:=by rfl
example (K:QA):PySem.W.kitOne K (.type "bool") (.type "int")=some true:=by rfl
example (K:QA):PySem.W.kitOne K (.type "str") (.type "bool")=some false:=by rfl
noncomputable def Its (x:Str):It:=⟨λi _=>i < x.cps.size,λi H v H'=>H'=H/\∃c,x.cps[i]? =some c/\v=.str ⟨#[c]⟩,λi _=>x.cps.size<=i⟩
theorem zhN {P:Program}{w:World}{K:QA}{tg:Expr}{x:Str}{it:Addr}{n:String}{t:Tok}(hn:["enumerate","zip","dict_itemiterator","dict_reverseitemiterator","odict_iterator","itertools.zip_longest","itertools.pairwise"].contains n=false)
  (W:∀A':Around,A'.handled=none->Walks P w A' it [it] [it] x.cps.size (SignAt x) (λi h=>h.IsStrIter it n x t i))
  (E0:∀(A':Around) (s:Shared) (Q:Option Value->Shared->Prop) (E:QC) (i:Nat),A'.handled=none->s.heap.IsStrIter it n x t i->x.cps.size<=i->(∀h',(∀b o,b≠it->s.heap.get? b=some o->h'.get? b=some o)->Q none {s with heap:=h'})->wpAny (model P w) A' (pyNext (.ref it)) Q E s)
  (S0:∀(A':Around) (s:Shared) (Q:QC) (E:QC) (i:Nat),s.heap.IsStrIter it n x t i->Q (.ref it) s->wpAny (model P w) A' (pyIter (.ref it)) Q E s):
  Turn P w K tg (Its x) [it] it (λi h=>h.IsStrIter it n x t i) where
 mem:=by simp
 obj:=λi h st b hb=>by
  have e:b=it:=by simpa using hb
  subst e;obtain⟨o,e,c,d⟩:=st;exact⟨o,e,λv z=>by rw[d] at z;cases z⟩
 keep:=λi h h' st k=>by obtain⟨o,e,r⟩:=st;exact⟨o,k it (by simp) o e,r⟩
 item:=by intro X hP hw hK hc i pins s σ H E I hf st hg;subst hP hw hK;obtain⟨f0,f1,f2,f3,f4,f5⟩:=hf it (by simp);refine(W X.A (I.ok.hd hc)).item i s _ _ hg st λv h' tk hv st' kk=>?_;obtain⟨c,u,hc',rfl⟩:=hv;have I1:Inv X pins σ H {s with heap:=h',toks:=tk}:=I.turned (λb o hb e=>kk b o (by simpa using hb) e) f0 f1 f3 f4 f5;obtain⟨o,e,cl,d⟩:=id st';exact⟨_,rfl,zft (s:={s with heap:=h',toks:=tk}) e cl d hn ⟨.str ⟨#[c]⟩,H,I1,⟨u,rfl⟩,⟨rfl,c,hc',rfl⟩,st',λb hb=>(hf b hb).1⟩⟩
 done:=by intro X hP hw hK hc i pins s σ H E I hf st hg;subst hP hw hK;obtain⟨f0,f1,f2,f3,f4,f5⟩:=hf it (by simp);exact E0 X.A s _ _ i (I.ok.hd hc) st hg λh' eb=>⟨rfl,I.turned (t':=s.toks) (λb o hb e=>eb b o hb e) f0 f1 f3 f4 f5⟩
 self:=λA i s Q E st h=>S0 A s Q E i st h
noncomputable def iStr (tl:TE):TI:=fun σ H R=>tl σ H λx H1=>∃z,x=.str z/\R (Its z) H1
theorem zet {tg l:Expr}{tl:TE}(hl:PE X l tl):PI X tg l (iStr tl):=by
 intro pins s σ H R I h;refine thn (hl pins s σ H _ I h) λv s1 ⟨x,H1,I1,r1,q1⟩=>?_;obtain⟨z,rfl,q⟩:=q1;obtain⟨t,rfl⟩:=r1;have fp:∀b∈ [s1.heap.objs.size],FpOk X pins H1 b:=λb hb=>by
  have e:b=s1.heap.objs.size:=by simpa using hb
  subst e;exact I1.fpOk (Jb _) (I1.hok.fresh (Jb _))
 cases ha:z.cps.all (· < 128)
 ·refine wpAny_pyIter_wide ha ?_;exact⟨s1.heap.objs.size,[s1.heap.objs.size],_,_,H1,rfl,I1.kept (t':=s1.toks) λb o e=>Heap.get?_push_of_some _ e,
   zhN (n:= "str_iterator") (t:=t) (by decide) (λA' hA=>Walks.strWide hA _ z t) (λA' s Q E i hA st hi hQ=>wpAny_pyNext_wide_end hA st (by simpa using hi) λh' he'=>hQ h' λb o hb e=>he' b o hb e) (λA' s Q E i st hQ=>wpAny_pyIter_striter_wide st hQ),
   ⟨_,Heap.get?_push_size _ rfl,rfl,rfl⟩,fp,q⟩
 ·refine wpAny_pyIter_ascii ha ?_;exact⟨s1.heap.objs.size,[s1.heap.objs.size],_,_,H1,rfl,I1.kept (t':=s1.toks) λb o e=>Heap.get?_push_of_some _ e,
   zhN (n:= "str_ascii_iterator") (t:=t) (by decide) (λA' hA=>Walks.strAscii hA _ z t) (λA' s Q E i hA st hi hQ=>wpAny_pyNext_ascii_end hA st (by simpa using hi) λh' he'=>hQ h' λb o hb e=>he' b o hb e) (λA' s Q E i st hQ=>wpAny_pyIter_striter_ascii st hQ),
   ⟨_,Heap.get?_push_size _ rfl,rfl,rfl⟩,fp,q⟩
theorem zgL {z:Str}{g:TG}{tb:TS}{D:Ends}{σ:St}{H:Hp}(Pv:Nat->St->Hp->Prop)(h0:Pv 0 σ H)
  (hs:∀i c σ H,z.cps[i]? =some c->Pv i σ H->g (.str ⟨#[c]⟩) σ H fun σ2 H2=>tb {D with nx:=Pv (i+1),ct:=Pv (i+1),bk:=D.nx} σ2 H2) (hd:∀σ H,Pv z.cps.size σ H->D.nx σ H):
  ∃W:Nat->Nat->St->Hp->Prop,(∃m,W 0 m σ H)/\∀i m σ H,W i m σ H->
   ((Its z).stop i H/\D.nx σ H)\/((Its z).go i H/\∃N:St->Hp->Prop,(∀σ' H',N σ' H'->∃m',m' < m/\W (i+1) m' σ' H')/\∀x H',(Its z).yld i H x H'->g x σ H' fun σ2 H2=>tb {D with nx:=N,ct:=N,bk:=D.nx} σ2 H2):=by
 refine⟨λi m σ H=>m=z.cps.size - i/\i<=z.cps.size/\Pv i σ H,⟨z.cps.size,by simp,Nat.zero_le _,h0⟩,?_⟩;rintro i m σ H ⟨rfl,hi,p⟩;by_cases hlt:i < z.cps.size
 ·refine .inr ⟨hlt,Pv (i+1),fun σ' H' p'=>⟨z.cps.size - (i+1),by omega,rfl,hlt,p'⟩,λx H' y=>?_⟩;obtain⟨e,c,ec,ex⟩:=y;subst e ex;exact hs i c σ _ ec p
 ·have e:i=z.cps.size:=by omega
  subst e;exact .inl ⟨Jb _,hd σ H p⟩
noncomputable def Itrs (lo st:Int)(n:Nat):It:=⟨λi _=>i < n,λi H x H'=>H'=H/\x=.int (lo+i * st),λi _=>n<=i⟩
theorem zhY {P:Program}{w:World}{K:QA}{tg:Expr}(it:Addr)(lo st:Int)(n:Nat):Turn P w K tg (Itrs lo st n) [it] it (λi h=>IsRangeIter h it (lo+(i:Nat) * st) ((n:Int) - (i:Nat)) st) where
 mem:=by simp
 obj:=λi h st b hb=>by
  have e:b=it:=by simpa using hb
  subst e;exact⟨_,st,λv z=>by
   have z':Data.fields _=Data.cell v:=z;cases z'⟩
 keep:=λi h h' st k=>k it (by simp) _ st
 item:=by intro X hP hw hK hc i pins s σ H E I hf st' hg;subst hP hw hK;obtain⟨f0,f1,f2,f3,f4,f5⟩:=hf it (by simp);have W:=Walks.range (prog:=X.prog) (w:=X.w) (I.ok.hd hc) it lo st n;refine W.item i s _ _ hg st' λv h' tk hv st'' kk=>?_;obtain⟨t,rfl⟩:=hv;have I1:Inv X pins σ H {s with heap:=h',toks:=tk}:=I.turned (λb o hb e=>kk b o (by simpa using hb) e) f0 f1 f3 f4 f5;exact⟨_,rfl,zft (s:={s with heap:=h',toks:=tk}) (n:= "range_iterator") st'' rfl rfl (by decide) ⟨.int (lo+i * st),H,I1,⟨t,rfl⟩,⟨rfl,rfl⟩,st'',λb hb=>(hf b hb).1⟩⟩
 done:=by intro X hP hw hK hc i pins s σ H E I hf st' hg;subst hP hw hK;obtain⟨f0,f1,f2,f3,f4,f5⟩:=hf it (by simp);exact wpAny_pyNext_range_end (I.ok.hd hc) st' (by have:n<=i:=hg;omega) λh' eb=>⟨rfl,I.turned (t':=s.toks) (λb o hb e=>eb b o hb e) f0 f1 f3 f4 f5⟩
 self:=λ_ _ _ _ _ st h=>wpAny_pyIter_rangeiter st h
noncomputable def zr2 (ta:TA):TI:=fun σ H R=>ta σ H λvs H1=>∃j c:Int,vs=[.int 0,.int j,.int c]/\0<=j/\j < 2 ^ 60/\0 < c/\c < 1000/\R (Itrs 0 c ((j+c - 1) / c).toNat) H1
theorem zeE {j c:Int}(h0:0<=j)(hc:0 < c):Builtin.Range.rangeSize 0 j c=(j+c - 1) / c:=by
 unfold Builtin.Range.rangeSize;rw[if_pos hc];by_cases h:(0:Int) < j
 ·rw[if_pos h];have e:j+c - 1=(j - 0 - 1)+c * 1:=by omega
  rw[e,Int.add_mul_ediv_left _ _ (by omega)]
 ·rw[if_neg h];have e:j=0:=by omega
  subst e;rw[Int.ediv_eq_zero_of_lt (by omega) (by omega)]
theorem vals3 {x y z:V}{us:QN}(r:Vals [x,y,z] us):∃u v w',us=[u,v,w']/\RelV x u/\RelV y v/\RelV z w':=by
 cases r with
 | cons r1 r=>cases r with
  | cons r2 r=>cases r with
   | cons r3 r=>cases r;exact⟨_,_,_,rfl,r1,r2,r3⟩
theorem zhc {j c:Int}(h0:0<=j)(h1:j < 2 ^ 60)(hc:0 < c)(hc2:c < 1000):Builtin.Range.small 0 j c=true:=by have b1:(j+c - 1) / c<=j+c - 1:=Int.ediv_le_self _ (by omega);have b2:0<=(j+c - 1) / c:=Int.ediv_nonneg (by omega) (by omega);unfold Builtin.Range.small;rw[zeE h0 hc];simp only[Builtin.Range.rangeFitsLong,Bool.and_eq_true,Bool.or_eq_true,decide_eq_true_eq,beq_iff_eq];generalize(j+c - 1) / c=d at b1 b2 ⊢;have hc':c > 0:=hc;simp only[hc',if_true,Bool.and_eq_true,decide_eq_true_eq];omega
theorem zfK {tg a b c:Expr}{ta:TA}{p pos:Pos}(hg:Gl X "range") (hm:X.mg "range" =none) (ha:PA X [a,b,c] ta) (hs:starEach [a,b,c] X.env=[(false,eval a X.env),(false,eval b X.env),(false,eval c X.env)]:=by rfl)
  (hs2:starEach [b,c] X.env=[(false,eval b X.env),(false,eval c X.env)]:=by rfl):PI X tg (.Call (.Name "range" p) [a,b,c] [] pos) (zr2 ta):=by
 intro pins s σ H R I h;refine Call_ (zbj I hg hm boot_range (PyProof.Rows.callWith_type1 (thn (ha pos pins s σ H _ I h) λus s1 ⟨vs,H1,I1,r1,q1⟩=>?_) (by rw[hs,hs2]) (by rw[hs2];rfl)));obtain⟨j,c,rfl,h0,h1,hc,hc2,q⟩:=q1;obtain⟨u,v,w',rfl,⟨t1,rfl⟩,⟨t2,rfl⟩,⟨t3,rfl⟩⟩:=vals3 r1;refine call_range_3 (by omega) ?_ (.inl (PyProof.noPylong_small (by omega)));refine wpAny_pyIter_range (IsRange.new ..) (zhc h0 h1 hc hc2) ?_;have I2:Inv X pins σ H1 {s1 with heap:=s1.heap.push {cls:=.type "range",data:=.fields #[.int 0 t1,.int j t2,.int c t3]}}:=I1.kept (t':=s1.toks) λb o e=>Heap.get?_push_of_some _ e;refine⟨_,[_],_,_,H1,rfl,I2.kept (t':=s1.toks) λb o e=>Heap.get?_push_of_some _ e,zhY _ 0 c ((j+c - 1) / c).toNat,?_,λb hb=>?_,q⟩
 ·have b2:0<=(j+c - 1) / c:=Int.ediv_nonneg (by omega) (by omega);have e1:(0:Int)+((0:Nat):Int) * c=0:=by simp
  have e2:(((((j+c - 1) / c).toNat:Nat):Int) - ((0:Nat):Int))=Builtin.Range.rangeSize 0 j c:=by rw[zeE h0 hc];omega
  show IsRangeIter _ _ ((0:Int)+((0:Nat):Int) * c) (((((j+c - 1) / c).toNat:Nat):Int) - ((0:Nat):Int)) c;rw[e1,e2];exact Heap.get?_push_size _ rfl
 ·have e:=List.mem_singleton.mp hb;subst e;exact I2.fpOk (Jb _) (I2.hok.fresh (Jb _))
theorem zdT (ns:List Int):∀n,n<=ns.length->PySem.preSum (λi=>ns[i]?.getD 0) n=(ns.take n).sum
 | 0,_=>rfl
 | n+1,h=>by have hn:n < ns.length:=h;rw[PySem.preSum,zdT ns n (Nat.le_of_lt h),List.take_add_one,List.getElem?_eq_getElem hn,List.sum_append];simp
theorem zk4 (hc:X.calm=true):z9 X (.builtin "sum") (λxs H Q=>∃(p:Addr) (ns:List Int),xs=[.ref p]/\SqL X.K H p (ns.map V.int)/\Q (.int ns.sum) H):=by
 intro pins s σ H xs us Q I r h;obtain⟨p,ns,rfl,hp,q⟩:=h;obtain⟨u,rfl,ru⟩:=vals1 r;cases (show u=Value.ref p from ru);obtain⟨its,rv,pl,hz⟩:=I.list hp;refine call_sum_walkG (wpAny_pyIter_list pl.isList ?_);have plt:p < s.heap.objs.size:=by obtain⟨o,e,_⟩:=pl.isList;exact Heap.lt_size e
 have hne:p≠s.heap.objs.size:=Jg plt;refine⟨s.heap.objs.size,[s.heap.objs.size,p],[s.heap.objs.size],its.toArray.size,_,_,λi=>ns[i]?.getD 0,rfl,Walks.list (A:=X.A.in1) (show X.A.in1.handled=none from I.ok.hd hc) s.heap.objs.size p hne its.toArray,⟨⟨_,Heap.get?_push_size _ rfl,rfl,rfl⟩,pl.isList.at λo e=>Heap.get?_push_of_some _ e⟩,λb hb=>?_,λi v hv=>?_,λh' tk t' hk=>?_⟩
 ·rw[Heap.size_push];rcases List.mem_cons.mp hb with rfl | hb
  ·exact Jm _
  ·cases List.mem_singleton.mp hb;exact Jt plt
 ·have hv':its[i]? =some v:=by simpa using hv
  have hx:(ns.map V.int)[i]? =some (V.int (ns[i]?.getD 0)):=by
   have hi:i < its.length:=(List.getElem?_eq_some_iff.mp hv').1;have hl:=rv.length;rw[List.length_map] at hl;rw[List.getElem?_map,List.getElem?_eq_getElem (by omega)]
   rfl
  obtain⟨u,hu,⟨t,rfl⟩⟩:=rv.get hx;rw[hv'] at hu;cases hu;exact⟨t,rfl⟩
 ·have hl:=rv.length;rw[List.length_map] at hl;have e:its.toArray.size=ns.length:=by rw[List.size_toArray];omega
  rw[e,zdT ns _ (Jb _),List.take_length];exact⟨.int ns.sum,H,I.kept λb o eb=>hk b o (λz=>by
   have e:=List.mem_singleton.mp z;have l:=Heap.lt_size eb;rw[e] at l;exact Jp _ l) (Heap.get?_push_of_some _ eb),⟨_,rfl⟩,q⟩
end
end L2
namespace L2
open PySem PySem.Spec PyProof.Rows
noncomputable def cutS (x:Str)(lo hi:Option Int):Str:=⟨((x.cps.toList.drop (HT.sIx x.length 0 lo)).take (HT.sIx x.length x.length hi - HT.sIx x.length 0 lo)).toArray⟩
noncomputable abbrev _root_.Jl:=@List.take_of_length_le
theorem zlA (l:List Nat)(i k:Nat):(List.range k).filterMap (λm=>l[i+m]?)=(l.drop i).take k:=by
 induction k with
 | zero=>simp
 | succ k ih=>
  rw[List.range_succ,List.filterMap_append,ih];by_cases h:i+k < l.length
  ·have e:l[i+k]? =some l[i+k]:=List.getElem?_eq_getElem h;rw[List.take_add_one];simp[List.getElem?_drop,e]
  ·have e:l[i+k]? =none:=List.getElem?_eq_none (by omega);have e2:((l.drop i).take (k+1))=(l.drop i).take k:=by rw[Jl (by rw[List.length_drop];omega),Jl (by rw[List.length_drop];omega)]
   rw[e2];simp[e]
theorem zjl (lo hi:Option Int)(n:Nat):Builtin.Str.strSliceIndices lo hi 1 n=(List.range (HT.sIx n n hi - HT.sIx n 0 lo)).map λk=>HT.sIx n 0 lo+k:=by
 have c0:∀(v:Int) (d:Nat),(max 0 (min (if v < 0 then v+(n:Int) else v) (n:Int)))=((HT.sIx n d (some v):Nat):Int):=λv d=>by
  rw[<-HT.clip_eq v n d];by_cases h:v < 0
  ·simp only[if_pos h];omega
  ·simp only[if_neg h];omega
 have key:∀a b:Nat,sliceRange (a:Int) (b:Int) 1=(List.range (b - a)).map λk=>a+k:=λa b=>by
  unfold sliceRange;have e1:(if (1:Int) > 0 then(if (a:Int) < (b:Int) then((b:Int) - (a:Int)+1 - 1) / 1 else 0) else(if (a:Int) > (b:Int) then((a:Int) - (b:Int) - 1 - 1) / (-1) else 0)).toNat=b - a:=by
   rw[if_pos (by decide)];split
   ·rw[Int.ediv_one];omega
   ·omega
  show List.map _ (List.range (if (1:Int) > 0 then(if (a:Int) < (b:Int) then((b:Int) - (a:Int)+1 - 1) / 1 else 0) else(if (a:Int) > (b:Int) then((a:Int) - (b:Int) - 1 - 1) / (-1) else 0)).toNat)=_;rw[e1];refine List.map_congr_left λk _=>?_;show((a:Int)+1 * (k:Int)).toNat=a+k;omega
 unfold Builtin.Str.strSliceIndices;simp only[show(1:Int) > 0 by decide,if_true];cases lo with
 | none=>
  cases hi with
  | none=>exact key 0 n
  | some v=>dsimp only;rw[c0 v n];exact key 0 _
 | some u=>
  cases hi with
  | none=>dsimp only;rw[c0 u 0];exact key _ n
  | some v=>dsimp only;rw[c0 u 0,c0 v n];exact key _ _
theorem zkJ (x:Str)(lo hi:Option Int):Txt.slice x lo hi=cutS x lo hi:=by
 have h1:=HT.sIx_le x.length 0 (Nat.zero_le _) lo;have h2:=HT.sIx_le x.length x.length (Jb _) hi;have hn:x.cps.toList.length=x.length:=Array.length_toList;have e:((Builtin.Str.strSliceIndices lo hi 1 x.length).filterMap (x.cps[·]?))=(x.cps.toList.drop (HT.sIx x.length 0 lo)).take (HT.sIx x.length x.length hi - HT.sIx x.length 0 lo):=by rw[zjl,List.filterMap_map,<-zlA];refine congrArg (λf=>List.filterMap f _) ?_;funext m;show x.cps[_]? =x.cps.toList[_]?;rw[Array.getElem?_toList]
 unfold Txt.slice cutS;split
 ·rename_i h;have hl:(Builtin.Str.strSliceIndices lo hi 1 x.length).length=x.length:=by simpa using h
  rw[zjl,List.length_map,List.length_range] at hl;have a0:HT.sIx x.length 0 lo=0\/x.length=0:=by omega
  rcases a0 with a0 | a0
  ·rw[a0,List.drop_zero,Nat.sub_zero,Jl (by omega)]
  ·have en:x.cps.toList=[]:=List.eq_nil_of_length_eq_zero (by omega);rw[en,List.drop_nil,List.take_nil];have:x.cps= #[]:=by rw[<-Array.toList_inj];exact en
   rcases x with ⟨c⟩;rw[show c= #[] from this]
 ·rw[e]
section
variable {X:Cx}
noncomputable def rSlS:V->Option Int->Option Int->Hp->VK->Prop:=λx lo hi H Q=>∃z,x=.str z/\z.length<=sizeLine/\Q (.str (cutS z lo hi)) H
theorem zqc:SlR X rSlS:=by
 intro pins s σ H x v vl vu lo hi sl Q I rx hs pl pu h;obtain⟨z,rfl,hz,q⟩:=h;obtain⟨t,rfl⟩:=rx;refine⟨"str",_,F.slot_str_getitem.lookup,typeIs_str _ _ _,?_⟩;have main:∀(l u:Option (Int ×Tok)),vl=partValue l->vu=partValue u->lo=l.map (·.1)->hi=u.map (·.1)->wpAny (model X.prog X.w) X.A (getItem (.str z t) (.ref sl)) (EP X pins σ Q) X.xe s:=λl u e1 e2 e3 e4=>by subst e1 e2 e3 e4;refine wpAny_getItem_str_slice (l:=l) (u:=u) (st:=none) hs rfl (post_val_or_str ⟨Ji (Txt.slice_le z _ _) hz,λt' k=>?_⟩);show EP X pins σ Q (.str (Txt.slice z (l.map (·.1)) (u.map (·.1))) t') _;rw[zkJ];exact⟨.str _,H,I.tok k,⟨_,rfl⟩,q⟩
 cases pl with
 | none=>
  cases pu with
  | none=>exact main none none rfl rfl rfl rfl
  | int j u=>exact main none (some (j,u)) rfl rfl rfl rfl
 | int i t'=>
  cases pu with
  | none=>exact main (some (i,t')) none rfl rfl rfl rfl
  | int j u=>exact main (some (i,t')) (some (j,u)) rfl rfl rfl rfl
end
end L2
namespace L2
open PySem PySem.Spec PyProof.Rows
structure Dfn (K:QA)(mg:QB)(x:Str)(st:Stmt)(ps:QP):Prop where
 ex:∃f fd,Fun K x x st f fd/\Binds K fd ps []/\mg x=some (.ref f)
structure Fn (P:Program)(w:World)(K:QA)(mg:QB)(base:Heap)(x:Str)(k:Nat)(ps:QP)(sp:Sp):Prop where
 ex:∃f fd,FnOk P w K mg base CX0 k f fd ps sp/\Binds K fd ps []/\PySem.W.keepIn K (.ref f)=true/\mg x=some (.ref f)
section
variable {P:Program}{w:World}{K:QA}{mg:QB}{base:Heap}{x:Str}{st:Stmt}{ps N:QP}{sp sp':Sp}{k:Nat}
noncomputable abbrev Bd0 (P:Program)(w:World)(K:QA)(mg:QB)(base:Heap)(N:QP)(q:Str)(st:Stmt)(k:Nat)(sp:Sp):Prop:=∀(f:Addr) (cdv:Value) (A:Around) (outer:List Env) (s:Shared) (H:Hp) (vs:QQ) (Q:VK) (E:XK),Room k (A.deeper (envOfC q (zr st) s.heap.objs.size f cdv))->sp vs H Q E->
 ∃t,PSs (cxOf CX0 P w K mg base N q (zr st) f cdv A outer s H E).nox (zI st) t/\t {nx:=λ_ H'=>Q .non H',rt:=Q} (start N vs) H
theorem Dfn.ok (D:Dfn K mg x st ps)(S:zaE N ps (zr st))(hbody:Bd0 P w K mg base N x st k sp)
  (len:∀vs H Q E,sp vs H Q E->vs.length=ps.length:=by intro vs H Q E h;cases h;subst_vars;rfl):Fn P w K mg base x (k+1) ps sp:=by
 obtain⟨f,fd,F,b,m⟩:=D.ex;exact⟨f,fd,F.ok S len (λcdv A outer s H vs Q E hr h=>hbody f cdv A outer s H vs Q E hr h),b,F.kp,m⟩
theorem Dfn.never (D:Dfn K mg x st ps)(no:∀vs H Q E,¬sp vs H Q E):Fn P w K mg base x k ps sp:=by obtain⟨f,fd,F,b,m⟩:=D.ex;exact⟨f,fd,⟨λvs H Q E h=>Je h (no vs H Q E),λA outer s H args us vs Q E _ _ _ _ h=>Je h (no vs H Q E)⟩,b,F.kp,m⟩
end
section
variable {X:Cx}{x:Str}{ps:QP}{sp:Sp}{k k':Nat}{e:Expr}{es:List Expr}{t:TA}{p pos:Pos}
theorem zpy (F:Fn X.prog X.w X.K X.mg X.base x k ps sp)(hr:Room k' X.A)(ha:PA X (e::es) t)(hle:k<=k':=by omega)(hg:Gl X x:=by rfl)(hd:(x==("__debug__" :Str))=false:=by decide)
  (he:starEach (e::es) X.env=(false,eval e X.env)::starEach es X.env:=by rfl) (hpl:∀pos,(backTo pos (starEach es X.env)).any (·.1)=false:=by intro _;rfl):PE X (.Call (.Name x p) (e::es) [] pos) (zlq sp [] E0 t):=by
 obtain⟨f,fd,a,b,kp,m⟩:=F.ex;exact zjw a (hr.mono hle) hg m kp b .nil zlP ha hd he (hpl _)
end
section
variable {X:Cx}
end
end L2
namespace Pv
open PySem L2
inductive Th where
 | non
 | int (i:Int)
 | str (x:Str)
 | tup (ts:List Th)
mutual
noncomputable def nodes:Th->Nat
 | .non=>1
 | .int _=>1
 | .str _=>1
 | .tup ts=>1+za2 ts
noncomputable def za2:List Th->Nat
 | []=>0
 | t::r=>nodes t+za2 r
end
mutual
noncomputable def dep:Th->Nat
 | .non=>0
 | .int _=>0
 | .str _=>0
 | .tup ts=>depL ts+1
noncomputable def depL:List Th->Nat
 | []=>0
 | t::r=>max (dep t) (depL r)
end
noncomputable def Sign (c:Nat):Prop:=32<=c/\c<=126/\c≠37
noncomputable def zpI (x:Str):Prop:=x.length<=60/\∀c∈x.cps.toList,Sign c
mutual
noncomputable def Wf:Th->Prop
 | .non=>True
 | .int i=> -(10 ^ 30)<=i/\i<=10 ^ 30
 | .str x=>zpI x
 | .tup ts=>ts.length<=40/\WfL ts
noncomputable def WfL:List Th->Prop
 | []=>True
 | t::r=>Wf t/\WfL r
end
theorem WfL.get:∀{ts:List Th} {i:Nat} {t:Th},WfL ts->ts[i]? =some t->Wf t
 | [],_,_,_,e=>by simp at e
 | u::r,0,t,h,e=>by simp at e;subst e;exact h.1
 | u::r,i+1,t,h,e=>WfL.get (i:=i) h.2 (by simpa using e)
theorem zb6:∀{ts:List Th} {i:Nat} {t:Th},ts[i]? =some t->dep t<=depL ts
 | [],_,_,e=>by simp at e
 | u::r,0,t,e=>by simp at e;subst e;exact Nat.le_max_left _ _
 | u::r,i+1,t,e=>Ji (zb6 (i:=i) (by simpa using e)) (Nat.le_max_right _ _)
inductive Rep (H:Hp):Th->V->Prop where
 | non:Rep H .non .non
 | int (i:Int):Rep H (.int i) (.int i)
 | str (x:Str):Rep H (.str x) (.str x)
 | tup {a:Addr} {xs:QQ} {ts:List Th} (e:H a=some (.tup xs)) (l:xs.length=ts.length) (h:∀(i:Nat) (x:V) (t:Th),xs[i]? =some x->ts[i]? =some t->Rep H t x):Rep H (.tup ts) (.ref a)
noncomputable def Tups (H H':Hp):Prop:=∀b xs,H b=some (.tup xs)->H' b=some (.tup xs)
theorem Rep.keep {H H':Hp}{t:Th}{v:V}(r:Rep H t v)(k:Tups H H'):Rep H' t v:=by
 induction r with
 | non=>exact .non
 | int i=>exact .int i
 | str x=>exact .str x
 | tup e l h ih=>exact .tup (k _ _ e) l ih
noncomputable def Frm (ws:QO)(H H':Hp):Prop:=∀b o,b∉ws->H b=some o->H' b=some o
theorem Frm.refl {ws:QO}{H:Hp}:Frm ws H H:=λ_ _ _ h=>h
theorem Frm.trans {ws:QO}{H H1 H2:Hp}(a:Frm ws H H1)(b:Frm ws H1 H2):Frm ws H H2:=λc o n h=>b c o n (a c o n h)
theorem Frm.new {ws:QO}{H:Hp}{p:Addr}{o:HO}(h:H p=none):Frm ws H (upd H p o):=λb u _ q=>by rw[zf (zg q h)];exact q
theorem Frm.upd {ws:QO}{H:Hp}{p:Addr}{o:HO}(h:p∈ws):Frm ws H (upd H p o):=λb u n q=>by rw[zf (λz=>n (by rw[z];exact h))];exact q
theorem Frm.same {H H':Hp}(a:Frm [] H H'):Same H H':=λb o h=>a b o (by simp) h
theorem Frm.of {ws:QO}{H H':Hp}(a:Same H H'):Frm ws H H':=λb o _ h=>a b o h
theorem Frm.at {ws:QO}{H H':Hp}{b:Addr}{o:HO}(a:Frm ws H H')(h:H b=some o)(n:b∉ws):H' b=some o:=a b o n h
theorem Same.tups {H H':Hp}(a:Same H H'):Tups H H':=λb xs e=>a b _ e
theorem Tups.trans {H H1 H2:Hp}(a:Tups H H1)(b:Tups H1 H2):Tups H H2:=λc xs e=>b c xs (a c xs e)
theorem Tups.upd {H:Hp}{p:Addr}{o:HO}(h:∀xs,H p≠some (.tup xs)):Tups H (upd H p o):=λb xs e=>by rw[zf (λz=>h xs (by rw[<-z];exact e))];exact e
theorem Tups.new {H:Hp}{p:Addr}{o:HO}(h:H p=none):Tups H (L2.upd H p o):=Tups.upd λxs e=>by rw[h] at e;cases e
end Pv
namespace L2
open PySem PySem.Spec PyProof.Rows
section
variable {X:Cx}{x y:Str}{scope:Scope}{j:Nat}{c:Addr}
theorem zdG {env:Env}{p:Str ×NameKind}(h:p∈(relabel scope env).names):∃q∈scope.names,p.1=q.1/\(p=q\/q.2=.free):=by
 obtain⟨q,hq,e⟩:=List.mem_map.mp h;obtain⟨n,k⟩:=q;refine⟨(n,k),hq,?_⟩;dsimp only at e;split at e
 ·rename_i hc;subst e;refine⟨rfl,.inr ?_⟩;have:=(Bool.and_eq_true _ _).mp ((Bool.and_eq_true _ _).mp hc).1;simpa using this.1
 ·subst e;exact⟨rfl,.inl rfl⟩
theorem zt.zero (kind:scope.kind=.function)(nf:∀y∈scope.names,y.2≠ .free)(nc:∀y∈scope.names,y.2≠ .cell)(nm:∀y∈scope.names,y.2=.local->scope.names.lookup y.1=some .local)(tgt:scope.names.lookup x=some .local):
  zt X x [] [] scope [] where
 clos:=closureFor_none nf
 kind:=kind
 nocell:=nc
 names:=nm
 tgt:=tgt
 nd:=by simp
 sub:=λp hp=>by simp at hp
 has:=λp hp hk=>by
  obtain⟨q,hq,e,h | h⟩:=zdG hp
  ·subst h;rcases hk with hk | hk
   ·exact Je hk (nc _ hq)
   ·exact Je hk (nf _ hq)
  ·exact Je h (nf _ hq)
 fr:=λi y e=>by simp at e
 len:=rfl
theorem zt.one (clos:closureFor scope X.env=pure [(y,c)])(kind:scope.kind=.function)(nc:∀y∈scope.names,y.2≠ .cell)(nm:∀y∈scope.names,y.2=.local->scope.names.lookup y.1=some .local)(tgt:scope.names.lookup x=some .local)
  (ne:x≠y) (cell:X.env.cells.lookup y=some c) (only:∀q∈scope.names,q.2=.free->q.1=y) (hN:X.N[j]? =some y) (hk:X.env.kindOf y=some .cell\/X.env.kindOf y=some .free)
  (hk':(relabel scope X.env).names.lookup y=some .cell\/(relabel scope X.env).names.lookup y=some .free):zt X x [y] [j] scope [(y,c)] where
 clos:=clos
 kind:=kind
 nocell:=nc
 names:=nm
 tgt:=tgt
 nd:=by simp[ne]
 sub:=λp hp=>by cases List.mem_singleton.mp hp;exact cell
 has:=λp hp hk=>by
  obtain⟨q,hq,e,h | h⟩:=zdG hp
  ·subst h;rcases hk with hk | hk
   ·exact Je hk (nc _ hq)
   ·simp[only _ hq hk]
  ·simp[e,only _ hq h]
 fr:=λi z e=>by
  cases i with
  | zero=>cases e;exact⟨j,rfl,hN,hk,hk'⟩
  | succ i=>simp at e
 len:=rfl
end
theorem ifT {c:Bool}{A B:Prop}(h:c=true)(a:A):if c=true then A else B:=by rw[if_pos h];exact a
theorem ifF {c:Bool}{A B:Prop}(h:c=false)(b:B):if c=true then A else B:=by rw[if_neg (by rw[h];exact Jc)];exact b
theorem ifB {c:Bool}{A B:Prop}(a:c=true->A)(b:c=false->B):if c=true then A else B:=by
 cases c with
 | true=>exact ifT rfl (a rfl)
 | false=>exact ifF rfl (b rfl)
theorem zai {i j:Int}:decide (V.int i=V.int j)=decide (i=j):=by
 by_cases h:i=j
 ·subst h;simp
 ·rw[decide_eq_false h];exact decide_eq_false λz=>h (V.int.inj z)
end L2
namespace L2
open PySem PySem.Spec PyProof.Rows
section
variable {X:Cx}{K:QA}
theorem zoK (h:X.K=K):IxR X (rIxT K):=h ▸ zcG
theorem zgB (h:X.K=K):z9 X (.builtin "isinstance") (zpO K):=h ▸ zJ
end
end L2
namespace L2
open PySem PySem.Spec PyProof.Rows
section
variable {X:Cx}{x:Str}{ps:QP}{sp:Sp}{k k':Nat}{p pos:Pos}
end
end L2
namespace L2
open PySem PySem.Spec PyProof.Rows Px
structure FnX (P:Program)(w:World)(K:QA)(mg:QB)(base:Heap)(x:Str)(k:Nat)(ps:QP)(sp:Sp):Prop where
 ex:∃f fd,FnOk P w K mg base (CX1 P w) k f fd ps sp/\Binds K fd ps []/\PySem.W.keepIn K (.ref f)=true/\mg x=some (.ref f)
structure Mdf (K:QA)(C:Addr)(m qual:Str)(st:Stmt)(ps:QP):Prop where
 ex:∃f fd,Fun K m qual st f fd/\Binds K fd ps []/\Meth K C m f
structure Mt (P:Program)(w:World)(K:QA)(mg:QB)(base:Heap)(CX:CXT)(C:Addr)(m:Str)(k:Nat)(ps:QP)(sp:Sp):Prop where
 ex:∃f fd,FnOk P w K mg base CX k f fd ps sp/\Binds K fd ps []/\Meth K C m f
structure Mkd (K:QA)(mg:QB)(x:Str)(C:Addr)(qual:Str)(st:Stmt)(ps:QP):Prop where
 ex:∃f fd,Fun K "__init__" qual st f fd/\Binds K fd ps []/\Mk K C f/\mg x=some (.ref C)
structure Mkr (P:Program)(w:World)(K:QA)(mg:QB)(base:Heap)(x:Str)(C:Addr)(k:Nat)(ps:QP)(sp:Sp):Prop where
 ex:∃f fd,FnOk P w K mg base CX0 k f fd ps sp/\Binds K fd ps []/\Mk K C f/\mg x=some (.ref C)
structure XId (K:QA)(mg:QB)(x:Str)(C:Addr)(qual:Str)(st:Stmt)(ps:QP):Prop where
 cl:XCls K C
 ex:∃f fd,Fun K "__init__" qual st f fd/\Binds K fd ps []/\PySem.W.findIn K (.ref C) "__init__" =some (some (.ref f))/\PySem.W.isFn K (.ref f)=true/\mg x=some (.ref C)
structure XI (P:Program)(w:World)(K:QA)(mg:QB)(base:Heap)(x:Str)(C:Addr)(k:Nat)(ps:QP)(sp:Sp):Prop where
 cl:XCls K C
 ex:∃f fd,FnOk P w K mg base CX0 k f fd ps sp/\Binds K fd ps []/\PySem.W.findIn K (.ref C) "__init__" =some (some (.ref f))/\PySem.W.isFn K (.ref f)=true/\mg x=some (.ref C)
structure XP (K:QA)(mg:QB)(x:Str)(C:Addr):Prop where
 cl:XCls K C
 ei:PySem.W.excIn K C bmV "ValueError.__new__" =true
 mg:mg x=some (.ref C)
section
variable {P:Program}{w:World}{K:QA}{mg:QB}{base:Heap}{x m qual:Str}{C:Addr}{st:Stmt}{ps N:QP}{sp sp':Sp}{k:Nat}{CX:CXT}
theorem FnX.mono {j:Nat}(F:FnX P w K mg base x j ps sp)(h:j<=k):FnX P w K mg base x k ps sp:=by obtain⟨f,fd,a,b⟩:=F.ex;exact⟨f,fd,a.mono h,b⟩
noncomputable abbrev BdX (P:Program)(w:World)(K:QA)(mg:QB)(base:Heap)(N:QP)(q:Str)(st:Stmt)(k:Nat)(sp:Sp):Prop:=∀(f:Addr) (cdv:Value) (A:Around) (outer:List Env) (s:Shared) (H:Hp) (vs:QQ) (Q:VK) (E:XK),Room k (A.deeper (envOfC q (zr st) s.heap.objs.size f cdv))->sp vs H Q E->
 ∃t,PSs (cxOf (CX1 P w) P w K mg base N q (zr st) f cdv A outer s H E) (zI st) t/\t {nx:=λ_ H'=>Q .non H',rt:=Q} (start N vs) H
theorem Dfn.okX (D:Dfn K mg x st ps)(S:zaE N ps (zr st))(hbody:BdX P w K mg base N x st k sp)
  (len:∀vs H Q E,sp vs H Q E->vs.length=ps.length:=by intro vs H Q E h;cases h;subst_vars;rfl):FnX P w K mg base x (k+1) ps sp:=by
 obtain⟨f,fd,F,b,m⟩:=D.ex;exact⟨f,fd,F.okX S len (λcdv A outer s H vs Q E hr h=>hbody f cdv A outer s H vs Q E hr h),b,F.kp,m⟩
theorem Mdf.okX (D:Mdf K C m qual st ps)(S:zaE N ps (zr st))(hbody:BdX P w K mg base N qual st k sp)
  (len:∀vs H Q E,sp vs H Q E->vs.length=ps.length:=by intro vs H Q E h;cases h;subst_vars;rfl):Mt P w K mg base (CX1 P w) C m (k+1) ps sp:=by
 obtain⟨f,fd,F,b,me⟩:=D.ex;exact⟨f,fd,F.okX S len (λcdv A outer s H vs Q E hr h=>hbody f cdv A outer s H vs Q E hr h),b,me⟩
theorem Mkd.ok (D:Mkd K mg x C qual st ps)(S:zaE N ps (zr st))(hbody:Bd0 P w K mg base N qual st k sp)
  (len:∀vs H Q E,sp vs H Q E->vs.length=ps.length:=by intro vs H Q E h;cases h;subst_vars;rfl):Mkr P w K mg base x C (k+1) ps sp:=by
 obtain⟨f,fd,F,b,mk,mm⟩:=D.ex;exact⟨f,fd,F.ok S len (λcdv A outer s H vs Q E hr h=>hbody f cdv A outer s H vs Q E hr h),b,mk,mm⟩
theorem XId.ok (D:XId K mg x C qual st ps)(S:zaE N ps (zr st))(hbody:Bd0 P w K mg base N qual st k sp)
  (len:∀vs H Q E,sp vs H Q E->vs.length=ps.length:=by intro vs H Q E h;cases h;subst_vars;rfl):XI P w K mg base x C (k+1) ps sp:=by
 obtain⟨c,f,fd,F,b,i,n,mm⟩:=D;exact⟨c,f,fd,F.ok S len (λcdv A outer s H vs Q E hr h=>hbody f cdv A outer s H vs Q E hr h),b,i,n,mm⟩
end
section
variable {X:Cx}{CX:CXT}{x m:Str}{C:Addr}{ps:QP}{sp:Sp}{k k':Nat}{e o:Expr}{es:List Expr}{ta:TE}{t:TA}{p pos apos:Pos}{E:XK}{ES:St->XK}
theorem zp8 (F:FnX X.prog X.w X.K X.mg X.base x k ps sp)(hr:Room k' X.A)(hx:zbG (CX1 X.prog X.w) X E)(ha:PA X (e::es) t)(hle:k<=k':=by omega)(hg:Gl X x:=by rfl)(hd:(x==("__debug__" :Str))=false:=by decide)
  (he:starEach (e::es) X.env=(false,eval e X.env)::starEach es X.env:=by rfl) (hpl:∀pos,(backTo pos (starEach es X.env)).any (·.1)=false:=by intro _;rfl):PE X (.Call (.Name x p) (e::es) [] pos) (zlq sp [] E t):=by
 obtain⟨f,fd,a,b,kp,m⟩:=F.ex;exact zjw a (hr.mono hle) hg m kp b .nil hx ha hd he (hpl _)
theorem zql (F:FnX X.prog X.w X.K X.mg X.base x k ps sp)(hr:Room k' X.A)(hx:zaU (CX1 X.prog X.w) X ES)(ha:PA X (e::es) t)(hle:k<=k':=by omega)(hg:Gl X x:=by rfl)(hd:(x==("__debug__" :Str))=false:=by decide)
  (he:starEach (e::es) X.env=(false,eval e X.env)::starEach es X.env:=by rfl) (hpl:∀pos,(backTo pos (starEach es X.env)).any (·.1)=false:=by intro _;rfl):PE X (.Call (.Name x p) (e::es) [] pos) (zlS sp ES t):=by
 obtain⟨f,fd,a,b,kp,m⟩:=F.ex;exact zlU a (hr.mono hle) hg m kp b hx ha hd he (hpl _)
theorem zr1 {pl:Sem Bool}(he:PE X o ta)(c:Cls X.K C)(M:Mt X.prog X.w X.K X.mg X.base CX C m k ps sp)(hr:Room k' X.A)(hle:k<=k')(hx:zbG CX X E)(ha:PA X (e::es) t)
  (hst:starEach (e::es) X.env=(false,eval e X.env)::starEach es X.env:=by rfl) (hpl:∀pos,(backTo pos (starEach es X.env)).any (·.1)=false:=by intro _;rfl)
  (ht:eval (.Call (.Attribute o m apos) (e::es) [] pos) X.env=(do
   let ov<-eval o X.env
   standAt apos.atName
   let (f,first) <-holding [ov] (getMethod ov m pl)
   callWith pos f first (backTo pos (starEach (e::es) X.env)) (backToKw pos (keywordEach [] X.env))):=by rfl):
  PE X (.Call (.Attribute o m apos) (e::es) [] pos) (zpK C m sp [] E ta t):=by
 obtain⟨f,fd,a,b,me⟩:=M.ex;exact znX he c me a (hr.mono hle) b .nil hx ha hst (hpl _) ht
theorem znP (M:Mkr X.prog X.w X.K X.mg X.base x C k ps sp)(hr:Room k' X.A)(hle:k+1<=k':=by omega)(hg:Gl X x:=by rfl)(hd:(x==("__debug__" :Str))=false:=by decide):PE X (.Call (.Name x p) [] [] pos) (zpB C sp [] E0 tNil):=by obtain⟨f,fd,a,b,mk,mm⟩:=M.ex;exact zmn mk a (hr.mono hle) hg mm b .nil zlP hd
theorem zrR (M:XI X.prog X.w X.K X.mg X.base x C k ps sp)(hr:Room k' X.A)(ha:PA X (e::es) t)(hle:k+1<=k':=by omega)(hg:Gl X x:=by rfl)(hd:(x==("__debug__" :Str))=false:=by decide)
  (he:starEach (e::es) X.env=(false,eval e X.env)::starEach es X.env:=by rfl) (hpl:∀pos,(backTo pos (starEach es X.env)).any (·.1)=false:=by intro _;rfl):PE X (.Call (.Name x p) (e::es) [] pos) (zpP C sp t):=by
 obtain⟨c,f,fd,a,b,i,n,mm⟩:=M;exact zoo c i n a (hr.mono hle) b hg mm ha hd he (hpl _)
theorem zrM (M:XP X.K X.mg x C)(hg:Gl X x)(ha:PA X (e::es) t)(hd:(x==("__debug__" :Str))=false:=by decide)
  (he:starEach (e::es) X.env=(false,eval e X.env)::starEach es X.env:=by rfl) (hpl:∀pos,(backTo pos (starEach es X.env)).any (·.1)=false:=by intro _;rfl):PE X (.Call (.Name x p) (e::es) [] pos) (tExc C t):=
 zqf M.cl M.ei hg M.mg ha hd he (hpl _)
end
end L2
namespace L2
open PySem PySem.Spec PyProof.Rows
section
variable {P:Program}{W:World}{A:Around}{E:QC}{z:Shared}
theorem zfa {j t:Addr}{n:Nat}{us:Array Value}{v:Value}{Q:QC}(hj:z.heap.IsTupleIter j t n)(ht:z.heap.IsTuple t us)(hv:us[n]? =some v)
  (q:∀g,g.IsTupleIter j t (n+1)->Heap.SameBut j z.heap g->Q v {z with heap:=g}):wpAny (model P W) A (Builtin.SmallTypes.nextOf (.ref j)) Q E z:=by
 obtain⟨oj,ej,cj,dj⟩:=id hj;obtain⟨ot,et,_,nt,dt⟩:=ht;unfold Builtin.SmallTypes.nextOf;refine Ja (wpAny_callSpecial?_slot (name:=Str.ofString "__next__") hj.typeIs F.slot_tuple_iterator_next (wpAny_call_entry F.slot_tuple_iterator_next hj.typeIs F.entry_tuple_iterator_next ?_ (F.args_tuple_iterator_next_1 _)));show wpAny _ _ (field (.ref j) 0 >>=_) _ _ z;refine Ja (wpAny_field ej dj (x:=.ref t) rfl ?_);show wpAny _ _ (if (Value.ref t==Value.none)=true then _ else _) _ _ z;rw[if_neg (show¬((Value.ref t==Value.none)=true) from Jc)];show wpAny _ _ (field (.ref j) 1 >>=_) _ _ z;refine Ja (wpAny_field ej dj (x:=.int n 0) rfl ?_);show wpAny _ _ (seqItems? (.ref t) >>=_) _ _ z;refine Ja (wpAny_seqItems et dt ?_);simp only[Int.toNat_natCast,hv];refine Ja (wpAny_setField ej dj (by simp) (wpAny_pure ⟨v,rfl,wpAny_pure (q _ ⟨_,Heap.get?_update_self _ ej (Obj.isFreed_of_fields (Obj.data_mapFields dj _)),(Obj.cls_mapFields ..).trans cj,by rw[Obj.data_mapFields dj];simp[rawInt]⟩ (Heap.SameBut.update ..))⟩))
theorem zg9 {j t:Addr}{n:Nat}{us:Array Value}{Q:QC}(hh:A.handled=none)(hj:z.heap.IsTupleIter j t n)(ht:z.heap.IsTuple t us)(hv:us[n]? =none)
  (q:∀g e,Heap.ExtBut j z.heap g->(∃o,g.get? e=some o/\o.cls=.type "StopIteration")->E (.ref e) {z with heap:=g}):wpAny (model P W) A (Builtin.SmallTypes.nextOf (.ref j)) Q E z:=by
 obtain⟨oj,ej,cj,dj⟩:=id hj;obtain⟨ot,et,_,nt,dt⟩:=ht;unfold Builtin.SmallTypes.nextOf;refine Ja (wpAny_callSpecial?_slot (name:=Str.ofString "__next__") hj.typeIs F.slot_tuple_iterator_next (wpAny_call_entry F.slot_tuple_iterator_next hj.typeIs F.entry_tuple_iterator_next ?_ (F.args_tuple_iterator_next_1 _)));show wpAny _ _ (field (.ref j) 0 >>=_) _ _ z;refine Ja (wpAny_field ej dj (x:=.ref t) rfl ?_);show wpAny _ _ (if (Value.ref t==Value.none)=true then _ else _) _ _ z;rw[if_neg (show¬((Value.ref t==Value.none)=true) from Jc)];show wpAny _ _ (field (.ref j) 1 >>=_) _ _ z;refine Ja (wpAny_field ej dj (x:=.int n 0) rfl ?_);show wpAny _ _ (seqItems? (.ref t) >>=_) _ _ z;refine Ja (wpAny_seqItems et dt ?_);simp only[Int.toNat_natCast,hv];refine Ja (wpAny_rule (Ja (wpAny_setField ej dj (by simp) ?_)));show wpAny _ _ (newExc (.type "StopIteration") [] >>=_) _ _ _;refine Ja ?_;simp only[newExc,newTuple];refine Ja (wpAny_newObj_type ?_ (by size_fits));refine Ja (m:=firstArgMember _ _) (wpAny_of_eq (a:=Value.none) (by first | rfl | (simp only[firstArgMember];rfl)) ?_);refine wpAny_newObj_type ?_ (by size_fits);simp only[raiseNew];refine Ja (wpAny_handled ?_);first | rw[show A.in1.handled=none from hh] | rw[hh]
 refine Ja (wpAny_pure (wpAny_throw ?_));exact q _ _ (((Heap.SameBut.update ..).extBut.push _).push _) ⟨_,Heap.get?_push_size _ rfl,rfl⟩
structure ZSt (g:Heap)(y a o i k p q:Addr)(n:Nat)(xs us:Array Value)(f:Value):Prop where
 zp:IsZip g y a o f
 its:IsPair g a (.ref i) (.ref k)
 own:∃b c,IsPair g o b c
 i1:g.IsTupleIter i p n
 i2:g.IsTupleIter k q n
 t1:g.IsTuple p xs
 t2:g.IsTuple q us
theorem zly {y a o i k p q:Addr}{n:Nat}{xs us:Array Value}{u v:Value}{Q:Option Value->Shared->Prop}(D:ZipApart y a o i k p q)(S:ZSt z.heap y a o i k p q n xs us .none)(hu:xs[n]? =some u)(hv:us[n]? =some v)
  (fin:∀g,ZSt g y a o i k p q (n+1) xs us (rawInt z.heap.objs.size)->IsPair g z.heap.objs.size u v->g.objs.size=z.heap.objs.size+1->(∀c r,c≠y->c≠o->c≠i->c≠k->z.heap.get? c=some r->g.get? c=some r)->Q (some (.ref z.heap.objs.size)) {z with heap:=g}):
  wpAny (model P W) A (pyNext (.ref y)) Q E z:=by
 obtain⟨hz,ha,⟨b,c,ho⟩,hi,hk,hp,hq⟩:=S;have tz:z.TypeIs (.ref y) "zip" :=⟨_,hz,rfl⟩;have main:wpAny (model P W) A.in1 (Builtin.«zip.__next__» ⟨[.ref y],[]⟩) (λr s'=>∃v,r=.done (.ret v)/\Q (some v) s') (λe s'=>True/\False) z:=by
  show wpAny _ _ (field (.ref y) 2 >>=_) _ _ _;refine Ja (wpAny_field hz rfl (x:=.bool false) rfl ?_);show wpAny _ _ (field (.ref y) 3 >>=_) _ _ _;refine Ja (wpAny_field hz rfl (x:=.ref a) rfl ?_);refine Ja (wpAny_seqItems ha rfl ?_);show wpAny _ _ (Builtin.SmallTypes.ownedTupleIsFree (.ref y) >>=_) _ _ _;refine Ja ?_;unfold Builtin.SmallTypes.ownedTupleIsFree;refine Ja (wpAny_field hz rfl (x:=.none) rfl (wpAny_pure ?_));simp only[if_true];refine Ja (wpAny_rule ?_);refine Ja (wpAny_field hz rfl (x:=.ref o) rfl ?_);refine Ja (wpAny_setField_rec hz (by simp) λg1 hz1 s1=>?_);replace hz1:IsZip g1 y a o .ellipsis:=hz1;refine Ja ?_;simp only[List.zipIdx_cons,List.zipIdx_nil,List.forIn_cons,List.forIn_nil];refine Ja (Ja (wpAny_onRaise ?_));show wpAny _ _ (Builtin.SmallTypes.nextOf (.ref i) >>=_) _ _ _;refine Ja (zfa (hi.extBut s1.extBut D.i1z) (hp.extBut s1.extBut D.l1z) hu λg2 i2 s2=>wpAny_pure ?_);have ho2:IsPair g2 o b c:=s2.extBut _ _ D.TOi1 (s1.extBut _ _ D.TOz ho);refine Ja (wpAny_seqItems ho2 rfl ?_);refine Ja (wpAny_updateSeq_pair ho2 λg3 ho3 s3=>?_);replace ho3:IsPair g3 o u c:=ho3;refine Ja (wpAny_letGo (wpAny_pure ?_));refine Ja (Ja (wpAny_onRaise ?_));show wpAny _ _ (Builtin.SmallTypes.nextOf (.ref k) >>=_) _ _ _;refine Ja (zfa (((hk.extBut s1.extBut D.i2z).extBut s2.extBut D.i12.symm).extBut s3.extBut D.TOi2.symm) (((hq.extBut s1.extBut D.l2z).extBut s2.extBut D.l2i1).extBut s3.extBut D.l2TO) hv λg4 k4 s4=>wpAny_pure ?_);have ho4:IsPair g4 o u c:=s4.extBut _ _ D.TOi2 ho3;refine Ja (wpAny_seqItems ho4 rfl ?_);refine Ja (wpAny_updateSeq_pair ho4 λg5 ho5 s5=>?_);replace ho5:IsPair g5 o u v:=ho5;refine Ja (wpAny_letGo (wpAny_pure (wpAny_pure ?_)));refine Ja (wpAny_seqItems ho5 rfl ?_);refine Ja (wpAny_newTuple ?_);have sz:g5.objs.size=z.heap.objs.size:=by rw[s5.1,s4.1,s3.1,s2.1,s1.1]
  have hz5:IsZip g5 y a o .ellipsis:=s5.extBut _ _ D.TOz.symm (s4.extBut _ _ D.i2z.symm (s3.extBut _ _ D.TOz.symm (s2.extBut _ _ D.i1z.symm hz1)));have up5:∀c r,c≠y->c≠o->c≠i->c≠k->z.heap.get? c=some r->g5.get? c=some r:=λc r c1 c2 c3 c4 e=>s5.extBut _ _ c2 (s4.extBut _ _ c4 (s3.extBut _ _ c2 (s2.extBut _ _ c3 (s1.extBut _ _ c1 e))));have hi5:g5.IsTupleIter i p (n+1):=((i2.extBut s3.extBut D.TOi1.symm).extBut s4.extBut D.i12).extBut s5.extBut D.TOi1.symm;have hk5:g5.IsTupleIter k q (n+1):=k4.extBut s5.extBut D.TOi2.symm;have ly:y < g5.objs.size:=Heap.lt_size hz5;show wpAny _ _ (Builtin.SmallTypes.ownedTupleHandOut (.ref y) (.ref g5.objs.size) >>=_) _ _ _;refine Ja ?_;unfold Builtin.SmallTypes.ownedTupleHandOut;have hz6:IsZip (g5.push {cls:=.type "tuple",data:=.seq #[u,v]}) y a o .ellipsis:=Heap.get?_push_of_some _ hz5;refine Ja (wpAny_setField_rec hz6 (by simp) λg7 hz7 s7=>?_);replace hz7:IsZip g7 y a o (rawInt g5.objs.size):=hz7;refine wpAny_setField_rec hz7 (by simp) λg8 hz8 s8=>?_;replace hz8:IsZip g8 y a o (rawInt g5.objs.size):=hz8;have up:∀c r,c≠y->g5.get? c=some r->g8.get? c=some r:=λc r c1 e=>s8.extBut _ _ c1 (s7.extBut _ _ c1 (Heap.get?_push_of_some _ e));have new8:IsPair g8 g5.objs.size u v:=s8.extBut _ _ (Nat.ne_of_gt ly) (s7.extBut _ _ (Nat.ne_of_gt ly) (Heap.get?_push_size _ rfl));have sz8:g8.objs.size=g5.objs.size+1:=by rw[s8.1,s7.1,Heap.size_push]
  rw[sz] at hz8 new8 sz8;refine wpAny_pure ⟨_,rfl,?_⟩;show Q (some (.ref g5.objs.size)) _;rw[sz];have upz:∀c r,c≠y->c≠o->c≠i->c≠k->z.heap.get? c=some r->g8.get? c=some r:=λc r c1 c2 c3 c4 e=>up c r c1 (up5 c r c1 c2 c3 c4 e);refine fin g8 ⟨hz8,upz _ _ D.TIz D.TITO D.TIi1 D.TIi2 ha,⟨_,_,up _ _ D.TOz ho5⟩,?_,?_,?_,?_⟩ new8 sz8 upz
  ·obtain⟨r,e,x⟩:=hi5;exact⟨r,up _ r D.i1z e,x⟩
  ·obtain⟨r,e,x⟩:=hk5;exact⟨r,up _ r D.i2z e,x⟩
  ·obtain⟨r,e,x⟩:=hp;exact⟨r,upz _ r D.l1z D.l1TO D.l1i1 D.l1i2 e,x⟩
  ·obtain⟨r,e,x⟩:=hq;exact⟨r,upz _ r D.l2z D.l2TO D.l2i1 D.l2i2 e,x⟩
 unfold pyNext;exact Ja (wpAny_attempt (wpAny_callSpecial?_slot (name:=Str.ofString "__next__") tz F.slot_zip_next (wpAny_call_entry F.slot_zip_next tz F.entry_zip_next (wpAny_mono main (λr s' ⟨v,e,h⟩=>⟨v,e,wpAny_pure h⟩) λ_ _ x=>x.2.elim) (F.args_zip_next_1 _))))
theorem zmg {y a o i k p q:Addr}{n:Nat}{xs us:Array Value}{Q:Option Value->Shared->Prop}(hh:A.handled=none)(D:ZipApart y a o i k p q)(S:ZSt z.heap y a o i k p q n xs us .none)(he:xs[n]? =none\/us[n]? =none)
  (fin:∀g,(∀c r,c≠y->c≠o->c≠i->c≠k->z.heap.get? c=some r->g.get? c=some r)->Q none {z with heap:=g}):wpAny (model P W) A (pyNext (.ref y)) Q E z:=by
 obtain⟨hz,ha,⟨b,c,ho⟩,hi,hk,hp,hq⟩:=S;have tz:z.TypeIs (.ref y) "zip" :=⟨_,hz,rfl⟩;have main:wpAny (model P W) A.in1 (Builtin.«zip.__next__» ⟨[.ref y],[]⟩) (λ_ _=>False) (λe s'=>∃g x,e=.ref x/\s'={z with heap:=g}/\(∀c r,c≠y->c≠o->c≠i->c≠k->z.heap.get? c=some r->g.get? c=some r)/\∃r,g.get? x=some r/\r.cls=.type "StopIteration") z:=by
  show wpAny _ _ (field (.ref y) 2 >>=_) _ _ _;refine Ja (wpAny_field hz rfl (x:=.bool false) rfl ?_);show wpAny _ _ (field (.ref y) 3 >>=_) _ _ _;refine Ja (wpAny_field hz rfl (x:=.ref a) rfl ?_);refine Ja (wpAny_seqItems ha rfl ?_);show wpAny _ _ (Builtin.SmallTypes.ownedTupleIsFree (.ref y) >>=_) _ _ _;refine Ja ?_;unfold Builtin.SmallTypes.ownedTupleIsFree;refine Ja (wpAny_field hz rfl (x:=.none) rfl (wpAny_pure ?_));simp only[if_true];refine Ja (wpAny_rule ?_);refine Ja (wpAny_field hz rfl (x:=.ref o) rfl ?_);refine Ja (wpAny_setField_rec hz (by simp) λg1 hz1 s1=>?_);replace hz1:IsZip g1 y a o .ellipsis:=hz1;refine Ja ?_;simp only[List.zipIdx_cons,List.zipIdx_nil,List.forIn_cons,List.forIn_nil];refine Ja (Ja (wpAny_onRaise ?_));show wpAny _ _ (Builtin.SmallTypes.nextOf (.ref i) >>=_) _ _ _;cases hu:xs[n]? with
  | none=>
   refine Ja (zg9 (A:=A.in1) (show A.in1.handled=none from hh) (hi.extBut s1.extBut D.i1z) (hp.extBut s1.extBut D.l1z) hu λg2 e s2 he2=>?_);obtain⟨r,er,cr⟩:=he2;have hz2:IsZip g2 y a o .ellipsis:=s2 _ _ D.i1z.symm hz1;have ne:e≠y:=λx=>by subst x;rw[hz2] at er;cases er;simp at cr
   exact wpAny_setField_rec hz2 (by simp) λg3 _ s3=>⟨g3,e,rfl,rfl,λc r c1 _ c3 _ x=>s3.extBut _ _ c1 (s2 _ _ c3 (s1.extBut _ _ c1 x)),r,s3.extBut _ _ ne er,cr⟩
  | some u=>
   have hv:us[n]? =none:=he.elim (λz=>by rw[hu] at z;cases z) id;refine Ja (zfa (hi.extBut s1.extBut D.i1z) (hp.extBut s1.extBut D.l1z) hu λg2 i2 s2=>wpAny_pure ?_);have ho2:IsPair g2 o b c:=s2.extBut _ _ D.TOi1 (s1.extBut _ _ D.TOz ho);refine Ja (wpAny_seqItems ho2 rfl ?_);refine Ja (wpAny_updateSeq_pair ho2 λg3 ho3 s3=>?_);refine Ja (wpAny_letGo (wpAny_pure ?_));refine Ja (Ja (wpAny_onRaise ?_));show wpAny _ _ (Builtin.SmallTypes.nextOf (.ref k) >>=_) _ _ _;refine Ja (zg9 (A:=A.in1) (show A.in1.handled=none from hh) (((hk.extBut s1.extBut D.i2z).extBut s2.extBut D.i12.symm).extBut s3.extBut D.TOi2.symm) (((hq.extBut s1.extBut D.l2z).extBut s2.extBut D.l2i1).extBut s3.extBut D.l2TO) hv λg4 e s4 he4=>?_);obtain⟨r,er,cr⟩:=he4;have hz4:IsZip g4 y a o .ellipsis:=s4 _ _ D.i2z.symm (s3.extBut _ _ D.TOz.symm (s2.extBut _ _ D.i1z.symm hz1));have ne:e≠y:=λx=>by subst x;rw[hz4] at er;cases er;simp at cr
   exact wpAny_setField_rec hz4 (by simp) λg5 _ s5=>⟨g5,e,rfl,rfl,λc r c1 c2 c3 c4 x=>s5.extBut _ _ c1 (s4 _ _ c4 (s3.extBut _ _ c2 (s2.extBut _ _ c3 (s1.extBut _ _ c1 x)))),r,s5.extBut _ _ ne er,cr⟩
 unfold pyNext;refine Ja (wpAny_attempt (wpAny_callSpecial?_slot (name:=Str.ofString "__next__") tz F.slot_zip_next (wpAny_call_entry F.slot_zip_next tz F.entry_zip_next (wpAny_mono main (λ_ _ x=>x.elim) λe s' h=>?_) (F.args_zip_next_1 _))));obtain⟨g,x,rfl,rfl,up,r,er,cr⟩:=h;exact Ja (wpAny_isInstance (T:= "StopIteration") (b:=true) ⟨r,er,cr⟩ isSubtype_stop (wpAny_pure (fin _ up)))
noncomputable abbrev tz1 (g:Heap)(p:Addr):Heap:=g.push {cls:=.type "tuple_iterator",data:=.fields #[.ref p,.int 0 0]}
noncomputable abbrev tz2 (g:Heap)(p q:Addr):Heap:=(tz1 g p).push {cls:=.type "tuple_iterator",data:=.fields #[.ref q,.int 0 0]}
noncomputable abbrev tz3 (g:Heap)(p q:Addr):Heap:=(tz2 g p q).push {cls:=.type "tuple",data:=.seq #[.ref g.objs.size,.ref (tz1 g p).objs.size]}
noncomputable abbrev tz4 (g:Heap)(p q:Addr):Heap:=(tz3 g p q).push {cls:=.type "tuple",data:=.seq #[.none,.none]}
noncomputable abbrev tz5 (g:Heap)(p q:Addr):Heap:=(tz4 g p q).push {cls:=.type "zip",data:=.fields #[.none,.bool false,.bool false,.ref (tz2 g p q).objs.size,.ref (tz3 g p q).objs.size]}
theorem zm3 {p q:Addr}{xs us:Array Value}{Q:QC}(hp:z.heap.IsTuple p xs)(hq:z.heap.IsTuple q us)
  (fin:∀g,ZSt g (z.heap.objs.size+4) (z.heap.objs.size+2) (z.heap.objs.size+3) z.heap.objs.size (z.heap.objs.size+1) p q 0 xs us .none->g.objs.size=z.heap.objs.size+5->(∀c r,z.heap.get? c=some r->g.get? c=some r)->Q (.ref (z.heap.objs.size+4)) {z with heap:=g}):
  wpAny (model P W) A (call (.type "zip") [.ref p,.ref q]) Q E z:=by
 have M:Meets (Builtin.«zip.__new__» ⟨[.type "zip",.ref p,.ref q],[]⟩) (λ_ R s=>s.heap.IsTuple p xs/\s.heap.IsTuple q us/\R (.ok (.ret (.ref (tz4 s.heap p q).objs.size))) {s with heap:=tz5 s.heap p q}):=
  .of_wp λprog w A R s h=>by
   obtain⟨hp0,g,d,tk,os⟩:=s;obtain⟨h1,h2,h⟩:=h;have hsub:=sub_zip;have L1:Heap.IsTuple (Shared.heap ⟨hp0,g,d,tk,os⟩) p xs:=h1;have L2:Heap.IsTuple (Shared.heap ⟨hp0.push {cls:=.type "tuple_iterator",data:=.fields #[.ref p,.int 0 0]},g,d,tk,os⟩) q us:=by obtain⟨r,e,x⟩:=h2;exact⟨r,Heap.get?_push_of_some _ e,x⟩
   wp_walk using wpAny_pyIter_tuple L1,wpAny_pyIter_tuple L2
   exact⟨_,rfl,h⟩
 have n1:(tz1 z.heap p).objs.size=z.heap.objs.size+1:=Heap.size_push ..;have n2:(tz2 z.heap p q).objs.size=z.heap.objs.size+2:=by rw[Heap.size_push,n1]
 have n3:(tz3 z.heap p q).objs.size=z.heap.objs.size+3:=by rw[Heap.size_push,n2]
 have n4:(tz4 z.heap p q).objs.size=z.heap.objs.size+4:=by rw[Heap.size_push,n3]
 have n5:(tz5 z.heap p q).objs.size=z.heap.objs.size+5:=by rw[Heap.size_push,n4]
 have a5:(tz5 z.heap p q).get? (tz4 z.heap p q).objs.size=some _:=Heap.get?_push_size _ rfl;have a4:(tz5 z.heap p q).get? (tz3 z.heap p q).objs.size=some _:=Heap.get?_push_of_some _ (Heap.get?_push_size _ rfl);have a3:(tz5 z.heap p q).get? (tz2 z.heap p q).objs.size=some _:=Heap.get?_push_of_some _ (Heap.get?_push_of_some _ (Heap.get?_push_size _ rfl));have a2:(tz5 z.heap p q).get? (tz1 z.heap p).objs.size=some _:=Heap.get?_push_of_some _ (Heap.get?_push_of_some _ (Heap.get?_push_of_some _ (Heap.get?_push_size _ rfl)));have a1:(tz5 z.heap p q).get? z.heap.objs.size=some _:=Heap.get?_push_of_some _ (Heap.get?_push_of_some _ (Heap.get?_push_of_some _ (Heap.get?_push_of_some _ (Heap.get?_push_size _ rfl))));have up:∀c r,z.heap.get? c=some r->(tz5 z.heap p q).get? c=some r:=λc r x=>Heap.get?_push_of_some _ (Heap.get?_push_of_some _ (Heap.get?_push_of_some _ (Heap.get?_push_of_some _ (Heap.get?_push_of_some _ x))));rw[n2,n3,n4] at a5;rw[n1,n2] at a3;rw[n3] at a4;rw[n1] at a2;refine callType_new F.called_zip (by decide) (F.typeCall_zip_2 _ _) (F.newCall_zip_2 _ _) (λobj=>F.args_object_init_3 obj _ _) F.entry_zip_new M ⟨hp,hq,?_⟩;show _/\_;rw[n4];refine⟨⟨_,a5,rfl⟩,fin _ ⟨a5,a3,⟨_,_,a4⟩,⟨_,a1,rfl,rfl⟩,⟨_,a2,rfl,rfl⟩,?_,?_⟩ n5 up⟩
 ·obtain⟨r,e,x⟩:=hp;exact⟨r,up _ _ e,x⟩
 ·obtain⟨r,e,x⟩:=hq;exact⟨r,up _ _ e,x⟩
end
structure ZI (g:Heap)(y a o i k p q:Addr)(n:Nat)(f:Value):Prop where
 zp:IsZip g y a o f
 its:IsPair g a (.ref i) (.ref k)
 own:∃b c,IsPair g o b c
 i1:g.IsTupleIter i p n
 i2:g.IsTupleIter k q n
theorem ZSt.zi {g:Heap}{y a o i k p q:Addr}{n:Nat}{xs us:Array Value}{f:Value}(S:ZSt g y a o i k p q n xs us f):ZI g y a o i k p q n f:=⟨S.zp,S.its,S.own,S.i1,S.i2⟩
noncomputable def Itz (K:QA)(p q:Addr)(xs us:QQ):It:=
 ⟨λn H=>SqT K H p xs/\SqT K H q us/\n < min xs.length us.length,λn H v H'=>∃(T:Addr) (x u:V),H T=none/\xs[n]? =some x/\us[n]? =some u/\v=.ref T/\H'=upd H T (.tup [x,u]),λn H=>SqT K H p xs/\SqT K H q us/\min xs.length us.length<=n⟩
theorem zmG {P:Program}{w:World}{K:QA}{elts:List Expr}{x1:Nat}{tpos:Pos}{y a o i k p q:Addr}{xs us:QQ}(D:ZipApart y a o i k p q):
  Turn P w K (.Tuple elts x1 tpos) (Itz K p q xs us) [y,a,o,i,k] y (λn h=>ZI h y a o i k p q n .none) where
 mem:=by simp
 obj:=λn h st b hb=>by
  obtain⟨hz,ha,⟨b1,b2,ho⟩,⟨r1,e1,_,d1⟩,⟨r2,e2,_,d2⟩⟩:=st;simp only[List.mem_cons,List.not_mem_nil,or_false] at hb;rcases hb with rfl | rfl | rfl | rfl | rfl
  ·exact⟨_,hz,λv z=>by cases z⟩
  ·exact⟨_,ha,λv z=>by cases z⟩
  ·exact⟨_,ho,λv z=>by cases z⟩
  ·exact⟨_,e1,λv z=>by rw[d1] at z;cases z⟩
  ·exact⟨_,e2,λv z=>by rw[d2] at z;cases z⟩
 keep:=λn h h' st kp=>by obtain⟨hz,ha,⟨b1,b2,ho⟩,⟨r1,e1,x1⟩,⟨r2,e2,x2⟩⟩:=st;exact⟨kp y (by simp) _ hz,kp a (by simp) _ ha,⟨b1,b2,kp o (by simp) _ ho⟩,⟨r1,kp i (by simp) _ e1,x1⟩,⟨r2,kp k (by simp) _ e2,x2⟩⟩
 item:=by
  intro X hP hw hK hc n pins s σ H E I hf st hg;subst hP hw hK;obtain⟨hp,hq,hn⟩:=hg;obtain⟨its,r1,T1,z1⟩:=I.tuple hp;obtain⟨jts,r2,T2,z2⟩:=I.tuple hq;have hx:xs[n]? =some xs[n]:=List.getElem?_eq_getElem (by omega);have hu:us[n]? =some us[n]:=List.getElem?_eq_getElem (by omega);obtain⟨v1,e1,q1⟩:=r1.get hx;obtain⟨v2,e2,q2⟩:=r2.get hu;have fy:=hf y (by simp);have fa:=hf a (by simp);have fo:=hf o (by simp);have fi:=hf i (by simp);have fk:=hf k (by simp);have S:ZSt s.heap y a o i k p q n its.toArray jts.toArray .none:=⟨st.zp,st.its,st.own,st.i1,st.i2,T1,T2⟩;refine zly D S (u:=v1) (v:=v2) (by simpa using e1) (by simpa using e2) λg Sg new sz up=>?_;have hT:H s.heap.objs.size=none:=I.hok.fresh (Jb _);have inch:∀{b:Addr},H b≠none->b≠y/\b≠o/\b≠i/\b≠k:=λ{b} h=>⟨λz=>h (by rw[z];exact fy.1),λz=>h (by rw[z];exact fo.1),λz=>h (by rw[z];exact fi.1),λz=>h (by rw[z];exact fk.1)⟩;have hok:HOk X.prog X.w (upd H s.heap.objs.size (.tup [xs[n],us[n]])) g:=λb u e=>by
   by_cases hb:b=s.heap.objs.size
   ·subst hb;rw[za] at e;cases e;refine⟨by simp only[List.length_cons,List.length_nil];rw[sizeLine_eq];decide,[v1,v2],.cons q1 (.cons q2 .nil),⟨_,new,rfl,_,rfl⟩⟩
   ·rw[zf hb] at e;refine(I.hok b u e).stay (λc r hc q=>?_) (λc q=>by rw[zf (zg q hT)];exact q) λc ys q=>by rw[zf (zg q hT)];exact q
    have hne:H c≠none:=by
     rcases hc with rfl | hc
     ·rw[e];intro z;cases z
     ·rw[hc];intro z;cases z
    obtain⟨c1,c2,c3,c4⟩:=inch hne;exact up c r c1 c2 c3 c4 q
  have I1:Inv X pins σ (upd H s.heap.objs.size (.tup [xs[n],us[n]])) {s with heap:=g}:=by
   refine I.step (g':=s.gens) (d':=s.drawn) (t':=s.toks) (ch:=[y,o,i,k]) (λb hb=>?_) (λb r _ _ hc e _=>?_) (λb r _ _ hc e _=>⟨r.slots,?_⟩) (λb r hc e hn=>?_) (λb r hc e=>⟨r,?_⟩) (λb ys e=>by rw[zf (zg e hT)];exact e)
    (λb r ys e=>by rw[zf (zg e hT)];exact e) (λb ps e=>⟨#[],by rw[zf (zg e hT),e];simp⟩) (λm hm=>?_) hok I.bare
   ·simp only[List.mem_cons,List.not_mem_nil,or_false] at hb;rcases hb with rfl | rfl | rfl | rfl
    ·exact⟨fy.2.2.2.1,fy.2.1,fy.2.2.2.2.1,fy.2.2.2.2.2⟩
    ·exact⟨fo.2.2.2.1,fo.2.1,fo.2.2.2.2.1,fo.2.2.2.2.2⟩
    ·exact⟨fi.2.2.2.1,fi.2.1,fi.2.2.2.2.1,fi.2.2.2.2.2⟩
    ·exact⟨fk.2.2.2.1,fk.2.1,fk.2.2.2.2.1,fk.2.2.2.2.2⟩
   ·simp only[List.mem_cons,List.not_mem_nil,or_false,not_or] at hc;exact up b r hc.1 hc.2.1 hc.2.2.1 hc.2.2.2 e
   ·simp only[List.mem_cons,List.not_mem_nil,or_false,not_or] at hc;exact up b r hc.1 hc.2.1 hc.2.2.1 hc.2.2.2 e
   ·rw[zf (Jg (Heap.lt_size e))];exact hn
   ·simp only[List.mem_cons,List.not_mem_nil,or_false,not_or] at hc;exact up b r hc.1 hc.2.1 hc.2.2.1 hc.2.2.2 e
   ·obtain⟨r,es,ep,er,d⟩:=hm;exact⟨r,es,ep,up _ r (Ne.symm fy.2.1) (Ne.symm fo.2.1) (Ne.symm fi.2.1) (Ne.symm fk.2.1) er,d⟩
  have hfp:∀b∈ [y,a,o,i,k],upd H s.heap.objs.size (.tup [xs[n],us[n]]) b=none:=λb hb=>by
   have fb:=hf b hb;have lt:b < s.heap.objs.size:=by
    obtain⟨hz,ha,⟨b1,b2,ho⟩,⟨r1,e1,_⟩,⟨r2,e2,_⟩⟩:=st;simp only[List.mem_cons,List.not_mem_nil,or_false] at hb;rcases hb with rfl | rfl | rfl | rfl | rfl
    ·exact Heap.lt_size hz
    ·exact Heap.lt_size ha
    ·exact Heap.lt_size ho
    ·exact Heap.lt_size e1
    ·exact Heap.lt_size e2
   rw[zf (Jg lt)];exact fb.1
  refine⟨_,rfl,wpAny_letOwnedTupleGo_zip Sg.zp λg2 hz2 s2=>?_⟩;refine⟨.ref s.heap.objs.size,_,I1.turned (it:=y) (t':=s.toks) (λb r hb e=>s2.extBut _ _ hb e) (hfp y (by simp)) fy.2.1 fy.2.2.2.1 fy.2.2.2.2.1 fy.2.2.2.2.2,rfl,⟨_,_,_,hT,hx,hu,rfl,rfl⟩,⟨hz2,s2.extBut _ _ D.TIz Sg.its,?_,Sg.i1.extBut s2.extBut D.i1z,Sg.i2.extBut s2.extBut D.i2z⟩,hfp⟩;obtain⟨b1,b2,ho⟩:=Sg.own;exact⟨b1,b2,s2.extBut _ _ D.TOz ho⟩
 done:=by
  intro X hP hw hK hc n pins s σ H E I hf st hg;subst hP hw hK;obtain⟨hp,hq,hn⟩:=hg;obtain⟨its,r1,T1,z1⟩:=I.tuple hp;obtain⟨jts,r2,T2,z2⟩:=I.tuple hq;have fy:=hf y (by simp);have fo:=hf o (by simp);have fi:=hf i (by simp);have fk:=hf k (by simp);have S:ZSt s.heap y a o i k p q n its.toArray jts.toArray .none:=⟨st.zp,st.its,st.own,st.i1,st.i2,T1,T2⟩;have l1:=r1.length;have l2:=r2.length;have he:its.toArray[n]? =none\/jts.toArray[n]? =none:=by
   by_cases h:xs.length<=n
   ·exact .inl (by simp;omega)
   ·exact .inr (by simp;omega)
  refine zmg (I.ok.hd hc) D S he λg up=>⟨rfl,?_⟩;have inch:∀{b:Addr},H b≠none->b≠y/\b≠o/\b≠i/\b≠k:=λ{b} h=>⟨λz=>h (by rw[z];exact fy.1),λz=>h (by rw[z];exact fo.1),λz=>h (by rw[z];exact fi.1),λz=>h (by rw[z];exact fk.1)⟩;refine I.step (g':=s.gens) (d':=s.drawn) (t':=s.toks) (ch:=[y,o,i,k]) (λb hb=>?_) (λb r _ _ hc e _=>?_) (λb r _ _ hc e _=>⟨r.slots,?_⟩) (λb r hc e hn=>hn) (λb r hc e=>⟨r,?_⟩) (λb ys e=>e) (λb r ys e=>e) (λb ps e=>⟨#[],by rw[e];simp⟩) (λm hm=>?_) (λb u e=>?_) I.bare
  ·simp only[List.mem_cons,List.not_mem_nil,or_false] at hb;rcases hb with rfl | rfl | rfl | rfl
   ·exact⟨fy.2.2.2.1,fy.2.1,fy.2.2.2.2.1,fy.2.2.2.2.2⟩
   ·exact⟨fo.2.2.2.1,fo.2.1,fo.2.2.2.2.1,fo.2.2.2.2.2⟩
   ·exact⟨fi.2.2.2.1,fi.2.1,fi.2.2.2.2.1,fi.2.2.2.2.2⟩
   ·exact⟨fk.2.2.2.1,fk.2.1,fk.2.2.2.2.1,fk.2.2.2.2.2⟩
  ·simp only[List.mem_cons,List.not_mem_nil,or_false,not_or] at hc;exact up b r hc.1 hc.2.1 hc.2.2.1 hc.2.2.2 e
  ·simp only[List.mem_cons,List.not_mem_nil,or_false,not_or] at hc;exact up b r hc.1 hc.2.1 hc.2.2.1 hc.2.2.2 e
  ·simp only[List.mem_cons,List.not_mem_nil,or_false,not_or] at hc;exact up b r hc.1 hc.2.1 hc.2.2.1 hc.2.2.2 e
  ·obtain⟨r,es,ep,er,d⟩:=hm;exact⟨r,es,ep,up _ r (Ne.symm fy.2.1) (Ne.symm fo.2.1) (Ne.symm fi.2.1) (Ne.symm fk.2.1) er,d⟩
  ·refine(I.hok b u e).stay (λc r hc q=>?_) (λ_ q=>q) λ_ _ q=>q;have hne:H c≠none:=by
    rcases hc with rfl | hc
    ·rw[e];intro z;cases z
    ·rw[hc];intro z;cases z
   obtain⟨c1,c2,c3,c4⟩:=inch hne;exact up c r c1 c2 c3 c4 q
 self:=λ_ _ _ _ _ st h=>wpAny_pyIter_zip st.zp h
theorem zqz (n p q:Nat)(h1:p < n)(h2:q < n):ZipApart (n+4) (n+2) (n+3) n (n+1) p q where
 TIz:=show(n+2:Nat)≠n+4 by omega
 TOz:=show(n+3:Nat)≠n+4 by omega
 i1z:=show(n:Nat)≠n+4 by omega
 i2z:=show(n+1:Nat)≠n+4 by omega
 TITO:=show(n+2:Nat)≠n+3 by omega
 TIi1:=show(n+2:Nat)≠n by omega
 TIi2:=show(n+2:Nat)≠n+1 by omega
 TOi1:=show(n+3:Nat)≠n by omega
 TOi2:=show(n+3:Nat)≠n+1 by omega
 i12:=show(n:Nat)≠n+1 by omega
 l1z:=show(p:Nat)≠n+4 by omega
 l1TO:=show(p:Nat)≠n+3 by omega
 l1i1:=show(p:Nat)≠n by omega
 l1i2:=show(p:Nat)≠n+1 by omega
 l2z:=show(q:Nat)≠n+4 by omega
 l2TO:=show(q:Nat)≠n+3 by omega
 l2i1:=show(q:Nat)≠n by omega
 l2i2:=show(q:Nat)≠n+1 by omega
section
variable {X:Cx}
noncomputable def iZip (K:QA)(ta:TA):TI:=fun σ H R=>ta σ H λvs H1=>∃(p q:Addr) (xs us:QQ),vs=[.ref p,.ref q]/\SqT K H1 p xs/\SqT K H1 q us/\R (Itz K p q xs us) H1
theorem zqU {elts:List Expr}{x1:Nat}{tpos:Pos}{a b:Expr}{ta:TA}{p pos:Pos}(hg:Gl X "zip") (hm:X.mg "zip" =none) (ha:PA X [a,b] ta) (hs:starEach [a,b] X.env=[(false,eval a X.env),(false,eval b X.env)]:=by rfl) (hs2:starEach [b] X.env=[(false,eval b X.env)]:=by rfl):
  PI X (.Tuple elts x1 tpos) (.Call (.Name "zip" p) [a,b] [] pos) (iZip X.K ta):=by
 intro pins s σ H R I h;refine Call_ (zbj I hg hm (u:=.type "zip") (by rfl) (PyProof.Rows.callWith_type1 (thn (ha pos pins s σ H _ I h) λus s1 ⟨vs,H1,I1,r1,q1⟩=>?_) (by rw[hs,hs2]) (by rw[hs2];rfl)));obtain⟨p1,p2,xs,ys,rfl,hp,hq,q⟩:=q1;obtain⟨u,w',rfl,ru,rw'⟩:=vals2 r1;cases (show u=Value.ref _ from ru);cases (show w'=Value.ref _ from rw');obtain⟨its,r1,T1,z1⟩:=I1.tuple hp;obtain⟨jts,r2,T2,z2⟩:=I1.tuple hq;refine zm3 T1 T2 λg S sz up=>wpAny_pyIter_zip S.zp ?_;have lt1:p1 < s1.heap.objs.size:=by obtain⟨r,e,_⟩:=T1;exact Heap.lt_size e
 have lt2:p2 < s1.heap.objs.size:=by obtain⟨r,e,_⟩:=T2;exact Heap.lt_size e
 refine⟨_,_,_,_,H1,rfl,I1.kept (t':=s1.toks) up,zmG (zqz _ _ _ lt1 lt2),S.zi,λb hb=>?_,q⟩;have hb':s1.heap.objs.size<=b:=by
  simp only[List.mem_cons,List.not_mem_nil,or_false] at hb;rcases hb with rfl | rfl | rfl | rfl | rfl
  ·exact Nat.le_add_right _ _
  ·exact Nat.le_add_right _ _
  ·exact Nat.le_add_right _ _
  ·exact Jb _
  ·exact Nat.le_add_right _ _
 exact I1.fpOk hb' (I1.hok.fresh hb')
theorem zoG {K:QA}{p q:Addr}{xs us:QQ}{g:TG}{tb:TS}{D:Ends}{σ:St}{H:Hp}(Pv:Nat->St->Hp->Prop)(h0:Pv 0 σ H)(hl:∀i σ H,Pv i σ H->SqT K H p xs/\SqT K H q us)
  (hs:∀i x u T σ H,xs[i]? =some x->us[i]? =some u->H T=none->Pv i σ H->g (.ref T) σ (upd H T (.tup [x,u])) fun σ2 H2=>tb {D with nx:=Pv (i+1),ct:=Pv (i+1),bk:=D.nx} σ2 H2) (hd:∀σ H,Pv (min xs.length us.length) σ H->D.nx σ H):
  ∃W:Nat->Nat->St->Hp->Prop,(∃m,W 0 m σ H)/\∀i m σ H,W i m σ H->
   ((Itz K p q xs us).stop i H/\D.nx σ H)\/((Itz K p q xs us).go i H/\∃N:St->Hp->Prop,(∀σ' H',N σ' H'->∃m',m' < m/\W (i+1) m' σ' H')/\∀x H',(Itz K p q xs us).yld i H x H'->g x σ H' fun σ2 H2=>tb {D with nx:=N,ct:=N,bk:=D.nx} σ2 H2):=by
 refine⟨λi m σ H=>m=min xs.length us.length - i/\i<=min xs.length us.length/\Pv i σ H,⟨_,rfl,Nat.zero_le _,h0⟩,?_⟩;rintro i m σ H ⟨rfl,hi,p⟩;have q:=hl i σ H p;by_cases hlt:i < min xs.length us.length
 ·refine .inr ⟨⟨q.1,q.2,hlt⟩,Pv (i+1),fun σ' H' p'=>⟨_,by omega,rfl,hlt,p'⟩,λx H' y=>?_⟩;obtain⟨T,a,b,hT,e1,e2,rfl,rfl⟩:=y;exact hs i a b T σ H e1 e2 hT p
 ·have e:i=min xs.length us.length:=by omega
  subst e;exact .inl ⟨⟨q.1,q.2,Jb _⟩,hd σ H p⟩
end
end L2
namespace Pv
open PySem L2
mutual
noncomputable def eqT:Th->Th->Bool
 | .non,.non=>true
 | .int a,.int b=>a==b
 | .str a,.str b=>a==b
 | .tup a,.tup b=>eqL a b
 | _,_=>false
noncomputable def eqL:List Th->List Th->Bool
 | [],[]=>true
 | t::r,u::q=>eqT t u && eqL r q
 | _,_=>false
end
mutual
theorem zaT:∀t u:Th,eqT t u=true↔t=u
 | .non,.non=>by simp[eqT]
 | .non,.int _=>by simp[eqT]
 | .non,.str _=>by simp[eqT]
 | .non,.tup _=>by simp[eqT]
 | .int _,.non=>by simp[eqT]
 | .int a,.int b=>by simp[eqT]
 | .int _,.str _=>by simp[eqT]
 | .int _,.tup _=>by simp[eqT]
 | .str _,.non=>by simp[eqT]
 | .str _,.int _=>by simp[eqT]
 | .str a,.str b=>by simp[eqT]
 | .str _,.tup _=>by simp[eqT]
 | .tup _,.non=>by simp[eqT]
 | .tup _,.int _=>by simp[eqT]
 | .tup _,.str _=>by simp[eqT]
 | .tup a,.tup b=>by have:=zjW a b;simp[eqT,this]
theorem zjW:∀a b:List Th,eqL a b=true↔a=b
 | [],[]=>by simp[eqL]
 | [],_::_=>by simp[eqL]
 | _::_,[]=>by simp[eqL]
 | t::r,u::q=>by have h1:=zaT t u;have h2:=zjW r q;simp[eqL,h1,h2]
end
theorem za4 (t:Th):eqT t t=true:=(zaT t t).mpr rfl
theorem zdv:∀a b:List Th,eqL a b=((List.range (min a.length b.length)).all (λj=>eqT (a[j]?.getD .non) (b[j]?.getD .non)) && a.length==b.length)
 | [],[]=>rfl
 | [],_::_=>by simp[eqL]
 | _::_,[]=>by simp[eqL]
 | t::r,u::q=>by
  have h:=zdv r q;show(eqT t u && eqL r q)=_;rw[h,List.length_cons,List.length_cons,Nat.succ_min_succ,List.range_succ_eq_map,List.all_cons,List.all_map];have e:(λj=>eqT ((t::r)[j]?.getD .non) ((u::q)[j]?.getD .non)) ∘ Nat.succ=λj=>eqT (r[j]?.getD .non) (q[j]?.getD .non):=by funext j;simp
  rw[e];have e2:(r.length+1==q.length+1)=(r.length==q.length):=by rw[Bool.eq_iff_iff];simp
  rw[e2,Bool.and_assoc]
  rfl
theorem Rep.inj {H:Hp}{t u:Th}{v:V}(r:Rep H t v)(q:Rep H u v):t=u:=by
 induction r generalizing u with
 | non=>cases q;rfl
 | int i=>cases q;rfl
 | str x=>cases q;rfl
 | @tup a xs ts e l h ih=>
  cases q with
  | @tup _ ys us e' l' h'=>
   rw[e] at e';cases e';refine congrArg Th.tup (List.ext_getElem? λi=>?_);by_cases hi:i < xs.length
   ·have h1:ts[i]? =some ts[i]:=List.getElem?_eq_getElem (by omega);have h2:us[i]? =some us[i]:=List.getElem?_eq_getElem (by omega);rw[h1,h2,ih i xs[i] ts[i] (List.getElem?_eq_getElem hi) h1 (h' i xs[i] us[i] (List.getElem?_eq_getElem hi) h2)]
   ·rw[List.getElem?_eq_none (by omega),List.getElem?_eq_none (by omega)]
open PySem.SeqAt in
section
variable {X:Cx}{pins:QE}{σ:L2.St}{H:Hp}{s:Shared}
theorem zhE (I:Inv X pins σ H s){a b:Addr}{xs ys:QQ}{ts us:List Th}{A:Around}(e:H a=some (.tup xs))(e':H b=some (.tup ys))(l:xs.length=ts.length)(l':ys.length=us.length)
  (ih:∀(j:Nat) (x y:V) (t u:Th) (vx vy:Value),xs[j]? =some x->ys[j]? =some y->ts[j]? =some t->us[j]? =some u->RelV x vx->RelV y vy->EqAt A.in1 s vx vy (eqT t u)):
  ∃its jts:List Value,s.heap.IsTuple a its.toArray/\s.heap.IsTuple b jts.toArray/\its.length=ts.length/\jts.length=us.length/\
   ∀j (h1:j < its.toArray.size) (h2:j < jts.toArray.size),EqAt A.in1 s its.toArray[j] jts.toArray[j] (eqT (ts[j]?.getD .non) (us[j]?.getD .non)):=by
 obtain⟨its,r1,T1,_⟩:=I.tuple (SqT.of e);obtain⟨jts,r2,T2,_⟩:=I.tuple (SqT.of e');have n1:=r1.length;have n2:=r2.length;refine⟨its,jts,T1,T2,by omega,by omega,λj h1 h2=>?_⟩;have h1':j < its.length:=by simpa using h1
 have h2':j < jts.length:=by simpa using h2
 obtain⟨vx,ex,rx⟩:=r1.get (List.getElem?_eq_getElem (show j < xs.length by omega));obtain⟨vy,ey,ry⟩:=r2.get (List.getElem?_eq_getElem (show j < ys.length by omega));have g1:ts[j]? =some ts[j]:=List.getElem?_eq_getElem (by omega);have g2:us[j]? =some us[j]:=List.getElem?_eq_getElem (by omega);have q:=ih j _ _ _ _ vx vy (List.getElem?_eq_getElem (show j < xs.length by omega)) (List.getElem?_eq_getElem (show j < ys.length by omega)) g1 g2 rx ry;rw[g1,g2];have z1:its.toArray[j]=vx:=by have:its[j]? =some its[j]:=List.getElem?_eq_getElem h1';rw[this] at ex;simpa using Option.some.inj ex
 have z2:jts.toArray[j]=vy:=by have:jts[j]? =some jts[j]:=List.getElem?_eq_getElem h2';rw[this] at ey;simpa using Option.some.inj ey
 rw[z1,z2];exact q
theorem zqR (I:Inv X pins σ H s){t:Th}{x:V}(r:Rep H t x):∀{u:Th} {y:V} {vx vy:Value} {A:Around},Rep H u y->RelV x vx->RelV y vy->A.units+dep t+1 < cLine->EqAt A s vx vy (eqT t u):=by
 induction r with
 | non=>
  intro u y vx vy A q rx ry hu;cases (show vx=Value.none from rx);cases q with
  | non=>cases (show vy=Value.none from ry);exact EqAt.same _
  | int i=>obtain⟨k,rfl⟩:=ry;exact EqAt.none_int i k
  | str z=>obtain⟨k,rfl⟩:=ry;exact EqAt.none_str z k
  | tup e l h=>cases (show vy=Value.ref _ from ry);obtain⟨its,_,T,_⟩:=I.tuple (SqT.of e);exact EqAt.none_tuple T (by omega)
 | int a=>
  intro u y vx vy A q rx ry hu;obtain⟨k1,rfl⟩:=rx;cases q with
  | non=>cases (show vy=Value.none from ry);exact EqAt.int_none a k1
  | int i=>obtain⟨k,rfl⟩:=ry;exact EqAt.int_int a k1 i k
  | str z=>obtain⟨k,rfl⟩:=ry;exact EqAt.int_str a k1 z k
  | tup e l h=>cases (show vy=Value.ref _ from ry);obtain⟨its,_,T,_⟩:=I.tuple (SqT.of e);exact EqAt.int_tuple a k1 T (by omega)
 | str a=>
  intro u y vx vy A q rx ry hu;obtain⟨k1,rfl⟩:=rx;cases q with
  | non=>cases (show vy=Value.none from ry);exact EqAt.str_none a k1
  | int i=>obtain⟨k,rfl⟩:=ry;exact EqAt.str_int a k1 i k
  | str z=>obtain⟨k,rfl⟩:=ry;exact EqAt.str_str a k1 z k
  | tup e l h=>cases (show vy=Value.ref _ from ry);obtain⟨its,_,T,_⟩:=I.tuple (SqT.of e);exact EqAt.str_tuple a k1 T (by omega)
 | @tup a xs ts e l h ih=>
  intro u y vx vy A q rx ry hu;cases (show vx=Value.ref a from rx);cases q with
  | non=>cases (show vy=Value.none from ry);obtain⟨its,_,T,_⟩:=I.tuple (SqT.of e);exact EqAt.tuple_none T (by omega)
  | int i=>obtain⟨k,rfl⟩:=ry;obtain⟨its,_,T,_⟩:=I.tuple (SqT.of e);exact EqAt.tuple_int i k T (by omega)
  | str z=>obtain⟨k,rfl⟩:=ry;obtain⟨its,_,T,_⟩:=I.tuple (SqT.of e);exact EqAt.tuple_str z k T (by omega)
  | @tup b ys us e' l' h'=>
   cases (show vy=Value.ref b from ry);by_cases hab:a=b
   ·subst hab;have z:=Rep.inj (Rep.tup e l h) (Rep.tup e' l' h');rw[<-z,za4];exact EqAt.same _
   ·have hd:dep (.tup ts)=depL ts+1:=rfl;obtain⟨its,jts,T1,T2,n1,n2,q⟩:=zhE (A:=A) I e e' l l' λj x y t u vx vy h1 h2 h3 h4 rx ry=>ih j x t h1 h3 (h' j y u h2 h4) rx ry (by
     have:=zb6 h3;show A.units+1+dep t+1 < cLine;omega)
    have R:=RcAt.tuples T1 T2 (show A.units < cLine by omega) q;have e3:((List.range (min its.toArray.size jts.toArray.size)).all (λj=>eqT (ts[j]?.getD .non) (us[j]?.getD .non)) && its.toArray.size==jts.toArray.size)=eqT (.tup ts) (.tup us):=by show _=eqL ts us;rw[zdv,List.size_toArray,List.size_toArray,n1,n2]
    rw[e3] at R;exact EqAt.of_refs hab R
theorem rc_T (I:Inv X pins σ H s){t u:Th}{x y:V}{vx vy:Value}{A:Around}(r:Rep H t x)(q:Rep H u y)(rx:RelV x vx)(ry:RelV y vy)(hu:A.units+dep t+1 < cLine):RcAt A s vx vy (eqT t u)/\RcNeAt A s vx vy (!eqT t u):=by
 cases r with
 | non=>
  cases (show vx=Value.none from rx);cases q with
  | non=>cases (show vy=Value.none from ry);exact⟨RcAt.none_none,RcNeAt.none_none⟩
  | int i=>obtain⟨k,rfl⟩:=ry;exact⟨RcAt.none_int i k,RcNeAt.none_int i k⟩
  | str z=>obtain⟨k,rfl⟩:=ry;exact⟨RcAt.none_str z k,RcNeAt.none_str z k⟩
  | tup e l h=>cases (show vy=Value.ref _ from ry);obtain⟨its,_,T,_⟩:=I.tuple (SqT.of e);exact⟨RcAt.none_tuple T (by omega),RcNeAt.none_tuple T (by omega)⟩
 | int a=>
  obtain⟨k1,rfl⟩:=rx;cases q with
  | non=>cases (show vy=Value.none from ry);exact⟨RcAt.int_none a k1,RcNeAt.int_none a k1⟩
  | int i=>obtain⟨k,rfl⟩:=ry;exact⟨RcAt.int_int a k1 i k,RcNeAt.int_int a k1 i k⟩
  | str z=>obtain⟨k,rfl⟩:=ry;exact⟨RcAt.int_str a k1 z k,RcNeAt.int_str a k1 z k⟩
  | tup e l h=>cases (show vy=Value.ref _ from ry);obtain⟨its,_,T,_⟩:=I.tuple (SqT.of e);exact⟨RcAt.int_tuple a k1 T (by omega),RcNeAt.int_tuple a k1 T (by omega)⟩
 | str a=>
  obtain⟨k1,rfl⟩:=rx;cases q with
  | non=>cases (show vy=Value.none from ry);exact⟨RcAt.str_none a k1,RcNeAt.str_none a k1⟩
  | int i=>obtain⟨k,rfl⟩:=ry;exact⟨RcAt.str_int a k1 i k,RcNeAt.str_int a k1 i k⟩
  | str z=>obtain⟨k,rfl⟩:=ry;exact⟨RcAt.str_str a k1 z k,RcNeAt.str_str a k1 z k⟩
  | tup e l h=>cases (show vy=Value.ref _ from ry);obtain⟨its,_,T,_⟩:=I.tuple (SqT.of e);exact⟨RcAt.str_tuple a k1 T (by omega),RcNeAt.str_tuple a k1 T (by omega)⟩
 | @tup a xs ts e l h=>
  cases (show vx=Value.ref a from rx);cases q with
  | non=>cases (show vy=Value.none from ry);obtain⟨its,_,T,_⟩:=I.tuple (SqT.of e);exact⟨RcAt.tuple_none T (by omega),RcNeAt.tuple_none T (by omega)⟩
  | int i=>obtain⟨k,rfl⟩:=ry;obtain⟨its,_,T,_⟩:=I.tuple (SqT.of e);exact⟨RcAt.tuple_int i k T (by omega),RcNeAt.tuple_int i k T (by omega)⟩
  | str z=>obtain⟨k,rfl⟩:=ry;obtain⟨its,_,T,_⟩:=I.tuple (SqT.of e);exact⟨RcAt.tuple_str z k T (by omega),RcNeAt.tuple_str z k T (by omega)⟩
  | @tup b ys us e' l' h'=>
   cases (show vy=Value.ref b from ry);have hd:dep (.tup ts)=depL ts+1:=rfl;obtain⟨its,jts,T1,T2,n1,n2,q⟩:=zhE (A:=A) I e e' l l' λj x y t u vx vy h1 h2 h3 h4 rx ry=>zqR I (h j x t h1 h3) (h' j y u h2 h4) rx ry (by
     have:=zb6 h3;show A.units+1+dep t+1 < cLine;omega)
   have e3:((List.range (min its.toArray.size jts.toArray.size)).all (λj=>eqT (ts[j]?.getD .non) (us[j]?.getD .non)) && its.toArray.size==jts.toArray.size)=eqT (.tup ts) (.tup us):=by show _=eqL ts us;rw[zdv,List.size_toArray,List.size_toArray,n1,n2]
   have R:=RcAt.tuples T1 T2 (show A.units < cLine by omega) q;have R':=RcNeAt.tuples T1 T2 (show A.units < cLine by omega) q;rw[e3] at R R';exact⟨R,R'⟩
end
section
variable {X:Cx}
theorem zgO {k:Nat}(hr:Room k X.A):OpR X (compareOp .Eq) (λx y H Q=>∃t u,Rep H t x/\Rep H u y/\dep t<=50/\Q (.bl (eqT t u)) H):=by intro pins s σ H x y v w Q I rx ry h;obtain⟨t,u,r1,r2,hd,q⟩:=h;have hu:=hr.units;exact(rc_T I r1 r2 rx ry (by omega)).1 _ _ _ _ ⟨.bl _,H,I,rfl,q⟩
theorem zef {k:Nat}(hr:Room k X.A):OpR X (compareOp .NotEq) (λx y H Q=>∃t u,Rep H t x/\Rep H u y/\dep t<=50/\Q (.bl (!eqT t u)) H):=by intro pins s σ H x y v w Q I rx ry h;obtain⟨t,u,r1,r2,hd,q⟩:=h;have hu:=hr.units;exact(rc_T I r1 r2 rx ry (by omega)).2 _ _ _ _ ⟨.bl _,H,I,rfl,q⟩
end
end Pv
namespace L2
open PySem PySem.Spec PyProof.Rows
section
open PySem.SeqAt
open PySem.AutoSeq1 (wpAny_loadPart')
open PySem.MeetsSeq PySem.MeetsSeq2 PySem.MeetsSeq3
end
section
variable {X:Cx}
end
end L2
namespace L2
open PySem PySem.Spec PyProof.Rows
section
open PySem.AutoSeq1 (wpAny_loadPart')
end
section
variable {X:Cx}
end
end L2
namespace Pv
open PySem L2
theorem szL {n:Nat}(h:n<=100000):n<=sizeLine:=Ji h (by rw[sizeLine_eq];decide)
theorem zgP {J:It}{n:Nat}{σ:St}{js:List Nat}{tt:TT}{te:TE}{Q:VK}{H1:Hp}{p:Addr}(Pv:Nat->List V->Hp->Prop)(h0:Pv 0 [] (upd H1 p (.lst [])))
  (hg:∀i acc H,i < n->Pv i acc H->J.go i H) (ht:∀acc H,Pv n acc H->J.stop n H)
  (hs:∀i acc H x H',i < n->Pv i acc H->J.yld i H x H'->tt (some x::frees σ js) H' λok H2=>
   if ok=true then te (some x::frees σ js) H2 λy H3=>H3 p=some (.lst acc)/\acc.length < sizeLine/\∃m',m' < n - i/\(m'=n - (i+1)/\i+1<=n/\Pv (i+1) (acc++ [y]) (upd H3 p (.lst (acc++ [y]))))
   else∃m',m' < n - i/\(m'=n - (i+1)/\i+1<=n/\Pv (i+1) acc H2)) (hd:∀acc H,Pv n acc H->Q (.ref p) H):
  zcT J p σ js tt te H1 Q:=by
 refine⟨λi m acc H=>m=n - i/\i<=n/\Pv i acc H,⟨n,by simp,Nat.zero_le _,h0⟩,?_⟩;rintro i m acc H ⟨rfl,hi,p⟩;by_cases hlt:i < n
 ·exact .inr ⟨hg i acc H hlt p,λx H' y=>hs i acc H x H' hlt p y⟩
 ·have e:i=n:=by omega
  subst e;exact .inl ⟨ht acc H p,hd acc H p⟩
theorem nxt {i n:Nat}{C:Prop}(h:i < n)(c:C):∃m',m' < n - i/\(m'=n - (i+1)/\i+1<=n/\C):=⟨_,by omega,rfl,h,c⟩
noncomputable def numOf (l:List Nat):Int:=l.foldl (λ(n:Int) (c:Nat)=>n * 128+(c:Int)) 0
theorem ziF (l:List Nat)(c:Nat):numOf (l++ [c])=numOf l * 128+c:=by unfold numOf;rw[List.foldl_append];rfl
noncomputable def chunk (x:Str)(k:Nat):List Nat:=(x.cps.toList.drop (7 * k)).take 7
noncomputable def zgx (x:Str)(k:Nat):Str:=⟨(chunk x k).toArray⟩
noncomputable def zaQ (x:Str):Nat:=(x.length+6) / 7
noncomputable def zds (x:Str):List Int:=(List.range (zaQ x)).map λk=>numOf (chunk x k)
mutual
noncomputable def zal:Th->List Int
 | .non=>[1]
 | .int n=>[2,(n+10 ^ 30) / 10 ^ 15,(n+10 ^ 30) % 10 ^ 15]
 | .str x=>[3,(x.length:Int)]++zds x
 | .tup ts=>[4,(ts.length:Int)]++zad ts
noncomputable def zad:List Th->List Int
 | []=>[]
 | t::r=>zal t++zad r
end
theorem zdO:∀(ts:List Th) (t:Th),zad (ts++ [t])=zad ts++zal t
 | [],t=>by simp[zad]
 | u::r,t=>by have:=zdO r t;show zal u++zad (r++ [t])=zal u++zad r++zal t;rw[this,List.append_assoc]
theorem zho {ts:List Th}{i:Nat}{t:Th}(h:ts[i]? =some t):zad (ts.take (i+1))=zad (ts.take i)++zal t:=by rw[List.take_add_one,h];exact zdO _ _
mutual
theorem zdq:∀t:Th,Wf t->(zal t).length<=11 * nodes t
 | .non,_=>by show 1<=11 * 1;omega
 | .int n,_=>by show 3<=11 * 1;omega
 | .str x,h=>by
  have h1:x.length<=60:=h.1;show([3,(x.length:Int)]++zds x).length<=11 * 1;have h2:(zds x).length=zaQ x:=by unfold zds;rw[List.length_map,List.length_range]
  rw[List.length_append,h2];show 2+zaQ x<=11;unfold zaQ;omega
 | .tup ts,h=>by have:=zcF ts h.2;show([4,(ts.length:Int)]++zad ts).length<=11 * (1+za2 ts);rw[List.length_append];show 2+(zad ts).length<=_;omega
theorem zcF:∀ts:List Th,WfL ts->(zad ts).length<=11 * za2 ts
 | [],_=>by show 0<=_;omega
 | t::r,h=>by have h1:=zdq t h.1;have h2:=zcF r h.2;show(zal t++zad r).length<=11 * (nodes t+za2 r);rw[List.length_append];omega
end
theorem zbR:∀(ts:List Th) (i:Nat),(zad (ts.take i)).length<=(zad ts).length
 | [],i=>by rw[List.take_nil];exact Jb _
 | t::r,0=>by show 0<=_;omega
 | t::r,i+1=>by have:=zbR r i;show(zal t++zad (r.take i)).length<=(zal t++zad r).length;rw[List.length_append,List.length_append];omega
theorem zkN {x:Str}{k:Nat}(h:k < zaQ x):cutS x (some (0+(k:Int) * 7)) (some (0+(k:Int) * 7+7))=zgx x k:=by
 unfold zaQ at h;have e1:(0+(k:Int) * 7)=((7 * k:Nat):Int):=by omega
 have e2:(0+(k:Int) * 7+7)=((7 * k+7:Nat):Int):=by omega
 unfold cutS zgx chunk;rw[e2,e1,HT.sIx_nat,HT.sIx_nat];have hl:x.cps.toList.length=x.length:=Array.length_toList;have a1:min (7 * k) x.length=7 * k:=by omega
 rw[a1];refine congrArg (λl=>(⟨List.toArray l⟩:Str)) ?_;by_cases hb:7 * k+7<=x.length
 ·rw[show min (7 * k+7) x.length - 7 * k=7 by omega]
 ·rw[Jl (by rw[List.length_drop];omega),Jl (by rw[List.length_drop];omega)]
theorem zkq {x:Str}:(((x.length:Int)+7 - 1) / 7).toNat=zaQ x:=by unfold zaQ;omega
noncomputable def zcJ (l:List Int):Int:=l.foldl (λh c=>(h * 1234567890123456789+c) % 2305843009213693951) 7
noncomputable def zl (t:Th):Int:=zcJ (zal t)+1
theorem zeT (l:List Int)(c:Int):zcJ (l++ [c])=(zcJ l * 1234567890123456789+c) % 2305843009213693951:=by unfold zcJ;rw[List.foldl_append];rfl
theorem ziJ {l:List Int}{i:Nat}{c:Int}(h:l[i]? =some c):zcJ (l.take (i+1))=(zcJ (l.take i) * 1234567890123456789+c) % 2305843009213693951:=by rw[List.take_add_one,h];exact zeT _ _
theorem zdH (l:List Int):0<=zcJ l/\zcJ l < 2305843009213693951:=by
 rcases List.eq_nil_or_concat l with rfl | ⟨r,c,rfl⟩
 ·exact⟨by decide,by decide⟩
 ·rw[List.concat_eq_append,zeT];exact⟨Int.emod_nonneg _ (by decide),Int.emod_lt_of_pos _ (by decide)⟩
end Pv
namespace Pv
theorem zek:∀{ts:List Th} {i:Nat} {t:Th},ts[i]? =some t->nodes t<=za2 ts
 | [],_,_,e=>by simp at e
 | u::r,0,t,e=>by simp at e;subst e;exact Nat.le_add_right _ _
 | u::r,i+1,t,e=>Ji (zek (i:=i) (by simpa using e)) (Nat.le_add_left _ _)
end Pv
namespace Pv
open L2
theorem tt1 {σ:L2.St}{H:Hp}{A B:Hp->Prop}(h:A H):zcf σ H λok H2=>if ok=true then A H2 else B H2:=by
 show if true=true then A H else B H
 rw[if_pos rfl];exact h
end Pv
namespace Pv
open PySem L2
noncomputable def zan:Th->Int
 | .non=>0
 | .int _=>1
 | .str _=>2
 | .tup _=>3
mutual
noncomputable def zb:Th->Th->Bool
 | .non,.non=>false
 | .int a,.int b=>decide (a < b)
 | .str a,.str b=>decide (a.cps.toList < b.cps.toList)
 | .tup a,.tup b=>zaC a b
 | t,u=>decide (zan t < zan u)
noncomputable def zaC:List Th->List Th->Bool
 | [],[]=>false
 | [],_::_=>true
 | _::_,[]=>false
 | t::r,u::q=>if eqT t u=true then zaC r q else zb t u
end
mutual
noncomputable def rowT:Th->List Int
 | .non=>[0]
 | .int a=>[1,a]
 | .str x=>[2]++x.cps.toList.map (λ(c:Nat)=>(c:Int))++ [-1]
 | .tup ts=>[3]++rowL ts++ [-1]
noncomputable def rowL:List Th->List Int
 | []=>[]
 | t::r=>rowT t++rowL r
end
theorem zgm:∀(p a b:List Int),HT.lexLt (p++a) (p++b)=HT.lexLt a b
 | [],_,_=>rfl
 | x::r,a,b=>by rw[List.cons_append,List.cons_append,HT.lexLt_cons,if_pos rfl];exact zgm r a b
theorem zaZ {x y:Int}(h:x≠y)(a b:List Int):HT.lexLt (x::a) (y::b)=decide (x < y):=by rw[HT.lexLt_cons,if_neg h]
theorem zjt:∀(x y:List Nat) (a b:List Int),x≠y->HT.lexLt (x.map (λ(c:Nat)=>(c:Int))++ -1::a) (y.map (λ(c:Nat)=>(c:Int))++ -1::b)=decide (x < y)
 | [],[],_,_,h=>Je rfl h
 | [],d::y,a,b,_=>by show HT.lexLt (-1::a) ((d:Int)::_)=_;rw[zaZ (by omega),decide_eq_true (by omega)];exact(decide_eq_true (List.nil_lt_cons d y)).symm
 | c::x,[],a,b,_=>by show HT.lexLt ((c:Int)::_) (-1::b)=_;rw[zaZ (by omega),decide_eq_false (by omega)];exact(decide_eq_false (List.not_lt_nil _)).symm
 | c::x,d::y,a,b,h=>by
  show HT.lexLt ((c:Int)::_) ((d:Int)::_)=_;by_cases e:c=d
  ·subst e;rw[HT.lexLt_cons,if_pos rfl];have:=zjt x y a b (λz=>h (by rw[z]));refine Eq.trans this ?_;rw[Bool.eq_iff_iff];simp[List.cons_lt_cons_iff]
  ·rw[zaZ (by omega)];rw[Bool.eq_iff_iff];simp[List.cons_lt_cons_iff,e]
theorem zcX (t:Th):∃r,rowT t=zan t::r:=by
 cases t with
 | non=>exact⟨[],rfl⟩
 | int a=>exact⟨[a],rfl⟩
 | str x=>exact⟨_,rfl⟩
 | tup ts=>exact⟨_,rfl⟩
theorem zjR (t:Th):0<=zan t:=by
 cases t with
 | non=>exact(by decide:(0:Int)<=0)
 | int _=>exact(by decide:(0:Int)<=1)
 | str _=>exact(by decide:(0:Int)<=2)
 | tup _=>exact(by decide:(0:Int)<=3)
theorem zqK {x y:Str}(h:x≠y):x.cps.toList≠y.cps.toList:=λz=>h (by
 rcases x with ⟨a⟩;rcases y with ⟨b⟩;have:a=b:=Array.toList_inj.mp z;rw[this])
theorem z0 {t u:Th}(h:zan t≠zan u)(a b:List Int):HT.lexLt (rowT t++a) (rowT u++b)=decide (zan t < zan u):=by obtain⟨r,e⟩:=zcX t;obtain⟨q,e'⟩:=zcX u;rw[e,e',List.cons_append,List.cons_append];exact zaZ h _ _
mutual
theorem zjv:∀(t u:Th) (a b:List Int),t≠u->HT.lexLt (rowT t++a) (rowT u++b)=zb t u
 | .non,.non,_,_,h=>Je rfl h
 | .non,.int _,a,b,_=>z0 (t:=.non) (u:=.int _) (by show(0:Int)≠1;decide) a b
 | .non,.str _,a,b,_=>z0 (t:=.non) (u:=.str _) (by show(0:Int)≠2;decide) a b
 | .non,.tup _,a,b,_=>z0 (t:=.non) (u:=.tup _) (by show(0:Int)≠3;decide) a b
 | .int _,.non,a,b,_=>z0 (t:=.int _) (u:=.non) (by show(1:Int)≠0;decide) a b
 | .int x,.int y,a,b,h=>by show HT.lexLt (1::x::a) (1::y::b)=decide (x < y);rw[HT.lexLt_cons,if_pos rfl];exact zaZ (λz=>h (by rw[z])) _ _
 | .int _,.str _,a,b,_=>z0 (t:=.int _) (u:=.str _) (by show(1:Int)≠2;decide) a b
 | .int _,.tup _,a,b,_=>z0 (t:=.int _) (u:=.tup _) (by show(1:Int)≠3;decide) a b
 | .str _,.non,a,b,_=>z0 (t:=.str _) (u:=.non) (by show(2:Int)≠0;decide) a b
 | .str _,.int _,a,b,_=>z0 (t:=.str _) (u:=.int _) (by show(2:Int)≠1;decide) a b
 | .str x,.str y,a,b,h=>by
  have e:∀(z:Str) (w:List Int),rowT (.str z)++w=2::(z.cps.toList.map (λ(c:Nat)=>(c:Int))++ -1::w):=λz w=>by show([2]++_++ [-1])++w=_;simp
  rw[e,e,HT.lexLt_cons,if_pos rfl];exact zjt _ _ a b (zqK λz=>h (by rw[z]))
 | .str _,.tup _,a,b,_=>z0 (t:=.str _) (u:=.tup _) (by show(2:Int)≠3;decide) a b
 | .tup _,.non,a,b,_=>z0 (t:=.tup _) (u:=.non) (by show(3:Int)≠0;decide) a b
 | .tup _,.int _,a,b,_=>z0 (t:=.tup _) (u:=.int _) (by show(3:Int)≠1;decide) a b
 | .tup _,.str _,a,b,_=>z0 (t:=.tup _) (u:=.str _) (by show(3:Int)≠2;decide) a b
 | .tup x,.tup y,a,b,h=>by
  have e:∀(z:List Th) (w:List Int),rowT (.tup z)++w=3::(rowL z++ -1::w):=λz w=>by show([3]++_++ [-1])++w=_;simp
  rw[e,e,HT.lexLt_cons,if_pos rfl];exact zpD x y a b (λz=>h (by rw[z]))
theorem zpD:∀(x y:List Th) (a b:List Int),x≠y->HT.lexLt (rowL x++ -1::a) (rowL y++ -1::b)=zaC x y
 | [],[],_,_,h=>Je rfl h
 | [],u::q,a,b,_=>by obtain⟨r,e⟩:=zcX u;have:=zjR u;show HT.lexLt (-1::a) ((rowT u++rowL q)++ -1::b)=true;rw[e,List.cons_append,List.cons_append,zaZ (by omega),decide_eq_true (by omega)]
 | t::r,[],a,b,_=>by obtain⟨r',e⟩:=zcX t;have:=zjR t;show HT.lexLt ((rowT t++rowL r)++ -1::a) (-1::b)=false;rw[e,List.cons_append,List.cons_append,zaZ (by omega),decide_eq_false (by omega)]
 | t::r,u::q,a,b,h=>by
  show HT.lexLt ((rowT t++rowL r)++ -1::a) ((rowT u++rowL q)++ -1::b)=if eqT t u=true then zaC r q else zb t u
  rw[List.append_assoc,List.append_assoc];by_cases e:t=u
  ·subst e;rw[zgm,if_pos (za4 t)];exact zpD r q a b (λz=>h (by rw[z]))
  ·rw[if_neg (λz=>e ((zaT t u).mp z))];exact zjv t u _ _ e
end
theorem zcZ:∀l:List Int,HT.lexLt l l=false
 | []=>rfl
 | x::r=>by rw[HT.lexLt_cons,if_pos rfl];exact zcZ r
mutual
theorem zF:∀t:Th,zb t t=false
 | .non=>rfl
 | .int a=>by show decide (a < a)=false;exact decide_eq_false (by omega)
 | .str x=>by show decide (x.cps.toList < x.cps.toList)=false;exact decide_eq_false (List.lt_irrefl _)
 | .tup ts=>zcx ts
theorem zcx:∀ts:List Th,zaC ts ts=false
 | []=>rfl
 | t::r=>by show(if eqT t t=true then zaC r r else zb t t)=false;rw[if_pos (za4 t)];exact zcx r
end
theorem zaB (t u:Th):HT.lexLt (rowT t) (rowT u)=zb t u:=by
 by_cases h:t=u
 ·subst h;rw[zcZ,zF]
 ·have:=zjv t u [] [] h;rwa[List.append_nil,List.append_nil] at this
theorem zhm {t u:Th}(h:zan t≠zan u):zb t u=decide (zan t < zan u):=by have:=z0 h [] [];rwa[List.append_nil,List.append_nil,zaB] at this
noncomputable abbrev _root_.Jv:=@List.drop_eq_getElem_cons
theorem zh1 {ts us:List Th}{i:Nat}(h1:i < ts.length)(h2:i < us.length):zaC (ts.drop i) (us.drop i)=if eqT ts[i] us[i]=true then zaC (ts.drop (i+1)) (us.drop (i+1)) else zb ts[i] us[i]:=by
 rw[Jv h1,Jv h2]
 rfl
theorem ziq (ts us:List Th):zaC (ts.drop (min ts.length us.length)) (us.drop (min ts.length us.length))=decide (ts.length < us.length):=by
 by_cases h:ts.length < us.length
 ·rw[Nat.min_eq_left (by omega),List.drop_length,Jv h,decide_eq_true h]
  rfl
 ·rw[Nat.min_eq_right (by omega),List.drop_length,decide_eq_false h];cases e:ts.drop us.length <;> rfl
end Pv
namespace L2
open PySem PySem.Spec PyProof.Rows Px
noncomputable def clsV:V->Value
 | .ty n=>.type n
 | .ref a=>.ref a
 | _=>.none
noncomputable def Clss (ts:QQ):Prop:=∀v∈ts,(∃n,v=.ty n)\/∃a,v=.ref a
theorem zfC:∀{ts:QQ} {us:QN},Clss ts->Vals ts us->us=ts.map clsV
 | _,_,_,.nil=>rfl
 | t::ts,u::us,h,.cons r q=>by
  rw[List.map_cons,<-zfC (λv hv=>h v (.tail _ hv)) q];congr 1;rcases h t (.head _) with ⟨n,e⟩ | ⟨a,e⟩
  ·subst e;exact r
  ·subst e;exact r
section
variable {X:Cx}{pins:QE}{σ:St}{H:Hp}{s:Shared}
end
section
variable {X:Cx}
end
end L2
namespace L2
open PySem PySem.Spec PyProof.Rows Px
section
variable {K:QA}{h:Heap}{mg:QB}{C f:Addr}{x m qual:Str}{st:Stmt}{ps:QP}{od an:QM}{sl:QJ}{oc kV dc pm cd ct:Value}
theorem zqC (a:PySem.W.findIn K (.ref C) m=some (some (.ref f)))(fn:PySem.W.isFn K (.ref f)=true)(l:K.lookup f=some ⟨oc,od,.func (PySem.W.fnOf m qual (z7 st) (zI st) (zr st) .none kV dc pm an cd ct),sl⟩)(c:PySem.W.codeIn K cd qual=true)(k:PySem.W.keepIn K (.ref f)=true)
  (b:∀(kV doc pm:Value) (an:QM) (cdv ct:Value) (us:QN),us.length=ps.length->bindArgs (PySem.W.fnOf m qual (z7 st) (zI st) (zr st) .none kV doc pm an cdv ct) ⟨us,[]⟩=pure (ps.zip us)):Mdf K C m qual st ps:=
 ⟨_,_,zbM l c k,(zbM l c k).binds b,⟨a,fn,k⟩⟩
theorem zqP (pg:PySem.W.plainGet K C Str.empty=true)(hd:PySem.W.hasDictIn K C=true)(po:PySem.W.plainOver K C=true)(sa:PySem.W.findIn K (.ref C) "__setattr__" =some (some (.builtin "object.__setattr__"))):Cls K C:=⟨pg,hd,po,sa⟩
theorem zqn (X:K.In h)(G:h.Ns mainGlobals mg)(n:PySem.W.nsIn K mainGlobals x=some (some (.ref C)))(mk:PySem.W.makesIn K C=true)(a:PySem.W.findIn K (.ref C) "__init__" =some (some (.ref f))) (fn:PySem.W.isFn K (.ref f)=true)
  (l:K.lookup f=some ⟨oc,od,.func (PySem.W.fnOf "__init__" qual (z7 st) (zI st) (zr st) .none kV dc pm an cd ct),sl⟩) (c:PySem.W.codeIn K cd qual=true) (k:PySem.W.keepIn K (.ref f)=true) (kc:PySem.W.keepIn K (.ref C)=true)
  (b:∀(kV doc pm:Value) (an:QM) (cdv ct:Value) (us:QN),us.length=ps.length->bindArgs (PySem.W.fnOf "__init__" qual (z7 st) (zI st) (zr st) .none kV doc pm an cdv ct) ⟨us,[]⟩=pure (ps.zip us)):Mkd K mg x C qual st ps:=
 ⟨_,_,zbM l c k,(zbM l c k).binds b,⟨mk,a,fn,kc⟩,PySem.W.mg_of X G n⟩
theorem zd3 (q:xIn K C=true)(ov:zb7 K C=true)(sa:PySem.W.findIn K (.ref C) "__setattr__" =some (some (.builtin "object.__setattr__"))) (ga:PySem.W.findIn K (.ref C) "__getattribute__" =some (some (.builtin "BaseException.__getattribute__"))) (gn:PySem.W.findIn K (.ref C) "__getattr__" =some none)
  (kp:PySem.W.keepIn K (.ref C)=true):XCls K C:=⟨q,ov,sa,ga,gn,kp⟩
theorem zqg (X:K.In h)(G:h.Ns mainGlobals mg)(n:PySem.W.nsIn K mainGlobals x=some (some (.ref C)))(cl:XCls K C)(a:PySem.W.findIn K (.ref C) "__init__" =some (some (.ref f))) (fn:PySem.W.isFn K (.ref f)=true)
  (l:K.lookup f=some ⟨oc,od,.func (PySem.W.fnOf "__init__" qual (z7 st) (zI st) (zr st) .none kV dc pm an cd ct),sl⟩) (c:PySem.W.codeIn K cd qual=true) (k:PySem.W.keepIn K (.ref f)=true)
  (b:∀(kV doc pm:Value) (an:QM) (cdv ct:Value) (us:QN),us.length=ps.length->bindArgs (PySem.W.fnOf "__init__" qual (z7 st) (zI st) (zr st) .none kV doc pm an cdv ct) ⟨us,[]⟩=pure (ps.zip us)):XId K mg x C qual st ps:=
 ⟨cl,_,_,zbM l c k,(zbM l c k).binds b,a,fn,PySem.W.mg_of X G n⟩
theorem zak {R:Addr->Prop}(X:K.In h)(n:PySem.W.nsIn K mainGlobals x=some (some (.ref C)))(r:R C):∃C,R C:=⟨C,r⟩
end
end L2
namespace Px
open PySem PySem.W PySem.Builtin PySem.Builtin.ObjectAttr
theorem zol {K:Frag}{C:Addr}{od:Option Obj}{name:Str}{a g:Value}(hc:(clsIn K C).isSome=true)(ha:findIn K (.ref C) name=some (some a))(hg:specialIn K a "__get__" =some (some g))
  (ht:takesIn K a=some true):findObj K C od name=some (.bind g a):=by
 obtain⟨c,e⟩:=Option.isSome_iff_exists.mp hc;unfold findObj;rw[e,Option.bind_some,ha,Option.bind_some];simp[hg,ht]
section
variable {prog:Program}{w:World}{A:Around}{E:QC}{s:Shared}{K:Frag}{x D:Addr}{ox:Obj}{od:Option Obj}
theorem zmW {Q:Option Value->Shared->Prop}(X:K.In s.heap)(I:InstAt s.heap x ox D od)(hp:zb7 K D=true)
  (hga:findIn K (.ref D) "__getattribute__" =some (some (.builtin "BaseException.__getattribute__"))) (hgn:findIn K (.ref D) "__getattr__" =some none)
  (ha:findIn K (.ref D) "__class__" =some (some (.builtin "object.__class__"))) (hn:specialIn K (.builtin "object.__class__") "__get__" =some (some (.builtin "getset_descriptor.__get__")))
  (htk:takesIn K (.builtin "object.__class__")=some true) (hm:mroIn K D (.type "object")=some true) (h:Q (some (.ref D)) {s with toks:=s.toks+1}):wpAny (model prog w) A (getAttr? (.ref x) "__class__") Q E s:=by
 have isB:=zgJ (M:=model prog w) (T:= "BaseException") X I hp (by decide);have cd:(clsIn K D).isSome=true:=by obtain⟨c,hc,_⟩:=any_some hp;rw[hc];rfl
 have hf:findObj K D od "__class__" =some (.bind (.builtin "getset_descriptor.__get__") (.builtin "object.__class__")):=zol cd ha hn htk;obtain⟨hp',g,d,t,os⟩:=s;have L0:=I.type (M:=model prog w);have L1:=looks_findIn (M:=model prog w) X hga;have L2:=looks_findIn (M:=model prog w) X hgn;have L3:=looks_find (M:=model prog w) X I hf;have FB:=PySem.F.attrBase_ValueError;have bi:=FB.ga.bind (.ref x);have kd:builtinKind "BaseException.__getattribute__" =some .slot:=by decide+kernel
 have sp:splitId "BaseException.__getattribute__" =some ("BaseException","__getattribute__"):=by decide+kernel
 unfold getAttr? getAttrBy? getAttrBy;refine Ja (wpAny_mkText (Ja (wpAny_attempt (wpAny_holding (Ja (L0.at (Ja (L1.at ?_))))))));have nb:(onTheHeap (Value.ref D) && Value.builtin "BaseException.__getattribute__" ==Value.builtin "object.__getattribute__")=false:=by rw[show(Value.builtin "BaseException.__getattribute__" ==Value.builtin "object.__getattribute__")=false from by decide+kernel,Bool.and_false]
 dsimp only;rw[nb,if_neg Jc];unfold getAttrByItsOwn;refine Ja ?_;show wpAny _ _ (typeLookup (.ref D) "__getattr__") _ _ _;refine L2.at ?_;unfold callGetattribute;rw[Bool.false_and,if_neg Jc];unfold boundAndCalled;refine Ja (wpAny_attempt (wpAny_holding ?_));rw[bi];refine Ja (wpAny_pure ?_);refine wpAny_call (codeAny_call_builtin FB.ga.plain PySem.F.entry_bexc_ga (@check_slot (model prog w) _ _ _ "BaseException.__getattribute__" "BaseException" "__getattribute__" (.ref x) [.str "__class__" t] [] _ kd sp isB (PySem.F.args_bexc_ga _ _) ?_));unfold Builtin.«object.__getattribute__»
 repeat (any_goals (first | assumption | with_reducible refine Ja (L0.at ?_) | with_reducible refine Ja (L3.at ?_) | wp_step))
 refine class_get X I hm ?_;show wpAny _ _ (ret (.ref D)) _ _ _;refine wpAny_pure ?_;show wpAny _ _ (handedOut (.ref D)) _ _ _;exact wpAny_pure (wpAny_pure h)
theorem zhj {K:Frag}{x D:Addr}{ox:Obj}{od:Option Obj}(hp:zb7 K D=true)
  (hga:findIn K (.ref D) "__getattribute__" =some (some (.builtin "BaseException.__getattribute__"))) (hgn:findIn K (.ref D) "__getattr__" =some none)
  (ha:findIn K (.ref D) "__class__" =some (some (.builtin "object.__class__"))) (hn:specialIn K (.builtin "object.__class__") "__get__" =some (some (.builtin "getset_descriptor.__get__")))
  (htk:takesIn K (.builtin "object.__class__")=some true) (hm:mroIn K D (.type "object")=some true):KitX K (.ref x) (.ref D) (λh=>InstAt h x ox D od) where
 ty:=λ_ _ _ I=>I.type
 it:=λ_ _ X _=>by
  obtain⟨c,hc,_⟩:=any_some hp;unfold clsIn at hc;split at hc
  ·rename_i ho;intro A' Q' E' s' k q;unfold isType loadHead;exact Ja (wpAny_loadPart (k _ _ (X _ _ ho)) (wpAny_pure q))
  ·cases hc
 ne:=λh tp dd its n sl X ht=>by
  obtain⟨c,hc,_⟩:=any_some hp;refine Bool.eq_false_iff.mpr λq=>?_;have e:D=tp:=Value.ref.inj (beq_iff_eq.mp q);subst e;unfold clsIn at hc;split at hc
  ·rename_i ho;have z:=(X _ _ ho).symm.trans ht;cases z
  ·cases hc
 ca:=λX I k=>zmW X I hp hga hgn ha hn htk hm k
end
end Px
namespace L2
open PySem PySem.Spec PyProof.Rows Px
structure zhL (K:QA)(C:Addr):Prop where
 cl:XCls K C
 ha:PySem.W.findIn K (.ref C) "__class__" =some (some (.builtin "object.__class__"))
 hn:PySem.W.specialIn K (.builtin "object.__class__") "__get__" =some (some (.builtin "getset_descriptor.__get__"))
 ht:PySem.W.takesIn K (.builtin "object.__class__")=some true
 hm:PySem.W.mroIn K C (.type "object")=some true
section
variable {X:Cx}{pins:QE}{σ:St}{H:Hp}{s:Shared}{a C:Addr}{od:QM}{fr:Bool}
theorem zn4 (I:Inv X pins σ H s)(e:H a=some (exO a C od fr))(k:zhL X.K C)(hd:∀d,od=some d->∃l,H d=some (xdO d l)):∃Z:Heap->Prop,PySem.W.KitX X.K (.ref a) (.ref C) Z/\Z s.heap:=by
 obtain⟨vs,sl,ge,_⟩:=zaF I.hok e;cases od with
 | none=>exact⟨_,zhj (od:=none) k.cl.ov k.cl.ga k.cl.gn k.ha k.hn k.ht k.hm,⟨ge,rfl,rfl,trivial⟩⟩
 | some d=>obtain⟨l,ed⟩:=hd d rfl;obtain⟨mA,ns,_,_⟩:=zgr I.hok ed;obtain⟨ob,hob,_⟩:=zdk ns;exact⟨_,zhj (od:=some ob) k.cl.ov k.cl.ga k.cl.gn k.ha k.hn k.ht k.hm,⟨ge,rfl,rfl,hob⟩⟩
noncomputable def zq6 (K:QA):List V->Hp->VK->Prop:=λxs H Q=>∃a C od fr y b,xs=[.ref a,y]/\H a=some (exO a C od fr)/\zhL K C/\(∀d,od=some d->∃l,H d=some (xdO d l))/\Q (.bl b) H/\
 ((∃c,(y=.ty c/\PySem.W.kitOne K (.ref C) (.type c)=some b))\/(∃c,(y=.ref c/\PySem.W.kitOne K (.ref C) (.ref c)=some b))\/∃p ts,y=.ref p/\H p=some (.tup ts)/\Clss ts/\PySem.W.kitAny K (.ref C) (ts.map clsV)=some b)
theorem z6:z9 X (.builtin "isinstance") (zq6 X.K):=by
 intro pins s σ H xs us Q I r h;obtain⟨a,C,od,fr,y,b,rfl,ea,k,hd,q,hy⟩:=h;obtain⟨u,w',rfl,ru,rw'⟩:=vals2 r;cases (show u=Value.ref a from ru);obtain⟨Z,kx,z⟩:=zn4 I ea k hd;rcases hy with ⟨c,rfl,e⟩ | ⟨c,rfl,e⟩ | ⟨p,ts,rfl,ep,cl,e⟩
 ·cases (show w'=Value.type c from rw');exact PySem.W.kia_one kx I.kIn z e (λy=>nomatch y) λtk=>⟨.bl b,H,I.tok tk,rfl,q⟩
 ·cases (show w'=Value.ref c from rw');exact PySem.W.kia_one kx I.kIn z e (λy=>nomatch y) λtk=>⟨.bl b,H,I.tok tk,rfl,q⟩
 ·cases (show w'=Value.ref p from rw');obtain⟨_,its,vs,o,h1,h2,n,h3⟩:=(show zE X.prog X.w H s.heap p (.tup ts) from I.hok p _ ep);have ei:=zfC cl vs;obtain⟨c0,d0,dt,sl⟩:=o;dsimp only at h2 h3;subst h2;subst h3;exact PySem.W.kia_tup kx I.kIn z h1 (by rw[ei];exact e) (λy=>nomatch y) λtk=>⟨.bl b,H,I.tok tk,rfl,q⟩
end
section
variable {X:Cx}{x n:Str}{cv:Value}{body suite:List Stmt}{b₀:Stmt}{np hpos pos:Pos}{tb:(St->XK)->TS}{ts:TS}
theorem zon (hst:X.stack=X.env::X.outer)(hfm:X.env.frame=some X.env.locals)(hg:Gl X x)(hm:X.mg x=some cv)
  (hb:∀xe pn E,zaU (CX1 X.prog X.w) (X.tried xe pn) E->PSs (X.tried xe pn) body (tb E)) (hs:∀e,PSs (X.suite e) (b₀::suite) ts) (hdb:(x==("__debug__" :Str))=false:=by decide):
  PS X (.Try body [.ExceptHandler (some (.Name x np)) none (b₀::suite) hpos] [] [] pos) (zsb X.K cv tb ts):=by
 intro pins s σ H D I h;have key:zaU (CX1 X.prog X.w) (X.tried (λe s₁=>wpAny (model X.prog X.w) X.A (noteFrame e X.env) (λ_ s₂=>wpAny (model X.prog X.w) X.A (setFlight e none) (λ_ s₃=>
   wpAny (model X.prog X.w) X.A (handleBy e X.env [.ExceptHandler (some (.Name x np)) none (b₀::suite) hpos]) (SP X pins D) X.xe s₃) X.xe s₂) X.xe s₁) (X.pn++pins)) (zni X.K cv ts D):=by
  intro pins' σ' H1 s1 e s2 I1 hc;obtain⟨ea,cls,od,H',T,rfl,os,bare,un,hok,tb',old,nT,u1,u2,C,rfl,em,q⟩:=hc;have J0:Inv X pins σ' H1 s1:=I1.untried;have J:=J0.call' os un hok bare (λb z=>nomatch z);show wpAny _ _ (noteFrame (.ref ea) X.env) _ _ s2;refine zlY (base:=X.base) (by rw[<-hst];exact J.ok.frames) (by rw[<-hst];exact J.stack) hfm tb' λh3 T' z t3 c3=>?_;rw[show(X.env::X.outer).filterMap (·.frame)=frs X.stack from by rw[hst];rfl] at c3;have c3':Chg2 (frs X.stack) (λb=>b=ea\/b=T\/b=T') s2.heap h3:=c3.mono λb y=>y.elim .inl λy=>.inr (.inl y);have J3:=J0.caught os bare un hok old nT u1 u2 z c3' t3;have LT:PySem.W.Looks (model X.prog X.w) h3 (typeOf (.ref ea)) (.ref C):=by obtain⟨vs,sl,ge,_⟩:=zaF J3.hok za;exact(PySem.W.Looks.ld ge).andThen .now
  refine wpAny_handleBy_cons (codeAny_handlers_test (zao (X:=X.suite ea) (J3.suite ea) hg hm ?_ hdb)) (by intro y;cases y);refine(PySem.W.exm_one J3.kIn LT em).here (s:={s2 with heap:=h3}) ?_;refine codeAny_handlers_suite ?_;refine zcD (s:={s2 with heap:=h3}) (fs:=frs X.stack) t3 λh4 t4 c4 k4=>?_;have J4:=J0.caught os bare un hok old nT u1 u2 z (c3'.trans (c4.two (own:=λb=>b=ea\/b=T\/b=T') (.inl rfl) (.inl (.inr (.inr rfl))))) t4;refine wpAny_mono (hs ea pins {s2 with heap:=h4} _ _ D (J4.suite ea) (q ea u1)) (λf s6 q6=>?_) λ_ _ y=>y.elim;cases f with
  | next=>obtain⟨σ6,H6,J6,y⟩:=q6;exact⟨_,_,J6.unsuite J0.ok,y⟩
  | brk=>obtain⟨σ6,H6,J6,y⟩:=q6;exact⟨_,_,J6.unsuite J0.ok,y⟩
  | cont=>obtain⟨σ6,H6,J6,y⟩:=q6;exact⟨_,_,J6.unsuite J0.ok,y⟩
  | ret u=>obtain⟨v6,σ6,H6,J6,rv,y⟩:=q6;exact⟨_,_,_,J6.unsuite J0.ok,rv,y⟩
 refine wpAny_Try_except (wpAny_mono (hb _ (X.pn++pins) _ key [] s σ H D (I.tried _) h) (λf s₁ q=>?_) λ_ _ y=>y);cases f with
 | next=>obtain⟨σ',H',I',y⟩:=q;exact wpAny_execs_nil ⟨σ',H',I'.untried,y⟩
 | brk=>obtain⟨σ',H',I',y⟩:=q;exact⟨σ',H',I'.untried,y⟩
 | cont=>obtain⟨σ',H',I',y⟩:=q;exact⟨σ',H',I'.untried,y⟩
 | ret u=>obtain⟨v,σ',H',I',rv,y⟩:=q;exact⟨v,σ',H',I'.untried,rv,y⟩
end
end L2
namespace L2
open PySem PySem.Spec PyProof.Rows
section
variable {X:Cx}{x y1 y2:Str}{scope:Scope}{j1 j2:Nat}{c1 c2:Addr}
end
end L2
namespace L2
open PySem PySem.Spec PyProof.Rows
noncomputable def zjh (kvs:QG):List Int:=kvs.filterMap λp=>match p.1 with | .inl n=>some n | .inr _=>none
noncomputable def IntKeys (kvs:QG):Prop:=kvs.map (·.1)=(zjh kvs).map Sum.inl
theorem KV.at {kvs:QG}{vs:List (Key ×Value)}(r:KV kvs vs):kvs.length=vs.length/\kvs.map (·.1)=vs.map (·.1):=by
 unfold KV at r
 induction r with
 | nil=>exact⟨rfl,rfl⟩
 | cons h _ ih=>exact⟨by simp[ih.1],by simp[ih.2,h.1]⟩
section
variable {X:Cx}
theorem gathered {P:Program}{w:World}{A:Around}{E:QC}{s:Shared}{T:String}{a d:Addr}{n:Nat}{F:Nat->Value->Prop}{G:Heap->Prop}{R:List Value->Shared->Prop}
  (src:PySem.W.KdlSrc P w T a d n F G) (calm:A.handled=none) (g:G s.heap) (le:n<=sizeLine)
  (h:∀(h':Heap) (k:Nat) (xs:Array Value),(∀b o,s.heap.get? b=some o->h'.get? b=some o)->s.heap.objs.size < h'.objs.size->PySem.ItemsOf F xs n->R xs.toList {s with heap:=h',toks:=k}):
  wpAny (model P w) A (collect (.ref a)) R E s:=by
 obtain⟨lt1,lt2⟩:=src.there _ g;unfold collect;refine Ja (wpAny_runValue (codeAny_builtin entry_proto_collect' ?_));rw[Around.under_plainId PySem.F.plain_proto_collect _];refine Ja (m:=newList []) (wpAny_newObj_type (wpAny_pure ⟨plainId_quiet PySem.F.plain_list_iadd _,codeAny_builtin entry_list_iadd' ?_⟩));rw[Around.under_plainId PySem.F.plain_list_iadd _];refine wpAny_mono (PySem.W.kdl_extend (A:=A) (s:={s with heap:=s.heap.push {cls:=.type "list",data:=.seq ([]:QN).toArray}})
  (R:=λq s'=>∃h' k xs c,q=.ok (.ret (.ref s.heap.objs.size))/\s'={s with heap:=h',toks:=k}/\(∀b o,s.heap.get? b=some o->h'.get? b=some o)/\h'.get? s.heap.objs.size=some {cls:=.type "list",dict:=none,data:=.seq xs c,slots:= #[]}/\PySem.ItemsOf F xs n)
  src calm (src.keep _ _ g λb _ o e=>Heap.get?_push_of_some _ e) s.heap.objs.size (Nat.ne_of_gt lt1) (Nat.ne_of_gt lt2) (.ref s.heap.objs.size) 0 (Heap.get?_push_size _ rfl)
  (λh' k xs c kk hS hx=>⟨h',k,xs,c,rfl,rfl,λb o e=>kk b o (Jg (Heap.lt_size e)) (Heap.get?_push_of_some _ e),hS,hx⟩) le) (λfin s' x=>?_) (λe s' x=>?_)
 ·cases fin with
  | done f=>obtain⟨h',k,xs,c,e,rfl,kk,hS,hx⟩:=x;cases e;exact Ja (m:=load s.heap.objs.size) (wpAny_load hS (wpAny_pure (h h' k xs kk (Heap.lt_size hS) hx)))
  | again c₁=>refine⟨x.1,codeAny_mono x.2 λq s₂ y=>?_⟩;obtain⟨h',k,xs,c,rfl,rfl,kk,hS,hx⟩:=y;exact Ja (m:=load s.heap.objs.size) (wpAny_load hS (wpAny_pure (h h' k xs kk (Heap.lt_size hS) hx)))
 ·obtain⟨_,_,_,_,e',_⟩:=x;cases e'
end
end L2
namespace Pv
open PySem L2
inductive RepL (H:Hp):List Th->List V->Prop where
 | nil:RepL H [] []
 | cons {t:Th} {v:V} {ts:List Th} {vs:QQ} (h:Rep H t v) (r:RepL H ts vs):RepL H (t::ts) (v::vs)
theorem RepL.len {H:Hp}:∀{ts:List Th} {vs:QQ},RepL H ts vs->vs.length=ts.length
 | _,_,.nil=>rfl
 | _,_,.cons _ r=>by rw[List.length_cons,List.length_cons,r.len]
theorem RepL.at {H:Hp}:∀{ts:List Th} {vs:QQ},RepL H ts vs->∀(i:Nat) (x:V) (t:Th),vs[i]? =some x->ts[i]? =some t->Rep H t x
 | _,_,.nil,i,x,t,e,_=>by simp at e
 | _,_,.cons h r,0,x,t,e1,e2=>by simp at e1 e2;subst e1;subst e2;exact h
 | _,_,.cons h r,i+1,x,t,e1,e2=>r.at i x t (by simpa using e1) (by simpa using e2)
theorem RepL.keep {H H':Hp}(k:Tups H H'):∀{ts:List Th} {vs:QQ},RepL H ts vs->RepL H' ts vs
 | _,_,.nil=>.nil
 | _,_,.cons h r=>.cons (h.keep k) (r.keep k)
theorem RepL.new {H:Hp}{ts:List Th}{vs:QQ}{p:Addr}(r:RepL H ts vs)(hp:H p=none):Rep (upd H p (.tup vs)) (.tup ts) (.ref p):=
 .tup za r.len λi x t e1 e2=>(r.at i x t e1 e2).keep (Tups.new hp)
theorem RepL.of {H:Hp}:∀{ts:List Th} {vs:QQ},vs.length=ts.length->(∀(i:Nat) (x:V) (t:Th),vs[i]? =some x->ts[i]? =some t->Rep H t x)->RepL H ts vs
 | [],[],_,_=>.nil
 | t::ts,v::vs,l,h=>.cons (h 0 v t rfl rfl) (RepL.of (by simpa using l) λi x u e1 e2=>h (i+1) x u (by simpa using e1) (by simpa using e2))
 | [],_::_,l,_=>by simp at l
 | _::_,[],l,_=>by simp at l
theorem Rep.list {H:Hp}{ts:List Th}{v:V}(r:Rep H (.tup ts) v):∃a xs,v=.ref a/\H a=some (.tup xs)/\RepL H ts xs:=by
 cases r with
 | @tup a xs _ e l h=>exact⟨a,xs,rfl,e,RepL.of l h⟩
theorem RepL.snoc {H:Hp}{t:Th}{v:V}(h:Rep H t v):∀{ts:List Th} {vs:QQ},RepL H ts vs->RepL H (ts++ [t]) (vs++ [v])
 | _,_,.nil=>.cons h .nil
 | _,_,.cons h' r=>.cons h' (r.snoc h)
section
variable {X:Cx}
end
end Pv
namespace Pv
open PySem L2
noncomputable abbrev _root_.QF:=List (Int ×Th)
noncomputable def zj (cs:QF)(n:Int):Option Th:=(cs.find? λp=>decide (p.1=n)).map (·.2)
inductive DRep (H:Hp):List (Int ×Th)->List (Key ×V)->Prop where
 | nil:DRep H [] []
 | cons {n:Int} {t:Th} {v:V} {cs:QF} {kvs:QG} (h:Rep H t v) (r:DRep H cs kvs):DRep H ((n,t)::cs) ((.inl n,v)::kvs)
theorem DRep.len {H:Hp}{cs:QF}{kvs:QG}(r:DRep H cs kvs):kvs.length=cs.length:=by
 induction r with
 | nil=>rfl
 | cons _ _ ih=>rw[List.length_cons,List.length_cons,ih]
theorem DRep.keep {H H':Hp}(k:Tups H H'){cs:QF}{kvs:QG}(r:DRep H cs kvs):DRep H' cs kvs:=by
 induction r with
 | nil=>exact .nil
 | cons h _ ih=>exact .cons (h.keep k) ih
theorem DRep.keys {H:Hp}{cs:QF}{kvs:QG}(r:DRep H cs kvs):zjh kvs=cs.map (·.1)/\L2.IntKeys kvs:=by
 induction r with
 | nil=>exact⟨rfl,rfl⟩
 | @cons n t v cs kvs _ _ ih=>have e:zjh ((.inl n,v)::kvs)=n::zjh kvs:=rfl;refine⟨by rw[e,ih.1];rfl,?_⟩;unfold L2.IntKeys;rw[e,List.map_cons,List.map_cons];exact congrArg _ ih.2
theorem zL {n m:Int}{t:Th}{cs:QF}:zj ((n,t)::cs) m=if n=m then some t else zj cs m:=by
 unfold zj;rw[List.find?_cons];by_cases e:n=m
 ·rw[if_pos e,decide_eq_true e];rfl
 ·rw[if_neg e,decide_eq_false e]
theorem zeK {n m:Int}{v:V}{kvs:QG}:valV ((Sum.inl n,v)::kvs) (Sum.inl m:Key)=if n=m then some v else valV kvs (.inl m):=by
 by_cases e:n=m
 ·rw[if_pos e];exact zS (by rw[e])
 ·rw[if_neg e];unfold valV;rw[List.find?_cons];rw[decide_eq_false (λz=>e (Sum.inl.inj z))]
theorem DRep.none {H:Hp}{cs:QF}{kvs:QG}(r:DRep H cs kvs){n:Int}(h:zj cs n=.none):valV kvs (.inl n)=.none:=by
 induction r with
 | nil=>rfl
 | @cons m t v cs kvs _ _ ih=>
  rw[zL] at h;rw[zeK];by_cases e:m=n
  ·rw[if_pos e] at h;cases h
  ·rw[if_neg e] at h ⊢;exact ih h
theorem DRep.some {H:Hp}{cs:QF}{kvs:QG}(r:DRep H cs kvs){n:Int}{t:Th}(h:zj cs n=.some t):∃v,valV kvs (.inl n)=.some v/\Rep H t v:=by
 induction r with
 | nil=>cases h
 | @cons m u v cs kvs hv _ ih=>
  rw[zL] at h;rw[zeK];by_cases e:m=n
  ·rw[if_pos e] at h ⊢;cases h;exact⟨v,rfl,hv⟩
  ·rw[if_neg e] at h ⊢;exact ih h
theorem DRep.back {H:Hp}{cs:QF}{kvs:QG}(r:DRep H cs kvs){n:Int}{v:V}(h:valV kvs (.inl n)=.some v):∃t,zj cs n=.some t/\Rep H t v:=by
 cases e:zj cs n with
 | none=>rw[r.none e] at h;cases h
 | some t=>obtain⟨v',e',rv⟩:=r.some e;rw[h] at e';cases e';exact⟨t,rfl,rv⟩
theorem DRep.snoc {H:Hp}{cs:QF}{kvs:QG}{n:Int}{t:Th}{v:V}(h:Rep H t v)(r:DRep H cs kvs):DRep H (cs++ [(n,t)]) (kvs++ [(.inl n,v)]):=by
 induction r with
 | nil=>exact .cons h .nil
 | cons h' _ ih=>exact .cons h' ih
theorem DRep.put {H:Hp}{cs:QF}{kvs:QG}{n:Int}{t:Th}{v:V}(r:DRep H cs kvs)(h:Rep H t v)(hn:zj cs n=.none):DRep H (cs++ [(n,t)]) (putK kvs (.inl n) v):=by rw[zh2 v (r.none hn)];exact r.snoc h
noncomputable abbrev _root_.Jq:=@List.mem_map_of_mem
theorem DRep.again {H:Hp}{cs:QF}{kvs:QG}{n:Int}{t:Th}{v:V}(r:DRep H cs kvs)(h:Rep H t v)(hn:zj cs n=.some t)(nd:(cs.map (·.1)).Nodup):DRep H cs (putK kvs (.inl n) v):=by
 have ha:(kvs.any λkv=>decide (kv.1=(Sum.inl n:Key)))=true:=by
  obtain⟨v',e,_⟩:=r.some hn;unfold valV at e;cases z:kvs.find? λkv=>decide (kv.1=(Sum.inl n:Key)) with
  | none=>rw[z] at e;cases e
  | some p=>exact List.any_eq_true.mpr ⟨p,List.mem_of_find?_eq_some z,by have:=List.find?_some z;exact this⟩
 unfold putK;rw[if_pos ha];clear ha
 induction r with
 | nil=>exact .nil
 | @cons m u v' cs kvs h' r' ih=>
  have nd':=List.nodup_cons.mp nd;rw[List.map_cons];by_cases e:m=n
  ·subst e;rw[if_pos rfl];rw[zL,if_pos rfl] at hn;cases hn;have rest:kvs.map (λkv=>if kv.1=(Sum.inl m:Key) then(kv.1,v) else kv)=kvs:=by
    have:∀kv∈kvs,(if kv.1=(Sum.inl m:Key) then(kv.1,v) else kv)=kv:=λkv hkv=>by
     refine if_neg λz=>nd'.1 ?_;have e1:=r'.keys;have m1:(Sum.inl m:Key)∈kvs.map (·.1):=by rw[<-z];exact Jq hkv
     rw[e1.2,List.mem_map] at m1;obtain⟨i,hi,ei⟩:=m1;cases ei;rw[<-e1.1];exact hi
    rw[List.map_congr_left this,List.map_id']
   rw[rest];exact .cons h r'
  ·rw[if_neg (λz=>e (Sum.inl.inj z))];rw[zL,if_neg e] at hn;exact .cons h' (ih hn nd'.2)
theorem zfL {cs:QF}{n:Int}{t:Th}(h:zj cs n=some t):(n,t)∈cs:=by
 induction cs with
 | nil=>cases h
 | cons p cs ih=>
  obtain⟨m,u⟩:=p;rw[zL] at h;by_cases e:m=n
  ·rw[if_pos e] at h;cases h;subst e;exact List.mem_cons_self
  ·rw[if_neg e] at h;exact Jh _ (ih h)
theorem zkn {cs:QF}{n:Int}(h:n∈cs.map (·.1)):∃t,zj cs n=some t:=by
 induction cs with
 | nil=>cases h
 | cons p cs ih=>
  obtain⟨m,u⟩:=p;rw[zL];by_cases e:m=n
  ·exact⟨u,if_pos e⟩
  ·rw[if_neg e];rw[List.map_cons,List.mem_cons] at h;exact ih (h.resolve_left λz=>e z.symm)
theorem ziX {cs:QF}{n:Int}(h:zj cs n=none):n∉cs.map (·.1):=λz=>by obtain⟨t,e⟩:=zkn z;rw[h] at e;cases e
theorem zcB {cs:QF}{n m:Int}{t:Th}:zj (cs++ [(n,t)]) m=match zj cs m with | some u=>some u | none=>if n=m then some t else none:=by
 induction cs with
 | nil=>rw[List.nil_append,zL];rfl
 | cons p cs ih=>
  obtain⟨k,u⟩:=p;rw[List.cons_append,zL,zL];by_cases e:k=m
  ·rw[if_pos e,if_pos e]
  ·rw[if_neg e,if_neg e,ih]
end Pv
namespace L2
open PySem PySem.Spec PyProof.Rows Px
structure ClsM (K:QA)(mg:QB)(x:Str)(V:Addr)(mc:Value)(m:Str)(f:Addr):Prop where
 mg:mg x=some (.ref V)
 sp:PySem.W.specialIn K (.ref V) "__getattribute__" =some (some (.builtin "type.__getattribute__"))
 rd:PySem.W.readsIn K V mc=true
 fc:PySem.W.findCls K (.ref V) mc m=some (.val (.ref f))
 kp:PySem.W.keepIn K (.ref f)=true
structure Kdf (K:QA)(mg:QB)(x m qual:Str)(st:Stmt)(ps:QP):Prop where
 ex:∃f fd V mc,Fun K m qual st f fd/\Binds K fd ps []/\ClsM K mg x V mc m f
structure Kfn (P:Program)(w:World)(K:QA)(mg:QB)(base:Heap)(x m:Str)(k:Nat)(ps:QP)(sp:Sp):Prop where
 ex:∃f fd V mc,FnOk P w K mg base CX0 k f fd ps sp/\Binds K fd ps []/\ClsM K mg x V mc m f
section
variable {P:Program}{w:World}{K:QA}{mg:QB}{base:Heap}{x m qual:Str}{st:Stmt}{ps N:QP}{sp:Sp}{k:Nat}
variable {f V:Addr}{mc:Value}{od an:QM}{sl:QJ}{oc kV dc pm cd ct:Value}{h:Heap}
end
section
variable {X:Cx}{x m:Str}{ps:QP}{sp:Sp}{k k':Nat}{e:Expr}{es:List Expr}{t:TA}{p pos apos:Pos}
end
end L2
namespace L2
open PySem PySem.Spec PyProof.Rows
section
variable {X:Cx}{x x2:Str}{scope:Scope}{pins:QE}{σ:St}{H:Hp}{s:Shared}
variable {iter elt:Expr}{ifs:List Expr}{px px2 tpos pos:Pos}{kt:Nat}{wi:TI}{tt:TT}{te:TE}
end
end L2
namespace L2
open PySem PySem.Spec PyProof.Rows
end L2
namespace L2
open PySem PySem.Spec PyProof.Rows Px
structure MkrX (P:Program)(w:World)(K:QA)(mg:QB)(base:Heap)(x:Str)(C:Addr)(k:Nat)(ps:QP)(sp:Sp):Prop where
 ex:∃f fd,FnOk P w K mg base (CX1 P w) k f fd ps sp/\Binds K fd ps []/\Mk K C f/\mg x=some (.ref C)
section
variable {P:Program}{w:World}{K:QA}{mg:QB}{base:Heap}{x qual:Str}{C:Addr}{st:Stmt}{ps N:QP}{sp:Sp}{k:Nat}
end
section
variable {X:Cx}{CX:CXT}{x:Str}{C f:Addr}{fd:FuncData}{ps:QP}{sp:Sp}{k k':Nat}{e:Expr}{es:List Expr}{t:TA}{p pos:Pos}{E:XK}{ES:St->XK}
end
section
variable {X:Cx}{K:QA}{o e:Expr}{es:List Expr}{to:TE}{t:TA}{name:Str}{apos cpos:Pos}{T id:String}{r:V->List V->Hp->VK->Prop}
end
end L2
namespace L2
open PySem
noncomputable def ndS:List Str->Bool
 | []=>true
 | x::r=>!r.contains x && ndS r
theorem zc5:∀{l:QP},ndS l=true->l.Nodup
 | [],_=>List.nodup_nil
 | x::r,h=>by have h:(!r.contains x && ndS r)=true:=h;rw[Bool.and_eq_true,Bool.not_eq_true'] at h;refine List.nodup_cons.mpr ⟨λhx=>?_,zc5 h.2⟩;rw[List.contains_iff_mem.mpr hx] at h;exact Je h.1 (by decide)
section
variable {X:Cx}{pos:Pos}{x:Str}
theorem setA (i:Nat){e:Expr}{te:TE}{pos':Pos}(hi:X.N[i]? =some x)(he:PE X e te)(hN:ndS X.N=true:=by rfl)(hx:Loc X.env.scope x:=by first | exact Or.inl rfl | exact Or.inr rfl)(hs:swapsWith e (some (.Name x pos')) pos.line X.env=pure false:=by rfl)(hf:X.fn x=true\/X.env.scope.names.lookup x=some .local:=by first | exact .inl rfl | exact .inr rfl | assumption):
  PS X (.Assign [.Name x pos'] e pos) (tAsg te (za5 i)):=zmH (zc5 hN) hi hx he hs hf
theorem nameA (i:Nat)(hi:X.N[i]? =some x:=by rfl)(hN:ndS X.N=true:=by rfl)(hx:Loc X.env.scope x:=by first | exact Or.inl rfl | exact Or.inr rfl)(hf:X.fn x=true\/X.env.scope.names.lookup x=some .local:=by first | exact .inl rfl | exact .inr rfl | assumption):PG X (.Name x pos) (za5 i):=zcg (zc5 hN) hi hx hf
theorem zr8 {n:Int}{t:Tok}(m:X.mg x=some (.int n t))(h:Gl X x:=by rfl)(hd:(x==("__debug__" :Str))=false:=by decide):PE X (.Name x pos) (tC (.int n)):=zjH h m ⟨_,rfl⟩ hd
theorem zr9 {a:Addr}(m:X.mg x=some (.ref a))(h:Gl X x:=by rfl)(hd:(x==("__debug__" :Str))=false:=by decide):PE X (.Name x pos) (tC (.ref a)):=zjH h m rfl hd
theorem bltT {T:String}(m:X.mg x=none)(h:Gl X x:=by rfl)(hb:bootBuiltins x=some (.type T):=by rfl)(h1:x≠("__name__" :Str):=by decide) (hd:(x==("__debug__" :Str))=false:=by decide):PE X (.Name x pos) (tC (.ty T)):=zji h m hb rfl h1 hd
end
end L2
namespace Pv
open PySem L2
noncomputable abbrev _root_.Jn:=@List.getElem_mem
theorem zaa {α:Type}{xs:List α}{r:Int}(h0:0<=r)(h1:r < (xs.length:Int)):∃x∈xs,atI xs r=some x:=by
 have hl:r.toNat < xs.length:=by omega
 have er:r=((r.toNat:Nat):Int):=by omega
 have q:atI xs ((r.toNat:Nat):Int)=some xs[r.toNat]:=zgC (List.getElem?_eq_getElem hl);rw[<-er] at q;exact⟨_,Jn hl,q⟩
end Pv
namespace L2
open PySem PySem.Spec PyProof.Rows
section
variable {X:Cx}{e:Expr}{es:List Expr}{te:TE}{pos:Pos}
theorem zch:OpR X (compareOp .LtE) (λx y H Q=>∃i j,x=.str i/\y=.str j/\Q (.bl (!decide (j.cps.toList < i.cps.toList))) H):=by intro pins s σ H x y v u Q I rx ry h;obtain⟨i,j,rfl,rfl,q⟩:=h;obtain⟨t,rfl⟩:=rx;obtain⟨t',rfl⟩:=ry;exact PySem.P.le_str (zw I q rfl)
theorem zd7:∀{ys:QP} {its:QN},Vals (ys.map V.str) its->StrsAre its ys
 | [],_,.nil=>.nil
 | y::r,_,.cons h t=>by obtain⟨k,rfl⟩:=h;exact .cons y k (zd7 t)
end
end L2
namespace Pv
open PySem L2 PyProof.Rows PySem.NumText
noncomputable def tx (l:List Nat):Str:=⟨l.toArray⟩
theorem zjE (x:Str):tx x.cps.toList=x:=by cases x;rfl
theorem zab (l:List Nat):(tx l).length=l.length:=by show l.toArray.size=_;simp
theorem zq8 (a b:List Nat):tx a++tx b=tx (a++b):=by show(⟨a.toArray++b.toArray⟩:Str)=⟨(a++b).toArray⟩;simp
noncomputable def numL (i:Int):List Nat:=(Str.ofString (toString i)).cps.toList
mutual
noncomputable def wrT:Th->List Nat
 | .non=>[111]
 | .int i=>110::(numL i++ [59])
 | .str x=>116::(numL x.length++58::x.cps.toList)
 | .tup ts=>40::(wrL ts++ [41])
noncomputable def wrL:List Th->List Nat
 | []=>[]
 | t::r=>wrT t++wrL r
end
end Pv
namespace Pv
open PySem L2 PyProof.Rows PySem.NumText
theorem zjD:∀a b:List Int,HT.lexLt a b=false->HT.lexLt b a=false->a=b
 | [],[],_,_=>rfl
 | [],_::_,h,_=>by cases h
 | _::_,[],_,h=>by cases h
 | x::a,y::b,h1,h2=>by
  rw[HT.lexLt_cons] at h1 h2;by_cases e:x=y
  ·rw[if_pos e] at h1;rw[if_pos e.symm] at h2;rw[e,zjD a b h1 h2]
  ·rw[if_neg e] at h1;rw[if_neg (λz=>e z.symm)] at h2;have:=of_decide_eq_false h1;have:=of_decide_eq_false h2;omega
noncomputable abbrev _root_.Jo:=@of_decide_eq_true
theorem zjZ:∀a b c:List Int,HT.lexLt a c=true->HT.lexLt a b=true\/HT.lexLt b c=true
 | [],[],[],h=>by cases h
 | [],[],_::_,_=>.inr rfl
 | [],_::_,_,_=>.inl rfl
 | _::_,_,[],h=>by cases h
 | _::_,[],_::_,_=>.inr rfl
 | x::a,y::b,z::c,h=>by
  rw[HT.lexLt_cons] at h;rw[HT.lexLt_cons,HT.lexLt_cons];by_cases e1:x=y
  ·by_cases e2:y=z
   ·rw[if_pos (e1.trans e2)] at h;rw[if_pos e1,if_pos e2];exact zjZ a b c h
   ·rw[if_neg (λq=>e2 (e1.symm.trans q))] at h;rw[if_neg e2];have:=Jo h;exact .inr (decide_eq_true (by omega))
  ·by_cases e2:y=z
   ·rw[if_neg (λq=>e1 (q.trans e2.symm))] at h;rw[if_neg e1];have:=Jo h;exact .inl (decide_eq_true (by omega))
   ·rw[if_neg e1,if_neg e2];by_cases hx:x < y
    ·exact .inl (decide_eq_true hx)
    ·refine .inr (decide_eq_true ?_);by_cases e3:x=z
     ·omega
     ·rw[if_neg e3] at h;have:=Jo h;omega
theorem zoX {t u:Th}(h:rowT t=rowT u):t=u:=by refine Classical.byContradiction λne=>?_;have e1:=zjv t u [0] [1] ne;have e2:=zjv t u [1] [0] ne;rw[h,zgm] at e1 e2;rw[<-e1] at e2;exact Je e2 (by decide)
theorem zkf {t u:Th}(h1:zb t u=false)(h2:zb u t=false):t=u:=zoX (zjD _ _ (by rw[zaB];exact h1) (by rw[zaB];exact h2))
theorem zK {t u:Th}(h:zb t u=true):zb u t=false:=by
 cases e:zb u t with
 | false=>rfl
 | true=>
  rw[<-zaB] at h e;have:∀a b:List Int,HT.lexLt a b=true->HT.lexLt b a=true->False:=λa b=>by
   induction a generalizing b with
   | nil=>intro p q;cases b <;> cases q
   | cons x a ih=>
    intro p q;cases b with
    | nil=>cases p
    | cons y b=>
     rw[HT.lexLt_cons] at p q;by_cases z:x=y
     ·rw[if_pos z] at p;rw[if_pos z.symm] at q;exact ih b p q
     ·rw[if_neg z] at p;rw[if_neg (λk=>z k.symm)] at q;have:=Jo p;have:=Jo q;omega
  exact(this _ _ h e).elim
end Pv
namespace Pv
open PySem L2
theorem zkh {a c:Th}(b:Th)(h:zb a c=true):zb a b=true\/zb b c=true:=by rw[<-zaB] at h;rw[<-zaB,<-zaB];exact zjZ _ _ _ h
theorem zQ {a b c:Th}(h1:zb a b=true)(h2:zb b c=true):zb a c=true:=by
 rcases zkh c h1 with h | h
 ·exact h
 ·rw[zK h2] at h;cases h
theorem zb4 {a b:Th}(h:zb a b=false)(n:a≠b):zb b a=true:=by
 cases e:zb b a with
 | true=>rfl
 | false=>exact Je (zkf h e) n
noncomputable def zca (t:Th):Int:=zl (.tup [.str ("rank" :Str),t])
noncomputable def zac (t u:Th):Bool:=if zca t=zca u then zb t u else decide (zca u < zca t)
noncomputable abbrev zaz (k wo:Th)(l r c:Int):Th:=.tup [k,wo,.int l,.int r,.int c]
theorem zhv (t:Th):1<=zl t/\zl t<=2305843009213693951:=by have:=zdH (zal t);unfold zl;omega
structure KeyT (t:Th):Prop where
 wf:Wf t
 dp:dep t<=3
 nd:nodes t<=20
 ne:t≠ .non
noncomputable instance decTh:DecidableEq Th:=λt u=>decidable_of_iff _ (zaT t u)
inductive Tr where
 | nil:Tr
 | node (l:Tr) (k w:Th) (r:Tr):Tr
namespace Tr
noncomputable def ps:Tr->List (Th ×Th)
 | nil=>[]
 | node l k w r=>l.ps++(k,w)::r.ps
noncomputable def root:Tr->Int
 | nil=>0
 | node l k w r=>zl (zaz k w l.root r.root (((l.ps++(k,w)::r.ps).length:Nat):Int))
noncomputable abbrev cnt (T:Tr):Nat:=T.ps.length
noncomputable def thing:Tr->Th
 | nil=>.non
 | node l k w r=>zaz k w l.root r.root (((l.ps++(k,w)::r.ps).length:Nat):Int)
noncomputable def InV (cs:QF):Tr->Prop
 | nil=>True
 | node l k w r=>zj cs (node l k w r).root=some (node l k w r).thing/\l.InV cs/\r.InV cs
noncomputable def kid (x:Th):Tr->Tr
 | nil=>nil
 | node l k _ r=>if zb k x=true then r else l
noncomputable def down (x:Th):Nat->Tr->Tr
 | 0,T=>T
 | n+1,T=>down x n (T.kid x)
noncomputable def plug (x:Th):Nat->Tr->Tr->Tr
 | 0,_,S=>S
 | _+1,nil,_=>nil
 | n+1,node l k w r,S=>if zb k x=true then node l k w (plug x n r S) else node (plug x n l S) k w r
noncomputable def spl (x:Th):Nat->Tr->Tr ×Tr
 | 0,T=>(T,nil)
 | _+1,nil=>(nil,nil)
 | n+1,node l k w r=>if zb k x=true then(node l k w (spl x n r).1,(spl x n r).2) else((spl x n l).1,node (spl x n l).2 k w r)
noncomputable def wl (x:Th):Tr->Nat
 | nil=>0
 | node l k _ r=>if k=x then 1 else(if zb k x=true then r.wl x else l.wl x)+1
noncomputable def own (x:Th):Tr->Tr
 | nil=>nil
 | node l k w r=>if k=x then node l k w r else if zb k x=true then r.own x else l.own x
end Tr
open Tr
theorem zfR (l:Tr)(k w:Th)(r:Tr):(node l k w r).root=zl (node l k w r).thing:=rfl
theorem zaY {T:Tr}:T.root=0↔T=nil:=by
 cases T with
 | nil=>exact⟨λ_=>rfl,λ_=>rfl⟩
 | node l k w r=>refine⟨λh=>?_,λh=>by cases h⟩;have:=(zhv (node l k w r).thing).1;rw[zfR] at h;omega
theorem zeR (T:Tr):0<=T.root/\T.root<=2305843009213693951:=by
 cases T with
 | nil=>exact⟨Int.le_refl 0,by decide⟩
 | node l k w r=>have:=zhv (node l k w r).thing;rw[zfR];omega
theorem zu (l:Tr)(k w:Th)(r:Tr):(node l k w r).cnt=l.cnt+r.cnt+1:=by show(l.ps++(k,w)::r.ps).length=_;rw[List.length_append,List.length_cons];show l.ps.length+(r.ps.length+1)=l.ps.length+r.ps.length+1;omega
noncomputable def Sub (cs cs':QF):Prop:=∀n t,zj cs n=some t->zj cs' n=some t
theorem Sub.refl (cs:QF):Sub cs cs:=λ_ _ h=>h
theorem Sub.trans {a b c:QF}(h:Sub a b)(h':Sub b c):Sub a c:=λn t e=>h' n t (h n t e)
theorem InV.mono {cs cs':QF}(s:Sub cs cs'):∀{T:Tr},T.InV cs->T.InV cs'
 | nil,_=>trivial
 | node _ _ _ _,h=>⟨s _ _ h.1,InV.mono s h.2.1,InV.mono s h.2.2⟩
noncomputable abbrev _root_.QH:=List (Th ×Th)
noncomputable def Srt (ps:QH):Prop:=ps.Pairwise λp q=>zb p.1 q.1=true
theorem za0 {l:Tr}{k w:Th}{r:Tr}(h:Srt (node l k w r).ps):Srt l.ps/\Srt r.ps/\(∀p∈l.ps,zb p.1 k=true)/\(∀p∈r.ps,zb k p.1=true):=by have h':Srt (l.ps++(k,w)::r.ps):=h;obtain⟨h1,h2,h3⟩:=List.pairwise_append.mp h';obtain⟨h4,h5⟩:=List.pairwise_cons.mp h2;exact⟨h1,h5,λp hp=>h3 p hp _ List.mem_cons_self,λp hp=>h4 p hp⟩
noncomputable def lo (ps:QH)(x:Th):List (Th ×Th):=ps.filter λp=>zb p.1 x
noncomputable def hi (ps:QH)(x:Th):List (Th ×Th):=ps.filter λp=>zb x p.1
noncomputable def hiE (ps:QH)(x:Th):List (Th ×Th):=ps.filter λp=>!zb p.1 x
noncomputable def insP (ps:QH)(x w:Th):List (Th ×Th):=lo ps x++(x,w)::hi ps x
theorem zcn (a b:QH)(x:Th):lo (a++b) x=lo a x++lo b x:=List.filter_append ..
theorem zdh (a b:QH)(x:Th):hi (a++b) x=hi a x++hi b x:=List.filter_append ..
theorem ziu (a b:QH)(x:Th):hiE (a++b) x=hiE a x++hiE b x:=List.filter_append ..
theorem zgE {a:QH}{x:Th}(h:∀p∈a,zb p.1 x=true):lo a x=a:=List.filter_eq_self.mpr h
theorem zl5 {a:QH}{x:Th}(h:∀p∈a,zb x p.1=true):hi a x=a:=List.filter_eq_self.mpr h
theorem zju {a:QH}{x:Th}(h:∀p∈a,zb p.1 x=false):hiE a x=a:=List.filter_eq_self.mpr λp hp=>by rw[h p hp];rfl
theorem zd5 {a:QH}{x:Th}(h:∀p∈a,zb p.1 x=false):lo a x=[]:=List.filter_eq_nil_iff.mpr λp hp=>by rw[h p hp];exact Jc
theorem zjU {a:QH}{x:Th}(h:∀p∈a,zb x p.1=false):hi a x=[]:=List.filter_eq_nil_iff.mpr λp hp=>by rw[h p hp];exact Jc
theorem zhA {a:QH}{x:Th}(h:∀p∈a,zb p.1 x=true):hiE a x=[]:=List.filter_eq_nil_iff.mpr λp hp=>by rw[h p hp];exact Jc
theorem zr5 {p:Th ×Th}{a:QH}{x:Th}(h:zb p.1 x=true):lo (p::a) x=p::lo a x:=List.filter_cons_of_pos h
theorem zmb {p:Th ×Th}{a:QH}{x:Th}(h:zb p.1 x=false):lo (p::a) x=lo a x:=List.filter_cons_of_neg (by rw[h];exact Jc)
theorem zrS {p:Th ×Th}{a:QH}{x:Th}(h:zb x p.1=false):hi (p::a) x=hi a x:=List.filter_cons_of_neg (by rw[h];exact Jc)
theorem zmK {p:Th ×Th}{a:QH}{x:Th}(h:zb p.1 x=false):hiE (p::a) x=p::hiE a x:=List.filter_cons_of_pos (by rw[h];rfl)
theorem zq9 {p:Th ×Th}{a:QH}{x:Th}(h:zb p.1 x=true):hiE (p::a) x=hiE a x:=List.filter_cons_of_neg (by rw[h];exact Jc)
theorem zjq {A M B:QH}{x w:Th}(hA:∀p∈A,zb p.1 x=true)(hB:∀p∈B,zb x p.1=true):insP (A++M++B) x w=A++insP M x w++B:=by unfold insP;rw[zcn,zcn,zdh,zdh,zgE hA,zl5 hB,zjU (a:=A) λp hp=>zK (hA p hp),zd5 (a:=B) λp hp=>zK (hB p hp)];simp
theorem zkj {l r:QH}{k w w':Th}(hl:∀p∈l,zb p.1 k=true)(hr:∀p∈r,zb k p.1=true):insP (l++(k,w)::r) k w'=l++(k,w')::r:=by unfold insP;rw[zcn,zdh,zgE hl,zmb (zF k),zrS (zF k),zl5 hr,zd5 (a:=r) λp hp=>zK (hr p hp),zjU (a:=l) λp hp=>zK (hl p hp)];simp
theorem zqv {a:QH}{x:Th}(h:∀p∈a,p.1≠x):hi a x=hiE a x:=by
 unfold hi hiE;refine List.filter_congr λp hp=>?_;cases e:zb p.1 x with
 | true=>rw[zK e];rfl
 | false=>rw[zb4 e (h p hp)];rfl
noncomputable def Up (x:Th):Nat->Tr->Prop
 | 0,_=>True
 | _+1,nil=>False
 | n+1,node l k _ r=>k≠x/\Up x n (if zb k x=true then r else l)
theorem zbW {x:Th}:∀{n:Nat} {T:Tr},Srt T.ps->Up x n T->∃A B:List (Th ×Th),(∀S,(plug x n T S).ps=A++S.ps++B)/\T.ps=A++(down x n T).ps++B/\(∀p∈A,zb p.1 x=true)/\(∀p∈B,zb x p.1=true)
 | 0,T,_,_=>⟨[],[],λS=>(List.append_nil _).symm,(List.append_nil _).symm,λp h=>(nomatch h),λp h=>(nomatch h)⟩
 | n+1,nil,_,h=>h.elim
 | n+1,node l k w r,hs,h=>by
  obtain⟨h1,h2,h3,h4⟩:=za0 hs;obtain⟨ne,h⟩:=h;by_cases c:zb k x=true
  ·rw[if_pos c] at h;obtain⟨A,B,e1,e2,e3,e4⟩:=zbW h2 h;refine⟨l.ps++(k,w)::A,B,λS=>?_,?_,λp hp=>?_,e4⟩
   ·show(if zb k x=true then node l k w (plug x n r S) else node (plug x n l S) k w r).ps=_;rw[if_pos c];show l.ps++(k,w)::(plug x n r S).ps=_;rw[e1 S];simp
   ·show l.ps++(k,w)::r.ps=(l.ps++(k,w)::A)++(down x n (if zb k x=true then r else l)).ps++B;rw[if_pos c,e2];simp
   ·rcases List.mem_append.mp hp with hp | hp
    ·exact zQ (h3 p hp) c
    ·rcases List.mem_cons.mp hp with rfl | hp
     ·exact c
     ·exact e3 p hp
  ·rw[if_neg c] at h;have c':zb k x=false:=by cases z:zb k x with | true=>exact Je z c | false=>rfl
   have xk:=zb4 c' ne;obtain⟨A,B,e1,e2,e3,e4⟩:=zbW h1 h;refine⟨A,B++(k,w)::r.ps,λS=>?_,?_,e3,λp hp=>?_⟩
   ·show(if zb k x=true then node l k w (plug x n r S) else node (plug x n l S) k w r).ps=_;rw[if_neg c];show(plug x n l S).ps++(k,w)::r.ps=_;rw[e1 S];simp
   ·show l.ps++(k,w)::r.ps=A++(down x n (if zb k x=true then r else l)).ps++(B++(k,w)::r.ps);rw[if_neg c,e2];simp
   ·rcases List.mem_append.mp hp with hp | hp
    ·exact e4 p hp
    ·rcases List.mem_cons.mp hp with rfl | hp
     ·exact xk
     ·exact zQ xk (h4 p hp)
noncomputable abbrev _root_.Ju:=@Nat.succ_lt_succ
theorem zey {x:Th}:∀{n:Nat} {T S:Tr},(∀m,m < n->down x m T≠nil)->(plug x n T S).cnt+(down x n T).cnt=T.cnt+S.cnt
 | 0,T,S,_=>Nat.add_comm _ _
 | n+1,nil,S,h=>Je rfl (h 0 (Nat.zero_lt_succ _))
 | n+1,node l k w r,S,h=>by
  show(if zb k x=true then node l k w (plug x n r S) else node (plug x n l S) k w r).cnt+(down x n (if zb k x=true then r else l)).cnt=_;have h':∀m,m < n->down x m (if zb k x=true then r else l)≠nil:=λm hm=>h (m+1) (Ju hm);by_cases c:zb k x=true
  ·rw[if_pos c] at h' ⊢;rw[if_pos c];have:=zey (S:=S) h';rw[zu,zu];omega
  ·rw[if_neg c] at h' ⊢;rw[if_neg c];have:=zey (S:=S) h';rw[zu,zu];omega
theorem up_down {x:Th}:∀{n:Nat} {T:Tr},Up x n T->∀m,m < n->down x m T≠nil
 | 0,_,_,m,hm=>Je hm (Nat.not_lt_zero m)
 | n+1,nil,h,_,_=>h.elim
 | n+1,node l k w r,h,0,_=>λz=>by cases z
 | n+1,node l k w r,h,m+1,hm=>up_down (T:=if zb k x=true then r else l) h.2 m (Nat.lt_of_succ_lt_succ hm)
theorem zeB {x:Th}:∀(n m:Nat) (T:Tr),down x (n+m) T=down x m (down x n T)
 | 0,m,T=>by rw[Nat.zero_add];rfl
 | n+1,m,T=>by rw[Nat.succ_add];exact zeB n m (T.kid x)
theorem zgg {x:Th}:∀{n m:Nat} {T:Tr},Up x n T->m<=n->Up x m T
 | _,0,_,_,_=>trivial
 | 0,m+1,_,_,h=>Je h (Nat.not_succ_le_zero m)
 | n+1,m+1,nil,h,_=>h.elim
 | n+1,m+1,node l k w r,h,hm=>⟨h.1,zgg h.2 (Nat.le_of_succ_le_succ hm)⟩
theorem zc3 {x:Th}:∀{T:Tr},own x T=nil->Up x (wl x T) T/\down x (wl x T) T=nil
 | nil,_=>⟨trivial,rfl⟩
 | node l k w r,h=>by
  unfold own at h;by_cases e:k=x
  ·rw[if_pos e] at h;cases h
  ·rw[if_neg e] at h;unfold wl;rw[if_neg e];by_cases c:zb k x=true
   ·rw[if_pos c] at h ⊢;obtain⟨a,b⟩:=zc3 h;refine⟨⟨e,?_⟩,?_⟩
    ·rw[if_pos c];exact a
    ·show down x _ (if zb k x=true then r else l)=nil;rw[if_pos c];exact b
   ·rw[if_neg c] at h ⊢;obtain⟨a,b⟩:=zc3 h;refine⟨⟨e,?_⟩,?_⟩
    ·rw[if_neg c];exact a
    ·show down x _ (if zb k x=true then r else l)=nil;rw[if_neg c];exact b
theorem zbp {x:Th}:∀{T l' r':Tr} {k' w':Th},own x T=node l' k' w' r'->k'=x/\∃n,wl x T=n+1/\Up x n T/\down x n T=node l' k' w' r'
 | nil,_,_,_,_,h=>by cases h
 | node l k w r,l',r',k',w',h=>by
  unfold own at h;by_cases e:k=x
  ·rw[if_pos e] at h;cases h;unfold wl;rw[if_pos e];exact⟨e,0,rfl,trivial,rfl⟩
  ·rw[if_neg e] at h;unfold wl;rw[if_neg e];by_cases c:zb k x=true
   ·rw[if_pos c] at h ⊢;obtain⟨a,n,b,d,f⟩:=zbp h;refine⟨a,n+1,by rw[b],⟨e,?_⟩,?_⟩
    ·rw[if_pos c];exact d
    ·show down x n (if zb k x=true then r else l)=_;rw[if_pos c];exact f
   ·rw[if_neg c] at h ⊢;obtain⟨a,n,b,d,f⟩:=zbp h;refine⟨a,n+1,by rw[b],⟨e,?_⟩,?_⟩
    ·rw[if_neg c];exact d
    ·show down x n (if zb k x=true then r else l)=_;rw[if_neg c];exact f
theorem zoW {x:Th}{T:Tr}:∀{n:Nat},Up x n T->wl x T=n+wl x (down x n T):=by
 intro n
 induction n generalizing T with
 | zero=>intro _;rw[Nat.zero_add];rfl
 | succ n ih=>
  intro h;cases T with
  | nil=>exact h.elim
  | node l k w r=>
   obtain⟨e,h⟩:=h;have:=ih h;show(if k=x then 1 else(if zb k x=true then r.wl x else l.wl x)+1)=n+1+wl x (down x n (if zb k x=true then r else l));rw[if_neg e];by_cases c:zb k x=true
   ·rw[if_pos c] at this ⊢;rw[if_pos c];omega
   ·rw[if_neg c] at this ⊢;rw[if_neg c];omega
theorem zjn {x:Th}:∀T:Tr,wl x T<=T.cnt
 | nil=>Jb _
 | node l k w r=>by
  rw[zu];unfold wl;have h1:=zjn (x:=x) l;have h2:=zjn (x:=x) r;split
  ·omega
  ·split <;> omega
theorem zbY {x:Th}:∀{n:Nat} {T:Tr},Srt T.ps->Srt (down x n T).ps
 | 0,_,h=>h
 | n+1,T,h=>zbY (n:=n) (T:=T.kid x) (by
  cases T with
  | nil=>exact List.Pairwise.nil
  | node l k w r=>
   obtain⟨h1,h2,_,_⟩:=za0 h;show Srt (if zb k x=true then r else l).ps;split
   ·exact h2
   ·exact h1)
theorem zij {x:Th}:∀{T:Tr},Srt T.ps->(spl x (wl x T) T).1.ps=lo T.ps x/\(spl x (wl x T) T).2.ps=hiE T.ps x
 | nil,_=>⟨rfl,rfl⟩
 | node l k w r,h=>by
  obtain⟨h1,h2,h3,h4⟩:=za0 h;show(spl x (if k=x then 1 else(if zb k x=true then r.wl x else l.wl x)+1) (node l k w r)).1.ps=lo (l.ps++(k,w)::r.ps) x/\(spl x (if k=x then 1 else(if zb k x=true then r.wl x else l.wl x)+1) (node l k w r)).2.ps=hiE (l.ps++(k,w)::r.ps) x;rw[zcn,ziu];by_cases e:k=x
  ·subst e;rw[if_pos rfl];have c:=zF k;show(if zb k k=true then(node l k w r,nil) else(l,node nil k w r)).1.ps=_/\(if zb k k=true then(node l k w r,nil) else(l,node nil k w r)).2.ps=_;rw[c,zgE h3,zmb c,zmK c,zd5 λp hp=>zK (h4 p hp),zhA h3,zju λp hp=>zK (h4 p hp)];exact⟨(List.append_nil _).symm,rfl⟩
  ·rw[if_neg e];by_cases c:zb k x=true
   ·obtain⟨i1,i2⟩:=zij (x:=x) h2;rw[if_pos c];show(if zb k x=true then(node l k w (spl x (r.wl x) r).1,(spl x (r.wl x) r).2) else _).1.ps=_/\(if zb k x=true then(node l k w (spl x (r.wl x) r).1,(spl x (r.wl x) r).2) else _).2.ps=_;rw[if_pos c,zgE λp hp=>zQ (h3 p hp) c,zr5 c,zhA λp hp=>zQ (h3 p hp) c,zq9 c];refine⟨?_,by rw[List.nil_append];exact i2⟩;show l.ps++(k,w)::(spl x (r.wl x) r).1.ps=_;rw[i1]
   ·have c':zb k x=false:=by cases z:zb k x with | true=>exact Je z c | false=>rfl
    have xk:=zb4 c' e;obtain⟨i1,i2⟩:=zij (x:=x) h1;rw[if_neg c];show(if zb k x=true then _ else((spl x (l.wl x) l).1,node (spl x (l.wl x) l).2 k w r)).1.ps=_/\(if zb k x=true then _ else((spl x (l.wl x) l).1,node (spl x (l.wl x) l).2 k w r)).2.ps=_;have hr:∀p∈r.ps,zb p.1 x=false:=λp hp=>zK (zQ xk (h4 p hp));rw[if_neg c,zmb c',zmK c',zd5 hr,zju hr];refine⟨by rw[List.append_nil];exact i1,?_⟩;show(spl x (l.wl x) l).2.ps++(k,w)::r.ps=_;rw[i2]
noncomputable def Tr.plc (x:Th):Tr->Nat
 | nil=>0
 | node l k _ r=>if zac x k=true then 0 else(if zb k x=true then r.plc x else l.plc x)+1
theorem zgM {x:Th}:∀{T:Tr},own x T=nil->plc x T<=wl x T
 | nil,_=>Jb _
 | node l k w r,h=>by
  unfold own at h;by_cases e:k=x
  ·rw[if_pos e] at h;cases h
  ·rw[if_neg e] at h;unfold plc wl;rw[if_neg e];split
   ·exact Nat.zero_le _
   ·by_cases c:zb k x=true
    ·rw[if_pos c] at h;rw[if_pos c,if_pos c];exact Nat.succ_le_succ (zgM h)
    ·rw[if_neg c] at h;rw[if_neg c,if_neg c];exact Nat.succ_le_succ (zgM h)
theorem znp {x:Th}:∀{n:Nat} {T:Tr},Up x n T->own x (down x n T)=own x T
 | 0,_,_=>rfl
 | n+1,nil,h=>h.elim
 | n+1,node l k w r,h=>by
  show own x (down x n (if zb k x=true then r else l))=own x (node l k w r);rw[znp h.2]
  conv=>rhs;unfold own
  rw[if_neg h.1];split <;> rfl
theorem zd4 {x:Th}:∀{T:Tr},Srt T.ps->own x T=nil->∀p∈T.ps,p.1≠x
 | nil,_,_,p,hp=>by cases hp
 | node l k w r,hs,h,p,hp=>by
  obtain⟨h1,h2,h3,h4⟩:=za0 hs;unfold own at h;by_cases e:k=x
  ·rw[if_pos e] at h;cases h
  ·rw[if_neg e] at h;by_cases c:zb k x=true
   ·rw[if_pos c] at h;rcases List.mem_append.mp hp with hp | hp
    ·intro z;have:=zQ (h3 p hp) c;rw[z,zF] at this;cases this
    ·rcases List.mem_cons.mp hp with rfl | hp
     ·exact e
     ·exact zd4 h2 h p hp
   ·rw[if_neg c] at h;have c':zb k x=false:=by cases z:zb k x with | true=>exact Je z c | false=>rfl
    have xk:=zb4 c' e;rcases List.mem_append.mp hp with hp | hp
    ·exact zd4 h1 h p hp
    ·rcases List.mem_cons.mp hp with rfl | hp
     ·exact e
     ·intro z;have:=zQ xk (h4 p hp);rw[z,zF] at this;cases this
noncomputable def Tr.putT (x w:Th)(T:Tr):Tr:=
 match own x T with
 | node l _ _ r=>plug x (wl x T - 1) T (node l x w r)
 | nil=>plug x (plc x T) T (node (spl x (wl x T - plc x T) (down x (plc x T) T)).1 x w (spl x (wl x T - plc x T) (down x (plc x T) T)).2)
theorem zcE {x w:Th}{T:Tr}(hs:Srt T.ps):(putT x w T).ps=insP T.ps x w:=by
 unfold putT;cases h:own x T with
 | nil=>
  obtain⟨u,d⟩:=zc3 h;have hp:=zgM h;have u':=zgg u hp;obtain⟨A,B,e1,e2,e3,e4⟩:=zbW hs u';have hd:=zoW u';have ew:wl x T - plc x T=wl x (down x (plc x T) T):=by omega
  have s1:=zij (x:=x) (zbY (x:=x) (n:=plc x T) hs);show(plug x (plc x T) T (node (spl x (wl x T - plc x T) (down x (plc x T) T)).1 x w (spl x (wl x T - plc x T) (down x (plc x T) T)).2)).ps=_;rw[ew,e1]
  conv=>rhs;rw[e2]
  rw[zjq e3 e4];show A++((spl x (wl x (down x (plc x T) T)) (down x (plc x T) T)).1.ps++(x,w)::(spl x (wl x (down x (plc x T) T)) (down x (plc x T) T)).2.ps)++B=_;rw[s1.1,s1.2];unfold insP;rw[zqv (zd4 (zbY hs) (by rw[znp u',h]))]
 | node l k' w' r=>
  obtain⟨rfl,n,ew,u,d⟩:=zbp h;show(plug k' (wl k' T - 1) T (node l k' w r)).ps=_;rw[ew,Nat.add_sub_cancel];obtain⟨A,B,e1,e2,e3,e4⟩:=zbW hs u;rw[e1]
  conv=>rhs;rw[e2]
  rw[zjq e3 e4,d];obtain⟨_,_,h3,h4⟩:=za0 (d ▸ zbY hs);show A++(l.ps++(k',w)::r.ps)++B=A++insP (l.ps++(k',w')::r.ps) k' w++B;rw[zkj h3 h4]
theorem zcA {ps:QH}(h:Srt ps)(f:Th ×Th->Bool):Srt (ps.filter f):=List.Pairwise.filter f h
theorem zoc {ps:QH}{x w:Th}(h:Srt ps):Srt (insP ps x w):=by
 refine List.pairwise_append.mpr ⟨zcA h _,List.pairwise_cons.mpr ⟨λp hp=>(List.mem_filter.mp hp).2,zcA h _⟩,λp hp q hq=>?_⟩;have a:=(List.mem_filter.mp hp).2;rcases List.mem_cons.mp hq with rfl | hq
 ·exact a
 ·exact zQ a (List.mem_filter.mp hq).2
theorem zn5 {ps:QH}{x w:Th}:(insP ps x w).length<=ps.length+1:=by
 unfold insP lo hi;rw[List.length_append,List.length_cons];have:∀qs:List (Th ×Th),(qs.filter λp=>zb p.1 x).length+(qs.filter λp=>zb x p.1).length<=qs.length:=λqs=>by
  induction qs with
  | nil=>exact Jb _
  | cons q qs ih=>
   rw[List.filter_cons,List.filter_cons];cases a:zb q.1 x with
   | true=>rw[zK a];show(q::qs.filter _).length+(qs.filter _).length<=_;rw[List.length_cons,List.length_cons];omega
   | false=>
    show(qs.filter _).length+(if zb x q.1=true then q::qs.filter _ else qs.filter _).length<=_;split
    ·rw[List.length_cons,List.length_cons];omega
    ·rw[List.length_cons];omega
 have:=this ps;omega
theorem zgU {ps:QH}{x w:Th}{p:Th ×Th}(h:p∈insP ps x w):p∈ps\/p=(x,w):=by
 rcases List.mem_append.mp h with h | h
 ·exact .inl (List.mem_filter.mp h).1
 ·rcases List.mem_cons.mp h with h | h
  ·exact .inr h
  ·exact .inl (List.mem_filter.mp h).1
end Pv
namespace L2
open PySem PySem.Spec PyProof.Rows
structure PEw (X:Cx)(e:Expr)(t:TE):Prop where
 h:PE X e t
structure PAw (X:Cx)(es:List Expr)(t:TA):Prop where
 h:PA X es t
structure PPw (X:Cx)(pos:Pos)(keys:List (Option Expr))(values:List Expr)(trs:List (TE ×TE)):Prop where
 h:PPs X pos keys values trs
structure PSw (X:Cx)(st:Stmt)(t:TS):Prop where
 h:PS X st t
structure PSq (X:Cx)(st:List Stmt)(t:TS):Prop where
 h:PSs X st t
section
variable {X:Cx}
end
end L2
namespace L2
open PySem PySem.Spec PyProof.Rows
section
variable {X:Cx}{pins:QE}{σ:St}{H:Hp}{s:Shared}{d:Addr}{kvs:QG}{o:Obj}
end
section
variable {X:Cx}{tg:Expr}
end
end L2
namespace L2
open PySem PySem.Spec PyProof.Rows PySem.W
section
variable {P:Program}{w:World}{A:Around}{E:QC}{s:Shared}{R:Result->Shared->Prop}{I l S:Addr}{items:Array Value}
end
section
variable {P:Program}{w:World}{A:Around}{E:QC}{s:Shared}{I l:Addr}{items:Array Value}
end
section
variable {X:Cx}{e:Expr}{te:TE}{p1 p2 q1 q2:Pos}
end
end L2
namespace L2
open PySem PySem.Spec PyProof.Rows PySem.W
noncomputable def Itv (K:QA)(p:Addr)(xs:QQ):It:=
 ⟨λn H=>SqL K H p xs/\n < xs.length,λn H v H'=>H'=H/\xs.reverse[n]? =some v,λn H=>SqL K H p xs/\xs.length<=n⟩
theorem zmy {P:Program}{w:World}{K:QA}{tg:Expr}{xs:QQ}(p it:Addr):Turn P w K tg (Itv K p xs) [it] it (λi h=>i<=xs.length/\h.IsRevIter it p ((xs.length:Int) - 1 - (i:Nat))) where
 mem:=by simp
 obj:=λi h st b hb=>by
  have e:b=it:=by simpa using hb
  subst e;obtain⟨_,o,e,c,d⟩:=st;exact⟨o,e,λv z=>by rw[d] at z;cases z⟩
 keep:=λi h h' st k=>⟨st.1,st.2.at λo e=>k it (by simp) o e⟩
 item:=by
  intro X hP hw hK hc i pins s σ H E I hf st hg;subst hP hw hK;obtain⟨hq,hi⟩:=hg;obtain⟨_,st⟩:=st;obtain⟨its,rv,p',hz⟩:=I.list hq;have hn:xs.length - 1 - i < xs.length:=by omega
  have hx:xs[xs.length - 1 - i]? =some xs[xs.length - 1 - i]:=List.getElem?_eq_getElem hn;obtain⟨u,hu,ru⟩:=rv.get hx;obtain⟨f0,f1,f2,f3,f4,f5⟩:=hf it (by simp);have en:(xs.length:Int) - 1 - (i:Nat)=((xs.length - 1 - i:Nat):Int):=by omega
  rw[en] at st;refine wpAny_pyNext_rev_item st p'.isList (x:=u) (by simpa using hu) λh' st' sb=>?_;have I1:Inv X pins σ H {s with heap:=h'}:=I.turned (t':=s.toks) (λb o hb e=>(sb.2 b hb).trans e) f0 f1 f3 f4 f5;obtain⟨o,e,c,d⟩:=id st';have en2:((xs.length - 1 - i:Nat):Int) - 1=(xs.length:Int) - 1 - ((i+1:Nat):Int):=by omega
  rw[en2] at st';exact⟨u,rfl,zft (s:={s with heap:=h'}) e c d (by decide) ⟨_,H,I1,ru,⟨rfl,by rw[List.getElem?_reverse hi];exact hx⟩,⟨hi,st'⟩,λb hb=>(hf b hb).1⟩⟩
 done:=by
  intro X hP hw hK hc i pins s σ H E I hf st hg;subst hP hw hK;obtain⟨hq,hx⟩:=hg;obtain⟨hi,st⟩:=st;obtain⟨f0,f1,f2,f3,f4,f5⟩:=hf it (by simp);have en:(xs.length:Int) - 1 - (i:Nat)= -1:=by omega
  rw[en] at st;exact wpAny_pyNext_rev_end (I.ok.hd hc) st λh' eb=>⟨rfl,I.turned (t':=s.toks) (λb o hb e=>eb b o hb e) f0 f1 f3 f4 f5⟩
 self:=λ_ _ _ _ _ st h=>wpAny_pyIter_revIter st.2 h
section
variable {X:Cx}
noncomputable def iRev (K:QA)(te:TE):TI:=fun σ H R=>te σ H λx H1=>∃(p:Addr) (xs:QQ),x=.ref p/\SqL K H1 p xs/\R (Itv K p xs) H1
theorem zqq {tg a:Expr}{te:TE}{p pos:Pos}(hg:Gl X "reversed") (hm:X.mg "reversed" =none) (he:PE X a te) (hs:starEach [a] X.env=[(false,eval a X.env)]:=by rfl):
  PI X tg (.Call (.Name "reversed" p) [a] [] pos) (iRev X.K te):=by
 intro pins s σ H R I h;refine wpAny_Call_Name_kw (zbj I hg hm (show bootBuiltins "reversed" =some (.type "reversed") from by rfl) ?_ (by decide) (by decide));refine PyProof.Rows.callWith_type1 ?_ hs rfl;rw[hs];show wpAny _ _ (spliced ((false,eval a X.env)::[])) _ _ s;refine Calls.spliced_cons (thn (he pins s σ H _ I h) λu t1 ⟨x,H1,I1,r1,p,ys,ex,hq,q⟩=>Calls.spliced_nil ?_);subst ex;cases (show u=Value.ref p from r1);obtain⟨its,rv,pl,hz⟩:=I1.list hq;have hlen:=rv.length;refine call_reversed_list pl.isList ?_;have hri:(t1.heap.push (revObj p ((its.toArray.size:Int) - 1))).IsRevIter t1.heap.objs.size p ((ys.length:Int) - 1 - ((0:Nat):Int)):=⟨_,Heap.get?_push_size _ rfl,rfl,by rw[List.size_toArray,<-hlen];simp[revObj]⟩;refine wpAny_pyIter_revIter (s:={t1 with heap:=t1.heap.push (revObj p ((its.toArray.size:Int) - 1))}) hri ?_;refine⟨t1.heap.objs.size,[t1.heap.objs.size],_,_,H1,rfl,I1.kept (t':=t1.toks) λb o e=>Heap.get?_push_of_some _ e,zmy p _,⟨Nat.zero_le _,hri⟩,λb hb=>?_,q⟩;have e:b=t1.heap.objs.size:=by simpa using hb
 subst e;exact I1.fpOk (Jb _) (I1.hok.fresh (Jb _))
theorem zgv {K:QA}{p:Addr}{xs:QQ}{g:TG}{tb:TS}{D:Ends}{σ:St}{H:Hp}(Pv:Nat->St->Hp->Prop)(h0:Pv 0 σ H)(hl:∀i σ H,Pv i σ H->SqL K H p xs)
  (hs:∀i x σ H,i < xs.length->xs.reverse[i]? =some x->Pv i σ H->g x σ H fun σ2 H2=>tb {D with nx:=Pv (i+1),ct:=Pv (i+1),bk:=D.nx} σ2 H2) (hd:∀σ H,Pv xs.length σ H->D.nx σ H):
  ∃W:Nat->Nat->St->Hp->Prop,(∃m,W 0 m σ H)/\∀i m σ H,W i m σ H->
   ((Itv K p xs).stop i H/\D.nx σ H)\/((Itv K p xs).go i H/\∃N:St->Hp->Prop,(∀σ' H',N σ' H'->∃m',m' < m/\W (i+1) m' σ' H')/\∀x H',(Itv K p xs).yld i H x H'->g x σ H' fun σ2 H2=>tb {D with nx:=N,ct:=N,bk:=D.nx} σ2 H2):=by
 refine⟨λi m σ H=>m=xs.length - i/\i<=xs.length/\Pv i σ H,⟨_,rfl,Nat.zero_le _,h0⟩,?_⟩;rintro i m σ H ⟨rfl,hi,p⟩;have q:=hl i σ H p;by_cases hlt:i < xs.length
 ·refine .inr ⟨⟨q,hlt⟩,Pv (i+1),fun σ' H' p'=>⟨_,by omega,rfl,hlt,p'⟩,λx H' y=>?_⟩;obtain⟨rfl,e1⟩:=y;exact hs i x σ _ hlt e1 p
 ·have e:i=xs.length:=by omega
  subst e;exact .inl ⟨⟨q,Jb _⟩,hd σ H p⟩
end
end L2
namespace L2
open PySem PySem.Spec PyProof.Rows
noncomputable def Ite (K:QA)(p:Addr)(xs:QQ):It:=
 ⟨λn H=>SqL K H p xs/\n < xs.length,λn H v H'=>∃(T:Addr) (x:V),H T=none/\xs[n]? =some x/\v=.ref T/\H'=upd H T (.tup [.int n,x]),λn H=>SqL K H p xs/\xs.length<=n⟩
theorem zkm {P:Program}{w:World}{K:QA}{elts:List Expr}{x1:Nat}{tpos:Pos}{e i p:Addr}{xs:QQ}(D:e≠i):
  Turn P w K (.Tuple elts x1 tpos) (Ite K p xs) [e,i] e (λn h=>(∃old,IsEnum h e i (n:Int) old)/\h.IsListIter i p n) where
 mem:=by simp
 obj:=λn h st b hb=>by
  obtain⟨⟨old,he⟩,⟨r1,e1,_,d1⟩⟩:=st;simp only[List.mem_cons,List.not_mem_nil,or_false] at hb;rcases hb with rfl | rfl
  ·exact⟨_,he,λv z=>by cases z⟩
  ·exact⟨_,e1,λv z=>by rw[d1] at z;cases z⟩
 keep:=λn h h' st kp=>by obtain⟨⟨old,he⟩,⟨r1,e1,x1⟩⟩:=st;exact⟨⟨old,kp e (by simp) _ he⟩,⟨r1,kp i (by simp) _ e1,x1⟩⟩
 item:=by
  intro X hP hw hK hc n pins s σ H E I hf st hg;subst hP hw hK;obtain⟨hp,hn⟩:=hg;obtain⟨⟨old,he⟩,hi⟩:=st;obtain⟨its,r1,T1,z1⟩:=I.list hp;have hx:xs[n]? =some xs[n]:=List.getElem?_eq_getElem hn;obtain⟨v1,e1,q1⟩:=r1.get hx;have fe:=hf e (by simp);have fi:=hf i (by simp);refine wpAny_pyNext_enum_item he hi T1.isList (x:=v1) (by simpa using e1) D λg eo ig new sz up=>?_;have hT:H s.heap.objs.size=none:=I.hok.fresh (Jb _);have inch:∀{b:Addr},H b≠none->b≠e/\b≠i:=λ{b} h=>⟨λz=>h (by rw[z];exact fe.1),λz=>h (by rw[z];exact fi.1)⟩;have hok:HOk X.prog X.w (upd H s.heap.objs.size (.tup [.int n,xs[n]])) g:=λb u e=>by
   by_cases hb:b=s.heap.objs.size
   ·subst hb;rw[za] at e;cases e;refine⟨by simp only[List.length_cons,List.length_nil];rw[sizeLine_eq];decide,[.int n s.toks,v1],.cons ⟨_,rfl⟩ (.cons q1 .nil),⟨_,new,rfl,_,rfl⟩⟩
   ·rw[zf hb] at e;refine(I.hok b u e).stay (λc r hc q=>?_) (λc q=>by rw[zf (zg q hT)];exact q) λc ys q=>by rw[zf (zg q hT)];exact q
    have hne:H c≠none:=by
     rcases hc with rfl | hc
     ·rw[e];intro z;cases z
     ·rw[hc];intro z;cases z
    obtain⟨c1,c2⟩:=inch hne;exact up c r c1 c2 q
  have I1:Inv X pins σ (upd H s.heap.objs.size (.tup [.int n,xs[n]])) {s with heap:=g,toks:=s.toks+1}:=by
   refine I.step (g':=s.gens) (d':=s.drawn) (t':=s.toks+1) (ch:=[e,i]) (λb hb=>?_) (λb r _ _ hc e _=>?_) (λb r _ _ hc e _=>⟨r.slots,?_⟩) (λb r hc e hn=>?_) (λb r hc e=>⟨r,?_⟩) (λb ys e=>by rw[zf (zg e hT)];exact e)
    (λb r ys e=>by rw[zf (zg e hT)];exact e) (λb ps e=>⟨#[],by rw[zf (zg e hT),e];simp⟩) (λm hm=>?_) hok I.bare
   ·simp only[List.mem_cons,List.not_mem_nil,or_false] at hb;rcases hb with rfl | rfl
    ·exact⟨fe.2.2.2.1,fe.2.1,fe.2.2.2.2.1,fe.2.2.2.2.2⟩
    ·exact⟨fi.2.2.2.1,fi.2.1,fi.2.2.2.2.1,fi.2.2.2.2.2⟩
   ·simp only[List.mem_cons,List.not_mem_nil,or_false,not_or] at hc;exact up b r hc.1 hc.2 e
   ·simp only[List.mem_cons,List.not_mem_nil,or_false,not_or] at hc;exact up b r hc.1 hc.2 e
   ·rw[zf (Jg (Heap.lt_size e))];exact hn
   ·simp only[List.mem_cons,List.not_mem_nil,or_false,not_or] at hc;exact up b r hc.1 hc.2 e
   ·obtain⟨r,es,ep,er,d⟩:=hm;exact⟨r,es,ep,up _ r (Ne.symm fe.2.1) (Ne.symm fi.2.1) er,d⟩
  have le:e < s.heap.objs.size:=Heap.lt_size he;have hfp:∀b∈ [e,i],upd H s.heap.objs.size (.tup [.int n,xs[n]]) b=none:=λb hb=>by
   have fb:=hf b hb;have lt:b < s.heap.objs.size:=by
    obtain⟨r1,e1,_⟩:=hi;simp only[List.mem_cons,List.not_mem_nil,or_false] at hb;rcases hb with rfl | rfl
    ·exact le
    ·exact Heap.lt_size e1
   rw[zf (Jg lt)];exact fb.1
  refine⟨_,rfl,wpAny_letOwnedTupleGo_enum eo λg2 e2 s2=>?_⟩;refine⟨.ref s.heap.objs.size,_,I1.turned (it:=e) (t':=s.toks+1) (λb r hb q=>s2.extBut _ _ hb q) (hfp e (by simp)) fe.2.1 fe.2.2.2.1 fe.2.2.2.2.1 fe.2.2.2.2.2,rfl,⟨_,_,hT,hx,rfl,rfl⟩,⟨⟨_,e2⟩,ig.extBut s2.extBut (Ne.symm D)⟩,hfp⟩
 done:=by intro X hP hw hK hc n pins s σ H E I hf st hg;subst hP hw hK;obtain⟨hp,hn⟩:=hg;obtain⟨⟨old,he⟩,hi⟩:=st;obtain⟨its,r1,T1,z1⟩:=I.list hp;have fi:=hf i (by simp);have l1:=r1.length;refine wpAny_pyNext_enum_end (I.ok.hd hc) he hi T1.isList (by simp;omega) λg up=>⟨rfl,?_⟩;exact I.turned (it:=i) (t':=s.toks) up fi.1 fi.2.1 fi.2.2.2.1 fi.2.2.2.2.1 fi.2.2.2.2.2
 self:=λ_ _ _ _ _ st h=>by obtain⟨⟨old,he⟩,hi⟩:=st;exact wpAny_pyIter_enum he h
section
variable {X:Cx}
noncomputable def zrT (K:QA)(ta:TA):TI:=fun σ H R=>ta σ H λvs H1=>∃(p:Addr) (xs:QQ),vs=[.ref p]/\SqL K H1 p xs/\R (Ite K p xs) H1
theorem zoj {elts:List Expr}{x1:Nat}{tpos:Pos}{a:Expr}{ta:TA}{p pos:Pos}(hg:Gl X "enumerate") (hm:X.mg "enumerate" =none) (ha:PA X [a] ta) (hs:starEach [a] X.env=[(false,eval a X.env)]:=by rfl):
  PI X (.Tuple elts x1 tpos) (.Call (.Name "enumerate" p) [a] [] pos) (zrT X.K ta):=by
 intro pins s σ H R I h;refine Call_ (zbj I hg hm (u:=.type "enumerate") (by rfl) (PyProof.Rows.callWith_type1 (thn (ha pos pins s σ H _ I h) λus s1 ⟨vs,H1,I1,r1,q1⟩=>?_) (by rw[hs];rfl) rfl));obtain⟨p1,xs,rfl,hp,q⟩:=q1;obtain⟨u,rfl,ru⟩:=Vals.one r1;cases (show u=Value.ref _ from ru);obtain⟨its,r1,T1,z1⟩:=I1.list hp;refine call_enumerate_list T1.isList λg eg ig sz up=>wpAny_pyIter_enum eg ?_;refine⟨_,_,_,_,H1,rfl,I1.kept (t':=s1.toks) up,zkm (show s1.heap.objs.size+1≠s1.heap.objs.size by omega),⟨⟨_,eg⟩,ig⟩,λb hb=>?_,q⟩;have hb':s1.heap.objs.size<=b:=by
  simp only[List.mem_cons,List.not_mem_nil,or_false] at hb;rcases hb with rfl | rfl
  ·exact Nat.le_add_right _ _
  ·exact Jb _
 exact I1.fpOk hb' (I1.hok.fresh hb')
theorem zhp {K:QA}{p:Addr}{xs:QQ}{g:TG}{tb:TS}{D:Ends}{σ:St}{H:Hp}(Pv:Nat->St->Hp->Prop)(h0:Pv 0 σ H)(hl:∀i σ H,Pv i σ H->SqL K H p xs)
  (hs:∀i x T σ H,xs[i]? =some x->H T=none->Pv i σ H->g (.ref T) σ (upd H T (.tup [.int i,x])) fun σ2 H2=>tb {D with nx:=Pv (i+1),ct:=Pv (i+1),bk:=D.nx} σ2 H2) (hd:∀σ H,Pv xs.length σ H->D.nx σ H):
  ∃W:Nat->Nat->St->Hp->Prop,(∃m,W 0 m σ H)/\∀i m σ H,W i m σ H->
   ((Ite K p xs).stop i H/\D.nx σ H)\/((Ite K p xs).go i H/\∃N:St->Hp->Prop,(∀σ' H',N σ' H'->∃m',m' < m/\W (i+1) m' σ' H')/\∀x H',(Ite K p xs).yld i H x H'->g x σ H' fun σ2 H2=>tb {D with nx:=N,ct:=N,bk:=D.nx} σ2 H2):=by
 refine⟨λi m σ H=>m=xs.length - i/\i<=xs.length/\Pv i σ H,⟨_,rfl,Nat.zero_le _,h0⟩,?_⟩;rintro i m σ H ⟨rfl,hi,p⟩;have q:=hl i σ H p;by_cases hlt:i < xs.length
 ·refine .inr ⟨⟨q,hlt⟩,Pv (i+1),fun σ' H' p'=>⟨_,by omega,rfl,hlt,p'⟩,λx H' y=>?_⟩;obtain⟨T,a,hT,e1,rfl,rfl⟩:=y;exact hs i a T σ H e1 hT p
 ·have e:i=xs.length:=by omega
  subst e;exact .inl ⟨⟨q,Jb _⟩,hd σ H p⟩
end
end L2
namespace Pv
open PySem L2
open Tr
noncomputable def inR (a b:Th)(p:Th ×Th):Bool:=(decide (a=.non) || !zb p.1 a) && (decide (b=.non) || zb p.1 b)
noncomputable def rng (a b:Th)(ps:QH):List (Th ×Th):=ps.filter (inR a b)
noncomputable def zeF (a b:Th):Bool:= !decide (a=.non) && (!decide (b=.non) && !zb a b)
noncomputable def zby (a k:Th):Bool:=decide (a=.non) || zb a k
noncomputable def zbx (b k:Th):Bool:=decide (b=.non) || zb k b
end Pv
namespace Pv
open PySem L2
open Tr
noncomputable def Abv:Tr->Prop
 | nil=>True
 | node l k _ r=>(∀p∈l.ps,zac k p.1=true)/\(∀p∈r.ps,zac k p.1=true)/\Abv l/\Abv r
noncomputable def Tr.joinT:Tr->Tr->Tr
 | nil,R=>R
 | node l k w r,nil=>node l k w r
 | node l k w r,node l' k' w' r'=>if zac k k'=true then node l k w (joinT r (node l' k' w' r')) else node (joinT (node l k w r) l') k' w' r'
 termination_by L R=>sizeOf L+sizeOf R
theorem zkW (L:Tr):joinT L nil=L:=by
 cases L with
 | nil=>rw[joinT]
 | node l k w r=>rw[joinT]
theorem zd1:∀(L R:Tr),(joinT L R).ps=L.ps++R.ps
 | nil,R=>by rw[joinT];rfl
 | node l k w r,nil=>by rw[joinT];exact(List.append_nil _).symm
 | node l k w r,node l' k' w' r'=>by
  rw[joinT];by_cases c:zac k k'=true
  ·rw[if_pos c];show l.ps++(k,w)::(joinT r (node l' k' w' r')).ps=(l.ps++(k,w)::r.ps)++_;rw[zd1 r (node l' k' w' r')];simp
  ·rw[if_neg c];show(joinT (node l k w r) l').ps++(k',w')::r'.ps=_++(l'.ps++(k',w')::r'.ps);rw[zd1 (node l k w r) l'];simp
 termination_by L R=>sizeOf L+sizeOf R
noncomputable def Tr.cutT (x:Th)(T:Tr):Tr:=
 match own x T with
 | nil=>T
 | node l _ _ r=>plug x (wl x T - 1) T (joinT l r)
noncomputable def offP (ps:QH)(x:Th):List (Th ×Th):=ps.filter λp=>!eqT p.1 x
theorem zmQ {p x:Th}(h:p≠x):(!eqT p x)=true:=by
 cases z:eqT p x with
 | true=>exact Je ((zaT p x).mp z) h
 | false=>rfl
theorem zck {ps:QH}{x:Th}(h:∀p∈ps,p.1≠x):offP ps x=ps:=List.filter_eq_self.mpr λp hp=>zmQ (h p hp)
theorem zcz {x:Th}{T:Tr}(hs:Srt T.ps):(cutT x T).ps=offP T.ps x:=by
 unfold cutT;cases z:own x T with
 | nil=>exact(zck (zd4 hs z)).symm
 | node l k v r=>
  obtain⟨rfl,n,ew,u,d⟩:=zbp z;show(plug k (wl k T - 1) T (joinT l r)).ps=_;rw[ew,Nat.add_sub_cancel];obtain⟨A,B,e1,e2,e3,e4⟩:=zbW hs u;obtain⟨_,_,h3,h4⟩:=za0 (d ▸ zbY hs);rw[e1,zd1]
  conv=>rhs;rw[e2,d]
  unfold offP;rw[List.filter_append,List.filter_append];have nA:∀p∈A,p.1≠k:=λp hp e=>by have:=e3 p hp;rw[e,zF] at this;cases this
  have nB:∀p∈B,p.1≠k:=λp hp e=>by have:=e4 p hp;rw[e,zF] at this;cases this
  have nl:∀p∈l.ps,p.1≠k:=λp hp e=>by have:=h3 p hp;rw[e,zF] at this;cases this
  have nr:∀p∈r.ps,p.1≠k:=λp hp e=>by have:=h4 p hp;rw[e,zF] at this;cases this
  have:=zck nA;have hA:A.filter (λp=>!eqT p.1 k)=A:=zck nA;have hB:B.filter (λp=>!eqT p.1 k)=B:=zck nB;have hl:l.ps.filter (λp=>!eqT p.1 k)=l.ps:=zck nl;have hr:r.ps.filter (λp=>!eqT p.1 k)=r.ps:=zck nr;rw[hA,hB];show A++(l.ps++r.ps)++B=A++(l.ps++(k,v)::r.ps).filter (λp=>!eqT p.1 k)++B;rw[List.filter_append,List.filter_cons,hl,hr,za4]
  rfl
end Pv
namespace L2
open PySem PySem.Spec PyProof.Rows
section
variable {X:Cx}
end
end L2
namespace L2
open PySem PySem.Spec PyProof.Rows
section
variable {X:Cx}
end
end L2
namespace Px
open PySem PySem.W PySem.Builtin
section
variable {prog:Program}{w:World}{A:Around}{E:QC}{s:Shared}{K:Frag}{x D:Addr}{ox:Obj}{od:Option Obj}
theorem zkZ {Q:Option Value->Shared->Prop}(X:K.In s.heap)(I:InstAt s.heap x ox D od)(hp:zb7 K D=true)(he:findIn K (.ref D) "__eq__" =some (some (.builtin "object.__eq__")))
  (h:Q (some (.bool true)) s):wpAny (model prog w) A (callSpecialIfBound? (.ref x) "__eq__" [.ref x]) Q E s:=by
 have isO:=zgJ (M:=model prog w) (T:= "object") X I hp (by decide);obtain⟨hp',g,d,t,os⟩:=s;have L1:=looks_findIn (M:=model prog w) X he;have S:=F.cmp_object.eq;have sp:∀{Q:Option Value->Shared->Prop},Q (some (.builtin "object.__eq__")) ⟨hp',g,d,t,os⟩->wpAny (model prog w) A (specialOf (.ref x) "__eq__") Q E ⟨hp',g,d,t,os⟩:=λ{Q} q=>by
  unfold specialOf
  repeat (first | (with_reducible refine wpAny_loadPart_at I.at_ ?_;rw[I.cls]) | with_reducible refine L1.at ?_ | wp_step)
  exact q
 simp only[callSpecialIfBound?,bindSpecialIfBound?];refine wpAny_holding (Ja (Ja (sp ?_)));simp only[S.bind];have cl:wpAny (model prog w) A (call (.builtin "object.__eq__") [.ref x,.ref x]) (λv=>Q (some v)) E ⟨hp',g,d,t,os⟩:=
  wpAny_call (codeAny_call_builtin S.plain F.cmpEntry_eq (check_slot F.cmpKind_eq F.cmpSplit_eq isO (F.cmpArgs_eq _ _) (objEq_entry_same h)))
 have fin:wpAny (model prog w) A (call (.builtin "object.__eq__") ([.ref x]++ [.ref x]) >>=λv=>pure (some v)) Q E ⟨hp',g,d,t,os⟩:=
  Ja (wpAny_mono cl (λv s' h'=>wpAny_pure h') λ_ _ h'=>h')
 refine Ja (wpAny_askSetting (wpAny_ite ?_));split
 ·exact Ja (wpAny_pure (wpAny_pure fin))
 ·exact wpAny_tryCatch (Ja (wpAny_pure (wpAny_pure fin)))
theorem zlT {Q:QC}(X:K.In s.heap)(I:InstAt s.heap x ox D od)(hp:zb7 K D=true)(he:findIn K (.ref D) "__eq__" =some (some (.builtin "object.__eq__"))) (hu:A.units < cLine)
  (h:Q (.bool true) s):wpAny (model prog w) A (richCompare .Eq (.ref x) (.ref x)) Q E s:=by
 have tc:∀{Q:Option Value->Shared->Prop},Q (some (.bool true)) s->wpAny (model prog w) A (tryCompare (.ref x) "__eq__" (.ref x)) Q E s:=λ{Q} q=>by simp only[tryCompare];exact Ja (zkZ X I hp he (wpAny_pure q))
 obtain⟨hp',g,d,t,os⟩:=s;have rf:∀{α:Type} {k:Bool->Sem α} {Q:α->Shared->Prop},wpAny (model prog w) A (k false) Q E ⟨hp',g,d,t,os⟩->wpAny (model prog w) A (if Value.ref D !=Value.ref D then isSubtype (.ref D) (.ref D) >>=k else pure false >>=k) Q E ⟨hp',g,d,t,os⟩:=λ{α k Q} q=>by rw[if_neg (by simp)];exact Ja (wpAny_pure q)
 simp only[richCompare,cmpInfo_Eq,oneThing_ref]
 repeat (first | with_reducible refine wpAny_cRoomFor hu ?_ | (with_reducible refine wpAny_loadPart_at I.at_ ?_;rw[I.cls]) | with_reducible refine rf ?_ | with_reducible refine tc ?_ | wp_step)
 exact h
end
end Px
namespace L2
open PySem PySem.Spec PyProof.Rows Px
section
variable {X:Cx}
theorem zsz {k:Nat}(hr:Room k X.A):OpR X (compareOp .Eq) (λx y H Q=>∃a C,x=.ref a/\y=.ref a/\H a=some (exO a C none true)/\zhL X.K C/\PySem.W.findIn X.K (.ref C) "__eq__" =some (some (.builtin "object.__eq__"))/\Q (.bl true) H):=by intro pins s σ H x y v w Q I rx ry h;obtain⟨a,C,rfl,rfl,e,kd,he,q⟩:=h;cases (show v=Value.ref a from rx);cases (show w=Value.ref a from ry);have hu:=hr.units;obtain⟨vs,sl,ge,_⟩:=zaF I.hok e;exact zlT (od:=none) I.kIn ⟨ge,rfl,rfl,trivial⟩ kd.cl.ov he (by omega) ⟨.bl _,H,I,rfl,q⟩
theorem zhC {k:Nat}(hr:Room k X.A):OpR X (compareOp .Eq) (λx y H Q=>∃a b xs,x=.ref a/\y=.ref b/\SqL X.K H a xs/\SqL X.K H b []/\Q (.bl (xs.isEmpty)) H):=by
 intro pins s σ H x y v w Q I rx ry h;obtain⟨a,b,xs,rfl,rfl,e,e',q⟩:=h;cases (show v=Value.ref a from rx);cases (show w=Value.ref b from ry);have hu:=hr.units;obtain⟨its,r1,T1,_⟩:=I.list e;obtain⟨jts,r2,T2,_⟩:=I.list e';have n1:=r1.length;have n2:=r2.length;cases xs with
 | nil=>
  have z1:its=[]:=by cases its with | nil=>rfl | cons=>simp at n1
  have z2:jts=[]:=by cases jts with | nil=>rfl | cons=>simp at n2
  subst z1 z2;exact(PySem.SeqAt.RcAt.lists (e:=λ_=>true) T1.isList T2.isList rfl (by omega) (λj h1=>Je h1 (Nat.not_lt_zero _))) _ _ _ _ ⟨.bl _,H,I,rfl,q⟩
 | cons c xs=>
  have z2:jts=[]:=by cases jts with | nil=>rfl | cons=>simp at n2
  subst z2;have hsz:(its.toArray.size != (#[]:Array Value).size)=true:=by rw[List.size_toArray,bne_iff_ne,<-n1,List.length_cons];exact Nat.succ_ne_zero _
  exact(PySem.SeqAt.RcAt.lists_lengths T1.isList T2.isList hsz (by omega)) _ _ _ _ ⟨.bl _,H,I,rfl,q⟩
end
end L2
namespace Pv
open PySem L2
inductive Ob where
 | non | bl (b:Bool) | int (i:Int) | str (x:Str) | tup (ts:List Ob) | odd (k:Nat)
inductive RepO (CN:Addr) (H:Hp):Ob->V->Prop where
 | non:RepO CN H .non .non
 | bl (b:Bool):RepO CN H (.bl b) (.bl b)
 | int (i:Int):RepO CN H (.int i) (.int i)
 | str (x:Str):RepO CN H (.str x) (.str x)
 | tup {a:Addr} {xs:QQ} {ts:List Ob} (e:H a=some (.tup xs)) (l:xs.length=ts.length) (h:∀(i:Nat) (x:V) (t:Ob),xs[i]? =some x->ts[i]? =some t->RepO CN H t x):RepO CN H (.tup ts) (.ref a)
 | lst {a:Addr} {xs:QQ} (e:H a=some (.lst xs)):RepO CN H (.odd 0) (.ref a)
 | dic {a:Addr} {kvs:QG} (e:H a=some (.dK kvs)):RepO CN H (.odd 1) (.ref a)
 | exc {a:Addr} (e:H a=some (exO a CN none true)):RepO CN H (.odd 2) (.ref a)
noncomputable def Kept (H H':Hp):Prop:=∀b o,H b=some o->H' b=some o\/∃xs ys,o=.lst xs/\H' b=some (.lst ys)
theorem Kept.of {H H':Hp}(s:Same H H'):Kept H H':=λb o e=>.inl (s b o e)
theorem Kept.other {H H':Hp}(k:Kept H H'){b:Addr}{o:HO}(n:∀xs,o≠ .lst xs)(e:H b=some o):H' b=some o:=by
 rcases k b o e with h | ⟨xs,_,h,_⟩
 ·exact h
 ·exact Je h (n xs)
theorem RepO.keep {CN:Addr}{H H':Hp}{t:Ob}{v:V}(r:RepO CN H t v)(k:Kept H H'):RepO CN H' t v:=by
 induction r with
 | non=>exact .non
 | bl b=>exact .bl b
 | int i=>exact .int i
 | str x=>exact .str x
 | tup e l h ih=>exact .tup (k.other (by intro xs z;cases z) e) l ih
 | lst e=>
  rcases k _ _ e with h | ⟨_,ys,_,h⟩
  ·exact .lst h
  ·exact .lst h
 | dic e=>exact .dic (k.other (by intro xs z;cases z) e)
 | exc e=>exact .exc (k.other (by intro xs z;cases z) e)
mutual
noncomputable def ofT:Th->Ob
 | .non=>.non
 | .int i=>.int i
 | .str x=>.str x
 | .tup ts=>.tup (ofL ts)
noncomputable def ofL:List Th->List Ob
 | []=>[]
 | t::r=>ofT t::ofL r
end
mutual
noncomputable def zrI:Ob->Nat
 | .tup ts=>zmf ts+1
 | _=>0
noncomputable def zmf:List Ob->Nat
 | []=>0
 | t::r=>max (zrI t) (zmf r)
end
mutual
noncomputable def OkO:Ob->Prop
 | .str x=>x.length<=900/\∀c∈x.cps.toList,c≠37
 | .tup ts=>ts.length<=900/\OkOL ts
 | _=>True
noncomputable def OkOL:List Ob->Prop
 | []=>True
 | t::r=>OkO t/\OkOL r
end
noncomputable def zaw (c:Nat):Bool:=decide (32<=c) && decide (c<=126) && !decide (c=37)
noncomputable def absB (i:Int):Bool:=decide ((if i < 0 then -i else i)<=(10:Int) ^ (30:Int).toNat)
mutual
noncomputable def within:Ob->Nat->Bool
 | .non,_=>true
 | .bl _,_=>false
 | .int i,_=>absB i
 | .str x,_=>decide (x.length<=60) && x.cps.toList.all zaw
 | .tup ts,d=>match d with | 0=>false | d+1=>decide (ts.length<=40) && zj0 ts d
 | .odd _,_=>false
noncomputable def zj0:List Ob->Nat->Bool
 | [],_=>true
 | t::r,d=>within t d && zj0 r d
end
mutual
noncomputable def zrX:Ob->Bool
 | .non=>true
 | .bl _=>false
 | .int i=>absB i
 | .str x=>decide (x.length < 61) && x.cps.toList.all λc=>!(decide (c < 32) || decide (126 < c))
 | .tup ts=>decide (ts.length<=40) && znf ts
 | .odd _=>false
noncomputable def znf:List Ob->Bool
 | []=>true
 | t::r=>zrX t && znf r
end
inductive Kd where | tuple | str | int | bool | list
noncomputable def Kd.nm:Kd->String
 | .tuple=> "tuple" | .str=> "str" | .int=> "int" | .bool=> "bool" | .list=> "list"
noncomputable def zdM:Ob->Kd->Bool
 | .bl _,.bool=>true
 | .bl _,.int=>true
 | .int _,.int=>true
 | .str _,.str=>true
 | .tup _,.tuple=>true
 | .odd 0,.list=>true
 | _,_=>false
structure NTk (K:QA)(CN:Addr):Prop where
 kd:zhL K CN
 k1:PySem.W.kitOne K (.ref CN) (.type "tuple")=some false
 k2:PySem.W.kitOne K (.ref CN) (.type "str")=some false
 k3:PySem.W.kitOne K (.ref CN) (.type "int")=some false
 k4:PySem.W.kitOne K (.ref CN) (.type "bool")=some false
 k5:PySem.W.kitOne K (.ref CN) (.type "list")=some false
 he:PySem.W.findIn K (.ref CN) "__eq__" =some (some (.builtin "object.__eq__"))
noncomputable def zqx (CN:Addr):List V->Hp->VK->Prop:=λxs H Q=>∃(t:Ob) (v:V) (c:Kd),xs=[v,.ty c.nm]/\RepO CN H t v/\Q (.bl (zdM t c)) H
section
variable {X:Cx}{CN:Addr}
theorem zT (nt:NTk X.K CN):z9 X (.builtin "isinstance") (zqx CN):=by
 intro pins s σ H xs us Q I r h;obtain⟨t,v,c,rfl,rv,q⟩:=h;cases rv with
 | non=>exact zJ pins s σ H _ us Q I r ⟨_,_,_,false,rfl,.non,by cases c <;> rfl,by cases c <;> exact q⟩
 | bl b=>exact zJ pins s σ H _ us Q I r ⟨_,_,_,zdM (.bl b) c,rfl,.bl b,by cases c <;> rfl,q⟩
 | int i=>exact zJ pins s σ H _ us Q I r ⟨_,_,_,zdM (.int i) c,rfl,.int i,by cases c <;> rfl,q⟩
 | str x=>exact zJ pins s σ H _ us Q I r ⟨_,_,_,zdM (.str x) c,rfl,.str x,by cases c <;> rfl,q⟩
 | @tup a xs ts e l h=>exact zJ pins s σ H _ us Q I r ⟨_,_,_,zdM (.tup ts) c,rfl,.tup e,by cases c <;> rfl,q⟩
 | lst e=>exact zJ pins s σ H _ us Q I r ⟨_,_,_,zdM (.odd 0) c,rfl,.lst e,by cases c <;> rfl,q⟩
 | dic e=>exact zJ pins s σ H _ us Q I r ⟨_,_,_,zdM (.odd 1) c,rfl,.dK e,by cases c <;> rfl,q⟩
 | exc e=>exact z6 pins s σ H _ us Q I r ⟨_,CN,none,true,_,zdM (.odd 2) c,rfl,e,nt.kd,(λd z=>nomatch z),q,.inl ⟨_,rfl,by cases c <;> first | exact nt.k1 | exact nt.k2 | exact nt.k3 | exact nt.k4 | exact nt.k5⟩⟩
end
end Pv
namespace L2
open PySem PySem.Spec PyProof.Rows
section
variable {X:Cx}
end
end L2
namespace Pv
noncomputable def zrZ (w:List Nat):Bool:=decide (w.head? =some 39) && (decide (w.length=1) || decide (w.getLast? ≠some 39))
noncomputable def mt (w:List Nat):List Nat->List (List Nat)
 | []=>[w]
 | c::r=>if c=32/\zrZ w=false then w::mt [] r else mt (w++ [c]) r
noncomputable def pw:Nat->List Nat->List Nat->Option (List (List Nat))
 | 0,w,[]=>if w=[] then none else some [w]
 | 0,w,c::r=>if c=32 then(if w=[] then none else(pw 0 [] r).map (w:: ·)) else if c=39 then(if w=[] then pw 1 [39] r else none) else pw 0 (w++ [c]) r
 | 1,_,[]=>none
 | 1,w,c::r=>if c=39 then pw 2 (w++ [39]) r else pw 1 (w++ [c]) r
 | _,w,[]=>some [w]
 | _,w,c::r=>if c=32 then(pw 0 [] r).map (w:: ·) else none
noncomputable def joined:List Nat->List (List Nat)->List Nat
 | p,[]=>p
 | p,q::qs=>p++32::joined q qs
open PySem
end Pv
namespace Pv
open PySem PySem.NumText
end Pv
namespace Px
open PySem PySem.W PySem.Builtin
open PySem.AutoSeq1 (wpAny_loadPart')
section
variable {prog:Program}{w:World}{A:Around}{E:QC}{s:Shared}
end
end Px
namespace L2
open PySem PySem.Spec PyProof.Rows Px
section
variable {X:Cx}{e:Expr}{ta:TA}{p1 p2 q1 q2:Pos}
end
end L2
namespace L2
open PySem PySem.Spec PyProof.Rows PySem.SeqAt
section
variable {X:Cx}
noncomputable abbrev _root_.Jj:=@List.all_eq_true
theorem zpF {pins:QE}{σ:St}{H:Hp}{s:Shared}(I:Inv X pins σ H s){a b:Addr}{xs:QQ}{A:Around}(e:SqL X.K H a xs)(e':SqL X.K H b xs)(h:∀x∈xs,zaO x=true/\eqV x x=true)(hu:A.units+60 < cLine):
  RcAt A s (.ref a) (.ref b) true/\RcNeAt A s (.ref a) (.ref b) false:=by
 obtain⟨its,r1,T1,_⟩:=I.list e;obtain⟨jts,r2,T2,_⟩:=I.list e';have n1:=r1.length;have n2:=r2.length;have key:∀j (h1:j < its.toArray.size) (h2:j < jts.toArray.size),EqAt A.in1 s its.toArray[j] jts.toArray[j] true:=λj h1 h2=>by
  have h1':j < its.length:=by simpa using h1
  have h2':j < jts.length:=by simpa using h2
  have hx:xs[j]? =some xs[j]:=List.getElem?_eq_getElem (show j < xs.length by omega);obtain⟨vx,ex,rx⟩:=r1.get hx;obtain⟨vy,ey,ry⟩:=r2.get hx;have z1:its.toArray[j]=vx:=by rw[List.getElem?_eq_getElem h1'] at ex;simpa using Option.some.inj ex
  have z2:jts.toArray[j]=vy:=by rw[List.getElem?_eq_getElem h2'] at ey;simpa using Option.some.inj ey
  rw[z1,z2];obtain⟨f1,f2⟩:=h xs[j] (Jn (show j < xs.length by omega));have:=ziW (A:=A.in1) (s:=s) rx ry f1 f1;rw[f2] at this;exact this
 have hsz:its.toArray.size=jts.toArray.size:=by rw[List.size_toArray,List.size_toArray];omega
 have R:=RcAt.lists (e:=λ_=>true) T1.isList T2.isList hsz (show A.units < cLine by omega) key;have R':=RcNeAt.lists (e:=λ_=>true) T1.isList T2.isList hsz (show A.units < cLine by omega) key;have e3:(List.range its.toArray.size).all (λ_=>true)=true:=Jj.mpr λ_ _=>rfl;rw[e3] at R R';exact⟨R,R'⟩
theorem znZ {k:Nat}(hr:Room k X.A):OpR X (compareOp .Eq) (λx y H Q=>∃a b xs,x=.ref a/\y=.ref b/\SqL X.K H a xs/\SqL X.K H b xs/\(∀x∈xs,zaO x=true/\eqV x x=true)/\Q (.bl true) H):=by intro pins s σ H x y v w Q I rx ry h;obtain⟨a,b,xs,rfl,rfl,e1,e2,hf,q⟩:=h;cases (show v=Value.ref a from rx);cases (show w=Value.ref b from ry);have hu:=hr.units;exact(zpF I e1 e2 hf (by omega)).1 _ _ _ _ ⟨.bl _,H,I,rfl,q⟩
theorem zjs {k:Nat}(hr:Room k X.A):OpR X (compareOp .NotEq) (λx y H Q=>∃a b xs,x=.ref a/\y=.ref b/\SqL X.K H a xs/\SqL X.K H b xs/\(∀x∈xs,zaO x=true/\eqV x x=true)/\Q (.bl false) H):=by intro pins s σ H x y v w Q I rx ry h;obtain⟨a,b,xs,rfl,rfl,e1,e2,hf,q⟩:=h;cases (show v=Value.ref a from rx);cases (show w=Value.ref b from ry);have hu:=hr.units;exact(zpF I e1 e2 hf (by omega)).2 _ _ _ _ ⟨.bl _,H,I,rfl,q⟩
theorem zix:∀bs:List Bool,∀x∈bs.map V.bl,zaO x=true/\eqV x x=true:=λbs x hx=>by obtain⟨b,_,rfl⟩:=List.mem_map.mp hx;cases b <;> exact⟨rfl,rfl⟩
end
end L2
namespace L2
open PySem PySem.Spec PyProof.Rows
section
variable {X:Cx}
theorem ze9 {k:Nat}(hr:Room k X.A):OpR X (compareOp .NotEq) (λx y H Q=>∃a b xs,x=.ref a/\y=.ref b/\SqL X.K H a xs/\SqL X.K H b []/\Q (.bl (!xs.isEmpty)) H):=by
 intro pins s σ H x y v w Q I rx ry h;obtain⟨a,b,xs,rfl,rfl,e,e',q⟩:=h;cases (show v=Value.ref a from rx);cases (show w=Value.ref b from ry);have hu:=hr.units;obtain⟨its,r1,T1,_⟩:=I.list e;obtain⟨jts,r2,T2,_⟩:=I.list e';have n1:=r1.length;have n2:=r2.length;cases xs with
 | nil=>
  have z1:its=[]:=by cases its with | nil=>rfl | cons=>simp at n1
  have z2:jts=[]:=by cases jts with | nil=>rfl | cons=>simp at n2
  subst z1 z2;exact(PySem.SeqAt.RcNeAt.lists (e:=λ_=>true) T1.isList T2.isList rfl (by omega) (λj h1=>Je h1 (Nat.not_lt_zero _))) _ _ _ _ ⟨.bl _,H,I,rfl,q⟩
 | cons c xs=>
  have z2:jts=[]:=by cases jts with | nil=>rfl | cons=>simp at n2
  subst z2;have hsz:(its.toArray.size != (#[]:Array Value).size)=true:=by rw[List.size_toArray,bne_iff_ne,<-n1,List.length_cons];exact Nat.succ_ne_zero _
  exact(PySem.SeqAt.RcNeAt.lists_lengths T1.isList T2.isList hsz (by omega)) _ _ _ _ ⟨.bl _,H,I,rfl,q⟩
theorem zkv:OpR X (compareOp .Gt) (λx y H Q=>∃i j,x=.str i/\y=.str j/\Q (.bl (decide (j.cps.toList < i.cps.toList))) H):=by intro pins s σ H x y v u Q I rx ry h;obtain⟨i,j,rfl,rfl,q⟩:=h;obtain⟨t,rfl⟩:=rx;obtain⟨t',rfl⟩:=ry;exact PySem.P.gt_str (zw I q rfl)
end
end L2
namespace Px
open PySem PySem.Spec PyProof.Rows
section
variable {prog:Program}{w:World}{A:Around}{K:Type} [DecidableEq K]{knd:KeyKind prog w K}
theorem fill {R:Result->Shared->Prop}{I S:Addr}{fp wr:QO}{G:Array GenState->Array GenState->Prop}{n:Nat}{P:Nat->Value->Prop}{St:Nat->Shared->Prop}(W:WalksS prog w A.in1 I fp wr G n P St)(hS:S∉fp){val:Nat->K}{F:Nat->K->Bool}{c:Nat->Nat}
  (hF:∀i,i < n->∀k,F (i+1) k=(F i k || decide (k=val i))) (hc:∀i,c (i+1)=if F i (val i) then c i else c i+1) (hv:∀i v,P i v->knd.is (val i) v=true/\v.scannable=true) (hb:∀i,i<=n->c i+1 < scanBound):
  ∀(k i:Nat) (s:Shared),i+k=n->St i s->s.heap.SetOf knd S (F i) (c i)->(∀s',Moved (S::wr) G s s'->s'.heap.SetOf knd S (F n) (c n)->R (.ok (.ret .none)) s')->codeAny (model prog w) A (.builtin "set.update.loop" ⟨[.ref S,.ref I],[]⟩) R s:=by
 have nw:S∉wr:=λh=>hS (W.sub _ h);intro k
 induction k with
 | zero=>intro i s e st so hR;obtain rfl:i=n:=e;refine codeAny_builtin PyProof.Rows.F.entry_set_update_loop ?_;rw[Around.under_plainId PyProof.Rows.F.plain_set_update_loop _];refine Ja (m:=pyNext (.ref I)) (W.done s _ _ st λs' mv=>wpAny_pure (hR s' (mv.mono λb h=>Jh _ h) ?_));obtain⟨o,es,ep,t,ho,r⟩:=so;exact⟨o,es,ep,t,mv.heap S _ nw ho,r⟩
 | succ k ih=>
  intro i s e st so hR;refine codeAny_builtin PyProof.Rows.F.entry_set_update_loop ?_;rw[Around.under_plainId PyProof.Rows.F.plain_set_update_loop _];refine Ja (m:=pyNext (.ref I)) (W.item i s _ _ (by omega) st λv s' hp st' mv=>?_);obtain⟨h1,h2⟩:=hv i v hp;have so':s'.heap.SetOf knd S (F i) (c i):=by obtain⟨o,es,ep,t,ho,r⟩:=so;exact⟨o,es,ep,t,mv.heap S _ nw ho,r⟩
  show wpAny _ A.in1 (holding [v] (setAdd S v) >>=_) _ _ s';refine Ja (wpAny_holding ?_);unfold setAdd;refine wpAny_holding (Ja (knd.pyHash h1 ?_));refine wpAny_setAddHashed_of (s:={s' with toks:=s'.toks+1}) h1 h2 so' (hb i (by omega)) λh' sb so2=>?_;have so3:h'.SetOf knd S (F (i+1)) (c (i+1)):=by rw[hc,show F (i+1)=λk'=>F i k' || decide (k'=val i) from funext λk'=>hF i (by omega) k'];exact so2
  refine wpAny_pure ⟨plainId_quiet PyProof.Rows.F.plain_set_update_loop _,ih (i+1) _ (by omega) (W.frame _ s' _ _ st' (Nat.le_succ _) λb h o q=>?_) so3 λs'' m2 so4=>hR s'' (Moved.trans W.gtrans ((mv.mono λb h=>Jh _ h).then_heap (Nat.le_succ _) λb o h q=>?_) m2) so4⟩
  ·rw[sb.2 b (λz=>hS (z ▸ h))];exact q
  ·rw[sb.2 b (λz=>h (z ▸ List.mem_cons_self))];exact q
end
section
variable {prog:Program}{w:World}{A:Around}{E:QC}{s:Shared}
noncomputable abbrev so0 (led:Bool):Obj:={cls:=.type "set",dict:=none,data:=.set #[] 0 (.fresh 0 0 led)}
theorem tkc {ts:QP}{i:Nat}(hi:i < ts.length)(k d:Str):(ts.take (i+1)).contains k=((ts.take i).contains k || decide (k=ts.getD i d)):=by have e:ts[i]? =some ts[i]:=List.getElem?_eq_getElem hi;rw[List.take_add_one,List.getD_eq_getElem?_getD,e,Bool.eq_iff_iff,Bool.or_eq_true,List.contains_iff_mem,List.contains_iff_mem,List.mem_append,decide_eq_true_iff];show _\/k∈ [ts[i]]↔_\/k=ts[i];rw[List.mem_singleton]
noncomputable def cD (ts:QP):Nat->Nat
 | 0=>0
 | i+1=>if (ts.take i).contains (ts.getD i ⟨#[]⟩) then cD ts i else cD ts i+1
theorem zfs (ts:QP):∀i,cD ts i<=i
 | 0=>Jb _
 | i+1=>by
  unfold cD;split
  ·exact Nat.le_succ_of_le (zfs ts i)
  ·exact Nat.succ_le_succ (zfs ts i)
noncomputable def MyS (prog:Program)(w:World)(ts:QP)(a:Addr)(n:Nat)(h:Heap):Prop:=h.SetOf (strKind prog w) a (λk=>(ts.take n).contains k) (cD ts n)
end
section
variable {prog:Program}{w:World}{A:Around}{E:QC}{s:Shared}
set_option maxHeartbeats 8000000 in
theorem zh0 {l:Addr}{items:Array Value}{ts:QP}{Q:QC}(hh:A.handled=none)(hl:s.heap.IsList l items)(hi:∀(i:Nat) (v:Value),items[i]? =some v->∃t,v=.str (ts.getD i ⟨#[]⟩) t)(hz:ts.length=items.size)(hb:items.size+1 < scanBound)
  (h:∀(h':Heap) (tk:Nat),MyS prog w ts s.heap.objs.size items.size h'->(∀b o,b < s.heap.objs.size->s.heap.get? b=some o->h'.get? b=some o)->Q (.ref s.heap.objs.size) {s with heap:=h',toks:=tk}):wpAny (model prog w) A (call (.type "set") [.ref l]) Q E s:=by
 obtain⟨c,tl,hmro⟩:=F.called_set.mro;have hmade:=F.called_set.made;have hsub:=F.called_set.sub;refine wpAny_call (codeAny_of_tree ?_);show wpAny _ _ (callAny (.type "set") _) _ _ _;refine wpAny_pure ⟨Code.quiet_builtin _ (by decide+kernel),codeAny_builtin F.entry_type_call ?_⟩;rw[Around.under_plain (weight_type_call_type "set" [.ref l] []) rfl];have h1:=F.called_set.notType;have h2:=F.called_set.canCreate;have hct:=F.typeCall_set_1 (.ref l)
 repeat (any_goals (first | assumption | wp_step))
 refine codeAny_mono (code_set_new_1 (.ref l) (E:=E) (Q₁:=λob s₁=>∃led,ob=.ref s.heap.objs.size/\s₁={s with heap:=s.heap.push (so0 led)}) λled=>⟨led,rfl,rfl⟩) λr s₁ hr=>?_;cases r with
 | error e=>exact hr
 | ok fl=>
  cases fl with
  | ret ob=>
   obtain⟨led,rfl,rfl⟩:=hr;have hS:(s.heap.push (so0 led)).get? s.heap.objs.size=some (so0 led):=Heap.get?_push_size _ rfl;have hT:Shared.TypeIs {s with heap:=s.heap.push (so0 led)} (.ref s.heap.objs.size) "set" :=⟨_,hS,rfl⟩;have hli:=F.called_set.init.lookup;have hbi:=F.called_set.init.bind (.ref s.heap.objs.size)
   repeat (any_goals (first | assumption | wp_step))
   refine codeAny_mono (codeAny_call_builtin (R:=wants (λr s₂=>r=.none/\∃h' tk,s₂={s with heap:=h',toks:=tk}/\MyS prog w ts s.heap.objs.size items.size h'/\∀b o,b < s.heap.objs.size->s.heap.get? b=some o->h'.get? b=some o) E) F.called_set.init.plain F.entry_set_init (check_set_init_1 hT ?_)) λr₂ s₂ hr₂=>?_
   ·obtain⟨ol,hol,hcl,nl,hdl⟩:=id hl;obtain⟨ocls,odict,odata,oslots⟩:=ol;simp only at hcl hdl;subst hcl;subst hdl;have hol':=Heap.get?_push_of_some (so0 led) hol;have k1:=F.sub_list_set;have k2:=F.sub_list_frozenset;have k3:(Value.type "list" ==Value.type "dict")=false:=by decide
    have hl1:(s.heap.push (so0 led)).IsList l items:=⟨_,hol',rfl,nl,rfl⟩;unfold Builtin.«set.__init__» noKeywords Builtin.Frozenset.updateFrom;generalize hPI:pyIter=PI
    wp_walk
    subst hPI;refine wpAny_pyIter_list hl1 ?_;refine Ja (wpAny_runValue ?_);have lS:l < s.heap.objs.size:=Heap.lt_size hol;have h3:A.in1.in1.in1.handled=none:=by simp[hh]
    have sz:(s.heap.push (so0 led)).objs.size=s.heap.objs.size+1:=Heap.size_push _ _;refine fill (knd:=strKind prog w) (F:=λi k=>(ts.take i).contains k) (c:=cD ts) (val:=λi=>ts.getD i ⟨#[]⟩) ((Walks.list h3 _ l (by rw[sz];exact Jg (Jt lS)) items).toS) (by rw[sz];simp only[List.mem_cons,List.not_mem_nil,or_false,not_or];exact⟨Jg (Jm _),Nat.ne_of_gt lS⟩) ?f1 (λi=>rfl) ?f2 (λi hi=>by have:=zfs ts i;omega) items.size 0 _ (Nat.zero_add _) ⟨⟨_,Heap.get?_push_size _ rfl,rfl,rfl⟩,hl1.push _⟩ ?f3 ?f4
    case f1=>exact λi hi k=>tkc (by omega) k _
    case f2=>intro i v hv;obtain⟨t,rfl⟩:=hi i v hv;exact⟨PySem.strKind_is _ _ _ _,rfl⟩
    case f3=>exact SetOf_congr ((setObjOf_fresh (knd:=strKind prog w) led).setOf (Heap.get?_push_of_some _ hS) (by unfold scanBound;omega)) (λ_=>rfl) rfl
    case f4=>rintro⟨h',g',d',tk',os'⟩ hm hS';have eg:g'=s.gens:=hm.gens;have ed:d'=s.drawn:=hm.drawn;have eo:os'=s.os:=hm.os;subst eg;subst ed;subst eo;refine wpAny_pure ?_;show wpAny _ _ (ret Value.none) _ _ _;refine wpAny_pure ⟨rfl,h',tk',rfl,hS',λb o hb e=>hm.heap b o ?_ (Heap.get?_push_of_some _ (Heap.get?_push_of_some _ e))⟩;rw[sz];simp only[List.mem_cons,List.not_mem_nil,or_false,not_or];exact⟨Jg hb,Jg (Jt hb)⟩
   ·cases r₂ with
    | error e=>exact hr₂
    | ok fl₂=>
     cases fl₂ with
     | ret r=>
      obtain⟨rfl,h',tk,rfl,hS',hk'⟩:=hr₂
      repeat (any_goals (first | assumption | wp_step))
      exact h _ _ hS' hk'
     | _=>exact hr₂.elim
  | _=>exact hr.elim
end
section
variable {prog:Program}{w:World}{A:Around}{E:QC}{s:Shared}
set_option maxHeartbeats 8000000 in
theorem zgN {l:Addr}{items:Array Value}{ts:QP}{Q:QC}(hh:A.handled=none)(hl:s.heap.IsTuple l items)(hi:∀(i:Nat) (v:Value),items[i]? =some v->∃t,v=.str (ts.getD i ⟨#[]⟩) t)(hz:ts.length=items.size)(hb:items.size+1 < scanBound)
  (h:∀(h':Heap) (tk:Nat),MyS prog w ts s.heap.objs.size items.size h'->(∀b o,b < s.heap.objs.size->s.heap.get? b=some o->h'.get? b=some o)->Q (.ref s.heap.objs.size) {s with heap:=h',toks:=tk}):wpAny (model prog w) A (call (.type "set") [.ref l]) Q E s:=by
 obtain⟨c,tl,hmro⟩:=F.called_set.mro;have hmade:=F.called_set.made;have hsub:=F.called_set.sub;refine wpAny_call (codeAny_of_tree ?_);show wpAny _ _ (callAny (.type "set") _) _ _ _;refine wpAny_pure ⟨Code.quiet_builtin _ (by decide+kernel),codeAny_builtin F.entry_type_call ?_⟩;rw[Around.under_plain (weight_type_call_type "set" [.ref l] []) rfl];have h1:=F.called_set.notType;have h2:=F.called_set.canCreate;have hct:=F.typeCall_set_1 (.ref l)
 repeat (any_goals (first | assumption | wp_step))
 refine codeAny_mono (code_set_new_1 (.ref l) (E:=E) (Q₁:=λob s₁=>∃led,ob=.ref s.heap.objs.size/\s₁={s with heap:=s.heap.push (so0 led)}) λled=>⟨led,rfl,rfl⟩) λr s₁ hr=>?_;cases r with
 | error e=>exact hr
 | ok fl=>
  cases fl with
  | ret ob=>
   obtain⟨led,rfl,rfl⟩:=hr;have hS:(s.heap.push (so0 led)).get? s.heap.objs.size=some (so0 led):=Heap.get?_push_size _ rfl;have hT:Shared.TypeIs {s with heap:=s.heap.push (so0 led)} (.ref s.heap.objs.size) "set" :=⟨_,hS,rfl⟩;have hli:=F.called_set.init.lookup;have hbi:=F.called_set.init.bind (.ref s.heap.objs.size)
   repeat (any_goals (first | assumption | wp_step))
   refine codeAny_mono (codeAny_call_builtin (R:=wants (λr s₂=>r=.none/\∃h' tk,s₂={s with heap:=h',toks:=tk}/\MyS prog w ts s.heap.objs.size items.size h'/\∀b o,b < s.heap.objs.size->s.heap.get? b=some o->h'.get? b=some o) E) F.called_set.init.plain F.entry_set_init (check_set_init_1 hT ?_)) λr₂ s₂ hr₂=>?_
   ·obtain⟨ol,hol,hcl,nl,hdl⟩:=id hl;obtain⟨ocls,odict,odata,oslots⟩:=ol;simp only at hcl hdl;subst hcl;subst hdl;have hol':=Heap.get?_push_of_some (so0 led) hol;have k1:=F.sub_tuple_set;have k2:=F.sub_tuple_frozenset;have k3:(Value.type "tuple" ==Value.type "dict")=false:=by decide
    have hl1:(s.heap.push (so0 led)).IsTuple l items:=⟨_,hol',rfl,nl,rfl⟩;unfold Builtin.«set.__init__» noKeywords Builtin.Frozenset.updateFrom;generalize hPI:pyIter=PI
    wp_walk
    subst hPI;refine wpAny_pyIter_tuple hl1 ?_;refine Ja (wpAny_runValue ?_);have lS:l < s.heap.objs.size:=Heap.lt_size hol;have h3:A.in1.in1.in1.handled=none:=by simp[hh]
    have sz:(s.heap.push (so0 led)).objs.size=s.heap.objs.size+1:=Heap.size_push _ _;refine fill (knd:=strKind prog w) (F:=λi k=>(ts.take i).contains k) (c:=cD ts) (val:=λi=>ts.getD i ⟨#[]⟩) ((Walks.tuple h3 _ l (by rw[sz];exact Jg (Jt lS)) items).toS) (by rw[sz];simp only[List.mem_cons,List.not_mem_nil,or_false,not_or];exact⟨Jg (Jm _),Nat.ne_of_gt lS⟩) ?f1 (λi=>rfl) ?f2 (λi hi=>by have:=zfs ts i;omega) items.size 0 _ (Nat.zero_add _) ⟨⟨_,Heap.get?_push_size _ rfl,rfl,rfl⟩,hl1.push _⟩ ?f3 ?f4
    case f1=>exact λi hi k=>tkc (by omega) k _
    case f2=>intro i v hv;obtain⟨t,rfl⟩:=hi i v hv;exact⟨PySem.strKind_is _ _ _ _,rfl⟩
    case f3=>exact SetOf_congr ((setObjOf_fresh (knd:=strKind prog w) led).setOf (Heap.get?_push_of_some _ hS) (by unfold scanBound;omega)) (λ_=>rfl) rfl
    case f4=>rintro⟨h',g',d',tk',os'⟩ hm hS';have eg:g'=s.gens:=hm.gens;have ed:d'=s.drawn:=hm.drawn;have eo:os'=s.os:=hm.os;subst eg;subst ed;subst eo;refine wpAny_pure ?_;show wpAny _ _ (ret Value.none) _ _ _;refine wpAny_pure ⟨rfl,h',tk',rfl,hS',λb o hb e=>hm.heap b o ?_ (Heap.get?_push_of_some _ (Heap.get?_push_of_some _ e))⟩;rw[sz];simp only[List.mem_cons,List.not_mem_nil,or_false,not_or];exact⟨Jg hb,Jg (Jt hb)⟩
   ·cases r₂ with
    | error e=>exact hr₂
    | ok fl₂=>
     cases fl₂ with
     | ret r=>
      obtain⟨rfl,h',tk,rfl,hS',hk'⟩:=hr₂
      repeat (any_goals (first | assumption | wp_step))
      exact h _ _ hS' hk'
     | _=>exact hr₂.elim
  | _=>exact hr.elim
end
end Px
namespace L2
open PySem PySem.Spec PyProof.Rows Px
section
variable {X:Cx}{e:Expr}{ta:TA}{p1 p2 q1 q2:Pos}
theorem zmj {ts:QP}{its:QN}(r:Vals (ts.map V.str) its)(i:Nat)(v:Value)(h:its.toArray[i]? =some v):∃t,v=.str (ts.getD i ⟨#[]⟩) t:=by have hl:=r.length;rw[List.length_map] at hl;rw[List.getElem?_toArray] at h;have hi:i < its.length:=(List.getElem?_eq_some_iff.mp h).1;have ht:ts[i]? =some ts[i]:=List.getElem?_eq_getElem (by omega);obtain⟨v',e',q⟩:=r.get (i:=i) (x:=V.str ts[i]) (by rw[List.getElem?_map,ht];rfl);rw[h] at e';cases e';obtain⟨t,rfl⟩:=(show∃t,v=Value.str ts[i] t from q);exact⟨t,by rw[List.getD_eq_getElem?_getD,ht];rfl⟩
theorem zfM (hc:X.calm=true)(ha:PA X [e] ta)(g1:Gl X "len") (m1:X.mg "len" =none) (g2:Gl X "set") (m2:X.mg "set" =none)
  (s1:starEach [.Call (.Name "set" p2) [e] [] q2] X.env=[(false,eval (.Call (.Name "set" p2) [e] [] q2) X.env)]:=by rfl) (s2:starEach [e] X.env=[(false,eval e X.env)]:=by rfl):
  PE X (.Call (.Name "len" p1) [.Call (.Name "set" p2) [e] [] q2] [] q1) (fun σ H Q=>ta σ H λvs H1=>∃(a:Addr) (ts:QP),vs=[.ref a]/\(SqL X.K H1 a (ts.map V.str)\/SqT X.K H1 a (ts.map V.str))/\ts.length<=1000/\Q (.int (cD ts ts.length:Nat)) H1):=by
 intro pins s σ H Q I h;refine wpAny_Call_Name_kw (zbj I g1 m1 (show bootBuiltins "len" =some (.builtin "len") from by rfl) ?_ (by decide) (by decide));refine PyProof.Rows.callWith_builtin1 ?_ s1 rfl;rw[s1];show wpAny _ _ (spliced ((false,eval (.Call (.Name "set" p2) [e] [] q2) X.env)::[])) _ _ s;refine Calls.spliced_cons ?_;refine wpAny_Call_Name_kw (zbj I g2 m2 (show bootBuiltins "set" =some (.type "set") from by rfl) ?_ (by decide) (by decide));refine PyProof.Rows.callWith_type1 (thn (ha q2 pins s σ H _ I h) λus t1 ⟨vs,H1,I1,r1,a,ts,ev,hq,hl,q⟩=>?_) s2 rfl;subst ev;obtain⟨u,rfl,ru⟩:=vals1 r1;obtain rfl:u=Value.ref a:=ru;have sb:∀n,n<=1000->n+1 < scanBound:=λn hn=>by unfold scanBound;omega
 have fin:∀(h':Heap) (tk:Nat),MyS X.prog X.w ts t1.heap.objs.size ts.length h'->(∀b o,b < t1.heap.objs.size->t1.heap.get? b=some o->h'.get? b=some o)->wpAny (model X.prog X.w) X.A (call (.builtin "len") [.ref t1.heap.objs.size]) (EP X pins σ Q) X.xe {t1 with heap:=h',toks:=tk}:=λh' tk ms fr=>by obtain⟨o,es,ep,t,ho,hex,hd,hel,hmem,hb,hf,hn⟩:=ms;have le:=zfs ts ts.length;refine call_len_set (s:={t1 with heap:=h',toks:=tk}) ho hex hd hf (by rw[hn];omega) ?_;refine⟨.int (cD ts ts.length:Nat),H1,I1.kept (t':=tk+1+1) (λb u e=>fr b u (Heap.lt_size e) e),⟨_,by rw[hn]⟩,q⟩
 rcases hq with hq | hq
 ·obtain⟨its,r,T,_⟩:=I1.list hq;have hz:ts.length=its.toArray.size:=by have:=r.length;rw[List.length_map] at this;simpa using this
  refine Px.zh0 (I1.ok.hd hc) T.isList (zmj r) hz (by rw[<-hz];exact sb _ hl) λh' tk ms fr=>Calls.spliced_nil ?_;rw[<-hz] at ms;exact fin h' tk ms fr
 ·obtain⟨its,r,T,_⟩:=I1.tuple hq;have hz:ts.length=its.toArray.size:=by have:=r.length;rw[List.length_map] at this;simpa using this
  refine Px.zgN (I1.ok.hd hc) T (zmj r) hz (by rw[<-hz];exact sb _ hl) λh' tk ms fr=>Calls.spliced_nil ?_;rw[<-hz] at ms;exact fin h' tk ms fr
end
end L2
namespace L2
open PySem PySem.Spec PyProof.Rows Px
section
variable {M:Model}{A:Around}{E:QC}{s:Shared}{base:Heap}{env:Env}{outer:List Env}{L e T:Addr}{cls fl:Value}{od:QM}
theorem zsf {Q:QD}(hfr:A.frames=some (env::outer))(hl:s.heap.FunFrames base (env::outer))(hf:env.frame=some L)
  (t:Tb s.heap e cls od T fl)
  (h:∀h' T',(T'=T\/s.heap.objs.size<=T')->Tb h' e cls od T' (rawInt L)->Chg2 ((env::outer).filterMap (·.frame)) (λb=>b=e\/b=T) s.heap h'->Q () {s with heap:=h'}):
  wpAny M A (noteFrame (.ref e) env) Q E s:=by
 obtain⟨oe,vs,oT,ts,he,hc,ho,hd,h1,hTe,hT,hdT,h3⟩:=t;unfold noteFrame;simp only[hf];refine Ja (wpAny_field he hd h1 ?_);rw[if_pos (show(Value.ref T !=Value.none)=true from by simp)];refine Ja (wpAny_field hT hdT h3 ?_);by_cases q:(fl==rawInt L)=true
 ·rw[if_pos q];rw[eq_of_beq q] at h3;exact wpAny_pure (h s.heap T (.inl rfl) ⟨oe,vs,oT,ts,he,hc,ho,hd,h1,hTe,hT,hdT,h3⟩ ⟨Jb _,λ_ _ q _ _=>q,λ_ o q _ _=>⟨o.slots,q⟩⟩)
 rw[if_neg q];refine Ja (wpAny_setField hT hdT (Array.getElem?_eq_some_iff.mp h3).1 ?_);have oth:∀b,b≠T->(s.heap.update T (Obj.mapFields (·.setIfInBounds 3 Value.none))).get? b=s.heap.get? b:=λb hb=>Heap.get?_update_other _ _ (Ne.symm hb);have apart:∀b o,s.heap.get? b=some o->(∀vs,o.data≠ .fields vs)->b≠T:=λb o hb hn q=>by subst q;exact hn ts (by rw[<-Option.some.inj (hT.symm.trans hb)];exact hdT)
 refine entry (s:={s with heap:=s.heap.update T (Obj.mapFields (·.setIfInBounds 3 Value.none))}) hfr
  (hl.of_keeps λb o hb hn=>⟨o,(oth b (apart b o hb hn)).trans hb,rfl⟩) hf ((oth e (Ne.symm hTe)).trans he) hd (Array.getElem?_eq_some_iff.mp h1).1 λh' T' z1 z2 z3=>?_
 have z1':s.heap.objs.size<=T':=by rw[<-Heap.size_after_update s.heap T (Obj.mapFields (·.setIfInBounds 3 Value.none))];exact z1
 rw[hc,ho] at z2;have nT':∀b o,s.heap.get? b=some o->b≠T':=λb o q1 q=>Je (Heap.lt_size q1) (Nat.not_lt.mpr (q ▸ z1'));refine h h' T' (.inr z1') z2 ⟨?_,λb o q1 q2 q3=>?_,λb o q1 q2 q3=>?_⟩
 ·rw[<-Heap.size_after_update s.heap T (Obj.mapFields (·.setIfInBounds 3 Value.none))];exact z3.size
 ·exact z3.keep b o ((oth b λy=>q3 (.inr y)).trans q1) q2 (λy=>q3 (.inl y)) (nT' b o q1)
 ·exact z3.slot b o ((oth b λy=>q3 (.inr y)).trans q1) q2 (λy=>q3 (.inl y)) (nT' b o q1)
theorem zpY {Q:QD}(hfr:A.frames=some (env::outer))(hl:s.heap.FunFrames base (env::outer))(hf:env.frame=some L)
  (t:Tb s.heap e cls od T fl)
  (h:∀h' T',(T'=T\/s.heap.objs.size<=T')->Tb h' e cls od T' .none->Chg2 ((env::outer).filterMap (·.frame)) (λb=>b=e\/b=T) s.heap h'->Q () {s with heap:=h'}):
  wpAny M A (leaving env (.ref e)) Q E s:=by
 unfold leaving;refine Ja (zsf hfr hl hf t λg T' z t1 c=>?_);refine zcD (s:={s with heap:=g}) (fs:=(env::outer).filterMap (·.frame)) t1 λh' t' c' k=>h h' T' z t' ?_;have bT:∀b o,s.heap.get? b=some o->¬(b=e\/b=T)->b≠T':=λb o q m y=>by
  rcases z with z | z
  ·exact m (.inr (y.trans z))
  ·subst y;rw[Heap.get?_none_of_le z] at q;cases q
 refine⟨Ji c.size c'.size,λb o q a m=>?_,λb o q a m=>?_⟩
 ·exact k b o (c.keep b o q a m) (bT b o q m)
 ·obtain⟨sl,y⟩:=c.slot b o q a m;exact⟨sl,k b _ y (bT b o q m)⟩
theorem znT {α:Type}{what:String}{Q:α->Shared->Prop}(t:Tb s.heap e cls od T fl)
  (h:∀h' fl',Tb h' e cls od T fl'->s.heap.objs.size<=h'.objs.size->(∀b o,s.heap.get? b=some o->b≠T->h'.get? b=some o)->E (.ref e) {s with heap:=h'}):wpAny M A (passOn what (.ref e) env:Sem α) Q E s:=by
 obtain⟨oe,vs,oT,ts,he,hc,ho,hd,h1,hTe,hT,hdT,h3⟩:=t;have z3:3 < ts.size:=(Array.getElem?_eq_some_iff.mp h3).1;unfold PySem.passOn;refine Ja (wpAny_field he hd h1 ?_);rw[if_neg (show¬(Value.ref T==Value.none)=true from by simp)];refine Ja ?_;unfold setFlight;refine Ja (wpAny_field he hd h1 ?_);rw[if_pos (show(Value.ref T !=Value.none)=true from by simp)];generalize env.frame.elim Value.none (λf=>rawInt f)=fl';have oth:∀b,b≠T->(s.heap.update T (Obj.mapFields (·.setIfInBounds 3 fl'))).get? b=s.heap.get? b:=λb hb=>Heap.get?_update_other _ _ (Ne.symm hb);have dd:=Obj.data_mapFields hdT (·.setIfInBounds 3 fl');refine wpAny_setField hT hdT z3 (wpAny_throw (h _ fl' ⟨oe,vs,_,_,(oth e (Ne.symm hTe)).trans he,hc,ho,hd,h1,hTe,Heap.get?_update_self _ hT (Obj.isFreed_of_fields dd),dd,by simp[z3]⟩ ?_ λb o q1 q4=>(oth b q4).trans q1));rw[Heap.size_after_update];exact Jb _
end
noncomputable def zjN (X:Cx)(E:XK):Prop:=∀(pins:QE) (σ:St) (H:Hp) (s:Shared) (ea:Addr) (cls:Value) (od:QM) (T:Addr) (fl:Value),Inv X pins σ H s->Tb s.heap ea cls od T fl->(X.s₀.heap.get? ea=none\/X.H₀ ea≠none)->X.s₀.heap.get? T=none->H ea=none->H T=none->E cls od H->X.xe (.ref ea) s
section
variable {P:Program}{w:World}{K:QA}{mg:QB}{base:Heap}{N:QP}{qual:Str}{scope:Scope}{f:Addr}{cd:Value}{A:Around}{outer:List Env}{s₀:Shared}{H₀:Hp}{E:XK}
theorem znj:zjN (cxOf (CX1 P w) P w K mg base N qual scope f cd A outer s₀ H₀ E) E:=by
 intro pins σ H s ea cls od T fl I tb old nT u1 u2 q;show wpAny (model P w) (A.deeper _) (leaving _ (.ref ea)) _ _ s;refine zpY (base:=base) I.ok.frames I.stack rfl tb λh' T' z tb' c=>?_;have te:∃o',h'.get? ea=some o':=let ⟨oe,_,_,_,y,_⟩:=tb';⟨oe,y⟩;have nT':s₀.heap.get? T'=none:=by
  rcases z with z | z
  ·rw[z];exact nT
  ·exact zaj I.base (by intro z;cases z) (Heap.get?_none_of_le z)
 refine⟨ea,cls,od,H,T',rfl,I.os,I.bare,?_,?_,tb',old,nT',u1,?_,q⟩
 ·refine I.base.chg (fs':=frs (envOfC qual scope s₀.heap.objs.size f cd::outer)) c (λb ob q1 q2=>?_) λb y=>?_
  ·have lt:=Heap.lt_size q1;rcases List.mem_cons.mp (I.stkSub b q2) with y | y
   ·exact Je lt (by rw[y];exact Nat.not_lt.mpr (Jb _))
   ·exact y
  ·rcases y with y | y
   ·subst y;rcases old with y | y
    ·exact .inl y
    ·exact .inr ⟨y,te⟩
   ·subst y;exact .inl nT
 ·refine I.hok.chg c (λb y=>?_) I.stkFree;rcases y with y | y
  ·rw[y];exact u1
  ·rw[y];exact u2
 ·rcases z with z | z
  ·rw[z];exact u2
  ·exact I.hok.fresh z
end
section
variable {X:Cx}{x:Str}{ys:QP}{js:List Nat}{scope:Scope}{cl:List (Str ×Addr)}{pins:QE}{σ:St}{H:Hp}{s:Shared}{E:XK}
variable {iter elt:Expr}{ifs:List Expr}{px pos:Pos}{wi:TI}{tt:TT}{te:TE}
end
end L2
namespace L2
open PySem PySem.Spec PyProof.Rows
noncomputable def zex (K:QA)(J:It)(p:Addr)(σ:St)(js:List Nat)(tt:TT)(te:TE)(H1:Hp)(Q:VK):Prop:=
 ∃W:Nat->Nat->List V->Hp->Prop,(∃m,W 0 m [] (upd H1 p (.lst [])))/\∀i m acc H,W i m acc H->
  (J.stop i H/\Q (.ref p) H)\/(J.go i H/\∀x H',J.yld i H x H'->∃a y z,x=.ref a/\SqT K H' a [y,z]/\tt (some y::some z::frees σ js) H' λok H2=>
   if ok=true then te (some y::some z::frees σ js) H2 λv H3=>H3 p=some (.lst acc)/\acc.length < sizeLine/\∃m',m' < m/\W (i+1) m' (acc++ [v]) (upd H3 p (.lst (acc++ [v])))
   else∃m',m' < m/\W (i+1) m' acc H2)
noncomputable def zqD (K:QA)(wi:TI)(js:List Nat)(tt:TT)(te:TE):TE:=fun σ H Q=>wi σ H λJ H1=>∀p,H1 p=none->zex K J p σ js tt te H1 Q
theorem zex.g {K:QA}{J:It}{p:Addr}{σ:St}{js:List Nat}{tt:TT}{te:TE}{H1:Hp}{Q:VK}(h:zex K J p σ js tt te H1 Q):zl0 2 (gTup K 2 (zhW (za5 0) (zhW (za5 1) gNil))) J p σ js tt te H1 Q:=by
 obtain⟨W,w0,f⟩:=h;refine⟨W,w0,λi m acc H w=>?_⟩;rcases f i m acc H w with z | ⟨z,y⟩
 ·exact .inl z
 ·refine .inr ⟨z,λx H' e=>?_⟩;obtain⟨a,u,v,ex,et,r⟩:=y x H' e;refine⟨[some u,some v],rfl,fun σ0 R l q=>?_,r⟩
  match σ0,l with
  | [o1,o2],_=>exact⟨a,[u,v],ex,et,rfl,u,[v],rfl,v,[],rfl,rfl,q⟩
section
variable {X:Cx}{E:XK}{x x2:Str}{ys:QP}{js:List Nat}{scope:Scope}{cl:List (Str ×Addr)}{iter elt:Expr}{ifs:List Expr}{px px2 tpos pos:Pos}{kt:Nat}{wi:TI}{tt:TT}{te:TE}
theorem tg3 (S:zt X x ys js scope cl)(tg2:scope.names.lookup x2=some .local)(nd2:(x::x2::ys).Nodup)(hc:X.calm=true){s₀:Shared}{H₀:Hp}{ex:QO}:PG (cxC X (x::x2::ys) scope cl s₀ H₀ ex) (.Tuple [.Name x px,.Name x2 px2] kt tpos) (gTup X.K 2 (zhW (za5 0) (zhW (za5 1) gNil))):=
 zmu hc (ze5 (zcg nd2 rfl (.inl (lookup_relabel_local S.tgt)) (.inr (lookup_relabel_local S.tgt))) (ze5 (zcg nd2 rfl (.inl (lookup_relabel_local tg2)) (.inr (lookup_relabel_local tg2))) zjy))
theorem zrQ (S:zt X x ys js scope cl)(tg2:scope.names.lookup x2=some .local)(nd2:(x::x2::ys).Nodup)(hc:X.calm=true)(ht:∀s₀ H₀ ex,PTs (cxC X (x::x2::ys) scope cl s₀ H₀ ex) ifs tt)(he:∀s₀ H₀ ex,PE (cxC X (x::x2::ys) scope cl s₀ H₀ ex) elt te):CRun X (.Tuple [.Name x px,.Name x2 px2] kt tpos) (λJ p σ H1 Q=>zex X.K J p σ js tt te H1 Q) iter elt ifs scope cl pos:=
 λI2 T st2 f2 _ q _ _ hR=>zfP (zs:=[x,x2]) (W:=λ_ _ _ _ _=>False) S hc (λ_ _ _=>tg3 S tg2 nd2 hc) ht he I2 T st2 f2 (λp hp=>(q p hp).g) hR λ_ _ z=>z.elim
theorem zkl (S:zt X x ys js scope cl)(tg2:scope.names.lookup x2=some .local)(nd2:(x::x2::ys).Nodup)(hc:X.calm=true)(hi:PI X (.Tuple [.Name x px,.Name x2 px2] kt tpos) iter wi)(ht:∀s₀ H₀ ex,PTs (cxC X (x::x2::ys) scope cl s₀ H₀ ex) ifs tt)(he:∀s₀ H₀ ex,PE (cxC X (x::x2::ys) scope cl s₀ H₀ ex) elt te)
  (hs:∀x,foldedSetIterable iter X.env x=pure x:=by intro _;rfl):PE X (.ListComp elt [⟨.Tuple [.Name x px,.Name x2 px2] kt tpos,iter,ifs,0⟩] scope pos) (zqD X.K wi js tt te):=
 zf3 (zrQ S tg2 nd2 hc ht he) S hi hs
end
theorem ze7 {X:Cx}{e:Expr}:PE X e (λ_ _ _=>False):=λ_ _ _ _ _ _ h=>h.elim
theorem zmV {J:It}{σ:St}{js:List Nat}{tt:TT}{te:TE}{Q:VK}{H1:Hp}{p:Addr}(h:J.stop 0 (upd H1 p (.lst [])))(q:Q (.ref p) (upd H1 p (.lst []))):zcT J p σ js tt te H1 Q:=
 ⟨λi m acc H=>i=0/\H=upd H1 p (.lst []),⟨0,rfl,rfl⟩,by rintro i m acc H ⟨rfl,rfl⟩;exact .inl ⟨h,q⟩⟩
theorem zk2 {K:QA}{J:It}{σ:St}{js:List Nat}{tt:TT}{te:TE}{Q:VK}{H1:Hp}{p:Addr}(h:J.stop 0 (upd H1 p (.lst [])))(q:Q (.ref p) (upd H1 p (.lst []))):zex K J p σ js tt te H1 Q:=
 ⟨λi m acc H=>i=0/\H=upd H1 p (.lst []),⟨0,rfl,rfl⟩,by rintro i m acc H ⟨rfl,rfl⟩;exact .inl ⟨h,q⟩⟩
end L2
namespace L2
open PySem PySem.Spec PyProof.Rows Px
inductive zlH (K:QA) (cvs:QN) (i:Nat) (ts:TS) (D:Ends) (E:XK) (σ:St) (cls:Value) (od:QM) (H':Hp):Prop
 | hit (C:Addr) (_:cls=.ref C) (_:PySem.W.exmAny K (.ref C) cvs=some true) (_:∀e,H' e=none->ts (D.less i) (σ.set i (some (.ref e))) (upd H' e (exO e C od false)))
 | miss (C:Addr) (_:cls=.ref C) (_:PySem.W.exmAny K (.ref C) cvs=some false) (_:E cls od H')
noncomputable def zrV (K:QA)(cvs:QN)(i:Nat)(tb:(St->XK)->TS)(ts:TS)(E:XK):TS:=λD σ H=>tb (zlH K cvs i ts D E) D σ H
section
variable {X:Cx}{x1 x2 x3 x4 n:Str}{i:Nat}{w1 w2 w3 w4:Value}{body suite:List Stmt}{b₀:Stmt}{p1 p2 p3 p4 tpos hpos pos:Pos}{kk:Nat}{tb:(St->XK)->TS}{ts:TS}{E:XK}
theorem Tb.kept {h h':Heap}{e T:Addr}{cls fl:Value}{od:QM}(t:Tb h e cls od T fl)(k:∀b o,h.get? b=some o->h'.get? b=some o):Tb h' e cls od T fl:=by obtain⟨oe,vs,oT,ts,he,hc,ho,hd,h1,hTe,hT,r⟩:=t;exact⟨oe,vs,oT,ts,k _ _ he,hc,ho,hd,h1,hTe,k _ _ hT,r⟩
theorem Inv.uncaught {pins:QE}{σ:St}{H H':Hp}{s s2:Shared}{h4:Heap}{ea T T':Addr}(J0:Inv X pins σ H s)(os:s2.os=s.os)(bare:AllBare s2.gens)(un:Un (frs X.stack) [] H H' s.heap s2.heap)(hok:HOk X.prog X.w H' s2.heap)
  (old:s.heap.get? ea=none\/H ea≠none) (nT:s.heap.get? T=none) (u1:H' ea=none) (u2:H' T=none) (z:s2.heap.objs.size<=T') (c:Chg2 (frs X.stack) (λb=>b=ea\/b=T\/b=T') s2.heap h4) (ge:∃o,h4.get? ea=some o):
  Inv X pins σ H' {s2 with heap:=h4}/\H' T'=none/\s.heap.get? T'=none:=by
 have nT2:s2.heap.get? T'=none:=Heap.get?_none_of_le z;have fr2:∀b∈frs X.stack,H' b=none:=λb hb=>by have J:=J0.call' os un hok bare (λb z=>nomatch z);exact J.stkFree b hb
 have u3:H' T'=none:=hok.fresh z;have n0:=zaj un (by intro z;cases z) nT2;have U:Un (frs X.stack) [] H H' s.heap h4:=un.chg c (λb ob _ y=>y) λb y=>by
  rcases y with y | y | y
  ·subst y;rcases old with y | y
   ·exact .inl y
   ·exact .inr ⟨y,ge⟩
  ·subst y;exact .inl nT
  ·subst y;exact .inl n0
 have O:HOk X.prog X.w H' h4:=hok.chg c (λb y=>by
  rcases y with y | y | y
  ·rw[y];exact u1
  ·rw[y];exact u2
  ·rw[y];exact u3) fr2
 exact⟨J0.call' (s':={s2 with heap:=h4}) os U O bare (λb z=>nomatch z),u3,n0⟩
theorem zoI (hx:zjN X E)(hex:X.ex=[])(hst:X.stack=X.env::X.outer)(hfm:X.env.frame=some X.env.locals)(hN:X.N.Nodup)(hi:X.N[i]? =some n)(hlo:X.env.scope.names.lookup n=some .local)(g1:Gl X x1)(m1:X.mg x1=some w1)(g2:Gl X x2)(m2:X.mg x2=some w2)(g3:Gl X x3)(m3:X.mg x3=some w3)(g4:Gl X x4)(m4:X.mg x4=some w4)
  (hb:∀xe pn E,zaU (CX1 X.prog X.w) (X.tried xe pn) E->PSs (X.tried xe pn) body (tb E)) (hs:∀e,PSs (X.suite e) (b₀::suite) ts)
  (d1:(x1==("__debug__" :Str))=false:=by decide) (d2:(x2==("__debug__" :Str))=false:=by decide) (d3:(x3==("__debug__" :Str))=false:=by decide) (d4:(x4==("__debug__" :Str))=false:=by decide):
  PS X (.Try body [.ExceptHandler (some (.Tuple [.Name x1 p1,.Name x2 p2,.Name x3 p3,.Name x4 p4] kk tpos)) (some n) (b₀::suite) hpos] [] [] pos) (zrV X.K [w1,w2,w3,w4] i tb ts E):=by
 intro pins s σ H D I h;have key:zaU (CX1 X.prog X.w) (X.tried (λe s₁=>wpAny (model X.prog X.w) X.A (noteFrame e X.env) (λ_ s₂=>wpAny (model X.prog X.w) X.A (setFlight e none) (λ_ s₃=>
   wpAny (model X.prog X.w) X.A (handleBy e X.env [.ExceptHandler (some (.Tuple [.Name x1 p1,.Name x2 p2,.Name x3 p3,.Name x4 p4] kk tpos)) (some n) (b₀::suite) hpos]) (SP X pins D) X.xe s₃) X.xe s₂) X.xe s₁) (X.pn++pins)) (zlH X.K [w1,w2,w3,w4] i ts D E):=by
  intro pins' σ' H1 s1 e s2 I1 hc;obtain⟨ea,cls,od,H',T,rfl,os,bare,un,hok,tb',old,nT,u1,u2,hq⟩:=hc;have J0:Inv X pins σ' H1 s1:=I1.untried;have J:=J0.call' os un hok bare (λb z=>nomatch z);obtain⟨C,rfl⟩:∃C,cls=.ref C:=by cases hq with | hit C e _ _=>exact⟨C,e⟩ | miss C e _ _=>exact⟨C,e⟩
  show wpAny _ _ (noteFrame (.ref ea) X.env) _ _ s2;refine zlY (base:=X.base) (by rw[<-hst];exact J.ok.frames) (by rw[<-hst];exact J.stack) hfm tb' λh3 T' z t3 c3=>?_;rw[show(X.env::X.outer).filterMap (·.frame)=frs X.stack from by rw[hst];rfl] at c3;have c3':Chg2 (frs X.stack) (λb=>b=ea\/b=T\/b=T') s2.heap h3:=c3.mono λb y=>y.elim .inl λy=>.inr (.inl y);have J3:=J0.caught os bare un hok old nT u1 u2 z c3' t3;have LT:PySem.W.Looks (model X.prog X.w) h3 (typeOf (.ref ea)) (.ref C):=by obtain⟨vs,sl,ge,_⟩:=zaF J3.hok za;exact(PySem.W.Looks.ld ge).andThen .now
  refine wpAny_handleBy_cons (codeAny_handlers_test ?_) (by intro y;cases y);refine wpAny_Tuple ?_;refine wpAny_items_cons (zao (X:=X.suite ea) (J3.suite ea) g1 m1 ?_ d1);refine wpAny_items_cons (zao (X:=X.suite ea) (J3.suite ea) g2 m2 ?_ d2);refine wpAny_items_cons (zao (X:=X.suite ea) (J3.suite ea) g3 m3 ?_ d3);refine wpAny_items_cons (zao (X:=X.suite ea) (J3.suite ea) g4 m4 ?_ d4);refine wpAny_items_nil ⟨by size_fits,?_⟩;have kp:∀q o,h3.get? q=some o->(h3.push {cls:=.type "tuple",data:=.seq [w1,w2,w3,w4].toArray}).get? q=some o:=λ_ _ z=>Heap.get?_push_of_some _ z;have c5:Chg2 (frs X.stack) (λb=>b=ea\/b=T\/b=T') s2.heap (h3.push {cls:=.type "tuple",data:=.seq [w1,w2,w3,w4].toArray}):=
   ⟨Ji c3'.size (by rw[size_push'];exact Nat.le_succ _),λb o q a n=>kp _ _ (c3'.keep b o q a n),λb o q a n=>let ⟨sl,y⟩:=c3'.slot b o q a n;⟨sl,kp _ _ y⟩⟩
  have t5:=Tb.kept t3 kp;have J5:=J0.caught os bare un hok old nT u1 u2 z c5 t5;have LT5:=LT.keeps kp;have hp:(h3.push {cls:=.type "tuple",data:=.seq [w1,w2,w3,w4].toArray}).get? h3.objs.size=some {cls:=.type "tuple",data:=.seq [w1,w2,w3,w4].toArray}:=Heap.get?_push_size h3 rfl;show wpAny _ _ (excMatches (.ref ea) (.ref h3.objs.size)) _ _ {s2 with heap:=h3.push {cls:=.type "tuple",data:=.seq [w1,w2,w3,w4].toArray}};generalize h3.push {cls:=.type "tuple",data:=.seq [w1,w2,w3,w4].toArray}=h5 at c5 t5 J5 LT5 hp;cases hq with
  | hit C' e em q=>
   cases e;refine(PySem.W.exm_tup4 J5.kIn LT5 hp em).here (s:={s2 with heap:=h5}) ?_;refine codeAny_handlers_suite_as ?_;refine zcD (s:={s2 with heap:=h5}) (fs:=frs X.stack) t5 λh4 t4 c4 k4=>?_;have J4:=J0.caught os bare un hok old nT u1 u2 z (c5.trans (c4.two (own:=λb=>b=ea\/b=T\/b=T') (.inl rfl) (.inl (.inr (.inr rfl))))) t4;refine zcQ (X:=X) J4 hN hi (.inl hlo) (show RelV (.ref ea) (Value.ref ea) from rfl) (λs5 J5=>?_) (.inr hlo);refine wpAny_mono (hs ea pins s5 _ _ (D.less i) (J5.suite ea) (q ea u1)) (λf s6 q6=>?_) λ_ _ y=>y.elim;show wpAny _ _ _ _ _ _;cases f with
   | next=>obtain⟨σ6,H6,J6,y⟩:=q6;exact zat (J6.unsuite J0.ok) hN hi hlo λs7 J7=>⟨_,_,J7,y⟩
   | brk=>obtain⟨σ6,H6,J6,y⟩:=q6;exact zat (J6.unsuite J0.ok) hN hi hlo λs7 J7=>⟨_,_,J7,y⟩
   | cont=>obtain⟨σ6,H6,J6,y⟩:=q6;exact zat (J6.unsuite J0.ok) hN hi hlo λs7 J7=>⟨_,_,J7,y⟩
   | ret u=>obtain⟨v6,σ6,H6,J6,rv,y⟩:=q6;exact zat (J6.unsuite J0.ok) hN hi hlo λs7 J7=>⟨_,_,_,J7,rv,y⟩
  | miss C' e em q=>
   cases e;refine(PySem.W.exm_tup4 J5.kIn LT5 hp em).here (s:={s2 with heap:=h5}) ?_;show wpAny _ _ (handleBy _ _ _) _ _ _;refine wpAny_handleBy_nil (znT (s:={s2 with heap:=h5}) t5 λh6 fl' t6 sz6 k6=>?_);have c6:Chg2 (frs X.stack) (λb=>b=ea\/b=T\/b=T') s2.heap h6:=
    ⟨Ji c5.size sz6,λb o q a n=>?_,λb o q a n=>?_⟩
   ·obtain⟨oe,_,_,_,ge,_⟩:=id t6;obtain⟨J6,u3,n3⟩:=J0.uncaught os bare un hok old nT u1 u2 z c6 ⟨oe,ge⟩;have b0:=J0.base;rw[hex] at b0;refine hx pins σ' H' _ ea (.ref C) od T' fl' J6 t6 ?_ ?_ u1 u3 q
    ·rcases old with y | y
     ·exact .inl (zaj b0 (by intro z;cases z) y)
     ·by_cases w:X.H₀ ea=none
      ·cases v:X.s₀.heap.get? ea with
       | none=>exact .inl rfl
       | some o=>exact Je (b0.free ea o v w (by intro z;cases z)) y
      ·exact .inr w
    ·exact zaj b0 (by intro z;cases z) n3
   ·exact k6 b o (c5.keep b o q a n) λy=>n (.inr (.inr y))
   ·obtain⟨sl,y⟩:=c5.slot b o q a n;exact⟨sl,k6 b _ y λy=>n (.inr (.inr y))⟩
 refine wpAny_Try_except (wpAny_mono (hb _ (X.pn++pins) _ key [] s σ H D (I.tried _) h) (λf s₁ q=>?_) λ_ _ y=>y);cases f with
 | next=>obtain⟨σ',H',I',y⟩:=q;exact wpAny_execs_nil ⟨σ',H',I'.untried,y⟩
 | brk=>obtain⟨σ',H',I',y⟩:=q;exact⟨σ',H',I'.untried,y⟩
 | cont=>obtain⟨σ',H',I',y⟩:=q;exact⟨σ',H',I'.untried,y⟩
 | ret u=>obtain⟨v,σ',H',I',rv,y⟩:=q;exact⟨v,σ',H',I'.untried,rv,y⟩
end
end L2
namespace L2
open PySem PySem.Spec PyProof.Rows PySem.SeqAt
theorem zcP:∀{bs:List Bool} {its:QN},Vals (bs.map V.bl) its->its=bs.map Value.bool
 | [],_,.nil=>rfl
 | b::r,_,.cons h t=>by have h:_=Value.bool b:=h;subst h;rw[zcP t];rfl
theorem zkt (bs:List Bool):(bs.map Value.bool).countP (isBoolOf true)=bs.count true:=by
 induction bs with
 | nil=>rfl
 | cons b r ih=>rw[List.map_cons,List.countP_cons,ih,List.count_cons];cases b <;> rfl
section
variable {X:Cx}
theorem zkU:MtR X "list.count" (λx vs H Q=>∃(l:Addr) (bs:List Bool),x=.ref l/\vs=[.bl true]/\SqL X.K H l (bs.map V.bl)/\Q (.int (bs.count true:Nat)) H):=by
 intro pins s σ H x vs v us Q I rx rv h;obtain⟨l,bs,rfl,rfl,hq,q⟩:=h;cases rx;obtain⟨u,rfl,ru⟩:=rv.one;cases (show u=Value.bool true from ru);obtain⟨its,r,pl,hz⟩:=I.list hq;have ei:=zcP r;subst ei;obtain⟨⟨cls,dd,data,sl⟩,ho,hc,n,hd⟩:=pl.isList;simp only at hc hd;subst hc hd;refine call_meets PySem.F.slot_list_count ⟨_,ho,rfl⟩ PySem.F.entry_list_count (PySem.F.args_list_count_2 _ _) (list_countAt l (bs.map Value.bool).toArray n dd sl (.bool true) (isBoolOf true)) ⟨ho,λy hy=>?_,?_⟩
 ·obtain⟨b,_,rfl⟩:=List.mem_map.mp (show y∈bs.map Value.bool by simpa using hy);exact EqAt.bool_bool b true
 ·rw[show(bs.map Value.bool).toArray.toList=bs.map Value.bool from rfl,zkt];exact⟨.int _,H,I.tok _,⟨_,rfl⟩,q⟩
theorem zkM:MtR X "list.index" (λx vs H Q=>∃(l:Addr) (bs:List Bool) (j:Nat),x=.ref l/\vs=[.bl true]/\SqL X.K H l (bs.map V.bl)/\j < 1000/\bs[j]? =some true/\(∀m,m < j->bs[m]? =some false)/\Q (.int (j:Nat)) H):=by
 intro pins s σ H x vs v us Q I rx rv h;obtain⟨l,bs,j,rfl,rfl,hq,hj,hit,hno,q⟩:=h;cases rx;obtain⟨u,rfl,ru⟩:=rv.one;cases (show u=Value.bool true from ru);obtain⟨its,r,pl,hz⟩:=I.list hq;have ei:=zcP r;subst ei;obtain⟨⟨cls,dd,data,sl⟩,ho,hc,n,hd⟩:=pl.isList;simp only at hc hd;subst hc hd;have lj:j < bs.length:=(List.getElem?_eq_some_iff.mp hit).1;refine call_meets PySem.F.slot_list_index ⟨_,ho,rfl⟩ PySem.F.entry_list_index (PySem.F.args_list_index_2 _ _)
  (list_indexAt l (bs.map Value.bool).toArray n dd sl (.bool true) (isBoolOf true) j (by simpa using lj) (by omega) ?_ ?_) ⟨ho,λy hy=>?_,⟨.int _,H,I.tok _,⟨_,rfl⟩,q⟩⟩
 ·have:bs[j]=true:=(List.getElem?_eq_some_iff.mp hit).2;show isBoolOf true ((bs.map Value.bool)[j]'(by rw[List.length_map];exact lj))=true;rw[List.getElem_map,this];rfl
 ·intro m hm lt;have:bs[m]'(by simpa using hm)=false:=(List.getElem?_eq_some_iff.mp (hno m lt)).2;show isBoolOf true ((bs.map Value.bool)[m]'(by simpa using hm))=false;rw[List.getElem_map,this];rfl
 ·obtain⟨b,_,rfl⟩:=List.mem_map.mp (show y∈bs.map Value.bool by simpa using hy);exact EqAt.bool_bool b true
theorem zk3 (hc:X.calm=true):z9 X (.builtin "all") (λxs H Q=>∃(p:Addr) (bs:List Bool),xs=[.ref p]/\SqL X.K H p (bs.map V.bl)/\(∀b∈bs,b=true)/\Q (.bl true) H):=by
 intro pins s σ H xs us Q I r h;obtain⟨p,bs,rfl,hp,hall,q⟩:=h;obtain⟨u,rfl,ru⟩:=vals1 r;cases (show u=Value.ref p from ru);obtain⟨its,rv,pl,hz⟩:=I.list hp;have ei:=zcP rv;subst ei;refine call_all_walk (wpAny_pyIter_list pl.isList ?_);have plt:p < s.heap.objs.size:=by obtain⟨o,e,_⟩:=pl.isList;exact Heap.lt_size e
 have hne:p≠s.heap.objs.size:=Jg plt;refine⟨s.heap.objs.size,[s.heap.objs.size,p],[s.heap.objs.size],(bs.map Value.bool).toArray.size,_,_,λ_=>true,rfl,Walks.list (A:=X.A.in1) (show X.A.in1.handled=none from I.ok.hd hc) s.heap.objs.size p hne (bs.map Value.bool).toArray,⟨⟨_,Heap.get?_push_size _ rfl,rfl,rfl⟩,pl.isList.at λo e=>Heap.get?_push_of_some _ e⟩,?_,λh' tk hk=>?_⟩
 ·intro i v s1 Q1 E1 hv hq;have hv':(bs.map Value.bool)[i]? =some v:=by simpa using hv
  obtain⟨b,hb,rfl⟩:=List.mem_map.mp (List.mem_of_getElem? hv');rw[hall b hb];exact wpAny_pure hq
 ·rw[show((List.range (bs.map Value.bool).toArray.size).all λ_=>true)=true from Jj.mpr λ_ _=>rfl];exact⟨.bl true,H,I.kept λb o eb=>hk b o (λz=>by
   have e:=List.mem_singleton.mp z;have l:=Heap.lt_size eb;rw[e] at l;exact Jp _ l) (Heap.get?_push_of_some _ eb),rfl,q⟩
end
end L2
namespace L2
open PySem PySem.Spec PyProof.Rows
theorem zdJ:∀{us:QN} {ns:QP},us.length=ns.length->(∀(j:Nat) (v:Value) (n:Str),us[j]? =some v->ns[j]? =some n->∃t,v=.str n t)->StrsAre us ns
 | [],[],_,_=>.nil
 | v::us,n::ns,hl,h=>by obtain⟨t,e⟩:=h 0 v n rfl rfl;subst e;exact .cons n t (zdJ (by simpa using hl) λj v n e e'=>h (j+1) v n e e')
 | [],_::_,hl,_=>by simp at hl
 | _::_,[],hl,_=>by simp at hl
theorem zez:∀{us:QN} {ns:QP},StrsAre us ns->Vals (ns.map V.str) us
 | _,_,.nil=>.nil
 | _,_,.cons x t r=>.cons ⟨t,rfl⟩ (zez r)
theorem ziT {l:QP}(h:sortedS l=true):l.Pairwise λa b=>¬b.cps.toList < a.cps.toList:=by
 cases l with
 | nil=>exact .nil
 | cons p r=>
  have:∀(r:QP) (p:Str),risingS p r=true->(p::r).Pairwise λa b=>a.cps.toList<=b.cps.toList:=by
   intro r
   induction r with
   | nil=>intro p _;exact List.pairwise_singleton _ _
   | cons x r ih=>
    intro p h;have h:(!ltCps x.cps.toList p.cps.toList && risingS x r)=true:=h;rw[Bool.and_eq_true,ltCps_eq] at h;have hp:p.cps.toList<=x.cps.toList:=λz=>by rw[decide_eq_true z] at h;cases h.1
    have hr:=ih x h.2;refine List.pairwise_cons.mpr ⟨λy hy=>?_,hr⟩;rcases List.mem_cons.mp hy with rfl | hy
    ·exact hp
    ·exact List.le_trans hp ((List.pairwise_cons.mp hr).1 y hy)
  exact this r p h
theorem zhx {a b:QP}(p:a.Perm b)(h1:a.Pairwise λa b=>¬b.cps.toList < a.cps.toList)(h2:b.Pairwise λa b=>¬b.cps.toList < a.cps.toList):a=b:=
 p.eq_of_pairwise (le:=λa b:Str=>¬b.cps.toList < a.cps.toList) (λx y _ _ u v=>by
  have e:x.cps.toList=y.cps.toList:=List.le_antisymm u v;cases x;cases y;exact congrArg Str.mk (Array.toList_inj.mp e)) h1 h2
section
variable {X:Cx}
theorem zcL (hc:X.calm=true):z9 X (.builtin "sorted") (λxs H Q=>∃(d:Addr) (kvs:QG) (ss:QP),xs=[.ref d]/\H d=some (.dK kvs)/\kvs.map (·.1)=ss.map Sum.inr/\ss.length < 64/\
  ∀(l:Addr) (ns:QP),H l=none->ns.Perm ss->ns.Pairwise (λa b=>¬b.cps.toList < a.cps.toList)->Q (.ref l) (upd H l (.lst (ns.map V.str)))):=by
 intro pins s σ H xs us Q I r h;obtain⟨d,kvs,ss,rfl,hd,hi,h64,q⟩:=h;obtain⟨u,rfl,ru⟩:=vals1 r;cases (show u=Value.ref d from ru);obtain⟨hz,lo,vs,rel,hD⟩:=I.hok d _ hd;obtain⟨ep,hat⟩:=hD.dictAt;have hl:=rel.at.1;have hkl:kvs.length=ss.length:=by have:=congrArg List.length hi;simpa using this
 refine Calls.call_function_entry kind_sorted plain_sorted entry_sorted (args_sorted1 _) ?_;unfold Builtin.«sorted»;refine Ja (m:=checkCount "sorted" 1 1 _) (wpAny_pure ?_);refine Ja (gathered (A:=X.A.in1) (PySem.W.kdl_dict (knd:=zX X.prog X.w) (kvs:=vs) (ep:=ep) lo) (show X.A.in1.handled=none from I.ok.hd hc) hat (by rw[<-hl];exact hz) λh' tk acc hk hlt hacc=>?_);have la:acc.toList.length=vs.length:=by rw[Array.length_toList];exact hacc.1
 refine Ja (wpAny_newList ?_ (by rw[la,<-hl];exact hz));have hS:StrsAre acc.toList ss:=zdJ (by omega) λj v n e en=>by
  obtain⟨k,x,e1,e2⟩:=hacc.2 j v (by rw[<-Array.getElem?_toList];exact e);have h1:(vs.map (·.1))[j]? =some k:=by rw[List.getElem?_map,e1];rfl
  rw[<-rel.at.2,hi,List.getElem?_map,en] at h1;have h2:k=Sum.inr n:=(Option.some.inj h1).symm;subst h2;obtain⟨t,e'⟩:=Value.isStrOf_shape (x:=n) (v:=v) e2;exact⟨t,e'⟩
 have hoL:(h'.push (seqObj "list" acc.toList.toArray 0)).get? h'.objs.size=some (seqObj "list" acc.toList.toArray 0):=Heap.get?_push_size _ rfl;refine Ja (wpAny_holding (wpAny_call_entry slot_list_sort ⟨_,hoL,rfl⟩ entry_list_sort (list_sort_treeK strKind_oneLt hoL hS.keysOf (λv₁ v₂ rest e=>keyKind_strs (by rw[<-e];exact hS)) (by omega) λst' hp hs=>⟨_,rfl,?_⟩) (args_list_sort _)));obtain⟨ns',a1,a2,a3⟩:=sorted_out_str hS hp hs;refine wpAny_pure ⟨_,rfl,?_⟩;have sz:s.heap.objs.size<=h'.objs.size:=Nat.le_of_lt hlt;generalize(arrOf st').map (·.2)=out at a1;have kk:∀b u,s.heap.get? b=some u->(sortedHeap (h'.push (seqObj "list" acc.toList.toArray 0)) h'.objs.size acc.toList out).get? b=some u:=λb u e=>by have e1:=hk b u e;have lt:=Heap.lt_size e1;rw[sortedHeap_old (Jg lt) (by rw[size_push'];exact Jt lt)];exact Heap.get?_push_of_some _ e1
 obtain⟨e,he⟩:=sortedHeap_at (out:=out) hoL;have hn:H h'.objs.size=none:=I.hok.fresh sz;refine⟨.ref h'.objs.size,_,I.laid (o:=.lst (ns'.map V.str)) kk sz ⟨?_,out.toList,e,zez a1,he⟩,rfl,q _ ns' hn a2 (ziT a3)⟩;rw[List.length_map,a2.length_eq,<-hkl];exact hz
end
end L2
namespace L2
open PySem PySem.Spec PyProof.Rows PySem.SeqAt
section
variable {X:Cx}
theorem zou {k:Nat}(hr:Room k X.A):OpR X (compareOp .NotEq) (λx y H Q=>∃a b xs,x=.ref a/\y=.ref b/\SqL X.K H a xs/\SqL X.K H b xs/\(∀x∈xs,(∃r,x=.ref r)\/(zaO x=true/\eqV x x=true))/\Q (.bl false) H):=by
 intro pins s σ H x y v w Q I rx ry h;obtain⟨a,b,xs,rfl,rfl,e1,e2,hf,q⟩:=h;cases (show v=Value.ref a from rx);cases (show w=Value.ref b from ry);have hu:=hr.units;obtain⟨its,r1,T1,_⟩:=I.list e1;obtain⟨jts,r2,T2,_⟩:=I.list e2;have n1:=r1.length;have n2:=r2.length;have key:∀j (h1:j < its.toArray.size) (h2:j < jts.toArray.size),EqAt X.A.in1 s its.toArray[j] jts.toArray[j] true:=λj h1 h2=>by
  have h1':j < its.length:=by simpa using h1
  have h2':j < jts.length:=by simpa using h2
  have hx:xs[j]? =some xs[j]:=List.getElem?_eq_getElem (show j < xs.length by omega);obtain⟨vx,ex,rx⟩:=r1.get hx;obtain⟨vy,ey,ry⟩:=r2.get hx;have z1:its.toArray[j]=vx:=by rw[List.getElem?_eq_getElem h1'] at ex;simpa using Option.some.inj ex
  have z2:jts.toArray[j]=vy:=by rw[List.getElem?_eq_getElem h2'] at ey;simpa using Option.some.inj ey
  rw[z1,z2];rcases hf xs[j] (Jn (show j < xs.length by omega)) with ⟨r,er⟩ | ⟨f1,f2⟩
  ·rw[er] at rx ry;cases (show vx=Value.ref r from rx);cases (show vy=Value.ref r from ry);exact EqAt.same _
  ·have:=ziW (A:=X.A.in1) (s:=s) rx ry f1 f1;rw[f2] at this;exact this
 have hsz:its.toArray.size=jts.toArray.size:=by rw[List.size_toArray,List.size_toArray];omega
 have R':=RcNeAt.lists (e:=λ_=>true) T1.isList T2.isList hsz (show X.A.units < cLine by omega) key;have e3:(List.range its.toArray.size).all (λ_=>true)=true:=Jj.mpr λ_ _=>rfl;rw[e3] at R';exact R' _ _ _ _ ⟨.bl _,H,I,rfl,q⟩
end
end L2
set_option hygiene false
local macro_rules | `(tactic| infer_instance)=> `(tactic| first | assumption | rfl | exact Or.inl rfl | exact Or.inr rfl | exact Or.inr (Or.inl rfl) | exact Or.inr (Or.inr rfl) | exact zn3 | exact zlP | exact PassesOwn.leaving | exact PassesOwn.never | exact zhF | exact λ_=>rfl | exact λ_ _=>rfl | exact zhH (by assumption) | omega | decide)
local macro_rules | `(tactic| ac_rfl)=> `(tactic| first
 | (show PE _ _ _;first | (show PE _ (.Name _ _) _;first | apply pv 0 | apply pv 1 | apply pv 2 | apply pv 3 | apply pv 4 | apply pv 5 | apply pv 6 | apply pv 7 | apply pv 8 | apply pv 9 | apply pv 10 | apply pv 11 | apply pv 12 | apply pv 13 | apply pv 14 | (apply zr8 <;> ac_rfl) | (apply bltT <;> ac_rfl) | (apply zr9 <;> ac_rfl)) | (show PE _ (.Constant _ _ _) _;first | apply zap | apply zar | apply zmJ | apply zmt) | (show PE _ (.Call (.Name _ _) _ _ _) _;first | (apply zpy;assumption) <;> ac_rfl | (apply zp8;assumption) <;> ac_rfl | (apply zql;assumption) <;> ac_rfl | (first | (apply zv;case hv=>rfl) | (apply zf8;case hv=>rfl)) <;> ac_rfl | (apply zrM <;> ac_rfl) | (apply znP <;> ac_rfl) | (apply zrR <;> ac_rfl)) | (show PE _ (.Call _ _ _ _) _;first | ((first | apply zr1 | apply pe_mt0);case M=>assumption) <;> ac_rfl | (apply zhG PySem.F.plainAttrs_list PySem.F.slot_list_append PySem.F.type_list_append zdz <;> ac_rfl) | (apply zhG PySem.F.plainAttrs_list PySem.F.slot_list_extend PySem.F.type_list_extend zks <;> ac_rfl) | (apply zqM PySem.F.plainAttrs_list PySem.F.slot_list_pop PySem.F.type_list_pop zq3 <;> ac_rfl)) | (show PE _ (.Subscript _ _ _) _;first | (apply zhS <;> ac_rfl) | (apply pe_slice3 <;> ac_rfl) | (show PE _ (.Subscript (.Attribute _ _ _) _ _) _;apply zjG <;> ac_rfl) | (apply zaK <;> ac_rfl)) | (show PE _ (.Compare _ _ _ _) _;first | (show PE _ (.Compare _ _ [.Constant _ _ _] _) _;apply z8 <;> ac_rfl) | ((have:=θ;first | apply z8 (zgO (by assumption)) | apply z8 (zef (by assumption))) <;> ac_rfl) | ((apply zna;first | apply zgG | apply zf4) <;> ac_rfl) | (apply z8 <;> ac_rfl) | (apply zml <;> ac_rfl)) | (apply zlE <;> ac_rfl) | (apply zgz <;> ac_rfl) | (apply zdP <;> ac_rfl) | (apply zqI <;> ac_rfl) | (apply zeC <;> ac_rfl) | (apply zrE <;> ac_rfl) | (apply zlR <;> ac_rfl) | (apply zdn <;> ac_rfl) | (apply zbV <;> ac_rfl) | (apply zr7 <;> ac_rfl) | apply zm9)
 | (show PA _ _ _;first | apply za6 | (apply zH <;> ac_rfl))
 | (show PS _ _ _;first | (show PS _ (.Assign _ _ _) _;first | (apply setA 0;rfl) <;> ac_rfl | (apply setA 1;rfl) <;> ac_rfl | (apply setA 2;rfl) <;> ac_rfl | (apply setA 3;rfl) <;> ac_rfl | (apply setA 4;rfl) <;> ac_rfl | (apply setA 5;rfl) <;> ac_rfl | (apply setA 6;rfl) <;> ac_rfl | (apply setA 7;rfl) <;> ac_rfl | (apply setA 8;rfl) <;> ac_rfl | (apply setA 9;rfl) <;> ac_rfl | (apply setA 10;rfl) <;> ac_rfl | (apply setA 11;rfl) <;> ac_rfl | (apply setA 12;rfl) <;> ac_rfl | (apply setA 13;rfl) <;> ac_rfl | (apply setA 14;rfl) <;> ac_rfl | (show PS _ (.Assign [.Subscript (.Attribute _ _ _) _ _] _ _) _;apply zjd <;> ac_rfl) | (apply zqQ <;> ac_rfl) | (apply zqs <;> ac_rfl)) | (apply zZ <;> ac_rfl) | (apply zgQ <;> ac_rfl) | (apply zV <;> ac_rfl) | (apply zam <;> ac_rfl) | (apply zlX <;> ac_rfl) | (apply zhJ <;> ac_rfl))
 | (show PSs _ _ _;first | apply zy | (apply zm <;> ac_rfl) | (apply zc <;> ac_rfl))
 | (show PT _ _ _;first | (show PT _ (.Compare _ _ _ _) _;first | (show PT _ (.Compare _ _ [.Constant _ _ _] _) _;apply zG <;> ac_rfl) | ((have:=θ;first | apply zG (zgO (by assumption)) | apply zG (zef (by assumption))) <;> ac_rfl) | ((apply zlC;first | apply zgG | apply zf4) <;> ac_rfl) | (apply zG <;> ac_rfl) | (apply zb9 <;> ac_rfl)) | (apply zaN <;> ac_rfl) | ((apply PW.pt;first | apply zik | apply zaJ) <;> ac_rfl) | (apply zbL <;> ac_rfl))
 | (show PW _ _ _;first | (apply zjo <;> ac_rfl) | (apply zaA <;> ac_rfl) | (apply zik <;> ac_rfl) | (apply zaJ <;> ac_rfl))
 | (show OpR _ _ _;first | assumption | apply zqb | apply zqJ | apply znl | apply zm4 | apply zpC | apply zfF | apply zpH | apply zrP | apply zqO | apply zoL | apply zqm | apply zl8 | apply zqN | apply zpZ)
 | (show PI _ _ _ _;first | (apply zkT <;> ac_rfl) | (apply zfK <;> ac_rfl) | (apply zqq <;> ac_rfl) | (apply zoj <;> ac_rfl) | (apply zqU <;> ac_rfl) | (apply zor <;> ac_rfl))
 | (show PG _ _ _;first | apply nameA 0 | apply nameA 1 | apply nameA 2 | apply nameA 3 | apply nameA 4 | apply nameA 5 | apply nameA 6 | apply nameA 7 | apply nameA 8 | apply nameA 9 | apply nameA 10 | apply nameA 11 | apply nameA 12 | apply nameA 13 | apply nameA 14 | (apply zmu <;> ac_rfl) | (apply zqk <;> ac_rfl))
 | (show PGs _ _ _;first | apply zjy | (apply ze5 <;> ac_rfl))
 | (show z9 _ _ _;first | apply zaW | apply zJ | apply zmC | apply zmF | apply zfZ | apply zgS | apply zfm | apply zk4 rfl)
 | (show PO _ _ _;first | apply zoV | (apply zgk <;> ac_rfl))
 | (show _=_;first | rfl | assumption | exact zO _)
 | (show IxR _ _;first | (have:=ι;apply zcG) | apply zcj)
 | apply zot
 | apply zqj
 | apply set_list
 | infer_instance)
set_option hygiene true
seal L2.PE L2.PT L2.PW L2.PA L2.PS L2.PSs L2.PC L2.PG L2.PGs L2.PSet L2.PI L2.OpR L2.UnR L2.z9 L2.PO L2.SlR L2.IxR L2.PTs
namespace Pv
open PySem L2
theorem szl {n:Nat}(h:n<=1000):n<=sizeLine:=Nat.le_of_lt (zaX h)
noncomputable instance decSign (c:Nat):Decidable (Sign c):=inferInstanceAs (Decidable (32<=c/\c<=126/\c≠37))
theorem zh {H H1:Hp}{p:Addr}{o:HO}(sm:Same H H1)(h:H1 p=none):Same H (upd H1 p o):=λb u q=>by have q':=sm b u q;rw[zf (zg q' h)];exact q'
theorem zeN {H H1:Hp}{p:Addr}{o:HO}(sm:Same H H1)(h:H p=none):Same H (upd H1 p o):=λb u q=>by rw[zf (zg q h)];exact sm b u q
theorem zk {t u:TS}{D:L2.Ends}{σ:L2.St}{H:Hp}(Pq:L2.St->Hp->Prop)(a:∀N:L2.St->Hp->Prop,(∀σ H,Pq σ H->N σ H)->t {D with nx:=N} σ H)(rest:∀σ H,Pq σ H->u D σ H):tSeq t u D σ H:=a (u D) rest
theorem not1 {a b:Addr}(h:a≠b):a∉ [b]:=λz=>h (List.mem_singleton.mp z)
theorem zcY {ws:QO}{H H1:Hp}{p:Addr}{o:HO}(f:Frm ws H H1)(h:H1 p=none):Frm ws H (upd H1 p o):=f.trans (Frm.new h)
theorem zbI {ws:QO}{H H1:Hp}{p:Addr}{o:HO}(f:Frm ws H H1)(h:H p=none):Frm ws H (upd H1 p o):=λb u n q=>by rw[zf (zg q h)];exact f b u n q
end Pv
namespace Pv
open PySem L2
noncomputable abbrev zpu:Stmt:=top 28
noncomputable abbrev zlt:Stmt:=top 29
noncomputable abbrev zeW:Stmt:=top 30
inductive zgA (vs:QQ) (H:Hp) (Q:L2.VK) (_E:XK):Prop
 | mk (x:Str) (_:vs=[.str x]) (_:Q (.int (numOf x.cps.toList)) H):zgA vs H Q _E
inductive zgF (n:Nat) (vs:QQ) (H:Hp) (Q:L2.VK) (_E:XK):Prop
 | mk (t:Th) (v:V) (_:vs=[v]) (_:Rep H t v) (_:Wf t) (_:dep t < n) (_:nodes t<=100) (_:∀(r:Addr) (H':Hp),Same H H'->H' r=some (.lst ((zal t).map V.int))->Q (.ref r) H'):zgF n vs H Q _E
inductive zeY (vs:QQ) (H:Hp) (Q:L2.VK) (_E:XK):Prop
 | mk (t:Th) (v:V) (_:vs=[v]) (_:Rep H t v) (_:Wf t) (_:dep t < 10) (_:nodes t<=100) (_:∀(H':Hp),Same H H'->Q (.int (zl t)) H'):zeY vs H Q _E
section
variable {P:Program}{w:World}{K:QA}{mg:QB}{base:Heap}
theorem zgi (D:Dfn K mg "number_of" zeW ["signs"]) (m_ord:mg "ord" =none):Fn P w K mg base "number_of" 1 ["signs"] zgA:=by
 refine D.ok (k:=0) (L2.fsN ["signs","number","sign"]) (λf cdv A outer s H vs Q E hr h=>?_);obtain⟨x,rfl,q⟩:=h;refine⟨_,(zc (by ac_rfl)
 (zc (zam PassesOwn.never rfl (zet (pv 0)) (by ac_rfl)
 (by ac_rfl))
 (by ac_rfl))),?_⟩
 refine⟨_,rfl,x,rfl,?_⟩;refine zgL (z:=x) (λi σ H'=>H'=H/\∃kk,σ=[some (.str x),some (.int (numOf (x.cps.toList.take i))),kk]) ⟨rfl,_,rfl⟩ ?_ ?_
 ·rintro i c σ H' hc ⟨rfl,kk,rfl⟩;refine⟨_,rfl,_,_,rfl,rfl,.inr ⟨by decide,by decide⟩,_,rfl,_,rfl,rfl,_,_,rfl,rfl,rfl,some (.str ⟨#[c]⟩),?_⟩;have e:x.cps.toList.take (i+1)=x.cps.toList.take i++ [c]:=by rw[List.take_add_one,Array.getElem?_toList,hc];rfl
  rw[e,ziF]
  rfl
 ·rintro σ H' ⟨rfl,kk,rfl⟩;refine⟨_,rfl,?_⟩;have e:x.cps.toList.take x.cps.size=x.cps.toList:=Jl (by simp);rw[e];exact q
theorem zhX (D:Dfn K mg "codes" zlt ["thing"]) (zh3:Fn P w K mg base "number_of" 1 ["signs"] zgA) (zd:mg "isinstance" =none) (zbg:mg "int" =none) (zbB:mg "str" =none) (zah:mg "range" =none) (zx:mg "len" =none):
  ∀n:Nat,Fn P w K mg base "codes" (n+2) ["thing"] (zgF n)
 | 0=>D.never λvs H Q E h=>by obtain⟨t,v,_,_,_,h1,_⟩:=h;omega
 | n+1=>by
  have zo1:=zhX D zh3 zd zbg zbB zah zx n;refine D.ok (k:=n+2) (L2.fsN ["thing","raised","sevens","row","part"]) (λf cdv A outer s H vs Q E hr h=>?_);obtain⟨t,v,rfl,hrep,hwf,hdep,hnod,q⟩:=h;have hlen:=zdq t hwf;refine⟨_,(zc (by ac_rfl)
 (zc (by ac_rfl)
 (zc (zV (by ac_rfl)
 (zc (zhf (i:=2) (zt.one (y:= "thing") (j:=0) (c:=s.heap.objs.size+1) (by rfl) (by rfl) (by decide+kernel) (by decide+kernel) (by rfl) (by decide+kernel) (by rfl) (by decide+kernel) (by rfl) (by first | exact Or.inl rfl | exact Or.inr rfl) (by first | exact Or.inl rfl | exact Or.inr rfl)) rfl (zfK rfl zah (zH zap (zH (zv (z9.or zaW zR) (by rfl) zx (by rfl) (by ac_rfl)) (zH zap za6)))) (λ_ _ _=>zcl) (λ_ _ _=>(zhS zqc (pv 1) (zgk (pv 0)) (zgk (by ac_rfl)))) (zc5 rfl) rfl (Or.inl rfl) (by rfl))
 (zm (zZ (zdP zmT (zgz (zH zap (zH (zv (z9.or zaW zR) (by rfl) zx (by rfl) (by ac_rfl)) za6))) (zb5 (zt.zero (by rfl) (by decide+kernel) (by decide+kernel) (by decide+kernel) (by rfl)) rfl (by ac_rfl) (λ_ _ _=>zcl) (λ_ _ _=>(by ac_rfl)))))))
 zy)
 (zc (setA 3 rfl (zgz (zH zap (zH (zv (z9.or zaW zR) (by rfl) zx (by rfl) (by ac_rfl)) za6))))
 (zc (zam PassesOwn.never rfl (zgK (pv 0)) (by ac_rfl)
 (by ac_rfl))
 (by ac_rfl)))))),?_⟩
  refine⟨_,rfl,rfl,_,rfl,?_⟩;cases hrep with
  | non=>refine ifT (by decide) ?_;refine⟨szl (show 1<=1000 by decide),λp hp=>?_⟩;exact q p _ (Frm.new hp).same za
  | int i=>refine ifF (by rfl) ?_;refine⟨_,rfl,_,_,_,_,rfl,.int i,rfl,_,rfl,?_⟩;refine ifT rfl ?_;refine⟨_,rfl,_,_,rfl,rfl,⟨by decide,by decide,by decide⟩,_,_,rfl,rfl,?_⟩;refine⟨_,rfl,_,_,rfl,rfl,⟨by decide,by decide,by decide⟩,_,_,rfl,rfl,⟨by decide+kernel,by decide+kernel⟩,_,rfl,_,_,rfl,rfl,⟨by decide,by decide,by decide⟩,_,_,rfl,rfl,(show(0:Int) < 10 ^ (15:Int).toNat by decide+kernel),szl (show 3<=1000 by decide),λp hp=>?_⟩;exact q p _ (Frm.new hp).same za
  | str x=>
   have hx:x.length<=60:=hwf.1;refine ifF (by rfl) ?_;refine⟨_,rfl,_,_,_,_,rfl,.str x,rfl,_,rfl,?_⟩;refine ifF rfl ?_;refine⟨_,rfl,_,_,_,_,rfl,.str x,rfl,_,rfl,?_⟩;refine ifT rfl ?_;refine⟨_,rfl,.inr ⟨x,rfl,szl (by omega),?_⟩⟩;refine⟨_,_,rfl,by omega,by omega,by decide,by decide,λp hp=>?_⟩;rw[zkq];refine zgP (J:=Itrs 0 7 (zaQ x)) (n:=zaQ x) (λi acc H'=>acc=(List.range i).map (λk=>V.str (zgx x k))/\H'=upd H p (.lst acc)) ⟨rfl,rfl⟩ (by exact λi acc H' hi _=>hi) (by exact λacc H' _=>Jb _) ?_ ?_
   ·rintro i acc H' y H'' hi ⟨ha,rfl⟩ ⟨e1,e2⟩;subst e1 e2;refine tt1 ?_;refine⟨_,rfl,_,rfl,_,rfl,_,rfl,_,_,rfl,rfl,_,rfl,x,rfl,szl (by omega),?_⟩;have hal:acc.length=i:=by rw[ha,List.length_map,List.length_range]
    refine⟨za,Jd (show acc.length < 1000 by unfold zaQ at hi;omega) (szl (Jb _)),nxt hi ⟨?_,zgT⟩⟩;rw[List.range_succ,List.map_append,ha,zkN hi]
    rfl
   ·rintro acc H' ⟨ha,rfl⟩;refine⟨_,rfl,.inr ⟨x,rfl,szl (by omega),szl (show 2<=1000 by decide),λp2 hp2=>?_⟩⟩;have np:p≠p2:=λz=>by rw[<-z,za] at hp2;cases hp2
    have ep:upd (upd H p (.lst acc)) p2 (.lst [.int 3,.int (x.length:Nat)]) p=some (.lst acc):=by rw[zf np];exact za
    have hal:acc.length=zaQ x:=by rw[ha,List.length_map,List.length_range]
    refine⟨_,rfl,p,rfl,⟨_,SqL.of ep⟩,λp3 hp3=>?_⟩;have np3:p≠p3:=(zg ep hp3);have np23:p2≠p3:=(zg za hp3);refine zgP (n:=zaQ x) (λi acc' H'=>acc'=(List.range i).map (λk=>V.int (numOf (chunk x k)))/\H'=upd (upd (upd H p (.lst acc)) p2 (.lst [.int 3,.int (x.length:Nat)])) p3 (.lst acc')) ⟨rfl,rfl⟩ ?_ ?_ ?_ ?_
    ·rintro i acc' H' hi ⟨_,rfl⟩;exact⟨acc,acc[i],SqL.of (by rw[zf np3];exact ep),by rw[List.getElem?_eq_getElem]⟩
    ·rintro acc' H' ⟨_,rfl⟩;exact⟨acc,SqL.of (by rw[zf np3];exact ep),by omega⟩
    ·rintro i acc' H' y H'' hi ⟨ha',rfl⟩ ⟨e1,e2⟩;subst e1;have ey:=e2 acc (SqL.of (by rw[zf np3];exact ep));have ey2:y=V.str (zgx x i):=by rw[ha,List.getElem?_map,List.getElem?_range hi] at ey;exact(Option.some.inj ey).symm
     subst ey2;refine tt1 ?_;refine⟨_,rfl,_,rfl,za,?_,nxt hi ⟨?_,zgT⟩⟩
     ·have:acc'.length=i:=by rw[ha',List.length_map,List.length_range]
      exact Jd (show acc'.length < 1000 by unfold zaQ at hi;omega) (szl (Jb _))
     ·rw[List.range_succ,List.map_append,ha']
      rfl
    ·rintro acc' H' ⟨ha',rfl⟩;have hal':acc'.length=zaQ x:=by rw[ha',List.length_map,List.length_range]
     refine⟨p2,p3,[.int 3,.int (x.length:Nat)],acc',rfl,rfl,by rw[zf np23];exact za,za,szl (show 2+acc'.length<=1000 by unfold zaQ at hal';omega),λr hr'=>?_⟩
     refine q r _ (λb o hb=>?_) ?_
     ·have n1:=zg hb hp;have e1:upd H p (.lst acc) b=some o:=by rw[zf n1];exact hb
      have n2:=zg e1 hp2;have e2:upd (upd H p (.lst acc)) p2 (.lst [.int 3,.int (x.length:Nat)]) b=some o:=by rw[zf n2];exact e1
      have n3:=zg e2 hp3;have e3:upd (upd (upd H p (.lst acc)) p2 (.lst [.int 3,.int (x.length:Nat)])) p3 (.lst acc') b=some o:=by rw[zf n3];exact e2
      rw[zf (zg e3 hr')];exact e3
     ·rw[za,ha'];show some (HO.lst ([V.int 3,V.int (x.length:Nat)]++_))=some (HO.lst (([3,(x.length:Int)]++zds x).map V.int));rw[List.map_append];unfold zds;rw[List.map_map]
      rfl
  | @tup a xs ts e hl hrs=>
   have hw:ts.length<=40:=hwf.1;refine ifF (by rfl) ?_;refine⟨_,rfl,_,_,_,_,rfl,.tup e,rfl,_,rfl,?_⟩;refine ifF rfl ?_;refine⟨_,rfl,_,_,_,_,rfl,.tup e,rfl,_,rfl,?_⟩;refine ifF rfl ?_;refine⟨_,rfl,.inl ⟨a,_,rfl,.inr (SqT.of e),szl (show 2<=1000 by decide),λrw hrw=>?_⟩⟩;have nra:a≠rw:=zg e hrw;have keepT:∀{H':Hp},Same H H'->Tups H H':=λz=>Same.tups z;refine⟨_,rfl,a,rfl,⟨_,SqT.of (by rw[zf nra];exact e)⟩,?_⟩;refine zgj (xs:=xs) (λi σ H'=>∃kk,σ=[some (.ref a),none,none,some (.ref rw),kk]/\Same H H'/\H' rw=some (.lst (([4,(ts.length:Int)]++zad (ts.take i)).map V.int))) ⟨_,rfl,(Frm.new hrw).same,?_⟩ ?_ ?_ ?_
   ·rw[za,hl]
    rfl
   ·rintro i σ H' hi ⟨kk,rfl,sm,er⟩;exact SqT.of (sm _ _ e)
   ·rintro i x σ H' hx ⟨kk,rfl,sm,er⟩;have hil:i < ts.length:=by rw[<-hl];exact(List.getElem?_eq_some_iff.mp hx).1
    have ht:ts[i]? =some ts[i]:=List.getElem?_eq_getElem hil;have hcl:=zcF ts hwf.2;have hcl':=zbR ts i;have hcn:1+za2 ts<=100:=hnod;have hsub:nodes ts[i]<=za2 ts:=zek ht;refine⟨_,rfl,.inl ⟨rfl,_,SqL.of er⟩,_,rfl,ts[i],x,rfl,(hrs i x _ hx ht).keep (keepT sm),hwf.2.get ht,?_,by omega,λr H2 sm2 er2=>?_⟩
    ·have:=zb6 ht;have:depL ts+1 < n+1:=hdep;omega
    have hc1:=zdq ts[i] (hwf.2.get ht);refine⟨rw,r,_,_,rfl,rfl,sm2 _ _ er,er2,szL ?_,?_⟩
    ·simp only[List.length_map,List.length_append,List.length_cons,List.length_nil];omega
    ·refine⟨_,rfl,λb o hb=>?_,?_⟩
     ·rw[zf (zg hb hrw)];exact sm2 _ _ (sm _ _ hb)
     ·rw[za,zho ht];simp only[List.map_append,List.append_assoc]
   ·rintro σ H' ⟨kk,rfl,sm,er⟩;refine⟨_,rfl,q rw H' sm ?_⟩;rw[er,hl,List.take_length]
    rfl
theorem zo0 (D:Dfn K mg "seal" zpu ["thing"]) (zo1:Fn P w K mg base "codes" 12 ["thing"] (zgF 10)):Fn P w K mg base "seal" 13 ["thing"] zeY:=by
 refine D.ok (k:=12) (L2.fsN ["thing","folded","code"]) (λf cdv A outer s H vs Q E hr h=>?_);obtain⟨t,v,rfl,hrep,hwf,hdep,hnod,q⟩:=h;refine⟨_,(by ac_rfl),?_⟩;refine⟨_,rfl,t,v,rfl,hrep,hwf,hdep,hnod,λr H1 sm er=>?_⟩;refine⟨r,rfl,⟨_,SqL.of er⟩,?_⟩;refine zb0 (xs:=(zal t).map V.int) (λi σ H'=>H'=H1/\∃kk,σ=[some v,some (.int (zcJ ((zal t).take i))),kk]) ⟨rfl,_,rfl⟩ ?_ ?_ ?_
 ·rintro i σ H' _ ⟨rfl,_⟩;exact SqL.of er
 ·rintro i x σ H' hx ⟨rfl,kk,rfl⟩;rw[List.getElem?_map] at hx;obtain⟨c,hc,rfl⟩:=Option.map_eq_some_iff.mp hx;have rg:=zdH ((zal t).take i);have e61:(2:Int) ^ (61:Int).toNat - 1=2305843009213693951:=by decide+kernel
  refine⟨_,rfl,_,_,rfl,rfl,.inl ⟨by omega,by omega⟩,_,rfl,_,_,rfl,rfl,_,_,rfl,rfl,⟨by decide,by decide,by decide⟩,_,_,rfl,rfl,_,_,rfl,rfl,(show(0:Int) < 2 ^ (61:Int).toNat - 1 by decide+kernel),rfl,some (.int c),?_⟩;rw[ziJ hc,<-e61]
  rfl
 ·rintro σ H' ⟨rfl,kk,rfl⟩;refine⟨_,rfl,_,_,rfl,rfl,?_⟩;rw[List.length_map,List.take_length];exact q _ sm
end
end Pv
namespace Pv
open PySem L2
noncomputable abbrev zhU:Stmt:=top 18
noncomputable abbrev zmd:Stmt:=top 19
noncomputable abbrev zaL:Stmt:=top 20
inductive ziQ (vs:QQ) (H:Hp) (Q:L2.VK) (_E:XK):Prop
 | mk (t:Th) (v:V) (_:vs=[v]) (_:Rep H t v) (_:Q (.int (zan t)) H):ziQ vs H Q _E
inductive zaV (n:Nat) (vs:QQ) (H:Hp) (Q:L2.VK) (_E:XK):Prop
 | mk (t u:Th) (v w:V) (_:vs=[v,w]) (_:Rep H t v) (_:Rep H u w) (_:dep t < n) (_:dep t<=40) (_:∀H':Hp,Same H H'->Q (.bl (zb t u)) H'):zaV n vs H Q _E
inductive zhD (n:Nat) (vs:QQ) (H:Hp) (Q:L2.VK) (_E:XK):Prop
 | mk (ts us:List Th) (v w:V) (_:vs=[v,w]) (_:Rep H (.tup ts) v) (_:Rep H (.tup us) w) (_:depL ts < n) (_:depL ts<=39) (_:∀H':Hp,Same H H'->Q (.bl (zaC ts us)) H'):zhD n vs H Q _E
section
variable {P:Program}{w:World}{K:QA}{mg:QB}{base:Heap}
theorem zn0 (D:Dfn K mg "kind_of" zhU ["thing"]) (zd:mg "isinstance" =none) (zbg:mg "int" =none) (zbB:mg "str" =none):Fn P w K mg base "kind_of" 1 ["thing"] ziQ:=by
 refine D.ok (k:=0) (L2.fsN ["thing"]) (λf cdv A outer s H vs Q E hr h=>?_);obtain⟨t,v,rfl,rt,q⟩:=h;refine⟨_,(by ac_rfl),?_⟩;refine⟨_,rfl,rfl,_,rfl,?_⟩;cases rt with
 | non=>exact ifT (by decide) q
 | int i=>refine ifF (by rfl) ?_;refine⟨_,rfl,_,_,_,_,rfl,.int i,rfl,_,rfl,?_⟩;exact ifT rfl q
 | str x=>refine ifF (by rfl) ?_;refine⟨_,rfl,_,_,_,_,rfl,.str x,rfl,_,rfl,?_⟩;refine ifF rfl ?_;refine⟨_,rfl,_,_,_,_,rfl,.str x,rfl,_,rfl,?_⟩;exact ifT rfl q
 | tup e l h=>refine ifF (by rfl) ?_;refine⟨_,rfl,_,_,_,_,rfl,.tup e,rfl,_,rfl,?_⟩;refine ifF rfl ?_;refine⟨_,rfl,_,_,_,_,rfl,.tup e,rfl,_,rfl,?_⟩;exact ifF rfl q
theorem zkI {n:Nat}(D:Dfn K mg "is_tuple_ahead" zaL ["one","other"]) (zco:Fn P w K mg base "ahead" (2 * n+2) ["one","other"] (zaV n)) (zh4:mg "zip" =none) (zx:mg "len" =none):Fn P w K mg base "is_tuple_ahead" (2 * n+3) ["one","other"] (zhD n):=by
 refine D.ok (k:=2 * n+2) (L2.fsN ["one","other","mine","its"]) (λf cdv A outer s H vs Q E hr h=>?_);obtain⟨ts,us,v,w,rfl,r1,r2,hd,hd40,q⟩:=h;cases r1 with
 | @tup a xs _ e1 l1 h1=>
 cases r2 with
 | @tup b ys _ e2 l2 h2=>
 refine⟨_,(by have θ:=0;ac_rfl),?_⟩;refine⟨_,rfl,_,rfl,a,b,xs,ys,rfl,SqT.of e1,SqT.of e2,?_⟩;refine zoG (K:=K) (p:=a) (q:=b) (xs:=xs) (us:=ys) (λi σ H'=>∃k2 k3,σ=[some (.ref a),some (.ref b),k2,k3]/\Same H H'/\zaC ts us=zaC (ts.drop i) (us.drop i)) ⟨_,_,rfl,Same.refl _,rfl⟩ ?_ ?_ ?_
 ·rintro i σ H1 ⟨k2,k3,rfl,sm,_⟩;exact⟨SqT.of (sm _ _ e1),SqT.of (sm _ _ e2)⟩
 ·rintro i x u T σ H1 hx hu hT ⟨k2,k3,rfl,sm,ea⟩;have hi:i < ts.length:=by rw[<-l1];exact(List.getElem?_eq_some_iff.mp hx).1
  have hj:i < us.length:=by rw[<-l2];exact(List.getElem?_eq_some_iff.mp hu).1
  have ht:ts[i]? =some ts[i]:=List.getElem?_eq_getElem hi;have hv:us[i]? =some us[i]:=List.getElem?_eq_getElem hj;have tk:Tups H (upd H1 T (.tup [x,u])):=(Same.tups sm).trans (Tups.new hT);have ra:=(h1 i x _ hx ht).keep tk;have rb:=(h2 i u _ hu hv).keep tk;have hdi:=zb6 ht;refine⟨T,_,rfl,SqT.of za,rfl,_,_,rfl,_,_,rfl,rfl,?_⟩;refine⟨_,rfl,_,rfl,ts[i],us[i],ra,rb,by omega,_,rfl,?_⟩;have sm':Same H (upd H1 T (.tup [x,u])):=λc o hc=>by rw[zf (zg (sm _ _ hc) hT)];exact sm _ _ hc
  rw[zh1 hi hj] at ea;refine ifB (λc=>?_) (λc=>?_)
  ·have ne:¬eqT ts[i] us[i]=true:=by intro z;rw[z] at c;cases c
   rw[if_neg ne] at ea;refine⟨_,rfl,_,rfl,ts[i],us[i],_,_,rfl,ra,rb,by omega,by omega,λH2 s2=>?_⟩;rw[<-ea];exact q H2 (sm'.trans s2)
  ·have eq:eqT ts[i] us[i]=true:=by
    cases z:eqT ts[i] us[i] with
    | true=>rfl
    | false=>rw[z] at c;cases c
   rw[if_pos eq] at ea;exact⟨_,_,rfl,sm',ea⟩
 ·rintro σ H1 ⟨k2,k3,rfl,sm,ea⟩;refine⟨_,rfl,a,_,rfl,.inr (SqT.of (sm _ _ e1)),_,rfl,b,_,rfl,.inr (SqT.of (sm _ _ e2)),_,_,rfl,rfl,?_⟩;rw[l1,l2,ziq] at ea;have ed:decide ((xs.length:Int) < (ys.length:Int))=zaC ts us:=by rw[ea,l1,l2];rw[Bool.eq_iff_iff];simp
  show Q (.bl (decide ((xs.length:Int) < (ys.length:Int)))) H1;rw[ed];exact q H1 sm
theorem zhr (Da:Dfn K mg "ahead" zmd ["one","other"]) (Dt:Dfn K mg "is_tuple_ahead" zaL ["one","other"]) (zk9:Fn P w K mg base "kind_of" 1 ["thing"] ziQ) (zh4:mg "zip" =none) (zx:mg "len" =none) (zd:mg "isinstance" =none) (zY:mg "tuple" =none):
  ∀n:Nat,Fn P w K mg base "ahead" (2 * n+2) ["one","other"] (zaV n)
 | 0=>Da.never λvs H Q E h=>by obtain⟨t,u,v,w,_,_,_,h1,_⟩:=h;omega
 | n+1=>by
  have zla:=zkI Dt (zhr Da Dt zk9 zh4 zx zd zY n) zh4 zx;refine Da.ok (k:=2 * n+3) (L2.fsN ["one","other","kind"]) (λf cdv A outer s H vs Q E hr h=>?_);obtain⟨t,u,v,w,rfl,r1,r2,hd,hd40,q⟩:=h;refine⟨_,(zc (by ac_rfl)
 (zc (by ac_rfl)
 (zc (by ac_rfl)
 (zc (by ac_rfl)
 (zm (zZ (z8 (OpR.or zpC zf0) (pv 0) (pv 1) (zO _)))))))),?_⟩
  refine⟨_,rfl,t,v,rfl,r1,?_⟩;refine⟨_,rfl,_,rfl,u,w,rfl,r2,rfl,_,rfl,?_⟩;rw[zai];refine ifB (λc=>?_) (λc=>?_)
  ·have ne:zan t≠zan u:=λz=>by rw[decide_eq_true z] at c;cases c
   refine⟨_,rfl,_,rfl,u,w,rfl,r2,_,_,rfl,rfl,?_⟩;show Q (.bl (decide (zan t < zan u))) H;rw[<-zhm ne];exact q H (Same.refl _)
  ·have eq:zan t=zan u:=by
    by_cases z:zan t=zan u
    ·exact z
    ·rw[decide_eq_false z] at c;cases c
   refine⟨_,rfl,rfl,_,rfl,?_⟩;cases r1 with
   | non=>
    refine ifT (by decide) ?_;cases r2 with
    | non=>exact q H (Same.refl _)
    | int i=>exact Je eq (by show(0:Int)≠1;decide)
    | str x=>exact Je eq (by show(0:Int)≠2;decide)
    | tup e l h=>exact Je eq (by show(0:Int)≠3;decide)
   | int i=>
    refine ifF (by rfl) ?_;refine⟨_,rfl,_,_,_,_,rfl,.int i,rfl,_,rfl,?_⟩;refine ifF rfl ?_;cases r2 with
    | non=>exact Je eq (by show(1:Int)≠0;decide)
    | int j=>exact⟨_,rfl,_,rfl,.inl ⟨_,_,rfl,rfl,q H (Same.refl _)⟩⟩
    | str x=>exact Je eq (by show(1:Int)≠2;decide)
    | tup e l h=>exact Je eq (by show(1:Int)≠3;decide)
   | str x=>
    refine ifF (by rfl) ?_;refine⟨_,rfl,_,_,_,_,rfl,.str x,rfl,_,rfl,?_⟩;refine ifF rfl ?_;cases r2 with
    | non=>exact Je eq (by show(2:Int)≠0;decide)
    | int j=>exact Je eq (by show(2:Int)≠1;decide)
    | str y=>exact⟨_,rfl,_,rfl,.inr ⟨_,_,rfl,rfl,q H (Same.refl _)⟩⟩
    | tup e l h=>exact Je eq (by show(2:Int)≠3;decide)
   | @tup a xs ts e l h=>
    refine ifF (by rfl) ?_;refine⟨_,rfl,_,_,_,_,rfl,.tup e,rfl,_,rfl,?_⟩;refine ifT rfl ?_;cases r2 with
    | non=>exact Je eq (by show(3:Int)≠0;decide)
    | int j=>exact Je eq (by show(3:Int)≠1;decide)
    | str y=>exact Je eq (by show(3:Int)≠2;decide)
    | @tup b ys us e' l' h'=>have hd':depL ts+1 < n+1:=hd;have hd'':depL ts+1<=40:=hd40;exact⟨_,rfl,_,rfl,ts,us,_,_,rfl,.tup e l h,.tup e' l' h',by omega,by omega,λH2 s2=>q H2 s2⟩
end
end Pv
namespace Pv
open PySem L2
noncomputable abbrev zbP:Stmt:=inClass (top 86) 0
noncomputable abbrev zaR:Stmt:=inClass (top 86) 1
noncomputable abbrev zeJ:Stmt:=inClass (top 86) 2
noncomputable abbrev zcN:Stmt:=inClass (top 86) 3
noncomputable abbrev zaM:Stmt:=inClass (top 4) 0
structure Good (t:Th):Prop where
 wf:Wf t
 dp:dep t<=8
 nd:nodes t<=80
structure Flds (fs:List (Str ×V))(d:Addr):Prop where
 la:fs.lookup ("laid" :Str)=some (V.ref d)
 n1:fs.lookup ("refuse_clash" :Str)=none
 n2:fs.lookup ("lay" :Str)=none
 n3:fs.lookup ("thing" :Str)=none
 n4:fs.lookup ("things" :Str)=none
 n5:fs.lookup ("paper" :Str)=none
theorem zpx (d:Addr):Flds [("laid",.ref d)] d:=⟨rfl,rfl,rfl,rfl,rfl,rfl⟩
structure VOk (H:Hp)(C a d:Addr)(kvs:QG):Prop where
 ob:∃dx fs,H a=some (.ins C dx fs)/\Flds fs d
 di:H d=some (.dK kvs)
theorem VOk.keep {H H':Hp}{C a d:Addr}{kvs:QG}(v:VOk H C a d kvs)(s:Same H H'):VOk H' C a d kvs:=by obtain⟨⟨dx,fs,e,f⟩,e2⟩:=v;exact⟨⟨dx,fs,s _ _ e,f⟩,s _ _ e2⟩
noncomputable def zdp (H:Hp)(kvs:QG):Prop:=∀(n:Int) (v:V),valV kvs (.inl n)=some v->∃t,Rep H t v/\Good t/\zl t=n
theorem zdp.keep {H H':Hp}{kvs:QG}(l:zdp H kvs)(s:Tups H H'):zdp H' kvs:=λn v e=>by obtain⟨t,r,g⟩:=l n v e;exact⟨t,r.keep s,g⟩
noncomputable def zjP (E:XK)(CC:Addr)(H:Hp)(t1 t2:Th)(v1 v2:V):Prop:=∀(H':Hp) (x:Addr),Same H H'->H' x=some (xdO x [("one",v1),("other",v2)])->E (.ref CC) (some x) H'
inductive zeb (C:Addr) (vs:QQ) (H:Hp) (Q:L2.VK) (_E:XK):Prop
 | mk (a dx:Addr) (_:vs=[.ref a]) (_:H a=some (.ins C dx [])) (_:∀d,H d=none->Q .non (upd (upd H d (.dK [])) a (.ins C dx [("laid",.ref d)]))):zeb C vs H Q _E
inductive zgy (CC:Addr) (vs:QQ) (H:Hp) (Q:L2.VK) (_E:XK):Prop
 | mk (x:Addr) (v1 v2:V) (_:vs=[.ref x,v1,v2]) (_:H x=some (exO x CC none true)) (_:∀d,H d=none->d≠x->Q .non (upd (upd (upd H d (xdO d [("one",v1)])) x (exO x CC (some d) true)) d (xdO d [("one",v1),("other",v2)]))):zgy CC vs H Q _E
inductive zeS (C CC:Addr) (vs:QQ) (H:Hp) (Q:L2.VK) (E:XK):Prop
 | mk (a d:Addr) (kvs:QG) (n:Int) (t:Th) (v:V) (_:vs=[.ref a,.int n,v]) (_:VOk H C a d kvs) (_:zdp H kvs) (_:Rep H t v) (_:Good t) (_:zl t=n) (_:((∀t1 v1,valV kvs (.inl n)=some v1->Rep H t1 v1->t1=t)->Q .non H)) (_:(∀t1 v1,valV kvs (.inl n)=some v1->Rep H t1 v1->Good t1->zl t1=zl t->t1≠t->zjP E CC H t1 t v1 v)):zeS C CC vs H Q E
inductive zlN (C CC:Addr) (vs:QQ) (H:Hp) (Q:L2.VK) (E:XK):Prop
 | mk (a d:Addr) (kvs:QG) (t:Th) (v:V) (_:vs=[.ref a,v]) (_:VOk H C a d kvs) (_:zdp H kvs) (_:kvs.length<=1000000) (_:Rep H t v) (_:Good t) (_:(∀H',Same H H'->(∀t1 v1,valV kvs (.inl (zl t))=some v1->Rep H t1 v1->t1=t)->Q (.int (zl t)) (upd H' d (.dK (putK kvs (.inl (zl t)) v))))) (_:(∀t1 v1 H',Same H H'->valV kvs (.inl (zl t))=some v1->Rep H' t1 v1->Good t1->zl t1=zl t->t1≠t->zjP E CC H' t1 t v1 v)):zlN C CC vs H Q E
inductive zlF (C:Addr) (vs:QQ) (H:Hp) (Q:L2.VK) (_E:XK):Prop
 | mk (a d:Addr) (kvs:QG) (n:Int) (v:V) (_:vs=[.ref a,.int n]) (_:VOk H C a d kvs) (_:valV kvs (.inl n)=some v) (_:Q v H):zlF C vs H Q _E
inductive zel (C CN:Addr) (vs:QQ) (H:Hp) (Q:L2.VK) (E:XK):Prop
 | mk (a d:Addr) (kvs:QG) (n:Int) (_:vs=[.ref a,.int n]) (_:VOk H C a d kvs) (_:(∀v,valV kvs (.inl n)=some v->Q v H)) (_:(valV kvs (.inl n)=none->E (.ref CN) none H)):zel C CN vs H Q E
theorem DRep.laidOk {H:Hp}{cs:QF}{kvs:QG}(r:DRep H cs kvs)(g:∀p∈cs,Good p.2/\zl p.2=p.1):zdp H kvs:=λn v e=>by obtain⟨t,e1,rv⟩:=r.back e;obtain⟨g1,g2⟩:=g _ (zfL e1);exact⟨t,rv,g1,g2⟩
theorem zmp (v1 v2:V):putF ("other" :Str) v2 [(("one" :Str),v1)]=[(("one" :Str),v1),(("other" :Str),v2)]:=by
 unfold putF;rw[if_neg (by decide)]
 rfl
theorem Rep.uniq {H:Hp}{t u:Th}{v:V}(r:Rep H t v):Rep H u v->t=u:=by
 induction r generalizing u with
 | non=>intro q;cases q;rfl
 | int i=>intro q;cases q;rfl
 | str x=>intro q;cases q;rfl
 | @tup a xs ts e l h ih=>
  intro q;cases q with
  | @tup _ ys us e' l' h'=>
   rw[e] at e';cases e';congr 1;apply List.ext_getElem?;intro i;by_cases hi:i < ts.length
   ·have h1:ts[i]? =some ts[i]:=List.getElem?_eq_getElem hi;have h2:us[i]? =some us[i]:=List.getElem?_eq_getElem (by omega);have h3:xs[i]? =some xs[i]:=List.getElem?_eq_getElem (by omega);rw[h1,h2,ih i _ _ h3 h1 (h' i _ _ h3 h2)]
   ·rw[List.getElem?_eq_none (by omega),List.getElem?_eq_none (by omega)]
section
variable {P:Program}{w:World}{K:QA}{mg:QB}{base:Heap}{C CC:Addr}{x:Str}
theorem zlI (D:Mkd K mg x C "Vault.__init__" zbP ["self"]) (c:Cls K C) (nl:zN K C "laid"):Mkr P w K mg base x C 1 ["self"] (zeb C):=by refine D.ok (k:=0) (L2.fsN ["self"]) (λf cdv A outer s H vs Q E hr h=>?_);obtain⟨a,dx,rfl,ea,q⟩:=h;refine⟨_,(by ac_rfl),?_⟩;intro d hd;exact⟨_,rfl,a,C,dx,[],rfl,by rw[zf (zg ea hd)];exact ea,c,nl,by decide,q d hd⟩
theorem zmh (D:XId K mg "Clash" CC "Clash.__init__" zaM ["self","one","other"]) (n1:zN K CC "one") (n2:zN K CC "other"):XI P w K mg base "Clash" CC 1 ["self","one","other"] (zgy CC):=by
 have c:=D.cl;refine D.ok (k:=0) (L2.fsN ["self","one","other"]) (λf cdv A outer s H vs Q E hr h=>?_);obtain⟨x,v1,v2,rfl,ex,q⟩:=h;refine⟨_,(zc (zp5 (pv 0) (pv 1) (by rfl))
 (zm (zp0 (pv 0) (pv 2) (by rfl)))),?_⟩
 refine⟨_,rfl,_,rfl,x,CC,true,rfl,ex,c,n1,λd hd hdx=>?_⟩;refine⟨_,rfl,_,rfl,x,CC,true,d,[("one",v1)],rfl,za,by rw[zf hdx];exact za,hdx,c,n2,(show(1:Nat) < 1000 by decide),?_⟩;show Q .non (upd _ d (xdO d (putF "other" v2 [("one",v1)])));rw[zmp];exact q d hd hdx
theorem zkg (D:Mdf K C "refuse_clash" "Vault.refuse_clash" zaR ["self","number","thing"]) (zo2:XI P w K mg base "Clash" CC 1 ["self","one","other"] (zgy CC)) (c:Cls K C) (nl:zN K C "laid"):
  Mt P w K mg base (CX1 P w) C "refuse_clash" 3 ["self","number","thing"] (zeS C CC):=by
 refine D.okX (k:=2) (L2.fsN ["self","number","thing"]) (λf cdv A outer s H vs Q E hr h=>?_);obtain⟨a,d,kvs,n,t,v,rfl,vo,lo,rt,gt,sn,q,qe⟩:=h;obtain⟨⟨dx,fs,eo,fl⟩,ed⟩:=vo;refine⟨_,(by have θ:=0;ac_rfl),?_⟩;refine⟨_,rfl,_,rfl,a,C,dx,_,_,rfl,eo,c,nl,fl.la,d,_,rfl,DGet.k (k:=Sum.inl n) ed,_,rfl,?_⟩;cases ev:valV kvs (Sum.inl n) with
 | none=>exact ifF rfl (ifF rfl (q λt1 v1 e=>by rw[ev] at e;cases e))
 | some v1=>
  obtain⟨t1,r1,g1,s1⟩:=lo n v1 ev;have gd:=g1.dp;have dg:DGet H d (.int n) (some v1):=by rw[<-ev];exact DGet.k (k:=Sum.inl n) ed
  refine ifT rfl ?_;refine⟨_,rfl,a,C,dx,_,_,rfl,eo,c,nl,fl.la,_,rfl,d,v1,rfl,dg,_,rfl,t1,t,r1,rt,by omega,_,rfl,?_⟩;refine ifB (λcc=>?_) (λcc=>?_)
  ·have ne:t1≠t:=λz=>by rw[z,za4] at cc;cases cc
   refine⟨_,rfl,a,C,dx,_,_,rfl,eo,c,nl,fl.la,_,rfl,d,v1,rfl,dg,_,rfl,szl (show 2<=1000 by decide),λx hx=>?_⟩;refine⟨x,v1,v,rfl,za,λd' hd' hdx=>⟨rfl,?_⟩⟩;have hd2:H d'=none:=by rw[zf hdx] at hd';exact hd'
   refine⟨x,CC,some d',rfl,by rw[zf (Ne.symm hdx)];exact za,zo2.cl.q,?_⟩;refine qe t1 v1 ev r1 g1 (s1.trans sn.symm) ne _ d' (λb o hb=>?_) ?_
   ·have b1:b≠x:=zg hb hx;have b2:b≠d':=zg hb hd2;rw[za3 b1,zf b2,zf b1,zf b2,zf b1];exact hb
   ·rw[za3 hdx];exact za
  ·have eq:t1=t:=(zaT t1 t).mp (by cases z:eqT t1 t with | true=>rfl | false=>rw[z] at cc;cases cc);exact q λt2 v2 e r2=>by rw[ev] at e;cases e;exact(r2.uniq r1).trans eq
theorem zqw (D:Mdf K C "lay" "Vault.lay" zeJ ["self","thing"]) (znr:Mt P w K mg base (CX1 P w) C "refuse_clash" 3 ["self","number","thing"] (zeS C CC)) (zns:Fn P w K mg base "seal" 13 ["thing"] zeY) (c_K:Cls K C) (nl:zN K C "laid"):
  Mt P w K mg base (CX1 P w) C "lay" 14 ["self","thing"] (zlN C CC):=by
 refine D.okX (k:=13) (L2.fsN ["self","thing","number"]) (λf cdv A outer s H vs Q E hr h=>?_);obtain⟨a,d,kvs,t,v,rfl,vo,lo,hl,rt,gt,q,qe⟩:=h;have gd:=gt.dp;have gn:=gt.nd;refine⟨_,(by ac_rfl),?_⟩;refine⟨_,rfl,t,v,rfl,rt,gt.wf,by omega,by omega,λH1 s1=>?_⟩;have vo1:=vo.keep s1;obtain⟨⟨dx,fs,eo,fl⟩,ed⟩:=id vo1;have rt1:=rt.keep (Same.tups s1);refine⟨_,rfl,a,dx,_,rfl,eo,fl.n1,_,rfl,_,rfl,a,d,kvs,_,t,v,rfl,vo1,lo.keep (Same.tups s1),rt1,gt,rfl,λsame=>?_,λt1 v1 ev r1 g1 sn ne=>qe t1 v1 H1 s1 ev r1 g1 sn ne⟩;refine⟨_,rfl,_,rfl,a,C,dx,_,_,rfl,eo,c_K,nl,fl.la,_,rfl,d,_,rfl,DPut.k (k:=Sum.inl (zl t)) ed (Nat.lt_of_le_of_lt hl (by decide+kernel)),?_⟩;exact⟨_,rfl,q H1 s1 λt1 v1 e r=>same t1 v1 e (r.keep (Same.tups s1))⟩
theorem zkc {CN:Addr}(D:Mdf K C "thing" "Vault.thing" zcN ["self","number"]) (zlb:XP K mg "NoPaper" CN) (c:Cls K C) (nl:zN K C "laid"):Mt P w K mg base (CX1 P w) C "thing" 1 ["self","number"] (zel C CN):=by
 refine D.okX (k:=0) (L2.fsN ["self","number"]) (λf cdv A outer s H vs Q E hr h=>?_);obtain⟨a,d,kvs,n,rfl,⟨⟨dx,fs,eo,fl⟩,ed⟩,q,qe⟩:=h;refine⟨_,(by ac_rfl),?_⟩;refine⟨_,rfl,_,rfl,a,C,dx,_,_,rfl,eo,c,nl,fl.la,d,_,rfl,DGet.k (k:=Sum.inl n) ed,_,rfl,?_⟩;cases ev:valV kvs (Sum.inl n) with
 | none=>refine ifT rfl ⟨szl (show 1<=1000 by decide),λe he=>⟨e,CN,none,rfl,za,zlb.cl.q,?_⟩⟩;rw[zbd he];exact qe ev
 | some v=>
  have dg:DGet H d (.int n) (some v):=by rw[<-ev];exact DGet.k (k:=Sum.inl n) ed
  refine ifF rfl ?_;exact⟨_,rfl,a,C,dx,_,_,rfl,eo,c,nl,fl.la,_,rfl,d,v,rfl,dg,q v ev⟩
end
end Pv
namespace Pv
open PySem L2
noncomputable def addT (cs:QF)(n:Int)(t:Th):List (Int ×Th):=match zj cs n with | none=>cs++ [(n,t)] | some _=>cs
noncomputable def Fits (cs:QF)(n:Int)(t:Th):Prop:=zj cs n=none\/zj cs n=some t
structure GoodC (cs:QF):Prop where
 nd:(cs.map (·.1)).Nodup
 gd:∀p∈cs,Good p.2/\zl p.2=p.1
theorem zbo {cs:QF}{n:Int}{t:Th}(h:zj cs n=none):addT cs n t=cs++ [(n,t)]:=by unfold addT;rw[h]
theorem zbw {cs:QF}{n:Int}{t u:Th}(h:zj cs n=some u):addT cs n t=cs:=by unfold addT;rw[h]
theorem zlv (cs:QF)(n:Int)(t:Th):(addT cs n t).length<=cs.length+1:=by
 cases e:zj cs n with
 | none=>rw[zbo e,List.length_append];exact Jb _
 | some u=>rw[zbw e];omega
theorem DRep.add {H:Hp}{cs:QF}{kvs:QG}{n:Int}{t:Th}{v:V}(r:DRep H cs kvs)(h:Rep H t v)(f:Fits cs n t)(nd:(cs.map (·.1)).Nodup):DRep H (addT cs n t) (putK kvs (.inl n) v):=by
 rcases f with f | f
 ·rw[zbo f];exact r.put h f
 ·rw[zbw f];exact r.again h f nd
theorem GoodC.add {cs:QF}{n:Int}{t:Th}(g:GoodC cs)(gt:Good t)(sn:zl t=n):GoodC (addT cs n t):=by
 cases e:zj cs n with
 | some u=>rw[zbw e];exact g
 | none=>
  rw[zbo e];refine⟨?_,λp hp=>?_⟩
  ·rw[List.map_append,List.nodup_append];refine⟨g.nd,by simp,λa ha b hb=>?_⟩;cases List.mem_singleton.mp hb;exact λz=>ziX e (by have z':a=n:=z;rw[<-z'];exact ha)
  ·rcases List.mem_append.mp hp with h | h
   ·exact g.gd p h
   ·cases List.mem_singleton.mp h;exact⟨gt,sn⟩
theorem GoodC.nil:GoodC []:=⟨List.nodup_nil,λp h=>by cases h⟩
theorem GoodC.dep {cs:QF}{n:Int}{t:Th}(g:GoodC cs)(e:zj cs n=some t):Good t/\zl t=n:=g.gd _ (zfL e)
theorem zki {cs:QF}{n m:Int}{t u:Th}(e:zj cs m=some u):zj (addT cs n t) m=some u:=by
 cases z:zj cs n with
 | some y=>rw[zbw z];exact e
 | none=>rw[zbo z,zcB,e]
theorem zdW {cs:QF}{n:Int}{t:Th}(f:Fits cs n t):zj (addT cs n t) n=some t:=by
 rcases f with f | f
 ·rw[zbo f,zcB,f];exact if_pos rfl
 ·rw[zbw f];exact f
theorem zeG {cs:QF}{n m:Int}{t u:Th}(e:zj (addT cs n t) m=some u):zj cs m=some u\/(m=n/\u=t):=by
 cases z:zj cs n with
 | some y=>rw[zbw z] at e;exact .inl e
 | none=>
  rw[zbo z,zcB] at e;cases y:zj cs m with
  | some w=>rw[y] at e;exact .inl e
  | none=>
   rw[y] at e;by_cases q:n=m
   ·have e':(if n=m then some t else none)=some u:=e;rw[if_pos q] at e';cases e';exact .inr ⟨q.symm,rfl⟩
   ·have e':(if n=m then some t else none)=some u:=e;rw[if_neg q] at e';cases e'
end Pv
namespace Pv
open PySem L2
noncomputable abbrev zdw:Stmt:=top 16
noncomputable abbrev zhg:Stmt:=top 41
noncomputable abbrev zha:Stmt:=top 40
noncomputable abbrev zcv:Stmt:=top 39
noncomputable abbrev zct:Stmt:=top 42
noncomputable abbrev zpQ:Stmt:=top 43
noncomputable abbrev zm8:Stmt:=top 44
open Tr
theorem Mt.imp {P:Program}{w:World}{K:QA}{mg:QB}{base:Heap}{CX:CXT}{C:Addr}{m:Str}{k:Nat}{ps:QP}{sp sp':Sp}(F:Mt P w K mg base CX C m k ps sp)(h:∀vs H Q E,sp' vs H Q E->sp vs H Q E):Mt P w K mg base CX C m k ps sp':=by obtain⟨f,fd,a,b⟩:=F.ex;exact⟨f,fd,a.imp h,b⟩
structure VS (H:Hp)(C a d:Addr)(cs:QF):Prop where
 vo:∃kv,VOk H C a d kv/\DRep H cs kv
 gc:GoodC cs
noncomputable def Fr1 (d:Addr)(H H':Hp):Prop:=∀b o,b≠d->H b=some o->H' b=some o
noncomputable def Cl (CC:Addr)(E:XK):Prop:=∀(t1 t2:Th) (v1 v2:V) (H:Hp) (x:Addr),Rep H t1 v1->Rep H t2 v2->Good t1->Good t2->t1≠t2->zl t1=zl t2->H x=some (xdO x [("one",v1),("other",v2)])->E (.ref CC) (some x) H
inductive zqZ (C CC:Addr) (vs:QQ) (H:Hp) (Q:L2.VK) (E:XK):Prop
 | mk (a d:Addr) (cs:QF) (t:Th) (v:V) (_:vs=[.ref a,v]) (_:VS H C a d cs) (_:cs.length<=1000000) (_:Rep H t v) (_:Good t) (_:Cl CC E) (_:∀H',Fr1 d H H'->Fits cs (zl t) t->VS H' C a d (addT cs (zl t) t)->Q (.int (zl t)) H'):zqZ C CC vs H Q E
inductive zlW (C:Addr) (vs:QQ) (H:Hp) (Q:L2.VK) (_E:XK):Prop
 | mk (a d:Addr) (cs:QF) (n:Int) (t:Th) (_:vs=[.ref a,.int n]) (_:VS H C a d cs) (_:zj cs n=some t) (_:∀v,Rep H t v->Q v H):zlW C vs H Q _E
structure NodeOk (k wo:Th)(l r c:Int):Prop where
 k0:k≠ .non
 w0:wo≠ .non
 l0:0<=l
 r0:0<=r
 c1:1<=c
 c2:c<=300
inductive zp9 (vs:QQ) (H:Hp) (Q:L2.VK) (_E:XK):Prop
 | mk (i:Int) (_:vs=[.int i]) (_:0<=i) (_:Q (.bl true) H):zp9 vs H Q _E
inductive zmL (vs:QQ) (H:Hp) (Q:L2.VK) (_E:XK):Prop
 | mk (v:V) (k wo:Th) (l r c:Int) (_:vs=[v]) (_:Rep H (zaz k wo l r c) v) (_:NodeOk k wo l r c) (_:Q (.bl true) H):zmL vs H Q _E
structure TOk (cs:QF)(T:Tr):Prop where
 iv:T.InV cs
 ky:∀p∈T.ps,KeyT p.1/\KeyT p.2
 ct:T.cnt<=300
theorem TOk.mono {cs cs':QF}{T:Tr}(t:TOk cs T)(s:Sub cs cs'):TOk cs' T:=⟨InV.mono s t.iv,t.ky,t.ct⟩
theorem TOk.nil {cs:QF}:TOk cs Tr.nil:=⟨trivial,λp h=>(nomatch h),Nat.zero_le _⟩
theorem TOk.l {cs:QF}{l r:Tr}{k w:Th}(t:TOk cs (node l k w r)):TOk cs l:=⟨t.iv.2.1,λp h=>t.ky p (Jk _ h),by have:=t.ct;rw[zu] at this;omega⟩
theorem TOk.r {cs:QF}{l r:Tr}{k w:Th}(t:TOk cs (node l k w r)):TOk cs r:=⟨t.iv.2.2,λp h=>t.ky p (Jf _ (Jh _ h)),by have:=t.ct;rw[zu] at this;omega⟩
theorem TOk.kw {cs:QF}{l r:Tr}{k w:Th}(t:TOk cs (node l k w r)):KeyT k/\KeyT w:=t.ky (k,w) (Jf _ List.mem_cons_self)
theorem TOk.kid {cs:QF}{T:Tr}{x:Th}(t:TOk cs T):TOk cs (T.kid x):=by
 cases T with
 | nil=>exact .nil
 | node l k w r=>
  show TOk cs (if zb k x=true then r else l);split
  ·exact t.r
  ·exact t.l
theorem TOk.down {cs:QF}{x:Th}:∀{n:Nat} {T:Tr},TOk cs T->TOk cs (down x n T)
 | 0,_,t=>t
 | n+1,_,t=>TOk.down (n:=n) t.kid
theorem zkQ {k wo:Th}{l r c:Int}(hk:KeyT k)(hw:KeyT wo)(l0:0<=l)(l1:l<=10 ^ 30)(r0:0<=r)(r1:r<=10 ^ 30)(c0:1<=c)(c1:c<=300):NodeOk k wo l r c/\Good (zaz k wo l r c):=by
 refine⟨⟨hk.ne,hw.ne,l0,r0,c0,c1⟩,⟨⟨by show(5:Nat)<=40;decide,hk.wf,hw.wf,⟨by omega,l1⟩,⟨by omega,r1⟩,⟨by omega,by omega⟩,trivial⟩,?_,?_⟩⟩
 ·have h1:=hk.dp;have h2:=hw.dp;show max (dep k) (max (dep wo) (max 0 (max 0 (max 0 0))))+1<=8;omega
 ·have h1:=hk.nd;have h2:=hw.nd;show 1+(nodes k+(nodes wo+(1+(1+(1+0)))))<=80;omega
theorem zaS {l r:Tr}{k w:Th}(hk:KeyT k)(hw:KeyT w)(h:(node l k w r).cnt<=300):NodeOk k w l.root r.root (((l.ps++(k,w)::r.ps).length:Nat):Int)/\Good (node l k w r).thing:=by have h1:=zeR l;have h2:=zeR r;have h3:(l.ps++(k,w)::r.ps).length=(node l k w r).cnt:=rfl;have h4:=zu l k w r;exact zkQ hk hw h1.1 (by omega) h2.1 (by omega) (by omega) (by omega)
inductive zr4 (C:Addr) (vs:QQ) (H:Hp) (Q:L2.VK) (_E:XK):Prop
 | mk (a d:Addr) (cs:QF) (l r:Tr) (k w:Th) (m:Int) (_:vs=[.ref a,.int (node l k w r).root,.int m]) (_:VS H C a d cs) (_:TOk cs (node l k w r)) (_:((node l k w r).cnt:Int) < m) (_:∀v,Rep H (node l k w r).thing v->Q v H):zr4 C vs H Q _E
inductive zoP (C:Addr) (vs:QQ) (H:Hp) (Q:L2.VK) (_E:XK):Prop
 | mk (a d:Addr) (cs:QF) (T:Tr) (_:vs=[.ref a,.int T.root]) (_:VS H C a d cs) (_:TOk cs T) (_:Q (.int (T.cnt:Int)) H):zoP C vs H Q _E
inductive zlw (C:Addr) (vs:QQ) (H:Hp) (Q:L2.VK) (_E:XK):Prop
 | mk (a d:Addr) (cs:QF) (T:Tr) (m:Int) (_:vs=[.ref a,.int T.root,.int m]) (_:VS H C a d cs) (_:TOk cs T) (_:(T.cnt:Int) < m) (_:Q (.int (T.cnt:Int)) H):zlw C vs H Q _E
inductive zis (vs:QQ) (H:Hp) (Q:L2.VK) (_E:XK):Prop
 | mk (t:Th) (v:V) (_:vs=[v]) (_:Rep H t v) (_:Good t) (_:∀H',Same H H'->Q (.int (zca t)) H'):zis vs H Q _E
inductive zd8 (vs:QQ) (H:Hp) (Q:L2.VK) (_E:XK):Prop
 | mk (t u:Th) (v w:V) (_:vs=[v,w]) (_:Rep H t v) (_:Rep H u w) (_:Good t) (_:Good u) (_:∀H',Same H H'->Q (.bl (zac t u)) H'):zd8 vs H Q _E
theorem zkY {t:Th}(g:Good t):Wf (.tup [.str ("rank" :Str),t])/\dep (.tup [.str ("rank" :Str),t]) < 10/\nodes (.tup [.str ("rank" :Str),t])<=100:=by
 have h1:=g.dp;have h2:=g.nd;refine⟨⟨by show(2:Nat)<=40;decide,⟨by decide+kernel,by decide+kernel⟩,g.wf,trivial⟩,?_,?_⟩
 ·show max 0 (max (dep t) 0)+1 < 10;omega
 ·show 1+(1+(nodes t+0))<=100;omega
theorem zq {H:Hp}{k wo:Th}{l r c:Int}{v:V}(rep:Rep H (zaz k wo l r c) v):∃a vk vw,v=.ref a/\H a=some (.tup [vk,vw,.int l,.int r,.int c])/\Rep H k vk/\Rep H wo vw:=by
 obtain⟨a,xs,e,ea,r1⟩:=rep.list;cases r1 with
 | cons h1 r2=>
 cases r2 with
 | cons h2 r3=>
 cases r3 with
 | cons h3 r4=>
 cases r4 with
 | cons h4 r5=>
 cases r5 with
 | cons h5 r6=>
 cases r6 with
 | nil=>
 cases h3;cases h4;cases h5;exact⟨a,_,_,e,ea,h1,h2⟩
section
variable {P:Program}{w:World}{K:QA}{mg:QB}{base:Heap}{C CC:Addr}{x:Str}{t1 t2 t3 t4 t5 t6 t7:Tok}
theorem zn8 (D:Dfn K mg "rank" zpQ ["key"]) (zns:Fn P w K mg base "seal" 13 ["thing"] zeY):Fn P w K mg base "rank" 14 ["key"] zis:=by refine D.ok (k:=13) (L2.fsN ["key"]) (λf cdv A outer s H vs Q E hr h=>?_);obtain⟨t,v,rfl,rt,gt,q⟩:=h;obtain⟨g1,g2,g3⟩:=zkY gt;refine⟨_,(by ac_rfl),?_⟩;refine⟨_,rfl,szl (show 2<=1000 by decide),λp hp=>?_⟩;exact⟨_,_,rfl,(RepL.cons (.str _) (.cons rt .nil)).new hp,g1,g2,g3,λH' s'=>q H' ((zh (Same.refl H) hp).trans s')⟩
theorem zmY (D:Dfn K mg "above" zm8 ["key","other"]) (zsA:Fn P w K mg base "rank" 14 ["key"] zis) (zco:Fn P w K mg base "ahead" 20 ["one","other"] (zaV 9)):Fn P w K mg base "above" 21 ["key","other"] zd8:=by
 refine D.ok (k:=20) (L2.fsN ["key","other","mine","its"]) (λf cdv A outer s H vs Q E hr h=>?_);obtain⟨t,u,v,w,rfl,rt,ru,gt,gu,q⟩:=h;refine⟨_,(by ac_rfl),?_⟩;refine⟨_,rfl,t,v,rfl,rt,gt,λH1 s1=>?_⟩;refine⟨_,rfl,u,w,rfl,ru.keep (Same.tups s1),gu,λH2 s2=>?_⟩;have s12:=s1.trans s2;have gd:=gt.dp;refine⟨_,rfl,_,rfl,rfl,_,rfl,?_⟩;rw[zai];refine ifB (λc=>?_) (λc=>?_)
 ·have ne:zca t≠zca u:=λz=>by rw[decide_eq_true z] at c;cases c
  refine⟨_,rfl,_,rfl,_,_,rfl,rfl,?_⟩;have:=q H2 s12;unfold zac at this;rw[if_neg ne] at this;exact this
 ·have eq:zca t=zca u:=by
   by_cases z:zca t=zca u
   ·exact z
   ·rw[decide_eq_false z] at c;cases c
  refine⟨_,rfl,_,rfl,t,u,v,w,rfl,rt.keep (Same.tups s12),ru.keep (Same.tups s12),by omega,by omega,λH3 s3=>?_⟩;have:=q H3 (s12.trans s3);unfold zac at this;rw[if_pos eq] at this;exact this
end
end Pv
namespace Pv
open PySem L2
theorem zbe {H:Hp}{t:Th}{v:V}(r:Rep H t v):decide (v=V.non)=decide (t=.non):=by
 cases r with
 | non=>rfl
 | int i=>exact(decide_eq_false (by intro z;cases z)).trans (decide_eq_false (by intro z;cases z)).symm
 | str x=>exact(decide_eq_false (by intro z;cases z)).trans (decide_eq_false (by intro z;cases z)).symm
 | tup e l h=>exact(decide_eq_false (by intro z;cases z)).trans (decide_eq_false (by intro z;cases z)).symm
structure Nd where
 k:Th
 w:Th
 l:Int
 r:Int
 c:Int
noncomputable abbrev Nd.th (n:Nd):Th:=zaz n.k n.w n.l n.r n.c
noncomputable def isW:Th->Bool
 | .int _=>true
 | _=>false
noncomputable def isR:Th->Bool
 | .int i=>decide (0<=i)
 | _=>false
noncomputable def zm1:Th->Bool
 | .int i=>decide (1<=i) && decide (i<=300)
 | _=>false
noncomputable def isN:Th->Bool
 | .tup [k,w,l,r,c]=>!decide (k=.non) && (!decide (w=.non) && (isR l && (isR r && zm1 c)))
 | _=>false
noncomputable def ndOf:Th->Option Nd
 | .tup [k,w,.int l,.int r,.int c]=>if isN (.tup [k,w,.int l,.int r,.int c])=true then some ⟨k,w,l,r,c⟩ else none
 | _=>none
theorem zjC {ts:List Th}(h:ts.length≠5):isN (.tup ts)=false:=by
 match ts,h with
 | [],_=>rfl
 | [_],_=>rfl
 | [_,_],_=>rfl
 | [_,_,_],_=>rfl
 | [_,_,_,_],_=>rfl
 | [_,_,_,_,_],h=>exact Je rfl h
 | _::_::_::_::_::_::_,_=>rfl
theorem zqT {nd:Nd}(h:NodeOk nd.k nd.w nd.l nd.r nd.c):isN nd.th=true:=by
 show(!decide (nd.k=.non) && (!decide (nd.w=.non) && (decide (0<=nd.l) && (decide (0<=nd.r) && (decide (1<=nd.c) && decide (nd.c<=300))))))=true;rw[decide_eq_false h.k0,decide_eq_false h.w0,decide_eq_true h.l0,decide_eq_true h.r0,decide_eq_true h.c1,decide_eq_true h.c2]
 rfl
theorem zlG {nd:Nd}(h:isN nd.th=true):NodeOk nd.k nd.w nd.l nd.r nd.c:=by have h':(!decide (nd.k=.non) && (!decide (nd.w=.non) && (decide (0<=nd.l) && (decide (0<=nd.r) && (decide (1<=nd.c) && decide (nd.c<=300))))))=true:=h;simp only[Bool.and_eq_true,Bool.not_eq_true',decide_eq_false_iff_not,decide_eq_true_eq] at h';obtain⟨a,b,c,d,e,f⟩:=h';exact⟨a,b,c,d,e,f⟩
theorem zjI {nd:Nd}(h:isN nd.th=true):ndOf nd.th=some nd:=by show(if isN nd.th=true then some nd else none)=some nd;rw[if_pos h]
theorem zjx {t:Th}(h:isR t=true):∃i,t=.int i:=by
 cases t with
 | int i=>exact⟨i,rfl⟩
 | non=>cases h
 | str x=>cases h
 | tup ts=>cases h
theorem zqL {t:Th}(h:isN t=true):∃nd:Nd,t=nd.th:=by
 cases t with
 | non=>cases h
 | int i=>cases h
 | str x=>cases h
 | tup ts=>
  by_cases hl:ts.length=5
  ·match ts,hl,h with
   | [k,w,l,r,c],_,h=>
    have h':(!decide (k=.non) && (!decide (w=.non) && (isR l && (isR r && zm1 c))))=true:=h;simp only[Bool.and_eq_true] at h';obtain⟨_,_,h3,h4,h5⟩:=h';obtain⟨l',rfl⟩:=zjx h3;obtain⟨r',rfl⟩:=zjx h4;cases c with
    | int c'=>exact⟨⟨k,w,l',r',c'⟩,rfl⟩
    | non=>cases h5
    | str x=>cases h5
    | tup ts=>cases h5
  ·rw[zjC hl] at h;cases h
theorem zdr {t:Th}{nd:Nd}(h:ndOf t=some nd):t=nd.th/\isN t=true:=by
 unfold ndOf at h;split at h
 ·rename_i k w l r c;split at h
  ·rename_i z;cases h;exact⟨rfl,z⟩
  ·cases h
 ·cases h
theorem zke {t:Th}(h:ndOf t=none):isN t=false:=by
 cases z:isN t with
 | false=>rfl
 | true=>obtain⟨nd,rfl⟩:=zqL z;rw[zjI z] at h;cases h
inductive zcW (vs:QQ) (H:Hp) (Q:L2.VK) (_E:XK):Prop
 | mk (t:Th) (v:V) (_:vs=[v]) (_:Rep H t v) (_:Q (.bl (isW t)) H):zcW vs H Q _E
inductive zd2 (vs:QQ) (H:Hp) (Q:L2.VK) (_E:XK):Prop
 | mk (t:Th) (v:V) (_:vs=[v]) (_:Rep H t v) (_:Q (.bl (isR t)) H):zd2 vs H Q _E
inductive zmo (vs:QQ) (H:Hp) (Q:L2.VK) (_E:XK):Prop
 | mk (t:Th) (v:V) (_:vs=[v]) (_:Rep H t v) (_:Q (.bl (isN t)) H):zmo vs H Q _E
section
variable {P:Program}{w:World}{K:QA}{mg:QB}{base:Heap}{x:Str}{t1 t2 t3 t4 t5 t6 t7:Tok}
theorem zkL (D:Dfn K mg "is_whole" zdw ["value"]) (zd:mg "isinstance" =none) (zbg:mg "int" =none) (zcb:mg "bool" =none):Fn P w K mg base "is_whole" 1 ["value"] zcW:=by
 refine D.ok (k:=0) (L2.fsN ["value"]) (λf cdv A outer s H vs Q E hr h=>?_);obtain⟨t,v,rfl,rt,q⟩:=h;refine⟨_,(by ac_rfl),?_⟩;cases rt with
 | non=>exact⟨_,rfl,_,_,_,_,rfl,.non,rfl,_,rfl,ifF rfl q⟩
 | int i=>refine⟨_,rfl,_,_,_,_,rfl,.int i,rfl,_,rfl,ifT rfl ?_⟩;exact⟨_,rfl,_,_,_,_,rfl,.int i,rfl,_,rfl,q⟩
 | str x=>exact⟨_,rfl,_,_,_,_,rfl,.str x,rfl,_,rfl,ifF rfl q⟩
 | tup e l h=>exact⟨_,rfl,_,_,_,_,rfl,.tup e,rfl,_,rfl,ifF rfl q⟩
theorem zmP (D:Dfn K mg "is_root" zhg ["thing"]) (zfe:Fn P w K mg base "is_whole" 1 ["value"] zcW):Fn P w K mg base "is_root" 2 ["thing"] zd2:=by
 refine D.ok (k:=1) (L2.fsN ["thing"]) (λf cdv A outer s H vs Q E hr h=>?_);obtain⟨t,v,rfl,rt,q⟩:=h;refine⟨_,(by ac_rfl),?_⟩;refine⟨_,rfl,t,v,rfl,rt,_,rfl,?_⟩;cases rt with
 | non=>exact ifF rfl q
 | int i=>exact ifT rfl ⟨_,rfl,_,_,rfl,rfl,q⟩
 | str x=>exact ifF rfl q
 | tup e l h=>exact ifF rfl q
theorem zkA (D:Dfn K mg "is_node" zha ["thing"]) (zlc:Fn P w K mg base "is_root" 2 ["thing"] zd2) (zfe:Fn P w K mg base "is_whole" 1 ["value"] zcW) (zd:mg "isinstance" =none) (zY:mg "tuple" =none) (zx:mg "len" =none)
  (zau:mg "KEY" =some (.int 0 t1)) (zbh:mg "WORTH" =some (.int 1 t2)) (zae:mg "LEFT" =some (.int 2 t3)) (zM:mg "RIGHT" =some (.int 3 t4)) (zD:mg "COUNT" =some (.int 4 t5)) (zc7:mg "MOST_NODES" =some (.int 300 t6)):
  Fn P w K mg base "is_node" 3 ["thing"] zmo:=by
 refine D.ok (k:=2) (L2.fsN ["thing"]) (λf cdv A outer s H vs Q E hr h=>?_);obtain⟨t,v,rfl,rt,q⟩:=h;refine⟨_,(by have ι:=0;ac_rfl),?_⟩;cases rt with
 | non=>exact⟨_,rfl,_,_,_,_,rfl,.non,rfl,_,rfl,ifT rfl (ifT rfl q)⟩
 | int i=>exact⟨_,rfl,_,_,_,_,rfl,.int i,rfl,_,rfl,ifT rfl (ifT rfl q)⟩
 | str x=>exact⟨_,rfl,_,_,_,_,rfl,.str x,rfl,_,rfl,ifT rfl (ifT rfl q)⟩
 | @tup a xs ts ea l0 h0=>
  refine⟨_,rfl,_,_,_,_,rfl,.tup ea,rfl,_,rfl,ifF rfl ?_⟩;refine⟨_,rfl,a,_,rfl,.inr (SqT.of ea),rfl,_,rfl,?_⟩;rw[zai];by_cases hl:ts.length=5
  ·have rep:Rep H (.tup ts) (.ref a):=.tup ea l0 h0
   match ts,hl,rep,q with
   | [k,wo,l,r,c],_,rep,q=>
   obtain⟨a',xs',e,ea',r1⟩:=rep.list;cases e;rw[ea] at ea';cases ea';cases r1 with
   | cons rk r2=>
   cases r2 with
   | cons rw' r3=>
   cases r3 with
   | cons rl r4=>
   cases r4 with
   | cons rr r5=>
   cases r5 with
   | cons rc r6=>
   cases r6 with
   | nil=>
   refine ifF (by rfl) ?_;rename_i vk vw vl vr vc;have et:SqT K H a [vk,vw,vl,vr,vc]:=SqT.of ea;have q':Q (.bl (!decide (k=.non) && (!decide (wo=.non) && (isR l && (isR r && zm1 c))))) H:=q;refine⟨_,rfl,a,_,_,_,rfl,rfl,et,rfl,rfl,_,rfl,?_⟩;rw[zbe rk];cases z1:decide (k=.non) with
   | true=>rw[z1] at q';exact ifT rfl (ifT rfl q')
   | false=>
   rw[z1] at q';refine ifF rfl ?_;refine⟨_,rfl,a,_,_,_,rfl,rfl,et,rfl,rfl,_,rfl,?_⟩;rw[zbe rw'];cases z2:decide (wo=.non) with
   | true=>rw[z2] at q';exact ifT rfl q'
   | false=>
   rw[z2] at q';refine ifF rfl ?_;refine⟨_,rfl,a,_,_,_,rfl,rfl,et,rfl,l,_,rfl,rl,_,rfl,?_⟩;cases z3:isR l with
   | false=>rw[z3] at q';exact ifT rfl (ifT rfl q')
   | true=>
   rw[z3] at q';refine ifF rfl ?_;refine⟨_,rfl,a,_,_,_,rfl,rfl,et,rfl,r,_,rfl,rr,_,rfl,?_⟩;cases z4:isR r with
   | false=>rw[z4] at q';exact ifT rfl q'
   | true=>
   rw[z4] at q';refine ifF rfl ?_;refine⟨_,rfl,a,_,_,_,rfl,rfl,et,rfl,c,_,rfl,rc,_,rfl,?_⟩;cases rc with
   | non=>exact ifF rfl q'
   | str x=>exact ifF rfl q'
   | tup e l h=>exact ifF rfl q'
   | int i=>
    refine ifT rfl ?_;refine⟨_,rfl,a,_,_,_,rfl,rfl,et,rfl,_,_,rfl,rfl,_,rfl,?_⟩;have q2:Q (.bl (decide (1<=i) && decide (i<=300))) H:=q';cases z5:decide (1<=i) with
    | false=>rw[z5] at q2;exact ifF rfl q2
    | true=>rw[z5] at q2;exact ifT rfl ⟨_,_,rfl,rfl,q2⟩
  ·rw[zjC hl] at q;refine ifT (by rw[l0];rw[decide_eq_false (show¬((ts.length:Nat):Int)=5 by omega)];rfl) q
end
end Pv
namespace Pv
open PySem L2
inductive Er where
 | bad
 | lacks
 | clash (u t:Th)
structure Vst where
 own:List (Int ×Th)
 kp:List (Int ×Th)
 nt:List (Int ×Th)
 n:Nat
noncomputable def Vst.all (s:Vst):List (Int ×Th):=s.own++s.kp
noncomputable def Vst.look (s:Vst)(n:Int):Option (Th ×Vst):=
 match zj s.own n with
 | some t=>some (t,{s with n:=s.n - 1})
 | none=>match zj s.kp n with
  | some t=>some (t,{s with nt:=addT s.nt n t,n:=s.n - 1})
  | none=>none
noncomputable def Vst.add (s:Vst)(t:Th):Vst:={s with own:=addT s.own (zl t) t,n:=s.n - 1}
noncomputable def Vst.stop (s:Vst)(t:Th):Option Th:=match zj s.all (zl t) with
 | none=>none
 | some u=>if u=t then none else some u
inductive Pg (α:Type) where
 | ret (x:α)
 | bad
 | rd (n:Int) (k:Th->Pg α)
 | lay (t:Th) (k:Pg α)
noncomputable def Pg.bind {α β:Type}:Pg α->(α->Pg β)->Pg β
 | .ret x,f=>f x
 | .bad,_=>.bad
 | .rd n k,f=>.rd n λt=>(k t).bind f
 | .lay t k,f=>.lay t (k.bind f)
noncomputable def Pg.wp {α:Type}:Pg α->Vst->(α->Vst->Prop)->(Er->Vst->Prop)->Prop
 | .ret x,s,q,_=>q x s
 | .bad,s,_,e=>e .bad s
 | .rd n k,s,q,e=>0 < s.n/\(∀t s',s.look n=some (t,s')->(k t).wp s' q e)/\(s.look n=none->e .lacks s)
 | .lay t k,s,q,e=>0 < s.n/\Good t/\(s.stop t=none->k.wp (s.add t) q e)/\(∀u,s.stop t=some u->e (.clash u t) s)
theorem Pg.wp_bind {α β:Type}{f:α->Pg β}{q:β->Vst->Prop}{e:Er->Vst->Prop}:∀{p:Pg α} {s:Vst},(p.bind f).wp s q e=p.wp s (λx s'=>(f x).wp s' q e) e
 | .ret x,s=>rfl
 | .bad,s=>rfl
 | .rd n k,s=>by show(0 < s.n/\(∀t s',s.look n=some (t,s')->((k t).bind f).wp s' q e)/\(s.look n=none->e .lacks s))=(0 < s.n/\(∀t s',s.look n=some (t,s')->(k t).wp s' (λx s'=>(f x).wp s' q e) e)/\(s.look n=none->e .lacks s));rw[show(∀t s',s.look n=some (t,s')->((k t).bind f).wp s' q e)=(∀t s',s.look n=some (t,s')->(k t).wp s' (λx s'=>(f x).wp s' q e) e) from forall_congr λt=>forall_congr λs'=>by rw[wp_bind (p:=k t)]]
 | .lay t k,s=>by show(0 < s.n/\Good t/\(s.stop t=none->(k.bind f).wp (s.add t) q e)/\(∀u,s.stop t=some u->e (.clash u t) s))=(0 < s.n/\Good t/\(s.stop t=none->k.wp (s.add t) (λx s'=>(f x).wp s' q e) e)/\(∀u,s.stop t=some u->e (.clash u t) s));rw[wp_bind (p:=k)]
theorem Pg.wp_mono {α:Type}{q q':α->Vst->Prop}{e e':Er->Vst->Prop}(hq:∀x s,q x s->q' x s)(he:∀r s,e r s->e' r s):∀{p:Pg α} {s:Vst},p.wp s q e->p.wp s q' e'
 | .ret x,s,h=>hq x s h
 | .bad,s,h=>he _ s h
 | .rd n k,s,⟨h0,h,h2⟩=>⟨h0,λt s' z=>wp_mono hq he (h t s' z),λz=>he _ s (h2 z)⟩
 | .lay t k,s,⟨h0,hg,h,h2⟩=>⟨h0,hg,λz=>wp_mono hq he (h z),λu z=>he _ s (h2 u z)⟩
noncomputable def NL (H H':Hp):Prop:=∀b o,(∀xs,o≠ .lst xs)->H b=some o->H' b=some o
theorem Same.nl {H H':Hp}(s:Same H H'):NL H H':=λb o _ e=>s b o e
theorem NL.lst {H:Hp}{p:Addr}{xs ys:QQ}(e:H p=some (.lst xs)):NL H (upd H p (.lst ys)):=λb o h q=>by rw[zf (λz=>by rw[z,e] at q;cases q;exact h xs rfl)];exact q
noncomputable abbrev VRT:=Hp->Addr->List Addr->Vst->Prop
structure VI (C:Addr)(VR:VRT):Prop where
 ins:∀{H a D s},VR H a D s->∃dx fs,H a=some (.ins C dx fs)/\fs.lookup ("thing" :Str)=none/\fs.lookup ("lay" :Str)=none
 dic:∀{H a D s},VR H a D s->∀d∈D,∃kv,H d=some (.dK kv)
 nl:∀{H H' a D s},VR H a D s->NL H H'->VR H' a D s
theorem VI.same {C:Addr}{VR:VRT}(I:VI C VR){H H':Hp}{a:Addr}{D:QO}{s:Vst}(v:VR H a D s)(sm:Same H H'):VR H' a D s:=I.nl v (Same.nl sm)
theorem VI.not {C:Addr}{VR:VRT}(I:VI C VR){H:Hp}{a b:Addr}{D:QO}{s:Vst}{o:HO}(v:VR H a D s)(e:H b=some o)(h:∀kv,o≠ .dK kv):b∉D:=λz=>by obtain⟨kv,ek⟩:=I.dic v b z;rw[ek] at e;cases e;exact h kv rfl
theorem VI.tups {C:Addr}{VR:VRT}(I:VI C VR){H H':Hp}{a:Addr}{D:QO}{s:Vst}(v:VR H a D s)(f:Frm D H H'):Tups H H':=λb xs e=>f b _ (I.not v e (by intro kv z;cases z)) e
theorem VI.lst {C:Addr}{VR:VRT}(I:VI C VR){H H':Hp}{a b:Addr}{D:QO}{s:Vst}{xs:QQ}(v:VR H a D s)(f:Frm D H H')(e:H b=some (.lst xs)):H' b=some (.lst xs):=f b _ (I.not v e (by intro kv z;cases z)) e
noncomputable def OutE (VR:VRT)(CN CB CC a:Addr)(D:QO)(H:Hp)(E:XK):Er->Vst->Prop
 | .bad,s=>∀H',Frm D H H'->VR H' a D s->E (.ref CB) none H'
 | .lacks,s=>∀H',Frm D H H'->VR H' a D s->E (.ref CN) none H'
 | .clash u t,s=>∀(x:Addr) (v1 v2:V) (H':Hp),Frm D H H'->VR H' a D s->Rep H' u v1->Rep H' t v2->Good u->Good t->u≠t->zl u=zl t->H' x=some (xdO x [("one",v1),("other",v2)])->E (.ref CC) (some x) H'
theorem OutE.on {VR:VRT}{CN CB CC a:Addr}{D:QO}{H H1:Hp}{E:XK}(f:Frm D H H1):∀r s,OutE VR CN CB CC a D H E r s->OutE VR CN CB CC a D H1 E r s
 | .bad,s,h=>λH' f' v=>h H' (f.trans f') v
 | .lacks,s,h=>λH' f' v=>h H' (f.trans f') v
 | .clash u t,s,h=>λx v1 v2 H' f' v=>h x v1 v2 H' (f.trans f') v
noncomputable def OutQ {α:Type}(VR:VRT)(a:Addr)(D:QO)(rp:Hp->α->V->Prop)(H:Hp)(Q:V->Hp->Prop)(x:α)(s:Vst):Prop:=∀v H',Frm D H H'->VR H' a D s->rp H' x v->Q v H'
theorem OutQ.on {α:Type}{VR:VRT}{a:Addr}{D:QO}{rp:Hp->α->V->Prop}{H H1:Hp}{Q:V->Hp->Prop}(f:Frm D H H1)(x:α)(s:Vst)(h:OutQ VR a D rp H Q x s):OutQ VR a D rp H1 Q x s:=λv H' f'=>h v H' (f.trans f')
noncomputable abbrev Out {α:Type}(VR:VRT)(CN CB CC a:Addr)(D:QO)(p:Pg α)(s:Vst)(rp:Hp->α->V->Prop)(H:Hp)(Q:V->Hp->Prop)(E:XK):Prop:=p.wp s (OutQ VR a D rp H Q) (OutE VR CN CB CC a D H E)
inductive zfd (VR:VRT) (CN:Addr) (vs:QQ) (H:Hp) (Q:L2.VK) (E:XK):Prop
 | mk (a:Addr) (D:QO) (s:Vst) (n:Int) (_:vs=[.ref a,.int n]) (_:VR H a D s) (_:0 < s.n) (_:(∀t s' v H',s.look n=some (t,s')->Frm D H H'->VR H' a D s'->Rep H' t v->Good t->Q v H')) (_:(∀H',s.look n=none->Frm D H H'->VR H' a D s->E (.ref CN) none H')):zfd VR CN vs H Q E
inductive zdx (VR:VRT) (CC:Addr) (vs:QQ) (H:Hp) (Q:L2.VK) (E:XK):Prop
 | mk (a:Addr) (D:QO) (s:Vst) (t:Th) (v:V) (_:vs=[.ref a,v]) (_:VR H a D s) (_:0 < s.n) (_:Rep H t v) (_:Good t) (_:(∀H',s.stop t=none->Frm D H H'->VR H' a D (s.add t)->Q (.int (zl t)) H')) (_:(∀(u:Th) (x:Addr) (v1 v2:V) (H':Hp),s.stop t=some u->Frm D H H'->VR H' a D s->Rep H' u v1->Rep H' t v2->Good u->Good t->u≠t->zl u=zl t->H' x=some (xdO x [("one",v1),("other",v2)])->E (.ref CC) (some x) H')):zdx VR CC vs H Q E
noncomputable def NdR (H:Hp)(nd:Nd)(v:V):Prop:=Rep H nd.th v/\Good nd.th
noncomputable def benK (m:Int)(t:Th):Pg Nd:=match ndOf t with
 | none=>.bad
 | some nd=>if nd.c < m then .ret nd else .bad
theorem zdo {m:Int}{t:Th}(h:ndOf t=none):benK m t=.bad:=by unfold benK;rw[h]
theorem zcm {m:Int}{t:Th}{nd:Nd}(h:ndOf t=some nd):benK m t=if nd.c < m then .ret nd else .bad:=by unfold benK;rw[h]
noncomputable def benP (n m:Int):Pg Nd:=.rd n (benK m)
theorem zjf {n m:Int}{s:Vst}{q:Nd->Vst->Prop}{e:Er->Vst->Prop}(h:(benP n m).wp s q e):(benP n m).wp s (λnd s'=>(1<=nd.c/\nd.c < m)/\q nd s') e:=by
 refine⟨h.1,λt s' z=>?_,h.2.2⟩;have h1:=h.2.1 t s' z;cases y:ndOf t with
 | none=>rw[zdo y] at h1 ⊢;exact h1
 | some nd=>
  rw[zcm y] at h1 ⊢;obtain⟨rfl,zz⟩:=zdr y;by_cases hc:nd.c < m
  ·rw[if_pos hc] at h1 ⊢;exact⟨⟨(zlG zz).c1,hc⟩,h1⟩
  ·rw[if_neg hc] at h1 ⊢;exact h1
noncomputable def zcr (n m:Int):Pg Int:=if n=0 then .ret 0 else(benP n m).bind λnd=>.ret nd.c
noncomputable def IntR (_:Hp)(i:Int)(v:V):Prop:=v=.int i
noncomputable def NonR (_:Hp)(_:Unit)(v:V):Prop:=v=.non
noncomputable def sumP (nd:Nd):Pg Unit:=(zcr nd.l nd.c).bind λx=>(zcr nd.r nd.c).bind λy=>if x+y+1=nd.c then .ret () else .bad
inductive zdm (VR:VRT) (CN CB CC:Addr) (vs:QQ) (H:Hp) (Q:L2.VK) (E:XK):Prop
 | mk (a:Addr) (D:QO) (s:Vst) (n m:Int) (_:vs=[.ref a,.int n,.int m]) (_:VR H a D s) (_:Out VR CN CB CC a D (benP n m) s NdR H Q E):zdm VR CN CB CC vs H Q E
inductive zeI (VR:VRT) (CN CB CC:Addr) (vs:QQ) (H:Hp) (Q:L2.VK) (E:XK):Prop
 | mk (a:Addr) (D:QO) (s:Vst) (n m:Int) (_:vs=[.ref a,.int n,.int m]) (_:VR H a D s) (_:Out VR CN CB CC a D (zcr n m) s IntR H Q E):zeI VR CN CB CC vs H Q E
inductive zoy (VR:VRT) (CN CB CC:Addr) (vs:QQ) (H:Hp) (Q:L2.VK) (E:XK):Prop
 | mk (a:Addr) (D:QO) (s:Vst) (n:Int) (_:vs=[.ref a,.int n]) (_:VR H a D s) (_:Out VR CN CB CC a D (zcr n 301) s IntR H Q E):zoy VR CN CB CC vs H Q E
inductive ziC (VR:VRT) (CN CB CC:Addr) (vs:QQ) (H:Hp) (Q:L2.VK) (E:XK):Prop
 | mk (a:Addr) (D:QO) (s:Vst) (nd:Nd) (v:V) (_:vs=[.ref a,v]) (_:VR H a D s) (_:NdR H nd v) (_:Out VR CN CB CC a D (sumP nd) s NonR H Q E):ziC VR CN CB CC vs H Q E
section
variable {P:Program}{w:World}{K:QA}{mg:QB}{base:Heap}{VR:VRT}{C CC CN CB:Addr}{x:Str}{t1 t2 t3 t4 t5 t6 t7:Tok}
theorem zoE (I:VI C VR)(D:Dfn K mg "node_beneath" zcv ["vault","root","count"]) (zsv:Mt P w K mg base (CX1 P w) C "thing" 2 ["self","number"] (zfd VR CN)) (c_K:Cls K C) (zrx:Fn P w K mg base "is_node" 3 ["thing"] zmo) (za7:XP K mg "BadThing" CB) (zD:mg "COUNT" =some (.int 4 t5)):
  FnX P w K mg base "node_beneath" 4 ["vault","root","count"] (zdm VR CN CB CC):=by
 refine D.okX (k:=3) (L2.fsN ["vault","root","count","node"]) (λf cdv A outer s H vs Q E hr h=>?_);obtain⟨a,D,s,n,m,rfl,vs,h⟩:=h;obtain⟨h0,h1,h2⟩:=h;obtain⟨dx,fs,eo,n1,n2⟩:=I.ins vs;refine⟨_,(by have ι:=0;ac_rfl),?_⟩;refine⟨_,rfl,a,dx,_,rfl,eo,n1,_,rfl,a,D,s,n,rfl,vs,h0,λt s' v H1 lt f1 vs1 rep gt=>?_,λH1 ln f1 vs1=>h2 ln H1 f1 vs1⟩;have h3:=h1 t s' lt;refine⟨_,rfl,t,v,rfl,rep,_,rfl,?_⟩;cases z:ndOf t with
 | none=>rw[zdo z] at h3;rw[zke z];refine ifT rfl (ifT rfl ⟨szl (show 1<=1000 by decide),λe he=>⟨e,CB,none,rfl,za,za7.cl.q,?_⟩⟩);rw[zbd he];exact h3 H1 f1 vs1
 | some nd=>
  rw[zcm z] at h3;obtain⟨rfl,zz⟩:=zdr z;rw[zz];obtain⟨p,vk,vw,rfl,ea,rk,rw'⟩:=zq rep;have et:SqT K H1 p [vk,vw,.int nd.l,.int nd.r,.int nd.c]:=SqT.of ea;refine ifF rfl ⟨_,rfl,p,_,_,_,rfl,rfl,et,rfl,_,rfl,_,_,rfl,rfl,_,rfl,?_⟩;by_cases hc:nd.c < m
  ·rw[if_pos hc] at h3;exact ifF (decide_eq_false (Int.not_le.mpr hc)) ⟨_,rfl,h3 _ H1 f1 vs1 ⟨rep,gt⟩⟩
  ·rw[if_neg hc] at h3;refine ifT (decide_eq_true (Int.not_lt.mp hc)) ⟨szl (show 1<=1000 by decide),λe he=>⟨e,CB,none,rfl,za,za7.cl.q,?_⟩⟩;rw[zbd he];exact h3 H1 f1 vs1
theorem zk0 (I:VI C VR)(D:Dfn K mg "size_beneath" zct ["vault","root","count"]) (za8:FnX P w K mg base "node_beneath" 4 ["vault","root","count"] (zdm VR CN CB CC)) (zD:mg "COUNT" =some (.int 4 t5)):
  FnX P w K mg base "size_beneath" 5 ["vault","root","count"] (zeI VR CN CB CC):=by
 refine D.okX (k:=4) (L2.fsN ["vault","root","count"]) (λf cdv A outer s H vs Q E hr h=>?_);obtain⟨a,D,s,n,m,rfl,vs,h⟩:=h;refine⟨_,(by have ι:=0;ac_rfl),?_⟩;refine⟨_,rfl,rfl,_,rfl,?_⟩;rw[zai];unfold zcr Out at h;by_cases h0:n=0
 ·rw[if_pos h0] at h;exact ifT (decide_eq_true h0) (h _ H (Frm.of (Same.refl H)) vs rfl)
 ·rw[if_neg h0,Pg.wp_bind] at h;refine ifF (decide_eq_false h0) ?_;refine⟨_,rfl,_,rfl,_,rfl,a,D,s,n,m,rfl,vs,Pg.wp_mono (λnd s' q v H1 f1 vs1 rn=>?_) (λ_ _ z=>z) h⟩;obtain⟨p,vk,vw,rfl,ea,rk,rw'⟩:=zq rn.1;exact⟨p,_,_,_,rfl,rfl,SqT.of ea,rfl,q _ H1 f1 vs1 rfl⟩
end
end Pv
namespace Pv
open PySem L2
noncomputable abbrev zhs:Stmt:=top 46
noncomputable abbrev zep:Stmt:=top 55
noncomputable abbrev zjB:Stmt:=top 47
noncomputable abbrev zhK:Stmt:=top 48
noncomputable abbrev zl1:Stmt:=top 49
theorem zb1 {xs:QQ}{v:V}:atI (xs++ [v]) (-1)=some v:=by
 unfold atI ixN;rw[if_neg (by decide),if_pos (by simp only[List.length_append,List.length_singleton];omega)];show(xs++ [v])[((-1:Int)+(((xs++ [v]).length:Nat):Int)).toNat]? =_;rw[show((-1:Int)+(((xs++ [v]).length:Nat):Int)).toNat=xs.length by simp only[List.length_append,List.length_singleton];omega,List.getElem?_append_right (Jb _),Nat.sub_self]
 rfl
theorem RepL.unsnoc {H:Hp}{t:Th}:∀{ts:List Th} {vs:QQ},RepL H (ts++ [t]) vs->∃us v,vs=us++ [v]/\RepL H ts us/\Rep H t v
 | [],_,.cons h .nil=>⟨[],_,rfl,.nil,h⟩
 | u::ts,_,.cons h r=>by obtain⟨us,v,e,r',h'⟩:=RepL.unsnoc r;exact⟨_::us,v,by rw[e];rfl,.cons h r',h'⟩
theorem zce {nd:Nd}(g:Good nd.th):dep nd.k<=7/\dep nd.w<=7:=by have h:max (dep nd.k) (max (dep nd.w) (max 0 (max 0 (max 0 0))))+1<=8:=Ji g.dp (by decide);omega
noncomputable def zbQ (k x:Th):Int:=if zb k x=true then 3 else 2
noncomputable def kidI (nd:Nd)(x:Th):Int:=if zb nd.k x=true then nd.r else nd.l
noncomputable def wayP (x:Th):Nat->Int->Int->Pg (List Nd)
 | 0,_,_=>.bad
 | f+1,n,m=>if n=0 then .ret [] else(benP n m).bind λnd=>if nd.k=x then .ret [nd] else(wayP x f (kidI nd x) nd.c).bind λns=>.ret (nd::ns)
theorem zmm {x:Th}{q:List Nd->Vst->Prop}{e:Er->Vst->Prop}:∀{f:Nat} {n m:Int} {s:Vst},m<=301->(wayP x f n m).wp s q e->(wayP x f n m).wp s (λns s'=>(∀nd∈ns,1<=nd.c/\nd.c<=300)/\q ns s') e
 | 0,_,_,_,_,h=>h
 | f+1,n,m,s,hm,h=>by
  unfold wayP at h ⊢;by_cases h0:n=0
  ·rw[if_pos h0] at h ⊢;exact⟨λnd z=>(nomatch z),h⟩
  ·rw[if_neg h0,Pg.wp_bind] at h ⊢;refine Pg.wp_mono (λnd s' h1=>?_) (λ_ _ z=>z) (zjf h);obtain⟨⟨c1,c2⟩,h1⟩:=h1;by_cases ek:nd.k=x
   ·rw[if_pos ek] at h1 ⊢;exact⟨λy hy=>by rw[List.mem_singleton.mp hy];exact⟨c1,by omega⟩,h1⟩
   ·rw[if_neg ek,Pg.wp_bind] at h1 ⊢;refine Pg.wp_mono (λns s2 h2=>?_) (λ_ _ z=>z) (zmm (by omega) h1);refine⟨λy hy=>?_,h2.2⟩;rcases List.mem_cons.mp hy with rfl | hy
    ·exact⟨c1,by omega⟩
    ·exact h2.1 y hy
noncomputable def WayR (H:Hp)(ns:List Nd)(v:V):Prop:=∃pw ws,v=.ref pw/\H pw=some (.lst ws)/\RepL H (ns.map Nd.th) ws/\(∀nd∈ns,Good nd.th)/\ns.length<=301
noncomputable def zcw (ns:List Nd)(x:Th):Bool:=match ns.getLast? with
 | none=>false
 | some nd=>eqT nd.k x
noncomputable def endW (ns:List Nd)(x:Th):Th:=match ns.getLast? with
 | none=>.non
 | some nd=>if nd.k=x then nd.w else .non
noncomputable def ziP (n:Int)(x:Th):Pg Th:=(wayP x 301 n 301).bind λns=>.ret (endW ns x)
noncomputable def ThR (H:Hp)(t:Th)(v:V):Prop:=Rep H t v
inductive zcR (vs:QQ) (H:Hp) (Q:L2.VK) (_E:XK):Prop
 | mk (v vx:V) (nd:Nd) (x:Th) (_:vs=[v,vx]) (_:Rep H nd.th v) (_:Rep H x vx) (_:dep nd.k<=7) (_:∀H',Same H H'->Q (.int (zbQ nd.k x)) H'):zcR vs H Q _E
noncomputable def zW (nd:Nd)(s n m:Int):Nd:=if s=2 then⟨nd.k,nd.w,n,nd.r,m⟩ else⟨nd.k,nd.w,nd.l,n,m⟩
inductive zc2 (vs:QQ) (H:Hp) (Q:L2.VK) (_E:XK):Prop
 | mk (v:V) (nd:Nd) (i n m:Int) (_:vs=[v,.int i,.int n,.int m]) (_:Rep H nd.th v) (_:∀p H',Same H H'->Rep H' (zW nd i n m).th (.ref p)->Q (.ref p) H'):zc2 vs H Q _E
inductive ze4 (VR:VRT) (CN CB CC:Addr) (vs:QQ) (H:Hp) (Q:L2.VK) (E:XK):Prop
 | mk (a:Addr) (D:QO) (s:Vst) (n:Int) (x:Th) (vx:V) (_:vs=[.ref a,.int n,vx]) (_:VR H a D s) (_:Rep H x vx) (_:dep x<=8) (_:Out VR CN CB CC a D (wayP x 301 n 301) s WayR H Q E):ze4 VR CN CB CC vs H Q E
inductive zc6 (K:QA) (vs:QQ) (H:Hp) (Q:L2.VK) (_E:XK):Prop
 | mk (pw:Addr) (ws:QQ) (ns:List Nd) (x:Th) (vx:V) (_:vs=[.ref pw,vx]) (_:SqL K H pw ws) (_:RepL H (ns.map Nd.th) ws) (_:(∀nd∈ns,Good nd.th)) (_:Rep H x vx) (_:Q (.bl (zcw ns x)) H):zc6 K vs H Q _E
inductive zej (VR:VRT) (CN CB CC:Addr) (vs:QQ) (H:Hp) (Q:L2.VK) (E:XK):Prop
 | mk (a:Addr) (D:QO) (s:Vst) (n:Int) (x:Th) (vx:V) (_:vs=[.ref a,.int n,vx]) (_:VR H a D s) (_:Rep H x vx) (_:dep x<=8) (_:Out VR CN CB CC a D (ziP n x) s ThR H Q E):zej VR CN CB CC vs H Q E
theorem zgs {t u:Th}(h:t=u):eqT t u=true:=by rw[h,za4]
theorem ziv {t u:Th}(h:t≠u):eqT t u=false:=by
 cases z:eqT t u with
 | true=>exact Je ((zaT _ _).mp z) h
 | false=>rfl
section
variable {P:Program}{w:World}{K:QA}{mg:QB}{base:Heap}{VR:VRT}{C CC CN CB:Addr}{x:Str}{t1 t2 t3 t4 t5 t6 t7:Tok}
theorem zlV (D:Dfn K mg "side_of" zhs ["node","key"]) (zco:Fn P w K mg base "ahead" 20 ["one","other"] (zaV 9)) (zau:mg "KEY" =some (.int 0 t1)) (zae:mg "LEFT" =some (.int 2 t3)) (zM:mg "RIGHT" =some (.int 3 t4)):Fn P w K mg base "side_of" 21 ["node","key"] zcR:=by
 refine D.ok (k:=20) (L2.fsN ["node","key"]) (λf cdv A outer s H vs Q E hr h=>?_);obtain⟨v,vx,nd,x,rfl,rn,rx,kd,q⟩:=h;obtain⟨p,vk,vw,rfl,ea,rk,rw'⟩:=zq rn;have et:SqT K H p [vk,vw,.int nd.l,.int nd.r,.int nd.c]:=SqT.of ea;refine⟨_,(by have ι:=0;ac_rfl),?_⟩;refine⟨_,rfl,p,_,_,_,rfl,rfl,et,rfl,_,rfl,nd.k,x,_,_,rfl,rk,rx,by omega,by omega,λH1 s1=>⟨_,rfl,?_⟩⟩;have q1:=q H1 s1;unfold zbQ at q1;cases z:zb nd.k x with
 | true=>rw[if_pos z] at q1;exact ifT rfl q1
 | false=>rw[if_neg (by rw[z];exact Jc)] at q1;exact ifF rfl q1
theorem zme (D:Dfn K mg "with_tree" zep ["node","side","root","count"]) (zau:mg "KEY" =some (.int 0 t1)) (zbh:mg "WORTH" =some (.int 1 t2)) (zae:mg "LEFT" =some (.int 2 t3)) (zM:mg "RIGHT" =some (.int 3 t4)):Fn P w K mg base "with_tree" 1 ["node","side","root","count"] zc2:=by
 refine D.ok (k:=0) (L2.fsN ["node","side","root","count"]) (λf cdv A outer s H vs Q E hr h=>?_);obtain⟨v,nd,i,n,m,rfl,rn,q⟩:=h;obtain⟨p,vk,vw,rfl,ea,rk,rw'⟩:=zq rn;have et:SqT K H p [vk,vw,.int nd.l,.int nd.r,.int nd.c]:=SqT.of ea;refine⟨_,(by have ι:=0;ac_rfl),?_⟩;refine⟨_,rfl,rfl,_,rfl,?_⟩;rw[zai];unfold zW at q;by_cases z:i=2
 ·refine ifT (decide_eq_true z) ?_;refine⟨_,rfl,p,_,_,_,rfl,rfl,et,rfl,_,rfl,p,_,_,_,rfl,rfl,et,rfl,_,rfl,_,rfl,p,_,_,_,rfl,rfl,et,rfl,_,rfl,szl (show 5<=1000 by decide),λp' hp'=>?_⟩;refine q p' _ (zh (Same.refl H) hp') ?_;rw[if_pos z];exact(RepL.cons rk (.cons rw' (.cons (.int _) (.cons (.int _) (.cons (.int _) .nil))))).new hp'
 ·refine ifF (decide_eq_false z) ?_;refine⟨_,rfl,p,_,_,_,rfl,rfl,et,rfl,_,rfl,p,_,_,_,rfl,rfl,et,rfl,_,rfl,p,_,_,_,rfl,rfl,et,rfl,_,rfl,_,rfl,szl (show 5<=1000 by decide),λp' hp'=>?_⟩;refine q p' _ (zh (Same.refl H) hp') ?_;rw[if_neg z];exact(RepL.cons rk (.cons rw' (.cons (.int _) (.cons (.int _) (.cons (.int _) .nil))))).new hp'
theorem znR (I:VI C VR)(D:Dfn K mg "way_to" zjB ["vault","root","key"]) (za8:FnX P w K mg base "node_beneath" 4 ["vault","root","count"] (zdm VR CN CB CC)) (zf9:Fn P w K mg base "side_of" 21 ["node","key"] zcR) (zau:mg "KEY" =some (.int 0 t1)) (zD:mg "COUNT" =some (.int 4 t5)) (zax:mg "BENEATH_NONE" =some (.int 301 t7)):
  FnX P w K mg base "way_to" 22 ["vault","root","key"] (ze4 VR CN CB CC):=by
 refine D.okX (k:=21) (L2.fsN ["vault","root","key","way","count","node"]) (λf cdv A outer s H vs Q E hr h=>?_);obtain⟨a,D,s,n,x,vx,rfl,vs,rx,dx,h⟩:=h;refine⟨_,(by have ι:=0;have θ:=0;ac_rfl),?_⟩;refine⟨szl (show 0<=1000 by decide),λpw hpw=>?_⟩;have s0:=zh (o:=.lst []) (Same.refl H) hpw;have e0:upd H pw (.lst []) pw=some (.lst []):=za;generalize upd H pw (.lst [])=H0 at s0 e0;refine⟨λm σ H'=>∃(s1:Vst) (n c:Int) (done:List Nd) (ws:QQ) (k5:Option V),(wayP x m n c).wp s1 (λrest s'=>OutQ VR a D WayR H Q (done++rest) s') (OutE VR CN CB CC a D H E)/\1<=c/\c<=(m:Int)/\done.length+m<=301/\σ=[some (.ref a),some (.int n),some vx,some (.ref pw),some (.int c),k5]/\Frm D H H'/\VR H' a D s1/\H' pw=some (.lst ws)/\RepL H' (done.map Nd.th) ws/\(∀nd∈done,Good nd.th),⟨301,s,n,301,[],[],_,h,by decide,by decide,by decide,rfl,Frm.of s0,I.same vs s0,e0,.nil,λnd z=>by cases z⟩,?_⟩;clear h;rintro m σ H1 ⟨s1,n,c,done,ws,k5,h,hc1,hcm,hdm,rfl,f1,vs1,e1,r1,gd⟩;refine⟨_,rfl,rfl,_,rfl,?_⟩;rw[zai];obtain⟨m,rfl⟩:∃j,m=j+1:=⟨m - 1,by omega⟩;unfold wayP at h;by_cases hn:n=0
 ·rw[if_pos hn] at h;refine ifF (by rw[decide_eq_true hn];rfl) ⟨_,rfl,h _ H1 f1 vs1 ⟨pw,ws,rfl,e1,?_,?_,?_⟩⟩
  ·rw[List.append_nil];exact r1
  ·rw[List.append_nil];exact gd
  ·rw[List.append_nil];omega
 rw[if_neg hn,Pg.wp_bind] at h;refine ifT (by rw[decide_eq_false hn];rfl) ⟨_,fun σ' H' h=>h,?_⟩;refine⟨_,rfl,_,rfl,_,rfl,a,D,s1,n,c,rfl,vs1,?_⟩;have hb:(benP n c).wp s1 (λnd s'=>(1<=nd.c/\nd.c < c)/\(if nd.k=x then Pg.ret [nd] else(wayP x m (kidI nd x) nd.c).bind λns=>.ret (nd::ns)).wp s' (λrest s'=>OutQ VR a D WayR H Q (done++rest) s') (OutE VR CN CB CC a D H E)) (OutE VR CN CB CC a D H E):=zjf h;refine Pg.wp_mono (λnd s2 h2 v H2 f2 vs2 rn=>?_) (OutE.on f1) hb;obtain⟨⟨c1,c2⟩,h2⟩:=h2;obtain⟨rn,gn⟩:=rn;obtain⟨p,vk,vw,rfl,ea,rk,rw'⟩:=zq rn;have gd':∀nd'∈done++ [nd],Good nd'.th:=λnd' z=>by
  rcases List.mem_append.mp z with z | z
  ·exact gd nd' z
  ·rw[List.mem_singleton.mp z];exact gn
 have e2:=I.lst vs1 f2 e1;have hlw:ws.length=done.length:=by rw[r1.len,List.length_map]
 refine⟨_,rfl,.inl ⟨rfl,_,SqL.of e2⟩,_,rfl,pw,ws,_,rfl,rfl,e2,Jd (show ws.length < 1000 by omega) (szl (Jb _)),?_⟩;have tk1:Tups H2 (upd H2 pw (.lst (ws++ [.ref p]))):=Tups.upd λxs z=>by rw[e2] at z;cases z
 have e3:upd H2 pw (.lst (ws++ [.ref p])) pw=some (.lst (ws++ [.ref p])):=za;have f3:Frm D H (upd H2 pw (.lst (ws++ [.ref p]))):=zbI (f1.trans f2) hpw;have vs3:VR (upd H2 pw (.lst (ws++ [.ref p]))) a D s2:=I.nl vs2 (NL.lst e2);have r3:RepL (upd H2 pw (.lst (ws++ [.ref p]))) ((done++ [nd]).map Nd.th) (ws++ [.ref p]):=by rw[List.map_append];exact((r1.keep (I.tups vs1 f2)).keep tk1).snoc (rn.keep tk1)
 have rn3:=rn.keep tk1;have ea3:=tk1 _ _ ea;have rk3:=rk.keep tk1;have rx3:=(rx.keep ((I.tups vs (f1.trans f2)).trans tk1));generalize upd H2 pw (.lst (ws++ [.ref p]))=H3 at tk1 e3 f3 vs3 r3 rn3 ea3 rk3 rx3;have et:SqT K H3 p _:=SqT.of ea3;have kd:=(zce gn).1;refine⟨_,rfl,p,_,_,_,rfl,rfl,et,rfl,_,rfl,nd.k,x,rk3,rx3,by omega,_,rfl,?_⟩;by_cases ek:nd.k=x
 ·rw[if_pos ek] at h2;exact ifT (zgs ek) ⟨_,rfl,h2 _ H3 f3 vs3 ⟨pw,_,rfl,e3,r3,gd',by rw[List.length_append];show done.length+1<=301;omega⟩⟩
 ·rw[if_neg ek,Pg.wp_bind] at h2;refine ifF (ziv ek) ?_;refine⟨_,rfl,_,rfl,_,rfl,_,_,nd,x,rfl,rn3,rx3,kd,λH4 s4=>?_⟩;have et4:SqT K H4 p _:=SqT.of (s4 _ _ ea3);have ix:atI [vk,vw,.int nd.l,.int nd.r,.int nd.c] (zbQ nd.k x)=some (.int (kidI nd x)):=by
   unfold zbQ kidI;by_cases y:zb nd.k x=true
   ·rw[if_pos y,if_pos y];rfl
   ·rw[if_neg y,if_neg y];rfl
  refine⟨p,_,_,_,rfl,rfl,et4,ix,?_⟩;refine⟨_,rfl,p,_,_,_,rfl,rfl,et4,rfl,?_⟩;refine⟨m,Jm m,s2,_,_,done++ [nd],_,_,Pg.wp_mono (λns s' z=>?_) (λ_ _ z=>z) h2,c1,by omega,by rw[List.length_append];show done.length+1+m<=301;omega,rfl,f3.trans (Frm.of s4),I.same vs3 s4,s4 _ _ e3,r3.keep (Same.tups s4),gd'⟩;have z':OutQ VR a D WayR H Q (done++(nd::ns)) s':=z;rw[List.append_assoc];exact z'
theorem zlQ (D:Dfn K mg "ends_at" zhK ["way","key"]) (zau:mg "KEY" =some (.int 0 t1)) (zx:mg "len" =none):Fn P w K mg base "ends_at" 1 ["way","key"] (zc6 K):=by
 refine D.ok (k:=0) (L2.fsN ["way","key"]) (λf cdv A outer s H vs Q E hr h=>?_);obtain⟨pw,ws,ns,x,vx,rfl,hs,rw,kt,rx,q⟩:=h;have hl:ws.length=ns.length:=by rw[rw.len,List.length_map]
 refine⟨_,(zm (zZ (zbV (by ac_rfl) (zdn (z8 (zgO hr) (zaK zcG (by ac_rfl) (by ac_rfl) (λ_ _=>rfl)) (pv 1) (zO _)))))),?_⟩;refine⟨_,rfl,pw,_,rfl,.inl hs,_,_,rfl,rfl,_,rfl,?_⟩;rcases List.eq_nil_or_concat ns with e | ⟨pre,nd,e⟩
 ·subst e;refine ifF (by show decide ((0:Int) < ((ws.length:Nat):Int))=false;rw[hl];rfl) q
 ·rw[List.concat_eq_append] at e;subst e;have kd:=(zce (kt nd (by simp))).1;rw[List.map_append] at rw;obtain⟨us,v,rfl,rus,rn⟩:=rw.unsnoc;obtain⟨p,vk,vw,rfl,ea,rk,_⟩:=zq rn;refine ifT (decide_eq_true (show(0:Int) < (((us++ [V.ref p]).length:Nat):Int) by simp only[List.length_append,List.length_singleton];omega)) ?_;have q':Q (.bl (eqT nd.k x)) H:=by unfold zcw at q;rw[List.getLast?_concat] at q;exact q
  exact⟨_,rfl,_,rfl,pw,_,_,_,rfl,rfl,hs,zb1,p,_,_,_,rfl,rfl,SqT.of ea,rfl,_,rfl,nd.k,x,rk,rx,by omega,q'⟩
theorem zk8 (I:VI C VR)(D:Dfn K mg "found" zl1 ["vault","root","key"]) (zh5:FnX P w K mg base "way_to" 22 ["vault","root","key"] (ze4 VR CN CB CC)) (zga:Fn P w K mg base "ends_at" 1 ["way","key"] (zc6 K)) (zbh:mg "WORTH" =some (.int 1 t2)):FnX P w K mg base "found" 23 ["vault","root","key"] (zej VR CN CB CC):=by
 refine D.okX (k:=22) (L2.fsN ["vault","root","key","way"]) (λf cdv A outer s H vs Q E hr h=>?_);obtain⟨a,D,s,n,x,vx,rfl,vs,rx,dx,h⟩:=h;refine⟨_,(zc (by ac_rfl)
 (zm (zZ (zeC (by ac_rfl) (zaK zcG (by ac_rfl) (by ac_rfl) (λ_ _=>rfl)) zmJ)))),?_⟩
 unfold Out ziP at h;rw[Pg.wp_bind] at h;refine⟨_,rfl,_,rfl,_,rfl,a,D,s,n,x,vx,rfl,vs,rx,dx,Pg.wp_mono (λns s1 h1 v H1 f1 vs1 rn=>?_) (λ_ _ z=>z) h⟩;obtain⟨pw,ws,rfl,ew,rwy,gd,hl⟩:=rn;refine⟨_,rfl,_,rfl,pw,ws,ns,x,vx,rfl,SqL.of ew,rwy,gd,rx.keep (I.tups vs f1),_,rfl,?_⟩;have h2:OutQ VR a D ThR H Q (endW ns x) s1:=h1;rcases List.eq_nil_or_concat ns with e | ⟨pre,nd,e⟩
 ·subst e;exact ifF rfl (h2 _ H1 f1 vs1 .non)
 ·rw[List.concat_eq_append] at e;subst e;have eb:zcw (pre++ [nd]) x=eqT nd.k x:=by unfold zcw;rw[List.getLast?_concat]
  have ew':endW (pre++ [nd]) x=if nd.k=x then nd.w else .non:=by unfold endW;rw[List.getLast?_concat]
  rw[ew'] at h2;rw[eb];by_cases ek:nd.k=x
  ·rw[if_pos ek] at h2;rw[List.map_append] at rwy;obtain⟨us,v,rfl,rus,rn⟩:=rwy.unsnoc;obtain⟨p,vk,vw,rfl,ea,rk,rw'⟩:=zq rn;exact ifT (zgs ek) ⟨_,rfl,_,rfl,pw,_,_,_,rfl,rfl,SqL.of ew,zb1,p,_,_,_,rfl,rfl,SqT.of ea,rfl,h2 vw H1 f1 vs1 rw'⟩
  ·rw[if_neg ek] at h2;exact ifF (ziv ek) (h2 _ H1 f1 vs1 .non)
end
end Pv
namespace Pv
open PySem L2
noncomputable abbrev zpG:Stmt:=top 56
noncomputable abbrev zjj:Stmt:=top 57
noncomputable abbrev zfA:Stmt:=top 58
noncomputable abbrev sput:Stmt:=top 59
theorem RepL.take {H:Hp}:∀{ts:List Th} {vs:QQ} (n:Nat),RepL H ts vs->RepL H (ts.take n) (vs.take n)
 | _,_,0,_=>by rw[List.take_zero,List.take_zero];exact .nil
 | _,_,n+1,.nil=>by rw[List.take_nil,List.take_nil];exact .nil
 | _,_,n+1,.cons h r=>.cons h (RepL.take n r)
theorem RepL.drop {H:Hp}:∀{ts:List Th} {vs:QQ} (n:Nat),RepL H ts vs->RepL H (ts.drop n) (vs.drop n)
 | _,_,0,r=>r
 | _,_,n+1,.nil=>by rw[List.drop_nil,List.drop_nil];exact .nil
 | _,_,n+1,.cons h r=>RepL.drop n r
theorem zrK {xs:QQ}{n:Nat}(h:n<=xs.length):cutV xs none (some (n:Int))=xs.take n:=by
 unfold cutV;rw[HT.sIx_none,HT.sIx_nat,Nat.min_eq_left h]
 rfl
theorem zn1 {xs:QQ}{n:Nat}(h:n<=xs.length):cutV xs (some (n:Int)) none=xs.drop n:=by unfold cutV;rw[HT.sIx_none,HT.sIx_nat,Nat.min_eq_left h];exact Jl (by rw[List.length_drop];exact Jb _)
theorem zjJ {xs:QQ}{n:Nat}(h:xs.length=n+1):cutV xs none (some (-1))=xs.take n:=by unfold cutV;rw[HT.sIx_none];show(xs.drop 0).take (HT.sIx xs.length xs.length (some (-1)) - 0)=_;rw[List.drop_zero,Nat.sub_zero,h];congr 1;unfold HT.sIx;simp;omega
theorem joinM {c:Bool}{A B N:Prop}(a:c=true->N->A)(b:c=false->N->B)(rest:N):if c=true then A else B:=ifB (λh=>a h rest) (λh=>b h rest)
theorem ze3 {nd:Nd}(g:Good nd.th):Good nd.k/\Good nd.w:=by have h1:max (dep nd.k) (max (dep nd.w) (max 0 (max 0 (max 0 0))))+1<=dep nd.th:=Jb _;have h4:=g.dp;have h2:1+(nodes nd.k+(nodes nd.w+(1+(1+(1+0)))))<=80:=g.nd;have h3:Wf nd.k/\Wf nd.w:=⟨g.wf.2.1,g.wf.2.2.1⟩;exact⟨⟨h3.1,by omega,by omega⟩,⟨h3.2,by omega,by omega⟩⟩
noncomputable def zaP (x:Th)(more:Int):List Nd->Int->Pg Int
 | [],n=>.ret n
 | nd::r,n=>.lay (zW nd (zbQ nd.k x) n (nd.c+more)).th (zaP x more r (zl (zW nd (zbQ nd.k x) n (nd.c+more)).th))
noncomputable def zdL (x:Th):List Nd->Int->Int->Int->Int->Pg (Int ×Int)
 | [],l,_,r,_=>.ret (l,r)
 | nd::t,l,lc,r,rc=>if zb nd.k x=true then .lay (zW nd 3 l (nd.c - rc)).th (zdL x t (zl (zW nd 3 l (nd.c - rc)).th) (nd.c - rc) r rc)
  else .lay (zW nd 2 r (nd.c - lc)).th (zdL x t l lc (zl (zW nd 2 r (nd.c - lc)).th) (nd.c - lc))
noncomputable def zaq (x:Th):List Nd->Nat
 | []=>0
 | nd::r=>if zac x nd.k=true then 0 else zaq x r+1
theorem zf2 (x:Th):∀ns:List Nd,zaq x ns<=ns.length
 | []=>Jb _
 | nd::r=>by
  unfold zaq;split
  ·exact Nat.zero_le _
  ·exact Nat.succ_le_succ (zf2 x r)
noncomputable def zcO (ns:List Nd)(i:Nat):Int:=match ns[i]? with
 | some nd=>nd.c
 | none=>0
noncomputable def putN (x wo:Th)(ns:List Nd):Pg Int:=(zdL x (ns.drop (zaq x ns)).reverse 0 0 0 0).bind λlr=>
 .lay (Nd.mk x wo lr.1 lr.2 (zcO ns (zaq x ns)+1)).th (zaP x 1 (ns.take (zaq x ns)).reverse (zl (Nd.mk x wo lr.1 lr.2 (zcO ns (zaq x ns)+1)).th))
noncomputable def putO (x wo:Th)(ns:List Nd)(own:Nd):Pg Int:=.lay (Nd.mk x wo own.l own.r own.c).th (zaP x 0 ns.dropLast.reverse (zl (Nd.mk x wo own.l own.r own.c).th))
noncomputable def zc1 (x wo:Th)(ns:List Nd):Pg Int:=match ns.getLast? with
 | none=>putN x wo ns
 | some own=>if own.k=x then putO x wo ns own else putN x wo ns
noncomputable def putP (n:Int)(x wo:Th):Pg Int:=(wayP x 301 n 301).bind (zc1 x wo)
noncomputable def zpM (H:Hp)(y:Int ×Int)(v:V):Prop:=∃p,v=.ref p/\H p=some (.tup [.int y.1,.int y.2])
inductive zee (VR:VRT) (CN CB CC:Addr) (vs:QQ) (H:Hp) (Q:L2.VK) (E:XK):Prop
 | mk (a pw:Addr) (D:QO) (s:Vst) (ws:QQ) (ns:List Nd) (x:Th) (vx:V) (n more:Int) (_:vs=[.ref a,.ref pw,vx,.int n,.int more]) (_:VR H a D s) (_:H pw=some (.lst ws)) (_:RepL H (ns.map Nd.th) ws) (_:(∀nd∈ns,Good nd.th)) (_:Rep H x vx) (_:Out VR CN CB CC a D (zaP x more ns.reverse n) s IntR H Q E):zee VR CN CB CC vs H Q E
inductive zdj (VR:VRT) (CN CB CC:Addr) (vs:QQ) (H:Hp) (Q:L2.VK) (E:XK):Prop
 | mk (a pw:Addr) (D:QO) (s:Vst) (ws:QQ) (ns:List Nd) (x:Th) (vx:V) (n m:Int) (_:vs=[.ref a,.ref pw,vx,.int n,.int m]) (_:VR H a D s) (_:H pw=some (.lst ws)) (_:RepL H (ns.map Nd.th) ws) (_:(∀nd∈ns,Good nd.th)) (_:Rep H x vx) (_:Out VR CN CB CC a D (zdL x ns.reverse n m 0 0) s zpM H Q E):zdj VR CN CB CC vs H Q E
inductive ze1 (vs:QQ) (H:Hp) (Q:L2.VK) (_E:XK):Prop
 | mk (pw:Addr) (ws:QQ) (ns:List Nd) (x:Th) (vx:V) (_:vs=[.ref pw,vx]) (_:H pw=some (.lst ws)) (_:RepL H (ns.map Nd.th) ws) (_:(∀nd∈ns,Good nd.th)) (_:Good x) (_:Rep H x vx) (_:∀H',Same H H'->Q (.int (zaq x ns:Int)) H'):ze1 vs H Q _E
inductive ziE (VR:VRT) (CN CB CC:Addr) (vs:QQ) (H:Hp) (Q:L2.VK) (E:XK):Prop
 | mk (a:Addr) (D:QO) (s:Vst) (n:Int) (x wo:Th) (vx vw:V) (_:vs=[.ref a,.int n,vx,vw]) (_:VR H a D s) (_:Rep H x vx) (_:Good x) (_:Rep H wo vw) (_:Out VR CN CB CC a D (putP n x wo) s IntR H Q E):ziE VR CN CB CC vs H Q E
theorem ziV {α:Type}{f:α->Th}{ns:List α}{ws:QQ}{H:Hp}{j:Nat}{y:V}(r:RepL H (ns.map f) ws)(hj:j < ws.length)(hy:ws.reverse[j]? =some y):∃nd,nd∈ns/\ns.reverse.drop j=nd::ns.reverse.drop (j+1)/\Rep H (f nd) y:=by
 have hl:ws.length=ns.length:=by rw[r.len,List.length_map]
 have hr:j < ns.reverse.length:=by rw[List.length_reverse];omega
 rw[List.getElem?_reverse hj] at hy;have hn:ns[ns.length - 1 - j]? =some (ns[ns.length - 1 - j]'(by omega)):=List.getElem?_eq_getElem (by omega);refine⟨ns[ns.length - 1 - j]'(by omega),Jn _,?_,r.at (ws.length - 1 - j) _ _ hy (by rw[hl,List.getElem?_map,hn];rfl)⟩;rw[Jv hr,List.getElem_reverse]
section
variable {P:Program}{w:World}{K:QA}{mg:QB}{base:Heap}{VR:VRT}{C CC CN CB:Addr}{x:Str}{t1 t2 t3 t4 t5 t6 t7:Tok}
theorem zl2 (I:VI C VR)(D:Dfn K mg "hung" zpG ["vault","way","key","root","more"]) (znt:Mt P w K mg base (CX1 P w) C "lay" 14 ["self","thing"] (zdx VR CC)) (c_C:Cls K C) (zdY:Fn P w K mg base "with_tree" 1 ["node","side","root","count"] zc2) (zf9:Fn P w K mg base "side_of" 21 ["node","key"] zcR) (zD:mg "COUNT" =some (.int 4 t5)) (zaD:mg "reversed" =none):
  FnX P w K mg base "hung" 22 ["vault","way","key","root","more"] (zee VR CN CB CC):=by
 refine D.okX (k:=21) (L2.fsN ["vault","way","key","root","more","node"]) (λf cdv A outer s H vs Q E hr h=>?_);obtain⟨a,pw,D,s,ws,ns,x,vx,n,more,rfl,vs,ew,rw,gd,rx,h⟩:=h;have hl:ws.length=ns.length:=by rw[rw.len,List.length_map]
 refine⟨_,(by have ι:=0;ac_rfl),?_⟩;refine⟨_,rfl,pw,ws,rfl,SqL.of ew,?_⟩;refine zgv (λj σ H'=>∃(s1:Vst) (n:Int) (k5:Option V),(zaP x more (ns.reverse.drop j) n).wp s1 (OutQ VR a D IntR H Q) (OutE VR CN CB CC a D H E)/\σ=[some (.ref a),some (.ref pw),some vx,some (.int n),some (.int more),k5]/\Frm D H H'/\VR H' a D s1) ⟨s,n,_,h,rfl,Frm.refl,vs⟩ ?_ ?_ ?_
 ·rintro j σ H' ⟨s1,n,k5,_,rfl,fr,_⟩;exact SqL.of (I.lst vs fr ew)
 ·rintro j y σ H' hj hy ⟨s1,n,k5,h,rfl,fr,vs1⟩;obtain⟨nd,hm,ed,rl⟩:=ziV rw hj hy;have gn:=gd nd hm;rw[ed] at h;obtain⟨h0,gN,h1,h2⟩:=h;have tk:=I.tups vs fr;have rl':=rl.keep tk;obtain⟨p,vk,vw,rfl,ea,rk,rw'⟩:=zq rl';obtain⟨dx,fs,eo,_,n2⟩:=I.ins vs1;refine⟨_,rfl,a,dx,fs,rfl,eo,n2,_,rfl,_,rfl,_,rfl,_,_,nd,x,rfl,rl',rx.keep tk,(zce gn).1,λH1 s1'=>?_⟩;refine⟨_,rfl,_,rfl,p,_,_,_,rfl,rfl,SqT.of (s1' _ _ ea),rfl,_,rfl,_,_,rfl,rfl,_,nd,_,_,_,rfl,rl'.keep (Same.tups s1'),λp2 H2 s2 r2=>?_⟩;have s12:Same H' H2:=λb o e=>s2 b o (s1' b o e);have f12:=fr.trans (Frm.of s12);exact⟨a,D,s1,_,_,rfl,I.same vs1 s12,h0,r2,gN,λH3 st f3 vs3=>⟨_,_,_,h1 st,rfl,f12.trans f3,vs3⟩,λu x' v1 v2 H3 st f3=>h2 u st x' v1 v2 H3 (f12.trans f3)⟩
 ·rintro σ H' ⟨s1,n,k5,h,rfl,fr,vs1⟩;rw[List.drop_of_length_le (by rw[List.length_reverse];omega)] at h;exact⟨_,rfl,h _ H' fr vs1 rfl⟩
theorem ziU (I:VI C VR)(D:Dfn K mg "parted" zjj ["vault","way","key","root","count"]) (znt:Mt P w K mg base (CX1 P w) C "lay" 14 ["self","thing"] (zdx VR CC)) (c_C:Cls K C) (zdY:Fn P w K mg base "with_tree" 1 ["node","side","root","count"] zc2) (zf9:Fn P w K mg base "side_of" 21 ["node","key"] zcR) (zD:mg "COUNT" =some (.int 4 t5)) (zae:mg "LEFT" =some (.int 2 t3)) (zM:mg "RIGHT" =some (.int 3 t4)) (zaD:mg "reversed" =none):
  FnX P w K mg base "parted" 22 ["vault","way","key","root","count"] (zdj VR CN CB CC):=by
 refine D.okX (k:=21) (L2.fsN ["vault","way","key","root","count","left","left_count","right","right_count","node"]) (λf cdv A outer s H vs Q E hr h=>?_);obtain⟨a,pw,D,s,ws,ns,x,vx,n,m,rfl,vs,ew,rw,gd,rx,h⟩:=h;have hl:ws.length=ns.length:=by rw[rw.len,List.length_map]
 refine⟨_,(by have ι:=0;ac_rfl),?_⟩;refine⟨_,rfl,_,rfl,_,rfl,pw,ws,rfl,SqL.of ew,?_⟩;refine zgv (λj σ H'=>∃(s1:Vst) (l lc r rc:Int) (k9:Option V),(zdL x (ns.reverse.drop j) l lc r rc).wp s1 (OutQ VR a D zpM H Q) (OutE VR CN CB CC a D H E)/\σ=[some (.ref a),some (.ref pw),some vx,some (.int n),some (.int m),some (.int l),some (.int lc),some (.int r),some (.int rc),k9]/\Frm D H H'/\VR H' a D s1) ⟨s,n,m,0,0,_,h,rfl,Frm.refl,vs⟩ ?_ ?_ ?_
 ·rintro j σ H' ⟨s1,l,lc,r,rc,k9,_,rfl,fr,_⟩;exact SqL.of (I.lst vs fr ew)
 ·rintro j y σ H' hj hy ⟨s1,l,lc,r,rc,k9,h,rfl,fr,vs1⟩;obtain⟨nd,hm,ed,rl⟩:=ziV rw hj hy;have gn:=gd nd hm;rw[ed] at h;unfold zdL at h;have tk:=I.tups vs fr;have rl':=rl.keep tk;obtain⟨p,vk,vw,rfl,ea,rk,rw'⟩:=zq rl';refine⟨_,rfl,_,rfl,_,_,nd,x,rfl,rl',rx.keep tk,(zce gn).1,λH1 s1'=>⟨rfl,_,rfl,?_⟩⟩;rw[zai];have vs2:=I.same vs1 s1';obtain⟨dx,fs,eo,_,n2⟩:=I.ins vs2;by_cases c:zb nd.k x=true
  ·have e3:zbQ nd.k x=3:=if_pos c;rw[if_pos c] at h;obtain⟨h0,gN,h1,h2⟩:=h;refine ifT (decide_eq_true e3) ?_;refine⟨_,rfl,p,_,_,_,rfl,rfl,SqT.of (s1' _ _ ea),rfl,_,rfl,_,_,rfl,rfl,?_⟩;refine⟨_,rfl,a,dx,fs,rfl,eo,n2,_,rfl,_,rfl,_,rfl,_,nd,_,_,_,rfl,rl'.keep (Same.tups s1'),λp2 H2 s2 r2=>?_⟩;have f12:Frm D H H2:=fr.trans ((Frm.of s1').trans (Frm.of s2));exact⟨a,D,s1,_,_,rfl,I.same vs2 s2,h0,r2,gN,λH3 st f3 vs3=>⟨_,_,_,_,_,_,h1 st,rfl,f12.trans f3,vs3⟩,λu x' v1 v2 H3 st f3=>h2 u st x' v1 v2 H3 (f12.trans f3)⟩
  ·have e3:zbQ nd.k x=2:=if_neg c;rw[if_neg c] at h;obtain⟨h0,gN,h1,h2⟩:=h;refine ifF (decide_eq_false (by rw[e3];decide)) ?_;refine⟨_,rfl,p,_,_,_,rfl,rfl,SqT.of (s1' _ _ ea),rfl,_,rfl,_,_,rfl,rfl,?_⟩;refine⟨_,rfl,a,dx,fs,rfl,eo,n2,_,rfl,_,rfl,_,rfl,_,nd,_,_,_,rfl,rl'.keep (Same.tups s1'),λp2 H2 s2 r2=>?_⟩;have f12:Frm D H H2:=fr.trans ((Frm.of s1').trans (Frm.of s2));exact⟨a,D,s1,_,_,rfl,I.same vs2 s2,h0,r2,gN,λH3 st f3 vs3=>⟨_,_,_,_,_,_,h1 st,rfl,f12.trans f3,vs3⟩,λu x' v1 v2 H3 st f3=>h2 u st x' v1 v2 H3 (f12.trans f3)⟩
 ·rintro σ H' ⟨s1,l,lc,r,rc,k9,h,rfl,fr,vs1⟩;rw[List.drop_of_length_le (by rw[List.length_reverse];omega)] at h;refine⟨_,rfl,_,rfl,szl (show 2<=1000 by decide),λp hp=>?_⟩;have s2:=zh (o:=.tup [.int l,.int r]) (Same.refl H') hp;exact h _ _ (fr.trans (Frm.of s2)) (I.same vs1 s2) ⟨p,rfl,za⟩
theorem zkr (D:Dfn K mg "place_in" zfA ["way","key"]) (zo3:Fn P w K mg base "above" 21 ["key","other"] zd8) (zau:mg "KEY" =some (.int 0 t1)) (zbi:mg "enumerate" =none) (zx:mg "len" =none):Fn P w K mg base "place_in" 22 ["way","key"] ze1:=by
 refine D.ok (k:=21) (L2.fsN ["way","key","number","node"]) (λf cdv A outer s H vs Q E hr h=>?_);obtain⟨pw,ws,ns,x,vx,rfl,ew,rw,gd,gx,rx,q⟩:=h;have hl:ws.length=ns.length:=by rw[rw.len,List.length_map]
 refine⟨_,(by have ι:=0;ac_rfl),?_⟩;refine⟨_,rfl,pw,ws,rfl,SqL.of ew,?_⟩;refine zhp (λi σ H'=>∃k2 k3,σ=[some (.ref pw),some vx,k2,k3]/\Same H H'/\zaq x ns=i+zaq x (ns.drop i)) ⟨_,_,rfl,Same.refl _,by rw[Nat.zero_add];rfl⟩ ?_ ?_ ?_
 ·rintro i σ H' ⟨k2,k3,rfl,sm,_⟩;exact SqL.of (sm _ _ ew)
 ·rintro i y U σ H' hy hU ⟨k2,k3,rfl,sm,hp⟩;have hi:i < ws.length:=(List.getElem?_eq_some_iff.mp hy).1;have hn:ns[i]? =some (ns[i]'(by omega)):=List.getElem?_eq_getElem (by omega);have rl:=rw.at i y _ hy (by rw[List.getElem?_map,hn];rfl);have gn:=gd _ (Jn (show i < ns.length by omega));have ed:ns.drop i=ns[i]'(by omega)::ns.drop (i+1):=Jv (by omega);generalize ns[i]'(by omega)=nd at rl gn ed;have sm':Same H (upd H' U (.tup [.int i,y])):=zh sm hU;have eU:upd H' U (.tup [.int i,y]) U=some (.tup [.int i,y]):=za;generalize upd H' U (.tup [.int i,y])=H1 at sm' eU;obtain⟨p,vk,vw,rfl,ea,rk,_⟩:=zq rl;refine⟨U,_,rfl,SqT.of eU,rfl,_,_,rfl,_,_,rfl,rfl,?_⟩;refine⟨_,rfl,_,rfl,p,_,_,_,rfl,rfl,SqT.of (sm' _ _ ea),rfl,x,nd.k,_,_,rfl,rx.keep (Same.tups sm'),rk.keep (Same.tups sm'),gx,(ze3 gn).1,λH2 s2=>⟨_,rfl,?_⟩⟩;have s02:Same H H2:=λb o e=>s2 b o (sm' b o e);have e0:zaq x (ns.drop i)=if zac x nd.k=true then 0 else zaq x (ns.drop (i+1))+1:=by rw[ed];rfl
  cases z:zac x nd.k with
  | true=>rw[if_pos z] at e0;refine ifT rfl ⟨_,rfl,?_⟩;have:=q H2 s02;rw[hp,e0] at this;exact this
  | false=>rw[if_neg (by rw[z];exact Jc)] at e0;exact ifF rfl ⟨_,_,rfl,s02,by omega⟩
 ·rintro σ H' ⟨k2,k3,rfl,sm,hp⟩;refine⟨_,rfl,pw,_,rfl,.inl (SqL.of (sm _ _ ew)),?_⟩;rw[List.drop_of_length_le (by omega)] at hp;have:=q H' sm;rw[hp] at this;exact this
theorem zod (I:VI C VR)(D:Dfn K mg "put" sput ["vault","root","key","worth"]) (zh5:FnX P w K mg base "way_to" 22 ["vault","root","key"] (ze4 VR CN CB CC)) (zga:Fn P w K mg base "ends_at" 1 ["way","key"] (zc6 K)) (znt:Mt P w K mg base (CX1 P w) C "lay" 14 ["self","thing"] (zdx VR CC)) (c_C:Cls K C) (zra:FnX P w K mg base "hung" 22 ["vault","way","key","root","more"] (zee VR CN CB CC)) (zsg:FnX P w K mg base "parted" 22 ["vault","way","key","root","count"] (zdj VR CN CB CC))
  (zrb:Fn P w K mg base "place_in" 22 ["way","key"] ze1) (zD:mg "COUNT" =some (.int 4 t5)) (zae:mg "LEFT" =some (.int 2 t3)) (zM:mg "RIGHT" =some (.int 3 t4)) (zx:mg "len" =none):FnX P w K mg base "put" 23 ["vault","root","key","worth"] (ziE VR CN CB CC):=by
 refine D.okX (k:=22) (L2.fsN ["vault","root","key","worth","way","own","new","place","trees","count"]) (λf cdv A outer s H vs Q E hr h=>?_);obtain⟨a,D,s,n,x,wo,vx,vw,rfl,vs,rx,gx,rw0,h⟩:=h;unfold Out putP at h;rw[Pg.wp_bind] at h;have ι:=0;refine⟨_,(zc (by ac_rfl)
 (zc (zV (by ac_rfl)
 (zc (setA 5 rfl (zaK zcj (pv 4) (by ac_rfl) (λ_ _=>rfl)))
 (by ac_rfl))
 zy)
 (zc (by ac_rfl)
 (zc (by ac_rfl)
 (zc (setA 9 rfl (zeC (by ac_rfl) (zaK zcG (zaK zcj (pv 4) (pv 7) (λ_ _=>rfl)) (by ac_rfl) (λ_ _=>rfl)) zap))
 (by ac_rfl)))))),?_⟩
 refine⟨_,rfl,_,rfl,_,rfl,a,D,s,n,x,vx,rfl,vs,rx,(Ji gx.dp (by decide)),Pg.wp_mono (λns s1 h1 v H1 f1 vs1 rn=>?_) (λ_ _ z=>z) h⟩;clear h;obtain⟨pw,ws,rfl,ew,rwy,gd,hl3⟩:=rn;have hl:ws.length=ns.length:=by rw[rwy.len,List.length_map]
 have rx1:=rx.keep (I.tups vs f1);have rw1:=rw0.keep (I.tups vs f1);refine⟨_,rfl,_,rfl,pw,ws,ns,x,vx,rfl,SqL.of ew,rwy,gd,rx1,_,rfl,?_⟩;have new:zcw ns x=false->(putN x wo ns).wp s1 (OutQ VR a D IntR H Q) (OutE VR CN CB CC a D H E):=λz=>by
  have h2:(zc1 x wo ns).wp s1 (OutQ VR a D IntR H Q) (OutE VR CN CB CC a D H E):=h1;unfold zc1 at h2;unfold zcw at z;cases y:ns.getLast? with
  | none=>rw[y] at h2;exact h2
  | some own=>
   rw[y] at h2 z;have z2:eqT own.k x=false:=z;have z':own.k≠x:=λe=>by rw[zgs e] at z2;cases z2
   have h3:(if own.k=x then putO x wo ns own else putN x wo ns).wp s1 (OutQ VR a D IntR H Q) (OutE VR CN CB CC a D H E):=h2;rw[if_neg z'] at h3;exact h3
 cases z:zcw ns x with
 | true=>
  refine ifT rfl ?_;rcases List.eq_nil_or_concat ns with e | ⟨pre,nd,e⟩
  ·subst e;cases z
  rw[List.concat_eq_append] at e;subst e;have ek:nd.k=x:=by unfold zcw at z;rw[List.getLast?_concat] at z;exact(zaT _ _).mp z
  have h2:(zc1 x wo (pre++ [nd])).wp s1 (OutQ VR a D IntR H Q) (OutE VR CN CB CC a D H E):=h1;unfold zc1 at h2;rw[List.getLast?_concat] at h2;have h3:(if nd.k=x then putO x wo (pre++ [nd]) nd else putN x wo (pre++ [nd])).wp s1 (OutQ VR a D IntR H Q) (OutE VR CN CB CC a D H E):=h2;rw[if_pos ek] at h3;obtain⟨h0,gN,h4,h5⟩:=h3;rw[List.dropLast_concat] at h4;rw[List.map_append] at rwy;obtain⟨us,v,rfl,rus,rnd⟩:=rwy.unsnoc;obtain⟨p,vk,vw',rfl,ea,rk,_⟩:=zq rnd;have et:SqT K H1 p _:=SqT.of ea;obtain⟨dx,fs,eo,_,n2⟩:=I.ins vs1;refine⟨_,rfl,_,rfl,pw,_,_,_,rfl,rfl,SqL.of ew,zb1,?_⟩;refine⟨_,rfl,a,dx,fs,rfl,eo,n2,_,rfl,_,rfl,_,rfl,p,_,_,_,rfl,rfl,et,rfl,_,rfl,p,_,_,_,rfl,rfl,et,rfl,_,rfl,p,_,_,_,rfl,rfl,et,rfl,szl (show 5<=1000 by decide),λp2 hp2=>?_⟩;have r2:Rep (upd H1 p2 (.tup [vx,vw,.int nd.l,.int nd.r,.int nd.c])) (Nd.mk x wo nd.l nd.r nd.c).th (.ref p2):=(RepL.cons rx1 (.cons rw1 (.cons (.int _) (.cons (.int _) (.cons (.int _) .nil))))).new hp2;have s12:=zh (o:=.tup [vx,vw,.int nd.l,.int nd.r,.int nd.c]) (Same.refl H1) hp2;generalize upd H1 p2 (.tup [vx,vw,.int nd.l,.int nd.r,.int nd.c])=H2 at r2 s12;have vs2:=I.same vs1 s12;have f2:=f1.trans (Frm.of s12);refine⟨a,D,s1,_,_,rfl,vs2,h0,r2,gN,λH3 st f3 vs3=>?_,λu x' v1 v2 H3 st f3=>h5 u st x' v1 v2 H3 (f2.trans f3)⟩;have ew3:=I.lst vs2 f3 (s12 _ _ ew);have tk3:Tups H1 H3:=(Same.tups s12).trans (I.tups vs2 f3);refine⟨_,rfl,_,rfl,_,rfl,_,rfl,pw,_,rfl,SqL.of ew3,λpc hpc=>?_⟩;rw[zjJ (n:=us.length) (by simp),List.take_left];have s34:=zh (o:=.lst us) (Same.refl H3) hpc;have ec:upd H3 pc (.lst us) pc=some (.lst us):=za;generalize upd H3 pc (.lst us)=H4 at s34 ec;have f4:=(f2.trans f3).trans (Frm.of s34);have tk4:=tk3.trans (Same.tups s34);exact⟨_,rfl,_,rfl,a,pc,D,_,us,pre,x,vx,_,0,rfl,I.same vs3 s34,ec,rus.keep tk4,λy hy=>gd y (Jk _ hy),rx1.keep tk4,Pg.wp_mono (OutQ.on f4) (OutE.on f4) (h4 st)⟩
 | false=>
  have h2:=new z;refine ifF rfl ?_;clear new h1;unfold putN at h2;rw[Pg.wp_bind] at h2;have hpl:=zf2 x ns;refine⟨_,rfl,_,rfl,pw,ws,ns,x,vx,rfl,ew,rwy,gd,gx,rx1,λH2 s2=>?_⟩;generalize zaq x ns=pl at hpl h2;have vs2:=I.same vs1 s2;have ew2:=s2 _ _ ew;have rwy2:=rwy.keep (Same.tups s2);have rx2:=rx1.keep (Same.tups s2);have rw2:=rw1.keep (Same.tups s2);refine⟨_,rfl,_,rfl,_,rfl,_,rfl,pw,_,rfl,SqL.of ew2,λpc hpc=>?_⟩;rw[zn1 (by omega)];have s23:=zh (o:=.lst (ws.drop pl)) (Same.refl H2) hpc;have ec:upd H2 pc (.lst (ws.drop pl)) pc=some (.lst (ws.drop pl)):=za;generalize upd H2 pc (.lst (ws.drop pl))=H3 at s23 ec;have rd:=(rwy2.keep (Same.tups s23)).drop pl;rw[<-List.map_drop] at rd;have vs3:=I.same vs2 s23;have f3:Frm D H H3:=f1.trans ((Frm.of s2).trans (Frm.of s23));refine⟨_,rfl,a,pc,D,s1,ws.drop pl,ns.drop pl,x,vx,0,0,rfl,vs3,ec,rd,λy hy=>gd y (List.mem_of_mem_drop hy),rx2.keep (Same.tups s23),Pg.wp_mono (λlr s4 h4 v H4 f4 vs4 rp=>?_) (OutE.on f3) h2⟩;obtain⟨pt,rfl,et⟩:=rp;have ew4:=I.lst vs3 f4 (s23 _ _ ew2);have tk24:Tups H2 H4:=(Same.tups s23).trans (I.tups vs3 f4);have rwy4:=rwy2.keep tk24;obtain⟨h0,gN,h5,h6⟩:=h4;refine⟨_,rfl,_,rfl,pw,_,rfl,.inl (SqL.of ew4),_,_,rfl,rfl,_,rfl,?_⟩;have key:pl < ns.length->∃p xs,atI ws (pl:Int)=some (.ref p)/\H4 p=some (.tup xs)/\atI xs 4=some (.int (zcO ns pl)):=λhlt=>by have hv:ws[pl]? =some (ws[pl]'(by omega)):=List.getElem?_eq_getElem (by omega);have hn:ns[pl]? =some (ns[pl]'hlt):=List.getElem?_eq_getElem hlt;have rl:=rwy4.at pl _ _ hv (by rw[List.getElem?_map,hn];rfl);obtain⟨p,vk,vw',ev,ea,rk,_⟩:=zq rl;refine⟨p,_,by rw[zgC hv,ev],ea,?_⟩;unfold zcO;rw[hn];rfl
  refine' joinM (λc hn=>?ja) (λc hn=>?jb) ?jr
  case ja=>have c':(pl:Int) < ((ws.length:Nat):Int):=Jo c;obtain⟨p,xs,e1,e2,e3⟩:=key (by clear hn;omega);exact⟨_,rfl,_,rfl,pw,_,_,_,rfl,rfl,SqL.of ew4,e1,p,_,_,_,rfl,rfl,SqT.of e2,e3,hn⟩
  case jb=>
   have c':¬(pl:Int) < ((ws.length:Nat):Int):=of_decide_eq_false c;have hz:zcO ns pl=0:=by unfold zcO;rw[List.getElem?_eq_none (by clear hn;omega)]
   rw[hz] at hn;exact hn
  have et4:SqT K H4 pt [.int lr.1,.int lr.2]:=SqT.of et;obtain⟨dx4,fs4,eo4,_,n4⟩:=I.ins vs4;have rx4:=rx2.keep tk24;have rw4:=rw2.keep tk24;generalize zcO ns pl=cn at gN h5 h6;refine⟨_,rfl,a,dx4,fs4,rfl,eo4,n4,_,rfl,_,rfl,_,rfl,pt,_,_,_,rfl,rfl,et4,rfl,_,rfl,pt,_,_,_,rfl,rfl,et4,rfl,_,rfl,_,_,rfl,rfl,szl (show 5<=1000 by decide),λp2 hp2=>?_⟩;have r5:Rep (upd H4 p2 (.tup [vx,vw,.int lr.1,.int lr.2,.int (cn+1)])) (Nd.mk x wo lr.1 lr.2 (cn+1)).th (.ref p2):=(RepL.cons rx4 (.cons rw4 (.cons (.int _) (.cons (.int _) (.cons (.int _) .nil))))).new hp2;have s45:=zh (o:=.tup [vx,vw,.int lr.1,.int lr.2,.int (cn+1)]) (Same.refl H4) hp2;generalize upd H4 p2 (.tup [vx,vw,.int lr.1,.int lr.2,.int (cn+1)])=H5 at r5 s45;have vs5:=I.same vs4 s45;have f5:Frm D H H5:=f3.trans (f4.trans (Frm.of s45));refine⟨a,D,s4,_,_,rfl,vs5,h0,r5,gN,λH6 st f6 vs6=>?_,λu x' v1 v2 H6 st f6=>h6 u st x' v1 v2 H6 (f5.trans f6)⟩;have ew6:=I.lst vs5 f6 (s45 _ _ ew4);have tk46:Tups H4 H6:=(Same.tups s45).trans (I.tups vs5 f6);refine⟨_,rfl,_,rfl,_,rfl,_,rfl,pw,_,rfl,SqL.of ew6,λpq hpq=>?_⟩;rw[zrK (by omega)];have s67:=zh (o:=.lst (ws.take pl)) (Same.refl H6) hpq;have eq7:upd H6 pq (.lst (ws.take pl)) pq=some (.lst (ws.take pl)):=za;generalize upd H6 pq (.lst (ws.take pl))=H7 at s67 eq7;have rt:=(rwy4.keep (tk46.trans (Same.tups s67))).take pl;rw[<-List.map_take] at rt;have f7:=(f5.trans f6).trans (Frm.of s67);exact⟨_,rfl,_,rfl,a,pq,D,_,ws.take pl,ns.take pl,x,vx,_,1,rfl,I.same vs6 s67,eq7,rt,λy hy=>gd y (List.mem_of_mem_take hy),(rx4.keep tk46).keep (Same.tups s67),Pg.wp_mono (OutQ.on f7) (OutE.on f7) (h5 st)⟩
end
end Pv
namespace Pv
open PySem L2
noncomputable abbrev zjm:Stmt:=top 61
noncomputable abbrev scut:Stmt:=top 60
structure Js where
 nd:Nd
 i:Int
 c:Int
noncomputable abbrev Js.th (j:Js):Th:=.tup [j.nd.th,.int j.i,.int j.c]
noncomputable def joinR:Nat->Int->Int->Int->Int->Pg (List Js ×Int)
 | 0,_,_,_,_=>.bad
 | f+1,l,lc,r,rc=>if l=0 then .ret ([],r) else if r=0 then .ret ([],l) else(benP l lc).bind λa=>(benP r rc).bind λb=>
  if zac a.k b.k=true then(joinR f a.r a.c r rc).bind λy=>.ret (⟨a,3,a.c+b.c⟩::y.1,y.2) else(joinR f l lc b.l b.c).bind λy=>.ret (⟨b,2,a.c+b.c⟩::y.1,y.2)
noncomputable def upP:List Js->Int->Pg Int
 | [],n=>.ret n
 | j::r,n=>.lay (zW j.nd j.i n j.c).th (upP r (zl (zW j.nd j.i n j.c).th))
noncomputable def zhk (l r c:Int):Pg Int:=(joinR 600 l c r c).bind λy=>upP y.1.reverse y.2
noncomputable def cutK (n:Int)(x:Th)(ns:List Nd):Pg Int:=match ns.getLast? with
 | none=>.ret n
 | some own=>if own.k=x then(zhk own.l own.r own.c).bind λm=>zaP x (-1) ns.dropLast.reverse m else .ret n
noncomputable def cutP (n:Int)(x:Th):Pg Int:=(wayP x 301 n 301).bind (cutK n x)
inductive zdt (VR:VRT) (CN CB CC:Addr) (vs:QQ) (H:Hp) (Q:L2.VK) (E:XK):Prop
 | mk (a:Addr) (D:QO) (s:Vst) (l r c:Int) (_:vs=[.ref a,.int l,.int r,.int c]) (_:VR H a D s) (_:1<=c) (_:c<=300) (_:Out VR CN CB CC a D (zhk l r c) s IntR H Q E):zdt VR CN CB CC vs H Q E
inductive ziw (VR:VRT) (CN CB CC:Addr) (vs:QQ) (H:Hp) (Q:L2.VK) (E:XK):Prop
 | mk (a:Addr) (D:QO) (s:Vst) (n:Int) (x:Th) (vx:V) (_:vs=[.ref a,.int n,vx]) (_:VR H a D s) (_:Rep H x vx) (_:dep x<=8) (_:Out VR CN CB CC a D (cutP n x) s IntR H Q E):ziw VR CN CB CC vs H Q E
section
variable {P:Program}{w:World}{K:QA}{mg:QB}{base:Heap}{VR:VRT}{C CC CN CB:Addr}{x:Str}{t1 t2 t3 t4 t5 t6 t7:Tok}
theorem zlD (I:VI C VR)(D:Dfn K mg "joined" zjm ["vault","left","right","count"]) (za8:FnX P w K mg base "node_beneath" 4 ["vault","root","count"] (zdm VR CN CB CC)) (zo3:Fn P w K mg base "above" 21 ["key","other"] zd8) (znt:Mt P w K mg base (CX1 P w) C "lay" 14 ["self","thing"] (zdx VR CC)) (c_C:Cls K C) (zdY:Fn P w K mg base "with_tree" 1 ["node","side","root","count"] zc2)
  (zau:mg "KEY" =some (.int 0 t1)) (zae:mg "LEFT" =some (.int 2 t3)) (zM:mg "RIGHT" =some (.int 3 t4)) (zD:mg "COUNT" =some (.int 4 t5)) (zaD:mg "reversed" =none):FnX P w K mg base "joined" 22 ["vault","left","right","count"] (zdt VR CN CB CC):=by
 refine D.okX (k:=21) (L2.fsN ["vault","left","right","count","left_count","right_count","down","one","other","both","root","step"]) (λf cdv A outer s H vs Q E hr h=>?_);obtain⟨a,D,s,l,r,c,rfl,vs,c1,c3,h⟩:=h;unfold Out zhk at h;rw[Pg.wp_bind] at h;refine⟨_,(by have ι:=0;ac_rfl),?_⟩;refine⟨_,rfl,_,rfl,szl (show 0<=1000 by decide),λpd hpd=>?_⟩;have s0:=zh (o:=.lst []) (Same.refl H) hpd;have e0:upd H pd (.lst []) pd=some (.lst []):=za;generalize upd H pd (.lst [])=H0 at s0 e0;dsimp only[za5];refine zk (fun σ H'=>∃(s1:Vst) (l r lc rc:Int) (js:List Js) (ds:QQ) (k7 k8 k9:Option V),(l=0\/r=0)/\(upP js.reverse (if l=0 then r else l)).wp s1 (OutQ VR a D IntR H Q) (OutE VR CN CB CC a D H E)/\σ=[some (.ref a),some (.int l),some (.int r),some (.int c),some (.int lc),some (.int rc),some (.ref pd),k7,k8,k9,none,none]/\Frm D H H'/\VR H' a D s1/\H' pd=some (.lst ds)/\RepL H' (js.map Js.th) ds) (λN kN=>?_) ?_
 ·refine⟨λm σ H'=>∃(s1:Vst) (l r lc rc:Int) (js:List Js) (ds:QQ) (k7 k8 k9:Option V),(joinR m l lc r rc).wp s1 (λy s'=>(upP (js++y.1).reverse y.2).wp s' (OutQ VR a D IntR H Q) (OutE VR CN CB CC a D H E)) (OutE VR CN CB CC a D H E)/\1<=lc/\1<=rc/\lc+rc<=(m:Int)/\js.length+m<=600/\σ=[some (.ref a),some (.int l),some (.int r),some (.int c),some (.int lc),some (.int rc),some (.ref pd),k7,k8,k9,none,none]/\Frm D H H'/\VR H' a D s1/\H' pd=some (.lst ds)/\RepL H' (js.map Js.th) ds,⟨600,s,l,r,c,c,[],[],_,_,_,h,c1,c1,by omega,by decide,rfl,Frm.of s0,I.same vs s0,e0,.nil⟩,?_⟩;clear h;rintro m σ H1 ⟨s1,l,r,lc,rc,js,ds,k7,k8,k9,h,l1,r1,lm,jm,rfl,f1,vs1,e1,r1'⟩;obtain⟨m,rfl⟩:∃j,m=j+1:=⟨m - 1,by omega⟩;refine⟨_,rfl,rfl,_,rfl,?_⟩;rw[zai];unfold joinR at h;by_cases hl:l=0
  ·rw[if_pos hl] at h;refine ifF (by rw[decide_eq_true hl];rfl) (ifF rfl (kN _ H1 ⟨s1,l,r,lc,rc,js,ds,k7,k8,k9,.inl hl,?_,rfl,f1,vs1,e1,r1'⟩));have h':(upP (js++ []).reverse r).wp s1 (OutQ VR a D IntR H Q) (OutE VR CN CB CC a D H E):=h;rw[List.append_nil] at h';rw[if_pos hl];exact h'
  rw[if_neg hl] at h;refine ifT (by rw[decide_eq_false hl];rfl) ⟨_,rfl,rfl,_,rfl,?_⟩;rw[zai];by_cases hr0:r=0
  ·rw[if_pos hr0] at h;refine ifF (by rw[decide_eq_true hr0];rfl) (kN _ H1 ⟨s1,l,r,lc,rc,js,ds,k7,k8,k9,.inr hr0,?_,rfl,f1,vs1,e1,r1'⟩);have h':(upP (js++ []).reverse l).wp s1 (OutQ VR a D IntR H Q) (OutE VR CN CB CC a D H E):=h;rw[List.append_nil] at h';rw[if_neg hl];exact h'
  rw[if_neg hr0,Pg.wp_bind] at h;refine ifT (by rw[decide_eq_false hr0];rfl) ⟨_,fun σ' H' h=>h,?_⟩;refine⟨_,rfl,_,rfl,_,rfl,a,D,s1,l,lc,rfl,vs1,Pg.wp_mono (λone s2 h2 v H2 f2 vs2 rn=>?_) (OutE.on f1) (zjf h)⟩;obtain⟨⟨o1,o2⟩,h2⟩:=h2;rw[Pg.wp_bind] at h2;have f12:=f1.trans f2;refine⟨_,rfl,_,rfl,_,rfl,a,D,s2,r,rc,rfl,vs2,Pg.wp_mono (λother s3 h3 v' H3 f3 vs3 rn'=>?_) (OutE.on f12) (zjf h2)⟩;obtain⟨⟨q1,q2⟩,h3⟩:=h3;have f13:=f12.trans f3;obtain⟨rn,gn⟩:=rn;obtain⟨rn',gn'⟩:=rn';have rn3:=rn.keep (I.tups vs2 f3);have tk13:=(I.tups vs1 f2).trans (I.tups vs2 f3);have e3:=I.lst vs2 f3 (I.lst vs1 f2 e1);have r3:=r1'.keep tk13;clear rn r1' e1 h h2;obtain⟨p,vk,vw,rfl,ea,rk,_⟩:=zq rn3;obtain⟨p',vk',vw',rfl,ea',rk',_⟩:=zq rn';have et:SqT K H3 p _:=SqT.of ea;have et':SqT K H3 p' _:=SqT.of ea';refine⟨_,rfl,p,_,_,_,rfl,rfl,et,rfl,_,rfl,p',_,_,_,rfl,rfl,et',rfl,_,_,rfl,rfl,?_⟩;refine⟨_,rfl,p,_,_,_,rfl,rfl,et,rfl,_,rfl,p',_,_,_,rfl,rfl,et',rfl,one.k,other.k,_,_,rfl,rk,rk',(ze3 gn).1,(ze3 gn').1,λH4 s4=>⟨_,rfl,?_⟩⟩;have f14:=f13.trans (Frm.of s4);have vs4:=I.same vs3 s4;have e4:=s4 _ _ e3;have r4:=r3.keep (Same.tups s4);have ea4:=s4 _ _ ea;have ea4':=s4 _ _ ea';have rn4:=rn3.keep (Same.tups s4);have rn4':=rn'.keep (Same.tups s4);have hds:ds.length=js.length:=by rw[r4.len,List.length_map]
  have grow:∀(j:Js) (q:Addr) (d2:Addr),Rep H4 j.nd.th (.ref q)->H4 d2=none->∃H5,upd (upd H4 d2 (.tup [.ref q,.int j.i,.int j.c])) pd (.lst (ds++ [.ref d2]))=H5/\upd H4 d2 (.tup [.ref q,.int j.i,.int j.c]) pd=some (.lst ds)/\Frm D H H5/\VR H5 a D s3/\H5 pd=some (.lst (ds++ [.ref d2]))/\RepL H5 ((js++ [j]).map Js.th) (ds++ [.ref d2])/\Tups H4 H5:=λj q d2 rq hd2=>by
   have s5:=zh (o:=.tup [.ref q,.int j.i,.int j.c]) (Same.refl H4) hd2;have rp:Rep (upd H4 d2 (.tup [.ref q,.int j.i,.int j.c])) j.th (.ref d2):=(RepL.cons rq (.cons (.int _) (.cons (.int _) .nil))).new hd2;generalize upd H4 d2 (.tup [.ref q,.int j.i,.int j.c])=H5 at s5 rp;have e5:=s5 _ _ e4;have tk:Tups H5 (upd H5 pd (.lst (ds++ [.ref d2]))):=Tups.upd λxs z=>by rw[e5] at z;cases z
   refine⟨_,rfl,e5,zbI (f14.trans (Frm.of s5)) hpd,I.nl (I.same vs4 s5) (NL.lst e5),za,?_,(Same.tups s5).trans tk⟩;rw[List.map_append];exact((r4.keep (Same.tups s5)).keep tk).snoc (rp.keep tk)
  cases z:zac one.k other.k with
  | true=>rw[if_pos z,Pg.wp_bind] at h3;refine ifT rfl ?_;refine⟨_,rfl,.inl ⟨rfl,_,SqL.of e4⟩,_,rfl,_,rfl,szl (show 3<=1000 by decide),λpt hpt=>?_⟩;obtain⟨H5,eH,e5,f5,vs5,e5',r5,tk5⟩:=grow ⟨one,3,one.c+other.c⟩ p pt rn4 hpt;refine⟨pd,ds,_,rfl,rfl,e5,Jd (show ds.length < 1000 by omega) (szl (Jb _)),?_⟩;rw[eH];have ea5:=tk5 _ _ ea4;refine⟨_,rfl,p,_,_,_,rfl,rfl,SqT.of ea5,rfl,?_⟩;refine⟨_,rfl,p,_,_,_,rfl,rfl,SqT.of ea5,rfl,?_⟩;refine⟨m,Jm m,s3,_,_,_,_,js++ [⟨one,3,one.c+other.c⟩],_,_,_,_,Pg.wp_mono (λy s' z=>?_) (λ_ _ z=>z) h3,o1,r1,by omega,by rw[List.length_append];show js.length+1+m<=600;omega,rfl,f5,vs5,e5',r5⟩;have z':(upP (js++(⟨one,3,one.c+other.c⟩::y.1)).reverse y.2).wp s' (OutQ VR a D IntR H Q) (OutE VR CN CB CC a D H E):=z;rw[List.append_assoc];exact z'
  | false=>rw[if_neg (by rw[z];exact Jc),Pg.wp_bind] at h3;refine ifF rfl ?_;refine⟨_,rfl,.inl ⟨rfl,_,SqL.of e4⟩,_,rfl,_,rfl,szl (show 3<=1000 by decide),λpt hpt=>?_⟩;obtain⟨H5,eH,e5,f5,vs5,e5',r5,tk5⟩:=grow ⟨other,2,one.c+other.c⟩ p' pt rn4' hpt;refine⟨pd,ds,_,rfl,rfl,e5,Jd (show ds.length < 1000 by omega) (szl (Jb _)),?_⟩;rw[eH];have ea5:=tk5 _ _ ea4';refine⟨_,rfl,p',_,_,_,rfl,rfl,SqT.of ea5,rfl,?_⟩;refine⟨_,rfl,p',_,_,_,rfl,rfl,SqT.of ea5,rfl,?_⟩;refine⟨m,Jm m,s3,_,_,_,_,js++ [⟨other,2,one.c+other.c⟩],_,_,_,_,Pg.wp_mono (λy s' z=>?_) (λ_ _ z=>z) h3,l1,q1,by omega,by rw[List.length_append];show js.length+1+m<=600;omega,rfl,f5,vs5,e5',r5⟩;have z':(upP (js++(⟨other,2,one.c+other.c⟩::y.1)).reverse y.2).wp s' (OutQ VR a D IntR H Q) (OutE VR CN CB CC a D H E):=z;rw[List.append_assoc];exact z'
 ·clear h;rintro σ H1 ⟨s1,l,r,lc,rc,js,ds,k7,k8,k9,hlr,h,rfl,f1,vs1,e1,r1⟩;have hds:ds.length=js.length:=by rw[r1.len,List.length_map]
  refine zk (fun σ H'=>σ=[some (.ref a),some (.int l),some (.int r),some (.int c),some (.int lc),some (.int rc),some (.ref pd),k7,k8,k9,some (.int (if l=0 then r else l)),none]/\H'=H1) (λN kN=>?_) ?_
  ·refine⟨_,rfl,rfl,_,rfl,?_⟩;rw[zai];by_cases hl:l=0
   ·exact ifT (decide_eq_true hl) ⟨_,rfl,kN _ _ ⟨by rw[if_pos hl];rfl,rfl⟩⟩
   ·exact ifF (decide_eq_false hl) ⟨_,rfl,kN _ _ ⟨by rw[if_neg hl];rfl,rfl⟩⟩
  rintro σ H1' ⟨rfl,rfl⟩;generalize(if l=0 then r else l)=n at h;refine⟨_,rfl,pd,_,rfl,SqL.of e1,?_⟩;refine zgv (λj σ H'=>∃(s2:Vst) (n:Int) (k11:Option V),(upP (js.reverse.drop j) n).wp s2 (OutQ VR a D IntR H Q) (OutE VR CN CB CC a D H E)/\σ=[some (.ref a),some (.int l),some (.int r),some (.int c),some (.int lc),some (.int rc),some (.ref pd),k7,k8,k9,some (.int n),k11]/\Frm D H1' H'/\VR H' a D s2) ⟨s1,n,_,h,rfl,Frm.refl,vs1⟩ ?_ ?_ ?_
  ·rintro j σ H' ⟨s2,n,k11,_,rfl,fr,_⟩;exact SqL.of (I.lst vs1 fr e1)
  ·rintro j y σ H' hj hy ⟨s2,n,k11,h,rfl,fr,vs2⟩;obtain⟨st,hm,ed,rl⟩:=ziV r1 hj hy;rw[ed] at h;obtain⟨h0,gN,h1,h2⟩:=h;have rl':=rl.keep (I.tups vs1 fr);obtain⟨pt,xs,e,ept,rx⟩:=rl'.list;subst e;cases rx with
   | cons rn rx2=>
   cases rx2 with
   | cons r2 rx3=>
   cases rx3 with
   | cons r3 rx4=>
   cases rx4 with
   | nil=>
   cases r2;cases r3;obtain⟨dx,fs,eo,_,n2⟩:=I.ins vs2;have et:SqT K H' pt _:=SqT.of ept;refine⟨_,rfl,a,dx,fs,rfl,eo,n2,_,rfl,pt,_,_,_,rfl,rfl,et,rfl,_,rfl,pt,_,_,_,rfl,rfl,et,rfl,_,rfl,_,rfl,pt,_,_,_,rfl,rfl,et,rfl,_,st.nd,_,_,_,rfl,rn,λp2 H3 s3 r3=>?_⟩;have f12:=f1.trans (fr.trans (Frm.of s3));exact⟨a,D,s2,_,_,rfl,I.same vs2 s3,h0,r3,gN,λH4 st4 f4 vs4=>⟨_,_,_,h1 st4,rfl,fr.trans ((Frm.of s3).trans f4),vs4⟩,λu x' v1 v2 H4 st4 f4=>h2 u st4 x' v1 v2 H4 (f12.trans f4)⟩
  ·rintro σ H' ⟨s2,n,k11,h,rfl,fr,vs2⟩;rw[List.drop_of_length_le (by rw[List.length_reverse];omega)] at h;exact⟨_,rfl,h _ H' (f1.trans fr) vs2 rfl⟩
theorem zov (I:VI C VR)(D:Dfn K mg "cut" scut ["vault","root","key"]) (zh5:FnX P w K mg base "way_to" 22 ["vault","root","key"] (ze4 VR CN CB CC)) (zga:Fn P w K mg base "ends_at" 1 ["way","key"] (zc6 K)) (zra:FnX P w K mg base "hung" 22 ["vault","way","key","root","more"] (zee VR CN CB CC)) (zsh:FnX P w K mg base "joined" 22 ["vault","left","right","count"] (zdt VR CN CB CC))
  (zD:mg "COUNT" =some (.int 4 t5)) (zae:mg "LEFT" =some (.int 2 t3)) (zM:mg "RIGHT" =some (.int 3 t4)):FnX P w K mg base "cut" 23 ["vault","root","key"] (ziw VR CN CB CC):=by
 refine D.okX (k:=22) (L2.fsN ["vault","root","key","way","own"]) (λf cdv A outer s H vs Q E hr h=>?_);obtain⟨a,D,s,n,x,vx,rfl,vs,rx,dx,h⟩:=h;unfold Out cutP at h;rw[Pg.wp_bind] at h;have ι:=0;refine⟨_,(zc (by ac_rfl)
 (zc (by ac_rfl)
 (zc (setA 4 rfl (zaK zcj (pv 3) (by ac_rfl) (λ_ _=>rfl)))
 (by ac_rfl)))),?_⟩
 refine⟨_,rfl,_,rfl,_,rfl,a,D,s,n,x,vx,rfl,vs,rx,dx,Pg.wp_mono (λns s1 h1 v H1 f1 vs1 rn=>?_) (λ_ _ z=>z) (zmm (by decide) h)⟩;obtain⟨hok,h1⟩:=h1;clear h;obtain⟨pw,ws,rfl,ew,rwy,gd,hl3⟩:=rn;have rx1:=rx.keep (I.tups vs f1);refine⟨_,rfl,_,rfl,pw,ws,ns,x,vx,rfl,SqL.of ew,rwy,gd,rx1,_,rfl,?_⟩;unfold cutK at h1;rcases List.eq_nil_or_concat ns with e | ⟨pre,nd,e⟩
 ·subst e;exact ifT rfl ⟨_,rfl,h1 _ H1 f1 vs1 rfl⟩
 rw[List.concat_eq_append] at e;subst e;have eb:zcw (pre++ [nd]) x=eqT nd.k x:=by unfold zcw;rw[List.getLast?_concat]
 rw[List.getLast?_concat] at h1;have h3:(if nd.k=x then(zhk nd.l nd.r nd.c).bind λm=>zaP x (-1) (pre++ [nd]).dropLast.reverse m else .ret n).wp s1 (OutQ VR a D IntR H Q) (OutE VR CN CB CC a D H E):=h1;rw[eb];by_cases ek:nd.k=x
 ·rw[if_pos ek,Pg.wp_bind,List.dropLast_concat] at h3;rw[zgs ek];refine ifF rfl ?_;have okn:=hok nd (Jf _ List.mem_cons_self);rw[List.map_append] at rwy;obtain⟨us,v,rfl,rus,rnd⟩:=rwy.unsnoc;obtain⟨p,vk,vw',rfl,ea,rk,_⟩:=zq rnd;have et:SqT K H1 p _:=SqT.of ea;refine⟨_,rfl,_,rfl,pw,_,_,_,rfl,rfl,SqL.of ew,zb1,?_⟩;refine⟨_,rfl,_,rfl,_,rfl,_,rfl,pw,_,rfl,SqL.of ew,λpc hpc=>?_⟩;rw[zjJ (n:=us.length) (by simp),List.take_left];have s12:=zh (o:=.lst us) (Same.refl H1) hpc;have ec:upd H1 pc (.lst us) pc=some (.lst us):=za;generalize upd H1 pc (.lst us)=H2 at s12 ec;have vs2:=I.same vs1 s12;have et2:SqT K H2 p _:=SqT.of (s12 _ _ ea);have f2:=f1.trans (Frm.of s12);refine⟨_,rfl,_,rfl,_,rfl,p,_,_,_,rfl,rfl,et2,rfl,_,rfl,p,_,_,_,rfl,rfl,et2,rfl,_,rfl,p,_,_,_,rfl,rfl,et2,rfl,a,D,s1,nd.l,nd.r,nd.c,rfl,vs2,okn.1,okn.2,Pg.wp_mono (λm s3 h4 v H3 f3 vs3 ev=>?_) (OutE.on f2) h3⟩;have ev':v=.int m:=ev;subst ev';have f23:=f2.trans f3;have tk3:=(Same.tups s12).trans (I.tups vs2 f3);exact⟨_,rfl,a,pc,D,s3,us,pre,x,vx,m, -1,rfl,vs3,I.lst vs2 f3 ec,rus.keep tk3,λy hy=>gd y (Jk _ hy),rx1.keep tk3,Pg.wp_mono (OutQ.on f23) (OutE.on f23) h4⟩
 ·rw[if_neg ek] at h3;rw[ziv ek];exact ifT rfl ⟨_,rfl,h3 _ H1 f1 vs1 rfl⟩
end
end Pv
namespace Pv
open PySem L2
theorem Mt.mono {P:Program}{w:World}{K:QA}{mg:QB}{base:Heap}{CX:CXT}{C:Addr}{m:Str}{j k:Nat}{ps:QP}{sp:Sp}(F:Mt P w K mg base CX C m j ps sp)(h:j<=k):Mt P w K mg base CX C m k ps sp:=by obtain⟨f,fd,a,b⟩:=F.ex;exact⟨f,fd,a.mono h,b⟩
theorem NL.tups {H H':Hp}(n:NL H H'):Tups H H':=λb xs e=>n b _ (by intro ys z;cases z) e
theorem VOk.nl {H H':Hp}{C a d:Addr}{kvs:QG}(v:VOk H C a d kvs)(n:NL H H'):VOk H' C a d kvs:=by obtain⟨⟨dx,fs,e,f⟩,e2⟩:=v;exact⟨⟨dx,fs,n _ _ (by intro ys z;cases z) e,f⟩,n _ _ (by intro ys z;cases z) e2⟩
theorem VS.nl {H H':Hp}{C a d:Addr}{cs:QF}(v:VS H C a d cs)(n:NL H H'):VS H' C a d cs:=by obtain⟨kv,vo,dr⟩:=v.vo;exact⟨⟨kv,vo.nl n,dr.keep n.tups⟩,v.gc⟩
theorem zci {a b:QF}{n:Int}:zj (a++b) n=(zj a n).or (zj b n):=by
 induction a with
 | nil=>rfl
 | cons p r ih=>
  obtain⟨k,u⟩:=p;rw[List.cons_append,zL,zL];by_cases h:k=n
  ·rw[if_pos h,if_pos h];rfl
  ·rw[if_neg h,if_neg h];exact ih
theorem Vst.all_own {s:Vst}{n:Int}{t:Th}(h:zj s.own n=some t):zj s.all n=some t:=by unfold Vst.all;rw[zci,h];rfl
theorem Vst.all_kp {s:Vst}{n:Int}(h:zj s.own n=none):zj s.all n=zj s.kp n:=by unfold Vst.all;rw[zci,h];rfl
theorem zkR {s:Vst}{t:Th}(h:s.stop t=none):zj s.all (zl t)=none\/zj s.all (zl t)=some t:=by
 unfold Vst.stop at h;cases z:zj s.all (zl t) with
 | none=>exact .inl rfl
 | some u=>
  rw[z] at h;have h':(if u=t then none else some u)=(none:Option Th):=h;by_cases e:u=t
  ·rw[e];exact .inr rfl
  ·rw[if_neg e] at h';cases h'
theorem zoT {s:Vst}{t:Th}(h:zj s.all (zl t)=none\/zj s.all (zl t)=some t):s.stop t=none:=by
 unfold Vst.stop;rcases h with h | h
 ·rw[h]
 ·rw[h];exact if_pos rfl
theorem zkB {s:Vst}{t u:Th}(h:zj s.all (zl t)=some u)(n:u≠t):s.stop t=some u:=by unfold Vst.stop;rw[h];exact if_neg n
structure VK (C:Addr)(H:Hp)(a:Addr)(D:QO)(s:Vst):Prop where
 vs:∃d,D=[d]/\VS H C a d s.own
 kp:s.kp=[]
 rm:s.own.length+s.n<=1000000
theorem vi_K (C:Addr):VI C (VK C) where
 ins:=λv=>by obtain⟨d,_,vs⟩:=v.vs;obtain⟨kv,⟨⟨dx,fs,e,f⟩,_⟩,_⟩:=vs.vo;exact⟨dx,fs,e,f.n3,f.n2⟩
 dic:=λv b hb=>by obtain⟨d,e,vs⟩:=v.vs;obtain⟨kv,vo,_⟩:=vs.vo;subst e;rw[List.mem_singleton.mp hb];exact⟨kv,vo.di⟩
 nl:=λv n=>by obtain⟨d,e,vs⟩:=v.vs;exact⟨⟨d,e,vs.nl n⟩,v.kp,v.rm⟩
theorem Vst.look_own {s:Vst}{n:Int}{t:Th}(h:zj s.own n=some t):s.look n=some (t,{s with n:=s.n - 1}):=by unfold Vst.look;rw[h]
theorem Vst.look_kp {s:Vst}{n:Int}{t:Th}(h:zj s.own n=none)(k:zj s.kp n=some t):s.look n=some (t,{s with nt:=addT s.nt n t,n:=s.n - 1}):=by unfold Vst.look;rw[h];show(match zj s.kp n with | some t=>_ | none=>_)=_;rw[k]
theorem Vst.look_no {s:Vst}{n:Int}(h:zj s.own n=none)(k:zj s.kp n=none):s.look n=none:=by unfold Vst.look;rw[h];show(match zj s.kp n with | some t=>_ | none=>_)=_;rw[k]
section
variable {P:Program}{w:World}{K:QA}{mg:QB}{base:Heap}{R C CC CN kp dk:Addr}{x:Str}
theorem zoS (M:Mt P w K mg base (CX1 P w) C "thing" 1 ["self","number"] (zel C CN)):Mt P w K mg base (CX1 P w) C "thing" 2 ["self","number"] (zfd (VK C) CN):=Mt.mono (Mt.imp M λvs H Q E h=>by
 obtain⟨a,D,s,n,rfl,vk,h0,q,qe⟩:=h;obtain⟨d,rfl,vs⟩:=id vk.vs;obtain⟨kv,vo,dr⟩:=vs.vo;refine⟨a,d,kv,n,rfl,vo,λv ev=>?_,λev=>?_⟩
 ·obtain⟨t,e1,rv⟩:=dr.back ev;exact q t _ v H (Vst.look_own e1) Frm.refl ⟨⟨d,rfl,vs⟩,vk.kp,by have:=vk.rm;show s.own.length+(s.n - 1)<=1000000;omega⟩ rv (vs.gc.dep e1).1
 ·refine qe H (Vst.look_no ?_ (by rw[vk.kp];rfl)) Frm.refl vk;cases z:zj s.own n with
  | none=>rfl
  | some t=>
   obtain⟨y,ey,_⟩:=dr.some z;rw[ev] at ey;cases ey) (by decide)
theorem zr0 (M:Mt P w K mg base (CX1 P w) C "lay" 14 ["self","thing"] (zlN C CC)):Mt P w K mg base (CX1 P w) C "lay" 14 ["self","thing"] (zdx (VK C) CC):=Mt.imp M λvs H Q E h=>by
 obtain⟨a,D,s,t,v,rfl,vk,h0,rt,gt,q,qe⟩:=h;obtain⟨d,rfl,vs⟩:=id vk.vs;obtain⟨kv,vo,dr⟩:=vs.vo;have rm:=vk.rm;have eall:∀n,zj s.all n=zj s.own n:=λn=>by unfold Vst.all;rw[vk.kp,List.append_nil]
 refine⟨a,d,kv,t,v,rfl,vo,dr.laidOk vs.gc.gd,by rw[dr.len];omega,rt,gt,λH' sm alike=>?_,λt1 v1 H' sm e1 r1 g1 se ne H2 x s2 ex=>?_⟩
 ·have ft:Fits s.own (zl t) t:=by
   cases z:zj s.own (zl t) with
   | none=>exact .inl z
   | some u=>obtain⟨y,ey,ry⟩:=dr.some z;rw[alike u y ey ry] at z;exact .inr z
  have ed':=sm _ _ vo.di;have tk:Tups H (upd H' d (.dK (putK kv (.inl (zl t)) v))):=(Same.tups sm).trans (Tups.upd λxs z=>by rw[ed'] at z;cases z);have fr:Frm [d] H (upd H' d (.dK (putK kv (.inl (zl t)) v))):=λb o n e=>by rw[zf (λz=>n (by rw[z];exact List.mem_singleton.mpr rfl))];exact sm b o e
  obtain⟨⟨dx,fs,eo,fl⟩,ed⟩:=id vo;have hal:=zlv s.own (zl t) t;have had:a∉ [d]:=λz=>zaf eo ed (by intro y;cases y) (List.mem_singleton.mp z);exact q _ (zoT (by rw[eall];exact ft)) fr ⟨⟨d,rfl,⟨⟨_,⟨⟨dx,fs,fr _ _ had eo,fl⟩,za⟩,(dr.keep tk).add (rt.keep tk) ft vs.gc.nd⟩,vs.gc.add gt rfl⟩⟩,vk.kp,by show(addT s.own (zl t) t).length+(s.n - 1)<=1000000;omega⟩
 ·obtain⟨t2,e2,r2⟩:=dr.back e1;have e12:t2=t1:=(r2.keep (Same.tups sm)).uniq r1;subst e12;exact qe t2 x v1 v H2 (zkB (by rw[eall];exact e2) ne) (Frm.of λb o z=>s2 b o (sm b o z)) ((vi_K C).same vk λb o z=>s2 b o (sm b o z)) (r1.keep (Same.tups s2)) (rt.keep ((Same.tups sm).trans (Same.tups s2))) g1 gt ne se ex
end
end Pv
namespace Pv
open PySem L2
open Tr
theorem zb2 {x:Th}:∀{n:Nat} {T:Tr},(down x n T).cnt<=T.cnt
 | 0,_=>Jb _
 | n+1,nil=>zb2 (n:=n) (T:=nil)
 | n+1,node l k w r=>by
  have h:=zb2 (x:=x) (n:=n) (T:=if zb k x=true then r else l);show(down x n (if zb k x=true then r else l)).cnt<=_;rw[zu];by_cases c:zb k x=true
  ·rw[if_pos c] at h ⊢;omega
  ·rw[if_neg c] at h ⊢;omega
theorem zeh {x:Th}:∀{n:Nat} {T:Tr},(∀m,m < n->down x m T≠nil)->(spl x n T).1.cnt+(spl x n T).2.cnt=T.cnt
 | 0,T,_=>rfl
 | n+1,nil,h=>Je rfl (h 0 (Nat.zero_lt_succ _))
 | n+1,node l k w r,h=>by
  have h':∀m,m < n->down x m (if zb k x=true then r else l)≠nil:=λm hm=>h (m+1) (Ju hm);show(if zb k x=true then(node l k w (spl x n r).1,(spl x n r).2) else((spl x n l).1,node (spl x n l).2 k w r)).1.cnt+(if zb k x=true then(node l k w (spl x n r).1,(spl x n r).2) else((spl x n l).1,node (spl x n l).2 k w r)).2.cnt=_;by_cases c:zb k x=true
  ·rw[if_pos c] at h' ⊢;have:=zeh h';show(node l k w (spl x n r).1).cnt+(spl x n r).2.cnt=_;rw[zu,zu];omega
  ·rw[if_neg c] at h' ⊢;have:=zeh h';show(spl x n l).1.cnt+(node (spl x n l).2 k w r).cnt=_;rw[zu,zu];omega
structure Go (A:Th->Prop)(j:Nat)(s s':Vst):Prop where
 kp:s'.kp=s.kp
 al:Sub s.all s'.all
 nt:∀n t,zj s'.nt n=some t->zj s.nt n=some t\/A t
 n:s.n<=s'.n+j
theorem Go.refl {A:Th->Prop}(s:Vst):Go A 0 s s:=⟨rfl,Sub.refl _,λ_ _ h=>.inl h,Jb _⟩
theorem Go.trans {A:Th->Prop}{i j:Nat}{s s' s'':Vst}(g:Go A i s s')(g':Go A j s' s''):Go A (i+j) s s'':=
 ⟨g'.kp.trans g.kp,g.al.trans g'.al,λn t h=>by
  rcases g'.nt n t h with h | h
  ·exact g.nt n t h
  ·exact .inr h,by have:=g.n;have:=g'.n;omega⟩
theorem Go.mono {A:Th->Prop}{i j:Nat}{s s':Vst}(g:Go A i s s')(h:i<=j):Go A j s s':=⟨g.kp,g.al,g.nt,by have:=g.n;omega⟩
theorem zlL {s:Vst}{n:Int}{t:Th}{A:Th->Prop}(h:zj s.all n=some t)(hA:A t)(h0:0 < s.n):∃s',s.look n=some (t,s')/\Go A 1 s s'/\s'.own=s.own:=by
 cases z:zj s.own n with
 | some u=>rw[Vst.all_own z] at h;cases h;exact⟨_,Vst.look_own z,⟨rfl,Sub.refl _,λ_ _ h=>.inl h,by show s.n<=s.n - 1+1;omega⟩,rfl⟩
 | none=>
  rw[Vst.all_kp z] at h;refine⟨_,Vst.look_kp z h,⟨rfl,Sub.refl _,λm u y=>?_,by show s.n<=s.n - 1+1;omega⟩,rfl⟩;rcases zeG y with y | ⟨_,rfl⟩
  ·exact .inl y
  ·exact .inr hA
noncomputable def ndT (l:Tr)(k w:Th)(r:Tr):Nd:=⟨k,w,l.root,r.root,(((l.ps++(k,w)::r.ps).length:Nat):Int)⟩
theorem zqV {l r:Tr}{k w:Th}{m:Int}(kw:KeyT k/\KeyT w)(c3:(node l k w r).cnt<=300)(hm:((node l k w r).cnt:Int) < m):benK m (node l k w r).thing=.ret (ndT l k w r):=by have ok:=(zaS kw.1 kw.2 c3).1;have e:ndOf (node l k w r).thing=some (ndT l k w r):=zjI (nd:=ndT l k w r) (zqT (nd:=ndT l k w r) ok);rw[zcm e,if_pos (show(ndT l k w r).c < m from hm)]
theorem zcK {A:Th->Prop}{l r:Tr}{k w:Th}{m:Int}{s:Vst}{q:Nd->Vst->Prop}{e:Er->Vst->Prop}(tk:TOk s.all (node l k w r))(hm:((node l k w r).cnt:Int) < m)(h0:0 < s.n)(hA:A (node l k w r).thing)(h:∀s',Go A 1 s s'->s'.own=s.own->q (ndT l k w r) s'):(benP (node l k w r).root m).wp s q e:=by
 obtain⟨s',e1,g,eo⟩:=zlL tk.iv.1 hA h0;refine⟨h0,λt s2 z=>?_,λz=>?_⟩
 ·rw[e1] at z;cases z;rw[zqV tk.kw tk.ct hm];exact h _ g eo
 ·rw[e1] at z;cases z
noncomputable def wayN (x:Th):Tr->List Nd
 | nil=>[]
 | node l k w r=>ndT l k w r::(if k=x then[] else if zb k x=true then wayN x r else wayN x l)
theorem zd6 {x:Th}{l r:Tr}{k w:Th}(h:k≠x):wayN x (node l k w r)=ndT l k w r::wayN x ((node l k w r).kid x):=by
 show ndT l k w r::(if k=x then[] else if zb k x=true then wayN x r else wayN x l)=ndT l k w r::wayN x (if zb k x=true then r else l);rw[if_neg h];by_cases c:zb k x=true
 ·rw[if_pos c,if_pos c]
 ·rw[if_neg c,if_neg c]
theorem zje {x:Th}{l r:Tr}{k w:Th}:((node l k w r).kid x).cnt+1<=(node l k w r).cnt:=by have:=zu l k w r;show(if zb k x=true then r else l).cnt+1<=_;split <;> omega
theorem zl4 {x:Th}{l r:Tr}{k w:Th}:kidI (ndT l k w r) x=((node l k w r).kid x).root:=by show(if zb k x=true then r.root else l.root)=(if zb k x=true then r else l).root;split <;> rfl
theorem TOk.go {A:Th->Prop}{j:Nat}{s s':Vst}{T:Tr}(t:TOk s.all T)(g:Go A j s s'):TOk s'.all T:=t.mono g.al
theorem zi0 {A:Th->Prop}{x:Th}{e:Er->Vst->Prop}:∀{T:Tr} {f:Nat} {m:Int} {s:Vst} {q:List Nd->Vst->Prop},TOk s.all T->T.cnt < f->(T.cnt:Int) < m->T.cnt<=s.n->(∀nd∈wayN x T,A nd.th)->(∀s',Go A T.cnt s s'->s'.own=s.own->q (wayN x T) s')->(wayP x f T.root m).wp s q e:=by
 intro T f
 induction f generalizing T with
 | zero=>intro m s q _ h;exact Je h (Nat.not_lt_zero _)
 | succ f ih=>
 intro m s q tk hf hm hn hA h;cases T with
 | nil=>unfold wayP;rw[if_pos (show(Tr.nil).root=0 from rfl)];exact h s (Go.refl s) rfl
 | node l k w r=>
  have kc:=zje (x:=x) (l:=l) (r:=r) (k:=k) (w:=w);unfold wayP;rw[if_neg (λz=>by cases zaY.mp z),Pg.wp_bind];refine zcK (A:=A) tk hm (by omega) (hA _ List.mem_cons_self) λs1 g1 o1=>?_;by_cases ek:k=x
  ·rw[if_pos (show(ndT l k w r).k=x from ek)];have e1:wayN x (node l k w r)=[ndT l k w r]:=by show _::(if k=x then[] else _)=_;rw[if_pos ek]
   rw[e1] at h;exact h s1 (g1.mono (by omega)) o1
  ·rw[if_neg (show¬(ndT l k w r).k=x from ek),Pg.wp_bind,zl4];rw[zd6 ek] at hA h;have gn:=g1.n;refine ih (T:=(node l k w r).kid x) (tk.go g1).kid (by omega) (by show _ < (((l.ps++(k,w)::r.ps).length:Nat):Int);have:(l.ps++(k,w)::r.ps).length=(node l k w r).cnt:=rfl;omega) (by omega) (λnd hnd=>hA nd (Jh _ hnd)) λs2 g2 o2=>?_;exact h s2 ((g1.trans g2).mono (by omega)) (o2.trans o1)
theorem zn6 {s:Vst}{t:Th}(h:s.stop t=none):Sub s.all (s.add t).all/\zj (s.add t).all (zl t)=some t:=by
 have h':=zkR h;have key:zj (s.add t).all (zl t)=some t:=by
  show zj (addT s.own (zl t) t++s.kp) (zl t)=some t;rw[zci];cases z:zj s.own (zl t) with
  | none=>rw[zdW (.inl z)];rfl
  | some u=>
   rw[Vst.all_own z] at h';rcases h' with h' | h'
   ·cases h'
   ·cases h';rw[zdW (.inr z)];rfl
 refine⟨λn u e=>?_,key⟩;show zj (addT s.own (zl t) t++s.kp) n=some u;rw[zci];cases z:zj s.own n with
 | some v=>rw[Vst.all_own z] at e;cases e;rw[zki z];rfl
 | none=>
  rw[Vst.all_kp z] at e;cases y:zj (addT s.own (zl t) t) n with
  | none=>exact e
  | some v=>
   rcases zeG y with y | ⟨rfl,rfl⟩
   ·rw[z] at y;cases y
   ·rw[Vst.all_kp z,e] at h';rcases h' with h' | h'
    ·cases h'
    ·exact h'.symm
theorem zbb {A:Th->Prop}{α:Type}{t:Th}{k:Pg α}{s:Vst}{q:α->Vst->Prop}{e:Er->Vst->Prop}(h0:0 < s.n)(g:Good t)(hc:∀u t s',e (.clash u t) s')(h:∀s',Go A 1 s s'->zj s'.all (zl t)=some t->k.wp s' q e):(Pg.lay t k).wp s q e:=by refine⟨h0,g,λz=>?_,λu _=>hc u t s⟩;obtain⟨a,b⟩:=zn6 z;exact h _ ⟨rfl,a,λ_ _ h=>.inl h,by show s.n<=s.n - 1+1;omega⟩ b
noncomputable def wayT (x:Th):Nat->Tr->List Nd
 | 0,_=>[]
 | _+1,nil=>[]
 | n+1,node l k w r=>ndT l k w r::wayT x n ((node l k w r).kid x)
theorem zbn {x:Th}:∀{T:Tr},wayN x T=wayT x (wl x T) T
 | nil=>rfl
 | node l k w r=>by
  by_cases ek:k=x
  ·have e1:wl x (node l k w r)=1:=by show(if k=x then 1 else _)=1;rw[if_pos ek]
   rw[e1];show _::(if k=x then[] else _)=_;rw[if_pos ek];rfl
  ·have e1:wl x (node l k w r)=wl x ((node l k w r).kid x)+1:=by show(if k=x then 1 else(if zb k x=true then r.wl x else l.wl x)+1)=wl x (if zb k x=true then r else l)+1;rw[if_neg ek];split <;> rfl
   rw[e1,zd6 ek];show _=ndT l k w r::wayT x (wl x ((node l k w r).kid x)) ((node l k w r).kid x);congr 1;show wayN x (if zb k x=true then r else l)=wayT x (wl x (if zb k x=true then r else l)) (if zb k x=true then r else l);by_cases c:zb k x=true
   ·rw[if_pos c];exact zbn
   ·rw[if_neg c];exact zbn
theorem zfB {x:Th}:∀{m n:Nat} {T:Tr},m<=n->(wayT x n T).take m=wayT x m T
 | 0,_,_,_=>by rw[List.take_zero];rfl
 | m+1,0,_,h=>Je h (Nat.not_succ_le_zero m)
 | m+1,n+1,nil,_=>rfl
 | m+1,n+1,node l k w r,h=>congrArg (ndT l k w r:: ·) (zfB (Nat.le_of_succ_le_succ h))
theorem zfV {x:Th}:∀{m n:Nat} {T:Tr},m<=n->(wayT x n T).drop m=wayT x (n - m) (down x m T)
 | 0,n,_,_=>rfl
 | m+1,0,_,h=>Je h (Nat.not_succ_le_zero m)
 | m+1,n+1,nil,h=>by
  have e:wayT x (n+1) nil=[]:=rfl;rw[e,List.drop_nil];have:∀(j i:Nat),wayT x i (down x j nil)=[]:=λj=>by
   induction j with
   | zero=>intro i;cases i <;> rfl
   | succ j ih=>exact ih
  exact(this (m+1) _).symm
 | m+1,n+1,node l k w r,h=>by show(wayT x n ((node l k w r).kid x)).drop m=wayT x (n+1 - (m+1)) (down x m ((node l k w r).kid x));rw[zfV (Nat.le_of_succ_le_succ h),Nat.succ_sub_succ]
theorem zfu {x:Th}{more:Int}:∀{a b:List Nd} {n:Int},zaP x more (a++b) n=(zaP x more a n).bind (zaP x more b)
 | [],_,_=>rfl
 | nd::a,b,n=>by show Pg.lay _ (zaP x more (a++b) _)=Pg.lay _ ((zaP x more a _).bind _);rw[zfu]
theorem zed {A:Th->Prop}{x:Th}{e:Er->Vst->Prop}(hc:∀u t s',e (.clash u t) s'){more:Int}:∀{n:Nat} {T S:Tr} {s:Vst} {q:Int->Vst->Prop},TOk s.all T->S.InV s.all->(∀m,m < n->down x m T≠nil)->T.cnt+S.cnt<=300+(down x n T).cnt->more=(S.cnt:Int) - ((down x n T).cnt:Int)->n<=s.n->
  (∀s',Go A n s s'->(plug x n T S).InV s'.all->q (plug x n T S).root s')->(zaP x more (wayT x n T).reverse S.root).wp s q e
 | 0,T,S,s,q,_,iS,_,_,_,_,h=>h s (Go.refl s) iS
 | n+1,nil,_,_,_,_,_,nn,_,_,_,_=>Je rfl (nn 0 (Nat.zero_lt_succ _))
 | n+1,node l k w r,S,s,q,tk,iS,nn,h3,hm,hn,h=>by
  have kc:=zje (x:=x) (l:=l) (r:=r) (k:=k) (w:=w);show(zaP x more (ndT l k w r::wayT x n ((node l k w r).kid x)).reverse S.root).wp s q e;have hd:down x (n+1) (node l k w r)=down x n ((node l k w r).kid x):=rfl;rw[hd] at h3 hm;rw[List.reverse_cons,zfu,Pg.wp_bind];refine zed (A:=A) hc (n:=n) (T:=(node l k w r).kid x) tk.kid iS (λm hm=>nn (m+1) (Ju hm)) (by omega) hm (by omega) λs1 g1 i1=>?_;have pc:=zey (x:=x) (n:=n) (T:=(node l k w r).kid x) (S:=S) (λm hm=>nn (m+1) (Ju hm));have tk1:=tk.go g1;have gn:=g1.n;have cn:=zu l k w r;generalize hP:plug x n ((node l k w r).kid x) S=Pj at pc i1;have hnew:plug x (n+1) (node l k w r) S=if zb k x=true then node l k w Pj else node Pj k w r:=by
   show(if zb k x=true then node l k w (plug x n r S) else node (plug x n l S) k w r)=_;by_cases c:zb k x=true
   ·have e1:(node l k w r).kid x=r:=if_pos c;rw[e1] at hP;rw[if_pos c,if_pos c,hP]
   ·have e1:(node l k w r).kid x=l:=if_neg c;rw[e1] at hP;rw[if_neg c,if_neg c,hP]
  rw[hnew] at h;have hlen:(l.ps++(k,w)::r.ps).length=(node l k w r).cnt:=rfl;by_cases c:zb k x=true
  ·rw[if_pos c] at h;have e1:(node l k w r).kid x=r:=if_pos c;rw[e1] at pc h3 hm;have cn2:=zu l k w Pj;have et:(zW (ndT l k w r) (zbQ (ndT l k w r).k x) Pj.root ((ndT l k w r).c+more)).th=(node l k w Pj).thing:=by have e3:zbQ (ndT l k w r).k x=3:=if_pos c;rw[e3];show zaz k w l.root Pj.root ((((l.ps++(k,w)::r.ps).length:Nat):Int)+more)=zaz k w l.root Pj.root (((l.ps++(k,w)::Pj.ps).length:Nat):Int);have:(l.ps++(k,w)::Pj.ps).length=(node l k w Pj).cnt:=rfl;rw[show(((l.ps++(k,w)::r.ps).length:Nat):Int)+more=(((l.ps++(k,w)::Pj.ps).length:Nat):Int) by omega]
   show(Pg.lay _ (Pg.ret _)).wp s1 q e;rw[et];refine zbb (A:=A) (by omega) (zaS tk.kw.1 tk.kw.2 (by omega)).2 hc λs2 g2 e2=>?_;exact h s2 ((g1.trans g2).mono (Jb _)) ⟨e2,(tk1.go g2).l.iv,InV.mono g2.al i1⟩
  ·rw[if_neg c] at h;have e1:(node l k w r).kid x=l:=if_neg c;rw[e1] at pc h3 hm;have cn2:=zu Pj k w r;have et:(zW (ndT l k w r) (zbQ (ndT l k w r).k x) Pj.root ((ndT l k w r).c+more)).th=(node Pj k w r).thing:=by have e3:zbQ (ndT l k w r).k x=2:=if_neg c;rw[e3];show zaz k w Pj.root r.root ((((l.ps++(k,w)::r.ps).length:Nat):Int)+more)=zaz k w Pj.root r.root (((Pj.ps++(k,w)::r.ps).length:Nat):Int);have:(Pj.ps++(k,w)::r.ps).length=(node Pj k w r).cnt:=rfl;rw[show(((l.ps++(k,w)::r.ps).length:Nat):Int)+more=(((Pj.ps++(k,w)::r.ps).length:Nat):Int) by omega]
   show(Pg.lay _ (Pg.ret _)).wp s1 q e;rw[et];refine zbb (A:=A) (by omega) (zaS tk.kw.1 tk.kw.2 (by omega)).2 hc λs2 g2 e2=>?_;exact h s2 ((g1.trans g2).mono (Jb _)) ⟨e2,InV.mono g2.al i1,(tk1.go g2).r.iv⟩
noncomputable def zbu (x:Th):List Nd->Int->Int->Int->Int->Pg (Int ×Int ×Int ×Int)
 | [],l,lc,r,rc=>.ret (l,lc,r,rc)
 | nd::t,l,lc,r,rc=>if zb nd.k x=true then .lay (zW nd 3 l (nd.c - rc)).th (zbu x t (zl (zW nd 3 l (nd.c - rc)).th) (nd.c - rc) r rc)
  else .lay (zW nd 2 r (nd.c - lc)).th (zbu x t l lc (zl (zW nd 2 r (nd.c - lc)).th) (nd.c - lc))
theorem ze8 {x:Th}:∀{a:List Nd} {l lc r rc:Int},zdL x a l lc r rc=(zbu x a l lc r rc).bind λy=>.ret (y.1,y.2.2.1)
 | [],_,_,_,_=>rfl
 | nd::a,l,lc,r,rc=>by
  unfold zdL zbu;split
  ·show Pg.lay _ _=Pg.lay _ _;rw[ze8]
  ·show Pg.lay _ _=Pg.lay _ _;rw[ze8]
theorem zhu {x:Th}{nd:Nd}{a:List Nd}{l lc r rc:Int}(h:zb nd.k x=true):zbu x (nd::a) l lc r rc=.lay (zW nd 3 l (nd.c - rc)).th (zbu x a (zl (zW nd 3 l (nd.c - rc)).th) (nd.c - rc) r rc):=if_pos h
theorem zhe {x:Th}{nd:Nd}{a:List Nd}{l lc r rc:Int}(h:¬zb nd.k x=true):zbu x (nd::a) l lc r rc=.lay (zW nd 2 r (nd.c - lc)).th (zbu x a l lc (zl (zW nd 2 r (nd.c - lc)).th) (nd.c - lc)):=if_neg h
theorem zdy {x:Th}:∀{a b:List Nd} {l lc r rc:Int},zbu x (a++b) l lc r rc=(zbu x a l lc r rc).bind λy=>zbu x b y.1 y.2.1 y.2.2.1 y.2.2.2
 | [],_,_,_,_,_=>rfl
 | nd::a,b,l,lc,r,rc=>by
  by_cases c:zb nd.k x=true
  ·rw[List.cons_append,zhu c,zhu c,zdy];rfl
  ·rw[List.cons_append,zhe c,zhe c,zdy];rfl
theorem zjk {A:Th->Prop}{x:Th}{e:Er->Vst->Prop}(hc:∀u t s',e (.clash u t) s'):∀{n:Nat} {T:Tr} {s:Vst} {q:Int ×Int ×Int ×Int->Vst->Prop},TOk s.all T->(∀m,m < n->down x m T≠nil)->n<=s.n->
  (∀s',Go A n s s'->(spl x n T).1.InV s'.all->(spl x n T).2.InV s'.all->q ((spl x n T).1.root,((spl x n T).1.cnt:Int),(spl x n T).2.root,((spl x n T).2.cnt:Int)) s')->(zbu x (wayT x n T).reverse (down x n T).root ((down x n T).cnt:Int) 0 0).wp s q e
 | 0,T,s,q,tk,_,_,h=>h s (Go.refl s) tk.iv trivial
 | n+1,nil,_,_,_,nn,_,_=>Je rfl (nn 0 (Nat.zero_lt_succ _))
 | n+1,node l k w r,s,q,tk,nn,hn,h=>by
  have hd:down x (n+1) (node l k w r)=down x n ((node l k w r).kid x):=rfl;rw[hd];show(zbu x (ndT l k w r::wayT x n ((node l k w r).kid x)).reverse _ _ 0 0).wp s q e;rw[List.reverse_cons,zdy,Pg.wp_bind];have sc:=zeh (x:=x) (n:=n) (T:=(node l k w r).kid x) (λm hm=>nn (m+1) (Ju hm));refine zjk (A:=A) hc (n:=n) (T:=(node l k w r).kid x) tk.kid (λm hm=>nn (m+1) (Ju hm)) (by omega) λs1 g1 i1 i2=>?_;have tk1:=tk.go g1;have gn:=g1.n;have cn:=zu l k w r;have ct:=tk.ct;have hlen:(l.ps++(k,w)::r.ps).length=(node l k w r).cnt:=rfl;have hnew:spl x (n+1) (node l k w r)=if zb k x=true then(node l k w (spl x n ((node l k w r).kid x)).1,(spl x n ((node l k w r).kid x)).2) else((spl x n ((node l k w r).kid x)).1,node (spl x n ((node l k w r).kid x)).2 k w r):=by
   show(if zb k x=true then(node l k w (spl x n r).1,(spl x n r).2) else((spl x n l).1,node (spl x n l).2 k w r))=_;by_cases c:zb k x=true
   ·have e1:(node l k w r).kid x=r:=if_pos c;rw[e1,if_pos c,if_pos c]
   ·have e1:(node l k w r).kid x=l:=if_neg c;rw[e1,if_neg c,if_neg c]
  rw[hnew] at h;generalize(spl x n ((node l k w r).kid x)).1=L at sc i1 h ⊢;generalize(spl x n ((node l k w r).kid x)).2=R at sc i2 h ⊢;show(if zb k x=true then Pg.lay (zW (ndT l k w r) 3 L.root ((ndT l k w r).c - (R.cnt:Int))).th (Pg.ret (_,_,R.root,(R.cnt:Int))) else Pg.lay (zW (ndT l k w r) 2 R.root ((ndT l k w r).c - (L.cnt:Int))).th (Pg.ret (L.root,(L.cnt:Int),_,_))).wp s1 q e;by_cases c:zb k x=true
  ·rw[if_pos c] at h ⊢;have e1:(node l k w r).kid x=r:=if_pos c;rw[e1] at sc;have cn2:=zu l k w L;have hl2:(l.ps++(k,w)::L.ps).length=(node l k w L).cnt:=rfl;have ec:(ndT l k w r).c - (R.cnt:Int)=((node l k w L).cnt:Int):=by show(((l.ps++(k,w)::r.ps).length:Nat):Int) - _=_;omega
   rw[ec];have et:(zW (ndT l k w r) 3 L.root ((node l k w L).cnt:Int)).th=(node l k w L).thing:=rfl;rw[et];refine zbb (A:=A) (by omega) (zaS tk.kw.1 tk.kw.2 (by omega)).2 hc λs2 g2 e2=>?_;exact h s2 (g1.trans g2) ⟨e2,(tk1.go g2).l.iv,InV.mono g2.al i1⟩ (InV.mono g2.al i2)
  ·rw[if_neg c] at h ⊢;have e1:(node l k w r).kid x=l:=if_neg c;rw[e1] at sc;have cn2:=zu R k w r;have hl2:(R.ps++(k,w)::r.ps).length=(node R k w r).cnt:=rfl;have ec:(ndT l k w r).c - (L.cnt:Int)=((node R k w r).cnt:Int):=by show(((l.ps++(k,w)::r.ps).length:Nat):Int) - _=_;omega
   rw[ec];have et:(zW (ndT l k w r) 2 R.root ((node R k w r).cnt:Int)).th=(node R k w r).thing:=rfl;rw[et];refine zbb (A:=A) (by omega) (zaS tk.kw.1 tk.kw.2 (by omega)).2 hc λs2 g2 e2=>?_;exact h s2 (g1.trans g2) (InV.mono g2.al i1) ⟨e2,InV.mono g2.al i2,(tk1.go g2).r.iv⟩
end Pv
namespace Pv
open PySem L2
open Tr
theorem zdi {x:Th}:∀{n:Nat} {T l r:Tr} {k w:Th},down x n T=node l k w r->(∀m,m < n->down x m T≠nil)->wayT x (n+1) T=wayT x n T++ [ndT l k w r]
 | 0,node l' k' w' r',l,r,k,w,e,_=>by cases e;rfl
 | 0,nil,_,_,_,_,e,_=>by cases e
 | n+1,nil,_,_,_,_,_,h=>Je rfl (h 0 (Nat.zero_lt_succ _))
 | n+1,node l' k' w' r',l,r,k,w,e,h=>congrArg (ndT l' k' w' r':: ·) (zdi (n:=n) (T:=(node l' k' w' r').kid x) e λm hm=>h (m+1) (Ju hm))
theorem zcU {x:Th}:∀{T:Tr},own x T=nil->∀nd∈wayN x T,nd.k≠x
 | nil,_,nd,h=>by cases h
 | node l k w r,h,nd,hn=>by
  unfold own at h;by_cases e:k=x
  ·rw[if_pos e] at h;cases h
  ·rw[if_neg e] at h;have hn':nd∈ndT l k w r::(if k=x then[] else if zb k x=true then wayN x r else wayN x l):=hn;rw[if_neg e] at hn';rcases List.mem_cons.mp hn' with rfl | hn'
   ·exact e
   ·by_cases c:zb k x=true
    ·rw[if_pos c] at h hn';exact zcU h nd hn'
    ·rw[if_neg c] at h hn';exact zcU h nd hn'
theorem zdl {x:Th}:∀{T:Tr},own x T=nil->zaq x (wayN x T)=plc x T
 | nil,_=>rfl
 | node l k w r,h=>by
  unfold own at h;by_cases e:k=x
  ·rw[if_pos e] at h;cases h
  ·rw[if_neg e] at h;show(if zac x k=true then 0 else zaq x (if k=x then[] else if zb k x=true then wayN x r else wayN x l)+1)=(if zac x k=true then 0 else(if zb k x=true then r.plc x else l.plc x)+1);rw[if_neg e];by_cases c:zb k x=true
   ·rw[if_pos c] at h;rw[if_pos c,if_pos c,zdl h]
   ·rw[if_neg c] at h;rw[if_neg c,if_neg c,zdl h]
theorem znh {x:Th}:∀{n i:Nat} {T:Tr},i<=n->(∀m,m < n->down x m T≠nil)->down x n T=nil->zcO (wayT x n T) i=((down x i T).cnt:Int)
 | 0,0,T,_,_,e=>by have e':T=nil:=e;subst e';rfl
 | 0,i+1,_,h,_,_=>Je h (Nat.not_succ_le_zero i)
 | n+1,_,nil,_,h,_=>Je rfl (h 0 (Nat.zero_lt_succ _))
 | n+1,0,node l k w r,_,_,_=>rfl
 | n+1,i+1,node l k w r,hi,h,e=>znh (n:=n) (i:=i) (T:=(node l k w r).kid x) (Nat.le_of_succ_le_succ hi) (λm hm=>h (m+1) (Ju hm)) e
theorem zqd {A:Th->Prop}{x wo:Th}{e:Er->Vst->Prop}(hc:∀u t s',e (.clash u t) s'){T:Tr}{s:Vst}{q:Int->Vst->Prop}(tk:TOk s.all T)(c9:T.cnt<=299)(kx:KeyT x)(kw:KeyT wo)(hn:1000<=s.n)(hA:∀nd∈wayN x T,A nd.th)(h:∀s',Go A 1000 s s'->(putT x wo T).InV s'.all->q (putT x wo T).root s'):(putP T.root x wo).wp s q e:=by
 unfold putP;rw[Pg.wp_bind];refine zi0 (A:=A) tk (by omega) (by omega) (by omega) hA λs1 g1 _=>?_;have tk1:=tk.go g1;have gn:=g1.n;have hwl:=zjn (x:=x) T;cases z:own x T with
 | node l k w r=>
  obtain⟨rfl,n,ewl,up,ed⟩:=zbp z;have ew:wayN k T=wayT k n T++ [ndT l k w r]:=by rw[zbn,ewl,zdi ed (up_down up)]
  have ek:zc1 k wo (wayN k T)=putO k wo (wayN k T) (ndT l k w r):=by unfold zc1;rw[ew,List.getLast?_concat];exact if_pos rfl
  rw[ek];unfold putO;rw[ew,List.dropLast_concat];have hlen:(l.ps++(k,w)::r.ps).length=(l.ps++(k,wo)::r.ps).length:=by simp
  have et:(Nd.mk k wo (ndT l k w r).l (ndT l k w r).r (ndT l k w r).c).th=(node l k wo r).thing:=by show zaz k wo l.root r.root (((l.ps++(k,w)::r.ps).length:Nat):Int)=zaz k wo l.root r.root (((l.ps++(k,wo)::r.ps).length:Nat):Int);rw[hlen]
  rw[et];have hcn:(node l k wo r).cnt=(node l k w r).cnt:=by rw[zu,zu]
  have hdc:(node l k w r).cnt<=T.cnt:=by rw[<-ed];exact zb2
  have td:=tk1.down (x:=k) (n:=n);rw[ed] at td;refine zbb (A:=A) (by omega) (zaS kx kw (by omega)).2 hc λs2 g2 e2=>?_;have gn2:=g2.n;have ep:putT k wo T=plug k n T (node l k wo r):=by unfold putT;rw[z,ewl,Nat.add_sub_cancel]
  rw[ep] at h;exact zed (A:=A) hc (S:=node l k wo r) (tk1.go g2) ⟨e2,(td.go g2).l.iv,(td.go g2).r.iv⟩ (up_down up) (by rw[ed,hcn];omega) (by rw[ed,hcn];omega) (by omega) λs3 g3 i3=>h s3 ((g1.trans (g2.trans g3)).mono (by omega)) i3
 | nil=>
  obtain⟨up,dn⟩:=zc3 z;have hpl:=zgM z;have ek:zc1 x wo (wayN x T)=putN x wo (wayN x T):=by
   unfold zc1;cases y:(wayN x T).getLast? with
   | none=>rfl
   | some nd=>exact if_neg (zcU z nd (List.mem_of_getLast? y))
  rw[ek];unfold putN;rw[zdl z,ze8];generalize hp:plc x T=pl at hpl;have hdn:down x (wl x T - pl) (down x pl T)=nil:=by rw[<-zeB,show pl+(wl x T - pl)=wl x T by omega];exact dn
  have hnn:∀m,m < wl x T - pl->down x m (down x pl T)≠nil:=λm hm=>by rw[<-zeB];exact up_down up _ (by omega)
  have ecn:zcO (wayN x T) pl=((down x pl T).cnt:Int):=by rw[zbn];exact znh hpl (up_down up) dn
  rw[ecn,zbn,zfV hpl,zfB hpl,Pg.wp_bind,Pg.wp_bind];have hdc:(down x pl T).cnt<=T.cnt:=zb2;have hsc:=zeh hnn;have key:=zjk (A:=A) (x:=x) (e:=e) hc (n:=wl x T - pl) (T:=down x pl T) (s:=s1) (q:=λy s'=>(Pg.ret (y.1,y.2.2.1)).wp s' (λlr s'=>(Pg.lay (Nd.mk x wo lr.1 lr.2 (((down x pl T).cnt:Int)+1)).th (zaP x 1 (wayT x pl T).reverse (zl (Nd.mk x wo lr.1 lr.2 (((down x pl T).cnt:Int)+1)).th))).wp s' q e) e) tk1.down hnn (by omega);rw[hdn] at key;refine key λs2 g2 i1 i2=>?_;clear key;have gn2:=g2.n;have hpq:putT x wo T=plug x pl T (node (spl x (wl x T - pl) (down x pl T)).1 x wo (spl x (wl x T - pl) (down x pl T)).2):=by unfold putT;rw[z,hp]
  rw[hpq] at h;generalize(spl x (wl x T - pl) (down x pl T)).1=L at i1 hsc h ⊢;generalize(spl x (wl x T - pl) (down x pl T)).2=R at i2 hsc h ⊢;have hcn:=zu L x wo R;have et:(Nd.mk x wo L.root R.root (((down x pl T).cnt:Int)+1)).th=(node L x wo R).thing:=by show zaz x wo L.root R.root (((down x pl T).cnt:Int)+1)=zaz x wo L.root R.root (((L.ps++(x,wo)::R.ps).length:Nat):Int);have:(L.ps++(x,wo)::R.ps).length=(node L x wo R).cnt:=rfl;rw[show((down x pl T).cnt:Int)+1=(((L.ps++(x,wo)::R.ps).length:Nat):Int) by omega]
  show(Pg.lay (Nd.mk x wo L.root R.root (((down x pl T).cnt:Int)+1)).th (zaP x 1 (wayT x pl T).reverse (zl (Nd.mk x wo L.root R.root (((down x pl T).cnt:Int)+1)).th))).wp s2 q e;rw[et];refine zbb (A:=A) (by omega) (zaS kx kw (by omega)).2 hc λs3 g3 e3=>?_;have gn3:=g3.n;exact zed (A:=A) hc (S:=node L x wo R) ((tk1.go g2).go g3) ⟨e3,InV.mono g3.al i1,InV.mono g3.al i2⟩ (up_down (zgg up hpl)) (by omega) (by omega) (by omega) λs4 g4 i4=>h s4 ((g1.trans (g2.trans (g3.trans g4))).mono (by omega)) i4
noncomputable def znq:Tr->List Nd
 | nil=>[]
 | node l k w r=>ndT l k w r::znq r
noncomputable def znc:Tr->List Nd
 | nil=>[]
 | node l k w r=>ndT l k w r::znc l
theorem zgH:∀{a b:List Js} {n:Int},upP (a++b) n=(upP a n).bind (upP b)
 | [],_,_=>rfl
 | j::a,b,n=>by show Pg.lay _ (upP (a++b) _)=Pg.lay _ ((upP a _).bind _);rw[zgH]
theorem zeH (L R:Tr):(joinT L R).cnt=L.cnt+R.cnt:=by unfold Tr.cnt;rw[zd1,List.length_append]
theorem zoH {A:Th->Prop}{e:Er->Vst->Prop}(hc:∀u t s',e (.clash u t) s'){f:Nat}:∀{L R:Tr} {lc rc:Int} {s:Vst} {q:Int->Vst->Prop},TOk s.all L->TOk s.all R->(L.cnt:Int) < lc->(R.cnt:Int) < rc->L.cnt+R.cnt<=300->L.cnt+R.cnt < f->3 * (L.cnt+R.cnt)<=s.n->(∀nd∈znq L,A nd.th)->(∀nd∈znc R,A nd.th)->
  (∀s',Go A (3 * (L.cnt+R.cnt)) s s'->(joinT L R).InV s'.all->q (joinT L R).root s')->(joinR f L.root lc R.root rc).wp s (λy s'=>(upP y.1.reverse y.2).wp s' q e) e:=by
 induction f with
 | zero=>intro L R _ _ _ _ _ _ _ _ _ h;exact Je h (Nat.not_lt_zero _)
 | succ f ih=>
  intro L R lc rc s q tl tr hl hr h3 hf hn hA hB h;cases L with
  | nil=>
   unfold joinR;rw[if_pos (show(Tr.nil).root=0 from rfl)];have ej:joinT nil R=R:=by rw[joinT]
   rw[ej] at h;exact h s ((Go.refl s).mono (Nat.zero_le _)) tr.iv
  | node l k w r=>
   cases R with
   | nil=>unfold joinR;rw[if_neg (λz=>by cases zaY.mp z),if_pos (show(Tr.nil).root=0 from rfl)];rw[zkW] at h;exact h s ((Go.refl s).mono (Nat.zero_le _)) tl.iv
   | node l' k' w' r'=>
    have c1:=zu l k w r;have c2:=zu l' k' w' r';unfold joinR;rw[if_neg (λz=>by cases zaY.mp z),if_neg (λz=>by cases zaY.mp z),Pg.wp_bind];refine zcK (A:=A) tl hl (by omega) (hA _ List.mem_cons_self) λs1 g1 _=>?_;have n1:=g1.n;rw[Pg.wp_bind];refine zcK (A:=A) (tr.go g1) hr (by omega) (hB _ List.mem_cons_self) λs2 g2 _=>?_;have n2:=g2.n;have g12:=g1.trans g2;have tl2:=tl.go g12;have tr2:=tr.go g12;have hb:(ndT l k w r).c+(ndT l' k' w' r').c=(((node l k w r).cnt+(node l' k' w' r').cnt:Nat):Int):=by show(((l.ps++(k,w)::r.ps).length:Nat):Int)+(((l'.ps++(k',w')::r'.ps).length:Nat):Int)=_;have:(l.ps++(k,w)::r.ps).length=(node l k w r).cnt:=rfl;have:(l'.ps++(k',w')::r'.ps).length=(node l' k' w' r').cnt:=rfl;omega
    by_cases c:zac k k'=true
    ·rw[if_pos (show zac (ndT l k w r).k (ndT l' k' w' r').k=true from c),Pg.wp_bind];have ej:joinT (node l k w r) (node l' k' w' r')=node l k w (joinT r (node l' k' w' r')):=by rw[joinT,if_pos c]
     rw[ej] at h;have jc:=zeH r (node l' k' w' r');have cn:=zu l k w (joinT r (node l' k' w' r'));have key:=ih (L:=r) (R:=node l' k' w' r') (lc:=(ndT l k w r).c) (rc:=rc) (s:=s2) (q:=λn s'=>(upP [⟨ndT l k w r,3,(ndT l k w r).c+(ndT l' k' w' r').c⟩] n).wp s' q e) tl2.r tr2
      (by show(r.cnt:Int) < (((l.ps++(k,w)::r.ps).length:Nat):Int);have:(l.ps++(k,w)::r.ps).length=(node l k w r).cnt:=rfl;omega) hr (by omega) (by omega) (by omega) (λnd hd=>hA nd (Jh _ hd)) hB
     refine Pg.wp_mono (λy s' z=>?_) (λ_ _ z=>z) (key λs3 g3 i3=>?_)
     ·show(upP (_::y.1).reverse y.2).wp s' q e;rw[List.reverse_cons,zgH,Pg.wp_bind];exact z
     ·have n3:=g3.n;show(Pg.lay (zW (ndT l k w r) 3 (joinT r (node l' k' w' r')).root ((ndT l k w r).c+(ndT l' k' w' r').c)).th (Pg.ret _)).wp s3 q e;have et:(zW (ndT l k w r) 3 (joinT r (node l' k' w' r')).root ((ndT l k w r).c+(ndT l' k' w' r').c)).th=(node l k w (joinT r (node l' k' w' r'))).thing:=by
       rw[hb];show zaz k w l.root _ (((node l k w r).cnt+(node l' k' w' r').cnt:Nat):Int)=zaz k w l.root _ (((l.ps++(k,w)::(joinT r (node l' k' w' r')).ps).length:Nat):Int);have:(l.ps++(k,w)::(joinT r (node l' k' w' r')).ps).length=(node l k w (joinT r (node l' k' w' r'))).cnt:=rfl;rw[show(node l k w r).cnt+(node l' k' w' r').cnt=(l.ps++(k,w)::(joinT r (node l' k' w' r')).ps).length by omega]
       rfl
      rw[et];refine zbb (A:=A) (by omega) (zaS tl.kw.1 tl.kw.2 (by omega)).2 hc λs4 g4 e4=>?_;exact h s4 ((g12.trans (g3.trans g4)).mono (by omega)) ⟨e4,((tl2.go g3).go g4).l.iv,InV.mono g4.al i3⟩
    ·rw[if_neg (show¬zac (ndT l k w r).k (ndT l' k' w' r').k=true from c),Pg.wp_bind];have ej:joinT (node l k w r) (node l' k' w' r')=node (joinT (node l k w r) l') k' w' r':=by rw[joinT,if_neg c]
     rw[ej] at h;have jc:=zeH (node l k w r) l';have cn:=zu (joinT (node l k w r) l') k' w' r';have key:=ih (L:=node l k w r) (R:=l') (lc:=lc) (rc:=(ndT l' k' w' r').c) (s:=s2) (q:=λn s'=>(upP [⟨ndT l' k' w' r',2,(ndT l k w r).c+(ndT l' k' w' r').c⟩] n).wp s' q e) tl2 tr2.l hl
      (by show(l'.cnt:Int) < (((l'.ps++(k',w')::r'.ps).length:Nat):Int);have:(l'.ps++(k',w')::r'.ps).length=(node l' k' w' r').cnt:=rfl;omega) (by omega) (by omega) (by omega) hA (λnd hd=>hB nd (Jh _ hd))
     refine Pg.wp_mono (λy s' z=>?_) (λ_ _ z=>z) (key λs3 g3 i3=>?_)
     ·show(upP (_::y.1).reverse y.2).wp s' q e;rw[List.reverse_cons,zgH,Pg.wp_bind];exact z
     ·have n3:=g3.n;show(Pg.lay (zW (ndT l' k' w' r') 2 (joinT (node l k w r) l').root ((ndT l k w r).c+(ndT l' k' w' r').c)).th (Pg.ret _)).wp s3 q e;have et:(zW (ndT l' k' w' r') 2 (joinT (node l k w r) l').root ((ndT l k w r).c+(ndT l' k' w' r').c)).th=(node (joinT (node l k w r) l') k' w' r').thing:=by
       rw[hb];show zaz k' w' _ r'.root (((node l k w r).cnt+(node l' k' w' r').cnt:Nat):Int)=zaz k' w' _ r'.root ((((joinT (node l k w r) l').ps++(k',w')::r'.ps).length:Nat):Int);have:((joinT (node l k w r) l').ps++(k',w')::r'.ps).length=(node (joinT (node l k w r) l') k' w' r').cnt:=rfl;rw[show(node l k w r).cnt+(node l' k' w' r').cnt=((joinT (node l k w r) l').ps++(k',w')::r'.ps).length by omega]
       rfl
      rw[et];refine zbb (A:=A) (by omega) (zaS tr.kw.1 tr.kw.2 (by omega)).2 hc λs4 g4 e4=>?_;exact h s4 ((g12.trans (g3.trans g4)).mono (by omega)) ⟨e4,InV.mono g4.al i3,((tr2.go g3).go g4).r.iv⟩
noncomputable def gapN (x:Th)(T:Tr):List Nd:=match own x T with
 | nil=>[]
 | node l _ _ r=>znq l++znc r
theorem zp1 {A:Th->Prop}{x:Th}{e:Er->Vst->Prop}(hc:∀u t s',e (.clash u t) s'){T:Tr}{s:Vst}{q:Int->Vst->Prop}(tk:TOk s.all T)(hn:3000<=s.n)(hA:∀nd∈wayN x T,A nd.th)(hB:∀nd∈gapN x T,A nd.th)(h:∀s',Go A 3000 s s'->(cutT x T).InV s'.all->q (cutT x T).root s'):(cutP T.root x).wp s q e:=by
 have ct:=tk.ct;unfold cutP;rw[Pg.wp_bind];refine zi0 (A:=A) tk (by omega) (by omega) (by omega) hA λs1 g1 _=>?_;have tk1:=tk.go g1;have gn:=g1.n;have hwl:=zjn (x:=x) T;unfold gapN at hB;unfold cutK;cases z:own x T with
 | node l k w r=>
  rw[z] at hB;obtain⟨rfl,n,ewl,up,ed⟩:=zbp z;have ew:wayN k T=wayT k n T++ [ndT l k w r]:=by rw[zbn,ewl,zdi ed (up_down up)]
  rw[ew,List.getLast?_concat];have ep:cutT k T=plug k n T (joinT l r):=by unfold cutT;rw[z,ewl,Nat.add_sub_cancel]
  rw[ep] at h;have hdc:(node l k w r).cnt<=T.cnt:=by rw[<-ed];exact zb2
  have td:=tk1.down (x:=k) (n:=n);rw[ed] at td;have cn:=zu l k w r;have jc:=zeH l r;have hlen:(l.ps++(k,w)::r.ps).length=(node l k w r).cnt:=rfl;show(if (ndT l k w r).k=k then _ else _:Pg Int).wp s1 q e;rw[if_pos (show(ndT l k w r).k=k from rfl),Pg.wp_bind];unfold zhk;rw[Pg.wp_bind,List.dropLast_concat];have dc:((ndT l k w r).c)=((node l k w r).cnt:Int):=rfl;rw[dc];refine zoH (A:=A) hc (L:=l) (R:=r) td.l td.r (by omega) (by omega) (by omega) (by omega) (by omega) (λnd hd=>hB nd (Jk _ hd)) (λnd hd=>hB nd (Jf _ hd)) λs2 g2 i2=>?_;have gn2:=g2.n;exact zed (A:=A) hc (S:=joinT l r) (tk1.go g2) i2 (up_down up) (by rw[ed];omega) (by rw[ed];omega) (by omega) λs3 g3 i3=>h s3 ((g1.trans (g2.trans g3)).mono (by omega)) i3
 | nil=>
  have ep:cutT x T=T:=by unfold cutT;rw[z]
  rw[ep] at h;cases y:(wayN x T).getLast? with
  | none=>exact h s1 (g1.mono (by omega)) tk1.iv
  | some nd=>show(if nd.k=x then _ else _:Pg Int).wp s1 q e;rw[if_neg (zcU z nd (List.mem_of_getLast? y))];exact h s1 (g1.mono (by omega)) tk1.iv
end Pv
namespace Pv
open PySem L2
noncomputable abbrev zfN:Stmt:=top 50
noncomputable abbrev zeA (p:Th ×Th):Th:=.tup [p.1,p.2]
inductive ze6 (vs:QQ) (H:Hp) (Q:L2.VK) (_E:XK):Prop
 | mk (a b:Th) (va vb:V) (_:vs=[va,vb]) (_:Rep H a va) (_:Rep H b vb) (_:dep a<=8) (_:∀H',Same H H'->Q (.bl (zeF a b)) H'):ze6 vs H Q _E
section
variable {P:Program}{w:World}{K:QA}{mg:QB}{base:Heap}{VR:VRT}{C CC CN CB:Addr}{x:Str}{t1 t2 t3 t4 t5 t6 t7:Tok}
theorem zk1 (D:Dfn K mg "is_empty" zfN ["low","high"]) (zco:Fn P w K mg base "ahead" 20 ["one","other"] (zaV 9)):Fn P w K mg base "is_empty" 21 ["low","high"] ze6:=by
 refine D.ok (k:=20) (L2.fsN ["low","high"]) (λf cdv A outer s H vs Q E hr h=>?_);obtain⟨a,b,va,vb,rfl,ra,rb,hd,q⟩:=h;refine⟨_,(by ac_rfl),?_⟩;have e1:=zbe ra;have e2:=zbe rb;refine⟨_,rfl,rfl,_,rfl,?_⟩;rw[e1];unfold zeF at q;cases z:decide (a=.non) with
 | true=>rw[z] at q;exact ifF rfl (q H (Same.refl H))
 | false=>
  rw[z] at q;refine ifT rfl ⟨_,rfl,rfl,_,rfl,?_⟩;rw[e2];cases y:decide (b=.non) with
  | true=>rw[y] at q;exact ifF rfl (q H (Same.refl H))
  | false=>rw[y] at q;refine ifT rfl ⟨_,rfl,_,rfl,a,b,_,_,rfl,ra,rb,by omega,by omega,λH1 s1=>⟨_,rfl,q H1 s1⟩⟩
end
end Pv
namespace Pv
open PySem L2
noncomputable abbrev zeU:Stmt:=top 51
noncomputable abbrev zdX:Stmt:=top 52
noncomputable abbrev zdK:Stmt:=top 53
noncomputable abbrev zhw:Stmt:=top 54
noncomputable def inB (lo hi:Th)(nd:Nd):Bool:=zbx hi nd.k && (decide (lo=.non) || !zb nd.k lo)
noncomputable def strL (lo hi:Th):Nat->Int->Int->List Nd->List (Th ×Th)->Pg (List (Th ×Th))
 | 0,_,_,_,_=>.bad
 | f+1,n,c,st,ps=>if n=0 then(match st with
   | []=>.ret ps
   | nd::st'=>strL lo hi f (if zbx hi nd.k=true then nd.r else 0) nd.c st' (if inB lo hi nd=true then ps++ [(nd.k,nd.w)] else ps))
  else(benP n c).bind λnd=>(if (zby lo nd.k && zbx hi nd.k)=true then sumP nd else .ret ()).bind λ_=>strL lo hi f (if zby lo nd.k=true then nd.l else 0) nd.c (nd::st) ps
noncomputable def strP (n:Int)(lo hi:Th):Pg (List (Th ×Th)):=if zeF lo hi=true then .ret [] else strL lo hi 700 n 301 [] []
noncomputable def zq5 (H:Hp)(ps:QH)(v:V):Prop:=∃pp xs,v=.ref pp/\H pp=some (.lst xs)/\RepL H (ps.map zeA) xs/\ps.length<=700
noncomputable def zcC (H0 H:Hp)(ps:QH)(v:V):Prop:=zq5 H ps v/\∀pp,v=.ref pp->H0 pp=none
noncomputable def cntA (al:QF)(n:Int):Nat:=if n=0 then 0 else match zj al n with
 | none=>0
 | some t=>match ndOf t with
  | none=>0
  | some nd=>nd.c.toNat
noncomputable def wgt (al:QF)(n c:Int):Nat:=2 * min (cntA al n) (c.toNat - 1)
noncomputable def stkW (al:QF)(hi:Th):List Nd->Nat
 | []=>0
 | nd::st=>1+(if zbx hi nd.k=true then wgt al nd.r nd.c else 0)+stkW al hi st
theorem zkC {s s':Vst}{n:Int}{t:Th}(h:s.look n=some (t,s')):zj s.all n=some t/\s'.own=s.own/\s'.kp=s.kp:=by
 cases z:zj s.own n with
 | some u=>rw[Vst.look_own z] at h;cases h;exact⟨Vst.all_own z,rfl,rfl⟩
 | none=>
  cases y:zj s.kp n with
  | some u=>rw[Vst.look_kp z y] at h;cases h;exact⟨by rw[Vst.all_kp z];exact y,rfl,rfl⟩
  | none=>rw[Vst.look_no z y] at h;cases h
theorem zof {al:QF}{n:Int}{nd:Nd}{t:Th}(h0:n≠0)(h:zj al n=some t)(e:ndOf t=some nd):cntA al n=nd.c.toNat:=by unfold cntA;rw[if_neg h0,h];show(match ndOf t with | none=>0 | some nd=>nd.c.toNat)=_;rw[e]
theorem zhP {n m:Int}{s:Vst}{q:Nd->Vst->Prop}{e:Er->Vst->Prop}(h0:n≠0)(h:(benP n m).wp s q e):(benP n m).wp s (λnd s'=>(cntA s.all n=nd.c.toNat/\1<=nd.c/\nd.c < m)/\(s'.own=s.own/\s'.kp=s.kp)/\q nd s') e:=by
 refine⟨h.1,λt s' z=>?_,h.2.2⟩;have h1:=h.2.1 t s' z;obtain⟨a,b⟩:=zkC z;cases y:ndOf t with
 | none=>rw[zdo y] at h1 ⊢;exact h1
 | some nd=>
  rw[zcm y] at h1 ⊢;obtain⟨rfl,zz⟩:=zdr y;by_cases hc:nd.c < m
  ·rw[if_pos hc] at h1 ⊢;exact⟨⟨zof h0 a y,(zlG zz).c1,hc⟩,b,h1⟩
  ·rw[if_neg hc] at h1 ⊢;exact h1
theorem zfD {n m:Int}{s:Vst}{q:Int->Vst->Prop}{e:Er->Vst->Prop}(h:(zcr n m).wp s q e):(zcr n m).wp s (λx s'=>x=(cntA s.all n:Int)/\(s'.own=s.own/\s'.kp=s.kp)/\q x s') e:=by
 unfold zcr at h ⊢;by_cases h0:n=0
 ·rw[if_pos h0] at h ⊢;have e0:cntA s.all n=0:=by unfold cntA;rw[if_pos h0]
  exact⟨by rw[e0];rfl,⟨rfl,rfl⟩,h⟩
 ·rw[if_neg h0,Pg.wp_bind] at h ⊢;refine Pg.wp_mono (λnd s' z=>?_) (λ_ _ z=>z) (zhP h0 h);obtain⟨⟨z1,z2,_⟩,z4,z5⟩:=z;exact⟨by omega,z4,z5⟩
theorem zmv {nd:Nd}{s:Vst}{q:Unit->Vst->Prop}{e:Er->Vst->Prop}(h:(sumP nd).wp s q e):(sumP nd).wp s (λu s'=>(cntA s.all nd.l:Int)+(cntA s.all nd.r:Int)+1=nd.c/\(s'.own=s.own/\s'.kp=s.kp)/\q u s') e:=by
 unfold sumP at h ⊢;rw[Pg.wp_bind] at h ⊢;refine Pg.wp_mono (λx s1 z=>?_) (λ_ _ z=>z) (zfD h);obtain⟨e1,⟨o1,k1⟩,h1⟩:=z;rw[Pg.wp_bind] at h1 ⊢;refine Pg.wp_mono (λy s2 z=>?_) (λ_ _ z=>z) (zfD h1);obtain⟨e2,⟨o2,k2⟩,h2⟩:=z;have ea:s1.all=s.all:=by unfold Vst.all;rw[o1,k1]
 rw[ea] at e2;by_cases hs:x+y+1=nd.c
 ·rw[if_pos hs] at h2 ⊢;exact⟨by omega,⟨o2.trans o1,k2.trans k1⟩,h2⟩
 ·rw[if_neg hs] at h2 ⊢;exact h2
inductive zeQ (vs:QQ) (H:Hp) (Q:L2.VK) (_E:XK):Prop
 | mk (v va:V) (nd:Nd) (a:Th) (_:vs=[v,va]) (_:Rep H nd.th v) (_:Rep H a va) (_:dep a<=8) (_:∀H',Same H H'->Q (.bl (zby a nd.k)) H'):zeQ vs H Q _E
inductive zfb (vs:QQ) (H:Hp) (Q:L2.VK) (_E:XK):Prop
 | mk (v va:V) (nd:Nd) (a:Th) (_:vs=[v,va]) (_:Rep H nd.th v) (_:Rep H a va) (_:dep nd.k<=8) (_:∀H',Same H H'->Q (.bl (zbx a nd.k)) H'):zfb vs H Q _E
inductive zgp (VR:VRT) (CN CB CC:Addr) (vs:QQ) (H:Hp) (Q:L2.VK) (E:XK):Prop
 | mk (a:Addr) (D:QO) (s:Vst) (n:Int) (lo hi:Th) (vl vh:V) (_:vs=[.ref a,.int n,vl,vh]) (_:VR H a D s) (_:Rep H lo vl) (_:Rep H hi vh) (_:dep lo<=8) (_:dep hi<=8) (_:Out VR CN CB CC a D (strP n lo hi) s (zcC H) H Q E):zgp VR CN CB CC vs H Q E
structure SX (D:QO)(H0 H:Hp)(pp pb:Addr)(st:List Nd)(ps:QH):Prop where
 fr:Frm D H0 H
 xs:∃xs,H pp=some (.lst xs)/\RepL H (ps.map zeA) xs
 bs:∃bs,H pb=some (.lst bs)/\RepL H (st.reverse.map Nd.th) bs
theorem SX.go {C:Addr}{VR:VRT}(I:VI C VR){D:QO}{H0 H H':Hp}{a pp pb:Addr}{s:Vst}{st:List Nd}{ps:QH}(i:SX D H0 H pp pb st ps)(v:VR H a D s)(f:Frm D H H'):SX D H0 H' pp pb st ps:=by obtain⟨xs,e1,r1⟩:=i.xs;obtain⟨bs,e2,r2⟩:=i.bs;exact⟨i.fr.trans f,⟨xs,I.lst v f e1,r1.keep (I.tups v f)⟩,⟨bs,I.lst v f e2,r2.keep (I.tups v f)⟩⟩
theorem SX.setB {D:QO}{H0 H:Hp}{pp pb:Addr}{st st':List Nd}{ps:QH}{bs':QQ}(i:SX D H0 H pp pb st ps)(np:pp≠pb)(hb:H0 pb=none)(r:RepL H (st'.reverse.map Nd.th) bs'):SX D H0 (upd H pb (.lst bs')) pp pb st' ps:=by
 obtain⟨xs,e1,r1⟩:=i.xs;obtain⟨bs,e2,r2⟩:=i.bs;have tk:Tups H (upd H pb (.lst bs')):=Tups.upd λxs z=>by rw[e2] at z;cases z
 exact⟨zbI i.fr hb,⟨xs,by rw[zf np];exact e1,r1.keep tk⟩,⟨_,za,r.keep tk⟩⟩
theorem SX.setP {D:QO}{H0 H:Hp}{pp pb:Addr}{st:List Nd}{ps ps':QH}{xs':QQ}(i:SX D H0 H pp pb st ps)(np:pp≠pb)(hb:H0 pp=none)(r:RepL H (ps'.map zeA) xs'):SX D H0 (upd H pp (.lst xs')) pp pb st ps':=by
 obtain⟨xs,e1,r1⟩:=i.xs;obtain⟨bs,e2,r2⟩:=i.bs;have tk:Tups H (upd H pp (.lst xs')):=Tups.upd λxs z=>by rw[e1] at z;cases z
 exact⟨zbI i.fr hb,⟨_,za,r.keep tk⟩,⟨bs,by rw[zf (Ne.symm np)];exact e2,r2.keep tk⟩⟩
section
variable {P:Program}{w:World}{K:QA}{mg:QB}{base:Heap}{VR:VRT}{C CC CN CB:Addr}{x:Str}{t1 t2 t3 t4 t5 t6 t7:Tok}
theorem zkp (D:Dfn K mg "goes_left" zeU ["node","low"]) (zco:Fn P w K mg base "ahead" 20 ["one","other"] (zaV 9)) (zau:mg "KEY" =some (.int 0 t1)):Fn P w K mg base "goes_left" 21 ["node","low"] zeQ:=by
 refine D.ok (k:=20) (L2.fsN ["node","low"]) (λf cdv A outer s H vs Q E hr h=>?_);obtain⟨v,va,nd,a,rfl,rn,ra,hd,q⟩:=h;obtain⟨p,vk,vw,rfl,ea,rk,rw'⟩:=zq rn;refine⟨_,(by have ι:=0;ac_rfl),?_⟩;refine⟨_,rfl,rfl,_,rfl,?_⟩;rw[zbe ra];unfold zby at q;cases z:decide (a=.non) with
 | true=>rw[z] at q;exact ifT rfl (q H (Same.refl H))
 | false=>rw[z] at q;exact ifF rfl ⟨_,rfl,_,rfl,p,_,_,_,rfl,rfl,SqT.of ea,rfl,a,nd.k,_,_,rfl,ra,rk,by omega,by omega,λH1 s1=>q H1 s1⟩
theorem zkD (D:Dfn K mg "goes_right" zdX ["node","high"]) (zco:Fn P w K mg base "ahead" 20 ["one","other"] (zaV 9)) (zau:mg "KEY" =some (.int 0 t1)):Fn P w K mg base "goes_right" 21 ["node","high"] zfb:=by
 refine D.ok (k:=20) (L2.fsN ["node","high"]) (λf cdv A outer s H vs Q E hr h=>?_);obtain⟨v,va,nd,a,rfl,rn,ra,hd,q⟩:=h;obtain⟨p,vk,vw,rfl,ea,rk,rw'⟩:=zq rn;refine⟨_,(by have ι:=0;ac_rfl),?_⟩;refine⟨_,rfl,rfl,_,rfl,?_⟩;rw[zbe ra];unfold zbx at q;cases z:decide (a=.non) with
 | true=>rw[z] at q;exact ifT rfl (q H (Same.refl H))
 | false=>rw[z] at q;exact ifF rfl ⟨_,rfl,p,_,_,_,rfl,rfl,SqT.of ea,rfl,_,rfl,nd.k,a,_,_,rfl,rk,ra,by omega,by omega,λH1 s1=>q H1 s1⟩
theorem zoY (I:VI C VR)(D:Dfn K mg "refuse_sum" zdK ["vault","node"]) (znu:FnX P w K mg base "size_beneath" 5 ["vault","root","count"] (zeI VR CN CB CC)) (za7:XP K mg "BadThing" CB) (zae:mg "LEFT" =some (.int 2 t3)) (zM:mg "RIGHT" =some (.int 3 t4)) (zD:mg "COUNT" =some (.int 4 t5)):FnX P w K mg base "refuse_sum" 6 ["vault","node"] (ziC VR CN CB CC):=by
 refine D.okX (k:=5) (L2.fsN ["vault","node","left","right"]) (λf cdv A outer s H vs Q E hr h=>?_);obtain⟨a,D,s,nd,v,rfl,vs,rn,h⟩:=h;obtain⟨p,vk,vw,rfl,ea,rk,rw'⟩:=zq rn.1;have et:SqT K H p [vk,vw,.int nd.l,.int nd.r,.int nd.c]:=SqT.of ea;unfold Out sumP at h;rw[Pg.wp_bind] at h;refine⟨_,(by have ι:=0;ac_rfl),?_⟩;refine⟨_,rfl,_,rfl,p,_,_,_,rfl,rfl,et,rfl,_,rfl,p,_,_,_,rfl,rfl,et,rfl,a,D,s,nd.l,nd.c,rfl,vs,Pg.wp_mono (λx s1 h1 v H1 f1 vs1 ev=>?_) (λ_ _ z=>z) h⟩;have ev':v=.int x:=ev;subst ev';rw[Pg.wp_bind] at h1;have ea1:=I.tups vs f1 _ _ ea;have et1:SqT K H1 p _:=SqT.of ea1;refine⟨_,rfl,_,rfl,p,_,_,_,rfl,rfl,et1,rfl,_,rfl,p,_,_,_,rfl,rfl,et1,rfl,a,D,s1,nd.r,nd.c,rfl,vs1,Pg.wp_mono (λy s2 h2 v H2 f2 vs2 ev=>?_) (OutE.on f1) h1⟩;have ev':v=.int y:=ev;subst ev';have et2:SqT K H2 p _:=SqT.of (I.tups vs1 f2 _ _ ea1);refine⟨_,rfl,_,rfl,_,_,rfl,rfl,_,_,rfl,rfl,_,rfl,p,_,_,_,rfl,rfl,et2,rfl,rfl,_,rfl,?_⟩;rw[zai];by_cases hs:x+y+1=nd.c
 ·rw[if_pos hs] at h2;exact ifF (by rw[decide_eq_true hs];rfl) (h2 _ H2 (f1.trans f2) vs2 rfl)
 ·rw[if_neg hs] at h2;refine ifT (by rw[decide_eq_false hs];rfl) ⟨szl (show 1<=1000 by decide),λe he=>⟨e,CB,none,rfl,za,za7.cl.q,?_⟩⟩;rw[zbd he];exact h2 H2 (f1.trans f2) vs2
theorem znW (I:VI C VR)(D:Dfn K mg "stretch" zhw ["vault","root","low","high"]) (zrc:Fn P w K mg base "is_empty" 21 ["low","high"] ze6) (za8:FnX P w K mg base "node_beneath" 4 ["vault","root","count"] (zdm VR CN CB CC)) (zpR:Fn P w K mg base "goes_left" 21 ["node","low"] zeQ) (zo4:Fn P w K mg base "goes_right" 21 ["node","high"] zfb) (zo5:FnX P w K mg base "refuse_sum" 6 ["vault","node"] (ziC VR CN CB CC)) (zco:Fn P w K mg base "ahead" 20 ["one","other"] (zaV 9))
  (zau:mg "KEY" =some (.int 0 t1)) (zbh:mg "WORTH" =some (.int 1 t2)) (zae:mg "LEFT" =some (.int 2 t3)) (zM:mg "RIGHT" =some (.int 3 t4)) (zD:mg "COUNT" =some (.int 4 t5)) (zax:mg "BENEATH_NONE" =some (.int 301 t7)) (zx:mg "len" =none):FnX P w K mg base "stretch" 22 ["vault","root","low","high"] (zgp VR CN CB CC):=by
 refine D.okX (k:=21) (L2.fsN ["vault","root","low","high","pairs","begun","count","node"]) (λf cdv A outer s H vs Q E hr h=>?_);obtain⟨a,D,s,n,lo,hi,vx,vy,rfl,vs,rx,ry,dx,dy,h⟩:=h;refine⟨_,(by have ι:=0;ac_rfl),?_⟩;refine⟨szl (show 0<=1000 by decide),λpp hpp=>?_⟩;have s1:=zh (o:=.lst []) (Same.refl H) hpp;have e1:upd H pp (.lst []) pp=some (.lst []):=za;generalize upd H pp (.lst [])=H1 at s1 e1;refine⟨_,rfl,_,rfl,lo,hi,vx,vy,rfl,rx.keep (Same.tups s1),ry.keep (Same.tups s1),dx,λH2 s2=>⟨_,rfl,?_⟩⟩;have s02:Same H H2:=λb o e=>s2 b o (s1 b o e);have e2:=s2 _ _ e1;unfold Out strP at h;cases ze:zeF lo hi with
 | true=>rw[if_pos ze] at h;exact ifT rfl ⟨_,rfl,h _ H2 (Frm.of s02) (I.same vs s02) ⟨⟨pp,[],rfl,e2,.nil,by decide⟩,λ_ z=>by cases z;exact hpp⟩⟩
 | false=>
 rw[if_neg (by rw[ze];exact Jc)] at h;refine ifF rfl ?_;refine⟨szl (show 0<=1000 by decide),λpb hpb=>?_⟩;have s3:=zh (o:=.lst []) (Same.refl H2) hpb;have e3:upd H2 pb (.lst []) pb=some (.lst []):=za;have nb:pp≠pb:=zg e2 hpb;have hpb0:H pb=none:=by
  cases y:H pb with
  | none=>rfl
  | some o=>rw[s02 _ _ y] at hpb;cases hpb
 generalize upd H2 pb (.lst [])=H3 at s3 e3;have w0:wgt s.all n 301 < 700:=by unfold wgt;have:min (cntA s.all n) ((301:Int).toNat - 1)<=300:=Nat.min_le_right _ _;omega
 refine⟨λm σ H'=>∃(s1:Vst) (n c:Int) (st:List Nd) (ps:QH) (k7:Option V),(strL lo hi m n c st ps).wp s1 (OutQ VR a D (zcC H) H Q) (OutE VR CN CB CC a D H E)/\wgt s.all n c+stkW s.all hi st < m/\s1.all=s.all/\st.length+m<=700/\ps.length+m<=700/\σ=[some (.ref a),some (.int n),some vx,some vy,some (.ref pp),some (.ref pb),some (.int c),k7]/\SX D H H' pp pb st ps/\VR H' a D s1/\∀nd∈st,Good nd.th,
  ⟨700,s,n,301,[],[],_,h,w0,rfl,by decide,by decide,rfl,⟨(Frm.of s02).trans (Frm.of s3),⟨[],s3 _ _ e2,.nil⟩,⟨[],e3,.nil⟩⟩,I.same (I.same vs s02) s3,λnd z=>by cases z⟩,?_⟩
 clear h w0;rintro m σ H4 ⟨s4,n,c,st,ps,k7,h,hw,hal,hb1,hb2,rfl,si,vs4,gd⟩;obtain⟨m,rfl⟩:∃j,m=j+1:=⟨m - 1,by omega⟩;have t04:=I.tups vs si.fr;have rx4:=rx.keep t04;have ry4:=ry.keep t04;obtain⟨xs,ex,rxs⟩:=si.xs;obtain⟨bs,eb,rbs⟩:=si.bs;have hxs:xs.length<=700:=by rw[rxs.len,List.length_map];omega
 have hbl:bs.length=st.length:=by rw[rbs.len,List.length_map,List.length_reverse]
 unfold strL at h;refine⟨_,rfl,rfl,_,rfl,?_⟩;rw[zai];by_cases hn:n=0
 ·subst hn;rw[if_pos rfl] at h;refine ifF rfl ?_;refine⟨_,rfl,pb,_,rfl,.inl (SqL.of eb),_,_,rfl,rfl,_,rfl,?_⟩;cases st with
  | nil=>
   refine ifF (by show decide ((0:Int) < ((bs.length:Nat):Int))=false;rw[hbl];rfl) ?_
   exact⟨_,rfl,h _ H4 si.fr vs4 ⟨⟨pp,xs,rfl,ex,rxs,by omega⟩,λ_ z=>by cases z;exact hpp⟩⟩
  | cons nd st'=>
   replace h:(strL lo hi m (if zbx hi nd.k=true then nd.r else 0) nd.c st' (if inB lo hi nd=true then ps++ [(nd.k,nd.w)] else ps)).wp s4 (OutQ VR a D (zcC H) H Q) (OutE VR CN CB CC a D H E):=h;have gn:=gd nd List.mem_cons_self;have kd:=(zce gn).1;have hsl:(nd::st').length=st'.length+1:=rfl;have hw':wgt s.all 0 c+(1+(if zbx hi nd.k=true then wgt s.all nd.r nd.c else 0)+stkW s.all hi st') < m+1:=hw;refine ifT (decide_eq_true (show(0:Int) < ((bs.length:Nat):Int) by omega)) ⟨_,fun σ' H' h=>h,?_⟩;rw[List.reverse_cons,List.map_append] at rbs;obtain⟨us,v,rfl,rus,rn⟩:=rbs.unsnoc;have si5:=si.setB (st':=st') nb hpb0 (bs':=us) rus;have vs5:VR (upd H4 pb (.lst us)) a D s4:=I.nl vs4 (NL.lst eb);refine zk (fun σ H'=>∃(n':Int) (ps':QH) (v:V),σ=[some (.ref a),some (.int n'),some vx,some vy,some (.ref pp),some (.ref pb),some (.int c),some v]/\SX D H H' pp pb st' ps'/\(strL lo hi m n' nd.c st' ps').wp s4 (OutQ VR a D (zcC H) H Q) (OutE VR CN CB CC a D H E)/\wgt s.all n' nd.c+stkW s.all hi st' < m/\ps'.length+m<=700/\Rep H' nd.th v/\VR H' a D s4) (λN kN=>?_) ?_
   ·refine⟨_,rfl,rfl,_,rfl,?_⟩;rw[zai];refine ifF rfl ?_;refine⟨_,rfl,.inl ⟨rfl,_,SqL.of eb⟩,pb,_,v,rfl,rfl,eb,by rw[List.length_append,List.getElem?_append_right (by simp)];simp,?_⟩;rw[List.dropLast_concat];have tk5:Tups H4 (upd H4 pb (.lst us)):=Tups.upd λxs z=>by rw[eb] at z;cases z
    have rn5:=rn.keep tk5;have rx5:=rx4.keep tk5;have ry5:=ry4.keep tk5;generalize upd H4 pb (.lst us)=H5 at si5 tk5 rn5 rx5 ry5 vs5;refine⟨_,rfl,_,rfl,v,vy,nd,hi,rfl,rn5,ry5,by omega,λH6 s6=>⟨_,rfl,?_⟩⟩;have si6:=si5.go I vs5 (Frm.of s6);have vs6:=I.same vs5 s6;have rn6:=rn5.keep (Same.tups s6);have rx6:=rx5.keep (Same.tups s6);have w00:wgt s.all 0 nd.c=0:=by unfold wgt cntA;rw[if_pos rfl,Nat.zero_min]
    cases z1:zbx hi nd.k with
    | false=>
     have hin:inB lo hi nd=false:=by unfold inB;rw[z1];rfl
     rw[z1,hin,if_neg Jc,if_neg Jc] at h;rw[z1,if_neg Jc] at hw';exact ifF rfl (kN _ _ ⟨0,ps,v,rfl,si6,h,by omega,by omega,rn6,vs6⟩)
    | true=>
     rw[z1,if_pos rfl] at h hw';refine ifT rfl ?_;refine zk (fun σ H'=>∃ps',σ=[some (.ref a),some (.int 0),some vx,some vy,some (.ref pp),some (.ref pb),some (.int c),some v]/\SX D H H' pp pb st' ps'/\Rep H' nd.th v/\(strL lo hi m nd.r nd.c st' ps').wp s4 (OutQ VR a D (zcC H) H Q) (OutE VR CN CB CC a D H E)/\ps'.length<=ps.length+1/\VR H' a D s4) (λN2 k2=>?_) ?_
     ·obtain⟨p,vk,vw,rfl,ea,rk,rw'⟩:=zq rn6;obtain⟨xs6,ex6,rxs6⟩:=si6.xs;have hx6:xs6.length<=700:=by rw[rxs6.len,List.length_map];omega
      have hinB:∀b,(decide (lo=.non) || !zb nd.k lo)=b->inB lo hi nd=b:=λb e=>by unfold inB;rw[z1,e];rfl
      have app:∀(H7:Hp) (s67:Same H6 H7) (h:inB lo hi nd=true) (p2:Addr),H7 p2=none->N2 [some (.ref a),some (.int 0),some vx,some vy,some (.ref pp),some (.ref pb),some (.int c),some (.ref p)] (upd (upd H7 p2 (.tup [vk,vw])) pp (.lst (xs6++ [.ref p2]))):=λH7 s67 hin p2 hp2=>by
       have rp:=(RepL.cons (rk.keep (Same.tups s67)) (.cons (rw'.keep (Same.tups s67)) .nil)).new hp2;have s78:=zh (o:=.tup [vk,vw]) (Same.refl H7) hp2;generalize upd H7 p2 (.tup [vk,vw])=H8 at rp s78;have s68:Same H6 H8:=λb o e=>s78 b o (s67 b o e);have si8:=si6.go I vs6 (Frm.of s68);have ex8:=s68 _ _ ex6;have rxs8:=rxs6.keep (Same.tups s68);have tk9:Tups H8 (upd H8 pp (.lst (xs6++ [.ref p2]))):=Tups.upd λxs z=>by rw[ex8] at z;cases z
       rw[hin,if_pos rfl] at h;refine k2 _ _ ⟨ps++ [(nd.k,nd.w)],rfl,si8.setP nb hpp ?_,(rn6.keep (Same.tups s68)).keep tk9,h,by simp,I.nl (I.same vs6 s68) (NL.lst ex8)⟩;rw[List.map_append];exact rxs8.snoc rp
      refine⟨_,rfl,rfl,_,rfl,?_⟩;rw[zbe rx6];cases z2:decide (lo=.non) with
      | true=>have hin:=hinB true (by rw[z2];rfl);refine ifT rfl (ifT rfl ?_);exact⟨_,rfl,.inl ⟨rfl,_,SqL.of ex6⟩,_,rfl,p,_,_,_,rfl,rfl,SqT.of ea,rfl,_,rfl,p,_,_,_,rfl,rfl,SqT.of ea,rfl,szl (show 2<=1000 by decide),λp2 hp2=>⟨pp,xs6,_,rfl,rfl,by rw[zf (zg ex6 hp2)];exact ex6,Jd (show xs6.length < 1000 by omega) (szl (Jb _)),app H6 (Same.refl _) hin p2 hp2⟩⟩
      | false=>
       refine ifF rfl ⟨_,rfl,p,_,_,_,rfl,rfl,SqT.of ea,rfl,_,rfl,nd.k,lo,_,_,rfl,rk,rx6,by omega,by omega,λH7 s7=>⟨_,rfl,?_⟩⟩;have ex7:=s7 _ _ ex6;have ea7:=s7 _ _ ea;cases z3:zb nd.k lo with
       | true=>have hin:=hinB false (by rw[z2,z3];rfl);rw[hin,if_neg Jc] at h;exact ifF rfl (k2 _ _ ⟨ps,rfl,si6.go I vs6 (Frm.of s7),rn6.keep (Same.tups s7),h,by omega,I.same vs6 s7⟩)
       | false=>have hin:=hinB true (by rw[z2,z3];rfl);refine ifT rfl ?_;exact⟨_,rfl,.inl ⟨rfl,_,SqL.of ex7⟩,_,rfl,p,_,_,_,rfl,rfl,SqT.of ea7,rfl,_,rfl,p,_,_,_,rfl,rfl,SqT.of ea7,rfl,szl (show 2<=1000 by decide),λp2 hp2=>⟨pp,xs6,_,rfl,rfl,by rw[zf (zg ex7 hp2)];exact ex7,Jd (show xs6.length < 1000 by omega) (szl (Jb _)),app H7 s7 hin p2 hp2⟩⟩
     ·rintro σ H7 ⟨ps',rfl,si7,rn7,h7,hl7,vs7⟩;obtain⟨p,vk,vw,rfl,ea,rk,rw'⟩:=zq rn7;exact⟨_,rfl,p,_,_,_,rfl,rfl,SqT.of ea,rfl,kN _ _ ⟨nd.r,ps',_,rfl,si7,h7,by omega,by omega,rn7,vs7⟩⟩
   ·rintro σ H5 ⟨n',ps',v',rfl,si',h',hw2,hp',rn',vs'⟩;obtain⟨p,vk,vw,rfl,ea,rk,rw'⟩:=zq rn';exact⟨_,rfl,p,_,_,_,rfl,rfl,SqT.of ea,rfl,m,Jm m,s4,n',_,st',ps',_,h',hw2,hal,by omega,by omega,rfl,si',vs',λy hy=>gd y (Jh _ hy)⟩
 ·rw[if_neg hn,Pg.wp_bind] at h;refine ifT (by rw[decide_eq_false hn];rfl) (ifT rfl ⟨_,fun σ' H' h=>h,?_⟩);refine zk (fun σ H'=>∃(s5:Vst) (nd:Nd) (v:V),σ=[some (.ref a),some (.int (if zby lo nd.k=true then nd.l else 0)),some vx,some vy,some (.ref pp),some (.ref pb),some (.int c),some v]/\SX D H H' pp pb (nd::st) ps/\(strL lo hi m (if zby lo nd.k=true then nd.l else 0) nd.c (nd::st) ps).wp s5 (OutQ VR a D (zcC H) H Q) (OutE VR CN CB CC a D H E)/\wgt s.all (if zby lo nd.k=true then nd.l else 0) nd.c+stkW s.all hi (nd::st) < m/\s5.all=s.all/\Rep H' nd.th v/\Good nd.th/\VR H' a D s5) (λN kN=>?_) ?_
  ·refine⟨_,rfl,rfl,_,rfl,?_⟩;rw[zai];refine ifT (by rw[decide_eq_false hn];rfl) ?_;refine⟨_,rfl,_,rfl,_,rfl,a,D,s4,n,c,rfl,vs4,Pg.wp_mono (λnd s5 h5 v H5 f5 vs5 rn=>?_) (OutE.on si.fr) (zhP hn h)⟩;obtain⟨⟨c1,c2,c3⟩,⟨o5,k5⟩,h5⟩:=h5;obtain⟨rn,gn⟩:=rn;have kd:=(zce gn).1;have ea5:s5.all=s.all:=by rw[<-hal];unfold Vst.all;rw[o5,k5]
   rw[hal] at c1;have si5:=si.go I vs4 f5;have t45:=I.tups vs4 f5;have rx5:=rx4.keep t45;have ry5:=ry4.keep t45;rw[Pg.wp_bind] at h5;have wn:wgt s.all n c=2 * nd.c.toNat:=by unfold wgt;rw[c1,Nat.min_eq_left (by omega)]
   have wk:∀k,wgt s.all k nd.c<=2 * (nd.c.toNat - 1):=λk=>by unfold wgt;have:=Nat.min_le_right (cntA s.all k) (nd.c.toNat - 1);omega
   have w00:wgt s.all 0 nd.c=0:=by unfold wgt cntA;rw[if_pos rfl,Nat.zero_min]
   dsimp only[za5];refine zk (fun σ H'=>∃s6:Vst,σ=[some (.ref a),some (.int n),some vx,some vy,some (.ref pp),some (.ref pb),some (.int c),some v]/\Frm D H5 H'/\VR H' a D s6/\s6.all=s.all/\(strL lo hi m (if zby lo nd.k=true then nd.l else 0) nd.c (nd::st) ps).wp s6 (OutQ VR a D (zcC H) H Q) (OutE VR CN CB CC a D H E)/\wgt s.all (if zby lo nd.k=true then nd.l else 0) nd.c+(if zbx hi nd.k=true then wgt s.all nd.r nd.c else 0)+1 < wgt s.all n c) (λN2 k2=>?_) ?_
   ·refine⟨_,rfl,_,rfl,v,vx,nd,lo,rfl,rn,rx5,dx,λH6 s6=>⟨_,rfl,?_⟩⟩;cases z1:zby lo nd.k with
    | false=>rw[z1] at h5 k2;rw[if_neg (by rw[Bool.false_and];exact Jc)] at h5;refine ifF rfl (ifF rfl (k2 _ _ ⟨s5,rfl,Frm.of s6,I.same vs5 s6,ea5,h5,?_⟩));rw[if_neg Jc,w00];have:=wk nd.r;split <;> omega
    | true=>
     rw[z1] at h5 k2;refine ifT rfl ⟨_,rfl,_,rfl,v,vy,nd,hi,rfl,rn.keep (Same.tups s6),ry5.keep (Same.tups s6),by omega,λH7 s7=>⟨_,rfl,?_⟩⟩;have s57:Same H5 H7:=λb o e=>s7 b o (s6 b o e);have wl:=wk nd.l;cases z2:zbx hi nd.k with
     | false=>rw[z2] at h5 k2;rw[if_neg (by exact Jc)] at h5;refine ifF rfl (k2 _ _ ⟨s5,rfl,Frm.of s57,I.same vs5 s57,ea5,h5,?_⟩);rw[if_pos rfl,if_neg Jc];omega
     | true=>
      rw[z2] at h5 k2;rw[if_pos (by rfl)] at h5;refine ifT rfl ⟨_,rfl,_,rfl,a,D,s5,nd,v,rfl,I.same vs5 s57,⟨rn.keep (Same.tups s57),gn⟩,Pg.wp_mono (λu s6' h6 v6 H8 f8 vs8 ev=>?_) (OutE.on ((si.fr.trans f5).trans (Frm.of s57))) (zmv h5)⟩;obtain⟨he,⟨o6,k6⟩,h6⟩:=h6;have ea6:s6'.all=s.all:=by rw[<-ea5];unfold Vst.all;rw[o6,k6]
      rw[ea5] at he;refine k2 _ _ ⟨s6',rfl,(Frm.of s57).trans f8,vs8,ea6,h6,?_⟩;rw[if_pos rfl,if_pos rfl];have h1:wgt s.all nd.l nd.c<=2 * cntA s.all nd.l:=by unfold wgt;have:=Nat.min_le_left (cntA s.all nd.l) (nd.c.toNat - 1);omega
      have h2:wgt s.all nd.r nd.c<=2 * cntA s.all nd.r:=by unfold wgt;have:=Nat.min_le_left (cntA s.all nd.r) (nd.c.toNat - 1);omega
      omega
   ·rintro σ H7 ⟨s7,rfl,f7,vs7,ea7,h7,hw7⟩;have si7:=si5.go I vs5 f7;have t57:=I.tups vs5 f7;have eb7:=I.lst vs5 f7 (I.lst vs4 f5 eb);have rbs7:=(rbs.keep t45).keep t57;have rn7:=rn.keep t57;refine⟨_,rfl,.inl ⟨rfl,_,SqL.of eb7⟩,_,rfl,pb,bs,_,rfl,rfl,eb7,Jd (show bs.length < 1000 by omega) (szl (Jb _)),?_⟩;have si8:=si7.setB (st':=nd::st) nb hpb0 (bs':=bs++ [v]) (by rw[List.reverse_cons,List.map_append];exact rbs7.snoc rn7);have tk8:Tups H7 (upd H7 pb (.lst (bs++ [v]))):=Tups.upd λxs z=>by rw[eb7] at z;cases z
    have rn8:=rn7.keep tk8;have rx8:=(rx5.keep t57).keep tk8;have vs8:VR (upd H7 pb (.lst (bs++ [v]))) a D s7:=I.nl vs7 (NL.lst eb7);generalize upd H7 pb (.lst (bs++ [v]))=H8 at si8 tk8 rn8 rx8 vs8;refine⟨_,rfl,_,rfl,v,vx,nd,lo,rfl,rn8,rx8,dx,λH9 s9=>⟨_,rfl,?_⟩⟩;have si9:=si8.go I vs8 (Frm.of s9);have rn9:=rn8.keep (Same.tups s9);have hws:wgt s.all (if zby lo nd.k=true then nd.l else 0) nd.c+stkW s.all hi (nd::st) < m:=by show _+(1+(if zbx hi nd.k=true then wgt s.all nd.r nd.c else 0)+stkW s.all hi st) < m;omega
    cases z1:zby lo nd.k with
    | true=>obtain⟨p,vk,vw,rfl,ea,rk,rw'⟩:=zq rn9;refine ifT rfl ⟨_,rfl,p,_,_,_,rfl,rfl,SqT.of ea,rfl,kN _ _ ⟨s7,nd,_,?_,si9,h7,hws,ea7,rn9,gn,I.same vs8 s9⟩⟩;rw[z1];rfl
    | false=>refine ifF rfl (kN _ _ ⟨s7,nd,v,?_,si9,h7,hws,ea7,rn9,gn,I.same vs8 s9⟩);rw[z1];rfl
  ·rintro σ H5 ⟨s5,nd,v,rfl,si',h',hw',ea',rn,gn,vs'⟩;obtain⟨p,vk,vw,rfl,ea,rk,rw'⟩:=zq rn;refine⟨_,rfl,p,_,_,_,rfl,rfl,SqT.of ea,rfl,m,Jm m,s5,_,_,nd::st,ps,_,h',hw',ea',by show st.length+1+m<=700;omega,by omega,rfl,si',vs',λy hy=>?_⟩;rcases List.mem_cons.mp hy with rfl | hy
   ·exact gn
   ·exact gd y hy
end
end Pv
namespace Pv
open PySem L2
noncomputable abbrev zaH:Stmt:=top 17
noncomputable abbrev zaI:Stmt:=top 26
noncomputable abbrev zfz:Stmt:=top 25
noncomputable abbrev zg8:Stmt:=top 24
theorem lt1 (c k:Nat):decide ([c] < [k])=decide (c < k):=by
 by_cases h:c < k
 ·rw[decide_eq_true h];exact decide_eq_true (by simp[List.cons_lt_cons_iff,h])
 ·rw[decide_eq_false h];exact decide_eq_false (by simp[List.cons_lt_cons_iff];omega)
noncomputable def zqW:Ob->Bool
 | .int _=>true
 | _=>false
noncomputable def letB (c:Nat):Bool:=decide (97<=c) && decide (c<=122)
noncomputable def zC (l:List Nat):Bool:=decide (1<=l.length) && decide (l.length<=8) && l.all letB
noncomputable def valT (t:List Nat):Bool:=decide (t.length<=20) && t.all zaw && !decide (39∈t) && !decide (59∈t)
noncomputable def zA:Ob->Bool
 | .str x=>zC x.cps.toList
 | _=>false
noncomputable def valO:Ob->Bool
 | .int i=>decide (i.natAbs<=10 ^ 12)
 | .str x=>valT x.cps.toList
 | _=>false
noncomputable def TxO:Ob->Prop
 | .str x=>x.length<=900
 | _=>True
inductive zeL (CN:Addr) (vs:QQ) (H:Hp) (Q:L2.VK) (_E:XK):Prop
 | mk (t:Ob) (v:V) (_:vs=[v]) (_:RepO CN H t v) (_:Q (.bl (zqW t)) H):zeL CN vs H Q _E
inductive zei (vs:QQ) (H:Hp) (Q:L2.VK) (_E:XK):Prop
 | mk (x:Str) (_:vs=[.str x]) (_:Q (.bl (x.cps.toList.all zaw)) H):zei vs H Q _E
inductive spSV (vs:QQ) (H:Hp) (Q:L2.VK) (_E:XK):Prop
 | mk (x:Str) (_:vs=[.str x]) (_:Q (.bl (x.cps.toList.all zaw && !decide (39∈x.cps.toList) && !decide (59∈x.cps.toList))) H):spSV vs H Q _E
inductive zba (CN:Addr) (vs:QQ) (H:Hp) (Q:L2.VK) (_E:XK):Prop
 | mk (t:Ob) (v:V) (_:vs=[v]) (_:RepO CN H t v) (_:TxO t) (_:Q (.bl (zA t)) H):zba CN vs H Q _E
inductive ziD (CN:Addr) (vs:QQ) (H:Hp) (Q:L2.VK) (_E:XK):Prop
 | mk (t:Ob) (v:V) (_:vs=[v]) (_:RepO CN H t v) (_:TxO t) (_:Q (.bl (valO t)) H):ziD CN vs H Q _E
theorem zrH (i:Int):(decide ((if i < 0 then -i else i)<=(10:Int) ^ (12:Int).toNat))=decide (i.natAbs<=10 ^ 12):=by
 have e:(10:Int) ^ (12:Int).toNat=1000000000000:=by decide
 rw[e];apply decide_eq_decide.mpr;split <;> omega
theorem str_len (x:Str):x.cps.toList.length=x.length:=by simp[Str.length]
section
variable {P:Program}{w:World}{K:QA}{mg:QB}{base:Heap}{t1 t2 t3 t4 t5:Tok}{CN:Addr}
theorem zkF (nt:NTk K CN)(D:Dfn K mg "is_whole" zdw ["value"]) (zd:mg "isinstance" =none) (zbg:mg "int" =none) (zcb:mg "bool" =none):Fn P w K mg base "is_whole" 1 ["value"] (zeL CN):=by
 refine D.ok (k:=0) (L2.fsN ["value"]) (λf cdv A outer s H vs Q E hr h=>?_);obtain⟨t,v,rfl,rv,q⟩:=h;refine⟨_,(zm (zZ (zbV (zv (zT nt) (by rfl) zd (by rfl) (by ac_rfl)) (zdn (zlR (zv (zT nt) (by rfl) zd (by rfl) (by ac_rfl))))))),?_⟩;refine⟨_,rfl,t,v,.int,rfl,rv,_,rfl,?_⟩;cases rv with
 | int i=>exact ifT rfl ⟨_,rfl,.int i,_,.bool,rfl,.int i,_,rfl,q⟩
 | bl b=>exact ifT rfl ⟨_,rfl,.bl b,_,.bool,rfl,.bl b,_,rfl,q⟩
 | non=>exact ifF rfl q
 | str x=>exact ifF rfl q
 | tup e l h=>exact ifF rfl q
 | lst e=>exact ifF rfl q
 | dic e=>exact ifF rfl q
 | exc e=>exact ifF rfl q
theorem zhB {l:List Nat}{p:Nat->Bool}{i c:Nat}(e:l[i]? =some c)(h:(l.take i).all p=true):(l.take (i+1)).all p=p c:=by rw[List.take_add_one,e,List.all_append,h];simp
theorem zb8 {l:List Nat}{p:Nat->Bool}{i c:Nat}(e:l[i]? =some c)(h:p c=false):l.all p=false:=by
 cases z:l.all p with
 | false=>rfl
 | true=>have:=Jj.mp z c (List.mem_of_getElem? e);rw[h] at this;cases this
theorem zkd (D:Dfn K mg "has_signs_of_things" zaH ["text"]) (m_ord:mg "ord" =none) (zgb:mg "PERCENT" =some (.int 37 t5)):Fn P w K mg base "has_signs_of_things" 1 ["text"] zei:=by
 refine D.ok (k:=0) (L2.fsN ["text","sign"]) (λf cdv A outer s H vs Q E hr h=>?_);obtain⟨x,rfl,q⟩:=h;refine⟨_,(zc (zam PassesOwn.never rfl (zet (pv 0)) (by ac_rfl)
 (zm (zV (PW.pt (zaJ (zaN (zb9 zch zch zar (pv 1) zar)) (zaA (by ac_rfl))))
 (by ac_rfl)
 zy)))
 (by ac_rfl)),?_⟩
 refine⟨_,rfl,x,rfl,?_⟩;refine zgL (z:=x) (λi σ H'=>∃k,σ=[some (.str x),k]/\H'=H/\(x.cps.toList.take i).all zaw=true) ⟨_,rfl,rfl,rfl⟩ ?_ ?_
 ·rintro i c σ H' hc ⟨k,rfl,rfl,ha⟩;have hc':x.cps.toList[i]? =some c:=(Array.getElem?_toList (xs:=x.cps) (i:=i)).trans hc;refine⟨_,rfl,_,_,rfl,rfl,_,rfl,?_⟩;by_cases h1:32<=c
  ·have e1:(!decide ((⟨#[c]⟩:Str).cps.toList < (Str.ofString " ").cps.toList))=true:=by show(!decide ([c] < [32]))=true;rw[lt1,decide_eq_false (by omega)];rfl
   refine ifT e1 ?_;refine⟨_,_,rfl,rfl,_,rfl,?_⟩;by_cases h2:c<=126
   ·have e2:(!decide ((Str.ofString "~").cps.toList < (⟨#[c]⟩:Str).cps.toList))=true:=by show(!decide ([126] < [c]))=true;rw[lt1,decide_eq_false (by omega)];rfl
    refine ifF (by rw[e2];rfl) ?_;refine⟨_,rfl,_,rfl,rfl,rfl,_,rfl,?_⟩;rw[zai];by_cases h3:c=37
    ·refine ifT (decide_eq_true (by show(c:Int)=37;omega)) ?_;rw[zb8 hc' (by unfold zaw;rw[h3];rfl)] at q;exact q
    ·refine ifF (decide_eq_false ?_) ⟨_,rfl,rfl,?_⟩
     ·show¬((c:Int)=37);omega
     ·rw[zhB hc' ha];unfold zaw;rw[decide_eq_true h1,decide_eq_true h2,decide_eq_false h3];rfl
   ·have e2:(!decide ((Str.ofString "~").cps.toList < (⟨#[c]⟩:Str).cps.toList))=false:=by show(!decide ([126] < [c]))=false;rw[lt1,decide_eq_true (by omega)];rfl
    refine ifT (by rw[e2];rfl) ?_;rw[zb8 hc' (by unfold zaw;rw[decide_eq_false h2,Bool.and_false,Bool.false_and])] at q;exact q
  ·have e1:(!decide ((⟨#[c]⟩:Str).cps.toList < (Str.ofString " ").cps.toList))=false:=by show(!decide ([c] < [32]))=false;rw[lt1,decide_eq_true (by omega)];rfl
   refine ifF e1 ⟨_,rfl,ifT rfl ?_⟩;rw[zb8 hc' (by unfold zaw;rw[decide_eq_false h1,Bool.false_and,Bool.false_and])] at q;exact q
 ·rintro σ H' ⟨k,rfl,rfl,ha⟩;have:x.cps.size=x.cps.toList.length:=by simp
  rw[show x.cps.toList.all zaw=true by rw[<-ha];congr 1;exact(Jl (by first | exact Jb _ | simp[Str.length])).symm] at q
  exact q
theorem zjg (l:List Nat)(c:Nat):(!(Builtin.Str.occurrences (tx l) (tx [c]) 0 (tx l).length 1).isEmpty)=decide (c∈l):=by
 rcases StrLaws.occ_head (tx l) (tx [c]) 1 (by omega) with ⟨e,no⟩ | ⟨i,r,e,hi,_⟩
 ·rw[e,decide_eq_false]
  ·rfl
  intro h;obtain⟨i,hi⟩:=List.getElem?_of_mem h;exact no i ((StrLaws.subAt_one (tx l) c i).mpr hi)
 ·have m:c∈l:=List.mem_of_getElem? ((StrLaws.subAt_one (tx l) c i).mp hi);rw[e,decide_eq_true m];rfl
theorem p12:CPow 10 12:=by unfold CPow;decide
theorem zrD (D:Dfn K mg "has_signs_of_values" zaI ["text"]) (zg6:Fn P w K mg base "has_signs_of_things" 1 ["text"] zei):Fn P w K mg base "has_signs_of_values" 2 ["text"] spSV:=by
 refine D.ok (k:=1) (L2.fsN ["text"]) (λf cdv A outer s H vs Q E hr h=>?_);obtain⟨x,rfl,q⟩:=h;obtain⟨l,rfl⟩:∃l,x=tx l:=⟨_,(zjE x).symm⟩;have el:(tx l).cps.toList=l:=rfl;rw[el] at q;refine⟨_,(zm (zZ (zbV (by ac_rfl) (zbV (z8 zbK zar (pv 0) (by rfl)) (zdn (z8 zbK zar (pv 0) (by rfl))))))),?_⟩;refine⟨_,rfl,tx l,rfl,_,rfl,?_⟩;by_cases h1:l.all zaw=true
 ·refine ifT h1 ?_;rw[h1,Bool.true_and] at q;refine⟨_,rfl,tx [39],tx l,rfl,rfl,_,rfl,?_⟩;rw[zjg];by_cases h2:39∈l
  ·refine ifF (by rw[decide_eq_true h2];rfl) ?_;rw[decide_eq_true h2,Bool.not_true,Bool.false_and] at q;exact q
  ·refine ifT (by rw[decide_eq_false h2];rfl) ?_;rw[decide_eq_false h2,Bool.not_false,Bool.true_and] at q;refine⟨_,rfl,tx [59],tx l,rfl,rfl,?_⟩;rw[zjg];exact q
 ·have h1':l.all zaw=false:=by cases z:l.all zaw with | true=>exact Je z h1 | false=>rfl
  refine ifF h1' ?_;rw[h1',Bool.false_and,Bool.false_and] at q;exact q
theorem zqp (nt:NTk K CN)(D:Dfn K mg "is_value" zfz ["thing"]) (zfe:Fn P w K mg base "is_whole" 1 ["value"] (zeL CN)) (zg7:Fn P w K mg base "has_signs_of_values" 2 ["text"] spSV) (zd:mg "isinstance" =none) (zbB:mg "str" =none) (zx:mg "len" =none) (zpS:mg "abs" =none) (zc8:mg "MOST_SIGNS" =some (.int 20 t1)):Fn P w K mg base "is_value" 3 ["thing"] (ziD CN):=by
 refine D.ok (k:=2) (L2.fsN ["thing"]) (λf cdv A outer s H vs Q E hr h=>?_);obtain⟨t,v,rfl,rv,tx',q⟩:=h;refine⟨_,(zc (by ac_rfl)
 (zm (zZ (zbV (zv (zT nt) (by rfl) zd (by rfl) (by ac_rfl)) (zbV (z8 zfF (zv (zR) (by rfl) zx (by rfl) (by ac_rfl)) (by ac_rfl) (zO _)) (zdn (by ac_rfl))))))),?_⟩
 refine⟨_,rfl,t,v,rfl,rv,_,rfl,?_⟩;cases rv with
 | int i=>refine ifT rfl ?_;refine⟨_,rfl,i,rfl,?_⟩;refine⟨_,_,rfl,rfl,p12,_,_,rfl,rfl,?_⟩;show Q (V.bl (decide ((if i < 0 then -i else i)<=(10:Int) ^ (12:Int).toNat))) H;rw[zrH];exact q
 | str x=>
  refine ifF rfl ?_;refine⟨_,rfl,.str x,_,.str,rfl,.str x,_,rfl,ifT rfl ?_⟩;have hl:x.length<=900:=tx';have q:Q (.bl (valT x.cps.toList)) H:=q;unfold valT at q;rw[str_len] at q;refine⟨_,rfl,x,rfl,szl (by omega),_,_,rfl,rfl,_,rfl,?_⟩;by_cases h1:x.length<=20
  ·refine ifT (decide_eq_true (by omega)) ?_;rw[decide_eq_true h1,Bool.true_and] at q;exact⟨_,rfl,x,rfl,q⟩
  ·refine ifF (decide_eq_false (by omega)) ?_;rw[decide_eq_false h1,Bool.false_and,Bool.false_and,Bool.false_and] at q;exact q
 | bl b=>exact ifF rfl ⟨_,rfl,.bl b,_,.str,rfl,.bl b,_,rfl,ifF rfl q⟩
 | non=>exact ifF rfl ⟨_,rfl,.non,_,.str,rfl,.non,_,rfl,ifF rfl q⟩
 | tup e l h=>exact ifF rfl ⟨_,rfl,_,_,.str,rfl,.tup e l h,_,rfl,ifF rfl q⟩
 | lst e=>exact ifF rfl ⟨_,rfl,_,_,.str,rfl,.lst e,_,rfl,ifF rfl q⟩
 | dic e=>exact ifF rfl ⟨_,rfl,_,_,.str,rfl,.dic e,_,rfl,ifF rfl q⟩
 | exc e=>exact ifF rfl ⟨_,rfl,_,_,.str,rfl,.exc e,_,rfl,ifF rfl q⟩
theorem zno (nt:NTk K CN)(D:Dfn K mg "is_name" zg8 ["thing"]) (zd:mg "isinstance" =none) (zbB:mg "str" =none) (zx:mg "len" =none) (zcc:mg "MOST_LETTERS" =some (.int 8 t2)):Fn P w K mg base "is_name" 1 ["thing"] (zba CN):=by
 refine D.ok (k:=0) (L2.fsN ["thing","sign"]) (λf cdv A outer s H vs Q E hr h=>?_);obtain⟨t,v,rfl,rv,tx',q⟩:=h;refine⟨_,(zc (zV (PW.pt (zaJ (zaN (zbL (zv (zT nt) (by rfl) zd (by rfl) (by ac_rfl)))) (zaA (zaN (zb9 zfF zfF zap (zv (zR) (by rfl) zx (by rfl) (by ac_rfl)) (by ac_rfl))))))
 (by ac_rfl)
 zy)
 (zc (zam PassesOwn.never rfl (zet (pv 0)) (by ac_rfl)
 (zm (zV (zaN (zb9 zch zch zar (pv 1) zar))
 (by ac_rfl)
 zy)))
 (by ac_rfl))),?_⟩
 refine⟨_,rfl,t,v,.str,rfl,rv,_,rfl,?_⟩;cases rv with
 | str x=>
  have hl:x.length<=900:=tx';have q:Q (.bl (zC x.cps.toList)) H:=q;unfold zC at q;rw[str_len] at q;refine ifF rfl ?_;refine⟨_,rfl,x,rfl,szl (by omega),?_⟩;refine⟨_,_,rfl,rfl,_,rfl,?_⟩;by_cases h1:1<=x.length
  ·refine ifT (decide_eq_true (by omega)) ?_;refine⟨_,_,rfl,rfl,_,rfl,?_⟩;rw[decide_eq_true h1,Bool.true_and] at q;by_cases h2:x.length<=8
   ·have e2:decide ((x.length:Int)<=8)=true:=decide_eq_true (by omega);refine ifF (by rw[e2];rfl) ?_;rw[decide_eq_true h2,Bool.true_and] at q;refine⟨_,rfl,x,rfl,?_⟩;refine zgL (z:=x) (λi σ H'=>∃k,σ=[some (.str x),k]/\H'=H/\(x.cps.toList.take i).all letB=true) ⟨_,rfl,rfl,rfl⟩ ?_ ?_
    ·rintro i c σ H' hc ⟨k,rfl,rfl,ha⟩;have hc':x.cps.toList[i]? =some c:=(Array.getElem?_toList (xs:=x.cps) (i:=i)).trans hc;refine⟨_,rfl,_,_,rfl,rfl,_,rfl,?_⟩;by_cases h1:97<=c
     ·have e1:(!decide ((⟨#[c]⟩:Str).cps.toList < (Str.ofString "a").cps.toList))=true:=by show(!decide ([c] < [97]))=true;rw[lt1,decide_eq_false (by omega)];rfl
      refine ifT e1 ?_;refine⟨_,_,rfl,rfl,_,rfl,?_⟩;by_cases h2:c<=122
      ·have e2:(!decide ((Str.ofString "z").cps.toList < (⟨#[c]⟩:Str).cps.toList))=true:=by show(!decide ([122] < [c]))=true;rw[lt1,decide_eq_false (by omega)];rfl
       refine ifF (by rw[e2];rfl) ⟨_,rfl,rfl,?_⟩;rw[zhB hc' ha];unfold letB;rw[decide_eq_true h1,decide_eq_true h2];rfl
      ·have e2:(!decide ((Str.ofString "z").cps.toList < (⟨#[c]⟩:Str).cps.toList))=false:=by show(!decide ([122] < [c]))=false;rw[lt1,decide_eq_true (by omega)];rfl
       refine ifT (by rw[e2];rfl) ?_;rw[zb8 hc' (by unfold letB;rw[decide_eq_false h2,Bool.and_false])] at q;exact q
     ·have e1:(!decide ((⟨#[c]⟩:Str).cps.toList < (Str.ofString "a").cps.toList))=false:=by show(!decide ([c] < [97]))=false;rw[lt1,decide_eq_true (by omega)];rfl
      refine ifF e1 ⟨_,rfl,ifT rfl ?_⟩;rw[zb8 hc' (by unfold letB;rw[decide_eq_false h1,Bool.false_and])] at q;exact q
    ·rintro σ H' ⟨k,rfl,rfl,ha⟩;have:x.cps.size=x.cps.toList.length:=by simp
     rw[show x.cps.toList.all letB=true by rw[<-ha];congr 1;exact(Jl (by first | exact Jb _ | simp[Str.length])).symm] at q
     exact q
   ·have e2:decide ((x.length:Int)<=8)=false:=decide_eq_false (by omega);refine ifT (by rw[e2];rfl) ?_;rw[decide_eq_false h2,Bool.false_and] at q;exact q
  ·refine ifF (decide_eq_false (by omega)) ⟨_,rfl,ifT rfl ?_⟩;rw[decide_eq_false h1,Bool.false_and,Bool.false_and] at q;exact q
 | bl b=>exact ifT rfl q
 | non=>exact ifT rfl q
 | int i=>exact ifT rfl q
 | tup e l h=>exact ifT rfl q
 | lst e=>exact ifT rfl q
 | dic e=>exact ifT rfl q
 | exc e=>exact ifT rfl q
end
end Pv
namespace Pv
open PySem L2
noncomputable abbrev zeZ:Stmt:=top 89
noncomputable abbrev ze0:Stmt:=top 90
noncomputable abbrev zfc:Stmt:=top 91
noncomputable abbrev zdU:Stmt:=top 92
noncomputable def zo (H:Hp)(r:Addr):Prop:=∃a b m:Int,H r=some (.lst [.int a,.int b,.int m])/\0<=b/\b < 4294967296
inductive zim (K:QA) (vs:QQ) (H:Hp) (Q:L2.VK) (_E:XK):Prop
 | mk (a:Addr) (ns:List Int) (c k:Int) (_:vs=[.ref a,.int c,.int k]) (_:SqL K H a (ns.map V.int)) (_:ns.length<=63) (_:∀(r:Addr) (H':Hp),Same H H'->zo H' r->H r=none->Q (.ref r) H'):zim K vs H Q _E
inductive zbD (vs:QQ) (H:Hp) (Q:L2.VK) (_E:XK):Prop
 | mk (row:Addr) (many:Int) (_:vs=[.ref row,.int many]) (_:zo H row) (_:0 < many) (_:many < 10 ^ 100) (_:∀(r:Int) (H':Hp),0<=r->r < many->Frm [row] H H'->zo H' row->Q (.int r) H'):zbD vs H Q _E
inductive zjQ (vs:QQ) (H:Hp) (Q:L2.VK) (_E:XK):Prop
 | mk (row:Addr) (most:Int) (_:vs=[.ref row,.int most]) (_:zo H row) (_:0<=most) (_:most<=22) (_:∀(l:List Nat) (H':Hp),l.length<=22->Frm [row] H H'->zo H' row->Q (.str (tx l)) H'):zjQ vs H Q _E
inductive zmZ (vs:QQ) (H:Hp) (Q:L2.VK) (_E:XK):Prop
 | mk (row:Addr) (_:vs=[.ref row]) (_:zo H row) (_:(∀(l:List Nat) (H':Hp),l.length<=22->Frm [row] H H'->zo H' row->Q (.str (tx l)) H')) (_:(∀(i:Int) (H':Hp),i.natAbs<=10 ^ 12->Frm [row] H H'->zo H' row->Q (.int i) H')):zmZ vs H Q _E
theorem zo.new {H:Hp}{row p:Addr}{o:HO}(r:zo H row)(h:H p=none):zo (upd H p o) row:=by obtain⟨a,b,m,e,x⟩:=r;exact⟨a,b,m,by rw[zf (zg e h)];exact e,x⟩
theorem zo.ne {H:Hp}{row p:Addr}(r:zo H row)(h:H p=none):p≠row:=λz=>by obtain⟨a,b,m,e,x⟩:=r;rw[z,e] at h;cases h
theorem zo.keep {H H':Hp}{row:Addr}(r:zo H row)(s:Same H H'):zo H' row:=by obtain⟨a,b,m,e,x⟩:=r;exact⟨a,b,m,s _ _ e,x⟩
noncomputable abbrev SO:Str:=Str.ofString "abcdefghijklmnopqrstuvwxyz ABCDEFGHIJKLMNOPQRSTUVWXYZ0123456789!\"#$&()*+,-./:<=>?\x40[\\]^_`{|}~"
theorem zqy:0 < SO.length/\SO.length<=100:=by decide+kernel
theorem ziA {x:Str}{r:Int}(h0:0<=r)(h1:r < (x.length:Int)):∃c,atI x.cps.toList r=some c:=by obtain⟨c,_,e⟩:=zaa (xs:=x.cps.toList) h0 (by rw[Array.length_toList];exact h1);exact⟨c,e⟩
theorem zc0 (l:List Nat)(c:Nat):tx l++(⟨#[c]⟩:Str)=tx (l++ [c]):=zq8 l [c]
section
variable {P:Program}{w:World}{K:QA}{mg:QB}{base:Heap}
theorem zos (D:Dfn K mg "_law_draw" ze0 ["hand","limit"]):Fn P w K mg base "_law_draw" 1 ["hand","limit"] zbD:=by
 refine D.ok (k:=0) (L2.fsN ["hand","limit","got"]) (λf cdv A outer s H vs Q E hr h=>?_);obtain⟨row,many,rfl,⟨a,b,m,e,b0,b1⟩,h0,h1,q⟩:=h;refine⟨_,(by ac_rfl),?_⟩;refine⟨_,rfl,row,_,_,_,rfl,rfl,SqL.of e,rfl,rfl,_,rfl,?_⟩;rw[zai];refine ifB (λc=>?_) (λc=>?_)
 ·refine⟨_,rfl,row,_,_,_,rfl,rfl,SqL.of e,rfl,_,rfl,_,_,rfl,rfl,h0,?_⟩;refine⟨_,rfl,row,_,_,_,rfl,rfl,SqL.of e,rfl,_,rfl,_,_,rfl,rfl,⟨h0,h1⟩,_,rfl,row,_,_,_,rfl,rfl,e,rfl,?_⟩;exact⟨_,rfl,q _ _ (Int.emod_nonneg _ (by omega)) (Int.emod_lt_of_pos _ h0) (Frm.upd (by simp)) ⟨_,_,_,za,b0,b1⟩⟩
 ·refine⟨_,rfl,row,_,_,_,rfl,rfl,SqL.of e,rfl,_,rfl,row,_,_,_,rfl,rfl,SqL.of e,rfl,_,_,rfl,rfl,.inl ⟨by omega,by omega⟩,_,_,rfl,rfl,(show(0:Int) < 2147483629 by decide),_,_,rfl,rfl,_,rfl,row,_,_,_,rfl,rfl,e,rfl,?_⟩;have g0:0<=b * b % 2147483629:=Int.emod_nonneg _ (by decide);have g1:b * b % 2147483629 < 2147483629:=Int.emod_lt_of_pos _ (by decide);refine⟨_,rfl,row,_,_,_,rfl,rfl,SqL.of za,rfl,_,_,rfl,rfl,.inr ⟨by decide,by decide⟩,_,_,rfl,rfl,(show(0:Int) < 2147483563 by decide),_,_,rfl,rfl,⟨by decide,by decide⟩,_,rfl,_,_,rfl,rfl,h0,?_⟩;exact q _ _ (Int.emod_nonneg _ (by omega)) (Int.emod_lt_of_pos _ h0) (Frm.upd (by simp)) ⟨_,_,_,za,by omega,by omega⟩
theorem zoJ (D:Dfn K mg "_law_hand" zeZ ["script","cell","k"]) (zpT:mg "sum" =none):Fn P w K mg base "_law_hand" 1 ["script","cell","k"] (zim K):=by
 refine D.ok (k:=0) (L2.fsN ["script","cell","k","way"]) (λf cdv A outer s H vs Q E hr h=>?_);obtain⟨a,ns,c,k,rfl,hS,hl,q⟩:=h;refine⟨_,(zc (by ac_rfl)
 (zc (zV (zG (ze9 hr) (pv 0) (by ac_rfl) (zO _))
 (by ac_rfl)
 zy)
 (by ac_rfl))),?_⟩
 refine zk (fun σ H'=>σ=[some (.ref a),some (.int c),some (.int k),some (.int 0)]/\H'=H) (λN n=>n _ _ ⟨rfl,rfl⟩) ?_;rintro σ H0 ⟨rfl,hH⟩;rw[hH];clear hH H0;refine zk (fun σ H'=>∃m:Int,σ=[some (.ref a),some (.int c),some (.int k),some (.int m)]/\Same H H') (λN n=>?_) ?_
 ·refine⟨_,rfl,szl (show 0<=1000 by decide),λp hp=>?_⟩;have s0:Same H (upd H p (.lst [])):=zh (Same.refl H) hp;have e0:upd H p (.lst []) p=some (.lst []):=za;generalize upd H p (.lst [])=H0 at s0 e0;refine⟨a,p,_,rfl,rfl,s0.seq hS,SqL.of e0,_,rfl,ifB (λ_=>?_) (λ_=>?_)⟩
  ·exact⟨_,rfl,a,ns,rfl,s0.seq hS,_,_,rfl,rfl,(show(0:Int) < 2 by decide),n _ _ ⟨_,rfl,s0⟩⟩
  ·exact n _ _ ⟨_,rfl,s0⟩
 rintro σ H' ⟨m,rfl,sm⟩;refine⟨_,rfl,_,rfl,_,_,rfl,rfl,(show(0:Int) < 2147483629 by decide),_,rfl,_,_,rfl,rfl,.inl ⟨by decide,by decide⟩,_,_,rfl,rfl,_,_,rfl,rfl,_,_,rfl,rfl,.inr ⟨by decide,by decide⟩,_,_,rfl,rfl,(show(0:Int) < 2147483647 by decide),_,rfl,szl (show 3<=1000 by decide),λr hr=>?_⟩;have g0:0<=(c % 2147483629+7919 * k+1) * 48271 % 2147483647:=Int.emod_nonneg _ (by decide);have g1:(c % 2147483629+7919 * k+1) * 48271 % 2147483647 < 2147483647:=Int.emod_lt_of_pos _ (by decide);refine q r _ (zh sm hr) ⟨_,_,_,za,g0,?_⟩ (sm.free hr);generalize(c % 2147483629+7919 * k+1) * 48271 % 2147483647=z at g1;omega
theorem zqo (D:Dfn K mg "_law_text" zfc ["hand","most"]) (zas:Fn P w K mg base "_law_draw" 1 ["hand","limit"] zbD) (zah:mg "range" =none) (zx:mg "len" =none):Fn P w K mg base "_law_text" 2 ["hand","most"] zjQ:=by
 refine D.ok (k:=1) (L2.fsN ["hand","most","some","text","k"]) (λf cdv A outer s H vs Q E hr h=>?_);obtain⟨row,most,rfl,hd,h0,h1,q⟩:=h;refine⟨_,(zc (by ac_rfl)
 (zc (by ac_rfl)
 (zc (zam PassesOwn.never rfl (by ac_rfl) (by ac_rfl)
 (zm (setA 3 rfl (zdP za1 (pv 3) (zaK zeM (pv 2) (zpy zas hr (zH (pv 0) (zH (zv (zR) (by rfl) zx (by rfl) (by ac_rfl)) za6))) (λ_ _=>rfl))))))
 (by ac_rfl)))),?_⟩
 refine⟨_,rfl,_,rfl,_,_,rfl,rfl,row,_,rfl,hd,by omega,by omega,λr H1 r0 r1 f1 hd1=>?_⟩;refine⟨_,rfl,by omega,by omega,?_⟩;obtain⟨o0,o1⟩:=zqy;refine zbs (n:=r.toNat) (λi σ H'=>∃(l:List Nat) (kk:Option V),σ=[some (.ref row),some (.int most),some (.str SO),some (.str (tx l)),kk]/\l.length=i/\Frm [row] H H'/\zo H' row) ⟨[],_,rfl,rfl,f1,hd1⟩ ?_ ?_
 ·rintro i σ H' hi ⟨l,kk,rfl,hl,f3,R3⟩;refine⟨_,rfl,_,rfl,_,rfl,_,rfl,SO,rfl,szl (by omega),row,_,rfl,R3,by omega,by omega,λu H4 u0 u1 f4 R4=>?_⟩;obtain⟨c,ec⟩:=ziA u0 u1;refine⟨SO,_,c,rfl,rfl,szl (by omega),ec,?_⟩;refine⟨_,_,rfl,rfl,szl (show(tx l).length+1<=1000 by rw[zab];omega),l++ [c],some (.int (0+(i:Int))),?_,by rw[List.length_append,hl];rfl,f3.trans f4,R4⟩;rw[zc0];rfl
 ·rintro σ H' ⟨l,kk,rfl,hl,f3,R3⟩;exact⟨_,rfl,q l H' (by omega) f3 R3⟩
end
noncomputable def strB:V->Bool
 | .str y=>decide (y.length<=22)
 | _=>false
noncomputable def intB:V->Bool
 | .int i=>decide (i.natAbs<=1000000000000)
 | _=>false
theorem zoz {xs:QQ}{x:V}(h:xs.all strB=true)(m:x∈xs):∃y:Str,x=.str y/\y.length<=22:=by
 have:=Jj.mp h x m;cases x with
 | str y=>exact⟨y,rfl,Jo this⟩
 | _=>cases this
theorem znU {xs:QQ}{x:V}(h:xs.all intB=true)(m:x∈xs):∃i:Int,x=.int i/\i.natAbs<=10 ^ 12:=by
 have:=Jj.mp h x m;cases x with
 | int y=>exact⟨y,rfl,Jo this⟩
 | _=>cases this
theorem zlO {H1 H2:Hp}{row p:Addr}{xs:QQ}{r:Int}(h:xs.all strB=true)(hl:xs.length=8)(hd:zo H1 row)(hp:H1 p=none)(f2:Frm [row] (upd H1 p (.lst xs)) H2)(r0:0<=r)(r1:r < 8):∃y:Str,atI xs r=some (.str y)/\y.length<=22/\H2 p=some (.lst xs):=by obtain⟨x,mx,ex⟩:=zaa (xs:=xs) r0 (by rw[hl];exact r1);obtain⟨y,rfl,hy⟩:=zoz h mx;exact⟨y,ex,hy,f2.at za (not1 (hd.ne hp))⟩
theorem zmz {H1 H2:Hp}{row p:Addr}{xs:QQ}{r:Int}(h:xs.all intB=true)(hl:xs.length=8)(hd:zo H1 row)(hp:H1 p=none)(f2:Frm [row] (upd H1 p (.lst xs)) H2)(r0:0<=r)(r1:r < 8):∃i:Int,atI xs r=some (.int i)/\i.natAbs<=10 ^ 12/\H2 p=some (.lst xs):=by obtain⟨x,mx,ex⟩:=zaa (xs:=xs) r0 (by rw[hl];exact r1);obtain⟨y,rfl,hy⟩:=znU h mx;exact⟨y,ex,hy,f2.at za (not1 (hd.ne hp))⟩
section
variable {P:Program}{w:World}{K:QA}{mg:QB}{base:Heap}
theorem zq2 (D:Dfn K mg "_law_value" zdU ["hand"]) (zas:Fn P w K mg base "_law_draw" 1 ["hand","limit"] zbD) (zi1:Fn P w K mg base "_law_text" 2 ["hand","most"] zjQ):Fn P w K mg base "_law_value" 3 ["hand"] zmZ:=by
 refine D.ok (k:=2) (L2.fsN ["hand","kind"]) (λf cdv A outer s H vs Q E hr h=>?_);obtain⟨row,rfl,hd,q1,q2⟩:=h;refine⟨_,(by ac_rfl),?_⟩;have q1':∀(y:Str) (H':Hp),y.length<=22->Frm [row] H H'->zo H' row->Q (.str y) H':=λy H' a b c=>by have:=q1 y.cps.toList H' (by rw[Array.length_toList];exact a) b c;rw[zjE] at this;exact this
 refine⟨_,rfl,row,_,rfl,hd,(show(0:Int) < 5 by decide),(by decide+kernel),λkind H1 k0 k1 f1 hd1=>?_⟩;refine⟨_,rfl,rfl,_,rfl,ifB (λ_=>?_) (λ_=>?_)⟩
 ·refine⟨_,rfl,_,_,rfl,rfl,p12,_,_,rfl,rfl,.inl ⟨by decide,by decide⟩,_,_,rfl,rfl,row,_,rfl,hd1,(by decide+kernel),(by decide+kernel),λr H2 r0 r1 f2 hd2=>?_⟩;refine⟨_,_,rfl,rfl,p12,_,_,rfl,rfl,q2 _ _ ?_ (f1.trans f2) hd2⟩;rw[show(10:Int) ^ (12:Int).toNat=1000000000000 from rfl] at *;show(r - 1000000000000).natAbs<=10 ^ 12;omega
 refine⟨_,rfl,rfl,_,rfl,ifB (λ_=>?_) (λ_=>?_)⟩
 ·refine⟨_,rfl,szl (show 2<=1000 by decide),λp hp=>?_⟩;have hd1':=hd1.new (o:=.lst [.int 3,.int 20]) hp;refine⟨_,rfl,row,_,rfl,hd1',(show(0:Int) < 2 by decide),(by decide+kernel),λr H2 r0 r1 f2 hd2=>?_⟩;obtain⟨x,mx,ex⟩:=zaa (xs:=[V.int 3,.int 20]) r0 r1;have hx:∃m:Int,x=.int m/\0<=m/\m<=22:=by simp only[List.mem_cons,List.not_mem_nil,or_false] at mx;rcases mx with rfl | rfl <;> exact⟨_,rfl,by decide,by decide⟩
  obtain⟨m,rfl,m0,m1⟩:=hx;refine⟨p,_,_,_,rfl,rfl,SqL.of (f2.at za (not1 (hd1.ne hp))),ex,?_⟩;exact⟨row,m,rfl,hd2,m0,m1,λl H3 hl f3 hd3=>q1 l H3 hl ((zcY f1 hp).trans (f2.trans f3)) hd3⟩
 refine⟨_,rfl,rfl,_,rfl,ifB (λ_=>?_) (λ_=>?_)⟩
 ·refine⟨szl (show 8<=1000 by decide),λp hp=>?_⟩;refine⟨_,rfl,row,_,rfl,hd1.new hp,(show(0:Int) < 8 by decide),(by decide+kernel),λr H2 r0 r1 f2 hd2=>?_⟩;obtain⟨y,ey,hy,ep⟩:=zlO (by decide+kernel) rfl hd1 hp f2 r0 r1;exact⟨p,_,_,_,rfl,rfl,SqL.of ep,ey,q1' y _ hy ((zcY f1 hp).trans f2) hd2⟩
 ·refine⟨_,rfl,_,rfl,_,_,rfl,rfl,p12,_,_,rfl,rfl,p12,_,_,rfl,rfl,szl (show 8<=1000 by decide),λp hp=>?_⟩;refine⟨_,rfl,row,_,rfl,hd1.new hp,(show(0:Int) < 8 by decide),(by decide+kernel),λr H2 r0 r1 f2 hd2=>?_⟩;obtain⟨y,ey,hy,ep⟩:=zmz (by decide+kernel) rfl hd1 hp f2 r0 r1;exact⟨p,_,_,_,rfl,rfl,SqL.of ep,ey,q2 y _ hy ((zcY f1 hp).trans f2) hd2⟩
end
end Pv
namespace Pv
open PySem L2
noncomputable abbrev zbE:Stmt:=top 69
noncomputable def zB:List Ob->List Str
 | []=>[]
 | .str x::r=>x::zB r
 | _::r=>zB r
noncomputable def zag (ts:List Ob):Bool:=decide (1<=ts.length) && decide (ts.length<=6) && ts.all zA && decide (zB ts).Nodup
inductive zgw (K:QA) (CN:Addr) (vs:QQ) (H:Hp) (Q:L2.VK) (_E:XK):Prop
 | mk (a:Addr) (ys:QQ) (ts:List Ob) (_:vs=[.ref a]) (_:SqL K H a ys) (_:ys.length=ts.length) (_:ts.length<=100) (_:(∀(i:Nat) (x:V) (t:Ob),ys[i]? =some x->ts[i]? =some t->RepO CN H t x)) (_:(∀t∈ts,TxO t)) (_:Q (.bl (zag ts)) H):zgw K CN vs H Q _E
inductive zgD (K:QA) (CN:Addr) (vs:QQ) (H:Hp) (Q:L2.VK) (_E:XK):Prop
 | mk (a:Addr) (ys:QQ) (ts:List Ob) (_:vs=[.ref a]) (_:SqT K H a ys) (_:ys.length=ts.length) (_:ts.length<=100) (_:(∀(i:Nat) (x:V) (t:Ob),ys[i]? =some x->ts[i]? =some t->RepO CN H t x)) (_:(∀t∈ts,TxO t)) (_:Q (.bl (zag ts)) H):zgD K CN vs H Q _E
theorem strs_map:∀{ts:List Ob},(∀t∈ts,zA t=true)->ts=(zB ts).map Ob.str:=by
 intro ts
 induction ts with
 | nil=>intro _;rfl
 | cons t r ih=>
  intro h;have h0:=h t List.mem_cons_self;have e:=ih λu hu=>h u (Jh _ hu);cases t with
  | str x=>show _=Ob.str x::_;rw[<-e]
  | _=>cases h0
theorem zbt {CN:Addr}{H:Hp}{ys:QQ}{ts:List Ob}(hl:ys.length=ts.length)(rp:∀(i:Nat) (x:V) (t:Ob),ys[i]? =some x->ts[i]? =some t->RepO CN H t x)(eo:ts=(zB ts).map Ob.str):ys=(zB ts).map V.str:=by
 have hs:(zB ts).length=ts.length:=by rw[<-List.length_map (f:=Ob.str),<-eo]
 apply List.ext_getElem?;intro i;by_cases hi:i < ys.length
 ·have hy:ys[i]? =some ys[i]:=List.getElem?_eq_getElem hi;have hu:(zB ts)[i]? =some ((zB ts)[i]'(by omega)):=List.getElem?_eq_getElem (by omega);have ht:ts[i]? =some (Ob.str ((zB ts)[i]'(by omega))):=(congrArg (λl:List Ob=>l[i]?) eo).trans (by show(List.map Ob.str (zB ts))[i]? =_;rw[List.getElem?_map,hu];rfl);have r:=rp i _ _ hy ht;rw[hy,List.getElem?_map,hu];generalize(zB ts)[i]'(by omega)=x at r;generalize ys[i]=v at r;cases r
  rfl
 ·rw[List.getElem?_eq_none (by omega),List.getElem?_eq_none (by rw[List.length_map];omega)]
theorem zlp {us:QP}:∀i,i<=us.length->(Px.cD us i=i↔(us.take i).Nodup)
 | 0,_=>by simp[Px.cD]
 | i+1,h=>by
  have ih:=zlp (us:=us) i (by omega);have hu:us[i]? =some us[i]:=List.getElem?_eq_getElem (by omega);have le:=Px.zfs us i;have ed:us.getD i ⟨#[]⟩=us[i]:=by rw[List.getD_eq_getElem?_getD,hu];rfl
  rw[List.take_add_one,hu];show Px.cD us (i+1)=i+1↔(us.take i++ [us[i]]).Nodup;rw[List.nodup_append];unfold Px.cD;rw[ed];by_cases c:us[i]∈us.take i
  ·rw[if_pos (List.contains_iff_mem.mpr c)];constructor
   ·intro z;omega
   ·intro z;exact Je rfl (z.2.2 _ c _ (List.mem_singleton.mpr rfl))
  ·rw[if_neg (λz=>c (List.contains_iff_mem.mp z))];constructor
   ·intro z;exact⟨ih.mp (by omega),by simp,λa ha b hb=>by rw[List.mem_singleton.mp hb];exact λz=>c (z ▸ ha)⟩
   ·intro z;have:=ih.mpr z.1;omega
section
variable {P:Program}{w:World}{K:QA}{mg:QB}{base:Heap}{t1 t2 t3 t4 t5:Tok}{CN:Addr}
theorem zl3 (D:Dfn K mg "are_columns" zbE ["given"]) (zbC:Fn P w K mg base "is_name" 1 ["thing"] (zba CN)) (zx:mg "len" =none) (zgc:mg "set" =none) (zay:mg "MOST_COLUMNS" =some (.int 6 t3)):Fn P w K mg base "are_columns" 2 ["given"] (zgw K CN):=by
 refine D.ok (k:=1) (L2.fsN ["given","column"]) (λf cdv A outer s H vs Q E hr h=>?_);obtain⟨a,ys,ts,rfl,sq,hl,h100,rp,tx',q⟩:=h;refine⟨_,(zc (by ac_rfl)
 (zc (by ac_rfl)
 (zm (zZ (z8 znl (zfM rfl (by ac_rfl) (by rfl) zx (by rfl) zgc) (by ac_rfl) (zO _)))))),?_⟩
 unfold zag at q;refine⟨_,rfl,a,ys,rfl,.inl sq,?_⟩;refine⟨_,_,rfl,rfl,_,rfl,?_⟩;by_cases h1:1<=ts.length
 ·refine ifT (decide_eq_true (by omega)) ?_;refine⟨_,_,rfl,rfl,_,rfl,?_⟩;rw[decide_eq_true h1,Bool.true_and] at q;by_cases h2:ts.length<=6
  ·have e2:decide ((ys.length:Int)<=6)=true:=decide_eq_true (by omega);refine ifF (by rw[e2];rfl) ?_;rw[decide_eq_true h2,Bool.true_and] at q;refine⟨_,rfl,a,rfl,⟨_,sq⟩,?_⟩;refine zb0 (xs:=ys) (λi σ H'=>∃k,σ=[some (.ref a),k]/\H'=H/\(ts.take i).all zA=true) ⟨_,rfl,rfl,rfl⟩ ?_ ?_ ?_
   ·rintro i σ H' _ ⟨k,rfl,rfl,_⟩;exact sq
   ·rintro i y σ H' hy ⟨k,rfl,rfl,ha⟩;have hi:i < ts.length:=by rw[<-hl];exact(List.getElem?_eq_some_iff.mp hy).1
    have ht:ts[i]? =some ts[i]:=List.getElem?_eq_getElem hi;refine⟨_,rfl,ts[i],y,rfl,rp i y _ hy ht,tx' _ (Jn hi),?_⟩;cases z:zA ts[i] with
    | true=>refine⟨_,rfl,ifF rfl ⟨_,rfl,rfl,?_⟩⟩;rw[List.take_add_one,ht,List.all_append,ha];show(true && (zA ts[i] && true))=true;rw[z];rfl
    | false=>
     refine⟨_,rfl,ifT rfl ?_⟩;have:ts.all zA=false:=by
      cases y:ts.all zA with
      | false=>rfl
      | true=>rw[Jj.mp y _ (Jn hi)] at z;cases z
     rw[this,Bool.false_and] at q;exact q
   ·rintro σ H' ⟨k,rfl,rfl,ha⟩;rw[hl,List.take_length] at ha;rw[ha,Bool.true_and] at q;have eo:=strs_map (Jj.mp ha);have ey:=zbt hl rp eo;have hs:(zB ts).length=ts.length:=by rw[<-List.length_map (f:=Ob.str),<-eo]
    refine⟨_,rfl,a,zB ts,rfl,.inl (ey ▸ sq),by omega,?_⟩;refine⟨_,rfl,a,ys,rfl,.inl sq,?_⟩;refine⟨rfl,?_⟩;show Q (.bl (decide (V.int _=V.int _))) _;rw[zai];have nd:=zlp (us:=zB ts) _ (Jb _);rw[List.take_length] at nd;have e:decide ((Px.cD (zB ts) (zB ts).length:Int)=(ys.length:Int))=decide (zB ts).Nodup:=decide_eq_decide.mpr ⟨λz=>nd.mp (by omega),λz=>by have:=nd.mpr z;omega⟩;rw[e];exact q
  ·have e2:decide ((ys.length:Int)<=6)=false:=decide_eq_false (by omega);refine ifT (by rw[e2];rfl) ?_;rw[decide_eq_false h2,Bool.false_and,Bool.false_and] at q;exact q
 ·refine ifF (decide_eq_false (by omega)) ⟨_,rfl,ifT rfl ?_⟩;rw[decide_eq_false h1,Bool.false_and,Bool.false_and,Bool.false_and] at q;exact q
theorem znb (D:Dfn K mg "are_columns" zbE ["given"]) (zbC:Fn P w K mg base "is_name" 1 ["thing"] (zba CN)) (zx:mg "len" =none) (zgc:mg "set" =none) (zay:mg "MOST_COLUMNS" =some (.int 6 t3)):Fn P w K mg base "are_columns" 2 ["given"] (zgD K CN):=by
 refine D.ok (k:=1) (L2.fsN ["given","column"]) (λf cdv A outer s H vs Q E hr h=>?_);obtain⟨a,ys,ts,rfl,sq,hl,h100,rp,tx',q⟩:=h;refine⟨_,(zc (by ac_rfl)
 (zc (zam PassesOwn.never rfl (zgK (pv 0)) (by ac_rfl)
 (by ac_rfl))
 (zm (zZ (z8 znl (zfM rfl (by ac_rfl) (by rfl) zx (by rfl) zgc) (by ac_rfl) (zO _)))))),?_⟩
 unfold zag at q;refine⟨_,rfl,a,ys,rfl,.inr sq,?_⟩;refine⟨_,_,rfl,rfl,_,rfl,?_⟩;by_cases h1:1<=ts.length
 ·refine ifT (decide_eq_true (by omega)) ?_;refine⟨_,_,rfl,rfl,_,rfl,?_⟩;rw[decide_eq_true h1,Bool.true_and] at q;by_cases h2:ts.length<=6
  ·have e2:decide ((ys.length:Int)<=6)=true:=decide_eq_true (by omega);refine ifF (by rw[e2];rfl) ?_;rw[decide_eq_true h2,Bool.true_and] at q;refine⟨_,rfl,a,rfl,⟨_,sq⟩,?_⟩;refine zgj (xs:=ys) (λi σ H'=>∃k,σ=[some (.ref a),k]/\H'=H/\(ts.take i).all zA=true) ⟨_,rfl,rfl,rfl⟩ ?_ ?_ ?_
   ·rintro i σ H' _ ⟨k,rfl,rfl,_⟩;exact sq
   ·rintro i y σ H' hy ⟨k,rfl,rfl,ha⟩;have hi:i < ts.length:=by rw[<-hl];exact(List.getElem?_eq_some_iff.mp hy).1
    have ht:ts[i]? =some ts[i]:=List.getElem?_eq_getElem hi;refine⟨_,rfl,ts[i],y,rfl,rp i y _ hy ht,tx' _ (Jn hi),?_⟩;cases z:zA ts[i] with
    | true=>refine⟨_,rfl,ifF rfl ⟨_,rfl,rfl,?_⟩⟩;rw[List.take_add_one,ht,List.all_append,ha];show(true && (zA ts[i] && true))=true;rw[z];rfl
    | false=>
     refine⟨_,rfl,ifT rfl ?_⟩;have:ts.all zA=false:=by
      cases y:ts.all zA with
      | false=>rfl
      | true=>rw[Jj.mp y _ (Jn hi)] at z;cases z
     rw[this,Bool.false_and] at q;exact q
   ·rintro σ H' ⟨k,rfl,rfl,ha⟩;rw[hl,List.take_length] at ha;rw[ha,Bool.true_and] at q;have eo:=strs_map (Jj.mp ha);have ey:=zbt hl rp eo;have hs:(zB ts).length=ts.length:=by rw[<-List.length_map (f:=Ob.str),<-eo]
    refine⟨_,rfl,a,zB ts,rfl,.inr (ey ▸ sq),by omega,?_⟩;refine⟨_,rfl,a,ys,rfl,.inr sq,?_⟩;refine⟨rfl,?_⟩;show Q (.bl (decide (V.int _=V.int _))) _;rw[zai];have nd:=zlp (us:=zB ts) _ (Jb _);rw[List.take_length] at nd;have e:decide ((Px.cD (zB ts) (zB ts).length:Int)=(ys.length:Int))=decide (zB ts).Nodup:=decide_eq_decide.mpr ⟨λz=>nd.mp (by omega),λz=>by have:=nd.mpr z;omega⟩;rw[e];exact q
  ·have e2:decide ((ys.length:Int)<=6)=false:=decide_eq_false (by omega);refine ifT (by rw[e2];rfl) ?_;rw[decide_eq_false h2,Bool.false_and,Bool.false_and] at q;exact q
 ·refine ifF (decide_eq_false (by omega)) ⟨_,rfl,ifT rfl ?_⟩;rw[decide_eq_false h1,Bool.false_and,Bool.false_and,Bool.false_and] at q;exact q
end
end Pv
namespace Pv
open PySem L2
noncomputable abbrev zdV:Stmt:=top 70
noncomputable abbrev zfO:Stmt:=top 72
noncomputable def tabT (cs:QP):Th:=.tup [.tup (cs.map Th.str),.int 0,.tup []]
noncomputable def zdD (cs:QP):Prop:=zag (cs.map Ob.str)=true/\∀x∈cs,x.length<=900
inductive ziR (vs:QQ) (H:Hp) (Q:L2.VK) (_E:XK):Prop
 | mk (v:V) (m:Int) (_:vs=[v,.int m]) (_:Rep H (.tup []) v) (_:∀H',Same H H'->Q (.bl true) H'):ziR vs H Q _E
inductive znn (vs:QQ) (H:Hp) (Q:L2.VK) (_E:XK):Prop
 | mk (cs:QP) (v:V) (_:vs=[v]) (_:Rep H (tabT cs) v) (_:zdD cs) (_:∀H',Same H H'->Q (.bl true) H'):znn vs H Q _E
section
variable {P:Program}{w:World}{K:QA}{mg:QB}{base:Heap}{t1 t2 t3 t4 t5:Tok}{CN:Addr}
theorem zok (D:Dfn K mg "are_orders" zdV ["thing","many"]) (zd:mg "isinstance" =none) (zY:mg "tuple" =none):Fn P w K mg base "are_orders" 1 ["thing","many"] ziR:=by
 refine D.ok (k:=0) (L2.fsN ["thing","many","last","order"]) (λf cdv A outer s H vs Q E hr h=>?_);obtain⟨v,m,rfl,rv,q⟩:=h;refine⟨_,(zc (zV (zaN (zbL (zv (zJ) (by rfl) zd (by rfl) (zH (pv 0) (zH (zji (v:=.ty "tuple") (by rfl) zY (by rfl) rfl) za6)))))
 (zm (zZ zmt))
 zy)
 (zc (zmH (i:=2) (L2.zc5 rfl) rfl (Or.inl rfl) zap)
 (zc (zam PassesOwn.never rfl (zgK (pv 0)) (zcg (i:=3) (L2.zc5 rfl) rfl (Or.inl rfl))
 zkO)
 (zm (zZ zmt))))),?_⟩
 cases rv with
 | @tup p xs _ e1 l1 h1=>
 have hx:xs=[]:=List.eq_nil_of_length_eq_zero l1;subst hx;refine⟨_,rfl,_,_,_,_,rfl,.tup e1,rfl,_,rfl,ifF rfl ?_⟩;refine⟨_,rfl,p,rfl,⟨_,SqT.of e1⟩,?_⟩;refine zgj (xs:=[]) (λi σ H'=>σ=[some (.ref p),some (.int m),some (.int 0),none]/\H'=H) ⟨rfl,rfl⟩ ?_ ?_ ?_
 ·rintro i σ H' _ ⟨rfl,rfl⟩;exact SqT.of e1
 ·intro i y σ H' hy;rw[List.getElem?_nil] at hy;cases hy
 ·rintro σ H' ⟨rfl,rfl⟩;exact q _ (Same.refl _)
theorem zq0 (D:Dfn K mg "is_table" zfO ["thing"]) (zfn:Fn P w K mg base "are_columns" 2 ["given"] (zgD K CN)) (zlc:Fn P w K mg base "is_root" 2 ["thing"] zd2) (zo6:Fn P w K mg base "are_orders" 1 ["thing","many"] ziR) (zd:mg "isinstance" =none) (zY:mg "tuple" =none) (zx:mg "len" =none)
  (zcp:mg "COLUMNS" =some (.int 0 t1)) (zgV:mg "ROWS" =some (.int 1 t2)) (zc9:mg "ORDERS" =some (.int 2 t3)):Fn P w K mg base "is_table" 3 ["thing"] znn:=by
 refine D.ok (k:=2) (L2.fsN ["thing","columns"]) (λf cdv A outer s H vs Q E hr h=>?_);obtain⟨cs,v,rfl,rv,ok,q⟩:=h;refine⟨_,(by have ι:=0;ac_rfl),?_⟩;obtain⟨a,xs,rfl,ea,r⟩:=Rep.list rv;cases r with
 | cons r0 r=>
 cases r with
 | cons r1 r=>
 cases r with
 | cons r2 r=>
 cases r;obtain⟨b,ys,rfl,eb,rb⟩:=Rep.list r0;refine⟨_,rfl,_,_,_,_,rfl,.tup ea,rfl,_,rfl,ifF rfl ?_⟩;refine⟨_,rfl,a,_,rfl,.inr (SqT.of ea),rfl,_,rfl,ifF rfl ?_⟩;refine⟨_,rfl,a,_,_,_,rfl,rfl,SqT.of ea,rfl,?_⟩;have h6:cs.length<=6:=by have:=ok.1;unfold zag at this;simp only[Bool.and_eq_true,decide_eq_true_eq,List.length_map] at this;exact this.1.1.2
 have hl:ys.length=(cs.map Ob.str).length:=by have:=rb.len;rw[List.length_map] at this ⊢;exact this
 have rO:∀(i:Nat) (x:V) (t:Ob),ys[i]? =some x->(cs.map Ob.str)[i]? =some t->RepO CN H t x:=λi x t h1 h2=>by
  rw[List.getElem?_map] at h2;cases z:cs[i]? with
  | none=>rw[z] at h2;cases h2
  | some y=>rw[z] at h2;cases h2;have r:=rb.at i x (.str y) h1 (by rw[List.getElem?_map,z];rfl);cases r;exact .str y
 refine⟨_,rfl,_,_,_,_,rfl,.tup eb,rfl,_,rfl,ifF rfl ?_⟩;refine⟨_,rfl,b,ys,cs.map Ob.str,rfl,SqT.of eb,hl,by rw[List.length_map];omega,rO,λt ht=>by obtain⟨x,hx,rfl⟩:=List.mem_map.mp ht;exact ok.2 x hx,?_⟩;rw[ok.1];refine⟨_,rfl,ifF rfl ?_⟩;refine⟨_,rfl,a,_,_,_,rfl,rfl,SqT.of ea,rfl,.int 0,_,rfl,r1,_,rfl,ifT rfl ?_⟩;exact⟨_,rfl,a,_,_,_,rfl,rfl,SqT.of ea,rfl,_,rfl,b,_,rfl,.inr (SqT.of eb),_,_,rfl,r2,λH' s=>q H' s⟩
end
end Pv
namespace Pv
open PySem L2
open Tr
theorem zdg (k:Th):zb k k=false:=by
 cases e:zb k k with
 | false=>rfl
 | true=>have:=zK e;rw[e] at this;cases this
theorem zf1 {nd:Nd}{ns:List Nd}{x:Th}(h:nd.k≠x):endW (nd::ns) x=endW ns x:=by
 cases ns with
 | nil=>show(if nd.k=x then nd.w else .non)=.non;rw[if_neg h]
 | cons a r=>unfold endW;rw[List.getLast?_cons_cons]
theorem zoB {x w:Th}:∀{T:Tr},Srt T.ps->(x,w)∈T.ps->endW (wayN x T) x=w:=by
 intro T
 induction T with
 | nil=>intro _ h;cases h
 | node l k v r il ir=>
  intro hs h;obtain⟨s1,s2,s3,s4⟩:=za0 hs;have h:(x,w)∈l.ps++(k,v)::r.ps:=h;by_cases e:k=x
  ·subst e;have ew:endW (wayN k (node l k v r)) k=v:=by unfold wayN;rw[if_pos rfl];show(if k=k then v else .non)=v;rw[if_pos rfl]
   rw[ew];rcases List.mem_append.mp h with h | h
   ·exact Je (s3 _ h) (by show¬zb k k=true;rw[zdg];decide)
   ·rcases List.mem_cons.mp h with h | h
    ·cases h;rfl
    ·exact Je (s4 _ h) (by show¬zb k k=true;rw[zdg];decide)
  ·rw[zd6 e,zf1 (show(ndT l k v r).k≠x from e)];show endW (wayN x (if zb k x=true then r else l)) x=w;rcases List.mem_append.mp h with h | h
   ·have a:=s3 _ h;rw[if_neg (λz=>by have:=zQ (show zb x k=true from a) z;rw[zdg] at this;cases this)];exact il s1 h
   ·rcases List.mem_cons.mp h with h | h
    ·cases h;exact Je rfl e
    ·rw[if_pos (s4 _ h)];exact ir s2 h
theorem znY {x:Th}:∀{T:Tr},(∀p∈T.ps,p.1≠x)->endW (wayN x T) x=.non:=by
 intro T
 induction T with
 | nil=>intro _;rfl
 | node l k v r il ir=>
  intro h;have e:k≠x:=h (k,v) (Jf _ List.mem_cons_self);rw[zd6 e,zf1 (show(ndT l k v r).k≠x from e)];show endW (wayN x (if zb k x=true then r else l)) x=.non;split
  ·exact ir λp hp=>h p (Jf _ (Jh _ hp))
  ·exact il λp hp=>h p (Jk _ hp)
end Pv
namespace Pv
open PySem L2
open Tr
noncomputable abbrev zf7:Stmt:=top 76
structure Tabs (s:Vst)(T:Tr):Prop where
 tk:TOk s.all T
 st:Srt T.ps
 ho:∀p∈T.ps,∃cs,p.2=tabT cs/\zdD cs
inductive zbF (VR:VRT) (CT:Addr) (vs:QQ) (H:Hp) (Q:L2.VK) (E:XK):Prop
 | mk (a:Addr) (D:QO) (s:Vst) (T:Tr) (x:Str) (_:vs=[.ref a,.int T.root,.str x]) (_:VR H a D s) (_:Tabs s T) (_:1000<=s.n) (_:zC x.cps.toList=true) (_:x.length<=900) (_:(∀cs,(.str x,tabT cs)∈T.ps->∀v H' s',Frm D H H'->VR H' a D s'->Go (λ_=>True) 1000 s s'->s'.own=s.own->Rep H' (tabT cs) v->Q v H')) (_:((∀p∈T.ps,p.1≠ .str x)->∀H' s',Frm D H H'->VR H' a D s'->Go (λ_=>True) 1000 s s'->s'.own=s.own->E (.ref CT) none H')):zbF VR CT vs H Q E
section
variable {P:Program}{w:World}{K:QA}{mg:QB}{base:Heap}{t1 t2 t3 t4 t5:Tok}{VR:VRT}{C CN CB CC CT CNA:Addr}
theorem zmA (I:VI C VR)(D:Dfn K mg "table_at" zf7 ["vault","root","name"]) (zsw:FnX P w K mg base "found" 23 ["vault","root","key"] (zej VR CN CB CC)) (zbC:Fn P w K mg base "is_name" 1 ["thing"] (zba CNA)) (zrd:Fn P w K mg base "is_table" 3 ["thing"] znn) (zdA:XP K mg "NoTable" CT) (za7:XP K mg "BadThing" CB):FnX P w K mg base "table_at" 24 ["vault","root","name"] (zbF VR CT):=by
 refine D.okX (k:=23) (L2.fsN ["vault","root","name","worth"]) (λf cdv A outer s0 H vs Q E hr h=>?_);obtain⟨a,Ds,st,T,x,rfl,vr,tb,hn,nx,lx,q1,q2⟩:=h;refine⟨_,(by ac_rfl),?_⟩;have ct:=tb.tk.ct;refine⟨_,rfl,_,rfl,_,rfl,a,Ds,st,T.root,.str x,.str x,rfl,vr,.str x,Nat.zero_le _,?_⟩;unfold Out ziP;rw[Pg.wp_bind];refine zi0 (A:=λ_=>True) tb.tk (by omega) (by omega) (by omega) (λ_ _=>trivial) λs1 g1 o1=>?_;intro v H1 f1 v1 r1;have r1:Rep H1 (endW (wayN (.str x) T) (.str x)) v:=r1;have g9:Go (λ_=>True) 1000 st s1:=g1.mono (by omega);by_cases hx:∃wo,(Th.str x,wo)∈T.ps
 ·obtain⟨wo,hw⟩:=hx;obtain⟨cs,e,ok⟩:=tb.ho _ hw;have e:wo=tabT cs:=e;subst e;rw[zoB tb.st hw] at r1;refine⟨_,rfl,rfl,_,rfl,?_⟩;rw[zbe r1];refine ifF rfl ?_;refine⟨_,rfl,.str x,.str x,rfl,.str x,lx,?_⟩;rw[show zA (.str x)=true from nx];refine⟨_,rfl,ifF rfl ?_⟩;refine⟨_,rfl,cs,v,rfl,r1,ok,λH2 s2=>⟨_,rfl,ifF rfl ?_⟩⟩;exact⟨_,rfl,q1 cs hw v H2 s1 (f1.trans λb o _ e=>s2 b o e) (I.same v1 s2) g9 o1 (r1.keep (Same.tups s2))⟩
 ·have no:∀p∈T.ps,p.1≠ .str x:=λp hp e=>hx ⟨p.2,by rw[<-e];exact hp⟩;rw[znY no] at r1;cases r1;refine⟨_,rfl,rfl,_,rfl,ifT rfl ⟨szl (show 1<=1000 by decide),λe he=>⟨e,CT,none,rfl,za,zdA.cl.q,?_⟩⟩⟩;rw[zbd he];exact q2 no H1 s1 f1 v1 g9 o1
end
end Pv
namespace Pv
open PySem L2
open Tr
noncomputable abbrev zdR:Stmt:=top 77
inductive zgh (VR:VRT) (CT:Addr) (vs:QQ) (H:Hp) (Q:L2.VK) (E:XK):Prop
 | mk (a:Addr) (D:QO) (s:Vst) (T:Tr) (x:Str) (_:vs=[.ref a,.int T.root,.str x]) (_:VR H a D s) (_:Tabs s T) (_:1000<=s.n) (_:zC x.cps.toList=true) (_:x.length<=900) (_:(∀cs,(.str x,tabT cs)∈T.ps->∀v H' s',Frm D H H'->VR H' a D s'->Go (λ_=>True) 1000 s s'->s'.own=s.own->Rep H' (.tup (cs.map Th.str)) v->Q v H')) (_:((∀p∈T.ps,p.1≠ .str x)->∀H' s',Frm D H H'->VR H' a D s'->Go (λ_=>True) 1000 s s'->s'.own=s.own->E (.ref CT) none H')):zgh VR CT vs H Q E
section
variable {P:Program}{w:World}{K:QA}{mg:QB}{base:Heap}{t1 t2 t3 t4 t5:Tok}{VR:VRT}{C CN CB CC CT CNA:Addr}
theorem zmU (D:Dfn K mg "columns_of" zdR ["vault","root","name"]) (zbO:FnX P w K mg base "table_at" 24 ["vault","root","name"] (zbF VR CT)) (zcp:mg "COLUMNS" =some (.int 0 t1)):FnX P w K mg base "columns_of" 25 ["vault","root","name"] (zgh VR CT):=by
 refine D.okX (k:=24) (L2.fsN ["vault","root","name"]) (λf cdv A outer s0 H vs Q E hr h=>?_);obtain⟨a,Ds,st,T,x,rfl,vr,tb,hn,nx,lx,q1,q2⟩:=h;refine⟨_,(by have ι:=0;ac_rfl),?_⟩;refine⟨_,rfl,_,rfl,_,rfl,a,Ds,st,T,x,rfl,vr,tb,hn,nx,lx,λcs hw v H' s' f v' g o r=>?_,λno H' s' f v' g o=>q2 no H' s' f v' g o⟩;obtain⟨p,xs,rfl,ep,rr⟩:=Rep.list r;cases rr with
 | cons r0 rr=>
 cases rr with
 | cons r1 rr=>
 cases rr with
 | cons r2 rr=>
 cases rr;exact⟨p,_,_,_,rfl,rfl,SqT.of ep,rfl,q1 cs hw _ H' s' f v' g o r0⟩
end
end Pv
namespace Pv
open PySem L2
open Tr
noncomputable abbrev zdF:Stmt:=top 83
inductive zit (VR:VRT) (CT CN CB CC:Addr) (vs:QQ) (H:Hp) (Q:L2.VK) (E:XK):Prop
 | mk (a:Addr) (D:QO) (s:Vst) (T:Tr) (x:Str) (_:vs=[.ref a,.int T.root,.str x]) (_:VR H a D s) (_:Tabs s T) (_:4000<=s.n) (_:zC x.cps.toList=true) (_:x.length<=900) (_:(∀u t s',OutE VR CN CB CC a D H E (.clash u t) s')) (_:(∀cs,(.str x,tabT cs)∈T.ps->∀H' s',Frm D H H'->VR H' a D s'->Go (λ_=>True) 4000 s s'->(cutT (.str x) T).InV s'.all->Q (.int (cutT (.str x) T).root) H')) (_:((∀p∈T.ps,p.1≠ .str x)->∀H' s',Frm D H H'->VR H' a D s'->Go (λ_=>True) 1000 s s'->s'.own=s.own->E (.ref CT) none H')):zit VR CT CN CB CC vs H Q E
section
variable {P:Program}{w:World}{K:QA}{mg:QB}{base:Heap}{t1 t2 t3 t4 t5:Tok}{VR:VRT}{C CN CB CC CT CNA:Addr}
theorem zoU (D:Dfn K mg "drop_table" zdF ["vault","root","name"]) (zbO:FnX P w K mg base "table_at" 24 ["vault","root","name"] (zbF VR CT)) (zsE:FnX P w K mg base "cut" 24 ["vault","root","key"] (ziw VR CN CB CC)):FnX P w K mg base "drop_table" 25 ["vault","root","name"] (zit VR CT CN CB CC):=by refine D.okX (k:=24) (L2.fsN ["vault","root","name"]) (λf cdv A outer s0 H vs Q E hr h=>?_);obtain⟨a,Ds,st,T,x,rfl,vr,tb,hn,nx,lx,hc,q1,q2⟩:=h;refine⟨_,(by ac_rfl),?_⟩;refine⟨_,rfl,_,rfl,_,rfl,a,Ds,st,T,x,rfl,vr,tb,by omega,nx,lx,λcs hw v H' s' f v' g o r=>?_,λno H' s' f v' g o=>q2 no H' s' f v' g o⟩;have n1:=g.n;refine⟨_,rfl,_,rfl,_,rfl,a,Ds,s',T.root,.str x,.str x,rfl,v',.str x,Nat.zero_le _,?_⟩;refine zp1 (A:=λ_=>True) (λu t s2=>OutE.on f _ _ (hc u t s2)) (tb.tk.go g) (by omega) (λ_ _=>trivial) (λ_ _=>trivial) λs2 g2 i2=>?_;intro v2 H2 f2 vr2 e2;have e2:v2=.int (cutT (.str x) T).root:=e2;rw[e2];exact q1 cs hw H2 s2 (f.trans f2) vr2 ((g.trans g2).mono (by omega)) i2
end
end Pv
namespace Pv
open PySem L2
open Tr
noncomputable abbrev zjz:Stmt:=top 82
inductive zew (VR:VRT) (vs:QQ) (H:Hp) (Q:L2.VK) (_E:XK):Prop
 | mk (a:Addr) (D:QO) (s:Vst) (T:Tr) (x:Str) (_:vs=[.ref a,.int T.root,.str x]) (_:VR H a D s) (_:Tabs s T) (_:1000<=s.n) (_:zC x.cps.toList=true) (_:x.length<=900) (_:(∀cs,(.str x,tabT cs)∈T.ps->∀H' s',Frm D H H'->VR H' a D s'->Go (λ_=>True) 1000 s s'->s'.own=s.own->Q (.bl true) H')) (_:((∀p∈T.ps,p.1≠ .str x)->∀H' s',Frm D H H'->VR H' a D s'->Go (λ_=>True) 1000 s s'->s'.own=s.own->Q (.bl false) H')):zew VR vs H Q _E
section
variable {P:Program}{w:World}{K:QA}{mg:QB}{base:Heap}{t1 t2 t3 t4 t5:Tok}{VR:VRT}{C CN CB CC CT CNA:Addr}
theorem zkV (I:VI C VR)(D:Dfn K mg "stands" zjz ["vault","root","name"]) (zbO:FnX P w K mg base "table_at" 24 ["vault","root","name"] (zbF VR CT)) (zav:mg "NoTable" =some (.ref CT)) (em:PySem.W.exmOne K (.ref CT) (.ref CT)=some true):Fn P w K mg base "stands" 25 ["vault","root","name"] (zew VR):=by
 refine D.ok (k:=24) (L2.fsN ["vault","root","name"]) (λf cdv A outer s0 H vs Q E hr h=>?_);obtain⟨a,Ds,st,T,x,rfl,vr,tb,hn,nx,lx,q1,q2⟩:=h;refine⟨_,(zc (zon rfl rfl (by rfl) zav (λxe pn E hx=>(by ac_rfl)) (λe=>(by ac_rfl)))
 (by ac_rfl)),?_⟩
 refine⟨_,rfl,_,rfl,_,rfl,a,Ds,st,T,x,rfl,vr,tb,hn,nx,lx,λcs hw v H' s' f v' g o r=>?_,λno H' s' f v' g o=>⟨CT,rfl,em,λe he=>?_⟩⟩
 ·exact q1 cs hw H' s' f v' g o
 ·have sm:Same H' (upd H' e (exO e CT none false)):=zh (Same.refl H') he;exact q2 no _ s' (f.trans λb o _ z=>sm b o z) (I.same v' sm) g o
end
end Pv
namespace Pv
open PySem L2
theorem zhn {x:Str}(h:zC x.cps.toList=true):zpI x:=by unfold zC at h;simp only[Bool.and_eq_true,decide_eq_true_eq] at h;rw[str_len] at h;refine⟨by omega,λc hc=>?_⟩;have:=Jj.mp h.2 c hc;unfold letB at this;simp only[Bool.and_eq_true,decide_eq_true_eq] at this;exact⟨by omega,by omega,by omega⟩
theorem ziZ {cs:QP}(h:zag (cs.map Ob.str)=true):cs.length<=6/\∀x∈cs,zC x.cps.toList=true:=by unfold zag at h;simp only[Bool.and_eq_true,decide_eq_true_eq,List.length_map] at h;exact⟨h.1.1.2,λx hx=>Jj.mp h.1.2 (.str x) (Jq hx)⟩
theorem zmB:∀{cs:QP},(∀x∈cs,zC x.cps.toList=true)->WfL (cs.map Th.str)/\depL (cs.map Th.str)=0/\za2 (cs.map Th.str)=cs.length:=by
 intro cs
 induction cs with
 | nil=>intro _;exact⟨trivial,rfl,rfl⟩
 | cons x r ih=>
  intro h;obtain⟨a,b,c⟩:=ih λy hy=>h y (Jh _ hy);refine⟨⟨zhn (h x List.mem_cons_self),a⟩,?_,?_⟩
  ·show max (dep (.str x)) (depL (r.map Th.str))=0;rw[b];rfl
  ·show nodes (.str x)+za2 (r.map Th.str)=r.length+1;rw[c];show 1+r.length=r.length+1;omega
theorem zhi {x:Str}(h:zC x.cps.toList=true):KeyT (.str x):=⟨zhn h,Nat.zero_le _,(by decide:1<=20),by intro z;cases z⟩
theorem zjX {cs:QP}(ok:zdD cs):KeyT (tabT cs):=by
 obtain⟨h6,hn⟩:=ziZ ok.1;obtain⟨a,b,c⟩:=zmB hn;refine⟨⟨(by show 3<=40;decide),⟨by rw[List.length_map];omega,a⟩,⟨by decide,by decide⟩,⟨by decide,trivial⟩,trivial⟩,?_,?_,by intro z;cases z⟩
 ·show max (depL (cs.map Th.str)+1) (max 0 (max (0+1) 0))+1<=3;rw[b];decide
 ·show 1+((1+za2 (cs.map Th.str))+(1+((1+0)+0)))<=20;rw[c];omega
end Pv
namespace Pv
open PySem L2
open Tr
noncomputable abbrev zdQ:Stmt:=top 81
inductive ziN (VR:VRT) (CNA CNM CT CN CB CC:Addr) (vs:QQ) (H:Hp) (Q:L2.VK) (E:XK):Prop
 | mk (a:Addr) (D:QO) (s:Vst) (T:Tr) (t:Ob) (vn:V) (cl:Addr) (ys:QQ) (ts:List Ob) (_:vs=[.ref a,.int T.root,vn,.ref cl]) (_:VR H a D s) (_:Tabs s T) (_:T.cnt<=299) (_:4000<=s.n) (_:RepO CNA H t vn) (_:TxO t) (_:H cl=some (.lst ys)) (_:ys.length=ts.length) (_:ts.length<=100) (_:(∀(i:Nat) (x:V) (t:Ob),ys[i]? =some x->ts[i]? =some t->RepO CNA H t x)) (_:(∀t∈ts,TxO t)) (_:(∀u t s',OutE VR CN CB CC a D H E (.clash u t) s')) (_:((zA t && zag ts)=false->∀H',Frm D H H'->VR H' a D s->E (.ref CNM) none H')) (_:(∀x cs,t=.str x->(.str x,tabT cs)∈T.ps->(zA t && zag ts)=true->∀H' s',Frm D H H'->VR H' a D s'->Go (λ_=>True) 1000 s s'->s'.own=s.own->E (.ref CT) none H')) (_:(∀x cs,t=.str x->ts=cs.map Ob.str->zC x.cps.toList=true->zdD cs->(∀p∈T.ps,p.1≠ .str x)->∀H' s',Frm D H H'->VR H' a D s'->Go (λ_=>True) 4000 s s'->(putT (.str x) (tabT cs) T).InV s'.all->Q (.int (putT (.str x) (tabT cs) T).root) H')):ziN VR CNA CNM CT CN CB CC vs H Q E
theorem zgq (H:Hp):∀cs:List Str,RepL H (cs.map Th.str) (cs.map V.str)
 | []=>.nil
 | y::r=>.cons (.str y) (zgq H r)
theorem Rep.tupL {H:Hp}{p:Addr}{ts:List Th}{vs:QQ}(e:H p=some (.tup vs))(r:RepL H ts vs):Rep H (.tup ts) (.ref p):=.tup e r.len r.at
section
variable {P:Program}{w:World}{K:QA}{mg:QB}{base:Heap}{t1 t2 t3 t4 t5:Tok}{VR:VRT}{C CN CB CC CT CNA CNM:Addr}
theorem zow (I:VI C VR)(D:Dfn K mg "make_table" zdQ ["vault","root","name","columns"]) (zbC:Fn P w K mg base "is_name" 1 ["thing"] (zba CNA)) (zfn:Fn P w K mg base "are_columns" 2 ["given"] (zgw K CNA)) (zsi:Fn P w K mg base "stands" 25 ["vault","root","name"] (zew VR)) (zsF:FnX P w K mg base "put" 24 ["vault","root","key","worth"] (ziE VR CN CB CC)) (zh6:XP K mg "NoName" CNM) (zdA:XP K mg "NoTable" CT) (zY:mg "tuple" =none):FnX P w K mg base "make_table" 26 ["vault","root","name","columns"] (ziN VR CNA CNM CT CN CB CC):=by
 refine D.okX (k:=25) (L2.fsN ["vault","root","name","columns"]) (λf cdv A outer s0 H vs Q E hr h=>?_);obtain⟨a,Ds,st,T,t,vn,cl,ys,ts,rfl,vr,tb,c9,hn,rt,tx',ec,hl,h100,rp,txs,hc,q1,q2,q3⟩:=h;refine⟨_,(by ac_rfl),?_⟩;refine⟨_,rfl,t,vn,rfl,rt,tx',?_⟩;have bad:(zA t && zag ts)=false->_:=λz=>q1 z H (λ_ _ _ e=>e) vr;cases z1:zA t with
 | false=>refine⟨_,rfl,ifT rfl (ifT rfl ⟨szl (show 1<=1000 by decide),λe he=>⟨e,CNM,none,rfl,za,zh6.cl.q,?_⟩⟩)⟩;rw[zbd he];exact bad (by rw[z1];rfl)
 | true=>
 refine⟨_,rfl,ifF rfl ?_⟩;refine⟨_,rfl,cl,ys,ts,rfl,SqL.of ec,hl,h100,rp,txs,?_⟩;cases z2:zag ts with
 | false=>refine⟨_,rfl,ifT rfl ⟨szl (show 1<=1000 by decide),λe he=>⟨e,CNM,none,rfl,za,zh6.cl.q,?_⟩⟩⟩;rw[zbd he];exact bad (by rw[z1,z2];rfl)
 | true=>
 refine⟨_,rfl,ifF rfl ?_⟩;cases rt with
 | str x=>
  have nx:zC x.cps.toList=true:=z1;have lx:x.length<=900:=tx';have al:ts.all zA=true:=by have:=z2;unfold zag at this;simp only[Bool.and_eq_true] at this;exact this.1.2
  have eo:=strs_map (Jj.mp al);have ey:=zbt hl rp eo;generalize zB ts=cs at eo ey;subst eo;have ok:zdD cs:=⟨z2,λy hy=>txs (.str y) (Jq hy)⟩;refine⟨_,rfl,_,rfl,_,rfl,a,Ds,st,T,x,rfl,vr,tb,by omega,nx,lx,λcs' hw H' s' f v' g o=>?_,λno H' s' f v' g o=>?_⟩
  ·refine⟨_,rfl,ifT rfl ⟨szl (show 1<=1000 by decide),λe he=>⟨e,CT,none,rfl,za,zdA.cl.q,?_⟩⟩⟩;rw[zbd he];exact q2 x cs' rfl hw (by rw[z1,z2];rfl) H' s' f v' g o
  ·refine⟨_,rfl,ifF rfl ?_⟩;have n1:=g.n;have ec':=I.lst vr f ec;refine⟨_,rfl,_,rfl,_,rfl,_,rfl,cl,ys,rfl,.inl ⟨SqL.of ec',λl hl=>?_⟩⟩;refine⟨szl (show 0<=1000 by decide),λl2 hl2=>⟨szl (show 3<=1000 by decide),λl3 hl3=>?_⟩⟩;have s1:Same H' (upd H' l (.tup ys)):=zh (Same.refl H') hl;have s2:=zh (o:=.tup []) s1 hl2;have s3:=zh (o:=.tup [.ref l,.int 0,.ref l2]) s2 hl3;have el:upd (upd (upd H' l (.tup ys)) l2 (.tup [])) l3 (.tup [.ref l,.int 0,.ref l2]) l=some (.tup ys):=by
    have e1:upd H' l (.tup ys) l=some (.tup ys):=za;have e2:upd (upd H' l (.tup ys)) l2 (.tup []) l=some (.tup ys):=by rw[zf (zg e1 hl2)];exact e1
    rw[zf (zg e2 hl3)];exact e2
   have el2:upd (upd (upd H' l (.tup ys)) l2 (.tup [])) l3 (.tup [.ref l,.int 0,.ref l2]) l2=some (.tup []):=by have e2:upd (upd H' l (.tup ys)) l2 (.tup []) l2=some (.tup []):=za;rw[zf (zg e2 hl3)];exact e2
   have el3:upd (upd (upd H' l (.tup ys)) l2 (.tup [])) l3 (.tup [.ref l,.int 0,.ref l2]) l3=some (.tup [.ref l,.int 0,.ref l2]):=za;generalize upd (upd (upd H' l (.tup ys)) l2 (.tup [])) l3 (.tup [.ref l,.int 0,.ref l2])=H3 at s3 el el2 el3;have rc:RepL H3 (cs.map Th.str) ys:=by rw[ey];exact zgq H3 cs
   have rw3:Rep H3 (tabT cs) (.ref l3):=Rep.tupL el3 (.cons (Rep.tupL el rc) (.cons (.int 0) (.cons (Rep.tupL el2 .nil) .nil)));have kx:=zhi nx;refine⟨a,Ds,s',T.root,.str x,tabT cs,.str x,.ref l3,rfl,I.same v' s3,.str x,⟨kx.wf,Nat.zero_le _,(by show 1<=80;decide)⟩,rw3,?_⟩;have f3:Frm Ds H H3:=f.trans λb o _ e=>s3 b o e;refine zqd (A:=λ_=>True) (λu t s2=>OutE.on f3 _ _ (hc u t s2)) (tb.tk.go g) c9 kx (zjX ok) (by omega) (λ_ _=>trivial) λs2 g2 i2=>?_;intro v2 H2 f2 vr2 e2;have e2:v2=.int (putT (.str x) (tabT cs) T).root:=e2;rw[e2];exact q3 x cs rfl rfl nx ok no H2 s2 (f3.trans f2) vr2 ((g.trans g2).mono (by omega)) i2
 | _=>cases z1
end
end Pv
namespace Pv
open PySem L2
open Tr
theorem zhI {e:Er->Vst->Prop}{T:Tr}{m:Int}{s:Vst}{q:Int->Vst->Prop}(tk:TOk s.all T)(hm:(T.cnt:Int) < m)(h0:0 < s.n)(h:∀s',Go (λ_=>True) 1 s s'->s'.own=s.own->q (T.cnt:Int) s'):(zcr T.root m).wp s q e:=by
 unfold zcr;cases T with
 | nil=>rw[if_pos (show(nil:Tr).root=0 from rfl)];exact h s ((Go.refl s).mono (by omega)) rfl
 | node l k w r=>rw[if_neg (λz=>by cases zaY.mp z),Pg.wp_bind];exact zcK (A:=λ_=>True) tk hm h0 trivial λs1 g o=>h s1 g o
theorem zoQ {e:Er->Vst->Prop}:∀{T:Tr} {f:Nat} {m:Int} {st:List Nd} {ps:QH} {s:Vst} {q:List (Th ×Th)->Vst->Prop},TOk s.all T->(T.cnt:Int) < m->2 * T.cnt<=f->3 * T.cnt<=s.n->
  (∀f' c s',f<=f'+2 * T.cnt->Go (λ_=>True) (3 * T.cnt) s s'->s'.own=s.own->(strL .non .non f' 0 c st (ps++T.ps)).wp s' q e)->(strL .non .non f T.root m st ps).wp s q e:=by
 intro T
 induction T with
 | nil=>intro f m st ps s q _ _ _ _ h;have:=h f m s (Jb _) (Go.refl s) rfl;rw[show(nil:Tr).ps=[] from rfl,List.append_nil] at this;exact this
 | node l k w r il ir=>
  intro f m st ps s q tk hm hf hn h;have cn:=zu l k w r;have hc:(ndT l k w r).c=((node l k w r).cnt:Int):=rfl;have hlen:(l.ps++(k,w)::r.ps).length=(node l k w r).cnt:=rfl;obtain⟨f,rfl⟩:∃f0,f=f0+1:=⟨f - 1,by omega⟩;unfold strL;rw[if_neg (λz=>by cases zaY.mp z),Pg.wp_bind];refine zcK (A:=λ_=>True) tk hm (by omega) trivial λs1 g1 o1=>?_;have n1:=g1.n;rw[Pg.wp_bind,if_pos (show(zby .non (ndT l k w r).k && zbx .non (ndT l k w r).k)=true from rfl)];unfold sumP;rw[Pg.wp_bind];refine zhI (T:=l) (tk.go g1).l (by omega) (by omega) λs2 g2 o2=>?_;have n2:=g2.n;rw[Pg.wp_bind];refine zhI (T:=r) ((tk.go g1).go g2).r (by omega) (by omega) λs3 g3 o3=>?_;have n3:=g3.n;rw[if_pos (by omega)];have g03:=g1.trans (g2.trans g3);show(strL .non .non f l.root (ndT l k w r).c (ndT l k w r::st) ps).wp s3 q e;refine il (tk.go g03).l (by omega) (by omega) (by omega) λf' c s4 hf' g4 o4=>?_;have n4:=g4.n;obtain⟨f',rfl⟩:∃f0,f'=f0+1:=⟨f' - 1,by omega⟩;unfold strL;rw[if_pos rfl];show(strL .non .non f' r.root (ndT l k w r).c st (ps++l.ps++ [(k,w)])).wp s4 q e;refine ir ((tk.go g03).go g4).r (by omega) (by omega) (by omega) λf2 c2 s5 hf2 g5 o5=>?_;have:=h f2 c2 s5 (by omega) ((g03.trans (g4.trans g5)).mono (by omega)) (o5.trans (o4.trans (o3.trans (o2.trans o1))));rw[show ps++l.ps++ [(k,w)]++r.ps=ps++(node l k w r).ps from by
   show _=ps++(l.ps++(k,w)::r.ps);simp]
  exact this
theorem zjM {e:Er->Vst->Prop}{T:Tr}{s:Vst}{q:List (Th ×Th)->Vst->Prop}(tk:TOk s.all T)(hn:1000<=s.n)(h:∀s',Go (λ_=>True) 1000 s s'->s'.own=s.own->q T.ps s'):(strP T.root .non .non).wp s q e:=by have ct:=tk.ct;unfold strP;rw[if_neg (show¬zeF .non .non=true by decide)];refine zoQ tk (by omega) (by omega) (by omega) λf c s' hf g o=>?_;obtain⟨f,rfl⟩:∃f0,f=f0+1:=⟨f - 1,by omega⟩;unfold strL;rw[if_pos rfl,List.nil_append];exact h s' (g.mono (by omega)) o
end Pv
namespace Pv
open PySem L2
open Tr
noncomputable abbrev zhd:Stmt:=top 78
noncomputable abbrev zhV:Stmt:=top 79
noncomputable abbrev zhy:Stmt:=top 80
theorem Frm.none {D:QO}{H H':Hp}{p:Addr}(f:Frm D H H')(hD:∀d∈D,H' d≠none)(h:H' p=none):H p=none:=by
 cases z:H p with
 | none=>rfl
 | some o=>
  by_cases m:p∈D
  ·exact Je h (hD p m)
  ·rw[f p o m z] at h;cases h
theorem VI.none {C:Addr}{VR:VRT}(I:VI C VR){H H':Hp}{a p:Addr}{D:QO}{s:Vst}(v:VR H' a D s)(f:Frm D H H')(h:H' p=none):H p=none:=
 f.none (λd hd=>by obtain⟨kv,e⟩:=I.dic v d hd;rw[e];intro z;cases z) h
inductive zbr (VR:VRT) (vs:QQ) (H:Hp) (Q:L2.VK) (E:XK):Prop
 | mk (a:Addr) (D:QO) (s:Vst) (T:Tr) (x:Str) (cs:QP) (_:vs=[.ref a,.int T.root,.str x]) (_:VR H a D s) (_:Tabs s T) (_:3000<=s.n) (_:zC x.cps.toList=true) (_:x.length<=900) (_:(.str x,tabT cs)∈T.ps) (_:(∀l H' s',Frm D H H'->VR H' a D s'->s'.kp=s.kp->s'.own=s.own->H' l=some (.lst [])->H l=none->Q (.ref l) H')):zbr VR vs H Q E
inductive zeD (VR:VRT) (vs:QQ) (H:Hp) (Q:L2.VK) (E:XK):Prop
 | mk (a:Addr) (D:QO) (s:Vst) (v:V) (cs:QP) (_:vs=[.ref a,v]) (_:VR H a D s) (_:1000<=s.n) (_:Rep H (tabT cs) v) (_:(∀l H' s',Frm D H H'->VR H' a D s'->s'.kp=s.kp->s'.own=s.own->H' l=some (.lst [])->H l=none->Q (.ref l) H')):zeD VR vs H Q E
section
variable {P:Program}{w:World}{K:QA}{mg:QB}{base:Heap}{t1 t2 t3 t4 t5:Tok}{VR:VRT}{C CN CB CC CT CNA:Addr}
theorem zil (I:VI C VR)(D:Dfn K mg "ordered" zhd ["vault","root","name"]) (zbO:FnX P w K mg base "table_at" 24 ["vault","root","name"] (zbF VR CT)) (zc9:mg "ORDERS" =some (.int 2 t1)):FnX P w K mg base "ordered" 25 ["vault","root","name"] (zbr VR):=by
 refine D.okX (k:=24) (L2.fsN ["vault","root","name"]) (λf cdv A outer s H vs Q E hr h=>?_);obtain⟨a,Ds,st,T,x,cs,rfl,vr,tb,hn,nx,lx,hw,q1⟩:=h;have ι:=0;refine⟨_,(zm (zZ (zb5 (zt.zero (by rfl) (by decide+kernel) (by decide+kernel) (by decide+kernel) (by rfl)) rfl (zgK (by ac_rfl)) (λ_ _ _=>zcl) (λ_ _ _=>ze7)))),?_⟩;refine⟨_,rfl,_,rfl,_,rfl,a,Ds,st,T,x,rfl,vr,tb,by omega,nx,lx,λcs' hw' v H' s' f v' g o r=>?_,λno H' s' f v' g o=>Je rfl (no _ hw)⟩;obtain⟨p,xs,rfl,ep,rr⟩:=Rep.list r;cases rr with
 | cons r0 rr=>
 cases rr with
 | cons r1 rr=>
 cases rr with
 | cons r2 rr=>
 cases rr;obtain⟨p2,xs2,rfl,ep2,rr2⟩:=Rep.list r2;cases rr2;refine⟨p,_,_,_,rfl,rfl,SqT.of ep,rfl,?_⟩;refine⟨p2,rfl,⟨_,SqT.of ep2⟩,λl hl=>?_⟩;have sm:=zh (o:=.lst []) (Same.refl H') hl;refine zmV ⟨[],SqT.of (sm _ _ ep2),Jb _⟩ ?_;exact q1 l _ s' (f.trans (Frm.of sm)) (I.same v' sm) g.kp o za (I.none v' f hl)
theorem zkw (I:VI C VR)(D:Dfn K mg "rows_in" zhV ["vault","table"]) (zld:FnX P w K mg base "stretch" 22 ["vault","root","low","high"] (zgp VR CN CB CC)) (zgV:mg "ROWS" =some (.int 1 t1)):FnX P w K mg base "rows_in" 23 ["vault","table"] (zeD VR):=by
 refine D.okX (k:=22) (L2.fsN ["vault","table"]) (λf cdv A outer s H vs Q E hr h=>?_);obtain⟨a,Ds,st,v,cs,rfl,vr,hn,rv,q1⟩:=h;have ι:=0;refine⟨_,(zm (zZ (zkl (zt.one (y:= "table") (j:=1) (c:=s.heap.objs.size+1) (by rfl) (by rfl) (by decide+kernel) (by decide+kernel) (by rfl) (by decide+kernel) (by rfl) (by decide+kernel) (by rfl) (by first | exact Or.inl rfl | exact Or.inr rfl) (by first | exact Or.inl rfl | exact Or.inr rfl)) (by rfl) (by decide+kernel) rfl (by ac_rfl) (λ_ _ _=>zcl) (λ_ _ _=>ze7)))),?_⟩;obtain⟨p,xs,rfl,ep,rr⟩:=Rep.list rv;cases rr with
 | cons r0 rr=>
 cases rr with
 | cons r1 rr=>
 cases rr with
 | cons r2 rr=>
 cases rr;cases r1;refine⟨_,rfl,_,rfl,p,_,_,_,rfl,rfl,SqT.of ep,rfl,a,Ds,st,0,.non,.non,.non,.non,rfl,vr,.non,.non,Nat.zero_le _,Nat.zero_le _,?_⟩;refine zjM (T:=Tr.nil) .nil hn λs' g o=>?_;intro v' H1 f1 v1 r1;obtain⟨⟨pp,ys,rfl,epp,ry,_⟩,np⟩:=r1;cases ry;refine⟨pp,rfl,⟨_,SqL.of epp⟩,λl hl=>?_⟩;have sm:=zh (o:=.lst []) (Same.refl H1) hl;refine zk2 ⟨[],SqL.of (sm _ _ epp),Jb _⟩ ?_;exact q1 l _ s' (f1.trans (Frm.of sm)) (I.same v1 sm) g.kp o za (I.none v1 f1 hl)
theorem zkz (I:VI C VR)(D:Dfn K mg "rows_of" zhy ["vault","root","name"]) (zbO:FnX P w K mg base "table_at" 24 ["vault","root","name"] (zbF VR CT)) (zry:FnX P w K mg base "rows_in" 23 ["vault","table"] (zeD VR)):FnX P w K mg base "rows_of" 25 ["vault","root","name"] (zbr VR):=by refine D.okX (k:=24) (L2.fsN ["vault","root","name"]) (λf cdv A outer s H vs Q E hr h=>?_);obtain⟨a,Ds,st,T,x,cs,rfl,vr,tb,hn,nx,lx,hw,q1⟩:=h;refine⟨_,(by ac_rfl),?_⟩;refine⟨_,rfl,_,rfl,_,rfl,_,rfl,a,Ds,st,T,x,rfl,vr,tb,by omega,nx,lx,λcs' hw' v H' s' f v' g o r=>?_,λno H' s' f v' g o=>Je rfl (no _ hw)⟩;have gn:=g.n;exact⟨a,Ds,s',v,cs',rfl,v',by omega,r,λl H2 s2 f2 v2 k2 o2 el hl=>q1 l H2 s2 (f.trans f2) v2 (k2.trans g.kp) (o2.trans o) el (I.none v' f hl)⟩
end
end Pv
namespace Pv
open PySem L2
open Tr
noncomputable abbrev zmD:Stmt:=top 75
theorem zkk {K:QA}{l p:Addr}{σ:L2.St}{js:List Nat}{te:TE}{H1:Hp}{Q:L2.VK}{ps:QH}{xs:QQ}(e1:H1 l=some (.lst xs))(r:RepL H1 (ps.map zeA) xs)(hp1:H1 p=none)(h300:ps.length<=300)
  (te_ok:∀(v:V) (pr:Th ×Th) (H':Hp) (Z:L2.VK),Rep H' (zeA pr) v->(∀u,Rep H' pr.1 u->Z u H')->te (some v::frees σ js) H' Z) (q:∀H' acc,Same H1 H'->H' p=some (.lst acc)->RepL H' (ps.map (·.1)) acc->Q (.ref p) H'):zcT (Itl K l) p σ js zcf te H1 Q:=by
 have hxl:xs.length=ps.length:=by rw[r.len,List.length_map]
 refine⟨λi m acc H=>m=xs.length - i/\i<=xs.length/\Same H1 H/\H p=some (.lst acc)/\RepL H ((ps.take i).map (·.1)) acc,⟨_,rfl,Nat.zero_le _,zh (Same.refl H1) hp1,za,.nil⟩,?_⟩;rintro i m acc H ⟨rfl,hi,sm,ep,ra⟩;by_cases hlt:i < xs.length
 ·have ev:xs[i]? =some xs[i]:=List.getElem?_eq_getElem hlt;have hip:i < ps.length:=by omega
  have epi:ps[i]? =some ps[i]:=List.getElem?_eq_getElem hip;refine .inr ⟨⟨xs,xs[i],SqL.of (sm _ _ e1),ev⟩,λy H' hy=>?_⟩;obtain⟨rfl,hy⟩:=hy;have ey:y=xs[i]:=by have:=hy xs (SqL.of (sm _ _ e1));rw[ev] at this;exact(Option.some.inj this).symm
  subst ey;have rp:=(r.at i _ _ ev (by rw[List.getElem?_map,epi];rfl)).keep (Same.tups sm);have et:ps.take (i+1)=ps.take i++ [ps[i]]:=by rw[List.take_add_one,epi];rfl
  have hal:acc.length<=300:=by rw[ra.len,List.length_map,List.length_take];omega
  dsimp only[zcf];rw[if_pos rfl];refine te_ok _ ps[i] _ _ rp λu ru=>?_;refine⟨ep,Jd (show acc.length < 1000 by omega) (szl (Jb _)),_,by omega,rfl,hlt,zeN sm hp1,za,?_⟩;have tk:Tups H' (upd H' p (.lst (acc++ [u]))):=Tups.upd λxs z=>by rw[ep] at z;cases z
  rw[et,List.map_append];exact(ra.keep tk).snoc (ru.keep tk)
 ·have:i=xs.length:=by omega
  subst this;rw[hxl,List.take_length] at ra;exact .inl ⟨⟨xs,SqL.of (sm _ _ e1),Jb _⟩,q H acc sm ep ra⟩
structure Nms (T:Tr)(ns:QP):Prop where
 ks:T.ps.map (·.1)=ns.map Th.str
 nm:∀x∈ns,zC x.cps.toList=true/\x.length<=900
theorem zk7 {H:Hp}:∀{ns:QP} {vs:QQ},RepL H (ns.map Th.str) vs->vs=ns.map V.str:=by
 intro ns
 induction ns with
 | nil=>intro vs r;cases r;rfl
 | cons x r ih=>
  intro vs h;cases h with
  | cons h1 h2=>cases h1;rw[ih h2];rfl
inductive zgR (VR:VRT) (vs:QQ) (H:Hp) (Q:L2.VK) (E:XK):Prop
 | mk (a:Addr) (D:QO) (s:Vst) (T:Tr) (ns:QP) (_:vs=[.ref a,.int T.root]) (_:VR H a D s) (_:TOk s.all T) (_:1000<=s.n) (_:Nms T ns) (_:(∀l H' s',Frm D H H'->VR H' a D s'->s'.kp=s.kp->s'.own=s.own->H' l=some (.lst (ns.map V.str))->H l=none->Q (.ref l) H')):zgR VR vs H Q E
section
variable {P:Program}{w:World}{K:QA}{mg:QB}{base:Heap}{t1 t2 t3 t4 t5:Tok}{VR:VRT}{C CN CB CC CT CNA:Addr}
theorem znd (I:VI C VR)(D:Dfn K mg "names" zmD ["vault","root"]) (zld:FnX P w K mg base "stretch" 22 ["vault","root","low","high"] (zgp VR CN CB CC)) (zbC:Fn P w K mg base "is_name" 1 ["thing"] (zba CNA)):FnX P w K mg base "names" 23 ["vault","root"] (zgR VR):=by
 refine D.okX (k:=22) (L2.fsN ["vault","root","told","name"]) (λf cdv A outer s H vs Q E hr h=>?_);obtain⟨a,Ds,st,T,ns,rfl,vr,tk,hn,nm,q1⟩:=h;refine⟨_,(zc (zhf (i:=2) (zt.zero (by rfl) (by decide+kernel) (by decide+kernel) (by decide+kernel) (by rfl)) rfl (by ac_rfl) (λ_ _ _=>zcl) (λ_ _ _=>(zaK (zoK (K:=K) rfl) (pv 0) zap (λ_ _=>rfl))) (zc5 rfl) rfl (Or.inl rfl) (by rfl))
 (zc (zam PassesOwn.leaving rfl (by ac_rfl) (by ac_rfl)
 (zm (zV (by ac_rfl)
 (zm (zhJ zhF rfl ze7))
 zy)))
 (by ac_rfl))),?_⟩
 have ct:=tk.ct;refine⟨_,rfl,_,rfl,a,Ds,st,T.root,.non,.non,.non,.non,rfl,vr,.non,.non,Nat.zero_le _,Nat.zero_le _,?_⟩;refine zjM tk hn λs' g o=>?_;intro v' H1 f1 v1 r1;obtain⟨⟨pp,ys,rfl,epp,ry,_⟩,np⟩:=r1;refine⟨pp,rfl,⟨_,SqL.of epp⟩,λl hl=>?_⟩;refine zkk epp ry hl ct (λv pr H' Z rp z=>?_) λH2 acc s2 ea ra=>?_
 ·obtain⟨p,xs,rfl,ep,rr⟩:=Rep.list (show Rep H' (.tup [pr.1,pr.2]) v from rp);cases rr with
  | cons r0 rr=>
  cases rr with
  | cons r1 rr=>
  cases rr;exact⟨_,rfl,p,_,_,_,rfl,rfl,SqT.of ep,rfl,z _ r0⟩
 rw[nm.ks] at ra;have e:=zk7 ra;subst e;refine⟨_,rfl,l,rfl,⟨_,SqL.of ea⟩,?_⟩;refine zb0 (xs:=ns.map V.str) (λi σ H'=>∃k,σ=[some (.ref a),some (.int T.root),some (.ref l),k]/\H'=H2) ⟨_,rfl,rfl⟩ ?_ ?_ ?_
 ·rintro i σ H' _ ⟨k,rfl,rfl⟩;exact SqL.of ea
 ·rintro i y σ H' hy ⟨k,rfl,rfl⟩;obtain⟨x,hx,rfl⟩:=List.mem_map.mp (List.mem_of_getElem? hy);refine⟨_,rfl,.str x,.str x,rfl,.str x,(nm.nm x hx).2,?_⟩;rw[show zA (.str x)=true from(nm.nm x hx).1];exact⟨_,rfl,ifF rfl ⟨_,rfl,rfl⟩⟩
 ·rintro σ H' ⟨k,rfl,rfl⟩;exact⟨_,rfl,q1 l _ s' (f1.trans (Frm.of s2)) (I.same v1 s2) g.kp o ea (I.none v1 f1 hl)⟩
end
end Pv
namespace Pv
open PySem L2
noncomputable abbrev ze2:Stmt:=top 93
noncomputable abbrev zcs:Stmt:=top 94
noncomputable abbrev SA:Str:=Str.ofString "abcdefghijklmnopqrstuvwxyz"
theorem zpN {r:Int}(h0:0<=r)(h1:r < 26):∃c,atI SA.cps.toList r=some c/\letB c=true:=by obtain⟨c,hc,e⟩:=zaa (xs:=SA.cps.toList) h0 (by rw[show SA.cps.toList.length=26 by decide+kernel];exact h1);exact⟨c,e,Jj.mp (show SA.cps.toList.all letB=true by decide+kernel) c hc⟩
noncomputable def nmB:V->Bool
 | .str y=>zC y.cps.toList
 | _=>false
theorem zp2 {xs:QQ}{x:V}(h:xs.all nmB=true)(m:x∈xs):∃y:Str,x=.str y/\zC y.cps.toList=true:=by
 have:=Jj.mp h x m;cases x with
 | str y=>exact⟨y,rfl,this⟩
 | _=>cases this
theorem zc4 {x:Str}(h:zC x.cps.toList=true):1<=x.length/\x.length<=8:=by unfold zC at h;simp only[Bool.and_eq_true,decide_eq_true_eq] at h;rw[str_len] at h;exact h.1
theorem zoq {l:List Nat}(h1:1<=l.length)(h2:l.length<=8)(h:l.all letB=true):zC (tx l).cps.toList=true:=by show zC l=true;unfold zC;rw[decide_eq_true h1,decide_eq_true h2,h];rfl
inductive zea (vs:QQ) (H:Hp) (Q:L2.VK) (_E:XK):Prop
 | mk (row:Addr) (_:vs=[.ref row]) (_:zo H row) (_:∀(x:Str) (H':Hp),zC x.cps.toList=true->Frm [row] H H'->zo H' row->Q (.str x) H'):zea vs H Q _E
inductive zeg (vs:QQ) (H:Hp) (Q:L2.VK) (_E:XK):Prop
 | mk (row:Addr) (_:vs=[.ref row]) (_:zo H row) (_:∀(l:Addr) (cs:QP) (H':Hp),H l=none->H' l=some (.lst (cs.map V.str))->1<=cs.length->cs.length<=6->cs.Nodup->(∀x∈cs,zC x.cps.toList=true)->Frm [row] H H'->zo H' row->Q (.ref l) H'):zeg vs H Q _E
theorem zcS (cs:QP):(cs.map V.str).all zaO=true:=Jj.mpr λv hv=>by obtain⟨x,_,rfl⟩:=List.mem_map.mp hv;rfl
theorem zjS (x:Str)(cs:QP):inV (.str x) (cs.map V.str)=decide (x∈cs):=by
 unfold inV;rw[Bool.eq_iff_iff,List.any_eq_true,decide_eq_true_iff];constructor
 ·rintro⟨v,hv,e⟩;obtain⟨y,hy,rfl⟩:=List.mem_map.mp hv;have:y=x:=by simpa [eqV] using e
  exact this ▸ hy
 ·intro h;exact⟨.str x,Jq h,by simp[eqV]⟩
section
variable {P:Program}{w:World}{K:QA}{mg:QB}{base:Heap}
theorem znm (D:Dfn K mg "_law_name" ze2 ["hand"]) (zas:Fn P w K mg base "_law_draw" 1 ["hand","limit"] zbD) (zah:mg "range" =none):Fn P w K mg base "_law_name" 2 ["hand"] zea:=by
 refine D.ok (k:=1) (L2.fsN ["hand","name","k"]) (λf cdv A outer s H vs Q E hr h=>?_);obtain⟨row,rfl,hd,q⟩:=h;refine⟨_,(zc (by ac_rfl)
 (zc (by ac_rfl)
 (zc (zam PassesOwn.never rfl (by ac_rfl) (by ac_rfl)
 (zm (setA 1 rfl (zdP za1 (pv 1) (zaK zeM zar (by ac_rfl) (λ_ _=>rfl))))))
 (by ac_rfl)))),?_⟩
 refine⟨_,rfl,row,_,rfl,hd,(show(0:Int) < 3 by decide),(by decide+kernel),λkind H1 k0 k1 f1 hd1=>?_⟩;refine⟨_,_,rfl,rfl,_,rfl,ifB (λ_=>?_) (λ_=>?_)⟩
 ·refine⟨szl (show 8<=1000 by decide),λp hp=>?_⟩;refine⟨_,rfl,row,_,rfl,hd1.new hp,(show(0:Int) < 8 by decide),(by decide+kernel),λr H2 r0 r1 f2 hd2=>?_⟩;obtain⟨x,mx,ex⟩:=zaa (xs:=["a","b","ab","of","where","and","first","zzzzzzzz"].map λz:String=>V.str (Str.ofString z)) r0 r1;obtain⟨y,rfl,hy⟩:=zp2 (by decide+kernel) mx;exact⟨p,_,_,_,rfl,rfl,SqL.of (f2.at za (not1 (hd1.ne hp))),ex,q y _ hy ((zcY f1 hp).trans f2) hd2⟩
 refine⟨_,rfl,row,_,rfl,hd1,(show(0:Int) < 8 by decide),(by decide+kernel),λr H2 r0 r1 f2 hd2=>?_⟩;refine⟨_,_,rfl,rfl,_,rfl,by omega,by omega,?_⟩;refine zbs (n:=(1+r).toNat) (λi σ H'=>∃(l:List Nat) (kk:Option V),σ=[some (.ref row),some (.str (tx l)),kk]/\l.length=i/\l.all letB=true/\Frm [row] H H'/\zo H' row) ⟨[],_,rfl,rfl,rfl,f1.trans f2,hd2⟩ ?_ ?_
 ·rintro i σ H' hi ⟨l,kk,rfl,hl,al,f3,R3⟩;refine⟨_,rfl,_,rfl,row,_,rfl,R3,(show(0:Int) < 26 by decide),(by decide+kernel),λu H4 u0 u1 f4 R4=>?_⟩;obtain⟨c,ec,lc⟩:=zpN u0 u1;refine⟨SA,_,c,rfl,rfl,szl (by decide+kernel),ec,?_⟩;refine⟨_,_,rfl,rfl,szl (show(tx l).length+1<=1000 by rw[zab];omega),l++ [c],some (.int (0+(i:Int))),?_,by rw[List.length_append,hl];rfl,?_,f3.trans f4,R4⟩
  ·rw[zc0];rfl
  ·rw[List.all_append,al];show(true && (letB c && true))=true;rw[lc];rfl
 ·rintro σ H' ⟨l,kk,rfl,hl,al,f3,R3⟩;exact⟨_,rfl,q (tx l) H' (zoq (by omega) (by omega) al) f3 R3⟩
theorem zl7 (D:Dfn K mg "_law_columns" zcs ["hand"]) (zas:Fn P w K mg base "_law_draw" 1 ["hand","limit"] zbD) (zi2:Fn P w K mg base "_law_name" 2 ["hand"] zea) (zah:mg "range" =none):Fn P w K mg base "_law_columns" 3 ["hand"] zeg:=by
 refine D.ok (k:=2) (L2.fsN ["hand","got","k","one"]) (λf cdv A outer s H vs Q E hr h=>?_);obtain⟨row,rfl,hd,q⟩:=h;refine⟨_,(zc (by ac_rfl)
 (zc (zam PassesOwn.never rfl (by ac_rfl) (by ac_rfl)
 (zc (by ac_rfl)
 (zm (zV (zG zgo (pv 3) (pv 1) (by rfl))
 (by ac_rfl)
 zy))))
 (by ac_rfl))),?_⟩
 refine⟨szl (show 0<=1000 by decide),λp hp=>?_⟩;have s0:Same H (upd H p (.lst [])):=zh (Same.refl H) hp;have e0:upd H p (.lst []) p=some (.lst []):=za;have hd0:=hd.keep s0;generalize upd H p (.lst [])=H0 at s0 e0 hd0;have np:p∉ [row]:=not1 (hd.ne hp);refine⟨_,rfl,row,_,rfl,hd0,(show(0:Int) < 6 by decide),(by decide+kernel),λr H2 r0 r1 f2 hd2=>?_⟩;refine⟨_,_,rfl,rfl,_,rfl,by omega,by omega,?_⟩;refine zbs (n:=(1+r).toNat) (λi σ H'=>∃(cs:QP) (kk k2:Option V),σ=[some (.ref row),some (.ref p),kk,k2]/\H' p=some (.lst (cs.map V.str))/\(1<=i->1<=cs.length)/\cs.length<=i/\cs.Nodup/\(∀x∈cs,zC x.cps.toList=true)/\Frm [row] H H'/\zo H' row) ⟨[],_,_,rfl,f2.at e0 np,by omega,Jb _,List.nodup_nil,(λx h=>by cases h),(Frm.of s0).trans f2,hd2⟩ ?_ ?_
 ·rintro i σ H' hi ⟨cs,kk,k2,rfl,ep,h1,hl,nd,hn,f3,R3⟩;refine⟨_,rfl,row,rfl,R3,λx H4 nx f4 R4=>?_⟩;have ep4:=f4.at ep np;refine⟨_,rfl,_,rfl,p,_,rfl,.inl (SqL.of ep4),rfl,zcS cs,?_⟩;rw[zjS];refine⟨_,rfl,?_⟩;by_cases c:x∈cs
  ·rw[decide_eq_true c];refine ifF rfl ?_;refine⟨cs,_,_,rfl,ep4,λ_=>?_,by omega,nd,hn,f3.trans f4,R4⟩;have:=List.length_pos_of_mem c;omega
  ·rw[decide_eq_false c];refine ifT rfl ?_;refine⟨_,rfl,(.inl ⟨rfl,_,SqL.of ep4⟩),_,rfl,p,_,_,rfl,rfl,ep4,?_,?_⟩
   ·rw[List.length_map];exact zaX (by omega)
   ·refine⟨cs++ [x],_,_,rfl,by rw[List.map_append];exact za,λ_=>by rw[List.length_append];show 1<=cs.length+1;omega,by rw[List.length_append];show cs.length+1<=i+1;omega,?_,λy hy=>?_,zbI (f3.trans f4) hp,?_⟩
    ·exact List.nodup_append.mpr ⟨nd,(by simp),λa ha b hb e=>by rw[List.mem_singleton.mp hb] at e;exact c (e ▸ ha)⟩
    ·rcases List.mem_append.mp hy with hy | hy
     ·exact hn y hy
     ·rw[List.mem_singleton.mp hy];exact nx
    ·obtain⟨a,b,m,e,z⟩:=R4;exact⟨a,b,m,by rw[zf (zaf e ep4 (by intro z;injection z with z;cases cs <;> cases z))];exact e,z⟩
 ·rintro σ H' ⟨cs,kk,k2,rfl,ep,h1,hl,nd,hn,f3,R3⟩;exact⟨_,rfl,q p cs H' hp ep (h1 (by omega)) (by omega) nd hn f3 R3⟩
end
end Pv
namespace Pv
open PySem L2
noncomputable abbrev zcu:Stmt:=top 95
noncomputable abbrev zbZ:Stmt:=top 96
noncomputable def badB (c:Nat):Bool:=decide (c < 32) || decide (126 < c) || (decide (c=39) || decide (c=59)) || decide (c=37)
theorem zms (c:Nat){H:Hp}{Q:Bool->Hp->Prop}(q:Q (badB c) H):tOr
   (zfT
    (tOp (λx y H Q=>∃i j,x=V.str i/\y=V.str j/\Q (V.bl (decide (i.cps.toList < j.cps.toList))) H)
     (tVar 0) (tC (V.str (Str.ofString " ")))))
   (tOr
    (zfT
     (tOp (λx y H Q=>∃i j,x=V.str i/\y=V.str j/\Q (V.bl (decide (j.cps.toList < i.cps.toList))) H)
      (tVar 0) (tC (V.str (Str.ofString "~")))))
    (tOr
     (zfT
      (tOp
       (λx y H Q=>
        ∃i j,x=V.str i/\y=V.str j/\Q (V.bl !(Builtin.Str.occurrences j i 0 j.length 1).isEmpty) H)
       (tVar 0) (tC (V.str (Str.ofString "';")))))
     (zfT
      (ziY (rI0 λi j=>V.bl (decide (i < j))) (rI0 λi j=>V.bl (decide (i < j))) (tC (V.int 36))
       (tCB (λxs H Q=>∃x,xs=[V.str x]/\x.length=1/\Q (V.int ↑(x.cps.getD 0 0)) H)
        (zpv (tVar 0) tNil))
       (tC (V.int 38)))))) [some (V.str (tx [c]))] H Q:=by
 refine⟨_,rfl,tx [c],tx [32],rfl,rfl,_,rfl,?_⟩;unfold badB at q;have e1:decide ((tx [c]).cps.toList < (tx [32]).cps.toList)=decide (c < 32):=lt1 c 32;rw[e1];by_cases h1:c < 32
 ·rw[decide_eq_true h1] at q;exact ifT (decide_eq_true h1) q
 refine ifF (decide_eq_false h1) ?_;rw[decide_eq_false h1,Bool.false_or] at q;refine⟨_,rfl,tx [c],tx [126],rfl,rfl,_,rfl,?_⟩;have e2:decide ((tx [126]).cps.toList < (tx [c]).cps.toList)=decide (126 < c):=lt1 126 c;rw[e2];by_cases h2:126 < c
 ·rw[decide_eq_true h2] at q;exact ifT (decide_eq_true h2) q
 refine ifF (decide_eq_false h2) ?_;rw[decide_eq_false h2,Bool.false_or] at q;refine⟨_,rfl,tx [c],tx [39,59],rfl,rfl,_,rfl,?_⟩;rw[zjg];by_cases h3:c∈ [39,59]
 ·refine ifT (decide_eq_true h3) ?_;rcases List.mem_cons.mp h3 with z | z
  ·rw[z] at q;exact q
  ·rw[List.mem_singleton.mp z] at q;exact q
 refine ifF (decide_eq_false h3) ?_;rw[decide_eq_false (λz:c=39=>h3 (by rw[z];exact List.mem_cons_self)),decide_eq_false (λz:c=59=>h3 (by rw[z];simp)),Bool.or_false,Bool.false_or] at q;refine⟨_,rfl,tx [c],rfl,rfl,_,_,rfl,rfl,_,rfl,?_⟩;show if decide ((36:Int) < (c:Int))=true then _ else _
 by_cases h4:c=37
 ·rw[decide_eq_true h4] at q;refine ifT (decide_eq_true (by omega)) ⟨_,_,rfl,rfl,_,rfl,?_⟩;show Q (decide ((c:Int) < 38)) H;rw[decide_eq_true (by omega)];exact q
 rw[decide_eq_false h4] at q;by_cases h5:36 < c
 ·refine ifT (decide_eq_true (by omega)) ⟨_,_,rfl,rfl,_,rfl,?_⟩;show Q (decide ((c:Int) < 38)) H;rw[decide_eq_false (by omega)];exact q
 ·exact ifF (decide_eq_false (by omega)) ⟨_,rfl,q⟩
theorem zoe (t:List Nat):valT t= !(decide (20 < t.length) || !(t.filter badB).isEmpty):=by
 have key:(t.all zaw && !decide (39∈t) && !decide (59∈t))=(t.filter badB).isEmpty:=by
  induction t with
  | nil=>rfl
  | cons c r ih=>
   have hs:(zaw c && !decide (c=39) && !decide (c=59))= !badB c:=by
    unfold zaw badB;by_cases h1:c < 32
    ·rw[decide_eq_true h1,decide_eq_false (show¬32<=c by omega)];rfl
    by_cases h2:126 < c
    ·rw[decide_eq_true h2,decide_eq_false (show¬c<=126 by omega),decide_eq_true (show 32<=c by omega),decide_eq_false h1];rfl
    rw[decide_eq_false h1,decide_eq_false h2,decide_eq_true (show 32<=c by omega),decide_eq_true (show c<=126 by omega)];cases decide (c=37) <;> cases decide (c=39) <;> cases decide (c=59) <;> rfl
   have m:∀k:Nat,decide (k∈c::r)=(decide (c=k) || decide (k∈r)):=λk=>by rw[<-Bool.decide_or];exact decide_eq_decide.mpr ⟨λz=>(List.mem_cons.mp z).imp Eq.symm id,λz=>List.mem_cons.mpr (z.imp Eq.symm id)⟩
   rw[List.all_cons,m,m,List.filter_cons];cases hb:badB c with
   | true=>
    rw[hb] at hs;rw[if_pos rfl];show _=false;cases h1:zaw c
    ·rfl
    ·rw[h1] at hs;cases h2:decide (c=39)
     ·rw[h2] at hs;cases h3:decide (c=59)
      ·rw[h3] at hs;cases hs
      ·rw[Bool.true_or,Bool.not_true,Bool.and_false]
     ·rw[Bool.true_or,Bool.not_true,Bool.and_false,Bool.false_and]
   | false=>
    rw[hb] at hs;rw[if_neg Jc,<-ih];cases h1:zaw c
    ·rw[h1] at hs;cases hs
    ·cases h2:decide (c=39)
     ·cases h3:decide (c=59)
      ·rfl
      ·rw[h1,h2,h3] at hs;cases hs
     ·rw[h1,h2] at hs;cases hs
 unfold valT;rw[Bool.and_assoc,Bool.and_assoc,<-Bool.and_assoc (t.all zaw),key,Bool.not_or,Bool.not_not];congr 1;by_cases h:t.length<=20
 ·rw[decide_eq_true h,decide_eq_false (by omega)];rfl
 ·rw[decide_eq_false h,decide_eq_true (by omega)];rfl
theorem zeV {σ:L2.St}{js:List Nat}{tt:TT}{te:TE}{H1:Hp}{Q:L2.VK}{p:Addr}(t:List Nat)(hz:t.length<=900)(b:Nat->Bool)
  (tt_ok:∀(c:Nat) (H:Hp) (Z:Bool->Hp->Prop),Z (b c) H->tt (some (.str (tx [c]))::frees σ js) H Z) (te_ok:∀(c:Nat) (H:Hp) (Z:L2.VK),Z (.str (tx [c])) H->te (some (.str (tx [c]))::frees σ js) H Z)
  (q:∀acc:List V,acc.isEmpty=(t.filter b).isEmpty->Q (.ref p) (upd H1 p (.lst acc))):zcT (Its (tx t)) p σ js tt te H1 Q:=by
 refine zgP (J:=Its (tx t)) (n:=(tx t).cps.size) (λi acc H'=>acc=((t.take i).filter b).map (λc=>V.str (tx [c]))/\H'=upd H1 p (.lst acc)) ⟨rfl,rfl⟩ (by exact λi acc H' hi _=>hi) (by exact λacc H' _=>Jb _) ?_ ?_
 ·rintro i acc H' y H'' hi ⟨ha,rfl⟩ ⟨e1,c,ec,ey⟩;subst e1 ey;have hil:i < t.length:=by have:=hi;simpa [tx] using this
  have ec':t[i]? =some c:=(Array.getElem?_toList (xs:=(tx t).cps) (i:=i)).trans ec;have htk:t.take (i+1)=t.take i++ [c]:=by rw[List.take_add_one,ec'];rfl
  refine tt_ok c _ _ ?_;by_cases hb:b c=true
  ·refine ifT hb (te_ok c _ _ ⟨za,?_,nxt hi ⟨?_,zgT⟩⟩)
   ·have:acc.length<=i:=by rw[ha,List.length_map];exact Ji (List.length_filter_le _ _) (by rw[List.length_take];omega)
    exact Jd (show acc.length < 1000 by omega) (szl (Jb _))
   ·rw[htk,List.filter_append,List.map_append,ha,show[c].filter b=[c] by rw[List.filter_cons,if_pos hb];rfl];rfl
  ·have hb':b c=false:=by cases z:b c with | true=>exact Je z hb | false=>rfl
   refine ifF hb' (nxt hi ⟨?_,rfl⟩);rw[htk,List.filter_append,ha,show[c].filter b=[] by rw[List.filter_cons,if_neg hb];rfl,List.append_nil]
 ·rintro acc H' ⟨ha,rfl⟩;have hsz:(tx t).cps.size=t.length:=by simp[tx]
  rw[hsz,List.take_length] at ha;exact q acc (by rw[ha];cases t.filter b <;> rfl)
inductive zfH (CN:Addr) (f:Ob->Bool) (vs:QQ) (H:Hp) (Q:L2.VK) (_E:XK):Prop
 | mk (t:Ob) (v:V) (_:vs=[v]) (_:RepO CN H t v) (_:TxO t) (_:∀H',Same H H'->Q (.bl (f t)) H'):zfH CN f vs H Q _E
theorem zqF (c:Nat):decide (c∈SA.cps.toList)=letB c:=by
 by_cases h:c<123
 ·exact (show ∀c:Nat,c<123->decide (c∈SA.cps.toList)=letB c by decide+kernel) c h
 ·rw[decide_eq_false λm=>h ((show ∀x∈SA.cps.toList,x<123 by decide+kernel) c m)];exact (Bool.and_eq_false_iff.mpr (.inr (decide_eq_false λk=>h (Nat.lt_succ_of_le k)))).symm
theorem zm5 {α:Type}(l:List α)(f g:α->Bool)(h:∀c,g c= !f c):(l.filter g).isEmpty=l.all f:=by
 induction l with
 | nil=>rfl
 | cons c r ih=>
  rw[List.filter_cons,List.all_cons,h c];cases f c with
  | true=>rw[Bool.true_and,<-ih];rfl
  | false=>rfl
section
variable {P:Program}{w:World}{K:QA}{mg:QB}{base:Heap}{t1 t2 t3 t4 t5:Tok}{CN:Addr}
theorem zoC (nt:NTk K CN)(D:Dfn K mg "_law_is_name" zcu ["thing"]) (zd:mg "isinstance" =none) (zbB:mg "str" =none) (zx:mg "len" =none):Fn P w K mg base "_law_is_name" 1 ["thing"] (zfH CN zA):=by
 refine D.ok (k:=0) (L2.fsN ["thing"]) (λf cdv A outer s H vs Q E hr h=>?_);obtain⟨t,v,rfl,rt,tx',q⟩:=h;refine⟨_,(zc (zV (PW.pt (zaJ (zaN (zbL (zv (zT nt) (by rfl) zd (by rfl) (by ac_rfl)))) (zaA (zaN (zb9 zfF zfF zap (zv (zR) (by rfl) zx (by rfl) (by ac_rfl)) zap)))))
 (by ac_rfl)
 zy)
 (zm (zZ (z8 (zhC hr) (zb5 (zt.zero (by rfl) (by decide+kernel) (by decide+kernel) (by decide+kernel) (by rfl)) rfl (zet (pv 0)) (λ_ _ _=>zjA (zG zbK (pv 0) zar (by rfl))) (λ_ _ _=>(pv 0))) (by ac_rfl) (zO _))))),?_⟩
 refine⟨_,rfl,t,v,.str,rfl,rt,_,rfl,?_⟩;cases rt with
 | str x=>
  obtain⟨l,rfl⟩:∃l,x=tx l:=⟨_,(zjE x).symm⟩;have hz:(tx l).length<=900:=tx';rw[zab] at hz;have q:∀H',Same H H'->Q (.bl (zC l)) H':=q;unfold zC at q;have sz:(tx l).length<=sizeLine:=by rw[zab];exact szl (by omega)
  refine ifF rfl ⟨_,rfl,tx l,rfl,sz,_,_,rfl,rfl,_,rfl,?_⟩;by_cases h1:1<=l.length
  rotate_left
  ·refine ifF (decide_eq_false (by rw[zab];omega)) ⟨_,rfl,ifT rfl ?_⟩;rw[decide_eq_false h1,Bool.false_and,Bool.false_and] at q;exact q _ (Same.refl H)
  refine ifT (decide_eq_true (by rw[zab];omega)) ⟨_,_,rfl,rfl,_,rfl,?_⟩;by_cases h2:l.length<=8
  rotate_left
  ·refine ifT (by rw[show decide (((tx l).length:Int)<=8)=false from decide_eq_false (by rw[zab];omega)];rfl) ?_;rw[decide_eq_false h2,Bool.and_false,Bool.false_and] at q;exact q _ (Same.refl H)
  refine ifF (by rw[show decide (((tx l).length:Int)<=8)=true from decide_eq_true (by rw[zab];omega)];rfl) ?_;rw[decide_eq_true h1,decide_eq_true h2,Bool.true_and,Bool.true_and] at q;refine⟨_,rfl,tx l,rfl,λp hp=>?_⟩;refine zeV l hz (λc=>!letB c) (λc H' Z z=>?_) (λc H' Z z=>⟨_,rfl,z⟩) λacc ha=>?_
  ·refine⟨_,rfl,tx [c],tx SA.cps.toList,rfl,rfl,_,rfl,?_⟩;rw[zjg,zqF];exact z
  have s0:Same H (upd H p (.lst acc)):=zh (Same.refl H) hp;have e0:upd H p (.lst acc) p=some (.lst acc):=za;generalize upd H p (.lst acc)=H0 at s0 e0;refine⟨szl (show 0<=1000 by decide),λp1 hp1=>?_⟩;have s1:=zh (o:=.lst []) s0 hp1;refine⟨p,p1,acc,rfl,rfl,SqL.of (by rw[zf (zg e0 hp1)];exact e0),SqL.of za,?_⟩;rw[ha,zm5 l letB _ λ_=>rfl];exact q _ s1
 | _=>exact ifT rfl (q _ (Same.refl H))
theorem zoR (nt:NTk K CN)(D:Dfn K mg "_law_is_value" zbZ ["thing"]) (zd:mg "isinstance" =none) (zbB:mg "str" =none) (zbg:mg "int" =none) (zcb:mg "bool" =none) (zx:mg "len" =none) (m_ord:mg "ord" =none):Fn P w K mg base "_law_is_value" 1 ["thing"] (zfH CN valO):=by
 refine D.ok (k:=0) (L2.fsN ["thing"]) (λf cdv A outer s H vs Q E hr h=>?_);obtain⟨t,v,rfl,rt,tx',q⟩:=h;refine⟨_,(zc (zV (PW.pt (zik (zbL (zv (zT nt) (by rfl) zd (by rfl) (by ac_rfl))) (zjo (zaN (zbL (zv (zT nt) (by rfl) zd (by rfl) (by ac_rfl)))))))
 (by ac_rfl)
 zy)
 (zc (zV (PW.pt (zaJ (zaN (zbL (zv (zT nt) (by rfl) zd (by rfl) (by ac_rfl)))) (zaA (zG zpH (zv (zR) (by rfl) zx (by rfl) (by ac_rfl)) zap (zO _)))))
 (by ac_rfl)
 zy)
 (zm (zZ (z8 (zhC hr) (zb5 (zt.zero (by rfl) (by decide+kernel) (by decide+kernel) (by decide+kernel) (by rfl)) rfl (zet (pv 0)) (λ_ _ _=>zjA (PW.pt (zaJ (zG zf0 (pv 0) zar (zO _)) (zaJ (zG zkv (pv 0) zar (zO _)) (zaJ (zG zj9 (pv 0) zar (by rfl)) (zaA (by ac_rfl))))))) (λ_ _ _=>(pv 0))) (by ac_rfl) (zO _)))))),?_⟩
 refine⟨_,rfl,t,v,.int,rfl,rt,_,rfl,?_⟩;cases rt with
 | int i=>
  refine ifT rfl ⟨_,rfl,_,_,.bool,rfl,.int i,_,rfl,?_⟩;refine ifT rfl ?_;refine⟨_,_,rfl,rfl,p12,_,_,rfl,rfl,_,rfl,_,_,rfl,rfl,_,rfl,?_⟩;have q:∀H',Same H H'->Q (.bl (decide (i.natAbs<=10 ^ 12))) H':=q;have e:(10:Int) ^ (12:Int).toNat=1000000000000:=by decide
  rw[e];by_cases h1:(0:Int) - 1000000000000<=i
  ·refine ifT (decide_eq_true h1) ⟨_,_,rfl,rfl,p12,_,_,rfl,rfl,?_⟩;show Q (.bl (decide (i<=(10:Int) ^ (12:Int).toNat))) H;rw[e,show decide (i<=(1000000000000:Int))=decide (i.natAbs<=10 ^ 12) from decide_eq_decide.mpr ⟨λz=>by omega,λz=>by omega⟩];exact q _ (Same.refl H)
  ·refine ifF (decide_eq_false h1) ?_;rw[decide_eq_false (show¬i.natAbs<=10 ^ 12 by omega)] at q;exact q _ (Same.refl H)
 | bl b=>refine ifT rfl ⟨_,rfl,_,_,.bool,rfl,.bl b,_,rfl,?_⟩;refine ifF rfl ?_;refine⟨_,rfl,_,_,.str,rfl,.bl b,_,rfl,ifT rfl (q _ (Same.refl H))⟩
 | str x=>
  obtain⟨l,rfl⟩:∃l,x=tx l:=⟨_,(zjE x).symm⟩;have hz:(tx l).length<=900:=tx';rw[zab] at hz;have q:∀H',Same H H'->Q (.bl (valT l)) H':=q;rw[zoe] at q;have sz:(tx l).length<=sizeLine:=by rw[zab];exact szl (by omega)
  refine ifF rfl ?_;refine⟨_,rfl,_,_,.str,rfl,.str (tx l),_,rfl,ifF rfl ?_⟩;refine⟨_,rfl,tx l,rfl,sz,_,_,rfl,rfl,_,rfl,?_⟩;by_cases h2:20 < l.length
  ·refine ifT (decide_eq_true (by rw[zab];omega)) ?_;rw[decide_eq_true h2] at q;exact q _ (Same.refl H)
  refine ifF (decide_eq_false (by rw[zab];omega)) ?_;rw[decide_eq_false h2,Bool.false_or,Bool.not_not] at q;refine⟨_,rfl,tx l,rfl,λp hp=>?_⟩;refine zeV l hz badB (λc H' Z z=>zms c z) (λc H' Z z=>⟨_,rfl,z⟩) λacc ha=>?_;have s0:Same H (upd H p (.lst acc)):=zh (Same.refl H) hp;have e0:upd H p (.lst acc) p=some (.lst acc):=za;generalize upd H p (.lst acc)=H0 at s0 e0;refine⟨szl (show 0<=1000 by decide),λp1 hp1=>?_⟩;have s1:=zh (o:=.lst []) s0 hp1;refine⟨p,p1,acc,rfl,rfl,SqL.of (by rw[zf (zg e0 hp1)];exact e0),SqL.of za,?_⟩;rw[ha];exact q _ s1
 | non=>exact ifF rfl ⟨_,rfl,_,_,.str,rfl,.non,_,rfl,ifT rfl (q _ (Same.refl H))⟩
 | tup e l h=>exact ifF rfl ⟨_,rfl,_,_,.str,rfl,.tup e l h,_,rfl,ifT rfl (q _ (Same.refl H))⟩
 | lst e=>exact ifF rfl ⟨_,rfl,_,_,.str,rfl,.lst e,_,rfl,ifT rfl (q _ (Same.refl H))⟩
 | dic e=>exact ifF rfl ⟨_,rfl,_,_,.str,rfl,.dic e,_,rfl,ifT rfl (q _ (Same.refl H))⟩
 | exc e=>exact ifF rfl ⟨_,rfl,_,_,.str,rfl,.exc e,_,rfl,ifT rfl (q _ (Same.refl H))⟩
end
end Pv
namespace Pv
open PySem L2
noncomputable abbrev zcM:Stmt:=top 97
noncomputable abbrev zbc:Stmt:=top 98
inductive Od (H:Hp):Ob->V->Prop
 | non:Od H .non .non
 | bl (b:Bool):Od H (.bl b) (.bl b)
 | int (i:Int):Od H (.int i) (.int i)
 | str (x:Str) (h:x.length<=900):Od H (.str x) (.str x)
 | tup {a:Addr} {x:Str} (e:H a=some (.tup [.str x])):Od H (.tup [.str x]) (.ref a)
 | nil {a:Addr} (e:H a=some (.tup [])):Od H (.tup []) (.ref a)
 | lst {a:Addr} {xs:QQ} (e:H a=some (.lst xs)):Od H (.odd 0) (.ref a)
 | dic {a:Addr} (e:H a=some (.dK [])):Od H (.odd 1) (.ref a)
theorem Od.rep {CN:Addr}{H:Hp}{t:Ob}{v:V}(o:Od H t v):RepO CN H t v:=by
 cases o with
 | non=>exact .non
 | bl b=>exact .bl b
 | int i=>exact .int i
 | str x h=>exact .str x
 | @tup a x e=>
  refine .tup e rfl λi y t h1 h2=>?_;cases i with
  | zero=>cases h1;cases h2;exact .str x
  | succ i=>cases h1
 | nil e=>exact .tup e rfl λi y t h1 h2=>by cases h1
 | lst e=>exact .lst e
 | dic e=>exact .dic e
theorem Od.tx {H:Hp}{t:Ob}{v:V}(o:Od H t v):TxO t:=by
 cases o with
 | str x h=>exact h
 | _=>exact trivial
theorem Od.frm {D:QO}{H H':Hp}{t:Ob}{v:V}(o:Od H t v)(f:Frm D H H')(n:∀a,v=.ref a->a∉D):Od H' t v:=by
 cases o with
 | non=>exact .non
 | bl b=>exact .bl b
 | int i=>exact .int i
 | str x h=>exact .str x h
 | tup e=>exact .tup (f _ _ (n _ rfl) e)
 | nil e=>exact .nil (f _ _ (n _ rfl) e)
 | lst e=>exact .lst (f _ _ (n _ rfl) e)
 | dic e=>exact .dic (f _ _ (n _ rfl) e)
theorem Od.same {H H':Hp}{t:Ob}{v:V}(o:Od H t v)(f:Same H H'):Od H' t v:=o.frm (D:=[]) (Frm.of f) (λ_ _=>by simp)
theorem Od.self {H:Hp}{t:Ob}{v:V}(o:Od H t v):(∃r,v=.ref r)\/(zaO v=true/\eqV v v=true):=by
 cases o with
 | tup e=>exact .inl ⟨_,rfl⟩
 | nil e=>exact .inl ⟨_,rfl⟩
 | lst e=>exact .inl ⟨_,rfl⟩
 | dic e=>exact .inl ⟨_,rfl⟩
 | _=>exact .inr ⟨rfl,by simp[eqV]⟩
noncomputable def Menu (H0 H:Hp)(xs:QQ):Prop:=∀x∈xs,(∃t,Od H t x)/\∀a,x=.ref a->H0 a=none
theorem Menu.frm {D:QO}{H0 H H':Hp}{xs:QQ}(m:Menu H0 H xs)(f:Frm D H H')(n:∀d∈D,H0 d≠none):Menu H0 H' xs:=λx hx=>by obtain⟨⟨t,o⟩,h⟩:=m x hx;exact⟨⟨t,o.frm f λa e z=>n a z (h a e)⟩,h⟩
theorem Menu.cons {H0 H:Hp}{x:V}{xs:QQ}{t:Ob}(o:Od H t x)(h:∀a,x=.ref a->H0 a=none)(m:Menu H0 H xs):Menu H0 H (x::xs):=λy hy=>by
 rcases List.mem_cons.mp hy with rfl | hy
 ·exact⟨⟨t,o⟩,h⟩
 ·exact m y hy
theorem Menu.nil {H0 H:Hp}:Menu H0 H []:=λx hx=>by cases hx
theorem nref {H0:Hp}{v:V}(h:∀a,v≠ .ref a):∀a,v=.ref a->H0 a=none:=λa e=>Je e (h a)
theorem href {H0:Hp}{p:Addr}(h:H0 p=none):∀a,V.ref p=.ref a->H0 a=none:=λa e=>by cases e;exact h
inductive zes (vs:QQ) (H:Hp) (Q:L2.VK) (_E:XK):Prop
 | mk (row:Addr) (_:vs=[.ref row]) (_:zo H row) (_:∀(l:Addr) (ys:QQ) (H':Hp),H l=none->H' l=some (.lst ys)->Menu H H' ys->Frm [row] H H'->zo H' row->Q (.ref l) H'):zes vs H Q _E
theorem zo.some {H:Hp}{row:Addr}(r:zo H row):∀d∈ [row],H d≠none:=λd hd z=>by obtain⟨a,b,m,e,_⟩:=r;rw[List.mem_singleton.mp hd,e] at z;cases z
section
variable {P:Program}{w:World}{K:QA}{mg:QB}{base:Heap}
theorem ziS (D:Dfn K mg "_law_things" zcM ["hand"]) (zas:Fn P w K mg base "_law_draw" 1 ["hand","limit"] zbD) (zi1:Fn P w K mg base "_law_text" 2 ["hand","most"] zjQ) (zpU:Fn P w K mg base "_law_value" 3 ["hand"] zmZ) (zah:mg "range" =none):Fn P w K mg base "_law_things" 4 ["hand"] zes:=by
 refine D.ok (k:=3) (L2.fsN ["hand","some","letters","k","text","number"]) (λf cdv A outer s H vs Q E hr h=>?_);obtain⟨row,rfl,hd,q⟩:=h;refine⟨_,(zc (by ac_rfl)
 (zc (by ac_rfl)
 (zc (zam PassesOwn.never rfl (by ac_rfl) (by ac_rfl)
 (zm (setA 2 rfl (zdP za1 (pv 2) (zaK zeM zar (by ac_rfl) (λ_ _=>rfl))))))
 (zc (zV (by ac_rfl)
 (zm (setA 2 rfl (zdP za1 (pv 2) (zaK zeM zar (by ac_rfl) (λ_ _=>rfl)))))
 zy)
 (zc (by ac_rfl)
 (zc (zV (by ac_rfl)
 (zm (setA 4 rfl (zdP za1 (pv 4) (zaK zeM zar (by ac_rfl) (λ_ _=>rfl)))))
 zy)
 (by ac_rfl))))))),?_⟩
 refine zk (fun σ H'=>∃ps xs,σ=[some (.ref row),some (.ref ps),none,none,none,none]/\H ps=none/\H' ps=some (.lst xs)/\xs.length=18/\Menu H H' xs/\Same H H') (λN n=>?_) ?_
 ·refine⟨_,rfl,szl (show 0<=1000 by decide),λp1 h1=>?_⟩;have s1:=zh (o:=.lst []) (Same.refl H) h1;have e1:upd H p1 (.lst []) p1=some (.lst []):=za;generalize upd H p1 (.lst [])=H1 at s1 e1;refine⟨szl (show 0<=1000 by decide),λp2 h2=>?_⟩;have s2:=zh (o:=.tup []) (Same.refl H1) h2;have e2:upd H1 p2 (.tup []) p2=some (.tup []):=za;have n2:=s1.free h2;generalize upd H1 p2 (.tup [])=H2 at s2 e2;have s02:Same H H2:=λb o e=>s2 b o (s1 b o e);refine λp3 h3=>?_;have s3:=zh (o:=.dK []) (Same.refl H2) h3;have e3:upd H2 p3 (.dK []) p3=some (.dK []):=za;have n3:=s02.free h3;generalize upd H2 p3 (.dK [])=H3 at s3 e3;have s03:Same H H3:=λb o e=>s3 b o (s02 b o e);refine⟨szl (show 1<=1000 by decide),λp4 h4=>?_⟩;have s4:=zh (o:=.lst [.str "a"]) (Same.refl H3) h4;have e4:upd H3 p4 (.lst [.str "a"]) p4=some (.lst [.str "a"]):=za;have n4:=s03.free h4;generalize upd H3 p4 (.lst [.str "a"])=H4 at s4 e4;have s04:Same H H4:=λb o e=>s4 b o (s03 b o e);refine⟨szl (show 1<=1000 by decide),λp5 h5=>?_⟩;have s5:=zh (o:=.tup [.str "a"]) (Same.refl H4) h5;have e5:upd H4 p5 (.tup [.str "a"]) p5=some (.tup [.str "a"]):=za;have n5:=s04.free h5;generalize upd H4 p5 (.tup [.str "a"])=H5 at s5 e5;have s05:Same H H5:=λb o e=>s5 b o (s04 b o e);refine⟨szl (show 18<=1000 by decide),λps hps=>?_⟩;have mn:Menu H H5 [.non,.bl true,.bl false,.int 0,.int (-1),.ref p1,.ref p2,.ref p3,.ref p4,.ref p5,.str "A",.str "a1",.str "a b",.str "'",.str ";",.str "\n",.str "\t",.str "abcdefghi"]:=by
   have st:∀x:Str,x.length<=900->Od H5 (.str x) (.str x):=λx h=>.str x h;refine .cons .non (nref (by intro a z;cases z)) (.cons (.bl _) (nref (by intro a z;cases z)) (.cons (.bl _) (nref (by intro a z;cases z)) (.cons (.int _) (nref (by intro a z;cases z)) (.cons (.int _) (nref (by intro a z;cases z)) ?_))));refine .cons (.lst (s5 _ _ (s4 _ _ (s3 _ _ (s2 _ _ e1))))) (href h1) (.cons (.nil (s5 _ _ (s4 _ _ (s3 _ _ e2)))) (href n2) (.cons (.dic (s5 _ _ (s4 _ _ e3))) (href n3) (.cons (.lst (s5 _ _ e4)) (href n4) (.cons (.tup e5) (href n5) ?_))));intro x hx;refine⟨?_,nref ?_⟩
   ·simp only[List.mem_cons,List.not_mem_nil,or_false] at hx;rcases hx with rfl | rfl | rfl | rfl | rfl | rfl | rfl | rfl <;> exact⟨_,st _ (by decide+kernel)⟩
   ·simp only[List.mem_cons,List.not_mem_nil,or_false] at hx;rcases hx with rfl | rfl | rfl | rfl | rfl | rfl | rfl | rfl <;> (intro a z;cases z)
  generalize hxs:[V.non,.bl true,.bl false,.int 0,.int (-1),.ref p1,.ref p2,.ref p3,.ref p4,.ref p5,.str "A",.str "a1",.str "a b",.str "'",.str ";",.str "\n",.str "\t",.str "abcdefghi"]=xs at mn;have hl18:xs.length=18:=by rw[<-hxs];rfl
  have s6:=zh (o:=.lst xs) (Same.refl H5) hps;have e6:upd H5 ps (.lst xs) ps=some (.lst xs):=za;have n6:=s05.free hps;exact n _ _ ⟨ps,xs,rfl,n6,e6,hl18,mn.frm (D:=[]) (Frm.of s6) (by simp),λb o e=>s6 b o (s05 b o e)⟩
 rintro σ H6 ⟨ps,xs,rfl,n6,e6,hl18,mn6,s06⟩;have hd6:=hd.keep s06;refine zk (fun σ H'=>σ=[some (.ref row),some (.ref ps),some (.str (tx [])),none,none,none]/\H'=H6) (λN n=>n _ _ ⟨rfl,rfl⟩) ?_;rintro σ H' ⟨rfl,hH⟩;rw[hH];clear hH H';have npr:ps∉ [row]:=not1 (hd.ne n6);have f6:Frm [row] H H6:=Frm.of s06;refine zk (fun σ H'=>∃(l:List Nat) (kk:Option V),σ=[some (.ref row),some (.ref ps),some (.str (tx l)),kk,none,none]/\l.length<=11/\Frm [row] H6 H'/\zo H' row) (λN n=>?_) ?_
 ·refine⟨_,rfl,row,_,rfl,hd6,(show(0:Int) < 11 by decide),(by decide+kernel),λr H7 r0 r1 f7 hd7=>?_⟩;refine⟨_,rfl,by omega,by omega,?_⟩;refine zbs (n:=r.toNat) (λi σ H'=>∃(l:List Nat) (kk:Option V),σ=[some (.ref row),some (.ref ps),some (.str (tx l)),kk,none,none]/\l.length=i/\Frm [row] H6 H'/\zo H' row) ⟨[],_,rfl,rfl,f7,hd7⟩ ?_ ?_
  ·rintro i σ H' hi ⟨l,kk,rfl,hl,f3,R3⟩;refine⟨_,rfl,_,rfl,row,_,rfl,R3,(show(0:Int) < 26 by decide),(by decide+kernel),λu H4 u0 u1 f4 R4=>?_⟩;obtain⟨c,ec,lc⟩:=zpN u0 u1;refine⟨SA,_,c,rfl,rfl,szl (by decide+kernel),ec,?_⟩;refine⟨_,_,rfl,rfl,szl (show(tx l).length+1<=1000 by rw[zab];omega),l++ [c],some (.int (0+(i:Int))),?_,by rw[List.length_append,hl];rfl,f3.trans f4,R4⟩;rw[zc0];rfl
  ·rintro σ H' ⟨l,kk,rfl,hl,f3,R3⟩;exact n _ _ ⟨l,kk,rfl,by omega,f3,R3⟩
 rintro σ H7 ⟨l,kk,rfl,hl,f7,hd7⟩;refine zk (fun σ H'=>∃(l:List Nat) (kk:Option V),σ=[some (.ref row),some (.ref ps),some (.str (tx l)),kk,none,none]/\l.length<=12/\Frm [row] H6 H'/\zo H' row) (λN n=>?_) ?_
 ·refine⟨_,rfl,row,_,rfl,hd7,(show(0:Int) < 4 by decide),(by decide+kernel),λr H8 r0 r1 f8 hd8=>?_⟩;refine⟨rfl,_,rfl,ifB (λ_=>?_) (λ_=>?_)⟩
  ·refine⟨_,rfl,_,rfl,row,_,rfl,hd8,(show(0:Int) < 6 by decide),(by decide+kernel),λu H9 u0 u1 f9 hd9=>?_⟩;obtain⟨c,ec⟩:=ziA (x:=Str.ofString "A1 .;'") u0 (by rw[show(Str.ofString "A1 .;'").length=6 by decide+kernel];exact u1);refine⟨Str.ofString "A1 .;'",_,c,rfl,rfl,szl (by decide+kernel),ec,?_⟩;refine⟨_,_,rfl,rfl,szl (show(tx l).length+1<=1000 by rw[zab];omega),n _ _ ⟨l++ [c],kk,?_,by rw[List.length_append];show l.length+1<=12;omega,(f7.trans f8).trans f9,hd9⟩⟩;rw[zc0];rfl
  ·exact n _ _ ⟨l,kk,rfl,by omega,f7.trans f8,hd8⟩
 clear hl hd7 f7 H7 kk l;rintro σ H7 ⟨l,kk,rfl,hl,f7,hd7⟩;refine zk (fun σ H'=>∃(t:List Nat),σ=[some (.ref row),some (.ref ps),some (.str (tx l)),kk,some (.str (tx t)),none]/\t.length<=22/\Frm [row] H6 H'/\zo H' row) (λN n=>?_) ?_
 ·exact⟨_,rfl,row,22,rfl,hd7,by decide,by decide,λt H8 ht f8 hd8=>n _ _ ⟨t,rfl,ht,f7.trans f8,hd8⟩⟩
 rintro σ H8 ⟨t,rfl,ht,f8,hd8⟩;refine zk (fun σ H'=>∃(t:List Nat),σ=[some (.ref row),some (.ref ps),some (.str (tx l)),kk,some (.str (tx t)),none]/\t.length<=23/\Frm [row] H6 H'/\zo H' row) (λN n=>?_) ?_
 ·refine⟨_,rfl,row,_,rfl,hd8,(show(0:Int) < 4 by decide),(by decide+kernel),λr H9 r0 r1 f9 hd9=>?_⟩;refine⟨rfl,_,rfl,ifB (λ_=>?_) (λ_=>?_)⟩
  ·refine⟨_,rfl,_,rfl,row,_,rfl,hd9,(show(0:Int) < 3 by decide),(by decide+kernel),λu H10 u0 u1 f10 hd10=>?_⟩;obtain⟨c,ec⟩:=ziA (x:=Str.ofString "';\n") u0 (by rw[show(Str.ofString "';\n").length=3 by decide+kernel];exact u1);refine⟨Str.ofString "';\n",_,c,rfl,rfl,szl (by decide+kernel),ec,?_⟩;refine⟨_,_,rfl,rfl,szl (show(tx t).length+1<=1000 by rw[zab];omega),n _ _ ⟨t++ [c],?_,by rw[List.length_append];show t.length+1<=23;omega,(f8.trans f9).trans f10,hd10⟩⟩;rw[zc0];rfl
  ·exact n _ _ ⟨t,rfl,by omega,f8.trans f9,hd9⟩
 clear ht hd8 f8 H8 t f7 hd7 H7;rintro σ H8 ⟨t,rfl,ht,f8,hd8⟩;refine zk (fun σ H'=>∃(m:Int),σ=[some (.ref row),some (.ref ps),some (.str (tx l)),kk,some (.str (tx t)),some (.int m)]/\Frm [row] H6 H'/\zo H' row) (λN n=>?_) ?_
 ·refine⟨_,rfl,szl (show 2<=1000 by decide),λp hp=>?_⟩;have hd9:=hd8.new (o:=.lst [.int 1,.int (-1)]) hp;refine⟨_,rfl,row,_,rfl,hd9,(show(0:Int) < 2 by decide),(by decide+kernel),λr H10 r0 r1 f10 hd10=>?_⟩;obtain⟨x,mx,ex⟩:=zaa (xs:=[V.int 1,.int (-1)]) r0 r1;have hx:∃m:Int,x=.int m/\(m=1\/m= -1):=by
   simp only[List.mem_cons,List.not_mem_nil,or_false] at mx;rcases mx with rfl | rfl
   ·exact⟨_,rfl,.inl rfl⟩
   ·exact⟨_,rfl,.inr rfl⟩
  obtain⟨m,rfl,hm⟩:=hx;refine⟨p,_,_,_,rfl,rfl,SqL.of (f10.at za (not1 (hd8.ne hp))),ex,?_⟩;refine⟨_,_,rfl,rfl,p12,_,_,rfl,rfl,_,rfl,row,_,rfl,hd10,(show(0:Int) < 5 by decide),(by decide+kernel),λu H11 u0 u1 f11 hd11=>?_⟩;refine⟨_,_,rfl,rfl,_,_,rfl,rfl,.inl ⟨by omega,by omega⟩,n _ _ ⟨_,rfl,(zcY f8 hp).trans (f10.trans f11),hd11⟩⟩
 rintro σ H9 ⟨m,rfl,f9,hd9⟩;refine⟨_,rfl,_,rfl,_,rfl,_,rfl,_,rfl,row,_,rfl,hd9,(show(0:Int) < 18 by decide),(by decide+kernel),λr H10 r0 r1 f10 hd10=>?_⟩;have f610:=f9.trans f10;obtain⟨x,mx,ex⟩:=zaa (xs:=xs) r0 (by rw[hl18];exact r1);refine⟨ps,_,_,_,rfl,rfl,SqL.of (f610.at e6 npr),ex,?_⟩;have ox:=(mn6.frm f610 hd.some) x mx;have fin:∀(v:V) (t':Ob) (H11:Hp),Od H11 t' v->(∀a,v≠ .ref a)->Frm [row] H10 H11->zo H11 row->∀q9,H11 q9=none->Q (.ref q9) (upd H11 q9 (.lst [.str (tx l),.str (tx t),.int m,x,v])):=λv t' H11 ov nv f11 hd11 q9 h9=>by have f611:=f610.trans f11;have f0:Frm [row] H H11:=f6.trans f611;have hq9:H q9=none:=f0.none (λd hd z=>by rw[List.mem_singleton.mp hd] at z;obtain⟨a,b,c,e,_⟩:=hd11;rw[e] at z;cases z) h9;have s12:=zh (o:=.lst [.str (tx l),.str (tx t),.int m,x,v]) (Same.refl H11) h9;obtain⟨⟨t9,o9⟩,h9'⟩:=ox;have o11:=o9.frm f11 λa e z=>hd.some a z (h9' a e);refine q q9 _ _ hq9 za ?_ (f0.trans (Frm.of s12)) (hd11.keep s12);refine .cons (.str _ (by rw[zab];omega)) (nref (by intro a z;cases z)) (.cons (.str _ (by rw[zab];omega)) (nref (by intro a z;cases z)) (.cons (.int _) (nref (by intro a z;cases z)) (.cons (o11.same s12) h9' (.cons (ov.same s12) (nref nv) .nil))))
 refine⟨_,rfl,row,rfl,hd10,λy H11 hy f11 hd11=>?_,λi H11 hi f11 hd11=>?_⟩
 ·exact⟨szl (show 5<=1000 by decide),λq9 h9=>fin _ _ H11 (.str _ (by rw[zab];omega)) (by intro a z;cases z) f11 hd11 q9 h9⟩
 ·exact⟨szl (show 5<=1000 by decide),λq9 h9=>fin _ _ H11 (.int i) (by intro a z;cases z) f11 hd11 q9 h9⟩
end
end Pv
namespace Pv
open PySem L2
inductive ziL (vs:QQ) (H:Hp) (Q:L2.VK) (_E:XK):Prop
 | mk (row:Addr) (_:vs=[.ref row]) (_:zo H row) (_:∀(l:Addr) (ys:QQ) (H':Hp),H l=none->H' l=some (.lst ys)->ys.length<=7->Menu H H' ys->Frm [row] H H'->zo H' row->Q (.ref l) H'):ziL vs H Q _E
theorem zbq {H0 H:Hp}{cs:QP}(h:∀x∈cs,zC x.cps.toList=true):Menu H0 H (cs.map V.str):=λv hv=>by obtain⟨x,hx,rfl⟩:=List.mem_map.mp hv;exact⟨⟨_,.str x (by have:=zc4 (h x hx);omega)⟩,nref (by intro a z;cases z)⟩
theorem Menu.mem {H0 H:Hp}{xs ys:QQ}(m:Menu H0 H xs)(h:∀y∈ys,y∈xs):Menu H0 H ys:=λy hy=>m y (h y hy)
theorem Menu.same {H0 H H':Hp}{xs:QQ}(m:Menu H0 H xs)(s:Same H H'):Menu H0 H' xs:=m.frm (D:=[]) (Frm.of s) (by simp)
section
variable {P:Program}{w:World}{K:QA}{mg:QB}{base:Heap}
theorem znQ (D:Dfn K mg "_law_bad_columns" zbc ["hand"]) (zas:Fn P w K mg base "_law_draw" 1 ["hand","limit"] zbD) (zfo:Fn P w K mg base "_law_columns" 3 ["hand"] zeg) (zx:mg "len" =none):Fn P w K mg base "_law_bad_columns" 4 ["hand"] ziL:=by
 refine D.ok (k:=3) (L2.fsN ["hand","fields","kind","bad"]) (λf cdv A outer s H vs Q E hr h=>?_);obtain⟨row,rfl,hd,q⟩:=h;refine⟨_,(zc (by ac_rfl)
 (zc (by ac_rfl)
 (zc (by ac_rfl)
 (zc (zV (by ac_rfl)
 (zm (zZ (zdP zmT (pv 1) (by ac_rfl))))
 zy)
 (by ac_rfl))))),?_⟩
 refine zk (fun σ H'=>∃(l:Addr) (cs:QP),σ=[some (.ref row),some (.ref l),none,none]/\H l=none/\H' l=some (.lst (cs.map V.str))/\1<=cs.length/\cs.length<=6/\(∀x∈cs,zC x.cps.toList=true)/\Frm [row] H H'/\zo H' row) (λN n=>?_) ?_
 ·exact⟨_,rfl,row,rfl,hd,λl cs H' hl el h1 h6 nd nm f' hd'=>n _ _ ⟨l,cs,rfl,hl,el,h1,h6,nm,f',hd'⟩⟩
 rintro σ H1 ⟨l,cs,rfl,hl,el,h1,h6,nm,f1,hd1⟩;have nl:l∉ [row]:=not1 (hd.ne hl);refine zk (fun σ H'=>∃k:Int,σ=[some (.ref row),some (.ref l),some (.int k),none]/\Frm [row] H1 H'/\zo H' row) (λN n=>?_) ?_
 ·exact⟨_,rfl,row,_,rfl,hd1,(show(0:Int) < 6 by decide),(by decide+kernel),λr H2 r0 r1 f2 hd2=>n _ _ ⟨r,rfl,f2,hd2⟩⟩
 rintro σ H2 ⟨kd,rfl,f2,hd2⟩;have f02:=f1.trans f2;have el2:=f2.at el nl;clear f1 f2 hd1 el H1;have free:∀{H':Hp} {p:Addr},Frm [row] H H'->zo H' row->H' p=none->H p=none:=λf' hd' z=>f'.none (λd hd z=>by rw[List.mem_singleton.mp hd] at z;obtain⟨a,b,c,e,_⟩:=hd';rw[e] at z;cases z) z;refine⟨_,rfl,rfl,_,rfl,ifB (λ_=>?_) (λ_=>?_)⟩
 ·refine⟨szl (show 0<=1000 by decide),λp hp=>?_⟩;have s3:=zh (o:=.lst []) (Same.refl H2) hp;exact q p [] _ (free f02 hd2 hp) za (by decide) .nil (f02.trans (Frm.of s3)) (hd2.keep s3)
 refine⟨_,rfl,rfl,_,rfl,ifB (λ_=>?_) (λ_=>?_)⟩
 ·refine⟨_,rfl,_,rfl,_,rfl,_,rfl,l,_,rfl,.inl (SqL.of el2),row,_,rfl,hd2,?_,?_,λr H3 r0 r1 f3 hd3=>?_⟩
  ·rw[List.length_map];omega
  ·rw[List.length_map];exact Int.lt_of_le_of_lt (show(cs.length:Int)<=6 by omega) (by decide+kernel)
  have el3:=f3.at el2 nl;obtain⟨x,mx,ex⟩:=zaa r0 r1;refine⟨l,_,_,_,rfl,rfl,SqL.of el3,ex,szl (show 1<=1000 by decide),λp hp=>?_⟩;have s4:=zh (o:=.lst [x]) (Same.refl H3) hp;have e4:upd H3 p (.lst [x]) p=some (.lst [x]):=za;have el4:=s4 _ _ el3;have hd4:=hd3.keep s4;generalize upd H3 p (.lst [x])=H4 at s4 e4 el4 hd4;have f04:Frm [row] H H4:=(f02.trans f3).trans (Frm.of s4);refine⟨l,p,_,_,rfl,rfl,el4,e4,szl (by rw[List.length_map];show cs.length+1<=1000;omega),λp2 hp2=>?_⟩;have s5:=zh (o:=.lst (cs.map V.str++ [x])) (Same.refl H4) hp2;refine q p2 _ _ (free f04 hd4 hp2) za (by rw[List.length_append,List.length_map];show cs.length+1<=7;omega) ?_ (f04.trans (Frm.of s5)) (hd4.keep s5);exact(zbq nm).mem λy hy=>by
   rcases List.mem_append.mp hy with hy | hy
   ·exact hy
   ·rw[List.mem_singleton.mp hy];exact mx
 refine⟨_,rfl,rfl,_,rfl,ifB (λ_=>?_) (λ_=>?_)⟩
 ·refine⟨szl (show 7<=1000 by decide),λp hp=>?_⟩;have s3:=zh (o:=.lst (["a","b","c","d","e","f","g"].map λz:String=>V.str (Str.ofString z))) (Same.refl H2) hp;refine q p _ _ (free f02 hd2 hp) za (by decide) ?_ (f02.trans (Frm.of s3)) (hd2.keep s3);refine zbq (cs:=["a","b","c","d","e","f","g"].map λz:String=>Str.ofString z) λx hx=>?_;exact Jj.mp (show((["a","b","c","d","e","f","g"].map λz:String=>Str.ofString z).all λx=>zC x.cps.toList)=true by decide+kernel) x hx
 dsimp only[zmR];refine zk (fun σ H'=>∃ys k3 k4,σ=[some (.ref row),some (.ref l),k3,k4]/\H' l=some (.lst ys)/\ys.length<=7/\Menu H H' ys/\Frm [row] H H'/\zo H' row) (λN n=>?_) ?_
 rotate_left
 ·rintro σ H3 ⟨ys,k3,k4,rfl,el3,hy,mn,f3,hd3⟩;exact⟨_,rfl,q l ys H3 hl el3 hy mn f3 hd3⟩
 refine⟨_,rfl,rfl,_,rfl,ifB (λ_=>?_) (λ_=>?_)⟩
 rotate_left
 ·exact n _ _ ⟨_,_,_,rfl,el2,by rw[List.length_map];omega,zbq nm,f02,hd2⟩
 refine zk (fun σ H'=>∃pb xs,σ=[some (.ref row),some (.ref l),some (.int kd),some (.ref pb)]/\H' pb=some (.lst xs)/\pb∉ [row]/\xs.length=10/\Menu H H' xs/\Same H2 H') (λN n=>?_) ?_
 ·refine⟨szl (show 1<=1000 by decide),λp1 h1=>?_⟩;have s1:=zh (o:=.lst [.str "a"]) (Same.refl H2) h1;have e1:upd H2 p1 (.lst [.str "a"]) p1=some (.lst [.str "a"]):=za;generalize upd H2 p1 (.lst [.str "a"])=H3 at s1 e1;refine⟨szl (show 1<=1000 by decide),λp2 h2=>?_⟩;have s2:=zh (o:=.tup [.str "a"]) (Same.refl H3) h2;have e2:upd H3 p2 (.tup [.str "a"]) p2=some (.tup [.str "a"]):=za;have n2:=s1.free h2;generalize upd H3 p2 (.tup [.str "a"])=H4 at s2 e2;have s02:Same H2 H4:=λb o e=>s2 b o (s1 b o e);refine λp3 h3=>?_;have s3:=zh (o:=.dK []) (Same.refl H4) h3;have e3:upd H4 p3 (.dK []) p3=some (.dK []):=za;have n3:=s02.free h3;generalize upd H4 p3 (.dK [])=H5 at s3 e3;have s03:Same H2 H5:=λb o e=>s3 b o (s02 b o e);refine⟨szl (show 10<=1000 by decide),λpb hpb=>?_⟩;have nb:=s03.free hpb;have s4:=zh (o:=.lst [.non,.str "",.str "A",.str "a.b",.str "abcdefghi",.int 1,.bl true,.ref p1,.ref p2,.ref p3]) (Same.refl H5) hpb;refine n _ _ ⟨pb,_,rfl,za,not1 (hd2.ne nb),rfl,?_,λb o e=>s4 b o (s03 b o e)⟩;refine Menu.same ?_ s4;have st:∀x:Str,x.length<=900->Od H5 (.str x) (.str x):=λx h=>.str x h;refine .cons .non (nref (by intro a z;cases z)) (.cons (st _ (by decide+kernel)) (nref (by intro a z;cases z)) (.cons (st _ (by decide+kernel)) (nref (by intro a z;cases z)) (.cons (st _ (by decide+kernel)) (nref (by intro a z;cases z)) (.cons (st _ (by decide+kernel)) (nref (by intro a z;cases z)) ?_))));refine .cons (.int _) (nref (by intro a z;cases z)) (.cons (.bl _) (nref (by intro a z;cases z)) ?_);exact .cons (.lst (s3 _ _ (s2 _ _ e1))) (href (free f02 hd2 h1)) (.cons (.tup (s3 _ _ e2)) (href (free f02 hd2 n2)) (.cons (.dic e3) (href (free f02 hd2 n3)) .nil))
 rintro σ H3 ⟨pb,xs,rfl,eb,npb,hx10,mn,s3⟩;have hd3:=hd2.keep s3;have f03:=f02.trans (Frm.of s3);refine⟨_,rfl,_,rfl,row,_,rfl,hd3,(show(0:Int) < 10 by decide),(by decide+kernel),λr H4 r0 r1 f4 hd4=>?_⟩;obtain⟨x,mx,ex⟩:=zaa (xs:=xs) r0 (by rw[hx10];exact r1);refine⟨pb,_,_,_,rfl,rfl,SqL.of (f4.at eb npb),ex,?_⟩;have el4:=f4.at (s3 _ _ el2) nl;refine⟨_,rfl,_,rfl,_,rfl,l,_,rfl,.inl (SqL.of el4),row,_,rfl,hd4,?_,?_,λu H5 u0 u1 f5 hd5=>?_⟩
 ·rw[List.length_map];omega
 ·rw[List.length_map];exact Int.lt_of_le_of_lt (show(cs.length:Int)<=6 by omega) (by decide+kernel)
 have el5:=f5.at el4 nl;obtain⟨j,hj⟩:∃j,ixN (cs.map V.str).length u=some j:=by unfold ixN;rw[if_pos u0,if_pos u1];exact⟨_,rfl⟩
 have f05:=(f03.trans f4).trans f5;refine⟨l,_,_,j,rfl,rfl,el5,hj,n _ _ ⟨_,_,_,rfl,za,by rw[List.length_set,List.length_map];omega,?_,zbI f05 hl,?_⟩⟩
 ·have m5:Menu H H5 xs:=mn.frm (f4.trans f5) hd.some;have ku:∀{t:Ob} {v:V},Od H5 t v->Od (upd H5 l (.lst ((cs.map V.str).set j x))) t v:=λ{t v} o=>by
   cases o with
   | non=>exact .non
   | bl b=>exact .bl b
   | int i=>exact .int i
   | str x h=>exact .str x h
   | tup e=>exact .tup (by rw[zf (zaf e el5 (by intro z;cases z))];exact e)
   | nil e=>exact .nil (by rw[zf (zaf e el5 (by intro z;cases z))];exact e)
   | @lst a xs e=>
    by_cases z:a=l
    ·rw[z];exact .lst za
    ·exact .lst (by rw[zf z];exact e)
   | dic e=>exact .dic (by rw[zf (zaf e el5 (by intro z;cases z))];exact e)
  intro y hy;rcases List.mem_or_eq_of_mem_set hy with hy | rfl
  ·obtain⟨⟨t,o⟩,z⟩:=zbq (H0:=H) (H:=H5) nm y hy;exact⟨⟨t,ku o⟩,z⟩
  ·obtain⟨⟨t,o⟩,z⟩:=m5 y mx;exact⟨⟨t,ku o⟩,z⟩
 ·obtain⟨a,b,m,e,z⟩:=hd5;refine⟨a,b,m,?_,z⟩;rw[zf (λy=>nl (by rw[<-y];exact List.mem_singleton_self _))];exact e
end
end Pv
namespace Pv
open PySem L2
noncomputable abbrev zfy:Stmt:=top 99
theorem zoF (xs:QQ)(k:Nat)(h:k<=xs.length):cutV xs none (some (0+(k:Int)))=xs.take k:=by
 have e2:HT.sIx xs.length 0 none=0:=rfl;have e:HT.sIx xs.length xs.length (some (0+(k:Int)))=k:=by simp only[HT.sIx];rw[if_neg (by omega)];omega
 unfold cutV;rw[e,e2,List.drop_zero,Nat.sub_zero]
theorem zf5 (a b:List Ob):zB (a++b)=zB a++zB b:=by
 induction a with
 | nil=>rfl
 | cons t r ih=>cases t <;> simp[zB,ih]
theorem RepO.name {CN:Addr}{H:Hp}{t:Ob}{v:V}(r:RepO CN H t v)(z:zA t=true):∃x,t=.str x/\v=.str x/\zC x.cps.toList=true:=by
 cases r with
 | str x=>exact⟨x,rfl,rfl,z⟩
 | _=>cases z
noncomputable def dueS (kvs:QG)(t:Ob)(ts:List Ob):Str:=if (zA t && zag ts)=true then(match t with | .str x=>if (valV kvs (.inr x)).isSome=true then "NoTable" else "" | _=> "") else "NoName"
inductive zmO (CN:Addr) (vs:QQ) (H:Hp) (Q:L2.VK) (_E:XK):Prop
 | mk (d:Addr) (kvs:QG) (t:Ob) (v:V) (l:Addr) (ys:QQ) (ts:List Ob) (_:vs=[.ref d,v,.ref l]) (_:H d=some (.dK kvs)) (_:RepO CN H t v) (_:TxO t) (_:H l=some (.lst ys)) (_:ys.length=ts.length) (_:ts.length<=7) (_:(∀(i:Nat) (x:V) (t:Ob),ys[i]? =some x->ts[i]? =some t->RepO CN H t x/\TxO t)) (_:∀H',Same H H'->Q (.str (dueS kvs t ts)) H'):zmO CN vs H Q _E
section
variable {P:Program}{w:World}{K:QA}{mg:QB}{base:Heap}{CN:Addr}
theorem zox (D:Dfn K mg "_law_due" zfy ["model","name","fields"]) (zfp:Fn P w K mg base "_law_is_name" 1 ["thing"] (zfH CN zA)) (zah:mg "range" =none) (zx:mg "len" =none):Fn P w K mg base "_law_due" 2 ["model","name","fields"] (zmO CN):=by
 refine D.ok (k:=1) (L2.fsN ["model","name","fields","k"]) (λf cdv A outer s H vs Q E hr h=>?_);obtain⟨d,kvs,t,v,l,ys,ts,rfl,ed,rt,tt,el,hl,h7,rp,q⟩:=h;refine⟨_,(zc (by ac_rfl)
 (zc (zam PassesOwn.never rfl (by ac_rfl) (by ac_rfl)
 (zm (zV (PW.pt (zaJ (by ac_rfl) (zaA (zG zkb (by ac_rfl) (by ac_rfl) (by rfl)))))
 (by ac_rfl)
 zy)))
 (zc (zV (zlC (zgG (zhH hr) (pv 1) (pv 0)))
 (by ac_rfl)
 zy)
 (by ac_rfl)))),?_⟩
 have bad:(zA t && zag ts)=false->∀H',Same H H'->Q (.str "NoName") H':=λz H' s'=>by have:=q H' s';unfold dueS at this;rw[if_neg (by rw[z];exact Jc)] at this;exact this
 refine zk (fun σ H'=>σ=[some (.ref d),some v,some (.ref l),none]/\Same H H'/\zA t=true/\1<=ts.length/\ts.length<=6) (λN n=>?_) ?_
 ·refine⟨_,rfl,t,v,rfl,rt,tt,λH1 s1=>⟨_,rfl,?_⟩⟩;cases z:zA t with
  | false=>exact ifT rfl (ifT rfl (bad (by rw[z];rfl) H1 s1))
  | true=>
  refine ifF rfl ⟨_,rfl,l,ys,rfl,.inl (SqL.of (s1 _ _ el)),_,_,rfl,rfl,_,rfl,?_⟩;by_cases h1:1<=ts.length
  rotate_left
  ·refine ifF (decide_eq_false (by omega)) ⟨_,rfl,ifT rfl (bad ?_ H1 s1)⟩;unfold zag;rw[decide_eq_false h1,Bool.false_and,Bool.false_and,Bool.false_and,Bool.and_false]
  refine ifT (decide_eq_true (by omega)) ⟨_,_,rfl,rfl,_,rfl,?_⟩;by_cases h2:ts.length<=6
  rotate_left
  ·refine ifT (by rw[show decide ((ys.length:Int)<=6)=false from decide_eq_false (by omega)];rfl) (bad ?_ H1 s1);unfold zag;rw[decide_eq_false h2,Bool.and_false,Bool.false_and,Bool.false_and,Bool.and_false]
  exact ifF (by rw[show decide ((ys.length:Int)<=6)=true from decide_eq_true (by omega)];rfl) (n _ _ ⟨rfl,s1,z,h1,h2⟩)
 rintro σ H1 ⟨rfl,s1,nt,h1,h2⟩;refine zk (fun σ H'=>∃k,σ=[some (.ref d),some v,some (.ref l),k]/\Same H H'/\zag ts=true) (λN n=>?_) ?_
 ·refine⟨_,rfl,l,ys,rfl,.inl (SqL.of (s1 _ _ el)),?_⟩;refine⟨_,rfl,by omega,by omega,?_⟩;refine zbs (n:=(ys.length:Int).toNat) (λi σ H'=>∃k,σ=[some (.ref d),some v,some (.ref l),k]/\Same H H'/\(ts.take i).all zA=true/\(zB (ts.take i)).Nodup) ⟨_,rfl,s1,rfl,List.nodup_nil⟩ ?_ ?_
  ·rintro i σ H2 hi ⟨k,rfl,s2,al,nd⟩;have hi':i < ys.length:=by omega
   have hit:i < ts.length:=by omega
   have ey:ys[i]? =some ys[i]:=List.getElem?_eq_getElem hi';have et:ts[i]? =some ts[i]:=List.getElem?_eq_getElem hit;obtain⟨ro,xo⟩:=rp i _ _ ey et;have ea:atI ys (0+(i:Int))=some ys[i]:=by rw[Int.zero_add];exact zgC ey
   have etk:ts.take (i+1)=ts.take i++ [ts[i]]:=by rw[List.take_add_one,et];rfl
   refine⟨_,rfl,_,rfl,l,_,_,_,rfl,rfl,SqL.of (s2 _ _ el),ea,ts[i],ys[i],rfl,ro.keep (Kept.of s2),xo,λH3 s3=>⟨_,rfl,?_⟩⟩;have s03:Same H H3:=λb o e=>s3 b o (s2 b o e);cases z:zA ts[i] with
   | false=>
    refine ifT rfl (ifT rfl (bad ?_ H3 s03));have:ts.all zA=false:=by
     cases y:ts.all zA with
     | false=>rfl
     | true=>rw[Jj.mp y _ (Jn hit)] at z;cases z
    unfold zag;rw[this,Bool.and_false,Bool.false_and,Bool.and_false]
   | true=>
    refine ifF rfl ?_;have eo:=strs_map (Jj.mp al);have evs:ys.take i=(zB (ts.take i)).map V.str:=zbt (CN:=CN) (H:=H) (by rw[List.length_take,List.length_take,hl]) (λj x t' e1 e2=>by
     have hj:j < i:=by have:=(List.getElem?_eq_some_iff.mp e1).1;rw[List.length_take] at this;omega
     rw[List.getElem?_take_of_lt hj] at e1 e2;exact(rp j x t' e1 e2).1) eo
    obtain⟨x,hx1,hx2,nx⟩:=RepO.name ro z;rw[hx2] at ea;refine⟨_,rfl,_,rfl,l,_,_,_,rfl,rfl,SqL.of (s03 _ _ el),ea,_,rfl,_,rfl,_,rfl,l,_,rfl,SqL.of (s03 _ _ el),λp hp=>?_⟩;rw[zoF ys i (by omega),evs];have s4:=zh (o:=.lst ((zB (ts.take i)).map V.str)) s03 hp;refine⟨p,_,rfl,.inl (SqL.of za),rfl,zcS _,?_⟩;show∃c,V.bl (inV (.str x) ((zB (ts.take i)).map V.str))=.bl c/\_;rw[zjS];refine⟨_,rfl,?_⟩;have est:zB (ts.take (i+1))=zB (ts.take i)++ [x]:=by rw[etk,zf5,hx1];rfl
    by_cases c:x∈zB (ts.take i)
    ·refine ifT (decide_eq_true c) (bad ?_ _ s4);have nn:¬(zB ts).Nodup:=λw=>by
      have e:zB ts=zB (ts.take (i+1))++zB (ts.drop (i+1)):=by rw[<-zf5,List.take_append_drop]
      rw[e,est,List.nodup_append,List.nodup_append] at w;exact w.1.2.2 x c x (List.mem_singleton_self x) rfl
     unfold zag;rw[decide_eq_false nn,Bool.and_false,Bool.and_false]
    ·refine ifF (decide_eq_false c) ⟨_,rfl,s4,?_,?_⟩
     ·rw[etk,List.all_append,al];show(true && (zA ts[i] && true))=true;rw[z];rfl
     ·rw[est];exact List.nodup_append.mpr ⟨nd,by simp,λa ha b hb e=>by rw[List.mem_singleton.mp hb] at e;exact c (e ▸ ha)⟩
  ·rintro σ H2 ⟨k,rfl,s2,al,nd⟩;have e:(ys.length:Int).toNat=ts.length:=by omega
   rw[e,List.take_length] at al nd;refine n _ _ ⟨k,rfl,s2,?_⟩;unfold zag;rw[decide_eq_true h1,decide_eq_true h2,al,decide_eq_true nd];rfl
 rintro σ H2 ⟨k,rfl,s2,co⟩;cases rt with
 | str x=>
  have q':∀H',Same H H'->Q (.str (if (valV kvs (.inr x)).isSome=true then "NoTable" else "")) H':=λH' s'=>by have:=q H' s';unfold dueS at this;rw[if_pos (by rw[nt,co];rfl)] at this;exact this
  refine⟨_,rfl,_,rfl,d,_,rfl,DGet.k (k:=.inr x) (s2 _ _ ed),_,rfl,?_⟩;cases z:(valV kvs (.inr x)).isSome with
  | true=>rw[z] at q';exact ifT rfl (q' _ s2)
  | false=>rw[z] at q';exact ifF rfl (q' _ s2)
 | _=>cases nt
end
end Pv
namespace Pv
open PySem L2
open Tr
noncomputable abbrev zeX:Stmt:=top 100
noncomputable abbrev zdI:Stmt:=top 101
structure KdOk (K:QA)(C CVaultError CNoName CNoTable CNoColumn CNoRow CBadThing CClash CNoPaper CNoQuestion CNoPlan CNoStep CNotSo CNoState:Addr)(b:Bool):Prop where
 kd:zhL K C
 k0:PySem.W.kitOne K (.ref C) (.ref CNoName)=some b
 k1:PySem.W.kitOne K (.ref C) (.ref CNoTable)=some !b
 k2:PySem.W.kitOne K (.ref C) (.ref CNoColumn)=some false
 k3:PySem.W.kitOne K (.ref C) (.ref CNoRow)=some false
 k4:PySem.W.kitAny K (.ref C) [.ref CBadThing,.ref CClash,.ref CNoPaper,.ref CNoQuestion,.ref CNoPlan,.ref CNoStep,.ref CNotSo,.ref CNoState]=some false
 k5:PySem.W.kitOne K (.ref C) (.ref CVaultError)=some true
noncomputable def knd (b:Bool):Str:=if b=true then "NoName" else "NoTable"
noncomputable def znk (CNM CT:Addr):Sp:=λvs H Q _=>(vs=[.non]/\Q (.str "") H)\/(∃(e:Addr) (b:Bool),vs=[.ref e]/\H e=some (exO e (if b=true then CNM else CT) none false)/\∀H',Same H H'->Q (.str (knd b)) H')
section
variable {P:Program}{w:World}{K:QA}{mg:QB}{base:Heap}{CVaultError CNoName CNoTable CNoColumn CNoRow CBadThing CClash CNoPaper CNoQuestion CNoPlan CNoStep CNotSo CNoState:Addr}
theorem zm0 (D:Dfn K mg "_law_kind" zeX ["caught"]) (ko:∀b:Bool,KdOk K (if b=true then CNoName else CNoTable) CVaultError CNoName CNoTable CNoColumn CNoRow CBadThing CClash CNoPaper CNoQuestion CNoPlan CNoStep CNotSo CNoState b)
  (zda:mg "VaultError" =some (.ref CVaultError)) (zcd:mg "NoName" =some (.ref CNoName)) (zav:mg "NoTable" =some (.ref CNoTable)) (za9:mg "NoColumn" =some (.ref CNoColumn)) (zdb:mg "NoRow" =some (.ref CNoRow)) (zff:mg "BadThing" =some (.ref CBadThing)) (zdc:mg "Clash" =some (.ref CClash)) (zgd:mg "NoPaper" =some (.ref CNoPaper)) (zdd:mg "NoQuestion" =some (.ref CNoQuestion)) (zh7:mg "NoPlan" =some (.ref CNoPlan)) (zh8:mg "NoStep" =some (.ref CNoStep)) (zj1:mg "NotSo" =some (.ref CNotSo)) (zge:mg "NoState" =some (.ref CNoState))
  (zd:mg "isinstance" =none):Fn P w K mg base "_law_kind" 1 ["caught"] (znk CNoName CNoTable):=by
 refine D.ok (k:=0) (L2.fsN ["caught","kinds","other"]) (λf cdv A outer s H vs Q E hr h=>?_) (λvs H Q E h=>?_)
 rotate_left
 ·rcases h with ⟨rfl,_⟩ | ⟨e,b,rfl,_⟩ <;> rfl
 refine⟨_,(zc (by ac_rfl)
 (zc (setA 1 rfl (zgz (zH (zv (z6) (by rfl) zd (by rfl) (by ac_rfl)) (zH (zv (z6) (by rfl) zd (by rfl) (by ac_rfl)) (zH (zv (z6) (by rfl) zd (by rfl) (by ac_rfl)) za6)))))
 (zc (zgQ (zhG PySem.F.plainAttrs_list PySem.F.slot_list_append PySem.F.type_list_append zdz (pv 1) (zH (zv (z6) (by rfl) zd (by rfl) (by ac_rfl)) za6)))
 (zc (setA 2 rfl (zv (z6) (by rfl) zd (by rfl) (by ac_rfl)))
 (zc (zV (PW.pt (zaJ (by ac_rfl) (zaJ (zaN (zbL (zv (z6) (by rfl) zd (by rfl) (by ac_rfl)))) (zaA (zG zm4 (zhG PySem.F.plainAttrs_list PySem.F.slot_list_count PySem.F.type_list_count zkU (pv 1) (by ac_rfl)) zap (zO _))))))
 (by ac_rfl)
 zy)
 (zm (zZ (zaK zcj (by ac_rfl) (zhG PySem.F.plainAttrs_list PySem.F.slot_list_index PySem.F.type_list_index zkM (pv 1) (by ac_rfl)) (λ_ _=>rfl))))))))),?_⟩
 rcases h with ⟨rfl,q⟩ | ⟨e,b,rfl,ee,q⟩
 ·exact⟨_,rfl,rfl,_,rfl,ifT rfl q⟩
 refine⟨_,rfl,rfl,_,rfl,ifF rfl ?_⟩;have k:=ko b;generalize(if b=true then CNoName else CNoTable)=C at ee k;have ho:∀H':Hp,∀d,(none:QM)=some d->∃l,H' d=some (xdO d l):=λH' d z=>by cases z
 dsimp only[zmR];refine zk (fun σ H'=>∃l,σ=[some (.ref e),some (.ref l),none]/\Same H H'/\H l=none/\H' l=some (.lst ([b, !b,false].map V.bl))) (λN n=>?_) ?_
 ·refine⟨_,rfl,e,C,none,false,_,b,rfl,ee,k.kd,ho _,⟨_,rfl,e,C,none,false,_, !b,rfl,ee,k.kd,ho _,⟨_,rfl,e,C,none,false,_,false,rfl,ee,k.kd,ho _,⟨szl (show 3<=1000 by decide),λl hl=>n _ _ ⟨l,rfl,zh (Same.refl H) hl,hl,za⟩⟩,.inr (.inl ⟨_,rfl,k.k2⟩)⟩,.inr (.inl ⟨_,rfl,k.k1⟩)⟩,.inr (.inl ⟨_,rfl,k.k0⟩)⟩
 rintro σ H1 ⟨l,rfl,s1,hl,el⟩;refine zk (fun σ H'=>σ=[some (.ref e),some (.ref l),none]/\Same H H'/\H' l=some (.lst ([b, !b,false,false].map V.bl))) (λN n=>?_) ?_
 ·refine⟨_,rfl,.inl ⟨rfl,_,SqL.of el⟩,_,rfl,e,C,none,false,_,false,rfl,s1 _ _ ee,k.kd,ho _,⟨l,_,_,rfl,rfl,el,zaX (show 3<=1000 by decide),n _ _ ⟨rfl,zeN s1 hl,za⟩⟩,.inr (.inl ⟨_,rfl,k.k3⟩)⟩
 clear s1 el H1;rintro σ H1 ⟨rfl,s1,el⟩;refine zk (fun σ H'=>σ=[some (.ref e),some (.ref l),some (.bl false)]/\Same H H'/\H' l=some (.lst ([b, !b,false,false].map V.bl))) (λN n=>?_) ?_
 ·refine⟨_,rfl,szl (show 8<=1000 by decide),λp hp=>?_⟩;generalize hts:[V.ref CBadThing,.ref CClash,.ref CNoPaper,.ref CNoQuestion,.ref CNoPlan,.ref CNoStep,.ref CNotSo,.ref CNoState]=ts;have s2:=zh (o:=.tup ts) (Same.refl H1) hp;have et:upd H1 p (.tup ts) p=some (.tup ts):=za;generalize upd H1 p (.tup ts)=H2 at s2 et;refine⟨e,C,none,false,_,false,rfl,s2 _ _ (s1 _ _ ee),k.kd,ho _,n _ _ ⟨rfl,λb o z=>s2 b o (s1 b o z),s2 _ _ el⟩,.inr (.inr ⟨p,ts,rfl,et,?_,?_⟩)⟩
  ·intro v hv;rw[<-hts] at hv;simp only[List.mem_cons,List.not_mem_nil,or_false] at hv;rcases hv with rfl | rfl | rfl | rfl | rfl | rfl | rfl | rfl <;> exact .inr ⟨_,rfl⟩
  ·rw[<-hts];exact k.k4
 clear s1 el H1;rintro σ H1 ⟨rfl,s1,el⟩;refine zk (fun σ H'=>σ=[some (.ref e),some (.ref l),some (.bl false)]/\H'=H1) (λN n=>?_) ?_
 ·refine⟨_,rfl,_,rfl,ifF rfl ?_⟩;refine⟨_,rfl,e,C,none,false,_,true,rfl,s1 _ _ ee,k.kd,ho _,⟨_,rfl,ifF rfl ?_⟩,.inr (.inl ⟨_,rfl,k.k5⟩)⟩;refine⟨_,rfl,.inl ⟨rfl,_,SqL.of el⟩,l,[b, !b,false,false],rfl,rfl,SqL.of el,rfl,_,rfl,?_⟩;refine ifF ?_ (n _ _ ⟨rfl,rfl⟩);cases b <;> rfl
 rintro σ H' ⟨rfl,hH⟩;rw[hH];clear hH H';refine⟨szl (show 4<=1000 by decide),λp hp=>?_⟩;have s2:=zh (o:=.lst [.str "NoName",.str "NoTable",.str "NoColumn",.str "NoRow"]) (Same.refl H1) hp;have ep:upd H1 p (.lst [.str "NoName",.str "NoTable",.str "NoColumn",.str "NoRow"]) p=some (.lst [.str "NoName",.str "NoTable",.str "NoColumn",.str "NoRow"]):=za;generalize upd H1 p (.lst [.str "NoName",.str "NoTable",.str "NoColumn",.str "NoRow"])=H2 at s2 ep;have q2:=q H2 λb o z=>s2 b o (s1 b o z);refine⟨_,rfl,.inl ⟨rfl,_,SqL.of (s2 _ _ el)⟩,l,[b, !b,false,false],if b=true then 0 else 1,rfl,rfl,SqL.of (s2 _ _ el),?_,?_,?_,p,_,_,.str (knd b),rfl,rfl,SqL.of ep,?_,q2⟩
 ·cases b <;> decide
 ·cases b <;> rfl
 ·cases b with
  | true=>intro m hm;exact Je hm (Nat.not_lt_zero _)
  | false=>
   intro m hm;have:m=0:=by have hm:m < 1:=hm;omega
   rw[this];rfl
 ·cases b <;> rfl
end
end Pv
namespace Pv
open PySem L2
open Tr
structure AskQ (VR:VRT)(a:Addr)(D:QO)(s:Vst)(T:Tr)(t:Ob)(ts:List Ob)(way:Int)(H:Hp)(Q:V->Hp->Prop):Prop where
 nn:way=0->(zA t && zag ts)=false->∀p H',Frm D H H'->VR H' a D s->H' p=some (.tup [.int T.root,.str "NoName"])->Q (.ref p) H'
 nt:way=0->∀x cs,t=.str x->(.str x,tabT cs)∈T.ps->(zA t && zag ts)=true->∀p H' s',Frm D H H'->VR H' a D s'->s'.kp=s.kp->s'.own=s.own->H' p=some (.tup [.int T.root,.str "NoTable"])->Q (.ref p) H'
 mt:way=0->∀x cs,t=.str x->ts=cs.map Ob.str->zC x.cps.toList=true->zdD cs->(∀p∈T.ps,p.1≠ .str x)->∀p H' s',Frm D H H'->VR H' a D s'->Go (λ_=>True) 4000 s s'->(putT (.str x) (tabT cs) T).InV s'.all->H' p=some (.tup [.int (putT (.str x) (tabT cs) T).root,.str ""])->Q (.ref p) H'
 dr:way≠0->∀x cs,t=.str x->(.str x,tabT cs)∈T.ps->∀p H' s',Frm D H H'->VR H' a D s'->Go (λ_=>True) 4000 s s'->(cutT (.str x) T).InV s'.all->H' p=some (.tup [.int (cutT (.str x) T).root,.str ""])->Q (.ref p) H'
 no:way≠0->∀x,t=.str x->(∀p∈T.ps,p.1≠ .str x)->∀p H' s',Frm D H H'->VR H' a D s'->s'.kp=s.kp->s'.own=s.own->H' p=some (.tup [.int T.root,.str "NoTable"])->Q (.ref p) H'
inductive zgl (VR:VRT) (CNA CN CB CC:Addr) (vs:QQ) (H:Hp) (Q:L2.VK) (E:XK):Prop
 | mk (a:Addr) (D:QO) (s:Vst) (T:Tr) (t:Ob) (vn:V) (cl:Addr) (ys:QQ) (ts:List Ob) (way:Int) (_:vs=[.ref a,.int T.root,vn,.ref cl,.int way]) (_:VR H a D s) (_:Tabs s T) (_:T.cnt<=299) (_:4000<=s.n) (_:RepO CNA H t vn) (_:TxO t) (_:H cl=some (.lst ys)) (_:ys.length=ts.length) (_:ts.length<=100) (_:(∀(i:Nat) (x:V) (t:Ob),ys[i]? =some x->ts[i]? =some t->RepO CNA H t x)) (_:(∀t∈ts,TxO t)) (_:(way≠0->zA t=true)) (_:(∀u t s',OutE VR CN CB CC a D H E (.clash u t) s')) (_:AskQ VR a D s T t ts way H Q):zgl VR CNA CN CB CC vs H Q E
section
variable {P:Program}{w:World}{K:QA}{mg:QB}{base:Heap}{VR:VRT}{C CN CB CC CNA CNoName CNoTable CNoColumn CNoRow:Addr}
theorem zmw (I:VI C VR)(D:Dfn K mg "_law_asked" zdI ["vault","root","name","fields","way"]) (zo7:FnX P w K mg base "make_table" 26 ["vault","root","name","columns"] (ziN VR CNA CNoName CNoTable CN CB CC)) (zo8:FnX P w K mg base "drop_table" 25 ["vault","root","name"] (zit VR CNoTable CN CB CC)) (zre:Fn P w K mg base "_law_kind" 1 ["caught"] (znk CNoName CNoTable))
  (zcd:mg "NoName" =some (.ref CNoName)) (zav:mg "NoTable" =some (.ref CNoTable)) (za9:mg "NoColumn" =some (.ref CNoColumn)) (zdb:mg "NoRow" =some (.ref CNoRow))
  (em:∀b:Bool,PySem.W.exmAny K (.ref (if b=true then CNoName else CNoTable)) [.ref CNoName,.ref CNoTable,.ref CNoColumn,.ref CNoRow]=some true) (emC:PySem.W.exmAny K (.ref CC) [.ref CNoName,.ref CNoTable,.ref CNoColumn,.ref CNoRow]=some false):
  FnX P w K mg base "_law_asked" 27 ["vault","root","name","fields","way"] (zgl VR CNA CN CB CC):=by
 refine D.okX (k:=26) (L2.fsN ["vault","root","name","fields","way","caught","got","e"]) (λf cdv A outer s H vs Q E hr h=>?_);obtain⟨a,Ds,st,T,t,vn,cl,ys,ts,way,rfl,vr,tb,c9,hn,rt,tt,ec,hl,h100,rp,txs,hw,hc,q⟩:=h;refine⟨_,(zc (by ac_rfl)
 (zc (by ac_rfl)
 (zc (zoI (i:=7) (E:=E) znj rfl rfl rfl (zc5 rfl) rfl rfl (by rfl) zcd (by rfl) zav (by rfl) za9 (by rfl) zdb (λxe pn E hx=>(by ac_rfl)) (λe=>(by ac_rfl)))
 (by ac_rfl)))),?_⟩
 refine zk (fun σ H'=>σ=[some (.ref a),some (.int T.root),some vn,some (.ref cl),some (.int way),some .non,none,none]/\H'=H) (λN n=>n _ _ ⟨rfl,rfl⟩) ?_;rintro σ H' ⟨rfl,hH⟩;rw[hH];clear hH H';refine zk (fun σ H'=>σ=[some (.ref a),some (.int T.root),some vn,some (.ref cl),some (.int way),some .non,some (.int T.root),none]/\H'=H) (λN n=>⟨_,rfl,n _ _ ⟨rfl,rfl⟩⟩) ?_;rintro σ H' ⟨rfl,hH⟩;rw[hH];clear hH H';refine zk (fun σ H'=>∃(r:Int) (v:V),σ=[some (.ref a),some (.int T.root),some vn,some (.ref cl),some (.int way),some v,some (.int r),none]/\
  ((v=.non/\∀p H2,Same H' H2->H2 p=some (.tup [.int r,.str ""])->Q (.ref p) H2)\/(∃e b,v=.ref e/\H' e=some (exO e (if b=true then CNoName else CNoTable) none false)/\∀p H2,Same H' H2->H2 p=some (.tup [.int r,.str (knd b)])->Q (.ref p) H2))) (λN n=>?_) ?_
 rotate_left
 ·rintro σ H1 ⟨r,v,rfl,h⟩;rcases h with ⟨rfl,h⟩ | ⟨e,b,rfl,ee,h⟩
  ·refine⟨_,rfl,_,rfl,.inl ⟨rfl,szl (show 2<=1000 by decide),λp hp=>?_⟩⟩;exact h p _ (zh (Same.refl H1) hp) za
  ·refine⟨_,rfl,_,rfl,.inr ⟨e,b,rfl,ee,λH2 s2=>⟨szl (show 2<=1000 by decide),λp hp=>?_⟩⟩⟩;exact h p _ (zh s2 hp) za
 have caught:∀(b:Bool) (H1:Hp),(∀p H2,Same H1 H2->H2 p=some (.tup [.int T.root,.str (knd b)])->Q (.ref p) H2)->∀e,H1 e=none->N [some (.ref a),some (.int T.root),some vn,some (.ref cl),some (.int way),some (.ref e),some (.int T.root),none] (upd H1 e (exO e (if b=true then CNoName else CNoTable) none false)):=λb H1 h e he=>
  n _ _ ⟨_,_,rfl,.inr ⟨e,b,rfl,za,λp H2 s2 ep=>h p H2 (λc o z=>s2 c o (by rw[zf (zg z he)];exact z)) ep⟩⟩
 refine⟨_,rfl,rfl,_,rfl,?_⟩;rw[zai];by_cases w0:way=0
 ·refine ifT (decide_eq_true w0) ?_;refine⟨_,rfl,_,rfl,_,rfl,_,rfl,a,Ds,st,T,t,vn,cl,ys,ts,rfl,vr,tb,c9,hn,rt,tt,ec,hl,h100,rp,txs,?_,?_,?_,?_⟩
  ·intro u t s' x v1 v2 H' f' vr' r1 r2 g1 g2 ne es ex;exact .miss CC rfl emC (hc u t s' x v1 v2 H' f' vr' r1 r2 g1 g2 ne es ex)
  ·intro z H' f' vr';exact .hit CNoName rfl (em true) λe he=>⟨_,rfl,caught true H' (λp H2 s2 ep=>q.nn w0 z p H2 (f'.trans (Frm.of s2)) (I.same vr' s2) ep) e he⟩
  ·intro x cs e1 hm z H' s' f' vr' g o;exact .hit CNoTable rfl (em false) λe he=>⟨_,rfl,caught false H' (λp H2 s2 ep=>q.nt w0 x cs e1 hm z p H2 s' (f'.trans (Frm.of s2)) (I.same vr' s2) g.kp o ep) e he⟩
  ·intro x cs e1 e2 nx ok no H' s' f' vr' g iv;exact n _ _ ⟨_,_,rfl,.inl ⟨rfl,λp H2 s2 ep=>q.mt w0 x cs e1 e2 nx ok no p H2 s' (f'.trans (Frm.of s2)) (I.same vr' s2) g iv ep⟩⟩
 ·refine ifF (decide_eq_false w0) ?_;have nt:=hw w0;cases rt with
  | str x=>
   refine⟨_,rfl,_,rfl,_,rfl,a,Ds,st,T,x,rfl,vr,tb,hn,nt,tt,?_,?_,?_⟩
   ·intro u t s' x v1 v2 H' f' vr' r1 r2 g1 g2 ne es ex;exact .miss CC rfl emC (hc u t s' x v1 v2 H' f' vr' r1 r2 g1 g2 ne es ex)
   ·intro cs hm H' s' f' vr' g iv;exact n _ _ ⟨_,_,rfl,.inl ⟨rfl,λp H2 s2 ep=>q.dr w0 x cs rfl hm p H2 s' (f'.trans (Frm.of s2)) (I.same vr' s2) g iv ep⟩⟩
   ·intro no H' s' f' vr' g o;exact .hit CNoTable rfl (em false) λe he=>⟨_,rfl,caught false H' (λp H2 s2 ep=>q.no w0 x rfl no p H2 s' (f'.trans (Frm.of s2)) (I.same vr' s2) g.kp o ep) e he⟩
  | _=>cases nt
end
end Pv
namespace Pv
open PySem L2
open Tr
noncomputable abbrev zen:Stmt:=top 102
theorem VK.back {C:Addr}{H H':Hp}{a:Addr}{D:QO}{s s':Vst}(v:VK C H a D s)(v':VK C H' a D s')(o:s'.own=s.own):VK C H' a D s:=by obtain⟨⟨d,e,vs⟩,k,r⟩:=v';exact⟨⟨d,e,o ▸ vs⟩,v.kp,v.rm⟩
structure Mdl (H:Hp)(kvs:QG)(T:Tr)(ns:QP):Prop where
 nm:Nms T ns
 ks:∃ss:List Str,kvs.map (·.1)=ss.map Sum.inr/\ss.Perm ns
 vl:∀x cs,(.str x,tabT cs)∈T.ps->∃v,valV kvs (.inr x)=some v/\Rep H (.tup (cs.map Th.str)) v
theorem zjY {T:Tr}{ns:QP}(h:Srt T.ps)(m:Nms T ns):ns.Pairwise λa b=>a.cps.toList < b.cps.toList:=by have h1:(T.ps.map (·.1)).Pairwise λp q=>zb p q=true:=List.pairwise_map.mpr h;rw[m.ks,List.pairwise_map] at h1;exact h1.imp λh=>Jo h
theorem zqr {a b:List Nat}(h:a < b):¬b < a:=λz=>Je (List.lt_trans h z) (List.lt_irrefl a)
inductive zgu (C:Addr) (vs:QQ) (H:Hp) (Q:L2.VK) (E:XK):Prop
 | mk (a:Addr) (D:QO) (s:Vst) (T:Tr) (d:Addr) (kvs:QG) (ns:QP) (_:vs=[.ref a,.int T.root,.ref d]) (_:VK C H a D s) (_:Tabs s T) (_:3000<=s.n) (_:H d=some (.dK kvs)) (_:d∉D) (_:Mdl H kvs T ns) (_:ns.length < 64) (_:∀H',Frm D H H'->VK C H' a D s->Q (.bl true) H'):zgu C vs H Q E
theorem zeu (ns:QP):∀x∈ns.map V.str,zaO x=true/\eqV x x=true:=λx hx=>by obtain⟨y,_,rfl⟩:=List.mem_map.mp hx;exact⟨rfl,by simp[eqV]⟩
theorem zhM:∀cs:List Str,depL (cs.map Th.str)=0
 | []=>rfl
 | x::r=>by show max (dep (.str x)) (depL (r.map Th.str))=0;rw[zhM r];rfl
theorem zhZ (t:Th):eqT t t=true:=za4 t
section
variable {P:Program}{w:World}{K:QA}{mg:QB}{base:Heap}{t1 t2 t3 t4 t5:Tok}{C CT:Addr}
theorem zn2 (D:Dfn K mg "_law_told" zen ["vault","root","model"]) (zsx:FnX P w K mg base "names" 23 ["vault","root"] (zgR (VK C))) (zo9:FnX P w K mg base "columns_of" 25 ["vault","root","name"] (zgh (VK C) CT)) (zrz:FnX P w K mg base "ordered" 25 ["vault","root","name"] (zbr (VK C))) (zrA:FnX P w K mg base "rows_of" 25 ["vault","root","name"] (zbr (VK C)))
  (zd:mg "isinstance" =none) (zgW:mg "list" =none) (zY:mg "tuple" =none) (zde:mg "sorted" =none):FnX P w K mg base "_law_told" 26 ["vault","root","model"] (zgu C):=by
 refine D.okX (k:=25) (L2.fsN ["vault","root","model","here","name"]) (λf cdv A outer s0 H vs Q E hr h=>?_);obtain⟨a,Ds,s,T,d,kvs,ns,rfl,vr,tb,hn,ed,nd,md,h64,q⟩:=h;refine⟨_,(zc (by ac_rfl)
 (zc (zV (PW.pt (zaJ (by ac_rfl) (zaA (zG (zjs hr) (pv 3) (zv (zcL rfl) (by rfl) zde (by rfl) (by ac_rfl)) (zO _)))))
 (by ac_rfl)
 zy)
 (zc (zam PassesOwn.leaving rfl (by ac_rfl) (by ac_rfl)
 (zc (zV (PW.pt (zaJ (zG (zef hr) (by ac_rfl) (zjG (zhH hr) (pv 2) (pv 4) (λ_ _=>rfl)) (zO _)) (zaA (by ac_rfl))))
 (by ac_rfl)
 zy)
 (zm (zV (PW.pt (zaJ (zG (ze9 hr) (by ac_rfl) (by ac_rfl) (zO _)) (zaA (zG (ze9 hr) (by ac_rfl) (by ac_rfl) (zO _)))))
 (by ac_rfl)
 zy))))
 (zc (by ac_rfl)
 (zm (zZ (z8 (znZ hr) (by ac_rfl) (zv (zcL rfl) (by rfl) zde (by rfl) (by ac_rfl)) (zO _)))))))),?_⟩
 have I:=vi_K C;have ri:=zjY tb.st md.nm;have ri':ns.Pairwise λa b=>¬b.cps.toList < a.cps.toList:=ri.imp λh=>zqr h;obtain⟨ss,hks,hp⟩:=md.ks;refine zk (fun σ H'=>∃l,σ=[some (.ref a),some (.int T.root),some (.ref d),some (.ref l),none]/\Frm Ds H H'/\VK C H' a Ds s/\H' l=some (.lst (ns.map V.str))/\H l=none) (λN n=>?_) ?_
 ·exact⟨_,rfl,_,rfl,a,Ds,s,T,ns,rfl,vr,tb.tk,by omega,md.nm,λl H' s' f' v' _ o el hl=>n _ _ ⟨l,rfl,f',vr.back v' o,el,hl⟩⟩
 rintro σ H1 ⟨l,rfl,f1,v1,el,hl⟩;refine zk (fun σ H'=>σ=[some (.ref a),some (.int T.root),some (.ref d),some (.ref l),none]/\Same H1 H') (λN n=>?_) ?_
 ·refine⟨_,rfl,_,_,_,_,rfl,.lst el,rfl,_,rfl,ifF rfl ?_⟩;refine⟨_,rfl,_,rfl,d,kvs,ss,rfl,f1 _ _ nd ed,hks,by rw[hp.length_eq];exact h64,λl2 ns' hl2 p2 r2=>?_⟩;have e:ns'=ns:=zhx (p2.trans hp) r2 ri';subst e;have s2:=zh (o:=.lst (ns'.map V.str)) (Same.refl H1) hl2;exact⟨l,l2,_,rfl,rfl,SqL.of (s2 _ _ el),SqL.of za,zeu _,_,rfl,ifF rfl (n _ _ ⟨rfl,s2⟩)⟩
 rintro σ H2 ⟨rfl,s2⟩;refine zk (fun σ H'=>∃k,σ=[some (.ref a),some (.int T.root),some (.ref d),some (.ref l),k]/\Frm Ds H H'/\VK C H' a Ds s/\H' l=some (.lst (ns.map V.str))) (λN n=>?_) ?_
 ·refine⟨_,rfl,l,rfl,⟨_,SqL.of (s2 _ _ el)⟩,?_⟩;refine zb0 (xs:=ns.map V.str) (λi σ H'=>∃k,σ=[some (.ref a),some (.int T.root),some (.ref d),some (.ref l),k]/\Frm Ds H H'/\VK C H' a Ds s/\H' l=some (.lst (ns.map V.str))) ⟨_,rfl,f1.trans (Frm.of s2),I.same v1 s2,s2 _ _ el⟩ ?_ ?_ ?_
  ·rintro i σ H' _ ⟨k,rfl,_,_,e⟩;exact SqL.of e
  ·rintro i y σ H3 hy ⟨k,rfl,f3,v3,el3⟩;obtain⟨x,hx,rfl⟩:=List.mem_map.mp (List.mem_of_getElem? hy);obtain⟨nx,lx⟩:=md.nm.nm x hx;obtain⟨cs,hm⟩:∃cs,(Th.str x,tabT cs)∈T.ps:=by
    have:Th.str x∈T.ps.map (·.1):=by rw[md.nm.ks];exact Jq hx
    obtain⟨p,hp,e⟩:=List.mem_map.mp this;obtain⟨cs,e2,_⟩:=tb.ho p hp;exact⟨cs,by rw[<-e,<-e2];exact hp⟩
   refine zk (fun σ H'=>σ=[some (.ref a),some (.int T.root),some (.ref d),some (.ref l),some (.str x)]/\Frm Ds H H'/\VK C H' a Ds s/\H' l=some (.lst (ns.map V.str))) (λN n=>?_) ?_
   ·refine⟨_,rfl,_,rfl,_,rfl,a,Ds,s,T,x,rfl,v3,tb,by omega,nx,lx,λcs' hm' v4 H4 s4 f4 vr4 g4 o4 r4=>?_,λno=>Je rfl (no _ hm)⟩;obtain⟨v,ev,rv⟩:=md.vl x cs' hm';have f04:=f3.trans f4;have vk4:=v3.back vr4 o4;refine⟨_,rfl,_,rfl,d,v,rfl,.inl ⟨kvs,.inr x,.inl (f04 _ _ nd ed),rfl,ev.symm⟩,_,_,r4,rv.keep (I.tups vr f04),by show depL (cs'.map Th.str)+1<=50;rw[zhM];decide,_,rfl,?_⟩;rw[zhZ];refine ifF rfl ?_;refine⟨_,rfl,_,rfl,_,rfl,a,Ds,s,T,x,rfl,vk4,tb,by omega,nx,lx,λcs5 hm5 v5 H5 s5 f5 vr5 g5 o5 r5=>?_,λno=>Je rfl (no _ hm)⟩;obtain⟨p5,xs5,rfl,e5,_⟩:=Rep.list r5;exact⟨_,_,_,_,rfl,.tup e5,rfl,_,rfl,ifF rfl (n _ _ ⟨rfl,f04.trans f5,vk4.back vr5 o5,I.lst vk4 f5 (I.lst v3 f4 el3)⟩)⟩
   rintro σ H4 ⟨rfl,f4,v4,el4⟩;refine⟨_,rfl,_,rfl,_,rfl,a,Ds,s,T,x,cs,rfl,v4,tb,by omega,nx,lx,hm,λl5 H5 s5 f5 v5 _ o5 e5 hl5=>?_⟩;have vk5:=v4.back v5 o5;refine⟨szl (show 0<=1000 by decide),λp5 hp5=>?_⟩;have s6:=zh (o:=.lst []) (Same.refl H5) hp5;refine⟨l5,p5,[],rfl,rfl,SqL.of (s6 _ _ e5),SqL.of za,_,rfl,ifF rfl ?_⟩;have vk6:=I.same vk5 s6;have el6:=s6 _ _ (I.lst v4 f5 el4);have f06:=(f4.trans f5).trans (Frm.of s6);generalize upd H5 p5 (.lst [])=H6 at s6 vk6 el6 f06;refine⟨_,rfl,_,rfl,_,rfl,a,Ds,s,T,x,cs,rfl,vk6,tb,by omega,nx,lx,hm,λl7 H7 s7 f7 v7 _ o7 e7 hl7=>?_⟩;refine⟨szl (show 0<=1000 by decide),λp7 hp7=>?_⟩;have s8:=zh (o:=.lst []) (Same.refl H7) hp7;refine⟨l7,p7,[],rfl,rfl,SqL.of (s8 _ _ e7),SqL.of za,_,rfl,ifF rfl ?_⟩;exact⟨_,rfl,(f06.trans f7).trans (Frm.of s8),I.same (vk6.back v7 o7) s8,s8 _ _ (I.lst vk6 f7 el6)⟩
  ·rintro σ H3 ⟨k,rfl,f3,v3,el3⟩;exact n _ _ ⟨k,rfl,f3,v3,el3⟩
 rintro σ H3 ⟨k,rfl,f3,v3,el3⟩;refine zk (fun σ H'=>σ=[some (.ref a),some (.int T.root),some (.ref d),some (.ref l),k]/\Frm Ds H H'/\VK C H' a Ds s) (λN n=>?_) ?_
 ·exact⟨_,rfl,.inl ⟨rfl,_,SqL.of el3⟩,l,_,_,rfl,rfl,el3,zaX (by rw[List.length_map];omega),n _ _ ⟨rfl,zbI f3 hl,I.nl v3 (NL.lst el3)⟩⟩
 rintro σ H4 ⟨rfl,f4,v4⟩;refine⟨_,rfl,_,rfl,a,Ds,s,T,ns,rfl,v4,tb.tk,by omega,md.nm,λl5 H5 s5 f5 v5 _ o5 el5 hl5=>?_⟩;have f05:=f4.trans f5;refine⟨_,rfl,d,kvs,ss,rfl,f05 _ _ nd ed,hks,by rw[hp.length_eq];exact h64,λl2 ns' hl2 p2 r2=>?_⟩;have e:ns'=ns:=zhx (p2.trans hp) r2 ri';subst e;have s6:=zh (o:=.lst (ns'.map V.str)) (Same.refl H5) hl2;exact⟨l5,l2,_,rfl,rfl,SqL.of (s6 _ _ el5),SqL.of za,zeu _,q _ (f05.trans (Frm.of s6)) (I.same (v4.back v5 o5) s6)⟩
end
end Pv
namespace Pv
open PySem L2
open Tr
theorem zmE {kvs:QG}{k:Key}:(valV kvs k).isSome=true↔k∈kvs.map (·.1):=by
 rw[<-zbz,List.any_eq_true,List.mem_map];constructor
 ·rintro⟨p,hp,e⟩;exact⟨p,hp,Jo e⟩
 ·rintro⟨p,hp,e⟩;exact⟨p,hp,decide_eq_true e⟩
theorem zfw (k j:Key):∀kvs:List (Key ×V),j≠k->valV (zbf kvs k) j=valV kvs j
 | [],_=>rfl
 | p::r,h=>by
  have ih:=zfw k j r h;unfold zbf at ih ⊢;rw[List.filter_cons];by_cases e:p.1=k
  ·rw[if_neg (by simp[e]),ih,zP (λz=>h (z.symm.trans e))]
  ·rw[if_pos (by simp[e])];by_cases e2:p.1=j
   ·rw[zS e2,zS e2]
   ·rw[zP e2,zP e2,ih]
structure Md (H:Hp)(kvs:QG)(T:Tr):Prop where
 ks:∃ss:List Str,kvs.map (·.1)=ss.map Sum.inr/\ss.Nodup/\∀y,y∈ss↔∃w,(Th.str y,w)∈T.ps
 nm:∀p∈T.ps,∃y,p.1=.str y/\zC y.cps.toList=true/\y.length<=900
 vl:∀x cs,(.str x,tabT cs)∈T.ps->∃v,valV kvs (.inr x)=some v/\Rep H (.tup (cs.map Th.str)) v
theorem Md.keep {H H':Hp}{kvs:QG}{T:Tr}(m:Md H kvs T)(k:Tups H H'):Md H' kvs T:=
 ⟨m.ks,m.nm,λx cs h=>let ⟨v,e,r⟩:=m.vl x cs h;⟨v,e,r.keep k⟩⟩
theorem Md.nil {H:Hp}:Md H [] Tr.nil:=⟨⟨[],rfl,List.nodup_nil,λy=>⟨λh=>(by cases h),λ⟨w,h⟩=>(by cases h)⟩⟩,λp h=>(by cases h),λx cs h=>(by cases h)⟩
theorem Md.some {H:Hp}{kvs:QG}{T:Tr}(m:Md H kvs T)(x:Str):(valV kvs (.inr x)).isSome=true↔∃w,(Th.str x,w)∈T.ps:=by
 obtain⟨ss,e,nd,h⟩:=m.ks;rw[zmE,e,<-h];constructor
 ·intro z;obtain⟨y,hy,e⟩:=List.mem_map.mp z;cases e;exact hy
 ·exact λz=>Jq z
theorem zd7:∀{l:List Th},(∀t∈l,∃y,t=.str y)->∃ns:List Str,l=ns.map Th.str
 | [],_=>⟨[],rfl⟩
 | t::r,h=>by obtain⟨y,rfl⟩:=h t List.mem_cons_self;obtain⟨ns,e⟩:=zd7 λu hu=>h u (Jh _ hu);exact⟨y::ns,by rw[e];rfl⟩
theorem Md.mdl {H:Hp}{kvs:QG}{T:Tr}(m:Md H kvs T)(hs:Srt T.ps):∃ns,Mdl H kvs T ns/\ns.length=T.cnt:=by
 obtain⟨ns,e⟩:=zd7 (l:=T.ps.map (·.1)) λt ht=>by obtain⟨p,hp,rfl⟩:=List.mem_map.mp ht;obtain⟨y,h,_⟩:=m.nm p hp;exact⟨y,h⟩
 have n:Nms T ns:=⟨e,λx hx=>by
  have:Th.str x∈T.ps.map (·.1):=by rw[e];exact Jq hx
  obtain⟨p,hp,ep⟩:=List.mem_map.mp this;obtain⟨y,h,h2⟩:=m.nm p hp;rw[ep] at h;cases h;exact h2⟩
 obtain⟨ss,e1,nd,h⟩:=m.ks;have ndn:ns.Nodup:=(zjY hs n).imp λh e=>by rw[e] at h;exact Je h (List.lt_irrefl _)
 refine⟨ns,⟨n,⟨ss,e1,(List.perm_ext_iff_of_nodup nd ndn).mpr λy=>?_⟩,m.vl⟩,?_⟩
 ·rw[h];constructor
  ·rintro⟨w,hw⟩;have:Th.str y∈T.ps.map (·.1):=List.mem_map.mpr ⟨_,hw,rfl⟩;rw[e] at this;obtain⟨z,hz,ez⟩:=List.mem_map.mp this;cases ez;exact hz
  ·intro hy;have:Th.str y∈T.ps.map (·.1):=by rw[e];exact Jq hy
   obtain⟨p,hp,ep⟩:=List.mem_map.mp this;exact⟨p.2,by rw[<-ep];exact hp⟩
 ·have:=congrArg List.length e;rw[List.length_map,List.length_map] at this;exact this.symm
theorem zb3 {ps:QH}{x w:Th}(h:∀p∈ps,p.1≠x){p:Th ×Th}:p∈insP ps x w↔p∈ps\/p=(x,w):=by
 constructor
 ·exact zgU
 ·unfold insP;rintro(hp | rfl)
  ·cases z:zb p.1 x with
   | true=>exact Jk _ (List.mem_filter.mpr ⟨hp,z⟩)
   | false=>exact Jf _ (Jh _ (List.mem_filter.mpr ⟨hp,zb4 z (h p hp)⟩))
  ·exact Jf _ List.mem_cons_self
theorem zbm {ps:QH}{x:Th}{p:Th ×Th}:p∈offP ps x↔p∈ps/\p.1≠x:=by
 unfold offP;rw[List.mem_filter];constructor
 ·rintro⟨a,b⟩;exact⟨a,λe=>by rw[e,zhZ] at b;cases b⟩
 ·rintro⟨a,b⟩;exact⟨a,zmQ b⟩
theorem zlB {a b:QP}(h:tabT a=tabT b):a=b:=by
 unfold tabT at h;injection h with h
 injection h with h _
 injection h with h
 have:∀{a b:QP},a.map Th.str=b.map Th.str->a=b:=by
  intro a
  induction a with
  | nil=>intro b h;cases b with | nil=>rfl | cons=>cases h
  | cons x r ih=>
   intro b h;cases b with
   | nil=>cases h
   | cons y q=>
    rw[List.map_cons,List.map_cons] at h;injection h with h1 h2
    injection h1 with h1
    rw[h1,ih h2]
 exact this h
section
variable {H H':Hp}{kvs:QG}{T:Tr}{x:Str}{cs:QP}{v:V}{s s':Vst}
theorem Md.put (m:Md H kvs T)(hs:Srt T.ps)(k:Tups H H')(no:∀p∈T.ps,p.1≠ .str x)(nx:zC x.cps.toList=true)(r:Rep H' (.tup (cs.map Th.str)) v):Md H' (putK kvs (.inr x) v) (putT (.str x) (tabT cs) T):=by
 have e0:valV kvs (.inr x)=none:=by
  cases z:valV kvs (.inr x) with
  | none=>rfl
  | some u=>obtain⟨w,hw⟩:=(m.some x).mp (by rw[z];rfl);exact Je rfl (no _ hw)
 obtain⟨ss,e1,nd,h⟩:=m.ks;have hx:x∉ss:=λz=>by obtain⟨w,hw⟩:=(h x).mp z;exact Je rfl (no _ hw)
 have lx:=(zc4 nx).2;refine⟨⟨ss++ [x],?_,?_,λy=>?_⟩,λp hp=>?_,λy cy hy=>?_⟩
 ·rw[zh2 _ e0,List.map_append,List.map_append,e1];rfl
 ·exact List.nodup_append.mpr ⟨nd,by simp,λa ha b hb e=>by rw[List.mem_singleton.mp hb] at e;exact hx (e ▸ ha)⟩
 ·rw[zcE hs,List.mem_append,List.mem_singleton,h];constructor
  ·rintro(⟨w,hw⟩ | rfl)
   ·exact⟨w,(zb3 no).mpr (.inl hw)⟩
   ·exact⟨_,(zb3 no).mpr (.inr rfl)⟩
  ·rintro⟨w,hw⟩;rcases(zb3 no).mp hw with hw | hw
   ·exact .inl ⟨w,hw⟩
   ·cases hw;exact .inr rfl
 ·rw[zcE hs] at hp;rcases(zb3 no).mp hp with hp | rfl
  ·exact m.nm p hp
  ·exact⟨x,rfl,nx,by omega⟩
 ·rw[zcE hs] at hy;rw[zls];rcases(zb3 no).mp hy with hy | hy
  ·rw[if_neg (λz=>no _ hy (by cases z;rfl))];obtain⟨u,eu,ru⟩:=m.vl y cy hy;exact⟨u,eu,ru.keep k⟩
  ·have e2:y=x:=by have:=congrArg Prod.fst hy;cases this;rfl
   have e3:cy=cs:=zlB (congrArg Prod.snd hy);rw[if_pos (by rw[e2]),e3];exact⟨v,rfl,r⟩
theorem Md.cut (m:Md H kvs T)(hs:Srt T.ps)(k:Tups H H'):Md H' (zbf kvs (.inr x)) (cutT (.str x) T):=by
 obtain⟨ss,e1,nd,h⟩:=m.ks;have ek:(zbf kvs (.inr x)).map (·.1)=(ss.filter λy=>decide (y≠x)).map Sum.inr:=by
  have:(zbf kvs (.inr x)).map (·.1)=(kvs.map (·.1)).filter λk=>decide (k≠ .inr x):=by unfold zbf;rw[List.filter_map];rfl
  rw[this,e1,List.filter_map];congr 1;exact List.filter_congr λy _=>decide_eq_decide.mpr ⟨λz e=>z (by rw[e]),λz e=>z (Sum.inr.inj e)⟩
 refine⟨⟨_,ek,nd.filter _,λy=>?_⟩,λp hp=>?_,λy cy hy=>?_⟩
 ·rw[List.mem_filter,zcz hs,h,decide_eq_true_iff];constructor
  ·rintro⟨⟨w,hw⟩,ne⟩;exact⟨w,zbm.mpr ⟨hw,λe=>ne (by cases e;rfl)⟩⟩
  ·rintro⟨w,hw⟩;obtain⟨a,b⟩:=zbm.mp hw;exact⟨⟨w,a⟩,λe=>b (by rw[e])⟩
 ·rw[zcz hs] at hp;exact m.nm p (zbm.mp hp).1
 ·rw[zcz hs] at hy;obtain⟨a,b⟩:=zbm.mp hy;obtain⟨u,eu,ru⟩:=m.vl y cy a;exact⟨u,by rw[zfw _ _ _ (λz=>b (by cases z;rfl))];exact eu,ru.keep k⟩
theorem zjO (hs:Srt T.ps){k w:Th}:(putT k w T).cnt<=T.cnt+1:=by unfold Tr.cnt;rw[zcE hs];exact zn5
theorem zjT (hs:Srt T.ps){k:Th}:(cutT k T).cnt<=T.cnt:=by unfold Tr.cnt;rw[zcz hs];exact List.length_filter_le _ _
theorem Tabs.put (t:Tabs s T)(c9:T.cnt<=299)(iv:(putT (.str x) (tabT cs) T).InV s'.all)(nx:zC x.cps.toList=true)(ok:zdD cs):Tabs s' (putT (.str x) (tabT cs) T):=by
 refine⟨⟨iv,λp hp=>?_,by have:=zjO t.st (k:=.str x) (w:=tabT cs);omega⟩,by rw[zcE t.st];exact zoc t.st,λp hp=>?_⟩
 ·rw[zcE t.st] at hp;rcases zgU hp with hp | rfl
  ·exact t.tk.ky p hp
  ·exact⟨zhi nx,zjX ok⟩
 ·rw[zcE t.st] at hp;rcases zgU hp with hp | rfl
  ·exact t.ho p hp
  ·exact⟨cs,rfl,ok⟩
theorem Tabs.cut (t:Tabs s T)(iv:(cutT (.str x) T).InV s'.all):Tabs s' (cutT (.str x) T):=by
 refine⟨⟨iv,λp hp=>?_,by have:=zjT t.st (k:=.str x);have:=t.tk.ct;omega⟩,by rw[zcz t.st];exact zcA t.st _,λp hp=>?_⟩
 ·rw[zcz t.st] at hp;exact t.tk.ky p (zbm.mp hp).1
 ·rw[zcz t.st] at hp;exact t.ho p (zbm.mp hp).1
end
end Pv
namespace Pv
open PySem L2
open Tr
noncomputable abbrev zdN:Stmt:=top 103
theorem zfr {C x dx:Addr}{H:Hp}{Z:Hp->Prop}{E:XK}(hx:H x=none)(hdx:H dx=none)(n:dx≠x)(q:∀d H',Same H H'->H d=none->H' x=some (.ins C dx [("laid",.ref d)])->H' d=some (.dK [])->Z H'):
  zeb C [.ref x] (upd (upd H dx (.own x)) x (.ins C dx [])) (λv H2=>v=.non/\Z H2) E:=by
 refine⟨x,dx,rfl,za,λd hd=>⟨rfl,?_⟩⟩;have xd:x≠d:=λz=>by rw[<-z,za] at hd;cases hd
 have dd:dx≠d:=λz=>by rw[<-z,zf n,za] at hd;cases hd
 have hd0:H d=none:=by rw[zf (Ne.symm xd),zf (Ne.symm dd)] at hd;exact hd
 refine q d _ (λb o e=>?_) hd0 za (by rw[zf (Ne.symm xd)];exact za);have n1:=zg e hx;rw[zf n1,zf (zg e hd0),zf n1,zf (zg e hdx)];exact e
theorem SqL.keepS {K:QA}{H H':Hp}{a:Addr}{xs:QQ}(h:SqL K H a xs)(s:Same H H'):SqL K H' a xs:=by
 rcases h with h | h
 ·rcases h with h | ⟨o,h⟩
  ·exact .inl (.inl (s _ _ h))
  ·exact .inl (.inr ⟨o,s _ _ h⟩)
 ·exact .inr h
theorem SqL.vr {K:QA}{C:Addr}{VR:VRT}(I:VI C VR){H H':Hp}{a b:Addr}{D:QO}{s:Vst}{xs:QQ}(h:SqL K H b xs)(v:VR H a D s)(f:Frm D H H'):SqL K H' b xs:=by
 rcases h with h | h
 ·rcases h with h | ⟨o,h⟩
  ·exact .inl (.inl (f _ _ (I.not v h (by intro kv z;cases z)) h))
  ·exact .inl (.inr ⟨o,f _ _ (I.not v h (by intro kv z;cases z)) h⟩)
 ·exact .inr h
theorem zlr (ns:List Int)(lo hi:Option Int):∃ms:List Int,cutV (ns.map V.int) lo hi=ms.map V.int/\ms.length<=ns.length:=by
 refine⟨(ns.drop (HT.sIx ns.length 0 lo)).take (HT.sIx ns.length ns.length hi - HT.sIx ns.length 0 lo),?_,?_⟩
 ·unfold cutV;rw[List.length_map,List.map_take,List.map_drop]
 ·rw[List.length_take,List.length_drop];omega
theorem znS {VR:VRT}{CN CB CC a:Addr}{D:QO}{H:Hp}{E:XK}(cl:Cl CC E)(u t:Th)(s:Vst):OutE VR CN CB CC a D H E (.clash u t) s:=λx v1 v2 H' _ _ r1 r2 g1 g2 ne sn ex=>cl u t v1 v2 H' x r1 r2 g1 g2 ne sn ex
inductive zgf (K:QA) (CC:Addr) (vs:QQ) (H:Hp) (Q:L2.VK) (E:XK):Prop
 | mk (a:Addr) (ns:List Int) (_:vs=[.ref a]) (_:SqL K H a (ns.map V.int)) (_:ns.length<=63) (_:(∀H',Q (.bl true) H')) (_:Cl CC E):zgf K CC vs H Q E
theorem zng {H0 H1 H2:Hp}{row:Addr}(s:Same H0 H1)(f:Frm [row] H1 H2)(h:H0 row=none):Same H0 H2:=λb o e=>f b o (not1 (λz=>by rw[z,h] at e;cases e)) (s b o e)
theorem zhO {H0 H:Hp}:∀{xs:QQ},Menu H0 H xs->∃ts:List Ob,xs.length=ts.length/\∀(i:Nat) (x:V) (t:Ob),xs[i]? =some x->ts[i]? =some t->Od H t x
 | [],_=>⟨[],rfl,λi x t h=>by cases h⟩
 | x::xs,m=>by
  obtain⟨⟨t,o⟩,_⟩:=m x List.mem_cons_self;obtain⟨ts,l,h⟩:=zhO (xs:=xs) λy hy=>m y (Jh _ hy);refine⟨t::ts,by rw[List.length_cons,List.length_cons,l],λi y u h1 h2=>?_⟩;cases i with
  | zero=>cases h1;cases h2;exact o
  | succ i=>exact h i y u h1 h2
theorem true_comp {K:QA}{l p:Addr}{σ:L2.St}{js:List Nat}{te:TE}{H1:Hp}{Q:L2.VK}{xs:QQ}(e1:H1 l=some (.lst xs))(hp:H1 p=none)(hn:xs.length<=100)
  (te_ok:∀x∈xs,∀(H:Hp) (Z:L2.VK),Z (.bl true) H->te (some x::frees σ js) H Z) (q:∀H',Same H1 H'->H' p=some (.lst ((xs.map λ_=>true).map V.bl))->Q (.ref p) H'):zcT (Itl K l) p σ js zcf te H1 Q:=by
 refine⟨λi m acc H=>m=xs.length - i/\i<=xs.length/\Same H1 H/\acc=((xs.take i).map λ_=>true).map V.bl/\H p=some (.lst acc),⟨_,rfl,Nat.zero_le _,zh (Same.refl H1) hp,rfl,za⟩,?_⟩;rintro i m acc H ⟨rfl,hi,sm,ha,ep⟩;by_cases hlt:i < xs.length
 ·have ev:xs[i]? =some xs[i]:=List.getElem?_eq_getElem hlt;refine .inr ⟨⟨xs,xs[i],SqL.of (sm _ _ e1),ev⟩,λy H' hy=>?_⟩;obtain⟨rfl,hy⟩:=hy;have ey:y=xs[i]:=by have:=hy xs (SqL.of (sm _ _ e1));rw[ev] at this;exact(Option.some.inj this).symm
  subst ey;have et:xs.take (i+1)=xs.take i++ [xs[i]]:=by rw[List.take_add_one,ev];rfl
  dsimp only[zcf];rw[if_pos rfl];refine te_ok _ (Jn hlt) _ _ ?_;have hal:acc.length<=100:=by rw[ha,List.length_map,List.length_map,List.length_take];omega
  refine⟨ep,zaX (by omega),_,by omega,rfl,hlt,zeN sm hp,?_,za⟩;rw[ha,et,List.map_append,List.map_append];rfl
 ·have:i=xs.length:=by omega
  subst this;rw[List.take_length] at ha;subst ha;exact .inl ⟨⟨xs,SqL.of (sm _ _ e1),Jb _⟩,q H sm ep⟩
structure HS (K:QA)(C x d dm pc sp:Addr)(ns ms:List Int)(H:Hp)(i:Nat)(T:Tr)(st:Vst)(kvs:QG):Prop where
 vk:VK C H x [d] st
 tb:Tabs st T
 ct:T.cnt<=i
 rm:900000<=st.n+4000 * i
 em:H dm=some (.dK kvs)
 nm:dm∉ [d]
 md:Md H kvs T
 ec:H pc=some (.lst (ms.map V.int))
 sq:SqL K H sp (ns.map V.int)
theorem HS.same {K:QA}{C x d dm pc sp:Addr}{ns ms:List Int}{H H':Hp}{i:Nat}{T:Tr}{st:Vst}{kvs:QG}(h:HS K C x d dm pc sp ns ms H i T st kvs)(s:Same H H'):HS K C x d dm pc sp ns ms H' i T st kvs:=
 ⟨(vi_K C).same h.vk s,h.tb,h.ct,h.rm,s _ _ h.em,h.nm,h.md.keep (Same.tups s),s _ _ h.ec,SqL.keepS h.sq s⟩
theorem VK.oth {C:Addr}{H H':Hp}{a m:Addr}{D:QO}{s:Vst}{kvs:QG}(v:VK C H a D s)(f:∀b o,b≠m->H b=some o->H' b=some o)(e:H m=some (.dK kvs))(n:m∉D):VK C H' a D s:=by obtain⟨⟨d,rfl,⟨⟨kv,⟨⟨dx,fs,ea,fl⟩,ed⟩,dr⟩,gc⟩⟩,k,r⟩:=v;have tk:Tups H H':=λb xs z=>f b _ (zaf z e (by intro y;cases y)) z;exact⟨⟨d,rfl,⟨⟨kv,⟨⟨dx,fs,f _ _ (zaf ea e (by intro y;cases y)) ea,fl⟩,f _ _ (λz=>n (by rw[z];exact List.mem_singleton_self _)) ed⟩,dr.keep tk⟩,gc⟩⟩,k,r⟩
theorem HS.oth {K:QA}{C x d dm pc sp:Addr}{ns ms:List Int}{H:Hp}{i:Nat}{T':Tr}{st':Vst}{kvs kvs':QG}(em:H dm=some (.dK kvs))(nm:dm∉ [d])(ec:H pc=some (.lst (ms.map V.int)))(sq:SqL K H sp (ns.map V.int))(v:VK C H x [d] st')(tb:Tabs st' T')(ct:T'.cnt<=i)(rm:900000<=st'.n+4000 * i)(md:Md (upd H dm (.dK kvs')) kvs' T'):HS K C x d dm pc sp ns ms (upd H dm (.dK kvs')) i T' st' kvs':=by
 have f:∀b o,b≠dm->H b=some o->upd H dm (.dK kvs') b=some o:=λb o n e=>by rw[zf n];exact e
 refine⟨v.oth f em nm,tb,ct,rm,za,nm,md,f _ _ (zaf ec em (by intro z;cases z)) ec,?_⟩;rcases sq with q | q
 ·rcases q with q | ⟨o,q⟩
  ·exact .inl (.inl (f _ _ (zaf q em (by intro z;cases z)) q))
  ·exact .inl (.inr ⟨o,f _ _ (zaf q em (by intro z;cases z)) q⟩)
 ·exact .inr q
theorem zf6 (cs:QP):zB (cs.map Ob.str)=cs:=by
 induction cs with
 | nil=>rfl
 | cons y r ih=>show y::zB (r.map Ob.str)=y::r;rw[ih]
inductive Res (C x d:Addr) (H:Hp) (T:Tr) (st:Vst) (t:Ob) (ts:List Ob) (way:Int) (kd:Str):Int->Prop
 | no (h:kd≠ "") (v:VK C H x [d] st):Res C x d H T st t ts way kd T.root
 | put (h:kd= "") (w:way=0) (xn:Str) (cs:QP) (e1:t=.str xn) (e2:ts=cs.map Ob.str) (nx:zC xn.cps.toList=true) (ok:zdD cs) (no:∀p∈T.ps,p.1≠ .str xn) (s':Vst) (v:VK C H x [d] s') (g:Go (λ_=>True) 4000 st s') (iv:(putT (.str xn) (tabT cs) T).InV s'.all):Res C x d H T st t ts way kd (putT (.str xn) (tabT cs) T).root
 | cut (h:kd= "") (w:way≠0) (xn:Str) (cs:QP) (e1:t=.str xn) (hm:(.str xn,tabT cs)∈T.ps) (s':Vst) (v:VK C H x [d] s') (g:Go (λ_=>True) 4000 st s') (iv:(cutT (.str xn) T).InV s'.all):Res C x d H T st t ts way kd (cutT (.str xn) T).root
theorem HS.told {K:QA}{C x d dm pc sp:Addr}{ns ms:List Int}{H:Hp}{i:Nat}{T:Tr}{st:Vst}{kvs:QG}(h:HS K C x d dm pc sp ns ms H i T st kvs)(hi:i<=63){Q:V->Hp->Prop}{E:XK}(q:∀H',HS K C x d dm pc sp ns ms H' i T st kvs->Q (.bl true) H'):zgu C [.ref x,.int T.root,.ref dm] H Q E:=by obtain⟨ns',m,l⟩:=h.md.mdl h.tb.st;have c:=h.ct;have r:=h.rm;refine⟨x,[d],st,T,dm,kvs,ns',rfl,h.vk,h.tb,by omega,h.em,h.nm,m,by omega,λH' f v=>q H' ?_⟩;exact⟨v,h.tb,h.ct,h.rm,f _ _ h.nm h.em,h.nm,h.md.keep ((vi_K C).tups h.vk f),(vi_K C).lst h.vk f h.ec,SqL.vr (vi_K C) h.sq h.vk f⟩
section
variable {P:Program}{w:World}{K:QA}{mg:QB}{base:Heap}{C CN CB CC CNA:Addr}
theorem zlu (D:Dfn K mg "_law_holds" zdN ["script"]) (zsj:Mkr P w K mg base "Keeper" C 1 ["self"] (zeb C)) (zrf:Fn P w K mg base "_law_hand" 1 ["script","cell","k"] (zim K)) (zas:Fn P w K mg base "_law_draw" 1 ["hand","limit"] zbD) (zfo:Fn P w K mg base "_law_columns" 3 ["hand"] zeg) (zj2:Fn P w K mg base "_law_bad_columns" 4 ["hand"] ziL) (zi2:Fn P w K mg base "_law_name" 2 ["hand"] zea) (zpa:Fn P w K mg base "_law_things" 4 ["hand"] zes)
  (zbC:Fn P w K mg base "is_name" 1 ["thing"] (zba CNA)) (zrg:Fn P w K mg base "is_value" 3 ["thing"] (ziD CNA)) (zfp:Fn P w K mg base "_law_is_name" 1 ["thing"] (zfH CNA zA)) (znv:Fn P w K mg base "_law_is_value" 1 ["thing"] (zfH CNA valO)) (zrB:Fn P w K mg base "_law_due" 2 ["model","name","fields"] (zmO CNA)) (zpV:FnX P w K mg base "_law_asked" 27 ["vault","root","name","fields","way"] (zgl (VK C) CNA CN CB CC)) (zrh:FnX P w K mg base "_law_told" 26 ["vault","root","model"] (zgu C))
  (zbi:mg "enumerate" =none) (zbg:mg "int" =none) (znw:mg "all" =none) (zd:mg "isinstance" =none) (zcb:mg "bool" =none) (zgW:mg "list" =none) (zY:mg "tuple" =none):FnX P w K mg base "_law_holds" 29 ["script"] (zgf K CC):=by
 refine D.okX (k:=28) (L2.fsN ["script","vault","root","model","k","cell","hand","way","fields","name","thing","got","handed","kind","told"]) (λf cdv A outer s H vs Q E hr h=>?_);obtain⟨a,ns,rfl,hS,h63,q,cl⟩:=h;refine⟨_,(zc (by ac_rfl)
 (zc (by ac_rfl)
 (zc (by ac_rfl)
 (zc (zam PassesOwn.leaving rfl (by ac_rfl) (by ac_rfl)
 (zc (by ac_rfl)
 (zc (by ac_rfl)
 (zc (by ac_rfl)
 (zc (by ac_rfl)
 (zc (by ac_rfl)
 (zc (zam PassesOwn.leaving rfl (by ac_rfl) (by ac_rfl)
 (zc (by ac_rfl)
 (zm (zV (PW.pt (zaJ (zG (zjs hr) (pv 11) (by ac_rfl) (zO _)) (zaA (zaN (zbL (zv (zk3 rfl) (by rfl) znw (by rfl) (zH (zb5 (zt.zero (by rfl) (by decide+kernel) (by decide+kernel) (by decide+kernel) (by rfl)) rfl (by ac_rfl) (λ_ _ _=>zcl) (λ_ _ _=>(zv (zgB (K:=K) rfl) (by rfl) zd (by rfl) (by ac_rfl)))) za6)))))))
 (by ac_rfl)
 zy))))
 (zc (by ac_rfl)
 (zc (zV (by ac_rfl)
 (by ac_rfl)
 (zm (setA 13 rfl (zaK zcj (by ac_rfl) (zf8 zfZ (by rfl) zbg (by rfl) (zH (zna (zgG (zhH hr) (pv 9) (pv 3))) za6)) (λ_ _=>rfl)))))
 (zc (by ac_rfl)
 (zc (zV (PW.pt (zaJ (zG zm4 (zaK zcG (pv 14) zap (λ_ _=>rfl)) (pv 13) (zO _)) (zaA (zG (zou hr) (pv 12) (pv 8) (zO _)))))
 (by ac_rfl)
 zy)
 (zc (zV (by ac_rfl)
 (zc (zV (by ac_rfl)
 (zm (zjd (zhH hr) (pv 3) (pv 9) (by ac_rfl) (by rfl)))
 (zm (zgQ (zl6 (pv 3) (pv 9) ⟨by rfl,by rfl,by rfl,by rfl⟩))))
 (zm (setA 2 rfl (zaK zcG (pv 14) zap (λ_ _=>rfl)))))
 zy)
 (by ac_rfl)))))))))))))
 (by ac_rfl))))),?_⟩
 refine zk (fun σ H'=>∃x d,σ=[some (.ref a),some (.ref x),none,none,none,none,none,none,none,none,none,none,none,none,none]/\Same H H'/\VK C H' x [d] ⟨[],[],[],900000⟩) (λN n=>?_) ?_
 ·intro x dx hx hdx ndx;refine zfr hx hdx ndx λd H1 s1 hd ex ed=>?_;exact n _ _ ⟨x,d,rfl,s1,⟨⟨d,rfl,⟨⟨[],⟨⟨dx,_,ex,zpx d⟩,ed⟩,.nil⟩,GoodC.nil⟩⟩,rfl,by show 0+900000<=1000000;decide⟩⟩
 rintro σ H1 ⟨x,d,rfl,s1,vk1⟩;refine zk (fun σ H'=>σ=[some (.ref a),some (.ref x),some (.int 0),none,none,none,none,none,none,none,none,none,none,none,none]/\H'=H1) (λN n=>n _ _ ⟨rfl,rfl⟩) ?_;rintro σ H' ⟨rfl,hH⟩;rw[hH];clear hH H';refine zk (fun σ H'=>∃dm,σ=[some (.ref a),some (.ref x),some (.int 0),some (.ref dm),none,none,none,none,none,none,none,none,none,none,none]/\Same H1 H'/\H' dm=some (.dK [])/\dm∉ [d]) (λN n=>?_) ?_
 ·intro p hp;refine n _ _ ⟨p,rfl,zh (Same.refl H1) hp,za,not1 λz=>?_⟩;obtain⟨kv,e⟩:=(vi_K C).dic vk1 d (List.mem_singleton_self d);rw[<-z,hp] at e;cases e
 rintro σ H2 ⟨dm,rfl,s2,edm,ndm⟩;obtain⟨ms,ems,hms⟩:=zlr ns none (some 63);have s02:Same H H2:=λb o e=>s2 b o (s1 b o e);refine zk (fun σ H'=>∃(T:Tr) (st:Vst) (kvs:QG) (pc:Addr) (k4 k5 k6 k7 k8 k9 k10 k11 k12 k13 k14:Option V),σ=[some (.ref a),some (.ref x),some (.int T.root),some (.ref dm),k4,k5,k6,k7,k8,k9,k10,k11,k12,k13,k14]/\HS K C x d dm pc a ns ms H' ms.length T st kvs) (λN n=>?_) ?_
 ·refine⟨_,rfl,_,rfl,a,_,rfl,SqL.keepS hS s02,λpc hpc=>?_⟩;rw[ems];have s3:=zh (o:=.lst (ms.map V.int)) (Same.refl H2) hpc;have epc:upd H2 pc (.lst (ms.map V.int)) pc=some (.lst (ms.map V.int)):=za;generalize upd H2 pc (.lst (ms.map V.int))=H3 at s3 epc;have hs0:HS K C x d dm pc a ns ms H3 0 Tr.nil ⟨[],[],[],900000⟩ []:=⟨(vi_K C).same ((vi_K C).same vk1 s2) s3,⟨TOk.nil,List.Pairwise.nil,λp h=>by cases h⟩,Jb _,Jb _,s3 _ _ edm,ndm,Md.nil,epc,SqL.keepS (SqL.keepS hS s02) s3⟩;refine⟨pc,_,rfl,SqL.of epc,?_⟩;refine zhp (λi σ H'=>∃(T:Tr) (st:Vst) (kvs:QG) (k4 k5 k6 k7 k8 k9 k10 k11 k12 k13 k14:Option V),σ=[some (.ref a),some (.ref x),some (.int T.root),some (.ref dm),k4,k5,k6,k7,k8,k9,k10,k11,k12,k13,k14]/\HS K C x d dm pc a ns ms H' i T st kvs) ⟨_,_,_,_,_,_,_,_,_,_,_,_,_,_,rfl,hs0⟩ ?_ ?_ ?_
  ·rintro i σ H' ⟨T,st,kvs,k4,k5,k6,k7,k8,k9,k10,k11,k12,k13,k14,rfl,h⟩;exact SqL.of h.ec
  ·rintro i y U σ H4 hy hU ⟨T,st,kvs,k4,k5,k6,k7,k8,k9,k10,k11,k12,k13,k14,rfl,h⟩;have hil:i < ms.length:=by have:=(List.getElem?_eq_some_iff.mp hy).1;rwa[List.length_map] at this
   obtain⟨c,rfl⟩:∃c:Int,y=.int c:=by obtain⟨c,_,e⟩:=List.mem_map.mp (List.mem_of_getElem? hy);exact⟨c,e.symm⟩
   have s5:=zh (o:=.tup [.int i,.int c]) (Same.refl H4) hU;have eU:upd H4 U (.tup [.int i,.int c]) U=some (.tup [.int i,.int c]):=za;generalize upd H4 U (.tup [.int i,.int c])=H5 at s5 eU;have h5:=h.same s5;refine⟨U,_,rfl,SqT.of eU,rfl,_,_,rfl,_,_,rfl,rfl,?_⟩;clear h s5 eU hU H4 hy;refine zk (fun σ H'=>∃row,σ=[some (.ref a),some (.ref x),some (.int T.root),some (.ref dm),some (.int i),some (.int c),some (.ref row),k7,k8,k9,k10,k11,k12,k13,k14]/\Same H5 H'/\zo H' row/\H5 row=none) (λN n=>?_) ?_
   ·exact⟨_,rfl,_,rfl,_,rfl,a,ns,c,i,rfl,h5.sq,h63,λrow H6 s6 hd fr=>n _ _ ⟨row,rfl,s6,hd,fr⟩⟩
   rintro σ HB ⟨row,rfl,sB,hdB,fr⟩;refine zk (fun σ H'=>∃way:Int,σ=[some (.ref a),some (.ref x),some (.int T.root),some (.ref dm),some (.int i),some (.int c),some (.ref row),some (.int way),k8,k9,k10,k11,k12,k13,k14]/\Frm [row] HB H'/\zo H' row) (λN n=>?_) ?_
   ·refine⟨_,rfl,row,_,rfl,hdB,(show(0:Int) < 4 by decide),(by decide+kernel),λr H7 r0 r1 f7 hd7=>?_⟩;exact⟨rfl,.inr ⟨_,rfl,n _ _ ⟨_,rfl,f7,hd7⟩⟩⟩
   rintro σ H6 ⟨way,rfl,f6,hd6⟩;have free:∀{H':Hp} {p:Addr},Frm [row] HB H'->zo H' row->H' p=none->HB p=none:=λf' hd' z=>f'.none (λd hd z=>by rw[List.mem_singleton.mp hd] at z;obtain⟨a,b,c,e,_⟩:=hd';rw[e] at z;cases z) z;refine zk (fun σ H'=>∃(l:Addr) (ys:QQ),σ=[some (.ref a),some (.ref x),some (.int T.root),some (.ref dm),some (.int i),some (.int c),some (.ref row),some (.int way),some (.ref l),k9,k10,k11,k12,k13,k14]/\Frm [row] HB H'/\zo H' row/\H' l=some (.lst ys)/\HB l=none/\ys.length<=7/\Menu HB H' ys) (λN n=>?_) ?_
   ·refine⟨_,rfl,row,rfl,hd6,λl1 cs H7 hl1 el1 h1 h6 nd nm f7 hd7=>?_⟩;have F7:=f6.trans f7;refine⟨_,rfl,row,rfl,hd7,λl2 ys H8 hl2 el2 h7 mn f8 hd8=>?_⟩;have F8:=F7.trans f8;refine⟨szl (show 2<=1000 by decide),λp hp=>?_⟩;have s9:=zh (o:=.lst [.ref l1,.ref l2]) (Same.refl H8) hp;have e9:upd H8 p (.lst [.ref l1,.ref l2]) p=some (.lst [.ref l1,.ref l2]):=za;have np:=hd8.ne hp;generalize upd H8 p (.lst [.ref l1,.ref l2])=H9 at s9 e9;have hd9:=hd8.keep s9;have F9:=F8.trans (Frm.of s9);refine⟨_,rfl,row,_,rfl,hd9,(show(0:Int) < 2 by decide),(by decide+kernel),λr H10 r0 r1 f10 hd10=>?_⟩;have nl1:l1∉ [row]:=not1 (hd6.ne hl1);have nl2:l2∉ [row]:=not1 (hd7.ne hl2);obtain⟨v,mv,ev⟩:=zaa (xs:=[V.ref l1,.ref l2]) r0 r1;refine⟨p,_,_,_,rfl,rfl,SqL.of (f10.at e9 (not1 np)),ev,?_⟩;rcases List.mem_cons.mp mv with rfl | mv
    ·exact n _ _ ⟨l1,_,rfl,F9.trans f10,hd10,f10.at (s9 _ _ (f8.at el1 nl1)) nl1,free f6 hd6 hl1,by rw[List.length_map];omega,zbq nm⟩
    ·rw[List.mem_singleton.mp mv];refine n _ _ ⟨l2,ys,rfl,F9.trans f10,hd10,f10.at (s9 _ _ el2) nl2,free F7 hd7 hl2,h7,λb hb=>?_⟩;obtain⟨o,z⟩:=((mn.same s9).frm f10 hd7.some) b hb;exact⟨o,λa e=>free F7 hd7 (z a e)⟩
   clear hd6 f6 H6;rintro σ H6 ⟨l,ys,rfl,f6,hd6,el,hl,hy7,mn⟩;have nl:l∉ [row]:=not1 (hdB.ne hl)
   refine zk (fun σ H'=>∃xn:Str,σ=[some (.ref a),some (.ref x),some (.int T.root),some (.ref dm),some (.int i),some (.int c),some (.ref row),some (.int way),some (.ref l),some (.str xn),k10,k11,k12,k13,k14]/\zC xn.cps.toList=true/\Frm [row] H6 H'/\zo H' row) (λN n=>?_) ?_
   ·exact⟨_,rfl,row,rfl,hd6,λxn H7 nx f7 hd7=>n _ _ ⟨xn,rfl,nx,f7,hd7⟩⟩
   rintro σ H7 ⟨xn,rfl,nx,f7,hd7⟩;refine zk (fun σ H'=>∃(v:V) (t:Ob),σ=[some (.ref a),some (.ref x),some (.int T.root),some (.ref dm),some (.int i),some (.int c),some (.ref row),some (.int way),some (.ref l),some v,k10,k11,k12,k13,k14]/\Od H' t v/\(∀a,v=.ref a->HB a=none)/\(way≠0->zA t=true)/\Frm [row] H6 H'/\zo H' row) (λN n=>?_) ?_
   ·have stay:N _ _:=n _ _ ⟨.str xn,.str xn,rfl,.str xn (by have:=zc4 nx;omega),nref (by intro a z;cases z),λ_=>nx,f7,hd7⟩;refine⟨_,rfl,rfl,_,rfl,?_⟩;rw[zai];by_cases w0:way=0
    rotate_left
    ·exact ifF (decide_eq_false w0) (ifF rfl stay)
    refine ifT (decide_eq_true w0) ?_;refine⟨_,rfl,row,_,rfl,hd7,(show(0:Int) < 6 by decide),(by decide+kernel),λr H8 r0 r1 f8 hd8=>?_⟩;have F8:=f7.trans f8;refine⟨rfl,_,rfl,ifB (λ_=>?_) (λ_=>?_)⟩
    rotate_left
    ·exact n _ _ ⟨.str xn,.str xn,rfl,.str xn (by have:=zc4 nx;omega),nref (by intro a z;cases z),λ_=>nx,F8,hd8⟩
    have FB8:=f6.trans F8;refine⟨szl (show 1<=1000 by decide),λp1 h1=>?_⟩;have s1:=zh (o:=.lst [.str "a"]) (Same.refl H8) h1;have e1:upd H8 p1 (.lst [.str "a"]) p1=some (.lst [.str "a"]):=za;generalize upd H8 p1 (.lst [.str "a"])=H9 at s1 e1;refine⟨szl (show 1<=1000 by decide),λp2 h2=>?_⟩;have s2:=zh (o:=.tup [.str "a"]) (Same.refl H9) h2;have e2:upd H9 p2 (.tup [.str "a"]) p2=some (.tup [.str "a"]):=za;have n2:=s1.free h2;generalize upd H9 p2 (.tup [.str "a"])=H10 at s2 e2;have s02:Same H8 H10:=λb o e=>s2 b o (s1 b o e);refine λp3 h3=>?_;have s3:=zh (o:=.dK []) (Same.refl H10) h3;have e3:upd H10 p3 (.dK []) p3=some (.dK []):=za;have n3:=s02.free h3;generalize upd H10 p3 (.dK [])=H11 at s3 e3;have s03:Same H8 H11:=λb o e=>s3 b o (s02 b o e);refine⟨szl (show 10<=1000 by decide),λpb hpb=>?_⟩;have nb:=s03.free hpb;have s4:=zh (o:=.lst [.non,.str "",.str "A",.str "a.b",.str "abcdefghi",.int 1,.bl true,.ref p1,.ref p2,.ref p3]) (Same.refl H11) hpb;have m10:Menu HB H11 [.non,.str "",.str "A",.str "a.b",.str "abcdefghi",.int 1,.bl true,.ref p1,.ref p2,.ref p3]:=by have st:∀x:Str,x.length<=900->Od H11 (.str x) (.str x):=λx h=>.str x h;refine .cons .non (nref (by intro a z;cases z)) (.cons (st _ (by decide+kernel)) (nref (by intro a z;cases z)) (.cons (st _ (by decide+kernel)) (nref (by intro a z;cases z)) (.cons (st _ (by decide+kernel)) (nref (by intro a z;cases z)) (.cons (st _ (by decide+kernel)) (nref (by intro a z;cases z)) ?_))));refine .cons (.int _) (nref (by intro a z;cases z)) (.cons (.bl _) (nref (by intro a z;cases z)) ?_);exact .cons (.lst (s3 _ _ (s2 _ _ e1))) (href (free FB8 hd8 h1)) (.cons (.tup (s3 _ _ e2)) (href (free FB8 hd8 n2)) (.cons (.dic e3) (href (free FB8 hd8 n3)) .nil))
    have e4:upd H11 pb (.lst [.non,.str "",.str "A",.str "a.b",.str "abcdefghi",.int 1,.bl true,.ref p1,.ref p2,.ref p3]) pb=some (.lst [.non,.str "",.str "A",.str "a.b",.str "abcdefghi",.int 1,.bl true,.ref p1,.ref p2,.ref p3]):=za;have m12:=m10.same s4;generalize upd H11 pb (.lst [.non,.str "",.str "A",.str "a.b",.str "abcdefghi",.int 1,.bl true,.ref p1,.ref p2,.ref p3])=H12 at s4 e4 m12;have s012:Same H8 H12:=λb o e=>s4 b o (s03 b o e);refine⟨_,rfl,row,_,rfl,hd8.keep s012,(show(0:Int) < 10 by decide),(by decide+kernel),λu H13 u0 u1 f13 hd13=>?_⟩;obtain⟨v,mv,ev⟩:=zaa (xs:=[V.non,.str "",.str "A",.str "a.b",.str "abcdefghi",.int 1,.bl true,.ref p1,.ref p2,.ref p3]) u0 u1;obtain⟨⟨t,o⟩,z⟩:=(m12.frm f13 hdB.some) v mv;exact⟨pb,_,_,_,rfl,rfl,SqL.of (f13.at e4 (not1 (hd8.ne nb))),ev,n _ _ ⟨v,t,rfl,o,z,λw=>Je w0 w,(F8.trans (Frm.of s012)).trans f13,hd13⟩⟩
   clear hd7 f7 H7;rintro σ H7 ⟨vn,t,rfl,od,nod,hw,f7,hd7⟩;have FB7:=f6.trans f7;have el7:=f7.at el nl;have mn7:=mn.frm f7 hdB.some;clear mn el f6 hd6 nx
   refine zk (fun σ H'=>∃k10 k11,σ=[some (.ref a),some (.ref x),some (.int T.root),some (.ref dm),some (.int i),some (.int c),some (.ref row),some (.int way),some (.ref l),some vn,k10,k11,k12,k13,k14]/\Frm [row] H7 H') (λN n=>?_) ?_
   ·refine⟨_,rfl,row,rfl,hd7,λlt zs H8 hlt elt mz f8 hd8=>?_⟩;refine⟨lt,rfl,⟨_,SqL.of elt⟩,?_⟩;refine zb0 (xs:=zs) (λj σ H'=>∃k10 k11,σ=[some (.ref a),some (.ref x),some (.int T.root),some (.ref dm),some (.int i),some (.int c),some (.ref row),some (.int way),some (.ref l),some vn,k10,k11,k12,k13,k14]/\Same H8 H') ⟨_,_,rfl,Same.refl _⟩ ?_ ?_ ?_
    ·rintro j σ H' _ ⟨k10,k11,rfl,s'⟩;exact SqL.of (s' _ _ elt)
    ·rintro j y σ H9 hy ⟨k10,k11,rfl,s9⟩;obtain⟨⟨u,o⟩,_⟩:=mz y (List.mem_of_getElem? hy);have o9:=o.same s9;refine zk (fun σ H'=>∃pg,σ=[some (.ref a),some (.ref x),some (.int T.root),some (.ref dm),some (.int i),some (.int c),some (.ref row),some (.int way),some (.ref l),some vn,some y,some (.ref pg),k12,k13,k14]/\Same H9 H'/\H' pg=some (.lst ([zA u,valO u].map V.bl))) (λN n=>?_) ?_
     ·exact⟨_,rfl,u,y,rfl,o9.rep,o9.tx,_,rfl,u,y,rfl,o9.rep,o9.tx,szl (show 2<=1000 by decide),λpg hpg=>n _ _ ⟨pg,rfl,zh (Same.refl H9) hpg,za⟩⟩
     rintro σ H10 ⟨pg,rfl,s10,epg⟩;have o10:=o9.same s10;refine⟨_,rfl,_,rfl,u,y,rfl,o10.rep,o10.tx,λH11 s11=>⟨_,rfl,u,y,rfl,(o10.same s11).rep,o10.tx,λH12 s12=>⟨szl (show 2<=1000 by decide),λp2 hp2=>?_⟩⟩⟩;have s13:=zh (o:=.lst [.bl (zA u),.bl (valO u)]) (Same.refl H12) hp2;have s1013:Same H10 (upd H12 p2 (.lst [.bl (zA u),.bl (valO u)])):=λb o e=>s13 b o (s12 b o (s11 b o e));refine⟨pg,p2,_,rfl,rfl,SqL.of (s1013 _ _ epg),SqL.of za,zix [zA u,valO u],_,rfl,ifF rfl ?_⟩;have epg3:=s1013 _ _ epg;generalize upd H12 p2 (.lst [.bl (zA u),.bl (valO u)])=H13 at s1013 epg3;refine⟨_,rfl,pg,rfl,⟨_,SqL.of epg3⟩,λpa hpa=>?_⟩;refine true_comp epg3 hpa (show 2<=100 by decide) (λz hz H' Z hZ=>?_) λH14 s14 epa=>?_
     ·obtain⟨b,_,rfl⟩:=List.mem_map.mp hz;exact⟨_,rfl,_,_,_,_,rfl,.bl b,rfl,hZ⟩
     exact⟨pa,_,rfl,SqL.of epa,λb hb=>by obtain⟨_,_,e⟩:=List.mem_map.mp hb;exact e.symm,_,rfl,ifF rfl ⟨_,_,rfl,λb o e=>s14 b o (s1013 b o (s10 b o (s9 b o e)))⟩⟩
    ·rintro σ H9 ⟨k10,k11,rfl,s9⟩;exact n _ _ ⟨k10,k11,rfl,f8.trans (Frm.of s9)⟩
   clear k10 k11;rintro σ H8 ⟨k10,k11,rfl,f8⟩;have FB8:=FB7.trans f8;have el8:=f8.at el7 nl;have mn8:=mn7.frm f8 hdB.some;have od8:=od.frm f8 λa e z=>hdB.some a z (nod a e);have s58:=zng sB FB8 fr;have h8:=h5.same s58;clear mn7 el7 hd7 f7 FB7 od f8 FB8 H7;obtain⟨ts,hlt,ods⟩:=zhO mn8;have rps:∀{H':Hp},Same H8 H'->∀(j:Nat) (z:V) (u:Ob),ys[j]? =some z->ts[j]? =some u->RepO CNA H' u z/\TxO u:=λs' j z u e1 e2=>⟨((ods j z u e1 e2).same s').rep,(ods j z u e1 e2).tx⟩
   refine zk (fun σ H'=>∃hd,σ=[some (.ref a),some (.ref x),some (.int T.root),some (.ref dm),some (.int i),some (.int c),some (.ref row),some (.int way),some (.ref l),some vn,k10,k11,some (.ref hd),k13,k14]/\Same H8 H'/\H' hd=some (.lst ys)) (λN n=>?_) ?_
   ·exact⟨_,rfl,l,ys,rfl,.inl (SqL.of el8),λhd hhd=>n _ _ ⟨hd,rfl,zh (Same.refl H8) hhd,za⟩⟩
   rintro σ H9 ⟨hd,rfl,s9,ehd⟩
   refine zk (fun σ H'=>∃kd:Str,σ=[some (.ref a),some (.ref x),some (.int T.root),some (.ref dm),some (.int i),some (.int c),some (.ref row),some (.int way),some (.ref l),some vn,k10,k11,some (.ref hd),some (.str kd),k14]/\Same H9 H'/\(way=0->kd=dueS kvs t ts)/\(way≠0->∀xn,t=.str xn->kd=if (valV kvs (.inr xn)).isSome=true then("" :Str) else("NoTable" :Str))) (λN n=>?_) ?_
   ·have h9:=h8.same s9;have od9:=od8.same s9;refine⟨_,rfl,rfl,_,rfl,?_⟩;rw[zai];by_cases w0:way=0
    ·refine ifT (decide_eq_true w0) ?_;refine⟨_,rfl,_,rfl,_,rfl,dm,kvs,t,vn,l,ys,ts,rfl,h9.em,od9.rep,od9.tx,s9 _ _ el8,hlt,by omega,λj z u e1 e2=>rps s9 j z u e1 e2,λH' s'=>?_⟩;exact n _ _ ⟨_,rfl,s',λ_=>rfl,λw=>Je w0 w⟩
    ·refine ifF (decide_eq_false w0) ?_;obtain⟨xn,rfl,rfl,nx⟩:=RepO.name (CN:=CNA) od9.rep (hw w0);refine⟨szl (show 2<=1000 by decide),λp hp=>?_⟩;have s10:=zh (o:=.lst [.str "NoTable",.str ""]) (Same.refl H9) hp;refine⟨_,rfl,_,rfl,dm,_,rfl,DGet.k (k:=.inr xn) (s10 _ _ h9.em),.inr ⟨_,rfl,p,_,_,.str (if (valV kvs (.inr xn)).isSome=true then("" :Str) else("NoTable" :Str)),rfl,rfl,SqL.of za,?_,n _ _ ⟨_,rfl,s10,λw=>Je w w0,λ_ xn' e=>by cases e;rfl⟩⟩⟩;cases (valV kvs (.inr xn)).isSome <;> rfl
   rintro σ H10 ⟨kd,rfl,s10,kd0,kd1⟩;have s810:Same H8 H10:=λb o e=>s10 b o (s9 b o e);have h10:=h8.same s810;have od10:=od8.same s810;have ct:=h10.ct;have rm:=h10.rm;have mdS:=λxn=>h10.md.some xn
   refine zk (fun σ H'=>∃(p:Addr) (r:Int),σ=[some (.ref a),some (.ref x),some (.int T.root),some (.ref dm),some (.int i),some (.int c),some (.ref row),some (.int way),some (.ref l),some vn,k10,k11,some (.ref hd),some (.str kd),some (.ref p)]/\Frm [d] H10 H'/\H' p=some (.tup [.int r,.str kd])/\Res C x d H' T st t ts way kd r) (λN n=>?_) ?_
   ·refine⟨_,rfl,_,rfl,_,rfl,_,rfl,_,rfl,x,[d],st,T,t,vn,hd,ys,ts,way,rfl,h10.vk,h10.tb,by omega,by omega,od10.rep,od10.tx,s10 _ _ ehd,hlt,by omega,λj z u e1 e2=>(rps s810 j z u e1 e2).1,λu hu=>?_,hw,znS cl,?_⟩
    ·obtain⟨j,hj⟩:=List.getElem?_of_mem hu;have:j < ys.length:=by rw[hlt];exact(List.getElem?_eq_some_iff.mp hj).1
     exact(rps s810 j _ u (List.getElem?_eq_getElem this) hj).2
    ·refine⟨λw0 z p H' f' v' ep=>?_,λw0 xn cs e1 hm z p H' s' f' v' k' o' ep=>?_,λw0 xn cs e1 e2 nx ok no p H' s' f' v' g iv ep=>?_,λw0 xn cs e1 hm p H' s' f' v' g iv ep=>?_,λw0 xn e1 no p H' s' f' v' k' o' ep=>?_⟩
     ·have e:kd= "NoName" :=by rw[kd0 w0];unfold dueS;rw[if_neg (by rw[z];exact Jc)]
      exact n _ _ ⟨p,_,rfl,f',by rw[e];exact ep,.no (by rw[e];decide) v'⟩
     ·have e:kd= "NoTable" :=by rw[kd0 w0];unfold dueS;rw[if_pos z,e1];exact if_pos ((mdS xn).mpr ⟨_,hm⟩)
      exact n _ _ ⟨p,_,rfl,f',by rw[e];exact ep,.no (by rw[e];decide) (h10.vk.back v' o')⟩
     ·have e:kd= "" :=by rw[kd0 w0];unfold dueS;rw[if_pos (by rw[e1,e2];show(zC xn.cps.toList && zag (cs.map Ob.str))=true;rw[nx,ok.1];rfl),e1];exact if_neg λz=>by obtain⟨w,hw⟩:=(mdS xn).mp z;exact no _ hw rfl
      exact n _ _ ⟨p,_,rfl,f',by rw[e];exact ep,.put e w0 xn cs e1 e2 nx ok no s' v' g iv⟩
     ·have e:kd= "" :=by rw[kd1 w0 xn e1];exact if_pos ((mdS xn).mpr ⟨_,hm⟩)
      exact n _ _ ⟨p,_,rfl,f',by rw[e];exact ep,.cut e w0 xn cs e1 hm s' v' g iv⟩
     ·have e:kd= "NoTable" :=by rw[kd1 w0 xn e1];exact if_neg λz=>by obtain⟨w,hw⟩:=(mdS xn).mp z;exact no _ hw rfl
      exact n _ _ ⟨p,_,rfl,f',by rw[e];exact ep,.no (by rw[e];decide) (h10.vk.back v' o')⟩
   rintro σ H11 ⟨p,r,rfl,f11,ep,rs⟩;have I:=vi_K C;have el11:=I.lst h10.vk f11 (s810 _ _ el8);have ehd11:=I.lst h10.vk f11 (s10 _ _ ehd);refine zk (fun σ H'=>σ=[some (.ref a),some (.ref x),some (.int T.root),some (.ref dm),some (.int i),some (.int c),some (.ref row),some (.int way),some (.ref l),some vn,k10,k11,some (.ref hd),some (.str kd),some (.ref p)]/\H'=H11) (λN n=>?_) ?_
   ·refine⟨_,rfl,p,_,_,_,rfl,rfl,SqT.of ep,rfl,_,rfl,rfl,_,rfl,ifF (by rw[decide_eq_true rfl];rfl) ?_⟩;refine⟨_,rfl,_,rfl,hd,l,ys,rfl,rfl,SqL.of ehd11,SqL.of el11,λz hz=>?_,_,rfl,ifF rfl (n _ _ ⟨rfl,rfl⟩)⟩;obtain⟨⟨u,o⟩,_⟩:=mn8 z hz;exact o.self
   rintro σ H' ⟨rfl,hH⟩;rw[hH];clear hH H';have em11:=f11 _ _ h10.nm h10.em;have md11:=h10.md.keep (I.tups h10.vk f11);have ec11:=I.lst h10.vk f11 h10.ec;have sq11:=SqL.vr I h10.sq h10.vk f11;refine zk (fun σ H'=>∃(T:Tr) (st:Vst) (kvs:QG) (k5 k6 k7 k8 k9 k10 k11 k12 k13 k14:Option V),σ=[some (.ref a),some (.ref x),some (.int T.root),some (.ref dm),some (.int i),k5,k6,k7,k8,k9,k10,k11,k12,k13,k14]/\HS K C x d dm pc a ns ms H' (i+1) T st kvs) (λN n=>?_) ?_
   ·refine⟨_,rfl,rfl,_,rfl,?_⟩;cases rs with
    | no hk v=>refine ifF (decide_eq_false λz=>hk (by injection z)) ?_;exact n _ _ ⟨T,st,kvs,_,_,_,_,_,_,_,_,_,_,rfl,⟨v,h10.tb,by omega,by omega,em11,h10.nm,md11,ec11,sq11⟩⟩
    | put hk w0 xn cs e1 e2 nx ok no s' v g iv=>
     refine ifT (decide_eq_true (by rw[hk])) ?_;subst e1;cases od10;have ey:ys=cs.map V.str:=by have:=zbt (CN:=CNA) hlt (λj z u e1 e2=>(rps (Same.refl _) j z u e1 e2).1) (by rw[e2,zf6]);rw[e2,zf6] at this;exact this
     have gn:=g.n;have hc:=zjO h10.tb.st (k:=.str xn) (w:=tabT cs);refine zk (fun σ H'=>σ=[some (.ref a),some (.ref x),some (.int T.root),some (.ref dm),some (.int i),some (.int c),some (.ref row),some (.int way),some (.ref l),some (.str xn),k10,k11,some (.ref hd),some (.str kd),some (.ref p)]/\H' p=some (.tup [.int (putT (.str xn) (tabT cs) T).root,.str kd])/\∃kvs',HS K C x d dm pc a ns ms H' (i+1) (putT (.str xn) (tabT cs) T) s' kvs') (λN n=>?_) ?_
     ·refine⟨_,rfl,rfl,_,rfl,?_⟩;rw[zai];refine ifT (decide_eq_true w0) ?_;refine⟨_,rfl,l,ys,rfl,.inl ⟨SqL.of el11,λpt hpt=>?_⟩⟩;have s12:=zh (o:=.tup ys) (Same.refl H11) hpt;have ept:upd H11 pt (.tup ys) pt=some (.tup ys):=za;generalize upd H11 pt (.tup ys)=H12 at s12 ept;have em12:=s12 _ _ em11;have hkl:kvs.length < sizeLine:=by obtain⟨nn,m,ln⟩:=h10.md.mdl h10.tb.st;obtain⟨ss,e,pm⟩:=m.ks;have:=congrArg List.length e;rw[List.length_map,List.length_map,pm.length_eq,ln] at this;exact zaX (by omega)
      refine⟨_,rfl,_,rfl,dm,_,rfl,DPut.k (k:=.inr xn) em12 hkl,n _ _ ⟨rfl,?_,putK kvs (.inr xn) (.ref pt),?_⟩⟩
      ·rw[zf (zaf (s12 _ _ ep) em12 (by intro z;cases z))];exact s12 _ _ ep
      ·have tk:Tups H12 (upd H12 dm (.dK (putK kvs (.inr xn) (.ref pt)))):=Tups.upd λxs z=>by rw[em12] at z;cases z
       refine HS.oth em12 h10.nm (s12 _ _ ec11) (SqL.keepS sq11 s12) (I.same v s12) (h10.tb.put (by omega) iv nx ok) (by omega) (by omega) ?_;refine md11.put h10.tb.st ((Same.tups s12).trans tk) no nx ?_;refine Rep.tupL (tk _ _ ept) ?_;rw[ey];exact zgq _ cs
     rintro σ H12 ⟨rfl,ep12,kvs',h12⟩;exact⟨_,rfl,p,_,_,_,rfl,rfl,SqT.of ep12,rfl,n _ _ ⟨_,s',kvs',_,_,_,_,_,_,_,_,_,_,rfl,h12⟩⟩
    | cut hk w0 xn cs e1 hm s' v g iv=>
     refine ifT (decide_eq_true (by rw[hk])) ?_;subst e1;cases od10;have gn:=g.n;have hc:=zjT h10.tb.st (k:=.str xn);refine zk (fun σ H'=>σ=[some (.ref a),some (.ref x),some (.int T.root),some (.ref dm),some (.int i),some (.int c),some (.ref row),some (.int way),some (.ref l),some (.str xn),k10,k11,some (.ref hd),some (.str kd),some (.ref p)]/\H' p=some (.tup [.int (cutT (.str xn) T).root,.str kd])/\∃kvs',HS K C x d dm pc a ns ms H' (i+1) (cutT (.str xn) T) s' kvs') (λN n=>?_) ?_
     ·refine⟨_,rfl,rfl,_,rfl,?_⟩;rw[zai];refine ifF (decide_eq_false w0) ?_;obtain⟨u,eu,_⟩:=md11.vl xn cs hm;refine⟨_,rfl,dm,rfl,.inl ⟨kvs,.inl em11⟩,_,rfl,kvs,.inr xn,u,em11,rfl,eu,n _ _ ⟨rfl,?_,zbf kvs (.inr xn),?_⟩⟩
      ·rw[zf (zaf ep em11 (by intro z;cases z))];exact ep
      ·have tk:Tups H11 (upd H11 dm (.dK (zbf kvs (.inr xn)))):=Tups.upd λxs z=>by rw[em11] at z;cases z
       exact HS.oth em11 h10.nm ec11 sq11 v (h10.tb.cut iv) (by omega) (by omega) (md11.cut h10.tb.st tk)
     rintro σ H12 ⟨rfl,ep12,kvs',h12⟩;exact⟨_,rfl,p,_,_,_,rfl,rfl,SqT.of ep12,rfl,n _ _ ⟨_,s',kvs',_,_,_,_,_,_,_,_,_,_,rfl,h12⟩⟩
   clear rs em11 md11 ec11 sq11 el11 ehd11 ep f11;rintro σ H12 ⟨T,st,kvs,k5,k6,k7,k8,k9,k10,k11,k12,k13,k14,rfl,h12⟩;refine⟨_,rfl,_,_,rfl,rfl,(show(0:Int) < 3 by decide),rfl,_,rfl,ifB (λ_=>?_) (λ_=>?_)⟩
   ·exact⟨_,rfl,_,rfl,_,rfl,h12.told (by omega) λH13 h13=>⟨_,rfl,ifF rfl ⟨T,st,kvs,_,_,_,_,_,_,_,_,_,_,_,rfl,h13⟩⟩⟩
   ·exact ifF rfl ⟨T,st,kvs,_,_,_,_,_,_,_,_,_,_,_,rfl,h12⟩
  ·rintro σ H4 ⟨T,st,kvs,k4,k5,k6,k7,k8,k9,k10,k11,k12,k13,k14,rfl,h⟩;rw[List.length_map] at h;exact n _ _ ⟨T,st,kvs,pc,k4,k5,k6,k7,k8,k9,k10,k11,k12,k13,k14,rfl,h⟩
 rintro σ H3 ⟨T,st,kvs,pc,k4,k5,k6,k7,k8,k9,k10,k11,k12,k13,k14,rfl,h⟩;refine⟨_,rfl,_,rfl,_,rfl,h.told (by omega) λH4 h4=>⟨_,rfl,ifT rfl ?_⟩⟩;intro x2 dx2 hx2 hdx2 ndx2;refine zfr hx2 hdx2 ndx2 λd2 H5 s5 hd2 ex2 ed2=>?_;have vk5:VK C H5 x2 [d2] ⟨[],[],[],900000⟩:=⟨⟨d2,rfl,⟨⟨[],⟨⟨dx2,_,ex2,zpx d2⟩,ed2⟩,.nil⟩,GoodC.nil⟩⟩,rfl,by show 0+900000<=1000000;decide⟩;intro p6 hp6;have s6:=zh (o:=.dK []) (Same.refl H5) hp6;have n6:p6∉ [d2]:=not1 λz=>by rw[z,ed2] at hp6;cases hp6
 exact⟨x2,[d2],_,Tr.nil,p6,[],[],rfl,(vi_K C).same vk5 s6,⟨TOk.nil,List.Pairwise.nil,λp h=>by cases h⟩,by show 3000<=900000;decide,za,n6,⟨⟨rfl,λx h=>by cases h⟩,⟨[],rfl,.refl _⟩,λx cs h=>by cases h⟩,by decide,λH7 _ _=>q H7⟩
end
end Pv
namespace L2
open PySem PySem.Spec PyProof.Rows Px
theorem zne {X:Cx}{K:QA}{e:Expr}{f:Str}{pos:Pos}{ta:TE}(hK:X.K=K)(he:PE X e ta)(hb:attributeBase e f X.env (eval e X.env)=eval e X.env):PE X (.Attribute e f pos) (tXG K ta f):=hK ▸ zsd he hb
end L2
namespace Pv
open PySem L2
noncomputable abbrev slaw:Stmt:=top 104
inductive zfU (K:QA) (vs:QQ) (H:Hp) (Q:L2.VK) (_E:XK):Prop
 | mk (a:Addr) (ns:List Int) (_:vs=[.ref a]) (_:SqL K H a (ns.map V.int)) (_:ns.length<=63) (_:∀H',Q (.bl true) H'):zfU K vs H Q _E
section
variable {P:Program}{w:World}{K:QA}{mg:QB}{base:Heap}{CC:Addr}
theorem zqS {f:Addr}{fd:FuncData}(F:Fun K "law" "law" slaw f fd) (zpW:FnX P w K mg base "_law_holds" 30 ["script"] (zgf K CC)) (zns:Fn P w K mg base "seal" 13 ["thing"] zeY) (zdc:mg "Clash" =some (.ref CC)) (xc:XCls K CC) (n1:zN K CC "one") (n2:zN K CC "other")
  (em:PySem.W.exmOne K (.ref CC) (.ref CC)=some true):FnOk P w K mg base CX0 65 f fd ["script"] (zfU K):=by
 refine F.ok (k:=64) (L2.fsN ["script","clash","got","e"]) (λvs H Q E h=>?_) (λcdv A outer s H vs Q E hr h=>?_)
 ·obtain⟨a,ns,rfl,_⟩:=h;rfl
 obtain⟨a,ns,rfl,hS,h63,q⟩:=h;have ι:=0;refine⟨_,(zc (by ac_rfl)
 (zc (by ac_rfl)
 (zc (zlx (i:=3) rfl rfl (zc5 rfl) rfl rfl (by rfl) zdc (λxe pn E hx=>(by ac_rfl)) (λe=>(zm (setA 1 rfl (zlE (zH (zne (K:=K) rfl (pv 3) (by rfl)) (zH (zne (K:=K) rfl (pv 3) (by rfl)) za6)))))))
 (zc (zV (by ac_rfl)
 (zm (zZ (zbV (z8 (zef hr) (by ac_rfl) (by ac_rfl) (zO _)) (zdn (by ac_rfl)))))
 zy)
 (by ac_rfl))))),?_⟩
 refine⟨_,rfl,a,ns,rfl,hS,h63,λH1=>?_,λt1 t2 v1 v2 H1 x r1 r2 g1 g2 ne sn ex=>⟨CC,rfl,em,λe he=>?_⟩⟩
 ·refine⟨_,rfl,rfl,_,rfl,ifF rfl ?_⟩;exact⟨_,rfl,q H1⟩
 ·have xe:x≠e:=zg ex he;have ex2:upd H1 e (exO e CC (some x) false) x=some (xdO x [("one",v1),("other",v2)]):=by rw[zf xe];exact ex
  have gd:=g1.dp;have gd2:=g2.dp;have gn:=g1.nd;have gn2:=g2.nd;refine⟨_,rfl,e,CC,false,x,_,v1,rfl,za,ex2,xc,n1,by rfl,_,rfl,e,CC,false,x,_,v2,rfl,za,ex2,xc,n2,by rfl,szl (show 2<=1000 by decide),λp hp=>?_⟩;have tk:Tups H1 (upd (upd H1 e (exO e CC (some x) false)) p (.tup [v1,v2])):=(Tups.new he).trans (Tups.new hp);have ra:=r1.keep tk;have rb:=r2.keep tk;have ep:upd (upd H1 e (exO e CC (some x) false)) p (.tup [v1,v2]) p=some (.tup [v1,v2]):=za;generalize upd (upd H1 e (exO e CC (some x) false)) p (.tup [v1,v2])=H2 at ra rb ep;have et:SqT K H2 p [v1,v2]:=SqT.of ep;refine⟨_,rfl,rfl,_,rfl,ifT rfl ?_⟩;refine⟨_,rfl,p,_,_,_,rfl,rfl,et,rfl,_,rfl,p,_,_,_,rfl,rfl,et,rfl,t1,t2,ra,rb,by omega,_,rfl,ifT (by rw[show eqT t1 t2=false from by cases z:eqT t1 t2 with | true=>exact Je ((zaT _ _).mp z) ne | false=>rfl];rfl) ?_⟩;refine⟨_,rfl,p,_,_,_,rfl,rfl,et,rfl,t1,v1,rfl,ra,g1.wf,by omega,by omega,λH3 s3=>?_⟩;refine⟨_,rfl,p,_,_,_,rfl,rfl,SqT.of (s3 _ _ ep),rfl,t2,v2,rfl,rb.keep (Same.tups s3),g2.wf,by omega,by omega,λH4 s4=>?_⟩;refine⟨rfl,?_⟩;rw[sn,decide_eq_true rfl];exact q H4
end
end Pv
namespace Pv
open PySem L2
theorem zmS {K:QA}{h:Heap}{mg:QB}(x:Str)(st:Stmt)(ps:QP){f:Addr}{od an:QM}{sl:QJ}{oc kV dc pm cd ct:Value}(X:K.In h)(G:h.Ns mainGlobals mg)
  (a:PySem.W.nsIn K mainGlobals x=some (some (.ref f))) (l:K.lookup f=some ⟨oc,od,.func (PySem.W.fnOf x x (z7 st) (zI st) (zr st) .none kV dc pm an cd ct),sl⟩) (c:PySem.W.codeIn K cd x=true) (k:PySem.W.keepIn K (.ref f)=true)
  (b:∀(kV doc pm:Value) (an:QM) (cdv ct:Value) (us:QN),us.length=ps.length->bindArgs (PySem.W.fnOf x x (z7 st) (zI st) (zr st) .none kV doc pm an cdv ct) ⟨us,[]⟩=pure (ps.zip us)):Dfn K mg x st ps:=
 ⟨_,_,zbM l c k,(zbM l c k).binds b,PySem.W.mg_of X G a⟩
theorem zoA {K:QA}{h:Heap}{mg:QB}{x:Str}{i:Int}{t:Tok}(X:K.In h)(G:h.Ns mainGlobals mg)(a:PySem.W.nsIn K mainGlobals x=some (some (.int i t))):∃t,mg x=some (.int i t):=⟨t,PySem.W.mg_of X G a⟩
theorem zp4 {l:PySem.W.OpenLaw}{w:World}{K:QA}{h:Heap}{mg:QB}{fa f:Addr}{od an:QM}{sl:QJ}{oc kV dc pm cd ct:Value}(X:K.In h)(G:h.Ns mainGlobals mg)(hfa:mg "law" =some (.ref fa))
  (a:PySem.W.nsIn K mainGlobals "law" =some (some (.ref f))) (lk:K.lookup f=some ⟨oc,od,.func (PySem.W.fnOf "law" "law" (z7 slaw) (zI slaw) (zr slaw) .none kV dc pm an cd ct),sl⟩) (c:PySem.W.codeIn K cd "law" =true) (k:PySem.W.keepIn K (.ref f)=true)
  (ok:∀(base:Heap) (fd:FuncData),Fun K "law" "law" slaw f fd->FnOk l.prog w K mg base CX0 65 f fd ["script"] (zfU K)):
  ∃fd:FuncData,(∀(s:Shared) (v:Value),BindsTo s fd ⟨[v],[]⟩ [("script",v)])/\∀base:Heap,K.In base->base.Ns mainGlobals mg->FnOk l.prog w K mg base CX0 65 fa fd ["script"] (zfU K):=by
 have e:=hfa.symm.trans (PySem.W.mg_of X G a);cases e;exact⟨PySem.W.fnOf "law" "law" (z7 slaw) (zI slaw) (zr slaw) .none kV dc pm an cd ct,λs v=>.of_eq rfl,λbase _ _=>ok base _ (zbM lk c k)⟩
theorem walk {l:PySem.W.OpenLaw}{q:Program}{loose:QP}{XP:(Str->Option Value)->Heap->Prop}{YP:World->Heap->Prop}{d:DefRec}{K:Params->QA}(hn:l.most=some 63)(hdf:d.params.defaults=[])
  (hY:∀(w:World) (h:Heap),YP w h->(K w.params).In h)
  (F:∀(w:World) (mg:QB) (fa:Addr) (h:Heap),(K w.params).In h->h.Ns mainGlobals mg->mg d.name=some (.ref fa)->
   ∃fd:FuncData,(∀(s:Shared) (u:Value),BindsTo s fd ⟨[u],[]⟩ [("script",u)])/\∀base:Heap,(K w.params).In base->base.Ns mainGlobals mg->FnOk l.prog w (K w.params) mg base CX0 65 fa fd ["script"] (zfU (K w.params))):
  PySem.W.WalkO q loose XP YP l.row.toRowW d [] (λf vs=>PySem.call f vs):=
 L2.zoO (n:=63) (k:=65) (x:= "script") (CX:=λ_=>CX0) (sp:=λw=>zfU (K w.params)) hn (by decide) hdf ⟨rfl,by decide,by decide⟩ hY F (λ_ _ a ns hl _ hS=>⟨a,ns,rfl,hS,hl,λ_=>rfl⟩) λ_ _ _ _ _ z=>z
end Pv
namespace Pv
open PySem L2
noncomputable def lt (f:Nat->Value)(i:Nat):Nat->List Value
 | 0=>[]
 | n+1=>f i::lt f (i+1) n
theorem ltx {us:QN}:∀{n i:Nat} {g:Nat->Value},us.length=n->∃f,us=lt f i n/\∀j,j < i->f j=g j:=by
 induction us with
 | nil=>intro n i g h;cases h;exact⟨g,rfl,λ_ _=>rfl⟩
 | cons a r ih=>
  intro n i g h;cases n with
  | zero=>cases h
  | succ n=>obtain⟨f,e,q⟩:=ih (i:=i+1) (g:=λj=>if j=i then a else g j) (Nat.succ.inj h);have z:=q i (Jm i);rw[if_pos rfl] at z;exact⟨f,by rw[lt,<-e,z],λj hj=>(q j (Jt hj)).trans (if_neg (Jg hj))⟩
theorem lts {us:QN}{n:Nat}(h:us.length=n):∃f,us=lt f 0 n:=
 let ⟨f,e,_⟩:=ltx (i:=0) (g:=λ_=>.none) h
 ⟨f,e⟩
noncomputable def Ds (K:QA)(mg:QB):List (Str ×Stmt ×List Str)->Prop
 | []=>True
 | (x,s,p)::r=>Dfn K mg x s p/\Ds K mg r
noncomputable def Zs (mg:QB):List Str->Prop
 | []=>True
 | x::r=>mg x=none/\Zs mg r
noncomputable def Gis (mg:QB):List (Str ×Int)->Prop
 | []=>True
 | (x,i)::r=>(∃t,mg x=some (.int i t))/\Gis mg r
noncomputable def NAs (K:QA)(C:Addr):List Str->Prop
 | []=>True
 | x::r=>zN K C x/\NAs K C r
noncomputable def Ms (K:QA)(C:Addr):List (Str ×Str ×Stmt ×List Str)->Prop
 | []=>True
 | (m,q,s,p)::r=>Mdf K C m q s p/\Ms K C r
noncomputable def Cs (K:QA)(mg:QB):List (Str ×Str ×Stmt ×List Str ×List Str ×List (Str ×Str ×Stmt ×List Str))->Prop
 | []=>True
 | (x,q,s,p,ns,ms)::r=>(∃C,Cls K C/\Mkd K mg x C q s p/\NAs K C ns/\Ms K C ms)/\Cs K mg r
theorem zrY {K:QA}{h:Heap}{mg:QB}{x q:Str}{s:Stmt}{p ns:QP}{ms:List (Str ×Str ×Stmt ×List Str)}{r:List (Str ×Str ×Stmt ×List Str ×List Str ×List (Str ×Str ×Stmt ×List Str))}{C:Addr}(_:K.In h)(_:PySem.W.nsIn K mainGlobals x=some (some (.ref C)))(a:Cls K C)(b:Mkd K mg x C q s p)(c:NAs K C ns)(d:Ms K C ms)(e:Cs K mg r):Cs K mg ((x,q,s,p,ns,ms)::r):=⟨⟨C,a,b,c,d⟩,e⟩
end Pv
open PySem PySem.W PyProof.Rows
set_option maxRecDepth 100000 in
set_option maxHeartbeats 0 in
theorem PySem.Challenge.cw_papervault_k61_names_and_tables_holds : PySem.Challenge.rw_papervault_k61_names_and_tables.Holds := by
 refine holds_law Pv.said λsaid=>?_;refine holds_open (q:=Pv.VQ) (loose:=[]) (XP:=XL Pv.VQ []) (YP:=InK Pv.KK) Pv.left (InK.of Pv.addrs) InK.keeps (λs e=>xl_of s (Jr.mp e).1) XL.keeps (by rfl) (by rfl) (by rfl) (λs e=>recFacts_of (Jr.mp e).2) (by rfl) said (by decide+kernel) ⟨rfl,rfl,rfl,rfl,rfl,by decide+kernel⟩ ?hw ?hc
 (case hw=>w_witness2)
 k_fill
 refine Pv.walk (l:=PySem.Challenge.rw_papervault_k61_names_and_tables) rfl rfl (λw h Y=>Y) ?F
 case F=>
  intro w mg fa h KX G hmg;obtain⟨zfg,zbS,zle,zpb,zdB,zlf,zi3,zbT,zri,zpc,zh9,zfh,zlg,zlh,zfi,zrj,zpd,zli,znx,zlj,zpe,zi4,zia,zgX,zgY,zlk,zib,zrk,zny,zi5,_⟩:Pv.Ds (L2.KOf KX) mg [("is_whole",Pv.zdw,["value"]),("has_signs_of_things",Pv.zaH,["text"]),("kind_of",Pv.zhU,["thing"]),("ahead",Pv.zmd,["one","other"]),("is_tuple_ahead",Pv.zaL,["one","other"]),("is_name",Pv.zg8,["thing"]),("is_value",Pv.zfz,["thing"]),("has_signs_of_values",Pv.zaI,["text"]),("seal",Pv.zpu,["thing"]),("codes",Pv.zlt,["thing"]),("number_of",Pv.zeW,["signs"]),("node_beneath",Pv.zcv,["vault","root","count"]),("is_node",Pv.zha,["thing"]),("is_root",Pv.zhg,["thing"]),("size_beneath",Pv.zct,["vault","root","count"]),("rank",Pv.zpQ,["key"]),("above",Pv.zm8,["key","other"]),("side_of",Pv.zhs,["node","key"]),("way_to",Pv.zjB,["vault","root","key"]),("ends_at",Pv.zhK,["way","key"]),("found",Pv.zl1,["vault","root","key"]),("is_empty",Pv.zfN,["low","high"]),("goes_left",Pv.zeU,["node","low"]),("goes_right",Pv.zdX,["node","high"]),("refuse_sum",Pv.zdK,["vault","node"]),("stretch",Pv.zhw,["vault","root","low","high"]),("with_tree",Pv.zep,["node","side","root","count"]),("hung",Pv.zpG,["vault","way","key","root","more"]),("parted",Pv.zjj,["vault","way","key","root","count"]),("place_in",Pv.zfA,["way","key"])]:=by
   dsimp only[L2.KOf]
   iterate 30 refine⟨by refine' Pv.zmS _ _ _ KX G ?a ?l ?c ?k ?b;(case a | l | c | k=>k_is);(case b=>intro _ _ _ _ _ _ us hl;obtain⟨f,rfl⟩:=Pv.lts hl;rfl),?_⟩
   trivial
  obtain⟨zsk,zsl,znz,zcy,zgZ,zi6,zpf,zi7,zg0,zll,zlm,zln,zg1,znA,zg2,zic,zid,zie,zg3,zif,zfj,zfk,zd0,zfq,zcH,zi8,zig,zg4,zih,zg5,_⟩:Pv.Ds (L2.KOf KX) mg [("put",Pv.sput,["vault","root","key","worth"]),("cut",Pv.scut,["vault","root","key"]),("joined",Pv.zjm,["vault","left","right","count"]),("are_columns",Pv.zbE,["given"]),("are_orders",Pv.zdV,["thing","many"]),("is_table",Pv.zfO,["thing"]),("names",Pv.zmD,["vault","root"]),("table_at",Pv.zf7,["vault","root","name"]),("columns_of",Pv.zdR,["vault","root","name"]),("ordered",Pv.zhd,["vault","root","name"]),("rows_in",Pv.zhV,["vault","table"]),("rows_of",Pv.zhy,["vault","root","name"]),("make_table",Pv.zdQ,["vault","root","name","columns"]),("stands",Pv.zjz,["vault","root","name"]),("drop_table",Pv.zdF,["vault","root","name"]),("_law_hand",Pv.zeZ,["script","cell","k"]),("_law_draw",Pv.ze0,["hand","limit"]),("_law_text",Pv.zfc,["hand","most"]),("_law_value",Pv.zdU,["hand"]),("_law_name",Pv.ze2,["hand"]),("_law_columns",Pv.zcs,["hand"]),("_law_is_name",Pv.zcu,["thing"]),("_law_is_value",Pv.zbZ,["thing"]),("_law_things",Pv.zcM,["hand"]),("_law_bad_columns",Pv.zbc,["hand"]),("_law_due",Pv.zfy,["model","name","fields"]),("_law_kind",Pv.zeX,["caught"]),("_law_asked",Pv.zdI,["vault","root","name","fields","way"]),("_law_told",Pv.zen,["vault","root","model"]),("_law_holds",Pv.zdN,["script"])]:=by
   dsimp only[L2.KOf]
   iterate 30 refine⟨by refine' Pv.zmS _ _ _ KX G ?a ?l ?c ?k ?b;(case a | l | c | k=>k_is);(case b=>intro _ _ _ _ _ _ us hl;obtain⟨f,rfl⟩:=Pv.lts hl;rfl),?_⟩
   trivial
  obtain⟨zpS,znw,zcb,zbi,zbg,zd,zx,zgW,m_ord,zah,zaD,zgc,zde,zbB,zpT,zY,zh4,_⟩:Pv.Zs mg ["abs","all","bool","enumerate","int","isinstance","len","list","ord","range","reversed","set","sorted","str","sum","tuple","zip"]:=by
   iterate 17 refine⟨by refine' PySem.W.mg_none_of KX G ?z;(case z=>k_is),?_⟩
   trivial
  obtain⟨⟨_,zax⟩,⟨_,zcp⟩,⟨_,zD⟩,⟨_,zau⟩,⟨_,zae⟩,⟨_,zay⟩,⟨_,zcc⟩,⟨_,zc7⟩,⟨_,zc8⟩,⟨_,zc9⟩,⟨_,zgb⟩,⟨_,zM⟩,⟨_,zgV⟩,⟨_,zbh⟩,_⟩:Pv.Gis mg [("BENEATH_NONE",301),("COLUMNS",0),("COUNT",4),("KEY",0),("LEFT",2),("MOST_COLUMNS",6),("MOST_LETTERS",8),("MOST_NODES",300),("MOST_SIGNS",20),("ORDERS",2),("PERCENT",37),("RIGHT",3),("ROWS",1),("WORTH",1)]:=by
   iterate 14 refine⟨by refine' Pv.zoA KX G ?z;(case z=>k_is),?_⟩
   trivial
  obtain⟨⟨CK,cK,dI,⟨nL,_⟩,⟨dR,dL,dT,_⟩⟩,_⟩:Pv.Cs (L2.KOf KX) mg [("Keeper","Vault.__init__",Pv.zbP,["self"],["laid"],[("refuse_clash","Vault.refuse_clash",Pv.zaR,["self","number","thing"]),("lay","Vault.lay",Pv.zeJ,["self","thing"]),("thing","Vault.thing",Pv.zcN,["self","number"])])]:=by
   dsimp only[L2.KOf]
   iterate 1
    refine' Pv.zrY KX ?n ?c0 ?c1 ?c2 ?c3 ?_
    (case n=>k_is)
    (case c0=>refine' L2.zqP ?a ?b ?c ?d;(case a | b | c | d=>k_is))
    (case c1=>refine' L2.zqn KX G ?n ?mk ?a ?fn ?l ?c ?k ?kc ?b;(case n | mk | a | fn | l | c | k | kc=>k_is);(case b=>intro _ _ _ _ _ _ us hl;obtain⟨f,rfl⟩:=Pv.lts hl;rfl))
    (case c2=>(repeat refine⟨by unfold L2.zN;k_is,?_⟩);trivial)
    (case c3=>(repeat refine⟨by refine' L2.zqC ?a ?fn ?l ?c ?k ?b;(case a | fn | l | c | k=>k_is);(case b=>intro _ _ _ _ _ _ us hl;obtain⟨f,rfl⟩:=Pv.lts hl;rfl),?_⟩);trivial)
   trivial
  obtain⟨CVaultError,CNoName,CNoTable,CNoColumn,CNoRow,CBadThing,CClash,CNoPaper,CNoQuestion,CNoPlan,CNoStep,CNotSo,CNoState,zda,zcd,zav,za9,zdb,zff,zdc,zgd,zdd,zh7,zh8,zj1,zge,kT,kF,nt,e6,eT,a1,a2,a3,xB,xN,xM,xT,xC,n1,n2⟩:∃CVaultError CNoName CNoTable CNoColumn CNoRow CBadThing CClash CNoPaper CNoQuestion CNoPlan CNoStep CNotSo CNoState,mg "VaultError" =some (.ref CVaultError)/\mg "NoName" =some (.ref CNoName)/\mg "NoTable" =some (.ref CNoTable)/\mg "NoColumn" =some (.ref CNoColumn)/\mg "NoRow" =some (.ref CNoRow)/\mg "BadThing" =some (.ref CBadThing)/\mg "Clash" =some (.ref CClash)/\mg "NoPaper" =some (.ref CNoPaper)/\mg "NoQuestion" =some (.ref CNoQuestion)/\mg "NoPlan" =some (.ref CNoPlan)/\mg "NoStep" =some (.ref CNoStep)/\mg "NotSo" =some (.ref CNotSo)/\mg "NoState" =some (.ref CNoState)/\Pv.KdOk (L2.KOf KX) CNoName CVaultError CNoName CNoTable CNoColumn CNoRow CBadThing CClash CNoPaper CNoQuestion CNoPlan CNoStep CNotSo CNoState true/\Pv.KdOk (L2.KOf KX) CNoTable CVaultError CNoName CNoTable CNoColumn CNoRow CBadThing CClash CNoPaper CNoQuestion CNoPlan CNoStep CNotSo CNoState false/\Pv.NTk (L2.KOf KX) CNoState/\PySem.W.exmOne (L2.KOf KX) (.ref CClash) (.ref CClash)=some true/\PySem.W.exmOne (L2.KOf KX) (.ref CNoTable) (.ref CNoTable)=some true/\PySem.W.exmAny (L2.KOf KX) (.ref CNoName) [.ref CNoName,.ref CNoTable,.ref CNoColumn,.ref CNoRow]=some true/\PySem.W.exmAny (L2.KOf KX) (.ref CNoTable) [.ref CNoName,.ref CNoTable,.ref CNoColumn,.ref CNoRow]=some true/\PySem.W.exmAny (L2.KOf KX) (.ref CClash) [.ref CNoName,.ref CNoTable,.ref CNoColumn,.ref CNoRow]=some false/\L2.XP (L2.KOf KX) mg "BadThing" CBadThing/\L2.XP (L2.KOf KX) mg "NoPaper" CNoPaper/\L2.XP (L2.KOf KX) mg "NoName" CNoName/\L2.XP (L2.KOf KX) mg "NoTable" CNoTable/\L2.XId (L2.KOf KX) mg "Clash" CClash "Clash.__init__" Pv.zaM ["self","one","other"]/\L2.zN (L2.KOf KX) CClash "one" /\L2.zN (L2.KOf KX) CClash "other" :=by
   dsimp only[L2.KOf];refine' L2.zak KX (x:= "VaultError") ?n0 (L2.zak KX (x:= "NoName") ?n1 (L2.zak KX (x:= "NoTable") ?n2 (L2.zak KX (x:= "NoColumn") ?n3 (L2.zak KX (x:= "NoRow") ?n4 (L2.zak KX (x:= "BadThing") ?n5 (L2.zak KX (x:= "Clash") ?n6 (L2.zak KX (x:= "NoPaper") ?n7 (L2.zak KX (x:= "NoQuestion") ?n8 (L2.zak KX (x:= "NoPlan") ?n9 (L2.zak KX (x:= "NoStep") ?n10 (L2.zak KX (x:= "NotSo") ?n11 (L2.zak KX (x:= "NoState") ?n12 (?r)))))))))))))
   (case n0 | n1 | n2 | n3 | n4 | n5 | n6 | n7 | n8 | n9 | n10 | n11 | n12=>k_is)
   and_intros
   all_goals first
    | (refine' PySem.W.mg_of KX G ?z;(case z=>k_is))
    | (unfold L2.zN;k_is)
    | (refine'⟨?cl,?ei,?m⟩;(case cl=>refine' L2.zd3 ?xq ?xo ?xs ?xg ?xh ?xk;(case xq=>kernel_rfl);(case xo=>kernel_rfl);(case xs | xg | xh | xk=>k_is));(case ei=>kernel_rfl);(case m=>refine' PySem.W.mg_of KX G ?z;(case z=>k_is)))
    | (refine' L2.zqg (qual:= "Clash.__init__") (st:=Pv.zaM) (ps:=["self","one","other"]) KX G ?n ?cl ?a ?fn ?l ?c ?k ?b;(case n=>k_is);(case cl=>refine' L2.zd3 ?xq ?xo ?xs ?xg ?xh ?xk;(case xq=>kernel_rfl);(case xo=>kernel_rfl);(case xs | xg | xh | xk=>k_is));(case a | fn | l | c | k=>k_is);(case b=>intro _ _ _ _ _ _ us hl;obtain⟨f,rfl⟩:=Pv.lts hl;rfl))
    | (refine'⟨?kd,?k1,?k2,?k3,?k4,?k5,?he⟩;(case kd=>refine'⟨?cl,?ha,?hn,?ht,?hm⟩;(case cl=>refine' L2.zd3 ?xq ?xo ?xs ?xg ?xh ?xk;(case xq=>kernel_rfl);(case xo=>kernel_rfl);(case xs | xg | xh | xk=>k_is));(case ha=>k_is);(case hn=>first | k_is | kernel_rfl);(case ht=>first | k_is | kernel_rfl);(case hm=>first | k_is | kernel_rfl));(case k1=>kernel_rfl);(case k2=>kernel_rfl);(case k3=>kernel_rfl);(case k4=>kernel_rfl);(case k5=>kernel_rfl);(case he=>k_is))
    | (refine'⟨?kd,?k0,?k1,?k2,?k3,?k4,?k5⟩;(case kd=>refine'⟨?cl,?ha,?hn,?ht,?hm⟩;(case cl=>refine' L2.zd3 ?xq ?xo ?xs ?xg ?xh ?xk;(case xq=>kernel_rfl);(case xo=>kernel_rfl);(case xs | xg | xh | xk=>k_is));(case ha=>k_is);(case hn=>first | k_is | kernel_rfl);(case ht=>first | k_is | kernel_rfl);(case hm=>first | k_is | kernel_rfl));(case k0=>kernel_rfl);(case k1=>kernel_rfl);(case k2=>kernel_rfl);(case k3=>kernel_rfl);(case k4=>kernel_rfl);(case k5=>kernel_rfl))
    | (kernel_rfl)
  refine' Pv.zp4 KX G hmg ?a ?l ?c ?k ?ok
  (case a | l | c | k=>k_is)
  case ok=>
   intro base fd F;have zcI:=Pv.zos (P:=Pv.PQ) (w:=w) (base:=base) zid;have zrl:=Pv.zoJ (P:=Pv.PQ) (w:=w) (base:=base) zic zpT;have znB:=Pv.zqo zie zcI zah zx;have zpg:=Pv.zq2 zg3 zcI znB;have zsm:=Pv.zgi (P:=Pv.PQ) (w:=w) (base:=base) zh9 m_ord;have zph:=Pv.zhX zpc zsm zd zbg zbB zah zx 10;have zi9:=Pv.zo0 zri zph;have zrm:=Pv.zn0 (P:=Pv.PQ) (w:=w) (base:=base) zle zd zbg zbB;have zcq:=Pv.zhr zpb zdB zrm zh4 zx zd zY 9;have zpi:=Pv.zmh (P:=Pv.PQ) (w:=w) (base:=base) xC n1 n2;have zrn:=Pv.zlI (P:=Pv.PQ) (w:=w) (base:=base) dI cK nL;have znC:=Pv.zkg dR zpi cK nL;have zsn:=Pv.zqw dL znC zi9 cK nL;have znD:=Pv.zkc (P:=Pv.PQ) (w:=w) (base:=base) dT xN cK nL;have zj3:=Pv.zkL (P:=Pv.PQ) (w:=w) (base:=base) zfg zd zbg zcb;have znE:=Pv.zmP zlh zj3;have znF:=Pv.zkA zlg znE zj3 zd zY zx zau zbh zae zM zD zc7;have zro:=Pv.zn8 zrj zi9;have zj4:=Pv.zmY zpd zro zcq;have zja:=Pv.zlV zli zcq zau zae zM;have zjb:=Pv.zme (P:=Pv.PQ) (w:=w) (base:=base) zib zau zbh zae zM;have zjc:=Pv.zlQ (P:=Pv.PQ) (w:=w) (base:=base) zlj zau zx;have zpj:=Pv.zkr zi5 zj4 zau zbi zx;have zpk:=Pv.zk1 zi4 zcq;have zsB:=Pv.zkp zia zcq zau;have zsC:=Pv.zkD zgX zcq zau;have vi:=Pv.vi_K CK;have M1:=Pv.zoS znD;have M2:=Pv.zr0 zsn;have zj5:=Pv.zoE (CC:=CClash) vi zfh M1 cK znF xB zD;have zrp:=Pv.zk0 vi zfi zj5 zD;have znG:=Pv.znR vi znx zj5 zja zau zD zax;have zpl:=Pv.zk8 vi zpe znG zjc zbh;have znH:=Pv.zl2 (CN:=CNoPaper) (CB:=CBadThing) vi zrk M2 cK zjb zja zD zaD;have znI:=Pv.ziU (CN:=CNoPaper) (CB:=CBadThing) vi zny M2 cK zjb zja zD zae zM zaD;have zso:=Pv.zod vi zsk znG zjc M2 cK znH znI zpj zD zae zM zx;have zrq:=Pv.zlD vi znz zj5 zj4 M2 cK zjb zau zae zM zD zaD;have zsp:=Pv.zov vi zsl znG zjc znH zrq zD zae zM;have zsq:=Pv.zoY vi zgY zrp xB zae zM zD;have zpX:=Pv.znW vi zlk zpk zj5 zsB zsC zsq zcq zau zbh zae zM zD zax zx;have zdC:=Pv.zno (P:=Pv.PQ) (w:=w) (base:=base) nt zlf zd zbB zx zcc;have znJ:=Pv.zkF (P:=Pv.PQ) (w:=w) (base:=base) nt zfg zd zbg zcb;have zpm:=Pv.zkd (P:=Pv.PQ) (w:=w) (base:=base) zbS m_ord zgb;have zsD:=Pv.zrD zbT zpm;have zsr:=Pv.zqp nt zi3 znJ zsD zd zbB zx zpS zc8;have zpn:=Pv.zl3 zcy zdC zx zgc zay;have zpo:=Pv.znb zcy zdC zx zgc zay;have zrr:=Pv.zok (P:=Pv.PQ) (w:=w) (base:=base) zgZ zd zY;have zss:=Pv.zq0 zi6 zpo znE zrr zd zY zx zcp zgV zc9;have zdf:=Pv.zmA vi zi7 zpl zdC zss xT xB;have zpp:=Pv.zmU zg0 zdf zcp;have zrs:=Pv.zoU zg2 zdf (L2.FnX.mono zsp (by decide));have znK:=Pv.zkV vi znA zdf zav eT;have zrt:=Pv.zow vi zg1 zdC zpn znK (L2.FnX.mono zso (by decide)) xM xT zY;have zlo:=Pv.zil vi zll zdf zc9;have znL:=Pv.zkw vi zlm zpX zgV;have znM:=Pv.zkz vi zln zdf znL;have zpq:=Pv.znd vi zpf zpX zdC;have zj6:=Pv.znm zif zcI zah;have zj7:=Pv.zl7 zfj zcI zj6 zah;have znN:=Pv.zoC (P:=Pv.PQ) (w:=w) (base:=base) nt zfk zd zbB zx;have zru:=Pv.zoR (P:=Pv.PQ) (w:=w) (base:=base) nt zd0 zd zbB zbg zcb zx m_ord;have znO:=Pv.ziS zfq zcI znB zpg zah;have zst:=Pv.znQ zcH zcI zj7 zx;have zsu:=Pv.zox zi8 znN zah zx;have zpr:=Pv.zm0 (P:=Pv.PQ) (w:=w) (base:=base) zig (λb=>by cases b;exact kF;exact kT) zda zcd zav za9 zdb zff zdc zgd zdd zh7 zh8 zj1 zge zd;have zps:=Pv.zmw vi zg4 zrt zrs zpr zcd zav za9 zdb (λb=>by cases b;exact a2;exact a1) a3;have zrv:=Pv.zn2 zih zpq zpp zlo znM zd zgW zY zde;have zpt:=Pv.zlu zg5 zrn zrl zcI zj7 zst zj6 znO zdC zsr znN zru zsu zps zrv zbi zbg znw zd zcb zgW zY;exact Pv.zqS F (L2.FnX.mono zpt (by decide)) zi9 zdc xC.cl n1 n2 e6
#print axioms PySem.Challenge.cw_papervault_k61_names_and_tables_holds
