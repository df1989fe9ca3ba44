import PyProof.Rows.All
import Wide.All
import OpenK.AllK
import Wide.FinOn
import Lean
import PyProof.EqAt
import PyProof.EqKinds
import PyProof.TupleCall
import PyProof.NeKinds
import PyProof.FactsAll.list
import PyProof.ListMulRoad
import PyProof.FactsAll.tuple
import PyProof.Rows.TupAdd
import PyProof.StationsW
import PyProof.RulesAs
import OpenK.KOwn
import OpenK.KMake
import PyProof.ExcClass3
import PyProof.ExcInit
import PyProof.InstStoreFacts
import PyProof.ExcAttrAll.ValueError
import PyProof.NsDelKeeps
import KE.KTryMore
import KE.KDictSum
import PyProof.Rows.SortWalk
import PyProof.StrOps2
import PyProof.WalkInts
import KE.KIsAll
import OpenK.KCls
import PyProof.DictWalks
import KE.KRevIter
import PyProof.ListNew
import PyProof.EnumMake
import PyProof.EnumFor
import PyProof.SeqI3
import KE.KEqDict
import PyProof.InstEq
import PyProof.ListRange
import PyProof.TupleOfStr
import PyProof.FactsAll.NoneType_1
import PyProof.DictRoadsH
import PySem.Challenge.RW_papervault_k32_whole_one_shape_by_puts_a
set_option Elab.async false
set_option linter.all false
set_option maxRecDepth 100000
set_option maxHeartbeats 4000000
namespace L2
open PySem
def inClass (s:Stmt)(j:Nat):Stmt:=match s with
 | .ClassDef _ _ _ body _ _ _ _ _ _ _=>body.getD j (.Pass ⟨0,0,0,0⟩)
 | _=>.Pass ⟨0,0,0,0⟩
def zt (s:Stmt):Arguments:=match s with
 | .FunctionDef _ a _ _ _ _ _ _ _ _=>a
 | _=>{posonlyargs:=[],args:=[],vararg:=none,kwonlyargs:=[],kw_defaults:=[],kwarg:=none,defaults:=[]}
def zo (s:Stmt):List Stmt:=match s with
 | .FunctionDef _ _ b _ _ _ _ _ _ _=>b
 | _=>[]
def zd (s:Stmt):Scope:=match s with
 | .FunctionDef _ _ _ _ _ _ sc _ _ _=>sc
 | _=>{kind:=.function,names:=[],isGenerator:=false,isCoroutine:=false}
end L2
namespace Pv
open PySem
def top (i:Nat):Stmt:=PySem.Challenge.pw_papervault_k32_whole_one_shape_by_puts_a.main.body.getD i (.Pass ⟨0,0,0,0⟩)
end Pv
namespace Pv
open PySem PySem.W
noncomputable def KK:Params→Frag:=fun P=>
List.cons (Prod.mk (nat_lit 2) (.mk .none none (.dict #[]) #[])) (
List.cons (Prod.mk (nat_lit 3) (.mk (.type "dict") none (.dict #[DictEntry.mk (PyData.keyHash P "__name__") (.str "__name__" 165) (.str "law_papervault_k32_whole_one_shape_by_puts_a" 602),DictEntry.mk (PyData.keyHash P "__doc__") (.str "__doc__" 166) .none,DictEntry.mk (PyData.keyHash P "__package__") (.str "__package__" 167) .none,DictEntry.mk (PyData.keyHash P "__loader__") (.str "__loader__" 168) (.builtin "__main__.__loader__#opaque"),DictEntry.mk (PyData.keyHash P "__spec__") (.str "__spec__" 169) .none,DictEntry.mk (PyData.keyHash P "__annotations__") (.str "__annotations__" 170) (.ref 6),DictEntry.mk (PyData.keyHash P "__builtins__") (.str "__builtins__" 171) (.ref 4),DictEntry.mk (PyData.keyHash P "__file__") (.str "__file__" 173) (.str "/claim/cut.py" 172),DictEntry.mk (PyData.keyHash P "__cached__") (.str "__cached__" 174) .none,DictEntry.mk (PyData.keyHash P "VaultError") (.str "VaultError" 206) (.ref 24),DictEntry.mk (PyData.keyHash P "NoPaper") (.str "NoPaper" 222) (.ref 37),DictEntry.mk (PyData.keyHash P "BadThing") (.str "BadThing" 238) (.ref 49),DictEntry.mk (PyData.keyHash P "Clash") (.str "Clash" 265) (.ref 68),DictEntry.mk (PyData.keyHash P "seal") (.str "seal" 276) (.ref 77),DictEntry.mk (PyData.keyHash P "codes") (.str "codes" 282) (.ref 82),DictEntry.mk (PyData.keyHash P "number_of") (.str "number_of" 291) (.ref 89),DictEntry.mk (PyData.keyHash P "is_whole") (.str "is_whole" 300) (.ref 96),DictEntry.mk (PyData.keyHash P "kind_of") (.str "kind_of" 307) (.ref 103),DictEntry.mk (PyData.keyHash P "ahead") (.str "ahead" 316) (.ref 110),DictEntry.mk (PyData.keyHash P "is_tuple_ahead") (.str "is_tuple_ahead" 326) (.ref 117),DictEntry.mk (PyData.keyHash P "KEY") (.str "KEY" 330) (.int 0 329),DictEntry.mk (PyData.keyHash P "WORTH") (.str "WORTH" 332) (.int 1 331),DictEntry.mk (PyData.keyHash P "LEFT") (.str "LEFT" 334) (.int 2 333),DictEntry.mk (PyData.keyHash P "RIGHT") (.str "RIGHT" 336) (.int 3 335),DictEntry.mk (PyData.keyHash P "COUNT") (.str "COUNT" 338) (.int 4 337),DictEntry.mk (PyData.keyHash P "MOST_NODES") (.str "MOST_NODES" 340) (.int 300 339),DictEntry.mk (PyData.keyHash P "BENEATH_NONE") (.str "BENEATH_NONE" 342) (.int 301 341),DictEntry.mk (PyData.keyHash P "node_beneath") (.str "node_beneath" 352) (.ref 124),DictEntry.mk (PyData.keyHash P "is_node") (.str "is_node" 359) (.ref 131),DictEntry.mk (PyData.keyHash P "is_root") (.str "is_root" 366) (.ref 138),DictEntry.mk (PyData.keyHash P "rank") (.str "rank" 373) (.ref 145),DictEntry.mk (PyData.keyHash P "above") (.str "above" 383) (.ref 152),DictEntry.mk (PyData.keyHash P "side_of") (.str "side_of" 393) (.ref 159),DictEntry.mk (PyData.keyHash P "way_to") (.str "way_to" 405) (.ref 166),DictEntry.mk (PyData.keyHash P "ends_at") (.str "ends_at" 413) (.ref 173),DictEntry.mk (PyData.keyHash P "found") (.str "found" 423) (.ref 180),DictEntry.mk (PyData.keyHash P "with_tree") (.str "with_tree" 433) (.ref 187),DictEntry.mk (PyData.keyHash P "hung") (.str "hung" 445) (.ref 194),DictEntry.mk (PyData.keyHash P "parted") (.str "parted" 461) (.ref 201),DictEntry.mk (PyData.keyHash P "place_in") (.str "place_in" 471) (.ref 208),DictEntry.mk (PyData.keyHash P "put") (.str "put" 487) (.ref 215),DictEntry.mk (PyData.keyHash P "cut") (.str "cut" 498) (.ref 222),DictEntry.mk (PyData.keyHash P "joined") (.str "joined" 516) (.ref 229),DictEntry.mk (PyData.keyHash P "rising") (.str "rising" 524) (.ref 234),DictEntry.mk (PyData.keyHash P "Vault") (.str "Vault" 578) (.ref 272),DictEntry.mk (PyData.keyHash P "Keeper") (.str "Keeper" 601) (.ref 293),DictEntry.mk (PyData.keyHash P "_law_cell_at") (.str "_law_cell_at" 611) (.ref 302),DictEntry.mk (PyData.keyHash P "_law_mix") (.str "_law_mix" 620) (.ref 309),DictEntry.mk (PyData.keyHash P "_law_parts") (.str "_law_parts" 632) (.ref 316),DictEntry.mk (PyData.keyHash P "_law_text") (.str "_law_text" 643) (.ref 323),DictEntry.mk (PyData.keyHash P "_law_key") (.str "_law_key" 653) (.ref 330),DictEntry.mk (PyData.keyHash P "_law_worth") (.str "_law_worth" 662) (.ref 337),DictEntry.mk (PyData.keyHash P "_law_sort") (.str "_law_sort" 669) (.ref 344),DictEntry.mk (PyData.keyHash P "_law_ahead") (.str "_law_ahead" 678) (.ref 351),DictEntry.mk (PyData.keyHash P "_law_put_in") (.str "_law_put_in" 688) (.ref 358),DictEntry.mk (PyData.keyHash P "_law_rank") (.str "_law_rank" 696) (.ref 365),DictEntry.mk (PyData.keyHash P "_law_root") (.str "_law_root" 708) (.ref 372),DictEntry.mk (PyData.keyHash P "_law_told") (.str "_law_told" 721) (.ref 379),DictEntry.mk (PyData.keyHash P "_law_done") (.str "_law_done" 727) (.ref 384),DictEntry.mk (PyData.keyHash P "_law_twins_right") (.str "_law_twins_right" 733) (.ref 389),DictEntry.mk (PyData.keyHash P "_law_walked") (.str "_law_walked" 739) (.ref 394),DictEntry.mk (PyData.keyHash P "law") (.str "law" 749) (.ref 401)] 62) #[])) (
List.cons (Prod.mk (nat_lit 15) (.mk (.type "tuple") none (.seq #[.type "ValueError"]) #[])) (
List.cons (Prod.mk (nat_lit 22) (.mk (.type "tuple") none (.seq #[]) #[])) (
List.cons (Prod.mk (nat_lit 23) (.mk (.type "dict") none (.dict #[DictEntry.mk (PyData.keyHash P "__module__") (.str "__module__" 196) (.str "papervault.errors" 187),DictEntry.mk (PyData.keyHash P "__firstlineno__") (.str "__firstlineno__" 200) (.int 2 199),DictEntry.mk (PyData.keyHash P "__static_attributes__") (.str "__static_attributes__" 201) (.ref 22),DictEntry.mk (PyData.keyHash P "__weakref__") (.str "__weakref__" 203) (.ref 25),DictEntry.mk (PyData.keyHash P "__doc__") (.str "__doc__" 204) .none] 3) #[])) (
List.cons (Prod.mk (nat_lit 24) (.mk (.type "type") none (.cls (ClassData.mk "VaultError" [.type "ValueError"] [.ref 24,.type "ValueError",.type "Exception",.type "BaseException",.type "object"] 23 "VaultError" true [] [.ref 37,.ref 49,.ref 68] false none false)) #[some (.ref 15),none,some (.str "VaultError" 189),some (.str "VaultError" 197),some (.builtin "ValueError.__new__"),some (.bool true)])) (
List.cons (Prod.mk (nat_lit 25) (.mk (.type "getset_descriptor") none (.fields #[.str "__weakref__" 202,.ref 24,.builtin "ExceptionGroup.__weakref__",.none]) #[])) (
List.cons (Prod.mk (nat_lit 28) (.mk (.type "tuple") none (.seq #[.ref 24]) #[])) (
List.cons (Prod.mk (nat_lit 35) (.mk (.type "tuple") none (.seq #[]) #[])) (
List.cons (Prod.mk (nat_lit 36) (.mk (.type "dict") none (.dict #[DictEntry.mk (PyData.keyHash P "__module__") (.str "__module__" 214) (.str "papervault.errors" 187),DictEntry.mk (PyData.keyHash P "__firstlineno__") (.str "__firstlineno__" 218) (.int 4 217),DictEntry.mk (PyData.keyHash P "__static_attributes__") (.str "__static_attributes__" 219) (.ref 35),DictEntry.mk (PyData.keyHash P "__doc__") (.str "__doc__" 220) .none] 2) #[])) (
List.cons (Prod.mk (nat_lit 37) (.mk (.type "type") none (.cls (ClassData.mk "NoPaper" [.ref 24] [.ref 37,.ref 24,.type "ValueError",.type "Exception",.type "BaseException",.type "object"] 36 "NoPaper" true [] [] false none false)) #[some (.ref 28),none,some (.str "NoPaper" 207),some (.str "NoPaper" 215),some (.builtin "ValueError.__new__"),some (.bool true)])) (
List.cons (Prod.mk (nat_lit 40) (.mk (.type "tuple") none (.seq #[.ref 24]) #[])) (
List.cons (Prod.mk (nat_lit 47) (.mk (.type "tuple") none (.seq #[]) #[])) (
List.cons (Prod.mk (nat_lit 48) (.mk (.type "dict") none (.dict #[DictEntry.mk (PyData.keyHash P "__module__") (.str "__module__" 230) (.str "papervault.errors" 187),DictEntry.mk (PyData.keyHash P "__firstlineno__") (.str "__firstlineno__" 234) (.int 6 233),DictEntry.mk (PyData.keyHash P "__static_attributes__") (.str "__static_attributes__" 235) (.ref 47),DictEntry.mk (PyData.keyHash P "__doc__") (.str "__doc__" 236) .none] 2) #[])) (
List.cons (Prod.mk (nat_lit 49) (.mk (.type "type") none (.cls (ClassData.mk "BadThing" [.ref 24] [.ref 49,.ref 24,.type "ValueError",.type "Exception",.type "BaseException",.type "object"] 48 "BadThing" true [] [] false none false)) #[some (.ref 40),none,some (.str "BadThing" 223),some (.str "BadThing" 231),some (.builtin "ValueError.__new__"),some (.bool true)])) (
List.cons (Prod.mk (nat_lit 52) (.mk (.type "tuple") none (.seq #[.ref 24]) #[])) (
List.cons (Prod.mk (nat_lit 59) (.mk (.type "tuple") none (.seq #[]) #[])) (
List.cons (Prod.mk (nat_lit 61) (.mk (.type "tuple") none (.seq #[.str "self" 254,.str "one" 255,.str "other" 256]) #[])) (
List.cons (Prod.mk (nat_lit 62) (.mk (.type "tuple") none (.seq #[]) #[])) (
List.cons (Prod.mk (nat_lit 64) (.mk (.type "code") none (.fields #[.str "__init__" 251,.str "Clash.__init__" 252,.str "/claim/cut.py" 253,.int 10 0,.int 3 0,.int 0 0,.int 0 0,.int 3 0,.ref 59,.bool true,.int 181 0,.ref 60,.none,.ref 61,.ref 62,.ref 63,.int 257 0,.int 10 0,.str "/claim/cut.py" 258]) #[])) (
List.cons (Prod.mk (nat_lit 65) (.mk (.type "function") none (.func (.mk "__init__" "Clash.__init__" (L2.zt (L2.inClass (Pv.top 4) 0)) (.stmts (L2.zo (L2.inClass (Pv.top 4) 0))) (L2.zd (L2.inClass (Pv.top 4) 0)) 3 [] .none .none .none (.str "papervault.errors" 187) none (.ref 64) .none 0)) #[])) (
List.cons (Prod.mk (nat_lit 66) (.mk (.type "tuple") none (.seq #[.str "one" 260,.str "other" 261]) #[])) (
List.cons (Prod.mk (nat_lit 67) (.mk (.type "dict") none (.dict #[DictEntry.mk (PyData.keyHash P "__module__") (.str "__module__" 246) (.str "papervault.errors" 187),DictEntry.mk (PyData.keyHash P "__firstlineno__") (.str "__firstlineno__" 250) (.int 8 249),DictEntry.mk (PyData.keyHash P "__init__") (.str "__init__" 259) (.ref 65),DictEntry.mk (PyData.keyHash P "__static_attributes__") (.str "__static_attributes__" 262) (.ref 66),DictEntry.mk (PyData.keyHash P "__doc__") (.str "__doc__" 263) .none] 2) #[])) (
List.cons (Prod.mk (nat_lit 68) (.mk (.type "type") none (.cls (ClassData.mk "Clash" [.ref 24] [.ref 68,.ref 24,.type "ValueError",.type "Exception",.type "BaseException",.type "object"] 67 "Clash" true [] [] false none false)) #[some (.ref 52),none,some (.str "Clash" 239),some (.str "Clash" 247),some (.builtin "ValueError.__new__"),some (.bool true)])) (
List.cons (Prod.mk (nat_lit 71) (.mk (.type "tuple") none (.seq #[]) #[])) (
List.cons (Prod.mk (nat_lit 73) (.mk (.type "tuple") none (.seq #[.str "thing" 271,.str "folded" 272,.str "code" 273]) #[])) (
List.cons (Prod.mk (nat_lit 74) (.mk (.type "tuple") none (.seq #[]) #[])) (
List.cons (Prod.mk (nat_lit 76) (.mk (.type "code") none (.fields #[.str "seal" 268,.str "seal" 269,.str "/claim/cut.py" 270,.int 14 0,.int 1 0,.int 0 0,.int 0 0,.int 3 0,.ref 71,.bool true,.int 181 0,.ref 72,.none,.ref 73,.ref 74,.ref 75,.int 274 0,.int 14 0,.str "/claim/cut.py" 275]) #[])) (
List.cons (Prod.mk (nat_lit 77) (.mk (.type "function") none (.func (.mk "seal" "seal" (L2.zt (Pv.top 6)) (.stmts (L2.zo (Pv.top 6))) (L2.zd (Pv.top 6)) 3 [] .none .none .none (.str "papervault.seals" 266) none (.ref 76) .none 0)) #[])) (
List.cons (Prod.mk (nat_lit 78) (.mk (.type "tuple") none (.seq #[]) #[])) (
List.cons (Prod.mk (nat_lit 81) (.mk (.type "code") none (.fields #[.str "codes" 277,.str "codes" 278,.str "/claim/cut.py" 279,.int 19 0,.int 1 0,.int 0 0,.int 0 0,.int 3 0,.ref 78,.bool true,.int 181 0,.ref 79,.none,.none,.none,.ref 80,.int 280 0,.int 19 0,.str "/claim/cut.py" 281]) #[])) (
List.cons (Prod.mk (nat_lit 82) (.mk (.type "function") none (.func (.mk "codes" "codes" (L2.zt (Pv.top 7)) (.stmts (L2.zo (Pv.top 7))) (L2.zd (Pv.top 7)) 3 [] .none .none .none (.str "papervault.seals" 266) none (.ref 81) .none 0)) #[])) (
List.cons (Prod.mk (nat_lit 83) (.mk (.type "tuple") none (.seq #[]) #[])) (
List.cons (Prod.mk (nat_lit 85) (.mk (.type "tuple") none (.seq #[.str "signs" 286,.str "number" 287,.str "sign" 288]) #[])) (
List.cons (Prod.mk (nat_lit 86) (.mk (.type "tuple") none (.seq #[]) #[])) (
List.cons (Prod.mk (nat_lit 88) (.mk (.type "code") none (.fields #[.str "number_of" 283,.str "number_of" 284,.str "/claim/cut.py" 285,.int 32 0,.int 1 0,.int 0 0,.int 0 0,.int 3 0,.ref 83,.bool true,.int 181 0,.ref 84,.none,.ref 85,.ref 86,.ref 87,.int 289 0,.int 32 0,.str "/claim/cut.py" 290]) #[])) (
List.cons (Prod.mk (nat_lit 89) (.mk (.type "function") none (.func (.mk "number_of" "number_of" (L2.zt (Pv.top 8)) (.stmts (L2.zo (Pv.top 8))) (L2.zd (Pv.top 8)) 3 [] .none .none .none (.str "papervault.seals" 266) none (.ref 88) .none 0)) #[])) (
List.cons (Prod.mk (nat_lit 90) (.mk (.type "tuple") none (.seq #[]) #[])) (
List.cons (Prod.mk (nat_lit 92) (.mk (.type "tuple") none (.seq #[.str "value" 297]) #[])) (
List.cons (Prod.mk (nat_lit 93) (.mk (.type "tuple") none (.seq #[]) #[])) (
List.cons (Prod.mk (nat_lit 95) (.mk (.type "code") none (.fields #[.str "is_whole" 294,.str "is_whole" 295,.str "/claim/cut.py" 296,.int 38 0,.int 1 0,.int 0 0,.int 0 0,.int 3 0,.ref 90,.bool true,.int 181 0,.ref 91,.none,.ref 92,.ref 93,.ref 94,.int 298 0,.int 38 0,.str "/claim/cut.py" 299]) #[])) (
List.cons (Prod.mk (nat_lit 96) (.mk (.type "function") none (.func (.mk "is_whole" "is_whole" (L2.zt (Pv.top 10)) (.stmts (L2.zo (Pv.top 10))) (L2.zd (Pv.top 10)) 3 [] .none .none .none (.str "papervault.things" 292) none (.ref 95) .none 0)) #[])) (
List.cons (Prod.mk (nat_lit 97) (.mk (.type "tuple") none (.seq #[]) #[])) (
List.cons (Prod.mk (nat_lit 99) (.mk (.type "tuple") none (.seq #[.str "thing" 304]) #[])) (
List.cons (Prod.mk (nat_lit 100) (.mk (.type "tuple") none (.seq #[]) #[])) (
List.cons (Prod.mk (nat_lit 102) (.mk (.type "code") none (.fields #[.str "kind_of" 301,.str "kind_of" 302,.str "/claim/cut.py" 303,.int 40 0,.int 1 0,.int 0 0,.int 0 0,.int 3 0,.ref 97,.bool true,.int 181 0,.ref 98,.none,.ref 99,.ref 100,.ref 101,.int 305 0,.int 40 0,.str "/claim/cut.py" 306]) #[])) (
List.cons (Prod.mk (nat_lit 103) (.mk (.type "function") none (.func (.mk "kind_of" "kind_of" (L2.zt (Pv.top 11)) (.stmts (L2.zo (Pv.top 11))) (L2.zd (Pv.top 11)) 3 [] .none .none .none (.str "papervault.things" 292) none (.ref 102) .none 0)) #[])) (
List.cons (Prod.mk (nat_lit 104) (.mk (.type "tuple") none (.seq #[]) #[])) (
List.cons (Prod.mk (nat_lit 106) (.mk (.type "tuple") none (.seq #[.str "one" 311,.str "other" 312,.str "kind" 313]) #[])) (
List.cons (Prod.mk (nat_lit 107) (.mk (.type "tuple") none (.seq #[]) #[])) (
List.cons (Prod.mk (nat_lit 109) (.mk (.type "code") none (.fields #[.str "ahead" 308,.str "ahead" 309,.str "/claim/cut.py" 310,.int 48 0,.int 2 0,.int 0 0,.int 0 0,.int 3 0,.ref 104,.bool true,.int 181 0,.ref 105,.none,.ref 106,.ref 107,.ref 108,.int 314 0,.int 48 0,.str "/claim/cut.py" 315]) #[])) (
List.cons (Prod.mk (nat_lit 110) (.mk (.type "function") none (.func (.mk "ahead" "ahead" (L2.zt (Pv.top 12)) (.stmts (L2.zo (Pv.top 12))) (L2.zd (Pv.top 12)) 3 [] .none .none .none (.str "papervault.things" 292) none (.ref 109) .none 0)) #[])) (
List.cons (Prod.mk (nat_lit 111) (.mk (.type "tuple") none (.seq #[]) #[])) (
List.cons (Prod.mk (nat_lit 113) (.mk (.type "tuple") none (.seq #[.str "one" 320,.str "other" 321,.str "mine" 322,.str "its" 323]) #[])) (
List.cons (Prod.mk (nat_lit 114) (.mk (.type "tuple") none (.seq #[]) #[])) (
List.cons (Prod.mk (nat_lit 116) (.mk (.type "code") none (.fields #[.str "is_tuple_ahead" 317,.str "is_tuple_ahead" 318,.str "/claim/cut.py" 319,.int 57 0,.int 2 0,.int 0 0,.int 0 0,.int 3 0,.ref 111,.bool true,.int 181 0,.ref 112,.none,.ref 113,.ref 114,.ref 115,.int 324 0,.int 57 0,.str "/claim/cut.py" 325]) #[])) (
List.cons (Prod.mk (nat_lit 117) (.mk (.type "function") none (.func (.mk "is_tuple_ahead" "is_tuple_ahead" (L2.zt (Pv.top 13)) (.stmts (L2.zo (Pv.top 13))) (L2.zd (Pv.top 13)) 3 [] .none .none .none (.str "papervault.things" 292) none (.ref 116) .none 0)) #[])) (
List.cons (Prod.mk (nat_lit 118) (.mk (.type "tuple") none (.seq #[]) #[])) (
List.cons (Prod.mk (nat_lit 120) (.mk (.type "tuple") none (.seq #[.str "vault" 346,.str "root" 347,.str "count" 348,.str "node" 349]) #[])) (
List.cons (Prod.mk (nat_lit 121) (.mk (.type "tuple") none (.seq #[]) #[])) (
List.cons (Prod.mk (nat_lit 123) (.mk (.type "code") none (.fields #[.str "node_beneath" 343,.str "node_beneath" 344,.str "/claim/cut.py" 345,.int 70 0,.int 3 0,.int 0 0,.int 0 0,.int 3 0,.ref 118,.bool true,.int 181 0,.ref 119,.none,.ref 120,.ref 121,.ref 122,.int 350 0,.int 70 0,.str "/claim/cut.py" 351]) #[])) (
List.cons (Prod.mk (nat_lit 124) (.mk (.type "function") none (.func (.mk "node_beneath" "node_beneath" (L2.zt (Pv.top 22)) (.stmts (L2.zo (Pv.top 22))) (L2.zd (Pv.top 22)) 3 [] .none .none .none (.str "papervault.nodes" 327) none (.ref 123) .none 0)) #[])) (
List.cons (Prod.mk (nat_lit 125) (.mk (.type "tuple") none (.seq #[]) #[])) (
List.cons (Prod.mk (nat_lit 127) (.mk (.type "tuple") none (.seq #[.str "thing" 356]) #[])) (
List.cons (Prod.mk (nat_lit 128) (.mk (.type "tuple") none (.seq #[]) #[])) (
List.cons (Prod.mk (nat_lit 130) (.mk (.type "code") none (.fields #[.str "is_node" 353,.str "is_node" 354,.str "/claim/cut.py" 355,.int 75 0,.int 1 0,.int 0 0,.int 0 0,.int 3 0,.ref 125,.bool true,.int 181 0,.ref 126,.none,.ref 127,.ref 128,.ref 129,.int 357 0,.int 75 0,.str "/claim/cut.py" 358]) #[])) (
List.cons (Prod.mk (nat_lit 131) (.mk (.type "function") none (.func (.mk "is_node" "is_node" (L2.zt (Pv.top 23)) (.stmts (L2.zo (Pv.top 23))) (L2.zd (Pv.top 23)) 3 [] .none .none .none (.str "papervault.nodes" 327) none (.ref 130) .none 0)) #[])) (
List.cons (Prod.mk (nat_lit 132) (.mk (.type "tuple") none (.seq #[]) #[])) (
List.cons (Prod.mk (nat_lit 134) (.mk (.type "tuple") none (.seq #[.str "thing" 363]) #[])) (
List.cons (Prod.mk (nat_lit 135) (.mk (.type "tuple") none (.seq #[]) #[])) (
List.cons (Prod.mk (nat_lit 137) (.mk (.type "code") none (.fields #[.str "is_root" 360,.str "is_root" 361,.str "/claim/cut.py" 362,.int 83 0,.int 1 0,.int 0 0,.int 0 0,.int 3 0,.ref 132,.bool true,.int 181 0,.ref 133,.none,.ref 134,.ref 135,.ref 136,.int 364 0,.int 83 0,.str "/claim/cut.py" 365]) #[])) (
List.cons (Prod.mk (nat_lit 138) (.mk (.type "function") none (.func (.mk "is_root" "is_root" (L2.zt (Pv.top 24)) (.stmts (L2.zo (Pv.top 24))) (L2.zd (Pv.top 24)) 3 [] .none .none .none (.str "papervault.nodes" 327) none (.ref 137) .none 0)) #[])) (
List.cons (Prod.mk (nat_lit 139) (.mk (.type "tuple") none (.seq #[]) #[])) (
List.cons (Prod.mk (nat_lit 141) (.mk (.type "tuple") none (.seq #[.str "key" 370]) #[])) (
List.cons (Prod.mk (nat_lit 142) (.mk (.type "tuple") none (.seq #[]) #[])) (
List.cons (Prod.mk (nat_lit 144) (.mk (.type "code") none (.fields #[.str "rank" 367,.str "rank" 368,.str "/claim/cut.py" 369,.int 85 0,.int 1 0,.int 0 0,.int 0 0,.int 3 0,.ref 139,.bool true,.int 181 0,.ref 140,.none,.ref 141,.ref 142,.ref 143,.int 371 0,.int 85 0,.str "/claim/cut.py" 372]) #[])) (
List.cons (Prod.mk (nat_lit 145) (.mk (.type "function") none (.func (.mk "rank" "rank" (L2.zt (Pv.top 25)) (.stmts (L2.zo (Pv.top 25))) (L2.zd (Pv.top 25)) 3 [] .none .none .none (.str "papervault.nodes" 327) none (.ref 144) .none 0)) #[])) (
List.cons (Prod.mk (nat_lit 146) (.mk (.type "tuple") none (.seq #[]) #[])) (
List.cons (Prod.mk (nat_lit 148) (.mk (.type "tuple") none (.seq #[.str "key" 377,.str "other" 378,.str "mine" 379,.str "its" 380]) #[])) (
List.cons (Prod.mk (nat_lit 149) (.mk (.type "tuple") none (.seq #[]) #[])) (
List.cons (Prod.mk (nat_lit 151) (.mk (.type "code") none (.fields #[.str "above" 374,.str "above" 375,.str "/claim/cut.py" 376,.int 87 0,.int 2 0,.int 0 0,.int 0 0,.int 3 0,.ref 146,.bool true,.int 181 0,.ref 147,.none,.ref 148,.ref 149,.ref 150,.int 381 0,.int 87 0,.str "/claim/cut.py" 382]) #[])) (
List.cons (Prod.mk (nat_lit 152) (.mk (.type "function") none (.func (.mk "above" "above" (L2.zt (Pv.top 26)) (.stmts (L2.zo (Pv.top 26))) (L2.zd (Pv.top 26)) 3 [] .none .none .none (.str "papervault.nodes" 327) none (.ref 151) .none 0)) #[])) (
List.cons (Prod.mk (nat_lit 153) (.mk (.type "tuple") none (.seq #[]) #[])) (
List.cons (Prod.mk (nat_lit 155) (.mk (.type "tuple") none (.seq #[.str "node" 389,.str "key" 390]) #[])) (
List.cons (Prod.mk (nat_lit 156) (.mk (.type "tuple") none (.seq #[]) #[])) (
List.cons (Prod.mk (nat_lit 158) (.mk (.type "code") none (.fields #[.str "side_of" 386,.str "side_of" 387,.str "/claim/cut.py" 388,.int 94 0,.int 2 0,.int 0 0,.int 0 0,.int 3 0,.ref 153,.bool true,.int 181 0,.ref 154,.none,.ref 155,.ref 156,.ref 157,.int 391 0,.int 94 0,.str "/claim/cut.py" 392]) #[])) (
List.cons (Prod.mk (nat_lit 159) (.mk (.type "function") none (.func (.mk "side_of" "side_of" (L2.zt (Pv.top 28)) (.stmts (L2.zo (Pv.top 28))) (L2.zd (Pv.top 28)) 3 [] .none .none .none (.str "papervault.trees" 384) none (.ref 158) .none 0)) #[])) (
List.cons (Prod.mk (nat_lit 160) (.mk (.type "tuple") none (.seq #[]) #[])) (
List.cons (Prod.mk (nat_lit 162) (.mk (.type "tuple") none (.seq #[.str "vault" 397,.str "root" 398,.str "key" 399,.str "way" 400,.str "count" 401,.str "node" 402]) #[])) (
List.cons (Prod.mk (nat_lit 163) (.mk (.type "tuple") none (.seq #[]) #[])) (
List.cons (Prod.mk (nat_lit 165) (.mk (.type "code") none (.fields #[.str "way_to" 394,.str "way_to" 395,.str "/claim/cut.py" 396,.int 96 0,.int 3 0,.int 0 0,.int 0 0,.int 3 0,.ref 160,.bool true,.int 181 0,.ref 161,.none,.ref 162,.ref 163,.ref 164,.int 403 0,.int 96 0,.str "/claim/cut.py" 404]) #[])) (
List.cons (Prod.mk (nat_lit 166) (.mk (.type "function") none (.func (.mk "way_to" "way_to" (L2.zt (Pv.top 29)) (.stmts (L2.zo (Pv.top 29))) (L2.zd (Pv.top 29)) 3 [] .none .none .none (.str "papervault.trees" 384) none (.ref 165) .none 0)) #[])) (
List.cons (Prod.mk (nat_lit 167) (.mk (.type "tuple") none (.seq #[]) #[])) (
List.cons (Prod.mk (nat_lit 169) (.mk (.type "tuple") none (.seq #[.str "way" 409,.str "key" 410]) #[])) (
List.cons (Prod.mk (nat_lit 170) (.mk (.type "tuple") none (.seq #[]) #[])) (
List.cons (Prod.mk (nat_lit 172) (.mk (.type "code") none (.fields #[.str "ends_at" 406,.str "ends_at" 407,.str "/claim/cut.py" 408,.int 107 0,.int 2 0,.int 0 0,.int 0 0,.int 3 0,.ref 167,.bool true,.int 181 0,.ref 168,.none,.ref 169,.ref 170,.ref 171,.int 411 0,.int 107 0,.str "/claim/cut.py" 412]) #[])) (
List.cons (Prod.mk (nat_lit 173) (.mk (.type "function") none (.func (.mk "ends_at" "ends_at" (L2.zt (Pv.top 30)) (.stmts (L2.zo (Pv.top 30))) (L2.zd (Pv.top 30)) 3 [] .none .none .none (.str "papervault.trees" 384) none (.ref 172) .none 0)) #[])) (
List.cons (Prod.mk (nat_lit 174) (.mk (.type "tuple") none (.seq #[]) #[])) (
List.cons (Prod.mk (nat_lit 176) (.mk (.type "tuple") none (.seq #[.str "vault" 417,.str "root" 418,.str "key" 419,.str "way" 420]) #[])) (
List.cons (Prod.mk (nat_lit 177) (.mk (.type "tuple") none (.seq #[]) #[])) (
List.cons (Prod.mk (nat_lit 179) (.mk (.type "code") none (.fields #[.str "found" 414,.str "found" 415,.str "/claim/cut.py" 416,.int 109 0,.int 3 0,.int 0 0,.int 0 0,.int 3 0,.ref 174,.bool true,.int 181 0,.ref 175,.none,.ref 176,.ref 177,.ref 178,.int 421 0,.int 109 0,.str "/claim/cut.py" 422]) #[])) (
List.cons (Prod.mk (nat_lit 180) (.mk (.type "function") none (.func (.mk "found" "found" (L2.zt (Pv.top 31)) (.stmts (L2.zo (Pv.top 31))) (L2.zd (Pv.top 31)) 3 [] .none .none .none (.str "papervault.trees" 384) none (.ref 179) .none 0)) #[])) (
List.cons (Prod.mk (nat_lit 181) (.mk (.type "tuple") none (.seq #[]) #[])) (
List.cons (Prod.mk (nat_lit 183) (.mk (.type "tuple") none (.seq #[.str "node" 427,.str "side" 428,.str "root" 429,.str "count" 430]) #[])) (
List.cons (Prod.mk (nat_lit 184) (.mk (.type "tuple") none (.seq #[]) #[])) (
List.cons (Prod.mk (nat_lit 186) (.mk (.type "code") none (.fields #[.str "with_tree" 424,.str "with_tree" 425,.str "/claim/cut.py" 426,.int 112 0,.int 4 0,.int 0 0,.int 0 0,.int 3 0,.ref 181,.bool true,.int 181 0,.ref 182,.none,.ref 183,.ref 184,.ref 185,.int 431 0,.int 112 0,.str "/claim/cut.py" 432]) #[])) (
List.cons (Prod.mk (nat_lit 187) (.mk (.type "function") none (.func (.mk "with_tree" "with_tree" (L2.zt (Pv.top 32)) (.stmts (L2.zo (Pv.top 32))) (L2.zd (Pv.top 32)) 3 [] .none .none .none (.str "papervault.trees" 384) none (.ref 186) .none 0)) #[])) (
List.cons (Prod.mk (nat_lit 188) (.mk (.type "tuple") none (.seq #[]) #[])) (
List.cons (Prod.mk (nat_lit 190) (.mk (.type "tuple") none (.seq #[.str "vault" 437,.str "way" 438,.str "key" 439,.str "root" 440,.str "more" 441,.str "node" 442]) #[])) (
List.cons (Prod.mk (nat_lit 191) (.mk (.type "tuple") none (.seq #[]) #[])) (
List.cons (Prod.mk (nat_lit 193) (.mk (.type "code") none (.fields #[.str "hung" 434,.str "hung" 435,.str "/claim/cut.py" 436,.int 116 0,.int 5 0,.int 0 0,.int 0 0,.int 3 0,.ref 188,.bool true,.int 181 0,.ref 189,.none,.ref 190,.ref 191,.ref 192,.int 443 0,.int 116 0,.str "/claim/cut.py" 444]) #[])) (
List.cons (Prod.mk (nat_lit 194) (.mk (.type "function") none (.func (.mk "hung" "hung" (L2.zt (Pv.top 33)) (.stmts (L2.zo (Pv.top 33))) (L2.zd (Pv.top 33)) 3 [] .none .none .none (.str "papervault.trees" 384) none (.ref 193) .none 0)) #[])) (
List.cons (Prod.mk (nat_lit 195) (.mk (.type "tuple") none (.seq #[]) #[])) (
List.cons (Prod.mk (nat_lit 197) (.mk (.type "tuple") none (.seq #[.str "vault" 449,.str "way" 450,.str "key" 451,.str "root" 452,.str "count" 453,.str "left" 454,.str "left_count" 455,.str "right" 456,.str "right_count" 457,.str "node" 458]) #[])) (
List.cons (Prod.mk (nat_lit 198) (.mk (.type "tuple") none (.seq #[]) #[])) (
List.cons (Prod.mk (nat_lit 200) (.mk (.type "code") none (.fields #[.str "parted" 446,.str "parted" 447,.str "/claim/cut.py" 448,.int 120 0,.int 5 0,.int 0 0,.int 0 0,.int 3 0,.ref 195,.bool true,.int 181 0,.ref 196,.none,.ref 197,.ref 198,.ref 199,.int 459 0,.int 120 0,.str "/claim/cut.py" 460]) #[])) (
List.cons (Prod.mk (nat_lit 201) (.mk (.type "function") none (.func (.mk "parted" "parted" (L2.zt (Pv.top 34)) (.stmts (L2.zo (Pv.top 34))) (L2.zd (Pv.top 34)) 3 [] .none .none .none (.str "papervault.trees" 384) none (.ref 200) .none 0)) #[])) (
List.cons (Prod.mk (nat_lit 202) (.mk (.type "tuple") none (.seq #[]) #[])) (
List.cons (Prod.mk (nat_lit 204) (.mk (.type "tuple") none (.seq #[.str "way" 465,.str "key" 466,.str "number" 467,.str "node" 468]) #[])) (
List.cons (Prod.mk (nat_lit 205) (.mk (.type "tuple") none (.seq #[]) #[])) (
List.cons (Prod.mk (nat_lit 207) (.mk (.type "code") none (.fields #[.str "place_in" 462,.str "place_in" 463,.str "/claim/cut.py" 464,.int 133 0,.int 2 0,.int 0 0,.int 0 0,.int 3 0,.ref 202,.bool true,.int 181 0,.ref 203,.none,.ref 204,.ref 205,.ref 206,.int 469 0,.int 133 0,.str "/claim/cut.py" 470]) #[])) (
List.cons (Prod.mk (nat_lit 208) (.mk (.type "function") none (.func (.mk "place_in" "place_in" (L2.zt (Pv.top 35)) (.stmts (L2.zo (Pv.top 35))) (L2.zd (Pv.top 35)) 3 [] .none .none .none (.str "papervault.trees" 384) none (.ref 207) .none 0)) #[])) (
List.cons (Prod.mk (nat_lit 209) (.mk (.type "tuple") none (.seq #[]) #[])) (
List.cons (Prod.mk (nat_lit 211) (.mk (.type "tuple") none (.seq #[.str "vault" 475,.str "root" 476,.str "key" 477,.str "worth" 478,.str "way" 479,.str "own" 480,.str "new" 481,.str "place" 482,.str "trees" 483,.str "count" 484]) #[])) (
List.cons (Prod.mk (nat_lit 212) (.mk (.type "tuple") none (.seq #[]) #[])) (
List.cons (Prod.mk (nat_lit 214) (.mk (.type "code") none (.fields #[.str "put" 472,.str "put" 473,.str "/claim/cut.py" 474,.int 138 0,.int 4 0,.int 0 0,.int 0 0,.int 3 0,.ref 209,.bool true,.int 181 0,.ref 210,.none,.ref 211,.ref 212,.ref 213,.int 485 0,.int 138 0,.str "/claim/cut.py" 486]) #[])) (
List.cons (Prod.mk (nat_lit 215) (.mk (.type "function") none (.func (.mk "put" "put" (L2.zt (Pv.top 36)) (.stmts (L2.zo (Pv.top 36))) (L2.zd (Pv.top 36)) 3 [] .none .none .none (.str "papervault.trees" 384) none (.ref 214) .none 0)) #[])) (
List.cons (Prod.mk (nat_lit 216) (.mk (.type "tuple") none (.seq #[]) #[])) (
List.cons (Prod.mk (nat_lit 218) (.mk (.type "tuple") none (.seq #[.str "vault" 491,.str "root" 492,.str "key" 493,.str "way" 494,.str "own" 495]) #[])) (
List.cons (Prod.mk (nat_lit 219) (.mk (.type "tuple") none (.seq #[]) #[])) (
List.cons (Prod.mk (nat_lit 221) (.mk (.type "code") none (.fields #[.str "cut" 488,.str "cut" 489,.str "/claim/cut.py" 490,.int 149 0,.int 3 0,.int 0 0,.int 0 0,.int 3 0,.ref 216,.bool true,.int 181 0,.ref 217,.none,.ref 218,.ref 219,.ref 220,.int 496 0,.int 149 0,.str "/claim/cut.py" 497]) #[])) (
List.cons (Prod.mk (nat_lit 222) (.mk (.type "function") none (.func (.mk "cut" "cut" (L2.zt (Pv.top 37)) (.stmts (L2.zo (Pv.top 37))) (L2.zd (Pv.top 37)) 3 [] .none .none .none (.str "papervault.trees" 384) none (.ref 221) .none 0)) #[])) (
List.cons (Prod.mk (nat_lit 223) (.mk (.type "tuple") none (.seq #[]) #[])) (
List.cons (Prod.mk (nat_lit 225) (.mk (.type "tuple") none (.seq #[.str "vault" 502,.str "left" 503,.str "right" 504,.str "count" 505,.str "left_count" 506,.str "right_count" 507,.str "down" 508,.str "one" 509,.str "other" 510,.str "both" 511,.str "root" 512,.str "step" 513]) #[])) (
List.cons (Prod.mk (nat_lit 226) (.mk (.type "tuple") none (.seq #[]) #[])) (
List.cons (Prod.mk (nat_lit 228) (.mk (.type "code") none (.fields #[.str "joined" 499,.str "joined" 500,.str "/claim/cut.py" 501,.int 155 0,.int 4 0,.int 0 0,.int 0 0,.int 3 0,.ref 223,.bool true,.int 181 0,.ref 224,.none,.ref 225,.ref 226,.ref 227,.int 514 0,.int 155 0,.str "/claim/cut.py" 515]) #[])) (
List.cons (Prod.mk (nat_lit 229) (.mk (.type "function") none (.func (.mk "joined" "joined" (L2.zt (Pv.top 38)) (.stmts (L2.zo (Pv.top 38))) (L2.zd (Pv.top 38)) 3 [] .none .none .none (.str "papervault.trees" 384) none (.ref 228) .none 0)) #[])) (
List.cons (Prod.mk (nat_lit 230) (.mk (.type "tuple") none (.seq #[]) #[])) (
List.cons (Prod.mk (nat_lit 233) (.mk (.type "code") none (.fields #[.str "rising" 519,.str "rising" 520,.str "/claim/cut.py" 521,.int 176 0,.int 1 0,.int 0 0,.int 0 0,.int 3 0,.ref 230,.bool true,.int 181 0,.ref 231,.none,.none,.none,.ref 232,.int 522 0,.int 176 0,.str "/claim/cut.py" 523]) #[])) (
List.cons (Prod.mk (nat_lit 234) (.mk (.type "function") none (.func (.mk "rising" "rising" (L2.zt (Pv.top 40)) (.stmts (L2.zo (Pv.top 40))) (L2.zd (Pv.top 40)) 3 [] .none .none .none (.str "papervault.vaults" 517) none (.ref 233) .none 0)) #[])) (
List.cons (Prod.mk (nat_lit 242) (.mk (.type "tuple") none (.seq #[]) #[])) (
List.cons (Prod.mk (nat_lit 244) (.mk (.type "tuple") none (.seq #[.str "self" 540]) #[])) (
List.cons (Prod.mk (nat_lit 245) (.mk (.type "tuple") none (.seq #[]) #[])) (
List.cons (Prod.mk (nat_lit 247) (.mk (.type "code") none (.fields #[.str "__init__" 537,.str "Vault.__init__" 538,.str "/claim/cut.py" 539,.int 180 0,.int 1 0,.int 0 0,.int 0 0,.int 3 0,.ref 242,.bool true,.int 181 0,.ref 243,.none,.ref 244,.ref 245,.ref 246,.int 541 0,.int 180 0,.str "/claim/cut.py" 542]) #[])) (
List.cons (Prod.mk (nat_lit 248) (.mk (.type "function") none (.func (.mk "__init__" "Vault.__init__" (L2.zt (L2.inClass (Pv.top 41) 0)) (.stmts (L2.zo (L2.inClass (Pv.top 41) 0))) (L2.zd (L2.inClass (Pv.top 41) 0)) 3 [] .none .none .none (.str "papervault.vaults" 517) none (.ref 247) .none 0)) #[])) (
List.cons (Prod.mk (nat_lit 249) (.mk (.type "tuple") none (.seq #[]) #[])) (
List.cons (Prod.mk (nat_lit 251) (.mk (.type "tuple") none (.seq #[.str "self" 547,.str "number" 548,.str "thing" 549]) #[])) (
List.cons (Prod.mk (nat_lit 252) (.mk (.type "tuple") none (.seq #[]) #[])) (
List.cons (Prod.mk (nat_lit 254) (.mk (.type "code") none (.fields #[.str "refuse_clash" 544,.str "Vault.refuse_clash" 545,.str "/claim/cut.py" 546,.int 183 0,.int 3 0,.int 0 0,.int 0 0,.int 3 0,.ref 249,.bool true,.int 181 0,.ref 250,.none,.ref 251,.ref 252,.ref 253,.int 550 0,.int 183 0,.str "/claim/cut.py" 551]) #[])) (
List.cons (Prod.mk (nat_lit 255) (.mk (.type "function") none (.func (.mk "refuse_clash" "Vault.refuse_clash" (L2.zt (L2.inClass (Pv.top 41) 1)) (.stmts (L2.zo (L2.inClass (Pv.top 41) 1))) (L2.zd (L2.inClass (Pv.top 41) 1)) 3 [] .none .none .none (.str "papervault.vaults" 517) none (.ref 254) .none 0)) #[])) (
List.cons (Prod.mk (nat_lit 256) (.mk (.type "tuple") none (.seq #[]) #[])) (
List.cons (Prod.mk (nat_lit 258) (.mk (.type "tuple") none (.seq #[.str "self" 556,.str "thing" 557,.str "number" 558]) #[])) (
List.cons (Prod.mk (nat_lit 259) (.mk (.type "tuple") none (.seq #[]) #[])) (
List.cons (Prod.mk (nat_lit 261) (.mk (.type "code") none (.fields #[.str "lay" 553,.str "Vault.lay" 554,.str "/claim/cut.py" 555,.int 187 0,.int 2 0,.int 0 0,.int 0 0,.int 3 0,.ref 256,.bool true,.int 181 0,.ref 257,.none,.ref 258,.ref 259,.ref 260,.int 559 0,.int 187 0,.str "/claim/cut.py" 560]) #[])) (
List.cons (Prod.mk (nat_lit 262) (.mk (.type "function") none (.func (.mk "lay" "Vault.lay" (L2.zt (L2.inClass (Pv.top 41) 2)) (.stmts (L2.zo (L2.inClass (Pv.top 41) 2))) (L2.zd (L2.inClass (Pv.top 41) 2)) 3 [] .none .none .none (.str "papervault.vaults" 517) none (.ref 261) .none 0)) #[])) (
List.cons (Prod.mk (nat_lit 263) (.mk (.type "tuple") none (.seq #[]) #[])) (
List.cons (Prod.mk (nat_lit 265) (.mk (.type "tuple") none (.seq #[.str "self" 565,.str "number" 566]) #[])) (
List.cons (Prod.mk (nat_lit 266) (.mk (.type "tuple") none (.seq #[]) #[])) (
List.cons (Prod.mk (nat_lit 268) (.mk (.type "code") none (.fields #[.str "thing" 562,.str "Vault.thing" 563,.str "/claim/cut.py" 564,.int 193 0,.int 2 0,.int 0 0,.int 0 0,.int 3 0,.ref 263,.bool true,.int 181 0,.ref 264,.none,.ref 265,.ref 266,.ref 267,.int 567 0,.int 193 0,.str "/claim/cut.py" 568]) #[])) (
List.cons (Prod.mk (nat_lit 269) (.mk (.type "function") none (.func (.mk "thing" "Vault.thing" (L2.zt (L2.inClass (Pv.top 41) 3)) (.stmts (L2.zo (L2.inClass (Pv.top 41) 3))) (L2.zd (L2.inClass (Pv.top 41) 3)) 3 [] .none .none .none (.str "papervault.vaults" 517) none (.ref 268) .none 0)) #[])) (
List.cons (Prod.mk (nat_lit 270) (.mk (.type "tuple") none (.seq #[.str "laid" 570]) #[])) (
List.cons (Prod.mk (nat_lit 271) (.mk (.type "dict") none (.dict #[DictEntry.mk (PyData.keyHash P "__module__") (.str "__module__" 532) (.str "papervault.vaults" 517),DictEntry.mk (PyData.keyHash P "__firstlineno__") (.str "__firstlineno__" 536) (.int 178 535),DictEntry.mk (PyData.keyHash P "__init__") (.str "__init__" 543) (.ref 248),DictEntry.mk (PyData.keyHash P "refuse_clash") (.str "refuse_clash" 552) (.ref 255),DictEntry.mk (PyData.keyHash P "lay") (.str "lay" 561) (.ref 262),DictEntry.mk (PyData.keyHash P "thing") (.str "thing" 569) (.ref 269),DictEntry.mk (PyData.keyHash P "__static_attributes__") (.str "__static_attributes__" 571) (.ref 270),DictEntry.mk (PyData.keyHash P "__dict__") (.str "__dict__" 573) (.ref 273),DictEntry.mk (PyData.keyHash P "__weakref__") (.str "__weakref__" 575) (.ref 274),DictEntry.mk (PyData.keyHash P "__doc__") (.str "__doc__" 576) .none] 4) #[])) (
List.cons (Prod.mk (nat_lit 272) (.mk (.type "type") none (.cls (ClassData.mk "Vault" [.type "object"] [.ref 272,.type "object"] 271 "Vault" true [] [.ref 293] false none false)) #[none,none,some (.str "Vault" 525),some (.str "Vault" 533),some (.builtin "object.__new__"),some (.bool true)])) (
List.cons (Prod.mk (nat_lit 273) (.mk (.type "getset_descriptor") none (.fields #[.str "__dict__" 572,.ref 272,.builtin "function.__dict__",.builtin "function.__dict__#set"]) #[])) (
List.cons (Prod.mk (nat_lit 274) (.mk (.type "getset_descriptor") none (.fields #[.str "__weakref__" 574,.ref 272,.builtin "ExceptionGroup.__weakref__",.none]) #[])) (
List.cons (Prod.mk (nat_lit 277) (.mk (.type "tuple") none (.seq #[.ref 272]) #[])) (
List.cons (Prod.mk (nat_lit 284) (.mk (.type "tuple") none (.seq #[]) #[])) (
List.cons (Prod.mk (nat_lit 286) (.mk (.type "tuple") none (.seq #[.str "self" 594]) #[])) (
List.cons (Prod.mk (nat_lit 287) (.mk (.type "tuple") none (.seq #[]) #[])) (
List.cons (Prod.mk (nat_lit 289) (.mk (.type "code") none (.fields #[.str "things" 591,.str "Keeper.things" 592,.str "/claim/cut.py" 593,.int 199 0,.int 1 0,.int 0 0,.int 0 0,.int 3 0,.ref 284,.bool true,.int 181 0,.ref 285,.none,.ref 286,.ref 287,.ref 288,.int 595 0,.int 199 0,.str "/claim/cut.py" 596]) #[])) (
List.cons (Prod.mk (nat_lit 290) (.mk (.type "function") none (.func (.mk "things" "Keeper.things" (L2.zt (L2.inClass (Pv.top 42) 0)) (.stmts (L2.zo (L2.inClass (Pv.top 42) 0))) (L2.zd (L2.inClass (Pv.top 42) 0)) 3 [] .none .none .none (.str "papervault.vaults" 517) none (.ref 289) .none 0)) #[])) (
List.cons (Prod.mk (nat_lit 291) (.mk (.type "tuple") none (.seq #[]) #[])) (
List.cons (Prod.mk (nat_lit 292) (.mk (.type "dict") none (.dict #[DictEntry.mk (PyData.keyHash P "__module__") (.str "__module__" 586) (.str "papervault.vaults" 517),DictEntry.mk (PyData.keyHash P "__firstlineno__") (.str "__firstlineno__" 590) (.int 197 589),DictEntry.mk (PyData.keyHash P "things") (.str "things" 597) (.ref 290),DictEntry.mk (PyData.keyHash P "__static_attributes__") (.str "__static_attributes__" 598) (.ref 291),DictEntry.mk (PyData.keyHash P "__doc__") (.str "__doc__" 599) .none] 2) #[])) (
List.cons (Prod.mk (nat_lit 293) (.mk (.type "type") none (.cls (ClassData.mk "Keeper" [.ref 272] [.ref 293,.ref 272,.type "object"] 292 "Keeper" true [] [] false none false)) #[some (.ref 277),none,some (.str "Keeper" 579),some (.str "Keeper" 587),some (.builtin "object.__new__"),some (.bool true)])) (
List.cons (Prod.mk (nat_lit 296) (.mk (.type "tuple") none (.seq #[]) #[])) (
List.cons (Prod.mk (nat_lit 298) (.mk (.type "tuple") none (.seq #[.str "script" 607,.str "k" 608]) #[])) (
List.cons (Prod.mk (nat_lit 299) (.mk (.type "tuple") none (.seq #[]) #[])) (
List.cons (Prod.mk (nat_lit 301) (.mk (.type "code") none (.fields #[.str "_law_cell_at" 604,.str "_law_cell_at" 605,.str "/claim/cut.py" 606,.int 202 0,.int 2 0,.int 0 0,.int 0 0,.int 3 0,.ref 296,.bool true,.int 181 0,.ref 297,.none,.ref 298,.ref 299,.ref 300,.int 609 0,.int 202 0,.str "/claim/cut.py" 610]) #[])) (
List.cons (Prod.mk (nat_lit 302) (.mk (.type "function") none (.func (.mk "_law_cell_at" "_law_cell_at" (L2.zt (Pv.top 44)) (.stmts (L2.zo (Pv.top 44))) (L2.zd (Pv.top 44)) 3 [] .none .none .none (.str "law_papervault_k32_whole_one_shape_by_puts_a" 602) none (.ref 301) .none 0)) #[])) (
List.cons (Prod.mk (nat_lit 303) (.mk (.type "tuple") none (.seq #[]) #[])) (
List.cons (Prod.mk (nat_lit 305) (.mk (.type "tuple") none (.seq #[.str "cell" 615,.str "k" 616,.str "one" 617]) #[])) (
List.cons (Prod.mk (nat_lit 306) (.mk (.type "tuple") none (.seq #[]) #[])) (
List.cons (Prod.mk (nat_lit 308) (.mk (.type "code") none (.fields #[.str "_law_mix" 612,.str "_law_mix" 613,.str "/claim/cut.py" 614,.int 206 0,.int 2 0,.int 0 0,.int 0 0,.int 3 0,.ref 303,.bool true,.int 181 0,.ref 304,.none,.ref 305,.ref 306,.ref 307,.int 618 0,.int 206 0,.str "/claim/cut.py" 619]) #[])) (
List.cons (Prod.mk (nat_lit 309) (.mk (.type "function") none (.func (.mk "_law_mix" "_law_mix" (L2.zt (Pv.top 45)) (.stmts (L2.zo (Pv.top 45))) (L2.zd (Pv.top 45)) 3 [] .none .none .none (.str "law_papervault_k32_whole_one_shape_by_puts_a" 602) none (.ref 308) .none 0)) #[])) (
List.cons (Prod.mk (nat_lit 310) (.mk (.type "tuple") none (.seq #[]) #[])) (
List.cons (Prod.mk (nat_lit 312) (.mk (.type "tuple") none (.seq #[.str "cell" 624,.str "way" 625,.str "least" 626,.str "xs" 627,.str "k" 628,.str "wide" 629]) #[])) (
List.cons (Prod.mk (nat_lit 313) (.mk (.type "tuple") none (.seq #[]) #[])) (
List.cons (Prod.mk (nat_lit 315) (.mk (.type "code") none (.fields #[.str "_law_parts" 621,.str "_law_parts" 622,.str "/claim/cut.py" 623,.int 210 0,.int 3 0,.int 0 0,.int 0 0,.int 3 0,.ref 310,.bool true,.int 181 0,.ref 311,.none,.ref 312,.ref 313,.ref 314,.int 630 0,.int 210 0,.str "/claim/cut.py" 631]) #[])) (
List.cons (Prod.mk (nat_lit 316) (.mk (.type "function") none (.func (.mk "_law_parts" "_law_parts" (L2.zt (Pv.top 46)) (.stmts (L2.zo (Pv.top 46))) (L2.zd (Pv.top 46)) 3 [] .none .none .none (.str "law_papervault_k32_whole_one_shape_by_puts_a" 602) none (.ref 315) .none 0)) #[])) (
List.cons (Prod.mk (nat_lit 317) (.mk (.type "tuple") none (.seq #[]) #[])) (
List.cons (Prod.mk (nat_lit 319) (.mk (.type "tuple") none (.seq #[.str "number" 636,.str "many" 637,.str "signs" 638,.str "text" 639,.str "k" 640]) #[])) (
List.cons (Prod.mk (nat_lit 320) (.mk (.type "tuple") none (.seq #[]) #[])) (
List.cons (Prod.mk (nat_lit 322) (.mk (.type "code") none (.fields #[.str "_law_text" 633,.str "_law_text" 634,.str "/claim/cut.py" 635,.int 220 0,.int 2 0,.int 0 0,.int 0 0,.int 3 0,.ref 317,.bool true,.int 181 0,.ref 318,.none,.ref 319,.ref 320,.ref 321,.int 641 0,.int 220 0,.str "/claim/cut.py" 642]) #[])) (
List.cons (Prod.mk (nat_lit 323) (.mk (.type "function") none (.func (.mk "_law_text" "_law_text" (L2.zt (Pv.top 47)) (.stmts (L2.zo (Pv.top 47))) (L2.zd (Pv.top 47)) 3 [] .none .none .none (.str "law_papervault_k32_whole_one_shape_by_puts_a" 602) none (.ref 322) .none 0)) #[])) (
List.cons (Prod.mk (nat_lit 324) (.mk (.type "tuple") none (.seq #[]) #[])) (
List.cons (Prod.mk (nat_lit 326) (.mk (.type "tuple") none (.seq #[.str "cell" 647,.str "way" 648,.str "xs" 649,.str "some" 650]) #[])) (
List.cons (Prod.mk (nat_lit 327) (.mk (.type "tuple") none (.seq #[]) #[])) (
List.cons (Prod.mk (nat_lit 329) (.mk (.type "code") none (.fields #[.str "_law_key" 644,.str "_law_key" 645,.str "/claim/cut.py" 646,.int 228 0,.int 2 0,.int 0 0,.int 0 0,.int 3 0,.ref 324,.bool true,.int 181 0,.ref 325,.none,.ref 326,.ref 327,.ref 328,.int 651 0,.int 228 0,.str "/claim/cut.py" 652]) #[])) (
List.cons (Prod.mk (nat_lit 330) (.mk (.type "function") none (.func (.mk "_law_key" "_law_key" (L2.zt (Pv.top 48)) (.stmts (L2.zo (Pv.top 48))) (L2.zd (Pv.top 48)) 3 [] .none .none .none (.str "law_papervault_k32_whole_one_shape_by_puts_a" 602) none (.ref 329) .none 0)) #[])) (
List.cons (Prod.mk (nat_lit 331) (.mk (.type "tuple") none (.seq #[]) #[])) (
List.cons (Prod.mk (nat_lit 333) (.mk (.type "tuple") none (.seq #[.str "cell" 657,.str "way" 658,.str "xs" 659]) #[])) (
List.cons (Prod.mk (nat_lit 334) (.mk (.type "tuple") none (.seq #[]) #[])) (
List.cons (Prod.mk (nat_lit 336) (.mk (.type "code") none (.fields #[.str "_law_worth" 654,.str "_law_worth" 655,.str "/claim/cut.py" 656,.int 233 0,.int 2 0,.int 0 0,.int 0 0,.int 3 0,.ref 331,.bool true,.int 181 0,.ref 332,.none,.ref 333,.ref 334,.ref 335,.int 660 0,.int 233 0,.str "/claim/cut.py" 661]) #[])) (
List.cons (Prod.mk (nat_lit 337) (.mk (.type "function") none (.func (.mk "_law_worth" "_law_worth" (L2.zt (Pv.top 49)) (.stmts (L2.zo (Pv.top 49))) (L2.zd (Pv.top 49)) 3 [] .none .none .none (.str "law_papervault_k32_whole_one_shape_by_puts_a" 602) none (.ref 336) .none 0)) #[])) (
List.cons (Prod.mk (nat_lit 338) (.mk (.type "tuple") none (.seq #[]) #[])) (
List.cons (Prod.mk (nat_lit 340) (.mk (.type "tuple") none (.seq #[.str "thing" 666]) #[])) (
List.cons (Prod.mk (nat_lit 341) (.mk (.type "tuple") none (.seq #[]) #[])) (
List.cons (Prod.mk (nat_lit 343) (.mk (.type "code") none (.fields #[.str "_law_sort" 663,.str "_law_sort" 664,.str "/claim/cut.py" 665,.int 236 0,.int 1 0,.int 0 0,.int 0 0,.int 3 0,.ref 338,.bool true,.int 181 0,.ref 339,.none,.ref 340,.ref 341,.ref 342,.int 667 0,.int 236 0,.str "/claim/cut.py" 668]) #[])) (
List.cons (Prod.mk (nat_lit 344) (.mk (.type "function") none (.func (.mk "_law_sort" "_law_sort" (L2.zt (Pv.top 50)) (.stmts (L2.zo (Pv.top 50))) (L2.zd (Pv.top 50)) 3 [] .none .none .none (.str "law_papervault_k32_whole_one_shape_by_puts_a" 602) none (.ref 343) .none 0)) #[])) (
List.cons (Prod.mk (nat_lit 345) (.mk (.type "tuple") none (.seq #[]) #[])) (
List.cons (Prod.mk (nat_lit 347) (.mk (.type "tuple") none (.seq #[.str "one" 673,.str "other" 674,.str "k" 675]) #[])) (
List.cons (Prod.mk (nat_lit 348) (.mk (.type "tuple") none (.seq #[]) #[])) (
List.cons (Prod.mk (nat_lit 350) (.mk (.type "code") none (.fields #[.str "_law_ahead" 670,.str "_law_ahead" 671,.str "/claim/cut.py" 672,.int 244 0,.int 2 0,.int 0 0,.int 0 0,.int 3 0,.ref 345,.bool true,.int 181 0,.ref 346,.none,.ref 347,.ref 348,.ref 349,.int 676 0,.int 244 0,.str "/claim/cut.py" 677]) #[])) (
List.cons (Prod.mk (nat_lit 351) (.mk (.type "function") none (.func (.mk "_law_ahead" "_law_ahead" (L2.zt (Pv.top 51)) (.stmts (L2.zo (Pv.top 51))) (L2.zd (Pv.top 51)) 3 [] .none .none .none (.str "law_papervault_k32_whole_one_shape_by_puts_a" 602) none (.ref 350) .none 0)) #[])) (
List.cons (Prod.mk (nat_lit 352) (.mk (.type "tuple") none (.seq #[]) #[])) (
List.cons (Prod.mk (nat_lit 354) (.mk (.type "tuple") none (.seq #[.str "pairs" 682,.str "key" 683,.str "worth" 684,.str "k" 685]) #[])) (
List.cons (Prod.mk (nat_lit 355) (.mk (.type "tuple") none (.seq #[]) #[])) (
List.cons (Prod.mk (nat_lit 357) (.mk (.type "code") none (.fields #[.str "_law_put_in" 679,.str "_law_put_in" 680,.str "/claim/cut.py" 681,.int 257 0,.int 3 0,.int 0 0,.int 0 0,.int 3 0,.ref 352,.bool true,.int 181 0,.ref 353,.none,.ref 354,.ref 355,.ref 356,.int 686 0,.int 257 0,.str "/claim/cut.py" 687]) #[])) (
List.cons (Prod.mk (nat_lit 358) (.mk (.type "function") none (.func (.mk "_law_put_in" "_law_put_in" (L2.zt (Pv.top 52)) (.stmts (L2.zo (Pv.top 52))) (L2.zd (Pv.top 52)) 3 [] .none .none .none (.str "law_papervault_k32_whole_one_shape_by_puts_a" 602) none (.ref 357) .none 0)) #[])) (
List.cons (Prod.mk (nat_lit 359) (.mk (.type "tuple") none (.seq #[]) #[])) (
List.cons (Prod.mk (nat_lit 361) (.mk (.type "tuple") none (.seq #[.str "ranks" 692,.str "key" 693]) #[])) (
List.cons (Prod.mk (nat_lit 362) (.mk (.type "tuple") none (.seq #[]) #[])) (
List.cons (Prod.mk (nat_lit 364) (.mk (.type "code") none (.fields #[.str "_law_rank" 689,.str "_law_rank" 690,.str "/claim/cut.py" 691,.int 264 0,.int 2 0,.int 0 0,.int 0 0,.int 3 0,.ref 359,.bool true,.int 181 0,.ref 360,.none,.ref 361,.ref 362,.ref 363,.int 694 0,.int 264 0,.str "/claim/cut.py" 695]) #[])) (
List.cons (Prod.mk (nat_lit 365) (.mk (.type "function") none (.func (.mk "_law_rank" "_law_rank" (L2.zt (Pv.top 53)) (.stmts (L2.zo (Pv.top 53))) (L2.zd (Pv.top 53)) 3 [] .none .none .none (.str "law_papervault_k32_whole_one_shape_by_puts_a" 602) none (.ref 364) .none 0)) #[])) (
List.cons (Prod.mk (nat_lit 366) (.mk (.type "tuple") none (.seq #[]) #[])) (
List.cons (Prod.mk (nat_lit 368) (.mk (.type "tuple") none (.seq #[.str "ranks" 700,.str "pairs" 701,.str "top" 702,.str "k" 703,.str "left" 704,.str "right" 705]) #[])) (
List.cons (Prod.mk (nat_lit 369) (.mk (.type "tuple") none (.seq #[]) #[])) (
List.cons (Prod.mk (nat_lit 371) (.mk (.type "code") none (.fields #[.str "_law_root" 697,.str "_law_root" 698,.str "/claim/cut.py" 699,.int 268 0,.int 2 0,.int 0 0,.int 0 0,.int 3 0,.ref 366,.bool true,.int 181 0,.ref 367,.none,.ref 368,.ref 369,.ref 370,.int 706 0,.int 268 0,.str "/claim/cut.py" 707]) #[])) (
List.cons (Prod.mk (nat_lit 372) (.mk (.type "function") none (.func (.mk "_law_root" "_law_root" (L2.zt (Pv.top 54)) (.stmts (L2.zo (Pv.top 54))) (L2.zd (Pv.top 54)) 3 [] .none .none .none (.str "law_papervault_k32_whole_one_shape_by_puts_a" 602) none (.ref 371) .none 0)) #[])) (
List.cons (Prod.mk (nat_lit 373) (.mk (.type "tuple") none (.seq #[]) #[])) (
List.cons (Prod.mk (nat_lit 375) (.mk (.type "tuple") none (.seq #[.str "vault" 712,.str "root" 713,.str "pairs" 714,.str "key" 715,.str "due" 716,.str "own" 717,.str "worth" 718]) #[])) (
List.cons (Prod.mk (nat_lit 376) (.mk (.type "tuple") none (.seq #[]) #[])) (
List.cons (Prod.mk (nat_lit 378) (.mk (.type "code") none (.fields #[.str "_law_told" 709,.str "_law_told" 710,.str "/claim/cut.py" 711,.int 278 0,.int 4 0,.int 0 0,.int 0 0,.int 3 0,.ref 373,.bool true,.int 181 0,.ref 374,.none,.ref 375,.ref 376,.ref 377,.int 719 0,.int 278 0,.str "/claim/cut.py" 720]) #[])) (
List.cons (Prod.mk (nat_lit 379) (.mk (.type "function") none (.func (.mk "_law_told" "_law_told" (L2.zt (Pv.top 55)) (.stmts (L2.zo (Pv.top 55))) (L2.zd (Pv.top 55)) 3 [] .none .none .none (.str "law_papervault_k32_whole_one_shape_by_puts_a" 602) none (.ref 378) .none 0)) #[])) (
List.cons (Prod.mk (nat_lit 380) (.mk (.type "tuple") none (.seq #[]) #[])) (
List.cons (Prod.mk (nat_lit 383) (.mk (.type "code") none (.fields #[.str "_law_done" 722,.str "_law_done" 723,.str "/claim/cut.py" 724,.int 287 0,.int 6 0,.int 0 0,.int 0 0,.int 3 0,.ref 380,.bool true,.int 181 0,.ref 381,.none,.none,.none,.ref 382,.int 725 0,.int 287 0,.str "/claim/cut.py" 726]) #[])) (
List.cons (Prod.mk (nat_lit 384) (.mk (.type "function") none (.func (.mk "_law_done" "_law_done" (L2.zt (Pv.top 56)) (.stmts (L2.zo (Pv.top 56))) (L2.zd (Pv.top 56)) 3 [] .none .none .none (.str "law_papervault_k32_whole_one_shape_by_puts_a" 602) none (.ref 383) .none 0)) #[])) (
List.cons (Prod.mk (nat_lit 385) (.mk (.type "tuple") none (.seq #[]) #[])) (
List.cons (Prod.mk (nat_lit 388) (.mk (.type "code") none (.fields #[.str "_law_twins_right" 728,.str "_law_twins_right" 729,.str "/claim/cut.py" 730,.int 292 0,.int 1 0,.int 0 0,.int 0 0,.int 3 0,.ref 385,.bool true,.int 181 0,.ref 386,.none,.none,.none,.ref 387,.int 731 0,.int 292 0,.str "/claim/cut.py" 732]) #[])) (
List.cons (Prod.mk (nat_lit 389) (.mk (.type "function") none (.func (.mk "_law_twins_right" "_law_twins_right" (L2.zt (Pv.top 57)) (.stmts (L2.zo (Pv.top 57))) (L2.zd (Pv.top 57)) 3 [] .none .none .none (.str "law_papervault_k32_whole_one_shape_by_puts_a" 602) none (.ref 388) .none 0)) #[])) (
List.cons (Prod.mk (nat_lit 390) (.mk (.type "tuple") none (.seq #[]) #[])) (
List.cons (Prod.mk (nat_lit 393) (.mk (.type "code") none (.fields #[.str "_law_walked" 734,.str "_law_walked" 735,.str "/claim/cut.py" 736,.int 307 0,.int 1 0,.int 0 0,.int 0 0,.int 3 0,.ref 390,.bool true,.int 181 0,.ref 391,.none,.none,.none,.ref 392,.int 737 0,.int 307 0,.str "/claim/cut.py" 738]) #[])) (
List.cons (Prod.mk (nat_lit 394) (.mk (.type "function") none (.func (.mk "_law_walked" "_law_walked" (L2.zt (Pv.top 58)) (.stmts (L2.zo (Pv.top 58))) (L2.zd (Pv.top 58)) 3 [] .none .none .none (.str "law_papervault_k32_whole_one_shape_by_puts_a" 602) none (.ref 393) .none 0)) #[])) (
List.cons (Prod.mk (nat_lit 395) (.mk (.type "tuple") none (.seq #[]) #[])) (
List.cons (Prod.mk (nat_lit 397) (.mk (.type "tuple") none (.seq #[.str "script" 743,.str "told" 744,.str "clash" 745,.str "e" 746]) #[])) (
List.cons (Prod.mk (nat_lit 398) (.mk (.type "tuple") none (.seq #[]) #[])) (
List.cons (Prod.mk (nat_lit 400) (.mk (.type "code") none (.fields #[.str "law" 740,.str "law" 741,.str "/claim/cut.py" 742,.int 332 0,.int 1 0,.int 0 0,.int 0 0,.int 3 0,.ref 395,.bool true,.int 181 0,.ref 396,.none,.ref 397,.ref 398,.ref 399,.int 747 0,.int 332 0,.str "/claim/cut.py" 748]) #[])) (
List.cons (Prod.mk (nat_lit 401) (.mk (.type "function") none (.func (.mk "law" "law" (L2.zt (Pv.top 59)) (.stmts (L2.zo (Pv.top 59))) (L2.zd (Pv.top 59)) 3 [] .none .none .none (.str "law_papervault_k32_whole_one_shape_by_puts_a" 602) none (.ref 400) .none 0)) #[])) (List.nil))))))))))))))))))))))))))))))))))))))))))))))))))))))))))))))))))))))))))))))))))))))))))))))))))))))))))))))))))))))))))))))))))))))))))))))))))))))))))))))))))))))))))))))))))))))))))))))))))))))))))))))))))))))))))))))))))))))))))))))))))))))))
noncomputable def KA:List Addr:=List.cons (nat_lit 2) (List.cons (nat_lit 3) (List.cons (nat_lit 15) (List.cons (nat_lit 22) (List.cons (nat_lit 23) (List.cons (nat_lit 24) (List.cons (nat_lit 25) (List.cons (nat_lit 28) (List.cons (nat_lit 35) (List.cons (nat_lit 36) (List.cons (nat_lit 37) (List.cons (nat_lit 40) (List.cons (nat_lit 47) (List.cons (nat_lit 48) (List.cons (nat_lit 49) (List.cons (nat_lit 52) (List.cons (nat_lit 59) (List.cons (nat_lit 61) (List.cons (nat_lit 62) (List.cons (nat_lit 64) (List.cons (nat_lit 65) (List.cons (nat_lit 66) (List.cons (nat_lit 67) (List.cons (nat_lit 68) (List.cons (nat_lit 71) (List.cons (nat_lit 73) (List.cons (nat_lit 74) (List.cons (nat_lit 76) (List.cons (nat_lit 77) (List.cons (nat_lit 78) (List.cons (nat_lit 81) (List.cons (nat_lit 82) (List.cons (nat_lit 83) (List.cons (nat_lit 85) (List.cons (nat_lit 86) (List.cons (nat_lit 88) (List.cons (nat_lit 89) (List.cons (nat_lit 90) (List.cons (nat_lit 92) (List.cons (nat_lit 93) (List.cons (nat_lit 95) (List.cons (nat_lit 96) (List.cons (nat_lit 97) (List.cons (nat_lit 99) (List.cons (nat_lit 100) (List.cons (nat_lit 102) (List.cons (nat_lit 103) (List.cons (nat_lit 104) (List.cons (nat_lit 106) (List.cons (nat_lit 107) (List.cons (nat_lit 109) (List.cons (nat_lit 110) (List.cons (nat_lit 111) (List.cons (nat_lit 113) (List.cons (nat_lit 114) (List.cons (nat_lit 116) (List.cons (nat_lit 117) (List.cons (nat_lit 118) (List.cons (nat_lit 120) (List.cons (nat_lit 121) (List.cons (nat_lit 123) (List.cons (nat_lit 124) (List.cons (nat_lit 125) (List.cons (nat_lit 127) (List.cons (nat_lit 128) (List.cons (nat_lit 130) (List.cons (nat_lit 131) (List.cons (nat_lit 132) (List.cons (nat_lit 134) (List.cons (nat_lit 135) (List.cons (nat_lit 137) (List.cons (nat_lit 138) (List.cons (nat_lit 139) (List.cons (nat_lit 141) (List.cons (nat_lit 142) (List.cons (nat_lit 144) (List.cons (nat_lit 145) (List.cons (nat_lit 146) (List.cons (nat_lit 148) (List.cons (nat_lit 149) (List.cons (nat_lit 151) (List.cons (nat_lit 152) (List.cons (nat_lit 153) (List.cons (nat_lit 155) (List.cons (nat_lit 156) (List.cons (nat_lit 158) (List.cons (nat_lit 159) (List.cons (nat_lit 160) (List.cons (nat_lit 162) (List.cons (nat_lit 163) (List.cons (nat_lit 165) (List.cons (nat_lit 166) (List.cons (nat_lit 167) (List.cons (nat_lit 169) (List.cons (nat_lit 170) (List.cons (nat_lit 172) (List.cons (nat_lit 173) (List.cons (nat_lit 174) (List.cons (nat_lit 176) (List.cons (nat_lit 177) (List.cons (nat_lit 179) (List.cons (nat_lit 180) (List.cons (nat_lit 181) (List.cons (nat_lit 183) (List.cons (nat_lit 184) (List.cons (nat_lit 186) (List.cons (nat_lit 187) (List.cons (nat_lit 188) (List.cons (nat_lit 190) (List.cons (nat_lit 191) (List.cons (nat_lit 193) (List.cons (nat_lit 194) (List.cons (nat_lit 195) (List.cons (nat_lit 197) (List.cons (nat_lit 198) (List.cons (nat_lit 200) (List.cons (nat_lit 201) (List.cons (nat_lit 202) (List.cons (nat_lit 204) (List.cons (nat_lit 205) (List.cons (nat_lit 207) (List.cons (nat_lit 208) (List.cons (nat_lit 209) (List.cons (nat_lit 211) (List.cons (nat_lit 212) (List.cons (nat_lit 214) (List.cons (nat_lit 215) (List.cons (nat_lit 216) (List.cons (nat_lit 218) (List.cons (nat_lit 219) (List.cons (nat_lit 221) (List.cons (nat_lit 222) (List.cons (nat_lit 223) (List.cons (nat_lit 225) (List.cons (nat_lit 226) (List.cons (nat_lit 228) (List.cons (nat_lit 229) (List.cons (nat_lit 230) (List.cons (nat_lit 233) (List.cons (nat_lit 234) (List.cons (nat_lit 242) (List.cons (nat_lit 244) (List.cons (nat_lit 245) (List.cons (nat_lit 247) (List.cons (nat_lit 248) (List.cons (nat_lit 249) (List.cons (nat_lit 251) (List.cons (nat_lit 252) (List.cons (nat_lit 254) (List.cons (nat_lit 255) (List.cons (nat_lit 256) (List.cons (nat_lit 258) (List.cons (nat_lit 259) (List.cons (nat_lit 261) (List.cons (nat_lit 262) (List.cons (nat_lit 263) (List.cons (nat_lit 265) (List.cons (nat_lit 266) (List.cons (nat_lit 268) (List.cons (nat_lit 269) (List.cons (nat_lit 270) (List.cons (nat_lit 271) (List.cons (nat_lit 272) (List.cons (nat_lit 273) (List.cons (nat_lit 274) (List.cons (nat_lit 277) (List.cons (nat_lit 284) (List.cons (nat_lit 286) (List.cons (nat_lit 287) (List.cons (nat_lit 289) (List.cons (nat_lit 290) (List.cons (nat_lit 291) (List.cons (nat_lit 292) (List.cons (nat_lit 293) (List.cons (nat_lit 296) (List.cons (nat_lit 298) (List.cons (nat_lit 299) (List.cons (nat_lit 301) (List.cons (nat_lit 302) (List.cons (nat_lit 303) (List.cons (nat_lit 305) (List.cons (nat_lit 306) (List.cons (nat_lit 308) (List.cons (nat_lit 309) (List.cons (nat_lit 310) (List.cons (nat_lit 312) (List.cons (nat_lit 313) (List.cons (nat_lit 315) (List.cons (nat_lit 316) (List.cons (nat_lit 317) (List.cons (nat_lit 319) (List.cons (nat_lit 320) (List.cons (nat_lit 322) (List.cons (nat_lit 323) (List.cons (nat_lit 324) (List.cons (nat_lit 326) (List.cons (nat_lit 327) (List.cons (nat_lit 329) (List.cons (nat_lit 330) (List.cons (nat_lit 331) (List.cons (nat_lit 333) (List.cons (nat_lit 334) (List.cons (nat_lit 336) (List.cons (nat_lit 337) (List.cons (nat_lit 338) (List.cons (nat_lit 340) (List.cons (nat_lit 341) (List.cons (nat_lit 343) (List.cons (nat_lit 344) (List.cons (nat_lit 345) (List.cons (nat_lit 347) (List.cons (nat_lit 348) (List.cons (nat_lit 350) (List.cons (nat_lit 351) (List.cons (nat_lit 352) (List.cons (nat_lit 354) (List.cons (nat_lit 355) (List.cons (nat_lit 357) (List.cons (nat_lit 358) (List.cons (nat_lit 359) (List.cons (nat_lit 361) (List.cons (nat_lit 362) (List.cons (nat_lit 364) (List.cons (nat_lit 365) (List.cons (nat_lit 366) (List.cons (nat_lit 368) (List.cons (nat_lit 369) (List.cons (nat_lit 371) (List.cons (nat_lit 372) (List.cons (nat_lit 373) (List.cons (nat_lit 375) (List.cons (nat_lit 376) (List.cons (nat_lit 378) (List.cons (nat_lit 379) (List.cons (nat_lit 380) (List.cons (nat_lit 383) (List.cons (nat_lit 384) (List.cons (nat_lit 385) (List.cons (nat_lit 388) (List.cons (nat_lit 389) (List.cons (nat_lit 390) (List.cons (nat_lit 393) (List.cons (nat_lit 394) (List.cons (nat_lit 395) (List.cons (nat_lit 397) (List.cons (nat_lit 398) (List.cons (nat_lit 400) (List.cons (nat_lit 401) (List.nil))))))))))))))))))))))))))))))))))))))))))))))))))))))))))))))))))))))))))))))))))))))))))))))))))))))))))))))))))))))))))))))))))))))))))))))))))))))))))))))))))))))))))))))))))))))))))))))))))))))))))))))))))))))))))))))))))))))))))))))))))))))))
noncomputable def VQ:Program:={PySem.Challenge.pw_papervault_k32_whole_one_shape_by_puts_a with main:={PySem.Challenge.pw_papervault_k32_whole_one_shape_by_puts_a.main with body:=[top 1,top 2,top 3,top 4,top 6,top 7,top 8,top 10,top 11,top 12,top 13,top 15,top 16,top 17,top 18,top 19,top 20,top 21,top 22,top 23,top 24,top 25,top 26,top 28,top 29,top 30,top 31,top 32,top 33,top 34,top 35,top 36,top 37,top 38,top 40,top 41,top 42,top 44,top 45,top 46,top 47,top 48,top 49,top 50,top 51,top 52,top 53,top 54,top 55,top 56,top 57,top 58,top 59]}}
noncomputable abbrev RQ:OpenRow:=OpenLaw.row PySem.Challenge.rw_papervault_k32_whole_one_shape_by_puts_a
noncomputable def zkG (p:Program)(w:World)(N:Nat)(s₀:Shared):Option Shared:=
 match s₀.heap.isNs mainGlobals && s₀.gens.size==0 with
 | true=>(PySem.W.Fast.tw14082659384304107361 PySem.W.Fast.tw14364793385576792824 p w s₀.heap.objs.size (s₀.heap.nsMap mainGlobals "__annotations__") N s₀ (topStub p)).bind fun s₁=>match staticsOk (importedModules p.main.body) s₀.heap s₁.heap && namesBound p s₁.heap && gensDone s₁ && laidKept s₀.heap s₁.heap with
   | true=>some s₁
   | false=>none
 | false=>none
noncomputable def endsF (p:Program)(w:World)(N:Nat):Option Shared:=(fencedOpening treeTable p w N).bind (zkG p w N)
theorem zjX (p:Program)(w:World)(N:Nat):openEnds treeTable p w N=endsF p w N:=by
 unfold openEnds endsF
 congr 1
 funext s₀
 unfold topFrom zkG
 rw [←PySem.W.Fast.te14082659384304107361,←PySem.W.Fast.te14364793385576792824]
 rfl
noncomputable abbrev SQ (s:Shared):=PySem.W.Fast.tw4187177175401517315 VQ [] [] (fun s=>xlAt VQ [] s && recOk (RowW.records (OpenRow.toRowW RQ)) s) true s
theorem zls (w:World):(endsF RQ.prog w 5722).map (fun s=>(SQ s).1)=some ((openGood VQ []).1):=by kernel_rfl
theorem zlt (w:World):(endsF RQ.prog w 5722).map (fun s=>(SQ s).2.1)=some ((openGood VQ []).2.1):=by kernel_rfl
theorem zlW (w:World):(endsF RQ.prog w 5722).map (fun s=>(SQ s).2.2.1)=some ((openGood VQ []).2.2.1):=by kernel_rfl
theorem zlo (w:World):(endsF RQ.prog w 5722).map (fun s=>((SQ s).2.2.2.1,(SQ s).2.2.2.2.1))=some ((openGood VQ []).2.2.2.1,(openGood VQ []).2.2.2.2.1):=by kernel_rfl
theorem zlf (w:World):(endsF RQ.prog w 5722).map (fun s=>(SQ s).2.2.2.2.2)=some ((openGood VQ []).2.2.2.2.2):=by kernel_rfl
theorem zms (w:World):(endsF RQ.prog w 5722).map (fun s=>KA.map s.heap.get?)=some ((KK w.params).map fun p=>some p.2):=by kernel_rfl
theorem zmk:[]=importedModules RQ.prog.main.body:=by kernel_rfl
theorem left:LeftO RQ.prog VQ [] (fun s=>xlAt VQ [] s && recOk (RowW.records (OpenRow.toRowW RQ)) s) (fun s=>KA.map s.heap.get?) (fun w=>(KK w.params).map fun p=>some p.2) 5722:=fun w=>by
 obtain ⟨s,e,a1⟩:=Option.map_eq_some_iff.mp (zls w)
 obtain ⟨s2,e2,a2⟩:=Option.map_eq_some_iff.mp (zlt w)
 obtain ⟨s3,e3,a3⟩:=Option.map_eq_some_iff.mp (zlf w)
 obtain ⟨s4,e4,b⟩:=Option.map_eq_some_iff.mp (zms w)
 obtain ⟨s5,e5,a4⟩:=Option.map_eq_some_iff.mp (zlW w)
 obtain ⟨s6,e6,a5⟩:=Option.map_eq_some_iff.mp (zlo w)
 cases e.symm.trans e2
 cases e.symm.trans e3
 cases e.symm.trans e4
 cases e.symm.trans e5
 cases e.symm.trans e6
 rw [zjX,e]
 have h:SQ s=openGood VQ []:=Prod.ext a1 (Prod.ext a2 (Prod.ext a4 (Prod.ext (Prod.mk.inj a5).1 (Prod.ext (Prod.mk.inj a5).2 a3))))
 show some (_,_)=some (_,_)
 unfold SQ at h
 rw [←PySem.W.Fast.te4187177175401517315] at h
 rw [←zmk,h]
 exact congrArg (fun z=>some (openGood VQ [],z)) b
theorem addrs:∀P,KA=(KK P).map (·.1):=fun P=>by kernel_rfl
theorem said:PySem.Challenge.rw_papervault_k32_whole_one_shape_by_puts_a.wellSaid=true:=by kernel_rfl
end Pv
namespace L2
open PySem PySem.Spec PyProof.Rows
abbrev Key:=Sum Int Str
def zeB:Key→Value→Bool
 | .inl k,v=>Value.isInt k v
 | .inr x,v=>Value.isStrOf x v
def keyH (w:World):Key→Int
 | .inl k=>hashInt k
 | .inr x=>hashStr w x
theorem zag:∀{k:Key} {v:Value},zeB k v=true→(∃i t,k=Sum.inl i∧v=Value.int i t)∨(∃x t,k=Sum.inr x∧v=Value.str x t)
 | .inl i,v,h=>by
  obtain ⟨t,e⟩:=Value.isInt_shape (k:=i) (v:=v) h
  exact .inl ⟨i,t,rfl,e⟩
 | .inr x,v,h=>by
  obtain ⟨t,e⟩:=Value.isStrOf_shape (x:=x) (v:=v) h
  exact .inr ⟨x,t,rfl,e⟩
theorem zhY (i:Int)(t:Tok):zeB (.inl i) (.int i t)=true:=by simp [zeB,Value.isInt]
theorem zhw (x:Str)(t:Tok):zeB (.inr x) (.str x t)=true:=by simp [zeB,Value.isStrOf]
theorem zk2 (a b:Int):decide ((Sum.inl a:Key)=Sum.inl b)=(a==b):=by
 by_cases e:a=b
 ·subst e;simp
 ·have h:¬(Sum.inl a:Key)=Sum.inl b:=fun q=>e (Sum.inl.inj q)
  rw [decide_eq_false h]
  exact (beq_eq_false_iff_ne.mpr e).symm
theorem zlO (a b:Str):decide ((Sum.inr a:Key)=Sum.inr b)=decide (a=b):=by
 by_cases e:a=b
 ·subst e;simp
 ·have h:¬(Sum.inr a:Key)=Sum.inr b:=fun q=>e (Sum.inr.inj q)
  rw [decide_eq_false h,decide_eq_false e]
theorem zlr (a:Int)(b:Str):decide ((Sum.inl a:Key)=Sum.inr b)=false:=decide_eq_false (fun q=>nomatch q)
theorem zk8 (a:Str)(b:Int):decide ((Sum.inr a:Key)=Sum.inl b)=false:=decide_eq_false (fun q=>nomatch q)
def zav (prog:Program)(w:World):PySem.KeyKind prog w Key where
 is:=zeB
 hash:=keyH w
 inj:=fun v a b ha hb=>by
  rcases zag ha with ⟨i,t,rfl,rfl⟩ | ⟨x,t,rfl,rfl⟩
  ·rcases zag hb with ⟨j,u,rfl,e⟩ | ⟨y,u,rfl,e⟩
   ·injection e with e1 _;rw [e1]
   ·exact nomatch e
  ·rcases zag hb with ⟨j,u,rfl,e⟩ | ⟨y,u,rfl,e⟩
   ·exact nomatch e
   ·injection e with e1 _;rw [e1]
 byValue:=fun k v h=>by
  rcases zag h with ⟨i,t,rfl,rfl⟩ | ⟨x,t,rfl,rfl⟩ <;> rfl
 pyHash:=fun hv h=>by
  rcases zag hv with ⟨i,t,rfl,rfl⟩ | ⟨x,t,rfl,rfl⟩
  ·exact wpAny_pyHash_int h
  ·exact wpAny_pyHash_str h
 eqBool:=fun hu hv h=>by
  rcases zag hu with ⟨i,t,rfl,rfl⟩ | ⟨x,t,rfl,rfl⟩
  ·rcases zag hv with ⟨j,u,rfl,rfl⟩ | ⟨y,u,rfl,rfl⟩
   ·rw [zk2] at h;exact wpAny_eqBool_int h
   ·rw [zlr] at h;exact SeqAt.EqAt.int_str i t y u _ _ _ _ h
  ·rcases zag hv with ⟨j,u,rfl,rfl⟩ | ⟨y,u,rfl,rfl⟩
   ·rw [zk8] at h;exact SeqAt.EqAt.str_int x t j u _ _ _ _ h
   ·rw [zlO] at h;exact wpAny_eqBool_str h
 «strs»:=fun k x t v h=>by
  rcases zag h with ⟨i,u,rfl,e⟩ | ⟨y,u,rfl,e⟩
  ·exact nomatch e
  ·injection e with e1 _
   subst e1
   cases v <;> rfl
theorem zfS (prog:Program)(w:World)(i:Int)(t:Tok):(zav prog w).is (.inl i) (.int i t)=true:=zhY i t
theorem zfJ (prog:Program)(w:World)(x:Str)(t:Tok):(zav prog w).is (.inr x) (.str x t)=true:=zhw x t
end L2
namespace L2
open PySem PySem.Spec PyProof.Rows
inductive V where
 | non | bl (b:Bool) | int (i:Int) | str (x:Str) | byt (b:Array UInt8) | flt (b:UInt64) | ref (a:Addr) | ty (n:String)
 deriving DecidableEq
def RelV:V→Value→Prop
 | .non,u=>u=Value.none
 | .bl b,u=>u=Value.bool b
 | .int i,u=>∃t,u=Value.int i t
 | .str x,u=>∃t,u=Value.str x t
 | .byt b,u=>∃t,u=Value.bytes b t
 | .flt b,u=>∃t,u=Value.float b t
 | .ref a,u=>u=Value.ref a
 | .ty n,u=>u=Value.type n
abbrev Vals:List V→List Value→Prop:=Paired RelV
theorem Vals.length {xs:List V}{us:List Value}(r:Vals xs us):xs.length=us.length:=Paired.length r
theorem Vals.get:∀{xs:List V} {us:List Value} {i:Nat} {x:V},Vals xs us→xs[i]? =some x→∃u,us[i]? =some u∧RelV x u
 | _,_,_,_,.nil,e=>by simp at e
 | _,_,0,_,.cons r _,e=>by simp at e;subst e;exact ⟨_,rfl,r⟩
 | _,_,i+1,x,.cons _ t,e=>by
  obtain ⟨u,h1,h2⟩:=Vals.get (i:=i) (x:=x) t (by simpa using e)
  exact ⟨u,by simpa using h1,h2⟩
theorem Vals.set {x:V}{u:Value}(r:RelV x u):∀{xs:List V} {us:List Value} (i:Nat),Vals xs us→Vals (xs.set i x) (us.set i u)
 | _,_,_,.nil=>.nil
 | _,_,0,.cons _ t=>.cons r t
 | _,_,i+1,.cons q t=>.cons q (Vals.set r i t)
theorem Vals.append:∀{xs ys:List V} {us ws:List Value},Vals xs us→Vals ys ws→Vals (xs++ys) (us++ws)
 | _,_,_,_,.nil,s=>s
 | _,_,_,_,.cons r t,s=>.cons r (Vals.append t s)
theorem Vals.take:∀{xs:List V} {us:List Value} (n:Nat),Vals xs us→Vals (xs.take n) (us.take n)
 | _,_,0,_=>.nil
 | _,_,_+1,.nil=>.nil
 | _,_,n+1,.cons r t=>.cons r (Vals.take n t)
theorem Vals.drop:∀{xs:List V} {us:List Value} (n:Nat),Vals xs us→Vals (xs.drop n) (us.drop n)
 | _,_,0,r=>r
 | _,_,_+1,.nil=>.nil
 | _,_,n+1,.cons _ t=>Vals.drop n t
theorem Vals.none_of:∀{xs:List V} {us:List Value} {i:Nat},Vals xs us→xs[i]? =none→us[i]? =none:=fun {xs us i} r e=>by
 have h1:=r.length
 have h2:xs.length≤i:=List.getElem?_eq_none_iff.mp e
 exact List.getElem?_eq_none_iff.mpr (by omega)
def RelO:Option V→Option Value→Prop
 | some v,some u=>RelV v u
 | none,none=>True
 | _,_=>False
def KV {κ:Type}:List (κ ×V)→List (κ ×Value)→Prop:=Paired fun (p:κ ×V) (q:κ ×Value)=>p.1=q.1∧RelV p.2 q.2
def kV:Key→V
 | .inl i=>.int i
 | .inr x=>.str x
inductive HO where
 | lst (xs:List V)
 | tup (xs:List V)
 | dK (kvs:List (Key ×V)) | dT (kvs:List (List Key ×V))
 | set (S:Int→Bool) (n:Nat)
 | ins (C dx:Addr) (fs:List (Str ×V))
 | own (x:Addr)
 | xd (fs:List (Str ×V))
 | met (f x:Addr)
 | rng (lo hi:Int)
 | frz (o:Obj) (u:HO)
 | tbl (ps:Array Value)
 | ext (φ:Heap→Prop)
abbrev Hp:=Addr→Option HO
def upd (H:Hp)(a:Addr)(o:HO):Hp:=fun b=>if b=a then some o else H b
theorem zh {H:Hp}{a:Addr}{o:HO}:upd H a o a=some o:=by unfold upd;rw [if_pos rfl]
theorem zk {H:Hp}{a b:Addr}{o:HO}(h:b≠a):upd H a o b=H b:=by unfold upd;rw [if_neg h]
theorem zgY {H:Hp}{a:Addr}{o u:HO}:upd (upd H a o) a u=upd H a u:=by
 funext b;unfold upd;split <;> rfl
theorem za1 {H:Hp}{a b:Addr}{o u:HO}(h:H a=some o)(h':H b=some u)(d:o≠u):a≠b:=by
 intro e;subst e;rw [h] at h';exact d (Option.some.inj h')
theorem zl {H:Hp}{a b:Addr}{o:HO}(h:H a=some o)(h':H b=none):a≠b:=by
 intro e;subst e;rw [h] at h';cases h'
section
variable (P:Program)(w:World)
def zU (H:Hp)(h:Heap)(a:Addr):HO→Prop
 | .lst xs=>xs.length≤sizeLine∧∃(its:List Value) (n:Nat),Vals xs its∧h.get? a=some {cls:=.type "list",data:=.seq its.toArray n}
 | .tup xs=>xs.length≤sizeLine∧∃its:List Value,Vals xs its∧IsTup h a its.toArray
 | .dK kvs=>kvs.length≤sizeLine∧(a==sysModules)=false∧∃vs,KV kvs vs∧h.DictOf (zav P w) a vs
 | .dT kvs=>kvs.length≤sizeLine∧(a==sysModules)=false∧∃xs:List (List Key ×Addr ×Value),
   Paired (fun (p:List Key ×V) (q:List Key ×Addr ×Value)=>p.1=q.1∧H q.2.1=some (.tup (p.1.map kV))∧RelV p.2 q.2.2) kvs xs∧
   ∃o es ep,h.get? a=some o∧o.ExactDict∧o.data=.dict es ep∧es.toList=xs.map (entryOfKey (tupleKind (zav P w)))∧(xs.map (·.1)).Nodup
 | .set S n=>h.SetOf (intKind P w) a S n
 | .ins C dx fs=>H dx=some (.own a)∧fs.length≤1000∧dx≠a∧h.get? a=some (PySem.W.instObj C dx)∧
   ∃mA,h.Ns1 dx mA∧(∀f,RelO (fs.lookup f) (mA f))∧PySem.Within mA (fs.map (·.1))
 | .own _=>∃o,h.get? a=some o
 | .xd fs=>∃mA,h.Ns1 a mA∧∀f,RelO (fs.lookup f) (mA f)
 | .rng lo hi=>∃t u v,h.get? a=some {cls:=.type "range",data:=.fields #[.int lo t,.int hi u,.int 1 v]}
 | .frz o u=>h.get? a=some o∧zU H h a u
 | .tbl ps=>h.get? a=some {cls:=.none,data:=.fields ps}
 | .met f x=>h.get? a=some (PySem.W.methodObj (.ref f) (.ref x))
 | .ext φ=>φ h∧(∃o,h.get? a=some o)∧∀h1 h2:Heap,φ h1→(∀o,h1.get? a=some o→h2.get? a=some o)→φ h2
def HOk (H:Hp)(h:Heap):Prop:=∀a o,H a=some o→zU P w H h a o
end
section
variable {P:Program}{w:World}{H H':Hp}{h h':Heap}{a:Addr}{o:HO}
theorem zU.lt (x:zU P w H h a o):a < h.objs.size:=by
 cases o with
 | lst xs=>obtain ⟨_,_,_,_,e⟩:=x;exact Heap.lt_size e
 | tup xs=>obtain ⟨_,_,_,p⟩:=x;exact p.lt
 | dK kvs=>obtain ⟨_,_,_,_,o,_,_,e,_⟩:=x;exact Heap.lt_size e
 | dT kvs=>obtain ⟨_,_,_,_,o,_,_,e,_⟩:=x;exact Heap.lt_size e
 | set S n=>obtain ⟨o,_,_,_,e,_⟩:=x;exact Heap.lt_size e
 | ins C dx fs=>obtain ⟨_,_,_,e,_⟩:=x;exact Heap.lt_size e
 | own y=>obtain ⟨_,e⟩:=x;exact Heap.lt_size e
 | xd fs=>obtain ⟨_,⟨_,_,_,e,_⟩,_⟩:=x;exact Heap.lt_size e
 | rng lo hi=>obtain ⟨_,_,_,e⟩:=x;exact Heap.lt_size e
 | frz ob u=>obtain ⟨e,_⟩:=x;exact Heap.lt_size e
 | tbl ps=>exact Heap.lt_size (show h.get? a=some _ from x)
 | met f y=>exact Heap.lt_size (show h.get? a=some _ from x)
 | ext φ=>obtain ⟨_,⟨_,e⟩,_⟩:=x;exact Heap.lt_size e
theorem Paired.mapP {α β:Type}{F G:α→β→Prop}:∀{l₁:List α} {l₂:List β},Paired F l₁ l₂→(∀a b,F a b→G a b)→Paired G l₁ l₂
 | _,_,.nil,_=>.nil
 | _,_,.cons r t,f=>.cons (f _ _ r) (Paired.mapP t f)
theorem zU.stay (x:zU P w H h a o)(k:∀b u,(b=a∨H b=some (.own a))→h.get? b=some u→h'.get? b=some u)
  (ho:∀b,H b=some (.own a)→H' b=some (.own a)) (ht:∀b xs,H b=some (.tup xs)→H' b=some (.tup xs)):zU P w H' h' a o:=by
 induction o with
 | lst xs=>obtain ⟨z,its,n,r,e⟩:=x;exact ⟨z,its,n,r,k _ _ (.inl rfl) e⟩
 | tup xs=>obtain ⟨z,its,r,ob,e,c⟩:=x;exact ⟨z,its,r,ob,k _ _ (.inl rfl) e,c⟩
 | dK kvs=>obtain ⟨z,y,vs,r,ob,es,ep,e,c⟩:=x;exact ⟨z,y,vs,r,ob,es,ep,k _ _ (.inl rfl) e,c⟩
 | dT kvs=>
  obtain ⟨z,y,xs,r,ob,es,ep,e,c⟩:=x
  exact ⟨z,y,xs,Paired.mapP r fun p q z=>⟨z.1,ht _ _ z.2.1,z.2.2⟩,ob,es,ep,k _ _ (.inl rfl) e,c⟩
 | set S n=>obtain ⟨ob,es,ep,t,e,c⟩:=x;exact ⟨ob,es,ep,t,k _ _ (.inl rfl) e,c⟩
 | ins C dx fs=>
  obtain ⟨d,z,ne,e,mA,⟨od,es,ep,e2,c⟩,r⟩:=x
  exact ⟨ho _ d,z,ne,k _ _ (.inl rfl) e,mA,⟨od,es,ep,k _ _ (.inr d) e2,c⟩,r⟩
 | own y=>obtain ⟨ob,e⟩:=x;exact ⟨ob,k _ _ (.inl rfl) e⟩
 | xd fs=>obtain ⟨mA,⟨od,es,ep,e,c⟩,r⟩:=x;exact ⟨mA,⟨od,es,ep,k _ _ (.inl rfl) e,c⟩,r⟩
 | rng lo hi=>obtain ⟨t,u,v,e⟩:=x;exact ⟨t,u,v,k _ _ (.inl rfl) e⟩
 | frz ob u ih=>obtain ⟨e,q⟩:=x;exact ⟨k _ _ (.inl rfl) e,ih q⟩
 | tbl ps=>
  have e:h.get? a=some {cls:=.none,data:=.fields ps}:=x
  show h'.get? a=some {cls:=.none,data:=.fields ps}
  exact k a _ (.inl rfl) e
 | met f y=>
  have e:h.get? a=some (PySem.W.methodObj (.ref f) (.ref y)):=x
  show h'.get? a=some (PySem.W.methodObj (.ref f) (.ref y))
  exact k a _ (.inl rfl) e
 | ext φ=>obtain ⟨p,⟨o,e⟩,st⟩:=x;exact ⟨st _ _ p fun o q=>k _ _ (.inl rfl) q,⟨o,k _ _ (.inl rfl) e⟩,st⟩
theorem HOk.lt (x:HOk P w H h)(e:H a=some o):a < h.objs.size:=(x a o e).lt
theorem HOk.fresh (x:HOk P w H h)(e:h.objs.size≤a):H a=none:=by
 cases q:H a with
 | none=>rfl
 | some u=>exact absurd (Nat.lt_of_lt_of_le (x.lt q) e) (Nat.lt_irrefl _)
theorem HOk.kept (x:HOk P w H h)(k:∀b u,h.get? b=some u→h'.get? b=some u):HOk P w H h':=fun a o e=>
 (x a o e).stay (fun b u _ q=>k b u q) (fun _ q=>q) fun _ _ q=>q
theorem HOk.laid (x:HOk P w H h)(k:∀b u,h.get? b=some u→h'.get? b=some u)(hp:h.objs.size≤a)(new:zU P w (upd H a o) h' a o):HOk P w (upd H a o) h':=fun b u e=>by
 have hn:=x.fresh hp
 by_cases hb:b=a
 ·subst hb;rw [zh] at e;cases e;exact new
 ·rw [zk hb] at e
  exact (x b u e).stay (fun c v _ q=>k c v q) (fun c q=>by rw [zk (zl q hn)];exact q) fun c xs q=>by rw [zk (zl q hn)];exact q
end
def Rd (H:Hp)(a:Addr)(u:HO):Prop:=H a=some u∨∃o,H a=some (.frz o u)
theorem Rd.of {H:Hp}{a:Addr}{u:HO}(h:H a=some u):Rd H a u:=.inl h
theorem Rd.ok {P:Program}{w:World}{H:Hp}{h:Heap}{a:Addr}{u:HO}(r:Rd H a u)(x:HOk P w H h):zU P w H h a u:=by
 rcases r with r | ⟨o,r⟩
 ·exact x a u r
 ·obtain ⟨_,q⟩:=x a _ r
  exact q
def Mut:Option HO→Prop
 | some (.lst _)=>True
 | some (.dK _)=>True
 | some (.dT _)=>True
 | some (.set _ _)=>True
 | some (.ins _ _ _)=>True
 | some (.ext _)=>True
 | _=>False
section
variable {P:Program}{w:World}{H:Hp}{h h':Heap}{x e:Addr}{o':HO}
theorem HOk.write (ok:HOk P w H h)(mu:Mut (H x))(he:e=x∨H e=some (.own x))(k:∀b u,b≠e→h.get? b=some u→h'.get? b=some u)(heo:∃u,h'.get? e=some u)
  (new:zU P w (upd H x o') h' x o'):HOk P w (upd H x o') h':=fun b u q=>by
 have nown:∀c y,H c=some (.own y)→c≠x:=fun c y r z=>by subst z;rw [r] at mu;exact mu
 have ntup:∀c xs,H c=some (.tup xs)→c≠x:=fun c xs r z=>by subst z;rw [r] at mu;exact mu
 by_cases hb:b=x
 ·subst hb;rw [zh] at q;cases q;exact new
 ·rw [zk hb] at q
  by_cases hbe:b=e
  ·have q':H b=some (.own x):=by
    rcases he with z | z
    ·exact absurd (hbe.trans z) hb
    ·rw [hbe];exact z
   rw [q] at q';cases q'
   obtain ⟨v,hv⟩:=heo
   exact ⟨v,by rw [hbe];exact hv⟩
  ·refine (ok b u q).stay (fun c v hc r=>k c v ?_ r) (fun c r=>by rw [zk (nown c b r)];exact r) fun c xs r=>by rw [zk (ntup c xs r)];exact r
   rcases hc with rfl | hc
   ·exact hbe
   ·rintro rfl
    rcases he with z | z
    ·exact nown c b hc z
    ·rw [hc] at z;cases z;exact hb rfl
end
structure Un (fs ex:List Addr)(H H':Hp)(h h':Heap):Prop where
 keep:∀b o,h.get? b=some o→H b=none→b∉fs→b∉ex→h'.get? b=some o
 slot:∀b o,h.get? b=some o→H b=none→b∈fs→b∉ex→∃sl,h'.get? b=some {o with slots:=sl}
 free:∀b o,h.get? b=some o→H b=none→b∉ex→H' b=none
 there:∀b o,h.get? b=some o→b∉ex→∃o',h'.get? b=some o'
 tups:∀b xs,H b=some (.tup xs)→H' b=some (.tup xs)
 frzs:∀b o u,H b=some (.frz o u)→H' b=some (.frz o u)
 tbls:∀b ps,H b=some (.tbl ps)→∃more,H' b=some (.tbl (ps++more))
section
variable {fs fs' ex ex':List Addr}{H H1 H2:Hp}{h h1 h2 h':Heap}{a x e:Addr}{o:HO}
theorem Un.any (u:Un fs ex H H1 h h1){b:Addr}{ob:Obj}(q:h.get? b=some ob)(n:H b=none)(hx:b∉ex):∃sl,h1.get? b=some {ob with slots:=sl}:=by
 by_cases hb:b∈fs
 ·exact u.slot b ob q n hb hx
 ·exact ⟨ob.slots,u.keep b ob q n hb hx⟩
theorem Un.trans (a:Un fs ex H H1 h h1)(b:Un fs ex H1 H2 h1 h2):Un fs ex H H2 h h2 where
 keep:=fun c ob q n hc hx=>b.keep c ob (a.keep c ob q n hc hx) (a.free c ob q n hx) hc hx
 slot:=fun c ob q n hc hx=>by
  obtain ⟨sl,e1⟩:=a.slot c ob q n hc hx
  obtain ⟨sl',e2⟩:=b.slot c _ e1 (a.free c ob q n hx) hc hx
  exact ⟨sl',e2⟩
 free:=fun c ob q n hx=>by
  obtain ⟨o',e1⟩:=a.there c ob q hx
  exact b.free c o' e1 (a.free c ob q n hx) hx
 there:=fun c ob q hx=>by
  obtain ⟨o',e1⟩:=a.there c ob q hx
  exact b.there c o' e1 hx
 tups:=fun c xs q=>b.tups c xs (a.tups c xs q)
 frzs:=fun c ob xs q=>b.frzs c ob xs (a.frzs c ob xs q)
 tbls:=fun c ps q=>by
  obtain ⟨m1,e1⟩:=a.tbls c ps q
  obtain ⟨m2,e2⟩:=b.tbls c _ e1
  exact ⟨m1++m2,by rw [e2,Array.append_assoc]⟩
theorem Un.kept (k:∀b u,h.get? b=some u→h'.get? b=some u):Un fs ex H H h h':=
 ⟨fun b ob q _ _ _=>k b ob q,fun b ob q _ _ _=>⟨ob.slots,k b ob q⟩,fun _ _ _ n _=>n,fun b ob q _=>⟨ob,k b ob q⟩,fun _ _ q=>q,fun _ _ _ q=>q,fun _ ps q=>⟨#[],by rw [q];simp⟩⟩
theorem Un.refl:Un fs ex H H h h:=Un.kept fun _ _ q=>q
theorem Un.laid (k:∀b u,h.get? b=some u→h'.get? b=some u)(hp:h.objs.size≤a)(hn:H a=none):Un fs ex H (upd H a o) h h' where
 keep:=fun b u q _ _ _=>k b u q
 slot:=fun b u q _ _ _=>⟨u.slots,k b u q⟩
 free:=fun b u q n _=>by rw [zk (Nat.ne_of_lt (Nat.lt_of_lt_of_le (Heap.lt_size q) hp))];exact n
 there:=fun b u q _=>⟨u,k b u q⟩
 tups:=fun b xs q=>by rw [zk (zl q hn)];exact q
 frzs:=fun b u xs q=>by rw [zk (zl q hn)];exact q
 tbls:=fun b ps q=>⟨#[],by rw [zk (zl q hn),q];simp⟩
theorem Un.write (mu:Mut (H x))(he:e=x∨H e=some (.own x))(k:∀b u,b≠e→h.get? b=some u→h'.get? b=some u)(heo:∃u,h'.get? e=some u):Un fs ex H (upd H x o) h h':=by
 have hx:∀b,H b=none→b≠x:=fun b n z=>by subst z;rw [n] at mu;exact mu
 have hb:∀b,H b=none→b≠e:=fun b n z=>by
  subst z
  rcases he with r | r
  ·exact hx b n r
  ·rw [n] at r;cases r
 have hm:∀b u,H b=some u→¬Mut (some u)→b≠x:=fun b u q nm z=>by subst z;rw [q] at mu;exact nm mu
 refine ⟨fun b u q n _ _=>k b u (hb b n) q,fun b u q n _ _=>⟨u.slots,k b u (hb b n) q⟩,fun b u q n _=>by rw [zk (hx b n)];exact n,fun b u q _=>?_,
  fun b xs q=>by rw [zk (hm b _ q fun z=>z)];exact q,fun b u xs q=>by rw [zk (hm b _ q fun z=>z)];exact q,fun b ps q=>⟨#[],by rw [zk (hm b _ q fun z=>z),q];simp⟩⟩
 by_cases hbe:b=e
 ·subst hbe;exact heo
 ·exact ⟨u,k b u hbe q⟩
theorem Un.mono (u:Un fs ex H H1 h h1)(hs:∀b∈fs,b∈fs')(hx:∀b∈ex,b∈ex'):Un fs' ex' H H1 h h1:=
 ⟨fun b ob q n hb he=>u.keep b ob q n (fun z=>hb (hs b z)) fun z=>he (hx b z),fun _ _ q n _ he=>u.any q n fun z=>he (hx _ z),fun b ob q n he=>u.free b ob q n fun z=>he (hx b z),fun b ob q he=>u.there b ob q fun z=>he (hx b z),u.tups,u.frzs,u.tbls⟩
end
def trk (h:Heap)(H:Hp):List Addr:=(List.range h.objs.size).filter fun a=>(H a).isSome
def hidT (h:Heap)(H:Hp):Heap:=PySem.W.hideAll h (trk h H)
theorem zie (h:Heap)(H:Hp):(hidT h H).objs.size=h.objs.size:=PySem.W.hideAll_size _ _
theorem zii {h:Heap}{H:Hp}{b:Addr}{o:Obj}(e:h.get? b=some o)(n:H b=none):(hidT h H).get? b=some o:=
 PySem.W.hideAll_get _ e fun hm=>by
  have q:(H b).isSome=true:=(List.mem_filter.mp hm).2
  rw [n] at q;simp at q
theorem zko {h:Heap}{H:Hp}{b:Addr}{o:Obj}(e:(hidT h H).get? b=some o):h.get? b=some o∧H b=none:=by
 have e':h.get? b=some o:=PySem.W.of_hideAll (trk h H) e
 refine ⟨e',?_⟩
 cases q:H b with
 | none=>rfl
 | some x=>
  have hm:b∈trk h H:=List.mem_filter.mpr ⟨List.mem_range.mpr (Heap.lt_size e'),by simp [q]⟩
  have z:(hidT h H).get? b=none:=PySem.W.hideAll_none (trk h H) hm
  rw [z] at e;cases e
def zjQ (g h:Heap)(L:Addr):List (Addr ×Obj):=(List.range h.objs.size).filterMap fun a=>if a=L∨(g.get? a).isSome=true then none else (h.get? a).map fun o=>(a,o)
def rest (g h:Heap)(L d:Addr):List (Addr ×Obj):=(zjQ g h L).filter fun p=>decide (p.1≠d)
end L2
namespace L2
open PySem PySem.Spec PyProof.Rows
structure Mod (K:PySem.W.Frag)(mg:Str→Option Value)(base:Heap):Prop where
 kin:K.In base
 glob:base.Ns mainGlobals mg
 blt:∃mb,base.Ns builtinsNs mb∧∀x:Str,x≠ "__name__" →mb x=bootBuiltins x
 nolimit:base.NoLimit
structure Cx where
 prog:Program
 w:World
 K:PySem.W.Frag
 mg:Str→Option Value
 base:Heap
 A:Around
 N:List Str
 s₀:Shared
 H₀:Hp
 env:Env
 outer:List Env
 stack:List Env
 ex:List Addr
 fn:Str→Bool
 calm:Bool
 pn:List (Addr ×Obj)
 xe:Value→Shared→Prop
def frs (l:List Env):List Addr:=l.filterMap (·.frame)
abbrev Cx.fs (X:Cx):List Addr:=frs X.outer
def Vis (sc:Scope)(x:Str):Prop:=sc.names.lookup x=some .local∨sc.names.lookup x=some .cell∨sc.names.lookup x=some .free
def Loc (sc:Scope)(x:Str):Prop:=sc.names.lookup x=some .local∨sc.names.lookup x=some .cell
def Look (env:Env)(h:Heap)(m:Str→Option Value)(x:Str)(u:Value):Prop:=
 (env.kindOf x=some .local∧m x=some u)∨((env.kindOf x=some .cell∨env.kindOf x=some .free)∧∃c,env.cells.lookup x=some c∧h.IsCell c (some u))
structure Cx.Ok (X:Cx):Prop where
 mod:Mod X.K X.mg X.base
 kind:X.env.scope.kind=.function
 glob:X.env.globals=mainGlobals
 blt:X.env.builtins=builtinsNs
 above:X.s₀.heap.objs.size≤X.env.locals
 inj:∀x y c,X.env.cells.lookup x=some c→X.env.cells.lookup y=some c→x=y
 has:∀x,(X.env.kindOf x=some .cell∨X.env.kindOf x=some .free)→∃c,X.env.cells.lookup x=some c
 cab:∀x c,X.fn x=true→X.env.cells.lookup x=some c→X.s₀.heap.objs.size≤c
 hd:X.calm=true→X.A.handled=none
 frames:X.A.frames=some X.stack
 stk:X.stack=X.outer∨(X.stack=X.env::X.outer∧X.env.frame=some X.env.locals)
 exf:∀b∈X.ex,b≠X.env.locals∧∀x c,X.env.cells.lookup x=some c→c≠b
 bs:∀b o,X.base.get? b=some o→X.s₀.heap.get? b=some o∧X.H₀ b=none
 bsz:X.base.objs.size≤X.s₀.heap.objs.size
 noex:∀b o,X.base.get? b=some o→b∉X.ex
 exfs:∀b∈X.ex,b∉X.fs
 funs:X.s₀.heap.FunFrames X.base X.outer
 frf:∀b∈X.fs,X.H₀ b=none
structure Inv (X:Cx)(pins:List (Addr ×Obj))(σ:List (Option V))(H:Hp)(s:Shared):Prop where
 ok:X.Ok
 os:s.os=X.s₀.os
 bare:AllBare s.gens
 base:Un X.fs X.ex X.H₀ H X.s₀.heap s.heap
 loc:∃m,s.heap.Ns X.env.locals m∧∀(i:Nat) (x:Str) (v:V),X.N[i]? =some x→σ[i]? =some (some v)→Vis X.env.scope x→∃u,RelV v u∧Look X.env s.heap m x u
 cell:∀x c,X.env.cells.lookup x=some c→∃v,s.heap.IsCell c v
 free:H X.env.locals=none
 freeC:∀x c,X.env.cells.lookup x=some c→H c=none
 pin:∀p∈X.pn++pins,s.heap.get? p.1=some p.2∧H p.1=none∧p.1≠X.env.locals∧p.1∉X.fs∧∀v,p.2.data≠ .cell v
 hok:HOk X.prog X.w H s.heap
 len:σ.length=X.N.length
section
variable {X:Cx}{pins:List (Addr ×Obj)}{σ:List (Option V)}{H H':Hp}{s:Shared}{h':Heap}
theorem Cx.Ok.nofr (ok:X.Ok){b:Addr}{o:Obj}(e:X.base.get? b=some o):b∉X.fs:=fun hb=>by
 have:=(ok.funs.mem hb).1
 rw [e] at this;cases this
theorem Inv.bs (I:Inv X pins σ H s):∀b o,X.base.get? b=some o→s.heap.get? b=some o∧H b=none:=fun b o e=>
 ⟨I.base.keep b o (I.ok.bs b o e).1 (I.ok.bs b o e).2 (I.ok.nofr e) (I.ok.noex b o e),I.base.free b o (I.ok.bs b o e).1 (I.ok.bs b o e).2 (I.ok.noex b o e)⟩
theorem Inv.bk (I:Inv X pins σ H s):∀b o,X.base.get? b=some o→s.heap.get? b=some o:=fun b o e=>(I.bs b o e).1
theorem Inv.mod (I:Inv X pins σ H s):Mod X.K X.mg X.base:=I.ok.mod
theorem Inv.kIn (I:Inv X pins σ H s):X.K.In s.heap:=I.ok.mod.kin.keeps I.bk
theorem Inv.nolimit (I:Inv X pins σ H s):s.heap.NoLimit:=I.ok.mod.nolimit.keeps I.bk
theorem Inv.fr (I:Inv X pins σ H s):∃m,Fr X.base X.env.locals s.heap m:=
 let ⟨m,hn,_⟩:=I.loc
 ⟨m,hn,I.bk,Nat.le_trans I.ok.bsz I.ok.above⟩
theorem Inv.lt (I:Inv X pins σ H s):X.env.locals < s.heap.objs.size:=let ⟨_,hn,_⟩:=I.loc;hn.lt
theorem Inv.sz (I:Inv X pins σ H s):X.s₀.heap.objs.size≤s.heap.objs.size:=Nat.le_trans I.ok.above (Nat.le_of_lt I.lt)
theorem Inv.nofs (I:Inv X pins σ H s){a:Addr}(h:s.heap.objs.size≤a):a∉X.fs:=fun hb=>by
 obtain ⟨_,o,ho,_⟩:=I.ok.funs.mem hb
 exact absurd (Nat.lt_of_lt_of_le (Heap.lt_size ho) (Nat.le_trans I.sz h)) (Nat.lt_irrefl _)
theorem Inv.cne (I:Inv X pins σ H s):∀x c,X.env.cells.lookup x=some c→c≠X.env.locals:=fun x c e z=>by
 obtain ⟨v,o,ho,hd⟩:=I.cell x c e
 obtain ⟨m,⟨o',es,ep,ho',hd',_⟩,_⟩:=I.loc
 rw [z,ho'] at ho;cases ho;rw [hd'] at hd;cases hd
theorem Inv.funs (I:Inv X pins σ H s):s.heap.FunFrames X.base X.outer:=by
 have all:∀(l:List Env),(∀b∈frs l,b∈X.fs)→X.s₀.heap.FunFrames X.base l→s.heap.FunFrames X.base l:=by
  intro l
  induction l with
  | nil=>intro _ _;trivial
  | cons env r ih=>
   intro hs hl
   obtain ⟨hk,⟨L,o,hf,hn,ho,hd⟩,hr⟩:=hl
   have hL:L∈X.fs:=hs L (by unfold frs;rw [List.filterMap_cons,hf];exact List.mem_cons_self)
   obtain ⟨sl,e⟩:=I.base.slot L o ho (I.ok.frf L hL) hL fun z=>I.ok.exfs L z hL
   exact ⟨hk,⟨L,_,hf,hn,e,hd⟩,ih (fun b hb=>hs b (by unfold frs;rw [List.filterMap_cons,hf];exact List.mem_cons_of_mem _ hb)) hr⟩
 exact all X.outer (fun _ hb=>hb) I.ok.funs
theorem Inv.stack (I:Inv X pins σ H s):s.heap.FunFrames X.base X.stack:=by
 rcases I.ok.stk with e | ⟨e,hf⟩
 ·rw [e];exact I.funs
 ·rw [e]
  obtain ⟨m,hn,_⟩:=I.loc
  refine .cons (by rw [I.ok.kind];decide) hf hn ?_ I.funs
  exact Heap.get?_none_of_le (Nat.le_trans I.ok.bsz I.ok.above)
theorem Inv.stkSub (I:Inv X pins σ H s):∀b∈frs X.stack,b∈X.env.locals::X.fs:=fun b hb=>by
 rcases I.ok.stk with e | ⟨e,hf⟩
 ·rw [e] at hb;exact List.mem_cons_of_mem _ hb
 ·rw [e] at hb
  unfold frs at hb
  rw [List.filterMap_cons,hf] at hb
  exact hb
theorem Inv.stkFree (I:Inv X pins σ H s):∀b∈frs X.stack,H b=none:=fun b hb=>by
 rcases List.mem_cons.mp (I.stkSub b hb) with e | hb
 ·rw [e];exact I.free
 ·obtain ⟨_,o,ho,_⟩:=I.ok.funs.mem hb
  exact I.base.free b o ho (I.ok.frf b hb) fun z=>I.ok.exfs b z hb
theorem Inv.step {g':Array GenState}{t':Nat}{d':Drawn}{ch:List Addr}(I:Inv X pins σ H s)
  (hch:∀b∈ch,(b∈X.ex∨X.s₀.heap.objs.size≤b)∧b≠X.env.locals∧(∀x c,X.env.cells.lookup x=some c→c≠b)∧∀p∈X.pn++pins,p.1≠b)
  (keep:∀b o,b≠X.env.locals→b∉X.fs→b∉ch→s.heap.get? b=some o→H b=none→h'.get? b=some o)
  (slot:∀b o,b≠X.env.locals→b∈X.fs→b∉ch→s.heap.get? b=some o→H b=none→∃sl,h'.get? b=some {o with slots:=sl}) (free:∀b o,b∉ch→s.heap.get? b=some o→H b=none→H' b=none)
  (there:∀b o,b∉ch→s.heap.get? b=some o→∃o',h'.get? b=some o')
  (tups:∀b xs,H b=some (.tup xs)→H' b=some (.tup xs)) (frzs:∀b o u,H b=some (.frz o u)→H' b=some (.frz o u)) (tbls:∀b ps,H b=some (.tbl ps)→∃more,H' b=some (.tbl (ps++more)))
  (ns:∀m,s.heap.Ns X.env.locals m→h'.Ns X.env.locals m) (hok:HOk X.prog X.w H' h') (hg:AllBare g'):
  Inv X pins σ H' {s with heap:=h',gens:=g',drawn:=d',toks:=t'}:=by
 have neL:∀b o,X.s₀.heap.get? b=some o→b≠X.env.locals:=fun b o e=>Nat.ne_of_lt (Nat.lt_of_lt_of_le (Heap.lt_size e) I.ok.above)
 have neC:∀b o,X.s₀.heap.get? b=some o→b∉X.ex→b∉ch:=fun b o e hx hb=>by
  rcases (hch b hb).1 with z | z
  ·exact hx z
  ·exact absurd (Nat.lt_of_lt_of_le (Heap.lt_size e) z) (Nat.lt_irrefl _)
 have cellK:∀x c,X.env.cells.lookup x=some c→∀v,s.heap.IsCell c v→h'.IsCell c v:=fun x c e v ⟨o,ho,hd⟩=>by
  have nch:c∉ch:=fun z=>(hch c z).2.2.1 x c e rfl
  by_cases hc:c∈X.fs
  ·obtain ⟨sl,q⟩:=slot c o (I.cne x c e) hc nch ho (I.freeC x c e)
   exact ⟨_,q,hd⟩
  ·exact ⟨o,keep c o (I.cne x c e) hc nch ho (I.freeC x c e),hd⟩
 refine ⟨I.ok,I.os,hg,⟨fun b o e n hb hx=>?_,fun b o e n hb hx=>?_,fun b o e n hx=>?_,fun b o e hx=>?_,fun b xs e=>tups b xs (I.base.tups b xs e),fun b o xs e=>frzs b o xs (I.base.frzs b o xs e),fun b ps e=>?_⟩,?_,fun x c e=>?_,?_,fun x c e=>?_,fun p hp=>?_,hok,I.len⟩
 ·exact keep b o (neL b o e) hb (neC b o e hx) (I.base.keep b o e n hb hx) (I.base.free b o e n hx)
 ·obtain ⟨sl,e1⟩:=I.base.slot b o e n hb hx
  obtain ⟨sl',e2⟩:=slot b _ (neL b o e) hb (neC b o e hx) e1 (I.base.free b o e n hx)
  exact ⟨sl',e2⟩
 ·obtain ⟨o',e1⟩:=I.base.there b o e hx
  exact free b o' (neC b o e hx) e1 (I.base.free b o e n hx)
 ·obtain ⟨o',e1⟩:=I.base.there b o e hx
  exact there b o' (neC b o e hx) e1
 ·obtain ⟨m1,e1⟩:=I.base.tbls b ps e
  obtain ⟨m2,e2⟩:=tbls b _ e1
  exact ⟨m1++m2,by rw [e2,Array.append_assoc]⟩
 ·obtain ⟨m,hn,hl⟩:=I.loc
  refine ⟨m,ns m hn,fun i x v e1 e2 e3=>?_⟩
  obtain ⟨u,r,l⟩:=hl i x v e1 e2 e3
  refine ⟨u,r,?_⟩
  rcases l with l | ⟨k,c,e,z⟩
  ·exact .inl l
  ·exact .inr ⟨k,c,e,cellK x c e _ z⟩
 ·obtain ⟨v,z⟩:=I.cell x c e
  exact ⟨v,cellK x c e v z⟩
 ·obtain ⟨m,⟨o,_,_,ho,_⟩,_⟩:=I.loc
  exact free _ o (fun z=>(hch _ z).2.1 rfl) ho I.free
 ·obtain ⟨v,o,ho,hd⟩:=I.cell x c e
  exact free c o (fun z=>(hch c z).2.2.1 x c e rfl) ho (I.freeC x c e)
 ·obtain ⟨e,n,ne,nf,d⟩:=I.pin p hp
  have nch:p.1∉ch:=fun z=>(hch p.1 z).2.2.2 p hp rfl
  exact ⟨keep p.1 p.2 ne nf nch e n,free p.1 p.2 nch e n,ne,nf,d⟩
theorem Inv.un {t':Nat}(I:Inv X pins σ H s)(u:Un X.fs [] H H' s.heap h')(hok:HOk X.prog X.w H' h'):Inv X pins σ H' {s with heap:=h',toks:=t'}:=by
 obtain ⟨m,⟨o,es,ep,ho,r⟩,_⟩:=id I.loc
 obtain ⟨sl,hL⟩:=u.any ho I.free (by simp)
 exact I.step (g':=s.gens) (d':=s.drawn) (ch:=[]) (fun _ z=>nomatch z) (fun b o _ hb _ e n=>u.keep b o e n hb (by simp)) (fun b o _ hb _ e n=>u.slot b o e n hb (by simp)) (fun b o _ e n=>u.free b o e n (by simp)) (fun b o _ e=>u.there b o e (by simp)) u.tups u.frzs u.tbls (fun m' hm=>by
  obtain ⟨o',es',ep',ho',r'⟩:=hm
  rw [ho] at ho';cases ho'
  exact ⟨_,es',ep',hL,r'⟩) hok I.bare
theorem Inv.call {g':Array GenState}{t':Nat}{d':Drawn}{ch:List Addr}(I:Inv X pins σ H s)(u:Un (frs X.stack) ch H H' s.heap h')(hok:HOk X.prog X.w H' h')(hg:AllBare g')
  (hch:∀b∈ch,(b∈X.ex∨X.s₀.heap.objs.size≤b)∧b≠X.env.locals∧(∀x c,X.env.cells.lookup x=some c→c≠b)∧∀p∈X.pn++pins,p.1≠b):
  Inv X pins σ H' {s with heap:=h',gens:=g',drawn:=d',toks:=t'}:=by
 obtain ⟨m,⟨o,es,ep,ho,r⟩,_⟩:=id I.loc
 obtain ⟨sl,hL⟩:=u.any ho I.free fun z=>(hch _ z).2.1 rfl
 exact I.step (ch:=ch) hch (fun b o hL hb hc e n=>u.keep b o e n (fun z=>(List.mem_cons.mp (I.stkSub b z)).elim hL hb) hc) (fun b o _ _ hc e n=>u.any e n hc) (fun b o hc e n=>u.free b o e n hc) (fun b o hc e=>u.there b o e hc) u.tups u.frzs u.tbls (fun m' hm=>by
  obtain ⟨o',es',ep',ho',r'⟩:=hm
  rw [ho] at ho';cases ho'
  exact ⟨_,es',ep',hL,r'⟩) hok hg
theorem Inv.turned {t':Nat}{it:Addr}(I:Inv X pins σ H s)(k:∀b o,b≠it→s.heap.get? b=some o→h'.get? b=some o)(hn:H it=none)(hL:it≠X.env.locals)
  (h1:it∈X.ex∨X.s₀.heap.objs.size≤it) (h2:∀x c,X.env.cells.lookup x=some c→c≠it) (h3:∀p∈X.pn++pins,p.1≠it):Inv X pins σ H {s with heap:=h',toks:=t'}:=by
 have nit:∀b u,H b=some u→b≠it:=fun b u e z=>by rw [z,hn] at e;cases e
 refine I.step (g':=s.gens) (d':=s.drawn) (ch:=[it]) (fun b hb=>?_) (fun b o _ _ hc e _=>k b o (fun z=>hc (by simp [z])) e) (fun b o _ _ hc e _=>⟨o.slots,k b o (fun z=>hc (by simp [z])) e⟩) (fun _ _ _ _ n=>n)
  (fun b o hc e=>⟨o,k b o (fun z=>hc (by simp [z])) e⟩) (fun _ _ e=>e) (fun _ _ _ e=>e) (fun b ps e=>⟨#[],by rw [e];simp⟩) (fun m hm=>?_) (fun b u e=>?_) I.bare
 ·have e:b=it:=by simpa using hb
  subst e
  exact ⟨h1,hL,h2,h3⟩
 ·obtain ⟨o,es,ep,ho,r⟩:=hm
  exact ⟨o,es,ep,k _ o (Ne.symm hL) ho,r⟩
 ·refine (I.hok b u e).stay (fun c v hc q=>k c v ?_ q) (fun _ q=>q) fun _ _ q=>q
  rcases hc with z | z
  ·rw [z];exact nit b u e
  ·exact nit c _ z
theorem Inv.tok (I:Inv X pins σ H s)(t:Nat):Inv X pins σ H {s with toks:=t}:=I.un (h':=s.heap) (t':=t) Un.refl I.hok
theorem Inv.kept {t':Nat}(I:Inv X pins σ H s)(k:∀b u,s.heap.get? b=some u→h'.get? b=some u):Inv X pins σ H {s with heap:=h',toks:=t'}:=I.un (Un.kept k) (I.hok.kept k)
theorem Inv.laid {a:Addr}{o:HO}{t':Nat}(I:Inv X pins σ H s)(k:∀b u,s.heap.get? b=some u→h'.get? b=some u)(hp:s.heap.objs.size≤a)(new:zU X.prog X.w (upd H a o) h' a o):
  Inv X pins σ (upd H a o) {s with heap:=h',toks:=t'}:=I.un (Un.laid k hp (I.hok.fresh hp)) (I.hok.laid k hp new)
theorem Inv.write {x e:Addr}{o:HO}{t':Nat}(I:Inv X pins σ H s)(mu:Mut (H x))(he:e=x∨H e=some (.own x))(k:∀b u,b≠e→s.heap.get? b=some u→h'.get? b=some u)(heo:∃u,h'.get? e=some u)
  (new:zU X.prog X.w (upd H x o) h' x o):Inv X pins σ (upd H x o) {s with heap:=h',toks:=t'}:=I.un (Un.write mu he k heo) (I.hok.write mu he k heo new)
theorem Inv.pins_of {pins':List (Addr ×Obj)}(I:Inv X pins σ H s)(h:∀p∈pins',s.heap.get? p.1=some p.2∧H p.1=none∧p.1≠X.env.locals∧p.1∉X.fs∧∀v,p.2.data≠ .cell v):Inv X pins' σ H s:=
 ⟨I.ok,I.os,I.bare,I.base,I.loc,I.cell,I.free,I.freeC,fun p hp=>(List.mem_append.mp hp).elim (fun z=>I.pin p (List.mem_append_left _ z)) (h p),I.hok,I.len⟩
theorem zef {N:List Str}(hN:N.Nodup){i j:Nat}{x:Str}(a:N[i]? =some x)(b:N[j]? =some x):i=j:=by
 obtain ⟨h1,e1⟩:=List.getElem?_eq_some_iff.mp a
 obtain ⟨h2,e2⟩:=List.getElem?_eq_some_iff.mp b
 exact (List.getElem_inj hN).mp (e1.trans e2.symm)
theorem zh9 {M:Model}{A:Around}{E:Value→Shared→Prop}{i:Nat}{x:Str}{v:V}{u:Value}{Q:Unit→Shared→Prop}(I:Inv X pins σ H s)(hN:X.N.Nodup)(hi:X.N[i]? =some x)(hx:Loc X.env.scope x)(r:RelV v u)
  (h:∀s',Inv X pins (σ.set i (some v)) H s'→(∃a,Heap.SameBut a s.heap s'.heap∧(a=X.env.locals∨X.env.cells.lookup x=some a))→Q () s') (hf:X.fn x=true∨X.env.scope.names.lookup x=some .local:=by first | exact .inl rfl | exact .inr rfl | assumption):wpAny M A (storeName X.env x u) Q E s:=by
 obtain ⟨m,hn,hl⟩:=id I.loc
 have hcls:(X.env.scope.kind==.class || (X.env.scope.kind==.module && X.env.locals !=X.env.globals))=false:=by rw [I.ok.kind];rfl
 have hiσ:i < σ.length:=by rw [I.len];exact (List.getElem?_eq_some_iff.mp hi).1
 have cne:=I.cne
 have tracked:∀{a:Addr} {h':Heap},(∃o,s.heap.get? a=some o∧H a=none)→Heap.SameBut a s.heap h'→HOk X.prog X.w H h':=fun {a h'} ha hs b ob e=>by
  obtain ⟨_,_,hfree⟩:=ha
  refine (I.hok b ob e).stay (fun c w' hc q=>(hs.2 c ?_).trans q) (fun _ q=>q) fun _ _ q=>q
  rintro rfl
  rcases hc with rfl | hc
  ·rw [hfree] at e;cases e
  ·rw [hfree] at hc;cases hc
 rcases hx with hk | hk
 ·refine wpAny_storeName_local hk hn (fun h' hn' hs=>?_) hcls
  obtain ⟨oL,_,_,hoL,_⟩:=id hn
  refine h _ ⟨I.ok,I.os,I.bare,⟨fun b o e n hb hx=>?_,fun b o e n hb hx=>?_,I.base.free,fun b o e hx=>?_,I.base.tups,I.base.frzs,I.base.tbls⟩,⟨_,hn',fun j y v' e1 e2 e3=>?_⟩,fun y c e=>?_,I.free,I.freeC,fun p hp=>?_,tracked ⟨oL,hoL,I.free⟩ hs,by simpa using I.len⟩ ⟨_,hs,.inl rfl⟩
  ·exact (hs.2 b (Nat.ne_of_lt (Nat.lt_of_lt_of_le (Heap.lt_size e) I.ok.above))).trans (I.base.keep b o e n hb hx)
  ·obtain ⟨sl,e1⟩:=I.base.slot b o e n hb hx
   exact ⟨sl,(hs.2 b (Nat.ne_of_lt (Nat.lt_of_lt_of_le (Heap.lt_size e) I.ok.above))).trans e1⟩
  ·obtain ⟨o',e1⟩:=I.base.there b o e hx
   exact ⟨o',(hs.2 b (Nat.ne_of_lt (Nat.lt_of_lt_of_le (Heap.lt_size e) I.ok.above))).trans e1⟩
  ·by_cases hj:j=i
   ·subst hj
    rw [hi] at e1;cases e1
    rw [List.getElem?_set_self hiσ] at e2
    cases e2
    exact ⟨u,r,.inl ⟨hk,by simp⟩⟩
   ·rw [List.getElem?_set_ne (Ne.symm hj)] at e2
    obtain ⟨u',r',q⟩:=hl j y v' e1 e2 e3
    refine ⟨u',r',?_⟩
    rcases q with ⟨k,e⟩ | ⟨k,c,e,z⟩
    ·refine .inl ⟨k,?_⟩
     have:y≠x:=fun e=>hj (zef hN e1 (e ▸ hi))
     simp [this,e]
    ·exact .inr ⟨k,c,e,z.sameBut hs (cne y c e)⟩
  ·obtain ⟨w',z⟩:=I.cell y c e
   exact ⟨w',z.sameBut hs (cne y c e)⟩
  ·obtain ⟨e,n,ne,nf,d⟩:=I.pin p hp
   exact ⟨(hs.2 p.1 ne).trans e,n,ne,nf,d⟩
 ·have hfn:X.fn x=true:=by
   rcases hf with z | z
   ·exact z
   ·rw [z] at hk;cases hk
  obtain ⟨c,hc⟩:=I.ok.has x (.inl hk)
  obtain ⟨w',z⟩:=I.cell x c hc
  refine wpAny_storeName_cell I.ok.kind hk hc z (fun h' hc' hs=>?_)
  obtain ⟨oc,hoc,hocd⟩:=id z
  refine h {s with heap:=h'} ⟨I.ok,I.os,I.bare,⟨fun b o e n hb hx=>?_,fun b o e n hb hx=>?_,I.base.free,fun b o e hx=>?_,I.base.tups,I.base.frzs,I.base.tbls⟩,⟨m,hn.sameBut hs (Ne.symm (cne x c hc)),fun j y v' e1 e2 e3=>?_⟩,fun y c' e=>?_,I.free,I.freeC,fun p hp=>?_,tracked ⟨oc,hoc,I.freeC x c hc⟩ hs,by simpa using I.len⟩ ⟨c,hs,.inr hc⟩
  ·exact (hs.2 b (Nat.ne_of_lt (Nat.lt_of_lt_of_le (Heap.lt_size e) (I.ok.cab x c hfn hc)))).trans (I.base.keep b o e n hb hx)
  ·obtain ⟨sl,e1⟩:=I.base.slot b o e n hb hx
   exact ⟨sl,(hs.2 b (Nat.ne_of_lt (Nat.lt_of_lt_of_le (Heap.lt_size e) (I.ok.cab x c hfn hc)))).trans e1⟩
  ·obtain ⟨o',e1⟩:=I.base.there b o e hx
   exact ⟨o',(hs.2 b (Nat.ne_of_lt (Nat.lt_of_lt_of_le (Heap.lt_size e) (I.ok.cab x c hfn hc)))).trans e1⟩
  ·by_cases hj:j=i
   ·subst hj
    rw [hi] at e1;cases e1
    rw [List.getElem?_set_self hiσ] at e2
    cases e2
    exact ⟨u,r,.inr ⟨.inl hk,c,hc,hc'⟩⟩
   ·rw [List.getElem?_set_ne (Ne.symm hj)] at e2
    obtain ⟨u',r',q⟩:=hl j y v' e1 e2 e3
    refine ⟨u',r',?_⟩
    rcases q with q | ⟨k,c',e,z'⟩
    ·exact .inl q
    ·refine .inr ⟨k,c',e,z'.sameBut hs ?_⟩
     rintro rfl
     exact hj (zef hN e1 (I.ok.inj _ _ _ e hc ▸ hi))
  ·by_cases hcc:c'=c
   ·subst hcc;exact ⟨_,hc'⟩
   ·obtain ⟨w2,z2⟩:=I.cell y c' e
    exact ⟨w2,z2.sameBut hs hcc⟩
  ·obtain ⟨e,n,ne,nf,d⟩:=I.pin p hp
   refine ⟨(hs.2 p.1 ?_).trans e,n,ne,nf,d⟩
   intro q
   rw [q,hoc] at e
   have q':oc=p.2:=Option.some.inj e
   exact d w' (by rw [←q'];exact hocd)
theorem zdO {M:Model}{A:Around}{E:Value→Shared→Prop}{i:Nat}{x:Str}{v:V}{u:Value}{Q:Unit→Shared→Prop}(I:Inv X pins σ H s)(hN:X.N.Nodup)(hi:X.N[i]? =some x)(hx:Loc X.env.scope x)(r:RelV v u)
  (h:∀s',Inv X pins (σ.set i (some v)) H s'→Q () s') (hf:X.fn x=true∨X.env.scope.names.lookup x=some .local:=by first | exact .inl rfl | exact .inr rfl | assumption):wpAny M A (storeName X.env x u) Q E s:=
 zh9 I hN hi hx r (fun s' I' _=>h s' I') hf
theorem Inv.call' {s':Shared}{ch:List Addr}(I:Inv X pins σ H s)(ho:s'.os=s.os)(u:Un (frs X.stack) ch H H' s.heap s'.heap)(hok:HOk X.prog X.w H' s'.heap)(hg:AllBare s'.gens)
  (hch:∀b∈ch,(b∈X.ex∨X.s₀.heap.objs.size≤b)∧b≠X.env.locals∧(∀x c,X.env.cells.lookup x=some c→c≠b)∧∀p∈X.pn++pins,p.1≠b):Inv X pins σ H' s':=by
 obtain ⟨h',g',d',t',o'⟩:=s'
 have e:o'=s.os:=ho
 subst e
 exact I.call (g':=g') (t':=t') (d':=d') u hok hg hch
end
abbrev XK:=Value→Option Addr→Hp→Prop
abbrev St:=List (Option V)
abbrev VK:=V→Hp→Prop
abbrev TE:=St→Hp→VK→Prop
abbrev TT:=St→Hp→(Bool→Hp→Prop)→Prop
abbrev TA:=St→Hp→(List V→Hp→Prop)→Prop
structure Ends where
 nx:St→Hp→Prop
 rt:VK
 bk:St→Hp→Prop:=fun _ _=>False
 ct:St→Hp→Prop:=fun _ _=>False
abbrev TS:=Ends→St→Hp→Prop
def EP (X:Cx)(pins:List (Addr ×Obj))(σ:St)(Q:VK)(u:Value)(s':Shared):Prop:=∃v H',Inv X pins σ H' s'∧RelV v u∧Q v H'
def TP (X:Cx)(pins:List (Addr ×Obj))(σ:St)(Q:Bool→Hp→Prop)(b:Bool)(s':Shared):Prop:=∃H',Inv X pins σ H' s'∧Q b H'
def AP (X:Cx)(pins:List (Addr ×Obj))(σ:St)(Q:List V→Hp→Prop)(us:List Value)(s':Shared):Prop:=∃vs H',Inv X pins σ H' s'∧Vals vs us∧Q vs H'
def SP (X:Cx)(pins:List (Addr ×Obj))(D:Ends)(f:Flow)(s':Shared):Prop:=
 match f with
 | .next=>∃σ' H',Inv X pins σ' H' s'∧D.nx σ' H'
 | .brk=>∃σ' H',Inv X pins σ' H' s'∧D.bk σ' H'
 | .cont=>∃σ' H',Inv X pins σ' H' s'∧D.ct σ' H'
 | .ret u=>∃v σ' H',Inv X pins σ' H' s'∧RelV v u∧D.rt v H'
def PE (X:Cx)(e:Expr)(t:TE):Prop:=
 ∀(pins:List (Addr ×Obj)) (s:Shared) (σ:St) (H:Hp) (Q:VK),Inv X pins σ H s→t σ H Q→wpAny (model X.prog X.w) X.A (eval e X.env) (EP X pins σ Q) X.xe s
def PT (X:Cx)(e:Expr)(t:TT):Prop:=
 ∀(pins:List (Addr ×Obj)) (s:Shared) (σ:St) (H:Hp) (Q:Bool→Hp→Prop),Inv X pins σ H s→t σ H Q→wpAny (model X.prog X.w) X.A (isTrue e X.env (eval e X.env)) (TP X pins σ Q) X.xe s
def PW (X:Cx)(e:Expr)(t:TT):Prop:=
 ∀(whole:Sem Value) (pins:List (Addr ×Obj)) (s:Shared) (σ:St) (H:Hp) (Q:Bool→Hp→Prop),Inv X pins σ H s→t σ H Q→wpAny (model X.prog X.w) X.A (isTrue e X.env whole) (TP X pins σ Q) X.xe s
theorem PW.pt {X:Cx}{e:Expr}{t:TT}(h:PW X e t):PT X e t:=h _
def PA (X:Cx)(es:List Expr)(t:TA):Prop:=
 ∀(pos:Pos) (pins:List (Addr ×Obj)) (s:Shared) (σ:St) (H:Hp) (Q:List V→Hp→Prop),Inv X pins σ H s→t σ H Q→wpAny (model X.prog X.w) X.A (spliced (backTo pos (starEach es X.env))) (AP X pins σ Q) X.xe s
def PS (X:Cx)(st:Stmt)(t:TS):Prop:=
 ∀(pins:List (Addr ×Obj)) (s:Shared) (σ:St) (H:Hp) (D:Ends),Inv X pins σ H s→t D σ H→wpAny (model X.prog X.w) X.A (exec st X.env) (SP X pins D) X.xe s
def PSs (X:Cx)(st:List Stmt)(t:TS):Prop:=
 ∀(pins:List (Addr ×Obj)) (s:Shared) (σ:St) (H:Hp) (D:Ends),Inv X pins σ H s→t D σ H→wpAny (model X.prog X.w) X.A (execs st X.env) (SP X pins D) X.xe s
theorem thn {α:Type}{t:Sem α}{Q Q':α→Shared→Prop}{M:Model}{A:Around}{E:Value→Shared→Prop}{s:Shared}(h:wpAny M A t Q E s)(hQ:∀a s,Q a s→Q' a s):wpAny M A t Q' E s:=wpAny_mono h hQ fun _ _ x=>x
end L2
namespace L2
open PySem PySem.Spec PyProof.Rows
section
variable {X:Cx}
theorem bin {a b:Expr}{ta tb:TE}(ha:PE X a ta)(hb:PE X b tb){pins:List (Addr ×Obj)}{s:Shared}{σ:St}{H:Hp}{R:V→V→Hp→Prop}(I:Inv X pins σ H s)(h:ta σ H fun x H1=>tb σ H1 fun y H2=>R x y H2)
  {α:Type} {Q:α→Shared→Prop} {f:Value→Value→Sem α}
  (hf:∀v u s2 x y H2,Inv X pins σ H2 s2→RelV x v→RelV y u→R x y H2→wpAny (model X.prog X.w) X.A (f v u) Q X.xe s2):
  wpAny (model X.prog X.w) X.A (eval a X.env) (fun v s₁=>wpAny (model X.prog X.w) X.A (eval b X.env) (fun u s₂=>wpAny (model X.prog X.w) X.A (f v u) Q X.xe s₂) X.xe s₁) X.xe s:=by
 refine thn (ha pins s σ H _ I h) fun v s1 ⟨x,H1,I1,r1,q1⟩=>?_
 refine thn (hb pins s1 σ H1 _ I1 q1) fun u s2 ⟨y,H2,I2,r2,q2⟩=>?_
 exact hf v u s2 x y H2 I2 r1 r2 q2
def tVar (i:Nat):TE:=fun σ H Q=>∃v,σ[i]? =some (some v)∧Q v H
def tC (v:V):TE:=fun _ H Q=>Q v H
theorem zla {i:Nat}{x:Str}{pos:Pos}(hN:X.N[i]? =some x)(hv:Vis X.env.scope x)(hd:(x==("__debug__" :Str))=false:=by decide) (hcd:(x==("__classdict__" :Str))=false:=by decide):PE X (.Name x pos) (tVar i):=by
 intro pins s σ H Q I h
 obtain ⟨v,e,h⟩:=h
 obtain ⟨m,hn,hl⟩:=I.loc
 obtain ⟨u,r,l⟩:=hl i x v hN e hv
 have fin:EP X pins σ Q u s:=⟨v,H,I,r,h⟩
 rcases l with ⟨hk,hm⟩ | ⟨hk,c,hc,hcell⟩
 ·exact wpAny_Name (wpAny_loadName_local I.ok.kind hk hn hm fin) hd
 ·rcases hk with hk | hk
  ·exact wpAny_Name (wpAny_loadName_cell I.ok.kind hk hc hcell fin) hd
  ·exact wpAny_Name (wpAny_loadName_free I.ok.kind hk hc hcell fin hcd) hd
theorem zf {i j pos}:PE X (.Constant (.int i) j pos) (tC (.int i)):=fun _ _ _ H _ I h=>wpAny_Constant_int ⟨.int i,H,I.tok _,⟨_,rfl⟩,h⟩
theorem za6 {b j pos}:PE X (.Constant (.bool b) j pos) (tC (.bl b)):=fun _ _ _ H _ I h=>Constant_bool ⟨.bl b,H,I,rfl,h⟩
theorem zaw {j pos}:PE X (.Constant .none j pos) (tC .non):=fun _ _ _ H _ I h=>Constant_none ⟨.non,H,I,rfl,h⟩
theorem zcz {x j pos}:PE X (.Constant (.str x) j pos) (tC (.str x)):=fun _ _ _ H _ I h=>Calls.Constant_str ⟨.str x,H,I.tok _,⟨_,rfl⟩,h⟩
def Gl (X:Cx)(x:Str):Prop:=X.env.kindOf x=some .globalImplicit
theorem zci {E:Value→Shared→Prop}{pins:List (Addr ×Obj)}{s:Shared}{σ:St}{H:Hp}{x:Str}{u:Value}{pos:Pos}{Q:Value→Shared→Prop}(I:Inv X pins σ H s)(hg:Gl X x)(hm:X.mg x=some u)(h:Q u s)
  (hd:(x==("__debug__" :Str))=false:=by decide):wpAny (model X.prog X.w) X.A (eval (.Name x pos) X.env) Q E s:=
 Calls.Name_function_global I.ok.kind hg (Calls.loadGlobal_global (by rw [I.ok.glob];exact I.mod.glob.keeps I.bk) hm h) hd
theorem zbW {E:Value→Shared→Prop}{pins:List (Addr ×Obj)}{s:Shared}{σ:St}{H:Hp}{x:Str}{u:Value}{pos:Pos}{Q:Value→Shared→Prop}(I:Inv X pins σ H s)(hg:Gl X x)(hm:X.mg x=none)(hv:bootBuiltins x=some u)(h:Q u s)
  (hn:x≠ "__name__" :=by decide) (hd:(x==("__debug__" :Str))=false:=by decide):wpAny (model X.prog X.w) X.A (eval (.Name x pos) X.env) Q E s:=by
 obtain ⟨mb,h1,h2⟩:=I.mod.blt
 exact Calls.Name_function_global I.ok.kind hg (Calls.loadGlobal_builtin (by rw [I.ok.glob];exact I.mod.glob.keeps I.bk) hm (by rw [I.ok.blt];exact h1.keeps I.bk) ((h2 x hn).trans hv) h) hd
theorem zw {x:Str}{v:V}{u:Value}{pos:Pos}(hg:Gl X x)(hm:X.mg x=some u)(r:RelV v u)(hd:(x==("__debug__" :Str))=false:=by decide):PE X (.Name x pos) (tC v):=
 fun _ _ _ H _ I h=>zci I hg hm ⟨v,H,I,r,h⟩ hd
theorem zat {x:Str}{v:V}{u:Value}{pos:Pos}(hg:Gl X x)(hm:X.mg x=none)(hv:bootBuiltins x=some u)(r:RelV v u)(hn:x≠ "__name__" :=by decide) (hd:(x==("__debug__" :Str))=false:=by decide):PE X (.Name x pos) (tC v):=
 fun _ _ _ H _ I h=>zbW I hg hm hv ⟨v,H,I,r,h⟩ hn hd
def t2I (ta tb:TE)(k:Int→Int→Hp→Prop):St→Hp→Prop:=fun σ H=>ta σ H fun x H1=>tb σ H1 fun y H2=>∃i j,x=.int i∧y=.int j∧k i j H2
def tAdd (ta tb:TE):TE:=fun σ H Q=>t2I ta tb (fun i j H2=>Q (.int (i+j)) H2) σ H
def tSub (ta tb:TE):TE:=fun σ H Q=>t2I ta tb (fun i j H2=>Q (.int (i - j)) H2) σ H
def tMul (ta tb:TE):TE:=fun σ H Q=>t2I ta tb (fun i j H2=>(-(2 ^ 64) < i∧i < 2 ^ 64)∧Q (.int (i * j)) H2) σ H
variable {a b:Expr}{ta tb:TE}{pos:Pos}
def PC (X:Cx)(op:CmpOp)(a b:Expr)(t:TE):Prop:=
 ∀(pins:List (Addr ×Obj)) (s:Shared) (σ:St) (H:Hp) (Q:VK),Inv X pins σ H s→t σ H Q→
  wpAny (model X.prog X.w) X.A (eval a X.env) (fun v s₁=>wpAny (model X.prog X.w) X.A (eval b X.env) (fun u s₂=>wpAny (model X.prog X.w) X.A (compareOp op v u) (EP X pins σ Q) X.xe s₂) X.xe s₁) X.xe s
theorem ziM (b:Expr){op:CmpOp}(h:op≠ .In)(h2:op≠ .NotIn):behindInMarks op b=false:=by
 have e1:(op==CmpOp.In)=false:=by cases op <;> first | rfl | exact absurd rfl h
 have e2:(op==CmpOp.NotIn)=false:=by cases op <;> first | rfl | exact absurd rfl h2
 cases b <;> simp [behindInMarks,e1,e2]
def tCmp (p:Int→Int→Bool)(ta tb:TE):TE:=fun σ H Q=>t2I ta tb (fun i j H2=>Q (.bl (p i j)) H2) σ H
abbrev tLt:TE→TE→TE:=tCmp fun i j=>decide (i < j)
abbrev tLe:TE→TE→TE:=tCmp fun i j=>decide (i≤j)
abbrev tGt:TE→TE→TE:=tCmp fun i j=>decide (j < i)
abbrev tGe:TE→TE→TE:=tCmp fun i j=>decide (j≤i)
abbrev tEqI:TE→TE→TE:=tCmp fun i j=>decide (i=j)
abbrev tNeI:TE→TE→TE:=tCmp fun i j=>!decide (i=j)
def tIsN (ta:TE):TE:=fun σ H Q=>ta σ H fun x H1=>Q (.bl (decide (x=.non))) H1
def zm9 (ta:TE):TE:=fun σ H Q=>ta σ H fun x H1=>Q (.bl (!decide (x=.non))) H1
def tB (t:TE):TT:=fun σ H Q=>t σ H fun x H1=>∃c,x=.bl c∧Q c H1
theorem zf8 {op:CmpOp}{t:TE}(h:PC X op a b t)(h1:behindInMarks op b=false:=by first | exact ziM _ (by decide) (by decide) | rfl):PT X (.Compare a [op] [b] pos) (tB t):=by
 intro pins s σ H Q I hw
 refine wpAny_isTrue_Compare1 (thn (h pins s σ H _ I hw) fun v s1 h1=>thn h1 fun u s2 h2=>thn h2 fun c s3 ⟨x,H1,I1,r1,q1⟩=>?_) h1
 obtain ⟨d,rfl,q⟩:=q1
 cases r1
 exact wpAny_truthy_bool ⟨H1,I1,q⟩
theorem z6 {e:Expr}{t:TE}(h:PE X e t)(he:∀whole,isTrue e X.env whole=(do let v←whole;standAt e.pos;holding [v] (truthy v)):=by intro _;rfl):PT X e (tB t):=by
 intro pins s σ H Q I hw
 refine isTrue_plain (thn (h pins s σ H _ I hw) fun v s1 ⟨x,H1,I1,r1,q1⟩=>?_) (he _)
 obtain ⟨d,rfl,q⟩:=q1
 cases r1
 exact wpAny_truthy_bool ⟨H1,I1,q⟩
variable {tA tB':TT}{rest:List Expr}
def tAnd (t u:TT):TT:=fun σ H Q=>t σ H fun c H1=>if c=true then u σ H1 Q else Q false H1
def tOr (t u:TT):TT:=fun σ H Q=>t σ H fun c H1=>if c=true then Q true H1 else u σ H1 Q
def tNot (t:TT):TT:=fun σ H Q=>t σ H fun c H1=>Q (!c) H1
theorem zeU (ha:PT X a tA):PW X (.BoolOp .And [a] pos) tA:=by
 intro wh pins s σ H Q I h
 refine isTrue_and (thn (ha pins s σ H Q I h) fun c s1 e=>?_)
 cases c with
 | true=>exact isTrue_and_nil e
 | false=>exact e
theorem zb1 (ha:PT X a tA):PW X (.BoolOp .Or [a] pos) tA:=by
 intro wh pins s σ H Q I h
 refine isTrue_or (thn (ha pins s σ H Q I h) fun c s1 e=>?_)
 cases c with
 | false=>exact isTrue_or_nil e
 | true=>exact e
theorem zf3 (ha:PT X a tA)(hb:PW X (.BoolOp .And (b::rest) pos) tB'):PW X (.BoolOp .And (a::b::rest) pos) (tAnd tA tB'):=by
 intro wh pins s σ H Q I h
 refine isTrue_and (thn (ha pins s σ H _ I h) fun c s1 ⟨H1,I1,q1⟩=>?_)
 cases c with
 | true=>exact hb wh pins s1 σ H1 Q I1 q1
 | false=>exact ⟨H1,I1,q1⟩
theorem zcN (ha:PT X a tA)(hb:PW X (.BoolOp .Or (b::rest) pos) tB'):PW X (.BoolOp .Or (a::b::rest) pos) (tOr tA tB'):=by
 intro wh pins s σ H Q I h
 refine isTrue_or (thn (ha pins s σ H _ I h) fun c s1 ⟨H1,I1,q1⟩=>?_)
 cases c with
 | true=>exact ⟨H1,I1,q1⟩
 | false=>exact hb wh pins s1 σ H1 Q I1 q1
theorem zbF (ha:PT X a tA):PT X (.UnaryOp .Not a pos) (tNot tA):=by
 intro pins s σ H Q I h
 exact isTrue_not (ha pins s σ H (fun c H1=>Q (!c) H1) I h)
def zmp (ta tb:TE):TE:=fun σ H Q=>ta σ H fun x H1=>∃c,x=.bl c∧if c=true then tb σ H1 Q else Q (.bl false) H1
def tOrV (ta tb:TE):TE:=fun σ H Q=>ta σ H fun x H1=>∃c,x=.bl c∧if c=true then Q (.bl true) H1 else tb σ H1 Q
def zmx (ta:TE):TE:=fun σ H Q=>ta σ H fun x H1=>∃c,x=.bl c∧Q (.bl (!c)) H1
theorem zcr {op}{t:TE}(h:PE X a t):PE X (.BoolOp op [a] pos) t:=fun pins s σ H Q I hw=>BoolOp_one (h pins s σ H Q I hw)
theorem zbZ (ha:PE X a ta)(hb:PE X (.BoolOp .And (b::rest) pos) tb):PE X (.BoolOp .And (a::b::rest) pos) (zmp ta tb):=by
 intro pins s σ H Q I h
 refine BoolOp_and (thn (ha pins s σ H _ I h) fun v s1 ⟨x,H1,I1,r1,q1⟩=>?_)
 obtain ⟨c,rfl,q1⟩:=q1
 cases r1
 refine wpAny_truthy_bool ?_
 cases c with
 | true=>exact hb pins s1 σ H1 Q I1 q1
 | false=>exact ⟨.bl false,H1,I1,rfl,q1⟩
theorem zlV (ha:PE X a ta):PE X (.UnaryOp .Not a pos) (zmx ta):=by
 intro pins s σ H Q I h
 refine UnaryOp_ (thn (ha pins s σ H _ I h) fun v s1 ⟨x,H1,I1,r1,q1⟩=>?_)
 obtain ⟨c,rfl,q1⟩:=q1
 cases r1
 exact not_of (wpAny_truthy_bool ⟨.bl (!c),H1,I1,rfl,q1⟩)
def tIf (t:TT)(ta tb:TE):TE:=fun σ H Q=>t σ H fun c H1=>if c=true then ta σ H1 Q else tb σ H1 Q
theorem zcP {c:Expr}(hc:PT X c tA)(ha:PE X a ta)(hb:PE X b tb):PE X (.IfExp c a b pos) (tIf tA ta tb):=by
 intro pins s σ H Q I h
 refine wpAny_IfExp (thn (hc pins s σ H _ I h) fun d s1 ⟨H1,I1,q1⟩=>?_)
 cases d with
 | true=>exact ha pins s1 σ H1 Q I1 q1
 | false=>exact hb pins s1 σ H1 Q I1 q1
end
end L2
namespace L2
open PySem PySem.Spec PyProof.Rows
def SqL (K:PySem.W.Frag)(H:Hp)(a:Addr)(xs:List V):Prop:=
 Rd H a (.lst xs)∨
  ∃(o:Obj) (its:Array Value) (n:Nat),K.lookup a=some o∧o.cls=.type "list" ∧o.dict=none∧o.data=.seq its n∧its.size≤sizeLine∧Vals xs its.toList
def SqT (K:PySem.W.Frag)(H:Hp)(a:Addr)(xs:List V):Prop:=
 Rd H a (.tup xs)∨
  ∃(o:Obj) (its:Array Value) (n:Nat),K.lookup a=some o∧o.cls=.type "tuple" ∧o.data=.seq its n∧its.size≤sizeLine∧Vals xs its.toList
def absV:Value→Option V
 | .none=>some .non
 | .bool b=>some (.bl b)
 | .int i _=>some (.int i)
 | .str x _=>some (.str x)
 | .bytes b _=>some (.byt b)
 | .float b _=>some (.flt b)
 | .ref a=>some (.ref a)
 | .type n=>some (.ty n)
 | _=>none
theorem RelV.abs {x:V}{u:Value}(r:RelV x u):absV u=some x:=by
 cases x with
 | non=>cases r;rfl
 | bl _=>cases r;rfl
 | int _=>obtain ⟨t,rfl⟩:=r;rfl
 | str _=>obtain ⟨t,rfl⟩:=r;rfl
 | byt _=>obtain ⟨t,rfl⟩:=r;rfl
 | flt _=>obtain ⟨t,rfl⟩:=r;rfl
 | ref _=>cases r;rfl
 | ty _=>cases r;rfl
theorem RelV.inj {x y:V}{u:Value}(r:RelV x u)(q:RelV y u):x=y:=Option.some.inj (r.abs.symm.trans q.abs)
theorem Vals.inj:∀{xs ys:List V} {us:List Value},Vals xs us→Vals ys us→xs=ys
 | _,_,_,.nil,.nil=>rfl
 | _,_,_,.cons r t,.cons r' t'=>by rw [r.inj r',Vals.inj t t']
section
variable {X:Cx}{pins:List (Addr ×Obj)}{σ:St}{H:Hp}{s:Shared}{a:Addr}{xs ys:List V}
theorem SqL.of {K:PySem.W.Frag}(h:H a=some (.lst xs)):SqL K H a xs:=.inl (.inl h)
theorem SqT.of {K:PySem.W.Frag}(h:H a=some (.tup xs)):SqT K H a xs:=.inl (.inl h)
theorem Inv.list (I:Inv X pins σ H s)(h:SqL X.K H a xs):∃its:List Value,Vals xs its∧PlainL s.heap a its.toArray∧xs.length≤sizeLine:=by
 rcases h with h | ⟨o,its,n,hk,hc,hd,hs,hz,r⟩
 ·obtain ⟨z,its,n,r,e⟩:=h.ok I.hok
  exact ⟨its,r,⟨_,n,e,rfl,rfl,rfl⟩,z⟩
 ·refine ⟨its.toList,r,⟨o,n,I.kIn a o hk,hc,hd,by simpa using hs⟩,?_⟩
  have e:=r.length
  simp only [Array.length_toList] at e
  omega
theorem Inv.tuple (I:Inv X pins σ H s)(h:SqT X.K H a xs):∃its:List Value,Vals xs its∧IsTup s.heap a its.toArray∧xs.length≤sizeLine:=by
 rcases h with h | ⟨o,its,n,hk,hc,hs,hz,r⟩
 ·obtain ⟨z,its,r,p⟩:=h.ok I.hok
  exact ⟨its,r,p,z⟩
 ·refine ⟨its.toList,r,⟨o,I.kIn a o hk,hc,n,by simpa using hs⟩,?_⟩
  have e:=r.length
  simp only [Array.length_toList] at e
  omega
theorem Inv.list_inj (I:Inv X pins σ H s)(h:SqL X.K H a xs)(h':SqL X.K H a ys):xs=ys:=by
 obtain ⟨its,r,⟨o,n,e,_,_,d⟩,_⟩:=I.list h
 obtain ⟨its',r',⟨o',n',e',_,_,d'⟩,_⟩:=I.list h'
 rw [e] at e';cases e'
 rw [d] at d'
 injection d' with d1 _
 have:its=its':=by simpa using congrArg Array.toList d1
 subst this
 exact r.inj r'
theorem Inv.tuple_inj (I:Inv X pins σ H s)(h:SqT X.K H a xs)(h':SqT X.K H a ys):xs=ys:=by
 obtain ⟨its,r,⟨o,e,_,n,d⟩,_⟩:=I.tuple h
 obtain ⟨its',r',⟨o',e',_,n',d'⟩,_⟩:=I.tuple h'
 rw [e] at e';cases e'
 rw [d] at d'
 injection d' with d1 _
 have:its=its':=by simpa using congrArg Array.toList d1
 subst this
 exact r.inj r'
end
abbrev Cx.wish (X:Cx)(E:Value→Shared→Prop):Cx:={X with xe:=E}
abbrev Cx.nox (X:Cx):Cx:=X.wish fun _ _=>False
theorem Cx.Ok.wish {X:Cx}(ok:X.Ok)(E:Value→Shared→Prop):(X.wish E).Ok:=
 ⟨ok.mod,ok.kind,ok.glob,ok.blt,ok.above,ok.inj,ok.has,ok.cab,ok.hd,ok.frames,ok.stk,ok.exf,ok.bs,ok.bsz,ok.noex,ok.exfs,ok.funs,ok.frf⟩
theorem Cx.Ok.unwish {X:Cx}{E:Value→Shared→Prop}(ok:(X.wish E).Ok):X.Ok:=
 ⟨ok.mod,ok.kind,ok.glob,ok.blt,ok.above,ok.inj,ok.has,ok.cab,ok.hd,ok.frames,ok.stk,ok.exf,ok.bs,ok.bsz,ok.noex,ok.exfs,ok.funs,ok.frf⟩
section
variable {X:Cx}{pins:List (Addr ×Obj)}{σ:St}{H:Hp}{s:Shared}{E:Value→Shared→Prop}
theorem Inv.wish (I:Inv X pins σ H s)(E:Value→Shared→Prop):Inv (X.wish E) pins σ H s:=⟨I.ok.wish E,I.os,I.bare,I.base,I.loc,I.cell,I.free,I.freeC,I.pin,I.hok,I.len⟩
theorem Inv.unwish (I:Inv (X.wish E) pins σ H s):Inv X pins σ H s:=⟨I.ok.unwish,I.os,I.bare,I.base,I.loc,I.cell,I.free,I.freeC,I.pin,I.hok,I.len⟩
theorem SP.unwish {D:Ends}{f:Flow}{s':Shared}(h:SP (X.wish E) pins D f s'):SP X pins D f s':=by
 cases f with
 | next=>obtain ⟨σ',H',I,q⟩:=h;exact ⟨σ',H',I.unwish,q⟩
 | brk=>obtain ⟨σ',H',I,q⟩:=h;exact ⟨σ',H',I.unwish,q⟩
 | cont=>obtain ⟨σ',H',I,q⟩:=h;exact ⟨σ',H',I.unwish,q⟩
 | ret u=>obtain ⟨v,σ',H',I,r,q⟩:=h;exact ⟨v,σ',H',I.unwish,r,q⟩
theorem PE.nox {e:Expr}{t:TE}(h:PE X.nox e t):PE X e t:=fun pins s σ H Q I hw=>
 wpAny_mono (h pins s σ H Q (I.wish _) hw) (fun _ _ ⟨v,H',I',r,q⟩=>⟨v,H',I'.unwish,r,q⟩) fun _ _ z=>False.elim z
theorem PT.nox {e:Expr}{t:TT}(h:PT X.nox e t):PT X e t:=fun pins s σ H Q I hw=>
 wpAny_mono (h pins s σ H Q (I.wish _) hw) (fun _ _ ⟨H',I',q⟩=>⟨H',I'.unwish,q⟩) fun _ _ z=>False.elim z
theorem PSs.nox {st:List Stmt}{t:TS}(h:PSs X.nox st t):PSs X st t:=fun pins s σ H D I hw=>
 wpAny_mono (h pins s σ H D (I.wish _) hw) (fun _ _ q=>q.unwish) fun _ _ z=>False.elim z
end
section
variable {X:Cx}{st:Stmt}{rest:List Stmt}{t u:TS}{e:Expr}{te:TE}{pos:Pos}
def zmd:TS:=fun D σ H=>D.nx σ H
def tSeq (t u:TS):TS:=fun D σ H=>t {D with nx:=u D} σ H
theorem zC:PSs X [] zmd:=fun _ _ σ H _ I h=>wpAny_execs_nil ⟨σ,H,I,h⟩
theorem zb (h1:PS X st t)(h2:PSs X rest u):PSs X (st::rest) (tSeq t u):=by
 intro pins s σ H D I h
 refine wpAny_execs_cons (thn (h1 pins s σ H {D with nx:=u D} I h) fun f s1 q=>?_)
 cases f with
 | next=>
  obtain ⟨σ',H',I',q⟩:=q
  exact h2 pins s1 σ' H' D I' q
 | ret v=>exact q
 | brk=>exact q
 | cont=>exact q
theorem zg (h1:PS X st t):PSs X [st] t:=by
 intro pins s σ H D I h
 refine wpAny_execs_cons (thn (h1 pins s σ H D I h) fun f s1 q=>?_)
 cases f with
 | next=>exact wpAny_execs_nil q
 | ret v=>exact q
 | brk=>exact q
 | cont=>exact q
def zmX:TS:=fun D σ H=>D.bk σ H
def zna:TS:=fun D σ H=>D.ct σ H
theorem Inv.quiet {pins:List (Addr ×Obj)}{σ:St}{H:Hp}{s:Shared}(I:Inv X pins σ H s):interactive X.env=false:=by simp [interactive,I.ok.kind]
def zl7 (te:TE):TS:=fun D σ H=>te σ H fun _ H1=>D.nx σ H1
theorem zbi (he:PE X e te)(hs:swapsWith e none pos.line X.env=pure false:=by rfl):PS X (.Expr e pos) (zl7 te):=by
 intro pins s σ H D I h
 exact wpAny_Expr_any (thn (he pins s σ H _ I h) fun v s1 ⟨x,H1,I1,r1,q1⟩=>⟨σ,H1,I1,q1⟩) I.quiet hs
def tRet (te:TE):TS:=fun D σ H=>te σ H D.rt
theorem zq (he:PE X e te):PS X (.Return (some e) pos) (tRet te):=by
 intro pins s σ H D I h
 exact wpAny_Return_some (thn (he pins s σ H _ I h) fun v s1 ⟨x,H1,I1,r1,q1⟩=>⟨x,σ,H1,I1,r1,q1⟩)
def zm4:TS:=fun D _ H=>D.rt .non H
def tIfS (c:TT)(t u:TS):TS:=fun D σ H=>c σ H fun b H1=>if b=true then t D σ H1 else u D σ H1
theorem zP {c:Expr}{a b:List Stmt}{tc:TT}(hc:PT X c tc)(ha:PSs X a t)(hb:PSs X b u):PS X (.If c a b pos) (tIfS tc t u):=by
 intro pins s σ H D I h
 refine wpAny_If (thn (hc pins s σ H _ I h) fun d s1 ⟨H1,I1,q1⟩=>?_)
 cases d with
 | true=>exact ha pins s1 σ H1 D I1 q1
 | false=>exact hb pins s1 σ H1 D I1 q1
def zk9:TS:=fun _ _ _=>False
theorem zfO:PS X st zk9:=fun _ _ _ _ _ _ h=>h.elim
end
abbrev TG:=V→St→Hp→(St→Hp→Prop)→Prop
abbrev TGs:=List V→St→Hp→(St→Hp→Prop)→Prop
def PG (X:Cx)(target:Expr)(t:TG):Prop:=
 ∀(pins:List (Addr ×Obj)) (s:Shared) (σ:St) (H:Hp) (v:V) (u:Value) (Q:St→Hp→Prop),Inv X pins σ H s→RelV v u→t v σ H Q→
  wpAny (model X.prog X.w) X.A (assign target X.env u) (fun _ s'=>∃σ' H',Inv X pins σ' H' s'∧Q σ' H') X.xe s
def PGs (X:Cx)(ts:List Expr)(t:TGs):Prop:=
 ∀(pins:List (Addr ×Obj)) (s:Shared) (σ:St) (H:Hp) (vs:List V) (us:List Value) (Q:St→Hp→Prop),Inv X pins σ H s→Vals vs us→t vs σ H Q→
  wpAny (model X.prog X.w) X.A (assignInOrder ((assignEach ts X.env).map (·.2)) us) (fun _ s'=>∃σ' H',Inv X pins σ' H' s'∧Q σ' H') X.xe s
abbrev TSet:=V→V→V→Hp→(Hp→Prop)→Prop
def PSet (X:Cx)(t:TSet):Prop:=
 ∀(pins:List (Addr ×Obj)) (s:Shared) (σ:St) (H:Hp) (o i v:V) (ov iv u:Value) (Q:Hp→Prop),Inv X pins σ H s→RelV o ov→RelV i iv→RelV v u→t o i v H Q→
  wpAny (model X.prog X.w) X.A (setItem ov iv u) (fun _ s'=>∃H',Inv X pins σ H' s'∧Q H') X.xe s
abbrev TIp:=V→V→Hp→VK→Prop
def PIp (X:Cx)(op:Operator)(t:TIp):Prop:=
 ∀(pins:List (Addr ×Obj)) (s:Shared) (σ:St) (H:Hp) (x y:V) (v u:Value) (Q:VK),Inv X pins σ H s→RelV x v→RelV y u→t x y H Q→
  wpAny (model X.prog X.w) X.A (inplaceOp op v u) (EP X pins σ Q) X.xe s
section
variable {X:Cx}{pos:Pos}
def zbS (i:Nat):TG:=fun v σ H Q=>Q (σ.set i (some v)) H
theorem zN {i:Nat}{x:Str}(hN:X.N.Nodup)(hi:X.N[i]? =some x)(hx:Loc X.env.scope x)(hf:X.fn x=true∨X.env.scope.names.lookup x=some .local:=by first | exact .inl rfl | exact .inr rfl | assumption):PG X (.Name x pos) (zbS i):=by
 intro pins s σ H v u Q I r h
 exact wpAny_assign_Name (zdO I hN hi hx r (fun s' I'=>⟨_,H,I',h⟩) hf)
def gNil:TGs:=fun vs σ H Q=>vs=[]∧Q σ H
def zjw (t:TG)(u:TGs):TGs:=fun vs σ H Q=>∃v r,vs=v::r∧t v σ H fun σ' H'=>u r σ' H' Q
theorem zbf:PGs X [] gNil:=by
 intro pins s σ H vs us Q I r h
 obtain ⟨e,h⟩:=h
 subst e
 cases r
 exact assignInOrder_nil ⟨σ,H,I,h⟩
theorem z7 {e:Expr}{es:List Expr}{t:TG}{u:TGs}(h1:PG X e t)(h2:PGs X es u)
  (hs:(assignEach (e::es) X.env).map (·.2)=assign e X.env::(assignEach es X.env).map (·.2):=by rfl):PGs X (e::es) (zjw t u):=by
 intro pins s σ H vs us Q I r h
 obtain ⟨v,vr,e1,h⟩:=h
 subst e1
 cases r with
 | cons r rr=>
  rw [hs]
  refine assignInOrder_cons (thn (h1 pins s σ H _ _ _ I r h) fun _ s1 ⟨σ1,H1,I1,q1⟩=>?_)
  exact h2 pins s1 σ1 H1 _ _ Q I1 rr q1
def gTup (K:PySem.W.Frag)(n:Nat)(t:TGs):TG:=fun v σ H Q=>∃a xs,v=.ref a∧SqT K H a xs∧xs.length=n∧t xs σ H Q
theorem zca {es:List Expr}{k:Nat}{t:TGs}{n:Nat}(hc:X.calm=true)(h:PGs X es t)
  (hn:(assignEach es X.env).length=n:=by rfl) (hst:(assignEach es X.env).findIdx? (·.1)=none:=by rfl):PG X (.Tuple es k pos) (gTup X.K n t):=by
 intro pins s σ H v u Q I r hw
 obtain ⟨a,xs,e1,hq,hl,hw⟩:=hw
 subst e1
 cases r
 obtain ⟨its,rv,ht,hz⟩:=I.tuple hq
 refine assign_Tuple_tuple (I.ok.hd hc) ht (by simp [hn,←hl,rv.length]) hst fun h' hx=>?_
 have I1:Inv X pins σ H {s with heap:=h'}:=I.kept (t':=s.toks) fun b o e=>hx b o (Nat.ne_of_lt (Heap.lt_size e)) e
 exact h pins _ σ H xs _ Q I1 (by simpa using rv) hw
def gSub (to ti:TE)(t:TSet):TG:=fun v σ H Q=>to σ H fun o H1=>ti σ H1 fun i H2=>t o i v H2 fun H3=>Q σ H3
def tAsg (te:TE)(g:TG):TS:=fun D σ H=>te σ H fun x H1=>g x σ H1 D.nx
theorem zlq {tg e:Expr}{te:TE}{g:TG}(he:PE X e te)(hg:PG X tg g)(hs:swapsWithSole [tg] e pos.line X.env=pure false:=by rfl)(hw:swappedStores [tg] e X.env=pure none:=by rfl)
  (h1:(assignEach [tg] X.env).map (·.2)=[assign tg X.env]:=by rfl):PS X (.Assign [tg] e pos) (tAsg te g):=by
 intro pins s σ H D I h
 refine wpAny_Assign_stores (thn (he pins s σ H _ I h) fun v s1 ⟨x,H1,I1,r1,q1⟩=>?_) hs hw
 rw [h1]
 exact thn (hg pins s1 σ H1 x v _ I1 r1 q1) fun _ s2 q=>q
theorem zm {i:Nat}{x:Str}{e:Expr}{te:TE}{pos':Pos}(hN:X.N.Nodup)(hi:X.N[i]? =some x)(hx:Loc X.env.scope x)(he:PE X e te)(hs:swapsWith e (some (.Name x pos')) pos.line X.env=pure false:=by rfl)(hf:X.fn x=true∨X.env.scope.names.lookup x=some .local:=by first | exact .inl rfl | exact .inr rfl | assumption):
  PS X (.Assign [.Name x pos'] e pos) (tAsg te (zbS i)):=by
 intro pins s σ H D I h
 refine wpAny_Assign_Name (thn (he pins s σ H _ I h) fun v s1 ⟨y,H1,I1,r1,q1⟩=>?_) hs
 exact zdO I1 hN hi hx r1 (fun s2 I2=>⟨_,H1,I2,q1⟩) hf
def tPar (i j:Nat)(ta:TA):TS:=fun D σ H=>ta σ H fun vs H1=>∃v w,vs=[v,w]∧D.nx ((σ.set i (some v)).set j (some w)) H1
def tAug (i:Nat)(te:TE)(ti:TIp):TS:=fun D σ H=>∃x,σ[i]? =some (some x)∧te σ H fun y H1=>ti x y H1 fun z H2=>D.nx (σ.set i (some z)) H2
def znb (to ti te:TE)(tget:V→V→Hp→VK→Prop)(tip:TIp)(tset:TSet):TS:=fun D σ H=>to σ H fun o H1=>ti σ H1 fun i H2=>tget o i H2 fun x H3=>te σ H3 fun y H4=>tip x y H4 fun z H5=>tset o i z H5 fun H6=>D.nx σ H6
def PGet (X:Cx)(t:V→V→Hp→VK→Prop):Prop:=
 ∀(pins:List (Addr ×Obj)) (s:Shared) (σ:St) (H:Hp) (o i:V) (ov iv:Value) (Q:VK),Inv X pins σ H s→RelV o ov→RelV i iv→t o i H Q→
  wpAny (model X.prog X.w) X.A (getItem ov iv) (EP X pins σ Q) X.xe s
def ipI (f:Int→Int→Int):TIp:=fun x y H Q=>∃i j,x=.int i∧y=.int j∧Q (.int (f i j)) H
end
section
variable {X:Cx}{pos:Pos}
def zlY (c:TT)(tb:TS):TS:=fun D σ H=>∃W:Nat→St→Hp→Prop,(∃m,W m σ H)∧∀m σ H,W m σ H→
 c σ H fun b H1=>if b=true then∃N:St→Hp→Prop,(∀σ' H',N σ' H'→∃m',m' < m∧W m' σ' H')∧tb {D with nx:=N,ct:=N,bk:=D.nx} σ H1 else D.nx σ H1
theorem zfI {c:Expr}{body:List Stmt}{tc:TT}{tb:TS}(hp:PassesOwn (model X.prog X.w) X.A X.env X.xe)(hc:PT X c tc)(hb:PSs X body tb):PS X (.While c body [] pos) (zlY tc tb):=by
 intro pins s σ H D I h
 obtain ⟨W,⟨m0,w0⟩,turn⟩:=h
 refine wpAny_While (codeAny_whileLoop (fun n s'=>∃σ' H',Inv X pins σ' H' s'∧W n σ' H') ?_ m0 ⟨σ,H,I,w0⟩)
 rintro n s1 ⟨σ1,H1,I1,w1⟩
 refine wpAny_passesOwn hp (thn (hc pins s1 σ1 H1 _ I1 (turn n σ1 H1 w1)) fun b s2 ⟨H2,I2,q2⟩=>?_)
 cases b with
 | true=>
  obtain ⟨N,hN,q2⟩:=q2
  rw [if_pos rfl]
  refine wpAny_passesOwn hp (thn (hb pins s2 σ1 H2 _ I2 q2) fun f s3 q3=>?_)
  cases f with
  | next=>
   obtain ⟨σ3,H3,I3,n3⟩:=q3
   obtain ⟨m',hm,w3⟩:=hN σ3 H3 n3
   exact ⟨m',hm,σ3,H3,I3,w3⟩
  | cont=>
   obtain ⟨σ3,H3,I3,n3⟩:=q3
   obtain ⟨m',hm,w3⟩:=hN σ3 H3 n3
   exact ⟨m',hm,σ3,H3,I3,w3⟩
  | brk=>exact q3
  | ret v=>exact q3
 | false=>
  rw [if_neg Bool.false_ne_true]
  exact wpAny_execs_nil ⟨σ1,H2,I2,q2⟩
end
structure It where
 go:Nat→Hp→Prop
 yld:Nat→Hp→V→Hp→Prop
 stop:Nat→Hp→Prop
def FpOk (X:Cx)(pins:List (Addr ×Obj))(H:Hp)(b:Addr):Prop:=
 H b=none∧b≠X.env.locals∧b∉X.fs∧(b∈X.ex∨X.s₀.heap.objs.size≤b)∧(∀x c,X.env.cells.lookup x=some c→c≠b)∧∀p∈X.pn++pins,p.1≠b
theorem Inv.fpOk {X:Cx}{pins:List (Addr ×Obj)}{σ:St}{H H':Hp}{s:Shared}{b:Addr}(I:Inv X pins σ H s)(hb:s.heap.objs.size≤b)(hn:H' b=none):FpOk X pins H' b:=by
 refine ⟨hn,Nat.ne_of_gt (Nat.lt_of_lt_of_le I.lt hb),I.nofs hb,.inr (Nat.le_trans I.sz hb),fun x c e z=>?_,fun p hp z=>?_⟩
 ·obtain ⟨v,q⟩:=I.cell x c e
  exact absurd (Nat.lt_of_lt_of_le q.lt (by rw [z];exact hb)) (Nat.lt_irrefl _)
 ·exact absurd (Nat.lt_of_lt_of_le (Heap.lt_size (I.pin p hp).1) (by rw [z];exact hb)) (Nat.lt_irrefl _)
structure Turn (P:Program)(w:World)(K:PySem.W.Frag)(tg:Expr)(J:It)(fp:List Addr)(it:Addr)(tn:Nat→Heap→Prop):Prop where
 mem:it∈fp
 obj:∀i h,tn i h→∀b∈fp,∃o,h.get? b=some o∧∀v,o.data≠ .cell v
 keep:∀i h h',tn i h→(∀b∈fp,∀o,h.get? b=some o→h'.get? b=some o)→tn i h'
 item:∀(X:Cx),X.prog=P→X.w=w→X.K=K→X.calm=true→∀(i:Nat) (pins:List (Addr ×Obj)) (s:Shared) (σ:St) (H:Hp) (E:Value→Shared→Prop),Inv X pins σ H s→(∀b∈fp,FpOk X pins H b)→tn i s.heap→J.go i H→
  wpAny (model P w) X.A (pyNext (.ref it)) (fun r s1=>∃u,r=some u∧
   wpAny (model P w) X.A (letOwnedTupleGo tg (.ref it) u) (fun _ s2=>∃x H',Inv X pins σ H' s2∧RelV x u∧J.yld i H x H'∧tn (i+1) s2.heap∧∀b∈fp,H' b=none) E s1) E s
 done:∀(X:Cx),X.prog=P→X.w=w→X.K=K→X.calm=true→∀(i:Nat) (pins:List (Addr ×Obj)) (s:Shared) (σ:St) (H:Hp) (E:Value→Shared→Prop),Inv X pins σ H s→(∀b∈fp,FpOk X pins H b)→tn i s.heap→J.stop i H→
  wpAny (model P w) X.A (pyNext (.ref it)) (fun r s1=>r=none∧Inv X pins σ H s1) E s
 self:∀(A:Around) (i:Nat) (s:Shared) (Q:Value→Shared→Prop) (E:Value→Shared→Prop),tn i s.heap→Q (.ref it) s→wpAny (model P w) A (pyIter (.ref it)) Q E s
abbrev TI:=St→Hp→(It→Hp→Prop)→Prop
def PIE (X:Cx)(pins:List (Addr ×Obj))(σ:St)(tg:Expr)(R:It→Hp→Prop)(itv:Value)(s2:Shared):Prop:=
 ∃(it:Addr) (fp:List Addr) (tn:Nat→Heap→Prop) (J:It) (H':Hp),itv=.ref it∧Inv X pins σ H' s2∧Turn X.prog X.w X.K tg J fp it tn∧tn 0 s2.heap∧(∀b∈fp,FpOk X pins H' b)∧R J H'
def PI (X:Cx)(tg iter:Expr)(wi:TI):Prop:=
 ∀(pins:List (Addr ×Obj)) (s:Shared) (σ:St) (H:Hp) (R:It→Hp→Prop),Inv X pins σ H s→wi σ H R→
  wpAny (model X.prog X.w) X.A (eval iter X.env) (fun v s1=>wpAny (model X.prog X.w) X.A (pyIter v) (PIE X pins σ tg R) X.xe s1) X.xe s
theorem zeu {M:Model}{A:Around}{E:Value→Shared→Prop}{s:Shared}{tg:Expr}{it:Addr}{u:Value}{o:Obj}{n:String}{vs:Array Value}{Q:Unit→Shared→Prop}(ho:s.heap.get? it=some o)(hc:o.cls=.type n)(hd:o.data=.fields vs)
  (hn:["enumerate","zip","dict_itemiterator","dict_reverseitemiterator","odict_iterator","itertools.zip_longest","itertools.pairwise"].contains n=false) (hQ:Q () s):wpAny M A (letOwnedTupleGo tg (.ref it) u) Q E s:=by
 unfold letOwnedTupleGo
 cases tg <;> first
  | exact wpAny_pure hQ
  | (cases u <;> first
    | exact wpAny_pure hQ
    | (refine wpAny_bind (wpAny_load ho ?_)
       rw [hc,hd]
       show wpAny M A (if (["enumerate","zip","dict_itemiterator","dict_reverseitemiterator","odict_iterator","itertools.zip_longest","itertools.pairwise"].contains n && vs[0]? ==some (rawInt _))=true then _ else _) Q E s
       rw [if_neg (by intro h;rw [hn,Bool.false_and] at h;cases h)]
       exact wpAny_pure hQ))
def Itl (K:PySem.W.Frag)(a:Addr):It:=
 ⟨fun i H=>∃xs x,SqL K H a xs∧xs[i]? =some x,fun i H x H'=>H'=H∧∀xs,SqL K H a xs→xs[i]? =some x,fun i H=>∃xs,SqL K H a xs∧xs.length≤i⟩
def Itt (K:PySem.W.Frag)(a:Addr):It:=
 ⟨fun i H=>∃xs x,SqT K H a xs∧xs[i]? =some x,fun i H x H'=>H'=H∧∀xs,SqT K H a xs→xs[i]? =some x,fun i H=>∃xs,SqT K H a xs∧xs.length≤i⟩
def Itr (lo:Int)(n:Nat):It:=⟨fun i _=>i < n,fun i H x H'=>H'=H∧x=.int (lo+i),fun i _=>n≤i⟩
theorem zhz {P:Program}{w:World}{K:PySem.W.Frag}{tg:Expr}(a it:Addr):Turn P w K tg (Itl K a) [it] it (fun i h=>h.IsListIter it a i) where
 mem:=by simp
 obj:=fun i h st b hb=>by
  have e:b=it:=by simpa using hb
  subst e
  obtain ⟨o,e,c,d⟩:=st
  exact ⟨o,e,fun v z=>by rw [d] at z;cases z⟩
 keep:=fun i h h' st k=>st.at fun o e=>k it (by simp) o e
 item:=by
  intro X hP hw hK hc i pins s σ H E I hf st hg
  subst hP hw hK
  obtain ⟨xs,x,hq,hx⟩:=hg
  obtain ⟨its,rv,p,hz⟩:=I.list hq
  obtain ⟨u,hu,ru⟩:=rv.get hx
  obtain ⟨f0,f1,f2,f3,f4,f5⟩:=hf it (by simp)
  refine wpAny_pyNext_list_item st p.isList (x:=u) (by simpa using hu) fun h' st' sb=>?_
  have I1:Inv X pins σ H {s with heap:=h'}:=I.turned (t':=s.toks) (fun b o hb e=>(sb.2 b hb).trans e) f0 f1 f3 f4 f5
  obtain ⟨o,e,c,d⟩:=id st'
  exact ⟨u,rfl,zeu (s:={s with heap:=h'}) e c d (by decide) ⟨x,H,I1,ru,⟨rfl,fun ys hy=>by rw [I.list_inj hy hq];exact hx⟩,st',fun b hb=>(hf b hb).1⟩⟩
 done:=by
  intro X hP hw hK hc i pins s σ H E I hf st hg
  subst hP hw hK
  obtain ⟨xs,hq,hx⟩:=hg
  obtain ⟨its,rv,p,hz⟩:=I.list hq
  obtain ⟨f0,f1,f2,f3,f4,f5⟩:=hf it (by simp)
  have hl:=rv.length
  exact wpAny_pyNext_list_end (I.ok.hd hc) st p.isList (by simp;omega) fun h' eb=>⟨rfl,I.turned (t':=s.toks) (fun b o hb e=>eb b o hb e) f0 f1 f3 f4 f5⟩
 self:=fun _ _ _ _ _ st h=>wpAny_pyIter_listiter st h
theorem zf2 {P:Program}{w:World}{K:PySem.W.Frag}{tg:Expr}(a it:Addr):Turn P w K tg (Itt K a) [it] it (fun i h=>h.IsTupleIter it a i) where
 mem:=by simp
 obj:=fun i h st b hb=>by
  have e:b=it:=by simpa using hb
  subst e
  obtain ⟨o,e,c,d⟩:=st
  exact ⟨o,e,fun v z=>by rw [d] at z;cases z⟩
 keep:=fun i h h' st k=>st.at fun o e=>k it (by simp) o e
 item:=by
  intro X hP hw hK hc i pins s σ H E I hf st hg
  subst hP hw hK
  obtain ⟨xs,x,hq,hx⟩:=hg
  obtain ⟨its,rv,p,hz⟩:=I.tuple hq
  obtain ⟨u,hu,ru⟩:=rv.get hx
  obtain ⟨f0,f1,f2,f3,f4,f5⟩:=hf it (by simp)
  refine wpAny_pyNext_tuple_item st (show s.heap.IsTuple a its.toArray from p) (x:=u) (by simpa using hu) fun h' st' sb=>?_
  have I1:Inv X pins σ H {s with heap:=h'}:=I.turned (t':=s.toks) (fun b o hb e=>(sb.2 b hb).trans e) f0 f1 f3 f4 f5
  obtain ⟨o,e,c,d⟩:=id st'
  exact ⟨u,rfl,zeu (s:={s with heap:=h'}) e c d (by decide) ⟨x,H,I1,ru,⟨rfl,fun ys hy=>by rw [I.tuple_inj hy hq];exact hx⟩,st',fun b hb=>(hf b hb).1⟩⟩
 done:=by
  intro X hP hw hK hc i pins s σ H E I hf st hg
  subst hP hw hK
  obtain ⟨xs,hq,hx⟩:=hg
  obtain ⟨its,rv,p,hz⟩:=I.tuple hq
  obtain ⟨f0,f1,f2,f3,f4,f5⟩:=hf it (by simp)
  have hl:=rv.length
  exact wpAny_pyNext_tuple_end (I.ok.hd hc) st (show s.heap.IsTuple a its.toArray from p) (by simp;omega) fun h' eb=>⟨rfl,I.turned (t':=s.toks) (fun b o hb e=>eb b o hb e) f0 f1 f3 f4 f5⟩
 self:=fun _ _ _ _ _ st h=>wpAny_pyIter_tupleiter st h
theorem zgl {P:Program}{w:World}{K:PySem.W.Frag}{tg:Expr}(it:Addr)(lo:Int)(n:Nat):Turn P w K tg (Itr lo n) [it] it (fun i h=>IsRangeIter h it (lo+(i:Nat) * 1) ((n:Int) - (i:Nat)) 1) where
 mem:=by simp
 obj:=fun i h st b hb=>by
  have e:b=it:=by simpa using hb
  subst e
  exact ⟨_,st,fun v z=>by
   have z':Data.fields _=Data.cell v:=z
   cases z'⟩
 keep:=fun i h h' st k=>k it (by simp) _ st
 item:=by
  intro X hP hw hK hc i pins s σ H E I hf st hg
  subst hP hw hK
  obtain ⟨f0,f1,f2,f3,f4,f5⟩:=hf it (by simp)
  have W:=Walks.range (prog:=X.prog) (w:=X.w) (I.ok.hd hc) it lo 1 n
  refine W.item i s _ _ hg st fun v h' tk hv st' kk=>?_
  obtain ⟨t,rfl⟩:=hv
  have I1:Inv X pins σ H {s with heap:=h',toks:=tk}:=I.turned (fun b o hb e=>kk b o (by simpa using hb) e) f0 f1 f3 f4 f5
  refine ⟨_,rfl,zeu (s:={s with heap:=h',toks:=tk}) (n:= "range_iterator") st' rfl rfl (by decide) ⟨.int (lo+i),H,I1,⟨t,?_⟩,⟨rfl,rfl⟩,st',fun b hb=>(hf b hb).1⟩⟩
  rw [Int.mul_one]
 done:=by
  intro X hP hw hK hc i pins s σ H E I hf st hg
  subst hP hw hK
  obtain ⟨f0,f1,f2,f3,f4,f5⟩:=hf it (by simp)
  exact wpAny_pyNext_range_end (I.ok.hd hc) st (by have:n≤i:=hg;omega) fun h' eb=>⟨rfl,I.turned (t':=s.toks) (fun b o hb e=>eb b o hb e) f0 f1 f3 f4 f5⟩
 self:=fun _ _ _ _ _ st h=>wpAny_pyIter_rangeiter st h
end L2
namespace L2
open PySem PySem.Spec PyProof.Rows
section
variable {X:Cx}{tg:Expr}
def zmA (K:PySem.W.Frag)(tl:TE):TI:=fun σ H R=>tl σ H fun x H1=>∃a,x=.ref a∧(∃xs,SqL K H1 a xs)∧R (Itl K a) H1
def iTup (K:PySem.W.Frag)(tl:TE):TI:=fun σ H R=>tl σ H fun x H1=>∃a,x=.ref a∧(∃xs,SqT K H1 a xs)∧R (Itt K a) H1
theorem zaY {l:Expr}{tl:TE}(hl:PE X l tl):PI X tg l (zmA X.K tl):=by
 intro pins s σ H R I h
 refine thn (hl pins s σ H _ I h) fun v s1 ⟨x,H1,I1,r1,q1⟩=>?_
 obtain ⟨a,e,⟨xs,hq⟩,q⟩:=q1
 subst e
 cases r1
 obtain ⟨its,rv,p,hz⟩:=I1.list hq
 refine wpAny_pyIter_list p.isList ?_
 refine ⟨s1.heap.objs.size,[s1.heap.objs.size],_,_,H1,rfl,I1.kept (t':=s1.toks) fun b o e=>Heap.get?_push_of_some _ e,zhz a _,⟨_,Heap.get?_push_size _ rfl,rfl,rfl⟩,fun b hb=>?_,q⟩
 have e:b=s1.heap.objs.size:=by simpa using hb
 subst e
 exact I1.fpOk (Nat.le_refl _) (I1.hok.fresh (Nat.le_refl _))
theorem zk5 {l:Expr}{tl:TE}(hl:PE X l tl):PI X tg l (iTup X.K tl):=by
 intro pins s σ H R I h
 refine thn (hl pins s σ H _ I h) fun v s1 ⟨x,H1,I1,r1,q1⟩=>?_
 obtain ⟨a,e,⟨xs,hq⟩,q⟩:=q1
 subst e
 cases r1
 obtain ⟨its,rv,p,hz⟩:=I1.tuple hq
 refine wpAny_pyIter_tuple (show s1.heap.IsTuple a its.toArray from p) ?_
 refine ⟨s1.heap.objs.size,[s1.heap.objs.size],_,_,H1,rfl,I1.kept (t':=s1.toks) fun b o e=>Heap.get?_push_of_some _ e,zf2 a _,⟨_,Heap.get?_push_size _ rfl,rfl,rfl⟩,fun b hb=>?_,q⟩
 have e:b=s1.heap.objs.size:=by simpa using hb
 subst e
 exact I1.fpOk (Nat.le_refl _) (I1.hok.fresh (Nat.le_refl _))
theorem zfz {pins:List (Addr ×Obj)}{σ:St}{H:Hp}{s:Shared}{R:It→Hp→Prop}{E:Value→Shared→Prop}{lo hi:Int}{t u v:Tok}{tk:Nat}(I:Inv X pins σ H s)(h1: -(2 ^ 62)≤lo)(h2:lo < 2 ^ 62)(h3: -(2 ^ 62)≤hi)(h4:hi < 2 ^ 62)
  (q:R (Itr lo (hi - lo).toNat) H):wpAny (model X.prog X.w) X.A (pyIter (.ref s.heap.objs.size)) (PIE X pins σ tg R) E {s with heap:=s.heap.push {cls:=.type "range",data:=.fields #[.int lo t,.int hi u,.int 1 v]},toks:=tk}:=by
 refine wpAny_pyIter_range (IsRange.new ..) (small_one h1 h2 h3 h4) ?_
 have I1:Inv X pins σ H {s with heap:=s.heap.push {cls:=.type "range",data:=.fields #[.int lo t,.int hi u,.int 1 v]},toks:=tk}:=I.kept fun b o e=>Heap.get?_push_of_some _ e
 refine ⟨(s.heap.push {cls:=.type "range",data:=.fields #[.int lo t,.int hi u,.int 1 v]}).objs.size,[(s.heap.push {cls:=.type "range",data:=.fields #[.int lo t,.int hi u,.int 1 v]}).objs.size],_,_,H,rfl,
  I1.kept (t':=tk) fun b o e=>Heap.get?_push_of_some _ e,zgl _ lo (hi - lo).toNat,?_,fun b hb=>?_,q⟩
 ·have e1:lo+((0:Nat):Int) * 1=lo:=by simp
  have e2:(((hi - lo).toNat:Nat):Int) - ((0:Nat):Int)=Builtin.Range.rangeSize lo hi 1:=by rw [rangeSize_one];split <;> omega
  show IsRangeIter _ _ (lo+((0:Nat):Int) * 1) ((((hi - lo).toNat:Nat):Int) - ((0:Nat):Int)) 1
  rw [e1,e2]
  exact Heap.get?_push_size _ rfl
 ·have e:b=(s.heap.push {cls:=.type "range",data:=.fields #[.int lo t,.int hi u,.int 1 v]}).objs.size:=by simpa using hb
  subst e
  exact I1.fpOk (Nat.le_refl _) (I1.hok.fresh (Nat.le_refl _))
def zmf (ta:TA):TI:=fun σ H R=>ta σ H fun vs H1=>∃j:Int,vs=[.int j]∧ -(2 ^ 62)≤j∧j < 2 ^ 62∧R (Itr 0 j.toNat) H1
def zmt (ta:TA):TI:=fun σ H R=>ta σ H fun vs H1=>∃i j:Int,vs=[.int i,.int j]∧(-(2 ^ 62)≤i∧i < 2 ^ 62∧ -(2 ^ 62)≤j∧j < 2 ^ 62)∧R (Itr i (j - i).toNat) H1
theorem za5 {a:Expr}{ta:TA}{p pos:Pos}(hg:Gl X "range") (hm:X.mg "range" =none) (ha:PA X [a] ta) (hs:starEach [a] X.env=[(false,eval a X.env)]:=by rfl):PI X tg (.Call (.Name "range" p) [a] [] pos) (zmf ta):=by
 intro pins s σ H R I h
 refine Call_ (zbW I hg hm boot_range (PyProof.Rows.callWith_type1 (thn (ha pos pins s σ H _ I h) fun us s1 ⟨vs,H1,I1,r1,q1⟩=>?_) hs rfl))
 obtain ⟨j,e,q1,q2,q⟩:=q1
 subst e
 cases r1 with
 | cons r rr=>
  cases rr
  obtain ⟨t,rfl⟩:=r
  exact call_range_1 (zfz I1 (by omega) (by omega) q1 q2 (by simpa using q))
theorem zhW {a b:Expr}{ta:TA}{p pos:Pos}(hg:Gl X "range") (hm:X.mg "range" =none) (ha:PA X [a,b] ta) (hs:starEach [a,b] X.env=[(false,eval a X.env),(false,eval b X.env)]:=by rfl) (hs2:starEach [b] X.env=[(false,eval b X.env)]:=by rfl):
  PI X tg (.Call (.Name "range" p) [a,b] [] pos) (zmt ta):=by
 intro pins s σ H R I h
 refine Call_ (zbW I hg hm boot_range (PyProof.Rows.callWith_type1 (thn (ha pos pins s σ H _ I h) fun us s1 ⟨vs,H1,I1,r1,q1⟩=>?_) (by rw [hs,hs2]) (by rw [hs2];rfl)))
 obtain ⟨i,j,e,⟨q1,q2,q3,q4⟩,q⟩:=q1
 subst e
 cases r1 with
 | cons r rr=>
  cases rr with
  | cons r' rr=>
   cases rr
   obtain ⟨t,rfl⟩:=r
   obtain ⟨t',rfl⟩:=r'
   exact call_range_2 (zfz I1 q1 q2 q3 q4 q)
def tFor (wi:TI)(g:TG)(tb:TS):TS:=fun D σ H=>wi σ H fun J H1=>∃W:Nat→Nat→St→Hp→Prop,(∃m,W 0 m σ H1)∧∀i m σ H,W i m σ H→
 (J.stop i H∧D.nx σ H)∨(J.go i H∧∃N:St→Hp→Prop,(∀σ' H',N σ' H'→∃m',m' < m∧W (i+1) m' σ' H')∧∀x H',J.yld i H x H'→g x σ H' fun σ2 H2=>tb {D with nx:=N,ct:=N,bk:=D.nx} σ2 H2)
def zc9 (fp:List Addr)(h:Heap):List (Addr ×Obj):=fp.filterMap fun b=>(h.get? b).map fun o=>(b,o)
theorem zaW {fp:List Addr}{h:Heap}{b:Addr}{o:Obj}(hb:b∈fp)(e:h.get? b=some o):(b,o)∈zc9 fp h:=List.mem_filterMap.mpr ⟨b,hb,by rw [e];rfl⟩
theorem zho {fp:List Addr}{h:Heap}{p:Addr ×Obj}(hp:p∈zc9 fp h):p.1∈fp∧h.get? p.1=some p.2:=by
 obtain ⟨b,hb,e⟩:=List.mem_filterMap.mp hp
 cases q:h.get? b with
 | none=>rw [q] at e;cases e
 | some o=>
  rw [q] at e
  have e':(b,o)=p:=Option.some.inj e
  subst e'
  exact ⟨hb,q⟩
theorem Inv.pinned {pins:List (Addr ×Obj)}{σ:St}{H:Hp}{s:Shared}{fp:List Addr}(I:Inv X pins σ H s)(hf:∀b∈fp,FpOk X pins H b)(ho:∀b∈fp,∃o,s.heap.get? b=some o∧∀v,o.data≠ .cell v):Inv X (pins++zc9 fp s.heap) σ H s:=
 I.pins_of fun p hp=>(List.mem_append.mp hp).elim (fun z=>I.pin p (List.mem_append_right _ z)) fun z=>by
  obtain ⟨hb,e⟩:=zho z
  obtain ⟨f0,f1,f2,_⟩:=hf p.1 hb
  obtain ⟨o,e',d⟩:=ho p.1 hb
  rw [e] at e';cases e'
  exact ⟨e,f0,f1,f2,d⟩
theorem Inv.unpinned {pins pl:List (Addr ×Obj)}{σ:St}{H:Hp}{s:Shared}(I:Inv X (pins++pl) σ H s):Inv X pins σ H s:=I.pins_of fun p hp=>I.pin p (List.mem_append_right _ (List.mem_append_left _ hp))
theorem zak {iter:Expr}{body:List Stmt}{wi:TI}{g:TG}{tb:TS}{pos:Pos}(hp:PassesOwn (model X.prog X.w) X.A X.env X.xe)(hc:X.calm=true)(hi:PI X tg iter wi)(hg:PG X tg g)(hb:PSs X body tb)
  (hs:∀x,foldedSetIterable iter X.env x=pure x:=by intro _;rfl):PS X (.For tg iter body [] pos) (tFor wi g tb):=by
 intro pins s σ H D I h
 refine wpAny_For (thn (hi pins s σ H _ I h) fun v s1 h1=>thn h1 fun itv s2 h2=>?_) hs
 obtain ⟨it,fp,tn,J,H2,e,I2,T,st2,f2,W,⟨m0,w0⟩,turn⟩:=h2
 subst e
 have stat:∀{H':Hp},(∀b∈fp,H' b=none)→∀b∈fp,FpOk X pins H' b:=fun hn b hb=>⟨hn b hb,(f2 b hb).2⟩
 refine codeAny_forLoop_any (fun n s'=>∃i σ' H',Inv X pins σ' H' s'∧tn i s'.heap∧(∀b∈fp,H' b=none)∧W i n σ' H') ?_ m0 ⟨0,σ,H2,I2,st2,fun b hb=>(f2 b hb).1,w0⟩
 rintro n s3 ⟨i,σ3,H3,I3,st3,fr3,w3⟩
 rcases turn i n σ3 H3 w3 with ⟨stop,qn⟩ | ⟨go,N,hN,step⟩
 ·refine wpAny_passesOwn hp (thn (T.done X rfl rfl rfl hc i pins s3 σ3 H3 X.xe I3 (stat fr3) st3 stop) fun r s4 ⟨hr,I4⟩=>?_)
  subst hr
  exact wpAny_execs_nil ⟨σ3,H3,I4,qn⟩
 ·refine wpAny_passesOwn hp (thn (T.item X rfl rfl rfl hc i pins s3 σ3 H3 X.xe I3 (stat fr3) st3 go) fun r s4 ⟨u,hr,h4⟩=>?_)
  subst hr
  refine wpAny_passesOwn hp (thn h4 fun _ s5 ⟨x,H5,I5,r5,y5,st5,fr5⟩=>?_)
  have I5':=I5.pinned (stat fr5) (T.obj _ _ st5)
  refine wpAny_passesOwn hp (thn (hg _ s5 σ3 H5 x u _ I5' r5 (step x H5 y5)) fun _ s6 ⟨σ6,H6,I6,q6⟩=>?_)
  refine wpAny_passesOwn hp (thn (hb _ s6 σ6 H6 _ I6 q6) fun f s7 q7=>?_)
  have again:∀{σ7:St} {H7:Hp},Inv X (pins++zc9 fp s5.heap) σ7 H7 s7→N σ7 H7→∃m,m < n∧∃i σ' H',Inv X pins σ' H' s7∧tn i s7.heap∧(∀b∈fp,H' b=none)∧W i m σ' H':=fun {σ7 H7} I7 n7=>by
   obtain ⟨m',hm,w7⟩:=hN σ7 H7 n7
   refine ⟨m',hm,i+1,σ7,H7,I7.unpinned,T.keep _ _ _ st5 fun b hb o e=>(I7.pin (b,o) (List.mem_append_right _ (List.mem_append_right _ (zaW hb e)))).1,fun b hb=>?_,w7⟩
   obtain ⟨o,e,d⟩:=T.obj _ _ st5 b hb
   exact (I7.pin (b,o) (List.mem_append_right _ (List.mem_append_right _ (zaW hb e)))).2.1
  cases f with
  | next=>obtain ⟨σ7,H7,I7,n7⟩:=q7;exact again I7 n7
  | cont=>obtain ⟨σ7,H7,I7,n7⟩:=q7;exact again I7 n7
  | brk=>obtain ⟨σ7,H7,I7,q7⟩:=q7;exact ⟨σ7,H7,I7.unpinned,q7⟩
  | ret v=>obtain ⟨x7,σ7,H7,I7,r7,q7⟩:=q7;exact ⟨x7,σ7,H7,I7.unpinned,r7,q7⟩
end
theorem zbq {K:PySem.W.Frag}{a:Addr}{xs:List V}{g:TG}{tb:TS}{D:Ends}{σ:St}{H:Hp}(Pv:Nat→St→Hp→Prop)(h0:Pv 0 σ H)(hl:∀i σ H,i≤xs.length→Pv i σ H→SqL K H a xs)
  (hs:∀i x σ H,xs[i]? =some x→Pv i σ H→g x σ H fun σ2 H2=>tb {D with nx:=Pv (i+1),ct:=Pv (i+1),bk:=D.nx} σ2 H2) (hd:∀σ H,Pv xs.length σ H→D.nx σ H):
  ∃W:Nat→Nat→St→Hp→Prop,(∃m,W 0 m σ H)∧∀i m σ H,W i m σ H→
   ((Itl K a).stop i H∧D.nx σ H)∨((Itl K a).go i H∧∃N:St→Hp→Prop,(∀σ' H',N σ' H'→∃m',m' < m∧W (i+1) m' σ' H')∧∀x H',(Itl K a).yld i H x H'→g x σ H' fun σ2 H2=>tb {D with nx:=N,ct:=N,bk:=D.nx} σ2 H2):=by
 refine ⟨fun i m σ H=>m=xs.length - i∧i≤xs.length∧Pv i σ H,⟨xs.length,by simp,Nat.zero_le _,h0⟩,?_⟩
 rintro i m σ H ⟨rfl,hi,p⟩
 have q:=hl i σ H hi p
 by_cases hlt:i < xs.length
 ·refine .inr ⟨⟨xs,xs[i],q,by simp [hlt]⟩,Pv (i+1),fun σ' H' p'=>⟨xs.length - (i+1),by omega,rfl,hlt,p'⟩,fun x H' y=>?_⟩
  obtain ⟨e,y⟩:=y
  subst e
  exact hs i x σ _ (y xs q) p
 ·have e:i=xs.length:=by omega
  subst e
  exact .inl ⟨⟨xs,q,Nat.le_refl _⟩,hd σ H p⟩
theorem zks {K:PySem.W.Frag}{a:Addr}{xs:List V}{g:TG}{tb:TS}{D:Ends}{σ:St}{H:Hp}(Pv:Nat→St→Hp→Prop)(h0:Pv 0 σ H)(hl:∀i σ H,i≤xs.length→Pv i σ H→SqT K H a xs)
  (hs:∀i x σ H,xs[i]? =some x→Pv i σ H→g x σ H fun σ2 H2=>tb {D with nx:=Pv (i+1),ct:=Pv (i+1),bk:=D.nx} σ2 H2) (hd:∀σ H,Pv xs.length σ H→D.nx σ H):
  ∃W:Nat→Nat→St→Hp→Prop,(∃m,W 0 m σ H)∧∀i m σ H,W i m σ H→
   ((Itt K a).stop i H∧D.nx σ H)∨((Itt K a).go i H∧∃N:St→Hp→Prop,(∀σ' H',N σ' H'→∃m',m' < m∧W (i+1) m' σ' H')∧∀x H',(Itt K a).yld i H x H'→g x σ H' fun σ2 H2=>tb {D with nx:=N,ct:=N,bk:=D.nx} σ2 H2):=by
 refine ⟨fun i m σ H=>m=xs.length - i∧i≤xs.length∧Pv i σ H,⟨xs.length,by simp,Nat.zero_le _,h0⟩,?_⟩
 rintro i m σ H ⟨rfl,hi,p⟩
 have q:=hl i σ H hi p
 by_cases hlt:i < xs.length
 ·refine .inr ⟨⟨xs,xs[i],q,by simp [hlt]⟩,Pv (i+1),fun σ' H' p'=>⟨xs.length - (i+1),by omega,rfl,hlt,p'⟩,fun x H' y=>?_⟩
  obtain ⟨e,y⟩:=y
  subst e
  exact hs i x σ _ (y xs q) p
 ·have e:i=xs.length:=by omega
  subst e
  exact .inl ⟨⟨xs,q,Nat.le_refl _⟩,hd σ H p⟩
theorem zaV {lo:Int}{n:Nat}{g:TG}{tb:TS}{D:Ends}{σ:St}{H:Hp}(Pv:Nat→St→Hp→Prop)(h0:Pv 0 σ H)
  (hs:∀i σ H,i < n→Pv i σ H→g (.int (lo+i)) σ H fun σ2 H2=>tb {D with nx:=Pv (i+1),ct:=Pv (i+1),bk:=D.nx} σ2 H2) (hd:∀σ H,Pv n σ H→D.nx σ H):
  ∃W:Nat→Nat→St→Hp→Prop,(∃m,W 0 m σ H)∧∀i m σ H,W i m σ H→
   ((Itr lo n).stop i H∧D.nx σ H)∨((Itr lo n).go i H∧∃N:St→Hp→Prop,(∀σ' H',N σ' H'→∃m',m' < m∧W (i+1) m' σ' H')∧∀x H',(Itr lo n).yld i H x H'→g x σ H' fun σ2 H2=>tb {D with nx:=N,ct:=N,bk:=D.nx} σ2 H2):=by
 refine ⟨fun i m σ H=>m=n - i∧i≤n∧Pv i σ H,⟨n,by simp,Nat.zero_le _,h0⟩,?_⟩
 rintro i m σ H ⟨rfl,hi,p⟩
 by_cases hlt:i < n
 ·refine .inr ⟨hlt,Pv (i+1),fun σ' H' p'=>⟨n - (i+1),by omega,rfl,hlt,p'⟩,fun x H' y=>?_⟩
  obtain ⟨e,y⟩:=y
  subst e y
  exact hs i σ _ hlt p
 ·have e:i=n:=by omega
  subst e
  exact .inl ⟨Nat.le_refl _,hd σ H p⟩
end L2
namespace L2
open PySem PySem.Spec PyProof.Rows
abbrev R2:=V→V→Hp→VK→Prop
def OpR (X:Cx)(f:Value→Value→Sem Value)(r:R2):Prop:=
 ∀(pins:List (Addr ×Obj)) (s:Shared) (σ:St) (H:Hp) (x y:V) (v u:Value) (Q:VK),Inv X pins σ H s→RelV x v→RelV y u→r x y H Q→
  wpAny (model X.prog X.w) X.A (f v u) (EP X pins σ Q) X.xe s
def UnR (X:Cx)(f:Value→Sem Value)(r:V→Hp→VK→Prop):Prop:=
 ∀(pins:List (Addr ×Obj)) (s:Shared) (σ:St) (H:Hp) (x:V) (v:Value) (Q:VK),Inv X pins σ H s→RelV x v→r x H Q→
  wpAny (model X.prog X.w) X.A (f v) (EP X pins σ Q) X.xe s
def zbh (X:Cx)(f:Value)(r:List V→Hp→VK→Prop):Prop:=
 ∀(pins:List (Addr ×Obj)) (s:Shared) (σ:St) (H:Hp) (xs:List V) (us:List Value) (Q:VK),Inv X pins σ H s→Vals xs us→r xs H Q→
  wpAny (model X.prog X.w) X.A (call f us) (EP X pins σ Q) X.xe s
def TruR (X:Cx)(r:V→Hp→(Bool→Hp→Prop)→Prop):Prop:=
 ∀(pins:List (Addr ×Obj)) (s:Shared) (σ:St) (H:Hp) (x:V) (v:Value) (Q:Bool→Hp→Prop),Inv X pins σ H s→RelV x v→r x H Q→
  wpAny (model X.prog X.w) X.A (truthy v) (TP X pins σ Q) X.xe s
def tOp (r:R2)(ta tb:TE):TE:=fun σ H Q=>ta σ H fun x H1=>tb σ H1 fun y H2=>r x y H2 Q
def tUn (r:V→Hp→VK→Prop)(ta:TE):TE:=fun σ H Q=>ta σ H fun x H1=>r x H1 Q
def rI (C:Int→Int→Prop)(g:Int→Int→V):R2:=fun x y H Q=>∃i j,x=.int i∧y=.int j∧C i j∧Q (g i j) H
def rI0 (g:Int→Int→V):R2:=fun x y H Q=>∃i j,x=.int i∧y=.int j∧Q (g i j) H
def rU (g:Int→V):V→Hp→VK→Prop:=fun x H Q=>∃i,x=.int i∧Q (g i) H
section
variable {X:Cx}{a b c:Expr}{ta tb tc:TE}{pos:Pos}
theorem binT (ha:PE X a ta)(hb:PE X b tb){pins:List (Addr ×Obj)}{s:Shared}{σ:St}{H:Hp}{R:V→V→Hp→Prop}(I:Inv X pins σ H s)
  (h:ta σ H fun x H1=>tb σ H1 fun y H2=>R x y H2) {Q:Value→Shared→Prop} {f:Value→Value→Sem Value}
  (hf:∀v u s2 x y H2,Inv X pins σ H2 s2→RelV x v→RelV y u→R x y H2→wpAny (model X.prog X.w) X.A (f v u) Q X.xe s2):
  wpAny (model X.prog X.w) X.A (eval a X.env) (fun v s₁=>wpAny (model X.prog X.w) X.A (eval b X.env) (fun u s₂=>wpAny (model X.prog X.w) X.A (f v u) Q X.xe s₂) X.xe s₁) X.xe s:=by
 refine thn (ha pins s σ H _ I h) fun v s1 ⟨x,H1,I1,r1,q1⟩=>?_
 refine thn (hb pins s1 σ H1 _ I1 q1) fun u s2 ⟨y,H2,I2,r2,q2⟩=>?_
 exact hf v u s2 x y H2 I2 r1 r2 q2
theorem zy {op:Operator}{r:R2}(ho:OpR X (binaryOp op) r)(ha:PE X a ta)(hb:PE X b tb):PE X (.BinOp a op b pos) (tOp r ta tb):=by
 intro pins s σ H Q I h
 exact wpAny_BinOp (binT ha hb I h fun v u s2 x y H2 I2 rx ry q=>ho pins s2 σ H2 x y v u Q I2 rx ry q)
theorem zcO {op:UnaryOp}{r:V→Hp→VK→Prop}(ho:UnR X (unaryOp op) r)(ha:PE X a ta):PE X (.UnaryOp op a pos) (tUn r ta):=by
 intro pins s σ H Q I h
 exact UnaryOp_ (thn (ha pins s σ H _ I h) fun v s1 ⟨x,H1,I1,r1,q1⟩=>ho pins s1 σ H1 x v Q I1 r1 q1)
theorem opI {f:Value→Value→Sem Value}{C:Int→Int→Prop}{g:Int→Int→Int}
  (rule:∀(i j:Int) (t u:Tok) (s:Shared) (Q:Value→Shared→Prop) (E:Value→Shared→Prop),C i j→Q (.int (g i j) s.toks) {s with toks:=s.toks+1}→wpAny (model X.prog X.w) X.A (f (.int i t) (.int j u)) Q E s):
  OpR X f (rI C fun i j=>.int (g i j)):=by
 intro pins s σ H x y v u Q I rx ry h
 obtain ⟨i,j,rfl,rfl,hc,q⟩:=h
 obtain ⟨t,rfl⟩:=rx
 obtain ⟨t',rfl⟩:=ry
 exact rule i j t t' s _ _ hc ⟨.int (g i j),H,I.tok _,⟨_,rfl⟩,q⟩
theorem opI0 {f:Value→Value→Sem Value}{g:Int→Int→Int}
  (rule:∀(i j:Int) (t u:Tok) (s:Shared) (Q:Value→Shared→Prop) (E:Value→Shared→Prop),Q (.int (g i j) s.toks) {s with toks:=s.toks+1}→wpAny (model X.prog X.w) X.A (f (.int i t) (.int j u)) Q E s):
  OpR X f (rI0 fun i j=>.int (g i j)):=by
 intro pins s σ H x y v u Q I rx ry h
 obtain ⟨i,j,rfl,rfl,q⟩:=h
 obtain ⟨t,rfl⟩:=rx
 obtain ⟨t',rfl⟩:=ry
 exact rule i j t t' s _ _ ⟨.int (g i j),H,I.tok _,⟨_,rfl⟩,q⟩
theorem opB0 {f:Value→Value→Sem Value}{g:Int→Int→Bool}
  (rule:∀(i j:Int) (t u:Tok) (s:Shared) (Q:Value→Shared→Prop) (E:Value→Shared→Prop),Q (.bool (g i j)) s→wpAny (model X.prog X.w) X.A (f (.int i t) (.int j u)) Q E s):
  OpR X f (rI0 fun i j=>.bl (g i j)):=by
 intro pins s σ H x y v u Q I rx ry h
 obtain ⟨i,j,rfl,rfl,q⟩:=h
 obtain ⟨t,rfl⟩:=rx
 obtain ⟨t',rfl⟩:=ry
 exact rule i j t t' s _ _ ⟨.bl (g i j),H,I,rfl,q⟩
def CDiv (i j:Int):Prop:=0 < j∧j < 1073741824
def zm6 (i j:Int):Prop:=j≠0∧j.natAbs < 1073741824
def CPow (i j:Int):Prop:=0≤j∧j≤1000000∧i.natAbs < 2 ^ 64
def CMul (i j:Int):Prop:=(-(2 ^ 64) < i∧i < 2 ^ 64)∨(-(2 ^ 64) < j∧j < 2 ^ 64)
theorem CMul.ok {i j:Int}(h:CMul i j):IntMulOk i j:=by
 rcases h with ⟨h1,h2⟩ | ⟨h1,h2⟩
 ·exact .of_left (intBits_le_64 h1 h2)
 ·exact .of_right (intBits_le_64 h1 h2)
theorem zac:OpR X (binaryOp .Add) (rI0 fun i j=>.int (i+j)):=opI0 fun _ _ _ _ _ _ _ q=>add_int q
theorem zbk:OpR X (binaryOp .Sub) (rI0 fun i j=>.int (i - j)):=opI0 fun _ _ _ _ _ _ _ q=>sub_int q
theorem zbp:OpR X (binaryOp .Mult) (rI CMul fun i j=>.int (i * j)):=opI fun _ _ _ _ _ _ _ hc q=>mul_int q hc.ok
theorem zaJ:OpR X (binaryOp .Mod) (rI (fun _ j=>0 < j) fun i j=>.int (i % j)):=opI fun i j _ _ _ _ _ hc q=>by
 have h1:(0:Int) < j:=hc
 exact mod_int' (by omega) (by rw [Int.fmod_eq_emod_of_nonneg i (by omega)];exact q)
theorem zbo:OpR X (binaryOp .Pow) (rI CPow fun i j=>.int (i ^ j.toNat)):=opI fun _ _ _ _ _ _ _ hc q=>pow_int_small hc.1 hc.2.1 hc.2.2 q
theorem unI {f:Value→Sem Value}{g:Int→Int}
  (rule:∀(i:Int) (t:Tok) (s:Shared) (Q:Value→Shared→Prop) (E:Value→Shared→Prop),Q (.int (g i) s.toks) {s with toks:=s.toks+1}→wpAny (model X.prog X.w) X.A (f (.int i t)) Q E s):
  UnR X f (rU fun i=>.int (g i)):=by
 intro pins s σ H x v Q I rx h
 obtain ⟨i,rfl,q⟩:=h
 obtain ⟨t,rfl⟩:=rx
 exact rule i t s _ _ ⟨.int (g i),H,I.tok _,⟨_,rfl⟩,q⟩
theorem zbM:UnR X (unaryOp .USub) (rU fun i=>.int (-i)):=unI fun _ _ _ _ _ q=>neg_int q
end
def scal:V→V→Bool
 | .non,.non=>true | .non,.int _=>true | .int _,.non=>true | .non,.bl _=>true | .bl _,.non=>true | .non,.str _=>true | .str _,.non=>true
 | .int _,.int _=>true | .bl _,.bl _=>true | .str _,.str _=>true | .byt _,.byt _=>true
 | .int _,.str _=>true | .str _,.int _=>true | .bl _,.str _=>true | .str _,.bl _=>true
 | _,_=>false
def rEq:R2:=fun x y H Q=>scal x y=true∧Q (.bl (decide (x=y))) H
def rNe:R2:=fun x y H Q=>scal x y=true∧Q (.bl (!decide (x=y))) H
theorem zgG {i j:Int}:decide (V.int i=V.int j)=(i==j):=by
 rw [Bool.eq_iff_iff]
 simp
theorem ziS {i j:Bool}:decide (V.bl i=V.bl j)=(i==j):=by
 rw [Bool.eq_iff_iff]
 simp
theorem zgO {i j:Str}:decide (V.str i=V.str j)=(i==j):=by
 rw [Bool.eq_iff_iff]
 simp
theorem zgM {i j:Array UInt8}:decide (V.byt i=V.byt j)=(i.toList==j.toList):=by
 rw [Bool.eq_iff_iff]
 cases i
 cases j
 simp
section
variable {X:Cx}{a b c:Expr}{ta tb tc:TE}{pos:Pos}
theorem zT {pins:List (Addr ×Obj)}{σ:St}{H:Hp}{s:Shared}{Q:VK}{k k':Bool}(I:Inv X pins σ H s)(q:Q (.bl k) H)(e:k=k'):EP X pins σ Q (.bool k') s:=by
 subst e
 exact ⟨.bl k,H,I,rfl,q⟩
theorem zdo:OpR X (compareOp .Eq) rEq:=by
 intro pins s σ H x y v u Q I rx ry h
 obtain ⟨hs,q⟩:=h
 cases x with
 | non=>
  cases rx
  cases y with
  | non=>cases ry;exact PySem.EqNone.eq_none_none (zT I q (by simp))
  | bl j=>cases ry;exact PySem.EqNone.eq_none_bool (zT I q (by simp))
  | int j=>obtain ⟨t',rfl⟩:=ry;exact PySem.EqNone.eq_none_int (zT I q (by simp))
  | str j=>obtain ⟨t',rfl⟩:=ry;exact PySem.EqNone.eq_none_str (zT I q (by simp))
  | _=>exact absurd (show false=true from hs) Bool.false_ne_true
 | bl i=>
  cases rx
  cases y with
  | non=>cases ry;exact PySem.EqNone.eq_bool_none (zT I q (by simp))
  | bl j=>cases ry;exact eq_bool (zT I q ziS)
  | str j=>obtain ⟨t',rfl⟩:=ry;exact PySem.EqMixed.eq_bool_str (zT I q (by simp))
  | _=>exact absurd (show false=true from hs) Bool.false_ne_true
 | int i=>
  obtain ⟨t,rfl⟩:=rx
  cases y with
  | non=>cases ry;exact PySem.EqNone.eq_int_none (zT I q (by simp))
  | int j=>obtain ⟨t',rfl⟩:=ry;exact eq_int (zT I q zgG)
  | str j=>obtain ⟨t',rfl⟩:=ry;exact PySem.EqMixed.eq_int_str (zT I q (by simp))
  | _=>exact absurd (show false=true from hs) Bool.false_ne_true
 | str i=>
  obtain ⟨t,rfl⟩:=rx
  cases y with
  | non=>cases ry;exact PySem.EqNone.eq_str_none (zT I q (by simp))
  | bl j=>cases ry;exact PySem.EqMixed.eq_str_bool (zT I q (by simp))
  | int j=>obtain ⟨t',rfl⟩:=ry;exact PySem.EqMixed.eq_str_int (zT I q (by simp))
  | str j=>obtain ⟨t',rfl⟩:=ry;exact eq_str (zT I q zgO)
  | _=>exact absurd (show false=true from hs) Bool.false_ne_true
 | byt i=>
  obtain ⟨t,rfl⟩:=rx
  cases y with
  | byt j=>obtain ⟨t',rfl⟩:=ry;exact PySem.W.eq_bytes (zT I q zgM)
  | _=>exact absurd (show false=true from hs) Bool.false_ne_true
 | _=>cases y <;> exact absurd (show false=true from hs) Bool.false_ne_true
theorem zbU:OpR X (compareOp .NotEq) rNe:=by
 intro pins s σ H x y v u Q I rx ry h
 obtain ⟨hs,q⟩:=h
 cases x with
 | non=>
  cases rx
  cases y with
  | non=>cases ry;exact PySem.EqNone.ne_none_none (zT I q (by simp))
  | bl j=>cases ry;exact PySem.EqNone.ne_none_bool (zT I q (by simp))
  | int j=>obtain ⟨t',rfl⟩:=ry;exact PySem.EqNone.ne_none_int (zT I q (by simp))
  | str j=>obtain ⟨t',rfl⟩:=ry;exact PySem.EqNone.ne_none_str (zT I q (by simp))
  | _=>exact absurd (show false=true from hs) Bool.false_ne_true
 | bl i=>
  cases rx
  cases y with
  | non=>cases ry;exact PySem.EqNone.ne_bool_none (zT I q (by simp))
  | bl j=>cases ry;exact ne_bool (zT I q (congrArg not ziS))
  | str j=>obtain ⟨t',rfl⟩:=ry;exact PySem.EqMixed.ne_bool_str (zT I q (by simp))
  | _=>exact absurd (show false=true from hs) Bool.false_ne_true
 | int i=>
  obtain ⟨t,rfl⟩:=rx
  cases y with
  | non=>cases ry;exact PySem.EqNone.ne_int_none (zT I q (by simp))
  | int j=>obtain ⟨t',rfl⟩:=ry;exact ne_int (zT I q (congrArg not zgG))
  | str j=>obtain ⟨t',rfl⟩:=ry;exact PySem.EqMixed.ne_int_str (zT I q (by simp))
  | _=>exact absurd (show false=true from hs) Bool.false_ne_true
 | str i=>
  obtain ⟨t,rfl⟩:=rx
  cases y with
  | non=>cases ry;exact PySem.EqNone.ne_str_none (zT I q (by simp))
  | bl j=>cases ry;exact PySem.EqMixed.ne_str_bool (zT I q (by simp))
  | int j=>obtain ⟨t',rfl⟩:=ry;exact PySem.EqMixed.ne_str_int (zT I q (by simp))
  | str j=>obtain ⟨t',rfl⟩:=ry;exact ne_str (zT I q (congrArg not zgO))
  | _=>exact absurd (show false=true from hs) Bool.false_ne_true
 | byt i=>
  obtain ⟨t,rfl⟩:=rx
  cases y with
  | byt j=>obtain ⟨t',rfl⟩:=ry;exact PySem.W.ne_bytes (zT I q (congrArg not zgM))
  | _=>exact absurd (show false=true from hs) Bool.false_ne_true
 | _=>cases y <;> exact absurd (show false=true from hs) Bool.false_ne_true
theorem zcL:OpR X (compareOp .Lt) (rI0 fun i j=>.bl (decide (i < j))):=opB0 fun _ _ _ _ _ _ _ q=>lt_int q
theorem zkT:OpR X (compareOp .LtE) (rI0 fun i j=>.bl (decide (i≤j))):=opB0 fun _ _ _ _ _ _ _ q=>le_int q
theorem zi1:OpR X (compareOp .Gt) (rI0 fun i j=>.bl (decide (j < i))):=opB0 fun _ _ _ _ _ _ _ q=>gt_int q
theorem zkB:OpR X (compareOp .GtE) (rI0 fun i j=>.bl (decide (j≤i))):=opB0 fun _ _ _ _ _ _ _ q=>ge_int q
theorem zex:OpR X (compareOp .Lt) (fun x y H Q=>∃i j,x=.str i∧y=.str j∧Q (.bl (decide (i.cps.toList < j.cps.toList))) H):=by
 intro pins s σ H x y v u Q I rx ry h
 obtain ⟨i,j,rfl,rfl,q⟩:=h
 obtain ⟨t,rfl⟩:=rx
 obtain ⟨t',rfl⟩:=ry
 exact lt_str (zT I q rfl)
theorem zbl:OpR X (compareOp .Is) (fun x y H Q=>y=.non∧Q (.bl (decide (x=.non))) H):=by
 intro pins s σ H x y v u Q I rx ry h
 obtain ⟨rfl,q⟩:=h
 cases ry
 refine is_none_gen (zT I q ?_)
 cases x <;> first
  | (cases rx;rfl)
  | (obtain ⟨t,rfl⟩:=rx;rfl)
theorem zjZ:OpR X (compareOp .IsNot) (fun x y H Q=>y=.non∧Q (.bl (!decide (x=.non))) H):=by
 intro pins s σ H x y v u Q I rx ry h
 obtain ⟨rfl,q⟩:=h
 cases ry
 refine isnot_none_gen (zT I q ?_)
 cases x <;> first
  | (cases rx;rfl)
  | (obtain ⟨t,rfl⟩:=rx;rfl)
def isObj:HO→Bool
 | .lst _=>true
 | .ins _ _ _=>true
 | _=>false
theorem OpR.or {f:Value→Value→Sem Value}{r r':R2}(h:OpR X f r)(h':OpR X f r'):OpR X f (fun x y H Q=>r x y H Q∨r' x y H Q):=by
 intro pins s σ H x y v u Q I rx ry q
 rcases q with q | q
 ·exact h pins s σ H x y v u Q I rx ry q
 ·exact h' pins s σ H x y v u Q I rx ry q
theorem zD (b:Expr){op:CmpOp}(h:op≠ .In:=by decide)(h2:op≠ .NotIn:=by decide):behindInMarks op b=false:=by
 have e1:(op==CmpOp.In)=false:=by cases op <;> first | rfl | exact absurd rfl h
 have e2:(op==CmpOp.NotIn)=false:=by cases op <;> first | rfl | exact absurd rfl h2
 cases b <;> simp [behindInMarks,e1,e2]
theorem zad {op:CmpOp}{r:R2}(ho:OpR X (compareOp op) r)(ha:PE X a ta)(hb:PE X b tb)(hm:behindInMarks op b=false):PE X (.Compare a [op] [b] pos) (tOp r ta tb):=by
 intro pins s σ H Q I h
 exact wpAny_Compare1 (binT ha hb I h fun v u s2 x y H2 I2 rx ry q=>ho pins s2 σ H2 x y v u Q I2 rx ry q) hm
def zmm (t:TE):TT:=fun σ H Q=>t σ H fun x H'=>∃k,x=.bl k∧Q k H'
theorem zH {op:CmpOp}{r:R2}(ho:OpR X (compareOp op) r)(ha:PE X a ta)(hb:PE X b tb)(hm:behindInMarks op b=false):PT X (.Compare a [op] [b] pos) (zmm (tOp r ta tb)):=by
 intro pins s σ H Q I h
 refine wpAny_isTrue_Compare1 (thn (ha pins s σ H _ I h) fun v s1 ⟨x,H1,I1,r1,q1⟩=>thn (hb pins s1 σ H1 _ I1 q1) fun u s2 ⟨y,H2,I2,r2,q2⟩=>
  thn (ho pins s2 σ H2 x y v u _ I2 r1 r2 q2) fun c s3 ⟨z,H3,I3,r3,k,e,q3⟩=>?_) hm
 subst e
 cases r3
 exact wpAny_truthy_bool ⟨H3,I3,q3⟩
def zl3 (r r':R2)(ta tb tc:TE):TE:=fun σ H Q=>ta σ H fun x H1=>tb σ H1 fun y H2=>r x y H2 fun z H3=>∃k,z=.bl k∧
 (if k=true then tc σ H3 fun w' H4=>r' y w' H4 Q else Q (.bl false) H3)
theorem zjm {op op':CmpOp}{r r':R2}(ho:OpR X (compareOp op) r)(ho':OpR X (compareOp op') r')(ha:PE X a ta)(hb:PE X b tb)(hc:PE X c tc)
  (hm:lastMarks [op,op'] [b,c]=false:=by with_unfolding_all rfl):PE X (.Compare a [op,op'] [b,c] pos) (zl3 r r' ta tb tc):=by
 intro pins s σ H Q I h
 refine Compare_chain (thn (ha pins s σ H _ I h) fun v s1 ⟨x,H1,I1,r1,q1⟩=>chain_link (thn (hb pins s1 σ H1 _ I1 q1) fun u s2 ⟨y,H2,I2,r2,q2⟩=>
  thn (ho pins s2 σ H2 x y v u _ I2 r1 r2 q2) fun d s3 ⟨z,H3,I3,r3,k,e,q3⟩=>?_)) hm
 subst e
 cases r3
 refine wpAny_truthy_bool ?_
 cases k with
 | false=>exact ite_ff ⟨.bl false,H3,I3,rfl,q3⟩
 | true=>exact ite_tt (chain_last (thn (hc pins s3 σ H3 _ I3 q3) fun w' s4 ⟨z',H4,I4,r4,q4⟩=>ho' pins s4 σ H4 y z' u w' Q I4 r2 r4 q4))
def TruV (K:PySem.W.Frag)(x:V)(H:Hp)(k:Bool):Prop:=
 match x with
 | .non=>k=false
 | .bl b=>k=b
 | .int i=>k=(i !=0)
 | .str y=>y.length≤sizeLine∧k=((y.length:Int) !=0)
 | .byt y=>y.size≤sizeLine∧k=((y.size:Int) !=0)
 | .ref p=>(∃xs,SqL K H p xs∧k= !xs.isEmpty)∨(∃xs,SqT K H p xs∧k= !xs.isEmpty)∨∃kvs,H p=some (.dK kvs)∧k= !kvs.isEmpty
 | _=>False
theorem zec:(sizeLine:Nat) < 2 ^ 63:=by rw [sizeLine_eq];decide
theorem zdI:OpR X (binaryOp .Add) (fun x y H Q=>∃i j,x=.str i∧y=.str j∧i.length+j.length≤sizeLine∧Q (.str (i++j)) H):=by
 intro pins s σ H x y v u Q I rx ry h
 obtain ⟨i,j,rfl,rfl,hz,q⟩:=h
 obtain ⟨t,rfl⟩:=rx
 obtain ⟨t',rfl⟩:=ry
 exact add_str (fun t' tk=>⟨.str (i++j),H,I.tok _,⟨_,rfl⟩,q⟩) hz
def zl9 (b:Expr):Prop:=∀o i,subscripted b false o i=operate [o,i] (getItem o i)
theorem vals1 {x:V}{us:List Value}(r:Vals [x] us):∃u,us=[u]∧RelV x u:=by
 cases r with
 | cons r1 r2=>cases r2;exact ⟨_,rfl,r1⟩
theorem vals2 {x y:V}{us:List Value}(r:Vals [x,y] us):∃u w',us=[u,w']∧RelV x u∧RelV y w':=by
 cases r with
 | cons r1 r2=>
  cases r2 with
  | cons r3 r4=>cases r4;exact ⟨_,_,rfl,r1,r3⟩
theorem zh5 (hc:X.calm=true):zbh X (.builtin "min") (fun xs H Q=>∃i j,xs=[.int i,.int j]∧Q (.int (if j < i then j else i)) H):=by
 intro pins s σ H xs us Q I r h
 obtain ⟨i,j,rfl,q⟩:=h
 obtain ⟨u,w',rfl,⟨t,rfl⟩,⟨t',rfl⟩⟩:=vals2 r
 refine min_two_ints (I.ok.hd hc) fun h' tk k=>⟨_,H,I.kept k,?_,q⟩
 by_cases hj:j < i
 ·rw [if_pos hj,if_pos hj];exact ⟨_,rfl⟩
 ·rw [if_neg hj,if_neg hj];exact ⟨_,rfl⟩
theorem zi8:zbh X (.builtin "ord") (fun xs H Q=>∃x,xs=[.str x]∧x.length=1∧Q (.int (x.cps.getD 0 0:Nat)) H):=by
 intro pins s σ H xs us Q I r h
 obtain ⟨x,rfl,hz,q⟩:=h
 obtain ⟨u,rfl,t,rfl⟩:=vals1 r
 exact ord_of_one hz ⟨.int _,H,I.tok _,⟨_,rfl⟩,q⟩
def LenV (K:PySem.W.Frag)(x:V)(H:Hp)(n:Nat):Prop:=
 match x with
 | .str y=>y.length≤sizeLine∧n=y.length
 | .byt y=>y.size≤sizeLine∧n=y.size
 | .ref p=>(∃xs,SqL K H p xs∧n=xs.length)∨∃xs,SqT K H p xs∧n=xs.length
 | _=>False
end
end L2
namespace L2
open PySem PySem.Spec PyProof.Rows
structure ObjM (h:Heap)(x dx C:Addr)(mA:Str→Option Value):Prop where
 obj:h.get? x=some (PySem.W.instObj C dx)
 ns:h.Ns1 dx mA
 ne:dx≠x
theorem zep {h:Heap}{dx:Addr}{mA:Str→Option Value}(n:h.Ns1 dx mA):∃od,h.get? dx=some od∧∀name,PySem.W.lookIn name od=some (mA name):=by
 obtain ⟨o,es,ep,ho,hd,hk,_,hm⟩:=n
 refine ⟨o,ho,fun name=>?_⟩
 have e:=hm name
 unfold nsFind findBy at e
 rw [←Array.find?_toList] at e
 unfold PySem.W.lookIn
 rw [hd]
 dsimp only
 split
 ·rename_i y q
  rw [q] at e
  exact congrArg some e
 ·rename_i q
  rw [q] at e
  have a:es.toList.any (·.refKey)=false:=by
   rw [List.any_eq_false]
   intro y hy
   obtain ⟨z,t,hkey⟩:=hk y (Array.mem_toList_iff.mp hy)
   simp [DictEntry.refKey,hkey]
  have a':¬es.toList.any (·.refKey)=true:=by rw [a];exact Bool.false_ne_true
  rw [if_neg a']
  exact congrArg some e
theorem ObjM.look {h:Heap}{x dx C:Addr}{mA:Str→Option Value}(I:ObjM h x dx C mA):∃od,PySem.W.InstAt h x (PySem.W.instObj C dx) C (some od)∧∀name,PySem.W.lookIn name od=some (mA name):=
 let ⟨od,ho,hl⟩:=zep I.ns
 ⟨od,⟨I.obj,rfl,rfl,ho⟩,hl⟩
section
variable {prog:Program}{w:World}{A:Around}{E:Value→Shared→Prop}{s:Shared}{K:PySem.W.Frag}{x dx C f:Addr}{mA:Str→Option Value}{name:Str}{v:Value}
theorem get_map {expr:Bool}{Q:Value→Shared→Prop}(X:K.In s.heap)(I:ObjM s.heap x dx C mA)(hg:PySem.W.plainGet K C name=true)(hh:PySem.W.hasDictIn K C=true)
  (ha:PySem.W.findIn K (.ref C) name=some none) (hv:mA name=some v) (hv':PySem.W.handedIn v=true) (h:Q v {s with toks:=s.toks+1}):
  wpAny (model prog w) A (getAttr (.ref x) name expr) Q E s:=by
 obtain ⟨od,J,hl⟩:=I.look
 exact PySem.W.get_value X J (PySem.W.plainGet_of hg).1 (PySem.W.findObj_own hh ha rfl (by rw [hl,hv])) hv' h
theorem ziO {pl:Sem Bool}{Q:Value ×List Value→Shared→Prop}(X:K.In s.heap)(I:ObjM s.heap x dx C mA)(hg:PySem.W.plainGet K C name=true)
  (hf:PySem.W.findIn K (.ref C) name=some (some (.ref f))) (ht:PySem.W.isFn K (.ref f)=true) (hv:mA name=none) (h:Q (.ref f,[.ref x]) s):
  wpAny (model prog w) A (getMethod (.ref x) name pl) Q E s:=by
 obtain ⟨od,J,hl⟩:=I.look
 exact PySem.W.method_fn X J (PySem.W.plainGet_of hg).1 (PySem.W.plainGet_of hg).2 hf (beq_iff_eq.mp ht) (by show (PySem.W.lookIn name od).map (·.isSome)=some false;rw [hl,hv];rfl) h
theorem zj9 {ns:List Str}{Q:Unit→Shared→Prop}(X:K.In s.heap)(I:ObjM s.heap x dx C mA)
  (hs:PySem.W.findIn K (.ref C) "__setattr__" =some (some (.builtin "object.__setattr__"))) (hp:PySem.W.plainOver K C=true) (ht:PySem.W.takerIn K C name=some none) (hh:PySem.W.hasDictIn K C=true)
  (hw:PySem.Within mA ns) (hsz:ns.length≤sizeLine)
  (h:∀h',ObjM h' x dx C (fun y=>if y=name then some v else mA y)→Heap.SameBut dx s.heap h'→Q () {s with heap:=h',toks:=s.toks+2}):
  wpAny (model prog w) A (setAttr (.ref x) name v) Q E s:=by
 obtain ⟨od,J,hl⟩:=I.look
 refine PySem.W.set_plain X J hs (PySem.W.osa_open (s:={s with toks:=s.toks+1}) (r:=none) X J hp ht fun b=>?_)
 obtain ⟨cd,hc,hd'⟩:=PySem.W.any_some hh
 have hx:s.heap.get? x=some ⟨.ref C,some dx,.plain, #[]⟩:=I.obj
 refine wpAny_bind (wpAny_pure (wpAny_bind (wpAny_bind (wpAny_loadPart hx (wpAny_bind (PySem.W.Looks.here (s:={s with toks:=s.toks+1}) (PySem.W.looks_clsIn X hc) ?_))))))
 rw [hd']
 refine wpAny_pure (a:=some dx) (wpAny_bind (wpAny_pure (wpAny_bind ?_)))
 refine wpAny_nsSet1 (s:={s with toks:=s.toks+1}) I.ns fun h' hn2 hs2=>?_
 obtain ⟨oD,esD,epD,hoD,hdD,hcD⟩:=hn2.count (PySem.Within.cons name v hw)
 refine wpAny_bind (wpAny_lookBehind hoD (by rw [hdD];exact pastItsLine_dict (Nat.le_trans hcD (by rw [List.length_cons];omega))) ?_)
 exact wpAny_pure (h _ ⟨(hs2.2 _ (Ne.symm I.ne)).trans I.obj,hn2,I.ne⟩ hs2)
theorem zja {R:Result→Shared→Prop}{vs:List Value}{kw:List (Str ×Value)}(X:K.In s.heap)(hm:PySem.W.makesIn K C=true)
  (hi:PySem.W.findIn K (.ref C) "__init__" =some (some (.ref f))) (hf:PySem.W.typeIn K (.ref f)=some (.type "function"))
  (h:codeAny (model prog w) (A.under (.builtin "type.__call__" ⟨.ref C::vs,kw⟩)) (.call (.ref f) ⟨.ref (s.heap.objs.size+1)::vs,kw⟩) (PySem.W.InitBack (s.heap.objs.size+1) R)
   {s with heap:=(s.heap.push PySem.W.emptyDict).push (PySem.W.instObj C s.heap.objs.size)}):
  codeAny (model prog w) A (.call (.ref C) ⟨vs,kw⟩) R s:=by
 obtain ⟨hh,g,d,t,os⟩:=s
 exact PySem.W.make_core (PySem.W.makes_of X hm) (PySem.W.looks_findIn X hi) (fun self=>PySem.W.bind_fn X self hf) (.inl rfl) h
end
def putF (f:Str)(v:V):List (Str ×V)→List (Str ×V)
 | []=>[(f,v)]
 | (g,x)::r=>if g=f then (g,v)::r else (g,x)::putF f v r
theorem zb9 (f g:Str)(v:V):∀fs:List (Str ×V),(putF f v fs).lookup g=if g=f then some v else fs.lookup g
 | []=>by
  show List.lookup g [(f,v)]=_
  by_cases h:g=f
  ·have hb:(g==f)=true:=beq_iff_eq.mpr h
   simp only [List.lookup,hb,if_pos h]
  ·have hb:(g==f)=false:=beq_eq_false_iff_ne.mpr h
   simp only [List.lookup,hb,if_neg h]
 | (k,x)::r=>by
  have ih:=zb9 f g v r
  rw [show putF f v ((k,x)::r)=(if k=f then (k,v)::r else (k,x)::putF f v r) from rfl]
  by_cases hk:k=f
  ·rw [if_pos hk]
   by_cases h:g=k
   ·have hb:(g==k)=true:=beq_iff_eq.mpr h
    simp only [List.lookup,hb,if_pos (h.trans hk)]
   ·have hb:(g==k)=false:=beq_eq_false_iff_ne.mpr h
    simp only [List.lookup,hb,if_neg (fun e:g=f=>h (e.trans hk.symm))]
  ·rw [if_neg hk]
   by_cases h:g=k
   ·have hb:(g==k)=true:=beq_iff_eq.mpr h
    simp only [List.lookup,hb,if_neg (fun e:g=f=>hk (h.symm.trans e))]
   ·have hb:(g==k)=false:=beq_eq_false_iff_ne.mpr h
    simp only [List.lookup,hb]
    exact ih
theorem zbz (f:Str)(v:V):∀fs:List (Str ×V),f∈(putF f v fs).map (·.1)∧∀g,g∈fs.map (·.1)→g∈(putF f v fs).map (·.1)
 | []=>⟨by simp [putF],fun g h=>by simp at h⟩
 | (k,x)::r=>by
  obtain ⟨i1,i2⟩:=zbz f v r
  rw [show putF f v ((k,x)::r)=(if k=f then (k,v)::r else (k,x)::putF f v r) from rfl]
  by_cases hk:k=f
  ·rw [if_pos hk]
   subst hk
   exact ⟨by simp,fun g h=>by simpa using h⟩
  ·rw [if_neg hk]
   refine ⟨?_,fun g h=>?_⟩
   ·rw [List.map_cons]
    exact List.mem_cons_of_mem _ i1
   ·rw [List.map_cons] at h ⊢
    rcases List.mem_cons.mp h with e | e
    ·exact List.mem_cons.mpr (.inl e)
    ·exact List.mem_cons_of_mem _ (i2 g e)
theorem zdj (f:Str)(v:V):∀fs:List (Str ×V),(putF f v fs).length≤fs.length+1
 | []=>by simp [putF]
 | (k,x)::r=>by
  have ih:=zdj f v r
  rw [show putF f v ((k,x)::r)=(if k=f then (k,v)::r else (k,x)::putF f v r) from rfl]
  by_cases hk:k=f
  ·rw [if_pos hk,List.length_cons,List.length_cons];omega
  ·rw [if_neg hk,List.length_cons,List.length_cons];omega
theorem RelO.some_of {v:V}{o:Option Value}(r:RelO (some v) o):∃u,o=some u∧RelV v u:=by
 cases o with
 | none=>exact (show False from r).elim
 | some u=>exact ⟨u,rfl,r⟩
theorem RelO.none_of {o:Option Value}(r:RelO none o):o=none:=by
 cases o with
 | none=>rfl
 | some u=>exact (show False from r).elim
theorem zeK {v:V}{u:Value}(r:RelV v u):PySem.W.handedIn u=true:=by
 cases v with
 | non=>cases (show u=Value.none from r);rfl
 | bl b=>cases (show u=Value.bool b from r);rfl
 | int i=>obtain ⟨t,e⟩:=(show∃t,u=Value.int i t from r);cases e;rfl
 | str x=>obtain ⟨t,e⟩:=(show∃t,u=Value.str x t from r);cases e;rfl
 | byt b=>obtain ⟨t,e⟩:=(show∃t,u=Value.bytes b t from r);cases e;rfl
 | flt b=>obtain ⟨t,e⟩:=(show∃t,u=Value.float b t from r);cases e;rfl
 | ref a=>cases (show u=Value.ref a from r);rfl
 | ty n=>cases (show u=Value.type n from r);rfl
section
variable {P:Program}{w:World}{H H':Hp}{h h':Heap}{a C dx:Addr}{fs fs':List (Str ×V)}
theorem zcF (hok:HOk P w H h)(e:H a=some (.ins C dx fs)):∃mA,ObjM h a dx C mA∧(∀f,RelO (fs.lookup f) (mA f))∧PySem.Within mA (fs.map (·.1))∧fs.length≤1000∧H dx=some (.own a):=by
 obtain ⟨d,z,ne,ob,mA,n,r,q⟩:=(show zU P w H h a (.ins C dx fs) from hok a _ e)
 exact ⟨mA,⟨ob,n,ne⟩,r,q,z,d⟩
end
structure Cls (K:PySem.W.Frag)(C:Addr):Prop where
 pg:PySem.W.plainGet K C Str.empty=true
 hd:PySem.W.hasDictIn K C=true
 po:PySem.W.plainOver K C=true
 sa:PySem.W.findIn K (.ref C) "__setattr__" =some (some (.builtin "object.__setattr__"))
theorem Cls.get {K:PySem.W.Frag}{C:Addr}(c:Cls K C)(f:Str):PySem.W.plainGet K C f=true:=c.pg
def z8 (K:PySem.W.Frag)(C:Addr)(f:Str):Prop:=PySem.W.findIn K (.ref C) f=some none
theorem z8.taker {K:PySem.W.Frag}{C:Addr}{f:Str}(n:z8 K C f):PySem.W.takerIn K C f=some none:=by
 unfold PySem.W.takerIn
 rw [show PySem.W.findIn K (.ref C) f=some none from n]
 rfl
structure Con (K:PySem.W.Frag)(C:Addr)(f:Str)(v:V)(u:Value):Prop where
 at_:PySem.W.findIn K (.ref C) f=some (some u)
 rel:RelV v u
 get:PySem.W.specialIn K u "__get__" =some none
 cp:PySem.W.copiedNames.contains f=false
structure Meth (K:PySem.W.Frag)(C:Addr)(m:Str)(f:Addr):Prop where
 at_:PySem.W.findIn K (.ref C) m=some (some (.ref f))
 fn:PySem.W.isFn K (.ref f)=true
 kp:PySem.W.keepIn K (.ref f)=true
section
variable {X:Cx}{pins:List (Addr ×Obj)}{σ:St}{H:Hp}{s:Shared}{a C dx:Addr}{fs:List (Str ×V)}{f:Str}{v:V}{A:Around}{E:Value→Shared→Prop}
theorem zgy {b:Bool}{Q:Value→Shared→Prop}(I:Inv X pins σ H s)(e:H a=some (.ins C dx fs))(c:Cls X.K C)(n:z8 X.K C f)(l:fs.lookup f=some v)
  (h:∀u s',Inv X pins σ H s'→RelV v u→Q u s'):wpAny (model X.prog X.w) A (getAttr (.ref a) f b) Q E s:=by
 obtain ⟨mA,O,r,_,_,_⟩:=zcF I.hok e
 obtain ⟨u,hu,ru⟩:=RelO.some_of (v:=v) (o:=mA f) (by rw [←l];exact r f)
 exact get_map I.kIn O (c.get f) c.hd n hu (zeK ru) (h u _ (I.tok _) ru)
theorem zd3 {m:Str}{g:Addr}{pl:Sem Bool}{Q:Value ×List Value→Shared→Prop}(I:Inv X pins σ H s)(e:H a=some (.ins C dx fs))(c:Cls X.K C)(k:Meth X.K C m g)(l:fs.lookup m=none)
  (h:Q (.ref g,[.ref a]) s):wpAny (model X.prog X.w) A (getMethod (.ref a) m pl) Q E s:=by
 obtain ⟨mA,O,r,_,_,_⟩:=zcF I.hok e
 have hn:mA m=none:=RelO.none_of (by rw [←l];exact r m)
 exact ziO I.kIn O (c.get m) k.at_ k.fn hn h
theorem zgs {y:V}{u:Value}{Q:Unit→Shared→Prop}(I:Inv X pins σ H s)(e:H a=some (.ins C dx fs))(c:Cls X.K C)(n:z8 X.K C f)(hl:fs.length < 1000)(ry:RelV y u)
  (h:∀s',Inv X pins σ (upd H a (.ins C dx (putF f y fs))) s'→Q () s'):wpAny (model X.prog X.w) A (setAttr (.ref a) f u) Q E s:=by
 obtain ⟨mA,O,r,wi,_,ho⟩:=zcF I.hok e
 have hz:(fs.map (·.1)).length≤sizeLine:=by rw [List.length_map,sizeLine_eq];omega
 refine zj9 I.kIn O c.sa c.po n.taker c.hd wi hz fun h' O' sb=>h _ ?_
 have hd:∃o,h'.get? dx=some o:=let ⟨o,_,_,e',_⟩:=O'.ns;⟨o,e'⟩
 refine I.write (x:=a) (e:=dx) (by rw [e];exact True.intro) (.inr ho) (fun b q hb z=>(sb.2 b hb).trans z) hd ?_
 refine ⟨by rw [zk O.ne];exact ho,?_,O.ne,O'.obj,_,O'.ns,fun g=>?_,fun g hg=>?_⟩
 ·have:=zdj f y fs;omega
 ·show RelO ((putF f y fs).lookup g) (if g=f then some u else mA g)
  rw [zb9]
  by_cases q:g=f
  ·rw [if_pos q,if_pos q];exact ry
  ·rw [if_neg q,if_neg q];exact r g
 ·by_cases q:g=f
  ·rw [q];exact (zbz f y fs).1
  ·refine (zbz f y fs).2 g (wi g fun z=>hg ?_)
   show (if g=f then some u else mA g)=none
   rw [if_neg q];exact z
theorem Inv.made (I:Inv X pins σ H s):Inv X pins σ (upd (upd H s.heap.objs.size (.own (s.heap.objs.size+1))) (s.heap.objs.size+1) (.ins C s.heap.objs.size []))
  {s with heap:=(s.heap.push PySem.W.emptyDict).push (PySem.W.instObj C s.heap.objs.size)}:=by
 have e1:(s.heap.push PySem.W.emptyDict).get? s.heap.objs.size=some PySem.W.emptyDict:=Heap.get?_push_size s.heap rfl
 have e2:((s.heap.push PySem.W.emptyDict).push (PySem.W.instObj C s.heap.objs.size)).get? (s.heap.objs.size+1)=some (PySem.W.instObj C s.heap.objs.size):=by
  have:=Heap.get?_push_size (s.heap.push PySem.W.emptyDict) (o:=PySem.W.instObj C s.heap.objs.size) rfl
  rwa [Heap.size_push] at this
 have e3:(s.heap.push PySem.W.emptyDict).Ns s.heap.objs.size (fun _=>none):=⟨PySem.W.emptyDict, #[],_,e1,rfl,(fun e he=>absurd he (by simp)),fun _=>rfl⟩
 have I1:=I.laid (a:=s.heap.objs.size) (o:=.own (s.heap.objs.size+1)) (h':=s.heap.push PySem.W.emptyDict) (t':=s.toks) (fun b u q=>Heap.get?_push_of_some _ q) (Nat.le_refl _) ⟨_,e1⟩
 refine I1.laid (a:=s.heap.objs.size+1) (o:=.ins C s.heap.objs.size []) (t':=s.toks) (fun b u q=>Heap.get?_push_of_some _ q) (Nat.le_of_eq (Heap.size_push _ _)) ?_
 have ne:s.heap.objs.size≠s.heap.objs.size+1:=Nat.ne_of_lt (Nat.lt_succ_self _)
 refine ⟨by rw [zk ne,zh],Nat.zero_le _,ne,e2,fun _=>none,(Heap.Ns1.of_empty e3).at fun o q=>Heap.get?_push_of_some _ q,fun _=>True.intro,fun y hy=>absurd rfl hy⟩
theorem zhc {prog:Program}{w:World}{env:Env}{e:Expr}{f:Str}{pos:Pos}{s:Shared}{Q:Value→Shared→Prop}(hb:attributeBase e f env (eval e env)=eval e env)
  (h:wpAny (model prog w) A (eval e env) (fun o s₁=>wpAny (model prog w) A (getAttr o f true) Q E s₁) E s):wpAny (model prog w) A (eval (.Attribute e f pos) env) Q E s:=
 Attribute_any_ h (by rw [arm_eval_Attribute,hb])
end
def tFld (K:PySem.W.Frag)(ta:TE)(f:Str):TE:=fun σ H Q=>ta σ H fun x H1=>∃a C dx fs v,x=.ref a∧H1 a=some (.ins C dx fs)∧Cls K C∧z8 K C f∧fs.lookup f=some v∧Q v H1
def tCon (K:PySem.W.Frag)(ta:TE)(f:Str):TE:=fun σ H Q=>ta σ H fun x H1=>∃a C dx fs v u,x=.ref a∧H1 a=some (.ins C dx fs)∧Cls K C∧Con K C f v u∧fs.lookup f=none∧Q v H1
def sFld (K:PySem.W.Frag)(ta tv:TE)(f:Str):TS:=fun D σ H=>tv σ H fun y H1=>ta σ H1 fun x H2=>∃a C dx fs,x=.ref a∧H2 a=some (.ins C dx fs)∧Cls K C∧z8 K C f∧fs.length < 1000∧
 D.nx σ (upd H2 a (.ins C dx (putF f y fs)))
def InOp (X:Cx)(op:Operator)(rd:V→V→Hp→VK→Prop):Prop:=
 ∀(pins:List (Addr ×Obj)) (s:Shared) (σ:St) (H:Hp) (x y:V) (u v:Value) (Q:VK),Inv X pins σ H s→RelV x u→RelV y v→rd x y H Q→wpAny (model X.prog X.w) X.A (inplaceOp op u v) (EP X pins σ Q) X.xe s
def zmD (K:PySem.W.Frag)(ta tv:TE)(rd:V→V→Hp→VK→Prop)(f:Str):TS:=fun D σ H=>ta σ H fun x H1=>∃a C dx fs v,x=.ref a∧H1 a=some (.ins C dx fs)∧Cls K C∧z8 K C f∧fs.lookup f=some v∧
 tv σ H1 fun y H2=>rd v y H2 fun z H3=>∃dx' fs',H3 a=some (.ins C dx' fs')∧fs'.length < 1000∧D.nx σ (upd H3 a (.ins C dx' (putF f z fs')))
section
variable {X:Cx}{o e value:Expr}{f:Str}{pos pos' tpos:Pos}{ta tv:TE}
theorem zcZ (he:PE X e ta)(hb:attributeBase e f X.env (eval e X.env)=eval e X.env):PE X (.Attribute e f pos) (tFld X.K ta f):=by
 intro pins s σ H Q I h
 refine zhc hb (thn (he pins s σ H _ I h) fun u s1 ⟨x,H1,I1,rx,a,C,dx,fs,v,ex,ea,c,n,l,q⟩=>?_)
 subst ex
 obtain rfl:u=Value.ref a:=rx
 exact zgy I1 ea c n l fun u' s2 I2 ru=>⟨v,H1,I2,ru,q⟩
theorem zlS (ha:PE X o ta)(hv:PE X value tv)(hs:swapsWith value (some (.Attribute o f pos')) pos.line X.env=pure false):PS X (.Assign [.Attribute o f pos'] value pos) (sFld X.K ta tv f):=by
 intro pins s σ H D I h
 refine plainObj_wpAny_Assign_Attribute (thn (hv pins s σ H _ I h) fun u s1 ⟨y,H1,I1,ry,q⟩=>thn (ha pins s1 σ H1 _ I1 q) fun ov s2 ⟨x,H2,I2,rx,a,C,dx,fs,ex,ea,c,n,l,q2⟩=>?_) hs
 subst ex
 obtain rfl:ov=Value.ref a:=rx
 exact zgs I2 ea c n l ry fun s3 I3=>⟨σ,_,I3,q2⟩
def rAdd:V→V→Hp→VK→Prop:=fun x y H Q=>∃i j,x=.int i∧y=.int j∧Q (.int (i+j)) H
def rSub:V→V→Hp→VK→Prop:=fun x y H Q=>∃i j,x=.int i∧y=.int j∧Q (.int (i - j)) H
theorem zkD {pl:Sem Bool}{m:Str}{apos:Pos}{args:List Expr}{pins:List (Addr ×Obj)}{s:Shared}{σ:St}{H:Hp}{Q:Value→Shared→Prop}{te:TE}(he:PE X e te)(I:Inv X pins σ H s)
  (h:te σ H fun x H1=>∃a C dx fs g,x=.ref a∧H1 a=some (.ins C dx fs)∧Cls X.K C∧Meth X.K C m g∧fs.lookup m=none∧
   ∀s1,Inv X pins σ H1 s1→wpAny (model X.prog X.w) X.A (callWith pos (.ref g) [.ref a] (backTo pos (starEach args X.env)) (backToKw pos (keywordEach [] X.env))) Q X.xe s1)
  (ht:eval (.Call (.Attribute e m apos) args [] pos) X.env=(do
   let ov←eval e X.env
   standAt apos.atName
   let (f,first) ←holding [ov] (getMethod ov m pl)
   callWith pos f first (backTo pos (starEach args X.env)) (backToKw pos (keywordEach [] X.env)))):
  wpAny (model X.prog X.w) X.A (eval (.Call (.Attribute e m apos) args [] pos) X.env) Q X.xe s:=by
 refine PySem.W.methodCall_KW (pl:=pl) (thn (he pins s σ H _ I h) fun u s1 ⟨x,H1,I1,rx,a,C,dx,fs,g,ex,ea,c,k,l,q⟩=>?_) ht
 subst ex
 obtain rfl:u=Value.ref a:=rx
 exact zd3 I1 ea c k l (q s1 I1)
end
section
variable {X:Cx}{pins:List (Addr ×Obj)}{σ:St}{H:Hp}{s:Shared}{A:Around}{E:Value→Shared→Prop}{Q:Value→Shared→Prop}{c:Value}{b:Bool}
inductive TyOf (K:PySem.W.Frag) (H:Hp):V→Value→Prop where
 | non:TyOf K H .non (.type "NoneType")
 | bl (x:Bool):TyOf K H (.bl x) (.type "bool")
 | int (i:Int):TyOf K H (.int i) (.type "int")
 | str (x:Str):TyOf K H (.str x) (.type "str")
 | flt (x:UInt64):TyOf K H (.flt x) (.type "float")
 | lst {a:Addr} {xs:List V} (e:H a=some (.lst xs)):TyOf K H (.ref a) (.type "list")
 | frz {a:Addr} {o:Obj} {xs:List V} (e:H a=some (.frz o (.lst xs))):TyOf K H (.ref a) (.type "list")
 | tup {a:Addr} {xs:List V} (e:H a=some (.tup xs)):TyOf K H (.ref a) (.type "tuple")
 | dK {a:Addr} {kvs:List (Key ×V)} (e:H a=some (.dK kvs)):TyOf K H (.ref a) (.type "dict")
 | dT {a:Addr} {kvs:List (List Key ×V)} (e:H a=some (.dT kvs)):TyOf K H (.ref a) (.type "dict")
 | ins {a C dx:Addr} {fs:List (Str ×V)} (e:H a=some (.ins C dx fs)) (cl:Cls K C) (ha:PySem.W.findIn K (.ref C) "__class__" =some (some (.builtin "object.__class__")))
   (hn:PySem.W.specialIn K (.builtin "object.__class__") "__get__" =some (some (.builtin "getset_descriptor.__get__"))) (htk:PySem.W.takesIn K (.builtin "object.__class__")=some true)
   (hm:PySem.W.mroIn K C (.type "object")=some true):TyOf K H (.ref a) (.ref C)
theorem zhp {x:V}{u t:Value}(I:Inv X pins σ H s)(rx:RelV x u)(ty:TyOf X.K H x t)(e:PySem.W.kitOne X.K t c=some b)(h:∀tk,Q (.bool b) {s with toks:=tk}):
  wpAny (model X.prog X.w) A (call (.builtin "isinstance") [u,c]) Q E s:=by
 cases ty with
 | non=>cases (show u=Value.none from rx);exact PySem.W.kia_one PySem.W.kitx_none I.kIn True.intro e (fun z=>nomatch z) h
 | bl y=>cases (show u=Value.bool y from rx);exact PySem.W.kia_one PySem.W.kitx_bool I.kIn True.intro e (fun z=>nomatch z) h
 | int i=>obtain ⟨t,q⟩:=(show∃t,u=Value.int i t from rx);cases q;exact PySem.W.kia_one PySem.W.kitx_int I.kIn True.intro e (fun z=>nomatch z) h
 | str y=>obtain ⟨t,q⟩:=(show∃t,u=Value.str y t from rx);cases q;exact PySem.W.kia_one PySem.W.kitx_str I.kIn True.intro e (fun z=>nomatch z) h
 | flt y=>obtain ⟨t,q⟩:=(show∃t,u=Value.float y t from rx);cases q;exact PySem.W.kia_one PySem.W.kitx_float I.kIn True.intro e (fun z=>nomatch z) h
 | @lst a xs ea=>
  cases (show u=Value.ref a from rx)
  obtain ⟨_,_,n,_,h1⟩:=(show zU X.prog X.w H s.heap a (.lst xs) from I.hok a _ ea)
  exact PySem.W.kia_one PySem.W.kitx_list I.kIn ⟨_,h1,rfl⟩ e (fun z=>nomatch z) h
 | @frz a ob xs ea=>
  cases (show u=Value.ref a from rx)
  obtain ⟨_,_,_,n,_,h1⟩:=(show zU X.prog X.w H s.heap a (.frz ob (.lst xs)) from I.hok a _ ea)
  exact PySem.W.kia_one PySem.W.kitx_list I.kIn ⟨_,h1,rfl⟩ e (fun z=>nomatch z) h
 | @tup a xs ea=>
  cases (show u=Value.ref a from rx)
  obtain ⟨_,_,_,p⟩:=(show zU X.prog X.w H s.heap a (.tup xs) from I.hok a _ ea)
  obtain ⟨o,h1,h2,_⟩:=p
  exact PySem.W.kia_one PySem.W.kitx_tuple I.kIn ⟨o,h1,h2⟩ e (fun z=>nomatch z) h
 | @dK a kvs ea=>
  cases (show u=Value.ref a from rx)
  obtain ⟨_,_,vs,_,p⟩:=(show zU X.prog X.w H s.heap a (.dK kvs) from I.hok a _ ea)
  obtain ⟨o,es,ep,h1,h2,_⟩:=p
  exact PySem.W.kia_one PySem.W.kitx_dict I.kIn ⟨o,h1,h2.1⟩ e (fun z=>nomatch z) h
 | @dT a kvs ea=>
  cases (show u=Value.ref a from rx)
  obtain ⟨_,_,xs,_,o,es,ep,h1,h2,_⟩:=(show zU X.prog X.w H s.heap a (.dT kvs) from I.hok a _ ea)
  exact PySem.W.kia_one PySem.W.kitx_dict I.kIn ⟨o,h1,h2.1⟩ e (fun z=>nomatch z) h
 | @ins a C dx fs ea cl ha hn htk hm=>
  cases (show u=Value.ref a from rx)
  obtain ⟨mA,O,_⟩:=zcF I.hok ea
  obtain ⟨od,J,_⟩:=O.look
  exact PySem.W.kia_one (PySem.W.kitx_own (cl.get _) cl.hd ha hn htk hm) I.kIn J e (fun z=>nomatch z) h
end
end L2
namespace L2
open PySem PySem.Spec PyProof.Rows
structure Room (k:Nat)(A:Around):Prop where
 hd:A.handled=none
 dp:A.depth+3 * k+5 < recursionLimit
 un:A.units+16 * k+200 < cLine
theorem Room.mono {j k:Nat}{A:Around}(r:Room k A)(h:j≤k):Room j A:=⟨r.hd,by have:=r.dp;omega,by have:=r.un;omega⟩
theorem Room.deeper {k:Nat}{A:Around}(r:Room (k+1) A)(env:Env):Room k (A.deeper env):=
 ⟨r.hd,by have:=r.dp;show A.depth+1+3 * k+5 < _;omega,by have:=r.un;show A.units+3+16 * k+200 < _;omega⟩
theorem Room.in1 {k:Nat}{A:Around}(r:Room (k+1) A):Room k A.in1:=
 ⟨r.hd,by have:=r.dp;show A.depth+3 * k+5 < _;omega,by have:=r.un;show A.units+1+16 * k+200 < _;omega⟩
theorem zgh {A:Around}{C:Addr}{us:List Value}{kw:List (Str ×Value)}:(A.under (.builtin "type.__call__" ⟨.ref C::us,kw⟩)).depth=A.depth+1:=by
 first | rfl | simp [Around.under,Code.weight,Code.isCreation,Code.isGuard,Code.isCaller,Code.frames,Code.isFrame,guardIds]
theorem zf4 {A:Around}{C:Addr}{us:List Value}{kw:List (Str ×Value)}:(A.under (.builtin "type.__call__" ⟨.ref C::us,kw⟩)).units=A.units+1:=by
 first | rfl | simp [Around.under,Code.cUnits,Code.frames,Code.isFrame]
theorem Room.make {k:Nat}{A:Around}(r:Room (k+1) A)(C:Addr)(us:List Value)(kw:List (Str ×Value)):Room k (A.under (.builtin "type.__call__" ⟨.ref C::us,kw⟩)):=
 ⟨r.hd,by have:=r.dp;rw [zgh];omega,by have:=r.un;rw [zf4];omega⟩
theorem Room.depth {k:Nat}{A:Around}(r:Room k A):A.depth < recursionLimit:=by have:=r.dp;omega
theorem Room.units {k:Nat}{A:Around}(r:Room k A):A.units+64 < cLine:=by have:=r.un;omega
def tNil:TA:=fun _ H Q=>Q [] H
def zmc (ta:TE)(tr:TA):TA:=fun σ H Q=>ta σ H fun x H1=>tr σ H1 fun xs H2=>Q (x::xs) H2
section
variable {X:Cx}{e:Expr}{es:List Expr}{te:TE}{t:TA}{pos:Pos}
theorem zc:PA X [] tNil:=fun _ _ _ _ H Q I h=>Calls.spliced_nil ⟨[],H,I,.nil,h⟩
theorem za (ha:PE X e te)(hr:PA X es t)(hs:starEach (e::es) X.env=(false,eval e X.env)::starEach es X.env:=by rfl):PA X (e::es) (zmc te t):=by
 intro pos pins s σ H Q I h
 rw [hs]
 show wpAny _ _ (spliced ((false,eval e X.env)::backTo pos (starEach es X.env))) _ _ s
 refine Calls.spliced_cons (thn (ha pins s σ H _ I h) fun u s1 ⟨x,H1,I1,r1,q1⟩=>?_)
 exact thn (hr pos pins s1 σ H1 _ I1 q1) fun us s2 ⟨xs,H2,I2,r2,q2⟩=>⟨x::xs,H2,I2,.cons r1 r2,q2⟩
def tTup (t:TA):TE:=fun σ H Q=>t σ H fun xs H1=>xs.length≤sizeLine∧∀p,H1 p=none→Q (.ref p) (upd H1 p (.tup xs))
def tLst (t:TA):TE:=fun σ H Q=>t σ H fun xs H1=>xs.length≤sizeLine∧∀p,H1 p=none→Q (.ref p) (upd H1 p (.lst xs))
theorem zV {x1}(h:PA X es t):PE X (.Tuple es x1 pos) (tTup t):=by
 intro pins s σ H Q I hq
 refine wpAny_Tuple_spliced (thn (h pos pins s σ H _ I hq) fun us s1 ⟨xs,H1,I1,r,z,q⟩=>⟨by rw [←r.length];exact z,?_⟩)
 have hf:H1 s1.heap.objs.size=none:=I1.hok.fresh (Nat.le_refl _)
 refine ⟨.ref s1.heap.objs.size,upd H1 s1.heap.objs.size (.tup xs),I1.laid (t':=s1.toks) (fun b u e=>Heap.get?_push_of_some _ e) (Nat.le_refl _) ?_,rfl,q _ hf⟩
 exact ⟨z,us,r,⟨_,Heap.get?_push_size _ rfl,rfl,_,rfl⟩⟩
theorem zaa (h:PA X es t):PE X (.List es pos) (tLst t):=by
 intro pins s σ H Q I hq
 refine wpAny_List_spliced (thn (h pos pins s σ H _ I hq) fun us s1 ⟨xs,H1,I1,r,z,q⟩=>⟨by rw [←r.length];exact z,?_⟩)
 have hf:H1 s1.heap.objs.size=none:=I1.hok.fresh (Nat.le_refl _)
 refine ⟨.ref s1.heap.objs.size,upd H1 s1.heap.objs.size (.lst xs),I1.laid (t':=s1.toks) (fun b u e=>Heap.get?_push_of_some _ e) (Nat.le_refl _) ?_,rfl,q _ hf⟩
 exact ⟨z,us,0,r,Heap.get?_push_size _ rfl⟩
end
abbrev Sp:=List V→Hp→VK→XK→Prop
abbrev CXT:=List Env→Hp→Shared→XK→Value→Shared→Prop
structure Env0 (P:Program)(w:World)(K:PySem.W.Frag)(mg:Str→Option Value)(base:Heap)(A:Around)(outer:List Env)(s:Shared)(H:Hp):Prop where
 frames:A.frames=some outer
 mod:Mod K mg base
 bs:∀b o,base.get? b=some o→s.heap.get? b=some o∧H b=none
 bsz:base.objs.size≤s.heap.objs.size
 funs:s.heap.FunFrames base outer
 frf:∀b∈frs outer,H b=none
 hok:HOk P w H s.heap
 bare:AllBare s.gens
def CE (outer:List Env)(P:Program)(w:World)(H:Hp)(s:Shared)(Q:VK)(u:Value)(s':Shared):Prop:=
 ∃v H',s'.os=s.os∧AllBare s'.gens∧Un (frs outer) [] H H' s.heap s'.heap∧HOk P w H' s'.heap∧RelV v u∧Q v H'
def CR (CX:CXT)(outer:List Env)(P:Program)(w:World)(H:Hp)(s:Shared)(Q:VK)(E:XK)(r:Result)(s':Shared):Prop:=
 match r with
 | .ok (.ret u)=>CE outer P w H s Q u s'
 | .ok _=>False
 | .error e=>CX outer H s E e s'
structure FnOk (P:Program)(w:World)(K:PySem.W.Frag)(mg:Str→Option Value)(base:Heap)(CX:CXT)(k:Nat)(f:Addr)(fd:FuncData)(ps:List Str)(sp:Sp):Prop where
 len:∀vs H Q E,sp vs H Q E→vs.length=ps.length
 run:∀(A:Around) (outer:List Env) (s:Shared) (H:Hp) (args:Args) (us:List Value) (vs:List V) (Q:VK) (E:XK),Room k A→Env0 P w K mg base A outer s H→BindsTo s fd args (ps.zip us)→Vals vs us→sp vs H Q E→
  codeAny (model P w) A (.call (.ref f) args) (CR CX outer P w H s Q E) s
theorem FnOk.mono {P:Program}{w:World}{K:PySem.W.Frag}{mg:Str→Option Value}{base:Heap}{CX:CXT}{j k:Nat}{f:Addr}{fd:FuncData}{ps:List Str}{sp:Sp}(F:FnOk P w K mg base CX j f fd ps sp)(h:j≤k):
  FnOk P w K mg base CX k f fd ps sp:=⟨F.len,fun A outer s H args us vs Q E hr=>F.run A outer s H args us vs Q E (hr.mono h)⟩
theorem FnOk.imp {P:Program}{w:World}{K:PySem.W.Frag}{mg:Str→Option Value}{base:Heap}{CX:CXT}{k:Nat}{f:Addr}{fd:FuncData}{ps:List Str}{sp sp':Sp}(F:FnOk P w K mg base CX k f fd ps sp)
  (h:∀vs H Q E,sp' vs H Q E→sp vs H Q E):FnOk P w K mg base CX k f fd ps sp':=
 ⟨fun vs H Q E q=>F.len vs H Q E (h _ _ _ _ q),fun A outer s H args us vs Q E hr he hb hv hs=>F.run A outer s H args us vs Q E hr he hb hv (h _ _ _ _ hs)⟩
theorem Env0.make {P:Program}{w:World}{K:PySem.W.Frag}{mg:Str→Option Value}{base:Heap}{A:Around}{outer:List Env}{s:Shared}{H:Hp}(e:Env0 P w K mg base A outer s H)(C:Addr)(us:List Value)(kw:List (Str ×Value)):
  Env0 P w K mg base (A.under (.builtin "type.__call__" ⟨.ref C::us,kw⟩)) outer s H:=⟨by first | exact e.frames | (simpa [Around.under,Code.envs,Code.isFrame,pushEnvs] using e.frames),e.mod,e.bs,e.bsz,e.funs,e.frf,e.hok,e.bare⟩
theorem Env0.in1 {P:Program}{w:World}{K:PySem.W.Frag}{mg:Str→Option Value}{base:Heap}{A:Around}{outer:List Env}{s:Shared}{H:Hp}(e:Env0 P w K mg base A outer s H):
  Env0 P w K mg base A.in1 outer s H:=⟨e.frames,e.mod,e.bs,e.bsz,e.funs,e.frf,e.hok,e.bare⟩
section
variable {X:Cx}{pins:List (Addr ×Obj)}{σ:St}{H:Hp}{s s':Shared}
theorem Inv.env0 (I:Inv X pins σ H s):Env0 X.prog X.w X.K X.mg X.base X.A X.stack s H:=
 ⟨I.ok.frames,I.ok.mod,I.bs,Nat.le_trans I.ok.bsz I.sz,I.stack,I.stkFree,I.hok,I.bare⟩
theorem Inv.after {Q:VK}{u:Value}(I:Inv X pins σ H s)(h:CE X.stack X.prog X.w H s Q u s'):EP X pins σ Q u s':=by
 obtain ⟨v,H',os,bare,un,hok,r,q⟩:=h
 obtain ⟨hh,g,d,t,os'⟩:=s'
 obtain rfl:os'=s.os:=os
 exact ⟨v,H',I.call (h':=hh) (g':=g) (d':=d) (t':=t) (ch:=[]) un hok bare (fun b z=>absurd z (by simp)),r,q⟩
end
def zjD (sp:Sp)(dvs:List V)(E:XK)(t:TA):TE:=fun σ H Q=>t σ H fun vs H1=>sp (vs++dvs) H1 Q E
def zkO (C:Addr)(m:Str)(sp:Sp)(dvs:List V)(E:XK)(ta:TE)(t:TA):TE:=fun σ H Q=>ta σ H fun x H1=>∃a dx fs,x=.ref a∧H1 a=some (.ins C dx fs)∧fs.lookup m=none∧
 t σ H1 fun vs H2=>sp (x::(vs++dvs)) H2 Q E
def zkM (C:Addr)(sp:Sp)(dvs:List V)(E:XK)(t:TA):TE:=fun σ H Q=>t σ H fun vs H1=>∀x dx,H1 x=none→H1 dx=none→dx≠x→
 sp (.ref x::(vs++dvs)) (upd (upd H1 dx (.own x)) x (.ins C dx [])) (fun v H2=>v=.non∧Q (.ref x) H2) E
def Binds (K:PySem.W.Frag)(fd:FuncData)(ps:List Str)(ds:List Value):Prop:=
 ∀(s:Shared) (us:List Value),K.In s.heap→(us++ds).length=ps.length→BindsTo s fd ⟨us,[]⟩ (ps.zip (us++ds))
theorem Binds.all {K:PySem.W.Frag}{fd:FuncData}{ps:List Str}(h:∀us:List Value,us.length=ps.length→bindArgs fd ⟨us,[]⟩=pure (ps.zip us)):Binds K fd ps []:=fun s us _ hl=>by
 rw [List.append_nil] at hl ⊢
 exact .of_eq (h us hl)
def zbA (CX:CXT)(X:Cx)(E:XK):Prop:=∀(pins:List (Addr ×Obj)) (σ:St) (H:Hp) (s:Shared) (e:Value) (s':Shared),Inv X pins σ H s→CX X.stack H s E e s'→X.xe e s'
section
variable {X:Cx}{CX:CXT}{k:Nat}{f C:Addr}{fd:FuncData}{ps:List Str}{sp:Sp}{dvs:List V}{ds:List Value}{E:XK}{x m:Str}{p pos apos:Pos}{e o:Expr}{es:List Expr}{ta:TE}{t:TA}
theorem ziA {pins:List (Addr ×Obj)}{σ:St}{H:Hp}{s:Shared}{Q:VK}{us:List Value}{vs:List V}(F:FnOk X.prog X.w X.K X.mg X.base CX k f fd ps sp)(hr:Room k X.A)(hb:Binds X.K fd ps ds)(hd:Vals dvs ds)(hx:zbA CX X E)
  (I:Inv X pins σ H s) (r:Vals vs us) (h:sp (vs++dvs) H Q E):wpAny (model X.prog X.w) X.A (call (.ref f) us) (EP X pins σ Q) X.xe s:=by
 have r2:Vals (vs++dvs) (us++ds):=r.append hd
 have hl:(us++ds).length=ps.length:=by rw [←r2.length];exact F.len _ _ _ _ h
 refine wpAny_call (codeAny_mono (F.run X.A X.stack s H ⟨us,[]⟩ (us++ds) (vs++dvs) Q E hr I.env0 (hb s us I.kIn hl) r2 h) fun r s' hq=>?_)
 cases r with
 | error e=>exact hx pins σ H s e s' I hq
 | ok fl=>
  cases fl with
  | ret u=>exact I.after hq
  | next=>exact False.elim hq
  | brk=>exact False.elim hq
  | cont=>exact False.elim hq
theorem zhi (F:FnOk X.prog X.w X.K X.mg X.base CX k f fd ps sp)(hr:Room k X.A)(hg:Gl X x)(hm:X.mg x=some (.ref f))(hk:PySem.W.keepIn X.K (.ref f)=true)(hb:Binds X.K fd ps ds)(hd:Vals dvs ds)(hx:zbA CX X E)
  (ha:PA X (e::es) t) (hdb:(x==("__debug__" :Str))=false:=by decide) (he:starEach (e::es) X.env=(false,eval e X.env)::starEach es X.env:=by rfl) (hpl:(backTo pos (starEach es X.env)).any (·.1)=false:=by rfl):
  PE X (.Call (.Name x p) (e::es) [] pos) (zjD sp dvs E t):=by
 intro pins s σ H Q I h
 refine wpAny_Call_Name_kw (zci I hg hm ?_ hdb)
 refine PySem.W.callWith_K (h₀:=X.base) I.ok.mod.kin hk (thn (ha pos pins s σ H _ I h) fun us s1 ⟨vs,H1,I1,r,q⟩=>⟨I1.kIn,?_⟩) he hpl
 exact ziA F hr hb hd hx I1 r q
theorem zkr {pl:Sem Bool}(he:PE X o ta)(c:Cls X.K C)(hm:Meth X.K C m f)(F:FnOk X.prog X.w X.K X.mg X.base CX k f fd ps sp)(hr:Room k X.A)(hb:Binds X.K fd ps ds)(hd:Vals dvs ds)(hx:zbA CX X E)(ha:PA X (e::es) t)
  (hst:starEach (e::es) X.env=(false,eval e X.env)::starEach es X.env:=by rfl) (hpl:(backTo pos (starEach es X.env)).any (·.1)=false:=by rfl)
  (ht:eval (.Call (.Attribute o m apos) (e::es) [] pos) X.env=(do
   let ov←eval o X.env
   standAt apos.atName
   let (f,first) ←holding [ov] (getMethod ov m pl)
   callWith pos f first (backTo pos (starEach (e::es) X.env)) (backToKw pos (keywordEach [] X.env))):=by rfl):
  PE X (.Call (.Attribute o m apos) (e::es) [] pos) (zkO C m sp dvs E ta t):=by
 intro pins s σ H Q I h
 refine PySem.W.methodCall_KW (pl:=pl) (thn (he pins s σ H _ I h) fun u s1 ⟨x,H1,I1,rx,a,dx,fs,ex,ea,l,q⟩=>?_) ht
 subst ex
 obtain rfl:u=Value.ref a:=rx
 refine zd3 I1 ea c hm l ?_
 refine PySem.W.callWith_K (first:=[.ref a]) (h₀:=X.base) I.ok.mod.kin hm.kp (thn (ha pos pins s1 σ H1 _ I1 q) fun us s2 ⟨vs,H2,I2,r,q2⟩=>⟨I2.kIn,?_⟩) hst hpl
 exact ziA (us:=.ref a::us) (vs:=.ref a::vs) F hr hb hd hx I2 (.cons rfl r) q2
structure Mk (K:PySem.W.Frag)(C f:Addr):Prop where
 makes:PySem.W.makesIn K C=true
 init:PySem.W.findIn K (.ref C) "__init__" =some (some (.ref f))
 fn:PySem.W.isFn K (.ref f)=true
 kp:PySem.W.keepIn K (.ref C)=true
theorem zjd {pins:List (Addr ×Obj)}{σ:St}{H:Hp}{s:Shared}{Q:VK}{us:List Value}{vs:List V}(M:Mk X.K C f)(F:FnOk X.prog X.w X.K X.mg X.base CX k f fd ps sp)(hr:Room (k+1) X.A)(hb:Binds X.K fd ps ds)(hd:Vals dvs ds)
  (hx:zbA CX X E) (I:Inv X pins σ H s) (r:Vals vs us)
  (h:∀x dx,H x=none→H dx=none→dx≠x→sp (.ref x::(vs++dvs)) (upd (upd H dx (.own x)) x (.ins C dx [])) (fun v H2=>v=.non∧Q (.ref x) H2) E):
  wpAny (model X.prog X.w) X.A (call (.ref C) us) (EP X pins σ Q) X.xe s:=by
 have hq:=h (s.heap.objs.size+1) s.heap.objs.size (I.hok.fresh (Nat.le_succ _)) (I.hok.fresh (Nat.le_refl _)) (Nat.ne_of_lt (Nat.lt_succ_self _))
 have I2:=Inv.made (C:=C) I
 have r2:Vals (V.ref (s.heap.objs.size+1)::(vs++dvs)) (Value.ref (s.heap.objs.size+1)::(us++ds)):=.cons rfl (r.append hd)
 have hl:(Value.ref (s.heap.objs.size+1)::us++ds).length=ps.length:=by
  have e:=r2.length
  rw [F.len _ _ _ _ hq] at e
  exact e.symm
 refine wpAny_call (zja (f:=f) I.kIn M.makes M.init (beq_iff_eq.mp M.fn) (codeAny_mono (F.run _ X.stack _ _ ⟨Value.ref (s.heap.objs.size+1)::us,[]⟩ (Value.ref (s.heap.objs.size+1)::(us++ds)) _ _ E (hr.make C us [])
  (I2.env0.make C us []) (hb _ (Value.ref (s.heap.objs.size+1)::us) I2.kIn hl) r2 hq) fun r s' hq'=>?_))
 cases r with
 | error e=>exact hx pins σ _ _ e s' I2 hq'
 | ok fl=>
  cases fl with
  | ret u=>
   obtain ⟨v,H',I3,rv,ev,q3⟩:=I2.after hq'
   subst ev
   exact ⟨rv,⟨V.ref (s.heap.objs.size+1),H',I3,rfl,q3⟩⟩
  | next=>exact False.elim hq'
  | brk=>exact False.elim hq'
  | cont=>exact False.elim hq'
theorem zje (M:Mk X.K C f)(F:FnOk X.prog X.w X.K X.mg X.base CX k f fd ps sp)(hr:Room (k+1) X.A)(hg:Gl X x)(hm:X.mg x=some (.ref C))(hb:Binds X.K fd ps ds)(hd:Vals dvs ds)(hx:zbA CX X E)
  (hdb:(x==("__debug__" :Str))=false:=by decide):PE X (.Call (.Name x p) [] [] pos) (zkM C sp dvs E tNil):=by
 intro pins s σ H Q I h
 refine wpAny_Call_Name_kw (zci I hg hm ?_ hdb)
 exact PySem.W.callWith_K0 I.kIn M.kp (zjd (us:=[]) M F hr hb hd hx I .nil h)
end
def PK (X:Cx)(kws:List Keyword)(t:TA):Prop:=
 ∀(pos:Pos) (pins:List (Addr ×Obj)) (s:Shared) (σ:St) (H:Hp) (Q:List V→Hp→Prop),Inv X pins σ H s→t σ H Q→wpAny (model X.prog X.w) X.A (evalAll ((backToKw pos (keywordEach kws X.env)).map (·.2))) (AP X pins σ Q) X.xe s
section
variable {X:Cx}{CX:CXT}{k:Nat}{f C:Addr}{fd:FuncData}{ps ks:List Str}{sp:Sp}{E:XK}{x m:Str}{p pos apos kpos:Pos}{e o:Expr}{es:List Expr}{kws:List Keyword}{te ta:TE}{t tk:TA}{nm:Option Str}
structure zmS (K:PySem.W.Frag)(fd:FuncData)(ps ks:List Str)(g:List Value→List Value→List Value)(gV:List V→List V→List V):Prop where
 to:∀(s:Shared) (us ws:List Value),K.In s.heap→(g us ws).length=ps.length→BindsTo s fd ⟨us,ks.zip ws⟩ (ps.zip (g us ws))
 rel:∀{vs:List V} {us:List Value} {zs:List V} {ws:List Value},Vals vs us→Vals zs ws→Vals (gV vs zs) (g us ws)
def zmR (sp:Sp)(gV:List V→List V→List V)(E:XK)(t tk:TA):TE:=fun σ H Q=>t σ H fun vs H1=>tk σ H1 fun zs H2=>sp (gV vs zs) H2 Q E
variable {g:List Value→List Value→List Value}{gV:List V→List V→List V}
end
structure zu (N P:List Str)(sc:Scope):Prop where
 kind:sc.kind=.function
 co:sc.isCoroutine=false
 gen:sc.isGenerator=false
 nd:N.Nodup
 pre:N.take P.length=P
 par:∀x∈P,sc.names.lookup x=some .local∨sc.names.lookup x=some .cell
 nofree:∀y∈sc.names,y.2≠ .free
theorem zes {kindOf:Str→Option NameKind}{x:Str}:∀{binds:List (Str ×Value)} {m:Str→Option Value},(∀v,(x,v)∉binds)→bindL kindOf binds m x=m x
 | [],_,_=>rfl
 | (n,v)::r,m,h=>by
  unfold bindL
  rw [zes fun w hw=>h w (List.mem_cons_of_mem _ hw)]
  split
  ·have:x≠n:=by rintro rfl;exact h v List.mem_cons_self
   simp [this]
  ·rfl
theorem zen {kindOf:Str→Option NameKind}{x:Str}:∀{binds:List (Str ×Value)} {m:Str→Option Value},(∀v,(x,v)∉binds)→bindC kindOf binds m x=m x
 | [],_,_=>rfl
 | (n,v)::r,m,h=>by
  unfold bindC
  rw [zen fun w hw=>h w (List.mem_cons_of_mem _ hw)]
  split
  ·rfl
  ·have:x≠n:=by rintro rfl;exact h v List.mem_cons_self
   simp [this]
theorem zey {kindOf:Str→Option NameKind}{x:Str}{v:Value}:∀{P:List Str} {vs:List Value} {i:Nat} {m:Str→Option Value},P.Nodup→P[i]? =some x→vs[i]? =some v→kindOf x=some .local→
  bindL kindOf (P.zip vs) m x=some v
 | [],_,_,_,_,h,_,_=>by simp at h
 | _::_,[],_,_,_,_,h,_=>by simp at h
 | p::P,w::vs,0,m,nd,h1,h2,hk=>by
  simp at h1 h2;subst h1;subst h2
  show bindL kindOf ((p,w)::P.zip vs) m p=_
  unfold bindL
  rw [zes fun v hv=>(List.nodup_cons.mp nd).1 (List.of_mem_zip hv).1,if_pos hk]
  simp
 | p::P,w::vs,i+1,m,nd,h1,h2,hk=>by
  show bindL kindOf ((p,w)::P.zip vs) m x=_
  unfold bindL
  exact zey (i:=i) (List.nodup_cons.mp nd).2 (by simpa using h1) (by simpa using h2) hk
theorem zer {kindOf:Str→Option NameKind}{x:Str}{v:Value}:∀{P:List Str} {vs:List Value} {i:Nat} {m:Str→Option Value},P.Nodup→P[i]? =some x→vs[i]? =some v→kindOf x≠some .local→
  bindC kindOf (P.zip vs) m x=some v
 | [],_,_,_,_,h,_,_=>by simp at h
 | _::_,[],_,_,_,_,h,_=>by simp at h
 | p::P,w::vs,0,m,nd,h1,h2,hk=>by
  simp at h1 h2;subst h1;subst h2
  show bindC kindOf ((p,w)::P.zip vs) m p=_
  unfold bindC
  rw [zen fun v hv=>(List.nodup_cons.mp nd).1 (List.of_mem_zip hv).1,if_neg hk]
  simp
 | p::P,w::vs,i+1,m,nd,h1,h2,hk=>by
  show bindC kindOf ((p,w)::P.zip vs) m x=_
  unfold bindC
  exact zer (i:=i) (List.nodup_cons.mp nd).2 (by simpa using h1) (by simpa using h2) hk
def start (N:List Str)(vs:List V):St:=vs.map some++List.replicate (N.length - vs.length) none
def cxOf (CX:CXT)(P:Program)(w:World)(K:PySem.W.Frag)(mg:Str→Option Value)(base:Heap)(N:List Str)(qual:Str)(scope:Scope)(f:Addr)(cd:Value)(A:Around)(outer:List Env)(s:Shared)(H:Hp)(E:XK):Cx where
 prog:=P
 w:=w
 K:=K
 mg:=mg
 base:=base
 A:=A.deeper (envOfC qual scope s.heap.objs.size f cd)
 N:=N
 s₀:=s
 H₀:=H
 env:=envOfC qual scope s.heap.objs.size f cd
 outer:=outer
 stack:=envOfC qual scope s.heap.objs.size f cd::outer
 ex:=[]
 calm:=true
 fn:=fun _=>true
 pn:=[]
 xe:=fun e s'=>wpAny (model P w) (A.deeper (envOfC qual scope s.heap.objs.size f cd)) (leaving (envOfC qual scope s.heap.objs.size f cd) e) (fun _ s''=>CX outer H s E e s'') (fun e' s''=>CX outer H s E e' s'') s'
theorem zfN {sc:Scope}{n:Nat}{x:Str}(h:sc.names.lookup x=some .cell):∃c,(cellsFrom n sc.names []).lookup x=some c:=by
 have q:=PySem.W.cellsFrom_some sc.names n [] (.inl h)
 exact Option.isSome_iff_exists.mp q
theorem zhT {CX:CXT}{P:Program}{w:World}{K:PySem.W.Frag}{mg:Str→Option Value}{base:Heap}{N ps:List Str}{qual:Str}{scope:Scope}{f:Addr}{cd:Value}{A:Around}{outer:List Env}{s s1:Shared}{H:Hp}{E:XK}{us:List Value}{vs:List V}
  (S:zu N ps scope) (hd:A.handled=none) (e0:Env0 P w K mg base A outer s H) (hl:vs.length=ps.length) (r:Vals vs us)
  (x:InCallC s s.heap.objs.size (bindL (envOfC qual scope s.heap.objs.size f cd).kindOf (ps.zip us) fun _=>none) (cellsFrom (s.heap.objs.size+1) scope.names []) (bindC (envOfC qual scope s.heap.objs.size f cd).kindOf (ps.zip us) fun _=>none) s1):
  Inv (cxOf CX P w K mg base N qual scope f cd A outer s H E) [] (start N vs) H s1:=by
 have hpl:ps.length≤N.length:=by have:=congrArg List.length S.pre;rw [List.length_take] at this;omega
 obtain ⟨h1,tk,rfl,hk⟩:=x.done
 have noA:∀b:Addr,b∉(cxOf CX P w K mg base N qual scope f cd A outer s H E).ex:=fun b z=>absurd (show b∈([]:List Addr) from z) (by simp)
 refine ⟨⟨e0.mod,S.kind,rfl,rfl,Nat.le_refl _,fun y z c h1 h2=>?_,fun y hy=>?_,fun y c _ h=>?_,fun _=>hd,Around.frames_deeper e0.frames,.inr ⟨rfl,rfl⟩,fun b z=>absurd z (noA b),e0.bs,e0.bsz,fun b _ _=>noA b,fun b z=>absurd z (noA b),e0.funs,e0.frf⟩,
  rfl,e0.bare,Un.kept hk,⟨_,x.toInCall.ns,fun i y v h1 h2 h3=>?_⟩,fun y c h=>⟨_,x.cell y c h⟩,e0.hok.fresh (Nat.le_refl _),fun y c h=>?_,fun p hp=>absurd (show p∈([]:List (Addr ×Obj)) from hp) (by simp),e0.hok.kept hk,?_⟩
 ·exact name_of_addr x.apart (PySem.mem_of_lookup h1) (PySem.mem_of_lookup h2)
 ·have hy:scope.names.lookup y=some .cell∨scope.names.lookup y=some .free:=hy
  rcases hy with hy | hy
  ·exact zfN hy
  ·exact absurd rfl (S.nofree _ (PySem.mem_of_lookup hy))
 ·exact Nat.le_of_lt (x.above y c (PySem.mem_of_lookup h))
 ·have hi:i < vs.length:=by
   unfold start at h2
   by_cases hi:i < vs.length
   ·exact hi
   ·rw [List.getElem?_append_right (by simpa using hi)] at h2
    rw [List.getElem?_replicate] at h2
    split at h2 <;> cases h2
  have ha:vs[i]? =some v:=by
   unfold start at h2
   rw [List.getElem?_append_left (by simpa using hi),List.getElem?_map] at h2
   cases e:vs[i]? with
   | none=>rw [e] at h2;cases h2
   | some a=>rw [e] at h2;cases h2;rfl
  obtain ⟨u,hu,rv⟩:=r.get ha
  have hp:ps[i]? =some y:=by
   rw [←S.pre,List.getElem?_take_of_lt (by omega)];exact h1
  have ndP:ps.Nodup:=by rw [←S.pre];exact S.nd.sublist (List.take_sublist _ _)
  refine ⟨u,rv,?_⟩
  rcases S.par y (List.mem_of_getElem? hp) with k | k
  ·exact .inl ⟨k,zey ndP hp hu k⟩
  ·obtain ⟨c,e⟩:=zfN (n:=s.heap.objs.size+1) k
   refine .inr ⟨.inl k,c,e,?_⟩
   have q:=x.cell y c e
   rw [zer ndP hp hu (by show scope.names.lookup y≠_;rw [k];decide)] at q
   exact q
 ·exact e0.hok.fresh (Nat.le_of_lt (x.above y c (PySem.mem_of_lookup h)))
 ·unfold start
  show _=N.length
  rw [List.length_append,List.length_map,List.length_replicate]
  omega
theorem zkU {CX:CXT}{P:Program}{w:World}{K:PySem.W.Frag}{mg:Str→Option Value}{base:Heap}{k:Nat}{f:Addr}{name qual:Str}{params:Arguments}{body:List Stmt}{scope:Scope}{dV kV doc pm cdv ct oc:Value}{an od:Option Addr}
  {osl:Array (Option Value)} {N ps:List Str} {sp:Sp} (lk:K.lookup f=some ⟨oc,od,.func (PySem.W.fnOf name qual params body scope dV kV doc pm an cdv ct),osl⟩) (hcd:PySem.W.codeIn K cdv qual=true) (S:zu N ps scope)
  (len:∀vs H Q E,sp vs H Q E→vs.length=ps.length)
  (hbody:∀(A:Around) (outer:List Env) (s:Shared) (H:Hp) (vs:List V) (Q:VK) (E:XK),Room k (A.deeper (envOfC qual scope s.heap.objs.size f cdv))→sp vs H Q E→
   ∃t,PSs (cxOf CX P w K mg base N qual scope f cdv A outer s H E) body t∧t {nx:=fun _ H'=>Q .non H',rt:=Q} (start N vs) H):
  FnOk P w K mg base CX (k+1) f (PySem.W.fnOf name qual params body scope dV kV doc pm an cdv ct) ps sp:=by
 refine ⟨len,fun A outer s H args us vs Q E hr e0 hb r hsp=>?_⟩
 have hl:=len _ _ _ _ hsp
 have KX:K.In s.heap:=e0.mod.kin.keeps fun b o e=>(e0.bs b o e).1
 have lim:s.heap.NoLimit:=e0.mod.nolimit.keeps fun b o e=>(e0.bs b o e).1
 have hkind:∀y∈ps.zip us,scope.names.lookup y.1=some .local∨(scope.names.lookup y.1=some .cell∧((cellsFrom (s.heap.objs.size+1) scope.names []).lookup y.1).isSome=true):=fun ⟨n,v⟩ hy=>by
  rcases S.par n (List.of_mem_zip hy).1 with q | q
  ·exact .inl q
  ·exact .inr ⟨q,PySem.W.cellsFrom_some _ _ _ (.inl q)⟩
 refine codeAny_call_function hr.depth (KX _ _ lk) rfl S.co S.gen rfl (PySem.W.codeRec_of KX hcd) (hb _ _ _ _ ?_)
 refine wpAny_newFunctionEnv_cells S.kind hkind fun env he s1 x=>?_
 subst he
 refine ⟨lim.keeps x.toInCall.keep,codeAny_func ?_⟩
 obtain ⟨t,ht,hq⟩:=hbody A outer s H vs Q E (hr.deeper _) hsp
 have I:Inv (cxOf CX P w K mg base N qual scope f cdv A outer s H E) [] (start N vs) H s1:=zhT S hr.hd e0 hl r x
 refine wpAny_mono (ht [] s1 (start N vs) H _ I hq) (fun fl s' hs=>?_) fun e s' hs=>hs
 have fin:∀{σ':St} {H':Hp} {v:V} {u:Value},Inv (cxOf CX P w K mg base N qual scope f cdv A outer s H E) [] σ' H' s'→RelV v u→Q v H'→CE outer P w H s Q u s':=
  fun {σ' H' v u} J rv q=>⟨v,H',J.os,J.bare,J.base,J.hok,rv,q⟩
 cases fl with
 | ret u=>
  obtain ⟨v,σ',H',J,rv,q⟩:=hs
  exact fin J rv q
 | next=>
  obtain ⟨σ',H',J,q⟩:=hs
  exact fin (v:=V.non) (u:=Value.none) J rfl q
 | brk=>
  obtain ⟨_,_,_,q⟩:=hs
  exact False.elim q
 | cont=>
  obtain ⟨_,_,_,q⟩:=hs
  exact False.elim q
end L2
namespace L2
open PySem PySem.Spec PyProof.Rows
section
variable {X:Cx}{x:Str}{p pos:Pos}{e:Expr}{es:List Expr}{t:TA}{id T:String}{r:List V→Hp→VK→Prop}
def tCB (r:List V→Hp→VK→Prop)(t:TA):TE:=fun σ H Q=>t σ H fun vs H1=>r vs H1 Q
theorem zF (hc:zbh X (.builtin id) r)(hg:Gl X x)(hm:X.mg x=none)(hv:bootBuiltins x=some (.builtin id))(ha:PA X (e::es) t)(hn:x≠ "__name__" :=by decide) (hdb:(x==("__debug__" :Str))=false:=by decide)
  (he:starEach (e::es) X.env=(false,eval e X.env)::starEach es X.env:=by rfl) (hpl:(backTo pos (starEach es X.env)).any (·.1)=false:=by rfl):PE X (.Call (.Name x p) (e::es) [] pos) (tCB r t):=by
 intro pins s σ H Q I h
 refine wpAny_Call_Name_kw (zbW I hg hm hv ?_ hn hdb)
 exact PyProof.Rows.callWith_builtin1 (thn (ha pos pins s σ H _ I h) fun us s1 ⟨vs,H1,I1,r1,q1⟩=>hc pins s1 σ H1 vs us Q I1 r1 q1) he hpl
end
end L2
namespace HT
open PySem PyProof.Rows
def lexLt:List Int→List Int→Bool
 | [],[]=>false
 | [],_::_=>true
 | _::_,[]=>false
 | x::xs,y::ys=>if x=y then lexLt xs ys else decide (x < y)
theorem lexLt_cons (x y:Int)(xs ys:List Int):lexLt (x::xs) (y::ys)=if x=y then lexLt xs ys else decide (x < y):=rfl
section
open PySem.SeqAt
open PySem.AutoSeq1 (wpAny_loadPart')
open PySem.MeetsSeq PySem.MeetsSeq2 PySem.MeetsSeq3
end
section
variable {prog:Program}{w:World}{A:Around}{E:Value→Shared→Prop}{s:Shared}
def sIx (n d:Nat):Option Int→Nat
 | none=>d
 | some v=>if v < 0 then (v+(n:Int)).toNat else min v.toNat n
theorem sIx_none (n d:Nat):sIx n d none=d:=rfl
theorem sIx_nat (n d k:Nat):sIx n d (some (k:Int))=min k n:=by
 show (if (k:Int) < 0 then ((k:Int)+(n:Int)).toNat else min (k:Int).toNat n)=min k n
 rw [if_neg (by omega),Int.toNat_natCast]
theorem sIx_le (n d:Nat)(hd:d≤n)(o:Option Int):sIx n d o≤n:=by
 cases o with
 | none=>exact hd
 | some v=>
  show (if v < 0 then (v+(n:Int)).toNat else min v.toNat n)≤n
  by_cases hv:v < 0
  ·rw [if_pos hv];omega
  ·rw [if_neg hv];exact Nat.min_le_right _ _
theorem clip_eq (v:Int)(n d:Nat):(if v < 0 then max (v+(n:Int)) 0 else min v (n:Int))=((sIx n d (some v):Nat):Int):=by
 show (if v < 0 then max (v+(n:Int)) 0 else min v (n:Int))=(((if v < 0 then (v+(n:Int)).toNat else min v.toNat n):Nat):Int)
 by_cases hv:v < 0
 ·simp only [if_pos hv];omega
 ·simp only [if_neg hv];omega
end
end HT
namespace L2
open PySem PySem.Spec PyProof.Rows
abbrev TO:=St→Hp→(Option Int→Hp→Prop)→Prop
def PO (X:Cx)(e:Option Expr)(t:TO):Prop:=
 ∀(pins:List (Addr ×Obj)) (s:Shared) (σ:St) (H:Hp) (Q:Option Int→Hp→Prop),Inv X pins σ H s→t σ H Q→
  wpAny (model X.prog X.w) X.A (evalPart e X.env) (fun u s'=>∃o H',Inv X pins σ H' s'∧IsPart u o∧Q o H') X.xe s
def zjI:TO:=fun _ H Q=>Q none H
def zmj (t:TE):TO:=fun σ H Q=>t σ H fun x H1=>∃i,x=.int i∧Q (some i) H1
section
variable {X:Cx}{e:Expr}{te:TE}{lo hi:Option Expr}{tl th:TO}{pos p2:Pos}
theorem zaG:PO X none zjI:=by
 intro pins s σ H Q I h
 rw [evalPart_none]
 exact wpAny_pure ⟨none,H,I,.none,h⟩
theorem zan (h:PE X e te):PO X (some e) (zmj te):=by
 intro pins s σ H Q I hw
 rw [evalPart_some]
 refine thn (h pins s σ H _ I hw) fun u s1 ⟨x,H1,I1,r1,q1⟩=>?_
 obtain ⟨i,rfl,q⟩:=q1
 obtain ⟨t,rfl⟩:=r1
 exact ⟨some i,H1,I1,.int i t,q⟩
def SlR (X:Cx)(r:V→Option Int→Option Int→Hp→VK→Prop):Prop:=
 ∀(pins:List (Addr ×Obj)) (s:Shared) (σ:St) (H:Hp) (x:V) (v vl vu:Value) (lo hi:Option Int) (sl:Addr) (Q:VK),Inv X pins σ H s→RelV x v→s.heap.IsSliceOf sl vl vu .none→IsPart vl lo→IsPart vu hi→r x lo hi H Q→
  ∃T id,typeLookup (.type T) "__getitem__" =pure (some (.builtin id))∧s.TypeIs v T∧wpAny (model X.prog X.w) X.A (getItem v (.ref sl)) (EP X pins σ Q) X.xe s
theorem SlR.or {r r':V→Option Int→Option Int→Hp→VK→Prop}(h:SlR X r)(h':SlR X r'):SlR X (fun x lo hi H Q=>r x lo hi H Q∨r' x lo hi H Q):=by
 intro pins s σ H x v vl vu lo hi sl Q I rx hs pl pu q
 rcases q with q | q
 ·exact h pins s σ H x v vl vu lo hi sl Q I rx hs pl pu q
 ·exact h' pins s σ H x v vl vu lo hi sl Q I rx hs pl pu q
def tSl (r:V→Option Int→Option Int→Hp→VK→Prop)(te:TE)(tl th:TO):TE:=fun σ H Q=>te σ H fun x H1=>tl σ H1 fun l H2=>th σ H2 fun u H3=>r x l u H3 Q
theorem zao {r:V→Option Int→Option Int→Hp→VK→Prop}(hr:SlR X r)(he:PE X e te)(hl:PO X lo tl)(hu:PO X hi th):PE X (.Subscript e (.Slice lo hi none p2) pos) (tSl r te tl th):=by
 intro pins s σ H Q I h
 refine Subscript_ (thn (he pins s σ H _ I h) fun v s1 ⟨x,H1,I1,r1,q1⟩=>?_)
 refine wpAny_Slice (thn (hl pins s1 σ H1 _ I1 q1) fun vl s2 ⟨l,H2,I2,pl,q2⟩=>thn (hu pins s2 σ H2 _ I2 q2) fun vu s3 ⟨u,H3,I3,pu,q3⟩=>?_)
 rw [evalPart_none]
 refine wpAny_pure ?_
 have I4:Inv X pins σ H3 {s3 with heap:=s3.heap.push {cls:=.type "slice",data:=.fields #[vl,vu,.none]}}:=I3.kept (t':=s3.toks) fun b ob q=>Heap.get?_push_of_some _ q
 obtain ⟨T,id,hT,ht,hg⟩:=hr pins {s3 with heap:=s3.heap.push {cls:=.type "slice",data:=.fields #[vl,vu,.none]}} σ H3 x v vl vu l u s3.heap.objs.size Q I4 r1 (Heap.IsSliceOf.new ..) pl pu q3
 show wpAny (model X.prog X.w) X.A (subscriptTail e (.Slice lo hi none p2) v (.ref s3.heap.objs.size)) (EP X pins σ Q) X.xe {s3 with heap:=s3.heap.push {cls:=.type "slice",data:=.fields #[vl,vu,.none]}}
 exact tail_any (ops:=[.ref s3.heap.objs.size,v]) ht hT hg (by with_unfolding_all rfl)
def cutV (xs:List V)(lo hi:Option Int):List V:=(xs.drop (HT.sIx xs.length 0 lo)).take (HT.sIx xs.length xs.length hi - HT.sIx xs.length 0 lo)
theorem zfT (xs:List V)(lo hi:Option Int):(cutV xs lo hi).length≤xs.length:=by
 unfold cutV
 rw [List.length_take,List.length_drop]
 omega
def rSlT (K:PySem.W.Frag):V→Option Int→Option Int→Hp→VK→Prop:=fun x lo hi H Q=>∃a xs,x=.ref a∧SqT K H a xs∧
 ¬(HT.sIx xs.length 0 lo=0∧HT.sIx xs.length xs.length hi=xs.length)∧∀p,H p=none→Q (.ref p) (upd H p (.tup (cutV xs lo hi)))
def rLtT (K:PySem.W.Frag):R2:=fun x y H Q=>∃a b ns ms,x=.ref a∧y=.ref b∧SqT K H a (ns.map V.int)∧SqT K H b (ms.map V.int)∧Q (.bl (HT.lexLt ns ms)) H
def zm2 (K:PySem.W.Frag):R2:=fun x y H Q=>∃a b xs ys,x=.ref a∧y=.ref b∧SqT K H a xs∧SqT K H b ys∧xs≠ []∧xs.length+ys.length≤sizeLine∧
 (ys=[]→Q (.ref a) H)∧(ys≠ []→∀p,H p=none→Q (.ref p) (upd H p (.tup (xs++ys))))
end
end L2
namespace L2
open PySem PySem.Spec PyProof.Rows
def ixN (n:Nat)(i:Int):Option Nat:=if 0≤i then (if i < n then some i.toNat else none) else if -(n:Int)≤i then some (i+n).toNat else none
def atI {α:Type}(xs:List α)(i:Int):Option α:=(ixN xs.length i).bind fun j=>xs[j]?
theorem zjT {n:Nat}{i:Int}{j:Nat}(h:ixN n i=some j):seqIndex? i n=some j∧j < n∧ -(n:Int)≤i∧i < n:=by
 unfold ixN at h
 by_cases h0:0≤i
 ·rw [if_pos h0] at h
  by_cases h1:i < n
  ·rw [if_pos h1] at h
   have e:i.toNat=j:=Option.some.inj h
   exact ⟨by rw [seqIndex_of h0 h1,e],by omega,by omega,h1⟩
  ·rw [if_neg h1] at h;cases h
 ·rw [if_neg h0] at h
  by_cases h1: -(n:Int)≤i
  ·rw [if_pos h1] at h
   have e:(i+n).toNat=j:=Option.some.inj h
   exact ⟨by rw [seqIndex_neg (by omega) h1,e],by omega,h1,by omega⟩
  ·rw [if_neg h1] at h;cases h
theorem zeO {α:Type}{xs:List α}{i:Int}{v:α}(h:atI xs i=some v):∃j,seqIndex? i xs.length=some j∧xs[j]? =some v∧j < xs.length∧ -(xs.length:Int)≤i∧i < xs.length:=by
 unfold atI at h
 cases e:ixN xs.length i with
 | none=>rw [e] at h;cases h
 | some j=>
  rw [e] at h
  obtain ⟨h1,h2,h3,h4⟩:=zjT e
  exact ⟨j,h1,h,h2,h3,h4⟩
theorem zaH {α:Type}{xs:List α}{j:Nat}{v:α}(h:xs[j]? =some v):atI xs (j:Int)=some v:=by
 have hj:j < xs.length:=(List.getElem?_eq_some_iff.mp h).1
 have e:ixN xs.length (j:Int)=some j:=by
  unfold ixN
  rw [if_pos (by omega),if_pos (by omega)];simp
 unfold atI;rw [e];exact h
def zj8 (b:Expr):Prop:=∀o i,subscripted b false o i=operate [o,i] (getItem o i)
def IxR (X:Cx)(r:R2):Prop:=
 ∀(value slice:Expr) (pins:List (Addr ×Obj)) (s:Shared) (σ:St) (H:Hp) (x y:V) (v u:Value) (Q:VK),Inv X pins σ H s→RelV x v→RelV y u→r x y H Q→
  subscripted slice false v u=operate [v,u] (getItem v u)→wpAny (model X.prog X.w) X.A (subscriptTail value slice v u) (EP X pins σ Q) X.xe s
def MtR (X:Cx)(id:String)(r:V→List V→Hp→VK→Prop):Prop:=
 ∀(pins:List (Addr ×Obj)) (s:Shared) (σ:St) (H:Hp) (x:V) (xs:List V) (v:Value) (us:List Value) (Q:VK),Inv X pins σ H s→RelV x v→Vals xs us→r x xs H Q→
  wpAny (model X.prog X.w) X.A (call (.builtin id) (v::us)) (EP X pins σ Q) X.xe s
section
variable {X:Cx}{a b:Expr}{ta tb:TE}{pos:Pos}
theorem IxR.or {r r':R2}(h:IxR X r)(h':IxR X r'):IxR X (fun x y H Q=>r x y H Q∨r' x y H Q):=by
 intro value slice pins s σ H x y v u Q I rx ry q hs
 rcases q with q | q
 ·exact h value slice pins s σ H x y v u Q I rx ry q hs
 ·exact h' value slice pins s σ H x y v u Q I rx ry q hs
theorem MtR.or {id:String}{r r':V→List V→Hp→VK→Prop}(h:MtR X id r)(h':MtR X id r'):MtR X id (fun x xs H Q=>r x xs H Q∨r' x xs H Q):=by
 intro pins s σ H x xs v us Q I rx rs q
 rcases q with q | q
 ·exact h pins s σ H x xs v us Q I rx rs q
 ·exact h' pins s σ H x xs v us Q I rx rs q
theorem zr {r:R2}(hr:IxR X r)(ha:PE X a ta)(hb:PE X b tb)(hs:zj8 b):PE X (.Subscript a b pos) (tOp r ta tb):=by
 intro pins s σ H Q I h
 exact Subscript_ (binT ha hb I h fun v u s2 x y H2 I2 rx ry q=>hr a b pins s2 σ H2 x y v u Q I2 rx ry q (hs _ _))
def rIxL (K:PySem.W.Frag):R2:=fun x y H Q=>∃p xs i v,x=.ref p∧y=.int i∧SqL K H p xs∧atI xs i=some v∧Q v H
def rIxT (K:PySem.W.Frag):R2:=fun x y H Q=>∃p xs i v,x=.ref p∧y=.int i∧SqT K H p xs∧atI xs i=some v∧Q v H
def rIxS:R2:=fun x y H Q=>∃z i c,x=.str z∧y=.int i∧z.length≤sizeLine∧atI z.cps.toList i=some c∧Q (.str ⟨#[c]⟩) H
theorem zI:IxR X (rIxL X.K):=by
 intro value slice pins s σ H x y v u Q I rx ry h hs
 obtain ⟨p,xs,i,z,rfl,rfl,hq,he,q⟩:=h
 cases rx
 obtain ⟨t,rfl⟩:=ry
 obtain ⟨its,r,pl,hz⟩:=I.list hq
 obtain ⟨j,h1,h2,h3,h4,h5⟩:=zeO he
 obtain ⟨w,ew,rw'⟩:=r.get h2
 have hl:=r.length
 have hn:=zec
 have fin:EP X pins σ Q w s:=⟨z,H,I,rw',q⟩
 by_cases h0:0≤i
 ·have hj:i.toNat=j:=by
   rw [seqIndex_of h0 h5] at h1
   exact Option.some.inj h1
  exact item_listR pl.isList h0 (by omega) (by rw [hj];simpa using ew) fin hs
 ·have hj:(i+(its.toArray.size:Int)).toNat=j:=by
   rw [seqIndex_neg (by omega) h4] at h1
   rw [List.size_toArray,←hl]
   exact Option.some.inj h1
  exact subscriptTail_builtinR (x:=w) pl.isList.typeIs slot_list_getitem.lookup
   (wpAny_getItem_list_neg (Q:=fun r s'=>r=w∧EP X pins σ Q r s') pl.isList (by omega) (by rw [List.size_toArray] <;> omega) (by omega) (by rw [hj];simpa using ew) ⟨rfl,fin⟩) hs
theorem zx:IxR X (rIxT X.K):=by
 intro value slice pins s σ H x y v u Q I rx ry h hs
 obtain ⟨p,xs,i,z,rfl,rfl,hq,he,q⟩:=h
 cases rx
 obtain ⟨t,rfl⟩:=ry
 obtain ⟨its,r,pl,hz⟩:=I.tuple hq
 obtain ⟨j,h1,h2,h3,h4,h5⟩:=zeO he
 obtain ⟨w,ew,rw'⟩:=r.get h2
 have hl:=r.length
 have hn:=zec
 have fin:EP X pins σ Q w s:=⟨z,H,I,rw',q⟩
 exact subscriptTail_builtinR (x:=w) pl.typeIs slot_tuple_getitem.lookup
  (getItem_tuple (j:=j) (Q:=fun r s'=>r=w∧EP X pins σ Q r s') pl (by omega) (by omega) (by rw [List.size_toArray,←hl];exact h1) (by simpa using ew) ⟨rfl,fin⟩) hs
theorem zk6:IxR X rIxS:=by
 intro value slice pins s σ H x y v u Q I rx ry h hs
 obtain ⟨z,i,c,rfl,rfl,hz,he,q⟩:=h
 obtain ⟨t,rfl⟩:=rx
 obtain ⟨t',rfl⟩:=ry
 obtain ⟨j,h1,h2,h3,h4,h5⟩:=zeO he
 have hl:z.cps.toList.length=z.length:=by simp [Str.length]
 rw [hl] at h1 h4 h5
 have hn:=zec
 exact tail_any (typeIs_str s z t) slot_str_getitem.lookup (getItem_str (c:=c) (by
  have e1:decide (i < -(2 ^ 63:Int))=false:=decide_eq_false (by omega)
  have e2:decide (i≥2 ^ 63)=false:=decide_eq_false (by omega)
  rw [e1,e2,Bool.or_false]) (by rw [h1];simpa using h2) ⟨.str ⟨#[c]⟩,H,I.tok _,⟨_,rfl⟩,q⟩) hs
def rIx (K:PySem.W.Frag):R2:=fun x y H Q=>rIxL K x y H Q∨rIxT K x y H Q∨rIxS x y H Q
theorem Inv.lst {pins:List (Addr ×Obj)}{σ:St}{H:Hp}{s:Shared}{p:Addr}{xs:List V}(I:Inv X pins σ H s)(h:H p=some (.lst xs)):
  ∃(its:List Value) (n:Nat),Vals xs its∧s.heap.get? p=some {cls:=.type "list",data:=.seq its.toArray n}∧xs.length≤sizeLine:=by
 obtain ⟨z,its,n,r,e⟩:=I.hok p _ h
 exact ⟨its,n,r,e,z⟩
def zm5:V→V→V→Hp→(Hp→Prop)→Prop:=fun o i v H Q=>∃p xs k j,o=.ref p∧i=.int k∧H p=some (.lst xs)∧ixN xs.length k=some j∧Q (upd H p (.lst (xs.set j v)))
theorem zkI (i:Int)(n d:Nat):max 0 (min (if i < 0 then i+(n:Int) else i) (n:Int))=((HT.sIx n d (some i):Nat):Int):=by
 simp only [HT.sIx]
 by_cases h:i < 0
 ·simp only [h,if_true] <;> omega
 ·simp only [h,if_false] <;> omega
theorem ze0 (lo hi:Option Int)(n:Nat):(sliceBounds lo hi none n).1=((HT.sIx n 0 lo:Nat):Int)∧(sliceBounds lo hi none n).2.1=((HT.sIx n n hi:Nat):Int)∧(sliceBounds lo hi none n).2.2=1:=by
 refine ⟨?_,?_,rfl⟩
 ·cases lo with
  | none=>simp [sliceBounds,HT.sIx]
  | some i=>(simp only [sliceBounds,Option.getD_none,show (1:Int) > 0 by decide,if_true];exact zkI i n 0)
 ·cases hi with
  | none=>simp [sliceBounds,HT.sIx]
  | some i=>(simp only [sliceBounds,Option.getD_none,show (1:Int) > 0 by decide,if_true];exact zkI i n n)
theorem zej (its:List Value)(lo hi:Option Int):slicePick its.toArray lo hi none=((its.drop (HT.sIx its.length 0 lo)).take (HT.sIx its.length its.length hi - HT.sIx its.length 0 lo)).toArray:=by
 obtain ⟨h1,h2,h3⟩:=ze0 lo hi its.toArray.size
 unfold slicePick
 rw [h1,h2,h3]
 simp only [sliceRange_one,pick_run,List.size_toArray] <;> rfl
def rSlL (K:PySem.W.Frag):V→Option Int→Option Int→Hp→VK→Prop:=fun x lo hi H Q=>∃a xs,x=.ref a∧SqL K H a xs∧∀p,H p=none→Q (.ref p) (upd H p (.lst (cutV xs lo hi)))
theorem zaQ:SlR X (rSlL X.K):=by
 intro pins s σ H x v vl vu lo hi sl Q I rx hs pl pu h
 obtain ⟨a,xs,rfl,hx,q⟩:=h
 cases rx
 obtain ⟨its,r,ht,hz⟩:=I.list hx
 have hlen:=r.length
 refine ⟨"list",_,slot_list_getitem.lookup,ht.isList.typeIs,?_⟩
 refine wpAny_getItem_list_slice ht.isList hs pl pu .none (by simp) ?_ (by rw [List.size_toArray] <;> omega)
 rw [zej,←hlen]
 refine ⟨.ref s.heap.objs.size,_,I.laid (t':=s.toks) (o:=.lst (cutV xs lo hi)) (fun b ob q=>Heap.get?_push_of_some _ q) (Nat.le_refl _) ?_,rfl,q _ (I.hok.fresh (Nat.le_refl _))⟩
 exact ⟨Nat.le_trans (zfT xs lo hi) hz,_,0,(r.drop (HT.sIx xs.length 0 lo)).take (HT.sIx xs.length xs.length hi - HT.sIx xs.length 0 lo),Heap.get?_push_size _ rfl⟩
def zkW:V→Bool
 | .non=>true
 | .bl _=>true
 | .int _=>true
 | .str _=>true
 | _=>false
def eqV:V→V→Bool
 | .non,.non=>true
 | .bl a,.bl b=>a==b
 | .bl a,.int b=>(if a then 1 else 0)==b
 | .int a,.bl b=>a==(if b then 1 else 0)
 | .int a,.int b=>a==b
 | .str a,.str b=>a==b
 | _,_=>false
def eqU (x:V)(u:Value):Bool:=match u with
 | .none=>eqV .non x
 | .bool b=>eqV (.bl b) x
 | .int i _=>eqV (.int i) x
 | .str z _=>eqV (.str z) x
 | _=>false
def inV (x:V)(xs:List V):Bool:=xs.any fun y=>eqV y x
def rIn (K:PySem.W.Frag)(neg:Bool):R2:=fun x y H Q=>∃p xs,y=.ref p∧(SqL K H p xs∨SqT K H p xs)∧zkW x=true∧xs.all zkW=true∧Q (.bl (if neg then !inV x xs else inV x xs)) H
theorem zJ:zbh X (.builtin "len") (fun xs H Q=>∃p ys,xs=[.ref p]∧(SqL X.K H p ys∨SqT X.K H p ys)∧Q (.int ys.length) H):=by
 intro pins s σ H xs us Q I r h
 obtain ⟨p,ys,rfl,hq,q⟩:=h
 obtain ⟨u,rfl,rx⟩:=vals1 r
 cases rx
 have hn:=zec
 rcases hq with hq | hq
 ·obtain ⟨its,r',pl,hz⟩:=I.list hq
  have hlen:=r'.length
  exact Calls.call_len_list pl.isList (by simp only [List.size_toArray] <;> omega) ⟨.int ys.length,H,I.tok _,⟨s.toks+1,by rw [List.size_toArray,hlen]⟩,q⟩
 ·obtain ⟨its,r',pl,hz⟩:=I.tuple hq
  have hlen:=r'.length
  exact len_tuple pl (by simp only [List.size_toArray] <;> omega) ⟨.int ys.length,H,I.tok _,⟨s.toks+1,by rw [List.size_toArray,hlen]⟩,q⟩
theorem zbG:zbh X (.builtin "len") (fun xs H Q=>∃z,xs=[.str z]∧z.length≤sizeLine∧Q (.int z.length) H):=by
 intro pins s σ H xs us Q I r h
 obtain ⟨z,rfl,hz,q⟩:=h
 obtain ⟨u,rfl,t,rfl⟩:=vals1 r
 have hn:=zec
 exact len_str (by omega) ⟨.int z.length,H,I.tok _,⟨_,rfl⟩,q⟩
theorem zbh.or {f:Value}{r r':List V→Hp→VK→Prop}(h:zbh X f r)(h':zbh X f r'):zbh X f (fun xs H Q=>r xs H Q∨r' xs H Q):=by
 intro pins s σ H xs us Q I rs q
 rcases q with q | q
 ·exact h pins s σ H xs us Q I rs q
 ·exact h' pins s σ H xs us Q I rs q
def tyV (K:PySem.W.Frag)(T:String)(x:V)(H:Hp):Prop:=match x with
 | .str _=>T= "str"
 | .int _=>T= "int"
 | .ref p=>(T= "list" ∧∃xs,SqL K H p xs)∨(T= "tuple" ∧∃o,K.lookup p=some o∧o.cls=.type "tuple" ∧o.dict=none)∨
   (T= "dict" ∧((∃kvs,H p=some (.dK kvs))∨∃kvs,H p=some (.dT kvs)))∨(T= "set" ∧∃S n,H p=some (.set S n))
 | _=>False
theorem zlv {pins:List (Addr ×Obj)}{σ:St}{H:Hp}{s:Shared}{T:String}{x:V}{v:Value}(I:Inv X pins σ H s)(r:RelV x v)(ty:tyV X.K T x H):
  s.TypeIs v T∧∀a,v=.ref a→∃ob,s.heap.get? a=some ob∧ob.dict=none:=by
 cases x with
 | str z=>
  obtain ⟨t,rfl⟩:=r
  cases (show T= "str" from ty)
  exact ⟨typeIs_str s z t,fun _ e=>nomatch e⟩
 | int i=>
  obtain ⟨t,rfl⟩:=r
  cases (show T= "int" from ty)
  exact ⟨typeIs_int s i t,fun _ e=>nomatch e⟩
 | ref p=>
  cases r
  rcases ty with ⟨rfl,xs,hq⟩ | ⟨rfl,o,hk,hc,hd⟩ | ⟨rfl,hk⟩ | ⟨rfl,S,n,hk⟩
  ·obtain ⟨its,_,pl,_⟩:=I.list hq
   refine ⟨pl.isList.typeIs,fun a e=>?_⟩
   cases e
   obtain ⟨o,n,e,c,hd,_⟩:=pl
   exact ⟨o,e,hd⟩
  ·refine ⟨⟨o,I.kIn p o hk,hc⟩,fun a e=>?_⟩
   cases e
   exact ⟨o,I.kIn _ o hk,hd⟩
  ·have z:∃o,s.heap.get? p=some o∧o.ExactDict:=by
    rcases hk with ⟨kvs,hk⟩ | ⟨kvs,hk⟩
    ·obtain ⟨_,_,_,_,o,_,_,e,ex,_⟩:=I.hok p _ hk
     exact ⟨o,e,ex⟩
    ·obtain ⟨_,_,_,_,o,_,_,e,ex,_⟩:=I.hok p _ hk
     exact ⟨o,e,ex⟩
   obtain ⟨o,e,ex⟩:=z
   refine ⟨⟨o,e,ex.1⟩,fun a e2=>?_⟩
   cases e2
   exact ⟨o,e,ex.2.1⟩
  ·obtain ⟨o,_,_,_,e,ex,_⟩:=I.hok p _ hk
   refine ⟨⟨o,e,ex.1⟩,fun a e2=>?_⟩
   cases e2
   exact ⟨o,e,ex.2.1⟩
 | _=>exact False.elim ty
def tBM0 (K:PySem.W.Frag)(T:String)(r:V→List V→Hp→VK→Prop)(to:TE):TE:=fun σ H Q=>to σ H fun x H1=>tyV K T x H1∧r x [] H1 Q
def tBM (K:PySem.W.Frag)(T:String)(r:V→List V→Hp→VK→Prop)(to:TE)(t:TA):TE:=fun σ H Q=>to σ H fun x H1=>tyV K T x H1∧t σ H1 fun xs H2=>r x xs H2 Q
variable {o e:Expr}{es:List Expr}{to:TE}{t:TA}{name:Str}{apos cpos:Pos}{T id:String}{r:V→List V→Hp→VK→Prop}
theorem zdQ (pa:PlainAttrs T)(slot:Slot T name id)(hty:typeOf (.builtin id)=pure (.type "method_descriptor")) (hm:MtR X id r) (ho:PE X o to) (ha:PA X (e::es) t)
  (hbase:attributeBase o name X.env (eval o X.env)=eval o X.env:=by rfl)
  (hfew:((backTo cpos (starEach (e::es) X.env)).all (fun x=>!x.1) && (backToKw cpos (keywordEach [] X.env)).all (fun x=>x.1.isSome)
   && decide ((e::es).length+([]:List Keyword).length+(if ([]:List Keyword).isEmpty then 0 else 1) < 30))=true:=by rfl)
  (hline:(apos.endLine==cpos.line)=true:=by rfl) (hs:starEach (e::es) X.env=(false,eval e X.env)::starEach es X.env:=by rfl) (hplain:(backTo cpos (starEach es X.env)).any (·.1)=false:=by rfl):
  PE X (.Call (.Attribute o name apos) (e::es) [] cpos) (tBM X.K T r to t):=by
 intro pins s σ H Q I h
 refine wpAny_Call_method_late hbase hfew hline rfl (thn (ho pins s σ H _ I h) fun v s1 ⟨x,H1,I1,r1,ty,q1⟩=>?_)
 obtain ⟨h1,h2⟩:=zlv I1 r1 ty
 refine ⟨T,id,pa,slot,hty,h1,h2,?_⟩
 have hA:=ha cpos pins s1 σ H1 _ I1 q1
 rw [hs] at hA ⊢
 refine Calls.callWith_builtin (by show (false || (backTo cpos (starEach es X.env)).any (·.1))=false;rw [hplain] <;> rfl) (Calls.evalArgs_plain ?_)
 exact thn hA fun us s2 ⟨vs,H2,I2,r2,q2⟩=>hm pins s2 σ H2 x vs v us Q I2 r1 r2 q2
end
end L2
namespace L2
open PySem PySem.Spec PyProof.Rows
def MtM (X:Cx)(id:String)(r:V→List V→Hp→VK→Prop):Prop:=
 ∀(pins:List (Addr ×Obj)) (s:Shared) (σ:St) (H:Hp) (x:V) (xs:List V) (v:Value) (us:List Value) (Q:VK),Inv X pins σ H s→RelV x v→Vals xs us→r x xs H Q→
  wpAny (model X.prog X.w) X.A (call (.builtin id) (v::us)) (EP X pins σ Q) X.xe s
theorem Vals.one {x:V}{us:List Value}(h:Vals [x] us):∃u,us=[u]∧RelV x u:=by
 cases h with
 | cons r t=>cases t;exact ⟨_,rfl,r⟩
theorem Vals.two {x y:V}{us:List Value}(h:Vals [x,y] us):∃u v,us=[u,v]∧RelV x u∧RelV y v:=by
 cases h with
 | cons r t=>obtain ⟨v,rfl,q⟩:=Vals.one t;exact ⟨_,_,rfl,r,q⟩
theorem Vals.zero:∀{us:List Value},Vals [] us→us=[]
 | _,.nil=>rfl
theorem Vals.dropLast {xs:List V}{us:List Value}(h:Vals xs us):Vals xs.dropLast us.dropLast:=by
 induction h with
 | nil=>exact .nil
 | cons r t ih=>
  cases t with
  | nil=>exact .nil
  | cons q t'=>exact .cons r ih
theorem Vals.eraseIdx:∀{xs:List V} {us:List Value} (i:Nat),Vals xs us→Vals (xs.eraseIdx i) (us.eraseIdx i)
 | _,_,_,.nil=>.nil
 | _,_,0,.cons _ t=>t
 | _,_,i+1,.cons r t=>.cons r (Vals.eraseIdx i t)
theorem Vals.reverse {xs:List V}{us:List Value}(h:Vals xs us):Vals xs.reverse us.reverse:=by
 induction h with
 | nil=>exact .nil
 | cons r t ih=>rw [List.reverse_cons,List.reverse_cons];exact Vals.append ih (.cons r .nil)
theorem Vals.rep {xs:List V}{us:List Value}(h:Vals xs us):∀k:Nat,Vals (List.replicate k xs).flatten (List.replicate k us).flatten
 | 0=>.nil
 | k+1=>by
  rw [List.replicate_succ,List.replicate_succ,List.flatten_cons,List.flatten_cons]
  exact Vals.append h (Vals.rep h k)
section
variable {X:Cx}{pins:List (Addr ×Obj)}{σ:St}{H:Hp}{s:Shared}{l b:Addr}{xs ys zs:List V}
theorem Inv.lset {its its':List Value}{n:Nat}{f:Array Value→Array Value}{t':Nat}(I:Inv X pins σ H s)(hH:H l=some (.lst xs))
  (e:s.heap.get? l=some {cls:=.type "list",data:=.seq its.toArray n}) (hf:f its.toArray=its'.toArray) (hv:Vals ys its') (hz:ys.length≤sizeLine):
  Inv X pins σ (upd H l (.lst ys)) {s with heap:=s.heap.update l (Obj.mapSeq f),toks:=t'}:=by
 have q:=PySem.IsL.update e f
 rw [hf] at q
 refine I.write (x:=l) (e:=l) (by rw [hH];exact trivial) (.inl rfl) (fun b' u hb hu=>(Heap.get?_update_other s.heap (Obj.mapSeq f) (Ne.symm hb)).trans hu) ⟨_,q⟩ ?_
 exact ⟨hz,its',_,hv,q⟩
theorem Inv.lnew {its:List Value}{t':Nat}(I:Inv X pins σ H s)(hv:Vals ys its)(hz:ys.length≤sizeLine):
  Inv X pins σ (upd H s.heap.objs.size (.lst ys)) {s with heap:=s.heap.push {cls:=.type "list",data:=.seq its.toArray},toks:=t'}:=
 I.laid (fun _ _ q=>Heap.get?_push_of_some _ q) (Nat.le_refl _) ⟨hz,its,0,hv,Heap.get?_push_size _ rfl⟩
theorem Inv.fresh (I:Inv X pins σ H s):H s.heap.objs.size=none:=I.hok.fresh (Nat.le_refl _)
theorem Inv.lstM (I:Inv X pins σ H s)(hH:H l=some (.lst xs)):xs.length≤sizeLine∧∃(its:List Value) (n:Nat),Vals xs its∧xs.length=its.length∧s.heap.get? l=some {cls:=.type "list",data:=.seq its.toArray n}:=by
 obtain ⟨z,its,n,r,e⟩:=I.hok l _ hH
 exact ⟨z,its,n,r,r.length,e⟩
theorem zjc {n:Nat}(h:n≤sizeLine):Builtin.List.listTooLong n=false:=by
 unfold Builtin.List.listTooLong
 exact decide_eq_false (by omega)
end
section
variable {X:Cx}
def zj4:V→List V→Hp→VK→Prop:=fun x vs H Q=>∃l xs y,x=.ref l∧vs=[y]∧H l=some (.lst xs)∧xs.length < sizeLine∧Q .non (upd H l (.lst (xs++ [y])))
theorem zaM:MtM X "list.append" zj4:=by
 intro pins s σ H x vs v us Q I rx rv h
 obtain ⟨l,xs,y,rfl,rfl,hH,hz,q⟩:=h
 cases rx
 obtain ⟨u,rfl,ru⟩:=rv.one
 obtain ⟨z,its,n,r,hl,e⟩:=I.lstM hH
 refine call_meets F.slot_list_append ⟨_,e,rfl⟩ F.entry_list_append (F.args_list_append_2 _ _) (PySem.list_append l its.toArray n u (by rw [List.size_toArray];omega)) ⟨e,?_⟩
 refine ⟨.non,_,I.lset (its':=its++ [u]) hH e (by simp) (r.append (.cons ru .nil)) ?_,rfl,q⟩
 rw [List.length_append,List.length_singleton]
 omega
def zku:V→List V→Hp→VK→Prop:=fun x vs H Q=>∃l b xs zs,x=.ref l∧vs=[.ref b]∧H l=some (.lst xs)∧H b=some (.lst zs)∧xs.length+zs.length≤sizeLine∧Q .non (upd H l (.lst (xs++zs)))
theorem zhy:MtM X "list.extend" zku:=by
 intro pins s σ H x vs v us Q I rx rv h
 obtain ⟨l,b,xs,zs,rfl,rfl,hH,hB,hz,q⟩:=h
 cases rx
 obtain ⟨u,rfl,ru⟩:=rv.one
 cases ru
 obtain ⟨z,its,n,r,hl,e⟩:=I.lstM hH
 obtain ⟨z2,its2,n2,r2,hl2,e2⟩:=I.lstM hB
 have hsz:its.toArray.size+its2.toArray.size≤sizeLine:=by rw [List.size_toArray,List.size_toArray];omega
 have hlong:¬(!its.toArray.isEmpty && Builtin.List.listTooLong (its.toArray.size+its2.toArray.size))=true:=by
  rw [zjc hsz,Bool.and_false]
  exact Bool.false_ne_true
 refine call_meets F.slot_list_extend ⟨_,e,rfl⟩ F.entry_list_extend (F.args_list_extend_2 _ _)
  (AutoSeq1.list_extend_list_list_0 l its.toArray n b its2.toArray n2 hlong (by rw [List.size_toArray];omega) (by omega)) ⟨e,e2,?_⟩
 refine ⟨.non,_,I.lset (its':=its++its2) hH e (by simp) (r.append r2) ?_,rfl,q⟩
 rw [List.length_append]
 omega
def rPop:V→List V→Hp→VK→Prop:=fun x vs H Q=>∃l xs y,x=.ref l∧vs=[]∧H l=some (.lst xs)∧xs[xs.length - 1]? =some y∧Q y (upd H l (.lst xs.dropLast))
def zmL:V→List V→Hp→VK→Prop:=fun x vs H Q=>∃l xs i k y,x=.ref l∧vs=[.int i]∧H l=some (.lst xs)∧ -(2 ^ 63)≤i∧i < 2 ^ 63∧seqIndex? i xs.length=some k∧xs[k]? =some y∧Q y (upd H l (.lst (xs.eraseIdx k)))
def zl8:V→List V→Hp→VK→Prop:=fun x vs H Q=>∃l xs,x=.ref l∧vs=[]∧H l=some (.lst xs)∧Q .non (upd H l (.lst xs.reverse))
def zmW:V→List V→Hp→VK→Prop:=fun x vs H Q=>∃l xs,x=.ref l∧vs=[]∧H l=some (.lst xs)∧Q .non (upd H l (.lst []))
def rCat:R2:=fun x y H Q=>∃l b xs zs,x=.ref l∧y=.ref b∧H l=some (.lst xs)∧H b=some (.lst zs)∧xs.length+zs.length≤sizeLine∧∀p,H p=none→Q (.ref p) (upd H p (.lst (xs++zs)))
theorem zcv:OpR X (binaryOp .Add) rCat:=by
 intro pins s σ H x y v u Q I rx ry h
 obtain ⟨l,b,xs,zs,rfl,rfl,hH,hB,hz,q⟩:=h
 cases rx
 cases ry
 obtain ⟨z,its,n,r,hl,e⟩:=I.lstM hH
 obtain ⟨z2,its2,n2,r2,hl2,e2⟩:=I.lstM hB
 refine PySem.P.add_list e e2 ?_ (by rw [List.size_toArray,List.size_toArray];omega)
 have ea:its.toArray++its2.toArray=(its++its2).toArray:=by simp
 rw [ea]
 exact ⟨.ref _,_,I.lnew (t':=s.toks) (r.append r2) (by rw [List.length_append];omega),rfl,q _ I.fresh⟩
def rRep:R2:=fun x y H Q=>∃l k xs,x=.ref l∧y=.int k∧H l=some (.lst xs)∧ -(2 ^ 63)≤k∧k < 2 ^ 63∧xs.length * k.toNat≤sizeLine∧
 ∀p,H p=none→Q (.ref p) (upd H p (.lst (List.replicate k.toNat xs).flatten))
end
section
variable {prog:Program}{w:World}{A:Around}{E:Value→Shared→Prop}{s:Shared}
end
section
variable {X:Cx}
end
end L2
namespace Att
open PySem PySem.W PySem.Calls PyProof.Rows
theorem zdt {P:Params}{h:Heap}:∀(ns:List Int) (vs:List Value),WellAll P h vs (ns.map WData.int)→IntsAre vs ns:=by
 intro ns
 induction ns with
 | nil=>
  intro vs w
  rw [List.map_nil] at w
  cases w
  exact .nil
 | cons n ns ih=>
  intro vs w
  rw [List.map_cons] at w
  cases w with
  | cons a b=>
   cases a
   exact .cons _ _ (ih _ b)
theorem zh8 {l:OpenLaw}{n:Nat}(hn:l.most=some n){P:Params}{h:Heap}{args:List WData}{vals:List Value}
  (hpre:l.row.toRowW.claim.pre args=true) (hwl:WellAll P h vals args):
  ∃a vs ns,vals=[Value.ref a]∧args=[WData.list (ns.map WData.int)]∧h.get? a=some {cls:=.type "list",data:=.seq vs.toArray}∧IntsAre vs ns∧ns.length≤n:=by
 have hsh:WShape.hasAll [] args [.list .int]=true:=(pre_splitW hpre).1
 have hc:l.pre.holds [] {args:=args}=true:=(pre_splitW hpre).2
 obtain ⟨d,r,rfl,h1,h2⟩:=hasAllW_cons hsh
 obtain rfl:=hasAllW_nil h2
 obtain ⟨xs,rfl,h3⟩:=hasW_list h1
 obtain ⟨ns,rfl⟩:=items_int h3
 have hlen:ns.length≤n:=by
  unfold OpenLaw.pre at hc
  have h4:(WTm.not (.lt (.lit (.int (n:Int))) (.len (.arg 0)))).holds [] {args:=[.list (ns.map .int)]}=true:=by
   have h4:=(holds_andW hc).1
   rw [hn] at h4
   exact h4
  have h5:=condW_of h4 (w_not (w_lt w_lit (w_len_list (w_arg rfl))))
  rw [List.length_map] at h5
  refine Nat.le_of_not_lt fun q=>?_
  have q':(n:Int) < ((ns.length:Nat):Int):=by omega
  first
   | (rw [decide_eq_true q'] at h5;exact absurd h5 (by decide))
   | (simp at h5;omega)
 cases hwl with
 | cons w1 w2=>
  cases w2
  cases w1 with
  | list ho hall=>exact ⟨_,_,ns,rfl,rfl,ho,zdt ns _ hall,hlen⟩
theorem zhJ (l:OpenLaw)(args:List WData):l.row.toRowW.claim.post args (.bool true) args=true:=
 postW_of (r:=l.row.toRowW) (X:=(true==true))
  (show WShape.has [] (.bool true) .bool=true by first | rfl | decide | simp [WShape.has,WShape.arms,WShape.armsAll])
  (show (WTm.eq .res (.lit (.bool true))).value [] {args:=args,res:=some (.bool true),after:=args}=some (.bool (true==true)) from w_eq_bool (w_res rfl) w_lit) rfl
theorem attach_call {l:OpenLaw}{n:Nat}{q:Program}{loose:List Str}{XP:(Str→Option Value)→Heap→Prop}{YP:World→Heap→Prop}{d:DefRec}
  (hn:l.most=some n) (hdf:d.params.defaults=[])
  (call:∀(w:World) (s₀ s₁:Shared) (mg mb:Str→Option Value) (fa:Addr) (o:Obj) (pm cd doc:Value) (a:Addr) (vs:List Value) (ns:List Int),
   Ground q loose [] XP w s₀ mg mb s₁.heap→YP w s₁.heap→
   s₁.heap.get? fa=some o→o.data=.func (docDef d.name d.params d.body d.scope pm cd doc)→s₁.heap.CodeRec cd d.name→mg d.name=some (.ref fa)→
   s₁.heap.get? a=some {cls:=.type "list",data:=.seq vs.toArray}→IntsAre vs ns→ns.length≤n→s₁.gens= #[]→
   codeAny (model l.prog w) callerA (.call (.ref fa) ⟨[.ref a],[]⟩) (fun r s'=>r=.ok (.ret (.bool true))∧OldK s₁.heap s'.heap∧s'.os=s₁.os∧AllBare s'.gens) s₁):
  WalkO q loose XP YP l.row.toRowW d [] (fun f vs=>PySem.call f vs):=by
 intro w s₀ s₁ mg mb G Y fa o pm cd doc dV kV ho hd hcd hD hmg hg args vals as hpre hlay hrd hwl hlo
 obtain rfl:dV=.none:=Dflts.none hD hdf
 obtain rfl:kV=.none:=Dflts.noKw hD
 obtain ⟨a,vs,ns,rfl,rfl,hobj,hints,hlen⟩:=zh8 hn hpre hwl
 refine enter_call (codeAny_mono (call w s₀ s₁ mg mb fa o pm cd doc a vs ns G Y ho (fd_plain hd) hcd hmg hobj hints hlen hg) fun r s' hq=>?_)
 obtain ⟨rfl,h2,h3,h4⟩:=hq
 exact ⟨.inl ⟨.bool true,.bool true,[],rfl,fun _=>rfl,.bool true,zhJ l _,fun _=>⟨List.Pairwise.nil,fun _ hm=>(nomatch hm)⟩⟩,h2,h3,h4⟩
section
variable {prog:Program}{w:World}{A:Around}{E:Value→Shared→Prop}{s:Shared}{K:Frag}
def zmM (h:Heap):Heap:={h with objs:= #[]}
def ledger (h:Heap)(L d:Addr):List (Addr ×Obj):=(List.range h.objs.size).filterMap fun a=>if a=L∨a=d then none else (h.get? a).map fun o=>(a,o)
end
end Att
namespace L2
open PySem PySem.Spec PyProof.Rows
theorem zew:∀{vs:List Value} {ns:List Int},IntsAre vs ns→Vals (ns.map V.int) vs
 | _,_,.nil=>.nil
 | _,_,.cons n t h=>.cons ⟨t,rfl⟩ (zew h)
def Only (H:Hp):Prop:=∀b,H b=none∨∃o xs,H b=some (.frz o (.lst xs))
theorem ziV {P:Program}{w:World}{K:PySem.W.Frag}{mg mb:Str→Option Value}{CX:CXT}{k:Nat}{fa a:Addr}{fd:FuncData}{x:Str}{sp:Sp}{s₁:Shared}{vs:List Value}{ns:List Int}
  (KX:K.In s₁.heap) (hns:s₁.heap.Ns mainGlobals mg) (hb:s₁.heap.Ns builtinsNs mb) (hbb:∀x:Str,x≠ "__name__" →mb x=bootBuiltins x) (hlim:s₁.heap.NoLimit) (hg:s₁.gens= #[])
  (ha:s₁.heap.get? a=some {cls:=.type "list",data:=.seq vs.toArray}) (hi:IntsAre vs ns) (hl:ns.length≤sizeLine) (hr:Room k callerA)
  (F:∀base:Heap,K.In base→base.Ns mainGlobals mg→FnOk P w K mg base CX k fa fd [x] sp) (hbind:∀(s:Shared) (u:Value),BindsTo s fd ⟨[u],[]⟩ [(x,u)])
  (hsp:∀H:Hp,Only H→SqL K H a (ns.map V.int)→sp [.ref a] H (fun v _=>v=.bl true) fun _ _ _=>False)
  (hCX:∀H e s',CX [] H s₁ (fun _ _ _=>False) e s'→False):
  codeAny (model P w) callerA (.call (.ref fa) ⟨[.ref a],[]⟩) (fun r s'=>r=.ok (.ret (.bool true))∧OldK s₁.heap s'.heap∧s'.os=s₁.os∧AllBare s'.gens) s₁:=by
 have rv:=zew hi
 have lenV:=hi.length
 have core:∀H:Hp,Only H→SqL K H a (ns.map V.int)→HOk P w H s₁.heap→(∀b,H b≠none→b=a)→(H a≠none→K.lookup a=none)→
   codeAny (model P w) callerA (.call (.ref fa) ⟨[.ref a],[]⟩) (fun r s'=>r=.ok (.ret (.bool true))∧OldK s₁.heap s'.heap∧s'.os=s₁.os∧AllBare s'.gens) s₁:=by
  intro H hO hS hok hA hK
  have base_of:∀{b:Addr} {o:Obj},s₁.heap.get? b=some o→H b=none→(hidT s₁.heap H).get? b=some o:=fun e n=>zii e n
  have noA:∀{b:Addr} {o:Obj} {es:Array DictEntry} {ep:Nat},s₁.heap.get? b=some o→o.data=.dict es ep→H b=none:=fun {b o es ep} e d=>by
   cases q:H b with
   | none=>rfl
   | some u=>
    have e':b=a:=hA b (by rw [q];simp)
    subst e'
    rw [ha] at e;cases e
    have d':Data.seq vs.toArray _=Data.dict es ep:=d
    cases d'
  have nsK:∀{b:Addr} {m:Str→Option Value},s₁.heap.Ns b m→(hidT s₁.heap H).Ns b m:=fun {b m} ⟨o,es,ep,e,d,r⟩=>⟨o,es,ep,base_of e (noA e d),d,r⟩
  have hKb:K.In (hidT s₁.heap H):=fun b o e=>base_of (KX b o e) (by
   cases q:H b with
   | none=>rfl
   | some u=>
    have e':b=a:=hA b (by rw [q];simp)
    subst e'
    rw [hK (by rw [q];simp)] at e;cases e)
  have hM:Mod K mg (hidT s₁.heap H):=⟨hKb,nsK hns,⟨mb,nsK hb,hbb⟩,let ⟨mc,h1,h2⟩:=hlim;⟨mc,nsK h1,h2⟩⟩
  have e0:Env0 P w K mg (hidT s₁.heap H) callerA [] s₁ H:=⟨rfl,hM,fun b o e=>zko e,Nat.le_of_eq (zie _ _),trivial,fun b hb=>absurd (show b∈([]:List Addr) from hb) (by simp),hok,.of_eq hg⟩
  refine codeAny_mono ((F _ hKb (nsK hns)).run callerA [] s₁ H ⟨[.ref a],[]⟩ [.ref a] [.ref a] _ _ hr e0 (hbind s₁ (.ref a)) (.cons rfl .nil) (hsp H hO hS)) fun r s' h=>?_
  cases r with
  | error e=>exact (hCX H e s' h).elim
  | ok fl=>
   cases fl with
   | next=>exact False.elim h
   | brk=>exact False.elim h
   | cont=>exact False.elim h
   | ret u=>
    obtain ⟨v,H',os,bare,un,hok',r',q⟩:=h
    have q':v=.bl true:=q
    subst q'
    obtain rfl:u=Value.bool true:=r'
    refine ⟨rfl,OldK.of_keep fun b o e=>?_,os,bare⟩
    cases q:H b with
    | none=>exact un.keep b o e q (by intro z;exact absurd (show b∈([]:List Addr) from z) (by simp)) (by simp)
    | some u=>
     rcases hO b with z | ⟨ob,xs,z⟩
     ·rw [q] at z;cases z
     ·have z2:=un.frzs b ob _ z
      obtain ⟨e1,_⟩:=hok b _ z
      obtain ⟨e2,_⟩:=hok' b _ z2
      rw [e] at e1;cases e1
      exact e2
 cases hk:K.lookup a with
 | some o=>
  have e:=KX a o hk
  rw [ha] at e
  cases e
  refine core (fun _=>none) (fun _=>.inl rfl) (.inr ⟨_,vs.toArray,_,hk,rfl,rfl,rfl,by rw [List.size_toArray,lenV];exact hl,by simpa using rv⟩) (fun b u z=>by have z':(none:Option HO)=some u:=z;cases z') (fun b z=>absurd rfl z) fun z=>absurd rfl z
 | none=>
  refine core (fun b=>if b=a then some (.frz {cls:=.type "list",data:=.seq vs.toArray} (.lst (ns.map V.int))) else none) (fun b=>?_) (.inl (.inr ⟨{cls:=.type "list",data:=.seq vs.toArray},if_pos rfl⟩)) (fun b u z=>?_) (fun b z=>?_) fun _=>hk
  ·by_cases hb:b=a
   ·exact .inr ⟨_,_,if_pos hb⟩
   ·exact .inl (if_neg hb)
  ·by_cases hb:b=a
   ·have z':=(if_pos hb).symm.trans z
    cases z'
    subst hb
    exact ⟨ha,by rw [List.length_map];exact hl,vs,_,rv,ha⟩
   ·have z':=(if_neg hb).symm.trans z
    cases z'
  ·by_cases hb:b=a
   ·exact hb
   ·exact absurd (if_neg hb) z
end L2
namespace L2
open PySem PySem.Spec PyProof.Rows
abbrev KOf {K:PySem.W.Frag}{h:Heap}(_:K.In h):PySem.W.Frag:=K
theorem zj3 {l:PySem.W.OpenLaw}{n k:Nat}{q:Program}{loose:List Str}{XP:(Str→Option Value)→Heap→Prop}{YP:World→Heap→Prop}{d:DefRec}{K:Params→PySem.W.Frag}{CX:World→CXT}{sp:World→Sp}{x:Str}
  (hn:l.most=some n) (hn2:n≤sizeLine) (hdf:d.params.defaults=[]) (hr:Room k callerA)
  (hY:∀(w:World) (h:Heap),YP w h→(K w.params).In h)
  (F:∀(w:World) (mg:Str→Option Value) (fa:Addr) (h:Heap),(K w.params).In h→h.Ns mainGlobals mg→mg d.name=some (.ref fa)→
   ∃fd:FuncData,(∀(s:Shared) (u:Value),BindsTo s fd ⟨[u],[]⟩ [(x,u)])∧
    ∀base:Heap,(K w.params).In base→base.Ns mainGlobals mg→FnOk l.prog w (K w.params) mg base (CX w) k fa fd [x] (sp w))
  (hsp:∀(w:World) (H:Hp) (a:Addr) (ns:List Int),ns.length≤n→Only H→SqL (K w.params) H a (ns.map V.int)→sp w [.ref a] H (fun v _=>v=.bl true) fun _ _ _=>False)
  (hCX:∀(w:World) (H:Hp) (s:Shared) (e:Value) (s':Shared),CX w [] H s (fun _ _ _=>False) e s'→False):
  PySem.W.WalkO q loose XP YP l.row.toRowW d [] (fun f vs=>PySem.call f vs):=by
 refine Att.attach_call hn hdf fun w s₀ s₁ mg mb fa o pm cd doc a vs ns G Y ho hd hcd hmg hobj hints hlen hg=>?_
 have KX:=hY w _ Y
 obtain ⟨fd,hb,hF⟩:=F w mg fa _ KX G.T.g hmg
 exact ziV KX G.T.g G.T.b G.T.builtins G.T.nolimit hg hobj hints (Nat.le_trans hlen hn2) hr hF hb (fun H hO hS=>hsp w H a ns hlen hO hS) fun H e s'=>hCX w H s₁ e s'
end L2
namespace L2
open PySem PySem.Spec PyProof.Rows
abbrev CX0:CXT:=fun _ _ _ _ _ _=>False
abbrev E0:XK:=fun _ _ _=>False
theorem zi5 {X:Cx}:zbA CX0 X E0:=fun _ _ _ _ _ _ _ h=>h.elim
structure Fun (K:PySem.W.Frag)(x qual:Str)(st:Stmt)(f:Addr)(fd:FuncData):Prop where
 ex:∃(oc:Value) (od:Option Addr) (kV doc pm:Value) (an:Option Addr) (cdv ct:Value) (osl:Array (Option Value)),
  fd=PySem.W.fnOf x qual (zt st) (zo st) (zd st) .none kV doc pm an cdv ct∧K.lookup f=some ⟨oc,od,.func fd,osl⟩∧PySem.W.codeIn K cdv qual=true
 kp:PySem.W.keepIn K (.ref f)=true
section
variable {P:Program}{w:World}{K:PySem.W.Frag}{mg:Str→Option Value}{base:Heap}
theorem Fun.ok {x qual:Str}{st:Stmt}{f:Addr}{fd:FuncData}{N ps:List Str}{k:Nat}{sp:Sp}(F:Fun K x qual st f fd)(S:zu N ps (zd st))(len:∀vs H Q E,sp vs H Q E→vs.length=ps.length)
  (hbody:∀(cdv:Value) (A:Around) (outer:List Env) (s:Shared) (H:Hp) (vs:List V) (Q:VK) (E:XK),Room k (A.deeper (envOfC qual (zd st) s.heap.objs.size f cdv))→sp vs H Q E→
   ∃t,PSs (cxOf CX0 P w K mg base N qual (zd st) f cdv A outer s H E).nox (zo st) t∧t {nx:=fun _ H'=>Q .non H',rt:=Q} (start N vs) H):FnOk P w K mg base CX0 (k+1) f fd ps sp:=by
 obtain ⟨oc,od,kV,doc,pm,an,cdv,ct,osl,rfl,lk,hcd⟩:=F.ex
 refine zkU lk hcd S len fun A outer s H vs Q E hr hsp=>?_
 obtain ⟨t,h,q⟩:=hbody cdv A outer s H vs Q E hr hsp
 exact ⟨t,h.nox,q⟩
theorem Fun.binds {x qual:Str}{st:Stmt}{f:Addr}{fd:FuncData}{ps:List Str}(F:Fun K x qual st f fd)
  (h:∀(kV doc pm:Value) (an:Option Addr) (cdv ct:Value) (us:List Value),us.length=ps.length→bindArgs (PySem.W.fnOf x qual (zt st) (zo st) (zd st) .none kV doc pm an cdv ct) ⟨us,[]⟩=pure (ps.zip us)):Binds K fd ps []:=by
 obtain ⟨oc,od,kV,doc,pm,an,cdv,ct,osl,rfl,lk,hcd⟩:=F.ex
 exact .all (h kV doc pm an cdv ct)
theorem zbP {x qual:Str}{st:Stmt}{f:Addr}{oc:Value}{od an:Option Addr}{osl:Array (Option Value)}{kV doc pm cdv ct:Value}(l:K.lookup f=some ⟨oc,od,.func (PySem.W.fnOf x qual (zt st) (zo st) (zd st) .none kV doc pm an cdv ct),osl⟩)
  (c:PySem.W.codeIn K cdv qual=true) (k:PySem.W.keepIn K (.ref f)=true):Fun K x qual st f (PySem.W.fnOf x qual (zt st) (zo st) (zd st) .none kV doc pm an cdv ct):=⟨⟨oc,od,kV,doc,pm,an,cdv,ct,osl,rfl,l,c⟩,k⟩
end
theorem zeo {A:Around}{k:Nat}(hr:Room k A):A.units+1 < cLine:=Nat.lt_of_le_of_lt (Nat.add_le_add_left (by decide:1≤64) _) hr.units
theorem zhn {n:Nat}(h:n≤1000):n < sizeLine:=Nat.lt_of_le_of_lt h (by decide)
section
variable {X:Cx}
theorem pv (i:Nat){x:Str}{pos:Pos}(hN:X.N[i]? =some x:=by rfl)(hv:Vis X.env.scope x:=by first | exact Or.inl rfl | exact Or.inr (Or.inl rfl) | exact Or.inr (Or.inr rfl))(hd:(x==("__debug__" :Str))=false:=by decide)
  (hcd:(x==("__classdict__" :Str))=false:=by decide):PE X (.Name x pos) (tVar i):=zla hN hv hd hcd
end
def Same (H H':Hp):Prop:=∀b o,H b=some o→H' b=some o
theorem Same.refl (H:Hp):Same H H:=fun _ _ h=>h
theorem Same.trans {H H1 H2:Hp}(a:Same H H1)(b:Same H1 H2):Same H H2:=fun c o h=>b c o (a c o h)
theorem Same.free {H H':Hp}(e:Same H H'){l:Addr}(h:H' l=Option.none):H l=Option.none:=by
 cases q:H l with
 | none=>rfl
 | some o=>
  rw [e l o q] at h
  cases h
theorem Same.seq {K:PySem.W.Frag}{H H':Hp}{a:Addr}{xs:List V}(e:Same H H')(h:SqL K H a xs):SqL K H' a xs:=by
 rcases h with (h | ⟨o,h⟩) | h
 ·exact .inl (.inl (e _ _ h))
 ·exact .inl (.inr ⟨o,e _ _ h⟩)
 ·exact .inr h
end L2
namespace L2
open PySem PySem.Spec PyProof.Rows
section
variable {κ:Type} [DecidableEq κ]
def valV (kvs:List (κ ×V))(k:κ):Option V:=(kvs.find? fun kv=>decide (kv.1=k)).map (·.2)
def putK (kvs:List (κ ×V))(k:κ)(v:V):List (κ ×V):=
 if (kvs.any fun kv=>decide (kv.1=k))=true then kvs.map (fun kv=>if kv.1=k then (kv.1,v) else kv) else kvs++ [(k,v)]
def zfl (kvs:List (κ ×V))(k:κ):List (κ ×V):=kvs.filter fun kv=>decide (kv.1≠k)
theorem zcV {p:κ ×V}{r:List (κ ×V)}{k:κ}(e:p.1=k):valV (p::r) k=some p.2:=by simp [valV,List.find?_cons,e]
theorem zee {p:κ ×V}{r:List (κ ×V)}{k:κ}(e:¬p.1=k):valV (p::r) k=valV r k:=by simp [valV,List.find?_cons,e]
theorem zd6 (k:κ):∀kvs:List (κ ×V),(kvs.any fun kv=>decide (kv.1=k))=(valV kvs k).isSome
 | []=>rfl
 | p::r=>by
  rw [List.any_cons]
  by_cases e:p.1=k
  ·simp only [zcV e,decide_eq_true e,Bool.true_or,Option.isSome_some]
  ·rw [zee e,decide_eq_false e,Bool.false_or];exact zd6 k r
theorem zdg (kvs:List (κ ×V))(k:κ)(v:V):(putK kvs k v).length≤kvs.length+1:=by
 unfold putK
 split
 ·rw [List.length_map];omega
 ·rw [List.length_append,List.length_cons,List.length_nil];omega
theorem ziN {kvs:List (κ ×V)}{k:κ}(v:V)(h:valV kvs k=none):putK kvs k v=kvs++ [(k,v)]:=by
 unfold putK
 rw [zd6,h]
 exact if_neg (by decide)
theorem RelO.isSome_eq {o:Option V}{u:Option Value}(r:RelO o u):o.isSome=u.isSome:=by
 cases o with
 | none=>cases u with
  | none=>rfl
  | some _=>exact (show False from r).elim
 | some _=>cases u with
  | none=>exact (show False from r).elim
  | some _=>rfl
theorem RelO.getD {o:Option V}{u:Option Value}{d:V}{d':Value}(r:RelO o u)(rd:RelV d d'):RelV (o.getD d) (u.getD d'):=by
 cases o with
 | none=>cases u with
  | none=>exact rd
  | some _=>exact (show False from r).elim
 | some _=>cases u with
  | none=>exact (show False from r).elim
  | some _=>exact r
theorem KV.val {kvs:List (κ ×V)}{vs:List (κ ×Value)}(r:KV kvs vs)(k:κ):RelO (valV kvs k) (valueAt vs k):=by
 unfold KV at r
 induction r with
 | nil=>exact True.intro
 | @cons p q ps qs h t ih=>
  obtain ⟨h1,h2⟩:=h
  by_cases e:p.1=k
  ·have e':q.1=k:=h1.symm.trans e
   have b:valueAt (q::qs) k=some q.2:=by simp [valueAt,List.find?_cons,e']
   rw [zcV e,b];exact h2
  ·have e':¬q.1=k:=fun z=>e (h1.trans z)
   have b:valueAt (q::qs) k=valueAt qs k:=by simp [valueAt,List.find?_cons,e']
   rw [zee e,b];exact ih
theorem KV.any {kvs:List (κ ×V)}{vs:List (κ ×Value)}(r:KV kvs vs)(k:κ):(kvs.any fun kv=>decide (kv.1=k))=vs.any fun kv=>decide (kv.1=k):=by
 unfold KV at r
 induction r with
 | nil=>rfl
 | cons h t ih=>rw [List.any_cons,List.any_cons,ih,h.1]
theorem KV.repl {kvs:List (κ ×V)}{vs:List (κ ×Value)}(r:KV kvs vs)(k:κ){y:V}{u:Value}(ry:RelV y u):
  KV (kvs.map fun kv=>if kv.1=k then (kv.1,y) else kv) (vs.map fun kv=>if kv.1=k then (kv.1,u) else kv):=by
 unfold KV at r ⊢
 induction r with
 | nil=>exact .nil
 | @cons p q ps qs h t ih=>
  rw [List.map_cons,List.map_cons]
  refine .cons ?_ ih
  obtain ⟨h1,h2⟩:=h
  by_cases e:p.1=k
  ·rw [if_pos e,if_pos (h1.symm.trans e)];exact ⟨h1,ry⟩
  ·rw [if_neg e,if_neg (fun z=>e (h1.trans z))];exact ⟨h1,h2⟩
theorem KV.put {kvs:List (κ ×V)}{vs:List (κ ×Value)}(r:KV kvs vs)(k:κ){y:V}{u:Value}(ry:RelV y u):KV (putK kvs k y) (stored vs k u):=by
 unfold putK stored
 rw [r.any k]
 by_cases e:(vs.any fun kv=>decide (kv.1=k))=true
 ·rw [if_pos e,if_pos e];exact r.repl k ry
 ·rw [if_neg e,if_neg e];exact Paired.snoc r ⟨rfl,ry⟩
theorem KV.drop {kvs:List (κ ×V)}{vs:List (κ ×Value)}(r:KV kvs vs)(k:κ):KV (zfl kvs k) (without vs k):=by
 unfold KV at r ⊢
 unfold zfl without
 induction r with
 | nil=>exact .nil
 | @cons p q ps qs h t ih=>
  obtain ⟨h1,h2⟩:=h
  rw [List.filter_cons,List.filter_cons]
  by_cases e:p.1=k
  ·have a:¬decide (p.1≠k)=true:=by simp [e]
   have b:¬decide (q.1≠k)=true:=by simp [h1.symm.trans e]
   rw [if_neg a,if_neg b];exact ih
  ·have e':¬q.1=k:=fun z=>e (h1.trans z)
   have a:decide (p.1≠k)=true:=by simp [e]
   have b:decide (q.1≠k)=true:=by simp [e']
   rw [if_pos a,if_pos b];exact .cons ⟨h1,h2⟩ ih
theorem KV.keys {kvs:List (κ ×V)}{vs:List (κ ×Value)}(r:KV kvs vs):kvs.map (·.1)=vs.map (·.1):=by
 unfold KV at r
 induction r with
 | nil=>rfl
 | cons h t ih=>rw [List.map_cons,List.map_cons,ih,h.1]
theorem KV.length {kvs:List (κ ×V)}{vs:List (κ ×Value)}(r:KV kvs vs):kvs.length=vs.length:=Paired.length r
end
theorem zfk {P:Program}{w:World}{k:Key}{u:Value}(r:RelV (kV k) u):(zav P w).is k u=true:=by
 cases k with
 | inl i=>obtain ⟨t,e⟩:=(show∃t,u=Value.int i t from r);subst e;exact zfS P w i t
 | inr x=>obtain ⟨t,e⟩:=(show∃t,u=Value.str x t from r);subst e;exact zfJ P w x t
theorem zeD {P:Program}{w:World}:∀{ks:List Key} {us:List Value},Vals (ks.map kV) us→ItemsAre (zav P w) ks us
 | [],_,r=>by rw [List.map_nil] at r;cases r;exact .nil
 | k::ks,_,r=>by
  rw [List.map_cons] at r
  cases r with
  | cons h t=>exact .cons (zfk h) (zeD t)
abbrev KT (H:Hp):List (List Key ×V)→List (List Key ×Addr ×Value)→Prop:=Paired fun p q=>p.1=q.1∧H q.2.1=some (.tup (p.1.map kV))∧RelV p.2 q.2.2
theorem KT.val {H:Hp}{kvs:List (List Key ×V)}{xs:List (List Key ×Addr ×Value)}(r:KT H kvs xs)(k:List Key):RelO (valV kvs k) ((atKey xs k).map (·.2)):=by
 induction r with
 | nil=>exact True.intro
 | @cons p q ps qs h t ih=>
  obtain ⟨h1,_,h2⟩:=h
  by_cases e:p.1=k
  ·have e':q.1=k:=h1.symm.trans e
   have b:atKey (q::qs) k=some q.2:=by simp [atKey,List.find?_cons,e']
   rw [zcV e,b];exact h2
  ·have e':¬q.1=k:=fun z=>e (h1.trans z)
   have b:atKey (q::qs) k=atKey qs k:=by simp [atKey,List.find?_cons,e']
   rw [zee e,b];exact ih
theorem KT.repl {H:Hp}{kvs:List (List Key ×V)}{xs:List (List Key ×Addr ×Value)}(r:KT H kvs xs)(k:List Key){y:V}{u:Value}(ry:RelV y u):
  KT H (kvs.map fun kv=>if kv.1=k then (kv.1,y) else kv) (xs.map (putAt k u)):=by
 induction r with
 | nil=>exact .nil
 | @cons p q ps qs h t ih=>
  rw [List.map_cons,List.map_cons]
  refine .cons ?_ ih
  obtain ⟨h1,h2,h3⟩:=h
  unfold putAt
  by_cases e:p.1=k
  ·rw [if_pos e,if_pos (h1.symm.trans e)];exact ⟨h1,h2,ry⟩
  ·rw [if_neg e,if_neg (fun z=>e (h1.trans z))];exact ⟨h1,h2,h3⟩
theorem KT.put {H:Hp}{kvs:List (List Key ×V)}{xs:List (List Key ×Addr ×Value)}(r:KT H kvs xs)(k:List Key){b:Addr}{y:V}{u:Value}(hb:H b=some (.tup (k.map kV)))(ry:RelV y u):
  KT H (putK kvs k y) (storedH xs k b u):=by
 have e:(kvs.any fun kv=>decide (kv.1=k))=(atKey xs k).isSome:=by
  rw [zd6,(r.val k).isSome_eq,Option.isSome_map]
 unfold putK storedH
 rw [e]
 by_cases q:(atKey xs k).isSome=true
 ·rw [if_pos q,if_pos q];exact r.repl k ry
 ·rw [if_neg q,if_neg q];exact Paired.snoc r ⟨rfl,hb,ry⟩
theorem KT.keeps {H H':Hp}{kvs:List (List Key ×V)}{xs:List (List Key ×Addr ×Value)}(r:KT H kvs xs)(ht:∀b ys,H b=some (.tup ys)→H' b=some (.tup ys)):KT H' kvs xs:=
 Paired.mapP r fun _ _ z=>⟨z.1,ht _ _ z.2.1,z.2.2⟩
section
variable {P:Program}{w:World}{H:Hp}{h:Heap}{a:Addr}
theorem zkR {u:HO}(ok:HOk P w H h)(e:Rd H a u):zU P w H h a u:=e.ok ok
theorem zfX {kvs:List (Key ×V)}(ok:HOk P w H h)(e:Rd H a (.dK kvs)):kvs.length≤sizeLine∧(a==sysModules)=false∧∃vs,KV kvs vs∧h.DictOf (zav P w) a vs:=
 show zU P w H h a (.dK kvs) from zkR ok e
theorem zmr {kvs:List (Key ×V)}(ok:HOk P w H h)(e:H a=some (.dK kvs)):kvs.length≤sizeLine∧(a==sysModules)=false∧∃vs,KV kvs vs∧h.DictOf (zav P w) a vs:=zfX ok (.inl e)
theorem zdL {ks:List Key}(ok:HOk P w H h)(e:H a=some (.tup (ks.map kV))):(tupleKind (zav P w)).is h ks a:=by
 obtain ⟨_,its,r,o,h1,h2,n,h3⟩:=(show zU P w H h a (.tup (ks.map kV)) from ok a _ e)
 exact ⟨o,its.toArray,n,h1,h2,h3,by simpa using zeD r⟩
theorem zfE {kvs:List (List Key ×V)}(ok:HOk P w H h)(e:Rd H a (.dT kvs)):kvs.length≤sizeLine∧(a==sysModules)=false∧
  ∃xs,KT H kvs xs∧h.DictOfH (tupleKind (zav P w)) a xs:=by
 obtain ⟨z,y,xs,r,o,es,ep,h1,h2,h3,h4,h5⟩:=(show zU P w H h a (.dT kvs) from zkR ok e)
 refine ⟨z,y,xs,r,o,es,ep,h1,h2,h3,h4,fun x hx=>?_,h5⟩
 have all:∀{l:List (List Key ×V)} {m:List (List Key ×Addr ×Value)},KT H l m→∀x∈m,(tupleKind (zav P w)).is h x.1 x.2.1:=by
  intro l m q
  induction q with
  | nil=>intro x hx;exact nomatch hx
  | @cons p q ps qs hq t ih=>
   intro x hx
   rcases List.mem_cons.mp hx with e | hx
   ·subst e
    exact zdL ok (by rw [←hq.1];exact hq.2.1)
   ·exact ih x hx
 exact all r x hx
theorem zmo {kvs:List (List Key ×V)}(ok:HOk P w H h)(e:H a=some (.dT kvs)):kvs.length≤sizeLine∧(a==sysModules)=false∧
  ∃xs,KT H kvs xs∧h.DictOfH (tupleKind (zav P w)) a xs:=zfE ok (.inl e)
end
def DGet (H:Hp)(a:Addr)(y:V)(r:Option V):Prop:=
 (∃kvs k,Rd H a (.dK kvs)∧y=kV k∧r=valV kvs k)∨∃kvs k b,Rd H a (.dT kvs)∧y=.ref b∧H b=some (.tup (k.map kV))∧r=valV kvs k
def DPut (H:Hp)(a:Addr)(y v:V)(H':Hp):Prop:=
 (∃kvs k,H a=some (.dK kvs)∧y=kV k∧kvs.length < sizeLine∧H'=upd H a (.dK (putK kvs k v)))∨
 ∃kvs k b,H a=some (.dT kvs)∧y=.ref b∧H b=some (.tup (k.map kV))∧kvs.length < sizeLine∧H'=upd H a (.dT (putK kvs k v))
theorem DGet.k {H:Hp}{a:Addr}{kvs:List (Key ×V)}{k:Key}(e:H a=some (.dK kvs)):DGet H a (kV k) (valV kvs k):=.inl ⟨kvs,k,.inl e,rfl,rfl⟩
theorem DGet.t {H:Hp}{a b:Addr}{kvs:List (List Key ×V)}{k:List Key}(e:H a=some (.dT kvs))(eb:H b=some (.tup (k.map kV))):DGet H a (.ref b) (valV kvs k):=.inr ⟨kvs,k,b,.inl e,rfl,eb,rfl⟩
theorem DPut.k {H:Hp}{a:Addr}{kvs:List (Key ×V)}{k:Key}{v:V}(e:H a=some (.dK kvs))(hl:kvs.length < sizeLine):DPut H a (kV k) v (upd H a (.dK (putK kvs k v))):=.inl ⟨kvs,k,e,rfl,hl,rfl⟩
theorem DPut.t {H:Hp}{a b:Addr}{kvs:List (List Key ×V)}{k:List Key}{v:V}(e:H a=some (.dT kvs))(eb:H b=some (.tup (k.map kV)))(hl:kvs.length < sizeLine):
  DPut H a (.ref b) v (upd H a (.dT (putK kvs k v))):=.inr ⟨kvs,k,b,e,rfl,eb,hl,rfl⟩
section
variable {X:Cx}{pins:List (Addr ×Obj)}{σ:St}{H:Hp}{s:Shared}{a:Addr}{y v:V}{u r:Value}{o:Option V}{A:Around}{E:Value→Shared→Prop}
theorem Inv.big (I:Inv X pins σ H s):sysModules < s.heap.objs.size:=by
 have h:mainGlobals < s.heap.objs.size:=(I.mod.glob.keeps I.bk).lt
 exact Nat.lt_trans (by decide) h
theorem zh4 {Q:Value→Shared→Prop}(hu:A.units+1 < cLine)(I:Inv X pins σ H s)(g:DGet H a y (some v))(ry:RelV y u)(h:∀w' s',Inv X pins σ H s'→RelV v w'→Q w' s'):
  wpAny (model X.prog X.w) A (getItem (.ref a) u) Q E s:=by
 rcases g with ⟨kvs,k,e,ey,l⟩ | ⟨kvs,k,b,e,ey,eb,l⟩
 ·subst ey
  obtain ⟨z,hd,vs,rel,dd⟩:=zfX I.hok e
  obtain ⟨w',hw,rw'⟩:=RelO.some_of (v:=v) (o:=valueAt vs k) (by rw [l];exact rel.val k)
  exact wpAny_getItem_of (zfk ry) dd.mapOf hw (h w' _ (I.tok _) rw')
 ·subst ey
  cases (show u=Value.ref b from ry)
  obtain ⟨z,hd,xs,rel,dd⟩:=zfE I.hok e
  obtain ⟨w',hw,rw'⟩:=RelO.some_of (v:=v) (o:=(atKey xs k).map (·.2)) (by rw [l];exact rel.val k)
  obtain ⟨p,hp,hp2⟩:=Option.map_eq_some_iff.mp hw
  refine wpAny_getItem_heap (tupleKind_room_in1 hu) (zdL I.hok eb) dd hp ?_
  rw [hp2]
  exact h w' _ (I.tok _) rw'
theorem d_in {Q:Value→Shared→Prop}(hu:A.units+1 < cLine)(I:Inv X pins σ H s)(g:DGet H a y o)(ry:RelV y u)(h:∀s',Inv X pins σ H s'→Q (.bool o.isSome) s'):
  wpAny (model X.prog X.w) A (compareOp .In u (.ref a)) Q E s:=by
 rcases g with ⟨kvs,k,e,ey,l⟩ | ⟨kvs,k,b,e,ey,eb,l⟩
 ·subst ey
  obtain ⟨z,hd,vs,rel,dd⟩:=zfX I.hok e
  refine wpAny_in_of (zfk ry) hd dd.mapOf ?_
  rw [←(rel.val k).isSome_eq,←l]
  exact h _ (I.tok _)
 ·subst ey
  cases (show u=Value.ref b from ry)
  obtain ⟨z,hd,xs,rel,dd⟩:=zfE I.hok e
  refine wpAny_in_heap (tupleKind_room_in1 hu) (zdL I.hok eb) hd dd ?_
  have q:=(rel.val k).isSome_eq
  rw [Option.isSome_map] at q
  rw [←q,←l]
  exact h _ (I.tok _)
theorem zky {Q:Value→Shared→Prop}(hu:A.units+1 < cLine)(I:Inv X pins σ H s)(g:DGet H a y o)(ry:RelV y u)(h:∀s',Inv X pins σ H s'→Q (.bool (!o.isSome)) s'):
  wpAny (model X.prog X.w) A (compareOp .NotIn u (.ref a)) Q E s:=by
 rcases g with ⟨kvs,k,e,ey,l⟩ | ⟨kvs,k,b,e,ey,eb,l⟩
 ·subst ey
  obtain ⟨z,hd,vs,rel,dd⟩:=zfX I.hok e
  refine wpAny_notIn_of (zfk ry) hd dd.mapOf ?_
  rw [←(rel.val k).isSome_eq,←l]
  exact h _ (I.tok _)
 ·subst ey
  cases (show u=Value.ref b from ry)
  obtain ⟨z,hd,xs,rel,dd⟩:=zfE I.hok e
  refine wpAny_notIn_heap (tupleKind_room_in1 hu) (zdL I.hok eb) hd dd ?_
  have q:=(rel.val k).isSome_eq
  rw [Option.isSome_map] at q
  rw [←q,←l]
  exact h _ (I.tok _)
theorem zeZ {h':Heap}{t':Nat}{ob:HO}(I:Inv X pins σ H s)(mu:Mut (H a))(hs:Heap.SameBut a s.heap h')(he:∃q,h'.get? a=some q)(new:zU X.prog X.w (upd H a ob) h' a ob):
  Inv X pins σ (upd H a ob) {s with heap:=h',toks:=t'}:=
 I.write (x:=a) (e:=a) mu (.inl rfl) (fun b q hb z=>(hs.2 b hb).trans z) he new
theorem zli {P:Program}{w:World}{H':Hp}{h':Heap}{kvs:List (Key ×V)}{vs:List (Key ×Value)}(z:kvs.length≤sizeLine)(hd:(a==sysModules)=false)(rel:KV kvs vs)(dd:h'.DictOf (zav P w) a vs):
  zU P w H' h' a (.dK kvs):=⟨z,hd,vs,rel,dd⟩
theorem zhD {H':Hp}{Q:Unit→Shared→Prop}(hu:A.units+1 < cLine)(I:Inv X pins σ H s)(g:DPut H a y v H')(ry:RelV y u)(rv:RelV v r)(h:∀s',Inv X pins σ H' s'→Q () s'):
  wpAny (model X.prog X.w) A (setItem (.ref a) u r) Q E s:=by
 rcases g with ⟨kvs,k,e,ey,l,eH⟩ | ⟨kvs,k,b,e,ey,eb,l,eH⟩
 ·subst ey eH
  obtain ⟨z,hd,vs,rel,dd⟩:=zmr I.hok e
  have hz:vs.length≤sizeLine:=by rw [←rel.length];exact z
  have hl:(putK kvs k v).length≤sizeLine:=by have:=zdg kvs k v;omega
  refine wpAny_setItem_pairs (hsz:=hz) (zfk ry) dd fun h' dd' hs=>h _ ?_
  have he:∃q,h'.get? a=some q:=let ⟨q,_,_,hq,_⟩:=dd';⟨q,hq⟩
  exact zeZ I (by rw [e];exact True.intro) hs he (zli hl hd (rel.put k rv) dd')
 ·subst ey eH
  cases (show u=Value.ref b from ry)
  obtain ⟨z,hd,xs,rel,dd⟩:=zmo I.hok e
  have hz:xs.length≤sizeLine:=by rw [←Paired.length rel];exact z
  have hl:(putK kvs k v).length≤sizeLine:=by have:=zdg kvs k v;omega
  refine wpAny_setItem_heap (hsz:=hz) (tupleKind_room_in1 hu) (zdL I.hok eb) dd fun h' dd' hs=>h _ ?_
  obtain ⟨q,es,ep,hq,h2,h3,h4,_,h5⟩:=dd'
  refine zeZ I (by rw [e];exact True.intro) hs ⟨q,hq⟩ ⟨hl,hd,_,(rel.put k eb rv).keeps fun c ys ec=>?_,q,es,ep,hq,h2,h3,h4,h5⟩
  rw [zk (za1 ec e (fun z=>nomatch z))]
  exact ec
end
section
variable {X:Cx}{pins:List (Addr ×Obj)}{σ:St}{H:Hp}{s:Shared}{a:Addr}{kvs:List (Key ×V)}{k:Key}{u:Value}{A:Around}{E:Value→Shared→Prop}
end
def NoSl (i:Expr):Prop:=∀ov iv,subscripted i false ov iv=operate [ov,iv] (getItem ov iv)
theorem zgI {prog:Program}{w:World}{A:Around}{E:Value→Shared→Prop}{s:Shared}{env:Env}{value slice:Expr}{pos:Pos}{T id:String}{Q:Value→Shared→Prop}
  (hl:typeLookup (.type T) "__getitem__" =pure (some (.builtin id))) (hs:NoSl slice)
  (h:wpAny (model prog w) A (eval value env) (fun o s₁=>wpAny (model prog w) A (eval slice env) (fun i s₂=>s₂.TypeIs o T∧wpAny (model prog w) A (getItem o i) Q E s₂) E s₁) E s):
  wpAny (model prog w) A (eval (.Subscript value slice pos) env) Q E s:=by
 refine Subscript_ (wpAny_mono h (fun o s₁ h₁=>wpAny_mono h₁ (fun i s₂ h₂=>?_) fun _ _ x=>x) fun _ _ x=>x)
 obtain ⟨hT,h₂⟩:=h₂
 unfold subscriptTail
 refine wpAny_bind ?_
 rw [getitemInPython_of_ne hT.not_modules]
 refine wpAny_bind (wpAny_specialOf hT hl ?_)
 have fin:wpAny (model prog w) A (subscripted slice false o i) (fun r s₃=>wpAny (model prog w) A (letTemporaryGo value o r >>=fun _=>pure r) Q E s₃) E s₂:=by
  rw [hs o i]
  exact wpAny_operating (wpAny_mono h₂ (fun r s₃ h₃=>wpAny_bind (wpAny_letTemporaryGo (wpAny_pure h₃))) fun _ _ x=>x)
 first
  | exact wpAny_pure (wpAny_bind fin)
  | exact wpAny_bind (wpAny_pure (wpAny_bind fin))
  | exact wpAny_bind fin
theorem zfo {X:Cx}{pins:List (Addr ×Obj)}{σ:St}{H:Hp}{s:Shared}{a:Addr}{y:V}{o:Option V}(I:Inv X pins σ H s)(g:DGet H a y o):s.TypeIs (.ref a) "dict" :=by
 rcases g with ⟨kvs,k,e,_,_⟩ | ⟨kvs,k,b,e,_,_,_⟩
 ·obtain ⟨_,_,vs,_,dd⟩:=zfX I.hok e
  exact dd.typeIs
 ·obtain ⟨_,_,xs,_,dd⟩:=zfE I.hok e
  exact dd.typeIs
def zmy (td ty:TE):TE:=fun σ H Q=>td σ H fun x H1=>ty σ H1 fun y H2=>∃a v,x=.ref a∧DGet H2 a y (some v)∧Q v H2
def tDIn (ty td:TE):TE:=fun σ H Q=>ty σ H fun y H1=>td σ H1 fun x H2=>∃a o,x=.ref a∧DGet H2 a y o∧Q (.bl o.isSome) H2
def zjN (ty td:TE):TE:=fun σ H Q=>ty σ H fun y H1=>td σ H1 fun x H2=>∃a o,x=.ref a∧DGet H2 a y o∧Q (.bl (!o.isSome)) H2
def zmC (td ty tv:TE):TS:=fun D σ H=>tv σ H fun v H1=>td σ H1 fun x H2=>ty σ H2 fun y H3=>∃a H4,x=.ref a∧DPut H3 a y v H4∧D.nx σ H4
def zne (td ty tv:TE)(rd:V→V→Hp→VK→Prop):TS:=fun D σ H=>td σ H fun x H1=>ty σ H1 fun y H2=>∃a v,x=.ref a∧DGet H2 a y (some v)∧
 tv σ H2 fun y2 H3=>rd v y2 H3 fun z H4=>∃H5,DPut H4 a y z H5∧D.nx σ H5
def znf (td ty:TE):TS:=fun D σ H=>td σ H fun x H1=>ty σ H1 fun y H2=>∃a kvs k,x=.ref a∧H2 a=some (.dK kvs)∧y=kV k∧(valV kvs k).isSome=true∧D.nx σ (upd H2 a (.dK (zfl kvs k)))
section
variable {X:Cx}{o i e value:Expr}{pos pos' tpos:Pos}{td ty tv:TE}
theorem ze2 (hu:X.A.units+1 < cLine)(ho:PE X o td)(hi:PE X i ty)(hs:NoSl i):PE X (.Subscript o i pos) (zmy td ty):=by
 intro pins s σ H Q I h
 refine zgI PySem.F.slot_dict_getitem.lookup hs (thn (ho pins s σ H _ I h) fun u s1 ⟨x,H1,I1,rx,q1⟩=>thn (hi pins s1 σ H1 _ I1 q1) fun iv s2 ⟨y,H2,I2,ry,a,v,ex,g,q2⟩=>?_)
 subst ex
 obtain rfl:u=Value.ref a:=rx
 exact ⟨zfo I2 g,zh4 hu I2 g ry fun w' s3 I3 rw'=>⟨v,H2,I3,rw',q2⟩⟩
theorem zlJ (hu:X.A.units+1 < cLine)(hi:PE X i ty)(ho:PE X o td):PC X .In i o (tDIn ty td):=by
 intro pins s σ H Q I h
 refine thn (hi pins s σ H _ I h) fun iv s1 ⟨y,H1,I1,ry,q1⟩=>thn (ho pins s1 σ H1 _ I1 q1) fun u s2 ⟨x,H2,I2,rx,a,ov,ex,g,q2⟩=>?_
 subst ex
 obtain rfl:u=Value.ref a:=rx
 exact d_in hu I2 g ry fun s3 I3=>⟨.bl ov.isSome,H2,I3,rfl,q2⟩
theorem zh1 (hu:X.A.units+1 < cLine)(hi:PE X i ty)(ho:PE X o td):PC X .NotIn i o (zjN ty td):=by
 intro pins s σ H Q I h
 refine thn (hi pins s σ H _ I h) fun iv s1 ⟨y,H1,I1,ry,q1⟩=>thn (ho pins s1 σ H1 _ I1 q1) fun u s2 ⟨x,H2,I2,rx,a,ov,ex,g,q2⟩=>?_
 subst ex
 obtain rfl:u=Value.ref a:=rx
 exact zky hu I2 g ry fun s3 I3=>⟨.bl (!ov.isSome),H2,I3,rfl,q2⟩
theorem zkt (hu:X.A.units+1 < cLine)(ho:PE X o td)(hi:PE X i ty)(hv:PE X value tv)(hs:swapsWith value (some (.Subscript o i pos')) pos.line X.env=pure false):
  PS X (.Assign [.Subscript o i pos'] value pos) (zmC td ty tv):=by
 intro pins s σ H D I h
 refine wpAny_Assign_Subscript (thn (hv pins s σ H _ I h) fun r s1 ⟨v,H1,I1,rv,q1⟩=>thn (ho pins s1 σ H1 _ I1 q1) fun u s2 ⟨x,H2,I2,rx,q2⟩=>thn (hi pins s2 σ H2 _ I2 q2) fun iv s3 ⟨y,H3,I3,ry,a,H4,ex,g,q3⟩=>?_) hs
 subst ex
 obtain rfl:u=Value.ref a:=rx
 exact zhD hu I3 g ry rv fun s4 I4=>⟨σ,H4,I4,q3⟩
end
theorem zij {P:Program}{w:World}{H:Hp}(h:Heap)(hb:sysModules < h.objs.size):zU P w H (h.push {cls:=.type "dict",data:=.dict #[]}) h.objs.size (.dK []):=
 ⟨Nat.zero_le _,beq_eq_false_iff_ne.mpr (Ne.symm (Nat.ne_of_lt hb)),[],.nil,Heap.DictOf.new h⟩
def zll:TE:=fun _ H Q=>∀p,H p=none→Q (.ref p) (upd H p (.dK []))
def zmV:TE:=fun _ H Q=>∀p,H p=none→Q (.ref p) (upd H p (.dT []))
section
variable {X:Cx}{pos:Pos}
theorem ziU:PE X (.Dict [] [] pos) zll:=fun pins s σ H Q I h=>
 wpAny_Dict_empty ⟨.ref s.heap.objs.size,_,I.laid (a:=s.heap.objs.size) (o:=.dK []) (t':=s.toks) (fun _ _ q=>Heap.get?_push_of_some _ q) (Nat.le_refl _) (zij s.heap I.big),rfl,h _ (I.hok.fresh (Nat.le_refl _))⟩
end
def zf7:List (TE ×TE)→St→Hp→(List (V ×V)→Hp→Prop)→Prop
 | [],_,H,Q=>Q [] H
 | (tk,tv)::r,σ,H,Q=>tk σ H fun x H1=>tv σ H1 fun y H2=>zf7 r σ H2 fun ps H3=>Q ((x,y)::ps) H3
abbrev VV:List (V ×V)→List (Value ×Value)→Prop:=Paired fun p q=>RelV p.1 q.1∧RelV p.2 q.2
def PPs (X:Cx)(pos:Pos)(keys:List (Option Expr))(values:List Expr)(trs:List (TE ×TE)):Prop:=
 ∀(pins:List (Addr ×Obj)) (s:Shared) (σ:St) (H:Hp) (Q:List (V ×V)→Hp→Prop),Inv X pins σ H s→zf7 trs σ H Q→
  wpAny (model X.prog X.w) X.A (evalPairs (pairTrees keys values X.env pos)) (fun vs s'=>∃ps H',Inv X pins σ H' s'∧VV ps vs∧Q ps H') X.xe s
def zle (kvs more:List (Key ×V)):List (Key ×V):=more.foldl (fun acc kv=>putK acc kv.1 kv.2) kvs
def znd (trs:List (TE ×TE)):TE:=fun σ H Q=>∀p,H p=none→zf7 trs σ (upd H p (.dK [])) fun ps H2=>H2 p=some (.dK [])∧∃kvs:List (Key ×V),ps=kvs.map (fun kv=>(kV kv.1,kv.2))∧kvs.length≤15∧Q (.ref p) (upd H2 p (.dK (zle [] kvs)))
structure M1 (X:Cx)(o:Expr)(m:Str)(apos:Pos)(e:Expr)(cpos:Pos):Prop where
 base:attributeBase o m X.env (eval o X.env)=eval o X.env
 few:((backTo cpos (starEach [e] X.env)).all (fun x=>!x.1) && (backToKw cpos (keywordEach [] X.env)).all (fun x=>x.1.isSome)
  && decide (([e]:List Expr).length+([]:List Keyword).length+(if ([]:List Keyword).isEmpty then 0 else 1) < 30))=true
 line:(apos.endLine==cpos.line)=true
 trees:backTo cpos (starEach [e] X.env)=[(false,eval e X.env)]
structure M2 (X:Cx)(o:Expr)(m:Str)(apos:Pos)(e f:Expr)(cpos:Pos):Prop where
 base:attributeBase o m X.env (eval o X.env)=eval o X.env
 few:((backTo cpos (starEach [e,f] X.env)).all (fun x=>!x.1) && (backToKw cpos (keywordEach [] X.env)).all (fun x=>x.1.isSome)
  && decide (([e,f]:List Expr).length+([]:List Keyword).length+(if ([]:List Keyword).isEmpty then 0 else 1) < 30))=true
 line:(apos.endLine==cpos.line)=true
 trees:backTo cpos (starEach [e,f] X.env)=[(false,eval e X.env),(false,eval f X.env)]
def IsD (H:Hp)(a:Addr):Prop:=(∃kvs,Rd H a (.dK kvs))∨∃kvs,Rd H a (.dT kvs)
section
variable {X:Cx}{pins:List (Addr ×Obj)}{σ:St}{H:Hp}{s:Shared}{a:Addr}{y d:V}{u r:Value}{o:Option V}{A:Around}{E:Value→Shared→Prop}
end
def zmZ (td ty:TE):TE:=fun σ H Q=>td σ H fun x H1=>∃a,x=.ref a∧IsD H1 a∧ty σ H1 fun y H2=>∃o,DGet H2 a y o∧Q (o.getD .non) H2
def zmU (td ty tx:TE):TE:=fun σ H Q=>td σ H fun x H1=>∃a,x=.ref a∧IsD H1 a∧ty σ H1 fun y H2=>tx σ H2 fun z H3=>∃o,DGet H3 a y o∧Q (o.getD z) H3
def zm1 (td ty:TE):TE:=fun σ H Q=>td σ H fun x H1=>∃a,x=.ref a∧IsD H1 a∧ty σ H1 fun y H2=>∃kvs k v,H2 a=some (.dK kvs)∧y=kV k∧valV kvs k=some v∧Q v (upd H2 a (.dK (zfl kvs k)))
def zmQ (td ty tx:TE):TE:=fun σ H Q=>td σ H fun x H1=>∃a,x=.ref a∧IsD H1 a∧ty σ H1 fun y H2=>tx σ H2 fun z H3=>∃kvs k,H3 a=some (.dK kvs)∧y=kV k∧
 (∀v,valV kvs k=some v→Q v (upd H3 a (.dK (zfl kvs k))))∧(valV kvs k=none→Q z H3)
section
variable {X:Cx}{o e f:Expr}{apos cpos:Pos}{td ty tx:TE}
end
section
variable {X:Cx}{pins:List (Addr ×Obj)}{σ:St}{H:Hp}{s:Shared}{a:Addr}{kvs:List (Key ×V)}{A:Around}{E:Value→Shared→Prop}
end
section
variable {X:Cx}{pins:List (Addr ×Obj)}{σ:St}{H:Hp}{s:Shared}{a:Addr}{y:V}{u:Value}{A:Around}{E:Value→Shared→Prop}
end
end L2
namespace Px
open PySem
def Tb (h:Heap)(e:Addr)(cls:Value)(od:Option Addr)(T:Addr)(fl:Value):Prop:=
 ∃oe vs oT ts,h.get? e=some oe∧oe.cls=cls∧oe.dict=od∧oe.data=.fields vs∧vs[1]? =some (.ref T)∧T≠e∧h.get? T=some oT∧oT.data=.fields ts∧ts[3]? =some fl
structure Chg (fs:List Addr)(e T:Addr)(h h':Heap):Prop where
 size:h.objs.size≤h'.objs.size
 keep:∀b o,h.get? b=some o→b∉fs→b≠e→b≠T→h'.get? b=some o
 slot:∀b o,h.get? b=some o→b∈fs→b≠e→b≠T→∃sl,h'.get? b=some {o with slots:=sl}
theorem zl0 (o:Obj)(f:Array Value→Array Value):(Obj.mapFields f o).cls=o.cls:=Obj.cls_mapFields _ _
theorem zkv (o:Obj)(f:Array Value→Array Value):(Obj.mapFields f o).dict=o.dict:=by
 obtain ⟨c,d,dt,sl⟩:=o
 cases dt <;> rfl
section
variable {M:Model}{A:Around}{E:Value→Shared→Prop}{s:Shared}{base:Heap}{env:Env}{outer:List Env}{L e T:Addr}
theorem entry {oe:Obj}{vs:Array Value}{head:Value}{hadNext:Bool}{Q:Unit→Shared→Prop}(hfr:A.frames=some (env::outer))
  (hl:s.heap.FunFrames base (env::outer)) (hf:env.frame=some L)
  (he:s.heap.get? e=some oe) (hd:oe.data=.fields vs) (hsz:1 < vs.size)
  (h:∀h' T',s.heap.objs.size≤T'→Tb h' e oe.cls oe.dict T' (rawInt L)→Chg ((env::outer).filterMap (·.frame)) e T' s.heap h'→Q () {s with heap:=h'}):
  wpAny M A (do
   let a←frameOf env
   let pl←entryPlaceOf L hadNext
   let b←EntryCells.newEntry head a .none (rawInt L) .none pl
   setField (.ref e) 1 b) Q E s:=by
 have nfr:e∉(env::outer).filterMap (·.frame):=fun hm=>by
  obtain ⟨_,o,ho,hnf⟩:=hl.mem hm
  have z:oe=o:=Option.some.inj (he.symm.trans ho)
  exact hnf vs (by rw [←z];exact hd)
 refine wpAny_bind (wpAny_frameOf_fun hfr hl hf fun g x=>?_)
 refine wpAny_bind (wpAny_entryPlaceOf fun pl hp=>?_)
 unfold EntryCells.newEntry newFields
 refine wpAny_bind (wpAny_newObj_type ?_ (hp.sizeOk5 _ _ _ _ _))
 have ge:g.get? e=some oe:=(x.2.1 e nfr).trans he
 generalize hN:({cls:=.type "traceback",dict:=none,data:=.fields ([head,.ref L,.none,rawInt L,.none]++(if pl.isEmpty then List.replicate 6 Value.none else pl)).toArray}:Obj)=N
 have nfN:N.isFreed=false:=by rw [←hN];rfl
 have dN:∃ts,N.data=.fields ts∧ts[3]? =some (rawInt L):=by
  rw [←hN]
  exact ⟨_,rfl,by first | (simp;done) | (rcases hp with rfl | ⟨_,_,_,_,_,_,_,rfl⟩ <;> simp)⟩
 have pe:(g.push N).get? e=some oe:=Heap.get?_push_of_some N ge
 have pT:(g.push N).get? g.objs.size=some N:=Heap.get?_push_size g nfN
 have Te:g.objs.size≠e:=Ne.symm (Nat.ne_of_lt (Heap.lt_size ge))
 refine wpAny_setField pe hd hsz (h _ g.objs.size (by rw [x.1];exact Nat.le_refl _) ?_ ?_)
 ·obtain ⟨ts,d1,d2⟩:=dN
  have dd:=Obj.data_mapFields hd (·.setIfInBounds 1 (Value.ref g.objs.size))
  refine ⟨_,_,N,ts,Heap.get?_update_self _ pe (Obj.isFreed_of_fields dd),zl0 _ _,zkv _ _,dd,by simp [hsz],Te,?_,d1,d2⟩
  exact (Heap.get?_update_other _ _ (Ne.symm Te)).trans pT
 ·refine ⟨?_,fun b o q1 q2 q3 q4=>?_,fun b o q1 q2 q3 q4=>?_⟩
  ·rw [Heap.size_after_update,Heap.size_push,x.1];exact Nat.le_succ _
  ·exact (Heap.get?_update_other _ _ (Ne.symm q3)).trans (Heap.get?_push_of_some N ((x.2.1 b q2).trans q1))
  ·obtain ⟨sl,q⟩:=x.2.2 b o q1
   exact ⟨sl,(Heap.get?_update_other _ _ (Ne.symm q3)).trans (Heap.get?_push_of_some N q)⟩
theorem zmi {oe:Obj}{vs:Array Value}{Q:Unit→Shared→Prop}(hfr:A.frames=some (env::outer))(hl:s.heap.FunFrames base (env::outer))(hf:env.frame=some L)
  (he:s.heap.get? e=some oe) (hd:oe.data=.fields vs) (h1:vs[1]? =some .none)
  (h:∀h' T',s.heap.objs.size≤T'→Tb h' e oe.cls oe.dict T' (rawInt L)→Chg ((env::outer).filterMap (·.frame)) e T' s.heap h'→Q () {s with heap:=h'}):
  wpAny M A (noteFrame (.ref e) env) Q E s:=by
 unfold noteFrame
 simp only [hf]
 refine wpAny_bind (wpAny_field he hd h1 ?_)
 rw [if_neg (by decide)]
 exact entry hfr hl hf he hd (Array.getElem?_eq_some_iff.mp h1).1 h
theorem zkP {cls:Value}{od:Option Addr}{Q:Unit→Shared→Prop}(hfr:A.frames=some (env::outer))(hl:s.heap.FunFrames base (env::outer))(hf:env.frame=some L)
  (t:Tb s.heap e cls od T .none)
  (h:∀h' T',s.heap.objs.size≤T'→Tb h' e cls od T' (rawInt L)→Chg ((env::outer).filterMap (·.frame)) e T s.heap h'→Q () {s with heap:=h'}):
  wpAny M A (noteFrame (.ref e) env) Q E s:=by
 obtain ⟨oe,vs,oT,ts,he,hc,ho,hd,h1,hTe,hT,hdT,h3⟩:=t
 unfold noteFrame
 simp only [hf]
 refine wpAny_bind (wpAny_field he hd h1 ?_)
 rw [if_pos (show (Value.ref T !=Value.none)=true from by simp)]
 refine wpAny_bind (wpAny_field hT hdT h3 ?_)
 rw [if_neg (show¬((Value.none==rawInt L)=true) from by simp [rawInt])]
 refine wpAny_bind (wpAny_setField hT hdT (Array.getElem?_eq_some_iff.mp h3).1 ?_)
 have oth:∀b,b≠T→(s.heap.update T (Obj.mapFields (·.setIfInBounds 3 Value.none))).get? b=s.heap.get? b:=fun b hb=>Heap.get?_update_other _ _ (Ne.symm hb)
 have apart:∀b o,s.heap.get? b=some o→(∀vs,o.data≠ .fields vs)→b≠T:=fun b o hb hn q=>by
  subst q
  exact hn ts (by rw [←Option.some.inj (hT.symm.trans hb)];exact hdT)
 refine entry (s:={s with heap:=s.heap.update T (Obj.mapFields (·.setIfInBounds 3 Value.none))}) hfr
  (hl.of_keeps fun b o hb hn=>⟨o,(oth b (apart b o hb hn)).trans hb,rfl⟩) hf ((oth e (Ne.symm hTe)).trans he) hd (Array.getElem?_eq_some_iff.mp h1).1 fun h' T' z1 z2 z3=>?_
 have z1':s.heap.objs.size≤T':=by rw [←Heap.size_after_update s.heap T (Obj.mapFields (·.setIfInBounds 3 Value.none))];exact z1
 rw [hc,ho] at z2
 refine h h' T' z1' z2 ⟨?_,fun b o q1 q2 q3 q4=>?_,fun b o q1 q2 q3 q4=>?_⟩
 ·rw [←Heap.size_after_update s.heap T (Obj.mapFields (·.setIfInBounds 3 Value.none))];exact z3.size
 ·exact z3.keep b o ((oth b q4).trans q1) q2 q3 fun q=>absurd (Heap.lt_size q1) (Nat.not_lt.mpr (q ▸ z1'))
 ·exact z3.slot b o ((oth b q4).trans q1) q2 q3 fun q=>absurd (Heap.lt_size q1) (Nat.not_lt.mpr (q ▸ z1'))
theorem zeP {fs:List Addr}{cls fl:Value}{od:Option Addr}{Q:Unit→Shared→Prop}(t:Tb s.heap e cls od T fl)
  (h:∀h',Tb h' e cls od T .none→Chg fs e T s.heap h'→(∀b o,s.heap.get? b=some o→b≠T→h'.get? b=some o)→Q () {s with heap:=h'}):wpAny M A (setFlight (.ref e) none) Q E s:=by
 obtain ⟨oe,vs,oT,ts,he,hc,ho,hd,h1,hTe,hT,hdT,h3⟩:=t
 have z3:3 < ts.size:=(Array.getElem?_eq_some_iff.mp h3).1
 have oth:∀b,b≠T→(s.heap.update T (Obj.mapFields (·.setIfInBounds 3 ((none:Option Addr).elim Value.none fun f=>rawInt f)))).get? b=s.heap.get? b:=
  fun b hb=>Heap.get?_update_other _ _ (Ne.symm hb)
 unfold setFlight
 refine wpAny_bind (wpAny_field he hd h1 ?_)
 rw [if_pos (show (Value.ref T !=Value.none)=true from by simp)]
 have dd:=Obj.data_mapFields hdT (·.setIfInBounds 3 ((none:Option Addr).elim Value.none fun f=>rawInt f))
 refine wpAny_setField hT hdT z3 (h _ ⟨oe,vs,_,_,(oth e (Ne.symm hTe)).trans he,hc,ho,hd,h1,hTe,Heap.get?_update_self _ hT (Obj.isFreed_of_fields dd),dd,by simp [z3]⟩ ?_ ?_)
 ·refine ⟨?_,fun b o q1 _ _ q4=>(oth b q4).trans q1,fun b o q1 _ _ q4=>⟨o.slots,(oth b q4).trans q1⟩⟩
  rw [Heap.size_after_update];exact Nat.le_refl _
 ·exact fun b o q1 q4=>(oth b q4).trans q1
end
structure Chg2 (fs:List Addr)(own:Addr→Prop)(h h':Heap):Prop where
 size:h.objs.size≤h'.objs.size
 keep:∀b o,h.get? b=some o→b∉fs→¬own b→h'.get? b=some o
 slot:∀b o,h.get? b=some o→b∈fs→¬own b→∃sl,h'.get? b=some {o with slots:=sl}
theorem Chg.two {fs:List Addr}{own:Addr→Prop}{e T:Addr}{h h':Heap}(c:Chg fs e T h h')(o1:own e)(o2:own T∨h.get? T=none):Chg2 fs own h h':=by
 have nT:∀b o,h.get? b=some o→¬own b→b≠T:=fun b o q n z=>by
  subst z
  rcases o2 with y | y
  ·exact n y
  ·rw [y] at q;cases q
 exact ⟨c.size,fun b o q a n=>c.keep b o q a (fun z=>n (z ▸ o1)) (nT b o q n),fun b o q a n=>c.slot b o q a (fun z=>n (z ▸ o1)) (nT b o q n)⟩
theorem Chg2.trans {fs:List Addr}{own:Addr→Prop}{h h1 h2:Heap}(a:Chg2 fs own h h1)(b:Chg2 fs own h1 h2):Chg2 fs own h h2:=
 ⟨Nat.le_trans a.size b.size,fun c o q n m=>b.keep c o (a.keep c o q n m) n m,fun c o q n m=>by
  obtain ⟨s1,e1⟩:=a.slot c o q n m
  obtain ⟨s2,e2⟩:=b.slot c _ e1 n m
  exact ⟨s2,e2⟩⟩
section
variable {M:Model}{A:Around}{E:Value→Shared→Prop}{s:Shared}{base:Heap}{env:Env}{outer:List Env}{L e T:Addr}
theorem zly {oe:Obj}{vs:Array Value}{Q:Unit→Shared→Prop}(hfr:A.frames=some (env::outer))(hl:s.heap.FunFrames base (env::outer))(hf:env.frame=some L)
  (he:s.heap.get? e=some oe) (hd:oe.data=.fields vs) (h1:vs[1]? =some .none)
  (h:∀h' T',s.heap.objs.size≤T'→Tb h' e oe.cls oe.dict T' .none→Chg2 ((env::outer).filterMap (·.frame)) (· =e) s.heap h'→Q () {s with heap:=h'}):
  wpAny M A (leaving env (.ref e)) Q E s:=by
 unfold leaving
 refine wpAny_bind (zmi hfr hl hf he hd h1 fun g T' z t c=>?_)
 refine zeP (s:={s with heap:=g}) (fs:=(env::outer).filterMap (·.frame)) t fun h' t' c' k=>h h' T' z t' ?_
 have n:s.heap.get? T'=none:=Heap.get?_none_of_le z
 refine ⟨Nat.le_trans c.size c'.size,fun b o q a m=>?_,fun b o q a m=>?_⟩
 ·have bT:b≠T':=fun y=>by subst y;rw [n] at q;cases q
  exact k b o (c.keep b o q a m bT) bT
 ·have bT:b≠T':=fun y=>by subst y;rw [n] at q;cases q
  obtain ⟨sl,y⟩:=c.slot b o q a m bT
  exact ⟨sl,k b _ y bT⟩
theorem zlz {cls:Value}{od:Option Addr}{Q:Unit→Shared→Prop}(hfr:A.frames=some (env::outer))(hl:s.heap.FunFrames base (env::outer))(hf:env.frame=some L)
  (t:Tb s.heap e cls od T .none)
  (h:∀h' T',s.heap.objs.size≤T'→Tb h' e cls od T' .none→Chg2 ((env::outer).filterMap (·.frame)) (fun b=>b=e∨b=T) s.heap h'→Q () {s with heap:=h'}):
  wpAny M A (leaving env (.ref e)) Q E s:=by
 unfold leaving
 refine wpAny_bind (zkP hfr hl hf t fun g T' z t1 c=>?_)
 refine zeP (s:={s with heap:=g}) (fs:=(env::outer).filterMap (·.frame)) t1 fun h' t' c' k=>h h' T' z t' ?_
 have n:s.heap.get? T'=none:=Heap.get?_none_of_le z
 refine ⟨Nat.le_trans c.size c'.size,fun b o q a m=>?_,fun b o q a m=>?_⟩
 ·have bT:b≠T':=fun y=>by subst y;rw [n] at q;cases q
  exact k b o (c.keep b o q a (fun y=>m (.inl y)) fun y=>m (.inr y)) bT
 ·have bT:b≠T':=fun y=>by subst y;rw [n] at q;cases q
  obtain ⟨sl,y⟩:=c.slot b o q a (fun y=>m (.inl y)) fun y=>m (.inr y)
  exact ⟨sl,k b _ y bT⟩
theorem zmz {cls:Value}{od:Option Addr}{Q:Unit→Shared→Prop}(hfr:A.frames=some (env::outer))(hl:s.heap.FunFrames base (env::outer))(hf:env.frame=some L)
  (t:Tb s.heap e cls od T .none)
  (h:∀h' T',s.heap.objs.size≤T'→Tb h' e cls od T' .none→Chg2 ((env::outer).filterMap (·.frame)) (fun b=>b=e∨b=T) s.heap h'→Q () {s with heap:=h'}):
  wpAny M A (noteFrame (.ref e) env) (fun _ s'=>wpAny M A (setFlight (.ref e) none) Q E s') E s:=by
 refine zkP hfr hl hf t fun g T' z t1 c=>?_
 refine zeP (s:={s with heap:=g}) (fs:=(env::outer).filterMap (·.frame)) t1 fun h' t' c' k=>h h' T' z t' ?_
 have n:s.heap.get? T'=none:=Heap.get?_none_of_le z
 refine ⟨Nat.le_trans c.size c'.size,fun b o q a m=>?_,fun b o q a m=>?_⟩
 ·have bT:b≠T':=fun y=>by subst y;rw [n] at q;cases q
  exact k b o (c.keep b o q a (fun y=>m (.inl y)) fun y=>m (.inr y)) bT
 ·have bT:b≠T':=fun y=>by subst y;rw [n] at q;cases q
  obtain ⟨sl,y⟩:=c.slot b o q a (fun y=>m (.inl y)) fun y=>m (.inr y)
  exact ⟨sl,k b _ y bT⟩
end
end Px
namespace Px
open PySem PySem.W PySem.Builtin PySem.Builtin.ObjectAttr
abbrev bmV:List Value:=[.type "ValueError",.type "Exception",.type "BaseException",.type "object"]
def xIn (K:Frag)(C:Addr):Bool:=match K.lookup C with
 | some ⟨.type "type",_,.cls cd,sl⟩=>(match cd.mro,sl.toList with
  | .ref D::bm,[_,_,_,_,some (.builtin n),_]=>D==C && n== "ValueError.__new__" && !cd.hasDel && tailIn K bmV bm
  | _,_=>false)
 | _=>false
theorem zjb {K:Frag}{h:Heap}{C:Addr}(X:K.In h)(q:xIn K C=true):∃nm qn N bs bm hd sn sub ab col dd k0 k1 k2 k3 k5,
  h.get? C=some (excClassObj nm qn C N bs bm hd sn sub ab col dd k0 k1 k2 k3 k5 "ValueError.__new__")∧OwnTail h bmV bm:=by
 unfold xIn at q
 split at q
 ·rename_i dd cd sl ho
  split at q
  ·rename_i D bm k0 k1 k2 k3 n k5 hm hs
   simp only [Bool.and_eq_true,beq_iff_eq,Bool.not_eq_true'] at q
   obtain ⟨⟨⟨y1,y2⟩,y3⟩,y4⟩:=q
   subst y1;subst y2
   obtain ⟨nm,bs,mro,ns,qn,hd,sn,sub,ab,col,del⟩:=cd
   dsimp only at hm y3
   subst hm;subst y3
   have e:sl= #[k0,k1,k2,k3,some (.builtin "ValueError.__new__"),k5]:=by
    obtain ⟨l⟩:=sl
    exact congrArg Array.mk hs
   subst e
   exact ⟨nm,qn,ns,bs,bm,hd,sn,sub,ab,col,dd,k0,k1,k2,k3,k5,X _ _ ho,tail_of_in X y4⟩
  ·cases q
 ·cases q
abbrev zf1 (C t:Addr):Obj:={cls:=.ref C,data:=.fields #[.ref t,.none,.none,.none,.bool false,.none]}
abbrev zlw (vs:List Value):Obj:={cls:=.type "tuple",data:=.seq vs.toArray}
abbrev zaX (h:Heap)(C:Addr)(vs:List Value):Heap:=(h.push (zlw vs)).push (zf1 C h.objs.size)
theorem zbJ {h:Heap}{C:Addr}{vs:List Value}{b:Addr}{o:Obj}(e:h.get? b=some o):(zaX h C vs).get? b=some o:=
 Heap.get?_push_of_some _ (Heap.get?_push_of_some _ e)
theorem zdH {h:Heap}{C:Addr}{vs:List Value}:(zaX h C vs).get? (h.objs.size+1)=some (zf1 C h.objs.size):=
 Heap.get?_push_at (by rw [Heap.size_push]) rfl
section
variable {prog:Program}{w:World}{A:Around}{E:Value→Shared→Prop}{h:Heap}{g:Array GenState}{d:Drawn}{t:Nat}{os:OsState}{K:Frag}{C fI:Addr}{vs:List Value}
theorem zh3 {Q:Fin→Shared→Prop}(X:K.In h)(q:xIn K C=true)(hi:findIn K (.ref C) "__init__" =some (some (.ref fI))) (hf:typeIn K (.ref fI)=some (.type "function"))
  (hq:wpAny (model prog w) A (call (.ref fI) (.ref (h.objs.size+1)::vs)) (fun r s'=>r=.none∧Q (.done (.ret (.ref (h.objs.size+1)))) s') E ⟨zaX h C vs,g,d,t,os⟩) (hz:vs.length≤sizeLine):
  wpAny (model prog w) A (Builtin.«type.__call__» ⟨.ref C::vs,[]⟩) Q E ⟨h,g,d,t,os⟩:=by
 obtain ⟨nm,qn,N,bs,bm,hd,sn,sub,ab,col,dd,k0,k1,k2,k3,k5,cO,tl⟩:=zjb X q
 have FV:=PySem.F.excBase_ValueError
 have inV:bmV.contains (.type "ValueError")=true:=by decide
 repeat (first | with_reducible refine wpAny_loadPart_at cO ?_ | with_reducible refine wpAny_madeBy_exc cO ?_ | wp_step)
 refine codeAny_call_builtin_code (Code.quiet_builtin _ FV.quiet) (wpAny_check_new_subU FV inV tl cO ?_)
 refine codeAny_exc_new_subU FV inV FV tl cO ?_ hz
 show wpAny _ _ _ _ _ _
 have cO1:(zaX h C vs).get? C=_:=zbJ cO
 have X1:K.In (zaX h C vs):=X.keeps fun b o e=>zbJ e
 have at1:(zaX h C vs).get? (h.objs.size+1)=some (zf1 C h.objs.size):=zdH
 have cC:(Value.ref C::bm).contains (.ref C)=true:=by simp
 unfold isInstance
 repeat (first | with_reducible refine wpAny_loadPart_at at1 ?_ | (with_reducible refine wpAny_isSubtype_exc cO1 ?_;rw [cC]) | wp_step)
 show wpAny _ _ (typeLookup (.ref C) _) _ _ _
 refine (looks_findIn X1 hi).here (s:=⟨zaX h C vs,g,d,t,os⟩) ?_
 refine wpAny_holding (wpAny_bind ((bind_fn X1 _ hf).here (s:=⟨zaX h C vs,g,d,t,os⟩) ?_))
 refine wpAny_bind (wpAny_mono hq (fun r s' hr=>?_) fun _ _ x=>x)
 obtain ⟨e1,hQ⟩:=hr
 subst e1
 wp_walk
 exact hQ
theorem zhB {Q:Value→Shared→Prop}(X:K.In h)(q:xIn K C=true)(hi:findIn K (.ref C) "__init__" =some (some (.ref fI))) (hf:typeIn K (.ref fI)=some (.type "function"))
  (hq:wpAny (model prog w) (A.under (.builtin "type.__call__" ⟨.ref C::vs,[]⟩)) (call (.ref fI) (.ref (h.objs.size+1)::vs)) (fun r s'=>r=.none∧Q (.ref (h.objs.size+1)) s') E ⟨zaX h C vs,g,d,t,os⟩)
  (hz:vs.length≤sizeLine):wpAny (model prog w) A (call (.ref C) vs) Q E ⟨h,g,d,t,os⟩:=by
 obtain ⟨nm,qn,N,bs,bm,hd,sn,sub,ab,col,dd,k0,k1,k2,k3,k5,cO,tl⟩:=zjb X q
 have l1:=tc_lookup
 have l2:=tc_bind (.ref C)
 have isT:(⟨h,g,d,t,os⟩:Shared).TypeIs (.ref C) "type" :=⟨_,cO,rfl⟩
 refine wpAny_call (codeAny_of_tree ?_)
 show wpAny _ _ (callAny (.ref C) _) _ _ _
 repeat (any_goals (first | assumption | with_reducible refine wpAny_loadPart_at cO ?_ | wp_step))
 refine ⟨rfl,?_⟩
 refine codeAny_call_builtin_at (Code.quiet_builtin _ (by decide+kernel)) entry_typeCall (wpAny_check_type_call_sub cO (zh3 X q hi hf ?_ hz))
 exact hq
end
section
variable {prog:Program}{w:World}{A:Around}{E:Value→Shared→Prop}{s:Shared}{env:Env}{K:Frag}
theorem zgr {x:Sem Value}{Q:Flow→Shared→Prop}(hh:A.handled=none)
  (h:wpAny (model prog w) A x (fun v s₁=>∃e C t oe,v=.ref e∧K.In s₁.heap∧xIn K C=true∧s₁.heap.get? e=some oe∧oe.cls=.ref C∧oe.data=.fields #[.ref t,.none,.none,.none,.bool false,.none]∧E (.ref e) s₁) E s):
  wpAny (model prog w) A (raiseStmt env (some x) none) Q E s:=by
 unfold raiseStmt
 refine wpAny_bind (wpAny_mono h (fun v s₁ h₁=>?_) fun _ _ x=>x)
 obtain ⟨e,C,t,oe,rfl,X,q,he,hc,hd,hE⟩:=h₁
 obtain ⟨nm,qn,N,bs,bm,hdc,sn,sub,ab,col,dd,k0,k1,k2,k3,k5,cO,tl⟩:=zjb X q
 have cB:(Value.ref C::bm).contains (.type "BaseException")=true:=by rw [List.contains_cons,tl.hasType (show bmV.contains (.type "BaseException")=true from by decide),Bool.or_true]
 obtain ⟨hp,g,d,tk,os⟩:=s₁
 obtain ⟨c0,d0,dt,sl⟩:=oe
 dsimp only at hc hd
 subst hc;subst hd
 repeat (first | with_reducible refine wpAny_loadPart_at he ?_ | with_reducible refine wpAny_loadPart_at cO ?_ | (with_reducible refine wpAny_isSubtype_exc cO ?_;rw [cB]) | wp_step)
 exact wpAny_raiseNew_none hh hE
end
def zbH:List Value→Bool
 | []=>false
 | v::r=>(v::r)==bmV || (match v with | .ref _=>zbH r | _=>false)
theorem zbn {P:List Value→Prop}(base:P bmV)(own:∀c r,P r→P (.ref c::r)):∀{l:List Value},zbH l=true→P l
 | [],e=>by cases e
 | v::r,e=>by
  unfold zbH at e
  rcases Bool.or_eq_true_iff.mp e with q | q
  ·rw [beq_iff_eq.mp q];exact base
  ·cases v <;> first | exact own _ _ (zbn base own q) | cases q
def zcD (K:Frag)(C:Addr):Bool:=(clsIn K C).any fun cd=>zbH cd.mro && cd.hasDict
theorem zgf (self:Value){l:List Value}(e:zbH l=true):refuseLoop self "__setattr__" l=pure ():=
 zbn (P:=fun l=>refuseLoop self "__setattr__" l=pure ()) (PySem.F.store_ValueError.passes self) (fun c r q=>by rw [refuseLoop_ref];exact q) e
theorem zkz {v:Value}(hv:bmV.contains v=true){l:List Value}(e:zbH l=true):l.contains v=true:=
 zbn (P:=fun l=>l.contains v=true) hv (fun c r q=>by rw [List.contains_cons,q,Bool.or_true]) e
theorem zlc {l:List Value}(e:zbH l=true):l.isEmpty=false:=by
 cases l with
 | nil=>cases e
 | cons _ _=>rfl
section
variable {prog:Program}{w:World}{A:Around}{E:Value→Shared→Prop}{s:Shared}{K:Frag}{x C:Addr}{ox:Obj}{name:Str}{v:Value}
theorem zgw {M:Model}{od:Option Obj}{T:String}(X:K.In s.heap)(I:InstAt s.heap x ox C od)(hp:zcD K C=true)(hT:bmV.contains (.type T)=true):Looks M s.heap (isInstance (.ref x) (.type T)) true:=by
 obtain ⟨cd,hc,ho⟩:=any_some hp
 obtain ⟨o1,o2⟩:=Bool.and_eq_true_iff.mp ho
 refine I.type.andThen (looks_mroIn X ?_)
 unfold mroIn
 rw [hc,Option.bind_some,if_neg (by rw [zlc o1];decide),zkz hT o1]
theorem ziv {R:Result→Shared→Prop}{od:Option Obj}{tk:Tok}(X:K.In s.heap)(I:InstAt s.heap x ox C od)(hp:zcD K C=true)(ht:findIn K (.ref C) name=some none)
  (h:∀b,wpAny (model prog w) A.in1 (storeInOwnDict (.ref x) (.ref C) (.str name tk) name v b)
   (fun fin s'=>match fin with
    | .done f=>R (.ok f) s'
    | .again c'=>c'.quiet=true∧codeAny (model prog w) A c' R s') (fun e s'=>R (.error e) s') s):
  codeAny (model prog w) A (.call (.builtin "object.__setattr__") ⟨[.ref x,.str name tk,v],[]⟩) R s:=by
 have FS:=PySem.F.store_ValueError
 have isO:=zgw (M:=model prog w) (T:= "object") X I hp (by decide)
 obtain ⟨cd,hc,ho⟩:=any_some hp
 obtain ⟨o1,o2⟩:=Bool.and_eq_true_iff.mp ho
 refine codeAny_call_builtin FS.slot.plain FS.entry (@check_slot (model prog w) _ _ s "object.__setattr__" "object" "__setattr__" (.ref x) [.str name tk,v] [] _ FS.kind FS.split isO (FS.args (.ref x) (.str name tk) v) ?_)
 have mr:Looks (model prog w) s.heap (mroOf (.ref C)) cd.mro:=(looks_clsIn X hc).andThen .now
 rw [osa_eq,refuse_eq]
 refine wpAny_bind (wpAny_bind (I.type.here (wpAny_bind (mr.here ?_))))
 rw [zgf _ o1]
 have nt:Looks (model prog w) s.heap (storeTaker? none) none:=.now
 refine wpAny_pure (wpAny_bind (I.type.here (wpAny_bind ((looks_findIn X ht).here (wpAny_bind (nt.here ?_))))))
 exact h _
theorem zlM {Q:Unit→Shared→Prop}{vs:Array Value}{sl:Array (Option Value)}(X:K.In s.heap)(hx:s.heap.get? x=some ⟨.ref C,none,.fields vs,sl⟩)(hp:zcD K C=true)
  (hs:findIn K (.ref C) "__setattr__" =some (some (.builtin "object.__setattr__"))) (ht:findIn K (.ref C) name=some none)
  (h:∀h' tk,h'.get? x=some ⟨.ref C,some s.heap.objs.size,.fields vs,sl⟩→h'.Ns1 s.heap.objs.size (fun y=>if y=name then some v else none)→s.heap.objs.size≤h'.objs.size→
   (∀b o,b≠x→s.heap.get? b=some o→h'.get? b=some o)→Q () {s with heap:=h',toks:=tk}):wpAny (model prog w) A (setAttr (.ref x) name v) Q E s:=by
 have I:InstAt s.heap x ⟨.ref C,none,.fields vs,sl⟩ C none:=⟨hx,rfl,rfl,trivial⟩
 obtain ⟨cd,hc,ho⟩:=any_some hp
 obtain ⟨o1,o2⟩:=Bool.and_eq_true_iff.mp ho
 refine set_plain X I hs (ziv (s:={s with toks:=s.toks+1}) X I hp ht fun b=>?_)
 refine wpAny_bind (wpAny_pure (wpAny_bind (wpAny_bind (wpAny_loadPart hx (wpAny_bind (Looks.here (s:={s with toks:=s.toks+1}) (looks_clsIn X hc) ?_))))))
 rw [o2]
 have hx1:(s.heap.push {cls:=.type "dict",data:=.dict #[]}).get? x=some ⟨.ref C,none,.fields vs,sl⟩:=Heap.get?_push_of_some _ hx
 have xs:x≠s.heap.objs.size:=Nat.ne_of_lt (Heap.lt_size hx)
 refine wpAny_bind (wpAny_alloc' ?_)
 refine wpAny_bind (wpAny_update' hx1 ?_)
 refine wpAny_pure ?_
 have gd:((s.heap.push {cls:=.type "dict",data:=.dict #[]}).update x fun o=>{o with dict:=some s.heap.objs.size}).get? s.heap.objs.size=some {cls:=.type "dict",data:=.dict #[]}:=
  (Heap.get?_update_other _ _ xs).trans (Heap.get?_push_size _ rfl)
 have gx:((s.heap.push {cls:=.type "dict",data:=.dict #[]}).update x fun o=>{o with dict:=some s.heap.objs.size}).get? x=some ⟨.ref C,some s.heap.objs.size,.fields vs,sl⟩:=
  Heap.get?_update_self _ hx1 rfl
 have nd:((s.heap.push {cls:=.type "dict",data:=.dict #[]}).update x fun o=>{o with dict:=some s.heap.objs.size}).Ns s.heap.objs.size (fun _=>none):=
  ⟨_, #[],_,gd,rfl,fun e he=>absurd he (by simp),fun _=>rfl⟩
 show wpAny _ _ (storeInDict s.heap.objs.size (.str name _) name v) _ _ _
 unfold storeInDict newKeyGuard
 refine wpAny_bind (wpAny_pure (wpAny_bind (wpAny_nsSet1 (Heap.Ns1.of_empty nd) fun h' n' sb=>?_)))
 obtain ⟨oD,esD,epD,q1,q2,q3⟩:=n'.count (Within.cons name v Within.nil)
 refine wpAny_bind (wpAny_lookBehind q1 (by rw [q2];exact pastItsLine_dict (Nat.le_trans q3 (by rw [List.length_cons,List.length_nil,sizeLine_eq];omega))) ?_)
 refine wpAny_pure (h h' _ ((sb.2 x xs).trans gx) n' ?_ fun b o bx e=>?_)
 ·rw [sb.1,Heap.size_after_update,Heap.size_push];exact Nat.le_succ _
 ·exact (sb.2 b (Nat.ne_of_lt (Heap.lt_size e))).trans ((Heap.get?_update_other _ _ (Ne.symm bx)).trans (Heap.get?_push_of_some _ e))
theorem zk4 {Q:Unit→Shared→Prop}{vs:Array Value}{sl:Array (Option Value)}{dx:Addr}{mA:Str→Option Value}{ns:List Str}(X:K.In s.heap)(hx:s.heap.get? x=some ⟨.ref C,some dx,.fields vs,sl⟩)(hd:s.heap.Ns1 dx mA)(hp:zcD K C=true)
  (hs:findIn K (.ref C) "__setattr__" =some (some (.builtin "object.__setattr__"))) (ht:findIn K (.ref C) name=some none) (hw:Within mA ns) (hz:ns.length≤sizeLine)
  (h:∀h' tk,h'.Ns1 dx (fun y=>if y=name then some v else mA y)→Heap.SameBut dx s.heap h'→Q () {s with heap:=h',toks:=tk}):wpAny (model prog w) A (setAttr (.ref x) name v) Q E s:=by
 obtain ⟨od,es0,ep0,g1,g2⟩:=id hd
 have I:InstAt s.heap x ⟨.ref C,some dx,.fields vs,sl⟩ C (some od):=⟨hx,rfl,rfl,g1⟩
 obtain ⟨cd,hc,ho⟩:=any_some hp
 obtain ⟨o1,o2⟩:=Bool.and_eq_true_iff.mp ho
 refine set_plain X I hs (ziv (s:={s with toks:=s.toks+1}) X I hp ht fun b=>?_)
 refine wpAny_bind (wpAny_pure (wpAny_bind (wpAny_bind (wpAny_loadPart hx (wpAny_bind (Looks.here (s:={s with toks:=s.toks+1}) (looks_clsIn X hc) ?_))))))
 rw [o2]
 refine wpAny_pure (a:=some dx) (wpAny_bind (wpAny_pure (wpAny_bind ?_)))
 refine wpAny_nsSet1 (s:={s with toks:=s.toks+1}) hd fun h' n2 sb=>?_
 obtain ⟨oD,esD,epD,q1,q2,q3⟩:=n2.count (Within.cons name v hw)
 refine wpAny_bind (wpAny_lookBehind q1 (by rw [q2];exact pastItsLine_dict (Nat.le_trans q3 (by rw [List.length_cons];omega))) ?_)
 exact wpAny_pure (h _ _ n2 sb)
theorem zmn {Q:Value→Shared→Prop}{expr:Bool}{od:Obj}(X:K.In s.heap)(I:InstAt s.heap x ox C (some od))(hp:zcD K C=true)
  (hga:findIn K (.ref C) "__getattribute__" =some (some (.builtin "BaseException.__getattribute__"))) (hgn:findIn K (.ref C) "__getattr__" =some none)
  (hf:findObj K C (some od) name=some (.value v)) (hh:handedIn v=true) (h:Q v {s with toks:=s.toks+1}):wpAny (model prog w) A (getAttr (.ref x) name expr) Q E s:=by
 have isB:=zgw (M:=model prog w) (T:= "BaseException") X I hp (by decide)
 obtain ⟨hp',g,d,t,os⟩:=s
 have L0:=I.type (M:=model prog w)
 have L1:=looks_findIn (M:=model prog w) X hga
 have L2:=looks_findIn (M:=model prog w) X hgn
 have L3:=looks_find (M:=model prog w) X I hf
 have FB:=PySem.F.attrBase_ValueError
 have bi:=FB.ga.bind (.ref x)
 have kd:builtinKind "BaseException.__getattribute__" =some .slot:=by decide+kernel
 have sp:splitId "BaseException.__getattribute__" =some ("BaseException","__getattribute__"):=by decide+kernel
 unfold getAttr getAttrBy
 refine wpAny_bind (wpAny_mkText (wpAny_holding (wpAny_bind (L0.at (wpAny_bind (L1.at ?_))))))
 have nb:(onTheHeap (Value.ref C) && Value.builtin "BaseException.__getattribute__" ==Value.builtin "object.__getattribute__")=false:=by
  rw [show (Value.builtin "BaseException.__getattribute__" ==Value.builtin "object.__getattribute__")=false from by decide+kernel,Bool.and_false]
 dsimp only
 rw [nb,if_neg Bool.false_ne_true]
 unfold getAttrByItsOwn
 refine wpAny_bind ?_
 show wpAny _ _ (typeLookup (.ref C) "__getattr__") _ _ _
 refine L2.at ?_
 have ne:(expr && onTheHeap (Value.builtin "BaseException.__getattribute__"))=false:=by cases expr <;> rfl
 unfold callGetattribute
 rw [ne,if_neg Bool.false_ne_true]
 unfold boundAndCalled
 refine wpAny_bind (wpAny_attempt (wpAny_holding ?_))
 rw [bi]
 refine wpAny_bind (wpAny_pure ?_)
 refine wpAny_call (codeAny_call_builtin FB.ga.plain PySem.F.entry_bexc_ga (@check_slot (model prog w) _ _ _ "BaseException.__getattribute__" "BaseException" "__getattribute__" (.ref x) [.str name t] [] _ kd sp isB (PySem.F.args_bexc_ga _ _) ?_))
 unfold Builtin.«object.__getattribute__»
 repeat (any_goals (first | assumption | with_reducible refine wpAny_bind (L0.at ?_) | with_reducible refine wpAny_bind (L3.at ?_) | wp_step))
 show wpAny _ _ (handedOut v) _ _ _
 rw [handedOut_of hh]
 exact wpAny_pure h
end
end Px
namespace L2
open PySem PySem.Spec PyProof.Rows Px
def exO (a C:Addr)(od:Option Addr)(fr:Bool):HO:=.ext fun h=>∃vs sl,h.get? a=some ⟨.ref C,od,.fields vs,sl⟩∧(fr=true→∃t,vs= #[.ref t,.none,.none,.none,.bool false,.none])
def xdO (a:Addr)(fs:List (Str ×V)):HO:=.ext fun h=>∃mA,h.Ns1 a mA∧(∀f,RelO (fs.lookup f) (mA f))∧PySem.Within mA (fs.map (·.1))
def del (H:Hp)(a:Addr):Hp:=fun b=>if b=a then none else H b
theorem zbs {H:Hp}{a:Addr}:del H a a=none:=by unfold del;rw [if_pos rfl]
theorem zbb {H:Hp}{a b:Addr}(h:b≠a):del H a b=H b:=by unfold del;rw [if_neg h]
section
variable {P:Program}{w:World}{H H':Hp}{h h' h2:Heap}{a C:Addr}{o:HO}{fs ex fs':List Addr}{own:Addr→Prop}
theorem zgm {od:Option Addr}{fr:Bool}{vs:Array Value}{sl:Array (Option Value)}(e:h.get? a=some ⟨.ref C,od,.fields vs,sl⟩)(f:fr=true→∃t,vs= #[.ref t,.none,.none,.none,.bool false,.none]):zU P w H h a (exO a C od fr):=
 ⟨⟨vs,sl,e,f⟩,⟨_,e⟩,fun _ _ ⟨vs,sl,e,f⟩ k=>⟨vs,sl,k _ e,f⟩⟩
theorem zbR {od:Option Addr}{fr:Bool}(ok:HOk P w H h)(e:H a=some (exO a C od fr)):∃vs sl,h.get? a=some ⟨.ref C,od,.fields vs,sl⟩∧(fr=true→∃t,vs= #[.ref t,.none,.none,.none,.bool false,.none]):=
 (show zU P w H h a (exO a C od fr) from ok a _ e).1
theorem zjk {l:List (Str ×V)}{mA:Str→Option Value}(n:h.Ns1 a mA)(r:∀f,RelO (l.lookup f) (mA f))(wi:PySem.Within mA (l.map (·.1))):zU P w H h a (xdO a l):=
 ⟨⟨mA,n,r,wi⟩,let ⟨o,_,_,e,_⟩:=n;⟨o,e⟩,fun _ _ ⟨mA,n,r,wi⟩ k=>⟨mA,n.at k,r,wi⟩⟩
theorem zhb {l:List (Str ×V)}(ok:HOk P w H h)(e:H a=some (xdO a l)):∃mA,h.Ns1 a mA∧(∀f,RelO (l.lookup f) (mA f))∧PySem.Within mA (l.map (·.1)):=
 (show zU P w H h a (xdO a l) from ok a _ e).1
theorem HOk.track (x:HOk P w H h)(n:H a=none)(new:zU P w (upd H a o) h a o):HOk P w (upd H a o) h:=fun b u e=>by
 by_cases hb:b=a
 ·subst hb;rw [zh] at e;cases e;exact new
 ·rw [zk hb] at e
  exact (x b u e).stay (fun _ _ _ q=>q) (fun c q=>by rw [zk (zl q n)];exact q) fun c xs q=>by rw [zk (zl q n)];exact q
theorem Un.track (u:Un fs ex H H' h h')(n:H' a=none)(nw:∀ob,h.get? a=some ob→a∈ex∨H a≠none):Un fs ex H (upd H' a o) h h' where
 keep:=u.keep
 slot:=u.slot
 free:=fun b ob q m hx=>by
  rw [zk]
  ·exact u.free b ob q m hx
  ·intro e
   subst e
   rcases nw ob q with z | z
   ·exact hx z
   ·exact z m
 there:=u.there
 tups:=fun b xs q=>by rw [zk (zl (u.tups b xs q) n)];exact u.tups b xs q
 frzs:=fun b ob v q=>by rw [zk (zl (u.frzs b ob v q) n)];exact u.frzs b ob v q
 tbls:=fun b ps q=>by
  obtain ⟨m,e⟩:=u.tbls b ps q
  exact ⟨m,by rw [zk (zl e n)];exact e⟩
theorem HOk.drop {φ:Heap→Prop}(x:HOk P w H h)(e:H a=some (.ext φ)):HOk P w (del H a) h:=fun b u q=>by
 by_cases hb:b=a
 ·rw [hb,zbs] at q;cases q
 ·rw [zbb hb] at q
  exact (x b u q).stay (fun _ _ _ z=>z) (fun c z=>by rw [zbb (za1 z e (by intro y;cases y))];exact z) fun c xs z=>by rw [zbb (za1 z e (by intro y;cases y))];exact z
theorem Un.drop {φ:Heap→Prop}(u:Un fs ex H H' h h')(e:H' a=some (.ext φ)):Un fs ex H (del H' a) h h' where
 keep:=u.keep
 slot:=u.slot
 free:=fun b ob q m hx=>by
  by_cases hb:b=a
  ·rw [hb];exact zbs
  ·rw [zbb hb];exact u.free b ob q m hx
 there:=u.there
 tups:=fun b xs q=>by rw [zbb (za1 (u.tups b xs q) e (by intro y;cases y))];exact u.tups b xs q
 frzs:=fun b ob v q=>by rw [zbb (za1 (u.frzs b ob v q) e (by intro y;cases y))];exact u.frzs b ob v q
 tbls:=fun b ps q=>by
  obtain ⟨m,z⟩:=u.tbls b ps q
  exact ⟨m,by rw [zbb (za1 z e (by intro y;cases y))];exact z⟩
theorem Un.chg (u:Un fs ex H H' h h')(c:Chg2 fs' own h' h2)(hfs:∀b ob,h.get? b=some ob→b∈fs'→b∈fs)
  (nw:∀b,own b→h.get? b=none∨(H b≠none∧∃o',h2.get? b=some o')):Un fs ex H H' h h2:=by
 have no:∀b ob,h.get? b=some ob→H b=none→¬own b:=fun b ob q n z=>by
  rcases nw b z with y | y
  ·rw [y] at q;cases q
  ·exact y.1 n
 refine ⟨fun b ob q n hb hx=>c.keep b ob (u.keep b ob q n hb hx) (fun z=>hb (hfs b ob q z)) (no b ob q n),fun b ob q n hb hx=>?_,u.free,fun b ob q hx=>?_,u.tups,u.frzs,u.tbls⟩
 ·obtain ⟨sl,e⟩:=u.slot b ob q n hb hx
  by_cases z:b∈fs'
  ·obtain ⟨s2,e2⟩:=c.slot b _ e z (no b ob q n)
   exact ⟨s2,e2⟩
  ·exact ⟨sl,c.keep b _ e z (no b ob q n)⟩
 ·obtain ⟨o',e⟩:=u.there b ob q hx
  by_cases y:own b
  ·rcases nw b y with z | z
   ·rw [z] at q;cases q
   ·exact z.2
  ·by_cases z:b∈fs'
   ·obtain ⟨s2,e2⟩:=c.slot b _ e z y
    exact ⟨_,e2⟩
   ·exact ⟨_,c.keep b _ e z y⟩
theorem HOk.chg (x:HOk P w H h)(c:Chg2 fs' own h h2)(n1:∀b,own b→H b=none)(n2:∀b∈fs',H b=none):HOk P w H h2:=fun b u e=>by
 have k:∀c' v,(∃z,H c'=some z)→h.get? c'=some v→h2.get? c'=some v:=fun c' v ⟨z,hz⟩ q=>
  c.keep c' v q (fun m=>by rw [n2 c' m] at hz;cases hz) (fun m=>by rw [n1 c' m] at hz;cases hz)
 refine (x b u e).stay (fun c' v hc q=>k c' v ?_ q) (fun _ q=>q) fun _ _ q=>q
 rcases hc with z | z
 ·rw [z];exact ⟨_,e⟩
 ·exact ⟨_,z⟩
end
section
variable {X:Cx}{pins:List (Addr ×Obj)}{σ:St}{H:Hp}{s:Shared}{h':Heap}
theorem zU.thereN {P:Program}{w:World}{H:Hp}{h:Heap}{a:Addr}{u:HO}(x:zU P w H h a u):∃ob,h.get? a=some ob:=by
 cases u with
 | lst xs=>obtain ⟨_,_,_,_,e⟩:=x;exact ⟨_,e⟩
 | tup xs=>obtain ⟨_,_,_,ob,e,_⟩:=x;exact ⟨_,e⟩
 | dK kvs=>obtain ⟨_,_,_,_,o,_,_,e,_⟩:=x;exact ⟨_,e⟩
 | dT kvs=>obtain ⟨_,_,_,_,o,_,_,e,_⟩:=x;exact ⟨_,e⟩
 | set S n=>obtain ⟨o,_,_,_,e,_⟩:=x;exact ⟨_,e⟩
 | ins C dx fs=>obtain ⟨_,_,_,e,_⟩:=x;exact ⟨_,e⟩
 | own y=>exact x
 | xd fs=>obtain ⟨_,⟨_,_,_,e,_⟩,_⟩:=x;exact ⟨_,e⟩
 | rng lo hi=>obtain ⟨_,_,_,e⟩:=x;exact ⟨_,e⟩
 | frz ob u=>obtain ⟨e,_⟩:=x;exact ⟨_,e⟩
 | tbl ps=>exact ⟨_,(show h.get? a=some _ from x)⟩
 | met f y=>exact ⟨_,(show h.get? a=some _ from x)⟩
 | ext φ=>exact x.2.1
theorem HOk.noneN {P:Program}{w:World}{H:Hp}{h:Heap}{a:Addr}(x:HOk P w H h)(n:h.get? a=none):H a=none:=by
 cases q:H a with
 | none=>rfl
 | some u=>
  obtain ⟨ob,z⟩:=(x a u q).thereN
  rw [n] at z;cases z
theorem Inv.laidN {a:Addr}{o:HO}{t':Nat}(I:Inv X pins σ H s)(k:∀b u,s.heap.get? b=some u→h'.get? b=some u)(hp:s.heap.get? a=none)(new:zU X.prog X.w (upd H a o) h' a o):
  Inv X pins σ (upd H a o) {s with heap:=h',toks:=t'}:=by
 have n:H a=none:=I.hok.noneN hp
 exact I.un ((Un.kept k).track n fun ob q=>by rw [hp] at q;cases q) ((I.hok.kept k).track n new)
end
def CX1 (P:Program)(w:World):CXT:=fun outer H s E e s'=>∃(ea:Addr) (cls:Value) (od:Option Addr) (H':Hp) (T:Addr),e=.ref ea∧s'.os=s.os∧AllBare s'.gens∧Un (frs outer) [] H H' s.heap s'.heap∧HOk P w H' s'.heap∧
 Tb s'.heap ea cls od T .none∧(s.heap.get? ea=none∨H ea≠none)∧s.heap.get? T=none∧H' ea=none∧H' T=none∧E cls od H'
theorem zbt {fs ex:List Addr}{H H':Hp}{h h':Heap}{b:Addr}(u:Un fs ex H H' h h')(hx:b∉ex)(n:h'.get? b=none):h.get? b=none:=by
 cases q:h.get? b with
 | none=>rfl
 | some o=>
  obtain ⟨o',e⟩:=u.there b o q hx
  rw [n] at e;cases e
section
variable {P:Program}{w:World}{K:PySem.W.Frag}{mg:Str→Option Value}{base:Heap}{N:List Str}{qual:Str}{scope:Scope}{f:Addr}{cd:Value}{A:Around}{outer:List Env}{s₀:Shared}{H₀:Hp}{E:XK}
def zfv (X:Cx)(E:XK):Prop:=∀(pins:List (Addr ×Obj)) (σ:St) (H:Hp) (s:Shared) (e C:Addr) (od:Option Addr),Inv X pins σ H s→H e=some (exO e C od true)→E (.ref C) od (del H e)→X.xe (.ref e) s
theorem zju:zfv (cxOf (CX1 P w) P w K mg base N qual scope f cd A outer s₀ H₀ E) E:=by
 intro pins σ H s e C od I he q
 obtain ⟨vs,sl,ge,fr⟩:=zbR I.hok he
 obtain ⟨t,rfl⟩:=fr rfl
 show wpAny (model P w) (A.deeper _) (leaving _ (.ref e)) _ _ s
 refine zly (base:=base) I.ok.frames I.stack rfl ge rfl rfl fun h' T' z tb c=>?_
 have nT:s.heap.get? T'=none:=Heap.get?_none_of_le z
 have old:s₀.heap.get? e=none∨H₀ e≠none:=by
  cases q1:s₀.heap.get? e with
  | none=>exact .inl rfl
  | some ob=>
   refine .inr fun n=>?_
   have:=I.base.free e ob q1 n (by intro z;cases z)
   rw [he] at this;cases this
 have fr2:∀b∈frs (envOfC qual scope s₀.heap.objs.size f cd::outer),H b=none:=I.stkFree
 have te:∃o',h'.get? e=some o':=let ⟨oe,_,_,_,y,_⟩:=tb;⟨oe,y⟩
 refine ⟨e,.ref C,od,del H e,T',rfl,I.os,I.bare,?_,?_,tb,old,zbt I.base (by intro z;cases z) nT,zbs,?_,q⟩
 ·refine (I.base.drop he).chg (fs':=frs (envOfC qual scope s₀.heap.objs.size f cd::outer)) c (fun b ob q1 q2=>?_) fun b y=>?_
  ·have lt:=Heap.lt_size q1
   rcases List.mem_cons.mp (I.stkSub b q2) with y | y
   ·exact absurd lt (by rw [y];exact Nat.not_lt.mpr (Nat.le_refl _))
   ·exact y
  ·subst y
   rcases old with y | y
   ·exact .inl y
   ·exact .inr ⟨y,te⟩
 ·refine (I.hok.drop he).chg c (fun b y=>by rw [y];exact zbs) fun b y=>?_
  by_cases hb:b=e
  ·rw [hb];exact zbs
  ·rw [zbb hb];exact fr2 b y
 ·have:H T'=none:=I.hok.fresh z
  by_cases hb:T'=e
  ·rw [hb];exact zbs
  ·rw [zbb hb];exact this
def zcU (CX:CXT)(X:Cx)(E:St→XK):Prop:=∀(pins:List (Addr ×Obj)) (σ:St) (H:Hp) (s:Shared) (e:Value) (s':Shared),Inv X pins σ H s→CX X.stack H s (E σ) e s'→X.xe e s'
theorem z4:zbA (CX1 P w) (cxOf (CX1 P w) P w K mg base N qual scope f cd A outer s₀ H₀ E) E:=by
 intro pins σ H s e s' I0 hc
 obtain ⟨ea,cls,od,H',T,rfl,os,bare,un,hok,tb,old,nT,u1,u2,q⟩:=hc
 have I:=I0.call' os un hok bare (fun b z=>nomatch z)
 show wpAny (model P w) (A.deeper _) (leaving _ (.ref ea)) _ _ s'
 refine zlz (base:=base) I.ok.frames I.stack rfl tb fun h' T' z tb' c=>?_
 have nT':s'.heap.get? T'=none:=Heap.get?_none_of_le z
 have old':s₀.heap.get? ea=none∨H₀ ea≠none:=by
  cases q1:s₀.heap.get? ea with
  | none=>exact .inl rfl
  | some ob=>
   refine .inr fun n=>?_
   rcases old with y | y
   ·have y':s₀.heap.get? ea=none:=zbt I0.base (by intro z;cases z) y
    rw [y'] at q1;cases q1
   ·exact y (I0.base.free ea ob q1 n (by intro z;cases z))
 have te:∃o',h'.get? ea=some o':=let ⟨oe,_,_,_,y,_⟩:=tb';⟨oe,y⟩
 have n0:s₀.heap.get? T=none:=zbt I0.base (by intro z;cases z) nT
 refine ⟨ea,cls,od,H',T',rfl,I.os,I.bare,?_,?_,tb',old',zbt I.base (by intro z;cases z) nT',u1,hok.fresh z,q⟩
 ·refine I.base.chg (fs':=frs (envOfC qual scope s₀.heap.objs.size f cd::outer)) c (fun b ob q1 q2=>?_) fun b y=>?_
  ·have lt:=Heap.lt_size q1
   rcases List.mem_cons.mp (I.stkSub b q2) with y | y
   ·exact absurd lt (by rw [y];exact Nat.not_lt.mpr (Nat.le_refl _))
   ·exact y
  ·rcases y with y | y
   ·subst y
    rcases old' with y | y
    ·exact .inl y
    ·exact .inr ⟨y,te⟩
   ·subst y;exact .inl n0
 ·refine hok.chg c (fun b y=>?_) I.stkFree
  rcases y with y | y
  ·rw [y];exact u1
  ·rw [y];exact u2
end
end L2
namespace L2
open PySem PySem.Spec PyProof.Rows Px
structure XCls (K:PySem.W.Frag)(C:Addr):Prop where
 q:xIn K C=true
 ov:zcD K C=true
 sa:PySem.W.findIn K (.ref C) "__setattr__" =some (some (.builtin "object.__setattr__"))
 ga:PySem.W.findIn K (.ref C) "__getattribute__" =some (some (.builtin "BaseException.__getattribute__"))
 gn:PySem.W.findIn K (.ref C) "__getattr__" =some none
 kp:PySem.W.keepIn K (.ref C)=true
theorem XCls.hd {K:PySem.W.Frag}{C:Addr}(c:XCls K C):PySem.W.hasDictIn K C=true:=by
 obtain ⟨cd,hc,ho⟩:=PySem.W.any_some c.ov
 unfold PySem.W.hasDictIn
 rw [hc]
 exact (Bool.and_eq_true_iff.mp ho).2
def tExc (C:Addr)(t:TA):TE:=fun σ H Q=>t σ H fun vs H1=>vs.length≤sizeLine∧∀e,H1 e=none→Q (.ref e) (upd H1 e (exO e C none true))
def zkY (C:Addr)(sp:Sp)(t:TA):TE:=fun σ H Q=>t σ H fun vs H1=>vs.length≤sizeLine∧∀x,H1 x=none→sp (.ref x::vs) (upd H1 x (exO x C none true)) (fun v H2=>v=.non∧Q (.ref x) H2) E0
section
variable {X:Cx}{k:Nat}{f C:Addr}{fd:FuncData}{ps:List Str}{sp:Sp}{x:Str}{p pos:Pos}{e:Expr}{es:List Expr}{t:TA}
theorem zjL (c:XCls X.K C)(hi:PySem.W.findIn X.K (.ref C) "__init__" =some (some (.ref f))) (hf:PySem.W.isFn X.K (.ref f)=true) (F:FnOk X.prog X.w X.K X.mg X.base CX0 k f fd ps sp) (hr:Room (k+1) X.A) (hb:Binds X.K fd ps [])
  (hg:Gl X x) (hm:X.mg x=some (.ref C)) (ha:PA X (e::es) t)
  (hdb:(x==("__debug__" :Str))=false:=by decide) (he:starEach (e::es) X.env=(false,eval e X.env)::starEach es X.env:=by rfl) (hpl:(backTo pos (starEach es X.env)).any (·.1)=false:=by rfl):
  PE X (.Call (.Name x p) (e::es) [] pos) (zkY C sp t):=by
 intro pins s σ H Q I h
 refine wpAny_Call_Name_kw (zci I hg hm ?_ hdb)
 refine PySem.W.callWith_K (h₀:=X.base) I.ok.mod.kin c.kp (thn (ha pos pins s σ H _ I h) fun us s1 ⟨vs,H1,I1,r,z,q⟩=>⟨I1.kIn,?_⟩) he hpl
 have I2:Inv X pins σ (upd H1 (s1.heap.objs.size+1) (exO (s1.heap.objs.size+1) C none true)) {s1 with heap:=zaX s1.heap C us}:=
  I1.laidN (t':=s1.toks) (fun _ _ y=>zbJ y) (Heap.get?_none_of_le (Nat.le_succ _)) (zgm zdH fun _=>⟨_,rfl⟩)
 have hq:=q (s1.heap.objs.size+1) (I1.hok.fresh (Nat.le_succ _))
 have r2:Vals (V.ref (s1.heap.objs.size+1)::vs) (Value.ref (s1.heap.objs.size+1)::us):=.cons rfl r
 have hl:((Value.ref (s1.heap.objs.size+1)::us)++ []).length=ps.length:=by
  rw [List.append_nil,←r2.length];exact F.len _ _ _ _ hq
 have hz:us.length≤sizeLine:=by rw [←r.length];exact z
 obtain ⟨h1,g1,d1,t1,o1⟩:=s1
 refine zhB I1.kIn c.q hi (beq_iff_eq.mp hf) ?_ hz
 have hbb:=hb _ (Value.ref (h1.objs.size+1)::us) I2.kIn hl
 rw [List.append_nil] at hbb
 refine wpAny_call (codeAny_mono (F.run _ X.stack _ _ ⟨Value.ref (h1.objs.size+1)::us,[]⟩ (Value.ref (h1.objs.size+1)::us) _ _ E0 (hr.make C us []) (I2.env0.make C us []) hbb r2 hq) fun r s' hq'=>?_)
 cases r with
 | error e=>exact False.elim hq'
 | ok fl=>
  cases fl with
  | ret u=>
   obtain ⟨v,H',I3,rv,ev,q3⟩:=I2.after hq'
   subst ev
   exact ⟨rv,⟨V.ref (h1.objs.size+1),H',I3,rfl,q3⟩⟩
  | next=>exact False.elim hq'
  | brk=>exact False.elim hq'
  | cont=>exact False.elim hq'
end
def zlh (K:PySem.W.Frag)(te:TE)(E:XK):TS:=fun D σ H=>te σ H fun v H1=>∃e C od,v=.ref e∧H1 e=some (exO e C od true)∧xIn K C=true∧E (.ref C) od (del H1 e)
theorem zig {X:Cx}{E:XK}{ex:Expr}{te:TE}{pos:Pos}(hx:zfv X E)(hc:X.calm=true)(he:PE X ex te):PS X (.Raise (some ex) none pos) (zlh X.K te E):=by
 intro pins s σ H D I h
 rw [arm_exec_Raise]
 refine wpAny_bind (wpAny_standAt ?_)
 refine zgr (K:=X.K) (I.ok.hd hc) ?_
 refine wpAny_bind (wpAny_mono (he pins s σ H _ I h) (fun v s1 hv=>wpAny_bind (wpAny_standAt (wpAny_pure ?_))) fun _ _ z=>z)
 obtain ⟨y,H1,I1,ry,ea,C,od,rfl,hea,qC,hE⟩:=hv
 obtain rfl:v=Value.ref ea:=ry
 obtain ⟨vs,sl,ge,fr⟩:=zbR I1.hok hea
 obtain ⟨t,rfl⟩:=fr rfl
 exact ⟨ea,C,t,_,rfl,I1.kIn,qC,ge,rfl,rfl,hx pins σ H1 s1 ea C od I1 hea hE⟩
def sXF1 (K:PySem.W.Frag)(ta tv:TE)(f:Str):TS:=fun D σ H=>tv σ H fun y H1=>ta σ H1 fun x H2=>∃a C fr,x=.ref a∧H2 a=some (exO a C none fr)∧XCls K C∧z8 K C f∧
 ∀d,H2 d=none→d≠a→D.nx σ (upd (upd H2 d (xdO d [(f,y)])) a (exO a C (some d) fr))
def sXF2 (K:PySem.W.Frag)(ta tv:TE)(f:Str):TS:=fun D σ H=>tv σ H fun y H1=>ta σ H1 fun x H2=>∃a C fr d l,x=.ref a∧H2 a=some (exO a C (some d) fr)∧H2 d=some (xdO d l)∧d≠a∧XCls K C∧z8 K C f∧l.length < 1000∧
 D.nx σ (upd H2 d (xdO d (putF f y l)))
def tXG (K:PySem.W.Frag)(ta:TE)(f:Str):TE:=fun σ H Q=>ta σ H fun x H1=>∃a C fr d l v,x=.ref a∧H1 a=some (exO a C (some d) fr)∧H1 d=some (xdO d l)∧XCls K C∧z8 K C f∧l.lookup f=some v∧Q v H1
section
variable {X:Cx}{o e value:Expr}{f:Str}{pos pos':Pos}{ta tv:TE}
theorem zl5 (ha:PE X o ta)(hv:PE X value tv)(hs:swapsWith value (some (.Attribute o f pos')) pos.line X.env=pure false):PS X (.Assign [.Attribute o f pos'] value pos) (sXF1 X.K ta tv f):=by
 intro pins s σ H D I h
 refine plainObj_wpAny_Assign_Attribute (thn (hv pins s σ H _ I h) fun u s1 ⟨y,H1,I1,ry,q⟩=>thn (ha pins s1 σ H1 _ I1 q) fun ov s2 ⟨x,H2,I2,rx,a,C,fr,ex,ea,c,n,q2⟩=>?_) hs
 subst ex
 obtain rfl:ov=Value.ref a:=rx
 obtain ⟨vs,sl,ge,hfr⟩:=zbR I2.hok ea
 refine zlM I2.kIn ge c.ov c.sa n fun h' tk gx nd sz kp=>?_
 have nd0:H2 s2.heap.objs.size=none:=I2.hok.fresh (Nat.le_refl _)
 have da:s2.heap.objs.size≠a:=Ne.symm (Nat.ne_of_lt (Heap.lt_size ge))
 have na:∀b,H2 b=none→b≠a:=fun b z y=>by rw [y,ea] at z;cases z
 refine ⟨σ,_,?_,q2 _ nd0 da⟩
 refine I2.un (h':=h') (t':=tk) ⟨fun b ob g z _ _=>kp b ob (na b z) g,fun b ob g z _ _=>⟨ob.slots,kp b ob (na b z) g⟩,fun b ob g z _=>?_,fun b ob g _=>?_,fun b xs g=>?_,fun b ob v g=>?_,fun b ps g=>?_⟩ fun b w g=>?_
 ·rw [zk (na b z),zk (Nat.ne_of_lt (Heap.lt_size g))];exact z
 ·by_cases y:b=a
  ·rw [y];exact ⟨_,gx⟩
  ·exact ⟨_,kp b ob y g⟩
 ·rw [zk (za1 g ea (by intro y;cases y)),zk (zl g nd0)];exact g
 ·rw [zk (za1 g ea (by intro y;cases y)),zk (zl g nd0)];exact g
 ·exact ⟨#[],by rw [zk (za1 g ea (by intro y;cases y)),zk (zl g nd0),g];simp⟩
 ·by_cases yy:b=a
  ·subst yy
   rw [zh] at g;cases g
   exact zgm gx hfr
  ·rw [zk yy] at g
   by_cases y2:b=s2.heap.objs.size
   ·subst y2
    rw [zh] at g;cases g
    refine zjk nd (fun j=>?_) fun j hj=>?_
    ·show RelO ([(f,y)].lookup j) _
     by_cases e:j=f
     ·have hb:(j==f)=true:=beq_iff_eq.mpr e
      rw [if_pos e]
      simp only [List.lookup,hb]
      assumption
     ·have hb:(j==f)=false:=beq_eq_false_iff_ne.mpr e
      rw [if_neg e]
      simp only [List.lookup,hb]
      exact True.intro
    ·by_cases e:j=f
     ·rw [e];exact List.mem_cons_self
     ·rw [if_neg e] at hj;exact absurd rfl hj
   ·rw [zk y2] at g
    refine (I2.hok b w g).stay (fun c' v hc gg=>kp c' v ?_ gg) (fun c' z=>?_) fun c' xs z=>?_
    ·rcases hc with z | z
     ·rw [z];exact yy
     ·exact za1 z ea (by intro y;cases y)
    ·rw [zk (za1 z ea (by intro y;cases y)),zk (zl z nd0)];exact z
    ·rw [zk (za1 z ea (by intro y;cases y)),zk (zl z nd0)];exact z
theorem zlx (ha:PE X o ta)(hv:PE X value tv)(hs:swapsWith value (some (.Attribute o f pos')) pos.line X.env=pure false):PS X (.Assign [.Attribute o f pos'] value pos) (sXF2 X.K ta tv f):=by
 intro pins s σ H D I h
 refine plainObj_wpAny_Assign_Attribute (thn (hv pins s σ H _ I h) fun u s1 ⟨y,H1,I1,ry,q⟩=>thn (ha pins s1 σ H1 _ I1 q) fun ov s2 ⟨x,H2,I2,rx,a,C,fr,d,l,ex,ea,ed,da,c,n,ll,q2⟩=>?_) hs
 subst ex
 obtain rfl:ov=Value.ref a:=rx
 obtain ⟨vs,sl,ge,hfr⟩:=zbR I2.hok ea
 obtain ⟨mA,ns,rl,wi⟩:=zhb I2.hok ed
 have hz:(l.map (·.1)).length≤sizeLine:=by rw [List.length_map,sizeLine_eq];omega
 refine zk4 I2.kIn ge ns c.ov c.sa n wi hz fun h' tk nd sb=>?_
 have hd:∃o,h'.get? d=some o:=let ⟨o,_,_,e',_⟩:=nd;⟨o,e'⟩
 refine ⟨σ,_,I2.write (x:=d) (e:=d) (t':=tk) (by rw [ed];exact True.intro) (.inl rfl) (fun b w hb z=>(sb.2 b hb).trans z) hd (zjk nd (fun g=>?_) fun g hg=>?_),q2⟩
 ·rw [zb9]
  by_cases z:g=f
  ·rw [if_pos z,if_pos z];exact ry
  ·rw [if_neg z,if_neg z];exact rl g
 ·by_cases z:g=f
  ·rw [z];exact (zbz f y l).1
  ·refine (zbz f y l).2 g (wi g fun w=>hg ?_)
   show (if g=f then some u else mA g)=none
   rw [if_neg z];exact w
theorem zmu (he:PE X e ta)(hb:attributeBase e f X.env (eval e X.env)=eval e X.env):PE X (.Attribute e f pos) (tXG X.K ta f):=by
 intro pins s σ H Q I h
 refine zhc hb (thn (he pins s σ H _ I h) fun u s1 ⟨x,H1,I1,rx,a,C,fr,d,l,v,ex,ea,ed,c,n,lk,q⟩=>?_)
 subst ex
 obtain rfl:u=Value.ref a:=rx
 obtain ⟨vs,sl,ge,hfr⟩:=zbR I1.hok ea
 obtain ⟨mA,ns,rl,wi⟩:=zhb I1.hok ed
 obtain ⟨w,hw,rw'⟩:=RelO.some_of (v:=v) (o:=mA f) (by rw [←lk];exact rl f)
 obtain ⟨ob,hob,hl⟩:=zep ns
 have J:PySem.W.InstAt s1.heap a ⟨.ref C,some d,.fields vs,sl⟩ C (some ob):=⟨ge,rfl,rfl,hob⟩
 exact zmn I1.kIn J c.ov c.ga c.gn (PySem.W.findObj_own c.hd n rfl (by rw [hl,hw])) (zeK rw') ⟨v,H1,I1.tok _,rw',q⟩
end
def ziX (sp:Sp)(E:St→XK)(t:TA):TE:=fun σ H Q=>t σ H fun vs H1=>sp vs H1 Q (E σ)
def zmT (C:Addr)(m:Str)(sp:Sp)(E:St→XK)(ta:TE)(t:TA):TE:=fun σ H Q=>ta σ H fun x H1=>∃a dx fs,x=.ref a∧H1 a=some (.ins C dx fs)∧fs.lookup m=none∧t σ H1 fun vs H2=>sp (x::vs) H2 Q (E σ)
section
variable {X:Cx}{CX:CXT}{k:Nat}{f C:Addr}{fd:FuncData}{ps:List Str}{sp:Sp}{E:St→XK}{x m:Str}{p pos apos:Pos}{e o:Expr}{es:List Expr}{ta:TE}{t:TA}
theorem zkn {pins:List (Addr ×Obj)}{σ:St}{H:Hp}{s:Shared}{Q:VK}{us:List Value}{vs:List V}(F:FnOk X.prog X.w X.K X.mg X.base CX k f fd ps sp)(hr:Room k X.A)(hb:Binds X.K fd ps [])(hx:zcU CX X E)
  (I:Inv X pins σ H s) (r:Vals vs us) (h:sp vs H Q (E σ)):wpAny (model X.prog X.w) X.A (call (.ref f) us) (EP X pins σ Q) X.xe s:=by
 have hl:(us++ []).length=ps.length:=by rw [List.append_nil,←r.length];exact F.len _ _ _ _ h
 have hbb:=hb s us I.kIn hl
 rw [List.append_nil] at hbb
 refine wpAny_call (codeAny_mono (F.run X.A X.stack s H ⟨us,[]⟩ us vs Q (E σ) hr I.env0 hbb r h) fun r s' hq=>?_)
 cases r with
 | error e=>exact hx pins σ H s e s' I hq
 | ok fl=>
  cases fl with
  | ret u=>exact I.after hq
  | next=>exact False.elim hq
  | brk=>exact False.elim hq
  | cont=>exact False.elim hq
theorem zji (F:FnOk X.prog X.w X.K X.mg X.base CX k f fd ps sp)(hr:Room k X.A)(hg:Gl X x)(hm:X.mg x=some (.ref f))(hk:PySem.W.keepIn X.K (.ref f)=true)(hb:Binds X.K fd ps [])(hx:zcU CX X E)
  (ha:PA X (e::es) t) (hdb:(x==("__debug__" :Str))=false:=by decide) (he:starEach (e::es) X.env=(false,eval e X.env)::starEach es X.env:=by rfl) (hpl:(backTo pos (starEach es X.env)).any (·.1)=false:=by rfl):
  PE X (.Call (.Name x p) (e::es) [] pos) (ziX sp E t):=by
 intro pins s σ H Q I h
 refine wpAny_Call_Name_kw (zci I hg hm ?_ hdb)
 refine PySem.W.callWith_K (h₀:=X.base) I.ok.mod.kin hk (thn (ha pos pins s σ H _ I h) fun us s1 ⟨vs,H1,I1,r,q⟩=>⟨I1.kIn,?_⟩) he hpl
 exact zkn F hr hb hx I1 r q
end
theorem Fun.okX {P:Program}{w:World}{K:PySem.W.Frag}{mg:Str→Option Value}{base:Heap}{x qual:Str}{st:Stmt}{f:Addr}{fd:FuncData}{N ps:List Str}{k:Nat}{sp:Sp}(F:Fun K x qual st f fd)(S:zu N ps (zd st))(len:∀vs H Q E,sp vs H Q E→vs.length=ps.length)
  (hbody:∀(cdv:Value) (A:Around) (outer:List Env) (s:Shared) (H:Hp) (vs:List V) (Q:VK) (E:XK),Room k (A.deeper (envOfC qual (zd st) s.heap.objs.size f cdv))→sp vs H Q E→
   ∃t,PSs (cxOf (CX1 P w) P w K mg base N qual (zd st) f cdv A outer s H E) (zo st) t∧t {nx:=fun _ H'=>Q .non H',rt:=Q} (start N vs) H):FnOk P w K mg base (CX1 P w) (k+1) f fd ps sp:=by
 obtain ⟨oc,od,kV,doc,pm,an,cdv,ct,osl,rfl,lk,hcd⟩:=F.ex
 exact zkU lk hcd S len fun A outer s H vs Q E hr hsp=>hbody cdv A outer s H vs Q E hr hsp
abbrev Cx.tried (X:Cx)(xe:Value→Shared→Prop)(pn:List (Addr ×Obj)):Cx:={X with xe:=xe,pn:=pn}
abbrev Cx.suite (X:Cx)(e:Addr):Cx:={X with A:=X.A.mark (some (.ref e)),calm:=false,xe:=fun _ _=>False}
section
variable {X:Cx}{pins pins':List (Addr ×Obj)}{σ:St}{H:Hp}{s:Shared}{xe:Value→Shared→Prop}
theorem Inv.tried (I:Inv X pins σ H s)(xe:Value→Shared→Prop):Inv (X.tried xe (X.pn++pins)) [] σ H s:=
 ⟨⟨I.ok.mod,I.ok.kind,I.ok.glob,I.ok.blt,I.ok.above,I.ok.inj,I.ok.has,I.ok.cab,I.ok.hd,I.ok.frames,I.ok.stk,I.ok.exf,I.ok.bs,I.ok.bsz,I.ok.noex,I.ok.exfs,I.ok.funs,I.ok.frf⟩,
  I.os,I.bare,I.base,I.loc,I.cell,I.free,I.freeC,fun p hp=>I.pin p (by simpa using hp),I.hok,I.len⟩
theorem Inv.untried (I:Inv (X.tried xe (X.pn++pins)) pins' σ H s):Inv X pins σ H s:=
 ⟨⟨I.ok.mod,I.ok.kind,I.ok.glob,I.ok.blt,I.ok.above,I.ok.inj,I.ok.has,I.ok.cab,I.ok.hd,I.ok.frames,I.ok.stk,I.ok.exf,I.ok.bs,I.ok.bsz,I.ok.noex,I.ok.exfs,I.ok.funs,I.ok.frf⟩,
  I.os,I.bare,I.base,I.loc,I.cell,I.free,I.freeC,fun p hp=>I.pin p (List.mem_append_left _ hp),I.hok,I.len⟩
theorem Inv.suite (I:Inv X pins σ H s)(e:Addr):Inv (X.suite e) pins σ H s:=
 ⟨⟨I.ok.mod,I.ok.kind,I.ok.glob,I.ok.blt,I.ok.above,I.ok.inj,I.ok.has,I.ok.cab,(fun z=>nomatch z),I.ok.frames,I.ok.stk,I.ok.exf,I.ok.bs,I.ok.bsz,I.ok.noex,I.ok.exfs,I.ok.funs,I.ok.frf⟩,
  I.os,I.bare,I.base,I.loc,I.cell,I.free,I.freeC,I.pin,I.hok,I.len⟩
theorem Inv.unsuite {e:Addr}(ok:X.Ok)(I:Inv (X.suite e) pins σ H s):Inv X pins σ H s:=
 ⟨ok,I.os,I.bare,I.base,I.loc,I.cell,I.free,I.freeC,I.pin,I.hok,I.len⟩
theorem zcf {M:Model}{A:Around}{E:Value→Shared→Prop}{i:Nat}{n:Str}{pos:Pos}{Q:Unit→Shared→Prop}(I:Inv X pins σ H s)(hN:X.N.Nodup)(hi:X.N[i]? =some n)(hk:X.env.scope.names.lookup n=some .local)
  (h:∀s',Inv X pins (σ.set i none) H s'→Q () s'):wpAny M A (do bindName X.env n .none;unbindBehindTheSuite X.env n pos) Q E s:=by
 obtain ⟨m,hn,hl⟩:=id I.loc
 have cl:(X.env.scope.kind==.class || (X.env.scope.kind==.module && X.env.locals !=X.env.globals))=false:=by rw [I.ok.kind];rfl
 refine wpAny_nameGoes_keeps hk hn cl fun h' v hn' sb=>?_
 obtain ⟨oL,_,_,gL,_⟩:=id hn
 have ol:∀b ob,X.s₀.heap.get? b=some ob→b≠X.env.locals:=fun b ob g=>Nat.ne_of_lt (Nat.lt_of_lt_of_le (Heap.lt_size g) I.ok.above)
 refine h _ ⟨I.ok,I.os,I.bare,⟨fun b ob g z hb hx=>(sb.2 b (ol b ob g)).trans (I.base.keep b ob g z hb hx),fun b ob g z hb hx=>?_,I.base.free,fun b ob g hx=>?_,I.base.tups,I.base.frzs,I.base.tbls⟩,
  ⟨_,hn',fun j y v' e1 e2 e3=>?_⟩,fun y c e=>?_,I.free,I.freeC,fun p hp=>?_,fun b w g=>?_,by simpa using I.len⟩
 ·obtain ⟨sl,g1⟩:=I.base.slot b ob g z hb hx
  exact ⟨sl,(sb.2 b (ol b ob g)).trans g1⟩
 ·obtain ⟨o',g1⟩:=I.base.there b ob g hx
  exact ⟨o',(sb.2 b (ol b ob g)).trans g1⟩
 ·have hj:j≠i:=fun z=>by
   subst z
   have:j < σ.length:=by rw [I.len];exact (List.getElem?_eq_some_iff.mp hi).1
   rw [List.getElem?_set_self this] at e2
   cases e2
  rw [List.getElem?_set_ne (Ne.symm hj)] at e2
  obtain ⟨u',r',q⟩:=hl j y v' e1 e2 e3
  refine ⟨u',r',?_⟩
  rcases q with ⟨k,e⟩ | ⟨k,c,e,z⟩
  ·refine .inl ⟨k,?_⟩
   have:y≠n:=fun z=>hj (zef hN e1 (z ▸ hi))
   show (if y=n then v else m y)=some u'
   rw [if_neg this];exact e
  ·exact .inr ⟨k,c,e,z.sameBut sb (I.cne y c e)⟩
 ·obtain ⟨w',z⟩:=I.cell y c e
  exact ⟨w',z.sameBut sb (I.cne y c e)⟩
 ·obtain ⟨g,z,ne,nf,d⟩:=I.pin p hp
  exact ⟨(sb.2 p.1 ne).trans g,z,ne,nf,d⟩
 ·refine (I.hok b w g).stay (fun c v2 hc q=>(sb.2 c fun z=>?_).trans q) (fun _ q=>q) fun _ _ q=>q
  subst z
  rcases hc with y | y
  ·rw [←y,I.free] at g;cases g
  ·rw [I.free] at y;cases y
end
def Ends.less (D:Ends)(i:Nat):Ends:={nx:=fun σ H=>D.nx (σ.set i none) H,rt:=D.rt,bk:=fun σ H=>D.bk (σ.set i none) H,ct:=fun σ H=>D.ct (σ.set i none) H}
def zgQ (K:PySem.W.Frag)(cv:Value)(i:Nat)(ts:TS)(D:Ends):St→XK:=fun σ cls od H'=>∃C,cls=.ref C∧PySem.W.exmOne K (.ref C) cv=some true∧
 ∀e,H' e=none→ts (D.less i) (σ.set i (some (.ref e))) (upd H' e (exO e C od false))
def zlA (K:PySem.W.Frag)(cv:Value)(ts:TS)(D:Ends):St→XK:=fun σ cls od H'=>∃C,cls=.ref C∧PySem.W.exmOne K (.ref C) cv=some true∧
 ∀e,H' e=none→ts D σ (upd H' e (exO e C od false))
def zk7 (K:PySem.W.Frag)(cv:Value)(i:Nat)(tb:(St→XK)→TS)(ts:TS):TS:=fun D σ H=>tb (zgQ K cv i ts D) D σ H
def zng (K:PySem.W.Frag)(cv:Value)(tb:(St→XK)→TS)(ts:TS):TS:=fun D σ H=>tb (zlA K cv ts D) D σ H
theorem _root_.Px.Chg2.mono {fs:List Addr}{own own':Addr→Prop}{h h':Heap}(c:Chg2 fs own h h')(k:∀b,own b→own' b):Chg2 fs own' h h':=
 ⟨c.size,fun b o q a n=>c.keep b o q a fun z=>n (k b z),fun b o q a n=>c.slot b o q a fun z=>n (k b z)⟩
section
variable {X:Cx}{x n:Str}{i:Nat}{cv:Value}{body suite:List Stmt}{b₀:Stmt}{np hpos pos:Pos}{tb:(St→XK)→TS}{ts:TS}
theorem Inv.caught {pins:List (Addr ×Obj)}{σ:St}{H H':Hp}{s s2:Shared}{h4:Heap}{ea C T T':Addr}{od:Option Addr}(J0:Inv X pins σ H s)(os:s2.os=s.os)(bare:AllBare s2.gens)(un:Un (frs X.stack) [] H H' s.heap s2.heap)(hok:HOk X.prog X.w H' s2.heap)
  (old:s.heap.get? ea=none∨H ea≠none) (nT:s.heap.get? T=none) (u1:H' ea=none) (u2:H' T=none) (z:s2.heap.objs.size≤T') (c:Chg2 (frs X.stack) (fun b=>b=ea∨b=T∨b=T') s2.heap h4) (tb:Tb h4 ea (.ref C) od T' .none):
  Inv X pins σ (upd H' ea (exO ea C od false)) {s2 with heap:=h4}:=by
 obtain ⟨oe,vs,oT,tz,ge,e1,e2,e3,_⟩:=tb
 have ge':h4.get? ea=some ⟨.ref C,od,.fields vs,oe.slots⟩:=by
  obtain ⟨c0,d0,dt,sl⟩:=oe
  dsimp only at e1 e2 e3
  subst e1;subst e2;subst e3
  exact ge
 have nT2:s2.heap.get? T'=none:=Heap.get?_none_of_le z
 have fr2:∀b∈frs X.stack,H' b=none:=fun b hb=>by
  have J:=J0.call' os un hok bare (fun b z=>nomatch z)
  exact J.stkFree b hb
 have u3:H' T'=none:=hok.fresh z
 have U:Un (frs X.stack) [] H H' s.heap h4:=un.chg c (fun b ob _ y=>y) fun b y=>by
  rcases y with y | y | y
  ·subst y
   rcases old with y | y
   ·exact .inl y
   ·exact .inr ⟨y,⟨_,ge⟩⟩
  ·subst y;exact .inl nT
  ·subst y;exact .inl (zbt un (by intro z;cases z) nT2)
 have O:HOk X.prog X.w H' h4:=hok.chg c (fun b y=>by
  rcases y with y | y | y
  ·rw [y];exact u1
  ·rw [y];exact u2
  ·rw [y];exact u3) fr2
 refine J0.call' (s':={s2 with heap:=h4}) os (U.track u1 fun ob q=>.inr ?_) (O.track u1 (zgm ge' fun z=>by cases z)) bare (fun b z=>nomatch z)
 rcases old with y | y
 ·rw [y] at q;cases q
 ·exact y
theorem ziD (hst:X.stack=X.env::X.outer)(hfm:X.env.frame=some X.env.locals)(hN:X.N.Nodup)(hi:X.N[i]? =some n)(hlo:X.env.scope.names.lookup n=some .local)(hg:Gl X x)(hm:X.mg x=some cv)
  (hb:∀xe pn E,zcU (CX1 X.prog X.w) (X.tried xe pn) E→PSs (X.tried xe pn) body (tb E)) (hs:∀e,PSs (X.suite e) (b₀::suite) ts) (hdb:(x==("__debug__" :Str))=false:=by decide):
  PS X (.Try body [.ExceptHandler (some (.Name x np)) (some n) (b₀::suite) hpos] [] [] pos) (zk7 X.K cv i tb ts):=by
 intro pins s σ H D I h
 have key:zcU (CX1 X.prog X.w) (X.tried (fun e s₁=>wpAny (model X.prog X.w) X.A (noteFrame e X.env) (fun _ s₂=>wpAny (model X.prog X.w) X.A (setFlight e none) (fun _ s₃=>
   wpAny (model X.prog X.w) X.A (handleBy e X.env [.ExceptHandler (some (.Name x np)) (some n) (b₀::suite) hpos]) (SP X pins D) X.xe s₃) X.xe s₂) X.xe s₁) (X.pn++pins)) (zgQ X.K cv i ts D):=by
  intro pins' σ' H1 s1 e s2 I1 hc
  obtain ⟨ea,cls,od,H',T,rfl,os,bare,un,hok,tb',old,nT,u1,u2,C,rfl,em,q⟩:=hc
  have J0:Inv X pins σ' H1 s1:=I1.untried
  have J:=J0.call' os un hok bare (fun b z=>nomatch z)
  show wpAny _ _ (noteFrame (.ref ea) X.env) _ _ s2
  refine zmz (base:=X.base) (by rw [←hst];exact J.ok.frames) (by rw [←hst];exact J.stack) hfm tb' fun h3 T' z t3 c3=>?_
  rw [show (X.env::X.outer).filterMap (·.frame)=frs X.stack from by rw [hst];rfl] at c3
  have c3':Chg2 (frs X.stack) (fun b=>b=ea∨b=T∨b=T') s2.heap h3:=c3.mono fun b y=>y.elim .inl fun y=>.inr (.inl y)
  have J3:=J0.caught os bare un hok old nT u1 u2 z c3' t3
  have LT:PySem.W.Looks (model X.prog X.w) h3 (typeOf (.ref ea)) (.ref C):=by
   obtain ⟨vs,sl,ge,_⟩:=zbR J3.hok zh
   exact (PySem.W.Looks.ld ge).andThen .now
  refine wpAny_handleBy_cons (codeAny_handlers_test (zci (X:=X.suite ea) (J3.suite ea) hg hm ?_ hdb)) (by intro y;cases y)
  refine (PySem.W.exm_one J3.kIn LT em).here (s:={s2 with heap:=h3}) ?_
  refine codeAny_handlers_suite_as ?_
  refine zeP (s:={s2 with heap:=h3}) (fs:=frs X.stack) t3 fun h4 t4 c4 k4=>?_
  have J4:=J0.caught os bare un hok old nT u1 u2 z (c3'.trans (c4.two (own:=fun b=>b=ea∨b=T∨b=T') (.inl rfl) (.inl (.inr (.inr rfl))))) t4
  refine zdO (X:=X) J4 hN hi (.inl hlo) (show RelV (.ref ea) (Value.ref ea) from rfl) (fun s5 J5=>?_) (.inr hlo)
  refine wpAny_mono (hs ea pins s5 _ _ (D.less i) (J5.suite ea) (q ea u1)) (fun f s6 q6=>?_) fun _ _ y=>y.elim
  show wpAny _ _ _ _ _ _
  cases f with
  | next=>
   obtain ⟨σ6,H6,J6,y⟩:=q6
   exact zcf (J6.unsuite J0.ok) hN hi hlo fun s7 J7=>⟨_,_,J7,y⟩
  | brk=>
   obtain ⟨σ6,H6,J6,y⟩:=q6
   exact zcf (J6.unsuite J0.ok) hN hi hlo fun s7 J7=>⟨_,_,J7,y⟩
  | cont=>
   obtain ⟨σ6,H6,J6,y⟩:=q6
   exact zcf (J6.unsuite J0.ok) hN hi hlo fun s7 J7=>⟨_,_,J7,y⟩
  | ret u=>
   obtain ⟨v6,σ6,H6,J6,rv,y⟩:=q6
   exact zcf (J6.unsuite J0.ok) hN hi hlo fun s7 J7=>⟨_,_,_,J7,rv,y⟩
 refine wpAny_Try_except (wpAny_mono (hb _ (X.pn++pins) _ key [] s σ H D (I.tried _) h) (fun f s₁ q=>?_) fun _ _ y=>y)
 cases f with
 | next=>obtain ⟨σ',H',I',y⟩:=q;exact wpAny_execs_nil ⟨σ',H',I'.untried,y⟩
 | brk=>obtain ⟨σ',H',I',y⟩:=q;exact ⟨σ',H',I'.untried,y⟩
 | cont=>obtain ⟨σ',H',I',y⟩:=q;exact ⟨σ',H',I'.untried,y⟩
 | ret u=>obtain ⟨v,σ',H',I',rv,y⟩:=q;exact ⟨v,σ',H',I'.untried,rv,y⟩
end
end L2
namespace L2
open PySem PySem.Spec PyProof.Rows
def cxC (X:Cx)(N:List Str)(scope:Scope)(cl:List (Str ×Addr))(s₀:Shared)(H₀:Hp)(ex:List Addr):Cx:=
 {X with N:=N,s₀:=s₀,H₀:=H₀,env:=compEnvC scope cl s₀.heap.objs.size X.env,outer:=X.stack,ex:=ex,fn:=fun _=>false,pn:=[],xe:=fun _ _=>False}
structure zQ (X:Cx)(x:Str)(ys:List Str)(js:List Nat)(scope:Scope)(cl:List (Str ×Addr)):Prop where
 clos:closureFor scope X.env=pure cl
 kind:scope.kind=.function
 nocell:∀y∈scope.names,y.2≠ .cell
 names:∀y∈scope.names,y.2=.local→scope.names.lookup y.1=some .local
 tgt:scope.names.lookup x=some .local
 nd:(x::ys).Nodup
 sub:∀p∈cl,X.env.cells.lookup p.1=some p.2
 has:∀p∈(relabel scope X.env).names,p.2=.cell∨p.2=.free→p.1∈cl.map (·.1)
 fr:∀(i:Nat) (y:Str),ys[i]? =some y→∃j,js[i]? =some j∧X.N[j]? =some y∧(X.env.kindOf y=some .cell∨X.env.kindOf y=some .free)∧((relabel scope X.env).names.lookup y=some .cell∨(relabel scope X.env).names.lookup y=some .free)
 len:js.length=ys.length
theorem zaq {cl:List (Str ×Addr)}:∀{y:Str},y∈cl.map (·.1)→∃c,cl.lookup y=some c:=by
 induction cl with
 | nil=>intro y h;simp at h
 | cons p r ih=>
  intro y h
  rw [List.lookup_cons]
  cases e:y==p.1 with
  | true=>exact ⟨p.2,rfl⟩
  | false=>
   rw [List.map_cons,List.mem_cons] at h
   rcases h with h | h
   ·rw [h] at e;simp at e
   ·exact ih h
def PTs (X:Cx)(ifs:List Expr)(t:TT):Prop:=
 ∀(pins:List (Addr ×Obj)) (s:Shared) (σ:St) (H:Hp) (Q:Bool→Hp→Prop),Inv X pins σ H s→t σ H Q→
  wpAny (model X.prog X.w) X.A (forIn ifs true fun c r=>if r=true then do let ok←isTrue c X.env (eval c X.env);pure (ForInStep.yield ok) else pure (ForInStep.yield r)) (TP X pins σ Q) X.xe s
def zcI:TT:=fun _ H Q=>Q true H
theorem zdw {X:Cx}:PTs X [] zcI:=fun _ _ _ H _ I h=>wpAny_tests_nil ⟨H,I,h⟩
theorem zkb {X:Cx}{c:Expr}{t:TT}(h:PT X c t):PTs X [c] t:=fun pins s σ H Q I q=>wpAny_tests_one (h pins s σ H Q I q)
def frees (σ:St)(js:List Nat):St:=js.map fun j=>(σ[j]?).getD none
def zfu (J:It)(p:Addr)(σ:St)(js:List Nat)(tt:TT)(te:TE)(H1:Hp)(Q:VK):Prop:=
 ∃W:Nat→Nat→List V→Hp→Prop,(∃m,W 0 m [] (upd H1 p (.lst [])))∧∀i m acc H,W i m acc H→
  (J.stop i H∧Q (.ref p) H)∨(J.go i H∧∀x H',J.yld i H x H'→tt (some x::frees σ js) H' fun ok H2=>
   if ok=true then te (some x::frees σ js) H2 fun y H3=>H3 p=some (.lst acc)∧acc.length < sizeLine∧∃m',m' < m∧W (i+1) m' (acc++ [y]) (upd H3 p (.lst (acc++ [y])))
   else∃m',m' < m∧W (i+1) m' acc H2)
def zkZ (wi:TI)(js:List Nat)(tt:TT)(te:TE):TE:=fun σ H Q=>wi σ H fun J H1=>∀p,H1 p=none→zfu J p σ js tt te H1 Q
section
variable {X:Cx}{x:Str}{ys:List Str}{js:List Nat}{scope:Scope}{cl:List (Str ×Addr)}{pins:List (Addr ×Obj)}{σ:St}{H:Hp}{s:Shared}
theorem zQ.cells (S:zQ X x ys js scope cl){y:Str}{c:Addr}(h:cl.lookup y=some c):X.env.cells.lookup y=some c:=S.sub (y,c) (PySem.mem_of_lookup h)
theorem zjY (S:zQ X x ys js scope cl)(I:Inv X pins σ H s){fp:List Addr}(f:∀b∈fp,FpOk X pins H b)(fo:∀b∈fp,b < s.heap.objs.size){h1:Heap}{m:Str→Option Value}{t1:Nat}(hn:h1.Ns s.heap.objs.size m)
  (k:∀b o,s.heap.get? b=some o→h1.get? b=some o):
  Inv (cxC X (x::ys) scope cl s H fp) (X.pn++pins) (none::frees σ js) H {s with heap:=h1,toks:=t1}:=by
 have nfs:∀b∈fp,b∉frs X.stack:=fun b hb z=>(List.mem_cons.mp (I.stkSub b z)).elim (f b hb).2.1 (f b hb).2.2.1
 have kept:∀y c,cl.lookup y=some c→∀v,s.heap.IsCell c v→h1.IsCell c v:=fun y c _ v ⟨o,ho,hd⟩=>⟨o,k c o ho,hd⟩
 refine ⟨⟨I.ok.mod,S.kind,I.ok.glob,I.ok.blt,Nat.le_refl _,fun y z c e1 e2=>I.ok.inj y z c (S.cells e1) (S.cells e2),fun y hy=>?_,fun y c e _=>absurd e Bool.false_ne_true,I.ok.hd,I.ok.frames,.inl rfl,fun b hb=>⟨?_,fun y c e=>(f b hb).2.2.2.2.1 y c (S.cells e)⟩,
   I.bs,Nat.le_trans I.ok.bsz I.sz,fun b o e hb=>?_,nfs,I.stack,I.stkFree⟩,
  I.os.trans ?_,I.bare,Un.kept k,⟨m,hn,fun i y v e1 e2 e3=>?_⟩,fun y c e=>?_,I.hok.fresh (Nat.le_refl _),fun y c e=>I.freeC y c (S.cells e),fun p hp=>?_,I.hok.kept k,?_⟩
 ·rcases hy with hy | hy
  ·exact zaq (S.has _ (PySem.mem_of_lookup hy) (.inl rfl))
  ·exact zaq (S.has _ (PySem.mem_of_lookup hy) (.inr rfl))
 ·exact Nat.ne_of_lt (fo b hb)
 ·rcases (f b hb).2.2.2.1 with z | z
  ·exact I.ok.noex b o e z
  ·exact absurd (Nat.lt_of_lt_of_le (Heap.lt_size e) (Nat.le_trans I.ok.bsz z)) (Nat.lt_irrefl _)
 ·exact I.os.symm
 ·cases i with
  | zero=>cases e2
  | succ i=>
   obtain ⟨j,ej,eN,ek,ek'⟩:=S.fr i y e1
   have es:σ[j]? =some (some v):=by
    have q:(frees σ js)[i]? =some (some v):=e2
    unfold frees at q
    rw [List.getElem?_map,ej] at q
    have q':(σ[j]?).getD none=some v:=Option.some.inj q
    cases e:σ[j]? with
    | none=>rw [e] at q';cases q'
    | some o=>rw [e] at q';cases q';rfl
   obtain ⟨m0,_,hl⟩:=I.loc
   obtain ⟨u,r,l⟩:=hl j y v eN es (.inr ek)
   rcases l with ⟨l,_⟩ | ⟨_,c,ec,hc⟩
   ·rcases ek with ek | ek <;> · rw [ek] at l;cases l
   ·have hk:y∈cl.map (·.1):=by
     rcases ek' with q | q
     ·exact S.has _ (PySem.mem_of_lookup q) (.inl rfl)
     ·exact S.has _ (PySem.mem_of_lookup q) (.inr rfl)
    obtain ⟨c',ec'⟩:=zaq hk
    have e:=S.cells ec'
    rw [ec] at e
    cases e
    exact ⟨u,r,.inr ⟨ek',c,ec',kept y c ec' _ hc⟩⟩
 ·obtain ⟨v,q⟩:=I.cell y c (S.cells e)
  exact ⟨v,kept y c e v q⟩
 ·have hp':p∈X.pn++pins:=(List.mem_append.mp hp).elim (fun z=>absurd (show p∈([]:List (Addr ×Obj)) from z) (by simp)) id
  obtain ⟨a,b,c,d,e⟩:=I.pin p hp'
  exact ⟨k _ _ a,b,Nat.ne_of_lt (Heap.lt_size a),fun z=>(List.mem_cons.mp (I.stkSub _ z)).elim c d,e⟩
 ·show _=(x::ys).length
  rw [List.length_cons,List.length_cons]
  unfold frees
  rw [List.length_map,S.len]
theorem zfP {H1:Hp}{s1:Shared}{σ':St}{pins':List (Addr ×Obj)}{s0:Shared}{H0:Hp}(I:Inv X pins σ H0 s0){fp:List Addr}(f:∀b∈fp,FpOk X pins H0 b)(U0:Un (frs X.stack) fp H0 H s0.heap s.heap)(ho:s.os=s0.os)
  (J:Inv (cxC X (x::ys) scope cl s H fp) pins' σ' H1 s1):Inv X pins σ H1 s1:=by
 have U1:Un (frs X.stack) fp H H1 s.heap s1.heap:=J.base
 exact I.call' (J.os.trans ho) (U0.trans U1) J.hok J.bare fun b hb=>⟨(f b hb).2.2.2.1,(f b hb).2.1,(f b hb).2.2.2.2.1,(f b hb).2.2.2.2.2⟩
variable {iter elt:Expr}{ifs:List Expr}{px pos:Pos}{wi:TI}{tt:TT}{te:TE}
theorem zfL (S:zQ X x ys js scope cl)(hc:X.calm=true)(ht:∀s₀ H₀ ex,PTs (cxC X (x::ys) scope cl s₀ H₀ ex) ifs tt)(he:∀s₀ H₀ ex,PE (cxC X (x::ys) scope cl s₀ H₀ ex) elt te)
  {s2:Shared} {H2:Hp} {it:Addr} {fp:List Addr} {tn:Nat→Heap→Prop} {J:It} (I2:Inv X pins σ H2 s2) (T:Turn X.prog X.w X.K (.Name x px) J fp it tn) (st2:tn 0 s2.heap) (f2:∀b∈fp,FpOk X pins H2 b)
  {Q:VK} (q:∀p,H2 p=none→zfu J p σ js tt te H2 Q)
  {R:Value→Addr→Result→Shared→Prop}
  (hR:∀(p:Addr) (C:Addr) (H':Hp) (s':Shared) (m:Str→Option Value),s2.heap.objs.size≤C→s'.heap.Ns C m→H' C=none→Inv X pins σ H' s'→Q (.ref p) H'→R (.ref p) C (.ok .next) s'):
  wpAny (model X.prog X.w) X.A (newList []) (fun acc s₃=>wpAny (model X.prog X.w) X.A (newFunctionEnv scope X.env.globals cl [] X.env.qual none .none (some X.env)) (fun cenv s₄=>
   codeAny (model X.prog X.w) X.A (.compStart (.ListComp elt [⟨.Name x px,iter,ifs,0⟩] scope pos) 0 (.ref it) acc {cenv with scope:=relabel scope X.env}) (R acc cenv.locals) s₄) X.xe s₃) X.xe s2:=by
 refine wpAny_newObj_type (wpAny_newFunctionEnv S.nocell (by intro y hy;simp at hy) (fun h₁ hns₁ hsb₁=>?_) S.kind)
 have fr2:H2 s2.heap.objs.size=none:=I2.hok.fresh (Nat.le_refl _)
 obtain ⟨W,⟨m0,w0⟩,turn⟩:=q _ fr2
 have I3:Inv X pins σ (upd H2 s2.heap.objs.size (.lst [])) {s2 with heap:=s2.heap.push {cls:=.type "list",dict:=none,data:=.seq ([]:List Value).toArray}}:=
  I2.laid (t':=s2.toks) (fun b u e=>Heap.get?_push_of_some _ e) (Nat.le_refl _) ⟨Nat.zero_le _,[],0,.nil,Heap.get?_push_size _ rfl⟩
 have U0:Un (frs X.stack) fp H2 (upd H2 s2.heap.objs.size (.lst [])) s2.heap (s2.heap.push {cls:=.type "list",dict:=none,data:=.seq ([]:List Value).toArray}):=
  Un.laid (fun b u e=>Heap.get?_push_of_some _ e) (Nat.le_refl _) fr2
 have fo:∀b∈fp,b < s2.heap.objs.size:=fun b hb=>by
  obtain ⟨o,e,_⟩:=T.obj 0 _ st2 b hb
  exact Heap.lt_size e
 have f3:∀b∈fp,FpOk X pins (upd H2 s2.heap.objs.size (.lst [])) b:=fun b hb=>⟨by rw [zk (Nat.ne_of_lt (fo b hb))];exact (f2 b hb).1,(f2 b hb).2⟩
 have hold:∀b o,(s2.heap.push {cls:=.type "list",dict:=none,data:=.seq ([]:List Value).toArray}).get? b=some o→h₁.get? b=some o:=fun b o e=>
  hsb₁.extBut b o (Nat.ne_of_lt (Heap.lt_size e)) (Heap.get?_push_of_some _ e)
 have fo3:∀b∈fp,b < (s2.heap.push {cls:=.type "list",dict:=none,data:=.seq ([]:List Value).toArray}).objs.size:=fun b hb=>by rw [Heap.size_push];exact Nat.lt_succ_of_lt (fo b hb)
 have I4:=zjY (t1:=s2.toks+([]:List (Str ×Value)).length) S I3 f3 fo3 hns₁ hold
 have st4:tn 0 h₁:=T.keep _ _ _ st2 fun b _ o e=>hold b o (Heap.get?_push_of_some _ e)
 have stat:∀{H':Hp},(∀b∈fp,H' b=none)→∀b∈fp,FpOk (cxC X (x::ys) scope cl {s2 with heap:=s2.heap.push {cls:=.type "list",dict:=none,data:=.seq ([]:List Value).toArray}} (upd H2 s2.heap.objs.size (.lst [])) fp) (X.pn++pins) H' b:=fun hn b hb=>
  ⟨hn b hb,Nat.ne_of_lt (fo3 b hb),I4.ok.exfs b hb,.inl hb,fun y c e=>(f2 b hb).2.2.2.2.1 y c (S.cells e),fun p hp=>(f2 b hb).2.2.2.2.2 p ((List.mem_append.mp hp).elim (fun z=>absurd (show p∈([]:List (Addr ×Obj)) from z) (by simp)) id)⟩
 have loop:codeAny (model X.prog X.w) X.A (.compLoop (.ListComp elt [⟨.Name x px,iter,ifs,0⟩] scope pos) 0 (.ref it) (.ref s2.heap.objs.size) (compEnvC scope cl (s2.heap.push {cls:=.type "list",dict:=none,data:=.seq ([]:List Value).toArray}).objs.size X.env))
   (R (.ref s2.heap.objs.size) (s2.heap.push {cls:=.type "list",dict:=none,data:=.seq ([]:List Value).toArray}).objs.size) {s2 with heap:=h₁,toks:=s2.toks+([]:List (Str ×Value)).length}:=by
  refine codeAny_loop rfl (fun n s'=>∃i acc v0 H',Inv (cxC X (x::ys) scope cl {s2 with heap:=s2.heap.push {cls:=.type "list",dict:=none,data:=.seq ([]:List Value).toArray}} (upd H2 s2.heap.objs.size (.lst [])) fp) (X.pn++pins) (v0::frees σ js) H' s'∧tn i s'.heap∧(∀b∈fp,H' b=none)∧W i n acc H')
   (fun n s5 hI=>?_) m0 ⟨0,[],none,_,I4,st4,fun b hb=>(f3 b hb).1,w0⟩
  show wpAny _ X.A ((compTurn (.ListComp elt [⟨.Name x px,iter,ifs,0⟩] scope pos) 0 (.ref it) (.ref s2.heap.objs.size) (compEnvC scope cl (s2.heap.push {cls:=.type "list",dict:=none,data:=.seq ([]:List Value).toArray}).objs.size X.env)).onRaise (fun x=>do noteFrame x (compEnvC scope cl (s2.heap.push {cls:=.type "list",dict:=none,data:=.seq ([]:List Value).toArray}).objs.size X.env);theTreesLotGoes x)) _ _ s5
  refine wpAny_noted ?_
  rw [compTurn_list]
  obtain ⟨i,acc,v0,H5,I5,st5,fr5,w5⟩:=hI
  refine wpAny_bind (wpAny_standAt (wpAny_bind ?_))
  rcases turn i n acc H5 w5 with ⟨stop,qn⟩ | ⟨go,step⟩
  ·refine wpAny_mono (T.done (cxC X (x::ys) scope cl {s2 with heap:=s2.heap.push {cls:=.type "list",dict:=none,data:=.seq ([]:List Value).toArray}} (upd H2 s2.heap.objs.size (.lst [])) fp) rfl rfl rfl hc i _ s5 _ H5 _ I5 (stat fr5) st5 stop) (fun r s6 ⟨hr,I6⟩=>?_) fun _ _ e=>e
   subst hr
   obtain ⟨m,hn,_⟩:=I6.loc
   exact wpAny_pure (hR _ _ H5 s6 m (by rw [Heap.size_push];exact Nat.le_succ _) hn I6.free (zfP I2 f2 U0 (by rfl) I6) qn)
  ·refine wpAny_mono (T.item (cxC X (x::ys) scope cl {s2 with heap:=s2.heap.push {cls:=.type "list",dict:=none,data:=.seq ([]:List Value).toArray}} (upd H2 s2.heap.objs.size (.lst [])) fp) rfl rfl rfl hc i _ s5 _ H5 _ I5 (stat fr5) st5 go) (fun r s6 ⟨u,hr,h6⟩=>?_) fun _ _ e=>e
   subst hr
   refine wpAny_bind (wpAny_mono h6 (fun _ s7 ⟨v,H7,I7,r7,y7,st7,fr7⟩=>?_) fun _ _ e=>e)
   have I7':=I7.pinned (stat fr7) (T.obj _ _ st7)
   have G:PG (cxC X (x::ys) scope cl {s2 with heap:=s2.heap.push {cls:=.type "list",dict:=none,data:=.seq ([]:List Value).toArray}} (upd H2 s2.heap.objs.size (.lst [])) fp) (.Name x px) (zbS 0):=
    zN S.nd rfl (.inl (lookup_relabel_local S.tgt)) (.inr (lookup_relabel_local S.tgt))
   refine wpAny_bind (wpAny_mono (G _ s7 _ H7 v u (fun σ8 H8=>σ8=some v::frees σ js∧H8=H7) I7' r7 ⟨rfl,rfl⟩) (fun _ s8 ⟨σ8,H8,I8,e8,e8'⟩=>?_) fun _ _ e=>e.elim)
   subst e8 e8'
   refine wpAny_bind (wpAny_mono (ht _ _ _ _ s8 _ _ _ I8 (step v _ y7)) (fun ok s9 ⟨H9,I9,q9⟩=>?_) fun _ _ e=>e.elim)
   have again:∀{acc':List V} {H10:Hp} {s10:Shared},Inv (cxC X (x::ys) scope cl {s2 with heap:=s2.heap.push {cls:=.type "list",dict:=none,data:=.seq ([]:List Value).toArray}} (upd H2 s2.heap.objs.size (.lst [])) fp) (X.pn++pins++zc9 fp s7.heap) (some v::frees σ js) H10 s10→
     (∃m',m' < n∧W (i+1) m' acc' H10)→∃m,m < n∧∃i acc v0 H',Inv (cxC X (x::ys) scope cl {s2 with heap:=s2.heap.push {cls:=.type "list",dict:=none,data:=.seq ([]:List Value).toArray}} (upd H2 s2.heap.objs.size (.lst [])) fp) (X.pn++pins) (v0::frees σ js) H' s10∧tn i s10.heap∧(∀b∈fp,H' b=none)∧W i m acc H':=fun {acc' H10 s10} I10 ⟨m',hm,w10⟩=>by
    refine ⟨m',hm,i+1,acc',some v,H10,I10.unpinned,T.keep _ _ _ st7 fun b hb o e=>(I10.pin (b,o) (List.mem_append_right _ (List.mem_append_right _ (zaW hb e)))).1,fun b hb=>?_,w10⟩
    obtain ⟨o,e,d⟩:=T.obj _ _ st7 b hb
    exact (I10.pin (b,o) (List.mem_append_right _ (List.mem_append_right _ (zaW hb e)))).2.1
   cases ok with
   | false=>
    rw [if_neg Bool.false_ne_true] at q9
    exact wpAny_pure ⟨rfl,again I9 q9⟩
   | true=>
    rw [if_pos rfl] at q9
    refine wpAny_bind (wpAny_bind (wpAny_mono (he _ _ _ _ s9 _ _ _ I9 q9) (fun y s10 ⟨z,H10,I10,r10,e10,l10,w10⟩=>?_) fun _ _ e=>e.elim))
    refine wpAny_bind (wpAny_mono (zaM (X:=cxC X (x::ys) scope cl {s2 with heap:=s2.heap.push {cls:=.type "list",dict:=none,data:=.seq ([]:List Value).toArray}} (upd H2 s2.heap.objs.size (.lst [])) fp) _ s10 _ H10 (.ref s2.heap.objs.size) [z] (.ref s2.heap.objs.size) [y] (fun _ H'=>H'=upd H10 s2.heap.objs.size (.lst (acc++ [z]))) I10 rfl (.cons r10 .nil) ⟨_,acc,z,rfl,rfl,e10,l10,rfl⟩)
     (fun _ s11 ⟨_,H11,I11,_,e11⟩=>?_) fun _ _ e=>e.elim)
    subst e11
    exact wpAny_pure (wpAny_pure ⟨rfl,again I11 w10⟩)
 exact codeAny_compStart_list loop (T.self _ 0 _ _ _ st4 loop)
theorem zeb (S:zQ X x ys js scope cl)(hc:X.calm=true)(hi:PI X (.Name x px) iter wi)(ht:∀s₀ H₀ ex,PTs (cxC X (x::ys) scope cl s₀ H₀ ex) ifs tt)(he:∀s₀ H₀ ex,PE (cxC X (x::ys) scope cl s₀ H₀ ex) elt te)
  (hs:∀x,foldedSetIterable iter X.env x=pure x:=by intro _;rfl):PE X (.ListComp elt [⟨.Name x px,iter,ifs,0⟩] scope pos) (zkZ wi js tt te):=by
 intro pins s σ H Q I h
 rw [eval_ListComp]
 refine wpAny_comprehension_free (use:=none) rfl hs S.clos S.kind S.names (thn (hi pins s σ H _ I h) fun v s1 h1=>thn h1 fun itv s2 h2=>?_)
 obtain ⟨it,fp,tn,J,H2,e,I2,T,st2,f2,q⟩:=h2
 subst e
 refine zfL (Q:=Q) (R:=fun acc C=>compPost (model X.prog X.w) X.A X.xe none (EP X pins σ Q) acc C) S hc ht he I2 T st2 f2 q fun p C H' s' m hC hn hf I' q'=>?_
 refine ⟨m,hn,fun h' hb=>⟨.ref p,H',?_,rfl,q'⟩⟩
 exact I'.turned (it:=C) (t':=s'.toks) (fun b o hne e=>hb.extBut b o hne e) hf (Nat.ne_of_gt (Nat.lt_of_lt_of_le I2.lt hC)) (.inr (Nat.le_trans I2.sz hC))
  (fun y c e z=>by obtain ⟨v,w⟩:=I2.cell y c e;subst z;exact Nat.lt_irrefl _ (Nat.lt_of_lt_of_le w.lt hC)) fun p hp z=>by have q:=Heap.lt_size (I2.pin p hp).1;rw [z] at q;exact Nat.lt_irrefl _ (Nat.lt_of_lt_of_le q hC)
theorem zjy {i:Nat}{y:Str}{py spos:Pos}(S:zQ X x ys js scope cl)(hc:X.calm=true)(hi:PI X (.Name x px) iter wi)(ht:∀s₀ H₀ ex,PTs (cxC X (x::ys) scope cl s₀ H₀ ex) ifs tt)(he:∀s₀ H₀ ex,PE (cxC X (x::ys) scope cl s₀ H₀ ex) elt te)
  (hN:X.N.Nodup) (hy:X.N[i]? =some y) (hx:Loc X.env.scope y) (hsw:swapsWith (.ListComp elt [⟨.Name x px,iter,ifs,0⟩] scope pos) (some (.Name y py)) spos.line X.env=pure true)
  (hf:X.fn y=true∨X.env.scope.names.lookup y=some .local:=by first | exact .inl rfl | exact .inr rfl | assumption)
  (hs:∀x,foldedSetIterable iter X.env x=pure x:=by intro _;rfl):PS X (.Assign [.Name y py] (.ListComp elt [⟨.Name x px,iter,ifs,0⟩] scope pos) spos) (tAsg (zkZ wi js tt te) (zbS i)):=by
 intro pins s σ H D I h
 rw [exec_Assign_Name_used _ _ _ _ hsw]
 refine wpAny_bind (wpAny_standAt (wpAny_bind ?_))
 show wpAny _ X.A (do let _←comprehension (.ListComp elt [⟨.Name x px,iter,ifs,0⟩] scope pos) scope X.env _ (newList []) false (eval iter X.env) (some (assign (.Name y py) X.env))) _ _ s
 refine wpAny_bind (wpAny_mono (wpAny_comprehension_free (use:=some (assign (.Name y py) X.env)) (Q:=fun _ s'=>SP X pins D .next s') rfl hs S.clos S.kind S.names
  (thn (hi pins s σ H _ I h) fun v s1 h1=>thn h1 fun itv s2 h2=>?_)) (fun _ s' hq=>wpAny_pure (wpAny_pure hq)) fun _ _ e=>e)
 obtain ⟨it,fp,tn,J,H2,e,I2,T,st2,f2,q⟩:=h2
 subst e
 refine zfL (Q:=fun x H1=>zbS i x σ H1 D.nx) (R:=fun acc C=>compPost (model X.prog X.w) X.A X.xe (some (assign (.Name y py) X.env)) (fun _ s'=>SP X pins D .next s') acc C) S hc ht he I2 T st2 f2 q fun p C H' s' m hC hn hf' I' q'=>?_
 have neL:C≠X.env.locals:=Nat.ne_of_gt (Nat.lt_of_lt_of_le I2.lt hC)
 have nfs:C∉X.fs:=I2.nofs hC
 have hn0:=hn
 obtain ⟨o,es,ep,ho,hd,r⟩:=hn
 have Ip:Inv X (pins++ [(C,o)]) σ H' s':=I'.pins_of fun p hp=>(List.mem_append.mp hp).elim (fun z=>I'.pin p (List.mem_append_right _ z)) fun z=>by
  have e:p=(C,o):=by simpa using z
  subst e
  exact ⟨ho,hf',neL,nfs,fun v w=>by rw [hd] at w;cases w⟩
 show wpAny _ _ (assign (.Name y py) X.env (.ref p)) _ _ s'
 refine thn (zN (pos:=py) hN hy hx hf _ s' σ H' (.ref p) (.ref p) _ Ip rfl q') fun _ s'' ⟨σ8,H8,I8,q8⟩=>?_
 have pc:=I8.pin (C,o) (List.mem_append_right _ (List.mem_append_right _ (by simp)))
 refine ⟨m,⟨o,es,ep,pc.1,hd,r⟩,fun h' hb=>⟨σ8,H8,?_,q8⟩⟩
 have I9:Inv X pins σ8 H8 s'':=I8.pins_of fun p hp=>I8.pin p (List.mem_append_right _ (List.mem_append_left _ hp))
 exact I9.turned (it:=C) (t':=s''.toks) (fun b o hne e=>hb.extBut b o hne e) pc.2.1 neL (.inr (Nat.le_trans I2.sz hC))
  (fun y c e z=>by obtain ⟨v,w⟩:=I2.cell y c e;subst z;exact Nat.lt_irrefl _ (Nat.lt_of_lt_of_le w.lt hC)) fun p hp z=>by have q:=Heap.lt_size (I2.pin p hp).1;rw [z] at q;exact Nat.lt_irrefl _ (Nat.lt_of_lt_of_le q hC)
end
end L2
namespace L2
open PySem PySem.Spec PyProof.Rows
section
variable {X:Cx}
def zjf (i j:Int):Prop:=0 < j∧j < 10 ^ 100
theorem zjf.log {i j:Int}(h:zjf i j):j.natAbs.log2 < 9000:=by
 have h1:j.natAbs < 10 ^ 100:=by have:=h.1;have:=h.2;omega
 have h2:j.natAbs < 2 ^ 400:=Nat.lt_trans h1 (by decide+kernel)
 have h3:j.natAbs≠0:=by have:=h.1;omega
 have:=(Nat.log2_lt h3).mpr h2
 omega
theorem zb8:OpR X (binaryOp .FloorDiv) (rI zjf fun i j=>.int (i / j)):=opI fun i j _ _ _ _ _ hc q=>by
 rw [←Int.fdiv_eq_ediv_of_nonneg i (Int.le_of_lt hc.1)] at q
 exact floordiv_int (by have:=hc.1;omega) q (.inl (PyProof.noPylong_of_log2 hc.log))
def zma (K:PySem.W.Frag):List V→Hp→VK→Prop:=fun xs H Q=>∃x T t b,xs=[x,.ty T]∧TyOf K H x t∧PySem.W.kitOne K t (.type T)=some b∧Q (.bl b) H
theorem zX:zbh X (.builtin "isinstance") (zma X.K):=by
 intro pins s σ H xs us Q I r h
 obtain ⟨x,T,t,b,rfl,ty,e,q⟩:=h
 obtain ⟨u,w',rfl,ru,rw'⟩:=vals2 r
 cases (show w'=Value.type T from rw')
 exact zhp I ru ty e fun tk=>⟨.bl b,H,I.tok tk,rfl,q⟩
example (K:PySem.W.Frag):PySem.W.kitOne K (.type "NoneType") (.type "int")=some false:=by rfl
example (K:PySem.W.Frag):PySem.W.kitOne K (.type "int") (.type "int")=some true:=by rfl
example (K:PySem.W.Frag):PySem.W.kitOne K (.type "tuple") (.type "str")=some false:=by rfl
example (K:PySem.W.Frag):PySem.W.kitOne K (.type "bool") (.type "int")=some true:=by rfl
example (K:PySem.W.Frag):PySem.W.kitOne K (.type "str") (.type "bool")=some false:=by rfl
def Its (x:Str):It:=⟨fun i _=>i < x.cps.size,fun i H v H'=>H'=H∧∃c,x.cps[i]? =some c∧v=.str ⟨#[c]⟩,fun i _=>x.cps.size≤i⟩
theorem zfn {P:Program}{w:World}{K:PySem.W.Frag}{tg:Expr}{x:Str}{it:Addr}{n:String}{t:Tok}(hn:["enumerate","zip","dict_itemiterator","dict_reverseitemiterator","odict_iterator","itertools.zip_longest","itertools.pairwise"].contains n=false)
  (W:∀A':Around,A'.handled=none→Walks P w A' it [it] [it] x.cps.size (SignAt x) (fun i h=>h.IsStrIter it n x t i))
  (E0:∀(A':Around) (s:Shared) (Q:Option Value→Shared→Prop) (E:Value→Shared→Prop) (i:Nat),A'.handled=none→s.heap.IsStrIter it n x t i→x.cps.size≤i→(∀h',(∀b o,b≠it→s.heap.get? b=some o→h'.get? b=some o)→Q none {s with heap:=h'})→wpAny (model P w) A' (pyNext (.ref it)) Q E s)
  (S0:∀(A':Around) (s:Shared) (Q:Value→Shared→Prop) (E:Value→Shared→Prop) (i:Nat),s.heap.IsStrIter it n x t i→Q (.ref it) s→wpAny (model P w) A' (pyIter (.ref it)) Q E s):
  Turn P w K tg (Its x) [it] it (fun i h=>h.IsStrIter it n x t i) where
 mem:=by simp
 obj:=fun i h st b hb=>by
  have e:b=it:=by simpa using hb
  subst e
  obtain ⟨o,e,c,d⟩:=st
  exact ⟨o,e,fun v z=>by rw [d] at z;cases z⟩
 keep:=fun i h h' st k=>by
  obtain ⟨o,e,r⟩:=st
  exact ⟨o,k it (by simp) o e,r⟩
 item:=by
  intro X hP hw hK hc i pins s σ H E I hf st hg
  subst hP hw hK
  obtain ⟨f0,f1,f2,f3,f4,f5⟩:=hf it (by simp)
  refine (W X.A (I.ok.hd hc)).item i s _ _ hg st fun v h' tk hv st' kk=>?_
  obtain ⟨c,u,hc',rfl⟩:=hv
  have I1:Inv X pins σ H {s with heap:=h',toks:=tk}:=I.turned (fun b o hb e=>kk b o (by simpa using hb) e) f0 f1 f3 f4 f5
  obtain ⟨o,e,cl,d⟩:=id st'
  exact ⟨_,rfl,zeu (s:={s with heap:=h',toks:=tk}) e cl d hn ⟨.str ⟨#[c]⟩,H,I1,⟨u,rfl⟩,⟨rfl,c,hc',rfl⟩,st',fun b hb=>(hf b hb).1⟩⟩
 done:=by
  intro X hP hw hK hc i pins s σ H E I hf st hg
  subst hP hw hK
  obtain ⟨f0,f1,f2,f3,f4,f5⟩:=hf it (by simp)
  exact E0 X.A s _ _ i (I.ok.hd hc) st hg fun h' eb=>⟨rfl,I.turned (t':=s.toks) (fun b o hb e=>eb b o hb e) f0 f1 f3 f4 f5⟩
 self:=fun A i s Q E st h=>S0 A s Q E i st h
def iStr (tl:TE):TI:=fun σ H R=>tl σ H fun x H1=>∃z,x=.str z∧R (Its z) H1
theorem zl2 {tg l:Expr}{tl:TE}(hl:PE X l tl):PI X tg l (iStr tl):=by
 intro pins s σ H R I h
 refine thn (hl pins s σ H _ I h) fun v s1 ⟨x,H1,I1,r1,q1⟩=>?_
 obtain ⟨z,rfl,q⟩:=q1
 obtain ⟨t,rfl⟩:=r1
 have fp:∀b∈ [s1.heap.objs.size],FpOk X pins H1 b:=fun b hb=>by
  have e:b=s1.heap.objs.size:=by simpa using hb
  subst e
  exact I1.fpOk (Nat.le_refl _) (I1.hok.fresh (Nat.le_refl _))
 cases ha:z.cps.all (· < 128)
 ·refine wpAny_pyIter_wide ha ?_
  exact ⟨s1.heap.objs.size,[s1.heap.objs.size],_,_,H1,rfl,I1.kept (t':=s1.toks) fun b o e=>Heap.get?_push_of_some _ e,
   zfn (n:= "str_iterator") (t:=t) (by decide) (fun A' hA=>Walks.strWide hA _ z t) (fun A' s Q E i hA st hi hQ=>wpAny_pyNext_wide_end hA st (by simpa using hi) fun h' he'=>hQ h' fun b o hb e=>he' b o hb e) (fun A' s Q E i st hQ=>wpAny_pyIter_striter_wide st hQ),
   ⟨_,Heap.get?_push_size _ rfl,rfl,rfl⟩,fp,q⟩
 ·refine wpAny_pyIter_ascii ha ?_
  exact ⟨s1.heap.objs.size,[s1.heap.objs.size],_,_,H1,rfl,I1.kept (t':=s1.toks) fun b o e=>Heap.get?_push_of_some _ e,
   zfn (n:= "str_ascii_iterator") (t:=t) (by decide) (fun A' hA=>Walks.strAscii hA _ z t) (fun A' s Q E i hA st hi hQ=>wpAny_pyNext_ascii_end hA st (by simpa using hi) fun h' he'=>hQ h' fun b o hb e=>he' b o hb e) (fun A' s Q E i st hQ=>wpAny_pyIter_striter_ascii st hQ),
   ⟨_,Heap.get?_push_size _ rfl,rfl,rfl⟩,fp,q⟩
theorem zj0 {z:Str}{g:TG}{tb:TS}{D:Ends}{σ:St}{H:Hp}(Pv:Nat→St→Hp→Prop)(h0:Pv 0 σ H)
  (hs:∀i c σ H,z.cps[i]? =some c→Pv i σ H→g (.str ⟨#[c]⟩) σ H fun σ2 H2=>tb {D with nx:=Pv (i+1),ct:=Pv (i+1),bk:=D.nx} σ2 H2) (hd:∀σ H,Pv z.cps.size σ H→D.nx σ H):
  ∃W:Nat→Nat→St→Hp→Prop,(∃m,W 0 m σ H)∧∀i m σ H,W i m σ H→
   ((Its z).stop i H∧D.nx σ H)∨((Its z).go i H∧∃N:St→Hp→Prop,(∀σ' H',N σ' H'→∃m',m' < m∧W (i+1) m' σ' H')∧∀x H',(Its z).yld i H x H'→g x σ H' fun σ2 H2=>tb {D with nx:=N,ct:=N,bk:=D.nx} σ2 H2):=by
 refine ⟨fun i m σ H=>m=z.cps.size - i∧i≤z.cps.size∧Pv i σ H,⟨z.cps.size,by simp,Nat.zero_le _,h0⟩,?_⟩
 rintro i m σ H ⟨rfl,hi,p⟩
 by_cases hlt:i < z.cps.size
 ·refine .inr ⟨hlt,Pv (i+1),fun σ' H' p'=>⟨z.cps.size - (i+1),by omega,rfl,hlt,p'⟩,fun x H' y=>?_⟩
  obtain ⟨e,c,ec,ex⟩:=y
  subst e ex
  exact hs i c σ _ ec p
 ·have e:i=z.cps.size:=by omega
  subst e
  exact .inl ⟨Nat.le_refl _,hd σ H p⟩
def Itrs (lo st:Int)(n:Nat):It:=⟨fun i _=>i < n,fun i H x H'=>H'=H∧x=.int (lo+i * st),fun i _=>n≤i⟩
theorem zfj {P:Program}{w:World}{K:PySem.W.Frag}{tg:Expr}(it:Addr)(lo st:Int)(n:Nat):Turn P w K tg (Itrs lo st n) [it] it (fun i h=>IsRangeIter h it (lo+(i:Nat) * st) ((n:Int) - (i:Nat)) st) where
 mem:=by simp
 obj:=fun i h st b hb=>by
  have e:b=it:=by simpa using hb
  subst e
  exact ⟨_,st,fun v z=>by
   have z':Data.fields _=Data.cell v:=z
   cases z'⟩
 keep:=fun i h h' st k=>k it (by simp) _ st
 item:=by
  intro X hP hw hK hc i pins s σ H E I hf st' hg
  subst hP hw hK
  obtain ⟨f0,f1,f2,f3,f4,f5⟩:=hf it (by simp)
  have W:=Walks.range (prog:=X.prog) (w:=X.w) (I.ok.hd hc) it lo st n
  refine W.item i s _ _ hg st' fun v h' tk hv st'' kk=>?_
  obtain ⟨t,rfl⟩:=hv
  have I1:Inv X pins σ H {s with heap:=h',toks:=tk}:=I.turned (fun b o hb e=>kk b o (by simpa using hb) e) f0 f1 f3 f4 f5
  exact ⟨_,rfl,zeu (s:={s with heap:=h',toks:=tk}) (n:= "range_iterator") st'' rfl rfl (by decide) ⟨.int (lo+i * st),H,I1,⟨t,rfl⟩,⟨rfl,rfl⟩,st'',fun b hb=>(hf b hb).1⟩⟩
 done:=by
  intro X hP hw hK hc i pins s σ H E I hf st' hg
  subst hP hw hK
  obtain ⟨f0,f1,f2,f3,f4,f5⟩:=hf it (by simp)
  exact wpAny_pyNext_range_end (I.ok.hd hc) st' (by have:n≤i:=hg;omega) fun h' eb=>⟨rfl,I.turned (t':=s.toks) (fun b o hb e=>eb b o hb e) f0 f1 f3 f4 f5⟩
 self:=fun _ _ _ _ _ st h=>wpAny_pyIter_rangeiter st h
def zml (ta:TA):TI:=fun σ H R=>ta σ H fun vs H1=>∃j c:Int,vs=[.int 0,.int j,.int c]∧0≤j∧j < 2 ^ 60∧0 < c∧c < 1000∧R (Itrs 0 c ((j+c - 1) / c).toNat) H1
theorem zdY {j c:Int}(h0:0≤j)(hc:0 < c):Builtin.Range.rangeSize 0 j c=(j+c - 1) / c:=by
 unfold Builtin.Range.rangeSize
 rw [if_pos hc]
 by_cases h:(0:Int) < j
 ·rw [if_pos h]
  have e:j+c - 1=(j - 0 - 1)+c * 1:=by omega
  rw [e,Int.add_mul_ediv_left _ _ (by omega)]
 ·rw [if_neg h]
  have e:j=0:=by omega
  subst e
  rw [Int.ediv_eq_zero_of_lt (by omega) (by omega)]
theorem vals3 {x y z:V}{us:List Value}(r:Vals [x,y,z] us):∃u v w',us=[u,v,w']∧RelV x u∧RelV y v∧RelV z w':=by
 cases r with
 | cons r1 r=>cases r with
  | cons r2 r=>cases r with
   | cons r3 r=>cases r;exact ⟨_,_,_,rfl,r1,r2,r3⟩
theorem zfs {j c:Int}(h0:0≤j)(h1:j < 2 ^ 60)(hc:0 < c)(hc2:c < 1000):Builtin.Range.small 0 j c=true:=by
 have b1:(j+c - 1) / c≤j+c - 1:=Int.ediv_le_self _ (by omega)
 have b2:0≤(j+c - 1) / c:=Int.ediv_nonneg (by omega) (by omega)
 unfold Builtin.Range.small
 rw [zdY h0 hc]
 simp only [Builtin.Range.rangeFitsLong,Bool.and_eq_true,Bool.or_eq_true,decide_eq_true_eq,beq_iff_eq]
 generalize (j+c - 1) / c=d at b1 b2 ⊢
 have hc':c > 0:=hc
 simp only [hc',if_true,Bool.and_eq_true,decide_eq_true_eq]
 omega
theorem zhL {tg a b c:Expr}{ta:TA}{p pos:Pos}(hg:Gl X "range") (hm:X.mg "range" =none) (ha:PA X [a,b,c] ta) (hs:starEach [a,b,c] X.env=[(false,eval a X.env),(false,eval b X.env),(false,eval c X.env)]:=by rfl)
  (hs2:starEach [b,c] X.env=[(false,eval b X.env),(false,eval c X.env)]:=by rfl):PI X tg (.Call (.Name "range" p) [a,b,c] [] pos) (zml ta):=by
 intro pins s σ H R I h
 refine Call_ (zbW I hg hm boot_range (PyProof.Rows.callWith_type1 (thn (ha pos pins s σ H _ I h) fun us s1 ⟨vs,H1,I1,r1,q1⟩=>?_) (by rw [hs,hs2]) (by rw [hs2];rfl)))
 obtain ⟨j,c,rfl,h0,h1,hc,hc2,q⟩:=q1
 obtain ⟨u,v,w',rfl,⟨t1,rfl⟩,⟨t2,rfl⟩,⟨t3,rfl⟩⟩:=vals3 r1
 refine call_range_3 (by omega) ?_ (.inl (PyProof.noPylong_small (by omega)))
 refine wpAny_pyIter_range (IsRange.new ..) (zfs h0 h1 hc hc2) ?_
 have I2:Inv X pins σ H1 {s1 with heap:=s1.heap.push {cls:=.type "range",data:=.fields #[.int 0 t1,.int j t2,.int c t3]}}:=I1.kept (t':=s1.toks) fun b o e=>Heap.get?_push_of_some _ e
 refine ⟨_,[_],_,_,H1,rfl,I2.kept (t':=s1.toks) fun b o e=>Heap.get?_push_of_some _ e,zfj _ 0 c ((j+c - 1) / c).toNat,?_,fun b hb=>?_,q⟩
 ·have b2:0≤(j+c - 1) / c:=Int.ediv_nonneg (by omega) (by omega)
  have e1:(0:Int)+((0:Nat):Int) * c=0:=by simp
  have e2:(((((j+c - 1) / c).toNat:Nat):Int) - ((0:Nat):Int))=Builtin.Range.rangeSize 0 j c:=by rw [zdY h0 hc];omega
  show IsRangeIter _ _ ((0:Int)+((0:Nat):Int) * c) (((((j+c - 1) / c).toNat:Nat):Int) - ((0:Nat):Int)) c
  rw [e1,e2]
  exact Heap.get?_push_size _ rfl
 ·have e:=List.mem_singleton.mp hb
  subst e
  exact I2.fpOk (Nat.le_refl _) (I2.hok.fresh (Nat.le_refl _))
end
end L2
namespace L2
open PySem PySem.Spec PyProof.Rows
def cutS (x:Str)(lo hi:Option Int):Str:=⟨((x.cps.toList.drop (HT.sIx x.length 0 lo)).take (HT.sIx x.length x.length hi - HT.sIx x.length 0 lo)).toArray⟩
theorem ziH (l:List Nat)(i k:Nat):(List.range k).filterMap (fun m=>l[i+m]?)=(l.drop i).take k:=by
 induction k with
 | zero=>simp
 | succ k ih=>
  rw [List.range_succ,List.filterMap_append,ih]
  by_cases h:i+k < l.length
  ·have e:l[i+k]? =some l[i+k]:=List.getElem?_eq_getElem h
   rw [List.take_add_one]
   simp [List.getElem?_drop,e]
  ·have e:l[i+k]? =none:=List.getElem?_eq_none (by omega)
   have e2:((l.drop i).take (k+1))=(l.drop i).take k:=by
    rw [List.take_of_length_le (by rw [List.length_drop];omega),List.take_of_length_le (by rw [List.length_drop];omega)]
   rw [e2]
   simp [e]
theorem zhk (lo hi:Option Int)(n:Nat):Builtin.Str.strSliceIndices lo hi 1 n=(List.range (HT.sIx n n hi - HT.sIx n 0 lo)).map fun k=>HT.sIx n 0 lo+k:=by
 have c0:∀(v:Int) (d:Nat),(max 0 (min (if v < 0 then v+(n:Int) else v) (n:Int)))=((HT.sIx n d (some v):Nat):Int):=fun v d=>by
  rw [←HT.clip_eq v n d]
  by_cases h:v < 0
  ·simp only [if_pos h];omega
  ·simp only [if_neg h];omega
 have key:∀a b:Nat,sliceRange (a:Int) (b:Int) 1=(List.range (b - a)).map fun k=>a+k:=fun a b=>by
  unfold sliceRange
  have e1:(if (1:Int) > 0 then (if (a:Int) < (b:Int) then ((b:Int) - (a:Int)+1 - 1) / 1 else 0) else (if (a:Int) > (b:Int) then ((a:Int) - (b:Int) - 1 - 1) / (-1) else 0)).toNat=b - a:=by
   rw [if_pos (by decide)]
   split
   ·rw [Int.ediv_one];omega
   ·omega
  show List.map _ (List.range (if (1:Int) > 0 then (if (a:Int) < (b:Int) then ((b:Int) - (a:Int)+1 - 1) / 1 else 0) else (if (a:Int) > (b:Int) then ((a:Int) - (b:Int) - 1 - 1) / (-1) else 0)).toNat)=_
  rw [e1]
  refine List.map_congr_left fun k _=>?_
  show ((a:Int)+1 * (k:Int)).toNat=a+k
  omega
 unfold Builtin.Str.strSliceIndices
 simp only [show (1:Int) > 0 by decide,if_true]
 cases lo with
 | none=>
  cases hi with
  | none=>exact key 0 n
  | some v=>dsimp only;rw [c0 v n];exact key 0 _
 | some u=>
  cases hi with
  | none=>dsimp only;rw [c0 u 0];exact key _ n
  | some v=>dsimp only;rw [c0 u 0,c0 v n];exact key _ _
theorem zhE (x:Str)(lo hi:Option Int):Txt.slice x lo hi=cutS x lo hi:=by
 have h1:=HT.sIx_le x.length 0 (Nat.zero_le _) lo
 have h2:=HT.sIx_le x.length x.length (Nat.le_refl _) hi
 have hn:x.cps.toList.length=x.length:=Array.length_toList
 have e:((Builtin.Str.strSliceIndices lo hi 1 x.length).filterMap (x.cps[·]?))=(x.cps.toList.drop (HT.sIx x.length 0 lo)).take (HT.sIx x.length x.length hi - HT.sIx x.length 0 lo):=by
  rw [zhk,List.filterMap_map,←ziH]
  refine congrArg (fun f=>List.filterMap f _) ?_
  funext m
  show x.cps[_]? =x.cps.toList[_]?
  rw [Array.getElem?_toList]
 unfold Txt.slice cutS
 split
 ·rename_i h
  have hl:(Builtin.Str.strSliceIndices lo hi 1 x.length).length=x.length:=by simpa using h
  rw [zhk,List.length_map,List.length_range] at hl
  have a0:HT.sIx x.length 0 lo=0∨x.length=0:=by omega
  rcases a0 with a0 | a0
  ·rw [a0,List.drop_zero,Nat.sub_zero,List.take_of_length_le (by omega)]
  ·have en:x.cps.toList=[]:=List.eq_nil_of_length_eq_zero (by omega)
   rw [en,List.drop_nil,List.take_nil]
   have:x.cps= #[]:=by rw [←Array.toList_inj];exact en
   rcases x with ⟨c⟩
   rw [show c= #[] from this]
 ·rw [e]
section
variable {X:Cx}
def rSlS:V→Option Int→Option Int→Hp→VK→Prop:=fun x lo hi H Q=>∃z,x=.str z∧z.length≤sizeLine∧Q (.str (cutS z lo hi)) H
theorem zlm:SlR X rSlS:=by
 intro pins s σ H x v vl vu lo hi sl Q I rx hs pl pu h
 obtain ⟨z,rfl,hz,q⟩:=h
 obtain ⟨t,rfl⟩:=rx
 refine ⟨"str",_,F.slot_str_getitem.lookup,typeIs_str _ _ _,?_⟩
 have main:∀(l u:Option (Int ×Tok)),vl=partValue l→vu=partValue u→lo=l.map (·.1)→hi=u.map (·.1)→wpAny (model X.prog X.w) X.A (getItem (.str z t) (.ref sl)) (EP X pins σ Q) X.xe s:=fun l u e1 e2 e3 e4=>by
  subst e1 e2 e3 e4
  refine wpAny_getItem_str_slice (l:=l) (u:=u) (st:=none) hs rfl (post_val_or_str ⟨Nat.le_trans (Txt.slice_le z _ _) hz,fun t' k=>?_⟩)
  show EP X pins σ Q (.str (Txt.slice z (l.map (·.1)) (u.map (·.1))) t') _
  rw [zhE]
  exact ⟨.str _,H,I.tok k,⟨_,rfl⟩,q⟩
 cases pl with
 | none=>
  cases pu with
  | none=>exact main none none rfl rfl rfl rfl
  | int j u=>exact main none (some (j,u)) rfl rfl rfl rfl
 | int i t'=>
  cases pu with
  | none=>exact main (some (i,t')) none rfl rfl rfl rfl
  | int j u=>exact main (some (i,t')) (some (j,u)) rfl rfl rfl rfl
end
end L2
namespace L2
open PySem PySem.Spec PyProof.Rows
structure Dfn (K:PySem.W.Frag)(mg:Str→Option Value)(x:Str)(st:Stmt)(ps:List Str):Prop where
 ex:∃f fd,Fun K x x st f fd∧Binds K fd ps []∧mg x=some (.ref f)
structure Fn (P:Program)(w:World)(K:PySem.W.Frag)(mg:Str→Option Value)(base:Heap)(x:Str)(k:Nat)(ps:List Str)(sp:Sp):Prop where
 ex:∃f fd,FnOk P w K mg base CX0 k f fd ps sp∧Binds K fd ps []∧PySem.W.keepIn K (.ref f)=true∧mg x=some (.ref f)
section
variable {P:Program}{w:World}{K:PySem.W.Frag}{mg:Str→Option Value}{base:Heap}{x:Str}{st:Stmt}{ps N:List Str}{sp sp':Sp}{k:Nat}
theorem Fn.mono {j:Nat}(F:Fn P w K mg base x j ps sp)(h:j≤k):Fn P w K mg base x k ps sp:=by
 obtain ⟨f,fd,a,b⟩:=F.ex
 exact ⟨f,fd,a.mono h,b⟩
theorem Fn.imp (F:Fn P w K mg base x k ps sp)(h:∀vs H Q E,sp' vs H Q E→sp vs H Q E):Fn P w K mg base x k ps sp':=by
 obtain ⟨f,fd,a,b⟩:=F.ex
 exact ⟨f,fd,a.imp h,b⟩
theorem Dfn.ok (D:Dfn K mg x st ps)(S:zu N ps (zd st))(len:∀vs H Q E,sp vs H Q E→vs.length=ps.length)
  (hbody:∀(f:Addr) (cdv:Value) (A:Around) (outer:List Env) (s:Shared) (H:Hp) (vs:List V) (Q:VK) (E:XK),Room k (A.deeper (envOfC x (zd st) s.heap.objs.size f cdv))→sp vs H Q E→
   ∃t,PSs (cxOf CX0 P w K mg base N x (zd st) f cdv A outer s H E).nox (zo st) t∧t {nx:=fun _ H'=>Q .non H',rt:=Q} (start N vs) H):Fn P w K mg base x (k+1) ps sp:=by
 obtain ⟨f,fd,F,b,m⟩:=D.ex
 exact ⟨f,fd,F.ok S len (fun cdv A outer s H vs Q E hr h=>hbody f cdv A outer s H vs Q E hr h),b,F.kp,m⟩
theorem Dfn.never (D:Dfn K mg x st ps)(no:∀vs H Q E,¬sp vs H Q E):Fn P w K mg base x k ps sp:=by
 obtain ⟨f,fd,F,b,m⟩:=D.ex
 exact ⟨f,fd,⟨fun vs H Q E h=>absurd h (no vs H Q E),fun A outer s H args us vs Q E _ _ _ _ h=>absurd h (no vs H Q E)⟩,b,F.kp,m⟩
end
section
variable {X:Cx}{x:Str}{ps:List Str}{sp:Sp}{k k':Nat}{e:Expr}{es:List Expr}{t:TA}{p pos:Pos}
theorem zA (F:Fn X.prog X.w X.K X.mg X.base x k ps sp)(hr:Room k' X.A)(hle:k≤k')(hg:Gl X x)(ha:PA X (e::es) t)(hd:(x==("__debug__" :Str))=false:=by decide)
  (he:starEach (e::es) X.env=(false,eval e X.env)::starEach es X.env:=by rfl) (hpl:∀pos,(backTo pos (starEach es X.env)).any (·.1)=false:=by intro _;rfl):PE X (.Call (.Name x p) (e::es) [] pos) (zjD sp [] E0 t):=by
 obtain ⟨f,fd,a,b,kp,m⟩:=F.ex
 exact zhi a (hr.mono hle) hg m kp b .nil zi5 ha hd he (hpl _)
end
section
variable {X:Cx}
end
end L2
namespace Pv
open PySem L2
inductive Th where
 | non
 | int (i:Int)
 | str (x:Str)
 | tup (ts:List Th)
mutual
def nodes:Th→Nat
 | .non=>1
 | .int _=>1
 | .str _=>1
 | .tup ts=>1+zcb ts
def zcb:List Th→Nat
 | []=>0
 | t::r=>nodes t+zcb r
end
mutual
def dep:Th→Nat
 | .non=>0
 | .int _=>0
 | .str _=>0
 | .tup ts=>depL ts+1
def depL:List Th→Nat
 | []=>0
 | t::r=>max (dep t) (depL r)
end
def Sign (c:Nat):Prop:=32≤c∧c≤126∧c≠37
def zio (x:Str):Prop:=x.length≤60∧∀c∈x.cps.toList,Sign c
mutual
def Wf:Th→Prop
 | .non=>True
 | .int i=> -(10 ^ 30)≤i∧i≤10 ^ 30
 | .str x=>zio x
 | .tup ts=>ts.length≤40∧WfL ts
def WfL:List Th→Prop
 | []=>True
 | t::r=>Wf t∧WfL r
end
theorem WfL.get:∀{ts:List Th} {i:Nat} {t:Th},WfL ts→ts[i]? =some t→Wf t
 | [],_,_,_,e=>by simp at e
 | u::r,0,t,h,e=>by simp at e;subst e;exact h.1
 | u::r,i+1,t,h,e=>WfL.get (i:=i) h.2 (by simpa using e)
theorem WfL.snoc:∀{ts:List Th} {t:Th},WfL ts→Wf t→WfL (ts++ [t])
 | [],_,_,h=>⟨h,trivial⟩
 | _::_,_,h,h'=>⟨h.1,WfL.snoc h.2 h'⟩
theorem zaP:∀{ts:List Th} {i:Nat} {t:Th},ts[i]? =some t→dep t≤depL ts
 | [],_,_,e=>by simp at e
 | u::r,0,t,e=>by simp at e;subst e;exact Nat.le_max_left _ _
 | u::r,i+1,t,e=>Nat.le_trans (zaP (i:=i) (by simpa using e)) (Nat.le_max_right _ _)
inductive Rep (H:Hp):Th→V→Prop where
 | non:Rep H .non .non
 | int (i:Int):Rep H (.int i) (.int i)
 | str (x:Str):Rep H (.str x) (.str x)
 | tup {a:Addr} {xs:List V} {ts:List Th} (e:H a=some (.tup xs)) (l:xs.length=ts.length) (h:∀(i:Nat) (x:V) (t:Th),xs[i]? =some x→ts[i]? =some t→Rep H t x):Rep H (.tup ts) (.ref a)
def Tups (H H':Hp):Prop:=∀b xs,H b=some (.tup xs)→H' b=some (.tup xs)
theorem Rep.keep {H H':Hp}{t:Th}{v:V}(r:Rep H t v)(k:Tups H H'):Rep H' t v:=by
 induction r with
 | non=>exact .non
 | int i=>exact .int i
 | str x=>exact .str x
 | tup e l h ih=>exact .tup (k _ _ e) l ih
def Frm (ws:List Addr)(H H':Hp):Prop:=∀b o,b∉ws→H b=some o→H' b=some o
theorem Frm.refl {ws:List Addr}{H:Hp}:Frm ws H H:=fun _ _ _ h=>h
theorem Frm.trans {ws:List Addr}{H H1 H2:Hp}(a:Frm ws H H1)(b:Frm ws H1 H2):Frm ws H H2:=fun c o n h=>b c o n (a c o n h)
theorem Frm.mono {ws ws':List Addr}{H H1:Hp}(a:Frm ws H H1)(h:∀b∈ws,b∈ws'):Frm ws' H H1:=fun c o n e=>a c o (fun z=>n (h c z)) e
theorem Frm.new {ws:List Addr}{H:Hp}{p:Addr}{o:HO}(h:H p=none):Frm ws H (upd H p o):=fun b u _ q=>by rw [zk (zl q h)];exact q
theorem Frm.upd {ws:List Addr}{H:Hp}{p:Addr}{o:HO}(h:p∈ws):Frm ws H (upd H p o):=fun b u n q=>by rw [zk (fun z=>n (by rw [z];exact h))];exact q
theorem Frm.same {H H':Hp}(a:Frm [] H H'):Same H H':=fun b o h=>a b o (by simp) h
theorem Frm.of {ws:List Addr}{H H':Hp}(a:Same H H'):Frm ws H H':=fun b o _ h=>a b o h
theorem Frm.at {ws:List Addr}{H H':Hp}{b:Addr}{o:HO}(a:Frm ws H H')(h:H b=some o)(n:b∉ws):H' b=some o:=a b o n h
def NoT (ws:List Addr)(H:Hp):Prop:=∀b∈ws,∀xs,H b≠some (.tup xs)
theorem Frm.tups {ws:List Addr}{H H':Hp}(a:Frm ws H H')(n:NoT ws H):Tups H H':=fun b xs e=>a b _ (fun z=>n b z xs e) e
theorem Same.tups {H H':Hp}(a:Same H H'):Tups H H':=fun b xs e=>a b _ e
theorem Tups.trans {H H1 H2:Hp}(a:Tups H H1)(b:Tups H1 H2):Tups H H2:=fun c xs e=>b c xs (a c xs e)
theorem Tups.upd {H:Hp}{p:Addr}{o:HO}(h:∀xs,H p≠some (.tup xs)):Tups H (upd H p o):=fun b xs e=>by rw [zk (fun z=>h xs (by rw [←z];exact e))];exact e
theorem Tups.new {H:Hp}{p:Addr}{o:HO}(h:H p=none):Tups H (L2.upd H p o):=Tups.upd fun xs e=>by rw [h] at e;cases e
def ziw (H:Hp)(row:Addr):Prop:=∃a m:Int,H row=some (.lst [.int a,.int m])∧(m=0∨(m=1∧0≤a∧a < 536870909))
theorem ziw.keep {H H':Hp}{row:Addr}{ws:List Addr}(r:ziw H row)(f:Frm ws H H')(n:row∉ws):ziw H' row:=by
 obtain ⟨a,m,e,h⟩:=r
 exact ⟨a,m,f row _ n e,h⟩
end Pv
namespace L2
open PySem PySem.Spec PyProof.Rows
section
variable {X:Cx}{x y:Str}{scope:Scope}{j:Nat}{c:Addr}
theorem zbY {env:Env}{p:Str ×NameKind}(h:p∈(relabel scope env).names):∃q∈scope.names,p.1=q.1∧(p=q∨q.2=.free):=by
 obtain ⟨q,hq,e⟩:=List.mem_map.mp h
 obtain ⟨n,k⟩:=q
 refine ⟨(n,k),hq,?_⟩
 dsimp only at e
 split at e
 ·rename_i hc
  subst e
  refine ⟨rfl,.inr ?_⟩
  have:=(Bool.and_eq_true _ _).mp ((Bool.and_eq_true _ _).mp hc).1
  simpa using this.1
 ·subst e
  exact ⟨rfl,.inl rfl⟩
theorem zQ.zero (kind:scope.kind=.function)(nf:∀y∈scope.names,y.2≠ .free)(nc:∀y∈scope.names,y.2≠ .cell)(nm:∀y∈scope.names,y.2=.local→scope.names.lookup y.1=some .local)(tgt:scope.names.lookup x=some .local):
  zQ X x [] [] scope [] where
 clos:=closureFor_none nf
 kind:=kind
 nocell:=nc
 names:=nm
 tgt:=tgt
 nd:=by simp
 sub:=fun p hp=>by simp at hp
 has:=fun p hp hk=>by
  obtain ⟨q,hq,e,h | h⟩:=zbY hp
  ·subst h
   rcases hk with hk | hk
   ·exact absurd hk (nc _ hq)
   ·exact absurd hk (nf _ hq)
  ·exact absurd h (nf _ hq)
 fr:=fun i y e=>by simp at e
 len:=rfl
theorem zQ.one (clos:closureFor scope X.env=pure [(y,c)])(kind:scope.kind=.function)(nc:∀y∈scope.names,y.2≠ .cell)(nm:∀y∈scope.names,y.2=.local→scope.names.lookup y.1=some .local)(tgt:scope.names.lookup x=some .local)
  (ne:x≠y) (cell:X.env.cells.lookup y=some c) (only:∀q∈scope.names,q.2=.free→q.1=y) (hN:X.N[j]? =some y) (hk:X.env.kindOf y=some .cell∨X.env.kindOf y=some .free)
  (hk':(relabel scope X.env).names.lookup y=some .cell∨(relabel scope X.env).names.lookup y=some .free):zQ X x [y] [j] scope [(y,c)] where
 clos:=clos
 kind:=kind
 nocell:=nc
 names:=nm
 tgt:=tgt
 nd:=by simp [ne]
 sub:=fun p hp=>by
  cases List.mem_singleton.mp hp
  exact cell
 has:=fun p hp hk=>by
  obtain ⟨q,hq,e,h | h⟩:=zbY hp
  ·subst h
   rcases hk with hk | hk
   ·exact absurd hk (nc _ hq)
   ·simp [only _ hq hk]
  ·simp [e,only _ hq h]
 fr:=fun i z e=>by
  cases i with
  | zero=>cases e;exact ⟨j,rfl,hN,hk,hk'⟩
  | succ i=>simp at e
 len:=rfl
end
theorem ifT {c:Bool}{A B:Prop}(h:c=true)(a:A):if c=true then A else B:=by rw [if_pos h];exact a
theorem ifF {c:Bool}{A B:Prop}(h:c=false)(b:B):if c=true then A else B:=by rw [if_neg (by rw [h];exact Bool.false_ne_true)];exact b
theorem ifB {c:Bool}{A B:Prop}(a:c=true→A)(b:c=false→B):if c=true then A else B:=by
 cases c with
 | true=>exact ifT rfl (a rfl)
 | false=>exact ifF rfl (b rfl)
theorem za9 {i j:Int}:decide (V.int i=V.int j)=decide (i=j):=by
 by_cases h:i=j
 ·subst h;simp
 ·rw [decide_eq_false h];exact decide_eq_false fun z=>h (V.int.inj z)
end L2
namespace L2
open PySem PySem.Spec PyProof.Rows
section
variable {X:Cx}{K:PySem.W.Frag}
theorem zg5 (h:X.K=K):IxR X (rIxT K):=h ▸ zx
end
end L2
namespace L2
open PySem PySem.Spec PyProof.Rows
section
variable {X:Cx}{x:Str}{ps:List Str}{sp:Sp}{k k':Nat}{p pos:Pos}
end
end L2
namespace L2
open PySem PySem.Spec PyProof.Rows Px
structure FnX (P:Program)(w:World)(K:PySem.W.Frag)(mg:Str→Option Value)(base:Heap)(x:Str)(k:Nat)(ps:List Str)(sp:Sp):Prop where
 ex:∃f fd,FnOk P w K mg base (CX1 P w) k f fd ps sp∧Binds K fd ps []∧PySem.W.keepIn K (.ref f)=true∧mg x=some (.ref f)
structure Mdf (K:PySem.W.Frag)(C:Addr)(m qual:Str)(st:Stmt)(ps:List Str):Prop where
 ex:∃f fd,Fun K m qual st f fd∧Binds K fd ps []∧Meth K C m f
structure Mt (P:Program)(w:World)(K:PySem.W.Frag)(mg:Str→Option Value)(base:Heap)(CX:CXT)(C:Addr)(m:Str)(k:Nat)(ps:List Str)(sp:Sp):Prop where
 ex:∃f fd,FnOk P w K mg base CX k f fd ps sp∧Binds K fd ps []∧Meth K C m f
structure Mkd (K:PySem.W.Frag)(mg:Str→Option Value)(x:Str)(C:Addr)(qual:Str)(st:Stmt)(ps:List Str):Prop where
 ex:∃f fd,Fun K "__init__" qual st f fd∧Binds K fd ps []∧Mk K C f∧mg x=some (.ref C)
structure Mkr (P:Program)(w:World)(K:PySem.W.Frag)(mg:Str→Option Value)(base:Heap)(x:Str)(C:Addr)(k:Nat)(ps:List Str)(sp:Sp):Prop where
 ex:∃f fd,FnOk P w K mg base CX0 k f fd ps sp∧Binds K fd ps []∧Mk K C f∧mg x=some (.ref C)
structure XId (K:PySem.W.Frag)(mg:Str→Option Value)(x:Str)(C:Addr)(qual:Str)(st:Stmt)(ps:List Str):Prop where
 cl:XCls K C
 ex:∃f fd,Fun K "__init__" qual st f fd∧Binds K fd ps []∧PySem.W.findIn K (.ref C) "__init__" =some (some (.ref f))∧PySem.W.isFn K (.ref f)=true∧mg x=some (.ref C)
structure XI (P:Program)(w:World)(K:PySem.W.Frag)(mg:Str→Option Value)(base:Heap)(x:Str)(C:Addr)(k:Nat)(ps:List Str)(sp:Sp):Prop where
 cl:XCls K C
 ex:∃f fd,FnOk P w K mg base CX0 k f fd ps sp∧Binds K fd ps []∧PySem.W.findIn K (.ref C) "__init__" =some (some (.ref f))∧PySem.W.isFn K (.ref f)=true∧mg x=some (.ref C)
structure XP (K:PySem.W.Frag)(mg:Str→Option Value)(x:Str)(C:Addr):Prop where
 cl:XCls K C
 ei:PySem.W.excIn K C bmV "ValueError.__new__" =true
 mg:mg x=some (.ref C)
section
variable {P:Program}{w:World}{K:PySem.W.Frag}{mg:Str→Option Value}{base:Heap}{x m qual:Str}{C:Addr}{st:Stmt}{ps N:List Str}{sp sp':Sp}{k:Nat}{CX:CXT}
theorem FnX.mono {j:Nat}(F:FnX P w K mg base x j ps sp)(h:j≤k):FnX P w K mg base x k ps sp:=by
 obtain ⟨f,fd,a,b⟩:=F.ex
 exact ⟨f,fd,a.mono h,b⟩
theorem Dfn.okX (D:Dfn K mg x st ps)(S:zu N ps (zd st))(len:∀vs H Q E,sp vs H Q E→vs.length=ps.length)
  (hbody:∀(f:Addr) (cdv:Value) (A:Around) (outer:List Env) (s:Shared) (H:Hp) (vs:List V) (Q:VK) (E:XK),Room k (A.deeper (envOfC x (zd st) s.heap.objs.size f cdv))→sp vs H Q E→
   ∃t,PSs (cxOf (CX1 P w) P w K mg base N x (zd st) f cdv A outer s H E) (zo st) t∧t {nx:=fun _ H'=>Q .non H',rt:=Q} (start N vs) H):FnX P w K mg base x (k+1) ps sp:=by
 obtain ⟨f,fd,F,b,m⟩:=D.ex
 exact ⟨f,fd,F.okX S len (fun cdv A outer s H vs Q E hr h=>hbody f cdv A outer s H vs Q E hr h),b,F.kp,m⟩
theorem Mdf.ok (D:Mdf K C m qual st ps)(S:zu N ps (zd st))(len:∀vs H Q E,sp vs H Q E→vs.length=ps.length)
  (hbody:∀(f:Addr) (cdv:Value) (A:Around) (outer:List Env) (s:Shared) (H:Hp) (vs:List V) (Q:VK) (E:XK),Room k (A.deeper (envOfC qual (zd st) s.heap.objs.size f cdv))→sp vs H Q E→
   ∃t,PSs (cxOf CX0 P w K mg base N qual (zd st) f cdv A outer s H E).nox (zo st) t∧t {nx:=fun _ H'=>Q .non H',rt:=Q} (start N vs) H):Mt P w K mg base CX0 C m (k+1) ps sp:=by
 obtain ⟨f,fd,F,b,me⟩:=D.ex
 exact ⟨f,fd,F.ok S len (fun cdv A outer s H vs Q E hr h=>hbody f cdv A outer s H vs Q E hr h),b,me⟩
theorem Mdf.okX (D:Mdf K C m qual st ps)(S:zu N ps (zd st))(len:∀vs H Q E,sp vs H Q E→vs.length=ps.length)
  (hbody:∀(f:Addr) (cdv:Value) (A:Around) (outer:List Env) (s:Shared) (H:Hp) (vs:List V) (Q:VK) (E:XK),Room k (A.deeper (envOfC qual (zd st) s.heap.objs.size f cdv))→sp vs H Q E→
   ∃t,PSs (cxOf (CX1 P w) P w K mg base N qual (zd st) f cdv A outer s H E) (zo st) t∧t {nx:=fun _ H'=>Q .non H',rt:=Q} (start N vs) H):Mt P w K mg base (CX1 P w) C m (k+1) ps sp:=by
 obtain ⟨f,fd,F,b,me⟩:=D.ex
 exact ⟨f,fd,F.okX S len (fun cdv A outer s H vs Q E hr h=>hbody f cdv A outer s H vs Q E hr h),b,me⟩
theorem Mkd.ok (D:Mkd K mg x C qual st ps)(S:zu N ps (zd st))(len:∀vs H Q E,sp vs H Q E→vs.length=ps.length)
  (hbody:∀(f:Addr) (cdv:Value) (A:Around) (outer:List Env) (s:Shared) (H:Hp) (vs:List V) (Q:VK) (E:XK),Room k (A.deeper (envOfC qual (zd st) s.heap.objs.size f cdv))→sp vs H Q E→
   ∃t,PSs (cxOf CX0 P w K mg base N qual (zd st) f cdv A outer s H E).nox (zo st) t∧t {nx:=fun _ H'=>Q .non H',rt:=Q} (start N vs) H):Mkr P w K mg base x C (k+1) ps sp:=by
 obtain ⟨f,fd,F,b,mk,mm⟩:=D.ex
 exact ⟨f,fd,F.ok S len (fun cdv A outer s H vs Q E hr h=>hbody f cdv A outer s H vs Q E hr h),b,mk,mm⟩
theorem XId.ok (D:XId K mg x C qual st ps)(S:zu N ps (zd st))(len:∀vs H Q E,sp vs H Q E→vs.length=ps.length)
  (hbody:∀(f:Addr) (cdv:Value) (A:Around) (outer:List Env) (s:Shared) (H:Hp) (vs:List V) (Q:VK) (E:XK),Room k (A.deeper (envOfC qual (zd st) s.heap.objs.size f cdv))→sp vs H Q E→
   ∃t,PSs (cxOf CX0 P w K mg base N qual (zd st) f cdv A outer s H E).nox (zo st) t∧t {nx:=fun _ H'=>Q .non H',rt:=Q} (start N vs) H):XI P w K mg base x C (k+1) ps sp:=by
 obtain ⟨c,f,fd,F,b,i,n,mm⟩:=D
 exact ⟨c,f,fd,F.ok S len (fun cdv A outer s H vs Q E hr h=>hbody f cdv A outer s H vs Q E hr h),b,i,n,mm⟩
end
section
variable {X:Cx}{CX:CXT}{x m:Str}{C:Addr}{ps:List Str}{sp:Sp}{k k':Nat}{e o:Expr}{es:List Expr}{ta:TE}{t:TA}{p pos apos:Pos}{E:XK}{ES:St→XK}
theorem zaO (F:FnX X.prog X.w X.K X.mg X.base x k ps sp)(hr:Room k' X.A)(hle:k≤k')(hg:Gl X x)(hx:zbA (CX1 X.prog X.w) X E)(ha:PA X (e::es) t)(hd:(x==("__debug__" :Str))=false:=by decide)
  (he:starEach (e::es) X.env=(false,eval e X.env)::starEach es X.env:=by rfl) (hpl:∀pos,(backTo pos (starEach es X.env)).any (·.1)=false:=by intro _;rfl):PE X (.Call (.Name x p) (e::es) [] pos) (zjD sp [] E t):=by
 obtain ⟨f,fd,a,b,kp,m⟩:=F.ex
 exact zhi a (hr.mono hle) hg m kp b .nil hx ha hd he (hpl _)
theorem zlN (F:FnX X.prog X.w X.K X.mg X.base x k ps sp)(hr:Room k' X.A)(hle:k≤k')(hg:Gl X x)(hx:zcU (CX1 X.prog X.w) X ES)(ha:PA X (e::es) t)(hd:(x==("__debug__" :Str))=false:=by decide)
  (he:starEach (e::es) X.env=(false,eval e X.env)::starEach es X.env:=by rfl) (hpl:∀pos,(backTo pos (starEach es X.env)).any (·.1)=false:=by intro _;rfl):PE X (.Call (.Name x p) (e::es) [] pos) (ziX sp ES t):=by
 obtain ⟨f,fd,a,b,kp,m⟩:=F.ex
 exact zji a (hr.mono hle) hg m kp b hx ha hd he (hpl _)
theorem zdf {pl:Sem Bool}(he:PE X o ta)(c:Cls X.K C)(M:Mt X.prog X.w X.K X.mg X.base CX C m k ps sp)(hr:Room k' X.A)(hle:k≤k')(hx:zbA CX X E)(ha:PA X (e::es) t)
  (hst:starEach (e::es) X.env=(false,eval e X.env)::starEach es X.env:=by rfl) (hpl:∀pos,(backTo pos (starEach es X.env)).any (·.1)=false:=by intro _;rfl)
  (ht:eval (.Call (.Attribute o m apos) (e::es) [] pos) X.env=(do
   let ov←eval o X.env
   standAt apos.atName
   let (f,first) ←holding [ov] (getMethod ov m pl)
   callWith pos f first (backTo pos (starEach (e::es) X.env)) (backToKw pos (keywordEach [] X.env))):=by rfl):
  PE X (.Call (.Attribute o m apos) (e::es) [] pos) (zkO C m sp [] E ta t):=by
 obtain ⟨f,fd,a,b,me⟩:=M.ex
 exact zkr he c me a (hr.mono hle) b .nil hx ha hst (hpl _) ht
theorem zhh (M:Mkr X.prog X.w X.K X.mg X.base x C k ps sp)(hr:Room k' X.A)(hle:k+1≤k')(hg:Gl X x)(hd:(x==("__debug__" :Str))=false:=by decide):PE X (.Call (.Name x p) [] [] pos) (zkM C sp [] E0 tNil):=by
 obtain ⟨f,fd,a,b,mk,mm⟩:=M.ex
 exact zje mk a (hr.mono hle) hg mm b .nil zi5 hd
theorem zmh (M:XI X.prog X.w X.K X.mg X.base x C k ps sp)(hr:Room k' X.A)(hle:k+1≤k')(hg:Gl X x)(ha:PA X (e::es) t)(hd:(x==("__debug__" :Str))=false:=by decide)
  (he:starEach (e::es) X.env=(false,eval e X.env)::starEach es X.env:=by rfl) (hpl:∀pos,(backTo pos (starEach es X.env)).any (·.1)=false:=by intro _;rfl):PE X (.Call (.Name x p) (e::es) [] pos) (zkY C sp t):=by
 obtain ⟨c,f,fd,a,b,i,n,mm⟩:=M
 exact zjL c i n a (hr.mono hle) b hg mm ha hd he (hpl _)
end
end L2
namespace L2
open PySem PySem.Spec PyProof.Rows
section
variable {P:Program}{W:World}{A:Around}{E:Value→Shared→Prop}{z:Shared}
theorem zdN {j t:Addr}{n:Nat}{us:Array Value}{v:Value}{Q:Value→Shared→Prop}(hj:z.heap.IsTupleIter j t n)(ht:z.heap.IsTuple t us)(hv:us[n]? =some v)
  (q:∀g,g.IsTupleIter j t (n+1)→Heap.SameBut j z.heap g→Q v {z with heap:=g}):wpAny (model P W) A (Builtin.SmallTypes.nextOf (.ref j)) Q E z:=by
 obtain ⟨oj,ej,cj,dj⟩:=id hj;obtain ⟨ot,et,_,nt,dt⟩:=ht;unfold Builtin.SmallTypes.nextOf
 refine wpAny_bind (wpAny_callSpecial?_slot (name:=Str.ofString "__next__") hj.typeIs F.slot_tuple_iterator_next (wpAny_call_entry F.slot_tuple_iterator_next hj.typeIs F.entry_tuple_iterator_next ?_ (F.args_tuple_iterator_next_1 _)))
 show wpAny _ _ (field (.ref j) 0 >>=_) _ _ z;refine wpAny_bind (wpAny_field ej dj (x:=.ref t) rfl ?_)
 show wpAny _ _ (if (Value.ref t==Value.none)=true then _ else _) _ _ z;rw [if_neg (show¬((Value.ref t==Value.none)=true) from Bool.false_ne_true)]
 show wpAny _ _ (field (.ref j) 1 >>=_) _ _ z;refine wpAny_bind (wpAny_field ej dj (x:=.int n 0) rfl ?_)
 show wpAny _ _ (seqItems? (.ref t) >>=_) _ _ z;refine wpAny_bind (wpAny_seqItems et dt ?_);simp only [Int.toNat_natCast,hv]
 refine wpAny_bind (wpAny_setField ej dj (by simp) (wpAny_pure ⟨v,rfl,wpAny_pure (q _ ⟨_,Heap.get?_update_self _ ej (Obj.isFreed_of_fields (Obj.data_mapFields dj _)),(Obj.cls_mapFields ..).trans cj,by rw [Obj.data_mapFields dj];simp [rawInt]⟩ (Heap.SameBut.update ..))⟩))
theorem zfq {j t:Addr}{n:Nat}{us:Array Value}{Q:Value→Shared→Prop}(hh:A.handled=none)(hj:z.heap.IsTupleIter j t n)(ht:z.heap.IsTuple t us)(hv:us[n]? =none)
  (q:∀g e,Heap.ExtBut j z.heap g→(∃o,g.get? e=some o∧o.cls=.type "StopIteration")→E (.ref e) {z with heap:=g}):wpAny (model P W) A (Builtin.SmallTypes.nextOf (.ref j)) Q E z:=by
 obtain ⟨oj,ej,cj,dj⟩:=id hj;obtain ⟨ot,et,_,nt,dt⟩:=ht;unfold Builtin.SmallTypes.nextOf
 refine wpAny_bind (wpAny_callSpecial?_slot (name:=Str.ofString "__next__") hj.typeIs F.slot_tuple_iterator_next (wpAny_call_entry F.slot_tuple_iterator_next hj.typeIs F.entry_tuple_iterator_next ?_ (F.args_tuple_iterator_next_1 _)))
 show wpAny _ _ (field (.ref j) 0 >>=_) _ _ z;refine wpAny_bind (wpAny_field ej dj (x:=.ref t) rfl ?_)
 show wpAny _ _ (if (Value.ref t==Value.none)=true then _ else _) _ _ z;rw [if_neg (show¬((Value.ref t==Value.none)=true) from Bool.false_ne_true)]
 show wpAny _ _ (field (.ref j) 1 >>=_) _ _ z;refine wpAny_bind (wpAny_field ej dj (x:=.int n 0) rfl ?_)
 show wpAny _ _ (seqItems? (.ref t) >>=_) _ _ z;refine wpAny_bind (wpAny_seqItems et dt ?_);simp only [Int.toNat_natCast,hv]
 refine wpAny_bind (wpAny_rule (wpAny_bind (wpAny_setField ej dj (by simp) ?_)));show wpAny _ _ (newExc (.type "StopIteration") [] >>=_) _ _ _;refine wpAny_bind ?_;simp only [newExc,newTuple]
 refine wpAny_bind (wpAny_newObj_type ?_ (by size_fits));refine wpAny_bind (m:=firstArgMember _ _) (wpAny_of_eq (a:=Value.none) (by first | rfl | (simp only [firstArgMember];rfl)) ?_);refine wpAny_newObj_type ?_ (by size_fits);simp only [raiseNew]
 refine wpAny_bind (wpAny_handled ?_);first | rw [show A.in1.handled=none from hh] | rw [hh]
 refine wpAny_bind (wpAny_pure (wpAny_throw ?_));exact q _ _ (((Heap.SameBut.update ..).extBut.push _).push _) ⟨_,Heap.get?_push_size _ rfl,rfl⟩
structure ZSt (g:Heap)(y a o i k p q:Addr)(n:Nat)(xs us:Array Value)(f:Value):Prop where
 zp:IsZip g y a o f
 its:IsPair g a (.ref i) (.ref k)
 own:∃b c,IsPair g o b c
 i1:g.IsTupleIter i p n
 i2:g.IsTupleIter k q n
 t1:g.IsTuple p xs
 t2:g.IsTuple q us
theorem ziW {y a o i k p q:Addr}{n:Nat}{xs us:Array Value}{u v:Value}{Q:Option Value→Shared→Prop}(D:ZipApart y a o i k p q)(S:ZSt z.heap y a o i k p q n xs us .none)(hu:xs[n]? =some u)(hv:us[n]? =some v)
  (fin:∀g,ZSt g y a o i k p q (n+1) xs us (rawInt z.heap.objs.size)→IsPair g z.heap.objs.size u v→g.objs.size=z.heap.objs.size+1→(∀c r,c≠y→c≠o→c≠i→c≠k→z.heap.get? c=some r→g.get? c=some r)→Q (some (.ref z.heap.objs.size)) {z with heap:=g}):
  wpAny (model P W) A (pyNext (.ref y)) Q E z:=by
 obtain ⟨hz,ha,⟨b,c,ho⟩,hi,hk,hp,hq⟩:=S
 have tz:z.TypeIs (.ref y) "zip" :=⟨_,hz,rfl⟩
 have main:wpAny (model P W) A.in1 (Builtin.«zip.__next__» ⟨[.ref y],[]⟩) (fun r s'=>∃v,r=.done (.ret v)∧Q (some v) s') (fun e s'=>True∧False) z:=by
  show wpAny _ _ (field (.ref y) 2 >>=_) _ _ _;refine wpAny_bind (wpAny_field hz rfl (x:=.bool false) rfl ?_)
  show wpAny _ _ (field (.ref y) 3 >>=_) _ _ _;refine wpAny_bind (wpAny_field hz rfl (x:=.ref a) rfl ?_);refine wpAny_bind (wpAny_seqItems ha rfl ?_)
  show wpAny _ _ (Builtin.SmallTypes.ownedTupleIsFree (.ref y) >>=_) _ _ _;refine wpAny_bind ?_;unfold Builtin.SmallTypes.ownedTupleIsFree
  refine wpAny_bind (wpAny_field hz rfl (x:=.none) rfl (wpAny_pure ?_));simp only [if_true];refine wpAny_bind (wpAny_rule ?_);refine wpAny_bind (wpAny_field hz rfl (x:=.ref o) rfl ?_)
  refine wpAny_bind (wpAny_setField_rec hz (by simp) fun g1 hz1 s1=>?_);replace hz1:IsZip g1 y a o .ellipsis:=hz1;refine wpAny_bind ?_;simp only [List.zipIdx_cons,List.zipIdx_nil,List.forIn_cons,List.forIn_nil]
  refine wpAny_bind (wpAny_bind (wpAny_onRaise ?_));show wpAny _ _ (Builtin.SmallTypes.nextOf (.ref i) >>=_) _ _ _
  refine wpAny_bind (zdN (hi.extBut s1.extBut D.i1z) (hp.extBut s1.extBut D.l1z) hu fun g2 i2 s2=>wpAny_pure ?_)
  have ho2:IsPair g2 o b c:=s2.extBut _ _ D.TOi1 (s1.extBut _ _ D.TOz ho)
  refine wpAny_bind (wpAny_seqItems ho2 rfl ?_);refine wpAny_bind (wpAny_updateSeq_pair ho2 fun g3 ho3 s3=>?_);replace ho3:IsPair g3 o u c:=ho3;refine wpAny_bind (wpAny_letGo (wpAny_pure ?_))
  refine wpAny_bind (wpAny_bind (wpAny_onRaise ?_));show wpAny _ _ (Builtin.SmallTypes.nextOf (.ref k) >>=_) _ _ _
  refine wpAny_bind (zdN (((hk.extBut s1.extBut D.i2z).extBut s2.extBut D.i12.symm).extBut s3.extBut D.TOi2.symm) (((hq.extBut s1.extBut D.l2z).extBut s2.extBut D.l2i1).extBut s3.extBut D.l2TO) hv fun g4 k4 s4=>wpAny_pure ?_)
  have ho4:IsPair g4 o u c:=s4.extBut _ _ D.TOi2 ho3
  refine wpAny_bind (wpAny_seqItems ho4 rfl ?_);refine wpAny_bind (wpAny_updateSeq_pair ho4 fun g5 ho5 s5=>?_);replace ho5:IsPair g5 o u v:=ho5;refine wpAny_bind (wpAny_letGo (wpAny_pure (wpAny_pure ?_)))
  refine wpAny_bind (wpAny_seqItems ho5 rfl ?_);refine wpAny_bind (wpAny_newTuple ?_)
  have sz:g5.objs.size=z.heap.objs.size:=by rw [s5.1,s4.1,s3.1,s2.1,s1.1]
  have hz5:IsZip g5 y a o .ellipsis:=s5.extBut _ _ D.TOz.symm (s4.extBut _ _ D.i2z.symm (s3.extBut _ _ D.TOz.symm (s2.extBut _ _ D.i1z.symm hz1)))
  have up5:∀c r,c≠y→c≠o→c≠i→c≠k→z.heap.get? c=some r→g5.get? c=some r:=fun c r c1 c2 c3 c4 e=>s5.extBut _ _ c2 (s4.extBut _ _ c4 (s3.extBut _ _ c2 (s2.extBut _ _ c3 (s1.extBut _ _ c1 e))))
  have hi5:g5.IsTupleIter i p (n+1):=((i2.extBut s3.extBut D.TOi1.symm).extBut s4.extBut D.i12).extBut s5.extBut D.TOi1.symm
  have hk5:g5.IsTupleIter k q (n+1):=k4.extBut s5.extBut D.TOi2.symm
  have ly:y < g5.objs.size:=Heap.lt_size hz5
  show wpAny _ _ (Builtin.SmallTypes.ownedTupleHandOut (.ref y) (.ref g5.objs.size) >>=_) _ _ _;refine wpAny_bind ?_;unfold Builtin.SmallTypes.ownedTupleHandOut
  have hz6:IsZip (g5.push {cls:=.type "tuple",data:=.seq #[u,v]}) y a o .ellipsis:=Heap.get?_push_of_some _ hz5
  refine wpAny_bind (wpAny_setField_rec hz6 (by simp) fun g7 hz7 s7=>?_);replace hz7:IsZip g7 y a o (rawInt g5.objs.size):=hz7
  refine wpAny_setField_rec hz7 (by simp) fun g8 hz8 s8=>?_;replace hz8:IsZip g8 y a o (rawInt g5.objs.size):=hz8
  have up:∀c r,c≠y→g5.get? c=some r→g8.get? c=some r:=fun c r c1 e=>s8.extBut _ _ c1 (s7.extBut _ _ c1 (Heap.get?_push_of_some _ e))
  have new8:IsPair g8 g5.objs.size u v:=s8.extBut _ _ (Nat.ne_of_gt ly) (s7.extBut _ _ (Nat.ne_of_gt ly) (Heap.get?_push_size _ rfl))
  have sz8:g8.objs.size=g5.objs.size+1:=by rw [s8.1,s7.1,Heap.size_push]
  rw [sz] at hz8 new8 sz8
  refine wpAny_pure ⟨_,rfl,?_⟩;show Q (some (.ref g5.objs.size)) _;rw [sz]
  have upz:∀c r,c≠y→c≠o→c≠i→c≠k→z.heap.get? c=some r→g8.get? c=some r:=fun c r c1 c2 c3 c4 e=>up c r c1 (up5 c r c1 c2 c3 c4 e)
  refine fin g8 ⟨hz8,upz _ _ D.TIz D.TITO D.TIi1 D.TIi2 ha,⟨_,_,up _ _ D.TOz ho5⟩,?_,?_,?_,?_⟩ new8 sz8 upz
  ·obtain ⟨r,e,x⟩:=hi5;exact ⟨r,up _ r D.i1z e,x⟩
  ·obtain ⟨r,e,x⟩:=hk5;exact ⟨r,up _ r D.i2z e,x⟩
  ·obtain ⟨r,e,x⟩:=hp;exact ⟨r,upz _ r D.l1z D.l1TO D.l1i1 D.l1i2 e,x⟩
  ·obtain ⟨r,e,x⟩:=hq;exact ⟨r,upz _ r D.l2z D.l2TO D.l2i1 D.l2i2 e,x⟩
 unfold pyNext
 exact wpAny_bind (wpAny_attempt (wpAny_callSpecial?_slot (name:=Str.ofString "__next__") tz F.slot_zip_next (wpAny_call_entry F.slot_zip_next tz F.entry_zip_next (wpAny_mono main (fun r s' ⟨v,e,h⟩=>⟨v,e,wpAny_pure h⟩) fun _ _ x=>x.2.elim) (F.args_zip_next_1 _))))
theorem zjj {y a o i k p q:Addr}{n:Nat}{xs us:Array Value}{Q:Option Value→Shared→Prop}(hh:A.handled=none)(D:ZipApart y a o i k p q)(S:ZSt z.heap y a o i k p q n xs us .none)(he:xs[n]? =none∨us[n]? =none)
  (fin:∀g,(∀c r,c≠y→c≠o→c≠i→c≠k→z.heap.get? c=some r→g.get? c=some r)→Q none {z with heap:=g}):wpAny (model P W) A (pyNext (.ref y)) Q E z:=by
 obtain ⟨hz,ha,⟨b,c,ho⟩,hi,hk,hp,hq⟩:=S
 have tz:z.TypeIs (.ref y) "zip" :=⟨_,hz,rfl⟩
 have main:wpAny (model P W) A.in1 (Builtin.«zip.__next__» ⟨[.ref y],[]⟩) (fun _ _=>False) (fun e s'=>∃g x,e=.ref x∧s'={z with heap:=g}∧(∀c r,c≠y→c≠o→c≠i→c≠k→z.heap.get? c=some r→g.get? c=some r)∧∃r,g.get? x=some r∧r.cls=.type "StopIteration") z:=by
  show wpAny _ _ (field (.ref y) 2 >>=_) _ _ _;refine wpAny_bind (wpAny_field hz rfl (x:=.bool false) rfl ?_)
  show wpAny _ _ (field (.ref y) 3 >>=_) _ _ _;refine wpAny_bind (wpAny_field hz rfl (x:=.ref a) rfl ?_);refine wpAny_bind (wpAny_seqItems ha rfl ?_)
  show wpAny _ _ (Builtin.SmallTypes.ownedTupleIsFree (.ref y) >>=_) _ _ _;refine wpAny_bind ?_;unfold Builtin.SmallTypes.ownedTupleIsFree
  refine wpAny_bind (wpAny_field hz rfl (x:=.none) rfl (wpAny_pure ?_));simp only [if_true];refine wpAny_bind (wpAny_rule ?_);refine wpAny_bind (wpAny_field hz rfl (x:=.ref o) rfl ?_)
  refine wpAny_bind (wpAny_setField_rec hz (by simp) fun g1 hz1 s1=>?_);replace hz1:IsZip g1 y a o .ellipsis:=hz1;refine wpAny_bind ?_;simp only [List.zipIdx_cons,List.zipIdx_nil,List.forIn_cons,List.forIn_nil]
  refine wpAny_bind (wpAny_bind (wpAny_onRaise ?_));show wpAny _ _ (Builtin.SmallTypes.nextOf (.ref i) >>=_) _ _ _
  cases hu:xs[n]? with
  | none=>
   refine wpAny_bind (zfq (A:=A.in1) (show A.in1.handled=none from hh) (hi.extBut s1.extBut D.i1z) (hp.extBut s1.extBut D.l1z) hu fun g2 e s2 he2=>?_)
   obtain ⟨r,er,cr⟩:=he2
   have hz2:IsZip g2 y a o .ellipsis:=s2 _ _ D.i1z.symm hz1
   have ne:e≠y:=fun x=>by subst x;rw [hz2] at er;cases er;simp at cr
   exact wpAny_setField_rec hz2 (by simp) fun g3 _ s3=>⟨g3,e,rfl,rfl,fun c r c1 _ c3 _ x=>s3.extBut _ _ c1 (s2 _ _ c3 (s1.extBut _ _ c1 x)),r,s3.extBut _ _ ne er,cr⟩
  | some u=>
   have hv:us[n]? =none:=he.elim (fun z=>by rw [hu] at z;cases z) id
   refine wpAny_bind (zdN (hi.extBut s1.extBut D.i1z) (hp.extBut s1.extBut D.l1z) hu fun g2 i2 s2=>wpAny_pure ?_)
   have ho2:IsPair g2 o b c:=s2.extBut _ _ D.TOi1 (s1.extBut _ _ D.TOz ho)
   refine wpAny_bind (wpAny_seqItems ho2 rfl ?_);refine wpAny_bind (wpAny_updateSeq_pair ho2 fun g3 ho3 s3=>?_);refine wpAny_bind (wpAny_letGo (wpAny_pure ?_))
   refine wpAny_bind (wpAny_bind (wpAny_onRaise ?_));show wpAny _ _ (Builtin.SmallTypes.nextOf (.ref k) >>=_) _ _ _
   refine wpAny_bind (zfq (A:=A.in1) (show A.in1.handled=none from hh) (((hk.extBut s1.extBut D.i2z).extBut s2.extBut D.i12.symm).extBut s3.extBut D.TOi2.symm) (((hq.extBut s1.extBut D.l2z).extBut s2.extBut D.l2i1).extBut s3.extBut D.l2TO) hv fun g4 e s4 he4=>?_)
   obtain ⟨r,er,cr⟩:=he4
   have hz4:IsZip g4 y a o .ellipsis:=s4 _ _ D.i2z.symm (s3.extBut _ _ D.TOz.symm (s2.extBut _ _ D.i1z.symm hz1))
   have ne:e≠y:=fun x=>by subst x;rw [hz4] at er;cases er;simp at cr
   exact wpAny_setField_rec hz4 (by simp) fun g5 _ s5=>⟨g5,e,rfl,rfl,fun c r c1 c2 c3 c4 x=>s5.extBut _ _ c1 (s4 _ _ c4 (s3.extBut _ _ c2 (s2.extBut _ _ c3 (s1.extBut _ _ c1 x)))),r,s5.extBut _ _ ne er,cr⟩
 unfold pyNext
 refine wpAny_bind (wpAny_attempt (wpAny_callSpecial?_slot (name:=Str.ofString "__next__") tz F.slot_zip_next (wpAny_call_entry F.slot_zip_next tz F.entry_zip_next (wpAny_mono main (fun _ _ x=>x.elim) fun e s' h=>?_) (F.args_zip_next_1 _))))
 obtain ⟨g,x,rfl,rfl,up,r,er,cr⟩:=h
 exact wpAny_bind (wpAny_isInstance (T:= "StopIteration") (b:=true) ⟨r,er,cr⟩ isSubtype_stop (wpAny_pure (fin _ up)))
abbrev tz1 (g:Heap)(p:Addr):Heap:=g.push {cls:=.type "tuple_iterator",data:=.fields #[.ref p,.int 0 0]}
abbrev tz2 (g:Heap)(p q:Addr):Heap:=(tz1 g p).push {cls:=.type "tuple_iterator",data:=.fields #[.ref q,.int 0 0]}
abbrev tz3 (g:Heap)(p q:Addr):Heap:=(tz2 g p q).push {cls:=.type "tuple",data:=.seq #[.ref g.objs.size,.ref (tz1 g p).objs.size]}
abbrev tz4 (g:Heap)(p q:Addr):Heap:=(tz3 g p q).push {cls:=.type "tuple",data:=.seq #[.none,.none]}
abbrev tz5 (g:Heap)(p q:Addr):Heap:=(tz4 g p q).push {cls:=.type "zip",data:=.fields #[.none,.bool false,.bool false,.ref (tz2 g p q).objs.size,.ref (tz3 g p q).objs.size]}
theorem zjv {p q:Addr}{xs us:Array Value}{Q:Value→Shared→Prop}(hp:z.heap.IsTuple p xs)(hq:z.heap.IsTuple q us)
  (fin:∀g,ZSt g (z.heap.objs.size+4) (z.heap.objs.size+2) (z.heap.objs.size+3) z.heap.objs.size (z.heap.objs.size+1) p q 0 xs us .none→g.objs.size=z.heap.objs.size+5→(∀c r,z.heap.get? c=some r→g.get? c=some r)→Q (.ref (z.heap.objs.size+4)) {z with heap:=g}):
  wpAny (model P W) A (call (.type "zip") [.ref p,.ref q]) Q E z:=by
 have M:Meets (Builtin.«zip.__new__» ⟨[.type "zip",.ref p,.ref q],[]⟩) (fun _ R s=>s.heap.IsTuple p xs∧s.heap.IsTuple q us∧R (.ok (.ret (.ref (tz4 s.heap p q).objs.size))) {s with heap:=tz5 s.heap p q}):=
  .of_wp fun prog w A R s h=>by
   obtain ⟨hp0,g,d,tk,os⟩:=s;obtain ⟨h1,h2,h⟩:=h
   have hsub:=sub_zip
   have L1:Heap.IsTuple (Shared.heap ⟨hp0,g,d,tk,os⟩) p xs:=h1
   have L2:Heap.IsTuple (Shared.heap ⟨hp0.push {cls:=.type "tuple_iterator",data:=.fields #[.ref p,.int 0 0]},g,d,tk,os⟩) q us:=by
    obtain ⟨r,e,x⟩:=h2;exact ⟨r,Heap.get?_push_of_some _ e,x⟩
   wp_walk using wpAny_pyIter_tuple L1,wpAny_pyIter_tuple L2
   exact ⟨_,rfl,h⟩
 have n1:(tz1 z.heap p).objs.size=z.heap.objs.size+1:=Heap.size_push ..
 have n2:(tz2 z.heap p q).objs.size=z.heap.objs.size+2:=by rw [Heap.size_push,n1]
 have n3:(tz3 z.heap p q).objs.size=z.heap.objs.size+3:=by rw [Heap.size_push,n2]
 have n4:(tz4 z.heap p q).objs.size=z.heap.objs.size+4:=by rw [Heap.size_push,n3]
 have n5:(tz5 z.heap p q).objs.size=z.heap.objs.size+5:=by rw [Heap.size_push,n4]
 have a5:(tz5 z.heap p q).get? (tz4 z.heap p q).objs.size=some _:=Heap.get?_push_size _ rfl
 have a4:(tz5 z.heap p q).get? (tz3 z.heap p q).objs.size=some _:=Heap.get?_push_of_some _ (Heap.get?_push_size _ rfl)
 have a3:(tz5 z.heap p q).get? (tz2 z.heap p q).objs.size=some _:=Heap.get?_push_of_some _ (Heap.get?_push_of_some _ (Heap.get?_push_size _ rfl))
 have a2:(tz5 z.heap p q).get? (tz1 z.heap p).objs.size=some _:=Heap.get?_push_of_some _ (Heap.get?_push_of_some _ (Heap.get?_push_of_some _ (Heap.get?_push_size _ rfl)))
 have a1:(tz5 z.heap p q).get? z.heap.objs.size=some _:=Heap.get?_push_of_some _ (Heap.get?_push_of_some _ (Heap.get?_push_of_some _ (Heap.get?_push_of_some _ (Heap.get?_push_size _ rfl))))
 have up:∀c r,z.heap.get? c=some r→(tz5 z.heap p q).get? c=some r:=fun c r x=>Heap.get?_push_of_some _ (Heap.get?_push_of_some _ (Heap.get?_push_of_some _ (Heap.get?_push_of_some _ (Heap.get?_push_of_some _ x))))
 rw [n2,n3,n4] at a5
 rw [n1,n2] at a3
 rw [n3] at a4
 rw [n1] at a2
 refine callType_new F.called_zip (by decide) (F.typeCall_zip_2 _ _) (F.newCall_zip_2 _ _) (fun obj=>F.args_object_init_3 obj _ _) F.entry_zip_new M ⟨hp,hq,?_⟩
 show _∧_
 rw [n4]
 refine ⟨⟨_,a5,rfl⟩,fin _ ⟨a5,a3,⟨_,_,a4⟩,⟨_,a1,rfl,rfl⟩,⟨_,a2,rfl,rfl⟩,?_,?_⟩ n5 up⟩
 ·obtain ⟨r,e,x⟩:=hp;exact ⟨r,up _ _ e,x⟩
 ·obtain ⟨r,e,x⟩:=hq;exact ⟨r,up _ _ e,x⟩
end
structure ZI (g:Heap)(y a o i k p q:Addr)(n:Nat)(f:Value):Prop where
 zp:IsZip g y a o f
 its:IsPair g a (.ref i) (.ref k)
 own:∃b c,IsPair g o b c
 i1:g.IsTupleIter i p n
 i2:g.IsTupleIter k q n
theorem ZSt.zi {g:Heap}{y a o i k p q:Addr}{n:Nat}{xs us:Array Value}{f:Value}(S:ZSt g y a o i k p q n xs us f):ZI g y a o i k p q n f:=⟨S.zp,S.its,S.own,S.i1,S.i2⟩
def Itz (K:PySem.W.Frag)(p q:Addr)(xs us:List V):It:=
 ⟨fun n H=>SqT K H p xs∧SqT K H q us∧n < min xs.length us.length,fun n H v H'=>∃(T:Addr) (x u:V),H T=none∧xs[n]? =some x∧us[n]? =some u∧v=.ref T∧H'=upd H T (.tup [x,u]),fun n H=>SqT K H p xs∧SqT K H q us∧min xs.length us.length≤n⟩
theorem zjG {P:Program}{w:World}{K:PySem.W.Frag}{elts:List Expr}{x1:Nat}{tpos:Pos}{y a o i k p q:Addr}{xs us:List V}(D:ZipApart y a o i k p q):
  Turn P w K (.Tuple elts x1 tpos) (Itz K p q xs us) [y,a,o,i,k] y (fun n h=>ZI h y a o i k p q n .none) where
 mem:=by simp
 obj:=fun n h st b hb=>by
  obtain ⟨hz,ha,⟨b1,b2,ho⟩,⟨r1,e1,_,d1⟩,⟨r2,e2,_,d2⟩⟩:=st
  simp only [List.mem_cons,List.not_mem_nil,or_false] at hb
  rcases hb with rfl | rfl | rfl | rfl | rfl
  ·exact ⟨_,hz,fun v z=>by cases z⟩
  ·exact ⟨_,ha,fun v z=>by cases z⟩
  ·exact ⟨_,ho,fun v z=>by cases z⟩
  ·exact ⟨_,e1,fun v z=>by rw [d1] at z;cases z⟩
  ·exact ⟨_,e2,fun v z=>by rw [d2] at z;cases z⟩
 keep:=fun n h h' st kp=>by
  obtain ⟨hz,ha,⟨b1,b2,ho⟩,⟨r1,e1,x1⟩,⟨r2,e2,x2⟩⟩:=st
  exact ⟨kp y (by simp) _ hz,kp a (by simp) _ ha,⟨b1,b2,kp o (by simp) _ ho⟩,⟨r1,kp i (by simp) _ e1,x1⟩,⟨r2,kp k (by simp) _ e2,x2⟩⟩
 item:=by
  intro X hP hw hK hc n pins s σ H E I hf st hg
  subst hP hw hK
  obtain ⟨hp,hq,hn⟩:=hg
  obtain ⟨its,r1,T1,z1⟩:=I.tuple hp
  obtain ⟨jts,r2,T2,z2⟩:=I.tuple hq
  have hx:xs[n]? =some xs[n]:=List.getElem?_eq_getElem (by omega)
  have hu:us[n]? =some us[n]:=List.getElem?_eq_getElem (by omega)
  obtain ⟨v1,e1,q1⟩:=r1.get hx
  obtain ⟨v2,e2,q2⟩:=r2.get hu
  have fy:=hf y (by simp)
  have fa:=hf a (by simp)
  have fo:=hf o (by simp)
  have fi:=hf i (by simp)
  have fk:=hf k (by simp)
  have S:ZSt s.heap y a o i k p q n its.toArray jts.toArray .none:=⟨st.zp,st.its,st.own,st.i1,st.i2,T1,T2⟩
  refine ziW D S (u:=v1) (v:=v2) (by simpa using e1) (by simpa using e2) fun g Sg new sz up=>?_
  have hT:H s.heap.objs.size=none:=I.hok.fresh (Nat.le_refl _)
  have inch:∀{b:Addr},H b≠none→b≠y∧b≠o∧b≠i∧b≠k:=fun {b} h=>⟨fun z=>h (by rw [z];exact fy.1),fun z=>h (by rw [z];exact fo.1),fun z=>h (by rw [z];exact fi.1),fun z=>h (by rw [z];exact fk.1)⟩
  have hok:HOk X.prog X.w (upd H s.heap.objs.size (.tup [xs[n],us[n]])) g:=fun b u e=>by
   by_cases hb:b=s.heap.objs.size
   ·subst hb
    rw [zh] at e
    cases e
    refine ⟨by simp only [List.length_cons,List.length_nil];rw [sizeLine_eq];decide,[v1,v2],.cons q1 (.cons q2 .nil),⟨_,new,rfl,_,rfl⟩⟩
   ·rw [zk hb] at e
    refine (I.hok b u e).stay (fun c r hc q=>?_) (fun c q=>by rw [zk (zl q hT)];exact q) fun c ys q=>by rw [zk (zl q hT)];exact q
    have hne:H c≠none:=by
     rcases hc with rfl | hc
     ·rw [e];intro z;cases z
     ·rw [hc];intro z;cases z
    obtain ⟨c1,c2,c3,c4⟩:=inch hne
    exact up c r c1 c2 c3 c4 q
  have I1:Inv X pins σ (upd H s.heap.objs.size (.tup [xs[n],us[n]])) {s with heap:=g}:=by
   refine I.step (g':=s.gens) (d':=s.drawn) (t':=s.toks) (ch:=[y,o,i,k]) (fun b hb=>?_) (fun b r _ _ hc e _=>?_) (fun b r _ _ hc e _=>⟨r.slots,?_⟩) (fun b r hc e hn=>?_) (fun b r hc e=>⟨r,?_⟩) (fun b ys e=>by rw [zk (zl e hT)];exact e)
    (fun b r ys e=>by rw [zk (zl e hT)];exact e) (fun b ps e=>⟨#[],by rw [zk (zl e hT),e];simp⟩) (fun m hm=>?_) hok I.bare
   ·simp only [List.mem_cons,List.not_mem_nil,or_false] at hb
    rcases hb with rfl | rfl | rfl | rfl
    ·exact ⟨fy.2.2.2.1,fy.2.1,fy.2.2.2.2.1,fy.2.2.2.2.2⟩
    ·exact ⟨fo.2.2.2.1,fo.2.1,fo.2.2.2.2.1,fo.2.2.2.2.2⟩
    ·exact ⟨fi.2.2.2.1,fi.2.1,fi.2.2.2.2.1,fi.2.2.2.2.2⟩
    ·exact ⟨fk.2.2.2.1,fk.2.1,fk.2.2.2.2.1,fk.2.2.2.2.2⟩
   ·simp only [List.mem_cons,List.not_mem_nil,or_false,not_or] at hc
    exact up b r hc.1 hc.2.1 hc.2.2.1 hc.2.2.2 e
   ·simp only [List.mem_cons,List.not_mem_nil,or_false,not_or] at hc
    exact up b r hc.1 hc.2.1 hc.2.2.1 hc.2.2.2 e
   ·rw [zk (Nat.ne_of_lt (Heap.lt_size e))];exact hn
   ·simp only [List.mem_cons,List.not_mem_nil,or_false,not_or] at hc
    exact up b r hc.1 hc.2.1 hc.2.2.1 hc.2.2.2 e
   ·obtain ⟨r,es,ep,er,d⟩:=hm
    exact ⟨r,es,ep,up _ r (Ne.symm fy.2.1) (Ne.symm fo.2.1) (Ne.symm fi.2.1) (Ne.symm fk.2.1) er,d⟩
  have hfp:∀b∈ [y,a,o,i,k],upd H s.heap.objs.size (.tup [xs[n],us[n]]) b=none:=fun b hb=>by
   have fb:=hf b hb
   have lt:b < s.heap.objs.size:=by
    obtain ⟨hz,ha,⟨b1,b2,ho⟩,⟨r1,e1,_⟩,⟨r2,e2,_⟩⟩:=st
    simp only [List.mem_cons,List.not_mem_nil,or_false] at hb
    rcases hb with rfl | rfl | rfl | rfl | rfl
    ·exact Heap.lt_size hz
    ·exact Heap.lt_size ha
    ·exact Heap.lt_size ho
    ·exact Heap.lt_size e1
    ·exact Heap.lt_size e2
   rw [zk (Nat.ne_of_lt lt)];exact fb.1
  refine ⟨_,rfl,wpAny_letOwnedTupleGo_zip Sg.zp fun g2 hz2 s2=>?_⟩
  refine ⟨.ref s.heap.objs.size,_,I1.turned (it:=y) (t':=s.toks) (fun b r hb e=>s2.extBut _ _ hb e) (hfp y (by simp)) fy.2.1 fy.2.2.2.1 fy.2.2.2.2.1 fy.2.2.2.2.2,rfl,⟨_,_,_,hT,hx,hu,rfl,rfl⟩,⟨hz2,s2.extBut _ _ D.TIz Sg.its,?_,Sg.i1.extBut s2.extBut D.i1z,Sg.i2.extBut s2.extBut D.i2z⟩,hfp⟩
  obtain ⟨b1,b2,ho⟩:=Sg.own
  exact ⟨b1,b2,s2.extBut _ _ D.TOz ho⟩
 done:=by
  intro X hP hw hK hc n pins s σ H E I hf st hg
  subst hP hw hK
  obtain ⟨hp,hq,hn⟩:=hg
  obtain ⟨its,r1,T1,z1⟩:=I.tuple hp
  obtain ⟨jts,r2,T2,z2⟩:=I.tuple hq
  have fy:=hf y (by simp)
  have fo:=hf o (by simp)
  have fi:=hf i (by simp)
  have fk:=hf k (by simp)
  have S:ZSt s.heap y a o i k p q n its.toArray jts.toArray .none:=⟨st.zp,st.its,st.own,st.i1,st.i2,T1,T2⟩
  have l1:=r1.length
  have l2:=r2.length
  have he:its.toArray[n]? =none∨jts.toArray[n]? =none:=by
   by_cases h:xs.length≤n
   ·exact .inl (by simp;omega)
   ·exact .inr (by simp;omega)
  refine zjj (I.ok.hd hc) D S he fun g up=>⟨rfl,?_⟩
  have inch:∀{b:Addr},H b≠none→b≠y∧b≠o∧b≠i∧b≠k:=fun {b} h=>⟨fun z=>h (by rw [z];exact fy.1),fun z=>h (by rw [z];exact fo.1),fun z=>h (by rw [z];exact fi.1),fun z=>h (by rw [z];exact fk.1)⟩
  refine I.step (g':=s.gens) (d':=s.drawn) (t':=s.toks) (ch:=[y,o,i,k]) (fun b hb=>?_) (fun b r _ _ hc e _=>?_) (fun b r _ _ hc e _=>⟨r.slots,?_⟩) (fun b r hc e hn=>hn) (fun b r hc e=>⟨r,?_⟩) (fun b ys e=>e) (fun b r ys e=>e) (fun b ps e=>⟨#[],by rw [e];simp⟩) (fun m hm=>?_) (fun b u e=>?_) I.bare
  ·simp only [List.mem_cons,List.not_mem_nil,or_false] at hb
   rcases hb with rfl | rfl | rfl | rfl
   ·exact ⟨fy.2.2.2.1,fy.2.1,fy.2.2.2.2.1,fy.2.2.2.2.2⟩
   ·exact ⟨fo.2.2.2.1,fo.2.1,fo.2.2.2.2.1,fo.2.2.2.2.2⟩
   ·exact ⟨fi.2.2.2.1,fi.2.1,fi.2.2.2.2.1,fi.2.2.2.2.2⟩
   ·exact ⟨fk.2.2.2.1,fk.2.1,fk.2.2.2.2.1,fk.2.2.2.2.2⟩
  ·simp only [List.mem_cons,List.not_mem_nil,or_false,not_or] at hc
   exact up b r hc.1 hc.2.1 hc.2.2.1 hc.2.2.2 e
  ·simp only [List.mem_cons,List.not_mem_nil,or_false,not_or] at hc
   exact up b r hc.1 hc.2.1 hc.2.2.1 hc.2.2.2 e
  ·simp only [List.mem_cons,List.not_mem_nil,or_false,not_or] at hc
   exact up b r hc.1 hc.2.1 hc.2.2.1 hc.2.2.2 e
  ·obtain ⟨r,es,ep,er,d⟩:=hm
   exact ⟨r,es,ep,up _ r (Ne.symm fy.2.1) (Ne.symm fo.2.1) (Ne.symm fi.2.1) (Ne.symm fk.2.1) er,d⟩
  ·refine (I.hok b u e).stay (fun c r hc q=>?_) (fun _ q=>q) fun _ _ q=>q
   have hne:H c≠none:=by
    rcases hc with rfl | hc
    ·rw [e];intro z;cases z
    ·rw [hc];intro z;cases z
   obtain ⟨c1,c2,c3,c4⟩:=inch hne
   exact up c r c1 c2 c3 c4 q
 self:=fun _ _ _ _ _ st h=>wpAny_pyIter_zip st.zp h
theorem zk3 (n p q:Nat)(h1:p < n)(h2:q < n):ZipApart (n+4) (n+2) (n+3) n (n+1) p q where
 TIz:=show (n+2:Nat)≠n+4 by omega
 TOz:=show (n+3:Nat)≠n+4 by omega
 i1z:=show (n:Nat)≠n+4 by omega
 i2z:=show (n+1:Nat)≠n+4 by omega
 TITO:=show (n+2:Nat)≠n+3 by omega
 TIi1:=show (n+2:Nat)≠n by omega
 TIi2:=show (n+2:Nat)≠n+1 by omega
 TOi1:=show (n+3:Nat)≠n by omega
 TOi2:=show (n+3:Nat)≠n+1 by omega
 i12:=show (n:Nat)≠n+1 by omega
 l1z:=show (p:Nat)≠n+4 by omega
 l1TO:=show (p:Nat)≠n+3 by omega
 l1i1:=show (p:Nat)≠n by omega
 l1i2:=show (p:Nat)≠n+1 by omega
 l2z:=show (q:Nat)≠n+4 by omega
 l2TO:=show (q:Nat)≠n+3 by omega
 l2i1:=show (q:Nat)≠n by omega
 l2i2:=show (q:Nat)≠n+1 by omega
section
variable {X:Cx}
def iZip (K:PySem.W.Frag)(ta:TA):TI:=fun σ H R=>ta σ H fun vs H1=>∃(p q:Addr) (xs us:List V),vs=[.ref p,.ref q]∧SqT K H1 p xs∧SqT K H1 q us∧R (Itz K p q xs us) H1
theorem zlK {elts:List Expr}{x1:Nat}{tpos:Pos}{a b:Expr}{ta:TA}{p pos:Pos}(hg:Gl X "zip") (hm:X.mg "zip" =none) (ha:PA X [a,b] ta) (hs:starEach [a,b] X.env=[(false,eval a X.env),(false,eval b X.env)]:=by rfl) (hs2:starEach [b] X.env=[(false,eval b X.env)]:=by rfl):
  PI X (.Tuple elts x1 tpos) (.Call (.Name "zip" p) [a,b] [] pos) (iZip X.K ta):=by
 intro pins s σ H R I h
 refine Call_ (zbW I hg hm (u:=.type "zip") (by rfl) (PyProof.Rows.callWith_type1 (thn (ha pos pins s σ H _ I h) fun us s1 ⟨vs,H1,I1,r1,q1⟩=>?_) (by rw [hs,hs2]) (by rw [hs2];rfl)))
 obtain ⟨p1,p2,xs,ys,rfl,hp,hq,q⟩:=q1
 obtain ⟨u,w',rfl,ru,rw'⟩:=vals2 r1
 cases (show u=Value.ref _ from ru)
 cases (show w'=Value.ref _ from rw')
 obtain ⟨its,r1,T1,z1⟩:=I1.tuple hp
 obtain ⟨jts,r2,T2,z2⟩:=I1.tuple hq
 refine zjv T1 T2 fun g S sz up=>wpAny_pyIter_zip S.zp ?_
 have lt1:p1 < s1.heap.objs.size:=by obtain ⟨r,e,_⟩:=T1;exact Heap.lt_size e
 have lt2:p2 < s1.heap.objs.size:=by obtain ⟨r,e,_⟩:=T2;exact Heap.lt_size e
 refine ⟨_,_,_,_,H1,rfl,I1.kept (t':=s1.toks) up,zjG (zk3 _ _ _ lt1 lt2),S.zi,fun b hb=>?_,q⟩
 have hb':s1.heap.objs.size≤b:=by
  simp only [List.mem_cons,List.not_mem_nil,or_false] at hb
  rcases hb with rfl | rfl | rfl | rfl | rfl
  ·exact Nat.le_add_right _ _
  ·exact Nat.le_add_right _ _
  ·exact Nat.le_add_right _ _
  ·exact Nat.le_refl _
  ·exact Nat.le_add_right _ _
 exact I1.fpOk hb' (I1.hok.fresh hb')
theorem zjH {K:PySem.W.Frag}{p q:Addr}{xs us:List V}{g:TG}{tb:TS}{D:Ends}{σ:St}{H:Hp}(Pv:Nat→St→Hp→Prop)(h0:Pv 0 σ H)(hl:∀i σ H,Pv i σ H→SqT K H p xs∧SqT K H q us)
  (hs:∀i x u T σ H,xs[i]? =some x→us[i]? =some u→H T=none→Pv i σ H→g (.ref T) σ (upd H T (.tup [x,u])) fun σ2 H2=>tb {D with nx:=Pv (i+1),ct:=Pv (i+1),bk:=D.nx} σ2 H2) (hd:∀σ H,Pv (min xs.length us.length) σ H→D.nx σ H):
  ∃W:Nat→Nat→St→Hp→Prop,(∃m,W 0 m σ H)∧∀i m σ H,W i m σ H→
   ((Itz K p q xs us).stop i H∧D.nx σ H)∨((Itz K p q xs us).go i H∧∃N:St→Hp→Prop,(∀σ' H',N σ' H'→∃m',m' < m∧W (i+1) m' σ' H')∧∀x H',(Itz K p q xs us).yld i H x H'→g x σ H' fun σ2 H2=>tb {D with nx:=N,ct:=N,bk:=D.nx} σ2 H2):=by
 refine ⟨fun i m σ H=>m=min xs.length us.length - i∧i≤min xs.length us.length∧Pv i σ H,⟨_,rfl,Nat.zero_le _,h0⟩,?_⟩
 rintro i m σ H ⟨rfl,hi,p⟩
 have q:=hl i σ H p
 by_cases hlt:i < min xs.length us.length
 ·refine .inr ⟨⟨q.1,q.2,hlt⟩,Pv (i+1),fun σ' H' p'=>⟨_,by omega,rfl,hlt,p'⟩,fun x H' y=>?_⟩
  obtain ⟨T,a,b,hT,e1,e2,rfl,rfl⟩:=y
  exact hs i a b T σ H e1 e2 hT p
 ·have e:i=min xs.length us.length:=by omega
  subst e
  exact .inl ⟨⟨q.1,q.2,Nat.le_refl _⟩,hd σ H p⟩
end
end L2
namespace Pv
open PySem L2
mutual
def eqT:Th→Th→Bool
 | .non,.non=>true
 | .int a,.int b=>a==b
 | .str a,.str b=>a==b
 | .tup a,.tup b=>eqL a b
 | _,_=>false
def eqL:List Th→List Th→Bool
 | [],[]=>true
 | t::r,u::q=>eqT t u && eqL r q
 | _,_=>false
end
mutual
theorem zab:∀t u:Th,eqT t u=true↔t=u
 | .non,.non=>by simp [eqT]
 | .non,.int _=>by simp [eqT]
 | .non,.str _=>by simp [eqT]
 | .non,.tup _=>by simp [eqT]
 | .int _,.non=>by simp [eqT]
 | .int a,.int b=>by simp [eqT]
 | .int _,.str _=>by simp [eqT]
 | .int _,.tup _=>by simp [eqT]
 | .str _,.non=>by simp [eqT]
 | .str _,.int _=>by simp [eqT]
 | .str a,.str b=>by simp [eqT]
 | .str _,.tup _=>by simp [eqT]
 | .tup _,.non=>by simp [eqT]
 | .tup _,.int _=>by simp [eqT]
 | .tup _,.str _=>by simp [eqT]
 | .tup a,.tup b=>by
  have:=ze6 a b
  simp [eqT,this]
theorem ze6:∀a b:List Th,eqL a b=true↔a=b
 | [],[]=>by simp [eqL]
 | [],_::_=>by simp [eqL]
 | _::_,[]=>by simp [eqL]
 | t::r,u::q=>by
  have h1:=zab t u
  have h2:=ze6 r q
  simp [eqL,h1,h2]
end
theorem zY (t:Th):eqT t t=true:=(zab t t).mpr rfl
theorem zch:∀a b:List Th,eqL a b=((List.range (min a.length b.length)).all (fun j=>eqT (a[j]?.getD .non) (b[j]?.getD .non)) && a.length==b.length)
 | [],[]=>rfl
 | [],_::_=>by simp [eqL]
 | _::_,[]=>by simp [eqL]
 | t::r,u::q=>by
  have h:=zch r q
  show (eqT t u && eqL r q)=_
  rw [h,List.length_cons,List.length_cons,Nat.succ_min_succ,List.range_succ_eq_map,List.all_cons,List.all_map]
  have e:(fun j=>eqT ((t::r)[j]?.getD .non) ((u::q)[j]?.getD .non)) ∘ Nat.succ=fun j=>eqT (r[j]?.getD .non) (q[j]?.getD .non):=by
   funext j
   simp
  rw [e]
  have e2:(r.length+1==q.length+1)=(r.length==q.length):=by
   rw [Bool.eq_iff_iff];simp
  rw [e2,Bool.and_assoc]
  rfl
theorem Rep.inj {H:Hp}{t u:Th}{v:V}(r:Rep H t v)(q:Rep H u v):t=u:=by
 induction r generalizing u with
 | non=>cases q;rfl
 | int i=>cases q;rfl
 | str x=>cases q;rfl
 | @tup a xs ts e l h ih=>
  cases q with
  | @tup _ ys us e' l' h'=>
   rw [e] at e'
   cases e'
   refine congrArg Th.tup (List.ext_getElem? fun i=>?_)
   by_cases hi:i < xs.length
   ·have h1:ts[i]? =some ts[i]:=List.getElem?_eq_getElem (by omega)
    have h2:us[i]? =some us[i]:=List.getElem?_eq_getElem (by omega)
    rw [h1,h2,ih i xs[i] ts[i] (List.getElem?_eq_getElem hi) h1 (h' i xs[i] us[i] (List.getElem?_eq_getElem hi) h2)]
   ·rw [List.getElem?_eq_none (by omega),List.getElem?_eq_none (by omega)]
open PySem.SeqAt in
section
variable {X:Cx}{pins:List (Addr ×Obj)}{σ:L2.St}{H:Hp}{s:Shared}
theorem zfM (I:Inv X pins σ H s){a b:Addr}{xs ys:List V}{ts us:List Th}{A:Around}(e:H a=some (.tup xs))(e':H b=some (.tup ys))(l:xs.length=ts.length)(l':ys.length=us.length)
  (ih:∀(j:Nat) (x y:V) (t u:Th) (vx vy:Value),xs[j]? =some x→ys[j]? =some y→ts[j]? =some t→us[j]? =some u→RelV x vx→RelV y vy→EqAt A.in1 s vx vy (eqT t u)):
  ∃its jts:List Value,s.heap.IsTuple a its.toArray∧s.heap.IsTuple b jts.toArray∧its.length=ts.length∧jts.length=us.length∧
   ∀j (h1:j < its.toArray.size) (h2:j < jts.toArray.size),EqAt A.in1 s its.toArray[j] jts.toArray[j] (eqT (ts[j]?.getD .non) (us[j]?.getD .non)):=by
 obtain ⟨its,r1,T1,_⟩:=I.tuple (SqT.of e)
 obtain ⟨jts,r2,T2,_⟩:=I.tuple (SqT.of e')
 have n1:=r1.length
 have n2:=r2.length
 refine ⟨its,jts,T1,T2,by omega,by omega,fun j h1 h2=>?_⟩
 have h1':j < its.length:=by simpa using h1
 have h2':j < jts.length:=by simpa using h2
 obtain ⟨vx,ex,rx⟩:=r1.get (List.getElem?_eq_getElem (show j < xs.length by omega))
 obtain ⟨vy,ey,ry⟩:=r2.get (List.getElem?_eq_getElem (show j < ys.length by omega))
 have g1:ts[j]? =some ts[j]:=List.getElem?_eq_getElem (by omega)
 have g2:us[j]? =some us[j]:=List.getElem?_eq_getElem (by omega)
 have q:=ih j _ _ _ _ vx vy (List.getElem?_eq_getElem (show j < xs.length by omega)) (List.getElem?_eq_getElem (show j < ys.length by omega)) g1 g2 rx ry
 rw [g1,g2]
 have z1:its.toArray[j]=vx:=by
  have:its[j]? =some its[j]:=List.getElem?_eq_getElem h1'
  rw [this] at ex
  simpa using Option.some.inj ex
 have z2:jts.toArray[j]=vy:=by
  have:jts[j]? =some jts[j]:=List.getElem?_eq_getElem h2'
  rw [this] at ey
  simpa using Option.some.inj ey
 rw [z1,z2]
 exact q
theorem zfb (I:Inv X pins σ H s){t:Th}{x:V}(r:Rep H t x):∀{u:Th} {y:V} {vx vy:Value} {A:Around},Rep H u y→RelV x vx→RelV y vy→A.units+dep t+1 < cLine→EqAt A s vx vy (eqT t u):=by
 induction r with
 | non=>
  intro u y vx vy A q rx ry hu
  cases (show vx=Value.none from rx)
  cases q with
  | non=>cases (show vy=Value.none from ry);exact EqAt.same _
  | int i=>obtain ⟨k,rfl⟩:=ry;exact EqAt.none_int i k
  | str z=>obtain ⟨k,rfl⟩:=ry;exact EqAt.none_str z k
  | tup e l h=>
   cases (show vy=Value.ref _ from ry)
   obtain ⟨its,_,T,_⟩:=I.tuple (SqT.of e)
   exact EqAt.none_tuple T (by omega)
 | int a=>
  intro u y vx vy A q rx ry hu
  obtain ⟨k1,rfl⟩:=rx
  cases q with
  | non=>cases (show vy=Value.none from ry);exact EqAt.int_none a k1
  | int i=>obtain ⟨k,rfl⟩:=ry;exact EqAt.int_int a k1 i k
  | str z=>obtain ⟨k,rfl⟩:=ry;exact EqAt.int_str a k1 z k
  | tup e l h=>
   cases (show vy=Value.ref _ from ry)
   obtain ⟨its,_,T,_⟩:=I.tuple (SqT.of e)
   exact EqAt.int_tuple a k1 T (by omega)
 | str a=>
  intro u y vx vy A q rx ry hu
  obtain ⟨k1,rfl⟩:=rx
  cases q with
  | non=>cases (show vy=Value.none from ry);exact EqAt.str_none a k1
  | int i=>obtain ⟨k,rfl⟩:=ry;exact EqAt.str_int a k1 i k
  | str z=>obtain ⟨k,rfl⟩:=ry;exact EqAt.str_str a k1 z k
  | tup e l h=>
   cases (show vy=Value.ref _ from ry)
   obtain ⟨its,_,T,_⟩:=I.tuple (SqT.of e)
   exact EqAt.str_tuple a k1 T (by omega)
 | @tup a xs ts e l h ih=>
  intro u y vx vy A q rx ry hu
  cases (show vx=Value.ref a from rx)
  cases q with
  | non=>
   cases (show vy=Value.none from ry)
   obtain ⟨its,_,T,_⟩:=I.tuple (SqT.of e)
   exact EqAt.tuple_none T (by omega)
  | int i=>
   obtain ⟨k,rfl⟩:=ry
   obtain ⟨its,_,T,_⟩:=I.tuple (SqT.of e)
   exact EqAt.tuple_int i k T (by omega)
  | str z=>
   obtain ⟨k,rfl⟩:=ry
   obtain ⟨its,_,T,_⟩:=I.tuple (SqT.of e)
   exact EqAt.tuple_str z k T (by omega)
  | @tup b ys us e' l' h'=>
   cases (show vy=Value.ref b from ry)
   by_cases hab:a=b
   ·subst hab
    have z:=Rep.inj (Rep.tup e l h) (Rep.tup e' l' h')
    rw [←z,zY]
    exact EqAt.same _
   ·have hd:dep (.tup ts)=depL ts+1:=rfl
    obtain ⟨its,jts,T1,T2,n1,n2,q⟩:=zfM (A:=A) I e e' l l' fun j x y t u vx vy h1 h2 h3 h4 rx ry=>ih j x t h1 h3 (h' j y u h2 h4) rx ry (by
     have:=zaP h3
     show A.units+1+dep t+1 < cLine
     omega)
    have R:=RcAt.tuples T1 T2 (show A.units < cLine by omega) q
    have e3:((List.range (min its.toArray.size jts.toArray.size)).all (fun j=>eqT (ts[j]?.getD .non) (us[j]?.getD .non)) && its.toArray.size==jts.toArray.size)=eqT (.tup ts) (.tup us):=by
     show _=eqL ts us
     rw [zch,List.size_toArray,List.size_toArray,n1,n2]
    rw [e3] at R
    exact EqAt.of_refs hab R
theorem rc_T (I:Inv X pins σ H s){t u:Th}{x y:V}{vx vy:Value}{A:Around}(r:Rep H t x)(q:Rep H u y)(rx:RelV x vx)(ry:RelV y vy)(hu:A.units+dep t+1 < cLine):RcAt A s vx vy (eqT t u)∧RcNeAt A s vx vy (!eqT t u):=by
 cases r with
 | non=>
  cases (show vx=Value.none from rx)
  cases q with
  | non=>cases (show vy=Value.none from ry);exact ⟨RcAt.none_none,RcNeAt.none_none⟩
  | int i=>obtain ⟨k,rfl⟩:=ry;exact ⟨RcAt.none_int i k,RcNeAt.none_int i k⟩
  | str z=>obtain ⟨k,rfl⟩:=ry;exact ⟨RcAt.none_str z k,RcNeAt.none_str z k⟩
  | tup e l h=>
   cases (show vy=Value.ref _ from ry)
   obtain ⟨its,_,T,_⟩:=I.tuple (SqT.of e)
   exact ⟨RcAt.none_tuple T (by omega),RcNeAt.none_tuple T (by omega)⟩
 | int a=>
  obtain ⟨k1,rfl⟩:=rx
  cases q with
  | non=>cases (show vy=Value.none from ry);exact ⟨RcAt.int_none a k1,RcNeAt.int_none a k1⟩
  | int i=>obtain ⟨k,rfl⟩:=ry;exact ⟨RcAt.int_int a k1 i k,RcNeAt.int_int a k1 i k⟩
  | str z=>obtain ⟨k,rfl⟩:=ry;exact ⟨RcAt.int_str a k1 z k,RcNeAt.int_str a k1 z k⟩
  | tup e l h=>
   cases (show vy=Value.ref _ from ry)
   obtain ⟨its,_,T,_⟩:=I.tuple (SqT.of e)
   exact ⟨RcAt.int_tuple a k1 T (by omega),RcNeAt.int_tuple a k1 T (by omega)⟩
 | str a=>
  obtain ⟨k1,rfl⟩:=rx
  cases q with
  | non=>cases (show vy=Value.none from ry);exact ⟨RcAt.str_none a k1,RcNeAt.str_none a k1⟩
  | int i=>obtain ⟨k,rfl⟩:=ry;exact ⟨RcAt.str_int a k1 i k,RcNeAt.str_int a k1 i k⟩
  | str z=>obtain ⟨k,rfl⟩:=ry;exact ⟨RcAt.str_str a k1 z k,RcNeAt.str_str a k1 z k⟩
  | tup e l h=>
   cases (show vy=Value.ref _ from ry)
   obtain ⟨its,_,T,_⟩:=I.tuple (SqT.of e)
   exact ⟨RcAt.str_tuple a k1 T (by omega),RcNeAt.str_tuple a k1 T (by omega)⟩
 | @tup a xs ts e l h=>
  cases (show vx=Value.ref a from rx)
  cases q with
  | non=>
   cases (show vy=Value.none from ry)
   obtain ⟨its,_,T,_⟩:=I.tuple (SqT.of e)
   exact ⟨RcAt.tuple_none T (by omega),RcNeAt.tuple_none T (by omega)⟩
  | int i=>
   obtain ⟨k,rfl⟩:=ry
   obtain ⟨its,_,T,_⟩:=I.tuple (SqT.of e)
   exact ⟨RcAt.tuple_int i k T (by omega),RcNeAt.tuple_int i k T (by omega)⟩
  | str z=>
   obtain ⟨k,rfl⟩:=ry
   obtain ⟨its,_,T,_⟩:=I.tuple (SqT.of e)
   exact ⟨RcAt.tuple_str z k T (by omega),RcNeAt.tuple_str z k T (by omega)⟩
  | @tup b ys us e' l' h'=>
   cases (show vy=Value.ref b from ry)
   have hd:dep (.tup ts)=depL ts+1:=rfl
   obtain ⟨its,jts,T1,T2,n1,n2,q⟩:=zfM (A:=A) I e e' l l' fun j x y t u vx vy h1 h2 h3 h4 rx ry=>zfb I (h j x t h1 h3) (h' j y u h2 h4) rx ry (by
     have:=zaP h3
     show A.units+1+dep t+1 < cLine
     omega)
   have e3:((List.range (min its.toArray.size jts.toArray.size)).all (fun j=>eqT (ts[j]?.getD .non) (us[j]?.getD .non)) && its.toArray.size==jts.toArray.size)=eqT (.tup ts) (.tup us):=by
    show _=eqL ts us
    rw [zch,List.size_toArray,List.size_toArray,n1,n2]
   have R:=RcAt.tuples T1 T2 (show A.units < cLine by omega) q
   have R':=RcNeAt.tuples T1 T2 (show A.units < cLine by omega) q
   rw [e3] at R R'
   exact ⟨R,R'⟩
end
section
variable {X:Cx}
theorem zcQ {k:Nat}(hr:Room k X.A):OpR X (compareOp .Eq) (fun x y H Q=>∃t u,Rep H t x∧Rep H u y∧dep t≤50∧Q (.bl (eqT t u)) H):=by
 intro pins s σ H x y v w Q I rx ry h
 obtain ⟨t,u,r1,r2,hd,q⟩:=h
 have hu:=hr.units
 exact (rc_T I r1 r2 rx ry (by omega)).1 _ _ _ _ ⟨.bl _,H,I,rfl,q⟩
theorem zdy {k:Nat}(hr:Room k X.A):OpR X (compareOp .NotEq) (fun x y H Q=>∃t u,Rep H t x∧Rep H u y∧dep t≤50∧Q (.bl (!eqT t u)) H):=by
 intro pins s σ H x y v w Q I rx ry h
 obtain ⟨t,u,r1,r2,hd,q⟩:=h
 have hu:=hr.units
 exact (rc_T I r1 r2 rx ry (by omega)).2 _ _ _ _ ⟨.bl _,H,I,rfl,q⟩
end
end Pv
namespace L2
open PySem PySem.Spec PyProof.Rows
section
open PySem.SeqAt
open PySem.AutoSeq1 (wpAny_loadPart')
open PySem.MeetsSeq PySem.MeetsSeq2 PySem.MeetsSeq3
end
section
variable {X:Cx}
def rLtL (K:PySem.W.Frag):R2:=fun x y H Q=>∃(a b:Addr) (ns ms:List Int),x=.ref a∧y=.ref b∧H a=some (.lst (ns.map V.int))∧H b=some (.lst (ms.map V.int))∧Q (.bl (HT.lexLt ns ms)) H
end
end L2
namespace L2
open PySem PySem.Spec PyProof.Rows
section
open PySem.AutoSeq1 (wpAny_loadPart')
end
section
variable {X:Cx}
def zm8:R2:=fun x y H Q=>∃(p:Addr) (k:Int) (v:V),x=.ref p∧y=.int k∧H p=some (.tup [v])∧2≤k∧k≤1000∧∀r,H r=none→Q (.ref r) (upd H r (.tup (List.replicate k.toNat v)))
def zmH (K:PySem.W.Frag):R2:=fun x y H Q=>∃(a b:Addr) (xs ys:List V),x=.ref a∧y=.ref b∧H a=some (.tup xs)∧H b=some (.tup ys)∧xs.length+ys.length≤sizeLine∧
 ∀(r:Addr) (H':Hp),Same H H'→H' r=some (.tup (xs++ys))→Q (.ref r) H'
end
end L2
namespace Pv
open PySem L2
theorem szL {n:Nat}(h:n≤100000):n≤sizeLine:=Nat.le_trans h (by rw [sizeLine_eq];decide)
theorem zgE {J:It}{n:Nat}{σ:St}{js:List Nat}{tt:TT}{te:TE}{Q:VK}{H1:Hp}{p:Addr}(Pv:Nat→List V→Hp→Prop)(h0:Pv 0 [] (upd H1 p (.lst [])))
  (hg:∀i acc H,i < n→Pv i acc H→J.go i H) (ht:∀acc H,Pv n acc H→J.stop n H)
  (hs:∀i acc H x H',i < n→Pv i acc H→J.yld i H x H'→tt (some x::frees σ js) H' fun ok H2=>
   if ok=true then te (some x::frees σ js) H2 fun y H3=>H3 p=some (.lst acc)∧acc.length < sizeLine∧∃m',m' < n - i∧(m'=n - (i+1)∧i+1≤n∧Pv (i+1) (acc++ [y]) (upd H3 p (.lst (acc++ [y]))))
   else∃m',m' < n - i∧(m'=n - (i+1)∧i+1≤n∧Pv (i+1) acc H2)) (hd:∀acc H,Pv n acc H→Q (.ref p) H):
  zfu J p σ js tt te H1 Q:=by
 refine ⟨fun i m acc H=>m=n - i∧i≤n∧Pv i acc H,⟨n,by simp,Nat.zero_le _,h0⟩,?_⟩
 rintro i m acc H ⟨rfl,hi,p⟩
 by_cases hlt:i < n
 ·exact .inr ⟨hg i acc H hlt p,fun x H' y=>hs i acc H x H' hlt p y⟩
 ·have e:i=n:=by omega
  subst e
  exact .inl ⟨ht acc H p,hd acc H p⟩
theorem nxt {i n:Nat}{C:Prop}(h:i < n)(c:C):∃m',m' < n - i∧(m'=n - (i+1)∧i+1≤n∧C):=⟨_,by omega,rfl,h,c⟩
def numOf (l:List Nat):Int:=l.foldl (fun (n:Int) (c:Nat)=>n * 128+(c:Int)) 0
theorem zf0 (l:List Nat)(c:Nat):numOf (l++ [c])=numOf l * 128+c:=by
 unfold numOf;rw [List.foldl_append];rfl
def chunk (x:Str)(k:Nat):List Nat:=(x.cps.toList.drop (7 * k)).take 7
def zeL (x:Str)(k:Nat):Str:=⟨(chunk x k).toArray⟩
def za3 (x:Str):Nat:=(x.length+6) / 7
def zdb (x:Str):List Int:=(List.range (za3 x)).map fun k=>numOf (chunk x k)
mutual
def zay:Th→List Int
 | .non=>[1]
 | .int n=>[2,(n+10 ^ 30) / 10 ^ 15,(n+10 ^ 30) % 10 ^ 15]
 | .str x=>[3,(x.length:Int)]++zdb x
 | .tup ts=>[4,(ts.length:Int)]++zas ts
def zas:List Th→List Int
 | []=>[]
 | t::r=>zay t++zas r
end
theorem zdm:∀(ts:List Th) (t:Th),zas (ts++ [t])=zas ts++zay t
 | [],t=>by simp [zas]
 | u::r,t=>by
  have:=zdm r t
  show zay u++zas (r++ [t])=zay u++zas r++zay t
  rw [this,List.append_assoc]
theorem zfH {ts:List Th}{i:Nat}{t:Th}(h:ts[i]? =some t):zas (ts.take (i+1))=zas (ts.take i)++zay t:=by
 rw [List.take_add_one,h]
 exact zdm _ _
mutual
theorem zc0:∀t:Th,Wf t→(zay t).length≤11 * nodes t
 | .non,_=>by show 1≤11 * 1;omega
 | .int n,_=>by show 3≤11 * 1;omega
 | .str x,h=>by
  have h1:x.length≤60:=h.1
  show ([3,(x.length:Int)]++zdb x).length≤11 * 1
  have h2:(zdb x).length=za3 x:=by unfold zdb;rw [List.length_map,List.length_range]
  rw [List.length_append,h2]
  show 2+za3 x≤11
  unfold za3
  omega
 | .tup ts,h=>by
  have:=zcl ts h.2
  show ([4,(ts.length:Int)]++zas ts).length≤11 * (1+zcb ts)
  rw [List.length_append]
  show 2+(zas ts).length≤_
  omega
theorem zcl:∀ts:List Th,WfL ts→(zas ts).length≤11 * zcb ts
 | [],_=>by show 0≤_;omega
 | t::r,h=>by
  have h1:=zc0 t h.1
  have h2:=zcl r h.2
  show (zay t++zas r).length≤11 * (nodes t+zcb r)
  rw [List.length_append]
  omega
end
theorem zbT:∀(ts:List Th) (i:Nat),(zas (ts.take i)).length≤(zas ts).length
 | [],i=>by rw [List.take_nil];exact Nat.le_refl _
 | t::r,0=>by show 0≤_;omega
 | t::r,i+1=>by
  have:=zbT r i
  show (zay t++zas (r.take i)).length≤(zay t++zas r).length
  rw [List.length_append,List.length_append]
  omega
theorem zhX {x:Str}{k:Nat}(h:k < za3 x):cutS x (some (0+(k:Int) * 7)) (some (0+(k:Int) * 7+7))=zeL x k:=by
 unfold za3 at h
 have e1:(0+(k:Int) * 7)=((7 * k:Nat):Int):=by omega
 have e2:(0+(k:Int) * 7+7)=((7 * k+7:Nat):Int):=by omega
 unfold cutS zeL chunk
 rw [e2,e1,HT.sIx_nat,HT.sIx_nat]
 have hl:x.cps.toList.length=x.length:=Array.length_toList
 have a1:min (7 * k) x.length=7 * k:=by omega
 rw [a1]
 refine congrArg (fun l=>(⟨List.toArray l⟩:Str)) ?_
 by_cases hb:7 * k+7≤x.length
 ·rw [show min (7 * k+7) x.length - 7 * k=7 by omega]
 ·rw [List.take_of_length_le (by rw [List.length_drop];omega),List.take_of_length_le (by rw [List.length_drop];omega)]
theorem zhq {x:Str}:(((x.length:Int)+7 - 1) / 7).toNat=za3 x:=by unfold za3;omega
def zcT (l:List Int):Int:=l.foldl (fun h c=>(h * 1234567890123456789+c) % 2305843009213693951) 7
def zZ (t:Th):Int:=zcT (zay t)+1
theorem zd7 (l:List Int)(c:Int):zcT (l++ [c])=(zcT l * 1234567890123456789+c) % 2305843009213693951:=by
 unfold zcT;rw [List.foldl_append];rfl
theorem zgi {l:List Int}{i:Nat}{c:Int}(h:l[i]? =some c):zcT (l.take (i+1))=(zcT (l.take i) * 1234567890123456789+c) % 2305843009213693951:=by
 rw [List.take_add_one,h];exact zd7 _ _
theorem zdl (l:List Int):0≤zcT l∧zcT l < 2305843009213693951:=by
 rcases List.eq_nil_or_concat l with rfl | ⟨r,c,rfl⟩
 ·exact ⟨by decide,by decide⟩
 ·rw [List.concat_eq_append,zd7]
  exact ⟨Int.emod_nonneg _ (by decide),Int.emod_lt_of_pos _ (by decide)⟩
end Pv
namespace Pv
theorem zeh:∀{ts:List Th} {i:Nat} {t:Th},ts[i]? =some t→nodes t≤zcb ts
 | [],_,_,e=>by simp at e
 | u::r,0,t,e=>by simp at e;subst e;exact Nat.le_add_right _ _
 | u::r,i+1,t,e=>Nat.le_trans (zeh (i:=i) (by simpa using e)) (Nat.le_add_left _ _)
end Pv
namespace Pv
open L2
theorem tt1 {σ:L2.St}{H:Hp}{A B:Hp→Prop}(h:A H):zcI σ H fun ok H2=>if ok=true then A H2 else B H2:=by
 show if true=true then A H else B H
 rw [if_pos rfl]
 exact h
end Pv
namespace Pv
open PySem L2
def zae:Th→Int
 | .non=>0
 | .int _=>1
 | .str _=>2
 | .tup _=>3
mutual
def ze:Th→Th→Bool
 | .non,.non=>false
 | .int a,.int b=>decide (a < b)
 | .str a,.str b=>decide (a.cps.toList < b.cps.toList)
 | .tup a,.tup b=>zax a b
 | t,u=>decide (zae t < zae u)
def zax:List Th→List Th→Bool
 | [],[]=>false
 | [],_::_=>true
 | _::_,[]=>false
 | t::r,u::q=>if eqT t u=true then zax r q else ze t u
end
mutual
def rowT:Th→List Int
 | .non=>[0]
 | .int a=>[1,a]
 | .str x=>[2]++x.cps.toList.map (fun (c:Nat)=>(c:Int))++ [-1]
 | .tup ts=>[3]++rowL ts++ [-1]
def rowL:List Th→List Int
 | []=>[]
 | t::r=>rowT t++rowL r
end
theorem zeW:∀(p a b:List Int),HT.lexLt (p++a) (p++b)=HT.lexLt a b
 | [],_,_=>rfl
 | x::r,a,b=>by
  rw [List.cons_append,List.cons_append,HT.lexLt_cons,if_pos rfl]
  exact zeW r a b
theorem zba {x y:Int}(h:x≠y)(a b:List Int):HT.lexLt (x::a) (y::b)=decide (x < y):=by rw [HT.lexLt_cons,if_neg h]
theorem zha:∀(x y:List Nat) (a b:List Int),x≠y→HT.lexLt (x.map (fun (c:Nat)=>(c:Int))++ -1::a) (y.map (fun (c:Nat)=>(c:Int))++ -1::b)=decide (x < y)
 | [],[],_,_,h=>absurd rfl h
 | [],d::y,a,b,_=>by
  show HT.lexLt (-1::a) ((d:Int)::_)=_
  rw [zba (by omega),decide_eq_true (by omega)]
  exact (decide_eq_true (List.nil_lt_cons d y)).symm
 | c::x,[],a,b,_=>by
  show HT.lexLt ((c:Int)::_) (-1::b)=_
  rw [zba (by omega),decide_eq_false (by omega)]
  exact (decide_eq_false (List.not_lt_nil _)).symm
 | c::x,d::y,a,b,h=>by
  show HT.lexLt ((c:Int)::_) ((d:Int)::_)=_
  by_cases e:c=d
  ·subst e
   rw [HT.lexLt_cons,if_pos rfl]
   have:=zha x y a b (fun z=>h (by rw [z]))
   refine Eq.trans this ?_
   rw [Bool.eq_iff_iff]
   simp [List.cons_lt_cons_iff]
  ·rw [zba (by omega)]
   rw [Bool.eq_iff_iff]
   simp [List.cons_lt_cons_iff,e]
theorem zcG (t:Th):∃r,rowT t=zae t::r:=by
 cases t with
 | non=>exact ⟨[],rfl⟩
 | int a=>exact ⟨[a],rfl⟩
 | str x=>exact ⟨_,rfl⟩
 | tup ts=>exact ⟨_,rfl⟩
theorem zgU (t:Th):0≤zae t:=by
 cases t with
 | non=>exact (by decide:(0:Int)≤0)
 | int _=>exact (by decide:(0:Int)≤1)
 | str _=>exact (by decide:(0:Int)≤2)
 | tup _=>exact (by decide:(0:Int)≤3)
theorem zlE {x y:Str}(h:x≠y):x.cps.toList≠y.cps.toList:=fun z=>h (by
 rcases x with ⟨a⟩
 rcases y with ⟨b⟩
 have:a=b:=Array.toList_inj.mp z
 rw [this])
theorem zaj {t u:Th}(h:zae t≠zae u)(a b:List Int):HT.lexLt (rowT t++a) (rowT u++b)=decide (zae t < zae u):=by
 obtain ⟨r,e⟩:=zcG t
 obtain ⟨q,e'⟩:=zcG u
 rw [e,e',List.cons_append,List.cons_append]
 exact zba h _ _
mutual
theorem zgX:∀(t u:Th) (a b:List Int),t≠u→HT.lexLt (rowT t++a) (rowT u++b)=ze t u
 | .non,.non,_,_,h=>absurd rfl h
 | .non,.int _,a,b,_=>zaj (t:=.non) (u:=.int _) (by show (0:Int)≠1;decide) a b
 | .non,.str _,a,b,_=>zaj (t:=.non) (u:=.str _) (by show (0:Int)≠2;decide) a b
 | .non,.tup _,a,b,_=>zaj (t:=.non) (u:=.tup _) (by show (0:Int)≠3;decide) a b
 | .int _,.non,a,b,_=>zaj (t:=.int _) (u:=.non) (by show (1:Int)≠0;decide) a b
 | .int x,.int y,a,b,h=>by
  show HT.lexLt (1::x::a) (1::y::b)=decide (x < y)
  rw [HT.lexLt_cons,if_pos rfl]
  exact zba (fun z=>h (by rw [z])) _ _
 | .int _,.str _,a,b,_=>zaj (t:=.int _) (u:=.str _) (by show (1:Int)≠2;decide) a b
 | .int _,.tup _,a,b,_=>zaj (t:=.int _) (u:=.tup _) (by show (1:Int)≠3;decide) a b
 | .str _,.non,a,b,_=>zaj (t:=.str _) (u:=.non) (by show (2:Int)≠0;decide) a b
 | .str _,.int _,a,b,_=>zaj (t:=.str _) (u:=.int _) (by show (2:Int)≠1;decide) a b
 | .str x,.str y,a,b,h=>by
  have e:∀(z:Str) (w:List Int),rowT (.str z)++w=2::(z.cps.toList.map (fun (c:Nat)=>(c:Int))++ -1::w):=fun z w=>by
   show ([2]++_++ [-1])++w=_
   simp
  rw [e,e,HT.lexLt_cons,if_pos rfl]
  exact zha _ _ a b (zlE fun z=>h (by rw [z]))
 | .str _,.tup _,a,b,_=>zaj (t:=.str _) (u:=.tup _) (by show (2:Int)≠3;decide) a b
 | .tup _,.non,a,b,_=>zaj (t:=.tup _) (u:=.non) (by show (3:Int)≠0;decide) a b
 | .tup _,.int _,a,b,_=>zaj (t:=.tup _) (u:=.int _) (by show (3:Int)≠1;decide) a b
 | .tup _,.str _,a,b,_=>zaj (t:=.tup _) (u:=.str _) (by show (3:Int)≠2;decide) a b
 | .tup x,.tup y,a,b,h=>by
  have e:∀(z:List Th) (w:List Int),rowT (.tup z)++w=3::(rowL z++ -1::w):=fun z w=>by
   show ([3]++_++ [-1])++w=_
   simp
  rw [e,e,HT.lexLt_cons,if_pos rfl]
  exact zkS x y a b (fun z=>h (by rw [z]))
theorem zkS:∀(x y:List Th) (a b:List Int),x≠y→HT.lexLt (rowL x++ -1::a) (rowL y++ -1::b)=zax x y
 | [],[],_,_,h=>absurd rfl h
 | [],u::q,a,b,_=>by
  obtain ⟨r,e⟩:=zcG u
  have:=zgU u
  show HT.lexLt (-1::a) ((rowT u++rowL q)++ -1::b)=true
  rw [e,List.cons_append,List.cons_append,zba (by omega),decide_eq_true (by omega)]
 | t::r,[],a,b,_=>by
  obtain ⟨r',e⟩:=zcG t
  have:=zgU t
  show HT.lexLt ((rowT t++rowL r)++ -1::a) (-1::b)=false
  rw [e,List.cons_append,List.cons_append,zba (by omega),decide_eq_false (by omega)]
 | t::r,u::q,a,b,h=>by
  show HT.lexLt ((rowT t++rowL r)++ -1::a) ((rowT u++rowL q)++ -1::b)=if eqT t u=true then zax r q else ze t u
  rw [List.append_assoc,List.append_assoc]
  by_cases e:t=u
  ·subst e
   rw [zeW,if_pos (zY t)]
   exact zkS r q a b (fun z=>h (by rw [z]))
  ·rw [if_neg (fun z=>e ((zab t u).mp z))]
   exact zgX t u _ _ e
end
theorem zcJ:∀l:List Int,HT.lexLt l l=false
 | []=>rfl
 | x::r=>by rw [HT.lexLt_cons,if_pos rfl];exact zcJ r
mutual
theorem zB:∀t:Th,ze t t=false
 | .non=>rfl
 | .int a=>by show decide (a < a)=false;exact decide_eq_false (by omega)
 | .str x=>by show decide (x.cps.toList < x.cps.toList)=false;exact decide_eq_false (List.lt_irrefl _)
 | .tup ts=>zcj ts
theorem zcj:∀ts:List Th,zax ts ts=false
 | []=>rfl
 | t::r=>by
  show (if eqT t t=true then zax r r else ze t t)=false
  rw [if_pos (zY t)]
  exact zcj r
end
theorem zap (t u:Th):HT.lexLt (rowT t) (rowT u)=ze t u:=by
 by_cases h:t=u
 ·subst h;rw [zcJ,zB]
 ·have:=zgX t u [] [] h
  rwa [List.append_nil,List.append_nil] at this
theorem zdh {t u:Th}(h:zae t≠zae u):ze t u=decide (zae t < zae u):=by
 have:=zaj h [] []
 rwa [List.append_nil,List.append_nil,zap] at this
theorem zdr {ts us:List Th}{i:Nat}(h1:i < ts.length)(h2:i < us.length):zax (ts.drop i) (us.drop i)=if eqT ts[i] us[i]=true then zax (ts.drop (i+1)) (us.drop (i+1)) else ze ts[i] us[i]:=by
 rw [List.drop_eq_getElem_cons h1,List.drop_eq_getElem_cons h2]
 rfl
theorem zdK (ts us:List Th):zax (ts.drop (min ts.length us.length)) (us.drop (min ts.length us.length))=decide (ts.length < us.length):=by
 by_cases h:ts.length < us.length
 ·rw [Nat.min_eq_left (by omega),List.drop_length,List.drop_eq_getElem_cons h,decide_eq_true h]
  rfl
 ·rw [Nat.min_eq_right (by omega),List.drop_length,decide_eq_false h]
  cases e:ts.drop us.length <;> rfl
end Pv
namespace Pv
open PySem L2
abbrev zbj:Stmt:=top 44
theorem zdZ:zu ["script","k"] ["script","k"] (zd zbj):=⟨rfl,rfl,rfl,by decide+kernel,rfl,by decide+kernel,by decide+kernel⟩
abbrev zc7:Stmt:=top 45
theorem zcw:zu ["cell","k","one"] ["cell","k"] (zd zc7):=⟨rfl,rfl,rfl,by decide+kernel,rfl,by decide+kernel,by decide+kernel⟩
abbrev zb6:Stmt:=top 46
theorem zaS:zu ["cell","way","least","xs","k","wide"] ["cell","way","least"] (zd zb6):=⟨rfl,rfl,rfl,by decide+kernel,rfl,by decide+kernel,by decide+kernel⟩
abbrev zct:Stmt:=top 47
theorem zau:zu ["number","many","signs","text","k"] ["number","many"] (zd zct):=⟨rfl,rfl,rfl,by decide+kernel,rfl,by decide+kernel,by decide+kernel⟩
theorem szl {n:Nat}(h:n≤1000):n≤sizeLine:=Nat.le_of_lt (zhn h)
def zir (K:PySem.W.Frag):Sp:=fun vs H Q _=>∃(a:Addr) (ns:List Int) (k:Int),vs=[.ref a,.int k]∧SqL K H a (ns.map V.int)∧0≤k∧∀c:Int,Q (.int c) H
def zhg:Sp:=fun vs H Q _=>∃(c k:Int),vs=[.int c,.int k]∧0≤k∧k≤1000∧∀r:Int,0≤r→r < 2147483648→Q (.int r) H
def Below (xs ns:List Int):Prop:=xs.length=ns.length∧∀(i:Nat) (a b:Int),xs[i]? =some a→ns[i]? =some b→0≤a∧a < b
def ze4:Sp:=fun vs H Q _=>∃(c m:Int) (p:Addr) (ns:List Int),vs=[.int c,.int m,.ref p]∧H p=some (.lst (ns.map V.int))∧ns.length≤20∧(∀n∈ns,0 < n∧n < 10 ^ 40)∧
 ∀(r:Addr) (xs:List Int) (H':Hp),Same H H'→H' r=some (.lst (xs.map V.int))→Below xs ns→Q (.ref r) H'
def zeR:Sp:=fun vs H Q _=>∃(n m:Int),vs=[.int n,.int m]∧0≤m∧m≤60∧∀x:Str,zio x→Q (.str x) H
instance decSign (c:Nat):Decidable (Sign c):=inferInstanceAs (Decidable (32≤c∧c≤126∧c≠37))
def SGs:Str:=Str.ofString " !\"#$&'()*+,-./0123456789:;<=>?@ABCDEFGHIJKLMNOPQRSTUVWXYZ[\\]^_`" ++Str.ofString "abcdefghijklmnopqrstuvwxyz{|}~"
theorem zln:SGs.cps.toList.length=94:=by decide+kernel
theorem zk0:∀c∈SGs.cps.toList,Sign c:=by decide+kernel
theorem zmv {r:Int}(h0:0≤r)(h1:r < 94):∃c,atI SGs.cps.toList r=some c∧Sign c:=by
 have hl:r.toNat < SGs.cps.toList.length:=by rw [zln];omega
 have er:r=((r.toNat:Nat):Int):=by omega
 have q:atI SGs.cps.toList ((r.toNat:Nat):Int)=some SGs.cps.toList[r.toNat]:=zaH (List.getElem?_eq_getElem hl)
 rw [←er] at q
 exact ⟨_,q,zk0 _ (List.getElem_mem hl)⟩
theorem zjS (x y:Str):(x++y).cps.toList=x.cps.toList++y.cps.toList:=by
 show (x.cps++y.cps).toList=_
 simp
theorem zfF (x y:Str):(x++y).length=x.length+y.length:=by
 show (x.cps++y.cps).size=x.cps.size+y.cps.size
 simp
theorem zj {H H1:Hp}{p:Addr}{o:HO}(sm:Same H H1)(h:H1 p=none):Same H (upd H1 p o):=fun b u q=>by
 have q':=sm b u q
 rw [zk (zl q' h)];exact q'
theorem zaZ {H H1:Hp}{p:Addr}{o:HO}(sm:Same H H1)(h:H p=none):Same H (upd H1 p o):=fun b u q=>by
 rw [zk (zl q h)];exact sm b u q
section
variable {P:Program}{w:World}{K:PySem.W.Frag}{mg:Str→Option Value}{base:Heap}
theorem zgu (D:Dfn K mg "_law_cell_at" zbj ["script","k"]) (m_len:mg "len" =none):Fn P w K mg base "_law_cell_at" 1 ["script","k"] (zir K):=by
 refine D.ok (k:=0) zdZ (fun vs H Q E h=>?_) (fun f cdv A outer s H vs Q E hr h=>?_)
 ·obtain ⟨a,ns,k,rfl,_⟩:=h;rfl
 obtain ⟨a,ns,k,rfl,hS,h0,q⟩:=h
 refine ⟨_,(zb (zP (zH zcL (pv 1) (zF (zJ) (by rfl) m_len (by rfl) (za (pv 0) zc)) (zD _))
 (zg (zq (zr zI (pv 0) (pv 1) (fun _ _=>rfl))))
 zC)
 (zg (zq zf))),?_⟩
 refine ⟨_,rfl,_,rfl,a,_,rfl,.inl hS,_,_,rfl,rfl,_,rfl,?_⟩
 refine ifB (fun c=>?_) (fun c=>?_)
 ·have c':k < (((ns.map V.int).length:Nat):Int):=of_decide_eq_true c
  rw [List.length_map] at c'
  have hk:k.toNat < ns.length:=by omega
  have ek:k=((k.toNat:Nat):Int):=by omega
  have q1:atI (ns.map V.int) ((k.toNat:Nat):Int)=some (.int ns[k.toNat]):=zaH (by rw [List.getElem?_map,List.getElem?_eq_getElem hk] <;> rfl)
  rw [←ek] at q1
  exact ⟨_,rfl,_,rfl,a,_,_,_,rfl,rfl,hS,q1,q _⟩
 ·exact q _
theorem zlH (D:Dfn K mg "_law_mix" zc7 ["cell","k"]):Fn P w K mg base "_law_mix" 1 ["cell","k"] zhg:=by
 refine D.ok (k:=0) zcw (fun vs H Q E h=>?_) (fun f cdv A outer s H vs Q E hr h=>?_)
 ·obtain ⟨c,k,rfl,_⟩:=h;rfl
 obtain ⟨c,k,rfl,k0,k1,q⟩:=h
 refine ⟨_,(zb (zm (i:=2) zcw.nd rfl (Or.inl rfl) (zy zaJ (zy zac (pv 0) (zy zbp zf (zy zac (pv 1) zf))) zf))
 (zb (zm (i:=2) zcw.nd rfl (Or.inl rfl) (zy zaJ (zy zbp (pv 2) (pv 2)) zf))
 (zg (zq (zy zb8 (zy zaJ (zy zbp (pv 2) (zy zac (zy zac (pv 2) zf) (zy zbp zf (pv 1)))) zf) zf))))),?_⟩
 have b0:0≤(c+130363 * (k+1)) % 2147483629:=Int.emod_nonneg _ (by decide)
 have b1:(c+130363 * (k+1)) % 2147483629 < 2147483629:=Int.emod_lt_of_pos _ (by decide)
 refine ⟨_,rfl,_,rfl,_,_,rfl,rfl,_,_,rfl,rfl,.inl ⟨by decide,by decide⟩,_,_,rfl,rfl,_,_,rfl,rfl,(show (0:Int) < 2147483629 by decide),?_⟩
 generalize hd:(c+130363 * (k+1)) % 2147483629=d at b0 b1
 show tSeq _ _ _ (List.set _ _ (some (V.int ((c+130363 * (k+1)) % 2147483629)))) _
 rw [hd]
 have g0:0≤d * d % 2147483587:=Int.emod_nonneg _ (by decide)
 have g1:d * d % 2147483587 < 2147483587:=Int.emod_lt_of_pos _ (by decide)
 refine ⟨_,rfl,_,rfl,_,_,rfl,rfl,.inl ⟨by omega,by omega⟩,_,_,rfl,rfl,(show (0:Int) < 2147483587 by decide),?_⟩
 generalize hf:d * d % 2147483587=g at g0 g1
 show zbS 2 (V.int (d * d % 2147483587)) _ _ _
 rw [hf]
 have z0:0≤g * (g+6007+3 * k) % 2147483579:=Int.emod_nonneg _ (by decide)
 have z1:g * (g+6007+3 * k) % 2147483579 < 2147483579:=Int.emod_lt_of_pos _ (by decide)
 refine ⟨_,rfl,_,rfl,_,_,rfl,rfl,_,rfl,_,_,rfl,rfl,.inl ⟨by decide,by decide⟩,_,_,rfl,rfl,_,_,rfl,rfl,.inl ⟨by omega,by omega⟩,_,_,rfl,rfl,(show (0:Int) < 2147483579 by decide),_,_,rfl,rfl,⟨by decide,by decide+kernel⟩,q _ ?_ ?_⟩
 ·exact Int.ediv_nonneg z0 (by decide)
 ·have:g * (g+6007+3 * k) % 2147483579 / 16≤g * (g+6007+3 * k) % 2147483579:=Int.ediv_le_self _ z0
  exact Int.lt_of_le_of_lt this (Int.lt_trans z1 (by decide))
theorem zdW {xs ns:List Int}{i:Nat}{a b:Int}(h:Below xs (ns.take i))(e:ns[i]? =some b)(h0:0≤a)(h1:a < b):Below (xs++ [a]) (ns.take (i+1)):=by
 have hi:i < ns.length:=(List.getElem?_eq_some_iff.mp e).1
 have hl:xs.length=i:=by rw [h.1,List.length_take];omega
 have et:ns.take (i+1)=ns.take i++ [b]:=by rw [List.take_add_one,e];rfl
 refine ⟨by rw [et,List.length_append,List.length_append,h.1];rfl,fun j u v hu hv=>?_⟩
 by_cases hj:j < i
 ·rw [List.getElem?_append_left (by omega)] at hu
  rw [et,List.getElem?_append_left (by rw [List.length_take];omega)] at hv
  exact h.2 j u v hu hv
 ·have hj2:j < xs.length+1:=by
   have:=(List.getElem?_eq_some_iff.mp hu).1
   rw [List.length_append] at this
   exact this
  have ej:j=i:=by omega
  subst ej
  rw [List.getElem?_append_right (by omega),hl,Nat.sub_self] at hu
  rw [List.getElem?_take_of_lt (by omega),e] at hv
  cases hu;cases hv
  exact ⟨h0,h1⟩
theorem zjo (D:Dfn K mg "_law_parts" zb6 ["cell","way","least"]) (F_law_mix:Fn P w K mg base "_law_mix" 1 ["cell","k"] zhg) (m_range:mg "range" =none) (m_len:mg "len" =none):Fn P w K mg base "_law_parts" 2 ["cell","way","least"] ze4:=by
 refine D.ok (k:=1) zaS (fun vs H Q E h=>?_) (fun f cdv A outer s H vs Q E hr h=>?_)
 ·obtain ⟨c,m,p,ns,rfl,_⟩:=h;rfl
 obtain ⟨c,m,p,ns,rfl,ep,l20,hn,q⟩:=h
 refine ⟨_,(zb (zm (i:=3) zaS.nd rfl (Or.inl rfl) (zaa zc))
 (zb (zak PassesOwn.never rfl (za5 rfl m_range (za (zF (zJ) (by rfl) m_len (by rfl) (za (pv 2) zc)) zc)) (zN (i:=4) zaS.nd rfl (Or.inl rfl))
 (zg (zP (zH zdo (pv 1) zf (zD _))
 (zb (zbi (zdQ PySem.F.plainAttrs_list PySem.F.slot_list_append PySem.F.type_list_append zaM (pv 3) (za (zy zaJ (pv 0) (zr zI (pv 2) (pv 4) (fun _ _=>rfl))) zc)))
 (zg (zm (i:=0) zaS.nd rfl (Or.inl rfl) (zy zb8 (pv 0) (zr zI (pv 2) (pv 4) (fun _ _=>rfl))))))
 (zb (zm (i:=5) zaS.nd rfl (Or.inl rfl) (zy zac (zy zac (zy zbp (zA F_law_mix hr (by omega) (by rfl) (za (pv 0) (za (pv 4) zc))) (zy zbo zf zf)) (zy zbp (zA F_law_mix hr (by omega) (by rfl) (za (pv 0) (za (zy zac (pv 4) zf) zc))) (zy zbo zf zf))) (zA F_law_mix hr (by omega) (by rfl) (za (pv 0) (za (zy zac (pv 4) zf) zc)))))
 (zg (zbi (zdQ PySem.F.plainAttrs_list PySem.F.slot_list_append PySem.F.type_list_append zaM (pv 3) (za (zy zaJ (pv 5) (zr zI (pv 2) (pv 4) (fun _ _=>rfl))) zc))))))))
 (zg (zq (pv 3))))),?_⟩
 refine ⟨szl (show 0≤1000 by decide),fun r hr0=>?_⟩
 have sm0:Same H (upd H r (.lst [])):=zj (Same.refl H) hr0
 refine ⟨_,rfl,p,_,rfl,.inl (SqL.of (sm0 _ _ ep)),?_⟩
 rw [List.length_map]
 refine ⟨_,rfl,by omega,by omega,?_⟩
 rw [Int.toNat_natCast]
 refine zaV (n:=ns.length) (fun i σ H'=>∃(c':Int) (xs:List Int) (k4 k5:Option V),σ=[some (.int c'),some (.int m),some (.ref p),some (.ref r),k4,k5]∧Same H H'∧H' r=some (.lst (xs.map V.int))∧Below xs (ns.take i)) ⟨c,[],_,_,rfl,sm0,zh,rfl,fun i a b h=>by simp at h⟩ ?_ ?_
 ·rintro i σ H1 hi ⟨c',xs,k4,k5,rfl,sm,er,hb⟩
  rw [Int.zero_add]
  have en:ns[i]? =some ns[i]:=List.getElem?_eq_getElem hi
  have hni:=hn _ (List.getElem_mem hi)
  have hxl:xs.length=i:=by rw [hb.1,List.length_take];omega
  have nr:p≠r:=zl ep hr0
  have ei:atI (ns.map V.int) ((i:Nat):Int)=some (.int ns[i]):=zaH (by rw [List.getElem?_map,en];rfl)
  have push:∀{H2:Hp} {u:Int},Same H H2→(xs.map V.int)++ [V.int u]=(xs++ [u]).map V.int:=fun _=>by rw [List.map_append];rfl
  refine ⟨_,rfl,rfl,_,rfl,?_⟩
  refine ifB (fun cc=>?_) (fun cc=>?_)
  ·refine ⟨_,rfl,.inl ⟨rfl,_,SqL.of er⟩,_,rfl,_,rfl,_,rfl,p,_,_,_,rfl,rfl,SqL.of (sm _ _ ep),ei,_,_,rfl,rfl,hni.1,r,_,_,rfl,rfl,er,Nat.lt_of_lt_of_le (show (xs.map V.int).length < 1000 by rw [List.length_map];omega) (szl (Nat.le_refl _)),?_⟩
   have sm1:Same H (upd H1 r (.lst ((xs.map V.int)++ [V.int (c' % ns[i])]))):=zaZ sm hr0
   refine ⟨_,rfl,_,rfl,_,rfl,p,_,_,_,rfl,rfl,SqL.of (sm1 _ _ ep),ei,_,_,rfl,rfl,⟨hni.1,Int.lt_trans hni.2 (by decide+kernel)⟩,?_⟩
   exact ⟨_,xs++ [c' % ns[i]],_,_,rfl,sm1,by rw [zh,List.map_append];rfl,zdW hb en (Int.emod_nonneg _ (by omega)) (Int.emod_lt_of_pos _ hni.1)⟩
  ·refine ⟨_,rfl,_,rfl,c',_,rfl,by omega,by omega,fun r1 a0 a1=>?_⟩
   refine ⟨_,_,rfl,rfl,⟨by decide,by decide,by decide⟩,_,_,rfl,rfl,.inl ⟨by omega,by omega⟩,?_⟩
   refine ⟨_,rfl,_,rfl,_,_,rfl,rfl,c',_,rfl,by omega,by omega,fun r2 b0 b1=>?_⟩
   refine ⟨_,_,rfl,rfl,⟨by decide,by decide,by decide⟩,_,_,rfl,rfl,.inl ⟨by omega,by omega⟩,_,_,rfl,rfl,?_⟩
   refine ⟨_,rfl,_,rfl,_,_,rfl,rfl,c',_,rfl,by omega,by omega,fun r3 d0 d1=>?_⟩
   refine ⟨_,_,rfl,rfl,?_⟩
   refine ⟨_,rfl,.inl ⟨rfl,_,SqL.of er⟩,_,rfl,_,rfl,_,rfl,p,_,_,_,rfl,rfl,SqL.of (sm _ _ ep),ei,_,_,rfl,rfl,hni.1,r,_,_,rfl,rfl,er,Nat.lt_of_lt_of_le (show (xs.map V.int).length < 1000 by rw [List.length_map];omega) (szl (Nat.le_refl _)),?_⟩
   exact ⟨_,xs++ [_],_,_,rfl,zaZ sm hr0,by rw [zh,List.map_append];rfl,zdW hb en (Int.emod_nonneg _ (by omega)) (Int.emod_lt_of_pos _ hni.1)⟩
 ·rintro σ H1 ⟨c',xs,k4,k5,rfl,sm,er,hb⟩
  rw [List.take_length] at hb
  exact ⟨_,rfl,q r xs H1 sm er hb⟩
theorem ziY (D:Dfn K mg "_law_text" zct ["number","many"]) (m_range:mg "range" =none):Fn P w K mg base "_law_text" 1 ["number","many"] zeR:=by
 refine D.ok (k:=0) zau (fun vs H Q E h=>?_) (fun f cdv A outer s H vs Q E hr h=>?_)
 ·obtain ⟨n,m,rfl,_⟩:=h;rfl
 obtain ⟨n,m,rfl,m0,m1,q⟩:=h
 refine ⟨_,(zb (zm (i:=2) zau.nd rfl (Or.inl rfl) zcz)
 (zb (zm (i:=2) zau.nd rfl (Or.inl rfl) (zy zdI (pv 2) zcz))
 (zb (zm (i:=3) zau.nd rfl (Or.inl rfl) zcz)
 (zb (zak PassesOwn.never rfl (za5 rfl m_range (za (pv 1) zc)) (zN (i:=4) zau.nd rfl (Or.inl rfl))
 (zb (zm (i:=3) zau.nd rfl (Or.inl rfl) (zy zdI (pv 3) (zr zk6 (pv 2) (zy zaJ (pv 0) zf) (fun _ _=>rfl))))
 (zg (zm (i:=0) zau.nd rfl (Or.inl rfl) (zy zb8 (pv 0) zf)))))
 (zg (zq (pv 3))))))),?_⟩
 refine ⟨_,rfl,_,_,rfl,rfl,szl (by decide+kernel),?_⟩
 refine ⟨_,rfl,_,rfl,by omega,by omega,?_⟩
 refine zaV (n:=m.toNat) (fun i σ H'=>H'=H∧∃(n':Int) (x:Str) (kk:Option V),σ=[some (.int n'),some (.int m),some (.str SGs),some (.str x),kk]∧x.length=i∧(∀c∈x.cps.toList,Sign c)) ⟨rfl,n,Str.ofString "",_,rfl,by decide+kernel,by decide+kernel⟩ ?_ ?_
 ·rintro i σ H' hi ⟨rfl,n',x,kk,rfl,hl,hs⟩
  obtain ⟨c,ec,hc⟩:=zmv (Int.emod_nonneg n' (by decide)) (Int.emod_lt_of_pos n' (show (0:Int) < 94 by decide))
  refine ⟨_,rfl,_,rfl,_,rfl,_,_,rfl,rfl,(show (0:Int) < 94 by decide),SGs,_,c,rfl,rfl,szl (by decide+kernel),ec,?_⟩
  refine ⟨_,_,rfl,rfl,szl (show x.length+1≤1000 by omega),?_⟩
  refine ⟨_,rfl,_,_,rfl,rfl,⟨by decide,by decide+kernel⟩,?_⟩
  refine ⟨rfl,_,_,_,rfl,by rw [zfF,hl];rfl,fun d hd=>?_⟩
  rw [zjS] at hd
  rcases List.mem_append.mp hd with hd | hd
  ·exact hs d hd
  ·have e:d=c:=by simpa using hd
   rw [e];exact hc
 ·rintro σ H' ⟨rfl,n',x,kk,rfl,hl,hs⟩
  exact ⟨_,rfl,q x ⟨by omega,hs⟩⟩
end
end Pv
namespace Pv
open PySem L2
abbrev zjt:Stmt:=top 6
abbrev zfZ:Stmt:=top 7
abbrev zcn:Stmt:=top 8
theorem zeX:zu ["thing","folded","code"] ["thing"] (zd zjt):=⟨rfl,rfl,rfl,by decide+kernel,rfl,by decide+kernel,by decide+kernel⟩
theorem zcW:zu ["thing","raised","sevens","row","part"] ["thing"] (zd zfZ):=⟨rfl,rfl,rfl,by decide+kernel,rfl,by decide+kernel,by decide+kernel⟩
theorem zbe:zu ["signs","number","sign"] ["signs"] (zd zcn):=⟨rfl,rfl,rfl,by decide+kernel,rfl,by decide+kernel,by decide+kernel⟩
def zg1:Sp:=fun vs H Q _=>∃x:Str,vs=[.str x]∧Q (.int (numOf x.cps.toList)) H
def zg9 (n:Nat):Sp:=fun vs H Q _=>∃(t:Th) (v:V),vs=[v]∧Rep H t v∧Wf t∧dep t < n∧nodes t≤100∧∀(r:Addr) (H':Hp),Same H H'→H' r=some (.lst ((zay t).map V.int))→Q (.ref r) H'
def zcY:Sp:=fun vs H Q _=>∃(t:Th) (v:V),vs=[v]∧Rep H t v∧Wf t∧dep t < 10∧nodes t≤100∧∀(H':Hp),Same H H'→Q (.int (zZ t)) H'
section
variable {P:Program}{w:World}{K:PySem.W.Frag}{mg:Str→Option Value}{base:Heap}
theorem zeS (D:Dfn K mg "number_of" zcn ["signs"]) (m_ord:mg "ord" =none):Fn P w K mg base "number_of" 1 ["signs"] zg1:=by
 refine D.ok (k:=0) zbe (fun vs H Q E h=>?_) (fun f cdv A outer s H vs Q E hr h=>?_)
 ·obtain ⟨x,rfl,_⟩:=h;rfl
 obtain ⟨x,rfl,q⟩:=h
 refine ⟨_,(zb (zm (i:=1) zbe.nd rfl (Or.inl rfl) zf)
 (zb (zak PassesOwn.never rfl (zl2 (pv 0)) (zN (i:=2) zbe.nd rfl (Or.inl rfl))
 (zg (zm (i:=1) zbe.nd rfl (Or.inl rfl) (zy zac (zy zbp (pv 1) zf) (zF (zi8) (by rfl) m_ord (by rfl) (za (pv 2) zc))))))
 (zg (zq (pv 1))))),?_⟩
 refine ⟨_,rfl,x,rfl,?_⟩
 refine zj0 (z:=x) (fun i σ H'=>H'=H∧∃kk,σ=[some (.str x),some (.int (numOf (x.cps.toList.take i))),kk]) ⟨rfl,_,rfl⟩ ?_ ?_
 ·rintro i c σ H' hc ⟨rfl,kk,rfl⟩
  refine ⟨_,rfl,_,_,rfl,rfl,.inr ⟨by decide,by decide⟩,_,rfl,_,rfl,rfl,_,_,rfl,rfl,rfl,some (.str ⟨#[c]⟩),?_⟩
  have e:x.cps.toList.take (i+1)=x.cps.toList.take i++ [c]:=by
   rw [List.take_add_one,Array.getElem?_toList,hc];rfl
  rw [e,zf0]
  rfl
 ·rintro σ H' ⟨rfl,kk,rfl⟩
  refine ⟨_,rfl,?_⟩
  have e:x.cps.toList.take x.cps.size=x.cps.toList:=List.take_of_length_le (by simp)
  rw [e]
  exact q
theorem zfB (D:Dfn K mg "codes" zfZ ["thing"]) (F_number_of:Fn P w K mg base "number_of" 1 ["signs"] zg1) (m_isinstance:mg "isinstance" =none) (m_int:mg "int" =none) (m_str:mg "str" =none) (m_range:mg "range" =none) (m_len:mg "len" =none):
  ∀n:Nat,Fn P w K mg base "codes" (n+2) ["thing"] (zg9 n)
 | 0=>D.never fun vs H Q E h=>by
   obtain ⟨t,v,_,_,_,h1,_⟩:=h
   omega
 | n+1=>by
  have F_codes:=zfB D F_number_of m_isinstance m_int m_str m_range m_len n
  refine D.ok (k:=n+2) zcW (fun vs H Q E h=>?_) (fun f cdv A outer s H vs Q E hr h=>?_)
  ·obtain ⟨t,v,rfl,_⟩:=h;rfl
  obtain ⟨t,v,rfl,hrep,hwf,hdep,hnod,q⟩:=h
  have hlen:=zc0 t hwf
  refine ⟨_,(zb (zP (zH zbl (pv 0) zaw (zD _))
 (zg (zq (zaa (za zf zc))))
 zC)
 (zb (zP (z6 (zF (zX) (by rfl) m_isinstance (by rfl) (za (pv 0) (za (zat (v:=.ty "int") (by rfl) m_int (by rfl) rfl) zc))))
 (zb (zm (i:=1) zcW.nd rfl (Or.inl rfl) (zy zac (pv 0) (zy zbo zf zf)))
 (zg (zq (zaa (za zf (za (zy zb8 (pv 1) (zy zbo zf zf)) (za (zy zaJ (pv 1) (zy zbo zf zf)) zc)))))))
 zC)
 (zb (zP (z6 (zF (zX) (by rfl) m_isinstance (by rfl) (za (pv 0) (za (zat (v:=.ty "str") (by rfl) m_str (by rfl) rfl) zc))))
 (zb (zjy (i:=2) (zQ.one (y:= "thing") (j:=0) (c:=s.heap.objs.size+1) (by rfl) (by rfl) (by decide+kernel) (by decide+kernel) (by rfl) (by decide+kernel) (by rfl) (by decide+kernel) (by rfl) (by first | exact Or.inl rfl | exact Or.inr rfl) (by first | exact Or.inl rfl | exact Or.inr rfl)) rfl (zhL rfl m_range (za zf (za (zF (zbh.or zJ zbG) (by rfl) m_len (by rfl) (za (pv 0) zc)) (za zf zc)))) (fun _ _ _=>zdw) (fun _ _ _=>(zao zlm (pv 1) (zan (pv 0)) (zan (zy zac (pv 0) zf)))) zcW.nd rfl (Or.inl rfl) (by rfl))
 (zg (zq (zy zcv (zaa (za zf (za (zF (zbh.or zJ zbG) (by rfl) m_len (by rfl) (za (pv 0) zc)) zc))) (zeb (zQ.zero (by rfl) (by decide+kernel) (by decide+kernel) (by decide+kernel) (by rfl)) rfl (zaY (pv 2)) (fun _ _ _=>zdw) (fun _ _ _=>(zA F_number_of hr (by omega) (by rfl) (za (pv 0) zc))))))))
 zC)
 (zb (zm (i:=3) zcW.nd rfl (Or.inl rfl) (zaa (za zf (za (zF (zbh.or zJ zbG) (by rfl) m_len (by rfl) (za (pv 0) zc)) zc))))
 (zb (zak PassesOwn.never rfl (zk5 (pv 0)) (zN (i:=4) zcW.nd rfl (Or.inl rfl))
 (zg (zbi (zdQ PySem.F.plainAttrs_list PySem.F.slot_list_extend PySem.F.type_list_extend zhy (pv 3) (za (zA F_codes hr (by omega) (by rfl) (za (pv 4) zc)) zc)))))
 (zg (zq (pv 3)))))))),?_⟩
  refine ⟨_,rfl,rfl,_,rfl,?_⟩
  cases hrep with
  | non=>
   refine ifT (by decide) ?_
   refine ⟨szl (show 1≤1000 by decide),fun p hp=>?_⟩
   exact q p _ (Frm.new hp).same zh
  | int i=>
   refine ifF (by rfl) ?_
   refine ⟨_,rfl,_,_,_,_,rfl,.int i,rfl,_,rfl,?_⟩
   refine ifT rfl ?_
   refine ⟨_,rfl,_,_,rfl,rfl,⟨by decide,by decide,by decide⟩,_,_,rfl,rfl,?_⟩
   refine ⟨_,rfl,_,_,rfl,rfl,⟨by decide,by decide,by decide⟩,_,_,rfl,rfl,⟨by decide+kernel,by decide+kernel⟩,_,rfl,_,_,rfl,rfl,⟨by decide,by decide,by decide⟩,_,_,rfl,rfl,(show (0:Int) < 10 ^ (15:Int).toNat by decide+kernel),szl (show 3≤1000 by decide),fun p hp=>?_⟩
   exact q p _ (Frm.new hp).same zh
  | str x=>
   have hx:x.length≤60:=hwf.1
   refine ifF (by rfl) ?_
   refine ⟨_,rfl,_,_,_,_,rfl,.str x,rfl,_,rfl,?_⟩
   refine ifF rfl ?_
   refine ⟨_,rfl,_,_,_,_,rfl,.str x,rfl,_,rfl,?_⟩
   refine ifT rfl ?_
   refine ⟨_,rfl,.inr ⟨x,rfl,szl (by omega),?_⟩⟩
   refine ⟨_,_,rfl,by omega,by omega,by decide,by decide,fun p hp=>?_⟩
   rw [zhq]
   refine zgE (J:=Itrs 0 7 (za3 x)) (n:=za3 x) (fun i acc H'=>acc=(List.range i).map (fun k=>V.str (zeL x k))∧H'=upd H p (.lst acc)) ⟨rfl,rfl⟩ (by exact fun i acc H' hi _=>hi) (by exact fun acc H' _=>Nat.le_refl _) ?_ ?_
   ·rintro i acc H' y H'' hi ⟨ha,rfl⟩ ⟨e1,e2⟩
    subst e1 e2
    refine tt1 ?_
    refine ⟨_,rfl,_,rfl,_,rfl,_,rfl,_,_,rfl,rfl,_,rfl,x,rfl,szl (by omega),?_⟩
    have hal:acc.length=i:=by rw [ha,List.length_map,List.length_range]
    refine ⟨zh,Nat.lt_of_lt_of_le (show acc.length < 1000 by unfold za3 at hi;omega) (szl (Nat.le_refl _)),nxt hi ⟨?_,zgY⟩⟩
    rw [List.range_succ,List.map_append,ha,zhX hi]
    rfl
   ·rintro acc H' ⟨ha,rfl⟩
    refine ⟨_,rfl,.inr ⟨x,rfl,szl (by omega),szl (show 2≤1000 by decide),fun p2 hp2=>?_⟩⟩
    have np:p≠p2:=fun z=>by rw [←z,zh] at hp2;cases hp2
    have ep:upd (upd H p (.lst acc)) p2 (.lst [.int 3,.int (x.length:Nat)]) p=some (.lst acc):=by rw [zk np];exact zh
    have hal:acc.length=za3 x:=by rw [ha,List.length_map,List.length_range]
    refine ⟨_,rfl,p,rfl,⟨_,SqL.of ep⟩,fun p3 hp3=>?_⟩
    have np3:p≠p3:=(zl ep hp3)
    have np23:p2≠p3:=(zl zh hp3)
    refine zgE (n:=za3 x) (fun i acc' H'=>acc'=(List.range i).map (fun k=>V.int (numOf (chunk x k)))∧H'=upd (upd (upd H p (.lst acc)) p2 (.lst [.int 3,.int (x.length:Nat)])) p3 (.lst acc')) ⟨rfl,rfl⟩ ?_ ?_ ?_ ?_
    ·rintro i acc' H' hi ⟨_,rfl⟩
     exact ⟨acc,acc[i],SqL.of (by rw [zk np3];exact ep),by rw [List.getElem?_eq_getElem]⟩
    ·rintro acc' H' ⟨_,rfl⟩
     exact ⟨acc,SqL.of (by rw [zk np3];exact ep),by omega⟩
    ·rintro i acc' H' y H'' hi ⟨ha',rfl⟩ ⟨e1,e2⟩
     subst e1
     have ey:=e2 acc (SqL.of (by rw [zk np3];exact ep))
     have ey2:y=V.str (zeL x i):=by
      rw [ha,List.getElem?_map,List.getElem?_range hi] at ey
      exact (Option.some.inj ey).symm
     subst ey2
     refine tt1 ?_
     refine ⟨_,rfl,_,rfl,zh,?_,nxt hi ⟨?_,zgY⟩⟩
     ·have:acc'.length=i:=by rw [ha',List.length_map,List.length_range]
      exact Nat.lt_of_lt_of_le (show acc'.length < 1000 by unfold za3 at hi;omega) (szl (Nat.le_refl _))
     ·rw [List.range_succ,List.map_append,ha']
      rfl
    ·rintro acc' H' ⟨ha',rfl⟩
     have hal':acc'.length=za3 x:=by rw [ha',List.length_map,List.length_range]
     refine ⟨p2,p3,[.int 3,.int (x.length:Nat)],acc',rfl,rfl,by rw [zk np23];exact zh,zh,szl (show 2+acc'.length≤1000 by unfold za3 at hal';omega),fun r hr'=>?_⟩
     refine q r _ (fun b o hb=>?_) ?_
     ·have n1:=zl hb hp
      have e1:upd H p (.lst acc) b=some o:=by rw [zk n1];exact hb
      have n2:=zl e1 hp2
      have e2:upd (upd H p (.lst acc)) p2 (.lst [.int 3,.int (x.length:Nat)]) b=some o:=by rw [zk n2];exact e1
      have n3:=zl e2 hp3
      have e3:upd (upd (upd H p (.lst acc)) p2 (.lst [.int 3,.int (x.length:Nat)])) p3 (.lst acc') b=some o:=by rw [zk n3];exact e2
      rw [zk (zl e3 hr')]
      exact e3
     ·rw [zh,ha']
      show some (HO.lst ([V.int 3,V.int (x.length:Nat)]++_))=some (HO.lst (([3,(x.length:Int)]++zdb x).map V.int))
      rw [List.map_append]
      unfold zdb
      rw [List.map_map]
      rfl
  | @tup a xs ts e hl hrs=>
   have hw:ts.length≤40:=hwf.1
   refine ifF (by rfl) ?_
   refine ⟨_,rfl,_,_,_,_,rfl,.tup e,rfl,_,rfl,?_⟩
   refine ifF rfl ?_
   refine ⟨_,rfl,_,_,_,_,rfl,.tup e,rfl,_,rfl,?_⟩
   refine ifF rfl ?_
   refine ⟨_,rfl,.inl ⟨a,_,rfl,.inr (SqT.of e),szl (show 2≤1000 by decide),fun rw hrw=>?_⟩⟩
   have nra:a≠rw:=zl e hrw
   have keepT:∀{H':Hp},Same H H'→Tups H H':=fun z=>Same.tups z
   refine ⟨_,rfl,a,rfl,⟨_,SqT.of (by rw [zk nra];exact e)⟩,?_⟩
   refine zks (xs:=xs) (fun i σ H'=>∃kk,σ=[some (.ref a),none,none,some (.ref rw),kk]∧Same H H'∧H' rw=some (.lst (([4,(ts.length:Int)]++zas (ts.take i)).map V.int))) ⟨_,rfl,(Frm.new hrw).same,?_⟩ ?_ ?_ ?_
   ·rw [zh,hl]
    rfl
   ·rintro i σ H' hi ⟨kk,rfl,sm,er⟩
    exact SqT.of (sm _ _ e)
   ·rintro i x σ H' hx ⟨kk,rfl,sm,er⟩
    have hil:i < ts.length:=by rw [←hl];exact (List.getElem?_eq_some_iff.mp hx).1
    have ht:ts[i]? =some ts[i]:=List.getElem?_eq_getElem hil
    have hcl:=zcl ts hwf.2
    have hcl':=zbT ts i
    have hcn:1+zcb ts≤100:=hnod
    have hsub:nodes ts[i]≤zcb ts:=zeh ht
    refine ⟨_,rfl,.inl ⟨rfl,_,SqL.of er⟩,_,rfl,ts[i],x,rfl,(hrs i x _ hx ht).keep (keepT sm),hwf.2.get ht,?_,by omega,fun r H2 sm2 er2=>?_⟩
    ·have:=zaP ht
     have:depL ts+1 < n+1:=hdep
     omega
    have hc1:=zc0 ts[i] (hwf.2.get ht)
    refine ⟨rw,r,_,_,rfl,rfl,sm2 _ _ er,er2,szL ?_,?_⟩
    ·simp only [List.length_map,List.length_append,List.length_cons,List.length_nil]
     omega
    ·refine ⟨_,rfl,fun b o hb=>?_,?_⟩
     ·rw [zk (zl hb hrw)]
      exact sm2 _ _ (sm _ _ hb)
     ·rw [zh,zfH ht]
      simp only [List.map_append,List.append_assoc]
   ·rintro σ H' ⟨kk,rfl,sm,er⟩
    refine ⟨_,rfl,q rw H' sm ?_⟩
    rw [er,hl,List.take_length]
    rfl
theorem zkA (D:Dfn K mg "seal" zjt ["thing"]) (F_codes:Fn P w K mg base "codes" 12 ["thing"] (zg9 10)):Fn P w K mg base "seal" 13 ["thing"] zcY:=by
 refine D.ok (k:=12) zeX (fun vs H Q E h=>?_) (fun f cdv A outer s H vs Q E hr h=>?_)
 ·obtain ⟨t,v,rfl,_⟩:=h;rfl
 obtain ⟨t,v,rfl,hrep,hwf,hdep,hnod,q⟩:=h
 refine ⟨_,(zb (zm (i:=1) zeX.nd rfl (Or.inl rfl) zf)
 (zb (zak PassesOwn.never rfl (zaY (zA F_codes hr (by omega) (by rfl) (za (pv 0) zc))) (zN (i:=2) zeX.nd rfl (Or.inl rfl))
 (zg (zm (i:=1) zeX.nd rfl (Or.inl rfl) (zy zaJ (zy zac (zy zbp (pv 1) zf) (pv 2)) (zy zbk (zy zbo zf zf) zf)))))
 (zg (zq (zy zac (pv 1) zf))))),?_⟩
 refine ⟨_,rfl,t,v,rfl,hrep,hwf,hdep,hnod,fun r H1 sm er=>?_⟩
 refine ⟨r,rfl,⟨_,SqL.of er⟩,?_⟩
 refine zbq (xs:=(zay t).map V.int) (fun i σ H'=>H'=H1∧∃kk,σ=[some v,some (.int (zcT ((zay t).take i))),kk]) ⟨rfl,_,rfl⟩ ?_ ?_ ?_
 ·rintro i σ H' _ ⟨rfl,_⟩
  exact SqL.of er
 ·rintro i x σ H' hx ⟨rfl,kk,rfl⟩
  rw [List.getElem?_map] at hx
  obtain ⟨c,hc,rfl⟩:=Option.map_eq_some_iff.mp hx
  have rg:=zdl ((zay t).take i)
  have e61:(2:Int) ^ (61:Int).toNat - 1=2305843009213693951:=by decide+kernel
  refine ⟨_,rfl,_,_,rfl,rfl,.inl ⟨by omega,by omega⟩,_,rfl,_,_,rfl,rfl,_,_,rfl,rfl,⟨by decide,by decide,by decide⟩,_,_,rfl,rfl,_,_,rfl,rfl,(show (0:Int) < 2 ^ (61:Int).toNat - 1 by decide+kernel),rfl,some (.int c),?_⟩
  rw [zgi hc,←e61]
  rfl
 ·rintro σ H' ⟨rfl,kk,rfl⟩
  refine ⟨_,rfl,_,_,rfl,rfl,?_⟩
  rw [List.length_map,List.take_length]
  exact q _ sm
end
end Pv
namespace Pv
open PySem L2
abbrev zeg:Stmt:=top 11
abbrev zgc:Stmt:=top 12
abbrev zaI:Stmt:=top 13
theorem zhr:zu ["thing"] ["thing"] (zd zeg):=⟨rfl,rfl,rfl,by decide+kernel,rfl,by decide+kernel,by decide+kernel⟩
theorem zhf:zu ["one","other","kind"] ["one","other"] (zd zgc):=⟨rfl,rfl,rfl,by decide+kernel,rfl,by decide+kernel,by decide+kernel⟩
theorem zaU:zu ["one","other","mine","its"] ["one","other"] (zd zaI):=⟨rfl,rfl,rfl,by decide+kernel,rfl,by decide+kernel,by decide+kernel⟩
def zdP:Sp:=fun vs H Q _=>∃(t:Th) (v:V),vs=[v]∧Rep H t v∧Q (.int (zae t)) H
def zdz (n:Nat):Sp:=fun vs H Q _=>∃(t u:Th) (v w:V),vs=[v,w]∧Rep H t v∧Rep H u w∧dep t < n∧dep t≤40∧∀H':Hp,Same H H'→Q (.bl (ze t u)) H'
def ziZ (n:Nat):Sp:=fun vs H Q _=>∃(ts us:List Th) (v w:V),vs=[v,w]∧Rep H (.tup ts) v∧Rep H (.tup us) w∧depL ts < n∧depL ts≤39∧∀H':Hp,Same H H'→Q (.bl (zax ts us)) H'
section
variable {P:Program}{w:World}{K:PySem.W.Frag}{mg:Str→Option Value}{base:Heap}
theorem zkw (D:Dfn K mg "kind_of" zeg ["thing"]) (m_isinstance:mg "isinstance" =none) (m_int:mg "int" =none) (m_str:mg "str" =none):Fn P w K mg base "kind_of" 1 ["thing"] zdP:=by
 refine D.ok (k:=0) zhr (fun vs H Q E h=>?_) (fun f cdv A outer s H vs Q E hr h=>?_)
 ·obtain ⟨t,v,rfl,_⟩:=h;rfl
 obtain ⟨t,v,rfl,rt,q⟩:=h
 refine ⟨_,(zb (zP (zH zbl (pv 0) zaw (zD _))
 (zg (zq zf))
 zC)
 (zb (zP (z6 (zF (zX) (by rfl) m_isinstance (by rfl) (za (pv 0) (za (zat (v:=.ty "int") (by rfl) m_int (by rfl) rfl) zc))))
 (zg (zq zf))
 zC)
 (zb (zP (z6 (zF (zX) (by rfl) m_isinstance (by rfl) (za (pv 0) (za (zat (v:=.ty "str") (by rfl) m_str (by rfl) rfl) zc))))
 (zg (zq zf))
 zC)
 (zg (zq zf))))),?_⟩
 refine ⟨_,rfl,rfl,_,rfl,?_⟩
 cases rt with
 | non=>exact ifT (by decide) q
 | int i=>
  refine ifF (by rfl) ?_
  refine ⟨_,rfl,_,_,_,_,rfl,.int i,rfl,_,rfl,?_⟩
  exact ifT rfl q
 | str x=>
  refine ifF (by rfl) ?_
  refine ⟨_,rfl,_,_,_,_,rfl,.str x,rfl,_,rfl,?_⟩
  refine ifF rfl ?_
  refine ⟨_,rfl,_,_,_,_,rfl,.str x,rfl,_,rfl,?_⟩
  exact ifT rfl q
 | tup e l h=>
  refine ifF (by rfl) ?_
  refine ⟨_,rfl,_,_,_,_,rfl,.tup e,rfl,_,rfl,?_⟩
  refine ifF rfl ?_
  refine ⟨_,rfl,_,_,_,_,rfl,.tup e,rfl,_,rfl,?_⟩
  exact ifF rfl q
theorem zhP {n:Nat}(D:Dfn K mg "is_tuple_ahead" zaI ["one","other"]) (F_ahead:Fn P w K mg base "ahead" (2 * n+2) ["one","other"] (zdz n)) (m_zip:mg "zip" =none) (m_len:mg "len" =none):Fn P w K mg base "is_tuple_ahead" (2 * n+3) ["one","other"] (ziZ n):=by
 refine D.ok (k:=2 * n+2) zaU (fun vs H Q E h=>?_) (fun f cdv A outer s H vs Q E hr h=>?_)
 ·obtain ⟨ts,us,v,w,rfl,_⟩:=h;rfl
 obtain ⟨ts,us,v,w,rfl,r1,r2,hd,hd40,q⟩:=h
 cases r1 with
 | @tup a xs _ e1 l1 h1=>
 cases r2 with
 | @tup b ys _ e2 l2 h2=>
 refine ⟨_,(zb (zak PassesOwn.never rfl (zlK (by rfl) m_zip (za (pv 0) (za (pv 1) zc))) (zca rfl (z7 (zN (i:=2) zaU.nd rfl (Or.inl rfl)) (z7 (zN (i:=3) zaU.nd rfl (Or.inl rfl)) zbf)))
 (zg (zP (zH (zdy hr) (pv 2) (pv 3) (zD _))
 (zg (zq (zA F_ahead hr (by omega) (by rfl) (za (pv 2) (za (pv 3) zc)))))
 zC)))
 (zg (zq (zad zcL (zF (zJ) (by rfl) m_len (by rfl) (za (pv 0) zc)) (zF (zJ) (by rfl) m_len (by rfl) (za (pv 1) zc)) (zD _))))),?_⟩
 refine ⟨_,rfl,_,rfl,a,b,xs,ys,rfl,SqT.of e1,SqT.of e2,?_⟩
 refine zjH (K:=K) (p:=a) (q:=b) (xs:=xs) (us:=ys) (fun i σ H'=>∃k2 k3,σ=[some (.ref a),some (.ref b),k2,k3]∧Same H H'∧zax ts us=zax (ts.drop i) (us.drop i)) ⟨_,_,rfl,Same.refl _,rfl⟩ ?_ ?_ ?_
 ·rintro i σ H1 ⟨k2,k3,rfl,sm,_⟩
  exact ⟨SqT.of (sm _ _ e1),SqT.of (sm _ _ e2)⟩
 ·rintro i x u T σ H1 hx hu hT ⟨k2,k3,rfl,sm,ea⟩
  have hi:i < ts.length:=by rw [←l1];exact (List.getElem?_eq_some_iff.mp hx).1
  have hj:i < us.length:=by rw [←l2];exact (List.getElem?_eq_some_iff.mp hu).1
  have ht:ts[i]? =some ts[i]:=List.getElem?_eq_getElem hi
  have hv:us[i]? =some us[i]:=List.getElem?_eq_getElem hj
  have tk:Tups H (upd H1 T (.tup [x,u])):=(Same.tups sm).trans (Tups.new hT)
  have ra:=(h1 i x _ hx ht).keep tk
  have rb:=(h2 i u _ hu hv).keep tk
  have hdi:=zaP ht
  refine ⟨T,_,rfl,SqT.of zh,rfl,_,_,rfl,_,_,rfl,rfl,?_⟩
  refine ⟨_,rfl,_,rfl,ts[i],us[i],ra,rb,by omega,_,rfl,?_⟩
  have sm':Same H (upd H1 T (.tup [x,u])):=fun c o hc=>by rw [zk (zl (sm _ _ hc) hT)];exact sm _ _ hc
  rw [zdr hi hj] at ea
  refine ifB (fun c=>?_) (fun c=>?_)
  ·have ne:¬eqT ts[i] us[i]=true:=by
    intro z
    rw [z] at c
    cases c
   rw [if_neg ne] at ea
   refine ⟨_,rfl,_,rfl,ts[i],us[i],_,_,rfl,ra,rb,by omega,by omega,fun H2 s2=>?_⟩
   rw [←ea]
   exact q H2 (sm'.trans s2)
  ·have eq:eqT ts[i] us[i]=true:=by
    cases z:eqT ts[i] us[i] with
    | true=>rfl
    | false=>rw [z] at c;cases c
   rw [if_pos eq] at ea
   exact ⟨_,_,rfl,sm',ea⟩
 ·rintro σ H1 ⟨k2,k3,rfl,sm,ea⟩
  refine ⟨_,rfl,a,_,rfl,.inr (SqT.of (sm _ _ e1)),_,rfl,b,_,rfl,.inr (SqT.of (sm _ _ e2)),_,_,rfl,rfl,?_⟩
  rw [l1,l2,zdK] at ea
  have ed:decide ((xs.length:Int) < (ys.length:Int))=zax ts us:=by
   rw [ea,l1,l2]
   rw [Bool.eq_iff_iff]
   simp
  show Q (.bl (decide ((xs.length:Int) < (ys.length:Int)))) H1
  rw [ed]
  exact q H1 sm
theorem zfe (Da:Dfn K mg "ahead" zgc ["one","other"]) (Dt:Dfn K mg "is_tuple_ahead" zaI ["one","other"]) (F_kind_of:Fn P w K mg base "kind_of" 1 ["thing"] zdP) (m_zip:mg "zip" =none) (m_len:mg "len" =none) (m_isinstance:mg "isinstance" =none) (m_tuple:mg "tuple" =none):
  ∀n:Nat,Fn P w K mg base "ahead" (2 * n+2) ["one","other"] (zdz n)
 | 0=>Da.never fun vs H Q E h=>by
   obtain ⟨t,u,v,w,_,_,_,h1,_⟩:=h
   omega
 | n+1=>by
  have F_is_tuple_ahead:=zhP Dt (zfe Da Dt F_kind_of m_zip m_len m_isinstance m_tuple n) m_zip m_len
  refine Da.ok (k:=2 * n+3) zhf (fun vs H Q E h=>?_) (fun f cdv A outer s H vs Q E hr h=>?_)
  ·obtain ⟨t,u,v,w,rfl,_⟩:=h;rfl
  obtain ⟨t,u,v,w,rfl,r1,r2,hd,hd40,q⟩:=h
  refine ⟨_,(zb (zm (i:=2) zhf.nd rfl (Or.inl rfl) (zA F_kind_of hr (by omega) (by rfl) (za (pv 0) zc)))
 (zb (zP (zH zbU (pv 2) (zA F_kind_of hr (by omega) (by rfl) (za (pv 1) zc)) (zD _))
 (zg (zq (zad zcL (pv 2) (zA F_kind_of hr (by omega) (by rfl) (za (pv 1) zc)) (zD _))))
 zC)
 (zb (zP (zH zbl (pv 0) zaw (zD _))
 (zg (zq za6))
 zC)
 (zb (zP (z6 (zF (zX) (by rfl) m_isinstance (by rfl) (za (pv 0) (za (zat (v:=.ty "tuple") (by rfl) m_tuple (by rfl) rfl) zc))))
 (zg (zq (zA F_is_tuple_ahead hr (by omega) (by rfl) (za (pv 0) (za (pv 1) zc)))))
 zC)
 (zg (zq (zad (OpR.or zcL zex) (pv 0) (pv 1) (zD _)))))))),?_⟩
  refine ⟨_,rfl,t,v,rfl,r1,?_⟩
  refine ⟨_,rfl,_,rfl,u,w,rfl,r2,rfl,_,rfl,?_⟩
  rw [za9]
  refine ifB (fun c=>?_) (fun c=>?_)
  ·have ne:zae t≠zae u:=fun z=>by rw [decide_eq_true z] at c;cases c
   refine ⟨_,rfl,_,rfl,u,w,rfl,r2,_,_,rfl,rfl,?_⟩
   show Q (.bl (decide (zae t < zae u))) H
   rw [←zdh ne]
   exact q H (Same.refl _)
  ·have eq:zae t=zae u:=by
    by_cases z:zae t=zae u
    ·exact z
    ·rw [decide_eq_false z] at c;cases c
   refine ⟨_,rfl,rfl,_,rfl,?_⟩
   cases r1 with
   | non=>
    refine ifT (by decide) ?_
    cases r2 with
    | non=>exact q H (Same.refl _)
    | int i=>exact absurd eq (by show (0:Int)≠1;decide)
    | str x=>exact absurd eq (by show (0:Int)≠2;decide)
    | tup e l h=>exact absurd eq (by show (0:Int)≠3;decide)
   | int i=>
    refine ifF (by rfl) ?_
    refine ⟨_,rfl,_,_,_,_,rfl,.int i,rfl,_,rfl,?_⟩
    refine ifF rfl ?_
    cases r2 with
    | non=>exact absurd eq (by show (1:Int)≠0;decide)
    | int j=>exact ⟨_,rfl,_,rfl,.inl ⟨_,_,rfl,rfl,q H (Same.refl _)⟩⟩
    | str x=>exact absurd eq (by show (1:Int)≠2;decide)
    | tup e l h=>exact absurd eq (by show (1:Int)≠3;decide)
   | str x=>
    refine ifF (by rfl) ?_
    refine ⟨_,rfl,_,_,_,_,rfl,.str x,rfl,_,rfl,?_⟩
    refine ifF rfl ?_
    cases r2 with
    | non=>exact absurd eq (by show (2:Int)≠0;decide)
    | int j=>exact absurd eq (by show (2:Int)≠1;decide)
    | str y=>exact ⟨_,rfl,_,rfl,.inr ⟨_,_,rfl,rfl,q H (Same.refl _)⟩⟩
    | tup e l h=>exact absurd eq (by show (2:Int)≠3;decide)
   | @tup a xs ts e l h=>
    refine ifF (by rfl) ?_
    refine ⟨_,rfl,_,_,_,_,rfl,.tup e,rfl,_,rfl,?_⟩
    refine ifT rfl ?_
    cases r2 with
    | non=>exact absurd eq (by show (3:Int)≠0;decide)
    | int j=>exact absurd eq (by show (3:Int)≠1;decide)
    | str y=>exact absurd eq (by show (3:Int)≠2;decide)
    | @tup b ys us e' l' h'=>
     have hd':depL ts+1 < n+1:=hd
     have hd'':depL ts+1≤40:=hd40
     exact ⟨_,rfl,_,rfl,ts,us,_,_,rfl,.tup e l h,.tup e' l' h',by omega,by omega,fun H2 s2=>q H2 s2⟩
end
end Pv
namespace Pv
open PySem L2
def Reps (H:Hp)(ts:List Th)(xs:List V):Prop:=xs.length=ts.length∧∀(i:Nat) (x:V) (t:Th),xs[i]? =some x→ts[i]? =some t→Rep H t x
theorem Reps.keep {H H':Hp}{ts:List Th}{xs:List V}(r:Reps H ts xs)(k:Tups H H'):Reps H' ts xs:=⟨r.1,fun i x t h1 h2=>(r.2 i x t h1 h2).keep k⟩
theorem Reps.snoc {H:Hp}{ts:List Th}{xs:List V}{t:Th}{x:V}(r:Reps H ts xs)(h:Rep H t x):Reps H (ts++ [t]) (xs++ [x]):=by
 refine ⟨by simp [r.1],fun i y u h1 h2=>?_⟩
 have hl:=r.1
 by_cases hi:i < xs.length
 ·rw [List.getElem?_append_left hi] at h1
  rw [List.getElem?_append_left (by omega)] at h2
  exact r.2 i y u h1 h2
 ·rw [List.getElem?_append_right (by omega)] at h1 h2
  cases e:i - xs.length with
  | zero=>
   rw [e] at h1
   rw [show i - ts.length=0 by omega] at h2
   cases h1;cases h2;exact h
  | succ k=>rw [e] at h1;simp at h1
theorem Reps.nil {H:Hp}:Reps H [] []:=⟨rfl,fun i x t h=>by simp at h⟩
theorem Reps.take {H:Hp}{ts:List Th}{xs:List V}(r:Reps H ts xs)(n:Nat):Reps H (ts.take n) (xs.take n):=by
 refine ⟨by rw [List.length_take,List.length_take,r.1],fun i x t h1 h2=>?_⟩
 by_cases hi:i < n
 ·rw [List.getElem?_take_of_lt hi] at h1 h2
  exact r.2 i x t h1 h2
 ·rw [List.getElem?_take_eq_none (by omega)] at h1;cases h1
theorem Reps.drop {H:Hp}{ts:List Th}{xs:List V}(r:Reps H ts xs)(n:Nat):Reps H (ts.drop n) (xs.drop n):=by
 refine ⟨by rw [List.length_drop,List.length_drop,r.1],fun i x t h1 h2=>?_⟩
 rw [List.getElem?_drop] at h1 h2
 exact r.2 _ x t h1 h2
theorem Reps.app {H:Hp}{ts us:List Th}{xs ys:List V}(r:Reps H ts xs)(q:Reps H us ys):Reps H (ts++us) (xs++ys):=by
 refine ⟨by simp [r.1,q.1],fun i x t h1 h2=>?_⟩
 have hl:=r.1
 by_cases hi:i < xs.length
 ·rw [List.getElem?_append_left hi] at h1
  rw [List.getElem?_append_left (by omega)] at h2
  exact r.2 i x t h1 h2
 ·rw [List.getElem?_append_right (by omega)] at h1 h2
  rw [hl] at h1
  exact q.2 _ x t h1 h2
end Pv
namespace L2
open PySem PySem.Spec PyProof.Rows
section
variable {X:Cx}{e:Expr}{es:List Expr}{te:TE}{pos:Pos}
def rJoin:V→List V→Hp→VK→Prop:=fun x vs H Q=>∃z p ys,x=.str z∧vs=[.ref p]∧H p=some (.lst (ys.map V.str))∧(ys.map (·.length)).sum+ys.length * z.length≤16777216∧Q (.str (Str.join z ys)) H
def tFmt (te:TE):TE:=fun σ H Q=>te σ H fun x H1=>(∃y,x=.str y∧y.length≤sizeLine∧Q (.str y) H1)∨∃i:Int,x=.int i∧i.natAbs.log2 < 1920∧Q (.str (toString i)) H1
abbrev TJ:=Str→St→Hp→VK→Prop
def PJ (X:Cx)(es:List Expr)(t:TJ):Prop:=∀(pins:List (Addr ×Obj)) (s:Shared) (σ:St) (H:Hp) (Q:VK) (out:Str),Inv X pins σ H s→t out σ H Q→wpAny (model X.prog X.w) X.A (joinParts out (evalEach es X.env)) (EP X pins σ Q) X.xe s
def tJ (te:TE)(t:TJ):TJ:=fun out σ H Q=>te σ H fun x H1=>∃y,x=.str y∧(out++y).length≤sizeLine∧t (out++y) σ H1 Q
end
end L2
namespace Pv
open PySem L2 PyProof.Rows PySem.NumText
def tx (l:List Nat):Str:=⟨l.toArray⟩
def digs (m:Nat):List Nat:=(Nat.toDigits 10 m).map Char.toNat
def numL (i:Int):List Nat:=(Str.ofString (toString i)).cps.toList
mutual
def wrT:Th→List Nat
 | .non=>[111]
 | .int i=>110::(numL i++ [59])
 | .str x=>116::(numL x.length++58::x.cps.toList)
 | .tup ts=>40::(wrL ts++ [41])
def wrL:List Th→List Nat
 | []=>[]
 | t::r=>wrT t++wrL r
end
end Pv
namespace Pv
open PySem L2 PyProof.Rows PySem.NumText
theorem zg7:∀a b:List Int,HT.lexLt a b=false→HT.lexLt b a=false→a=b
 | [],[],_,_=>rfl
 | [],_::_,h,_=>by cases h
 | _::_,[],_,h=>by cases h
 | x::a,y::b,h1,h2=>by
  rw [HT.lexLt_cons] at h1 h2
  by_cases e:x=y
  ·rw [if_pos e] at h1
   rw [if_pos e.symm] at h2
   rw [e,zg7 a b h1 h2]
  ·rw [if_neg e] at h1
   rw [if_neg (fun z=>e z.symm)] at h2
   have:=of_decide_eq_false h1
   have:=of_decide_eq_false h2
   omega
theorem zfc:∀a b c:List Int,HT.lexLt a c=true→HT.lexLt a b=true∨HT.lexLt b c=true
 | [],[],[],h=>by cases h
 | [],[],_::_,_=>.inr rfl
 | [],_::_,_,_=>.inl rfl
 | _::_,_,[],h=>by cases h
 | _::_,[],_::_,_=>.inr rfl
 | x::a,y::b,z::c,h=>by
  rw [HT.lexLt_cons] at h
  rw [HT.lexLt_cons,HT.lexLt_cons]
  by_cases e1:x=y
  ·by_cases e2:y=z
   ·rw [if_pos (e1.trans e2)] at h
    rw [if_pos e1,if_pos e2]
    exact zfc a b c h
   ·rw [if_neg (fun q=>e2 (e1.symm.trans q))] at h
    rw [if_neg e2]
    have:=of_decide_eq_true h
    exact .inr (decide_eq_true (by omega))
  ·by_cases e2:y=z
   ·rw [if_neg (fun q=>e1 (q.trans e2.symm))] at h
    rw [if_neg e1]
    have:=of_decide_eq_true h
    exact .inl (decide_eq_true (by omega))
   ·rw [if_neg e1,if_neg e2]
    by_cases hx:x < y
    ·exact .inl (decide_eq_true hx)
    ·refine .inr (decide_eq_true ?_)
     by_cases e3:x=z
     ·omega
     ·rw [if_neg e3] at h
      have:=of_decide_eq_true h
      omega
theorem zkp {t u:Th}(h:rowT t=rowT u):t=u:=by
 refine Classical.byContradiction fun ne=>?_
 have e1:=zgX t u [0] [1] ne
 have e2:=zgX t u [1] [0] ne
 rw [h,zeW] at e1 e2
 rw [←e1] at e2
 exact absurd e2 (by decide)
theorem zeA {t u:Th}(h1:ze t u=false)(h2:ze u t=false):t=u:=zkp (zg7 _ _ (by rw [zap];exact h1) (by rw [zap];exact h2))
theorem zW {t u:Th}(h:ze t u=true):ze u t=false:=by
 cases e:ze u t with
 | false=>rfl
 | true=>
  rw [←zap] at h e
  have:∀a b:List Int,HT.lexLt a b=true→HT.lexLt b a=true→False:=fun a b=>by
   induction a generalizing b with
   | nil=>
    intro p q
    cases b <;> cases q
   | cons x a ih=>
    intro p q
    cases b with
    | nil=>cases p
    | cons y b=>
     rw [HT.lexLt_cons] at p q
     by_cases z:x=y
     ·rw [if_pos z] at p
      rw [if_pos z.symm] at q
      exact ih b p q
     ·rw [if_neg z] at p
      rw [if_neg (fun k=>z k.symm)] at q
      have:=of_decide_eq_true p
      have:=of_decide_eq_true q
      omega
  exact (this _ _ h e).elim
def leT (t u:Th):Prop:=ze u t=false
theorem leT.refl (t:Th):leT t t:=zB t
theorem leT.trans {t u v:Th}(a:leT t u)(b:leT u v):leT t v:=by
 show ze v t=false
 cases e:ze v t with
 | false=>rfl
 | true=>
  rw [←zap] at e
  rcases zfc _ (rowT u) _ e with h | h
  ·rw [zap] at h;rw [show ze v u=false from b] at h;cases h
  ·rw [zap] at h;rw [show ze u t=false from a] at h;cases h
theorem leT.of {t u:Th}(h:ze t u=true):leT t u:=zW h
end Pv
namespace L2
open PySem PySem.Spec PyProof.Rows
def zdJ (kvs:List (Key ×V)):List Int:=kvs.filterMap fun p=>match p.1 with | .inl n=>some n | .inr _=>none
def IntKeys (kvs:List (Key ×V)):Prop:=kvs.map (·.1)=(zdJ kvs).map Sum.inl
theorem KV.at {kvs:List (Key ×V)}{vs:List (Key ×Value)}(r:KV kvs vs):kvs.length=vs.length∧kvs.map (·.1)=vs.map (·.1):=by
 unfold KV at r
 induction r with
 | nil=>exact ⟨rfl,rfl⟩
 | cons h _ ih=>exact ⟨by simp [ih.1],by simp [ih.2,h.1]⟩
section
variable {X:Cx}
end
end L2
namespace Pv
open PySem L2
inductive RepL (H:Hp):List Th→List V→Prop where
 | nil:RepL H [] []
 | cons {t:Th} {v:V} {ts:List Th} {vs:List V} (h:Rep H t v) (r:RepL H ts vs):RepL H (t::ts) (v::vs)
theorem RepL.len {H:Hp}:∀{ts:List Th} {vs:List V},RepL H ts vs→vs.length=ts.length
 | _,_,.nil=>rfl
 | _,_,.cons _ r=>by rw [List.length_cons,List.length_cons,r.len]
theorem RepL.at {H:Hp}:∀{ts:List Th} {vs:List V},RepL H ts vs→∀(i:Nat) (x:V) (t:Th),vs[i]? =some x→ts[i]? =some t→Rep H t x
 | _,_,.nil,i,x,t,e,_=>by simp at e
 | _,_,.cons h r,0,x,t,e1,e2=>by
  simp at e1 e2
  subst e1;subst e2
  exact h
 | _,_,.cons h r,i+1,x,t,e1,e2=>r.at i x t (by simpa using e1) (by simpa using e2)
theorem RepL.keep {H H':Hp}(k:Tups H H'):∀{ts:List Th} {vs:List V},RepL H ts vs→RepL H' ts vs
 | _,_,.nil=>.nil
 | _,_,.cons h r=>.cons (h.keep k) (r.keep k)
theorem RepL.new {H:Hp}{ts:List Th}{vs:List V}{p:Addr}(r:RepL H ts vs)(hp:H p=none):Rep (upd H p (.tup vs)) (.tup ts) (.ref p):=
 .tup zh r.len fun i x t e1 e2=>(r.at i x t e1 e2).keep (Tups.new hp)
theorem RepL.of {H:Hp}:∀{ts:List Th} {vs:List V},vs.length=ts.length→(∀(i:Nat) (x:V) (t:Th),vs[i]? =some x→ts[i]? =some t→Rep H t x)→RepL H ts vs
 | [],[],_,_=>.nil
 | t::ts,v::vs,l,h=>.cons (h 0 v t rfl rfl) (RepL.of (by simpa using l) fun i x u e1 e2=>h (i+1) x u (by simpa using e1) (by simpa using e2))
 | [],_::_,l,_=>by simp at l
 | _::_,[],l,_=>by simp at l
theorem Rep.list {H:Hp}{ts:List Th}{v:V}(r:Rep H (.tup ts) v):∃a xs,v=.ref a∧H a=some (.tup xs)∧RepL H ts xs:=by
 cases r with
 | @tup a xs _ e l h=>exact ⟨a,xs,rfl,e,RepL.of l h⟩
theorem RepL.pick {H:Hp}{ts:List Th}{vs:List V}{p:Th→Prop}{i:Int}(r:RepL H ts vs)(h0:0≤i)(h1:i < ts.length)(hp:∀t∈ts,p t):∃v t,atI vs i=some v∧Rep H t v∧p t:=by
 have hl:=r.len
 have hi:i.toNat < ts.length:=by omega
 have hv:i.toNat < vs.length:=by omega
 have ei:i=((i.toNat:Nat):Int):=by omega
 have q:atI vs ((i.toNat:Nat):Int)=some vs[i.toNat]:=zaH (List.getElem?_eq_getElem hv)
 rw [←ei] at q
 exact ⟨_,ts[i.toNat],q,r.at _ _ _ (List.getElem?_eq_getElem hv) (List.getElem?_eq_getElem hi),hp _ (List.getElem_mem hi)⟩
theorem RepL.snoc {H:Hp}{t:Th}{v:V}(h:Rep H t v):∀{ts:List Th} {vs:List V},RepL H ts vs→RepL H (ts++ [t]) (vs++ [v])
 | _,_,.nil=>.cons h .nil
 | _,_,.cons h' r=>.cons h' (r.snoc h)
theorem RepL.uniq {H:Hp}:∀{ts us:List Th} {vs:List V},RepL H ts vs→RepL H us vs→ts=us
 | _,_,_,.nil,.nil=>rfl
 | _,_,_,.cons a r,.cons b q=>by rw [Rep.inj a b,r.uniq q]
open PySem.SeqAt in
theorem zkL {X:Cx}{pins:List (Addr ×Obj)}{σ:L2.St}{H:Hp}{s:Shared}(I:Inv X pins σ H s){a b:Addr}{xs ys:List V}{ts us:List Th}{A:Around}(e:SqL X.K H a xs)(e':SqL X.K H b ys)(r:RepL H ts xs)(q:RepL H us ys)(hd:∀t∈ts,dep t≤50)(hu:A.units+60 < cLine):
  RcAt A s (.ref a) (.ref b) (eqL ts us)∧RcNeAt A s (.ref a) (.ref b) (!eqL ts us):=by
 obtain ⟨its,r1,T1,_⟩:=I.list e
 obtain ⟨jts,r2,T2,_⟩:=I.list e'
 have n1:=r1.length
 have n2:=r2.length
 have l1:=r.len
 have l2:=q.len
 by_cases hl:ts.length=us.length
 ·have key:∀j (h1:j < its.toArray.size) (h2:j < jts.toArray.size),EqAt A.in1 s its.toArray[j] jts.toArray[j] (eqT (ts[j]?.getD .non) (us[j]?.getD .non)):=fun j h1 h2=>by
   have h1':j < its.length:=by simpa using h1
   have h2':j < jts.length:=by simpa using h2
   obtain ⟨vx,ex,rx⟩:=r1.get (List.getElem?_eq_getElem (show j < xs.length by omega))
   obtain ⟨vy,ey,ry⟩:=r2.get (List.getElem?_eq_getElem (show j < ys.length by omega))
   have g1:ts[j]? =some ts[j]:=List.getElem?_eq_getElem (by omega)
   have g2:us[j]? =some us[j]:=List.getElem?_eq_getElem (by omega)
   have dj:=hd ts[j] (List.getElem_mem (by omega))
   rw [g1,g2]
   have z1:its.toArray[j]=vx:=by
    have:its[j]? =some its[j]:=List.getElem?_eq_getElem h1'
    rw [this] at ex
    simpa using Option.some.inj ex
   have z2:jts.toArray[j]=vy:=by
    have:jts[j]? =some jts[j]:=List.getElem?_eq_getElem h2'
    rw [this] at ey
    simpa using Option.some.inj ey
   rw [z1,z2]
   exact zfb I (r.at j _ _ (List.getElem?_eq_getElem (show j < xs.length by omega)) g1) (q.at j _ _ (List.getElem?_eq_getElem (show j < ys.length by omega)) g2) rx ry (by
    show A.units+1+dep ts[j]+1 < cLine
    omega)
  have hsz:its.toArray.size=jts.toArray.size:=by rw [List.size_toArray,List.size_toArray];omega
  have R:=RcAt.lists T1.isList T2.isList hsz (show A.units < cLine by omega) key
  have R':=RcNeAt.lists T1.isList T2.isList hsz (show A.units < cLine by omega) key
  have e3:(List.range its.toArray.size).all (fun j=>eqT (ts[j]?.getD .non) (us[j]?.getD .non))=eqL ts us:=by
   rw [zch,List.size_toArray,show min ts.length us.length=its.length by omega,show (ts.length==us.length)=true by rw [hl];exact beq_self_eq_true _,Bool.and_true]
  rw [e3] at R R'
  exact ⟨R,R'⟩
 ·have hne:eqL ts us=false:=by
   cases z:eqL ts us with
   | true=>exact absurd (congrArg List.length ((ze6 ts us).mp z)) hl
   | false=>rfl
  have hsz:(its.toArray.size !=jts.toArray.size)=true:=by
   rw [List.size_toArray,List.size_toArray,bne_iff_ne]
   omega
  rw [hne]
  exact ⟨RcAt.lists_lengths T1.isList T2.isList hsz (by omega),RcNeAt.lists_lengths T1.isList T2.isList hsz (by omega)⟩
section
variable {X:Cx}
theorem zmG {k:Nat}(hr:Room k X.A):OpR X (compareOp .Eq) (fun x y H Q=>∃a b xs ys ts us,x=.ref a∧y=.ref b∧SqL X.K H a xs∧SqL X.K H b ys∧RepL H ts xs∧RepL H us ys∧(∀t∈ts,dep t≤50)∧Q (.bl (eqL ts us)) H):=by
 intro pins s σ H x y v w Q I rx ry h
 obtain ⟨a,b,xs,ys,ts,us,rfl,rfl,e1,e2,r1,r2,hd,q⟩:=h
 cases (show v=Value.ref a from rx)
 cases (show w=Value.ref b from ry)
 have hu:=hr.units
 exact (zkL I e1 e2 r1 r2 hd (by omega)).1 _ _ _ _ ⟨.bl _,H,I,rfl,q⟩
theorem zke {k:Nat}(hr:Room k X.A):OpR X (compareOp .NotEq) (fun x y H Q=>∃a b xs ys ts us,x=.ref a∧y=.ref b∧SqL X.K H a xs∧SqL X.K H b ys∧RepL H ts xs∧RepL H us ys∧(∀t∈ts,dep t≤50)∧Q (.bl (!eqL ts us)) H):=by
 intro pins s σ H x y v w Q I rx ry h
 obtain ⟨a,b,xs,ys,ts,us,rfl,rfl,e1,e2,r1,r2,hd,q⟩:=h
 cases (show v=Value.ref a from rx)
 cases (show w=Value.ref b from ry)
 have hu:=hr.units
 exact (zkL I e1 e2 r1 r2 hd (by omega)).2 _ _ _ _ ⟨.bl _,H,I,rfl,q⟩
def mulS (x:Str)(n:Int):Str:=if n < 1 then Str.empty else if (n==1 || x.length==0)=true then x else ⟨(List.replicate n.toNat x.cps).foldl (· ++ ·) #[]⟩
end
end Pv
namespace Pv
open PySem L2
def z9 (cs:List (Int ×Th))(n:Int):Option Th:=(cs.find? fun p=>decide (p.1=n)).map (·.2)
inductive DRep (H:Hp):List (Int ×Th)→List (Key ×V)→Prop where
 | nil:DRep H [] []
 | cons {n:Int} {t:Th} {v:V} {cs:List (Int ×Th)} {kvs:List (Key ×V)} (h:Rep H t v) (r:DRep H cs kvs):DRep H ((n,t)::cs) ((.inl n,v)::kvs)
theorem DRep.len {H:Hp}{cs:List (Int ×Th)}{kvs:List (Key ×V)}(r:DRep H cs kvs):kvs.length=cs.length:=by
 induction r with
 | nil=>rfl
 | cons _ _ ih=>rw [List.length_cons,List.length_cons,ih]
theorem DRep.keep {H H':Hp}(k:Tups H H'){cs:List (Int ×Th)}{kvs:List (Key ×V)}(r:DRep H cs kvs):DRep H' cs kvs:=by
 induction r with
 | nil=>exact .nil
 | cons h _ ih=>exact .cons (h.keep k) ih
theorem DRep.keys {H:Hp}{cs:List (Int ×Th)}{kvs:List (Key ×V)}(r:DRep H cs kvs):zdJ kvs=cs.map (·.1)∧L2.IntKeys kvs:=by
 induction r with
 | nil=>exact ⟨rfl,rfl⟩
 | @cons n t v cs kvs _ _ ih=>
  have e:zdJ ((.inl n,v)::kvs)=n::zdJ kvs:=rfl
  refine ⟨by rw [e,ih.1];rfl,?_⟩
  unfold L2.IntKeys
  rw [e,List.map_cons,List.map_cons]
  exact congrArg _ ih.2
theorem zam {n m:Int}{t:Th}{cs:List (Int ×Th)}:z9 ((n,t)::cs) m=if n=m then some t else z9 cs m:=by
 unfold z9
 rw [List.find?_cons]
 by_cases e:n=m
 ·rw [if_pos e,decide_eq_true e];rfl
 ·rw [if_neg e,decide_eq_false e]
theorem zd9 {n m:Int}{v:V}{kvs:List (Key ×V)}:valV ((Sum.inl n,v)::kvs) (Sum.inl m:Key)=if n=m then some v else valV kvs (.inl m):=by
 by_cases e:n=m
 ·rw [if_pos e];exact zcV (by rw [e])
 ·rw [if_neg e]
  unfold valV
  rw [List.find?_cons]
  rw [decide_eq_false (fun z=>e (Sum.inl.inj z))]
theorem DRep.none {H:Hp}{cs:List (Int ×Th)}{kvs:List (Key ×V)}(r:DRep H cs kvs){n:Int}(h:z9 cs n=.none):valV kvs (.inl n)=.none:=by
 induction r with
 | nil=>rfl
 | @cons m t v cs kvs _ _ ih=>
  rw [zam] at h
  rw [zd9]
  by_cases e:m=n
  ·rw [if_pos e] at h;cases h
  ·rw [if_neg e] at h ⊢;exact ih h
theorem DRep.some {H:Hp}{cs:List (Int ×Th)}{kvs:List (Key ×V)}(r:DRep H cs kvs){n:Int}{t:Th}(h:z9 cs n=.some t):∃v,valV kvs (.inl n)=.some v∧Rep H t v:=by
 induction r with
 | nil=>cases h
 | @cons m u v cs kvs hv _ ih=>
  rw [zam] at h
  rw [zd9]
  by_cases e:m=n
  ·rw [if_pos e] at h ⊢;cases h;exact ⟨v,rfl,hv⟩
  ·rw [if_neg e] at h ⊢;exact ih h
theorem DRep.back {H:Hp}{cs:List (Int ×Th)}{kvs:List (Key ×V)}(r:DRep H cs kvs){n:Int}{v:V}(h:valV kvs (.inl n)=.some v):∃t,z9 cs n=.some t∧Rep H t v:=by
 cases e:z9 cs n with
 | none=>rw [r.none e] at h;cases h
 | some t=>
  obtain ⟨v',e',rv⟩:=r.some e
  rw [h] at e';cases e'
  exact ⟨t,rfl,rv⟩
theorem DRep.snoc {H:Hp}{cs:List (Int ×Th)}{kvs:List (Key ×V)}{n:Int}{t:Th}{v:V}(h:Rep H t v)(r:DRep H cs kvs):DRep H (cs++ [(n,t)]) (kvs++ [(.inl n,v)]):=by
 induction r with
 | nil=>exact .cons h .nil
 | cons h' _ ih=>exact .cons h' ih
theorem DRep.put {H:Hp}{cs:List (Int ×Th)}{kvs:List (Key ×V)}{n:Int}{t:Th}{v:V}(r:DRep H cs kvs)(h:Rep H t v)(hn:z9 cs n=.none):DRep H (cs++ [(n,t)]) (putK kvs (.inl n) v):=by
 rw [ziN v (r.none hn)]
 exact r.snoc h
theorem DRep.again {H:Hp}{cs:List (Int ×Th)}{kvs:List (Key ×V)}{n:Int}{t:Th}{v:V}(r:DRep H cs kvs)(h:Rep H t v)(hn:z9 cs n=.some t)(nd:(cs.map (·.1)).Nodup):DRep H cs (putK kvs (.inl n) v):=by
 have ha:(kvs.any fun kv=>decide (kv.1=(Sum.inl n:Key)))=true:=by
  obtain ⟨v',e,_⟩:=r.some hn
  unfold valV at e
  cases z:kvs.find? fun kv=>decide (kv.1=(Sum.inl n:Key)) with
  | none=>rw [z] at e;cases e
  | some p=>exact List.any_eq_true.mpr ⟨p,List.mem_of_find?_eq_some z,by have:=List.find?_some z;exact this⟩
 unfold putK
 rw [if_pos ha]
 clear ha
 induction r with
 | nil=>exact .nil
 | @cons m u v' cs kvs h' r' ih=>
  have nd':=List.nodup_cons.mp nd
  rw [List.map_cons]
  by_cases e:m=n
  ·subst e
   rw [if_pos rfl]
   rw [zam,if_pos rfl] at hn
   cases hn
   have rest:kvs.map (fun kv=>if kv.1=(Sum.inl m:Key) then (kv.1,v) else kv)=kvs:=by
    have:∀kv∈kvs,(if kv.1=(Sum.inl m:Key) then (kv.1,v) else kv)=kv:=fun kv hkv=>by
     refine if_neg fun z=>nd'.1 ?_
     have e1:=r'.keys
     have m1:(Sum.inl m:Key)∈kvs.map (·.1):=by rw [←z];exact List.mem_map_of_mem hkv
     rw [e1.2,List.mem_map] at m1
     obtain ⟨i,hi,ei⟩:=m1
     cases ei
     rw [←e1.1];exact hi
    rw [List.map_congr_left this,List.map_id']
   rw [rest]
   exact .cons h r'
  ·rw [if_neg (fun z=>e (Sum.inl.inj z))]
   rw [zam,if_neg e] at hn
   exact .cons h' (ih hn nd'.2)
theorem zeI {cs:List (Int ×Th)}{n:Int}{t:Th}(h:z9 cs n=some t):(n,t)∈cs:=by
 induction cs with
 | nil=>cases h
 | cons p cs ih=>
  obtain ⟨m,u⟩:=p
  rw [zam] at h
  by_cases e:m=n
  ·rw [if_pos e] at h;cases h;subst e;exact List.mem_cons_self
  ·rw [if_neg e] at h;exact List.mem_cons_of_mem _ (ih h)
theorem zhN {cs:List (Int ×Th)}{n:Int}(h:n∈cs.map (·.1)):∃t,z9 cs n=some t:=by
 induction cs with
 | nil=>cases h
 | cons p cs ih=>
  obtain ⟨m,u⟩:=p
  rw [zam]
  by_cases e:m=n
  ·exact ⟨u,if_pos e⟩
  ·rw [if_neg e]
   rw [List.map_cons,List.mem_cons] at h
   exact ih (h.resolve_left fun z=>e z.symm)
theorem zgA {cs:List (Int ×Th)}{n:Int}(h:z9 cs n=none):n∉cs.map (·.1):=fun z=>by
 obtain ⟨t,e⟩:=zhN z
 rw [h] at e;cases e
theorem zei {cs:List (Int ×Th)}{n m:Int}{t:Th}:z9 (cs++ [(n,t)]) m=match z9 cs m with | some u=>some u | none=>if n=m then some t else none:=by
 induction cs with
 | nil=>rw [List.nil_append,zam];rfl
 | cons p cs ih=>
  obtain ⟨k,u⟩:=p
  rw [List.cons_append,zam,zam]
  by_cases e:k=m
  ·rw [if_pos e,if_pos e]
  ·rw [if_neg e,if_neg e,ih]
def zmO (cs:List (Int ×Th))(ns:List Int):List Th:=ns.map fun n=>(z9 cs n).getD .non
end Pv
namespace L2
open PySem PySem.Spec PyProof.Rows Px
def clsV:V→Value
 | .ty n=>.type n
 | .ref a=>.ref a
 | _=>.none
def Clss (ts:List V):Prop:=∀v∈ts,(∃n,v=.ty n)∨∃a,v=.ref a
theorem zeE:∀{ts:List V} {us:List Value},Clss ts→Vals ts us→us=ts.map clsV
 | _,_,_,.nil=>rfl
 | t::ts,u::us,h,.cons r q=>by
  rw [List.map_cons,←zeE (fun v hv=>h v (.tail _ hv)) q]
  congr 1
  rcases h t (.head _) with ⟨n,e⟩ | ⟨a,e⟩
  ·subst e;exact r
  ·subst e;exact r
section
variable {X:Cx}{pins:List (Addr ×Obj)}{σ:St}{H:Hp}{s:Shared}
theorem TyOf.kit {x:V}{u t:Value}(I:Inv X pins σ H s)(rx:RelV x u)(ty:TyOf X.K H x t):∃Z:Heap→Prop,PySem.W.KitX X.K u t Z∧Z s.heap∧u≠ .builtin "__main__.__loader__#opaque" :=by
 cases ty with
 | non=>cases (show u=Value.none from rx);exact ⟨_,PySem.W.kitx_none,True.intro,fun z=>nomatch z⟩
 | bl y=>cases (show u=Value.bool y from rx);exact ⟨_,PySem.W.kitx_bool,True.intro,fun z=>nomatch z⟩
 | int i=>obtain ⟨t,q⟩:=(show∃t,u=Value.int i t from rx);cases q;exact ⟨_,PySem.W.kitx_int,True.intro,fun z=>nomatch z⟩
 | str y=>obtain ⟨t,q⟩:=(show∃t,u=Value.str y t from rx);cases q;exact ⟨_,PySem.W.kitx_str,True.intro,fun z=>nomatch z⟩
 | flt y=>obtain ⟨t,q⟩:=(show∃t,u=Value.float y t from rx);cases q;exact ⟨_,PySem.W.kitx_float,True.intro,fun z=>nomatch z⟩
 | @lst a xs ea=>
  cases (show u=Value.ref a from rx)
  obtain ⟨_,_,n,_,h1⟩:=(show zU X.prog X.w H s.heap a (.lst xs) from I.hok a _ ea)
  exact ⟨_,PySem.W.kitx_list,⟨_,h1,rfl⟩,fun z=>nomatch z⟩
 | @frz a ob xs ea=>
  cases (show u=Value.ref a from rx)
  obtain ⟨_,_,_,n,_,h1⟩:=(show zU X.prog X.w H s.heap a (.frz ob (.lst xs)) from I.hok a _ ea)
  exact ⟨_,PySem.W.kitx_list,⟨_,h1,rfl⟩,fun z=>nomatch z⟩
 | @tup a xs ea=>
  cases (show u=Value.ref a from rx)
  obtain ⟨_,_,_,p⟩:=(show zU X.prog X.w H s.heap a (.tup xs) from I.hok a _ ea)
  obtain ⟨o,h1,h2,_⟩:=p
  exact ⟨_,PySem.W.kitx_tuple,⟨o,h1,h2⟩,fun z=>nomatch z⟩
 | @dK a kvs ea=>
  cases (show u=Value.ref a from rx)
  obtain ⟨_,_,vs,_,p⟩:=(show zU X.prog X.w H s.heap a (.dK kvs) from I.hok a _ ea)
  obtain ⟨o,es,ep,h1,h2,_⟩:=p
  exact ⟨_,PySem.W.kitx_dict,⟨o,h1,h2.1⟩,fun z=>nomatch z⟩
 | @dT a kvs ea=>
  cases (show u=Value.ref a from rx)
  obtain ⟨_,_,xs,_,o,es,ep,h1,h2,_⟩:=(show zU X.prog X.w H s.heap a (.dT kvs) from I.hok a _ ea)
  exact ⟨_,PySem.W.kitx_dict,⟨o,h1,h2.1⟩,fun z=>nomatch z⟩
 | @ins a C dx fs ea cl ha hn htk hm=>
  cases (show u=Value.ref a from rx)
  obtain ⟨mA,O,_⟩:=zcF I.hok ea
  obtain ⟨od,J,_⟩:=O.look
  exact ⟨_,PySem.W.kitx_own (cl.get _) cl.hd ha hn htk hm,J,fun z=>nomatch z⟩
end
section
variable {X:Cx}
def zlu (K:PySem.W.Frag):List V→Hp→VK→Prop:=fun xs H Q=>∃x p ts t b,xs=[x,.ref p]∧H p=some (.tup ts)∧Clss ts∧TyOf K H x t∧PySem.W.kitAny K t (ts.map clsV)=some b∧Q (.bl b) H
theorem zeM:zbh X (.builtin "isinstance") (zlu X.K):=by
 intro pins s σ H xs us Q I r h
 obtain ⟨x,p,ts,t,b,rfl,ep,cl,ty,e,q⟩:=h
 obtain ⟨u,w',rfl,ru,rw'⟩:=vals2 r
 cases (show w'=Value.ref p from rw')
 obtain ⟨Z,kx,z,ne⟩:=ty.kit I ru
 obtain ⟨_,its,vs,o,h1,h2,n,h3⟩:=(show zU X.prog X.w H s.heap p (.tup ts) from I.hok p _ ep)
 have ei:=zeE cl vs
 obtain ⟨c0,d0,dt,sl⟩:=o
 dsimp only at h2 h3
 subst h2;subst h3
 exact PySem.W.kia_tup kx I.kIn z h1 (by rw [ei];exact e) ne fun tk=>⟨.bl b,H,I.tok tk,rfl,q⟩
end
end L2
namespace L2
open PySem PySem.Spec PyProof.Rows Px
section
variable {K:PySem.W.Frag}{h:Heap}{mg:Str→Option Value}{C f:Addr}{x m qual:Str}{st:Stmt}{ps:List Str}{od an:Option Addr}{sl:Array (Option Value)}{oc kV dc pm cd ct:Value}
theorem zf5 (a:PySem.W.findIn K (.ref C) m=some (some (.ref f)))(fn:PySem.W.isFn K (.ref f)=true)(l:K.lookup f=some ⟨oc,od,.func (PySem.W.fnOf m qual (zt st) (zo st) (zd st) .none kV dc pm an cd ct),sl⟩)(c:PySem.W.codeIn K cd qual=true)(k:PySem.W.keepIn K (.ref f)=true)
  (b:∀(kV doc pm:Value) (an:Option Addr) (cdv ct:Value) (us:List Value),us.length=ps.length→bindArgs (PySem.W.fnOf m qual (zt st) (zo st) (zd st) .none kV doc pm an cdv ct) ⟨us,[]⟩=pure (ps.zip us)):Mdf K C m qual st ps:=
 ⟨_,_,zbP l c k,(zbP l c k).binds b,⟨a,fn,k⟩⟩
theorem zlP (pg:PySem.W.plainGet K C Str.empty=true)(hd:PySem.W.hasDictIn K C=true)(po:PySem.W.plainOver K C=true)(sa:PySem.W.findIn K (.ref C) "__setattr__" =some (some (.builtin "object.__setattr__"))):Cls K C:=⟨pg,hd,po,sa⟩
theorem zld (X:K.In h)(G:h.Ns mainGlobals mg)(n:PySem.W.nsIn K mainGlobals x=some (some (.ref C)))(mk:PySem.W.makesIn K C=true)(a:PySem.W.findIn K (.ref C) "__init__" =some (some (.ref f))) (fn:PySem.W.isFn K (.ref f)=true)
  (l:K.lookup f=some ⟨oc,od,.func (PySem.W.fnOf "__init__" qual (zt st) (zo st) (zd st) .none kV dc pm an cd ct),sl⟩) (c:PySem.W.codeIn K cd qual=true) (k:PySem.W.keepIn K (.ref f)=true) (kc:PySem.W.keepIn K (.ref C)=true)
  (b:∀(kV doc pm:Value) (an:Option Addr) (cdv ct:Value) (us:List Value),us.length=ps.length→bindArgs (PySem.W.fnOf "__init__" qual (zt st) (zo st) (zd st) .none kV doc pm an cdv ct) ⟨us,[]⟩=pure (ps.zip us)):Mkd K mg x C qual st ps:=
 ⟨_,_,zbP l c k,(zbP l c k).binds b,⟨mk,a,fn,kc⟩,PySem.W.mg_of X G n⟩
theorem zkm (q:xIn K C=true)(ov:zcD K C=true)(sa:PySem.W.findIn K (.ref C) "__setattr__" =some (some (.builtin "object.__setattr__"))) (ga:PySem.W.findIn K (.ref C) "__getattribute__" =some (some (.builtin "BaseException.__getattribute__"))) (gn:PySem.W.findIn K (.ref C) "__getattr__" =some none)
  (kp:PySem.W.keepIn K (.ref C)=true):XCls K C:=⟨q,ov,sa,ga,gn,kp⟩
theorem zlX (X:K.In h)(G:h.Ns mainGlobals mg)(n:PySem.W.nsIn K mainGlobals x=some (some (.ref C)))(cl:XCls K C)(a:PySem.W.findIn K (.ref C) "__init__" =some (some (.ref f))) (fn:PySem.W.isFn K (.ref f)=true)
  (l:K.lookup f=some ⟨oc,od,.func (PySem.W.fnOf "__init__" qual (zt st) (zo st) (zd st) .none kV dc pm an cd ct),sl⟩) (c:PySem.W.codeIn K cd qual=true) (k:PySem.W.keepIn K (.ref f)=true)
  (b:∀(kV doc pm:Value) (an:Option Addr) (cdv ct:Value) (us:List Value),us.length=ps.length→bindArgs (PySem.W.fnOf "__init__" qual (zt st) (zo st) (zd st) .none kV doc pm an cdv ct) ⟨us,[]⟩=pure (ps.zip us)):XId K mg x C qual st ps:=
 ⟨cl,_,_,zbP l c k,(zbP l c k).binds b,a,fn,PySem.W.mg_of X G n⟩
theorem zgB {R:Addr→Prop}(X:K.In h)(n:PySem.W.nsIn K mainGlobals x=some (some (.ref C)))(r:R C):∃C,R C:=⟨C,r⟩
end
end L2
namespace Px
open PySem PySem.W PySem.Builtin PySem.Builtin.ObjectAttr
section
variable {prog:Program}{w:World}{A:Around}{E:Value→Shared→Prop}{s:Shared}{K:Frag}{x D:Addr}{ox:Obj}{od:Option Obj}
end
end Px
namespace L2
open PySem PySem.Spec PyProof.Rows Px
structure zkE (K:PySem.W.Frag)(C:Addr):Prop where
 cl:XCls K C
 ha:PySem.W.findIn K (.ref C) "__class__" =some (some (.builtin "object.__class__"))
 hn:PySem.W.specialIn K (.builtin "object.__class__") "__get__" =some (some (.builtin "getset_descriptor.__get__"))
 ht:PySem.W.takesIn K (.builtin "object.__class__")=some true
 hm:PySem.W.mroIn K C (.type "object")=some true
section
variable {X:Cx}{pins:List (Addr ×Obj)}{σ:St}{H:Hp}{s:Shared}{a C:Addr}{od:Option Addr}{fr:Bool}
def zmY (K:PySem.W.Frag):List V→Hp→VK→Prop:=fun xs H Q=>∃a C od fr y b,xs=[.ref a,y]∧H a=some (exO a C od fr)∧zkE K C∧(∀d,od=some d→∃l,H d=some (xdO d l))∧Q (.bl b) H∧
 ((∃c,(y=.ty c∧PySem.W.kitOne K (.ref C) (.type c)=some b))∨(∃c,(y=.ref c∧PySem.W.kitOne K (.ref C) (.ref c)=some b))∨∃p ts,y=.ref p∧H p=some (.tup ts)∧Clss ts∧PySem.W.kitAny K (.ref C) (ts.map clsV)=some b)
end
section
variable {X:Cx}{x n:Str}{cv:Value}{body suite:List Stmt}{b₀:Stmt}{np hpos pos:Pos}{tb:(St→XK)→TS}{ts:TS}
end
end L2
namespace L2
open PySem PySem.Spec PyProof.Rows
section
variable {X:Cx}{x y1 y2:Str}{scope:Scope}{j1 j2:Nat}{c1 c2:Addr}
theorem zQ.two (clos:closureFor scope X.env=pure [(y1,c1),(y2,c2)])(kind:scope.kind=.function)(nc:∀y∈scope.names,y.2≠ .cell)(nm:∀y∈scope.names,y.2=.local→scope.names.lookup y.1=some .local)(tgt:scope.names.lookup x=some .local)
  (n1:x≠y1) (n2:x≠y2) (n12:y1≠y2) (e1:X.env.cells.lookup y1=some c1) (e2:X.env.cells.lookup y2=some c2) (only:∀q∈scope.names,q.2=.free→q.1=y1∨q.1=y2) (h1:X.N[j1]? =some y1) (h2:X.N[j2]? =some y2)
  (k1:X.env.kindOf y1=some .cell∨X.env.kindOf y1=some .free) (k2:X.env.kindOf y2=some .cell∨X.env.kindOf y2=some .free)
  (r1:(relabel scope X.env).names.lookup y1=some .cell∨(relabel scope X.env).names.lookup y1=some .free) (r2:(relabel scope X.env).names.lookup y2=some .cell∨(relabel scope X.env).names.lookup y2=some .free):
  zQ X x [y1,y2] [j1,j2] scope [(y1,c1),(y2,c2)] where
 clos:=clos
 kind:=kind
 nocell:=nc
 names:=nm
 tgt:=tgt
 nd:=by simp [n1,n2,n12]
 sub:=fun p hp=>by
  rcases List.mem_cons.mp hp with z | z
  ·rw [z];exact e1
  ·rw [List.mem_singleton.mp z];exact e2
 has:=fun p hp hk=>by
  have key:∀q:Str ×NameKind,q∈scope.names→q.2=.free→q.1∈ [(y1,c1),(y2,c2)].map (·.1):=fun q hq z=>by
   rcases only q hq z with z | z <;> simp [z]
  obtain ⟨q,hq,e,h | h⟩:=zbY hp
  ·subst h
   rcases hk with hk | hk
   ·exact absurd hk (nc _ hq)
   ·exact key _ hq hk
  ·rw [e];exact key _ hq h
 fr:=fun i z e=>by
  match i,e with
  | 0,e=>cases e;exact ⟨j1,rfl,h1,k1,r1⟩
  | 1,e=>cases e;exact ⟨j2,rfl,h2,k2,r2⟩
  | i+2,e=>simp at e
 len:=rfl
end
end L2
namespace Pv
open PySem L2
abbrev zaE:Stmt:=inClass (top 41) 0
theorem zde:zu ["self"] ["self"] (zd zaE):=⟨rfl,rfl,rfl,by decide+kernel,rfl,by decide+kernel,by decide+kernel⟩
abbrev zai:Stmt:=inClass (top 41) 1
theorem zcc:zu ["self","number","thing"] ["self","number","thing"] (zd zai):=⟨rfl,rfl,rfl,by decide+kernel,rfl,by decide+kernel,by decide+kernel⟩
abbrev zbB:Stmt:=inClass (top 41) 2
theorem zds:zu ["self","thing","number"] ["self","thing"] (zd zbB):=⟨rfl,rfl,rfl,by decide+kernel,rfl,by decide+kernel,by decide+kernel⟩
abbrev za4:Stmt:=inClass (top 41) 3
theorem zek:zu ["self","number"] ["self","number"] (zd za4):=⟨rfl,rfl,rfl,by decide+kernel,rfl,by decide+kernel,by decide+kernel⟩
abbrev zaF:Stmt:=inClass (top 4) 0
theorem zc8:zu ["self","one","other"] ["self","one","other"] (zd zaF):=⟨rfl,rfl,rfl,by decide+kernel,rfl,by decide+kernel,by decide+kernel⟩
structure Good (t:Th):Prop where
 wf:Wf t
 dp:dep t≤8
 nd:nodes t≤80
structure Flds (fs:List (Str ×V))(d:Addr):Prop where
 la:fs.lookup ("laid" :Str)=some (V.ref d)
 n1:fs.lookup ("refuse_clash" :Str)=none
 n2:fs.lookup ("lay" :Str)=none
 n3:fs.lookup ("thing" :Str)=none
 n4:fs.lookup ("things" :Str)=none
 n5:fs.lookup ("paper" :Str)=none
theorem zkX (d:Addr):Flds [("laid",.ref d)] d:=⟨rfl,rfl,rfl,rfl,rfl,rfl⟩
structure VOk (H:Hp)(C a d:Addr)(kvs:List (Key ×V)):Prop where
 ob:∃dx fs,H a=some (.ins C dx fs)∧Flds fs d
 di:H d=some (.dK kvs)
theorem VOk.keep {H H':Hp}{C a d:Addr}{kvs:List (Key ×V)}(v:VOk H C a d kvs)(s:Same H H'):VOk H' C a d kvs:=by
 obtain ⟨⟨dx,fs,e,f⟩,e2⟩:=v
 exact ⟨⟨dx,fs,s _ _ e,f⟩,s _ _ e2⟩
def zdc (H:Hp)(kvs:List (Key ×V)):Prop:=∀(n:Int) (v:V),valV kvs (.inl n)=some v→∃t,Rep H t v∧Good t∧zZ t=n
theorem zdc.keep {H H':Hp}{kvs:List (Key ×V)}(l:zdc H kvs)(s:Tups H H'):zdc H' kvs:=fun n v e=>by
 obtain ⟨t,r,g⟩:=l n v e
 exact ⟨t,r.keep s,g⟩
def zhj (E:XK)(CC:Addr)(H:Hp)(t1 t2:Th)(v1 v2:V):Prop:=∀(H':Hp) (x:Addr),Same H H'→H' x=some (xdO x [("one",v1),("other",v2)])→E (.ref CC) (some x) H'
def zdC (C:Addr):Sp:=fun vs H Q _=>∃(a dx:Addr),vs=[.ref a]∧H a=some (.ins C dx [])∧∀d,H d=none→Q .non (upd (upd H d (.dK [])) a (.ins C dx [("laid",.ref d)]))
def zgV (CC:Addr):Sp:=fun vs H Q _=>∃(x:Addr) (v1 v2:V),vs=[.ref x,v1,v2]∧H x=some (exO x CC none true)∧
 ∀d,H d=none→d≠x→Q .non (upd (upd (upd H d (xdO d [("one",v1)])) x (exO x CC (some d) true)) d (xdO d [("one",v1),("other",v2)]))
def zfd (C CC:Addr):Sp:=fun vs H Q E=>∃(a d:Addr) (kvs:List (Key ×V)) (n:Int) (t:Th) (v:V),vs=[.ref a,.int n,v]∧VOk H C a d kvs∧zdc H kvs∧Rep H t v∧Good t∧zZ t=n∧
 ((∀t1 v1,valV kvs (.inl n)=some v1→Rep H t1 v1→t1=t)→Q .non H)∧
 (∀t1 v1,valV kvs (.inl n)=some v1→Rep H t1 v1→Good t1→zZ t1=zZ t→t1≠t→zhj E CC H t1 t v1 v)
def zkC (C CC:Addr):Sp:=fun vs H Q E=>∃(a d:Addr) (kvs:List (Key ×V)) (t:Th) (v:V),vs=[.ref a,v]∧VOk H C a d kvs∧zdc H kvs∧kvs.length≤1000000∧Rep H t v∧Good t∧
 (∀H',Same H H'→(∀t1 v1,valV kvs (.inl (zZ t))=some v1→Rep H t1 v1→t1=t)→Q (.int (zZ t)) (upd H' d (.dK (putK kvs (.inl (zZ t)) v))))∧
 (∀t1 v1 H',Same H H'→valV kvs (.inl (zZ t))=some v1→Rep H' t1 v1→Good t1→zZ t1=zZ t→t1≠t→zhj E CC H' t1 t v1 v)
def zfG (C:Addr):Sp:=fun vs H Q _=>∃(a d:Addr) (kvs:List (Key ×V)) (n:Int) (v:V),vs=[.ref a,.int n]∧VOk H C a d kvs∧valV kvs (.inl n)=some v∧Q v H
def zme (C CN:Addr):Sp:=fun vs H Q E=>∃(a d:Addr) (kvs:List (Key ×V)) (n:Int),vs=[.ref a,.int n]∧VOk H C a d kvs∧(∀v,valV kvs (.inl n)=some v→Q v H)∧(valV kvs (.inl n)=none→E (.ref CN) none H)
theorem DRep.laidOk {H:Hp}{cs:List (Int ×Th)}{kvs:List (Key ×V)}(r:DRep H cs kvs)(g:∀p∈cs,Good p.2∧zZ p.2=p.1):zdc H kvs:=fun n v e=>by
 obtain ⟨t,e1,rv⟩:=r.back e
 obtain ⟨g1,g2⟩:=g _ (zeI e1)
 exact ⟨t,rv,g1,g2⟩
theorem zjq (v1 v2:V):putF ("other" :Str) v2 [(("one" :Str),v1)]=[(("one" :Str),v1),(("other" :Str),v2)]:=by
 unfold putF
 rw [if_neg (by decide)]
 rfl
theorem Rep.uniq {H:Hp}{t u:Th}{v:V}(r:Rep H t v):Rep H u v→t=u:=by
 induction r generalizing u with
 | non=>intro q;cases q;rfl
 | int i=>intro q;cases q;rfl
 | str x=>intro q;cases q;rfl
 | @tup a xs ts e l h ih=>
  intro q
  cases q with
  | @tup _ ys us e' l' h'=>
   rw [e] at e'
   cases e'
   congr 1
   apply List.ext_getElem?
   intro i
   by_cases hi:i < ts.length
   ·have h1:ts[i]? =some ts[i]:=List.getElem?_eq_getElem hi
    have h2:us[i]? =some us[i]:=List.getElem?_eq_getElem (by omega)
    have h3:xs[i]? =some xs[i]:=List.getElem?_eq_getElem (by omega)
    rw [h1,h2,ih i _ _ h3 h1 (h' i _ _ h3 h2)]
   ·rw [List.getElem?_eq_none (by omega),List.getElem?_eq_none (by omega)]
section
variable {P:Program}{w:World}{K:PySem.W.Frag}{mg:Str→Option Value}{base:Heap}{C CC:Addr}{x:Str}
theorem ziy (D:Mkd K mg x C "Vault.__init__" zaE ["self"]) (c:Cls K C) (nl:z8 K C "laid"):Mkr P w K mg base x C 1 ["self"] (zdC C):=by
 refine D.ok (k:=0) zde (fun vs H Q E h=>?_) (fun f cdv A outer s H vs Q E hr h=>?_)
 ·obtain ⟨a,dx,rfl,_⟩:=h;rfl
 obtain ⟨a,dx,rfl,ea,q⟩:=h
 refine ⟨_,(zg (zlS (pv 0) ziU (by rfl))),?_⟩
 intro d hd
 exact ⟨_,rfl,a,C,dx,[],rfl,by rw [zk (zl ea hd)];exact ea,c,nl,by decide,q d hd⟩
theorem ziC (D:XId K mg "Clash" CC "Clash.__init__" zaF ["self","one","other"]) (n1:z8 K CC "one") (n2:z8 K CC "other"):XI P w K mg base "Clash" CC 1 ["self","one","other"] (zgV CC):=by
 have c:=D.cl
 refine D.ok (k:=0) zc8 (fun vs H Q E h=>?_) (fun f cdv A outer s H vs Q E hr h=>?_)
 ·obtain ⟨x,v1,v2,rfl,_⟩:=h;rfl
 obtain ⟨x,v1,v2,rfl,ex,q⟩:=h
 refine ⟨_,(zb (zl5 (pv 0) (pv 1) (by rfl))
 (zg (zlx (pv 0) (pv 2) (by rfl)))),?_⟩
 refine ⟨_,rfl,_,rfl,x,CC,true,rfl,ex,c,n1,fun d hd hdx=>?_⟩
 refine ⟨_,rfl,_,rfl,x,CC,true,d,[("one",v1)],rfl,zh,by rw [zk hdx];exact zh,hdx,c,n2,(show (1:Nat) < 1000 by decide),?_⟩
 show Q .non (upd _ d (xdO d (putF "other" v2 [("one",v1)])))
 rw [zjq]
 exact q d hd hdx
theorem zhA (D:Mdf K C "refuse_clash" "Vault.refuse_clash" zai ["self","number","thing"]) (X_Clash:XI P w K mg base "Clash" CC 1 ["self","one","other"] (zgV CC)) (c:Cls K C) (nl:z8 K C "laid"):
  Mt P w K mg base (CX1 P w) C "refuse_clash" 3 ["self","number","thing"] (zfd C CC):=by
 refine D.okX (k:=2) zcc (fun vs H Q E h=>?_) (fun f cdv A outer s H vs Q E hr h=>?_)
 ·obtain ⟨a,d,kvs,n,t,v,rfl,_⟩:=h;rfl
 obtain ⟨a,d,kvs,n,t,v,rfl,vo,lo,rt,gt,sn,q,qe⟩:=h
 obtain ⟨⟨dx,fs,eo,fl⟩,ed⟩:=vo
 refine ⟨_,(zg (zP (PW.pt (zf3 (zf8 (zlJ (zeo hr) (pv 1) (zcZ (pv 0) (by rfl)))) (zeU (zH (zdy hr) (ze2 (zeo hr) (zcZ (pv 0) (by rfl)) (pv 1) (fun _ _=>rfl)) (pv 2) (zD _)))))
 (zg (zig zju rfl (zmh X_Clash hr (by omega) (by rfl) (za (ze2 (zeo hr) (zcZ (pv 0) (by rfl)) (pv 1) (fun _ _=>rfl)) (za (pv 2) zc)))))
 zC)),?_⟩
 refine ⟨_,rfl,_,rfl,a,C,dx,_,_,rfl,eo,c,nl,fl.la,d,_,rfl,DGet.k (k:=Sum.inl n) ed,_,rfl,?_⟩
 cases ev:valV kvs (Sum.inl n) with
 | none=>exact ifF rfl (ifF rfl (q fun t1 v1 e=>by rw [ev] at e;cases e))
 | some v1=>
  obtain ⟨t1,r1,g1,s1⟩:=lo n v1 ev
  have gd:=g1.dp
  have dg:DGet H d (.int n) (some v1):=by rw [←ev];exact DGet.k (k:=Sum.inl n) ed
  refine ifT rfl ?_
  refine ⟨_,rfl,a,C,dx,_,_,rfl,eo,c,nl,fl.la,_,rfl,d,v1,rfl,dg,_,rfl,t1,t,r1,rt,by omega,_,rfl,?_⟩
  refine ifB (fun cc=>?_) (fun cc=>?_)
  ·have ne:t1≠t:=fun z=>by rw [z,zY] at cc;cases cc
   refine ⟨_,rfl,a,C,dx,_,_,rfl,eo,c,nl,fl.la,_,rfl,d,v1,rfl,dg,_,rfl,szl (show 2≤1000 by decide),fun x hx=>?_⟩
   refine ⟨x,v1,v,rfl,zh,fun d' hd' hdx=>⟨rfl,?_⟩⟩
   have hd2:H d'=none:=by rw [zk hdx] at hd';exact hd'
   refine ⟨x,CC,some d',rfl,by rw [zk (Ne.symm hdx)];exact zh,X_Clash.cl.q,?_⟩
   refine qe t1 v1 ev r1 g1 (s1.trans sn.symm) ne _ d' (fun b o hb=>?_) ?_
   ·have b1:b≠x:=zl hb hx
    have b2:b≠d':=zl hb hd2
    rw [zbb b1,zk b2,zk b1,zk b2,zk b1];exact hb
   ·rw [zbb hdx];exact zh
  ·have eq:t1=t:=(zab t1 t).mp (by cases z:eqT t1 t with | true=>rfl | false=>rw [z] at cc;cases cc)
   exact q fun t2 v2 e r2=>by rw [ev] at e;cases e;exact (r2.uniq r1).trans eq
theorem zlZ (D:Mdf K C "lay" "Vault.lay" zbB ["self","thing"]) (M_refuse_clash:Mt P w K mg base (CX1 P w) C "refuse_clash" 3 ["self","number","thing"] (zfd C CC)) (F_seal:Fn P w K mg base "seal" 13 ["thing"] zcY) (c_K:Cls K C) (nl:z8 K C "laid"):
  Mt P w K mg base (CX1 P w) C "lay" 14 ["self","thing"] (zkC C CC):=by
 refine D.okX (k:=13) zds (fun vs H Q E h=>?_) (fun f cdv A outer s H vs Q E hr h=>?_)
 ·obtain ⟨a,d,kvs,t,v,rfl,_⟩:=h;rfl
 obtain ⟨a,d,kvs,t,v,rfl,vo,lo,hl,rt,gt,q,qe⟩:=h
 have gd:=gt.dp
 have gn:=gt.nd
 refine ⟨_,(zb (zm (i:=2) zds.nd rfl (Or.inl rfl) (zA F_seal hr (by omega) (by rfl) (za (pv 1) zc)))
 (zb (zbi (zdf (pv 0) c_K M_refuse_clash hr (by omega) z4 (za (pv 2) (za (pv 1) zc))))
 (zb (zkt (zeo hr) (zcZ (pv 0) (by rfl)) (pv 2) (pv 1) (by rfl))
 (zg (zq (pv 2)))))),?_⟩
 refine ⟨_,rfl,t,v,rfl,rt,gt.wf,by omega,by omega,fun H1 s1=>?_⟩
 have vo1:=vo.keep s1
 obtain ⟨⟨dx,fs,eo,fl⟩,ed⟩:=id vo1
 have rt1:=rt.keep (Same.tups s1)
 refine ⟨_,rfl,a,dx,_,rfl,eo,fl.n1,_,rfl,_,rfl,a,d,kvs,_,t,v,rfl,vo1,lo.keep (Same.tups s1),rt1,gt,rfl,fun same=>?_,fun t1 v1 ev r1 g1 sn ne=>qe t1 v1 H1 s1 ev r1 g1 sn ne⟩
 refine ⟨_,rfl,_,rfl,a,C,dx,_,_,rfl,eo,c_K,nl,fl.la,_,rfl,d,_,rfl,DPut.k (k:=Sum.inl (zZ t)) ed (Nat.lt_of_le_of_lt hl (by decide+kernel)),?_⟩
 exact ⟨_,rfl,q H1 s1 fun t1 v1 e r=>same t1 v1 e (r.keep (Same.tups s1))⟩
theorem zht (D:Mdf K C "thing" "Vault.thing" za4 ["self","number"]) (c:Cls K C) (nl:z8 K C "laid"):Mt P w K mg base CX0 C "thing" 1 ["self","number"] (zfG C):=by
 refine D.ok (k:=0) zek (fun vs H Q E h=>?_) (fun f cdv A outer s H vs Q E hr h=>?_)
 ·obtain ⟨a,d,kvs,n,v,rfl,_⟩:=h;rfl
 obtain ⟨a,d,kvs,n,v,rfl,⟨⟨dx,fs,eo,fl⟩,ed⟩,ev,q⟩:=h
 have dg:DGet H d (.int n) (some v):=by rw [←ev];exact DGet.k (k:=Sum.inl n) ed
 refine ⟨_,(zb (zP (zf8 (zh1 (zeo hr) (pv 1) (zcZ (pv 0) (by rfl))))
 (zg zfO)
 zC)
 (zg (zq (ze2 (zeo hr) (zcZ (pv 0) (by rfl)) (pv 1) (fun _ _=>rfl))))),?_⟩
 refine ⟨_,rfl,_,rfl,a,C,dx,_,_,rfl,eo,c,nl,fl.la,d,_,rfl,dg,_,rfl,ifF rfl ?_⟩
 exact ⟨_,rfl,a,C,dx,_,_,rfl,eo,c,nl,fl.la,_,rfl,d,v,rfl,dg,q⟩
end
end Pv
namespace Pv
open PySem L2
def addT (cs:List (Int ×Th))(n:Int)(t:Th):List (Int ×Th):=match z9 cs n with | none=>cs++ [(n,t)] | some _=>cs
def Fits (cs:List (Int ×Th))(n:Int)(t:Th):Prop:=z9 cs n=none∨z9 cs n=some t
structure GoodC (cs:List (Int ×Th)):Prop where
 nd:(cs.map (·.1)).Nodup
 gd:∀p∈cs,Good p.2∧zZ p.2=p.1
theorem zb7 {cs:List (Int ×Th)}{n:Int}{t:Th}(h:z9 cs n=none):addT cs n t=cs++ [(n,t)]:=by unfold addT;rw [h]
theorem zb0 {cs:List (Int ×Th)}{n:Int}{t u:Th}(h:z9 cs n=some u):addT cs n t=cs:=by unfold addT;rw [h]
theorem zbx (cs:List (Int ×Th))(n:Int)(t:Th):(addT cs n t).length≤cs.length+1:=by
 cases e:z9 cs n with
 | none=>rw [zb7 e,List.length_append];exact Nat.le_refl _
 | some u=>rw [zb0 e];omega
theorem DRep.add {H:Hp}{cs:List (Int ×Th)}{kvs:List (Key ×V)}{n:Int}{t:Th}{v:V}(r:DRep H cs kvs)(h:Rep H t v)(f:Fits cs n t)(nd:(cs.map (·.1)).Nodup):DRep H (addT cs n t) (putK kvs (.inl n) v):=by
 rcases f with f | f
 ·rw [zb7 f];exact r.put h f
 ·rw [zb0 f];exact r.again h f nd
theorem GoodC.add {cs:List (Int ×Th)}{n:Int}{t:Th}(g:GoodC cs)(gt:Good t)(sn:zZ t=n):GoodC (addT cs n t):=by
 cases e:z9 cs n with
 | some u=>rw [zb0 e];exact g
 | none=>
  rw [zb7 e]
  refine ⟨?_,fun p hp=>?_⟩
  ·rw [List.map_append,List.nodup_append]
   refine ⟨g.nd,by simp,fun a ha b hb=>?_⟩
   cases List.mem_singleton.mp hb
   exact fun z=>zgA e (by have z':a=n:=z;rw [←z'];exact ha)
  ·rcases List.mem_append.mp hp with h | h
   ·exact g.gd p h
   ·cases List.mem_singleton.mp h
    exact ⟨gt,sn⟩
theorem GoodC.nil:GoodC []:=⟨List.nodup_nil,fun p h=>by cases h⟩
theorem GoodC.dep {cs:List (Int ×Th)}{n:Int}{t:Th}(g:GoodC cs)(e:z9 cs n=some t):Good t∧zZ t=n:=g.gd _ (zeI e)
theorem zhC {cs:List (Int ×Th)}{n m:Int}{t u:Th}(e:z9 cs m=some u):z9 (addT cs n t) m=some u:=by
 cases z:z9 cs n with
 | some y=>rw [zb0 z];exact e
 | none=>rw [zb7 z,zei,e]
theorem zfp {cs:List (Int ×Th)}{n:Int}{t:Th}(f:Fits cs n t):z9 (addT cs n t) n=some t:=by
 rcases f with f | f
 ·rw [zb7 f,zei,f];exact if_pos rfl
 ·rw [zb0 f];exact f
end Pv
namespace Pv
open PySem L2
theorem zhx {a c:Th}(b:Th)(h:ze a c=true):ze a b=true∨ze b c=true:=by
 rw [←zap] at h
 rw [←zap,←zap]
 exact zfc _ _ _ h
theorem z5 {a b c:Th}(h1:ze a b=true)(h2:ze b c=true):ze a c=true:=by
 rcases zhx c h1 with h | h
 ·exact h
 ·rw [zW h2] at h;cases h
theorem za8 {a b:Th}(h:ze a b=false)(n:a≠b):ze b a=true:=by
 cases e:ze b a with
 | true=>rfl
 | false=>exact absurd (zeA h e) n
def zS (t:Th):Int:=zZ (.tup [.str ("rank" :Str),t])
def zM (t u:Th):Bool:=if zS t=zS u then ze t u else decide (zS u < zS t)
abbrev za2 (k wo:Th)(l r c:Int):Th:=.tup [k,wo,.int l,.int r,.int c]
theorem zft (t:Th):1≤zZ t∧zZ t≤2305843009213693951:=by
 have:=zdl (zay t)
 unfold zZ
 omega
structure KeyT (t:Th):Prop where
 wf:Wf t
 dp:dep t≤3
 nd:nodes t≤10
 ne:t≠ .non
instance decTh:DecidableEq Th:=fun t u=>decidable_of_iff _ (zab t u)
inductive Tr where
 | nil:Tr
 | node (l:Tr) (k w:Th) (r:Tr):Tr
namespace Tr
def ps:Tr→List (Th ×Th)
 | nil=>[]
 | node l k w r=>l.ps++(k,w)::r.ps
def root:Tr→Int
 | nil=>0
 | node l k w r=>zZ (za2 k w l.root r.root (((l.ps++(k,w)::r.ps).length:Nat):Int))
abbrev cnt (T:Tr):Nat:=T.ps.length
def thing:Tr→Th
 | nil=>.non
 | node l k w r=>za2 k w l.root r.root (((l.ps++(k,w)::r.ps).length:Nat):Int)
def InV (cs:List (Int ×Th)):Tr→Prop
 | nil=>True
 | node l k w r=>z9 cs (node l k w r).root=some (node l k w r).thing∧l.InV cs∧r.InV cs
def kid (x:Th):Tr→Tr
 | nil=>nil
 | node l k _ r=>if ze k x=true then r else l
def down (x:Th):Nat→Tr→Tr
 | 0,T=>T
 | n+1,T=>down x n (T.kid x)
def plug (x:Th):Nat→Tr→Tr→Tr
 | 0,_,S=>S
 | _+1,nil,_=>nil
 | n+1,node l k w r,S=>if ze k x=true then node l k w (plug x n r S) else node (plug x n l S) k w r
def spl (x:Th):Nat→Tr→Tr ×Tr
 | 0,T=>(T,nil)
 | _+1,nil=>(nil,nil)
 | n+1,node l k w r=>if ze k x=true then (node l k w (spl x n r).1,(spl x n r).2) else ((spl x n l).1,node (spl x n l).2 k w r)
def wl (x:Th):Tr→Nat
 | nil=>0
 | node l k _ r=>if k=x then 1 else (if ze k x=true then r.wl x else l.wl x)+1
def own (x:Th):Tr→Tr
 | nil=>nil
 | node l k w r=>if k=x then node l k w r else if ze k x=true then r.own x else l.own x
end Tr
open Tr
theorem zeG (l:Tr)(k w:Th)(r:Tr):(node l k w r).root=zZ (node l k w r).thing:=rfl
theorem zbr {T:Tr}:T.root=0↔T=nil:=by
 cases T with
 | nil=>exact ⟨fun _=>rfl,fun _=>rfl⟩
 | node l k w r=>
  refine ⟨fun h=>?_,fun h=>by cases h⟩
  have:=(zft (node l k w r).thing).1
  rw [zeG] at h
  omega
theorem zdM (T:Tr):0≤T.root∧T.root≤2305843009213693951:=by
 cases T with
 | nil=>exact ⟨Int.le_refl 0,by decide⟩
 | node l k w r=>
  have:=zft (node l k w r).thing
  rw [zeG]
  omega
theorem zL (l:Tr)(k w:Th)(r:Tr):(node l k w r).cnt=l.cnt+r.cnt+1:=by
 show (l.ps++(k,w)::r.ps).length=_
 rw [List.length_append,List.length_cons]
 show l.ps.length+(r.ps.length+1)=l.ps.length+r.ps.length+1
 omega
def Sub (cs cs':List (Int ×Th)):Prop:=∀n t,z9 cs n=some t→z9 cs' n=some t
theorem Sub.refl (cs:List (Int ×Th)):Sub cs cs:=fun _ _ h=>h
theorem Sub.trans {a b c:List (Int ×Th)}(h:Sub a b)(h':Sub b c):Sub a c:=fun n t e=>h' n t (h n t e)
theorem InV.mono {cs cs':List (Int ×Th)}(s:Sub cs cs'):∀{T:Tr},T.InV cs→T.InV cs'
 | nil,_=>trivial
 | node _ _ _ _,h=>⟨s _ _ h.1,InV.mono s h.2.1,InV.mono s h.2.2⟩
def Srt (ps:List (Th ×Th)):Prop:=ps.Pairwise fun p q=>ze p.1 q.1=true
theorem zaC {l:Tr}{k w:Th}{r:Tr}(h:Srt (node l k w r).ps):Srt l.ps∧Srt r.ps∧(∀p∈l.ps,ze p.1 k=true)∧(∀p∈r.ps,ze k p.1=true):=by
 have h':Srt (l.ps++(k,w)::r.ps):=h
 obtain ⟨h1,h2,h3⟩:=List.pairwise_append.mp h'
 obtain ⟨h4,h5⟩:=List.pairwise_cons.mp h2
 exact ⟨h1,h5,fun p hp=>h3 p hp _ List.mem_cons_self,fun p hp=>h4 p hp⟩
def lo (ps:List (Th ×Th))(x:Th):List (Th ×Th):=ps.filter fun p=>ze p.1 x
def hi (ps:List (Th ×Th))(x:Th):List (Th ×Th):=ps.filter fun p=>ze x p.1
def hiE (ps:List (Th ×Th))(x:Th):List (Th ×Th):=ps.filter fun p=>!ze p.1 x
def insP (ps:List (Th ×Th))(x w:Th):List (Th ×Th):=lo ps x++(x,w)::hi ps x
theorem zcg (a b:List (Th ×Th))(x:Th):lo (a++b) x=lo a x++lo b x:=List.filter_append ..
theorem zc6 (a b:List (Th ×Th))(x:Th):hi (a++b) x=hi a x++hi b x:=List.filter_append ..
theorem zgt (a b:List (Th ×Th))(x:Th):hiE (a++b) x=hiE a x++hiE b x:=List.filter_append ..
theorem zeN {a:List (Th ×Th)}{x:Th}(h:∀p∈a,ze p.1 x=true):lo a x=a:=List.filter_eq_self.mpr h
theorem zjF {a:List (Th ×Th)}{x:Th}(h:∀p∈a,ze x p.1=true):hi a x=a:=List.filter_eq_self.mpr h
theorem zgT {a:List (Th ×Th)}{x:Th}(h:∀p∈a,ze p.1 x=false):hiE a x=a:=List.filter_eq_self.mpr fun p hp=>by rw [h p hp];rfl
theorem zdA {a:List (Th ×Th)}{x:Th}(h:∀p∈a,ze p.1 x=false):lo a x=[]:=List.filter_eq_nil_iff.mpr fun p hp=>by rw [h p hp];exact Bool.false_ne_true
theorem zgJ {a:List (Th ×Th)}{x:Th}(h:∀p∈a,ze x p.1=false):hi a x=[]:=List.filter_eq_nil_iff.mpr fun p hp=>by rw [h p hp];exact Bool.false_ne_true
theorem zfK {a:List (Th ×Th)}{x:Th}(h:∀p∈a,ze p.1 x=true):hiE a x=[]:=List.filter_eq_nil_iff.mpr fun p hp=>by rw [h p hp];exact Bool.false_ne_true
theorem zmB {p:Th ×Th}{a:List (Th ×Th)}{x:Th}(h:ze p.1 x=true):lo (p::a) x=p::lo a x:=List.filter_cons_of_pos h
theorem zix {p:Th ×Th}{a:List (Th ×Th)}{x:Th}(h:ze p.1 x=false):lo (p::a) x=lo a x:=List.filter_cons_of_neg (by rw [h];exact Bool.false_ne_true)
theorem zmb {p:Th ×Th}{a:List (Th ×Th)}{x:Th}(h:ze x p.1=false):hi (p::a) x=hi a x:=List.filter_cons_of_neg (by rw [h];exact Bool.false_ne_true)
theorem ziB {p:Th ×Th}{a:List (Th ×Th)}{x:Th}(h:ze p.1 x=false):hiE (p::a) x=p::hiE a x:=List.filter_cons_of_pos (by rw [h];rfl)
theorem zlb {p:Th ×Th}{a:List (Th ×Th)}{x:Th}(h:ze p.1 x=true):hiE (p::a) x=hiE a x:=List.filter_cons_of_neg (by rw [h];exact Bool.false_ne_true)
theorem zdE {A M B:List (Th ×Th)}{x w:Th}(hA:∀p∈A,ze p.1 x=true)(hB:∀p∈B,ze x p.1=true):insP (A++M++B) x w=A++insP M x w++B:=by
 unfold insP
 rw [zcg,zcg,zc6,zc6,zeN hA,zjF hB,zgJ (a:=A) fun p hp=>zW (hA p hp),zdA (a:=B) fun p hp=>zW (hB p hp)]
 simp
theorem zeH {l r:List (Th ×Th)}{k w w':Th}(hl:∀p∈l,ze p.1 k=true)(hr:∀p∈r,ze k p.1=true):insP (l++(k,w)::r) k w'=l++(k,w')::r:=by
 unfold insP
 rw [zcg,zc6,zeN hl,zix (zB k),zmb (zB k),zjF hr,zdA (a:=r) fun p hp=>zW (hr p hp),zgJ (a:=l) fun p hp=>zW (hl p hp)]
 simp
theorem zlU {a:List (Th ×Th)}{x:Th}(h:∀p∈a,p.1≠x):hi a x=hiE a x:=by
 unfold hi hiE
 refine List.filter_congr fun p hp=>?_
 cases e:ze p.1 x with
 | true=>rw [zW e];rfl
 | false=>rw [za8 e (h p hp)];rfl
def Up (x:Th):Nat→Tr→Prop
 | 0,_=>True
 | _+1,nil=>False
 | n+1,node l k _ r=>k≠x∧Up x n (if ze k x=true then r else l)
theorem zb5 {x:Th}:∀{n:Nat} {T:Tr},Srt T.ps→Up x n T→∃A B:List (Th ×Th),(∀S,(plug x n T S).ps=A++S.ps++B)∧T.ps=A++(down x n T).ps++B∧(∀p∈A,ze p.1 x=true)∧(∀p∈B,ze x p.1=true)
 | 0,T,_,_=>⟨[],[],fun S=>(List.append_nil _).symm,(List.append_nil _).symm,fun p h=>(nomatch h),fun p h=>(nomatch h)⟩
 | n+1,nil,_,h=>h.elim
 | n+1,node l k w r,hs,h=>by
  obtain ⟨h1,h2,h3,h4⟩:=zaC hs
  obtain ⟨ne,h⟩:=h
  by_cases c:ze k x=true
  ·rw [if_pos c] at h
   obtain ⟨A,B,e1,e2,e3,e4⟩:=zb5 h2 h
   refine ⟨l.ps++(k,w)::A,B,fun S=>?_,?_,fun p hp=>?_,e4⟩
   ·show (if ze k x=true then node l k w (plug x n r S) else node (plug x n l S) k w r).ps=_
    rw [if_pos c]
    show l.ps++(k,w)::(plug x n r S).ps=_
    rw [e1 S];simp
   ·show l.ps++(k,w)::r.ps=(l.ps++(k,w)::A)++(down x n (if ze k x=true then r else l)).ps++B
    rw [if_pos c,e2];simp
   ·rcases List.mem_append.mp hp with hp | hp
    ·exact z5 (h3 p hp) c
    ·rcases List.mem_cons.mp hp with rfl | hp
     ·exact c
     ·exact e3 p hp
  ·rw [if_neg c] at h
   have c':ze k x=false:=by cases z:ze k x with | true=>exact absurd z c | false=>rfl
   have xk:=za8 c' ne
   obtain ⟨A,B,e1,e2,e3,e4⟩:=zb5 h1 h
   refine ⟨A,B++(k,w)::r.ps,fun S=>?_,?_,e3,fun p hp=>?_⟩
   ·show (if ze k x=true then node l k w (plug x n r S) else node (plug x n l S) k w r).ps=_
    rw [if_neg c]
    show (plug x n l S).ps++(k,w)::r.ps=_
    rw [e1 S];simp
   ·show l.ps++(k,w)::r.ps=A++(down x n (if ze k x=true then r else l)).ps++(B++(k,w)::r.ps)
    rw [if_neg c,e2];simp
   ·rcases List.mem_append.mp hp with hp | hp
    ·exact e4 p hp
    ·rcases List.mem_cons.mp hp with rfl | hp
     ·exact xk
     ·exact z5 xk (h4 p hp)
theorem zd2 {x:Th}:∀{n:Nat} {T S:Tr},(∀m,m < n→down x m T≠nil)→(plug x n T S).cnt+(down x n T).cnt=T.cnt+S.cnt
 | 0,T,S,_=>Nat.add_comm _ _
 | n+1,nil,S,h=>absurd rfl (h 0 (Nat.zero_lt_succ _))
 | n+1,node l k w r,S,h=>by
  show (if ze k x=true then node l k w (plug x n r S) else node (plug x n l S) k w r).cnt+(down x n (if ze k x=true then r else l)).cnt=_
  have h':∀m,m < n→down x m (if ze k x=true then r else l)≠nil:=fun m hm=>h (m+1) (Nat.succ_lt_succ hm)
  by_cases c:ze k x=true
  ·rw [if_pos c] at h' ⊢
   rw [if_pos c]
   have:=zd2 (S:=S) h'
   rw [zL,zL];omega
  ·rw [if_neg c] at h' ⊢
   rw [if_neg c]
   have:=zd2 (S:=S) h'
   rw [zL,zL];omega
theorem up_down {x:Th}:∀{n:Nat} {T:Tr},Up x n T→∀m,m < n→down x m T≠nil
 | 0,_,_,m,hm=>absurd hm (Nat.not_lt_zero m)
 | n+1,nil,h,_,_=>h.elim
 | n+1,node l k w r,h,0,_=>fun z=>by cases z
 | n+1,node l k w r,h,m+1,hm=>up_down (T:=if ze k x=true then r else l) h.2 m (Nat.lt_of_succ_lt_succ hm)
theorem za0 {x:Th}:∀(n m:Nat) (T:Tr),down x (n+m) T=down x m (down x n T)
 | 0,m,T=>by rw [Nat.zero_add];rfl
 | n+1,m,T=>by
  rw [Nat.succ_add]
  exact za0 n m (T.kid x)
theorem zcA {x:Th}(n:Nat)(T:Tr):down x (n+1) T=(down x n T).kid x:=za0 n 1 T
theorem zdu {x:Th}:∀{n m:Nat} {T:Tr},Up x n T→m≤n→Up x m T
 | _,0,_,_,_=>trivial
 | 0,m+1,_,_,h=>absurd h (Nat.not_succ_le_zero m)
 | n+1,m+1,nil,h,_=>h.elim
 | n+1,m+1,node l k w r,h,hm=>⟨h.1,zdu h.2 (Nat.le_of_succ_le_succ hm)⟩
theorem za7 {x:Th}:∀{T:Tr},own x T=nil→Up x (wl x T) T∧down x (wl x T) T=nil
 | nil,_=>⟨trivial,rfl⟩
 | node l k w r,h=>by
  unfold own at h
  by_cases e:k=x
  ·rw [if_pos e] at h;cases h
  ·rw [if_neg e] at h
   unfold wl
   rw [if_neg e]
   by_cases c:ze k x=true
   ·rw [if_pos c] at h ⊢
    obtain ⟨a,b⟩:=za7 h
    refine ⟨⟨e,?_⟩,?_⟩
    ·rw [if_pos c];exact a
    ·show down x _ (if ze k x=true then r else l)=nil
     rw [if_pos c];exact b
   ·rw [if_neg c] at h ⊢
    obtain ⟨a,b⟩:=za7 h
    refine ⟨⟨e,?_⟩,?_⟩
    ·rw [if_neg c];exact a
    ·show down x _ (if ze k x=true then r else l)=nil
     rw [if_neg c];exact b
theorem zaB {x:Th}:∀{T l' r':Tr} {k' w':Th},own x T=node l' k' w' r'→k'=x∧∃n,wl x T=n+1∧Up x n T∧down x n T=node l' k' w' r'
 | nil,_,_,_,_,h=>by cases h
 | node l k w r,l',r',k',w',h=>by
  unfold own at h
  by_cases e:k=x
  ·rw [if_pos e] at h
   cases h
   unfold wl
   rw [if_pos e]
   exact ⟨e,0,rfl,trivial,rfl⟩
  ·rw [if_neg e] at h
   unfold wl
   rw [if_neg e]
   by_cases c:ze k x=true
   ·rw [if_pos c] at h ⊢
    obtain ⟨a,n,b,d,f⟩:=zaB h
    refine ⟨a,n+1,by rw [b],⟨e,?_⟩,?_⟩
    ·rw [if_pos c];exact d
    ·show down x n (if ze k x=true then r else l)=_
     rw [if_pos c];exact f
   ·rw [if_neg c] at h ⊢
    obtain ⟨a,n,b,d,f⟩:=zaB h
    refine ⟨a,n+1,by rw [b],⟨e,?_⟩,?_⟩
    ·rw [if_neg c];exact d
    ·show down x n (if ze k x=true then r else l)=_
     rw [if_neg c];exact f
theorem zgW {x:Th}{T:Tr}:∀{n:Nat},Up x n T→wl x T=n+wl x (down x n T):=by
 intro n
 induction n generalizing T with
 | zero=>intro _;rw [Nat.zero_add];rfl
 | succ n ih=>
  intro h
  cases T with
  | nil=>exact h.elim
  | node l k w r=>
   obtain ⟨e,h⟩:=h
   have:=ih h
   show (if k=x then 1 else (if ze k x=true then r.wl x else l.wl x)+1)=n+1+wl x (down x n (if ze k x=true then r else l))
   rw [if_neg e]
   by_cases c:ze k x=true
   ·rw [if_pos c] at this ⊢;rw [if_pos c];omega
   ·rw [if_neg c] at this ⊢;rw [if_neg c];omega
theorem zfC {x:Th}:∀T:Tr,wl x T≤T.cnt
 | nil=>Nat.le_refl _
 | node l k w r=>by
  rw [zL]
  unfold wl
  have h1:=zfC (x:=x) l
  have h2:=zfC (x:=x) r
  split
  ·omega
  ·split <;> omega
theorem zbu {x:Th}:∀{n:Nat} {T:Tr},Srt T.ps→Srt (down x n T).ps
 | 0,_,h=>h
 | n+1,T,h=>zbu (n:=n) (T:=T.kid x) (by
  cases T with
  | nil=>exact List.Pairwise.nil
  | node l k w r=>
   obtain ⟨h1,h2,_,_⟩:=zaC h
   show Srt (if ze k x=true then r else l).ps
   split
   ·exact h2
   ·exact h1)
theorem zgd {x:Th}:∀{T:Tr},Srt T.ps→(spl x (wl x T) T).1.ps=lo T.ps x∧(spl x (wl x T) T).2.ps=hiE T.ps x
 | nil,_=>⟨rfl,rfl⟩
 | node l k w r,h=>by
  obtain ⟨h1,h2,h3,h4⟩:=zaC h
  show (spl x (if k=x then 1 else (if ze k x=true then r.wl x else l.wl x)+1) (node l k w r)).1.ps=lo (l.ps++(k,w)::r.ps) x∧(spl x (if k=x then 1 else (if ze k x=true then r.wl x else l.wl x)+1) (node l k w r)).2.ps=hiE (l.ps++(k,w)::r.ps) x
  rw [zcg,zgt]
  by_cases e:k=x
  ·subst e
   rw [if_pos rfl]
   have c:=zB k
   show (if ze k k=true then (node l k w r,nil) else (l,node nil k w r)).1.ps=_∧(if ze k k=true then (node l k w r,nil) else (l,node nil k w r)).2.ps=_
   rw [c,zeN h3,zix c,ziB c,zdA fun p hp=>zW (h4 p hp),zfK h3,zgT fun p hp=>zW (h4 p hp)]
   exact ⟨(List.append_nil _).symm,rfl⟩
  ·rw [if_neg e]
   by_cases c:ze k x=true
   ·obtain ⟨i1,i2⟩:=zgd (x:=x) h2
    rw [if_pos c]
    show (if ze k x=true then (node l k w (spl x (r.wl x) r).1,(spl x (r.wl x) r).2) else _).1.ps=_∧(if ze k x=true then (node l k w (spl x (r.wl x) r).1,(spl x (r.wl x) r).2) else _).2.ps=_
    rw [if_pos c,zeN fun p hp=>z5 (h3 p hp) c,zmB c,zfK fun p hp=>z5 (h3 p hp) c,zlb c]
    refine ⟨?_,by rw [List.nil_append];exact i2⟩
    show l.ps++(k,w)::(spl x (r.wl x) r).1.ps=_
    rw [i1]
   ·have c':ze k x=false:=by cases z:ze k x with | true=>exact absurd z c | false=>rfl
    have xk:=za8 c' e
    obtain ⟨i1,i2⟩:=zgd (x:=x) h1
    rw [if_neg c]
    show (if ze k x=true then _ else ((spl x (l.wl x) l).1,node (spl x (l.wl x) l).2 k w r)).1.ps=_∧(if ze k x=true then _ else ((spl x (l.wl x) l).1,node (spl x (l.wl x) l).2 k w r)).2.ps=_
    have hr:∀p∈r.ps,ze p.1 x=false:=fun p hp=>zW (z5 xk (h4 p hp))
    rw [if_neg c,zix c',ziB c',zdA hr,zgT hr]
    refine ⟨by rw [List.append_nil];exact i1,?_⟩
    show (spl x (l.wl x) l).2.ps++(k,w)::r.ps=_
    rw [i2]
def Tr.plc (x:Th):Tr→Nat
 | nil=>0
 | node l k _ r=>if zM x k=true then 0 else (if ze k x=true then r.plc x else l.plc x)+1
theorem zdX {x:Th}:∀{T:Tr},own x T=nil→plc x T≤wl x T
 | nil,_=>Nat.le_refl _
 | node l k w r,h=>by
  unfold own at h
  by_cases e:k=x
  ·rw [if_pos e] at h;cases h
  ·rw [if_neg e] at h
   unfold plc wl
   rw [if_neg e]
   split
   ·exact Nat.zero_le _
   ·by_cases c:ze k x=true
    ·rw [if_pos c] at h;rw [if_pos c,if_pos c];exact Nat.succ_le_succ (zdX h)
    ·rw [if_neg c] at h;rw [if_neg c,if_neg c];exact Nat.succ_le_succ (zdX h)
theorem zjA {x:Th}:∀{n:Nat} {T:Tr},Up x n T→own x (down x n T)=own x T
 | 0,_,_=>rfl
 | n+1,nil,h=>h.elim
 | n+1,node l k w r,h=>by
  show own x (down x n (if ze k x=true then r else l))=own x (node l k w r)
  rw [zjA h.2]
  conv=>rhs;unfold own
  rw [if_neg h.1]
  split <;> rfl
theorem zcK {x:Th}:∀{T:Tr},Srt T.ps→own x T=nil→∀p∈T.ps,p.1≠x
 | nil,_,_,p,hp=>by cases hp
 | node l k w r,hs,h,p,hp=>by
  obtain ⟨h1,h2,h3,h4⟩:=zaC hs
  unfold own at h
  by_cases e:k=x
  ·rw [if_pos e] at h;cases h
  ·rw [if_neg e] at h
   by_cases c:ze k x=true
   ·rw [if_pos c] at h
    rcases List.mem_append.mp hp with hp | hp
    ·intro z
     have:=z5 (h3 p hp) c
     rw [z,zB] at this;cases this
    ·rcases List.mem_cons.mp hp with rfl | hp
     ·exact e
     ·exact zcK h2 h p hp
   ·rw [if_neg c] at h
    have c':ze k x=false:=by cases z:ze k x with | true=>exact absurd z c | false=>rfl
    have xk:=za8 c' e
    rcases List.mem_append.mp hp with hp | hp
    ·exact zcK h1 h p hp
    ·rcases List.mem_cons.mp hp with rfl | hp
     ·exact e
     ·intro z
      have:=z5 xk (h4 p hp)
      rw [z,zB] at this;cases this
def Tr.putT (x w:Th)(T:Tr):Tr:=
 match own x T with
 | node l _ _ r=>plug x (wl x T - 1) T (node l x w r)
 | nil=>plug x (plc x T) T (node (spl x (wl x T - plc x T) (down x (plc x T) T)).1 x w (spl x (wl x T - plc x T) (down x (plc x T) T)).2)
theorem zc2 {x w:Th}{T:Tr}(hs:Srt T.ps):(putT x w T).ps=insP T.ps x w:=by
 unfold putT
 cases h:own x T with
 | nil=>
  obtain ⟨u,d⟩:=za7 h
  have hp:=zdX h
  have u':=zdu u hp
  obtain ⟨A,B,e1,e2,e3,e4⟩:=zb5 hs u'
  have hd:=zgW u'
  have ew:wl x T - plc x T=wl x (down x (plc x T) T):=by omega
  have s1:=zgd (x:=x) (zbu (x:=x) (n:=plc x T) hs)
  show (plug x (plc x T) T (node (spl x (wl x T - plc x T) (down x (plc x T) T)).1 x w (spl x (wl x T - plc x T) (down x (plc x T) T)).2)).ps=_
  rw [ew,e1]
  conv=>rhs;rw [e2]
  rw [zdE e3 e4]
  show A++((spl x (wl x (down x (plc x T) T)) (down x (plc x T) T)).1.ps++(x,w)::(spl x (wl x (down x (plc x T) T)) (down x (plc x T) T)).2.ps)++B=_
  rw [s1.1,s1.2]
  unfold insP
  rw [zlU (zcK (zbu hs) (by rw [zjA u',h]))]
 | node l k' w' r=>
  obtain ⟨rfl,n,ew,u,d⟩:=zaB h
  show (plug k' (wl k' T - 1) T (node l k' w r)).ps=_
  rw [ew,Nat.add_sub_cancel]
  obtain ⟨A,B,e1,e2,e3,e4⟩:=zb5 hs u
  rw [e1]
  conv=>rhs;rw [e2]
  rw [zdE e3 e4,d]
  obtain ⟨_,_,h3,h4⟩:=zaC (d ▸ zbu hs)
  show A++(l.ps++(k',w)::r.ps)++B=A++insP (l.ps++(k',w')::r.ps) k' w++B
  rw [zeH h3 h4]
theorem zcs {ps:List (Th ×Th)}(h:Srt ps)(f:Th ×Th→Bool):Srt (ps.filter f):=List.Pairwise.filter f h
theorem zdD {ps:List (Th ×Th)}{x w:Th}(h:Srt ps):Srt (insP ps x w):=by
 refine List.pairwise_append.mpr ⟨zcs h _,List.pairwise_cons.mpr ⟨fun p hp=>(List.mem_filter.mp hp).2,zcs h _⟩,fun p hp q hq=>?_⟩
 have a:=(List.mem_filter.mp hp).2
 rcases List.mem_cons.mp hq with rfl | hq
 ·exact a
 ·exact z5 a (List.mem_filter.mp hq).2
theorem zgK {ps:List (Th ×Th)}{x w:Th}:(insP ps x w).length≤ps.length+1:=by
 unfold insP lo hi
 rw [List.length_append,List.length_cons]
 have:∀qs:List (Th ×Th),(qs.filter fun p=>ze p.1 x).length+(qs.filter fun p=>ze x p.1).length≤qs.length:=fun qs=>by
  induction qs with
  | nil=>exact Nat.le_refl _
  | cons q qs ih=>
   rw [List.filter_cons,List.filter_cons]
   cases a:ze q.1 x with
   | true=>
    rw [zW a]
    show (q::qs.filter _).length+(qs.filter _).length≤_
    rw [List.length_cons,List.length_cons];omega
   | false=>
    show (qs.filter _).length+(if ze x q.1=true then q::qs.filter _ else qs.filter _).length≤_
    split
    ·rw [List.length_cons,List.length_cons];omega
    ·rw [List.length_cons];omega
 have:=this ps
 omega
theorem zg8 {ps:List (Th ×Th)}{x w:Th}{p:Th ×Th}(h:p∈insP ps x w):p∈ps∨p=(x,w):=by
 rcases List.mem_append.mp h with h | h
 ·exact .inl (List.mem_filter.mp h).1
 ·rcases List.mem_cons.mp h with h | h
  ·exact .inr h
  ·exact .inl (List.mem_filter.mp h).1
end Pv
namespace L2
open PySem PySem.Spec PyProof.Rows Px
structure ClsM (K:PySem.W.Frag)(mg:Str→Option Value)(x:Str)(V:Addr)(mc:Value)(m:Str)(f:Addr):Prop where
 mg:mg x=some (.ref V)
 sp:PySem.W.specialIn K (.ref V) "__getattribute__" =some (some (.builtin "type.__getattribute__"))
 rd:PySem.W.readsIn K V mc=true
 fc:PySem.W.findCls K (.ref V) mc m=some (.val (.ref f))
 kp:PySem.W.keepIn K (.ref f)=true
structure Kdf (K:PySem.W.Frag)(mg:Str→Option Value)(x m qual:Str)(st:Stmt)(ps:List Str):Prop where
 ex:∃f fd V mc,Fun K m qual st f fd∧Binds K fd ps []∧ClsM K mg x V mc m f
structure Kfn (P:Program)(w:World)(K:PySem.W.Frag)(mg:Str→Option Value)(base:Heap)(x m:Str)(k:Nat)(ps:List Str)(sp:Sp):Prop where
 ex:∃f fd V mc,FnOk P w K mg base CX0 k f fd ps sp∧Binds K fd ps []∧ClsM K mg x V mc m f
section
variable {P:Program}{w:World}{K:PySem.W.Frag}{mg:Str→Option Value}{base:Heap}{x m qual:Str}{st:Stmt}{ps N:List Str}{sp:Sp}{k:Nat}
theorem Kdf.ok (D:Kdf K mg x m qual st ps)(S:zu N ps (zd st))(len:∀vs H Q E,sp vs H Q E→vs.length=ps.length)
  (hbody:∀(f:Addr) (cdv:Value) (A:Around) (outer:List Env) (s:Shared) (H:Hp) (vs:List V) (Q:VK) (E:XK),Room k (A.deeper (envOfC qual (zd st) s.heap.objs.size f cdv))→sp vs H Q E→
   ∃t,PSs (cxOf CX0 P w K mg base N qual (zd st) f cdv A outer s H E).nox (zo st) t∧t {nx:=fun _ H'=>Q .non H',rt:=Q} (start N vs) H):Kfn P w K mg base x m (k+1) ps sp:=by
 obtain ⟨f,fd,V,mc,F,b,me⟩:=D.ex
 exact ⟨f,fd,V,mc,F.ok S len (fun cdv A outer s H vs Q E hr h=>hbody f cdv A outer s H vs Q E hr h),b,me⟩
variable {f V:Addr}{mc:Value}{od an:Option Addr}{sl:Array (Option Value)}{oc kV dc pm cd ct:Value}{h:Heap}
end
section
variable {X:Cx}{x m:Str}{ps:List Str}{sp:Sp}{k k':Nat}{e:Expr}{es:List Expr}{t:TA}{p pos apos:Pos}
end
end L2
namespace L2
open PySem PySem.Spec PyProof.Rows
def zk1 (K:PySem.W.Frag)(J:It)(p:Addr)(tt:TT)(te:TE)(H1:Hp)(Q:VK):Prop:=
 ∃W:Nat→Nat→List V→Hp→Prop,(∃m,W 0 m [] (upd H1 p (.lst [])))∧∀i m acc H,W i m acc H→
  (J.stop i H∧Q (.ref p) H)∨(J.go i H∧∀x H',J.yld i H x H'→∃a y z,x=.ref a∧SqT K H' a [y,z]∧tt [some y,some z] H' fun ok H2=>
   if ok=true then te [some y,some z] H2 fun v H3=>H3 p=some (.lst acc)∧acc.length < sizeLine∧∃m',m' < m∧W (i+1) m' (acc++ [v]) (upd H3 p (.lst (acc++ [v])))
   else∃m',m' < m∧W (i+1) m' acc H2)
def zmP (K:PySem.W.Frag)(wi:TI)(tt:TT)(te:TE):TE:=fun σ H Q=>wi σ H fun J H1=>∀p,H1 p=none→zk1 K J p tt te H1 Q
section
variable {X:Cx}{x x2:Str}{scope:Scope}{pins:List (Addr ×Obj)}{σ:St}{H:Hp}{s:Shared}
variable {iter elt:Expr}{ifs:List Expr}{px px2 tpos pos:Pos}{kt:Nat}{wi:TI}{tt:TT}{te:TE}
end
end L2
namespace L2
open PySem PySem.Spec PyProof.Rows
end L2
namespace L2
open PySem PySem.Spec PyProof.Rows
structure PEw (X:Cx)(e:Expr)(t:TE):Prop where
 h:PE X e t
structure PAw (X:Cx)(es:List Expr)(t:TA):Prop where
 h:PA X es t
structure PPw (X:Cx)(pos:Pos)(keys:List (Option Expr))(values:List Expr)(trs:List (TE ×TE)):Prop where
 h:PPs X pos keys values trs
structure PSw (X:Cx)(st:Stmt)(t:TS):Prop where
 h:PS X st t
structure PSq (X:Cx)(st:List Stmt)(t:TS):Prop where
 h:PSs X st t
section
variable {X:Cx}
end
end L2
namespace L2
open PySem PySem.Spec PyProof.Rows
section
variable {X:Cx}{pins:List (Addr ×Obj)}{σ:St}{H:Hp}{s:Shared}{d:Addr}{kvs:List (Key ×V)}{o:Obj}
theorem Inv.thaw (I:Inv X pins σ H s)(e:H d=some (.frz o (.dK kvs)))(n0:∀ob u,X.H₀ d≠some (.frz ob u)):Inv X pins σ (upd H d (.dK kvs)) s:=by
 have nd:∀b,H b=none→b≠d:=fun b hb z=>by rw [z,e] at hb;cases hb
 refine ⟨I.ok,I.os,I.bare,⟨I.base.keep,I.base.slot,fun b ob h1 h2 h3=>?_,I.base.there,fun b xs h=>?_,fun b ob u h=>?_,fun b ps h=>?_⟩,I.loc,I.cell,?_,fun x c h=>?_,fun p hp=>?_,fun a u h=>?_,I.len⟩
 ·have:=I.base.free b ob h1 h2 h3
  rw [zk (nd b this)];exact this
 ·have:=I.base.tups b xs h
  rw [zk (za1 this e (by intro z;cases z))];exact this
 ·have:=I.base.frzs b ob u h
  have bd:b≠d:=fun z=>n0 ob u (by rw [←z];exact h)
  rw [zk bd];exact this
 ·obtain ⟨more,this⟩:=I.base.tbls b ps h
  exact ⟨more,by rw [zk (za1 this e (by intro z;cases z))];exact this⟩
 ·rw [zk (nd _ I.free)];exact I.free
 ·rw [zk (nd _ (I.freeC x c h))];exact I.freeC x c h
 ·obtain ⟨a,b,c⟩:=I.pin p hp
  exact ⟨a,by rw [zk (nd _ b)];exact b,c⟩
 ·by_cases z:a=d
  ·subst z
   rw [zh] at h
   cases h
   obtain ⟨_,q⟩:=I.hok a _ e
   exact q
  ·rw [zk z] at h
   exact (I.hok a u h).stay (fun b v _ q=>q) (fun b q=>by rw [zk (za1 q e (by intro z;cases z))];exact q) fun b xs q=>by rw [zk (za1 q e (by intro z;cases z))];exact q
end
def Itd (d:Addr)(o:Obj)(kvs:List (Key ×V)):It:=⟨fun i H=>H d=some (.frz o (.dK kvs))∧i < (zdJ kvs).length,fun i H x H'=>H'=H∧∃n,(zdJ kvs)[i]? =some n∧x=.int n,fun i H=>H d=some (.frz o (.dK kvs))∧(zdJ kvs).length≤i⟩
section
variable {X:Cx}{tg:Expr}
def iDk (tl:TE):TI:=fun σ H R=>tl σ H fun x H1=>∃d kvs,x=.ref d∧H1 d=some (.dK kvs)∧L2.IntKeys kvs∧∀o,R (Itd d o kvs) (upd H1 d (.frz o (.dK kvs)))
def Ends.thaw (D:Ends)(H:Hp):Ends where
 nx:=fun σ H'=>∃d o kvs,H d=some (.dK kvs)∧H' d=some (.frz o (.dK kvs))∧D.nx σ (upd H' d (.dK kvs))
 rt:=fun v H'=>∃d o kvs,H d=some (.dK kvs)∧H' d=some (.frz o (.dK kvs))∧D.rt v (upd H' d (.dK kvs))
def zm7 (t:TS):TS:=fun D σ H=>t (D.thaw H) σ H
end
end L2
namespace L2
open PySem PySem.Spec PyProof.Rows PySem.W
section
variable {P:Program}{w:World}{A:Around}{E:Value→Shared→Prop}{s:Shared}{R:Result→Shared→Prop}{I l S:Addr}{items:Array Value}
end
section
variable {P:Program}{w:World}{A:Around}{E:Value→Shared→Prop}{s:Shared}{I l:Addr}{items:Array Value}
end
section
variable {X:Cx}{e:Expr}{te:TE}{p1 p2 q1 q2:Pos}
end
end L2
namespace L2
open PySem PySem.Spec PyProof.Rows PySem.W
def Itv (K:PySem.W.Frag)(p:Addr)(xs:List V):It:=
 ⟨fun n H=>SqL K H p xs∧n < xs.length,fun n H v H'=>H'=H∧xs.reverse[n]? =some v,fun n H=>SqL K H p xs∧xs.length≤n⟩
theorem ziI {P:Program}{w:World}{K:PySem.W.Frag}{tg:Expr}{xs:List V}(p it:Addr):Turn P w K tg (Itv K p xs) [it] it (fun i h=>i≤xs.length∧h.IsRevIter it p ((xs.length:Int) - 1 - (i:Nat))) where
 mem:=by simp
 obj:=fun i h st b hb=>by
  have e:b=it:=by simpa using hb
  subst e
  obtain ⟨_,o,e,c,d⟩:=st
  exact ⟨o,e,fun v z=>by rw [d] at z;cases z⟩
 keep:=fun i h h' st k=>⟨st.1,st.2.at fun o e=>k it (by simp) o e⟩
 item:=by
  intro X hP hw hK hc i pins s σ H E I hf st hg
  subst hP hw hK
  obtain ⟨hq,hi⟩:=hg
  obtain ⟨_,st⟩:=st
  obtain ⟨its,rv,p',hz⟩:=I.list hq
  have hn:xs.length - 1 - i < xs.length:=by omega
  have hx:xs[xs.length - 1 - i]? =some xs[xs.length - 1 - i]:=List.getElem?_eq_getElem hn
  obtain ⟨u,hu,ru⟩:=rv.get hx
  obtain ⟨f0,f1,f2,f3,f4,f5⟩:=hf it (by simp)
  have en:(xs.length:Int) - 1 - (i:Nat)=((xs.length - 1 - i:Nat):Int):=by omega
  rw [en] at st
  refine wpAny_pyNext_rev_item st p'.isList (x:=u) (by simpa using hu) fun h' st' sb=>?_
  have I1:Inv X pins σ H {s with heap:=h'}:=I.turned (t':=s.toks) (fun b o hb e=>(sb.2 b hb).trans e) f0 f1 f3 f4 f5
  obtain ⟨o,e,c,d⟩:=id st'
  have en2:((xs.length - 1 - i:Nat):Int) - 1=(xs.length:Int) - 1 - ((i+1:Nat):Int):=by omega
  rw [en2] at st'
  exact ⟨u,rfl,zeu (s:={s with heap:=h'}) e c d (by decide) ⟨_,H,I1,ru,⟨rfl,by rw [List.getElem?_reverse hi];exact hx⟩,⟨hi,st'⟩,fun b hb=>(hf b hb).1⟩⟩
 done:=by
  intro X hP hw hK hc i pins s σ H E I hf st hg
  subst hP hw hK
  obtain ⟨hq,hx⟩:=hg
  obtain ⟨hi,st⟩:=st
  obtain ⟨f0,f1,f2,f3,f4,f5⟩:=hf it (by simp)
  have en:(xs.length:Int) - 1 - (i:Nat)= -1:=by omega
  rw [en] at st
  exact wpAny_pyNext_rev_end (I.ok.hd hc) st fun h' eb=>⟨rfl,I.turned (t':=s.toks) (fun b o hb e=>eb b o hb e) f0 f1 f3 f4 f5⟩
 self:=fun _ _ _ _ _ st h=>wpAny_pyIter_revIter st.2 h
section
variable {X:Cx}
def iRev (K:PySem.W.Frag)(te:TE):TI:=fun σ H R=>te σ H fun x H1=>∃(p:Addr) (xs:List V),x=.ref p∧SqL K H1 p xs∧R (Itv K p xs) H1
theorem zgp {tg a:Expr}{te:TE}{p pos:Pos}(hg:Gl X "reversed") (hm:X.mg "reversed" =none) (he:PE X a te) (hs:starEach [a] X.env=[(false,eval a X.env)]:=by rfl):
  PI X tg (.Call (.Name "reversed" p) [a] [] pos) (iRev X.K te):=by
 intro pins s σ H R I h
 refine wpAny_Call_Name_kw (zbW I hg hm (show bootBuiltins "reversed" =some (.type "reversed") from by rfl) ?_ (by decide) (by decide))
 refine PyProof.Rows.callWith_type1 ?_ hs rfl
 rw [hs]
 show wpAny _ _ (spliced ((false,eval a X.env)::[])) _ _ s
 refine Calls.spliced_cons (thn (he pins s σ H _ I h) fun u t1 ⟨x,H1,I1,r1,p,ys,ex,hq,q⟩=>Calls.spliced_nil ?_)
 subst ex
 cases (show u=Value.ref p from r1)
 obtain ⟨its,rv,pl,hz⟩:=I1.list hq
 have hlen:=rv.length
 refine call_reversed_list pl.isList ?_
 have hri:(t1.heap.push (revObj p ((its.toArray.size:Int) - 1))).IsRevIter t1.heap.objs.size p ((ys.length:Int) - 1 - ((0:Nat):Int)):=⟨_,Heap.get?_push_size _ rfl,rfl,by rw [List.size_toArray,←hlen];simp [revObj]⟩
 refine wpAny_pyIter_revIter (s:={t1 with heap:=t1.heap.push (revObj p ((its.toArray.size:Int) - 1))}) hri ?_
 refine ⟨t1.heap.objs.size,[t1.heap.objs.size],_,_,H1,rfl,I1.kept (t':=t1.toks) fun b o e=>Heap.get?_push_of_some _ e,ziI p _,⟨Nat.zero_le _,hri⟩,fun b hb=>?_,q⟩
 have e:b=t1.heap.objs.size:=by simpa using hb
 subst e
 exact I1.fpOk (Nat.le_refl _) (I1.hok.fresh (Nat.le_refl _))
theorem ze7 {K:PySem.W.Frag}{p:Addr}{xs:List V}{g:TG}{tb:TS}{D:Ends}{σ:St}{H:Hp}(Pv:Nat→St→Hp→Prop)(h0:Pv 0 σ H)(hl:∀i σ H,Pv i σ H→SqL K H p xs)
  (hs:∀i x σ H,i < xs.length→xs.reverse[i]? =some x→Pv i σ H→g x σ H fun σ2 H2=>tb {D with nx:=Pv (i+1),ct:=Pv (i+1),bk:=D.nx} σ2 H2) (hd:∀σ H,Pv xs.length σ H→D.nx σ H):
  ∃W:Nat→Nat→St→Hp→Prop,(∃m,W 0 m σ H)∧∀i m σ H,W i m σ H→
   ((Itv K p xs).stop i H∧D.nx σ H)∨((Itv K p xs).go i H∧∃N:St→Hp→Prop,(∀σ' H',N σ' H'→∃m',m' < m∧W (i+1) m' σ' H')∧∀x H',(Itv K p xs).yld i H x H'→g x σ H' fun σ2 H2=>tb {D with nx:=N,ct:=N,bk:=D.nx} σ2 H2):=by
 refine ⟨fun i m σ H=>m=xs.length - i∧i≤xs.length∧Pv i σ H,⟨_,rfl,Nat.zero_le _,h0⟩,?_⟩
 rintro i m σ H ⟨rfl,hi,p⟩
 have q:=hl i σ H p
 by_cases hlt:i < xs.length
 ·refine .inr ⟨⟨q,hlt⟩,Pv (i+1),fun σ' H' p'=>⟨_,by omega,rfl,hlt,p'⟩,fun x H' y=>?_⟩
  obtain ⟨rfl,e1⟩:=y
  exact hs i x σ _ hlt e1 p
 ·have e:i=xs.length:=by omega
  subst e
  exact .inl ⟨⟨q,Nat.le_refl _⟩,hd σ H p⟩
end
end L2
namespace Pv
open PySem L2
abbrev zc5:Stmt:=top 10
theorem zgj:zu ["value"] ["value"] (zd zc5):=⟨rfl,rfl,rfl,by decide+kernel,rfl,by decide+kernel,by decide+kernel⟩
abbrev zea:Stmt:=top 24
theorem zhR:zu ["thing"] ["thing"] (zd zea):=⟨rfl,rfl,rfl,by decide+kernel,rfl,by decide+kernel,by decide+kernel⟩
abbrev zdV:Stmt:=top 23
theorem zhG:zu ["thing"] ["thing"] (zd zdV):=⟨rfl,rfl,rfl,by decide+kernel,rfl,by decide+kernel,by decide+kernel⟩
abbrev zbm:Stmt:=top 22
theorem zb4:zu ["vault","root","count","node"] ["vault","root","count"] (zd zbm):=⟨rfl,rfl,rfl,by decide+kernel,rfl,by decide+kernel,by decide+kernel⟩
abbrev zin:Stmt:=top 25
theorem zlI:zu ["key"] ["key"] (zd zin):=⟨rfl,rfl,rfl,by decide+kernel,rfl,by decide+kernel,by decide+kernel⟩
abbrev zfY:Stmt:=top 26
theorem zeT:zu ["key","other","mine","its"] ["key","other"] (zd zfY):=⟨rfl,rfl,rfl,by decide+kernel,rfl,by decide+kernel,by decide+kernel⟩
open Tr
theorem Mt.imp {P:Program}{w:World}{K:PySem.W.Frag}{mg:Str→Option Value}{base:Heap}{CX:CXT}{C:Addr}{m:Str}{k:Nat}{ps:List Str}{sp sp':Sp}(F:Mt P w K mg base CX C m k ps sp)(h:∀vs H Q E,sp' vs H Q E→sp vs H Q E):Mt P w K mg base CX C m k ps sp':=by
 obtain ⟨f,fd,a,b⟩:=F.ex
 exact ⟨f,fd,a.imp h,b⟩
structure VS (H:Hp)(C a d:Addr)(cs:List (Int ×Th)):Prop where
 vo:∃kv,VOk H C a d kv∧DRep H cs kv
 gc:GoodC cs
theorem VS.same {H H':Hp}{C a d:Addr}{cs:List (Int ×Th)}(v:VS H C a d cs)(s:Same H H'):VS H' C a d cs:=by
 obtain ⟨kv,vo,dr⟩:=v.vo
 exact ⟨⟨kv,vo.keep s,dr.keep (Same.tups s)⟩,v.gc⟩
def Fr1 (d:Addr)(H H':Hp):Prop:=∀b o,b≠d→H b=some o→H' b=some o
theorem Fr1.refl (d:Addr)(H:Hp):Fr1 d H H:=fun _ _ _ e=>e
theorem Fr1.trans {d:Addr}{H H' H'':Hp}(f:Fr1 d H H')(g:Fr1 d H' H''):Fr1 d H H'':=fun b o n e=>g b o n (f b o n e)
theorem Same.fr1 {d:Addr}{H H':Hp}(s:Same H H'):Fr1 d H H':=fun b o _ e=>s b o e
theorem VS.ne {H:Hp}{C a d:Addr}{cs:List (Int ×Th)}{b:Addr}{o:HO}(v:VS H C a d cs)(e:H b=some o)(h:∀kv,o≠ .dK kv):b≠d:=by
 obtain ⟨kv,vo,_⟩:=v.vo
 intro z
 rw [z,vo.di] at e
 cases e
 exact h kv rfl
theorem VS.tups {H H':Hp}{C a d:Addr}{cs:List (Int ×Th)}(v:VS H C a d cs)(f:Fr1 d H H'):Tups H H':=fun b xs e=>f b _ (v.ne e (by intro kv z;cases z)) e
theorem VS.lst {H H':Hp}{C a d:Addr}{cs:List (Int ×Th)}{b:Addr}{xs:List V}(v:VS H C a d cs)(f:Fr1 d H H')(e:H b=some (.lst xs)):H' b=some (.lst xs):=f b _ (v.ne e (by intro kv z;cases z)) e
def Cl (CC:Addr)(E:XK):Prop:=∀(t1 t2:Th) (v1 v2:V) (H:Hp) (x:Addr),Rep H t1 v1→Rep H t2 v2→Good t1→Good t2→t1≠t2→zZ t1=zZ t2→H x=some (xdO x [("one",v1),("other",v2)])→E (.ref CC) (some x) H
def zd5 (C CC:Addr):Sp:=fun vs H Q E=>∃(a d:Addr) (cs:List (Int ×Th)) (t:Th) (v:V),vs=[.ref a,v]∧VS H C a d cs∧cs.length≤1000000∧Rep H t v∧Good t∧Cl CC E∧
 ∀H',Fr1 d H H'→Fits cs (zZ t) t→VS H' C a d (addT cs (zZ t) t)→Q (.int (zZ t)) H'
def zfQ (C:Addr):Sp:=fun vs H Q _=>∃(a d:Addr) (cs:List (Int ×Th)) (n:Int) (t:Th),vs=[.ref a,.int n]∧VS H C a d cs∧z9 cs n=some t∧∀v,Rep H t v→Q v H
theorem zkj {P:Program}{w:World}{K:PySem.W.Frag}{mg:Str→Option Value}{base:Heap}{C CC:Addr}(M:Mt P w K mg base (CX1 P w) C "lay" 14 ["self","thing"] (zkC C CC)):Mt P w K mg base (CX1 P w) C "lay" 14 ["self","thing"] (zd5 C CC):=Mt.imp M fun vs H Q E h=>by
 obtain ⟨a,d,cs,t,v,rfl,vs,hl,rt,gt,cl,q⟩:=h
 obtain ⟨kv,vo,dr⟩:=vs.vo
 refine ⟨a,d,kv,t,v,rfl,vo,dr.laidOk vs.gc.gd,by rw [dr.len];exact hl,rt,gt,fun H' s alike=>?_,fun t1 v1 H' s e1 r1 g1 se ne H2 x s2 ex=>?_⟩
 ·have ft:Fits cs (zZ t) t:=by
   cases z:z9 cs (zZ t) with
   | none=>exact .inl z
   | some u=>
    obtain ⟨y,ey,ry⟩:=dr.some z
    rw [alike u y ey ry] at z
    exact .inr z
  have ed':=s _ _ vo.di
  have tk:Tups H (upd H' d (.dK (putK kv (.inl (zZ t)) v))):=(Same.tups s).trans (Tups.upd fun xs z=>by rw [ed'] at z;cases z)
  have fr:Fr1 d H (upd H' d (.dK (putK kv (.inl (zZ t)) v))):=fun b o n e=>by rw [zk n];exact s b o e
  obtain ⟨⟨dx,fs,eo,fl⟩,ed⟩:=id vo
  exact q _ fr ft ⟨⟨_,⟨⟨dx,fs,fr _ _ (za1 eo ed (by intro z;cases z)) eo,fl⟩,zh⟩,(dr.keep tk).add (rt.keep tk) ft vs.gc.nd⟩,vs.gc.add gt rfl⟩
 ·exact cl t1 t v1 v H2 x (r1.keep (Same.tups s2)) (rt.keep ((Same.tups s).trans (Same.tups s2))) g1 gt ne se ex
theorem zh6 {P:Program}{w:World}{K:PySem.W.Frag}{mg:Str→Option Value}{base:Heap}{C:Addr}(M:Mt P w K mg base CX0 C "thing" 1 ["self","number"] (zfG C)):Mt P w K mg base CX0 C "thing" 1 ["self","number"] (zfQ C):=Mt.imp M fun vs H Q E h=>by
 obtain ⟨a,d,cs,n,t,rfl,vs,lt,q⟩:=h
 obtain ⟨kv,vo,dr⟩:=vs.vo
 obtain ⟨v,ev,rv⟩:=dr.some lt
 exact ⟨a,d,kv,n,v,rfl,vo,ev,q v rv⟩
theorem zaD {cs:List (Int ×Th)}{n:Int}{t:Th}:Sub cs (addT cs n t):=fun _ _ e=>zhC e
structure NodeOk (k wo:Th)(l r c:Int):Prop where
 k0:k≠ .non
 w0:wo≠ .non
 l0:0≤l
 r0:0≤r
 c1:1≤c
 c2:c≤300
def ze8:Sp:=fun vs H Q _=>(∃i:Int,vs=[.int i]∧Q (.bl true) H)∨(vs=[.non]∧Q (.bl false) H)
def zit:Sp:=fun vs H Q _=>∃i:Int,vs=[.int i]∧0≤i∧Q (.bl true) H
def zfg:Sp:=fun vs H Q _=>∃(v:V) (k wo:Th) (l r c:Int),vs=[v]∧Rep H (za2 k wo l r c) v∧NodeOk k wo l r c∧Q (.bl true) H
structure TOk (cs:List (Int ×Th))(T:Tr):Prop where
 iv:T.InV cs
 ky:∀p∈T.ps,KeyT p.1∧KeyT p.2
 ct:T.cnt≤300
theorem TOk.mono {cs cs':List (Int ×Th)}{T:Tr}(t:TOk cs T)(s:Sub cs cs'):TOk cs' T:=⟨InV.mono s t.iv,t.ky,t.ct⟩
theorem TOk.nil {cs:List (Int ×Th)}:TOk cs Tr.nil:=⟨trivial,fun p h=>(nomatch h),Nat.zero_le _⟩
theorem TOk.l {cs:List (Int ×Th)}{l r:Tr}{k w:Th}(t:TOk cs (node l k w r)):TOk cs l:=⟨t.iv.2.1,fun p h=>t.ky p (List.mem_append_left _ h),by have:=t.ct;rw [zL] at this;omega⟩
theorem TOk.r {cs:List (Int ×Th)}{l r:Tr}{k w:Th}(t:TOk cs (node l k w r)):TOk cs r:=⟨t.iv.2.2,fun p h=>t.ky p (List.mem_append_right _ (List.mem_cons_of_mem _ h)),by have:=t.ct;rw [zL] at this;omega⟩
theorem TOk.kw {cs:List (Int ×Th)}{l r:Tr}{k w:Th}(t:TOk cs (node l k w r)):KeyT k∧KeyT w:=t.ky (k,w) (List.mem_append_right _ List.mem_cons_self)
theorem TOk.kid {cs:List (Int ×Th)}{T:Tr}{x:Th}(t:TOk cs T):TOk cs (T.kid x):=by
 cases T with
 | nil=>exact .nil
 | node l k w r=>
  show TOk cs (if ze k x=true then r else l)
  split
  ·exact t.r
  ·exact t.l
theorem TOk.down {cs:List (Int ×Th)}{x:Th}:∀{n:Nat} {T:Tr},TOk cs T→TOk cs (down x n T)
 | 0,_,t=>t
 | n+1,_,t=>TOk.down (n:=n) t.kid
theorem KeyT.good {t:Th}(k:KeyT t):Good t:=⟨k.wf,Nat.le_trans k.dp (by decide),Nat.le_trans k.nd (by decide)⟩
theorem zhZ {k wo:Th}{l r c:Int}(hk:KeyT k)(hw:KeyT wo)(l0:0≤l)(l1:l≤10 ^ 30)(r0:0≤r)(r1:r≤10 ^ 30)(c0:1≤c)(c1:c≤300):NodeOk k wo l r c∧Good (za2 k wo l r c):=by
 refine ⟨⟨hk.ne,hw.ne,l0,r0,c0,c1⟩,⟨⟨by show (5:Nat)≤40;decide,hk.wf,hw.wf,⟨by omega,l1⟩,⟨by omega,r1⟩,⟨by omega,by omega⟩,trivial⟩,?_,?_⟩⟩
 ·have h1:=hk.dp
  have h2:=hw.dp
  show max (dep k) (max (dep wo) (max 0 (max 0 (max 0 0))))+1≤8
  omega
 ·have h1:=hk.nd
  have h2:=hw.nd
  show 1+(nodes k+(nodes wo+(1+(1+(1+0)))))≤80
  omega
theorem zbg {l r:Tr}{k w:Th}(hk:KeyT k)(hw:KeyT w)(h:(node l k w r).cnt≤300):NodeOk k w l.root r.root (((l.ps++(k,w)::r.ps).length:Nat):Int)∧Good (node l k w r).thing:=by
 have h1:=zdM l
 have h2:=zdM r
 have h3:(l.ps++(k,w)::r.ps).length=(node l k w r).cnt:=rfl
 have h4:=zL l k w r
 exact zhZ hk hw h1.1 (by omega) h2.1 (by omega) (by omega) (by omega)
def zi9 (C:Addr):Sp:=fun vs H Q _=>∃(a d:Addr) (cs:List (Int ×Th)) (l r:Tr) (k w:Th) (m:Int),vs=[.ref a,.int (node l k w r).root,.int m]∧VS H C a d cs∧TOk cs (node l k w r)∧((node l k w r).cnt:Int) < m∧∀v,Rep H (node l k w r).thing v→Q v H
def zmE (C:Addr):Sp:=fun vs H Q _=>∃(a d:Addr) (cs:List (Int ×Th)) (T:Tr),vs=[.ref a,.int T.root]∧VS H C a d cs∧TOk cs T∧Q (.int (T.cnt:Int)) H
def zmg (C:Addr):Sp:=fun vs H Q _=>∃(a d:Addr) (cs:List (Int ×Th)) (T:Tr) (m:Int),vs=[.ref a,.int T.root,.int m]∧VS H C a d cs∧TOk cs T∧(T.cnt:Int) < m∧Q (.int (T.cnt:Int)) H
def zis:Sp:=fun vs H Q _=>∃(t:Th) (v:V),vs=[v]∧Rep H t v∧Good t∧∀H',Same H H'→Q (.int (zS t)) H'
def zeY:Sp:=fun vs H Q _=>∃(t u:Th) (v w:V),vs=[v,w]∧Rep H t v∧Rep H u w∧Good t∧Good u∧∀H',Same H H'→Q (.bl (zM t u)) H'
theorem zez {t:Th}(g:Good t):Wf (.tup [.str ("rank" :Str),t])∧dep (.tup [.str ("rank" :Str),t]) < 10∧nodes (.tup [.str ("rank" :Str),t])≤100:=by
 have h1:=g.dp
 have h2:=g.nd
 refine ⟨⟨by show (2:Nat)≤40;decide,⟨by decide+kernel,by decide+kernel⟩,g.wf,trivial⟩,?_,?_⟩
 ·show max 0 (max (dep t) 0)+1 < 10
  omega
 ·show 1+(1+(nodes t+0))≤100
  omega
theorem zR {H:Hp}{k wo:Th}{l r c:Int}{v:V}(rep:Rep H (za2 k wo l r c) v):∃a vk vw,v=.ref a∧H a=some (.tup [vk,vw,.int l,.int r,.int c])∧Rep H k vk∧Rep H wo vw:=by
 obtain ⟨a,xs,e,ea,r1⟩:=rep.list
 cases r1 with
 | cons h1 r2=>
 cases r2 with
 | cons h2 r3=>
 cases r3 with
 | cons h3 r4=>
 cases r4 with
 | cons h4 r5=>
 cases r5 with
 | cons h5 r6=>
 cases r6 with
 | nil=>
 cases h3
 cases h4
 cases h5
 exact ⟨a,_,_,e,ea,h1,h2⟩
theorem zjz {H:Hp}{t:Th}{v:V}(r:Rep H t v)(h:t≠ .non):decide (v=V.non)=false:=by
 cases r with
 | non=>exact absurd rfl h
 | int i=>rfl
 | str x=>rfl
 | tup e l h=>rfl
section
variable {P:Program}{w:World}{K:PySem.W.Frag}{mg:Str→Option Value}{base:Heap}{C CC:Addr}{x:Str}{t1 t2 t3 t4 t5 t6 t7:Tok}
theorem zjE (D:Dfn K mg "is_whole" zc5 ["value"]) (m_isinstance:mg "isinstance" =none) (m_int:mg "int" =none) (m_bool:mg "bool" =none):Fn P w K mg base "is_whole" 1 ["value"] ze8:=by
 refine D.ok (k:=0) zgj (fun vs H Q E h=>?_) (fun f cdv A outer s H vs Q E hr h=>?_)
 ·rcases h with ⟨i,rfl,_⟩ | ⟨rfl,_⟩ <;> rfl
 refine ⟨_,(zg (zq (zbZ (zF (zX) (by rfl) m_isinstance (by rfl) (za (pv 0) (za (zat (v:=.ty "int") (by rfl) m_int (by rfl) rfl) zc))) (zcr (zlV (zF (zX) (by rfl) m_isinstance (by rfl) (za (pv 0) (za (zat (v:=.ty "bool") (by rfl) m_bool (by rfl) rfl) zc)))))))),?_⟩
 rcases h with ⟨i,rfl,q⟩ | ⟨rfl,q⟩
 ·refine ⟨_,rfl,_,_,_,_,rfl,.int i,rfl,_,rfl,ifT rfl ?_⟩
  refine ⟨_,rfl,_,_,_,_,rfl,.int i,rfl,_,rfl,q⟩
 ·exact ⟨_,rfl,_,_,_,_,rfl,.non,rfl,_,rfl,ifF rfl q⟩
theorem zjU (D:Dfn K mg "is_root" zea ["thing"]) (F_is_whole:Fn P w K mg base "is_whole" 1 ["value"] ze8):Fn P w K mg base "is_root" 2 ["thing"] zit:=by
 refine D.ok (k:=1) zhR (fun vs H Q E h=>?_) (fun f cdv A outer s H vs Q E hr h=>?_)
 ·obtain ⟨i,rfl,_⟩:=h;rfl
 obtain ⟨i,rfl,h0,q⟩:=h
 refine ⟨_,(zg (zq (zbZ (zA F_is_whole hr (by omega) (by rfl) (za (pv 0) zc)) (zcr (zad zkB (pv 0) zf (zD _)))))),?_⟩
 refine ⟨_,rfl,.inl ⟨i,rfl,_,rfl,ifT rfl ?_⟩⟩
 refine ⟨_,rfl,_,_,rfl,rfl,?_⟩
 show Q (.bl (decide (i≥0))) H
 rw [decide_eq_true h0]
 exact q
theorem zhK (D:Dfn K mg "is_node" zdV ["thing"]) (F_is_root:Fn P w K mg base "is_root" 2 ["thing"] zit) (F_is_whole:Fn P w K mg base "is_whole" 1 ["value"] ze8) (m_isinstance:mg "isinstance" =none) (m_tuple:mg "tuple" =none) (m_len:mg "len" =none)
  (g_KEY:mg "KEY" =some (.int 0 t1)) (g_WORTH:mg "WORTH" =some (.int 1 t2)) (g_LEFT:mg "LEFT" =some (.int 2 t3)) (g_RIGHT:mg "RIGHT" =some (.int 3 t4)) (g_COUNT:mg "COUNT" =some (.int 4 t5)) (g_MOST_NODES:mg "MOST_NODES" =some (.int 300 t6)):
  Fn P w K mg base "is_node" 3 ["thing"] zfg:=by
 refine D.ok (k:=2) zhG (fun vs H Q E h=>?_) (fun f cdv A outer s H vs Q E hr h=>?_)
 ·obtain ⟨v,k,wo,l,r,c,rfl,_⟩:=h;rfl
 obtain ⟨v,k,wo,l,r,c,rfl,rep,ok,q⟩:=h
 obtain ⟨a,vk,vw,rfl,ea,rk,rw'⟩:=zR rep
 have et:SqT K H a [vk,vw,.int l,.int r,.int c]:=SqT.of ea
 refine ⟨_,(zb (zP (PW.pt (zcN (zbF (z6 (zF (zX) (by rfl) m_isinstance (by rfl) (za (pv 0) (za (zat (v:=.ty "tuple") (by rfl) m_tuple (by rfl) rfl) zc))))) (zb1 (zH zbU (zF (zJ) (by rfl) m_len (by rfl) (za (pv 0) zc)) zf (zD _)))))
 (zg (zq za6))
 zC)
 (zb (zP (PW.pt (zcN (zH zbl (zr zx (pv 0) (zw (v:=.int 0) (by rfl) g_KEY ⟨_,rfl⟩) (fun _ _=>rfl)) zaw (zD _)) (zb1 (zH zbl (zr zx (pv 0) (zw (v:=.int 1) (by rfl) g_WORTH ⟨_,rfl⟩) (fun _ _=>rfl)) zaw (zD _)))))
 (zg (zq za6))
 zC)
 (zb (zP (PW.pt (zcN (zbF (z6 (zA F_is_root hr (by omega) (by rfl) (za (zr zx (pv 0) (zw (v:=.int 2) (by rfl) g_LEFT ⟨_,rfl⟩) (fun _ _=>rfl)) zc)))) (zb1 (zbF (z6 (zA F_is_root hr (by omega) (by rfl) (za (zr zx (pv 0) (zw (v:=.int 3) (by rfl) g_RIGHT ⟨_,rfl⟩) (fun _ _=>rfl)) zc)))))))
 (zg (zq za6))
 zC)
 (zg (zq (zbZ (zA F_is_whole hr (by omega) (by rfl) (za (zr zx (pv 0) (zw (v:=.int 4) (by rfl) g_COUNT ⟨_,rfl⟩) (fun _ _=>rfl)) zc)) (zcr (zjm zkT zkT zf (zr zx (pv 0) (zw (v:=.int 4) (by rfl) g_COUNT ⟨_,rfl⟩) (fun _ _=>rfl)) (zw (v:=.int 300) (by rfl) g_MOST_NODES ⟨_,rfl⟩))))))))),?_⟩
 refine ⟨_,rfl,_,_,_,_,rfl,.tup ea,rfl,_,rfl,?_⟩
 refine ifF rfl ?_
 refine ⟨_,rfl,a,_,rfl,.inr et,rfl,_,rfl,ifF (by rfl) ?_⟩
 refine ⟨_,rfl,a,_,_,_,rfl,rfl,et,rfl,rfl,_,rfl,ifF (zjz rk ok.k0) ?_⟩
 refine ⟨_,rfl,a,_,_,_,rfl,rfl,et,rfl,rfl,_,rfl,ifF (zjz rw' ok.w0) ?_⟩
 refine ⟨_,rfl,a,_,_,_,rfl,rfl,et,rfl,l,rfl,ok.l0,_,rfl,ifF rfl ?_⟩
 refine ⟨_,rfl,a,_,_,_,rfl,rfl,et,rfl,r,rfl,ok.r0,_,rfl,ifF rfl ?_⟩
 refine ⟨_,rfl,a,_,_,_,rfl,rfl,et,rfl,.inl ⟨c,rfl,_,rfl,ifT rfl ?_⟩⟩
 refine ⟨_,rfl,a,_,_,_,rfl,rfl,et,rfl,_,_,rfl,rfl,_,rfl,ifT (decide_eq_true ok.c1) ?_⟩
 refine ⟨_,_,rfl,rfl,?_⟩
 show Q (.bl (decide (c≤300))) H
 rw [decide_eq_true ok.c2]
 exact q
theorem zlQ (D:Dfn K mg "node_beneath" zbm ["vault","root","count"]) (M_thing:Mt P w K mg base CX0 C "thing" 1 ["self","number"] (zfQ C)) (c_K:Cls K C) (F_is_node:Fn P w K mg base "is_node" 3 ["thing"] zfg) (g_COUNT:mg "COUNT" =some (.int 4 t5)):
  Fn P w K mg base "node_beneath" 4 ["vault","root","count"] (zi9 C):=by
 refine D.ok (k:=3) zb4 (fun vs H Q E h=>?_) (fun f cdv A outer s H vs Q E hr h=>?_)
 ·obtain ⟨a,d,cs,l,r,k,w,m,rfl,_⟩:=h;rfl
 obtain ⟨a,d,cs,l,r,k,wo,m,rfl,vs,tk,hm,q⟩:=h
 obtain ⟨kv,vo,_⟩:=vs.vo
 obtain ⟨⟨dx,fs,eo,fl⟩,ed⟩:=id vo
 have ok:=(zbg tk.kw.1 tk.kw.2 tk.ct).1
 refine ⟨_,(zb (zm (i:=3) zb4.nd rfl (Or.inl rfl) (zdf (pv 0) c_K M_thing hr (by omega) zi5 (za (pv 1) zc)))
 (zb (zP (PW.pt (zcN (zbF (z6 (zA F_is_node hr (by omega) (by rfl) (za (pv 3) zc)))) (zb1 (zH zkB (zr zx (pv 3) (zw (v:=.int 4) (by rfl) g_COUNT ⟨_,rfl⟩) (fun _ _=>rfl)) (pv 2) (zD _)))))
 (zg zfO)
 zC)
 (zg (zq (pv 3))))),?_⟩
 refine ⟨_,rfl,a,dx,_,rfl,eo,fl.n3,_,rfl,a,d,cs,_,_,rfl,vs,tk.iv.1,fun v rep=>?_⟩
 obtain ⟨p,vk,vw,rfl,ea,rk,rw'⟩:=zR rep
 have et:SqT K H p [vk,vw,.int l.root,.int r.root,.int _]:=SqT.of ea
 refine ⟨_,rfl,_,k,wo,_,_,_,rfl,rep,ok,_,rfl,ifF rfl ?_⟩
 refine ⟨_,rfl,p,_,_,_,rfl,rfl,et,rfl,_,rfl,_,_,rfl,rfl,_,rfl,ifF (decide_eq_false (Int.not_le.mpr hm)) ?_⟩
 exact ⟨_,rfl,q _ rep⟩
theorem zkk (D:Dfn K mg "rank" zin ["key"]) (F_seal:Fn P w K mg base "seal" 13 ["thing"] zcY):Fn P w K mg base "rank" 14 ["key"] zis:=by
 refine D.ok (k:=13) zlI (fun vs H Q E h=>?_) (fun f cdv A outer s H vs Q E hr h=>?_)
 ·obtain ⟨t,v,rfl,_⟩:=h;rfl
 obtain ⟨t,v,rfl,rt,gt,q⟩:=h
 obtain ⟨g1,g2,g3⟩:=zez gt
 refine ⟨_,(zg (zq (zA F_seal hr (by omega) (by rfl) (za (zV (za zcz (za (pv 0) zc))) zc)))),?_⟩
 refine ⟨_,rfl,szl (show 2≤1000 by decide),fun p hp=>?_⟩
 exact ⟨_,_,rfl,(RepL.cons (.str _) (.cons rt .nil)).new hp,g1,g2,g3,fun H' s'=>q H' ((zj (Same.refl H) hp).trans s')⟩
theorem zim (D:Dfn K mg "above" zfY ["key","other"]) (F_rank:Fn P w K mg base "rank" 14 ["key"] zis) (F_ahead:Fn P w K mg base "ahead" 20 ["one","other"] (zdz 9)):Fn P w K mg base "above" 21 ["key","other"] zeY:=by
 refine D.ok (k:=20) zeT (fun vs H Q E h=>?_) (fun f cdv A outer s H vs Q E hr h=>?_)
 ·obtain ⟨t,u,v,w,rfl,_⟩:=h;rfl
 obtain ⟨t,u,v,w,rfl,rt,ru,gt,gu,q⟩:=h
 refine ⟨_,(zb (zm (i:=2) zeT.nd rfl (Or.inl rfl) (zA F_rank hr (by omega) (by rfl) (za (pv 0) zc)))
 (zb (zm (i:=3) zeT.nd rfl (Or.inl rfl) (zA F_rank hr (by omega) (by rfl) (za (pv 1) zc)))
 (zb (zP (zH zbU (pv 2) (pv 3) (zD _))
 (zg (zq (zad zi1 (pv 2) (pv 3) (zD _))))
 zC)
 (zg (zq (zA F_ahead hr (by omega) (by rfl) (za (pv 0) (za (pv 1) zc)))))))),?_⟩
 refine ⟨_,rfl,t,v,rfl,rt,gt,fun H1 s1=>?_⟩
 refine ⟨_,rfl,u,w,rfl,ru.keep (Same.tups s1),gu,fun H2 s2=>?_⟩
 have s12:=s1.trans s2
 have gd:=gt.dp
 refine ⟨_,rfl,_,rfl,rfl,_,rfl,?_⟩
 rw [za9]
 refine ifB (fun c=>?_) (fun c=>?_)
 ·have ne:zS t≠zS u:=fun z=>by rw [decide_eq_true z] at c;cases c
  refine ⟨_,rfl,_,rfl,_,_,rfl,rfl,?_⟩
  have:=q H2 s12
  unfold zM at this
  rw [if_neg ne] at this
  exact this
 ·have eq:zS t=zS u:=by
   by_cases z:zS t=zS u
   ·exact z
   ·rw [decide_eq_false z] at c;cases c
  refine ⟨_,rfl,_,rfl,t,u,v,w,rfl,rt.keep (Same.tups s12),ru.keep (Same.tups s12),by omega,by omega,fun H3 s3=>?_⟩
  have:=q H3 (s12.trans s3)
  unfold zM at this
  rw [if_pos eq] at this
  exact this
end
end Pv
namespace Pv
open PySem L2
open Tr
abbrev zdR:Stmt:=top 28
theorem zhQ:zu ["node","key"] ["node","key"] (zd zdR):=⟨rfl,rfl,rfl,by decide+kernel,rfl,by decide+kernel,by decide+kernel⟩
abbrev zbO:Stmt:=top 32
theorem zdq:zu ["node","side","root","count"] ["node","side","root","count"] (zd zbO):=⟨rfl,rfl,rfl,by decide+kernel,rfl,by decide+kernel,by decide+kernel⟩
abbrev ze3:Stmt:=top 29
theorem zbw:zu ["vault","root","key","way","count","node"] ["vault","root","key"] (zd ze3):=⟨rfl,rfl,rfl,by decide+kernel,rfl,by decide+kernel,by decide+kernel⟩
abbrev zd1:Stmt:=top 30
theorem zh7:zu ["way","key"] ["way","key"] (zd zd1):=⟨rfl,rfl,rfl,by decide+kernel,rfl,by decide+kernel,by decide+kernel⟩
def zaR (x:Th)(n:Nat)(T:Tr):List Th:=(List.range n).map fun i=>(down x i T).thing
theorem zar (x:Th)(n:Nat)(T:Tr):(zaR x n T).length=n:=by unfold zaR;rw [List.length_map,List.length_range]
theorem zal {x:Th}{n:Nat}{T:Tr}{i:Nat}(h:i < n):(zaR x n T)[i]? =some (down x i T).thing:=by
 unfold zaR
 rw [List.getElem?_map,List.getElem?_range h];rfl
theorem zgq (x:Th)(n:Nat)(T:Tr):zaR x (n+1) T=zaR x n T++ [(down x n T).thing]:=by
 unfold zaR
 rw [List.range_succ,List.map_append];rfl
theorem zcq {x:Th}{n m:Nat}{T:Tr}(h:m≤n):(zaR x n T).take m=zaR x m T:=by
 unfold zaR
 rw [←List.map_take,List.take_range,Nat.min_eq_left h]
theorem zge {x:Th}{n m:Nat}{T:Tr}(h:m≤n):(zaR x n T).drop m=zaR x (n - m) (down x m T):=by
 apply List.ext_getElem?
 intro i
 rw [List.getElem?_drop]
 by_cases hi:i < n - m
 ·rw [zal hi,zal (by omega),za0]
 ·rw [List.getElem?_eq_none (by rw [zar];omega),List.getElem?_eq_none (by rw [zar];omega)]
theorem ziP {x:Th}:∀{n:Nat} {T l r:Tr} {k w:Th} {m:Nat},Up x n T→m < n→down x m T=node l k w r→k≠x
 | 0,_,_,_,_,_,m,_,h,_=>absurd h (Nat.not_lt_zero m)
 | n+1,nil,_,_,_,_,_,h,_,_=>h.elim
 | n+1,node l' k' w' r',_,_,_,_,0,h,_,e=>by cases e;exact h.1
 | n+1,node l' k' w' r',_,_,_,_,m+1,h,hm,e=>ziP (T:=if ze k' x=true then r' else l') h.2 (Nat.lt_of_succ_lt_succ hm) e
theorem zhl {x:Th}:∀{n:Nat} {T l r:Tr} {k w:Th},Up x n T→down x n T=node l k w r→k≠x→Up x (n+1) T
 | 0,node l' k' w' r',_,_,_,_,_,e,h=>by cases e;exact ⟨h,trivial⟩
 | 0,nil,_,_,_,_,_,e,_=>by cases e
 | n+1,nil,_,_,_,_,h,_,_=>h.elim
 | n+1,node l' k' w' r',_,_,_,_,h,e,h2=>⟨h.1,zhl (T:=if ze k' x=true then r' else l') h.2 e h2⟩
theorem not_nil {T:Tr}(h:T≠nil):∃l k w r,T=node l k w r:=by
 cases T with
 | nil=>exact absurd rfl h
 | node l k w r=>exact ⟨l,k,w,r,rfl⟩
def zcE (k x:Th):Int:=if ze k x=true then 3 else 2
def Tr.isN:Tr→Bool
 | nil=>false
 | node _ _ _ _=>true
def zeQ:Sp:=fun vs H Q _=>∃(v vx:V) (k w x:Th) (l r c:Int),vs=[v,vx]∧Rep H (za2 k w l r c) v∧Rep H x vx∧KeyT k∧∀H',Same H H'→Q (.int (zcE k x)) H'
def zgo:Sp:=fun vs H Q _=>∃(v:V) (k w x:Th) (l r c n m:Int),vs=[v,.int (zcE k x),.int n,.int m]∧Rep H (za2 k w l r c) v∧∀p H',Same H H'→Rep H' (if ze k x=true then za2 k w l n m else za2 k w n r m) (.ref p)→Q (.ref p) H'
def zgP (C:Addr):Sp:=fun vs H Q _=>∃(a d:Addr) (cs:List (Int ×Th)) (T:Tr) (x:Th) (vx:V),vs=[.ref a,.int T.root,vx]∧VS H C a d cs∧TOk cs T∧Rep H x vx∧KeyT x∧
 ∀pw ws H',Same H H'→H pw=none→H' pw=some (.lst ws)→RepL H' (zaR x (wl x T) T) ws→Q (.ref pw) H'
def ze1 (K:PySem.W.Frag):Sp:=fun vs H Q _=>∃(pw:Addr) (ws:List V) (T:Tr) (x:Th) (vx:V),vs=[.ref pw,vx]∧SqL K H pw ws∧RepL H (zaR x (wl x T) T) ws∧(∀p∈T.ps,KeyT p.1)∧Rep H x vx∧Q (.bl (own x T).isN) H
theorem zbv {x:Th}:∀{n:Nat} {T:Tr} {p:Th ×Th},p∈(down x n T).ps→p∈T.ps
 | 0,_,_,h=>h
 | n+1,nil,_,h=>zbv (n:=n) (T:=nil) h
 | n+1,node l k w r,_,h=>by
  have h':=zbv (n:=n) (T:=if ze k x=true then r else l) h
  by_cases c:ze k x=true
  ·rw [if_pos c] at h';exact List.mem_append_right _ (List.mem_cons_of_mem _ h')
  ·rw [if_neg c] at h';exact List.mem_append_left _ h'
section
variable {P:Program}{w:World}{K:PySem.W.Frag}{mg:Str→Option Value}{base:Heap}{C CC:Addr}{x:Str}{t1 t2 t3 t4 t5 t6 t7:Tok}
theorem zkq (D:Dfn K mg "side_of" zdR ["node","key"]) (F_ahead:Fn P w K mg base "ahead" 20 ["one","other"] (zdz 9)) (g_KEY:mg "KEY" =some (.int 0 t1)) (g_LEFT:mg "LEFT" =some (.int 2 t3)) (g_RIGHT:mg "RIGHT" =some (.int 3 t4)):Fn P w K mg base "side_of" 21 ["node","key"] zeQ:=by
 refine D.ok (k:=20) zhQ (fun vs H Q E h=>?_) (fun f cdv A outer s H vs Q E hr h=>?_)
 ·obtain ⟨v,vx,k,w,x,l,r,c,rfl,_⟩:=h;rfl
 obtain ⟨v,vx,k,w,x,l,r,c,rfl,rn,rx,kk,q⟩:=h
 obtain ⟨p,vk,vw,rfl,ea,rk,rw'⟩:=zR rn
 have et:SqT K H p [vk,vw,.int l,.int r,.int c]:=SqT.of ea
 have kd:=kk.dp
 refine ⟨_,(zg (zq (zcP (z6 (zA F_ahead hr (by omega) (by rfl) (za (zr zx (pv 0) (zw (v:=.int 0) (by rfl) g_KEY ⟨_,rfl⟩) (fun _ _=>rfl)) (za (pv 1) zc)))) (zw (v:=.int 3) (by rfl) g_RIGHT ⟨_,rfl⟩) (zw (v:=.int 2) (by rfl) g_LEFT ⟨_,rfl⟩)))),?_⟩
 refine ⟨_,rfl,p,_,_,_,rfl,rfl,et,rfl,_,rfl,k,x,_,_,rfl,rk,rx,by omega,by omega,fun H1 s1=>⟨_,rfl,?_⟩⟩
 have q1:=q H1 s1
 unfold zcE at q1
 cases z:ze k x with
 | true=>rw [if_pos z] at q1;exact ifT rfl q1
 | false=>rw [if_neg (by rw [z];exact Bool.false_ne_true)] at q1;exact ifF rfl q1
theorem zkl (D:Dfn K mg "with_tree" zbO ["node","side","root","count"]) (g_KEY:mg "KEY" =some (.int 0 t1)) (g_WORTH:mg "WORTH" =some (.int 1 t2)) (g_LEFT:mg "LEFT" =some (.int 2 t3)) (g_RIGHT:mg "RIGHT" =some (.int 3 t4)):Fn P w K mg base "with_tree" 1 ["node","side","root","count"] zgo:=by
 refine D.ok (k:=0) zdq (fun vs H Q E h=>?_) (fun f cdv A outer s H vs Q E hr h=>?_)
 ·obtain ⟨v,k,w,x,l,r,c,n,m,rfl,_⟩:=h;rfl
 obtain ⟨v,k,w,x,l,r,c,n,m,rfl,rn,q⟩:=h
 obtain ⟨p,vk,vw,rfl,ea,rk,rw'⟩:=zR rn
 have et:SqT K H p [vk,vw,.int l,.int r,.int c]:=SqT.of ea
 refine ⟨_,(zb (zP (zH zdo (pv 1) (zw (v:=.int 2) (by rfl) g_LEFT ⟨_,rfl⟩) (zD _))
 (zg (zq (zV (za (zr zx (pv 0) (zw (v:=.int 0) (by rfl) g_KEY ⟨_,rfl⟩) (fun _ _=>rfl)) (za (zr zx (pv 0) (zw (v:=.int 1) (by rfl) g_WORTH ⟨_,rfl⟩) (fun _ _=>rfl)) (za (pv 2) (za (zr zx (pv 0) (zw (v:=.int 3) (by rfl) g_RIGHT ⟨_,rfl⟩) (fun _ _=>rfl)) (za (pv 3) zc))))))))
 zC)
 (zg (zq (zV (za (zr zx (pv 0) (zw (v:=.int 0) (by rfl) g_KEY ⟨_,rfl⟩) (fun _ _=>rfl)) (za (zr zx (pv 0) (zw (v:=.int 1) (by rfl) g_WORTH ⟨_,rfl⟩) (fun _ _=>rfl)) (za (zr zx (pv 0) (zw (v:=.int 2) (by rfl) g_LEFT ⟨_,rfl⟩) (fun _ _=>rfl)) (za (pv 2) (za (pv 3) zc))))))))),?_⟩
 refine ⟨_,rfl,rfl,_,rfl,?_⟩
 rw [za9]
 cases z:ze k x with
 | true=>
  have e3:zcE k x=3:=if_pos z
  refine ifF (decide_eq_false (by rw [e3];decide)) ?_
  refine ⟨_,rfl,p,_,_,_,rfl,rfl,et,rfl,_,rfl,p,_,_,_,rfl,rfl,et,rfl,_,rfl,p,_,_,_,rfl,rfl,et,rfl,_,rfl,_,rfl,szl (show 5≤1000 by decide),fun p' hp'=>?_⟩
  refine q p' _ (zj (Same.refl H) hp') ?_
  rw [if_pos z]
  exact (RepL.cons rk (.cons rw' (.cons (.int _) (.cons (.int _) (.cons (.int _) .nil))))).new hp'
 | false=>
  have e3:zcE k x=2:=if_neg (by rw [z];exact Bool.false_ne_true)
  refine ifT (decide_eq_true (by rw [e3])) ?_
  refine ⟨_,rfl,p,_,_,_,rfl,rfl,et,rfl,_,rfl,p,_,_,_,rfl,rfl,et,rfl,_,rfl,_,rfl,p,_,_,_,rfl,rfl,et,rfl,_,rfl,szl (show 5≤1000 by decide),fun p' hp'=>?_⟩
  refine q p' _ (zj (Same.refl H) hp') ?_
  rw [if_neg (by rw [z];exact Bool.false_ne_true)]
  exact (RepL.cons rk (.cons rw' (.cons (.int _) (.cons (.int _) (.cons (.int _) .nil))))).new hp'
theorem zlR (D:Dfn K mg "way_to" ze3 ["vault","root","key"]) (F_node_beneath:Fn P w K mg base "node_beneath" 4 ["vault","root","count"] (zi9 C)) (F_side_of:Fn P w K mg base "side_of" 21 ["node","key"] zeQ) (g_KEY:mg "KEY" =some (.int 0 t1)) (g_COUNT:mg "COUNT" =some (.int 4 t5)) (g_BENEATH_NONE:mg "BENEATH_NONE" =some (.int 301 t7)):
  Fn P w K mg base "way_to" 22 ["vault","root","key"] (zgP C):=by
 refine D.ok (k:=21) zbw (fun vs H Q E h=>?_) (fun f cdv A outer s H vs Q E hr h=>?_)
 ·obtain ⟨a,d,cs,T,x,vx,rfl,_⟩:=h;rfl
 obtain ⟨a,d,cs,T,x,vx,rfl,vs,tk,rx,kx,q⟩:=h
 refine ⟨_,(zb (zm (i:=3) zbw.nd rfl (Or.inl rfl) (zaa zc))
 (zb (zm (i:=4) zbw.nd rfl (Or.inl rfl) (zw (v:=.int 301) (by rfl) g_BENEATH_NONE ⟨_,rfl⟩))
 (zb (zfI PassesOwn.never (zH zbU (pv 1) zf (zD _))
 (zb (zm (i:=5) zbw.nd rfl (Or.inl rfl) (zA F_node_beneath hr (by omega) (by rfl) (za (pv 0) (za (pv 1) (za (pv 4) zc)))))
 (zb (zbi (zdQ PySem.F.plainAttrs_list PySem.F.slot_list_append PySem.F.type_list_append zaM (pv 3) (za (pv 5) zc)))
 (zb (zP (zH (zcQ hr) (zr zx (pv 5) (zw (v:=.int 0) (by rfl) g_KEY ⟨_,rfl⟩) (fun _ _=>rfl)) (pv 2) (zD _))
 (zg (zq (pv 3)))
 zC)
 (zb (zm (i:=1) zbw.nd rfl (Or.inl rfl) (zr zx (pv 5) (zA F_side_of hr (by omega) (by rfl) (za (pv 5) (za (pv 2) zc))) (fun _ _=>rfl)))
 (zg (zm (i:=4) zbw.nd rfl (Or.inl rfl) (zr zx (pv 5) (zw (v:=.int 4) (by rfl) g_COUNT ⟨_,rfl⟩) (fun _ _=>rfl)))))))))
 (zg (zq (pv 3)))))),?_⟩
 refine ⟨szl (show 0≤1000 by decide),fun pw hpw=>?_⟩
 have s0:=zj (o:=.lst []) (Same.refl H) hpw
 have e0:upd H pw (.lst []) pw=some (.lst []):=zh
 generalize upd H pw (.lst [])=H0 at s0 e0
 have hct:=tk.ct
 refine ⟨fun m σ H'=>∃(i:Nat) (ws:List V) (c:Int) (k5:Option V),m+i=wl x T∧Up x i T∧σ=[some (.ref a),some (.int (down x i T).root),some vx,some (.ref pw),some (.int c),k5]∧((down x i T).cnt:Int) < c∧Same H H'∧H' pw=some (.lst ws)∧RepL H' (zaR x i T) ws,⟨wl x T,0,[],301,_,rfl,trivial,rfl,by show (T.cnt:Int) < 301;omega,s0,e0,.nil⟩,?_⟩
 rintro m σ H1 ⟨i,ws,c,k5,hm,up,rfl,hc,s1,e1,r1⟩
 refine ⟨_,rfl,rfl,_,rfl,?_⟩
 rw [za9]
 have hd:=zgW up
 cases z:down x i T with
 | nil=>
  refine ifF (by rw [decide_eq_true (show (Tr.nil).root=0 from rfl)];rfl) ?_
  rw [z] at hd
  have hw:wl x T=i:=hd
  refine ⟨_,rfl,q pw ws H1 s1 hpw e1 ?_⟩
  rw [hw];exact r1
 | node l k wo r=>
  have td:=tk.down (x:=x) (n:=i)
  rw [z] at td hc hd
  have rne:(node l k wo r).root≠0:=fun y=>by cases zbr.mp y
  refine ifT (by rw [decide_eq_false rne];rfl) ?_
  refine ⟨_,fun σ' H' h=>h,?_⟩
  refine ⟨_,rfl,_,rfl,_,rfl,a,d,cs,l,r,k,wo,c,rfl,vs.same s1,td,hc,fun v rn=>?_⟩
  obtain ⟨p,vk,vw,rfl,ea,rk,rw'⟩:=zR rn
  have hwl:=zfC (x:=x) T
  have hwz:1≤wl x (node l k wo r):=by
   unfold wl
   split <;> omega
  have hlw:ws.length=i:=by rw [r1.len,zar]
  refine ⟨_,rfl,.inl ⟨rfl,_,SqL.of e1⟩,_,rfl,pw,ws,_,rfl,rfl,e1,Nat.lt_of_lt_of_le (show ws.length < 1000 by omega) (szl (Nat.le_refl _)),?_⟩
  have tk1:Tups H1 (upd H1 pw (.lst (ws++ [.ref p]))):=Tups.upd fun xs z=>by rw [e1] at z;cases z
  have e2:upd H1 pw (.lst (ws++ [.ref p])) pw=some (.lst (ws++ [.ref p])):=zh
  have s2:Same H (upd H1 pw (.lst (ws++ [.ref p]))):=zaZ s1 hpw
  have r2:RepL (upd H1 pw (.lst (ws++ [.ref p]))) (zaR x (i+1) T) (ws++ [.ref p]):=by
   rw [zgq,z]
   exact (r1.keep tk1).snoc (rn.keep tk1)
  have rn2:=rn.keep tk1
  have ea2:=tk1 _ _ ea
  have rk2:=rk.keep tk1
  generalize upd H1 pw (.lst (ws++ [.ref p]))=H2 at tk1 e2 s2 r2 rn2 ea2 rk2
  have et:SqT K H2 p _:=SqT.of ea2
  have kd:=td.kw.1.dp
  refine ⟨_,rfl,p,_,_,_,rfl,rfl,et,rfl,_,rfl,k,x,rk2,rx.keep (Same.tups s2),by omega,_,rfl,?_⟩
  cases zz:eqT k x with
  | true=>
   have ek:k=x:=(zab k x).mp zz
   have hw1:wl x (node l k wo r)=1:=by unfold wl;rw [if_pos ek]
   refine ifT rfl ⟨_,rfl,q pw _ H2 s2 hpw e2 ?_⟩
   rw [show wl x T=i+1 by omega];exact r2
  | false=>
   have ek:k≠x:=fun y=>by rw [y,zY] at zz;cases zz
   refine ifF rfl ?_
   refine ⟨_,rfl,_,rfl,_,rfl,_,_,k,wo,x,_,_,_,rfl,rn2,rx.keep (Same.tups s2),td.kw.1,fun H3 s3=>?_⟩
   have up':=zhl up z ek
   have ed:down x (i+1) T=(node l k wo r).kid x:=by rw [zcA,z]
   have s03:Same H H3:=fun b o e=>s3 b o (s2 b o e)
   have et3:SqT K H3 p _:=SqT.of (s3 _ _ ea2)
   have kc:(((node l k wo r).kid x).cnt:Int) < (((l.ps++(k,wo)::r.ps).length:Nat):Int):=by
    have h1:=zL l k wo r
    have h2:(l.ps++(k,wo)::r.ps).length=(node l k wo r).cnt:=rfl
    show (((if ze k x=true then r else l).cnt:Nat):Int) < _
    split <;> omega
   have fin:∀e:(down x (i+1) T).root=((node l k wo r).kid x).root,True:=fun _=>trivial
   have ix:atI [vk,vw,.int l.root,.int r.root,.int (((l.ps++(k,wo)::r.ps).length:Nat):Int)] (zcE k x)=some (.int (down x (i+1) T).root):=by
    rw [ed]
    unfold zcE
    show _=some (V.int (if ze k x=true then r else l).root)
    by_cases y:ze k x=true
    ·rw [if_pos y,if_pos y];rfl
    ·rw [if_neg y,if_neg y];rfl
   refine ⟨p,_,_,_,rfl,rfl,et3,ix,?_⟩
   refine ⟨_,rfl,p,_,_,_,rfl,rfl,et3,rfl,?_⟩
   exact ⟨m - 1,by omega,i+1,_,_,_,by omega,up',rfl,by rw [ed];exact kc,s03,s3 _ _ e2,r2.keep (Same.tups s3)⟩
theorem zkc (D:Dfn K mg "ends_at" zd1 ["way","key"]) (g_KEY:mg "KEY" =some (.int 0 t1)) (m_len:mg "len" =none):Fn P w K mg base "ends_at" 1 ["way","key"] (ze1 K):=by
 refine D.ok (k:=0) zh7 (fun vs H Q E h=>?_) (fun f cdv A outer s H vs Q E hr h=>?_)
 ·obtain ⟨pw,ws,T,x,vx,rfl,_⟩:=h;rfl
 obtain ⟨pw,ws,T,x,vx,rfl,hs,rw,kt,rx,q⟩:=h
 have hl:ws.length=wl x T:=by rw [rw.len,zar]
 refine ⟨_,(zg (zq (zbZ (zad zi1 (zF (zJ) (by rfl) m_len (by rfl) (za (pv 0) zc)) zf (zD _)) (zcr (zad (zcQ hr) (zr zx (zr zI (pv 0) (zcO zbM zf) (fun _ _=>rfl)) (zw (v:=.int 0) (by rfl) g_KEY ⟨_,rfl⟩) (fun _ _=>rfl)) (pv 1) (zD _)))))),?_⟩
 refine ⟨_,rfl,pw,_,rfl,.inl hs,_,_,rfl,rfl,_,rfl,?_⟩
 cases z:own x T with
 | nil=>
  rw [z] at q
  obtain ⟨up,dn⟩:=za7 z
  cases y:wl x T with
  | zero=>
   rw [hl,y]
   exact ifF rfl q
  | succ n=>
   rw [hl,y]
   refine ifT (decide_eq_true (show (0:Int) < ((n+1:Nat):Int) by omega)) ?_
   rw [y] at rw up hl
   obtain ⟨l,k,wo,r,ed⟩:=not_nil (up_down up n (Nat.lt_succ_self n))
   have ek:=ziP up (Nat.lt_succ_self n) ed
   have hv:ws[n]? =some (ws[n]'(by omega)):=List.getElem?_eq_getElem (by omega)
   have rl:=rw.at n _ _ hv (zal (Nat.lt_succ_self n))
   rw [ed] at rl
   obtain ⟨p,vk,vw,ev,ea,rk,_⟩:=zR rl
   have kd:dep k≤3:=(kt (k,wo) (zbv (x:=x) (n:=n) (by rw [ed];exact List.mem_append_right _ List.mem_cons_self))).dp
   have ix:atI ws (-1)=some (.ref p):=by
    unfold atI ixN
    rw [if_neg (by decide),if_pos (by omega),hl]
    show ws[((-1:Int)+((n+1:Nat):Int)).toNat]? =_
    rw [show ((-1:Int)+((n+1:Nat):Int)).toNat=n by omega,hv,ev]
   refine ⟨_,rfl,_,rfl,pw,_,_,_,rfl,rfl,hs,ix,p,_,_,_,rfl,rfl,SqT.of ea,rfl,_,rfl,k,x,rk,rx,by omega,?_⟩
   rw [show eqT k x=false from by cases y:eqT k x with | true=>exact absurd ((zab k x).mp y) ek | false=>rfl]
   exact q
 | node l k wo r=>
  rw [z] at q
  obtain ⟨rfl,n,y,up,ed⟩:=zaB z
  rw [hl,y]
  refine ifT (decide_eq_true (show (0:Int) < ((n+1:Nat):Int) by omega)) ?_
  rw [y] at rw hl
  have hv:ws[n]? =some (ws[n]'(by omega)):=List.getElem?_eq_getElem (by omega)
  have rl:=rw.at n _ _ hv (zal (Nat.lt_succ_self n))
  rw [ed] at rl
  obtain ⟨p,vk,vw,ev,ea,rk,_⟩:=zR rl
  have kd:dep k≤3:=(kt (k,wo) (zbv (x:=k) (n:=n) (by rw [ed];exact List.mem_append_right _ List.mem_cons_self))).dp
  have ix:atI ws (-1)=some (.ref p):=by
   unfold atI ixN
   rw [if_neg (by decide),if_pos (by omega),hl]
   show ws[((-1:Int)+((n+1:Nat):Int)).toNat]? =_
   rw [show ((-1:Int)+((n+1:Nat):Int)).toNat=n by omega,hv,ev]
  refine ⟨_,rfl,_,rfl,pw,_,_,_,rfl,rfl,hs,ix,p,_,_,_,rfl,rfl,SqT.of ea,rfl,_,rfl,k,k,rk,rx,by omega,?_⟩
  rw [zY]
  exact q
end
end Pv
namespace L2
open PySem PySem.Spec PyProof.Rows
def Ite (K:PySem.W.Frag)(p:Addr)(xs:List V):It:=
 ⟨fun n H=>SqL K H p xs∧n < xs.length,fun n H v H'=>∃(T:Addr) (x:V),H T=none∧xs[n]? =some x∧v=.ref T∧H'=upd H T (.tup [.int n,x]),fun n H=>SqL K H p xs∧xs.length≤n⟩
theorem zh2 {P:Program}{w:World}{K:PySem.W.Frag}{elts:List Expr}{x1:Nat}{tpos:Pos}{e i p:Addr}{xs:List V}(D:e≠i):
  Turn P w K (.Tuple elts x1 tpos) (Ite K p xs) [e,i] e (fun n h=>(∃old,IsEnum h e i (n:Int) old)∧h.IsListIter i p n) where
 mem:=by simp
 obj:=fun n h st b hb=>by
  obtain ⟨⟨old,he⟩,⟨r1,e1,_,d1⟩⟩:=st
  simp only [List.mem_cons,List.not_mem_nil,or_false] at hb
  rcases hb with rfl | rfl
  ·exact ⟨_,he,fun v z=>by cases z⟩
  ·exact ⟨_,e1,fun v z=>by rw [d1] at z;cases z⟩
 keep:=fun n h h' st kp=>by
  obtain ⟨⟨old,he⟩,⟨r1,e1,x1⟩⟩:=st
  exact ⟨⟨old,kp e (by simp) _ he⟩,⟨r1,kp i (by simp) _ e1,x1⟩⟩
 item:=by
  intro X hP hw hK hc n pins s σ H E I hf st hg
  subst hP hw hK
  obtain ⟨hp,hn⟩:=hg
  obtain ⟨⟨old,he⟩,hi⟩:=st
  obtain ⟨its,r1,T1,z1⟩:=I.list hp
  have hx:xs[n]? =some xs[n]:=List.getElem?_eq_getElem hn
  obtain ⟨v1,e1,q1⟩:=r1.get hx
  have fe:=hf e (by simp)
  have fi:=hf i (by simp)
  refine wpAny_pyNext_enum_item he hi T1.isList (x:=v1) (by simpa using e1) D fun g eo ig new sz up=>?_
  have hT:H s.heap.objs.size=none:=I.hok.fresh (Nat.le_refl _)
  have inch:∀{b:Addr},H b≠none→b≠e∧b≠i:=fun {b} h=>⟨fun z=>h (by rw [z];exact fe.1),fun z=>h (by rw [z];exact fi.1)⟩
  have hok:HOk X.prog X.w (upd H s.heap.objs.size (.tup [.int n,xs[n]])) g:=fun b u e=>by
   by_cases hb:b=s.heap.objs.size
   ·subst hb
    rw [zh] at e
    cases e
    refine ⟨by simp only [List.length_cons,List.length_nil];rw [sizeLine_eq];decide,[.int n s.toks,v1],.cons ⟨_,rfl⟩ (.cons q1 .nil),⟨_,new,rfl,_,rfl⟩⟩
   ·rw [zk hb] at e
    refine (I.hok b u e).stay (fun c r hc q=>?_) (fun c q=>by rw [zk (zl q hT)];exact q) fun c ys q=>by rw [zk (zl q hT)];exact q
    have hne:H c≠none:=by
     rcases hc with rfl | hc
     ·rw [e];intro z;cases z
     ·rw [hc];intro z;cases z
    obtain ⟨c1,c2⟩:=inch hne
    exact up c r c1 c2 q
  have I1:Inv X pins σ (upd H s.heap.objs.size (.tup [.int n,xs[n]])) {s with heap:=g,toks:=s.toks+1}:=by
   refine I.step (g':=s.gens) (d':=s.drawn) (t':=s.toks+1) (ch:=[e,i]) (fun b hb=>?_) (fun b r _ _ hc e _=>?_) (fun b r _ _ hc e _=>⟨r.slots,?_⟩) (fun b r hc e hn=>?_) (fun b r hc e=>⟨r,?_⟩) (fun b ys e=>by rw [zk (zl e hT)];exact e)
    (fun b r ys e=>by rw [zk (zl e hT)];exact e) (fun b ps e=>⟨#[],by rw [zk (zl e hT),e];simp⟩) (fun m hm=>?_) hok I.bare
   ·simp only [List.mem_cons,List.not_mem_nil,or_false] at hb
    rcases hb with rfl | rfl
    ·exact ⟨fe.2.2.2.1,fe.2.1,fe.2.2.2.2.1,fe.2.2.2.2.2⟩
    ·exact ⟨fi.2.2.2.1,fi.2.1,fi.2.2.2.2.1,fi.2.2.2.2.2⟩
   ·simp only [List.mem_cons,List.not_mem_nil,or_false,not_or] at hc
    exact up b r hc.1 hc.2 e
   ·simp only [List.mem_cons,List.not_mem_nil,or_false,not_or] at hc
    exact up b r hc.1 hc.2 e
   ·rw [zk (Nat.ne_of_lt (Heap.lt_size e))];exact hn
   ·simp only [List.mem_cons,List.not_mem_nil,or_false,not_or] at hc
    exact up b r hc.1 hc.2 e
   ·obtain ⟨r,es,ep,er,d⟩:=hm
    exact ⟨r,es,ep,up _ r (Ne.symm fe.2.1) (Ne.symm fi.2.1) er,d⟩
  have le:e < s.heap.objs.size:=Heap.lt_size he
  have hfp:∀b∈ [e,i],upd H s.heap.objs.size (.tup [.int n,xs[n]]) b=none:=fun b hb=>by
   have fb:=hf b hb
   have lt:b < s.heap.objs.size:=by
    obtain ⟨r1,e1,_⟩:=hi
    simp only [List.mem_cons,List.not_mem_nil,or_false] at hb
    rcases hb with rfl | rfl
    ·exact le
    ·exact Heap.lt_size e1
   rw [zk (Nat.ne_of_lt lt)];exact fb.1
  refine ⟨_,rfl,wpAny_letOwnedTupleGo_enum eo fun g2 e2 s2=>?_⟩
  refine ⟨.ref s.heap.objs.size,_,I1.turned (it:=e) (t':=s.toks+1) (fun b r hb q=>s2.extBut _ _ hb q) (hfp e (by simp)) fe.2.1 fe.2.2.2.1 fe.2.2.2.2.1 fe.2.2.2.2.2,rfl,⟨_,_,hT,hx,rfl,rfl⟩,⟨⟨_,e2⟩,ig.extBut s2.extBut (Ne.symm D)⟩,hfp⟩
 done:=by
  intro X hP hw hK hc n pins s σ H E I hf st hg
  subst hP hw hK
  obtain ⟨hp,hn⟩:=hg
  obtain ⟨⟨old,he⟩,hi⟩:=st
  obtain ⟨its,r1,T1,z1⟩:=I.list hp
  have fi:=hf i (by simp)
  have l1:=r1.length
  refine wpAny_pyNext_enum_end (I.ok.hd hc) he hi T1.isList (by simp;omega) fun g up=>⟨rfl,?_⟩
  exact I.turned (it:=i) (t':=s.toks) up fi.1 fi.2.1 fi.2.2.2.1 fi.2.2.2.2.1 fi.2.2.2.2.2
 self:=fun _ _ _ _ _ st h=>by
  obtain ⟨⟨old,he⟩,hi⟩:=st
  exact wpAny_pyIter_enum he h
section
variable {X:Cx}
def zmw (K:PySem.W.Frag)(ta:TA):TI:=fun σ H R=>ta σ H fun vs H1=>∃(p:Addr) (xs:List V),vs=[.ref p]∧SqL K H1 p xs∧R (Ite K p xs) H1
theorem zj1 {elts:List Expr}{x1:Nat}{tpos:Pos}{a:Expr}{ta:TA}{p pos:Pos}(hg:Gl X "enumerate") (hm:X.mg "enumerate" =none) (ha:PA X [a] ta) (hs:starEach [a] X.env=[(false,eval a X.env)]:=by rfl):
  PI X (.Tuple elts x1 tpos) (.Call (.Name "enumerate" p) [a] [] pos) (zmw X.K ta):=by
 intro pins s σ H R I h
 refine Call_ (zbW I hg hm (u:=.type "enumerate") (by rfl) (PyProof.Rows.callWith_type1 (thn (ha pos pins s σ H _ I h) fun us s1 ⟨vs,H1,I1,r1,q1⟩=>?_) (by rw [hs];rfl) rfl))
 obtain ⟨p1,xs,rfl,hp,q⟩:=q1
 obtain ⟨u,rfl,ru⟩:=Vals.one r1
 cases (show u=Value.ref _ from ru)
 obtain ⟨its,r1,T1,z1⟩:=I1.list hp
 refine call_enumerate_list T1.isList fun g eg ig sz up=>wpAny_pyIter_enum eg ?_
 refine ⟨_,_,_,_,H1,rfl,I1.kept (t':=s1.toks) up,zh2 (show s1.heap.objs.size+1≠s1.heap.objs.size by omega),⟨⟨_,eg⟩,ig⟩,fun b hb=>?_,q⟩
 have hb':s1.heap.objs.size≤b:=by
  simp only [List.mem_cons,List.not_mem_nil,or_false] at hb
  rcases hb with rfl | rfl
  ·exact Nat.le_add_right _ _
  ·exact Nat.le_refl _
 exact I1.fpOk hb' (I1.hok.fresh hb')
theorem zjh {K:PySem.W.Frag}{p:Addr}{xs:List V}{g:TG}{tb:TS}{D:Ends}{σ:St}{H:Hp}(Pv:Nat→St→Hp→Prop)(h0:Pv 0 σ H)(hl:∀i σ H,Pv i σ H→SqL K H p xs)
  (hs:∀i x T σ H,xs[i]? =some x→H T=none→Pv i σ H→g (.ref T) σ (upd H T (.tup [.int i,x])) fun σ2 H2=>tb {D with nx:=Pv (i+1),ct:=Pv (i+1),bk:=D.nx} σ2 H2) (hd:∀σ H,Pv xs.length σ H→D.nx σ H):
  ∃W:Nat→Nat→St→Hp→Prop,(∃m,W 0 m σ H)∧∀i m σ H,W i m σ H→
   ((Ite K p xs).stop i H∧D.nx σ H)∨((Ite K p xs).go i H∧∃N:St→Hp→Prop,(∀σ' H',N σ' H'→∃m',m' < m∧W (i+1) m' σ' H')∧∀x H',(Ite K p xs).yld i H x H'→g x σ H' fun σ2 H2=>tb {D with nx:=N,ct:=N,bk:=D.nx} σ2 H2):=by
 refine ⟨fun i m σ H=>m=xs.length - i∧i≤xs.length∧Pv i σ H,⟨_,rfl,Nat.zero_le _,h0⟩,?_⟩
 rintro i m σ H ⟨rfl,hi,p⟩
 have q:=hl i σ H p
 by_cases hlt:i < xs.length
 ·refine .inr ⟨⟨q,hlt⟩,Pv (i+1),fun σ' H' p'=>⟨_,by omega,rfl,hlt,p'⟩,fun x H' y=>?_⟩
  obtain ⟨T,a,hT,e1,rfl,rfl⟩:=y
  exact hs i a T σ H e1 hT p
 ·have e:i=xs.length:=by omega
  subst e
  exact .inl ⟨⟨q,Nat.le_refl _⟩,hd σ H p⟩
end
end L2
namespace Pv
open PySem L2
open Tr
abbrev zjg:Stmt:=top 33
theorem zga:zu ["vault","way","key","root","more","node"] ["vault","way","key","root","more"] (zd zjg):=⟨rfl,rfl,rfl,by decide+kernel,rfl,by decide+kernel,by decide+kernel⟩
abbrev ze5:Stmt:=top 34
theorem zaz:zu ["vault","way","key","root","count","left","left_count","right","right_count","node"] ["vault","way","key","root","count"] (zd ze5):=⟨rfl,rfl,rfl,by decide+kernel,rfl,by decide+kernel,by decide+kernel⟩
theorem zdd {cs:List (Int ×Th)}{l r:Tr}{k w:Th}(hl:l.InV cs)(hr:r.InV cs)(f:Fits cs (zZ (node l k w r).thing) (node l k w r).thing):(node l k w r).InV (addT cs (zZ (node l k w r).thing) (node l k w r).thing):=
 ⟨zfp f,InV.mono zaD hl,InV.mono zaD hr⟩
theorem zdv {x:Th}:∀{n:Nat} {T:Tr},(∀m,m < n→down x m T≠nil)→(spl x n T).1.cnt+(spl x n T).2.cnt=T.cnt
 | 0,T,_=>rfl
 | n+1,nil,h=>absurd rfl (h 0 (Nat.zero_lt_succ _))
 | n+1,node l k w r,h=>by
  have h':∀m,m < n→down x m (if ze k x=true then r else l)≠nil:=fun m hm=>h (m+1) (Nat.succ_lt_succ hm)
  show (if ze k x=true then (node l k w (spl x n r).1,(spl x n r).2) else ((spl x n l).1,node (spl x n l).2 k w r)).1.cnt+(if ze k x=true then (node l k w (spl x n r).1,(spl x n r).2) else ((spl x n l).1,node (spl x n l).2 k w r)).2.cnt=_
  by_cases c:ze k x=true
  ·rw [if_pos c] at h' ⊢
   have:=zdv h'
   show (node l k w (spl x n r).1).cnt+(spl x n r).2.cnt=_
   rw [zL,zL];omega
  ·rw [if_neg c] at h' ⊢
   have:=zdv h'
   show (spl x n l).1.cnt+(node (spl x n l).2 k w r).cnt=_
   rw [zL,zL];omega
theorem zbd {x:Th}:∀{n:Nat} {T:Tr},(down x n T).cnt≤T.cnt
 | 0,_=>Nat.le_refl _
 | n+1,nil=>zbd (n:=n) (T:=nil)
 | n+1,node l k w r=>by
  have h:=zbd (x:=x) (n:=n) (T:=if ze k x=true then r else l)
  show (down x n (if ze k x=true then r else l)).cnt≤_
  rw [zL]
  by_cases c:ze k x=true
  ·rw [if_pos c] at h ⊢;omega
  ·rw [if_neg c] at h ⊢;omega
def zgg (K:PySem.W.Frag)(C CC:Addr):Sp:=fun vs H Q E=>∃(a d pw:Addr) (cs:List (Int ×Th)) (T S:Tr) (x:Th) (vx:V) (n:Nat) (ws:List V) (more:Int),vs=[.ref a,.ref pw,vx,.int S.root,.int more]∧VS H C a d cs∧H pw=some (.lst ws)∧RepL H (zaR x n T) ws∧(∀m,m < n→down x m T≠nil)∧Rep H x vx∧
 TOk cs T∧S.InV cs∧T.cnt+S.cnt≤300+(down x n T).cnt∧more=(S.cnt:Int) - ((down x n T).cnt:Int)∧cs.length+n≤1000000∧Cl CC E∧
 ∀cs' H',Fr1 d H H'→VS H' C a d cs'→Sub cs cs'→(plug x n T S).InV cs'→cs'.length≤cs.length+n→Q (.int (plug x n T S).root) H'
def zfr (K:PySem.W.Frag)(C CC:Addr):Sp:=fun vs H Q E=>∃(a d pw:Addr) (cs:List (Int ×Th)) (T:Tr) (x:Th) (vx:V) (n:Nat) (ws:List V),vs=[.ref a,.ref pw,vx,.int (down x n T).root,.int ((down x n T).cnt:Int)]∧VS H C a d cs∧H pw=some (.lst ws)∧RepL H (zaR x n T) ws∧(∀m,m < n→down x m T≠nil)∧Rep H x vx∧
 TOk cs T∧cs.length+n≤1000000∧Cl CC E∧
 ∀cs' p H',Fr1 d H H'→VS H' C a d cs'→Sub cs cs'→(spl x n T).1.InV cs'→(spl x n T).2.InV cs'→cs'.length≤cs.length+n→H' p=some (.tup [.int (spl x n T).1.root,.int (spl x n T).2.root])→Q (.ref p) H'
section
variable {P:Program}{w:World}{K:PySem.W.Frag}{mg:Str→Option Value}{base:Heap}{C CC:Addr}{x:Str}{t1 t2 t3 t4 t5 t6 t7:Tok}
theorem zkh (D:Dfn K mg "hung" zjg ["vault","way","key","root","more"]) (M_lay:Mt P w K mg base (CX1 P w) C "lay" 14 ["self","thing"] (zd5 C CC)) (c_C:Cls K C) (F_with_tree:Fn P w K mg base "with_tree" 1 ["node","side","root","count"] zgo) (F_side_of:Fn P w K mg base "side_of" 21 ["node","key"] zeQ) (g_COUNT:mg "COUNT" =some (.int 4 t5)) (m_reversed:mg "reversed" =none):
  FnX P w K mg base "hung" 22 ["vault","way","key","root","more"] (zgg K C CC):=by
 refine D.okX (k:=21) zga (fun vs H Q E h=>?_) (fun f cdv A outer s H vs Q E hr h=>?_)
 ·obtain ⟨a,d,pw,cs,T,S,x,vx,n,ws,more,rfl,_⟩:=h;rfl
 obtain ⟨a,d,pw,cs,T,S,x,vx,n,ws,more,rfl,vs,ew,rw,nn,rx,tk,iS,h300,hmore,hl,cl,q⟩:=h
 have hlw:ws.length=n:=by rw [rw.len,zar]
 refine ⟨_,(zb (zak PassesOwn.leaving rfl (zgp (by rfl) m_reversed (pv 1)) (zN (i:=5) zga.nd rfl (Or.inl rfl))
 (zg (zm (i:=3) zga.nd rfl (Or.inl rfl) (zdf (pv 0) c_C M_lay hr (by omega) z4 (za (zA F_with_tree hr (by omega) (by rfl) (za (pv 5) (za (zA F_side_of hr (by omega) (by rfl) (za (pv 5) (za (pv 2) zc))) (za (pv 3) (za (zy zac (zr zx (pv 5) (zw (v:=.int 4) (by rfl) g_COUNT ⟨_,rfl⟩) (fun _ _=>rfl)) (pv 4)) zc))))) zc)))))
 (zg (zq (pv 3)))),?_⟩
 refine ⟨_,rfl,pw,ws,rfl,SqL.of ew,?_⟩
 refine ze7 (fun j σ H'=>∃(cs':List (Int ×Th)) (k5:Option V),σ=[some (.ref a),some (.ref pw),some vx,some (.int (plug x j (down x (n - j) T) S).root),some (.int more),k5]∧Fr1 d H H'∧VS H' C a d cs'∧Sub cs cs'∧(plug x j (down x (n - j) T) S).InV cs'∧cs'.length≤cs.length+j) ⟨cs,_,rfl,Fr1.refl d H,vs,Sub.refl cs,iS,Nat.le_refl _⟩ ?_ ?_ ?_
 ·rintro j σ H' ⟨cs',k5,rfl,fr,_⟩
  exact SqL.of (vs.lst fr ew)
 ·rintro j y σ H' hj hy ⟨cs',k5,rfl,fr,vs',sb,ip,le⟩
  have hjn:j < n:=by omega
  rw [List.getElem?_reverse hj,hlw] at hy
  have rl:=(rw.at (n - 1 - j) y _ hy (zal (by omega))).keep (vs.tups fr)
  obtain ⟨l,k,wo,r,ed⟩:=not_nil (nn (n - 1 - j) (by omega))
  have td:=tk.down (x:=x) (n:=n - 1 - j)
  rw [ed] at rl td
  have ekid:down x (n - j) T=(node l k wo r).kid x:=by rw [←ed,←zcA];congr 1;omega
  have hcj:(plug x (j+1) (down x (n - (j+1)) T) S).cnt+(down x n T).cnt=(node l k wo r).cnt+S.cnt:=by
   have:=zd2 (x:=x) (n:=j+1) (T:=down x (n - (j+1)) T) (S:=S) (fun m hm=>by rw [←za0];exact nn _ (by omega))
   rw [←za0,show n - (j+1)+(j+1)=n by omega] at this
   rw [this,show n - (j+1)=n - 1 - j by omega,ed]
  have hnew:plug x (j+1) (down x (n - (j+1)) T) S=if ze k x=true then node l k wo (plug x j (down x (n - j) T) S) else node (plug x j (down x (n - j) T) S) k wo r:=by
   rw [show n - (j+1)=n - 1 - j by omega,ed,ekid]
   show (if ze k x=true then node l k wo (plug x j r S) else node (plug x j l S) k wo r)=if ze k x=true then node l k wo (plug x j (if ze k x=true then r else l) S) else node (plug x j (if ze k x=true then r else l) S) k wo r
   by_cases c:ze k x=true
   ·rw [if_pos c,if_pos c,if_pos c]
   ·rw [if_neg c,if_neg c,if_neg c]
  obtain ⟨p,vk,vw,rfl,ea,rk,rw'⟩:=zR rl
  generalize plug x j (down x (n - j) T) S=Pj at ip hnew
  generalize plug x (j+1) (down x (n - (j+1)) T) S=N at hcj hnew
  have hN:∃l' r',N=node l' k wo r'∧l'.InV cs'∧r'.InV cs'∧∀m:Int,m=(N.cnt:Int)→(if ze k x=true then za2 k wo l.root Pj.root m else za2 k wo Pj.root r.root m)=N.thing:=by
   by_cases c:ze k x=true
   ·rw [if_pos c] at hnew
    refine ⟨l,Pj,hnew,InV.mono sb td.l.iv,ip,fun m e=>?_⟩
    rw [if_pos c,e,hnew];rfl
   ·rw [if_neg c] at hnew
    refine ⟨Pj,r,hnew,ip,InV.mono sb td.r.iv,fun m e=>?_⟩
    rw [if_neg c,e,hnew];rfl
  obtain ⟨l',r',eN,il,ir,hth⟩:=hN
  have tdc:=tk.down (x:=x) (n:=n - 1 - j)
  have hT:(node l k wo r).cnt≤T.cnt:=by rw [←ed];exact zbd
  have hN3:N.cnt≤300:=by omega
  obtain ⟨kv',vo',_⟩:=vs'.vo
  obtain ⟨⟨dx,fs,eo,fl⟩,_⟩:=id vo'
  have rx':=rx.keep (vs.tups fr)
  refine ⟨_,rfl,a,dx,fs,rfl,eo,fl.n2,_,rfl,_,rfl,_,rfl,_,_,k,wo,x,_,_,_,rfl,rl,rx',td.kw.1,fun H1 s1=>?_⟩
  refine ⟨_,rfl,_,rfl,p,_,_,_,rfl,rfl,SqT.of (s1 _ _ ea),rfl,_,rfl,_,_,rfl,rfl,_,k,wo,x,_,_,_,_,_,rfl,rl.keep (Same.tups s1),fun p2 H2 s2 r2=>?_⟩
  rw [hth _ (by show (((l.ps++(k,wo)::r.ps).length:Nat):Int)+more=(N.cnt:Int);have h2:(l.ps++(k,wo)::r.ps).length=(node l k wo r).cnt:=rfl;omega)] at r2
  have s12:Same H' H2:=fun b o e=>s2 b o (s1 b o e)
  have gN:Good N.thing:=by rw [eN];rw [eN] at hN3;exact (zbg td.kw.1 td.kw.2 hN3).2
  refine ⟨a,d,cs',_,_,rfl,vs'.same s12,by omega,r2,gN,cl,fun H3 f3 ft vs3=>?_⟩
  have e3:zZ N.thing=N.root:=by rw [eN];rfl
  rw [e3] at ft vs3 ⊢
  refine ⟨_,_,rfl,fr.trans ((Same.fr1 s12).trans f3),vs3,sb.trans zaD,?_,Nat.le_trans (zbx _ _ _) (by omega)⟩
  rw [eN] at ft ⊢
  exact zdd il ir ft
 ·rintro σ H' ⟨cs',k5,rfl,fr,vs',sb,ip,le⟩
  rw [hlw,Nat.sub_self] at ip ⊢
  exact ⟨_,rfl,q cs' H' fr vs' sb ip (by omega)⟩
theorem zhV (D:Dfn K mg "parted" ze5 ["vault","way","key","root","count"]) (M_lay:Mt P w K mg base (CX1 P w) C "lay" 14 ["self","thing"] (zd5 C CC)) (c_C:Cls K C) (F_with_tree:Fn P w K mg base "with_tree" 1 ["node","side","root","count"] zgo) (F_side_of:Fn P w K mg base "side_of" 21 ["node","key"] zeQ) (g_COUNT:mg "COUNT" =some (.int 4 t5)) (g_LEFT:mg "LEFT" =some (.int 2 t3)) (g_RIGHT:mg "RIGHT" =some (.int 3 t4)) (m_reversed:mg "reversed" =none):
  FnX P w K mg base "parted" 22 ["vault","way","key","root","count"] (zfr K C CC):=by
 refine D.okX (k:=21) zaz (fun vs H Q E h=>?_) (fun f cdv A outer s H vs Q E hr h=>?_)
 ·obtain ⟨a,d,pw,cs,T,x,vx,n,ws,rfl,_⟩:=h;rfl
 obtain ⟨a,d,pw,cs,T,x,vx,n,ws,rfl,vs,ew,rw,nn,rx,tk,hl,cl,q⟩:=h
 have hlw:ws.length=n:=by rw [rw.len,zar]
 refine ⟨_,(zb (zm (i:=5) zaz.nd rfl (Or.inl rfl) (pv 3))
 (zb (zm (i:=6) zaz.nd rfl (Or.inl rfl) (pv 4))
 (zb (zm (i:=7) zaz.nd rfl (Or.inl rfl) zf)
 (zb (zm (i:=8) zaz.nd rfl (Or.inl rfl) zf)
 (zb (zak PassesOwn.leaving rfl (zgp (by rfl) m_reversed (pv 1)) (zN (i:=9) zaz.nd rfl (Or.inl rfl))
 (zg (zP (zH zdo (zA F_side_of hr (by omega) (by rfl) (za (pv 9) (za (pv 2) zc))) (zw (v:=.int 3) (by rfl) g_RIGHT ⟨_,rfl⟩) (zD _))
 (zb (zm (i:=6) zaz.nd rfl (Or.inl rfl) (zy zbk (zr zx (pv 9) (zw (v:=.int 4) (by rfl) g_COUNT ⟨_,rfl⟩) (fun _ _=>rfl)) (pv 8)))
 (zg (zm (i:=5) zaz.nd rfl (Or.inl rfl) (zdf (pv 0) c_C M_lay hr (by omega) z4 (za (zA F_with_tree hr (by omega) (by rfl) (za (pv 9) (za (zw (v:=.int 3) (by rfl) g_RIGHT ⟨_,rfl⟩) (za (pv 5) (za (pv 6) zc))))) zc)))))
 (zb (zm (i:=8) zaz.nd rfl (Or.inl rfl) (zy zbk (zr zx (pv 9) (zw (v:=.int 4) (by rfl) g_COUNT ⟨_,rfl⟩) (fun _ _=>rfl)) (pv 6)))
 (zg (zm (i:=7) zaz.nd rfl (Or.inl rfl) (zdf (pv 0) c_C M_lay hr (by omega) z4 (za (zA F_with_tree hr (by omega) (by rfl) (za (pv 9) (za (zw (v:=.int 2) (by rfl) g_LEFT ⟨_,rfl⟩) (za (pv 7) (za (pv 8) zc))))) zc))))))))
 (zg (zq (zV (za (pv 5) (za (pv 7) zc)))))))))),?_⟩
 refine ⟨_,rfl,_,rfl,_,rfl,pw,ws,rfl,SqL.of ew,?_⟩
 refine ze7 (fun j σ H'=>∃(cs':List (Int ×Th)) (L R:Tr) (k9:Option V),spl x j (down x (n - j) T)=(L,R)∧σ=[some (.ref a),some (.ref pw),some vx,some (.int (down x n T).root),some (.int ((down x n T).cnt:Int)),some (.int L.root),some (.int (L.cnt:Int)),some (.int R.root),some (.int (R.cnt:Int)),k9]∧Fr1 d H H'∧VS H' C a d cs'∧Sub cs cs'∧L.InV cs'∧R.InV cs'∧cs'.length≤cs.length+j) ⟨cs,down x n T,Tr.nil,_,rfl,rfl,Fr1.refl d H,vs,Sub.refl cs,(tk.down).iv,trivial,Nat.le_refl _⟩ ?_ ?_ ?_
 ·rintro j σ H' ⟨cs',L,R,k9,es,rfl,fr,_⟩
  exact SqL.of (vs.lst fr ew)
 ·rintro j y σ H' hj hy ⟨cs',L,R,k9,es,rfl,fr,vs',sb,iL,iR,le⟩
  have hjn:j < n:=by omega
  rw [List.getElem?_reverse hj,hlw] at hy
  have rl:=(rw.at (n - 1 - j) y _ hy (zal (by omega))).keep (vs.tups fr)
  obtain ⟨l,k,wo,r,ed⟩:=not_nil (nn (n - 1 - j) (by omega))
  have td:=tk.down (x:=x) (n:=n - 1 - j)
  rw [ed] at rl td
  have ekid:down x (n - j) T=(node l k wo r).kid x:=by rw [←ed,←zcA];congr 1;omega
  have hcnt:=zdv (x:=x) (n:=j) (T:=down x (n - j) T) (fun m hm=>by rw [←za0];exact nn _ (by omega))
  rw [es,ekid] at hcnt
  have hnew:spl x (j+1) (down x (n - (j+1)) T)=if ze k x=true then (node l k wo L,R) else (L,node R k wo r):=by
   rw [ekid] at es
   rw [show n - (j+1)=n - 1 - j by omega,ed]
   show (if ze k x=true then (node l k wo (spl x j r).1,(spl x j r).2) else ((spl x j l).1,node (spl x j l).2 k wo r))=_
   by_cases c:ze k x=true
   ·have:(node l k wo r).kid x=r:=if_pos c
    rw [this] at es
    rw [if_pos c,if_pos c,es]
   ·have:(node l k wo r).kid x=l:=if_neg c
    rw [this] at es
    rw [if_neg c,if_neg c,es]
  obtain ⟨p,vk,vw,rfl,ea,rk,rw'⟩:=zR rl
  have hT:(node l k wo r).cnt≤T.cnt:=by rw [←ed];exact zbd
  have hct:=tk.ct
  have hln:(l.ps++(k,wo)::r.ps).length=(node l k wo r).cnt:=rfl
  have hcn:=zL l k wo r
  have rx':=rx.keep (vs.tups fr)
  refine ⟨_,rfl,_,rfl,_,_,k,wo,x,_,_,_,rfl,rl,rx',td.kw.1,fun H1 s1=>⟨rfl,_,rfl,?_⟩⟩
  rw [za9]
  have vs1:=vs'.same s1
  obtain ⟨kv',vo',_⟩:=vs1.vo
  obtain ⟨⟨dx,fs,eo,fl⟩,_⟩:=id vo'
  by_cases c:ze k x=true
  ·have e3:zcE k x=3:=if_pos c
   have hcn2:=zL l k wo L
   have hkr:(node l k wo r).kid x=r:=if_pos c
   rw [hkr] at hcnt
   have hcnt':L.cnt+R.cnt=r.cnt:=hcnt
   refine ifT (decide_eq_true e3) ?_
   refine ⟨_,rfl,p,_,_,_,rfl,rfl,SqT.of (s1 _ _ ea),rfl,_,rfl,_,_,rfl,rfl,?_⟩
   refine ⟨_,rfl,a,dx,fs,rfl,eo,fl.n2,_,rfl,_,rfl,_,rfl,_,k,wo,x,_,_,_,_,_,by rw [e3];rfl,rl.keep (Same.tups s1),fun p2 H2 s2 r2=>?_⟩
   have hm:(((l.ps++(k,wo)::r.ps).length:Nat):Int) - (R.cnt:Int)=((node l k wo L).cnt:Int):=by omega
   rw [if_pos c,hm] at r2
   have r2':Rep H2 (node l k wo L).thing (.ref p2):=r2
   have s12:Same H' H2:=fun b o e=>s2 b o (s1 b o e)
   have h300:(node l k wo L).cnt≤300:=by omega
   refine ⟨a,d,cs',_,_,rfl,vs'.same s12,by omega,r2',(zbg td.kw.1 td.kw.2 h300).2,cl,fun H3 f3 ft vs3=>?_⟩
   show∃_,_
   rw [if_pos c] at hnew
   refine ⟨_,node l k wo L,R,some (.ref p),hnew,by rw [←hm];rfl,fr.trans ((Same.fr1 s12).trans f3),vs3,sb.trans zaD,zdd (InV.mono sb td.l.iv) iL ft,InV.mono zaD iR,Nat.le_trans (zbx _ _ _) (by omega)⟩
  ·have e3:zcE k x=2:=if_neg c
   have hcn2:=zL R k wo r
   have hkr:(node l k wo r).kid x=l:=if_neg c
   rw [hkr] at hcnt
   have hcnt':L.cnt+R.cnt=l.cnt:=hcnt
   refine ifF (decide_eq_false (by rw [e3];decide)) ?_
   refine ⟨_,rfl,p,_,_,_,rfl,rfl,SqT.of (s1 _ _ ea),rfl,_,rfl,_,_,rfl,rfl,?_⟩
   refine ⟨_,rfl,a,dx,fs,rfl,eo,fl.n2,_,rfl,_,rfl,_,rfl,_,k,wo,x,_,_,_,_,_,by rw [e3];rfl,rl.keep (Same.tups s1),fun p2 H2 s2 r2=>?_⟩
   have hm:(((l.ps++(k,wo)::r.ps).length:Nat):Int) - (L.cnt:Int)=((node R k wo r).cnt:Int):=by omega
   rw [if_neg c,hm] at r2
   have r2':Rep H2 (node R k wo r).thing (.ref p2):=r2
   have s12:Same H' H2:=fun b o e=>s2 b o (s1 b o e)
   have h300:(node R k wo r).cnt≤300:=by omega
   refine ⟨a,d,cs',_,_,rfl,vs'.same s12,by omega,r2',(zbg td.kw.1 td.kw.2 h300).2,cl,fun H3 f3 ft vs3=>?_⟩
   show∃_,_
   rw [if_neg c] at hnew
   refine ⟨_,L,node R k wo r,some (.ref p),hnew,by rw [←hm];rfl,fr.trans ((Same.fr1 s12).trans f3),vs3,sb.trans zaD,InV.mono zaD iL,zdd iR (InV.mono sb td.r.iv) ft,Nat.le_trans (zbx _ _ _) (by omega)⟩
 ·rintro σ H' ⟨cs',L,R,k9,es,rfl,fr,vs',sb,iL,iR,le⟩
  rw [hlw,Nat.sub_self] at es
  have es':spl x n T=(L,R):=es
  rw [es'] at q
  refine ⟨_,rfl,_,rfl,szl (show 2≤1000 by decide),fun p hp=>?_⟩
  have sp:=zj (o:=.tup [.int L.root,.int R.root]) (Same.refl H') hp
  exact q cs' p _ (fr.trans (Same.fr1 sp)) (vs'.same sp) sb iL iR (by omega) zh
end
end Pv
namespace Pv
open PySem L2
open Tr
abbrev zcX:Stmt:=top 35
theorem zcx:zu ["way","key","number","node"] ["way","key"] (zd zcX):=⟨rfl,rfl,rfl,by decide+kernel,rfl,by decide+kernel,by decide+kernel⟩
abbrev sput:Stmt:=top 36
theorem zdk:zu ["vault","root","key","worth","way","own","new","place","trees","count"] ["vault","root","key","worth"] (zd sput):=⟨rfl,rfl,rfl,by decide+kernel,rfl,by decide+kernel,by decide+kernel⟩
def zg6:Sp:=fun vs H Q _=>∃(pw:Addr) (ws:List V) (T:Tr) (x:Th) (vx:V),vs=[.ref pw,vx]∧H pw=some (.lst ws)∧RepL H (zaR x (wl x T) T) ws∧own x T=nil∧T.cnt≤300∧(∀p∈T.ps,KeyT p.1)∧KeyT x∧Rep H x vx∧∀H',Same H H'→Q (.int (plc x T:Int)) H'
def zhm (C CC:Addr):Sp:=fun vs H Q E=>∃(a d:Addr) (cs:List (Int ×Th)) (T:Tr) (x w:Th) (vx vw:V),vs=[.ref a,.int T.root,vx,vw]∧VS H C a d cs∧TOk cs T∧T.cnt≤299∧Rep H x vx∧KeyT x∧Rep H w vw∧KeyT w∧cs.length≤900000∧Cl CC E∧
 ∀cs' H',Fr1 d H H'→VS H' C a d cs'→Sub cs cs'→(putT x w T).InV cs'→cs'.length≤cs.length+300→Q (.int (putT x w T).root) H'
theorem RepL.take {H:Hp}:∀{ts:List Th} {vs:List V} (n:Nat),RepL H ts vs→RepL H (ts.take n) (vs.take n)
 | _,_,0,_=>by rw [List.take_zero,List.take_zero];exact .nil
 | _,_,n+1,.nil=>by rw [List.take_nil,List.take_nil];exact .nil
 | _,_,n+1,.cons h r=>.cons h (RepL.take n r)
theorem RepL.drop {H:Hp}:∀{ts:List Th} {vs:List V} (n:Nat),RepL H ts vs→RepL H (ts.drop n) (vs.drop n)
 | _,_,0,r=>r
 | _,_,n+1,.nil=>by rw [List.drop_nil,List.drop_nil];exact .nil
 | _,_,n+1,.cons h r=>RepL.drop n r
theorem zgD {xs:List V}{n:Nat}(h:n≤xs.length):cutV xs none (some (n:Int))=xs.take n:=by
 unfold cutV
 rw [HT.sIx_none,HT.sIx_nat,Nat.min_eq_left h]
 rfl
theorem zdF {xs:List V}{n:Nat}(h:n≤xs.length):cutV xs (some (n:Int)) none=xs.drop n:=by
 unfold cutV
 rw [HT.sIx_none,HT.sIx_nat,Nat.min_eq_left h]
 exact List.take_of_length_le (by rw [List.length_drop];exact Nat.le_refl _)
theorem zgN {xs:List V}{n:Nat}(h:xs.length=n+1):cutV xs none (some (-1))=xs.take n:=by
 unfold cutV
 rw [HT.sIx_none]
 show (xs.drop 0).take (HT.sIx xs.length xs.length (some (-1)) - 0)=_
 rw [List.drop_zero,Nat.sub_zero,h]
 congr 1
 unfold HT.sIx
 simp
 omega
theorem joinM {c:Bool}{A B N:Prop}(a:c=true→N→A)(b:c=false→N→B)(rest:N):if c=true then A else B:=ifB (fun h=>a h rest) (fun h=>b h rest)
theorem zjC {x:Th}{T l r:Tr}{k w:Th}{i:Nat}(e:down x i T=node l k w r)(h:plc x T=i+plc x (down x i T))(c:zM x k=false):plc x T=i+1+plc x (down x (i+1) T):=by
 rw [e] at h
 rw [zcA,e,h]
 show i+(if zM x k=true then 0 else (if ze k x=true then r.plc x else l.plc x)+1)=i+1+plc x (if ze k x=true then r else l)
 rw [c,if_neg Bool.false_ne_true]
 by_cases y:ze k x=true
 ·rw [if_pos y,if_pos y];omega
 ·rw [if_neg y,if_neg y];omega
section
variable {P:Program}{w:World}{K:PySem.W.Frag}{mg:Str→Option Value}{base:Heap}{C CC:Addr}{x:Str}{t1 t2 t3 t4 t5 t6 t7:Tok}
theorem ziK (D:Dfn K mg "place_in" zcX ["way","key"]) (F_above:Fn P w K mg base "above" 21 ["key","other"] zeY) (g_KEY:mg "KEY" =some (.int 0 t1)) (m_enumerate:mg "enumerate" =none) (m_len:mg "len" =none):Fn P w K mg base "place_in" 22 ["way","key"] zg6:=by
 refine D.ok (k:=21) zcx (fun vs H Q E h=>?_) (fun f cdv A outer s H vs Q E hr h=>?_)
 ·obtain ⟨pw,ws,T,x,vx,rfl,_⟩:=h;rfl
 obtain ⟨pw,ws,T,x,vx,rfl,ew,rw,ho,h300,kt,kx,rx,q⟩:=h
 have hl:ws.length=wl x T:=by rw [rw.len,zar]
 obtain ⟨up,dn⟩:=za7 ho
 refine ⟨_,(zb (zak PassesOwn.never rfl (zj1 (by rfl) m_enumerate (za (pv 0) zc)) (zca rfl (z7 (zN (i:=2) zcx.nd rfl (Or.inl rfl)) (z7 (zN (i:=3) zcx.nd rfl (Or.inl rfl)) zbf)))
 (zg (zP (z6 (zA F_above hr (by omega) (by rfl) (za (pv 1) (za (zr zx (pv 3) (zw (v:=.int 0) (by rfl) g_KEY ⟨_,rfl⟩) (fun _ _=>rfl)) zc))))
 (zg (zq (pv 2)))
 zC)))
 (zg (zq (zF (zJ) (by rfl) m_len (by rfl) (za (pv 0) zc))))),?_⟩
 refine ⟨_,rfl,pw,ws,rfl,SqL.of ew,?_⟩
 refine zjh (fun i σ H'=>∃k2 k3,σ=[some (.ref pw),some vx,k2,k3]∧Same H H'∧plc x T=i+plc x (down x i T)) ⟨_,_,rfl,Same.refl _,by rw [Nat.zero_add];rfl⟩ ?_ ?_ ?_
 ·rintro i σ H' ⟨k2,k3,rfl,sm,_⟩
  exact SqL.of (sm _ _ ew)
 ·rintro i y U σ H' hy hU ⟨k2,k3,rfl,sm,hp⟩
  have hi:i < ws.length:=(List.getElem?_eq_some_iff.mp hy).1
  obtain ⟨l,k,wo,r,ed⟩:=not_nil (up_down up i (by omega))
  have rl:=rw.at i y _ hy (zal (by omega))
  rw [ed] at rl
  have sm':Same H (upd H' U (.tup [.int i,y])):=zj sm hU
  have eU:upd H' U (.tup [.int i,y]) U=some (.tup [.int i,y]):=zh
  generalize upd H' U (.tup [.int i,y])=H1 at sm' eU
  obtain ⟨p,vk,vw,rfl,ea,rk,_⟩:=zR rl
  have kk:KeyT k:=kt (k,wo) (zbv (x:=x) (n:=i) (by rw [ed];exact List.mem_append_right _ List.mem_cons_self))
  refine ⟨U,_,rfl,SqT.of eU,rfl,_,_,rfl,_,_,rfl,rfl,?_⟩
  refine ⟨_,rfl,_,rfl,p,_,_,_,rfl,rfl,SqT.of (sm' _ _ ea),rfl,x,k,_,_,rfl,rx.keep (Same.tups sm'),rk.keep (Same.tups sm'),kx.good,kk.good,fun H2 s2=>⟨_,rfl,?_⟩⟩
  have s02:Same H H2:=fun b o e=>s2 b o (sm' b o e)
  cases z:zM x k with
  | true=>
   refine ifT rfl ⟨_,rfl,?_⟩
   have e0:plc x (down x i T)=0:=by
    rw [ed]
    show (if zM x k=true then 0 else _)=0
    rw [if_pos z]
   have:=q H2 s02
   rw [hp,e0] at this
   exact this
  | false=>exact ifF rfl ⟨_,_,rfl,s02,zjC ed hp z⟩
 ·rintro σ H' ⟨k2,k3,rfl,sm,hp⟩
  refine ⟨_,rfl,pw,_,rfl,.inl (SqL.of (sm _ _ ew)),?_⟩
  rw [hl,dn] at hp
  have:=q H' sm
  rw [hp] at this
  rw [hl]
  exact this
theorem zlB (D:Dfn K mg "put" sput ["vault","root","key","worth"]) (F_way_to:Fn P w K mg base "way_to" 22 ["vault","root","key"] (zgP C)) (F_ends_at:Fn P w K mg base "ends_at" 1 ["way","key"] (ze1 K)) (M_lay:Mt P w K mg base (CX1 P w) C "lay" 14 ["self","thing"] (zd5 C CC)) (c_C:Cls K C) (F_hung:FnX P w K mg base "hung" 22 ["vault","way","key","root","more"] (zgg K C CC)) (F_parted:FnX P w K mg base "parted" 22 ["vault","way","key","root","count"] (zfr K C CC))
  (F_place_in:Fn P w K mg base "place_in" 22 ["way","key"] zg6) (g_COUNT:mg "COUNT" =some (.int 4 t5)) (g_LEFT:mg "LEFT" =some (.int 2 t3)) (g_RIGHT:mg "RIGHT" =some (.int 3 t4)) (m_len:mg "len" =none):FnX P w K mg base "put" 23 ["vault","root","key","worth"] (zhm C CC):=by
 refine D.okX (k:=22) zdk (fun vs H Q E h=>?_) (fun f cdv A outer s H vs Q E hr h=>?_)
 ·obtain ⟨a,d,cs,T,x,w,vx,vw,rfl,_⟩:=h;rfl
 obtain ⟨a,d,cs,T,x,w,vx,vw,rfl,vs,tk,h100,rx,kx,rw0,kw,hcl,cl,q⟩:=h
 refine ⟨_,(zb (zm (i:=4) zdk.nd rfl (Or.inl rfl) (zA F_way_to hr (by omega) (by rfl) (za (pv 0) (za (pv 1) (za (pv 2) zc)))))
 (zb (zP (z6 (zA F_ends_at hr (by omega) (by rfl) (za (pv 4) (za (pv 2) zc))))
 (zb (zm (i:=5) zdk.nd rfl (Or.inl rfl) (zr zI (pv 4) (zcO zbM zf) (fun _ _=>rfl)))
 (zb (zm (i:=6) zdk.nd rfl (Or.inl rfl) (zdf (pv 0) c_C M_lay hr (by omega) z4 (za (zV (za (pv 2) (za (pv 3) (za (zr zx (pv 5) (zw (v:=.int 2) (by rfl) g_LEFT ⟨_,rfl⟩) (fun _ _=>rfl)) (za (zr zx (pv 5) (zw (v:=.int 3) (by rfl) g_RIGHT ⟨_,rfl⟩) (fun _ _=>rfl)) (za (zr zx (pv 5) (zw (v:=.int 4) (by rfl) g_COUNT ⟨_,rfl⟩) (fun _ _=>rfl)) zc)))))) zc)))
 (zg (zq (zaO F_hung hr (by omega) (by rfl) z4 (za (pv 0) (za (zao zaQ (pv 4) zaG (zan (zcO zbM zf))) (za (pv 2) (za (pv 6) (za zf zc))))))))))
 zC)
 (zb (zm (i:=7) zdk.nd rfl (Or.inl rfl) (zA F_place_in hr (by omega) (by rfl) (za (pv 4) (za (pv 2) zc))))
 (zb (zm (i:=8) zdk.nd rfl (Or.inl rfl) (zaO F_parted hr (by omega) (by rfl) z4 (za (pv 0) (za (zao zaQ (pv 4) (zan (pv 7)) zaG) (za (pv 2) (za zf (za zf zc)))))))
 (zb (zm (i:=9) zdk.nd rfl (Or.inl rfl) (zcP (zH zcL (pv 7) (zF (zJ) (by rfl) m_len (by rfl) (za (pv 4) zc)) (zD _)) (zr zx (zr zI (pv 4) (pv 7) (fun _ _=>rfl)) (zw (v:=.int 4) (by rfl) g_COUNT ⟨_,rfl⟩) (fun _ _=>rfl)) zf))
 (zb (zm (i:=6) zdk.nd rfl (Or.inl rfl) (zdf (pv 0) c_C M_lay hr (by omega) z4 (za (zV (za (pv 2) (za (pv 3) (za (zr zx (pv 8) zf (fun _ _=>rfl)) (za (zr zx (pv 8) zf (fun _ _=>rfl)) (za (zy zac (pv 9) zf) zc)))))) zc)))
 (zg (zq (zaO F_hung hr (by omega) (by rfl) z4 (za (pv 0) (za (zao zaQ (pv 4) zaG (zan (pv 7))) (za (pv 2) (za (pv 6) (za zf zc)))))))))))))),?_⟩
 have hwl:=zfC (x:=x) T
 refine ⟨_,rfl,_,rfl,_,rfl,a,d,cs,T,x,vx,rfl,vs,tk,rx,kx,fun pw ws H1 s1 hpw ew rwy=>?_⟩
 have hl:ws.length=wl x T:=by rw [rwy.len,zar]
 have rx1:=rx.keep (Same.tups s1)
 have rw1:=rw0.keep (Same.tups s1)
 have vs1:=vs.same s1
 obtain ⟨kv1,vo1,_⟩:=vs1.vo
 obtain ⟨⟨dx,fs,eo,fl⟩,_⟩:=id vo1
 refine ⟨_,rfl,_,rfl,pw,ws,T,x,vx,rfl,SqL.of ew,rwy,fun p hp=>(tk.ky p hp).1,rx1,_,rfl,?_⟩
 cases z:own x T with
 | node l k wo r=>
  obtain ⟨rfl,n,ewl,up,ed⟩:=zaB z
  refine ifT rfl ?_
  rw [ewl] at rwy hl
  have hv:ws[n]? =some (ws[n]'(by omega)):=List.getElem?_eq_getElem (by omega)
  have rl:=rwy.at n _ _ hv (zal (Nat.lt_succ_self n))
  rw [ed] at rl
  obtain ⟨p,vk,vw',ev,ea,rk,_⟩:=zR rl
  have ix:atI ws (-1)=some (.ref p):=by
   unfold atI ixN
   rw [if_neg (by decide),if_pos (by omega),hl]
   show ws[((-1:Int)+((n+1:Nat):Int)).toNat]? =_
   rw [show ((-1:Int)+((n+1:Nat):Int)).toNat=n by omega,hv,ev]
  have td:=tk.down (x:=k) (n:=n)
  rw [ed] at td
  refine ⟨_,rfl,_,rfl,pw,_,_,_,rfl,rfl,SqL.of ew,ix,?_⟩
  have hlen:(l.ps++(k,wo)::r.ps).length=(l.ps++(k,w)::r.ps).length:=by simp
  have et:SqT K H1 p _:=SqT.of ea
  refine ⟨_,rfl,a,dx,fs,rfl,eo,fl.n2,_,rfl,_,rfl,_,rfl,p,_,_,_,rfl,rfl,et,rfl,_,rfl,p,_,_,_,rfl,rfl,et,rfl,_,rfl,p,_,_,_,rfl,rfl,et,rfl,szl (show 5≤1000 by decide),fun p2 hp2=>?_⟩
  have r2:=(RepL.cons rx1 (.cons rw1 (.cons (.int l.root) (.cons (.int r.root) (.cons (.int (((l.ps++(k,wo)::r.ps).length:Nat):Int)) .nil))))).new hp2
  have s12:=zj (o:=.tup [vx,vw,.int l.root,.int r.root,.int (((l.ps++(k,wo)::r.ps).length:Nat):Int)]) (Same.refl H1) hp2
  generalize upd H1 p2 (.tup [vx,vw,.int l.root,.int r.root,.int (((l.ps++(k,wo)::r.ps).length:Nat):Int)])=H2 at r2 s12
  rw [hlen] at r2
  have r2':Rep H2 (node l k w r).thing (.ref p2):=r2
  have hcn:(node l k w r).cnt=(node l k wo r).cnt:=by rw [zL,zL]
  have hdc:(node l k wo r).cnt≤T.cnt:=by rw [←ed];exact zbd
  have h300:(node l k w r).cnt≤300:=by omega
  refine ⟨a,d,cs,_,_,rfl,vs1.same s12,by omega,r2',(zbg kx kw h300).2,cl,fun H3 f3 ft vs3=>?_⟩
  have f13:Fr1 d H1 H3:=(Same.fr1 s12).trans f3
  have ew3:=vs1.lst f13 ew
  have tk3:=vs1.tups f13
  refine ⟨_,rfl,_,rfl,_,rfl,_,rfl,pw,_,rfl,SqL.of ew3,fun pc hpc=>?_⟩
  rw [zgN hl]
  have s34:=zj (o:=.lst (ws.take n)) (Same.refl H3) hpc
  have ec:upd H3 pc (.lst (ws.take n)) pc=some (.lst (ws.take n)):=zh
  generalize upd H3 pc (.lst (ws.take n))=H4 at s34 ec
  have rt:=(rwy.keep (tk3.trans (Same.tups s34))).take n
  rw [zcq (Nat.le_succ n)] at rt
  have hal:=zbx cs (zZ (node l k w r).thing) (node l k w r).thing
  refine ⟨_,rfl,_,rfl,a,d,pc,_,T,node l k w r,k,vx,n,ws.take n,0,rfl,vs3.same s34,ec,rt,up_down up,(rx1.keep tk3).keep (Same.tups s34),tk.mono zaD,zdd td.l.iv td.r.iv ft,by rw [ed,hcn];omega,by rw [ed,hcn];omega,by omega,cl,fun cs' H5 f5 vs5 sb5 ip5 le5=>?_⟩
  have ep:putT k w T=plug k n T (node l k w r):=by
   unfold putT
   rw [z,ewl,Nat.add_sub_cancel]
  rw [ep] at q
  exact q cs' H5 ((Same.fr1 s1).trans (f13.trans ((Same.fr1 s34).trans f5))) vs5 (zaD.trans sb5) ip5 (by omega)
 | nil=>
  obtain ⟨up,dn⟩:=za7 z
  refine ifF rfl ?_
  have hpl:=zdX z
  refine ⟨_,rfl,_,rfl,pw,ws,T,x,vx,rfl,ew,rwy,z,tk.ct,fun p hp=>(tk.ky p hp).1,kx,rx1,fun H2 s2=>?_⟩
  have s02:Same H H2:=fun b o e=>s2 b o (s1 b o e)
  have vs2:=vs.same s02
  have ew2:=s2 _ _ ew
  have rwy2:=rwy.keep (Same.tups s2)
  have rx2:=rx1.keep (Same.tups s2)
  have rw2:=rw1.keep (Same.tups s2)
  generalize hp:plc x T=pl at hpl
  have upl:=zdu up hpl
  have hdn:down x (wl x T - pl) (down x pl T)=nil:=by rw [←za0,show pl+(wl x T - pl)=wl x T by omega];exact dn
  have hnn:∀m,m < wl x T - pl→down x m (down x pl T)≠nil:=fun m hm=>by rw [←za0];exact up_down up _ (by omega)
  refine ⟨_,rfl,_,rfl,_,rfl,_,rfl,pw,_,rfl,SqL.of ew2,fun pc hpc=>?_⟩
  rw [zdF (by omega)]
  have s23:=zj (o:=.lst (ws.drop pl)) (Same.refl H2) hpc
  have ec:upd H2 pc (.lst (ws.drop pl)) pc=some (.lst (ws.drop pl)):=zh
  generalize upd H2 pc (.lst (ws.drop pl))=H3 at s23 ec
  have rd:=(rwy2.keep (Same.tups s23)).drop pl
  rw [zge hpl] at rd
  have tdp:=tk.down (x:=x) (n:=pl)
  have vs3:=vs2.same s23
  refine ⟨_,rfl,a,d,pc,cs,down x pl T,x,vx,wl x T - pl,ws.drop pl,by rw [hdn];rfl,vs3,ec,rd,hnn,rx2.keep (Same.tups s23),tdp,by omega,cl,fun cs' pt H4 f4 vs4 sb4 iL iR le4 et=>?_⟩
  have hsc:=zdv hnn
  have hpq:putT x w T=plug x pl T (node (spl x (wl x T - pl) (down x pl T)).1 x w (spl x (wl x T - pl) (down x pl T)).2):=by
   unfold putT
   rw [z,hp]
  rw [hpq] at q
  generalize (spl x (wl x T - pl) (down x pl T)).1=L at iL hsc q et
  generalize (spl x (wl x T - pl) (down x pl T)).2=R at iR hsc q et
  have ew4:=vs3.lst f4 (s23 _ _ ew2)
  have tk24:Tups H2 H4:=(Same.tups s23).trans (vs3.tups f4)
  have rwy4:=rwy2.keep tk24
  have hdc:(down x pl T).cnt≤T.cnt:=zbd
  refine ⟨_,rfl,_,rfl,pw,_,rfl,.inl (SqL.of ew4),_,_,rfl,rfl,_,rfl,?_⟩
  have key:pl < wl x T→∃p xs,atI ws (pl:Int)=some (.ref p)∧H4 p=some (.tup xs)∧atI xs 4=some (.int ((down x pl T).cnt:Int)):=fun hlt=>by
   obtain ⟨l,k,wo,r,ed⟩:=not_nil (up_down up pl hlt)
   have hv:ws[pl]? =some (ws[pl]'(by omega)):=List.getElem?_eq_getElem (by omega)
   have rl:=rwy4.at pl _ _ hv (zal hlt)
   rw [ed] at rl
   obtain ⟨p,vk,vw',ev,ea,rk,_⟩:=zR rl
   refine ⟨p,_,by rw [zaH hv,ev],ea,?_⟩
   rw [ed];rfl
  refine' joinM (fun c hn=>?ja) (fun c hn=>?jb) ?jr
  case ja=>
   have c':(pl:Int) < ((ws.length:Nat):Int):=of_decide_eq_true c
   obtain ⟨p,xs,e1,e2,e3⟩:=key (by clear hn;omega)
   exact ⟨_,rfl,_,rfl,pw,_,_,_,rfl,rfl,SqL.of ew4,e1,p,_,_,_,rfl,rfl,SqT.of e2,e3,hn⟩
  case jb=>
   have c':¬(pl:Int) < ((ws.length:Nat):Int):=of_decide_eq_false c
   have:pl=wl x T:=by omega
   have hz:(down x pl T).cnt=0:=by rw [this,dn];rfl
   rw [hz] at hn
   exact hn
  have et4:SqT K H4 pt [.int L.root,.int R.root]:=SqT.of et
  obtain ⟨kv4,vo4,_⟩:=vs4.vo
  obtain ⟨⟨dx4,fs4,eo4,fl4⟩,_⟩:=id vo4
  have rx4:=rx2.keep tk24
  have rw4:=rw2.keep tk24
  have hcn:=zL L x w R
  refine ⟨_,rfl,a,dx4,fs4,rfl,eo4,fl4.n2,_,rfl,_,rfl,_,rfl,pt,_,_,_,rfl,rfl,et4,rfl,_,rfl,pt,_,_,_,rfl,rfl,et4,rfl,_,rfl,_,_,rfl,rfl,szl (show 5≤1000 by decide),fun p2 hp2=>?_⟩
  have r5:=(RepL.cons rx4 (.cons rw4 (.cons (.int L.root) (.cons (.int R.root) (.cons (.int (((down x pl T).cnt:Int)+1)) .nil))))).new hp2
  have s45:=zj (o:=.tup [vx,vw,.int L.root,.int R.root,.int (((down x pl T).cnt:Int)+1)]) (Same.refl H4) hp2
  generalize upd H4 p2 (.tup [vx,vw,.int L.root,.int R.root,.int (((down x pl T).cnt:Int)+1)])=H5 at r5 s45
  have hm:((down x pl T).cnt:Int)+1=((node L x w R).cnt:Int):=by omega
  rw [hm] at r5
  have r5':Rep H5 (node L x w R).thing (.ref p2):=r5
  have h300:(node L x w R).cnt≤300:=by omega
  refine ⟨a,d,cs',_,_,rfl,vs4.same s45,by omega,r5',(zbg kx kw h300).2,cl,fun H6 f6 ft vs6=>?_⟩
  have f46:Fr1 d H4 H6:=(Same.fr1 s45).trans f6
  have ew6:=vs4.lst f46 ew4
  have tk46:=vs4.tups f46
  refine ⟨_,rfl,_,rfl,_,rfl,_,rfl,pw,_,rfl,SqL.of ew6,fun pq hpq=>?_⟩
  rw [zgD (by omega)]
  have s67:=zj (o:=.lst (ws.take pl)) (Same.refl H6) hpq
  have eq7:upd H6 pq (.lst (ws.take pl)) pq=some (.lst (ws.take pl)):=zh
  generalize upd H6 pq (.lst (ws.take pl))=H7 at s67 eq7
  have rt:=(rwy4.keep (tk46.trans (Same.tups s67))).take pl
  rw [zcq hpl] at rt
  have hal:=zbx cs' (zZ (node L x w R).thing) (node L x w R).thing
  refine ⟨_,rfl,_,rfl,a,d,pq,_,T,node L x w R,x,vx,pl,ws.take pl,1,rfl,vs6.same s67,eq7,rt,up_down upl,(rx4.keep tk46).keep (Same.tups s67),(tk.mono sb4).mono zaD,zdd iL iR ft,by omega,by omega,by omega,cl,fun cs8 H8 f8 vs8 sb8 ip8 le8=>?_⟩
  exact q cs8 H8 ((Same.fr1 s02).trans ((Same.fr1 s23).trans (f4.trans (f46.trans ((Same.fr1 s67).trans f8))))) vs8 (sb4.trans (zaD.trans sb8)) ip8 (by omega)
end
end Pv
namespace Pv
open PySem L2
abbrev zco:Stmt:=top 50
theorem zfV:zu ["thing"] ["thing"] (zd zco):=⟨rfl,rfl,rfl,by decide+kernel,rfl,by decide+kernel,by decide+kernel⟩
abbrev zbV:Stmt:=top 51
theorem zcC:zu ["one","other","k"] ["one","other"] (zd zbV):=⟨rfl,rfl,rfl,by decide+kernel,rfl,by decide+kernel,by decide+kernel⟩
def zfR (n:Nat):Sp:=fun vs H Q _=>∃(t u:Th) (v w:V),vs=[v,w]∧Rep H t v∧Rep H u w∧dep t < n∧dep u < n∧Wf t∧Wf u∧∀H':Hp,Same H H'→Q (.bl (ze t u)) H'
section
variable {P:Program}{w:World}{K:PySem.W.Frag}{mg:Str→Option Value}{base:Heap}{C CC:Addr}
theorem zjR (D:Dfn K mg "_law_sort" zco ["thing"]) (m_isinstance:mg "isinstance" =none) (m_int:mg "int" =none) (m_str:mg "str" =none):Fn P w K mg base "_law_sort" 1 ["thing"] zdP:=by
 refine D.ok (k:=0) zfV (fun vs H Q E h=>?_) (fun f cdv A outer s H vs Q E hr h=>?_)
 ·obtain ⟨t,v,rfl,_⟩:=h;rfl
 obtain ⟨t,v,rfl,rt,q⟩:=h
 refine ⟨_,(zb (zP (zH zbl (pv 0) zaw (zD _))
 (zg (zq zf))
 zC)
 (zb (zP (z6 (zF (zX) (by rfl) m_isinstance (by rfl) (za (pv 0) (za (zat (v:=.ty "int") (by rfl) m_int (by rfl) rfl) zc))))
 (zg (zq zf))
 zC)
 (zb (zP (z6 (zF (zX) (by rfl) m_isinstance (by rfl) (za (pv 0) (za (zat (v:=.ty "str") (by rfl) m_str (by rfl) rfl) zc))))
 (zg (zq zf))
 zC)
 (zg (zq zf))))),?_⟩
 refine ⟨_,rfl,rfl,_,rfl,?_⟩
 cases rt with
 | non=>exact ifT (by decide) q
 | int i=>
  refine ifF (by rfl) ?_
  refine ⟨_,rfl,_,_,_,_,rfl,.int i,rfl,_,rfl,?_⟩
  exact ifT rfl q
 | str x=>
  refine ifF (by rfl) ?_
  refine ⟨_,rfl,_,_,_,_,rfl,.str x,rfl,_,rfl,?_⟩
  refine ifF rfl ?_
  refine ⟨_,rfl,_,_,_,_,rfl,.str x,rfl,_,rfl,?_⟩
  exact ifT rfl q
 | tup e l h=>
  refine ifF (by rfl) ?_
  refine ⟨_,rfl,_,_,_,_,rfl,.tup e,rfl,_,rfl,?_⟩
  refine ifF rfl ?_
  refine ⟨_,rfl,_,_,_,_,rfl,.tup e,rfl,_,rfl,?_⟩
  exact ifF rfl q
theorem zjK (a b:Nat):(if (b:Int) < (a:Int) then (b:Int) else (a:Int))=((min a b:Nat):Int):=by
 split <;> omega
theorem zi6:Clss [V.ty "int",V.ty "str"]:=fun v hv=>by
 rcases List.mem_cons.mp hv with e | hv
 ·exact .inl ⟨_,e⟩
 ·exact .inl ⟨_,List.mem_singleton.mp hv⟩
theorem zem (D:Dfn K mg "_law_ahead" zbV ["one","other"]) (F_law_sort:Fn P w K mg base "_law_sort" 1 ["thing"] zdP) (m_isinstance:mg "isinstance" =none) (m_int:mg "int" =none) (m_str:mg "str" =none) (m_range:mg "range" =none) (m_len:mg "len" =none) (m_min:mg "min" =none):
  ∀n:Nat,Fn P w K mg base "_law_ahead" (n+2) ["one","other"] (zfR n)
 | 0=>D.never fun vs H Q E h=>by
   obtain ⟨t,u,v,w,_,_,_,h1,_⟩:=h
   omega
 | n+1=>by
  have F_law_ahead:=zem D F_law_sort m_isinstance m_int m_str m_range m_len m_min n
  refine D.ok (k:=n+2) zcC (fun vs H Q E h=>?_) (fun f cdv A outer s H vs Q E hr h=>?_)
  ·obtain ⟨t,u,v,w,rfl,_⟩:=h;rfl
  obtain ⟨t,u,v,w,rfl,r1,r2,hd1,hd2,wf1,wf2,q⟩:=h
  refine ⟨_,(zb (zP (zH zbU (zA F_law_sort hr (by omega) (by rfl) (za (pv 0) zc)) (zA F_law_sort hr (by omega) (by rfl) (za (pv 1) zc)) (zD _))
 (zg (zq (zad zcL (zA F_law_sort hr (by omega) (by rfl) (za (pv 0) zc)) (zA F_law_sort hr (by omega) (by rfl) (za (pv 1) zc)) (zD _))))
 zC)
 (zb (zP (zH zbl (pv 0) zaw (zD _))
 (zg (zq za6))
 zC)
 (zb (zP (z6 (zF (zeM) (by rfl) m_isinstance (by rfl) (za (pv 0) (za (zV (za (zat (v:=.ty "int") (by rfl) m_int (by rfl) rfl) (za (zat (v:=.ty "str") (by rfl) m_str (by rfl) rfl) zc))) zc))))
 (zg (zq (zad (OpR.or zcL zex) (pv 0) (pv 1) (zD _))))
 zC)
 (zb (zak PassesOwn.never rfl (za5 rfl m_range (za (zF (zh5 rfl) (by rfl) m_min (by rfl) (za (zF (zJ) (by rfl) m_len (by rfl) (za (pv 0) zc)) (za (zF (zJ) (by rfl) m_len (by rfl) (za (pv 1) zc)) zc))) zc)) (zN (i:=2) zcC.nd rfl (Or.inl rfl))
 (zb (zP (z6 (zA F_law_ahead hr (by omega) (by rfl) (za (zr zx (pv 0) (pv 2) (fun _ _=>rfl)) (za (zr zx (pv 1) (pv 2) (fun _ _=>rfl)) zc))))
 (zg (zq za6))
 zC)
 (zg (zP (z6 (zA F_law_ahead hr (by omega) (by rfl) (za (zr zx (pv 1) (pv 2) (fun _ _=>rfl)) (za (zr zx (pv 0) (pv 2) (fun _ _=>rfl)) zc))))
 (zg (zq za6))
 zC))))
 (zg (zq (zad zcL (zF (zJ) (by rfl) m_len (by rfl) (za (pv 0) zc)) (zF (zJ) (by rfl) m_len (by rfl) (za (pv 1) zc)) (zD _)))))))),?_⟩
  refine ⟨_,rfl,t,v,rfl,r1,_,rfl,u,w,rfl,r2,rfl,_,rfl,?_⟩
  rw [za9]
  refine ifB (fun c=>?_) (fun c=>?_)
  ·have ne:zae t≠zae u:=fun z=>by rw [decide_eq_true z] at c;cases c
   refine ⟨_,rfl,t,v,rfl,r1,_,rfl,u,w,rfl,r2,_,_,rfl,rfl,?_⟩
   show Q (.bl (decide (zae t < zae u))) H
   rw [←zdh ne]
   exact q H (Same.refl _)
  ·have eq:zae t=zae u:=by
    by_cases z:zae t=zae u
    ·exact z
    ·rw [decide_eq_false z] at c;cases c
   refine ⟨_,rfl,rfl,_,rfl,?_⟩
   cases r1 with
   | non=>
    refine ifT (by decide) ?_
    cases r2 with
    | non=>exact q H (Same.refl _)
    | int i=>exact absurd eq (by show (0:Int)≠1;decide)
    | str x=>exact absurd eq (by show (0:Int)≠2;decide)
    | tup e l h=>exact absurd eq (by show (0:Int)≠3;decide)
   | int i=>
    refine ifF (by rfl) ?_
    refine ⟨_,rfl,szl (show 2≤1000 by decide),fun p hp=>?_⟩
    refine ⟨_,p,_,_,true,rfl,zh,zi6,.int i,rfl,_,rfl,ifT rfl ?_⟩
    cases r2 with
    | non=>exact absurd eq (by show (1:Int)≠0;decide)
    | int j=>exact ⟨_,rfl,_,rfl,.inl ⟨_,_,rfl,rfl,q _ (zj (Same.refl _) hp)⟩⟩
    | str x=>exact absurd eq (by show (1:Int)≠2;decide)
    | tup e l h=>exact absurd eq (by show (1:Int)≠3;decide)
   | str x=>
    refine ifF (by rfl) ?_
    refine ⟨_,rfl,szl (show 2≤1000 by decide),fun p hp=>?_⟩
    refine ⟨_,p,_,_,true,rfl,zh,zi6,.str x,rfl,_,rfl,ifT rfl ?_⟩
    cases r2 with
    | non=>exact absurd eq (by show (2:Int)≠0;decide)
    | int j=>exact absurd eq (by show (2:Int)≠1;decide)
    | str y=>exact ⟨_,rfl,_,rfl,.inr ⟨_,_,rfl,rfl,q _ (zj (Same.refl _) hp)⟩⟩
    | tup e l h=>exact absurd eq (by show (2:Int)≠3;decide)
   | @tup a xs ts e1 l1 h1=>
    refine ifF (by rfl) ?_
    refine ⟨_,rfl,szl (show 2≤1000 by decide),fun p hp=>?_⟩
    have sm0:Same H (upd H p (.tup [.ty "int",.ty "str"])):=zj (Same.refl _) hp
    refine ⟨_,p,_,_,false,rfl,zh,zi6,.tup (sm0 _ _ e1),rfl,_,rfl,ifF rfl ?_⟩
    cases r2 with
    | non=>exact absurd eq (by show (3:Int)≠0;decide)
    | int j=>exact absurd eq (by show (3:Int)≠1;decide)
    | str y=>exact absurd eq (by show (3:Int)≠2;decide)
    | @tup b ys us e2 l2 h2=>
     have hd1':depL ts+1 < n+1:=hd1
     have hd2':depL us+1 < n+1:=hd2
     have w40:ts.length≤40:=wf1.1
     refine ⟨_,rfl,a,_,rfl,.inr (SqT.of (sm0 _ _ e1)),_,rfl,b,_,rfl,.inr (SqT.of (sm0 _ _ e2)),?_⟩
     refine ⟨_,_,rfl,?_⟩
     rw [zjK]
     refine ⟨_,rfl,by omega,by omega,?_⟩
     rw [Int.toNat_natCast]
     refine zaV (n:=min xs.length ys.length) (fun i σ H'=>∃kk,σ=[some (.ref a),some (.ref b),kk]∧Same H H'∧zax ts us=zax (ts.drop i) (us.drop i)) ⟨_,rfl,sm0,rfl⟩ ?_ ?_
     ·rintro i σ H1 hi ⟨kk,rfl,sm,ea⟩
      rw [Int.zero_add]
      have hi1:i < xs.length:=by omega
      have hi2:i < ys.length:=by omega
      have hx:xs[i]? =some xs[i]:=List.getElem?_eq_getElem hi1
      have hy:ys[i]? =some ys[i]:=List.getElem?_eq_getElem hi2
      have ht:ts[i]? =some ts[i]:=List.getElem?_eq_getElem (by omega)
      have hu:us[i]? =some us[i]:=List.getElem?_eq_getElem (by omega)
      have ra:∀{H2:Hp},Same H H2→Rep H2 ts[i] xs[i]:=fun s2=>(h1 i _ _ hx ht).keep (Same.tups s2)
      have rb:∀{H2:Hp},Same H H2→Rep H2 us[i] ys[i]:=fun s2=>(h2 i _ _ hy hu).keep (Same.tups s2)
      have da:=zaP ht
      have db:=zaP hu
      rw [zdr (by omega) (by omega)] at ea
      refine ⟨_,rfl,_,rfl,a,_,_,_,rfl,rfl,SqT.of (sm _ _ e1),zaH hx,_,rfl,_,rfl,b,_,_,_,rfl,rfl,SqT.of (sm _ _ e2),zaH hy,ts[i],us[i],_,_,rfl,ra sm,rb sm,by omega,by omega,wf1.2.get ht,wf2.2.get hu,fun H2 s2=>⟨_,rfl,?_⟩⟩
      have sm2:=sm.trans s2
      refine ifB (fun cc=>?_) (fun cc=>?_)
      ·have ne:¬eqT ts[i] us[i]=true:=fun z=>by
        rw [(zab _ _).mp z,zB] at cc;cases cc
       rw [if_neg ne,cc] at ea
       have:=q H2 sm2
       rw [show ze (.tup ts) (.tup us)=true from ea] at this
       exact this
      refine ⟨_,rfl,_,rfl,b,_,_,_,rfl,rfl,SqT.of (sm2 _ _ e2),zaH hy,_,rfl,_,rfl,a,_,_,_,rfl,rfl,SqT.of (sm2 _ _ e1),zaH hx,us[i],ts[i],_,_,rfl,rb sm2,ra sm2,by omega,by omega,wf2.2.get hu,wf1.2.get ht,fun H3 s3=>⟨_,rfl,?_⟩⟩
      have sm3:=sm2.trans s3
      refine ifB (fun c2=>?_) (fun c2=>?_)
      ·have ne:¬eqT ts[i] us[i]=true:=fun z=>by
        rw [(zab _ _).mp z,zB] at c2;cases c2
       rw [if_neg ne,cc] at ea
       have:=q H3 sm3
       rw [show ze (.tup ts) (.tup us)=false from ea] at this
       exact this
      ·rw [if_pos (by rw [zeA cc c2];exact zY _)] at ea
       exact ⟨_,rfl,sm3,ea⟩
     ·rintro σ H1 ⟨kk,rfl,sm,ea⟩
      refine ⟨_,rfl,a,_,rfl,.inr (SqT.of (sm _ _ e1)),_,rfl,b,_,rfl,.inr (SqT.of (sm _ _ e2)),_,_,rfl,rfl,?_⟩
      rw [l1,l2,zdK] at ea
      have ed:decide ((xs.length:Int) < (ys.length:Int))=zax ts us:=by
       rw [ea,l1,l2]
       rw [Bool.eq_iff_iff]
       simp
      show Q (.bl (decide ((xs.length:Int) < (ys.length:Int)))) H1
      rw [ed]
      exact q H1 sm
end
end Pv
namespace Pv
open PySem L2
abbrev zc1:Stmt:=top 48
theorem zbL:zu ["cell","way","xs","some"] ["cell","way"] (zd zc1):=⟨rfl,rfl,rfl,by decide+kernel,rfl,by decide+kernel,by decide+kernel⟩
abbrev zbX:Stmt:=top 49
theorem zcB:zu ["cell","way","xs"] ["cell","way"] (zd zbX):=⟨rfl,rfl,rfl,by decide+kernel,rfl,by decide+kernel,by decide+kernel⟩
def zgH:Sp:=fun vs H Q _=>∃(c m:Int),vs=[.int c,.int m]∧∀(t:Th) (v:V) (H':Hp),Same H H'→Rep H' t v→KeyT t→Q v H'
theorem zlL {xs:List Int}{a b c:Int}(h:Below xs [a,b,c]):∃x y z,xs=[x,y,z]∧(0≤x∧x < a)∧(0≤y∧y < b)∧0≤z∧z < c:=by
 obtain ⟨l,h⟩:=h
 match xs,l,h with
 | [x,y,z],_,h=>exact ⟨x,y,z,rfl,h 0 x a rfl rfl,h 1 y b rfl rfl,h 2 z c rfl rfl⟩
theorem zlp {xs:List Int}{a b c d:Int}(h:Below xs [a,b,c,d]):∃x y z u,xs=[x,y,z,u]∧(0≤x∧x < a)∧(0≤y∧y < b)∧(0≤z∧z < c)∧0≤u∧u < d:=by
 obtain ⟨l,h⟩:=h
 match xs,l,h with
 | [x,y,z,u],_,h=>exact ⟨x,y,z,u,rfl,h 0 x a rfl rfl,h 1 y b rfl rfl,h 2 z c rfl rfl,h 3 u d rfl rfl⟩
theorem zdx {i:Int}(h0: -(10 ^ 30)≤i)(h1:i≤10 ^ 30):KeyT (.int i):=⟨⟨h0,h1⟩,by show (0:Nat)≤3;decide,by show (1:Nat)≤10;decide,fun z=>by cases z⟩
theorem zhd {x:Str}(h:zio x):KeyT (.str x):=⟨h,by show (0:Nat)≤3;decide,by show (1:Nat)≤10;decide,fun z=>by cases z⟩
section
variable {P:Program}{w:World}{K:PySem.W.Frag}{mg:Str→Option Value}{base:Heap}
theorem zlD (D:Dfn K mg "_law_key" zc1 ["cell","way"]) (F_law_parts:Fn P w K mg base "_law_parts" 2 ["cell","way","least"] ze4) (F_law_text:Fn P w K mg base "_law_text" 1 ["number","many"] zeR):Fn P w K mg base "_law_key" 3 ["cell","way"] zgH:=by
 refine D.ok (k:=2) zbL (fun vs H Q E h=>?_) (fun f cdv A outer s H vs Q E hr h=>?_)
 ·obtain ⟨c,m,rfl,_⟩:=h;rfl
 obtain ⟨c,m,rfl,q⟩:=h
 refine ⟨_,(zb (zm (i:=2) zbL.nd rfl (Or.inl rfl) (zA F_law_parts hr (by omega) (by rfl) (za (pv 0) (za (pv 1) (za (zaa (za zf (za zf (za zf (za (zy zac (zy zbp zf (zy zbo zf zf)) zf) zc))))) zc)))))
 (zb (zm (i:=3) zbL.nd rfl (Or.inl rfl) (zaa (za (zy zbk (zr zI (pv 2) zf (fun _ _=>rfl)) zf) (za (zy zbk (zr zI (pv 2) zf (fun _ _=>rfl)) zf) (za (zy zbk (zr zI (pv 2) zf (fun _ _=>rfl)) zf) (za (zy zbk (zr zI (pv 2) zf (fun _ _=>rfl)) (zy zbo zf zf)) (za (zA F_law_text hr (by omega) (by rfl) (za (zr zI (pv 2) zf (fun _ _=>rfl)) (za (zy zac (zr zI (pv 2) zf (fun _ _=>rfl)) zf) zc))) zc)))))))
 (zb (zm (i:=3) zbL.nd rfl (Or.inl rfl) (zy zcv (pv 3) (zaa (za (zV (za (zy zaJ (zr zI (pv 2) zf (fun _ _=>rfl)) zf) (za (zA F_law_text hr (by omega) (by rfl) (za (zr zI (pv 2) zf (fun _ _=>rfl)) (za (zy zaJ (zr zI (pv 2) zf (fun _ _=>rfl)) zf) zc))) zc))) (za (zV (za zaw (za (zV (za (zy zaJ (zr zI (pv 2) zf (fun _ _=>rfl)) zf) (za (zV (za (zy zaJ (zr zI (pv 2) zf (fun _ _=>rfl)) zf) zc)) zc))) zc))) zc)))))
 (zg (zq (zr zI (pv 3) (zr zI (pv 2) zf (fun _ _=>rfl)) (fun _ _=>rfl))))))),?_⟩
 have e30:(10:Int) ^ (30:Int).toNat=1000000000000000000000000000000:=by decide+kernel
 refine ⟨_,rfl,_,rfl,_,_,rfl,rfl,⟨by decide,by decide,by decide⟩,_,_,rfl,rfl,.inl ⟨by decide,by decide⟩,_,_,rfl,rfl,szl (show 4≤1000 by decide),fun p hp=>?_⟩
 refine ⟨c,m,p,[7,24,12,2 * (10:Int) ^ (30:Int).toNat+1],rfl,zh,by decide,by decide+kernel,fun r xs H1 s1 er hb=>?_⟩
 have s01:Same H H1:=(zj (Same.refl H) hp).trans s1
 obtain ⟨x0,x1,x2,x3,rfl,b0,b1,b2,b3⟩:=zlp hb
 have es:SqL K H1 r [.int x0,.int x1,.int x2,.int x3]:=SqL.of er
 refine ⟨_,rfl,r,_,_,_,rfl,rfl,es,rfl,_,_,rfl,rfl,_,rfl,r,_,_,_,rfl,rfl,es,rfl,_,_,rfl,rfl,_,rfl,r,_,_,_,rfl,rfl,es,rfl,_,_,rfl,rfl,?_⟩
 refine ⟨_,rfl,r,_,_,_,rfl,rfl,es,rfl,_,_,rfl,rfl,⟨by decide,by decide,by decide⟩,_,_,rfl,rfl,?_⟩
 refine ⟨_,rfl,r,_,_,_,rfl,rfl,es,rfl,_,rfl,r,_,_,_,rfl,rfl,es,rfl,_,_,rfl,rfl,x3,_,rfl,by omega,by omega,fun tx1 htx1=>?_⟩
 refine ⟨szl (show 5≤1000 by decide),fun pl hpl=>?_⟩
 have sa:=zj (o:=.lst [.int (x1 - 12),.int (x1 - 12),.int (x1 - 12),.int (x3 - (10:Int) ^ (30:Int).toNat),.str tx1]) (Same.refl H1) hpl
 have el:upd H1 pl (.lst [.int (x1 - 12),.int (x1 - 12),.int (x1 - 12),.int (x3 - (10:Int) ^ (30:Int).toNat),.str tx1]) pl=some (.lst [.int (x1 - 12),.int (x1 - 12),.int (x1 - 12),.int (x3 - (10:Int) ^ (30:Int).toNat),.str tx1]):=zh
 generalize upd H1 pl (.lst [.int (x1 - 12),.int (x1 - 12),.int (x1 - 12),.int (x3 - (10:Int) ^ (30:Int).toNat),.str tx1])=H2 at sa el
 have es2:SqL K H2 r [.int x0,.int x1,.int x2,.int x3]:=SqL.of (sa _ _ er)
 refine ⟨_,rfl,_,rfl,r,_,_,_,rfl,rfl,es2,rfl,_,_,rfl,rfl,(show (0:Int) < 5 by decide),?_⟩
 refine ⟨_,rfl,r,_,_,_,rfl,rfl,es2,rfl,_,rfl,r,_,_,_,rfl,rfl,es2,rfl,_,_,rfl,rfl,(show (0:Int) < 3 by decide),x3,_,rfl,by omega,by omega,fun tx2 htx2=>?_⟩
 refine ⟨szl (show 2≤1000 by decide),fun p1 h1=>?_⟩
 have sb:=zj (o:=.tup [.int (x1 % 5),.str tx2]) sa h1
 have rp1:=(RepL.cons (.int (x1 % 5)) (.cons (.str tx2) .nil)).new h1
 have el3:=zj (o:=.tup [.int (x1 % 5),.str tx2]) (Same.refl H2) h1 _ _ el
 generalize upd H2 p1 (.tup [.int (x1 % 5),.str tx2])=H3 at sb rp1 el3
 have es3:SqL K H3 r [.int x0,.int x1,.int x2,.int x3]:=SqL.of (sb _ _ er)
 refine ⟨_,rfl,r,_,_,_,rfl,rfl,es3,rfl,_,_,rfl,rfl,(show (0:Int) < 3 by decide),_,rfl,r,_,_,_,rfl,rfl,es3,rfl,_,_,rfl,rfl,(show (0:Int) < 4 by decide),szl (show 1≤1000 by decide),fun p2 h2=>?_⟩
 have s34:=zj (o:=.tup [.int (x2 % 4)]) (Same.refl H3) h2
 have rp2:=(RepL.cons (.int (x2 % 4)) .nil).new h2
 generalize upd H3 p2 (.tup [.int (x2 % 4)])=H4 at s34 rp2
 refine ⟨szl (show 2≤1000 by decide),fun p3 h3=>?_⟩
 have s45:=zj (o:=.tup [.int (x1 % 3),.ref p2]) (Same.refl H4) h3
 have rp3:=(RepL.cons (.int (x1 % 3)) (.cons rp2 .nil)).new h3
 generalize upd H4 p3 (.tup [.int (x1 % 3),.ref p2])=H5 at s45 rp3
 refine ⟨szl (show 2≤1000 by decide),fun p4 h4=>?_⟩
 have s56:=zj (o:=.tup [.non,.ref p3]) (Same.refl H5) h4
 have rp4:=(RepL.cons .non (.cons rp3 .nil)).new h4
 generalize upd H5 p4 (.tup [.non,.ref p3])=H6 at s56 rp4
 have s36:=(s34.trans s45).trans s56
 refine ⟨szl (show 2≤1000 by decide),fun l hl=>?_⟩
 have s67:=zj (o:=.lst [.ref p1,.ref p4]) (Same.refl H6) hl
 have e7:upd H6 l (.lst [.ref p1,.ref p4]) l=some (.lst [.ref p1,.ref p4]):=zh
 generalize upd H6 l (.lst [.ref p1,.ref p4])=H7 at s67 e7
 have s37:=s36.trans s67
 refine ⟨pl,l,_,_,rfl,rfl,s37 _ _ el3,e7,szl (show 7≤1000 by decide),fun rr hrr=>?_⟩
 have s78:=zj (o:=.lst ([.int (x1 - 12),.int (x1 - 12),.int (x1 - 12),.int (x3 - (10:Int) ^ (30:Int).toNat),.str tx1]++ [.ref p1,.ref p4])) (Same.refl H7) hrr
 have e8:upd H7 rr (.lst ([.int (x1 - 12),.int (x1 - 12),.int (x1 - 12),.int (x3 - (10:Int) ^ (30:Int).toNat),.str tx1]++ [.ref p1,.ref p4])) rr=some (.lst [.int (x1 - 12),.int (x1 - 12),.int (x1 - 12),.int (x3 - (10:Int) ^ (30:Int).toNat),.str tx1,.ref p1,.ref p4]):=zh
 generalize upd H7 rr (.lst ([.int (x1 - 12),.int (x1 - 12),.int (x1 - 12),.int (x3 - (10:Int) ^ (30:Int).toNat),.str tx1]++ [.ref p1,.ref p4]))=H8 at s78 e8
 have s38:=s37.trans s78
 have rl:RepL H8 [.int (x1 - 12),.int (x1 - 12),.int (x1 - 12),.int (x3 - (10:Int) ^ (30:Int).toNat),.str tx1,.tup [.int (x1 % 5),.str tx2],.tup [.non,.tup [.int (x1 % 3),.tup [.int (x2 % 4)]]]] [.int (x1 - 12),.int (x1 - 12),.int (x1 - 12),.int (x3 - (10:Int) ^ (30:Int).toNat),.str tx1,.ref p1,.ref p4]:=
  .cons (.int _) (.cons (.int _) (.cons (.int _) (.cons (.int _) (.cons (.str _) (.cons (rp1.keep (Same.tups s38)) (.cons (rp4.keep (Same.tups (s67.trans s78))) .nil))))))
 have all:∀t∈ [Th.int (x1 - 12),.int (x1 - 12),.int (x1 - 12),.int (x3 - (10:Int) ^ (30:Int).toNat),.str tx1,.tup [.int (x1 % 5),.str tx2],.tup [.non,.tup [.int (x1 % 3),.tup [.int (x2 % 4)]]]],KeyT t:=by
  intro t ht
  have k1:KeyT (.int (x1 - 12)):=zdx (by omega) (by omega)
  have k2:KeyT (.int (x3 - (10:Int) ^ (30:Int).toNat)):=by
   rw [e30] at b3 ⊢
   exact zdx (by omega) (by omega)
  have k4:KeyT (.tup [.int (x1 % 5),.str tx2]):=⟨⟨by show (2:Nat)≤40;decide,⟨by omega,by omega⟩,htx2,trivial⟩,by show (1:Nat)≤3;decide,by show (3:Nat)≤10;decide,fun z=>by cases z⟩
  have k5:KeyT (.tup [.non,.tup [.int (x1 % 3),.tup [.int (x2 % 4)]]]):=⟨⟨by show (2:Nat)≤40;decide,trivial,⟨by show (2:Nat)≤40;decide,⟨by omega,by omega⟩,⟨by show (1:Nat)≤40;decide,⟨by omega,by omega⟩,trivial⟩,trivial⟩,trivial⟩,by show (3:Nat)≤3;decide,by show (6:Nat)≤10;decide,fun z=>by cases z⟩
  simp only [List.mem_cons,List.not_mem_nil,or_false] at ht
  rcases ht with h | h | h | h | h | h | h <;> subst h
  ·exact k1
  ·exact k1
  ·exact k1
  ·exact k2
  ·exact zhd htx1
  ·exact k4
  ·exact k5
 obtain ⟨v,t,ev,rv,kt⟩:=rl.pick b0.1 (by show x0 < ((7:Nat):Int);omega) all
 have es8:SqL K H8 r [.int x0,.int x1,.int x2,.int x3]:=SqL.of (s38 _ _ (sb _ _ er))
 exact ⟨_,rfl,_,rfl,r,_,_,_,rfl,rfl,es8,rfl,rr,_,_,_,rfl,rfl,SqL.of e8,ev,q t v H8 ((s01.trans sb).trans s38) rv kt⟩
theorem zi3 (D:Dfn K mg "_law_worth" zbX ["cell","way"]) (F_law_parts:Fn P w K mg base "_law_parts" 2 ["cell","way","least"] ze4) (F_law_text:Fn P w K mg base "_law_text" 1 ["number","many"] zeR):Fn P w K mg base "_law_worth" 3 ["cell","way"] zgH:=by
 refine D.ok (k:=2) zcB (fun vs H Q E h=>?_) (fun f cdv A outer s H vs Q E hr h=>?_)
 ·obtain ⟨c,m,rfl,_⟩:=h;rfl
 obtain ⟨c,m,rfl,q⟩:=h
 refine ⟨_,(zb (zm (i:=2) zcB.nd rfl (Or.inl rfl) (zA F_law_parts hr (by omega) (by rfl) (za (pv 0) (za (pv 1) (za (zaa (za zf (za zf (za (zy zac (zy zbp zf (zy zbo zf zf)) zf) zc)))) zc)))))
 (zg (zq (zr zI (zaa (za (zy zbk (zr zI (pv 2) zf (fun _ _=>rfl)) zf) (za (zy zbk (zr zI (pv 2) zf (fun _ _=>rfl)) (zy zbo zf zf)) (za (zA F_law_text hr (by omega) (by rfl) (za (zr zI (pv 2) zf (fun _ _=>rfl)) (za (zr zI (pv 2) zf (fun _ _=>rfl)) zc))) (za (zV (za (zr zI (pv 2) zf (fun _ _=>rfl)) (za (zV zc) (za (zV (za zaw zc)) zc)))) zc))))) (zr zI (pv 2) zf (fun _ _=>rfl)) (fun _ _=>rfl))))),?_⟩
 have e30:(10:Int) ^ (30:Int).toNat=1000000000000000000000000000000:=by decide+kernel
 refine ⟨_,rfl,_,rfl,_,_,rfl,rfl,⟨by decide,by decide,by decide⟩,_,_,rfl,rfl,.inl ⟨by decide,by decide⟩,_,_,rfl,rfl,szl (show 3≤1000 by decide),fun p hp=>?_⟩
 refine ⟨c,m,p,[4,9,2 * (10:Int) ^ (30:Int).toNat+1],rfl,zh,by decide,by decide+kernel,fun r xs H1 s1 er hb=>?_⟩
 have s01:Same H H1:=(zj (Same.refl H) hp).trans s1
 obtain ⟨x0,x1,x2,rfl,b0,b1,b2⟩:=zlL hb
 have es:SqL K H1 r [.int x0,.int x1,.int x2]:=SqL.of er
 refine ⟨_,rfl,r,_,_,_,rfl,rfl,es,rfl,_,_,rfl,rfl,_,rfl,r,_,_,_,rfl,rfl,es,rfl,_,_,rfl,rfl,⟨by decide,by decide,by decide⟩,_,_,rfl,rfl,?_⟩
 refine ⟨_,rfl,r,_,_,_,rfl,rfl,es,rfl,_,rfl,r,_,_,_,rfl,rfl,es,rfl,x2,_,rfl,by omega,by omega,fun tx1 htx1=>?_⟩
 refine ⟨_,rfl,r,_,_,_,rfl,rfl,es,rfl,szl (show 0≤1000 by decide),fun p1 h1=>?_⟩
 have s12:=zj (o:=.tup []) (Same.refl H1) h1
 have rp1:=(RepL.nil (H:=H1)).new h1
 generalize upd H1 p1 (.tup [])=H2 at s12 rp1
 refine ⟨szl (show 1≤1000 by decide),fun p2 h2=>?_⟩
 have s23:=zj (o:=.tup [.non]) (Same.refl H2) h2
 have rp2:=(RepL.cons (H:=H2) .non .nil).new h2
 generalize upd H2 p2 (.tup [.non])=H3 at s23 rp2
 refine ⟨szl (show 3≤1000 by decide),fun p3 h3=>?_⟩
 have s34:=zj (o:=.tup [.int x1,.ref p1,.ref p2]) (Same.refl H3) h3
 have rp3:=(RepL.cons (.int x1) (.cons (rp1.keep (Same.tups s23)) (.cons rp2 .nil))).new h3
 generalize upd H3 p3 (.tup [.int x1,.ref p1,.ref p2])=H4 at s34 rp3
 refine ⟨szl (show 4≤1000 by decide),fun l hl=>?_⟩
 have s45:=zj (o:=.lst [.int (x1 - 4),.int (x2 - (10:Int) ^ (30:Int).toNat),.str tx1,.ref p3]) (Same.refl H4) hl
 have e5:upd H4 l (.lst [.int (x1 - 4),.int (x2 - (10:Int) ^ (30:Int).toNat),.str tx1,.ref p3]) l=some (.lst [.int (x1 - 4),.int (x2 - (10:Int) ^ (30:Int).toNat),.str tx1,.ref p3]):=zh
 generalize upd H4 l (.lst [.int (x1 - 4),.int (x2 - (10:Int) ^ (30:Int).toNat),.str tx1,.ref p3])=H5 at s45 e5
 have s15:=((s12.trans s23).trans s34).trans s45
 have rl:RepL H5 [.int (x1 - 4),.int (x2 - (10:Int) ^ (30:Int).toNat),.str tx1,.tup [.int x1,.tup [],.tup [.non]]] [.int (x1 - 4),.int (x2 - (10:Int) ^ (30:Int).toNat),.str tx1,.ref p3]:=
  .cons (.int _) (.cons (.int _) (.cons (.str _) (.cons (rp3.keep (Same.tups s45)) .nil)))
 have all:∀t∈ [Th.int (x1 - 4),.int (x2 - (10:Int) ^ (30:Int).toNat),.str tx1,.tup [.int x1,.tup [],.tup [.non]]],KeyT t:=by
  intro t ht
  have k2:KeyT (.int (x2 - (10:Int) ^ (30:Int).toNat)):=by
   rw [e30] at b2 ⊢
   exact zdx (by omega) (by omega)
  simp only [List.mem_cons,List.not_mem_nil,or_false] at ht
  rcases ht with h | h | h | h <;> subst h
  ·exact zdx (by omega) (by omega)
  ·exact k2
  ·exact zhd htx1
  ·exact ⟨⟨by show (3:Nat)≤40;decide,⟨by omega,by omega⟩,⟨by show (0:Nat)≤40;decide,trivial⟩,⟨by show (1:Nat)≤40;decide,trivial,trivial⟩,trivial⟩,by show (2:Nat)≤3;decide,by show (5:Nat)≤10;decide,fun z=>by cases z⟩
 obtain ⟨v,t,ev,rv,kt⟩:=rl.pick b0.1 (by show x0 < ((4:Nat):Int);omega) all
 have es5:SqL K H5 r [.int x0,.int x1,.int x2]:=SqL.of (s15 _ _ er)
 exact ⟨_,rfl,r,_,_,_,rfl,rfl,es5,rfl,l,_,_,_,rfl,rfl,SqL.of e5,ev,q t v H5 (s01.trans s15) rv kt⟩
end
end Pv
namespace L2
open PySem PySem.Spec PyProof.Rows
section
variable {X:Cx}
end
end L2
namespace L2
open PySem PySem.Spec PyProof.Rows
section
variable {X:Cx}
def rSlW (K:PySem.W.Frag):V→Option Int→Option Int→Hp→VK→Prop:=fun x lo hi H Q=>∃a xs,x=.ref a∧SqT K H a xs∧HT.sIx xs.length 0 lo=0∧HT.sIx xs.length xs.length hi=xs.length∧Q (.ref a) H
end
end L2
namespace Px
open PySem PySem.W PySem.Builtin
section
variable {prog:Program}{w:World}{A:Around}{E:Value→Shared→Prop}{s:Shared}{K:Frag}{x D:Addr}{ox:Obj}{od:Option Obj}
theorem zhF {Q:Option Value→Shared→Prop}(X:K.In s.heap)(I:InstAt s.heap x ox D od)(hp:zcD K D=true)(he:findIn K (.ref D) "__eq__" =some (some (.builtin "object.__eq__")))
  (h:Q (some (.bool true)) s):wpAny (model prog w) A (callSpecialIfBound? (.ref x) "__eq__" [.ref x]) Q E s:=by
 have isO:=zgw (M:=model prog w) (T:= "object") X I hp (by decide)
 obtain ⟨hp',g,d,t,os⟩:=s
 have L1:=looks_findIn (M:=model prog w) X he
 have S:=F.cmp_object.eq
 have sp:∀{Q:Option Value→Shared→Prop},Q (some (.builtin "object.__eq__")) ⟨hp',g,d,t,os⟩→wpAny (model prog w) A (specialOf (.ref x) "__eq__") Q E ⟨hp',g,d,t,os⟩:=fun {Q} q=>by
  unfold specialOf
  repeat (first | (with_reducible refine wpAny_loadPart_at I.at_ ?_;rw [I.cls]) | with_reducible refine L1.at ?_ | wp_step)
  exact q
 simp only [callSpecialIfBound?,bindSpecialIfBound?]
 refine wpAny_holding (wpAny_bind (wpAny_bind (sp ?_)))
 simp only [S.bind]
 have cl:wpAny (model prog w) A (call (.builtin "object.__eq__") [.ref x,.ref x]) (fun v=>Q (some v)) E ⟨hp',g,d,t,os⟩:=
  wpAny_call (codeAny_call_builtin S.plain F.cmpEntry_eq (check_slot F.cmpKind_eq F.cmpSplit_eq isO (F.cmpArgs_eq _ _) (objEq_entry_same h)))
 have fin:wpAny (model prog w) A (call (.builtin "object.__eq__") ([.ref x]++ [.ref x]) >>=fun v=>pure (some v)) Q E ⟨hp',g,d,t,os⟩:=
  wpAny_bind (wpAny_mono cl (fun v s' h'=>wpAny_pure h') fun _ _ h'=>h')
 refine wpAny_bind (wpAny_askSetting (wpAny_ite ?_))
 split
 ·exact wpAny_bind (wpAny_pure (wpAny_pure fin))
 ·exact wpAny_tryCatch (wpAny_bind (wpAny_pure (wpAny_pure fin)))
theorem zi7 {Q:Value→Shared→Prop}(X:K.In s.heap)(I:InstAt s.heap x ox D od)(hp:zcD K D=true)(he:findIn K (.ref D) "__eq__" =some (some (.builtin "object.__eq__"))) (hu:A.units < cLine)
  (h:Q (.bool true) s):wpAny (model prog w) A (richCompare .Eq (.ref x) (.ref x)) Q E s:=by
 have tc:∀{Q:Option Value→Shared→Prop},Q (some (.bool true)) s→wpAny (model prog w) A (tryCompare (.ref x) "__eq__" (.ref x)) Q E s:=fun {Q} q=>by
  simp only [tryCompare]
  exact wpAny_bind (zhF X I hp he (wpAny_pure q))
 obtain ⟨hp',g,d,t,os⟩:=s
 have rf:∀{α:Type} {k:Bool→Sem α} {Q:α→Shared→Prop},wpAny (model prog w) A (k false) Q E ⟨hp',g,d,t,os⟩→wpAny (model prog w) A (if Value.ref D !=Value.ref D then isSubtype (.ref D) (.ref D) >>=k else pure false >>=k) Q E ⟨hp',g,d,t,os⟩:=fun {α k Q} q=>by
  rw [if_neg (by simp)]
  exact wpAny_bind (wpAny_pure q)
 simp only [richCompare,cmpInfo_Eq,oneThing_ref]
 repeat (first | with_reducible refine wpAny_cRoomFor hu ?_ | (with_reducible refine wpAny_loadPart_at I.at_ ?_;rw [I.cls]) | with_reducible refine rf ?_ | with_reducible refine tc ?_ | wp_step)
 exact h
end
end Px
namespace L2
open PySem PySem.Spec PyProof.Rows Px
section
variable {X:Cx}
theorem zmK {k:Nat}(hr:Room k X.A):OpR X (compareOp .Eq) (fun x y H Q=>∃a C,x=.ref a∧y=.ref a∧H a=some (exO a C none true)∧zkE X.K C∧PySem.W.findIn X.K (.ref C) "__eq__" =some (some (.builtin "object.__eq__"))∧Q (.bl true) H):=by
 intro pins s σ H x y v w Q I rx ry h
 obtain ⟨a,C,rfl,rfl,e,kd,he,q⟩:=h
 cases (show v=Value.ref a from rx)
 cases (show w=Value.ref a from ry)
 have hu:=hr.units
 obtain ⟨vs,sl,ge,_⟩:=zbR I.hok e
 exact zi7 (od:=none) I.kIn ⟨ge,rfl,rfl,trivial⟩ kd.cl.ov he (by omega) ⟨.bl _,H,I,rfl,q⟩
theorem ziF {k:Nat}(hr:Room k X.A):OpR X (compareOp .Eq) (fun x y H Q=>∃a b xs,x=.ref a∧y=.ref b∧SqL X.K H a xs∧SqL X.K H b []∧Q (.bl (xs.isEmpty)) H):=by
 intro pins s σ H x y v w Q I rx ry h
 obtain ⟨a,b,xs,rfl,rfl,e,e',q⟩:=h
 cases (show v=Value.ref a from rx)
 cases (show w=Value.ref b from ry)
 have hu:=hr.units
 obtain ⟨its,r1,T1,_⟩:=I.list e
 obtain ⟨jts,r2,T2,_⟩:=I.list e'
 have n1:=r1.length
 have n2:=r2.length
 cases xs with
 | nil=>
  have z1:its=[]:=by cases its with | nil=>rfl | cons=>simp at n1
  have z2:jts=[]:=by cases jts with | nil=>rfl | cons=>simp at n2
  subst z1 z2
  exact (PySem.SeqAt.RcAt.lists (e:=fun _=>true) T1.isList T2.isList rfl (by omega) (fun j h1=>absurd h1 (Nat.not_lt_zero _))) _ _ _ _ ⟨.bl _,H,I,rfl,q⟩
 | cons c xs=>
  have z2:jts=[]:=by cases jts with | nil=>rfl | cons=>simp at n2
  subst z2
  have hsz:(its.toArray.size != (#[]:Array Value).size)=true:=by
   rw [List.size_toArray,bne_iff_ne,←n1,List.length_cons]
   exact Nat.succ_ne_zero _
  exact (PySem.SeqAt.RcAt.lists_lengths T1.isList T2.isList hsz (by omega)) _ _ _ _ ⟨.bl _,H,I,rfl,q⟩
end
end L2
namespace L2
open PySem PySem.Spec PyProof.Rows Px
structure MkrX (P:Program)(w:World)(K:PySem.W.Frag)(mg:Str→Option Value)(base:Heap)(x:Str)(C:Addr)(k:Nat)(ps:List Str)(sp:Sp):Prop where
 ex:∃f fd,FnOk P w K mg base (CX1 P w) k f fd ps sp∧Binds K fd ps []∧Mk K C f∧mg x=some (.ref C)
section
variable {P:Program}{w:World}{K:PySem.W.Frag}{mg:Str→Option Value}{base:Heap}{x qual:Str}{C:Addr}{st:Stmt}{ps N:List Str}{sp:Sp}{k:Nat}
theorem Mkd.okX (D:Mkd K mg x C qual st ps)(S:zu N ps (zd st))(len:∀vs H Q E,sp vs H Q E→vs.length=ps.length)
  (hbody:∀(f:Addr) (cdv:Value) (A:Around) (outer:List Env) (s:Shared) (H:Hp) (vs:List V) (Q:VK) (E:XK),Room k (A.deeper (envOfC qual (zd st) s.heap.objs.size f cdv))→sp vs H Q E→
   ∃t,PSs (cxOf (CX1 P w) P w K mg base N qual (zd st) f cdv A outer s H E) (zo st) t∧t {nx:=fun _ H'=>Q .non H',rt:=Q} (start N vs) H):MkrX P w K mg base x C (k+1) ps sp:=by
 obtain ⟨f,fd,F,b,mk,mm⟩:=D.ex
 exact ⟨f,fd,F.okX S len (fun cdv A outer s H vs Q E hr h=>hbody f cdv A outer s H vs Q E hr h),b,mk,mm⟩
end
def zmJ (C:Addr)(sp:Sp)(E:St→XK)(t:TA):TE:=fun σ H Q=>t σ H fun vs H1=>∀x dx,H1 x=none→H1 dx=none→dx≠x→
 sp (.ref x::vs) (upd (upd H1 dx (.own x)) x (.ins C dx [])) (fun v H2=>v=.non∧Q (.ref x) H2) (E σ)
section
variable {X:Cx}{CX:CXT}{x:Str}{C f:Addr}{fd:FuncData}{ps:List Str}{sp:Sp}{k k':Nat}{e:Expr}{es:List Expr}{t:TA}{p pos:Pos}{E:XK}{ES:St→XK}
end
section
variable {X:Cx}{K:PySem.W.Frag}{o e:Expr}{es:List Expr}{to:TE}{t:TA}{name:Str}{apos cpos:Pos}{T id:String}{r:V→List V→Hp→VK→Prop}
end
end L2
namespace Px
open PySem PySem.W PySem.Builtin
open PySem.AutoSeq1 (wpAny_loadPart')
def zmF (s:Shared)(a c:Int)(n:Nat):Result→Shared→Prop:=fun q s'=>∃h' tk acc c',q=.ok (.ret (.ref s.heap.objs.size))∧s'={s with heap:=h',toks:=tk}∧(∀b o,s.heap.get? b=some o→h'.get? b=some o)∧h'.get? s.heap.objs.size=some {cls:=.type "list",dict:=none,data:=.seq acc c',slots:= #[]}∧ItemsOf (fun i v=>∃t,v=.int (a+i * c) t) acc n
section
variable {prog:Program}{w:World}{A:Around}{E:Value→Shared→Prop}{s:Shared}
end
end Px
namespace L2
open PySem PySem.Spec PyProof.Rows Px
section
variable {X:Cx}{e:Expr}{ta:TA}{p1 p2 q1 q2:Pos}
end
end L2
namespace L2
open PySem PySem.Spec PyProof.Rows
section
variable {X:Cx}
end
end L2
namespace L2
open PySem PySem.Spec PyProof.Rows
section
variable {X:Cx}
end
end L2
namespace Pv
open PySem L2
open Tr
abbrev zbQ:Stmt:=top 52
theorem zck:zu ["pairs","key","worth","k"] ["pairs","key","worth"] (zd zbQ):=⟨rfl,rfl,rfl,by decide+kernel,rfl,by decide+kernel,by decide+kernel⟩
abbrev zaK (p:Th ×Th):Th:=.tup [p.1,p.2]
theorem zgx {t u:TS}{D:L2.Ends}{σ:L2.St}{H:Hp}(Pq:L2.St→Hp→Prop)(a:∀N:L2.St→Hp→Prop,(∀σ H,Pq σ H→N σ H)→t {D with nx:=N} σ H)(rest:∀σ H,Pq σ H→u D σ H):tSeq t u D σ H:=a (u D) rest
theorem zah {H:Hp}{p:Th ×Th}{v:V}(rep:Rep H (zaK p) v):∃a vk vw,v=.ref a∧H a=some (.tup [vk,vw])∧Rep H p.1 vk∧Rep H p.2 vw:=by
 obtain ⟨a,xs,e,ea,r1⟩:=rep.list
 cases r1 with
 | cons h1 r2=>
 cases r2 with
 | cons h2 r3=>
 cases r3 with
 | nil=>exact ⟨a,_,_,e,ea,h1,h2⟩
theorem zlG {ps:List (Th ×Th)}{x w:Th}{i:Nat}{p:Th ×Th}(hs:Srt ps)(ht:∀p∈ps.take i,ze p.1 x=true)(e:ps[i]? =some p)(hp:p.1=x):insP ps x w=ps.take i++ [(x,w)]++ps.drop (i+1):=by
 have hi:i < ps.length:=(List.getElem?_eq_some_iff.mp e).1
 have e1:ps=ps.take i++(x,p.2)::ps.drop (i+1):=by
  conv=>lhs;rw [←List.take_append_drop i ps]
  rw [List.drop_eq_getElem_cons hi]
  rw [List.getElem?_eq_getElem hi] at e
  cases e
  rw [←hp]
 have hs':=hs
 rw [e1] at hs'
 have h4:=(List.pairwise_cons.mp (List.pairwise_append.mp hs').2.1).1
 have:=zeH (w:=p.2) (w':=w) ht h4
 rw [←e1] at this
 rw [this];simp
theorem zlF {ps:List (Th ×Th)}{x w:Th}{i:Nat}{p:Th ×Th}(hs:Srt ps)(ht:∀p∈ps.take i,ze p.1 x=true)(e:ps[i]? =some p)(hp:ze x p.1=true):insP ps x w=ps.take i++ [(x,w)]++ps.drop i:=by
 have hi:i < ps.length:=(List.getElem?_eq_some_iff.mp e).1
 have hd:∀q∈ps.drop i,ze x q.1=true:=fun q hq=>by
  have hs':Srt (ps.drop i):=List.Pairwise.drop hs
  rw [List.drop_eq_getElem_cons hi] at hq hs'
  rw [List.getElem?_eq_getElem hi] at e
  cases e
  rcases List.mem_cons.mp hq with rfl | hq
  ·exact hp
  ·exact z5 hp ((List.pairwise_cons.mp hs').1 q hq)
 have:=zdE (A:=ps.take i) (M:=[]) (B:=ps.drop i) (w:=w) ht hd
 rw [List.append_nil,List.take_append_drop] at this
 rw [this];rfl
theorem zki {ps:List (Th ×Th)}{x w:Th}(ht:∀p∈ps,ze p.1 x=true):insP ps x w=ps++ [(x,w)]:=by
 have:=zdE (A:=ps) (M:=[]) (B:=[]) (w:=w) ht (fun p h=>(nomatch h))
 rw [List.append_nil,List.append_nil] at this
 rw [this];simp;rfl
theorem RepL.app {H:Hp}:∀{ts us:List Th} {vs ws:List V},RepL H ts vs→RepL H us ws→RepL H (ts++us) (vs++ws)
 | _,_,_,_,.nil,r=>r
 | _,_,_,_,.cons h q,r=>.cons h (RepL.app q r)
structure PL (H:Hp)(pl:Addr)(ps:List (Th ×Th)):Prop where
 ex:∃xs,H pl=some (.lst xs)∧RepL H (ps.map zaK) xs
theorem PL.same {H H':Hp}{pl:Addr}{ps:List (Th ×Th)}(p:PL H pl ps)(s:Same H H'):PL H' pl ps:=by
 obtain ⟨xs,e,r⟩:=p.ex
 exact ⟨xs,s _ _ e,r.keep (Same.tups s)⟩
theorem PL.fr {H H':Hp}{pl C a d:Addr}{cs:List (Int ×Th)}{ps:List (Th ×Th)}(p:PL H pl ps)(v:VS H C a d cs)(f:Fr1 d H H'):PL H' pl ps:=by
 obtain ⟨xs,e,r⟩:=p.ex
 exact ⟨xs,v.lst f e,r.keep (v.tups f)⟩
def zdT (ps:List (Th ×Th)):Prop:=∀p∈ps,KeyT p.1∧KeyT p.2
def zg2:Sp:=fun vs H Q _=>∃(pl:Addr) (ps:List (Th ×Th)) (x w:Th) (vx vw:V),vs=[.ref pl,vx,vw]∧PL H pl ps∧Srt ps∧zdT ps∧ps.length≤300∧Rep H x vx∧KeyT x∧Rep H w vw∧∀p H',Same H H'→H p=none→PL H' p (insP ps x w)→Q (.ref p) H'
section
variable {P:Program}{w:World}{K:PySem.W.Frag}{mg:Str→Option Value}{base:Heap}{C CC:Addr}
theorem ziE (D:Dfn K mg "_law_put_in" zbQ ["pairs","key","worth"]) (F_law_ahead:Fn P w K mg base "_law_ahead" 11 ["one","other"] (zfR 9)) (m_range:mg "range" =none) (m_len:mg "len" =none):Fn P w K mg base "_law_put_in" 12 ["pairs","key","worth"] zg2:=by
 refine D.ok (k:=11) zck (fun vs H Q E h=>?_) (fun f cdv A outer s H vs Q E hr h=>?_)
 ·obtain ⟨pl,ps,x,w,vx,vw,rfl,_⟩:=h;rfl
 obtain ⟨pl,ps,x,w,vx,vw,rfl,⟨xs,el,rl⟩,hs,kp,h300,rx,kx,rw0,q⟩:=h
 have hxl:xs.length=ps.length:=by rw [rl.len,List.length_map]
 refine ⟨_,(zb (zak PassesOwn.never rfl (za5 rfl m_range (za (zF (zJ) (by rfl) m_len (by rfl) (za (pv 0) zc)) zc)) (zN (i:=3) zck.nd rfl (Or.inl rfl))
 (zb (zP (zH (zcQ hr) (zr zx (zr zI (pv 0) (pv 3) (fun _ _=>rfl)) zf (fun _ _=>rfl)) (pv 1) (zD _))
 (zg (zq (zy zcv (zy zcv (zao zaQ (pv 0) zaG (zan (pv 3))) (zaa (za (zV (za (pv 1) (za (pv 2) zc))) zc))) (zao zaQ (pv 0) (zan (zy zac (pv 3) zf)) zaG))))
 zC)
 (zg (zP (z6 (zA F_law_ahead hr (by omega) (by rfl) (za (pv 1) (za (zr zx (zr zI (pv 0) (pv 3) (fun _ _=>rfl)) zf (fun _ _=>rfl)) zc))))
 (zg (zq (zy zcv (zy zcv (zao zaQ (pv 0) zaG (zan (pv 3))) (zaa (za (zV (za (pv 1) (za (pv 2) zc))) zc))) (zao zaQ (pv 0) (zan (pv 3)) zaG))))
 zC))))
 (zg (zq (zy zcv (pv 0) (zaa (za (zV (za (pv 1) (za (pv 2) zc))) zc)))))),?_⟩
 refine ⟨_,rfl,pl,_,rfl,.inl (SqL.of el),_,rfl,by omega,by omega,?_⟩
 rw [Int.toNat_natCast]
 refine zaV (n:=xs.length) (fun i σ H'=>∃k3,σ=[some (.ref pl),some vx,some vw,k3]∧Same H H'∧∀p∈ps.take i,ze p.1 x=true) ⟨_,rfl,Same.refl H,fun p h=>by rw [List.take_zero] at h;cases h⟩ ?_ ?_
 ·rintro i σ H1 hi ⟨k3,rfl,s1,ht⟩
  rw [Int.zero_add]
  have hip:i < ps.length:=by omega
  have ep:ps[i]? =some ps[i]:=List.getElem?_eq_getElem hip
  have ev:xs[i]? =some xs[i]:=List.getElem?_eq_getElem hi
  have r1:Rep H1 (zaK ps[i]) xs[i]:=(rl.at i _ _ ev (by rw [List.getElem?_map,ep];rfl)).keep (Same.tups s1)
  obtain ⟨a,vk,vw',exi,ea,rk,_⟩:=zah r1
  have kk:=(kp _ (List.getElem_mem hip)).1
  have kd:=kk.dp
  have kxd:=kx.dp
  have el1:=s1 _ _ el
  have ix:atI xs ((i:Nat):Int)=some (.ref a):=by rw [zaH ev,exi]
  refine ⟨_,rfl,_,rfl,pl,_,_,_,rfl,rfl,SqL.of el1,ix,a,_,_,_,rfl,rfl,SqT.of ea,rfl,_,rfl,ps[i].1,x,rk,rx.keep (Same.tups s1),by omega,_,rfl,?_⟩
  have fin:∀(j:Nat) (H2:Hp) (s2:Same H H2),j≤ps.length→insP ps x w=ps.take i++ [(x,w)]++ps.drop j→∀p1,H2 p1=none→∀pt,upd H2 p1 (.lst (xs.take i)) pt=none→∀p2,upd (upd H2 p1 (.lst (xs.take i))) pt (.tup [vx,vw]) p2=none→∀p3,upd (upd (upd H2 p1 (.lst (xs.take i))) pt (.tup [vx,vw])) p2 (.lst [.ref pt]) p3=none→∀p4,upd (upd (upd (upd H2 p1 (.lst (xs.take i))) pt (.tup [vx,vw])) p2 (.lst [.ref pt])) p3 (.lst (xs.take i++ [.ref pt])) p4=none→∀p5,upd (upd (upd (upd (upd H2 p1 (.lst (xs.take i))) pt (.tup [vx,vw])) p2 (.lst [.ref pt])) p3 (.lst (xs.take i++ [.ref pt]))) p4 (.lst (xs.drop j)) p5=none→
    Q (.ref p5) (upd (upd (upd (upd (upd (upd H2 p1 (.lst (xs.take i))) pt (.tup [vx,vw])) p2 (.lst [.ref pt])) p3 (.lst (xs.take i++ [.ref pt]))) p4 (.lst (xs.drop j))) p5 (.lst (xs.take i++ [.ref pt]++xs.drop j))):=fun j H2 s2 hj hins p1 h1 pt h2 p2 h3 p3 h4 p4 h5 p5 h6=>by
   have a1:=zj (o:=.lst (xs.take i)) s2 h1
   generalize upd H2 p1 (.lst (xs.take i))=G1 at *
   have rp:=(RepL.cons (rx.keep (Same.tups a1)) (.cons (rw0.keep (Same.tups a1)) .nil)).new h2
   have a2:=zj (o:=.tup [vx,vw]) a1 h2
   generalize upd G1 pt (.tup [vx,vw])=G2 at *
   have b3:=zj (o:=.lst [.ref pt]) (Same.refl G2) h3
   generalize upd G2 p2 (.lst [.ref pt])=G3 at *
   have b4:=zj (o:=.lst (xs.take i++ [.ref pt])) b3 h4
   generalize upd G3 p3 (.lst (xs.take i++ [.ref pt]))=G4 at *
   have b5:=zj (o:=.lst (xs.drop j)) b4 h5
   generalize upd G4 p4 (.lst (xs.drop j))=G5 at *
   have b6:=zj (o:=.lst (xs.take i++ [.ref pt]++xs.drop j)) b5 h6
   have a6:Same H (upd G5 p5 (.lst (xs.take i++ [.ref pt]++xs.drop j))):=fun b o e=>b6 b o (a2 b o e)
   have h0:H p5=none:=by
    cases z:H p5 with
    | none=>rfl
    | some o=>rw [b5 _ _ (a2 _ _ z)] at h6;cases h6
   refine q p5 _ a6 h0 ⟨_,zh,?_⟩
   rw [hins,List.map_append,List.map_append,List.map_take,List.map_drop]
   have ra:=rl.keep (Same.tups a6)
   exact RepL.app (RepL.app (ra.take i) (.cons (rp.keep (Same.tups b6)) .nil)) (ra.drop j)
  cases z:eqT ps[i].1 x with
  | true=>
   have ek:ps[i].1=x:=(zab _ _).mp z
   have hins:=zlG (w:=w) hs ht ep ek
   refine ifT rfl ?_
   refine ⟨_,rfl,_,rfl,_,rfl,pl,_,rfl,SqL.of el1,fun p1 h1=>?_⟩
   rw [zgD (show i≤xs.length by omega)]
   refine ⟨_,rfl,_,rfl,szl (show 2≤1000 by decide),fun pt h2=>⟨szl (show 1≤1000 by decide),fun p2 h3=>?_⟩⟩
   refine ⟨p1,p2,_,_,rfl,rfl,zj (zj (Same.refl _) h2) h3 p1 _ zh,zh,szl (by rw [List.length_take];show _+1≤1000;omega),fun p3 h4=>?_⟩
   refine ⟨_,rfl,_,rfl,_,_,rfl,rfl,_,rfl,pl,_,rfl,SqL.of (zj (zj (zj (zj (Same.refl H1) h1) h2) h3) h4 _ _ el1),fun p4 h5=>?_⟩
   rw [show ((i:Nat):Int)+1=((i+1:Nat):Int) from rfl,zdF (show i+1≤xs.length by omega)] at *
   exact ⟨p3,p4,_,_,rfl,rfl,zj (Same.refl _) h5 p3 _ zh,zh,szl (by rw [List.length_append,List.length_take,List.length_drop];show _+1+_≤1000;omega),fun p5 h6=>fin (i+1) H1 s1 (by omega) hins p1 h1 pt h2 p2 h3 p3 h4 p4 h5 p5 h6⟩
  | false=>
   have ek:ps[i].1≠x:=fun e=>by rw [e,zY] at z;cases z
   refine ifF rfl ?_
   refine ⟨_,rfl,_,rfl,_,rfl,pl,_,_,_,rfl,rfl,SqL.of el1,ix,a,_,_,_,rfl,rfl,SqT.of ea,rfl,x,ps[i].1,_,_,rfl,rx.keep (Same.tups s1),rk,by omega,by omega,kx.wf,kk.wf,fun H2 s2=>⟨_,rfl,?_⟩⟩
   have s02:Same H H2:=fun b o e=>s2 b o (s1 b o e)
   have el2:=s2 _ _ el1
   cases y:ze x ps[i].1 with
   | true=>
    have hins:=zlF (w:=w) hs ht ep y
    refine ifT rfl ?_
    refine ⟨_,rfl,_,rfl,_,rfl,pl,_,rfl,SqL.of el2,fun p1 h1=>?_⟩
    rw [zgD (show i≤xs.length by omega)]
    refine ⟨_,rfl,_,rfl,szl (show 2≤1000 by decide),fun pt h2=>⟨szl (show 1≤1000 by decide),fun p2 h3=>?_⟩⟩
    refine ⟨p1,p2,_,_,rfl,rfl,zj (zj (Same.refl _) h2) h3 p1 _ zh,zh,szl (by rw [List.length_take];show _+1≤1000;omega),fun p3 h4=>?_⟩
    refine ⟨_,rfl,_,rfl,_,rfl,pl,_,rfl,SqL.of (zj (zj (zj (zj (Same.refl H2) h1) h2) h3) h4 _ _ el2),fun p4 h5=>?_⟩
    rw [zdF (show i≤xs.length by omega)] at *
    exact ⟨p3,p4,_,_,rfl,rfl,zj (Same.refl _) h5 p3 _ zh,zh,szl (by rw [List.length_append,List.length_take,List.length_drop];show _+1+_≤1000;omega),fun p5 h6=>fin i H2 s02 (by omega) hins p1 h1 pt h2 p2 h3 p3 h4 p4 h5 p5 h6⟩
   | false=>
    refine ifF rfl ⟨_,rfl,s02,fun p hp=>?_⟩
    rw [List.take_add_one,ep] at hp
    rcases List.mem_append.mp hp with hp | hp
    ·exact ht p hp
    ·have:p=ps[i]:=by simpa using hp
     rw [this]
     exact za8 y (Ne.symm ek)
 ·rintro σ H1 ⟨k3,rfl,s1,ht⟩
  have ht':∀p∈ps,ze p.1 x=true:=fun p hp=>ht p (by rw [hxl,List.take_length];exact hp)
  refine ⟨_,rfl,_,rfl,_,rfl,szl (show 2≤1000 by decide),fun pt h2=>⟨szl (show 1≤1000 by decide),fun p2 h3=>?_⟩⟩
  have rp:=(RepL.cons (rx.keep (Same.tups s1)) (.cons (rw0.keep (Same.tups s1)) .nil)).new h2
  have a2:=zj (o:=.tup [vx,vw]) s1 h2
  generalize upd H1 pt (.tup [vx,vw])=G2 at *
  have b3:=zj (o:=.lst [.ref pt]) (Same.refl G2) h3
  have e2:upd G2 p2 (.lst [.ref pt]) p2=some (.lst [.ref pt]):=zh
  generalize upd G2 p2 (.lst [.ref pt])=G3 at *
  have a3:Same H G3:=fun b o e=>b3 b o (a2 b o e)
  refine ⟨pl,p2,_,_,rfl,rfl,a3 _ _ el,e2,szl (by show _+1≤1000;omega),fun p3 h4=>?_⟩
  have a4:=zj (o:=.lst (xs++ [.ref pt])) a3 h4
  have h0:H p3=none:=by
   cases z:H p3 with
   | none=>rfl
   | some o=>rw [a3 _ _ z] at h4;cases h4
  refine q p3 _ a4 h0 ⟨_,zh,?_⟩
  rw [zki ht',List.map_append]
  exact RepL.app (rl.keep (Same.tups a4)) (.cons ((rp.keep (Same.tups b3)).keep (Same.tups (zj (Same.refl G3) h4))) .nil)
end
end Pv
namespace Pv
open PySem L2
open Tr
def inR (a b:Th)(p:Th ×Th):Bool:=(decide (a=.non) || !ze p.1 a) && (decide (b=.non) || ze p.1 b)
def rng (a b:Th)(ps:List (Th ×Th)):List (Th ×Th):=ps.filter (inR a b)
def zmN (a b:Th):Bool:= !decide (a=.non) && (!decide (b=.non) && !ze a b)
def zm3 (a k:Th):Bool:=decide (a=.non) || ze a k
def znc (b k:Th):Bool:=decide (b=.non) || ze k b
def pend (a b:Th):List Tr→List (Th ×Th)
 | []=>[]
 | nil::st=>pend a b st
 | node _ k w r::st=>rng a b ((k,w)::r.ps)++pend a b st
def zkF:List Tr→Nat
 | []=>0
 | nil::st=>zkF st
 | node _ _ _ r::st=>1+2 * r.cnt+zkF st
def Tr.ca (x:Th):Tr→Nat
 | nil=>0
 | node l k _ r=>if k=x then l.cnt else if ze k x=true then l.cnt+1+r.ca x else l.ca x
end Pv
namespace Pv
open PySem L2
open Tr
theorem zhv (t:Th):zM t t=false:=by
 unfold zM
 rw [if_pos rfl]
 exact zB t
theorem zdp {t u:Th}(h:t≠u):zM u t= !zM t u:=by
 unfold zM
 by_cases e:zS t=zS u
 ·rw [if_pos e,if_pos e.symm]
  cases h1:ze t u with
  | true=>rw [zW h1];rfl
  | false=>rw [za8 h1 h];rfl
 ·rw [if_neg e,if_neg (fun z=>e z.symm)]
  rcases Int.lt_or_gt_of_ne e with z | z
  ·rw [decide_eq_true z,decide_eq_false (by omega)];rfl
  ·rw [decide_eq_false (show¬zS t < zS u by omega),decide_eq_true (show zS u < zS t by omega)];rfl
theorem zik {t u:Th}(h:zM t u=true):zM u t=false:=by
 by_cases e:t=u
 ·rw [e,zhv] at h;cases h
 ·rw [zdp e,h];rfl
theorem zfD {t u:Th}(h:zM t u=false)(n:t≠u):zM u t=true:=by rw [zdp n,h];rfl
theorem zb3 {a b c:Th}(h1:zM a b=true)(h2:zM b c=true):zM a c=true:=by
 unfold zM at *
 by_cases e1:zS a=zS b
 ·rw [if_pos e1] at h1
  by_cases e2:zS b=zS c
  ·rw [if_pos e2] at h2
   rw [if_pos (e1.trans e2)]
   exact z5 h1 h2
  ·rw [if_neg e2] at h2
   rw [if_neg (by rw [e1];exact e2),e1]
   exact h2
 ·rw [if_neg e1] at h1
  have h1':=of_decide_eq_true h1
  by_cases e2:zS b=zS c
  ·rw [if_neg (by rw [←e2];exact e1),←e2]
   exact h1
  ·rw [if_neg e2] at h2
   have h2':=of_decide_eq_true h2
   rw [if_neg (by omega)]
   exact decide_eq_true (by omega)
def Abv:Tr→Prop
 | nil=>True
 | node l k _ r=>(∀p∈l.ps,zM k p.1=true)∧(∀p∈r.ps,zM k p.1=true)∧Abv l∧Abv r
theorem zE {l r:Tr}{k w:Th}{p:Th ×Th}:p∈(node l k w r).ps↔p∈l.ps∨p=(k,w)∨p∈r.ps:=by
 show p∈l.ps++(k,w)::r.ps↔_
 rw [List.mem_append,List.mem_cons]
theorem Abv.top {l r:Tr}{k w:Th}(h:Abv (node l k w r)){p:Th ×Th}(hp:p∈(node l k w r).ps):p.1=k∨zM k p.1=true:=by
 rcases zE.mp hp with hp | hp | hp
 ·exact .inr (h.1 p hp)
 ·rw [hp];exact .inl rfl
 ·exact .inr (h.2.1 p hp)
theorem zj2 {l l' r r':List (Th ×Th)}{k w w':Th}(s:Srt (l++(k,w)::r))(e:l++(k,w)::r=l'++(k,w')::r'):l=l'∧w=w'∧r=r':=by
 induction l generalizing l' with
 | nil=>
  cases l' with
  | nil=>simp at e;exact ⟨rfl,e.1,e.2⟩
  | cons q l'=>
   simp at e
   obtain ⟨e1,e2⟩:=e
   have hs:=(List.pairwise_cons.mp s).1 (k,w') (by rw [e2];simp)
   rw [zB] at hs;cases hs
 | cons p l ih=>
  cases l' with
  | nil=>
   simp at e
   obtain ⟨e1,e2⟩:=e
   have s':Srt (p::(l++(k,w)::r)):=s
   have hs:=(List.pairwise_cons.mp s').1 (k,w) (by simp)
   rw [e1] at hs
   rw [zB] at hs;cases hs
  | cons q l'=>
   simp at e
   obtain ⟨e1,e2⟩:=e
   have s':Srt (p::(l++(k,w)::r)):=s
   obtain ⟨a,b,c⟩:=ih (List.pairwise_cons.mp s').2 e2
   exact ⟨by rw [e1,a],b,c⟩
theorem zby:∀{T U:Tr},Srt T.ps→Abv T→Abv U→T.ps=U.ps→T=U
 | nil,nil,_,_,_,_=>rfl
 | nil,node l k w r,_,_,_,e=>by
  have:=congrArg List.length e
  rw [show (node l k w r).ps.length=(node l k w r).cnt from rfl,zL] at this
  exact absurd this (by show¬0=_;omega)
 | node l k w r,nil,_,_,_,e=>by
  have:=congrArg List.length e
  rw [show (node l k w r).ps.length=(node l k w r).cnt from rfl,zL] at this
  exact absurd this (by show¬_=0;omega)
 | node l k w r,node l' k' w' r',s,a,a',e=>by
  have hk:k=k':=by
   have m1:(k',w')∈(node l k w r).ps:=by rw [e];exact zE.mpr (.inr (.inl rfl))
   have m2:(k,w)∈(node l' k' w' r').ps:=by rw [←e];exact zE.mpr (.inr (.inl rfl))
   rcases a.top m1 with h | h
   ·exact h.symm
   ·rcases a'.top m2 with h' | h'
    ·exact h'
    ·rw [zik h] at h';cases h'
  subst hk
  have e':l.ps++(k,w)::r.ps=l'.ps++(k,w')::r'.ps:=e
  obtain ⟨e1,e2,e3⟩:=zj2 s e'
  obtain ⟨s1,s2,_,_⟩:=zaC s
  rw [zby s1 a.2.2.1 a'.2.2.1 e1,zby s2 a.2.2.2 a'.2.2.2 e3,e2]
theorem Abv.kid {x:Th}{T:Tr}(h:Abv T):Abv (T.kid x):=by
 cases T with
 | nil=>exact trivial
 | node l k w r=>
  show Abv (if ze k x=true then r else l)
  split
  ·exact h.2.2.2
  ·exact h.2.2.1
theorem Abv.down {x:Th}:∀{n:Nat} {T:Tr},Abv T→Abv (down x n T)
 | 0,_,h=>h
 | n+1,_,h=>Abv.down (n:=n) h.kid
theorem zaA {x:Th}:∀{n:Nat} {T:Tr} {p:Th ×Th},(p∈(spl x n T).1.ps∨p∈(spl x n T).2.ps)→p∈T.ps
 | 0,T,p,h=>by
  rcases h with h | h
  ·exact h
  ·cases h
 | n+1,nil,p,h=>by rcases h with h | h <;> cases h
 | n+1,node l k w r,p,h=>by
  have h':p∈(if ze k x=true then (node l k w (spl x n r).1,(spl x n r).2) else ((spl x n l).1,node (spl x n l).2 k w r)).1.ps∨p∈(if ze k x=true then (node l k w (spl x n r).1,(spl x n r).2) else ((spl x n l).1,node (spl x n l).2 k w r)).2.ps:=h
  by_cases c:ze k x=true
  ·rw [if_pos c] at h'
   rcases h' with h' | h'
   ·rcases zE.mp h' with h' | h' | h'
    ·exact zE.mpr (.inl h')
    ·exact zE.mpr (.inr (.inl h'))
    ·exact zE.mpr (.inr (.inr (zaA (.inl h'))))
   ·exact zE.mpr (.inr (.inr (zaA (.inr h'))))
  ·rw [if_neg c] at h'
   rcases h' with h' | h'
   ·exact zE.mpr (.inl (zaA (.inl h')))
   ·rcases zE.mp h' with h' | h' | h'
    ·exact zE.mpr (.inl (zaA (.inr h')))
    ·exact zE.mpr (.inr (.inl h'))
    ·exact zE.mpr (.inr (.inr h'))
theorem Abv.spl {x:Th}:∀{n:Nat} {T:Tr},Abv T→Abv (Tr.spl x n T).1∧Abv (Tr.spl x n T).2
 | 0,T,h=>⟨h,trivial⟩
 | n+1,nil,_=>⟨trivial,trivial⟩
 | n+1,node l k w r,h=>by
  show Abv (if ze k x=true then (node l k w (Tr.spl x n r).1,(Tr.spl x n r).2) else ((Tr.spl x n l).1,node (Tr.spl x n l).2 k w r)).1∧Abv (if ze k x=true then (node l k w (Tr.spl x n r).1,(Tr.spl x n r).2) else ((Tr.spl x n l).1,node (Tr.spl x n l).2 k w r)).2
  by_cases c:ze k x=true
  ·rw [if_pos c]
   obtain ⟨i1,i2⟩:=Abv.spl (x:=x) (n:=n) h.2.2.2
   exact ⟨⟨h.1,fun p hp=>h.2.1 p (zaA (.inl hp)),h.2.2.1,i1⟩,i2⟩
  ·rw [if_neg c]
   obtain ⟨i1,i2⟩:=Abv.spl (x:=x) (n:=n) h.2.2.1
   exact ⟨i1,⟨fun p hp=>h.1 p (zaA (.inr hp)),h.2.1,i2,h.2.2.2⟩⟩
def Over (x:Th):Nat→Tr→Tr→Prop
 | 0,_,_=>True
 | _+1,nil,_=>True
 | n+1,node l k _ r,S=>(∀p∈S.ps,zM k p.1=true)∧Over x n (if ze k x=true then r else l) S
theorem zcS {x:Th}:∀{n:Nat} {T S:Tr} {p:Th ×Th},p∈(plug x n T S).ps→p∈T.ps∨p∈S.ps
 | 0,_,_,_,h=>.inr h
 | n+1,nil,_,_,h=>by cases h
 | n+1,node l k w r,S,p,h=>by
  have h':p∈(if ze k x=true then node l k w (plug x n r S) else node (plug x n l S) k w r).ps:=h
  by_cases c:ze k x=true
  ·rw [if_pos c] at h'
   rcases zE.mp h' with h' | h' | h'
   ·exact .inl (zE.mpr (.inl h'))
   ·exact .inl (zE.mpr (.inr (.inl h')))
   ·rcases zcS h' with h' | h'
    ·exact .inl (zE.mpr (.inr (.inr h')))
    ·exact .inr h'
  ·rw [if_neg c] at h'
   rcases zE.mp h' with h' | h' | h'
   ·rcases zcS h' with h' | h'
    ·exact .inl (zE.mpr (.inl h'))
    ·exact .inr h'
   ·exact .inl (zE.mpr (.inr (.inl h')))
   ·exact .inl (zE.mpr (.inr (.inr h')))
theorem Abv.plug {x:Th}:∀{n:Nat} {T S:Tr},Abv T→Abv S→Over x n T S→Abv (Tr.plug x n T S)
 | 0,_,_,_,h,_=>h
 | n+1,nil,_,_,_,_=>trivial
 | n+1,node l k w r,S,h,hS,ho=>by
  show Abv (if ze k x=true then node l k w (Tr.plug x n r S) else node (Tr.plug x n l S) k w r)
  obtain ⟨o1,o2⟩:=ho
  by_cases c:ze k x=true
  ·rw [if_pos c] at o2 ⊢
   refine ⟨h.1,fun p hp=>?_,h.2.2.1,Abv.plug h.2.2.2 hS o2⟩
   rcases zcS hp with hp | hp
   ·exact h.2.1 p hp
   ·exact o1 p hp
  ·rw [if_neg c] at o2 ⊢
   refine ⟨fun p hp=>?_,h.2.1,Abv.plug h.2.2.1 hS o2,h.2.2.2⟩
   rcases zcS hp with hp | hp
   ·exact h.1 p hp
   ·exact o1 p hp
theorem zcd {x:Th}:∀{n:Nat} {T S:Tr},Abv T→(∀m,m < n→down x m T≠nil)→(∀p∈S.ps,∃q∈(down x n T).ps,q.1=p.1)→Over x n T S
 | 0,_,_,_,_,_=>trivial
 | n+1,nil,_,_,_,_=>trivial
 | n+1,node l k w r,S,h,hn,hS=>by
  have hn':∀m,m < n→down x m (if ze k x=true then r else l)≠nil:=fun m hm=>hn (m+1) (Nat.succ_lt_succ hm)
  have hS':∀p∈S.ps,∃q∈(down x n (if ze k x=true then r else l)).ps,q.1=p.1:=hS
  refine ⟨fun p hp=>?_,zcd (T:=if ze k x=true then r else l) ?_ hn' hS'⟩
  ·obtain ⟨q,hq,e⟩:=hS' p hp
   rw [←e]
   by_cases c:ze k x=true
   ·rw [if_pos c] at hq;exact h.2.1 q (down_in hq)
   ·rw [if_neg c] at hq;exact h.1 q (down_in hq)
  ·split
   ·exact h.2.2.2
   ·exact h.2.2.1
where
 down_in {x:Th}:∀{n:Nat} {T:Tr} {p:Th ×Th},p∈(down x n T).ps→p∈T.ps
 | 0,_,_,h=>h
 | n+1,nil,_,h=>down_in (n:=n) (T:=nil) h
 | n+1,node l k w r,_,h=>by
  have h':=down_in (n:=n) (T:=if ze k x=true then r else l) h
  by_cases c:ze k x=true
  ·rw [if_pos c] at h';exact zE.mpr (.inr (.inr h'))
  ·rw [if_neg c] at h';exact zE.mpr (.inl h')
theorem zfA {x w:Th}:∀{n:Nat} {T:Tr} {S:Tr},Abv T→Up x n T→(∀m l k v r,m < n→down x m T=node l k v r→zM k x=true)→(∀p∈S.ps,p.1=x∨∃q∈(down x n T).ps,q.1=p.1)→Over x n T S
 | 0,_,_,_,_,_,_=>trivial
 | n+1,nil,_,_,h,_,_=>h.elim
 | n+1,node l k v r,S,h,hu,ha,hS=>by
  have hS':∀p∈S.ps,p.1=x∨∃q∈(down x n (if ze k x=true then r else l)).ps,q.1=p.1:=hS
  refine ⟨fun p hp=>?_,zfA (w:=w) (T:=if ze k x=true then r else l) ?_ hu.2 (fun m l' k' v' r' hm e=>ha (m+1) l' k' v' r' (Nat.succ_lt_succ hm) e) hS'⟩
  ·rcases hS' p hp with e | ⟨q,hq,e⟩
   ·rw [e];exact ha 0 l k v r (Nat.zero_lt_succ _) rfl
   ·rw [←e]
    by_cases c:ze k x=true
    ·rw [if_pos c] at hq;exact h.2.1 q (zcd.down_in hq)
    ·rw [if_neg c] at hq;exact h.1 q (zcd.down_in hq)
  ·split
   ·exact h.2.2.2
   ·exact h.2.2.1
theorem zc3 {x:Th}:∀{T:Tr} {m:Nat} {l r:Tr} {k v:Th},m < plc x T→down x m T=node l k v r→zM x k=false
 | nil,m,_,_,_,_,h,_=>absurd h (Nat.not_lt_zero m)
 | node l' k' v' r',0,l,r,k,v,h,e=>by
  cases e
  unfold plc at h
  cases z:zM x k' with
  | false=>rfl
  | true=>rw [if_pos z] at h;cases h
 | node l' k' v' r',m+1,l,r,k,v,h,e=>by
  unfold plc at h
  cases z:zM x k' with
  | true=>rw [if_pos z] at h;exact absurd h (Nat.not_lt_zero _)
  | false=>
   rw [if_neg (by rw [z];exact Bool.false_ne_true)] at h
   have e':down x m (if ze k' x=true then r' else l')=node l k v r:=e
   by_cases c:ze k' x=true
   ·rw [if_pos c] at h e';exact zc3 (Nat.lt_of_succ_lt_succ h) e'
   ·rw [if_neg c] at h e';exact zc3 (Nat.lt_of_succ_lt_succ h) e'
theorem zc4 {x:Th}:∀{T l r:Tr} {k v:Th},down x (plc x T) T=node l k v r→zM x k=true
 | nil,_,_,_,_,e=>by
  have:down x 0 nil=node _ _ _ _:=e
  cases this
 | node l' k' v' r',l,r,k,v,e=>by
  unfold plc at e
  cases z:zM x k' with
  | true=>
   rw [if_pos z] at e
   cases e
   exact z
  | false=>
   rw [if_neg (by rw [z];exact Bool.false_ne_true)] at e
   have e':down x (if ze k' x=true then r'.plc x else l'.plc x) (if ze k' x=true then r' else l')=node l k v r:=e
   by_cases c:ze k' x=true
   ·rw [if_pos c,if_pos c] at e';exact zc4 e'
   ·rw [if_neg c,if_neg c] at e';exact zc4 e'
theorem zkV {x:Th}:∀{n:Nat} {T l r:Tr} {k w:Th} {m:Nat},Up x n T→m < n→down x m T=node l k w r→k≠x
 | 0,_,_,_,_,_,m,_,h,_=>absurd h (Nat.not_lt_zero m)
 | n+1,nil,_,_,_,_,_,h,_,_=>h.elim
 | n+1,node l' k' w' r',_,_,_,_,0,h,_,e=>by cases e;exact h.1
 | n+1,node l' k' w' r',_,_,_,_,m+1,h,hm,e=>zkV (T:=if ze k' x=true then r' else l') h.2 (Nat.lt_of_succ_lt_succ hm) e
theorem zcH {x w:Th}{T:Tr}(hs:Srt T.ps)(h:Abv T):Abv (putT x w T):=by
 unfold putT
 cases z:own x T with
 | nil=>
  obtain ⟨u,d⟩:=za7 z
  have hp:=zdX z
  have u':=zdu u hp
  have hd:Abv (down x (plc x T) T):=h.down
  obtain ⟨a1,a2⟩:=Abv.spl (x:=x) (n:=wl x T - plc x T) hd
  have under:∀p∈(down x (plc x T) T).ps,zM x p.1=true:=fun p hp'=>by
   cases e:down x (plc x T) T with
   | nil=>rw [e] at hp';cases hp'
   | node l k v r=>
    have ha:=zc4 e
    rw [e] at hp' hd
    rcases hd.top hp' with y | y
    ·rw [y];exact ha
    ·exact zb3 ha y
  refine Abv.plug h ⟨fun p hp'=>under p (zaA (.inl hp')),fun p hp'=>under p (zaA (.inr hp')),a1,a2⟩ (zfA (w:=w) h u' (fun m l k v r hm e=>zfD (zc3 hm e) (Ne.symm (zkV u' hm e))) fun p hp'=>?_)
  rcases zE.mp hp' with y | y | y
  ·exact .inr ⟨p,zaA (.inl y),rfl⟩
  ·rw [y];exact .inl rfl
  ·exact .inr ⟨p,zaA (.inr y),rfl⟩
 | node l k v r=>
  obtain ⟨rfl,n,ew,u,d⟩:=zaB z
  show Abv (Tr.plug k (wl k T - 1) T (node l k w r))
  rw [ew,Nat.add_sub_cancel]
  have hd:Abv (down k n T):=h.down
  rw [d] at hd
  refine Abv.plug h ⟨hd.1,hd.2.1,hd.2.2.1,hd.2.2.2⟩ (zcd h (up_down u) fun p hp'=>?_)
  rw [d]
  rcases zE.mp hp' with y | y | y
  ·exact ⟨p,zE.mpr (.inl y),rfl⟩
  ·rw [y];exact ⟨(k,v),zE.mpr (.inr (.inl rfl)),rfl⟩
  ·exact ⟨p,zE.mpr (.inr (.inr y)),rfl⟩
def Tr.joinT:Tr→Tr→Tr
 | nil,R=>R
 | node l k w r,nil=>node l k w r
 | node l k w r,node l' k' w' r'=>if zM k k'=true then node l k w (joinT r (node l' k' w' r')) else node (joinT (node l k w r) l') k' w' r'
 termination_by L R=>sizeOf L+sizeOf R
theorem zhs (L:Tr):joinT L nil=L:=by
 cases L with
 | nil=>rw [joinT]
 | node l k w r=>rw [joinT]
theorem zbI:∀(L R:Tr),(joinT L R).ps=L.ps++R.ps
 | nil,R=>by rw [joinT];rfl
 | node l k w r,nil=>by rw [joinT];exact (List.append_nil _).symm
 | node l k w r,node l' k' w' r'=>by
  rw [joinT]
  by_cases c:zM k k'=true
  ·rw [if_pos c]
   show l.ps++(k,w)::(joinT r (node l' k' w' r')).ps=(l.ps++(k,w)::r.ps)++_
   rw [zbI r (node l' k' w' r')]
   simp
  ·rw [if_neg c]
   show (joinT (node l k w r) l').ps++(k',w')::r'.ps=_++(l'.ps++(k',w')::r'.ps)
   rw [zbI (node l k w r) l']
   simp
 termination_by L R=>sizeOf L+sizeOf R
theorem zd0:∀{L R:Tr},Abv L→Abv R→(∀p∈L.ps,∀q∈R.ps,p.1≠q.1)→Abv (joinT L R)
 | nil,R,_,h,_=>by rw [joinT];exact h
 | node l k w r,nil,h,_,_=>by rw [joinT];exact h
 | node l k w r,node l' k' w' r',h,h',hn=>by
  rw [joinT]
  by_cases c:zM k k'=true
  ·rw [if_pos c]
   refine ⟨h.1,fun p hp=>?_,h.2.2.1,zd0 h.2.2.2 h' fun p hp q hq=>hn p (zE.mpr (.inr (.inr hp))) q hq⟩
   rw [zbI] at hp
   rcases List.mem_append.mp hp with hp | hp
   ·exact h.2.1 p hp
   ·rcases h'.top hp with y | y
    ·rw [y];exact c
    ·exact zb3 c y
  ·rw [if_neg c]
   have c':zM k k'=false:=by cases z:zM k k' with | true=>exact absurd z c | false=>rfl
   have ne:k≠k':=hn (k,w) (zE.mpr (.inr (.inl rfl))) (k',w') (zE.mpr (.inr (.inl rfl)))
   have c2:=zfD c' ne
   refine ⟨fun p hp=>?_,h'.2.1,zd0 h h'.2.2.1 fun p hp q hq=>hn p hp q (zE.mpr (.inl hq)),h'.2.2.2⟩
   rw [zbI] at hp
   rcases List.mem_append.mp hp with hp | hp
   ·rcases h.top hp with y | y
    ·rw [y];exact c2
    ·exact zb3 c2 y
   ·exact h'.1 p hp
 termination_by L R=>sizeOf L+sizeOf R
def Tr.cutT (x:Th)(T:Tr):Tr:=
 match own x T with
 | nil=>T
 | node l _ _ r=>plug x (wl x T - 1) T (joinT l r)
def offP (ps:List (Th ×Th))(x:Th):List (Th ×Th):=ps.filter fun p=>!eqT p.1 x
theorem zl4 {p x:Th}(h:p≠x):(!eqT p x)=true:=by
 cases z:eqT p x with
 | true=>exact absurd ((zab p x).mp z) h
 | false=>rfl
theorem zbK {ps:List (Th ×Th)}{x:Th}(h:∀p∈ps,p.1≠x):offP ps x=ps:=List.filter_eq_self.mpr fun p hp=>zl4 (h p hp)
theorem zgn {x:Th}{T:Tr}(hs:Srt T.ps):(cutT x T).ps=offP T.ps x:=by
 unfold cutT
 cases z:own x T with
 | nil=>exact (zbK (zcK hs z)).symm
 | node l k v r=>
  obtain ⟨rfl,n,ew,u,d⟩:=zaB z
  show (plug k (wl k T - 1) T (joinT l r)).ps=_
  rw [ew,Nat.add_sub_cancel]
  obtain ⟨A,B,e1,e2,e3,e4⟩:=zb5 hs u
  obtain ⟨_,_,h3,h4⟩:=zaC (d ▸ zbu hs)
  rw [e1,zbI]
  conv=>rhs;rw [e2,d]
  unfold offP
  rw [List.filter_append,List.filter_append]
  have nA:∀p∈A,p.1≠k:=fun p hp e=>by have:=e3 p hp;rw [e,zB] at this;cases this
  have nB:∀p∈B,p.1≠k:=fun p hp e=>by have:=e4 p hp;rw [e,zB] at this;cases this
  have nl:∀p∈l.ps,p.1≠k:=fun p hp e=>by have:=h3 p hp;rw [e,zB] at this;cases this
  have nr:∀p∈r.ps,p.1≠k:=fun p hp e=>by have:=h4 p hp;rw [e,zB] at this;cases this
  have:=zbK nA
  have hA:A.filter (fun p=>!eqT p.1 k)=A:=zbK nA
  have hB:B.filter (fun p=>!eqT p.1 k)=B:=zbK nB
  have hl:l.ps.filter (fun p=>!eqT p.1 k)=l.ps:=zbK nl
  have hr:r.ps.filter (fun p=>!eqT p.1 k)=r.ps:=zbK nr
  rw [hA,hB]
  show A++(l.ps++r.ps)++B=A++(l.ps++(k,v)::r.ps).filter (fun p=>!eqT p.1 k)++B
  rw [List.filter_append,List.filter_cons,hl,hr,zY]
  rfl
theorem ze9 {x:Th}{T:Tr}(hs:Srt T.ps)(h:Abv T):Abv (cutT x T):=by
 unfold cutT
 cases z:own x T with
 | nil=>exact h
 | node l k v r=>
  obtain ⟨rfl,n,ew,u,d⟩:=zaB z
  show Abv (Tr.plug k (wl k T - 1) T (joinT l r))
  rw [ew,Nat.add_sub_cancel]
  have hd:Abv (down k n T):=h.down
  obtain ⟨_,_,h3,h4⟩:=zaC (d ▸ zbu hs)
  rw [d] at hd
  refine Abv.plug h (zd0 hd.2.2.1 hd.2.2.2 fun p hp q hq e=>?_) (zcd h (up_down u) fun p hp'=>?_)
  ·have:=z5 (h3 p hp) (h4 q hq)
   rw [e,zB] at this;cases this
  ·rw [zbI] at hp'
   rw [d]
   rcases List.mem_append.mp hp' with y | y
   ·exact ⟨p,zE.mpr (.inl y),rfl⟩
   ·exact ⟨p,zE.mpr (.inr (.inr y)),rfl⟩
theorem zd8:∀{ps qs:List (Th ×Th)},Srt ps→Srt qs→(∀p,p∈ps↔p∈qs)→ps=qs
 | [],[],_,_,_=>rfl
 | [],q::qs,_,_,h=>absurd ((h q).mpr List.mem_cons_self) (fun z=>(nomatch z))
 | p::ps,[],_,_,h=>absurd ((h p).mp List.mem_cons_self) (fun z=>(nomatch z))
 | p::ps,q::qs,h1,h2,h=>by
  obtain ⟨a1,a2⟩:=List.pairwise_cons.mp h1
  obtain ⟨b1,b2⟩:=List.pairwise_cons.mp h2
  have e:p=q:=by
   rcases List.mem_cons.mp ((h p).mp List.mem_cons_self) with e | e
   ·exact e
   ·rcases List.mem_cons.mp ((h q).mpr List.mem_cons_self) with e' | e'
    ·exact e'.symm
    ·have x1:=b1 p e
     have x2:=a1 q e'
     rw [zW x1] at x2;cases x2
  subst e
  have irr:∀r:Th ×Th,ze p.1 r.1=true→r≠p:=fun r hr e=>by rw [e,zB] at hr;cases hr
  rw [zd8 a2 b2 fun r=>⟨fun hr=>?_,fun hr=>?_⟩]
  ·rcases List.mem_cons.mp ((h r).mp (List.mem_cons_of_mem _ hr)) with e | e
   ·exact absurd e (irr r (a1 r hr))
   ·exact e
  ·rcases List.mem_cons.mp ((h r).mpr (List.mem_cons_of_mem _ hr)) with e | e
   ·exact absurd e (irr r (b1 r hr))
   ·exact e
end Pv
namespace Pv
open PySem L2
open Tr
abbrev zfa:Stmt:=top 38
theorem zaf:zu ["vault","left","right","count","left_count","right_count","down","one","other","both","root","step"] ["vault","left","right","count"] (zd zfa):=⟨rfl,rfl,rfl,by decide+kernel,rfl,by decide+kernel,by decide+kernel⟩
abbrev scut:Stmt:=top 37
theorem ziq:zu ["vault","root","key","way","own"] ["vault","root","key"] (zd scut):=⟨rfl,rfl,rfl,by decide+kernel,rfl,by decide+kernel,by decide+kernel⟩
abbrev Stp:=Tr ×Bool ×Nat
def zbE (s:Stp):Th:=.tup [s.1.thing,.int (if s.2.1=true then 3 else 2),.int (s.2.2:Int)]
def app:Stp→Tr→Tr
 | (nil,_,_),X=>X
 | (node l k w r,b,_),X=>if b=true then node l k w X else node X k w r
inductive zbc (L0 R0:Tr):List Stp→Tr→Tr→Prop
 | base:zbc L0 R0 [] L0 R0
 | left {st:List Stp} {l r l' r':Tr} {k w k' w':Th} (h:zbc L0 R0 st (node l k w r) (node l' k' w' r')) (c:zM k k'=true):zbc L0 R0 ((node l k w r,true,(node l k w r).cnt+(node l' k' w' r').cnt)::st) r (node l' k' w' r')
 | right {st:List Stp} {l r l' r':Tr} {k w k' w':Th} (h:zbc L0 R0 st (node l k w r) (node l' k' w' r')) (c:zM k k'=false):zbc L0 R0 ((node l' k' w' r',false,(node l k w r).cnt+(node l' k' w' r').cnt)::st) (node l k w r) l'
theorem zcR (L R:Tr):(joinT L R).cnt=L.cnt+R.cnt:=by
 show (joinT L R).ps.length=_
 rw [zbI,List.length_append]
theorem zbc.back {L0 R0 L R:Tr}{s:Stp}{st:List Stp}(h:zbc L0 R0 (s::st) L R):∃L' R',zbc L0 R0 st L' R'∧joinT L' R'=app s (joinT L R)∧s.2.2=(joinT L' R').cnt∧(s.1=L'∨s.1=R'):=by
 cases h with
 | left h c=>
  refine ⟨_,_,h,?_,(zcR _ _).symm,.inl rfl⟩
  rw [joinT,if_pos c];rfl
 | right h c=>
  refine ⟨_,_,h,?_,(zcR _ _).symm,.inr rfl⟩
  rw [joinT,if_neg (by rw [c];exact Bool.false_ne_true)];rfl
theorem zbc.cnt {L0 R0 L R:Tr}{st:List Stp}(h:zbc L0 R0 st L R):L.cnt+R.cnt≤L0.cnt+R0.cnt:=by
 induction h with
 | base=>exact Nat.le_refl _
 | left h c ih=>rw [zL] at ih;omega
 | right h c ih=>
  rename_i l r l' r' k w k' w'
  have:=zL l' k' w' r'
  omega
theorem zbc.end {L0 R0 L R:Tr}(h:zbc L0 R0 [] L R):L=L0∧R=R0:=by cases h;exact ⟨rfl,rfl⟩
theorem RepL.rev {H:Hp}:∀{ts:List Th} {vs:List V},RepL H ts vs→RepL H ts.reverse vs.reverse
 | _,_,.nil=>.nil
 | _,_,.cons h r=>by rw [List.reverse_cons,List.reverse_cons];exact (RepL.rev r).snoc h
theorem zgv {H:Hp}{s:Stp}{v:V}(rep:Rep H (zbE s) v):∃p vn,v=.ref p∧H p=some (.tup [vn,.int (if s.2.1=true then 3 else 2),.int (s.2.2:Int)])∧Rep H s.1.thing vn:=by
 obtain ⟨a,xs,e,ea,r1⟩:=rep.list
 cases r1 with
 | cons h1 r2=>
 cases r2 with
 | cons h2 r3=>
 cases r3 with
 | cons h3 r4=>
 cases r4 with
 | nil=>
 cases h2
 cases h3
 exact ⟨a,_,e,ea,h1⟩
def zgF:Sp:=fun vs H Q _=>∃(v:V) (k w:Th) (b:Bool) (l r c n m:Int),vs=[v,.int (if b=true then 3 else 2),.int n,.int m]∧Rep H (za2 k w l r c) v∧∀p H',Same H H'→Rep H' (if b=true then za2 k w l n m else za2 k w n r m) (.ref p)→Q (.ref p) H'
def zm0 (C CC:Addr):Sp:=fun vs H Q E=>∃(a d:Addr) (cs:List (Int ×Th)) (T:Tr) (x:Th) (vx:V),vs=[.ref a,.int T.root,vx]∧VS H C a d cs∧TOk cs T∧Rep H x vx∧KeyT x∧cs.length≤900000∧Cl CC E∧
 ∀cs' p H',Fr1 d H H'→VS H' C a d cs'→Sub cs cs'→(spl x (wl x T) T).1.InV cs'→(spl x (wl x T) T).2.InV cs'→cs'.length≤cs.length+300→H' p=some (.tup [.int (spl x (wl x T) T).1.root,.int (spl x (wl x T) T).2.root])→Q (.ref p) H'
def zfm (C CC:Addr):Sp:=fun vs H Q E=>∃(a d:Addr) (cs:List (Int ×Th)) (L R:Tr) (c:Int),vs=[.ref a,.int L.root,.int R.root,.int c]∧VS H C a d cs∧TOk cs L∧TOk cs R∧(L.cnt:Int) < c∧(R.cnt:Int) < c∧L.cnt+R.cnt≤300∧cs.length≤900000∧Cl CC E∧
 ∀cs' H',Fr1 d H H'→VS H' C a d cs'→Sub cs cs'→(joinT L R).InV cs'→cs'.length≤cs.length+300→Q (.int (joinT L R).root) H'
def zmI (C CC:Addr):Sp:=fun vs H Q E=>∃(a d:Addr) (cs:List (Int ×Th)) (L R:Tr),vs=[.ref a,.int L.root,.int R.root]∧VS H C a d cs∧TOk cs L∧TOk cs R∧L.cnt+R.cnt≤300∧cs.length≤900000∧Cl CC E∧
 ∀cs' H',Fr1 d H H'→VS H' C a d cs'→Sub cs cs'→(joinT L R).InV cs'→cs'.length≤cs.length+300→Q (.int (joinT L R).root) H'
def zgS (C CC:Addr):Sp:=fun vs H Q E=>∃(a d:Addr) (cs:List (Int ×Th)) (T:Tr) (x:Th) (vx:V),vs=[.ref a,.int T.root,vx]∧VS H C a d cs∧TOk cs T∧Rep H x vx∧KeyT x∧cs.length≤800000∧Cl CC E∧
 ∀cs' H',Fr1 d H H'→VS H' C a d cs'→Sub cs cs'→(cutT x T).InV cs'→cs'.length≤cs.length+600→Q (.int (cutT x T).root) H'
section
variable {P:Program}{w:World}{K:PySem.W.Frag}{mg:Str→Option Value}{base:Heap}{C CC:Addr}{x:Str}{t1 t2 t3 t4 t5 t6 t7:Tok}
theorem ziL (D:Dfn K mg "with_tree" zbO ["node","side","root","count"]) (g_KEY:mg "KEY" =some (.int 0 t1)) (g_WORTH:mg "WORTH" =some (.int 1 t2)) (g_LEFT:mg "LEFT" =some (.int 2 t3)) (g_RIGHT:mg "RIGHT" =some (.int 3 t4)):Fn P w K mg base "with_tree" 1 ["node","side","root","count"] zgF:=by
 refine D.ok (k:=0) zdq (fun vs H Q E h=>?_) (fun f cdv A outer s H vs Q E hr h=>?_)
 ·obtain ⟨v,k,w,b,l,r,c,n,m,rfl,_⟩:=h;rfl
 obtain ⟨v,k,w,b,l,r,c,n,m,rfl,rn,q⟩:=h
 obtain ⟨p,vk,vw,rfl,ea,rk,rw'⟩:=zR rn
 have et:SqT K H p [vk,vw,.int l,.int r,.int c]:=SqT.of ea
 refine ⟨_,(zb (zP (zH zdo (pv 1) (zw (v:=.int 2) (by rfl) g_LEFT ⟨_,rfl⟩) (zD _))
 (zg (zq (zV (za (zr zx (pv 0) (zw (v:=.int 0) (by rfl) g_KEY ⟨_,rfl⟩) (fun _ _=>rfl)) (za (zr zx (pv 0) (zw (v:=.int 1) (by rfl) g_WORTH ⟨_,rfl⟩) (fun _ _=>rfl)) (za (pv 2) (za (zr zx (pv 0) (zw (v:=.int 3) (by rfl) g_RIGHT ⟨_,rfl⟩) (fun _ _=>rfl)) (za (pv 3) zc))))))))
 zC)
 (zg (zq (zV (za (zr zx (pv 0) (zw (v:=.int 0) (by rfl) g_KEY ⟨_,rfl⟩) (fun _ _=>rfl)) (za (zr zx (pv 0) (zw (v:=.int 1) (by rfl) g_WORTH ⟨_,rfl⟩) (fun _ _=>rfl)) (za (zr zx (pv 0) (zw (v:=.int 2) (by rfl) g_LEFT ⟨_,rfl⟩) (fun _ _=>rfl)) (za (pv 2) (za (pv 3) zc))))))))),?_⟩
 refine ⟨_,rfl,rfl,_,rfl,?_⟩
 rw [za9]
 cases b with
 | true=>
  refine ifF (by rfl) ?_
  refine ⟨_,rfl,p,_,_,_,rfl,rfl,et,rfl,_,rfl,p,_,_,_,rfl,rfl,et,rfl,_,rfl,p,_,_,_,rfl,rfl,et,rfl,_,rfl,_,rfl,szl (show 5≤1000 by decide),fun p' hp'=>?_⟩
  refine q p' _ (zj (Same.refl H) hp') ?_
  rw [if_pos rfl]
  exact (RepL.cons rk (.cons rw' (.cons (.int _) (.cons (.int _) (.cons (.int _) .nil))))).new hp'
 | false=>
  refine ifT (by rfl) ?_
  refine ⟨_,rfl,p,_,_,_,rfl,rfl,et,rfl,_,rfl,p,_,_,_,rfl,rfl,et,rfl,_,rfl,_,rfl,p,_,_,_,rfl,rfl,et,rfl,_,rfl,szl (show 5≤1000 by decide),fun p' hp'=>?_⟩
  refine q p' _ (zj (Same.refl H) hp') ?_
  rw [if_neg Bool.false_ne_true]
  exact (RepL.cons rk (.cons rw' (.cons (.int _) (.cons (.int _) (.cons (.int _) .nil))))).new hp'
theorem zhM (D:Dfn K mg "joined" zfa ["vault","left","right","count"]) (F_node_beneath:Fn P w K mg base "node_beneath" 4 ["vault","root","count"] (zi9 C)) (F_above:Fn P w K mg base "above" 21 ["key","other"] zeY) (M_lay:Mt P w K mg base (CX1 P w) C "lay" 14 ["self","thing"] (zd5 C CC)) (c_C:Cls K C) (F_with_tree:Fn P w K mg base "with_tree" 1 ["node","side","root","count"] zgF)
  (g_KEY:mg "KEY" =some (.int 0 t1)) (g_LEFT:mg "LEFT" =some (.int 2 t3)) (g_RIGHT:mg "RIGHT" =some (.int 3 t4)) (g_COUNT:mg "COUNT" =some (.int 4 t5)) (m_reversed:mg "reversed" =none):FnX P w K mg base "joined" 22 ["vault","left","right","count"] (zfm C CC):=by
 refine D.okX (k:=21) zaf (fun vs H Q E h=>?_) (fun f cdv A outer s H vs Q E hr h=>?_)
 ·obtain ⟨a,d,cs,L,R,c,rfl,_⟩:=h;rfl
 obtain ⟨a,d,cs,L0,R0,c,rfl,vs,tL0,tR0,hL0,hR0,h300,hcl,cl,q⟩:=h
 refine ⟨_,(zb (zm (i:=4) zaf.nd rfl (Or.inl rfl) (pv 3))
 (zb (zm (i:=5) zaf.nd rfl (Or.inl rfl) (pv 3))
 (zb (zm (i:=6) zaf.nd rfl (Or.inl rfl) (zaa zc))
 (zb (zfI PassesOwn.leaving (PW.pt (zf3 (zH zbU (pv 1) zf (zD _)) (zeU (zH zbU (pv 2) zf (zD _)))))
 (zb (zm (i:=7) zaf.nd rfl (Or.inl rfl) (zA F_node_beneath hr (by omega) (by rfl) (za (pv 0) (za (pv 1) (za (pv 4) zc)))))
 (zb (zm (i:=8) zaf.nd rfl (Or.inl rfl) (zA F_node_beneath hr (by omega) (by rfl) (za (pv 0) (za (pv 2) (za (pv 5) zc)))))
 (zb (zm (i:=9) zaf.nd rfl (Or.inl rfl) (zy zac (zr zx (pv 7) (zw (v:=.int 4) (by rfl) g_COUNT ⟨_,rfl⟩) (fun _ _=>rfl)) (zr zx (pv 8) (zw (v:=.int 4) (by rfl) g_COUNT ⟨_,rfl⟩) (fun _ _=>rfl))))
 (zg (zP (z6 (zA F_above hr (by omega) (by rfl) (za (zr zx (pv 7) (zw (v:=.int 0) (by rfl) g_KEY ⟨_,rfl⟩) (fun _ _=>rfl)) (za (zr zx (pv 8) (zw (v:=.int 0) (by rfl) g_KEY ⟨_,rfl⟩) (fun _ _=>rfl)) zc))))
 (zb (zbi (zdQ PySem.F.plainAttrs_list PySem.F.slot_list_append PySem.F.type_list_append zaM (pv 6) (za (zV (za (pv 7) (za (zw (v:=.int 3) (by rfl) g_RIGHT ⟨_,rfl⟩) (za (pv 9) zc)))) zc)))
 (zb (zm (i:=1) zaf.nd rfl (Or.inl rfl) (zr zx (pv 7) (zw (v:=.int 3) (by rfl) g_RIGHT ⟨_,rfl⟩) (fun _ _=>rfl)))
 (zg (zm (i:=4) zaf.nd rfl (Or.inl rfl) (zr zx (pv 7) (zw (v:=.int 4) (by rfl) g_COUNT ⟨_,rfl⟩) (fun _ _=>rfl))))))
 (zb (zbi (zdQ PySem.F.plainAttrs_list PySem.F.slot_list_append PySem.F.type_list_append zaM (pv 6) (za (zV (za (pv 8) (za (zw (v:=.int 2) (by rfl) g_LEFT ⟨_,rfl⟩) (za (pv 9) zc)))) zc)))
 (zb (zm (i:=2) zaf.nd rfl (Or.inl rfl) (zr zx (pv 8) (zw (v:=.int 2) (by rfl) g_LEFT ⟨_,rfl⟩) (fun _ _=>rfl)))
 (zg (zm (i:=5) zaf.nd rfl (Or.inl rfl) (zr zx (pv 8) (zw (v:=.int 4) (by rfl) g_COUNT ⟨_,rfl⟩) (fun _ _=>rfl))))))))))))
 (zb (zm (i:=10) zaf.nd rfl (Or.inl rfl) (zcP (zH zdo (pv 1) zf (zD _)) (pv 2) (pv 1)))
 (zb (zak PassesOwn.leaving rfl (zgp (by rfl) m_reversed (pv 6)) (zN (i:=11) zaf.nd rfl (Or.inl rfl))
 (zg (zm (i:=10) zaf.nd rfl (Or.inl rfl) (zdf (pv 0) c_C M_lay hr (by omega) z4 (za (zA F_with_tree hr (by omega) (by rfl) (za (zr zx (pv 11) zf (fun _ _=>rfl)) (za (zr zx (pv 11) zf (fun _ _=>rfl)) (za (pv 10) (za (zr zx (pv 11) zf (fun _ _=>rfl)) zc))))) zc)))))
 (zg (zq (pv 10))))))))),?_⟩
 refine ⟨_,rfl,_,rfl,szl (show 0≤1000 by decide),fun pd hpd=>?_⟩
 have s0:=zj (o:=.lst []) (Same.refl H) hpd
 have e0:upd H pd (.lst []) pd=some (.lst []):=zh
 generalize upd H pd (.lst [])=H0 at s0 e0
 dsimp only [zbS]
 refine zgx (fun σ H'=>∃(L R:Tr) (st:List Stp) (ws:List V) (lc rc:Int) (k7 k8 k9:Option V),zbc L0 R0 st L R∧(L=nil∨R=nil)∧σ=[some (.ref a),some (.int L.root),some (.int R.root),some (.int c),some (.int lc),some (.int rc),some (.ref pd),k7,k8,k9,none,none]∧TOk cs L∧TOk cs R∧Same H H'∧H' pd=some (.lst ws)∧RepL H' (st.reverse.map zbE) ws∧st.length+(L.cnt+R.cnt)≤L0.cnt+R0.cnt∧(∀s∈st,TOk cs s.1∧s.1≠nil)) (fun N kN=>?_) ?_
 ·refine ⟨fun m σ H'=>∃(L R:Tr) (st:List Stp) (ws:List V) (lc rc:Int) (k7 k8 k9:Option V),m=L.cnt+R.cnt∧zbc L0 R0 st L R∧σ=[some (.ref a),some (.int L.root),some (.int R.root),some (.int c),some (.int lc),some (.int rc),some (.ref pd),k7,k8,k9,none,none]∧(L.cnt:Int) < lc∧(R.cnt:Int) < rc∧TOk cs L∧TOk cs R∧Same H H'∧H' pd=some (.lst ws)∧RepL H' (st.reverse.map zbE) ws∧st.length+(L.cnt+R.cnt)≤L0.cnt+R0.cnt∧(∀s∈st,TOk cs s.1∧s.1≠nil),
   ⟨_,L0,R0,[],[],c,c,_,_,_,rfl,.base,rfl,hL0,hR0,tL0,tR0,s0,e0,.nil,by simp,fun s h=>(nomatch h)⟩,?_⟩
  rintro m σ H1 ⟨L,R,st,ws,lc,rc,k7,k8,k9,rfl,ch,rfl,hlc,hrc,tL,tR,s1,ew,rws,hlen,hst⟩
  refine ⟨_,rfl,rfl,_,rfl,?_⟩
  rw [za9]
  cases L with
  | nil=>
   refine ifF (by rw [decide_eq_true (show (Tr.nil).root=0 from rfl)];rfl) (ifF rfl ?_)
   exact kN _ _ ⟨nil,R,st,ws,lc,rc,_,_,_,ch,.inl rfl,rfl,tL,tR,s1,ew,rws,hlen,hst⟩
  | node l k wo r=>
  have rne:(node l k wo r).root≠0:=fun y=>by cases zbr.mp y
  refine ifT (by rw [decide_eq_false rne];rfl) ?_
  refine ⟨_,rfl,rfl,_,rfl,?_⟩
  rw [za9]
  cases R with
  | nil=>
   refine ifF (by rw [decide_eq_true (show (Tr.nil).root=0 from rfl)];rfl) ?_
   exact kN _ _ ⟨_,nil,st,ws,lc,rc,_,_,_,ch,.inr rfl,rfl,tL,tR,s1,ew,rws,hlen,hst⟩
  | node l' k' wo' r'=>
  have rne':(node l' k' wo' r').root≠0:=fun y=>by cases zbr.mp y
  refine ifT (by rw [decide_eq_false rne'];rfl) ?_
  refine ⟨_,fun σ' H' h=>h,?_⟩
  have vs1:=vs.same s1
  refine ⟨_,rfl,_,rfl,_,rfl,a,d,cs,l,r,k,wo,lc,rfl,vs1,tL,hlc,fun v rn=>?_⟩
  refine ⟨_,rfl,_,rfl,_,rfl,a,d,cs,l',r',k',wo',rc,rfl,vs1,tR,hrc,fun v' rn'=>?_⟩
  obtain ⟨p,vk,vw,rfl,ea,rk,_⟩:=zR rn
  obtain ⟨p',vk',vw',rfl,ea',rk',_⟩:=zR rn'
  have et:SqT K H1 p _:=SqT.of ea
  have et':SqT K H1 p' _:=SqT.of ea'
  refine ⟨_,rfl,p,_,_,_,rfl,rfl,et,rfl,_,rfl,p',_,_,_,rfl,rfl,et',rfl,_,_,rfl,rfl,?_⟩
  refine ⟨_,rfl,p,_,_,_,rfl,rfl,et,rfl,_,rfl,p',_,_,_,rfl,rfl,et',rfl,k,k',_,_,rfl,rk,rk',tL.kw.1.good,tR.kw.1.good,fun H2 s2=>⟨_,rfl,?_⟩⟩
  have s02:Same H H2:=fun b o e=>s2 b o (s1 b o e)
  have ew2:=s2 _ _ ew
  have hwl:ws.length≤300:=by rw [rws.len,List.length_map,List.length_reverse];omega
  have hc1:=zL l k wo r
  have hc2:=zL l' k' wo' r'
  have hl1:(l.ps++(k,wo)::r.ps).length=(node l k wo r).cnt:=rfl
  have hl2:(l'.ps++(k',wo')::r'.ps).length=(node l' k' wo' r').cnt:=rfl
  have ea2:=s2 _ _ ea
  have ea2':=s2 _ _ ea'
  cases z:zM k k' with
  | true=>
   refine ifT rfl ?_
   refine ⟨_,rfl,.inl ⟨rfl,_,SqL.of ew2⟩,_,rfl,_,rfl,szl (show 3≤1000 by decide),fun pt hpt=>?_⟩
   have rp:=(RepL.cons (rn.keep (Same.tups s2)) (.cons (.int 3) (.cons (.int ((((l.ps++(k,wo)::r.ps).length:Nat):Int)+(((l'.ps++(k',wo')::r'.ps).length:Nat):Int))) .nil))).new hpt
   have s3:=zj (o:=.tup [.ref p,.int 3,.int ((((l.ps++(k,wo)::r.ps).length:Nat):Int)+(((l'.ps++(k',wo')::r'.ps).length:Nat):Int))]) (Same.refl H2) hpt
   generalize upd H2 pt (.tup [.ref p,.int 3,.int ((((l.ps++(k,wo)::r.ps).length:Nat):Int)+(((l'.ps++(k',wo')::r'.ps).length:Nat):Int))])=H3 at rp s3
   have hst2:Th.tup [(node l k wo r).thing,.int 3,.int ((((l.ps++(k,wo)::r.ps).length:Nat):Int)+(((l'.ps++(k',wo')::r'.ps).length:Nat):Int))]=zbE (node l k wo r,true,(node l k wo r).cnt+(node l' k' wo' r').cnt):=by
    show _=Th.tup [(node l k wo r).thing,.int 3,.int (((node l k wo r).cnt+(node l' k' wo' r').cnt:Nat):Int)]
    rw [Int.natCast_add];rfl
   rw [hst2] at rp
   have ew3:=s3 _ _ ew2
   refine ⟨pd,ws,_,rfl,rfl,ew3,Nat.lt_of_lt_of_le (show ws.length < 1000 by omega) (szl (Nat.le_refl _)),?_⟩
   have tk4:Tups H3 (upd H3 pd (.lst (ws++ [.ref pt]))):=Tups.upd fun xs z=>by rw [ew3] at z;cases z
   have s04:Same H (upd H3 pd (.lst (ws++ [.ref pt]))):=zaZ (fun b o e=>s3 b o (s02 b o e)) hpd
   have e4:upd H3 pd (.lst (ws++ [.ref pt])) pd=some (.lst (ws++ [.ref pt])):=zh
   have r4:RepL (upd H3 pd (.lst (ws++ [.ref pt]))) (((node l k wo r,true,(node l k wo r).cnt+(node l' k' wo' r').cnt)::st).reverse.map zbE) (ws++ [.ref pt]):=by
    rw [List.reverse_cons,List.map_append]
    exact (((rws.keep (Same.tups s2)).keep (Same.tups s3)).keep tk4).snoc (rp.keep tk4)
   have ea4:=tk4 _ _ (s3 _ _ ea2)
   generalize upd H3 pd (.lst (ws++ [.ref pt]))=H4 at tk4 s04 e4 r4 ea4
   refine ⟨_,rfl,p,_,_,_,rfl,rfl,SqT.of ea4,rfl,?_⟩
   refine ⟨_,rfl,p,_,_,_,rfl,rfl,SqT.of ea4,rfl,?_⟩
   refine ⟨r.cnt+(node l' k' wo' r').cnt,by omega,r,node l' k' wo' r',_,_,_,rc,_,_,_,rfl,.left ch z,rfl,by omega,hrc,tL.r,tR,s04,e4,r4,by rw [List.length_cons];omega,fun s hs=>?_⟩
   rcases List.mem_cons.mp hs with rfl | hs
   ·exact ⟨tL,fun y=>by cases y⟩
   ·exact hst s hs
  | false=>
   refine ifF rfl ?_
   refine ⟨_,rfl,.inl ⟨rfl,_,SqL.of ew2⟩,_,rfl,_,rfl,szl (show 3≤1000 by decide),fun pt hpt=>?_⟩
   have rp:=(RepL.cons (rn'.keep (Same.tups s2)) (.cons (.int 2) (.cons (.int ((((l.ps++(k,wo)::r.ps).length:Nat):Int)+(((l'.ps++(k',wo')::r'.ps).length:Nat):Int))) .nil))).new hpt
   have s3:=zj (o:=.tup [.ref p',.int 2,.int ((((l.ps++(k,wo)::r.ps).length:Nat):Int)+(((l'.ps++(k',wo')::r'.ps).length:Nat):Int))]) (Same.refl H2) hpt
   generalize upd H2 pt (.tup [.ref p',.int 2,.int ((((l.ps++(k,wo)::r.ps).length:Nat):Int)+(((l'.ps++(k',wo')::r'.ps).length:Nat):Int))])=H3 at rp s3
   have hst2:Th.tup [(node l' k' wo' r').thing,.int 2,.int ((((l.ps++(k,wo)::r.ps).length:Nat):Int)+(((l'.ps++(k',wo')::r'.ps).length:Nat):Int))]=zbE (node l' k' wo' r',false,(node l k wo r).cnt+(node l' k' wo' r').cnt):=by
    show _=Th.tup [(node l' k' wo' r').thing,.int 2,.int (((node l k wo r).cnt+(node l' k' wo' r').cnt:Nat):Int)]
    rw [Int.natCast_add];rfl
   rw [hst2] at rp
   have ew3:=s3 _ _ ew2
   refine ⟨pd,ws,_,rfl,rfl,ew3,Nat.lt_of_lt_of_le (show ws.length < 1000 by omega) (szl (Nat.le_refl _)),?_⟩
   have tk4:Tups H3 (upd H3 pd (.lst (ws++ [.ref pt]))):=Tups.upd fun xs z=>by rw [ew3] at z;cases z
   have s04:Same H (upd H3 pd (.lst (ws++ [.ref pt]))):=zaZ (fun b o e=>s3 b o (s02 b o e)) hpd
   have e4:upd H3 pd (.lst (ws++ [.ref pt])) pd=some (.lst (ws++ [.ref pt])):=zh
   have r4:RepL (upd H3 pd (.lst (ws++ [.ref pt]))) (((node l' k' wo' r',false,(node l k wo r).cnt+(node l' k' wo' r').cnt)::st).reverse.map zbE) (ws++ [.ref pt]):=by
    rw [List.reverse_cons,List.map_append]
    exact (((rws.keep (Same.tups s2)).keep (Same.tups s3)).keep tk4).snoc (rp.keep tk4)
   have ea4:=tk4 _ _ (s3 _ _ ea2')
   generalize upd H3 pd (.lst (ws++ [.ref pt]))=H4 at tk4 s04 e4 r4 ea4
   refine ⟨_,rfl,p',_,_,_,rfl,rfl,SqT.of ea4,rfl,?_⟩
   refine ⟨_,rfl,p',_,_,_,rfl,rfl,SqT.of ea4,rfl,?_⟩
   refine ⟨(node l k wo r).cnt+l'.cnt,by omega,node l k wo r,l',_,_,lc,_,_,_,_,rfl,.right ch z,rfl,hlc,by omega,tL,tR.l,s04,e4,r4,by rw [List.length_cons];omega,fun s hs=>?_⟩
   rcases List.mem_cons.mp hs with rfl | hs
   ·exact ⟨tR,fun y=>by cases y⟩
   ·exact hst s hs
 ·rintro σ H1 ⟨L,R,st,ws,lc,rc,k7,k8,k9,ch,hnil,rfl,tL,tR,s1,ew,rws,hlen,hst⟩
  have hwl:ws.length=st.length:=by rw [rws.len,List.length_map,List.length_reverse]
  have eJ:joinT L R=if L.root=0 then R else L:=by
   by_cases hL:L.root=0
   ·rw [if_pos hL,zbr.mp hL,joinT]
   ·rw [if_neg hL]
    rcases hnil with h | h
    ·exact absurd (zbr.mpr h) hL
    ·rw [h,zhs]
  have iJ:(joinT L R).InV cs:=by
   rw [eJ]
   split
   ·exact tR.iv
   ·exact tL.iv
  refine zgx (fun σ H'=>σ=[some (.ref a),some (.int L.root),some (.int R.root),some (.int c),some (.int lc),some (.int rc),some (.ref pd),k7,k8,k9,some (.int (joinT L R).root),none]∧H1=H') (fun N kN=>?_) ?_
  ·refine ⟨_,rfl,rfl,_,rfl,?_⟩
   rw [za9]
   by_cases hL:L.root=0
   ·refine ifT (decide_eq_true hL) ⟨_,rfl,kN _ _ ⟨?_,rfl⟩⟩
    rw [eJ,if_pos hL];rfl
   ·refine ifF (decide_eq_false hL) ⟨_,rfl,kN _ _ ⟨?_,rfl⟩⟩
    rw [eJ,if_neg hL];rfl
  rintro σ H' ⟨rfl,rfl⟩
  have vs1:=vs.same s1
  refine ⟨_,rfl,pd,ws,rfl,SqL.of ew,?_⟩
  refine ze7 (fun i σ H'=>∃(L' R':Tr) (cs':List (Int ×Th)) (k11:Option V),zbc L0 R0 (st.drop i) L' R'∧σ=[some (.ref a),some (.int L.root),some (.int R.root),some (.int c),some (.int lc),some (.int rc),some (.ref pd),k7,k8,k9,some (.int (joinT L' R').root),k11]∧Fr1 d H1 H'∧VS H' C a d cs'∧Sub cs cs'∧(joinT L' R').InV cs'∧cs'.length≤cs.length+i) ⟨L,R,cs,_,ch,rfl,Fr1.refl _ _,vs1,Sub.refl _,iJ,Nat.le_refl _⟩ ?_ ?_ ?_
  ·rintro i σ H' ⟨L',R',cs',k11,_,rfl,fr,_⟩
   exact SqL.of (vs1.lst fr ew)
  ·rintro i y σ H2 hi hy ⟨L',R',cs',k11,ch',rfl,fr,vs2,sb,iv,le⟩
   have his:i < st.length:=by omega
   rw [List.drop_eq_getElem_cons his] at ch'
   obtain ⟨L2',R2',ch2,ej,en,_⟩:=ch'.back
   have hst2:=hst _ (List.getElem_mem his)
   have ry:Rep H2 (zbE st[i]) y:=by
    have r1:=rws.rev.at i y (zbE st[i]) hy (by rw [←List.map_reverse,List.reverse_reverse,List.getElem?_map,List.getElem?_eq_getElem his];rfl)
    exact r1.keep (vs1.tups fr)
   generalize st[i]=sp at ej en hst2 ry
   obtain ⟨Dn,b,n⟩:=sp
   obtain ⟨tD,nD⟩:=hst2
   obtain ⟨l,k,wo,r,eD⟩:=not_nil (T:=Dn) nD
   subst eD
   obtain ⟨p,vn,rfl,ep,rn⟩:=zgv ry
   have tD':TOk cs (node l k wo r):=tD
   have en':n=(joinT L2' R2').cnt:=en
   have hJ3:(joinT L2' R2').cnt≤300:=by
    have e1:=zcR L2' R2'
    have e2:=ch2.cnt
    omega
   rw [ej] at en' hJ3
   have hth:∃l2 r2,app (node l k wo r,b,n) (joinT L' R')=node l2 k wo r2∧l2.InV cs'∧r2.InV cs'∧(if b=true then za2 k wo l.root (joinT L' R').root (n:Int) else za2 k wo (joinT L' R').root r.root (n:Int))=(app (node l k wo r,b,n) (joinT L' R')).thing:=by
    rw [en']
    cases b with
    | true=>exact ⟨l,joinT L' R',rfl,InV.mono sb tD'.l.iv,iv,rfl⟩
    | false=>exact ⟨joinT L' R',r,rfl,iv,InV.mono sb tD'.r.iv,rfl⟩
   obtain ⟨l2,r2,e2,i1,i2,eth⟩:=hth
   obtain ⟨kv2,vo2,_⟩:=vs2.vo
   obtain ⟨⟨dx,fs,eo,fl⟩,_⟩:=id vo2
   have et:SqT K H2 p [vn,.int (if b=true then 3 else 2),.int (n:Int)]:=SqT.of ep
   refine ⟨_,rfl,a,dx,fs,rfl,eo,fl.n2,_,rfl,p,_,_,_,rfl,rfl,et,rfl,_,rfl,p,_,_,_,rfl,rfl,et,rfl,_,rfl,_,rfl,p,_,_,_,rfl,rfl,et,rfl,vn,k,wo,b,_,_,_,_,_,rfl,rn,fun p2 H3 s3 r3=>?_⟩
   rw [eth] at r3
   rw [e2] at hJ3 r3
   refine ⟨a,d,cs',_,_,rfl,vs2.same s3,by omega,r3,(zbg tD'.kw.1 tD'.kw.2 hJ3).2,cl,fun H4 f4 ft vs4=>?_⟩
   refine ⟨L2',R2',_,some (.ref p),ch2,?_,fr.trans ((Same.fr1 s3).trans f4),vs4,sb.trans zaD,?_,Nat.le_trans (zbx _ _ _) (by omega)⟩
   ·rw [ej,e2];rfl
   ·rw [ej,e2]
    exact zdd i1 i2 ft
  ·rintro σ H2 ⟨L',R',cs',k11,ch',rfl,fr,vs2,sb,iv,le⟩
   rw [hwl,List.drop_length] at ch'
   obtain ⟨rfl,rfl⟩:=ch'.end
   exact ⟨_,rfl,q cs' H2 ((Same.fr1 s1).trans fr) vs2 sb iv (by omega)⟩
theorem zlk (D:Dfn K mg "cut" scut ["vault","root","key"]) (F_way_to:Fn P w K mg base "way_to" 22 ["vault","root","key"] (zgP C)) (F_ends_at:Fn P w K mg base "ends_at" 1 ["way","key"] (ze1 K)) (F_hung:FnX P w K mg base "hung" 22 ["vault","way","key","root","more"] (zgg K C CC)) (F_joined:FnX P w K mg base "joined" 22 ["vault","left","right","count"] (zfm C CC))
  (g_COUNT:mg "COUNT" =some (.int 4 t5)) (g_LEFT:mg "LEFT" =some (.int 2 t3)) (g_RIGHT:mg "RIGHT" =some (.int 3 t4)):FnX P w K mg base "cut" 23 ["vault","root","key"] (zgS C CC):=by
 refine D.okX (k:=22) ziq (fun vs H Q E h=>?_) (fun f cdv A outer s H vs Q E hr h=>?_)
 ·obtain ⟨a,d,cs,T,x,vx,rfl,_⟩:=h;rfl
 obtain ⟨a,d,cs,T,x,vx,rfl,vs,tk,rx,kx,hcl,cl,q⟩:=h
 have h100:T.cnt≤300:=tk.ct
 refine ⟨_,(zb (zm (i:=3) ziq.nd rfl (Or.inl rfl) (zA F_way_to hr (by omega) (by rfl) (za (pv 0) (za (pv 1) (za (pv 2) zc)))))
 (zb (zP (zbF (z6 (zA F_ends_at hr (by omega) (by rfl) (za (pv 3) (za (pv 2) zc)))))
 (zg (zq (pv 1)))
 zC)
 (zb (zm (i:=4) ziq.nd rfl (Or.inl rfl) (zr zI (pv 3) (zcO zbM zf) (fun _ _=>rfl)))
 (zg (zq (zaO F_hung hr (by omega) (by rfl) z4 (za (pv 0) (za (zao zaQ (pv 3) zaG (zan (zcO zbM zf))) (za (pv 2) (za (zaO F_joined hr (by omega) (by rfl) z4 (za (pv 0) (za (zr zx (pv 4) (zw (v:=.int 2) (by rfl) g_LEFT ⟨_,rfl⟩) (fun _ _=>rfl)) (za (zr zx (pv 4) (zw (v:=.int 3) (by rfl) g_RIGHT ⟨_,rfl⟩) (fun _ _=>rfl)) (za (zr zx (pv 4) (zw (v:=.int 4) (by rfl) g_COUNT ⟨_,rfl⟩) (fun _ _=>rfl)) zc))))) (za (zcO zbM zf) zc))))))))))),?_⟩
 have hwl:=zfC (x:=x) T
 refine ⟨_,rfl,_,rfl,_,rfl,a,d,cs,T,x,vx,rfl,vs,tk,rx,kx,fun pw ws H1 s1 hpw ew rwy=>?_⟩
 have hl:ws.length=wl x T:=by rw [rwy.len,zar]
 have rx1:=rx.keep (Same.tups s1)
 have vs1:=vs.same s1
 refine ⟨_,rfl,_,rfl,pw,ws,T,x,vx,rfl,SqL.of ew,rwy,fun p hp=>(tk.ky p hp).1,rx1,_,rfl,?_⟩
 cases z:own x T with
 | nil=>
  have eq:cutT x T=T:=by unfold cutT;rw [z]
  rw [eq] at q
  exact ifT rfl ⟨_,rfl,q cs H1 (Same.fr1 s1) vs1 (Sub.refl _) tk.iv (by omega)⟩
 | node l k wo r=>
  obtain ⟨rfl,n,ewl,up,ed⟩:=zaB z
  refine ifF rfl ?_
  rw [ewl] at rwy hl
  have hv:ws[n]? =some (ws[n]'(by omega)):=List.getElem?_eq_getElem (by omega)
  have rl:=rwy.at n _ _ hv (zal (Nat.lt_succ_self n))
  rw [ed] at rl
  obtain ⟨p,vk,vw',ev,ea,rk,_⟩:=zR rl
  have ix:atI ws (-1)=some (.ref p):=by
   unfold atI ixN
   rw [if_neg (by decide),if_pos (by omega),hl]
   show ws[((-1:Int)+((n+1:Nat):Int)).toNat]? =_
   rw [show ((-1:Int)+((n+1:Nat):Int)).toNat=n by omega,hv,ev]
  have td:=tk.down (x:=k) (n:=n)
  rw [ed] at td
  have hcn:=zL l k wo r
  have hlen:(l.ps++(k,wo)::r.ps).length=(node l k wo r).cnt:=rfl
  have hdc:(node l k wo r).cnt≤T.cnt:=by rw [←ed];exact zbd
  have et:SqT K H1 p _:=SqT.of ea
  refine ⟨_,rfl,_,rfl,pw,_,_,_,rfl,rfl,SqL.of ew,ix,?_⟩
  refine ⟨_,rfl,_,rfl,_,rfl,_,rfl,pw,_,rfl,SqL.of ew,fun pc hpc=>?_⟩
  rw [zgN hl]
  have s12:=zj (o:=.lst (ws.take n)) (Same.refl H1) hpc
  have ec:upd H1 pc (.lst (ws.take n)) pc=some (.lst (ws.take n)):=zh
  generalize upd H1 pc (.lst (ws.take n))=H2 at s12 ec
  have vs2:=vs1.same s12
  have et2:SqT K H2 p _:=SqT.of (s12 _ _ ea)
  refine ⟨_,rfl,_,rfl,_,rfl,p,_,_,_,rfl,rfl,et2,rfl,_,rfl,p,_,_,_,rfl,rfl,et2,rfl,_,rfl,p,_,_,_,rfl,rfl,et2,rfl,a,d,cs,l,r,_,rfl,vs2,td.l,td.r,by omega,by omega,by omega,by omega,cl,fun cs' H3 f3 vs3 sb3 ij le3=>?_⟩
  have tk23:=vs2.tups f3
  have rt:=(rwy.keep ((Same.tups s12).trans tk23)).take n
  rw [zcq (Nat.le_succ n)] at rt
  have hjc:=zcR l r
  refine ⟨_,rfl,a,d,pc,cs',T,joinT l r,k,vx,n,ws.take n, -1,rfl,vs3,vs2.lst f3 ec,rt,up_down up,(rx1.keep (Same.tups s12)).keep tk23,tk.mono sb3,ij,by rw [ed];omega,by rw [ed];omega,by omega,cl,fun cs8 H8 f8 vs8 sb8 ip8 le8=>?_⟩
  have ep:cutT k T=plug k n T (joinT l r):=by
   unfold cutT
   rw [z,ewl,Nat.add_sub_cancel]
  rw [ep] at q
  exact q cs8 H8 ((Same.fr1 s1).trans ((Same.fr1 s12).trans (f3.trans f8))) vs8 (sb3.trans sb8) ip8 (by omega)
end
end Pv
namespace Pv
open PySem L2
inductive TV (h:Heap):Th→Value→Prop
 | non:TV h .non .none
 | int (i:Int) (t:Tok):TV h (.int i) (.int i t)
 | str (x:Str) (t:Tok):TV h (.str x) (.str x t)
 | tup {a:Addr} {o:Obj} {items:Array Value} {n:Nat} {ts:List Th} (ho:h.get? a=some o) (hc:o.cls=.type "tuple") (hd:o.data=.seq items n) (l:items.size=ts.length)
   (k:∀(i:Nat) (u:Value) (t:Th),items[i]? =some u→ts[i]? =some t→TV h t u):TV h (.tup ts) (.ref a)
theorem TV.of {X:Cx}{pins:List (Addr ×Obj)}{σ:L2.St}{H:Hp}{s:Shared}(I:L2.Inv X pins σ H s){t:Th}{v:V}(r:Rep H t v):∀{u:Value},RelV v u→TV s.heap t u:=by
 induction r with
 | non=>intro u ru;cases (show u=Value.none from ru);exact .non
 | int i=>intro u ru;obtain ⟨k,rfl⟩:=ru;exact .int i k
 | str x=>intro u ru;obtain ⟨k,rfl⟩:=ru;exact .str x k
 | @tup a xs ts e l h ih=>
  intro u ru
  cases (show u=Value.ref a from ru)
  obtain ⟨_,its,rv,o,h1,h2,n,h3⟩:=(show zU X.prog X.w H s.heap a (.tup xs) from I.hok a _ e)
  have hl:=rv.length
  refine .tup h1 h2 h3 (by rw [List.size_toArray];omega) fun i u t eu et=>?_
  have hi:i < xs.length:=by have:=(List.getElem?_eq_some_iff.mp et).1;omega
  have ex:xs[i]? =some xs[i]:=List.getElem?_eq_getElem hi
  obtain ⟨w,ew,rw'⟩:=rv.get ex
  have:u=w:=by
   have e2:its[i]? =some u:=by simpa using eu
   rw [ew] at e2;exact (Option.some.inj e2).symm
  subst this
  exact ih i _ _ ex et rw'
theorem TV.inj {h:Heap}{t:Th}{u:Value}(r:TV h t u):∀{t':Th},TV h t' u→t=t':=by
 induction r with
 | non=>intro t' q;cases q;rfl
 | int i k=>intro t' q;cases q;rfl
 | str x k=>intro t' q;cases q;rfl
 | @tup a o items n ts ho hc hd l k ih=>
  intro t' q
  cases q with
  | @tup _ o' items' n' ts' ho' hc' hd' l' k'=>
   obtain rfl:o=o':=Option.some.inj (ho.symm.trans ho')
   rw [hd] at hd'
   injection hd' with e1 _
   subst e1
   congr 1
   apply List.ext_getElem?
   intro i
   by_cases hi:i < ts.length
   ·have e1:ts[i]? =some ts[i]:=List.getElem?_eq_getElem hi
    have e2:ts'[i]? =some (ts'[i]'(by omega)):=List.getElem?_eq_getElem (by omega)
    have e3:items[i]? =some (items[i]'(by omega)):=Array.getElem?_eq_getElem (by omega)
    rw [e1,e2,ih i _ _ e3 e1 (k' i _ _ e3 e2)]
   ·rw [List.getElem?_eq_none (by omega),List.getElem?_eq_none (by omega)]
def hsh (w:World):Th→Int
 | .non=>0xFCA86420
 | .int i=>hashInt i
 | .str x=>hashStr w x
 | .tup ts=>reduceHash (Builtin.Tuple.tupleHashOf (hshL w ts))
where hshL (w:World):List Th→List Int
 | []=>[]
 | t::ts=>hsh w t::hshL w ts
theorem zfW (w:World):∀ts:List Th,hsh.hshL w ts=ts.map (hsh w)
 | []=>rfl
 | t::ts=>by
  show hsh w t::hsh.hshL w ts=hsh w t::ts.map (hsh w)
  rw [zfW w ts]
section
variable {prog:Program}{w:World}{A:Around}{E:Value→Shared→Prop}{s:Shared}
theorem typeIs_none (s:Shared):s.TypeIs .none "NoneType" :=by
 first | rfl | trivial | exact ⟨_,rfl⟩
theorem zid {Q:Int→Shared→Prop}(h:∀k,Q 0xFCA86420 {s with toks:=k}):wpAny (model prog w) A (pyHash .none) Q E s:=by
 unfold pyHash
 have hv:[Value.none].any Value.onHeap=false:=rfl
 unfold pyHashByItsType
 refine wpAny_bind ?_
 rw [cRoomFor,if_neg (by rw [hv];exact Bool.false_ne_true)];refine wpAny_pure ?_
 refine wpAny_bind (wpAny_specialOf (typeIs_none s) F.slot_NoneType_hash.lookup ?_)
 show wpAny _ _ (if (some (Value.builtin "NoneType.__hash__")==some Value.none)=true then _ else _) Q E s
 rw [if_neg (by rw [beq_builtin_none];exact Bool.false_ne_true)]
 refine wpAny_bind (wpAny_specialOf (typeIs_none s) F.slot_NoneType_hash.lookup ?_)
 show wpAny _ _ (callSpecialIfBoundUnlessNone? .none "__hash__" _ >>=_) Q E s
 refine wpAny_bind (wpAny_callSpecialIfBoundUnlessNone?_slot (typeIs_none s) F.slot_NoneType_hash
  (wpAny_call_entry F.slot_NoneType_hash (typeIs_none s) F.entry_NoneType_hash (show wpAny _ _ (do ret (←mkInt 0xFCA86420)) _ _ s from wpAny_ret_mkInt ?_) (F.args_NoneType_hash_1 _)))
 show wpAny _ _ (if (decide (-(2:Int) ^ 63≤0xFCA86420) && decide ((0xFCA86420:Int) < 2 ^ 63))=true then _ else _) Q E _
 rw [if_pos (by decide+kernel)]
 exact wpAny_pure (h _)
theorem zjx {t:Th}{u:Value}(r:TV s.heap t u):∀{A:Around} {E:Value→Shared→Prop} {Q:Int→Shared→Prop} {n:Nat},A.units+4 * dep t < cLine→(∀k,Q (hsh w t) {s with toks:=k})→wpAny (model prog w) A (pyHash u) Q E {s with toks:=n}:=by
 induction r with
 | non=>intro A E Q n _ h;exact zid fun k=>h k
 | int i k=>intro A E Q n _ h;exact wpAny_pyHash_int (h _)
 | str x k=>intro A E Q n _ h;exact wpAny_pyHash_str (h _)
 | @tup a o items m ts ho hc hd l k ih=>
  intro A E Q n hu h
  have hT:({s with toks:=n}:Shared).TypeIs (.ref a) "tuple" :=⟨o,ho,hc⟩
  have hdep:dep (.tup ts)=depL ts+1:=rfl
  unfold pyHash
  first | unfold pyHashByItsType | skip
  refine wpAny_bind (wpAny_cRoomFor_or (.inr (by omega)) ?_)
  refine wpAny_bind (wpAny_specialOf hT F.slot_tuple_hash.lookup ?_)
  show wpAny _ _ (if (some (Value.builtin "tuple.__hash__")==some Value.none)=true then _ else _) Q E _
  rw [if_neg (by rw [beq_builtin_none];exact Bool.false_ne_true)]
  refine wpAny_bind (wpAny_specialOf hT F.slot_tuple_hash.lookup ?_)
  show wpAny _ _ (callSpecialIfBoundUnlessNone? (.ref a) "__hash__" _ >>=_) Q E _
  refine wpAny_bind (wpAny_callSpecialIfBoundUnlessNone?_slot hT F.slot_tuple_hash (wpAny_call_entry F.slot_tuple_hash hT F.entry_tuple_hash ?_ (F.args_tuple_hash_1 _)))
  show wpAny _ _ (Builtin.Tuple.tupleItemsOf (.ref a) >>=_) _ _ _
  refine wpAny_bind (wpAny_tupleItemsOf (s:={s with toks:=n}) ho hd ?_)
  refine wpAny_bind ?_
  rw [←Array.forIn_toList]
  refine wpAny_forIn_list _
   (fun rest (b:Array Int) s'=>∃(i:Nat) (n':Nat),i≤ts.length∧rest=items.toList.drop i∧b.toList=(ts.take i).map (hsh w)∧s'={s with toks:=n'})
   _ ?_ ?_ _ _ ⟨0,n,Nat.zero_le _,rfl,rfl,rfl⟩
  ·rintro x rest b s' ⟨i,n',hi,hr,hb,rfl⟩
   have hil:i < items.toList.length:=by
    have:=congrArg List.length hr
    rw [List.length_cons,List.length_drop] at this
    omega
   have hit:i < ts.length:=by rw [Array.length_toList] at hil;omega
   rw [List.drop_eq_getElem_cons hil] at hr
   injection hr with e1 e2
   have ex:items[i]? =some x:=by rw [e1,←Array.getElem?_toList];exact List.getElem?_eq_getElem hil
   have et:ts[i]? =some ts[i]:=List.getElem?_eq_getElem hit
   have hdi:=zaP et
   refine wpAny_bind (ih i x _ ex et (A:=_) (by
    first
    | (show A.in1.units+4 * dep ts[i] < cLine;show A.units+1+4 * dep ts[i] < cLine;omega)
    | omega) fun k'=>?_)
   first
    | exact wpAny_pure ⟨i+1,k',hit,e2,(by rw [Array.toList_push,hb,List.take_add_one,et,List.map_append];rfl),rfl⟩
    | exact wpAny_bind (wpAny_pure (wpAny_pure ⟨i+1,k',hit,e2,(by rw [Array.toList_push,hb,List.take_add_one,et,List.map_append];rfl),rfl⟩))
  ·rintro b s' ⟨i,n',hi,hr,hb,rfl⟩
   have:i=ts.length:=by
    have:=congrArg List.length hr
    rw [List.length_nil,List.length_drop,Array.length_toList] at this
    omega
   subst this
   rw [List.take_length] at hb
   have hQ:hsh w (.tup ts)=reduceHash (Builtin.Tuple.tupleHashOf (ts.map (hsh w))):=by
    show reduceHash (Builtin.Tuple.tupleHashOf (hsh.hshL w ts))=_
    rw [zfW]
   rw [hQ] at h
   show wpAny _ _ (retInt (Builtin.Tuple.tupleHashOf b.toList)) _ _ _
   rw [hb]
   refine wpAny_ret_mkInt ?_
   show wpAny _ _ (if (decide (-(2:Int) ^ 63≤Builtin.Tuple.tupleHashOf (ts.map (hsh w))) && decide (Builtin.Tuple.tupleHashOf (ts.map (hsh w)) < 2 ^ 63))=true then _ else _) Q E _
   unfold reduceHash at h
   by_cases hr:(decide (-(2:Int) ^ 63≤Builtin.Tuple.tupleHashOf (ts.map (hsh w))) && decide (Builtin.Tuple.tupleHashOf (ts.map (hsh w)) < 2 ^ 63))=true
   ·rw [if_pos hr]
    simp only [if_pos hr] at h
    exact wpAny_pure (h _)
   ·rw [if_neg hr]
    simp only [if_neg hr] at h
    exact wpAny_bind (wpAny_rule (wpAny_pure (h _)))
end
end Pv
namespace Pv
open PySem L2
open PySem.SeqAt in
section
variable {prog:Program}{w:World}{A:Around}{E:Value→Shared→Prop}{s:Shared}
theorem zgz:isSubtype (.type "tuple") (.type "tuple")=pure true:=by rw [isSubtype_type];kernel_rfl
theorem zg0 {t:Th}{u:Value}(r:TV s.heap t u):∀{n:Nat} {A:Around} {E:Value→Shared→Prop} {Q:Bool→Shared→Prop},dep t≤n→Q true s→wpAny (model prog w) A (eqIsQuiet n u) Q E s:=by
 induction r with
 | non=>intro n A E Q _ h;rw [eqIsQuiet_byValue n rfl];exact wpAny_pure h
 | int i k=>intro n A E Q _ h;rw [eqIsQuiet_byValue n rfl];exact wpAny_pure h
 | str x k=>intro n A E Q _ h;rw [eqIsQuiet_byValue n rfl];exact wpAny_pure h
 | @tup a o items m ts ho hc hd l k ih=>
  intro n A E Q hn h
  have hdep:dep (.tup ts)=depL ts+1:=rfl
  cases n with
  | zero=>omega
  | succ n=>
  have hT:s.TypeIs (.ref a) "tuple" :=⟨o,ho,hc⟩
  unfold eqIsQuiet
  refine wpAny_bind (wpAny_specialOf hT F.slot_tuple_eq.lookup ?_)
  show wpAny _ _ (isInstance (.ref a) (.type "tuple") >>=_) _ _ s
  refine wpAny_bind (wpAny_isInstance hT zgz ?_)
  simp only [Bool.not_true,Bool.false_eq_true,if_false]
  refine wpAny_bind (wpAny_seqItems ho hd ?_)
  refine wpAny_bind ?_
  show wpAny _ _ (forIn items _ _) _ _ s
  rw [←Array.forIn_toList]
  refine wpAny_forIn_list _ (fun rest r s'=>r.1=none∧s'=s∧∃i,i≤ts.length∧rest=items.toList.drop i) _ ?_ ?_ _ _ ⟨rfl,rfl,0,Nat.zero_le _,rfl⟩
  ·rintro v rest r s' ⟨hr0,rfl,i,hi,hr⟩
   have hil:i < items.toList.length:=by
    have:=congrArg List.length hr
    rw [List.length_cons,List.length_drop] at this
    omega
   have hit:i < ts.length:=by rw [Array.length_toList] at hil;omega
   rw [List.drop_eq_getElem_cons hil] at hr
   injection hr with e1 e2
   have ex:items[i]? =some v:=by rw [e1,←Array.getElem?_toList];exact List.getElem?_eq_getElem hil
   have et:ts[i]? =some ts[i]:=List.getElem?_eq_getElem hit
   have hdi:=zaP et
   refine wpAny_bind (ih i v _ ex et (n:=n) (by omega) ?_)
   simp only [Bool.not_true,Bool.false_eq_true,if_false]
   exact wpAny_pure ⟨rfl,rfl,i+1,hit,e2⟩
  ·rintro ⟨r1,r2⟩ s' ⟨hr,rfl,_⟩
   simp only at hr
   subst hr
   exact wpAny_pure h
abbrev Ent:=Th ×Value ×Value
def entT (w:World)(x:Ent):DictEntry:=⟨hsh w x.1,x.2.1,x.2.2⟩
theorem zbN {es:Array DictEntry}{xs:List Ent}(he:es.toList=xs.map (entT w))(j:Nat):es[j]? =(xs[j]?).map (entT w):=by
 rw [←Array.getElem?_toList,he,List.getElem?_map]
theorem zb2 {es:Array DictEntry}{xs:List Ent}(he:es.toList=xs.map (entT w)):es.size=xs.length:=by
 rw [←Array.length_toList,he,List.length_map]
theorem zdG {xs:List Ent}(hn:(xs.map (·.1)).Nodup):∀{i j:Nat} {k:Th} {p q:Value ×Value},xs[i]? =some (k,p)→xs[j]? =some (k,q)→i=j:=by
 intro i j k p q hi hj
 have hi':(xs.map (·.1))[i]? =some k:=by rw [List.getElem?_map,hi];rfl
 have hj':(xs.map (·.1))[j]? =some k:=by rw [List.getElem?_map,hj];rfl
 exact (List.getElem?_inj (List.getElem?_eq_some_iff.mp hi').1 hn).mp (hi'.trans hj'.symm)
theorem zdS {t:Th}{u:Value}{stored:List Value}{Q:Bool→Shared→Prop}(hkey:TV s.heap t u)(h8:dep t≤8)(hst:∀v∈stored,∃t',TV s.heap t' v∧dep t'≤8)(h:Q false s):wpAny (model prog w) A (tableMayTell u stored) Q E s:=by
 unfold tableMayTell
 split
 ·exact wpAny_pure h
 ·refine wpAny_bind (zg0 hkey h8 ?_)
  simp only [Bool.not_true,Bool.false_eq_true,if_false]
  refine wpAny_bind ?_
  refine wpAny_forIn_list _ (fun rest r s'=>s'=s∧r=(none,())∧∀v∈rest,∃t',TV s.heap t' v∧dep t'≤8) _ ?_ ?_ _ _ ⟨rfl,rfl,hst⟩
  ·rintro x rest r s' ⟨rfl,rfl,hr⟩
   obtain ⟨t',ht',h8'⟩:=hr x List.mem_cons_self
   refine wpAny_bind (zg0 ht' h8' ?_)
   simp only [Bool.not_true,Bool.false_eq_true,if_false]
   exact wpAny_pure ⟨rfl,rfl,fun v hv=>hr v (List.mem_cons_of_mem _ hv)⟩
  ·rintro r s' ⟨rfl,rfl,_⟩
   exact wpAny_pure h
structure FK (w:World)(A:Around)(s:Shared)(d:Addr)(o:Obj)(es:Array DictEntry)(ep:Nat)(xs:List Ent)(t:Th)(key:Value):Prop where
 tv:TV s.heap t key
 h8:dep t≤8
 ho:s.heap.get? d=some o
 hd:o.data=.dict es ep
 he:es.toList=xs.map (entT w)
 is:∀x∈xs,TV s.heap x.1 x.2.1∧dep x.1≤8
 eq:∀x∈xs,EqAt A s x.2.1 key (eqT x.1 t)
 nd:(xs.map (·.1)).Nodup
variable {d:Addr}{o:Obj}{es:Array DictEntry}{ep:Nat}{xs:List Ent}{t:Th}{key:Value}{Q:Option Nat→Shared→Prop}
theorem FK.has (F:FK w A s d o es ep xs t key)(j:Nat)(p:Value ×Value)(hj:xs[j]? =some (t,p)):((es[j]?.map (·.hash))==some (hsh w t))=true:=by
 rw [zbN F.he j,hj]
 simp [entT]
theorem FK.mem (F:FK w A s d o es ep xs t key):∀e∈es,∃x∈xs,e=entT w x:=by
 intro e hin
 have:e∈xs.map (entT w):=F.he ▸ Array.mem_toList_iff.mpr hin
 obtain ⟨x,hx,rfl⟩:=List.mem_map.mp this
 exact ⟨x,hx,rfl⟩
theorem zf9 (F:FK w A s d o es ep xs t key)(hnone:(∀(j:Nat) (p:Value ×Value),xs[j]? ≠some (t,p))→Q none s)(hsome:∀(j:Nat) (p:Value ×Value),xs[j]? =some (t,p)→Q (some j) s):
  wpAny (model prog w) A (dictWalkPlain d key (hsh w t) es (placesWithHash es.size (fun i=>es[i]?.map (·.hash)) (hsh w t))) Q E s:=by
 have hsz:es.size=xs.length:=zb2 F.he
 refine wpAny_bind ?_
 refine wpAny_forIn_list _
  (fun rest b s'=>s'=s∧b=(none,())∧∃i,rest=(List.range' i (es.size - i)).filter (fun i=>(es[i]?.map (·.hash))==some (hsh w t))∧i≤es.size∧
   ∀j p,j < i→xs[j]? ≠some (t,p)) _ ?_ ?_ _ _
  ⟨rfl,rfl,0,by rw [placesWithHash,List.range_eq_range',Nat.sub_zero],Nat.zero_le _,fun _ _ h=>absurd h (Nat.not_lt_zero _)⟩
 ·rintro x rest b s' ⟨rfl,rfl,i,hr,hi,hno⟩
  obtain ⟨hix,hxn,hpx,hskip,hrest⟩:=filter_range'_cons _ _ _ _ _ hr.symm
  have hlt:x < es.size:=by omega
  have hxl:x < xs.length:=by omega
  obtain ⟨⟨t',kv,v'⟩,hkv⟩:∃y,xs[x]? =some y:=⟨xs[x],List.getElem?_eq_getElem hxl⟩
  have hex:es[x]? =some ⟨hsh w t',kv,v'⟩:=by rw [zbN F.he x,hkv];rfl
  have hno':∀j p,j < x→xs[j]? ≠some (t,p):=fun j p hjx hj=>by
   rcases Nat.lt_or_ge j i with h | h
   ·exact hno j p h hj
   ·have:=hskip j h hjx
    rw [F.has j p hj] at this
    exact absurd this (by decide)
  have hnext:¬t'=t→∃i,rest=(List.range' i (es.size - i)).filter (fun i=>(es[i]?.map (·.hash))==some (hsh w t))∧i≤es.size∧∀j p,j < i→xs[j]? ≠some (t,p):=fun hne=>
   ⟨x+1,by rw [hrest];congr 2;omega,hlt,fun j p hji hj=>by
    rcases Nat.lt_or_ge j x with h' | h'
    ·exact hno' j p h' hj
    ·have:j=x:=by omega
     subst this
     rw [hkv] at hj
     injection hj with hj
     injection hj with hj
     exact hne hj⟩
  rw [hex]
  dsimp only
  by_cases hh:(hsh w t'==hsh w t)=true
  ·rw [if_pos hh]
   refine wpAny_bind (wpAny_dictEpoch F.ho F.hd (wpAny_bind (F.eq _ (List.mem_of_getElem? hkv) _ _ _ _ (wpAny_bind (wpAny_dictEpoch F.ho F.hd ?_)))))
   show wpAny _ _ (if (ep !=ep)=true then _ else _) _ E _
   rw [if_neg (by simp)]
   cases z:eqT t' t with
   | true=>
    have:t'=t:=(zab t' t).mp z
    subst this
    exact wpAny_bind (wpAny_rule (wpAny_pure (wpAny_pure (hsome x _ hkv))))
   | false=>
    have hne:¬t'=t:=fun e=>by rw [e,zY] at z;cases z
    exact wpAny_bind (wpAny_rule (wpAny_pure ⟨rfl,rfl,hnext hne⟩))
  ·rw [if_neg hh]
   exact wpAny_pure ⟨rfl,rfl,hnext fun e=>by rw [e] at hh;simp at hh⟩
 ·rintro b s' ⟨rfl,rfl,i,hr,hi,hno⟩
  refine wpAny_pure (hnone fun j p hj=>?_)
  rcases Nat.lt_or_ge j i with h | h
  ·exact hno j p h hj
  ·have hjl:j < es.size:=by
    rw [hsz]
    exact (List.getElem?_eq_some_iff.mp hj).1
   have:=List.filter_eq_nil_iff.mp hr.symm j (List.mem_range'_1.mpr ⟨h,by omega⟩)
   exact this (F.has j p hj)
end
end Pv
namespace Pv
open PySem L2
open PySem.SeqAt in
section
variable {prog:Program}{w:World}{A:Around}{E:Value→Shared→Prop}{s:Shared}{d:Addr}{o:Obj}{es:Array DictEntry}{ep:Nat}{xs:List Ent}{t:Th}{key:Value}{Q:Option Nat→Shared→Prop}
theorem FK.st (F:FK w A s d o es ep xs t key):∀v∈(placesWithHash es.size (fun i=>es[i]?.map (·.hash)) (hsh w t)).filterMap (fun i=>es[i]?.map (·.key)),∃t',TV s.heap t' v∧dep t'≤8:=by
 intro v hv
 obtain ⟨i,_,hi⟩:=List.mem_filterMap.mp hv
 cases hei:es[i]? with
 | none=>rw [hei] at hi;cases hi
 | some e=>
  rw [hei] at hi
  obtain rfl:e.key=v:=by simpa using hi
  obtain ⟨x,hx,rfl⟩:=F.mem e (Array.mem_of_getElem? hei)
  exact ⟨x.1,(F.is x hx).1,(F.is x hx).2⟩
theorem ziT {a:Addr}(F:FK w A s d o es ep xs t (.ref a))(hnone:(∀(j:Nat) (p:Value ×Value),xs[j]? ≠some (t,p))→Q none s)(hsome:∀(j:Nat) (p:Value ×Value),xs[j]? =some (t,p)→Q (some j) s):
  wpAny (model prog w) A (dictFind d (.ref a) (hsh w t)) Q E s:=by
 have hany:¬(es.any fun e=>e.key==Value.ref a && e.hash !=hsh w t)=true:=by
  rw [←Array.any_toList,List.any_eq_true]
  rintro ⟨e,hin,hc⟩
  obtain ⟨x,hx,rfl⟩:=F.mem e (Array.mem_toList_iff.mp hin)
  simp only [entT,Bool.and_eq_true,beq_iff_eq,bne_iff_ne,ne_eq] at hc
  obtain ⟨hxa,hne⟩:=hc
  have:=(F.is x hx).1
  rw [hxa] at this
  exact hne (by rw [this.inj F.tv])
 have hsz:es.size=xs.length:=zb2 F.he
 have hst:∀v∈(placesWithHash es.size (fun i=>es[i]?.map (·.hash)) (hsh w t)).filterMap (fun i=>es[i]?.map (·.key)),∃t',TV s.heap t' v∧dep t'≤8:=F.st
 unfold dictFind
 try with_reducible refine wpAny_holding ?_
 refine wpAny_bind (wpAny_dictEntries F.ho F.hd ?_)
 dsimp only
 by_cases hall:((Value.ref a::(placesWithHash es.size (fun i=>es[i]?.map (·.hash)) (hsh w t)).filterMap (fun i=>es[i]?.map (·.key))).all carriedByValue)=true
 ·rw [if_pos hall]
  exact zf9 F hnone hsome
 ·rw [if_neg hall]
  rw [if_neg hany]
  by_cases hone:(((placesWithHash es.size (fun i=>es[i]?.map (·.hash)) (hsh w t)).filterMap (fun i=>es[i]?.map (·.key)))==[Value.ref a])=true <;>
  (first | rw [if_pos hone] | rw [if_neg hone]) <;> (first | refine wpAny_bind (wpAny_pure ?_) | refine wpAny_bind (zdS F.tv F.h8 hst ?_)) <;> (
   rw [if_neg (by simp)]
   refine wpAny_bind ?_
   refine wpAny_forIn_list _
    (fun rest b s'=>s'=s∧∃i hit,b=(none,hit)∧rest=(List.range' i (es.size - i)).filter (fun i=>(es[i]?.map (·.hash))==some (hsh w t))∧i≤es.size∧
     ((hit=none∧∀j p,j < i→xs[j]? ≠some (t,p))∨∃j p,hit=some j∧j < i∧xs[j]? =some (t,p))) _ ?_ ?_ _ _
    ⟨rfl,0,none,rfl,by rw [placesWithHash,List.range_eq_range',Nat.sub_zero],Nat.zero_le _,.inl ⟨rfl,fun _ _ h=>absurd h (Nat.not_lt_zero _)⟩⟩
   ·rintro x rest b s' ⟨rfl,i,hit,rfl,hr,hi,hH⟩
    obtain ⟨hix,hxn,hpx,hskip,hrest⟩:=filter_range'_cons _ _ _ _ _ hr.symm
    have hlt:x < es.size:=by omega
    have hxl:x < xs.length:=by omega
    have hrest':rest=(List.range' (x+1) (es.size - (x+1))).filter (fun i=>(es[i]?.map (·.hash))==some (hsh w t)):=by rw [hrest];congr 2;omega
    obtain ⟨⟨t',kv,v'⟩,hkv⟩:∃y,xs[x]? =some y:=⟨xs[x],List.getElem?_eq_getElem hxl⟩
    have hex:es[x]? =some ⟨hsh w t',kv,v'⟩:=by rw [zbN F.he x,hkv];rfl
    have hHx:(hit=none∧∀j p,j < x→xs[j]? ≠some (t,p))∨∃j p,hit=some j∧j < x∧xs[j]? =some (t,p):=by
     rcases hH with ⟨h0,hno⟩ | ⟨j,p,h1,hji,hj⟩
     ·refine .inl ⟨h0,fun j p hjx hj=>?_⟩
      rcases Nat.lt_or_ge j i with h | h
      ·exact hno j p h hj
      ·have:=hskip j h hjx
       rw [F.has j p hj] at this
       exact absurd this (by decide)
     ·exact .inr ⟨j,p,h1,by omega,hj⟩
    have hstay:¬t'=t→((hit=none∧∀j p,j < x+1→xs[j]? ≠some (t,p))∨∃j p,hit=some j∧j < x+1∧xs[j]? =some (t,p)):=by
     intro hne
     rcases hHx with ⟨h0,hno⟩ | ⟨j,p,h1,hjx,hj⟩
     ·refine .inl ⟨h0,fun j p hjx hj=>?_⟩
      rcases Nat.lt_or_ge j x with h | h
      ·exact hno j p h hj
      ·have hjx':j=x:=by omega
       subst hjx'
       rw [hkv] at hj
       injection hj with hj
       injection hj with hj
       exact hne hj
     ·exact .inr ⟨j,p,h1,by omega,hj⟩
    rw [hex]
    dsimp only
    by_cases hh:(hsh w t'==hsh w t)=true
    ·rw [if_pos hh]
     refine wpAny_bind (wpAny_dictEpoch F.ho F.hd (wpAny_bind (F.eq _ (List.mem_of_getElem? hkv) _ _ _ _ (wpAny_bind (wpAny_dictEpoch F.ho F.hd ?_)))))
     show wpAny _ _ (if (ep !=ep)=true then _ else _) _ E _
     rw [if_neg (by simp)]
     cases z:eqT t' t with
     | true=>
      have hkk:t'=t:=(zab t' t).mp z
      subst hkk
      rcases hHx with ⟨rfl,_⟩ | ⟨j,p,_,hjx,hj⟩
      ·first | rw [if_pos rfl] | skip
       simp only [Option.isSome_none,Bool.false_eq_true,if_false]
       first | refine wpAny_bind (wpAny_pure ?_) | skip
       refine wpAny_bind (wpAny_rule ?_)
       split
       ·exact wpAny_pure (wpAny_pure (hsome x _ hkv))
       ·exact wpAny_pure ⟨rfl,x+1,some x,rfl,hrest',hlt,.inr ⟨x,_,rfl,Nat.lt_succ_self x,hkv⟩⟩
      ·exact absurd (zdG F.nd hj hkv) (by omega)
     | false=>
      have hkk:¬t'=t:=fun e=>by rw [e,zY] at z;cases z
      simp only [Bool.false_eq_true,if_false]
      refine wpAny_bind (wpAny_rule ?_)
      first | rw [if_neg (by simp)] | skip
      first
       | exact wpAny_pure ⟨rfl,x+1,hit,rfl,hrest',hlt,hstay hkk⟩
       | exact wpAny_bind (wpAny_pure (wpAny_pure ⟨rfl,x+1,hit,rfl,hrest',hlt,hstay hkk⟩))
    ·rw [if_neg hh]
     refine wpAny_pure ⟨rfl,x+1,hit,rfl,hrest',hlt,hstay ?_⟩
     intro hkk
     rw [hkk] at hh;simp at hh
   ·rintro b s' ⟨rfl,i,hit,rfl,hr,hi,hH⟩
    have hall2:∀j,i≤j→j < es.size→((es[j]?.map (·.hash))==some (hsh w t))=false:=by
     intro j h1 h2
     have:=List.filter_eq_nil_iff.mp hr.symm j (List.mem_range'_1.mpr ⟨h1,by omega⟩)
     simpa using this
    rcases hH with ⟨rfl,hno⟩ | ⟨j,p,rfl,_,hj⟩
    ·refine wpAny_pure (hnone fun j p hj=>?_)
     rcases Nat.lt_or_ge j i with h | h
     ·exact hno j p h hj
     ·have hjl:j < es.size:=by
       rw [hsz]
       exact (List.getElem?_eq_some_iff.mp hj).1
      have:=hall2 j h hjl
      rw [F.has j p hj] at this
      exact absurd this (by decide)
    ·exact wpAny_pure (hsome j p hj))
theorem ziu {n:Int}{k:Tok}(F:FK w A s d o es ep xs t (.int n k))(hnone:(∀(j:Nat) (p:Value ×Value),xs[j]? ≠some (t,p))→Q none s)(hsome:∀(j:Nat) (p:Value ×Value),xs[j]? =some (t,p)→Q (some j) s):
  wpAny (model prog w) A (dictFind d (.int n k) (hsh w t)) Q E s:=by
 have hsz:es.size=xs.length:=zb2 F.he
 have hst:∀v∈(placesWithHash es.size (fun i=>es[i]?.map (·.hash)) (hsh w t)).filterMap (fun i=>es[i]?.map (·.key)),∃t',TV s.heap t' v∧dep t'≤8:=F.st
 unfold dictFind
 try with_reducible refine wpAny_holding ?_
 refine wpAny_bind (wpAny_dictEntries F.ho F.hd ?_)
 dsimp only
 by_cases hall:((Value.int n k::(placesWithHash es.size (fun i=>es[i]?.map (·.hash)) (hsh w t)).filterMap (fun i=>es[i]?.map (·.key))).all carriedByValue)=true
 ·rw [if_pos hall]
  exact zf9 F hnone hsome
 ·rw [if_neg hall]
  by_cases hone:(((placesWithHash es.size (fun i=>es[i]?.map (·.hash)) (hsh w t)).filterMap (fun i=>es[i]?.map (·.key)))==[Value.int n k])=true <;>
  (first | rw [if_pos hone] | rw [if_neg hone]) <;> (first | refine wpAny_bind (wpAny_pure ?_) | refine wpAny_bind (zdS F.tv F.h8 hst ?_)) <;> (
   rw [if_neg (by simp)]
   refine wpAny_bind ?_
   refine wpAny_forIn_list _
    (fun rest b s'=>s'=s∧∃i hit,b=(none,hit)∧rest=(List.range' i (es.size - i)).filter (fun i=>(es[i]?.map (·.hash))==some (hsh w t))∧i≤es.size∧
     ((hit=none∧∀j p,j < i→xs[j]? ≠some (t,p))∨∃j p,hit=some j∧j < i∧xs[j]? =some (t,p))) _ ?_ ?_ _ _
    ⟨rfl,0,none,rfl,by rw [placesWithHash,List.range_eq_range',Nat.sub_zero],Nat.zero_le _,.inl ⟨rfl,fun _ _ h=>absurd h (Nat.not_lt_zero _)⟩⟩
   ·rintro x rest b s' ⟨rfl,i,hit,rfl,hr,hi,hH⟩
    obtain ⟨hix,hxn,hpx,hskip,hrest⟩:=filter_range'_cons _ _ _ _ _ hr.symm
    have hlt:x < es.size:=by omega
    have hxl:x < xs.length:=by omega
    have hrest':rest=(List.range' (x+1) (es.size - (x+1))).filter (fun i=>(es[i]?.map (·.hash))==some (hsh w t)):=by rw [hrest];congr 2;omega
    obtain ⟨⟨t',kv,v'⟩,hkv⟩:∃y,xs[x]? =some y:=⟨xs[x],List.getElem?_eq_getElem hxl⟩
    have hex:es[x]? =some ⟨hsh w t',kv,v'⟩:=by rw [zbN F.he x,hkv];rfl
    have hHx:(hit=none∧∀j p,j < x→xs[j]? ≠some (t,p))∨∃j p,hit=some j∧j < x∧xs[j]? =some (t,p):=by
     rcases hH with ⟨h0,hno⟩ | ⟨j,p,h1,hji,hj⟩
     ·refine .inl ⟨h0,fun j p hjx hj=>?_⟩
      rcases Nat.lt_or_ge j i with h | h
      ·exact hno j p h hj
      ·have:=hskip j h hjx
       rw [F.has j p hj] at this
       exact absurd this (by decide)
     ·exact .inr ⟨j,p,h1,by omega,hj⟩
    have hstay:¬t'=t→((hit=none∧∀j p,j < x+1→xs[j]? ≠some (t,p))∨∃j p,hit=some j∧j < x+1∧xs[j]? =some (t,p)):=by
     intro hne
     rcases hHx with ⟨h0,hno⟩ | ⟨j,p,h1,hjx,hj⟩
     ·refine .inl ⟨h0,fun j p hjx hj=>?_⟩
      rcases Nat.lt_or_ge j x with h | h
      ·exact hno j p h hj
      ·have hjx':j=x:=by omega
       subst hjx'
       rw [hkv] at hj
       injection hj with hj
       injection hj with hj
       exact hne hj
     ·exact .inr ⟨j,p,h1,by omega,hj⟩
    rw [hex]
    dsimp only
    by_cases hh:(hsh w t'==hsh w t)=true
    ·rw [if_pos hh]
     refine wpAny_bind (wpAny_dictEpoch F.ho F.hd (wpAny_bind (F.eq _ (List.mem_of_getElem? hkv) _ _ _ _ (wpAny_bind (wpAny_dictEpoch F.ho F.hd ?_)))))
     show wpAny _ _ (if (ep !=ep)=true then _ else _) _ E _
     rw [if_neg (by simp)]
     cases z:eqT t' t with
     | true=>
      have hkk:t'=t:=(zab t' t).mp z
      subst hkk
      rcases hHx with ⟨rfl,_⟩ | ⟨j,p,_,hjx,hj⟩
      ·first | rw [if_pos rfl] | skip
       simp only [Option.isSome_none,Bool.false_eq_true,if_false]
       first | refine wpAny_bind (wpAny_pure ?_) | skip
       refine wpAny_bind (wpAny_rule ?_)
       split
       ·exact wpAny_pure (wpAny_pure (hsome x _ hkv))
       ·exact wpAny_pure ⟨rfl,x+1,some x,rfl,hrest',hlt,.inr ⟨x,_,rfl,Nat.lt_succ_self x,hkv⟩⟩
      ·exact absurd (zdG F.nd hj hkv) (by omega)
     | false=>
      have hkk:¬t'=t:=fun e=>by rw [e,zY] at z;cases z
      simp only [Bool.false_eq_true,if_false]
      refine wpAny_bind (wpAny_rule ?_)
      first | rw [if_neg (by simp)] | skip
      first
       | exact wpAny_pure ⟨rfl,x+1,hit,rfl,hrest',hlt,hstay hkk⟩
       | exact wpAny_bind (wpAny_pure (wpAny_pure ⟨rfl,x+1,hit,rfl,hrest',hlt,hstay hkk⟩))
    ·rw [if_neg hh]
     refine wpAny_pure ⟨rfl,x+1,hit,rfl,hrest',hlt,hstay ?_⟩
     intro hkk
     rw [hkk] at hh;simp at hh
   ·rintro b s' ⟨rfl,i,hit,rfl,hr,hi,hH⟩
    have hall2:∀j,i≤j→j < es.size→((es[j]?.map (·.hash))==some (hsh w t))=false:=by
     intro j h1 h2
     have:=List.filter_eq_nil_iff.mp hr.symm j (List.mem_range'_1.mpr ⟨h1,by omega⟩)
     simpa using this
    rcases hH with ⟨rfl,hno⟩ | ⟨j,p,rfl,_,hj⟩
    ·refine wpAny_pure (hnone fun j p hj=>?_)
     rcases Nat.lt_or_ge j i with h | h
     ·exact hno j p h hj
     ·have hjl:j < es.size:=by
       rw [hsz]
       exact (List.getElem?_eq_some_iff.mp hj).1
      have:=hall2 j h hjl
      rw [F.has j p hj] at this
      exact absurd this (by decide)
    ·exact wpAny_pure (hsome j p hj))
theorem zih {y:Str}{k:Tok}(F:FK w A s d o es ep xs t (.str y k))(hnone:(∀(j:Nat) (p:Value ×Value),xs[j]? ≠some (t,p))→Q none s)(hsome:∀(j:Nat) (p:Value ×Value),xs[j]? =some (t,p)→Q (some j) s):
  wpAny (model prog w) A (dictFind d (.str y k) (hsh w t)) Q E s:=by
 have et:t=.str y:=by have:=F.tv;cases this;rfl
 have hsz:es.size=xs.length:=zb2 F.he
 have hst:∀v∈(placesWithHash es.size (fun i=>es[i]?.map (·.hash)) (hsh w t)).filterMap (fun i=>es[i]?.map (·.key)),∃t',TV s.heap t' v∧dep t'≤8:=F.st
 unfold dictFind
 try with_reducible refine wpAny_holding ?_
 refine wpAny_bind (wpAny_dictEntries F.ho F.hd ?_)
 dsimp only
 by_cases hex:(es.all fun e=>isExactStrKey e.key)=true
 ·rw [if_pos hex]
  unfold foundByValue
  have isk:∀(j:Nat) (t':Th) (kv v':Value),xs[j]? =some (t',kv,v')→(kv.isStr y=true↔t'=t):=fun j t' kv v' hj=>by
   have h1:=(F.is _ (List.mem_of_getElem? hj)).1
   have h2:isExactStrKey kv=true:=by
    rw [Array.all_eq_true] at hex
    have hjl:j < es.size:=by rw [hsz];exact (List.getElem?_eq_some_iff.mp hj).1
    have h3:=hex j hjl
    have h4:=zbN F.he j
    rw [hj,Array.getElem?_eq_getElem hjl] at h4
    have h5:es[j]=entT w (t',kv,v'):=by simpa using h4
    rw [h5] at h3
    exact h3
   rw [et]
   have h1':TV s.heap t' kv:=h1
   cases h1' with
   | str z k'=>
    constructor
    ·intro h
     have:z=y:=by simpa [Value.isStr] using h
     rw [this]
    ·intro h
     cases h
     simp [Value.isStr]
   | _=>cases h2
  cases hf:es.findIdx? (fun e=>e.key.isStr y) with
  | none=>
   dsimp only
   refine wpAny_pure (hnone fun j p hj=>?_)
   rw [Array.findIdx?_eq_none_iff] at hf
   have hjl:j < es.size:=by rw [hsz];exact (List.getElem?_eq_some_iff.mp hj).1
   have h4:=zbN F.he j
   rw [hj,Array.getElem?_eq_getElem hjl] at h4
   have h5:es[j]=entT w (t,p):=by simpa using h4
   have h6:=hf es[j] (Array.getElem_mem hjl)
   rw [h5] at h6
   have h7:=(isk j t p.1 p.2 hj).mpr rfl
   have h8:p.1.isStr y=false:=h6
   rw [h7] at h8;cases h8
  | some i=>
   obtain ⟨hil,hi1,_⟩:=Array.findIdx?_eq_some_iff_getElem.mp hf
   have hixl:i < xs.length:=by omega
   obtain ⟨⟨t',kv,v'⟩,hkv⟩:∃z,xs[i]? =some z:=⟨xs[i],List.getElem?_eq_getElem hixl⟩
   have h4:es[i]? =some ⟨hsh w t',kv,v'⟩:=by rw [zbN F.he i,hkv];rfl
   have h5:es[i]=⟨hsh w t',kv,v'⟩:=by rw [Array.getElem?_eq_getElem hil] at h4;exact Option.some.inj h4
   have h6:kv.isStr y=true:=by rw [h5] at hi1;exact hi1
   have h7:t'=t:=(isk i t' kv v' hkv).mp h6
   subst h7
   dsimp only
   rw [h4]
   dsimp only
   refine wpAny_bind (wpAny_dictEpoch F.ho F.hd (wpAny_bind (F.eq _ (List.mem_of_getElem? hkv) _ _ _ _ (wpAny_bind (wpAny_dictEpoch F.ho F.hd ?_)))))
   show wpAny _ _ (if (ep !=ep)=true then _ else _) _ E _
   rw [if_neg (by simp),zY]
   exact wpAny_bind (wpAny_rule (wpAny_pure (hsome i _ hkv)))
 ·rw [if_neg hex]
  by_cases hall:((Value.str y k::(placesWithHash es.size (fun i=>es[i]?.map (·.hash)) (hsh w t)).filterMap (fun i=>es[i]?.map (·.key))).all carriedByValue)=true
  ·rw [if_pos hall]
   exact zf9 F hnone hsome
  ·rw [if_neg hall]
   by_cases hone:(((placesWithHash es.size (fun i=>es[i]?.map (·.hash)) (hsh w t)).filterMap (fun i=>es[i]?.map (·.key)))==[Value.str y k])=true <;>
   (first | rw [if_pos hone] | rw [if_neg hone]) <;> (first | refine wpAny_bind (wpAny_pure ?_) | refine wpAny_bind (zdS F.tv F.h8 hst ?_)) <;> (
    rw [if_neg (by simp)]
    refine wpAny_bind ?_
    refine wpAny_forIn_list _
     (fun rest b s'=>s'=s∧∃i hit,b=(none,hit)∧rest=(List.range' i (es.size - i)).filter (fun i=>(es[i]?.map (·.hash))==some (hsh w t))∧i≤es.size∧
      ((hit=none∧∀j p,j < i→xs[j]? ≠some (t,p))∨∃j p,hit=some j∧j < i∧xs[j]? =some (t,p))) _ ?_ ?_ _ _
     ⟨rfl,0,none,rfl,by rw [placesWithHash,List.range_eq_range',Nat.sub_zero],Nat.zero_le _,.inl ⟨rfl,fun _ _ h=>absurd h (Nat.not_lt_zero _)⟩⟩
    ·rintro x rest b s' ⟨rfl,i,hit,rfl,hr,hi,hH⟩
     obtain ⟨hix,hxn,hpx,hskip,hrest⟩:=filter_range'_cons _ _ _ _ _ hr.symm
     have hlt:x < es.size:=by omega
     have hxl:x < xs.length:=by omega
     have hrest':rest=(List.range' (x+1) (es.size - (x+1))).filter (fun i=>(es[i]?.map (·.hash))==some (hsh w t)):=by rw [hrest];congr 2;omega
     obtain ⟨⟨t',kv,v'⟩,hkv⟩:∃y,xs[x]? =some y:=⟨xs[x],List.getElem?_eq_getElem hxl⟩
     have hex:es[x]? =some ⟨hsh w t',kv,v'⟩:=by rw [zbN F.he x,hkv];rfl
     have hHx:(hit=none∧∀j p,j < x→xs[j]? ≠some (t,p))∨∃j p,hit=some j∧j < x∧xs[j]? =some (t,p):=by
      rcases hH with ⟨h0,hno⟩ | ⟨j,p,h1,hji,hj⟩
      ·refine .inl ⟨h0,fun j p hjx hj=>?_⟩
       rcases Nat.lt_or_ge j i with h | h
       ·exact hno j p h hj
       ·have:=hskip j h hjx
        rw [F.has j p hj] at this
        exact absurd this (by decide)
      ·exact .inr ⟨j,p,h1,by omega,hj⟩
     have hstay:¬t'=t→((hit=none∧∀j p,j < x+1→xs[j]? ≠some (t,p))∨∃j p,hit=some j∧j < x+1∧xs[j]? =some (t,p)):=by
      intro hne
      rcases hHx with ⟨h0,hno⟩ | ⟨j,p,h1,hjx,hj⟩
      ·refine .inl ⟨h0,fun j p hjx hj=>?_⟩
       rcases Nat.lt_or_ge j x with h | h
       ·exact hno j p h hj
       ·have hjx':j=x:=by omega
        subst hjx'
        rw [hkv] at hj
        injection hj with hj
        injection hj with hj
        exact hne hj
      ·exact .inr ⟨j,p,h1,by omega,hj⟩
     rw [hex]
     dsimp only
     by_cases hh:(hsh w t'==hsh w t)=true
     ·rw [if_pos hh]
      refine wpAny_bind (wpAny_dictEpoch F.ho F.hd (wpAny_bind (F.eq _ (List.mem_of_getElem? hkv) _ _ _ _ (wpAny_bind (wpAny_dictEpoch F.ho F.hd ?_)))))
      show wpAny _ _ (if (ep !=ep)=true then _ else _) _ E _
      rw [if_neg (by simp)]
      cases z:eqT t' t with
      | true=>
       have hkk:t'=t:=(zab t' t).mp z
       subst hkk
       rcases hHx with ⟨rfl,_⟩ | ⟨j,p,_,hjx,hj⟩
       ·first | rw [if_pos rfl] | skip
        simp only [Option.isSome_none,Bool.false_eq_true,if_false]
        first | refine wpAny_bind (wpAny_pure ?_) | skip
        refine wpAny_bind (wpAny_rule ?_)
        split
        ·exact wpAny_pure (wpAny_pure (hsome x _ hkv))
        ·exact wpAny_pure ⟨rfl,x+1,some x,rfl,hrest',hlt,.inr ⟨x,_,rfl,Nat.lt_succ_self x,hkv⟩⟩
       ·exact absurd (zdG F.nd hj hkv) (by omega)
      | false=>
       have hkk:¬t'=t:=fun e=>by rw [e,zY] at z;cases z
       simp only [Bool.false_eq_true,if_false]
       refine wpAny_bind (wpAny_rule ?_)
       first | rw [if_neg (by simp)] | skip
       first
        | exact wpAny_pure ⟨rfl,x+1,hit,rfl,hrest',hlt,hstay hkk⟩
        | exact wpAny_bind (wpAny_pure (wpAny_pure ⟨rfl,x+1,hit,rfl,hrest',hlt,hstay hkk⟩))
     ·rw [if_neg hh]
      refine wpAny_pure ⟨rfl,x+1,hit,rfl,hrest',hlt,hstay ?_⟩
      intro hkk
      rw [hkk] at hh;simp at hh
    ·rintro b s' ⟨rfl,i,hit,rfl,hr,hi,hH⟩
     have hall2:∀j,i≤j→j < es.size→((es[j]?.map (·.hash))==some (hsh w t))=false:=by
      intro j h1 h2
      have:=List.filter_eq_nil_iff.mp hr.symm j (List.mem_range'_1.mpr ⟨h1,by omega⟩)
      simpa using this
     rcases hH with ⟨rfl,hno⟩ | ⟨j,p,rfl,_,hj⟩
     ·refine wpAny_pure (hnone fun j p hj=>?_)
      rcases Nat.lt_or_ge j i with h | h
      ·exact hno j p h hj
      ·have hjl:j < es.size:=by
        rw [hsz]
        exact (List.getElem?_eq_some_iff.mp hj).1
       have:=hall2 j h hjl
       rw [F.has j p hj] at this
       exact absurd this (by decide)
     ·exact wpAny_pure (hsome j p hj))
theorem zjl (F:FK w A s d o es ep xs t key)(hk:t≠ .non)(hnone:(∀(j:Nat) (p:Value ×Value),xs[j]? ≠some (t,p))→Q none s)(hsome:∀(j:Nat) (p:Value ×Value),xs[j]? =some (t,p)→Q (some j) s):
  wpAny (model prog w) A (dictFind d key (hsh w t)) Q E s:=by
 have tv:=F.tv
 cases tv with
 | non=>exact absurd rfl hk
 | int i k=>exact ziu F hnone hsome
 | str x k=>exact zih F hnone hsome
 | tup ho hc hd l k=>exact ziT F hnone hsome
end
end Pv
set_option maxHeartbeats 400000
namespace Pv
open PySem L2 PySem.Spec PyProof.Rows
abbrev Kv:=Th ×V ×V
def zkJ (w:World)(x:Kv)(e:DictEntry):Prop:=e.hash=hsh w x.1∧RelV x.2.1 e.key∧RelV x.2.2 e.val
def IsTD (w:World)(d:Addr)(xs:List Kv)(h:Heap):Prop:=
 (d==sysModules)=false∧xs.length≤sizeLine∧∃o es ep,h.get? d=some o∧o.ExactDict∧o.data=.dict es ep∧Paired (zkJ w) xs es.toList
def TD (w:World)(d:Addr)(xs:List Kv):HO:=.ext (IsTD w d xs)
def vT (xs:List Kv)(t:Th):Option V:=(xs.find? fun x=>decide (x.1=t)).map (·.2.2)
def Keyed (H:Hp)(xs:List Kv):Prop:=(∀x∈xs,Rep H x.1 x.2.1∧dep x.1≤8)∧(xs.map (·.1)).Nodup
theorem zkQ {P:Program}{w:World}{H:Hp}{h:Heap}{d:Addr}{xs:List Kv}(q:IsTD w d xs h):zU P w H h d (TD w d xs):=by
 refine ⟨q,?_,?_⟩
 ·obtain ⟨_,_,o,_,_,ho,_⟩:=q
  exact ⟨o,ho⟩
 ·rintro h1 h2 ⟨a,b,o,es,ep,ho,r⟩ k
  exact ⟨a,b,o,es,ep,k _ ho,r⟩
abbrev EntP (x:Kv)(y:Ent):Prop:=y.1=x.1∧RelV x.2.1 y.2.1∧RelV x.2.2 y.2.2
theorem ents {w:World}:∀{xs:List Kv} {l:List DictEntry},Paired (zkJ w) xs l→∃ys:List Ent,l=ys.map (entT w)∧Paired EntP xs ys
 | [],[],.nil=>⟨[],rfl,.nil⟩
 | x::xs,e::l,.cons h r=>by
  obtain ⟨ys,e1,e2⟩:=ents r
  refine ⟨(x.1,e.key,e.val)::ys,?_,.cons ⟨rfl,h.2.1,h.2.2⟩ e2⟩
  rw [List.map_cons,←e1]
  have:e=entT w (x.1,e.key,e.val):=by
   cases e
   have h1:=h.1
   simp only at h1
   simp [entT,h1]
  rw [←this]
theorem zd4:∀{xs:List Kv} {ys:List Ent},Paired EntP xs ys→∀y∈ys,∃x∈xs,EntP x y
 | [],[],.nil,y,hy=>nomatch hy
 | x::xs,e::l,.cons h r,y,hy=>by
  rcases List.mem_cons.mp hy with rfl | hy
  ·exact ⟨x,List.mem_cons_self,h⟩
  ·obtain ⟨z,hz,p⟩:=zd4 r y hy
   exact ⟨z,List.mem_cons_of_mem _ hz,p⟩
theorem zda:∀{xs:List Kv} {ys:List Ent},Paired EntP xs ys→ys.map (·.1)=xs.map (·.1)
 | [],[],.nil=>rfl
 | x::xs,e::l,.cons h r=>by rw [List.map_cons,List.map_cons,h.1,zda r]
theorem zfi {x:Kv}{xs:List Kv}{t:Th}(e:x.1=t):vT (x::xs) t=some x.2.2:=by simp [vT,List.find?_cons,e]
theorem zdn {x:Kv}{xs:List Kv}{t:Th}(e:¬x.1=t):vT (x::xs) t=vT xs t:=by simp [vT,List.find?_cons,e]
theorem zj5 {xs:List Kv}{t:Th}(h:vT xs t=none):∀x∈xs,x.1≠t:=by
 intro x hx e
 rw [vT,Option.map_eq_none_iff,List.find?_eq_none] at h
 exact h x hx (by simpa using e)
theorem zg3 (xs:List Kv)(t u:Th)(y v:V)(h:vT xs t=none):vT (xs++ [(t,y,v)]) u=if u=t then some v else vT xs u:=by
 unfold vT
 rw [List.find?_append]
 by_cases e:u=t
 ·subst e
  rw [if_pos rfl]
  unfold vT at h
  rw [Option.map_eq_none_iff] at h
  rw [h]
  simp
 ·rw [if_neg e]
  have:List.find? (fun x=>decide (x.1=u)) [(t,y,v)]=none:=by
   have e':¬t=u:=fun q=>e q.symm
   simp [List.find?_cons,e']
  rw [this]
  simp
theorem zgZ:∀{xs:List Kv} {ys:List Ent} {t:Th},Paired EntP xs ys→(∀(j:Nat) (p:Value ×Value),ys[j]? ≠some (t,p))→vT xs t=none
 | [],[],_,.nil,_=>rfl
 | x::xs,e::l,t,.cons h r,no=>by
  have n0:¬x.1=t:=fun q=>no 0 e.2 (by rw [←q,←h.1];rfl)
  rw [zdn n0]
  exact zgZ r fun j p=>no (j+1) p
theorem zfy {t:Th}{p:Value ×Value}{xs:List Kv}{ys:List Ent}(r:Paired EntP xs ys):∀{j:Nat},(xs.map (·.1)).Nodup→ys[j]? =some (t,p)→∃v,vT xs t=some v∧RelV v p.2:=by
 induction r with
 | nil=>intro j _ q;rw [List.getElem?_nil] at q;cases q
 | @cons x e xs l h r ih=>
  intro j nd q
  cases j with
  | zero=>
   rw [List.getElem?_cons_zero] at q
   have q':=Option.some.inj q
   have h1:=h.1
   have h3:=h.2.2
   rw [q'] at h1 h3
   exact ⟨x.2.2,zfi h1.symm,h3⟩
  | succ j=>
   rw [List.getElem?_cons_succ] at q
   rw [List.map_cons,List.nodup_cons] at nd
   have n0:¬x.1=t:=fun z=>nd.1 (by
    rw [←zda r,z]
    exact List.mem_map.mpr ⟨_,List.mem_of_getElem? q,rfl⟩)
   rw [zdn n0]
   exact ih nd.2 q
section
variable {X:Cx}{pins:List (Addr ×Obj)}{σ:L2.St}{H:Hp}{s:Shared}{d:Addr}{xs:List Kv}{t:Th}{y v:V}{key r:Value}{A:Around}{E:Value→Shared→Prop}
theorem zg4 (I:L2.Inv X pins σ H s)(e:H d=some (TD X.w d xs)):IsTD X.w d xs s.heap:=(show zU X.prog X.w H s.heap d (TD X.w d xs) from I.hok d _ e).1
theorem zkH (hu:A.units+40 < cLine)(I:L2.Inv X pins σ H s)(kd:Keyed H xs)(rt:Rep H t y)(h8:dep t≤8)(ry:RelV y key){o:Obj}{es:Array DictEntry}{ep:Nat}{ys:List Ent}
  (ho:s.heap.get? d=some o) (hd:o.data=.dict es ep) (he:es.toList=ys.map (entT X.w)) (pp:Paired EntP xs ys):FK X.w A s d o es ep ys t key where
 tv:=TV.of I rt ry
 h8:=h8
 ho:=ho
 hd:=hd
 he:=he
 is:=fun b hb=>by
  obtain ⟨x,hx,e1,e2,_⟩:=zd4 pp b hb
  obtain ⟨k1,k2⟩:=kd.1 x hx
  rw [e1]
  exact ⟨TV.of I k1 e2,k2⟩
 eq:=fun b hb=>by
  obtain ⟨x,hx,e1,e2,_⟩:=zd4 pp b hb
  obtain ⟨k1,k2⟩:=kd.1 x hx
  rw [e1]
  exact zfb I k1 rt e2 ry (by omega)
 nd:=by rw [zda pp];exact kd.2
theorem zeq {Q:Option Value→Shared→Prop}(hu:A.units+40 < cLine)(I:L2.Inv X pins σ H s)(e:H d=some (TD X.w d xs))(kd:Keyed H xs)(rt:Rep H t y)(h8:dep t≤8)(hn:t≠ .non)(ry:RelV y key)
  (h:∀k o,RelO (vT xs t) o→Q o {s with toks:=k}):wpAny (model X.prog X.w) A (dictGet d key) Q E s:=by
 obtain ⟨_,_,o,es,ep,ho,_,hd,hp⟩:=zg4 I e
 obtain ⟨ys,he,pp⟩:=ents hp
 unfold dictGet
 try with_reducible refine wpAny_holding ?_
 refine wpAny_bind (zjx (s:=s) (n:=s.toks) (TV.of I rt ry) (by omega) fun k=>wpAny_bind (zjl (s:={s with toks:=k}) (zkH (A:=A) hu (I.tok k) kd rt h8 ry ho hd he pp) hn ?_ ?_))
 ·intro hno
  have z:=zgZ pp hno
  exact wpAny_pure (h k none (by rw [z];trivial))
 ·intro j p hj
  obtain ⟨v,e1,e2⟩:=zfy pp kd.2 hj
  refine wpAny_bind (wpAny_dictEntries (s:={s with toks:=k}) ho hd ?_)
  rw [zbN he j,hj]
  exact wpAny_pure (h k (some p.2) (by rw [e1];exact e2))
theorem zic {Q:Unit→Shared→Prop}(hu:A.units+40 < cLine)(I:L2.Inv X pins σ H s)(e:H d=some (TD X.w d xs))(kd:Keyed H xs)(rt:Rep H t y)(h8:dep t≤8)(hn:t≠ .non)(ry:RelV y key)(rv:RelV v r)
  (hv:vT xs t=none) (hl:xs.length < sizeLine) (h:∀s',L2.Inv X pins σ (upd H d (TD X.w d (xs++ [(t,y,v)]))) s'→Q () s'):wpAny (model X.prog X.w) A (dictSet d key r) Q E s:=by
 obtain ⟨hm,_,o,es,ep,ho,hc,hd,hp⟩:=zg4 I e
 obtain ⟨ys,he,pp⟩:=ents hp
 unfold dictSet
 try with_reducible refine wpAny_holding ?_
 refine wpAny_bind (zjx (s:=s) (n:=s.toks) (TV.of I rt ry) (by omega) fun k=>?_)
 unfold dictSetHashed
 try with_reducible refine wpAny_holding ?_
 refine wpAny_bind (zjl (s:={s with toks:=k}) (zkH (A:=A) hu (I.tok k) kd rt h8 ry ho hd he pp) hn ?_ ?_)
 ·intro hno
  have hz:es.size≤sizeLine:=by
   have z1:=zb2 he
   have z2:=Paired.length pp
   omega
  refine wpAny_bind (wpAny_rule (wpAny_updateDictKeys (hz:=hz) (s:={s with toks:=k}) ho hd (h _ (zeZ (t':=k) (I.tok k) (by rw [e];trivial) (Heap.SameBut.update ..) ⟨_,Heap.get?_update_self _ ho (Obj.isFreed_of_dict (Obj.data_mapDictKeys hd _))⟩ (zkQ ⟨hm,?_,?_⟩)))))
  ·rw [List.length_append];simp only [List.length_cons,List.length_nil];omega
  ·refine ⟨_,_,ep+1,Heap.get?_update_self _ ho (Obj.isFreed_of_dict (Obj.data_mapDictKeys hd _)),hc.mapDictKeys _,Obj.data_mapDictKeys hd _,?_⟩
   rw [Array.toList_push]
   exact Paired.snoc hp ⟨rfl,ry,rv⟩
 ·intro j p hj
  obtain ⟨v',e1,_⟩:=zfy pp kd.2 hj
  rw [hv] at e1;cases e1
end
end Pv
namespace Pv
open PySem L2 PySem.Spec PyProof.Rows
def TGet (w:World)(H:Hp)(a:Addr)(y:V)(o:Option V):Prop:=∃xs t,H a=some (TD w a xs)∧Keyed H xs∧Rep H t y∧dep t≤8∧t≠ .non∧o=vT xs t
def TPut (w:World)(H:Hp)(a:Addr)(y v:V)(H':Hp):Prop:=∃xs t,H a=some (TD w a xs)∧Keyed H xs∧Rep H t y∧dep t≤8∧t≠ .non∧vT xs t=none∧xs.length < sizeLine∧H'=upd H a (TD w a (xs++ [(t,y,v)]))
def zmq (w:World)(td ty:TE):TE:=fun σ H Q=>td σ H fun x H1=>ty σ H1 fun y H2=>∃a v,x=.ref a∧TGet w H2 a y (some v)∧Q v H2
def zjJ (w:World)(ty td:TE):TE:=fun σ H Q=>ty σ H fun y H1=>td σ H1 fun x H2=>∃a o,x=.ref a∧TGet w H2 a y o∧Q (.bl (!o.isSome)) H2
def zl6 (w:World)(td ty tv:TE):TS:=fun D σ H=>tv σ H fun v H1=>td σ H1 fun x H2=>ty σ H2 fun y H3=>∃a H4,x=.ref a∧TPut w H3 a y v H4∧D.nx σ H4
def zkN (w:World):TE:=fun _ H Q=>∀p,H p=none→Q (.ref p) (upd H p (TD w p []))
section
variable {X:Cx}{pins:List (Addr ×Obj)}{σ:L2.St}{H:Hp}{s:Shared}{a:Addr}{y v:V}{u r:Value}{o:Option V}{A:Around}{E:Value→Shared→Prop}
theorem zce (I:L2.Inv X pins σ H s)(g:TGet X.w H a y o):s.TypeIs (.ref a) "dict" :=by
 obtain ⟨xs,t,e,_⟩:=g
 obtain ⟨_,_,o,es,ep,ho,hc,_⟩:=zg4 I e
 exact ⟨o,ho,hc.1⟩
theorem zhO {Q:Value→Shared→Prop}(hu:A.units+50 < cLine)(I:L2.Inv X pins σ H s)(g:TGet X.w H a y (some v))(ry:RelV y u)(h:∀w' s',L2.Inv X pins σ H s'→RelV v w'→Q w' s'):
  wpAny (model X.prog X.w) A (getItem (.ref a) u) Q E s:=by
 have hT:=zce I g
 obtain ⟨xs,t,e,kd,rt,h8,hn,l⟩:=g
 unfold getItem
 try with_reducible refine wpAny_holding ?_
 refine wpAny_bind (wpAny_sequenceKey hT (by decide) ?_)
 refine wpAny_bind (wpAny_callSpecial?_slot (name:=Str.ofString "__getitem__") hT slot_dict_getitem
  (wpAny_call_entry slot_dict_getitem hT entry_dict_getitem ?_ (args_dict_getitem _ _)))
 show wpAny _ _ (dictGet a u >>=_) _ _ s
 refine wpAny_bind (zeq (A:=A.in1) (show A.units+1+40 < cLine by omega) I e kd rt h8 hn ry fun k o' ro=>?_)
 rw [←l] at ro
 obtain ⟨w',rfl,rw'⟩:=RelO.some_of ro
 exact wpAny_pure ⟨w',rfl,wpAny_pure (h w' _ (I.tok _) rw')⟩
theorem zka {Q:Value→Shared→Prop}(hu:A.units+50 < cLine)(I:L2.Inv X pins σ H s)(g:TGet X.w H a y o)(ry:RelV y u)(h:∀s',L2.Inv X pins σ H s'→Q (.bool (!o.isSome)) s'):
  wpAny (model X.prog X.w) A (compareOp .NotIn u (.ref a)) Q E s:=by
 have hT:=zce I g
 obtain ⟨xs,t,e,kd,rt,h8,hn,l⟩:=g
 have hd:=(zg4 I e).1
 show wpAny _ _ (do return .bool (!(←contains (.ref a) u))) Q E s
 refine wpAny_bind ?_
 unfold contains
 try with_reducible refine wpAny_holding ?_
 refine wpAny_bind (wpAny_specialOf hT slot_dict_contains.lookup ?_)
 show wpAny _ _ (if (some (Value.builtin "dict.__contains__")==some Value.none)=true then _ else _) _ E s
 rw [if_neg (by rw [beq_builtin_none];exact Bool.false_ne_true)]
 refine wpAny_bind (wpAny_callSpecialUnlessNone?_slot (name:=Str.ofString "__contains__") hT slot_dict_contains
  (wpAny_call_entry slot_dict_contains hT entry_dict_contains ?_ (args_dict_contains _ _)))
 show wpAny _ _ (dictGet a u >>=_) _ _ s
 refine wpAny_bind (zeq (A:=A.in1) (show A.units+1+40 < cLine by omega) I e kd rt h8 hn ry fun k o' ro=>?_)
 rw [←l] at ro
 have q:=ro.isSome_eq
 have h':=h _ (I.tok k)
 cases o' with
 | some p=>
  rw [q] at h'
  show wpAny _ _ (ret (.bool true)) _ _ _
  exact wpAny_pure ⟨_,rfl,wpAny_truthy_bool (wpAny_pure h')⟩
 | none=>
  rw [q] at h'
  show wpAny _ _ (Builtin.Dict.pendingKey? a u >>=_) _ _ _
  exact wpAny_bind (wpAny_pendingKey_other hd (wpAny_pure ⟨_,rfl,wpAny_truthy_bool (wpAny_pure h')⟩))
theorem zhU {H':Hp}{Q:Unit→Shared→Prop}(hu:A.units+50 < cLine)(I:L2.Inv X pins σ H s)(g:TPut X.w H a y v H')(ry:RelV y u)(rv:RelV v r)(h:∀s',L2.Inv X pins σ H' s'→Q () s'):
  wpAny (model X.prog X.w) A (setItem (.ref a) u r) Q E s:=by
 obtain ⟨xs,t,e,kd,rt,h8,hn,hv,hl,rfl⟩:=g
 have hT:=zce (o:=vT xs t) I ⟨xs,t,e,kd,rt,h8,hn,rfl⟩
 unfold setItem
 try with_reducible refine wpAny_holding ?_
 refine wpAny_bind (wpAny_sequenceKey hT (by decide) ?_)
 refine wpAny_bind (wpAny_callSpecial?_slot (name:=Str.ofString "__setitem__") hT slot_dict_setitem
  (wpAny_call_entry slot_dict_setitem hT entry_dict_setitem ?_ (args_dict_setitem _ _ _)))
 show wpAny _ _ (Builtin.Dict.notOrdered "__setitem__" ⟨[.ref a,u,r],[]⟩ >>=_) _ _ s
 refine wpAny_bind (wpAny_notOrdered_dict hT ?_)
 show wpAny _ _ (dictSet a u r >>=_) _ _ s
 exact wpAny_bind (zic (A:=A.in1) (show A.units+1+40 < cLine by omega) I e kd rt h8 hn ry rv hv hl fun s' I'=>wpAny_pure ⟨.none,rfl,wpAny_pure (h s' I')⟩)
end
section
variable {X:Cx}{o i value:Expr}{pos pos' tpos:Pos}{td ty tv:TE}
theorem zkd (hu:X.A.units+50 < cLine)(ho:PE X o td)(hi:PE X i ty)(hs:NoSl i):PE X (.Subscript o i pos) (zmq X.w td ty):=by
 intro pins s σ H Q I h
 refine zgI PySem.F.slot_dict_getitem.lookup hs (thn (ho pins s σ H _ I h) fun u s1 ⟨x,H1,I1,rx,q1⟩=>thn (hi pins s1 σ H1 _ I1 q1) fun iv s2 ⟨y,H2,I2,ry,a,v,ex,g,q2⟩=>?_)
 subst ex
 obtain rfl:u=Value.ref a:=rx
 exact ⟨zce I2 g,zhO hu I2 g ry fun w' s3 I3 rw'=>⟨v,H2,I3,rw',q2⟩⟩
theorem zib (hu:X.A.units+50 < cLine)(hi:PE X i ty)(ho:PE X o td):PC X .NotIn i o (zjJ X.w ty td):=by
 intro pins s σ H Q I h
 refine thn (hi pins s σ H _ I h) fun iv s1 ⟨y,H1,I1,ry,q1⟩=>thn (ho pins s1 σ H1 _ I1 q1) fun u s2 ⟨x,H2,I2,rx,a,ov,ex,g,q2⟩=>?_
 subst ex
 obtain rfl:u=Value.ref a:=rx
 exact zka hu I2 g ry fun s3 I3=>⟨.bl (!ov.isSome),H2,I3,rfl,q2⟩
theorem zj7 (hu:X.A.units+50 < cLine)(ho:PE X o td)(hi:PE X i ty)(hv:PE X value tv)(hs:swapsWith value (some (.Subscript o i pos')) pos.line X.env=pure false):
  PS X (.Assign [.Subscript o i pos'] value pos) (zl6 X.w td ty tv):=by
 intro pins s σ H D I h
 refine wpAny_Assign_Subscript (thn (hv pins s σ H _ I h) fun r s1 ⟨v,H1,I1,rv,q1⟩=>thn (ho pins s1 σ H1 _ I1 q1) fun u s2 ⟨x,H2,I2,rx,q2⟩=>thn (hi pins s2 σ H2 _ I2 q2) fun iv s3 ⟨y,H3,I3,ry,a,H4,ex,g,q3⟩=>?_) hs
 subst ex
 obtain rfl:u=Value.ref a:=rx
 exact zhU hu I3 g ry rv fun s4 I4=>⟨σ,H4,I4,q3⟩
theorem zjs {P:Program}{w:World}{H:Hp}(h:Heap)(hb:sysModules < h.objs.size):zU P w H (h.push {cls:=.type "dict",data:=.dict #[]}) h.objs.size (TD w h.objs.size []):=
 zkQ ⟨beq_eq_false_iff_ne.mpr (Ne.symm (Nat.ne_of_lt hb)),Nat.zero_le _,_, #[],0,Heap.get?_push_size _ rfl,⟨rfl,rfl,rfl⟩,rfl,.nil⟩
theorem zjW:PE X (.Dict [] [] pos) (zkN X.w):=fun pins s σ H Q I h=>
 wpAny_Dict_empty ⟨.ref s.heap.objs.size,_,I.laid (a:=s.heap.objs.size) (o:=TD X.w s.heap.objs.size []) (t':=s.toks) (fun _ _ q=>Heap.get?_push_of_some _ q) (Nat.le_refl _) (zjs s.heap I.big),rfl,h _ (I.hok.fresh (Nat.le_refl _))⟩
end
end Pv
namespace Pv
open PySem L2
theorem hu_t {A:Around}{k:Nat}(hr:Room k A):A.units+50 < cLine:=Nat.lt_of_le_of_lt (Nat.add_le_add_left (by decide:50≤64) _) hr.units
end Pv
set_option maxHeartbeats 4000000
namespace Pv
open PySem L2
open Tr
abbrev zcp:Stmt:=top 53
theorem zfh:zu ["ranks","key"] ["ranks","key"] (zd zcp):=⟨rfl,rfl,rfl,by decide+kernel,rfl,by decide+kernel,by decide+kernel⟩
abbrev zcm:Stmt:=top 54
theorem zaN:zu ["ranks","pairs","top","k","left","right"] ["ranks","pairs"] (zd zcm):=⟨rfl,rfl,rfl,by decide+kernel,rfl,by decide+kernel,by decide+kernel⟩
theorem zkK:∀{xs U:List Th},xs.Nodup→(∀x∈xs,x∈U)→xs.length≤U.length
 | [],U,_,_=>Nat.zero_le _
 | x::xs,U,nd,s=>by
  rw [List.nodup_cons] at nd
  have hx:=s x List.mem_cons_self
  have h1:=zkK (U:=U.erase x) nd.2 fun y hy=>(List.mem_erase_of_ne (fun e:y=x=>nd.1 (by rw [←e];exact hy))).mpr (s y (List.mem_cons_of_mem _ hy))
  rw [List.length_erase_of_mem hx] at h1
  have h2:0 < U.length:=List.length_pos_of_mem hx
  rw [List.length_cons];omega
structure Rk (w:World)(H:Hp)(dr:Addr)(xs:List Kv)(U:List Th):Prop where
 e:H dr=some (TD w dr xs)
 kd:Keyed H xs
 vl:∀t v,vT xs t=some v→v=.int (zS t)
 un:∀x∈xs,x.1∈U
 ul:U.length≤900
section
variable {w:World}{H H':Hp}{dr C a d pl:Addr}{xs:List Kv}{U:List Th}{cs:List (Int ×Th)}{ps:List (Th ×Th)}
theorem Keyed.keep (k:Keyed H xs)(s:Tups H H'):Keyed H' xs:=⟨fun x hx=>⟨(k.1 x hx).1.keep s,(k.1 x hx).2⟩,k.2⟩
theorem Rk.ne (k:Rk w H dr xs U){b:Addr}{o:HO}(e:H b=some o)(h:∀φ,o≠ .ext φ):b≠dr:=fun z=>by
 rw [z,k.e] at e
 cases e
 exact h _ rfl
theorem Rk.tups (k:Rk w H dr xs U)(f:Fr1 dr H H'):Tups H H':=fun b xs e=>f b _ (k.ne e (by intro φ z;cases z)) e
theorem Rk.same (k:Rk w H dr xs U)(s:Same H H'):Rk w H' dr xs U:=⟨s _ _ k.e,k.kd.keep (Same.tups s),k.vl,k.un,k.ul⟩
theorem Rk.len (k:Rk w H dr xs U):xs.length≤900:=by
 have h1:=zkK k.kd.2 (U:=U) fun t ht=>by
  obtain ⟨x,hx,rfl⟩:=List.mem_map.mp ht
  exact k.un x hx
 rw [List.length_map] at h1
 have:=k.ul
 omega
theorem Rk.fr (k:Rk w H dr xs U)(v:VS H C a d cs)(f:Fr1 d H H'):Rk w H' dr xs U:=
 ⟨f _ _ (v.ne k.e (by intro kv z;cases z)) k.e,k.kd.keep (v.tups f),k.vl,k.un,k.ul⟩
theorem VS.rk (v:VS H C a d cs)(k:Rk w H dr xs U)(f:Fr1 dr H H'):VS H' C a d cs:=by
 obtain ⟨kv,⟨⟨dx,fs,e,fl⟩,e2⟩,dr⟩:=v.vo
 exact ⟨⟨kv,⟨⟨dx,fs,f _ _ (k.ne e (by intro φ z;cases z)) e,fl⟩,f _ _ (k.ne e2 (by intro φ z;cases z)) e2⟩,dr.keep (k.tups f)⟩,v.gc⟩
theorem PL.rk (p:PL H pl ps)(k:Rk w H dr xs U)(f:Fr1 dr H H'):PL H' pl ps:=by
 obtain ⟨ys,e,r⟩:=p.ex
 exact ⟨ys,f _ _ (k.ne e (by intro φ z;cases z)) e,r.keep (k.tups f)⟩
theorem Rk.grow {x:Th}{vx:V}(k:Rk w H dr xs U)(rx:Rep H x vx)(kx:KeyT x)(hx:x∈U)(hv:vT xs x=none):Rk w (upd H dr (TD w dr (xs++ [(x,vx,.int (zS x))]))) dr (xs++ [(x,vx,.int (zS x))]) U:=by
 have tk:Tups H (upd H dr (TD w dr (xs++ [(x,vx,.int (zS x))]))):=Tups.upd fun ys z=>by rw [k.e] at z;cases z
 refine ⟨zh,⟨fun z hz=>?_,?_⟩,fun t v e=>?_,fun z hz=>?_,k.ul⟩
 ·rcases List.mem_append.mp hz with hz | hz
  ·exact (k.kd.keep tk).1 z hz
  ·rw [List.mem_singleton.mp hz]
   exact ⟨rx.keep tk,show dep x≤8 by have:=kx.dp;omega⟩
 ·rw [List.map_append,List.nodup_append]
  refine ⟨k.kd.2,by simp,?_⟩
  intro y hy z hz
  simp only [List.map_cons,List.map_nil,List.mem_singleton] at hz
  subst hz
  obtain ⟨q,hq,rfl⟩:=List.mem_map.mp hy
  exact zj5 hv q hq
 ·rw [zg3 _ _ _ _ _ hv] at e
  by_cases h:t=x
  ·rw [if_pos h] at e;cases e;rw [h]
  ·rw [if_neg h] at e;exact k.vl t v e
 ·rcases List.mem_append.mp hz with hz | hz
  ·exact k.un z hz
  ·rw [List.mem_singleton.mp hz];exact hx
end
theorem zlj {l r:Tr}{k w:Th}(hs:Srt (node l k w r).ps)(ha:Abv (node l k w r)){j:Nat}{p:Th ×Th}(e:(node l k w r).ps[j]? =some p):(j < l.cnt→zS p.1 < zS k)∧(l.cnt < j→zS p.1≤zS k):=by
 obtain ⟨_,_,h3,h4⟩:=zaC hs
 have hm:p∈(node l k w r).ps:=List.mem_of_getElem? e
 have hps:(node l k w r).ps=l.ps++(k,w)::r.ps:=rfl
 constructor
 ·intro hj
  rw [hps,List.getElem?_append_left hj] at e
  have hl:=h3 p (List.mem_of_getElem? e)
  rcases ha.top hm with z | z
  ·rw [z,zB] at hl;cases hl
  ·unfold zM at z
   split at z
   ·rw [zW hl] at z;cases z
   ·simpa using z
 ·intro hj
  rcases ha.top hm with z | z
  ·rw [z];omega
  ·unfold zM at z
   split at z
   ·omega
   ·have:zS p.1 < zS k:=by simpa using z
    omega
theorem zi0 (l r:Tr)(k w:Th):(node l k w r).ps[l.cnt]? =some (k,w):=by
 have hps:(node l k w r).ps=l.ps++(k,w)::r.ps:=rfl
 rw [hps,List.getElem?_append_right (Nat.le_refl _),Nat.sub_self];rfl
def Top (ps:List (Th ×Th))(n t:Nat):Prop:=t < n∧∀p q j,ps[t]? =some p→ps[j]? =some q→j < n→(j < t→zS q.1 < zS p.1)∧(t < j→zS q.1≤zS p.1)
theorem zj6 {ps:List (Th ×Th)}:Top ps 1 0:=⟨by decide,fun p q j _ _ hj=>⟨fun h=>by omega,fun h=>by omega⟩⟩
theorem zkf {ps:List (Th ×Th)}{n t:Nat}{p q:Th ×Th}(h:Top ps n t)(ep:ps[t]? =some p)(eq:ps[n]? =some q)(hr:zS p.1 < zS q.1):Top ps (n+1) n:=by
 refine ⟨by omega,fun p' q' j e1 e2 hj=>⟨fun hjn=>?_,fun _=>by omega⟩⟩
 rw [eq] at e1;cases e1
 have h1:=h.2 p q' j ep e2 (by omega)
 rcases Nat.lt_trichotomy j t with z | z | z
 ·have:=h1.1 z;omega
 ·subst z
  rw [ep] at e2;cases e2;exact hr
 ·have:=h1.2 z;omega
theorem zjO {ps:List (Th ×Th)}{n t:Nat}{p q:Th ×Th}(h:Top ps n t)(ep:ps[t]? =some p)(eq:ps[n]? =some q)(hr:¬zS p.1 < zS q.1):Top ps (n+1) t:=by
 have ht:=h.1
 refine ⟨by omega,fun p' q' j e1 e2 hj=>?_⟩
 rw [ep] at e1;cases e1
 by_cases z:j=n
 ·subst z
  rw [eq] at e2;cases e2
  exact ⟨fun h=>by omega,fun _=>by omega⟩
 ·exact h.2 p q' j ep e2 (by omega)
theorem zlg {l r:Tr}{k w:Th}(hs:Srt (node l k w r).ps)(ha:Abv (node l k w r)){t:Nat}(h:Top (node l k w r).ps (node l k w r).cnt t):t=l.cnt:=by
 have ht:=h.1
 have ep:(node l k w r).ps[t]? =some ((node l k w r).ps[t]'ht):=List.getElem?_eq_getElem ht
 have hc:l.cnt < (node l k w r).cnt:=by rw [zL];omega
 have h1:=h.2 _ _ _ ep (zi0 l r k w) hc
 have h2:=zlj hs ha ep
 rcases Nat.lt_trichotomy t l.cnt with z | z | z
 ·have a:=h1.2 z
  have b:=h2.1 z
  simp only at a
  omega
 ·exact z
 ·have a:=h1.1 z
  have b:=h2.2 z
  simp only at a
  omega
def zgL (w:World):Sp:=fun vs H Q _=>∃(dr:Addr) (xs:List Kv) (U:List Th) (x:Th) (vx:V),vs=[.ref dr,vx]∧Rk w H dr xs U∧Rep H x vx∧KeyT x∧x∈U∧∀xs' H',Fr1 dr H H'→Rk w H' dr xs' U→Q (.int (zS x)) H'
def zeV (w:World)(n:Nat):Sp:=fun vs H Q _=>∃(dr pl:Addr) (xs:List Kv) (U:List Th) (T:Tr),vs=[.ref dr,.ref pl]∧Rk w H dr xs U∧PL H pl T.ps∧Srt T.ps∧Abv T∧zdT T.ps∧(∀p∈T.ps,p.1∈U)∧T.cnt < n∧T.cnt≤300∧∀xs' H',Fr1 dr H H'→Rk w H' dr xs' U→Q (.int T.root) H'
section
variable {P:Program}{w:World}{K:PySem.W.Frag}{mg:Str→Option Value}{base:Heap}
theorem zif (D:Dfn K mg "_law_rank" zcp ["ranks","key"]) (F_seal:Fn P w K mg base "seal" 13 ["thing"] zcY):Fn P w K mg base "_law_rank" 14 ["ranks","key"] (zgL w):=by
 refine D.ok (k:=13) zfh (fun vs H Q E h=>?_) (fun f cdv A outer s H vs Q E hr h=>?_)
 ·obtain ⟨dr,xs,U,x,vx,rfl,_⟩:=h;rfl
 obtain ⟨dr,xs,U,x,vx,rfl,rk,rx,kx,hx,q⟩:=h
 refine ⟨_,(zb (zP (zf8 (zib (hu_t hr) (pv 1) (pv 0)))
 (zg (zj7 (hu_t hr) (pv 0) (pv 1) (zA F_seal hr (by omega) (by rfl) (za (zV (za zcz (za (pv 1) zc))) zc)) (by rfl)))
 zC)
 (zg (zq (zkd (hu_t hr) (pv 0) (pv 1) (fun _ _=>rfl))))),?_⟩
 have kd:=kx.dp
 refine ⟨_,rfl,_,rfl,dr,_,rfl,⟨xs,x,rk.e,rk.kd,rx,by omega,kx.ne,rfl⟩,_,rfl,?_⟩
 cases z:vT xs x with
 | some v=>
  refine ifF rfl ?_
  refine ⟨_,rfl,_,rfl,dr,v,rfl,⟨xs,x,rk.e,rk.kd,rx,by omega,kx.ne,z.symm⟩,?_⟩
  rw [rk.vl x v z]
  exact q xs H (Fr1.refl dr H) rk
 | none=>
  refine ifT rfl ?_
  obtain ⟨g1,g2,g3⟩:=zez kx.good
  refine ⟨_,rfl,szl (show 2≤1000 by decide),fun p hp=>?_⟩
  refine ⟨_,_,rfl,(RepL.cons (.str _) (.cons rx .nil)).new hp,g1,g2,g3,fun H1 s1=>?_⟩
  have s2:Same H H1:=(zj (Same.refl H) hp).trans s1
  have rk1:=rk.same s2
  have rx1:=rx.keep (Same.tups s2)
  have hl:=rk.len
  refine ⟨_,rfl,_,rfl,dr,_,rfl,⟨xs,x,rk1.e,rk1.kd,rx1,by omega,kx.ne,z,Nat.lt_of_lt_of_le (show xs.length < 1000 by omega) (szl (Nat.le_refl _)),rfl⟩,?_⟩
  have rk2:=rk1.grow rx1 kx hx z
  have f2:Fr1 dr H1 (upd H1 dr (TD w dr (xs++ [(x,vx,.int (zS x))]))):=fun b o n e=>by rw [zk n];exact e
  have t2:=rk1.tups f2
  refine ⟨_,rfl,_,rfl,dr,.int (zS x),rfl,⟨_,x,rk2.e,rk2.kd,rx1.keep t2,by omega,kx.ne,?_⟩,?_⟩
  ·rw [zg3 _ _ _ _ _ z,if_pos rfl]
  ·exact q _ _ ((Same.fr1 s2).trans f2) rk2
end
end Pv
namespace Pv
open PySem L2
open Tr
section
variable {P:Program}{w:World}{K:PySem.W.Frag}{mg:Str→Option Value}{base:Heap}
theorem zfx (D:Dfn K mg "_law_root" zcm ["ranks","pairs"]) (F_law_rank:Fn P w K mg base "_law_rank" 14 ["ranks","key"] (zgL w)) (F_seal:Fn P w K mg base "seal" 13 ["thing"] zcY) (m_range:mg "range" =none) (m_len:mg "len" =none):
  ∀n:Nat,Fn P w K mg base "_law_root" (n+15) ["ranks","pairs"] (zeV w n)
 | 0=>D.never fun vs H Q E h=>by
   obtain ⟨dr,pl,xs,U,T,_,_,_,_,_,_,_,h1,_⟩:=h
   omega
 | n+1=>by
  have F_law_root:=zfx D F_law_rank F_seal m_range m_len n
  refine D.ok (k:=n+15) zaN (fun vs H Q E h=>?_) (fun f cdv A outer s H vs Q E hr h=>?_)
  ·obtain ⟨dr,pl,xs,U,T,rfl,_⟩:=h;rfl
  obtain ⟨dr,pl,xs,U,T,rfl,rk,hpl,st,ab,kp,hU,hn,h300,q⟩:=h
  obtain ⟨vs,ev,rv⟩:=hpl.ex
  have hvl:vs.length=T.cnt:=by rw [rv.len,List.length_map]
  refine ⟨_,(zb (zP (zH (ziF hr) (pv 1) (zaa zc) (zD _))
 (zg (zq zf))
 zC)
 (zb (zm (i:=2) zaN.nd rfl (Or.inl rfl) zf)
 (zb (zak PassesOwn.never rfl (zhW rfl m_range (za zf (za (zF (zJ) (by rfl) m_len (by rfl) (za (pv 1) zc)) zc))) (zN (i:=3) zaN.nd rfl (Or.inl rfl))
 (zg (zP (zH zi1 (zA F_law_rank hr (by omega) (by rfl) (za (pv 0) (za (zr zx (zr zI (pv 1) (pv 3) (fun _ _=>rfl)) zf (fun _ _=>rfl)) zc))) (zA F_law_rank hr (by omega) (by rfl) (za (pv 0) (za (zr zx (zr zI (pv 1) (pv 2) (fun _ _=>rfl)) zf (fun _ _=>rfl)) zc))) (zD _))
 (zg (zm (i:=2) zaN.nd rfl (Or.inl rfl) (pv 3)))
 zC)))
 (zb (zm (i:=4) zaN.nd rfl (Or.inl rfl) (zA F_law_root hr (by omega) (by rfl) (za (pv 0) (za (zao zaQ (pv 1) zaG (zan (pv 2))) zc))))
 (zb (zm (i:=5) zaN.nd rfl (Or.inl rfl) (zA F_law_root hr (by omega) (by rfl) (za (pv 0) (za (zao zaQ (pv 1) (zan (zy zac (pv 2) zf)) zaG) zc))))
 (zg (zq (zA F_seal hr (by omega) (by rfl) (za (zV (za (zr zx (zr zI (pv 1) (pv 2) (fun _ _=>rfl)) zf (fun _ _=>rfl)) (za (zr zx (zr zI (pv 1) (pv 2) (fun _ _=>rfl)) zf (fun _ _=>rfl)) (za (pv 4) (za (pv 5) (za (zF (zJ) (by rfl) m_len (by rfl) (za (pv 1) zc)) zc)))))) zc))))))))),?_⟩
  refine ⟨_,rfl,szl (show 0≤1000 by decide),fun p0 hp0=>?_⟩
  have s0:Same H (upd H p0 (.lst [])):=zj (Same.refl H) hp0
  have e0:upd H p0 (.lst []) p0=some (.lst []):=zh
  generalize upd H p0 (.lst [])=H0 at s0 e0
  refine ⟨pl,p0,_,rfl,rfl,SqL.of (s0 _ _ ev),SqL.of e0,_,rfl,?_⟩
  cases T with
  | nil=>
   have:vs=[]:=List.length_eq_zero_iff.mp hvl
   subst this
   refine ifT rfl ?_
   exact q xs H0 (Same.fr1 s0) (rk.same s0)
  | node l k wo r=>
   have hc:(node l k wo r).cnt=l.cnt+r.cnt+1:=zL l k wo r
   have hne:vs.isEmpty=false:=by
    cases vs with
    | nil=>rw [hc] at hvl;cases hvl
    | cons a b=>rfl
   refine ifF hne ?_
   have rk0:=rk.same s0
   have pl0:=hpl.same s0
   refine ⟨_,rfl,pl,_,rfl,.inl (SqL.of (s0 _ _ ev)),1,_,rfl,⟨by decide,by decide,by omega,by omega⟩,?_⟩
   rw [show (((vs.length:Nat):Int) - 1).toNat=vs.length - 1 by omega]
   have hat:∀(j:Nat) (Hx:Hp),Fr1 dr H0 Hx→j < vs.length→∃(p:Th ×Th) (b:Addr) (vk vw:V),(node l k wo r).ps[j]? =some p∧p∈(node l k wo r).ps∧atI vs ((j:Nat):Int)=some (.ref b)∧Hx b=some (.tup [vk,vw])∧Rep Hx p.1 vk∧Rep Hx p.2 vw∧Hx pl=some (.lst vs):=fun j Hx fx hj=>by
    have hjp:j < (node l k wo r).ps.length:=by rw [hvl] at hj;exact hj
    have ep:(node l k wo r).ps[j]? =some (node l k wo r).ps[j]:=List.getElem?_eq_getElem hjp
    have ej:vs[j]? =some vs[j]:=List.getElem?_eq_getElem hj
    have r1:=((rv.at j _ _ ej (by rw [List.getElem?_map,ep];rfl)).keep (Same.tups s0)).keep (rk0.tups fx)
    obtain ⟨b,vk,vw,eb,hb,h1,h2⟩:=zah r1
    exact ⟨_,b,vk,vw,ep,List.getElem_mem hjp,by rw [zaH ej,eb],hb,h1,h2,fx _ _ (rk0.ne (s0 _ _ ev) (by intro φ z;cases z)) (s0 _ _ ev)⟩
   refine zaV (n:=vs.length - 1) (fun i σ H'=>∃(t:Nat) (k3:Option V) (xs':List Kv),σ=[some (.ref dr),some (.ref pl),some (.int t),k3,none,none]∧Fr1 dr H0 H'∧Rk w H' dr xs' U∧Top (node l k wo r).ps (i+1) t) ⟨0,_,xs,rfl,Fr1.refl _ _,rk0,zj6⟩ ?_ ?_
   ·rintro i σ H1 hi ⟨t,k3,xs1,rfl,f1,rk1,tp⟩
    have ht:=tp.1
    rw [show (1:Int)+((i:Nat):Int)=((i+1:Nat):Int) by omega]
    obtain ⟨p,b,vk,vw,ep,hp,ix,hb,rp,_,el1⟩:=hat (i+1) H1 f1 (by omega)
    refine ⟨_,rfl,_,rfl,_,rfl,pl,_,_,_,rfl,rfl,SqL.of el1,ix,b,_,_,_,rfl,rfl,SqT.of hb,rfl,dr,xs1,U,p.1,vk,rfl,rk1,rp,(kp p hp).1,hU p hp,fun xs2 H2 f2 rk2=>?_⟩
    obtain ⟨p',b',vk',vw',ep',hp',ix',hb',rp',_,el2⟩:=hat t H2 (f1.trans f2) (by omega)
    refine ⟨_,rfl,_,rfl,_,rfl,pl,_,_,_,rfl,rfl,SqL.of el2,ix',b',_,_,_,rfl,rfl,SqT.of hb',rfl,dr,xs2,U,p'.1,vk',rfl,rk2,rp',(kp p' hp').1,hU p' hp',fun xs3 H3 f3 rk3=>?_⟩
    have f4:=(f1.trans f2).trans f3
    refine ⟨_,_,rfl,rfl,_,rfl,?_⟩
    by_cases z:zS p'.1 < zS p.1
    ·refine ifT (decide_eq_true z) ?_
     exact ⟨_,rfl,i+1,_,xs3,rfl,f4,rk3,zkf tp ep' ep z⟩
    ·refine ifF (decide_eq_false z) ?_
     exact ⟨t,_,xs3,rfl,f4,rk3,zjO tp ep' ep z⟩
   ·rintro σ H1 ⟨t,k3,xs1,rfl,f1,rk1,tp⟩
    rw [show vs.length - 1+1=(node l k wo r).cnt by omega] at tp
    have et:=zlg st ab tp
    subst et
    have hps:(node l k wo r).ps=l.ps++(k,wo)::r.ps:=rfl
    obtain ⟨sl,sr,_,_⟩:=zaC st
    obtain ⟨_,b1,vk1,vw1,ep1,_,_,_,_,_,el1⟩:=hat l.cnt H1 f1 (by omega)
    have rv1:=(rv.keep (Same.tups s0)).keep (rk0.tups f1)
    refine ⟨_,rfl,_,rfl,_,rfl,_,rfl,pl,_,rfl,SqL.of el1,fun p1 h1=>?_⟩
    rw [zgD (show l.cnt≤vs.length by omega)]
    have s1:=zj (o:=.lst (vs.take l.cnt)) (Same.refl H1) h1
    have e1:upd H1 p1 (.lst (vs.take l.cnt)) p1=some (.lst (vs.take l.cnt)):=zh
    generalize upd H1 p1 (.lst (vs.take l.cnt))=H2 at s1 e1
    have pl1:PL H2 p1 l.ps:=⟨_,e1,by
     have:=(rv1.keep (Same.tups s1)).take l.cnt
     rw [←List.map_take,hps,List.take_left] at this
     exact this⟩
    refine ⟨dr,p1,xs1,U,l,rfl,rk1.same s1,pl1,sl,ab.2.2.1,fun p hp=>kp p (List.mem_append_left _ hp),fun p hp=>hU p (List.mem_append_left _ hp),by omega,by omega,fun xs2 H3 f3 rk3=>?_⟩
    have f03:Fr1 dr H0 H3:=(f1.trans (Same.fr1 s1)).trans f3
    obtain ⟨_,_,_,_,_,_,_,_,_,_,el3⟩:=hat l.cnt H3 f03 (by omega)
    have rv3:=(rv.keep (Same.tups s0)).keep (rk0.tups f03)
    refine ⟨_,rfl,_,rfl,_,rfl,_,_,rfl,rfl,_,rfl,pl,_,rfl,SqL.of el3,fun p2 h2=>?_⟩
    rw [show ((l.cnt:Nat):Int)+1=((l.cnt+1:Nat):Int) from rfl,zdF (show l.cnt+1≤vs.length by omega)]
    have s4:=zj (o:=.lst (vs.drop (l.cnt+1))) (Same.refl H3) h2
    have e4:upd H3 p2 (.lst (vs.drop (l.cnt+1))) p2=some (.lst (vs.drop (l.cnt+1))):=zh
    generalize upd H3 p2 (.lst (vs.drop (l.cnt+1)))=H4 at s4 e4
    have pl4:PL H4 p2 r.ps:=⟨_,e4,by
     have:=(rv3.keep (Same.tups s4)).drop (l.cnt+1)
     rw [←List.map_drop,hps,List.drop_append,List.drop_eq_nil_of_le (show l.ps.length≤l.cnt+1 from Nat.le_succ _),show l.cnt+1 - l.ps.length=1 from Nat.add_sub_cancel_left _ _] at this
     exact this⟩
    refine ⟨dr,p2,xs2,U,r,rfl,rk3.same s4,pl4,sr,ab.2.2.2,fun p hp=>kp p (List.mem_append_right _ (List.mem_cons_of_mem _ hp)),fun p hp=>hU p (List.mem_append_right _ (List.mem_cons_of_mem _ hp)),by omega,by omega,fun xs5 H5 f5 rk5=>?_⟩
    have f05:Fr1 dr H0 H5:=(f03.trans (Same.fr1 s4)).trans f5
    obtain ⟨p,b,vk,vw,ep,hp,ix,hb,rp,rw5,el5⟩:=hat l.cnt H5 f05 (by omega)
    rw [zi0] at ep
    cases ep
    have kk:=(kp _ hp).1
    have kw:=(kp _ hp).2
    refine ⟨_,rfl,_,rfl,pl,_,_,_,rfl,rfl,SqL.of el5,ix,b,_,_,_,rfl,rfl,SqT.of hb,rfl,?_⟩
    refine ⟨_,rfl,_,rfl,pl,_,_,_,rfl,rfl,SqL.of el5,ix,b,_,_,_,rfl,rfl,SqT.of hb,rfl,?_⟩
    refine ⟨_,rfl,_,rfl,_,rfl,pl,_,rfl,.inl (SqL.of el5),szl (show 5≤1000 by decide),fun p6 h6=>?_⟩
    have gd:=(zbg (l:=l) (r:=r) kk kw h300).2
    have et:((vs.length:Nat):Int)=(((l.ps++(k,wo)::r.ps).length:Nat):Int):=by rw [hvl];rfl
    rw [et] at *
    refine ⟨(node l k wo r).thing,_,rfl,(RepL.cons rp (.cons rw5 (.cons (.int _) (.cons (.int _) (.cons (.int _) .nil))))).new h6,gd.wf,Nat.lt_of_le_of_lt gd.dp (by decide),Nat.le_trans gd.nd (by decide),fun H7 s7=>?_⟩
    have s8:Same H5 H7:=(zj (Same.refl H5) h6).trans s7
    exact q xs5 H7 ((Same.fr1 s0).trans (f05.trans (Same.fr1 s8))) (rk5.same s8)
end
end Pv
namespace Pv
open PySem L2
open Tr
theorem zhu {K:PySem.W.Frag}{l p:Addr}{σ:L2.St}{js:List Nat}{tt:TT}{te:TE}{H1:Hp}{Q:VK}{ps:List (Th ×Th)}{xs:List V}(e1:H1 l=some (.lst xs))(r:RepL H1 (ps.map zaK) xs)(hp1:H1 p=none)(h300:ps.length≤300)(f:Th ×Th→Bool)
  (tt_ok:∀(v:V) (pr:Th ×Th) (H':Hp) (Z:Bool→Hp→Prop),pr∈ps→Same H1 H'→Rep H' (zaK pr) v→(∀H'',Same H' H''→Z (f pr) H'')→tt (some v::frees σ js) H' Z)
  (te_ok:∀(v:V) (H':Hp) (Z:VK),Z v H'→te (some v::frees σ js) H' Z) (q:∀H',Same H1 H'→PL H' p (ps.filter f)→Q (.ref p) H'):zfu (Itl K l) p σ js tt te H1 Q:=by
 have hxl:xs.length=ps.length:=by rw [r.len,List.length_map]
 refine ⟨fun i m acc H=>m=xs.length - i∧i≤xs.length∧Same H1 H∧H p=some (.lst acc)∧RepL H (((ps.take i).filter f).map zaK) acc,⟨_,rfl,Nat.zero_le _,zj (Same.refl H1) hp1,zh,.nil⟩,?_⟩
 rintro i m acc H ⟨rfl,hi,sm,ep,ra⟩
 by_cases hlt:i < xs.length
 ·have ev:xs[i]? =some xs[i]:=List.getElem?_eq_getElem hlt
  have hip:i < ps.length:=by omega
  have epi:ps[i]? =some ps[i]:=List.getElem?_eq_getElem hip
  refine .inr ⟨⟨xs,xs[i],SqL.of (sm _ _ e1),ev⟩,fun y H' hy=>?_⟩
  obtain ⟨rfl,hy⟩:=hy
  have ey:y=xs[i]:=by
   have:=hy xs (SqL.of (sm _ _ e1))
   rw [ev] at this
   exact (Option.some.inj this).symm
  subst ey
  have rp:=(r.at i _ _ ev (by rw [List.getElem?_map,epi];rfl)).keep (Same.tups sm)
  have et:ps.take (i+1)=ps.take i++ [ps[i]]:=by rw [List.take_add_one,epi];rfl
  refine tt_ok _ ps[i] _ _ (List.getElem_mem hip) sm rp fun H'' s''=>?_
  have ep2:=s'' _ _ ep
  have hal:acc.length≤300:=by
   rw [ra.len,List.length_map]
   exact Nat.le_trans (List.length_filter_le _ _) (by rw [List.length_take];omega)
  cases z:f ps[i] with
  | true=>
   refine ifT rfl (te_ok _ _ _ ⟨ep2,Nat.lt_of_lt_of_le (show acc.length < 1000 by omega) (szl (Nat.le_refl _)),_,by omega,rfl,hlt,zaZ (fun b o e=>s'' b o (sm b o e)) hp1,zh,?_⟩)
   have tk:Tups H'' (upd H'' p (.lst (acc++ [xs[i]]))):=Tups.upd fun xs z=>by rw [ep2] at z;cases z
   rw [et,List.filter_append,List.filter_cons,z,List.map_append]
   exact ((ra.keep (Same.tups s'')).keep tk).snoc ((rp.keep (Same.tups s'')).keep tk)
  | false=>
   refine ifF rfl ⟨_,by omega,rfl,hlt,fun b o e=>s'' b o (sm b o e),ep2,?_⟩
   rw [et,List.filter_append,List.filter_cons,z]
   show RepL H'' (((ps.take i).filter f++ []).map zaK) acc
   rw [List.append_nil]
   exact ra.keep (Same.tups s'')
 ·have:i=xs.length:=by omega
  subst this
  rw [hxl,List.take_length] at ra
  exact .inl ⟨⟨xs,SqL.of (sm _ _ e1),Nat.le_refl _⟩,q H sm ⟨acc,ep,ra⟩⟩
theorem zeJ {C x dx:Addr}{H:Hp}{Z:Hp→Prop}{E:XK}(hx:H x=none)(hdx:H dx=none)(n:dx≠x)(q:∀d H',Same H H'→H d=none→H' x=some (.ins C dx [("laid",.ref d)])→H' d=some (.dK [])→Z H'):
  zdC C [.ref x] (upd (upd H dx (.own x)) x (.ins C dx [])) (fun v H2=>v=.non∧Z H2) E:=by
 refine ⟨x,dx,rfl,zh,fun d hd=>⟨rfl,?_⟩⟩
 have xd:x≠d:=fun z=>by rw [←z,zh] at hd;cases hd
 have dd:dx≠d:=fun z=>by rw [←z,zk n,zh] at hd;cases hd
 have hd0:H d=none:=by rw [zk (Ne.symm xd),zk (Ne.symm dd)] at hd;exact hd
 refine q d _ (fun b o e=>?_) hd0 zh (by rw [zk (Ne.symm xd)];exact zh)
 have n1:=zl e hx
 rw [zk n1,zk (zl e hd0),zk n1,zk (zl e hdx)];exact e
theorem SqL.keepS {K:PySem.W.Frag}{H H':Hp}{a:Addr}{xs:List V}(h:SqL K H a xs)(s:Same H H'):SqL K H' a xs:=by
 rcases h with h | h
 ·rcases h with h | ⟨o,h⟩
  ·exact .inl (.inl (s _ _ h))
  ·exact .inl (.inr ⟨o,s _ _ h⟩)
 ·exact .inr h
theorem SqL.fr {K:PySem.W.Frag}{H H':Hp}{b C a d:Addr}{cs:List (Int ×Th)}{xs:List V}(h:SqL K H b xs)(v:VS H C a d cs)(f:Fr1 d H H'):SqL K H' b xs:=by
 rcases h with h | h
 ·rcases h with h | ⟨o,h⟩
  ·exact .inl (.inl (v.lst f h))
  ·exact .inl (.inr ⟨o,f _ _ (v.ne h (by intro kv z;cases z)) h⟩)
 ·exact .inr h
theorem zi4 (ns:List Int)(lo hi:Option Int):∃ms:List Int,cutV (ns.map V.int) lo hi=ms.map V.int∧ms.length≤ns.length:=by
 refine ⟨(ns.drop (HT.sIx ns.length 0 lo)).take (HT.sIx ns.length ns.length hi - HT.sIx ns.length 0 lo),?_,?_⟩
 ·unfold cutV
  rw [List.length_map,List.map_take,List.map_drop]
 ·rw [List.length_take,List.length_drop];omega
theorem zfw {ps:List (Th ×Th)}{x w:Th}{p:Th ×Th}:p∈insP ps x w↔(p∈ps∧p.1≠x)∨p=(x,w):=by
 unfold insP
 rw [List.mem_append,List.mem_cons]
 constructor
 ·rintro (h | h | h)
  ·have:=List.mem_filter.mp h
   exact .inl ⟨this.1,fun e=>by rw [e,zB] at this;cases this.2⟩
  ·exact .inr h
  ·have:=List.mem_filter.mp h
   exact .inl ⟨this.1,fun e=>by rw [e,zB] at this;cases this.2⟩
 ·rintro (⟨h,n⟩ | h)
  ·cases z:ze p.1 x with
   | true=>exact .inl (List.mem_filter.mpr ⟨h,z⟩)
   | false=>exact .inr (.inr (List.mem_filter.mpr ⟨h,za8 z n⟩))
  ·exact .inr (.inl h)
theorem zcM:∀{ps:List (Th ×Th)} {p q:Th ×Th},Srt ps→p∈ps→q∈ps→p.1=q.1→p=q
 | r::ps,p,q,h,hp,hq,e=>by
  obtain ⟨h1,h2⟩:=List.pairwise_cons.mp h
  rcases List.mem_cons.mp hp with e1 | h3
  ·rcases List.mem_cons.mp hq with e2 | h4
   ·rw [e1,e2]
   ·have:=h1 q h4
    rw [←e1,e,zB] at this;cases this
  ·rcases List.mem_cons.mp hq with e2 | h4
   ·have:=h1 p h3
    rw [←e2,e,zB] at this;cases this
   ·exact zcM h2 h3 h4 e
end Pv
namespace Pv
open PySem L2
open Tr
abbrev zgb:Stmt:=top 31
theorem zhe:zu ["vault","root","key","way"] ["vault","root","key"] (zd zgb):=⟨rfl,rfl,rfl,by decide+kernel,rfl,by decide+kernel,by decide+kernel⟩
abbrev zcu:Stmt:=top 55
theorem zaL:zu ["vault","root","pairs","key","due","own","worth"] ["vault","root","pairs","key"] (zd zcu):=⟨rfl,rfl,rfl,by decide+kernel,rfl,by decide+kernel,by decide+kernel⟩
def Wor (ps:List (Th ×Th))(x u:Th):Prop:=(x,u)∈ps∨(u=.non∧∀p∈ps,p.1≠x)
def zdB (C:Addr):Sp:=fun vs H Q _=>∃(a d:Addr) (cs:List (Int ×Th)) (T:Tr) (x:Th) (vx:V),vs=[.ref a,.int T.root,vx]∧VS H C a d cs∧TOk cs T∧Srt T.ps∧Rep H x vx∧KeyT x∧
 ∀u v H',Same H H'→Rep H' u v→Wor T.ps x u→Q v H'
def zjp (C:Addr):Sp:=fun vs H Q _=>∃(a d pl:Addr) (cs:List (Int ×Th)) (T:Tr) (x:Th) (vx:V),vs=[.ref a,.int T.root,.ref pl,vx]∧VS H C a d cs∧TOk cs T∧Srt T.ps∧PL H pl T.ps∧Rep H x vx∧KeyT x∧
 ∀H',Same H H'→Q (.bl true) H'
section
variable {P:Program}{w:World}{K:PySem.W.Frag}{mg:Str→Option Value}{base:Heap}{C CC:Addr}{t1 t2 t3 t4 t5 t6 t7:Tok}
theorem ziR (D:Dfn K mg "found" zgb ["vault","root","key"]) (F_way_to:Fn P w K mg base "way_to" 22 ["vault","root","key"] (zgP C)) (F_ends_at:Fn P w K mg base "ends_at" 1 ["way","key"] (ze1 K)) (g_WORTH:mg "WORTH" =some (.int 1 t2)):Fn P w K mg base "found" 23 ["vault","root","key"] (zdB C):=by
 refine D.ok (k:=22) zhe (fun vs H Q E h=>?_) (fun f cdv A outer s H vs Q E hr h=>?_)
 ·obtain ⟨a,d,cs,T,x,vx,rfl,_⟩:=h;rfl
 obtain ⟨a,d,cs,T,x,vx,rfl,vs,tk,so,rx,kx,q⟩:=h
 refine ⟨_,(zb (zm (i:=3) zhe.nd rfl (Or.inl rfl) (zA F_way_to hr (by omega) (by rfl) (za (pv 0) (za (pv 1) (za (pv 2) zc)))))
 (zg (zq (zcP (z6 (zA F_ends_at hr (by omega) (by rfl) (za (pv 3) (za (pv 2) zc)))) (zr zx (zr zI (pv 3) (zcO zbM zf) (fun _ _=>rfl)) (zw (v:=.int 1) (by rfl) g_WORTH ⟨_,rfl⟩) (fun _ _=>rfl)) zaw)))),?_⟩
 refine ⟨_,rfl,_,rfl,_,rfl,a,d,cs,T,x,vx,rfl,vs,tk,rx,kx,fun pw ws H1 s1 hpw ew rwy=>?_⟩
 have hl:ws.length=wl x T:=by rw [rwy.len,zar]
 have rx1:=rx.keep (Same.tups s1)
 refine ⟨_,rfl,_,rfl,pw,ws,T,x,vx,rfl,SqL.of ew,rwy,fun p hp=>(tk.ky p hp).1,rx1,_,rfl,?_⟩
 cases z:own x T with
 | nil=>exact ifF rfl (q .non _ H1 s1 .non (.inr ⟨rfl,zcK so z⟩))
 | node l k wo r=>
  obtain ⟨rfl,n,ewl,up,ed⟩:=zaB z
  refine ifT rfl ?_
  rw [ewl] at rwy hl
  have hv:ws[n]? =some (ws[n]'(by omega)):=List.getElem?_eq_getElem (by omega)
  have rl:=rwy.at n _ _ hv (zal (Nat.lt_succ_self n))
  rw [ed] at rl
  obtain ⟨p,vk,vw',ev,ea,rk,rw'⟩:=zR rl
  have ix:atI ws (-1)=some (.ref p):=by
   unfold atI ixN
   rw [if_neg (by decide),if_pos (by omega),hl]
   show ws[((-1:Int)+((n+1:Nat):Int)).toNat]? =_
   rw [show ((-1:Int)+((n+1:Nat):Int)).toNat=n by omega,hv,ev]
  have et:SqT K H1 p _:=SqT.of ea
  refine ⟨_,rfl,_,rfl,pw,_,_,_,rfl,rfl,SqL.of ew,ix,p,_,_,_,rfl,rfl,et,rfl,?_⟩
  exact q wo vw' H1 s1 rw' (.inl (zbv (n:=n) (x:=k) (by rw [ed];exact zE.mpr (.inr (.inl rfl)))))
theorem zjM (D:Dfn K mg "_law_told" zcu ["vault","root","pairs","key"]) (F_found:Fn P w K mg base "found" 23 ["vault","root","key"] (zdB C)) (F_law_sort:Fn P w K mg base "_law_sort" 1 ["thing"] zdP):Fn P w K mg base "_law_told" 24 ["vault","root","pairs","key"] (zjp C):=by
 refine D.ok (k:=23) zaL (fun vs H Q E h=>?_) (fun f cdv A outer s H vs Q E hr h=>?_)
 ·obtain ⟨a,d,pl,cs,T,x,vx,rfl,_⟩:=h;rfl
 obtain ⟨a,d,pl,cs,T,x,vx,rfl,vs,tk,so,hpl,rx,kx,q⟩:=h
 obtain ⟨xs,ex,rxs⟩:=hpl.ex
 have hxl:xs.length=T.ps.length:=by rw [rxs.len,List.length_map]
 have kp:zdT T.ps:=tk.ky
 refine ⟨_,(zb (zm (i:=4) zaL.nd rfl (Or.inl rfl) zaw)
 (zb (zak PassesOwn.never rfl (zaY (pv 2)) (zca rfl (z7 (zN (i:=5) zaL.nd rfl (Or.inl rfl)) (z7 (zN (i:=6) zaL.nd rfl (Or.inl rfl)) zbf)))
 (zg (zP (zH (zcQ hr) (pv 5) (pv 3) (zD _))
 (zg (zm (i:=4) zaL.nd rfl (Or.inl rfl) (pv 6)))
 zC)))
 (zb (zm (i:=6) zaL.nd rfl (Or.inl rfl) (zA F_found hr (by omega) (by rfl) (za (pv 0) (za (pv 1) (za (pv 3) zc)))))
 (zb (zP (zH zbl (pv 4) zaw (zD _))
 (zg (zq (zad zbl (pv 6) zaw (zD _))))
 zC)
 (zg (zq (zbZ (zad zdo (zA F_law_sort hr (by omega) (by rfl) (za (pv 6) zc)) (zA F_law_sort hr (by omega) (by rfl) (za (pv 4) zc)) (zD _)) (zcr (zad (zcQ hr) (pv 6) (pv 4) (zD _)))))))))),?_⟩
 refine ⟨_,rfl,pl,rfl,⟨_,SqL.of ex⟩,?_⟩
 refine zbq (xs:=xs) (fun i σ H'=>∃(u:Th) (v:V) (k5 k6:Option V),σ=[some (.ref a),some (.int T.root),some (.ref pl),some vx,some v,k5,k6]∧Same H H'∧Rep H' u v∧Wor (T.ps.take i) x u) ⟨.non,_,_,_,rfl,Same.refl _,.non,.inr ⟨rfl,fun p hp=>by rw [List.take_zero] at hp;cases hp⟩⟩ ?_ ?_ ?_
 ·rintro i σ H' _ ⟨u,v,k5,k6,rfl,sm,_⟩
  exact SqL.of (sm _ _ ex)
 ·rintro i y σ H1 hy ⟨u,v,k5,k6,rfl,sm,ru,wu⟩
  have hi:i < xs.length:=(List.getElem?_eq_some_iff.mp hy).1
  have hip:i < T.ps.length:=by omega
  have ep:T.ps[i]? =some T.ps[i]:=List.getElem?_eq_getElem hip
  have rp:=(rxs.at i _ _ hy (by rw [List.getElem?_map,ep];rfl)).keep (Same.tups sm)
  obtain ⟨b,vk,vw,rfl,eb,rk,rw'⟩:=zah rp
  have kk:=(kp _ (List.getElem_mem hip)).1.dp
  have kxd:=kx.dp
  have et:T.ps.take (i+1)=T.ps.take i++ [T.ps[i]]:=by rw [List.take_add_one,ep];rfl
  refine ⟨b,_,rfl,SqT.of eb,rfl,_,_,rfl,_,_,rfl,rfl,?_⟩
  refine ⟨_,rfl,_,rfl,T.ps[i].1,x,rk,rx.keep (Same.tups sm),by omega,_,rfl,?_⟩
  cases z:eqT T.ps[i].1 x with
  | true=>
   have ek:T.ps[i].1=x:=(zab _ _).mp z
   refine ifT rfl ?_
   refine ⟨_,rfl,T.ps[i].2,vw,_,_,rfl,sm,rw',.inl ?_⟩
   rw [et,←ek]
   exact List.mem_append_right _ (List.mem_singleton.mpr rfl)
  | false=>
   have ek:T.ps[i].1≠x:=fun e=>by rw [e,zY] at z;cases z
   refine ifF rfl ?_
   refine ⟨u,v,_,_,rfl,sm,ru,?_⟩
   rw [et]
   rcases wu with h | ⟨h1,h2⟩
   ·exact .inl (List.mem_append_left _ h)
   ·refine .inr ⟨h1,fun p hp=>?_⟩
    rcases List.mem_append.mp hp with hp | hp
    ·exact h2 p hp
    ·rw [List.mem_singleton.mp hp];exact ek
 ·rintro σ H1 ⟨u,v,k5,k6,rfl,sm,ru,wu⟩
  rw [hxl,List.take_length] at wu
  refine ⟨_,rfl,_,rfl,_,rfl,a,d,cs,T,x,vx,rfl,vs.same sm,tk,so,rx.keep (Same.tups sm),kx,fun u' v' H2 s2 ru' wu'=>?_⟩
  have eu:u=u':=by
   rcases wu with h | ⟨h1,h2⟩
   ·rcases wu' with h' | ⟨_,h'⟩
    ·have:=zcM so h h' rfl
     cases this;rfl
    ·exact absurd rfl (h' _ h)
   ·rcases wu' with h' | ⟨h',_⟩
    ·exact absurd rfl (h2 _ h')
    ·rw [h1,h']
  subst eu
  have s02:Same H H2:=fun b o e=>s2 b o (sm b o e)
  have ru2:=ru.keep (Same.tups s2)
  refine ⟨_,rfl,rfl,_,rfl,?_⟩
  by_cases hn:u=.non
  ·subst hn
   cases ru
   cases ru'
   exact ifT (decide_eq_true rfl) ⟨_,rfl,rfl,q H2 s02⟩
  ·have hv:v≠ .non:=fun e=>by
    subst e
    cases ru
    exact hn rfl
   refine ifF (decide_eq_false hv) ?_
   have kd:dep u≤50:=by
    rcases wu with h | ⟨h1,_⟩
    ·have:=(kp _ h).2.dp
     simp only at this
     omega
    ·exact absurd h1 hn
   refine ⟨_,rfl,u,v',rfl,ru',_,rfl,u,v,rfl,ru2,rfl,_,rfl,ifT (decide_eq_true rfl) ?_⟩
   refine ⟨_,rfl,_,rfl,u,u,ru',ru2,kd,?_⟩
   rw [zY]
   exact q H2 s02
end
end Pv
namespace Pv
open PySem L2
open Tr
abbrev zcy:Stmt:=top 56
theorem zdi:zu ["keeper","root","pairs","key","cell","way","worth"] ["keeper","root","pairs","key","cell","way"] (zd zcy):=⟨rfl,rfl,rfl,by decide+kernel,rfl,by decide+kernel,by decide+kernel⟩
structure TR (H:Hp)(C a d pl:Addr)(cs:List (Int ×Th))(T:Tr):Prop where
 vs:VS H C a d cs
 ok:TOk cs T
 so:Srt T.ps
 ab:Abv T
 pl:PL H pl T.ps
def zet (C CC:Addr):Sp:=fun vs H Q E=>∃(a d pl:Addr) (cs:List (Int ×Th)) (T:Tr) (x:Th) (vx:V) (c m:Int),vs=[.ref a,.int T.root,.ref pl,vx,.int c,.int m]∧TR H C a d pl cs T∧T.cnt≤250∧Rep H x vx∧KeyT x∧cs.length≤700000∧Cl CC E∧
 ∀T' cs' p pl' H',Fr1 d H H'→Sub cs cs'→TR H' C a d pl' cs' T'→T'.cnt≤T.cnt+1→cs'.length≤cs.length+600→(∀q∈T'.ps,q∈T.ps∨q.1=x)→H' p=some (.tup [.int T'.root,.ref pl'])→Q (.ref p) H'
theorem TR.move {H H':Hp}{C a d pl:Addr}{cs cs':List (Int ×Th)}{T:Tr}(t:TR H C a d pl cs T)(v:VS H' C a d cs')(s:Sub cs cs')(f:Fr1 d H H'):TR H' C a d pl cs' T:=⟨v,t.ok.mono s,t.so,t.ab,t.pl.fr t.vs f⟩
theorem TR.same {H H':Hp}{C a d pl:Addr}{cs:List (Int ×Th)}{T:Tr}(t:TR H C a d pl cs T)(s:Same H H'):TR H' C a d pl cs T:=t.move (t.vs.same s) (Sub.refl _) (Same.fr1 s)
section
variable {P:Program}{w:World}{K:PySem.W.Frag}{mg:Str→Option Value}{base:Heap}{C CC:Addr}
theorem zf6 (D:Dfn K mg "_law_done" zcy ["keeper","root","pairs","key","cell","way"]) (F_law_mix:Fn P w K mg base "_law_mix" 1 ["cell","k"] zhg) (F_cut:FnX P w K mg base "cut" 23 ["vault","root","key"] (zgS C CC)) (F_put:FnX P w K mg base "put" 23 ["vault","root","key","worth"] (zhm C CC)) (F_law_put_in:Fn P w K mg base "_law_put_in" 12 ["pairs","key","worth"] zg2) (F_law_worth:Fn P w K mg base "_law_worth" 3 ["cell","way"] zgH):FnX P w K mg base "_law_done" 24 ["keeper","root","pairs","key","cell","way"] (zet C CC):=by
 refine D.okX (k:=23) zdi (fun vs H Q E h=>?_) (fun f cdv A outer s H vs Q E hr h=>?_)
 ·obtain ⟨a,d,pl,cs,T,x,vx,c,m,rfl,_⟩:=h;rfl
 obtain ⟨a,d,pl,cs,T,x,vx,c,m,rfl,⟨vs,tk,st,ab,hpl⟩,h250,rx,kx,hcl,cl,q⟩:=h
 refine ⟨_,(zb (zP (zH zcL (zy zaJ (zA F_law_mix hr (by omega) (by rfl) (za (pv 4) (za zf zc))) zf) zf (zD _))
 (zg (zq (zV (za (zaO F_cut hr (by omega) (by rfl) z4 (za (pv 0) (za (pv 1) (za (pv 3) zc)))) (za (zeb (zQ.one (y:= "key") (j:=3) (c:=s.heap.objs.size+1) (by rfl) (by rfl) (by decide+kernel) (by decide+kernel) (by rfl) (by decide+kernel) (by rfl) (by decide+kernel) (by rfl) (by first | exact Or.inl rfl | exact Or.inr rfl) (by first | exact Or.inl rfl | exact Or.inr rfl)) rfl (zaY (pv 2)) (fun _ _ _=>zkb (zH (zdy hr) (zr (zg5 (K:=K) rfl) (pv 0) zf (fun _ _=>rfl)) (pv 1) (zD _))) (fun _ _ _=>(pv 0))) zc)))))
 zC)
 (zb (zm (i:=6) zdi.nd rfl (Or.inl rfl) (zA F_law_worth hr (by omega) (by rfl) (za (zy zb8 (pv 4) zf) (za (pv 5) zc))))
 (zg (zq (zV (za (zaO F_put hr (by omega) (by rfl) z4 (za (pv 0) (za (pv 1) (za (pv 3) (za (pv 6) zc))))) (za (zA F_law_put_in hr (by omega) (by rfl) (za (pv 2) (za (pv 3) (za (pv 6) zc)))) zc))))))),?_⟩
 refine ⟨_,rfl,c,21,rfl,by decide,by decide,fun r r0 r1=>⟨_,_,rfl,rfl,(show (0:Int) < 8 by decide),_,_,rfl,rfl,_,rfl,?_⟩⟩
 have kp:zdT T.ps:=tk.ky
 by_cases z:r % 8 < 3
 ·refine ifT (decide_eq_true z) ?_
  refine ⟨_,rfl,_,rfl,_,rfl,a,d,cs,T,x,vx,rfl,vs,tk,rx,kx,by omega,cl,fun cs' H1 f1 vs1 sb ic le=>?_⟩
  obtain ⟨xs,ex,rxs⟩:=(hpl.fr vs f1).ex
  have rx1:=rx.keep (vs.tups f1)
  refine ⟨_,rfl,pl,rfl,⟨_,SqL.of ex⟩,fun pc hpc=>?_⟩
  refine zhu ex rxs hpc tk.ct (fun p=>!eqT p.1 x) (fun v pr H' Z hm sm rp hz=>?_) (fun v H' Z z=>⟨_,rfl,z⟩) fun H2 s2 plc=>?_
  ·obtain ⟨b,vk,vw,rfl,eb,rk,_⟩:=zah rp
   have kd:=(kp pr hm).1.dp
   exact ⟨_,rfl,b,_,_,_,rfl,rfl,SqT.of eb,rfl,_,rfl,pr.1,x,rk,rx1.keep (Same.tups sm),by omega,_,rfl,hz H' (Same.refl H')⟩
  have ep:=zgn (x:=x) st
  refine ⟨szl (show 2≤1000 by decide),fun pt hpt=>?_⟩
  have s4:=zj (o:=.tup [.int (cutT x T).root,.ref pc]) (Same.refl H2) hpt
  have e4:upd H2 pt (.tup [.int (cutT x T).root,.ref pc]) pt=some (.tup [.int (cutT x T).root,.ref pc]):=zh
  generalize upd H2 pt (.tup [.int (cutT x T).root,.ref pc])=H4 at s4 e4
  have hin:∀z∈(cutT x T).ps,z∈T.ps:=fun z hz=>by rw [ep] at hz;exact (List.mem_filter.mp hz).1
  have hcc:(cutT x T).cnt≤T.cnt:=by show (cutT x T).ps.length≤_;rw [ep];exact List.length_filter_le _ _
  exact q (cutT x T) cs' pt pc H4 (f1.trans ((Same.fr1 s2).trans (Same.fr1 s4))) sb ⟨(vs1.same s2).same s4,⟨ic,fun z hz=>kp z (hin z hz),by omega⟩,by rw [ep];exact zcs st _,ze9 st ab,by rw [ep];exact plc.same s4⟩ (by omega) (by omega) (fun z hz=>.inl (hin z hz)) e4
 ·refine ifF (decide_eq_false z) ?_
  refine ⟨_,rfl,_,_,rfl,rfl,⟨by decide,by decide⟩,_,rfl,_,_,rfl,fun u v' H1 s1 ru ku=>?_⟩
  have vs1:=vs.same s1
  refine ⟨_,rfl,_,rfl,_,rfl,_,rfl,a,d,cs,T,x,u,vx,v',rfl,vs1,tk,by omega,rx.keep (Same.tups s1),kx,ru,ku,by omega,cl,fun cs' H2 f2 vs2 sb ip le=>?_⟩
  have tk12:=vs1.tups f2
  refine ⟨_,rfl,_,rfl,_,rfl,pl,T.ps,x,u,vx,v',rfl,(hpl.same s1).fr vs1 f2,st,kp,tk.ct,(rx.keep (Same.tups s1)).keep tk12,kx,ru.keep tk12,fun p H3 s3 hp plp=>?_⟩
  have ep:=zc2 (x:=x) (w:=u) st
  have il:=zgK (ps:=T.ps) (x:=x) (w:=u)
  have hcc:(putT x u T).cnt≤T.cnt+1:=by show (putT x u T).ps.length≤_;rw [ep];exact il
  refine ⟨szl (show 2≤1000 by decide),fun pt hpt=>?_⟩
  have s4:=zj (o:=.tup [.int (putT x u T).root,.ref p]) (Same.refl H3) hpt
  have e4:upd H3 pt (.tup [.int (putT x u T).root,.ref p]) pt=some (.tup [.int (putT x u T).root,.ref p]):=zh
  generalize upd H3 pt (.tup [.int (putT x u T).root,.ref p])=H4 at s4 e4
  have fr:Fr1 d H H4:=(Same.fr1 s1).trans (f2.trans ((Same.fr1 s3).trans (Same.fr1 s4)))
  have hin:∀z∈(putT x u T).ps,z∈T.ps∨z=(x,u):=fun z hz=>by rw [ep] at hz;exact zg8 hz
  refine q (putT x u T) cs' pt p H4 fr sb ⟨(vs2.same s3).same s4,⟨ip,fun z hz=>?_,by omega⟩,by rw [ep];exact zdD st,zcH st ab,by rw [ep];exact plp.same s4⟩ hcc (by omega) (fun z hz=>(hin z hz).imp id fun e=>by rw [e]) e4
  rcases hin z hz with y | y
  ·exact kp z y
  ·rw [y];exact ⟨kx,ku⟩
end
end Pv
namespace L2
open PySem PySem.Spec PyProof.Rows
def zjr (K:PySem.W.Frag)(J:It)(p:Addr)(σ:St)(js:List Nat)(tt:TT)(te:TE)(H1:Hp)(Q:VK):Prop:=
 ∃W:Nat→Nat→List V→Hp→Prop,(∃m,W 0 m [] (upd H1 p (.lst [])))∧∀i m acc H,W i m acc H→
  (J.stop i H∧Q (.ref p) H)∨(J.go i H∧∀x H',J.yld i H x H'→∃a y z,x=.ref a∧SqT K H' a [y,z]∧tt (some y::some z::frees σ js) H' fun ok H2=>
   if ok=true then te (some y::some z::frees σ js) H2 fun v H3=>H3 p=some (.lst acc)∧acc.length < sizeLine∧∃m',m' < m∧W (i+1) m' (acc++ [v]) (upd H3 p (.lst (acc++ [v])))
   else∃m',m' < m∧W (i+1) m' acc H2)
def zl1 (K:PySem.W.Frag)(wi:TI)(js:List Nat)(tt:TT)(te:TE):TE:=fun σ H Q=>wi σ H fun J H1=>∀p,H1 p=none→zjr K J p σ js tt te H1 Q
section
variable {X:Cx}{x x2:Str}{ys:List Str}{js:List Nat}{scope:Scope}{cl:List (Str ×Addr)}{pins:List (Addr ×Obj)}{σ:St}{H:Hp}{s:Shared}
theorem ziQ (S:zQ X x ys js scope cl)(I:Inv X pins σ H s){fp:List Addr}(f:∀b∈fp,FpOk X pins H b)(fo:∀b∈fp,b < s.heap.objs.size){h1:Heap}{m:Str→Option Value}{t1:Nat}(hn:h1.Ns s.heap.objs.size m)
  (k:∀b o,s.heap.get? b=some o→h1.get? b=some o):
  Inv (cxC X (x::x2::ys) scope cl s H fp) (X.pn++pins) (none::none::frees σ js) H {s with heap:=h1,toks:=t1}:=by
 have nfs:∀b∈fp,b∉frs X.stack:=fun b hb z=>(List.mem_cons.mp (I.stkSub b z)).elim (f b hb).2.1 (f b hb).2.2.1
 have kept:∀y c,cl.lookup y=some c→∀v,s.heap.IsCell c v→h1.IsCell c v:=fun y c _ v ⟨o,ho,hd⟩=>⟨o,k c o ho,hd⟩
 refine ⟨⟨I.ok.mod,S.kind,I.ok.glob,I.ok.blt,Nat.le_refl _,fun y z c e1 e2=>I.ok.inj y z c (S.cells e1) (S.cells e2),fun y hy=>?_,fun y c e _=>absurd e Bool.false_ne_true,I.ok.hd,I.ok.frames,.inl rfl,fun b hb=>⟨?_,fun y c e=>(f b hb).2.2.2.2.1 y c (S.cells e)⟩,
   I.bs,Nat.le_trans I.ok.bsz I.sz,fun b o e hb=>?_,nfs,I.stack,I.stkFree⟩,
  I.os.trans ?_,I.bare,Un.kept k,⟨m,hn,fun i y v e1 e2 e3=>?_⟩,fun y c e=>?_,I.hok.fresh (Nat.le_refl _),fun y c e=>I.freeC y c (S.cells e),fun p hp=>?_,I.hok.kept k,?_⟩
 ·rcases hy with hy | hy
  ·exact zaq (S.has _ (PySem.mem_of_lookup hy) (.inl rfl))
  ·exact zaq (S.has _ (PySem.mem_of_lookup hy) (.inr rfl))
 ·exact Nat.ne_of_lt (fo b hb)
 ·rcases (f b hb).2.2.2.1 with z | z
  ·exact I.ok.noex b o e z
  ·exact absurd (Nat.lt_of_lt_of_le (Heap.lt_size e) (Nat.le_trans I.ok.bsz z)) (Nat.lt_irrefl _)
 ·exact I.os.symm
 ·match i,e1,e2 with
  | 0,e1,e2=>cases e2
  | 1,e1,e2=>cases e2
  | i+2,e1,e2=>
   obtain ⟨j,ej,eN,ek,ek'⟩:=S.fr i y e1
   have es:σ[j]? =some (some v):=by
    have q:(frees σ js)[i]? =some (some v):=e2
    unfold frees at q
    rw [List.getElem?_map,ej] at q
    have q':(σ[j]?).getD none=some v:=Option.some.inj q
    cases e:σ[j]? with
    | none=>rw [e] at q';cases q'
    | some o=>rw [e] at q';cases q';rfl
   obtain ⟨m0,_,hl⟩:=I.loc
   obtain ⟨u,r,l⟩:=hl j y v eN es (.inr ek)
   rcases l with ⟨l,_⟩ | ⟨_,c,ec,hc⟩
   ·rcases ek with ek | ek <;> · rw [ek] at l;cases l
   ·have hk:y∈cl.map (·.1):=by
     rcases ek' with q | q
     ·exact S.has _ (PySem.mem_of_lookup q) (.inl rfl)
     ·exact S.has _ (PySem.mem_of_lookup q) (.inr rfl)
    obtain ⟨c',ec'⟩:=zaq hk
    have e:=S.cells ec'
    rw [ec] at e
    cases e
    exact ⟨u,r,.inr ⟨ek',c,ec',kept y c ec' _ hc⟩⟩
 ·obtain ⟨v,q⟩:=I.cell y c (S.cells e)
  exact ⟨v,kept y c e v q⟩
 ·have hp':p∈X.pn++pins:=(List.mem_append.mp hp).elim (fun z=>absurd (show p∈([]:List (Addr ×Obj)) from z) (by simp)) id
  obtain ⟨a,b,c,d,e⟩:=I.pin p hp'
  exact ⟨k _ _ a,b,Nat.ne_of_lt (Heap.lt_size a),fun z=>(List.mem_cons.mp (I.stkSub _ z)).elim c d,e⟩
 ·show _=(x::x2::ys).length
  rw [List.length_cons,List.length_cons,List.length_cons,List.length_cons]
  unfold frees
  rw [List.length_map,S.len]
variable {iter elt:Expr}{ifs:List Expr}{px px2 tpos pos:Pos}{kt:Nat}{wi:TI}{tt:TT}{te:TE}
theorem zhS (S:zQ X x ys js scope cl)(tg2:scope.names.lookup x2=some .local)(nd2:(x::x2::ys).Nodup)(hc:X.calm=true)(ht:∀s₀ H₀ ex,PTs (cxC X (x::x2::ys) scope cl s₀ H₀ ex) ifs tt)(he:∀s₀ H₀ ex,PE (cxC X (x::x2::ys) scope cl s₀ H₀ ex) elt te)
  {s2:Shared} {H2:Hp} {it:Addr} {fp:List Addr} {tn:Nat→Heap→Prop} {J:It} (I2:Inv X pins σ H2 s2) (T:Turn X.prog X.w X.K (.Tuple [.Name x px,.Name x2 px2] kt tpos) J fp it tn) (st2:tn 0 s2.heap) (f2:∀b∈fp,FpOk X pins H2 b)
  {Q:VK} (q:∀p,H2 p=none→zjr X.K J p σ js tt te H2 Q)
  {R:Value→Addr→Result→Shared→Prop}
  (hR:∀(p:Addr) (C:Addr) (H':Hp) (s':Shared) (m:Str→Option Value),s2.heap.objs.size≤C→s'.heap.Ns C m→H' C=none→Inv X pins σ H' s'→Q (.ref p) H'→R (.ref p) C (.ok .next) s'):
  wpAny (model X.prog X.w) X.A (newList []) (fun acc s₃=>wpAny (model X.prog X.w) X.A (newFunctionEnv scope X.env.globals cl [] X.env.qual none .none (some X.env)) (fun cenv s₄=>
   codeAny (model X.prog X.w) X.A (.compStart (.ListComp elt [⟨.Tuple [.Name x px,.Name x2 px2] kt tpos,iter,ifs,0⟩] scope pos) 0 (.ref it) acc {cenv with scope:=relabel scope X.env}) (R acc cenv.locals) s₄) X.xe s₃) X.xe s2:=by
 refine wpAny_newObj_type (wpAny_newFunctionEnv S.nocell (by intro y hy;simp at hy) (fun h₁ hns₁ hsb₁=>?_) S.kind)
 have fr2:H2 s2.heap.objs.size=none:=I2.hok.fresh (Nat.le_refl _)
 obtain ⟨W,⟨m0,w0⟩,turn⟩:=q _ fr2
 have I3:Inv X pins σ (upd H2 s2.heap.objs.size (.lst [])) {s2 with heap:=s2.heap.push {cls:=.type "list",dict:=none,data:=.seq ([]:List Value).toArray}}:=
  I2.laid (t':=s2.toks) (fun b u e=>Heap.get?_push_of_some _ e) (Nat.le_refl _) ⟨Nat.zero_le _,[],0,.nil,Heap.get?_push_size _ rfl⟩
 have U0:Un (frs X.stack) fp H2 (upd H2 s2.heap.objs.size (.lst [])) s2.heap (s2.heap.push {cls:=.type "list",dict:=none,data:=.seq ([]:List Value).toArray}):=
  Un.laid (fun b u e=>Heap.get?_push_of_some _ e) (Nat.le_refl _) fr2
 have fo:∀b∈fp,b < s2.heap.objs.size:=fun b hb=>by
  obtain ⟨o,e,_⟩:=T.obj 0 _ st2 b hb
  exact Heap.lt_size e
 have f3:∀b∈fp,FpOk X pins (upd H2 s2.heap.objs.size (.lst [])) b:=fun b hb=>⟨by rw [zk (Nat.ne_of_lt (fo b hb))];exact (f2 b hb).1,(f2 b hb).2⟩
 have hold:∀b o,(s2.heap.push {cls:=.type "list",dict:=none,data:=.seq ([]:List Value).toArray}).get? b=some o→h₁.get? b=some o:=fun b o e=>
  hsb₁.extBut b o (Nat.ne_of_lt (Heap.lt_size e)) (Heap.get?_push_of_some _ e)
 have fo3:∀b∈fp,b < (s2.heap.push {cls:=.type "list",dict:=none,data:=.seq ([]:List Value).toArray}).objs.size:=fun b hb=>by rw [Heap.size_push];exact Nat.lt_succ_of_lt (fo b hb)
 have I4:=ziQ (x2:=x2) (t1:=s2.toks+([]:List (Str ×Value)).length) S I3 f3 fo3 hns₁ hold
 have st4:tn 0 h₁:=T.keep _ _ _ st2 fun b _ o e=>hold b o (Heap.get?_push_of_some _ e)
 have stat:∀{H':Hp},(∀b∈fp,H' b=none)→∀b∈fp,FpOk (cxC X (x::x2::ys) scope cl {s2 with heap:=s2.heap.push {cls:=.type "list",dict:=none,data:=.seq ([]:List Value).toArray}} (upd H2 s2.heap.objs.size (.lst [])) fp) (X.pn++pins) H' b:=fun hn b hb=>
  ⟨hn b hb,Nat.ne_of_lt (fo3 b hb),I4.ok.exfs b hb,.inl hb,fun y c e=>(f2 b hb).2.2.2.2.1 y c (S.cells e),fun p hp=>(f2 b hb).2.2.2.2.2 p ((List.mem_append.mp hp).elim (fun z=>absurd (show p∈([]:List (Addr ×Obj)) from z) (by simp)) id)⟩
 have loop:codeAny (model X.prog X.w) X.A (.compLoop (.ListComp elt [⟨.Tuple [.Name x px,.Name x2 px2] kt tpos,iter,ifs,0⟩] scope pos) 0 (.ref it) (.ref s2.heap.objs.size) (compEnvC scope cl (s2.heap.push {cls:=.type "list",dict:=none,data:=.seq ([]:List Value).toArray}).objs.size X.env))
   (R (.ref s2.heap.objs.size) (s2.heap.push {cls:=.type "list",dict:=none,data:=.seq ([]:List Value).toArray}).objs.size) {s2 with heap:=h₁,toks:=s2.toks+([]:List (Str ×Value)).length}:=by
  refine codeAny_loop rfl (fun n s'=>∃i acc v0 v1 H',Inv (cxC X (x::x2::ys) scope cl {s2 with heap:=s2.heap.push {cls:=.type "list",dict:=none,data:=.seq ([]:List Value).toArray}} (upd H2 s2.heap.objs.size (.lst [])) fp) (X.pn++pins) (v0::v1::frees σ js) H' s'∧tn i s'.heap∧(∀b∈fp,H' b=none)∧W i n acc H')
   (fun n s5 hI=>?_) m0 ⟨0,[],none,none,_,I4,st4,fun b hb=>(f3 b hb).1,w0⟩
  show wpAny _ X.A ((compTurn (.ListComp elt [⟨.Tuple [.Name x px,.Name x2 px2] kt tpos,iter,ifs,0⟩] scope pos) 0 (.ref it) (.ref s2.heap.objs.size) (compEnvC scope cl (s2.heap.push {cls:=.type "list",dict:=none,data:=.seq ([]:List Value).toArray}).objs.size X.env)).onRaise (fun x=>do noteFrame x (compEnvC scope cl (s2.heap.push {cls:=.type "list",dict:=none,data:=.seq ([]:List Value).toArray}).objs.size X.env);theTreesLotGoes x)) _ _ s5
  refine wpAny_noted ?_
  rw [compTurn_list]
  obtain ⟨i,acc,v0,v1,H5,I5,st5,fr5,w5⟩:=hI
  refine wpAny_bind (wpAny_standAt (wpAny_bind ?_))
  rcases turn i n acc H5 w5 with ⟨stop,qn⟩ | ⟨go,step⟩
  ·refine wpAny_mono (T.done (cxC X (x::x2::ys) scope cl {s2 with heap:=s2.heap.push {cls:=.type "list",dict:=none,data:=.seq ([]:List Value).toArray}} (upd H2 s2.heap.objs.size (.lst [])) fp) rfl rfl rfl hc i _ s5 _ H5 _ I5 (stat fr5) st5 stop) (fun r s6 ⟨hr,I6⟩=>?_) fun _ _ e=>e
   subst hr
   obtain ⟨m,hn,_⟩:=I6.loc
   exact wpAny_pure (hR _ _ H5 s6 m (by rw [Heap.size_push];exact Nat.le_succ _) hn I6.free (zfP I2 f2 U0 (by rfl) I6) qn)
  ·refine wpAny_mono (T.item (cxC X (x::x2::ys) scope cl {s2 with heap:=s2.heap.push {cls:=.type "list",dict:=none,data:=.seq ([]:List Value).toArray}} (upd H2 s2.heap.objs.size (.lst [])) fp) rfl rfl rfl hc i _ s5 _ H5 _ I5 (stat fr5) st5 go) (fun r s6 ⟨u,hr,h6⟩=>?_) fun _ _ e=>e
   subst hr
   refine wpAny_bind (wpAny_mono h6 (fun _ s7 ⟨v,H7,I7,r7,y7,st7,fr7⟩=>?_) fun _ _ e=>e)
   have I7':=I7.pinned (stat fr7) (T.obj _ _ st7)
   have G:PG (cxC X (x::x2::ys) scope cl {s2 with heap:=s2.heap.push {cls:=.type "list",dict:=none,data:=.seq ([]:List Value).toArray}} (upd H2 s2.heap.objs.size (.lst [])) fp) (.Tuple [.Name x px,.Name x2 px2] kt tpos) (gTup X.K 2 (zjw (zbS 0) (zjw (zbS 1) gNil))):=
    zca hc (z7 (zN nd2 rfl (.inl (lookup_relabel_local S.tgt)) (.inr (lookup_relabel_local S.tgt))) (z7 (zN nd2 rfl (.inl (lookup_relabel_local tg2)) (.inr (lookup_relabel_local tg2))) zbf))
   obtain ⟨a,y,z,ev,et,step'⟩:=step v _ y7
   refine wpAny_bind (wpAny_mono (G _ s7 _ H7 v u (fun σ8 H8=>σ8=some y::some z::frees σ js∧H8=H7) I7' r7 ⟨a,[y,z],ev,et,rfl,y,[z],rfl,z,[],rfl,rfl,rfl,rfl⟩) (fun _ s8 ⟨σ8,H8,I8,e8,e8'⟩=>?_) fun _ _ e=>e.elim)
   subst e8 e8'
   refine wpAny_bind (wpAny_mono (ht _ _ _ _ s8 _ _ _ I8 step') (fun ok s9 ⟨H9,I9,q9⟩=>?_) fun _ _ e=>e.elim)
   have again:∀{acc':List V} {H10:Hp} {s10:Shared},Inv (cxC X (x::x2::ys) scope cl {s2 with heap:=s2.heap.push {cls:=.type "list",dict:=none,data:=.seq ([]:List Value).toArray}} (upd H2 s2.heap.objs.size (.lst [])) fp) (X.pn++pins++zc9 fp s7.heap) (some y::some z::frees σ js) H10 s10→
     (∃m',m' < n∧W (i+1) m' acc' H10)→∃m,m < n∧∃i acc v0 v1 H',Inv (cxC X (x::x2::ys) scope cl {s2 with heap:=s2.heap.push {cls:=.type "list",dict:=none,data:=.seq ([]:List Value).toArray}} (upd H2 s2.heap.objs.size (.lst [])) fp) (X.pn++pins) (v0::v1::frees σ js) H' s10∧tn i s10.heap∧(∀b∈fp,H' b=none)∧W i m acc H':=fun {acc' H10 s10} I10 ⟨m',hm,w10⟩=>by
    refine ⟨m',hm,i+1,acc',some y,some z,H10,I10.unpinned,T.keep _ _ _ st7 fun b hb o e=>(I10.pin (b,o) (List.mem_append_right _ (List.mem_append_right _ (zaW hb e)))).1,fun b hb=>?_,w10⟩
    obtain ⟨o,e,d⟩:=T.obj _ _ st7 b hb
    exact (I10.pin (b,o) (List.mem_append_right _ (List.mem_append_right _ (zaW hb e)))).2.1
   cases ok with
   | false=>
    rw [if_neg Bool.false_ne_true] at q9
    exact wpAny_pure ⟨rfl,again I9 q9⟩
   | true=>
    rw [if_pos rfl] at q9
    refine wpAny_bind (wpAny_bind (wpAny_mono (he _ _ _ _ s9 _ _ _ I9 q9) (fun yv s10 ⟨zv,H10,I10,r10,e10,l10,w10⟩=>?_) fun _ _ e=>e.elim))
    refine wpAny_bind (wpAny_mono (zaM (X:=cxC X (x::x2::ys) scope cl {s2 with heap:=s2.heap.push {cls:=.type "list",dict:=none,data:=.seq ([]:List Value).toArray}} (upd H2 s2.heap.objs.size (.lst [])) fp) _ s10 _ H10 (.ref s2.heap.objs.size) [zv] (.ref s2.heap.objs.size) [yv] (fun _ H'=>H'=upd H10 s2.heap.objs.size (.lst (acc++ [zv]))) I10 rfl (.cons r10 .nil) ⟨_,acc,zv,rfl,rfl,e10,l10,rfl⟩)
     (fun _ s11 ⟨_,H11,I11,_,e11⟩=>?_) fun _ _ e=>e.elim)
    subst e11
    exact wpAny_pure (wpAny_pure ⟨rfl,again I11 w10⟩)
 exact codeAny_compStart_list loop (T.self _ 0 _ _ _ st4 loop)
theorem zia {i:Nat}{y:Str}{py spos:Pos}(S:zQ X x ys js scope cl)(tg2:scope.names.lookup x2=some .local)(nd2:(x::x2::ys).Nodup)(hc:X.calm=true)(hi:PI X (.Tuple [.Name x px,.Name x2 px2] kt tpos) iter wi)(ht:∀s₀ H₀ ex,PTs (cxC X (x::x2::ys) scope cl s₀ H₀ ex) ifs tt)(he:∀s₀ H₀ ex,PE (cxC X (x::x2::ys) scope cl s₀ H₀ ex) elt te)
  (hN:X.N.Nodup) (hy:X.N[i]? =some y) (hx:Loc X.env.scope y) (hsw:swapsWith (.ListComp elt [⟨.Tuple [.Name x px,.Name x2 px2] kt tpos,iter,ifs,0⟩] scope pos) (some (.Name y py)) spos.line X.env=pure true)
  (hf:X.fn y=true∨X.env.scope.names.lookup y=some .local:=by first | exact .inl rfl | exact .inr rfl | assumption)
  (hs:∀x,foldedSetIterable iter X.env x=pure x:=by intro _;rfl):PS X (.Assign [.Name y py] (.ListComp elt [⟨.Tuple [.Name x px,.Name x2 px2] kt tpos,iter,ifs,0⟩] scope pos) spos) (tAsg (zl1 X.K wi js tt te) (zbS i)):=by
 intro pins s σ H D I h
 rw [exec_Assign_Name_used _ _ _ _ hsw]
 refine wpAny_bind (wpAny_standAt (wpAny_bind ?_))
 show wpAny _ X.A (do let _←comprehension (.ListComp elt [⟨.Tuple [.Name x px,.Name x2 px2] kt tpos,iter,ifs,0⟩] scope pos) scope X.env _ (newList []) false (eval iter X.env) (some (assign (.Name y py) X.env))) _ _ s
 refine wpAny_bind (wpAny_mono (wpAny_comprehension_free (use:=some (assign (.Name y py) X.env)) (Q:=fun _ s'=>SP X pins D .next s') rfl hs S.clos S.kind S.names
  (thn (hi pins s σ H _ I h) fun v s1 h1=>thn h1 fun itv s2 h2=>?_)) (fun _ s' hq=>wpAny_pure (wpAny_pure hq)) fun _ _ e=>e)
 obtain ⟨it,fp,tn,J,H2,e,I2,T,st2,f2,q⟩:=h2
 subst e
 refine zhS (Q:=fun x H1=>zbS i x σ H1 D.nx) (R:=fun acc C=>compPost (model X.prog X.w) X.A X.xe (some (assign (.Name y py) X.env)) (fun _ s'=>SP X pins D .next s') acc C) S tg2 nd2 hc ht he I2 T st2 f2 q fun p C H' s' m hC hn hf' I' q'=>?_
 have neL:C≠X.env.locals:=Nat.ne_of_gt (Nat.lt_of_lt_of_le I2.lt hC)
 have nfs:C∉X.fs:=I2.nofs hC
 have hn0:=hn
 obtain ⟨o,es,ep,ho,hd,r⟩:=hn
 have Ip:Inv X (pins++ [(C,o)]) σ H' s':=I'.pins_of fun p hp=>(List.mem_append.mp hp).elim (fun z=>I'.pin p (List.mem_append_right _ z)) fun z=>by
  have e:p=(C,o):=by simpa using z
  subst e
  exact ⟨ho,hf',neL,nfs,fun v w=>by rw [hd] at w;cases w⟩
 show wpAny _ _ (assign (.Name y py) X.env (.ref p)) _ _ s'
 refine thn (zN (pos:=py) hN hy hx hf _ s' σ H' (.ref p) (.ref p) _ Ip rfl q') fun _ s'' ⟨σ8,H8,I8,q8⟩=>?_
 have pc:=I8.pin (C,o) (List.mem_append_right _ (List.mem_append_right _ (by simp)))
 refine ⟨m,⟨o,es,ep,pc.1,hd,r⟩,fun h' hb=>⟨σ8,H8,?_,q8⟩⟩
 have I9:Inv X pins σ8 H8 s'':=I8.pins_of fun p hp=>I8.pin p (List.mem_append_right _ (List.mem_append_left _ hp))
 exact I9.turned (it:=C) (t':=s''.toks) (fun b o hne e=>hb.extBut b o hne e) pc.2.1 neL (.inr (Nat.le_trans I2.sz hC))
  (fun y c e z=>by obtain ⟨v,w⟩:=I2.cell y c e;subst z;exact Nat.lt_irrefl _ (Nat.lt_of_lt_of_le w.lt hC)) fun p hp z=>by have q:=Heap.lt_size (I2.pin p hp).1;rw [z] at q;exact Nat.lt_irrefl _ (Nat.lt_of_lt_of_le q hC)
end
end L2
namespace L2
open PySem PySem.Spec PyProof.Rows
def pickN {α:Type}(is:List Nat)(xs:List α):List α:=is.filterMap fun i=>xs[i]?
def picks (n:Nat)(lo hi st:Option Int):List Nat:=sliceRange (sliceBounds lo hi st n).1 (sliceBounds lo hi st n).2.1 (sliceBounds lo hi st n).2.2
theorem Vals.pickN:∀(is:List Nat) {xs:List V} {its:List Value},Vals xs its→Vals (L2.pickN is xs) (L2.pickN is its)
 | [],_,_,_=>.nil
 | i::is,xs,its,r=>by
  unfold L2.pickN
  rw [List.filterMap_cons,List.filterMap_cons]
  have hl:=r.length
  by_cases h:i < xs.length
  ·have e1:xs[i]? =some xs[i]:=List.getElem?_eq_getElem h
   obtain ⟨u,e2,ru⟩:=r.get e1
   rw [e1,e2]
   exact .cons ru (Vals.pickN is r)
  ·rw [List.getElem?_eq_none (by omega),List.getElem?_eq_none (by omega)]
   exact Vals.pickN is r
theorem zed (its:List Value)(lo hi st:Option Int):slicePick its.toArray lo hi st=(pickN (picks its.length lo hi st) its).toArray:=by
 unfold slicePick pickN picks
 simp only [List.size_toArray]
 congr 1
 congr 1
 funext i
 simp
section
variable {X:Cx}{e e3:Expr}{lo hi:Option Expr}{te:TE}{tl th ts:St→Hp→(Option Int→Hp→Prop)→Prop}{p2 pos:Pos}
def tSl3 (K:PySem.W.Frag)(te:TE)(tl th ts:St→Hp→(Option Int→Hp→Prop)→Prop):TE:=fun σ H Q=>te σ H fun x H1=>tl σ H1 fun l H2=>th σ H2 fun u H3=>ts σ H3 fun k H4=>∃a xs,x=.ref a∧SqL K H4 a xs∧k≠some 0∧(picks xs.length l u k).length≤sizeLine∧∀p,H4 p=none→Q (.ref p) (upd H4 p (.lst (pickN (picks xs.length l u k) xs)))
theorem zhI (he:PE X e te)(hl:PO X lo tl)(hu:PO X hi th)(hk:PO X (some e3) ts):PE X (.Subscript e (.Slice lo hi (some e3) p2) pos) (tSl3 X.K te tl th ts):=by
 intro pins s σ H Q I h
 refine Subscript_ (thn (he pins s σ H _ I h) fun v s1 ⟨x,H1,I1,r1,q1⟩=>?_)
 refine wpAny_Slice (thn (hl pins s1 σ H1 _ I1 q1) fun vl s2 ⟨l,H2,I2,pl,q2⟩=>thn (hu pins s2 σ H2 _ I2 q2) fun vu s3 ⟨u,H3,I3,pu,q3⟩=>thn (hk pins s3 σ H3 _ I3 q3) fun vk s4 ⟨k,H4,I4,pk,q4⟩=>?_)
 obtain ⟨a,xs,rfl,hx,h0,hlen,q⟩:=q4
 cases r1
 have I5:Inv X pins σ H4 {s4 with heap:=s4.heap.push {cls:=.type "slice",data:=.fields #[vl,vu,vk]}}:=I4.kept (t':=s4.toks) fun b ob q=>Heap.get?_push_of_some _ q
 obtain ⟨its,r,ht,hz⟩:=I5.list hx
 have hl2:=r.length
 show wpAny (model X.prog X.w) X.A (subscriptTail e (.Slice lo hi (some e3) p2) (.ref a) (.ref s4.heap.objs.size)) (EP X pins σ Q) X.xe {s4 with heap:=s4.heap.push {cls:=.type "slice",data:=.fields #[vl,vu,vk]}}
 refine tail_any (ops:=[.ref a,.ref s4.heap.objs.size]) ht.isList.typeIs slot_list_getitem.lookup ?_ (by with_unfolding_all rfl)
 refine wpAny_getItem_list_slice ht.isList (Heap.IsSliceOf.new ..) pl pu pk h0 ?_ (by rw [List.size_toArray] <;> omega)
 rw [zed,←hl2]
 refine ⟨.ref (s4.heap.push {cls:=.type "slice",data:=.fields #[vl,vu,vk]}).objs.size,_,I5.laid (t':=s4.toks) (o:=.lst (pickN (picks xs.length l u k) xs)) (fun b ob q=>Heap.get?_push_of_some _ q) (Nat.le_refl _) ?_,rfl,q _ (I5.hok.fresh (Nat.le_refl _))⟩
 exact ⟨Nat.le_trans (List.length_filterMap_le _ _) hlen,_,0,r.pickN _,Heap.get?_push_size _ rfl⟩
end
end L2
namespace Pv
open PySem L2
theorem RepL.pickN {H:Hp}:∀(is:List Nat) {ts:List Th} {xs:List V},RepL H ts xs→RepL H (L2.pickN is ts) (L2.pickN is xs)
 | [],_,_,_=>.nil
 | i::is,ts,xs,r=>by
  unfold L2.pickN
  rw [List.filterMap_cons,List.filterMap_cons]
  have hl:=r.len
  by_cases h:i < xs.length
  ·have e1:xs[i]? =some xs[i]:=List.getElem?_eq_getElem h
   have e2:ts[i]? =some (ts[i]'(by omega)):=List.getElem?_eq_getElem (by omega)
   rw [e1,e2]
   exact .cons (r.at i _ _ e1 e2) (RepL.pickN is r)
  ·rw [List.getElem?_eq_none (by omega),List.getElem?_eq_none (by omega)]
   exact RepL.pickN is r
end Pv
namespace Pv
open PySem L2
open Tr
abbrev zaT:Stmt:=top 57
theorem zK:zu ["ranks","twins","due","turn","keeper","root","key","worth","worths","k"] ["ranks"] (zd zaT):=⟨rfl,rfl,rfl,by decide+kernel,rfl,by decide+kernel,by decide+kernel⟩
abbrev tw1:Th:=.int (-1285000000000000000)
abbrev tw2:Th:=.int 251530379464423
abbrev tws:List (Th ×Th):=[(tw1,.int 2),(tw2,.int 1)]
theorem zkx:KeyT tw1:=⟨by show -(10 ^ 30)≤(-1285000000000000000:Int)∧(-1285000000000000000:Int)≤10 ^ 30;decide,by decide,by decide,fun z=>by cases z⟩
theorem zkg:KeyT tw2:=⟨by show -(10 ^ 30)≤(251530379464423:Int)∧(251530379464423:Int)≤10 ^ 30;decide,by decide,by decide,fun z=>by cases z⟩
theorem tw_w (i:Int)(h:0≤i∧i≤2):KeyT (.int i):=⟨by show -(10 ^ 30)≤i∧i≤10 ^ 30;omega,by show 0≤3;decide,by show 1≤10;decide,fun z=>by cases z⟩
theorem zeF:zdT tws:=fun p hp=>by
 rcases List.mem_cons.mp hp with e | hp
 ·rw [e];exact ⟨zkx,tw_w 2 (by decide)⟩
 ·rw [List.mem_singleton.mp hp];exact ⟨zkg,tw_w 1 (by decide)⟩
theorem zil:ze tw1 tw2=true:=by decide
theorem zdU:Srt tws:=List.pairwise_cons.mpr ⟨fun q hq=>by rw [List.mem_singleton.mp hq];exact zil,List.pairwise_singleton _ _⟩
theorem zjV:∃T:Tr,T.ps=tws∧Abv T:=by
 have s0:Srt (Tr.nil).ps:=List.Pairwise.nil
 have s1:Srt (putT tw1 (.int 2) Tr.nil).ps:=by rw [zc2 s0];exact zdD s0
 refine ⟨putT tw2 (.int 1) (putT tw1 (.int 2) Tr.nil),?_,zcH s1 (zcH s0 trivial)⟩
 rw [zc2 s1,zc2 s0]
 rfl
theorem zeC:picks 2 none none (some (-1))=[1,0]:=by
 first
 | decide+kernel
 | (unfold picks sliceRange;simp [sliceBounds];done)
theorem zjP (a b:V):pickN (picks [a,b].length none none (some (-1))) [a,b]=[b,a]:=by
 show pickN (picks 2 none none (some (-1))) [a,b]=[b,a]
 rw [zeC];rfl
def zgC (w:World)(CC:Addr):Sp:=fun vs H Q E=>∃(dr:Addr) (ks:List Kv) (U:List Th),vs=[.ref dr]∧Rk w H dr ks U∧tw1∈U∧tw2∈U∧Cl CC E∧∀H',Q (.bl true) H'
section
variable {P:Program}{w:World}{K:PySem.W.Frag}{mg:Str→Option Value}{base:Heap}{C CC:Addr}
theorem ziz (D:Dfn K mg "_law_twins_right" zaT ["ranks"]) (K_Keeper:Mkr P w K mg base "Keeper" C 1 ["self"] (zdC C)) (F_law_root:Fn P w K mg base "_law_root" 79 ["ranks","pairs"] (zeV w 64)) (F_put:FnX P w K mg base "put" 23 ["vault","root","key","worth"] (zhm C CC)) (F_cut:FnX P w K mg base "cut" 23 ["vault","root","key"] (zgS C CC)) (F_found:Fn P w K mg base "found" 23 ["vault","root","key"] (zdB C)) (m_range:mg "range" =none):FnX P w K mg base "_law_twins_right" 80 ["ranks"] (zgC w CC):=by
 refine D.okX (k:=79) zK (fun vs H Q E h=>?_) (fun f cdv A outer s H vs Q E hr h=>?_)
 ·obtain ⟨dr,ks,U,rfl,_⟩:=h;rfl
 obtain ⟨dr,ks,U,rfl,rk,u1,u2,cl,q⟩:=h
 refine ⟨_,(zb (zm (i:=1) zK.nd rfl (Or.inl rfl) (zaa (za (zV (za (zcO zbM zf) (za zf zc))) (za (zV (za zf (za zf zc))) zc))))
 (zb (zm (i:=2) zK.nd rfl (Or.inl rfl) (zA F_law_root hr (by omega) (by rfl) (za (pv 0) (za (pv 1) zc))))
 (zb (zak PassesOwn.leaving rfl (za5 rfl m_range (za zf zc)) (zN (i:=3) zK.nd rfl (Or.inl rfl))
 (zb (zm (i:=4) zK.nd rfl (Or.inr rfl) (zhh K_Keeper hr (by omega) (by rfl)))
 (zb (zm (i:=5) zK.nd rfl (Or.inr rfl) zf)
 (zb (zak PassesOwn.leaving rfl (zaY (zr zI (zaa (za (pv 1) (za (zhI (pv 1) zaG zaG (zan (zcO zbM zf))) zc))) (pv 3) (fun _ _=>rfl))) (zca rfl (z7 (zN (i:=6) zK.nd rfl (Or.inl rfl)) (z7 (zN (i:=7) zK.nd rfl (Or.inl rfl)) zbf)))
 (zg (zm (i:=5) zK.nd rfl (Or.inr rfl) (zaO F_put hr (by omega) (by rfl) z4 (za (pv 4) (za (pv 5) (za (pv 6) (za (pv 7) zc))))))))
 (zb (zia (i:=8) (zQ.two (y1:= "root") (y2:= "keeper") (j1:=5) (j2:=4) (c1:=s.heap.objs.size+2) (c2:=s.heap.objs.size+1) (by rfl) (by rfl) (by decide+kernel) (by decide+kernel) (by rfl) (by decide+kernel) (by decide+kernel) (by decide+kernel) (by rfl) (by rfl) (by decide+kernel) (by rfl) (by rfl) (by first | exact Or.inl rfl | exact Or.inr rfl) (by first | exact Or.inl rfl | exact Or.inr rfl) (by first | exact Or.inl rfl | exact Or.inr rfl) (by first | exact Or.inl rfl | exact Or.inr rfl)) (by rfl) (by decide+kernel) rfl (zaY (pv 1)) (fun _ _ _=>zdw) (fun _ _ _=>(zA F_found hr (by omega) (by rfl) (za (pv 3) (za (pv 2) (za (pv 0) zc))))) zK.nd rfl (Or.inl rfl) (by rfl))
 (zb (zP (PW.pt (zcN (zH zbU (pv 5) (pv 2) (zD _)) (zb1 (zH (zke hr) (pv 8) (zaa (za zf (za zf zc))) (zD _)))))
 (zg (zq za6))
 zC)
 (zg (zak PassesOwn.leaving rfl (za5 rfl m_range (za zf zc)) (zN (i:=9) zK.nd rfl (Or.inl rfl))
 (zg (zP (zH zbU (zaO F_cut hr (by omega) (by rfl) z4 (za (pv 4) (za (pv 5) (za (zr zx (zr zI (pv 1) (pv 9) (fun _ _=>rfl)) zf (fun _ _=>rfl)) zc)))) (zA F_law_root hr (by omega) (by rfl) (za (pv 0) (za (zaa (za (zr zI (pv 1) (zy zbk zf (pv 9)) (fun _ _=>rfl)) zc)) zc))) (zD _))
 (zg (zq za6))
 zC))))))))))
 (zg (zq za6))))),?_⟩
 obtain ⟨T0,e0,ab0⟩:=zjV
 refine ⟨_,rfl,szl (show 2≤1000 by decide),fun p1 hp1=>?_⟩
 have s1:=zj (o:=.tup [.int (-1285000000000000000),.int 2]) (Same.refl H) hp1
 have r1:=(RepL.cons (H:=H) (.int (-1285000000000000000)) (.cons (.int 2) .nil)).new hp1
 generalize upd H p1 (.tup [.int (-1285000000000000000),.int 2])=H1 at s1 r1
 refine ⟨szl (show 2≤1000 by decide),fun p2 hp2=>?_⟩
 have s2:=zj (o:=.tup [.int 251530379464423,.int 1]) (Same.refl H1) hp2
 have r2:=(RepL.cons (H:=H1) (.int 251530379464423) (.cons (.int 1) .nil)).new hp2
 generalize upd H1 p2 (.tup [.int 251530379464423,.int 1])=H2 at s2 r2
 refine ⟨szl (show 2≤1000 by decide),fun pt hpt=>?_⟩
 have s3:=zj (o:=.lst [.ref p1,.ref p2]) (Same.refl H2) hpt
 have e3:upd H2 pt (.lst [.ref p1,.ref p2]) pt=some (.lst [.ref p1,.ref p2]):=zh
 generalize upd H2 pt (.lst [.ref p1,.ref p2])=H3 at s3 e3
 have s03:Same H H3:=fun b o e=>s3 b o (s2 b o (s1 b o e))
 have rl3:RepL H3 (tws.map zaK) [.ref p1,.ref p2]:=.cons ((r1.keep (Same.tups s2)).keep (Same.tups s3)) (.cons (r2.keep (Same.tups s3)) .nil)
 have pl3:PL H3 pt tws:=⟨_,e3,rl3⟩
 have rk3:=rk.same s03
 have hU:∀p∈tws,p.1∈U:=fun p hp=>by
  rcases List.mem_cons.mp hp with e | hp
  ·rw [e];exact u1
  ·rw [List.mem_singleton.mp hp];exact u2
 have hc0:T0.cnt=2:=by show T0.ps.length=2;rw [e0];rfl
 refine ⟨_,rfl,_,rfl,dr,pt,ks,U,T0,rfl,rk3,by rw [e0];exact pl3,by rw [e0];exact zdU,ab0,by rw [e0];exact zeF,by rw [e0];exact hU,by omega,by omega,fun ks4 H4 f4 rk4=>?_⟩
 have tup4:=rk3.tups f4
 have e4:=f4 _ _ (rk3.ne e3 (by intro φ z;cases z)) e3
 have rl4:=rl3.keep tup4
 refine ⟨2,rfl,by decide,by decide,?_⟩
 refine zaV (n:=2) (fun i σ H'=>∃(ks':List Kv) (k3 k4 k5 k6 k7 k8 k9:Option V),σ=[some (.ref dr),some (.ref pt),some (.int T0.root),k3,k4,k5,k6,k7,k8,k9]∧Rk w H' dr ks' U∧H' pt=some (.lst [.ref p1,.ref p2])∧RepL H' (tws.map zaK) [.ref p1,.ref p2]) ⟨ks4,_,_,_,_,_,_,_,rfl,rk4,e4,rl4⟩ ?_ ?_
 ·rintro i σ H5 hi ⟨ks5,k3,k4,k5,k6,k7,k8,k9,rfl,rk5,e5,rl5⟩
  intro x dx hx hdx ndx
  refine zeJ hx hdx ndx fun d H6 s6 hd ex ed=>?_
  have vs6:VS H6 C x d []:=⟨⟨[],⟨⟨dx,_,ex,zkX d⟩,ed⟩,.nil⟩,GoodC.nil⟩
  have e6:=s6 _ _ e5
  refine ⟨_,rfl,_,rfl,_,rfl,_,rfl,pt,_,rfl,SqL.of e6,by decide,szl (by show (picks 2 none none (some (-1))).length≤1000;rw [zeC];decide),fun pr hpr=>?_⟩
  have erev:pickN (picks [V.ref p1,V.ref p2].length none none (some (-1))) [V.ref p1,V.ref p2]=[V.ref p2,V.ref p1]:=zjP _ _
  have s7:=zj (o:=.lst (pickN (picks [V.ref p1,V.ref p2].length none none (some (-1))) [V.ref p1,V.ref p2])) (Same.refl H6) hpr
  have e7:upd H6 pr (.lst (pickN (picks [V.ref p1,V.ref p2].length none none (some (-1))) [V.ref p1,V.ref p2])) pr=some (.lst [V.ref p2,V.ref p1]):=by rw [←erev];exact zh
  generalize upd H6 pr (.lst (pickN (picks [V.ref p1,V.ref p2].length none none (some (-1))) [V.ref p1,V.ref p2]))=H7 at s7 e7
  refine ⟨szl (show 2≤1000 by decide),fun pd hpd=>?_⟩
  have s8:=zj (o:=.lst [.ref pt,.ref pr]) (Same.refl H7) hpd
  have e8:upd H7 pd (.lst [.ref pt,.ref pr]) pd=some (.lst [.ref pt,.ref pr]):=zh
  generalize upd H7 pd (.lst [.ref pt,.ref pr])=H8 at s8 e8
  have s68:Same H6 H8:=fun b o e=>s8 b o (s7 b o e)
  have s58:Same H5 H8:=fun b o e=>s68 b o (s6 b o e)
  have rl8:=rl5.keep (Same.tups s58)
  have pick:∃(lp:Addr) (ws:List V) (qs:List (Th ×Th)),atI [V.ref pt,V.ref pr] ((0:Int)+((i:Nat):Int))=some (.ref lp)∧H8 lp=some (.lst ws)∧RepL H8 (qs.map zaK) ws∧(∀y,y∈qs↔y∈tws)∧qs.length=2:=by
   match i,hi with
   | 0,_=>exact ⟨pt,_,tws,rfl,s58 _ _ e5,rl8,fun y=>Iff.rfl,rfl⟩
   | 1,_=>exact ⟨pr,_,tws.reverse,rfl,s8 _ _ e7,RepL.rev rl8,fun y=>List.mem_reverse,rfl⟩
  obtain ⟨lp,ws,qs,hat,elp,rq,mq,hql⟩:=pick
  have hwq:ws.length=qs.length:=by rw [rq.len,List.length_map]
  have vs8:=vs6.same s68
  have rk8:=rk5.same s58
  refine ⟨_,rfl,pd,_,_,_,rfl,rfl,SqL.of e8,hat,?_⟩
  refine ⟨lp,rfl,⟨_,SqL.of elp⟩,?_⟩
  refine zbq (xs:=ws) (fun i' σ H'=>∃(T:Tr) (cs:List (Int ×Th)) (k6 k7:Option V),σ=[some (.ref dr),some (.ref pt),some (.int T0.root),some (.int ((0:Int)+((i:Nat):Int))),some (.ref x),some (.int T.root),k6,k7,k8,k9]∧Fr1 d H8 H'∧VS H' C x d cs∧TOk cs T∧Srt T.ps∧Abv T∧T.cnt≤i'∧cs.length≤300 * i'∧∀y,y∈T.ps↔y∈qs.take i') ⟨Tr.nil,[],_,_,rfl,Fr1.refl _ _,vs8,TOk.nil,List.Pairwise.nil,trivial,Nat.le_refl _,Nat.le_refl _,fun y=>by rw [List.take_zero];exact Iff.rfl⟩ ?_ ?_ ?_
  ·rintro i' σ H' _ ⟨T,cs,k6,k7,rfl,fr,_⟩
   exact SqL.of (vs8.lst fr elp)
  ·rintro i' y σ H9 hy ⟨T,cs,k6,k7,rfl,fr,vs,tk,so,ab,hc,hl,mem⟩
   have hi':i' < ws.length:=(List.getElem?_eq_some_iff.mp hy).1
   have hiq:i' < qs.length:=by omega
   have eq:qs[i']? =some qs[i']:=List.getElem?_eq_getElem hiq
   have rp:=(rq.at i' _ _ hy (by rw [List.getElem?_map,eq];rfl)).keep (vs8.tups fr)
   obtain ⟨b,vk,vw,rfl,eb,rk',rw'⟩:=zah rp
   have hm:qs[i']∈tws:=(mq _).mp (List.getElem_mem hiq)
   obtain ⟨kk,kw⟩:=zeF _ hm
   refine ⟨b,_,rfl,SqT.of eb,rfl,_,_,rfl,_,_,rfl,rfl,?_⟩
   refine ⟨_,rfl,_,rfl,_,rfl,_,rfl,x,d,cs,T,qs[i'].1,qs[i'].2,vk,vw,rfl,vs,tk,by omega,rk',kk,rw',kw,by omega,cl,fun cs' H10 f10 vs10 sb ip le=>?_⟩
   have ep:=zc2 (x:=qs[i'].1) (w:=qs[i'].2) so
   have il:=zgK (ps:=T.ps) (x:=qs[i'].1) (w:=qs[i'].2)
   have hcc:(putT qs[i'].1 qs[i'].2 T).cnt≤T.cnt+1:=by show (putT qs[i'].1 qs[i'].2 T).ps.length≤_;rw [ep];exact il
   have et:qs.take (i'+1)=qs.take i'++ [qs[i']]:=by rw [List.take_add_one,eq];rfl
   have sub:∀z∈T.ps,z∈tws:=fun z hz=>(mq z).mp (List.mem_of_mem_take ((mem z).mp hz))
   refine ⟨putT qs[i'].1 qs[i'].2 T,cs',_,_,rfl,fr.trans f10,vs10,⟨ip,fun z hz=>?_,by omega⟩,by rw [ep];exact zdD so,zcH so ab,by omega,by omega,fun z=>?_⟩
   ·rw [ep] at hz
    rcases zg8 hz with u | u
    ·exact zeF z (sub z u)
    ·rw [u];exact ⟨kk,kw⟩
   ·rw [ep,zfw,et,List.mem_append,List.mem_singleton]
    constructor
    ·rintro (⟨u,_⟩ | u)
     ·exact .inl ((mem z).mp u)
     ·exact .inr u
    ·rintro (u | u)
     ·have hz:=(mem z).mpr u
      by_cases e:z.1=qs[i'].1
      ·exact .inr (zcM zdU (sub z hz) hm e)
      ·exact .inl ⟨hz,e⟩
     ·exact .inr u
  ·rintro σ H9 ⟨T,cs,k6,k7,rfl,fr,vs9,tk,so,ab,hc,hl,mem⟩
   rw [hwq,List.take_length] at mem
   have eT:T.ps=tws:=zd8 so zdU fun y=>(mem y).trans (mq y)
   have eTT:T=T0:=zby so ab ab0 (eT.trans e0.symm)
   have hcT:T.cnt=2:=by show T.ps.length=2;rw [eT];rfl
   rw [hwq,hql] at hl
   have rk9:=rk8.fr vs8 fr
   have e9:=vs8.lst fr (s58 _ _ e5)
   have rl9:=rl8.keep (vs8.tups fr)
   refine ⟨_,rfl,pt,rfl,⟨_,SqL.of e9⟩,fun pw hpw=>?_⟩
   refine ⟨fun j m acc H=>m=2 - j∧j≤2∧Same H9 H∧H pw=some (.lst acc)∧RepL H (([.int 2,.int 1]:List Th).take j) acc,⟨_,rfl,by decide,zj (Same.refl H9) hpw,zh,.nil⟩,?_⟩
   rintro j m acc H10 ⟨rfl,hj,sm,ep,ra⟩
   by_cases hlt:j < 2
   ·have hjl:j < [V.ref p1,V.ref p2].length:=hlt
    have hjt:j < tws.length:=hlt
    have ev:[V.ref p1,V.ref p2][j]? =some ([V.ref p1,V.ref p2][j]):=List.getElem?_eq_getElem hjl
    have eq:tws[j]? =some tws[j]:=List.getElem?_eq_getElem hjt
    refine .inr ⟨⟨_,_,SqL.of (sm _ _ e9),ev⟩,fun y H' hy=>?_⟩
    obtain ⟨rfl,hy⟩:=hy
    have ey:y=[V.ref p1,V.ref p2][j]:=by
     have:=hy _ (SqL.of (sm _ _ e9))
     rw [ev] at this
     exact (Option.some.inj this).symm
    have rp:=(rl9.at j _ _ ev (by rw [List.getElem?_map,eq];rfl)).keep (Same.tups sm)
    rw [←ey] at rp
    obtain ⟨b,vk,vw,rfl,eb,rk',_⟩:=zah rp
    have hm:tws[j]∈tws:=List.getElem_mem hjt
    have hal:acc.length≤2:=by rw [ra.len];exact Nat.le_trans (List.length_take_le _ _) (by omega)
    refine ⟨b,vk,vw,rfl,SqT.of eb,?_⟩
    dsimp only [zcI]
    rw [if_pos rfl]
    refine ⟨_,rfl,_,rfl,_,rfl,x,d,cs,T,tws[j].1,vk,rfl,vs9.same sm,tk,so,rk',(zeF _ hm).1,fun u v H11 s11 ru wu=>?_⟩
    have eu:u=tws[j].2:=by
     rw [eT] at wu
     rcases wu with h | ⟨_,h⟩
     ·exact congrArg Prod.snd (zcM (p:=(tws[j].1,u)) (q:=tws[j]) zdU h hm rfl)
     ·exact absurd rfl (h _ hm)
    have ep2:=s11 _ _ ep
    have tk2:Tups H11 (upd H11 pw (.lst (acc++ [v]))):=Tups.upd fun xs z=>by rw [ep2] at z;cases z
    refine ⟨ep2,Nat.lt_of_lt_of_le (show acc.length < 1000 by omega) (szl (Nat.le_refl _)),_,(show 2 - (j+1) < 2 - j by omega),rfl,by omega,zaZ (fun b o e=>s11 b o (sm b o e)) hpw,zh,?_⟩
    have et:([.int 2,.int 1]:List Th).take (j+1)=([.int 2,.int 1]:List Th).take j++ [tws[j].2]:=by
     match j,hlt with
     | 0,_=>rfl
     | 1,_=>rfl
    rw [et,←eu]
    exact ((ra.keep (Same.tups s11)).keep tk2).snoc (ru.keep tk2)
   ·have ej:j=2:=by omega
    subst ej
    refine .inl ⟨⟨_,SqL.of (sm _ _ e9),Nat.le_refl _⟩,?_⟩
    have ra2:RepL H10 [.int 2,.int 1] acc:=ra
    have rk10:=rk9.same sm
    have vs10:=vs9.same sm
    refine ⟨_,rfl,_,rfl,rfl,_,rfl,?_⟩
    rw [za9,eTT,decide_eq_true (rfl:T0.root=T0.root)]
    refine ifF rfl ?_
    refine ⟨_,rfl,szl (show 2≤1000 by decide),fun pe hpe=>?_⟩
    have s12:=zj (o:=.lst [.int 2,.int 1]) (Same.refl H10) hpe
    have e12:upd H10 pe (.lst [.int 2,.int 1]) pe=some (.lst [.int 2,.int 1]):=zh
    generalize upd H10 pe (.lst [.int 2,.int 1])=H12 at s12 e12
    refine ⟨pw,pe,_,_,[.int 2,.int 1],[.int 2,.int 1],rfl,rfl,SqL.of (s12 _ _ ep),SqL.of e12,ra2.keep (Same.tups s12),.cons (.int 2) (.cons (.int 1) .nil),fun t ht=>?_,_,rfl,ifF rfl ?_⟩
    ·rcases List.mem_cons.mp ht with e | ht
     ·rw [e];show 0≤50;decide
     ·rw [List.mem_singleton.mp ht];show 0≤50;decide
    have tk12:=tk
    rw [eTT] at tk12
    have so12:Srt T0.ps:=by rw [e0];exact zdU
    refine ⟨2,rfl,by decide,by decide,?_⟩
    refine zaV (n:=2) (fun j σ H'=>∃(ks':List Kv) (cs':List (Int ×Th)) (k9':Option V),σ=[some (.ref dr),some (.ref pt),some (.int T0.root),some (.int ((0:Int)+((i:Nat):Int))),some (.ref x),some (.int T0.root),k6,k7,some (.ref pw),k9']∧VS H' C x d cs'∧Sub cs cs'∧Rk w H' dr ks' U∧H' pt=some (.lst [.ref p1,.ref p2])∧RepL H' (tws.map zaK) [.ref p1,.ref p2]∧cs'.length≤600+600 * j) ⟨ks5,cs,_,rfl,vs10.same s12,Sub.refl _,rk10.same s12,s12 _ _ (sm _ _ e9),(rl9.keep (Same.tups sm)).keep (Same.tups s12),by omega⟩ ?_ ?_
    ·rintro j σ H13 hj ⟨ks',cs',k9',rfl,vs13,sb13,rk13,e13,rl13,le13⟩
     rw [Int.zero_add]
     have two:∃(y1 y2:V) (q1 q2:Th ×Th),atI [V.ref p1,V.ref p2] ((j:Nat):Int)=some y1∧atI [V.ref p1,V.ref p2] (1 - ((j:Nat):Int))=some y2∧Rep H13 (zaK q1) y1∧Rep H13 (zaK q2) y2∧q1∈tws∧q2∈tws∧offP tws q1.1=[q2]:=by
      cases rl13 with
      | cons a1 rl13=>
      cases rl13 with
      | cons a2 _=>
      match j,hj with
      | 0,_=>exact ⟨_,_,(tw1,.int 2),(tw2,.int 1),rfl,rfl,a1,a2,List.mem_cons_self,List.mem_cons_of_mem _ List.mem_cons_self,by decide⟩
      | 1,_=>exact ⟨_,_,(tw2,.int 1),(tw1,.int 2),rfl,rfl,a2,a1,List.mem_cons_of_mem _ List.mem_cons_self,List.mem_cons_self,by decide⟩
     obtain ⟨y1,y2,q1,q2,ix1,ix2,rp1,rp2,m1,m2,eoff⟩:=two
     obtain ⟨b1,vk1,vw1,rfl,eb1,rk1,_⟩:=zah rp1
     refine ⟨_,rfl,_,rfl,_,rfl,_,rfl,pt,_,_,_,rfl,rfl,SqL.of e13,ix1,b1,_,_,_,rfl,rfl,SqT.of eb1,rfl,x,d,cs',T0,q1.1,vk1,rfl,vs13,tk12.mono sb13,rk1,(zeF _ m1).1,by omega,cl,fun cs14 H14 f14 vs14 sb14 ic le14=>?_⟩
     have e14:=vs13.lst f14 e13
     have t14:=vs13.tups f14
     have rk14:=rk13.fr vs13 f14
     have rp14:=rp2.keep t14
     have rl14:=rl13.keep t14
     refine ⟨_,rfl,_,rfl,_,rfl,_,_,rfl,rfl,pt,_,_,_,rfl,rfl,SqL.of e14,ix2,szl (show 1≤1000 by decide),fun pl hpl=>?_⟩
     have s15:=zj (o:=.lst [y2]) (Same.refl H14) hpl
     have e15:upd H14 pl (.lst [y2]) pl=some (.lst [y2]):=zh
     generalize upd H14 pl (.lst [y2])=H15 at s15 e15
     have ecp:(cutT q1.1 T0).ps=[q2]:=by rw [zgn so12,e0];exact eoff
     have plc:PL H15 pl (cutT q1.1 T0).ps:=by rw [ecp];exact ⟨_,e15,.cons (rp14.keep (Same.tups s15)) .nil⟩
     have hcc:(cutT q1.1 T0).cnt=1:=by show (cutT q1.1 T0).ps.length=1;rw [ecp];rfl
     have memc:∀p∈(cutT q1.1 T0).ps,p∈tws:=fun p hp=>by rw [ecp] at hp;rw [List.mem_singleton.mp hp];exact m2
     refine ⟨dr,pl,ks',U,cutT q1.1 T0,rfl,rk14.same s15,plc,by rw [ecp];exact List.pairwise_singleton _ _,ze9 so12 ab0,fun p hp=>zeF p (memc p hp),fun p hp=>hU p (memc p hp),by omega,by omega,fun ks16 H16 f16 rk16=>?_⟩
     refine ⟨rfl,_,rfl,?_⟩
     rw [za9,decide_eq_true (rfl:(cutT q1.1 T0).root=(cutT q1.1 T0).root)]
     refine ifF rfl ?_
     have rk15:=rk14.same s15
     have t16:=rk15.tups f16
     exact ⟨ks16,cs14,_,rfl,(vs14.same s15).rk rk15 f16,sb13.trans sb14,rk16,f16 _ _ (rk15.ne (s15 _ _ e14) (by intro φ z;cases z)) (s15 _ _ e14),(rl14.keep (Same.tups s15)).keep t16,by omega⟩
    ·rintro σ H13 ⟨ks',cs',k9',rfl,vs13,sb13,rk13,e13,rl13,le13⟩
     exact ⟨ks',_,_,_,_,_,_,_,rfl,rk13,e13,rl13⟩
 ·rintro σ H5 ⟨ks5,k3,k4,k5,k6,k7,k8,k9,rfl,rk5,e5,rl5⟩
  exact q H5
end
end Pv
set_option maxHeartbeats 400000
namespace Pv
open PySem L2 PySem.Spec PyProof.Rows
open Classical in
noncomputable def isT (h:Heap)(t:Th)(u:Value):Bool:=decide (TV h t u)
open Classical in
theorem zi2 {h:Heap}{t u:Th}{v:Value}(r:TV h u v):isT h t v=eqT u t:=by
 unfold isT
 cases z:eqT u t with
 | true=>
  have e:u=t:=(zab u t).mp z
  rw [←e];exact decide_eq_true r
 | false=>exact decide_eq_false fun q=>by rw [r.inj q,zY] at z;cases z
section
variable {X:Cx}
theorem zgR {X:Cx}{pins:List (Addr ×Obj)}{σ:L2.St}{H:Hp}{s:Shared}(I:L2.Inv X pins σ H s)(t:Th):∀{ts:List Th} {xs:List V} {its:List Value},RepL H ts xs→Vals xs its→its.any (isT s.heap t)=ts.any fun u=>eqT u t
 | _,_,_,.nil,.nil=>rfl
 | _,_,_,.cons h r,.cons a b=>by rw [List.any_cons,List.any_cons,zi2 (TV.of I h a),zgR I t r b]
theorem ziG {X:Cx}{pins:List (Addr ×Obj)}{σ:L2.St}{H:Hp}{s:Shared}{A:Around}(I:L2.Inv X pins σ H s){t:Th}{x:V}{v:Value}(rt:Rep H t x)(rx:RelV x v)(hu:A.units+52 < cLine):∀{ts:List Th} {xs:List V} {its:List Value},RepL H ts xs→Vals xs its→(∀u∈ts,dep u≤50)→∀w∈its,SeqAt.EqAt A s w v (isT s.heap t w)
 | _,_,_,.nil,.nil,_=>fun w hw=>nomatch hw
 | u::_,_,_,.cons h r,.cons a b,hd=>fun w hw=>by
  rcases List.mem_cons.mp hw with e | hw
  ·subst e
   have:=hd u List.mem_cons_self
   rw [zi2 (TV.of I h a)]
   exact zfb I h rt a rx (by omega)
  ·exact ziG I rt rx hu r b (fun z hz=>hd z (List.mem_cons_of_mem _ hz)) w hw
theorem zgk {k:Nat}(hr:Room k X.A):OpR X (compareOp .NotIn) (fun x y H Q=>∃b xs ts t,y=.ref b∧SqL X.K H b xs∧RepL H ts xs∧Rep H t x∧(∀u∈ts,dep u≤50)∧Q (.bl (!ts.any fun u=>eqT u t)) H):=by
 intro pins s σ H x y v u Q I rx ry h
 obtain ⟨b,xs,ts,t,rfl,hq,rl,rt,hd,q⟩:=h
 cases ry
 obtain ⟨its,r,pl,hz⟩:=I.list hq
 have hu:=hr.units
 refine SeqAt.notIn_listAt (isT s.heap t) pl.isList (fun w hw=>ziG I rt rx (by first | omega | (show X.A.units+1+52 < cLine;omega)) rl r hd w (by simpa using hw)) ⟨.bl _,H,I,rfl,?_⟩
 rw [show its.toArray.any (isT s.heap t)=its.any (isT s.heap t) by simp,zgR I t rl r]
 exact q
end
end Pv
set_option maxHeartbeats 4000000
namespace Pv
open PySem L2
open Tr
abbrev zbC:Stmt:=top 58
theorem zG:zu ["script","way","keeper","ranks","root","pairs","elder","cell","key","due","other","past","some","own","worth"] ["script"] (zd zbC):=⟨rfl,rfl,rfl,by decide+kernel,rfl,by decide+kernel,by decide+kernel⟩
theorem zjB {X:Cx}{w:World}{pos:Pos}(h:X.w=w):PE X (.Dict [] [] pos) (zkN w):=h ▸ zjW
def zfU (K:PySem.W.Frag)(CC:Addr):Sp:=fun vs H Q E=>∃(a:Addr) (ns:List Int),vs=[.ref a]∧SqL K H a (ns.map V.int)∧ns.length≤63∧(∀H',Q (.bl true) H')∧Cl CC E
theorem Rk.nil {w:World}{H:Hp}{dr:Addr}{U:List Th}(e:H dr=some (TD w dr []))(hU:U.length≤900):Rk w H dr [] U:=⟨e,⟨fun x h=>(nomatch h),List.nodup_nil⟩,fun t v h=>(nomatch h),fun x h=>(nomatch h),hU⟩
theorem Rk.more {w:World}{H:Hp}{dr:Addr}{ks:List Kv}{U U':List Th}(k:Rk w H dr ks U)(s:∀t∈U,t∈U')(h:U'.length≤900):Rk w H dr ks U':=⟨k.e,k.kd,k.vl,fun x hx=>s _ (k.un x hx),h⟩
theorem SqL.rk {K:PySem.W.Frag}{w:World}{H H':Hp}{b dr:Addr}{ks:List Kv}{U:List Th}{xs:List V}(h:SqL K H b xs)(k:Rk w H dr ks U)(f:Fr1 dr H H'):SqL K H' b xs:=by
 rcases h with h | h
 ·rcases h with h | ⟨o,h⟩
  ·exact .inl (.inl (f _ _ (k.ne h (by intro φ z;cases z)) h))
  ·exact .inl (.inr ⟨o,f _ _ (k.ne h (by intro φ z;cases z)) h⟩)
 ·exact .inr h
theorem TR.rk {w:World}{H H':Hp}{C a d pl dr:Addr}{cs:List (Int ×Th)}{T:Tr}{ks:List Kv}{U:List Th}(t:TR H C a d pl cs T)(k:Rk w H dr ks U)(f:Fr1 dr H H'):TR H' C a d pl cs T:=⟨t.vs.rk k f,t.ok,t.so,t.ab,t.pl.rk k f⟩
def ElOk (H:Hp)(C a d pe:Addr)(cs:List (Int ×Th))(vs:List V):Prop:=∀v∈vs,∃(p pli:Addr) (Ti:Tr),v=.ref p∧H p=some (.tup [.int Ti.root,.ref pli])∧TR H C a d pli cs Ti∧pli≠pe
theorem ElOk.move {H H':Hp}{C a d pe:Addr}{cs cs':List (Int ×Th)}{vs:List V}(h:ElOk H C a d pe cs vs)(v:VS H' C a d cs')(s:Sub cs cs')(f:Fr1 d H H'):ElOk H' C a d pe cs' vs:=fun y hy=>by
 obtain ⟨p,pli,Ti,e,ep,tr,n⟩:=h y hy
 exact ⟨p,pli,Ti,e,tr.vs.tups f _ _ ep,tr.move v s f,n⟩
theorem ElOk.rk {w:World}{H H':Hp}{C a d pe dr:Addr}{cs:List (Int ×Th)}{vs:List V}{ks:List Kv}{U:List Th}(h:ElOk H C a d pe cs vs)(k:Rk w H dr ks U)(f:Fr1 dr H H'):ElOk H' C a d pe cs vs:=fun y hy=>by
 obtain ⟨p,pli,Ti,e,ep,tr,n⟩:=h y hy
 exact ⟨p,pli,Ti,e,k.tups f _ _ ep,tr.rk k f,n⟩
theorem TR.put {H:Hp}{C a d pl pe:Addr}{cs:List (Int ×Th)}{T:Tr}{es es':List V}(t:TR H C a d pl cs T)(ee:H pe=some (.lst es))(n:pl≠pe):TR (L2.upd H pe (.lst es')) C a d pl cs T:=by
 have tk:Tups H (L2.upd H pe (.lst es')):=Tups.upd fun xs z=>by rw [ee] at z;cases z
 have o:∀{b:Addr} {o:HO},H b=some o→(∀xs,o≠ .lst xs)→L2.upd H pe (.lst es') b=some o:=fun {b o} e h=>by
  rw [zk (fun z=>by rw [z,ee] at e;cases e;exact h _ rfl)];exact e
 obtain ⟨kv,⟨⟨dx,fs,eo,fl⟩,ed⟩,dr⟩:=t.vs.vo
 obtain ⟨xs,e,r⟩:=t.pl.ex
 exact ⟨⟨⟨kv,⟨⟨dx,fs,o eo (by intro xs z;cases z),fl⟩,o ed (by intro xs z;cases z)⟩,dr.keep tk⟩,t.vs.gc⟩,t.ok,t.so,t.ab,⟨xs,by rw [zk n];exact e,r.keep tk⟩⟩
theorem ElOk.put {H:Hp}{C a d pe:Addr}{cs:List (Int ×Th)}{vs es es':List V}(h:ElOk H C a d pe cs vs)(ee:H pe=some (.lst es)):ElOk (L2.upd H pe (.lst es')) C a d pe cs vs:=fun y hy=>by
 obtain ⟨p,pli,Ti,e,ep,tr,n⟩:=h y hy
 refine ⟨p,pli,Ti,e,?_,tr.put ee n,n⟩
 rw [zk (fun z=>by rw [z,ee] at ep;cases ep)];exact ep
structure Anc (H:Hp)(pe pt pz:Addr)(es:List V):Prop where
 ee:H pe=some (.lst es)
 hd:∃r,es=.ref pt::r
 et:H pt=some (.tup [.int 0,.ref pz])
 ez:H pz=some (.lst [])
theorem Anc.pl {H:Hp}{pe pt pz pl:Addr}{es:List V}{ps:List (Th ×Th)}(A:Anc H pe pt pz es)(p:PL H pl ps):pl≠pe:=fun z=>by
 obtain ⟨xs,e,r⟩:=p.ex
 obtain ⟨es',rfl⟩:=A.hd
 rw [z,A.ee] at e
 cases e
 cases ps with
 | nil=>cases r
 | cons q ps=>
  cases r with
  | cons h _=>
   obtain ⟨b,vk,vw,e1,e2,_,rw'⟩:=zah h
   cases e1
   rw [A.et] at e2
   cases e2
   generalize q.2=u at rw'
   cases rw' with
   | tup e3 _ _=>rw [A.ez] at e3;cases e3
theorem Anc.move {H H':Hp}{C a d pe pt pz:Addr}{cs:List (Int ×Th)}{es:List V}(A:Anc H pe pt pz es)(v:VS H C a d cs)(f:Fr1 d H H'):Anc H' pe pt pz es:=⟨v.lst f A.ee,A.hd,v.tups f _ _ A.et,v.lst f A.ez⟩
theorem Anc.rk {w:World}{H H':Hp}{pe pt pz dr:Addr}{es:List V}{ks:List Kv}{U:List Th}(A:Anc H pe pt pz es)(k:Rk w H dr ks U)(f:Fr1 dr H H'):Anc H' pe pt pz es:=
 ⟨f _ _ (k.ne A.ee (by intro φ z;cases z)) A.ee,A.hd,k.tups f _ _ A.et,f _ _ (k.ne A.ez (by intro φ z;cases z)) A.ez⟩
theorem zh0 {K:PySem.W.Frag}{l p:Addr}{σ:L2.St}{js:List Nat}{te:TE}{H1:Hp}{Q:VK}{ps:List (Th ×Th)}{xs:List V}(e1:H1 l=some (.lst xs))(r:RepL H1 (ps.map zaK) xs)(hp1:H1 p=none)(h300:ps.length≤300)
  (te_ok:∀(v:V) (pr:Th ×Th) (H':Hp) (Z:VK),Rep H' (zaK pr) v→(∀u,Rep H' pr.1 u→Z u H')→te (some v::frees σ js) H' Z) (q:∀H' acc,Same H1 H'→H' p=some (.lst acc)→RepL H' (ps.map (·.1)) acc→Q (.ref p) H'):zfu (Itl K l) p σ js zcI te H1 Q:=by
 have hxl:xs.length=ps.length:=by rw [r.len,List.length_map]
 refine ⟨fun i m acc H=>m=xs.length - i∧i≤xs.length∧Same H1 H∧H p=some (.lst acc)∧RepL H ((ps.take i).map (·.1)) acc,⟨_,rfl,Nat.zero_le _,zj (Same.refl H1) hp1,zh,.nil⟩,?_⟩
 rintro i m acc H ⟨rfl,hi,sm,ep,ra⟩
 by_cases hlt:i < xs.length
 ·have ev:xs[i]? =some xs[i]:=List.getElem?_eq_getElem hlt
  have hip:i < ps.length:=by omega
  have epi:ps[i]? =some ps[i]:=List.getElem?_eq_getElem hip
  refine .inr ⟨⟨xs,xs[i],SqL.of (sm _ _ e1),ev⟩,fun y H' hy=>?_⟩
  obtain ⟨rfl,hy⟩:=hy
  have ey:y=xs[i]:=by
   have:=hy xs (SqL.of (sm _ _ e1))
   rw [ev] at this
   exact (Option.some.inj this).symm
  subst ey
  have rp:=(r.at i _ _ ev (by rw [List.getElem?_map,epi];rfl)).keep (Same.tups sm)
  have et:ps.take (i+1)=ps.take i++ [ps[i]]:=by rw [List.take_add_one,epi];rfl
  have hal:acc.length≤300:=by
   rw [ra.len,List.length_map,List.length_take];omega
  dsimp only [zcI]
  rw [if_pos rfl]
  refine te_ok _ ps[i] _ _ rp fun u ru=>?_
  refine ⟨ep,Nat.lt_of_lt_of_le (show acc.length < 1000 by omega) (szl (Nat.le_refl _)),_,by omega,rfl,hlt,zaZ sm hp1,zh,?_⟩
  have tk:Tups H' (upd H' p (.lst (acc++ [u]))):=Tups.upd fun xs z=>by rw [ep] at z;cases z
  rw [et,List.map_append]
  exact (ra.keep tk).snoc (ru.keep tk)
 ·have:i=xs.length:=by omega
  subst this
  rw [hxl,List.take_length] at ra
  exact .inl ⟨⟨xs,SqL.of (sm _ _ e1),Nat.le_refl _⟩,q H acc sm ep ra⟩
theorem ziJ {x:Th}{T:Tr}(so:Srt T.ps)(ab:Abv T)(h:∀p∈T.ps,p.1≠x):cutT x T=T:=by
 have e:=zgn (x:=x) so
 rw [zbK h] at e
 exact zby (by rw [e];exact so) (ze9 so ab) ab e
section
variable {P:Program}{w:World}{K:PySem.W.Frag}{mg:Str→Option Value}{base:Heap}{C CC:Addr}
theorem zhH (D:Dfn K mg "_law_walked" zbC ["script"]) (F_law_cell_at:Fn P w K mg base "_law_cell_at" 1 ["script","k"] (zir K)) (F_law_mix:Fn P w K mg base "_law_mix" 1 ["cell","k"] zhg) (F_law_key:Fn P w K mg base "_law_key" 3 ["cell","way"] zgH) (K_Keeper:Mkr P w K mg base "Keeper" C 1 ["self"] (zdC C)) (F_law_done:FnX P w K mg base "_law_done" 24 ["keeper","root","pairs","key","cell","way"] (zet C CC)) (F_law_root:Fn P w K mg base "_law_root" 79 ["ranks","pairs"] (zeV w 64)) (F_cut:FnX P w K mg base "cut" 23 ["vault","root","key"] (zgS C CC)) (F_put:FnX P w K mg base "put" 23 ["vault","root","key","worth"] (zhm C CC)) (F_found:Fn P w K mg base "found" 23 ["vault","root","key"] (zdB C)) (F_law_told:Fn P w K mg base "_law_told" 24 ["vault","root","pairs","key"] (zjp C)) (F_law_twins_right:FnX P w K mg base "_law_twins_right" 80 ["ranks"] (zgC w CC))
  (m_isinstance:mg "isinstance" =none) (m_int:mg "int" =none) (m_bool:mg "bool" =none) (m_len:mg "len" =none):FnX P w K mg base "_law_walked" 81 ["script"] (zfU K CC):=by
 refine D.okX (k:=80) zG (fun vs H Q E h=>?_) (fun f cdv A outer s H vs Q E hr h=>?_)
 ·obtain ⟨a,ns,rfl,_⟩:=h;rfl
 obtain ⟨a,ns,rfl,hS,h63,q,cl⟩:=h
 refine ⟨_,(zb (zm (i:=1) zG.nd rfl (Or.inl rfl) (zy zaJ (zA F_law_cell_at hr (by omega) (by rfl) (za (pv 0) (za zf zc))) zf))
 (zb (zm (i:=2) zG.nd rfl (Or.inl rfl) (zhh K_Keeper hr (by omega) (by rfl)))
 (zb (zm (i:=3) zG.nd rfl (Or.inl rfl) (zjB (w:=w) rfl))
 (zb (zm (i:=4) zG.nd rfl (Or.inl rfl) zf)
 (zb (zm (i:=5) zG.nd rfl (Or.inl rfl) (zaa zc))
 (zb (zm (i:=6) zG.nd rfl (Or.inl rfl) (zaa zc))
 (zb (zak PassesOwn.leaving rfl (zaY (zao zaQ (pv 0) (zan zf) (zan zf))) (zN (i:=7) zG.nd rfl (Or.inl rfl))
 (zb (zm (i:=8) zG.nd rfl (Or.inl rfl) (zA F_law_key hr (by omega) (by rfl) (za (pv 7) (za (pv 1) zc))))
 (zb (zbi (zdQ PySem.F.plainAttrs_list PySem.F.slot_list_append PySem.F.type_list_append zaM (pv 6) (za (zV (za (pv 4) (za (pv 5) zc))) zc)))
 (zb (zlq (zaO F_law_done hr (by omega) (by rfl) z4 (za (pv 2) (za (pv 4) (za (pv 5) (za (pv 8) (za (pv 7) (za (pv 1) zc))))))) (zca rfl (z7 (zN (i:=4) zG.nd rfl (Or.inl rfl)) (z7 (zN (i:=5) zG.nd rfl (Or.inl rfl)) zbf))))
 (zb (zm (i:=9) zG.nd rfl (Or.inl rfl) (zA F_law_root hr (by omega) (by rfl) (za (pv 3) (za (pv 5) zc))))
 (zb (zP (PW.pt (zcN (zbF (z6 (zF (zX) (by rfl) m_isinstance (by rfl) (za (pv 4) (za (zat (v:=.ty "int") (by rfl) m_int (by rfl) rfl) zc))))) (zcN (z6 (zF (zX) (by rfl) m_isinstance (by rfl) (za (pv 4) (za (zat (v:=.ty "bool") (by rfl) m_bool (by rfl) rfl) zc)))) (zb1 (zH zbU (pv 4) (pv 9) (zD _))))))
 (zg (zq za6))
 zC)
 (zb (zm (i:=10) zG.nd rfl (Or.inl rfl) (zA F_law_key hr (by omega) (by rfl) (za (zy zac (pv 7) zf) (za (pv 1) zc))))
 (zb (zP (PW.pt (zf3 (zH (zgk hr) (pv 10) (zeb (zQ.zero (by rfl) (by decide+kernel) (by decide+kernel) (by decide+kernel) (by rfl)) rfl (zaY (pv 5)) (fun _ _ _=>zdw) (fun _ _ _=>(zr (zg5 (K:=K) rfl) (pv 0) zf (fun _ _=>rfl)))) (by rfl)) (zeU (zH zbU (zaO F_cut hr (by omega) (by rfl) z4 (za (pv 2) (za (pv 4) (za (pv 10) zc)))) (pv 4) (zD _)))))
 (zg (zq za6))
 zC)
 (zb (zm (i:=11) zG.nd rfl (Or.inl rfl) (zr zI (pv 6) (zy zaJ (zA F_law_mix hr (by omega) (by rfl) (za (pv 7) (za zf zc))) (zF (zJ) (by rfl) m_len (by rfl) (za (pv 6) zc))) (fun _ _=>rfl)))
 (zg (zak PassesOwn.leaving rfl (zaY (zaa (za (zV (za (pv 4) (za (pv 5) zc))) (za (pv 11) zc)))) (zca rfl (z7 (zN (i:=12) zG.nd rfl (Or.inl rfl)) (z7 (zN (i:=13) zG.nd rfl (Or.inl rfl)) zbf)))
 (zg (zP (PW.pt (zcN (zbF (z6 (zA F_law_told hr (by omega) (by rfl) (za (pv 2) (za (pv 12) (za (pv 13) (za (pv 8) zc))))))) (zb1 (zbF (z6 (zA F_law_told hr (by omega) (by rfl) (za (pv 2) (za (pv 12) (za (pv 13) (za (pv 10) zc))))))))))
 (zg (zq za6))
 zC)))))))))))))
 (zb (zak PassesOwn.leaving rfl (zaY (pv 5)) (zca rfl (z7 (zN (i:=13) zG.nd rfl (Or.inl rfl)) (z7 (zN (i:=14) zG.nd rfl (Or.inl rfl)) zbf)))
 (zg (zP (PW.pt (zcN (zH zbU (zaO F_put hr (by omega) (by rfl) z4 (za (pv 2) (za (pv 4) (za (pv 13) (za (pv 14) zc))))) (pv 4) (zD _)) (zb1 (zbF (z6 (zA F_law_told hr (by omega) (by rfl) (za (pv 2) (za (pv 4) (za (pv 5) (za (pv 13) zc))))))))))
 (zg (zq za6))
 zC)))
 (zg (zq (zbZ (zad zbl (zA F_found hr (by omega) (by rfl) (za (pv 2) (za zf (za zcz zc)))) zaw (zD _)) (zbZ (zad zdo (zaO F_cut hr (by omega) (by rfl) z4 (za (pv 2) (za zf (za zcz zc)))) zf (zD _)) (zcr (zaO F_law_twins_right hr (by omega) (by rfl) z4 (za (pv 3) zc))))))))))))))),?_⟩
 refine ⟨_,rfl,a,ns,0,rfl,hS,Int.le_refl 0,fun c0=>?_⟩
 refine ⟨_,_,rfl,rfl,(show (0:Int) < 2 by decide),?_⟩
 intro x dx hx hdx ndx
 refine zeJ hx hdx ndx fun d H1 s1 hd ex ed=>?_
 intro dr hdr
 have s2:=zj (o:=TD w dr []) (Same.refl H1) hdr
 have edr:upd H1 dr (TD w dr []) dr=some (TD w dr []):=zh
 generalize upd H1 dr (TD w dr [])=H2 at s2 edr
 refine ⟨szl (show 0≤1000 by decide),fun pp hpp=>?_⟩
 have s3:=zj (o:=.lst []) (Same.refl H2) hpp
 have epp:upd H2 pp (.lst []) pp=some (.lst []):=zh
 generalize upd H2 pp (.lst [])=H3 at s3 epp
 refine ⟨szl (show 0≤1000 by decide),fun pe hpe=>?_⟩
 have s4:=zj (o:=.lst []) (Same.refl H3) hpe
 have epe:upd H3 pe (.lst []) pe=some (.lst []):=zh
 have npe:pp≠pe:=zl epp hpe
 generalize upd H3 pe (.lst [])=H4 at s4 epe
 have s14:Same H1 H4:=fun b o e=>s4 b o (s3 b o (s2 b o e))
 have vs4:VS H4 C x d []:=⟨⟨[],⟨⟨dx,_,s14 _ _ ex,zkX d⟩,s14 _ _ ed⟩,.nil⟩,GoodC.nil⟩
 have hS4:=Pv.SqL.keepS hS (fun b o e=>s14 b o (s1 b o e))
 have rk4:Rk w H4 dr [] [tw1,tw2]:=Rk.nil (s4 _ _ (s3 _ _ edr)) (by decide)
 have tr4:TR H4 C x d pp [] Tr.nil:=⟨vs4,TOk.nil,List.Pairwise.nil,trivial,⟨[],s4 _ _ epp,.nil⟩⟩
 obtain ⟨ms,ems,hms⟩:=zi4 ns (some 1) (some 64)
 refine ⟨_,rfl,_,rfl,_,rfl,a,_,rfl,hS4,fun pc hpc=>?_⟩
 rw [ems]
 have s5:=zj (o:=.lst (ms.map V.int)) (Same.refl H4) hpc
 have epc:upd H4 pc (.lst (ms.map V.int)) pc=some (.lst (ms.map V.int)):=zh
 generalize upd H4 pc (.lst (ms.map V.int))=H5 at s5 epc
 refine ⟨pc,rfl,⟨_,SqL.of epc⟩,?_⟩
 refine zbq (xs:=ms.map V.int) (fun i σ H'=>∃(T:Tr) (cs:List (Int ×Th)) (pl:Addr) (es:List V) (ks:List Kv) (U:List Th) (k7 k8 k9 k10 k11 k12 k13 k14:Option V),σ=[some (.ref a),some (.int (c0 % 2)),some (.ref x),some (.ref dr),some (.int T.root),some (.ref pl),some (.ref pe),k7,k8,k9,k10,k11,k12,k13,k14]∧TR H' C x d pl cs T∧pl≠pe∧H' pe=some (.lst es)∧ElOk H' C x d pe cs es∧((es=[]∧T=Tr.nil)∨∃pt pz,Anc H' pe pt pz es)∧es.length≤i∧T.cnt≤i∧cs.length≤1500 * i∧Rk w H' dr ks U∧tw1∈U∧tw2∈U∧(∀p∈T.ps,p.1∈U)∧U.length≤i+2∧H' pc=some (.lst (ms.map V.int))∧SqL K H' a (ns.map V.int)) ?_ ?_ ?_ ?_
 ·exact ⟨Tr.nil,[],pp,[],[],[tw1,tw2],_,_,_,_,_,_,_,_,rfl,tr4.same s5,npe,s5 _ _ epe,fun v hv=>(nomatch hv),.inl ⟨rfl,rfl⟩,Nat.le_refl _,Nat.le_refl _,Nat.le_refl _,rk4.same s5,List.mem_cons_self,List.mem_cons_of_mem _ List.mem_cons_self,fun p hp=>(nomatch hp),by decide,epc,Pv.SqL.keepS hS4 s5⟩
 ·rintro i σ H' _ ⟨T,cs,pl,es,ks,U,k7,k8,k9,k10,k11,k12,k13,k14,rfl,tr,npl,ee,el,hd',he,hc,hl,rk,u1,u2,hU,hUl,ep,hS'⟩
  exact SqL.of ep
 ·rintro i y σ H6 hy ⟨T,cs,pl,es,ks,U,k7,k8,k9,k10,k11,k12,k13,k14,rfl,tr,npl,ee,el,hd',he,hc,hl,rk,u1,u2,hU,hUl,ep,hS6⟩
  have hil:i < ms.length:=by have:=(List.getElem?_eq_some_iff.mp hy).1;rwa [List.length_map] at this
  have ey:y=.int ms[i]:=by rw [List.getElem?_map,List.getElem?_eq_getElem hil] at hy;exact (Option.some.inj hy).symm
  subst ey
  generalize ms[i]=cell
  refine ⟨_,rfl,_,rfl,_,_,rfl,fun t v H7 s7 rt kt=>?_⟩
  have ee7:=s7 _ _ ee
  refine ⟨_,rfl,.inl ⟨rfl,_,SqL.of ee7⟩,_,rfl,_,rfl,szl (show 2≤1000 by decide),fun pn hpn=>?_⟩
  have s8:=zj (o:=.tup [.int T.root,.ref pl]) (Same.refl H7) hpn
  have e8:upd H7 pn (.tup [.int T.root,.ref pl]) pn=some (.tup [.int T.root,.ref pl]):=zh
  generalize upd H7 pn (.tup [.int T.root,.ref pl])=H8 at s8 e8
  have s68:Same H6 H8:=fun b o e=>s8 b o (s7 b o e)
  have ee8:=s8 _ _ ee7
  have tr8:=tr.same s68
  have el8:=el.move tr8.vs (Sub.refl _) (Same.fr1 s68)
  have rk8:=rk.same s68
  have hd8:(es=[]∧T=Tr.nil)∨∃pt pz,Anc H8 pe pt pz es:=hd'.imp id fun ⟨pt,pz,A⟩=>⟨pt,pz,A.move tr.vs (Same.fr1 s68)⟩
  have wnum:∀(zs:List Int) (b:Addr),zs≠ []→H8 b=some (.lst (zs.map V.int))→b≠pe:=fun zs b hz e z=>by
   rw [z,ee8] at e
   cases zs with
   | nil=>exact hz rfl
   | cons z0 zs=>
    rcases hd8 with ⟨h,_⟩ | ⟨pt,pz,A⟩
    ·rw [h] at e;cases e
    ·obtain ⟨r,er⟩:=A.hd
     rw [er] at e;cases e
  have msn:ms≠ []:=fun z=>by rw [z] at hil;cases hil
  have nsn:ns≠ []:=fun z=>by rw [z] at hms;simp at hms;exact msn hms
  refine ⟨pe,es,_,rfl,rfl,ee8,Nat.lt_of_lt_of_le (show es.length < 1000 by omega) (szl (Nat.le_refl _)),?_⟩
  have tk9:Tups H8 (upd H8 pe (.lst (es++ [.ref pn]))):=Tups.upd fun xs z=>by rw [ee8] at z;cases z
  have tr9:TR (upd H8 pe (.lst (es++ [.ref pn]))) C x d pl cs T:=tr8.put ee8 npl
  have ee9:upd H8 pe (.lst (es++ [.ref pn])) pe=some (.lst (es++ [.ref pn])):=zh
  have e9:=tk9 _ _ e8
  have el9:ElOk (upd H8 pe (.lst (es++ [.ref pn]))) C x d pe cs (es++ [.ref pn]):=fun y hy=>by
   rcases List.mem_append.mp hy with hy | hy
   ·exact el8.put ee8 y hy
   ·rw [List.mem_singleton.mp hy]
    exact ⟨pn,pl,T,rfl,e9,tr9,npl⟩
  have an9:∃pt pz,Anc (upd H8 pe (.lst (es++ [.ref pn]))) pe pt pz (es++ [.ref pn]):=by
   rcases hd8 with ⟨h1,h2⟩ | ⟨pt,pz,A⟩
   ·refine ⟨pn,pl,ee9,⟨[],by rw [h1];rfl⟩,?_,?_⟩
    ·rw [h2] at e9;exact e9
    ·obtain ⟨xs,e,r⟩:=tr9.pl.ex
     rw [h2] at r
     cases r;exact e
   ·refine ⟨pt,pz,ee9,?_,tk9 _ _ A.et,?_⟩
    ·obtain ⟨r,er⟩:=A.hd
     exact ⟨r++ [.ref pn],by rw [er];rfl⟩
    ·rw [zk (fun z=>by obtain ⟨r,er⟩:=A.hd;have e1:=A.ez;rw [z,A.ee,er] at e1;cases e1)];exact A.ez
  have rk9:Rk w (upd H8 pe (.lst (es++ [.ref pn]))) dr ks U:=⟨by rw [zk (Ne.symm (rk8.ne ee8 (by intro φ z;cases z)))];exact rk8.e,rk8.kd.keep tk9,rk8.vl,rk8.un,rk8.ul⟩
  have ep9:upd H8 pe (.lst (es++ [.ref pn])) pc=some (.lst (ms.map V.int)):=by rw [zk (wnum ms pc msn (s68 _ _ ep))];exact s68 _ _ ep
  have hS9:SqL K (upd H8 pe (.lst (es++ [.ref pn]))) a (ns.map V.int):=by
   rcases Pv.SqL.keepS hS6 s68 with h | h
   ·rcases h with h | ⟨o,h⟩
    ·exact .inl (.inl (by rw [zk (wnum ns a nsn h)];exact h))
    ·exact .inl (.inr ⟨o,by rw [zk (fun z=>by rw [z,ee8] at h;cases h)];exact h⟩)
   ·exact .inr h
  have rt9:=(rt.keep (Same.tups s8)).keep tk9
  generalize upd H8 pe (.lst (es++ [.ref pn]))=H9 at tk9 tr9 ee9 e9 el9 an9 rk9 ep9 hS9 rt9
  obtain ⟨pt,pz,an9⟩:=an9
  refine ⟨_,rfl,_,rfl,_,rfl,_,rfl,_,rfl,_,rfl,x,d,pl,cs,T,t,v,_,_,rfl,tr9,by omega,rt9,kt,by omega,cl,fun T' cs' p pl' H10 f10 sb tr10 hc10 le10 hmem ep10=>?_⟩
  refine ⟨p,_,rfl,SqT.of ep10,rfl,_,_,rfl,_,_,rfl,rfl,?_⟩
  have an10:=an9.move tr9.vs f10
  have npl':=an10.pl tr10.pl
  have el10:=el9.move tr10.vs sb f10
  have rk10:Rk w H10 dr ks (t::U):=(rk9.fr tr9.vs f10).more (fun z hz=>List.mem_cons_of_mem _ hz) (by show U.length+1≤900;omega)
  have hU10:∀p∈T'.ps,p.1∈t::U:=fun p hp=>by
   rcases hmem p hp with h | h
   ·exact List.mem_cons_of_mem _ (hU p h)
   ·rw [h];exact List.mem_cons_self
  have ep10':=tr9.vs.lst f10 ep9
  have hS10:=Pv.SqL.fr hS9 tr9.vs f10
  have rt10:=rt9.keep (tr9.vs.tups f10)
  refine ⟨_,rfl,_,rfl,dr,pl',ks,t::U,T',rfl,rk10,tr10.pl,tr10.so,tr10.ab,tr10.ok.ky,hU10,by omega,by omega,fun ks11 H11 f11 rk11=>?_⟩
  have tr11:=tr10.rk rk10 f11
  have el11:=el10.rk rk10 f11
  have an11:=an10.rk rk10 f11
  have ep11:H11 pc=some (.lst (ms.map V.int)):=f11 _ _ (rk10.ne ep10' (by intro φ z;cases z)) ep10'
  have hS11:=Pv.SqL.rk hS10 rk10 f11
  have rt11:=rt10.keep (rk10.tups f11)
  refine ⟨_,rfl,_,_,_,_,rfl,.int _,rfl,_,rfl,ifF rfl ?_⟩
  refine ⟨_,rfl,_,_,_,_,rfl,.int _,rfl,_,rfl,ifF rfl ?_⟩
  refine ⟨_,rfl,_,rfl,rfl,_,rfl,?_⟩
  rw [za9,decide_eq_true (rfl:T'.root=T'.root)]
  refine ifF rfl ?_
  refine ⟨_,rfl,_,_,rfl,rfl,_,rfl,_,_,rfl,fun t2 v2 H12 s12 rt2 kt2=>?_⟩
  have tr12:=tr11.same s12
  have el12:=el11.move tr12.vs (Sub.refl _) (Same.fr1 s12)
  have an12:=an11.move tr11.vs (Same.fr1 s12)
  have rk12:=rk11.same s12
  have ep12:=s12 _ _ ep11
  have hS12:=Pv.SqL.keepS hS11 s12
  have rt12:=rt11.keep (Same.tups s12)
  obtain ⟨xs12,ex12,rx12⟩:=tr12.pl.ex
  have kp':zdT T'.ps:=tr12.ok.ky
  dsimp only [zbS]
  refine zgx (fun σ H'=>∃cs2:List (Int ×Th),σ=[some (.ref a),some (.int (c0 % 2)),some (.ref x),some (.ref dr),some (.int T'.root),some (.ref pl'),some (.ref pe),some (.int cell),some v,some (.int T'.root),some v2,k11,k12,k13,k14]∧Fr1 d H12 H'∧VS H' C x d cs2∧Sub cs' cs2∧cs2.length≤cs'.length+600) (fun N kN=>?_) ?_
  ·refine ⟨_,rfl,_,rfl,pl',rfl,⟨_,SqL.of ex12⟩,fun pw hpw=>?_⟩
   refine zh0 ex12 rx12 hpw tr12.ok.ct (fun u pr H' Z rp hz=>?_) fun H13 acc s13 e13 r13=>?_
   ·obtain ⟨b,vk,vw,rfl,eb,rk,_⟩:=zah rp
    exact ⟨_,rfl,b,_,_,_,rfl,rfl,SqT.of eb,rfl,hz _ rk⟩
   ·have hdp:∀u∈T'.ps.map (·.1),dep u≤50:=fun u hu=>by
     obtain ⟨p,hp,rfl⟩:=List.mem_map.mp hu
     have:=(kp' p hp).1.dp
     omega
    have rt13:=rt2.keep (Same.tups s13)
    have vs13:=tr12.vs.same s13
    refine ⟨pw,acc,_,t2,rfl,SqL.of e13,r13,rt13,hdp,_,rfl,?_⟩
    cases z:(T'.ps.map (·.1)).any (fun u=>eqT u t2) with
    | true=>exact ifF rfl (ifF rfl (kN _ _ ⟨cs',rfl,Same.fr1 s13,vs13,Sub.refl _,by omega⟩))
    | false=>
     have hno:∀p∈T'.ps,p.1≠t2:=fun p hp e=>by
      have:(T'.ps.map (·.1)).any (fun u=>eqT u t2)=true:=List.any_eq_true.mpr ⟨p.1,List.mem_map_of_mem hp,by rw [e];exact zY t2⟩
      rw [z] at this;cases this
     refine ifT rfl ?_
     refine ⟨_,rfl,_,rfl,_,rfl,x,d,cs',T',t2,v2,rfl,vs13,tr12.ok,rt13,kt2,by omega,cl,fun cs2 H14 f14 vs14 sb14 _ le14=>?_⟩
     refine ⟨_,rfl,rfl,_,rfl,?_⟩
     rw [za9,ziJ tr12.so tr12.ab hno,decide_eq_true (rfl:T'.root=T'.root)]
     exact ifF rfl (kN _ _ ⟨cs2,rfl,(Same.fr1 s13).trans f14,vs14,sb14,le14⟩)
  ·rintro σ H13 ⟨cs2,rfl,f13,vs13,sb13,le13⟩
   have tr13:=tr12.move vs13 sb13 f13
   have el13:=el12.move vs13 sb13 f13
   have an13:=an12.move tr12.vs f13
   have rk13:=rk12.fr tr12.vs f13
   have ep13:=tr12.vs.lst f13 ep12
   have hS13:=Pv.SqL.fr hS12 tr12.vs f13
   have t13:=tr12.vs.tups f13
   have rt13:=rt12.keep t13
   have rt213:=rt2.keep t13
   have ee13:=an13.ee
   have hel:(es++ [V.ref pn]).length=es.length+1:=by rw [List.length_append];rfl
   refine ⟨_,rfl,_,rfl,_,_,rfl,by decide,by decide,fun r r0 r1=>⟨_,rfl,pe,_,rfl,.inl (SqL.of ee13),_,_,rfl,rfl,(show (0:Int) < (((es++ [V.ref pn]).length:Nat):Int) by omega),?_⟩⟩
   have n0:=Int.emod_nonneg r (show (((es++ [V.ref pn]).length:Nat):Int)≠0 by omega)
   have n1:=Int.emod_lt_of_pos r (show (0:Int) < (((es++ [V.ref pn]).length:Nat):Int) by omega)
   obtain ⟨j,hj⟩:∃j:Nat,r % (((es++ [V.ref pn]).length:Nat):Int)=(j:Int):=⟨(r % (((es++ [V.ref pn]).length:Nat):Int)).toNat,by omega⟩
   have hjl:j < (es++ [V.ref pn]).length:=by omega
   have ev:(es++ [V.ref pn])[j]? =some (es++ [V.ref pn])[j]:=List.getElem?_eq_getElem hjl
   obtain ⟨p3,pli,Ti,e1,e2,tri,_⟩:=el13 _ (List.getElem_mem hjl)
   refine ⟨pe,_,_,_,rfl,rfl,SqL.of ee13,by rw [hj,zaH ev,e1],?_⟩
   refine ⟨_,rfl,_,rfl,szl (show 2≤1000 by decide),fun q1 hq1=>?_⟩
   have s14:=zj (o:=.tup [.int T'.root,.ref pl']) (Same.refl H13) hq1
   have e14:upd H13 q1 (.tup [.int T'.root,.ref pl']) q1=some (.tup [.int T'.root,.ref pl']):=zh
   generalize upd H13 q1 (.tup [.int T'.root,.ref pl'])=H14 at s14 e14
   refine ⟨_,rfl,szl (show 2≤1000 by decide),fun q2 hq2=>?_⟩
   have s15:=zj (o:=.lst [.ref q1,.ref p3]) (Same.refl H14) hq2
   have e15:upd H14 q2 (.lst [.ref q1,.ref p3]) q2=some (.lst [.ref q1,.ref p3]):=zh
   generalize upd H14 q2 (.lst [.ref q1,.ref p3])=H15 at s15 e15
   have s35:Same H13 H15:=fun b o e=>s15 b o (s14 b o e)
   refine ⟨q2,rfl,⟨_,SqL.of e15⟩,?_⟩
   refine zbq (xs:=[.ref q1,.ref p3]) (fun j' σ H'=>∃(k12 k13:Option V),σ=[some (.ref a),some (.int (c0 % 2)),some (.ref x),some (.ref dr),some (.int T'.root),some (.ref pl'),some (.ref pe),some (.int cell),some v,some (.int T'.root),some v2,some (.ref p3),k12,k13,k14]∧Same H15 H') ⟨_,_,rfl,Same.refl _⟩ ?_ ?_ ?_
   ·rintro j' σ H' _ ⟨k12,k13,rfl,sm⟩
    exact SqL.of (sm _ _ e15)
   ·rintro j' y σ H16 hy ⟨k12,k13,rfl,sm⟩
    have s36:Same H13 H16:=fun b o e=>sm b o (s35 b o e)
    have key:∃(b lp:Addr) (S:Tr),y=.ref b∧H16 b=some (.tup [.int S.root,.ref lp])∧TR H16 C x d lp cs2 S:=by
     match j',hy with
     | 0,hy=>cases hy;exact ⟨q1,pl',T',rfl,sm _ _ (s15 _ _ e14),tr13.same s36⟩
     | 1,hy=>cases hy;exact ⟨p3,pli,Ti,rfl,s36 _ _ e2,tri.same s36⟩
    obtain ⟨b,lp,S,rfl,eb,trS⟩:=key
    refine ⟨b,_,rfl,SqT.of eb,rfl,_,_,rfl,_,_,rfl,rfl,?_⟩
    refine ⟨_,rfl,_,rfl,_,rfl,_,rfl,x,d,lp,cs2,S,t,v,rfl,trS.vs,trS.ok,trS.so,trS.pl,rt13.keep (Same.tups s36),kt,fun H17 s17=>⟨_,rfl,ifF rfl ?_⟩⟩
    have trS7:=trS.same s17
    refine ⟨_,rfl,_,rfl,_,rfl,_,rfl,x,d,lp,cs2,S,t2,v2,rfl,trS7.vs,trS7.ok,trS7.so,trS7.pl,(rt213.keep (Same.tups s36)).keep (Same.tups s17),kt2,fun H18 s18=>⟨_,rfl,ifF rfl ?_⟩⟩
    exact ⟨_,_,rfl,fun b o e=>s18 b o (s17 b o (sm b o e))⟩
   ·rintro σ H16 ⟨k12,k13,rfl,sm⟩
    have s36:Same H13 H16:=fun b o e=>sm b o (s35 b o e)
    have tr16:=tr13.same s36
    exact ⟨T',cs2,pl',es++ [.ref pn],ks11,t::U,_,_,_,_,_,_,_,_,rfl,tr16,npl',s36 _ _ ee13,el13.move tr16.vs (Sub.refl _) (Same.fr1 s36),.inr ⟨pt,pz,an13.move tr13.vs (Same.fr1 s36)⟩,by omega,by omega,by omega,rk13.same s36,List.mem_cons_of_mem _ u1,List.mem_cons_of_mem _ u2,hU10,by show U.length+1≤_;omega,s36 _ _ ep13,Pv.SqL.keepS hS13 s36⟩
 ·rintro σ H6 ⟨T,cs,pl,es,ks,U,k7,k8,k9,k10,k11,k12,k13,k14,rfl,tr,npl,ee,el,hd',he,hc,hl,rk,u1,u2,hU,hUl,ep,hS6⟩
  rw [List.length_map] at hc hl hUl
  obtain ⟨xs,ex6,rxs⟩:=tr.pl.ex
  have hxl:xs.length=T.ps.length:=by rw [rxs.len,List.length_map]
  have kp:zdT T.ps:=tr.ok.ky
  have hcn:T.cnt=T.ps.length:=rfl
  refine ⟨_,rfl,pl,rfl,⟨_,SqL.of ex6⟩,?_⟩
  refine zbq (xs:=xs) (fun i σ H'=>∃(cs':List (Int ×Th)) (k13 k14:Option V),σ=[some (.ref a),some (.int (c0 % 2)),some (.ref x),some (.ref dr),some (.int T.root),some (.ref pl),some (.ref pe),k7,k8,k9,k10,k11,k12,k13,k14]∧Fr1 d H6 H'∧VS H' C x d cs'∧Sub cs cs'∧cs'.length≤cs.length+300 * i) ⟨cs,_,_,rfl,Fr1.refl _ _,tr.vs,Sub.refl _,Nat.le_refl _⟩ ?_ ?_ ?_
  ·rintro i σ H' _ ⟨cs',k13,k14,rfl,fr,_⟩
   exact SqL.of (tr.vs.lst fr ex6)
  ·rintro i y σ H7 hy ⟨cs',k13,k14,rfl,fr,vs7,sb7,le7⟩
   have hi:i < xs.length:=(List.getElem?_eq_some_iff.mp hy).1
   have hip:i < T.ps.length:=by omega
   have epi:T.ps[i]? =some T.ps[i]:=List.getElem?_eq_getElem hip
   have rp:=(rxs.at i _ _ hy (by rw [List.getElem?_map,epi];rfl)).keep (tr.vs.tups fr)
   obtain ⟨b,vk,vw,rfl,eb,rk',rw'⟩:=zah rp
   have hm:T.ps[i]∈T.ps:=List.getElem_mem hip
   obtain ⟨kk,kw⟩:=kp _ hm
   have epT:putT T.ps[i].1 T.ps[i].2 T=T:=by
    have e:=zc2 (x:=T.ps[i].1) (w:=T.ps[i].2) tr.so
    have e2:insP T.ps T.ps[i].1 T.ps[i].2=T.ps:=zd8 (zdD tr.so) tr.so fun z=>by
     rw [zfw]
     constructor
     ·rintro (⟨h,_⟩ | h)
      ·exact h
      ·rw [h];exact hm
     ·intro h
      by_cases ez:z.1=T.ps[i].1
      ·exact .inr (zcM tr.so h hm ez)
      ·exact .inl ⟨h,ez⟩
    rw [e2] at e
    exact zby (by rw [e];exact tr.so) (zcH tr.so tr.ab) tr.ab e
   refine ⟨b,_,rfl,SqT.of eb,rfl,_,_,rfl,_,_,rfl,rfl,?_⟩
   refine ⟨_,rfl,_,rfl,_,rfl,_,rfl,x,d,cs',T,T.ps[i].1,T.ps[i].2,vk,vw,rfl,vs7,tr.ok.mono sb7,by omega,rk',kk,rw',kw,by omega,cl,fun cs8 H8 f8 vs8 sb8 _ le8=>?_⟩
   refine ⟨_,rfl,rfl,_,rfl,?_⟩
   rw [za9,epT,decide_eq_true (rfl:T.root=T.root)]
   refine ifF rfl ?_
   have tr8:=tr.move vs8 (sb7.trans sb8) (fr.trans f8)
   refine ⟨_,rfl,_,rfl,_,rfl,_,rfl,x,d,pl,cs8,T,T.ps[i].1,vk,rfl,tr8.vs,tr8.ok,tr8.so,tr8.pl,rk'.keep (vs7.tups f8),kk,fun H9 s9=>⟨_,rfl,ifF rfl ?_⟩⟩
   exact ⟨cs8,_,_,rfl,(fr.trans f8).trans (Same.fr1 s9),vs8.same s9,sb7.trans sb8,by omega⟩
  ·rintro σ H7 ⟨cs',k13,k14,rfl,fr,vs7,sb7,le7⟩
   have rk7:=rk.fr tr.vs fr
   have ka:KeyT (.str "a"):=⟨by first | decide | (show _∧_;decide) | simp [Wf],by show 0≤3;decide,by show 1≤10;decide,fun z=>by cases z⟩
   refine ⟨_,rfl,x,d,cs',Tr.nil,.str "a",_,rfl,vs7,TOk.nil,List.Pairwise.nil,.str _,ka,fun u v H8 s8 ru wu=>?_⟩
   have eu:u=.non:=by
    rcases wu with h | ⟨h,_⟩
    ·cases h
    ·exact h
   subst eu
   cases ru
   refine ⟨rfl,_,rfl,ifT (decide_eq_true rfl) ?_⟩
   refine ⟨_,rfl,x,d,cs',Tr.nil,.str "a",_,rfl,vs7.same s8,TOk.nil,.str _,ka,by omega,cl,fun cs9 H9 f9 vs9 sb9 _ le9=>?_⟩
   rw [ziJ (T:=Tr.nil) List.Pairwise.nil trivial (fun p hp=>(nomatch hp))]
   refine ⟨rfl,_,rfl,ifT (decide_eq_true rfl) ?_⟩
   exact ⟨_,rfl,dr,ks,U,rfl,(rk7.same s8).fr (vs7.same s8) f9,u1,u2,cl,q⟩
end
end Pv
namespace L2
open PySem PySem.Spec PyProof.Rows Px
theorem zjn {X:Cx}{K:PySem.W.Frag}{e:Expr}{f:Str}{pos:Pos}{ta:TE}(hK:X.K=K)(he:PE X e ta)(hb:attributeBase e f X.env (eval e X.env)=eval e X.env):PE X (.Attribute e f pos) (tXG K ta f):=hK ▸ zmu he hb
end L2
namespace Pv
open PySem L2
abbrev slaw:Stmt:=top 59
theorem zel:zu ["script","told","clash","e"] ["script"] (zd slaw):=⟨rfl,rfl,rfl,by decide+kernel,rfl,by decide+kernel,by decide+kernel⟩
def zff (K:PySem.W.Frag):Sp:=fun vs H Q _=>∃(a:Addr) (ns:List Int),vs=[.ref a]∧SqL K H a (ns.map V.int)∧ns.length≤63∧∀H',Q (.bl true) H'
section
variable {P:Program}{w:World}{K:PySem.W.Frag}{mg:Str→Option Value}{base:Heap}{CC:Addr}
theorem zlC {f:Addr}{fd:FuncData}(F:Fun K "law" "law" slaw f fd) (F_law_walked:FnX P w K mg base "_law_walked" 81 ["script"] (zfU K CC)) (F_seal:Fn P w K mg base "seal" 13 ["thing"] zcY) (c_Clash:mg "Clash" =some (.ref CC)) (xc:XCls K CC) (n1:z8 K CC "one") (n2:z8 K CC "other")
  (em:PySem.W.exmOne K (.ref CC) (.ref CC)=some true):FnOk P w K mg base CX0 85 f fd ["script"] (zff K):=by
 refine F.ok (k:=84) zel (fun vs H Q E h=>?_) (fun cdv A outer s H vs Q E hr h=>?_)
 ·obtain ⟨a,ns,rfl,_⟩:=h;rfl
 obtain ⟨a,ns,rfl,hS,h63,q⟩:=h
 refine ⟨_,(zb (zm (i:=1) zel.nd rfl (Or.inl rfl) za6)
 (zb (zm (i:=2) zel.nd rfl (Or.inl rfl) zaw)
 (zb (ziD (i:=3) rfl rfl zel.nd rfl rfl (by rfl) c_Clash (fun xe pn E hx=>(zg (zm (i:=1) zel.nd rfl (Or.inl rfl) (zlN F_law_walked hr (by omega) (by rfl) hx (za (pv 0) zc))))) (fun e=>(zg (zm (i:=2) zel.nd rfl (Or.inl rfl) (zV (za (zjn (K:=K) rfl (pv 3) (by rfl)) (za (zjn (K:=K) rfl (pv 3) (by rfl)) zc)))))))
 (zb (zP (zH zjZ (pv 2) zaw (zD _))
 (zg (zq (zbZ (zad (zdy hr) (zr zx (pv 2) zf (fun _ _=>rfl)) (zr zx (pv 2) zf (fun _ _=>rfl)) (zD _)) (zcr (zad zdo (zA F_seal hr (by omega) (by rfl) (za (zr zx (pv 2) zf (fun _ _=>rfl)) zc)) (zA F_seal hr (by omega) (by rfl) (za (zr zx (pv 2) zf (fun _ _=>rfl)) zc)) (zD _))))))
 zC)
 (zg (zq (pv 1))))))),?_⟩
 refine ⟨_,rfl,a,ns,rfl,hS,h63,fun H1=>?_,fun t1 t2 v1 v2 H1 x r1 r2 g1 g2 ne sn ex=>⟨CC,rfl,em,fun e he=>?_⟩⟩
 ·refine ⟨_,rfl,rfl,_,rfl,ifF rfl ?_⟩
  exact ⟨_,rfl,q H1⟩
 ·have xe:x≠e:=zl ex he
  have ex2:upd H1 e (exO e CC (some x) false) x=some (xdO x [("one",v1),("other",v2)]):=by rw [zk xe];exact ex
  have gd:=g1.dp
  have gd2:=g2.dp
  have gn:=g1.nd
  have gn2:=g2.nd
  refine ⟨_,rfl,e,CC,false,x,_,v1,rfl,zh,ex2,xc,n1,by rfl,_,rfl,e,CC,false,x,_,v2,rfl,zh,ex2,xc,n2,by rfl,szl (show 2≤1000 by decide),fun p hp=>?_⟩
  have tk:Tups H1 (upd (upd H1 e (exO e CC (some x) false)) p (.tup [v1,v2])):=(Tups.new he).trans (Tups.new hp)
  have ra:=r1.keep tk
  have rb:=r2.keep tk
  have ep:upd (upd H1 e (exO e CC (some x) false)) p (.tup [v1,v2]) p=some (.tup [v1,v2]):=zh
  generalize upd (upd H1 e (exO e CC (some x) false)) p (.tup [v1,v2])=H2 at ra rb ep
  have et:SqT K H2 p [v1,v2]:=SqT.of ep
  refine ⟨_,rfl,rfl,_,rfl,ifT rfl ?_⟩
  refine ⟨_,rfl,p,_,_,_,rfl,rfl,et,rfl,_,rfl,p,_,_,_,rfl,rfl,et,rfl,t1,t2,ra,rb,by omega,_,rfl,ifT (by rw [show eqT t1 t2=false from by cases z:eqT t1 t2 with | true=>exact absurd ((zab _ _).mp z) ne | false=>rfl];rfl) ?_⟩
  refine ⟨_,rfl,p,_,_,_,rfl,rfl,et,rfl,t1,v1,rfl,ra,g1.wf,by omega,by omega,fun H3 s3=>?_⟩
  refine ⟨_,rfl,p,_,_,_,rfl,rfl,SqT.of (s3 _ _ ep),rfl,t2,v2,rfl,rb.keep (Same.tups s3),g2.wf,by omega,by omega,fun H4 s4=>?_⟩
  refine ⟨rfl,?_⟩
  rw [sn,decide_eq_true rfl]
  exact q H4
end
end Pv
namespace Pv
open PySem L2
theorem len0 {us:List Value}(h:us.length=0):us=[]:=List.length_eq_zero_iff.mp h
theorem len1 {us:List Value}(h:us.length=1):∃a,us=[a]:=List.length_eq_one_iff.mp h
theorem len2 {us:List Value}(h:us.length=2):∃a b,us=[a,b]:=by
 cases us with
 | nil=>cases h
 | cons a r=>
  obtain ⟨b,rfl⟩:=len1 (Nat.succ.inj h)
  exact ⟨a,b,rfl⟩
theorem len3 {us:List Value}(h:us.length=3):∃a b c,us=[a,b,c]:=by
 cases us with
 | nil=>cases h
 | cons a r=>
  obtain ⟨b,c,rfl⟩:=len2 (Nat.succ.inj h)
  exact ⟨a,b,c,rfl⟩
theorem len4 {us:List Value}(h:us.length=4):∃a b c d,us=[a,b,c,d]:=by
 cases us with
 | nil=>cases h
 | cons a r=>
  obtain ⟨b,c,d,rfl⟩:=len3 (Nat.succ.inj h)
  exact ⟨a,b,c,d,rfl⟩
theorem len5 {us:List Value}(h:us.length=5):∃a b c d e,us=[a,b,c,d,e]:=by
 cases us with
 | nil=>cases h
 | cons a r=>
  obtain ⟨b,c,d,e,rfl⟩:=len4 (Nat.succ.inj h)
  exact ⟨a,b,c,d,e,rfl⟩
theorem len6 {us:List Value}(h:us.length=6):∃a b c d e f,us=[a,b,c,d,e,f]:=by
 cases us with
 | nil=>cases h
 | cons a r=>
  obtain ⟨b,c,d,e,f,rfl⟩:=len5 (Nat.succ.inj h)
  exact ⟨a,b,c,d,e,f,rfl⟩
theorem zO {K:PySem.W.Frag}{h:Heap}{mg:Str→Option Value}(x:Str)(st:Stmt)(ps:List Str){f:Addr}{od an:Option Addr}{sl:Array (Option Value)}{oc kV dc pm cd ct:Value}(X:K.In h)(G:h.Ns mainGlobals mg)
  (a:PySem.W.nsIn K mainGlobals x=some (some (.ref f))) (l:K.lookup f=some ⟨oc,od,.func (PySem.W.fnOf x x (zt st) (zo st) (zd st) .none kV dc pm an cd ct),sl⟩) (c:PySem.W.codeIn K cd x=true) (k:PySem.W.keepIn K (.ref f)=true)
  (b:∀(kV doc pm:Value) (an:Option Addr) (cdv ct:Value) (us:List Value),us.length=ps.length→bindArgs (PySem.W.fnOf x x (zt st) (zo st) (zd st) .none kV doc pm an cdv ct) ⟨us,[]⟩=pure (ps.zip us)):Dfn K mg x st ps:=
 ⟨_,_,zbP l c k,(zbP l c k).binds b,PySem.W.mg_of X G a⟩
theorem zbD {K:PySem.W.Frag}{h:Heap}{mg:Str→Option Value}{x:Str}{i:Int}{t:Tok}(X:K.In h)(G:h.Ns mainGlobals mg)(a:PySem.W.nsIn K mainGlobals x=some (some (.int i t))):∃t,mg x=some (.int i t):=⟨t,PySem.W.mg_of X G a⟩
theorem zlT {l:PySem.W.OpenLaw}{w:World}{K:PySem.W.Frag}{h:Heap}{mg:Str→Option Value}{fa f:Addr}{od an:Option Addr}{sl:Array (Option Value)}{oc kV dc pm cd ct:Value}(X:K.In h)(G:h.Ns mainGlobals mg)(hfa:mg "law" =some (.ref fa))
  (a:PySem.W.nsIn K mainGlobals "law" =some (some (.ref f))) (lk:K.lookup f=some ⟨oc,od,.func (PySem.W.fnOf "law" "law" (zt slaw) (zo slaw) (zd slaw) .none kV dc pm an cd ct),sl⟩) (c:PySem.W.codeIn K cd "law" =true) (k:PySem.W.keepIn K (.ref f)=true)
  (ok:∀(base:Heap) (fd:FuncData),Fun K "law" "law" slaw f fd→FnOk l.prog w K mg base CX0 85 f fd ["script"] (zff K)):
  ∃fd:FuncData,(∀(s:Shared) (v:Value),BindsTo s fd ⟨[v],[]⟩ [("script",v)])∧∀base:Heap,K.In base→base.Ns mainGlobals mg→FnOk l.prog w K mg base CX0 85 fa fd ["script"] (zff K):=by
 have e:=hfa.symm.trans (PySem.W.mg_of X G a)
 cases e
 exact ⟨PySem.W.fnOf "law" "law" (zt slaw) (zo slaw) (zd slaw) .none kV dc pm an cd ct,fun s v=>.of_eq rfl,fun base _ _=>ok base _ (zbP lk c k)⟩
theorem walk {l:PySem.W.OpenLaw}{q:Program}{loose:List Str}{XP:(Str→Option Value)→Heap→Prop}{YP:World→Heap→Prop}{d:DefRec}{K:Params→PySem.W.Frag}(hn:l.most=some 63)(hdf:d.params.defaults=[])
  (hY:∀(w:World) (h:Heap),YP w h→(K w.params).In h)
  (F:∀(w:World) (mg:Str→Option Value) (fa:Addr) (h:Heap),(K w.params).In h→h.Ns mainGlobals mg→mg d.name=some (.ref fa)→
   ∃fd:FuncData,(∀(s:Shared) (u:Value),BindsTo s fd ⟨[u],[]⟩ [("script",u)])∧∀base:Heap,(K w.params).In base→base.Ns mainGlobals mg→FnOk l.prog w (K w.params) mg base CX0 85 fa fd ["script"] (zff (K w.params))):
  PySem.W.WalkO q loose XP YP l.row.toRowW d [] (fun f vs=>PySem.call f vs):=
 L2.zj3 (n:=63) (k:=85) (x:= "script") (CX:=fun _=>CX0) (sp:=fun w=>zff (K w.params)) hn (by decide) hdf ⟨rfl,by decide,by decide⟩ hY F (fun _ _ a ns hl _ hS=>⟨a,ns,rfl,hS,hl,fun _=>rfl⟩) fun _ _ _ _ _ z=>z
end Pv
open PySem PySem.W PyProof.Rows
set_option maxRecDepth 100000 in
set_option maxHeartbeats 0 in
theorem PySem.Challenge.cw_papervault_k32_whole_one_shape_by_puts_a_holds : PySem.Challenge.rw_papervault_k32_whole_one_shape_by_puts_a.Holds := by
 refine holds_law Pv.said fun said=>?_
 refine holds_open (q:=Pv.VQ) (loose:=[]) (XP:=XL Pv.VQ []) (YP:=InK Pv.KK) Pv.left (InK.of Pv.addrs) InK.keeps (fun s e=>xl_of s (Bool.and_eq_true_iff.mp e).1) XL.keeps (by rfl) (by rfl) (by rfl) (fun s e=>recFacts_of (Bool.and_eq_true_iff.mp e).2) (by rfl) said (by decide+kernel) ⟨rfl,rfl,rfl,rfl,rfl,by decide+kernel⟩ ?hw ?hc
 (case hw=>w_witness2)
 k_fill
 refine Pv.walk (l:=PySem.Challenge.rw_papervault_k32_whole_one_shape_by_puts_a) rfl rfl (fun w h Y=>Y) ?F
 case F=>
  intro w mg fa h KX G hmg
  have D_seal:L2.Dfn (L2.KOf KX) mg "seal" Pv.zjt ["thing"]:=by
   dsimp only [L2.KOf]
   refine' Pv.zO _ _ _ KX G ?a ?l ?c ?k ?b
   (case a=>k_is);(case l=>k_is);(case c=>k_is);(case k=>k_is)
   (case b=>intro _ _ _ _ _ _ us hl;obtain ⟨_,rfl⟩:=Pv.len1 hl;rfl)
  have D_codes:L2.Dfn (L2.KOf KX) mg "codes" Pv.zfZ ["thing"]:=by
   dsimp only [L2.KOf]
   refine' Pv.zO _ _ _ KX G ?a ?l ?c ?k ?b
   (case a=>k_is);(case l=>k_is);(case c=>k_is);(case k=>k_is)
   (case b=>intro _ _ _ _ _ _ us hl;obtain ⟨_,rfl⟩:=Pv.len1 hl;rfl)
  have D_number_of:L2.Dfn (L2.KOf KX) mg "number_of" Pv.zcn ["signs"]:=by
   dsimp only [L2.KOf]
   refine' Pv.zO _ _ _ KX G ?a ?l ?c ?k ?b
   (case a=>k_is);(case l=>k_is);(case c=>k_is);(case k=>k_is)
   (case b=>intro _ _ _ _ _ _ us hl;obtain ⟨_,rfl⟩:=Pv.len1 hl;rfl)
  have D_is_whole:L2.Dfn (L2.KOf KX) mg "is_whole" Pv.zc5 ["value"]:=by
   dsimp only [L2.KOf]
   refine' Pv.zO _ _ _ KX G ?a ?l ?c ?k ?b
   (case a=>k_is);(case l=>k_is);(case c=>k_is);(case k=>k_is)
   (case b=>intro _ _ _ _ _ _ us hl;obtain ⟨_,rfl⟩:=Pv.len1 hl;rfl)
  have D_kind_of:L2.Dfn (L2.KOf KX) mg "kind_of" Pv.zeg ["thing"]:=by
   dsimp only [L2.KOf]
   refine' Pv.zO _ _ _ KX G ?a ?l ?c ?k ?b
   (case a=>k_is);(case l=>k_is);(case c=>k_is);(case k=>k_is)
   (case b=>intro _ _ _ _ _ _ us hl;obtain ⟨_,rfl⟩:=Pv.len1 hl;rfl)
  have D_ahead:L2.Dfn (L2.KOf KX) mg "ahead" Pv.zgc ["one","other"]:=by
   dsimp only [L2.KOf]
   refine' Pv.zO _ _ _ KX G ?a ?l ?c ?k ?b
   (case a=>k_is);(case l=>k_is);(case c=>k_is);(case k=>k_is)
   (case b=>intro _ _ _ _ _ _ us hl;obtain ⟨_,_,rfl⟩:=Pv.len2 hl;rfl)
  have D_is_tuple_ahead:L2.Dfn (L2.KOf KX) mg "is_tuple_ahead" Pv.zaI ["one","other"]:=by
   dsimp only [L2.KOf]
   refine' Pv.zO _ _ _ KX G ?a ?l ?c ?k ?b
   (case a=>k_is);(case l=>k_is);(case c=>k_is);(case k=>k_is)
   (case b=>intro _ _ _ _ _ _ us hl;obtain ⟨_,_,rfl⟩:=Pv.len2 hl;rfl)
  have D_node_beneath:L2.Dfn (L2.KOf KX) mg "node_beneath" Pv.zbm ["vault","root","count"]:=by
   dsimp only [L2.KOf]
   refine' Pv.zO _ _ _ KX G ?a ?l ?c ?k ?b
   (case a=>k_is);(case l=>k_is);(case c=>k_is);(case k=>k_is)
   (case b=>intro _ _ _ _ _ _ us hl;obtain ⟨_,_,_,rfl⟩:=Pv.len3 hl;rfl)
  have D_is_node:L2.Dfn (L2.KOf KX) mg "is_node" Pv.zdV ["thing"]:=by
   dsimp only [L2.KOf]
   refine' Pv.zO _ _ _ KX G ?a ?l ?c ?k ?b
   (case a=>k_is);(case l=>k_is);(case c=>k_is);(case k=>k_is)
   (case b=>intro _ _ _ _ _ _ us hl;obtain ⟨_,rfl⟩:=Pv.len1 hl;rfl)
  have D_is_root:L2.Dfn (L2.KOf KX) mg "is_root" Pv.zea ["thing"]:=by
   dsimp only [L2.KOf]
   refine' Pv.zO _ _ _ KX G ?a ?l ?c ?k ?b
   (case a=>k_is);(case l=>k_is);(case c=>k_is);(case k=>k_is)
   (case b=>intro _ _ _ _ _ _ us hl;obtain ⟨_,rfl⟩:=Pv.len1 hl;rfl)
  have D_rank:L2.Dfn (L2.KOf KX) mg "rank" Pv.zin ["key"]:=by
   dsimp only [L2.KOf]
   refine' Pv.zO _ _ _ KX G ?a ?l ?c ?k ?b
   (case a=>k_is);(case l=>k_is);(case c=>k_is);(case k=>k_is)
   (case b=>intro _ _ _ _ _ _ us hl;obtain ⟨_,rfl⟩:=Pv.len1 hl;rfl)
  have D_above:L2.Dfn (L2.KOf KX) mg "above" Pv.zfY ["key","other"]:=by
   dsimp only [L2.KOf]
   refine' Pv.zO _ _ _ KX G ?a ?l ?c ?k ?b
   (case a=>k_is);(case l=>k_is);(case c=>k_is);(case k=>k_is)
   (case b=>intro _ _ _ _ _ _ us hl;obtain ⟨_,_,rfl⟩:=Pv.len2 hl;rfl)
  have D_side_of:L2.Dfn (L2.KOf KX) mg "side_of" Pv.zdR ["node","key"]:=by
   dsimp only [L2.KOf]
   refine' Pv.zO _ _ _ KX G ?a ?l ?c ?k ?b
   (case a=>k_is);(case l=>k_is);(case c=>k_is);(case k=>k_is)
   (case b=>intro _ _ _ _ _ _ us hl;obtain ⟨_,_,rfl⟩:=Pv.len2 hl;rfl)
  have D_way_to:L2.Dfn (L2.KOf KX) mg "way_to" Pv.ze3 ["vault","root","key"]:=by
   dsimp only [L2.KOf]
   refine' Pv.zO _ _ _ KX G ?a ?l ?c ?k ?b
   (case a=>k_is);(case l=>k_is);(case c=>k_is);(case k=>k_is)
   (case b=>intro _ _ _ _ _ _ us hl;obtain ⟨_,_,_,rfl⟩:=Pv.len3 hl;rfl)
  have D_ends_at:L2.Dfn (L2.KOf KX) mg "ends_at" Pv.zd1 ["way","key"]:=by
   dsimp only [L2.KOf]
   refine' Pv.zO _ _ _ KX G ?a ?l ?c ?k ?b
   (case a=>k_is);(case l=>k_is);(case c=>k_is);(case k=>k_is)
   (case b=>intro _ _ _ _ _ _ us hl;obtain ⟨_,_,rfl⟩:=Pv.len2 hl;rfl)
  have D_found:L2.Dfn (L2.KOf KX) mg "found" Pv.zgb ["vault","root","key"]:=by
   dsimp only [L2.KOf]
   refine' Pv.zO _ _ _ KX G ?a ?l ?c ?k ?b
   (case a=>k_is);(case l=>k_is);(case c=>k_is);(case k=>k_is)
   (case b=>intro _ _ _ _ _ _ us hl;obtain ⟨_,_,_,rfl⟩:=Pv.len3 hl;rfl)
  have D_with_tree:L2.Dfn (L2.KOf KX) mg "with_tree" Pv.zbO ["node","side","root","count"]:=by
   dsimp only [L2.KOf]
   refine' Pv.zO _ _ _ KX G ?a ?l ?c ?k ?b
   (case a=>k_is);(case l=>k_is);(case c=>k_is);(case k=>k_is)
   (case b=>intro _ _ _ _ _ _ us hl;obtain ⟨_,_,_,_,rfl⟩:=Pv.len4 hl;rfl)
  have D_hung:L2.Dfn (L2.KOf KX) mg "hung" Pv.zjg ["vault","way","key","root","more"]:=by
   dsimp only [L2.KOf]
   refine' Pv.zO _ _ _ KX G ?a ?l ?c ?k ?b
   (case a=>k_is);(case l=>k_is);(case c=>k_is);(case k=>k_is)
   (case b=>intro _ _ _ _ _ _ us hl;obtain ⟨_,_,_,_,_,rfl⟩:=Pv.len5 hl;rfl)
  have D_parted:L2.Dfn (L2.KOf KX) mg "parted" Pv.ze5 ["vault","way","key","root","count"]:=by
   dsimp only [L2.KOf]
   refine' Pv.zO _ _ _ KX G ?a ?l ?c ?k ?b
   (case a=>k_is);(case l=>k_is);(case c=>k_is);(case k=>k_is)
   (case b=>intro _ _ _ _ _ _ us hl;obtain ⟨_,_,_,_,_,rfl⟩:=Pv.len5 hl;rfl)
  have D_place_in:L2.Dfn (L2.KOf KX) mg "place_in" Pv.zcX ["way","key"]:=by
   dsimp only [L2.KOf]
   refine' Pv.zO _ _ _ KX G ?a ?l ?c ?k ?b
   (case a=>k_is);(case l=>k_is);(case c=>k_is);(case k=>k_is)
   (case b=>intro _ _ _ _ _ _ us hl;obtain ⟨_,_,rfl⟩:=Pv.len2 hl;rfl)
  have D_put:L2.Dfn (L2.KOf KX) mg "put" Pv.sput ["vault","root","key","worth"]:=by
   dsimp only [L2.KOf]
   refine' Pv.zO _ _ _ KX G ?a ?l ?c ?k ?b
   (case a=>k_is);(case l=>k_is);(case c=>k_is);(case k=>k_is)
   (case b=>intro _ _ _ _ _ _ us hl;obtain ⟨_,_,_,_,rfl⟩:=Pv.len4 hl;rfl)
  have D_cut:L2.Dfn (L2.KOf KX) mg "cut" Pv.scut ["vault","root","key"]:=by
   dsimp only [L2.KOf]
   refine' Pv.zO _ _ _ KX G ?a ?l ?c ?k ?b
   (case a=>k_is);(case l=>k_is);(case c=>k_is);(case k=>k_is)
   (case b=>intro _ _ _ _ _ _ us hl;obtain ⟨_,_,_,rfl⟩:=Pv.len3 hl;rfl)
  have D_joined:L2.Dfn (L2.KOf KX) mg "joined" Pv.zfa ["vault","left","right","count"]:=by
   dsimp only [L2.KOf]
   refine' Pv.zO _ _ _ KX G ?a ?l ?c ?k ?b
   (case a=>k_is);(case l=>k_is);(case c=>k_is);(case k=>k_is)
   (case b=>intro _ _ _ _ _ _ us hl;obtain ⟨_,_,_,_,rfl⟩:=Pv.len4 hl;rfl)
  have D__law_cell_at:L2.Dfn (L2.KOf KX) mg "_law_cell_at" Pv.zbj ["script","k"]:=by
   dsimp only [L2.KOf]
   refine' Pv.zO _ _ _ KX G ?a ?l ?c ?k ?b
   (case a=>k_is);(case l=>k_is);(case c=>k_is);(case k=>k_is)
   (case b=>intro _ _ _ _ _ _ us hl;obtain ⟨_,_,rfl⟩:=Pv.len2 hl;rfl)
  have D__law_mix:L2.Dfn (L2.KOf KX) mg "_law_mix" Pv.zc7 ["cell","k"]:=by
   dsimp only [L2.KOf]
   refine' Pv.zO _ _ _ KX G ?a ?l ?c ?k ?b
   (case a=>k_is);(case l=>k_is);(case c=>k_is);(case k=>k_is)
   (case b=>intro _ _ _ _ _ _ us hl;obtain ⟨_,_,rfl⟩:=Pv.len2 hl;rfl)
  have D__law_parts:L2.Dfn (L2.KOf KX) mg "_law_parts" Pv.zb6 ["cell","way","least"]:=by
   dsimp only [L2.KOf]
   refine' Pv.zO _ _ _ KX G ?a ?l ?c ?k ?b
   (case a=>k_is);(case l=>k_is);(case c=>k_is);(case k=>k_is)
   (case b=>intro _ _ _ _ _ _ us hl;obtain ⟨_,_,_,rfl⟩:=Pv.len3 hl;rfl)
  have D__law_text:L2.Dfn (L2.KOf KX) mg "_law_text" Pv.zct ["number","many"]:=by
   dsimp only [L2.KOf]
   refine' Pv.zO _ _ _ KX G ?a ?l ?c ?k ?b
   (case a=>k_is);(case l=>k_is);(case c=>k_is);(case k=>k_is)
   (case b=>intro _ _ _ _ _ _ us hl;obtain ⟨_,_,rfl⟩:=Pv.len2 hl;rfl)
  have D__law_key:L2.Dfn (L2.KOf KX) mg "_law_key" Pv.zc1 ["cell","way"]:=by
   dsimp only [L2.KOf]
   refine' Pv.zO _ _ _ KX G ?a ?l ?c ?k ?b
   (case a=>k_is);(case l=>k_is);(case c=>k_is);(case k=>k_is)
   (case b=>intro _ _ _ _ _ _ us hl;obtain ⟨_,_,rfl⟩:=Pv.len2 hl;rfl)
  have D__law_worth:L2.Dfn (L2.KOf KX) mg "_law_worth" Pv.zbX ["cell","way"]:=by
   dsimp only [L2.KOf]
   refine' Pv.zO _ _ _ KX G ?a ?l ?c ?k ?b
   (case a=>k_is);(case l=>k_is);(case c=>k_is);(case k=>k_is)
   (case b=>intro _ _ _ _ _ _ us hl;obtain ⟨_,_,rfl⟩:=Pv.len2 hl;rfl)
  have D__law_sort:L2.Dfn (L2.KOf KX) mg "_law_sort" Pv.zco ["thing"]:=by
   dsimp only [L2.KOf]
   refine' Pv.zO _ _ _ KX G ?a ?l ?c ?k ?b
   (case a=>k_is);(case l=>k_is);(case c=>k_is);(case k=>k_is)
   (case b=>intro _ _ _ _ _ _ us hl;obtain ⟨_,rfl⟩:=Pv.len1 hl;rfl)
  have D__law_ahead:L2.Dfn (L2.KOf KX) mg "_law_ahead" Pv.zbV ["one","other"]:=by
   dsimp only [L2.KOf]
   refine' Pv.zO _ _ _ KX G ?a ?l ?c ?k ?b
   (case a=>k_is);(case l=>k_is);(case c=>k_is);(case k=>k_is)
   (case b=>intro _ _ _ _ _ _ us hl;obtain ⟨_,_,rfl⟩:=Pv.len2 hl;rfl)
  have D__law_put_in:L2.Dfn (L2.KOf KX) mg "_law_put_in" Pv.zbQ ["pairs","key","worth"]:=by
   dsimp only [L2.KOf]
   refine' Pv.zO _ _ _ KX G ?a ?l ?c ?k ?b
   (case a=>k_is);(case l=>k_is);(case c=>k_is);(case k=>k_is)
   (case b=>intro _ _ _ _ _ _ us hl;obtain ⟨_,_,_,rfl⟩:=Pv.len3 hl;rfl)
  have D__law_rank:L2.Dfn (L2.KOf KX) mg "_law_rank" Pv.zcp ["ranks","key"]:=by
   dsimp only [L2.KOf]
   refine' Pv.zO _ _ _ KX G ?a ?l ?c ?k ?b
   (case a=>k_is);(case l=>k_is);(case c=>k_is);(case k=>k_is)
   (case b=>intro _ _ _ _ _ _ us hl;obtain ⟨_,_,rfl⟩:=Pv.len2 hl;rfl)
  have D__law_root:L2.Dfn (L2.KOf KX) mg "_law_root" Pv.zcm ["ranks","pairs"]:=by
   dsimp only [L2.KOf]
   refine' Pv.zO _ _ _ KX G ?a ?l ?c ?k ?b
   (case a=>k_is);(case l=>k_is);(case c=>k_is);(case k=>k_is)
   (case b=>intro _ _ _ _ _ _ us hl;obtain ⟨_,_,rfl⟩:=Pv.len2 hl;rfl)
  have D__law_told:L2.Dfn (L2.KOf KX) mg "_law_told" Pv.zcu ["vault","root","pairs","key"]:=by
   dsimp only [L2.KOf]
   refine' Pv.zO _ _ _ KX G ?a ?l ?c ?k ?b
   (case a=>k_is);(case l=>k_is);(case c=>k_is);(case k=>k_is)
   (case b=>intro _ _ _ _ _ _ us hl;obtain ⟨_,_,_,_,rfl⟩:=Pv.len4 hl;rfl)
  have D__law_done:L2.Dfn (L2.KOf KX) mg "_law_done" Pv.zcy ["keeper","root","pairs","key","cell","way"]:=by
   dsimp only [L2.KOf]
   refine' Pv.zO _ _ _ KX G ?a ?l ?c ?k ?b
   (case a=>k_is);(case l=>k_is);(case c=>k_is);(case k=>k_is)
   (case b=>intro _ _ _ _ _ _ us hl;obtain ⟨_,_,_,_,_,_,rfl⟩:=Pv.len6 hl;rfl)
  have D__law_twins_right:L2.Dfn (L2.KOf KX) mg "_law_twins_right" Pv.zaT ["ranks"]:=by
   dsimp only [L2.KOf]
   refine' Pv.zO _ _ _ KX G ?a ?l ?c ?k ?b
   (case a=>k_is);(case l=>k_is);(case c=>k_is);(case k=>k_is)
   (case b=>intro _ _ _ _ _ _ us hl;obtain ⟨_,rfl⟩:=Pv.len1 hl;rfl)
  have D__law_walked:L2.Dfn (L2.KOf KX) mg "_law_walked" Pv.zbC ["script"]:=by
   dsimp only [L2.KOf]
   refine' Pv.zO _ _ _ KX G ?a ?l ?c ?k ?b
   (case a=>k_is);(case l=>k_is);(case c=>k_is);(case k=>k_is)
   (case b=>intro _ _ _ _ _ _ us hl;obtain ⟨_,rfl⟩:=Pv.len1 hl;rfl)
  have m_bool:mg "bool" =none:=by
   refine' PySem.W.mg_none_of KX G ?z
   (case z=>k_is)
  have m_enumerate:mg "enumerate" =none:=by
   refine' PySem.W.mg_none_of KX G ?z
   (case z=>k_is)
  have m_int:mg "int" =none:=by
   refine' PySem.W.mg_none_of KX G ?z
   (case z=>k_is)
  have m_isinstance:mg "isinstance" =none:=by
   refine' PySem.W.mg_none_of KX G ?z
   (case z=>k_is)
  have m_len:mg "len" =none:=by
   refine' PySem.W.mg_none_of KX G ?z
   (case z=>k_is)
  have m_min:mg "min" =none:=by
   refine' PySem.W.mg_none_of KX G ?z
   (case z=>k_is)
  have m_ord:mg "ord" =none:=by
   refine' PySem.W.mg_none_of KX G ?z
   (case z=>k_is)
  have m_range:mg "range" =none:=by
   refine' PySem.W.mg_none_of KX G ?z
   (case z=>k_is)
  have m_reversed:mg "reversed" =none:=by
   refine' PySem.W.mg_none_of KX G ?z
   (case z=>k_is)
  have m_str:mg "str" =none:=by
   refine' PySem.W.mg_none_of KX G ?z
   (case z=>k_is)
  have m_tuple:mg "tuple" =none:=by
   refine' PySem.W.mg_none_of KX G ?z
   (case z=>k_is)
  have m_zip:mg "zip" =none:=by
   refine' PySem.W.mg_none_of KX G ?z
   (case z=>k_is)
  have g_BENEATH_NONE:∃t,mg "BENEATH_NONE" =some (.int 301 t):=by
   refine' Pv.zbD KX G ?z
   (case z=>k_is)
  obtain ⟨t_BENEATH_NONE,g_BENEATH_NONE⟩:=g_BENEATH_NONE
  have g_COUNT:∃t,mg "COUNT" =some (.int 4 t):=by
   refine' Pv.zbD KX G ?z
   (case z=>k_is)
  obtain ⟨t_COUNT,g_COUNT⟩:=g_COUNT
  have g_KEY:∃t,mg "KEY" =some (.int 0 t):=by
   refine' Pv.zbD KX G ?z
   (case z=>k_is)
  obtain ⟨t_KEY,g_KEY⟩:=g_KEY
  have g_LEFT:∃t,mg "LEFT" =some (.int 2 t):=by
   refine' Pv.zbD KX G ?z
   (case z=>k_is)
  obtain ⟨t_LEFT,g_LEFT⟩:=g_LEFT
  have g_MOST_NODES:∃t,mg "MOST_NODES" =some (.int 300 t):=by
   refine' Pv.zbD KX G ?z
   (case z=>k_is)
  obtain ⟨t_MOST_NODES,g_MOST_NODES⟩:=g_MOST_NODES
  have g_RIGHT:∃t,mg "RIGHT" =some (.int 3 t):=by
   refine' Pv.zbD KX G ?z
   (case z=>k_is)
  obtain ⟨t_RIGHT,g_RIGHT⟩:=g_RIGHT
  have g_WORTH:∃t,mg "WORTH" =some (.int 1 t):=by
   refine' Pv.zbD KX G ?z
   (case z=>k_is)
  obtain ⟨t_WORTH,g_WORTH⟩:=g_WORTH
  obtain ⟨CK,cK,nL,dI,dR,dL,dT⟩:∃C,L2.Cls (L2.KOf KX) C∧L2.z8 (L2.KOf KX) C "laid" ∧L2.Mkd (L2.KOf KX) mg "Keeper" C "Vault.__init__" Pv.zaE ["self"]∧L2.Mdf (L2.KOf KX) C "refuse_clash" "Vault.refuse_clash" Pv.zai ["self","number","thing"]∧L2.Mdf (L2.KOf KX) C "lay" "Vault.lay" Pv.zbB ["self","thing"]∧L2.Mdf (L2.KOf KX) C "thing" "Vault.thing" Pv.za4 ["self","number"]:=by
   dsimp only [L2.KOf]
   refine' L2.zgB KX (x:= "Keeper") ?n ⟨?c0,?c1,?c2,?c3,?c4,?c5⟩
   (case n=>k_is)
   (case c0=>refine' L2.zlP ?a ?b ?c ?d;(case a=>k_is);(case b=>k_is);(case c=>k_is);(case d=>k_is))
   (case c1=>unfold L2.z8;k_is)
   (case c2=>refine' L2.zld (qual:= "Vault.__init__") (st:=Pv.zaE) (ps:=["self"]) KX G ?n ?mk ?a ?fn ?l ?c ?k ?kc ?b;(case n=>k_is);(case mk=>k_is);(case a=>k_is);(case fn=>k_is);(case l=>k_is);(case c=>k_is);(case k=>k_is);(case kc=>k_is);(case b=>intro _ _ _ _ _ _ us hl;obtain ⟨_,rfl⟩:=Pv.len1 hl;rfl))
   (case c3=>refine' L2.zf5 (m:= "refuse_clash") (qual:= "Vault.refuse_clash") (st:=Pv.zai) (ps:=["self","number","thing"]) ?a ?fn ?l ?c ?k ?b;(case a=>k_is);(case fn=>k_is);(case l=>k_is);(case c=>k_is);(case k=>k_is);(case b=>intro _ _ _ _ _ _ us hl;obtain ⟨_,_,_,rfl⟩:=Pv.len3 hl;rfl))
   (case c4=>refine' L2.zf5 (m:= "lay") (qual:= "Vault.lay") (st:=Pv.zbB) (ps:=["self","thing"]) ?a ?fn ?l ?c ?k ?b;(case a=>k_is);(case fn=>k_is);(case l=>k_is);(case c=>k_is);(case k=>k_is);(case b=>intro _ _ _ _ _ _ us hl;obtain ⟨_,_,rfl⟩:=Pv.len2 hl;rfl))
   (case c5=>refine' L2.zf5 (m:= "thing") (qual:= "Vault.thing") (st:=Pv.za4) (ps:=["self","number"]) ?a ?fn ?l ?c ?k ?b;(case a=>k_is);(case fn=>k_is);(case l=>k_is);(case c=>k_is);(case k=>k_is);(case b=>intro _ _ _ _ _ _ us hl;obtain ⟨_,_,rfl⟩:=Pv.len2 hl;rfl))
  obtain ⟨CC,xC,n1,n2,xM,gC⟩:∃C,L2.XId (L2.KOf KX) mg "Clash" C "Clash.__init__" Pv.zaF ["self","one","other"]∧L2.z8 (L2.KOf KX) C "one" ∧L2.z8 (L2.KOf KX) C "other" ∧PySem.W.exmOne (L2.KOf KX) (.ref C) (.ref C)=some true∧mg "Clash" =some (.ref C):=by
   dsimp only [L2.KOf]
   refine' L2.zgB KX (x:= "Clash") ?n ⟨?c0,?c1,?c2,?c3,?c4⟩
   (case n=>k_is)
   (case c0=>refine' L2.zlX (qual:= "Clash.__init__") (st:=Pv.zaF) (ps:=["self","one","other"]) KX G ?n ?cl ?a ?fn ?l ?c ?k ?b;(case n=>k_is);(case cl=>refine' L2.zkm ?xq ?xo ?xs ?xg ?xh ?xk;(case xq=>kernel_rfl);(case xo=>kernel_rfl);(case xs=>k_is);(case xg=>k_is);(case xh=>k_is);(case xk=>k_is));(case a=>k_is);(case fn=>k_is);(case l=>k_is);(case c=>k_is);(case k=>k_is);(case b=>intro _ _ _ _ _ _ us hl;obtain ⟨_,_,_,rfl⟩:=Pv.len3 hl;rfl))
   (case c1=>unfold L2.z8;k_is)
   (case c2=>unfold L2.z8;k_is)
   (case c3=>kernel_rfl)
   (case c4=>refine' PySem.W.mg_of KX G ?z;(case z=>k_is))
  refine' Pv.zlT KX G hmg ?a ?l ?c ?k ?ok
  (case a=>k_is);(case l=>k_is);(case c=>k_is);(case k=>k_is)
  case ok=>
   intro base fd F
   have f_cell:=Pv.zgu (P:=PySem.Challenge.rw_papervault_k32_whole_one_shape_by_puts_a.prog) (w:=w) (base:=base) D__law_cell_at m_len
   have f_mix:=Pv.zlH (P:=PySem.Challenge.rw_papervault_k32_whole_one_shape_by_puts_a.prog) (w:=w) (base:=base) D__law_mix
   have f_parts:=Pv.zjo D__law_parts f_mix m_range m_len
   have f_text:=Pv.ziY (P:=PySem.Challenge.rw_papervault_k32_whole_one_shape_by_puts_a.prog) (w:=w) (base:=base) D__law_text m_range
   have f_num:=Pv.zeS (P:=PySem.Challenge.rw_papervault_k32_whole_one_shape_by_puts_a.prog) (w:=w) (base:=base) D_number_of m_ord
   have f_codes:=Pv.zfB D_codes f_num m_isinstance m_int m_str m_range m_len 10
   have f_seal:=Pv.zkA D_seal f_codes
   have f_kind:=Pv.zkw (P:=PySem.Challenge.rw_papervault_k32_whole_one_shape_by_puts_a.prog) (w:=w) (base:=base) D_kind_of m_isinstance m_int m_str
   have f_ahead:=Pv.zfe D_ahead D_is_tuple_ahead f_kind m_zip m_len m_isinstance m_tuple 9
   have k_init:=Pv.ziy (P:=PySem.Challenge.rw_papervault_k32_whole_one_shape_by_puts_a.prog) (w:=w) (base:=base) dI cK nL
   have x_clash:=Pv.ziC (P:=PySem.Challenge.rw_papervault_k32_whole_one_shape_by_puts_a.prog) (w:=w) (base:=base) xC n1 n2
   have m_refuse:=Pv.zhA dR x_clash cK nL
   have m_lay:=Pv.zkj (Pv.zlZ dL m_refuse f_seal cK nL)
   have m_thing:=Pv.zh6 (Pv.zht (mg:=mg) (P:=PySem.Challenge.rw_papervault_k32_whole_one_shape_by_puts_a.prog) (w:=w) (base:=base) dT cK nL)
   have f_whole:=Pv.zjE (P:=PySem.Challenge.rw_papervault_k32_whole_one_shape_by_puts_a.prog) (w:=w) (base:=base) D_is_whole m_isinstance m_int m_bool
   have f_root:=Pv.zjU D_is_root f_whole
   have f_isnode:=Pv.zhK D_is_node f_root f_whole m_isinstance m_tuple m_len g_KEY g_WORTH g_LEFT g_RIGHT g_COUNT g_MOST_NODES
   have f_ben:=Pv.zlQ D_node_beneath m_thing cK f_isnode g_COUNT
   have f_rank:=Pv.zkk D_rank f_seal
   have f_above:=Pv.zim D_above f_rank f_ahead
   have f_side:=Pv.zkq D_side_of f_ahead g_KEY g_LEFT g_RIGHT
   have f_with:=Pv.zkl (P:=PySem.Challenge.rw_papervault_k32_whole_one_shape_by_puts_a.prog) (w:=w) (base:=base) D_with_tree g_KEY g_WORTH g_LEFT g_RIGHT
   have f_way:=Pv.zlR D_way_to f_ben f_side g_KEY g_COUNT g_BENEATH_NONE
   have f_ends:=Pv.zkc (P:=PySem.Challenge.rw_papervault_k32_whole_one_shape_by_puts_a.prog) (w:=w) (base:=base) D_ends_at g_KEY m_len
   have f_hung:=Pv.zkh D_hung m_lay cK f_with f_side g_COUNT m_reversed
   have f_parted:=Pv.zhV D_parted m_lay cK f_with f_side g_COUNT g_LEFT g_RIGHT m_reversed
   have f_place:=Pv.ziK D_place_in f_above g_KEY m_enumerate m_len
   have f_put:=Pv.zlB D_put f_way f_ends m_lay cK f_hung f_parted f_place g_COUNT g_LEFT g_RIGHT m_len
   have f_sort:=Pv.zjR (P:=PySem.Challenge.rw_papervault_k32_whole_one_shape_by_puts_a.prog) (w:=w) (base:=base) D__law_sort m_isinstance m_int m_str
   have f_lahead:=Pv.zem D__law_ahead f_sort m_isinstance m_int m_str m_range m_len m_min 9
   have f_key:=Pv.zlD D__law_key f_parts f_text
   have f_worth:=Pv.zi3 D__law_worth f_parts f_text
   have f_putin:=Pv.ziE D__law_put_in f_lahead m_range m_len
   have f_withB:=Pv.ziL (P:=PySem.Challenge.rw_papervault_k32_whole_one_shape_by_puts_a.prog) (w:=w) (base:=base) D_with_tree g_KEY g_WORTH g_LEFT g_RIGHT
   have f_joined:=Pv.zhM D_joined f_ben f_above m_lay cK f_withB g_KEY g_LEFT g_RIGHT g_COUNT m_reversed
   have f_cut:=Pv.zlk D_cut f_way f_ends f_hung f_joined g_COUNT g_LEFT g_RIGHT
   have f_lrank:=Pv.zif D__law_rank f_seal
   have f_lroot:=Pv.zfx D__law_root f_lrank f_seal m_range m_len 64
   have f_found:=Pv.ziR D_found f_way f_ends g_WORTH
   have f_told:=Pv.zjM D__law_told f_found f_sort
   have f_done:=Pv.zf6 D__law_done f_mix f_cut f_put f_putin f_worth
   have f_twins:=Pv.ziz D__law_twins_right k_init f_lroot f_put f_cut f_found m_range
   have f_walked:=Pv.zhH D__law_walked f_cell f_mix f_key k_init f_done f_lroot f_cut f_put f_found f_told f_twins m_isinstance m_int m_bool m_len
   exact Pv.zlC F f_walked f_seal gC xC.cl n1 n2 xM
#print axioms PySem.Challenge.cw_papervault_k32_whole_one_shape_by_puts_a_holds
