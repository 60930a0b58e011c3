import PyProof.Rows.All
import Wide.All
import OpenK.AllK
import Wide.FinOn
import Lean
import PyProof.EqAt
import PyProof.EqKinds
import PyProof.TupleCall
import PyProof.ExcBaseAll.ValueError
import PyProof.ExcAttrAll.ValueError
import KE.KTryMore
import OpenK.KOwn
import PyProof.InstSpecial
import KE.KRevIter
import KE.KDictList
import PyProof.SetScanFacts
import PyProof.Rows.SetFrom
import KE.KRevIter
import PyProof.Rows.SortShell
import PyProof.CollectWalk
import PyProof.Rows.SortWalk
import PyProof.ExcInit
import PyProof.InstStoreFacts
import PyProof.StrWalks
import PyProof.EnumMake
import PyProof.StrBlock2
import PyProof.StrLawsTight
import PyProof.StrLawsChain
import PyProof.StrCalls2
import PyProof.Rows.StrCountLaw
import PySem.Challenge.RW_wontbook_k04_a_row
set_option linter.all false
set_option maxRecDepth 100000
set_option maxHeartbeats 4000000
set_option bootstrap.genMatcherCode false
set_option genSizeOf false
set_option genInjectivity false
set_option Elab.async false
local macro_rules
 | `(def $x:declId $s:optDeclSig $v:declVal)=>`(noncomputable def $x:declId $s:optDeclSig $v:declVal)
section
open PySem PySem.Spec PyProof.Rows
noncomputable abbrev cN (x:Str):Prop:=(x == ("__debug__":Str))=false
noncomputable abbrev eE (v:Env) (e:Expr) (es:List Expr):Prop:=starEach (e::es) v=(false,eval e v)::starEach es v
noncomputable abbrev iW (v:Env) (es:List Expr) (p:Pos):Prop:=(backTo p (starEach es v)).any (·.1)=false
end
open PySem.W (callWith_K cellsFrom_some codeIn exmOne fnOf isFn kIn_of keepIn kia_one kitCls kitOne kitx_list methodObj mg_none_of mg_of notCls nsIn typeIn)
open List (all_eq_true any_cons append_assoc append_nil cons_append contains_cons contains_iff_mem count_cons count_eq_zero drop_drop drop_eq_getElem_cons drop_left drop_length drop_zero filterMap_cons filter_map find?_cons flatten_cons foldl getElem?_append_left getElem?_append_right getElem?_cons_succ getElem?_drop getElem?_eq_getElem getElem?_eq_none getElem?_map getElem?_range getElem?_reverse getElem?_set_ne getElem?_set_self getElem_mem getElem_of_mem isPrefixOf isPrefixOf_iff_prefix length_append length_cons length_drop length_eq_zero_iff length_map length_nil length_pos_iff length_range length_replicate length_reverse length_take lookup_cons map_append map_cons map_drop map_nil map_take mem_append mem_append_right mem_cons mem_cons_of_mem mem_cons_self mem_map mem_of_getElem? mem_range mem_singleton nil_append nodup_cons not_mem_nil of_mem_zip prefix_append range_succ replicate replicate_succ reverse_cons singleton_append size_toArray sum_cons sum_nil take_append_drop take_length take_succ toArray_inj)
open Option (bind_some getD_none isSome_iff_exists isSome_map map_eq_some_iff map_some)
open PySem.F (args_tuple_add_2 attr_ValueError entry_bexc_ga entry_tuple_add plainAttrs_list plainAttrs_str slot_list_count slot_list_pop slot_str_join slot_str_split slot_tuple_add type_list_pop type_str_join type_str_split)
open Nat (ble le_of_ble_eq_true le_of_eq le_of_lt le_of_not_lt le_refl le_succ le_trans lt_irrefl lt_of_lt_of_le mul_comm ne_of_gt ne_of_lt zero_le)
open PySem.Heap (get?_push_of_some get?_push_size get?_update_other get?_update_self lt_size)
open Bool (and_eq_true bne_false bne_true eq_false_iff false_eq_true not_eq_true' or_eq_true)
open Int (ediv_one emod_lt_of_pos emod_nonneg eq_ofNat_of_zero_le toNat toNat_natCast)
open Classical (choose_spec propDecidable)
namespace ZH
open PySem PySem.W PySem.Calls PyProof.Rows
def Uw (thr:Thread->Bool)(ok:Thread->Bool)(stp:SharedT->Thread->Option (SharedT×Thread)):Nat->SharedT->Thread->Option SharedT
 | 0,_,_=>none
 | n+1,s,t=>match thr t with
  | true=>some s
  | false=>match ok t with
   | false=>none
   | true=>match stp s t with
    | some (s',t')=>Uw thr ok stp n s' t'
    | none=>none
theorem R5:∀{n:Nat} {s s':SharedT} {t:Thread},Uw through (stepOk n₀ ann) (stepT (denote tb) p w) n s t=some s'->topRun tb p w n₀ ann n s.abs t=some s'.abs
 | 0,_,_,_,h=>by cases h
 | n+1,s,s',t,h=>by
  unfold Uw at h;unfold topRun;cases ht:through t with
  | true=>rw[ht]at h;cases h;rfl
  | false=>
   rw[ht]at h;cases hk:stepOk n₀ ann t with
   | false=>rw[hk]at h;cases h
   | true=>
    rw[hk]at h;cases hs:stepT (denote tb) p w s t with
    | none=>rw[hs]at h;cases h
    | some r=>obtain ⟨s₂,t₂⟩:=r;rw[hs]at h;rw[stepT_spec hs];exact R5 h
def treeOf:List Obj->Nat->BT->BT
 | [],_,t=>t
 | o::l,i,t=>treeOf l (i+1) (t.ins i o)
noncomputable def s0T (P:Params) (os:OsState):SharedT:=⟨treeOf (boot_heap P).objs.toList 0 .nil,11,(boot_heap P).life,#[],boot_drawn,boot_toks,os⟩
theorem ad2 (P:Params)(os:OsState):(s0T P os).abs=⟨boot_heap P,#[],boot_drawn,boot_toks,os⟩:=by kernel_rfl
theorem sz0 (P:Params):((boot_heap P).isNs mainGlobals && (#[]:Array GenState).size == 0,(boot_heap P).objs.size,(boot_heap P).nsMap mainGlobals "__annotations__")=(true,11,some (.ref 6)):=by kernel_rfl
noncomputable def ends (M:Nat) (p:Program) (stp:SharedT->Thread->Option (SharedT×Thread)) (ok:Thread->Bool) (P:Params) (os:OsState):Option SharedT:=Uw through ok stp M (s0T P os) (topStub p)
theorem Wi {p q:Program}{loose:List Str}{Xt:Shared->Bool}{α:Type}{Yf:Shared->α}{Ya:World->α}{N:Nat}{g0:Bool}(e:opening p=plainProg p.main.scope.names)(hN:ble 600 N=true)(f:∀s,fenceModules? p s=some s)(h:∀(w:World) (os:OsState),(ends N p (stepT (denote treeTable) p w) (stepOk 11 (some (.ref 6))) w.params os).bind (λs=>
   match staticsOk (importedModules p.main.body) (boot_heap w.params) s.abs.heap && namesBound p s.abs.heap && gensDone s.abs && laidKept (boot_heap w.params) s.abs.heap with
   | true=>some (openSeen q loose (importedModules p.main.body) Xt g0 s.abs,Yf s.abs)
   | false=>none)=some (openGood q loose,Ya w)):LeftO p q loose Xt Yf Ya N g0:=λw=>by
 obtain ⟨⟨hh,gs,d,k,os⟩,e1,e2⟩:=map_eq_some_iff.mp (boot_open e hN f w);obtain ⟨rfl,rfl,rfl,rfl⟩:hh=boot_heap w.params/\gs=#[]/\d=boot_drawn/\k=boot_toks:=by simpa using e2
 obtain ⟨s,r1,r2⟩:=Option.bind_eq_some_iff.mp (h w os);have r:=R5 r1;rw[ad2]at r;obtain ⟨z1,z2,z3⟩:_/\_/\_:=by simpa only[Prod.mk.injEq] using sz0 w.params
 unfold openEnds;rw[e1];show (topFrom treeTable p w N _).map _=_;have t:topFrom treeTable p w N ⟨boot_heap w.params,#[],boot_drawn,boot_toks,os⟩=some s.abs:=by
  unfold topFrom;dsimp only;rw[z1,z2,z3,r];show (match staticsOk (importedModules p.main.body) (boot_heap w.params) s.abs.heap && namesBound p s.abs.heap && gensDone s.abs && laidKept (boot_heap w.params) s.abs.heap with | true=>_ | false=>_)=_;revert r2;split
  ·intro _;rfl
  ·intro x;cases x
 rw[t];revert r2;split
 ·intro r2;exact r2
 ·intro x;cases x
noncomputable abbrev GoQ (p q:Program) (loose:List Str) (R:WRecords) (N:Nat) (K:Params->Frag) (as:List Addr) (w:World) (os:OsState):Prop:=
 ((ends N p (Fast.tw10156331382660048174 (Fast.tw11892475500146522536 Fast.tw14364793385576792824) p w) (Fast.tw6613529449190102663 11 (some (.ref 6))) w.params os).bind λs=>
   match staticsOk (Fast.tw5923862056798008813 p.main.body) (boot_heap w.params) s.abs.heap && namesBound p s.abs.heap && gensDone s.abs && laidKept (boot_heap w.params) s.abs.heap with
   | true=>some (Fast.tw4187177175401517315 q loose (Fast.tw5923862056798008813 p.main.body) (λs=>xlAt q [] s && recOk R s) true s.abs,as.map s.abs.heap.get?)
   | false=>none)=some (openGood q loose,(K w.params).map λp=>some p.2)
theorem ad3 {p q:Program}{loose:List Str}{R:WRecords}{N:Nat}{K:Params->Frag}{as:List Addr}(a:∀P,as=(K P).map (·.1))(e:opening p=plainProg p.main.scope.names)(hN:ble 600 N=true)(f:∀s,fenceModules? p s=some s)(h:∀w os,GoQ p q loose R N K as w os):LeftO p q loose (λs=>xlAt q [] s && recOk R s) (Hook.obs (kHook K as a)) (Hook.val (kHook K as a)) N true:=by
 refine Wi e hN f ?_;rw[Fast.te10156331382660048174,Fast.te11892475500146522536,Fast.te14364793385576792824,Fast.te6613529449190102663,Fast.te4187177175401517315,Fast.te5923862056798008813];exact h
theorem ad4 {r:OpenRow}{q:Program}{loose:List Str}{d:DefRec}{kwd:List (Str×Expr)}{N:Nat}{K:Params->Frag}{as:List Addr}(a:∀P,as=(K P).map (·.1))(h:∀w os,GoQ r.prog q loose r.records N K as w os)(e:opening r.prog=plainProg r.prog.main.scope.names)(hN:ble 600 N=true)(f:∀s,fenceModules? r.prog s=some s)(hdef:defOf q r.name=some (d,kwd))(hp:r.prog.theDef r.name=some (d.params,d.body,d.scope))(hk:kwWritten? d.params.kwonlyargs d.params.kw_defaults=some kwd)(hwr:(!r.writes || r.records.isEmpty)=true)(k1:r.wellSaid=true)(ok:(chainsOk q && opensWell r.prog && (frees r.toRowW && r.within.isEmpty))=true)(hb:r.prog.bare)(hw:r.toRowW.promised)(call:WalkO q loose (XL q []) (kHook K as a).says r.toRowW d kwd λf vs=>PySem.call f vs):r.Holds:=
 holds_open (ad3 a e hN f h) (Hook.of _) (Hook.keeps _) (λs e=>xl_of s (Bool.and_eq_true_iff.mp e).1) XL.keeps hdef hp hk (λs e=>recFacts_of (Bool.and_eq_true_iff.mp e).2) hwr k1 ok hb hw call
end ZH
section
open PySem PySem.W PyProof.Rows
def gj.QV:Program:=view PySem.Challenge.pw_wontbook_k04_a_row ((List.range 52).filter λi=>!([0,8,17,26,27,30].contains i))
set_option Elab.async false
section
local macro_rules
 | `(tactic| o_head $H)=>`(tactic| skip)
set_option maxRecDepth 100000 in
theorem gj.dm (h:(OpenLaw.row PySem.Challenge.rw_wontbook_k04_a_row).Holds):(OpenLaw.row PySem.Challenge.rw_wontbook_k04_a_row).Holds:=by
 k_head
 exact h
end
def gj.AL:List Nat:=[2,3,15,22,23,24,25,28,35,37,38,40,41,42,43,44,47,54,55,56,59,66,67,68,71,78,79,80,83,90,91,92,95,102,103,104,107,108,109,110,111,112,113,114,115,116,118,119,121,122,123,125,126,128,129,130,132,133,135,136,137,139,140,142,143,144,146,147,149,150,151,153,154,156,157,158,160,161,163,164,165,167,168,170,171,172,174,175,177,178,179,180,182,183,185,186,187,189,190,192,193,194,196,197,199,200,201,203,204,206,207,208,210,211,213,214,215,217,218,220,221,222,224,225,227,228,229,231,232,234,235,236,238,239,241,242,250,252,253,255,256,257,259,260,262,263,264,266,267,269,270,271,273,274,276,277,278,280,281,283,284,285,287,288,290,291,292,294,295,297,298,299,301,302,304,305,306,308,309,311,312,313,316,317,318,320,321,323,324,325,327,328,330,331,332,335,336,337,339,340,342,343]
set_option maxRecDepth 100000 in
theorem gj.gof:∀(w:World) (os:OsState),ZH.GoQ (OpenLaw.row PySem.Challenge.rw_wontbook_k04_a_row).prog gj.QV [PySem.Str.ofString "TIGHTER",PySem.Str.ofString "TIGHTNESS",PySem.Str.ofString "read_sentence",PySem.Str.ofString "read_row"] (OpenLaw.row PySem.Challenge.rw_wontbook_k04_a_row).records 5880 gj.dm.heap_1 gj.AL (World.withFollow w "special-get-raises" false) os:=by
 intro w os;kernel_rfl
set_option maxRecDepth 100000 in
theorem gj.got:∀(w:World) (os:OsState),ZH.GoQ (OpenLaw.row PySem.Challenge.rw_wontbook_k04_a_row).prog gj.QV [PySem.Str.ofString "TIGHTER",PySem.Str.ofString "TIGHTNESS",PySem.Str.ofString "read_sentence",PySem.Str.ofString "read_row"] (OpenLaw.row PySem.Challenge.rw_wontbook_k04_a_row).records 5880 gj.dm.heap_1 gj.AL (World.withFollow w "special-get-raises" true) os:=by
 intro w os;kernel_rfl
set_option maxRecDepth 100000 in
theorem gj.ws:OpenLaw.wellSaid PySem.Challenge.rw_wontbook_k04_a_row=true:=(congrFun Fast.te9446332074065402090 _).trans (by kernel_rfl)
end
namespace Z
noncomputable abbrev S:=List Nat
inductive D where
 | non | bl (b:Bool) | int (i:Int) | str (s:S) | tup (xs:List D) | fu (xs:List D) | ref (n:Nat)
noncomputable abbrev KK:=Sum Int S
inductive AO where
 | lst (xs:List D) | dct (kvs:List (KK×D)) | obj (c:S) (fs:List (S×D)) | exc (c:S) | dZ (c:S) (i:Int)
noncomputable abbrev AH:=List AO
noncomputable abbrev Lo:=List (Option D)
def lim:Nat:=16777216
def tx (s:String):S:=s.toList.map Char.toNat
def eqZ (f:D->D->Option Bool):List D->List D->Option Bool
 | [],[]=>some true
 | [],_::_=>some false
 | _::_,[]=>some false
 | x::xs,y::ys=>match f x y,eqZ f xs ys with
  | some a,some b=>some (a && b)
  | _,_=>none
def GP:Nat->D->D->Option Bool
 | _,.non,.non=>some true
 | _,.non,.bl _=>some false
 | _,.non,.int _=>some false
 | _,.non,.str _=>some false
 | _,.bl _,.non=>some false
 | _,.bl a,.bl b=>some (a == b)
 | _,.bl _,.str _=>some false
 | _,.int _,.non=>some false
 | _,.int a,.int b=>some (a == b)
 | _,.int _,.str _=>some false
 | _,.str _,.non=>some false
 | _,.str _,.bl _=>some false
 | _,.str _,.int _=>some false
 | _,.str a,.str b=>some (a == b)
 | _+1,.non,.tup _=>some false
 | _+1,.bl _,.tup _=>some false
 | _+1,.int _,.tup _=>some false
 | _+1,.str _,.tup _=>some false
 | _+1,.tup _,.non=>some false
 | _+1,.tup _,.bl _=>some false
 | _+1,.tup _,.int _=>some false
 | _+1,.tup _,.str _=>some false
 | n+1,.tup xs,.tup ys=>eqZ (GP n) xs ys
 | _,_,_=>none
def eqD (x y:D):Option Bool:=GP 150 x y
def Ux (h:AH):D->Option (List D)
 | .tup xs=>some xs
 | .fu xs=>some xs
 | .ref n=>match h[n]? with
  | some (.lst xs)=>some xs
  | _=>none
 | _=>none
def KD (xs ys:List D):Option Bool:=if xs.length=ys.length then eqZ (GP 149) xs ys else some false
def o8 (h:AH):D->D->Option Bool
 | .ref a,.ref b=>match h[a]?,h[b]? with
  | some (.lst xs),some (.lst ys)=>KD xs ys
  | _,_=>none
 | x,y=>eqD x y
def dW (x:D):List D->Option Bool
 | []=>some false
 | y::ys=>match GP 149 y x,dW x ys with
  | some a,some b=>some (a || b)
  | _,_=>none
def truthy (h:AH):D->Option Bool
 | .non=>some false
 | .bl b=>some b
 | .int i=>some (i != 0)
 | .str s=>some (!s.isEmpty)
 | .tup xs=>some (!xs.isEmpty)
 | .fu xs=>some (!xs.isEmpty)
 | .ref n=>match h[n]? with
  | some (.lst xs)=>some (!xs.isEmpty)
  | some (.dct kvs)=>some (!kvs.isEmpty)
  | _=>none
def lD (n:Nat)(i:Int):Option Nat:=if 0<=i then (if i < n then some i.toNat else none) else if -(n:Int)<=i then some (i+n).toNat else none
def bT {α:Type}(xs:List α)(i:Int):Option α:=(lD xs.length i).bind λj=>xs[j]?
def bG (n d:Nat):Option Int->Nat
 | none=>d
 | some v=>(if v < 0 then max (v+n) 0 else min v n).toNat
def cut {α:Type}(xs:List α)(lo hi:Option Int):List α:=(xs.drop (bG xs.length 0 lo)).take (bG xs.length xs.length hi - bG xs.length 0 lo)
def wI:D->Option KK
 | .int i=>some (.inl i)
 | .str s=>some (.inr s)
 | _=>none
def kkD:KK->D
 | .inl i=>.int i
 | .inr s=>.str s
def Bg (kvs:List (KK×D))(k:KK):Option D:=(kvs.find? λkv=>decide (kv.1=k)).map (·.2)
def KH (kvs:List (KK×D))(k:KK)(v:D):List (KK×D):=
 if kvs.any (λkv=>decide (kv.1=k)) then kvs.map (λkv=>if kv.1=k then (kv.1,v) else kv) else kvs++[(k,v)]
def strsOf:List D->Option (List S)
 | []=>some []
 | .str s::r=>(strsOf r).map (s::·)
 | _=>none
def intsOf:List D->Option (List Int)
 | []=>some []
 | .int s::r=>(intsOf r).map (s::·)
 | _=>none
def sLt:S->S->Bool
 | [],[]=>false
 | [],_::_=>true
 | _::_,[]=>false
 | x::xs,y::ys=>if x=y then sLt xs ys else decide (x < y)
def ad5 (x:S):List S->List S
 | []=>[x]
 | y::ys=>if sLt x y then x::y::ys else y::ad5 x ys
def aaI (l:List S):List S:=l.foldl (λacc x=>ad5 x acc) []
def insI (x:Int):List Int->List Int
 | []=>[x]
 | y::ys=>if x < y then x::y::ys else y::insI x ys
def sortI (l:List Int):List Int:=l.foldl (λacc x=>insI x acc) []
def splitOn (c:Nat):S->List S
 | []=>[[]]
 | x::xs=>if x=c then []::splitOn c xs else match splitOn c xs with
  | []=>[[x]]
  | w::ws=>(x::w)::ws
def fH (sep:S):List S->S
 | []=>[]
 | [x]=>x
 | x::y::r=>x++sep++fH sep (y::r)
def lstrip (c:Nat):S->S
 | []=>[]
 | x::xs=>if x=c then lstrip c xs else x::xs
def strip (c:Nat)(s:S):S:=(lstrip c (lstrip c s).reverse).reverse
inductive KN | int | bool | str | list | tuple | cls (c:Nat)
 deriving DecidableEq
inductive Prim
 | add | sub | mul | fdiv | mod | pow | shl | shr | band | bor | bxor | neg | inv
 | eq | ne | lt | le | gt | ge | rZ | YJ | GQ | lE
 | dj | bA | aaJ
 | idx | amd | uQ | Mp | ame
 | len | fV (k:KN) | max2 | min2
 | ah7 | ad6 | abR | str_ | int_ | bool_
 | append | extend | pop | ah8 | insert | index | count | join | split | R7 | uR | strip | find | Wj | aqr | aqs
 | fB
 | j5 (t:List (S×D)) | su (t:List (S×D))
 | amf | ad7 | amg | min1 | amh | minD | abS | ami | HJ | abT
 | attr (cs:List S) (f:S) | setattr (cs:List S) (f:S)
 | isC (yes no:List S) | Jk | all1 | GR (yes no:List S) | GX | Uy (cs:List S) | wK | KJ | Jl
def okR (i:Int):Bool:=@decide (-4611686018427387904<=i/\i < 4611686018427387904) (propDecidable _)
theorem mF {i:Int}:okR i=true↔(-4611686018427387904<=i/\i < 4611686018427387904):=@decide_eq_true_iff _ (propDecidable _)
def R8 (a b c:Int):Bool:=@decide (-2147483648<=a/\a < 2147483648/\-2147483648<=b/\b < 2147483648/\0 < c/\c < 1073741824) (propDecidable _)
theorem KQ {a b c:Int}:R8 a b c=true↔(-2147483648<=a/\a < 2147483648/\-2147483648<=b/\b < 2147483648/\0 < c/\c < 1073741824):=@decide_eq_true_iff _ (propDecidable _)
def Jm (i:Int):Bool:=@decide (-18446744073709551616 < i/\i < 18446744073709551616) (propDecidable _)
theorem wL {i:Int}:Jm i=true↔(-18446744073709551616 < i/\i < 18446744073709551616):=@decide_eq_true_iff _ (propDecidable _)
def O8 (i:Int):Bool:=@decide (-2037035976334486086268445688409378161051468393665936250636140449354381299763336706183397376 < i/\i < 2037035976334486086268445688409378161051468393665936250636140449354381299763336706183397376) (propDecidable _)
theorem wM {i:Int}:O8 i=true↔(-2037035976334486086268445688409378161051468393665936250636140449354381299763336706183397376 < i/\i < 2037035976334486086268445688409378161051468393665936250636140449354381299763336706183397376):=@decide_eq_true_iff _ (propDecidable _)
def O9 (x:Int):Int:=-x - 1
def YK:Int->Int->Int
 | .ofNat a,.ofNat b=>((a &&& b:Nat):Int)
 | .ofNat a,.negSucc b=>((a - (a &&& b):Nat):Int)
 | .negSucc a,.ofNat b=>((b - (b &&& a):Nat):Int)
 | .negSucc a,.negSucc b=>.negSucc (a ||| b)
def bOr (x y:Int):Int:=O9 (YK (O9 x) (O9 y))
def ad8 (i:Int):Nat:=if i=0 then 0 else i.natAbs.log2+1
def pairsOf:List D->Option (List (Int×Int))
 | []=>some []
 | .tup [.int a,.int b]::r=>(pairsOf r).map ((a,b)::·)
 | _=>none
def pLt (x y:Int×Int):Bool:=decide (x.1 < y.1\/(x.1=y.1/\x.2 < y.2))
def ad9 (x:Int×Int):List (Int×Int)->List (Int×Int)
 | []=>[x]
 | y::ys=>if pLt x y then x::y::ys else y::ad9 x ys
def ah9 (l:List (Int×Int)):List (Int×Int):=l.foldl (λacc x=>ad9 x acc) []
def ad_:List Int->Option Int
 | []=>none
 | x::r=>some (r.foldl (λa b=>if b < a then b else a) x)
def amj:List Int->Option Int
 | []=>none
 | x::r=>some (r.foldl (λa b=>if b > a then b else a) x)
def ah_ (l:List Int):List Int:=l.foldl (λacc x=>if acc.contains x then acc else acc++[x]) []
def jh (x:S):S->Bool
 | []=>x.isEmpty
 | c::r=>x.isPrefixOf (c::r) || jh x r
def aaK:List D->Option S
 | []=>some []
 | .str s::r=>(aaK r).map (s++·)
 | _=>none
def newL (xs:List D)(h:AH):Option (D×AH):=if xs.length<=lim then some (.ref h.length,h++[.lst xs]) else none
def HN (n:Nat)(xs:List D)(v:D)(h:AH):Option (D×AH):=if xs.length<=lim then some (v,h.set n (.lst xs)) else none
def iY (h:AH)(sub:Nat->Nat->Bool):KN->D->Option Bool
 | .int,.int _=>some true
 | .int,.bl _=>some true
 | .bool,.bl _=>some true
 | .str,.str _=>some true
 | .tuple,.tup _=>some true
 | .list,.fu _=>some true
 | .list,.ref n=>match h[n]? with
  | some (.lst _)=>some true
  | some (.dct _)=>some false
  | _=>none
 | _,.ref n=>match h[n]? with
  | some (.lst _)=>some false
  | some (.dct _)=>some false
  | _=>none
 | _,_=>some false
def KR:List D->AH->Option (D×AH)
 | [.int i,.int j],h=>some (.int (i+j),h)
 | [.str i,.str j],h=>if i.length+j.length<=lim then some (.str (i++j),h) else none
 | [.tup i,.tup j],h=>if i.isEmpty then some (.tup j,h) else if i.length+j.length<=lim then some (.tup (i++j),h) else none
 | [.ref a,.ref b],h=>match h[a]?,h[b]? with
  | some (.lst xs),some (.lst ys)=>newL (xs++ys) h
  | _,_=>none
 | [.ref a,.fu ys],h=>match h[a]? with
  | some (.lst xs)=>newL (xs++ys) h
  | _=>none
 | _,_=>none
def m_ (f:Int->Int->Int):List D->AH->Option (D×AH)
 | [.int i,.int j],h=>some (.int (f i j),h)
 | _,_=>none
def YL:List D->AH->Option (D×AH)
 | [.int i,.int j],h=>if Jm i || Jm j || (O8 i && O8 j) then some (.int (i * j),h) else none
 | [.ref a,.int k],h=>match h[a]? with
  | some (.lst xs)=>if okR k then newL (replicate k.toNat xs).flatten h else none
  | _=>none
 | _,_=>none
def Uz:List D->AH->Option (D×AH)
 | [.int i,.int j],h=>if 0 < j/\O8 j=true then some (.int (i / j),h) else none
 | _,_=>none
def YM:List D->AH->Option (D×AH)
 | [.int i,.int j],h=>if 0 < j then some (.int (i % j),h) else none
 | _,_=>none
def YQ:List D->AH->Option (D×AH)
 | [.int i,.int j],h=>if 0<=j/\j<=1000000/\i.natAbs < 18446744073709551616 then some (.int (i ^ j.toNat),h) else none
 | _,_=>none
def HS:List D->AH->Option (D×AH)
 | [.int i],h=>some (.int (-i),h)
 | _,_=>none
def R9 (n:Bool):List D->AH->Option (D×AH)
 | [x,y],h=>(o8 h x y).map λb=>(.bl (b != n),h)
 | _,_=>none
def Bh (f:Int->Int->Bool):List D->AH->Option (D×AH)
 | [.int i,.int j],h=>some (.bl (f i j),h)
 | _,_=>none
def KY (n:Bool):List D->AH->Option (D×AH)
 | [.non],h=>some (.bl (!n),h)
 | [_],h=>some (.bl n,h)
 | _,_=>none
def Mq (n:Bool):List D->AH->Option (D×AH)
 | [x,.tup ys],h=>(dW x ys).map λb=>(.bl (b != n),h)
 | [x,.fu ys],h=>(dW x ys).map λb=>(.bl (b != n),h)
 | [x,.ref a],h=>match h[a]? with
  | some (.lst ys)=>(dW x ys).map λb=>(.bl (b != n),h)
  | some (.dct kvs)=>(wI x).map λk=>(.bl ((Bg kvs k).isSome != n),h)
  | _=>none
 | _,_=>none
def YS (xs:List D)(h:AH):Option (D×AH):=if xs.length<=lim then some (.tup xs,h) else none
def amk:List D->AH->Option (D×AH)
 | [],h=>some (.ref h.length,h++[.dct []])
 | _,_=>none
def YT:List D->AH->Option (D×AH)
 | [.str s,.int i],h=>(bT s i).map λc=>(.str [c],h)
 | [.tup xs,.int i],h=>(bT xs i).map λv=>(v,h)
 | [.fu xs,.int i],h=>(bT xs i).map λv=>(v,h)
 | [.ref n,k],h=>match h[n]? with
  | some (.dct kvs)=>(wI k).bind λq=>(Bg kvs q).map λv=>(v,h)
  | some (.lst xs)=>match k with
   | .int i=>(bT xs i).map λv=>(v,h)
   | _=>none
  | _=>none
 | _,_=>none
def dg (x:D)(lo hi:Option Int)(h:AH):Option (D×AH):=match x with
 | .str s=>some (.str (cut s lo hi),h)
 | .tup xs=>if bG xs.length 0 lo=0/\bG xs.length xs.length hi=xs.length then none else some (.tup (cut xs lo hi),h)
 | .fu xs=>newL (cut xs lo hi) h
 | .ref n=>match h[n]? with
  | some (.lst xs)=>newL (cut xs lo hi) h
  | _=>none
 | _=>none
def aia:List D->AH->Option (D×AH)
 | [x],h=>dg x none none h
 | _,_=>none
def aml:List D->AH->Option (D×AH)
 | [x,.int i],h=>dg x (some i) none h
 | _,_=>none
def amm:List D->AH->Option (D×AH)
 | [x,.int i],h=>dg x none (some i) h
 | _,_=>none
def aib:List D->AH->Option (D×AH)
 | [x,.int i,.int j],h=>dg x (some i) (some j) h
 | _,_=>none
def YW:List D->AH->Option (D×AH)
 | [.str s],h=>some (.int s.length,h)
 | [.tup s],h=>some (.int s.length,h)
 | [.fu s],h=>some (.int s.length,h)
 | [.ref n],h=>match h[n]? with
  | some (.lst xs)=>some (.int xs.length,h)
  | some (.dct xs)=>some (.int xs.length,h)
  | _=>none
 | _,_=>none
def YX (sub:Nat->Nat->Bool)(k:KN):List D->AH->Option (D×AH)
 | [x],h=>(iY h sub k x).map λb=>(.bl b,h)
 | _,_=>none
def aic:List D->AH->Option (D×AH)
 | [x],h=>(Ux h x).bind λxs=>newL xs h
 | _,_=>none
def aea:List D->AH->Option (D×AH)
 | [x],h=>(Ux h x).map λxs=>(.tup xs,h)
 | _,_=>none
def abU:List D->AH->Option (D×AH)
 | [.ref n],h=>match h[n]? with
  | some (.lst xs)=>(strsOf xs).bind λss=>if ss.length < 64 then newL ((aaI ss).map .str) h else none
  | some (.dct kvs)=>(strsOf (kvs.map λkv=>kkD kv.1)).bind λss=>if ss.length < 64 then newL ((aaI ss).map .str) h else none
  | _=>none
 | _,_=>none
def YZ:List D->AH->Option (D×AH)
 | [.ref n],h=>match h[n]? with
  | some (.lst xs)=>(pairsOf xs).bind λps=>if ps.length < 65 then newL ((ah9 ps).map λp=>.tup [.int p.1,.int p.2]) h else none
  | _=>none
 | _,_=>none
def aie:List D->AH->Option (D×AH)
 | [.bl b],h=>some (.bl (!b),h)
 | _,_=>none
def amn:List D->AH->Option (D×AH)
 | [.int i,.int j],h=>if 0<=j/\j<=1000000/\i.natAbs < 18446744073709551616 then some (.int (i * 2 ^ j.toNat),h) else none
 | _,_=>none
def amo:List D->AH->Option (D×AH)
 | [.int i,.int j],h=>if 0<=j then some (.int (i / 2 ^ j.toNat),h) else none
 | _,_=>none
def amq:List D->AH->Option (D×AH)
 | [.int i],h=>some (.int (O9 i),h)
 | _,_=>none
def abV:List D->AH->Option (D×AH)
 | [.int i],h=>some (.int (ad8 i),h)
 | _,_=>none
def aif:List D->AH->Option (D×AH)
 | [.ref n],h=>match h[n]? with
  | some (.lst xs)=>(intsOf xs).map λis=>(.int is.sum,h)
  | _=>none
 | _,_=>none
def aaL (f:List Int->Option Int):List D->AH->Option (D×AH)
 | [.ref n],h=>match h[n]? with
  | some (.lst xs)=>(intsOf xs).bind λis=>(f is).map λi=>(.int i,h)
  | _=>none
 | _,_=>none
def aii:List D->AH->Option (D×AH)
 | [.ref n,d],h=>match h[n]? with
  | some (.lst xs)=>(intsOf xs).map λis=>(match ad_ is with | some i=>.int i | none=>d,h)
  | _=>none
 | _,_=>none
def Y0:List D->AH->Option (D×AH)
 | [.ref n],h=>match h[n]? with
  | some (.lst xs)=>(intsOf xs).bind λis=>if is.length < 200 then newL ((sortI (ah_ is)).map .int) h else none
  | _=>none
 | _,_=>none
def aij:List D->AH->Option (D×AH)
 | [.int n],h=>if okR n then newL ((List.range n.toNat).map λ(k:Nat)=>.int k) h else none
 | _,_=>none
def Jo:List D->AH->Option (D×AH)
 | [.ref n],h=>match h[n]? with
  | some (.lst xs)=>newL xs.reverse h
  | _=>none
 | _,_=>none
def gk (x:S):List S->Option Nat
 | []=>none
 | y::r=>if y=x then some 0 else (gk x r).map (·+1)
def aeb:List D->AH->Option (D×AH)
 | [.tup xs,.str x],h=>(strsOf xs).bind λss=>(gk x ss).map λi=>(.int i,h)
 | _,_=>none
def O_:List D->AH->Option (D×AH)
 | [.ref n,v],h=>match h[n]? with
  | some (.lst xs)=>HN n (xs++[v]) .non h
  | _=>none
 | _,_=>none
def pExt:List D->AH->Option (D×AH)
 | [_,.fu _],_=>none
 | [.ref n,x],h=>match h[n]?,Ux h x with
  | some (.lst xs),some ys=>HN n (xs++ys) .non h
  | _,_=>none
 | _,_=>none
def Y4:List D->AH->Option (D×AH)
 | [.ref n],h=>match h[n]? with
  | some (.lst xs)=>match xs.getLast? with
   | some v=>some (v,h.set n (.lst xs.dropLast))
   | none=>none
  | _=>none
 | _,_=>none
def aec:List D->AH->Option (D×AH)
 | [.ref n,.int i],h=>match h[n]? with
  | some (.lst xs)=>match lD xs.length i with
   | some j=>match xs[j]? with
    | some v=>some (v,h.set n (.lst (xs.eraseIdx j)))
    | none=>none
   | none=>none
  | _=>none
 | _,_=>none
def abW:List D->AH->Option (D×AH)
 | [.ref n,.int i,v],h=>match h[n]? with
  | some (.lst xs)=>if 0<=i/\i<=xs.length then HN n (xs.take i.toNat++v::xs.drop i.toNat) .non h else none
  | _=>none
 | _,_=>none
def UG:List D->AH->Option (D×AH)
 | [.str sep,.ref n],h=>match h[n]? with
  | some (.lst xs)=>(strsOf xs).bind λss=>if (ss.map λs=>s.length).sum+ss.length * sep.length<=lim then some (.str (fH sep ss),h) else none
  | _=>none
 | _,_=>none
def Pa:List D->AH->Option (D×AH)
 | [.str s,.str [c]],h=>newL ((splitOn c s).map .str) h
 | _,_=>none
def gq:List D->AH->Option (D×AH)
 | [.str s,.str p],h=>some (.bl (p.isPrefixOf s),h)
 | [.str s,.str p,.int i],h=>if 0<=i/\i<=s.length then some (.bl (p.isPrefixOf (s.drop i.toNat)),h) else none
 | _,_=>none
def lF:List D->AH->Option (D×AH)
 | [.str s,.str [c]],h=>some (.str (Z.strip c s),h)
 | _,_=>none
def UJ:List D->AH->Option (D×AH)
 | [.ref n,k,v],h=>match h[n]? with
  | some (.dct kvs)=>(wI k).bind λq=>if kvs.length < lim then some (.non,h.set n (.dct (KH kvs q v))) else none
  | some (.lst xs)=>match k with
   | .int i=>match lD xs.length i with
    | some j=>some (.non,h.set n (.lst (xs.set j v)))
    | none=>none
   | _=>none
  | _=>none
 | _,_=>none
def Ob (t:List (S×D)):List D->AH->Option (D×AH)
 | [.str k],h=>(t.lookup k).map λv=>(v,h)
 | _,_=>none
def Pb (t:List (S×D)):List D->AH->Option (D×AH)
 | [.str k],h=>some (.bl (t.lookup k).isSome,h)
 | _,_=>none
def aik (xs:List D)(h:AH):Option (D×AH):=(aaK xs).bind λs=>if s.length<=lim then some (.str s,h) else none
def pAttr (cs:List S)(f:S):List D->AH->Option (D×AH)
 | [.ref n],h=>match h[n]? with
  | some (.obj c fs)=>if c∈cs then (fs.lookup f).map λv=>(v,h) else none
  | _=>none
 | _,_=>none
def aed (f:S)(v:D):List (S×D)->List (S×D)
 | []=>[(f,v)]
 | (g,x)::r=>if g=f then (g,v)::r else (g,x)::aed f v r
def ail (cs:List S)(f:S):List D->AH->Option (D×AH)
 | [v,.ref n],h=>match h[n]? with
  | some (.obj c fs)=>if c∈cs/\fs.length < 100 then some (.non,h.set n (.obj c (aed f v fs))) else none
  | _=>none
 | _,_=>none
def sy:List D->Option (List Bool)
 | []=>some []
 | .bl s::r=>(sy r).map (s::·)
 | _=>none
def amr (yes no:List S):List D->AH->Option (D×AH)
 | [.ref n],h=>match h[n]? with
  | some (.obj c _)=>if c∈yes then some (.bl true,h) else if c∈no then some (.bl false,h) else none
  | _=>none
 | _,_=>none
def Y5 (yes no:List S):List D->AH->Option (D×AH)
 | [.ref n],h=>match h[n]? with
  | some (.exc c)=>if c∈yes then some (.bl true,h) else if c∈no then some (.bl false,h) else none
  | some (.dZ c _)=>if c∈yes then some (.bl true,h) else if c∈no then some (.bl false,h) else none
  | _=>none
 | _,_=>none
def KZ:List D->AH->Option (D×AH)
 | [.ref n,.str x],h=>match h[n]? with
  | some (.lst xs)=>(strsOf xs).bind λss=>(gk x ss).map λi=>(.int i,h)
  | _=>none
 | _,_=>none
def Ph:List D->AH->Option (D×AH)
 | [.ref n,.bl b],h=>match h[n]? with
  | some (.lst xs)=>(sy xs).map λbs=>(.int (bs.count b:Nat),h)
  | _=>none
 | [.ref n,.str x],h=>match h[n]? with
  | some (.lst xs)=>(strsOf xs).map λss=>(.int (ss.count x:Nat),h)
  | _=>none
 | _,_=>none
def K1:List D->AH->Option (D×AH)
 | [.str s,.str [c]],h=>some (.int (s.count c:Nat),h)
 | _,_=>none
def ams:List D->AH->Option (D×AH)
 | [.ref n],h=>match h[n]? with
  | some (.lst xs)=>(sy xs).map λbs=>(.bl (bs.all id),h)
  | _=>none
 | _,_=>none
def ain:List D->AH->Option (D×AH)
 | [.bl b],h=>some (.int (if b then 1 else 0),h)
 | _,_=>none
def UL:List D->AH->Option (D×AH)
 | [.str s,.int k],h=>if okR k && decide (s.length * k.toNat<=lim) then some (.str (replicate k.toNat s).flatten,h) else none
 | _,_=>none
def UW (cs:List S):List D->AH->Option (D×AH)
 | [.ref n],h=>match h[n]? with
  | some (.dZ c i)=>if c∈cs then some (.int i,h) else none
  | _=>none
 | _,_=>none
def K3:List D->AH->Option (D×AH)
 | [.str x,.str y],h=>some (.bl (jh x y),h)
 | _,_=>none
def Fw:List D->AH->Option (D×AH)
 | [.str x,.str y],h=>some (.bl (!jh x y),h)
 | _,_=>none
def prim (sub:Nat->Nat->Bool):Prim->List D->AH->Option (D×AH)
 | .add=>KR
 | .sub=>m_ (·- ·)
 | .mul=>YL
 | .fdiv=>Uz
 | .mod=>YM
 | .pow=>YQ
 | .neg=>HS
 | .shl=>amn
 | .shr=>amo
 | .band=>m_ YK
 | .bor=>m_ bOr
 | .inv=>amq
 | .Wj=>abV
 | .ad7=>aie
 | .amg=>aif
 | .min1=>aaL ad_
 | .amh=>aaL amj
 | .minD=>aii
 | .abS=>Y0
 | .abT=>YZ
 | .ami=>aij
 | .HJ=>Jo
 | .index=>aeb
 | .eq=>R9 false
 | .ne=>R9 true
 | .lt=>Bh λi j=>decide (i < j)
 | .le=>Bh λi j=>decide (i<=j)
 | .gt=>Bh λi j=>decide (j < i)
 | .ge=>Bh λi j=>decide (j<=i)
 | .rZ=>KY false
 | .YJ=>KY true
 | .GQ=>Mq false
 | .lE=>Mq true
 | .dj=>YS
 | .bA=>newL
 | .aaJ=>amk
 | .idx=>YT
 | .amd=>aia
 | .uQ=>aml
 | .Mp=>amm
 | .ame=>aib
 | .len=>YW
 | .fV k=>YX sub k
 | .max2=>m_ λi j=>if j > i then j else i
 | .min2=>m_ λi j=>if j < i then j else i
 | .ah7=>aic
 | .ad6=>aea
 | .abR=>abU
 | .append=>O_
 | .extend=>pExt
 | .pop=>Y4
 | .ah8=>aec
 | .insert=>abW
 | .join=>UG
 | .split=>Pa
 | .R7=>gq
 | .uR=>gq
 | .strip=>lF
 | .fB=>UJ
 | .j5 t=>Ob t
 | .su t=>Pb t
 | .amf=>aik
 | .attr cs f=>pAttr cs f
 | .setattr cs f=>ail cs f
 | .isC ys ns=>amr ys ns
 | .GR ys ns=>Y5 ys ns
 | .Jk=>KZ
 | .count=>Ph
 | .Jl=>K1
 | .all1=>ams
 | .int_=>ain
 | .GX=>K3
 | .Uy cs=>UW cs
 | .wK=>UL
 | .KJ=>Fw
 | _=>λ_ _=>none
inductive IK | val | rng | rev | enum | zip | chr
 deriving DecidableEq
inductive MK | list | str | dict | int | tuple
 deriving DecidableEq
def tyB (h:AH):MK->D->Bool
 | .list,.fu _=>true
 | .list,.ref n=>match h[n]? with
  | some (.lst _)=>true
  | _=>false
 | .dict,.ref n=>match h[n]? with
  | some (.dct _)=>true
  | _=>false
 | .str,.str _=>true
 | .int,.int _=>true
 | .tuple,.tup _=>true
 | _,_=>false
mutual
inductive Ex
 | var (i:Nat) | lit (d:D) | prim (p:Prim) (es:dH)
 | HW (a b:Ex) | orV (a b:Ex) | tst (t:Tx) | ite (c:Tx) (a b:Ex)
 | chain (p q:Prim) (a b c:Ex) | slc (a b c:Ex)
 | cQ (k:MK) (p:Prim) (o:Ex) (es:dH)
 | call (f:Nat) (es:dH) (ds:List D)
 | comp (k:IK) (src:dH) (nt:Nat) (cond:GZ) (elt:Ex)
 | make (c:S) (f:Nat) (es:dH) | meth (m:S) (tab:List (S×Nat)) (o:Ex) (es:dH) | srt (e:Ex)
 | wN (f:Nat) (es:dH) | sset (e:Ex) | mkE (c:S) (e:Ex)
inductive dH
 | nil | cons (e:Ex) (es:dH)
inductive Tx
 | aR (e:Ex) | and (a b:Tx) | or (a b:Tx) | not (a:Tx)
inductive GZ
 | none | one (t:Tx)
end
inductive CC
 | call (f:Nat) (es:dH) (ds:List D) | ite (t:Tx) (a b:CC)
mutual
inductive Sm
 | expr (e:Ex) | asg (i:Nat) (e:Ex) | Wk (is:List Nat) (e:Ex) | fB (o i v:Ex)
 | aug (i:Nat) (p:Prim) (e:Ex) | ret (e:Ex) | Y6 | bI (c:Tx) (a b:ao)
 | Bj (c:Tx) (b:ao) | d9 (tg:List Nat) (k:IK) (src:dH) (b:ao)
 | brk | cnt | pass | aef (c:Nat) (es:dH) | aaM (c:S) | aeg (i f:Nat) (es:dH) (c:S) (j:Nat) (hs:ao)
 | aeh (t:Tx) (i:Nat) (m1:S) (Y7:List (S×Nat)) (o1:Ex) (es1:dH) (m2:S) (Y8:List (S×Nat)) (o2:Ex) (es2:dH) (c:S) (j:Nat) (hs:ao)
 | sE (c:S) (e:Ex) | Pj (i:Nat) (cc:CC) (cs:List S) (j:Nat) (hs:ao)
inductive ao
 | nil | cons (s:Sm) (ss:ao)
end
noncomputable abbrev PV:=D->AH->Prop
noncomputable abbrev PX:=D->AH->Prop
noncomputable abbrev dB:=Nat->List D->AH->PV->PX->Prop
def amt:D->Bool
 | .tup [.int _,.int _]=>true
 | _=>false
def EF (_:PX):PX:=λ_ _=>False
noncomputable abbrev It:=Nat->AH->Option (Option D)
def iu (n:Nat):It:=λi h=>match h[n]? with
 | some (.lst xs)=>some xs[i]?
 | _=>none
def qp (xs:List D):It:=λi _=>some xs[i]?
def ji (lo:Int)(n:Nat):It:=λi _=>some (if i < n then some (.int (lo+i)) else none)
def abX (xs:List D):It:=λi _=>some (xs[i]?.map λx=>.tup [.int i,x])
def Jp (n len:Nat):It:=λi h=>match h[n]? with
 | some (.lst xs)=>if xs.length=len then some (if i < len then xs[len - 1 - i]? else none) else none
 | _=>none
def aaN (xs ys:List D):It:=λi _=>match xs[i]?,ys[i]? with
 | some x,some y=>some (some (.tup [x,y]))
 | _,_=>some none
def aei (xs:List D)(n:Nat):It:=λi h=>match h[n]? with
 | some (.lst ys)=>aaN xs ys i h
 | _=>none
def uT (lo st:Int)(n:Nat):It:=λi _=>some (if i < n then some (.int (lo+st * i)) else none)
def iZ:List D->AH->Option It
 | [.ref n],h=>match h[n]? with
  | some (.lst _)=>some (iu n)
  | _=>none
 | [.tup xs],_=>some (qp xs)
 | [.fu xs],_=>some (qp xs)
 | _,_=>none
def ioC:List D->AH->Option It
 | [.str s],_=>some (qp (s.map λc=>.str [c]))
 | _,_=>none
def iR:List D->AH->Option It
 | [.int n],_=>if okR n then some (ji 0 n.toNat) else none
 | [.int a,.int b],_=>if okR a && okR b then some (ji a (b - a).toNat) else none
 | [.int a,.int b,.int c],_=>if R8 a b c then some (uT a c (if a < b then ((b - a - 1) / c+1).toNat else 0)) else none
 | _,_=>none
def i_:List D->AH->Option It
 | [.tup xs],_=>some (abX xs)
 | _,_=>none
def jc:List D->AH->Option It
 | [.tup xs,.tup ys],_=>some (aaN xs ys)
 | [.tup xs,.ref n],h=>match h[n]? with
  | some (.lst _)=>some (aei xs n)
  | _=>none
 | _,_=>none
def iw:List D->AH->Option It
 | [.ref n],h=>match h[n]? with
  | some (.lst xs)=>some (Jp n xs.length)
  | _=>none
 | _,_=>none
def bM:IK->List D->AH->Option It
 | .val=>iZ
 | .rng=>iR
 | .enum=>i_
 | .zip=>jc
 | .rev=>iw
 | .chr=>ioC
structure En where
 nx:Lo->AH->Prop
 rt:PV
 bk:Lo->AH->Prop:=λ_ _=>False
 ct:Lo->AH->Prop:=λ_ _=>False
def jP:List Nat->D->Lo->Option Lo
 | [i],v,σ=>some (σ.set i (some v))
 | is,.tup vs,σ=>if is.length=vs.length then some ((is.zip vs).foldl (λσ p=>σ.set p.1 (some p.2)) σ) else none
 | _,_,_=>none
def wO:Nat->D->Lo->Option Lo
 | 1,v,σ=>some (σ++[some v])
 | n,.tup vs,σ=>if vs.length=n then some (σ++vs.map some) else none
 | _,_,_=>none
section
variable (sub:Nat->Nat->Bool)(Γ:dB)(E:PX)
mutual
noncomputable def aL:Ex->Lo->AH->PV->Prop
 | .var i,σ,h,Q=>match σ[i]? with
  | some (some v)=>Q v h
  | _=>False
 | .lit d,_,h,Q=>Q d h
 | .prim p es,σ,h,Q=>bB es σ h λvs h1=>match prim sub p vs h1 with
  | some (v,h2)=>Q v h2
  | none=>False
 | .HW a b,σ,h,Q=>aL a σ h λx h1=>match x with
  | .bl true=>aL b σ h1 Q
  | .bl false=>Q (.bl false) h1
  | _=>False
 | .orV a b,σ,h,Q=>aL a σ h λx h1=>match x with
  | .bl true=>Q (.bl true) h1
  | .bl false=>aL b σ h1 Q
  | _=>False
 | .tst t,σ,h,Q=>cR t σ h λc h1=>Q (.bl c) h1
 | .ite c a b,σ,h,Q=>cR c σ h λk h1=>if k=true then aL a σ h1 Q else aL b σ h1 Q
 | .chain p q a b c,σ,h,Q=>aL a σ h λx h1=>aL b σ h1 λy h2=>match prim sub p [x,y] h2 with
  | some (.bl true,h3)=>aL c σ h3 λz h4=>match prim sub q [y,z] h4 with
   | some (v,h5)=>Q v h5
   | none=>False
  | some (.bl false,h3)=>Q (.bl false) h3
  | _=>False
 | .slc a b c,σ,h,Q=>aL a σ h λx h1=>aL b σ h1 λy h2=>match y with
  | .int i=>aL c σ h2 λz h3=>match z with
   | .int j=>match dg x (some i) (some j) h3 with
    | some (v,h4)=>Q v h4
    | none=>False
   | _=>False
  | _=>False
 | .cQ k p o es,σ,h,Q=>aL o σ h λx h1=>tyB h1 k x=true/\bB es σ h1 λvs h2=>match prim sub p (x::vs) h2 with
  | some (v,h3)=>Q v h3
  | none=>False
 | .call f es ds,σ,h,Q=>bB es σ h λvs h1=>Γ f (vs++ds) h1 Q (EF E)
 | .comp k src nt cond elt,σ,h,Q=>bB src σ h λvs h1=>match bM k vs h1 with
  | none=>False
  | some J=>∃W:Nat->Nat->AH->Prop,(∃m,W 0 m (h1++[.lst []]))/\∀i m h,W i m h->match J i h with
   | none=>False
   | some none=>Q (.ref h1.length) h
   | some (some v)=>match wO nt v σ with
    | none=>False
    | some σ'=>∃N:AH->Prop,(∀h',N h'->∃m',m' < m/\W (i+1) m' h')/\lG cond σ' h λc h2=>if c=true then aL elt σ' h2 λx h3=>match prim sub .append [.ref h1.length,x] h3 with
      | some (_,h4)=>N h4
      | none=>False
     else N h2
 | .make c f es,σ,h,Q=>bB es σ h λvs h1=>Γ f (.ref h1.length::vs) (h1++[.obj c []]) (λv h2=>v=.non/\Q (.ref h1.length) h2) (EF E)
 | .meth m tab o es,σ,h,Q=>aL o σ h λx h1=>match x with
  | .ref n=>match h1[n]? with
   | some (.obj c fs)=>fs.lookup m=none/\match tab.lookup c with
    | some f=>bB es σ h1 λvs h2=>Γ f (x::vs) h2 Q (EF E)
    | none=>False
   | _=>False
  | _=>False
 | .srt e,σ,h,Q=>aL e σ h λx h1=>match x with
  | .ref n=>match h1[n]? with
   | some (.lst zs)=>zs.all amt=true/\zs.length<=64/\∀ys:List D,ys.Perm zs->Q (.ref h1.length) (h1++[.lst ys])
   | _=>False
  | _=>False
 | .wN f es,σ,h,Q=>bB es σ h λvs h1=>Γ f vs h1 Q E
 | .sset e,σ,h,Q=>aL e σ h λx h1=>match x with
  | .ref n=>match h1[n]? with
   | some (.lst zs)=>match intsOf zs with
    | some is=>is.length < 64/\∀js:List Int,js.Nodup->(∀j∈js,j∈is)->Q (.ref h1.length) (h1++[.lst (js.map .int)])
    | none=>False
   | _=>False
  | _=>False
 | .mkE c e,σ,h,Q=>aL e σ h λx h1=>match x with
  | .int i=>Q (.ref h1.length) (h1++[.dZ c i])
  | _=>False
noncomputable def bB:dH->Lo->AH->(List D->AH->Prop)->Prop
 | .nil,_,h,Q=>Q [] h
 | .cons e es,σ,h,Q=>aL e σ h λv h1=>bB es σ h1 λvs h2=>Q (v::vs) h2
noncomputable def cR:Tx->Lo->AH->(Bool->AH->Prop)->Prop
 | .aR e,σ,h,Q=>aL e σ h λv h1=>match truthy h1 v with
  | some c=>Q c h1
  | none=>False
 | .and a b,σ,h,Q=>cR a σ h λc h1=>if c=true then cR b σ h1 Q else Q false h1
 | .or a b,σ,h,Q=>cR a σ h λc h1=>if c=true then Q true h1 else cR b σ h1 Q
 | .not a,σ,h,Q=>cR a σ h λc h1=>Q (!c) h1
noncomputable def lG:GZ->Lo->AH->(Bool->AH->Prop)->Prop
 | .none,_,h,Q=>Q true h
 | .one t,σ,h,Q=>cR t σ h Q
end
def Wm (m:S)(tab:List (S×Nat))(o:Ex)(es:dH)(σ:Lo)(h:AH)(Q:PV)(E':PX):Prop:=aL sub Γ E o σ h λx h1=>match x with
 | .ref n=>match h1[n]? with
  | some (.obj c fs)=>fs.lookup m=none/\match tab.lookup c with
   | some f=>bB sub Γ E es σ h1 λvs h2=>Γ f (x::vs) h2 Q E'
   | none=>False
  | _=>False
 | _=>False
def gW:CC->Lo->AH->PV->PX->Prop
 | .call f es ds,σ,h,Q,F=>bB sub Γ E es σ h λvs h1=>Γ f (vs++ds) h1 Q F
 | .ite t a b,σ,h,Q,F=>cR sub Γ E t σ h λk h1=>if k=true then gW a σ h1 Q F else gW b σ h1 Q F
mutual
noncomputable def wpS:Sm->En->Lo->AH->Prop
 | .expr e,K,σ,h=>aL sub Γ E e σ h λ_ h1=>K.nx σ h1
 | .asg i e,K,σ,h=>aL sub Γ E e σ h λv h1=>K.nx (σ.set i (some v)) h1
 | .Wk is e,K,σ,h=>aL sub Γ E e σ h λv h1=>match jP is v σ with
  | some σ'=>K.nx σ' h1
  | none=>False
 | .fB o i v,K,σ,h=>aL sub Γ E v σ h λx h1=>aL sub Γ E o σ h1 λy h2=>aL sub Γ E i σ h2 λz h3=>match prim sub .fB [y,z,x] h3 with
  | some (_,h4)=>K.nx σ h4
  | none=>False
 | .aug i p e,K,σ,h=>match σ[i]? with
  | some (some x)=>aL sub Γ E e σ h λy h1=>match prim sub p [x,y] h1 with
   | some (z,h2)=>K.nx (σ.set i (some z)) h2
   | none=>False
  | _=>False
 | .ret e,K,σ,h=>aL sub Γ E e σ h K.rt
 | .Y6,K,_,h=>K.rt .non h
 | .bI c a b,K,σ,h=>cR sub Γ E c σ h λk h1=>if k=true then bw a K σ h1 else bw b K σ h1
 | .Bj c b,K,σ,h=>∃W:Nat->Lo->AH->Prop,(∃m,W m σ h)/\∀m σ h,W m σ h->
   cR sub Γ E c σ h λk h1=>if k=true then ∃N:Lo->AH->Prop,(∀σ' h',N σ' h'->∃m',m' < m/\W m' σ' h')/\bw b {nx:=N,rt:=K.rt,bk:=K.nx,ct:=N} σ h1 else K.nx σ h1
 | .d9 tg k src b,K,σ,h=>bB sub Γ E src σ h λvs h1=>match bM k vs h1 with
  | none=>False
  | some J=>∃W:Nat->Nat->Lo->AH->Prop,(∃m,W 0 m σ h1)/\∀i m σ h,W i m σ h->match J i h with
   | none=>False
   | some none=>K.nx σ h
   | some (some v)=>match jP tg v σ with
    | none=>False
    | some σ'=>∃N:Lo->AH->Prop,(∀σ' h',N σ' h'->∃m',m' < m/\W (i+1) m' σ' h')/\bw b {nx:=N,rt:=K.rt,bk:=K.nx,ct:=N} σ' h
 | .brk,K,σ,h=>K.bk σ h
 | .cnt,K,σ,h=>K.ct σ h
 | .pass,K,σ,h=>K.nx σ h
 | .aef _ _,_,_,_=>False
 | .aaM c,_,_,h=>E (.str c) h
 | .aeg i f es c j hs,K,σ,h=>bB sub Γ E es σ h λvs h1=>Γ f vs h1 (λv h2=>K.nx (σ.set i (some v)) h2) λx h2=>x=.str c/\bw hs {nx:=λσ' h'=>K.nx (σ'.set j none) h',rt:=K.rt,bk:=λσ' h'=>K.bk (σ'.set j none) h',ct:=λσ' h'=>K.ct (σ'.set j none) h'} (σ.set j (some (.ref h2.length))) (h2++[.exc c])
 | .aeh t i m1 Y7 o1 es1 m2 Y8 o2 es2 c j hs,K,σ,h=>cR sub Γ E t σ h λk h1=>
   (if k=true then Wm sub Γ E m1 Y7 o1 es1 σ h1 else Wm sub Γ E m2 Y8 o2 es2 σ h1) (λv h2=>K.nx (σ.set i (some v)) h2)
    λx h2=>x=.str c/\bw hs {nx:=λσ' h'=>K.nx (σ'.set j none) h',rt:=K.rt,bk:=λσ' h'=>K.bk (σ'.set j none) h',ct:=λσ' h'=>K.ct (σ'.set j none) h'} (σ.set j (some (.ref h2.length))) (h2++[.exc c])
 | .sE c e,_,σ,h=>aL sub Γ E e σ h λx h1=>match x with
  | .int i=>E (.tup [.str c,.int i]) h1
  | _=>False
 | .Pj i cc cs j hs,K,σ,h=>gW sub Γ E cc σ h (λv h2=>K.nx (σ.set i (some v)) h2)
   λx h2=>∃c r,x=.tup [.str c,.int r]/\c∈cs/\bw hs {nx:=λσ' h'=>K.nx (σ'.set j none) h',rt:=K.rt,bk:=λσ' h'=>K.bk (σ'.set j none) h',ct:=λσ' h'=>K.ct (σ'.set j none) h'} (σ.set j (some (.ref h2.length))) (h2++[.dZ c r])
noncomputable def bw:ao->En->Lo->AH->Prop
 | .nil,K,σ,h=>K.nx σ h
 | .cons s ss,K,σ,h=>wpS s {K with nx:=λσ' h'=>bw ss K σ' h'} σ h
end
end
structure Def where
 np:Nat
 nl:Nat
 body:ao
def au (sub:Nat->Nat->Bool)(P:List Def):Nat->dB
 | 0,_,_,_,_,_=>False
 | d+1,f,vs,h,Q,E=>match P[f]? with
  | some df=>vs.length=df.np/\bw sub (au sub P d) E df.body {nx:=λ_ h=>Q .non h,rt:=Q} (vs.map some++replicate (df.nl - df.np) none) h
  | none=>False
section
variable {sub:Nat->Nat->Bool}
theorem qu {t}:prim sub (.su t)=Pb t:=rfl
theorem R_ {t}:prim sub (.j5 t)=Ob t:=rfl
theorem Pk:prim sub .neg=HS:=rfl
theorem Bk:prim sub .add=KR:=rfl
theorem gY:prim sub .R7=gq:=rfl
theorem gZ:prim sub .uR=gq:=rfl
theorem j6:prim sub .strip=lF:=rfl
theorem Bl:prim sub .GX=K3:=rfl
theorem Fy:prim sub .KJ=Fw:=rfl
theorem Pn:prim sub .sub=m_ (·- ·):=rfl
end
section
variable {sub:Nat->Nat->Bool}{Γ:dB}{E:PX}
section
variable {h:AH}{i j:Int}{s t:S}{x y v:D}{xs ys:List D}{a b n:Nat}{p q:Bool}
theorem aej:prim sub .add [.int i,.int j] h=some (.int (i+j),h):=rfl
theorem iy (ha:h[a]?=some (.lst xs))(hb:h[b]?=some (.lst ys))(hl:(xs++ys).length<=16777216):prim sub .add [.ref a,.ref b] h=some (.ref h.length,h++[.lst (xs++ys)]):=by
 show (match h[a]?,h[b]? with | some (.lst xs),some (.lst ys)=>newL (xs++ys) h | _,_=>none)=_;rw[ha,hb];exact if_pos hl
theorem aek:prim sub .sub [.int i,.int j] h=some (.int (i - j),h):=rfl
theorem Mr (hj:-18446744073709551616 < j/\j < 18446744073709551616):Jm j=true:=wL.mpr hj
theorem Wn (hj:-18446744073709551616 < j/\j < 18446744073709551616):prim sub .mul [.int i,.int j] h=some (.int (i * j),h):=if_pos (by rw[Mr hj,Bool.or_true,Bool.true_or])
theorem Sd (hj:-18446744073709551616 < i/\i < 18446744073709551616):prim sub .mul [.int i,.int j] h=some (.int (i * j),h):=if_pos (by rw[Mr hj,Bool.true_or,Bool.true_or])
theorem abY (hj:-2037035976334486086268445688409378161051468393665936250636140449354381299763336706183397376 < j/\j < 2037035976334486086268445688409378161051468393665936250636140449354381299763336706183397376):O8 j=true:=wM.mpr hj
theorem ael (h0:0 < j/\j < 1073741824):prim sub .fdiv [.int i,.int j] h=some (.int (i / j),h):=if_pos ⟨h0.1,abY (by lia)⟩
theorem pQ (h0:0 < j):prim sub .mod [.int i,.int j] h=some (.int (i % j),h):=if_pos h0
theorem aio:prim sub .neg [.int i] h=some (.int (-i),h):=rfl
theorem amu:prim sub .lt [.int i,.int j] h=some (.bl (decide (i < j)),h):=rfl
theorem amv:prim sub .le [.int i,.int j] h=some (.bl (decide (i<=j)),h):=rfl
theorem amw:prim sub .gt [.int i,.int j] h=some (.bl (decide (j < i)),h):=rfl
theorem amx:prim sub .ge [.int i,.int j] h=some (.bl (decide (j<=i)),h):=rfl
theorem dM (ha:h[a]?=some (.lst xs))(hl:xs.length < 16777216):prim sub .append [.ref a,v] h=some (.non,h.set a (.lst (xs++[v]))):=by
 show (match h[a]? with | some (.lst xs)=>HN a (xs++[v]) .non h | _=>none)=_;rw[ha];exact if_pos (by simp[lim];lia)
theorem gw (ha:h[a]?=some (.lst xs)):prim sub .len [.ref a] h=some (.int xs.length,h):=by
 show (match h[a]? with | some (.lst xs)=>_ | some (.dct xs)=>_ | _=>none)=_;rw[ha]
end
theorem jG {K:En}{xs:List D}(Pv:Nat->Lo->AH->Prop)(he:∀Q:List D->AH->Prop,Q vs h1->bB sub Γ E src σ h Q)(hi:bM k vs h1=some J)(h0:Pv 0 σ h1)(hJ:∀i σ h,i<=xs.length->Pv i σ h->J i h=some xs[i]?)(hs:∀i v σ h,xs[i]?=some v->Pv i σ h->∃σ',jP tg v σ=some σ'/\bw sub Γ E b {nx:=Pv (i+1),rt:=K.rt,bk:=K.nx,ct:=Pv (i+1)} σ' h)(hd:∀σ h,Pv xs.length σ h->K.nx σ h):wpS sub Γ E (.d9 tg k src b) K σ h:=by
 simp only[wpS];refine he _ ?_;simp only[hi];refine ⟨λi m σ h=>m=xs.length - i/\i<=xs.length/\Pv i σ h,⟨xs.length,by simp,zero_le _,h0⟩,?_⟩;rintro i m σ h ⟨rfl,hin,p⟩;rw[hJ i σ h hin p];cases e:xs[i]? with
 | some v=>
  have hlt:i < xs.length:=(List.getElem?_eq_some_iff.mp e).1;obtain ⟨σ',eb,w⟩:=hs i v σ h e p;simp only[eb];exact ⟨_,λσ h p=>⟨xs.length - (i+1),by lia,rfl,hlt,p⟩,w⟩
 | none=>
  have:i=xs.length:=by have:=List.getElem?_eq_none_iff.mp e;lia
  subst this;exact hd σ h p
theorem lH {K:En}(Pv:Nat->Lo->AH->Prop)(he:∀Q:List D->AH->Prop,Q vs h1->bB sub Γ E src σ h Q)(hi:bM .rng vs h1=some (ji lo n))(h0:Pv 0 σ h1)(hs:∀i σ h,i < n->Pv i σ h->∃σ',jP tg (.int (lo+i)) σ=some σ'/\bw sub Γ E b {nx:=Pv (i+1),rt:=K.rt,bk:=K.nx,ct:=Pv (i+1)} σ' h)(hd:∀σ h,Pv n σ h->K.nx σ h):wpS sub Γ E (.d9 tg .rng src b) K σ h:=by
 refine jG (xs:=(List.range n).map λi=>.int (lo+(i:Nat))) (J:=ji lo n) Pv he hi h0 ?_ ?_ ?_
 ·intro i σ h hin p;simp only[length_map,length_range]at hin;unfold ji;by_cases hlt:i < n
  ·rw[if_pos hlt,getElem?_map,getElem?_range hlt];rfl
  ·rw[if_neg hlt,getElem?_eq_none (by simp;lia)]
 ·intro i v σ h e p;have hlt:i < n:=by have:=(List.getElem?_eq_some_iff.mp e).1;simpa using this
  rw[getElem?_map,getElem?_range hlt]at e;cases e;exact hs i σ h hlt p
 ·intro σ h p;simp only[length_map,length_range]at p;exact hd σ h p
theorem Y9 (Pv:Nat->Lo->AH->Prop)(h0:Pv m σ h)(hs:∀m σ h,Pv m σ h->cR sub Γ E c σ h λk h1=>if k=true then bw sub Γ E b {nx:=λσ' h'=>∃m',m' < m/\Pv m' σ' h',rt:=K.rt,bk:=K.nx,ct:=λσ' h'=>∃m',m' < m/\Pv m' σ' h'} σ h1 else K.nx σ h1)(mono:∀σ h Q Q',(∀b h1,Q b h1->Q' b h1)->cR sub Γ E c σ h Q->cR sub Γ E c σ h Q'):wpS sub Γ E (.Bj c b) K σ h:=by
 simp only[wpS];refine ⟨Pv,⟨m,h0⟩,λm σ h p=>mono _ _ _ _ (λc h1 q=>?_) (hs m σ h p)⟩;cases c with
 | true=>rw[if_pos rfl]at q ⊢;exact ⟨_,λ_ _ p=>p,q⟩
 | false=>exact q
end
def nd (a b:S):Prop:=¬b < a
section
variable {sub:Nat->Nat->Bool}{Γ:dB}{E E':PX}
def pR (Γ:dB):Prop:=∀f vs h (Q Q':PV) (E E':PX),(∀v h',Q v h'->Q' v h')->(∀v h',E v h'->E' v h')->Γ f vs h Q E->Γ f vs h Q' E'
mutual
theorem bD (hΓ:pR Γ)(hE:∀x h,E x h->E' x h):∀(e:Ex) (σ:Lo) (h:AH) (Q Q':PV),(∀v h',Q v h'->Q' v h')->aL sub Γ E e σ h Q->aL sub Γ E' e σ h Q'
 | .var i,σ,h,Q,Q',m,w=>by
  simp only[aL]at w ⊢;split at w
  ·rename_i v e;exact m _ _ w
  ·exact w.elim
 | .lit d,σ,h,Q,Q',m,w=>by simp only[aL]at w ⊢;exact m _ _ w
 | .prim p es,σ,h,Q,Q',m,w=>by
  simp only[aL]at w ⊢;refine dI hΓ hE es σ h _ _ (λvs h1 q=>?_) w;split at q
  ·rename_i e;exact m _ _ q
  ·exact q.elim
 | .HW a b,σ,h,Q,Q',m,w=>by
  simp only[aL]at w ⊢;refine bD hΓ hE a σ h _ _ (λx h1 q=>?_) w;split at q
  ·exact bD hΓ hE b σ h1 _ _ m q
  ·exact m _ _ q
  ·exact q.elim
 | .orV a b,σ,h,Q,Q',m,w=>by
  simp only[aL]at w ⊢;refine bD hΓ hE a σ h _ _ (λx h1 q=>?_) w;split at q
  ·exact m _ _ q
  ·exact bD hΓ hE b σ h1 _ _ m q
  ·exact q.elim
 | .tst t,σ,h,Q,Q',m,w=>by
  simp only[aL]at w ⊢;exact dR hΓ hE t σ h _ _ (λc h1 q=>m _ _ q) w
 | .ite c a b,σ,h,Q,Q',m,w=>by
  simp only[aL]at w ⊢;refine dR hΓ hE c σ h _ _ (λk h1 q=>?_) w;cases k
  ·exact bD hΓ hE b σ h1 _ _ m q
  ·exact bD hΓ hE a σ h1 _ _ m q
 | .chain p q a b c,σ,h,Q,Q',m,w=>by
  simp only[aL]at w ⊢;refine bD hΓ hE a σ h _ _ (λx h1 q1=>bD hΓ hE b σ h1 _ _ (λy h2 q2=>?_) q1) w;split at q2
  ·rename_i e;refine bD hΓ hE c σ _ _ _ (λz h4 q4=>?_) q2;split at q4
   ·rename_i e;exact m _ _ q4
   ·exact q4.elim
  ·rename_i e;exact m _ _ q2
  ·exact q2.elim
 | .slc a b c,σ,h,Q,Q',m,w=>by
  simp only[aL]at w ⊢;refine bD hΓ hE a σ h _ _ (λx h1 q1=>bD hΓ hE b σ h1 _ _ (λy h2 q2=>?_) q1) w;split at q2
  ·refine bD hΓ hE c σ _ _ _ (λz h4 q4=>?_) q2;split at q4
   ·split at q4
    ·rename_i e;exact m _ _ q4
    ·exact q4.elim
   ·exact q4.elim
  ·exact q2.elim
 | .cQ k p o es,σ,h,Q,Q',m,w=>by
  simp only[aL]at w ⊢;refine bD hΓ hE o σ h _ _ (λx h1 q1=>⟨q1.1,dI hΓ hE es σ h1 _ _ (λvs h2 q=>?_) q1.2⟩) w;split at q
  ·rename_i e;exact m _ _ q
  ·exact q.elim
 | .call f es ds,σ,h,Q,Q',m,w=>by
  simp only[aL]at w ⊢;exact dI hΓ hE es σ h _ _ (λvs h1 q=>hΓ _ _ _ _ _ _ _ m (λ_ _ z=>z) q) w
 | .comp k src nt cond elt,σ,h,Q,Q',m,w=>by
  simp only[aL]at w ⊢;refine dI hΓ hE src σ h _ _ (λvs h1 q=>?_) w;split at q
  ·exact q.elim
  ·rename_i J e;obtain ⟨W,hW,t⟩:=q;refine ⟨W,hW,λi n h2 w2=>?_⟩;have t:=t i n h2 w2;split at t
   ·exact t.elim
   ·exact m _ _ t
   ·split at t
    ·exact t.elim
    ·obtain ⟨N,hN,t⟩:=t;refine ⟨N,hN,Pq hΓ hE cond _ _ _ _ (λc h3 q=>?_) t⟩;cases c
     ·exact q
     ·exact bD hΓ hE elt _ _ _ _ (λx h4 q=>q) q
 | .make c f es,σ,h,Q,Q',m,w=>by
  simp only[aL]at w ⊢;exact dI hΓ hE es σ h _ _ (λvs h1 q=>hΓ _ _ _ _ _ _ _ (λv h2 z=>⟨z.1,m _ _ z.2⟩) (λ_ _ z=>z) q) w
 | .meth n tab o es,σ,h,Q,Q',m,w=>by
  simp only[aL]at w ⊢;refine bD hΓ hE o σ h _ _ (λx h1 q=>?_) w;split at q
  ·split at q
   ·refine ⟨q.1,?_⟩;have q:=q.2;split at q
    ·exact dI hΓ hE es σ h1 _ _ (λvs h2 z=>hΓ _ _ _ _ _ _ _ m (λ_ _ z=>z) z) q
    ·exact q.elim
   ·exact q.elim
  ·exact q.elim
 | .srt e,σ,h,Q,Q',m,w=>by
  simp only[aL]at w ⊢;refine bD hΓ hE e σ h _ _ (λx h1 q=>?_) w;split at q
  ·split at q
   ·exact ⟨q.1,q.2.1,λys hp=>m _ _ (q.2.2 ys hp)⟩
   ·exact q.elim
  ·exact q.elim
 | .wN f es,σ,h,Q,Q',m,w=>by
  simp only[aL]at w ⊢;exact dI hΓ hE es σ h _ _ (λvs h1 q=>hΓ _ _ _ _ _ _ _ m hE q) w
 | .sset e,σ,h,Q,Q',m,w=>by
  simp only[aL]at w ⊢;refine bD hΓ hE e σ h _ _ (λx h1 q=>?_) w;split at q
  ·split at q
   ·split at q
    ·exact ⟨q.1,λjs h1 h2=>m _ _ (q.2 js h1 h2)⟩
    ·exact q.elim
   ·exact q.elim
  ·exact q.elim
 | .mkE c e,σ,h,Q,Q',m,w=>by
  simp only[aL]at w ⊢;refine bD hΓ hE e σ h _ _ (λx h1 q=>?_) w;split at q
  ·exact m _ _ q
  ·exact q.elim
theorem dI (hΓ:pR Γ)(hE:∀x h,E x h->E' x h):∀(es:dH) (σ:Lo) (h:AH) (Q Q':List D->AH->Prop),(∀v h',Q v h'->Q' v h')->bB sub Γ E es σ h Q->bB sub Γ E' es σ h Q'
 | .nil,σ,h,Q,Q',m,w=>by simp only[bB]at w ⊢;exact m _ _ w
 | .cons e es,σ,h,Q,Q',m,w=>by
  simp only[bB]at w ⊢;exact bD hΓ hE e σ h _ _ (λv h1 q=>dI hΓ hE es σ h1 _ _ (λvs h2 q2=>m _ _ q2) q) w
theorem dR (hΓ:pR Γ)(hE:∀x h,E x h->E' x h):∀(t:Tx) (σ:Lo) (h:AH) (Q Q':Bool->AH->Prop),(∀v h',Q v h'->Q' v h')->cR sub Γ E t σ h Q->cR sub Γ E' t σ h Q'
 | .aR e,σ,h,Q,Q',m,w=>by
  simp only[cR]at w ⊢;refine bD hΓ hE e σ h _ _ (λv h1 q=>?_) w;split at q
  ·rename_i e;exact m _ _ q
  ·exact q.elim
 | .and a b,σ,h,Q,Q',m,w=>by
  simp only[cR]at w ⊢;refine dR hΓ hE a σ h _ _ (λc h1 q=>?_) w;cases c
  ·exact m _ _ q
  ·exact dR hΓ hE b σ h1 _ _ m q
 | .or a b,σ,h,Q,Q',m,w=>by
  simp only[cR]at w ⊢;refine dR hΓ hE a σ h _ _ (λc h1 q=>?_) w;cases c
  ·exact dR hΓ hE b σ h1 _ _ m q
  ·exact m _ _ q
 | .not a,σ,h,Q,Q',m,w=>by
  simp only[cR]at w ⊢;exact dR hΓ hE a σ h _ _ (λc h1 q=>m _ _ q) w
theorem Pq (hΓ:pR Γ)(hE:∀x h,E x h->E' x h):∀(t:GZ) (σ:Lo) (h:AH) (Q Q':Bool->AH->Prop),(∀v h',Q v h'->Q' v h')->lG sub Γ E t σ h Q->lG sub Γ E' t σ h Q'
 | .none,σ,h,Q,Q',m,w=>by simp only[lG]at w ⊢;exact m _ _ w
 | .one t,σ,h,Q,Q',m,w=>by simp only[lG]at w ⊢;exact dR hΓ hE t σ h _ _ m w
end
structure aem (K K':En):Prop where
 nx:∀σ h,K.nx σ h->K'.nx σ h
 rt:∀v h,K.rt v h->K'.rt v h
 bk:∀σ h,K.bk σ h->K'.bk σ h
 ct:∀σ h,K.ct σ h->K'.ct σ h
theorem Pu (hΓ:pR Γ)(hE:∀x h,E x h->E' x h)(mq:∀v h',Q v h'->Q' v h')(mf:∀v h',F v h'->F' v h')(w:Wm sub Γ E m tab o es σ h Q F):Wm sub Γ E' m tab o es σ h Q' F':=by
 unfold Wm at w ⊢;refine bD hΓ hE o σ h _ _ (λx h1 q=>?_) w;split at q
 ·split at q
  ·refine ⟨q.1,?_⟩;have q:=q.2;split at q
   ·exact dI hΓ hE es σ h1 _ _ (λvs h2 z=>hΓ _ _ _ _ _ _ _ mq mf z) q
   ·exact q.elim
  ·exact q.elim
 ·exact q.elim
theorem Bm (hΓ:pR Γ)(hE:∀x h,E x h->E' x h)(mq:∀v h',Q v h'->Q' v h')(mf:∀v h',F v h'->F' v h'):∀(c:CC) (σ:Lo) (h:AH),gW sub Γ E c σ h Q F->gW sub Γ E' c σ h Q' F'
 | .call f es ds,σ,h,w=>by
  simp only[gW]at w ⊢;exact dI hΓ hE es σ h _ _ (λvs h2 z=>hΓ _ _ _ _ _ _ _ mq mf z) w
 | .ite t a b,σ,h,w=>by
  simp only[gW]at w ⊢;refine dR hΓ hE t σ h _ _ (λk h1 q=>?_) w;cases k
  ·exact Bm hΓ hE mq mf b σ h1 q
  ·exact Bm hΓ hE mq mf a σ h1 q
mutual
theorem wpS_mono (hΓ:pR Γ)(hE:∀x h,E x h->E' x h):∀(s:Sm) (K K':En) (σ:Lo) (h:AH),aem K K'->wpS sub Γ E s K σ h->wpS sub Γ E' s K' σ h
 | .expr e,K,K',σ,h,m,w=>by simp only[wpS]at w ⊢;exact bD hΓ hE e σ h _ _ (λ_ _ q=>m.nx _ _ q) w
 | .asg i e,K,K',σ,h,m,w=>by simp only[wpS]at w ⊢;exact bD hΓ hE e σ h _ _ (λ_ _ q=>m.nx _ _ q) w
 | .Wk is e,K,K',σ,h,m,w=>by
  simp only[wpS]at w ⊢;refine bD hΓ hE e σ h _ _ (λ_ _ q=>?_) w;split at q
  ·rename_i e;exact m.nx _ _ q
  ·exact q.elim
 | .fB o i v,K,K',σ,h,m,w=>by
  simp only[wpS]at w ⊢;refine bD hΓ hE v σ h _ _ (λ_ _ q1=>bD hΓ hE o σ _ _ _ (λ_ _ q2=>bD hΓ hE i σ _ _ _ (λ_ _ q=>?_) q2) q1) w;split at q
  ·rename_i e;exact m.nx _ _ q
  ·exact q.elim
 | .aug i p e,K,K',σ,h,m,w=>by
  simp only[wpS]at w ⊢;split at w
  ·rename_i x ex;refine bD hΓ hE e σ h _ _ (λ_ _ q=>?_) w;split at q
   ·rename_i e;exact m.nx _ _ q
   ·exact q.elim
  ·exact w.elim
 | .ret e,K,K',σ,h,m,w=>by simp only[wpS]at w ⊢;exact bD hΓ hE e σ h _ _ (λ_ _ q=>m.rt _ _ q) w
 | .Y6,K,K',σ,h,m,w=>by simp only[wpS]at w ⊢;exact m.rt _ _ w
 | .bI c a b,K,K',σ,h,m,w=>by
  simp only[wpS]at w ⊢;refine dR hΓ hE c σ h _ _ (λk h1 q=>?_) w;cases k
  ·exact fJ hΓ hE b K K' σ h1 m q
  ·exact fJ hΓ hE a K K' σ h1 m q
 | .Bj c b,K,K',σ,h,m,w=>by
  simp only[wpS]at w ⊢;obtain ⟨W,hW,t⟩:=w;refine ⟨W,hW,λn σ h w=>dR hΓ hE c σ h _ _ (λk h1 q=>?_) (t n σ h w)⟩;cases k
  ·exact m.nx _ _ q
  ·obtain ⟨N,hN,q⟩:=q;exact ⟨N,hN,fJ hΓ hE b {nx:=N,rt:=K.rt,bk:=K.nx,ct:=N} _ σ h1 ⟨λ_ _ q=>q,m.rt,m.nx,λ_ _ q=>q⟩ q⟩
 | .d9 tg k src b,K,K',σ,h,m,w=>by
  simp only[wpS]at w ⊢;refine dI hΓ hE src σ h _ _ (λvs h1 q=>?_) w;split at q
  ·exact q.elim
  ·rename_i J e;obtain ⟨W,hW,t⟩:=q;refine ⟨W,hW,λi n σ2 h2 w2=>?_⟩;have t:=t i n σ2 h2 w2;split at t
   ·exact t.elim
   ·exact m.nx _ _ t
   ·split at t
    ·exact t.elim
    ·rename_i eb;obtain ⟨N,hN,q⟩:=t;exact ⟨N,hN,fJ hΓ hE b {nx:=N,rt:=K.rt,bk:=K.nx,ct:=N} _ _ h2 ⟨λ_ _ q=>q,m.rt,m.nx,λ_ _ q=>q⟩ q⟩
 | .brk,K,K',σ,h,m,w=>by simp only[wpS]at w ⊢;exact m.bk _ _ w
 | .cnt,K,K',σ,h,m,w=>by simp only[wpS]at w ⊢;exact m.ct _ _ w
 | .pass,K,K',σ,h,m,w=>by simp only[wpS]at w ⊢;exact m.nx _ _ w
 | .aef _ _,K,K',σ,h,m,w=>by simp only[wpS]at w
 | .aaM c,K,K',σ,h,m,w=>by simp only[wpS]at w ⊢;exact hE _ _ w
 | .aeg i f es c j hs,K,K',σ,h,m,w=>by
  simp only[wpS]at w ⊢;refine dI hΓ hE es σ h _ _ (λvs h1 q=>hΓ _ _ _ _ _ _ _ (λv h2 z=>m.nx _ _ z) (λx h2 z=>⟨z.1,fJ hΓ hE hs {nx:=λσ' h'=>K.nx (σ'.set j none) h',rt:=K.rt,bk:=λσ' h'=>K.bk (σ'.set j none) h',ct:=λσ' h'=>K.ct (σ'.set j none) h'} _ _ _ ⟨λ_ _ q=>m.nx _ _ q,m.rt,λ_ _ q=>m.bk _ _ q,λ_ _ q=>m.ct _ _ q⟩ z.2⟩) q) w
 | .aeh t i m1 Y7 o1 es1 m2 Y8 o2 es2 c j hs,K,K',σ,h,m,w=>by
  simp only[wpS]at w ⊢;refine dR hΓ hE t σ h _ _ (λk h1 q=>?_) w;have mf:∀(x:D) (h2:AH),(x=.str c/\bw sub Γ E hs {nx:=λσ' h'=>K.nx (σ'.set j none) h',rt:=K.rt,bk:=λσ' h'=>K.bk (σ'.set j none) h',ct:=λσ' h'=>K.ct (σ'.set j none) h'} (σ.set j (some (.ref h2.length))) (h2++[.exc c]))->(x=.str c/\bw sub Γ E' hs {nx:=λσ' h'=>K'.nx (σ'.set j none) h',rt:=K'.rt,bk:=λσ' h'=>K'.bk (σ'.set j none) h',ct:=λσ' h'=>K'.ct (σ'.set j none) h'} (σ.set j (some (.ref h2.length))) (h2++[.exc c])):=
   λx h2 z=>⟨z.1,fJ hΓ hE hs {nx:=λσ' h'=>K.nx (σ'.set j none) h',rt:=K.rt,bk:=λσ' h'=>K.bk (σ'.set j none) h',ct:=λσ' h'=>K.ct (σ'.set j none) h'} _ _ _ ⟨λ_ _ q=>m.nx _ _ q,m.rt,λ_ _ q=>m.bk _ _ q,λ_ _ q=>m.ct _ _ q⟩ z.2⟩
  cases k
  ·exact Pu hΓ hE (λv h2 z=>m.nx _ _ z) mf q
  ·exact Pu hΓ hE (λv h2 z=>m.nx _ _ z) mf q
 | .sE c e,K,K',σ,h,m,w=>by
  simp only[wpS]at w ⊢;refine bD hΓ hE e σ h _ _ (λx h1 q=>?_) w;split at q
  ·exact hE _ _ q
  ·exact q.elim
 | .Pj i cc cs j hs,K,K',σ,h,m,w=>by
  simp only[wpS]at w ⊢;refine Bm hΓ hE (λv h2 z=>m.nx _ _ z) (λx h2 z=>?_) cc σ h w;obtain ⟨c,r,e1,e2,z⟩:=z;exact ⟨c,r,e1,e2,fJ hΓ hE hs {nx:=λσ' h'=>K.nx (σ'.set j none) h',rt:=K.rt,bk:=λσ' h'=>K.bk (σ'.set j none) h',ct:=λσ' h'=>K.ct (σ'.set j none) h'} _ _ _ ⟨λ_ _ q=>m.nx _ _ q,m.rt,λ_ _ q=>m.bk _ _ q,λ_ _ q=>m.ct _ _ q⟩ z⟩
theorem fJ (hΓ:pR Γ)(hE:∀x h,E x h->E' x h):∀(s:ao) (K K':En) (σ:Lo) (h:AH),aem K K'->bw sub Γ E s K σ h->bw sub Γ E' s K' σ h
 | .nil,K,K',σ,h,m,w=>by simp only[bw]at w ⊢;exact m.nx _ _ w
 | .cons s ss,K,K',σ,h,m,w=>by
  simp only[bw]at w ⊢;exact wpS_mono hΓ hE s {K with nx:=λσ' h'=>bw sub Γ E ss K σ' h'} _ σ h ⟨λσ' h' q=>fJ hΓ hE ss K K' σ' h' m q,m.rt,m.bk,m.ct⟩ w
end
end
theorem jH:∀d,pR (au sub P d)
 | 0,f,vs,h,Q,Q',E,E',m,mE,w=>by simp only[au]at w
 | d+1,f,vs,h,Q,Q',E,E',m,mE,w=>by
  simp only[au]at w ⊢;split at w
  ·rename_i df e;exact ⟨w.1,fJ (jH d) mE _ {nx:=λ_ h=>Q .non h,rt:=Q} _ _ _ ⟨λ_ _ q=>m _ _ q,λ_ _ q=>m _ _ q,λ_ _ q=>q,λ_ _ q=>q⟩ w.2⟩
  ·exact w.elim
section
variable {sub:Nat->Nat->Bool}{P:List Def}{E:PX}{d:Nat}
theorem wp_seq (M:Lo->AH->Prop)(w:wpS sub (au sub P d) E s {K with nx:=M} σ h)(q:∀σ' h',M σ' h'->bw sub (au sub P d) E ss K σ' h'):wpS sub (au sub P d) E s {K with nx:=λσ' h'=>bw sub (au sub P d) E ss K σ' h'} σ h:=
 wpS_mono (jH d) (λ_ _ z=>z) s {K with nx:=M} _ σ h ⟨q,λ_ _ q=>q,λ_ _ q=>q,λ_ _ q=>q⟩ w
theorem Bo (Pv:Nat->Lo->AH->Prop)(h0:Pv m σ h)(hs:∀m σ h,Pv m σ h->cR sub (au sub P d) E c σ h λk h1=>if k=true then bw sub (au sub P d) E b {nx:=λσ' h'=>∃m',m' < m/\Pv m' σ' h',rt:=K.rt,bk:=K.nx,ct:=λσ' h'=>∃m',m' < m/\Pv m' σ' h'} σ h1 else K.nx σ h1):wpS sub (au sub P d) E (.Bj c b) K σ h:=
 Y9 Pv h0 hs λσ h Q Q' m w=>dR (jH d) (λ_ _ z=>z) c σ h _ _ m w
theorem Sg {k:IK}{src:dH}{nt:Nat}{cond:GZ}{elt:Ex}{σ:Lo}{h h1:AH}{Q:PV}{J:It}{xs vs:List D}(p:D->Bool)(g:D->D)(he:∀Q:List D->AH->Prop,Q vs h1->bB sub (au sub P d) E src σ h Q)(hi:bM k vs h1=some J)(hl:xs.length<=16777216)(hJ:∀(i:Nat) h',h1<+:h'->J i h'=some xs[i]?)(hs:∀(i:Nat) v h2,xs[i]?=some v->h1<+:h2->∃σ',wO nt v σ=some σ'/\lG sub (au sub P d) E cond σ' h2 λc h3=>c=p v/\h2<+:h3/\(c=true->aL sub (au sub P d) E elt σ' h3 λx h4=>x=g v/\h3<+:h4))(q:∀h',h1<+:h'->h'[h1.length]?=some (.lst ((xs.filter p).map g))->Q (.ref h1.length) h'):aL sub (au sub P d) E (.comp k src nt cond elt) σ h Q:=by
 simp only[aL];refine he _ ?_;simp only[hi];refine ⟨λi m h'=>m=xs.length - i/\i<=xs.length/\h1<+:h'/\h'[h1.length]?=some (.lst (((xs.take i).filter p).map g)),⟨xs.length,by simp,zero_le _,prefix_append _ _,by simp⟩,?_⟩;rintro i m h2 ⟨rfl,hin,pr,ha⟩;rw[hJ i h2 pr];cases e:xs[i]? with
 | none=>
  have:i=xs.length:=by have:=List.getElem?_eq_none_iff.mp e;lia
  subst this;rw[take_length]at ha;exact q h2 pr ha
 | some v=>
  have hlt:i < xs.length:=(List.getElem?_eq_some_iff.mp e).1;obtain ⟨σ',em,w⟩:=hs i v h2 e pr;simp only[em];refine ⟨λh'=>h1<+:h'/\h'[h1.length]?=some (.lst (((xs.take (i+1)).filter p).map g)),λh' q'=>⟨xs.length - (i+1),by lia,rfl,hlt,q'.1,q'.2⟩,Pq (jH d) (λ_ _ z=>z) _ _ _ _ _ (λc h3 q3=>?_) w⟩;obtain ⟨hc,cB,q3⟩:=q3;have ht:xs.take (i+1)=xs.take i++[v]:=by rw[take_succ,e];rfl
  have aen:∀{a b:AH} {n:Nat} {o:AO},a<+:b->a[n]?=some o->b[n]?=some o:=λ{a b n o} pp ee=>by
   obtain ⟨l,rfl⟩:=pp;rw[getElem?_append_left (List.getElem?_eq_some_iff.mp ee).1];exact ee
  cases hcc:c with
  | false=>
   rw[if_neg (by decide)];refine ⟨pr.trans cB,?_⟩;rw[ht,List.filter_append,List.filter_cons_of_neg (by rw[<-hc,hcc];decide)];simpa using aen cB ha
  | true=>
   rw[if_pos rfl];refine bD (jH d) (λ_ _ z=>z) _ _ _ _ _ (λx h4 q4=>?_) (q3 hcc);obtain ⟨rfl,pr4⟩:=q4;have ha4:=aen (cB.trans pr4) ha;have hll:(((xs.take i).filter p).map g).length < 16777216:=by
    have h1:=List.length_filter_le p (xs.take i);rw[length_take]at h1;rw[length_map];lia
   rw[dM ha4 hll];refine ⟨?_,?_⟩
   ·obtain ⟨l,rfl⟩:=(pr.trans (cB.trans pr4))
    rw[List.set_append_right _ _ (le_refl _)];exact prefix_append _ _
   ·rw[getElem?_set_self (List.getElem?_eq_some_iff.mp ha4).1,ht,List.filter_append,List.filter_cons_of_pos (by rw[<-hc,hcc])];simp
end
end Z
namespace L2
open PySem PySem.Spec PyProof.Rows
noncomputable abbrev Key:=Sum Int Str
def Fz:Key->Value->Bool
 | .inl k,v=>Value.isInt k v
 | .inr x,v=>Value.isStrOf x v
def amy (w:World):Key->Int
 | .inl k=>hashInt k
 | .inr x=>hashStr w x
theorem dU:∀{k:Key} {v:Value},Fz k v=true->(∃i t,k=Sum.inl i/\v=Value.int i t)\/(∃x t,k=Sum.inr x/\v=Value.str x t)
 | .inl i,v,h=>by
  obtain ⟨t,e⟩:=Value.isInt_shape (k:=i) (v:=v) h;exact .inl ⟨i,t,rfl,e⟩
 | .inr x,v,h=>by
  obtain ⟨t,e⟩:=Value.isStrOf_shape (x:=x) (v:=v) h;exact .inr ⟨x,t,rfl,e⟩
theorem Wo (i:Int)(t:Tok):Fz (.inl i) (.int i t)=true:=by simp[Fz,Value.isInt]
theorem Wq (x:Str)(t:Tok):Fz (.inr x) (.str x t)=true:=by simp[Fz,Value.isStrOf]
theorem aeo (a b:Int):decide ((Sum.inl a:Key)=Sum.inl b)=(a == b):=by
 by_cases e:a=b
 ·subst e;simp
 ·have h:¬(Sum.inl a:Key)=Sum.inl b:=λq=>e (Sum.inl.inj q);rw[decide_eq_false h];exact (beq_eq_false_iff_ne.mpr e).symm
theorem aep (a b:Str):decide ((Sum.inr a:Key)=Sum.inr b)=decide (a=b):=by
 by_cases e:a=b
 ·subst e;simp
 ·have h:¬(Sum.inr a:Key)=Sum.inr b:=λq=>e (Sum.inr.inj q);rw[decide_eq_false h,decide_eq_false e]
theorem aer (a:Int)(b:Str):decide ((Sum.inl a:Key)=Sum.inr b)=false:=decide_eq_false (λq=>nomatch q)
theorem aes (a:Str)(b:Int):decide ((Sum.inr a:Key)=Sum.inl b)=false:=decide_eq_false (λq=>nomatch q)
def dD (prog:Program)(w:World):PySem.KeyKind prog w Key where
 is:=Fz
 hash:=amy w
 inj:=λv a b ha hb=>by
  rcases dU ha with ⟨i,t,rfl,rfl⟩ | ⟨x,t,rfl,rfl⟩
  ·rcases dU hb with ⟨j,u,rfl,e⟩ | ⟨y,u,rfl,e⟩
   ·injection e with e1 _;rw[e1]
   ·exact nomatch e
  ·rcases dU hb with ⟨j,u,rfl,e⟩ | ⟨y,u,rfl,e⟩
   ·exact nomatch e
   ·injection e with e1 _;rw[e1]
 byValue:=λk v h=>by
  rcases dU h with ⟨i,t,rfl,rfl⟩ | ⟨x,t,rfl,rfl⟩<;>rfl
 pyHash:=λhv h=>by
  rcases dU hv with ⟨i,t,rfl,rfl⟩ | ⟨x,t,rfl,rfl⟩
  ·exact wpAny_pyHash_int h
  ·exact wpAny_pyHash_str h
 eqBool:=λhu hv h=>by
  rcases dU hu with ⟨i,t,rfl,rfl⟩ | ⟨x,t,rfl,rfl⟩
  ·rcases dU hv with ⟨j,u,rfl,rfl⟩ | ⟨y,u,rfl,rfl⟩
   ·rw[aeo]at h;exact wpAny_eqBool_int h
   ·rw[aer]at h;exact SeqAt.EqAt.int_str i t y u _ _ _ _ h
  ·rcases dU hv with ⟨j,u,rfl,rfl⟩ | ⟨y,u,rfl,rfl⟩
   ·rw[aes]at h;exact SeqAt.EqAt.str_int x t j u _ _ _ _ h
   ·rw[aep]at h;exact wpAny_eqBool_str h
 «strs»:=λk x t v h=>by
  rcases dU h with ⟨i,u,rfl,e⟩ | ⟨y,u,rfl,e⟩
  ·exact nomatch e
  ·injection e with e1 _
   subst e1;cases v<;>rfl
theorem RG (prog:Program)(w:World)(i:Int)(t:Tok):(dD prog w).is (.inl i) (.int i t)=true:=Wo i t
theorem uy (prog:Program)(w:World)(x:Str)(t:Tok):(dD prog w).is (.inr x) (.str x t)=true:=Wq x t
inductive V where
 | non | bl (b:Bool) | int (i:Int) | str (x:Str) | Ms (b:Array UInt8) | flt (b:UInt64) | ref (a:Addr) | ty (n:String)
 deriving DecidableEq
def RelV:V->Value->Prop
 | .non,u=>u=Value.none
 | .bl b,u=>u=Value.bool b
 | .int i,u=>∃t,u=Value.int i t
 | .str x,u=>∃t,u=Value.str x t
 | .Ms b,u=>∃t,u=Value.bytes b t
 | .flt b,u=>∃t,u=Value.float b t
 | .ref a,u=>u=Value.ref a
 | .ty n,u=>u=Value.type n
noncomputable abbrev Vals:List V->List Value->Prop:=Paired RelV
theorem Vals.length (r:Vals xs us):xs.length=us.length:=Paired.length r
theorem Vals.get:∀{xs:List V} {us:List Value} {i:Nat} {x:V},Vals xs us->xs[i]?=some x->∃u,us[i]?=some u/\RelV x u
 | _,_,_,_,.nil,e=>by simp at e
 | _,_,0,_,.cons r _,e=>by simp at e;subst e;exact ⟨_,rfl,r⟩
 | _,_,i+1,x,.cons _ t,e=>by
  obtain ⟨u,h1,h2⟩:=Vals.get (i:=i) (x:=x) t (by simpa using e);exact ⟨u,by simpa using h1,h2⟩
theorem Vals.set (r:RelV x u):∀{xs:List V} {us:List Value} (i:Nat),Vals xs us->Vals (xs.set i x) (us.set i u)
 | _,_,_,.nil=>.nil
 | _,_,0,.cons _ t=>.cons r t
 | _,_,i+1,.cons q t=>.cons q (Vals.set r i t)
theorem Vals.append:∀{xs ys:List V} {us ws:List Value},Vals xs us->Vals ys ws->Vals (xs++ys) (us++ws)
 | _,_,_,_,.nil,s=>s
 | _,_,_,_,.cons r t,s=>.cons r (Vals.append t s)
theorem Vals.take:∀{xs:List V} {us:List Value} (n:Nat),Vals xs us->Vals (xs.take n) (us.take n)
 | _,_,0,_=>.nil
 | _,_,_+1,.nil=>.nil
 | _,_,n+1,.cons r t=>.cons r (Vals.take n t)
theorem Vals.drop:∀{xs:List V} {us:List Value} (n:Nat),Vals xs us->Vals (xs.drop n) (us.drop n)
 | _,_,0,r=>r
 | _,_,_+1,.nil=>.nil
 | _,_,n+1,.cons _ t=>Vals.drop n t
def oF:Option V->Option Value->Prop
 | some v,some u=>RelV v u
 | none,none=>True
 | _,_=>False
def KV {κ:Type}:List (κ×V)->List (κ×Value)->Prop:=Paired λ(p:κ×V) (q:κ×Value)=>p.1=q.1/\RelV p.2 q.2
def kV:Key->V
 | .inl i=>.int i
 | .inr x=>.str x
inductive HO where
 /-- a list -/
 | lst (xs:List V)
 /-- a tuple (never changes) -/
 | tup (xs:List V)
 /-- a dict whose keys are ints and texts;one whose keys are tuples of ints and texts (the empty one is both) -/
 | dK (kvs:List (Key×V)) | dT (kvs:List (List Key×V))
 /-- a set of ints:its members,its size -/
 | set (S:Int->Bool) (n:Nat)
 /-- an instance of the class at C,its dict at dx,its attributes -/
 | ins (C dx:Addr) (fs:List (Str×V))
 /-- the dict of the instance at x -/
 | own (x:Addr)
 /-- the dict of an exception -/
 | xd (fs:List (Str×V))
 /-- a bound method,f of x -/
 | met (f x:Addr)
 /-- a range object lo,lo+1,.. below hi -/
 | rng (lo hi:Int)
 /-- a thing that is known to the object (the script;a dict while a loop walks it):read,never written while it is so -/
 | cC (o:Obj) (u:HO)
 /-- a code object's table -/
 | G3 (ps:Array Value)
 /-- any other thing,by what is true of its one object (a def of one's own:aqt a S n:=HO.ext λh=>..) -/
 | ext (φ:Heap->Prop)
noncomputable abbrev Hp:=Addr->Option HO
def upd (H:Hp)(a:Addr)(o:HO):Hp:=λb=>if b=a then some o else H b
theorem bJ:upd H a o a=some o:=by unfold upd;rw[if_pos rfl]
theorem aU (h:b≠a):upd H a o b=H b:=by unfold upd;rw[if_neg h]
theorem U0 {H:Hp}{a b:Addr}{o u:HO}(h:H a=some o)(h':H b=some u)(d:o≠u):a≠b:=by
 intro e;subst e;rw[h]at h';exact d (Option.some.inj h')
theorem cY {H:Hp}{a b:Addr}{o:HO}(h:H a=some o)(h':H b=none):a≠b:=by
 intro e;subst e;rw[h]at h';cases h'
def Bp (h:Heap)(a:Addr)(items:Array Value):Prop:=IsTup h a items/\∃o,h.get? a=some o/\o.dict=none
theorem Bp.new (h:Heap)(items:Array Value):Bp (h.push {cls:=.type "tuple",data:=.seq items}) h.objs.size items:=⟨IsTup.new h items,_,get?_push_size _ rfl,rfl⟩
section
variable (P:Program)(w:World)
def cj (H:Hp)(h:Heap)(a:Addr):HO->Prop
 | .lst xs=>xs.length<=sizeLine/\∃(its:List Value) (n:Nat),Vals xs its/\h.get? a=some {cls:=.type "list",data:=.seq its.toArray n}
 | .tup xs=>xs.length<=sizeLine/\∃its:List Value,Vals xs its/\Bp h a its.toArray
 | .dK kvs=>kvs.length<=sizeLine/\(a == sysModules)=false/\∃vs,KV kvs vs/\h.DictOf (dD P w) a vs
 | .dT kvs=>kvs.length<=sizeLine/\(a == sysModules)=false/\∃xs:List (List Key×Addr×Value),
   Paired (λ(p:List Key×V) (q:List Key×Addr×Value)=>p.1=q.1/\H q.2.1=some (.tup (p.1.map kV))/\RelV p.2 q.2.2) kvs xs/\
   ∃o es ep,h.get? a=some o/\o.ExactDict/\o.data=.dict es ep/\es.toList=xs.map (entryOfKey (tupleKind (dD P w)))/\(xs.map (·.1)).Nodup
 | .set S n=>h.SetOf (intKind P w) a S n
 | .ins C dx fs=>H dx=some (.own a)/\fs.length<=1000/\dx≠a/\h.get? a=some (PySem.W.instObj C dx)/\
   ∃mA,h.Ns1 dx mA/\(∀f,oF (fs.lookup f) (mA f))/\PySem.Within mA (fs.map (·.1))
 | .own _=>∃o,h.get? a=some o
 | .xd fs=>∃mA,h.Ns1 a mA/\∀f,oF (fs.lookup f) (mA f)
 | .rng lo hi=>∃t u v,h.get? a=some {cls:=.type "range",data:=.fields #[.int lo t,.int hi u,.int 1 v]}
 | .cC o u=>h.get? a=some o/\cj H h a u
 | .G3 ps=>h.get? a=some {cls:=.none,data:=.fields ps}
 | .met f x=>h.get? a=some (methodObj (.ref f) (.ref x))
 | .ext φ=>φ h/\(∃o,h.get? a=some o)/\∀h1 h2:Heap,φ h1->(∀o,h1.get? a=some o->h2.get? a=some o)->φ h2
def d8 (H:Hp)(h:Heap):Prop:=∀a o,H a=some o->cj P w H h a o
end
section
variable {P:Program}{w:World}{H H':Hp}{h h':Heap}{a:Addr}{o:HO}
theorem cj.lt (x:cj P w H h a o):a < h.objs.size:=by
 cases o with
 | lst xs=>obtain ⟨_,_,_,_,e⟩:=x;exact lt_size e
 | tup xs=>obtain ⟨_,_,_,p⟩:=x;exact p.1.lt
 | dK kvs=>obtain ⟨_,_,_,_,o,_,_,e,_⟩:=x;exact lt_size e
 | dT kvs=>obtain ⟨_,_,_,_,o,_,_,e,_⟩:=x;exact lt_size e
 | set S n=>obtain ⟨o,_,_,_,e,_⟩:=x;exact lt_size e
 | ins C dx fs=>obtain ⟨_,_,_,e,_⟩:=x;exact lt_size e
 | own y=>obtain ⟨_,e⟩:=x;exact lt_size e
 | xd fs=>obtain ⟨_,⟨_,_,_,e,_⟩,_⟩:=x;exact lt_size e
 | rng lo hi=>obtain ⟨_,_,_,e⟩:=x;exact lt_size e
 | cC ob u=>obtain ⟨e,_⟩:=x;exact lt_size e
 | G3 ps=>exact lt_size (show h.get? a=some _ from x)
 | met f y=>exact lt_size (show h.get? a=some _ from x)
 | ext φ=>obtain ⟨_,⟨_,e⟩,_⟩:=x;exact lt_size e
theorem Paired.Y_ {α β:Type}{F G:α->β->Prop}:∀{l₁:List α} {l₂:List β},Paired F l₁ l₂->(∀a b,F a b->G a b)->Paired G l₁ l₂
 | _,_,.nil,_=>.nil
 | _,_,.cons r t,f=>.cons (f _ _ r) (Paired.Y_ t f)
theorem cj.stay (x:cj P w H h a o)(k:∀b u,(b=a\/H b=some (.own a))->h.get? b=some u->h'.get? b=some u)(ho:∀b,H b=some (.own a)->H' b=some (.own a))(ht:∀b xs,H b=some (.tup xs)->H' b=some (.tup xs)):cj P w H' h' a o:=by
 induction o with
 | lst xs=>obtain ⟨z,its,n,r,e⟩:=x;exact ⟨z,its,n,r,k _ _ (.inl rfl) e⟩
 | tup xs=>obtain ⟨z,its,r,⟨ob,e,c⟩,ob',e',d⟩:=x;exact ⟨z,its,r,⟨ob,k _ _ (.inl rfl) e,c⟩,ob',k _ _ (.inl rfl) e',d⟩
 | dK kvs=>obtain ⟨z,y,vs,r,ob,es,ep,e,c⟩:=x;exact ⟨z,y,vs,r,ob,es,ep,k _ _ (.inl rfl) e,c⟩
 | dT kvs=>
  obtain ⟨z,y,xs,r,ob,es,ep,e,c⟩:=x;exact ⟨z,y,xs,Paired.Y_ r λp q z=>⟨z.1,ht _ _ z.2.1,z.2.2⟩,ob,es,ep,k _ _ (.inl rfl) e,c⟩
 | set S n=>obtain ⟨ob,es,ep,t,e,c⟩:=x;exact ⟨ob,es,ep,t,k _ _ (.inl rfl) e,c⟩
 | ins C dx fs=>
  obtain ⟨d,z,ne,e,mA,⟨od,es,ep,e2,c⟩,r⟩:=x;exact ⟨ho _ d,z,ne,k _ _ (.inl rfl) e,mA,⟨od,es,ep,k _ _ (.inr d) e2,c⟩,r⟩
 | own y=>obtain ⟨ob,e⟩:=x;exact ⟨ob,k _ _ (.inl rfl) e⟩
 | xd fs=>obtain ⟨mA,⟨od,es,ep,e,c⟩,r⟩:=x;exact ⟨mA,⟨od,es,ep,k _ _ (.inl rfl) e,c⟩,r⟩
 | rng lo hi=>obtain ⟨t,u,v,e⟩:=x;exact ⟨t,u,v,k _ _ (.inl rfl) e⟩
 | cC ob u ih=>obtain ⟨e,q⟩:=x;exact ⟨k _ _ (.inl rfl) e,ih q⟩
 | G3 ps=>
  have e:h.get? a=some {cls:=.none,data:=.fields ps}:=x;show h'.get? a=some {cls:=.none,data:=.fields ps};exact k a _ (.inl rfl) e
 | met f y=>
  have e:h.get? a=some (methodObj (.ref f) (.ref y)):=x;show h'.get? a=some (methodObj (.ref f) (.ref y));exact k a _ (.inl rfl) e
 | ext φ=>obtain ⟨p,⟨o,e⟩,st⟩:=x;exact ⟨st _ _ p λo q=>k _ _ (.inl rfl) q,⟨o,k _ _ (.inl rfl) e⟩,st⟩
theorem d8.lt (x:d8 P w H h)(e:H a=some o):a < h.objs.size:=(x a o e).lt
theorem d8.fresh (x:d8 P w H h)(e:h.objs.size<=a):H a=none:=by
 cases q:H a with
 | none=>rfl
 | some u=>exact absurd (lt_of_lt_of_le (x.lt q) e) (lt_irrefl _)
theorem d8.kept (x:d8 P w H h)(k:∀b u,h.get? b=some u->h'.get? b=some u):d8 P w H h':=λa o e=>
 (x a o e).stay (λb u _ q=>k b u q) (λ_ q=>q) λ_ _ q=>q
theorem d8.laid (x:d8 P w H h)(k:∀b u,h.get? b=some u->h'.get? b=some u)(hp:h.objs.size<=a)(new:cj P w (upd H a o) h' a o):d8 P w (upd H a o) h':=λb u e=>by
 have hn:=x.fresh hp;by_cases hb:b=a
 ·subst hb;rw[bJ]at e;cases e;exact new
 ·rw[aU hb]at e;exact (x b u e).stay (λc v _ q=>k c v q) (λc q=>by rw[aU (cY q hn)];exact q) λc xs q=>by rw[aU (cY q hn)];exact q
end
def Rd (H:Hp)(a:Addr)(u:HO):Prop:=H a=some u\/∃o,H a=some (.cC o u)
theorem Rd.ok (r:Rd H a u)(x:d8 P w H h):cj P w H h a u:=by
 rcases r with r | ⟨o,r⟩
 ·exact x a u r
 ·obtain ⟨_,q⟩:=x a _ r;exact q
def Wr:Option HO->Prop
 | some (.lst _)=>True
 | some (.dK _)=>True
 | some (.dT _)=>True
 | some (.set _ _)=>True
 | some (.ins _ _ _)=>True
 | some (.ext _)=>True
 | _=>False
section
variable {P:Program}{w:World}{H:Hp}{h h':Heap}{x e:Addr}{o':HO}
theorem d8.write (ok:d8 P w H h)(mu:Wr (H x))(he:e=x\/H e=some (.own x))(k:∀b u,b≠e->h.get? b=some u->h'.get? b=some u)(heo:∃u,h'.get? e=some u)(new:cj P w (upd H x o') h' x o'):d8 P w (upd H x o') h':=λb u q=>by
 have aeu:∀c y,H c=some (.own y)->c≠x:=λc y r z=>by subst z;rw[r]at mu;exact mu
 have amA:∀c xs,H c=some (.tup xs)->c≠x:=λc xs r z=>by subst z;rw[r]at mu;exact mu
 by_cases hb:b=x
 ·subst hb;rw[bJ]at q;cases q;exact new
 ·rw[aU hb]at q;by_cases hbe:b=e
  ·have q':H b=some (.own x):=by
    rcases he with z | z
    ·exact absurd (hbe.trans z) hb
    ·rw[hbe];exact z
   rw[q]at q';cases q';obtain ⟨v,hv⟩:=heo;exact ⟨v,by rw[hbe];exact hv⟩
  ·refine (ok b u q).stay (λc v hc r=>k c v ?_ r) (λc r=>by rw[aU (aeu c b r)];exact r) λc xs r=>by rw[aU (amA c xs r)];exact r
   rcases hc with rfl | hc
   ·exact hbe
   ·rintro rfl;rcases he with z | z
    ·exact aeu c b hc z
    ·rw[hc]at z;cases z;exact hb rfl
end
structure Un (fs ex:List Addr)(H H':Hp)(h h':Heap):Prop where
 keep:∀b o,h.get? b=some o->H b=none->b∉fs->b∉ex->h'.get? b=some o
 slot:∀b o,h.get? b=some o->H b=none->b∈fs->b∉ex->∃sl,h'.get? b=some {o with slots:=sl}
 free:∀b o,h.get? b=some o->H b=none->b∉ex->H' b=none
 there:∀b o,h.get? b=some o->b∉ex->∃o',h'.get? b=some o'
 tups:∀b xs,H b=some (.tup xs)->H' b=some (.tup xs)
 jy:∀b o u,H b=some (.cC o u)->H' b=some (.cC o u)
 j7:∀b ps,H b=some (.G3 ps)->∃more,H' b=some (.G3 (ps++more))
section
variable {fs fs' ex ex':List Addr}{H H1 H2:Hp}{h h1 h2 h':Heap}{a x e:Addr}{o:HO}
theorem Un.any (u:Un fs ex H H1 h h1)(q:h.get? b=some ob)(n:H b=none)(hx:b∉ex):∃sl,h1.get? b=some {ob with slots:=sl}:=by
 by_cases hb:b∈fs
 ·exact u.slot b ob q n hb hx
 ·exact ⟨ob.slots,u.keep b ob q n hb hx⟩
theorem Un.kept (k:∀b u,h.get? b=some u->h'.get? b=some u):Un fs ex H H h h':=
 ⟨λb ob q _ _ _=>k b ob q,λb ob q _ _ _=>⟨ob.slots,k b ob q⟩,λ_ _ _ n _=>n,λb ob q _=>⟨ob,k b ob q⟩,λ_ _ q=>q,λ_ _ _ q=>q,λ_ ps q=>⟨#[],by rw[q];simp⟩⟩
theorem Un.refl:Un fs ex H H h h:=Un.kept λ_ _ q=>q
theorem Un.laid (k:∀b u,h.get? b=some u->h'.get? b=some u)(hp:h.objs.size<=a)(hn:H a=none):Un fs ex H (upd H a o) h h' where
 keep:=λb u q _ _ _=>k b u q
 slot:=λb u q _ _ _=>⟨u.slots,k b u q⟩
 free:=λb u q n _=>by rw[aU (ne_of_lt (lt_of_lt_of_le (lt_size q) hp))];exact n
 there:=λb u q _=>⟨u,k b u q⟩
 tups:=λb xs q=>by rw[aU (cY q hn)];exact q
 jy:=λb u xs q=>by rw[aU (cY q hn)];exact q
 j7:=λb ps q=>⟨#[],by rw[aU (cY q hn),q];simp⟩
theorem Un.write (mu:Wr (H x))(he:e=x\/H e=some (.own x))(k:∀b u,b≠e->h.get? b=some u->h'.get? b=some u)(heo:∃u,h'.get? e=some u):Un fs ex H (upd H x o) h h':=by
 have hx:∀b,H b=none->b≠x:=λb n z=>by subst z;rw[n]at mu;exact mu
 have hb:∀b,H b=none->b≠e:=λb n z=>by
  subst z;rcases he with r | r
  ·exact hx b n r
  ·rw[n]at r;cases r
 have hm:∀b u,H b=some u->¬Wr (some u)->b≠x:=λb u q nm z=>by subst z;rw[q]at mu;exact nm mu
 refine ⟨λb u q n _ _=>k b u (hb b n) q,λb u q n _ _=>⟨u.slots,k b u (hb b n) q⟩,λb u q n _=>by rw[aU (hx b n)];exact n,λb u q _=>?_,
  λb xs q=>by rw[aU (hm b _ q λz=>z)];exact q,λb u xs q=>by rw[aU (hm b _ q λz=>z)];exact q,λb ps q=>⟨#[],by rw[aU (hm b _ q λz=>z),q];simp⟩⟩
 by_cases hbe:b=e
 ·subst hbe;exact heo
 ·exact ⟨u,k b u hbe q⟩
end
def trk (h:Heap)(H:Hp):List Addr:=(List.range h.objs.size).filter λa=>(H a).isSome
def wQ (h:Heap)(H:Hp):Heap:=PySem.W.hideAll h (trk h H)
theorem Ws (h:Heap)(H:Hp):(wQ h H).objs.size=h.objs.size:=PySem.W.hideAll_size _ _
theorem Za (e:h.get? b=some o)(n:H b=none):(wQ h H).get? b=some o:=
 PySem.W.hideAll_get _ e λhm=>by
  have q:(H b).isSome=true:=(List.mem_filter.mp hm).2;rw[n]at q;simp at q
theorem abZ (e:(wQ h H).get? b=some o):h.get? b=some o/\H b=none:=by
 have e':h.get? b=some o:=PySem.W.of_hideAll (trk h H) e;refine ⟨e',?_⟩;cases q:H b with
 | none=>rfl
 | some x=>
  have hm:b∈trk h H:=List.mem_filter.mpr ⟨mem_range.mpr (lt_size e'),by simp[q]⟩;have z:(wQ h H).get? b=none:=PySem.W.hideAll_none (trk h H) hm;rw[z]at e;cases e
def ab0 (g h:Heap)(L:Addr):List (Addr×Obj):=(List.range h.objs.size).filterMap λa=>if a=L\/(g.get? a).isSome=true then none else (h.get? a).map λo=>(a,o)
def rest (g h:Heap)(L d:Addr):List (Addr×Obj):=(ab0 g h L).filter λp=>decide (p.1≠d)
structure Mod (K:PySem.W.Frag)(mg:Str->Option Value)(base:Heap):Prop where
 Jq:K.In base
 glob:base.Ns mainGlobals mg
 blt:∃mb,base.Ns builtinsNs mb/\∀x:Str,x≠"__name__"->mb x=bootBuiltins x
 nolimit:base.NoLimit
structure Cx where
 prog:Program
 w:World
 K:PySem.W.Frag
 mg:Str->Option Value
 base:Heap
 A:Around
 N:List Str
 s₀:Shared
 H₀:Hp
 env:Env
 outer:List Env
 stack:List Env
 ex:List Addr
 fn:Str->Bool
 calm:Bool
 pn:List (Addr×Obj)
 xe:Value->Shared->Prop
def frs (l:List Env):List Addr:=l.filterMap (·.frame)
noncomputable abbrev Cx.fs (X:Cx):List Addr:=frs X.outer
def Jr (sc:Scope)(x:Str):Prop:=sc.names.lookup x=some .local\/sc.names.lookup x=some .cell\/sc.names.lookup x=some .free
def Loc (sc:Scope)(x:Str):Prop:=sc.names.lookup x=some .local\/sc.names.lookup x=some .cell
def Look (env:Env)(h:Heap)(m:Str->Option Value)(x:Str)(u:Value):Prop:=
 (env.kindOf x=some .local/\m x=some u)\/((env.kindOf x=some .cell\/env.kindOf x=some .free)/\∃c,env.cells.lookup x=some c/\h.IsCell c (some u))
structure Cx.Ok (X:Cx):Prop where
 mod:Mod X.K X.mg X.base
 kind:X.env.scope.kind=.function
 glob:X.env.globals=mainGlobals
 blt:X.env.builtins=builtinsNs
 above:X.s₀.heap.objs.size<=X.env.locals
 inj:∀x y c,X.env.cells.lookup x=some c->X.env.cells.lookup y=some c->x=y
 has:∀x,(X.env.kindOf x=some .cell\/X.env.kindOf x=some .free)->∃c,X.env.cells.lookup x=some c
 cab:∀x c,X.fn x=true->X.env.cells.lookup x=some c->X.s₀.heap.objs.size<=c
 hd:X.calm=true->X.A.handled=none
 frames:X.A.frames=some X.stack
 stk:X.stack=X.outer\/(X.stack=X.env::X.outer/\X.env.frame=some X.env.locals)
 exf:∀b∈X.ex,b≠X.env.locals/\∀x c,X.env.cells.lookup x=some c->c≠b
 bs:∀b o,X.base.get? b=some o->X.s₀.heap.get? b=some o/\X.H₀ b=none
 G4:X.base.objs.size<=X.s₀.heap.objs.size
 oG:∀b o,X.base.get? b=some o->b∉X.ex
 Px:∀b∈X.ex,b∉X.fs
 mG:X.s₀.heap.FunFrames X.base X.outer
 Mt:∀b∈X.fs,X.H₀ b=none
structure Inv (X:Cx)(pins:List (Addr×Obj))(σ:List (Option V))(H:Hp)(s:Shared):Prop where
 ok:X.Ok
 os:s.os=X.s₀.os
 bare:AllBare s.gens
 base:Un X.fs X.ex X.H₀ H X.s₀.heap s.heap
 loc:∃m,s.heap.Ns X.env.locals m/\∀(i:Nat) (x:Str) (v:V),X.N[i]?=some x->σ[i]?=some (some v)->Jr X.env.scope x->∃u,RelV v u/\Look X.env s.heap m x u
 cell:∀x c,X.env.cells.lookup x=some c->∃v,s.heap.IsCell c v
 free:H X.env.locals=none
 eY:∀x c,X.env.cells.lookup x=some c->H c=none
 pin:∀p∈X.pn++pins,s.heap.get? p.1=some p.2/\H p.1=none/\p.1≠X.env.locals/\p.1∉X.fs/\∀v,p.2.data≠.cell v
 hok:d8 X.prog X.w H s.heap
 len:σ.length=X.N.length
section
variable {X:Cx}{pins:List (Addr×Obj)}{σ:List (Option V)}{H H':Hp}{s:Shared}{h':Heap}
theorem Cx.Ok.amB (ok:X.Ok)(e:X.base.get? b=some o):b∉X.fs:=λhb=>by
 have:=(ok.mG.mem hb).1;rw[e]at this;cases this
theorem Inv.bs (I:Inv X pins σ H s):∀b o,X.base.get? b=some o->s.heap.get? b=some o/\H b=none:=λb o e=>
 ⟨I.base.keep b o (I.ok.bs b o e).1 (I.ok.bs b o e).2 (I.ok.amB e) (I.ok.oG b o e),I.base.free b o (I.ok.bs b o e).1 (I.ok.bs b o e).2 (I.ok.oG b o e)⟩
theorem Inv.bk (I:Inv X pins σ H s):∀b o,X.base.get? b=some o->s.heap.get? b=some o:=λb o e=>(I.bs b o e).1
theorem Inv.mod (I:Inv X pins σ H s):Mod X.K X.mg X.base:=I.ok.mod
theorem Inv.dJ (I:Inv X pins σ H s):X.K.In s.heap:=I.ok.mod.Jq.keeps I.bk
theorem Inv.lt (I:Inv X pins σ H s):X.env.locals < s.heap.objs.size:=let ⟨_,hn,_⟩:=I.loc;hn.lt
theorem Inv.sz (I:Inv X pins σ H s):X.s₀.heap.objs.size<=s.heap.objs.size:=le_trans I.ok.above (le_of_lt I.lt)
theorem Inv.amC (I:Inv X pins σ H s)(h:s.heap.objs.size<=a):a∉X.fs:=λhb=>by
 obtain ⟨_,o,ho,_⟩:=I.ok.mG.mem hb;exact absurd (lt_of_lt_of_le (lt_size ho) (le_trans I.sz h)) (lt_irrefl _)
theorem Inv.Bq (I:Inv X pins σ H s):∀x c,X.env.cells.lookup x=some c->c≠X.env.locals:=λx c e z=>by
 obtain ⟨v,o,ho,hd⟩:=I.cell x c e;obtain ⟨m,⟨o',es,ep,ho',hd',_⟩,_⟩:=I.loc;rw[z,ho']at ho;cases ho;rw[hd']at hd;cases hd
theorem Inv.mG (I:Inv X pins σ H s):s.heap.FunFrames X.base X.outer:=by
 have all:∀(l:List Env),(∀b∈frs l,b∈X.fs)->X.s₀.heap.FunFrames X.base l->s.heap.FunFrames X.base l:=by
  intro l
  induction l with
  | nil=>intro _ _;trivial
  | cons env r ih=>
   intro hs hl;obtain ⟨hk,⟨L,o,hf,hn,ho,hd⟩,hr⟩:=hl;have hL:L∈X.fs:=hs L (by unfold frs;rw[filterMap_cons,hf];exact mem_cons_self);obtain ⟨sl,e⟩:=I.base.slot L o ho (I.ok.Mt L hL) hL λz=>I.ok.Px L z hL;exact ⟨hk,⟨L,_,hf,hn,e,hd⟩,ih (λb hb=>hs b (by unfold frs;rw[filterMap_cons,hf];exact mem_cons_of_mem _ hb)) hr⟩
 exact all X.outer (λ_ hb=>hb) I.ok.mG
theorem Inv.stack (I:Inv X pins σ H s):s.heap.FunFrames X.base X.stack:=by
 rcases I.ok.stk with e | ⟨e,hf⟩
 ·rw[e];exact I.mG
 ·rw[e];obtain ⟨m,hn,_⟩:=I.loc;refine .cons (by rw[I.ok.kind];decide) hf hn ?_ I.mG;exact Heap.get?_none_of_le (le_trans I.ok.G4 I.ok.above)
theorem Inv.Br (I:Inv X pins σ H s):∀b∈frs X.stack,b∈X.env.locals::X.fs:=λb hb=>by
 rcases I.ok.stk with e | ⟨e,hf⟩
 ·rw[e]at hb;exact mem_cons_of_mem _ hb
 ·rw[e]at hb;unfold frs at hb;rw[filterMap_cons,hf]at hb;exact hb
theorem Inv.FJ (I:Inv X pins σ H s):∀b∈frs X.stack,H b=none:=λb hb=>by
 rcases mem_cons.mp (I.Br b hb) with e | hb
 ·rw[e];exact I.free
 ·obtain ⟨_,o,ho,_⟩:=I.ok.mG.mem hb;exact I.base.free b o ho (I.ok.Mt b hb) λz=>I.ok.Px b z hb
theorem Inv.step {g':Array GenState}{t':Nat}{d':Drawn}{ch:List Addr}(I:Inv X pins σ H s)(hch:∀b∈ch,(b∈X.ex\/X.s₀.heap.objs.size<=b)/\b≠X.env.locals/\(∀x c,X.env.cells.lookup x=some c->c≠b)/\∀p∈X.pn++pins,p.1≠b)(keep:∀b o,b≠X.env.locals->b∉X.fs->b∉ch->s.heap.get? b=some o->H b=none->h'.get? b=some o)(slot:∀b o,b≠X.env.locals->b∈X.fs->b∉ch->s.heap.get? b=some o->H b=none->∃sl,h'.get? b=some {o with slots:=sl})(free:∀b o,b∉ch->s.heap.get? b=some o->H b=none->H' b=none)(there:∀b o,b∉ch->s.heap.get? b=some o->∃o',h'.get? b=some o')(tups:∀b xs,H b=some (.tup xs)->H' b=some (.tup xs))(jy:∀b o u,H b=some (.cC o u)->H' b=some (.cC o u))(j7:∀b ps,H b=some (.G3 ps)->∃more,H' b=some (.G3 (ps++more)))(ns:∀m,s.heap.Ns X.env.locals m->h'.Ns X.env.locals m)(hok:d8 X.prog X.w H' h')(hg:AllBare g'):
  Inv X pins σ H' {s with heap:=h',gens:=g',drawn:=d',toks:=t'}:=by
 have Wt:∀b o,X.s₀.heap.get? b=some o->b≠X.env.locals:=λb o e=>ne_of_lt (lt_of_lt_of_le (lt_size e) I.ok.above);have Js:∀b o,X.s₀.heap.get? b=some o->b∉X.ex->b∉ch:=λb o e hx hb=>by
  rcases (hch b hb).1 with z | z
  ·exact hx z
  ·exact absurd (lt_of_lt_of_le (lt_size e) z) (lt_irrefl _)
 have cellK:∀x c,X.env.cells.lookup x=some c->∀v,s.heap.IsCell c v->h'.IsCell c v:=λx c e v ⟨o,ho,hd⟩=>by
  have sG:c∉ch:=λz=>(hch c z).2.2.1 x c e rfl;by_cases hc:c∈X.fs
  ·obtain ⟨sl,q⟩:=slot c o (I.Bq x c e) hc sG ho (I.eY x c e);exact ⟨_,q,hd⟩
  ·exact ⟨o,keep c o (I.Bq x c e) hc sG ho (I.eY x c e),hd⟩
 refine ⟨I.ok,I.os,hg,⟨λb o e n hb hx=>?_,λb o e n hb hx=>?_,λb o e n hx=>?_,λb o e hx=>?_,λb xs e=>tups b xs (I.base.tups b xs e),λb o xs e=>jy b o xs (I.base.jy b o xs e),λb ps e=>?_⟩,?_,λx c e=>?_,?_,λx c e=>?_,λp hp=>?_,hok,I.len⟩
 ·exact keep b o (Wt b o e) hb (Js b o e hx) (I.base.keep b o e n hb hx) (I.base.free b o e n hx)
 ·obtain ⟨sl,e1⟩:=I.base.slot b o e n hb hx;obtain ⟨sl',e2⟩:=slot b _ (Wt b o e) hb (Js b o e hx) e1 (I.base.free b o e n hx);exact ⟨sl',e2⟩
 ·obtain ⟨o',e1⟩:=I.base.there b o e hx;exact free b o' (Js b o e hx) e1 (I.base.free b o e n hx)
 ·obtain ⟨o',e1⟩:=I.base.there b o e hx;exact there b o' (Js b o e hx) e1
 ·obtain ⟨m1,e1⟩:=I.base.j7 b ps e;obtain ⟨m2,e2⟩:=j7 b _ e1;exact ⟨m1++m2,by rw[e2,Array.append_assoc]⟩
 ·obtain ⟨m,hn,hl⟩:=I.loc;refine ⟨m,ns m hn,λi x v e1 e2 e3=>?_⟩;obtain ⟨u,r,l⟩:=hl i x v e1 e2 e3;refine ⟨u,r,?_⟩;rcases l with l | ⟨k,c,e,z⟩
  ·exact .inl l
  ·exact .inr ⟨k,c,e,cellK x c e _ z⟩
 ·obtain ⟨v,z⟩:=I.cell x c e;exact ⟨v,cellK x c e v z⟩
 ·obtain ⟨m,⟨o,_,_,ho,_⟩,_⟩:=I.loc;exact free _ o (λz=>(hch _ z).2.1 rfl) ho I.free
 ·obtain ⟨v,o,ho,hd⟩:=I.cell x c e;exact free c o (λz=>(hch c z).2.2.1 x c e rfl) ho (I.eY x c e)
 ·obtain ⟨e,n,ne,nf,d⟩:=I.pin p hp;have sG:p.1∉ch:=λz=>(hch p.1 z).2.2.2 p hp rfl;exact ⟨keep p.1 p.2 ne nf sG e n,free p.1 p.2 sG e n,ne,nf,d⟩
theorem Inv.Oc {g':Array GenState}{t':Nat}{d':Drawn}{ch:List Addr}(I:Inv X pins σ H s)(hch:∀b∈ch,(b∈X.ex\/X.s₀.heap.get? b=none)/\b≠X.env.locals/\(∀x c,X.env.cells.lookup x=some c->c≠b)/\∀p∈X.pn++pins,p.1≠b)(keep:∀b o,b≠X.env.locals->b∉X.fs->b∉ch->s.heap.get? b=some o->H b=none->h'.get? b=some o)(slot:∀b o,b≠X.env.locals->b∈X.fs->b∉ch->s.heap.get? b=some o->H b=none->∃sl,h'.get? b=some {o with slots:=sl})(free:∀b o,b∉ch->s.heap.get? b=some o->H b=none->H' b=none)(there:∀b o,b∉ch->s.heap.get? b=some o->∃o',h'.get? b=some o')(tups:∀b xs,H b=some (.tup xs)->H' b=some (.tup xs))(jy:∀b o u,H b=some (.cC o u)->H' b=some (.cC o u))(j7:∀b ps,H b=some (.G3 ps)->∃more,H' b=some (.G3 (ps++more)))(ns:∀m,s.heap.Ns X.env.locals m->h'.Ns X.env.locals m)(hok:d8 X.prog X.w H' h')(hg:AllBare g'):
  Inv X pins σ H' {s with heap:=h',gens:=g',drawn:=d',toks:=t'}:=by
 have Wt:∀b o,X.s₀.heap.get? b=some o->b≠X.env.locals:=λb o e=>ne_of_lt (lt_of_lt_of_le (lt_size e) I.ok.above);have Js:∀b o,X.s₀.heap.get? b=some o->b∉X.ex->b∉ch:=λb o e hx hb=>by
  rcases (hch b hb).1 with z | z
  ·exact hx z
  ·rw[z]at e;cases e
 have cellK:∀x c,X.env.cells.lookup x=some c->∀v,s.heap.IsCell c v->h'.IsCell c v:=λx c e v ⟨o,ho,hd⟩=>by
  have sG:c∉ch:=λz=>(hch c z).2.2.1 x c e rfl;by_cases hc:c∈X.fs
  ·obtain ⟨sl,q⟩:=slot c o (I.Bq x c e) hc sG ho (I.eY x c e);exact ⟨_,q,hd⟩
  ·exact ⟨o,keep c o (I.Bq x c e) hc sG ho (I.eY x c e),hd⟩
 refine ⟨I.ok,I.os,hg,⟨λb o e n hb hx=>?_,λb o e n hb hx=>?_,λb o e n hx=>?_,λb o e hx=>?_,λb xs e=>tups b xs (I.base.tups b xs e),λb o xs e=>jy b o xs (I.base.jy b o xs e),λb ps e=>?_⟩,?_,λx c e=>?_,?_,λx c e=>?_,λp hp=>?_,hok,I.len⟩
 ·exact keep b o (Wt b o e) hb (Js b o e hx) (I.base.keep b o e n hb hx) (I.base.free b o e n hx)
 ·obtain ⟨sl,e1⟩:=I.base.slot b o e n hb hx;obtain ⟨sl',e2⟩:=slot b _ (Wt b o e) hb (Js b o e hx) e1 (I.base.free b o e n hx);exact ⟨sl',e2⟩
 ·obtain ⟨o',e1⟩:=I.base.there b o e hx;exact free b o' (Js b o e hx) e1 (I.base.free b o e n hx)
 ·obtain ⟨o',e1⟩:=I.base.there b o e hx;exact there b o' (Js b o e hx) e1
 ·obtain ⟨m1,e1⟩:=I.base.j7 b ps e;obtain ⟨m2,e2⟩:=j7 b _ e1;exact ⟨m1++m2,by rw[e2,Array.append_assoc]⟩
 ·obtain ⟨m,hn,hl⟩:=I.loc;refine ⟨m,ns m hn,λi x v e1 e2 e3=>?_⟩;obtain ⟨u,r,l⟩:=hl i x v e1 e2 e3;refine ⟨u,r,?_⟩;rcases l with l | ⟨k,c,e,z⟩
  ·exact .inl l
  ·exact .inr ⟨k,c,e,cellK x c e _ z⟩
 ·obtain ⟨v,z⟩:=I.cell x c e;exact ⟨v,cellK x c e v z⟩
 ·obtain ⟨m,⟨o,_,_,ho,_⟩,_⟩:=I.loc;exact free _ o (λz=>(hch _ z).2.1 rfl) ho I.free
 ·obtain ⟨v,o,ho,hd⟩:=I.cell x c e;exact free c o (λz=>(hch c z).2.2.1 x c e rfl) ho (I.eY x c e)
 ·obtain ⟨e,n,ne,nf,d⟩:=I.pin p hp;have sG:p.1∉ch:=λz=>(hch p.1 z).2.2.2 p hp rfl;exact ⟨keep p.1 p.2 ne nf sG e n,free p.1 p.2 sG e n,ne,nf,d⟩
theorem Inv.un {t':Nat}(I:Inv X pins σ H s)(u:Un X.fs [] H H' s.heap h')(hok:d8 X.prog X.w H' h'):Inv X pins σ H' {s with heap:=h',toks:=t'}:=by
 obtain ⟨m,⟨o,es,ep,ho,r⟩,_⟩:=id I.loc;obtain ⟨sl,hL⟩:=u.any ho I.free (by simp);exact I.step (g':=s.gens) (d':=s.drawn) (ch:=[]) (λ_ z=>nomatch z) (λb o _ hb _ e n=>u.keep b o e n hb (by simp)) (λb o _ hb _ e n=>u.slot b o e n hb (by simp)) (λb o _ e n=>u.free b o e n (by simp)) (λb o _ e=>u.there b o e (by simp)) u.tups u.jy u.j7 (λm' hm=>by
  obtain ⟨o',es',ep',ho',r'⟩:=hm;rw[ho]at ho';cases ho';exact ⟨_,es',ep',hL,r'⟩) hok I.bare
theorem Inv.call {g':Array GenState}{t':Nat}{d':Drawn}{ch:List Addr}(I:Inv X pins σ H s)(u:Un (frs X.stack) ch H H' s.heap h')(hok:d8 X.prog X.w H' h')(hg:AllBare g')(hch:∀b∈ch,(b∈X.ex\/X.s₀.heap.objs.size<=b)/\b≠X.env.locals/\(∀x c,X.env.cells.lookup x=some c->c≠b)/\∀p∈X.pn++pins,p.1≠b):
  Inv X pins σ H' {s with heap:=h',gens:=g',drawn:=d',toks:=t'}:=by
 obtain ⟨m,⟨o,es,ep,ho,r⟩,_⟩:=id I.loc;obtain ⟨sl,hL⟩:=u.any ho I.free λz=>(hch _ z).2.1 rfl;exact I.step (ch:=ch) hch (λb o hL hb hc e n=>u.keep b o e n (λz=>(mem_cons.mp (I.Br b z)).elim hL hb) hc) (λb o _ _ hc e n=>u.any e n hc) (λb o hc e n=>u.free b o e n hc) (λb o hc e=>u.there b o e hc) u.tups u.jy u.j7 (λm' hm=>by
  obtain ⟨o',es',ep',ho',r'⟩:=hm;rw[ho]at ho';cases ho';exact ⟨_,es',ep',hL,r'⟩) hok hg
theorem Inv.turned {t':Nat}{it:Addr}(I:Inv X pins σ H s)(k:∀b o,b≠it->s.heap.get? b=some o->h'.get? b=some o)(hn:H it=none)(hL:it≠X.env.locals)(h1:it∈X.ex\/X.s₀.heap.objs.size<=it)(h2:∀x c,X.env.cells.lookup x=some c->c≠it)(h3:∀p∈X.pn++pins,p.1≠it):Inv X pins σ H {s with heap:=h',toks:=t'}:=by
 have nit:∀b u,H b=some u->b≠it:=λb u e z=>by rw[z,hn]at e;cases e
 refine I.step (g':=s.gens) (d':=s.drawn) (ch:=[it]) (λb hb=>?_) (λb o _ _ hc e _=>k b o (λz=>hc (by simp[z])) e) (λb o _ _ hc e _=>⟨o.slots,k b o (λz=>hc (by simp[z])) e⟩) (λ_ _ _ _ n=>n)
  (λb o hc e=>⟨o,k b o (λz=>hc (by simp[z])) e⟩) (λ_ _ e=>e) (λ_ _ _ e=>e) (λb ps e=>⟨#[],by rw[e];simp⟩) (λm hm=>?_) (λb u e=>?_) I.bare
 ·have e:b=it:=by simpa using hb
  subst e;exact ⟨h1,hL,h2,h3⟩
 ·obtain ⟨o,es,ep,ho,r⟩:=hm;exact ⟨o,es,ep,k _ o (Ne.symm hL) ho,r⟩
 ·refine (I.hok b u e).stay (λc v hc q=>k c v ?_ q) (λ_ q=>q) λ_ _ q=>q;rcases hc with z | z
  ·rw[z];exact nit b u e
  ·exact nit c _ z
theorem Inv.tok (I:Inv X pins σ H s)(t:Nat):Inv X pins σ H {s with toks:=t}:=I.un (h':=s.heap) (t':=t) Un.refl I.hok
theorem Inv.kept (I:Inv X pins σ H s)(k:∀b u,s.heap.get? b=some u->h'.get? b=some u):Inv X pins σ H {s with heap:=h',toks:=t'}:=I.un (Un.kept k) (I.hok.kept k)
theorem Inv.laid (I:Inv X pins σ H s)(k:∀b u,s.heap.get? b=some u->h'.get? b=some u)(hp:s.heap.objs.size<=a)(new:cj X.prog X.w (upd H a o) h' a o):
  Inv X pins σ (upd H a o) {s with heap:=h',toks:=t'}:=I.un (Un.laid k hp (I.hok.fresh hp)) (I.hok.laid k hp new)
theorem Inv.write (I:Inv X pins σ H s)(mu:Wr (H x))(he:e=x\/H e=some (.own x))(k:∀b u,b≠e->s.heap.get? b=some u->h'.get? b=some u)(heo:∃u,h'.get? e=some u)(new:cj X.prog X.w (upd H x o) h' x o):Inv X pins σ (upd H x o) {s with heap:=h',toks:=t'}:=I.un (Un.write mu he k heo) (I.hok.write mu he k heo new)
theorem Inv.Sh (I:Inv X pins σ H s)(h:∀p∈aip,s.heap.get? p.1=some p.2/\H p.1=none/\p.1≠X.env.locals/\p.1∉X.fs/\∀v,p.2.data≠.cell v):Inv X aip σ H s:=
 ⟨I.ok,I.os,I.bare,I.base,I.loc,I.cell,I.free,I.eY,λp hp=>(mem_append.mp hp).elim (λz=>I.pin p (List.mem_append_left _ z)) (h p),I.hok,I.len⟩
theorem HX {N:List Str}(hN:N.Nodup){i j:Nat}{x:Str}(a:N[i]?=some x)(b:N[j]?=some x):i=j:=by
 obtain ⟨h1,e1⟩:=List.getElem?_eq_some_iff.mp a;obtain ⟨h2,e2⟩:=List.getElem?_eq_some_iff.mp b;exact (List.getElem_inj hN).mp (e1.trans e2.symm)
theorem Mu {M:Model}{A:Around}{E:Value->Shared->Prop}{i:Nat}{x:Str}{v:V}{u:Value}{Q:Unit->Shared->Prop}(I:Inv X pins σ H s)(hN:X.N.Nodup)(hi:X.N[i]?=some x)(hx:Loc X.env.scope x)(r:RelV v u)(h:∀s',Inv X pins (σ.set i (some v)) H s'->(∃a,Heap.SameBut a s.heap s'.heap/\(a=X.env.locals\/X.env.cells.lookup x=some a))->Q () s')(hf:X.fn x=true\/X.env.scope.names.lookup x=some .local:=by first | exact .inl rfl | exact .inr rfl | assumption):wpAny M A (storeName X.env x u) Q E s:=by
 obtain ⟨m,hn,hl⟩:=id I.loc;have hcls:(X.env.scope.kind == .class || (X.env.scope.kind == .module && X.env.locals != X.env.globals))=false:=by rw[I.ok.kind];rfl
 have aaP:i < σ.length:=by rw[I.len];exact (List.getElem?_eq_some_iff.mp hi).1
 have Bq:=I.Bq;have tracked:∀{a:Addr} {h':Heap},(∃o,s.heap.get? a=some o/\H a=none)->Heap.SameBut a s.heap h'->d8 X.prog X.w H h':=λ{a h'} ha hs b ob e=>by
  obtain ⟨_,_,hfree⟩:=ha;refine (I.hok b ob e).stay (λc w' hc q=>(hs.2 c ?_).trans q) (λ_ q=>q) λ_ _ q=>q;rintro rfl;rcases hc with rfl | hc
  ·rw[hfree]at e;cases e
  ·rw[hfree]at hc;cases hc
 rcases hx with hk | hk
 ·refine wpAny_storeName_local hk hn (λh' hn' hs=>?_) hcls;obtain ⟨oL,_,_,hoL,_⟩:=id hn;refine h _ ⟨I.ok,I.os,I.bare,⟨λb o e n hb hx=>?_,λb o e n hb hx=>?_,I.base.free,λb o e hx=>?_,I.base.tups,I.base.jy,I.base.j7⟩,⟨_,hn',λj y v' e1 e2 e3=>?_⟩,λy c e=>?_,I.free,I.eY,λp hp=>?_,tracked ⟨oL,hoL,I.free⟩ hs,by simpa using I.len⟩ ⟨_,hs,.inl rfl⟩
  ·exact (hs.2 b (ne_of_lt (lt_of_lt_of_le (lt_size e) I.ok.above))).trans (I.base.keep b o e n hb hx)
  ·obtain ⟨sl,e1⟩:=I.base.slot b o e n hb hx;exact ⟨sl,(hs.2 b (ne_of_lt (lt_of_lt_of_le (lt_size e) I.ok.above))).trans e1⟩
  ·obtain ⟨o',e1⟩:=I.base.there b o e hx;exact ⟨o',(hs.2 b (ne_of_lt (lt_of_lt_of_le (lt_size e) I.ok.above))).trans e1⟩
  ·by_cases hj:j=i
   ·subst hj;rw[hi]at e1;cases e1;rw[getElem?_set_self aaP]at e2;cases e2;exact ⟨u,r,.inl ⟨hk,by simp⟩⟩
   ·rw[getElem?_set_ne (Ne.symm hj)]at e2;obtain ⟨u',r',q⟩:=hl j y v' e1 e2 e3;refine ⟨u',r',?_⟩;rcases q with ⟨k,e⟩ | ⟨k,c,e,z⟩
    ·refine .inl ⟨k,?_⟩;have:y≠x:=λe=>hj (HX hN e1 (e ▸ hi));simp[this,e]
    ·exact .inr ⟨k,c,e,z.sameBut hs (Bq y c e)⟩
  ·obtain ⟨w',z⟩:=I.cell y c e;exact ⟨w',z.sameBut hs (Bq y c e)⟩
  ·obtain ⟨e,n,ne,nf,d⟩:=I.pin p hp;exact ⟨(hs.2 p.1 ne).trans e,n,ne,nf,d⟩
 ·have hfn:X.fn x=true:=by
   rcases hf with z | z
   ·exact z
   ·rw[z]at hk;cases hk
  obtain ⟨c,hc⟩:=I.ok.has x (.inl hk);obtain ⟨w',z⟩:=I.cell x c hc;refine wpAny_storeName_cell I.ok.kind hk hc z (λh' hc' hs=>?_);obtain ⟨oc,hoc,amD⟩:=id z;refine h {s with heap:=h'} ⟨I.ok,I.os,I.bare,⟨λb o e n hb hx=>?_,λb o e n hb hx=>?_,I.base.free,λb o e hx=>?_,I.base.tups,I.base.jy,I.base.j7⟩,⟨m,hn.sameBut hs (Ne.symm (Bq x c hc)),λj y v' e1 e2 e3=>?_⟩,λy c' e=>?_,I.free,I.eY,λp hp=>?_,tracked ⟨oc,hoc,I.eY x c hc⟩ hs,by simpa using I.len⟩ ⟨c,hs,.inr hc⟩
  ·exact (hs.2 b (ne_of_lt (lt_of_lt_of_le (lt_size e) (I.ok.cab x c hfn hc)))).trans (I.base.keep b o e n hb hx)
  ·obtain ⟨sl,e1⟩:=I.base.slot b o e n hb hx;exact ⟨sl,(hs.2 b (ne_of_lt (lt_of_lt_of_le (lt_size e) (I.ok.cab x c hfn hc)))).trans e1⟩
  ·obtain ⟨o',e1⟩:=I.base.there b o e hx;exact ⟨o',(hs.2 b (ne_of_lt (lt_of_lt_of_le (lt_size e) (I.ok.cab x c hfn hc)))).trans e1⟩
  ·by_cases hj:j=i
   ·subst hj;rw[hi]at e1;cases e1;rw[getElem?_set_self aaP]at e2;cases e2;exact ⟨u,r,.inr ⟨.inl hk,c,hc,hc'⟩⟩
   ·rw[getElem?_set_ne (Ne.symm hj)]at e2;obtain ⟨u',r',q⟩:=hl j y v' e1 e2 e3;refine ⟨u',r',?_⟩;rcases q with q | ⟨k,c',e,z'⟩
    ·exact .inl q
    ·refine .inr ⟨k,c',e,z'.sameBut hs ?_⟩;rintro rfl;exact hj (HX hN e1 (I.ok.inj _ _ _ e hc ▸ hi))
  ·by_cases hcc:c'=c
   ·subst hcc;exact ⟨_,hc'⟩
   ·obtain ⟨w2,z2⟩:=I.cell y c' e;exact ⟨w2,z2.sameBut hs hcc⟩
  ·obtain ⟨e,n,ne,nf,d⟩:=I.pin p hp;refine ⟨(hs.2 p.1 ?_).trans e,n,ne,nf,d⟩;intro q;rw[q,hoc]at e;have q':oc=p.2:=Option.some.inj e;exact d w' (by rw[<-q'];exact amD)
theorem j8 (I:Inv X pins σ H s)(hN:X.N.Nodup)(hi:X.N[i]?=some x)(hx:Loc X.env.scope x)(r:RelV v u)(h:∀s',Inv X pins (σ.set i (some v)) H s'->Q () s')(hf:X.fn x=true\/X.env.scope.names.lookup x=some .local:=by first | exact .inl rfl | exact .inr rfl | assumption):wpAny M A (storeName X.env x u) Q E s:=
 Mu I hN hi hx r (λs' I' _=>h s' I') hf
theorem Inv.call' (I:Inv X pins σ H s)(ho:s'.os=s.os)(u:Un (frs X.stack) ch H H' s.heap s'.heap)(hok:d8 X.prog X.w H' s'.heap)(hg:AllBare s'.gens)(hch:∀b∈ch,(b∈X.ex\/X.s₀.heap.objs.size<=b)/\b≠X.env.locals/\(∀x c,X.env.cells.lookup x=some c->c≠b)/\∀p∈X.pn++pins,p.1≠b):Inv X pins σ H' s':=by
 obtain ⟨h',g',d',t',o'⟩:=s';have e:o'=s.os:=ho;subst e;exact I.call (g':=g') (t':=t') (d':=d') u hok hg hch
end
noncomputable abbrev XK:=Value->Option Addr->Hp->Prop
noncomputable abbrev St:=List (Option V)
noncomputable abbrev VK:=V->Hp->Prop
noncomputable abbrev TE:=St->Hp->VK->Prop
noncomputable abbrev TT:=St->Hp->(Bool->Hp->Prop)->Prop
noncomputable abbrev TA:=St->Hp->(List V->Hp->Prop)->Prop
structure Ends where
 nx:St->Hp->Prop
 rt:VK
 bk:St->Hp->Prop:=λ_ _=>False
 ct:St->Hp->Prop:=λ_ _=>False
noncomputable abbrev TS:=Ends->St->Hp->Prop
def EP (X:Cx)(pins:List (Addr×Obj))(σ:St)(Q:VK)(u:Value)(s':Shared):Prop:=∃v H',Inv X pins σ H' s'/\RelV v u/\Q v H'
def TP (X:Cx)(pins:List (Addr×Obj))(σ:St)(Q:Bool->Hp->Prop)(b:Bool)(s':Shared):Prop:=∃H',Inv X pins σ H' s'/\Q b H'
def AP (X:Cx)(pins:List (Addr×Obj))(σ:St)(Q:List V->Hp->Prop)(us:List Value)(s':Shared):Prop:=∃vs H',Inv X pins σ H' s'/\Vals vs us/\Q vs H'
def SP (X:Cx)(pins:List (Addr×Obj))(D:Ends)(f:Flow)(s':Shared):Prop:=
 match f with
 | .next=>∃σ' H',Inv X pins σ' H' s'/\D.nx σ' H'
 | .brk=>∃σ' H',Inv X pins σ' H' s'/\D.bk σ' H'
 | .cont=>∃σ' H',Inv X pins σ' H' s'/\D.ct σ' H'
 | .ret u=>∃v σ' H',Inv X pins σ' H' s'/\RelV v u/\D.rt v H'
def PE (X:Cx)(e:Expr)(t:TE):Prop:=
 ∀(pins:List (Addr×Obj)) (s:Shared) (σ:St) (H:Hp) (Q:VK),Inv X pins σ H s->t σ H Q->wpAny (model X.prog X.w) X.A (eval e X.env) (EP X pins σ Q) X.xe s
def PT (X:Cx)(e:Expr)(t:TT):Prop:=
 ∀(pins:List (Addr×Obj)) (s:Shared) (σ:St) (H:Hp) (Q:Bool->Hp->Prop),Inv X pins σ H s->t σ H Q->wpAny (model X.prog X.w) X.A (isTrue e X.env (eval e X.env)) (TP X pins σ Q) X.xe s
def PW (X:Cx)(e:Expr)(t:TT):Prop:=
 ∀(whole:Sem Value) (pins:List (Addr×Obj)) (s:Shared) (σ:St) (H:Hp) (Q:Bool->Hp->Prop),Inv X pins σ H s->t σ H Q->wpAny (model X.prog X.w) X.A (isTrue e X.env whole) (TP X pins σ Q) X.xe s
theorem PW.pt (h:PW X e t):PT X e t:=h _
def PA (X:Cx)(es:List Expr)(t:TA):Prop:=
 ∀(pos:Pos) (pins:List (Addr×Obj)) (s:Shared) (σ:St) (H:Hp) (Q:List V->Hp->Prop),Inv X pins σ H s->t σ H Q->wpAny (model X.prog X.w) X.A (spliced (backTo pos (starEach es X.env))) (AP X pins σ Q) X.xe s
def PS (X:Cx)(st:Stmt)(t:TS):Prop:=
 ∀(pins:List (Addr×Obj)) (s:Shared) (σ:St) (H:Hp) (D:Ends),Inv X pins σ H s->t D σ H->wpAny (model X.prog X.w) X.A (exec st X.env) (SP X pins D) X.xe s
def mC (X:Cx)(st:List Stmt)(t:TS):Prop:=
 ∀(pins:List (Addr×Obj)) (s:Shared) (σ:St) (H:Hp) (D:Ends),Inv X pins σ H s->t D σ H->wpAny (model X.prog X.w) X.A (execs st X.env) (SP X pins D) X.xe s
theorem bf {α:Type}{t:Sem α}{Q Q':α->Shared->Prop}(h:wpAny M A t Q E s)(hQ:∀a s,Q a s->Q' a s):wpAny M A t Q' E s:=wpAny_mono h hQ λ_ _ x=>x
section
variable {X:Cx}
theorem bin {a b:Expr}{ta tb:TE}(ha:PE X a ta)(hb:PE X b tb){pins:List (Addr×Obj)}{s:Shared}{σ:St}{H:Hp}{R:V->V->Hp->Prop}(I:Inv X pins σ H s)(h:ta σ H λx H1=>tb σ H1 λy H2=>R x y H2){α:Type}{Q:α->Shared->Prop}{f:Value->Value->Sem α}(hf:∀v u s2 x y H2,Inv X pins σ H2 s2->RelV x v->RelV y u->R x y H2->wpAny (model X.prog X.w) X.A (f v u) Q X.xe s2):
  wpAny (model X.prog X.w) X.A (eval a X.env) (λv s₁=>wpAny (model X.prog X.w) X.A (eval b X.env) (λu s₂=>wpAny (model X.prog X.w) X.A (f v u) Q X.xe s₂) X.xe s₁) X.xe s:=by
 refine bf (ha pins s σ H _ I h) λv s1 ⟨x,H1,I1,r1,q1⟩=>?_;refine bf (hb pins s1 σ H1 _ I1 q1) λu s2 ⟨y,H2,I2,r2,q2⟩=>?_;exact hf v u s2 x y H2 I2 r1 r2 q2
def amE (i:Nat):TE:=λσ H Q=>∃v,σ[i]?=some (some v)/\Q v H
def tC (v:V):TE:=λ_ H Q=>Q v H
theorem Py (hN:X.N[i]?=some x)(hv:Jr X.env.scope x)(hd:cN x:=by decide)(hcd:(x == ("__classdict__":Str))=false:=by decide):PE X (.Name x pos) (amE i):=by
 intro pins s σ H Q I h;obtain ⟨v,e,h⟩:=h;obtain ⟨m,hn,hl⟩:=I.loc;obtain ⟨u,r,l⟩:=hl i x v hN e hv;have fin:EP X pins σ Q u s:=⟨v,H,I,r,h⟩
 rcases l with ⟨hk,hm⟩ | ⟨hk,c,hc,hcell⟩
 ·exact wpAny_Name (wpAny_loadName_local I.ok.kind hk hn hm fin) hd
 ·rcases hk with hk | hk
  ·exact wpAny_Name (wpAny_loadName_cell I.ok.kind hk hc hcell fin) hd
  ·exact wpAny_Name (wpAny_loadName_free I.ok.kind hk hc hcell fin hcd) hd
theorem aew {i j pos}:PE X (.Constant (.int i) j pos) (tC (.int i)):=λ_ _ _ H _ I h=>wpAny_Constant_int ⟨.int i,H,I.tok _,⟨_,rfl⟩,h⟩
theorem aiq {b j pos}:PE X (.Constant (.bool b) j pos) (tC (.bl b)):=λ_ _ _ H _ I h=>Constant_bool ⟨.bl b,H,I,rfl,h⟩
theorem Pz {j pos}:PE X (.Constant .none j pos) (tC .non):=λ_ _ _ H _ I h=>Constant_none ⟨.non,H,I,rfl,h⟩
theorem aex {x j pos}:PE X (.Constant (.str x) j pos) (tC (.str x)):=λ_ _ _ H _ I h=>Calls.Constant_str ⟨.str x,H,I.tok _,⟨_,rfl⟩,h⟩
def Gl (X:Cx)(x:Str):Prop:=X.env.kindOf x=some .globalImplicit
theorem kY (I:Inv X pins σ H s)(hg:Gl X x)(hm:X.mg x=some u)(h:Q u s)(hd:cN x:=by decide):wpAny (model X.prog X.w) X.A (eval (.Name x pos) X.env) Q E s:=
 Calls.Name_function_global I.ok.kind hg (Calls.loadGlobal_global (by rw[I.ok.glob];exact I.mod.glob.keeps I.bk) hm h) hd
theorem qw (I:Inv X pins σ H s)(hg:Gl X x)(hm:X.mg x=none)(hv:bootBuiltins x=some u)(h:Q u s)(hn:x≠"__name__":=by decide)(hd:cN x:=by decide):wpAny (model X.prog X.w) X.A (eval (.Name x pos) X.env) Q E s:=by
 obtain ⟨mb,h1,h2⟩:=I.mod.blt;exact Calls.Name_function_global I.ok.kind hg (Calls.loadGlobal_builtin (by rw[I.ok.glob];exact I.mod.glob.keeps I.bk) hm (by rw[I.ok.blt];exact h1.keeps I.bk) ((h2 x hn).trans hv) h) hd
theorem FN (hg:Gl X x)(hm:X.mg x=some u)(r:RelV v u)(hd:cN x:=by decide):PE X (.Name x pos) (tC v):=
 λ_ _ _ H _ I h=>kY I hg hm ⟨v,H,I,r,h⟩ hd
theorem ab1 (hg:Gl X x)(hm:X.mg x=none)(hv:bootBuiltins x=some u)(r:RelV v u)(hn:x≠"__name__":=by decide)(hd:cN x:=by decide):PE X (.Name x pos) (tC v):=
 λ_ _ _ H _ I h=>qw I hg hm hv ⟨v,H,I,r,h⟩ hn hd
variable {a b:Expr}{ta tb:TE}{pos:Pos}
variable {tA tB':TT}{rest:List Expr}
def amF (t u:TT):TT:=λσ H Q=>t σ H λc H1=>if c=true then u σ H1 Q else Q false H1
def tOr (t u:TT):TT:=λσ H Q=>t σ H λc H1=>if c=true then Q true H1 else u σ H1 Q
def amG (t:TT):TT:=λσ H Q=>t σ H λc H1=>Q (!c) H1
theorem pw_and1 (ha:PT X a tA):PW X (.BoolOp .And [a] pos) tA:=by
 intro wh pins s σ H Q I h;refine isTrue_and (bf (ha pins s σ H Q I h) λc s1 e=>?_);cases c with
 | true=>exact isTrue_and_nil e
 | false=>exact e
theorem pw_or1 (ha:PT X a tA):PW X (.BoolOp .Or [a] pos) tA:=by
 intro wh pins s σ H Q I h;refine isTrue_or (bf (ha pins s σ H Q I h) λc s1 e=>?_);cases c with
 | false=>exact isTrue_or_nil e
 | true=>exact e
theorem pw_and (ha:PT X a tA)(hb:PW X (.BoolOp .And (b::rest) pos) tB'):PW X (.BoolOp .And (a::b::rest) pos) (amF tA tB'):=by
 intro wh pins s σ H Q I h;refine isTrue_and (bf (ha pins s σ H _ I h) λc s1 ⟨H1,I1,q1⟩=>?_);cases c with
 | true=>exact hb wh pins s1 σ H1 Q I1 q1
 | false=>exact ⟨H1,I1,q1⟩
theorem pw_or (ha:PT X a tA)(hb:PW X (.BoolOp .Or (b::rest) pos) tB'):PW X (.BoolOp .Or (a::b::rest) pos) (tOr tA tB'):=by
 intro wh pins s σ H Q I h;refine isTrue_or (bf (ha pins s σ H _ I h) λc s1 ⟨H1,I1,q1⟩=>?_);cases c with
 | true=>exact ⟨H1,I1,q1⟩
 | false=>exact hb wh pins s1 σ H1 Q I1 q1
theorem aey (ha:PT X a tA):PT X (.UnaryOp .Not a pos) (amG tA):=by
 intro pins s σ H Q I h;exact isTrue_not (ha pins s σ H (λc H1=>Q (!c) H1) I h)
def air (ta tb:TE):TE:=λσ H Q=>ta σ H λx H1=>∃c,x=.bl c/\if c=true then tb σ H1 Q else Q (.bl false) H1
theorem aez {op}(h:PE X a t):PE X (.BoolOp op [a] pos) t:=λpins s σ H Q I hw=>BoolOp_one (h pins s σ H Q I hw)
theorem aeA (ha:PE X a ta)(hb:PE X (.BoolOp .And (b::rest) pos) tb):PE X (.BoolOp .And (a::b::rest) pos) (air ta tb):=by
 intro pins s σ H Q I h;refine BoolOp_and (bf (ha pins s σ H _ I h) λv s1 ⟨x,H1,I1,r1,q1⟩=>?_);obtain ⟨c,rfl,q1⟩:=q1;cases r1;refine wpAny_truthy_bool ?_;cases c with
 | true=>exact hb pins s1 σ H1 Q I1 q1
 | false=>exact ⟨.bl false,H1,I1,rfl,q1⟩
def tIf (t:TT)(ta tb:TE):TE:=λσ H Q=>t σ H λc H1=>if c=true then ta σ H1 Q else tb σ H1 Q
theorem Zb (hc:PT X c tA)(ha:PE X a ta)(hb:PE X b tb):PE X (.IfExp c a b pos) (tIf tA ta tb):=by
 intro pins s σ H Q I h;refine wpAny_IfExp (bf (hc pins s σ H _ I h) λd s1 ⟨H1,I1,q1⟩=>?_);cases d with
 | true=>exact ha pins s1 σ H1 Q I1 q1
 | false=>exact hb pins s1 σ H1 Q I1 q1
end
def jd (K:PySem.W.Frag)(H:Hp)(a:Addr)(xs:List V):Prop:=
 Rd H a (.lst xs)\/
  ∃(o:Obj) (its:Array Value) (n:Nat),K.lookup a=some o/\o.cls=.type "list"/\o.dict=none/\o.data=.seq its n/\its.size<=sizeLine/\Vals xs its.toList
def gA (K:PySem.W.Frag)(H:Hp)(a:Addr)(xs:List V):Prop:=
 Rd H a (.tup xs)\/
  ∃(o:Obj) (its:Array Value) (n:Nat),K.lookup a=some o/\o.cls=.type "tuple"/\o.dict=none/\o.data=.seq its n/\its.size<=sizeLine/\Vals xs its.toList
def amH:Value->Option V
 | .none=>some .non
 | .bool b=>some (.bl b)
 | .int i _=>some (.int i)
 | .str x _=>some (.str x)
 | .bytes b _=>some (.Ms b)
 | .float b _=>some (.flt b)
 | .ref a=>some (.ref a)
 | .type n=>some (.ty n)
 | _=>none
theorem RelV.abs (r:RelV x u):amH u=some x:=by
 cases x with
 | non=>cases r;rfl
 | bl _=>cases r;rfl
 | int _=>obtain ⟨t,rfl⟩:=r;rfl
 | str _=>obtain ⟨t,rfl⟩:=r;rfl
 | Ms _=>obtain ⟨t,rfl⟩:=r;rfl
 | flt _=>obtain ⟨t,rfl⟩:=r;rfl
 | ref _=>cases r;rfl
 | ty _=>cases r;rfl
theorem RelV.inj (r:RelV x u)(q:RelV y u):x=y:=Option.some.inj (r.abs.symm.trans q.abs)
theorem Vals.inj:∀{xs ys:List V} {us:List Value},Vals xs us->Vals ys us->xs=ys
 | _,_,_,.nil,.nil=>rfl
 | _,_,_,.cons r t,.cons r' t'=>by rw[r.inj r',Vals.inj t t']
section
variable {X:Cx}{pins:List (Addr×Obj)}{σ:St}{H:Hp}{s:Shared}{a:Addr}{xs ys:List V}
theorem jd.of {K:PySem.W.Frag}(h:H a=some (.lst xs)):jd K H a xs:=.inl (.inl h)
theorem gA.of {K:PySem.W.Frag}(h:H a=some (.tup xs)):gA K H a xs:=.inl (.inl h)
theorem Inv.list (I:Inv X pins σ H s)(h:jd X.K H a xs):∃its:List Value,Vals xs its/\PlainL s.heap a its.toArray/\xs.length<=sizeLine:=by
 rcases h with h | ⟨o,its,n,hk,hc,hd,hs,hz,r⟩
 ·obtain ⟨z,its,n,r,e⟩:=h.ok I.hok;exact ⟨its,r,⟨_,n,e,rfl,rfl,rfl⟩,z⟩
 ·refine ⟨its.toList,r,⟨o,n,I.dJ a o hk,hc,hd,by simpa using hs⟩,?_⟩;have e:=r.length;simp only[Array.length_toList]at e
  lia
theorem Inv.tuple (I:Inv X pins σ H s)(h:gA X.K H a xs):∃its:List Value,Vals xs its/\IsTup s.heap a its.toArray/\xs.length<=sizeLine:=by
 rcases h with h | ⟨o,its,n,hk,hc,_,hs,hz,r⟩
 ·obtain ⟨z,its,r,p⟩:=h.ok I.hok;exact ⟨its,r,p.1,z⟩
 ·refine ⟨its.toList,r,⟨o,I.dJ a o hk,hc,n,by simpa using hs⟩,?_⟩;have e:=r.length;simp only[Array.length_toList]at e
  lia
theorem Inv.HY (I:Inv X pins σ H s)(h:jd X.K H a xs)(h':jd X.K H a ys):xs=ys:=by
 obtain ⟨its,r,⟨o,n,e,_,_,d⟩,_⟩:=I.list h;obtain ⟨its',r',⟨o',n',e',_,_,d'⟩,_⟩:=I.list h';rw[e]at e';cases e';rw[d]at d';injection d' with d1 _
 have:its=its':=by simpa using congrArg Array.toList d1
 subst this;exact r.inj r'
theorem Inv.Bs (I:Inv X pins σ H s)(h:gA X.K H a xs)(h':gA X.K H a ys):xs=ys:=by
 obtain ⟨its,r,⟨o,e,_,n,d⟩,_⟩:=I.tuple h;obtain ⟨its',r',⟨o',e',_,n',d'⟩,_⟩:=I.tuple h';rw[e]at e';cases e';rw[d]at d';injection d' with d1 _
 have:its=its':=by simpa using congrArg Array.toList d1
 subst this;exact r.inj r'
end
noncomputable abbrev Cx.wish (X:Cx) (E:Value->Shared->Prop):Cx:={X with xe:=E}
noncomputable abbrev Cx.qx (X:Cx):Cx:=X.wish λ_ _=>False
theorem Cx.Ok.wish {X:Cx}(ok:X.Ok)(E:Value->Shared->Prop):(X.wish E).Ok:=
 ⟨ok.mod,ok.kind,ok.glob,ok.blt,ok.above,ok.inj,ok.has,ok.cab,ok.hd,ok.frames,ok.stk,ok.exf,ok.bs,ok.G4,ok.oG,ok.Px,ok.mG,ok.Mt⟩
theorem Cx.Ok.gB {X:Cx}{E:Value->Shared->Prop}(ok:(X.wish E).Ok):X.Ok:=
 ⟨ok.mod,ok.kind,ok.glob,ok.blt,ok.above,ok.inj,ok.has,ok.cab,ok.hd,ok.frames,ok.stk,ok.exf,ok.bs,ok.G4,ok.oG,ok.Px,ok.mG,ok.Mt⟩
section
variable {X:Cx}{pins:List (Addr×Obj)}{σ:St}{H:Hp}{s:Shared}{E:Value->Shared->Prop}
theorem Inv.wish (I:Inv X pins σ H s)(E:Value->Shared->Prop):Inv (X.wish E) pins σ H s:=⟨I.ok.wish E,I.os,I.bare,I.base,I.loc,I.cell,I.free,I.eY,I.pin,I.hok,I.len⟩
theorem Inv.gB (I:Inv (X.wish E) pins σ H s):Inv X pins σ H s:=⟨I.ok.gB,I.os,I.bare,I.base,I.loc,I.cell,I.free,I.eY,I.pin,I.hok,I.len⟩
theorem SP.gB (h:SP (X.wish E) pins D f s'):SP X pins D f s':=by
 cases f with
 | next=>obtain ⟨σ',H',I,q⟩:=h;exact ⟨σ',H',I.gB,q⟩
 | brk=>obtain ⟨σ',H',I,q⟩:=h;exact ⟨σ',H',I.gB,q⟩
 | cont=>obtain ⟨σ',H',I,q⟩:=h;exact ⟨σ',H',I.gB,q⟩
 | ret u=>obtain ⟨v,σ',H',I,r,q⟩:=h;exact ⟨v,σ',H',I.gB,r,q⟩
theorem mC.qx {st:List Stmt}{t:TS}(h:mC X.qx st t):mC X st t:=λpins s σ H D I hw=>
 wpAny_mono (h pins s σ H D (I.wish _) hw) (λ_ _ q=>q.gB) λ_ _ z=>False.elim z
end
section
variable {X:Cx}{st:Stmt}{rest:List Stmt}{t u:TS}{e:Expr}{te:TE}{pos:Pos}
def ais:TS:=λD σ H=>D.nx σ H
def amI (t u:TS):TS:=λD σ H=>t {D with nx:=u D} σ H
theorem ab3:mC X [] ais:=λ_ _ σ H _ I h=>wpAny_execs_nil ⟨σ,H,I,h⟩
theorem Zc (h1:PS X st t)(h2:mC X rest u):mC X (st::rest) (amI t u):=by
 intro pins s σ H D I h;refine wpAny_execs_cons (bf (h1 pins s σ H {D with nx:=u D} I h) λf s1 q=>?_);cases f with
 | next=>
  obtain ⟨σ',H',I',q⟩:=q;exact h2 pins s1 σ' H' D I' q
 | ret v=>exact q
 | brk=>exact q
 | cont=>exact q
theorem ab4 (h1:PS X st t):mC X [st] t:=by
 intro pins s σ H D I h;refine wpAny_execs_cons (bf (h1 pins s σ H D I h) λf s1 q=>?_);cases f with
 | next=>exact wpAny_execs_nil q
 | ret v=>exact q
 | brk=>exact q
 | cont=>exact q
theorem Inv.quiet (I:Inv X pins σ H s):interactive X.env=false:=by simp[interactive,I.ok.kind]
def ait (te:TE):TS:=λD σ H=>te σ H λ_ H1=>D.nx σ H1
theorem ab5 (he:PE X e te)(hs:swapsWith e none pos.line X.env=pure false:=by rfl):PS X (.Expr e pos) (ait te):=by
 intro pins s σ H D I h;exact wpAny_Expr_any (bf (he pins s σ H _ I h) λv s1 ⟨x,H1,I1,r1,q1⟩=>⟨σ,H1,I1,q1⟩) I.quiet hs
def amJ (te:TE):TS:=λD σ H=>te σ H D.rt
theorem aeB (he:PE X e te):PS X (.Return (some e) pos) (amJ te):=by
 intro pins s σ H D I h;exact wpAny_Return_some (bf (he pins s σ H _ I h) λv s1 ⟨x,H1,I1,r1,q1⟩=>⟨x,σ,H1,I1,r1,q1⟩)
def amK (c:TT)(t u:TS):TS:=λD σ H=>c σ H λb H1=>if b=true then t D σ H1 else u D σ H1
theorem aiu (hc:PT X c tc)(ha:mC X a t)(hb:mC X b u):PS X (.If c a b pos) (amK tc t u):=by
 intro pins s σ H D I h;refine wpAny_If (bf (hc pins s σ H _ I h) λd s1 ⟨H1,I1,q1⟩=>?_);cases d with
 | true=>exact ha pins s1 σ H1 D I1 q1
 | false=>exact hb pins s1 σ H1 D I1 q1
end
noncomputable abbrev TG:=V->St->Hp->(St->Hp->Prop)->Prop
noncomputable abbrev Wu:=List V->St->Hp->(St->Hp->Prop)->Prop
def PG (X:Cx)(target:Expr)(t:TG):Prop:=
 ∀(pins:List (Addr×Obj)) (s:Shared) (σ:St) (H:Hp) (v:V) (u:Value) (Q:St->Hp->Prop),Inv X pins σ H s->RelV v u->t v σ H Q->
  wpAny (model X.prog X.w) X.A (assign target X.env u) (λ_ s'=>∃σ' H',Inv X pins σ' H' s'/\Q σ' H') X.xe s
def PGs (X:Cx)(ts:List Expr)(t:Wu):Prop:=
 ∀(pins:List (Addr×Obj)) (s:Shared) (σ:St) (H:Hp) (vs:List V) (us:List Value) (Q:St->Hp->Prop),Inv X pins σ H s->Vals vs us->t vs σ H Q->
  wpAny (model X.prog X.w) X.A (assignInOrder ((assignEach ts X.env).map (·.2)) us) (λ_ s'=>∃σ' H',Inv X pins σ' H' s'/\Q σ' H') X.xe s
noncomputable abbrev Zd:=V->V->V->Hp->(Hp->Prop)->Prop
def wR (X:Cx)(t:Zd):Prop:=
 ∀(pins:List (Addr×Obj)) (s:Shared) (σ:St) (H:Hp) (o i v:V) (ov iv u:Value) (Q:Hp->Prop),Inv X pins σ H s->RelV o ov->RelV i iv->RelV v u->t o i v H Q->
  wpAny (model X.prog X.w) X.A (setItem ov iv u) (λ_ s'=>∃H',Inv X pins σ H' s'/\Q H') X.xe s
noncomputable abbrev TIp:=V->V->Hp->VK->Prop
def PIp (X:Cx)(op:Operator)(t:TIp):Prop:=
 ∀(pins:List (Addr×Obj)) (s:Shared) (σ:St) (H:Hp) (x y:V) (v u:Value) (Q:VK),Inv X pins σ H s->RelV x v->RelV y u->t x y H Q->
  wpAny (model X.prog X.w) X.A (inplaceOp op v u) (EP X pins σ Q) X.xe s
section
variable {X:Cx}{pos:Pos}
def U3 (i:Nat):TG:=λv σ H Q=>Q (σ.set i (some v)) H
theorem uU (hN:X.N.Nodup)(hi:X.N[i]?=some x)(hx:Loc X.env.scope x)(hf:X.fn x=true\/X.env.scope.names.lookup x=some .local:=by first | exact .inl rfl | exact .inr rfl | assumption):PG X (.Name x pos) (U3 i):=by
 intro pins s σ H v u Q I r h;exact wpAny_assign_Name (j8 I hN hi hx r (λs' I'=>⟨_,H,I',h⟩) hf)
def amL:Wu:=λvs σ H Q=>vs=[]/\Q σ H
def aiv (t:TG)(u:Wu):Wu:=λvs σ H Q=>∃v r,vs=v::r/\t v σ H λσ' H'=>u r σ' H' Q
theorem ab6:PGs X [] amL:=by
 intro pins s σ H vs us Q I r h;obtain ⟨e,h⟩:=h;subst e;cases r;exact assignInOrder_nil ⟨σ,H,I,h⟩
theorem H_ (h1:PG X e t)(h2:PGs X es u)(hs:(assignEach (e::es) X.env).map (·.2)=assign e X.env::(assignEach es X.env).map (·.2):=by rfl):PGs X (e::es) (aiv t u):=by
 intro pins s σ H vs us Q I r h;obtain ⟨v,vr,e1,h⟩:=h;subst e1;cases r with
 | cons r rr=>
  rw[hs];refine assignInOrder_cons (bf (h1 pins s σ H _ _ _ I r h) λ_ s1 ⟨σ1,H1,I1,q1⟩=>?_);exact h2 pins s1 σ1 H1 _ _ Q I1 rr q1
def amM (K:PySem.W.Frag)(n:Nat)(t:Wu):TG:=λv σ H Q=>∃a xs,v=.ref a/\gA K H a xs/\xs.length=n/\t xs σ H Q
theorem aeD (hc:X.calm=true)(h:PGs X es t)(hn:(assignEach es X.env).length=n:=by rfl)(hst:(assignEach es X.env).findIdx? (·.1)=none:=by rfl):PG X (.Tuple es k pos) (amM X.K n t):=by
 intro pins s σ H v u Q I r hw;obtain ⟨a,xs,e1,hq,hl,hw⟩:=hw;subst e1;cases r;obtain ⟨its,rv,ht,hz⟩:=I.tuple hq;refine assign_Tuple_tuple (I.ok.hd hc) ht (by simp[hn,<-hl,rv.length]) hst λh' hx=>?_;have I1:Inv X pins σ H {s with heap:=h'}:=I.kept (t':=s.toks) λb o e=>hx b o (ne_of_lt (lt_size e)) e;exact h pins _ σ H xs _ Q I1 (by simpa using rv) hw
def amN (to ti:TE)(t:Zd):TG:=λv σ H Q=>to σ H λo H1=>ti σ H1 λi H2=>t o i v H2 λH3=>Q σ H3
theorem aeE (ho:PE X o to)(hi:PE X i ti)(hs:wR X t)(ha:∀v,assign (.Subscript o i pos) X.env v=(do
   let ov <-holding [v] (eval o X.env)
   let iv <-holding [v,ov] (eval i X.env)
   standAt pos
   holding [v,ov,iv] (setItem ov iv v)
   release [v,ov,iv] []):=by intro _;rfl):PG X (.Subscript o i pos) (amN to ti t):=by
 intro pins s σ H v u Q I r h;rw[ha];refine wpAny_bind (wpAny_holding (bf (ho pins s σ H _ I h) λov s1 ⟨x,H1,I1,r1,q1⟩=>?_));refine wpAny_bind (wpAny_holding (bf (hi pins s1 σ H1 _ I1 q1) λiv s2 ⟨y,H2,I2,r2,q2⟩=>?_));refine wpAny_bind (wpAny_standAt (wpAny_bind (wpAny_holding (bf (hs pins s2 σ H2 x y v ov iv u _ I2 r1 r2 r q2) λ_ s3 ⟨H3,I3,q3⟩=>?_))));exact wpAny_release ⟨σ,H3,I3,q3⟩
def Ze (te:TE)(g:TG):TS:=λD σ H=>te σ H λx H1=>g x σ H1 D.nx
theorem Wv (he:PE X e te)(hg:PG X tg g)(hs:swapsWithSole [tg] e pos.line X.env=pure false:=by rfl)(hw:swappedStores [tg] e X.env=pure none:=by rfl)(h1:(assignEach [tg] X.env).map (·.2)=[assign tg X.env]:=by rfl):PS X (.Assign [tg] e pos) (Ze te g):=by
 intro pins s σ H D I h;refine wpAny_Assign_stores (bf (he pins s σ H _ I h) λv s1 ⟨x,H1,I1,r1,q1⟩=>?_) hs hw;rw[h1];exact bf (hg pins s1 σ H1 x v _ I1 r1 q1) λ_ s2 q=>q
theorem aeF (hN:X.N.Nodup)(hi:X.N[i]?=some x)(hx:Loc X.env.scope x)(he:PE X e te)(hs:swapsWith e (some (.Name x pos')) pos.line X.env=pure false:=by rfl)(hf:X.fn x=true\/X.env.scope.names.lookup x=some .local:=by first | exact .inl rfl | exact .inr rfl | assumption):
  PS X (.Assign [.Name x pos'] e pos) (Ze te (U3 i)):=by
 intro pins s σ H D I h;refine wpAny_Assign_Name (bf (he pins s σ H _ I h) λv s1 ⟨y,H1,I1,r1,q1⟩=>?_) hs;exact j8 I1 hN hi hx r1 (λs2 I2=>⟨_,H1,I2,q1⟩) hf
def amO (i:Nat)(te:TE)(ti:TIp):TS:=λD σ H=>∃x,σ[i]?=some (some x)/\te σ H λy H1=>ti x y H1 λz H2=>D.nx (σ.set i (some z)) H2
theorem aeG (hN:X.N.Nodup)(hi:X.N[i]?=some x)(hx:Loc X.env.scope x)(he:PE X e te)(ho:PIp X op ti)(hf:X.fn x=true\/X.env.scope.names.lookup x=some .local:=by first | exact .inl rfl | exact .inr rfl | assumption):
  PS X (.AugAssign (.Name x pos') op e pos) (amO i te ti):=by
 intro pins s σ H D I h;obtain ⟨v,e1,h⟩:=h;obtain ⟨m,hn,hl⟩:=I.loc;have vis:Jr X.env.scope x:=by rcases hx with k | k;exact .inl k;exact .inr (.inl k)
 obtain ⟨u,r,l⟩:=hl i x v hi e1 vis;refine wpAny_AugAssign_Name ?_;have go:wpAny (model X.prog X.w) X.A (eval e X.env) (λw s₂=>wpAny (model X.prog X.w) X.A (inplaceOp op u w) (λr s₃=>wpAny (model X.prog X.w) X.A (storeName X.env x r) (λ_=>SP X pins D .next) X.xe s₃) X.xe s₂) X.xe s:=by
  refine bf (he pins s σ H _ I h) λw s1 ⟨y,H1,I1,r1,q1⟩=>?_;refine bf (ho pins s1 σ H1 v y u w _ I1 r r1 q1) λz s2 ⟨zv,H2,I2,r2,q2⟩=>?_;exact j8 I2 hN hi hx r2 (λs3 I3=>⟨_,H2,I3,q2⟩) hf
 rcases l with ⟨hk,hm⟩ | ⟨hk,c,hc,hcell⟩
 ·exact wpAny_loadName_local I.ok.kind hk hn hm go
 ·rcases hk with hk | hk
  ·exact wpAny_loadName_cell I.ok.kind hk hc hcell go
  ·rcases hx with k | k
   ·have:X.env.scope.names.lookup x=some .free:=hk;rw[k]at this;cases this
   ·have:X.env.scope.names.lookup x=some .free:=hk;rw[k]at this;cases this
def ipI (f:Int->Int->Int):TIp:=λx y H Q=>∃i j,x=.int i/\y=.int j/\Q (.int (f i j)) H
theorem aeH:PIp X .Add (ipI λi j=>i+j):=by
 intro pins s σ H x y v u Q I r1 r2 h;obtain ⟨i,j,e1,e2,q⟩:=h;subst e1;subst e2;obtain ⟨t,rfl⟩:=r1;obtain ⟨t',rfl⟩:=r2;exact iadd_int ⟨.int _,H,I.tok _,⟨_,rfl⟩,q⟩
def aeI (c:TT)(tb:TS):TS:=λD σ H=>∃W:Nat->St->Hp->Prop,(∃m,W m σ H)/\∀m σ H,W m σ H->
 c σ H λb H1=>if b=true then ∃N:St->Hp->Prop,(∀σ' H',N σ' H'->∃m',m' < m/\W m' σ' H')/\tb {D with nx:=N,ct:=N,bk:=D.nx} σ H1 else D.nx σ H1
theorem Zf (hp:PassesOwn (model X.prog X.w) X.A X.env X.xe)(hc:PT X c tc)(hb:mC X body tb):PS X (.While c body [] pos) (aeI tc tb):=by
 intro pins s σ H D I h;obtain ⟨W,⟨m0,w0⟩,turn⟩:=h;refine wpAny_While (codeAny_whileLoop (λn s'=>∃σ' H',Inv X pins σ' H' s'/\W n σ' H') ?_ m0 ⟨σ,H,I,w0⟩);rintro n s1 ⟨σ1,H1,I1,w1⟩;refine wpAny_passesOwn hp (bf (hc pins s1 σ1 H1 _ I1 (turn n σ1 H1 w1)) λb s2 ⟨H2,I2,q2⟩=>?_);cases b with
 | true=>
  obtain ⟨N,hN,q2⟩:=q2;rw[if_pos rfl];refine wpAny_passesOwn hp (bf (hb pins s2 σ1 H2 _ I2 q2) λf s3 q3=>?_);cases f with
  | next=>
   obtain ⟨σ3,H3,I3,n3⟩:=q3;obtain ⟨m',hm,w3⟩:=hN σ3 H3 n3;exact ⟨m',hm,σ3,H3,I3,w3⟩
  | cont=>
   obtain ⟨σ3,H3,I3,n3⟩:=q3;obtain ⟨m',hm,w3⟩:=hN σ3 H3 n3;exact ⟨m',hm,σ3,H3,I3,w3⟩
  | brk=>exact q3
  | ret v=>exact q3
 | false=>
  rw[if_neg Bool.false_ne_true];exact wpAny_execs_nil ⟨σ1,H2,I2,q2⟩
end
structure It where
 go:Nat->Hp->Prop
 Ww:Nat->Hp->V->Hp->Prop
 stop:Nat->Hp->Prop
def mH (X:Cx)(pins:List (Addr×Obj))(H:Hp)(b:Addr):Prop:=
 H b=none/\b≠X.env.locals/\b∉X.fs/\(b∈X.ex\/X.s₀.heap.objs.size<=b)/\(∀x c,X.env.cells.lookup x=some c->c≠b)/\∀p∈X.pn++pins,p.1≠b
theorem Inv.Ia (I:Inv X pins σ H s)(hb:s.heap.objs.size<=b)(hn:H' b=none):mH X pins H' b:=by
 refine ⟨hn,ne_of_gt (lt_of_lt_of_le I.lt hb),I.amC hb,.inr (le_trans I.sz hb),λx c e z=>?_,λp hp z=>?_⟩
 ·obtain ⟨v,q⟩:=I.cell x c e;exact absurd (lt_of_lt_of_le q.lt (by rw[z];exact hb)) (lt_irrefl _)
 ·exact absurd (lt_of_lt_of_le (lt_size (I.pin p hp).1) (by rw[z];exact hb)) (lt_irrefl _)
structure Turn (P:Program)(w:World)(K:PySem.W.Frag)(tg:Expr)(J:It)(fp:List Addr)(it:Addr)(tn:Nat->Heap->Prop):Prop where
 mem:it∈fp
 obj:∀i h,tn i h->∀b∈fp,∃o,h.get? b=some o/\∀v,o.data≠.cell v
 keep:∀i h h',tn i h->(∀b∈fp,∀o,h.get? b=some o->h'.get? b=some o)->tn i h'
 item:∀(X:Cx),X.prog=P->X.w=w->X.K=K->X.calm=true->∀(i:Nat) (pins:List (Addr×Obj)) (s:Shared) (σ:St) (H:Hp) (E:Value->Shared->Prop),Inv X pins σ H s->(∀b∈fp,mH X pins H b)->tn i s.heap->J.go i H->
  wpAny (model P w) X.A (pyNext (.ref it)) (λr s1=>∃u,r=some u/\
   wpAny (model P w) X.A (letOwnedTupleGo tg (.ref it) u) (λ_ s2=>∃x H',Inv X pins σ H' s2/\RelV x u/\J.Ww i H x H'/\tn (i+1) s2.heap/\∀b∈fp,H' b=none) E s1) E s
 done:∀(X:Cx),X.prog=P->X.w=w->X.K=K->X.calm=true->∀(i:Nat) (pins:List (Addr×Obj)) (s:Shared) (σ:St) (H:Hp) (E:Value->Shared->Prop),Inv X pins σ H s->(∀b∈fp,mH X pins H b)->tn i s.heap->J.stop i H->
  wpAny (model P w) X.A (pyNext (.ref it)) (λr s1=>r=none/\Inv X pins σ H s1) E s
 self:∀(A:Around) (i:Nat) (s:Shared) (Q:Value->Shared->Prop) (E:Value->Shared->Prop),tn i s.heap->Q (.ref it) s->wpAny (model P w) A (pyIter (.ref it)) Q E s
noncomputable abbrev TI:=St->Hp->(It->Hp->Prop)->Prop
def PIE (X:Cx)(pins:List (Addr×Obj))(σ:St)(tg:Expr)(R:It->Hp->Prop)(itv:Value)(s2:Shared):Prop:=
 ∃(it:Addr) (fp:List Addr) (tn:Nat->Heap->Prop) (J:It) (H':Hp),itv=.ref it/\Inv X pins σ H' s2/\Turn X.prog X.w X.K tg J fp it tn/\tn 0 s2.heap/\(∀b∈fp,mH X pins H' b)/\R J H'
def PI (X:Cx)(tg iter:Expr)(wi:TI):Prop:=
 ∀(pins:List (Addr×Obj)) (s:Shared) (σ:St) (H:Hp) (R:It->Hp->Prop),Inv X pins σ H s->wi σ H R->
  wpAny (model X.prog X.w) X.A (eval iter X.env) (λv s1=>wpAny (model X.prog X.w) X.A (pyIter v) (PIE X pins σ tg R) X.xe s1) X.xe s
theorem FP (ho:s.heap.get? it=some o)(hc:o.cls=.type n)(hd:o.data=.fields vs)(hn:["enumerate","zip","dict_itemiterator","dict_reverseitemiterator","odict_iterator","itertools.zip_longest","itertools.pairwise"].contains n=false)(hQ:Q () s):wpAny M A (letOwnedTupleGo tg (.ref it) u) Q E s:=by
 unfold letOwnedTupleGo;cases tg<;>first
  | exact wpAny_pure hQ
  | (cases u<;>first
    | exact wpAny_pure hQ
    | (refine wpAny_bind (wpAny_load ho ?_)
       rw[hc,hd];show wpAny M A (if (["enumerate","zip","dict_itemiterator","dict_reverseitemiterator","odict_iterator","itertools.zip_longest","itertools.pairwise"].contains n && vs[0]? == some (rawInt _))=true then _ else _) Q E s;rw[if_neg (by intro h;rw[hn,Bool.false_and]at h;cases h)];exact wpAny_pure hQ))
def Itl (K:PySem.W.Frag)(a:Addr):It:=
 ⟨λi H=>∃xs x,jd K H a xs/\xs[i]?=some x,λi H x H'=>H'=H/\∀xs,jd K H a xs->xs[i]?=some x,λi H=>∃xs,jd K H a xs/\xs.length<=i⟩
def Itt (K:PySem.W.Frag)(a:Addr):It:=
 ⟨λi H=>∃xs x,gA K H a xs/\xs[i]?=some x,λi H x H'=>H'=H/\∀xs,gA K H a xs->xs[i]?=some x,λi H=>∃xs,gA K H a xs/\xs.length<=i⟩
def Wx (lo:Int)(n:Nat):It:=⟨λi _=>i < n,λi H x H'=>H'=H/\x=.int (lo+i),λi _=>n<=i⟩
theorem Wy {P:Program}{w:World}{K:PySem.W.Frag}{tg:Expr}(a it:Addr):Turn P w K tg (Itl K a) [it] it (λi h=>h.IsListIter it a i) where
 mem:=by simp
 obj:=λi h st b hb=>by
  have e:b=it:=by simpa using hb
  subst e;obtain ⟨o,e,c,d⟩:=st;exact ⟨o,e,λv z=>by rw[d]at z;cases z⟩
 keep:=λi h h' st k=>st.at λo e=>k it (by simp) o e
 item:=by
  intro X hP hw hK hc i pins s σ H E I hf st hg;subst hP hw hK;obtain ⟨xs,x,hq,hx⟩:=hg;obtain ⟨its,rv,p,hz⟩:=I.list hq;obtain ⟨u,hu,ru⟩:=rv.get hx;obtain ⟨f0,f1,f2,f3,f4,f5⟩:=hf it (by simp);refine wpAny_pyNext_list_item st p.isList (x:=u) (by simpa using hu) λh' st' sb=>?_;have I1:Inv X pins σ H {s with heap:=h'}:=I.turned (t':=s.toks) (λb o hb e=>(sb.2 b hb).trans e) f0 f1 f3 f4 f5;obtain ⟨o,e,c,d⟩:=id st';exact ⟨u,rfl,FP (s:={s with heap:=h'}) e c d (by decide) ⟨x,H,I1,ru,⟨rfl,λys hy=>by rw[I.HY hy hq];exact hx⟩,st',λb hb=>(hf b hb).1⟩⟩
 done:=by
  intro X hP hw hK hc i pins s σ H E I hf st hg;subst hP hw hK;obtain ⟨xs,hq,hx⟩:=hg;obtain ⟨its,rv,p,hz⟩:=I.list hq;obtain ⟨f0,f1,f2,f3,f4,f5⟩:=hf it (by simp);have hl:=rv.length;exact wpAny_pyNext_list_end (I.ok.hd hc) st p.isList (by simp;lia) λh' eb=>⟨rfl,I.turned (t':=s.toks) (λb o hb e=>eb b o hb e) f0 f1 f3 f4 f5⟩
 self:=λ_ _ _ _ _ st h=>wpAny_pyIter_listiter st h
theorem U4 {P:Program}{w:World}{K:PySem.W.Frag}{tg:Expr}(a it:Addr):Turn P w K tg (Itt K a) [it] it (λi h=>h.IsTupleIter it a i) where
 mem:=by simp
 obj:=λi h st b hb=>by
  have e:b=it:=by simpa using hb
  subst e;obtain ⟨o,e,c,d⟩:=st;exact ⟨o,e,λv z=>by rw[d]at z;cases z⟩
 keep:=λi h h' st k=>st.at λo e=>k it (by simp) o e
 item:=by
  intro X hP hw hK hc i pins s σ H E I hf st hg;subst hP hw hK;obtain ⟨xs,x,hq,hx⟩:=hg;obtain ⟨its,rv,p,hz⟩:=I.tuple hq;obtain ⟨u,hu,ru⟩:=rv.get hx;obtain ⟨f0,f1,f2,f3,f4,f5⟩:=hf it (by simp);refine wpAny_pyNext_tuple_item st (show s.heap.IsTuple a its.toArray from p) (x:=u) (by simpa using hu) λh' st' sb=>?_;have I1:Inv X pins σ H {s with heap:=h'}:=I.turned (t':=s.toks) (λb o hb e=>(sb.2 b hb).trans e) f0 f1 f3 f4 f5;obtain ⟨o,e,c,d⟩:=id st';exact ⟨u,rfl,FP (s:={s with heap:=h'}) e c d (by decide) ⟨x,H,I1,ru,⟨rfl,λys hy=>by rw[I.Bs hy hq];exact hx⟩,st',λb hb=>(hf b hb).1⟩⟩
 done:=by
  intro X hP hw hK hc i pins s σ H E I hf st hg;subst hP hw hK;obtain ⟨xs,hq,hx⟩:=hg;obtain ⟨its,rv,p,hz⟩:=I.tuple hq;obtain ⟨f0,f1,f2,f3,f4,f5⟩:=hf it (by simp);have hl:=rv.length;exact wpAny_pyNext_tuple_end (I.ok.hd hc) st (show s.heap.IsTuple a its.toArray from p) (by simp;lia) λh' eb=>⟨rfl,I.turned (t':=s.toks) (λb o hb e=>eb b o hb e) f0 f1 f3 f4 f5⟩
 self:=λ_ _ _ _ _ st h=>wpAny_pyIter_tupleiter st h
theorem U5 {P:Program}{w:World}{K:PySem.W.Frag}{tg:Expr}(it:Addr)(lo:Int)(n:Nat):Turn P w K tg (Wx lo n) [it] it (λi h=>IsRangeIter h it (lo+(i:Nat) * 1) ((n:Int) - (i:Nat)) 1) where
 mem:=by simp
 obj:=λi h st b hb=>by
  have e:b=it:=by simpa using hb
  subst e;exact ⟨_,st,λv z=>by
   have z':Data.fields _=Data.cell v:=z;cases z'⟩
 keep:=λi h h' st k=>k it (by simp) _ st
 item:=by
  intro X hP hw hK hc i pins s σ H E I hf st hg;subst hP hw hK;obtain ⟨f0,f1,f2,f3,f4,f5⟩:=hf it (by simp);have W:=Walks.range (prog:=X.prog) (w:=X.w) (I.ok.hd hc) it lo 1 n;refine W.item i s _ _ hg st λv h' tk hv st' kk=>?_;obtain ⟨t,rfl⟩:=hv;have I1:Inv X pins σ H {s with heap:=h',toks:=tk}:=I.turned (λb o hb e=>kk b o (by simpa using hb) e) f0 f1 f3 f4 f5;refine ⟨_,rfl,FP (s:={s with heap:=h',toks:=tk}) (n:="range_iterator") st' rfl rfl (by decide) ⟨.int (lo+i),H,I1,⟨t,?_⟩,⟨rfl,rfl⟩,st',λb hb=>(hf b hb).1⟩⟩;rw[Int.mul_one]
 done:=by
  intro X hP hw hK hc i pins s σ H E I hf st hg;subst hP hw hK;obtain ⟨f0,f1,f2,f3,f4,f5⟩:=hf it (by simp);exact wpAny_pyNext_range_end (I.ok.hd hc) st (by have:n<=i:=hg;lia) λh' eb=>⟨rfl,I.turned (t':=s.toks) (λb o hb e=>eb b o hb e) f0 f1 f3 f4 f5⟩
 self:=λ_ _ _ _ _ st h=>wpAny_pyIter_rangeiter st h
section
variable {X:Cx}{tg:Expr}
theorem PB {pins:List (Addr×Obj)}{σ:St}{H:Hp}{s:Shared}{R:It->Hp->Prop}{E:Value->Shared->Prop}{lo hi:Int}{t u v:Tok}{tk:Nat}(I:Inv X pins σ H s)(h1:-(2 ^ 62)<=lo)(h2:lo < 2 ^ 62)(h3:-(2 ^ 62)<=hi)(h4:hi < 2 ^ 62)(q:R (Wx lo (hi - lo).toNat) H):wpAny (model X.prog X.w) X.A (pyIter (.ref s.heap.objs.size)) (PIE X pins σ tg R) E {s with heap:=s.heap.push {cls:=.type "range",data:=.fields #[.int lo t,.int hi u,.int 1 v]},toks:=tk}:=by
 refine wpAny_pyIter_range (IsRange.new ..) (small_one h1 h2 h3 h4) ?_;have I1:Inv X pins σ H {s with heap:=s.heap.push {cls:=.type "range",data:=.fields #[.int lo t,.int hi u,.int 1 v]},toks:=tk}:=I.kept λb o e=>get?_push_of_some _ e;refine ⟨(s.heap.push {cls:=.type "range",data:=.fields #[.int lo t,.int hi u,.int 1 v]}).objs.size,[(s.heap.push {cls:=.type "range",data:=.fields #[.int lo t,.int hi u,.int 1 v]}).objs.size],_,_,H,rfl,
  I1.kept (t':=tk) λb o e=>get?_push_of_some _ e,U5 _ lo (hi - lo).toNat,?_,λb hb=>?_,q⟩
 ·have e1:lo+((0:Nat):Int) * 1=lo:=by simp
  have e2:(((hi - lo).toNat:Nat):Int) - ((0:Nat):Int)=Builtin.Range.rangeSize lo hi 1:=by rw[rangeSize_one];split<;>lia
  show IsRangeIter _ _ (lo+((0:Nat):Int) * 1) ((((hi - lo).toNat:Nat):Int) - ((0:Nat):Int)) 1;rw[e1,e2];exact get?_push_size _ rfl
 ·have e:b=(s.heap.push {cls:=.type "range",data:=.fields #[.int lo t,.int hi u,.int 1 v]}).objs.size:=by simpa using hb
  subst e;exact I1.Ia (le_refl _) (I1.hok.fresh (le_refl _))
def aiw (ta:TA):TI:=λσ H R=>ta σ H λvs H1=>∃j:Int,vs=[.int j]/\-(2 ^ 62)<=j/\j < 2 ^ 62/\R (Wx 0 j.toNat) H1
def aix (ta:TA):TI:=λσ H R=>ta σ H λvs H1=>∃i j:Int,vs=[.int i,.int j]/\(-(2 ^ 62)<=i/\i < 2 ^ 62/\-(2 ^ 62)<=j/\j < 2 ^ 62)/\R (Wx i (j - i).toNat) H1
theorem Wz {a:Expr}{ta:TA}{p pos:Pos}(hg:Gl X "range")(hm:X.mg "range"=none)(ha:PA X [a] ta)(hs:starEach [a] X.env=[(false,eval a X.env)]:=by rfl):PI X tg (.Call (.Name "range" p) [a] [] pos) (aiw ta):=by
 intro pins s σ H R I h;refine Call_ (qw I hg hm boot_range (PyProof.Rows.callWith_type1 (bf (ha pos pins s σ H _ I h) λus s1 ⟨vs,H1,I1,r1,q1⟩=>?_) hs rfl));obtain ⟨j,e,q1,q2,q⟩:=q1;subst e;cases r1 with
 | cons r rr=>
  cases rr;obtain ⟨t,rfl⟩:=r;exact call_range_1 (PB I1 (by lia) (by lia) q1 q2 (by simpa using q))
theorem WD (hg:Gl X "range")(hm:X.mg "range"=none)(ha:PA X [a,b] ta)(hs:starEach [a,b] X.env=[(false,eval a X.env),(false,eval b X.env)]:=by rfl)(hs2:starEach [b] X.env=[(false,eval b X.env)]:=by rfl):
  PI X tg (.Call (.Name "range" p) [a,b] [] pos) (aix ta):=by
 intro pins s σ H R I h;refine Call_ (qw I hg hm boot_range (PyProof.Rows.callWith_type1 (bf (ha pos pins s σ H _ I h) λus s1 ⟨vs,H1,I1,r1,q1⟩=>?_) (by rw[hs,hs2]) (by rw[hs2];rfl)));obtain ⟨i,j,e,⟨q1,q2,q3,q4⟩,q⟩:=q1;subst e;cases r1 with
 | cons r rr=>
  cases rr with
  | cons r' rr=>
   cases rr;obtain ⟨t,rfl⟩:=r;obtain ⟨t',rfl⟩:=r';exact call_range_2 (PB I1 q1 q2 q3 q4 q)
def amP (wi:TI)(g:TG)(tb:TS):TS:=λD σ H=>wi σ H λJ H1=>∃W:Nat->Nat->St->Hp->Prop,(∃m,W 0 m σ H1)/\∀i m σ H,W i m σ H->
 (J.stop i H/\D.nx σ H)\/(J.go i H/\∃N:St->Hp->Prop,(∀σ' H',N σ' H'->∃m',m' < m/\W (i+1) m' σ' H')/\∀x H',J.Ww i H x H'->g x σ H' λσ2 H2=>tb {D with nx:=N,ct:=N,bk:=D.nx} σ2 H2)
def Bt (fp:List Addr)(h:Heap):List (Addr×Obj):=fp.filterMap λb=>(h.get? b).map λo=>(b,o)
theorem pU (hb:b∈fp)(e:h.get? b=some o):(b,o)∈Bt fp h:=List.mem_filterMap.mpr ⟨b,hb,by rw[e];rfl⟩
theorem WL (hp:p∈Bt fp h):p.1∈fp/\h.get? p.1=some p.2:=by
 obtain ⟨b,hb,e⟩:=List.mem_filterMap.mp hp;cases q:h.get? b with
 | none=>rw[q]at e;cases e
 | some o=>
  rw[q]at e;have e':(b,o)=p:=Option.some.inj e;subst e';exact ⟨hb,q⟩
theorem Inv.pinned (I:Inv X pins σ H s)(hf:∀b∈fp,mH X pins H b)(ho:∀b∈fp,∃o,s.heap.get? b=some o/\∀v,o.data≠.cell v):Inv X (pins++Bt fp s.heap) σ H s:=
 I.Sh λp hp=>(mem_append.mp hp).elim (λz=>I.pin p (mem_append_right _ z)) λz=>by
  obtain ⟨hb,e⟩:=WL z;obtain ⟨f0,f1,f2,_⟩:=hf p.1 hb;obtain ⟨o,e',d⟩:=ho p.1 hb;rw[e]at e';cases e';exact ⟨e,f0,f1,f2,d⟩
theorem Inv.wU (I:Inv X (pins++pl) σ H s):Inv X pins σ H s:=I.Sh λp hp=>I.pin p (mem_append_right _ (List.mem_append_left _ hp))
theorem aeK (hp:PassesOwn (model X.prog X.w) X.A X.env X.xe)(hc:X.calm=true)(hi:PI X tg iter wi)(hg:PG X tg g)(hb:mC X body tb)(hs:∀x,foldedSetIterable iter X.env x=pure x:=by intro _;rfl):PS X (.For tg iter body [] pos) (amP wi g tb):=by
 intro pins s σ H D I h;refine wpAny_For (bf (hi pins s σ H _ I h) λv s1 h1=>bf h1 λitv s2 h2=>?_) hs;obtain ⟨it,fp,tn,J,H2,e,I2,T,st2,f2,W,⟨m0,w0⟩,turn⟩:=h2;subst e
 -- what stays true of the iterator's objects through the loop
 have stat:∀{H':Hp},(∀b∈fp,H' b=none)->∀b∈fp,mH X pins H' b:=λhn b hb=>⟨hn b hb,(f2 b hb).2⟩
 refine codeAny_forLoop_any (λn s'=>∃i σ' H',Inv X pins σ' H' s'/\tn i s'.heap/\(∀b∈fp,H' b=none)/\W i n σ' H') ?_ m0 ⟨0,σ,H2,I2,st2,λb hb=>(f2 b hb).1,w0⟩;rintro n s3 ⟨i,σ3,H3,I3,st3,fr3,w3⟩;rcases turn i n σ3 H3 w3 with ⟨stop,qn⟩ | ⟨go,N,hN,step⟩
 ·refine wpAny_passesOwn hp (bf (T.done X rfl rfl rfl hc i pins s3 σ3 H3 X.xe I3 (stat fr3) st3 stop) λr s4 ⟨hr,I4⟩=>?_);subst hr;exact wpAny_execs_nil ⟨σ3,H3,I4,qn⟩
 ·refine wpAny_passesOwn hp (bf (T.item X rfl rfl rfl hc i pins s3 σ3 H3 X.xe I3 (stat fr3) st3 go) λr s4 ⟨u,hr,h4⟩=>?_);subst hr;refine wpAny_passesOwn hp (bf h4 λ_ s5 ⟨x,H5,I5,r5,y5,Sq,fr5⟩=>?_);have I5':=I5.pinned (stat fr5) (T.obj _ _ Sq);refine wpAny_passesOwn hp (bf (hg _ s5 σ3 H5 x u _ I5' r5 (step x H5 y5)) λ_ s6 ⟨σ6,H6,I6,q6⟩=>?_);refine wpAny_passesOwn hp (bf (hb _ s6 σ6 H6 _ I6 q6) λf s7 q7=>?_);have again:∀{PJ:St} {H7:Hp},Inv X (pins++Bt fp s5.heap) PJ H7 s7->N PJ H7->∃m,m < n/\∃i σ' H',Inv X pins σ' H' s7/\tn i s7.heap/\(∀b∈fp,H' b=none)/\W i m σ' H':=λ{PJ H7} I7 n7=>by
   obtain ⟨m',hm,w7⟩:=hN PJ H7 n7;refine ⟨m',hm,i+1,PJ,H7,I7.wU,T.keep _ _ _ Sq λb hb o e=>(I7.pin (b,o) (mem_append_right _ (mem_append_right _ (pU hb e)))).1,λb hb=>?_,w7⟩;obtain ⟨o,e,d⟩:=T.obj _ _ Sq b hb;exact (I7.pin (b,o) (mem_append_right _ (mem_append_right _ (pU hb e)))).2.1
  cases f with
  | next=>obtain ⟨PJ,H7,I7,n7⟩:=q7;exact again I7 n7
  | cont=>obtain ⟨PJ,H7,I7,n7⟩:=q7;exact again I7 n7
  | brk=>obtain ⟨PJ,H7,I7,q7⟩:=q7;exact ⟨PJ,H7,I7.wU,q7⟩
  | ret v=>obtain ⟨x7,PJ,H7,I7,r7,q7⟩:=q7;exact ⟨x7,PJ,H7,I7.wU,r7,q7⟩
end
noncomputable abbrev R2:=V->V->Hp->VK->Prop
def bO (X:Cx)(f:Value->Value->Sem Value)(r:R2):Prop:=
 ∀(pins:List (Addr×Obj)) (s:Shared) (σ:St) (H:Hp) (x y:V) (v u:Value) (Q:VK),Inv X pins σ H s->RelV x v->RelV y u->r x y H Q->
  wpAny (model X.prog X.w) X.A (f v u) (EP X pins σ Q) X.xe s
def Ss (X:Cx)(f:Value->Sem Value)(r:V->Hp->VK->Prop):Prop:=
 ∀(pins:List (Addr×Obj)) (s:Shared) (σ:St) (H:Hp) (x:V) (v:Value) (Q:VK),Inv X pins σ H s->RelV x v->r x H Q->
  wpAny (model X.prog X.w) X.A (f v) (EP X pins σ Q) X.xe s
def eZ (X:Cx)(f:Value)(r:List V->Hp->VK->Prop):Prop:=
 ∀(pins:List (Addr×Obj)) (s:Shared) (σ:St) (H:Hp) (xs:List V) (us:List Value) (Q:VK),Inv X pins σ H s->Vals xs us->r xs H Q->
  wpAny (model X.prog X.w) X.A (call f us) (EP X pins σ Q) X.xe s
def amQ (X:Cx)(r:V->Hp->(Bool->Hp->Prop)->Prop):Prop:=
 ∀(pins:List (Addr×Obj)) (s:Shared) (σ:St) (H:Hp) (x:V) (v:Value) (Q:Bool->Hp->Prop),Inv X pins σ H s->RelV x v->r x H Q->
  wpAny (model X.prog X.w) X.A (truthy v) (TP X pins σ Q) X.xe s
def tOp (r:R2)(ta tb:TE):TE:=λσ H Q=>ta σ H λx H1=>tb σ H1 λy H2=>r x y H2 Q
def tUn (r:V->Hp->VK->Prop)(ta:TE):TE:=λσ H Q=>ta σ H λx H1=>r x H1 Q
def rI (C:Int->Int->Prop)(g:Int->Int->V):R2:=λx y H Q=>∃i j,x=.int i/\y=.int j/\C i j/\Q (g i j) H
def G5 (g:Int->Int->V):R2:=λx y H Q=>∃i j,x=.int i/\y=.int j/\Q (g i j) H
def rU (g:Int->V):V->Hp->VK->Prop:=λx H Q=>∃i,x=.int i/\Q (g i) H
section
variable {X:Cx}{a b c:Expr}{ta tb tc:TE}{pos:Pos}
theorem Zg (ha:PE X a ta)(hb:PE X b tb){pins:List (Addr×Obj)}{s:Shared}{σ:St}{H:Hp}{R:V->V->Hp->Prop}(I:Inv X pins σ H s)(h:ta σ H λx H1=>tb σ H1 λy H2=>R x y H2){Q:Value->Shared->Prop}{f:Value->Value->Sem Value}(hf:∀v u s2 x y H2,Inv X pins σ H2 s2->RelV x v->RelV y u->R x y H2->wpAny (model X.prog X.w) X.A (f v u) Q X.xe s2):
  wpAny (model X.prog X.w) X.A (eval a X.env) (λv s₁=>wpAny (model X.prog X.w) X.A (eval b X.env) (λu s₂=>wpAny (model X.prog X.w) X.A (f v u) Q X.xe s₂) X.xe s₁) X.xe s:=by
 refine bf (ha pins s σ H _ I h) λv s1 ⟨x,H1,I1,r1,q1⟩=>?_;refine bf (hb pins s1 σ H1 _ I1 q1) λu s2 ⟨y,H2,I2,r2,q2⟩=>?_;exact hf v u s2 x y H2 I2 r1 r2 q2
theorem aiy {op:Operator}{r:R2}(ho:bO X (binaryOp op) r)(ha:PE X a ta)(hb:PE X b tb):PE X (.BinOp a op b pos) (tOp r ta tb):=by
 intro pins s σ H Q I h;exact wpAny_BinOp (Zg ha hb I h λv u s2 x y H2 I2 rx ry q=>ho pins s2 σ H2 x y v u Q I2 rx ry q)
theorem aiz (ho:Ss X (unaryOp op) r)(ha:PE X a ta):PE X (.UnaryOp op a pos) (tUn r ta):=by
 intro pins s σ H Q I h;exact UnaryOp_ (bf (ha pins s σ H _ I h) λv s1 ⟨x,H1,I1,r1,q1⟩=>ho pins s1 σ H1 x v Q I1 r1 q1)
theorem WM {f:Value->Value->Sem Value}{C:Int->Int->Prop}{g:Int->Int->Int}(rule:∀(i j:Int) (t u:Tok) (s:Shared) (Q:Value->Shared->Prop) (E:Value->Shared->Prop),C i j->Q (.int (g i j) s.toks) {s with toks:=s.toks+1}->wpAny (model X.prog X.w) X.A (f (.int i t) (.int j u)) Q E s):
  bO X f (rI C λi j=>.int (g i j)):=by
 intro pins s σ H x y v u Q I rx ry h;obtain ⟨i,j,rfl,rfl,hc,q⟩:=h;obtain ⟨t,rfl⟩:=rx;obtain ⟨t',rfl⟩:=ry;exact rule i j t t' s _ _ hc ⟨.int (g i j),H,I.tok _,⟨_,rfl⟩,q⟩
theorem aeL {f:Value->Value->Sem Value}{g:Int->Int->Int}(rule:∀(i j:Int) (t u:Tok) (s:Shared) (Q:Value->Shared->Prop) (E:Value->Shared->Prop),Q (.int (g i j) s.toks) {s with toks:=s.toks+1}->wpAny (model X.prog X.w) X.A (f (.int i t) (.int j u)) Q E s):
  bO X f (G5 λi j=>.int (g i j)):=by
 intro pins s σ H x y v u Q I rx ry h;obtain ⟨i,j,rfl,rfl,q⟩:=h;obtain ⟨t,rfl⟩:=rx;obtain ⟨t',rfl⟩:=ry;exact rule i j t t' s _ _ ⟨.int (g i j),H,I.tok _,⟨_,rfl⟩,q⟩
theorem U6 {f:Value->Value->Sem Value}{g:Int->Int->Bool}(rule:∀(i j:Int) (t u:Tok) (s:Shared) (Q:Value->Shared->Prop) (E:Value->Shared->Prop),Q (.bool (g i j)) s->wpAny (model X.prog X.w) X.A (f (.int i t) (.int j u)) Q E s):
  bO X f (G5 λi j=>.bl (g i j)):=by
 intro pins s σ H x y v u Q I rx ry h;obtain ⟨i,j,rfl,rfl,q⟩:=h;obtain ⟨t,rfl⟩:=rx;obtain ⟨t',rfl⟩:=ry;exact rule i j t t' s _ _ ⟨.bl (g i j),H,I,rfl,q⟩
def amR (i j:Int):Prop:=0<=j/\j<=1000000/\i.natAbs < 2 ^ 64
def Zh (i j:Int):Prop:=(-(2 ^ 64) < i/\i < 2 ^ 64)\/(-(2 ^ 64) < j/\j < 2 ^ 64)
theorem Zh.ok (h:Zh i j):IntMulOk i j:=by
 rcases h with ⟨h1,h2⟩ | ⟨h1,h2⟩
 ·exact .of_left (intBits_le_64 h1 h2)
 ·exact .of_right (intBits_le_64 h1 h2)
theorem aeM:bO X (binaryOp .Add) (G5 λi j=>.int (i+j)):=aeL λ_ _ _ _ _ _ _ q=>add_int q
theorem aeN:bO X (binaryOp .Sub) (G5 λi j=>.int (i - j)):=aeL λ_ _ _ _ _ _ _ q=>sub_int q
theorem aeO:bO X (binaryOp .Mult) (rI Zh λi j=>.int (i * j)):=WM λ_ _ _ _ _ _ _ hc q=>mul_int q hc.ok
theorem aeP:bO X (binaryOp .Mod) (rI (λ_ j=>0 < j) λi j=>.int (i % j)):=WM λi j _ _ _ _ _ hc q=>by
 have h1:(0:Int) < j:=hc;exact mod_int' (by lia) (by rw[Int.fmod_eq_emod_of_nonneg i (by lia)];exact q)
theorem aeQ:bO X (binaryOp .Pow) (rI amR λi j=>.int (i ^ j.toNat)):=WM λ_ _ _ _ _ _ _ hc q=>pow_int_small hc.1 hc.2.1 hc.2.2 q
theorem unI {f:Value->Sem Value}{g:Int->Int}(rule:∀(i:Int) (t:Tok) (s:Shared) (Q:Value->Shared->Prop) (E:Value->Shared->Prop),Q (.int (g i) s.toks) {s with toks:=s.toks+1}->wpAny (model X.prog X.w) X.A (f (.int i t)) Q E s):
  Ss X f (rU λi=>.int (g i)):=by
 intro pins s σ H x v Q I rx h;obtain ⟨i,rfl,q⟩:=h;obtain ⟨t,rfl⟩:=rx;exact rule i t s _ _ ⟨.int (g i),H,I.tok _,⟨_,rfl⟩,q⟩
theorem aeR:Ss X (unaryOp .USub) (rU λi=>.int (-i)):=unI λ_ _ _ _ _ q=>neg_int q
theorem PK (I:Inv X pins σ H s)(q:Q (.bl k) H)(e:k=k'):EP X pins σ Q (.bool k') s:=by
 subst e;exact ⟨.bl k,H,I,rfl,q⟩
theorem aiA:bO X (compareOp .Lt) (G5 λi j=>.bl (decide (i < j))):=U6 λ_ _ _ _ _ _ _ q=>lt_int q
theorem aiB:bO X (compareOp .LtE) (G5 λi j=>.bl (decide (i<=j))):=U6 λ_ _ _ _ _ _ _ q=>le_int q
theorem aiC:bO X (compareOp .Gt) (G5 λi j=>.bl (decide (j < i))):=U6 λ_ _ _ _ _ _ _ q=>gt_int q
theorem aiD:bO X (compareOp .GtE) (G5 λi j=>.bl (decide (j<=i))):=U6 λ_ _ _ _ _ _ _ q=>ge_int q
theorem WQ:bO X (compareOp .In) (λx y H Q=>∃i j,x=.str i/\y=.str j/\Q (.bl (!(Builtin.Str.occurrences j i 0 j.length 1).isEmpty)) H):=by
 intro pins s σ H x y v u Q I rx ry h;obtain ⟨i,j,rfl,rfl,q⟩:=h;obtain ⟨t,rfl⟩:=rx;obtain ⟨t',rfl⟩:=ry;exact in_str (PK I q rfl)
theorem aeS:bO X (compareOp .Is) (λx y H Q=>y=.non/\Q (.bl (decide (x=.non))) H):=by
 intro pins s σ H x y v u Q I rx ry h;obtain ⟨rfl,q⟩:=h;cases ry;refine is_none_gen (PK I q ?_);cases x<;>first
  | (cases rx;rfl)
  | (obtain ⟨t,rfl⟩:=rx;rfl)
theorem PL:bO X (compareOp .NotIn) (λx y H Q=>∃i j,x=.str i/\y=.str j/\Q (.bl (!(!(Builtin.Str.occurrences j i 0 j.length 1).isEmpty))) H):=by
 intro pins s σ H x y v u Q I rx ry h;obtain ⟨i,j,rfl,rfl,q⟩:=h;obtain ⟨t,rfl⟩:=rx;obtain ⟨t',rfl⟩:=ry;exact notIn_str (PK I q rfl)
theorem bO.or (h:bO X f r)(h':bO X f r'):bO X f (λx y H Q=>r x y H Q\/r' x y H Q):=by
 intro pins s σ H x y v u Q I rx ry q;rcases q with q | q
 ·exact h pins s σ H x y v u Q I rx ry q
 ·exact h' pins s σ H x y v u Q I rx ry q
theorem K4 (ho:bO X (compareOp op) r)(ha:PE X a ta)(hb:PE X b tb)(hm:behindInMarks op b=false):PE X (.Compare a [op] [b] pos) (tOp r ta tb):=by
 intro pins s σ H Q I h;exact wpAny_Compare1 (Zg ha hb I h λv u s2 x y H2 I2 rx ry q=>ho pins s2 σ H2 x y v u Q I2 rx ry q) hm
def aaV (t:TE):TT:=λσ H Q=>t σ H λx H'=>∃k,x=.bl k/\Q k H'
theorem Sv (ho:bO X (compareOp op) r)(ha:PE X a ta)(hb:PE X b tb)(hm:behindInMarks op b=false):PT X (.Compare a [op] [b] pos) (aaV (tOp r ta tb)):=by
 intro pins s σ H Q I h;refine wpAny_isTrue_Compare1 (bf (ha pins s σ H _ I h) λv s1 ⟨x,H1,I1,r1,q1⟩=>bf (hb pins s1 σ H1 _ I1 q1) λu s2 ⟨y,H2,I2,r2,q2⟩=>
  bf (ho pins s2 σ H2 x y v u _ I2 r1 r2 q2) λc s3 ⟨z,H3,I3,r3,k,e,q3⟩=>?_) hm
 subst e;cases r3;exact wpAny_truthy_bool ⟨H3,I3,q3⟩
def WR (r r':R2)(ta tb tc:TE):TE:=λσ H Q=>ta σ H λx H1=>tb σ H1 λy H2=>r x y H2 λz H3=>∃k,z=.bl k/\
 (if k=true then tc σ H3 λw' H4=>r' y w' H4 Q else Q (.bl false) H3)
theorem Zi (ho:bO X (compareOp op) r)(ho':bO X (compareOp op') r')(ha:PE X a ta)(hb:PE X b tb)(hc:PE X c tc)(hm:lastMarks [op,op'] [b,c]=false:=by with_unfolding_all rfl):PE X (.Compare a [op,op'] [b,c] pos) (WR r r' ta tb tc):=by
 intro pins s σ H Q I h;refine Compare_chain (bf (ha pins s σ H _ I h) λv s1 ⟨x,H1,I1,r1,q1⟩=>chain_link (bf (hb pins s1 σ H1 _ I1 q1) λu s2 ⟨y,H2,I2,r2,q2⟩=>
  bf (ho pins s2 σ H2 x y v u _ I2 r1 r2 q2) λd s3 ⟨z,H3,I3,r3,k,e,q3⟩=>?_)) hm
 subst e;cases r3;refine wpAny_truthy_bool ?_;cases k with
 | false=>exact ite_ff ⟨.bl false,H3,I3,rfl,q3⟩
 | true=>exact ite_tt (chain_last (bf (hc pins s3 σ H3 _ I3 q3) λw' s4 ⟨z',H4,I4,r4,q4⟩=>ho' pins s4 σ H4 y z' u w' Q I4 r2 r4 q4))
theorem Zj (ho:bO X (compareOp op) r)(ho':bO X (compareOp op') r')(ha:PE X a ta)(hb:PE X b tb)(hc:PE X c tc)(hm:lastMarks [op,op'] [b,c]=false:=by with_unfolding_all rfl):PT X (.Compare a [op,op'] [b,c] pos) (aaV (WR r r' ta tb tc)):=by
 intro pins s σ H Q I h;refine isTrue_chain (bf (ha pins s σ H _ I h) λv s1 ⟨x,H1,I1,r1,q1⟩=>test_link (bf (hb pins s1 σ H1 _ I1 q1) λu s2 ⟨y,H2,I2,r2,q2⟩=>
  bf (ho pins s2 σ H2 x y v u _ I2 r1 r2 q2) λd s3 ⟨z,H3,I3,r3,k,e,q3⟩=>?_)) hm
 subst e;cases r3;refine wpAny_truthy_bool ?_;cases k with
 | false=>
  obtain ⟨k',e',q'⟩:=q3;cases e';exact ite_ff ⟨H3,I3,q'⟩
 | true=>
  refine ite_tt (test_last (bf (hc pins s3 σ H3 _ I3 q3) λw' s4 ⟨z',H4,I4,r4,q4⟩=>bf (ho' pins s4 σ H4 y z' u w' _ I4 r2 r4 q4) λd' s5 ⟨z2,H5,I5,r5,k2,e2,q5⟩=>?_));subst e2;cases r5;exact wpAny_truthy_bool ⟨H5,I5,q5⟩
def Zk (K:PySem.W.Frag)(x:V)(H:Hp)(k:Bool):Prop:=
 match x with
 | .non=>k=false
 | .bl b=>k=b
 | .int i=>k=(i != 0)
 | .str y=>y.length<=sizeLine/\k=((y.length:Int) != 0)
 | .Ms y=>y.size<=sizeLine/\k=((y.size:Int) != 0)
 | .ref p=>(∃xs,jd K H p xs/\k=!xs.isEmpty)\/(∃xs,gA K H p xs/\k=!xs.isEmpty)\/∃kvs,H p=some (.dK kvs)/\k=!kvs.isEmpty
 | _=>False
theorem U7 {κ:Type}{kvs:List (κ×V)}{vs:List (κ×Value)}(r:KV kvs vs):(!vs.isEmpty)=!kvs.isEmpty:=by
 cases r<;>rfl
theorem Jt (r:Vals xs its):(!its.toArray.isEmpty)=!xs.isEmpty:=by
 cases r<;>simp
theorem uV:(sizeLine:Nat) < 2 ^ 63:=by rw[sizeLine_eq];decide
theorem aeT:amQ X (λx H Q=>∃k,Zk X.K x H k/\Q k H):=by
 intro pins s σ H x v Q I rx h;obtain ⟨k,e,q⟩:=h;have hl:=uV;have hs:sizeLine=16777216:=sizeLine_eq;cases x with
 | non=>
  cases rx;have e':k=false:=e;subst e';exact truthy_none ⟨H,I,q⟩
 | bl b=>
  cases rx;have e':k=b:=e;subst e';exact wpAny_truthy_bool ⟨H,I,q⟩
 | int i=>
  obtain ⟨t,rfl⟩:=rx;have e':k=(i != 0):=e;subst e';exact PySem.P.truthy_int ⟨H,I,q⟩
 | str y=>
  obtain ⟨t,rfl⟩:=rx;obtain ⟨hy,e'⟩:y.length<=sizeLine/\k=((y.length:Int) != 0):=e;subst e';exact PySem.P.truthy_str (by lia) ⟨H,I.tok _,q⟩
 | Ms y=>
  obtain ⟨t,rfl⟩:=rx;obtain ⟨hy,e'⟩:y.size<=sizeLine/\k=((y.size:Int) != 0):=e;subst e';exact PySem.W.truthy_bytes (by lia) ⟨H,I.tok _,q⟩
 | ref p=>
  cases rx;have e':(∃xs,jd X.K H p xs/\k=!xs.isEmpty)\/(∃xs,gA X.K H p xs/\k=!xs.isEmpty)\/∃kvs,H p=some (.dK kvs)/\k=!kvs.isEmpty:=e;rcases e' with ⟨xs,hx,e'⟩ | ⟨xs,hx,e'⟩ | ⟨kvs,hx,e'⟩
  ·subst e';obtain ⟨its,r,pl,hz⟩:=I.list hx;have hlen:=r.length;exact wpAny_truthy_list pl.isList (by simp only[size_toArray];lia) ⟨H,I.tok _,by rw[Jt r];exact q⟩
  ·subst e';obtain ⟨its,r,pl,hz⟩:=I.tuple hx;have hlen:=r.length;exact truthy_tuple pl (by simp only[size_toArray];lia) ⟨H,I.tok _,by rw[Jt r];exact q⟩
  ·subst e';obtain ⟨hz,hS,vs,r,m⟩:kvs.length<=sizeLine/\(p == sysModules)=false/\∃vs,KV kvs vs/\s.heap.DictOf (dD X.prog X.w) p vs:=I.hok p _ hx;have hlen:kvs.length=vs.length:=Paired.length r;exact wpAny_truthy_dict hS m (by lia) ⟨H,I.tok _,by rw[U7 r];exact q⟩
 | _=>exact (show False from e).elim
theorem Zm (ha:PE X a ta)(he:∀whole,isTrue a X.env whole=(do let v <-whole;standAt a.pos;holding [v] (truthy v))):
  PT X a (λσ H Q=>ta σ H λx H'=>∃k,Zk X.K x H' k/\Q k H'):=by
 intro pins s σ H Q I h;exact isTrue_plain (bf (ha pins s σ H _ I h) λv s1 ⟨x,H1,I1,r1,q1⟩=>aeT pins s1 σ H1 x v Q I1 r1 q1) (he _)
theorem U8:bO X (binaryOp .Add) (λx y H Q=>∃i j,x=.str i/\y=.str j/\i.length+j.length<=sizeLine/\Q (.str (i++j)) H):=by
 intro pins s σ H x y v u Q I rx ry h;obtain ⟨i,j,rfl,rfl,hz,q⟩:=h;obtain ⟨t,rfl⟩:=rx;obtain ⟨t',rfl⟩:=ry;exact add_str (λt' tk=>⟨.str (i++j),H,I.tok _,⟨_,rfl⟩,q⟩) hz
theorem vals1 (r:Vals [x] us):∃u,us=[u]/\RelV x u:=by
 cases r with
 | cons r1 r2=>cases r2;exact ⟨_,rfl,r1⟩
theorem vals2 (r:Vals [x,y] us):∃u w',us=[u,w']/\RelV x u/\RelV y w':=by
 cases r with
 | cons r1 r2=>
  cases r2 with
  | cons r3 r4=>cases r4;exact ⟨_,_,rfl,r1,r3⟩
def amS (K:PySem.W.Frag)(x:V)(H:Hp)(n:Nat):Prop:=
 match x with
 | .str y=>y.length<=sizeLine/\n=y.length
 | .Ms y=>y.size<=sizeLine/\n=y.size
 | .ref p=>(∃xs,jd K H p xs/\n=xs.length)\/∃xs,gA K H p xs/\n=xs.length
 | _=>False
theorem Zn:eZ X (.builtin "len") (λxs H Q=>∃x n,xs=[x]/\amS X.K x H n/\Q (.int n) H):=by
 intro pins s σ H xs us Q I r h;obtain ⟨x,n,rfl,e,q⟩:=h;obtain ⟨u,rfl,rx⟩:=vals1 r;have hl:=uV;have hs:sizeLine=16777216:=sizeLine_eq;cases x with
 | str y=>
  obtain ⟨t,rfl⟩:=rx;obtain ⟨hy,e'⟩:y.length<=sizeLine/\n=y.length:=e;subst e';exact len_str (by lia) ⟨.int _,H,I.tok _,⟨_,rfl⟩,q⟩
 | Ms y=>
  obtain ⟨t,rfl⟩:=rx;obtain ⟨hy,e'⟩:y.size<=sizeLine/\n=y.size:=e;subst e';exact PySem.W.len_bytes (by lia) ⟨.int _,H,I.tok _,⟨_,rfl⟩,q⟩
 | ref p=>
  cases rx;have e':(∃xs,jd X.K H p xs/\n=xs.length)\/∃xs,gA X.K H p xs/\n=xs.length:=e;rcases e' with ⟨xs,hx,e'⟩ | ⟨xs,hx,e'⟩
  ·subst e';obtain ⟨its,r',pl,hz⟩:=I.list hx;have hlen:=r'.length;exact Calls.call_len_list pl.isList (by simp only[size_toArray];lia) ⟨.int xs.length,H,I.tok _,⟨_,by simp only[size_toArray];rw[hlen]⟩,q⟩
  ·subst e';obtain ⟨its,r',pl,hz⟩:=I.tuple hx;have hlen:=r'.length;exact len_tuple pl (by simp only[size_toArray];lia) ⟨.int xs.length,H,I.tok _,⟨_,by simp only[size_toArray];rw[hlen]⟩,q⟩
 | _=>exact (show False from e).elim
end
theorem oF.some_of (r:oF (some v) o):∃u,o=some u/\RelV v u:=by
 cases o with
 | none=>exact (show False from r).elim
 | some u=>exact ⟨u,rfl,r⟩
theorem WT (r:RelV v u):PySem.W.handedIn u=true:=by
 cases v with
 | non=>cases (show u=Value.none from r);rfl
 | bl b=>cases (show u=Value.bool b from r);rfl
 | int i=>obtain ⟨t,e⟩:=(show ∃t,u=Value.int i t from r);cases e;rfl
 | str x=>obtain ⟨t,e⟩:=(show ∃t,u=Value.str x t from r);cases e;rfl
 | Ms b=>obtain ⟨t,e⟩:=(show ∃t,u=Value.bytes b t from r);cases e;rfl
 | flt b=>obtain ⟨t,e⟩:=(show ∃t,u=Value.float b t from r);cases e;rfl
 | ref a=>cases (show u=Value.ref a from r);rfl
 | ty n=>cases (show u=Value.type n from r);rfl
section
variable {X:Cx}{pins:List (Addr×Obj)}{σ:St}{H:Hp}{s:Shared}{a C dx:Addr}{fs:List (Str×V)}{f:Str}{v:V}{A:Around}{E:Value->Shared->Prop}
theorem ab7 (hb:attributeBase e f env (eval e env)=eval e env)(h:wpAny (model prog w) A (eval e env) (λo s₁=>wpAny (model prog w) A (getAttr o f true) Q E s₁) E s):wpAny (model prog w) A (eval (.Attribute e f pos) env) Q E s:=
 Attribute_any_ h (by rw[arm_eval_Attribute,hb])
end
structure cM (k:Nat)(A:Around):Prop where
 hd:A.handled=none
 dp:A.depth+3 * k+5 < recursionLimit
 un:A.units+16 * k+200 < cLine
theorem cM.deeper (r:cM (k+1) A)(env:Env):cM k (A.deeper env):=
 ⟨r.hd,by have:=r.dp;show A.depth+1+3 * k+5 < _;lia,by have:=r.un;show A.units+3+16 * k+200 < _;lia⟩
theorem U9 {A:Around}{C:Addr}{us:List Value}{kw:List (Str×Value)}:(A.under (.builtin "type.__call__" ⟨.ref C::us,kw⟩)).depth=A.depth+1:=by
 first | rfl | simp[Around.under,Code.weight,Code.isCreation,Code.isGuard,Code.isCaller,Code.frames,Code.isFrame,guardIds]
theorem U_ {A:Around}{C:Addr}{us:List Value}{kw:List (Str×Value)}:(A.under (.builtin "type.__call__" ⟨.ref C::us,kw⟩)).units=A.units+1:=by
 first | rfl | simp[Around.under,Code.cUnits,Code.frames,Code.isFrame]
theorem cM.make (r:cM (k+1) A)(C:Addr)(us:List Value)(kw:List (Str×Value)):cM k (A.under (.builtin "type.__call__" ⟨.ref C::us,kw⟩)):=
 ⟨r.hd,by have:=r.dp;rw[U9];lia,by have:=r.un;rw[U_];lia⟩
theorem cM.depth (r:cM k A):A.depth < recursionLimit:=by have:=r.dp;lia
def amT:TA:=λ_ H Q=>Q [] H
def aiE (ta:TE)(tr:TA):TA:=λσ H Q=>ta σ H λx H1=>tr σ H1 λxs H2=>Q (x::xs) H2
section
variable {X:Cx}{e:Expr}{es:List Expr}{te:TE}{t:TA}{pos:Pos}
theorem uW:PA X [] amT:=λ_ _ _ _ H Q I h=>Calls.spliced_nil ⟨[],H,I,.nil,h⟩
theorem kZ (ha:PE X e te)(hr:PA X es t)(hs:eE X.env e es:=by rfl):PA X (e::es) (aiE te t):=by
 intro pos pins s σ H Q I h;rw[hs];show wpAny _ _ (spliced ((false,eval e X.env)::backTo pos (starEach es X.env))) _ _ s;refine Calls.spliced_cons (bf (ha pins s σ H _ I h) λu s1 ⟨x,H1,I1,r1,q1⟩=>?_);exact bf (hr pos pins s1 σ H1 _ I1 q1) λus s2 ⟨xs,H2,I2,r2,q2⟩=>⟨x::xs,H2,I2,.cons r1 r2,q2⟩
def amU (t:TA):TE:=λσ H Q=>t σ H λxs H1=>xs.length<=sizeLine/\∀p,H1 p=none->Q (.ref p) (upd H1 p (.tup xs))
def amV (t:TA):TE:=λσ H Q=>t σ H λxs H1=>xs.length<=sizeLine/\∀p,H1 p=none->Q (.ref p) (upd H1 p (.lst xs))
theorem aeU {x1}(h:PA X es t):PE X (.Tuple es x1 pos) (amU t):=by
 intro pins s σ H Q I hq;refine wpAny_Tuple_spliced (bf (h pos pins s σ H _ I hq) λus s1 ⟨xs,H1,I1,r,z,q⟩=>⟨by rw[<-r.length];exact z,?_⟩);have hf:H1 s1.heap.objs.size=none:=I1.hok.fresh (le_refl _);refine ⟨.ref s1.heap.objs.size,upd H1 s1.heap.objs.size (.tup xs),I1.laid (t':=s1.toks) (λb u e=>get?_push_of_some _ e) (le_refl _) ?_,rfl,q _ hf⟩;exact ⟨z,us,r,⟨⟨_,get?_push_size _ rfl,rfl,_,rfl⟩,_,get?_push_size _ rfl,rfl⟩⟩
theorem aeV (h:PA X es t):PE X (.List es pos) (amV t):=by
 intro pins s σ H Q I hq;refine wpAny_List_spliced (bf (h pos pins s σ H _ I hq) λus s1 ⟨xs,H1,I1,r,z,q⟩=>⟨by rw[<-r.length];exact z,?_⟩);have hf:H1 s1.heap.objs.size=none:=I1.hok.fresh (le_refl _);refine ⟨.ref s1.heap.objs.size,upd H1 s1.heap.objs.size (.lst xs),I1.laid (t':=s1.toks) (λb u e=>get?_push_of_some _ e) (le_refl _) ?_,rfl,q _ hf⟩;exact ⟨z,us,0,r,get?_push_size _ rfl⟩
end
noncomputable abbrev Sp:=List V->Hp->VK->XK->Prop
noncomputable abbrev Bu:=List Env->Hp->Shared->XK->Value->Shared->Prop
structure Ib (P:Program)(w:World)(K:PySem.W.Frag)(mg:Str->Option Value)(base:Heap)(A:Around)(outer:List Env)(s:Shared)(H:Hp):Prop where
 frames:A.frames=some outer
 mod:Mod K mg base
 bs:∀b o,base.get? b=some o->s.heap.get? b=some o/\H b=none
 G4:base.objs.size<=s.heap.objs.size
 mG:s.heap.FunFrames base outer
 Mt:∀b∈frs outer,H b=none
 hok:d8 P w H s.heap
 bare:AllBare s.gens
def CE (outer:List Env)(P:Program)(w:World)(H:Hp)(s:Shared)(Q:VK)(u:Value)(s':Shared):Prop:=
 ∃v H',s'.os=s.os/\AllBare s'.gens/\Un (frs outer) [] H H' s.heap s'.heap/\d8 P w H' s'.heap/\RelV v u/\Q v H'
def CR (CX:Bu)(outer:List Env)(P:Program)(w:World)(H:Hp)(s:Shared)(Q:VK)(E:XK)(r:Result)(s':Shared):Prop:=
 match r with
 | .ok (.ret u)=>CE outer P w H s Q u s'
 | .ok _=>False
 | .error e=>CX outer H s E e s'
structure aP (P:Program)(w:World)(K:PySem.W.Frag)(mg:Str->Option Value)(base:Heap)(CX:Bu)(k:Nat)(f:Addr)(fd:FuncData)(ps:List Str)(sp:Sp):Prop where
 len:∀vs H Q E,sp vs H Q E->vs.length=ps.length
 run:∀(A:Around) (outer:List Env) (s:Shared) (H:Hp) (args:Args) (us:List Value) (vs:List V) (Q:VK) (E:XK),cM k A->Ib P w K mg base A outer s H->BindsTo s fd args (ps.zip us)->Vals vs us->sp vs H Q E->
  codeAny (model P w) A (.call (.ref f) args) (CR CX outer P w H s Q E) s
theorem Ib.make {P:Program}{w:World}{K:PySem.W.Frag}{mg:Str->Option Value}{base:Heap}{A:Around}{outer:List Env}{s:Shared}{H:Hp}(e:Ib P w K mg base A outer s H)(C:Addr)(us:List Value)(kw:List (Str×Value)):
  Ib P w K mg base (A.under (.builtin "type.__call__" ⟨.ref C::us,kw⟩)) outer s H:=⟨by first | exact e.frames | (simpa [Around.under,Code.envs,Code.isFrame,pushEnvs] using e.frames),e.mod,e.bs,e.G4,e.mG,e.Mt,e.hok,e.bare⟩
section
variable {X:Cx}{pins:List (Addr×Obj)}{σ:St}{H:Hp}{s s':Shared}
theorem Inv.env0 (I:Inv X pins σ H s):Ib X.prog X.w X.K X.mg X.base X.A X.stack s H:=
 ⟨I.ok.frames,I.ok.mod,I.bs,le_trans I.ok.G4 I.sz,I.stack,I.FJ,I.hok,I.bare⟩
theorem Inv.after (I:Inv X pins σ H s)(h:CE X.stack X.prog X.w H s Q u s'):EP X pins σ Q u s':=by
 obtain ⟨v,H',os,bare,un,hok,r,q⟩:=h;obtain ⟨hh,g,d,t,os'⟩:=s';obtain rfl:os'=s.os:=os;exact ⟨v,H',I.call (h':=hh) (g':=g) (d':=d) (t':=t) (ch:=[]) un hok bare (λb z=>absurd z (by simp)),r,q⟩
end
def aiF (sp:Sp)(G6:List V)(E:XK)(t:TA):TE:=λσ H Q=>t σ H λvs H1=>sp (vs++G6) H1 Q E
def Binds (K:PySem.W.Frag)(fd:FuncData)(ps:List Str)(ds:List Value):Prop:=
 ∀(s:Shared) (us:List Value),K.In s.heap->(us++ds).length=ps.length->BindsTo s fd ⟨us,[]⟩ (ps.zip (us++ds))
theorem Binds.all {K:PySem.W.Frag}{fd:FuncData}{ps:List Str}(h:∀us:List Value,us.length=ps.length->bindArgs fd ⟨us,[]⟩=pure (ps.zip us)):Binds K fd ps []:=λs us _ hl=>by
 rw[append_nil]at hl ⊢;exact .of_eq (h us hl)
def Passes (CX:Bu)(X:Cx)(E:XK):Prop:=∀(pins:List (Addr×Obj)) (σ:St) (H:Hp) (s:Shared) (e:Value) (s':Shared),Inv X pins σ H s->CX X.stack H s E e s'->X.xe e s'
section
variable {X:Cx}{CX:Bu}{k:Nat}{f C:Addr}{fd:FuncData}{ps:List Str}{sp:Sp}{G6:List V}{ds:List Value}{E:XK}{x m:Str}{p pos apos:Pos}{e o:Expr}{es:List Expr}{ta:TE}{t:TA}
theorem aeW (F:aP X.prog X.w X.K X.mg X.base CX k f fd ps sp)(hr:cM k X.A)(hb:Binds X.K fd ps ds)(hd:Vals G6 ds)(hx:Passes CX X E)(I:Inv X pins σ H s)(r:Vals vs us)(h:sp (vs++G6) H Q E):wpAny (model X.prog X.w) X.A (call (.ref f) us) (EP X pins σ Q) X.xe s:=by
 have r2:Vals (vs++G6) (us++ds):=r.append hd;have hl:(us++ds).length=ps.length:=by rw[<-r2.length];exact F.len _ _ _ _ h
 refine wpAny_call (codeAny_mono (F.run X.A X.stack s H ⟨us,[]⟩ (us++ds) (vs++G6) Q E hr I.env0 (hb s us I.dJ hl) r2 h) λr s' hq=>?_);cases r with
 | error e=>exact hx pins σ H s e s' I hq
 | ok fl=>
  cases fl with
  | ret u=>exact I.after hq
  | next=>exact False.elim hq
  | brk=>exact False.elim hq
  | cont=>exact False.elim hq
theorem Sw (F:aP X.prog X.w X.K X.mg X.base CX k f fd ps sp)(hr:cM k X.A)(hg:Gl X x)(hm:X.mg x=some (.ref f))(hk:keepIn X.K (.ref f)=true)(hb:Binds X.K fd ps ds)(hd:Vals G6 ds)(hx:Passes CX X E)(ha:PA X (e::es) t)(hdb:cN x:=by decide)(he:eE X.env e es:=by rfl)(hpl:iW X.env es pos:=by rfl):
  PE X (.Call (.Name x p) (e::es) [] pos) (aiF sp G6 E t):=by
 intro pins s σ H Q I h;refine wpAny_Call_Name_kw (kY I hg hm ?_ hdb);refine callWith_K (h₀:=X.base) I.ok.mod.Jq hk (bf (ha pos pins s σ H _ I h) λus s1 ⟨vs,H1,I1,r,q⟩=>⟨I1.dJ,?_⟩) he hpl;exact aeW F hr hb hd hx I1 r q
end
structure aY (N P:List Str)(sc:Scope):Prop where
 kind:sc.kind=.function
 co:sc.isCoroutine=false
 gen:sc.isGenerator=false
 nd:N.Nodup
 pre:N.take P.length=P
 par:∀x∈P,sc.names.lookup x=some .local\/sc.names.lookup x=some .cell
 aeX:∀y∈sc.names,y.2≠.free
theorem Mv {kindOf:Str->Option NameKind}{x:Str}:∀{binds:List (Str×Value)} {m:Str->Option Value},(∀v,(x,v)∉binds)->bindL kindOf binds m x=m x
 | [],_,_=>rfl
 | (n,v)::r,m,h=>by
  unfold bindL;rw[Mv λw hw=>h w (mem_cons_of_mem _ hw)];split
  ·have:x≠n:=by rintro rfl;exact h v mem_cons_self
   simp[this]
  ·rfl
theorem Mw {kindOf:Str->Option NameKind}{x:Str}:∀{binds:List (Str×Value)} {m:Str->Option Value},(∀v,(x,v)∉binds)->bindC kindOf binds m x=m x
 | [],_,_=>rfl
 | (n,v)::r,m,h=>by
  unfold bindC;rw[Mw λw hw=>h w (mem_cons_of_mem _ hw)];split
  ·rfl
  ·have:x≠n:=by rintro rfl;exact h v mem_cons_self
   simp[this]
theorem Mx {kindOf:Str->Option NameKind}{x:Str}{v:Value}:∀{P:List Str} {vs:List Value} {i:Nat} {m:Str->Option Value},P.Nodup->P[i]?=some x->vs[i]?=some v->kindOf x=some .local->
  bindL kindOf (P.zip vs) m x=some v
 | [],_,_,_,_,h,_,_=>by simp at h
 | _::_,[],_,_,_,_,h,_=>by simp at h
 | p::P,w::vs,0,m,nd,h1,h2,hk=>by
  simp at h1 h2;subst h1;subst h2;show bindL kindOf ((p,w)::P.zip vs) m p=_;unfold bindL;rw[Mv λv hv=>(nodup_cons.mp nd).1 (of_mem_zip hv).1,if_pos hk];simp
 | p::P,w::vs,i+1,m,nd,h1,h2,hk=>by
  show bindL kindOf ((p,w)::P.zip vs) m x=_;unfold bindL;exact Mx (i:=i) (nodup_cons.mp nd).2 (by simpa using h1) (by simpa using h2) hk
theorem Mz {kindOf:Str->Option NameKind}{x:Str}{v:Value}:∀{P:List Str} {vs:List Value} {i:Nat} {m:Str->Option Value},P.Nodup->P[i]?=some x->vs[i]?=some v->kindOf x≠some .local->
  bindC kindOf (P.zip vs) m x=some v
 | [],_,_,_,_,h,_,_=>by simp at h
 | _::_,[],_,_,_,_,h,_=>by simp at h
 | p::P,w::vs,0,m,nd,h1,h2,hk=>by
  simp at h1 h2;subst h1;subst h2;show bindC kindOf ((p,w)::P.zip vs) m p=_;unfold bindC;rw[Mw λv hv=>(nodup_cons.mp nd).1 (of_mem_zip hv).1,if_neg hk];simp
 | p::P,w::vs,i+1,m,nd,h1,h2,hk=>by
  show bindC kindOf ((p,w)::P.zip vs) m x=_;unfold bindC;exact Mz (i:=i) (nodup_cons.mp nd).2 (by simpa using h1) (by simpa using h2) hk
def start (N:List Str)(vs:List V):St:=vs.map some++replicate (N.length - vs.length) none
def jz (CX:Bu)(P:Program)(w:World)(K:PySem.W.Frag)(mg:Str->Option Value)(base:Heap)(N:List Str)(qual:Str)(scope:Scope)(f:Addr)(cd:Value)(A:Around)(outer:List Env)(s:Shared)(H:Hp)(E:XK):Cx where
 prog:=P
 w:=w
 K:=K
 mg:=mg
 base:=base
 A:=A.deeper (envOfC qual scope s.heap.objs.size f cd)
 N:=N
 s₀:=s
 H₀:=H
 env:=envOfC qual scope s.heap.objs.size f cd
 outer:=outer
 stack:=envOfC qual scope s.heap.objs.size f cd::outer
 ex:=[]
 calm:=true
 fn:=λ_=>true
 pn:=[]
 xe:=λe s'=>wpAny (model P w) (A.deeper (envOfC qual scope s.heap.objs.size f cd)) (leaving (envOfC qual scope s.heap.objs.size f cd) e) (λ_ s''=>CX outer H s E e s'') (λe' s''=>CX outer H s E e' s'') s'
theorem PN {sc:Scope}{n:Nat}{x:Str}(h:sc.names.lookup x=some .cell):∃c,(cellsFrom n sc.names []).lookup x=some c:=by
 have q:=cellsFrom_some sc.names n [] (.inl h);exact isSome_iff_exists.mp q
theorem WW {CX:Bu}{P:Program}{w:World}{K:PySem.W.Frag}{mg:Str->Option Value}{base:Heap}{N ps:List Str}{qual:Str}{scope:Scope}{f:Addr}{cd:Value}{A:Around}{outer:List Env}{s s1:Shared}{H:Hp}{E:XK}{us:List Value}{vs:List V}(S:aY N ps scope)(hd:A.handled=none)(e0:Ib P w K mg base A outer s H)(hl:vs.length=ps.length)(r:Vals vs us)(x:InCallC s s.heap.objs.size (bindL (envOfC qual scope s.heap.objs.size f cd).kindOf (ps.zip us) λ_=>none) (cellsFrom (s.heap.objs.size+1) scope.names []) (bindC (envOfC qual scope s.heap.objs.size f cd).kindOf (ps.zip us) λ_=>none) s1):
  Inv (jz CX P w K mg base N qual scope f cd A outer s H E) [] (start N vs) H s1:=by
 have hpl:ps.length<=N.length:=by have:=congrArg List.length S.pre;rw[length_take]at this;lia
 obtain ⟨h1,tk,rfl,hk⟩:=x.done;have WX:∀b:Addr,b∉(jz CX P w K mg base N qual scope f cd A outer s H E).ex:=λb z=>absurd (show b∈([]:List Addr) from z) (by simp);refine ⟨⟨e0.mod,S.kind,rfl,rfl,le_refl _,λy z c h1 h2=>?_,λy hy=>?_,λy c _ h=>?_,λ_=>hd,Around.frames_deeper e0.frames,.inr ⟨rfl,rfl⟩,λb z=>absurd z (WX b),e0.bs,e0.G4,λb _ _=>WX b,λb z=>absurd z (WX b),e0.mG,e0.Mt⟩,
  rfl,e0.bare,Un.kept hk,⟨_,x.toInCall.ns,λi y v h1 h2 h3=>?_⟩,λy c h=>⟨_,x.cell y c h⟩,e0.hok.fresh (le_refl _),λy c h=>?_,λp hp=>absurd (show p∈([]:List (Addr×Obj)) from hp) (by simp),e0.hok.kept hk,?_⟩
 ·exact name_of_addr x.apart (PySem.mem_of_lookup h1) (PySem.mem_of_lookup h2)
 ·have hy:scope.names.lookup y=some .cell\/scope.names.lookup y=some .free:=hy;rcases hy with hy | hy
  ·exact PN hy
  ·exact absurd rfl (S.aeX _ (PySem.mem_of_lookup hy))
 ·exact le_of_lt (x.above y c (PySem.mem_of_lookup h))
 ·have hi:i < vs.length:=by
   unfold start at h2;by_cases hi:i < vs.length
   ·exact hi
   ·rw[getElem?_append_right (by simpa using hi)]at h2;rw[List.getElem?_replicate]at h2;split at h2<;>cases h2
  have ha:vs[i]?=some v:=by
   unfold start at h2;rw[getElem?_append_left (by simpa using hi),getElem?_map]at h2;cases e:vs[i]? with
   | none=>rw[e]at h2;cases h2
   | some a=>rw[e]at h2;cases h2;rfl
  obtain ⟨u,hu,rv⟩:=r.get ha;have hp:ps[i]?=some y:=by
   rw[<-S.pre,List.getElem?_take_of_lt (by lia)];exact h1
  have ndP:ps.Nodup:=by rw[<-S.pre];exact S.nd.sublist (List.take_sublist _ _)
  refine ⟨u,rv,?_⟩;rcases S.par y (mem_of_getElem? hp) with k | k
  ·exact .inl ⟨k,Mx ndP hp hu k⟩
  ·obtain ⟨c,e⟩:=PN (n:=s.heap.objs.size+1) k;refine .inr ⟨.inl k,c,e,?_⟩;have q:=x.cell y c e;rw[Mz ndP hp hu (by show scope.names.lookup y≠_;rw[k];decide)]at q;exact q
 ·exact e0.hok.fresh (le_of_lt (x.above y c (PySem.mem_of_lookup h)))
 ·unfold start;show _=N.length;rw[length_append,length_map,length_replicate]
  lia
theorem Va {CX:Bu}{P:Program}{w:World}{K:PySem.W.Frag}{mg:Str->Option Value}{base:Heap}{k:Nat}{f:Addr}{name qual:Str}{params:Arguments}{body:List Stmt}{scope:Scope}{dV kV doc pm cdv ct oc:Value}{an od:Option Addr}{osl:Array (Option Value)}{N ps:List Str}{sp:Sp}(lk:K.lookup f=some ⟨oc,od,.func (fnOf name qual params body scope dV kV doc pm an cdv ct),osl⟩)(hcd:codeIn K cdv qual=true)(S:aY N ps scope)(len:∀vs H Q E,sp vs H Q E->vs.length=ps.length)(hbody:∀(A:Around) (outer:List Env) (s:Shared) (H:Hp) (vs:List V) (Q:VK) (E:XK),cM k (A.deeper (envOfC qual scope s.heap.objs.size f cdv))->sp vs H Q E->
   ∃t,mC (jz CX P w K mg base N qual scope f cdv A outer s H E) body t/\t {nx:=λ_ H'=>Q .non H',rt:=Q} (start N vs) H):
  aP P w K mg base CX (k+1) f (fnOf name qual params body scope dV kV doc pm an cdv ct) ps sp:=by
 refine ⟨len,λA outer s H args us vs Q E hr e0 hb r hsp=>?_⟩;have hl:=len _ _ _ _ hsp;have KX:K.In s.heap:=e0.mod.Jq.keeps λb o e=>(e0.bs b o e).1;have lim:s.heap.NoLimit:=e0.mod.nolimit.keeps λb o e=>(e0.bs b o e).1;have hkind:∀y∈ps.zip us,scope.names.lookup y.1=some .local\/(scope.names.lookup y.1=some .cell/\((cellsFrom (s.heap.objs.size+1) scope.names []).lookup y.1).isSome=true):=λ⟨n,v⟩ hy=>by
  rcases S.par n (of_mem_zip hy).1 with q | q
  ·exact .inl q
  ·exact .inr ⟨q,cellsFrom_some _ _ _ (.inl q)⟩
 refine codeAny_call_function hr.depth (KX _ _ lk) rfl S.co S.gen rfl (PySem.W.codeRec_of KX hcd) (hb _ _ _ _ ?_);refine wpAny_newFunctionEnv_cells S.kind hkind λenv he s1 x=>?_;subst he;refine ⟨lim.keeps x.toInCall.keep,codeAny_func ?_⟩;obtain ⟨t,ht,hq⟩:=hbody A outer s H vs Q E (hr.deeper _) hsp;have I:Inv (jz CX P w K mg base N qual scope f cdv A outer s H E) [] (start N vs) H s1:=WW S hr.hd e0 hl r x;refine wpAny_mono (ht [] s1 (start N vs) H _ I hq) (λfl s' hs=>?_) λe s' hs=>hs;have fin:∀{σ':St} {H':Hp} {v:V} {u:Value},Inv (jz CX P w K mg base N qual scope f cdv A outer s H E) [] σ' H' s'->RelV v u->Q v H'->CE outer P w H s Q u s':=
  λ{σ' H' v u} J rv q=>⟨v,H',J.os,J.bare,J.base,J.hok,rv,q⟩
 cases fl with
 | ret u=>
  obtain ⟨v,σ',H',J,rv,q⟩:=hs;exact fin J rv q
 | next=>
  obtain ⟨σ',H',J,q⟩:=hs;exact fin (v:=V.non) (u:=Value.none) J rfl q
 | brk=>
  obtain ⟨_,_,_,q⟩:=hs;exact False.elim q
 | cont=>
  obtain ⟨_,_,_,q⟩:=hs;exact False.elim q
section
variable {X:Cx}{x:Str}{p pos:Pos}{e:Expr}{es:List Expr}{t:TA}{id T:String}{r:List V->Hp->VK->Prop}
def tCB (r:List V->Hp->VK->Prop)(t:TA):TE:=λσ H Q=>t σ H λvs H1=>r vs H1 Q
theorem Ie (hc:eZ X (.builtin id) r)(hg:Gl X x)(hm:X.mg x=none)(hv:bootBuiltins x=some (.builtin id))(ha:PA X (e::es) t)(hn:x≠"__name__":=by decide)(hdb:cN x:=by decide)(he:eE X.env e es:=by rfl)(hpl:iW X.env es pos:=by rfl):PE X (.Call (.Name x p) (e::es) [] pos) (tCB r t):=by
 intro pins s σ H Q I h;refine wpAny_Call_Name_kw (qw I hg hm hv ?_ hn hdb);exact PyProof.Rows.callWith_builtin1 (bf (ha pos pins s σ H _ I h) λus s1 ⟨vs,H1,I1,r1,q1⟩=>hc pins s1 σ H1 vs us Q I1 r1 q1) he hpl
theorem MF (hc:eZ X (.type T) r)(hg:Gl X x)(hm:X.mg x=none)(hv:bootBuiltins x=some (.type T))(ha:PA X (e::es) t)(hn:x≠"__name__":=by decide)(hdb:cN x:=by decide)(he:eE X.env e es:=by rfl)(hpl:iW X.env es pos:=by rfl):PE X (.Call (.Name x p) (e::es) [] pos) (tCB r t):=by
 intro pins s σ H Q I h;refine wpAny_Call_Name_kw (qw I hg hm hv ?_ hn hdb);exact PyProof.Rows.callWith_type1 (bf (ha pos pins s σ H _ I h) λus s1 ⟨vs,H1,I1,r1,q1⟩=>hc pins s1 σ H1 vs us Q I1 r1 q1) he hpl
end
end L2
namespace HT
open PySem PyProof.Rows
section
variable {prog:Program}{w:World}{A:Around}{E:Value->Shared->Prop}{s:Shared}
theorem ab8 (ht:IsTup s.heap t vs.toArray)(hb:IsTup s.heap b ws.toArray)(hv:vs≠[])(h1:ws=[]->Q (.ref t) s)(h2:ws≠[]->Q (.ref s.heap.objs.size) {s with heap:=s.heap.push {cls:=.type "tuple",data:=.seq (vs++ws).toArray}})(hsz:vs.length+ws.length<=sizeLine):wpAny (model prog w) A (binaryOp .Add (.ref t) (.ref b)) Q E s:=by
 obtain ⟨⟨cls,dd,data,sl⟩,ho,hc,n,hd⟩:=id ht;obtain ⟨⟨cls2,dd2,data2,sl2⟩,ho2,hc2,n2,hd2⟩:=id hb;simp only at hc hd hc2 hd2;subst hc hd hc2 hd2;have e:vs.toArray++ws.toArray=(vs++ws).toArray:=by simp
 by_cases hw:ws=[]
 ·exact concat_meets ⟨_,ho,rfl⟩ ⟨_,ho2,rfl⟩ noFill_tuple_add seq_tuple_add slot_tuple_add entry_tuple_add (args_tuple_add_2 _ _)
   (tuple_addW1 t b vs.toArray ws.toArray n n2 dd dd2 sl sl2 (by simpa using hv) (by simp[hw])) ⟨ho,ho2,h1 hw⟩
 ·refine concat_meets ⟨_,ho,rfl⟩ ⟨_,ho2,rfl⟩ noFill_tuple_add seq_tuple_add slot_tuple_add entry_tuple_add (args_tuple_add_2 _ _)
   (tuple_addW2 t b vs.toArray ws.toArray n n2 dd dd2 sl sl2 (by simpa using hv) (by simpa using hw) (by rw[size_toArray,size_toArray];exact hsz)) ⟨ho,ho2,?_⟩
  rw[e];exact h2 hw
def bG (n d:Nat):Option Int->Nat
 | none=>d
 | some v=>if v < 0 then (v+(n:Int)).toNat else min v.toNat n
theorem Ju (n d:Nat)(hd:d<=n)(o:Option Int):bG n d o<=n:=by
 cases o with
 | none=>exact hd
 | some v=>
  show (if v < 0 then (v+(n:Int)).toNat else min v.toNat n)<=n;by_cases hv:v < 0
  ·rw[if_pos hv];lia
  ·rw[if_neg hv];exact Nat.min_le_right _ _
theorem Sx (v:Int)(n d:Nat):(if v < 0 then max (v+(n:Int)) 0 else min v (n:Int))=((bG n d (some v):Nat):Int):=by
 show (if v < 0 then max (v+(n:Int)) 0 else min v (n:Int))=(((if v < 0 then (v+(n:Int)).toNat else min v.toNat n):Nat):Int);by_cases hv:v < 0
 ·simp only[if_pos hv];lia
 ·simp only[if_neg hv];lia
theorem Vb (lo hi:Option Int)(n:Nat):Builtin.Slice.sliceAdjust lo hi 1 (n:Int)=(((bG n 0 lo:Nat):Int),((bG n n hi:Nat):Int)):=by
 have h1:¬((1:Int) < 0):=by lia
 unfold Builtin.Slice.sliceAdjust;simp only[h1,if_false];refine Prod.ext ?_ ?_
 ·cases lo with
  | none=>rfl
  | some v=>exact Sx v n 0
 ·cases hi with
  | none=>rfl
  | some v=>exact Sx v n n
theorem Vc (i j:Nat):Builtin.Slice.slicePlaces (i:Int) (j:Int) 1=j - i:=by
 unfold Builtin.Slice.slicePlaces;have h1:(1:Int) > 0:=by lia
 simp only[h1,if_true,ediv_one];split<;>lia
theorem Jv (p:IsPart v o)(h:Q o s):wpAny (model prog w) A (Builtin.Slice.slicePartIndex v) Q E s:=by
 cases p with
 | none=>exact slicePart_none h
 | int i t=>exact slicePart_int h
theorem Ig {sl:Addr}{vl vu:Value}{lo hi:Option Int}{n:Nat}{Q:Int×Int×Nat->Shared->Prop}(hs:s.heap.IsSliceOf sl vl vu .none)(pl:IsPart vl lo)(pu:IsPart vu hi)(h:Q (((bG n 0 lo:Nat):Int),1,bG n n hi - bG n 0 lo) s):wpAny (model prog w) A (Builtin.Slice.sliceApplied (.ref sl) (pure (n:Int))) Q E s:=by
 obtain ⟨os,hos,hcs,hds⟩:=id hs;unfold Builtin.Slice.sliceApplied Builtin.Slice.sliceFields;refine wpAny_bind (wpAny_bind (wpAny_field hos hds (x:=vl) rfl (wpAny_bind (wpAny_field hos hds (x:=vu) rfl (wpAny_bind (wpAny_field hos hds (x:=.none) rfl (wpAny_pure ?_)))))));refine wpAny_bind (slicePart_none ?_);show wpAny _ _ (if ((1:Int) == 0)=true then _ else _) _ _ s;rw[if_neg (by decide)];refine wpAny_bind (Jv pl (wpAny_bind (Jv pu (wpAny_bind (wpAny_pure ?_)))));show wpAny _ _ (match Builtin.Slice.sliceAdjust lo hi 1 (n:Int) with | (lo,hi)=>pure (lo,(1:Int),Builtin.Slice.slicePlaces lo hi 1)) _ _ s;rw[Vb lo hi n];show wpAny _ _ (pure (((bG n 0 lo:Nat):Int),(1:Int),Builtin.Slice.slicePlaces ((bG n 0 lo:Nat):Int) ((bG n n hi:Nat):Int) 1)) _ _ s;rw[Vc];exact wpAny_pure h
theorem Zo (xs:Array Value)(i k:Nat):((List.range k).filterMap λ(m:Nat)=>xs[((i:Int)+(m:Int) * 1).toNat]?).toArray=((xs.toList.drop i).take k).toArray:=by
 have e:(λ(m:Nat)=>xs[((i:Int)+(m:Int) * 1).toNat]?)=λm=>xs[i+m]?:=by
  funext m;have:((i:Int)+(m:Int) * 1).toNat=i+m:=by lia
  rw[this]
 rw[e];have:=pick_run xs i k;rw[List.filterMap_map]at this;have e2:((λx=>xs[x]?) ∘ λx=>i+x)=λm=>xs[i+m]?:=rfl;rw[e2]at this;rw[this]
theorem GK {t sl:Addr}{items:Array Value}{vl vu:Value}{lo hi:Option Int}{Q:Value->Shared->Prop}(ht:IsTup s.heap t items)(hs:s.heap.IsSliceOf sl vl vu .none)(pl:IsPart vl lo)(pu:IsPart vu hi)(hw:¬(bG items.size 0 lo=0/\bG items.size items.size hi=items.size))(h:Q (.ref s.heap.objs.size) {s with heap:=s.heap.push {cls:=.type "tuple",data:=.seq ((items.toList.drop (bG items.size 0 lo)).take (bG items.size items.size hi - bG items.size 0 lo)).toArray}})(hsz:items.size<=sizeLine):wpAny (model prog w) A (getItem (.ref t) (.ref sl)) Q E s:=by
 have Oe:sizeOk (.seq ((items.toList.drop (bG items.size 0 lo)).take (bG items.size items.size hi - bG items.size 0 lo)).toArray):=by
  show ((items.toList.drop (bG items.size 0 lo)).take (bG items.size items.size hi - bG items.size 0 lo)).toArray.size<=sizeLine;rw[size_toArray,length_take,length_drop,Array.length_toList]
  lia
 have hj:bG items.size items.size hi<=items.size:=Ju _ _ (le_refl _) hi;obtain ⟨os,hos,hcs,hds⟩:=id hs;have hTs:s.TypeIs (.ref sl) "slice":=⟨os,hos,hcs⟩
 unfold getItem
 try with_reducible refine wpAny_holding ?_
 first | refine wpAny_bind (wpAny_pure ?_) | skip
 refine wpAny_bind (wpAny_sequenceKey ht.typeIs (by decide) ?_);refine wpAny_bind (wpAny_callSpecial?_slot (name:=Str.ofString "__getitem__") ht.typeIs PyProof.Rows.slot_tuple_getitem
  (wpAny_call_entry PyProof.Rows.slot_tuple_getitem ht.typeIs entry_tuple_getitem ?_ (args_tuple_getitem _ _)))
 show wpAny _ _ (Builtin.Tuple.tupleItemsOf (.ref t) >>= _) _ _ s;refine wpAny_bind (tupleItemsOf_ ht ?_);refine wpAny_bind (wpAny_typeOf hTs ?_);rw[if_pos (by decide)];refine wpAny_bind (Ig hs pl pu ?_);have hno:¬((((bG items.size 0 lo:Nat):Int) == 0 && (1:Int) == 1 && (bG items.size items.size hi - bG items.size 0 lo) == items.size)=true):=by
  intro q;rw[and_eq_true,and_eq_true]at q;have q1:((bG items.size 0 lo:Nat):Int)=0:=eq_of_beq q.1.1;have q2:bG items.size items.size hi - bG items.size 0 lo=items.size:=eq_of_beq q.2;exact hw ⟨by lia,by lia⟩
 show wpAny _ _ (if (((bG items.size 0 lo:Nat):Int) == 0 && (1:Int) == 1 && (bG items.size items.size hi - bG items.size 0 lo) == items.size)=true then _ else _) _ _ s;rw[if_neg hno,Zo]
 first
  | exact wpAny_bind (m:=Builtin.Tuple.tupleExact _) (wpAny_newObj_type (wpAny_pure ⟨_,rfl,wpAny_pure h⟩) Oe)
  | exact wpAny_bind (m:=Builtin.Tuple.tupleExact _) (wpAny_newObj_type (wpAny_bind (wpAny_pure (wpAny_pure ⟨_,rfl,wpAny_pure h⟩))) Oe)
  | exact wpAny_bind (wpAny_bind (m:=Builtin.Tuple.tupleExact _) (wpAny_newObj_type (wpAny_pure (wpAny_pure ⟨_,rfl,wpAny_pure h⟩)) Oe))
  | exact wpAny_bind (wpAny_bind (m:=Builtin.Tuple.tupleExact _) (wpAny_newObj_type (wpAny_pure ⟨_,rfl,wpAny_pure h⟩) Oe))
end
end HT
namespace L2
open PySem PySem.Spec PyProof.Rows
noncomputable abbrev TO:=St->Hp->(Option Int->Hp->Prop)->Prop
def PO (X:Cx)(e:Option Expr)(t:TO):Prop:=
 ∀(pins:List (Addr×Obj)) (s:Shared) (σ:St) (H:Hp) (Q:Option Int->Hp->Prop),Inv X pins σ H s->t σ H Q->
  wpAny (model X.prog X.w) X.A (evalPart e X.env) (λu s'=>∃o H',Inv X pins σ H' s'/\IsPart u o/\Q o H') X.xe s
def ab9:TO:=λ_ H Q=>Q none H
def aiG (t:TE):TO:=λσ H Q=>t σ H λx H1=>∃i,x=.int i/\Q (some i) H1
section
variable {X:Cx}{e:Expr}{te:TE}{lo hi:Option Expr}{tl th:TO}{pos p2:Pos}
theorem Sy:PO X none ab9:=by
 intro pins s σ H Q I h;rw[evalPart_none];exact wpAny_pure ⟨none,H,I,.none,h⟩
theorem FT (h:PE X e te):PO X (some e) (aiG te):=by
 intro pins s σ H Q I hw;rw[evalPart_some];refine bf (h pins s σ H _ I hw) λu s1 ⟨x,H1,I1,r1,q1⟩=>?_;obtain ⟨i,rfl,q⟩:=q1;obtain ⟨t,rfl⟩:=r1;exact ⟨some i,H1,I1,.int i t,q⟩
def xQ (X:Cx)(r:V->Option Int->Option Int->Hp->VK->Prop):Prop:=
 ∀(pins:List (Addr×Obj)) (s:Shared) (σ:St) (H:Hp) (x:V) (v vl vu:Value) (lo hi:Option Int) (sl:Addr) (Q:VK),Inv X pins σ H s->RelV x v->s.heap.IsSliceOf sl vl vu .none->IsPart vl lo->IsPart vu hi->r x lo hi H Q->
  ∃T id,typeLookup (.type T) "__getitem__"=pure (some (.builtin id))/\s.TypeIs v T/\wpAny (model X.prog X.w) X.A (getItem v (.ref sl)) (EP X pins σ Q) X.xe s
theorem xQ.or (h:xQ X r)(h':xQ X r'):xQ X (λx lo hi H Q=>r x lo hi H Q\/r' x lo hi H Q):=by
 intro pins s σ H x v vl vu lo hi sl Q I rx hs pl pu q;rcases q with q | q
 ·exact h pins s σ H x v vl vu lo hi sl Q I rx hs pl pu q
 ·exact h' pins s σ H x v vl vu lo hi sl Q I rx hs pl pu q
def tSl (r:V->Option Int->Option Int->Hp->VK->Prop)(te:TE)(tl th:TO):TE:=λσ H Q=>te σ H λx H1=>tl σ H1 λl H2=>th σ H2 λu H3=>r x l u H3 Q
theorem Ih (hr:xQ X r)(he:PE X e te)(hl:PO X lo tl)(hu:PO X hi th):PE X (.Subscript e (.Slice lo hi none p2) pos) (tSl r te tl th):=by
 intro pins s σ H Q I h;refine Subscript_ (bf (he pins s σ H _ I h) λv s1 ⟨x,H1,I1,r1,q1⟩=>?_);refine wpAny_Slice (bf (hl pins s1 σ H1 _ I1 q1) λvl s2 ⟨l,H2,I2,pl,q2⟩=>bf (hu pins s2 σ H2 _ I2 q2) λvu s3 ⟨u,H3,I3,pu,q3⟩=>?_);rw[evalPart_none];refine wpAny_pure ?_;have I4:Inv X pins σ H3 {s3 with heap:=s3.heap.push {cls:=.type "slice",data:=.fields #[vl,vu,.none]}}:=I3.kept (t':=s3.toks) λb ob q=>get?_push_of_some _ q;obtain ⟨T,id,hT,ht,hg⟩:=hr pins {s3 with heap:=s3.heap.push {cls:=.type "slice",data:=.fields #[vl,vu,.none]}} σ H3 x v vl vu l u s3.heap.objs.size Q I4 r1 (Heap.IsSliceOf.new ..) pl pu q3;show wpAny (model X.prog X.w) X.A (subscriptTail e (.Slice lo hi none p2) v (.ref s3.heap.objs.size)) (EP X pins σ Q) X.xe {s3 with heap:=s3.heap.push {cls:=.type "slice",data:=.fields #[vl,vu,.none]}};exact tail_any (ops:=[.ref s3.heap.objs.size,v]) ht hT hg (by with_unfolding_all rfl)
def wV (xs:List V)(lo hi:Option Int):List V:=(xs.drop (HT.bG xs.length 0 lo)).take (HT.bG xs.length xs.length hi - HT.bG xs.length 0 lo)
theorem G7 (xs:List V)(lo hi:Option Int):(wV xs lo hi).length<=xs.length:=by
 unfold wV;rw[length_take,length_drop]
 lia
def amW (K:PySem.W.Frag):V->Option Int->Option Int->Hp->VK->Prop:=λx lo hi H Q=>∃a xs,x=.ref a/\gA K H a xs/\
 ¬(HT.bG xs.length 0 lo=0/\HT.bG xs.length xs.length hi=xs.length)/\∀p,H p=none->Q (.ref p) (upd H p (.tup (wV xs lo hi)))
theorem aeY:xQ X (amW X.K):=by
 intro pins s σ H x v vl vu lo hi sl Q I rx hs pl pu h;obtain ⟨a,xs,rfl,hx,hw,q⟩:=h;cases rx;obtain ⟨its,r,ht,hz⟩:=I.tuple hx;have hlen:its.toArray.size=xs.length:=by rw[size_toArray];exact r.length.symm
 refine ⟨"tuple",_,PyProof.Rows.slot_tuple_getitem.lookup,ht.typeIs,?_⟩;refine HT.GK ht hs pl pu (by rw[hlen];exact hw) ?_ (by rw[hlen];exact hz);rw[hlen];refine ⟨.ref s.heap.objs.size,_,I.laid (t':=s.toks) (o:=.tup (wV xs lo hi)) (λb ob q=>get?_push_of_some _ q) (le_refl _) ?_,rfl,q _ (I.hok.fresh (le_refl _))⟩;exact ⟨le_trans (G7 xs lo hi) hz,_,(r.drop (HT.bG xs.length 0 lo)).take (HT.bG xs.length xs.length hi - HT.bG xs.length 0 lo),Bp.new _ _⟩
def aiH (K:PySem.W.Frag):R2:=λx y H Q=>∃a b xs ys,x=.ref a/\y=.ref b/\gA K H a xs/\gA K H b ys/\xs≠[]/\xs.length+ys.length<=sizeLine/\
 (ys=[]->Q (.ref a) H)/\(ys≠[]->∀p,H p=none->Q (.ref p) (upd H p (.tup (xs++ys))))
theorem Vals.K5 (r:Vals xs us):us=[]↔xs=[]:=by
 cases r with
 | nil=>simp
 | cons _ _=>simp
theorem ab_:bO X (binaryOp .Add) (aiH X.K):=by
 intro pins s σ H x y v u Q I rx ry h;obtain ⟨a,b,xs,ys,rfl,rfl,ha,hb,hx,hz,q1,q2⟩:=h;cases rx;cases ry;obtain ⟨its,r1,p1,_⟩:=I.tuple ha;obtain ⟨its2,r2,p2,_⟩:=I.tuple hb;refine HT.ab8 p1 p2 (λz=>hx (r1.K5.mp z)) (λz=>⟨.ref a,H,I,rfl,q1 (r2.K5.mp z)⟩) (λz=>?_) (by rw[<-r1.length,<-r2.length];exact hz);refine ⟨.ref s.heap.objs.size,_,I.laid (t':=s.toks) (o:=.tup (xs++ys)) (λb ob q=>get?_push_of_some _ q) (le_refl _) ?_,rfl,q2 (λw=>z (r2.K5.mpr w)) _ (I.hok.fresh (le_refl _))⟩;exact ⟨by rw[length_append];exact hz,_,r1.append r2,Bp.new _ _⟩
end
def lD (n:Nat)(i:Int):Option Nat:=if 0<=i then (if i < n then some i.toNat else none) else if -(n:Int)<=i then some (i+n).toNat else none
def bT {α:Type}(xs:List α)(i:Int):Option α:=(lD xs.length i).bind λj=>xs[j]?
theorem SJ (h:lD n i=some j):seqIndex? i n=some j/\j < n/\-(n:Int)<=i/\i < n:=by
 unfold lD at h;by_cases h0:0<=i
 ·rw[if_pos h0]at h;by_cases h1:i < n
  ·rw[if_pos h1]at h;have e:i.toNat=j:=Option.some.inj h;exact ⟨by rw[seqIndex_of h0 h1,e],by lia,by lia,h1⟩
  ·rw[if_neg h1]at h;cases h
 ·rw[if_neg h0]at h;by_cases h1:-(n:Int)<=i
  ·rw[if_pos h1]at h;have e:(i+n).toNat=j:=Option.some.inj h;exact ⟨by rw[seqIndex_neg (by lia) h1,e],by lia,h1,by lia⟩
  ·rw[if_neg h1]at h;cases h
theorem K6 {α:Type}{xs:List α}{v:α}(h:bT xs i=some v):∃j,seqIndex? i xs.length=some j/\xs[j]?=some v/\j < xs.length/\-(xs.length:Int)<=i/\i < xs.length:=by
 unfold bT at h;cases e:lD xs.length i with
 | none=>rw[e]at h;cases h
 | some j=>
  rw[e]at h;obtain ⟨h1,h2,h3,h4⟩:=SJ e;exact ⟨j,h1,h,h2,h3,h4⟩
def uX (b:Expr):Prop:=∀o i,subscripted b false o i=operate [o,i] (getItem o i)
def uY (X:Cx)(r:R2):Prop:=
 ∀(value slice:Expr) (pins:List (Addr×Obj)) (s:Shared) (σ:St) (H:Hp) (x y:V) (v u:Value) (Q:VK),Inv X pins σ H s->RelV x v->RelV y u->r x y H Q->
  subscripted slice false v u=operate [v,u] (getItem v u)->wpAny (model X.prog X.w) X.A (subscriptTail value slice v u) (EP X pins σ Q) X.xe s
def mD (X:Cx)(id:String)(r:V->List V->Hp->VK->Prop):Prop:=
 ∀(pins:List (Addr×Obj)) (s:Shared) (σ:St) (H:Hp) (x:V) (xs:List V) (v:Value) (us:List Value) (Q:VK),Inv X pins σ H s->RelV x v->Vals xs us->r x xs H Q->
  wpAny (model X.prog X.w) X.A (call (.builtin id) (v::us)) (EP X pins σ Q) X.xe s
section
variable {X:Cx}{a b:Expr}{ta tb:TE}{pos:Pos}
theorem uY.or (h:uY X r)(h':uY X r'):uY X (λx y H Q=>r x y H Q\/r' x y H Q):=by
 intro value slice pins s σ H x y v u Q I rx ry q hs;rcases q with q | q
 ·exact h value slice pins s σ H x y v u Q I rx ry q hs
 ·exact h' value slice pins s σ H x y v u Q I rx ry q hs
theorem aaW (hr:uY X r)(ha:PE X a ta)(hb:PE X b tb)(hs:uX b):PE X (.Subscript a b pos) (tOp r ta tb):=by
 intro pins s σ H Q I h;exact Subscript_ (Zg ha hb I h λv u s2 x y H2 I2 rx ry q=>hr a b pins s2 σ H2 x y v u Q I2 rx ry q (hs _ _))
def aeZ (K:PySem.W.Frag):R2:=λx y H Q=>∃p xs i v,x=.ref p/\y=.int i/\jd K H p xs/\bT xs i=some v/\Q v H
def ae0 (K:PySem.W.Frag):R2:=λx y H Q=>∃p xs i v,x=.ref p/\y=.int i/\gA K H p xs/\bT xs i=some v/\Q v H
def ae1:R2:=λx y H Q=>∃z i c,x=.str z/\y=.int i/\z.length<=sizeLine/\bT z.cps.toList i=some c/\Q (.str ⟨#[c]⟩) H
theorem acd:uY X (aeZ X.K):=by
 intro value slice pins s σ H x y v u Q I rx ry h hs;obtain ⟨p,xs,i,z,rfl,rfl,hq,he,q⟩:=h;cases rx;obtain ⟨t,rfl⟩:=ry;obtain ⟨its,r,pl,hz⟩:=I.list hq;obtain ⟨j,h1,h2,h3,h4,h5⟩:=K6 he;obtain ⟨w,ew,Bv⟩:=r.get h2;have hl:=r.length;have hn:=uV;have fin:EP X pins σ Q w s:=⟨z,H,I,Bv,q⟩
 by_cases h0:0<=i
 ·have hj:i.toNat=j:=by
   rw[seqIndex_of h0 h5]at h1;exact Option.some.inj h1
  exact item_listR pl.isList h0 (by lia) (by rw[hj];simpa using ew) fin hs
 ·have hj:(i+(its.toArray.size:Int)).toNat=j:=by
   rw[seqIndex_neg (by lia) h4]at h1;rw[size_toArray,<-hl];exact Option.some.inj h1
  exact subscriptTail_builtinR (x:=w) pl.isList.typeIs slot_list_getitem.lookup
   (wpAny_getItem_list_neg (Q:=λr s'=>r=w/\EP X pins σ Q r s') pl.isList (by lia) (by rw[size_toArray]<;>lia) (by lia) (by rw[hj];simpa using ew) ⟨rfl,fin⟩) hs
theorem ae2:uY X (ae0 X.K):=by
 intro value slice pins s σ H x y v u Q I rx ry h hs;obtain ⟨p,xs,i,z,rfl,rfl,hq,he,q⟩:=h;cases rx;obtain ⟨t,rfl⟩:=ry;obtain ⟨its,r,pl,hz⟩:=I.tuple hq;obtain ⟨j,h1,h2,h3,h4,h5⟩:=K6 he;obtain ⟨w,ew,Bv⟩:=r.get h2;have hl:=r.length;have hn:=uV;have fin:EP X pins σ Q w s:=⟨z,H,I,Bv,q⟩
 exact subscriptTail_builtinR (x:=w) pl.typeIs slot_tuple_getitem.lookup
  (getItem_tuple (j:=j) (Q:=λr s'=>r=w/\EP X pins σ Q r s') pl (by lia) (by lia) (by rw[size_toArray,<-hl];exact h1) (by simpa using ew) ⟨rfl,fin⟩) hs
theorem ae3:uY X ae1:=by
 intro value slice pins s σ H x y v u Q I rx ry h hs;obtain ⟨z,i,c,rfl,rfl,hz,he,q⟩:=h;obtain ⟨t,rfl⟩:=rx;obtain ⟨t',rfl⟩:=ry;obtain ⟨j,h1,h2,h3,h4,h5⟩:=K6 he;have hl:z.cps.toList.length=z.length:=by simp[Str.length]
 rw[hl]at h1 h4 h5;have hn:=uV;exact tail_any (typeIs_str s z t) slot_str_getitem.lookup (getItem_str (c:=c) (by
  have e1:decide (i < -(2 ^ 63:Int))=false:=decide_eq_false (by lia);have e2:decide (i ≥ 2 ^ 63)=false:=decide_eq_false (by lia);rw[e1,e2,Bool.or_false]) (by rw[h1];simpa using h2) ⟨.str ⟨#[c]⟩,H,I.tok _,⟨_,rfl⟩,q⟩) hs
def rIx (K:PySem.W.Frag):R2:=λx y H Q=>aeZ K x y H Q\/ae0 K x y H Q\/ae1 x y H Q
theorem Jw:uY X (rIx X.K):=acd.or (ae2.or ae3)
theorem Vd (its:List Value)(n j:Nat)(u:Value):Obj.mapSeq (·.setIfInBounds j u) {cls:=.type "list",data:=.seq its.toArray n}={cls:=.type "list",data:=.seq (its.set j u).toArray n}:=by
 simp[Obj.mapSeq]
theorem Inv.lst {pins:List (Addr×Obj)}{σ:St}{H:Hp}{s:Shared}{p:Addr}{xs:List V}(I:Inv X pins σ H s)(h:H p=some (.lst xs)):
  ∃(its:List Value) (n:Nat),Vals xs its/\s.heap.get? p=some {cls:=.type "list",data:=.seq its.toArray n}/\xs.length<=sizeLine:=by
 obtain ⟨z,its,n,r,e⟩:=I.hok p _ h;exact ⟨its,n,r,e,z⟩
theorem Inv.ae4 {pins:List (Addr×Obj)}{σ:St}{H:Hp}{s:Shared}{p:Addr}{xs ys:List V}{its its':List Value}{n n':Nat}{f:Obj->Obj}(I:Inv X pins σ H s)(h:H p=some (.lst xs))(ho:s.heap.get? p=some {cls:=.type "list",data:=.seq its.toArray n})(hf:f {cls:=.type "list",data:=.seq its.toArray n}={cls:=.type "list",data:=.seq its'.toArray n'})(r:Vals ys its')(hz:ys.length<=sizeLine)(t:Nat):
  Inv X pins σ (upd H p (.lst ys)) {s with heap:=s.heap.update p f,toks:=t}:=by
 have e:(s.heap.update p f).get? p=some {cls:=.type "list",data:=.seq its'.toArray n'}:=by
  rw[get?_update_self f ho (by rw[hf]<;>rfl),hf]
 refine I.write (x:=p) (e:=p) (by rw[h];trivial) (.inl rfl) (λb u hb q=>(get?_update_other _ _ (Ne.symm hb)).trans q) ⟨_,e⟩ ?_;exact ⟨hz,its',n',r,e⟩
def aiI:V->V->V->Hp->(Hp->Prop)->Prop:=λo i v H Q=>∃p xs k j,o=.ref p/\i=.int k/\H p=some (.lst xs)/\lD xs.length k=some j/\Q (upd H p (.lst (xs.set j v)))
theorem set_list:wR X aiI:=by
 intro pins s σ H o i v ov iv u Q I ro ri rv h;obtain ⟨p,xs,k,j,rfl,rfl,hp,hj,q⟩:=h;cases ro;obtain ⟨t,rfl⟩:=ri;obtain ⟨its,n,r,ho,hz⟩:=I.lst hp;obtain ⟨h1,h2,h3,h4⟩:=SJ hj;have hl:=r.length;have hn:=uV;have I':Inv X pins σ (upd H p (.lst (xs.set j v))) {s with heap:=s.heap.update p (Obj.mapSeq (·.setIfInBounds j u))}:=
  I.ae4 hp ho (Vd its n j u) (r.set rv j) (by rw[List.length_set];exact hz) s.toks
 by_cases h0:0<=k
 ·have hk:k.toNat=j:=by
   rw[seqIndex_of h0 h4]at h1;exact Option.some.inj h1
  exact PySem.W.ki_setAt ho h0 (by lia) (by rw[size_toArray,<-hl];exact h4) (by rw[hk];exact ⟨_,I',q⟩)
 ·have hk:(k+(its.toArray.size:Int)).toNat=j:=by
   rw[seqIndex_neg (by lia) h3]at h1;rw[size_toArray,<-hl];exact Option.some.inj h1
  exact PySem.W.ki_setBack ho (by lia) (by rw[size_toArray,<-hl];exact h3) (by lia) (by rw[hk];exact ⟨_,I',q⟩)
theorem P0 (lo hi:Option Int)(n:Nat):(sliceBounds lo hi none n).1=((HT.bG n 0 lo:Nat):Int)/\(sliceBounds lo hi none n).2.1=((HT.bG n n hi:Nat):Int)/\(sliceBounds lo hi none n).2.2=1:=by
 refine ⟨?_,?_,rfl⟩
 ·cases lo with
  | none=>simp[sliceBounds,HT.bG]
  | some i=>
   simp only[sliceBounds,HT.bG,getD_none,show (1:Int) > 0 by decide,if_true];by_cases h:i < 0
   ·simp only[h,if_true]<;>lia
   ·simp only[h,if_false]<;>lia
 ·cases hi with
  | none=>simp[sliceBounds,HT.bG]
  | some i=>
   simp only[sliceBounds,HT.bG,getD_none,show (1:Int) > 0 by decide,if_true];by_cases h:i < 0
   ·simp only[h,if_true]<;>lia
   ·simp only[h,if_false]<;>lia
theorem Ny (its:List Value)(lo hi:Option Int):slicePick its.toArray lo hi none=((its.drop (HT.bG its.length 0 lo)).take (HT.bG its.length its.length hi - HT.bG its.length 0 lo)).toArray:=by
 obtain ⟨h1,h2,h3⟩:=P0 lo hi its.toArray.size;unfold slicePick;rw[h1,h2,h3];simp only[sliceRange_one,pick_run,size_toArray]<;>rfl
def amX (K:PySem.W.Frag):V->Option Int->Option Int->Hp->VK->Prop:=λx lo hi H Q=>∃a xs,x=.ref a/\jd K H a xs/\∀p,H p=none->Q (.ref p) (upd H p (.lst (wV xs lo hi)))
theorem ace:xQ X (amX X.K):=by
 intro pins s σ H x v vl vu lo hi sl Q I rx hs pl pu h;obtain ⟨a,xs,rfl,hx,q⟩:=h;cases rx;obtain ⟨its,r,ht,hz⟩:=I.list hx;have hlen:=r.length;refine ⟨"list",_,slot_list_getitem.lookup,ht.isList.typeIs,?_⟩;refine wpAny_getItem_list_slice ht.isList hs pl pu .none (by simp) ?_ (by rw[size_toArray]<;>lia);rw[Ny,<-hlen];refine ⟨.ref s.heap.objs.size,_,I.laid (t':=s.toks) (o:=.lst (wV xs lo hi)) (λb ob q=>get?_push_of_some _ q) (le_refl _) ?_,rfl,q _ (I.hok.fresh (le_refl _))⟩;exact ⟨le_trans (G7 xs lo hi) hz,_,0,(r.drop (HT.bG xs.length 0 lo)).take (HT.bG xs.length xs.length hi - HT.bG xs.length 0 lo),get?_push_size _ rfl⟩
theorem eZ.or (h:eZ X f r)(h':eZ X f r'):eZ X f (λxs H Q=>r xs H Q\/r' xs H Q):=by
 intro pins s σ H xs us Q I rs q;rcases q with q | q
 ·exact h pins s σ H xs us Q I rs q
 ·exact h' pins s σ H xs us Q I rs q
def tyV (K:PySem.W.Frag)(T:String)(x:V)(H:Hp):Prop:=match x with
 | .str _=>T="str"
 | .int _=>T="int"
 | .ref p=>(T="list"/\∃xs,jd K H p xs)\/(T="tuple"/\∃o,K.lookup p=some o/\o.cls=.type "tuple"/\o.dict=none)\/
   (T="dict"/\((∃kvs,H p=some (.dK kvs))\/∃kvs,H p=some (.dT kvs)))\/(T="set"/\∃S n,H p=some (.set S n))
 | _=>False
theorem WY (I:Inv X pins σ H s)(r:RelV x v)(ty:tyV X.K T x H):
  s.TypeIs v T/\∀a,v=.ref a->∃ob,s.heap.get? a=some ob/\ob.dict=none:=by
 cases x with
 | str z=>
  obtain ⟨t,rfl⟩:=r;cases (show T="str" from ty);exact ⟨typeIs_str s z t,λ_ e=>nomatch e⟩
 | int i=>
  obtain ⟨t,rfl⟩:=r;cases (show T="int" from ty);exact ⟨typeIs_int s i t,λ_ e=>nomatch e⟩
 | ref p=>
  cases r;rcases ty with ⟨rfl,xs,hq⟩ | ⟨rfl,o,hk,hc,hd⟩ | ⟨rfl,hk⟩ | ⟨rfl,S,n,hk⟩
  ·obtain ⟨its,_,pl,_⟩:=I.list hq;refine ⟨pl.isList.typeIs,λa e=>?_⟩;cases e;obtain ⟨o,n,e,c,hd,_⟩:=pl;exact ⟨o,e,hd⟩
  ·refine ⟨⟨o,I.dJ p o hk,hc⟩,λa e=>?_⟩;cases e;exact ⟨o,I.dJ _ o hk,hd⟩
  ·have z:∃o,s.heap.get? p=some o/\o.ExactDict:=by
    rcases hk with ⟨kvs,hk⟩ | ⟨kvs,hk⟩
    ·obtain ⟨_,_,_,_,o,_,_,e,ex,_⟩:=I.hok p _ hk;exact ⟨o,e,ex⟩
    ·obtain ⟨_,_,_,_,o,_,_,e,ex,_⟩:=I.hok p _ hk;exact ⟨o,e,ex⟩
   obtain ⟨o,e,ex⟩:=z;refine ⟨⟨o,e,ex.1⟩,λa e2=>?_⟩;cases e2;exact ⟨o,e,ex.2.1⟩
  ·obtain ⟨o,_,_,_,e,ex,_⟩:=I.hok p _ hk;refine ⟨⟨o,e,ex.1⟩,λa e2=>?_⟩;cases e2;exact ⟨o,e,ex.2.1⟩
 | _=>exact False.elim ty
def amY (K:PySem.W.Frag)(T:String)(r:V->List V->Hp->VK->Prop)(to:TE):TE:=λσ H Q=>to σ H λx H1=>tyV K T x H1/\r x [] H1 Q
def tBM (K:PySem.W.Frag)(T:String)(r:V->List V->Hp->VK->Prop)(to:TE)(t:TA):TE:=λσ H Q=>to σ H λx H1=>tyV K T x H1/\t σ H1 λxs H2=>r x xs H2 Q
variable {o e:Expr}{es:List Expr}{to:TE}{t:TA}{name:Str}{apos cpos:Pos}{T id:String}{r:V->List V->Hp->VK->Prop}
theorem ae5 (pa:PlainAttrs T)(slot:Slot T name id)(hty:typeOf (.builtin id)=pure (.type "method_descriptor"))(hm:mD X id r)(ho:PE X o to)(hbase:attributeBase o name X.env (eval o X.env)=eval o X.env:=by rfl)(hline:(apos.endLine == cpos.line)=true:=by rfl):PE X (.Call (.Attribute o name apos) [] [] cpos) (amY X.K T r to):=by
 intro pins s σ H Q I h;refine wpAny_Call_method0_late hbase hline (bf (ho pins s σ H _ I h) λv s1 ⟨x,H1,I1,r1,ty,q1⟩=>?_);obtain ⟨h1,h2⟩:=WY I1 r1 ty;exact ⟨T,id,pa,slot,hty,h1,h2,Calls.callWith_builtin rfl (PySem.evalArgs_none (hm pins s1 σ H1 x [] v [] Q I1 r1 .nil q1))⟩
theorem aiJ (pa:PlainAttrs T)(slot:Slot T name id)(hty:typeOf (.builtin id)=pure (.type "method_descriptor"))(hm:mD X id r)(ho:PE X o to)(ha:PA X (e::es) t)(hbase:attributeBase o name X.env (eval o X.env)=eval o X.env:=by rfl)(hfew:((backTo cpos (starEach (e::es) X.env)).all (λx=>!x.1) && (backToKw cpos (keywordEach [] X.env)).all (λx=>x.1.isSome)
   && decide ((e::es).length+([]:List Keyword).length+(if ([]:List Keyword).isEmpty then 0 else 1) < 30))=true:=by rfl) (hline:(apos.endLine == cpos.line)=true:=by rfl) (hs:eE X.env e es:=by rfl) (hplain:iW X.env es cpos:=by rfl):
  PE X (.Call (.Attribute o name apos) (e::es) [] cpos) (tBM X.K T r to t):=by
 intro pins s σ H Q I h;refine wpAny_Call_method_late hbase hfew hline rfl (bf (ho pins s σ H _ I h) λv s1 ⟨x,H1,I1,r1,ty,q1⟩=>?_);obtain ⟨h1,h2⟩:=WY I1 r1 ty;refine ⟨T,id,pa,slot,hty,h1,h2,?_⟩;have hA:=ha cpos pins s1 σ H1 _ I1 q1;rw[hs]at hA ⊢;refine Calls.callWith_builtin (by show (false || (backTo cpos (starEach es X.env)).any (·.1))=false;rw[hplain]<;>rfl) (Calls.evalArgs_plain ?_);exact bf hA λus s2 ⟨vs,H2,I2,r2,q2⟩=>hm pins s2 σ H2 x vs v us Q I2 r1 r2 q2
end
def MtM (X:Cx)(id:String)(r:V->List V->Hp->VK->Prop):Prop:=
 ∀(pins:List (Addr×Obj)) (s:Shared) (σ:St) (H:Hp) (x:V) (xs:List V) (v:Value) (us:List Value) (Q:VK),Inv X pins σ H s->RelV x v->Vals xs us->r x xs H Q->
  wpAny (model X.prog X.w) X.A (call (.builtin id) (v::us)) (EP X pins σ Q) X.xe s
theorem Vals.one:∀{x:V} {us:List Value},Vals [x] us->∃u,us=[u]/\RelV x u
 | _,_,.cons r .nil=>⟨_,rfl,r⟩
theorem Vals.zero:∀{us:List Value},Vals [] us->us=[]
 | _,.nil=>rfl
theorem Vals.dropLast (h:Vals xs us):Vals xs.dropLast us.dropLast:=by
 induction h with
 | nil=>exact .nil
 | cons r t ih=>
  cases t with
  | nil=>exact .nil
  | cons q t'=>exact .cons r ih
theorem Vals.rep (h:Vals xs us):∀k:Nat,Vals (replicate k xs).flatten (replicate k us).flatten
 | 0=>.nil
 | k+1=>by
  rw[replicate_succ,replicate_succ,flatten_cons,flatten_cons];exact Vals.append h (Vals.rep h k)
theorem Ve {α:Type}(l:List α):l.eraseIdx (l.length - 1)=l.dropLast:=by
 induction l with
 | nil=>rfl
 | cons a r ih=>
  cases r with
  | nil=>rfl
  | cons b r=>
   have e:(a::b::r).length - 1=((b::r).length - 1)+1:=by
    have h1:(a::b::r).length=r.length+2:=rfl;have h2:(b::r).length=r.length+1:=rfl
    lia
   rw[e,List.eraseIdx_cons_succ,ih]
   all_goals rfl
theorem foldl_rep (its:List Value):∀(k:Nat) (acc:List Value),
  foldl (λx1 x2=>x1++x2) acc.toArray (replicate k its.toArray)=(acc++(replicate k its).flatten).toArray
 | 0,acc=>by simp
 | k+1,acc=>by
  have e:acc.toArray++its.toArray=(acc++its).toArray:=by simp
  have e2:(acc++its)++(replicate k its).flatten=acc++(replicate (k+1) its).flatten:=by
   rw[replicate_succ,flatten_cons,append_assoc]
  rw[<-e2,<-foldl_rep its k (acc++its),<-e,replicate_succ,List.foldl_cons]
section
variable {X:Cx}{pins:List (Addr×Obj)}{σ:St}{H:Hp}{s:Shared}{l b:Addr}{xs ys zs:List V}
theorem Inv.Zq {its its':List Value}{n:Nat}{f:Array Value->Array Value}{t':Nat}(I:Inv X pins σ H s)(hH:H l=some (.lst xs))(e:s.heap.get? l=some {cls:=.type "list",data:=.seq its.toArray n})(hf:f its.toArray=its'.toArray)(hv:Vals ys its')(hz:ys.length<=sizeLine):
  Inv X pins σ (upd H l (.lst ys)) {s with heap:=s.heap.update l (Obj.mapSeq f),toks:=t'}:=by
 have q:=PySem.IsL.update e f;rw[hf]at q;refine I.write (x:=l) (e:=l) (by rw[hH];exact trivial) (.inl rfl) (λb' u hb hu=>(get?_update_other s.heap (Obj.mapSeq f) (Ne.symm hb)).trans hu) ⟨_,q⟩ ?_;exact ⟨hz,its',_,hv,q⟩
theorem Inv.Zr (I:Inv X pins σ H s)(hv:Vals ys its)(hz:ys.length<=sizeLine):
  Inv X pins σ (upd H s.heap.objs.size (.lst ys)) {s with heap:=s.heap.push {cls:=.type "list",data:=.seq its.toArray},toks:=t'}:=
 I.laid (λ_ _ q=>get?_push_of_some _ q) (le_refl _) ⟨hz,its,0,hv,get?_push_size _ rfl⟩
theorem Inv.fresh (I:Inv X pins σ H s):H s.heap.objs.size=none:=I.hok.fresh (le_refl _)
theorem Inv.Bw (I:Inv X pins σ H s)(hH:H l=some (.lst xs)):xs.length<=sizeLine/\∃(its:List Value) (n:Nat),Vals xs its/\xs.length=its.length/\s.heap.get? l=some {cls:=.type "list",data:=.seq its.toArray n}:=by
 obtain ⟨z,its,n,r,e⟩:=I.hok l _ hH;exact ⟨z,its,n,r,r.length,e⟩
theorem P_ (h:n<=sizeLine):Builtin.List.listTooLong n=false:=by
 unfold Builtin.List.listTooLong;exact decide_eq_false (by lia)
end
section
variable {X:Cx}
def acf:V->List V->Hp->VK->Prop:=λx vs H Q=>∃l xs y,x=.ref l/\vs=[y]/\H l=some (.lst xs)/\xs.length < sizeLine/\Q .non (upd H l (.lst (xs++[y])))
theorem MJ:MtM X "list.append" acf:=by
 intro pins s σ H x vs v us Q I rx rv h;obtain ⟨l,xs,y,rfl,rfl,hH,hz,q⟩:=h;cases rx;obtain ⟨u,rfl,ru⟩:=rv.one;obtain ⟨z,its,n,r,hl,e⟩:=I.Bw hH;refine call_meets F.slot_list_append ⟨_,e,rfl⟩ F.entry_list_append (F.args_list_append_2 _ _) (PySem.list_append l its.toArray n u (by rw[size_toArray];lia)) ⟨e,?_⟩;refine ⟨.non,_,I.Zq (its':=its++[u]) hH e (by simp) (r.append (.cons ru .nil)) ?_,rfl,q⟩;rw[length_append,List.length_singleton]
 lia
def acg:V->List V->Hp->VK->Prop:=λx vs H Q=>∃l b xs zs,x=.ref l/\vs=[.ref b]/\H l=some (.lst xs)/\H b=some (.lst zs)/\xs.length+zs.length<=sizeLine/\Q .non (upd H l (.lst (xs++zs)))
theorem ak5:MtM X "list.extend" acg:=by
 intro pins s σ H x vs v us Q I rx rv h;obtain ⟨l,b,xs,zs,rfl,rfl,hH,hB,hz,q⟩:=h;cases rx;obtain ⟨u,rfl,ru⟩:=rv.one;cases ru;obtain ⟨z,its,n,r,hl,e⟩:=I.Bw hH;obtain ⟨z2,its2,n2,r2,hl2,e2⟩:=I.Bw hB;have hsz:its.toArray.size+its2.toArray.size<=sizeLine:=by rw[size_toArray,size_toArray];lia
 have Vf:¬(!its.toArray.isEmpty && Builtin.List.listTooLong (its.toArray.size+its2.toArray.size))=true:=by
  rw[P_ hsz,Bool.and_false];exact Bool.false_ne_true
 refine call_meets F.slot_list_extend ⟨_,e,rfl⟩ F.entry_list_extend (F.args_list_extend_2 _ _)
  (AutoSeq1.list_extend_list_list_0 l its.toArray n b its2.toArray n2 Vf (by rw[size_toArray];lia) (by lia)) ⟨e,e2,?_⟩
 refine ⟨.non,_,I.Zq (its':=its++its2) hH e (by simp) (r.append r2) ?_,rfl,q⟩;rw[length_append]
 lia
def amZ:V->List V->Hp->VK->Prop:=λx vs H Q=>∃l xs y,x=.ref l/\vs=[]/\H l=some (.lst xs)/\xs[xs.length - 1]?=some y/\Q y (upd H l (.lst xs.dropLast))
theorem ae7:MtM X "list.pop" amZ:=by
 intro pins s σ H x vs v us Q I rx rv h;obtain ⟨l,xs,y,rfl,rfl,hH,hy,q⟩:=h;cases rx;have hus:=rv.zero;subst hus;obtain ⟨z,its,n,r,hl,e⟩:=I.Bw hH;obtain ⟨u,hu,ru⟩:=r.get hy;have hy':its.toArray[its.toArray.size - 1]?=some u:=by
  show its.toArray[its.length - 1]?=some u;rw[<-Array.getElem?_toList,<-hl];exact hu
 refine call_meets F.slot_list_pop ⟨_,e,rfl⟩ F.entry_list_pop (F.args_list_pop_1 _) (MeetsSeq.list_pop_last l its.toArray n u hy' (by rw[size_toArray];lia)) ⟨e,?_⟩;refine ⟨y,_,I.Zq (its':=its.dropLast) hH e ?_ r.dropLast ?_,ru,q⟩
 ·show its.toArray.eraseIdxIfInBounds (its.toArray.size - 1)=its.dropLast.toArray;rw[size_toArray,List.eraseIdxIfInBounds_toArray,Ve]
 ·rw[List.length_dropLast]
  lia
def am0:R2:=λx y H Q=>∃l b xs zs,x=.ref l/\y=.ref b/\H l=some (.lst xs)/\H b=some (.lst zs)/\xs.length+zs.length<=sizeLine/\∀p,H p=none->Q (.ref p) (upd H p (.lst (xs++zs)))
theorem ae8:bO X (binaryOp .Add) am0:=by
 intro pins s σ H x y v u Q I rx ry h;obtain ⟨l,b,xs,zs,rfl,rfl,hH,hB,hz,q⟩:=h;cases rx;cases ry;obtain ⟨z,its,n,r,hl,e⟩:=I.Bw hH;obtain ⟨z2,its2,n2,r2,hl2,e2⟩:=I.Bw hB;refine PySem.P.add_list e e2 ?_ (by rw[size_toArray,size_toArray];lia);have ea:its.toArray++its2.toArray=(its++its2).toArray:=by simp
 rw[ea];exact ⟨.ref _,_,I.Zr (t':=s.toks) (r.append r2) (by rw[length_append];lia),rfl,q _ I.fresh⟩
def am1:R2:=λx y H Q=>∃l k xs,x=.ref l/\y=.int k/\H l=some (.lst xs)/\-(2 ^ 63)<=k/\k < 2 ^ 63/\xs.length * k.toNat<=sizeLine/\
 ∀p,H p=none->Q (.ref p) (upd H p (.lst (replicate k.toNat xs).flatten))
theorem len_rep {α:Type}(xs:List α)(k:Nat):(replicate k xs).flatten.length=k * xs.length:=by
 induction k with
 | zero=>simp
 | succ k ih=>rw[replicate_succ,flatten_cons,length_append,ih,Nat.succ_mul,Nat.add_comm]
theorem ae9:bO X (binaryOp .Mult) am1:=by
 intro pins s σ H x y v u Q I rx ry h;obtain ⟨l,k,xs,rfl,rfl,hH,h1,h2,hz,q⟩:=h;cases rx;obtain ⟨t,rfl⟩:=ry;obtain ⟨z,its,n,r,hl,e⟩:=I.Bw hH;have hlen:its.toArray.size * k.toNat<=sizeLine:=by rw[size_toArray,<-hl];exact hz
 have hcap:¬its.toArray.size * k.toNat > (2 ^ 63 - 1) / 8:=by
  have:(sizeLine:Nat)<=(2 ^ 63 - 1) / 8:=by decide
  lia
 have hfit:¬(!Builtin.List.listFitsIndex k)=true:=by
  rw[fitsIndex_both h1 h2];exact Bool.false_ne_true
 have Vf:¬Builtin.List.listTooLong (its.toArray.size * k.toNat)=true:=by
  rw[P_ hlen];exact Bool.false_ne_true
 have hnew:foldl (λx1 x2=>x1++x2) #[] (replicate (if its.toArray.isEmpty=true then 0 else k.toNat) its.toArray)=(replicate k.toNat its).flatten.toArray:=by
  have f0:∀m:Nat,foldl (λx1 x2=>x1++x2) #[] (replicate m its.toArray)=(replicate m its).flatten.toArray:=λm=>by
   have:=foldl_rep its m [];rw[nil_append]at this;exact this
  rw[f0];cases its with
  | nil=>simp
  | cons a r'=>rw[if_neg (by simp)]
 refine wpAny_binaryOp_repeat_ref (T:="list") (U:="int") (by decide) ⟨_,e,rfl⟩ (λs'=>typeIs_int s' k t) noFill_list_mul F.fills_int_mul F.slot_int_rmul repeat_list F.slot_int_index.lookup
  (call_meets F.slot_int_rmul (typeIs_int s k t) F.entry_int_rmul (F.args_int_rmul_2 _ _) (int___rmul___int_list k t l its.toArray n)
   ⟨e,rfl,⟨_,e,rfl⟩,call_meets F.slot_list_mul ⟨_,e,rfl⟩ F.entry_list_mul (F.args_list_mul_2 _ _) (AutoListH.list___mul___list_int_3 l its.toArray n k t hfit hcap Vf) ⟨e,?_⟩⟩)
 rw[hnew];exact ⟨.ref _,_,I.Zr (t':=s.toks) (r.rep k.toNat) (by rw[len_rep,mul_comm];exact hz),rfl,q _ I.fresh⟩
end
section
variable {κ:Type}[DecidableEq κ]
def jA (kvs:List (κ×V))(k:κ):Option V:=(kvs.find? λkv=>decide (kv.1=k)).map (·.2)
def putK (kvs:List (κ×V))(k:κ)(v:V):List (κ×V):=
 if (kvs.any λkv=>decide (kv.1=k))=true then kvs.map (λkv=>if kv.1=k then (kv.1,v) else kv) else kvs++[(k,v)]
theorem Ii {p:κ×V}{r:List (κ×V)}{k:κ}(e:p.1=k):jA (p::r) k=some p.2:=by simp[jA,find?_cons,e]
theorem Ij {p:κ×V}{r:List (κ×V)}{k:κ}(e:¬p.1=k):jA (p::r) k=jA r k:=by simp[jA,find?_cons,e]
theorem Qa (k:κ):∀kvs:List (κ×V),(kvs.any λkv=>decide (kv.1=k))=(jA kvs k).isSome
 | []=>rfl
 | p::r=>by
  rw[any_cons];by_cases e:p.1=k
  ·simp only[Ii e,decide_eq_true e,Bool.true_or,Option.isSome_some]
  ·rw[Ij e,decide_eq_false e,Bool.false_or];exact Qa k r
theorem G8 (kvs:List (κ×V))(k:κ)(v:V):(putK kvs k v).length<=kvs.length+1:=by
 unfold putK;split
 ·rw[length_map];lia
 ·rw[length_append,length_cons,length_nil];lia
theorem oF.nC (r:oF o u):o.isSome=u.isSome:=by
 cases o with
 | none=>cases u with
  | none=>rfl
  | some _=>exact (show False from r).elim
 | some _=>cases u with
  | none=>exact (show False from r).elim
  | some _=>rfl
theorem KV.val {kvs:List (κ×V)}{vs:List (κ×Value)}(r:KV kvs vs)(k:κ):oF (jA kvs k) (valueAt vs k):=by
 unfold KV at r
 induction r with
 | nil=>exact True.intro
 | @cons p q ps qs h t ih=>
  obtain ⟨h1,h2⟩:=h;by_cases e:p.1=k
  ·have e':q.1=k:=h1.symm.trans e;have b:valueAt (q::qs) k=some q.2:=by simp[valueAt,find?_cons,e']
   rw[Ii e,b];exact h2
  ·have e':¬q.1=k:=λz=>e (h1.trans z);have b:valueAt (q::qs) k=valueAt qs k:=by simp[valueAt,find?_cons,e']
   rw[Ij e,b];exact ih
theorem KV.any {kvs:List (κ×V)}{vs:List (κ×Value)}(r:KV kvs vs)(k:κ):(kvs.any λkv=>decide (kv.1=k))=vs.any λkv=>decide (kv.1=k):=by
 unfold KV at r
 induction r with
 | nil=>rfl
 | cons h t ih=>rw[any_cons,any_cons,ih,h.1]
theorem KV.repl {kvs:List (κ×V)}{vs:List (κ×Value)}(r:KV kvs vs)(k:κ)(ry:RelV y u):
  KV (kvs.map λkv=>if kv.1=k then (kv.1,y) else kv) (vs.map λkv=>if kv.1=k then (kv.1,u) else kv):=by
 unfold KV at r ⊢
 induction r with
 | nil=>exact .nil
 | @cons p q ps qs h t ih=>
  rw[map_cons,map_cons];refine .cons ?_ ih;obtain ⟨h1,h2⟩:=h;by_cases e:p.1=k
  ·rw[if_pos e,if_pos (h1.symm.trans e)];exact ⟨h1,ry⟩
  ·rw[if_neg e,if_neg (λz=>e (h1.trans z))];exact ⟨h1,h2⟩
theorem KV.put {kvs:List (κ×V)}{vs:List (κ×Value)}(r:KV kvs vs)(k:κ)(ry:RelV y u):KV (putK kvs k y) (stored vs k u):=by
 unfold putK stored;rw[r.any k];by_cases e:(vs.any λkv=>decide (kv.1=k))=true
 ·rw[if_pos e,if_pos e];exact r.repl k ry
 ·rw[if_neg e,if_neg e];exact Paired.snoc r ⟨rfl,ry⟩
theorem KV.length {kvs:List (κ×V)}{vs:List (κ×Value)}(r:KV kvs vs):kvs.length=vs.length:=Paired.length r
end
theorem wW (r:RelV (kV k) u):(dD P w).is k u=true:=by
 cases k with
 | inl i=>obtain ⟨t,e⟩:=(show ∃t,u=Value.int i t from r);subst e;exact RG P w i t
 | inr x=>obtain ⟨t,e⟩:=(show ∃t,u=Value.str x t from r);subst e;exact uy P w x t
theorem MN:∀{ks:List Key} {us:List Value},Vals (ks.map kV) us->ItemsAre (dD P w) ks us
 | [],_,r=>by rw[map_nil]at r;cases r;exact .nil
 | k::ks,_,r=>by
  rw[map_cons]at r;cases r with
  | cons h t=>exact .cons (wW h) (MN t)
noncomputable abbrev KT (H:Hp):List (List Key×V)->List (List Key×Addr×Value)->Prop:=Paired λp q=>p.1=q.1/\H q.2.1=some (.tup (p.1.map kV))/\RelV p.2 q.2.2
theorem KT.val (r:KT H kvs xs)(k:List Key):oF (jA kvs k) ((atKey xs k).map (·.2)):=by
 induction r with
 | nil=>exact True.intro
 | @cons p q ps qs h t ih=>
  obtain ⟨h1,_,h2⟩:=h;by_cases e:p.1=k
  ·have e':q.1=k:=h1.symm.trans e;have b:atKey (q::qs) k=some q.2:=by simp[atKey,find?_cons,e']
   rw[Ii e,b];exact h2
  ·have e':¬q.1=k:=λz=>e (h1.trans z);have b:atKey (q::qs) k=atKey qs k:=by simp[atKey,find?_cons,e']
   rw[Ij e,b];exact ih
theorem KT.repl (r:KT H kvs xs)(k:List Key)(ry:RelV y u):
  KT H (kvs.map λkv=>if kv.1=k then (kv.1,y) else kv) (xs.map (putAt k u)):=by
 induction r with
 | nil=>exact .nil
 | @cons p q ps qs h t ih=>
  rw[map_cons,map_cons];refine .cons ?_ ih;obtain ⟨h1,h2,h3⟩:=h;unfold putAt;by_cases e:p.1=k
  ·rw[if_pos e,if_pos (h1.symm.trans e)];exact ⟨h1,h2,ry⟩
  ·rw[if_neg e,if_neg (λz=>e (h1.trans z))];exact ⟨h1,h2,h3⟩
theorem KT.put (r:KT H kvs xs)(k:List Key)(hb:H b=some (.tup (k.map kV)))(ry:RelV y u):
  KT H (putK kvs k y) (storedH xs k b u):=by
 have e:(kvs.any λkv=>decide (kv.1=k))=(atKey xs k).isSome:=by
  rw[Qa,(r.val k).nC,isSome_map]
 unfold putK storedH;rw[e];by_cases q:(atKey xs k).isSome=true
 ·rw[if_pos q,if_pos q];exact r.repl k ry
 ·rw[if_neg q,if_neg q];exact Paired.snoc r ⟨rfl,hb,ry⟩
theorem KT.keeps (r:KT H kvs xs)(ht:∀b ys,H b=some (.tup ys)->H' b=some (.tup ys)):KT H' kvs xs:=
 Paired.Y_ r λ_ _ z=>⟨z.1,ht _ _ z.2.1,z.2.2⟩
section
variable {P:Program}{w:World}{H:Hp}{h:Heap}{a:Addr}
theorem aaY (ok:d8 P w H h)(e:Rd H a u):cj P w H h a u:=e.ok ok
theorem FW (ok:d8 P w H h)(e:Rd H a (.dK kvs)):kvs.length<=sizeLine/\(a == sysModules)=false/\∃vs,KV kvs vs/\h.DictOf (dD P w) a vs:=
 show cj P w H h a (.dK kvs) from aaY ok e
theorem aiK (ok:d8 P w H h)(e:H a=some (.dK kvs)):kvs.length<=sizeLine/\(a == sysModules)=false/\∃vs,KV kvs vs/\h.DictOf (dD P w) a vs:=FW ok (.inl e)
theorem Bx (ok:d8 P w H h)(e:H a=some (.tup (ks.map kV))):(tupleKind (dD P w)).is h ks a:=by
 obtain ⟨_,its,r,⟨o,h1,h2,n,h3⟩,_⟩:=(show cj P w H h a (.tup (ks.map kV)) from ok a _ e)
 exact ⟨o,its.toArray,n,h1,h2,h3,by simpa using MN r⟩
theorem Jx (ok:d8 P w H h)(e:Rd H a (.dT kvs)):kvs.length<=sizeLine/\(a == sysModules)=false/\
  ∃xs,KT H kvs xs/\h.DictOfH (tupleKind (dD P w)) a xs:=by
 obtain ⟨z,y,xs,r,o,es,ep,h1,h2,h3,h4,h5⟩:=(show cj P w H h a (.dT kvs) from aaY ok e)
 refine ⟨z,y,xs,r,o,es,ep,h1,h2,h3,h4,λx hx=>?_,h5⟩;have all:∀{l:List (List Key×V)} {m:List (List Key×Addr×Value)},KT H l m->∀x∈m,(tupleKind (dD P w)).is h x.1 x.2.1:=by
  intro l m q
  induction q with
  | nil=>intro x hx;exact nomatch hx
  | @cons p q ps qs hq t ih=>
   intro x hx;rcases mem_cons.mp hx with e | hx
   ·subst e;exact Bx ok (by rw[<-hq.1];exact hq.2.1)
   ·exact ih x hx
 exact all r x hx
theorem aiL (ok:d8 P w H h)(e:H a=some (.dT kvs)):kvs.length<=sizeLine/\(a == sysModules)=false/\
  ∃xs,KT H kvs xs/\h.DictOfH (tupleKind (dD P w)) a xs:=Jx ok (.inl e)
end
def uz (H:Hp)(a:Addr)(y:V)(r:Option V):Prop:=
 (∃kvs k,Rd H a (.dK kvs)/\y=kV k/\r=jA kvs k)\/∃kvs k b,Rd H a (.dT kvs)/\y=.ref b/\H b=some (.tup (k.map kV))/\r=jA kvs k
def Qc (H:Hp)(a:Addr)(y v:V)(H':Hp):Prop:=
 (∃kvs k,H a=some (.dK kvs)/\y=kV k/\kvs.length < sizeLine/\H'=upd H a (.dK (putK kvs k v)))\/
 ∃kvs k b,H a=some (.dT kvs)/\y=.ref b/\H b=some (.tup (k.map kV))/\kvs.length < sizeLine/\H'=upd H a (.dT (putK kvs k v))
theorem uz.k {H:Hp}{a:Addr}{kvs:List (Key×V)}{k:Key}(e:H a=some (.dK kvs)):uz H a (kV k) (jA kvs k):=.inl ⟨kvs,k,.inl e,rfl,rfl⟩
theorem Qc.k {H:Hp}{a:Addr}{kvs:List (Key×V)}{k:Key}{v:V}(e:H a=some (.dK kvs))(hl:kvs.length < sizeLine):Qc H a (kV k) v (upd H a (.dK (putK kvs k v))):=.inl ⟨kvs,k,e,rfl,hl,rfl⟩
section
variable {X:Cx}{pins:List (Addr×Obj)}{σ:St}{H:Hp}{s:Shared}{a:Addr}{y v:V}{u r:Value}{o:Option V}{A:Around}{E:Value->Shared->Prop}
theorem W0 (hu:A.units+1 < cLine)(I:Inv X pins σ H s)(g:uz H a y (some v))(ry:RelV y u)(h:∀w' s',Inv X pins σ H s'->RelV v w'->Q w' s'):
  wpAny (model X.prog X.w) A (getItem (.ref a) u) Q E s:=by
 rcases g with ⟨kvs,k,e,ey,l⟩ | ⟨kvs,k,b,e,ey,eb,l⟩
 ·subst ey;obtain ⟨z,hd,vs,rel,dd⟩:=FW I.hok e;obtain ⟨w',hw,Bv⟩:=oF.some_of (v:=v) (o:=valueAt vs k) (by rw[l];exact rel.val k);exact wpAny_getItem_of (wW ry) dd.mapOf hw (h w' _ (I.tok _) Bv)
 ·subst ey;cases (show u=Value.ref b from ry);obtain ⟨z,hd,xs,rel,dd⟩:=Jx I.hok e;obtain ⟨w',hw,Bv⟩:=oF.some_of (v:=v) (o:=(atKey xs k).map (·.2)) (by rw[l];exact rel.val k);obtain ⟨p,hp,hp2⟩:=map_eq_some_iff.mp hw;refine wpAny_getItem_heap (tupleKind_room_in1 hu) (Bx I.hok eb) dd hp ?_;rw[hp2];exact h w' _ (I.tok _) Bv
theorem am2 (hu:A.units+1 < cLine)(I:Inv X pins σ H s)(g:uz H a y o)(ry:RelV y u)(h:∀s',Inv X pins σ H s'->Q (.bool o.isSome) s'):
  wpAny (model X.prog X.w) A (compareOp .In u (.ref a)) Q E s:=by
 rcases g with ⟨kvs,k,e,ey,l⟩ | ⟨kvs,k,b,e,ey,eb,l⟩
 ·subst ey;obtain ⟨z,hd,vs,rel,dd⟩:=FW I.hok e;refine wpAny_in_of (wW ry) hd dd.mapOf ?_;rw[<-(rel.val k).nC,<-l];exact h _ (I.tok _)
 ·subst ey;cases (show u=Value.ref b from ry);obtain ⟨z,hd,xs,rel,dd⟩:=Jx I.hok e;refine wpAny_in_heap (tupleKind_room_in1 hu) (Bx I.hok eb) hd dd ?_;have q:=(rel.val k).nC;rw[isSome_map]at q;rw[<-q,<-l];exact h _ (I.tok _)
theorem ach (hu:A.units+1 < cLine)(I:Inv X pins σ H s)(g:uz H a y o)(ry:RelV y u)(h:∀s',Inv X pins σ H s'->Q (.bool (!o.isSome)) s'):
  wpAny (model X.prog X.w) A (compareOp .NotIn u (.ref a)) Q E s:=by
 rcases g with ⟨kvs,k,e,ey,l⟩ | ⟨kvs,k,b,e,ey,eb,l⟩
 ·subst ey;obtain ⟨z,hd,vs,rel,dd⟩:=FW I.hok e;refine wpAny_notIn_of (wW ry) hd dd.mapOf ?_;rw[<-(rel.val k).nC,<-l];exact h _ (I.tok _)
 ·subst ey;cases (show u=Value.ref b from ry);obtain ⟨z,hd,xs,rel,dd⟩:=Jx I.hok e;refine wpAny_notIn_heap (tupleKind_room_in1 hu) (Bx I.hok eb) hd dd ?_;have q:=(rel.val k).nC;rw[isSome_map]at q;rw[<-q,<-l];exact h _ (I.tok _)
theorem SM (I:Inv X pins σ H s)(mu:Wr (H a))(hs:Heap.SameBut a s.heap h')(he:∃q,h'.get? a=some q)(new:cj X.prog X.w (upd H a ob) h' a ob):
  Inv X pins σ (upd H a ob) {s with heap:=h',toks:=t'}:=
 I.write (x:=a) (e:=a) mu (.inl rfl) (λb q hb z=>(hs.2 b hb).trans z) he new
theorem ae_ (z:kvs.length<=sizeLine)(hd:(a == sysModules)=false)(rel:KV kvs vs)(dd:h'.DictOf (dD P w) a vs):
  cj P w H' h' a (.dK kvs):=⟨z,hd,vs,rel,dd⟩
theorem W2 (hu:A.units+1 < cLine)(I:Inv X pins σ H s)(g:Qc H a y v H')(ry:RelV y u)(rv:RelV v r)(h:∀s',Inv X pins σ H' s'->Q () s'):
  wpAny (model X.prog X.w) A (setItem (.ref a) u r) Q E s:=by
 rcases g with ⟨kvs,k,e,ey,l,eH⟩ | ⟨kvs,k,b,e,ey,eb,l,eH⟩
 ·subst ey eH;obtain ⟨z,hd,vs,rel,dd⟩:=aiK I.hok e;have hz:vs.length<=sizeLine:=by rw[<-rel.length];exact z
  have hl:(putK kvs k v).length<=sizeLine:=by have:=G8 kvs k v;lia
  refine wpAny_setItem_pairs (hsz:=hz) (wW ry) dd λh' dd' hs=>h _ ?_;have he:∃q,h'.get? a=some q:=let ⟨q,_,_,hq,_⟩:=dd';⟨q,hq⟩;exact SM I (by rw[e];exact True.intro) hs he (ae_ hl hd (rel.put k rv) dd')
 ·subst ey eH;cases (show u=Value.ref b from ry);obtain ⟨z,hd,xs,rel,dd⟩:=aiL I.hok e;have hz:xs.length<=sizeLine:=by rw[<-Paired.length rel];exact z
  have hl:(putK kvs k v).length<=sizeLine:=by have:=G8 kvs k v;lia
  refine wpAny_setItem_heap (hsz:=hz) (tupleKind_room_in1 hu) (Bx I.hok eb) dd λh' dd' hs=>h _ ?_;obtain ⟨q,es,ep,hq,h2,h3,h4,_,h5⟩:=dd';refine SM I (by rw[e];exact True.intro) hs ⟨q,hq⟩ ⟨hl,hd,_,(rel.put k eb rv).keeps λc ys ec=>?_,q,es,ep,hq,h2,h3,h4,h5⟩;rw[aU (U0 ec e (λz=>nomatch z))];exact ec
end
section
variable {X:Cx}{pins:List (Addr×Obj)}{σ:St}{H:Hp}{s:Shared}{a:Addr}{kvs:List (Key×V)}{k:Key}{u:Value}{A:Around}{E:Value->Shared->Prop}
theorem aiM (I:Inv X pins σ H s)(e:Rd H a (.dK kvs))(h:∀t s',Inv X pins σ H s'->Q (.int kvs.length t) s'):wpAny (model X.prog X.w) A (call (.builtin "len") [.ref a]) Q E s:=by
 obtain ⟨z,hd,vs,rel,dd⟩:=FW I.hok e;refine call_len_dict hd dd (by rw[<-rel.length];rw[sizeLine_eq]at z;lia) ?_;rw[<-rel.length];exact h _ _ (I.tok _)
end
theorem RJ (I:Inv X pins σ H s)(g:uz H a y o):s.TypeIs (.ref a) "dict":=by
 rcases g with ⟨kvs,k,e,_,_⟩ | ⟨kvs,k,b,e,_,_,_⟩
 ·obtain ⟨_,_,vs,_,dd⟩:=FW I.hok e;exact dd.typeIs
 ·obtain ⟨_,_,xs,_,dd⟩:=Jx I.hok e;exact dd.typeIs
end L2
namespace Att
open PySem PySem.W PySem.Calls PyProof.Rows
theorem Jy:∀(ns:List Int) (vs:List Value),WellAll P h vs (ns.map WData.int)->IntsAre vs ns:=by
 intro ns
 induction ns with
 | nil=>
  intro vs w;rw[map_nil]at w;cases w;exact .nil
 | cons n ns ih=>
  intro vs w;rw[map_cons]at w;cases w with
  | cons a b=>
   cases a;exact .cons _ _ (ih _ b)
theorem W3 {l:OpenLaw}{n:Nat}(hn:l.most=some n){P:Params}{h:Heap}{args:List WData}{vals:List Value}(hpre:l.row.toRowW.claim.pre args=true)(hwl:WellAll P h vals args):
  ∃a vs ns,vals=[Value.ref a]/\args=[WData.list (ns.map WData.int)]/\h.get? a=some {cls:=.type "list",data:=.seq vs.toArray}/\IntsAre vs ns/\ns.length<=n:=by
 have hsh:WShape.hasAll [] args [.list .int]=true:=(pre_splitW hpre).1;have hc:l.pre.holds [] {args:=args}=true:=(pre_splitW hpre).2;obtain ⟨d,r,rfl,h1,h2⟩:=hasAllW_cons hsh;obtain rfl:=hasAllW_nil h2;obtain ⟨xs,rfl,h3⟩:=hasW_list h1;obtain ⟨ns,rfl⟩:=items_int h3;have hlen:ns.length<=n:=by
  unfold OpenLaw.pre at hc;have h4:(WTm.not (.lt (.lit (.int (n:Int))) (.len (.arg 0)))).holds [] {args:=[.list (ns.map .int)]}=true:=by
   have h4:=(holds_andW hc).1;rw[hn]at h4;exact h4
  have h5:=condW_of h4 (w_not (w_lt w_lit (w_len_list (w_arg rfl))));rw[length_map]at h5;refine le_of_not_lt λq=>?_;have q':(n:Int) < ((ns.length:Nat):Int):=by lia
  first
   | (rw[decide_eq_true q']at h5;exact absurd h5 (by decide))
   | (simp at h5;lia)
 cases hwl with
 | cons w1 w2=>
  cases w2;cases w1 with
  | list ho hall=>exact ⟨_,_,ns,rfl,rfl,ho,Jy ns _ hall,hlen⟩
theorem W4 (l:OpenLaw)(args:List WData):l.row.toRowW.claim.post args (.bool true) args=true:=
 postW_of (r:=l.row.toRowW) (X:=(true == true))
  (show WShape.has [] (.bool true) .bool=true by first | rfl | decide | simp[WShape.has,WShape.arms,WShape.armsAll])
  (show (WTm.eq .res (.lit (.bool true))).value [] {args:=args,res:=some (.bool true),after:=args}=some (.bool (true == true)) from w_eq_bool (w_res rfl) w_lit) rfl
theorem RK {l:OpenLaw}{n:Nat}{q:Program}{loose:List Str}{XP:(Str->Option Value)->Heap->Prop}{YP:World->Heap->Prop}{d:DefRec}(hn:l.most=some n)(hdf:d.params.defaults=[])(call:∀(w:World) (s₀ s₁:Shared) (mg mb:Str->Option Value) (fa:Addr) (o:Obj) (pm cd doc:Value) (a:Addr) (vs:List Value) (ns:List Int),
   Ground q loose [] XP w s₀ mg mb s₁.heap->YP w s₁.heap->
   s₁.heap.get? fa=some o->o.data=.func (docDef d.name d.params d.body d.scope pm cd doc)->s₁.heap.CodeRec cd d.name->mg d.name=some (.ref fa)->
   s₁.heap.get? a=some {cls:=.type "list",data:=.seq vs.toArray}->IntsAre vs ns->ns.length<=n->s₁.gens=#[]->
   codeAny (model l.prog w) callerA (.call (.ref fa) ⟨[.ref a],[]⟩) (λr s'=>r=.ok (.ret (.bool true))/\OldK s₁.heap s'.heap/\s'.os=s₁.os/\AllBare s'.gens) s₁):
  WalkO q loose XP YP l.row.toRowW d [] (λf vs=>PySem.call f vs):=by
 intro w s₀ s₁ mg mb G Y fa o pm cd doc dV kV ho hd hcd hD hmg hg args vals as hpre hlay hrd hwl hlo;obtain rfl:dV=.none:=Dflts.none hD hdf;obtain rfl:kV=.none:=Dflts.noKw hD;obtain ⟨a,vs,ns,rfl,rfl,hobj,hints,hlen⟩:=W3 hn hpre hwl;refine enter_call (codeAny_mono (call w s₀ s₁ mg mb fa o pm cd doc a vs ns G Y ho (fd_plain hd) hcd hmg hobj hints hlen hg) λr s' hq=>?_);obtain ⟨rfl,h2,h3,h4⟩:=hq;exact ⟨.inl ⟨.bool true,.bool true,[],rfl,λ_=>rfl,.bool true,W4 l _,λ_=>⟨List.Pairwise.nil,λ_ hm=>(nomatch hm)⟩⟩,h2,h3,h4⟩
end Att
namespace L2
open PySem PySem.Spec PyProof.Rows
theorem MP:∀{vs:List Value} {ns:List Int},IntsAre vs ns->Vals (ns.map V.int) vs
 | _,_,.nil=>.nil
 | _,_,.cons n t h=>.cons ⟨t,rfl⟩ (MP h)
def Only (H:Hp):Prop:=∀b,H b=none\/∃o xs,H b=some (.cC o (.lst xs))
theorem Zt {P:Program}{w:World}{K:PySem.W.Frag}{mg mb:Str->Option Value}{CX:Bu}{k:Nat}{fa a:Addr}{fd:FuncData}{x:Str}{sp:Sp}{s₁:Shared}{vs:List Value}{ns:List Int}(KX:K.In s₁.heap)(hns:s₁.heap.Ns mainGlobals mg)(hb:s₁.heap.Ns builtinsNs mb)(hbb:∀x:Str,x≠"__name__"->mb x=bootBuiltins x)(hlim:s₁.heap.NoLimit)(hg:s₁.gens=#[])(ha:s₁.heap.get? a=some {cls:=.type "list",data:=.seq vs.toArray})(hi:IntsAre vs ns)(hl:ns.length<=sizeLine)(hr:cM k callerA)(F:∀base:Heap,K.In base->base.Ns mainGlobals mg->aP P w K mg base CX k fa fd [x] sp)(hbind:∀(s:Shared) (u:Value),BindsTo s fd ⟨[u],[]⟩ [(x,u)])(hsp:∀H:Hp,Only H->jd K H a (ns.map V.int)->(∀o,K.lookup a=some o->o.slots=#[])->sp [.ref a] H (λv _=>v=.bl true) λ_ _ _=>False)(hCX:∀H e s',CX [] H s₁ (λ_ _ _=>False) e s'->False):
  codeAny (model P w) callerA (.call (.ref fa) ⟨[.ref a],[]⟩) (λr s'=>r=.ok (.ret (.bool true))/\OldK s₁.heap s'.heap/\s'.os=s₁.os/\AllBare s'.gens) s₁:=by
 have rv:=MP hi;have lenV:=hi.length
 -- from an abstract heap in which nothing but the script may be tracked
 have core:∀H:Hp,Only H->jd K H a (ns.map V.int)->d8 P w H s₁.heap->(∀b,H b≠none->b=a)->(H a≠none->K.lookup a=none)->
   codeAny (model P w) callerA (.call (.ref fa) ⟨[.ref a],[]⟩) (λr s'=>r=.ok (.ret (.bool true))/\OldK s₁.heap s'.heap/\s'.os=s₁.os/\AllBare s'.gens) s₁:=by
  intro H hO hS hok hA hK;have SN:∀{b:Addr} {o:Obj},s₁.heap.get? b=some o->H b=none->(wQ s₁.heap H).get? b=some o:=λe n=>Za e n;have WX:∀{b:Addr} {o:Obj} {es:Array DictEntry} {ep:Nat},s₁.heap.get? b=some o->o.data=.dict es ep->H b=none:=λ{b o es ep} e d=>by
   cases q:H b with
   | none=>rfl
   | some u=>
    have e':b=a:=hA b (by rw[q];simp);subst e';rw[ha]at e;cases e;have d':Data.seq vs.toArray _=Data.dict es ep:=d;cases d'
  have nsK:∀{b:Addr} {m:Str->Option Value},s₁.heap.Ns b m->(wQ s₁.heap H).Ns b m:=λ{b m} ⟨o,es,ep,e,d,r⟩=>⟨o,es,ep,SN e (WX e d),d,r⟩
  have hKb:K.In (wQ s₁.heap H):=λb o e=>SN (KX b o e) (by
   cases q:H b with
   | none=>rfl
   | some u=>
    have e':b=a:=hA b (by rw[q];simp);subst e';rw[hK (by rw[q];simp)]at e;cases e)
  have hM:Mod K mg (wQ s₁.heap H):=⟨hKb,nsK hns,⟨mb,nsK hb,hbb⟩,let ⟨mc,h1,h2⟩:=hlim;⟨mc,nsK h1,h2⟩⟩
  have e0:Ib P w K mg (wQ s₁.heap H) callerA [] s₁ H:=⟨rfl,hM,λb o e=>abZ e,le_of_eq (Ws _ _),trivial,λb hb=>absurd (show b∈([]:List Addr) from hb) (by simp),hok,.of_eq hg⟩
  refine codeAny_mono ((F _ hKb (nsK hns)).run callerA [] s₁ H ⟨[.ref a],[]⟩ [.ref a] [.ref a] _ _ hr e0 (hbind s₁ (.ref a)) (.cons rfl .nil) (hsp H hO hS (λo e=>by have e':=KX a o e;rw[ha]at e';cases e';rfl))) λr s' h=>?_;cases r with
  | error e=>exact (hCX H e s' h).elim
  | ok fl=>
   cases fl with
   | next=>exact False.elim h
   | brk=>exact False.elim h
   | cont=>exact False.elim h
   | ret u=>
    obtain ⟨v,H',os,bare,un,hok',r',q⟩:=h;have q':v=.bl true:=q;subst q';obtain rfl:u=Value.bool true:=r';refine ⟨rfl,OldK.of_keep λb o e=>?_,os,bare⟩;cases q:H b with
    | none=>exact un.keep b o e q (by intro z;exact absurd (show b∈([]:List Addr) from z) (by simp)) (by simp)
    | some u=>
     rcases hO b with z | ⟨ob,xs,z⟩
     ·rw[q]at z;cases z
     ·have z2:=un.jy b ob _ z;obtain ⟨e1,_⟩:=hok b _ z;obtain ⟨e2,_⟩:=hok' b _ z2;rw[e]at e1;cases e1;exact e2
 cases hk:K.lookup a with
 | some o=>
  -- the script is one of the module's own objects
  have e:=KX a o hk;rw[ha]at e;cases e;refine core (λ_=>none) (λ_=>.inl rfl) (.inr ⟨_,vs.toArray,_,hk,rfl,rfl,rfl,by rw[size_toArray,lenV];exact hl,by simpa using rv⟩) (λb u z=>by have z':(none:Option HO)=some u:=z;cases z') (λb z=>absurd rfl z) λz=>absurd rfl z
 | none=>
  refine core (λb=>if b=a then some (.cC {cls:=.type "list",data:=.seq vs.toArray} (.lst (ns.map V.int))) else none) (λb=>?_) (.inl (.inr ⟨{cls:=.type "list",data:=.seq vs.toArray},if_pos rfl⟩)) (λb u z=>?_) (λb z=>?_) λ_=>hk
  ·by_cases hb:b=a
   ·exact .inr ⟨_,_,if_pos hb⟩
   ·exact .inl (if_neg hb)
  ·by_cases hb:b=a
   ·have z':=(if_pos hb).symm.trans z;cases z';subst hb;exact ⟨ha,by rw[length_map];exact hl,vs,_,rv,ha⟩
   ·have z':=(if_neg hb).symm.trans z;cases z'
  ·by_cases hb:b=a
   ·exact hb
   ·exact absurd (if_neg hb) z
theorem aci {l:PySem.W.OpenLaw}{n k:Nat}{q:Program}{loose:List Str}{XP:(Str->Option Value)->Heap->Prop}{YP:World->Heap->Prop}{d:DefRec}{K:Params->PySem.W.Frag}{CX:World->Bu}{sp:World->Sp}{x:Str}(hn:l.most=some n)(hn2:n<=sizeLine)(hdf:d.params.defaults=[])(hr:cM k callerA)(hY:∀(w:World) (h:Heap),YP w h->(K w.params).In h)(F:∀(w:World) (mg:Str->Option Value) (fa:Addr) (h:Heap),(K w.params).In h->h.Ns mainGlobals mg->mg d.name=some (.ref fa)->
   ∃fd:FuncData,(∀(s:Shared) (u:Value),BindsTo s fd ⟨[u],[]⟩ [(x,u)])/\
    ∀base:Heap,(K w.params).In base->base.Ns mainGlobals mg->aP l.prog w (K w.params) mg base (CX w) k fa fd [x] (sp w)) (hsp:∀(w:World) (H:Hp) (a:Addr) (ns:List Int),ns.length<=n->Only H->jd (K w.params) H a (ns.map V.int)->(∀o,(K w.params).lookup a=some o->o.slots=#[])->sp w [.ref a] H (λv _=>v=.bl true) λ_ _ _=>False) (hCX:∀(w:World) (H:Hp) (s:Shared) (e:Value) (s':Shared),CX w [] H s (λ_ _ _=>False) e s'->False):
  PySem.W.WalkO q loose XP YP l.row.toRowW d [] (λf vs=>PySem.call f vs):=by
 refine Att.RK hn hdf λw s₀ s₁ mg mb fa o pm cd doc a vs ns G Y ho hd hcd hmg hobj hints hlen hg=>?_;have KX:=hY w _ Y;obtain ⟨fd,hb,hF⟩:=F w mg fa _ KX G.T.g hmg;exact Zt KX G.T.g G.T.b G.T.builtins G.T.nolimit hg hobj hints (le_trans hlen hn2) hr hF hb (λH hO hS=>hsp w H a ns hlen hO hS) λH e s'=>hCX w H s₁ e s'
def dX (s:Stmt):Arguments:=match s with
 | .FunctionDef _ a _ _ _ _ _ _ _ _=>a
 | _=>{posonlyargs:=[],args:=[],vararg:=none,kwonlyargs:=[],kw_defaults:=[],kwarg:=none,defaults:=[]}
def cH (s:Stmt):List Stmt:=match s with
 | .FunctionDef _ _ b _ _ _ _ _ _ _=>b
 | _=>[]
def aC (s:Stmt):Scope:=match s with
 | .FunctionDef _ _ _ _ _ _ sc _ _ _=>sc
 | _=>{kind:=.function,names:=[],isGenerator:=false,isCoroutine:=false}
noncomputable abbrev bx:Bu:=λ_ _ _ _ _ _=>False
noncomputable abbrev E0:XK:=λ_ _ _=>False
theorem Vg:Passes bx X E0:=λ_ _ _ _ _ _ _ h=>h.elim
structure BJ (K:PySem.W.Frag)(x qual:Str)(st:Stmt)(f:Addr)(fd:FuncData):Prop where
 ex:∃(oc:Value) (od:Option Addr) (kV doc pm:Value) (an:Option Addr) (cdv ct:Value) (osl:Array (Option Value)),
  fd=fnOf x qual (dX st) (cH st) (aC st) .none kV doc pm an cdv ct/\K.lookup f=some ⟨oc,od,.func fd,osl⟩/\codeIn K cdv qual=true
 kp:keepIn K (.ref f)=true
section
variable {P:Program}{w:World}{K:PySem.W.Frag}{mg:Str->Option Value}{base:Heap}
theorem BJ.ok {x qual:Str}{st:Stmt}{f:Addr}{fd:FuncData}{N ps:List Str}{k:Nat}{sp:Sp}(F:BJ K x qual st f fd)(S:aY N ps (aC st))(len:∀vs H Q E,sp vs H Q E->vs.length=ps.length)(hbody:∀(cdv:Value) (A:Around) (outer:List Env) (s:Shared) (H:Hp) (vs:List V) (Q:VK) (E:XK),cM k (A.deeper (envOfC qual (aC st) s.heap.objs.size f cdv))->sp vs H Q E->
   ∃t,mC (jz bx P w K mg base N qual (aC st) f cdv A outer s H E).qx (cH st) t/\t {nx:=λ_ H'=>Q .non H',rt:=Q} (start N vs) H):aP P w K mg base bx (k+1) f fd ps sp:=by
 obtain ⟨oc,od,kV,doc,pm,an,cdv,ct,osl,rfl,lk,hcd⟩:=F.ex;refine Va lk hcd S len λA outer s H vs Q E hr hsp=>?_;obtain ⟨t,h,q⟩:=hbody cdv A outer s H vs Q E hr hsp;exact ⟨t,h.qx,q⟩
theorem BJ.binds {x qual:Str}{st:Stmt}{f:Addr}{fd:FuncData}{ps:List Str}(F:BJ K x qual st f fd)(h:∀(kV doc pm:Value) (an:Option Addr) (cdv ct:Value) (us:List Value),us.length=ps.length->bindArgs (fnOf x qual (dX st) (cH st) (aC st) .none kV doc pm an cdv ct) ⟨us,[]⟩=pure (ps.zip us)):Binds K fd ps []:=by
 obtain ⟨oc,od,kV,doc,pm,an,cdv,ct,osl,rfl,lk,hcd⟩:=F.ex;exact .all (h kV doc pm an cdv ct)
theorem W5 {x qual:Str}{st:Stmt}{f:Addr}{oc:Value}{od an:Option Addr}{osl:Array (Option Value)}{kV doc pm cdv ct:Value}(l:K.lookup f=some ⟨oc,od,.func (fnOf x qual (dX st) (cH st) (aC st) .none kV doc pm an cdv ct),osl⟩)(c:codeIn K cdv qual=true)(k:keepIn K (.ref f)=true):BJ K x qual st f (fnOf x qual (dX st) (cH st) (aC st) .none kV doc pm an cdv ct):=⟨⟨oc,od,kV,doc,pm,an,cdv,ct,osl,rfl,l,c⟩,k⟩
end
section
variable {X:Cx}
theorem W6:eZ X (.builtin "len") (λxs H Q=>∃a kvs,xs=[V.ref a]/\H a=some (.dK kvs)/\Q (.int kvs.length) H):=by
 intro pins s σ H xs us Q I r h;obtain ⟨a,kvs,rfl,ha,q⟩:=h;obtain ⟨u,rfl,ru⟩:=vals1 r;cases ru;exact aiM I (.inl ha) λt s' I'=>⟨.int kvs.length,H,I',⟨t,rfl⟩,q⟩
end
end L2
namespace ZT
open PySem PyProof PyProof.Rows
def kv:Value->Int
 | .int k _=>k
 | _=>0
end ZT
namespace ZS
open PySem PySem.Spec PyProof.Rows L2
theorem BK {α:Type}:∀{l:List α},l.Nodup->∀{i j:Nat} {x:α},l[i]?=some x->l[j]?=some x->i=j
 | [],_,i,_,_,a,_=>by simp at a
 | y::l,h,i,j,x,a,b=>by
  obtain ⟨h1,h2⟩:=nodup_cons.mp h;cases i with
  | zero=>
   cases j with
   | zero=>rfl
   | succ j=>simp at a b;subst a;exact absurd (mem_of_getElem? b) h1
  | succ i=>
   cases j with
   | zero=>simp at a b;subst b;exact absurd (mem_of_getElem? a) h1
   | succ j=>exact congrArg (·+1) (BK h2 (by simpa using a) (by simpa using b))
section
variable (K:PySem.W.Frag)(ρ:List Addr)(H:Hp)
def G9 (a:Addr)(xs:List V):Prop:=
 (∃o,H a=some (.cC o (.lst xs)))\/
  ∃(o:Obj) (its:Array Value) (n:Nat),K.lookup a=some o/\o.cls=.type "list"/\o.dict=none/\o.data=.seq its n/\its.size<=sizeLine/\Vals xs its.toList/\o.slots=#[]
mutual
noncomputable def ak:Z.D->V->Prop
 | .non,v=>v=.non
 | .bl b,v=>v=.bl b
 | .int i,v=>v=.int i
 | .str s,v=>v=.str ⟨s.toArray⟩/\s.length<=Z.lim
 | .tup xs,v=>∃a ys,v=.ref a/\gA K H a ys/\aq xs ys
 | .fu xs,v=>∃a ys,v=.ref a/\G9 K H a ys/\aq xs ys
 | .ref n,v=>∃a,v=.ref a/\ρ[n]?=some a
noncomputable def aq:List Z.D->List V->Prop
 | [],ys=>ys=[]
 | x::xs,ys=>∃y r,ys=y::r/\ak x y/\aq xs r
end
def gC:Z.KK->Key
 | .inl i=>.inl i
 | .inr s=>.inr ⟨s.toArray⟩
def lJ:Z.AO->Addr->Prop
 | .lst xs,a=>∃ys,H a=some (.lst ys)/\aq K ρ H xs ys
 | .dct kvs,a=>∃kvs',H a=some (.dK kvs')/\kvs'.map (·.1)=kvs.map (λp=>gC p.1)/\aq K ρ H (kvs.map (·.2)) (kvs'.map (·.2))/\∀p∈kvs,∀s,p.1=Sum.inr s->s.length<=Z.lim
 | .exc c,a=>∃C oe,nsIn K mainGlobals ⟨c.toArray⟩=some (some (.ref C))/\H a=some (.cC oe (.own 0))/\oe.cls=.ref C/\oe.dict=none/\notCls oe=true
 | .dZ c i,a=>∃C oe dx od,nsIn K mainGlobals ⟨c.toArray⟩=some (some (.ref C))/\H a=some (.cC oe (.own 0))/\H dx=some (.cC od (.xd [("row",.int i)]))/\oe.cls=.ref C/\oe.dict=some dx/\notCls oe=true
 | .obj c fs,a=>∃C dx fs',nsIn K mainGlobals ⟨c.toArray⟩=some (some (.ref C))/\H a=some (.ins C dx fs')/\fs'.map (·.1)=fs.map (λp=>(⟨p.1.toArray⟩:Str))/\aq K ρ H (fs.map (·.2)) (fs'.map (·.2))
end
structure Ext (K:PySem.W.Frag)(ρ:List Addr)(H:Hp)(ρ':List Addr)(H':Hp):Prop where
 pre:∀(n:Nat) (a:Addr),ρ[n]?=some a->ρ'[n]?=some a
 tup:∀a xs,H a=some (.tup xs)->H' a=some (.tup xs)
 cC:∀a o u,H a=some (.cC o u)->H' a=some (.cC o u)
class R0 where
 rho:List Addr
 hp:Hp
variable [R0]
structure Rep (K:PySem.W.Frag)(ρ:List Addr)(h:Z.AH)(H:Hp):Prop where
 len:ρ.length=h.length
 nd:ρ.Nodup
 ext:Ext K R0.rho R0.hp ρ H
 at_:∀(n:Nat) (o:Z.AO),h[n]?=some o->∃a,ρ[n]?=some a/\lJ K ρ H o a
def cG (K:PySem.W.Frag)(ρ:List Addr)(H:Hp)(σ:Z.Lo)(τ:L2.St):Prop:=
 σ.length=τ.length/\∀(i:Nat) (d:Z.D),σ[i]?=some (some d)->∃v,τ[i]?=some (some v)/\ak K ρ H d v
section
variable {K:PySem.W.Frag}{ρ ρ' ak8:List Addr}{H H' H'':Hp}{h h':Z.AH}
theorem Ext.refl:Ext K ρ H ρ H:=⟨λ_ _ e=>e,λ_ _ e=>e,λ_ _ _ e=>e⟩
theorem Ext.trans (a:Ext K ρ H ρ' H')(b:Ext K ρ' H' ak8 H''):Ext K ρ H ak8 H'':=
 ⟨λn x e=>b.pre n x (a.pre n x e),λx xs e=>b.tup x xs (a.tup x xs e),λx o u e=>b.cC x o u (a.cC x o u e)⟩
theorem Ext.sqT (e:Ext K ρ H ρ' H')(q:gA K H a xs):gA K H' a xs:=by
 rcases q with (q | ⟨o,q⟩) | q
 ·exact .inl (.inl (e.tup _ _ q))
 ·exact .inl (.inr ⟨o,e.cC _ _ _ q⟩)
 ·exact .inr q
theorem Ext.sqF (e:Ext K ρ H ρ' H')(q:G9 K H a xs):G9 K H' a xs:=by
 rcases q with ⟨o,q⟩ | q
 ·exact .inl ⟨o,e.cC _ _ _ q⟩
 ·exact .inr q
theorem G9.BL (q:G9 K H a xs):jd K H a xs:=by
 rcases q with ⟨o,q⟩ | ⟨o,its,n,h1,h2,h3,h4,h5,h6,_⟩
 ·exact .inl (.inr ⟨o,q⟩)
 ·exact .inr ⟨o,its,n,h1,h2,h3,h4,h5,h6⟩
mutual
theorem ak.mono (e:Ext K ρ H ρ' H'):∀(d:Z.D) (v:V),ak K ρ H d v->ak K ρ' H' d v
 | .non,_,r=>by simp only[ak]at r ⊢;exact r
 | .bl _,_,r=>by simp only[ak]at r ⊢;exact r
 | .int _,_,r=>by simp only[ak]at r ⊢;exact r
 | .str _,_,r=>by simp only[ak]at r ⊢;exact r
 | .tup xs,v,r=>by
  simp only[ak]at r ⊢;obtain ⟨a,ys,e1,q,r⟩:=r;exact ⟨a,ys,e1,e.sqT q,aq.mono e xs ys r⟩
 | .fu xs,v,r=>by
  simp only[ak]at r ⊢;obtain ⟨a,ys,e1,q,r⟩:=r;exact ⟨a,ys,e1,e.sqF q,aq.mono e xs ys r⟩
 | .ref n,v,r=>by
  simp only[ak]at r ⊢;obtain ⟨a,e1,q⟩:=r;exact ⟨a,e1,e.pre _ _ q⟩
theorem aq.mono (e:Ext K ρ H ρ' H'):∀(d:List Z.D) (v:List V),aq K ρ H d v->aq K ρ' H' d v
 | [],_,r=>by simp only[aq]at r ⊢;exact r
 | x::xs,v,r=>by
  simp only[aq]at r ⊢;obtain ⟨y,t,e1,q,r⟩:=r;exact ⟨y,t,e1,ak.mono e x y q,aq.mono e xs t r⟩
end
theorem aq.length:∀{xs:List Z.D} {ys:List V},aq K ρ H xs ys->xs.length=ys.length
 | [],_,r=>by simp only[aq]at r;subst r;rfl
 | x::xs,_,r=>by
  simp only[aq]at r;obtain ⟨y,t,rfl,_,r⟩:=r;simp[aq.length r]
theorem aq.get:∀{xs:List Z.D} {ys:List V} {i:Nat} {x:Z.D},aq K ρ H xs ys->xs[i]?=some x->∃y,ys[i]?=some y/\ak K ρ H x y
 | [],_,_,_,_,e=>by simp at e
 | x::xs,_,i,z,r,e=>by
  simp only[aq]at r;obtain ⟨y,t,rfl,q,r⟩:=r;cases i with
  | zero=>simp at e;subst e;exact ⟨y,by simp,q⟩
  | succ i=>obtain ⟨w,e1,e2⟩:=aq.get (i:=i) r (by simpa using e);exact ⟨w,by simpa using e1,e2⟩
theorem aq.append:∀{xs xs':List Z.D} {ys ys':List V},aq K ρ H xs ys->aq K ρ H xs' ys'->aq K ρ H (xs++xs') (ys++ys')
 | [],_,_,_,r,r'=>by simp only[aq]at r;subst r;exact r'
 | x::xs,_,_,_,r,r'=>by
  simp only[aq]at r;obtain ⟨y,t,rfl,q,r⟩:=r;show aq K ρ H (x::(xs++_)) (y::(t++_));simp only[aq];exact ⟨y,_,rfl,q,aq.append r r'⟩
theorem aq.one (r:ak K ρ H x y):aq K ρ H [x] [y]:=by
 simp only[aq];exact ⟨y,[],rfl,r,rfl⟩
theorem aq.take:∀{xs:List Z.D} {ys:List V} (n:Nat),aq K ρ H xs ys->aq K ρ H (xs.take n) (ys.take n)
 | [],_,n,r=>by simp only[aq]at r;subst r;simp[aq]
 | x::xs,_,0,r=>by simp[aq]
 | x::xs,_,n+1,r=>by
  simp only[aq]at r;obtain ⟨y,t,rfl,q,r⟩:=r;simp only[List.take_succ_cons,aq];exact ⟨y,_,rfl,q,aq.take n r⟩
theorem aq.drop:∀{xs:List Z.D} {ys:List V} (n:Nat),aq K ρ H xs ys->aq K ρ H (xs.drop n) (ys.drop n)
 | [],_,n,r=>by simp only[aq]at r;subst r;simp[aq]
 | x::xs,_,0,r=>r
 | x::xs,_,n+1,r=>by
  simp only[aq]at r;obtain ⟨y,t,rfl,q,r⟩:=r;simpa using aq.drop n r
theorem aq.set:∀{xs:List Z.D} {ys:List V} (n:Nat) {d:Z.D} {v:V},aq K ρ H xs ys->ak K ρ H d v->aq K ρ H (xs.set n d) (ys.set n v)
 | [],_,n,_,_,r,_=>by simp only[aq]at r;subst r;simp[aq]
 | x::xs,_,0,d,v,r,q'=>by
  simp only[aq]at r;obtain ⟨y,t,rfl,q,r⟩:=r;simp only[List.set_cons_zero,aq];exact ⟨v,t,rfl,q',r⟩
 | x::xs,_,n+1,d,v,r,q'=>by
  simp only[aq]at r;obtain ⟨y,t,rfl,q,r⟩:=r;simp only[List.set_cons_succ,aq];exact ⟨y,_,rfl,q,aq.set n r q'⟩
theorem aq.dropLast:∀{xs:List Z.D} {ys:List V},aq K ρ H xs ys->aq K ρ H xs.dropLast ys.dropLast:=λ{xs ys} r=>by
 rw[List.dropLast_eq_take,List.dropLast_eq_take,<-r.length];exact r.take _
theorem lJ.mono (e:Ext K ρ H ρ' H')(hs:H' a=H a)(r:lJ K ρ H o a):lJ K ρ' H' o a:=by
 cases o with
 | lst xs=>
  obtain ⟨ys,q,r⟩:=r;exact ⟨ys,hs.trans q,aq.mono e _ _ r⟩
 | dct kvs=>
  obtain ⟨ys,q,q2,r,q3⟩:=r;exact ⟨ys,hs.trans q,q2,aq.mono e _ _ r,q3⟩
 | obj c fs=>
  obtain ⟨C,dx,fs',hc,q,q2,r⟩:=r;exact ⟨C,dx,fs',hc,hs.trans q,q2,aq.mono e _ _ r⟩
 | exc c=>
  obtain ⟨C,oe,hc,q,q2⟩:=r;exact ⟨C,oe,hc,hs.trans q,q2⟩
 | dZ c i=>
  obtain ⟨C,oe,dx,od,hc,q,q1,q2⟩:=r;exact ⟨C,oe,dx,od,hc,hs.trans q,e.cC _ _ _ q1,q2⟩
theorem lJ.some (r:lJ K ρ H o a):∃u,H a=some u:=by
 cases o with
 | lst xs=>obtain ⟨ys,q,_⟩:=r;exact ⟨_,q⟩
 | dct kvs=>obtain ⟨ys,q,_⟩:=r;exact ⟨_,q⟩
 | obj c fs=>obtain ⟨C,dx,fs',hc,q,_⟩:=r;exact ⟨_,q⟩
 | exc c=>obtain ⟨C,oe,hc,q,_⟩:=r;exact ⟨_,q⟩
 | dZ c i=>obtain ⟨C,oe,dx,od,hc,q,_⟩:=r;exact ⟨_,q⟩
theorem Rep.tracked (R:Rep K ρ h H){n:Nat}{a:Addr}(e:ρ[n]?=some a):∃u,H a=some u:=by
 have hn:n < h.length:=by rw[<-R.len];exact (List.getElem?_eq_some_iff.mp e).1
 obtain ⟨b,e1,r⟩:=R.at_ n h[n] (by simp[hn]);rw[e]at e1;cases e1;exact r.some
theorem Ext.fresh (hp:H p=none):Ext K ρ H ρ (upd H p o):=
 ⟨λ_ _ e=>e,λa xs e=>by rw[aU (cY e hp)];exact e,λa ob u e=>by rw[aU (cY e hp)];exact e⟩
theorem Ext.alloc (hp:H p=none):Ext K ρ H (ρ++[p]) (upd H p o):=
 ⟨λn a e=>by rw[getElem?_append_left (List.getElem?_eq_some_iff.mp e).1];exact e,λa xs e=>by rw[aU (cY e hp)];exact e,λa ob u e=>by rw[aU (cY e hp)];exact e⟩
theorem Rep.fresh (R:Rep K ρ h H)(hp:H p=none):Rep K ρ h (upd H p o):=
 ⟨R.len,R.nd,R.ext.trans (Ext.fresh hp),λn ob e=>by
  obtain ⟨a,e1,r⟩:=R.at_ n ob e;obtain ⟨u,hu⟩:=r.some;exact ⟨a,e1,lJ.mono (Ext.fresh hp) (aU (cY hu hp)) r⟩⟩
theorem Rep.alloc (R:Rep K ρ h H){p:Addr}{o:HO}{ob:Z.AO}(hp:H p=none)(r:lJ K (ρ++[p]) (upd H p o) ob p):Rep K (ρ++[p]) (h++[ob]) (upd H p o):=by
 refine ⟨by simp[R.len],?_,R.ext.trans (Ext.alloc hp),λn ob' e=>?_⟩
 ·refine List.nodup_append.mpr ⟨R.nd,by simp,λa ha b hb=>?_⟩;obtain ⟨n,hn,e⟩:=getElem_of_mem ha;obtain ⟨u,hu⟩:=R.tracked (n:=n) (a:=a) (by rw[getElem?_eq_getElem hn,e]);rw[mem_singleton]at hb;subst hb;exact cY hu hp
 ·by_cases hn:n < h.length
  ·rw[getElem?_append_left hn]at e;obtain ⟨a,e1,r1⟩:=R.at_ n ob' e;obtain ⟨u,hu⟩:=r1.some;exact ⟨a,(Ext.alloc (K:=K) (o:=o) hp).pre _ _ e1,lJ.mono (Ext.alloc hp) (aU (cY hu hp)) r1⟩
  ·have hl:n=h.length:=by
    have:=(List.getElem?_eq_some_iff.mp e).1;simp at this;lia
   subst hl;rw[getElem?_append_right (le_refl _)]at e;simp at e;subst e;exact ⟨p,by rw[<-R.len,getElem?_append_right (le_refl _)];simp,r⟩
theorem Ext.write (hu:H a=some u)(h1:∀xs,u≠.tup xs)(h2:∀ob w,u≠.cC ob w):Ext K ρ H ρ (upd H a o):=
 ⟨λ_ _ e=>e,λb xs e=>by rw[aU (U0 e hu λz=>h1 xs z.symm)];exact e,λb ob w e=>by rw[aU (U0 e hu λz=>h2 ob w z.symm)];exact e⟩
theorem Rep.write (R:Rep K ρ h H)(hn:ρ[n]?=some a)(hu:H a=some u)(h1:∀xs,u≠.tup xs)(h2:∀ob w,u≠.cC ob w)(r:lJ K ρ (upd H a o) ob a):Rep K ρ (h.set n ob) (upd H a o):=by
 refine ⟨by simp[R.len],R.nd,R.ext.trans (Ext.write hu h1 h2),λm ob' e=>?_⟩;by_cases hm:m=n
 ·subst hm;rw[getElem?_set_self (by rw[<-R.len];exact (List.getElem?_eq_some_iff.mp hn).1)]at e;cases e;exact ⟨a,hn,r⟩
 ·rw[getElem?_set_ne (Ne.symm hm)]at e;obtain ⟨b,e1,r1⟩:=R.at_ m ob' e;refine ⟨b,e1,lJ.mono (Ext.write hu h1 h2) (aU λz=>hm ?_) r1⟩;subst z;exact BK R.nd e1 hn
theorem cG.mono (e:Ext K ρ H ρ' H')(r:cG K ρ H σ τ):cG K ρ' H' σ τ:=
 ⟨r.1,λi d q=>let ⟨v,q1,q2⟩:=r.2 i d q;⟨v,q1,ak.mono e d v q2⟩⟩
theorem cG.set (r:cG K ρ H σ τ)(q:ak K ρ H d v):cG K ρ H (σ.set i (some d)) (τ.set i (some v)):=by
 refine ⟨by simp[r.1],λj e hj=>?_⟩;by_cases hij:i=j
 ·subst hij;have hl:i < σ.length:=by have:=(List.getElem?_eq_some_iff.mp hj).1;simpa using this
  rw[getElem?_set_self hl]at hj;cases hj;exact ⟨v,by rw[getElem?_set_self (by rw[<-r.1];exact hl)],q⟩
 ·rw[getElem?_set_ne hij]at hj;rw[getElem?_set_ne hij];exact r.2 j e hj
end
def SQ (K:PySem.W.Frag)(w:Z.Lo->Z.AH->Z.PV->Prop):TE:=λσ H Q=>∃ρ h τ Q',Rep K ρ h H/\cG K ρ H τ σ/\w τ h Q'/\
 ∀d h' ρ' H' v,Ext K ρ H ρ' H'->Rep K ρ' h' H'->ak K ρ' H' d v->Q' d h'->Q v H'
def Zu (K:PySem.W.Frag)(w:Z.Lo->Z.AH->(List Z.D->Z.AH->Prop)->Prop):TA:=λσ H Q=>∃ρ h τ Q',Rep K ρ h H/\cG K ρ H τ σ/\w τ h Q'/\
 ∀ds h' ρ' H' vs,Ext K ρ H ρ' H'->Rep K ρ' h' H'->aq K ρ' H' ds vs->Q' ds h'->Q vs H'
def Jz (K:PySem.W.Frag)(w:Z.Lo->Z.AH->(Bool->Z.AH->Prop)->Prop):TT:=λσ H Q=>∃ρ h τ Q',Rep K ρ h H/\cG K ρ H τ σ/\w τ h Q'/\
 ∀c h' ρ' H',Ext K ρ H ρ' H'->Rep K ρ' h' H'->Q' c h'->Q c H'
structure Qd (K:PySem.W.Frag)(ρ:List Addr)(H:Hp)(N:Z.En)(D:Ends):Prop where
 nx:∀τ h' ρ' H' σ,Ext K ρ H ρ' H'->Rep K ρ' h' H'->cG K ρ' H' τ σ->N.nx τ h'->D.nx σ H'
 rt:∀d h' ρ' H' v,Ext K ρ H ρ' H'->Rep K ρ' h' H'->ak K ρ' H' d v->N.rt d h'->D.rt v H'
 bk:∀τ h' ρ' H' σ,Ext K ρ H ρ' H'->Rep K ρ' h' H'->cG K ρ' H' τ σ->N.bk τ h'->D.bk σ H'
 ct:∀τ h' ρ' H' σ,Ext K ρ H ρ' H'->Rep K ρ' h' H'->cG K ρ' H' τ σ->N.ct τ h'->D.ct σ H'
theorem Qd.mono {K:PySem.W.Frag}{ρ aM:List Addr}{H H1:Hp}{N:Z.En}{D:Ends}(k:Qd K ρ H N D)(e:Ext K ρ H aM H1):Qd K aM H1 N D:=
 ⟨λτ h' ρ' H' σ e'=>k.nx τ h' ρ' H' σ (e.trans e'),λd h' ρ' H' v e'=>k.rt d h' ρ' H' v (e.trans e'),λτ h' ρ' H' σ e'=>k.bk τ h' ρ' H' σ (e.trans e'),λτ h' ρ' H' σ e'=>k.ct τ h' ρ' H' σ (e.trans e')⟩
def upS (K:PySem.W.Frag)(w:Z.En->Z.Lo->Z.AH->Prop):TS:=λD σ H=>∃ρ h τ N,Rep K ρ h H/\cG K ρ H τ σ/\w N τ h/\Qd K ρ H N D
def rP (K:PySem.W.Frag)(sub:Nat->Nat->Bool)(p:Z.Prim)(vs:List V)(H:Hp)(Q:VK):Prop:=∃ρ h ds d h',Rep K ρ h H/\aq K ρ H ds vs/\Z.prim sub p ds h=some (d,h')/\
 ∀ρ' H' v,Ext K ρ H ρ' H'->Rep K ρ' h' H'->ak K ρ' H' d v->Q v H'
theorem gD (h:PE X e t)(w:∀σ H Q,t' σ H Q->t σ H Q):PE X e t':=λpins s σ H Q I q=>h pins s σ H Q I (w _ _ _ q)
theorem W7 (h:PT X e t)(w:∀σ H Q,t' σ H Q->t σ H Q):PT X e t':=λpins s σ H Q I q=>h pins s σ H Q I (w _ _ _ q)
theorem PAw (h:PA X e t)(w:∀σ H Q,t' σ H Q->t σ H Q):PA X e t':=λpos pins s σ H Q I q=>h pos pins s σ H Q I (w _ _ _ q)
theorem G_ (h:PS X e t)(w:∀D σ H,t' D σ H->t D σ H):PS X e t':=λpins s σ H D I q=>h pins s σ H D I (w _ _ _ q)
theorem afb (h:mC X e t)(w:∀D σ H,t' D σ H->t D σ H):mC X e t':=λpins s σ H D I q=>h pins s σ H D I (w _ _ _ q)
theorem uD (h:bO X f r)(w:∀x y H Q,r' x y H Q->r x y H Q):bO X f r':=λpins s σ H x y v u Q I rx ry q=>h pins s σ H x y v u Q I rx ry (w _ _ _ _ q)
theorem afc (h:eZ X f r)(w:∀xs H Q,r' xs H Q->r xs H Q):eZ X f r':=λpins s σ H x v Q I rx q=>h pins s σ H x v Q I rx (w _ _ _ q)
theorem afd {X:Cx}{id:String}{r r':V->List V->Hp->VK->Prop}(h:mD X id r)(w:∀x xs H Q,r' x xs H Q->r x xs H Q):mD X id r':=λpins s σ H x xs v us Q I rx ry q=>h pins s σ H x xs v us Q I rx ry (w _ _ _ _ q)
theorem am3 (h:xQ X r)(w:∀x lo hi H Q,r' x lo hi H Q->r x lo hi H Q):xQ X r':=by
 unfold xQ at h ⊢;intros;apply h<;>first | assumption | (apply w;assumption)
section
variable {X:Cx}{sub:Nat->Nat->Bool}{Γ:Z.dB}{E:Z.PX}
noncomputable abbrev LE (X:Cx) (sub:Nat->Nat->Bool) (Γ:Z.dB) (E:Z.PX) (e:Expr) (i:Z.Ex):Prop:=PE X e (SQ X.K (Z.aL sub Γ E i))
noncomputable abbrev LT (X:Cx) (sub:Nat->Nat->Bool) (Γ:Z.dB) (E:Z.PX) (e:Expr) (i:Z.Tx):Prop:=PT X e (Jz X.K (Z.cR sub Γ E i))
noncomputable abbrev LA (X:Cx) (sub:Nat->Nat->Bool) (Γ:Z.dB) (E:Z.PX) (e:List Expr) (i:Z.dH):Prop:=PA X e (Zu X.K (Z.bB sub Γ E i))
noncomputable abbrev LS (X:Cx) (sub:Nat->Nat->Bool) (Γ:Z.dB) (E:Z.PX) (e:Stmt) (i:Z.Sm):Prop:=PS X e (upS X.K (Z.wpS sub Γ E i))
noncomputable abbrev qy (X:Cx) (sub:Nat->Nat->Bool) (Γ:Z.dB) (E:Z.PX) (e:List Stmt) (i:Z.ao):Prop:=mC X e (upS X.K (Z.bw sub Γ E i))
theorem BP {K:PySem.W.Frag}{ρ:List Addr}{H:Hp}{a b:Z.D}{x y:V}(r1:ak K ρ H a x)(r2:ak K ρ H b y):aq K ρ H [a,b] [x,y]:=by
 simp only[aq];exact ⟨x,_,rfl,r1,y,_,rfl,r2,rfl⟩
theorem am4 {K:PySem.W.Frag}{ρ:List Addr}{H:Hp}{a b c:Z.D}{x y z:V}(r1:ak K ρ H a x)(r2:ak K ρ H b y)(r3:ak K ρ H c z):aq K ρ H [a,b,c] [x,y,z]:=by
 simp only[aq];exact ⟨x,_,rfl,r1,y,_,rfl,r2,z,_,rfl,r3,rfl⟩
theorem afe (hN:X.N[i]?=some x)(hv:Jr X.env.scope x)(hd:cN x)(hcd:(x == ("__classdict__":Str))=false):LE X sub Γ E (.Name x pos) (.var i):=by
 refine gD (Py hN hv hd hcd) ?_;rintro σ H Q ⟨ρ,h,τ,Q',R,L,w,k⟩;simp only[Z.aL]at w;cases q:τ[i]? with
 | none=>rw[q]at w;exact w.elim
 | some o=>
  cases o with
  | none=>rw[q]at w;exact w.elim
  | some d=>
   rw[q]at w;obtain ⟨v,e,r⟩:=L.2 i d q;exact ⟨v,e,k d h ρ H v .refl R r w⟩
theorem BR (he:PE X e (tC v))(r:∀ρ H,ak X.K ρ H d v):LE X sub Γ E e (.lit d):=by
 refine gD he ?_;rintro σ H Q ⟨ρ,h,τ,Q',R,L,w,k⟩;exact k d h ρ H v .refl R (r ρ H) w
theorem aA (ho:bO X (binaryOp op) (λx y=>rP X.K sub p [x,y]))(ha:LE X sub Γ E a a')(hb:LE X sub Γ E b b'):
  LE X sub Γ E (.BinOp a op b pos) (.prim p (.cons a' (.cons b' .nil))):=by
 refine gD (aiy ho ha hb) ?_;rintro σ H Q ⟨ρ,h,τ,Q',R,L,w,k⟩;simp only[Z.aL,Z.bB]at w;refine ⟨ρ,h,τ,_,R,L,w,λd1 h1 aM H1 x e1 R1 r1 w1=>⟨aM,h1,τ,_,R1,L.mono e1,w1,λd2 h2 bL H2 y e2 R2 r2 w2=>?_⟩⟩;cases q:Z.prim sub p [d1,d2] h2 with
 | none=>rw[q]at w2;exact w2.elim
 | some z=>
  rw[q]at w2;exact ⟨bL,h2,[d1,d2],z.1,z.2,R2,BP (ak.mono e2 _ _ r1) r2,q,λρ' H' v e' R' r'=>k _ _ ρ' H' v (e1.trans (e2.trans e')) R' r' w2⟩
theorem pW (ho:Ss X (unaryOp op) (λx=>rP X.K sub p [x]))(ha:LE X sub Γ E a a'):
  LE X sub Γ E (.UnaryOp op a pos) (.prim p (.cons a' .nil)):=by
 refine gD (aiz ho ha) ?_;rintro σ H Q ⟨ρ,h,τ,Q',R,L,w,k⟩;simp only[Z.aL,Z.bB]at w;refine ⟨ρ,h,τ,_,R,L,w,λd1 h1 aM H1 x e1 R1 r1 w1=>?_⟩;cases q:Z.prim sub p [d1] h1 with
 | none=>rw[q]at w1;exact w1.elim
 | some z=>
  rw[q]at w1;exact ⟨aM,h1,[d1],z.1,z.2,R1,.one r1,q,λρ' H' v e' R' r'=>k _ _ ρ' H' v (e1.trans e') R' r' w1⟩
theorem uZ (ho:bO X (compareOp op) (λx y=>rP X.K sub p [x,y]))(ha:LE X sub Γ E a a')(hb:LE X sub Γ E b b')(hm:behindInMarks op b=false):
  LE X sub Γ E (.Compare a [op] [b] pos) (.prim p (.cons a' (.cons b' .nil))):=by
 refine gD (K4 ho ha hb hm) ?_;rintro σ H Q ⟨ρ,h,τ,Q',R,L,w,k⟩;simp only[Z.aL,Z.bB]at w;refine ⟨ρ,h,τ,_,R,L,w,λd1 h1 aM H1 x e1 R1 r1 w1=>⟨aM,h1,τ,_,R1,L.mono e1,w1,λd2 h2 bL H2 y e2 R2 r2 w2=>?_⟩⟩;cases q:Z.prim sub p [d1,d2] h2 with
 | none=>rw[q]at w2;exact w2.elim
 | some z=>
  rw[q]at w2;exact ⟨bL,h2,[d1,d2],z.1,z.2,R2,BP (ak.mono e2 _ _ r1) r2,q,λρ' H' v e' R' r'=>k _ _ ρ' H' v (e1.trans (e2.trans e')) R' r' w2⟩
theorem le_none (ho:bO X (compareOp op) (λx y H Q=>y=.non/\rP X.K sub p [x] H Q))(ha:LE X sub Γ E a a')(hm:behindInMarks op (.Constant .none j pos')=false):
  LE X sub Γ E (.Compare a [op] [.Constant .none j pos'] pos) (.prim p (.cons a' .nil)):=by
 refine gD (K4 ho ha Pz hm) ?_;rintro σ H Q ⟨ρ,h,τ,Q',R,L,w,k⟩;simp only[Z.aL,Z.bB]at w;refine ⟨ρ,h,τ,_,R,L,w,λd1 h1 aM H1 x e1 R1 r1 w1=>?_⟩;cases q:Z.prim sub p [d1] h1 with
 | none=>rw[q]at w1;exact w1.elim
 | some z=>
  rw[q]at w1;exact ⟨rfl,aM,h1,[d1],z.1,z.2,R1,.one r1,q,λρ' H' v e' R' r'=>k _ _ ρ' H' v (e1.trans e') R' r' w1⟩
theorem Qe {a b:Expr}{rest:List Expr}{a' b':Z.Ex}{pos:Pos}(ha:LE X sub Γ E a a')(hb:LE X sub Γ E (.BoolOp .And (b::rest) pos) b'):LE X sub Γ E (.BoolOp .And (a::b::rest) pos) (.HW a' b'):=by
 refine gD (aeA ha hb) ?_;rintro σ H Q ⟨ρ,h,τ,Q',R,L,w,k⟩;simp only[Z.aL]at w;refine ⟨ρ,h,τ,_,R,L,w,λd1 h1 aM H1 x e1 R1 r1 w1=>?_⟩;cases d1 with
 | bl c=>
  simp only[ak]at r1;cases c with
  | true=>exact ⟨true,r1,by rw[if_pos rfl];exact ⟨aM,h1,τ,_,R1,L.mono e1,w1,λd h' ρ' H' v e'=>k d h' ρ' H' v (e1.trans e')⟩⟩
  | false=>exact ⟨false,r1,by rw[if_neg (by decide)];exact k _ h1 aM H1 _ e1 R1 (by simp only[ak]) w1⟩
 | _=>exact w1.elim
theorem Qf (ha:LE X sub Γ E a a'):LE X sub Γ E (.BoolOp op [a] pos) a':=aez ha
theorem BW (hc:LT X sub Γ E c c')(ha:LE X sub Γ E a a')(hb:LE X sub Γ E b b'):LE X sub Γ E (.IfExp c a b pos) (.ite c' a' b'):=by
 refine gD (Zb hc ha hb) ?_;rintro σ H Q ⟨ρ,h,τ,Q',R,L,w,k⟩;simp only[Z.aL]at w;refine ⟨ρ,h,τ,_,R,L,w,λc h1 aM H1 e1 R1 w1=>?_⟩;cases c with
 | true=>rw[if_pos rfl]at w1 ⊢;exact ⟨aM,h1,τ,_,R1,L.mono e1,w1,λd h' ρ' H' v e'=>k d h' ρ' H' v (e1.trans e')⟩
 | false=>rw[if_neg (by decide)]at w1 ⊢;exact ⟨aM,h1,τ,_,R1,L.mono e1,w1,λd h' ρ' H' v e'=>k d h' ρ' H' v (e1.trans e')⟩
theorem Zv (ho:bO X (compareOp op) (λx y=>rP X.K sub p [x,y]))(ho':bO X (compareOp op') (λx y=>rP X.K sub p' [x,y]))(ha:LE X sub Γ E a a')(hb:LE X sub Γ E b b')(hc:LE X sub Γ E c c')(hm:lastMarks [op,op'] [b,c]=false):
  LE X sub Γ E (.Compare a [op,op'] [b,c] pos) (.chain p p' a' b' c'):=by
 refine gD (Zi ho ho' ha hb hc hm) ?_;rintro σ H Q ⟨ρ,h,τ,Q',R,L,w,k⟩;simp only[Z.aL]at w;refine ⟨ρ,h,τ,_,R,L,w,λd1 h1 aM H1 x e1 R1 r1 w1=>⟨aM,h1,τ,_,R1,L.mono e1,w1,λd2 h2 bL H2 y e2 R2 r2 w2=>?_⟩⟩;cases q:Z.prim sub p [d1,d2] h2 with
 | none=>rw[q]at w2;exact w2.elim
 | some z=>
  obtain ⟨z,h3⟩:=z;rw[q]at w2;refine ⟨bL,h2,[d1,d2],z,h3,R2,BP (ak.mono e2 _ _ r1) r2,q,λjj H3 v e3 R3 r3=>?_⟩;cases z with
  | bl c=>
   simp only[ak]at r3;refine ⟨c,r3,?_⟩;cases c with
   | false=>rw[if_neg (by decide)];exact k _ h3 jj H3 _ (e1.trans (e2.trans e3)) R3 (by simp only[ak]) w2
   | true=>
    rw[if_pos rfl];refine ⟨jj,h3,τ,_,R3,L.mono (e1.trans (e2.trans e3)),w2,λd4 h4 ρ4 H4 y4 e4 R4 r4 w4=>?_⟩;cases q':Z.prim sub p' [d2,d4] h4 with
    | none=>rw[q']at w4;exact w4.elim
    | some z=>
     rw[q']at w4;exact ⟨ρ4,h4,[d2,d4],z.1,z.2,R4,BP (ak.mono (e3.trans e4) _ _ r2) r4,q',λρ' H' v e' R' r'=>k _ _ ρ' H' v (e1.trans (e2.trans (e3.trans (e4.trans e')))) R' r' w4⟩
  | _=>exact w2.elim
theorem gG:LA X sub Γ E [] .nil:=by
 refine PAw uW ?_;rintro σ H Q ⟨ρ,h,τ,Q',R,L,w,k⟩;simp only[Z.bB]at w;exact k [] h ρ H [] .refl R (by simp only[aq]) w
theorem acj (he:LE X sub Γ E e e')(hes:LA X sub Γ E es es')(hs:eE X.env e es):LA X sub Γ E (e::es) (.cons e' es'):=by
 refine PAw (kZ he hes hs) ?_;rintro σ H Q ⟨ρ,h,τ,Q',R,L,w,k⟩;simp only[Z.bB]at w;refine ⟨ρ,h,τ,_,R,L,w,λd1 h1 aM H1 x e1 R1 r1 w1=>⟨aM,h1,τ,_,R1,L.mono e1,w1,λds h2 bL H2 xs e2 R2 r2 w2=>?_⟩⟩;exact k _ h2 bL H2 _ (e1.trans e2) R2 (by simp only[aq];exact ⟨x,xs,rfl,ak.mono e2 _ _ r1,r2⟩) w2
theorem g8:Z.lim=sizeLine:=by rw[sizeLine_eq];rfl
theorem afg:Z.prim sub .dj=Z.YS:=rfl
theorem afh:Z.prim sub .bA=Z.newL:=rfl
theorem cT (h:LA X sub Γ E es es'):LE X sub Γ E (.Tuple es k pos) (.prim .dj es'):=by
 refine gD (aeU h) ?_;rintro σ H Q ⟨ρ,h,τ,Q',R,L,w,k⟩;simp only[Z.aL]at w;refine ⟨ρ,h,τ,_,R,L,w,λds h1 aM H1 xs e1 R1 r1 w1=>?_⟩;simp only[afg,Z.YS]at w1;by_cases hl:ds.length<=Z.lim
 ·rw[if_pos hl]at w1;refine ⟨by rw[<-r1.length,<-g8];exact hl,λp hp=>?_⟩;have e2:Ext X.K aM H1 aM (upd H1 p (.tup xs)):=Ext.fresh hp;exact k _ h1 aM _ _ (e1.trans e2) (R1.fresh hp) (by simp only[ak];exact ⟨p,xs,rfl,.of bJ,aq.mono e2 _ _ r1⟩) w1
 ·rw[if_neg hl]at w1;exact w1.elim
theorem fQ {K:PySem.W.Frag}{ρ:List Addr}{h:Z.AH}{H:Hp}{ds:List Z.D}{vs:List V}{p:Addr}(R:Rep K ρ h H)(r:aq K ρ H ds vs)(hp:H p=none):
  Ext K ρ H (ρ++[p]) (upd H p (.lst vs))/\Rep K (ρ++[p]) (h++[.lst ds]) (upd H p (.lst vs))/\ak K (ρ++[p]) (upd H p (.lst vs)) (.ref h.length) (.ref p):=by
 have e:Ext K ρ H (ρ++[p]) (upd H p (.lst vs)):=Ext.alloc hp;exact ⟨e,R.alloc hp ⟨vs,bJ,aq.mono e _ _ r⟩,by simp only[ak];exact ⟨p,rfl,by rw[<-R.len,getElem?_append_right (le_refl _)];simp⟩⟩
theorem aV {es:List Expr}{es':Z.dH}{pos:Pos}(h:LA X sub Γ E es es'):LE X sub Γ E (.List es pos) (.prim .bA es'):=by
 refine gD (aeV h) ?_;rintro σ H Q ⟨ρ,h,τ,Q',R,L,w,k⟩;simp only[Z.aL]at w;refine ⟨ρ,h,τ,_,R,L,w,λds h1 aM H1 xs e1 R1 r1 w1=>?_⟩;simp only[afh,Z.newL]at w1;by_cases hl:ds.length<=Z.lim
 ·rw[if_pos hl]at w1;refine ⟨by rw[<-r1.length,<-g8];exact hl,λp hp=>?_⟩;obtain ⟨e2,R2,r2⟩:=fQ R1 r1 hp;exact k _ _ _ _ _ (e1.trans e2) R2 r2 w1
 ·rw[if_neg hl]at w1;exact w1.elim
theorem aiO (ho:uY X (λx y=>rP X.K sub p [x,y]))(ha:LE X sub Γ E a a')(hb:LE X sub Γ E b b')(hs:uX b):
  LE X sub Γ E (.Subscript a b pos) (.prim p (.cons a' (.cons b' .nil))):=by
 refine gD (aaW ho ha hb hs) ?_;rintro σ H Q ⟨ρ,h,τ,Q',R,L,w,k⟩;simp only[Z.aL,Z.bB]at w;refine ⟨ρ,h,τ,_,R,L,w,λd1 h1 aM H1 x e1 R1 r1 w1=>⟨aM,h1,τ,_,R1,L.mono e1,w1,λd2 h2 bL H2 y e2 R2 r2 w2=>?_⟩⟩;cases q:Z.prim sub p [d1,d2] h2 with
 | none=>rw[q]at w2;exact w2.elim
 | some z=>
  rw[q]at w2;exact ⟨bL,h2,[d1,d2],z.1,z.2,R2,BP (ak.mono e2 _ _ r1) r2,q,λρ' H' v e' R' r'=>k _ _ ρ' H' v (e1.trans (e2.trans e')) R' r' w2⟩
theorem Zw {x:Str}{id:String}{e:Expr}{es:List Expr}{es':Z.dH}{p:Z.Prim}{q pos:Pos}(hc:eZ X (.builtin id) (rP X.K sub p))(hg:Gl X x)(hm:X.mg x=none)(hv:bootBuiltins x=some (.builtin id))(ha:LA X sub Γ E (e::es) es')(hn:x≠"__name__")(hdb:cN x)(he:eE X.env e es)(hpl:iW X.env es pos):
  LE X sub Γ E (.Call (.Name x q) (e::es) [] pos) (.prim p es'):=by
 refine gD (Ie hc hg hm hv ha hn hdb he hpl) ?_;rintro σ H Q ⟨ρ,h,τ,Q',R,L,w,k⟩;simp only[Z.aL]at w;refine ⟨ρ,h,τ,_,R,L,w,λds h1 aM H1 xs e1 R1 r1 w1=>?_⟩;cases q:Z.prim sub p ds h1 with
 | none=>rw[q]at w1;exact w1.elim
 | some z=>
  rw[q]at w1;exact ⟨aM,h1,ds,z.1,z.2,R1,r1,q,λρ' H' v e' R' r'=>k _ _ ρ' H' v (e1.trans e') R' r' w1⟩
def JB:Z.MK->String
 | .list=>"list" | .str=>"str" | .dict=>"dict" | .int=>"int" | .tuple=>"tuple"
theorem aa1 {K:PySem.W.Frag}{ρ:List Addr}{h:Z.AH}{H:Hp}{m:Z.MK}{d:Z.D}{v:V}(hm:m≠.dict)(hm2:m≠.tuple)(R:Rep K ρ h H)(r:ak K ρ H d v)(t:Z.tyB h m d=true):tyV K (JB m) v H:=by
 cases m<;>cases d<;>simp only[Z.tyB]at t<;>try cases t
 ·simp only[ak]at r;obtain ⟨a,ys,rfl,q,_⟩:=r;exact .inl ⟨rfl,ys,q.BL⟩
 ·rename_i n;simp only[ak]at r;obtain ⟨a,rfl,q⟩:=r;cases e:h[n]? with
  | none=>rw[e]at t;cases t
  | some o=>
   rw[e]at t;cases o with
   | lst xs=>
    obtain ⟨b,e1,ys,e2,_⟩:=R.at_ n _ e;rw[q]at e1;cases e1;exact .inl ⟨rfl,ys,.of e2⟩
   | _=>cases t
 ·simp only[ak]at r;obtain ⟨rfl,_⟩:=r;rfl
 ·exact absurd rfl hm
 ·simp only[ak]at r;subst r;rfl
 ·exact absurd rfl hm2
theorem afi {o e:Expr}{es:List Expr}{o':Z.Ex}{es':Z.dH}{m:Z.MK}{p:Z.Prim}{name:Str}{apos cpos:Pos}{id:String}(hmk:m≠.dict)(hmt:m≠.tuple)(pa:PlainAttrs (JB m))(slot:Slot (JB m) name id)(hty:typeOf (.builtin id)=pure (.type "method_descriptor"))(hm:mD X id (λx xs=>rP X.K sub p (x::xs)))(ho:LE X sub Γ E o o')(ha:LA X sub Γ E (e::es) es')(hbase:attributeBase o name X.env (eval o X.env)=eval o X.env)(hfew:((backTo cpos (starEach (e::es) X.env)).all (λx=>!x.1) && (backToKw cpos (keywordEach [] X.env)).all (λx=>x.1.isSome)
   && decide ((e::es).length+([]:List Keyword).length+(if ([]:List Keyword).isEmpty then 0 else 1) < 30))=true) (hline:(apos.endLine == cpos.line)=true) (hs:eE X.env e es) (hplain:iW X.env es cpos):
  LE X sub Γ E (.Call (.Attribute o name apos) (e::es) [] cpos) (.cQ m p o' es'):=by
 refine gD (aiJ pa slot hty hm ho ha hbase hfew hline hs hplain) ?_;rintro σ H Q ⟨ρ,h,τ,Q',R,L,w,k⟩;simp only[Z.aL]at w;refine ⟨ρ,h,τ,_,R,L,w,λd1 h1 aM H1 x e1 R1 r1 w1=>⟨aa1 hmk hmt R1 r1 w1.1,aM,h1,τ,_,R1,L.mono e1,w1.2,λds h2 bL H2 xs e2 R2 r2 w2=>?_⟩⟩;cases q:Z.prim sub p (d1::ds) h2 with
 | none=>rw[q]at w2;exact w2.elim
 | some z=>
  rw[q]at w2;exact ⟨bL,h2,d1::ds,z.1,z.2,R2,by simp only[aq];exact ⟨x,xs,rfl,ak.mono e2 _ _ r1,r2⟩,q,λρ' H' v e' R' r'=>k _ _ ρ' H' v (e1.trans (e2.trans e')) R' r' w2⟩
theorem acn {o:Expr}{o':Z.Ex}{m:Z.MK}{p:Z.Prim}{name:Str}{apos cpos:Pos}{id:String}(hmk:m≠.dict)(hmt:m≠.tuple)(pa:PlainAttrs (JB m))(slot:Slot (JB m) name id)(hty:typeOf (.builtin id)=pure (.type "method_descriptor"))(hm:mD X id (λx xs=>rP X.K sub p (x::xs)))(ho:LE X sub Γ E o o')(hbase:attributeBase o name X.env (eval o X.env)=eval o X.env)(hline:(apos.endLine == cpos.line)=true):
  LE X sub Γ E (.Call (.Attribute o name apos) [] [] cpos) (.cQ m p o' .nil):=by
 refine gD (ae5 pa slot hty hm ho hbase hline) ?_;rintro σ H Q ⟨ρ,h,τ,Q',R,L,w,k⟩;simp only[Z.aL,Z.bB]at w;refine ⟨ρ,h,τ,_,R,L,w,λd1 h1 aM H1 x e1 R1 r1 w1=>⟨aa1 hmk hmt R1 r1 w1.1,?_⟩⟩;obtain ⟨_,w2⟩:=w1;cases q:Z.prim sub p [d1] h1 with
 | none=>rw[q]at w2;exact w2.elim
 | some z=>
  rw[q]at w2;exact ⟨aM,h1,[d1],z.1,z.2,R1,.one r1,q,λρ' H' v e' R' r'=>k _ _ ρ' H' v (e1.trans e') R' r' w2⟩
theorem afj {K:PySem.W.Frag}{ρ:List Addr}{h:Z.AH}{H:Hp}{d:Z.D}{v:V}{c:Bool}(R:Rep K ρ h H)(r:ak K ρ H d v)(t:Z.truthy h d=some c):Zk K v H c:=by
 cases d with
 | non=>simp only[ak]at r;subst r;simp only[Z.truthy]at t;cases t;rfl
 | bl b=>simp only[ak]at r;subst r;simp only[Z.truthy]at t;cases t;rfl
 | int i=>simp only[ak]at r;subst r;simp only[Z.truthy]at t;cases t;rfl
 | str s=>
  simp only[ak]at r;obtain ⟨rfl,hl⟩:=r;simp only[Z.truthy]at t;cases t;refine ⟨by rw[<-g8];exact hl,?_⟩;show (!s.isEmpty)=(((⟨s.toArray⟩:Str).length:Int) != 0);cases s with
  | nil=>rfl
  | cons a b=>
   show true=_;symm;rw[bne_iff_ne];show ((a::b).toArray.size:Int)≠0;simp
   lia
 | tup xs=>
  simp only[ak]at r;obtain ⟨a,ys,rfl,q,rs⟩:=r;simp only[Z.truthy]at t;cases t;refine .inr (.inl ⟨ys,q,?_⟩);have:=rs.length;cases xs<;>cases ys<;>simp at this ⊢
 | fu xs=>
  simp only[ak]at r;obtain ⟨a,ys,rfl,q,rs⟩:=r;simp only[Z.truthy]at t;cases t;refine .inl ⟨ys,q.BL,?_⟩;have:=rs.length;cases xs<;>cases ys<;>simp at this ⊢
 | ref n=>
  simp only[ak]at r;obtain ⟨a,rfl,q⟩:=r;simp only[Z.truthy]at t;cases e:h[n]? with
  | none=>rw[e]at t;cases t
  | some o=>
   rw[e]at t;obtain ⟨b,e1,ro⟩:=R.at_ n _ e;rw[q]at e1;cases e1;cases o with
   | lst xs=>
    obtain ⟨ys,e2,rs⟩:=ro;cases t;refine .inl ⟨ys,.of e2,?_⟩;have:=rs.length;cases xs<;>cases ys<;>simp at this ⊢
   | dct kvs=>
    obtain ⟨ys,e2,ek,rs,_⟩:=ro;cases t;refine .inr (.inr ⟨ys,e2,?_⟩);have:=rs.length;rw[length_map,length_map]at this;cases kvs<;>cases ys<;>simp at this ⊢
   | obj _ _=>cases t
   | exc _=>cases t
   | dZ _ _=>cases t
theorem afk (ha:LE X sub Γ E a a')(he:∀whole,isTrue a X.env whole=(do let v <-whole;standAt a.pos;holding [v] (truthy v))):LT X sub Γ E a (.aR a'):=by
 refine W7 (Zm ha he) ?_;rintro σ H Q ⟨ρ,h,τ,Q',R,L,w,k⟩;simp only[Z.cR]at w;refine ⟨ρ,h,τ,_,R,L,w,λd1 h1 aM H1 x e1 R1 r1 w1=>?_⟩;cases q:Z.truthy h1 d1 with
 | none=>rw[q]at w1;exact w1.elim
 | some c=>
  rw[q]at w1;exact ⟨c,afj R1 r1 q,k c h1 aM H1 e1 R1 w1⟩
theorem aF (hp:∀ds h d h',Z.prim sub p ds h=some (d,h')->∃c,d=.bl c)(ho:bO X (compareOp op) (λx y=>rP X.K sub p [x,y]))(ha:LE X sub Γ E a a')(hb:LE X sub Γ E b b')(hm:behindInMarks op b=false):
  LT X sub Γ E (.Compare a [op] [b] pos) (.aR (.prim p (.cons a' (.cons b' .nil)))):=by
 refine W7 (Sv ho ha hb hm) ?_;rintro σ H Q ⟨ρ,h,τ,Q',R,L,w,k⟩;simp only[Z.cR,Z.aL,Z.bB]at w;refine ⟨ρ,h,τ,_,R,L,w,λd1 h1 aM H1 x e1 R1 r1 w1=>⟨aM,h1,τ,_,R1,L.mono e1,w1,λd2 h2 bL H2 y e2 R2 r2 w2=>?_⟩⟩;cases q:Z.prim sub p [d1,d2] h2 with
 | none=>rw[q]at w2;exact w2.elim
 | some z=>
  obtain ⟨z,h3⟩:=z;obtain ⟨c,rfl⟩:=hp _ _ _ _ q;rw[q]at w2;refine ⟨bL,h2,[d1,d2],.bl c,h3,R2,BP (ak.mono e2 _ _ r1) r2,q,λρ' H' v e' R' r'=>?_⟩;simp only[ak]at r';exact ⟨c,r',k _ h3 ρ' H' (e1.trans (e2.trans e')) R' w2⟩
theorem k_ (hp:∀ds h d h',Z.prim sub p ds h=some (d,h')->∃c,d=.bl c)(ho:bO X (compareOp op) (λx y H Q=>y=.non/\rP X.K sub p [x] H Q))(ha:LE X sub Γ E a a')(hm:behindInMarks op (.Constant .none j pos')=false):
  LT X sub Γ E (.Compare a [op] [.Constant .none j pos'] pos) (.aR (.prim p (.cons a' .nil))):=by
 refine W7 (Sv ho ha Pz hm) ?_;rintro σ H Q ⟨ρ,h,τ,Q',R,L,w,k⟩;simp only[Z.cR,Z.aL,Z.bB]at w;refine ⟨ρ,h,τ,_,R,L,w,λd1 h1 aM H1 x e1 R1 r1 w1=>?_⟩;cases q:Z.prim sub p [d1] h1 with
 | none=>rw[q]at w1;exact w1.elim
 | some z=>
  obtain ⟨z,h3⟩:=z;obtain ⟨c,rfl⟩:=hp _ _ _ _ q;rw[q]at w1;refine ⟨rfl,aM,h1,[d1],.bl c,h3,R1,.one r1,q,λρ' H' v e' R' r'=>?_⟩;simp only[ak]at r';exact ⟨c,r',k _ h3 ρ' H' (e1.trans e') R' w1⟩
theorem lt_chain (hp:∀ds h d h',Z.prim sub p' ds h=some (d,h')->∃c,d=.bl c)(ho:bO X (compareOp op) (λx y=>rP X.K sub p [x,y]))(ho':bO X (compareOp op') (λx y=>rP X.K sub p' [x,y]))(ha:LE X sub Γ E a a')(hb:LE X sub Γ E b b')(hc:LE X sub Γ E c c')(hm:lastMarks [op,op'] [b,c]=false):
  LT X sub Γ E (.Compare a [op,op'] [b,c] pos) (.aR (.chain p p' a' b' c')):=by
 refine W7 (Zj ho ho' ha hb hc hm) ?_;rintro σ H Q ⟨ρ,h,τ,Q',R,L,w,k⟩;simp only[Z.cR,Z.aL]at w;refine ⟨ρ,h,τ,_,R,L,w,λd1 h1 aM H1 x e1 R1 r1 w1=>⟨aM,h1,τ,_,R1,L.mono e1,w1,λd2 h2 bL H2 y e2 R2 r2 w2=>?_⟩⟩;cases q:Z.prim sub p [d1,d2] h2 with
 | none=>rw[q]at w2;exact w2.elim
 | some z=>
  obtain ⟨z,h3⟩:=z;rw[q]at w2;refine ⟨bL,h2,[d1,d2],z,h3,R2,BP (ak.mono e2 _ _ r1) r2,q,λjj H3 v e3 R3 r3=>?_⟩;cases z with
  | bl c=>
   simp only[ak]at r3;refine ⟨c,r3,?_⟩;cases c with
   | false=>rw[if_neg (by decide)];exact ⟨false,rfl,k _ h3 jj H3 (e1.trans (e2.trans e3)) R3 w2⟩
   | true=>
    rw[if_pos rfl];refine ⟨jj,h3,τ,_,R3,L.mono (e1.trans (e2.trans e3)),w2,λd4 h4 ρ4 H4 y4 e4 R4 r4 w4=>?_⟩;cases q':Z.prim sub p' [d2,d4] h4 with
    | none=>rw[q']at w4;exact w4.elim
    | some z=>
     obtain ⟨z,h5⟩:=z;obtain ⟨c,rfl⟩:=hp _ _ _ _ q';rw[q']at w4;refine ⟨ρ4,h4,[d2,d4],.bl c,h5,R4,BP (ak.mono (e3.trans e4) _ _ r2) r4,q',λρ' H' v e' R' r'=>?_⟩;simp only[ak]at r';exact ⟨c,r',k _ _ ρ' H' (e1.trans (e2.trans (e3.trans (e4.trans e')))) R' w4⟩
  | _=>exact w2.elim
theorem jJ (ha:LT X sub Γ E a a'):LT X sub Γ E (.UnaryOp .Not a pos) (.not a'):=by
 refine W7 (aey ha) ?_;rintro σ H Q ⟨ρ,h,τ,Q',R,L,w,k⟩;simp only[Z.cR]at w;exact ⟨ρ,h,τ,_,R,L,w,λc h1 aM H1 e1 R1 w1=>k _ h1 aM H1 e1 R1 w1⟩
noncomputable abbrev LW (X:Cx) (sub:Nat->Nat->Bool) (Γ:Z.dB) (E:Z.PX) (e:Expr) (i:Z.Tx):Prop:=PW X e (Jz X.K (Z.cR sub Γ E i))
theorem PWw (h:PW X e t)(w:∀σ H Q,t' σ H Q->t σ H Q):PW X e t':=λwh pins s σ H Q I q=>h wh pins s σ H Q I (w _ _ _ q)
theorem lg (ha:LT X sub Γ E a a'):LW X sub Γ E (.BoolOp .And [a] pos) a':=pw_and1 ha
theorem eF (ha:LT X sub Γ E a a'):LW X sub Γ E (.BoolOp .Or [a] pos) a':=pw_or1 ha
theorem nD {a b:Expr}{rest:List Expr}{a' b':Z.Tx}{pos:Pos}(ha:LT X sub Γ E a a')(hb:LW X sub Γ E (.BoolOp .And (b::rest) pos) b'):LW X sub Γ E (.BoolOp .And (a::b::rest) pos) (.and a' b'):=by
 refine PWw (pw_and ha hb) ?_;rintro σ H Q ⟨ρ,h,τ,Q',R,L,w,k⟩;simp only[Z.cR]at w;refine ⟨ρ,h,τ,_,R,L,w,λc h1 aM H1 e1 R1 w1=>?_⟩;cases c with
 | true=>rw[if_pos rfl]at w1 ⊢;exact ⟨aM,h1,τ,_,R1,L.mono e1,w1,λd h' ρ' H' e'=>k d h' ρ' H' (e1.trans e')⟩
 | false=>rw[if_neg (by decide)]at w1 ⊢;exact k _ h1 aM H1 e1 R1 w1
theorem fj {a b:Expr}{rest:List Expr}{a' b':Z.Tx}{pos:Pos}(ha:LT X sub Γ E a a')(hb:LW X sub Γ E (.BoolOp .Or (b::rest) pos) b'):LW X sub Γ E (.BoolOp .Or (a::b::rest) pos) (.or a' b'):=by
 refine PWw (pw_or ha hb) ?_;rintro σ H Q ⟨ρ,h,τ,Q',R,L,w,k⟩;simp only[Z.cR]at w;refine ⟨ρ,h,τ,_,R,L,w,λc h1 aM H1 e1 R1 w1=>?_⟩;cases c with
 | true=>rw[if_pos rfl]at w1 ⊢;exact k _ h1 aM H1 e1 R1 w1
 | false=>rw[if_neg (by decide)]at w1 ⊢;exact ⟨aM,h1,τ,_,R1,L.mono e1,w1,λd h' ρ' H' e'=>k d h' ρ' H' (e1.trans e')⟩
theorem aj:qy X sub Γ E [] .nil:=by
 refine afb ab3 ?_;rintro D σ H ⟨ρ,h,τ,N,R,L,w,k⟩;simp only[Z.bw]at w;exact k.nx τ h ρ H σ .refl R L w
theorem Zx (h1:LS X sub Γ E s s')(h2:qy X sub Γ E ss ss'):qy X sub Γ E (s::ss) (.cons s' ss'):=by
 refine afb (Zc h1 h2) ?_;rintro D σ H ⟨ρ,h,τ,N,R,L,w,k⟩;simp only[Z.bw]at w;refine ⟨ρ,h,τ,_,R,L,w,⟨λτ1 h1 aM H1 σ1 e1 R1 L1 w1=>⟨aM,h1,τ1,N,R1,L1,w1,k.mono e1⟩,k.rt,k.bk,k.ct⟩⟩
theorem acp (he:LE X sub Γ E e e')(hs:swapsWith e none pos.line X.env=pure false):LS X sub Γ E (.Expr e pos) (.expr e'):=by
 refine G_ (ab5 he hs) ?_;rintro D σ H ⟨ρ,h,τ,N,R,L,w,k⟩;simp only[Z.wpS]at w;exact ⟨ρ,h,τ,_,R,L,w,λd h1 aM H1 v e1 R1 r1 w1=>k.nx τ h1 aM H1 σ e1 R1 (L.mono e1) w1⟩
theorem aG (he:LE X sub Γ E e e'):LS X sub Γ E (.Return (some e) pos) (.ret e'):=by
 refine G_ (aeB he) ?_;rintro D σ H ⟨ρ,h,τ,N,R,L,w,k⟩;simp only[Z.wpS]at w;exact ⟨ρ,h,τ,_,R,L,w,λd h1 aM H1 v e1 R1 r1 w1=>k.rt d h1 aM H1 v e1 R1 r1 w1⟩
theorem afl (hN:X.N.Nodup)(hi:X.N[i]?=some x)(hx:Loc X.env.scope x)(he:LE X sub Γ E e e')(hs:swapsWith e (some (.Name x pos')) pos.line X.env=pure false)(hf:X.fn x=true\/X.env.scope.names.lookup x=some .local):LS X sub Γ E (.Assign [.Name x pos'] e pos) (.asg i e'):=by
 refine G_ (aeF hN hi hx he hs hf) ?_;rintro D σ H ⟨ρ,h,τ,N,R,L,w,k⟩;simp only[Z.wpS]at w;exact ⟨ρ,h,τ,_,R,L,w,λd h1 aM H1 v e1 R1 r1 w1=>k.nx _ h1 aM H1 _ e1 R1 ((L.mono e1).set r1) w1⟩
theorem aN (hc:LT X sub Γ E c c')(ha:qy X sub Γ E a a')(hb:qy X sub Γ E b b'):LS X sub Γ E (.If c a b pos) (.bI c' a' b'):=by
 refine G_ (aiu hc ha hb) ?_;rintro D σ H ⟨ρ,h,τ,N,R,L,w,k⟩;simp only[Z.wpS]at w;refine ⟨ρ,h,τ,_,R,L,w,λc h1 aM H1 e1 R1 w1=>?_⟩;cases c with
 | true=>rw[if_pos rfl]at w1 ⊢;exact ⟨aM,h1,τ,N,R1,L.mono e1,w1,k.mono e1⟩
 | false=>rw[if_neg (by decide)]at w1 ⊢;exact ⟨aM,h1,τ,N,R1,L.mono e1,w1,k.mono e1⟩
theorem Ik (hp:PassesOwn (model X.prog X.w) X.A X.env X.xe)(hc:LT X sub Γ E c c')(hb:qy X sub Γ E body b'):LS X sub Γ E (.While c body [] pos) (.Bj c' b'):=by
 refine G_ (Zf hp hc hb) ?_;rintro D σ H ⟨ρ,h,τ,N,R,L,w,k⟩;simp only[Z.wpS]at w;obtain ⟨W,⟨m,w0⟩,turn⟩:=w;refine ⟨λm σ' H'=>∃ρ' h' jK,Ext X.K ρ H ρ' H'/\Rep X.K ρ' h' H'/\cG X.K ρ' H' jK σ'/\W m jK h',⟨m,ρ,h,τ,.refl,R,L,w0⟩,?_⟩;rintro m σ1 H1 ⟨aM,h1,τ1,e1,R1,L1,w1⟩;refine ⟨aM,h1,τ1,_,R1,L1,turn m τ1 h1 w1,λc h2 bL H2 e2 R2 w2=>?_⟩;cases c with
 | false=>rw[if_neg (by decide)]at w2 ⊢;exact k.nx τ1 h2 bL H2 σ1 (e1.trans e2) R2 (L1.mono e2) w2
 | true=>
  rw[if_pos rfl]at w2 ⊢;obtain ⟨Nn,hN,w2⟩:=w2;refine ⟨λσ' H'=>∃m',m' < m/\∃ρ' h' jK,Ext X.K ρ H ρ' H'/\Rep X.K ρ' h' H'/\cG X.K ρ' H' jK σ'/\W m' jK h',λσ' H' q=>q,bL,h2,τ1,_,R2,L1.mono e2,w2,⟨?_,?_,?_,?_⟩⟩
  ·intro Qg h3 jj H3 σ3 e3 R3 L3 w3;obtain ⟨m',hm,w3⟩:=hN _ _ w3;exact ⟨m',hm,jj,h3,Qg,e1.trans (e2.trans e3),R3,L3,w3⟩
  ·intro d h3 jj H3 v e3 R3 r3 w3;exact k.rt d h3 jj H3 v (e1.trans (e2.trans e3)) R3 r3 w3
  ·intro Qg h3 jj H3 σ3 e3 R3 L3 w3;exact k.nx Qg h3 jj H3 σ3 (e1.trans (e2.trans e3)) R3 L3 w3
  ·intro Qg h3 jj H3 σ3 e3 R3 L3 w3;obtain ⟨m',hm,w3⟩:=hN _ _ w3;exact ⟨m',hm,jj,h3,Qg,e1.trans (e2.trans e3),R3,L3,w3⟩
def Il (K:PySem.W.Frag)(ρ0:List Addr)(H0:Hp)(J:Z.It)(J':L2.It):Prop:=∀(i:Nat) (ρ:List Addr) (h:Z.AH) (H:Hp),Ext K ρ0 H0 ρ H->Rep K ρ h H->
 match J i h with
 | some (some d)=>J'.go i H/\∀x H',J'.Ww i H x H'->Ext K ρ H ρ H'/\Rep K ρ h H'/\ak K ρ H' d x
 | some none=>J'.stop i H
 | none=>True
theorem mJ {K:PySem.W.Frag}{ρ:List Addr}{h:Z.AH}{H H':Hp}{d:Z.D}{x:V}(R:Rep K ρ h H)(e:H'=H)(r:ak K ρ H d x):Ext K ρ H ρ H'/\Rep K ρ h H'/\ak K ρ H' d x:=by
 subst e;exact ⟨.refl,R,r⟩
def upI (K:PySem.W.Frag)(kd:Z.IK)(w:Z.Lo->Z.AH->(List Z.D->Z.AH->Prop)->Prop):TI:=λσ H R=>∃ρ h τ Q',Rep K ρ h H/\cG K ρ H τ σ/\w τ h Q'/\
 ∀ds h' ρ' H' vs,Ext K ρ H ρ' H'->Rep K ρ' h' H'->aq K ρ' H' ds vs->Q' ds h'->∃J,Z.bM kd ds h'=some J/\∀J',Il K ρ' H' J J'->R J' H'
noncomputable abbrev LI (X:Cx) (sub:Nat->Nat->Bool) (Γ:Z.dB) (E:Z.PX) (tg iter:Expr) (kd:Z.IK) (es:Z.dH):Prop:=PI X tg iter (upI X.K kd (Z.bB sub Γ E es))
theorem PIw (h:PI X tg iter t)(w:∀σ H R,t' σ H R->t σ H R):PI X tg iter t':=λpins s σ H R I q=>h pins s σ H R I (w _ _ _ q)
theorem afm (hl:PE X l tl):PI X tg l (λσ H R=>tl σ H λx H1=>∃a,x=.ref a/\(((∃xs,jd X.K H1 a xs)/\R (Itl X.K a) H1)\/((∃xs,gA X.K H1 a xs)/\R (Itt X.K a) H1))):=by
 intro pins s σ H R I h;refine bf (hl pins s σ H _ I h) λv s1 ⟨x,H1,I1,r1,q1⟩=>?_;obtain ⟨a,e,⟨⟨xs,hq⟩,q⟩ | ⟨⟨xs,hq⟩,q⟩⟩:=q1
 ·subst e;cases r1;obtain ⟨its,rv,p,hz⟩:=I1.list hq;refine wpAny_pyIter_list p.isList ?_;refine ⟨s1.heap.objs.size,[s1.heap.objs.size],_,_,H1,rfl,I1.kept (t':=s1.toks) λb o e=>get?_push_of_some _ e,Wy a _,⟨_,get?_push_size _ rfl,rfl,rfl⟩,λb hb=>?_,q⟩;have e:b=s1.heap.objs.size:=by simpa using hb
  subst e;exact I1.Ia (le_refl _) (I1.hok.fresh (le_refl _))
 ·subst e;cases r1;obtain ⟨its,rv,p,hz⟩:=I1.tuple hq;refine wpAny_pyIter_tuple (show s1.heap.IsTuple a its.toArray from p) ?_;refine ⟨s1.heap.objs.size,[s1.heap.objs.size],_,_,H1,rfl,I1.kept (t':=s1.toks) λb o e=>get?_push_of_some _ e,U4 a _,⟨_,get?_push_size _ rfl,rfl,rfl⟩,λb hb=>?_,q⟩;have e:b=s1.heap.objs.size:=by simpa using hb
  subst e;exact I1.Ia (le_refl _) (I1.hok.fresh (le_refl _))
theorem W8 {K:PySem.W.Frag}{ρ:List Addr}{H:Hp}{n:Nat}{a:Addr}(hn:ρ[n]?=some a):Il K ρ H (Z.iu n) (Itl K a):=by
 intro i aM h1 H1 e1 R1;have hn1:=e1.pre _ _ hn;unfold Z.iu;cases e:h1[n]? with
 | none=>trivial
 | some o=>
  cases o with
  | lst xs=>
   obtain ⟨b,eb,ys,e2,rs⟩:=R1.at_ n _ e;rw[hn1]at eb;cases eb;dsimp only;cases q:xs[i]? with
   | none=>
    refine ⟨ys,.of e2,?_⟩;rw[<-rs.length];exact List.getElem?_eq_none_iff.mp q
   | some d=>
    obtain ⟨y,q1,q2⟩:=rs.get q;refine ⟨⟨ys,y,.of e2,q1⟩,λx H' hy=>?_⟩;obtain ⟨eH,hy⟩:=hy;have:=hy ys (.of e2);rw[q1]at this;cases this;exact mJ R1 eH q2
  | _=>trivial
theorem acq {K:PySem.W.Frag}{ρ:List Addr}{H:Hp}{a:Addr}{xs:List Z.D}{ys:List V}(q:G9 K H a ys)(r:aq K ρ H xs ys):Il K ρ H (Z.qp xs) (Itl K a):=by
 intro i aM h1 H1 e1 R1;have q':=(e1.sqF q).BL;have r':=aq.mono e1 _ _ r;unfold Z.qp;cases e:xs[i]? with
 | none=>exact ⟨ys,q',by rw[<-r.length];exact List.getElem?_eq_none_iff.mp e⟩
 | some d=>
  obtain ⟨y,q1,q2⟩:=r'.get e;refine ⟨⟨ys,y,q',q1⟩,λx H' hy=>?_⟩;have:=hy.2 ys q';rw[q1]at this;cases this;exact mJ R1 hy.1 q2
theorem Zy {K:PySem.W.Frag}{ρ:List Addr}{H:Hp}{a:Addr}{xs:List Z.D}{ys:List V}(q:gA K H a ys)(r:aq K ρ H xs ys):Il K ρ H (Z.qp xs) (Itt K a):=by
 intro i aM h1 H1 e1 R1;have q':=e1.sqT q;have r':=aq.mono e1 _ _ r;unfold Z.qp;cases e:xs[i]? with
 | none=>exact ⟨ys,q',by rw[<-r.length];exact List.getElem?_eq_none_iff.mp e⟩
 | some d=>
  obtain ⟨y,q1,q2⟩:=r'.get e;refine ⟨⟨ys,y,q',q1⟩,λx H' hy=>?_⟩;have:=hy.2 ys q';rw[q1]at this;cases this;exact mJ R1 hy.1 q2
theorem Qh {K:PySem.W.Frag}{ρ:List Addr}{H:Hp}{lo:Int}{n:Nat}:Il K ρ H (Z.ji lo n) (Wx lo n):=by
 intro i aM h1 H1 e1 R1;unfold Z.ji;by_cases hi:i < n
 ·rw[if_pos hi];refine ⟨hi,λx H' hy=>mJ R1 hy.1 ?_⟩;simp only[ak];exact hy.2
 ·rw[if_neg hi];exact le_of_not_lt hi
theorem BX (hl:LE X sub Γ E l e'):LI X sub Γ E tg l .val (.cons e' .nil):=by
 refine PIw (afm hl) ?_;rintro σ H Rr ⟨ρ,h,τ,Q',R,L,w,k⟩;simp only[Z.bB]at w;refine ⟨ρ,h,τ,_,R,L,w,λd h1 aM H1 x e1 R1 r1 w1=>?_⟩;obtain ⟨J,eJ,hk⟩:=k [d] h1 aM H1 [x] e1 R1 (.one r1) w1;cases d with
 | str s=>cases eJ
 | tup xs=>
  cases eJ;simp only[ak]at r1;obtain ⟨a,ys,rfl,q,rs⟩:=r1;exact ⟨a,rfl,.inr ⟨⟨ys,q⟩,hk _ (Zy q rs)⟩⟩
 | fu xs=>
  cases eJ;simp only[ak]at r1;obtain ⟨a,ys,rfl,q,rs⟩:=r1;exact ⟨a,rfl,.inl ⟨⟨ys,q.BL⟩,hk _ (acq q rs)⟩⟩
 | ref n=>
  simp only[ak]at r1;obtain ⟨a,rfl,q⟩:=r1;simp only[Z.bM,Z.iZ,Z.iR,Z.i_,Z.jc,Z.iw]at eJ;cases e:h1[n]? with
  | none=>rw[e]at eJ;cases eJ
  | some o=>
   rw[e]at eJ;cases o with
   | lst xs=>
    cases eJ;obtain ⟨b,eb,ys,e2,rs⟩:=R1.at_ n _ e;rw[q]at eb;cases eb;exact ⟨a,rfl,.inl ⟨⟨ys,.of e2⟩,hk _ (W8 q)⟩⟩
   | _=>cases eJ
 | non=>cases eJ
 | bl _=>cases eJ
 | int _=>cases eJ
theorem qz (h:Z.okR i=true):-(2 ^ 62)<=i/\i < 2 ^ 62:=by have:=Z.mF.mp h;lia
theorem iJ (hg:Gl X "range")(hm:X.mg "range"=none)(ha:LA X sub Γ E [a] (.cons a' .nil))(hs:starEach [a] X.env=[(false,eval a X.env)]):LI X sub Γ E tg (.Call (.Name "range" p) [a] [] pos) .rng (.cons a' .nil):=by
 refine PIw (Wz hg hm ha hs) ?_;rintro σ H Rr ⟨ρ,h,τ,Q',R,L,w,k⟩;refine ⟨ρ,h,τ,λds h1=>match ds with | [d]=>Q' [d] h1 | _=>False,R,L,(by simpa only[Z.bB] using w),λds h1 aM H1 vs e1 R1 r1 w1=>?_⟩
 match ds,w1,r1 with
 | [d],w1,r1=>
  obtain ⟨J,eJ,hk⟩:=k [d] h1 aM H1 vs e1 R1 r1 w1;simp only[aq]at r1;obtain ⟨v,_,rfl,r1,rfl⟩:=r1;cases d with
  | int i=>
   simp only[Z.bM,Z.iZ,Z.iR,Z.i_,Z.jc,Z.iw]at eJ;split at eJ
   ·rename_i hi;cases eJ;simp only[ak]at r1;subst r1;exact ⟨i,rfl,(qz hi).1,(qz hi).2,hk _ Qh⟩
   ·cases eJ
  | _=>simp only[Z.bM,Z.iZ,Z.iR,Z.i_,Z.jc,Z.iw]at eJ;cases eJ
 | [],w1,_=>exact w1.elim
 | _::_::_,w1,_=>exact w1.elim
theorem acr (hg:Gl X "range")(hm:X.mg "range"=none)(ha:LA X sub Γ E [a,b] (.cons a' (.cons b' .nil)))(hs:starEach [a,b] X.env=[(false,eval a X.env),(false,eval b X.env)])(hs2:starEach [b] X.env=[(false,eval b X.env)]):
  LI X sub Γ E tg (.Call (.Name "range" p) [a,b] [] pos) .rng (.cons a' (.cons b' .nil)):=by
 refine PIw (WD hg hm ha hs hs2) ?_;rintro σ H Rr ⟨ρ,h,τ,Q',R,L,w,k⟩;refine ⟨ρ,h,τ,λds h1=>match ds with | [d,e]=>Q' [d,e] h1 | _=>False,R,L,(by simpa only[Z.bB] using w),λds h1 aM H1 vs e1 R1 r1 w1=>?_⟩
 match ds,w1,r1 with
 | [d,e],w1,r1=>
  obtain ⟨J,eJ,hk⟩:=k [d,e] h1 aM H1 vs e1 R1 r1 w1;simp only[aq]at r1;obtain ⟨v,_,rfl,r1,v2,_,rfl,r2,rfl⟩:=r1;cases d with
  | int i=>
   cases e with
   | int j=>
    simp only[Z.bM,Z.iZ,Z.iR,Z.i_,Z.jc,Z.iw]at eJ;split at eJ
    ·rename_i hi;cases eJ;simp only[ak]at r1 r2;subst r1 r2;rw[and_eq_true]at hi;exact ⟨i,j,rfl,⟨(qz hi.1).1,(qz hi.1).2,(qz hi.2).1,(qz hi.2).2⟩,hk _ Qh⟩
    ·cases eJ
   | _=>simp only[Z.bM,Z.iZ,Z.iR,Z.i_,Z.jc,Z.iw]at eJ;cases eJ
  | _=>simp only[Z.bM,Z.iZ,Z.iR,Z.i_,Z.jc,Z.iw]at eJ;cases eJ
 | [],w1,_=>exact w1.elim
 | [_],w1,_=>exact w1.elim
 | _::_::_::_,w1,_=>exact w1.elim
theorem afn {tg:Expr}(hp:PassesOwn (model X.prog X.w) X.A X.env X.xe)(hc:X.calm=true)(hN:X.N.Nodup)(hi:X.N[i]?=some x)(hx:Loc X.env.scope x)(hf:X.fn x=true\/X.env.scope.names.lookup x=some .local)(hit:LI X sub Γ E (.Name x tpos) iter kd src)(hb:qy X sub Γ E body b')(hs:∀x,foldedSetIterable iter X.env x=pure x):LS X sub Γ E (.For (.Name x tpos) iter body [] pos) (.d9 [i] kd src b'):=by
 refine G_ (aeK hp hc hit (uU hN hi hx hf) hb hs) ?_;rintro D σ H ⟨ρ,h,τ,N,R,L,w,k⟩;simp only[Z.wpS]at w;refine ⟨ρ,h,τ,_,R,L,w,λds h1 aM H1 vs e1 R1 r1 w1=>?_⟩;cases eJ:Z.bM kd ds h1 with
 | none=>rw[eJ]at w1;exact w1.elim
 | some J=>
  rw[eJ]at w1;refine ⟨J,rfl,λJ' hJ=>?_⟩;obtain ⟨W,⟨m,w0⟩,turn⟩:=w1;refine ⟨λi m σ' H'=>∃ρ' h' jK,Ext X.K aM H1 ρ' H'/\Rep X.K ρ' h' H'/\cG X.K ρ' H' jK σ'/\W i m jK h',⟨m,aM,h1,τ,.refl,R1,L.mono e1,w0⟩,?_⟩;rintro n m σ2 H2 ⟨bL,h2,W9,e2,R2,Qi,w2⟩;have t:=turn n m W9 h2 w2;have j:=hJ n bL h2 H2 e2 R2;cases ev:J n h2 with
  | none=>rw[ev]at t;exact t.elim
  | some o=>
   rw[ev]at t j;cases o with
   | none=>exact .inl ⟨j,k.nx W9 h2 bL H2 σ2 (e1.trans e2) R2 Qi t⟩
   | some d=>
    obtain ⟨go,yl⟩:=j;have hbd:Z.jP [i] d W9=some (W9.set i (some d)):=by cases d<;>rfl
    simp only[hbd]at t;obtain ⟨Nn,hNn,t⟩:=t;refine .inr ⟨go,λσ' H'=>∃m',m' < m/\∃ρ' h' jK,Ext X.K aM H1 ρ' H'/\Rep X.K ρ' h' H'/\cG X.K ρ' H' jK σ'/\W (n+1) m' jK h',λσ' H' q=>q,λv H' hy=>?_⟩;obtain ⟨eX,R2,rv⟩:=yl v H' hy;have e2:=e2.trans eX;have Qi:=Qi.mono eX;refine ⟨bL,h2,W9.set i (some d),_,R2,Qi.set rv,t,⟨?_,?_,?_,?_⟩⟩
    ·intro Qg h3 jj H3 σ3 e3 R3 L3 w3;obtain ⟨m',hm,w3⟩:=hNn _ _ w3;exact ⟨m',hm,jj,h3,Qg,e2.trans e3,R3,L3,w3⟩
    ·intro d h3 jj H3 v e3 R3 r3 w3;exact k.rt d h3 jj H3 v (e1.trans (e2.trans e3)) R3 r3 w3
    ·intro Qg h3 jj H3 σ3 e3 R3 L3 w3;exact k.nx Qg h3 jj H3 σ3 (e1.trans (e2.trans e3)) R3 L3 w3
    ·intro Qg h3 jj H3 σ3 e3 R3 L3 w3;obtain ⟨m',hm,w3⟩:=hNn _ _ w3;exact ⟨m',hm,jj,h3,Qg,e2.trans e3,R3,L3,w3⟩
end
section
variable {X:Cx}{pins:List (Addr×Obj)}{σ:L2.St}{H:Hp}{s:Shared}{ρ:List Addr}{h:Z.AH}
theorem j9 (a b:List Nat):((⟨a.toArray⟩:Str) == ⟨b.toArray⟩)=(a == b):=by
 by_cases e:a=b
 ·subst e;simp
 ·have:¬((⟨a.toArray⟩:Str)=⟨b.toArray⟩):=λq=>e (by injection q with q;exact (toArray_inj q));rw[beq_eq_false_iff_ne.mpr this,beq_eq_false_iff_ne.mpr e]
theorem Im {K:PySem.W.Frag}{ρ:List Addr}{H:Hp}{ds:List Z.D}{x:V}{xs:List V}(r:aq K ρ H ds (x::xs)):∃d ds',ds=d::ds'/\ak K ρ H d x/\aq K ρ H ds' xs:=by
 cases ds with
 | nil=>simp only[aq]at r;cases r
 | cons d ds=>
  simp only[aq]at r;obtain ⟨y,t,e,r1,r2⟩:=r;cases e;exact ⟨d,ds,rfl,r1,r2⟩
theorem acs {K:PySem.W.Frag}{ρ:List Addr}{H:Hp}{ds:List Z.D}(r:aq K ρ H ds []):ds=[]:=by
 cases ds with
 | nil=>rfl
 | cons _ _=>simp only[aq]at r;obtain ⟨_,_,e,_⟩:=r;cases e
theorem W_ (I:Inv X pins σ H s){a:Addr}{o:Obj}{u:HO}(e:X.K.lookup a=some o)(e':H a=some u):False:=by
 have:=(I.bs a o (I.mod.Jq a o e)).2;rw[e']at this;cases this
theorem Hf (I:Inv X pins σ H s)(R:Rep X.K ρ h H){n:Nat}{a:Addr}{ys:List V}(e:ρ[n]?=some a)(q:gA X.K H a ys):False:=by
 have hn:n < h.length:=by rw[<-R.len];exact (List.getElem?_eq_some_iff.mp e).1
 obtain ⟨b,e1,r⟩:=R.at_ n h[n] (by simp[hn]);rw[e]at e1;cases e1;have nt:(∀xs,H a≠some (.tup xs))/\(∀o xs,H a≠some (.cC o (.tup xs)))/\∃u,H a=some u:=by
  cases ho:h[n] with
  | lst xs=>rw[ho]at r;obtain ⟨ys,q,_⟩:=r;rw[q];exact ⟨(λ_ z=>by cases z),(λ_ _ z=>by cases z),_,rfl⟩
  | dct xs=>rw[ho]at r;obtain ⟨ys,q,_⟩:=r;rw[q];exact ⟨(λ_ z=>by cases z),(λ_ _ z=>by cases z),_,rfl⟩
  | obj _ _=>rw[ho]at r;obtain ⟨C,dx,fs',_,q,_⟩:=r;rw[q];exact ⟨(λ_ z=>by cases z),(λ_ _ z=>by cases z),_,rfl⟩
  | exc _=>rw[ho]at r;obtain ⟨C,oe,_,q,_⟩:=r;rw[q];exact ⟨(λ_ z=>by cases z),(λ_ _ z=>by cases z),_,rfl⟩
  | dZ _ _=>rw[ho]at r;obtain ⟨C,oe,dx,od,_,q,_⟩:=r;rw[q];exact ⟨(λ_ z=>by cases z),(λ_ _ z=>by cases z),_,rfl⟩
 obtain ⟨n1,n2,u,hu⟩:=nt;rcases q with (q | ⟨o,q⟩) | ⟨o,_,_,q,_⟩
 ·exact n1 _ q
 ·exact n2 _ _ q
 ·exact W_ I q hu
theorem Hg (I:Inv X pins σ H s)(R:Rep X.K ρ h H){n:Nat}{a:Addr}{ys:List V}(e:ρ[n]?=some a)(q:G9 X.K H a ys):False:=by
 have hn:n < h.length:=by rw[<-R.len];exact (List.getElem?_eq_some_iff.mp e).1
 obtain ⟨b,e1,r⟩:=R.at_ n h[n] (by simp[hn]);rw[e]at e1;cases e1;have nt:(∀o xs,H a≠some (.cC o (.lst xs)))/\∃u,H a=some u:=by
  cases ho:h[n] with
  | lst xs=>rw[ho]at r;obtain ⟨ys,q,_⟩:=r;rw[q];exact ⟨(λ_ _ z=>by cases z),_,rfl⟩
  | dct xs=>rw[ho]at r;obtain ⟨ys,q,_⟩:=r;rw[q];exact ⟨(λ_ _ z=>by cases z),_,rfl⟩
  | obj _ _=>rw[ho]at r;obtain ⟨C,dx,fs',_,q,_⟩:=r;rw[q];exact ⟨(λ_ _ z=>by cases z),_,rfl⟩
  | exc _=>rw[ho]at r;obtain ⟨C,oe,_,q,_⟩:=r;rw[q];exact ⟨(λ_ _ z=>by cases z),_,rfl⟩
  | dZ _ _=>rw[ho]at r;obtain ⟨C,oe,dx,od,_,q,_⟩:=r;rw[q];exact ⟨(λ_ _ z=>by cases z),_,rfl⟩
 obtain ⟨n2,u,hu⟩:=nt;rcases q with ⟨o,q⟩ | ⟨o,_,_,q,_⟩
 ·exact n2 _ _ q
 ·exact W_ I q hu
theorem SX (I:Inv X pins σ H s){a:Addr}{ys zs:List V}(q:gA X.K H a ys)(q':G9 X.K H a zs):False:=by
 rcases q with (q | ⟨o,q⟩) | ⟨o,_,_,q,c,_⟩<;>rcases q' with ⟨o',q'⟩ | ⟨o',_,_,q',c',_⟩
 ·rw[q]at q';cases q'
 ·exact W_ I q' q
 ·rw[q]at q';cases q'
 ·exact W_ I q' q
 ·exact W_ I q q'
 ·rw[q]at q';cases q';rw[c]at c';exact absurd c' (by decide)
mutual
theorem ak.inj (I:Inv X pins σ H s)(R:Rep X.K ρ h H):∀(d d':Z.D) (v:V),ak X.K ρ H d v->ak X.K ρ H d' v->d=d'
 | .non,d',v,r,r'=>by
  simp only[ak]at r;subst r;cases d'<;>simp only[ak]at r'<;>first | rfl | (cases r';done) | (obtain ⟨r',_⟩:=r';cases r';done) | (obtain ⟨_,_,r',_⟩:=r';cases r';done) | (obtain ⟨_,r',_⟩:=r';cases r';done)
 | .bl b,d',v,r,r'=>by
  simp only[ak]at r;subst r;cases d'<;>simp only[ak]at r'<;>first | (cases r';rfl) | (cases r';done) | (obtain ⟨r',_⟩:=r';cases r';done) | (obtain ⟨_,_,r',_⟩:=r';cases r';done) | (obtain ⟨_,r',_⟩:=r';cases r';done)
 | .int b,d',v,r,r'=>by
  simp only[ak]at r;subst r;cases d'<;>simp only[ak]at r'<;>first | (cases r';rfl) | (cases r';done) | (obtain ⟨r',_⟩:=r';cases r';done) | (obtain ⟨_,_,r',_⟩:=r';cases r';done) | (obtain ⟨_,r',_⟩:=r';cases r';done)
 | .str b,d',v,r,r'=>by
  simp only[ak]at r;obtain ⟨rfl,_⟩:=r;cases d'<;>simp only[ak]at r'<;>first | (cases r';done) | (obtain ⟨r',_⟩:=r';injection r' with r';injection r' with r';rw[toArray_inj r'];done) | (obtain ⟨r',_⟩:=r';cases r';done) | (obtain ⟨_,_,r',_⟩:=r';cases r';done) | (obtain ⟨_,r',_⟩:=r';cases r';done)
 | .tup xs,d',v,r,r'=>by
  simp only[ak]at r;obtain ⟨a,ys,rfl,q,rs⟩:=r;cases d' with
  | tup xs'=>
   simp only[ak]at r';obtain ⟨a',ys',e,q',rs'⟩:=r';cases e;have:=I.Bs q q';subst this;rw[aq.inj I R xs xs' ys rs rs']
  | fu xs'=>simp only[ak]at r';obtain ⟨a',ys',e,q',rs'⟩:=r';cases e;exact (SX I q q').elim
  | ref n=>simp only[ak]at r';obtain ⟨a',e,q'⟩:=r';cases e;exact (Hf I R q' q).elim
  | non=>simp only[ak]at r';cases r'
  | bl _=>simp only[ak]at r';cases r'
  | int _=>simp only[ak]at r';cases r'
  | str _=>simp only[ak]at r';cases r'.1
 | .fu xs,d',v,r,r'=>by
  simp only[ak]at r;obtain ⟨a,ys,rfl,q,rs⟩:=r;cases d' with
  | fu xs'=>
   simp only[ak]at r';obtain ⟨a',ys',e,q',rs'⟩:=r';cases e;have:=I.HY q.BL q'.BL;subst this;rw[aq.inj I R xs xs' ys rs rs']
  | tup xs'=>simp only[ak]at r';obtain ⟨a',ys',e,q',rs'⟩:=r';cases e;exact (SX I q' q).elim
  | ref n=>simp only[ak]at r';obtain ⟨a',e,q'⟩:=r';cases e;exact (Hg I R q' q).elim
  | non=>simp only[ak]at r';cases r'
  | bl _=>simp only[ak]at r';cases r'
  | int _=>simp only[ak]at r';cases r'
  | str _=>simp only[ak]at r';cases r'.1
 | .ref n,d',v,r,r'=>by
  simp only[ak]at r;obtain ⟨a,rfl,q⟩:=r;cases d' with
  | ref m=>simp only[ak]at r';obtain ⟨a',e,q'⟩:=r';cases e;rw[BK R.nd q q']
  | fu xs'=>simp only[ak]at r';obtain ⟨a',ys',e,q',rs'⟩:=r';cases e;exact (Hg I R q q').elim
  | tup xs'=>simp only[ak]at r';obtain ⟨a',ys',e,q',rs'⟩:=r';cases e;exact (Hf I R q q').elim
  | non=>simp only[ak]at r';cases r'
  | bl _=>simp only[ak]at r';cases r'
  | int _=>simp only[ak]at r';cases r'
  | str _=>simp only[ak]at r';cases r'.1
theorem aq.inj (I:Inv X pins σ H s)(R:Rep X.K ρ h H):∀(d d':List Z.D) (v:List V),aq X.K ρ H d v->aq X.K ρ H d' v->d=d'
 | [],d',v,r,r'=>by simp only[aq]at r;subst r;exact (acs r').symm
 | x::xs,d',v,r,r'=>by
  simp only[aq]at r;obtain ⟨y,t,rfl,q,rs⟩:=r;obtain ⟨x',xs',rfl,q',rs'⟩:=Im r';rw[ak.inj I R x x' y q q',aq.inj I R xs xs' t rs rs']
end
theorem Qj {f:Z.D->Z.D->Option Bool}(hf:∀x b,f x x=some b->b=true):∀(xs:List Z.D) (b:Bool),Z.eqZ f xs xs=some b->b=true
 | [],b,e=>by cases e;rfl
 | x::xs,b,e=>by
  simp only[Z.eqZ]at e;split at e
  ·rename_i a c ea ec;cases e;rw[hf _ _ ea,Qj hf _ _ ec];rfl
  ·cases e
theorem Zz:∀(n:Nat) (d:Z.D) (b:Bool),Z.GP n d d=some b->b=true:=by
 intro n
 induction n with
 | zero=>intro d b e;cases d<;>cases e<;>simp
 | succ n ih=>
  intro d b e;cases d with
  | tup xs=>exact Qj ih xs b e
  | _=>cases e<;>simp
theorem K7 {f:Z.D->Z.D->Option Bool}:∀{xs ys:List Z.D} {b:Bool},Z.eqZ f xs ys=some b->∃e:Nat->Bool,(∀(j:Nat) x y,xs[j]?=some x->ys[j]?=some y->f x y=some (e j))/\b=((List.range (min xs.length ys.length)).all e && xs.length == ys.length):=by
 intro xs
 induction xs with
 | nil=>
  intro ys b h;cases ys with
  | nil=>simp only[Z.eqZ]at h;cases h;exact ⟨λ_=>true,λj x y h=>by simp at h,by simp⟩
  | cons _ _=>simp only[Z.eqZ]at h;cases h;exact ⟨λ_=>true,λj x y h=>by simp at h,by simp⟩
 | cons x xs ih=>
  intro ys b h;cases ys with
  | nil=>simp only[Z.eqZ]at h;cases h;exact ⟨λ_=>true,λj x y h h'=>by simp at h',by simp⟩
  | cons y ys=>
   simp only[Z.eqZ]at h;split at h
   ·rename_i a c ea ec;cases h;obtain ⟨e,h1,h2⟩:=ih ec;refine ⟨λj=>match j with | 0=>a | j+1=>e j,λj x' y' hx hy=>?_,?_⟩
    ·cases j with
     | zero=>simp at hx hy;subst hx hy;exact ea
     | succ j=>exact h1 j x' y' (by simpa using hx) (by simpa using hy)
    ·rw[h2,length_cons,length_cons,Nat.succ_min_succ,List.range_succ_eq_map,List.all_cons,List.all_map,Bool.and_assoc];have hl:(xs.length == ys.length)=(xs.length+1 == ys.length+1):=by
      by_cases hl:xs.length=ys.length<;>simp[hl]
     rw[hl];rfl
   ·cases h
theorem Io {A:Around}{xs xs':List Z.D}{ys ys':List V}{its its':List Value}{f:Z.D->Z.D->Option Bool}{e:Nat->Bool}(r:aq X.K ρ H xs ys)(r':aq X.K ρ H xs' ys')(v:Vals ys its)(v':Vals ys' its')(he:∀(j:Nat) x y,xs[j]?=some x->xs'[j]?=some y->f x y=some (e j))(hf:∀x x' y y' u u' b,ak X.K ρ H x y->ak X.K ρ H x' y'->RelV y u->RelV y' u'->f x x'=some b->SeqAt.EqAt A s u u' b):
  ∀j (h1:j < its.toArray.size) (h2:j < its'.toArray.size),SeqAt.EqAt A s its.toArray[j] its'.toArray[j] (e j):=by
 intro j h1 h2;have l1:j < xs.length:=by rw[r.length,v.length];simpa using h1
 have l2:j < xs'.length:=by rw[r'.length,v'.length];simpa using h2
 obtain ⟨y,ey,ry⟩:=r.get (i:=j) (x:=xs[j]) (by simp[l1]);obtain ⟨y',ey',ry'⟩:=r'.get (i:=j) (x:=xs'[j]) (by simp[l2]);obtain ⟨u,eu,ru⟩:=v.get ey;obtain ⟨u',eu',ru'⟩:=v'.get ey';have a1:its.toArray[j]=u:=by
  have:its[j]?=some its[j]:=by simp
  rw[this]at eu;cases eu;simp
 have a2:its'.toArray[j]=u':=by
  have:its'[j]?=some its'[j]:=by simp
  rw[this]at eu';cases eu';simp
 rw[a1,a2];exact hf _ _ _ _ _ _ _ ry ry' ru ru' (he j _ _ (by simp[l1]) (by simp[l2]))
theorem qC (I:Inv X pins σ H s)(R:Rep X.K ρ h H):∀(n:Nat) (A:Around) (d d':Z.D) (v v':V) (u u':Value) (b:Bool),A.units+n < cLine->ak X.K ρ H d v->ak X.K ρ H d' v'->RelV v u->RelV v' u'->Z.GP n d d'=some b->
  SeqAt.RcAt A s u u' b/\SeqAt.EqAt A s u u' b:=by
 intro n
 induction n with
 | zero=>
  intro A d d' v v' u u' b hu r r' q q' e;cases d<;>cases d'<;>simp only[ak]at r r'<;>first | (cases e;done) | skip
  all_goals cases e
  ·subst r r';cases q;cases q';exact ⟨.none_none,.same _⟩
  ·subst r r';cases q;cases q';exact ⟨.none_bool _,.none_bool _⟩
  ·subst r r';cases q;obtain ⟨_,rfl⟩:=q';exact ⟨.none_int _ _,.none_int _ _⟩
  ·obtain ⟨r',_⟩:=r';subst r r';cases q;obtain ⟨_,rfl⟩:=q';exact ⟨.none_str _ _,.none_str _ _⟩
  ·subst r r';cases q;cases q';exact ⟨.bool_none _,.bool_none _⟩
  ·subst r r';cases q;cases q';exact ⟨.bool_bool _ _,.bool_bool _ _⟩
  ·obtain ⟨r',_⟩:=r';subst r r';cases q;obtain ⟨_,rfl⟩:=q';exact ⟨.bool_str _ _ _,.bool_str _ _ _⟩
  ·subst r r';cases q';obtain ⟨_,rfl⟩:=q;exact ⟨.int_none _ _,.int_none _ _⟩
  ·subst r r';obtain ⟨_,rfl⟩:=q';obtain ⟨_,rfl⟩:=q;exact ⟨.int_int _ _ _ _,.int_int _ _ _ _⟩
  ·obtain ⟨r',_⟩:=r';subst r r';obtain ⟨_,rfl⟩:=q';obtain ⟨_,rfl⟩:=q;exact ⟨.int_str _ _ _ _,.int_str _ _ _ _⟩
  ·obtain ⟨r,_⟩:=r;subst r r';cases q';obtain ⟨_,rfl⟩:=q;exact ⟨.str_none _ _,.str_none _ _⟩
  ·obtain ⟨r,_⟩:=r;subst r r';cases q';obtain ⟨_,rfl⟩:=q;exact ⟨.str_bool _ _ _,.str_bool _ _ _⟩
  ·obtain ⟨r,_⟩:=r;subst r r';obtain ⟨_,rfl⟩:=q';obtain ⟨_,rfl⟩:=q;exact ⟨.str_int _ _ _ _,.str_int _ _ _ _⟩
  ·obtain ⟨r,_⟩:=r;obtain ⟨r',_⟩:=r';subst r r';obtain ⟨_,rfl⟩:=q';obtain ⟨_,rfl⟩:=q;rw[<-j9];exact ⟨.str_str _ _ _ _,.str_str _ _ _ _⟩
 | succ n ih=>
  intro A d d' v v' u u' b hu r r' q q' e;have hu':A.units < cLine:=by lia
  cases d<;>cases d'<;>simp only[ak]at r r'<;>first | (cases e;done) | skip
  ·cases e;subst r r';cases q;cases q';exact ⟨.none_none,.same _⟩
  ·cases e;subst r r';cases q;cases q';exact ⟨.none_bool _,.none_bool _⟩
  ·cases e;subst r r';cases q;obtain ⟨_,rfl⟩:=q';exact ⟨.none_int _ _,.none_int _ _⟩
  ·cases e;obtain ⟨r',_⟩:=r';subst r r';cases q;obtain ⟨_,rfl⟩:=q';exact ⟨.none_str _ _,.none_str _ _⟩
  ·cases e;obtain ⟨a,ys,r',hq,_⟩:=r';subst r r';cases q;cases q';obtain ⟨its,_,it,_⟩:=I.tuple hq;exact ⟨.none_tuple (show s.heap.IsTuple a its.toArray from it) hu',.none_tuple (show s.heap.IsTuple a its.toArray from it) hu'⟩
  ·cases e;subst r r';cases q;cases q';exact ⟨.bool_none _,.bool_none _⟩
  ·cases e;subst r r';cases q;cases q';exact ⟨.bool_bool _ _,.bool_bool _ _⟩
  ·cases e;obtain ⟨r',_⟩:=r';subst r r';cases q;obtain ⟨_,rfl⟩:=q';exact ⟨.bool_str _ _ _,.bool_str _ _ _⟩
  ·cases e;obtain ⟨a,ys,r',hq,_⟩:=r';subst r r';cases q;cases q';obtain ⟨its,_,it,_⟩:=I.tuple hq;exact ⟨.bool_tuple _ (show s.heap.IsTuple a its.toArray from it) hu',.bool_tuple _ (show s.heap.IsTuple a its.toArray from it) hu'⟩
  ·cases e;subst r r';cases q';obtain ⟨_,rfl⟩:=q;exact ⟨.int_none _ _,.int_none _ _⟩
  ·cases e;subst r r';obtain ⟨_,rfl⟩:=q';obtain ⟨_,rfl⟩:=q;exact ⟨.int_int _ _ _ _,.int_int _ _ _ _⟩
  ·cases e;obtain ⟨r',_⟩:=r';subst r r';obtain ⟨_,rfl⟩:=q';obtain ⟨_,rfl⟩:=q;exact ⟨.int_str _ _ _ _,.int_str _ _ _ _⟩
  ·cases e;obtain ⟨a,ys,r',hq,_⟩:=r';subst r r';obtain ⟨_,rfl⟩:=q;cases q';obtain ⟨its,_,it,_⟩:=I.tuple hq;exact ⟨.int_tuple _ _ (show s.heap.IsTuple a its.toArray from it) hu',.int_tuple _ _ (show s.heap.IsTuple a its.toArray from it) hu'⟩
  ·cases e;obtain ⟨r,_⟩:=r;subst r r';cases q';obtain ⟨_,rfl⟩:=q;exact ⟨.str_none _ _,.str_none _ _⟩
  ·cases e;obtain ⟨r,_⟩:=r;subst r r';cases q';obtain ⟨_,rfl⟩:=q;exact ⟨.str_bool _ _ _,.str_bool _ _ _⟩
  ·cases e;obtain ⟨r,_⟩:=r;subst r r';obtain ⟨_,rfl⟩:=q';obtain ⟨_,rfl⟩:=q;exact ⟨.str_int _ _ _ _,.str_int _ _ _ _⟩
  ·cases e;obtain ⟨r,_⟩:=r;obtain ⟨r',_⟩:=r';subst r r';obtain ⟨_,rfl⟩:=q';obtain ⟨_,rfl⟩:=q;rw[<-j9];exact ⟨.str_str _ _ _ _,.str_str _ _ _ _⟩
  ·cases e;obtain ⟨a,ys,r',hq,_⟩:=r';obtain ⟨r,_⟩:=r;subst r r';obtain ⟨_,rfl⟩:=q;cases q';obtain ⟨its,_,it,_⟩:=I.tuple hq;exact ⟨.str_tuple _ _ (show s.heap.IsTuple a its.toArray from it) hu',.str_tuple _ _ (show s.heap.IsTuple a its.toArray from it) hu'⟩
  ·cases e;obtain ⟨a,ys,r,hq,_⟩:=r;subst r r';cases q;cases q';obtain ⟨its,_,it,_⟩:=I.tuple hq;exact ⟨.tuple_none (show s.heap.IsTuple a its.toArray from it) hu',.tuple_none (show s.heap.IsTuple a its.toArray from it) hu'⟩
  ·cases e;obtain ⟨a,ys,r,hq,_⟩:=r;subst r r';cases q;cases q';obtain ⟨its,_,it,_⟩:=I.tuple hq;exact ⟨.tuple_bool _ (show s.heap.IsTuple a its.toArray from it) hu',.tuple_bool _ (show s.heap.IsTuple a its.toArray from it) hu'⟩
  ·cases e;obtain ⟨a,ys,r,hq,_⟩:=r;subst r r';cases q;obtain ⟨_,rfl⟩:=q';obtain ⟨its,_,it,_⟩:=I.tuple hq;exact ⟨.tuple_int _ _ (show s.heap.IsTuple a its.toArray from it) hu',.tuple_int _ _ (show s.heap.IsTuple a its.toArray from it) hu'⟩
  ·cases e;obtain ⟨a,ys,r,hq,_⟩:=r;obtain ⟨r',_⟩:=r';subst r r';cases q;obtain ⟨_,rfl⟩:=q';obtain ⟨its,_,it,_⟩:=I.tuple hq;exact ⟨.tuple_str _ _ (show s.heap.IsTuple a its.toArray from it) hu',.tuple_str _ _ (show s.heap.IsTuple a its.toArray from it) hu'⟩
  ·rename_i xs xs';obtain ⟨a,ys,e1,hq,rs⟩:=r;obtain ⟨a',ys',e2,hq',rs'⟩:=r';subst e1 e2;cases q;cases q';obtain ⟨its,vv,it,_⟩:=I.tuple hq;obtain ⟨its',M4,it',_⟩:=I.tuple hq';obtain ⟨ee,h1,h2⟩:=K7 e;have hlen:its.toArray.size=xs.length:=by rw[size_toArray,<-vv.length,<-rs.length]
   have hlen':its'.toArray.size=xs'.length:=by rw[size_toArray,<-M4.length,<-rs'.length]
   have at':=Io (A:=A.in1) rs rs' vv M4 h1 (λx x' y y' u u' b hx hx' hy hy' hb=>(ih A.in1 x x' y y' u u' b (by show A.units+1+n < cLine;lia) hx hx' hy hy' hb).2);have rc:SeqAt.RcAt A s (.ref a) (.ref a') b:=by
    have:=SeqAt.RcAt.tuples (A:=A) (show s.heap.IsTuple a its.toArray from it) (show s.heap.IsTuple a' its'.toArray from it') hu' at';rw[hlen,hlen',<-h2]at this;exact this
   refine ⟨rc,?_⟩;by_cases ha:a=a'
   ·subst ha;cases I.Bs hq hq';cases aq.inj I R _ _ _ rs rs';have:b=true:=Zz (n+1) (.tup xs) b e;subst this;exact .same _
   ·exact .of_refs ha rc
end
section
variable {K:PySem.W.Frag}{ρ:List Addr}{h:Z.AH}{H:Hp}
theorem wX (r:aq K ρ H ds [x]):∃d,ds=[d]/\ak K ρ H d x:=by
 cases ds with
 | nil=>simp only[aq]at r;cases r
 | cons d ds=>
  simp only[aq]at r;obtain ⟨y,t,e,r1,r2⟩:=r;cases e;cases ds with
  | nil=>exact ⟨d,rfl,r1⟩
  | cons _ _=>simp only[aq]at r2;obtain ⟨_,_,e,_⟩:=r2;cases e
theorem iU (r:aq K ρ H ds [x,y]):∃d e,ds=[d,e]/\ak K ρ H d x/\ak K ρ H e y:=by
 obtain ⟨d,ds,rfl,r1,r⟩:=Im r;obtain ⟨e,rfl,r2⟩:=wX r;exact ⟨d,e,rfl,r1,r2⟩
theorem aiP (r:aq K ρ H ds [x,y,z]):∃d e f,ds=[d,e,f]/\ak K ρ H d x/\ak K ρ H e y/\ak K ρ H f z:=by
 obtain ⟨d,ds,rfl,r1,r⟩:=Im r;obtain ⟨e,f,rfl,r2,r3⟩:=iU r;exact ⟨d,e,f,rfl,r1,r2,r3⟩
theorem dY (R:Rep K ρ h H)(r:ak K ρ H (.ref n) v)(e:h[n]?=some (.lst xs)):∃a ys,v=.ref a/\ρ[n]?=some a/\H a=some (.lst ys)/\aq K ρ H xs ys:=by
 simp only[ak]at r;obtain ⟨a,rfl,q⟩:=r;obtain ⟨b,e1,ys,e2,rs⟩:=R.at_ n _ e;rw[q]at e1;cases e1;exact ⟨a,ys,rfl,q,e2,rs⟩
theorem JC (R:Rep K ρ h H)(r:ak K ρ H (.ref n) v)(e:h[n]?=some (.dct kvs)):∃a kvs',v=.ref a/\ρ[n]?=some a/\H a=some (.dK kvs')/\kvs'.map (·.1)=kvs.map (λp=>gC p.1)/\aq K ρ H (kvs.map (·.2)) (kvs'.map (·.2))/\∀p∈kvs,∀s,p.1=Sum.inr s->s.length<=Z.lim:=by
 simp only[ak]at r;obtain ⟨a,rfl,q⟩:=r;obtain ⟨b,e1,ys,e2,rs⟩:=R.at_ n _ e;rw[q]at e1;cases e1;exact ⟨a,ys,rfl,q,e2,rs⟩
theorem j_ (e:Z.newL xs h=some (d,h')):xs.length<=Z.lim/\d=.ref h.length/\h'=h++[.lst xs]:=by
 unfold Z.newL at e;split at e
 ·cases e;exact ⟨by assumption,rfl,rfl⟩
 ·cases e
theorem ZC (e:Z.HN n xs v h=some (d,h')):xs.length<=Z.lim/\d=v/\h'=h.set n (.lst xs):=by
 unfold Z.HN at e;split at e
 ·cases e;exact ⟨by assumption,rfl,rfl⟩
 ·cases e
theorem sH {xs:List Z.D}(R:Rep K ρ h H)(hn:ρ[n]?=some a)(ha:H a=some (.lst vs))(r:aq K ρ H ys ws):Ext K ρ H ρ (upd H a (.lst ws))/\Rep K ρ (h.set n (.lst ys)) (upd H a (.lst ws)):=by
 have e:Ext K ρ H ρ (upd H a (.lst ws)):=Ext.write ha (λ_=>by simp) (λ_ _=>by simp);exact ⟨e,R.write hn ha (λ_=>by simp) (λ_ _=>by simp) ⟨ws,bJ,aq.mono e _ _ r⟩⟩
theorem gH (s:List Nat):(⟨s.toArray⟩:Str).length=s.length:=by
 show s.toArray.size=_;simp
theorem Qk (s t:List Nat):(⟨s.toArray⟩++⟨t.toArray⟩:Str)=⟨(s++t).toArray⟩:=by
 show Str.mk (s.toArray++t.toArray)=_;simp
end
section
variable {X:Cx}{sub:Nat->Nat->Bool}
theorem afq (hp:Z.prim sub p=Z.m_ f)(ho:bO X op (G5 λi j=>.int (f i j))):bO X op (λx y=>rP X.K sub p [x,y]):=uD ho (by
 rintro x y H Q ⟨ρ,h,ds,d,h',R,r,q,k⟩;obtain ⟨d1,d2,rfl,r1,r2⟩:=iU r;rw[hp]at q;unfold Z.m_ at q;split at q
 ·rename_i e;cases e;cases q;simp only[ak]at r1 r2;subst r1 r2;exact ⟨_,_,rfl,rfl,k ρ H _ .refl R (by simp only[ak])⟩
 ·cases q)
theorem Og (hp:Z.prim sub p=Z.Bh f)(ho:bO X op (G5 λi j=>.bl (f i j))):bO X op (λx y=>rP X.K sub p [x,y]):=uD ho (by
 rintro x y H Q ⟨ρ,h,ds,d,h',R,r,q,k⟩;obtain ⟨d1,d2,rfl,r1,r2⟩:=iU r;rw[hp]at q;unfold Z.Bh at q;split at q
 ·rename_i e;cases e;cases q;simp only[ak]at r1 r2;subst r1 r2;exact ⟨_,_,rfl,rfl,k ρ H _ .refl R (by simp only[ak])⟩
 ·cases q)
theorem JD:bO X (binaryOp .Sub) (λx y=>rP X.K sub .sub [x,y]):=afq rfl aeN
theorem wY:bO X (compareOp .Lt) (λx y=>rP X.K sub .lt [x,y]):=Og rfl aiA
theorem ZD:bO X (compareOp .LtE) (λx y=>rP X.K sub .le [x,y]):=Og rfl aiB
theorem BZ:bO X (compareOp .Gt) (λx y=>rP X.K sub .gt [x,y]):=Og rfl aiC
theorem am5:bO X (compareOp .GtE) (λx y=>rP X.K sub .ge [x,y]):=Og rfl aiD
theorem aZ:bO X (binaryOp .Mod) (λx y=>rP X.K sub .mod [x,y]):=uD aeP (by
 rintro x y H Q ⟨ρ,h,ds,d,h',R,r,q,k⟩;obtain ⟨d1,d2,rfl,r1,r2⟩:=iU r;change Z.YM _ _=_ at q;unfold Z.YM at q;split at q
 ·rename_i e;cases e;split at q
  ·cases q;simp only[ak]at r1 r2;subst r1 r2;exact ⟨_,_,rfl,rfl,by assumption,k ρ H _ .refl R (by simp only[ak])⟩
  ·cases q
 ·cases q)
theorem log2_lt_of (hk:0 < k)(h:n < 2 ^ k):n.log2 < k:=by
 by_cases z:n=0
 ·subst z;simpa using hk
 ·exact (Nat.log2_lt z).mpr h
theorem JF (h:-2037035976334486086268445688409378161051468393665936250636140449354381299763336706183397376 < i/\i < 2037035976334486086268445688409378161051468393665936250636140449354381299763336706183397376):i.natAbs < 2 ^ 300:=by
 have e:(2:Nat) ^ 300=2037035976334486086268445688409378161051468393665936250636140449354381299763336706183397376:=by decide+kernel
 rw[e];lia
theorem ZF:bO X (binaryOp .FloorDiv) (rI (λ_ j=>0 < j/\-2037035976334486086268445688409378161051468393665936250636140449354381299763336706183397376 < j/\j < 2037035976334486086268445688409378161051468393665936250636140449354381299763336706183397376) λi j=>.int (i / j)):=WM λi j _ _ _ _ _ hc q=>by
 have h1:(0:Int) < j:=hc.1;exact floordiv_int (Int.ne_of_gt h1) (by rw[Int.fdiv_eq_ediv_of_nonneg i (Int.le_of_lt h1)];exact q) (.inl (PyProof.noPylong_of_log2 (Nat.lt_trans (log2_lt_of (by decide) (JF hc.2)) (by decide))))
theorem Hh (h:-2037035976334486086268445688409378161051468393665936250636140449354381299763336706183397376 < i/\i < 2037035976334486086268445688409378161051468393665936250636140449354381299763336706183397376):Builtin.Int.intBits i<=2 ^ 20:=by
 have:=log2_lt_of (by decide) (JF h);unfold Builtin.Int.intBits;have e:(2:Nat) ^ 20=1048576:=by decide
 rw[e];split<;>lia
theorem acu:bO X (binaryOp .Mult) (rI (λi j=>(-2037035976334486086268445688409378161051468393665936250636140449354381299763336706183397376 < i/\i < 2037035976334486086268445688409378161051468393665936250636140449354381299763336706183397376)/\(-2037035976334486086268445688409378161051468393665936250636140449354381299763336706183397376 < j/\j < 2037035976334486086268445688409378161051468393665936250636140449354381299763336706183397376)) λi j=>.int (i * j)):=WM λi j _ _ _ _ _ hc q=>mul_int q (.of_bits (Hh hc.1) (Hh hc.2))
theorem nF:bO X (binaryOp .FloorDiv) (λx y=>rP X.K sub .fdiv [x,y]):=uD ZF (by
 rintro x y H Q ⟨ρ,h,ds,d,h',R,r,q,k⟩;obtain ⟨d1,d2,rfl,r1,r2⟩:=iU r;change Z.Uz _ _=_ at q;unfold Z.Uz at q;split at q
 ·rename_i e;cases e;split at q
  ·rename_i hc;cases q;simp only[ak]at r1 r2;subst r1 r2;exact ⟨_,_,rfl,rfl,⟨hc.1,Z.wM.mp hc.2⟩,k ρ H _ .refl R (by simp only[ak])⟩
  ·cases q
 ·cases q)
theorem aa3:bO X (binaryOp .Pow) (λx y=>rP X.K sub .pow [x,y]):=uD aeQ (by
 rintro x y H Q ⟨ρ,h,ds,d,h',R,r,q,k⟩;obtain ⟨d1,d2,rfl,r1,r2⟩:=iU r;change Z.YQ _ _=_ at q;unfold Z.YQ at q;split at q
 ·rename_i e;cases e;split at q
  ·cases q;simp only[ak]at r1 r2;subst r1 r2;exact ⟨_,_,rfl,rfl,by assumption,k ρ H _ .refl R (by simp only[ak])⟩
  ·cases q
 ·cases q)
theorem pX:Ss X (unaryOp .USub) (λx=>rP X.K sub .neg [x]):=λpins s σ H x v Q I rx ⟨ρ,h,ds,d,h',R,r,q,k⟩=>aeR pins s σ H x v Q I rx (by
 obtain ⟨d1,rfl,r1⟩:=wX r;change Z.HS _ _=_ at q;unfold Z.HS at q;split at q
 ·rename_i e;cases e;cases q;simp only[ak]at r1;subst r1;exact ⟨_,rfl,k ρ H _ .refl R (by simp only[ak])⟩
 ·cases q)
theorem Inv.am6 (I:Inv X pins σ H s)(q:G9 X.K H l xs):xs.length<=sizeLine/\∃(its:List Value) (n:Nat),Vals xs its/\s.heap.get? l=some {cls:=.type "list",data:=.seq its.toArray n}:=by
 rcases q with ⟨o,q⟩ | ⟨o,its,n,h1,h2,h3,h4,h5,h6,h7⟩
 ·obtain ⟨z,its,n,r,e⟩:=Rd.ok (.inr ⟨o,q⟩) I.hok;exact ⟨z,its,n,r,e⟩
 ·have:=h6.length;refine ⟨by simp at this;lia,its.toList,n,h6,?_⟩;rw[I.dJ l o h1];obtain ⟨c,dd,da,sl⟩:=o;cases h2;cases h3;cases h4;cases h7;simp
theorem acv:bO X (binaryOp .Add) (λx y H Q=>∃a b ys,x=.ref a/\y=.ref b/\gA X.K H a []/\gA X.K H b ys/\Q (.ref b) H):=by
 intro pins s σ H x y v u Q I rx ry h;obtain ⟨a,b,ys,rfl,rfl,ha,hb,q⟩:=h;cases rx;cases ry;obtain ⟨its,r1,p1,_⟩:=I.tuple ha;obtain ⟨its2,r2,p2,_⟩:=I.tuple hb;obtain ⟨⟨cls,dd,data,sl⟩,ho,hc,n,hd⟩:=id p1;obtain ⟨⟨cls2,dd2,data2,sl2⟩,ho2,hc2,n2,hd2⟩:=id p2;simp only at hc hd hc2 hd2;subst hc hd hc2 hd2;cases r1;exact concat_meets ⟨_,ho,rfl⟩ ⟨_,ho2,rfl⟩ noFill_tuple_add seq_tuple_add slot_tuple_add entry_tuple_add (args_tuple_add_2 _ _)
   (tuple_addW0 a b _ _ n n2 dd dd2 sl sl2 (by simp)) ⟨ho,ho2,⟨.ref b,H,I,rfl,q⟩⟩
theorem acw:bO X (binaryOp .Add) (λx y H Q=>∃l b xs zs,x=.ref l/\y=.ref b/\H l=some (.lst xs)/\G9 X.K H b zs/\xs.length+zs.length<=sizeLine/\∀p,H p=none->Q (.ref p) (upd H p (.lst (xs++zs)))):=by
 intro pins s σ H x y v u Q I rx ry h;obtain ⟨l,b,xs,zs,rfl,rfl,hH,hB,hz,q⟩:=h;cases rx;cases ry;obtain ⟨z,its,n,r,hl,e⟩:=I.Bw hH;obtain ⟨z2,its2,n2,r2,e2⟩:=Inv.am6 I hB;have hl2:=r2.length;refine PySem.P.add_list e e2 ?_ (by rw[size_toArray,size_toArray];lia);have ea:its.toArray++its2.toArray=(its++its2).toArray:=by simp
 rw[ea];exact ⟨.ref _,_,I.Zr (t':=s.toks) (r.append r2) (by rw[length_append];lia),rfl,q _ I.fresh⟩
theorem aO:bO X (binaryOp .Add) (λx y=>rP X.K sub .add [x,y]):=uD (aeM.or (U8.or (ae8.or (ab_.or (acw.or acv))))) (by
 rintro x y H Q ⟨ρ,h,ds,d,h',R,r,q,k⟩;obtain ⟨d1,d2,rfl,r1,r2⟩:=iU r;change Z.KR _ _=_ at q;unfold Z.KR at q;split at q
 ·rename_i e;cases e;cases q;simp only[ak]at r1 r2;subst r1 r2;exact .inl ⟨_,_,rfl,rfl,k ρ H _ .refl R (by simp only[ak])⟩
 ·rename_i s t e;cases e;split at q
  ·rename_i hl;cases q;simp only[ak]at r1 r2;obtain ⟨rfl,l1⟩:=r1;obtain ⟨rfl,l2⟩:=r2;refine .inr (.inl ⟨_,_,rfl,rfl,by rw[gH,gH,<-g8];exact hl,k ρ H _ .refl R ?_⟩);simp only[ak];exact ⟨by rw[Qk],by rw[length_append];exact hl⟩
  ·cases q
 ·rename_i s t e;cases e;split at q
  ·rename_i he;cases q;simp only[ak]at r1 r2;obtain ⟨a,ys,rfl,q1,r1⟩:=r1;obtain ⟨b,zs,rfl,q2,r2⟩:=r2;have hs:s=[]:=by simpa using he
   subst hs;simp only[aq]at r1;subst r1;exact .inr (.inr (.inr (.inr (.inr ⟨a,b,zs,rfl,rfl,q1,q2,k ρ H _ .refl R (by simp only[ak];exact ⟨b,zs,rfl,q2,r2⟩)⟩))))
  ·rename_i hne;split at q
   ·rename_i hl;cases q;simp only[ak]at r1 r2;obtain ⟨a,ys,rfl,q1,r1⟩:=r1;obtain ⟨b,zs,rfl,q2,r2⟩:=r2;refine .inr (.inr (.inr (.inl ⟨a,b,ys,zs,rfl,rfl,q1,q2,?_,by rw[<-r1.length,<-r2.length,<-g8];exact hl,λhz=>?_,λ_ p hp=>?_⟩)))
    ·intro z;subst z;have:=r1.length;simp at this hne;exact hne this
    ·subst hz;have:=r2.length;simp at this;subst this;rw[append_nil]at k;exact k ρ H _ .refl R (by simp only[ak];exact ⟨a,ys,rfl,q1,r1⟩)
    ·have e2:Ext X.K ρ H ρ (upd H p (.tup (ys++zs))):=Ext.fresh hp;exact k ρ _ _ e2 (R.fresh hp) (by simp only[ak];exact ⟨p,_,rfl,.of bJ,aq.mono e2 _ _ (r1.append r2)⟩)
   ·cases q
 ·rename_i a b e;cases e;split at q
  ·rename_i xs ys e1 e2;obtain ⟨l,vs,rfl,_,ha,r1⟩:=dY R r1 e1;obtain ⟨l',vs',rfl,_,hb,r2⟩:=dY R r2 e2;obtain ⟨hl,rfl,rfl⟩:=j_ q;refine .inr (.inr (.inl ⟨l,l',vs,vs',rfl,rfl,ha,hb,by rw[<-r1.length,<-r2.length,<-g8,<-length_append];exact hl,λp hp=>?_⟩));obtain ⟨e2,R2,r2⟩:=fQ R (r1.append r2) hp;exact k _ _ _ e2 R2 r2
  ·cases q
 ·rename_i a ys e;cases e;split at q
  ·rename_i xs e1;obtain ⟨l,vs,rfl,_,ha,r1⟩:=dY R r1 e1;simp only[ak]at r2;obtain ⟨b,zs,rfl,q2,r2⟩:=r2;obtain ⟨hl,rfl,rfl⟩:=j_ q;refine .inr (.inr (.inr (.inr (.inl ⟨l,b,vs,zs,rfl,rfl,ha,q2,by rw[<-r1.length,<-r2.length,<-g8,<-length_append];exact hl,λp hp=>?_⟩))));obtain ⟨e2,R2,r2⟩:=fQ R (r1.append r2) hp;exact k _ _ _ e2 R2 r2
  ·cases q
 ·cases q)
theorem acy {K:PySem.W.Frag}{ρ:List Addr}{H:Hp}{xs:List Z.D}{vs:List V}(n:Nat)(r:aq K ρ H xs vs):aq K ρ H (replicate n xs).flatten (replicate n vs).flatten:=by
 induction n with
 | zero=>simp[aq]
 | succ n ih=>rw[replicate_succ,replicate_succ,flatten_cons,flatten_cons];exact r.append ih
theorem sI:bO X (binaryOp .Mult) (λx y=>rP X.K sub .mul [x,y]):=by
 intro pins s σ H x y v u Q I rx ry ⟨ρ,h,ds,d,h',R,r,q,k⟩;obtain ⟨d1,d2,rfl,r1,r2⟩:=iU r;change Z.YL _ _=_ at q;unfold Z.YL at q;split at q
 ·rename_i i j e;cases e;split at q
  ·rename_i hc;cases q;simp only[ak]at r1 r2;subst r1 r2;rw[or_eq_true]at hc;rcases hc with hc | hc
   ·refine aeO pins s σ H _ _ v u Q I rx ry ⟨_,_,rfl,rfl,?_,k ρ H _ .refl R (by simp only[ak])⟩;rw[or_eq_true]at hc;exact hc.imp (λz=>by have:=Z.wL.mp z;lia) (λz=>by have:=Z.wL.mp z;lia)
   ·rw[and_eq_true]at hc;exact acu pins s σ H _ _ v u Q I rx ry ⟨_,_,rfl,rfl,⟨Z.wM.mp hc.1,Z.wM.mp hc.2⟩,k ρ H _ .refl R (by simp only[ak])⟩
  ·cases q
 ·rename_i a kk e;cases e;split at q
  ·rename_i xs e1;split at q
   ·rename_i hk;obtain ⟨l,vs,rfl,_,ha,r1⟩:=dY R r1 e1;obtain ⟨hl,rfl,rfl⟩:=j_ q;simp only[ak]at r2;subst r2;have hk':=qz hk;have hlen:vs.length * kk.toNat<=sizeLine:=by
     rw[<-r1.length,<-g8,mul_comm];rw[len_rep]at hl;exact hl
    refine ae9 pins s σ H _ _ v u Q I rx ry ⟨l,kk,vs,rfl,rfl,ha,by lia,by lia,hlen,λp hp=>?_⟩;obtain ⟨e2,R2,r2⟩:=fQ R (acy kk.toNat r1) hp;exact k _ _ _ e2 R2 r2
   ·cases q
  ·cases q
 ·cases q
theorem pY:bO X (compareOp .Is) (λx y H Q=>y=.non/\rP X.K sub .rZ [x] H Q):=uD aeS (by
 rintro x y H Q ⟨rfl,ρ,h,ds,d,h',R,r,q,k⟩;obtain ⟨d1,rfl,r1⟩:=wX r;change Z.KY _ _ _=_ at q;unfold Z.KY at q;refine ⟨rfl,?_⟩;split at q
 ·rename_i e;cases e;cases q;simp only[ak]at r1;subst r1;exact k ρ H _ .refl R (by simp only[ak];rfl)
 ·rename_i hn e;cases e;cases q;have hx:x≠.non:=by
   rintro rfl;cases d1<;>simp only[ak]at r1<;>first
    | exact hn rfl
    | (cases r1;done)
    | (obtain ⟨r1,_⟩:=r1;cases r1;done)
    | (obtain ⟨_,_,r1,_⟩:=r1;cases r1;done)
    | (obtain ⟨_,r1,_⟩:=r1;cases r1;done)
  exact k ρ H _ .refl R (by simp only[ak];rw[decide_eq_false hx])
 ·cases q)
theorem acz (I:Inv X pins σ H s)(R:Rep X.K ρ h H)(n:Nat)(d d':Z.D)(v v':V)(b:Bool)(hu:A.units+n < cLine)(r:ak X.K ρ H d v)(r':ak X.K ρ H d' v')(q:RelV v u)(q':RelV v' u')(e:Z.GP n d d'=some b):
  SeqAt.RcNeAt A s u u' (!b):=by
 cases n with
 | zero=>
  cases d<;>cases d'<;>simp only[ak]at r r'<;>first | (cases e;done) | skip
  all_goals cases e
  ·subst r r';cases q;cases q';exact .none_none
  ·subst r r';cases q;cases q';exact .none_bool _
  ·subst r r';cases q;obtain ⟨_,rfl⟩:=q';exact .none_int _ _
  ·obtain ⟨r',_⟩:=r';subst r r';cases q;obtain ⟨_,rfl⟩:=q';exact .none_str _ _
  ·subst r r';cases q;cases q';exact .bool_none _
  ·subst r r';cases q;cases q';exact .bool_bool _ _
  ·obtain ⟨r',_⟩:=r';subst r r';cases q;obtain ⟨_,rfl⟩:=q';exact .bool_str _ _ _
  ·subst r r';cases q';obtain ⟨_,rfl⟩:=q;exact .int_none _ _
  ·subst r r';obtain ⟨_,rfl⟩:=q';obtain ⟨_,rfl⟩:=q;exact .int_int _ _ _ _
  ·obtain ⟨r',_⟩:=r';subst r r';obtain ⟨_,rfl⟩:=q';obtain ⟨_,rfl⟩:=q;exact .int_str _ _ _ _
  ·obtain ⟨r,_⟩:=r;subst r r';cases q';obtain ⟨_,rfl⟩:=q;exact .str_none _ _
  ·obtain ⟨r,_⟩:=r;subst r r';cases q';obtain ⟨_,rfl⟩:=q;exact .str_bool _ _ _
  ·obtain ⟨r,_⟩:=r;subst r r';obtain ⟨_,rfl⟩:=q';obtain ⟨_,rfl⟩:=q;exact .str_int _ _ _ _
  ·obtain ⟨r,_⟩:=r;obtain ⟨r',_⟩:=r';subst r r';obtain ⟨_,rfl⟩:=q';obtain ⟨_,rfl⟩:=q;rw[<-j9];exact .str_str _ _ _ _
 | succ n=>
  have hu':A.units < cLine:=by lia
  cases d<;>cases d'<;>simp only[ak]at r r'<;>first | (cases e;done) | skip
  ·cases e;subst r r';cases q;cases q';exact .none_none
  ·cases e;subst r r';cases q;cases q';exact .none_bool _
  ·cases e;subst r r';cases q;obtain ⟨_,rfl⟩:=q';exact .none_int _ _
  ·cases e;obtain ⟨r',_⟩:=r';subst r r';cases q;obtain ⟨_,rfl⟩:=q';exact .none_str _ _
  ·cases e;obtain ⟨a,ys,r',hq,_⟩:=r';subst r r';cases q;cases q';obtain ⟨its,_,it,_⟩:=I.tuple hq;exact .none_tuple (show s.heap.IsTuple a its.toArray from it) hu'
  ·cases e;subst r r';cases q;cases q';exact .bool_none _
  ·cases e;subst r r';cases q;cases q';exact .bool_bool _ _
  ·cases e;obtain ⟨r',_⟩:=r';subst r r';cases q;obtain ⟨_,rfl⟩:=q';exact .bool_str _ _ _
  ·cases e;obtain ⟨a,ys,r',hq,_⟩:=r';subst r r';cases q;cases q';obtain ⟨its,_,it,_⟩:=I.tuple hq;exact .bool_tuple _ (show s.heap.IsTuple a its.toArray from it) hu'
  ·cases e;subst r r';cases q';obtain ⟨_,rfl⟩:=q;exact .int_none _ _
  ·cases e;subst r r';obtain ⟨_,rfl⟩:=q';obtain ⟨_,rfl⟩:=q;exact .int_int _ _ _ _
  ·cases e;obtain ⟨r',_⟩:=r';subst r r';obtain ⟨_,rfl⟩:=q';obtain ⟨_,rfl⟩:=q;exact .int_str _ _ _ _
  ·cases e;obtain ⟨a,ys,r',hq,_⟩:=r';subst r r';obtain ⟨_,rfl⟩:=q;cases q';obtain ⟨its,_,it,_⟩:=I.tuple hq;exact .int_tuple _ _ (show s.heap.IsTuple a its.toArray from it) hu'
  ·cases e;obtain ⟨r,_⟩:=r;subst r r';cases q';obtain ⟨_,rfl⟩:=q;exact .str_none _ _
  ·cases e;obtain ⟨r,_⟩:=r;subst r r';cases q';obtain ⟨_,rfl⟩:=q;exact .str_bool _ _ _
  ·cases e;obtain ⟨r,_⟩:=r;subst r r';obtain ⟨_,rfl⟩:=q';obtain ⟨_,rfl⟩:=q;exact .str_int _ _ _ _
  ·cases e;obtain ⟨r,_⟩:=r;obtain ⟨r',_⟩:=r';subst r r';obtain ⟨_,rfl⟩:=q';obtain ⟨_,rfl⟩:=q;rw[<-j9];exact .str_str _ _ _ _
  ·cases e;obtain ⟨a,ys,r',hq,_⟩:=r';obtain ⟨r,_⟩:=r;subst r r';obtain ⟨_,rfl⟩:=q;cases q';obtain ⟨its,_,it,_⟩:=I.tuple hq;exact .str_tuple _ _ (show s.heap.IsTuple a its.toArray from it) hu'
  ·cases e;obtain ⟨a,ys,r,hq,_⟩:=r;subst r r';cases q;cases q';obtain ⟨its,_,it,_⟩:=I.tuple hq;exact .tuple_none (show s.heap.IsTuple a its.toArray from it) hu'
  ·cases e;obtain ⟨a,ys,r,hq,_⟩:=r;subst r r';cases q;cases q';obtain ⟨its,_,it,_⟩:=I.tuple hq;exact .tuple_bool _ (show s.heap.IsTuple a its.toArray from it) hu'
  ·cases e;obtain ⟨a,ys,r,hq,_⟩:=r;subst r r';cases q;obtain ⟨_,rfl⟩:=q';obtain ⟨its,_,it,_⟩:=I.tuple hq;exact .tuple_int _ _ (show s.heap.IsTuple a its.toArray from it) hu'
  ·cases e;obtain ⟨a,ys,r,hq,_⟩:=r;obtain ⟨r',_⟩:=r';subst r r';cases q;obtain ⟨_,rfl⟩:=q';obtain ⟨its,_,it,_⟩:=I.tuple hq;exact .tuple_str _ _ (show s.heap.IsTuple a its.toArray from it) hu'
  ·rename_i xs xs';obtain ⟨a,ys,e1,hq,rs⟩:=r;obtain ⟨a',ys',e2,hq',rs'⟩:=r';subst e1 e2;cases q;cases q';obtain ⟨its,vv,it,_⟩:=I.tuple hq;obtain ⟨its',M4,it',_⟩:=I.tuple hq';obtain ⟨ee,h1,h2⟩:=K7 e;have hlen:its.toArray.size=xs.length:=by rw[size_toArray,<-vv.length,<-rs.length]
   have hlen':its'.toArray.size=xs'.length:=by rw[size_toArray,<-M4.length,<-rs'.length]
   have at':=Io (A:=A.in1) rs rs' vv M4 h1 (λx x' y y' u u' b hx hx' hy hy' hb=>(qC I R n A.in1 x x' y y' u u' b (by show A.units+1+n < cLine;lia) hx hx' hy hy' hb).2);have:=SeqAt.RcNeAt.tuples (A:=A) (show s.heap.IsTuple a its.toArray from it) (show s.heap.IsTuple a' its'.toArray from it') hu' at';rw[hlen,hlen',<-h2]at this;exact this
theorem Xa (e:Z.o8 h d1 d2=some b):Z.GP 150 d1 d2=some b\/∃a c xs ys,d1=.ref a/\d2=.ref c/\h[a]?=some (.lst xs)/\h[c]?=some (.lst ys)/\Z.KD xs ys=some b:=by
 unfold Z.o8 at e;split at e
 ·rename_i a c;split at e
  ·rename_i xs ys e1 e2;exact .inr ⟨a,c,xs,ys,rfl,rfl,e1,e2,e⟩
  ·cases e
 ·exact .inl e
theorem Xb {neg:Bool}(hu:X.A.units+200 < cLine):bO X (compareOp (if neg then .NotEq else .Eq)) (λx y=>rP X.K sub (if neg then .ne else .eq) [x,y]):=by
 intro pins s σ H x y v u Q I rx ry ⟨ρ,h,ds,d,h',R,r,q,k⟩;obtain ⟨d1,d2,rfl,r1,r2⟩:=iU r;have q':Z.R9 neg [d1,d2] h=some (d,h'):=by cases neg<;>exact q
 unfold Z.R9 at q';cases e:Z.o8 h d1 d2 with
 | none=>simp only[e]at q';cases q'
 | some b=>
  simp only[e]at q';cases q';have fin:EP X pins σ Q (.bool (b != neg)) s:=⟨.bl (b != neg),H,I,rfl,k ρ H _ .refl R (by simp only[ak])⟩
  rcases Xa e with e | ⟨a,c,xs,ys,rfl,rfl,e1,e2,e⟩
  ·cases neg with
   | false=>rw[bne_false]at fin;exact (qC I R 150 X.A d1 d2 x y v u b (by lia) r1 r2 rx ry e).1 _ _ _ _ fin
   | true=>rw[bne_true]at fin;exact acz I R 150 d1 d2 x y b (by lia) r1 r2 rx ry e _ _ _ _ fin
  ·obtain ⟨l,vs,rfl,_,ha,r1⟩:=dY R r1 e1;obtain ⟨l',vs',rfl,_,hb,r2⟩:=dY R r2 e2;cases rx;cases ry;obtain ⟨its,vv,pl,_⟩:=I.list (.of ha);obtain ⟨its',M4,pl',_⟩:=I.list (.of hb);have hlen:its.toArray.size=xs.length:=by rw[size_toArray,<-vv.length,<-r1.length]
   have hlen':its'.toArray.size=ys.length:=by rw[size_toArray,<-M4.length,<-r2.length]
   unfold Z.KD at e;split at e
   ·rename_i hl;obtain ⟨ee,h1,h2⟩:=K7 e;have at':=Io (A:=X.A.in1) r1 r2 vv M4 h1 (λx x' y y' u u' b hx hx' hy hy' hb=>(qC I R 149 X.A.in1 x x' y y' u u' b (by show X.A.units+1+149 < cLine;lia) hx hx' hy hy' hb).2);have hb':b=(List.range its.toArray.size).all ee:=by
     rw[h2,hlen,hl,Nat.min_self];simp
    cases neg with
    | false=>rw[bne_false,hb']at fin;exact SeqAt.RcAt.lists pl.isList pl'.isList (by rw[hlen,hlen',hl]) (by lia) at' _ _ _ _ fin
    | true=>rw[bne_true,hb']at fin;exact SeqAt.RcNeAt.lists pl.isList pl'.isList (by rw[hlen,hlen',hl]) (by lia) at' _ _ _ _ fin
   ·rename_i hl;cases e;cases neg with
    | false=>exact SeqAt.RcAt.lists_lengths pl.isList pl'.isList (by rw[hlen,hlen'];simp[hl]) (by lia) _ _ _ _ fin
    | true=>exact SeqAt.RcNeAt.lists_lengths pl.isList pl'.isList (by rw[hlen,hlen'];simp[hl]) (by lia) _ _ _ _ fin
theorem cg (hu:X.A.units+200 < cLine):bO X (compareOp .Eq) (λx y=>rP X.K sub .eq [x,y]):=Xb (neg:=false) hu
theorem qD (hu:X.A.units+200 < cLine):bO X (compareOp .NotEq) (λx y=>rP X.K sub .ne [x,y]):=Xb (neg:=true) hu
section
variable {pins:List (Addr×Obj)}{σ:L2.St}{H:Hp}{s:Shared}{ρ:List Addr}{h:Z.AH}
theorem ZG:∀{ys:List Z.D} {b:Bool},Z.dW x ys=some b->∃e:Nat->Bool,(∀(j:Nat) y,ys[j]?=some y->Z.GP 149 y x=some (e j))/\b=(List.range ys.length).any e:=by
 intro ys
 induction ys with
 | nil=>intro b h;simp only[Z.dW]at h;cases h;exact ⟨λ_=>true,λj y h=>by simp at h,by simp⟩
 | cons y ys ih=>
  intro b h;simp only[Z.dW]at h;split at h
  ·rename_i a c ea ec;cases h;obtain ⟨e,h1,h2⟩:=ih ec;refine ⟨λj=>match j with | 0=>a | j+1=>e j,λj y' hy=>?_,?_⟩
   ·cases j with
    | zero=>simp at hy;subst hy;exact ea
    | succ j=>exact h1 j y' (by simpa using hy)
   ·rw[h2,length_cons,List.range_succ_eq_map,any_cons,List.any_map];rfl
  ·cases h
theorem K8 {A:Around}{its:List Value}(I:Inv X pins σ H s)(R:Rep X.K ρ h H)(hu:A.units+200 < cLine)(r1:ak X.K ρ H d1 x)(rx:RelV x v)(rs:aq X.K ρ H ys vs)(vv:Vals vs its)(e:Z.dW d1 ys=some b):
  ∃f:Value->Bool,(∀y,y∈its.toArray->SeqAt.EqAt A.in1 s y v (f y))/\its.toArray.any f=b:=by
 obtain ⟨g,h1,h2⟩:=ZG e;have at_:∀(j:Nat) (u:Value),its[j]?=some u->SeqAt.EqAt A.in1 s u v (g j):=λj u hj=>by
  have hl:j < ys.length:=by rw[rs.length,vv.length];exact (List.getElem?_eq_some_iff.mp hj).1
  obtain ⟨y,ey,ry⟩:=rs.get (i:=j) (x:=ys[j]) (by simp[hl]);obtain ⟨u',eu,ru⟩:=vv.get ey;rw[hj]at eu;cases eu;exact (qC I R 149 A.in1 ys[j] d1 y x u v (g j) (by show A.units+1+149 < cLine;lia) ry r1 ru rx (h1 j _ (by simp[hl]))).2
 have one:∀(i j:Nat) (u:Value),its[i]?=some u->its[j]?=some u->g i=g j:=λi j u hi hj=>by
  have li:i < ys.length:=by rw[rs.length,vv.length];exact (List.getElem?_eq_some_iff.mp hi).1
  have lj:j < ys.length:=by rw[rs.length,vv.length];exact (List.getElem?_eq_some_iff.mp hj).1
  obtain ⟨y,ey,ry⟩:=rs.get (i:=i) (x:=ys[i]) (by simp[li]);obtain ⟨y',ey',ry'⟩:=rs.get (i:=j) (x:=ys[j]) (by simp[lj]);obtain ⟨u',eu,ru⟩:=vv.get ey;rw[hi]at eu;cases eu;obtain ⟨u',eu,ru'⟩:=vv.get ey';rw[hj]at eu;cases eu;have:=ru.inj ru';subst this;have ed:=ak.inj I R _ _ _ ry ry';have a:=h1 i _ (show ys[i]?=some ys[i] by simp[li]);have c:=h1 j _ (show ys[j]?=some ys[j] by simp[lj]);rw[ed,c]at a;exact (Option.some.inj a).symm
 classical
 refine ⟨λu=>if hu:∃j:Nat,its[j]?=some u then g (Classical.choose hu) else false,λy hy=>?_,?_⟩
 ·obtain ⟨j,hj,ej⟩:=getElem_of_mem (List.mem_toArray.mp hy);have ex:∃j:Nat,its[j]?=some y:=⟨j,by rw[getElem?_eq_getElem hj,ej]⟩
  show SeqAt.EqAt _ _ _ _ (if hu:∃j:Nat,its[j]?=some y then g (Classical.choose hu) else false);rw[dif_pos ex];exact at_ _ _ (choose_spec ex)
 ·rw[h2,List.any_toArray];have hlen:ys.length=its.length:=by rw[rs.length,vv.length]
  apply Bool.eq_iff_iff.mpr;rw[List.any_eq_true,List.any_eq_true];constructor
  ·rintro ⟨u,hu',hf⟩;obtain ⟨j,hj,ej⟩:=getElem_of_mem hu';have ex:∃j:Nat,its[j]?=some u:=⟨j,by rw[getElem?_eq_getElem hj,ej]⟩
   rw[dif_pos ex]at hf;refine ⟨j,mem_range.mpr (by rw[hlen];exact hj),?_⟩;rw[one j _ u (by rw[getElem?_eq_getElem hj,ej]) (choose_spec ex)];exact hf
  ·rintro ⟨j,hj,hg⟩;have hj':j < its.length:=by rw[<-hlen];exact mem_range.mp hj
   have ex:∃i:Nat,its[i]?=some its[j]:=⟨j,by simp[hj']⟩
   refine ⟨its[j],getElem_mem hj',?_⟩;rw[dif_pos ex,<-one j _ its[j] (by simp[hj']) (choose_spec ex)];exact hg
end
theorem S5 (h:gC a=gC b):a=b:=by
 cases a<;>cases b<;>simp only[gC]at h
 ·cases h;rfl
 ·cases h
 ·cases h
 ·injection h with h
  injection h with h
  rw[toArray_inj h]
theorem S6 (a b:Z.KK):decide (gC a=gC b)=decide (a=b):=by
 by_cases e:a=b
 ·subst e;simp
 ·rw[decide_eq_false e,decide_eq_false λq=>e (S5 q)]
theorem Ql {K:PySem.W.Frag}{ρ:List Addr}{H:Hp}{d:Z.D}{k:Z.KK}{v:V}(e:Z.wI d=some k)(r:ak K ρ H d v):v=kV (gC k)/\∀s,k=Sum.inr s->s.length<=Z.lim:=by
 cases d<;>simp only[Z.wI]at e<;>first | (cases e;done) | skip
 ·cases e;simp only[ak]at r;subst r;exact ⟨rfl,λs z=>by cases z⟩
 ·cases e;simp only[ak]at r;obtain ⟨rfl,l⟩:=r;exact ⟨rfl,λs z=>by cases z;exact l⟩
theorem K9 {K:PySem.W.Frag}{ρ:List Addr}{H:Hp}(k:Z.KK):∀(kvs:List (Z.KK×Z.D)) (kvs':List (Key×V)),kvs'.map (·.1)=kvs.map (λp=>gC p.1)->aq K ρ H (kvs.map (·.2)) (kvs'.map (·.2))->
  match Z.Bg kvs k with
  | some d=>∃v,jA kvs' (gC k)=some v/\ak K ρ H d v
  | none=>jA kvs' (gC k)=none
 | [],kvs',h1,h2=>by
  cases kvs' with
  | nil=>rfl
  | cons _ _=>cases h1
 | (k1,d1)::kvs,kvs',h1,h2=>by
  cases kvs' with
  | nil=>cases h1
  | cons p kvs'=>
   obtain ⟨k2,v2⟩:=p;simp only[map_cons,List.cons.injEq]at h1;obtain ⟨rfl,h1⟩:=h1;simp only[map_cons,aq]at h2;obtain ⟨y,t,e,r1,r2⟩:=h2;cases e;have ih:=K9 k kvs kvs' h1 r2;unfold Z.Bg jA at ih ⊢;rw[find?_cons,find?_cons,S6];by_cases e:k1=k
   ·subst e;simp;exact r1
   ·simp only[decide_eq_false e];exact ih
theorem acA {K:PySem.W.Frag}{ρ:List Addr}{H:Hp}(k:Z.KK){d:Z.D}{v:V}(r:ak K ρ H d v)(kvs:List (Z.KK×Z.D))(kvs':List (Key×V))(h1:kvs'.map (·.1)=kvs.map (λp=>gC p.1))(h2:aq K ρ H (kvs.map (·.2)) (kvs'.map (·.2))):
  (putK kvs' (gC k) v).map (·.1)=(Z.KH kvs k d).map (λp=>gC p.1)/\aq K ρ H ((Z.KH kvs k d).map (·.2)) ((putK kvs' (gC k) v).map (·.2)):=by
 have any_eq:∀(kvs:List (Z.KK×Z.D)) (kvs':List (Key×V)),kvs'.map (·.1)=kvs.map (λp=>gC p.1)->(kvs'.any λkv=>decide (kv.1=gC k))=kvs.any λkv=>decide (kv.1=k):=by
  intro kvs
  induction kvs with
  | nil=>intro kvs' h;cases kvs' with
   | nil=>rfl
   | cons _ _=>cases h
  | cons p kvs ih=>intro kvs' h;cases kvs' with
   | nil=>cases h
   | cons q kvs'=>
    simp only[map_cons,List.cons.injEq]at h;rw[any_cons,any_cons,ih _ h.2,h.1,S6]
 have map_eq:∀(kvs:List (Z.KK×Z.D)) (kvs':List (Key×V)),kvs'.map (·.1)=kvs.map (λp=>gC p.1)->aq K ρ H (kvs.map (·.2)) (kvs'.map (·.2))->
   (kvs'.map (λkv=>if kv.1=gC k then (kv.1,v) else kv)).map (·.1)=(kvs.map (λkv=>if kv.1=k then (kv.1,d) else kv)).map (λp=>gC p.1)/\
   aq K ρ H ((kvs.map (λkv=>if kv.1=k then (kv.1,d) else kv)).map (·.2)) ((kvs'.map (λkv=>if kv.1=gC k then (kv.1,v) else kv)).map (·.2)):=by
  intro kvs
  induction kvs with
  | nil=>intro kvs' h h';cases kvs' with
   | nil=>exact ⟨rfl,by simp[aq]⟩
   | cons _ _=>cases h
  | cons p kvs ih=>intro kvs' h h';cases kvs' with
   | nil=>cases h
   | cons q kvs'=>
    obtain ⟨k1,d1⟩:=p;obtain ⟨k2,v2⟩:=q;simp only[map_cons,List.cons.injEq]at h;obtain ⟨rfl,h⟩:=h;simp only[map_cons,aq]at h';obtain ⟨y,t,e,r1,r2⟩:=h';cases e;obtain ⟨i1,i2⟩:=ih kvs' h r2;simp only[map_cons,aq];by_cases e:k1=k
    ·subst e;simp only[if_true];exact ⟨by rw[i1],v,_,rfl,r,i2⟩
    ·rw[if_neg e,if_neg λz=>e (S5 z)];exact ⟨by rw[i1],v2,_,rfl,r1,i2⟩
 unfold putK Z.KH;rw[any_eq kvs kvs' h1];by_cases ha:(kvs.any λkv=>decide (kv.1=k))=true
 ·rw[if_pos ha,if_pos ha];exact map_eq kvs kvs' h1 h2
 ·rw[if_neg ha,if_neg ha];rw[map_append,map_append,map_append,map_append,h1];exact ⟨rfl,h2.append (.one r)⟩
theorem ZJ {k:Z.KK}{d:Z.D}{kvs:List (Z.KK×Z.D)}{P:Z.KK->Prop}(hk:P k)(h:∀p∈kvs,P p.1):∀p∈Z.KH kvs k d,P p.1:=by
 intro p hp;unfold Z.KH at hp;split at hp
 ·obtain ⟨q,hq,rfl⟩:=mem_map.mp hp;split
  ·exact h q hq
  ·exact h q hq
 ·rcases mem_append.mp hp with hp | hp
  ·exact h p hp
  ·rw[mem_singleton.mp hp];exact hk
theorem aa5 {neg:Bool}(hu:X.A.units+200 < cLine):bO X (compareOp (if neg then .NotIn else .In)) (λx y=>rP X.K sub (if neg then .lE else .GQ) [x,y]):=by
 intro pins s σ H x y v u Q I rx ry ⟨ρ,h,ds,d,h',R,r,q,k⟩;obtain ⟨d1,d2,rfl,r1,r2⟩:=iU r;have q':Z.Mq neg [d1,d2] h=some (d,h'):=by cases neg<;>exact q
 unfold Z.Mq at q';split at q'
 ·rename_i e;cases e;rename_i ys;cases e:Z.dW d1 ys with
  | none=>rw[e]at q';cases q'
  | some b=>
   rw[e]at q';cases q';simp only[ak]at r2;obtain ⟨a,vs,rfl,hq,rs⟩:=r2;cases ry;obtain ⟨its,vv,it,_⟩:=I.tuple hq;obtain ⟨f,f1,f2⟩:=K8 I R hu r1 rx rs vv e;have fin:EP X pins σ Q (.bool (b != neg)) s:=⟨.bl (b != neg),H,I,rfl,k ρ H _ .refl R (by simp only[ak])⟩
   cases neg with
   | false=>exact SeqAt.in_tupleAt f (show s.heap.IsTuple a its.toArray from it) f1 (by rw[f2];rw[bne_false]at fin;exact fin)
   | true=>exact SeqAt.notIn_tupleAt f (show s.heap.IsTuple a its.toArray from it) f1 (by rw[f2];rw[bne_true]at fin;exact fin)
 ·rename_i e;cases e;rename_i ys;cases e:Z.dW d1 ys with
  | none=>rw[e]at q';cases q'
  | some b=>
   rw[e]at q';cases q';simp only[ak]at r2;obtain ⟨a,vs,rfl,hq,rs⟩:=r2;cases ry;obtain ⟨its,vv,it,_⟩:=I.list hq.BL;obtain ⟨f,f1,f2⟩:=K8 I R hu r1 rx rs vv e;have fin:EP X pins σ Q (.bool (b != neg)) s:=⟨.bl (b != neg),H,I,rfl,k ρ H _ .refl R (by simp only[ak])⟩
   cases neg with
   | false=>exact SeqAt.in_listAt f it.isList f1 (by rw[f2];rw[bne_false]at fin;exact fin)
   | true=>exact SeqAt.notIn_listAt f it.isList f1 (by rw[f2];rw[bne_true]at fin;exact fin)
 ·rename_i e;cases e;rename_i n;split at q'
  ·rename_i ys e1;cases e:Z.dW d1 ys with
   | none=>rw[e]at q';cases q'
   | some b=>
    rw[e]at q';cases q';obtain ⟨a,vs,rfl,_,hq,rs⟩:=dY R r2 e1;cases ry;obtain ⟨its,vv,it,_⟩:=I.list (.of hq);obtain ⟨f,f1,f2⟩:=K8 I R hu r1 rx rs vv e;have fin:EP X pins σ Q (.bool (b != neg)) s:=⟨.bl (b != neg),H,I,rfl,k ρ H _ .refl R (by simp only[ak])⟩
    cases neg with
    | false=>exact SeqAt.in_listAt f it.isList f1 (by rw[f2];rw[bne_false]at fin;exact fin)
    | true=>exact SeqAt.notIn_listAt f it.isList f1 (by rw[f2];rw[bne_true]at fin;exact fin)
  ·rename_i kvs e1;cases e:Z.wI d1 with
   | none=>rw[e]at q';cases q'
   | some kk=>
    rw[e]at q';cases q';obtain ⟨a,kvs',rfl,_,hq,hk,rs,_⟩:=JC R r2 e1;obtain ⟨rfl,_⟩:=Ql e r1;cases ry;have vr:=K9 (K:=X.K) (ρ:=ρ) (H:=H) kk kvs kvs' hk rs;have his:(jA kvs' (gC kk)).isSome=(Z.Bg kvs kk).isSome:=by
     cases e:Z.Bg kvs kk with
     | none=>rw[e]at vr;rw[vr];rfl
     | some d=>rw[e]at vr;obtain ⟨v,e',_⟩:=vr;rw[e'];rfl
    have fin:Q (.bl ((Z.Bg kvs kk).isSome != neg)) H:=k ρ H _ .refl R (by simp only[ak]);have g:uz H a (kV (gC kk)) (jA kvs' (gC kk)):=uz.k hq;cases neg with
    | false=>exact am2 (by lia) I g rx λs' I'=>⟨.bl _,H,I',rfl,by rw[his];rw[bne_false]at fin;exact fin⟩
    | true=>exact ach (by lia) I g rx λs' I'=>⟨.bl _,H,I',rfl,by rw[his];rw[bne_true]at fin;exact fin⟩
  ·cases q'
 ·cases q'
theorem K_ (hu:X.A.units+200 < cLine):bO X (compareOp .In) (λx y=>rP X.K sub .GQ [x,y]):=aa5 (neg:=false) hu
theorem FZ (hu:X.A.units+200 < cLine):bO X (compareOp .NotIn) (λx y=>rP X.K sub .lE [x,y]):=aa5 (neg:=true) hu
theorem La {K:PySem.W.Frag}{ρ:List Addr}{H:Hp}{xs:List Z.D}{ys:List V}{i:Int}{d:Z.D}(r:aq K ρ H xs ys)(e:Z.bT xs i=some d):∃v,bT ys i=some v/\ak K ρ H d v:=by
 unfold Z.bT at e;cases ej:Z.lD xs.length i with
 | none=>rw[ej]at e;cases e
 | some j=>
  rw[ej]at e;obtain ⟨v,e1,e2⟩:=r.get (i:=j) e;refine ⟨v,?_,e2⟩;unfold bT;rw[<-r.length];show (Z.lD xs.length i).bind _=_;rw[ej];exact e1
theorem aiQ (hu:X.A.units+200 < cLine):uY X (λx y=>rP X.K sub .idx [x,y]):=by
 intro value slice pins s σ H x y v u Q I rx ry ⟨ρ,h,ds,d,h',R,r,q,k⟩ hs;obtain ⟨d1,d2,rfl,r1,r2⟩:=iU r;change Z.YT _ _=_ at q;unfold Z.YT at q;split at q
 ·rename_i a i e;cases e;cases e:Z.bT a i with
  | none=>rw[e]at q;cases q
  | some c=>
   rw[e]at q;cases q;simp only[ak]at r1 r2;obtain ⟨rfl,hl⟩:=r1;subst r2;refine Jw value slice pins s σ H _ _ v u Q I rx ry (.inr (.inr ⟨_,i,c,rfl,rfl,by rw[gH,<-g8];exact hl,e,k ρ H _ .refl R ?_⟩)) hs;unfold ak;exact ⟨rfl,by show 1<=16777216;decide⟩
 ·rename_i xs i e;cases e;cases e:Z.bT xs i with
  | none=>rw[e]at q;cases q
  | some c=>
   rw[e]at q;cases q;simp only[ak]at r1 r2;obtain ⟨a,ys,rfl,hq,rs⟩:=r1;subst r2;obtain ⟨w,e1,e2⟩:=La rs e;exact Jw value slice pins s σ H _ _ v u Q I rx ry (.inr (.inl ⟨a,ys,i,w,rfl,rfl,hq,e1,k ρ H _ .refl R e2⟩)) hs
 ·rename_i xs i e;cases e;cases e:Z.bT xs i with
  | none=>rw[e]at q;cases q
  | some c=>
   rw[e]at q;cases q;simp only[ak]at r1 r2;obtain ⟨a,ys,rfl,hq,rs⟩:=r1;subst r2;obtain ⟨w,e1,e2⟩:=La rs e;exact Jw value slice pins s σ H _ _ v u Q I rx ry (.inl ⟨a,ys,i,w,rfl,rfl,hq.BL,e1,k ρ H _ .refl R e2⟩) hs
 ·rename_i n kd e;cases e;split at q
  ·rename_i kvs e1;cases e:Z.wI d2 with
   | none=>rw[e]at q;cases q
   | some kk=>
    rw[e]at q;cases e':Z.Bg kvs kk with
    | none=>simp[e']at q
    | some dv=>
     simp[e']at q;obtain ⟨rfl,rfl⟩:=q;obtain ⟨a,kvs',rfl,_,hq,hk,rs,_⟩:=JC R r1 e1;obtain ⟨rfl,_⟩:=Ql e r2;cases rx;have vr:=K9 (K:=X.K) (ρ:=ρ) (H:=H) kk kvs kvs' hk rs;rw[e']at vr;obtain ⟨w,ew,Bv⟩:=vr;have g:uz H a (kV (gC kk)) (some w):=by rw[<-ew];exact uz.k hq
     exact tail_any (RJ I g) PySem.F.slot_dict_getitem.lookup (W0 (by lia) I g ry λw' s3 I3 am7=>⟨w,H,I3,am7,k ρ H _ .refl R Bv⟩) hs
  ·rename_i xs e1;split at q
   ·rename_i i;cases e:Z.bT xs i with
    | none=>rw[e]at q;cases q
    | some c=>
     rw[e]at q;cases q;obtain ⟨a,ys,rfl,_,hq,rs⟩:=dY R r1 e1;simp only[ak]at r2;subst r2;obtain ⟨w,e1,e2⟩:=La rs e;exact Jw value slice pins s σ H _ _ v u Q I rx ry (.inl ⟨a,ys,i,w,rfl,rfl,.of hq,e1,k ρ H _ .refl R e2⟩) hs
   ·cases q
  ·cases q
 ·cases q
end
section
variable {X:Cx}{sub:Nat->Nat->Bool}{Γ:Z.dB}{E:Z.PX}
theorem Qn (n d:Nat)(o:Option Int):HT.bG n d o=Z.bG n d o:=by
 cases o with
 | none=>rfl
 | some v=>
  unfold HT.bG Z.bG;dsimp only;split<;>lia
theorem Xc (a b:Nat):sliceRange (a:Int) (b:Int) 1=(List.range (b - a)).map λm=>a+m:=by
 unfold sliceRange;have e:(if (1:Int) > 0 then (if (a:Int) < b then ((b:Int) - a+1 - 1) / 1 else 0) else (if (a:Int) > b then ((a:Int) - b - 1 - 1) / (-1) else 0)).toNat=b - a:=by
  rw[if_pos (by decide)];split
  ·rw[ediv_one];lia
  ·lia
 show List.map _ (List.range (toNat _))=_;rw[e];apply List.map_congr_left;intro m _
 lia
theorem idx_eq (lo hi:Option Int)(n:Nat):Builtin.Str.strSliceIndices lo hi 1 n=(List.range (Z.bG n n hi - Z.bG n 0 lo)).map λm=>Z.bG n 0 lo+m:=by
 rw[<-Xc];unfold Builtin.Str.strSliceIndices;dsimp only;congr 1
 ·cases lo with
  | none=>simp[Z.bG]
  | some v=>
   simp only[Z.bG];rw[if_pos (by decide)];split<;>lia
 ·cases hi with
  | none=>simp[Z.bG]
  | some v=>
   simp only[Z.bG];rw[if_pos (by decide)];split<;>lia
theorem S7 {α:Type}:∀(k i:Nat) (s:List α),((List.range k).map λm=>i+m).filterMap (λj=>s[j]?)=(s.drop i).take k
 | 0,i,s=>by simp
 | k+1,i,s=>by
  rw[range_succ,map_append,List.filterMap_append,S7 k i s,take_succ];congr 1;simp only[map_cons,map_nil,filterMap_cons,List.filterMap_nil];rw[getElem?_drop];cases s[i+k]?<;>rfl
theorem afr (s:List Nat)(lo hi:Option Int):((Builtin.Str.strSliceIndices lo hi 1 s.length).filterMap λi=>s[i]?)=Z.cut s lo hi:=by
 rw[idx_eq,S7];rfl
theorem Xd {α:Type}(s:List α)(lo hi:Option Int):(Z.cut s lo hi).length<=s.length:=by
 unfold Z.cut;rw[length_take,length_drop]
 lia
theorem Ju (n d:Nat)(hd:d<=n)(o:Option Int):Z.bG n d o<=n:=by
 rw[<-Qn];exact HT.Ju n d hd o
theorem ZK {α:Type}(s:List α)(lo hi:Option Int)(h:Z.bG s.length s.length hi - Z.bG s.length 0 lo=s.length):Z.cut s lo hi=s:=by
 have h1:=Ju s.length s.length (le_refl _) hi;unfold Z.cut;by_cases h0:Z.bG s.length 0 lo=0
 ·rw[h,h0,drop_zero,take_length]
 ·have:s.length=0:=by lia
  rw[length_eq_zero_iff.mp this];simp
theorem afs:xQ X (λx lo hi H Q=>∃z:List Nat,x=.str ⟨z.toArray⟩/\z.length<=Z.lim/\Q (.str ⟨(Z.cut z lo hi).toArray⟩) H):=by
 intro pins s σ H x v vl vu lo hi sl Q I rx hs pl pu h;obtain ⟨z,rfl,hz,q⟩:=h;obtain ⟨t,rfl⟩:=rx;refine ⟨"str",_,F.slot_str_getitem.lookup,typeIs_str s _ t,?_⟩;obtain ⟨l',e1,e2⟩:∃l':Option (Int×Tok),vl=partValue l'/\l'.map (·.1)=lo:=by
  cases pl with
  | none=>exact ⟨none,rfl,rfl⟩
  | int i t=>exact ⟨some (i,t),rfl,rfl⟩
 obtain ⟨u',e3,e4⟩:∃l':Option (Int×Tok),vu=partValue l'/\l'.map (·.1)=hi:=by
  cases pu with
  | none=>exact ⟨none,rfl,rfl⟩
  | int i t=>exact ⟨some (i,t),rfl,rfl⟩
 subst e1 e3;refine wpAny_getItem_str_slice (l:=l') (u:=u') (st:=none) hs rfl ?_;have hp:slicePicked ⟨z.toArray⟩ l' u' none=Builtin.Str.strSliceIndices lo hi 1 z.length:=by
  unfold slicePicked;rw[e2,e4,gH];rfl
 have hc:((slicePicked ⟨z.toArray⟩ l' u' none).filterMap ((⟨z.toArray⟩:Str).cps[·]?))=Z.cut z lo hi:=by
  rw[hp,<-afr];congr 1;funext i;simp
 unfold sliceMade;split
 ·rename_i hw;have hl:(slicePicked ⟨z.toArray⟩ l' u' none).length=z.length:=by
   rw[and_eq_true]at hw;have:=beq_iff_eq.mp hw.2;rw[this,gH]
  have hz:Z.cut z lo hi=z:=by
   rw[hp,idx_eq,length_map,length_range]at hl;exact ZK z lo hi hl
  show EP X pins σ Q (.str ⟨z.toArray⟩ t) s;exact ⟨.str ⟨z.toArray⟩,H,I,⟨t,rfl⟩,by rw[hz]at q;exact q⟩
 ·rw[hc];refine ⟨by rw[gH,<-g8];exact le_trans (Xd z lo hi) hz,.str ⟨(Z.cut z lo hi).toArray⟩,H,I.tok _,⟨_,rfl⟩,q⟩
def rPs (K:PySem.W.Frag)(x:V)(lo hi:Option Int)(H:Hp)(Q:VK):Prop:=∃ρ h d e h',Rep K ρ h H/\ak K ρ H d x/\Z.dg d lo hi h=some (e,h')/\
 ∀ρ' H' v,Ext K ρ H ρ' H'->Rep K ρ' h' H'->ak K ρ' H' e v->Q v H'
theorem Lb {K:PySem.W.Frag}{ρ:List Addr}{H:Hp}{xs:List Z.D}{ys:List V}{lo hi:Option Int}(r:aq K ρ H xs ys):aq K ρ H (Z.cut xs lo hi) (wV ys lo hi):=by
 unfold Z.cut wV;rw[Qn,Qn,<-r.length];exact (r.drop _).take _
theorem Qo:xQ X (rPs X.K):=am3 (afs.or (aeY.or ace)) (by
 rintro x lo hi H Q ⟨ρ,h,d,e,h',R,r,q,k⟩;unfold Z.dg at q;split at q
 ·cases q;simp only[ak]at r;obtain ⟨rfl,hl⟩:=r;refine .inl ⟨_,rfl,hl,k ρ H _ .refl R ?_⟩;unfold ak;exact ⟨rfl,le_trans (Xd _ lo hi) hl⟩
 ·rename_i xs;split at q
  ·cases q
  ·rename_i hw;cases q;simp only[ak]at r;obtain ⟨a,ys,rfl,hq,rs⟩:=r;refine .inr (.inl ⟨a,ys,rfl,hq,by rw[<-rs.length,Qn,Qn];exact hw,λp hp=>?_⟩);have e2:Ext X.K ρ H ρ (upd H p (.tup (wV ys lo hi))):=Ext.fresh hp;exact k ρ _ _ e2 (R.fresh hp) (by simp only[ak];exact ⟨p,_,rfl,.of bJ,aq.mono e2 _ _ (Lb rs)⟩)
 ·obtain ⟨hl,rfl,rfl⟩:=j_ q;simp only[ak]at r;obtain ⟨a,ys,rfl,hq,rs⟩:=r;refine .inr (.inr ⟨a,ys,rfl,hq.BL,λp hp=>?_⟩);obtain ⟨e2,R2,r2⟩:=fQ R (Lb rs) hp;exact k _ _ _ e2 R2 r2
 ·split at q
  ·rename_i e1;obtain ⟨hl,rfl,rfl⟩:=j_ q;obtain ⟨a,ys,rfl,_,hq,rs⟩:=dY R r e1;refine .inr (.inr ⟨a,ys,rfl,.of hq,λp hp=>?_⟩);obtain ⟨e2,R2,r2⟩:=fQ R (Lb rs) hp;exact k _ _ _ e2 R2 r2
  ·cases q
 ·cases q)
theorem nG (ha:LE X sub Γ E a a')(hb:LE X sub Γ E b b'):LE X sub Γ E (.Subscript a (.Slice (some b) none none p) pos) (.prim .uQ (.cons a' (.cons b' .nil))):=by
 refine gD (Ih Qo ha (FT hb) Sy) ?_;rintro σ H Q ⟨ρ,h,τ,Q',R,L,w,k⟩;simp only[Z.aL,Z.bB]at w;refine ⟨ρ,h,τ,_,R,L,w,λd1 h1 aM H1 x e1 R1 r1 w1=>⟨aM,h1,τ,_,R1,L.mono e1,w1,λd2 h2 bL H2 y e2 R2 r2 w2=>?_⟩⟩;cases d2 with
 | int i=>
  simp only[ak]at r2;refine ⟨i,r2,?_⟩;change (match Z.dg d1 (some i) none h2 with | some (v,h2)=>Q' v h2 | none=>False) at w2;cases q:Z.dg d1 (some i) none h2 with
  | none=>rw[q]at w2;exact w2.elim
  | some z=>rw[q]at w2;exact ⟨bL,h2,d1,z.1,z.2,R2,ak.mono e2 _ _ r1,q,λρ' H' v e' R' r'=>k _ _ ρ' H' v (e1.trans (e2.trans e')) R' r' w2⟩
 | _=>exact w2.elim
theorem JG (ha:LE X sub Γ E a a')(hb:LE X sub Γ E b b'):LE X sub Γ E (.Subscript a (.Slice none (some b) none p) pos) (.prim .Mp (.cons a' (.cons b' .nil))):=by
 refine gD (Ih Qo ha Sy (FT hb)) ?_;rintro σ H Q ⟨ρ,h,τ,Q',R,L,w,k⟩;simp only[Z.aL,Z.bB]at w;refine ⟨ρ,h,τ,_,R,L,w,λd1 h1 aM H1 x e1 R1 r1 w1=>⟨aM,h1,τ,_,R1,L.mono e1,w1,λd2 h2 bL H2 y e2 R2 r2 w2=>?_⟩⟩;cases d2 with
 | int i=>
  simp only[ak]at r2;refine ⟨i,r2,?_⟩;change (match Z.dg d1 none (some i) h2 with | some (v,h2)=>Q' v h2 | none=>False) at w2;cases q:Z.dg d1 none (some i) h2 with
  | none=>rw[q]at w2;exact w2.elim
  | some z=>rw[q]at w2;exact ⟨bL,h2,d1,z.1,z.2,R2,ak.mono e2 _ _ r1,q,λρ' H' v e' R' r'=>k _ _ ρ' H' v (e1.trans (e2.trans e')) R' r' w2⟩
 | _=>exact w2.elim
theorem Ld (ha:LE X sub Γ E a a')(hb:LE X sub Γ E b b')(hc:LE X sub Γ E c c'):LE X sub Γ E (.Subscript a (.Slice (some b) (some c) none p) pos) (.slc a' b' c'):=by
 refine gD (Ih Qo ha (FT hb) (FT hc)) ?_;rintro σ H Q ⟨ρ,h,τ,Q',R,L,w,k⟩;simp only[Z.aL]at w;refine ⟨ρ,h,τ,_,R,L,w,λd1 h1 aM H1 x e1 R1 r1 w1=>⟨aM,h1,τ,_,R1,L.mono e1,w1,λd2 h2 bL H2 y e2 R2 r2 w2=>?_⟩⟩;cases d2 with
 | int i=>
  simp only[ak]at r2;refine ⟨i,r2,bL,h2,τ,_,R2,L.mono (e1.trans e2),w2,λd3 h3 jj H3 z e3 R3 r3 w3=>?_⟩;cases d3 with
  | int j=>
   simp only[ak]at r3;refine ⟨j,r3,?_⟩;dsimp only at w3;cases q:Z.dg d1 (some i) (some j) h3 with
   | none=>rw[q]at w3;exact w3.elim
   | some z=>rw[q]at w3;exact ⟨jj,h3,d1,z.1,z.2,R3,ak.mono (e2.trans e3) _ _ r1,q,λρ' H' v e' R' r'=>k _ _ ρ' H' v (e1.trans (e2.trans (e3.trans e'))) R' r' w3⟩
  | _=>exact w3.elim
 | _=>exact w2.elim
theorem cD:eZ X (.builtin "len") (rP X.K sub .len):=afc (Zn.or W6) (by
 rintro xs H Q ⟨ρ,h,ds,d,h',R,r,q,k⟩;change Z.YW _ _=_ at q;unfold Z.YW at q;split at q
 ·cases q;obtain ⟨x,xs,rfl⟩:∃x t,xs=x::t:=by simp only[aq]at r;obtain ⟨y,t,e,_⟩:=r;exact ⟨y,t,e⟩
  simp only[aq]at r;obtain ⟨y,t,e,r,rfl⟩:=r;cases e;simp only[ak]at r;obtain ⟨rfl,hl⟩:=r;exact .inl ⟨_,_,rfl,⟨by rw[gH,<-g8];exact hl,rfl⟩,by rw[gH];exact k ρ H _ .refl R (by simp only[ak])⟩
 ·cases q;simp only[aq]at r;obtain ⟨y,t,rfl,r,rfl⟩:=r;simp only[ak]at r;obtain ⟨a,ys,rfl,hq,rs⟩:=r;exact .inl ⟨_,_,rfl,.inr ⟨ys,hq,rfl⟩,by rw[<-rs.length];exact k ρ H _ .refl R (by simp only[ak])⟩
 ·cases q;simp only[aq]at r;obtain ⟨y,t,rfl,r,rfl⟩:=r;simp only[ak]at r;obtain ⟨a,ys,rfl,hq,rs⟩:=r;exact .inl ⟨_,_,rfl,.inl ⟨ys,hq.BL,rfl⟩,by rw[<-rs.length];exact k ρ H _ .refl R (by simp only[ak])⟩
 ·rename_i n;simp only[aq]at r;obtain ⟨y,t,rfl,r,rfl⟩:=r;split at q
  ·rename_i e1;cases q;obtain ⟨a,ys,rfl,_,hq,rs⟩:=dY R r e1;exact .inl ⟨_,_,rfl,.inl ⟨ys,.of hq,rfl⟩,by rw[<-rs.length];exact k ρ H _ .refl R (by simp only[ak])⟩
  ·rename_i e1;cases q;obtain ⟨a,kvs,rfl,_,hq,hk,rs,_⟩:=JC R r e1;have:=rs.length;rw[length_map,length_map]at this;exact .inr ⟨_,_,rfl,hq,by rw[<-this];exact k ρ H _ .refl R (by simp only[ak])⟩
  ·cases q
 ·cases q)
theorem c7:mD X "list.append" (λx xs=>rP X.K sub .append (x::xs)):=afd MJ (by
 rintro x xs H Q ⟨ρ,h,ds,d,h',R,r,q,k⟩;change Z.O_ _ _=_ at q;unfold Z.O_ at q;split at q
 ·split at q
  ·rename_i e1;simp only[aq]at r;obtain ⟨_,_,e,r1,y,_,rfl,r2,rfl⟩:=r;cases e;obtain ⟨a,ys,rfl,hn,ha,rs⟩:=dY R r1 e1;obtain ⟨hl,rfl,rfl⟩:=ZC q;rw[length_append,List.length_singleton]at hl;obtain ⟨e2,R2⟩:=sH (xs:=[]) R hn ha (rs.append (.one r2));exact ⟨a,ys,y,rfl,rfl,ha,by rw[<-rs.length,<-g8];lia,k _ _ _ e2 R2 (by simp only[ak])⟩
  ·cases q
 ·cases q)
theorem Ga:mD X "list.pop" (λx xs=>rP X.K sub .pop (x::xs)):=afd ae7 (by
 rintro x xs H Q ⟨ρ,h,ds,d,h',R,r,q,k⟩;change Z.Y4 _ _=_ at q;unfold Z.Y4 at q;split at q
 ·split at q
  ·rename_i e1;simp only[aq]at r;obtain ⟨_,_,e,r1,rfl⟩:=r;cases e;obtain ⟨a,ys,rfl,hn,ha,rs⟩:=dY R r1 e1;split at q
   ·rename_i v ev;cases q;rw[List.getLast?_eq_getElem?]at ev;obtain ⟨y,ey,ry⟩:=rs.get ev;obtain ⟨e2,R2⟩:=sH (xs:=[]) R hn ha rs.dropLast;exact ⟨a,ys,y,rfl,rfl,ha,by rw[<-rs.length];exact ey,k _ _ _ e2 R2 (ak.mono e2 _ _ ry)⟩
   ·cases q
  ·cases q
 ·cases q)
theorem wR.or {t t':Zd}(h:wR X t)(h':wR X t'):wR X (λo i v H Q=>t o i v H Q\/t' o i v H Q):=by
 intro pins s σ H o i v ov iv u Q I ro ri rv q;rcases q with q | q
 ·exact h pins s σ H o i v ov iv u Q I ro ri rv q
 ·exact h' pins s σ H o i v ov iv u Q I ro ri rv q
theorem set_dict (hu:X.A.units+1 < cLine):wR X (λo i v H Q=>∃a H',o=.ref a/\Qc H a i v H'/\Q H'):=by
 intro pins s σ H o i v ov iv u Q I ro ri rv ⟨a,H',e,g,q⟩;subst e;cases ro;exact W2 hu I g ri rv λs' I'=>⟨H',I',q⟩
theorem aft (hu:X.A.units+200 < cLine):wR X (λo i v H Q=>rP X.K sub .fB [o,i,v] H λ_ H'=>Q H'):=by
 intro pins s σ H o i v ov iv u Q I ro ri rv ⟨ρ,h,ds,d,h',R,r,q,k⟩;refine (wR.or set_list (set_dict (by lia))) pins s σ H o i v ov iv u Q I ro ri rv ?_;obtain ⟨d1,d2,d3,rfl,r1,r2,r3⟩:=aiP r;change Z.UJ _ _=_ at q;unfold Z.UJ at q;split at q
 ·rename_i e;cases e;rename_i n;split at q
  ·rename_i kvs e1;cases e:Z.wI d2 with
   | none=>rw[e]at q;cases q
   | some kk=>
    rw[e]at q;simp only[bind_some]at q;split at q
    ·rename_i hl;cases q;obtain ⟨a,kvs',rfl,hn,ha,hk,rs,hs⟩:=JC R r1 e1;obtain ⟨rfl,hk2⟩:=Ql e r2;have hlen:=rs.length;rw[length_map,length_map]at hlen;have e2:Ext X.K ρ H ρ (upd H a (.dK (putK kvs' (gC kk) v))):=Ext.write ha (λ_=>by simp) (λ_ _=>by simp);obtain ⟨p1,p2⟩:=acA kk r3 kvs kvs' hk rs;refine .inr ⟨a,_,rfl,Qc.k (k:=gC kk) ha (by rw[<-hlen,<-g8];exact hl),k ρ _ .non e2 (R.write hn ha (λ_=>by simp) (λ_ _=>by simp) ⟨_,bJ,p1,aq.mono e2 _ _ p2,?_⟩) (by simp only[ak])⟩;exact ZJ (P:=λq=>∀s,q=Sum.inr s->s.length<=Z.lim) hk2 hs
    ·cases q
  ·rename_i xs e1;split at q
   ·rename_i i;split at q
    ·rename_i j ej;cases q;obtain ⟨a,ys,rfl,hn,ha,rs⟩:=dY R r1 e1;simp only[ak]at r2;subst r2;obtain ⟨e2,R2⟩:=sH (xs:=[]) R hn ha (rs.set j r3);exact .inl ⟨a,ys,i,j,rfl,rfl,ha,by rw[<-rs.length];exact ej,k _ _ .non e2 R2 (by simp only[ak])⟩
    ·cases q
   ·cases q
  ·cases q
 ·cases q
def S8:Z.KN->String
 | .int=>"int" | .bool=>"bool" | .str=>"str" | .list=>"list" | .tuple=>"tuple" | .cls _=>"?"
def JH:Z.KN->String->Bool
 | .int,"int"=>true | .int,"bool"=>true | .bool,"bool"=>true | .str,"str"=>true | .list,"list"=>true | .tuple,"tuple"=>true | _,_=>false
theorem B_ {K:PySem.W.Frag}(k:Z.KN)(hk:∀c,k≠.cls c)(t:String)(ht:t∈["NoneType","bool","int","str","list","tuple","dict"]):kitOne K (.type t) (.type (S8 k))=some (JH k t):=by
 simp only[mem_cons,not_mem_nil,or_false]at ht;cases k with
 | cls c=>exact absurd rfl (hk c)
 | _=>rcases ht with rfl | rfl | rfl | rfl | rfl | rfl | rfl<;>kernel_rfl
theorem aiR (k:Z.KN)(hk:∀c,k≠.cls c):eZ X (.builtin "isinstance") (λxs H Q=>∃x,xs=[x,.ty (S8 k)]/\rP X.K sub (.fV k) [x] H Q):=by
 intro pins s σ H xs us Q I r ⟨x,e,ρ,h,ds,d,h',R,rr,q,kk⟩;subst e;obtain ⟨u,w',rfl,rx,rt⟩:=vals2 r;cases (show w'=Value.type (S8 k) from rt);obtain ⟨d1,rfl,r1⟩:=wX rr;change Z.YX sub k [d1] h=some (d,h') at q;unfold Z.YX at q;cases e:Z.iY h sub k d1 with
 | none=>simp only[e]at q;cases q
 | some b=>
  simp only[e]at q;cases q;have fin:∀tk,EP X pins σ Q (.bool b) {s with toks:=tk}:=λtk=>⟨.bl b,H,I.tok _,rfl,kk ρ H _ .refl R (by simp only[ak])⟩
  cases d1 with
  | non=>
   simp only[ak]at r1;subst r1;cases rx;have hb:b=JH k "NoneType":=by cases k<;>first | (simp[Z.iY]at e;subst e;rfl) | exact absurd rfl (hk _)
   exact kia_one PySem.W.kitx_none I.dJ True.intro (hb ▸ B_ k hk "NoneType" (by simp)) (λz=>nomatch z) fin
  | bl c=>
   simp only[ak]at r1;subst r1;cases rx;have hb:b=JH k "bool":=by cases k<;>first | (simp[Z.iY]at e;subst e;rfl) | exact absurd rfl (hk _)
   exact kia_one PySem.W.kitx_bool I.dJ True.intro (hb ▸ B_ k hk "bool" (by simp)) (λz=>nomatch z) fin
  | int i=>
   simp only[ak]at r1;subst r1;obtain ⟨t,rfl⟩:=rx;have hb:b=JH k "int":=by cases k<;>first | (simp[Z.iY]at e;subst e;rfl) | exact absurd rfl (hk _)
   exact kia_one PySem.W.kitx_int I.dJ True.intro (hb ▸ B_ k hk "int" (by simp)) (λz=>nomatch z) fin
  | str i=>
   simp only[ak]at r1;obtain ⟨rfl,_⟩:=r1;obtain ⟨t,rfl⟩:=rx;have hb:b=JH k "str":=by cases k<;>first | (simp[Z.iY]at e;subst e;rfl) | exact absurd rfl (hk _)
   exact kia_one PySem.W.kitx_str I.dJ True.intro (hb ▸ B_ k hk "str" (by simp)) (λz=>nomatch z) fin
  | tup xs=>
   simp only[ak]at r1;obtain ⟨a,ys,rfl,hq,_⟩:=r1;cases rx;obtain ⟨its,_,⟨o,h1,h2,_⟩,_⟩:=I.tuple hq;have hb:b=JH k "tuple":=by cases k<;>first | (simp[Z.iY]at e;subst e;rfl) | exact absurd rfl (hk _)
   exact kia_one PySem.W.kitx_tuple I.dJ ⟨o,h1,h2⟩ (hb ▸ B_ k hk "tuple" (by simp)) (λz=>nomatch z) fin
  | fu xs=>
   simp only[ak]at r1;obtain ⟨a,ys,rfl,hq,_⟩:=r1;cases rx;obtain ⟨its,_,⟨o,n,h1,h2,_⟩,_⟩:=I.list hq.BL;have hb:b=JH k "list":=by cases k<;>first | (simp[Z.iY]at e;subst e;rfl) | exact absurd rfl (hk _)
   exact kia_one kitx_list I.dJ ⟨o,h1,h2⟩ (hb ▸ B_ k hk "list" (by simp)) (λz=>nomatch z) fin
  | ref n=>
   cases eo:h[n]? with
   | none=>cases k<;>first | (simp[Z.iY,eo]at e;done) | exact absurd rfl (hk _)
   | some o=>
    cases o with
    | lst xs=>
     obtain ⟨a,ys,rfl,_,ha,_⟩:=dY R r1 eo;cases rx;obtain ⟨its,_,⟨o,n,h1,h2,_⟩,_⟩:=I.list (.of ha);have hb:b=JH k "list":=by cases k<;>first | (simp[Z.iY,eo]at e;subst e;rfl) | exact absurd rfl (hk _)
     exact kia_one kitx_list I.dJ ⟨o,h1,h2⟩ (hb ▸ B_ k hk "list" (by simp)) (λz=>nomatch z) fin
    | dct xs=>
     obtain ⟨a,ys,rfl,_,ha,_⟩:=JC R r1 eo;cases rx;obtain ⟨_,_,vs,_,p⟩:=(show cj X.prog X.w H s.heap a (.dK ys) from I.hok a _ ha)
     obtain ⟨o,es,ep,h1,h2,_⟩:=p;have hb:b=JH k "dict":=by cases k<;>first | (simp[Z.iY,eo]at e;subst e;rfl) | exact absurd rfl (hk _)
     exact kia_one PySem.W.kitx_dict I.dJ ⟨o,h1,h2.1⟩ (hb ▸ B_ k hk "dict" (by simp)) (λz=>nomatch z) fin
    | obj c fs=>
     cases k<;>first | (simp[Z.iY,eo]at e;done) | exact absurd rfl (hk _)
    | exc c=>
     cases k<;>first | (simp[Z.iY,eo]at e;done) | exact absurd rfl (hk _)
    | dZ c i=>
     cases k<;>first | (simp[Z.iY,eo]at e;done) | exact absurd rfl (hk _)
theorem afu (hk:∀c,k≠.cls c)(hg:Gl X "isinstance")(hm:X.mg "isinstance"=none)(hgt:Gl X tn)(hmt:X.mg tn=none)(hvt:bootBuiltins tn=some (.type (S8 k)))(hnn:tn≠"__name__")(hdd:cN tn)(he:LE X sub Γ E e e')(hs:∀es,eE X.env e es):
  LE X sub Γ E (.Call (.Name "isinstance" p) [e,.Name tn p2] [] pos) (.prim (.fV k) (.cons e' .nil)):=by
 have hn:PE X (.Name tn p2) (tC (.ty (S8 k))):=ab1 hgt hmt hvt rfl hnn hdd;refine gD (Ie (aiR (sub:=sub) k hk) hg hm (by rfl) (kZ he (kZ hn uW (by rfl)) (hs _)) (by decide) (by decide) (hs _) (by rfl)) ?_;rintro σ H Q ⟨ρ,h,τ,Q',R,L,w,k'⟩;simp only[Z.aL,Z.bB]at w;refine ⟨ρ,h,τ,_,R,L,w,λd1 h1 aM H1 x e1 R1 r1 w1=>?_⟩;cases q:Z.prim sub (.fV k) [d1] h1 with
 | none=>rw[q]at w1;exact w1.elim
 | some z=>
  rw[q]at w1;exact ⟨x,rfl,aM,h1,[d1],z.1,z.2,R1,.one r1,q,λρ' H' v e' R' r'=>k' _ _ ρ' H' v (e1.trans e') R' r' w1⟩
def aW (K:PySem.W.Frag)(Γ:Z.dB)(f:Nat):Sp:=λvs H Q _=>∃ρ h ds Q',∃E':Z.PX,Rep K ρ h H/\aq K ρ H ds vs/\Γ f ds h Q' (Z.EF E')/\
 ∀d h' ρ' H' v,Ext K ρ H ρ' H'->Rep K ρ' h' H'->ak K ρ' H' d v->Q' d h'->Q v H'
theorem S9 (F:aP X.prog X.w X.K X.mg X.base CX k f fd ps (aW X.K Γ i))(hr:cM k X.A)(hg:Gl X x)(hm:X.mg x=some (.ref f))(hk:keepIn X.K (.ref f)=true)(hb:Binds X.K fd ps ds)(hd:Vals G6 ds)(hx:Passes CX X E0)(hdd:∀ρ H,aq X.K ρ H dd G6)(ha:LA X sub Γ E (e::es) es')(hdb:cN x)(he:eE X.env e es)(hpl:iW X.env es pos):
  LE X sub Γ E (.Call (.Name x p) (e::es) [] pos) (.call i es' dd):=by
 refine gD (Sw F hr hg hm hk hb hd hx ha hdb he hpl) ?_;rintro σ H Q ⟨ρ,h,τ,Q',R,L,w,k'⟩;simp only[Z.aL]at w;refine ⟨ρ,h,τ,_,R,L,w,λjL h1 aM H1 vs e1 R1 r1 w1=>?_⟩;exact ⟨aM,h1,jL++dd,Q',E,R1,r1.append (hdd _ _),w1,λd h' ρ' H' v e' R' r' q=>k' d h' ρ' H' v (e1.trans e') R' r' q⟩
end
section
variable {X:Cx}{sub:Nat->Nat->Bool}
theorem wZ {K:PySem.W.Frag}{ρ:List Addr}{H:Hp}:∀{xs:List Z.D} {ys:List V} {its:List Value} {ss:List Z.S},aq K ρ H xs ys->Vals ys its->Z.strsOf xs=some ss->StrsAre its (ss.map λs=>⟨s.toArray⟩)/\∀s∈ss,s.length<=Z.lim
 | [],ys,its,ss,r,v,e=>by
  simp only[aq]at r;subst r;cases v;cases e;exact ⟨.nil,λs hs=>by simp at hs⟩
 | x::xs,ys,its,ss,r,v,e=>by
  simp only[aq]at r;obtain ⟨y,t,rfl,r1,r2⟩:=r;cases v with
  | cons v1 v2=>
   cases x<;>simp only[Z.strsOf]at e<;>first | (cases e;done) | skip
   rename_i s;cases e':Z.strsOf xs with
   | none=>rw[e']at e;cases e
   | some ss'=>
    rw[e']at e;cases e;simp only[ak]at r1;obtain ⟨rfl,hl⟩:=r1;obtain ⟨tk,rfl⟩:=v1;obtain ⟨i1,i2⟩:=wZ r2 v2 e';exact ⟨.cons _ _ i1,λz hz=>by
     rcases mem_cons.mp hz with rfl | hz
     ·exact hl
     ·exact i2 z hz⟩
theorem oH:∀{xs:List Z.D} {ss:List Z.S},Z.strsOf xs=some ss->xs.length=ss.length
 | [],ss,e=>by cases e;rfl
 | x::xs,ss,e=>by
  cases x<;>simp only[Z.strsOf]at e<;>first | (cases e;done) | skip
  cases e':Z.strsOf xs with
  | none=>rw[e']at e;cases e
  | some ss'=>rw[e']at e;cases e;simp[oH e']
theorem StrsAre.vals:∀{us:List Value} {ss:List Str},StrsAre us ss->Vals (ss.map V.str) us
 | _,_,.nil=>.nil
 | _,_,.cons y t h=>.cons ⟨t,rfl⟩ (StrsAre.vals h)
theorem Qp {K:PySem.W.Frag}{ρ:List Addr}{H:Hp}:∀{ss:List Z.S},(∀s∈ss,s.length<=Z.lim)->aq K ρ H (ss.map Z.D.str) (ss.map λs=>V.str ⟨s.toArray⟩)
 | [],_=>by simp[aq]
 | s::ss,h=>by
  simp only[map_cons,aq];exact ⟨_,_,rfl,by unfold ak;exact ⟨rfl,h s mem_cons_self⟩,Qp λz hz=>h z (mem_cons_of_mem _ hz)⟩
end
def fK (X:Cx)(scope:Scope)(cl:List (Str×Addr))(N':List Str)(C:Addr)(s3:Shared)(H3:Hp)(fp:List Addr):Cx:=
 {X with N:=N',s₀:=s3,H₀:=H3,env:=compEnvC scope cl C X.env,outer:=X.stack,stack:=X.stack,ex:=fp,fn:=λ_=>false,pn:=[],xe:=λ_ _=>False}
def Oh (wi:TI)(bd:V->Hp->List V->Prop)(tc:TT)(te:TE):TE:=λσ H Q=>wi σ H λJ H1=>∀D,H1 D=none->∃W:Nat->Nat->Hp->Prop,(∃m,W 0 m (upd H1 D (.lst [])))/\∀i m H,W i m H->
 (J.stop i H/\Q (.ref D) H)\/(J.go i H/\∃N:Hp->Prop,(∀H',N H'->∃m',m' < m/\W (i+1) m' H')/\∀v H',J.Ww i H v H'->∃vs,bd v H' vs/\tc (σ++vs.map some) H' λc H2=>
  if c=true then te (σ++vs.map some) H2 λy H3=>∃ys,H3 D=some (.lst ys)/\ys.length < sizeLine/\N (upd H3 D (.lst (ys++[y]))) else N H2)
def u_ (X:Cx)(tg:Expr)(n m:Nat)(bd:V->Hp->List V->Prop):Prop:=∀(pins:List (Addr×Obj)) (s:Shared) (σ os:L2.St) (H:Hp) (v:V) (u:Value) (vs:List V),Inv X pins (σ++os) H s->RelV v u->bd v H vs->σ.length=n->os.length=m->
 wpAny (model X.prog X.w) X.A (assign tg X.env u) (λ_ s'=>Inv X pins (σ++vs.map some) H s') X.xe s
def xR (X:Cx)(ifs:List Expr)(t:TT):Prop:=
 ∀(pins:List (Addr×Obj)) (s:Shared) (σ:L2.St) (H:Hp) (Q:Bool->Hp->Prop),Inv X pins σ H s->t σ H Q->
  wpAny (model X.prog X.w) X.A (forIn ifs true λc r=>if r=true then do let ok <-isTrue c X.env (eval c X.env);pure (ForInStep.yield ok) else pure (ForInStep.yield r)) (TP X pins σ Q) X.xe s
theorem acB:xR X [] (λ_ H Q=>Q true H):=λ_ s _ H _ I h=>wpAny_pure ⟨H,I,h⟩
theorem acC (h:PT X c t):xR X [c] t:=by
 intro pins s σ H Q I hq;rw[List.forIn_cons];refine wpAny_bind ?_;rw[if_pos rfl];refine wpAny_bind (bf (h pins s σ H _ I hq) λb s1 q=>wpAny_pure ?_);show wpAny _ _ (forIn [] b _) _ _ _;rw[List.forIn_nil];exact wpAny_pure q
section
variable {X:Cx}
structure uE (X:Cx)(scope:Scope)(M xs:List Str):Prop where
 kind:scope.kind=.function
 nd:(M++xs).Nodup
 len:M.length=X.N.length
 at_:∀p∈M.zip X.N,scope.names.lookup p.1=none\/(p.1=p.2/\scope.names.lookup p.1≠some .local)
 Qq:∀y∈scope.names,y.2≠.cell
 free:∀y∈scope.names,y.2=.free->(X.env.kindOf y.1=some .cell)\/X.env.kindOf y.1=some .free
 loc:∀x∈xs,scope.names.lookup x=some .local
 names:∀y∈scope.names,y.2=.local->scope.names.lookup y.1=some .local
def cL (env:Env):List (Str×NameKind)->List (Str×Addr)->List (Str×Addr)
 | [],acc=>acc
 | (n,.free)::r,acc=>cL env r ((n,(env.cells.lookup n).getD 0)::acc)
 | _::r,acc=>cL env r acc
theorem Ca (f:Str×NameKind->List (Str×Addr)->Sem (ForInStep (List (Str×Addr))))(f1:∀n r c,env.cells.lookup n=some c->f (n,.free) r=pure (ForInStep.yield ((n,c)::r)))(f2:∀n k r,k≠.free->f (n,k) r=pure (ForInStep.yield r)):
  ∀(l:List (Str×NameKind)) (acc:List (Str×Addr)),(∀y∈l,y.2=.free->∃c,env.cells.lookup y.1=some c)->(forIn l acc f)=pure (cL env l acc)
 | [],acc,_=>rfl
 | (n,k)::l,acc,h=>by
  rw[List.forIn_cons];have ih:=λacc=>Ca f f1 f2 l acc λy hy=>h y (mem_cons_of_mem _ hy);cases k with
  | free=>
   obtain ⟨c,hc⟩:=h (n,.free) mem_cons_self rfl;have hc:env.cells.lookup n=some c:=hc;rw[f1 n acc c hc,pure_bind];show forIn l ((n,c)::acc) f=_;rw[ih];show _=pure (cL env l ((n,(env.cells.lookup n).getD 0)::acc));rw[hc];rfl
  | «local»=>rw[f2 _ _ _ (by simp),pure_bind];exact ih acc
  | cell=>rw[f2 _ _ _ (by simp),pure_bind];exact ih acc
  | globalExplicit=>rw[f2 _ _ _ (by simp),pure_bind];exact ih acc
  | globalImplicit=>rw[f2 _ _ _ (by simp),pure_bind];exact ih acc
theorem Vh {env:Env}{scope:Scope}(h:∀y∈scope.names,y.2=.free->∃c,env.cells.lookup y.1=some c):closureFor scope env=pure (cL env scope.names []):=by
 unfold closureFor;dsimp only;rw[Ca _ ?_ ?_ scope.names [] h]
 ·rfl
 ·intro n r c e;show (if (NameKind.free == NameKind.free)=true then _ else _)=_;rw[if_pos (beq_self_eq_true _)];unfold cellOf;rw[e];rfl
 ·intro n k r hk;show (if (k == NameKind.free)=true then _ else _)=_;rw[if_neg (by simpa using hk)]
theorem ni {env:Env}:∀(l:List (Str×NameKind)) (acc:List (Str×Addr)) (y:Str) (c:Addr),(∀z∈l,z.2=.free->∃c,env.cells.lookup z.1=some c)->(∀y c,acc.lookup y=some c->env.cells.lookup y=some c)->(cL env l acc).lookup y=some c->env.cells.lookup y=some c
 | [],acc,y,c,_,ha,e=>ha y c e
 | (n,k)::l,acc,y,c,h,ha,e=>by
  cases k with
  | free=>
   refine ni l _ y c (λz hz=>h z (mem_cons_of_mem _ hz)) (λy' c' e'=>?_) e;obtain ⟨c0,hc⟩:=h (n,.free) mem_cons_self rfl;have hc:env.cells.lookup n=some c0:=hc;rw[lookup_cons]at e';split at e'
   ·rename_i hy;rw[hc]at e';cases e';rw[beq_iff_eq.mp hy];exact hc
   ·exact ha _ _ e'
  | _=>exact ni l acc y c (λz hz=>h z (mem_cons_of_mem _ hz)) ha e
theorem w6:∀(l:List (Str×NameKind)) (acc:List (Str×Addr)) (y:Str),((y,NameKind.free)∈l\/∃c,acc.lookup y=some c)->∃c,(cL env l acc).lookup y=some c
 | [],acc,y,h=>by
  rcases h with h | h
  ·simp at h
  ·exact h
 | (n,k)::l,acc,y,h=>by
  cases k with
  | free=>
   refine w6 l _ y ?_;rcases h with h | ⟨c,h⟩
   ·rcases mem_cons.mp h with e | h
    ·cases e;exact .inr ⟨_,by rw[lookup_cons];simp;rfl⟩
    ·exact .inl h
   ·refine .inr ?_;rw[lookup_cons];split
    ·exact ⟨_,rfl⟩
    ·exact ⟨c,h⟩
  | _=>
   refine w6 l acc y ?_;rcases h with h | h
   ·rcases mem_cons.mp h with e | h
    ·cases e
    ·exact .inl h
   ·exact .inr h
theorem eG (e:(relabel scope env).names.lookup y=some k):scope.names.lookup y=some k\/(k=.cell/\scope.names.lookup y=some .free):=by
 unfold relabel at e;dsimp only at e;generalize scope.names=l at e ⊢
 induction l with
 | nil=>cases e
 | cons p l ih=>
  obtain ⟨n,k'⟩:=p;rw[map_cons]at e;by_cases hy:(y == n)=true
  ·rw[lookup_cons,hy];dsimp only at e;split at e
   ·rename_i hh;rw[lookup_cons,hy]at e;cases e;rw[and_eq_true,and_eq_true]at hh;exact .inr ⟨rfl,by rw[beq_iff_eq.mp hh.1.1]⟩
   ·rw[lookup_cons,hy]at e;exact .inl e
  ·rw[Bool.not_eq_true]at hy;rw[lookup_cons,hy];refine ih ?_;dsimp only at e;split at e
   ·rw[lookup_cons,hy]at e;exact e
   ·rw[lookup_cons,hy]at e;exact e
theorem Xe {pins:List (Addr×Obj)}{σ:L2.St}{H:Hp}{s:Shared}{scope:Scope}{M xs:List Str}{fp:List Addr}{h1:Heap}{tk:Nat}(I:Inv X pins σ H s)(hc:X.calm=true)(S:uE X scope M xs)(hf:∀b∈fp,mH X pins H b)(hns:h1.Ns s.heap.objs.size (λ_=>none))(hk:∀b o,s.heap.get? b=some o->h1.get? b=some o)(hfs:∀b∈fp,b < s.heap.objs.size)(hfr:∀b∈fp,b∉frs X.stack)(hfb:∀b∈fp,X.base.get? b=none):
  Inv (fK X scope (cL X.env scope.names []) (M++xs) s.heap.objs.size s H fp) [] (σ++replicate xs.length none) H {s with heap:=h1,toks:=tk}:=by
 have cells:∀z∈scope.names,z.2=.free->∃c,X.env.cells.lookup z.1=some c:=λz hz e=>I.ok.has z.1 (S.free z hz e);have cl1:∀y c,(cL X.env scope.names []).lookup y=some c->X.env.cells.lookup y=some c:=λy c e=>ni scope.names [] y c cells (λ_ _ e=>by cases e) e;have Qs:∀y,scope.names.lookup y=some .free->(y,NameKind.free)∈scope.names:=λy e=>PySem.mem_of_lookup e;refine ⟨⟨I.ok.mod,S.kind,I.ok.glob,I.ok.blt,le_refl _,λy z c e1 e2=>I.ok.inj y z c (cl1 y c e1) (cl1 z c e2),λy e=>?_,(λy c e=>by cases e),λ_=>I.ok.hd hc,I.ok.frames,.inl rfl,λb hb=>⟨ne_of_lt (hfs b hb),λy c e=>(hf b hb).2.2.2.2.1 y c (cl1 y c e)⟩,
   I.bs,le_trans I.ok.G4 I.sz,(λb o e hb=>(by have z:=(hfb b hb).symm.trans e;cases z)),hfr,I.stack,I.FJ⟩,
  rfl,I.bare,Un.kept hk,⟨_,hns,λi y v e1 e2 e3=>?_⟩,λy c e=>?_,I.hok.fresh (le_refl _),λy c e=>I.eY y c (cl1 y c e),λp hp=>?_,I.hok.kept hk,?_⟩
 ·have e':(relabel scope X.env).names.lookup y=some .cell\/(relabel scope X.env).names.lookup y=some .free:=e;have hfr':scope.names.lookup y=some .free:=by
   rcases e' with e' | e'
   ·rcases eG e' with z | z
    ·exact absurd rfl (S.Qq _ (PySem.mem_of_lookup z))
    ·exact z.2
   ·rcases eG e' with z | z
    ·exact z
    ·cases z.1
  exact w6 scope.names [] y (.inl (Qs y hfr'))
 ·have hi:i < X.N.length:=by
   refine Nat.lt_of_not_le λz=>?_;rw[getElem?_append_right (by rw[I.len];exact z),List.getElem?_replicate]at e2;split at e2<;>cases e2
  have e2':σ[i]?=some (some v):=by rw[getElem?_append_left (by rw[I.len];exact hi)]at e2;exact e2
  have e1m:M[i]?=some y:=by
   have e1:(M++xs)[i]?=some y:=e1;rw[getElem?_append_left (by rw[S.len];exact hi)]at e1;exact e1
  have hz:(y,X.N[i])∈M.zip X.N:=by
   refine mem_of_getElem? (i:=i) ?_;rw[List.getElem?_zip_eq_some];exact ⟨e1m,getElem?_eq_getElem hi⟩
  rcases S.at_ _ hz with hno | ⟨hyy,Vi⟩
  ·exfalso;have hno:scope.names.lookup y=none:=hno;have e3':(relabel scope X.env).names.lookup y=some .local\/(relabel scope X.env).names.lookup y=some .cell\/(relabel scope X.env).names.lookup y=some .free:=e3;have none_:∀k,(relabel scope X.env).names.lookup y=some k->False:=λk z=>by
    rcases eG z with z | z
    ·rw[hno]at z;cases z
    ·rw[hno]at z;cases z.2
   rcases e3' with z | z | z<;>exact none_ _ z
  ·have e3':(relabel scope X.env).names.lookup y=some .local\/(relabel scope X.env).names.lookup y=some .cell\/(relabel scope X.env).names.lookup y=some .free:=e3;have Vi:scope.names.lookup y≠some .local:=Vi;have e1':X.N[i]?=some y:=by rw[getElem?_eq_getElem hi];exact congrArg some hyy.symm
   have hfr':scope.names.lookup y=some .free:=by
    rcases e3' with z | z | z
    ·rcases eG z with z | z
     ·exact absurd z Vi
     ·cases z.1
    ·rcases eG z with z | z
     ·exact absurd rfl (S.Qq _ (PySem.mem_of_lookup z))
     ·exact z.2
    ·rcases eG z with z | z
     ·exact z
     ·cases z.1
   have hkx:=S.free _ (Qs y hfr') rfl;obtain ⟨m,hn,hl⟩:=I.loc;obtain ⟨u,r,l⟩:=hl i y v e1' e2' (hkx.elim (λz=>.inr (.inl z)) (λz=>.inr (.inr z)));refine ⟨u,r,?_⟩;rcases l with ⟨l,_⟩ | ⟨_,c,hc',hcell⟩
   ·have l:X.env.kindOf y=some .local:=l;rcases hkx with z | z<;>(rw[l]at z;cases z)
   ·obtain ⟨c2,hc2⟩:=w6 (env:=X.env) scope.names [] y (.inl (Qs y hfr'));have:=cl1 y c2 hc2;rw[hc']at this;cases this;refine .inr ⟨?_,c,hc2,?_⟩
    ·rcases e3' with z | z | z
     ·rcases eG z with z | z
      ·exact absurd z Vi
      ·cases z.1
     ·exact .inl z
     ·exact .inr z
    ·obtain ⟨o,ho,hd⟩:=hcell;exact ⟨o,hk _ _ ho,hd⟩
 ·obtain ⟨v,o,ho,hd⟩:=I.cell y c (cl1 y c e);exact ⟨v,o,hk _ _ ho,hd⟩
 ·exact absurd (show p∈([]:List (Addr×Obj)) from hp) (by simp)
 ·show (σ++replicate xs.length none).length=(M++xs).length;rw[length_append,length_append,length_replicate,I.len,S.len]
theorem Ip {pins:List (Addr×Obj)}{σ:L2.St}{H:Hp}{s:Shared}{b:Addr}(I:Inv X pins σ H s)(hf:mH X pins H b):b∉frs X.stack/\X.base.get? b=none:=by
 obtain ⟨_,h2,h3,h4,_⟩:=hf;refine ⟨λz=>?_,?_⟩
 ·rcases mem_cons.mp (I.Br b z) with q | q
  ·exact h2 q
  ·exact h3 q
 ·cases e:X.base.get? b with
  | none=>rfl
  | some o=>
   rcases h4 with z | z
   ·exact absurd z (I.ok.oG b o e)
   ·exact absurd (lt_of_lt_of_le (lt_size e) (le_trans I.ok.G4 z)) (lt_irrefl _)
theorem ZL {pins:List (Addr×Obj)}{σ σ':L2.St}{H H':Hp}{s s':Shared}{scope:Scope}{cl:List (Str×Addr)}{N':List Str}{fp:List Addr}{h'':Heap}(I:Inv X pins σ H s)(hf:∀b∈fp,mH X pins H b)(J:Inv (fK X scope cl N' s.heap.objs.size s H fp) [] σ' H' s')(hs:Heap.SameBut s.heap.objs.size s'.heap h''):Inv X pins σ H' {s' with heap:=h''}:=by
 have hos:=J.os;obtain ⟨hh,g,d,t,os⟩:=s';obtain rfl:os=s.os:=hos;have hok:d8 X.prog X.w H' h'':=λa u e=>by
  have hne:∀b,H' b≠none->b≠s.heap.objs.size:=λb hb z=>hb (by rw[z];exact J.free);refine (J.hok a u e).stay (λb o hb q=>hs.extBut b o (hne b ?_) q) (λ_ q=>q) λ_ _ q=>q;rcases hb with rfl | hb
  ·rw[e];simp
  ·rw[hb];simp
 have un:Un (frs X.stack) fp H H' s.heap h'':=by
  have u:=J.base;have ne:∀b o,s.heap.get? b=some o->b≠s.heap.objs.size:=λb o e=>ne_of_lt (lt_size e);exact ⟨λb o e n hb hx=>hs.extBut b o (ne b o e) (u.keep b o e n hb hx),λb o e n hb hx=>let ⟨sl,q⟩:=u.slot b o e n hb hx;⟨sl,hs.extBut b _ (ne b o e) q⟩,u.free,λb o e hx=>let ⟨o',q⟩:=u.there b o e hx;⟨o',hs.extBut b _ (ne b o e) q⟩,u.tups,u.jy,u.j7⟩
 show Inv X pins σ H' {s with heap:=h'',gens:=g,drawn:=d,toks:=t};exact Inv.call (h':=h'') (g':=g) (d':=d) (t':=t) (ch:=fp) I un hok J.bare λb hb=>⟨(hf b hb).2.2.2.1,(hf b hb).2.1,(hf b hb).2.2.2.2.1,(hf b hb).2.2.2.2.2⟩
theorem Qt {α:Type}{M:Model}{A:Around}{t:Sem α}{Q:α->Shared->Prop}{E:Value->Shared->Prop}{s:Shared}(h:wpAny M A t Q (λ_ _=>False) s):wpAny M A t Q E s:=wpAny_mono h (λ_ _ q=>q) λ_ _ f=>f.elim
theorem ZM {pg:Program}{wd:World}{A:Around}{elt tgt src:Expr}{ifs:List Expr}{sc:Scope}{pos:Pos}{it acc:Value}{env:Env}{R:Result->Shared->Prop}(W:Nat->Shared->Prop){Er:Value->Shared->Prop}(hEr:Er=notedBy (model pg wd) A env λe s'=>R (.error e) s')(turn:∀k t,W k t->wpAny (model pg wd) A (pyNext it) (λr t1=>match r with
   | none=>R (.ok .next) t1
   | some v=>wpAny (model pg wd) A (letOwnedTupleGo tgt it v) (λ_ t2=>wpAny (model pg wd) A (assign tgt env v) (λ_ t3=>
     wpAny (model pg wd) A (forIn ifs true λc r=>if r=true then do let ok <-isTrue c env (eval c env);pure (ForInStep.yield ok) else pure (ForInStep.yield r)) (λok t4=>if ok=true then wpAny (model pg wd) A (eval elt env) (λx t5=>
      wpAny (model pg wd) A (call (.builtin "list.append") [acc,x]) (λ_ t6=>∃m,m < k/\W m t6) Er t5) Er t4 else ∃m,m < k/\W m t4) Er t3) Er t2) Er t1) Er t) (k:Nat) {t:Shared} (h:W k t):codeAny (model pg wd) A (.compLoop (.ListComp elt [⟨tgt,src,ifs,0⟩] sc pos) 0 it acc env) R t:=by
 subst hEr;refine codeAny_loop rfl W (λk t hW=>?_) k h;show wpAny _ A ((compTurn (.ListComp elt [⟨tgt,src,ifs,0⟩] sc pos) 0 it acc env).onRaise _) _ _ t;refine wpAny_noted ?_;rw[compTurn_list];refine wpAny_bind (wpAny_standAt (wpAny_bind (wpAny_mono (turn k t hW) (λr t1 q1=>?_) λ_ _ z=>z)));cases r with
 | none=>exact wpAny_pure q1
 | some v=>
  refine wpAny_bind (wpAny_mono q1 (λ_ t2 q2=>wpAny_bind (wpAny_mono q2 (λ_ t3 q3=>wpAny_bind (wpAny_mono q3 (λok t4 q4=>?_) λ_ _ z=>z)) λ_ _ z=>z)) λ_ _ z=>z);cases ok with
  | false=>exact wpAny_pure ⟨rfl,q4⟩
  | true=>exact wpAny_bind (wpAny_bind (wpAny_mono q4 (λx t5 q5=>wpAny_bind (wpAny_mono q5 (λ_ t6 q6=>wpAny_pure (wpAny_pure ⟨rfl,q6⟩)) λ_ _ z=>z)) λ_ _ z=>z))
theorem M5 {pins:List (Addr×Obj)}{s:Shared}{σ:L2.St}{H:Hp}{Q:VK}{use:Option (Value->Sem Unit)}{QQ:Value->Shared->Prop}{pos':Pos}{tg elt iter:Expr}{ifs:List Expr}{M xs:List Str}{pos:Pos}{scope:Scope}{wi:TI}{bd:V->Hp->List V->Prop}{tc:TT}{te:TE}(hcalm:X.calm=true)(S:uE X scope M xs)(hi:PI X tg iter wi)(hbd:∀v H vs,bd v H vs->vs.length=xs.length)(hg:∀C s H fp,u_ (fK X scope (cL X.env scope.names []) (M++xs) C s H fp) tg X.N.length xs.length bd)(hc:∀C s H fp,xR (fK X scope (cL X.env scope.names []) (M++xs) C s H fp) ifs tc)(he:∀C s H fp,PE (fK X scope (cL X.env scope.names []) (M++xs) C s H fp) elt te)(hs:∀v,foldedSetIterable iter X.env v=pure v)(I:Inv X pins σ H s)(h:Oh wi bd tc te σ H Q)(fin:∀(D C:Addr) (s6:Shared) (H5:Hp) (m:Str->Option Value) (r:Flow),Inv X pins σ H5 s6->s6.heap.Ns C m->mH X pins H5 C->Q (.ref D) H5->compPost (model X.prog X.w) X.A X.xe use QQ (.ref D) C (.ok r) s6):
  wpAny (model X.prog X.w) X.A (comprehension (.ListComp elt [⟨tg,iter,ifs,0⟩] scope pos) scope X.env pos' (newList []) false (eval iter X.env) use) QQ X.xe s:=by
 have cells:∀z∈scope.names,z.2=.free->∃c,X.env.cells.lookup z.1=some c:=λz hz e=>I.ok.has z.1 (S.free z hz e);refine wpAny_comprehension_free (use:=use) rfl hs (Vh cells) S.kind S.names ?_;refine bf (hi pins s σ H _ I h) λv s1 h1=>bf h1 λitv s2 h2=>?_;obtain ⟨it,fp,tn,J,H2,e,I2,T,st2,f2,q2⟩:=h2;subst e
 -- the new list
 refine wpAny_newObj_type ?_;have hD:H2 s2.heap.objs.size=none:=I2.hok.fresh (le_refl _);have I3:Inv X pins σ (upd H2 s2.heap.objs.size (.lst [])) {s2 with heap:=s2.heap.push {cls:=.type "list",data:=.seq ([]:List Value).toArray}}:=
  I2.laid (t':=s2.toks) (λb u z=>get?_push_of_some _ z) (le_refl _) ⟨zero_le _,[],0,.nil,get?_push_size _ rfl⟩
 have am8:∀b∈fp,b≠s2.heap.objs.size:=λb hb=>by
  obtain ⟨o,ho,_⟩:=T.obj _ _ st2 b hb;exact ne_of_lt (lt_size ho)
 have f3:∀b∈fp,mH X pins (upd H2 s2.heap.objs.size (.lst [])) b:=λb hb=>⟨by rw[aU (am8 b hb)];exact (f2 b hb).1,(f2 b hb).2⟩
 have st3:tn 0 (s2.heap.push {cls:=.type "list",data:=.seq ([]:List Value).toArray}):=T.keep _ _ _ st2 λb _ o z=>get?_push_of_some _ z;obtain ⟨W,⟨m0,w0⟩,turn⟩:=q2 _ hD;generalize hD':s2.heap.objs.size=D at *;generalize hs3:({s2 with heap:=s2.heap.push {cls:=.type "list",data:=.seq ([]:List Value).toArray}}:Shared)=s3 at *;generalize hH3:upd H2 D (.lst [])=H3 at *;have st3:tn 0 s3.heap:=by rw[<-hs3];exact st3
 -- the frame
 refine wpAny_newFunctionEnv S.Qq (λy hy=>by simp at hy) (λh4 hns hsb=>?_) S.kind;have kp:∀b o,s3.heap.get? b=some o->h4.get? b=some o:=λb o z=>hsb.extBut b o (ne_of_lt (lt_size z)) (get?_push_of_some _ z);have hfs:∀b∈fp,b < s3.heap.objs.size:=λb hb=>by
  obtain ⟨o,ho,_⟩:=T.obj _ _ st3 b hb;exact lt_size ho
 have I4:=Xe (tk:=s3.toks+([]:List (Str×Value)).length) I3 hcalm S f3 hns kp hfs (λb hb=>(Ip I3 (f3 b hb)).1) (λb hb=>(Ip I3 (f3 b hb)).2);have am9:∀H5:Hp,H5 s3.heap.objs.size=none->mH X pins H5 s3.heap.objs.size:=λH5 hn5=>I3.Ia (le_refl _) hn5;generalize hC:s3.heap.objs.size=C at *;generalize hs4:({s3 with heap:=h4,toks:=s3.toks+([]:List (Str×Value)).length}:Shared)=s4 at *;have st4:tn 0 s4.heap:=by rw[<-hs4];exact T.keep _ _ _ st3 λb _ o z=>kp b o z
 have back:∀{σ':L2.St} {H':Hp} {s':Shared} {h'':Heap},Inv (fK X scope (cL X.env scope.names []) (M++xs) C s3 H3 fp) [] σ' H' s'->Heap.SameBut C s'.heap h''->Inv X pins σ H' {s' with heap:=h''}:=λJ hs'=>by
  subst hC;exact ZL I3 f3 J hs'
 have stat:∀{H':Hp},(∀b∈fp,H' b=none)->∀b∈fp,mH (fK X scope (cL X.env scope.names []) (M++xs) C s3 H3 fp) [] H' b:=λhn b hb=>by
  refine ⟨hn b hb,?_,?_,.inl hb,λy c e=>?_,λp hp=>absurd (show p∈([]:List (Addr×Obj)) from hp) (by simp)⟩
  ·show b≠C;exact ne_of_lt (hfs b hb)
  ·exact (Ip I3 (f3 b hb)).1
  ·exact (f3 b hb).2.2.2.2.1 y c (ni scope.names [] y c cells (λ_ _ e=>by cases e) e)
 have loop:codeAny (model X.prog X.w) X.A (.compLoop (.ListComp elt [⟨tg,iter,ifs,0⟩] scope pos) 0 (.ref it) (.ref D) (compEnvC scope (cL X.env scope.names []) C X.env)) (compPost (model X.prog X.w) X.A X.xe use QQ (.ref D) C) s4:=by
  refine ZM (Er:=_) (W:=λn s'=>∃i os H',os.length=xs.length/\Inv (fK X scope (cL X.env scope.names []) (M++xs) C s3 H3 fp) [] (σ++os) H' s'/\tn i s'.heap/\(∀b∈fp,H' b=none)/\W i n H') rfl ?_ m0 ⟨0,_,H3,length_replicate,I4,st4,λb hb=>(f3 b hb).1,w0⟩;rintro n s5 ⟨i,os,H5,los,I5,Sq,fr5,w5⟩;rcases turn i n H5 w5 with ⟨stop,qn⟩ | ⟨go,Nn,hNn,step⟩
  ·refine Qt (bf (T.done (fK X scope (cL X.env scope.names []) (M++xs) C s3 H3 fp) rfl rfl rfl hcalm i [] s5 _ H5 _ I5 (stat fr5) Sq stop) λr s6 ⟨hr,I6⟩=>?_);subst hr;obtain ⟨m,hn,_⟩:=I6.loc;exact fin D C s6 H5 m _ (back I6 ⟨rfl,λ_ _=>rfl⟩) hn (am9 H5 I6.free) qn
  ·refine Qt (bf (T.item (fK X scope (cL X.env scope.names []) (M++xs) C s3 H3 fp) rfl rfl rfl hcalm i [] s5 _ H5 (λ_ _=>False) I5 (stat fr5) Sq go) λr s6 ⟨u,hr,h6⟩=>?_);subst hr;refine Qt (bf h6 λ_ s6 ⟨v,H6,I6,r6,y6,st6,fr6⟩=>?_);have I6':=I6.pinned (stat fr6) (T.obj _ _ st6);obtain ⟨vs,hbv,step⟩:=step v _ y6;refine Qt (bf (hg C s3 H3 fp _ s6 σ os H6 v u vs I6' r6 hbv I.len los) λ_ s7 I7=>?_);refine Qt (bf (hc C s3 H3 fp _ s7 _ _ _ I7 step) λok s8 ⟨H8,I8,q8⟩=>?_);have again:∀{H9:Hp} {s9:Shared},Inv (fK X scope (cL X.env scope.names []) (M++xs) C s3 H3 fp) ([]++Bt fp s6.heap) (σ++vs.map some) H9 s9->Nn H9->∃m,m < n/\∃i os H',os.length=xs.length/\Inv (fK X scope (cL X.env scope.names []) (M++xs) C s3 H3 fp) [] (σ++os) H' s9/\tn i s9.heap/\(∀b∈fp,H' b=none)/\W i m H':=λ{H9 s9} I9 n9=>by
    obtain ⟨m',hm,w9⟩:=hNn _ n9;refine ⟨m',hm,i+1,vs.map some,H9,(by rw[length_map];exact hbd _ _ _ hbv),I9.wU,T.keep _ _ _ st6 λb hb o z=>(I9.pin (b,o) (mem_append_right _ (mem_append_right _ (pU hb z)))).1,λb hb=>?_,w9⟩;obtain ⟨o,z,d⟩:=T.obj _ _ st6 b hb;exact (I9.pin (b,o) (mem_append_right _ (mem_append_right _ (pU hb z)))).2.1
   cases ok with
   | false=>rw[if_neg (by decide)]at q8 ⊢;exact again I8 q8
   | true=>
    rw[if_pos rfl]at q8 ⊢;refine Qt (bf (he C s3 H3 fp _ s8 _ _ _ I8 q8) λy s9 ⟨yv,H9,I9,r9,ys,e9,hz,n9⟩=>?_);refine Qt (bf (MJ (X:=fK X scope (cL X.env scope.names []) (M++xs) C s3 H3 fp) _ s9 _ H9 (.ref D) [yv] (.ref D) [y] (λ_ H'=>Nn H') I9 rfl (.cons r9 .nil) ⟨D,ys,yv,rfl,rfl,e9,hz,n9⟩) λ_ s10 ⟨_,H10,I10,_,n10⟩=>?_);exact again I10 n10
 exact codeAny_compStart_list loop (T.self X.A 0 s4 _ _ st4 loop)
theorem acD (hcalm:X.calm=true)(S:uE X scope M xs)(hi:PI X tg iter wi)(hbd:∀v H vs,bd v H vs->vs.length=xs.length)(hg:∀C s H fp,u_ (fK X scope (cL X.env scope.names []) (M++xs) C s H fp) tg X.N.length xs.length bd)(hc:∀C s H fp,xR (fK X scope (cL X.env scope.names []) (M++xs) C s H fp) ifs tc)(he:∀C s H fp,PE (fK X scope (cL X.env scope.names []) (M++xs) C s H fp) elt te)(hs:∀v,foldedSetIterable iter X.env v=pure v):PE X (.ListComp elt [⟨tg,iter,ifs,0⟩] scope pos) (Oh wi bd tc te):=by
 intro pins s σ H Q I h;rw[eval_ListComp];refine M5 (use:=none) (QQ:=EP X pins σ Q) hcalm S hi hbd hg hc he hs I h λD C s6 H5 m r I6 hn hf q=>?_;exact ⟨m,hn,λh'' hs'=>⟨.ref D,H5,I6.turned (t':=s6.toks) (λb o hb e=>hs'.extBut b o hb e) hf.1 hf.2.1 hf.2.2.2.1 hf.2.2.2.2.1 hf.2.2.2.2.2,rfl,q⟩⟩
theorem acE (hcalm:X.calm=true)(S:uE X scope M xs)(hi:PI X tg iter wi)(hbd:∀v H vs,bd v H vs->vs.length=xs.length)(hg:∀C s H fp,u_ (fK X scope (cL X.env scope.names []) (M++xs) C s H fp) tg X.N.length xs.length bd)(hc:∀C s H fp,xR (fK X scope (cL X.env scope.names []) (M++xs) C s H fp) ifs tc)(he:∀C s H fp,PE (fK X scope (cL X.env scope.names []) (M++xs) C s H fp) elt te)(hs:∀v,foldedSetIterable iter X.env v=pure v)(hN:X.N.Nodup)(hy:X.N[i]?=some y)(hx:Loc X.env.scope y)(hf:X.fn y=true\/X.env.scope.names.lookup y=some .local)(hsw:swapsWith (.ListComp elt [⟨tg,iter,ifs,0⟩] scope pos) (some (.Name y py)) spos.line X.env=pure true):
  PS X (.Assign [.Name y py] (.ListComp elt [⟨tg,iter,ifs,0⟩] scope pos) spos) (Ze (Oh wi bd tc te) (U3 i)):=by
 intro pins s σ H D0 I h;rw[exec_Assign_Name_used _ _ _ _ hsw];refine wpAny_bind (wpAny_standAt (wpAny_bind ?_));show wpAny _ X.A (do let _ <-comprehension (.ListComp elt [⟨tg,iter,ifs,0⟩] scope pos) scope X.env _ (newList []) false (eval iter X.env) (some (assign (.Name y py) X.env))) _ _ s;refine wpAny_bind (bf (M5 (use:=some (assign (.Name y py) X.env)) (QQ:=λ_ s'=>SP X pins D0 .next s') hcalm S hi hbd hg hc he hs I h λD C s6 H5 m r I6 hn hfp q=>?_) λ_ s' hq=>wpAny_pure (wpAny_pure hq));show wpAny _ _ (assign (.Name y py) X.env (.ref D)) _ _ _;refine wpAny_assign_Name (Mu I6 hN hy hx (v:=.ref D) rfl (λs7 I7 ⟨a,sb,ha⟩=>?_) hf);have hne:C≠a:=by
  rcases ha with rfl | ha
  ·exact hfp.2.1
  ·exact (hfp.2.2.2.2.1 y a ha).symm
 refine ⟨m,hn.sameBut sb hne,λh'' hs'=>⟨_,H5,I7.turned (t':=s7.toks) (λb o hb e=>hs'.extBut b o hb e) hfp.1 hfp.2.1 hfp.2.2.2.1 hfp.2.2.2.2.1 hfp.2.2.2.2.2,q⟩⟩
end
section
variable {X:Cx}{sub:Nat->Nat->Bool}{Γ:Z.dB}{E:Z.PX}
theorem acF:xR X [] (Jz X.K (Z.lG sub Γ E .none)):=by
 intro pins s σ H Q I ⟨ρ,h,τ,Q',R,L,w,k⟩;simp only[Z.lG]at w;exact acB pins s σ H Q I (k true h ρ H .refl R w)
theorem afy (ht:LT X sub Γ E c t):xR X [c] (Jz X.K (Z.lG sub Γ E (.one t))):=by
 intro pins s σ H Q I ⟨ρ,h,τ,Q',R,L,w,k⟩;simp only[Z.lG]at w;exact acC ht pins s σ H Q I ⟨ρ,h,τ,Q',R,L,w,k⟩
def bd1:V->Hp->List V->Prop:=λv _ vs=>vs=[v]
theorem M6 (hN:X.N.Nodup)(hx:X.N[n]?=some x)(hl:X.env.scope.names.lookup x=some .local):u_ X (.Name x px) n 1 bd1:=by
 intro pins s σ os H v u vs I r hb hn hm;cases hb;obtain ⟨o,rfl⟩:=List.length_eq_one_iff.mp hm;refine bf (uU hN hx (.inl hl) (.inr hl) pins s _ H v u (λσ' H'=>σ'=σ++[some v]/\H'=H) I r ⟨?_,rfl⟩) λ_ s1 ⟨σ1,H1,I1,e1,e2⟩=>?_
 ·subst hn;rw[List.set_append_right _ _ (le_refl _)];simp
 ·subst e1 e2;exact I1
theorem cG.more {K:PySem.W.Frag}{ρ:List Addr}{H:Hp}{τ:Z.Lo}{σ:L2.St}{ds:List Z.D}{vs:List V}(L:cG K ρ H τ σ)(r:aq K ρ H ds vs):cG K ρ H (τ++ds.map some) (σ++vs.map some):=by
 refine ⟨by simp[L.1,r.length],λi d e=>?_⟩;by_cases hi:i < τ.length
 ·rw[getElem?_append_left hi]at e;rw[getElem?_append_left (by rw[<-L.1];exact hi)];exact L.2 i d e
 ·rw[getElem?_append_right (by lia),getElem?_map]at e;rw[getElem?_append_right (by rw[<-L.1];lia),getElem?_map,<-L.1];cases q:ds[i - τ.length]? with
  | none=>rw[q]at e;cases e
  | some d'=>
   rw[q]at e;cases e;obtain ⟨v,e1,e2⟩:=r.get q;exact ⟨v,by rw[e1];rfl,e2⟩
theorem aa7 {K:PySem.W.Frag}{ρ:List Addr}{H:Hp}{d:Z.D}{v:V}{τ jK:Z.Lo}{σ:L2.St}(r:ak K ρ H d v)(L:cG K ρ H τ σ)(e:Z.wO 1 d τ=some jK):∃vs,bd1 v H vs/\cG K ρ H jK (σ++vs.map some):=by
 have e:some (τ++[some d])=some jK:=by rw[<-e];cases d<;>rfl
 cases e;exact ⟨[v],rfl,cG.more (ds:=[d]) L (.one r)⟩
theorem M7 {xs:List Str}{nt:Nat}{kd:Z.IK}{src:Z.dH}{cond:Z.GZ}{jB:Z.Ex}{bd:V->Hp->List V->Prop}(hmb:∀{ρ H d v τ jK σ},ak X.K ρ H d v->cG X.K ρ H τ σ->Z.wO nt d τ=some jK->∃vs,bd v H vs/\cG X.K ρ H jK (σ++vs.map some)):
  ∀σ H Q,SQ X.K (Z.aL sub Γ E (.comp kd src nt cond jB)) σ H Q->Oh (upI X.K kd (Z.bB sub Γ E src)) bd (Jz X.K (Z.lG sub Γ E cond)) (SQ X.K (Z.aL sub Γ E jB)) σ H Q:=by
 rintro σ H Q ⟨ρ,h,τ,Q',R,L,w,k⟩;simp only[Z.aL]at w;refine ⟨ρ,h,τ,_,R,L,w,λds h1 aM H1 vs e1 R1 r1 w1=>?_⟩;cases eJ:Z.bM kd ds h1 with
 | none=>rw[eJ]at w1;exact w1.elim
 | some J=>
  rw[eJ]at w1;refine ⟨J,rfl,λJ' hJ D hD=>?_⟩;obtain ⟨W,⟨m,w0⟩,turn⟩:=w1;obtain ⟨eD,RD,rD⟩:=fQ (ds:=[]) (vs:=[]) R1 (by simp[aq]) hD;refine ⟨λi m H'=>∃ρ' h',Ext X.K (aM++[D]) (upd H1 D (.lst [])) ρ' H'/\Rep X.K ρ' h' H'/\W i m h',⟨m,_,_,.refl,RD,w0⟩,?_⟩;rintro n m H2 ⟨bL,h2,e2,R2,w2⟩;have t:=turn n m h2 w2;have j:=hJ n bL h2 H2 (eD.trans e2) R2;have hDn:bL[h1.length]?=some D:=e2.pre _ _ (by rw[<-R1.len,getElem?_append_right (le_refl _)];simp);cases ev:J n h2 with
  | none=>rw[ev]at t;exact t.elim
  | some o=>
   rw[ev]at t j;cases o with
   | none=>exact .inl ⟨j,k _ h2 bL H2 _ (e1.trans (eD.trans e2)) R2 (by simp only[ak];exact ⟨D,rfl,hDn⟩) t⟩
   | some d=>
    obtain ⟨go,yl⟩:=j;cases em:Z.wO nt d τ with
    | none=>simp only[em]at t
    | some W9=>
     simp only[em]at t;obtain ⟨Nn,hNn,t⟩:=t;refine .inr ⟨go,λH'=>∃m',m' < m/\∃ρ' h',Ext X.K (aM++[D]) (upd H1 D (.lst [])) ρ' H'/\Rep X.K ρ' h' H'/\W (n+1) m' h',λH' q=>q,λv H' hy=>?_⟩;obtain ⟨eX,R2,rv⟩:=yl v H' hy;have e2:=e2.trans eX;obtain ⟨vs',hb,Qi⟩:=hmb rv (L.mono (e1.trans (eD.trans e2))) em;have nx:∀{jj h3 H3},Ext X.K bL H' jj H3->Rep X.K jj h3 H3->Nn h3->∃m',m' < m/\∃ρ' h',Ext X.K (aM++[D]) (upd H1 D (.lst [])) ρ' H3/\Rep X.K ρ' h' H3/\W (n+1) m' h':=λe3 R3 q3=>by
      obtain ⟨m',hm,w3⟩:=hNn _ q3;exact ⟨m',hm,_,_,e2.trans e3,R3,w3⟩
     refine ⟨vs',hb,bL,h2,W9,_,R2,Qi,t,λc h3 jj H3 e3 R3 q3=>?_⟩;cases c with
     | false=>rw[if_neg (by decide)]at q3 ⊢;exact nx e3 R3 q3
     | true=>
      rw[if_pos rfl]at q3 ⊢;refine ⟨jj,h3,W9,_,R3,Qi.mono e3,q3,λd4 h4 ρ4 H4 y e4 R4 r4 q4=>?_⟩;change (match Z.O_ [.ref h1.length,d4] h4 with | some (_,h5)=>Nn h5 | none=>False) at q4;have hq:∃ys4,h4[h1.length]?=some (.lst ys4)/\ys4.length+1<=Z.lim/\Nn (h4.set h1.length (.lst (ys4++[d4]))):=by
       unfold Z.O_ at q4;cases e5:h4[h1.length]? with
       | none=>simp[e5]at q4
       | some o=>
        cases o with
        | lst ys4=>
         simp only[e5,Z.HN]at q4;by_cases hl:(ys4++[d4]).length<=Z.lim
         ·rw[if_pos hl]at q4;exact ⟨ys4,rfl,by simpa using hl,q4⟩
         ·rw[if_neg hl]at q4;exact q4.elim
        | _=>simp[e5]at q4
      obtain ⟨ys4,e5,hl,q5⟩:=hq;obtain ⟨a,ys,ra,hn,ha,rs⟩:=dY R4 (by simp only[ak];exact ⟨D,rfl,(e3.trans e4).pre _ _ hDn⟩) e5;cases ra;obtain ⟨e6,R6⟩:=sH (xs:=[]) R4 hn ha (rs.append (.one r4));exact ⟨ys,ha,by rw[<-rs.length,<-g8];lia,nx (e3.trans (e4.trans e6)) R6 q5⟩
theorem acG {tg elt iter:Expr}{ifs:List Expr}{M xs:List Str}{pos:Pos}{scope:Scope}{nt:Nat}{kd:Z.IK}{src:Z.dH}{cond:Z.GZ}{jB:Z.Ex}{bd:V->Hp->List V->Prop}(hcalm:X.calm=true)(S:uE X scope M xs)(hi:LI X sub Γ E tg iter kd src)(hbd:∀v H vs,bd v H vs->vs.length=xs.length)(hg:∀C s H fp,u_ (fK X scope (cL X.env scope.names []) (M++xs) C s H fp) tg X.N.length xs.length bd)(hmb:∀{ρ H d v τ jK σ},ak X.K ρ H d v->cG X.K ρ H τ σ->Z.wO nt d τ=some jK->∃vs,bd v H vs/\cG X.K ρ H jK (σ++vs.map some))(hc:∀C s H fp,xR (fK X scope (cL X.env scope.names []) (M++xs) C s H fp) ifs (Jz X.K (Z.lG sub Γ E cond)))(he:∀C s H fp,LE (fK X scope (cL X.env scope.names []) (M++xs) C s H fp) sub Γ E elt jB)(hs:∀v,foldedSetIterable iter X.env v=pure v):LE X sub Γ E (.ListComp elt [⟨tg,iter,ifs,0⟩] scope pos) (.comp kd src nt cond jB):=by
 refine gD (acD (te:=SQ X.K (Z.aL sub Γ E jB)) hcalm S hi hbd hg hc he hs) (M7 (xs:=xs) hmb)
theorem acH {i:Nat}{y:Str}{py spos:Pos}{tg elt iter:Expr}{ifs:List Expr}{M xs:List Str}{pos:Pos}{scope:Scope}{nt:Nat}{kd:Z.IK}{src:Z.dH}{cond:Z.GZ}{jB:Z.Ex}{bd:V->Hp->List V->Prop}(hcalm:X.calm=true)(S:uE X scope M xs)(hi:LI X sub Γ E tg iter kd src)(hbd:∀v H vs,bd v H vs->vs.length=xs.length)(hg:∀C s H fp,u_ (fK X scope (cL X.env scope.names []) (M++xs) C s H fp) tg X.N.length xs.length bd)(hmb:∀{ρ H d v τ jK σ},ak X.K ρ H d v->cG X.K ρ H τ σ->Z.wO nt d τ=some jK->∃vs,bd v H vs/\cG X.K ρ H jK (σ++vs.map some))(hc:∀C s H fp,xR (fK X scope (cL X.env scope.names []) (M++xs) C s H fp) ifs (Jz X.K (Z.lG sub Γ E cond)))(he:∀C s H fp,LE (fK X scope (cL X.env scope.names []) (M++xs) C s H fp) sub Γ E elt jB)(hs:∀v,foldedSetIterable iter X.env v=pure v)(hN:X.N.Nodup)(hy:X.N[i]?=some y)(hx:Loc X.env.scope y)(hf:X.fn y=true\/X.env.scope.names.lookup y=some .local)(hsw:swapsWith (.ListComp elt [⟨tg,iter,ifs,0⟩] scope pos) (some (.Name y py)) spos.line X.env=pure true):LS X sub Γ E (.Assign [.Name y py] (.ListComp elt [⟨tg,iter,ifs,0⟩] scope pos) spos) (.asg i (.comp kd src nt cond jB)):=by
 refine G_ (acE (te:=SQ X.K (Z.aL sub Γ E jB)) hcalm S hi hbd hg hc he hs hN hy hx hf hsw) ?_;rintro D σ H ⟨ρ,h,τ,N,R,L,w,k⟩;simp only[Z.wpS]at w;exact M7 (xs:=xs) hmb σ H _ ⟨ρ,h,τ,_,R,L,w,λd h1 aM H1 v e1 R1 r1 q1=>k.nx _ h1 aM H1 _ e1 R1 ((L.mono e1).set r1) q1⟩
theorem acI (hu:X.A.units+200 < cLine)(he:LE X sub Γ E e e')(ho:LE X sub Γ E o o')(hi:LE X sub Γ E i i')(ha:∀v,assign (.Subscript o i p) X.env v=(do let ov <-holding [v] (eval o X.env);let iv <-holding [v,ov] (eval i X.env);standAt p;holding [v,ov,iv] (setItem ov iv v);release [v,ov,iv] []))(hs:swapsWithSole [.Subscript o i p] e pos.line X.env=pure false)(hw:swappedStores [.Subscript o i p] e X.env=pure none):LS X sub Γ E (.Assign [.Subscript o i p] e pos) (.fB o' i' e'):=by
 refine G_ (Wv he (aeE ho hi (aft (sub:=sub) hu) ha) hs hw rfl) ?_;rintro D σ H ⟨ρ,h,τ,N,R,L,w,k⟩;simp only[Z.wpS]at w;refine ⟨ρ,h,τ,_,R,L,w,λd1 h1 aM H1 x e1 R1 r1 w1=>?_⟩;refine ⟨aM,h1,τ,_,R1,L.mono e1,w1,λd2 h2 bL H2 y e2 R2 r2 w2=>?_⟩;refine ⟨bL,h2,τ,_,R2,L.mono (e1.trans e2),w2,λd3 h3 jj H3 z e3 R3 r3 w3=>?_⟩;cases q:Z.prim sub .fB [d2,d3,d1] h3 with
 | none=>rw[q]at w3;exact w3.elim
 | some t=>
  rw[q]at w3;exact ⟨jj,h3,_,t.1,t.2,R3,am4 (ak.mono e3 _ _ r2) r3 (ak.mono (e2.trans e3) _ _ r1),q,λρ' H' v e' R' r'=>k.nx τ _ ρ' H' σ (e1.trans (e2.trans (e3.trans e'))) R' (L.mono (e1.trans (e2.trans (e3.trans e')))) w3⟩
end
end ZS
namespace ZS
open PySem PySem.Spec PyProof.Rows L2
section
variable [R0]
section
variable {X:Cx}{sub:Nat->Nat->Bool}{Γ:Z.dB}{E:Z.PX}
theorem zv (i:Nat)(hN:X.N[i]?=some x:=by rfl)(hv:Jr X.env.scope x:=by first | exact Or.inl rfl | exact Or.inr (Or.inl rfl) | exact Or.inr (Or.inr rfl))(hd:cN x:=by decide)(hcd:(x == ("__classdict__":Str))=false:=by decide):LE X sub Γ E (.Name x pos) (.var i):=afe hN hv hd hcd
theorem zi:LE X sub Γ E (.Constant (.int n) k pos) (.lit (.int n)):=BR aew λ_ _=>by simp only[ak]
theorem zb:LE X sub Γ E (.Constant (.bool b) k pos) (.lit (.bl b)):=BR aiq λ_ _=>by simp only[ak]
theorem zn:LE X sub Γ E (.Constant .none k pos) (.lit .non):=BR Pz λ_ _=>by simp only[ak]
theorem zs (h:s=⟨l.toArray⟩)(hl:l.length<=Z.lim):LE X sub Γ E (.Constant (.str s) k pos) (.lit (.str l)):=BR aex λ_ _=>by simp only[ak];exact ⟨congrArg V.str h,hl⟩
theorem zu (hr:cM k X.A):X.A.units+200 < cLine:=by have:=hr.un;lia
theorem aQ (hr:cM k X.A)(ha:LE X sub Γ E a a')(hb:LE X sub Γ E b b')(hs:uX b:=by intro _ _;rfl):LE X sub Γ E (.Subscript a b pos) (.prim .idx (.cons a' (.cons b' .nil))):=aiO (aiQ (zu hr)) ha hb hs
theorem aiS (he:LE X sub Γ E e e')(hes:LA X sub Γ E es es')(hs:eE X.env e es:=by rfl):LA X sub Γ E (e::es) (.cons e' es'):=acj he hes hs
theorem bW {x:Str}{id:String}{e:Expr}{es:List Expr}{es':Z.dH}{p:Z.Prim}{q pos:Pos}(hc:eZ X (.builtin id) (rP X.K sub p))(hm:X.mg x=none)(hv:bootBuiltins x=some (.builtin id))(ha:LA X sub Γ E (e::es) es')(hg:Gl X x:=by rfl)(hn:x≠"__name__":=by decide)(hdb:cN x:=by decide)(he:eE X.env e es:=by rfl)(hpl:iW X.env es pos:=by rfl):
  LE X sub Γ E (.Call (.Name x q) (e::es) [] pos) (.prim p es'):=Zw hc hg hm hv ha hn hdb he hpl
theorem oJ (hm:X.mg "isinstance"=none)(hmt:X.mg tn=none)(hvt:bootBuiltins tn=some (.type (S8 k)))(he:LE X sub Γ E e e')(hk:∀c,k≠.cls c:=by intro _ z;cases z)(hg:Gl X "isinstance":=by rfl)(hgt:Gl X tn:=by rfl)(hnn:tn≠"__name__":=by decide)(hdd:cN tn:=by decide)(hs:∀es,eE X.env e es:=by intro _;rfl):
  LE X sub Γ E (.Call (.Name "isinstance" p) [e,.Name tn p2] [] pos) (.prim (.fV k) (.cons e' .nil)):=afu hk hg hm hgt hmt hvt hnn hdd he hs
theorem cX {o e:Expr}{es:List Expr}{o':Z.Ex}{es':Z.dH}{m:Z.MK}{p:Z.Prim}{name:Str}{apos cpos:Pos}{id:String}(pa:PlainAttrs (JB m))(slot:Slot (JB m) name id)(hty:typeOf (.builtin id)=pure (.type "method_descriptor"))(hm:mD X id (λx xs=>rP X.K sub p (x::xs)))(ho:LE X sub Γ E o o')(ha:LA X sub Γ E (e::es) es')(hmk:m≠.dict:=by decide)(hmt:m≠.tuple:=by decide)(hbase:attributeBase o name X.env (eval o X.env)=eval o X.env:=by rfl)(hfew:((backTo cpos (starEach (e::es) X.env)).all (λx=>!x.1) && (backToKw cpos (keywordEach [] X.env)).all (λx=>x.1.isSome)
   && decide ((e::es).length+([]:List Keyword).length+(if ([]:List Keyword).isEmpty then 0 else 1) < 30))=true:=by rfl) (hline:(apos.endLine == cpos.line)=true:=by rfl) (hs:eE X.env e es:=by rfl) (hplain:iW X.env es cpos:=by rfl):
  LE X sub Γ E (.Call (.Attribute o name apos) (e::es) [] cpos) (.cQ m p o' es'):=afi hmk hmt pa slot hty hm ho ha hbase hfew hline hs hplain
theorem Gb {o:Expr}{o':Z.Ex}{m:Z.MK}{p:Z.Prim}{name:Str}{apos cpos:Pos}{id:String}(pa:PlainAttrs (JB m))(slot:Slot (JB m) name id)(hty:typeOf (.builtin id)=pure (.type "method_descriptor"))(hm:mD X id (λx xs=>rP X.K sub p (x::xs)))(ho:LE X sub Γ E o o')(hmk:m≠.dict:=by decide)(hmt:m≠.tuple:=by decide)(hbase:attributeBase o name X.env (eval o X.env)=eval o X.env:=by rfl)(hline:(apos.endLine == cpos.line)=true:=by rfl):
  LE X sub Γ E (.Call (.Attribute o name apos) [] [] cpos) (.cQ m p o' .nil):=acn hmk hmt pa slot hty hm ho hbase hline
theorem aa8 (hr:cM k X.A)(F:aP X.prog X.w X.K X.mg X.base bx k f fd ps (aW X.K Γ i))(hm:X.mg x=some (.ref f))(hk:keepIn X.K (.ref f)=true)(hb:Binds X.K fd ps [])(ha:LA X sub Γ E (e::es) es')(hg:Gl X x:=by rfl)(hdb:cN x:=by decide)(he:eE X.env e es:=by rfl)(hpl:iW X.env es pos:=by rfl):
  LE X sub Γ E (.Call (.Name x p) (e::es) [] pos) (.call i es' []):=S9 F hr hg hm hk hb .nil Vg (λ_ _=>by simp only[aq]) ha hdb he hpl
theorem d_ (ha:LE X sub Γ E a a')(he:∀whole,isTrue a X.env whole=(do let v <-whole;standAt a.pos;holding [v] (truthy v)):=by intro _;rfl):LT X sub Γ E a (.aR a'):=afk ha he
theorem dh (hp:Z.prim sub p=Z.Bh f)(ds:List Z.D)(h:Z.AH)(d:Z.D)(h':Z.AH)(e:Z.prim sub p ds h=some (d,h')):∃c,d=.bl c:=by
 rw[hp]at e;unfold Z.Bh at e;split at e
 ·cases e;exact ⟨_,rfl⟩
 ·cases e
theorem aX (hp:Z.prim sub p=Z.R9 n)(ds:List Z.D)(h:Z.AH)(d:Z.D)(h':Z.AH)(e:Z.prim sub p ds h=some (d,h')):∃c,d=.bl c:=by
 rw[hp]at e;unfold Z.R9 at e;split at e
 ·rename_i x y;cases z:Z.o8 h x y with
  | none=>rw[z]at e;cases e
  | some b=>rw[z]at e;cases e;exact ⟨_,rfl⟩
 ·cases e
theorem lK (hp:Z.prim sub p=Z.Mq n)(ds:List Z.D)(h:Z.AH)(d:Z.D)(h':Z.AH)(e:Z.prim sub p ds h=some (d,h')):∃c,d=.bl c:=by
 rw[hp]at e;unfold Z.Mq at e;split at e
 ·rename_i x ys;cases z:Z.dW x ys with
  | none=>rw[z]at e;cases e
  | some b=>rw[z]at e;cases e;exact ⟨_,rfl⟩
 ·rename_i x ys;cases z:Z.dW x ys with
  | none=>rw[z]at e;cases e
  | some b=>rw[z]at e;cases e;exact ⟨_,rfl⟩
 ·rename_i x a;split at e
  ·rename_i ys _;cases z:Z.dW x ys with
   | none=>rw[z]at e;cases e
   | some b=>rw[z]at e;cases e;exact ⟨_,rfl⟩
  ·cases z:Z.wI x with
   | none=>rw[z]at e;cases e
   | some b=>rw[z]at e;cases e;exact ⟨_,rfl⟩
  ·cases e
 ·cases e
theorem sJ (hp:Z.prim sub p=Z.KY n)(ds:List Z.D)(h:Z.AH)(d:Z.D)(h':Z.AH)(e:Z.prim sub p ds h=some (d,h')):∃c,d=.bl c:=by
 rw[hp]at e;unfold Z.KY at e;split at e
 ·cases e;exact ⟨_,rfl⟩
 ·cases e;exact ⟨_,rfl⟩
 ·cases e
theorem fX (he:LE X sub Γ E e e')(hs:swapsWith e none pos.line X.env=pure false:=by rfl):LS X sub Γ E (.Expr e pos) (.expr e'):=acp he hs
theorem aH (i:Nat)(hN:X.N.Nodup)(he:LE X sub Γ E e e')(hi:X.N[i]?=some x:=by rfl)(hx:Loc X.env.scope x:=by first | exact Or.inl rfl | exact Or.inr rfl)(hs:swapsWith e (some (.Name x pos')) pos.line X.env=pure false:=by rfl)(hf:X.fn x=true\/X.env.scope.names.lookup x=some .local:=by first | exact .inl rfl | exact .inr rfl):LS X sub Γ E (.Assign [.Name x pos'] e pos) (.asg i e'):=afl hN hi hx he hs hf
theorem Gd (hr:cM k X.A)(he:LE X sub Γ E e e')(ho:LE X sub Γ E o o')(hi:LE X sub Γ E i i')(ha:∀v,assign (.Subscript o i p) X.env v=(do let ov <-holding [v] (eval o X.env);let iv <-holding [v,ov] (eval i X.env);standAt p;holding [v,ov,iv] (setItem ov iv v);release [v,ov,iv] []):=by intro _;rfl)(hs:swapsWithSole [.Subscript o i p] e pos.line X.env=pure false:=by rfl)(hw:swappedStores [.Subscript o i p] e X.env=pure none:=by rfl):LS X sub Γ E (.Assign [.Subscript o i p] e pos) (.fB o' i' e'):=acI (zu hr) he ho hi ha hs hw
theorem iQ (i:Nat)(hp:PassesOwn (model X.prog X.w) X.A X.env X.xe)(hc:X.calm=true)(hN:X.N.Nodup)(hit:LI X sub Γ E (.Name x tpos) iter kd src)(hb:qy X sub Γ E body b')(hi:X.N[i]?=some x:=by rfl)(hx:Loc X.env.scope x:=by first | exact Or.inl rfl | exact Or.inr rfl)(hf:X.fn x=true\/X.env.scope.names.lookup x=some .local:=by first | exact .inl rfl | exact .inr rfl)(hs:∀x,foldedSetIterable iter X.env x=pure x:=by intro _;rfl):LS X sub Γ E (.For (.Name x tpos) iter body [] pos) (.d9 [i] kd src b'):=afn (tg:=iter) hp hc hN hi hx hf hit hb hs
def Oi (N M xs:List Str)(sc0 scope:Scope):Bool:=
 decide (scope.kind=.function) && decide ((M++xs).Nodup) && decide (M.length=N.length)
  && (M.zip N).all (λp=>decide (scope.names.lookup p.1=none) || (decide (p.1=p.2) && !decide (scope.names.lookup p.1=some .local)))
  && scope.names.all (λy=>decide (y.2≠.cell) && (decide (y.2≠.free) || decide (sc0.names.lookup y.1=some .cell) || decide (sc0.names.lookup y.1=some .free)) && (decide (y.2≠.local) || decide (scope.names.lookup y.1=some .local)))
  && xs.all (λx=>decide (scope.names.lookup x=some .local))
theorem uE.of (h:Oi N M xs sc0 scope=true)(hN:X.N=N)(hs:X.env.scope=sc0):uE X scope M xs:=by
 unfold Oi at h;simp only[and_eq_true,decide_eq_true_eq,all_eq_true,or_eq_true]at h;obtain ⟨⟨⟨⟨⟨h1,h2⟩,h3⟩,h4⟩,h5⟩,h6⟩:=h;refine ⟨h1,h2,by rw[hN];exact h3,λp hp=>?_,λy hy=>(h5 y hy).1.1,λy hy e=>?_,h6,λy hy e=>?_⟩
 ·rw[hN]at hp;rcases h4 p hp with z | z
  ·exact .inl z
  ·exact .inr ⟨z.1,by simpa using z.2⟩
 ·show X.env.scope.names.lookup y.1=_\/X.env.scope.names.lookup y.1=_;rw[hs];rcases (h5 y hy).1.2 with (z | z) | z
  ·exact absurd e z
  ·exact .inl z
  ·exact .inr z
 ·rcases (h5 y hy).2 with z | z
  ·exact absurd e z
  ·exact z
theorem afz (N M:List Str)(sc0:Scope){x:Str}{px:Pos}{elt iter:Expr}{ifs:List Expr}{pos:Pos}{scope:Scope}{kd:Z.IK}{src:Z.dH}{cond:Z.GZ}{jB:Z.Ex}(hcalm:X.calm=true)(hi:LI X sub Γ E (.Name x px) iter kd src)(hc:∀C s H fp,xR (fK X scope (cL X.env scope.names []) (M++[x]) C s H fp) ifs (Jz X.K (Z.lG sub Γ E cond)))(he:∀C s H fp,LE (fK X scope (cL X.env scope.names []) (M++[x]) C s H fp) sub Γ E elt jB)(hS:Oi N M [x] sc0 scope=true:=by decide+kernel)(hN:X.N=N:=by rfl)(hs0:X.env.scope=sc0:=by rfl)(hs:∀v,foldedSetIterable iter X.env v=pure v:=by intro _;rfl):LE X sub Γ E (.ListComp elt [⟨.Name x px,iter,ifs,0⟩] scope pos) (.comp kd src 1 cond jB):=by
 have S:=uE.of hS hN hs0;refine acG (bd:=bd1) hcalm S hi (λv H vs e=>by rw[e];rfl) (λC s H fp=>M6 S.nd ?_ (lookup_relabel_local (S.loc x (by simp)))) (λr L e=>aa7 r L e) hc he hs;show (M++[x])[X.N.length]?=_;rw[<-S.len,getElem?_append_right (le_refl _)];simp
theorem afA (i:Nat){y:Str}{py spos:Pos}(hNd:X.N.Nodup)(N M:List Str)(sc0:Scope){x:Str}{px:Pos}{elt iter:Expr}{ifs:List Expr}{pos:Pos}{scope:Scope}{kd:Z.IK}{src:Z.dH}{cond:Z.GZ}{jB:Z.Ex}(hcalm:X.calm=true)(hi:LI X sub Γ E (.Name x px) iter kd src)(hc:∀C s H fp,xR (fK X scope (cL X.env scope.names []) (M++[x]) C s H fp) ifs (Jz X.K (Z.lG sub Γ E cond)))(he:∀C s H fp,LE (fK X scope (cL X.env scope.names []) (M++[x]) C s H fp) sub Γ E elt jB)(hS:Oi N M [x] sc0 scope=true:=by decide+kernel)(hN:X.N=N:=by rfl)(hs0:X.env.scope=sc0:=by rfl)(hs:∀v,foldedSetIterable iter X.env v=pure v:=by intro _;rfl)(hy:X.N[i]?=some y:=by rfl)(hly:Loc X.env.scope y:=by first | exact Or.inl rfl | exact Or.inr rfl)(hfy:X.fn y=true\/X.env.scope.names.lookup y=some .local:=by first | exact .inl rfl | exact .inr rfl)(hsw:swapsWith (.ListComp elt [⟨.Name x px,iter,ifs,0⟩] scope pos) (some (.Name y py)) spos.line X.env=pure true:=by rfl):LS X sub Γ E (.Assign [.Name y py] (.ListComp elt [⟨.Name x px,iter,ifs,0⟩] scope pos) spos) (.asg i (.comp kd src 1 cond jB)):=by
 have S:=uE.of hS hN hs0;refine acH (bd:=bd1) hcalm S hi (λv H vs e=>by rw[e];rfl) (λC s H fp=>M6 S.nd ?_ (lookup_relabel_local (S.loc x (by simp)))) (λr L e=>aa7 r L e) hc he hs hNd hy hly hfy hsw;show (M++[x])[X.N.length]?=_;rw[<-S.len,getElem?_append_right (le_refl _)];simp
theorem Le {body:List Stmt}{df:Z.Def}{N:List Str}{K:PySem.W.Frag}{ρ:List Addr}{h:Z.AH}{H:Hp}{ds:List Z.D}{vs:List V}{Q:VK}{Q':Z.PV}(hK:X.K=K)(hN:N.length=df.nl)(hp:ds.length=df.np)(J:qy X sub Γ E body df.body)(R:Rep K ρ h H)(r:aq K ρ H ds vs)(w:Z.bw sub Γ E df.body {nx:=λ_ h=>Q' .non h,rt:=Q'} (ds.map some++replicate (df.nl - df.np) none) h)(k:∀d h' ρ' H' v,Ext K ρ H ρ' H'->Rep K ρ' h' H'->ak K ρ' H' d v->Q' d h'->Q v H'):
  ∃t,mC X body t/\t {nx:=λ_ H'=>Q .non H',rt:=Q} (L2.start N vs) H:=by
 subst hK;refine ⟨_,J,ρ,h,_,_,R,?_,w,⟨λτ h' ρ' H' σ e R' L q=>k _ h' ρ' H' _ e R' (by simp only[ak]) q,k,λ_ _ _ _ _ _ _ _ q=>q.elim,λ_ _ _ _ _ _ _ _ q=>q.elim⟩⟩;have hl:=r.length;refine ⟨by simp[L2.start,hl,hN,<-hp],λi d e=>?_⟩;unfold L2.start;by_cases hi:i < ds.length
 ·rw[getElem?_append_left (by simpa using hi),getElem?_map]at e;rw[getElem?_append_left (by simpa [<-hl] using hi),getElem?_map];cases q:ds[i]? with
  | none=>rw[q]at e;cases e
  | some d'=>
   rw[q]at e;cases e;obtain ⟨v,e1,e2⟩:=r.get q;exact ⟨v,by rw[e1];rfl,e2⟩
 ·rw[getElem?_append_right (by simpa using hi),List.getElem?_replicate]at e;split at e<;>cases e
end
theorem bY:bootBuiltins "len"=some (.builtin "len"):=by decide+kernel
theorem Ge:bootBuiltins "list"=some (.type "list"):=by decide+kernel
theorem Qu:bootBuiltins "tuple"=some (.type "tuple"):=by decide+kernel
theorem afC:bootBuiltins "int"=some (.type "int"):=by decide+kernel
theorem acJ:bootBuiltins "bool"=some (.type "bool"):=by decide+kernel
theorem Cd:bootBuiltins "str"=some (.type "str"):=by decide+kernel
theorem Hi:bootBuiltins "reversed"=some (.type "reversed"):=by decide+kernel
theorem Qv {K:PySem.W.Frag}{ρ:List Addr}{H:Hp}:∀ns:List Int,aq K ρ H (ns.map .int) (ns.map V.int)
 | []=>by simp only[map_nil,aq]
 | n::ns=>by simp only[map_cons,aq];exact ⟨_,_,rfl,by simp only[ak],Qv ns⟩
end
theorem ext_nil {H:Hp}{K:PySem.W.Frag}:Ext K [] (λ_=>none) [] H:=⟨(λ_ _ e=>e),(λ_ _ e=>by cases e),(λ_ _ _ e=>by cases e)⟩
noncomputable abbrev R0.nil:R0:=⟨[],λ_=>none⟩
theorem ZP {K:PySem.W.Frag}{H:Hp}{a:Addr}{ns:List Int}{sub:Nat->Nat->Bool}{Pg:List Z.Def}{k i:Nat}(hO:Only H)(hS:jd K H a (ns.map V.int))(hZ:∀o,K.lookup a=some o->o.slots=#[])(w:Z.au sub Pg k i [.fu (ns.map .int)] [] (λd _=>d=.bl true) λ_ _=>False):
  @aW R0.nil K (Z.au sub Pg k) i [.ref a] H (λv _=>v=.bl true) λ_ _ _=>False:=by
 letI:R0:=R0.nil;refine ⟨[],[],[.fu (ns.map .int)],_,λ_ _=>False,⟨rfl,List.nodup_nil,ext_nil,λn o e=>by simp at e⟩,.one ?_,w,λd h' ρ' H' v e R r q=>?_⟩
 ·simp only[ak];refine ⟨a,_,rfl,?_,Qv ns⟩;rcases hS with (h | ⟨o,h⟩) | h
  ·rcases hO a with z | ⟨o,xs,z⟩
   ·rw[z]at h;cases h
   ·rw[z]at h;cases h
  ·exact .inl ⟨o,h⟩
  ·obtain ⟨o,its,n,h1,h2,h3,h4,h5,h6⟩:=h;exact .inr ⟨o,its,n,h1,h2,h3,h4,h5,h6,hZ o h1⟩
 ·subst q;simpa only[ak] using r
variable [R0]
section
variable {X:Cx}{sub:Nat->Nat->Bool}{Γ:Z.dB}{E:Z.PX}
theorem M8:∀{ss:List Z.S} {i:Nat},Z.gk x ss=some i->ss[i]?=some x/\∀m,m < i->∀y,ss[m]?=some y->y≠x
 | [],i,e=>by cases e
 | y::r,i,e=>by
  unfold Z.gk at e;split at e
  ·rename_i h;cases e;subst h;exact ⟨rfl,λm hm=>absurd hm (Nat.not_lt_zero m)⟩
  ·rename_i h;cases q:Z.gk x r with
   | none=>rw[q]at e;cases e
   | some j=>
    rw[q]at e;cases e;obtain ⟨h1,h2⟩:=M8 q;refine ⟨by simpa using h1,λm hm z hz=>?_⟩;cases m with
    | zero=>simp at hz;subst hz;exact h
    | succ m=>exact h2 m (Nat.lt_of_succ_lt_succ hm) z (by simpa using hz)
def eStr (x:Z.S):Value->Bool
 | .str s _=>s == (⟨x.toArray⟩:Str)
 | _=>false
theorem JK:∀{us:List Value} {ss:List Str},StrsAre us ss->∃l:List (Str×Tok),us=strValues l/\l.map (·.1)=ss
 | _,_,.nil=>⟨[],rfl,rfl⟩
 | _,_,.cons s t h=>by
  obtain ⟨l,rfl,e⟩:=JK h;exact ⟨(s,t)::l,rfl,by simp[e]⟩
theorem xq (sep:Z.S):∀ss:List Z.S,Str.join ⟨sep.toArray⟩ (ss.map λs=>(⟨s.toArray⟩:Str))=⟨(Z.fH sep ss).toArray⟩
 | []=>rfl
 | [x]=>rfl
 | x::y::r=>by
  have ih:=xq sep (y::r);show (⟨x.toArray⟩++⟨sep.toArray⟩++Str.join ⟨sep.toArray⟩ ((y::r).map λs=>(⟨s.toArray⟩:Str)):Str)=_;rw[ih,Qk,Qk];rfl
theorem qF:mD X "str.join" (λx xs=>rP X.K sub .join (x::xs)):=by
 intro pins s σ H x xs v us Q I rx qG ⟨ρ,h,ds,d,h',R,r,q,k⟩;change Z.UG _ _=_ at q;unfold Z.UG at q;split at q
 ·rename_i sep n;simp only[aq]at r;obtain ⟨x',t,e,r1,y',t2,e2,r2,rfl⟩:=r;subst e2;cases e;simp only[ak]at r1;obtain ⟨rfl,_⟩:=r1;obtain ⟨tk,rfl⟩:=rx;obtain ⟨u,rfl,ru⟩:=qG.one;split at q
  ·rename_i zs e1;obtain ⟨a,ys,rfl,hn,ha,rs⟩:=dY R r2 e1;cases ru;cases es:Z.strsOf zs with
   | none=>rw[es]at q;cases q
   | some ss=>
    rw[es,bind_some]at q;split at q
    ·rename_i hl;cases q;obtain ⟨its,vv,pl,_⟩:=I.list (.of ha);obtain ⟨sa,hlim⟩:=wZ rs vv es;obtain ⟨l,rfl,el⟩:=JK sa;have hJ:JoinOk ⟨sep.toArray⟩ (ss.map λs=>(⟨s.toArray⟩:Str))=true:=by
      unfold JoinOk Builtin.Str.tooLong;rw[StrLaws.joinTotal];have e1:((ss.map λs=>(⟨s.toArray⟩:Str)).map (·.length)).sum=(ss.map λs=>s.length).sum:=by
       rw[List.map_map];congr 1
      rw[e1,length_map,gH,<-g8];simp;lia
     refine SC.join pl.isList el hJ λt' kk=>?_;refine ⟨.str ⟨(Z.fH sep ss).toArray⟩,H,I.tok _,⟨t',?_⟩,k ρ H _ .refl R ?_⟩
     ·show Value.str (Builtin.Str.glued _ _) t'=_;rw[StrLaws.glued_eq_join,xq]
     ·simp only[ak,true_and];have h1:=StrLaws.join_length_le ⟨sep.toArray⟩ (ss.map λs=>(⟨s.toArray⟩:Str));rw[xq,gH,length_map,gH]at h1;have e1:((ss.map λs=>(⟨s.toArray⟩:Str)).map (·.length)).sum=(ss.map λs=>s.length).sum:=by
       rw[List.map_map];congr 1
      rw[e1]at h1;exact le_trans h1 hl
    ·cases q
  ·cases q
 ·cases q
def ZQ (lo st:Int)(n:Nat):It:=⟨λi _=>i < n,λi H x H'=>H'=H/\x=.int (lo+i * st),λi _=>n<=i⟩
theorem RL {P:Program}{w:World}{K:PySem.W.Frag}{tg:Expr}(it:Addr)(lo st0:Int)(n:Nat):Turn P w K tg (ZQ lo st0 n) [it] it (λi h=>IsRangeIter h it (lo+(i:Nat) * st0) ((n:Int) - (i:Nat)) st0) where
 mem:=by simp
 obj:=λi h st b hb=>by
  have e:b=it:=by simpa using hb
  subst e;exact ⟨_,st,λv z=>by have z':Data.fields _=Data.cell v:=z;cases z'⟩
 keep:=λi h h' st k=>k it (by simp) _ st
 item:=by
  intro X hP hw hK hc i pins s σ H E I hf st hg;subst hP hw hK;obtain ⟨f0,f1,f2,f3,f4,f5⟩:=hf it (by simp);have W:=Walks.range (prog:=X.prog) (w:=X.w) (I.ok.hd hc) it lo st0 n;refine W.item i s _ _ hg st λv h' tk hv st' kk=>?_;obtain ⟨t,rfl⟩:=hv;have I1:Inv X pins σ H {s with heap:=h',toks:=tk}:=I.turned (λb o hb e=>kk b o (by simpa using hb) e) f0 f1 f3 f4 f5;exact ⟨_,rfl,FP (s:={s with heap:=h',toks:=tk}) (n:="range_iterator") st' rfl rfl (by decide) ⟨.int (lo+i * st0),H,I1,⟨t,rfl⟩,⟨rfl,rfl⟩,st',λb hb=>(hf b hb).1⟩⟩
 done:=by
  intro X hP hw hK hc i pins s σ H E I hf st hg;subst hP hw hK;obtain ⟨f0,f1,f2,f3,f4,f5⟩:=hf it (by simp);exact wpAny_pyNext_range_end (I.ok.hd hc) st (by have:n<=i:=hg;lia) λh' eb=>⟨rfl,I.turned (t':=s.toks) (λb o hb e=>eb b o hb e) f0 f1 f3 f4 f5⟩
 self:=λ_ _ _ _ _ st h=>wpAny_pyIter_rangeiter st h
theorem rsize (hc:0 < c):Builtin.Range.rangeSize a b c=(((if a < b then ((b - a - 1) / c+1).toNat else 0:Nat):Int)):=by
 unfold Builtin.Range.rangeSize;rw[if_pos hc];split
 ·have:0<=(b - a - 1) / c:=Int.ediv_nonneg (by lia) (by lia)
  lia
 ·rfl
theorem afD (h:Z.R8 a b c=true):Builtin.Range.small a b c=true:=by
 obtain ⟨h1,h2,h3,h4,h5,h6⟩:=Z.KQ.mp h;have hb:0<=Builtin.Range.rangeSize a b c/\Builtin.Range.rangeSize a b c<=8589934592:=by
  unfold Builtin.Range.rangeSize;rw[if_pos h5];split
  ·have k1:0<=(b - a - 1) / c:=Int.ediv_nonneg (by lia) (by lia);have k2:(b - a - 1) / c<=b - a - 1:=Int.ediv_le_self _ (by lia)
   lia
  ·lia
 unfold Builtin.Range.small;have f:∀x:Int,-9000000000<=x->x<=9000000000->Builtin.Range.rangeFitsLong x=true:=λx a b=>by
  unfold Builtin.Range.rangeFitsLong;simp;lia
 rw[f a (by lia) (by lia),f b (by lia) (by lia),f c (by lia) (by lia),f _ (by lia) (by lia),if_pos h5,f (b+(c - 1)) (by lia) (by lia)];simp
theorem Xf {K:PySem.W.Frag}{ρ:List Addr}{H:Hp}{lo st:Int}{n:Nat}:Il K ρ H (Z.uT lo st n) (ZQ lo st n):=by
 intro i aM h1 H1 e1 R1;unfold Z.uT;by_cases hi:i < n
 ·rw[if_pos hi];refine ⟨hi,λx H' hy=>mJ R1 hy.1 ?_⟩;simp only[ak];rw[hy.2,Int.mul_comm]
 ·rw[if_neg hi];exact le_of_not_lt hi
theorem acK (hg:Gl X "range")(hm:X.mg "range"=none)(ha:LA X sub Γ E [a,b,c] (.cons a' (.cons b' (.cons c' .nil))))(hs:starEach [a,b,c] X.env=(false,eval a X.env)::starEach [b,c] X.env:=by rfl)(hpl:(backTo pos (starEach [b,c] X.env)).any (·.1)=false:=by rfl):
  LI X sub Γ E tg (.Call (.Name "range" p) [a,b,c] [] pos) .rng (.cons a' (.cons b' (.cons c' .nil))):=by
 intro pins s σ H Rr I ⟨ρ,h,τ,Q',R,L,w,k⟩;have up:Zu X.K (Z.bB sub Γ E (.cons a' (.cons b' (.cons c' .nil)))) σ H (λvs H1=>∃(i j l:Int),vs=[.int i,.int j,.int l]/\Z.R8 i j l=true/\Rr (ZQ i l (if i < j then ((j - i - 1) / l+1).toNat else 0)) H1):=by
  refine ⟨ρ,h,τ,λds h1=>match ds with | [x,y,z]=>Q' [x,y,z] h1 | _=>False,R,L,(by simpa only[Z.bB] using w),λds h1 aM H1 vs e1 R1 r1 q=>?_⟩;obtain ⟨x,y,z,rfl⟩:∃x y z,ds=[x,y,z]:=by
   match ds,q with
   | [x,y,z],_=>exact ⟨x,y,z,rfl⟩
  obtain ⟨J,eJ,hk⟩:=k _ h1 aM H1 vs e1 R1 r1 q;have key:∃i j l:Int,[x,y,z]=[Z.D.int i,.int j,.int l]/\Z.R8 i j l=true/\J=Z.uT i l (if i < j then ((j - i - 1) / l+1).toNat else 0):=by
   ·cases x with
    | int i=>
     cases y with
     | int j=>
      cases z with
      | int l=>
       simp only[Z.bM,Z.iZ,Z.iR,Z.i_,Z.jc,Z.iw]at eJ;split at eJ
       ·rename_i ok;cases eJ;exact ⟨i,j,l,rfl,ok,rfl⟩
       ·cases eJ
      | _=>simp only[Z.bM,Z.iZ,Z.iR,Z.i_,Z.jc,Z.iw]at eJ;cases eJ
     | _=>simp only[Z.bM,Z.iZ,Z.iR,Z.i_,Z.jc,Z.iw]at eJ;cases eJ
    | _=>simp only[Z.bM,Z.iZ,Z.iR,Z.i_,Z.jc,Z.iw]at eJ;cases eJ
  obtain ⟨i,j,l,ek,ok,rfl⟩:=key;cases ek;simp only[aq,ak]at r1;obtain ⟨_,_,rfl,rfl,_,_,rfl,rfl,_,_,rfl,rfl,rfl⟩:=r1;exact ⟨i,j,l,rfl,ok,hk _ Xf⟩
 refine Call_ (qw I hg hm boot_range (PyProof.Rows.callWith_type1 (bf (ha pos pins s σ H _ I up) λus s1 ⟨vs,H1,I1,r1,q1⟩=>?_) hs hpl));obtain ⟨i,j,l,rfl,ok,q⟩:=q1;have ok':=Z.KQ.mp ok;cases r1 with
 | cons r rr=>
  cases rr with
  | cons r' rr=>
   cases rr with
   | cons r'' rr=>
    cases rr;obtain ⟨t,rfl⟩:=r;obtain ⟨t',rfl⟩:=r';obtain ⟨t'',rfl⟩:=r'';refine call_range_3 (by lia) ?_ (.inl (PyProof.noPylong_small (by lia)));have I2:Inv X pins σ H1 {s1 with heap:=s1.heap.push {cls:=.type "range",data:=.fields #[.int i t,.int j t',.int l t'']},toks:=s1.toks}:=I1.kept λb o e=>get?_push_of_some _ e;refine wpAny_pyIter_range (IsRange.new ..) (afD ok) ?_;refine ⟨(s1.heap.push {cls:=.type "range",data:=.fields #[.int i t,.int j t',.int l t'']}).objs.size,[(s1.heap.push {cls:=.type "range",data:=.fields #[.int i t,.int j t',.int l t'']}).objs.size],_,_,H1,rfl,I2.kept (t':=s1.toks) λb o e=>get?_push_of_some _ e,RL _ i l _,?_,λb hb=>?_,q⟩
    ·have e1:i+((0:Nat):Int) * l=i:=by simp
     show IsRangeIter _ _ (i+((0:Nat):Int) * l) ((((if i < j then ((j - i - 1) / l+1).toNat else 0:Nat):Nat):Int) - ((0:Nat):Int)) l;rw[e1,<-rsize (by lia)];have e2:∀x:Int,x - ((0:Nat):Int)=x:=λx=>by simp
     rw[e2];exact get?_push_size _ rfl
    ·have e:b=(s1.heap.push {cls:=.type "range",data:=.fields #[.int i t,.int j t',.int l t'']}).objs.size:=by simpa using hb
     subst e;exact I2.Ia (le_refl _) (I2.hok.fresh (le_refl _))
theorem aiT {K:PySem.W.Frag}{ρ:List Addr}{H:Hp}{d:Z.D}{v:V}{τ jK:Z.Lo}{σ:L2.St}{i j l:Nat}(r:ak K ρ H d v)(L:cG K ρ H τ σ)(e:Z.jP [i,j,l] d τ=some jK):
  ∃a v1 v2 v3,v=.ref a/\gA K H a [v1,v2,v3]/\cG K ρ H jK (((σ.set i (some v1)).set j (some v2)).set l (some v3)):=by
 cases d with
 | tup ds=>
  simp only[Z.jP]at e;split at e
  ·rename_i hl;cases e;simp only[ak]at r;obtain ⟨a,ys,rfl,q,r⟩:=r
   match ds,hl with
   | [d1,d2,d3],_=>
    simp only[aq]at r;obtain ⟨v1,_,rfl,r1,v2,_,rfl,r2,v3,_,rfl,r3,rfl⟩:=r;exact ⟨a,v1,v2,v3,rfl,q,((L.set r1).set r2).set r3⟩
  ·cases e
 | _=>simp[Z.jP]at e
theorem aiU (i j l:Nat){x y z:Str}{e:Expr}{e':Z.Ex}{px py pz pt pos:Pos}{k:Nat}(hc:X.calm=true)(hN:X.N.Nodup)(he:LE X sub Γ E e e')(hi:X.N[i]?=some x:=by rfl)(hj:X.N[j]?=some y:=by rfl)(hl:X.N[l]?=some z:=by rfl)(hx:Loc X.env.scope x:=by first | exact Or.inl rfl | exact Or.inr rfl)(hy:Loc X.env.scope y:=by first | exact Or.inl rfl | exact Or.inr rfl)(hz:Loc X.env.scope z:=by first | exact Or.inl rfl | exact Or.inr rfl)(hfx:X.fn x=true\/X.env.scope.names.lookup x=some .local:=by first | exact .inl rfl | exact .inr rfl)(hfy:X.fn y=true\/X.env.scope.names.lookup y=some .local:=by first | exact .inl rfl | exact .inr rfl)(hfz:X.fn z=true\/X.env.scope.names.lookup z=some .local:=by first | exact .inl rfl | exact .inr rfl)(hs:swapsWithSole [.Tuple [.Name x px,.Name y py,.Name z pz] k pt] e pos.line X.env=pure false:=by rfl)(hw:swappedStores [.Tuple [.Name x px,.Name y py,.Name z pz] k pt] e X.env=pure none:=by rfl):LS X sub Γ E (.Assign [.Tuple [.Name x px,.Name y py,.Name z pz] k pt] e pos) (.Wk [i,j,l] e'):=by
 refine G_ (Wv he (aeD (n:=3) hc (H_ (uU (pos:=px) hN hi hx hfx) (H_ (uU (pos:=py) hN hj hy hfy) (H_ (uU (pos:=pz) hN hl hz hfz) ab6))) (by rfl) (by rfl)) hs hw rfl) ?_;rintro D σ H ⟨ρ,h,τ,N,R,L,w,k⟩;simp only[Z.wpS]at w;refine ⟨ρ,h,τ,_,R,L,w,λd1 h1 aM H1 v e1 R1 r1 w1=>?_⟩;cases eb:Z.jP [i,j,l] d1 τ with
 | none=>rw[eb]at w1;exact w1.elim
 | some jK=>
  rw[eb]at w1;obtain ⟨a,v1,v2,v3,rfl,hS,L'⟩:=aiT r1 (L.mono e1) eb;exact ⟨a,_,rfl,hS,rfl,v1,_,rfl,v2,_,rfl,v3,_,rfl,rfl,k.nx jK h1 aM H1 _ e1 R1 L' w1⟩
end
theorem Qw (its:List Value):∀m:Nat,m<=its.length->((List.range m).map λ(k:Nat)=>((its.length:Int) - 1+-1 * (k:Int)).toNat).filterMap (its[·]?)=its.reverse.take m
 | 0,_=>rfl
 | m+1,h=>by
  rw[range_succ,map_append,List.filterMap_append,Qw its m (by lia),take_succ];congr 1;have e:((its.length:Int) - 1+-1 * (m:Int)).toNat=its.length - 1 - m:=by lia
  simp only[map_cons,map_nil,e];rw[getElem?_reverse (by lia)];have h1:its.length - 1 - m < its.length:=by lia
  simp only[filterMap_cons,List.filterMap_nil,getElem?_eq_getElem h1];rfl
theorem ZR (its:List Value):slicePick its.toArray none none (some (-1))=its.reverse.toArray:=by
 have h1:sliceBounds none none (some (-1)) its.toArray.size=((its.length:Int) - 1,-1,-1):=by simp[sliceBounds]
 unfold slicePick;rw[h1];have h2:sliceRange ((its.length:Int) - 1) (-1) (-1)=(List.range its.length).map λ(k:Nat)=>((its.length:Int) - 1+-1 * (k:Int)).toNat:=by
  unfold sliceRange;have:(if (-1:Int) > 0 then (if (its.length:Int) - 1 < -1 then (-1 - ((its.length:Int) - 1)+-1 - 1) / -1 else 0) else (if (its.length:Int) - 1 > -1 then ((its.length:Int) - 1 - -1 - -1 - 1) / (- -1) else 0)).toNat=its.length:=by
   rw[if_neg (by decide)];by_cases h:(its.length:Int) - 1 > -1
   ·rw[if_pos h];have:((its.length:Int) - 1 - -1 - -1 - 1) / (- -1)=(its.length:Int):=by
     rw[show (- -1:Int)=1 by decide,ediv_one];lia
    rw[this];simp
   ·rw[if_neg h];lia
  simp only[this]
 rw[h2];have:=Qw its its.length (le_refl _);rw[List.take_of_length_le (by simp)]at this;congr 1;rw[<-this];congr 1;funext i;simp
theorem aq.rev {K:PySem.W.Frag}{ρ:List Addr}{H:Hp}:∀{xs:List Z.D} {ys:List V},aq K ρ H xs ys->aq K ρ H xs.reverse ys.reverse
 | [],_,r=>by simp only[aq]at r;subst r;simp[aq]
 | x::xs,_,r=>by
  simp only[aq]at r;obtain ⟨y,t,rfl,q,r⟩:=r;rw[reverse_cons,reverse_cons];exact (aq.rev r).append (aq.one q)
theorem Vals.rev:∀{vs:List V} {us:List Value},Vals vs us->Vals vs.reverse us.reverse
 | [],_,.nil=>.nil
 | _::_,_,.cons r rr=>by
  rw[reverse_cons,reverse_cons];exact (Vals.rev rr).append (.cons r .nil)
section
variable {X:Cx}{sub:Nat->Nat->Bool}{Γ:Z.dB}{E:Z.PX}
theorem aiV {a b:Expr}{a' b':Z.Ex}{p pos:Pos}(ha:LE X sub Γ E a a')(hb:LE X sub Γ E b b')(hb1:∀σ h (Q:Z.PV),Q (.int (-1)) h->Z.aL sub Γ E b' σ h Q):LE X sub Γ E (.Subscript a (.Slice none none (some b) p) pos) (.prim .HJ (.cons a' .nil)):=by
 intro pins s σ H Q I ⟨ρ,h,τ,Q',R,L,w,k⟩;simp only[Z.aL,Z.bB]at w;refine Subscript_ (bf (ha pins s σ H (λx H1=>∃aM h1 n xs,ak X.K aM H1 (.ref n) x/\h1[n]?=some (.lst xs)/\xs.length<=Z.lim/\Rep X.K aM h1 H1/\Ext X.K ρ H aM H1/\Q' (.ref h1.length) (h1++[.lst xs.reverse])) I ⟨ρ,h,τ,_,R,L,w,λd1 h1 aM H1 x e1 R1 r1 w1=>?_⟩) λv s1 ⟨x,H1,I1,r1,aM,h1,n,xs,rx,en,hl,R1,e1,q1⟩=>?_)
 ·have w2:match Z.Jo [d1] h1 with | some (v,h2)=>Q' v h2 | none=>False:=w1
  cases d1 with
  | ref n=>
   simp only[Z.Jo]at w2;cases eo:h1[n]? with
   | none=>simp only[eo]at w2
   | some o=>
    cases o with
    | lst xs=>
     simp only[eo,Z.newL,length_reverse]at w2;by_cases hl:xs.length<=Z.lim
     ·rw[if_pos hl]at w2;exact ⟨aM,h1,n,xs,r1,eo,hl,R1,e1,w2⟩
     ·rw[if_neg hl]at w2;exact w2.elim
    | _=>simp only[eo]at w2
  | _=>exact w2.elim
 refine wpAny_Slice (evalPart_none_step (evalPart_none_step (evalPart_some_step (bf (hb pins s1 σ H1 (λy H2=>y=.int (-1)/\∃bL,Ext X.K aM H1 bL H2/\Rep X.K bL h1 H2) I1 ⟨aM,h1,τ,λd h'=>d=.int (-1)/\h'=h1,R1,L.mono e1,hb1 _ _ _ ⟨rfl,rfl⟩,λd h' ρ' H' v e' R' r' q=>?_⟩) λu s2 ⟨y,H2,I2,r2,ey,bL,e2,R2⟩=>?_))))
 ·obtain ⟨rfl,rfl⟩:=q;simp only[ak]at r';exact ⟨r',ρ',e',R'⟩
 subst ey;obtain ⟨t,rfl⟩:=r2;have rx2:=ak.mono e2 _ _ rx;simp only[ak]at rx2;obtain ⟨a,rfl,hn⟩:=rx2;cases r1;obtain ⟨a',ea,ys,hy,rr⟩:=R2.at_ n _ en;rw[hn]at ea;cases ea;have I4:Inv X pins σ H2 {s2 with heap:=s2.heap.push {cls:=.type "slice",data:=.fields #[.none,.none,.int (-1) t]}}:=I2.kept (t':=s2.toks) λb ob q=>get?_push_of_some _ q;obtain ⟨its,rv,ht,hz⟩:=I4.list (.of hy);show wpAny (model X.prog X.w) X.A (subscriptTail _ _ (.ref a) (.ref s2.heap.objs.size)) (EP X pins σ Q) X.xe {s2 with heap:=s2.heap.push {cls:=.type "slice",data:=.fields #[.none,.none,.int (-1) t]}};have hg:wpAny (model X.prog X.w) X.A (getItem (.ref a) (.ref s2.heap.objs.size)) (EP X pins σ Q) X.xe {s2 with heap:=s2.heap.push {cls:=.type "slice",data:=.fields #[.none,.none,.int (-1) t]}}:=by
  refine wpAny_getItem_list_slice ht.isList (Heap.IsSliceOf.new ..) .none .none (.int (-1) t) (by simp) ?_ (by rw[size_toArray,<-rv.length];exact hz);rw[ZR];have hp:=I4.hok.fresh (le_refl _);have am_:aq X.K bL H2 xs.reverse ys.reverse:=aq.rev rr;obtain ⟨e3,R3,r3⟩:=fQ R2 am_ hp;refine ⟨.ref _,_,I4.laid (t':=s2.toks) (o:=.lst ys.reverse) (λb ob q=>get?_push_of_some _ q) (le_refl _) ?_,rfl,k _ _ _ _ _ (e1.trans (e2.trans e3)) R3 r3 q1⟩;exact ⟨by rw[length_reverse];exact hz,its.reverse,0,Vals.rev rv,get?_push_size _ rfl⟩
 exact tail_any (ops:=[.ref a,.ref s2.heap.objs.size]) ht.isList.typeIs slot_list_getitem.lookup hg (by with_unfolding_all rfl)
theorem ana (σ:Z.Lo)(h:Z.AH)(Q:Z.PV)(q:Q (.int (-1)) h):Z.aL sub Γ E (.prim .neg (.cons (.lit (.int 1)) .nil)) σ h Q:=by
 simp only[Z.aL,Z.bB];exact q
theorem afE {K:PySem.W.Frag}{C D:Addr}{b:Bool}(hm:PySem.W.mroIn K C (.ref D)=some b)(hs:PySem.W.mroIn K D (.ref D)=some true)(ht:typeIn K (.ref D)=some (.type "type")):kitOne K (.ref C) (.ref D)=some b:=by
 unfold kitOne;by_cases e:C=D
 ·subst e;rw[hm]at hs;cases hs;rw[if_pos (beq_self_eq_true _)]
 ·rw[if_neg (by simpa using e)];have h1:(PySem.W.clsIn K D).isSome=true:=by
   unfold PySem.W.mroIn at hs;cases q:PySem.W.clsIn K D with
   | none=>rw[q]at hs;cases hs
   | some _=>rfl
  unfold kitCls;simp only[h1,ht,beq_self_eq_true,Bool.and_self,if_true];exact hm
theorem S_ {K:PySem.W.Frag}{ρ:List Addr}{H:Hp}:∀{zs:List Z.D} {ys:List V} {its:List Value} {bs:List Bool},aq K ρ H zs ys->Vals ys its->Z.sy zs=some bs->LSm.BoolsAre its bs
 | [],_,_,bs,r,v,e=>by
  simp only[aq]at r;subst r;cases v;cases e;exact .nil
 | z::zs,_,_,bs,r,v,e=>by
  simp only[aq]at r;obtain ⟨y,t,rfl,r1,r2⟩:=r;cases v with
  | cons v1 v2=>
   cases z with
   | bl b=>
    simp only[Z.sy]at e;cases e':Z.sy zs with
    | none=>rw[e']at e;cases e
    | some bs'=>
     rw[e']at e;cases e;simp only[ak]at r1;subst r1;cases v1;exact .cons _ (S_ r2 v2 e')
   | _=>simp only[Z.sy]at e;cases e
def eBl (x:Bool):Value->Bool
 | .bool s=>s == x
 | _=>false
theorem M9:∀{its:List Value} {bs:List Bool},LSm.BoolsAre its bs->its.countP (eBl b)=bs.count b
 | _,_,.nil=>rfl
 | _,_,.cons c r=>by
  rw[List.countP_cons,count_cons,M9 r];rfl
theorem JL:∀{its:List Value} {ss:List Z.S},StrsAre its (ss.map λs=>(⟨s.toArray⟩:Str))->its.countP (eStr y)=ss.count y
 | _,[],.nil=>rfl
 | _,s::ss,.cons _ t r=>by
  rw[List.countP_cons,count_cons,JL r];have e3:eStr y (.str ⟨s.toArray⟩ t)=(s == y):=j9 _ _;rw[e3]
theorem acL (hu:X.A.units+200 < cLine):mD X "list.count" (λx xs=>rP X.K sub .count (x::xs)):=by
 intro pins s σ H x xs v us Q I rx qG ⟨ρ,h,ds,d,h',R,r,q,k⟩;change Z.Ph _ _=_ at q;unfold Z.Ph at q;split at q
 ·rename_i n b;simp only[aq]at r;obtain ⟨x',t,e,r1,y',t2,e2,r2,rfl⟩:=r;subst e2;cases e;have r2':=r2;simp only[ak]at r2;subst r2;obtain ⟨u,rfl,ru⟩:=qG.one;cases (show u=Value.bool b from ru);split at q
  ·rename_i zs e1;obtain ⟨a,ys,rfl,hn,ha,rs⟩:=dY R r1 e1;cases (show v=Value.ref a from rx);cases es:Z.sy zs with
   | none=>rw[es]at q;cases q
   | some bs=>
    rw[es]at q;cases q;obtain ⟨hz,its,m,vv,eo⟩:=(show cj X.prog X.w H s.heap a (.lst ys) from I.hok a _ ha)
    have hb:=S_ rs vv es;refine call_meets slot_list_count ⟨_,eo,rfl⟩ PySem.F.entry_list_count (PySem.F.args_list_count_2 _ _) (SeqAt.list_countAt a its.toArray m none #[] (.bool b) (eBl b)) ⟨eo,λy hy=>?_,?_⟩
    ·obtain ⟨i,hi,e⟩:=getElem_of_mem (show y∈its by simpa using hy);obtain ⟨c,_,rfl⟩:=hb.get i y (by rw[getElem?_eq_getElem hi,e]);have rd:ak X.K ρ H (.bl c) (.bl c):=by simp only[ak]
     exact (qC (ρ:=ρ) I R 0 X.A.in1 (.bl c) (.bl b) _ _ (.bool c) (.bool b) (c == b) (by show X.A.units+1+0 < cLine;lia) rd r2' rfl rfl rfl).2
    ·have:=M9 (b:=b) hb;show EP X pins σ Q (.int ((its.countP (eBl b):Nat):Int) s.toks) _;rw[this];exact ⟨.int (bs.count b:Nat),H,I.tok _,⟨_,rfl⟩,k ρ H _ .refl R (by simp only[ak])⟩
  ·cases q
 ·rename_i n y;simp only[aq]at r;obtain ⟨x',t,e,r1,y',t2,e2,r2,rfl⟩:=r;subst e2;cases e;have r2':=r2;simp only[ak]at r2;obtain ⟨rfl,hyl⟩:=r2;obtain ⟨u,rfl,ru⟩:=qG.one;obtain ⟨tu,rfl⟩:=ru;split at q
  ·rename_i zs e1;obtain ⟨a,ys,rfl,hn,ha,rs⟩:=dY R r1 e1;cases (show v=Value.ref a from rx);cases es:Z.strsOf zs with
   | none=>rw[es]at q;cases q
   | some ss=>
    rw[es]at q;cases q;obtain ⟨hz,its,m0,vv,eo⟩:=(show cj X.prog X.w H s.heap a (.lst ys) from I.hok a _ ha)
    obtain ⟨sa,hlim⟩:=wZ rs vv es;have hlen:its.length=ss.length:=by rw[<-vv.length,<-rs.length,oH es]
    have at_:∀(m:Nat) (s':Z.S),ss[m]?=some s'->∃tk,its[m]?=some (Value.str ⟨s'.toArray⟩ tk):=λm s' e=>by
     have:=(StrsAre.vals sa).get (i:=m) (x:=V.str ⟨s'.toArray⟩) (by rw[getElem?_map,getElem?_map,e];rfl);obtain ⟨v',e1,tk,e2⟩:=this;exact ⟨tk,by rw[e1,e2]⟩
    refine call_meets slot_list_count ⟨_,eo,rfl⟩ PySem.F.entry_list_count (PySem.F.args_list_count_2 _ _) (SeqAt.list_countAt a its.toArray m0 none #[] (.str ⟨y.toArray⟩ tu) (eStr y)) ⟨eo,λy' hy'=>?_,?_⟩
    ·obtain ⟨m,hm,e⟩:=getElem_of_mem (show y'∈its by simpa using hy');have ms:m < ss.length:=by lia
     obtain ⟨tk,e'⟩:=at_ m ss[m] (by simp[ms]);rw[getElem?_eq_getElem hm,e]at e';cases e';have rd:ak X.K ρ H (.str ss[m]) (.str ⟨ss[m].toArray⟩):=by simp only[ak,true_and];exact hlim _ (getElem_mem _)
     have:=(qC (ρ:=ρ) I R 0 X.A.in1 (.str ss[m]) (.str y) _ _ (.str ⟨ss[m].toArray⟩ tk) (.str ⟨y.toArray⟩ tu) (ss[m] == y) (by show X.A.units+1+0 < cLine;lia) rd r2' ⟨tk,rfl⟩ ⟨tu,rfl⟩ rfl).2;have e3:eStr y (.str ⟨ss[m].toArray⟩ tk)=(ss[m] == y):=j9 _ _;rw[e3];exact this
    ·have:=JL (y:=y) sa;show EP X pins σ Q (.int ((its.countP (eStr y):Nat):Int) s.toks) _;rw[this];exact ⟨.int (ss.count y:Nat),H,I.tok _,⟨_,rfl⟩,k ρ H _ .refl R (by simp only[ak])⟩
  ·cases q
 ·cases q
theorem ZV (hu:X.A.units+200 < cLine):mD X "list.index" (λx xs=>rP X.K sub .Jk (x::xs)):=by
 intro pins s σ H x xs v us Q I rx qG ⟨ρ,h,ds,d,h',R,r,q,k⟩;change Z.KZ _ _=_ at q;unfold Z.KZ at q;split at q
 ·rename_i n y;simp only[aq]at r;obtain ⟨x',t,e,r1,y',t2,e2,r2,rfl⟩:=r;subst e2;cases e;have r2':=r2;simp only[ak]at r2;obtain ⟨rfl,hyl⟩:=r2;obtain ⟨u,rfl,ru⟩:=qG.one;split at q
  ·rename_i zs e1;obtain ⟨a,ys,rfl,hn,ha,rs⟩:=dY R r1 e1;cases (show v=Value.ref a from rx);cases es:Z.strsOf zs with
   | none=>rw[es]at q;cases q
   | some ss=>
    rw[es,bind_some]at q;cases ei:Z.gk y ss with
    | none=>rw[ei]at q;cases q
    | some i=>
     rw[ei]at q;cases q;obtain ⟨g1,g2⟩:=M8 ei;obtain ⟨hz,its,m0,vv,eo⟩:=(show cj X.prog X.w H s.heap a (.lst ys) from I.hok a _ ha)
     obtain ⟨sa,hlim⟩:=wZ rs vv es;have hlen:its.length=ss.length:=by rw[<-vv.length,<-rs.length,oH es]
     have at_:∀(m:Nat) (s':Z.S),ss[m]?=some s'->∃tk,its[m]?=some (Value.str ⟨s'.toArray⟩ tk):=λm s' e=>by
      have:=(StrsAre.vals sa).get (i:=m) (x:=V.str ⟨s'.toArray⟩) (by rw[getElem?_map,getElem?_map,e];rfl);obtain ⟨v',e1,tk,e2⟩:=this;exact ⟨tk,by rw[e1,e2]⟩
     have il:i < its.length:=by rw[hlen];exact (List.getElem?_eq_some_iff.mp g1).1
     have hsm:(i:Int) < 2 ^ 63 - 1:=by
      have h1:its.length=ys.length:=vv.length.symm;rw[sizeLine_eq]at hz
      lia
     obtain ⟨tu,rfl⟩:=ru;refine call_meets PySem.F.slot_list_index ⟨_,eo,rfl⟩ PySem.F.entry_list_index (PySem.F.args_list_index_2 _ _) (SeqAt.list_indexAt a its.toArray m0 none #[] _ (eStr y) i (by simpa using il) hsm ?_ ?_) ⟨eo,?_,?_⟩
     ·obtain ⟨tk,e⟩:=at_ i y g1;have:its[i]=.str ⟨y.toArray⟩ tk:=by rw[getElem?_eq_getElem il]at e;exact Option.some.inj e
      simp[this,eStr]
     ·intro m hm hmi;have ml:m < its.length:=by simpa using hm
      have ms:m < ss.length:=by lia
      obtain ⟨tk,e⟩:=at_ m ss[m] (by simp[ms]);have:its[m]=.str ⟨ss[m].toArray⟩ tk:=by rw[getElem?_eq_getElem ml]at e;exact Option.some.inj e
      have hne:=g2 m hmi ss[m] (by simp[ms]);simp[this,eStr,hne]
     ·intro y' hy';obtain ⟨m,hm,e⟩:=getElem_of_mem (show y'∈its by simpa using hy');have ms:m < ss.length:=by lia
      obtain ⟨tk,e'⟩:=at_ m ss[m] (by simp[ms]);rw[getElem?_eq_getElem hm,e]at e';cases e';have rd:ak X.K ρ H (.str ss[m]) (.str ⟨ss[m].toArray⟩):=by simp only[ak,true_and];exact hlim _ (getElem_mem _)
      have:=(qC (ρ:=ρ) I R 0 X.A.in1 (.str ss[m]) (.str y) _ _ (.str ⟨ss[m].toArray⟩ tk) (.str ⟨y.toArray⟩ tu) (ss[m] == y) (by show X.A.units+1+0 < cLine;lia) rd r2' ⟨tk,rfl⟩ ⟨tu,rfl⟩ rfl).2;have e3:eStr y (.str ⟨ss[m].toArray⟩ tk)=(ss[m] == y):=j9 _ _;rw[e3];exact this
     ·exact ⟨.int i,H,I.tok _,⟨_,rfl⟩,k ρ H _ .refl R (by simp only[ak])⟩
  ·cases q
 ·cases q
end
end ZS
namespace ZS
open PySem PySem.Spec PyProof.Rows L2
section
variable {M:Model}{A:Around}{E:Value->Shared->Prop}{s:Shared}
theorem M_ (hfr:A.frames=some (env::outer))(hl:s.heap.FunFrames base (env::outer))(hf:env.frame=some L)(he:s.heap.get? e=some oe)(hd:oe.data=.fields vs)(hsz:1 < vs.size)(h:∀h',(∀b o,b≠e->b∉frs (env::outer)->s.heap.get? b=some o->h'.get? b=some o)->(∀b o,b∈frs (env::outer)->s.heap.get? b=some o->∃sl,h'.get? b=some {o with slots:=sl})->
   (∃oe' vs',h'.get? e=some oe'/\oe'.cls=oe.cls/\oe'.dict=oe.dict/\oe'.data=.fields vs'/\vs'[1]?=some (.ref s.heap.objs.size))->(∃oT ts,h'.get? s.heap.objs.size=some oT/\oT.data=.fields ts/\ts[3]?=some .none)->Q () {s with heap:=h'}):
  wpAny M A (do let a <-frameOf env;let pl <-entryPlaceOf L hadNext;let b <-EntryCells.newEntry head a .none (rawInt L) .none pl;setField (.ref e) 1 b) (λ_ s'=>wpAny M A (setFlight (.ref e) none) Q E s') E s:=by
 have ne0:e∉(env::outer).filterMap (·.frame):=λhm=>by
  obtain ⟨_,o,ho,hnf⟩:=hl.mem hm;rw[he]at ho;injection ho with ho;subst ho;exact hnf vs hd
 refine wpAny_bind (wpAny_frameOf_fun hfr hl hf λg1 u1=>?_);refine wpAny_bind (wpAny_entryPlaceOf λpl pq=>?_);unfold EntryCells.newEntry newFields;refine wpAny_bind (wpAny_newObj_type ?_ (pq.sizeOk5 _ _ _ _ _));have i1:g1.get? e=some oe:=(u1.2.1 e ne0).trans he;have i2:=get?_push_of_some (h:=g1) {cls:=.type "traceback",dict:=none,data:=.fields ([head,.ref L,.none,rawInt L,.none]++(if pl.isEmpty then replicate 6 Value.none else pl)).toArray} i1;refine wpAny_setField i2 hd hsz ?_;have nt:g1.objs.size≠e:=ne_of_gt (lt_size i1);have j3:=Obj.data_mapFields hd (·.setIfInBounds 1 (Value.ref g1.objs.size));have i3:=get?_update_self (Obj.mapFields (·.setIfInBounds 1 (Value.ref g1.objs.size))) i2 (Obj.isFreed_of_fields j3);have t3:=(get?_update_other (g1.push {cls:=.type "traceback",dict:=none,data:=.fields ([head,.ref L,.none,rawInt L,.none]++(if pl.isEmpty then replicate 6 Value.none else pl)).toArray})
  (Obj.mapFields (·.setIfInBounds 1 (Value.ref g1.objs.size))) (Ne.symm nt)).trans (get?_push_size g1 rfl)
 unfold setFlight;refine wpAny_bind (wpAny_field i3 j3 (x:=.ref g1.objs.size) (by simp[hsz]) ?_);rw[if_pos (show (Value.ref g1.objs.size != Value.none)=true from by simp)];refine wpAny_setField t3 rfl (by simp only[size_toArray,length_append,length_cons,length_nil]<;>lia) (h _ ?_ ?_ ?_ ?_)
 ·intro b o hbe hbf hb;have hb1:g1.get? b=some o:=(u1.2.1 b hbf).trans hb;have hbT:g1.objs.size≠b:=ne_of_gt (lt_size hb1);rw[get?_update_other _ _ hbT,get?_update_other _ _ (Ne.symm hbe)];exact get?_push_of_some _ hb1
 ·intro b o hbf hb;obtain ⟨sl,hb1⟩:=u1.2.2 b o hb;have hbe:b≠e:=λz=>ne0 (z ▸ hbf);have hbT:g1.objs.size≠b:=ne_of_gt (lt_size hb1);refine ⟨sl,?_⟩;rw[get?_update_other _ _ hbT,get?_update_other _ _ (Ne.symm hbe)];exact get?_push_of_some _ hb1
 ·rw[<-u1.1];refine ⟨_,_,?_,Obj.cls_mapFields _ _,?_,j3,by simp[hsz]⟩
  ·rw[get?_update_other _ _ nt];exact i3
  ·obtain ⟨c,d,dt,sl⟩:=oe;cases dt<;>rfl
 ·rw[<-u1.1];exact ⟨_,_,get?_update_self _ t3 (Obj.isFreed_of_fields (Obj.data_mapFields rfl _)),Obj.data_mapFields rfl _,by first | (simp;done) | (rcases pq with rfl | ⟨_,_,_,_,_,_,_,rfl⟩<;>simp)⟩
end
def XD (H:Hp)(oe:Obj):Option Int->Prop
 | none=>oe.dict=none
 | some i=>∃dx od,oe.dict=some dx/\H dx=some (.cC od (.xd [("row",.int i)]))
theorem XD.of (e:oe'.dict=oe.dict):∀{xr:Option Int},XD H oe xr->XD H oe' xr
 | none,x=>e.trans x
 | some _,⟨dx,od,h1,h2⟩=>⟨dx,od,e.trans h1,h2⟩
def xv:Option Int->Value
 | none=>.none
 | some i=>.int i 0
theorem Xg:∀{a b:Option Int},xv a=xv b->a=b
 | none,none,_=>rfl
 | none,some _,e=>by cases e
 | some _,none,e=>by cases e
 | some _,some _,e=>by cases e;rfl
def xD (cn:Z.S):Option Int->Z.D
 | none=>.str cn
 | some i=>.tup [.str cn,.int i]
structure ExcAt (g h:Heap)(H:Hp)(xr:Option Int)(C ea:Addr):Prop where
 new:g.get? ea=none
 free:H ea=none
 at_:∃oe vs,h.get? ea=some oe/\oe.cls=.ref C/\XD H oe xr/\oe.data=.fields vs/\
  (vs[1]?=some .none\/∃T oT ts,vs[1]?=some (.ref T)/\g.get? T=none/\H T=none/\T≠ea/\h.get? T=some oT/\oT.data=.fields ts/\ts[3]?=some .none)
section
variable {M:Model}{A:Around}{E:Value->Shared->Prop}{s:Shared}
theorem Qx (hfr:A.frames=some (env::outer))(hl:s.heap.FunFrames base (env::outer))(hf:env.frame=some L)(x:ExcAt g s.heap H xr C ea)(hg:∀b o,g.get? b=some o->∃o',s.heap.get? b=some o')(hok:d8 P w H s.heap)(h:∀(h':Heap) (ch:List Addr),(∀b∈ch,g.get? b=none/\H b=none/\b∉frs (env::outer)/\(∃o,s.heap.get? b=some o/\∃vs,o.data=.fields vs)/\∃o,h'.get? b=some o)->(∀b o,b∉ch->b∉frs (env::outer)->s.heap.get? b=some o->h'.get? b=some o)->
   (∀b o,b∈frs (env::outer)->s.heap.get? b=some o->∃sl,h'.get? b=some {o with slots:=sl})->ExcAt g h' H xr C ea->Q () {s with heap:=h'}):
  wpAny M A (noteFrame (.ref ea) env) (λ_ s₂=>wpAny M A (setFlight (.ref ea) none) Q E s₂) E s:=by
 obtain ⟨hn,hfree,oe,vs,he,hc,hdi,hd,ht⟩:=x;have nof:∀b o vs,s.heap.get? b=some o->o.data=.fields vs->b∉frs (env::outer):=λb o vs e d hm=>by
  obtain ⟨_,o',ho,hnf⟩:=hl.mem hm;rw[e]at ho;injection ho with ho;subst ho;exact hnf vs d
 have newT:g.get? s.heap.objs.size=none:=by
  cases q:g.get? s.heap.objs.size with
  | none=>rfl
  | some o=>obtain ⟨o',e⟩:=hg _ o q;exact absurd (lt_size e) (lt_irrefl _)
 unfold noteFrame;simp only[hf];rcases ht with h1 | ⟨T,oT,ts,h1,nT,fT,nt,hT,hdT,h3⟩
 ·refine wpAny_bind (wpAny_field he hd h1 ?_);rw[if_neg (by decide)];refine M_ hfr hl hf he hd (Array.getElem?_eq_some_iff.mp h1).1 λh' k1 k2 ⟨oe',vs',k3,k4,k5,k6,k7⟩ ⟨oT,ts,k8,k9,k10⟩=>?_;refine h h' [ea] (λb hb=>?_) (λb o hb hbf e=>k1 b o (λz=>hb (by simp[z])) hbf e) k2 ⟨hn,hfree,oe',vs',k3,k4.trans hc,XD.of k5 hdi,k6,.inr ⟨_,oT,ts,k7,newT,hok.fresh (le_refl _),ne_of_gt (lt_size he),k8,k9,k10⟩⟩;rw[mem_singleton.mp hb];exact ⟨hn,hfree,nof _ _ _ he hd,⟨_,he,_,hd⟩,_,k3⟩
 ·refine wpAny_bind (wpAny_field he hd h1 ?_);rw[if_pos (show (Value.ref T != Value.none)=true from by simp)];refine wpAny_bind (wpAny_field hT hdT h3 ?_);rw[if_neg (show ¬((Value.none == rawInt L)=true) from by simp[rawInt])];refine wpAny_bind (wpAny_setField hT hdT (Array.getElem?_eq_some_iff.mp h3).1 ?_);have ot:∀b,b≠T->(s.heap.update T (Obj.mapFields (·.setIfInBounds 3 Value.none))).get? b=s.heap.get? b:=λb hb=>get?_update_other _ _ (Ne.symm hb);have nr:∀b o,s.heap.get? b=some o->(∀vs,o.data≠.fields vs)->b≠T:=λb o hb hnf q=>by
   rw[q,hT]at hb;injection hb with hb;subst hb;exact hnf ts hdT
  have sz:(s.heap.update T (Obj.mapFields (·.setIfInBounds 3 Value.none))).objs.size=s.heap.objs.size:=Heap.size_after_update ..;have hT2:=get?_update_self (Obj.mapFields (·.setIfInBounds 3 Value.none)) hT (Obj.isFreed_of_fields (Obj.data_mapFields hdT _));refine M_ (s:={s with heap:=s.heap.update T (Obj.mapFields (·.setIfInBounds 3 Value.none))}) hfr (hl.of_keeps λb o hb hnf=>⟨o,(ot b (nr b o hb hnf)).trans hb,rfl⟩) hf ((ot ea (Ne.symm nt)).trans he) hd (Array.getElem?_eq_some_iff.mp h1).1 λh' k1 k2 ⟨oe',vs',k3,k4,k5,k6,k7⟩ ⟨oT',ts',k8,k9,k10⟩=>?_;have k7:vs'[1]?=some (.ref s.heap.objs.size):=sz ▸ k7;have k8:h'.get? s.heap.objs.size=some oT':=sz ▸ k8;refine h h' [ea,T] (λb hb=>?_) (λb o hb hbf e=>k1 b o (λz=>hb (by simp[z])) hbf ((ot b λz=>hb (by simp[z])).trans e)) (λb o hbf e=>k2 b o hbf ((ot b λz=>nof T oT ts hT hdT (z ▸ hbf)).trans e)) ⟨hn,hfree,oe',vs',k3,k4.trans hc,XD.of k5 hdi,k6,.inr ⟨_,oT',ts',k7,newT,hok.fresh (le_refl _),ne_of_gt (lt_size he),k8,k9,k10⟩⟩;rcases mem_cons.mp hb with rfl | hb
  ·exact ⟨hn,hfree,nof _ _ _ he hd,⟨_,he,_,hd⟩,_,k3⟩
  ·rw[mem_singleton.mp hb];exact ⟨nT,fT,nof _ _ _ hT hdT,⟨_,hT,_,hdT⟩,_,k1 T _ nt (nof _ _ _ hT hdT) hT2⟩
end
def lM (P:Program)(w:World):Bu:=λouter H s E e s'=>∃ea C xr H',e=.ref ea/\s'.os=s.os/\AllBare s'.gens/\Un (frs outer) [] H H' s.heap s'.heap/\d8 P w H' s'.heap/\ExcAt s.heap s'.heap H' xr C ea/\E (xv xr) (some C) H'
theorem aiW {P:Program}{w:World}{K:PySem.W.Frag}{mg:Str->Option Value}{base:Heap}{N:List Str}{qual:Str}{scope:Scope}{f:Addr}{cd:Value}{A:Around}{outer:List Env}{s:Shared}{H:Hp}{E:XK}{pins:List (Addr×Obj)}{σ:L2.St}{H1:Hp}{s1:Shared}{C ea:Addr}{xr:Option Int}(I:Inv (jz (lM P w) P w K mg base N qual scope f cd A outer s H E) pins σ H1 s1)(x:ExcAt s.heap s1.heap H1 xr C ea)(he:E (xv xr) (some C) H1):(jz (lM P w) P w K mg base N qual scope f cd A outer s H E).xe (.ref ea) s1:=by
 have oG:∀b:Addr,b∉(jz (lM P w) P w K mg base N qual scope f cd A outer s H E).ex:=λb z=>absurd (show b∈([]:List Addr) from z) (by simp);show wpAny (model P w) (A.deeper (envOfC qual scope s.heap.objs.size f cd)) (leaving (envOfC qual scope s.heap.objs.size f cd) (.ref ea)) (λ_ s''=>lM P w outer H s E (.ref ea) s'') (λe' s''=>lM P w outer H s E e' s'') s1;unfold leaving;refine wpAny_bind (Qx (P:=P) (w:=w) (g:=s.heap) (H:=H1) (base:=base) (outer:=outer) I.ok.frames I.stack rfl x (λb o e=>I.base.there b o e (oG b)) I.hok λh' ch Xh keep slot x'=>?_);have nfr:∀b o,s.heap.get? b=some o->b∉frs outer->b∉frs (envOfC qual scope s.heap.objs.size f cd::outer):=λb o e hb hm=>by
  rcases mem_cons.mp (I.Br b hm) with z | z
  ·exact absurd (lt_size e) (by rw[z];exact Nat.not_lt.mpr I.ok.above)
  ·exact hb z
 have sG:∀b o,s.heap.get? b=some o->b∉ch:=λb o e hb=>by rw[(Xh b hb).1]at e;cases e
 have inF:∀b,b∈frs outer->b∈frs (envOfC qual scope s.heap.objs.size f cd::outer):=λb hb=>by
  unfold frs at hb ⊢;rw[filterMap_cons];split
  ·exact hb
  ·exact mem_cons_of_mem _ hb
 refine ⟨ea,C,xr,H1,rfl,I.os,I.bare,⟨λb o e n hb _=>?_,λb o e n hb _=>?_,λb o e n _=>I.base.free b o e n (oG b),λb o e _=>?_,I.base.tups,I.base.jy,I.base.j7⟩,λa o e=>?_,x',he⟩
 ·exact keep b o (sG b o e) (nfr b o e hb) (I.base.keep b o e n hb (oG b))
 ·obtain ⟨sl,e1⟩:=I.base.slot b o e n hb (oG b);obtain ⟨sl',e2⟩:=slot b _ (inF b hb) e1;exact ⟨sl',e2⟩
 ·obtain ⟨o',e1⟩:=I.base.there b o e (oG b);by_cases hb:b∈frs outer
  ·obtain ⟨sl',e2⟩:=slot b _ (inF b hb) e1;exact ⟨_,e2⟩
  ·exact ⟨o',keep b o' (sG b o e) (nfr b o e hb) e1⟩
 ·refine (I.hok a o e).stay (λb u hb eb=>?_) (λ_ q=>q) λ_ _ q=>q;have ht:∃u,H1 b=some u:=by
   rcases hb with rfl | hb
   ·exact ⟨_,e⟩
   ·exact ⟨_,hb⟩
  obtain ⟨u',ht⟩:=ht;refine keep b u (λz=>?_) (λz=>?_) eb
  ·rw[(Xh b z).2.1]at ht;cases ht
  ·have:=I.FJ b z;rw[this]at ht;cases ht
variable [R0]
def XOk (X:Cx)(E:Z.PX):Prop:=∀pins σ H s ea C xr ρ h (cn:Z.S),Inv X pins σ H s->ExcAt X.s₀.heap s.heap H xr C ea->Rep X.K ρ h H->nsIn X.K mainGlobals ⟨cn.toArray⟩=some (some (.ref C))->E (xD cn xr) h->X.xe (.ref ea) s
def vd (K:PySem.W.Frag)(Γ:Z.dB)(f:Nat):Sp:=λvs H Q E=>∃ρ h ds Q',∃E':Z.PX,Rep K ρ h H/\aq K ρ H ds vs/\Γ f ds h Q' E'/\
 (∀d h' ρ' H' v,Ext K ρ H ρ' H'->Rep K ρ' h' H'->ak K ρ' H' d v->Q' d h'->Q v H')/\
 ∀(cn:Z.S) C xr h' ρ' H',Rep K ρ' h' H'->nsIn K mainGlobals ⟨cn.toArray⟩=some (some (.ref C))->E' (xD cn xr) h'->E (xv xr) (some C) H'
end ZS
namespace ZS
open PySem PySem.Spec PyProof.Rows L2
section
variable {X:Cx}{pins:List (Addr×Obj)}{σ:L2.St}{H:Hp}{s:Shared}
theorem Tc {ch:List Addr}{h':Heap}{t':Nat}(I:Inv X pins σ H s)(hch:∀b∈ch,X.s₀.heap.get? b=none/\H b=none/\(∃o,s.heap.get? b=some o/\∃vs,o.data=.fields vs)/\∀p∈X.pn++pins,p.1≠b)(keep:∀b o,b∉ch->b∉frs X.stack->s.heap.get? b=some o->h'.get? b=some o)(slot:∀b o,b∈frs X.stack->s.heap.get? b=some o->∃sl,h'.get? b=some {o with slots:=sl}):
  Inv X pins σ H {s with heap:=h',toks:=t'}:=by
 have aa9:∀b u,H b=some u->b∉ch/\b∉frs X.stack:=λb u e=>⟨(λz=>by rw[(hch b z).2.1]at e;cases e),(λz=>by rw[I.FJ b z]at e;cases e)⟩
 have nst:∀b,b≠X.env.locals->b∉X.fs->b∉frs X.stack:=λb h1 h2 z=>(mem_cons.mp (I.Br b z)).elim h1 h2;have any:∀b o,b∉ch->s.heap.get? b=some o->∃sl,h'.get? b=some {o with slots:=sl}:=λb o hc e=>by
  by_cases hb:b∈frs X.stack
  ·exact slot b o hb e
  ·exact ⟨o.slots,keep b o hc hb e⟩
 obtain ⟨m0,⟨oL,esL,epL,hL,hLd,_⟩,_⟩:=id I.loc;have nL:X.env.locals∉ch:=λz=>by
  obtain ⟨_,_,⟨o,e,vs,d⟩,_⟩:=hch _ z;rw[hL]at e;cases e;rw[hLd]at d;cases d
 refine I.Oc (g':=s.gens) (d':=s.drawn) (t':=t') (ch:=ch) (λb hb=>?_) (λb o h1 h2 h3 e _=>keep b o h3 (nst b h1 h2) e) (λb o _ _ h3 e _=>any b o h3 e) (λ_ _ _ _ n=>n) (λb o h3 e=>let ⟨sl,q⟩:=any b o h3 e;⟨_,q⟩) (λ_ _ e=>e) (λ_ _ _ e=>e) (λb ps e=>⟨#[],by rw[e];simp⟩) (λm hm=>?_) (λb u e=>?_) I.bare
 ·obtain ⟨h1,h2,⟨o,e,vs,d⟩,h3⟩:=hch b hb;refine ⟨.inr h1,λz=>nL (z ▸ hb),λx c ec z=>?_,h3⟩;obtain ⟨v,oc,eo,dc⟩:=I.cell x c ec;rw[z,e]at eo;cases eo;rw[d]at dc;cases dc
 ·obtain ⟨o,es,ep,ho,r⟩:=hm;obtain ⟨sl,q⟩:=any _ o nL ho;exact ⟨_,es,ep,q,r⟩
 ·refine (I.hok b u e).stay (λc v hc q=>?_) (λ_ q=>q) λ_ _ q=>q;have ht:∃w,H c=some w:=by
   rcases hc with rfl | hc
   ·exact ⟨_,e⟩
   ·exact ⟨_,hc⟩
  obtain ⟨w,ht⟩:=ht;exact keep c v (aa9 c w ht).1 (aa9 c w ht).2 q
theorem Xi {M:Model}{E:Value->Shared->Prop}{Q:Unit->Shared->Prop}{g:Heap}{C ea:Addr}{xr:Option Int}(I:Inv X pins σ H s)(hst:X.stack=X.env::X.outer)(hf:X.env.frame=some X.env.locals)(x:ExcAt g s.heap H xr C ea)(hg:∀b o,g.get? b=some o->∃o',s.heap.get? b=some o')(hg0:∀b,g.get? b=none->X.s₀.heap.get? b=none)(Qy:∀p∈X.pn++pins,∃o,g.get? p.1=some o)(h:∀h',Inv X pins σ H {s with heap:=h'}->(∀b o,g.get? b=some o->∃o',h'.get? b=some o')->ExcAt g h' H xr C ea->Q () {s with heap:=h'}):
  wpAny M X.A (noteFrame (.ref ea) X.env) (λ_ s₂=>wpAny M X.A (setFlight (.ref ea) none) Q E s₂) E s:=by
 refine Qx (P:=X.prog) (w:=X.w) (base:=X.base) (outer:=X.outer) (hst ▸ I.ok.frames) (hst ▸ I.stack) hf x hg I.hok λh' ch Xh keep slot x'=>?_;refine h h' (Tc (t':=s.toks) I (ch:=ch) (λb hb=>?_) (λb o h1 h2 e=>keep b o h1 (hst ▸ h2) e) λb o h2 e=>slot b o (hst ▸ h2) e) (λb o e=>?_) x'
 ·obtain ⟨h1,h2,_,h3,_⟩:=Xh b hb;refine ⟨hg0 b h1,h2,h3,λp hp z=>?_⟩;obtain ⟨o,e⟩:=Qy p hp;rw[z,h1]at e;cases e
 ·obtain ⟨o',e1⟩:=hg b o e;by_cases hc:b∈ch
  ·exact (Xh b hc).2.2.2.2
  ·by_cases hb:b∈frs (X.env::X.outer)
   ·obtain ⟨sl,q⟩:=slot b o' hb e1;exact ⟨_,q⟩
   ·exact ⟨_,keep b o' hc hb e1⟩
theorem acM {M:Model}{A:Around}{E:Value->Shared->Prop}{Q:Unit->Shared->Prop}{g:Heap}{C ea:Addr}{xr:Option Int}(I:Inv X pins σ H s)(x:ExcAt g s.heap H xr C ea)(hg:∀b o,g.get? b=some o->∃o',s.heap.get? b=some o')(hg0:∀b,g.get? b=none->X.s₀.heap.get? b=none)(Qy:∀p∈X.pn++pins,∃o,g.get? p.1=some o)(h:∀h',Inv X pins σ H {s with heap:=h'}->(∀b o,g.get? b=some o->∃o',h'.get? b=some o')->ExcAt g h' H xr C ea->Q () {s with heap:=h'}):
  wpAny M A (setFlight (.ref ea) none) Q E s:=by
 obtain ⟨hn,hfree,oe,vs,he,hc,hdi,hd,ht⟩:=id x;rcases ht with h1 | ⟨T,oT,ts,h1,nT,fT,hTe,hT,hdT,h3⟩
 ·unfold setFlight;refine wpAny_bind (wpAny_field he hd h1 ?_);rw[if_neg (by decide)];exact wpAny_pure (h s.heap (I.tok s.toks) hg x)
 ·refine wpAny_setFlight_none he hd h1 hT hdT (Array.getElem?_eq_some_iff.mp h3).1 ?_;have ot:∀b,b≠T->(s.heap.update T (Obj.mapFields (·.setIfInBounds 3 Value.none))).get? b=s.heap.get? b:=λb hb=>get?_update_other _ _ (Ne.symm hb);have hT2:=get?_update_self (Obj.mapFields (·.setIfInBounds 3 Value.none)) hT (Obj.isFreed_of_fields (Obj.data_mapFields hdT _));have nf:T∉frs X.stack:=λz=>by
   obtain ⟨_,o,e,d⟩:=I.stack.mem z;rw[hT]at e;cases e;exact d _ hdT
  refine h _ (Tc (t':=s.toks) I (ch:=[T]) (λb hb=>?_) (λb o h1 h2 e=>(ot b λz=>h1 (by simp[z])).trans e) λb o h2 e=>⟨o.slots,(ot b λz=>nf (z ▸ h2)).trans e⟩) (λb o e=>?_) ⟨hn,hfree,oe,vs,(ot ea (Ne.symm hTe)).trans he,hc,hdi,hd,.inr ⟨T,_,_,h1,nT,fT,hTe,hT2,Obj.data_mapFields hdT _,by simp[(Array.getElem?_eq_some_iff.mp h3).1]⟩⟩
  ·rw[mem_singleton.mp hb];refine ⟨hg0 T nT,fT,⟨_,hT,_,hdT⟩,λp hp z=>?_⟩;obtain ⟨o,e⟩:=Qy p hp;rw[z,nT]at e;cases e
  ·by_cases hb:b=T
   ·rw[hb,nT]at e;cases e
   ·obtain ⟨o',e1⟩:=hg b o e;exact ⟨o',(ot b hb).trans e1⟩
theorem ZW (I:Inv X pins σ H s)(hn:X.s₀.heap.get? ea=none)(hfree:H ea=none)(he:s.heap.get? ea=some oe)(hd:∃vs,oe.data=.fields vs)(hp:∀p∈X.pn++pins,p.1≠ea):Inv X pins σ (upd H ea (.cC oe (.own 0))) s:=by
 have Xj:∀b u,H b=some u->b≠ea:=λb u e z=>by rw[z,hfree]at e;cases e
 obtain ⟨m0,⟨oL,esL,epL,hL,hLd,_⟩,_⟩:=id I.loc;obtain ⟨vs,hd⟩:=hd;refine I.Oc (h':=s.heap) (g':=s.gens) (d':=s.drawn) (t':=s.toks) (ch:=[ea]) (λb hb=>?_) (λb o _ _ _ e _=>e) (λb o _ _ _ e _=>⟨o.slots,e⟩) (λb o h3 _ n=>?_) (λb o _ e=>⟨o,e⟩) (λb xs e=>?_) (λb o u e=>?_) (λb ps e=>⟨#[],?_⟩) (λm hm=>hm) (λb u e=>?_) I.bare
 ·rw[mem_singleton.mp hb];refine ⟨.inr hn,λz=>?_,λx c ec z=>?_,hp⟩
  ·rw[z,hL]at he;cases he;rw[hLd]at hd;cases hd
  ·obtain ⟨v,oc,eo,dc⟩:=I.cell x c ec;rw[z,he]at eo;cases eo;rw[hd]at dc;cases dc
 ·rw[aU (λz=>h3 (by simp[z]))];exact n
 ·rw[aU (Xj b _ e)];exact e
 ·rw[aU (Xj b _ e)];exact e
 ·rw[aU (Xj b _ e),e];simp
 ·by_cases hb:b=ea
  ·subst hb;rw[bJ]at e;cases e;exact ⟨he,_,he⟩
  ·rw[aU hb]at e;exact (I.hok b u e).stay (λ_ _ _ q=>q) (λc q=>by rw[aU (Xj c _ q)];exact q) λc xs q=>by rw[aU (Xj c _ q)];exact q
end
variable [R0]
noncomputable abbrev VB:List Value:=[.type "ValueError",.type "Exception",.type "BaseException",.type "object"]
section
open PySem.W
variable {prog:Program}{w:World}{A:Around}{E:Value->Shared->Prop}{s:Shared}{K:PySem.W.Frag}{x D:Addr}{ox:Obj}
structure xT (K:PySem.W.Frag)(D:Addr):Prop where
 ga:findIn K (.ref D) "__getattribute__"=some (some (.builtin "BaseException.__getattribute__"))
 gh:findIn K (.ref D) "__getattr__"=some none
 cl:findIn K (.ref D) "__class__"=some (some (.builtin "object.__class__"))
 mo:mroIn K D (.type "object")=some true
 mb:mroIn K D (.type "BaseException")=some true
theorem Xk (hc:(clsIn K D).isSome=true)(ha:findIn K (.ref D) nm=some (some a))(hg:specialIn K a "__get__"=some (some g))(ht:takesIn K a=some true):findObj K D od nm=some (.bind g a):=by
 obtain ⟨cd,hc⟩:=isSome_iff_exists.mp hc;unfold findObj;rw[hc,bind_some,ha,bind_some];simp[hg,ht]
theorem xT.some (c:xT K D):(clsIn K D).isSome=true:=by
 have:=c.mo;unfold mroIn at this;cases q:clsIn K D with
 | none=>rw[q]at this;cases this
 | some _=>rfl
theorem acN (X:K.In s.heap)(I:InstAt s.heap x ox D od)(c:xT K D)(hn:specialIn K (.builtin "object.__class__") "__get__"=some (some (.builtin "getset_descriptor.__get__")))(htk:takesIn K (.builtin "object.__class__")=some true)(h:Q (.done (.ret (.ref D))) s):wpAny (model prog w) A (Builtin.«object.__getattribute__» ⟨[.ref x,.str "__class__" tk],[]⟩) Q E s:=by
 obtain ⟨hh,gg,d,t,os⟩:=s;have L0:=I.type (M:=model prog w);have L1:=looks_find (M:=model prog w) X I (Xk c.some c.cl hn htk);unfold Builtin.«object.__getattribute__»;refine wpAny_bind (wpAny_pure (wpAny_bind (wpAny_pure (wpAny_bind (L0.at (wpAny_bind (L1.at ?_)))))));show wpAny _ _ (holding [Value.builtin "object.__class__"] (call (.builtin "getset_descriptor.__get__") [.builtin "object.__class__",.ref x,.ref D]) >>= ret) _ _ _;refine wpAny_bind (wpAny_holding (wpAny_call (class_get (ox:=ox) (od:=od) X I c.mo (wpAny_pure h))))
theorem Nb {M:Model}{h:Heap}{g:Array GenState}{d:Drawn}{t:Nat}{os:OsState}{nv:Value}{Q:Unit->Shared->Prop}(L3:Looks M h (isInstance (.ref x) (.type "BaseException")) true)(hq:Q () ⟨h,g,d,t,os⟩):wpAny M A (checkBuiltinCall "BaseException.__getattribute__" ⟨[.ref x,nv],[]⟩) Q E ⟨h,g,d,t,os⟩:=by
 have hk:builtinKind "BaseException.__getattribute__"=some .slot:=by decide+kernel
 have hsplit:splitId "BaseException.__getattribute__"=some ("BaseException","__getattribute__"):=by decide+kernel
 have ha:=PySem.F.args_bexc_ga (.ref x) nv;simp only[checkBuiltinCall,hk,hsplit];refine wpAny_bind (L3.at ?_)
 repeat (any_goals (first | assumption | wp_step))
theorem Xl (X:K.In s.heap)(I:InstAt s.heap x ox D od)(c:xT K D)(hn:specialIn K (.builtin "object.__class__") "__get__"=some (some (.builtin "getset_descriptor.__get__")))(htk:takesIn K (.builtin "object.__class__")=some true)(h:Q (some (.ref D)) {s with toks:=s.toks+1}):wpAny (model prog w) A (getAttr? (.ref x) "__class__") Q E s:=by
 obtain ⟨hh,g,d,t,os⟩:=s;have L0:=I.type (M:=model prog w);have L1:=looks_findIn (M:=model prog w) X c.ga;have L2:=looks_findIn (M:=model prog w) X c.gh;have L3:Looks (model prog w) hh (isInstance (.ref x) (.type "BaseException")) true:=L0.andThen (looks_mroIn X c.mb);unfold getAttr? getAttrBy? getAttrBy;refine wpAny_bind (wpAny_mkText (wpAny_bind (wpAny_attempt (wpAny_holding (wpAny_bind (L0.at (wpAny_bind (L1.at ?_))))))));have hx2:(Value.builtin "BaseException.__getattribute__" == Value.builtin "object.__getattribute__")=false:=by decide+kernel
 dsimp only;rw[if_neg (by rw[hx2,Bool.and_false];decide)];unfold getAttrByItsOwn hookBefore;rw[if_pos (show onTheHeap (Value.ref D)=true by rfl)];refine wpAny_bind (L2.at (wpAny_bind (wpAny_attempt (wpAny_holding ?_))));unfold callGetattribute;rw[if_neg (by decide)];unfold boundAndCalled;refine wpAny_bind (wpAny_of_eq (attr_ValueError.ga.bind (.ref x)) ?_);refine wpAny_call (codeAny_call_builtin attr_ValueError.ga.plain entry_bexc_ga (Nb L3 (acN (s:=⟨hh,g,d,t+1,os⟩) X I c hn htk ?_)));exact handed_on rfl (wpAny_pure h)
theorem xu (c:xT K D)(hn:specialIn K (.builtin "object.__class__") "__get__"=some (some (.builtin "getset_descriptor.__get__")))(htk:takesIn K (.builtin "object.__class__")=some true):KitX K (.ref x) (.ref D) (λh=>InstAt h x ox D od) where
 ty:=λ_ _ _ I=>I.type
 it:=λ_ _ X _=>by
  obtain ⟨cdD,hcD⟩:=isSome_iff_exists.mp c.some;unfold clsIn at hcD;split at hcD
  ·rename_i c' d' cd' sl' ho;intro A' Q' E' s' k q;unfold isType loadHead;exact wpAny_bind (wpAny_loadPart (k _ _ (X _ _ ho)) (wpAny_pure q))
  ·cases hcD
 ne:=λh tp dd its n sl X htp=>by
  obtain ⟨cdD,hcD⟩:=isSome_iff_exists.mp c.some;refine eq_false_iff.mpr λq=>?_;have e:D=tp:=Value.ref.inj (beq_iff_eq.mp q);subst e;unfold clsIn at hcD;split at hcD
  ·rename_i c' d' cd' sl' ho;have z:=(X _ _ ho).symm.trans htp;cases z
  ·cases hcD
 ca:=λX I k=>Xl X I c hn htk k
end
structure jQ (K:PySem.W.Frag)(c:Value)(ys ns:List Z.S):Prop where
 hn:PySem.W.specialIn K (.builtin "object.__class__") "__get__"=some (some (.builtin "getset_descriptor.__get__"))
 ht:PySem.W.takesIn K (.builtin "object.__class__")=some true
 yes:∀d∈ys,∀C,nsIn K mainGlobals ⟨d.toArray⟩=some (some (.ref C))->xT K C/\kitOne K (.ref C) c=some true
 no:∀d∈ns,∀C,nsIn K mainGlobals ⟨d.toArray⟩=some (some (.ref C))->xT K C/\kitOne K (.ref C) c=some false
theorem vf {K:PySem.W.Frag}{c:Value}(hn:PySem.W.specialIn K (.builtin "object.__class__") "__get__"=some (some (.builtin "getset_descriptor.__get__")))(ht:PySem.W.takesIn K (.builtin "object.__class__")=some true):jQ K c [] []:=⟨hn,ht,(λ_ h=>by cases h),(λ_ h=>by cases h)⟩
theorem JM {K:PySem.W.Frag}{c:Value}{C:Addr}{d:Z.S}{ys ns:List Z.S}{x:Str}(hC:nsIn K mainGlobals x=some (some (.ref C)))(ok:xT K C)(e:kitOne K (.ref C) c=some true)(r:jQ K c ys ns)(hx:x=⟨d.toArray⟩:=by rfl):jQ K c (d::ys) ns:=by
 subst hx;refine ⟨r.hn,r.ht,λc' h C' hn=>?_,r.no⟩;rcases mem_cons.mp h with rfl | h
 ·rw[hC]at hn;cases hn;exact ⟨ok,e⟩
 ·exact r.yes c' h C' hn
theorem cZ {K:PySem.W.Frag}{c:Value}{C:Addr}{d:Z.S}{ys ns:List Z.S}{x:Str}(hC:nsIn K mainGlobals x=some (some (.ref C)))(ok:xT K C)(e:kitOne K (.ref C) c=some false)(r:jQ K c ys ns)(hx:x=⟨d.toArray⟩:=by rfl):jQ K c ys (d::ns):=by
 subst hx;refine ⟨r.hn,r.ht,r.yes,λc' h C' hn=>?_⟩;rcases mem_cons.mp h with rfl | h
 ·rw[hC]at hn;cases hn;exact ⟨ok,e⟩
 ·exact r.no c' h C' hn
theorem afH {K:PySem.W.Frag}{ρ:List Addr}{h:Z.AH}{H:Hp}{n:Nat}{v:V}{c:Z.S}(R:Rep K ρ h H)(r:ak K ρ H (.ref n) v)(e:h[n]?=some (.exc c)):
  ∃a C oe,v=.ref a/\nsIn K mainGlobals ⟨c.toArray⟩=some (some (.ref C))/\H a=some (.cC oe (.own 0))/\oe.cls=.ref C/\oe.dict=none/\notCls oe=true:=by
 simp only[ak]at r;obtain ⟨a,rfl,q⟩:=r;obtain ⟨b,eb,C,oe,h1,h2,h3⟩:=R.at_ n _ e;rw[q]at eb;cases eb;exact ⟨a,C,oe,rfl,h1,h2,h3⟩
theorem Xm {K:PySem.W.Frag}{ρ:List Addr}{h:Z.AH}{H:Hp}{n:Nat}{v:V}{c:Z.S}{i:Int}(R:Rep K ρ h H)(r:ak K ρ H (.ref n) v)(e:h[n]?=some (.dZ c i)):
  ∃a C oe dx od,v=.ref a/\nsIn K mainGlobals ⟨c.toArray⟩=some (some (.ref C))/\H a=some (.cC oe (.own 0))/\H dx=some (.cC od (.xd [("row",.int i)]))/\oe.cls=.ref C/\oe.dict=some dx/\notCls oe=true:=by
 simp only[ak]at r;obtain ⟨a,rfl,q⟩:=r;obtain ⟨b,eb,C,oe,dx,od,h1,h2,h3⟩:=R.at_ n _ e;rw[q]at eb;cases eb;exact ⟨a,C,oe,dx,od,rfl,h1,h2,h3⟩
section
variable {X:Cx}{sub:Nat->Nat->Bool}{Γ:Z.dB}{E:Z.PX}
theorem aiX (hv:∀u,RelV vc u->u=uc)(ok:jQ X.K uc ys ns):eZ X (.builtin "isinstance") (λxs H Q=>∃x,xs=[x,vc]/\rP X.K sub (.GR ys ns) [x] H Q):=by
 intro pins s σ H xs us Q I r ⟨x,e,ρ,h,ds,d,h',R,rr,q,kk⟩;subst e;obtain ⟨u,w',rfl,rx,rt⟩:=vals2 r;have:=hv _ rt;subst this;obtain ⟨d1,rfl,r1⟩:=wX rr;change Z.Y5 ys ns [d1] h=some (d,h') at q;cases d1 with
 | ref n=>
  simp only[Z.Y5]at q;cases eo:h[n]? with
  | none=>rw[eo]at q;cases q
  | some o=>
   cases o with
   | exc c=>
    rw[eo]at q;simp only at q;obtain ⟨a,C,oe,rfl,hn,ha,hc,hd,hnc⟩:=afH R r1 eo;obtain ⟨ho,_⟩:=(show cj X.prog X.w H s.heap a (.cC oe (.own 0)) from I.hok a _ ha)
    cases (show u=Value.ref a from rx);have J:PySem.W.InstAt s.heap a oe C none:=⟨ho,hc,hnc,by rw[hd];trivial⟩
    by_cases hy:c∈ys
    ·rw[if_pos hy]at q;cases q;obtain ⟨o,e⟩:=ok.yes c hy C hn;exact kia_one (xu o ok.hn ok.ht) I.dJ J e (λz=>nomatch z) λtk=>⟨.bl true,H,I.tok _,rfl,kk ρ H _ .refl R (by simp only[ak])⟩
    ·rw[if_neg hy]at q;by_cases hz:c∈ns
     ·rw[if_pos hz]at q;cases q;obtain ⟨o,e⟩:=ok.no c hz C hn;exact kia_one (xu o ok.hn ok.ht) I.dJ J e (λz=>nomatch z) λtk=>⟨.bl false,H,I.tok _,rfl,kk ρ H _ .refl R (by simp only[ak])⟩
     ·rw[if_neg hz]at q;cases q
   | dZ c i=>
    rw[eo]at q;simp only at q;obtain ⟨a,C,oe,dx,od,rfl,hn,ha,hx,hc,hd,hnc⟩:=Xm R r1 eo;obtain ⟨hod,_⟩:=(show cj X.prog X.w H s.heap dx (.cC od (.xd [("row",.int i)])) from I.hok dx _ hx)
    obtain ⟨ho,_⟩:=(show cj X.prog X.w H s.heap a (.cC oe (.own 0)) from I.hok a _ ha)
    cases (show u=Value.ref a from rx);have J:PySem.W.InstAt s.heap a oe C (some od):=⟨ho,hc,hnc,by rw[hd];exact hod⟩
    by_cases hy:c∈ys
    ·rw[if_pos hy]at q;cases q;obtain ⟨o,e⟩:=ok.yes c hy C hn;exact kia_one (xu o ok.hn ok.ht) I.dJ J e (λz=>nomatch z) λtk=>⟨.bl true,H,I.tok _,rfl,kk ρ H _ .refl R (by simp only[ak])⟩
    ·rw[if_neg hy]at q;by_cases hz:c∈ns
     ·rw[if_pos hz]at q;cases q;obtain ⟨o,e⟩:=ok.no c hz C hn;exact kia_one (xu o ok.hn ok.ht) I.dJ J e (λz=>nomatch z) λtk=>⟨.bl false,H,I.tok _,rfl,kk ρ H _ .refl R (by simp only[ak])⟩
     ·rw[if_neg hz]at q;cases q
   | _=>rw[eo]at q;cases q
 | _=>cases q
theorem Qz (hm:X.mg "isinstance"=none)(hmt:X.mg tn=some (.ref D))(ok:jQ X.K (.ref D) ys ns)(he:LE X sub Γ E e e')(hg:Gl X "isinstance":=by rfl)(hgt:Gl X tn:=by rfl)(hdd:cN tn:=by decide)(hs:∀es,eE X.env e es:=by intro _;rfl):
  LE X sub Γ E (.Call (.Name "isinstance" p) [e,.Name tn p2] [] pos) (.prim (.GR ys ns) (.cons e' .nil)):=by
 have hn:PE X (.Name tn p2) (tC (.ref D)):=FN hgt hmt rfl hdd;refine gD (Ie (aiX (sub:=sub) (vc:=.ref D) (λu r=>r) ok) hg hm (by rfl) (kZ he (kZ hn uW (by rfl)) (hs _)) (by decide) (by decide) (hs _) (by rfl)) ?_;rintro σ H Q ⟨ρ,h,τ,Q',R,L,w,k'⟩;simp only[Z.aL,Z.bB]at w;refine ⟨ρ,h,τ,_,R,L,w,λd1 h1 aM H1 x e1 R1 r1 w1=>?_⟩;cases q:Z.prim sub (.GR ys ns) [d1] h1 with
 | none=>rw[q]at w1;exact w1.elim
 | some z=>
  rw[q]at w1;exact ⟨x,rfl,aM,h1,[d1],z.1,z.2,R1,.one r1,q,λρ' H' v e' R' r'=>k' _ _ ρ' H' v (e1.trans e') R' r' w1⟩
end
end ZS
namespace ZS
open PySem PySem.Spec PyProof.Rows L2
noncomputable abbrev hand (X:Cx) (e:Value) (E:Value->Shared->Prop):Cx:={X with A:=X.A.mark (some e),calm:=false,xe:=E}
theorem acO (ok:X.Ok):(hand X e E).Ok:=
 ⟨ok.mod,ok.kind,ok.glob,ok.blt,ok.above,ok.inj,ok.has,ok.cab,(λh=>by cases h),ok.frames,ok.stk,ok.exf,ok.bs,ok.G4,ok.oG,ok.Px,ok.mG,ok.Mt⟩
theorem Td (I:Inv X pins σ H s):Inv (hand X e E) pins σ H s:=⟨acO I.ok,I.os,I.bare,I.base,I.loc,I.cell,I.free,I.eY,I.pin,I.hok,I.len⟩
theorem xA (ok:X.Ok)(I:Inv (hand X e E) pins σ H s):Inv X pins σ H s:=⟨ok,I.os,I.bare,I.base,I.loc,I.cell,I.free,I.eY,I.pin,I.hok,I.len⟩
section
variable {X:Cx}{pins:List (Addr×Obj)}{σ:L2.St}{H:Hp}{s:Shared}
theorem Gf (I:Inv X pins σ H s)(hN:X.N.Nodup)(hj:X.N[j]?=some n)(hl:X.env.scope.names.lookup n=some .local)(h:∀s',Inv X pins (σ.set j none) H s'->Q () s'):wpAny M A (do bindName X.env n .none;unbindBehindTheSuite X.env n pos) Q E s:=by
 obtain ⟨m,hn,hloc⟩:=id I.loc;refine wpAny_nameGoes_keeps (show X.env.kindOf n=some .local from hl) hn (by rw[I.ok.kind];rfl) λh' v hn' hs=>h _ ?_;obtain ⟨oL,_,_,hoL,_⟩:=id hn;have lt:∀b o,X.s₀.heap.get? b=some o->b≠X.env.locals:=λb o e=>ne_of_lt (lt_of_lt_of_le (lt_size e) I.ok.above);have aaP:j < σ.length:=by rw[I.len];exact (List.getElem?_eq_some_iff.mp hj).1
 refine ⟨I.ok,I.os,I.bare,⟨λb o e q hb hx=>(hs.2 b (lt b o e)).trans (I.base.keep b o e q hb hx),λb o e q hb hx=>?_,I.base.free,λb o e hx=>?_,I.base.tups,I.base.jy,I.base.j7⟩,⟨_,hn',λi y w e1 e2 e3=>?_⟩,λy c e=>?_,I.free,I.eY,λp hp=>?_,λb u e=>?_,by simpa using I.len⟩
 ·obtain ⟨sl,e1⟩:=I.base.slot b o e q hb hx;exact ⟨sl,(hs.2 b (lt b o e)).trans e1⟩
 ·obtain ⟨o',e1⟩:=I.base.there b o e hx;exact ⟨o',(hs.2 b (lt b o e)).trans e1⟩
 ·by_cases hji:i=j
  ·subst hji;rw[getElem?_set_self aaP]at e2;cases e2
  ·rw[getElem?_set_ne (Ne.symm hji)]at e2;obtain ⟨u,r,q⟩:=hloc i y w e1 e2 e3;refine ⟨u,r,?_⟩;rcases q with ⟨k,e⟩ | ⟨k,c,e,z⟩
   ·have:y≠n:=λe=>hji (HX hN e1 (e ▸ hj));exact .inl ⟨k,by simp[this,e]⟩
   ·exact .inr ⟨k,c,e,z.sameBut hs (I.Bq y c e)⟩
 ·obtain ⟨w,z⟩:=I.cell y c e;exact ⟨w,z.sameBut hs (I.Bq y c e)⟩
 ·obtain ⟨e,q,ne,nf,d⟩:=I.pin p hp;exact ⟨(hs.2 p.1 ne).trans e,q,ne,nf,d⟩
 ·refine (I.hok b u e).stay (λc w hc q=>(hs.2 c λz=>?_).trans q) (λ_ q=>q) λ_ _ q=>q;have hf:=I.free;rcases hc with rfl | hc
  ·rw[z,hf]at e;cases e
  ·rw[z,hf]at hc;cases hc
def aa_ (D:Ends)(j:Nat):Ends where
 nx:=λσ' H'=>D.nx (σ'.set j none) H'
 rt:=D.rt
 bk:=λσ' H'=>D.bk (σ'.set j none) H'
 ct:=λσ' H'=>D.ct (σ'.set j none) H'
theorem afI (ok:X.Ok)(hN:X.N.Nodup)(hj:X.N[j]?=some n)(hl:X.env.scope.names.lookup n=some .local)(q:SP (hand X e xe) pins (aa_ D j) f s):wpAny M X.A (do bindName X.env n .none;unbindBehindTheSuite X.env n pos) (λ_ s'=>SP X pins D f s') E s:=by
 cases f with
 | next=>obtain ⟨σ',H',I,q⟩:=q;exact Gf (xA ok I) hN hj hl λs' I'=>⟨_,H',I',q⟩
 | brk=>obtain ⟨σ',H',I,q⟩:=q;exact Gf (xA ok I) hN hj hl λs' I'=>⟨_,H',I',q⟩
 | cont=>obtain ⟨σ',H',I,q⟩:=q;exact Gf (xA ok I) hN hj hl λs' I'=>⟨_,H',I',q⟩
 | ret u=>obtain ⟨v,σ',H',I,r,q⟩:=q;exact Gf (xA ok I) hN hj hl λs' I'=>⟨v,_,H',I',r,q⟩
end
theorem cG.unset {K:PySem.W.Frag}{ρ:List Addr}{H:Hp}{τ:Z.Lo}{σ:L2.St}(L:cG K ρ H τ σ)(j:Nat):cG K ρ H (τ.set j none) (σ.set j none):=by
 refine ⟨by simp[L.1],λi d e=>?_⟩;by_cases hi:i=j
 ·subst hi;by_cases hl:i < τ.length
  ·rw[getElem?_set_self hl]at e;cases e
  ·rw[getElem?_eq_none (by simpa using hl)]at e;cases e
 ·rw[getElem?_set_ne (Ne.symm hi)]at e ⊢;exact L.2 i d e
theorem Te {K:PySem.W.Frag}{aM bL:List Addr}{h2:Z.AH}{H1 H2:Hp}(R2:@Rep ⟨aM,H1⟩ K bL h2 H2):Ext K aM H1 bL H2:=@Rep.ext ⟨aM,H1⟩ K bL h2 H2 R2
theorem afJ {K:PySem.W.Frag}[r0:R0]{aM:List Addr}{h1:Z.AH}{H1:Hp}(R1:Rep K aM h1 H1):@Rep ⟨aM,H1⟩ K aM h1 H1:=@Rep.mk ⟨aM,H1⟩ K aM h1 H1 R1.len R1.nd Ext.refl R1.at_
theorem Xn {K:PySem.W.Frag}[r0:R0]{aM bL:List Addr}{h1 h2:Z.AH}{H1 H2:Hp}(R1:Rep K aM h1 H1)(R2:@Rep ⟨aM,H1⟩ K bL h2 H2):Rep K bL h2 H2:=@Rep.mk r0 K bL h2 H2 (@Rep.len ⟨aM,H1⟩ K bL h2 H2 R2) (@Rep.nd ⟨aM,H1⟩ K bL h2 H2 R2) (R1.ext.trans (Te R2)) (@Rep.at_ ⟨aM,H1⟩ K bL h2 H2 R2)
theorem afK {K:PySem.W.Frag}{C D:Addr}{b:Bool}(hb:PySem.W.mroIn K D (.type "BaseException")=some true)(hm:PySem.W.mroIn K C (.ref D)=some b)(hs:PySem.W.mroIn K D (.ref D)=some true)(ht:typeIn K (.ref D)=some (.type "type")):exmOne K (.ref C) (.ref D)=some b:=by
 unfold exmOne;rw[if_pos (by show (PySem.W.mroIn K D (.type "BaseException") == some true)=true;rw[hb];rfl)];have h1:(PySem.W.clsIn K D).isSome=true:=by
  unfold PySem.W.mroIn at hs;cases q:PySem.W.clsIn K D with
  | none=>rw[q]at hs;cases hs
  | some _=>rfl
 unfold kitCls;simp only[h1,ht,beq_self_eq_true,Bool.and_self,if_true];exact hm
theorem ExcAt.older (x:ExcAt g h H xr C ea)(k:∀b,g.get? b=none->g0.get? b=none):ExcAt g0 h H xr C ea:=by
 obtain ⟨h1,h2,oe,vs,h3,h4,h5,h6,h7⟩:=x;refine ⟨k _ h1,h2,oe,vs,h3,h4,h5,h6,?_⟩;rcases h7 with h7 | ⟨T,oT,ts,a1,a2,a3⟩
 ·exact .inl h7
 ·exact .inr ⟨T,oT,ts,a1,k _ a2,a3⟩
theorem Ir (I:Inv X pins σ H s)(hex:X.ex=[])(b:Addr)(z:s.heap.get? b=none):X.s₀.heap.get? b=none:=by
 cases q:X.s₀.heap.get? b with
 | none=>rfl
 | some o=>
  obtain ⟨o',eo⟩:=I.base.there b o q (λz=>by rw[hex]at z;cases z);rw[z]at eo;cases eo
variable [r0:R0]
section
variable {X:Cx}{sub:Nat->Nat->Bool}{Γ:Z.dB}{E:Z.PX}
theorem Xo (hx:XOk X E)(hex:X.ex=[])(hr:cM kk X.A)(F:aP X.prog X.w X.K X.mg X.base (lM X.prog X.w) kk fa fd ps (vd X.K Γ f))(hm:X.mg x=some (.ref fa))(hk:keepIn X.K (.ref fa)=true)(hb:Binds X.K fd ps [])(ha:LA X sub Γ E (e::es) es')(hg:Gl X x:=by rfl)(hdb:cN x:=by decide)(he:eE X.env e es:=by rfl)(hpl:iW X.env es pos:=by rfl):
  LE X sub Γ E (.Call (.Name x p) (e::es) [] pos) (.wN f es'):=by
 have hp:Passes (lM X.prog X.w) X (λv c H2=>∃(cn:Z.S) (C:Addr) (xr:Option Int) (ρ:List Addr) (h:Z.AH),v=xv xr/\c=some C/\Rep X.K ρ h H2/\nsIn X.K mainGlobals ⟨cn.toArray⟩=some (some (.ref C))/\E (xD cn xr) h):=by
  rintro pins σ H s e s' I ⟨ea,C,xr,H',rfl,os,bare,un,hok,x2,cn,C',xr',ρ,h,hv,hC,R,hn,hE⟩;cases hC;cases Xg hv;have I2:Inv X pins σ H' s':=I.call' os un hok bare (λb z=>absurd z (by simp));exact hx pins σ H' s' ea C xr ρ h cn I2 (x2.older λb z=>Ir I hex b z) R hn hE
 refine gD (Sw F hr hg hm hk hb .nil hp ha hdb he hpl) ?_;rintro σ H Q ⟨ρ,h,τ,Q',R,L,w,k'⟩;simp only[Z.aL]at w;refine ⟨ρ,h,τ,_,R,L,w,λjL h1 aM H1 vs e1 R1 r1 w1=>?_⟩;dsimp only;rw[append_nil];exact ⟨aM,h1,jL,Q',E,R1,r1,w1,λd h' ρ' H' v e' R' r' q=>k' d h' ρ' H' v (e1.trans e') R' r' q,λcn C xr h' ρ' H' R' hn q=>⟨cn,C,xr,ρ',h',rfl,rfl,R',hn,q⟩⟩
theorem Tf (hr:cM k X.A)(F:aP X.prog X.w X.K X.mg X.base bx k f fd ps (aW X.K Γ i))(hm:X.mg x=some (.ref f))(hk:keepIn X.K (.ref f)=true)(hb:Binds X.K fd ps [])(ha:LA X sub Γ (Z.EF E) (e::es) es')(hg:Gl X x:=by rfl)(hdb:cN x:=by decide)(he:eE X.env e es:=by rfl)(hpl:iW X.env es pos:=by rfl):
  LE X sub Γ (Z.EF E) (.Call (.Name x p) (e::es) [] pos) (.wN i es'):=by
 refine gD (aa8 hr F hm hk hb ha hg hdb he hpl) ?_;rintro σ H Q ⟨ρ,h,τ,Q',R,L,w,k'⟩;refine ⟨ρ,h,τ,Q',R,L,?_,k'⟩;simp only[Z.aL,append_nil]at w ⊢;exact w
end
end ZS
namespace ZT
open PySem PyProof PyProof.Rows
section
variable {prog:Program}{w:World}{A:Around}{E:Value->Shared->Prop}{s:Shared}{r l:Addr}{items:Array Value}
theorem ZX (hT:s.TypeIs (.ref r) "list_reverseiterator")(h:Q false s):wpAny (model prog w) A (Builtin.List.listLengthHint (.ref r)) Q E s:=by
 have l1:typeLookup (.type "list_reverseiterator") "__len__"=pure none:=by rw[typeLookup_type,builtinLookup_eq_fast];kernel_rfl
 have l2:typeLookup (.type "list_reverseiterator") "__length_hint__"=pure (some (.builtin "list_reverseiterator.__length_hint__")):=by rw[typeLookup_type,builtinLookup_eq_fast];kernel_rfl
 unfold Builtin.List.listLengthHint;refine wpAny_bind (wpAny_specialOf hT l1 ?_);refine wpAny_ite_split (λhab=>absurd hab (by decide)) (λ_=>?_);refine wpAny_ite_split (λhab=>absurd hab (by decide)) (λ_=>?_);refine wpAny_bind (wpAny_specialOf hT l2 ?_);generalize hid:("list_reverseiterator.__length_hint__":String)=id0
 wp_delta
 rw[show splitId id0=some ("list_reverseiterator","__length_hint__") from by subst hid;decide+kernel];subst hid;refine wpAny_bind (wpAny_isInstance (T:="list_reverseiterator") (b:=true) hT (by rw[isSubtype_type];kernel_rfl) ?_);refine wpAny_ite_split (λhab=>absurd hab (by decide)) (λ_=>?_);refine wpAny_ite_split (λ_=>?_) (λhab=>absurd (by decide+kernel) hab);refine wpAny_ite_split (λhab=>absurd hab (by decide+kernel)) (λ_=>?_);exact wpAny_pure h
theorem Vj (hh:A.handled=none)(hit:s.heap.IsRevIter r l ((items.size:Int) - 1))(hl:s.heap.IsList l items)(hn:items.size<=sizeLine)(hrl:l≠r)(S:Addr)(hSr:S≠r)(hSl:S≠l)(res:Value)(c₀:Nat)(hS:s.heap.get? S=some {cls:=.type "list",data:=.seq #[] c₀})(hR:∀h' tk acc' c',(∀b o,b≠S->b≠r->s.heap.get? b=some o->h'.get? b=some o)->h'.get? S=some {cls:=.type "list",dict:=none,data:=.seq acc' c',slots:=#[]}->ItemsOf (λi v=>items[items.size - 1 - i]?=some v) acc' items.size->R (.ok (.ret res)) {s with heap:=h',toks:=tk}):
  wpAny (model prog w) A.in1 (Builtin.List.listExtendWith (.ref S) (.ref r) res)
   (λfin s'=>match fin with | .done f=>R (.ok f) s' | .again c'=>c'.quiet=true/\codeAny (model prog w) A c' R s') (λe s'=>R (.error e) s') s:=by
 have W:=Walks.listRev (prog:=prog) (w:=w) (A:=A.in1) hh r l hrl items;have hSf:S∉[r,l]:=by simp only[mem_cons,not_mem_nil,or_false,not_or];exact ⟨hSr,hSl⟩
 have st0:∀h:Heap,h.IsRevIter r l ((items.size:Int) - 1)->h.IsList l items->(0<=items.size/\h.IsRevIter r l ((items.size:Int) - 1 - ((0:Nat):Int))/\h.IsList l items):=λh a b=>⟨zero_le _,by simpa using a,b⟩
 have key:∀(h:Heap) (c₁ tk:Nat),h.IsRevIter r l ((items.size:Int) - 1)->h.IsList l items->(∀b o,b≠S->s.heap.get? b=some o->h.get? b=some o)->
   h.get? S=some {cls:=.type "list",data:=.seq #[] c₁}->codeAny (model prog w) A (.builtin "list.extend.loop" ⟨[.ref S,.ref r,res],[]⟩) R {s with heap:=h,toks:=tk}:=by
  intro h c₁ tk hst hst2 hk hS₁;refine codeAny_extend_loopS W.toS hn S hSf res items.size 0 _ #[] c₁ rfl (zero_le _) (st0 h hst hst2) hS₁ (ItemsOf.nil _) λs' acc' c' hm hS' hacc=>?_;rw[Moved.eq_with hm];refine hR s'.heap s'.toks acc' c' (λb o hb hbr e=>hm.heap b o (λhmem=>?_) (hk b o hb e)) hS' hacc;rcases mem_cons.mp hmem with e' | hmem
  ·exact hb e'
  ·exact hbr (mem_singleton.mp hmem)
 unfold Builtin.List.listExtendWith;refine wpAny_bind (wpAny_typeOf (T:="list_reverseiterator") hit.typeIs ?_);have h1:Builtin.List.listSameRef (.ref S) (.ref r)=false:=by simp[Builtin.List.listSameRef,hSr]
 have h2:(Value.type "list_reverseiterator" == Value.type "list")=false:=by decide
 have h3:(Value.type "list_reverseiterator" == Value.type "tuple")=false:=by decide
 simp only[h1,h2,h3,Bool.or_false,false_eq_true,if_false];refine wpAny_bind (wpAny_pyIter_revIter hit ?_);refine wpAny_bind (wpAny_holding (ZX hit.typeIs ?_));refine wpAny_ite_split (λhab=>absurd hab (by decide)) (λ_=>wpAny_pure ⟨plainId_quiet PySem.F.plain_extend_loop _,key _ c₀ _ hit hl (λb o _ e=>e) hS⟩)
theorem Z0 (hh:A.handled=none)(hit:s.heap.IsRevIter r l ((items.size:Int) - 1))(hl:s.heap.IsList l items)(hn:items.size<=sizeLine)(hrl:l≠r)(S:Addr)(hSr:S≠r)(hSl:S≠l)(hS:s.heap.get? S=some {cls:=.type "list",data:=.seq #[]})(hR:∀h' tk acc' c',(∀b o,b≠S->b≠r->s.heap.get? b=some o->h'.get? b=some o)->h'.get? S=some {cls:=.type "list",dict:=none,data:=.seq acc' c',slots:=#[]}->ItemsOf (λi v=>items[items.size - 1 - i]?=some v) acc' items.size->R (.ok (.ret .none)) {s with heap:=h',toks:=tk}):
  wpAny (model prog w) A.in1 (Builtin.«list.__init__» ⟨[.ref S,.ref r],[]⟩)
   (λfin s'=>match fin with | .done f=>R (.ok f) s' | .again c'=>c'.quiet=true/\codeAny (model prog w) A c' R s') (λe s'=>R (.error e) s') s:=by
 show wpAny _ _ (do let old <-Builtin.List.listItems (.ref S);Builtin.List.listUpdate (.ref S) (λ_=>#[]);letGo old.toList.reverse;Builtin.List.listExtendWith (.ref S) (.ref r) .none) _ _ s;refine wpAny_bind ?_;unfold Builtin.List.listItems;refine wpAny_bind (wpAny_seqItems hS rfl (wpAny_pure ?_));show wpAny _ _ (updateSeq S (λ_=>#[]) >>= λ_=>letGo (#[]:Array Value).toList.reverse >>= λ_=>Builtin.List.listExtendWith (.ref S) (.ref r) .none) _ _ s;refine wpAny_bind (wpAny_updateSeq hS rfl ?_);have hS₂:=get?_update_self (Obj.mapSeq (λ_=>(#[]:Array Value))) hS rfl;have oth:∀b o,b≠S->s.heap.get? b=some o->(s.heap.update S (Obj.mapSeq (λ_=>(#[]:Array Value)))).get? b=some o:=
  λb o hb e=>(get?_update_other _ _ (Ne.symm hb)).trans e
 refine wpAny_bind (wpAny_letGo ?_);refine Vj hh (hit.at λo e=>oth r o hSr.symm e) (hl.at λo e=>oth l o hSl.symm e) hn hrl S hSr hSl .none _ hS₂ λh' tk acc' c' hk hS' hacc=>?_;exact hR h' tk acc' c' (λb o hb hbr e=>hk b o hb hbr (oth b o hb e)) hS' hacc
theorem Z1 (hh:A.handled=none)(hit:s.heap.IsRevIter r l ((items.size:Int) - 1))(hl:s.heap.IsList l items)(hn:items.size<=sizeLine)(hrl:l≠r)(hQ:∀h' tk acc' c',(∀b o,b≠r->s.heap.get? b=some o->h'.get? b=some o)->h'.get? s.heap.objs.size=some {cls:=.type "list",dict:=none,data:=.seq acc' c',slots:=#[]}->ItemsOf (λi v=>items[items.size - 1 - i]?=some v) acc' items.size->Q (.ref s.heap.objs.size) {s with heap:=h',toks:=tk}):
  wpAny (model prog w) A (call (.type "list") [.ref r]) Q E s:=by
 refine callType_codes (Q₁:=λobj s₁=>obj=.ref s.heap.objs.size/\s₁={s with heap:=s.heap.push {cls:=.type "list",data:=.seq #[]}}) PySem.F.called_list (PySem.F.typeCall_list_1 _) PySem.F.entry_list_init
  (code_list_new _ ⟨rfl,rfl⟩) λobj s₁ h₁=>?_
 obtain ⟨rfl,rfl⟩:=h₁;have hS:(s.heap.push {cls:=.type "list",data:=.seq #[]}).get? s.heap.objs.size=some {cls:=.type "list",data:=.seq #[]}:=get?_push_size _ rfl;have r1:r < s.heap.objs.size:=by obtain ⟨o,e,_⟩:=hit;exact lt_size e
 have l1:l < s.heap.objs.size:=by obtain ⟨o,e,_⟩:=hl;exact lt_size e
 refine ⟨⟨_,hS,rfl⟩,PySem.F.args_list_init_2 _ _,Z0 (A:=A.in1) hh (hit.at λo e=>get?_push_of_some _ e) (hl.at λo e=>get?_push_of_some _ e) hn hrl _ (ne_of_gt r1) (ne_of_gt l1) hS λh' tk acc' c' hk hS' hacc=>?_⟩;exact ⟨rfl,hQ h' tk acc' c' (λb o hb e=>hk b o (ne_of_lt (lt_size e)) hb (get?_push_of_some _ e)) hS' hacc⟩
end
end ZT
namespace ZS
open PySem PySem.Spec PyProof.Rows L2
variable [R0]
section
variable {X:Cx}{sub:Nat->Nat->Bool}{Γ:Z.dB}{E:Z.PX}
theorem JN (hr:H r=none)(a:Addr):∀o:HO,cj P w (upd H r (.ext φ)) h a o->cj P w H h a o
 | .lst xs,k=>k
 | .tup xs,k=>k
 | .dK kvs,k=>k
 | .dT kvs,k=>by
  obtain ⟨k1,k2,xs,k3,k4⟩:=k;refine ⟨k1,k2,xs,?_,k4⟩;refine Paired.mono (λp q z=>?_) k3;refine ⟨z.1,?_,z.2.2⟩;have:=z.2.1;by_cases e:q.2.1=r
  ·rw[e,bJ]at this;cases this
  ·rwa [aU e]at this
 | .set S n,k=>k
 | .ins C dx fs,k=>by
  obtain ⟨k1,k2⟩:=k;refine ⟨?_,k2⟩;by_cases e:dx=r
  ·rw[e,bJ]at k1;cases k1
  ·rwa [aU e]at k1
 | .own _,k=>k
 | .xd fs,k=>k
 | .rng lo hi,k=>k
 | .cC o u,k=>⟨k.1,JN hr a u k.2⟩
 | .G3 ps,k=>k
 | .met f x,k=>k
 | .ext φ,k=>k
theorem Z2 (I:Inv X pins σ (upd H r (.ext φ)) s)(hr:H r=none):Inv X pins σ H s:=by
 have back:∀b o,(upd H r (.ext φ)) b=some o->(∀ψ,o≠.ext ψ)->H b=some o:=λb o e n=>by
  by_cases z:b=r
  ·rw[z,bJ]at e;cases e;exact absurd rfl (n φ)
  ·rwa [aU z]at e
 have nn:∀b,(upd H r (.ext φ)) b=none->H b=none:=λb e=>by
  by_cases z:b=r
  ·rw[z];exact hr
  ·rwa [aU z]at e
 refine ⟨I.ok,I.os,I.bare,⟨I.base.keep,I.base.slot,λb o e1 e2 e3=>nn b (I.base.free b o e1 e2 e3),I.base.there,λb xs e=>back _ _ (I.base.tups b xs e) (λ_ z=>by cases z),λb o u e=>back _ _ (I.base.jy b o u e) (λ_ z=>by cases z),λb ps e=>?_⟩,I.loc,I.cell,nn _ I.free,λx c e=>nn _ (I.eY x c e),λp hp=>?_,λa o e=>?_,I.len⟩
 ·obtain ⟨more,e'⟩:=I.base.j7 b ps e;exact ⟨more,back _ _ e' (λ_ z=>by cases z)⟩
 ·obtain ⟨a1,a2,a3⟩:=I.pin p hp;exact ⟨a1,nn _ a2,a3⟩
 ·have ne:a≠r:=λz=>by rw[z,hr]at e;cases e
  exact JN hr a o (I.hok a o (by rw[aU ne];exact e))
def phr (X:Cx)(r l:Addr)(n:Nat):Heap->Prop:=λh=>h.IsRevIter r l ((n:Int) - 1)/\X.s₀.heap.objs.size<=r
theorem Z4:eZ X (.type "reversed") (λxs H Q=>∃l ys,xs=[.ref l]/\H l=some (.lst ys)/\∀r,H r=none->Q (.ref r) (upd H r (.ext (phr X r l ys.length)))):=by
 intro pins s σ H xs us Q I rv ⟨l,ys,e,hl,q⟩;subst e;obtain ⟨u,rfl,ru⟩:=vals1 rv;cases ru;obtain ⟨its,vv,pl,_⟩:=I.list (.of hl);have hn:H s.heap.objs.size=none:=I.hok.fresh (le_refl _);refine call_reversed_list pl.isList ?_;have e:((its.toArray.size:Nat):Int) - 1=(ys.length:Int) - 1:=by rw[vv.length];simp
 rw[e];refine ⟨.ref s.heap.objs.size,_,I.laid (t':=s.toks) (λb o e=>get?_push_of_some _ e) (le_refl _) ?_,rfl,q _ hn⟩;exact ⟨⟨⟨_,get?_push_size _ rfl,rfl,rfl⟩,I.sz⟩,⟨_,get?_push_size _ rfl⟩,λh1 h2 k1 k2=>⟨k1.1.at k2,k1.2⟩⟩
theorem Lf (hc:X.calm=true):eZ X (.type "list") (λxs H Q=>∃r l ys H0,xs=[.ref r]/\H=upd H0 r (.ext (phr X r l ys.length))/\H0 r=none/\H0 l=some (.lst ys)/\∀L,H0 L=none->Q (.ref L) (upd H0 L (.lst ys.reverse))):=by
 intro pins s σ H xs us Q I rv ⟨r,l,ys,H0,e,eH,hr,hl,q⟩;subst e;subst eH;obtain ⟨u,rfl,ru⟩:=vals1 rv;cases ru;have hlr:l≠r:=λz=>by rw[z,hr]at hl;cases hl
 obtain ⟨⟨hit,hsz⟩,_⟩:=(show cj X.prog X.w _ s.heap r (.ext (phr X r l ys.length)) from I.hok r _ bJ)
 obtain ⟨its,vv,pl,hz⟩:=I.list (xs:=ys) (.of (by rw[aU hlr];exact hl));have e:((its.toArray.size:Nat):Int) - 1=(ys.length:Int) - 1:=by rw[vv.length];simp
 rw[<-e]at hit;have hz':its.toArray.size<=sizeLine:=by rw[size_toArray,<-vv.length];exact hz
 refine ZT.Z1 (I.ok.hd hc) hit pl.isList hz' hlr λh' tk acc c kp at_ ita=>?_;have I0:=Z2 I hr;have hn:H0 s.heap.objs.size=none:=I0.hok.fresh (le_refl _);have ea:acc.toList=its.reverse:=by
  refine List.ext_getElem? λi=>?_;have e1:acc.size=its.length:=by have:=ita.1;simpa using this
  by_cases hi:i < its.length
  ·rw[getElem?_reverse hi];have h1:acc.toList[i]?=some (acc.toList[i]'(by simp;lia)):=getElem?_eq_getElem _;have h2:=ita.2 i _ (by rw[<-Array.getElem?_toList];exact h1);rw[h1];simpa using h2.symm
  ·rw[getElem?_eq_none (by simp;lia),getElem?_eq_none (by simp;lia)]
 have rlt:r < s.heap.objs.size:=by obtain ⟨o,e,_⟩:=hit;exact lt_size e
 have I1:Inv X pins σ (upd H0 s.heap.objs.size (.lst ys.reverse)) {s with heap:=s.heap.push {cls:=.type "list",data:=.seq acc c},toks:=tk}:=
  I0.laid (λb o e=>get?_push_of_some _ e) (le_refl _) ⟨by rw[length_reverse];exact hz,its.reverse,c,Vals.rev vv,by rw[<-ea,Array.toArray_toList];exact get?_push_size _ rfl⟩
 have I2:Inv X pins σ (upd H0 s.heap.objs.size (.lst ys.reverse)) {s with heap:=h',toks:=tk}:=by
  refine Inv.turned (s:={s with heap:=s.heap.push {cls:=.type "list",data:=.seq acc c},toks:=tk}) (it:=r) I1 (λb o hb e=>?_) ?_ ?_ (.inr hsz) (λx c e z=>?_) (λp hp z=>?_)
  ·by_cases hB:b=s.heap.objs.size
   ·subst hB;have e2:(s.heap.push {cls:=.type "list",data:=.seq acc c}).get? s.heap.objs.size=some {cls:=.type "list",data:=.seq acc c}:=get?_push_size _ rfl;have e3:=e2.symm.trans e;cases e3;exact at_
   ·have e2:s.heap.get? b=some o:=by rw[<-Heap.get?_push_ne _ _ _ hB];exact e
    exact kp b o hb e2
  ·rw[aU (ne_of_lt rlt)];exact hr
  ·intro z;have:=I.free;rw[<-z,bJ]at this;cases this
  ·have:=I.eY x c e;rw[z,bJ]at this;cases this
  ·have:=(I.pin p hp).2.1;rw[z,bJ]at this;cases this
 exact ⟨.ref s.heap.objs.size,_,I2,rfl,q _ hn⟩
theorem aiY (hml:X.mg "list"=none)(hmr:X.mg "reversed"=none)(ha:LA X sub Γ E [a] (.cons a' .nil))(hc:X.calm=true:=by rfl)(hgl:Gl X "list":=by rfl)(hgr:Gl X "reversed":=by rfl)(he:starEach [a] X.env=(false,eval a X.env)::starEach [] X.env:=by rfl)(hpl:(backTo pos2 (starEach [] X.env)).any (·.1)=false:=by rfl)(he2:starEach [.Call (.Name "reversed" p2) [a] [] pos2] X.env=(false,eval (.Call (.Name "reversed" p2) [a] [] pos2) X.env)::starEach [] X.env:=by rfl)(anb:(backTo pos (starEach [] X.env)).any (·.1)=false:=by rfl):
  LE X sub Γ E (.Call (.Name "list" p) [.Call (.Name "reversed" p2) [a] [] pos2] [] pos) (.prim .HJ (.cons a' .nil)):=by
 refine gD (MF (Lf hc) hgl hml Ge (kZ (MF Z4 hgr hmr Hi ha (by decide) (by decide) he hpl) uW he2) (by decide) (by decide) he2 anb) ?_;rintro σ H Q ⟨ρ,h,τ,Q',R,L,w,k⟩;simp only[Z.aL]at w;refine ⟨ρ,h,τ,_,R,L,w,λds h1 aM H1 vs e1 R1 r1 w1=>?_⟩;change (match Z.Jo ds h1 with | some (v,h2)=>Q' v h2 | none=>False) at w1;unfold Z.Jo at w1;split at w1
 ·rename_i v h2 e;split at e
  ·rename_i n;split at e
   ·rename_i xs en;obtain ⟨hl,rfl,rfl⟩:=j_ e;simp only[aq]at r1;obtain ⟨y,t,rfl,r1,rfl⟩:=r1;obtain ⟨a,ys,rfl,hn,hy,rs⟩:=dY R1 r1 en;refine ⟨a,ys,rfl,hy,λr hr=>⟨r,a,ys,H1,rfl,rfl,hr,hy,λl hl'=>?_⟩⟩;obtain ⟨e3,R3,r3⟩:=fQ R1 (aq.rev rs) hl';exact k _ _ _ _ _ (e1.trans e3) R3 r3 w1
   ·cases e
  ·cases e
 ·exact w1.elim
theorem c1 {P:List Value->Prop}{us:List Value}{n:Nat}(hl:us.length=n+1)(h:∀a r,r.length=n->P (a::r)):P us:=by
 cases us with
 | nil=>cases hl
 | cons a r=>exact h a r (Nat.succ.inj hl)
@[elab_as_elim] theorem by0 {P:List Value->Prop}{us:List Value}(hl:us.length=0)(h:P []):P us:=List.eq_nil_of_length_eq_zero hl ▸ h
@[elab_as_elim] theorem by1 {P:List Value->Prop}{us:List Value}(hl:us.length=1)(h:∀a,P [a]):P us:=c1 hl λa _ g=>by0 g (h a)
@[elab_as_elim] theorem Xp {P:List Value->Prop}{us:List Value}(hl:us.length=2)(h:∀a b,P [a,b]):P us:=c1 hl λa _ g=>by1 g (h a)
@[elab_as_elim] theorem by3 {P:List Value->Prop}{us:List Value}(hl:us.length=3)(h:∀a b c,P [a,b,c]):P us:=c1 hl λa _ g=>Xp g (h a)
def xB (K:PySem.W.Frag)(d:Z.D)(u:Value):Prop:=∃v,RelV v u/\∀ρ H,ak K ρ H d v
def JQ (K:PySem.W.Frag):List Z.D->List Value->Prop:=Paired (xB K)
theorem lq {K:PySem.W.Frag}{n:Int}{t:Tok}:xB K (.int n) (.int n t):=⟨.int n,⟨t,rfl⟩,λ_ _=>by simp only[ak]⟩
theorem cA {K:PySem.W.Frag}{s:Str}{l:List Nat}{t:Tok}(h:s=⟨l.toArray⟩)(hl:l.length<=Z.lim):xB K (.str l) (.str s t):=
 ⟨.str s,⟨t,rfl⟩,λ_ _=>by simp only[ak];exact ⟨congrArg V.str h,hl⟩⟩
theorem Nf {K:PySem.W.Frag}:∀{ds:List Z.D} {us:List Value},JQ K ds us->∃vs,Vals vs us/\∀ρ H,aq K ρ H ds vs
 | _,_,.nil=>⟨[],.nil,λ_ _=>by simp only[aq]⟩
 | _,_,.cons (a:=d) r t=>by
  obtain ⟨v,h1,h2⟩:=r;obtain ⟨vs,h3,h4⟩:=Nf t;exact ⟨v::vs,.cons h1 h3,λρ H=>by simp only[aq];exact ⟨v,vs,rfl,h2 ρ H,h4 ρ H⟩⟩
theorem qb {K:PySem.W.Frag}{its:Array Value}(hl:K.lookup a=some ⟨.type "tuple",none,.seq its n,sl⟩)(hz:its.size<=sizeLine)(hc:JQ K ds its.toList):xB K (.tup ds) (.ref a):=by
 obtain ⟨vs,h1,h2⟩:=Nf hc;exact ⟨.ref a,rfl,λρ H=>by simp only[ak];exact ⟨a,vs,rfl,.inr ⟨_,its,n,hl,rfl,rfl,rfl,hz,h1⟩,h2 ρ H⟩⟩
theorem zgl (hm:X.mg x=some u)(hc:xB X.K d u)(hg:Gl X x:=by rfl)(hd:cN x:=by decide):LE X sub Γ E (.Name x pos) (.lit d):=by
 obtain ⟨v,h1,h2⟩:=hc;exact BR (FN hg hm h1 hd) h2
def afM (w:World)(p:Str×Tok×Value):DictEntry:=⟨PyData.keyHash w.params p.1,.str p.1 p.2.1,p.2.2⟩
def Hj (p:Str×Tok×Value):Key×Value:=(.inr p.1,p.2.2)
theorem Ng:∀iz:List (Str×Tok×Value),PySem.Pairs (dD P w) (iz.map (afM w)) (iz.map Hj)
 | []=>.nil
 | p::l=>.cons (uy P w _ _) rfl (Ng l)
structure TabAt (K:PySem.W.Frag)(w:World)(a:Addr)(t:List (Z.S×Z.D)):Prop where
 sm:(a == sysModules)=false
 dd:∃iz:List (Str×Tok×Value),(∀(P:Program) (h:Heap),K.In h->h.DictOf (dD P w) a (iz.map Hj))/\iz.map (·.1)=t.map (λp=>(⟨p.1.toArray⟩:Str))/\JQ K (t.map (·.2)) (iz.map (·.2.2))
theorem Xq {K:PySem.W.Frag}{es:Array DictEntry}{t:List (Z.S×Z.D)}(iz:List (Str×Tok×Value))(hl:K.lookup a=some ⟨.type "dict",none,.dict es n,#[]⟩)(he:es.toList=iz.map (afM w))(sm:(a == sysModules)=false)(hn:(iz.map (·.1)).Nodup)(hk:iz.map (·.1)=t.map (λp=>(⟨p.1.toArray⟩:Str)))(hc:JQ K (t.map (·.2)) (iz.map (·.2.2))):TabAt K w a t:=by
 refine ⟨sm,iz,λP h Y=>⟨_,es,n,Y a _ hl,⟨rfl,rfl,rfl⟩,rfl,?_,?_,?_⟩,hk,hc⟩
 ·intro e he';have q:e∈es.toList:=Array.mem_toList_iff.mpr he';rw[he]at q;obtain ⟨p,_,rfl⟩:=mem_map.mp q;exact ⟨.inr p.1,uy P w _ _,rfl⟩
 ·rw[he];exact Ng iz
 ·rw[List.map_map];have:((λx:Key×Value=>x.1) ∘ Hj)=(λx:Str=>(Sum.inr x:Key)) ∘ (λp:Str×Tok×Value=>p.1):=rfl;rw[this,<-List.map_map];exact List.Pairwise.map _ (λa b h z=>h (Sum.inr.inj z)) hn
theorem Iu {K:PySem.W.Frag}{k:Z.S}:∀{t:List (Z.S×Z.D)} {iz:List (Str×Tok×Value)},iz.map (·.1)=t.map (λp=>(⟨p.1.toArray⟩:Str))->JQ K (t.map (·.2)) (iz.map (·.2.2))->
  match t.lookup k with
  | some d=>∃u,valueAt (iz.map Hj) (.inr ⟨k.toArray⟩)=some u/\xB K d u
  | none=>valueAt (iz.map Hj) (.inr ⟨k.toArray⟩)=none
 | [],[],_,_=>by simp[valueAt]
 | [],_::_,h,_=>by simp at h
 | _::_,[],h,_=>by simp at h
 | (a,d)::t,(x,tk,u)::iz,h,hc=>by
  simp only[map_cons,List.cons.injEq]at h hc;cases hc with
  | cons r rs=>
   obtain ⟨hx,h⟩:=h;subst hx;have ih:=Iu (k:=k) h rs;by_cases e:k=a
   ·subst e;have:List.lookup k ((k,d)::t)=some d:=by simp[List.lookup]
    rw[this];exact ⟨u,by simp[valueAt,Hj],r⟩
   ·have e1:List.lookup k ((a,d)::t)=List.lookup k t:=by
     rw[lookup_cons];have:(k == a)=false:=beq_eq_false_iff_ne.mpr e;rw[this]
    have e2:valueAt (((⟨a.toArray⟩:Str),tk,u)::iz |>.map Hj) (.inr ⟨k.toArray⟩)=valueAt (iz.map Hj) (.inr ⟨k.toArray⟩):=by
     have:¬((Sum.inr ⟨a.toArray⟩:Key)=Sum.inr ⟨k.toArray⟩):=λz=>by
      injection z with z
      injection z with z
      exact e (by have:=congrArg Array.toList z;simpa using this.symm)
     simp only[valueAt,Hj,map_cons,find?_cons,decide_eq_false this]
    rw[e1];rw[e2];exact ih
theorem afN {a:Addr}{t:List (Z.S×Z.D)}{k:Z.S}{pins:List (Addr×Obj)}{s:Shared}{σ:L2.St}{H:Hp}{u:Value}{A:Around}{E:Value->Shared->Prop}{Q:Value->Shared->Prop}(T:TabAt X.K X.w a t)(I:Inv X pins σ H s)(ru:RelV (.str ⟨k.toArray⟩) u)(h:∀s',Inv X pins σ H s'->Q (.bool (t.lookup k).isSome) s'):wpAny (model X.prog X.w) A (compareOp .In u (.ref a)) Q E s:=by
 obtain ⟨sm,iz,dd,h1,h2⟩:=T;have q:=Iu (k:=k) h1 h2;refine wpAny_in_of (wW (k:=.inr ⟨k.toArray⟩) ru) sm (dd X.prog s.heap I.dJ).mapOf ?_;have e:(valueAt (iz.map Hj) (.inr ⟨k.toArray⟩)).isSome=(t.lookup k).isSome:=by
  cases ek:t.lookup k with
  | none=>rw[ek]at q;rw[q];rfl
  | some d=>rw[ek]at q;obtain ⟨u,q,_⟩:=q;rw[q];rfl
 rw[e];exact h _ (I.tok _)
theorem acP {a:Addr}{t:List (Z.S×Z.D)}{k:Z.S}{d:Z.D}{pins:List (Addr×Obj)}{s:Shared}{σ:L2.St}{H:Hp}{u:Value}{A:Around}{E:Value->Shared->Prop}{Q:Value->Shared->Prop}(T:TabAt X.K X.w a t)(I:Inv X pins σ H s)(ru:RelV (.str ⟨k.toArray⟩) u)(hd:t.lookup k=some d)(h:∀v w' s',Inv X pins σ H s'->RelV v w'->(∀ρ H,ak X.K ρ H d v)->Q w' s'):wpAny (model X.prog X.w) A (getItem (.ref a) u) Q E s:=by
 obtain ⟨sm,iz,dd,h1,h2⟩:=T;have q:=Iu (k:=k) h1 h2;rw[hd]at q;obtain ⟨w',e,v,rv,rd⟩:=q;exact wpAny_getItem_of (wW (k:=.inr ⟨k.toArray⟩) ru) (dd X.prog s.heap I.dJ).mapOf e (h v w' _ (I.tok _) rv rd)
theorem ane {x:Str}{a:Addr}{t:List (Z.S×Z.D)}{e:Expr}{e':Z.Ex}{pos pos':Pos}(hm:X.mg x=some (.ref a))(T:TabAt X.K X.w a t)(he:LE X sub Γ E e e')(hg:Gl X x:=by rfl)(hd:cN x:=by decide):
  LE X sub Γ E (.Compare e [.In] [.Name x pos'] pos) (.prim (.su t) (.cons e' .nil)):=by
 have ho:bO X (compareOp .In) (λy z=>λH Q=>z=.ref a/\rP X.K sub (.su t) [y] H Q):=by
  rintro pins s σ H y z v u Q I ry rz ⟨rfl,ρ,h,ds,d,h',R,rs,hp,k⟩;cases rz;obtain ⟨d1,rfl,r1⟩:=wX rs;cases d1 with
  | str c=>
   simp only[Z.qu,Z.Pb,Option.some.injEq,Prod.mk.injEq]at hp;obtain ⟨rfl,rfl⟩:=hp;simp only[ak]at r1;obtain ⟨rfl,_⟩:=r1;exact afN T I ry λs' I'=>⟨.bl _,H,I',rfl,k ρ H _ .refl R (by simp only[ak])⟩
  | _=>simp[Z.qu,Z.Pb]at hp
 refine gD (K4 ho he (FN (v:=.ref a) hg hm rfl hd) (by rfl)) ?_;rintro σ H Q ⟨ρ,h,τ,Q',R,L,w,k⟩;simp only[Z.aL,Z.bB]at w;refine ⟨ρ,h,τ,_,R,L,w,λd1 h1 aM H1 x e1 R1 r1 w1=>?_⟩;cases q:Z.prim sub (.su t) [d1] h1 with
 | none=>rw[q]at w1;exact w1.elim
 | some z=>
  rw[q]at w1;exact ⟨rfl,aM,h1,[d1],z.1,z.2,R1,.one r1,q,λρ' H' v e' R' r'=>k _ _ ρ' H' v (e1.trans e') R' r' w1⟩
theorem aiZ {x:Str}{a:Addr}{t:List (Z.S×Z.D)}{e:Expr}{e':Z.Ex}{pos pos':Pos}(hm:X.mg x=some (.ref a))(T:TabAt X.K X.w a t)(he:LE X sub Γ E e e')(hg:Gl X x:=by rfl)(hd:cN x:=by decide)(hs:uX e:=by intro _ _;rfl):
  LE X sub Γ E (.Subscript (.Name x pos') e pos) (.prim (.j5 t) (.cons e' .nil)):=by
 have ho:uY X (λz y=>λH Q=>z=.ref a/\rP X.K sub (.j5 t) [y] H Q):=by
  rintro ve se pins s σ H z y u v Q I rz ry ⟨rfl,ρ,h,ds,d,h',R,rs,hp,k⟩ hs;cases rz;obtain ⟨d1,rfl,r1⟩:=wX rs;cases d1 with
  | str c=>
   simp only[Z.R_,Z.Ob]at hp;cases ec:t.lookup c with
   | none=>rw[ec]at hp;cases hp
   | some dv=>
    rw[ec]at hp;simp only[map_some,Option.some.injEq,Prod.mk.injEq]at hp;obtain ⟨rfl,rfl⟩:=hp;simp only[ak]at r1;obtain ⟨rfl,_⟩:=r1;have ty:s.TypeIs (.ref a) "dict":=by
     obtain ⟨_,iz,dd,_,_⟩:=T;obtain ⟨o,es,ep,h1,h2,_⟩:=dd X.prog s.heap I.dJ;exact ⟨o,h1,h2.1⟩
    exact tail_any ty PySem.F.slot_dict_getitem.lookup (acP T I ry ec λw w' s' I' Bv rd=>⟨w,H,I',Bv,k ρ H _ .refl R (rd ρ H)⟩) hs
  | _=>simp[Z.R_,Z.Ob]at hp
 refine gD (aaW ho (FN (v:=.ref a) hg hm rfl hd) he hs) ?_;rintro σ H Q ⟨ρ,h,τ,Q',R,L,w,k⟩;simp only[Z.aL,Z.bB]at w;refine ⟨ρ,h,τ,_,R,L,w,λd1 h1 aM H1 x e1 R1 r1 w1=>?_⟩;cases q:Z.prim sub (.j5 t) [d1] h1 with
 | none=>rw[q]at w1;exact w1.elim
 | some z=>
  rw[q]at w1;exact ⟨rfl,aM,h1,[d1],z.1,z.2,R1,.one r1,q,λρ' H' v e' R' r'=>k _ _ ρ' H' v (e1.trans e') R' r' w1⟩
theorem afO (i:Nat)(hN:X.N.Nodup)(he:LE X sub Γ E e e')(hi:X.N[i]?=some x:=by rfl)(hx:Loc X.env.scope x:=by first | exact Or.inl rfl | exact Or.inr rfl)(hf:X.fn x=true\/X.env.scope.names.lookup x=some .local:=by first | exact .inl rfl | exact .inr rfl):LS X sub Γ E (.AugAssign (.Name x pos') .Add e pos) (.asg i (.prim .sub (.cons (.var i) (.cons (.prim .neg (.cons e' .nil)) .nil)))):=by
 refine G_ (aeG hN hi hx he aeH hf) ?_;rintro D σ H ⟨ρ,h,τ,N,R,L,w,k⟩;simp only[Z.wpS,Z.aL,Z.bB]at w;cases q:τ[i]? with
 | none=>rw[q]at w;exact w.elim
 | some o=>
  cases o with
  | none=>rw[q]at w;exact w.elim
  | some d=>
   rw[q]at w;obtain ⟨v,ev,r⟩:=L.2 i d q;refine ⟨v,ev,ρ,h,τ,_,R,L,w,λd1 h1 aM H1 y e1 R1 r1 w1=>?_⟩;cases d1 with
   | int j=>
    cases d with
    | int n=>
     simp only[Z.Pk,Z.Pn,Z.Bk,Z.HS,Z.m_]at w1;simp only[ak]at r r1;exact ⟨n,j,r,r1,k.nx _ h1 aM H1 _ e1 R1 ((L.mono e1).set (by simp only[ak];rw[Int.sub_neg])) w1⟩
    | _=>simp[Z.Pk,Z.Pn,Z.Bk,Z.HS,Z.m_]at w1
   | _=>simp[Z.Pk,Z.Pn,Z.Bk,Z.HS]at w1
theorem afP (hr:cM k X.A)(F:aP X.prog X.w X.K X.mg X.base bx k f fd ps (aW X.K Γ i))(hm:X.mg x=some (.ref f))(hk:keepIn X.K (.ref f)=true)(hb:Binds X.K fd ps [u])(hc:xB X.K d u)(ha:LA X sub Γ E (e::es) es')(hg:Gl X x:=by rfl)(hdb:cN x:=by decide)(he:eE X.env e es:=by rfl)(hpl:iW X.env es pos:=by rfl):
  LE X sub Γ E (.Call (.Name x p) (e::es) [] pos) (.call i es' [d]):=by
 obtain ⟨v,r1,r2⟩:=hc;exact S9 F hr hg hm hk hb (.cons r1 .nil) Vg (λρ H=>.one (r2 ρ H)) ha hdb he hpl
theorem pre_take (p l:List Nat):p.isPrefixOf l=decide (l.take p.length=p):=by
 rw[Bool.eq_iff_iff,decide_eq_true_iff,isPrefixOf_iff_prefix,List.prefix_iff_eq_take];exact eq_comm
theorem QB (s p:List Nat)(i:Nat):Builtin.Str.subAt ⟨s.toArray⟩ ⟨p.toArray⟩ i=p.isPrefixOf (s.drop i):=by
 rw[pre_take];unfold Builtin.Str.subAt;have e:(s.toArray.extract i (i+(⟨p.toArray⟩:Str).length))=((s.drop i).take p.length).toArray:=by
  apply Array.ext';have hl:(⟨p.toArray⟩:Str).length=p.length:=by simp[Str.length]
  rw[hl];simp only[Array.toList_extract,List.extract_eq_drop_take];rw[Nat.add_sub_cancel_left]
 show (s.toArray.extract i (i+(⟨p.toArray⟩:Str).length) == p.toArray)=_;rw[e,Bool.eq_iff_iff,beq_iff_eq,decide_eq_true_iff];exact ⟨λh=>by have:=congrArg Array.toList h;simpa using this,λh=>by rw[h]⟩
theorem Nh (s p:List Nat)(i:Int)(h0:0<=i)(h1:i<=s.length):Txt.startswith3 ⟨s.toArray⟩ ⟨p.toArray⟩ i=p.isPrefixOf (s.drop i.toNat):=by
 have e:fromIndex (⟨s.toArray⟩:Str).length i=i.toNat:=by
  unfold fromIndex;rw[if_neg (by lia)]
  lia
 unfold Txt.startswith3;rw[e,QB];cases q:p.isPrefixOf (s.drop i.toNat) with
 | false=>rw[Bool.and_false]
 | true=>
  rw[Bool.and_true];have:=(isPrefixOf_iff_prefix.mp q).length_le;rw[length_drop]at this;exact decide_eq_true (by show i.toNat+p.toArray.size<=s.toArray.size;simp;lia)
theorem Vk (s p:List Nat):Txt.startswith ⟨s.toArray⟩ ⟨p.toArray⟩=p.isPrefixOf s:=by
 have:=Nh s p 0 (by lia) (by lia);unfold Txt.startswith3 at this;unfold Txt.startswith;simpa [fromIndex] using this
theorem jM (c:Nat):∀s:List Nat,Z.lstrip c s=s.drop (s.takeWhile λx=>x == c).length
 | []=>rfl
 | x::xs=>by
  simp only[Z.lstrip,List.takeWhile_cons];by_cases e:x=c
  ·subst e;rw[if_pos rfl,if_pos (by simp),jM x xs];rfl
  ·rw[if_neg e,if_neg (by simpa using e)];rfl
theorem Z5 (s:List Nat)(c:Nat):Txt.stripChars ⟨s.toArray⟩ ⟨#[c]⟩=⟨(Z.strip c s).toArray⟩:=by
 have g:(⟨#[c]⟩:Str).cps.contains=λx=>x == c:=by
  funext x;show Array.contains #[c] x=_;rw[Bool.eq_iff_iff];simp
 unfold Txt.stripChars;rw[PySem.W.stripBy_eq,g];unfold PySem.W.stripped Z.strip;simp only[if_true];rw[jM c (Z.lstrip c s).reverse,jM c s];show Builtin.Str.strSub _ _ _=_;unfold Builtin.Str.strSub;congr 1;apply Array.ext';have hl:(⟨s.toArray⟩:Str).length=s.length:=by simp[Str.length]
 rw[hl];simp only[Array.toList_extract,List.extract_eq_drop_take];rw[List.drop_reverse,List.reverse_reverse,length_drop];congr 1
 lia
theorem Xr:mD X "str.startswith" (λx xs=>rP X.K sub .uR (x::xs)):=by
 rintro pins s σ H x xs v us Q I rx qG ⟨ρ,h,ds,d,h',R,rs,hp,k⟩;cases ds with
 | nil=>simp[aq]at rs
 | cons d0 ds=>
  simp only[aq,List.cons.injEq]at rs;obtain ⟨_,_,⟨rfl,rfl⟩,r0,rs⟩:=rs;cases d0 with
  | str a=>
   simp only[ak]at r0;obtain ⟨rfl,ha⟩:=r0;obtain ⟨t,rfl⟩:=rx;cases ds with
   | nil=>simp[Z.gY,Z.gZ,Z.gq]at hp
   | cons d1 ds=>
    simp only[aq]at rs;obtain ⟨y,r,rfl,r1,rs⟩:=rs;cases d1 with
    | str b=>
     simp only[ak]at r1;obtain ⟨rfl,hb⟩:=r1;cases ds with
     | nil=>
      simp only[aq]at rs;subst rs;cases qG with
      | cons q1 q2=>
       cases q2;obtain ⟨t1,rfl⟩:=q1;simp only[Z.gY,Z.gZ,Z.gq,Option.some.injEq,Prod.mk.injEq]at hp;obtain ⟨rfl,rfl⟩:=hp;exact SC.startswith ⟨.bl _,H,I,rfl,k ρ H _ .refl R (by simp only[ak];rw[Vk])⟩
     | cons d2 ds=>
      simp only[aq]at rs;obtain ⟨z,r,rfl,r2,rs⟩:=rs;cases d2 with
      | int i=>
       cases ds with
       | nil=>
        simp only[aq]at rs;subst rs;simp only[ak]at r2;subst r2;cases qG with
        | cons q1 q2=>
         cases q2 with
         | cons q2 q3=>
          cases q3;obtain ⟨t1,rfl⟩:=q1;obtain ⟨t2,rfl⟩:=q2;simp only[Z.gY,Z.gZ,Z.gq]at hp;split at hp
          ·rename_i c;simp only[Option.some.injEq,Prod.mk.injEq]at hp;obtain ⟨rfl,rfl⟩:=hp;exact SC.startswith3 ⟨.bl _,H,I,rfl,k ρ H _ .refl R (by simp only[ak];rw[Nh _ _ _ c.1 c.2])⟩
          ·cases hp
       | cons _ _=>simp[Z.gY,Z.gZ,Z.gq]at hp
      | _=>simp[Z.gY,Z.gZ,Z.gq]at hp
    | _=>simp[Z.gY,Z.gZ,Z.gq]at hp
  | _=>simp[Z.gY,Z.gZ,Z.gq]at hp
theorem Xu (c:Nat)(s:List Nat):(Z.strip c s).length<=s.length:=by
 unfold Z.strip;rw[jM,jM];simp only[length_reverse,length_drop]
 lia
theorem m_strip:mD X "str.strip" (λx xs=>rP X.K sub .strip (x::xs)):=by
 rintro pins s σ H x xs v us Q I rx qG ⟨ρ,h,ds,d,h',R,rs,hp,k⟩;cases ds with
 | nil=>simp[aq]at rs
 | cons d0 ds=>
  simp only[aq,List.cons.injEq]at rs;obtain ⟨_,_,⟨rfl,rfl⟩,r0,rs⟩:=rs;cases d0 with
  | str a=>
   simp only[ak]at r0;obtain ⟨rfl,ha⟩:=r0;obtain ⟨t,rfl⟩:=rx;cases ds with
   | nil=>simp[Z.j6,Z.lF]at hp
   | cons d1 ds=>
    simp only[aq]at rs;obtain ⟨y,r,rfl,r1,rs⟩:=rs;cases d1 with
    | str b=>
     simp only[ak]at r1;obtain ⟨rfl,hb⟩:=r1;cases b with
     | nil=>simp[Z.j6,Z.lF]at hp
     | cons c b=>
      cases b with
      | cons _ _=>simp[Z.j6,Z.lF]at hp
      | nil=>
       cases ds with
       | cons _ _=>simp[Z.j6,Z.lF]at hp
       | nil=>
        simp only[aq]at rs;subst rs;cases qG with
        | cons q1 q2=>
         cases q2;obtain ⟨t1,rfl⟩:=q1;simp only[Z.j6,Z.lF,Option.some.injEq,Prod.mk.injEq]at hp;obtain ⟨rfl,rfl⟩:=hp;have hz:(⟨a.toArray⟩:Str).length<=sizeLine:=by
          rw[sizeLine_eq];simpa [Str.length,Z.lim] using ha
         refine SC.stripChars (λt' n=>?_) hz;have e:=Z5 a c;exact ⟨.str ⟨(Z.strip c a).toArray⟩,H,I.tok n,⟨t',by rw[<-e]⟩,k ρ H _ .refl R (by simp only[ak];exact ⟨trivial,le_trans (Xu c a) ha⟩)⟩
    | _=>simp[Z.j6,Z.lF]at hp
  | _=>simp[Z.j6,Z.lF]at hp
def jn (acc:Z.Ex):List Z.Ex->Z.Ex
 | []=>acc
 | e::es=>jn (.prim .add (.cons acc (.cons e .nil))) es
def wJ (sub:Nat->Nat->Bool)(Γ:Z.dB)(E:Z.PX):List Z.Ex->Z.D->Z.Lo->Z.AH->Z.PV->Prop
 | [],v,_,h,Q=>Q v h
 | e::es,v,σ,h,Q=>Z.aL sub Γ E e σ h λy h2=>match Z.prim sub .add [v,y] h2 with
  | some (z,h3)=>wJ sub Γ E es z σ h3 Q
  | none=>False
theorem abd:∀(es:List Z.Ex) (acc:Z.Ex) (σ:Z.Lo) (h:Z.AH) (Q:Z.PV),Z.aL sub Γ E (jn acc es) σ h Q=Z.aL sub Γ E acc σ h λv h1=>wJ sub Γ E es v σ h1 Q
 | [],acc,σ,h,Q=>rfl
 | e::es,acc,σ,h,Q=>by
  show Z.aL sub Γ E (jn (.prim .add (.cons acc (.cons e .nil))) es) σ h Q=_;rw[abd es];simp only[Z.aL,Z.bB,wJ]
  all_goals rfl
def LF (X:Cx)(sub:Nat->Nat->Bool)(Γ:Z.dB)(E:Z.PX)(p:Expr)(e:Z.Ex):Prop:=PE X p λσ H Q=>SQ X.K (Z.aL sub Γ E e) σ H λx H1=>∃y:List Nat,x=.str ⟨y.toArray⟩/\y.length<=Z.lim/\Q (.str ⟨y.toArray⟩) H1
theorem Iv (h:LE X sub Γ E p e):LF X sub Γ E p e:=λpins s σ H Q I w=>
 bf (h pins s σ H _ I w) λu s1 ⟨v,H1,I1,r,y,e,_,q⟩=>⟨v,H1,I1,r,e ▸ q⟩
theorem Iw (h:LE X sub Γ E v e):LF X sub Γ E (.FormattedValue v (-1) none pos) e:=λpins s σ H Q I w=>by
 refine FormattedValue_plain (bf (h pins s σ H _ I w) λu s1 ⟨x,H1,I1,r,y,e,hz,q⟩=>?_);subst e;obtain ⟨t,rfl⟩:=r;refine formatField_str (hsz:=by rw[sizeLine_eq];simpa [Str.length,Z.lim] using hz) ?_;exact λt1 n=>⟨.str ⟨y.toArray⟩,H1,I1.tok n,⟨t1,rfl⟩,q⟩
inductive Xv (X:Cx)(sub:Nat->Nat->Bool)(Γ:Z.dB)(E:Z.PX):List Expr->List Z.Ex->Prop
 | nil:Xv X sub Γ E [] []
 | cons {p:Expr} {ps:List Expr} {e:Z.Ex} {es:List Z.Ex}:LF X sub Γ E p e->Xv X sub Γ E ps es->Xv X sub Γ E (p::ps) (e::es)
theorem acQ (L:Xv X sub Γ E ps es):∀{pins:List (Addr×Obj)} {s:Shared} {σ:L2.St} {H:Hp} {Q:VK} {ρ:List Addr} {h:Z.AH} {τ:Z.Lo} {Q':Z.PV} {out:List Nat},Inv X pins σ H s->Rep X.K ρ h H->cG X.K ρ H τ σ->out.length<=Z.lim->wJ sub Γ E es (.str out) τ h Q'->
  (∀d h' ρ' H' v,Ext X.K ρ H ρ' H'->Rep X.K ρ' h' H'->ak X.K ρ' H' d v->Q' d h'->Q v H')->
  wpAny (model X.prog X.w) X.A (joinParts ⟨out.toArray⟩ (evalEach ps X.env)) (EP X pins σ Q) X.xe s:=by
 induction L with
 | nil=>
  intro pins s σ H Q ρ h τ Q' out I R L hz w k;refine joinParts_nil ⟨.str ⟨out.toArray⟩,H,I.tok _,⟨_,rfl⟩,k _ h ρ H _ .refl R (by simp only[ak];exact ⟨trivial,hz⟩) w⟩ ?_;rw[sizeLine_eq];simpa [Str.length,Z.lim] using hz
 | @cons p ps e es hp hps ih=>
  intro pins s σ H Q ρ h τ Q' out I R L hz w k;show wpAny _ _ (joinParts _ (eval p X.env::evalEach ps X.env)) _ _ _;refine joinParts_cons ?_;simp only[wJ]at w;refine bf (hp pins s σ H (λx H1=>∃aM h1 Z6,x=.str ⟨Z6.toArray⟩/\Ext X.K ρ H aM H1/\Rep X.K aM h1 H1/\Z6.length+out.length<=Z.lim/\wJ sub Γ E es (.str (out++Z6)) τ h1 Q') I ⟨ρ,h,τ,_,R,L,w,λd1 h1 aM H1 v e1 R1 r1 w1=>?_⟩) λu s1 q=>?_
  ·cases d1 with
   | str o1=>
    simp only[Z.Bk,Z.KR]at w1;simp only[ak]at r1;split at w1
    ·rename_i z hz2;split at hz2
     ·rename_i c;simp only[Option.some.injEq,Prod.mk.injEq]at hz2;obtain ⟨rfl,rfl⟩:=hz2;exact ⟨o1,r1.1,r1.2,aM,h1,o1,rfl,e1,R1,by lia,w1⟩
     ·cases hz2
    ·exact w1.elim
   | _=>simp[Z.Bk,Z.KR]at w1
  ·obtain ⟨v,H1,I1,r,aM,h1,o1,rfl,e1,R1,hl,w1⟩:=q;obtain ⟨t,rfl⟩:=r;have ea:(⟨out.toArray⟩:Str)++(⟨o1.toArray⟩:Str)=⟨(out++o1).toArray⟩:=by
    show Str.mk (out.toArray++o1.toArray)=_;simp
   refine ⟨?_,?_⟩
   ·rw[ea,sizeLine_eq];simp[Str.length,Z.lim]at hl ⊢
    lia
   ·rw[ea];exact ih I1 R1 (L.mono e1) (by rw[length_append];lia) w1 λd h' ρ' H' v e'=>k d h' ρ' H' v (e1.trans e')
theorem zfs (L:Xv X sub Γ E (p::q::ps) es):LE X sub Γ E (.JoinedStr (p::q::ps) pos) (jn (.lit (.str [])) es):=by
 rintro pins s σ H Q I ⟨ρ,h,τ,Q',R,Lc,w,k⟩;rw[abd]at w;simp only[Z.aL]at w;exact JoinedStr_many (acQ L I R Lc (zero_le _) w k)
theorem Ni (x:List Nat):∀y:List Nat,Z.jh x y=true↔∃i,i<=y.length/\x.isPrefixOf (y.drop i)=true
 | []=>by
  simp only[Z.jh,List.drop_nil];constructor
  ·intro h;refine ⟨0,le_refl _,?_⟩;cases x<;>simp_all [isPrefixOf]
  ·rintro ⟨i,_,h⟩;cases x<;>simp_all [isPrefixOf]
 | c::r=>by
  simp only[Z.jh,or_eq_true,Ni x r];constructor
  ·rintro (h | ⟨i,h1,h2⟩)
   ·exact ⟨0,zero_le _,h⟩
   ·exact ⟨i+1,by simpa using h1,h2⟩
  ·rintro ⟨i,h1,h2⟩;cases i with
   | zero=>exact .inl h2
   | succ i=>exact .inr ⟨i,by simpa using h1,h2⟩
theorem Tg (x y:List Nat):(!(Builtin.Str.occurrences ⟨y.toArray⟩ ⟨x.toArray⟩ 0 (⟨y.toArray⟩:Str).length 1).isEmpty)=Z.jh x y:=by
 rw[Bool.eq_iff_iff,StrLaws.found_iff,Ni];have e1:(⟨y.toArray⟩:Str).length=y.length:=by simp[Str.length]
 have e2:(⟨x.toArray⟩:Str).length=x.length:=by simp[Str.length]
 rw[e1,e2];constructor
 ·rintro ⟨i,h1,h2⟩;rw[QB]at h2;exact ⟨i,by lia,h2⟩
 ·rintro ⟨i,h1,h2⟩;have:=(isPrefixOf_iff_prefix.mp h2).length_le;rw[length_drop]at this;exact ⟨i,by lia,by rw[QB];exact h2⟩
theorem Oj:bO X (compareOp .In) (λx y=>rP X.K sub .GX [x,y]):=uD WQ (by
 rintro x y H Q ⟨ρ,h,ds,d,h',R,rs,hp,k⟩;obtain ⟨d1,d2,rfl,r1,r2⟩:=iU rs;cases d1 with
 | str a=>
  cases d2 with
  | str b=>
   simp only[Z.Bl,Z.qu,Z.K3,Option.some.injEq,Prod.mk.injEq]at hp;obtain ⟨rfl,rfl⟩:=hp;simp only[ak]at r1 r2;obtain ⟨rfl,_⟩:=r1;obtain ⟨rfl,_⟩:=r2;exact ⟨_,_,rfl,rfl,k ρ H _ .refl R (by simp only[ak];rw[Tg])⟩
  | _=>simp[Z.Bl,Z.qu,Z.K3]at hp
 | _=>simp[Z.Bl,Z.qu,Z.K3]at hp)
theorem Gg {p:Z.Prim}(hp:p=.GX\/∃t,p=.su t):∀ds h d h',Z.prim sub p ds h=some (d,h')->∃c,d=.bl c:=by
 intro ds h d h' q;rcases hp with rfl | ⟨t,rfl⟩
 ·simp only[Z.Bl,Z.qu]at q;unfold Z.K3 at q;split at q
  ·simp only[Option.some.injEq,Prod.mk.injEq]at q;exact ⟨_,q.1.symm⟩
  ·cases q
 ·simp only[Z.Bl,Z.qu]at q;unfold Z.Pb at q;split at q
  ·simp only[Option.some.injEq,Prod.mk.injEq]at q;exact ⟨_,q.1.symm⟩
  ·cases q
end
structure Iz (K:PySem.W.Frag)(x qual:Str)(st:Stmt)(f T:Addr)(fd:FuncData):Prop where
 ex:∃(oc:Value) (od:Option Addr) (kV doc pm:Value) (an:Option Addr) (cdv ct:Value) (osl:Array (Option Value)),
  fd=fnOf x qual (dX st) (cH st) (aC st) (.ref T) kV doc pm an cdv ct/\K.lookup f=some ⟨oc,od,.func fd,osl⟩/\codeIn K cdv qual=true
 kp:keepIn K (.ref f)=true
theorem Ti {K:PySem.W.Frag}{x qual:Str}{st:Stmt}{f T:Addr}{oc:Value}{od an:Option Addr}{osl:Array (Option Value)}{kV doc pm cdv ct:Value}(l:K.lookup f=some ⟨oc,od,.func (fnOf x qual (dX st) (cH st) (aC st) (.ref T) kV doc pm an cdv ct),osl⟩)(c:codeIn K cdv qual=true)(k:keepIn K (.ref f)=true):Iz K x qual st f T (fnOf x qual (dX st) (cH st) (aC st) (.ref T) kV doc pm an cdv ct):=⟨⟨oc,od,kV,doc,pm,an,cdv,ct,osl,rfl,l,c⟩,k⟩
theorem Iz.binds {K:PySem.W.Frag}{x qual:Str}{st:Stmt}{f T:Addr}{fd:FuncData}{ps:List Str}{ds:List Value}{oc:Value}{od:Option Addr}{its:Array Value}{n:Nat}{sl:Array (Option Value)}(F:Iz K x qual st f T fd)(hT:K.lookup T=some ⟨oc,od,.seq its n,sl⟩)(h:∀(kV doc pm:Value) (an:Option Addr) (cdv ct:Value) (us:List Value),(us++ds).length=ps.length->∃k,bindArgs (fnOf x qual (dX st) (cH st) (aC st) (.ref T) kV doc pm an cdv ct) ⟨us,[]⟩=(seqItems? (.ref T) >>= k)/\k (some its)=pure (ps.zip (us++ds))):Binds K fd ps ds:=by
 obtain ⟨oc,od,kV,doc,pm,an,cdv,ct,osl,rfl,lk,hcd⟩:=F.ex;intro s us Y hl;obtain ⟨k,e1,e2⟩:=h kV doc pm an cdv ct us hl;exact .of_defaults rfl (Y T _ hT) rfl e1 e2
def QC (K:PySem.W.Frag)(mg:Str->Option Value)(x:Str)(d:Z.D):Prop:=∃u,mg x=some u/\xB K d u
def GlT (K:PySem.W.Frag)(w:World)(mg:Str->Option Value)(x:Str)(t:List (Z.S×Z.D)):Prop:=∃a,mg x=some (.ref a)/\TabAt K w a t
def FnD (K:PySem.W.Frag)(x:Str)(st:Stmt)(f:Addr)(fd:FuncData):Prop:=∃T,Iz K x x st f T fd
def BnD (K:PySem.W.Frag)(fd:FuncData)(ps:List Str)(d:Z.D):Prop:=∃u,Binds K fd ps [u]/\xB K d u
section
variable {X:Cx}{sub:Nat->Nat->Bool}{Γ:Z.dB}{E:Z.PX}
theorem QD (h:QC X.K X.mg x d)(hg:Gl X x:=by rfl)(hd:cN x:=by decide):LE X sub Γ E (.Name x pos) (.lit d):=by
 obtain ⟨u,hm,hc⟩:=h;exact zgl hm hc hg hd
theorem anf (h:GlT X.K X.w X.mg x t)(he:LE X sub Γ E e e')(hg:Gl X x:=by rfl)(hd:cN x:=by decide):
  LE X sub Γ E (.Compare e [.In] [.Name x pos'] pos) (.prim (.su t) (.cons e' .nil)):=by
 obtain ⟨a,hm,T⟩:=h;exact ane hm T he hg hd
theorem abj (h:GlT X.K X.w X.mg x t)(he:LE X sub Γ E e e')(hg:Gl X x:=by rfl)(hd:cN x:=by decide)(hs:uX e:=by intro _ _;rfl):
  LE X sub Γ E (.Subscript (.Name x pos') e pos) (.prim (.j5 t) (.cons e' .nil)):=by
 obtain ⟨a,hm,T⟩:=h;exact aiZ hm T he hg hd hs
theorem afQ (hr:cM k X.A)(F:aP X.prog X.w X.K X.mg X.base bx k f fd ps (aW X.K Γ i))(hm:X.mg x=some (.ref f))(hk:keepIn X.K (.ref f)=true)(hb:BnD X.K fd ps d)(ha:LA X sub Γ E (e::es) es')(hg:Gl X x:=by rfl)(hdb:cN x:=by decide)(he:eE X.env e es:=by rfl)(hpl:iW X.env es pos:=by rfl):
  LE X sub Γ E (.Call (.Name x p) (e::es) [] pos) (.call i es' [d]):=by
 obtain ⟨u,hb,hc⟩:=hb;exact afP hr F hm hk hb hc ha hg hdb he hpl
end
end ZS
namespace ZS
open PySem PySem.Spec PyProof.Rows L2
def Lg (K:PySem.W.Frag)(C:Addr):Bool:=match K.lookup C with
 | some ⟨.type "type",_,.cls cd,sl⟩=>(match cd.mro,sl.toList with
  | .ref C'::bm,[_,_,_,_,some (.builtin n),_]=>C' == C && (n == "ValueError.__new__" && (!cd.hasDel && (bm.contains (.type "ValueError") && (bm.contains (.type "BaseException") && (!bm.contains (.type "AttributeError") && (!bm.contains (.type "NameError") && cd.hasDict))))))
  | _,_=>false)
 | _=>false
structure Z7 (bm:List Value):Prop where
 v:bm.contains (.type "ValueError")=true
 b:bm.contains (.type "BaseException")=true
 a:bm.contains (.type "AttributeError")=false
 n:bm.contains (.type "NameError")=false
theorem Ce {K:PySem.W.Frag}{h:Heap}(X:K.In h)(q:Lg K C=true):∃bm N nm qn bs sn sub ab col dd k0 k1 k2 k3 k5,
  h.get? C=some (excClassObj nm qn C N bs bm true sn sub ab col dd k0 k1 k2 k3 k5 "ValueError.__new__")/\Z7 bm:=by
 unfold Lg at q;split at q
 ·rename_i dd cd sl ho;split at q
  ·rename_i C' bm k0 k1 k2 k3 n k5 hm hs;simp only[and_eq_true,beq_iff_eq,not_eq_true']at q;obtain ⟨rfl,rfl,hdel,q1,q2,q3,q4,hdi⟩:=q;obtain ⟨nm,bs,mro,ns,qn,hd,sn,sub,ab,col,del⟩:=cd;dsimp only at hm hdel hdi;subst hm hdel hdi;have hsl:sl=#[k0,k1,k2,k3,some (.builtin "ValueError.__new__"),k5]:=by
    obtain ⟨l⟩:=sl;simp only at hs;rw[hs]
   subst hsl;exact ⟨bm,ns,nm,qn,bs,sn,sub,ab,col,dd,k0,k1,k2,k3,k5,X _ _ ho,⟨q1,q2,q3,q4⟩⟩
  ·cases q
 ·cases q
section
variable {prog:Program}{w:World}{A:Around}{E:Value->Shared->Prop}{h:Heap}{g:Array GenState}{d:Drawn}{t:Nat}{os:OsState}{R:Result->Shared->Prop}
variable {nm q:Str}{C N:Addr}{bs bm:List Value}{hdct:Bool}{sn:List Str}{sub:List Value}{ab:Bool}{col:Option Bool}{dd:Option Addr}{k0 k1 k2 k3 k5:Option Value}
noncomputable abbrev FV:=PySem.F.excBase_ValueError
theorem acR (hC:h.get? C=some (excClassObj nm q C N bs bm hdct sn sub ab col dd k0 k1 k2 k3 k5 "ValueError.__new__"))(ok:Z7 bm)(hq:Q () ⟨h,g,d,t,os⟩):wpAny M A (checkBuiltinCall "ValueError.__new__" ⟨.ref C::us,[]⟩) Q E ⟨h,g,d,t,os⟩:=by
 have hin:(Value.ref C::bm).contains (.type "ValueError")=true:=by rw[contains_cons,ok.v,Bool.or_true]
 have hst:=FV.noStar;simp only[checkBuiltinCall,FV.newKind,FV.newSplit,FV.newRow]
 repeat (first | refine wpAny_loadPart_at hC ?_ | (refine wpAny_isSubtype_exc hC ?_;rw[hin]) | refine wpAny_staticBase_exc hC ?_ | refine wpAny_madeBy_exc hC ?_ | simp only[bne_self_eq_false,false_eq_true,if_false] | wp_step)
 exact hq
noncomputable abbrev qd (h:Heap) (C:Addr) (us:List Value):Heap:=(h.push {cls:=.type "tuple",data:=.seq us.toArray}).push {cls:=.ref C,data:=.fields #[.ref h.objs.size,.none,.none,.none,.bool false,.none]}
theorem acS (hC:h.get? C=some (excClassObj nm q C N bs bm hdct sn sub ab col dd k0 k1 k2 k3 k5 "ValueError.__new__"))(ok:Z7 bm)(hq:R (.ok (.ret (.ref (h.objs.size+1)))) ⟨qd h C us,g,d,t,os⟩)(hl:us.length<=sizeLine):
  codeAny (model prog w) A (.builtin "ValueError.__new__" ⟨.ref C::us,[]⟩) R ⟨h,g,d,t,os⟩:=by
 have hen:=FV.ends;have c1:(Value.ref C::bm).contains (.type "ValueError")=true:=by rw[contains_cons,ok.v,Bool.or_true]
 have c2:(Value.ref C::bm).contains (.type "AttributeError")=false:=by rw[contains_cons,ok.a];rfl
 have c3:(Value.ref C::bm).contains (.type "NameError")=false:=by rw[contains_cons,ok.n];rfl
 refine codeAny_builtinAt FV.entry ?_;unfold Builtin.«BaseException.__new__»;refine PySem.wpAt_bind ?_;show PySem.wpAt _ _ _ (stack >>= _) _ _ _;refine PySem.wpAt_bind (PySem.wpAt_stack λp below=>PySem.wpAt_of_wpAny ?_)
 wp_walk
 refine PySem.wpAt_of_wpAny ?_;rw[FV.owner]
 repeat (first | with_reducible refine wpAny_madeHere_exc FV.canon hC ?_ | with_reducible refine wpAny_loadPart_at hC ?_ | (with_reducible refine wpAny_isSubtype_exc hC ?_;first | rw[c1] | rw[c2] | rw[c3]) | wp_step)
 show R _ _;rw[Heap.size_push];exact hq
theorem JR:(qd h C us).get? (h.objs.size+1)=some {cls:=.ref C,data:=.fields #[.ref h.objs.size,.none,.none,.none,.bool false,.none]}:=by heap_get
theorem qH (e:h.get? b=some o):(qd h C us).get? b=some o:=get?_push_of_some _ (get?_push_of_some _ e)
theorem Xw {K:PySem.W.Frag}{us:List Value}{oI:Obj}(X:K.In h)(hs:Lg K C=true)(hi:PySem.W.findIn K (.ref C) "__init__"=some (some (.ref fI)))(hfI:K.lookup fI=some oI)(hfc:oI.cls=.type "function")(hl:us.length<=sizeLine)(hq:wpAny (model prog w) (A.under (.builtin "type.__call__" ⟨.ref C::us,[]⟩)) (call (.ref fI) (.ref (h.objs.size+1)::us)) (λr s'=>r=.none/\Q (.ref (h.objs.size+1)) s') E ⟨qd h C us,g,d,t,os⟩):
  wpAny (model prog w) A (call (.ref C) us) Q E ⟨h,g,d,t,os⟩:=by
 obtain ⟨bm,N,nm,qn,bs,sn,sub,ab,col,dd,k0,k1,k2,k3,k5,hC,ok⟩:=Ce X hs;have f1:=tc_lookup;have f2:=tc_bind (.ref C);have hT:(⟨h,g,d,t,os⟩:Shared).TypeIs (.ref C) "type":=⟨_,hC,rfl⟩
 refine wpAny_call (codeAny_of_tree ?_);show wpAny _ _ (callAny (.ref C) _) _ _ _
 repeat (any_goals (first | assumption | with_reducible refine wpAny_loadPart_at hC ?_ | wp_step))
 refine ⟨rfl,?_⟩;refine codeAny_call_builtin_at (Code.quiet_builtin _ (by decide+kernel)) entry_typeCall (wpAny_check_type_call_sub hC ?_)
 repeat (first | with_reducible refine wpAny_loadPart_at hC ?_ | with_reducible refine wpAny_madeBy_exc hC ?_ | wp_step)
 refine codeAny_call_builtin_code (Code.quiet_builtin _ FV.quiet) (acR hC ok ?_);refine acS hC ok ?_ hl;show wpAny _ _ _ _ _ _;have hC1:=qH (C:=C) (us:=us) hC;have hg1:=JR (h:=h) (C:=C) (us:=us);have hself:(Value.ref C::bm).contains (.ref C)=true:=by simp
 have X1:K.In (qd h C us):=X.keeps λb o e=>qH e;unfold isInstance
 repeat (first | with_reducible refine wpAny_loadPart_at hg1 ?_ | wp_step)
 show wpAny _ _ (isSubtype (.ref C) (.ref C)) _ _ _;refine wpAny_isSubtype_exc hC1 ?_;rw[hself]
 repeat (first | with_reducible refine wpAny_loadPart_at hg1 ?_ | wp_step)
 show wpAny _ _ (typeLookup (.ref C) _) _ _ _;refine (PySem.W.looks_findIn (M:=model prog w) X1 hi).at ?_;refine wpAny_holding (wpAny_bind ?_);unfold bindSpecial;refine wpAny_bind (wpAny_typeOf (T:="function") ⟨_,X1 _ _ hfI,hfc⟩ ?_);rw[if_pos (by decide)];refine wpAny_pure (wpAny_bind (wpAny_mono hq (λr s' hr=>?_) λ_ _ x=>x));obtain ⟨rfl,hQ⟩:=hr
 wp_walk
 exact hQ
end
def QF:List Value->List Value
 | .ref _::l=>QF l
 | l=>l
theorem Cg:∀{l:List Value},refuseLoop self what l=refuseLoop self what (QF l)
 | []=>rfl
 | v::l=>by
  cases v
  case ref a=>rw[refuseLoop_ref];exact Cg (l:=l)
  all_goals rfl
def QG (K:PySem.W.Frag)(C:Addr):Bool:=(PySem.W.clsIn K C).any λcd=>cd.hasDict && (!cd.mro.isEmpty && (cd.mro.contains (.type "object") && QF cd.mro == VB))
section
open PySem.W
variable {prog:Program}{w:World}{A:Around}{E:Value->Shared->Prop}{s:Shared}{K:PySem.W.Frag}{x C:Addr}{ox:Obj}
theorem acT (X:K.In s.heap)(I:InstAt s.heap x ox C none)(hdn:ox.dict=none)(hp:QG K C=true)(hna:findIn K (.ref C) name=some none)(h:∀h' od t',h'.get? x=some {ox with dict:=some s.heap.objs.size}->h'.get? s.heap.objs.size=some od->h'.Ns1 s.heap.objs.size (λy=>if y=name then some v else none)->(∀b o,b≠x->s.heap.get? b=some o->h'.get? b=some o)->R (.ok (.ret .none)) {s with heap:=h',toks:=t'}):
  codeAny (model prog w) A (.call (.builtin "object.__setattr__") ⟨[.ref x,.str name tk,v],[]⟩) R s:=by
 have SF:=PySem.F.store_object;obtain ⟨cd,hc,ho⟩:=any_some hp;simp only[and_eq_true,not_eq_true',beq_iff_eq]at ho;obtain ⟨hd,ne,hob,hst⟩:=ho;have sub:Looks (model prog w) s.heap (isInstance (.ref x) (.type "object")) true:=I.type.andThen (looks_mroIn X (by unfold mroIn;rw[hc,bind_some,if_neg (by rw[ne];decide),hob]));have hm:Looks (model prog w) s.heap (mroOf (.ref C)) cd.mro:=(looks_clsIn X hc).andThen .now;refine codeAny_call_builtin SF.slot.plain SF.entry (@check_slot (model prog w) _ _ s "object.__setattr__" "object" "__setattr__" (.ref x) [.str name tk,v] [] _ SF.kind SF.split sub (SF.args (.ref x) (.str name tk) v) ?_);rw[osa_eq,refuse_eq];refine wpAny_bind (wpAny_bind (I.type.here (wpAny_bind (hm.here ?_))));rw[Cg,hst,PySem.F.store_ValueError.passes];refine wpAny_pure (wpAny_bind (I.type.here (wpAny_bind ((looks_findIn X hna).here (wpAny_bind ?_)))));refine wpAny_pure ?_;have hx:=I.at_;obtain ⟨oc,odi,oda,osl⟩:=ox;have hcl:=I.cls;have hno:=I.no;dsimp only at hdn hcl;subst hdn hcl;have hxs:x≠s.heap.objs.size:=ne_of_lt (lt_size hx);refine wpAny_bind (wpAny_pure (wpAny_bind (wpAny_bind (wpAny_loadPart hx (wpAny_bind ((PySem.W.looks_clsIn X hc).here ?_))))));rw[hd];have hx1:(s.heap.push {cls:=.type "dict",data:=.dict #[]}).get? x=some ⟨.ref C,none,oda,osl⟩:=get?_push_of_some _ hx;have hgd:((s.heap.push {cls:=.type "dict",data:=.dict #[]}).update x λo=>{cls:=o.cls,dict:=some s.heap.objs.size,data:=o.data,slots:=o.slots}).get? s.heap.objs.size=some {cls:=.type "dict",data:=.dict #[]}:=
  (Heap.get?_update_ne _ _ _ _ hxs.symm).trans (Heap.get?_push_at rfl rfl)
 have hnd:((s.heap.push {cls:=.type "dict",data:=.dict #[]}).update x λo=>{cls:=o.cls,dict:=some s.heap.objs.size,data:=o.data,slots:=o.slots}).Ns s.heap.objs.size (λ_=>none):=
  ⟨_,#[],_,hgd,rfl,λe he=>absurd he (by simp),λ_=>rfl⟩
 have hx2:((s.heap.push {cls:=.type "dict",data:=.dict #[]}).update x λo=>{cls:=o.cls,dict:=some s.heap.objs.size,data:=o.data,slots:=o.slots}).get? x=some ⟨.ref C,some s.heap.objs.size,oda,osl⟩:=by
  refine get?_update_self _ hx1 ?_;have hfr:=(Heap.get?_some_iff.mp hx).2;cases oda<;>first | rfl | exact hfr
 have main:wpAny (model prog w) A.in1 (do
   let d <-alloc {cls:=.type "dict",data:=.dict #[]}
   update x λo=>{cls:=o.cls,dict:=some d,data:=o.data,slots:=o.slots}
   dictMade (.ref C) x d)
   (λa s'=>wpAny (model prog w) A.in1 (match a with | some d=>Builtin.ObjectAttr.storeInDict d (.str name tk) name v | none=>Builtin.ObjectAttr.noDictFor (.ref x) (.ref C) name (none:Option Value).isSome)
    (λfin s'=>match fin with | .done f=>R (.ok f) s' | .again c'=>c'.quiet=true/\codeAny (model prog w) A c' R s') (λe s'=>R (.error e) s') s') (λe s'=>R (.error e) s') s:=by
  refine wpAny_bind (wpAny_alloc' (wpAny_bind (wpAny_update' hx1 (wpAny_pure ?_))));show wpAny _ _ (Builtin.ObjectAttr.storeInDict s.heap.objs.size (.str name tk) name v) _ _ _;refine wpAny_bind (wpAny_pure (wpAny_bind (wpAny_nsSet1 (Heap.Ns1.of_empty hnd) λh' hn' hs=>?_)));obtain ⟨oD,esD,epD,hoD,hdD,hcD⟩:=hn'.count (Within.cons name v Within.nil);refine wpAny_bind (wpAny_lookBehind hoD (by rw[hdD];exact pastItsLine_dict (le_trans hcD (by rw[length_cons,length_nil,sizeLine_eq];lia))) ?_);refine wpAny_pure (h h' oD _ ((hs.2 x hxs).trans hx2) hoD hn' λb o hb e=>?_);exact (hs.2 b (ne_of_lt (lt_size e))).trans ((Heap.get?_update_ne _ _ _ _ hb).trans (get?_push_of_some _ e))
 have hth:typeHasDict (.ref C)=true:=by simp[typeHasDict]
 cases oda<;>first | (cases hno;done) | exact main
theorem acU (X:K.In s.heap)(I:InstAt s.heap x ox C none)(hdn:ox.dict=none)(hsa:findIn K (.ref C) "__setattr__"=some (some (.builtin "object.__setattr__")))(hp:QG K C=true)(hna:findIn K (.ref C) name=some none)(h:∀h' od t',h'.get? x=some {ox with dict:=some s.heap.objs.size}->h'.get? s.heap.objs.size=some od->h'.Ns1 s.heap.objs.size (λy=>if y=name then some v else none)->(∀b o,b≠x->s.heap.get? b=some o->h'.get? b=some o)->Q () {s with heap:=h',toks:=t'}):
  wpAny (model prog w) A (setAttr (.ref x) name v) Q E s:=
 set_plain X I hsa (acT (s:={s with toks:=s.toks+1}) X I hdn hp hna h)
end
def o9 (C:Addr)(dx:Option Addr)(e:Addr)(h:Heap):Prop:=∃oe vs,h.get? e=some oe/\oe.cls=.ref C/\oe.dict=dx/\oe.data=.fields vs/\vs[1]?=some .none
theorem Xx (x:o9 C dx e h):cj P w H h e (.ext (o9 C dx e)):=by
 obtain ⟨oe,vs,h1,h2⟩:=id x;exact ⟨x,⟨oe,h1⟩,λg1 g2 ⟨o,v,a,b⟩ k=>⟨o,v,k _ a,b⟩⟩
noncomputable abbrev uF (i:Int):HO:=.xd [("row",.int i)]
structure Tj (K:PySem.W.Frag)(fI C:Addr):Prop where
 sh:Lg K C=true
 vm:QG K C=true
 sa:PySem.W.findIn K (.ref C) "__setattr__"=some (some (.builtin "object.__setattr__"))
 na:PySem.W.findIn K (.ref C) "row"=some none
 ii:PySem.W.findIn K (.ref C) "__init__"=some (some (.ref fI))
section
variable {X:Cx}{pins:List (Addr×Obj)}{σ:L2.St}{H:Hp}{s:Shared}
theorem ang (I:Inv X pins σ H s)(he:H e=some (.ext (o9 C none e)))(k:∀b o,b≠e->s.heap.get? b=some o->h'.get? b=some o)(he':o9 C (some s.heap.objs.size) e h')(hd:h'.get? s.heap.objs.size=some od)(hn:h'.Ns1 s.heap.objs.size (λy=>if y="row" then some u else none))(ru:RelV (.int i) u):
  Inv X pins σ (upd (upd H e (.ext (o9 C (some s.heap.objs.size) e))) s.heap.objs.size (.cC od (uF i))) {s with heap:=h',toks:=t'}:=by
 have hdx:H s.heap.objs.size=none:=I.hok.fresh (le_refl _);have ned:s.heap.objs.size≠e:=λz=>by rw[z,he]at hdx;cases hdx
 have nee:∀b,H b=none->b≠e:=λb z q=>by rw[q,he]at z;cases z
 have nex:∀b o,s.heap.get? b=some o->b≠s.heap.objs.size:=λb o z=>ne_of_lt (lt_size z);have nu:∀b u,H b=some u->b≠e->upd (upd H e (.ext (o9 C (some s.heap.objs.size) e))) s.heap.objs.size (.cC od (uF i)) b=some u:=λb u z q=>by
  rw[aU (λy=>by rw[y,hdx]at z;cases z),aU q];exact z
 refine I.Oc (g':=s.gens) (d':=s.drawn) (t':=t') (ch:=[]) (λb hb=>by cases hb) (λb o _ _ _ z n=>k b o (nee b n) z) (λb o _ _ _ z n=>⟨o.slots,k b o (nee b n) z⟩) (λb o _ z n=>?_) (λb o _ z=>?_) (λb xs z=>nu b _ z λy=>by rw[y,he]at z;cases z) (λb o u z=>nu b _ z λy=>by rw[y,he]at z;cases z) (λb ps z=>⟨#[],?_⟩) (λm hm=>?_) (λb u z=>?_) I.bare
 ·rw[aU (nex b o z),aU (nee b n)];exact n
 ·by_cases q:b=e
  ·obtain ⟨oe,vs,h1,_⟩:=he';rw[q];exact ⟨oe,h1⟩
  ·exact ⟨o,k b o q z⟩
 ·rw[nu b _ z λy=>by rw[y,he]at z;cases z];simp
 ·obtain ⟨o,es,ep,ho,r⟩:=hm;exact ⟨o,es,ep,k _ o (nee _ I.free) ho,r⟩
 ·by_cases q:b=s.heap.objs.size
  ·subst q;rw[bJ]at z;cases z;refine ⟨hd,_,hn,λf=>?_⟩;show oF (List.lookup f [("row",V.int i)]) (if f="row" then some u else none);by_cases hf:f="row"
   ·subst hf;exact ru
   ·rw[if_neg hf];have:(f == ("row":Str))=false:=beq_false_of_ne hf;simp only[List.lookup,this];trivial
  ·rw[aU q]at z;by_cases q2:b=e
   ·subst q2;rw[bJ]at z;cases z;exact Xx he'
   ·rw[aU q2]at z;refine (I.hok b u z).stay (λc v hc y=>?_) (λc y=>nu c _ y λw=>by rw[w,he]at y;cases y) λc xs y=>nu c _ y λw=>by rw[w,he]at y;cases y
    refine k c v (λw=>?_) y;rcases hc with rfl | hc
    ·exact q2 w
    ·rw[w,he]at hc;cases hc
end
def spI (K:PySem.W.Frag)(fI:Addr):Sp:=λvs H Q _=>∃e C i,vs=[.ref e,.int i]/\H e=some (.ext (o9 C none e))/\Tj K fI C/\∀dx od,H dx=none->Q .non (upd (upd H e (.ext (o9 C (some dx) e))) dx (.cC od (uF i)))
theorem acV {P:Program}{w:World}{K:PySem.W.Frag}{mg:Str->Option Value}{base:Heap}{x qual:Str}{st:Stmt}{f:Addr}{fd:FuncData}{k:Nat}{p1 p2 p3 p4:Pos}(F:BJ K x qual st f fd)(S:aY ["self","row"] ["self","row"] (aC st))(hb:cH st=[.Assign [.Attribute (.Name "self" p1) "row" p2] (.Name "row" p3) p4])(v1:Jr (aC st) "self")(v2:Jr (aC st) "row")(hs:∀env:Env,env.scope=aC st->swapsWith (.Name "row" p3) (some (.Attribute (.Name "self" p1) "row" p2)) p4.line env=pure false):
  aP P w K mg base bx (k+1) f fd ["self","row"] (spI K f):=by
 refine F.ok S (λvs H Q E h=>?_) λcdv A outer s H vs Q E hr h=>?_
 ·obtain ⟨e,C,i,rfl,_⟩:=h;rfl
 ·obtain ⟨e,C,i,rfl,he,hx,q⟩:=h;rw[hb];refine ⟨λD σ H=>∃e C i,σ[0]?=some (some (.ref e))/\σ[1]?=some (some (.int i))/\H e=some (.ext (o9 C none e))/\Tj K f C/\∀dx od,H dx=none->D.nx σ (upd (upd H e (.ext (o9 C (some dx) e))) dx (.cC od (uF i))),ab4 ?_,e,C,i,rfl,rfl,he,hx,q⟩;intro pins s1 σ1 H1 D I ⟨e,C,i,h0,h1,he,hx,q⟩;have ha:=Py (X:=(jz bx P w K mg base ["self","row"] qual (aC st) f cdv A outer s H E).qx) (i:=0) (x:="self") (pos:=p1) rfl v1;have hv:=Py (X:=(jz bx P w K mg base ["self","row"] qual (aC st) f cdv A outer s H E).qx) (i:=1) (x:="row") (pos:=p3) rfl v2;refine plainObj_wpAny_Assign_Attribute (bf (hv pins s1 σ1 H1 (λy H'=>y=.int i/\H'=H1) I ⟨_,h1,rfl,rfl⟩) λu s2 ⟨y,H2,I2,ry,ey,eH⟩=>?_) (hs _ rfl);subst ey eH;refine bf (ha pins s2 σ1 H2 (λy H'=>y=.ref e/\H'=H2) I2 ⟨_,h0,rfl,rfl⟩) λov s3 ⟨z,H3,I3,rz,ez,eH⟩=>?_;subst ez eH;obtain rfl:ov=Value.ref e:=rz;obtain ⟨⟨oe,vs,g1,g2,g3,g4,g5⟩,_⟩:=(show cj _ _ H3 s3.heap e (.ext (o9 C none e)) from I3.hok e _ he)
  refine acU (K:=K) (C:=C) I3.dJ ⟨g1,g2,by unfold notCls;rw[g4],by rw[g3];trivial⟩ g3 hx.sa hx.vm hx.na λh' od t' k1 k2 k3 k4=>?_;exact ⟨σ1,_,ang I3 he k4 ⟨_,vs,k1,g2,rfl,g4,g5⟩ k2 k3 ry,q _ od (I3.hok.fresh (le_refl _))⟩
section
variable {X:Cx}{pins:List (Addr×Obj)}{σ:L2.St}{H:Hp}{s:Shared}
theorem Z8 (M:Tj X.K fI C)(hfn:isFn X.K (.ref fI)=true)(F:aP X.prog X.w X.K X.mg X.base bx k fI fd ["self","row"] (spI X.K fI))(hr:cM (k+1) X.A)(hb:Binds X.K fd ["self","row"] [])(I:Inv X pins σ H s)(ru:RelV (.int i) u)(h:∀s' e dx od,s.heap.get? e=none->H e=none->H dx=none->dx≠e->Inv X pins σ (upd (upd H e (.ext (o9 C (some dx) e))) dx (.cC od (uF i))) s'->Q (.ref e) s'):
  wpAny (model X.prog X.w) X.A (call (.ref C) [u]) Q X.xe s:=by
 obtain ⟨oI,hfI,hfc⟩:∃oI,X.K.lookup fI=some oI/\oI.cls=.type "function":=by
  have e:typeIn X.K (.ref fI)=some (.type "function"):=beq_iff_eq.mp hfn;obtain ⟨o,e1,e2⟩:=map_eq_some_iff.mp (show (X.K.lookup fI).map (·.cls)=some (.type "function") from e);exact ⟨o,e1,e2⟩
 obtain ⟨hh,g,d,t,os⟩:=s;refine Xw (K:=X.K) I.dJ M.sh M.ii hfI hfc (by rw[sizeLine_eq];simp) ?_;have hfe:H (hh.objs.size+1)=none:=I.hok.fresh (le_succ _);have I1:=I.laid (a:=hh.objs.size+1) (o:=.ext (o9 C none (hh.objs.size+1))) (h':=qd hh C [u]) (t':=t) (λb o e=>qH e) (le_succ _) (Xx ⟨_,_,JR,rfl,rfl,rfl,rfl⟩);have hsp:spI X.K fI [.ref (hh.objs.size+1),.int i] (upd H (hh.objs.size+1) (.ext (o9 C none (hh.objs.size+1)))) (λv H2=>v=.non/\∃dx od,H dx=none/\dx≠hh.objs.size+1/\H2=upd (upd H (hh.objs.size+1) (.ext (o9 C (some dx) (hh.objs.size+1)))) dx (.cC od (uF i))) E0:=by
  refine ⟨hh.objs.size+1,C,i,rfl,bJ,M,λdx od hdx=>⟨rfl,dx,od,?_,?_,?_⟩⟩
  ·by_cases q:dx=hh.objs.size+1
   ·rw[q];exact hfe
   ·rw[aU q]at hdx;exact hdx
  ·intro q;rw[q,bJ]at hdx;cases hdx
  ·congr 1;funext b;by_cases q:b=hh.objs.size+1
   ·rw[q,bJ,bJ]
   ·rw[aU q,aU q,aU q]
 have r2:Vals [V.ref (hh.objs.size+1),.int i] [Value.ref (hh.objs.size+1),u]:=.cons rfl (.cons ru .nil);refine wpAny_call (codeAny_mono (F.run _ X.stack _ _ ⟨[Value.ref (hh.objs.size+1),u],[]⟩ [Value.ref (hh.objs.size+1),u] _ _ E0 (hr.make C [u] []) (I1.env0.make C [u] []) (hb _ [Value.ref (hh.objs.size+1),u] I1.dJ rfl) r2 hsp) λr s' hq'=>?_);cases r with
 | error e=>exact Vg pins σ _ _ e s' I1 hq'
 | ok fl=>
  cases fl with
  | ret v=>
   obtain ⟨w',H',I3,rv,ev,dx,od,q1,q2,q3⟩:=I1.after hq';subst ev q3;exact ⟨rv,h s' _ dx od (Heap.get?_none_of_le (le_succ _)) hfe q1 q2 I3⟩
  | next=>exact False.elim hq'
  | brk=>exact False.elim hq'
  | cont=>exact False.elim hq'
theorem acW (I:Inv X pins σ H s)(he:H e=some (.ext φ))(ot:∀b,b≠e->H' b=H b)(new:∀o,H' e=some o->cj X.prog X.w H' s.heap e o):Inv X pins σ H' s:=by
 have ne:∀b u,H b=some u->(∀ψ,u≠.ext ψ)->b≠e:=λb u z n q=>by rw[q,he]at z;cases z;exact n _ rfl
 refine I.Oc (h':=s.heap) (g':=s.gens) (d':=s.drawn) (t':=s.toks) (ch:=[]) (λb hb=>by cases hb) (λb o _ _ _ z _=>z) (λb o _ _ _ z _=>⟨o.slots,z⟩) (λb o _ z n=>?_) (λb o _ z=>⟨o,z⟩) (λb xs z=>?_) (λb o u z=>?_) (λb ps z=>⟨#[],?_⟩) (λm hm=>hm) (λb u z=>?_) I.bare
 ·rw[ot b (λq=>by rw[q,he]at n;cases n)];exact n
 ·rw[ot b (ne b _ z λ_ q=>by cases q)];exact z
 ·rw[ot b (ne b _ z λ_ q=>by cases q)];exact z
 ·rw[ot b (ne b _ z λ_ q=>by cases q),z];simp
 ·by_cases q:b=e
  ·subst q;exact new u z
  ·rw[ot b q]at z;exact (I.hok b u z).stay (λ_ _ _ y=>y) (λc y=>by rw[ot c (ne c _ y λ_ q=>by cases q)];exact y) λc xs y=>by rw[ot c (ne c _ y λ_ q=>by cases q)];exact y
end
variable [r0:R0]
section
variable {X:Cx}{sub:Nat->Nat->Bool}{Γ:Z.dB}{E:Z.PX}
structure Vl (X:Cx)(k:Nat)(fI:Addr)(fd:FuncData)(C:Addr):Prop where
 ex:Tj X.K fI C
 fn:isFn X.K (.ref fI)=true
 ok:aP X.prog X.w X.K X.mg X.base bx k fI fd ["self","row"] (spI X.K fI)
 bi:Binds X.K fd ["self","row"] []
 kp:keepIn X.K (.ref C)=true
end
end ZS
namespace ZS
open PySem PySem.Spec PyProof.Rows L2
section
variable {M:Model}{A:Around}{E:Value->Shared->Prop}{s:Shared}{env:Env}
variable {nm q:Str}{C N:Addr}{bs bm:List Value}{hdct:Bool}{sn:List Str}{sub:List Value}{ab:Bool}{col:Option Bool}{dd:Option Addr}{k0 k1 k2 k3 k5:Option Value}{newId:String}
theorem Vm (hbase:bm.contains (.type "BaseException")=true)(hh:A.handled=none)(h:wpAny M A x (λv s₁=>∃e dx vs sl,v=.ref e/\s₁.heap.get? C=some (excClassObj nm q C N bs bm hdct sn sub ab col dd k0 k1 k2 k3 k5 newId)/\s₁.heap.get? e=some ⟨.ref C,dx,.fields vs,sl⟩/\vs[1]?=some .none/\E (.ref e) s₁) E s):
  wpAny M A (raiseStmt env (some x) none) Q E s:=by
 have hc:(Value.ref C::bm).contains (.type "BaseException")=true:=by rw[contains_cons,hbase,Bool.or_true]
 unfold raiseStmt;refine wpAny_bind (wpAny_mono h (λv s₁ h₁=>?_) λ_ _ x=>x);obtain ⟨e,dx,vs,sl,rfl,hC,he,h5,hE⟩:=h₁;obtain ⟨hp,g,d,tk,os⟩:=s₁
 repeat (first | with_reducible refine wpAny_loadPart_at he ?_ | with_reducible refine wpAny_loadPart_at hC ?_ | (with_reducible refine wpAny_isSubtype_exc hC ?_;rw[hc]) | wp_step)
 rw[h5];refine wpAny_pure ?_;rw[if_neg (by decide)];exact wpAny_pure (wpAny_raiseNew_none hh hE)
end
variable [r0:R0]
section
variable {X:Cx}{sub:Nat->Nat->Bool}{Γ:Z.dB}{E:Z.PX}
theorem Lh (hx:XOk X E)(hex:X.ex=[])(hr:cM (k+1) X.A)(M:Vl X k fI fd C)(hm:X.mg x=some (.ref C))(hn:nsIn X.K mainGlobals x=some (some (.ref C)))(he:LE X sub Γ E e e')(hcn:x=⟨cn.toArray⟩:=by rfl)(hg:Gl X x:=by rfl)(hdb:cN x:=by decide)(hs:starEach [e] X.env=(false,eval e X.env)::starEach [] X.env:=by rfl)(hpl:(backTo cpos (starEach [] X.env)).any (·.1)=false:=by rfl):
  LS X sub Γ E (.Raise (some (.Call (.Name x np) [e] [] cpos)) none pos) (.sE cn e'):=by
 intro pins s σ H D I ⟨ρ,h,τ,N,R,L,w,k'⟩;simp only[Z.wpS]at w;obtain ⟨bm,NN,nm,qn,bs,sn,Z9,ab,col,dd,k0,k1,k2,k3,k5,hC0,ok⟩:=Ce I.dJ M.ex.sh;rw[arm_exec_Raise];have ha:PA X [e] _:=kZ he uW hs;have main:wpAny (model X.prog X.w) X.A (eval (.Call (.Name x np) [e] [] cpos) X.env) (λv s₁=>∃e dx vs sl,v=.ref e/\s₁.heap.get? C=some (excClassObj nm qn C NN bs bm true sn Z9 ab col dd k0 k1 k2 k3 k5 "ValueError.__new__")/\s₁.heap.get? e=some ⟨.ref C,dx,.fields vs,sl⟩/\vs[1]?=some .none/\X.xe (.ref e) s₁) X.xe s:=by
  refine wpAny_Call_Name_kw (kY I hg hm ?_ hdb);refine callWith_K (h₀:=X.base) I.ok.mod.Jq M.kp (bf (ha cpos pins s σ H (λvs H1=>∃i aM h1,vs=[.int i]/\Rep X.K aM h1 H1/\Ext X.K ρ H aM H1/\E (.tup [.str cn,.int i]) h1) I ?_) λus s1 ⟨vs,H1,I1,r,i,aM,h1,ev,R1,e1,q⟩=>⟨I1.dJ,?_⟩) hs hpl
  ·refine ⟨ρ,h,τ,_,R,L,w,λd1 h1 aM H1 v e1 R1 r1 w1=>?_⟩;cases d1 with
   | int i=>
    simp only[ak]at r1;subst r1;exact ⟨i,aM,h1,rfl,R1,e1,w1⟩
   | _=>exact w1.elim
  ·subst ev;obtain ⟨u,rfl,ru⟩:∃u,us=[u]/\RelV (.int i) u:=by
    cases r with
    | cons a b=>cases b;exact ⟨_,rfl,a⟩
   refine Z8 M.ex M.fn M.ok hr M.bi I1 ru λs2 ea dx od hnew hf hfd hne I2=>?_;obtain ⟨⟨oe,vs,g1,g2,g3,g4,g5⟩,_⟩:=(show cj _ _ _ s2.heap ea (.ext (o9 C (some dx) ea)) from I2.hok ea _ (by rw[aU (Ne.symm hne),bJ]))
   have hno:upd H1 dx (.cC od (uF i)) ea=none:=by rw[aU (Ne.symm hne)];exact hf
   have I3:=acW (H':=upd H1 dx (.cC od (uF i))) I2 (e:=ea) (by rw[aU (Ne.symm hne),bJ]) (λb hb=>?_) λo z=>?_
   ·obtain ⟨bm2,NN2,nm2,qn2,bs2,sn2,aqw,ab2,aqx,dd2,l0,l1,l2,l3,l5,hC2,_⟩:=Ce I2.dJ M.ex.sh;have hC3:s2.heap.get? C=some (excClassObj nm qn C NN bs bm true sn Z9 ab col dd k0 k1 k2 k3 k5 "ValueError.__new__"):=by
     obtain ⟨o,eo⟩:∃o,X.K.lookup C=some o:=by
      have:=M.ex.sh;unfold Lg at this;cases q:X.K.lookup C with
      | none=>rw[q]at this;cases this
      | some o=>exact ⟨o,rfl⟩
     have z1:=I.dJ _ _ eo;rw[hC0]at z1;rw[I2.dJ _ _ eo,z1]
    refine ⟨ea,some dx,vs,oe.slots,rfl,hC3,?_,g5,?_⟩
    ·rw[g1];obtain ⟨a1,a2,a3,a4⟩:=oe;simp only at g2 g3 g4;subst g2 g3 g4;rfl
    ·exact hx pins σ _ s2 ea C (some i) aM h1 cn I3 ⟨Ir I1 hex ea hnew,hno,oe,vs,g1,g2,⟨dx,od,g3,bJ⟩,g4,.inl g5⟩ (R1.fresh hfd) (hcn ▸ hn) q
   ·by_cases q:b=dx
    ·rw[q,bJ,bJ]
    ·rw[aU q,aU q,aU hb]
   ·rw[hno]at z;cases z
 refine wpAny_bind (wpAny_standAt (Vm (C:=C) (nm:=nm) (q:=qn) (N:=NN) (bs:=bs) (bm:=bm) (hdct:=true) (sn:=sn) (sub:=Z9) (ab:=ab) (col:=col) (dd:=dd) (k0:=k0) (k1:=k1) (k2:=k2) (k3:=k3) (k5:=k5) (newId:="ValueError.__new__") ok.b hr.hd (wpAny_bind (wpAny_mono main (λv s₃ h₃=>wpAny_bind (wpAny_standAt (wpAny_pure h₃))) λ_ _ z=>z))))
end
section
open PySem.W
variable {prog:Program}{w:World}{A:Around}{E:Value->Shared->Prop}{s:Shared}{K:PySem.W.Frag}{x D:Addr}{ox od:Obj}
theorem acX (X:K.In s.heap)(I:InstAt s.heap x ox D (some od))(hf:findObj K D (some od) name=some (.value v))(hv:handedIn v=true)(h:Q (.done (.ret v)) s):wpAny (model prog w) A (Builtin.«object.__getattribute__» ⟨[.ref x,.str name tk],[]⟩) Q E s:=by
 obtain ⟨hh,gg,d,t,os⟩:=s;have L0:=I.type (M:=model prog w);have L1:=looks_find (M:=model prog w) X I hf;unfold Builtin.«object.__getattribute__»;refine wpAny_bind (wpAny_pure (wpAny_bind (wpAny_pure (wpAny_bind (L0.at (wpAny_bind (L1.at ?_)))))));exact wpAny_pure h
theorem Z_ (X:K.In s.heap)(I:InstAt s.heap x ox D (some od))(c:xT K D)(hf:findObj K D (some od) name=some (.value v))(hv:handedIn v=true)(h:Q v {s with toks:=s.toks+1}):wpAny (model prog w) A (getAttr (.ref x) name b) Q E s:=by
 obtain ⟨hh,g,d,t,os⟩:=s;have L0:=I.type (M:=model prog w);have L1:=looks_findIn (M:=model prog w) X c.ga;have L2:=looks_findIn (M:=model prog w) X c.gh;have L3:Looks (model prog w) hh (isInstance (.ref x) (.type "BaseException")) true:=L0.andThen (looks_mroIn X c.mb);unfold getAttr getAttrBy;refine wpAny_bind (wpAny_mkText (wpAny_holding (wpAny_bind (L0.at (wpAny_bind (L1.at ?_))))));have hx2:(Value.builtin "BaseException.__getattribute__" == Value.builtin "object.__getattribute__")=false:=by decide+kernel
 dsimp only;rw[if_neg (by rw[hx2,Bool.and_false];decide)];unfold getAttrByItsOwn hookBefore;rw[if_pos (show onTheHeap (Value.ref D)=true by rfl)];refine wpAny_bind (L2.at (wpAny_bind (wpAny_attempt (wpAny_holding ?_))));unfold callGetattribute;rw[if_neg (by cases b<;>decide)];unfold boundAndCalled;refine wpAny_bind (wpAny_of_eq (attr_ValueError.ga.bind (.ref x)) ?_);refine wpAny_call (codeAny_call_builtin attr_ValueError.ga.plain entry_bexc_ga (Nb L3 (acX (s:=⟨hh,g,d,t+1,os⟩) X I hf hv ?_)));exact handed_on hv h
theorem acY (hd:o.data=.dict es ep)(e:nsFind es name=some v):lookIn name o=some (some v):=by
 unfold lookIn;rw[hd];dsimp only;unfold nsFind findBy at e;rw[Array.find?_toList];cases q:es.find? (λx=>x.key.isStr name) with
 | none=>rw[q]at e;cases e
 | some x=>rw[q]at e;cases e;rfl
theorem aac (hc:clsIn K D=some cd)(hd:cd.hasDict=true)(ha:findIn K (.ref D) name=some none)(hl:lookIn name od=some (some v)):findObj K D (some od) name=some (.value v):=by
 unfold findObj;rw[hc,bind_some,ha];simp only[bind_some];unfold PySem.W.ownOf;rw[hd,if_pos rfl];simp only[hl,bind_some]
end
structure Vn (K:PySem.W.Frag)(C:Addr):Prop where
 ex:xT K C
 vm:QG K C=true
 na:PySem.W.findIn K (.ref C) "row"=some none
def Ci (K:PySem.W.Frag)(cs:List Z.S):Prop:=∀c∈cs,∀C,nsIn K mainGlobals ⟨c.toArray⟩=some (some (.ref C))->Vn K C
theorem aad {K:PySem.W.Frag}:Ci K []:=λc h=>by cases h
theorem lu {K:PySem.W.Frag}{c:Z.S}{x:Str}{C:Addr}{cs:List Z.S}(hC:nsIn K mainGlobals x=some (some (.ref C)))(l:Vn K C)(r:Ci K cs)(hx:x=⟨c.toArray⟩:=by rfl):Ci K (c::cs):=by
 subst hx;intro c' h C' hn;rcases mem_cons.mp h with rfl | h
 ·rw[hC]at hn;cases hn;exact l
 ·exact r c' h C' hn
section
variable {X:Cx}{sub:Nat->Nat->Bool}{Γ:Z.dB}{E:Z.PX}
theorem ai0 (hc:Ci X.K cs)(he:LE X sub Γ E e e')(hb:attributeBase e "row" X.env (eval e X.env)=eval e X.env:=by rfl):LE X sub Γ E (.Attribute e "row" pos) (.prim (.Uy cs) (.cons e' .nil)):=by
 intro pins s σ H Q I ⟨ρ,h,τ,Q',R,L,w,k⟩;simp only[Z.aL,Z.bB]at w;refine ab7 hb (bf (he pins s σ H (λv H1=>∃a C oe dx od i,v=.ref a/\H1 a=some (.cC oe (.own 0))/\H1 dx=some (.cC od (uF i))/\oe.cls=.ref C/\oe.dict=some dx/\notCls oe=true/\Vn X.K C/\Q (.int i) H1) I ⟨ρ,h,τ,_,R,L,w,λd1 h1 aM H1 x e1 R1 r1 w1=>?_⟩) λu s1 ⟨x,H1,I1,rx,a,C,oe,dx,od,i,ex,ha,hx,g1,g2,g3,l,q⟩=>?_)
 ·have w2:match Z.UW cs [d1] h1 with | some (v,h2)=>Q' v h2 | none=>False:=w1
  cases d1 with
  | ref n=>
   simp only[Z.UW]at w2;cases eo:h1[n]? with
   | none=>simp only[eo]at w2
   | some ob=>
    cases ob with
    | dZ c i=>
     simp only[eo]at w2;by_cases hm:c∈cs
     ·rw[if_pos hm]at w2;obtain ⟨a,C,oe,dx,od,rfl,hn,ha,hx,g1,g2,g3⟩:=Xm R1 r1 eo;exact ⟨a,C,oe,dx,od,i,rfl,ha,hx,g1,g2,g3,hc c hm C hn,k _ _ aM H1 _ e1 R1 (by simp only[ak]) w2⟩
     ·rw[if_neg hm]at w2;exact w2.elim
    | _=>simp only[eo]at w2
  | _=>exact w2.elim
 ·subst ex;obtain rfl:u=Value.ref a:=rx;obtain ⟨ho,_⟩:=(show cj X.prog X.w H1 s1.heap a (.cC oe (.own 0)) from I1.hok a _ ha)
  obtain ⟨hod,mA,⟨o,es,ep,ho2,hd,_,_,hf⟩,rel⟩:=(show cj X.prog X.w H1 s1.heap dx (.cC od (uF i)) from I1.hok dx _ hx)
  rw[hod]at ho2;cases ho2;obtain ⟨u2,hu,ru⟩:=oF.some_of (v:=.int i) (o:=mA "row") (rel "row");obtain ⟨cd,hcd,hv⟩:=PySem.W.any_some l.vm;simp only[and_eq_true]at hv;refine Z_ I1.dJ ⟨ho,g1,g3,by rw[g2];exact hod⟩ l.ex (aac hcd hv.1 l.na (acY hd (by rw[hf,hu]))) (WT ru) ?_;exact ⟨.int i,H1,I1.tok _,ru,q⟩
theorem Vo (F:∀r:R0,aP X.prog X.w X.K X.mg X.base (lM X.prog X.w) kk fa fd ps (@vd r X.K Γ f))(hr:cM kk X.A)(hb:bs.length=ps.length->BindsTo s1 fd ⟨us,kw⟩ (ps.zip bs))(I1:Inv X pins σ H1 s1)(rv:Vals vs bs)(R1:Rep X.K aM h1 H1)(rd:aq X.K aM H1 jL vs)(wΓ:Γ f jL h1 Qm Em)(hq:∀u s2 v H2 bL h2 d2,Inv X pins σ H2 s2->RelV v u->Ext X.K aM H1 bL H2->Rep X.K bL h2 H2->ak X.K bL H2 d2 v->Qm d2 h2->Q u s2)(hE:∀s2 H2 ea C xr (cn:Z.S) bL h2,Inv X pins σ H2 s2->ExcAt s1.heap s2.heap H2 xr C ea->(∀b o,s1.heap.get? b=some o->∃o',s2.heap.get? b=some o')->Ext X.K aM H1 bL H2->Rep X.K bL h2 H2->nsIn X.K mainGlobals ⟨cn.toArray⟩=some (some (.ref C))->Em (xD cn xr) h2->XE (.ref ea) s2):
  wpAny (model X.prog X.w) X.A (call (.ref fa) us kw) Q XE s1:=by
 have sp:@vd ⟨aM,H1⟩ X.K Γ f vs H1 (λv H2=>∃bL h2 d2,Ext X.K aM H1 bL H2/\Rep X.K bL h2 H2/\ak X.K bL H2 d2 v/\Qm d2 h2)
   (λv c H2=>∃(cn:Z.S) (C:Addr) (xr:Option Int) (bL:List Addr) (h2:Z.AH),v=xv xr/\c=some C/\Ext X.K aM H1 bL H2/\Rep X.K bL h2 H2/\nsIn X.K mainGlobals ⟨cn.toArray⟩=some (some (.ref C))/\Em (xD cn xr) h2):=
  ⟨aM,h1,jL,Qm,Em,afJ R1,rd,wΓ,λd h' ρ' H' v e' R' r' q=>⟨ρ',h',d,e',Xn R1 R',r',q⟩,λcn' C' xr h' ρ' H' R' hc' q=>⟨cn',C',xr,ρ',h',rfl,rfl,Te R',Xn R1 R',hc',q⟩⟩
 have hln:bs.length=ps.length:=by rw[<-rv.length];exact (F ⟨aM,H1⟩).len _ _ _ _ sp
 refine wpAny_call (codeAny_mono ((F ⟨aM,H1⟩).run X.A X.stack s1 H1 ⟨us,kw⟩ bs vs _ _ hr I1.env0 (hb hln) rv sp) λres s2 hres=>?_);cases res with
 | ok fl=>
  cases fl with
  | next=>exact False.elim hres
  | brk=>exact False.elim hres
  | cont=>exact False.elim hres
  | ret u=>
   obtain ⟨v,H2,I2,r2,bL,h2,d2,e2,R2,QH,q⟩:=I1.after hres;exact hq u s2 v H2 bL h2 d2 I2 r2 e2 R2 QH q
 | error ex=>
  obtain ⟨ea,C',xr,H2,rfl,os,bare,un,hok,x2,cn,C,xr',bL,h2,hv,hC,e2,R2,hn,wh⟩:=hres;cases hC;cases Xg hv;exact hE s2 H2 ea _ xr cn bL h2 (I1.call' os un hok bare (λb z=>absurd z (by simp))) x2 (λb o e=>un.there b o e (by simp)) e2 R2 hn wh
def LC (X:Cx)(sub:Nat->Nat->Bool)(Γ:Z.dB)(E:Z.PX)(i:Nat)(sts:List Stmt)(cc:Z.CC):Prop:=
 ∀(pins:List (Addr×Obj)) (s:Shared) (σ:L2.St) (H:Hp) (ρ:List Addr) (h:Z.AH) (τ:Z.Lo) (Qm:Z.PV) (Em:Z.PX) (Q:Flow->Shared->Prop) (XE:Value->Shared->Prop),Inv X pins σ H s->Rep X.K ρ h H->cG X.K ρ H τ σ->Z.gW sub Γ E cc τ h Qm Em->
  (∀s2 v H2 bL h2 d2,Inv X pins (σ.set i (some v)) H2 s2->Ext X.K ρ H bL H2->Rep X.K bL h2 H2->ak X.K bL H2 d2 v->Qm d2 h2->Q .next s2)->
  (∀s1 H1 s2 H2 ea C xr (cn:Z.S) bL h2,Inv X pins σ H1 s1->Inv X pins σ H2 s2->ExcAt s1.heap s2.heap H2 xr C ea->(∀b o,s1.heap.get? b=some o->∃o',s2.heap.get? b=some o')->Ext X.K ρ H bL H2->Rep X.K bL h2 H2->nsIn X.K mainGlobals ⟨cn.toArray⟩=some (some (.ref C))->Em (xD cn xr) h2->XE (.ref ea) s2)->
  wpAny (model X.prog X.w) X.A (execs sts X.env) Q XE s
theorem acZ (i:Nat)(hr:cM kk X.A)(F:∀r:R0,aP X.prog X.w X.K X.mg X.base (lM X.prog X.w) kk fa fd ps (@vd r X.K Γ f))(hm:X.mg fx=some (.ref fa))(hk:keepIn X.K (.ref fa)=true)(hb:Binds X.K fd ps [])(hN:X.N.Nodup)(ha:LA X.qx sub Γ E (a::as) es')(hi:X.N[i]?=some y:=by rfl)(hx:Loc X.env.scope y:=by first | exact Or.inl rfl | exact Or.inr rfl)(hf:X.fn y=true\/X.env.scope.names.lookup y=some .local:=by first | exact .inl rfl | exact .inr rfl)(hsw:swapsWith (.Call (.Name fx fp) (a::as) [] cpos) (some (.Name y yp)) apos.line X.env=pure false:=by rfl)(hg:Gl X fx:=by rfl)(hdb:cN fx:=by decide)(he:eE X.env a as:=by rfl)(hpl:iW X.env as cpos:=by rfl):
  LC X sub Γ E i [.Assign [.Name y yp] (.Call (.Name fx fp) (a::as) [] cpos) apos] (.call f es' []):=by
 intro pins s σ H ρ h τ Qm Em Q XE I R L w hq hE;simp only[Z.gW]at w;refine wpAny_execs_cons (wpAny_Assign_Name (wpAny_Call_Name_kw (kY I hg hm ?_ hdb)) hsw);refine callWith_K (first:=[]) (h₀:=X.base) I.ok.mod.Jq hk (wpAny_mono (ha cpos pins s σ H (λvs H1=>∃aM h1 jL,Rep X.K aM h1 H1/\Ext X.K ρ H aM H1/\aq X.K aM H1 jL vs/\Γ f jL h1 Qm Em) (I.wish _)
  ⟨ρ,h,τ,_,R,L,w,λjL h1 aM H1 vs e1 R1 r1 w1=>⟨aM,h1,jL,R1,e1,r1,by rw[append_nil]at w1;exact w1⟩⟩) (λus s1 ⟨vs,H1,I1,rv,aM,h1,jL,R1,e1,rd,wΓ⟩=>⟨I1.dJ,?_⟩) λ_ _ z=>False.elim z) he hpl
 replace I1:Inv X pins σ H1 s1:=I1.gB
 refine Vo F hr (λhl=>by have:=hb s1 us I1.dJ (by rw[append_nil];exact hl);rwa [append_nil]at this) I1 rv R1 rd wΓ (λu s2 v H2 bL h2 d2 I2 r2 e2 R2 QH q=>?_) λs2 H2 ea C xr cn bL h2 I2 x2 th e2 R2 hn q=>hE s1 H1 s2 H2 ea C xr cn bL h2 I1 I2 x2 th (e1.trans e2) R2 hn q;exact j8 I2 hN hi hx r2 (λs3 I3=>wpAny_execs_nil (hq s3 v H2 bL h2 d2 I3 (e1.trans e2) R2 QH q)) hf
theorem aaf (i:Nat)(hr:cM kk X.A)(F:∀r:R0,aP X.prog X.w X.K X.mg X.base (lM X.prog X.w) kk fa fd ps (@vd r X.K Γ f))(hm:X.mg fx=some (.ref fa))(hk:keepIn X.K (.ref fa)=true)(hb:BnD X.K fd ps d)(hN:X.N.Nodup)(ha:LA X.qx sub Γ E (a::as) es')(hi:X.N[i]?=some y:=by rfl)(hx:Loc X.env.scope y:=by first | exact Or.inl rfl | exact Or.inr rfl)(hf:X.fn y=true\/X.env.scope.names.lookup y=some .local:=by first | exact .inl rfl | exact .inr rfl)(hsw:swapsWith (.Call (.Name fx fp) (a::as) [] cpos) (some (.Name y yp)) apos.line X.env=pure false:=by rfl)(hg:Gl X fx:=by rfl)(hdb:cN fx:=by decide)(he:eE X.env a as:=by rfl)(hpl:iW X.env as cpos:=by rfl):
  LC X sub Γ E i [.Assign [.Name y yp] (.Call (.Name fx fp) (a::as) [] cpos) apos] (.call f es' [d]):=by
 intro pins s σ H ρ h τ Qm Em Q XE I R L w hq hE;obtain ⟨u0,hb,v0,c1,c2⟩:=hb;simp only[Z.gW]at w;refine wpAny_execs_cons (wpAny_Assign_Name (wpAny_Call_Name_kw (kY I hg hm ?_ hdb)) hsw);refine callWith_K (first:=[]) (h₀:=X.base) I.ok.mod.Jq hk (wpAny_mono (ha cpos pins s σ H (λvs H1=>∃aM h1 jL,Rep X.K aM h1 H1/\Ext X.K ρ H aM H1/\aq X.K aM H1 jL vs/\Γ f (jL++[d]) h1 Qm Em) (I.wish _)
  ⟨ρ,h,τ,_,R,L,w,λjL h1 aM H1 vs e1 R1 r1 w1=>⟨aM,h1,jL,R1,e1,r1,w1⟩⟩) (λus s1 ⟨vs,H1,I1,rv,aM,h1,jL,R1,e1,rd,wΓ⟩=>⟨I1.dJ,?_⟩) λ_ _ z=>False.elim z) he hpl
 replace I1:Inv X pins σ H1 s1:=I1.gB
 refine Vo F hr (bs:=us++[u0]) (vs:=vs++[v0]) (λhl=>hb s1 us I1.dJ hl) I1 (rv.append (.cons c1 .nil)) R1 (rd.append (.one (c2 aM H1))) wΓ (λu s2 v H2 bL h2 d2 I2 r2 e2 R2 QH q=>?_) λs2 H2 ea C xr cn bL h2 I2 x2 th e2 R2 hn q=>hE s1 H1 s2 H2 ea C xr cn bL h2 I1 I2 x2 th (e1.trans e2) R2 hn q;exact j8 I2 hN hi hx r2 (λs3 I3=>wpAny_execs_nil (hq s3 v H2 bL h2 d2 I3 (e1.trans e2) R2 QH q)) hf
theorem abn (hc:LT X.qx sub Γ E c c')(h1:LC X sub Γ E i st1 a)(h2:LC X sub Γ E i st2 b):LC X sub Γ E i [.If c st1 st2 pos] (.ite c' a b):=by
 intro pins s σ H ρ h τ Qm Em Q XE I R L w hq hE;simp only[Z.gW]at w;refine wpAny_execs_cons (wpAny_If (wpAny_mono (hc pins s σ H (λb' H1=>∃aM h1,Rep X.K aM h1 H1/\Ext X.K ρ H aM H1/\if b'=true then Z.gW sub Γ E a τ h1 Qm Em else Z.gW sub Γ E b τ h1 Qm Em) (I.wish _)
   ⟨ρ,h,τ,_,R,L,w,λc h1 aM H1 e1 R1 w1=>⟨aM,h1,R1,e1,w1⟩⟩) (λb' s1 ⟨H1,I1,aM,h1',R1,e1,w1⟩=>?_) λ_ _ z=>False.elim z))
 replace I1:Inv X pins σ H1 s1:=I1.gB
 have L1:=L.mono e1;cases b' with
 | true=>
  rw[if_pos rfl]at w1 ⊢;exact h1 pins s1 σ H1 aM h1' τ Qm Em _ XE I1 R1 L1 w1 (λs2 v H2 bL h2 d2 I2 e2 R2 r2 q=>wpAny_execs_nil (hq s2 v H2 bL h2 d2 I2 (e1.trans e2) R2 r2 q)) λs1' H1' s2 H2 ea C xr cn bL h2 I1' I2 x2 th e2 R2 hn q=>hE s1' H1' s2 H2 ea C xr cn bL h2 I1' I2 x2 th (e1.trans e2) R2 hn q
 | false=>
  rw[if_neg (by decide)]at w1 ⊢;exact h2 pins s1 σ H1 aM h1' τ Qm Em _ XE I1 R1 L1 w1 (λs2 v H2 bL h2 d2 I2 e2 R2 r2 q=>wpAny_execs_nil (hq s2 v H2 bL h2 d2 I2 (e1.trans e2) R2 r2 q)) λs1' H1' s2 H2 ea C xr cn bL h2 I1' I2 x2 th e2 R2 hn q=>hE s1' H1' s2 H2 ea C xr cn bL h2 I1' I2 x2 th (e1.trans e2) R2 hn q
end
end ZS
namespace ZS
open PySem PySem.Spec PyProof.Rows L2
def BnK (K:PySem.W.Frag)(fd:FuncData)(ps:List Str)(kn:Str):Prop:=∀(s:Shared) (u1 u2:Value),K.In s.heap->BindsTo s fd ⟨[u1],[(kn,u2)]⟩ (ps.zip [u1,u2])
theorem Iz.afU {K:PySem.W.Frag}{x qual:Str}{st:Stmt}{f T:Addr}{fd:FuncData}{ps:List Str}{kn:Str}{oc:Value}{od:Option Addr}{its:Array Value}{n:Nat}{sl:Array (Option Value)}(F:Iz K x qual st f T fd)(hT:K.lookup T=some ⟨oc,od,.seq its n,sl⟩)(h:∀(kV doc pm:Value) (an:Option Addr) (cdv ct:Value) (u1 u2:Value),∃k,bindArgs (fnOf x qual (dX st) (cH st) (aC st) (.ref T) kV doc pm an cdv ct) ⟨[u1],[(kn,u2)]⟩=(seqItems? (.ref T) >>= k)/\k (some its)=pure (ps.zip [u1,u2])):BnK K fd ps kn:=by
 obtain ⟨oc,od,kV,doc,pm,an,cdv,ct,osl,rfl,lk,hcd⟩:=F.ex;intro s u1 u2 X;obtain ⟨k,h1,h2⟩:=h kV doc pm an cdv ct u1 u2;exact BindsTo.of_defaults rfl (X _ _ hT) rfl h1 h2
variable [r0:R0]
section
variable {X:Cx}{sub:Nat->Nat->Bool}{Γ:Z.dB}{E:Z.PX}
theorem aag (i:Nat)(hr:cM kk X.A)(F:∀r:R0,aP X.prog X.w X.K X.mg X.base (lM X.prog X.w) kk fa fd ps (@vd r X.K Γ f))(hm:X.mg fx=some (.ref fa))(hk:keepIn X.K (.ref fa)=true)(hb:BnK X.K fd ps kn)(hN:X.N.Nodup)(ha:LA X.qx sub Γ E [a] (.cons a' .nil))(hv:LE X.qx sub Γ E b b')(hi:X.N[i]?=some y:=by rfl)(hx:Loc X.env.scope y:=by first | exact Or.inl rfl | exact Or.inr rfl)(hf:X.fn y=true\/X.env.scope.names.lookup y=some .local:=by first | exact .inl rfl | exact .inr rfl)(hsw:swapsWith (.Call (.Name fx fp) [a] [⟨some kn,b,kp⟩] cpos) (some (.Name y yp)) apos.line X.env=pure false:=by rfl)(hg:Gl X fx:=by rfl)(hdb:cN fx:=by decide)(he:starEach [a] X.env=(false,eval a X.env)::starEach [] X.env:=by rfl)(hpl:((backTo cpos (starEach [a] X.env)).any (·.1) || (backToKw cpos (keywordEach [⟨some kn,b,kp⟩] X.env)).any (·.1.isNone))=false:=by rfl):
  LC X sub Γ E i [.Assign [.Name y yp] (.Call (.Name fx fp) [a] [⟨some kn,b,kp⟩] cpos) apos] (.call f (.cons a' (.cons b' .nil)) []):=by
 intro pins s σ H ρ h τ Qm Em Q XE I R L w hq hE;simp only[Z.gW,Z.bB]at w;refine wpAny_execs_cons (wpAny_Assign_Name (wpAny_Call_Name_kw (kY I hg hm ?_ hdb)) hsw);refine PySem.W.callWith_KW (first:=[]) (h₀:=X.base) I.ok.mod.Jq hk rfl (wpAny_mono (ha cpos pins s σ H (λvs H1=>∃aM h1 d1 v1,vs=[v1]/\Rep X.K aM h1 H1/\Ext X.K ρ H aM H1/\ak X.K aM H1 d1 v1/\Z.aL sub Γ E b' τ h1 λd2 h2=>Γ f [d1,d2] h2 Qm Em) (I.wish _)
  ⟨ρ,h,τ,λds h1=>match ds with | [d1]=>Z.aL sub Γ E b' τ h1 (λd2 h2=>Γ f [d1,d2] h2 Qm Em) | _=>False,R,L,(by simp only[Z.bB];exact w),λjL h1 aM H1 vs e1 R1 r1 w1=>?_⟩) (λus s1 ⟨vs,H1,I1,rv,aM,h1,d1,v1,ev,R1,e1,rd,w1⟩=>?_) λ_ _ z=>False.elim z) hpl he
 ·match jL,w1,r1 with
  | [d1],w1,r2=>
   simp only[aq]at r2;obtain ⟨v1,_,rfl,r3,rfl⟩:=r2;exact ⟨aM,h1,d1,v1,rfl,R1,e1,r3,w1⟩
 ·subst ev
  replace I1:Inv X pins σ H1 s1:=I1.gB
  obtain ⟨u1,rfl,ru1⟩:∃u,us=[u]/\RelV v1 u:=by
   cases rv with
   | cons a b=>cases b;exact ⟨_,rfl,a⟩
  refine wpAny_evalAll_cons (wpAny_bind (wpAny_mono (hv pins s1 σ H1 (λv2 H2=>∃bL h2 d2,Rep X.K bL h2 H2/\Ext X.K aM H1 bL H2/\ak X.K bL H2 d2 v2/\Γ f [d1,d2] h2 Qm Em) (I1.wish _) ⟨aM,h1,τ,_,R1,L.mono e1,w1,λd2 h2 bL H2 v2 e2 R2 r2 w2=>⟨bL,h2,d2,R2,e2,r2,w2⟩⟩) (λu2 s2 ⟨v2,H2,I2,rv2,bL,h2,d2,R2,e2,QH,wΓ⟩=>wpAny_bind (wpAny_standAt (wpAny_pure (wpAny_evalAll_nil ⟨I2.dJ,?_⟩)))) λ_ _ z=>False.elim z))
  replace I2:Inv X pins σ H2 s2:=I2.gB
  refine Vo F hr (us:=[u1]) (kw:=[(kn,u2)]) (bs:=[u1,u2]) (vs:=[v1,v2]) (jL:=[d1,d2]) (λ_=>hb s2 u1 u2 I2.dJ) I2 (.cons ru1 (.cons rv2 .nil)) R2 (by simp only[aq];exact ⟨v1,_,rfl,ak.mono e2 _ _ rd,v2,_,rfl,QH,rfl⟩) wΓ (λu s3 v H3 jj h3 d3 I3 r3 e3 R3 rd3 q=>?_) λs3 H3 ea C xr cn jj h3 I3 x3 th e3 R3 hn q=>hE s2 H2 s3 H3 ea C xr cn jj h3 I2 I3 x3 th (e1.trans (e2.trans e3)) R3 hn q;exact j8 I3 hN hi hx r3 (λs4 I4=>wpAny_execs_nil (hq s4 v H3 jj h3 d3 I4 (e1.trans (e2.trans e3)) R3 rd3 q)) hf
def vg (K:PySem.W.Frag)(cs:List Z.S)(Cb:Addr):Prop:=∀c∈cs,∀C,nsIn K mainGlobals ⟨c.toArray⟩=some (some (.ref C))->exmOne K (.ref C) (.ref Cb)=some true
theorem Xy {K:PySem.W.Frag}{Cb:Addr}:vg K [] Cb:=λc h=>by cases h
theorem xC {K:PySem.W.Frag}{Cb C:Addr}{c:Z.S}{x:Str}{cs:List Z.S}(hC:nsIn K mainGlobals x=some (some (.ref C)))(l:exmOne K (.ref C) (.ref Cb)=some true)(r:vg K cs Cb)(hx:x=⟨c.toArray⟩:=by rfl):vg K (c::cs) Cb:=by
 subst hx;intro c' h C' hn;rcases mem_cons.mp h with rfl | h
 ·rw[hC]at hn;cases hn;exact l
 ·exact r c' h C' hn
theorem Xz {j:Nat}{C Cb:Addr}{n cx:Str}{cn:Z.S}{xi:Int}{b₀:Stmt}{suite:List Stmt}{hs:Z.ao}{cxp hpos:Pos}{rest:List ExceptHandler}{pins:List (Addr×Obj)}{σ:L2.St}{H H1 H2:Hp}{s1 s2:Shared}{ea:Addr}{ρ bL:List Addr}{h2:Z.AH}{τ:Z.Lo}{N:Z.En}{D:Ends}(hN:X.N.Nodup)(hst:X.stack=X.env::X.outer)(hfr:X.env.frame=some X.env.locals)(hex:X.ex=[])(hcx:X.mg cx=some (.ref Cb))(hcn:nsIn X.K mainGlobals ⟨cn.toArray⟩=some (some (.ref C)))(hmt:exmOne X.K (.ref C) (.ref Cb)=some true)(hh:∀(e:Value) (xe:Value->Shared->Prop),qy (hand X e xe) sub Γ E (b₀::suite) hs)(hj:X.N[j]?=some n)(hl:X.env.scope.names.lookup n=some .local)(hgc:Gl X cx)(hdc:cN cx)(I1:Inv X pins σ H1 s1)(I2:Inv X pins σ H2 s2)(x2:ExcAt s1.heap s2.heap H2 (some xi) C ea)(th:∀b o,s1.heap.get? b=some o->∃o',s2.heap.get? b=some o')(e2:Ext X.K ρ H bL H2)(R2:Rep X.K bL h2 H2)(L:cG X.K ρ H τ σ)(k:Qd X.K ρ H N D)(wh:Z.bw sub Γ E hs {nx:=λσ' h'=>N.nx (σ'.set j none) h',rt:=N.rt,bk:=λσ' h'=>N.bk (σ'.set j none) h',ct:=λσ' h'=>N.ct (σ'.set j none) h'} (τ.set j (some (.ref h2.length))) (h2++[.dZ cn xi])):
  wpAny (model X.prog X.w) X.A (noteFrame (.ref ea) X.env) (λ_ s₂=>wpAny (model X.prog X.w) X.A (setFlight (.ref ea) none) (λ_ s₃=>wpAny (model X.prog X.w) X.A (handleBy (.ref ea) X.env (.ExceptHandler (some (.Name cx cxp)) (some n) (b₀::suite) hpos::rest)) (SP X pins D) X.xe s₃) X.xe s₂) X.xe s2:=by
 have hg0:∀b,s1.heap.get? b=none->X.s₀.heap.get? b=none:=Ir I1 hex;have Qy:∀p∈X.pn++pins,∃o,s1.heap.get? p.1=some o:=λp hp=>⟨_,(I1.pin p hp).1⟩
 refine Xi I2 hst hfr x2 th hg0 Qy λh3 I3 hg3 x3=>?_;refine wpAny_handleBy_cons (codeAny_handlers_test (kY (X:=hand X (.ref ea) λ_ _=>False) (Td I3) hgc hcx ?_ hdc)) (by intro q;cases q);obtain ⟨oe,vs',he3,hc3,_⟩:=x3.at_;refine (PySem.W.exm_one (M:=model X.prog X.w) I3.dJ (hc3 ▸ (PySem.W.Looks.ld he3).andThen .now) hmt).here ?_;refine codeAny_handlers_suite_as (acM I3 x3 hg3 hg0 Qy λh4 I4 hg4 x4=>?_);obtain ⟨oe,vs4,he4,hc4,⟨dx,od,QJ,hx4⟩,afX,_⟩:=x4.at_;have np:∀p∈X.pn++pins,p.1≠ea:=λp hp z=>by
  obtain ⟨o,eo⟩:=Qy p hp;rw[z,x4.new]at eo;cases eo
 have I5:=ZW I4 (hg0 ea x4.new) x4.free he4 ⟨vs4,afX⟩ np;refine j8 I5 hN hj (.inl hl) (v:=.ref ea) rfl (λs6 I6=>?_) (.inr hl);have eA:Ext X.K bL H2 (bL++[ea]) (upd H2 ea (.cC oe (.own 0))):=Ext.alloc x4.free;have R3:Rep X.K (bL++[ea]) (h2++[.dZ cn xi]) (upd H2 ea (.cC oe (.own 0))):=R2.alloc (ob:=.dZ cn xi) x4.free ⟨C,oe,dx,od,hcn,bJ,eA.cC _ _ _ hx4,hc4,QJ,by unfold notCls;rw[afX]⟩;have rx:ak X.K (bL++[ea]) (upd H2 ea (.cC oe (.own 0))) (.ref h2.length) (.ref ea):=by
  simp only[ak];exact ⟨ea,rfl,by rw[<-R2.len,getElem?_append_right (le_refl _)];simp⟩
 refine bf (hh (.ref ea) _ pins s6 (σ.set j (some (.ref ea))) (upd H2 ea (.cC oe (.own 0))) (aa_ D j) (Td I6) ⟨bL++[ea],h2++[.dZ cn xi],τ.set j (some (.ref h2.length)),_,R3,(L.mono (e2.trans eA)).set rx,wh,?_⟩) λfl s7 q=>afI I1.ok hN hj hl q;have eB:=e2.trans eA;exact ⟨λjK h' ρ' H' σ' e' R' L' q=>k.nx _ h' ρ' H' _ (eB.trans e') R' (L'.unset j) q,λd h' ρ' H' v e' R' r' q=>k.rt d h' ρ' H' v (eB.trans e') R' r' q,λjK h' ρ' H' σ' e' R' L' q=>k.bk _ h' ρ' H' _ (eB.trans e') R' (L'.unset j) q,λjK h' ρ' H' σ' e' R' L' q=>k.ct _ h' ρ' H' _ (eB.trans e') R' (L'.unset j) q⟩
theorem ai1 (i j:Nat){Cb:Addr}{n cx:Str}{cs:List Z.S}{body:List Stmt}{cc:Z.CC}{b₀:Stmt}{suite:List Stmt}{hs:Z.ao}{cxp hpos pos:Pos}{rest:List ExceptHandler}(hc:LC X sub Γ E i body cc)(hN:X.N.Nodup)(hst:X.stack=X.env::X.outer)(hfr:X.env.frame=some X.env.locals)(hex:X.ex=[])(hcx:X.mg cx=some (.ref Cb))(hcs:vg X.K cs Cb)(hh:∀(e:Value) (xe:Value->Shared->Prop),qy (hand X e xe) sub Γ E (b₀::suite) hs)(hj:X.N[j]?=some n:=by rfl)(hl:X.env.scope.names.lookup n=some .local:=by rfl)(hgc:Gl X cx:=by rfl)(hdc:cN cx:=by decide):
  LS X sub Γ E (.Try body (.ExceptHandler (some (.Name cx cxp)) (some n) (b₀::suite) hpos::rest) [] [] pos) (.Pj i cc cs j hs):=by
 intro pins s σ H D I ⟨ρ,h,τ,N,R,L,w,k⟩;simp only[Z.wpS]at w;refine wpAny_Try_except (hc pins s σ H ρ h τ _ _ _ _ I R L w (λs2 v H2 bL h2 d2 I2 e2 R2 r2 q=>?_) λs1 H1 s2 H2 ea C xr cn bL h2 I1 I2 x2 th e2 R2 hn q=>?_)
 ·exact wpAny_execs_nil ⟨_,H2,I2,k.nx _ h2 bL H2 _ e2 R2 ((L.mono e2).set r2) q⟩
 ·obtain ⟨c,r,e1,hm,q⟩:=q;cases xr with
  | none=>cases e1
  | some i'=>
   cases e1;exact Xz hN hst hfr hex hcx hn (hcs _ hm C hn) hh hj hl hgc hdc I1 I2 x2 th e2 R2 L k q
end
end ZS
namespace ZS
open PySem PySem.Spec PyProof.Rows L2
def Itc (x:Str):It:=⟨λi _=>i < x.cps.size,λi H v H'=>H'=H/\∃c,x.cps[i]?=some c/\v=.str ⟨#[c]⟩,λi _=>x.cps.size<=i⟩
theorem aah {P:Program}{w:World}{K:PySem.W.Frag}{tg:Expr}(x:Str)(t:Tok)(it:Addr):Turn P w K tg (Itc x) [it] it (λi h=>h.IsStrIter it (strIterType x) x t i) where
 mem:=by simp
 obj:=λi h st b hb=>by
  have e:b=it:=by simpa using hb
  subst e;obtain ⟨o,e,c,d⟩:=st;exact ⟨o,e,λv z=>by rw[d]at z;cases z⟩
 keep:=λi h h' st k=>let ⟨o,e,r⟩:=st;⟨o,k it (by simp) o e,r⟩
 item:=by
  intro X hP hw hK hc i pins s σ H E I hf st hg;subst hP hw hK;obtain ⟨f0,f1,f2,f3,f4,f5⟩:=hf it (by simp);have fin:∀u h' tk,SignAt x i u->h'.IsStrIter it (strIterType x) x t (i+1)->(∀b o,b∉[it]->s.heap.get? b=some o->h'.get? b=some o)->∃u',some u=some u'/\wpAny (model X.prog X.w) X.A (letOwnedTupleGo tg (.ref it) u') (λ_ s2=>∃x' H',Inv X pins σ H' s2/\RelV x' u'/\(Itc x).Ww i H x' H'/\s2.heap.IsStrIter it (strIterType x) x t (i+1)/\∀b∈[it],H' b=none) E {s with heap:=h',toks:=tk}:=by
   intro u h' tk hv st' kk;obtain ⟨c,tu,e1,rfl⟩:=hv;have I1:Inv X pins σ H {s with heap:=h',toks:=tk}:=I.turned (λb o hb e=>kk b o (by simpa using hb) e) f0 f1 f3 f4 f5;obtain ⟨o,e,cl,d⟩:=id st';refine ⟨_,rfl,FP (s:={s with heap:=h',toks:=tk}) e cl d ?_ ⟨.str ⟨#[c]⟩,H,I1,⟨_,rfl⟩,⟨rfl,c,e1,rfl⟩,st',λb hb=>(hf b hb).1⟩⟩;unfold strIterType;split<;>decide
  cases ha:x.cps.all (·< 128)
  ·have eT:strIterType x="str_iterator":=by unfold strIterType;rw[ha];rfl
   rw[eT]at st fin;exact (Walks.strWide (prog:=X.prog) (w:=X.w) (I.ok.hd hc) it x t).item i s _ _ hg st λv h' tk hv st' kk=>by
    rw[eT];exact fin v h' tk hv st' kk
  ·have eT:strIterType x="str_ascii_iterator":=by unfold strIterType;rw[ha];rfl
   rw[eT]at st fin;exact (Walks.strAscii (prog:=X.prog) (w:=X.w) (I.ok.hd hc) it x t).item i s _ _ hg st λv h' tk hv st' kk=>by
    rw[eT];exact fin v h' tk hv st' kk
 done:=by
  intro X hP hw hK hc i pins s σ H E I hf st hg;subst hP hw hK;obtain ⟨f0,f1,f2,f3,f4,f5⟩:=hf it (by simp);have hx:x.cps[i]?=none:=Array.getElem?_eq_none_iff.mpr hg;cases ha:x.cps.all (·< 128)
  ·have eT:strIterType x="str_iterator":=by unfold strIterType;rw[ha];rfl
   rw[eT]at st;exact wpAny_pyNext_wide_end (I.ok.hd hc) st hx λh' eb=>⟨rfl,I.turned (t':=s.toks) (λb o hb e=>eb b o hb e) f0 f1 f3 f4 f5⟩
  ·have eT:strIterType x="str_ascii_iterator":=by unfold strIterType;rw[ha];rfl
   rw[eT]at st;exact wpAny_pyNext_ascii_end (I.ok.hd hc) st hx λh' eb=>⟨rfl,I.turned (t':=s.toks) (λb o hb e=>eb b o hb e) f0 f1 f3 f4 f5⟩
 self:=λ_ _ s _ _ st h=>by
  cases ha:x.cps.all (·< 128)
  ·have eT:strIterType x="str_iterator":=by unfold strIterType;rw[ha];rfl
   rw[eT]at st;exact wpAny_pyIter_striter_wide st h
  ·have eT:strIterType x="str_ascii_iterator":=by unfold strIterType;rw[ha];rfl
   rw[eT]at st;exact wpAny_pyIter_striter_ascii st h
section
variable {X:Cx}{tg:Expr}
theorem afZ {l:Expr}{tl:TE}(hl:PE X l tl):PI X tg l (λσ H R=>tl σ H λx H1=>∃y,x=.str y/\R (Itc y) H1):=by
 intro pins s σ H R I h;refine bf (hl pins s σ H _ I h) λv s1 ⟨x,H1,I1,r1,y,e,q⟩=>?_;subst e;obtain ⟨t,rfl⟩:=r1;refine wpAny_pyIter_strU ?_;refine ⟨s1.heap.objs.size,[s1.heap.objs.size],_,_,H1,rfl,I1.kept (t':=s1.toks) λb o e=>get?_push_of_some _ e,aah y t _,⟨_,get?_push_size _ rfl,rfl,rfl⟩,λb hb=>?_,q⟩;have e:b=s1.heap.objs.size:=by simpa using hb
 subst e;exact I1.Ia (le_refl _) (I1.hok.fresh (le_refl _))
end
variable [r0:R0]
section
variable {X:Cx}{sub:Nat->Nat->Bool}{Γ:Z.dB}{E:Z.PX}
theorem XC (hl:LE X sub Γ E l e'):LI X sub Γ E tg l .chr (.cons e' .nil):=by
 refine PIw (afZ hl) ?_;rintro σ H Rr ⟨ρ,h,τ,Q',R,L,w,k⟩;simp only[Z.bB]at w;refine ⟨ρ,h,τ,_,R,L,w,λd h1 aM H1 x e1 R1 r1 w1=>?_⟩;obtain ⟨J,eJ,hk⟩:=k [d] h1 aM H1 [x] e1 R1 (.one r1) w1;cases d with
 | str s=>
  simp only[ak]at r1;obtain ⟨rfl,hl⟩:=r1;cases eJ;refine ⟨_,rfl,hk _ ?_⟩;intro i bL h2 H2 e2 R2;unfold Z.qp;rw[getElem?_map];cases e:s[i]? with
  | none=>
   show (⟨s.toArray⟩:Str).cps.size<=i;have:=List.getElem?_eq_none_iff.mp e;simpa using this
  | some c=>
   have hi:=(List.getElem?_eq_some_iff.mp e).1;refine ⟨(by show i < (⟨s.toArray⟩:Str).cps.size;simpa using hi),λv H' hy=>?_⟩;obtain ⟨eH,c',e3,rfl⟩:=hy;have:c'=c:=by
    have e4:s[i]?=some c':=by simpa using e3
    rw[e]at e4;cases e4;rfl
   subst this;refine mJ R2 eH ?_;simp only[ak];exact ⟨trivial,by simp[Z.lim]⟩
 | _=>cases eJ
theorem Vp:bO X (binaryOp .Mult) (λx y H Q=>∃i n,x=.str i/\y=.int n/\MulOk i n/\Q (.str (Txt.mul i n)) H):=by
 intro pins s σ H x y v u Q I rx ry h;obtain ⟨i,n,rfl,rfl,hz,q⟩:=h;obtain ⟨t,rfl⟩:=rx;obtain ⟨t',rfl⟩:=ry;exact SB.mul hz λt' tk=>⟨.str _,H,I.tok _,⟨_,rfl⟩,q⟩
theorem foldl_rep:∀{n:Nat} {acc:Array Nat},(replicate n s.toArray).foldl (·++·) acc=acc++((replicate n s).flatten).toArray
 | 0,acc=>by simp
 | n+1,acc=>by
  rw[replicate_succ,List.foldl_cons,foldl_rep,replicate_succ,flatten_cons];simp
theorem ac0:Txt.mul ⟨s.toArray⟩ k=⟨((replicate k.toNat s).flatten).toArray⟩:=by
 unfold Txt.mul;by_cases h1:k < 1
 ·rw[if_pos h1,show k.toNat=0 by lia];rfl
 ·rw[if_neg h1];by_cases h2:((k == 1 || (⟨s.toArray⟩:Str).length == 0)=true)
  ·rw[if_pos h2];simp only[or_eq_true,beq_iff_eq]at h2;rcases h2 with rfl | h2
   ·simp
   ·have:s=[]:=by
     have:s.length=0:=h2;exact length_eq_zero_iff.mp this
    subst this;simp
  ·rw[if_neg h2,foldl_rep];simp
theorem vh:bO X (binaryOp .Mult) (λx y=>rP X.K sub .wK [x,y]):=uD Vp (by
 rintro x y H Q ⟨ρ,h,ds,d,h',R,r,q,k⟩;obtain ⟨d1,d2,rfl,r1,r2⟩:=iU r;change Z.UL _ _=_ at q;unfold Z.UL at q;split at q
 ·rename_i s n e;cases e;split at q
  ·rename_i hh;cases q;simp only[and_eq_true,decide_eq_true_eq]at hh;obtain ⟨h1,h2⟩:=hh;have h3:=Z.mF.mp h1;simp only[ak]at r1 r2;obtain ⟨rfl,l1⟩:=r1;subst r2;have hlen:(⟨s.toArray⟩:Str).length=s.length:=by rw[gH]
   have hlim:Z.lim=16777216:=rfl;refine ⟨_,_,rfl,rfl,⟨?_,λh4 _=>?_,λh4 _=>?_⟩,?_⟩
   ·simp only[Bool.or_eq_false_iff,decide_eq_false_iff_not];constructor<;>lia
   ·intro z;rw[hlen]at z;have hk:(0:Int) < n:=by lia
    have:(s.length:Int)<=(2 ^ 63 - 1) / n:=by
     refine Int.le_ediv_of_mul_le hk ?_;have h5:(s.length * n.toNat:Nat)<=16777216:=by rw[<-hlim];exact h2
     have h6:((s.length * n.toNat:Nat):Int)=(s.length:Int) * n:=by
      rw[Int.natCast_mul,Int.toNat_of_nonneg (by lia)]
     rw[<-h6];lia
    lia
   ·rw[hlen];have:s.length * n.toNat<=sizeLine:=by rw[<-g8];exact h2
    unfold Builtin.Str.tooLong;simp only[decide_eq_false_iff_not]
    lia
   ·rw[ac0];refine k ρ H _ .refl R ?_;simp only[ak];refine ⟨trivial,?_⟩;rw[List.length_flatten,List.map_replicate,List.sum_replicate_nat,mul_comm];exact h2
  ·cases q
 ·cases q)
theorem IV (hm:X.mg x=some (.ref C))(hk:keepIn X.K (.ref C)=true)(he:LE X sub Γ (Z.EF E) e e')(hg:Gl X x:=by rfl)(hdb:cN x:=by decide)(hs:starEach [e] X.env=(false,eval e X.env)::starEach [] X.env:=by rfl)(hpl:(backTo cpos (starEach [] X.env)).any (·.1)=false:=by rfl):
  LS X sub Γ (Z.EF E) (.Raise (some (.Call (.Name x np) [e] [] cpos)) none pos) (.sE cn e'):=by
 intro pins s σ H D I ⟨ρ,h,τ,N,R,L,w,k'⟩;simp only[Z.wpS]at w;rw[arm_exec_Raise];have ha:PA X [e] _:=kZ he uW hs;have main:∀Q:Value->Shared->Prop,wpAny (model X.prog X.w) X.A (eval (.Call (.Name x np) [e] [] cpos) X.env) Q X.xe s:=by
  intro Q;refine wpAny_Call_Name_kw (kY I hg hm ?_ hdb);refine callWith_K (h₀:=X.base) I.ok.mod.Jq hk (bf (ha cpos pins s σ H (λvs H1=>False) I ?_) λus s1 ⟨vs,H1,I1,r,q⟩=>q.elim) hs hpl;refine ⟨ρ,h,τ,_,R,L,w,λd1 h1 aM H1 v e1 R1 r1 w1=>?_⟩;cases d1 with
  | int i=>exact w1.elim
  | _=>exact w1.elim
 refine wpAny_bind (wpAny_standAt ?_);simp only[evalOpt,Option.map];unfold raiseStmt;exact wpAny_bind (wpAny_bind (main _))
end
end ZS
namespace ZS
open PySem PySem.Spec PyProof.Rows L2
theorem af0 {l:PySem.W.OpenLaw}{kk kd i:Nat}{sub:Nat->Nat->Bool}{Pg:List Z.Def}{q:Program}{loose:List Str}{XP:(Str->Option Value)->Heap->Prop}{YP:World->Heap->Prop}{d:DefRec}{K:Params->PySem.W.Frag}(hn:l.most=some 63)(hdf:d.params.defaults=[])(hr:cM kk callerA)(hY:∀(w:World) (h:Heap),YP w h->(K w.params).In h)(hw:∀ns:List Int,ns.length<=63->Z.au sub Pg kd i [.fu (ns.map .int)] [] (λd _=>d=.bl true) λ_ _=>False)(F:∀(w:World) (mg:Str->Option Value) (fa:Addr) (h:Heap),(K w.params).In h->h.Ns mainGlobals mg->mg d.name=some (.ref fa)->
   ∃fd:FuncData,(∀(s:Shared) (u:Value),BindsTo s fd ⟨[u],[]⟩ [("script",u)])/\∀base:Heap,(K w.params).In base->base.Ns mainGlobals mg->aP l.prog w (K w.params) mg base bx kk fa fd ["script"] (@aW R0.nil (K w.params) (Z.au sub Pg kd) i)):
  PySem.W.WalkO q loose XP YP l.row.toRowW d [] (λf vs=>PySem.call f vs):=
 L2.aci (n:=63) (k:=kk) (x:="script") (CX:=λ_=>bx) (sp:=λw=>@aW R0.nil (K w.params) (Z.au sub Pg kd) i) hn (by decide) hdf hr hY F (λ_ _ a ns hl hO hS hZ=>ZP hO hS hZ (hw ns hl)) λ_ _ _ _ _ z=>z
variable [R0]
theorem bR {P:Program}{w:World}{K:PySem.W.Frag}{mg:Str->Option Value}{base:Heap}{sub:Nat->Nat->Bool}{Pg:List Z.Def}{x:Str}{st:Stmt}{f:Addr}{fd:FuncData}{N ps:List Str}{r k i:Nat}{df:Z.Def}(F:BJ K x x st f fd)(S:aY N ps (aC st))(hi:Pg[i]?=some df)(hN:N.length=df.nl)(hp:ps.length=df.np)(J:∀(cdv:Value) (A:Around) (outer:List Env) (s:Shared) (H:Hp) (E:XK) (E':Z.PX),cM r (A.deeper (envOfC x (aC st) s.heap.objs.size f cdv))->qy (jz bx P w K mg base N x (aC st) f cdv A outer s H E).qx sub (Z.au sub Pg k) (Z.EF E') (cH st) df.body):
  aP P w K mg base bx (r+1) f fd ps (aW K (Z.au sub Pg (k+1)) i):=by
 refine F.ok S (λvs H Q E h=>?_) (λcdv A outer s H vs Q E hr h=>?_)
 ·obtain ⟨ρ,h,ds,Q',E',R,rr,w,kk⟩:=h;simp only[Z.au,hi]at w;rw[<-rr.length,hp];exact w.1
 ·obtain ⟨ρ,h,ds,Q',E',R,rr,w,kk⟩:=h;simp only[Z.au,hi]at w;exact Le (sub:=sub) (Γ:=Z.au sub Pg k) (E:=Z.EF E') (df:=df) rfl hN w.1 (J cdv A outer s H E E' hr) R rr w.2 kk
theorem bK {P:Program}{w:World}{K:PySem.W.Frag}{mg:Str->Option Value}{base:Heap}{sub:Nat->Nat->Bool}{Pg:List Z.Def}{f:Addr}{fd:FuncData}{ps:List Str}{r i:Nat}:aP P w K mg base bx r f fd ps (aW K (Z.au sub Pg 0) i):=by
 have no:∀vs H Q E,¬aW K (Z.au sub Pg 0) i vs H Q E:=λvs H Q E h=>by
  obtain ⟨ρ,h,ds,Q',E',R,rr,w,kk⟩:=h;simp only[Z.au]at w
 exact ⟨λvs H Q E h=>absurd h (no vs H Q E),λA outer s H args us vs Q E _ _ _ _ h=>absurd h (no vs H Q E)⟩
theorem aai {P:Program}{w:World}{K:PySem.W.Frag}{mg:Str->Option Value}{base:Heap}{sub:Nat->Nat->Bool}{Pg:List Z.Def}{x:Str}{st:Stmt}{f T:Addr}{fd:FuncData}{N ps:List Str}{r k i:Nat}{df:Z.Def}(F:Iz K x x st f T fd)(S:aY N ps (aC st))(hi:Pg[i]?=some df)(hN:N.length=df.nl)(hp:ps.length=df.np)(J:∀(cdv:Value) (A:Around) (outer:List Env) (s:Shared) (H:Hp) (E:XK) (E':Z.PX),cM r (A.deeper (envOfC x (aC st) s.heap.objs.size f cdv))->qy (jz bx P w K mg base N x (aC st) f cdv A outer s H E).qx sub (Z.au sub Pg k) (Z.EF E') (cH st) df.body):
  aP P w K mg base bx (r+1) f fd ps (aW K (Z.au sub Pg (k+1)) i):=by
 obtain ⟨oc,od,kV,doc,pm,an,cdv,ct,osl,rfl,lk,hcd⟩:=F.ex;refine Va lk hcd S (λvs H Q E h=>?_) (λA outer s H vs Q E hr h=>?_)
 ·obtain ⟨ρ,h,ds,Q',E',R,rr,w,kk⟩:=h;simp only[Z.au,hi]at w;rw[<-rr.length,hp];exact w.1
 ·obtain ⟨ρ,h,ds,Q',E',R,rr,w,kk⟩:=h;simp only[Z.au,hi]at w;obtain ⟨t,q1,q2⟩:=Le (sub:=sub) (Γ:=Z.au sub Pg k) (E:=Z.EF E') (df:=df) rfl hN w.1 (J cdv A outer s H E E' hr) R rr w.2 kk;exact ⟨t,q1.qx,q2⟩
theorem QK {P:Program}{w:World}{K:PySem.W.Frag}{mg:Str->Option Value}{base:Heap}{sub:Nat->Nat->Bool}{Pg:List Z.Def}{x:Str}{st:Stmt}{f:Addr}{fd:FuncData}{N ps:List Str}{r k i:Nat}{df:Z.Def}(F:FnD K x st f fd)(S:aY N ps (aC st))(hi:Pg[i]?=some df)(hN:N.length=df.nl)(hp:ps.length=df.np)(J:∀(cdv:Value) (A:Around) (outer:List Env) (s:Shared) (H:Hp) (E:XK) (E':Z.PX),cM r (A.deeper (envOfC x (aC st) s.heap.objs.size f cdv))->qy (jz bx P w K mg base N x (aC st) f cdv A outer s H E).qx sub (Z.au sub Pg k) (Z.EF E') (cH st) df.body):
  aP P w K mg base bx (r+1) f fd ps (aW K (Z.au sub Pg (k+1)) i):=by
 obtain ⟨T,F⟩:=F;exact aai F S hi hN hp J
theorem QL {P:Program}{w:World}{K:PySem.W.Frag}{mg:Str->Option Value}{base:Heap}{sub:Nat->Nat->Bool}{Pg:List Z.Def}{f:Addr}{fd:FuncData}{ps:List Str}{r i:Nat}:aP P w K mg base (lM P w) r f fd ps (vd K (Z.au sub Pg 0) i):=by
 have no:∀vs H Q E,¬vd K (Z.au sub Pg 0) i vs H Q E:=λvs H Q E h=>by
  obtain ⟨ρ,h,ds,Q',E',R,rr,w,kk,kx⟩:=h;simp only[Z.au]at w
 exact ⟨λvs H Q E h=>absurd h (no vs H Q E),λA outer s H args us vs Q E _ _ _ _ h=>absurd h (no vs H Q E)⟩
theorem Nj {P:Program}{w:World}{K:PySem.W.Frag}{mg:Str->Option Value}{base:Heap}{sub:Nat->Nat->Bool}{Pg:List Z.Def}{x:Str}{st:Stmt}{f:Addr}{fd:FuncData}{N ps:List Str}{r k i:Nat}{df:Z.Def}(F:FnD K x st f fd)(S:aY N ps (aC st))(hi:Pg[i]?=some df)(hN:N.length=df.nl)(hp:ps.length=df.np)(J:∀(cdv:Value) (A:Around) (outer:List Env) (s:Shared) (H:Hp) (E:XK) (E':Z.PX),cM r (A.deeper (envOfC x (aC st) s.heap.objs.size f cdv))->XOk (jz (lM P w) P w K mg base N x (aC st) f cdv A outer s H E) E'->qy (jz (lM P w) P w K mg base N x (aC st) f cdv A outer s H E) sub (Z.au sub Pg k) E' (cH st) df.body):
  aP P w K mg base (lM P w) (r+1) f fd ps (vd K (Z.au sub Pg (k+1)) i):=by
 obtain ⟨T,F⟩:=F;obtain ⟨oc,od,kV,doc,pm,an,cdv,ct,osl,rfl,lk,hcd⟩:=F.ex;refine Va lk hcd S (λvs H Q E h=>?_) λA outer s H vs Q E hr h=>?_
 ·obtain ⟨ρ,h,ds,Q',E',R,rr,w,kk,kx⟩:=h;simp only[Z.au,hi]at w;rw[<-rr.length,hp];exact w.1
 ·obtain ⟨ρ,h,ds,Q',E',R,rr,w,kk,kx⟩:=h;simp only[Z.au,hi]at w;refine Le (sub:=sub) (Γ:=Z.au sub Pg k) (E:=E') (df:=df) rfl hN w.1 (J cdv A outer s H E E' hr ?_) R rr w.2 kk;intro pins σ H1 s1 ea C xr aM h1 cn I x R1 hc he;exact aiW I x (kx cn C xr h1 aM H1 R1 hc he)
theorem af2 {X:Cx}{k:Nat}{fI C:Addr}{fd:FuncData}{x qual:Str}{st:Stmt}{p1 p2 p3 p4:Pos}(F:BJ X.K x qual st fI fd)(S:aY ["self","row"] ["self","row"] (aC st))(hb:cH st=[.Assign [.Attribute (.Name "self" p1) "row" p2] (.Name "row" p3) p4])(v1:Jr (aC st) "self")(v2:Jr (aC st) "row")(hs:∀env:Env,env.scope=aC st->swapsWith (.Name "row" p3) (some (.Attribute (.Name "self" p1) "row" p2)) p4.line env=pure false)(ex:Tj X.K fI C)(fn:isFn X.K (.ref fI)=true)(bi:Binds X.K fd ["self","row"] [])(kp:keepIn X.K (.ref C)=true):Vl X (k+1) fI fd C:=
 ⟨ex,fn,acV F S hb v1 v2 hs,bi,kp⟩
section
variable {X:Cx}{sub:Nat->Nat->Bool}{Γ:Z.dB}{E:Z.PX}
theorem af3:bO X (compareOp .NotIn) (λx y=>rP X.K sub .KJ [x,y]):=uD PL (by
 rintro x y H Q ⟨ρ,h,ds,d,h',R,rs,hp,k⟩;obtain ⟨d1,d2,rfl,r1,r2⟩:=iU rs;cases d1 with
 | str a=>
  cases d2 with
  | str b=>
   simp only[Z.Fy,Z.Fw,Option.some.injEq,Prod.mk.injEq]at hp;obtain ⟨rfl,rfl⟩:=hp;simp only[ak]at r1 r2;obtain ⟨rfl,_⟩:=r1;obtain ⟨rfl,_⟩:=r2;exact ⟨_,_,rfl,rfl,k ρ H _ .refl R (by simp only[ak];rw[Tg])⟩
  | _=>simp[Z.Fy,Z.Fw]at hp
 | _=>simp[Z.Fy,Z.Fw]at hp)
theorem aaj:∀ds h d h',Z.prim sub .KJ ds h=some (d,h')->∃c,d=.bl c:=by
 intro ds h d h' q;simp only[Z.Fy]at q;unfold Z.Fw at q;split at q
 ·simp only[Option.some.injEq,Prod.mk.injEq]at q;exact ⟨_,q.1.symm⟩
 ·cases q
def Itb (K:PySem.W.Frag)(a:Addr)(n:Nat):It:=
 ⟨λi H=>∃xs x,jd K H a xs/\xs.length=n/\i < n/\xs[n - 1 - i]?=some x,λi H x H'=>H'=H/\∀xs,jd K H a xs->xs[n - 1 - i]?=some x,λi H=>n<=i⟩
theorem aak {P:Program}{w:World}{K:PySem.W.Frag}{tg:Expr}(a it:Addr)(n:Nat):Turn P w K tg (Itb K a n) [it] it (λi h=>i<=n/\h.IsRevIter it a ((n:Int) - 1 - i)) where
 mem:=by simp
 obj:=λi h st b hb=>by
  have e:b=it:=by simpa using hb
  subst e;obtain ⟨_,o,e,c,d⟩:=st;exact ⟨o,e,λv z=>by rw[d]at z;cases z⟩
 keep:=λi h h' st k=>⟨st.1,st.2.at λo e=>k it (by simp) o e⟩
 item:=by
  intro X hP hw hK hc i pins s σ H E I hf st hg;subst hP hw hK;obtain ⟨xs,x,hq,hlen,hi,hx⟩:=hg;obtain ⟨its,rv,p,hz⟩:=I.list hq;obtain ⟨u,hu,ru⟩:=rv.get hx;obtain ⟨f0,f1,f2,f3,f4,f5⟩:=hf it (by simp);have st2:s.heap.IsRevIter it a ((n - 1 - i:Nat):Int):=by
   have e:((n - 1 - i:Nat):Int)=(n:Int) - 1 - i:=by lia
   rw[e];exact st.2
  refine wpAny_pyNext_rev_item st2 p.isList (x:=u) (by simpa using hu) λh' st' sb=>?_;have I1:Inv X pins σ H {s with heap:=h'}:=I.turned (t':=s.toks) (λb o hb e=>(sb.2 b hb).trans e) f0 f1 f3 f4 f5;have st3:h'.IsRevIter it a ((n:Int) - 1 - ((i+1:Nat):Int)):=by
   have e:(n:Int) - 1 - ((i+1:Nat):Int)=((n - 1 - i:Nat):Int) - 1:=by lia
   rw[e];exact st'
  obtain ⟨o,e,c,d⟩:=id st';exact ⟨u,rfl,FP (s:={s with heap:=h'}) e c d (by decide) ⟨x,H,I1,ru,⟨rfl,λys hy=>by rw[I.HY hy hq];exact hx⟩,⟨hi,st3⟩,λb hb=>(hf b hb).1⟩⟩
 done:=by
  intro X hP hw hK hc i pins s σ H E I hf st hg;subst hP hw hK;obtain ⟨f0,f1,f2,f3,f4,f5⟩:=hf it (by simp);have hg:n<=i:=hg;have st2:s.heap.IsRevIter it a (-1):=by
   have e:(-1:Int)=(n:Int) - 1 - i:=by have:=st.1;lia
   rw[e];exact st.2
  exact wpAny_pyNext_rev_end (I.ok.hd hc) st2 λh' eb=>⟨rfl,I.turned (t':=s.toks) (λb o hb e=>eb b o hb e) f0 f1 f3 f4 f5⟩
 self:=λ_ _ _ _ _ st h=>wpAny_pyIter_revIter st.2 h
theorem aal {K:PySem.W.Frag}{ρ:List Addr}{H:Hp}{n len:Nat}{a:Addr}(hn:ρ[n]?=some a):Il K ρ H (Z.Jp n len) (Itb K a len):=by
 intro i aM h1 H1 e1 R1;have hn1:=e1.pre _ _ hn;unfold Z.Jp;cases e:h1[n]? with
 | none=>trivial
 | some o=>
  cases o with
  | lst xs=>
   obtain ⟨b,eb,ys,e2,rs⟩:=R1.at_ n _ e;rw[hn1]at eb;cases eb;dsimp only;by_cases hl:xs.length=len
   ·rw[if_pos hl];by_cases hi:i < len
    ·rw[if_pos hi];cases q:xs[len - 1 - i]? with
     | none=>have:=List.getElem?_eq_none_iff.mp q;lia
     | some d=>
      obtain ⟨y,q1,q2⟩:=rs.get q;refine ⟨⟨ys,y,.of e2,by rw[<-rs.length,hl],hi,q1⟩,λx H' hy=>?_⟩;obtain ⟨eH,hy⟩:=hy;have:=hy ys (.of e2);rw[q1]at this;cases this;exact mJ R1 eH q2
    ·rw[if_neg hi];exact le_of_not_lt hi
   ·rw[if_neg hl];trivial
  | _=>trivial
theorem ac1 {tg a:Expr}{a':Z.Ex}{p pos:Pos}(hg:Gl X "reversed")(hm:X.mg "reversed"=none)(ha:LA X sub Γ E [a] (.cons a' .nil))(hs:starEach [a] X.env=(false,eval a X.env)::starEach [] X.env:=by rfl)(hpl:(backTo pos (starEach [] X.env)).any (·.1)=false:=by rfl):
  LI X sub Γ E tg (.Call (.Name "reversed" p) [a] [] pos) .rev (.cons a' .nil):=by
 intro pins s σ H Rr I ⟨ρ,h,τ,Q',R,L,w,k⟩;have up:Zu X.K (Z.bB sub Γ E (.cons a' .nil)) σ H (λvs H1=>∃(l:Addr) (ys:List V),vs=[.ref l]/\H1 l=some (.lst ys)/\Rr (Itb X.K l ys.length) H1):=by
  refine ⟨ρ,h,τ,λds h1=>match ds with | [x]=>Q' [x] h1 | _=>False,R,L,(by simpa only[Z.bB] using w),λds h1 aM H1 vs e1 R1 r1 q=>?_⟩;obtain ⟨x,rfl⟩:∃x,ds=[x]:=by
   match ds,q with
   | [x],_=>exact ⟨x,rfl⟩
  obtain ⟨J,eJ,hk⟩:=k _ h1 aM H1 vs e1 R1 r1 q;cases x with
  | ref n=>
   simp only[Z.bM,Z.iw]at eJ;cases eo:h1[n]? with
   | none=>rw[eo]at eJ;cases eJ
   | some o=>
    cases o with
    | lst xs=>
     rw[eo]at eJ;cases eJ;obtain ⟨b,eb,ys,e2,rs⟩:=R1.at_ n _ eo;simp only[aq,ak]at r1;obtain ⟨_,_,rfl,⟨c,rfl,q1⟩,rfl⟩:=r1;rw[q1]at eb;cases eb;exact ⟨b,ys,rfl,e2,rs.length ▸ hk _ (aal q1)⟩
    | _=>rw[eo]at eJ;cases eJ
  | _=>cases eJ
 refine Call_ (qw I hg hm Hi (PyProof.Rows.callWith_type1 (bf (ha pos pins s σ H _ I up) λus s1 ⟨vs,H1,I1,r1,l,ys,ev,hl,q⟩=>?_) hs hpl));subst ev;obtain ⟨u,rfl,ru⟩:=vals1 r1;cases ru;obtain ⟨its,vv,pl,_⟩:=I1.list (.of hl);refine call_reversed_list pl.isList ?_;have e:((its.toArray.size:Nat):Int) - 1=(ys.length:Int) - 1 - ((0:Nat):Int):=by rw[vv.length];simp
 rw[e];have I2:Inv X pins σ H1 {s1 with heap:=s1.heap.push (revObj l ((ys.length:Int) - 1 - ((0:Nat):Int))),toks:=s1.toks}:=I1.kept λb o e=>get?_push_of_some _ e;have hit:(s1.heap.push (revObj l ((ys.length:Int) - 1 - ((0:Nat):Int)))).IsRevIter s1.heap.objs.size l ((ys.length:Int) - 1 - ((0:Nat):Int)):=⟨_,get?_push_size _ rfl,rfl,rfl⟩
 refine wpAny_pyIter_revIter (s:={s1 with heap:=s1.heap.push (revObj l ((ys.length:Int) - 1 - ((0:Nat):Int)))}) hit ?_;refine ⟨s1.heap.objs.size,[s1.heap.objs.size],_,_,H1,rfl,I2,aak l _ ys.length,⟨zero_le _,hit⟩,λb hb=>?_,q⟩;have e:b=s1.heap.objs.size:=by simpa using hb
 subst e;exact I1.Ia (le_refl _) (I1.hok.fresh (le_refl _))
end
theorem Cj:∀{p:Z.S},c∉p->Z.splitOn c p=[p]
 | [],_=>rfl
 | x::p,h=>by
  have h1:x≠c:=λe=>h (by simp[e]);have h2:c∉p:=λe=>h (by simp[e]);show (if x=c then _ else _)=_;rw[if_neg h1,Cj h2]
theorem Hl:∀{p:Z.S},c∉p->Z.splitOn c (p++c::r)=p::Z.splitOn c r
 | [],_=>by show (if c=c then _ else _)=_;rw[if_pos rfl]
 | x::p,h=>by
  have h1:x≠c:=λe=>h (by simp[e]);have h2:c∉p:=λe=>h (by simp[e]);show (if x=c then _ else match Z.splitOn c (p++c::r) with | []=>_ | w::ws=>_)=_;rw[if_neg h1,Hl h2]
theorem Ck:∀{ps:List Z.S},ps≠[]->(∀p∈ps,c∉p)->Z.splitOn c (Z.fH [c] ps)=ps
 | [],h,_=>absurd rfl h
 | [x],_,h=>Cj (h x (by simp))
 | x::y::r,_,h=>by
  have ih:=Ck (c:=c) (ps:=y::r) (by simp) λp hp=>h p (by simp[hp]);show Z.splitOn c (x++[c]++Z.fH [c] (y::r))=_;rw[append_assoc];show Z.splitOn c (x++c::Z.fH [c] (y::r))=_;rw[Hl (h x (by simp)),ih]
theorem Ho {c:Nat}:∀{s p:Z.S},p∈Z.splitOn c s->p.length<=s.length
 | [],p,h=>by
  simp only[Z.splitOn,mem_singleton]at h;subst h;simp
 | x::s,p,h=>by
  have ih:=@Ho c s;unfold Z.splitOn at h;split at h
  ·rcases mem_cons.mp h with rfl | h
   ·simp
   ·have:=ih h;simp only[length_cons];lia
  ·cases e:Z.splitOn c s with
   | nil=>rw[e]at h;simp only[mem_singleton]at h;subst h;simp
   | cons w ws=>
    rw[e]at h ih;rcases mem_cons.mp h with rfl | h
    ·have:=ih (p:=w) (by simp);simp only[length_cons];lia
    ·have:=ih (p:=p) (by simp[h]);simp only[length_cons];lia
theorem aam (s:Z.S)(c:Nat):Txt.split ⟨s.toArray⟩ ⟨#[c]⟩=(Z.splitOn c s).map λp=>(⟨p.toArray⟩:Str):=by
 have h1:=StrLaws.join_split ⟨s.toArray⟩ ⟨#[c]⟩;have h2:=StrLaws.split_free ⟨s.toArray⟩ c;have h0:Txt.split ⟨s.toArray⟩ ⟨#[c]⟩≠[]:=by
  unfold Txt.split;split
  ·simp
  ·split
   ·simp
   ·unfold Builtin.Str.partsBetween;simp only[ne_eq,List.map_eq_nil_iff,List.zip_eq_nil_iff];simp
 generalize Txt.split ⟨s.toArray⟩ ⟨#[c]⟩=L at h0 h1 h2;have e:L=(L.map λp=>p.cps.toList).map λp=>(⟨p.toArray⟩:Str):=by
  rw[List.map_map]
  conv=>lhs;rw[<-List.map_id L]
  apply List.map_congr_left;intro p _;cases p;simp
 generalize hps:(L.map λp=>p.cps.toList)=ps at e;have hf:∀p∈ps,c∉p:=by
  rw[<-hps];intro p hp;obtain ⟨q,hq,rfl⟩:=mem_map.mp hp;exact h2 q hq
 have hn:ps≠[]:=by rw[<-hps];simpa using h0
 rw[e]at h1;have e3:=xq [c] ps;have e2:Z.fH [c] ps=s:=by
  have:=e3.symm.trans h1;have:=congrArg (λz:Str=>z.cps.toList) this;simpa using this
 rw[e,<-e2,Ck hn hf]
theorem XF (hy:(y.length == 0)=false)(hq:∀(l:List (Str×Tok)) k,l.map (·.1)=Txt.split x y->Q (.ref s.heap.objs.size) {s with heap:=s.heap.push {cls:=.type "list",data:=.seq (strValues l).toArray},toks:=k})(hsz:x.length<=sizeLine)(hsz2:(Txt.split x y).length<=sizeLine):
  wpAny (model prog w) A (call (.builtin "str.split") [.str x t,.str y u]) Q E s:=by
 cases h1:(decide (x.length < y.length) || decide (Builtin.Str.strKind x < Builtin.Str.strKind y))
 ·cases hf:(Builtin.Str.occurrences x y 0 x.length (x.length+1)).isEmpty
  ·have e:Txt.split x y=Builtin.Str.partsBetween x (Builtin.Str.occurrences x y 0 x.length (x.length+1)) y.length:=(if_neg (ne_true_of_eq_false h1)).trans (if_neg (ne_true_of_eq_false hf));rw[e]at hsz2;refine call_meets F.slot_str_split (typeIs_str _ _ _) F.entry_str_split (F.args_str_split_2 _ _) (meets_str_split_sep x y t u h1 hy hf hsz hsz2) ?_;show wants Q E _ {s with toks:=_,heap:=s.heap.push {cls:=.type "list",data:=.seq (strsFrom s.toks (Builtin.Str.partsBetween x (Builtin.Str.occurrences x y 0 x.length (x.length+1)) y.length)).toArray}};rw[strsFrom_eq];exact hq (numbered s.toks _) _ ((numbered_texts _ _).trans e.symm)
  ·exact call_meets F.slot_str_split (typeIs_str _ _ _) F.entry_str_split (F.args_str_split_2 _ _) (meets_str_split_not_found x y t u h1 hy hf)
    (hq [(x,t)] s.toks ((if_neg (ne_true_of_eq_false h1)).trans (if_pos hf)).symm)
 ·exact call_meets F.slot_str_split (typeIs_str _ _ _) F.entry_str_split (F.args_str_split_2 _ _) (meets_str_split_cannot_occur x y t u h1)
   (hq [(x,t)] s.toks (if_pos h1).symm)
theorem QM:∀(l:List (Str×Tok)),StrsAre (strValues l) (l.map (·.1))
 | []=>.nil
 | (s,t)::r=>.cons s t (QM r)
section
variable {X:Cx}{sub:Nat->Nat->Bool}
theorem m_split:mD X "str.split" (λx xs=>rP X.K sub .split (x::xs)):=by
 intro pins s σ H x xs v us Q I rx qG ⟨ρ,h,ds,d,h',R,r,q,k⟩;change Z.Pa _ _=_ at q;unfold Z.Pa at q;split at q
 ·rename_i z c;simp only[aq]at r;obtain ⟨x',t,e,r1,y',t2,e2,r2,rfl⟩:=r;subst e2;cases e;simp only[ak]at r1 r2;obtain ⟨rfl,hz⟩:=r1;obtain ⟨rfl,_⟩:=r2;obtain ⟨tk,rfl⟩:=rx;obtain ⟨u,rfl,ru⟩:=qG.one;obtain ⟨tu,rfl⟩:=ru;obtain ⟨hl,rfl,rfl⟩:=j_ q;have es:=aam z c;refine XF rfl (λl kk hl'=>?_) (by rw[gH,<-g8];exact hz) (by
   have:(Txt.split ⟨z.toArray⟩ ⟨#[c]⟩).length=(Z.splitOn c z).length:=by rw[es,length_map]
   rw[length_map]at hl;exact le_trans (le_of_eq this) (le_trans hl (le_of_eq g8)))
  have hp:=I.hok.fresh (le_refl _);have rr:aq X.K ρ H ((Z.splitOn c z).map .str) ((Z.splitOn c z).map λp=>V.str ⟨p.toArray⟩):=Qp λp hp=>le_trans (Ho hp) hz;obtain ⟨e3,R3,r3⟩:=fQ R rr hp;refine ⟨.ref _,_,I.laid (t':=kk) (o:=.lst _) (λb ob q=>get?_push_of_some _ q) ?_ ?_,rfl,k _ _ _ e3 R3 r3⟩
  ·exact le_refl _
  ·refine ⟨by rw[length_map,<-g8];rw[length_map]at hl;exact hl,strValues l,0,?_,get?_push_size _ rfl⟩;have:=StrsAre.vals (QM l);rw[hl',es,List.map_map]at this;exact this
 ·cases q
end
theorem Nk (c:Nat):∀l:List Nat,cnt c l=(l.count c:Nat)
 | []=>rfl
 | n::r=>by
  rw[cnt_cons,Nk c r,count_cons];by_cases h:n=c
  ·rw[if_pos h,if_pos (by simp[h])];push_cast;lia
  ·rw[if_neg h,if_neg (by simp[h])];push_cast;lia
section
variable {X:Cx}{sub:Nat->Nat->Bool}
theorem aan:mD X "str.count" (λx xs=>rP X.K sub .Jl (x::xs)):=by
 intro pins s σ H x xs v us Q I rx qG ⟨ρ,h,ds,d,h',R,r,q,k⟩;change Z.K1 _ _=_ at q;unfold Z.K1 at q;split at q
 ·rename_i z c;simp only[aq]at r;obtain ⟨x',t,e,r1,y',t2,e2,r2,rfl⟩:=r;subst e2;cases e;simp only[ak]at r1 r2;obtain ⟨rfl,hz⟩:=r1;obtain ⟨rfl,_⟩:=r2;obtain ⟨tk,rfl⟩:=rx;obtain ⟨u,rfl,ru⟩:=qG.one;obtain ⟨tu,rfl⟩:=ru;cases q;have e:Txt.count ⟨z.toArray⟩ ⟨#[c]⟩=((z.count c:Nat):Int):=(count_is ⟨z.toArray⟩ c).trans (by
   have:=Nk c z;unfold cnt at this;simpa using this)
  refine SC.count ?_;rw[show (⟨[c].toArray⟩:Str)=⟨#[c]⟩ from rfl,e];exact ⟨.int (z.count c:Nat),H,I.tok _,⟨_,rfl⟩,k ρ H _ .refl R (by simp only[ak])⟩
 ·cases q
end
end ZS
namespace ZS
open PySem PySem.Spec PyProof.Rows L2
structure FF (K:PySem.W.Frag)(mg:Str->Option Value)(x:Str)(st:Stmt)(f:Addr)(e:FuncData)(ps:List Str):Prop where
 u:BJ K x x st f e
 g:Binds K e ps []
 m:mg x=some (.ref f)
 k:keepIn K (.ref f)=true
def FQ (K:PySem.W.Frag)(x:Str)(st:Stmt)(f:Addr):Prop:=nsIn K mainGlobals x=some (some (.ref f))/\∃e,BJ K x x st f e
noncomputable abbrev XH (x:Str) (st:Stmt) (kV doc pm:Value) (an:Option Addr) (cdv ct:Value):FuncData:=fnOf x x (dX st) (cH st) (aC st) .none kV doc pm an cdv ct
section
variable {K:PySem.W.Frag}{h:Heap}{mg:Str->Option Value}{x:Str}{st:Stmt}{f:Addr}{e:FuncData}
theorem ai2 {oc:Value}{od an:Option Addr}{osl:Array (Option Value)}{kV doc pm cdv ct:Value}(a:nsIn K mainGlobals x=some (some (.ref f)))(l:K.lookup f=some ⟨oc,od,.func (fnOf x x (dX st) (cH st) (aC st) .none kV doc pm an cdv ct),osl⟩)(c:codeIn K cdv x=true)(k:keepIn K (.ref f)=true):FQ K x st f:=⟨a,_,W5 l c k⟩
theorem Vq (X:K.In h)(G:h.Ns mainGlobals mg)(q:FQ K x st f){ps:List Str}(hb:∀(kV doc pm:Value) (an:Option Addr) (cdv ct:Value) (us:List Value),us.length=ps.length->bindArgs (XH x st kV doc pm an cdv ct) ⟨us,[]⟩=pure (ps.zip us)):∃e,FF K mg x st f e ps:=
 let ⟨a,e,F⟩:=q
 ⟨e,F,F.binds hb,mg_of X G a,F.kp⟩
variable [R0]
theorem sO (X:K.In h)(G:h.Ns mainGlobals mg)(q:FQ K x st f)(a:Str)(hb:∀{kV doc pm:Value} {an:Option Addr} {cdv ct u:Value},bindArgs (XH x st kV doc pm an cdv ct) ⟨[u],[]⟩=pure [(a,u)]):∃e,FF K mg x st f e [a]:=
 Vq X G q λ_ _ _ _ _ _ _ hl=>by1 hl λ_=>hb
theorem vo (X:K.In h)(G:h.Ns mainGlobals mg)(q:FQ K x st f)(a b:Str)(hb:∀{kV doc pm:Value} {an:Option Addr} {cdv ct u v:Value},bindArgs (XH x st kV doc pm an cdv ct) ⟨[u,v],[]⟩=pure [(a,u),(b,v)]):∃e,FF K mg x st f e [a,b]:=
 Vq X G q λ_ _ _ _ _ _ _ hl=>Xp hl λ_ _=>hb
theorem ff3 (X:K.In h)(G:h.Ns mainGlobals mg)(q:FQ K x st f)(a b c:Str)(hb:∀{kV doc pm:Value} {an:Option Addr} {cdv ct u v w:Value},bindArgs (XH x st kV doc pm an cdv ct) ⟨[u,v,w],[]⟩=pure [(a,u),(b,v),(c,w)]):∃e,FF K mg x st f e [a,b,c]:=
 Vq X G q λ_ _ _ _ _ _ _ hl=>by3 hl λ_ _ _=>hb
theorem ai3 {s:Shared}{ps:List Str}{us:List Value}{l:List (Str×Value)}(F:FF K mg x st f e ps)(hb:∀{kV doc pm:Value} {an:Option Addr} {cdv ct:Value},bindArgs (XH x st kV doc pm an cdv ct) ⟨us,[]⟩=pure l):BindsTo s e ⟨us,[]⟩ l:=by
 obtain ⟨oc,od,kV,doc,pm,an,cdv,ct,osl,rfl,lk,hcd⟩:=F.u.ex;exact .of_eq hb
end
structure XQ (K:PySem.W.Frag)(fI C:Addr):Prop where
 k:keepIn K (.ref C)=true
 S:Lg K C=true
 V:QG K C=true
 sa:PySem.W.findIn K (.ref C) "__setattr__"=some (some (.builtin "object.__setattr__"))
 na:PySem.W.findIn K (.ref C) "row"=some none
 ii:PySem.W.findIn K (.ref C) "__init__"=some (some (.ref fI))
 xg:PySem.W.findIn K (.ref C) "__getattribute__"=some (some (.builtin "BaseException.__getattribute__"))
 xh:PySem.W.findIn K (.ref C) "__getattr__"=some none
 xl:PySem.W.findIn K (.ref C) "__class__"=some (some (.builtin "object.__class__"))
 xo:PySem.W.mroIn K C (.type "object")=some true
 xb:PySem.W.mroIn K C (.type "BaseException")=some true
 s:PySem.W.mroIn K C (.ref C)=some true
 y:typeIn K (.ref C)=some (.type "type")
section
variable [R0]{K:PySem.W.Frag}{fI C D:Addr}{b:Bool}
theorem XQ.r (q:XQ K fI C):Tj K fI C:=⟨q.S,q.V,q.sa,q.na,q.ii⟩
theorem XQ.e (q:XQ K fI C):xT K C:=⟨q.xg,q.xh,q.xl,q.xo,q.xb⟩
theorem XQ.w (q:XQ K fI C):Vn K C:=⟨q.e,q.V,q.na⟩
theorem XQ.o (q:XQ K fI C)(h:PySem.W.mroIn K D (.ref C)=some b):kitOne K (.ref D) (.ref C)=some b:=afE h q.s q.y
theorem XQ.c (q:XQ K fI C)(h:PySem.W.mroIn K D (.ref C)=some b):exmOne K (.ref D) (.ref C)=some b:=afK q.xb h q.s q.y
end
def scB (N P:List Str)(sc:Scope):Bool:=(match sc.kind with | .function=>true | _=>false) && !sc.isCoroutine && !sc.isGenerator && decide N.Nodup && decide (N.take P.length=P) && decide (∀x∈P,sc.names.lookup x=some .local\/sc.names.lookup x=some .cell) && decide (∀y∈sc.names,y.2≠.free)
theorem cu {N P:List Str}{sc:Scope}(h:scB N P sc=true):aY N P sc:=by
 simp only[scB,and_eq_true,decide_eq_true_eq,not_eq_true']at h;obtain ⟨⟨⟨⟨⟨⟨h1,h2⟩,h3⟩,h4⟩,h5⟩,h6⟩,h7⟩:=h;refine ⟨?_,h2,h3,h4,h5,h6,h7⟩;revert h1;cases sc.kind<;>simp
section
variable [R0]{X:Cx}{sub:Nat->Nat->Bool}{Γ:Z.dB}{E:Z.PX}
theorem bU {k i:Nat}{f:Addr}{st:Stmt}{fd:FuncData}{ps:List Str}{x:Str}{e:Expr}{es:List Expr}{es':Z.dH}{p pos:Pos}(hr:cM k X.A)(F:aP X.prog X.w X.K X.mg X.base bx k f fd ps (aW X.K Γ i))(q:FF X.K X.mg x st f fd ps)(ha:LA X sub Γ E (e::es) es')(hg:Gl X x:=by rfl)(hdb:cN x:=by decide)(he:eE X.env e es:=by rfl)(hpl:iW X.env es pos:=by rfl):
  LE X sub Γ E (.Call (.Name x p) (e::es) [] pos) (.call i es' []):=aa8 hr F q.m q.k q.g ha hg hdb he hpl
theorem zt {s:Str}{l:List Nat}{k:Nat}{pos:Pos}(h:s=⟨l.toArray⟩:=by decide+kernel)(hl:l.length<=Z.lim:=by decide+kernel):LE X sub Γ E (.Constant (.str s) k pos) (.lit (.str l)):=zs h hl
end
end ZS
namespace Z
section
variable {sub:Nat->Nat->Bool}{Γ:dB}{E:PX}{K:En}{σ:Lo}{h:AH}{Q:PV}
theorem ai4 {i:Nat}:aL sub Γ E (.var i) σ h Q=(match σ[i]? with | some (some v)=>Q v h | _=>False):=rfl
theorem ai5 {d:D}:aL sub Γ E (.lit d) σ h Q=Q d h:=rfl
theorem af6 {p:Prim}{es:dH}:aL sub Γ E (.prim p es) σ h Q=bB sub Γ E es σ h (λvs h1=>match prim sub p vs h1 with | some (v,h2)=>Q v h2 | none=>False):=rfl
theorem af7 {a b:Ex}:aL sub Γ E (.HW a b) σ h Q=aL sub Γ E a σ h (λx h1=>match x with | .bl true=>aL sub Γ E b σ h1 Q | .bl false=>Q (.bl false) h1 | _=>False):=rfl
theorem ai6 {a b:Ex}:aL sub Γ E (.orV a b) σ h Q=aL sub Γ E a σ h (λx h1=>match x with | .bl true=>Q (.bl true) h1 | .bl false=>aL sub Γ E b σ h1 Q | _=>False):=rfl
theorem ai7 {c:Tx}{a b:Ex}:aL sub Γ E (.ite c a b) σ h Q=cR sub Γ E c σ h (λk h1=>if k=true then aL sub Γ E a σ h1 Q else aL sub Γ E b σ h1 Q):=rfl
theorem af8 {f:Nat}{es:dH}{ds:List D}:aL sub Γ E (.call f es ds) σ h Q=bB sub Γ E es σ h (λvs h1=>Γ f (vs++ds) h1 Q (EF E)):=rfl
theorem ai8 {a b c:Ex}:aL sub Γ E (.slc a b c) σ h Q=aL sub Γ E a σ h (λx h1=>aL sub Γ E b σ h1 λy h2=>match y with
  | .int i=>aL sub Γ E c σ h2 λz h3=>match z with
   | .int j=>match dg x (some i) (some j) h3 with
    | some (v,h4)=>Q v h4
    | none=>False
   | _=>False
  | _=>False):=rfl
theorem ai9 {k:MK}{p:Prim}{o:Ex}{es:dH}:aL sub Γ E (.cQ k p o es) σ h Q=aL sub Γ E o σ h (λx h1=>tyB h1 k x=true/\bB sub Γ E es σ h1 λvs h2=>match prim sub p (x::vs) h2 with
  | some (v,h3)=>Q v h3
  | none=>False):=rfl
theorem ai_ {Q:List D->AH->Prop}:bB sub Γ E .nil σ h Q=Q [] h:=rfl
theorem af9 {e:Ex}{es:dH}{Q:List D->AH->Prop}:bB sub Γ E (.cons e es) σ h Q=aL sub Γ E e σ h (λv h1=>bB sub Γ E es σ h1 λvs h2=>Q (v::vs) h2):=rfl
theorem aja {e:Ex}{Q:Bool->AH->Prop}:cR sub Γ E (.aR e) σ h Q=aL sub Γ E e σ h (λv h1=>match truthy h1 v with | some c=>Q c h1 | none=>False):=rfl
theorem ajb {a b:Tx}{Q:Bool->AH->Prop}:cR sub Γ E (.and a b) σ h Q=cR sub Γ E a σ h (λc h1=>if c=true then cR sub Γ E b σ h1 Q else Q false h1):=rfl
theorem anh {a b:Tx}{Q:Bool->AH->Prop}:cR sub Γ E (.or a b) σ h Q=cR sub Γ E a σ h (λc h1=>if c=true then Q true h1 else cR sub Γ E b σ h1 Q):=rfl
theorem ajc {a:Tx}{Q:Bool->AH->Prop}:cR sub Γ E (.not a) σ h Q=cR sub Γ E a σ h (λc h1=>Q (!c) h1):=rfl
theorem af_ {Q:Bool->AH->Prop}:lG sub Γ E .none σ h Q=Q true h:=rfl
theorem ajd {t:Tx}{Q:Bool->AH->Prop}:lG sub Γ E (.one t) σ h Q=cR sub Γ E t σ h Q:=rfl
theorem aga {e:Ex}:wpS sub Γ E (.expr e) K σ h=aL sub Γ E e σ h (λ_ h1=>K.nx σ h1):=rfl
theorem aje {i:Nat}{e:Ex}:wpS sub Γ E (.asg i e) K σ h=aL sub Γ E e σ h (λv h1=>K.nx (σ.set i (some v)) h1):=rfl
theorem ajf {is:List Nat}{e:Ex}:wpS sub Γ E (.Wk is e) K σ h=aL sub Γ E e σ h (λv h1=>match jP is v σ with | some σ'=>K.nx σ' h1 | none=>False):=rfl
theorem agb {o i v:Ex}:wpS sub Γ E (.fB o i v) K σ h=aL sub Γ E v σ h (λx h1=>aL sub Γ E o σ h1 λy h2=>aL sub Γ E i σ h2 λz h3=>match prim sub .fB [y,z,x] h3 with
  | some (_,h4)=>K.nx σ h4
  | none=>False):=rfl
theorem ajg {e:Ex}:wpS sub Γ E (.ret e) K σ h=aL sub Γ E e σ h K.rt:=rfl
theorem agc:wpS sub Γ E .Y6 K σ h=K.rt .non h:=rfl
theorem ajh {c:Tx}{a b:ao}:wpS sub Γ E (.bI c a b) K σ h=cR sub Γ E c σ h (λk h1=>if k=true then bw sub Γ E a K σ h1 else bw sub Γ E b K σ h1):=rfl
theorem aji:wpS sub Γ E .brk K σ h=K.bk σ h:=rfl
theorem ajj:wpS sub Γ E .cnt K σ h=K.ct σ h:=rfl
theorem agd:wpS sub Γ E .pass K σ h=K.nx σ h:=rfl
theorem agf:bw sub Γ E .nil K σ h=K.nx σ h:=rfl
theorem jk:bw sub Γ E (.cons s ss) K σ h=wpS sub Γ E s {K with nx:=λσ' h'=>bw sub Γ E ss K σ' h'} σ h:=rfl
section
variable {i j:Int}{s t:S}{x y v:D}{xs ys:List D}{a b n:Nat}{p q:Bool}
theorem agg:prim sub .idx [.tup xs,.int i] h=(bT xs i).map λv=>(v,h):=rfl
theorem agh:prim sub .idx [.fu xs,.int i] h=(bT xs i).map λv=>(v,h):=rfl
theorem agi:prim sub .idx [.str s,.int i] h=(bT s i).map λc=>(.str [c],h):=rfl
theorem aD (ha:h[a]?=some (.lst xs)):prim sub .idx [.ref a,.int i] h=(bT xs i).map λv=>(v,h):=by
 show (match h[a]? with | some (.dct kvs)=>_ | some (.lst xs)=>(bT xs i).map λv=>(v,h) | _=>none)=_;rw[ha]
theorem agj:prim sub .add [.str s,.str t] h=if s.length+t.length<=16777216 then some (.str (s++t),h) else none:=rfl
theorem agk:prim sub .Mp [.str s,.int i] h=some (.str (cut s none (some i)),h):=rfl
theorem agl:prim sub .uQ [.str s,.int i] h=some (.str (cut s (some i) none),h):=rfl
theorem ani:prim sub .eq [x,y] h=(o8 h x y).map λb=>(.bl (b != false),h):=rfl
theorem anj:prim sub .ne [x,y] h=(o8 h x y).map λb=>(.bl (b != true),h):=rfl
theorem abo:prim sub (.fV k) [x] h=(iY h sub k x).map λb=>(.bl b,h):=rfl
theorem nH (ha:h[a]?=some (.lst xs)):prim sub .len [.ref a] h=some (.int xs.length,h):=gw ha
theorem agm:prim sub .len [.fu xs] h=some (.int xs.length,h):=rfl
theorem agn:prim sub .len [.tup xs] h=some (.int xs.length,h):=rfl
theorem ago:prim sub .len [.str s] h=some (.int s.length,h):=rfl
theorem agp:prim sub .GQ [x,.tup ys] h=(dW x ys).map λb=>(.bl (b != false),h):=by cases x<;>rfl
theorem XJ (ha:h[a]?=some (.lst ys)):prim sub .lE [x,.ref a] h=(dW x ys).map λb=>(.bl (b != true),h):=by
 show Mq true [x,.ref a] h=_;unfold Mq;simp only[ha]
theorem ajk:prim sub .aaJ [] h=some (.ref h.length,h++[.dct []]):=rfl
theorem ajl:prim sub .dj xs h=if xs.length<=16777216 then some (.tup xs,h) else none:=rfl
theorem ajm:prim sub .bA xs h=if xs.length<=16777216 then some (.ref h.length,h++[.lst xs]) else none:=rfl
theorem gJ:prim sub .rZ [.non] h=some (.bl true,h):=rfl
theorem ac2:prim sub .YJ [.non] h=some (.bl false,h):=rfl
theorem agq:prim sub .rZ [.int i] h=some (.bl false,h):=rfl
theorem ac3:prim sub .YJ [.int i] h=some (.bl true,h):=rfl
theorem agr:prim sub .ad7 [.bl p] h=some (.bl (!p),h):=rfl
theorem ajn:prim sub .max2 [.int i,.int j] h=some (.int (if j > i then j else i),h):=rfl
theorem ajo:prim sub .min2 [.int i,.int j] h=some (.int (if j < i then j else i),h):=rfl
theorem ajp:prim sub .shr [.int i,.int j] h=if 0<=j then some (.int (i / 2 ^ j.toNat),h) else none:=rfl
theorem ags:prim sub .band [.int i,.int j] h=some (.int (YK i j),h):=rfl
theorem ajq:prim sub .bor [.int i,.int j] h=some (.int (bOr i j),h):=rfl
theorem ajr:prim sub .inv [.int i] h=some (.int (O9 i),h):=rfl
theorem aao:prim sub .Wj [.int i] h=some (.int (ad8 i),h):=rfl
theorem ank:truthy h (.bl p)=some p:=rfl
theorem ajs:truthy h (.int i)=some (i != 0):=rfl
theorem Gh (ha:h[a]?=some (.lst xs)):truthy h (.ref a)=some (!xs.isEmpty):=by simp only[truthy,ha]
theorem cP (ha:h[a]?=some (.lst xs)):tyB h .list (.ref a)=true:=by simp only[tyB,ha]
theorem ajt:tyB h .str (.str s)=true:=rfl
theorem aju:tyB h .int (.int i)=true:=rfl
theorem ajv:tyB h .tuple (.tup xs)=true:=rfl
end
theorem ajw {i j:Nat}{x y:D}:jP [i,j] (.tup [x,y]) σ=some ((σ.set i (some x)).set j (some y)):=rfl
theorem wp_call (hf:P[f]?=some df)(hv:vs.length=df.np)(w:bw sub (au sub P d) E df.body {nx:=λ_ h=>Q .non h,rt:=Q} (vs.map some++replicate (df.nl - df.np) none) h):au sub P (d+1) f vs h Q E:=by
 simp only[au,hf];exact ⟨hv,w⟩
end
theorem vp {α:Type}{xs:List α}{n:Nat}:bT xs (n:Int)=xs[n]?:=by
 unfold bT lD;by_cases hn:n < xs.length
 ·rw[if_pos (Int.natCast_nonneg n),if_pos (by lia)];simp
 ·rw[if_pos (Int.natCast_nonneg n),if_neg (by lia),getElem?_eq_none (by lia)];rfl
theorem dO {α:Type}{xs:List α}{i:Int}(h0:0<=i):bT xs i=xs[i.toNat]?:=by
 obtain ⟨n,rfl⟩:=eq_ofNat_of_zero_le h0;rw[toNat_natCast];exact vp
theorem Cm {α:Type}{xs:List α}:bT xs (-1)=xs.getLast?:=by
 unfold bT lD;rw[if_neg (by decide)];cases xs with
 | nil=>rfl
 | cons x r=>
  rw[if_pos (by simp;lia)];simp only[bind_some,List.getLast?_eq_getElem?];congr 1;simp;lia
def rl (n:Nat)(f:Nat->Int):List D:=(List.range n).map λk=>.int (f k)
theorem agt:(rl n f).length=n:=by simp[rl]
theorem ac4:rl n f++[.int (f n)]=rl (n+1) f:=by simp[rl,range_succ]
theorem ajx {n:Nat}{f:Nat->Int}{i:Nat}(h:i < n):(rl n f)[i]?=some (.int (f i)):=by simp[rl,h]
theorem aap (h:∀k,k < n->f k=g k):rl n f=rl n g:=by
 unfold rl;refine List.map_congr_left λk hk=>?_;rw[h k (mem_range.mp hk)]
theorem JV (e:h1[a]?=some (.lst xs)):bM .val [.ref a] h1=some (iu a):=by simp only[bM,iZ,iR,i_,jc,iw,e]
theorem aJ {h l:AH}{n:Nat}{o:AO}(e:h[n]?=some o):(h++l)[n]?=some o:=by
 rw[getElem?_append_left (List.getElem?_eq_some_iff.mp e).1];exact e
theorem aB:(h++[o])[h.length]?=some o:=by simp
theorem dF:(h++[o]).set h.length o'=h++[o']:=by simp
theorem get_set {h:AH}(e:h[n]?=some o):(h.set n o')[n]?=some o':=by
 rw[getElem?_set_self (List.getElem?_eq_some_iff.mp e).1]
theorem bN {h:AH}(e:h[n]?=some o)(hne:m≠n):(h.set m o')[n]?=some o:=by
 rw[getElem?_set_ne hne];exact e
theorem bC {n:Nat}{f:Nat->Int}{z:Int}(h0:0<=z)(h1:z < n):∃v:Int,bT (rl n f) z=some (.int v):=⟨f z.toNat,by rw[dO h0,ajx (by lia)]⟩
theorem jN {α:Type}{xs:List α}{z:Int}(h0:0<=z)(h1:z < xs.length):∃v,v∈xs/\bT xs z=some v:=by
 have hl:z.toNat < xs.length:=by lia
 exact ⟨xs[z.toNat],getElem_mem _,by rw[dO h0,getElem?_eq_getElem hl]⟩
theorem jl {α:Type}{xs:List α}{lo hi:Option Int}:(cut xs lo hi).length<=xs.length:=by
 unfold cut;simp;lia
theorem aK {h h':AH}{n:Nat}{o:AO}(p:h<+:h')(e:h[n]?=some o):h'[n]?=some o:=by
 obtain ⟨l,rfl⟩:=p;exact aJ e
theorem pre_app (p:h<+:h'):h<+:h'++l:=p.trans (prefix_append _ _)
theorem iK (p:h<+:h')(hr:h.length<=r):h<+:h'.set r o:=by
 obtain ⟨l,rfl⟩:=p;rw[List.set_append_right _ _ hr];exact prefix_append _ _
theorem lA (p:h<+:h'):h.length<=h'.length:=p.length_le
theorem iM:h<+:h:=List.prefix_refl h
theorem lN {h:AH}(e:h[n]?=some o):n < h.length:=(List.getElem?_eq_some_iff.mp e).1
theorem pre_of (p:h++l<+:h'):h<+:h':=(prefix_append h l).trans p
theorem ac5:GP n (.str x) (.str y)=some (x == y):=by cases n<;>rfl
theorem g_:∀{ss:List S},dW (.str x) (ss.map .str)=some (ss.contains x)
 | []=>rfl
 | y::r=>by
  simp only[map_cons,dW,ac5,g_ (ss:=r),contains_cons];have e:(y == x)=(x == y):=by rw[Bool.eq_iff_iff,beq_iff_eq,beq_iff_eq];exact eq_comm
  rw[e]
theorem pZ:∀{ss:List S},strsOf (ss.map .str)=some ss
 | []=>rfl
 | x::r=>by simp only[map_cons,strsOf,pZ (ss:=r),map_some]
theorem Tn (ea:h[a]?=some (.lst xs))(eb:h[b]?=some (.lst ys)):o8 h (.ref a) (.ref b)=KD xs ys:=by simp only[o8,ea,eb]
theorem ac6 {h:AH}{i j:Int}:o8 h (.int i) (.int j)=some (i == j):=rfl
theorem ac7 {h:AH}{i j:S}:o8 h (.str i) (.str j)=some (i == j):=rfl
inductive Sn where
 | is (n:S) | nt (a:Sn) | an (a b:Sn) | or (a b:Sn)
def sd:Sn->D
 | .is n=>.tup [.str (tx "is"),.str n]
 | .nt a=>.tup [.str (tx "not"),sd a]
 | .an a b=>.tup [.str (tx "and"),sd a,sd b]
 | .or a b=>.tup [.str (tx "or"),sd a,sd b]
def nm:Sn->List S
 | .is n=>[n]
 | .nt a=>nm a
 | .an a b=>nm a++nm b
 | .or a b=>nm a++nm b
def sz:Sn->Nat
 | .is _=>1
 | .nt a=>sz a+1
 | .an a b=>sz a+sz b+1
 | .or a b=>sz a+sz b+1
def kd (ks:List S):List (KK×D):=ks.map λk=>(.inr k,.bl true)
section
variable {sub:Nat->Nat->Bool}{h:AH}{a:Nat}{xs:List D}{v:D}
theorem Gi (ha:h[a]?=some (.lst (xs++[v]))):prim sub .pop [.ref a] h=some (v,h.set a (.lst xs)):=by
 show (match h[a]? with | some (.lst xs)=>_ | _=>none)=_;rw[ha];simp
theorem agu {lo hi:Option Int}(hl:xs.length<=16777216):dg (.fu xs) lo hi h=some (.ref h.length,h++[.lst (cut xs lo hi)]):=if_pos (le_trans jl hl)
theorem Li {α:Type}{xs:List α}{v:α}(hv:v∈cut xs lo hi):v∈xs:=by
 unfold cut at hv;exact List.mem_of_mem_drop (List.mem_of_mem_take hv)
end
def dp:Sn->Nat
 | .is _=>1
 | .nt a=>dp a+1
 | .an a b=>max (dp a) (dp b)+1
 | .or a b=>max (dp a) (dp b)+1
end Z
local macro_rules
 | `(tactic| simp! only)=>`(tactic| simp! only[])
 | `(tactic| simp! only[$ls,*])=>`(tactic| simp only[List.getElem?_cons_zero,getElem?_cons_succ,List.set_cons_zero,List.set_cons_succ,nil_append,append_nil,cons_append,map_cons,map_nil,Nat.sub_zero,map_some,Option.map_none,length_cons,length_nil,if_true,if_false,Bool.not_true,Bool.not_false,bne_false,bne_true,and_self,true_and,and_true,replicate_succ,List.replicate_zero,Z.ai4,Z.ai5,Z.af6,Z.af7,Z.ai6,Z.ai7,Z.af8,Z.ai8,Z.ai9,Z.ai_,Z.af9,Z.aja,Z.ajb,Z.anh,Z.ajc,Z.af_,Z.ajd,Z.aga,Z.aje,Z.ajf,Z.agb,Z.ajg,Z.agc,Z.ajh,Z.aji,Z.ajj,Z.agd,Z.agf,Z.aej,Z.agj,Z.agk,Z.agl,Z.aek,Z.aio,Z.amu,Z.amv,Z.amw,Z.amx,Z.agg,Z.agh,Z.agi,Z.ani,Z.anj,Z.agm,Z.agn,Z.ago,Z.agp,Z.ajk,Z.ajl,Z.ajm,Z.gJ,Z.ac2,Z.agq,Z.ac3,Z.agr,Z.ajn,Z.ajo,Z.ajp,Z.ags,Z.ajq,Z.ajr,Z.aao,Z.ank,Z.ajs,Z.ajt,Z.aju,Z.ajv,Z.ajw,Z.ac6,Z.ac7,Z.pQ,Z.ael,Z.Wn,Z.Sd,Z.jk,reduceIte,false_eq_true,Int.reduceLT,Int.reduceLE,Nat.reduceLeDiff,Nat.reduceSub,$ls,*])
namespace Z
section
variable {sub:Nat->Nat->Bool}{P:List Def}{E:PX}{d:Nat}
theorem agv {n:Nat}{h:AH}(hn:n<=1000):bM .rng [.int n] h=some (ji 0 n):=by
 have:okR (n:Int)=true:=mF.mpr (by lia);simp only[bM,iZ,iR,i_,jc,iw,this,toNat_natCast];rfl
theorem agw {src:dH}{cond:GZ}{elt:Ex}{σ:Lo}{h h1:AH}{Q:PV}{n:Nat}(p:Nat->Bool)(g:Nat->D)(he:∀Q:List D->AH->Prop,Q [.int n] h1->bB sub (au sub P d) E src σ h Q)(hn:n<=1000)(hs:∀k h2,k < n->h1<+:h2->lG sub (au sub P d) E cond (σ++[some (.int k)]) h2 λc h3=>c=p k/\h2<+:h3/\(c=true->aL sub (au sub P d) E elt (σ++[some (.int k)]) h3 λx h4=>x=g k/\h3<+:h4))(q:∀h',h1<+:h'->h'[h1.length]?=some (.lst (((List.range n).filter p).map g))->Q (.ref h1.length) h'):aL sub (au sub P d) E (.comp .rng src 1 cond elt) σ h Q:=by
 refine Sg (xs:=(List.range n).map λ(k:Nat)=>.int k) (J:=ji 0 n) (λv=>match v with | .int k=>p k.toNat | _=>false) (λv=>match v with | .int k=>g k.toNat | _=>.non) he (agv hn) (by simp;lia) ?_ ?_ ?_
 ·intro i h2 _;unfold ji;by_cases hi:i < n
  ·rw[if_pos hi,getElem?_map,getElem?_range hi];simp
  ·rw[if_neg hi,getElem?_eq_none (by simp;lia)]
 ·intro i v h2 ev pr;have hk:i < n:=by have:=(List.getElem?_eq_some_iff.mp ev).1;simpa using this
  rw[getElem?_map,getElem?_range hk]at ev;simp only[map_some,Option.some.injEq]at ev;subst ev;exact ⟨_,rfl,by simpa only[toNat_natCast] using hs i h2 hk pr⟩
 ·intro h' pr e;refine q h' pr ?_;rw[e];congr 2;rw[filter_map,List.map_map];rfl
theorem ajy {Γ:dB}{b:ao}{K:En}{σ:Lo}{h:AH}(q:∀K',K'=K->bw sub Γ E b K' σ h):bw sub Γ E b K σ h:=q K rfl
end
end Z
namespace gj
open Z
section
variable {sub:Nat->Nat->Bool}{Γ:dB}{E:PX}{K:En}{σ:Lo}{h:AH}
def rcs:List S:=[(tx "RowError"),(tx "NoRow"),(tx "TooLong"),(tx "NoSentence"),(tx "Twice"),(tx "TooMany")]
def Cp:List S:=[(tx "Twice")]
def Cq:List S:=[(tx "RowError"),(tx "NoRow"),(tx "TooLong"),(tx "NoSentence"),(tx "TooMany")]
def uG:List S:=[(tx "TooMany")]
def uH:List S:=[(tx "RowError"),(tx "NoRow"),(tx "TooLong"),(tx "NoSentence"),(tx "Twice")]
def Cr:List S:=[(tx "NoRow")]
def Cu:List S:=[(tx "RowError"),(tx "TooLong"),(tx "NoSentence"),(tx "Twice"),(tx "TooMany")]
def uJ:List S:=[(tx "TooLong")]
def uK:List S:=[(tx "RowError"),(tx "NoRow"),(tx "NoSentence"),(tx "Twice"),(tx "TooMany")]
def mK:List S:=[(tx "NoSentence")]
def mL:List S:=[(tx "RowError"),(tx "NoRow"),(tx "TooLong"),(tx "Twice"),(tx "TooMany")]
def lO:D:=(.int 120)
def IW:D:=(.tup [(.str (tx "(")),(.str (tx ")")),(.str (tx " and ")),(.str (tx " or ")),(.str (tx "not "))])
def Cv:D:=(.str (tx "abcdefghijklmnopqrstuvwxyz"))
def qI:D:=(.tup [(.str (tx "always")),(.str (tx "where")),(.str (tx "usually")),(.str (tx "not")),(.str (tx "and")),(.str (tx "or"))])
def gK:D:=(.int 12)
def QS:D:=(.tup [(.str (tx "not")),(.str (tx "and")),(.str (tx "or"))])
def cO:List (S×D):=[((tx "and"),(.tup [(.str (tx "not")),(.str (tx "and"))])),((tx "or"),(.tup [(.str (tx "not")),(.str (tx "and")),(.str (tx "or"))])),((tx ")"),(.tup [(.str (tx "not")),(.str (tx "and")),(.str (tx "or"))]))]
def fU:List (S×D):=[((tx "or"),(.int 0)),((tx "and"),(.int 1)),((tx "not"),(.int 2)),((tx "is"),(.int 3))]
local macro_rules
 | `(#[$a,*])=>do
  let mut r <-`(dH.nil)
  for x in a.getElems.reverse do r <-`(dH.cons $x $r)
  return r
def o_:ao:=.cons (.ret (.var 3)) .nil
def jC:ao:=.cons (.sE (tx "NoSentence") (.var 1)) .nil
def fY:ao:=.cons (.bI (.aR (.prim .rZ #[.var 3])) jC .nil) o_
def jD:ao:=.cons (.asg 3 (.ite (.aR (.prim .rZ #[.var 2])) (.lit .non) (.call 5 #[.var 2] []))) fY
def pA:ao:=.cons (.asg 2 (.call 1 #[.var 0] [])) jD
def pB:ao:=.cons (.sE (tx "TooLong") (.var 1)) .nil
def jE:ao:=.cons (.bI (.aR (.prim .gt #[.prim .len #[.var 0],.lit lO])) pB .nil) pA
noncomputable abbrev JW:ao:=jE
def xU:ao:=.cons (.ret (.var 1)) .nil
def xV:ao:=.cons (.asg 2 (.prim .sub #[.var 2,.prim .neg #[.prim .len #[.var 3]]])) .nil
def xW:ao:=.cons (.expr (.cQ .list .append (.var 1) #[.cQ .str .strip (.var 3) #[.lit (.str (tx " "))]])) xV
def xX:ao:=.cons (.ret (.lit .non)) .nil
def oK:ao:=.cons (.bI (.aR (.prim .rZ #[.var 3])) xX .nil) xW
def xY:ao:=.cons (.asg 3 (.call 2 #[.var 0,.var 2] [])) oK
def xZ:ao:=.cons (.Bj (.aR (.prim .lt #[.var 2,.prim .len #[.var 0]])) xY) xU
def yc:ao:=.cons (.asg 2 (.lit (.int 0))) xZ
def yd:ao:=.cons (.asg 1 (.prim .bA .nil)) yc
noncomputable abbrev RM:ao:=yd
def Cw:ao:=.cons (.ret (.ite (.aR (.call 4 #[.var 3] [])) (.var 3) (.lit .non))) .nil
def Cy:ao:=.cons (.asg 3 (.slc (.var 0) (.var 1) (.call 3 #[.var 0,.var 1] []))) Cw
def Cz:ao:=.cons (.ret (.var 2)) .nil
def CG:ao:=.cons (.bI (.aR (.cQ .str .uR (.var 0) #[.var 2,.var 1])) Cz .nil) .nil
def CJ:ao:=.cons (.d9 [2] .val #[.lit IW] CG) Cy
noncomputable abbrev Vr:ao:=CJ
def qJ:ao:=.cons (.ret (.var 1)) .nil
def CK:ao:=.cons (.asg 1 (.prim .sub #[.var 1,.prim .neg #[.lit (.int 1)]])) .nil
def CN:ao:=.cons (.Bj (.and (.aR (.prim .lt #[.var 1,.prim .len #[.var 0]])) (.aR (.prim .GX #[.prim .idx #[.var 0,.var 1],.lit Cv]))) CK) qJ
noncomputable abbrev Vs:ao:=CN
def nj:ao:=.cons (.ret (.HW (.chain .le .le (.lit (.int 1)) (.prim .len #[.var 0]) (.lit gK)) (.prim .lE #[.var 0,.lit qI]))) .nil
noncomputable abbrev XM:ao:=nj
def kh:ao:=.cons (.ret (.ite (.aR (.var 1)) (.lit .non) (.var 2))) .nil
def qK:ao:=.cons (.asg 2 (.call 6 #[.var 1,.var 2,.lit QS] [])) kh
def qL:ao:=.cons (.ret (.lit .non)) .nil
def kj:ao:=.cons (.bI (.aR (.prim .rZ #[.var 2])) qL .nil) qK
def qM:ao:=.cons (.expr (.cQ .list .pop (.var 1) .nil)) .nil
def qN:ao:=.cons (.ret (.lit .non)) .nil
def kE:ao:=.cons (.bI (.not (.aR (.var 1))) qN .nil) qM
def kJ:ao:=.cons (.asg 2 (.lit .non)) .nil
def kO:ao:=.cons (.expr (.cQ .list .append (.var 1) #[.prim .dj #[.var 3,.var 2]])) kJ
def jF:ao:=.cons (.expr (.cQ .list .append (.var 1) #[.prim .dj #[.var 3]])) .nil
def pC:ao:=.cons (.asg 2 (.prim .dj #[.lit (.str (tx "is")),.var 3])) .nil
def fZ:ao:=.cons (.bI (.or (.aR (.prim .eq #[.var 3,.lit (.str (tx "("))])) (.aR (.prim .eq #[.var 3,.lit (.str (tx "not"))]))) jF pC) .nil
def dG:ao:=.cons (.bI (.aR (.var 4)) kO fZ) .nil
def cI:ao:=.cons (.bI (.aR (.prim .eq #[.var 3,.lit (.str (tx ")"))])) kE dG) .nil
def gb:ao:=.cons (.asg 2 (.call 6 #[.var 1,.var 2,.prim (.j5 cO) #[.var 3]] [])) .nil
def cU:ao:=.cons (.bI (.aR (.var 4)) gb .nil) cI
def cV:ao:=.cons (.ret (.lit .non)) .nil
def bH:ao:=.cons (.bI (.aR (.prim .eq #[.var 4,.prim .rZ #[.var 2]])) cV .nil) cU
def bF:ao:=.cons (.asg 4 (.prim (.su cO) #[.var 3])) bH
def pD:ao:=.cons (.d9 [3] .val #[.var 0] bF) kj
def pF:ao:=.cons (.asg 2 (.lit .non)) pD
def pG:ao:=.cons (.asg 1 (.prim .bA .nil)) pF
noncomputable abbrev Lj:ao:=pG
def CP:ao:=.cons (.ret (.var 1)) .nil
def Nm:ao:=.cons (.asg 1 (.prim .add #[.cQ .list .pop (.var 0) .nil,.prim .dj #[.var 1]])) .nil
def Np:ao:=.cons (.Bj (.and (.aR (.var 0)) (.aR (.prim .GQ #[.prim .idx #[.prim .idx #[.var 0,.prim .neg #[.lit (.int 1)]],.lit (.int 0)],.var 2]))) Nm) CP
noncomputable abbrev ac8:ao:=Np
def nJ:ao:=.cons (.ret (.call 8 #[.var 0,.lit (.int 0)] [])) .nil
noncomputable abbrev I_:ao:=nJ
def mO:ao:=.cons (.ret (.ite (.aR (.prim .ge #[.var 3,.var 1])) (.var 4) (.prim .add #[.prim .add #[.prim .add #[.lit (.str []),.lit (.str (tx "("))],.var 4],.lit (.str (tx ")"))]))) .nil
def vq:ao:=.cons (.asg 4 (.prim .idx #[.var 0,.lit (.int 1)])) .nil
def vA:ao:=.cons (.asg 4 (.prim .add #[.lit (.str (tx "not ")),.call 8 #[.prim .idx #[.var 0,.lit (.int 1)],.var 3] []])) .nil
def mQ:ao:=.cons (.asg 4 (.prim .add #[.prim .add #[.prim .add #[.prim .add #[.prim .add #[.lit (.str []),.var 5],.lit (.str (tx " "))],.var 2],.lit (.str (tx " "))],.var 6])) .nil
def mR:ao:=.cons (.asg 6 (.call 8 #[.prim .idx #[.var 0,.lit (.int 2)],.prim .add #[.var 3,.lit (.int 1)]] [])) mQ
def mU:ao:=.cons (.asg 5 (.call 8 #[.prim .idx #[.var 0,.lit (.int 1)],.var 3] [])) mR
def jm:ao:=.cons (.bI (.aR (.prim .eq #[.var 2,.lit (.str (tx "not"))])) vA mU) .nil
def gM:ao:=.cons (.bI (.aR (.prim .eq #[.var 2,.lit (.str (tx "is"))])) vq jm) mO
def gP:ao:=.cons (.asg 3 (.prim (.j5 fU) #[.var 2])) gM
def fL:ao:=.cons (.asg 2 (.prim .idx #[.var 0,.lit (.int 0)])) gP
noncomputable abbrev QT:ao:=fL
def CQ:ao:=.cons (.ret (.prim .dj #[.lit (.str (tx "usually")),.var 3,.wN 0 #[.prim .idx #[.var 2,.lit (.int 1)],.var 1]])) .nil
def CT:ao:=.cons (.ret (.prim .dj #[.lit (.str (tx "always")),.var 3])) .nil
def CV:ao:=.cons (.bI (.aR (.prim .eq #[.prim .len #[.var 2],.lit (.int 1)])) CT .nil) CQ
def CW:ao:=.cons (.asg 3 (.wN 0 #[.prim .idx #[.var 2,.lit (.int 0)],.var 1])) CV
def qO:ao:=.cons (.sE (tx "NoRow") (.var 1)) .nil
def CZ:ao:=.cons (.bI (.or (.not (.aR (.var 2))) (.aR (.prim .GX #[.lit (.str [10]),.var 0]))) qO .nil) CW
def C_:ao:=.cons (.asg 2 (.call 10 #[.var 0] [])) CZ
noncomputable abbrev Vt:ao:=C_
def je:ao:=.cons (.ret (.prim .bA .nil)) .nil
def nM:ao:=.cons (.ret (.prim .bA #[.cQ .str .join (.lit (.str (tx " "))) #[.prim .Mp #[.var 2,.var 3]],.cQ .str .join (.lit (.str (tx " "))) #[.prim .uQ #[.var 2,.prim .add #[.var 3,.lit (.int 1)]]]])) .nil
def nO:ao:=.cons (.bI (.aR (.chain .lt .lt (.lit (.int 0)) (.var 3) (.prim .sub #[.prim .len #[.var 2],.lit (.int 1)]))) nM .nil) .nil
def nP:ao:=.cons (.asg 3 (.cQ .list .Jk (.var 2) #[.lit (.str (tx "usually"))])) nO
def jf:ao:=.cons (.bI (.and (.aR (.prim .eq #[.prim .idx #[.var 1,.lit (.int 0)],.lit (.str (tx "where"))])) (.aR (.prim .eq #[.cQ .list .count (.var 2) #[.lit (.str (tx "usually"))],.lit (.int 1)]))) nP .nil) je
def nQ:ao:=.cons (.ret (.prim .bA #[.cQ .str .join (.lit (.str (tx " "))) #[.var 2]])) .nil
def nR:ao:=.cons (.bI (.and (.aR (.prim .eq #[.prim .idx #[.var 1,.lit (.int 0)],.lit (.str (tx "always"))])) (.aR (.var 2))) nQ .nil) jf
def nU:ao:=.cons (.asg 2 (.prim .uQ #[.var 1,.lit (.int 1)])) nR
def nW:ao:=.cons (.asg 1 (.cQ .str .split (.var 0) #[.lit (.str (tx " "))])) nU
noncomputable abbrev Ja:ao:=nW
def yg:ao:=.cons (.ret (.prim .add #[.prim .add #[.prim .add #[.prim .add #[.lit (.str []),.lit (.str (tx "where "))],.var 1],.lit (.str (tx " usually "))],.var 2])) .nil
def yh:ao:=.cons (.asg 2 (.call 7 #[.prim .idx #[.var 0,.lit (.int 2)]] [])) yg
def yj:ao:=.cons (.ret (.prim .add #[.prim .add #[.lit (.str []),.lit (.str (tx "always "))],.var 1])) .nil
def oM:ao:=.cons (.bI (.aR (.prim .eq #[.prim .idx #[.var 0,.lit (.int 0)],.lit (.str (tx "always"))])) yj .nil) yh
def oN:ao:=.cons (.asg 1 (.call 7 #[.prim .idx #[.var 0,.lit (.int 1)]] [])) oM
noncomputable abbrev RN:ao:=oN
def yq:ao:=.cons (.ret (.var 3)) .nil
def yr:ao:=.cons (.expr (.cQ .list .append (.var 3) #[.prim .fdiv #[.var 2,.lit (.int 13)]])) .nil
def yt:ao:=.cons (.asg 2 (.prim .mod #[.prim .mul #[.var 2,.lit (.int 48271)],.lit (.int 2147483647)])) yr
def yu:ao:=.cons (.d9 [4] .rng #[.var 1] yt) yq
def yw:ao:=.cons (.asg 3 (.prim .bA .nil)) yu
def yx:ao:=.cons (.asg 2 (.prim .mod #[.prim .mul #[.prim .add #[.prim .mod #[.var 0,.lit (.int 2147483629)],.lit (.int 1)],.lit (.int 1103515245)],.lit (.int 2147483647)])) yw
noncomputable abbrev RP:ao:=yx
def sS:ao:=.cons (.ret (.lit (.int 0))) .nil
def sU:ao:=.cons (.ret (.prim .idx #[.var 0,.var 1])) .nil
def sV:ao:=.cons (.bI (.aR (.prim .lt #[.var 1,.prim .len #[.var 0]])) sU .nil) sS
noncomputable abbrev Nz:ao:=sV
def yC:ao:=.cons (.ret (.var 3)) .nil
def yD:ao:=.cons (.asg 3 (.prim .add #[.var 3,.prim .idx #[.var 2,.prim .mod #[.prim .fdiv #[.var 0,.lit (.int 17)],.lit (.int 26)]]])) .nil
def yE:ao:=.cons (.asg 0 (.prim .mod #[.prim .add #[.prim .mul #[.var 0,.lit (.int 69621)],.lit (.int 1)],.lit (.int 2147483647)])) yD
def yF:ao:=.cons (.d9 [4] .rng #[.var 1] yE) yC
def yG:ao:=.cons (.asg 3 (.lit (.str (tx "")))) yF
def yH:ao:=.cons (.asg 2 (.lit (.str (tx "abcdefghijklmnopqrstuvwxyz")))) yG
noncomputable abbrev RQ:ao:=yH
def oO:ao:=.cons (.ret (.var 7)) .nil
def yI:ao:=.cons (.expr (.cQ .list .append (.var 7) #[.var 9])) .nil
def oR:ao:=.cons (.bI (.aR (.prim .lE #[.var 9,.var 7])) yI .nil) .nil
def yJ:ao:=.cons (.asg 9 (.prim .add #[.var 9,.lit (.str (tx "a"))])) .nil
def yK:ao:=.cons (.bI (.aR (.prim .GQ #[.var 9,.prim .dj #[.lit (.str (tx "always")),.lit (.str (tx "where")),.lit (.str (tx "usually")),.lit (.str (tx "not")),.lit (.str (tx "and")),.lit (.str (tx "or"))]])) yJ .nil) oR
def yL:ao:=.cons (.asg 9 (.prim .idx #[.var 3,.prim .mod #[.prim .add #[.prim .idx #[.var 4,.lit (.int 23)],.prim .mul #[.lit (.int 3),.var 8]],.lit (.int 16)]])) .nil
def yM:ao:=.cons (.bI (.aR (.prim .eq #[.prim .mod #[.prim .idx #[.var 4,.lit (.int 20)],.lit (.int 4)],.lit (.int 2)])) yL .nil) yK
def yN:ao:=.cons (.asg 9 (.prim .add #[.prim .add #[.prim .Mp #[.var 5,.var 6],.var 10],.prim .uQ #[.var 5,.prim .add #[.var 6,.lit (.int 1)]]])) .nil
def yO:ao:=.cons (.asg 10 (.prim .idx #[.var 2,.prim .mod #[.prim .add #[.prim .idx #[.var 4,.lit (.int 21)],.prim .mul #[.var 8,.prim .idx #[.prim .bA #[.lit (.int 1),.lit (.int 3),.lit (.int 5),.lit (.int 7),.lit (.int 9),.lit (.int 11)],.prim .mod #[.prim .idx #[.var 4,.lit (.int 22)],.lit (.int 6)]]]],.lit (.int 26)]])) yN
def vB:ao:=.cons (.bI (.aR (.prim .lt #[.prim .mod #[.prim .idx #[.var 4,.lit (.int 20)],.lit (.int 4)],.lit (.int 2)])) yO .nil) yM
def vC:ao:=.cons (.asg 9 (.call 14 #[.prim .idx #[.var 4,.prim .add #[.lit (.int 3),.var 8]],.prim .add #[.lit (.int 1),.prim .mod #[.prim .fdiv #[.prim .idx #[.var 4,.prim .add #[.lit (.int 4),.var 8]],.lit (.int 5)],.lit (.int 12)]]] [])) vB
def vD:ao:=.cons (.d9 [8] .rng #[.var 1] vC) oO
def vG:ao:=.cons (.asg 7 (.prim .bA .nil)) vD
def vH:ao:=.cons (.asg 6 (.prim .mod #[.prim .idx #[.var 4,.lit (.int 2)],.prim .len #[.var 5]])) vG
def vI:ao:=.cons (.asg 5 (.call 14 #[.prim .idx #[.var 4,.lit (.int 0)],.prim .add #[.lit (.int 1),.prim .mod #[.prim .idx #[.var 4,.lit (.int 1)],.lit (.int 12)]]] [])) vH
def mV:ao:=.cons (.asg 4 (.call 12 #[.var 0,.lit (.int 26)] [])) vI
def vJ:ao:=.cons (.asg 3 (.prim .add #[.var 3,.prim .bA #[.lit (.str (tx "is")),.lit (.str (tx "tell"))]])) mV
def vK:ao:=.cons (.asg 3 (.prim .bA #[.lit (.str (tx "nota")),.lit (.str (tx "no")),.lit (.str (tx "ot")),.lit (.str (tx "an")),.lit (.str (tx "nd")),.lit (.str (tx "ands")),.lit (.str (tx "o")),.lit (.str (tx "r")),.lit (.str (tx "orr")),.lit (.str (tx "alway")),.lit (.str (tx "wher")),.lit (.str (tx "usual")),.lit (.str (tx "notnot")),.lit (.str (tx "ask"))])) vJ
def vM:ao:=.cons (.asg 2 (.lit (.str (tx "abcdefghijklmnopqrstuvwxyz")))) vK
noncomputable abbrev RT:ao:=vM
def Dc:ao:=.cons (.ret (.var 8)) .nil
def Dd:ao:=.cons (.asg 8 (.prim .add #[.prim .add #[.var 8,.var 9],.prim .wK #[.lit (.str (tx ")")),.prim .idx #[.var 4,.var 5]]])) .nil
def Df:ao:=.cons (.asg 8 (.prim .add #[.var 8,.prim .wK #[.lit (.str (tx "not ")),.prim .fdiv #[.prim .mod #[.prim .idx #[.var 0,.prim .add #[.lit (.int 20),.var 5]],.lit (.int 8)],.lit (.int 6)]]])) Dd
def Dg:ao:=.cons (.asg 9 (.prim .idx #[.var 1,.prim .mod #[.prim .idx #[.var 0,.prim .add #[.lit (.int 26),.var 5]],.prim .len #[.var 1]]])) Df
def Dh:ao:=.cons (.asg 8 (.prim .add #[.var 8,.prim .wK #[.lit (.str (tx "(")),.prim .idx #[.var 3,.var 5]]])) Dg
def Di:ao:=.cons (.asg 8 (.prim .add #[.var 8,.prim .wK #[.lit (.str (tx "not ")),.prim .fdiv #[.prim .mod #[.prim .idx #[.var 0,.prim .add #[.lit (.int 14),.var 5]],.lit (.int 8)],.lit (.int 6)]]])) Dh
def Dj:ao:=.cons (.asg 8 (.prim .add #[.var 8,.prim .idx #[.prim .bA #[.lit (.str (tx " and ")),.lit (.str (tx " or "))],.prim .mod #[.prim .idx #[.var 0,.prim .add #[.lit (.int 8),.var 5]],.lit (.int 2)]]])) .nil
def Dk:ao:=.cons (.bI (.aR (.prim .gt #[.var 5,.lit (.int 0)])) Dj .nil) Di
def Dl:ao:=.cons (.d9 [5] .rng #[.var 2] Dk) Dc
def yP:ao:=.cons (.asg 8 (.lit (.str (tx "")))) Dl
def yQ:ao:=.cons (.fB (.var 4) (.var 7) (.prim .add #[.prim .idx #[.var 4,.var 7],.lit (.int 1)])) .nil
def yR:ao:=.cons (.fB (.var 3) (.var 6) (.prim .add #[.prim .idx #[.var 3,.var 6],.lit (.int 1)])) yQ
def yS:ao:=.cons (.asg 7 (.prim .add #[.var 6,.prim .mod #[.prim .idx #[.var 0,.prim .add #[.lit (.int 5),.var 5]],.prim .sub #[.var 2,.var 6]]])) yR
def yU:ao:=.cons (.asg 6 (.prim .mod #[.prim .idx #[.var 0,.prim .add #[.lit (.int 2),.var 5]],.var 2])) yS
def yV:ao:=.cons (.d9 [5] .rng #[.prim .mod #[.prim .idx #[.var 0,.lit (.int 1)],.lit (.int 4)]] yU) yP
def yW:ao:=.cons (.asg 4 (.prim .mul #[.prim .bA #[.lit (.int 0)],.var 2])) yV
def yX:ao:=.cons (.asg 3 (.prim .mul #[.prim .bA #[.lit (.int 0)],.var 2])) yW
def yZ:ao:=.cons (.asg 2 (.prim .add #[.lit (.int 1),.prim .mod #[.prim .idx #[.var 0,.lit (.int 0)],.lit (.int 6)]])) yX
noncomputable abbrev Vu:ao:=yZ
def sW:ao:=.cons (.ret (.var 0)) .nil
def sX:ao:=.cons (.asg 0 (.prim .add #[.prim .add #[.prim .Mp #[.var 0,.var 5],.var 6],.var 7])) .nil
def sY:ao:=.cons (.asg 7 (.prim .uQ #[.var 0,.prim .add #[.var 5,.prim .mod #[.prim .idx #[.var 1,.prim .add #[.lit (.int 40),.var 4]],.lit (.int 2)]]])) sX
def sZ:ao:=.cons (.asg 6 (.prim .idx #[.var 3,.prim .mod #[.prim .idx #[.var 1,.prim .add #[.lit (.int 46),.var 4]],.lit (.int 94)]])) .nil
def tB:ao:=.cons (.bI (.aR (.prim .eq #[.prim .mod #[.prim .idx #[.var 1,.prim .add #[.lit (.int 48),.var 4]],.lit (.int 3)],.lit (.int 0)])) sZ .nil) sY
def tD:ao:=.cons (.asg 6 (.prim .idx #[.prim .bA #[.prim .idx #[.var 2,.prim .mod #[.prim .idx #[.var 1,.prim .add #[.lit (.int 36),.var 4]],.lit (.int 12)]],.lit (.str (tx ""))],.prim .mod #[.prim .idx #[.var 1,.prim .add #[.lit (.int 38),.var 4]],.lit (.int 2)]])) tB
def tE:ao:=.cons (.asg 5 (.prim .mod #[.prim .idx #[.var 1,.prim .add #[.lit (.int 34),.var 4]],.prim .add #[.prim .len #[.var 0],.lit (.int 1)]])) tD
def tG:ao:=.cons (.d9 [4] .rng #[.prim .mul #[.prim .fdiv #[.prim .mod #[.prim .idx #[.var 1,.lit (.int 32)],.lit (.int 4)],.lit (.int 2)],.prim .add #[.lit (.int 1),.prim .mod #[.prim .idx #[.var 1,.lit (.int 33)],.lit (.int 2)]]]] tE) sW
def tH:ao:=.cons (.asg 3 (.prim .add #[.var 3,.lit (.str (tx "abcdefghijklmnopqrstuvwxyz{|}~"))])) tG
def qP:ao:=.cons (.asg 3 (.lit (.str [32,33,34,35,36,38,39,40,41,42,43,44,45,46,47,48,49,50,51,52,53,54,55,56,57,58,59,60,61,62,63,64,65,66,67,68,69,70,71,72,73,74,75,76,77,78,79,80,81,82,83,84,85,86,87,88,89,90,91,92,93,94,95,96]))) tH
def qQ:ao:=.cons (.asg 2 (.prim .bA #[.lit (.str (tx "(")),.lit (.str (tx ")")),.lit (.str (tx " ")),.lit (.str (tx "not ")),.lit (.str (tx " and ")),.lit (.str (tx " or ")),.lit (.str (tx "a")),.lit (.str (tx "N")),.lit (.str (tx "0")),.lit (.str [10]),.lit (.str (tx " usually ")),.lit (.str (tx "nota"))])) qP
noncomputable abbrev NK:ao:=qQ
def mW:ao:=.cons (.ret (.var 1)) .nil
def gQ:ao:=.cons (.expr (.cQ .list .append (.var 1) #[.var 2])) .nil
def vN:ao:=.cons (.fB (.var 1) (.prim .neg #[.lit (.int 1)]) (.prim .add #[.prim .idx #[.var 1,.prim .neg #[.lit (.int 1)]],.var 2])) .nil
def vP:ao:=.cons (.bI (.or (.aR (.prim .GX #[.var 2,.lit (.str (tx "() "))])) (.or (.aR (.prim .eq #[.prim .len #[.var 1],.lit (.int 0)])) (.aR (.prim .GQ #[.prim .idx #[.var 1,.prim .neg #[.lit (.int 1)]],.prim .dj #[.lit (.str (tx "(")),.lit (.str (tx ")")),.lit (.str (tx " "))]])))) gQ vN) .nil
def vQ:ao:=.cons (.d9 [2] .chr #[.var 0] vP) mW
def vR:ao:=.cons (.asg 1 (.prim .bA .nil)) vQ
noncomputable abbrev QW:ao:=vR
def vU:ao:=.cons (.ret (.lit (.bl true))) .nil
def vV:ao:=.cons (.ret (.lit (.bl false))) .nil
def mX:ao:=.cons (.bI (.and (.aR (.prim .eq #[.prim .idx #[.var 0,.var 2],.lit (.str (tx "not"))])) (.aR (.prim .ne #[.var 4,.lit (.str (tx " "))]))) vV .nil) .nil
def mY:ao:=.cons (.ret (.lit (.bl false))) .nil
def mZ:ao:=.cons (.bI (.and (.aR (.prim .GQ #[.prim .idx #[.var 0,.var 2],.prim .dj #[.lit (.str (tx "and")),.lit (.str (tx "or"))]])) (.or (.aR (.prim .ne #[.var 3,.lit (.str (tx " "))])) (.aR (.prim .ne #[.var 4,.lit (.str (tx " "))])))) mY .nil) mX
def vW:ao:=.cons (.ret (.lit (.bl false))) .nil
def vX:ao:=.cons (.bI (.and (.aR (.prim .lE #[.var 3,.prim .dj #[.lit (.str (tx "not")),.lit (.str (tx "and")),.lit (.str (tx "or"))]])) (.aR (.prim .lE #[.var 4,.prim .dj #[.lit (.str (tx "and")),.lit (.str (tx "or"))]]))) vW .nil) .nil
def m5:ao:=.cons (.ret (.lit (.bl false))) .nil
def vY:ao:=.cons (.bI (.or (.aR (.prim .eq #[.var 3,.lit (.str (tx " "))])) (.aR (.prim .eq #[.var 4,.lit (.str (tx " "))]))) m5 .nil) vX
def lQ:ao:=.cons (.bI (.aR (.prim .eq #[.prim .idx #[.var 0,.var 2],.lit (.str (tx " "))])) vY .nil) mZ
def tK:ao:=.cons (.asg 4 (.prim .idx #[.var 1,.prim .add #[.var 2,.lit (.int 2)]])) lQ
def tL:ao:=.cons (.asg 3 (.prim .idx #[.var 1,.var 2])) tK
def tM:ao:=.cons (.d9 [2] .rng #[.prim .len #[.var 0]] tL) vU
def tO:ao:=.cons (.asg 1 (.prim .add #[.prim .add #[.prim .bA #[.lit (.str (tx " "))],.var 0],.prim .bA #[.lit (.str (tx " "))]])) tM
noncomputable abbrev QX:ao:=tO
def Dm:ao:=.cons (.ret (.var 5)) .nil
def Dn:ao:=.cons (.asg 5 (.prim .dj #[.lit (.str (tx "or")),.var 5,.var 6])) .nil
def Dp:ao:=.cons (.d9 [6] .val #[.prim .uQ #[.var 4,.lit (.int 1)]] Dn) Dm
def Dq:ao:=.cons (.asg 5 (.prim .idx #[.var 4,.lit (.int 0)])) Dp
def Dr:ao:=.cons (.expr (.cQ .list .append (.var 4) #[.prim .dj #[.lit (.str (tx "and")),.cQ .list .pop (.var 4) .nil,.prim .idx #[.var 0,.prim .add #[.var 3,.lit (.int 1)]]]])) .nil
def Ds:ao:=.cons (.expr (.cQ .list .append (.var 4) #[.prim .idx #[.var 0,.prim .add #[.var 3,.lit (.int 1)]]])) .nil
def qR:ao:=.cons (.bI (.aR (.prim .eq #[.prim .idx #[.var 0,.var 3],.lit (.str (tx "and"))])) Dr Ds) .nil
def Dt:ao:=.cons (.d9 [3] .rng #[.lit (.int 1),.prim .len #[.var 0],.lit (.int 2)] qR) Dq
def qT:ao:=.cons (.asg 4 (.prim .bA #[.prim .idx #[.var 0,.lit (.int 0)]])) Dt
def za:ao:=.cons (.ret (.lit .non)) .nil
def zc:ao:=.cons (.bI (.aR (.prim .eq #[.prim .mod #[.prim .len #[.var 0],.lit (.int 2)],.lit (.int 0)])) za .nil) qT
def zf:ao:=.cons (.ret (.lit .non)) .nil
def zj:ao:=.cons (.bI (.aR (.prim .ne #[.prim (.fV .str) #[.prim .idx #[.var 0,.var 3]],.prim .eq #[.prim .mod #[.var 3,.lit (.int 2)],.lit (.int 1)]])) zf .nil) .nil
def oU:ao:=.cons (.d9 [3] .rng #[.prim .len #[.var 0]] zj) zc
def zm:ao:=.cons (.asg 0 (.prim .HJ #[.var 1])) oU
def zp:ao:=.cons (.expr (.cQ .list .append (.var 1) #[.prim .dj #[.lit (.str (tx "not")),.cQ .list .pop (.var 1) .nil]])) .nil
def jR:ao:=.cons (.ret (.lit .non)) .nil
def oV:ao:=.cons (.bI (.or (.aR (.prim .eq #[.prim .len #[.var 1],.lit (.int 0)])) (.aR (.prim (.fV .str) #[.prim .idx #[.var 1,.prim .neg #[.lit (.int 1)]]]))) jR .nil) zp
def zq:ao:=.cons (.expr (.cQ .list .append (.var 1) #[.var 2])) .nil
def jT:ao:=.cons (.bI (.aR (.prim .eq #[.var 2,.lit (.str (tx "not"))])) oV zq) .nil
def zx:ao:=.cons (.d9 [2] .rev #[.var 0] jT) zm
def zy:ao:=.cons (.asg 1 (.prim .bA .nil)) zx
noncomputable abbrev Vv:ao:=zy
def Du:ao:=.cons (.ret (.prim .le #[.prim .len #[.var 0],.lit (.int 12)])) .nil
def Dv:ao:=.cons (.ret (.lit (.bl false))) .nil
def Dw:ao:=.cons (.bI (.aR (.prim .KJ #[.var 1,.lit (.str (tx "abcdefghijklmnopqrstuvwxyz"))])) Dv .nil) .nil
def Dy:ao:=.cons (.d9 [1] .chr #[.var 0] Dw) Du
def Dz:ao:=.cons (.ret (.lit (.bl false))) .nil
def DG:ao:=.cons (.bI (.aR (.prim .GQ #[.var 0,.prim .dj #[.lit (.str (tx "always")),.lit (.str (tx "where")),.lit (.str (tx "usually"))]])) Dz .nil) Dy
noncomputable abbrev Vw:ao:=DG
def DK:ao:=.cons (.ret (.var 4)) .nil
def qU:ao:=.cons (.ret (.prim .bA #[.lit (.int 2)])) .nil
def qW:ao:=.cons (.bI (.or (.aR (.prim .rZ #[.var 4])) (.aR (.prim .gt #[.prim .len #[.var 2],.lit (.int 0)]))) qU .nil) DK
def DN:ao:=.cons (.asg 4 (.call 20 #[.cQ .list .pop (.var 2) .nil] [])) qW
def DP:ao:=.cons (.expr (.cQ .list .append (.var 2) #[.prim .bA .nil])) .nil
def DQ:ao:=.cons (.expr (.cQ .list .append (.prim .idx #[.var 2,.prim .neg #[.lit (.int 1)]]) #[.var 4])) .nil
def qX:ao:=.cons (.ret (.prim .bA #[.lit (.int 2)])) .nil
def qY:ao:=.cons (.bI (.or (.aR (.prim .rZ #[.var 4])) (.aR (.prim .eq #[.prim .len #[.var 2],.lit (.int 0)]))) qX .nil) DQ
def DR:ao:=.cons (.asg 4 (.call 20 #[.cQ .list .pop (.var 2) .nil] [])) qY
def jU:ao:=.cons (.expr (.cQ .list .append (.prim .idx #[.var 2,.prim .neg #[.lit (.int 1)]]) #[.var 3])) .nil
def zA:ao:=.cons (.expr (.cQ .list .append (.prim .idx #[.var 2,.prim .neg #[.lit (.int 1)]]) #[.prim .dj #[.lit (.str (tx "is")),.var 3]])) .nil
def zB:ao:=.cons (.ret (.prim .bA #[.lit (.int 2)])) .nil
def zE:ao:=.cons (.bI (.not (.aR (.call 21 #[.var 3] []))) zB .nil) zA
def zF:ao:=.cons (.bI (.aR (.prim .ne #[.var 3,.lit (.str (tx " "))])) zE .nil) .nil
def iB:ao:=.cons (.bI (.aR (.prim .GQ #[.var 3,.prim .dj #[.lit (.str (tx "not")),.lit (.str (tx "and")),.lit (.str (tx "or"))]])) jU zF) .nil
def fC:ao:=.cons (.bI (.aR (.prim .eq #[.var 3,.lit (.str (tx ")"))])) DR iB) .nil
def d7:ao:=.cons (.bI (.aR (.prim .eq #[.var 3,.lit (.str (tx "("))])) DP fC) .nil
def zG:ao:=.cons (.d9 [3] .val #[.var 1] d7) DN
def zH:ao:=.cons (.asg 2 (.prim .bA #[.prim .bA .nil])) zG
def zJ:ao:=.cons (.ret (.prim .bA #[.lit (.int 2)])) .nil
def zK:ao:=.cons (.bI (.not (.aR (.call 19 #[.var 1] []))) zJ .nil) zH
def zL:ao:=.cons (.ret (.prim .bA #[.lit (.int 1)])) .nil
def oW:ao:=.cons (.bI (.aR (.prim .gt #[.prim .len #[.var 0],.lit (.int 120)])) zL .nil) zK
def zM:ao:=.cons (.asg 1 (.call 18 #[.var 0] [])) oW
noncomputable abbrev Vx:ao:=zM
def DW:ao:=.cons (.ret (.lit (.bl true))) .nil
def QZ:ao:=.cons (.ret (.lit (.bl false))) .nil
def DX:ao:=.cons (.bI (.not (.aR (.call 23 #[.prim .idx #[.var 0,.var 2],.prim .idx #[.var 1,.var 2]] []))) QZ .nil) .nil
def DY:ao:=.cons (.d9 [2] .rng #[.prim .len #[.var 1]] DX) DW
def Q0:ao:=.cons (.ret (.lit (.bl false))) .nil
def D_:ao:=.cons (.bI (.or (.not (.aR (.prim (.fV .tuple) #[.var 0]))) (.aR (.prim .ne #[.prim .len #[.var 0],.prim .len #[.var 1]]))) Q0 .nil) DY
def Ea:ao:=.cons (.ret (.HW (.prim (.fV .str) #[.var 0]) (.prim .eq #[.var 0,.var 1]))) .nil
def qZ:ao:=.cons (.bI (.aR (.prim (.fV .str) #[.var 1])) Ea .nil) D_
noncomputable abbrev Vy:ao:=qZ
def Eb:ao:=.cons (.ret (.var 4)) .nil
def Ec:ao:=.cons (.ret (.prim .add #[.prim .add #[.lit (.str (tx "(")),.var 4],.lit (.str (tx ")"))])) .nil
def q9:ao:=.cons (.bI (.aR (.prim .lt #[.var 2,.var 1])) Ec .nil) Eb
def q_:ao:=.cons (.asg 4 (.prim .add #[.prim .add #[.call 24 #[.prim .idx #[.var 0,.lit (.int 1)],.var 2] [],.var 3],.call 24 #[.prim .idx #[.var 0,.lit (.int 2)],.prim .add #[.var 2,.lit (.int 1)]] []])) q9
def Ed:ao:=.cons (.asg 3 (.lit (.str (tx " and ")))) .nil
def Ef:ao:=.cons (.asg 2 (.lit (.int 2))) Ed
def rA:ao:=.cons (.bI (.aR (.prim .eq #[.prim .idx #[.var 0,.lit (.int 0)],.lit (.str (tx "and"))])) Ef .nil) q_
def rB:ao:=.cons (.asg 3 (.lit (.str (tx " or ")))) rA
def rC:ao:=.cons (.asg 2 (.lit (.int 1))) rB
def zN:ao:=.cons (.ret (.prim .add #[.lit (.str (tx "not ")),.call 24 #[.prim .idx #[.var 0,.lit (.int 1)],.lit (.int 3)] []])) .nil
def jV:ao:=.cons (.bI (.aR (.prim .eq #[.prim .idx #[.var 0,.lit (.int 0)],.lit (.str (tx "not"))])) zN .nil) rC
def zO:ao:=.cons (.ret (.prim .idx #[.var 0,.lit (.int 1)])) .nil
def iC:ao:=.cons (.bI (.aR (.prim .eq #[.prim .idx #[.var 0,.lit (.int 0)],.lit (.str (tx "is"))])) zO .nil) jV
noncomputable abbrev Vz:ao:=iC
def Eh:ao:=.cons (.ret (.cQ .str .join (.lit (.str (tx " "))) #[.var 7])) .nil
def Ei:ao:=.cons (.ret (.cQ .str .join (.lit (.str (tx " "))) #[.prim .add #[.prim .add #[.prim .Mp #[.var 7,.var 8],.var 9],.prim .uQ #[.var 7,.prim .add #[.var 8,.prim .mod #[.prim .idx #[.var 2,.lit (.int 59)],.lit (.int 2)]]]]])) .nil
def Ej:ao:=.cons (.asg 9 (.prim .idx #[.prim .bA #[.prim .bA #[.prim .idx #[.var 9,.prim .mod #[.prim .idx #[.var 2,.lit (.int 57)],.lit (.int 8)]]],.prim .bA .nil],.prim .mod #[.prim .idx #[.var 2,.lit (.int 58)],.lit (.int 2)]])) Ei
def Ek:ao:=.cons (.asg 9 (.prim .bA #[.lit (.str (tx "always")),.lit (.str (tx "where")),.lit (.str (tx "usually")),.lit (.str (tx "usually")),.lit (.str (tx "not")),.lit (.str (tx "")),.prim .idx #[.var 1,.lit (.int 0)],.lit (.str (tx "and"))])) Ej
def El:ao:=.cons (.asg 8 (.prim .mod #[.prim .idx #[.var 2,.lit (.int 56)],.prim .add #[.prim .len #[.var 7],.lit (.int 1)]])) Ek
def rE:ao:=.cons (.bI (.aR (.prim .gt #[.prim .mod #[.prim .idx #[.var 2,.lit (.int 52)],.lit (.int 5)],.lit (.int 2)])) El .nil) Eh
def Eo:ao:=.cons (.asg 7 (.prim .add #[.prim .add #[.prim .add #[.prim .bA #[.lit (.str (tx "where"))],.cQ .str .split (.prim .idx #[.var 4,.lit (.int 0)]) #[.lit (.str (tx " "))]],.prim .bA #[.lit (.str (tx "usually"))]],.cQ .str .split (.prim .idx #[.var 4,.lit (.int 1)]) #[.lit (.str (tx " "))]])) .nil
def Ep:ao:=.cons (.bI (.aR (.prim .gt #[.prim .mod #[.prim .idx #[.var 2,.lit (.int 54)],.lit (.int 3)],.lit (.int 0)])) Eo .nil) rE
def rF:ao:=.cons (.asg 7 (.prim .add #[.prim .bA #[.lit (.str (tx "always"))],.cQ .str .split (.prim .idx #[.var 4,.lit (.int 0)]) #[.lit (.str (tx " "))]])) Ep
def zP:ao:=.cons (.fB (.var 4) (.var 6) (.prim .add #[.prim .add #[.prim .wK #[.lit (.str (tx "(")),.var 5],.prim .idx #[.var 4,.var 6]],.prim .wK #[.lit (.str (tx ")")),.var 5]])) .nil
def zQ:ao:=.cons (.asg 6 (.prim .mod #[.prim .idx #[.var 2,.lit (.int 53)],.lit (.int 2)])) zP
def zR:ao:=.cons (.asg 5 (.prim .mod #[.prim .idx #[.var 2,.lit (.int 55)],.lit (.int 70)])) zQ
def oX:ao:=.cons (.bI (.aR (.prim .eq #[.prim .mod #[.prim .idx #[.var 2,.lit (.int 52)],.lit (.int 10)],.lit (.int 1)])) zR .nil) rF
def zT:ao:=.cons (.fB (.var 4) (.prim .mod #[.prim .idx #[.var 2,.lit (.int 53)],.lit (.int 2)]) (.call 17 #[.prim .idx #[.var 4,.prim .mod #[.prim .idx #[.var 2,.lit (.int 53)],.lit (.int 2)]],.var 2] [])) .nil
def jW:ao:=.cons (.bI (.aR (.prim .eq #[.prim .mod #[.prim .idx #[.var 2,.lit (.int 52)],.lit (.int 5)],.lit (.int 0)])) zT .nil) oX
def zU:ao:=.cons (.fB (.var 4) (.prim .sub #[.lit (.int 1),.prim .mod #[.prim .idx #[.var 2,.lit (.int 53)],.lit (.int 2)]]) (.call 17 #[.prim .idx #[.var 4,.prim .sub #[.lit (.int 1),.prim .mod #[.prim .idx #[.var 2,.lit (.int 53)],.lit (.int 2)]]],.prim .HJ #[.var 2]] [])) .nil
def oY:ao:=.cons (.bI (.and (.aR (.prim .lt #[.prim .mod #[.prim .idx #[.var 2,.lit (.int 52)],.lit (.int 5)],.lit (.int 2)])) (.aR (.prim .eq #[.prim .mod #[.prim .fdiv #[.prim .idx #[.var 2,.lit (.int 53)],.lit (.int 2)],.lit (.int 3)],.lit (.int 0)]))) zU .nil) jW
def zV:ao:=.cons (.expr (.cQ .list .append (.var 4) #[.call 16 #[.call 12 #[.prim .add #[.prim .fdiv #[.var 0,.lit (.int 3)],.lit (.int 5)],.lit (.int 50)] [],.var 1] []])) oY
def zW:ao:=.cons (.asg 4 (.prim .bA #[.call 16 #[.var 2,.var 1] []])) zV
def zX:ao:=.cons (.ret (.prim .idx #[.var 3,.prim .mod #[.prim .idx #[.var 2,.lit (.int 51)],.lit (.int 10)]])) .nil
def zY:ao:=.cons (.bI (.aR (.prim .eq #[.prim .mod #[.prim .idx #[.var 2,.lit (.int 50)],.lit (.int 12)],.lit (.int 0)])) zX .nil) zW
def zZ:ao:=.cons (.asg 3 (.prim .add #[.var 3,.prim .bA #[.lit (.str (tx "where ( usually")),.lit (.str (tx "where usually a b"))]])) zY
def z6:ao:=.cons (.asg 3 (.prim .bA #[.lit (.str (tx "")),.lit (.str (tx "always")),.lit (.str (tx "where")),.lit (.str (tx "always ")),.lit (.str [97,10,98]),.lit (.str [97,108,119,97,121,115,32,97,10,98]),.lit (.str (tx "usually a")),.lit (.str [119,104,101,114,101,32,97,10,98,32,117,115,117,97,108,108,121,32,99])])) zZ
def z7:ao:=.cons (.asg 2 (.call 12 #[.var 0,.lit (.int 60)] [])) z6
noncomputable abbrev VD:ao:=z7
def Hq:ao:=.cons (.ret (.prim .dj #[.lit (.str (tx "usually")),.var 2,.var 3])) .nil
def Hr:ao:=.cons (.ret (.var 3)) .nil
def uL:ao:=.cons (.bI (.aR (.prim (.fV .list) #[.var 3])) Hr .nil) Hq
def Hs:ao:=.cons (.asg 3 (.call 22 #[.var 1] [])) uL
def Ht:ao:=.cons (.ret (.var 2)) .nil
def uM:ao:=.cons (.bI (.aR (.prim (.fV .list) #[.var 2])) Ht .nil) Hs
def Hu:ao:=.cons (.asg 2 (.call 22 #[.var 0] [])) uM
noncomputable abbrev XR:ao:=Hu
def uN:ao:=.cons (.ret (.call 26 #[.cQ .str .join (.lit (.str (tx " "))) #[.slc (.var 1) (.lit (.int 1)) (.prim .idx #[.var 3,.lit (.int 0)])],.cQ .str .join (.lit (.str (tx " "))) #[.prim .uQ #[.var 1,.prim .add #[.prim .idx #[.var 3,.lit (.int 0)],.lit (.int 1)]]]] [])) .nil
def uO:ao:=.cons (.ret (.prim .bA #[.lit (.int 0)])) .nil
def Hv:ao:=.cons (.bI (.or (.aR (.prim .ne #[.prim .idx #[.var 1,.lit (.int 0)],.lit (.str (tx "where"))])) (.or (.aR (.prim .ne #[.prim .len #[.var 3],.lit (.int 1)])) (.or (.aR (.prim .eq #[.prim .idx #[.var 3,.lit (.int 0)],.lit (.int 1)])) (.aR (.prim .eq #[.prim .idx #[.var 3,.lit (.int 0)],.prim .sub #[.prim .len #[.var 1],.lit (.int 1)]]))))) uO .nil) uN
def Hw:ao:=.cons (.asg 3 (.comp .rng #[.lit (.int 1),.prim .len #[.var 1]] 1 (.one (.aR (.prim .eq #[.prim .idx #[.var 1,.var 4],.lit (.str (tx "usually"))]))) (.var 4))) Hv
def Hx:ao:=.cons (.ret (.prim .dj #[.lit (.str (tx "always")),.var 2])) .nil
def Hy:ao:=.cons (.ret (.var 2)) .nil
def uP:ao:=.cons (.bI (.aR (.prim (.fV .list) #[.var 2])) Hy .nil) Hx
def Hz:ao:=.cons (.asg 2 (.call 22 #[.prim .uQ #[.var 0,.lit (.int 7)]] [])) uP
def HB:ao:=.cons (.bI (.aR (.prim .eq #[.prim .idx #[.var 1,.lit (.int 0)],.lit (.str (tx "always"))])) Hz .nil) Hw
def rG:ao:=.cons (.ret (.prim .bA #[.lit (.int 0)])) .nil
def Es:ao:=.cons (.bI (.or (.aR (.prim .gt #[.cQ .str .Jl (.var 0) #[.lit (.str [10])],.lit (.int 0)])) (.aR (.prim .lt #[.prim .len #[.var 1],.lit (.int 2)]))) rG .nil) HB
def Et:ao:=.cons (.asg 1 (.cQ .str .split (.var 0) #[.lit (.str (tx " "))])) Es
noncomputable abbrev XS:ao:=Et
def iG:ao:=.cons (.ret (.prim .dj #[.var 3,.var 4,.var 5])) .nil
def z8:ao:=.cons (.asg 4 (.prim (.Uy rcs) #[.var 6])) .nil
def z9:ao:=.cons (.asg 3 (.prim .add #[.var 3,.prim .bA #[.prim (.GR Cp Cq) #[.var 6],.prim (.GR uG uH) #[.var 6]]])) z8
def jX:ao:=.cons (.asg 3 (.prim .bA #[.prim (.GR Cr Cu) #[.var 6],.prim (.GR uJ uK) #[.var 6],.prim (.GR mK mL) #[.var 6]])) z9
def z_:ao:=.cons (.Pj 5 (.ite (.aR (.prim .eq #[.var 1,.lit (.int 0)])) (.call 9 #[.var 0] [(.int 0)]) (.ite (.aR (.prim .eq #[.var 1,.lit (.int 1)])) (.call 9 #[.var 0,.var 2] []) (.call 9 #[.var 0,.var 2] []))) [(tx "NoRow"),(tx "TooLong"),(tx "NoSentence")] 6 jX) iG
def Aa:ao:=.cons (.asg 5 (.lit .non)) z_
def Ab:ao:=.cons (.asg 4 (.lit (.int 0))) Aa
def Ac:ao:=.cons (.asg 3 (.prim .bA .nil)) Ab
noncomputable abbrev RV:ao:=Ac
def Ad:ao:=.cons (.ret (.prim .add #[.prim .add #[.prim .add #[.lit (.str (tx "where ")),.call 24 #[.prim .idx #[.var 0,.lit (.int 1)],.lit (.int 1)] []],.lit (.str (tx " usually "))],.call 24 #[.prim .idx #[.var 0,.lit (.int 2)],.lit (.int 1)] []])) .nil
def Ae:ao:=.cons (.ret (.prim .add #[.lit (.str (tx "always ")),.call 24 #[.prim .idx #[.var 0,.lit (.int 1)],.lit (.int 1)] []])) .nil
def oZ:ao:=.cons (.bI (.aR (.prim .eq #[.prim .idx #[.var 0,.lit (.int 0)],.lit (.str (tx "always"))])) Ae .nil) Ad
noncomputable abbrev RW:ao:=oZ
def Af:ao:=.cons (.ret (.HW (.prim (.fV .int) #[.var 5]) (.prim .eq #[.var 5,.var 2]))) .nil
def NP:ao:=.cons (.ret (.lit (.bl false))) .nil
def o7:ao:=.cons (.bI (.or (.aR (.prim .ne #[.var 4,.comp .rng #[.lit (.int 5)] 1 .none (.prim .eq #[.var 8,.prim .idx #[.var 3,.lit (.int 0)]])])) (.aR (.prim (.fV .bool) #[.var 5]))) NP .nil) Af
def Ag:ao:=.cons (.asg 2 (.lit (.int 0))) .nil
def Ah:ao:=.cons (.bI (.aR (.prim .eq #[.var 1,.lit (.int 0)])) Ag .nil) o7
def Ai:ao:=.cons (.ret (.call 23 #[.call 9 #[.var 7] [(.int 0)],.var 3] [])) .nil
def NQ:ao:=.cons (.ret (.lit (.bl false))) .nil
def Aj:ao:=.cons (.bI (.or (.not (.aR (.prim (.fV .str) #[.var 7]))) (.aR (.prim .ne #[.var 7,.call 29 #[.var 3] []]))) NQ .nil) Ai
def Ak:ao:=.cons (.asg 7 (.call 11 #[.var 3] [])) Aj
def Lk:ao:=.cons (.ret (.lit (.bl false))) .nil
def vZ:ao:=.cons (.bI (.or (.aR (.prim .ne #[.var 4,.prim .bA .nil])) (.not (.aR (.call 23 #[.var 6,.var 3] [])))) Lk .nil) Ak
def m6:ao:=.cons (.bI (.aR (.prim (.fV .tuple) #[.var 3])) vZ .nil) Ah
def m7:ao:=.cons (.Wk [4,5,6] (.call 28 #[.var 0,.var 1,.var 2] [])) m6
def v7:ao:=.cons (.asg 3 (.call 27 #[.var 0] [])) m7
noncomputable abbrev RX:ao:=v7
def Tp:ao:=.cons (.ret (.lit (.bl true))) .nil
def ada:ao:=.cons (.ret (.lit (.bl false))) .nil
def Tq:ao:=.cons (.bI (.not (.aR (.call 30 #[.call 25 #[.var 2,.var 1] [],.prim .mod #[.prim .idx #[.var 3,.lit (.int 2)],.lit (.int 3)],.var 4] []))) ada .nil) .nil
def Tr:ao:=.cons (.asg 4 (.prim .idx #[.prim .bA #[.prim .mod #[.prim .idx #[.var 3,.lit (.int 0)],.lit (.int 20)],.prim .mod #[.var 2,.prim .pow #[.lit (.int 10),.lit (.int 40)]]],.prim .mod #[.prim .idx #[.var 3,.lit (.int 1)],.lit (.int 2)]])) Tq
def Ln:ao:=.cons (.asg 3 (.call 12 #[.prim .add #[.prim .mod #[.var 2,.prim .pow #[.lit (.int 10),.lit (.int 60)]],.lit (.int 3)],.lit (.int 3)] [])) Tr
def Tt:ao:=.cons (.d9 [2] .val #[.prim .add #[.slc (.var 0) (.lit (.int 1)) (.lit (.int 26)),.prim .bA #[.prim .len #[.var 0]]]] Ln) Tp
def Tv:ao:=.cons (.asg 1 (.call 15 #[.call 13 #[.var 0,.lit (.int 0)] [],.lit (.int 6)] [])) Tt
noncomputable abbrev ajG:ao:=Tv
end
def P:List Def:=[⟨2,4,JW⟩,⟨1,4,RM⟩,⟨2,4,Vr⟩,⟨2,2,Vs⟩,⟨1,1,XM⟩,⟨1,5,Lj⟩,⟨3,3,ac8⟩,⟨1,1,I_⟩,⟨2,7,QT⟩,⟨2,4,Vt⟩,⟨1,4,Ja⟩,⟨1,3,RN⟩,⟨2,5,RP⟩,⟨2,2,Nz⟩,⟨2,5,RQ⟩,⟨2,11,RT⟩,⟨2,10,Vu⟩,⟨2,8,NK⟩,⟨1,3,QW⟩,⟨1,5,QX⟩,⟨1,7,Vv⟩,⟨1,2,Vw⟩,⟨1,5,Vx⟩,⟨2,3,Vy⟩,⟨2,5,Vz⟩,⟨2,10,VD⟩,⟨2,4,XR⟩,⟨1,4,XS⟩,⟨3,7,RV⟩,⟨1,1,RW⟩,⟨3,8,RX⟩,⟨1,5,ajG⟩]
end gj
namespace gj
open Z
seal aL bB cR lG wpS bw au
noncomputable abbrev sb:Nat->Nat->Bool:=λ_ _=>false
section
variable {d:Nat}{h:AH}{Q:PV}{E:PX}
def lv:Sn->Nat
 | .is _=>1
 | .nt a=>lv a+1
 | .an a b=>max (lv a) (lv b)+1
 | .or a b=>max (lv a) (lv b)+1
def br (t l:Nat)(s:S):S:=if l<=t then s else tx "("++s++tx ")"
def sh:Sn->Nat->S
 | .is n,l=>br 3 l n
 | .nt a,l=>br 2 l (tx "not "++sh a 2)
 | .an a b,l=>br 1 l (sh a 1++tx " and "++sh b 2)
 | .or a b,l=>br 0 l (sh a 0++tx " or "++sh b 1)
def eN:S:=tx "abcdefghijklmnopqrstuvwxyz"
def KW:List S:=[tx "always",tx "where",tx "usually",tx "not",tx "and",tx "or"]
structure GN (n:S):Prop where
 lo:1<=n.length
 hi:n.length<=12
 le:∀c∈n,c∈eN
 kw:n∉KW
theorem dw:tx "("=[40]:=by decide
theorem dN:tx ")"=[41]:=by decide
theorem fM:tx " and "=[32,97,110,100,32]:=by decide
theorem fO:tx " or "=[32,111,114,32]:=by decide
theorem fP:tx "not "=[110,111,116,32]:=by decide
theorem JX:tx "not"=[110,111,116]:=by decide
theorem Q5:eN=[97,98,99,100,101,102,103,104,105,106,107,108,109,110,111,112,113,114,115,116,117,118,119,120,121,122]:=by decide
theorem gU (hc:c∈eN):97<=c/\c<=122:=(show ∀c∈eN,97<=c/\c<=122 by decide) c hc
theorem JZ:(br t l s).length<=s.length+2:=by
 unfold br;split
 ·lia
 ·simp only[length_append,dw,dN,length_cons,length_nil];lia
theorem eO:∀{s:Sn} {l:Nat},(∀n∈nm s,GN n)->(sh s l).length<=20 * sz s
 | .is n,l,g=>by
  have:=(g n (by simp[nm])).hi;have:=JZ (t:=3) (l:=l) (s:=n);simp only[sh,sz];lia
 | .nt a,l,g=>by
  have:=eO (s:=a) (l:=2) g;have:=JZ (t:=2) (l:=l) (s:=tx "not "++sh a 2);simp only[length_append,fP,length_cons,length_nil]at this;simp only[sh,sz,fP];lia
 | .an a b,l,g=>by
  have:=eO (s:=a) (l:=1) (λn h=>g n (by simp[nm,h]));have:=eO (s:=b) (l:=2) (λn h=>g n (by simp[nm,h]));have:=JZ (t:=1) (l:=l) (s:=sh a 1++tx " and "++sh b 2);simp only[length_append,fM,length_cons,length_nil]at this;simp only[sh,sz,fM];lia
 | .or a b,l,g=>by
  have:=eO (s:=a) (l:=0) (λn h=>g n (by simp[nm,h]));have:=eO (s:=b) (l:=1) (λn h=>g n (by simp[nm,h]));have:=JZ (t:=0) (l:=l) (s:=sh a 0++tx " or "++sh b 1);simp only[length_append,fO,length_cons,length_nil]at this;simp only[sh,sz,fO];lia
def bp (t l:Nat)(ps:List S):List S:=if l<=t then ps else tx "("::(ps++[tx ")"])
def pc:Sn->Nat->List S
 | .is n,l=>bp 3 l [n]
 | .nt a,l=>bp 2 l (tx "not "::pc a 2)
 | .an a b,l=>bp 1 l (pc a 1++tx " and "::pc b 2)
 | .or a b,l=>bp 0 l (pc a 0++tx " or "::pc b 1)
theorem Ol:(bp t l ps).flatten=br t l ps.flatten:=by
 unfold bp br;split
 ·rfl
 ·simp
theorem Gj:∀{s:Sn} {l:Nat},(pc s l).flatten=sh s l
 | .is n,l=>by simp only[pc,sh,Ol];simp
 | .nt a,l=>by simp only[pc,sh,Ol,flatten_cons,Gj (s:=a)]
 | .an a b,l=>by simp only[pc,sh,Ol,List.flatten_append,flatten_cons,Gj (s:=a),Gj (s:=b),append_assoc]
 | .or a b,l=>by simp only[pc,sh,Ol,List.flatten_append,flatten_cons,Gj (s:=a),Gj (s:=b),append_assoc]
def NL (r:S):Prop:=∀c,r.head?=some c->c∉eN
def PS:List S:=[tx "(",tx ")",tx " and ",tx " or ",tx "not "]
inductive PG:List S->Prop
 | nil:PG []
 | pc {q:S} {qs:List S}:q∈PS->PG qs->PG (q::qs)
 | nm {n:S} {qs:List S}:GN n->NL qs.flatten->PG qs->PG (n::qs)
theorem X3:NL []:=λc e=>by cases e
theorem Lp (h:c < 97):NL (c::r):=λd e hd=>by
 cases e;have:=gU hd
 lia
theorem Om (k:∀qs,PG qs->NL qs.flatten->PG (ps++qs))(g:PG qs)(n:NL qs.flatten):PG (bp t l ps++qs):=by
 unfold bp;split
 ·exact k qs g n
 ·rw[cons_append,append_assoc];refine .pc (by simp[PS]) (k _ (.pc (by simp[PS]) g) ?_);rw[dN];exact Lp (by lia)
theorem Gk:∀{s:Sn} {l:Nat},(∀n∈nm s,GN n)->∀qs,PG qs->NL qs.flatten->PG (pc s l++qs)
 | .is n,l,g,qs,a,b=>by
  refine Om (λqs a b=>?_) a b;exact .nm (g n (by simp[nm])) b a
 | .nt x,l,g,qs,a,b=>by
  refine Om (λqs a b=>?_) a b;exact .pc (by simp[PS]) (Gk (s:=x) g qs a b)
 | .an x y,l,g,qs,a,b=>by
  refine Om (λqs a b=>?_) a b;rw[append_assoc];refine Gk (s:=x) (λn h=>g n (by simp[nm,h])) _ (.pc (by simp[PS]) (Gk (s:=y) (λn h=>g n (by simp[nm,h])) qs a b)) ?_;rw[cons_append,flatten_cons,fM];exact Lp (by lia)
 | .or x y,l,g,qs,a,b=>by
  refine Om (λqs a b=>?_) a b;rw[append_assoc];refine Gk (s:=x) (λn h=>g n (by simp[nm,h])) _ (.pc (by simp[PS]) (Gk (s:=y) (λn h=>g n (by simp[nm,h])) qs a b)) ?_;rw[cons_append,flatten_cons,fO];exact Lp (by lia)
theorem abp (g:PG (q::qs)):q≠[]:=by
 cases g with
 | pc h _=>
  rintro rfl;simp[PS,dw,dN,fM,fO,fP]at h
 | nm h _ _=>
  rintro rfl;have:=h.lo;simp at this
theorem aaq (g:GN n)(hr:NL r)(hp:p∈PS):p.isPrefixOf (n++r)=false:=by
 obtain ⟨c,n',rfl⟩:∃c n',n=c::n':=by
  cases n with
  | nil=>have:=g.lo;simp at this
  | cons c n'=>exact ⟨c,n',rfl⟩
 have hc:=gU (g.le c (by simp));have c1:(40 == c)=false:=by simp;lia
 have c2:(41 == c)=false:=by simp;lia
 have c3:(32 == c)=false:=by simp;lia
 simp only[PS,mem_cons,not_mem_nil,or_false]at hp;rcases hp with rfl | rfl | rfl | rfl | rfl
 ·simp only[dw,cons_append,isPrefixOf,c1,Bool.false_and]
 ·simp only[dN,cons_append,isPrefixOf,c2,Bool.false_and]
 ·simp only[fM,cons_append,isPrefixOf,c3,Bool.false_and]
 ·simp only[fO,cons_append,isPrefixOf,c3,Bool.false_and]
 ·rw[eq_false_iff];intro e;rw[isPrefixOf_iff_prefix]at e;obtain ⟨t,e⟩:=e;rw[fP]at e
  -- n is a part of "not"
  have nol:∀{x:Nat} {r':S},r=x::r'->x∈eN->False:=λe1 hx=>hr _ (by rw[e1];rfl) hx;have i1:(111:Nat)∈eN:=by rw[Q5];decide
  have i2:(116:Nat)∈eN:=by rw[Q5];decide
  have kw:=g.kw;have le:=g.le;rcases n' with _ | ⟨c2,_ | ⟨c3,_ | ⟨c4,n'⟩⟩⟩
  ·simp only[cons_append,nil_append,List.cons.injEq]at e;exact nol e.2.symm i1
  ·simp only[cons_append,nil_append,List.cons.injEq]at e;exact nol e.2.2.symm i2
  ·simp only[cons_append,nil_append,List.cons.injEq]at e;obtain ⟨rfl,rfl,rfl,e⟩:=e;exact kw (by simp[KW,JX])
  ·simp only[cons_append,nil_append,List.cons.injEq]at e;obtain ⟨_,_,_,e4,_⟩:=e;have:=gU (le c4 (by simp))
   lia
theorem agA (hp:p∈PS)(hq:q∈PS):p.isPrefixOf (q++r)=decide (p=q):=by
 simp only[PS,dw,dN,fM,fO,fP,mem_cons,not_mem_nil,or_false]at hp hq;rcases hp with rfl | rfl | rfl | rfl | rfl<;>rcases hq with rfl | rfl | rfl | rfl | rfl<;>simp[isPrefixOf]
inductive Fr where
 | op | nt | an (a:Sn) | or (a:Sn)
def kn:Fr->S
 | .op=>tx "("
 | .nt=>tx "not"
 | .an _=>tx "and"
 | .or _=>tx "or"
def fD:Fr->D
 | .op=>.tup [.str (tx "(")]
 | .nt=>.tup [.str (tx "not")]
 | .an a=>.tup [.str (tx "and"),sd a]
 | .or a=>.tup [.str (tx "or"),sd a]
def fw:Fr->Sn->Sn
 | .op,w=>w
 | .nt,w=>.nt w
 | .an a,w=>.an a w
 | .or a,w=>.or a w
def cW (l:Nat):Fr->Bool
 | .op=>false
 | .nt=>decide (l<=2)
 | .an _=>decide (l<=1)
 | .or _=>decide (l<=0)
theorem rH (h:l<=m):∀{f:Fr},cW m f=true->cW l f=true
 | .op,e=>by cases e
 | .nt,e=>by simp only[cW,decide_eq_true_eq]at e ⊢;lia
 | .an _,e=>by simp only[cW,decide_eq_true_eq]at e ⊢;lia
 | .or _,e=>by simp only[cW,decide_eq_true_eq]at e ⊢;lia
def bh (l:Nat):List Fr->Sn->List Fr×Sn
 | [],w=>([],w)
 | f::B,w=>if cW l f=true then bh l B (fw f w) else (f::B,w)
def fld:List Fr->Sn->Sn
 | [],w=>w
 | f::B,w=>fld B (fw f w)
theorem Gm:∀{A B:List Fr} {w:Sn},fld (A++B) w=fld B (fld A w)
 | [],B,w=>rfl
 | f::A,B,w=>Gm (A:=A)
theorem v8 (hB:∀f,B.head?=some f->cW l f=false):∀{A:List Fr} {w:Sn},(∀f∈A,cW l f=true)->bh l (A++B) w=(B,fld A w)
 | [],w,_=>by
  cases B with
  | nil=>rfl
  | cons f B=>
   show (if cW l f=true then _ else _)=_;rw[hB f rfl,if_neg (by decide)];rfl
 | f::A,w,hA=>by
  show (if cW l f=true then bh l (A++B) (fw f w) else _)=_;rw[if_pos (hA f (by simp)),v8 hB (A:=A) λg hg=>hA g (by simp[hg])];rfl
theorem Nq:∀{s:S},s.head?≠some c->lstrip c s=s
 | [],_=>rfl
 | x::xs,h=>by
  unfold lstrip;rw[if_neg (λe=>h (by rw[e];rfl))]
theorem aar (h:c∉s):Z.strip c s=s:=by
 unfold Z.strip;have h1:s.head?≠some c:=λe=>h (List.mem_of_mem_head? (by rw[e];rfl));have h2:s.reverse.head?≠some c:=λe=>h (List.mem_reverse.mp (List.mem_of_mem_head? (by rw[e];rfl)));rw[Nq h1,Nq h2,List.reverse_reverse]
def tk (q:S):S:=Z.strip 32 q
theorem Oo:tk (tx "(")=tx "(":=by decide
theorem Oq:tk (tx ")")=tx ")":=by decide
theorem Ot:tk (tx " and ")=tx "and":=by decide
theorem Ou:tk (tx " or ")=tx "or":=by decide
theorem Ov:tk (tx "not ")=tx "not":=by decide
theorem Ow {n:S}(g:GN n):tk n=n:=aar λh=>by have:=gU (g.le _ h);lia
inductive It where
 | nt | an | or | tr (t:Sn)
def Al:Nat->Sn->Sn
 | 0,t=>t
 | k+1,t=>Al k (.nt t)
def jo:Option Sn->Sn->Sn
 | none,w=>w
 | some a,w=>.or a w
def ja:Option Sn->Sn->Sn
 | none,w=>w
 | some a,w=>.an a w
def stI:List Fr×Option Sn->It->Option (List Fr×Option Sn)
 | (B,none),.nt=>some (.nt::B,none)
 | (B,none),.tr t=>some (B,some t)
 | (B,some w),.an=>some (.an (bh 1 B w).2::(bh 1 B w).1,none)
 | (B,some w),.or=>some (.or (bh 0 B w).2::(bh 0 B w).1,none)
 | _,_=>none
def rI:List Fr×Option Sn->List It->Option (List Fr×Option Sn)
 | s,[]=>some s
 | s,x::r=>(stI s x).bind λs'=>rI s' r
def fin:List Fr×Option Sn->Option Sn
 | (B,some w)=>some (bh 0 B w).2
 | (_,none)=>none
theorem J0:∀{xs ys:List It} {s:List Fr×Option Sn},rI s (xs++ys)=(rI s xs).bind λs'=>rI s' ys
 | [],ys,s=>rfl
 | x::xs,ys,s=>by
  show (stI s x).bind _=((stI s x).bind _).bind _;cases stI s x with
  | none=>rfl
  | some s'=>exact J0 (xs:=xs)
def res:Option Sn->Option Sn->Nat ⊕ Sn->List It->Option Sn
 | _,_,.inl _,[]=>none
 | acc,bQ,.inl k,.nt::r=>res acc bQ (.inl (k+1)) r
 | acc,bQ,.inl k,.tr t::r=>res acc bQ (.inr (Al k t)) r
 | _,_,.inl _,_::_=>none
 | acc,bQ,.inr w,[]=>some (jo acc (ja bQ w))
 | acc,bQ,.inr w,.an::r=>res acc (some (ja bQ w)) (.inl 0) r
 | acc,bQ,.inr w,.or::r=>res (some (jo acc (ja bQ w))) none (.inl 0) r
 | _,_,.inr _,_::_=>none
def G (acc bQ:Option Sn)(k:Nat):List Fr:=replicate k .nt++(bQ.toList.map .an++acc.toList.map .or)
theorem anr:Fr.nt::G acc bQ k=G acc bQ (k+1):=by
 simp[G,replicate_succ]
theorem Jb (hl:l<=2):∀{k:Nat} {w:Sn},bh l (replicate k .nt++B) w=bh l B (Al k w)
 | 0,w=>rfl
 | k+1,w=>by
  rw[replicate_succ,cons_append];show (if cW l .nt=true then _ else _)=_;rw[if_pos (by simp[cW];lia)];exact Jb hl (k:=k)
theorem agB:bh 1 (G acc bQ k) w=(acc.toList.map .or,ja bQ (Al k w)):=by
 unfold G;rw[Jb (by lia)];cases bQ with
 | none=>cases acc<;>rfl
 | some a=>cases acc<;>rfl
theorem X4:bh 0 (G acc bQ k) w=([],jo acc (ja bQ (Al k w))):=by
 unfold G;rw[Jb (by lia)];cases bQ with
 | none=>cases acc<;>rfl
 | some a=>cases acc<;>rfl
theorem v9:∀{its:List It} {acc bQ:Option Sn} {k:Nat},((rI (G acc bQ k,none) its).bind fin=res acc bQ (.inl k) its)/\∀w,(rI (G acc bQ k,some w) its).bind fin=res acc bQ (.inr (Al k w)) its
 | [],acc,bQ,k=>by
  refine ⟨rfl,λw=>?_⟩;show some (bh 0 (G acc bQ k) w).2=_;rw[X4];rfl
 | .nt::r,acc,bQ,k=>by
  refine ⟨?_,λw=>rfl⟩;show (rI (Fr.nt::G acc bQ k,none) r).bind fin=_;rw[anr];exact (v9 (its:=r)).1
 | .tr t::r,acc,bQ,k=>⟨(v9 (its:=r)).2 t,λw=>rfl⟩
 | .an::r,acc,bQ,k=>by
  refine ⟨rfl,λw=>?_⟩;show (rI (.an (bh 1 (G acc bQ k) w).2::(bh 1 (G acc bQ k) w).1,none) r).bind fin=_;rw[agB];exact (v9 (its:=r) (acc:=acc) (bQ:=some (ja bQ (Al k w))) (k:=0)).1
 | .or::r,acc,bQ,k=>by
  refine ⟨rfl,λw=>?_⟩;show (rI (.or (bh 0 (G acc bQ k) w).2::(bh 0 (G acc bQ k) w).1,none) r).bind fin=_;rw[X4];exact (v9 (its:=r) (acc:=some (jo acc (ja bQ (Al k w)))) (bQ:=none) (k:=0)).1
def NF:List It->Option (List It)
 | []=>some []
 | .nt::r=>match NF r with
  | some (.tr t::r')=>some (.tr (.nt t)::r')
  | _=>none
 | x::r=>(NF r).map (x::·)
def fW:List It->Option (Sn×List (Bool×Sn))
 | [.tr t]=>some (t,[])
 | .tr t::.an::r=>(fW r).map λp=>(t,(true,p.1)::p.2)
 | .tr t::.or::r=>(fW r).map λp=>(t,(false,p.1)::p.2)
 | _=>none
def comb:Option Sn->Option Sn->Sn->List (Bool×Sn)->Sn
 | acc,bQ,w,[]=>jo acc (ja bQ w)
 | acc,bQ,w,(true,t)::l=>comb acc (some (ja bQ w)) t l
 | acc,bQ,w,(false,t)::l=>comb (some (jo acc (ja bQ w))) none t l
def FL (its:List It):Option Sn:=(NF its).bind λb=>(fW b).map λp=>comb none none p.1 p.2
def alT (acc bQ:Option Sn)(w:Sn):List It->Option Sn
 | []=>some (comb acc bQ w [])
 | .an::r=>(fW r).map λp=>comb acc bQ w ((true,p.1)::p.2)
 | .or::r=>(fW r).map λp=>comb acc bQ w ((false,p.1)::p.2)
 | _=>none
theorem agD:∀{r:List It} {w:Sn},((fW (.tr t::r)).map λp=>comb acc bQ (w) p.2)=alT acc bQ w r
 | [],w=>rfl
 | .an::r,w=>by
  show ((fW r).map _).map _=(fW r).map _;rw[Option.map_map];rfl
 | .or::r,w=>by
  show ((fW r).map _).map _=(fW r).map _;rw[Option.map_map];rfl
 | .nt::r,w=>rfl
 | .tr _::r,w=>rfl
theorem adb:∀{r:List It} {p:Sn×List (Bool×Sn)},fW (.tr t::r)=some p->p.1=t
 | [],p,e=>by cases e;rfl
 | .an::r,p,e=>by
  change (fW r).map _=some p at e;obtain ⟨q,_,rfl⟩:=map_eq_some_iff.mp e;rfl
 | .or::r,p,e=>by
  change (fW r).map _=some p at e;obtain ⟨q,_,rfl⟩:=map_eq_some_iff.mp e;rfl
 | .nt::r,p,e=>by cases e
 | .tr _::r,p,e=>by cases e
theorem VF:((fW (.tr t::r)).map λp=>comb acc bQ (Al k p.1) p.2)=alT acc bQ (Al k t) r:=by
 rw[<-agD (t:=t)];cases e:fW (.tr t::r) with
 | none=>rfl
 | some p=>rw[map_some,map_some,adb e]
theorem ade:∀{b:List It},(∀t r,b≠.tr t::r)->fW b=none
 | [],_=>rfl
 | .nt::_,_=>rfl
 | .an::_,_=>rfl
 | .or::_,_=>rfl
 | .tr t::r,h=>absurd rfl (h t r)
theorem Eu:∀{its:List It} {acc bQ:Option Sn},(∀k,res acc bQ (.inl k) its=(NF its).bind λb=>(fW b).map λp=>comb acc bQ (Al k p.1) p.2)/\∀w,res acc bQ (.inr w) its=(NF its).bind λb=>alT acc bQ w b
 | [],acc,bQ=>⟨λk=>rfl,λw=>rfl⟩
 | .nt::r,acc,bQ=>by
  refine ⟨λk=>?_,λw=>?_⟩
  ·show res acc bQ (.inl (k+1)) r=_;rw[(Eu (its:=r)).1 (k+1)];cases e:NF r with
   | none=>simp only[NF,e];rfl
   | some b=>
    by_cases hb:∃t r',b=.tr t::r'
    ·obtain ⟨t,r',rfl⟩:=hb;simp only[NF,e,bind_some];rw[VF,VF];rfl
    ·have hb':∀t r,b≠.tr t::r:=λt r z=>hb ⟨t,r,z⟩;have en:NF (.nt::r)=none:=by
      simp only[NF,e];split
      ·rename_i t r' z;exact absurd (Option.some.inj z) (hb' t r')
      ·rfl
     rw[en,bind_some,ade hb'];rfl
  ·show none=_;cases e:NF r with
   | none=>simp only[NF,e];rfl
   | some b=>
    by_cases hb:∃t r',b=.tr t::r'
    ·obtain ⟨t,r',rfl⟩:=hb;simp only[NF,e,bind_some];rfl
    ·have hb':∀t r,b≠.tr t::r:=λt r z=>hb ⟨t,r,z⟩;have en:NF (.nt::r)=none:=by
      simp only[NF,e];split
      ·rename_i t r' z;exact absurd (Option.some.inj z) (hb' t r')
      ·rfl
     rw[en];rfl
 | .tr t::r,acc,bQ=>by
  refine ⟨λk=>?_,λw=>?_⟩
  ·show res acc bQ (.inr (Al k t)) r=((NF r).map _).bind _;rw[(Eu (its:=r)).2];cases NF r with
   | none=>rfl
   | some b=>simp only[map_some,bind_some];rw[VF]
  ·show none=((NF r).map _).bind _;cases NF r with
   | none=>rfl
   | some b=>rfl
 | .an::r,acc,bQ=>by
  refine ⟨λk=>?_,λw=>?_⟩
  ·show none=((NF r).map _).bind _;cases NF r with
   | none=>rfl
   | some b=>rfl
  ·show res acc (some (ja bQ w)) (.inl 0) r=((NF r).map _).bind _;rw[(Eu (its:=r)).1 0];cases NF r with
   | none=>rfl
   | some b=>rfl
 | .or::r,acc,bQ=>by
  refine ⟨λk=>?_,λw=>?_⟩
  ·show none=((NF r).map _).bind _;cases NF r with
   | none=>rfl
   | some b=>rfl
  ·show res (some (jo acc (ja bQ w))) none (.inl 0) r=((NF r).map _).bind _;rw[(Eu (its:=r)).1 0];cases NF r with
   | none=>rfl
   | some b=>rfl
theorem Ox:FL its=(rI ([],none) its).bind fin:=by
 have h1:=(v9 (its:=its) (acc:=none) (bQ:=none) (k:=0)).1;have h2:=(Eu (its:=its) (acc:=none) (bQ:=none)).1 0;exact (h1.trans h2).symm
inductive Tk where
 | op | cl | nt | an | or | nm (s:S)
def stP:List Fr×Option Sn->Tk->Option (List Fr×Option Sn)
 | (B,none),.op=>some (.op::B,none)
 | (B,none),.nt=>some (.nt::B,none)
 | (B,none),.nm s=>some (B,some (.is s))
 | (B,some w),.an=>some (.an (bh 1 B w).2::(bh 1 B w).1,none)
 | (B,some w),.or=>some (.or (bh 0 B w).2::(bh 0 B w).1,none)
 | (B,some w),.cl=>match (bh 0 B w).1 with
  | []=>none
  | _::B'=>some (B',some (bh 0 B w).2)
 | _,_=>none
def rP:List Fr×Option Sn->List Tk->Option (List Fr×Option Sn)
 | s,[]=>some s
 | s,x::r=>(stP s x).bind λs'=>rP s' r
def h_:List Fr×Option Sn->Option Sn
 | (B,some w)=>if (bh 0 B w).1.isEmpty then some (bh 0 B w).2 else none
 | (_,none)=>none
def stL:List (List It)->Tk->Option (List (List It))
 | c::r,.op=>some ([]::c::r)
 | c::r,.nt=>some ((c++[.nt])::r)
 | c::r,.an=>some ((c++[.an])::r)
 | c::r,.or=>some ((c++[.or])::r)
 | c::r,.nm s=>some ((c++[.tr (.is s)])::r)
 | c::r,.cl=>(FL c).bind λt=>match r with
  | []=>none
  | c1::r'=>some ((c1++[.tr t])::r')
 | [],_=>none
def rL:List (List It)->List Tk->Option (List (List It))
 | s,[]=>some s
 | s,x::r=>(stL s x).bind λs'=>rL s' r
def Q6:List (List It)->Option Sn
 | c::r=>(FL c).bind λt=>if r.isEmpty then some t else none
 | []=>none
def Ew (F:List Fr):Prop:=∀f∈F,cW 0 f=true
theorem Ey:∀{F:List Fr} {w:Sn},Ew F->Ew (bh l F w).1
 | [],w,h=>h
 | f::F,w,h=>by
  show Ew (if cW l f=true then _ else _:List Fr×Sn).1;split
  ·exact Ey λg hg=>h g (by simp[hg])
  ·exact h
theorem Jc (h:Ew B)(e:stI (B,w) x=some (B',w')):Ew B':=by
 cases w with
 | none=>
  cases x<;>simp only[stI,Option.some.injEq,Prod.mk.injEq,reduceCtorEq]at e
  ·obtain ⟨rfl,_⟩:=e;intro f hf;rcases mem_cons.mp hf with rfl | hf
   ·rfl
   ·exact h f hf
  ·obtain ⟨rfl,_⟩:=e;exact h
 | some w=>
  cases x<;>simp only[stI,Option.some.injEq,Prod.mk.injEq,reduceCtorEq]at e
  ·obtain ⟨rfl,_⟩:=e;intro f hf;rcases mem_cons.mp hf with rfl | hf
   ·rfl
   ·exact Ey h f hf
  ·obtain ⟨rfl,_⟩:=e;intro f hf;rcases mem_cons.mp hf with rfl | hf
   ·rfl
   ·exact Ey h f hf
inductive X5:List (List It)->List Fr->Prop
 | nil:X5 [] []
 | cons {c:List It} {r:List (List It)} {F B:List Fr}:rI ([],none) c=some (F,none)->Ew F->X5 r B->X5 (c::r) (.op::(F++B))
structure Rl (s:List (List It))(B:List Fr)(w:Option Sn):Prop where
 ex:∃c r F B',s=c::r/\B=F++B'/\rI ([],none) c=some (F,w)/\Ew F/\X5 r B'
theorem xE (h:X5 r B):∀f,B.head?=some f->cW 0 f=false:=by
 intro f e;cases h with
 | nil=>cases e
 | cons _ _ _=>cases e;rfl
theorem rJ (hB:∀f,B.head?=some f->cW l f=false):∀{F:List Fr} {w:Sn},bh l (F++B) w=((bh l F w).1++B,(bh l F w).2)
 | [],w=>by
  cases B with
  | nil=>rfl
  | cons f B=>
   show (if cW l f=true then _ else _)=_;rw[hB f rfl,if_neg (by decide)];rfl
 | f::F,w=>by
  show (if cW l f=true then bh l (F++B) (fw f w) else _)=((if cW l f=true then _ else _:List Fr×Sn).1++B,(if cW l f=true then _ else _:List Fr×Sn).2);split
  ·exact rJ hB
  ·rfl
theorem Jd:∀{F:List Fr} {w:Sn},Ew F->(bh 0 F w).1=[]
 | [],w,_=>rfl
 | f::F,w,h=>by
  show (if cW 0 f=true then _ else _:List Fr×Sn).1=_;rw[if_pos (h f (by simp))];exact Jd λg hg=>h g (by simp[hg])
def Dead:List (List It)->Prop
 | []=>True
 | c::r=>rI ([],none) c=none\/∃c'∈r,∀F,rI ([],none) c'≠some (F,none)
theorem xF (h:Dead (c::r))(hn:rI ([],none) c=none->rI ([],none) c'=none):Dead (c'::r):=h.elim (λh=>.inl (hn h)) .inr
theorem lR (h:rI ([],none) c=none):rI ([],none) (c++[x])=none:=by rw[J0,h];rfl
theorem eU:∀{ts:List Tk} {s:List (List It)},Dead s->(rL s ts).bind Q6=none
 | [],[],_=>rfl
 | [],c::r,h=>by
  show (FL c).bind _=none;rw[Ox];rcases h with h | ⟨c',hc',_⟩
  ·rw[h];rfl
  ·cases (rI ([],none) c).bind fin with
   | none=>rfl
   | some t=>
    show (if r.isEmpty=true then _ else _)=none;rw[if_neg];intro z;rw[List.isEmpty_iff]at z;subst z;cases hc'
 | t::ts,[],_=>by cases t<;>rfl
 | .op::ts,c::r,h=>by
  refine eU (ts:=ts) (s:=[]::c::r) (.inr ?_);rcases h with h | ⟨c',hc',k⟩
  ·exact ⟨c,by simp,λF e=>by rw[h]at e;cases e⟩
  ·exact ⟨c',by simp[hc'],k⟩
 | .nt::ts,c::r,h=>eU (ts:=ts) (xF h lR)
 | .an::ts,c::r,h=>eU (ts:=ts) (xF h lR)
 | .or::ts,c::r,h=>eU (ts:=ts) (xF h lR)
 | .nm s::ts,c::r,h=>eU (ts:=ts) (xF h lR)
 | .cl::ts,c::r,h=>by
  show (((FL c).bind _).bind _).bind _=none;cases ef:FL c with
  | none=>rfl
  | some t=>
   cases r with
   | nil=>rfl
   | cons c1 r=>
    refine eU (ts:=ts) (s:=(c1++[.tr t])::r) ?_;rcases h with h | ⟨c',hc',k⟩
    ·rw[Ox,h]at ef;cases ef
    ·rcases mem_cons.mp hc' with rfl | hc'
     ·refine .inl ?_;rw[J0];cases e:rI ([],none) c' with
      | none=>rfl
      | some s=>
       obtain ⟨F,w⟩:=s;cases w with
       | none=>exact absurd e (k F)
       | some w=>rfl
     ·exact .inr ⟨c',hc',k⟩
theorem wg (h:rI ([],none) c=some (F,w)):rI ([],none) (c++[x])=stI (F,w) x:=by
 rw[J0,h];show (stI (F,w) x).bind _=_;cases stI (F,w) x<;>rfl
theorem run_eq:∀{ts:List Tk} {s:List (List It)} {B:List Fr} {w:Option Sn},Rl s B w->(rL s ts).bind Q6=(rP (B,w) ts).bind h_
 | [],s,B,w,⟨c,r,F,B',e1,e2,e3,e4,e5⟩=>by
  subst e1 e2;show (FL c).bind _=h_ (F++B',w);rw[Ox,e3];cases w with
  | none=>rfl
  | some w=>
   show (if r.isEmpty=true then some (bh 0 F w).2 else none)=(if _ then _ else _);rw[rJ (xE e5),Jd e4];cases e5 with
   | nil=>rfl
   | cons _ _ _=>rfl
 | .op::ts,s,B,w,⟨c,r,F,B',e1,e2,e3,e4,e5⟩=>by
  subst e1 e2;cases w with
  | none=>exact run_eq (ts:=ts) (s:=[]::c::r) ⟨[],c::r,[],.op::(F++B'),rfl,rfl,rfl,λf h=>(by cases h),.cons e3 e4 e5⟩
  | some w=>
   refine (eU (ts:=ts) (s:=[]::c::r) (.inr ⟨c,by simp,λF' e=>?_⟩)).trans rfl;rw[e3]at e;cases e
 | .nt::ts,s,B,w,⟨c,r,F,B',e1,e2,e3,e4,e5⟩=>by
  subst e1 e2;have e6:=wg (x:=.nt) e3;cases w with
  | none=>exact run_eq (ts:=ts) (s:=(c++[.nt])::r) ⟨_,r,.nt::F,B',rfl,rfl,e6,Jc (w:=none) (x:=.nt) e4 rfl,e5⟩
  | some w=>exact (eU (ts:=ts) (s:=(c++[.nt])::r) (.inl e6)).trans rfl
 | .nm n::ts,s,B,w,⟨c,r,F,B',e1,e2,e3,e4,e5⟩=>by
  subst e1 e2;have e6:=wg (x:=.tr (.is n)) e3;cases w with
  | none=>exact run_eq (ts:=ts) (s:=(c++[.tr (.is n)])::r) ⟨_,r,F,B',rfl,rfl,e6,e4,e5⟩
  | some w=>exact (eU (ts:=ts) (s:=(c++[.tr (.is n)])::r) (.inl e6)).trans rfl
 | .an::ts,s,B,w,⟨c,r,F,B',e1,e2,e3,e4,e5⟩=>by
  subst e1 e2;have e6:=wg (x:=.an) e3;cases w with
  | none=>exact (eU (ts:=ts) (s:=(c++[.an])::r) (.inl e6)).trans rfl
  | some w=>
   have hb:∀f,B'.head?=some f->cW 1 f=false:=λf e=>by
    cases q:cW 1 f with
    | false=>rfl
    | true=>have:=rH (l:=0) (by lia) q;rw[xE e5 f e]at this;cases this
   show _=(rP (.an (bh 1 (F++B') w).2::(bh 1 (F++B') w).1,none) ts).bind h_;rw[rJ hb];exact run_eq (ts:=ts) (s:=(c++[.an])::r) ⟨_,r,.an (bh 1 F w).2::(bh 1 F w).1,B',rfl,rfl,e6,Jc (w:=some w) (x:=.an) e4 rfl,e5⟩
 | .or::ts,s,B,w,⟨c,r,F,B',e1,e2,e3,e4,e5⟩=>by
  subst e1 e2;have e6:=wg (x:=.or) e3;cases w with
  | none=>exact (eU (ts:=ts) (s:=(c++[.or])::r) (.inl e6)).trans rfl
  | some w=>
   show _=(rP (.or (bh 0 (F++B') w).2::(bh 0 (F++B') w).1,none) ts).bind h_;rw[rJ (xE e5)];exact run_eq (ts:=ts) (s:=(c++[.or])::r) ⟨_,r,.or (bh 0 F w).2::(bh 0 F w).1,B',rfl,rfl,e6,Jc (w:=some w) (x:=.or) e4 rfl,e5⟩
 | .cl::ts,s,B,w,⟨c,r,F,B',e1,e2,e3,e4,e5⟩=>by
  subst e1 e2;show (((FL c).bind _).bind _).bind _=_;rw[Ox,e3];cases w with
  | none=>rfl
  | some w=>
   show ((match r with | []=>none | c1::r'=>some ((c1++[It.tr (bh 0 F w).2])::r')).bind _).bind _=((match (bh 0 (F++B') w).1 with | []=>none | _::B1=>some (B1,some (bh 0 (F++B') w).2)).bind _).bind _;rw[rJ (xE e5),Jd e4];cases e5 with
   | nil=>rfl
   | @cons c1 r' F1 B1 e7 e8 e9=>
    exact run_eq (ts:=ts) (s:=(c1++[.tr (bh 0 F w).2])::r') ⟨_,r',F1,B1,rfl,rfl,wg e7,e8,e9⟩
theorem Q7:(rL [[]] ts).bind Q6=(rP ([],none) ts).bind h_:=run_eq ⟨[],[],[],[],rfl,rfl,rfl,λf h=>(by cases h),.nil⟩
def alt:Bool->List Tk->Bool
 | e,[]=>!e
 | true,.op::r=>alt true r
 | true,.nt::r=>alt true r
 | true,.nm _::r=>alt false r
 | false,.cl::r=>alt false r
 | false,.an::r=>alt true r
 | false,.or::r=>alt true r
 | _,_::_=>false
theorem lB:∀{ts:List Tk} {B:List Fr} {w:Option Sn} {t:Sn},(rP (B,w) ts).bind h_=some t->alt w.isNone ts=true
 | [],B,none,t,e=>by cases e
 | [],B,some w,t,e=>rfl
 | .op::ts,B,none,t,e=>lB (ts:=ts) (w:=none) e
 | .nt::ts,B,none,t,e=>lB (ts:=ts) (w:=none) e
 | .nm n::ts,B,none,t,e=>lB (ts:=ts) (w:=some (.is n)) e
 | .an::ts,B,none,t,e=>by cases e
 | .or::ts,B,none,t,e=>by cases e
 | .cl::ts,B,none,t,e=>by cases e
 | .an::ts,B,some w,t,e=>lB (ts:=ts) (w:=none) e
 | .or::ts,B,some w,t,e=>lB (ts:=ts) (w:=none) e
 | .op::ts,B,some w,t,e=>by cases e
 | .nt::ts,B,some w,t,e=>by cases e
 | .nm n::ts,B,some w,t,e=>by cases e
 | .cl::ts,B,some w,t,e=>by
  change ((match (bh 0 B w).1 with | []=>none | _::B'=>some (B',some (bh 0 B w).2)).bind _).bind _=_ at e;cases q:(bh 0 B w).1 with
  | nil=>rw[q]at e;cases e
  | cons f B'=>rw[q]at e;exact lB (ts:=ts) (w:=some _) e
def HD (n:S):Bool:=decide (1<=n.length) && (decide (n.length<=12) && !KW.contains n)
def lw (r:S):S:=r.takeWhile λc=>eN.contains c
def pa (r:S):Option S:=match PS.find? λp=>p.isPrefixOf r with
 | some p=>some p
 | none=>if HD (lw r)=true then some (lw r) else none
inductive TP:S->Option (List S)->Prop
 | nil:TP [] (some [])
 | bad {r:S}:r≠[]->pa r=none->TP r none
 | cons {r q:S} {o:Option (List S)}:r≠[]->pa r=some q->TP (r.drop q.length) o->TP r (o.map (q::·))
theorem aas {p r:S}(h:p.isPrefixOf r=true):r=p++r.drop p.length:=by
 rw[isPrefixOf_iff_prefix]at h;obtain ⟨t,rfl⟩:=h;rw[drop_left]
theorem xG:r=lw r++r.drop (lw r).length/\NL (r.drop (lw r).length)/\∀c∈lw r,c∈eN:=by
 induction r with
 | nil=>exact ⟨rfl,X3,λc h=>by cases h⟩
 | cons c r ih=>
  by_cases hc:eN.contains c=true
  ·have e:lw (c::r)=c::lw r:=by unfold lw;rw[List.takeWhile_cons_of_pos hc]
   rw[e];refine ⟨?_,ih.2.1,λd hd=>?_⟩
   ·show c::r=c::(lw r++r.drop (lw r).length);rw[<-ih.1]
   ·rcases mem_cons.mp hd with rfl | hd
    ·exact contains_iff_mem.mp hc
    ·exact ih.2.2 d hd
  ·have e:lw (c::r)=[]:=by unfold lw;rw[List.takeWhile_cons_of_neg hc]
   rw[e];refine ⟨rfl,λd hd hm=>hc ?_,λd hd=>by cases hd⟩;cases hd;exact contains_iff_mem.mpr hm
theorem ajH (h:HD n=true)(l:∀c∈n,c∈eN):GN n:=by
 simp only[HD,and_eq_true,decide_eq_true_eq,not_eq_true']at h;refine ⟨h.1,h.2.1,l,λk=>?_⟩;rw[contains_iff_mem.mpr k]at h;cases h.2.2
theorem qe {r q:S}(h:pa r=some q):r=q++r.drop q.length/\(q∈PS\/(GN q/\NL (r.drop q.length))):=by
 unfold pa at h;cases e:PS.find? λp=>p.isPrefixOf r with
 | some p=>
  rw[e]at h;cases h;exact ⟨aas (List.find?_some (p:=λp:S=>p.isPrefixOf r) e),.inl (List.mem_of_find?_eq_some e)⟩
 | none=>
  rw[e]at h;by_cases hg:HD (lw r)=true
  ·simp only[if_pos hg,Option.some.injEq]at h;subst h;exact ⟨xG.1,.inr ⟨ajH hg xG.2.2,xG.2.1⟩⟩
  ·simp only[if_neg hg]at h;cases h
theorem VG (h:pa r=some q):q≠[]:=by
 rcases (qe h).2 with h | ⟨h,_⟩
 ·rintro rfl;simp[PS,dw,dN,fM,fO,fP]at h
 ·rintro rfl;have:=h.lo;simp at this
theorem VH:∀(n:Nat) (r:S),r.length<=n->∃o,TP r o
 | 0,r,h=>by
  obtain rfl:r=[]:=length_eq_zero_iff.mp (by lia);exact ⟨_,.nil⟩
 | n+1,r,h=>by
  by_cases hr:r=[]
  ·subst hr;exact ⟨_,.nil⟩
  ·cases e:pa r with
   | none=>exact ⟨_,.bad hr e⟩
   | some q=>
    have:=length_pos_iff.mpr (VG e);obtain ⟨o,ho⟩:=VH n (r.drop q.length) (by rw[length_drop];lia);exact ⟨_,.cons hr e ho⟩
theorem J1:∀{l:List S},(∀x∈l,f x=g x)->l.find? f=l.find? g
 | [],_=>rfl
 | x::l,h=>by
  rw[find?_cons,find?_cons,h x (by simp),J1 λy hy=>h y (by simp[hy])]
theorem ajI (h:q∈PS\/(GN q/\NL r)):pa (q++r)=some q:=by
 unfold pa;rcases h with h | ⟨g,hr⟩
 ·have e:(PS.find? λp=>p.isPrefixOf (q++r))=some q:=by
   have h2:(PS.find? λp=>p.isPrefixOf (q++r))=PS.find? λp=>decide (p=q):=by
    refine J1 λp hp=>?_;rw[agA hp h]
   rw[h2];simp only[PS,mem_cons,not_mem_nil,or_false]at h;rcases h with rfl | rfl | rfl | rfl | rfl<;>decide
  rw[e]
 ·have e:(PS.find? λp=>p.isPrefixOf (q++r))=none:=by
   rw[List.find?_eq_none];intro p hp;rw[aaq g hr hp];decide
  rw[e];have el:lw (q++r)=q:=by
   unfold lw;rw[List.takeWhile_append_of_pos (λc hc=>contains_iff_mem.mpr (g.le c hc))];have:r.takeWhile (λc=>eN.contains c)=[]:=by
    cases r with
    | nil=>rfl
    | cons c r=>
     rw[List.takeWhile_cons_of_neg];intro hc;exact hr c rfl (contains_iff_mem.mp hc)
   rw[this,append_nil]
  rw[el];have hk:KW.contains q=false:=by
   rw[eq_false_iff];exact λz=>g.kw (contains_iff_mem.mp z)
  have hg:HD q=true:=by
   have h1:=g.lo;have h2:=g.hi;simp only[HD,and_eq_true,decide_eq_true_eq,not_eq_true'];exact ⟨h1,h2,hk⟩
  simp only[if_pos hg]
def kt (s:S):Tk:=if s=tx "(" then .op else if s=tx ")" then .cl else if s=tx "not" then .nt else if s=tx "and" then .an else if s=tx "or" then .or else .nm s
theorem jY:kt (tx "(")=.op:=by simp[kt]
theorem jZ:kt (tx ")")=.cl:=by simp[kt,show tx ")"≠tx "(" by decide]
theorem lU:kt (tx "not")=.nt:=by simp[kt,show tx "not"≠tx "(" by decide,show tx "not"≠tx ")" by decide]
theorem jq:kt (tx "and")=.an:=by simp[kt,show tx "and"≠tx "(" by decide,show tx "and"≠tx ")" by decide,show tx "and"≠tx "not" by decide]
theorem jr:kt (tx "or")=.or:=by simp[kt,show tx "or"≠tx "(" by decide,show tx "or"≠tx ")" by decide,show tx "or"≠tx "not" by decide,show tx "or"≠tx "and" by decide]
theorem Oz {s:S}(g:GN s):kt s=.nm s:=by
 have h1:s≠tx "(":=by rintro rfl;have:=gU (g.le 40 (by rw[dw];simp));lia
 have h2:s≠tx ")":=by rintro rfl;have:=gU (g.le 41 (by rw[dN];simp));lia
 have h3:s≠tx "not":=by rintro rfl;exact g.kw (by simp[KW])
 have h4:s≠tx "and":=by rintro rfl;exact g.kw (by simp[KW])
 have h5:s≠tx "or":=by rintro rfl;exact g.kw (by simp[KW])
 simp[kt,h1,h2,h3,h4,h5]
def sep (c:Nat):Bool:=decide (c=40) || (decide (c=41) || decide (c=32))
def lt:S->List S
 | []=>[]
 | c::r=>if sep c=true then [c]::lt r else match r with
  | []=>[[c]]
  | d::_=>if sep d=true then [c]::lt r else match lt r with
   | w::ws=>(c::w)::ws
   | []=>[[c]]
theorem jg (h:sep c=true):lt (c::r)=[c]::lt r:=by
 rw[lt.eq_def];simp only[h,if_true]
def SP (r:S):Prop:=∀c,r.head?=some c->sep c=true
theorem wj:∀{w r:S},w≠[]->(∀c∈w,sep c=false)->SP r->lt (w++r)=w::lt r
 | [],r,h,_,_=>absurd rfl h
 | [c],r,_,hw,hr=>by
  have hc:=hw c (by simp);cases r with
  | nil=>
   show lt [c]=_;rw[lt.eq_def];simp only[hc];rfl
  | cons d r=>
   show lt (c::d::r)=_;rw[lt.eq_def];simp only[hc,hr d rfl,if_true];rfl
 | c::d::w,r,_,hw,hr=>by
  have hc:=hw c (by simp);have hd:=hw d (by simp);have ih:=wj (w:=d::w) (r:=r) (by simp) (λx hx=>hw x (mem_cons_of_mem _ hx)) hr;show lt (c::d::(w++r))=_;rw[lt.eq_def];simp only[hc,hd];rw[show lt (d::(w++r))=(d::w)::lt r from ih];rfl
def sB:S:=[32]
def J3:List S:=[tx "not",tx "and",tx "or"]
def J2:List S:=[tx "and",tx "or"]
def ck (a t b:S):Bool:=(if t=sB then !(decide (a=sB) || decide (b=sB)) && (J3.contains a || J2.contains b) else true) && ((if J2.contains t then decide (a=sB) && decide (b=sB) else true) && (if t=tx "not" then decide (b=sB) else true))
def lV (r:List S):S:=r.headD sB
def bl:S->List S->Bool
 | _,[]=>true
 | a,t::r=>ck a t (lV r) && bl t r
def kinds (ts:List S):List Tk:=(ts.filter λt=>!decide (t=sB)).map kt
def WK:List S:=[tx "always",tx "where",tx "usually"]
def pH (w:S):Bool:=!WK.contains w && (w.all (λc=>eN.contains c) && decide (w.length<=12))
def J4:Tk->Bool
 | .nm _=>true
 | _=>false
def Tw (ts:List S):Prop:=∀t∈ts,t≠sB->J4 (kt t)=true->pH t=true
theorem jt {ts:List S}:kinds (sB::ts)=kinds ts:=by simp[kinds]
theorem gV {t:S}{ts:List S}(h:t≠sB):kinds (t::ts)=kt t::kinds ts:=by
 simp[kinds,h]
theorem Q8:tx "("≠sB:=by decide
theorem Lq:tx ")"≠sB:=by decide
theorem VJ:tx "not"≠sB:=by decide
theorem agE:tx "and"≠sB:=by decide
theorem agF:tx "or"≠sB:=by decide
theorem VL {a t b:S}(h1:t≠sB)(h2:t∉J3):ck a t b=true:=by
 have h3:J2.contains t=false:=by
  rw[eq_false_iff];intro h;exact h2 (by have:=contains_iff_mem.mp h;simp[J2]at this;simp[J3];exact .inr this)
 have h4:t≠tx "not":=by rintro rfl;exact h2 (by simp[J3])
 simp only[ck,if_neg h1,h3,false_eq_true,if_false,if_neg h4,Bool.and_self]
theorem VN {a b:S}:ck a (tx "not") b=decide (b=sB):=by
 have h3:J2.contains (tx "not")=false:=by decide
 simp only[ck,if_neg VJ,h3,false_eq_true,if_false,if_true,Bool.true_and]
theorem Je {a b t:S}(h:t=tx "and"\/t=tx "or"):ck a t b=(decide (a=sB) && decide (b=sB)):=by
 have h3:J2.contains t=true:=by rcases h with rfl | rfl<;>decide
 have h4:t≠tx "not":=by rcases h with rfl | rfl<;>decide
 have h5:t≠sB:=by rcases h with rfl | rfl<;>decide
 simp only[ck,if_neg h5,h3,if_true,if_neg h4,Bool.true_and,Bool.and_true]
theorem VP:ck a sB b=(!(decide (a=sB) || decide (b=sB)) && (J3.contains a || J2.contains b)):=by
 have h3:J2.contains sB=false:=by decide
 have h4:sB≠tx "not":=by decide
 simp only[ck,if_true,h3,false_eq_true,if_false,if_neg h4,Bool.and_true]
theorem agG {n:S}(g:GN n):∀c∈n,sep c=false:=λc hc=>by
 have:=gU (g.le c hc);simp[sep];lia
theorem J5 {n:S}(g:GN n):n≠[]:=by
 rintro rfl;have:=g.lo;simp at this
theorem OD {n:S}(g:GN n):n≠sB:=by
 rintro rfl;have:=gU (g.le 32 (by simp[sB]))
 lia
theorem ajJ {n:S}(g:GN n):n∉J3:=λh=>g.kw (by simp only[J3,mem_cons,not_mem_nil,or_false]at h;rcases h with rfl | rfl | rfl<;>simp[KW])
theorem Ez (h:sep c=true):SP (c::r):=λd e=>by cases e;exact h
theorem ajK {r:S}:lt (tx "("++r)=tx "("::lt r:=by rw[dw];exact jg (by decide)
theorem ajL {r:S}:lt (tx ")"++r)=tx ")"::lt r:=by rw[dN];exact jg (by decide)
theorem ajM {r:S}:lt (tx " and "++r)=sB::tx "and"::sB::lt r:=by
 have e:tx " and "++r=32::(tx "and"++(32::r)):=by
  rw[fM,show tx "and"=[97,110,100] by decide];rfl
 rw[e,jg (by decide),wj (by decide) (by decide) (Ez (by decide)),jg (by decide)];rfl
theorem ajN {r:S}:lt (tx " or "++r)=sB::tx "or"::sB::lt r:=by
 have e:tx " or "++r=32::(tx "or"++(32::r)):=by
  rw[fO,show tx "or"=[111,114] by decide];rfl
 rw[e,jg (by decide),wj (by decide) (by decide) (Ez (by decide)),jg (by decide)];rfl
theorem ajO {r:S}:lt (tx "not "++r)=tx "not"::sB::lt r:=by
 have e:tx "not "++r=tx "not"++(32::r):=by
  rw[fP,JX];rfl
 rw[e,wj (by decide) (by decide) (Ez (by decide)),jg (by decide)];rfl
theorem adf (h:q∈PS)(hn:NL (q++r)):SP (q++r):=by
 simp only[PS,mem_cons,not_mem_nil,or_false]at h;rcases h with rfl | rfl | rfl | rfl | rfl
 ·rw[dw];exact Ez (by decide)
 ·rw[dN];exact Ez (by decide)
 ·rw[fM];exact Ez (by decide)
 ·rw[fO];exact Ez (by decide)
 ·rw[fP]at hn;exact absurd (by rw[Q5];decide) (hn 110 rfl)
theorem ajP {r:S}{o:Option (List S)}(h:TP r o)(ho:o≠none)(hn:NL r):SP r:=by
 cases h with
 | nil=>exact λc e=>by cases e
 | bad _ _=>exact absurd rfl ho
 | @cons _ q o h1 h2 h3=>
  obtain ⟨e1,e2⟩:=qe h2;rw[e1]at hn ⊢;rcases e2 with e2 | ⟨g,_⟩
  ·exact adf e2 hn
  ·obtain ⟨c,n',rfl⟩:=List.exists_cons_of_ne_nil (J5 g);exact absurd (g.le c (by simp)) (hn c rfl)
def cJ (q:S):Tk:=kt (tk q)
theorem abq:tx "("∉J3:=by decide
theorem abr:tx ")"∉J3:=by decide
theorem eV {t:S}{ts:List S}(h:t≠sB->J4 (kt t)=true->pH t=true)(r:Tw ts):Tw (t::ts):=λx hx=>by
 rcases mem_cons.mp hx with rfl | hx
 ·exact h
 ·exact r x hx
theorem agH {n:S}(g:GN n):pH n=true:=by
 have h1:WK.contains n=false:=by
  rw[eq_false_iff];intro h;have:=contains_iff_mem.mp h;simp only[WK,mem_cons,not_mem_nil,or_false]at this;exact g.kw (by rcases this with rfl | rfl | rfl<;>simp[KW])
 have h2:n.all (λc=>eN.contains c)=true:=all_eq_true.mpr λc hc=>contains_iff_mem.mpr (g.le c hc);have h3:=g.hi;simp only[pH,h1,h2,Bool.not_false,Bool.true_and,decide_eq_true_eq];exact h3
theorem abt {a b t:S}(ht:t=tx "and"\/t=tx "or")(ha:a≠sB):ck a sB t=true:=by
 rw[VP];have h1:decide (a=sB)=false:=decide_eq_false ha;have h2:decide (t=sB)=false:=decide_eq_false (by rcases ht with rfl | rfl<;>decide);have h3:J2.contains t=true:=by rcases ht with rfl | rfl<;>decide
 rw[h1,h2,h3];simp
theorem VR {b t:S}(ht:t∈J3)(hb:b≠sB):ck t sB b=true:=by
 rw[VP];have h1:decide (b=sB)=false:=decide_eq_false hb;have h2:decide (t=sB)=false:=decide_eq_false (by rintro rfl;revert ht;decide);have h3:J3.contains t=true:=contains_iff_mem.mpr ht;rw[h1,h2,h3];simp
theorem t1:∀{r:S} {o:Option (List S)},TP r o->∀qs,o=some qs->∀(e:Bool) (a:S),alt e (qs.map cJ)=true->(e=false->a≠sB)->bl a (lt r)=true/\kinds (lt r)=qs.map cJ/\Tw (lt r)/\(e=true->lV (lt r)≠sB):=by
 intro r o h
 induction h with
 | nil=>
  intro qs e0 e a ha _;cases e0;refine ⟨rfl,rfl,(λt h=>by cases h),λhe=>?_⟩;subst he;cases ha
 | bad _ _=>intro qs e0;cases e0
 | @cons r q o h1 h2 h3 ih=>
  intro qs e0 e a ha hea;obtain ⟨Tz,rfl,rfl⟩:=map_eq_some_iff.mp e0;obtain ⟨er,hq⟩:=qe h2;generalize r.drop q.length=r' at *;subst er;rcases hq with hq | ⟨g,hnl⟩
  ·simp only[PS,mem_cons,not_mem_nil,or_false]at hq;rcases hq with rfl | rfl | rfl | rfl | rfl
   ·have ek:cJ (tx "(")=.op:=by rw[cJ,Oo,jY]
    rw[map_cons,ek]at ha ⊢;cases e with
    | false=>cases ha
    | true=>
     obtain ⟨i1,i2,i3,i4⟩:=ih Tz rfl true (tx "(") ha (λz=>by cases z);rw[ajK,gV Q8,jY,i2];refine ⟨?_,rfl,eV (λ_ z=>by rw[jY]at z;cases z) i3,λ_=>Q8⟩;show (ck a _ _ && bl _ _)=true;rw[VL Q8 abq,i1];rfl
   ·have ek:cJ (tx ")")=.cl:=by rw[cJ,Oq,jZ]
    rw[map_cons,ek]at ha ⊢;cases e with
    | true=>cases ha
    | false=>
     obtain ⟨i1,i2,i3,i4⟩:=ih Tz rfl false (tx ")") ha (λ_=>Lq);rw[ajL,gV Lq,jZ,i2];refine ⟨?_,rfl,eV (λ_ z=>by rw[jZ]at z;cases z) i3,λz=>by cases z⟩;show (ck a _ _ && bl _ _)=true;rw[VL Lq abr,i1];rfl
   ·have ek:cJ (tx " and ")=.an:=by rw[cJ,Ot,jq]
    rw[map_cons,ek]at ha ⊢;cases e with
    | true=>cases ha
    | false=>
     obtain ⟨i1,i2,i3,i4⟩:=ih Tz rfl true sB ha (λz=>by cases z);rw[ajM,jt,gV agE,jt,jq,i2];refine ⟨?_,rfl,eV (λz=>absurd rfl z) (eV (λ_ z=>by rw[jq]at z;cases z) (eV (λz=>absurd rfl z) i3)),λz=>by cases z⟩;show (ck a sB (tx "and") && (ck sB (tx "and") sB && (ck (tx "and") sB (lV (lt r')) && bl sB (lt r'))))=true;rw[abt (b:=sB) (.inl rfl) (hea rfl),Je (.inl rfl),VR (by simp[J3]) (i4 rfl),i1];rfl
   ·have ek:cJ (tx " or ")=.or:=by rw[cJ,Ou,jr]
    rw[map_cons,ek]at ha ⊢;cases e with
    | true=>cases ha
    | false=>
     obtain ⟨i1,i2,i3,i4⟩:=ih Tz rfl true sB ha (λz=>by cases z);rw[ajN,jt,gV agF,jt,jr,i2];refine ⟨?_,rfl,eV (λz=>absurd rfl z) (eV (λ_ z=>by rw[jr]at z;cases z) (eV (λz=>absurd rfl z) i3)),λz=>by cases z⟩;show (ck a sB (tx "or") && (ck sB (tx "or") sB && (ck (tx "or") sB (lV (lt r')) && bl sB (lt r'))))=true;rw[abt (b:=sB) (.inr rfl) (hea rfl),Je (.inr rfl),VR (by simp[J3]) (i4 rfl),i1];rfl
   ·have ek:cJ (tx "not ")=.nt:=by rw[cJ,Ov,lU]
    rw[map_cons,ek]at ha ⊢;cases e with
    | false=>cases ha
    | true=>
     obtain ⟨i1,i2,i3,i4⟩:=ih Tz rfl true sB ha (λz=>by cases z);rw[ajO,gV VJ,jt,lU,i2];refine ⟨?_,rfl,eV (λ_ z=>by rw[lU]at z;cases z) (eV (λz=>absurd rfl z) i3),λ_=>VJ⟩;show (ck a (tx "not") sB && (ck (tx "not") sB (lV (lt r')) && bl sB (lt r')))=true;rw[VN,VR (by simp[J3]) (i4 rfl),i1];rfl
  ·have ek:cJ q=.nm q:=by rw[cJ,Ow g,Oz g]
   rw[map_cons,ek]at ha ⊢;cases e with
   | false=>cases ha
   | true=>
    obtain ⟨i1,i2,i3,i4⟩:=ih Tz rfl false q ha (λ_=>OD g);rw[wj (J5 g) (agG g) (ajP h3 (by simp) hnl),gV (OD g),Oz g,i2];refine ⟨?_,rfl,eV (λ_ _=>agH g) i3,λ_=>OD g⟩;show (ck a q _ && bl _ _)=true;rw[VL (OD g) (ajJ g),i1];rfl
inductive LX:List S->Prop
 | nil:LX []
 | sp {c:Nat} {ts:List S}:sep c=true->LX ts->LX ([c]::ts)
 | wd {w:S} {ts:List S}:w≠[]->(∀c∈w,sep c=false)->SP ts.flatten->LX ts->LX (w::ts)
theorem Gn:∀{r:S},LX (lt r)/\(lt r).flatten=r
 | []=>⟨.nil,rfl⟩
 | c::r=>by
  obtain ⟨i1,i2⟩:=Gn (r:=r);by_cases hc:sep c=true
  ·rw[jg hc];exact ⟨.sp hc i1,by rw[flatten_cons,i2];rfl⟩
  ·have hc':sep c=false:=by simpa using hc
   cases r with
   | nil=>
    rw[lt.eq_def];simp only[hc'];exact ⟨.wd (by simp) (by simpa using hc') (λd e=>by cases e) .nil,rfl⟩
   | cons d r=>
    by_cases hd:sep d=true
    ·have:lt (c::d::r)=[c]::lt (d::r):=by
      rw[lt.eq_def];simp only[hc',hd,if_true];rfl
     rw[this];refine ⟨.wd (by simp) (by simpa using hc') ?_ i1,by rw[flatten_cons,i2];rfl⟩;rw[i2];exact Ez hd
    ·have hd':sep d=false:=by simpa using hd
     have:lt (c::d::r)=match lt (d::r) with | w::ws=>(c::w)::ws | []=>[[c]]:=by
      rw[lt.eq_def];simp only[hc',hd'];rfl
     rw[this];generalize lt (d::r)=ts at i1 i2;cases i1 with
     | nil=>cases i2
     | @sp c' ts hs hl=>
      change c'::ts.flatten=_ at i2;injection i2 with z _
      rw[z]at hs;rw[hs]at hd';cases hd'
     | @wd w ts h1 h2 h3 h4=>
      refine ⟨.wd (by simp) (λx hx=>?_) h3 h4,?_⟩
      ·rcases mem_cons.mp hx with rfl | hx
       ·exact hc'
       ·exact h2 x hx
      ·rw[flatten_cons,cons_append,<-flatten_cons,i2]
theorem Jf (s:S):s=tx "("\/s=tx ")"\/s=tx "not"\/s=tx "and"\/s=tx "or"\/(kt s=.nm s/\s∉J3):=by
 by_cases h1:s=tx "("
 ·exact .inl h1
 by_cases h2:s=tx ")"
 ·exact .inr (.inl h2)
 by_cases h3:s=tx "not"
 ·exact .inr (.inr (.inl h3))
 by_cases h4:s=tx "and"
 ·exact .inr (.inr (.inr (.inl h4)))
 by_cases h5:s=tx "or"
 ·exact .inr (.inr (.inr (.inr (.inl h5))))
 refine .inr (.inr (.inr (.inr (.inr ⟨?_,?_⟩))))
 ·simp only[kt,if_neg h1,if_neg h2,if_neg h3,if_neg h4,if_neg h5]
 ·simp only[J3,mem_cons,not_mem_nil,or_false];rintro (z | z | z)
  ·exact h3 z
  ·exact h4 z
  ·exact h5 z
theorem agI (h:pH w=true)(hn:w≠[])(hj:w∉J3):GN w:=by
 simp only[pH,and_eq_true,not_eq_true',decide_eq_true_eq]at h;obtain ⟨h1,h2,h3⟩:=h;refine ⟨length_pos_iff.mpr hn,h3,λc hc=>contains_iff_mem.mp (all_eq_true.mp h2 c hc),λhk=>?_⟩;simp only[KW,mem_cons,not_mem_nil,or_false]at hk;rcases hk with rfl | rfl | rfl | rfl | rfl | rfl
 ·revert h1;decide
 ·revert h1;decide
 ·revert h1;decide
 ·exact hj (by simp[J3])
 ·exact hj (by simp[J3])
 ·exact hj (by simp[J3])
theorem lC (h:q∈PS\/(GN q/\NL r))(hq:q≠[])(t:TP r (some qs)):TP (q++r) (some (q::qs)):=by
 have:=TP.cons (r:=q++r) (by simp[hq]) (ajI h) (o:=some qs) (by rw[drop_left];exact t);exact this
theorem ajQ (h:SP r):NL r:=λc e hc=>by
 have:=gU hc;have h2:=h c e;simp[sep]at h2
 lia
theorem X6 (h:sep c=true):[c]=tx "("\/[c]=tx ")"\/[c]=sB:=by
 simp only[sep,or_eq_true,decide_eq_true_eq]at h;rcases h with rfl | rfl | rfl
 ·exact .inl (by decide)
 ·exact .inr (.inl (by decide))
 ·exact .inr (.inr rfl)
theorem J6 (h:Tw (t::ts)):Tw ts:=λx hx=>h x (mem_cons_of_mem _ hx)
theorem OJ (h:LX (t::ts)):LX ts:=by
 cases h with
 | sp _ h=>exact h
 | wd _ _ _ h=>exact h
theorem ajR (h:ck a sB b=true)(ha:a∉J3):a≠sB/\b∈J2:=by
 rw[VP]at h;simp only[and_eq_true,not_eq_true',Bool.or_eq_false_iff,decide_eq_false_iff_not,or_eq_true]at h;obtain ⟨⟨h1,h2⟩,h3⟩:=h;refine ⟨h1,?_⟩;rcases h3 with h3 | h3
 ·exact absurd (contains_iff_mem.mp h3) ha
 ·exact contains_iff_mem.mp h3
theorem t2:∀(n:Nat) {ts:List S},ts.length<=n->∀{e:Bool} {a:S},LX ts->bl a ts=true->Tw ts->alt e (kinds ts)=true->(e=true->a=sB\/a=tx "(")->(e=false->a≠sB/\a∉J3)->∃qs,TP ts.flatten (some qs)/\qs.map cJ=kinds ts
 | n,[],_,e,a,_,_,_,_,_,_=>⟨[],.nil,rfl⟩
 | 0,_::_,hn,_,_,_,_,_,_,_,_=>by simp at hn
 | n+1,t::r,hn,e,a,lx,hb,hw,ha,c1,c2=>by
  have hn':r.length<=n:=by simpa using hn
  have hb2:ck a t (lV r)=true/\bl t r=true:=by
   have:(ck a t (lV r) && bl t r)=true:=hb;simpa using this
  have X7:=OJ lx;have hw2:=J6 hw;cases lx with
  | @sp c _ hs _=>
   rcases X6 hs with ec | ec | ec
   ·rw[ec]at hb2 ha ⊢;rw[gV Q8,jY]at ha ⊢;cases e with
    | false=>cases ha
    | true=>
     obtain ⟨qs,i1,i2⟩:=t2 n hn' (e:=true) (a:=tx "(") X7 hb2.2 hw2 ha (λ_=>.inr rfl) (λz=>by cases z);refine ⟨tx "("::qs,?_,by rw[map_cons,i2,cJ,Oo,jY]⟩;rw[flatten_cons];exact lC (.inl (by simp[PS])) (by decide) i1
   ·rw[ec]at hb2 ha ⊢;rw[gV Lq,jZ]at ha ⊢;cases e with
    | true=>cases ha
    | false=>
     obtain ⟨qs,i1,i2⟩:=t2 n hn' (e:=false) (a:=tx ")") X7 hb2.2 hw2 ha (λz=>by cases z) (λ_=>⟨Lq,abr⟩);refine ⟨tx ")"::qs,?_,by rw[map_cons,i2,cJ,Oq,jZ]⟩;rw[flatten_cons];exact lC (.inl (by simp[PS])) (by decide) i1
   ·rw[ec]at hb2 ha ⊢;rw[jt]at ha ⊢;have an:a∉J3:=by
     cases e with
     | false=>exact (c2 rfl).2
     | true=>
      rcases c1 rfl with rfl | rfl
      ·decide
      ·exact abq
    obtain ⟨b1,b2⟩:=ajR hb2.1 an;cases r with
    | nil=>exact absurd b2 (by decide)
    | cons t' r=>
     change t'∈J2 at b2;have bj:t'=tx "and"\/t'=tx "or":=by simpa [J2] using b2
     have nb:t'≠sB:=by rcases bj with rfl | rfl<;>decide
     have hb3:ck sB t' (lV r)=true/\bl t' r=true:=by
      have:(ck sB t' (lV r) && bl t' r)=true:=hb2.2;simpa using this
     have lx3:=OJ X7;have hw3:=J6 hw2;rw[gV nb]at ha ⊢;cases e with
     | true=>rcases bj with rfl | rfl<;>first | (rw[jq]at ha;cases ha) | (rw[jr]at ha;cases ha)
     | false=>
      have ha':alt true (kinds r)=true:=by rcases bj with rfl | rfl<;>first | (rw[jq]at ha;exact ha) | (rw[jr]at ha;exact ha)
      have hr:lV r=sB:=by
       have:=hb3.1;rw[Je bj]at this;simpa using this
      cases r with
      | nil=>cases ha'
      | cons s r=>
       change s=sB at hr;subst hr;rw[jt]at ha' ⊢;have hb4:ck t' sB (lV r)=true/\bl sB r=true:=by
        have:(ck t' sB (lV r) && bl sB r)=true:=hb3.2;simpa using this
       obtain ⟨qs,i1,i2⟩:=t2 n (by simp at hn';lia) (e:=true) (a:=sB) (OJ lx3) hb4.2 (J6 hw3) ha' (λ_=>.inl rfl) (λz=>by cases z);rcases bj with rfl | rfl
       ·refine ⟨tx " and "::qs,?_,by rw[map_cons,i2,cJ,Ot,jq]⟩;have ef:(sB::tx "and"::sB::r).flatten=tx " and "++r.flatten:=by
         simp only[flatten_cons];rw[fM,show tx "and"=[97,110,100] by decide];rfl
        rw[ef];exact lC (.inl (by simp[PS])) (by decide) i1
       ·refine ⟨tx " or "::qs,?_,by rw[map_cons,i2,cJ,Ou,jr]⟩;have ef:(sB::tx "or"::sB::r).flatten=tx " or "++r.flatten:=by
         simp only[flatten_cons];rw[fO,show tx "or"=[111,114] by decide];rfl
        rw[ef];exact lC (.inl (by simp[PS])) (by decide) i1
  | wd w1 w2 w3 w4=>
   have nb:t≠sB:=by
    rintro rfl;have:=w2 32 (by simp[sB]);revert this;decide
   rw[gV nb]at ha ⊢;rcases Jf t with rfl | rfl | rfl | hj | hj | ⟨k1,k2⟩
   ·exact absurd (w2 40 (by rw[dw];simp)) (by decide)
   ·exact absurd (w2 41 (by rw[dN];simp)) (by decide)
   ·rw[lU]at ha ⊢;cases e with
    | false=>cases ha
    | true=>
     have hr:lV r=sB:=by
      have:=hb2.1;rw[VN]at this;simpa using this
     cases r with
     | nil=>cases ha
     | cons s r=>
      change s=sB at hr;subst hr;change alt true (kinds (sB::r))=true at ha;rw[jt]at ha ⊢;have hb4:ck (tx "not") sB (lV r)=true/\bl sB r=true:=by
       have:(ck (tx "not") sB (lV r) && bl sB r)=true:=hb2.2;simpa using this
      obtain ⟨qs,i1,i2⟩:=t2 n (by simp at hn';lia) (e:=true) (a:=sB) (OJ X7) hb4.2 (J6 hw2) ha (λ_=>.inl rfl) (λz=>by cases z);refine ⟨tx "not "::qs,?_,by rw[map_cons,i2,cJ,Ov,lU]⟩;have ef:(tx "not"::sB::r).flatten=tx "not "++r.flatten:=by
       simp only[flatten_cons];rw[fP,JX];rfl
      rw[ef];exact lC (.inl (by simp[PS])) (by decide) i1
   ·subst hj;rw[jq]at ha;cases e with
    | true=>cases ha
    | false=>
     have:=hb2.1;rw[Je (.inl rfl)]at this;simp only[and_eq_true,decide_eq_true_eq]at this;exact absurd this.1 (c2 rfl).1
   ·subst hj;rw[jr]at ha;cases e with
    | true=>cases ha
    | false=>
     have:=hb2.1;rw[Je (.inr rfl)]at this;simp only[and_eq_true,decide_eq_true_eq]at this;exact absurd this.1 (c2 rfl).1
   ·rw[k1]at ha ⊢;cases e with
    | false=>cases ha
    | true=>
     have g:=agI (hw t (by simp) nb (by rw[k1];rfl)) w1 k2;obtain ⟨qs,i1,i2⟩:=t2 n hn' (e:=false) (a:=t) X7 hb2.2 hw2 ha (λz=>by cases z) (λ_=>⟨nb,k2⟩);refine ⟨t::qs,?_,by rw[map_cons,i2,cJ,Ow g,k1]⟩;rw[flatten_cons];exact lC (.inr ⟨g,ajQ w3⟩) w1 i1
def tQ (o:Option (List S)):Option Sn:=o.bind λqs=>(rP ([],none) (qs.map cJ)).bind h_
def lW (r:S):Option Sn:=if bl sB (lt r)=true/\(∀t∈lt r,t≠sB->J4 (kt t)=true->pH t=true) then (rL [[]] (kinds (lt r))).bind Q6 else none
theorem agJ:∀{r:S} {o:Option (List S)},TP r o->∀{o':Option (List S)},TP r o'->o=o':=by
 intro r o h
 induction h with
 | nil=>
  intro o' h';cases h' with
  | nil=>rfl
  | bad h _=>exact absurd rfl h
  | cons h _ _=>exact absurd rfl h
 | bad h1 h2=>
  intro o' h';cases h' with
  | nil=>exact absurd rfl h1
  | bad _ _=>rfl
  | cons _ h3 _=>rw[h2]at h3;cases h3
 | cons h1 h2 h3 ih=>
  intro o' h';cases h' with
  | nil=>exact absurd rfl h1
  | bad _ h4=>rw[h2]at h4;cases h4
  | cons _ h4 h5=>
   rw[h2]at h4;cases h4;rw[ih h5]
theorem Lr (h:TP r o):lW r=tQ o:=by
 have lx:=Gn (r:=r);cases eP:tQ o with
 | some t=>
  cases o with
  | none=>cases eP
  | some qs=>
   have al:=lB (ts:=qs.map cJ) (B:=[]) (w:=none) (t:=t) eP;obtain ⟨b1,b2,b3,_⟩:=t1 h qs rfl true sB al (λz=>by cases z);unfold lW;rw[if_pos ⟨b1,b3⟩,b2,Q7];exact eP
 | none=>
  cases eL:lW r with
  | none=>rfl
  | some t=>
   unfold lW at eL;split at eL
   ·rename_i hh;rw[Q7]at eL;have al:=lB (ts:=kinds (lt r)) (B:=[]) (w:=none) (t:=t) eL;obtain ⟨qs,i1,i2⟩:=t2 _ (le_refl _) (e:=true) (a:=sB) lx.1 hh.1 hh.2 al (λ_=>.inl rfl) (λz=>by cases z);rw[lx.2]at i1;have:=agJ h i1;subst this;have:tQ (some qs)=some t:=by
     show (rP ([],none) (qs.map cJ)).bind h_=some t;rw[i2];exact eL
    rw[this]at eP;cases eP
   ·cases eL
def wT:Tk->Nat
 | .op=>1 | .cl=>1 | .nt=>4 | .an=>5 | .or=>4
 | .nm s=>s.length
def wTs:List Tk->Nat
 | []=>0
 | t::r=>wT t+wTs r
noncomputable abbrev sl (s:Sn) (l:Nat):Nat:=(sh s l).length
theorem J7 (h:l<=2):sl (.is n) l=n.length:=by simp only[sl,sh,br];rw[if_pos (by lia)]
theorem J8 (h:l<=2):sl (.nt a) l=4+sl a 2:=by simp only[sl,sh,br];rw[if_pos h,length_append,fP];rfl
theorem J9:sl (.an a b) l=sl a 1+5+sl b 2+if l<=1 then 0 else 2:=by
 simp only[sl,sh,br];split<;>simp only[length_append,fM,dw,dN,length_cons,length_nil]<;>lia
theorem Gp:sl (.or a b) l=sl a 0+4+sl b 1+if l<=0 then 0 else 2:=by
 simp only[sl,sh,br];split<;>simp only[length_append,fO,dw,dN,length_cons,length_nil]<;>lia
theorem Gq {s:Sn}{l m:Nat}(h:l<=m)(hm:m<=2):sl s l<=sl s m/\sl s m<=sl s l+2:=by
 cases s with
 | is n=>rw[J7 (by lia),J7 hm];lia
 | nt a=>rw[J8 (by lia),J8 hm];lia
 | an a b=>rw[J9,J9];split<;>split<;>lia
 | or a b=>rw[Gp,Gp];split<;>split<;>lia
def vF:Fr->Nat
 | .op=>1
 | .nt=>4
 | .an a=>sl a 1+5
 | .or a=>sl a 0+4
def nY:List Fr->Nat
 | []=>0
 | f::B=>vF f+nY B
def vO:Option Sn->Nat
 | none=>0
 | some w=>sl w 2
def gF:Fr->Prop
 | .an a=>∀n∈nm a,GN n
 | .or a=>∀n∈nm a,GN n
 | _=>True
def gO:Option Sn->Prop
 | none=>True
 | some w=>∀n∈nm w,GN n
def Od:List Fr->Prop
 | []=>True
 | f::B=>gF f/\(match f with
  | .an _=>∀g,B.head?=some g->cW 1 g=false
  | .or _=>∀g,B.head?=some g->cW 0 g=false
  | _=>True)/\Od B
theorem Gr {l:Nat}:∀{B:List Fr} {w:Sn} {g:Fr},(bh l B w).1.head?=some g->cW l g=false
 | [],w,g,e=>by cases e
 | f::B,w,g,e=>by
  unfold bh at e;split at e
  ·exact Gr e
  ·rename_i h;cases e;simpa using h
theorem ant (a:gF f)(b:∀n∈nm w,GN n):∀n∈nm (fw f w),GN n:=by
 cases f with
 | op=>exact b
 | nt=>exact b
 | an c=>intro n hn;simp only[fw,nm,mem_append]at hn;exact hn.elim (a n) (b n)
 | or c=>intro n hn;simp only[fw,nm,mem_append]at hn;exact hn.elim (a n) (b n)
theorem wk:∀{B:List Fr} {w:Sn},Od B->(∀n∈nm w,GN n)->Od (bh l B w).1/\∀n∈nm (bh l B w).2,GN n
 | [],w,o,g=>⟨o,g⟩
 | f::B,w,o,g=>by
  unfold bh;split
  ·exact wk o.2.2 (ant o.1 g)
  ·exact ⟨o,g⟩
theorem nZ:∀{B:List Fr} {w:Sn} {m:Nat},m<=2->l<=m->l<=1->Od B->(m < 2->∀g,B.head?=some g->cW m g=false)->nY (bh l B w).1+sl (bh l B w).2 l<=nY B+sl w m
 | [],w,m,hm,hl,_,_,_=>by have:=(@Gq w l m hl hm).1;simp only[bh,nY];lia
 | f::B,w,m,hm,hl,h1,o,c=>by
  unfold bh;split
  ·rename_i j;by_cases h2:m=2
   ·subst h2;cases f with
    | op=>cases j
    | nt=>have:=nZ (l:=l) (B:=B) (w:=.nt w) (m:=2) (by lia) (by lia) h1 o.2.2 (by lia);rw[J8 (by lia)]at this;simp only[fw,nY,vF];lia
    | an a=>have:=nZ (l:=l) (B:=B) (w:=.an a w) (m:=1) (by lia) h1 h1 o.2.2 (λ_=>o.2.1);rw[J9,if_pos (by lia)]at this;simp only[fw,nY,vF];lia
    | or a=>
     have h0:l<=0:=by simpa [cW] using j
     have:=nZ (l:=l) (B:=B) (w:=.or a w) (m:=0) (by lia) h0 h1 o.2.2 (λ_=>o.2.1);rw[Gp,if_pos (by lia)]at this;have:=(@Gq w 1 2 (by lia) (by lia)).1;simp only[fw,nY,vF];lia
   ·have c':=c (by lia) f rfl;have nl:l < m:=by
     refine Nat.lt_of_le_of_ne hl λe=>?_;rw[<-e,j]at c';cases c'
    obtain rfl:m=1:=by lia
    obtain rfl:l=0:=by lia
    cases f with
    | op=>cases j
    | nt=>simp[cW]at c'
    | an a=>simp[cW]at c'
    | or a=>
     have:=nZ (l:=0) (B:=B) (w:=.or a w) (m:=0) (by lia) (by lia) h1 o.2.2 (λ_=>o.2.1);rw[Gp,if_pos (by lia)]at this;simp only[fw,nY,vF];lia
  ·have:=(@Gq w l m hl hm).1;dsimp only;lia
def gT:Tk->Prop
 | .nm s=>GN s
 | _=>True
theorem ajS (ok:gT t)(o:Od B)(g:gO w)(e:stP (B,w) t=some (B',w')):nY B'+vO w'<=nY B+vO w+wT t/\Od B'/\gO w':=by
 cases w with
 | none=>cases t with
  | op=>simp only[stP,Option.some.injEq,Prod.mk.injEq]at e;obtain ⟨rfl,rfl⟩:=e;exact ⟨by simp only[nY,vF,vO,wT];lia,⟨trivial,trivial,o⟩,trivial⟩
  | nt=>simp only[stP,Option.some.injEq,Prod.mk.injEq]at e;obtain ⟨rfl,rfl⟩:=e;exact ⟨by simp only[nY,vF,vO,wT];lia,⟨trivial,trivial,o⟩,trivial⟩
  | nm s=>simp only[stP,Option.some.injEq,Prod.mk.injEq]at e;obtain ⟨rfl,rfl⟩:=e;exact ⟨by simp only[vO,wT];rw[J7 (by lia)];lia,o,λn hn=>by simp only[nm,mem_singleton]at hn;rw[hn];exact ok⟩
  | cl=>simp[stP]at e
  | an=>simp[stP]at e
  | or=>simp[stP]at e
 | some w=>cases t with
  | op=>simp[stP]at e
  | nt=>simp[stP]at e
  | nm s=>simp[stP]at e
  | an=>
   simp only[stP,Option.some.injEq,Prod.mk.injEq]at e;obtain ⟨rfl,rfl⟩:=e;have:=nZ (l:=1) (w:=w) (m:=2) (by lia) (by lia) (by lia) o (by lia);have u:=wk (l:=1) o g;exact ⟨by simp only[nY,vF,vO,wT];lia,⟨u.2,λg=>Gr,u.1⟩,trivial⟩
  | or=>
   simp only[stP,Option.some.injEq,Prod.mk.injEq]at e;obtain ⟨rfl,rfl⟩:=e;have:=nZ (l:=0) (w:=w) (m:=2) (by lia) (by lia) (by lia) o (by lia);have u:=wk (l:=0) o g;exact ⟨by simp only[nY,vF,vO,wT];lia,⟨u.2,λg=>Gr,u.1⟩,trivial⟩
  | cl=>
   have h:=nZ (l:=0) (w:=w) (m:=2) (by lia) (by lia) (by lia) o (by lia);have u:=wk (l:=0) o g;have hd:=@Gr 0 B w;simp only[stP]at e;generalize bh 0 B w=p at e h u hd;obtain ⟨C,v⟩:=p;cases C with
   | nil=>cases e
   | cons f C=>
    simp only[Option.some.injEq,Prod.mk.injEq]at e;obtain ⟨rfl,rfl⟩:=e;have hf:=hd (g:=f) rfl;have:=(@Gq v 0 2 (by lia) (by lia)).2;refine ⟨?_,u.1.2.2,u.2⟩;cases f with
    | op=>simp only[nY,vF,vO,wT]at h ⊢;lia
    | nt=>simp[cW]at hf
    | an a=>simp[cW]at hf
    | or a=>simp[cW]at hf
theorem agK:∀{ts:List Tk} {B:List Fr} {w:Option Sn} {s:Sn},(∀t∈ts,gT t)->Od B->gO w->(rP (B,w) ts).bind h_=some s->sl s 0<=nY B+vO w+wTs ts/\∀n∈nm s,GN n
 | [],B,none,s,_,_,_,e=>by cases e
 | [],B,some w,s,_,o,g,e=>by
  have h:=nZ (l:=0) (w:=w) (m:=2) (by lia) (by lia) (by lia) o (by lia);have u:=wk (l:=0) o g;simp only[rP,bind_some,h_]at e;split at e
  ·cases e;exact ⟨by simp only[vO,wTs];lia,u.2⟩
  ·cases e
 | t::ts,B,w,s,ok,o,g,e=>by
  simp only[rP]at e;cases e1:stP (B,w) t with
  | none=>rw[e1]at e;cases e
  | some p=>
   obtain ⟨B',w'⟩:=p;rw[e1]at e;obtain ⟨h1,o1,g1⟩:=ajS (ok t (by simp)) o g e1;obtain ⟨h2,g2⟩:=agK (λx hx=>ok x (by simp[hx])) o1 g1 e;exact ⟨by simp only[wTs];lia,g2⟩
theorem ajT (h:q∈PS\/GN q):wT (cJ q)<=q.length/\gT (cJ q):=by
 rcases h with h | g
 ·simp only[PS,mem_cons,not_mem_nil,or_false]at h;rcases h with rfl | rfl | rfl | rfl | rfl
  ·rw[cJ,Oo,jY];exact ⟨by decide,trivial⟩
  ·rw[cJ,Oq,jZ];exact ⟨by decide,trivial⟩
  ·rw[cJ,Ot,jq];exact ⟨by decide,trivial⟩
  ·rw[cJ,Ou,jr];exact ⟨by decide,trivial⟩
  ·rw[cJ,Ov,lU];exact ⟨by decide,trivial⟩
 ·rw[cJ,Ow g,Oz g];exact ⟨le_refl _,g⟩
theorem anu:∀{r:S} {o:Option (List S)},TP r o->∀qs,o=some qs->wTs (qs.map cJ)<=r.length/\∀t∈qs.map cJ,gT t:=by
 intro r o tp
 induction tp with
 | nil=>intro qs e;cases e;exact ⟨le_refl _,λt h=>by cases h⟩
 | bad _ _=>intro qs e;cases e
 | @cons r q o h1 h2 h3 ih=>
  intro qs e;cases o with
  | none=>cases e
  | some ps=>
   cases e;obtain ⟨i1,i2⟩:=ih ps rfl;obtain ⟨e1,e2⟩:=qe h2;have e3:=congrArg List.length e1;rw[length_append]at e3;obtain ⟨w1,w2⟩:=ajT (q:=q) (e2.imp id And.left);refine ⟨by simp only[map_cons,wTs];lia,λt ht=>?_⟩;rw[map_cons,mem_cons]at ht;rcases ht with rfl | ht
   ·exact w2
   ·exact i2 t ht
theorem Gs:∀{s:Sn} {l:Nat},l<=2->(∀n∈nm s,GN n)->4 * lv s<=sl s l+3
 | .is n,l,h,g=>by
  have:=length_pos_iff.mpr (J5 (g n (by simp[nm])));rw[J7 h];simp only[lv];lia
 | .nt a,l,h,g=>by
  have:=Gs (s:=a) (l:=2) (by lia) g;rw[J8 h];simp only[lv];lia
 | .an a b,l,h,g=>by
  have:=Gs (s:=a) (l:=1) (by lia) λn hn=>g n (by simp[nm,hn]);have:=Gs (s:=b) (l:=2) (by lia) λn hn=>g n (by simp[nm,hn]);rw[J9];simp only[lv];lia
 | .or a b,l,h,g=>by
  have:=Gs (s:=a) (l:=0) (by lia) λn hn=>g n (by simp[nm,hn]);have:=Gs (s:=b) (l:=1) (by lia) λn hn=>g n (by simp[nm,hn]);rw[Gp];simp only[lv];lia
theorem adg (tp:TP r o)(e:tQ o=some s):sl s 0<=r.length/\∀n∈nm s,GN n:=by
 cases o with
 | none=>cases e
 | some qs=>
  obtain ⟨h1,h2⟩:=anu tp qs rfl;have:=agK (B:=[]) (w:=none) h2 trivial trivial e;simp only[nY,vO]at this;exact ⟨by lia,this.2⟩
theorem Gu:aL sb Γ E (.chain p q a b c) σ h Q=aL sb Γ E a σ h (λx h1=>aL sb Γ E b σ h1 λy h2=>match prim sb p [x,y] h2 with
  | some (.bl true,h3)=>aL sb Γ E c σ h3 λz h4=>match prim sb q [y,z] h4 with
   | some (v,h5)=>Q v h5
   | none=>False
  | some (.bl false,h3)=>Q (.bl false) h3
  | _=>False):=by simp only[aL]<;>rfl
theorem n8:∀{s:S},jh [c] s=decide (c∈s)
 | []=>rfl
 | x::r=>by
  show ([c].isPrefixOf (x::r) || jh [c] r)=_;rw[n8 (s:=r)];by_cases e:c=x
  ·subst e;simp[isPrefixOf]
  ·have e2:(c == x)=false:=by simp[e]
   simp[isPrefixOf,e,e2]
theorem abu:prim sb .GX [.str [c],Cv] h=some (.bl (decide (c∈eN)),h):=by
 show some (D.bl (jh [c] eN),h)=_;rw[n8]
theorem V0 (e:t.drop p=n++r)(hp:p<=t.length)(hn:∀c∈n,c∈eN)(hr:NL r)(q:Q (.int ((p+n.length:Nat):Int)) h):au sb P (d+1) 3 [.str t,.int p] h Q E:=by
 refine wp_call rfl rfl ?_;simp! only[CN];refine Bo (λm σ h'=>h'=h/\∃i,i<=n.length/\m=n.length - i/\σ=[some (.str t),some (.int ((p+i:Nat):Int))]) (m:=n.length) ⟨rfl,0,by lia,by lia,rfl⟩ ?_;rintro m σ h' ⟨rfl,i,hi,rfl,rfl⟩;have hl:t.length=p+n.length+r.length:=by have:=congrArg List.length e;simp at this;lia
 simp! only;by_cases hlt:i < n.length
 ·have ea:bT t ((p+i:Nat):Int)=some n[i]:=by rw[vp,<-getElem?_drop,e,getElem?_append_left hlt,getElem?_eq_getElem hlt]
  rw[decide_eq_true (by lia)];simp! only[ea,abu,decide_eq_true (hn _ (getElem_mem hlt)),CK];refine ⟨n.length - (i+1),by lia,i+1,by lia,rfl,?_⟩;have:((p+i:Nat):Int) - -1=((p+(i+1):Nat):Int):=by lia
  rw[this]
 ·obtain rfl:i=n.length:=by lia
  cases r with
  | nil=>
   rw[decide_eq_false (by simp at hl;lia)];simp! only[qJ];exact q
  | cons c r'=>
   have ea:bT t ((p+n.length:Nat):Int)=some c:=by rw[vp,<-getElem?_drop,e,getElem?_append_right (le_refl _)];simp
   rw[decide_eq_true (by simp at hl;lia)];simp! only[ea,abu,decide_eq_false (hr c rfl),qJ];exact q
theorem anv:prim sb .lE [.str n,qI] h=some (.bl (KW.contains n != true),h):=by
 have e:prim sb .lE [.str n,.tup (KW.map .str)] h=(dW (.str n) (KW.map .str)).map λb=>(.bl (b != true),h):=rfl;rw[g_]at e;exact e
theorem aat {t p':S}(hp:p<=t.length):prim sb .uR [.str t,.str p',.int p] h=some (.bl (p'.isPrefixOf (t.drop p)),h):=by
 show (if 0<=(p:Int)/\(p:Int)<=t.length then some (D.bl (p'.isPrefixOf (t.drop (p:Int).toNat)),h) else none)=_;rw[if_pos (by lia)];rfl
theorem adh {t n:S}(e:t.drop p=n++r)(hp:p<=t.length):cut t (some (p:Int)) (some ((p+n.length:Nat):Int))=n:=by
 have hl:t.length=p+n.length+r.length:=by have:=congrArg List.length e;simp at this;lia
 simp only[cut,bG];rw[if_neg (by lia),if_neg (by lia)];have e1:(min (p:Int) (t.length:Int)).toNat=p:=by lia
 have e2:(min ((p+n.length:Nat):Int) (t.length:Int)).toNat=p+n.length:=by lia
 rw[e1,e2,e,show p+n.length - p=n.length by lia];simp
theorem agL:prim sb .rZ [.str s] h=some (.bl false,h):=rfl
theorem agM:prim sb .rZ [.ref s] h=some (.bl false,h):=rfl
theorem adi:prim sb .strip [.str s,.str (tx " ")] h=some (.str (tk s),h):=rfl
def JT:Nat->List S
 | 0=>[tx "not",tx "and",tx "or"]
 | _=>[tx "not",tx "and"]
theorem ajU (hl:l<=1):∀{f:Fr},(JT l).contains (kn f)=cW l f:=by
 intro f;obtain rfl | rfl:l=0\/l=1:=by lia
 ·cases f
  ·show (JT 0).contains (tx "(")=false;decide
  ·show (JT 0).contains (tx "not")=true;decide
  ·show (JT 0).contains (tx "and")=true;decide
  ·show (JT 0).contains (tx "or")=true;decide
 ·cases f
  ·show (JT 1).contains (tx "(")=false;decide
  ·show (JT 1).contains (tx "not")=true;decide
  ·show (JT 1).contains (tx "and")=true;decide
  ·show (JT 1).contains (tx "or")=false;decide
theorem anw:∀{f:Fr},prim sb .idx [fD f,.int 0] h=some (.str (kn f),h)
 | .op=>rfl
 | .nt=>rfl
 | .an _=>rfl
 | .or _=>rfl
theorem agN:∀{f:Fr},cW l f=true->prim sb .add [fD f,.tup [sd w]] h=some (sd (fw f w),h)
 | .op,e=>by cases e
 | .nt,_=>rfl
 | .an _,_=>rfl
 | .or _,_=>rfl
theorem ajV (hl:l<=1):dW (.str (kn f)) ((JT l).map .str)=some (cW l f):=by
 rw[g_,ajU hl]
theorem n_:(f::B).reverse.map fD=B.reverse.map fD++[fD f]:=by simp
theorem Gv (hl:l<=1)(q:Q (sd (bh l B w).2) (h++[.lst ((bh l B w).1.reverse.map fD)])):
  au sb P (d+1) 6 [.ref h.length,sd w,.tup ((JT l).map .str)] (h++[.lst (B.reverse.map fD)]) Q E:=by
 refine wp_call rfl rfl ?_;simp! only[Np];refine Bo (λm σ h'=>∃(B':List Fr) (w':Sn),bh l B' w'=bh l B w/\m=B'.length/\h'=h++[.lst (B'.reverse.map fD)]/\σ=[some (.ref h.length),some (sd w'),some (.tup ((JT l).map .str))]) (m:=B.length) ⟨B,w,rfl,rfl,rfl,rfl⟩ ?_;rintro m σ h' ⟨B',w',e,rfl,rfl,rfl⟩;cases B' with
 | nil=>
  rw[<-e]at q;have t0:truthy (h++[AO.lst (([]:List Fr).reverse.map fD)]) (.ref h.length)=some false:=Gh aB;simp! only[t0,CP];exact q
 | cons f B'=>
  rw[n_];have t1:truthy (h++[AO.lst (B'.reverse.map fD++[fD f])]) (.ref h.length)=some true:=by rw[Gh aB];simp
  have ea:bT (B'.reverse.map fD++[fD f]) (-1)=some (fD f):=by rw[Cm];simp
  simp! only[t1,aD aB,ea,anw,ajV hl];cases ej:cW l f with
  | true=>
   simp! only[Nm,cP aB,Gi aB,dF,agN ej];refine ⟨B'.length,by simp,B',fw f w',?_,rfl,rfl,rfl⟩;rw[<-e];show _=if _ then _ else _
   rw[if_pos ej]
  | false=>
   have:bh l (f::B') w'=(f::B',w'):=by show (if _ then _ else _)=_;rw[if_neg (by rw[ej];decide)]
   simp! only[CP];rw[<-e,this,n_]at q;exact q
def oD:Option Sn->D
 | none=>.non
 | some w=>sd w
theorem jO:prim sb .rZ [sd w] h=some (.bl false,h):=by cases w<;>rfl
theorem iI:o8 h (.bl p) (.bl q)=some (p == q):=rfl
theorem TF:prim sb (.su cO) [.str (tx "and")] h=some (.bl true,h):=rfl
theorem X8:prim sb (.su cO) [.str (tx "or")] h=some (.bl true,h):=rfl
theorem X_:prim sb (.su cO) [.str (tx ")")] h=some (.bl true,h):=rfl
theorem Yb:prim sb (.su cO) [.str (tx "(")] h=some (.bl false,h):=rfl
theorem Yc:prim sb (.su cO) [.str (tx "not")] h=some (.bl false,h):=rfl
theorem aau:prim sb (.j5 cO) [.str (tx "and")] h=some (.tup ((JT 1).map .str),h):=rfl
theorem adk:prim sb (.j5 cO) [.str (tx "or")] h=some (.tup ((JT 0).map .str),h):=rfl
theorem adl:prim sb (.j5 cO) [.str (tx ")")] h=some (.tup ((JT 0).map .str),h):=rfl
theorem m8:∀{B:List Fr} {w:Sn},(bh l B w).1.length<=B.length
 | [],w=>le_refl _
 | f::B,w=>by
  show (if _ then _ else _:List Fr×Sn).1.length<=_;split
  ·have:=m8 (l:=l) (B:=B) (w:=fw f w);simp only[length_cons];lia
  ·exact le_refl _
theorem TJ:(tx ")" == tx ")")=true:=by decide
theorem TQ:(tx "and" == tx ")")=false:=by decide
theorem TV:(tx "or" == tx ")")=false:=by decide
theorem adn:(tx "(" == tx ")")=false:=by decide
theorem TX:(tx "not" == tx ")")=false:=by decide
theorem ado:(tx "(" == tx "(")=true:=by decide
theorem adp:(tx "not" == tx "(")=false:=by decide
theorem Ls:(tx "not" == tx "not")=true:=by decide
theorem aav:(true == false)=false:=rfl
theorem aaw:(false == true)=false:=rfl
theorem V1 (q:Q (.bl (HD n)) h):au sb P (d+1) 4 [.str n] h Q E:=by
 refine wp_call rfl rfl ?_;unfold HD at q;by_cases l1:1<=n.length
 ·have e1:decide ((1:Int)<=(n.length:Int))=true:=decide_eq_true (by lia);rw[decide_eq_true l1]at q;by_cases l2:n.length<=12
  ·have e2:decide ((n.length:Int)<=12)=true:=decide_eq_true (by lia);rw[decide_eq_true l2]at q;simp! only[nj,Gu,gK,e1,e2,anv];exact q
  ·have e2:decide ((n.length:Int)<=12)=false:=decide_eq_false (by lia);rw[decide_eq_false l2]at q;simp! only[nj,Gu,gK,e1,e2];exact q
 ·have e1:decide ((1:Int)<=(n.length:Int))=false:=decide_eq_false (by lia);rw[decide_eq_false l1]at q;simp! only[nj,Gu,gK,e1];exact q
def oS:Option S->D
 | none=>.non
 | some s=>.str s
theorem TY:∀{l:List S} {i:Nat} {p:S},(∀x∈l.take i,f x=false)->l[i]?=some p->f p=true->l.find? f=some p
 | [],i,p,_,e,_=>by cases e
 | x::l,0,p,_,e,hp=>by cases e;rw[find?_cons,hp]
 | x::l,i+1,p,h,e,hp=>by
  rw[find?_cons,h x (by simp)];exact TY (l:=l) (i:=i) (λy hy=>h y (by simp[hy])) (by simpa using e) hp
theorem RZ {t:S}(hp:p<=t.length)(q:Q (oS (pa (t.drop p))) h):au sb P (d+2) 2 [.str t,.int p] h Q E:=by
 refine wp_call rfl rfl ?_;simp! only[CJ];refine jG (xs:=PS.map .str) (J:=qp (PS.map .str)) (vs:=[IW]) (h1:=h) (λi σ h'=>h'=h/\(∀x∈PS.take i,x.isPrefixOf (t.drop p)=false)/\∃x,σ=[some (.str t),some (.int p),x,none]) (λQ q=>by simp! only;exact q) rfl ⟨rfl,by simp,none,rfl⟩ (λi σ h' _ _=>rfl) ?_ ?_
 ·rintro i v σ h' ev ⟨rfl,hni,x,rfl⟩;rw[getElem?_map]at ev;cases e1:PS[i]? with
  | none=>rw[e1]at ev;cases ev
  | some p'=>
   rw[e1]at ev;cases ev;refine ⟨_,rfl,?_⟩;simp! only[CG,aat hp];cases eb:p'.isPrefixOf (t.drop p) with
   | true=>
    have:pa (t.drop p)=some p':=by
     unfold pa;rw[TY (f:=λz=>z.isPrefixOf (t.drop p)) hni e1 eb]
    rw[this]at q;simp! only[Cz];exact q
   | false=>
    simp! only;refine ⟨λx hx=>?_,_,rfl⟩;rw[show PS.take (i+1)=PS.take i++[p'] by rw[take_succ,e1];rfl,mem_append,mem_singleton]at hx;rcases hx with hx | rfl
    ·exact hni x hx
    ·exact eb
 ·rintro σ h' ⟨rfl,hni,x,rfl⟩;have hni:∀x∈PS,x.isPrefixOf (t.drop p)=false:=by
   have:PS.take (PS.map Z.D.str).length=PS:=by rw[length_map,take_length]
   rwa [this]at hni
  have ef:(PS.find? λz=>z.isPrefixOf (t.drop p))=none:=by
   rw[List.find?_eq_none];intro x hx;rw[hni x hx];decide
  obtain ⟨s1,s2,s3⟩:=xG (r:=t.drop p);simp! only[Cy];refine V0 s1 hp s3 s2 ?_;have e2:dg (.str t) (some (p:Int)) (some ((p+(lw (t.drop p)).length:Nat):Int)) h'=some (.str (lw (t.drop p)),h'):=by
   show some (D.str (cut t _ _),h')=_;rw[adh s1 hp]
  simp! only[e2,Cw];refine V1 ?_;unfold pa at q;rw[ef]at q;cases eg:HD (lw (t.drop p)) with
  | true=>
   simp! only;simp only[if_pos eg]at q;exact q
  | false=>
   simp! only;have:¬HD (lw (t.drop p))=true:=by rw[eg];decide
   simp only[if_neg this]at q;exact q
theorem Yd {t:S}(tp:TP t o)(hl:t.length<=1000)(qn:o=none->∀h',h<+:h'->Q .non h')(qs:∀al,o=some al->Q (.ref h.length) (h++[.lst ((al.map tk).map .str)])):au sb P (d+3) 1 [.str t] h Q E:=by
 refine wp_call rfl rfl ?_;simp! only[yd,yc,xZ];refine Bo (λm σ h'=>∃(ps:List S) (o':Option (List S)) (p:Nat) (x:Option D),p<=t.length/\ps.length<=p/\TP (t.drop p) o'/\o=o'.map (ps++·)/\m=t.length - p/\h'=h++[.lst ((ps.map tk).map .str)]/\σ=[some (.str t),some (.ref h.length),some (.int p),x]) (m:=t.length) ⟨[],o,0,none,by lia,by simp,tp,by cases o<;>rfl,rfl,rfl,rfl⟩ ?_;rintro m σ h' ⟨ps,o',p,x,hp,hps,tp',eo,rfl,rfl,rfl⟩;simp! only;by_cases hlt:p < t.length
 ·rw[decide_eq_true (by lia)];simp! only[xY];refine RZ hp ?_;obtain ⟨r0,er⟩:∃r0,r0=t.drop p:=⟨_,rfl⟩
  have wu:=congrArg List.length er;rw[length_drop]at wu;rw[<-er]at tp' ⊢;cases tp' with
  | nil=>simp at wu;lia
  | bad h1 h2=>
   rw[h2];simp! only[oS,oK,gJ,xX];exact qn eo _ (prefix_append _ _)
  | @cons _ q0 o2 h1 h2 h3=>
   have hq:=length_pos_iff.mpr (VG h2);have e3:=congrArg List.length (qe h2).1;simp only[length_drop,length_append]at e3;rw[h2];simp! only[oS,oK,agL,xW,cP aB,adi,dM aB (show ((ps.map tk).map Z.D.str).length < 16777216 by simp only[length_map];lia),dF,xV];refine ⟨t.length - (p+q0.length),by lia,ps++[q0],o2,p+q0.length,some (.str q0),by lia,by simp;lia,by rw[<-drop_drop,<-er];exact h3,?_,rfl,by simp,?_⟩
   ·rw[eo,Option.map_map];congr 1;funext l;simp
   ·have:(p:Int) - -(q0.length:Int)=((p+q0.length:Nat):Int):=by lia
    rw[this]
 ·rw[decide_eq_false (by lia)];have:t.drop p=[]:=List.drop_eq_nil_iff.mpr (by lia);rw[this]at tp';cases tp' with
  | bad h1 _=>exact absurd rfl h1
  | cons h1 _ _=>exact absurd rfl h1
  | nil=>
   simp! only[xU];exact qs ps (by rw[eo];simp)
theorem adq:∀{B B':List Fr} {w w':Option Sn} {t:Tk},stP (B,w) t=some (B',w')->B'.length<=B.length+1:=by
 intro B B' w w' t e;cases w with
 | none=>
  cases t<;>simp only[stP,Option.some.injEq,Prod.mk.injEq,reduceCtorEq]at e
  ·rw[<-e.1];simp
  ·rw[<-e.1];simp
  ·rw[<-e.1];lia
 | some w=>
  cases t
  case an=>simp only[stP,Option.some.injEq,Prod.mk.injEq]at e;rw[<-e.1];have:=m8 (l:=1) (B:=B) (w:=w);simp;lia
  case or=>simp only[stP,Option.some.injEq,Prod.mk.injEq]at e;rw[<-e.1];have:=m8 (l:=0) (B:=B) (w:=w);simp;lia
  case cl=>
   have:=m8 (l:=0) (B:=B) (w:=w);simp only[stP]at e;split at e
   ·cases e
   ·rename_i q;simp only[Option.some.injEq,Prod.mk.injEq]at e;rw[q]at this;rw[<-e.1];simp at this;lia
  all_goals (simp only[stP,reduceCtorEq]at e)
theorem aax (hl:B.length<=1000)(qn:stP (B,w) (kt t)=none->∀h',h<+:h'->K.rt .non h')(qs:∀B' w',stP (B,w) (kt t)=some (B',w')->∀x4,K.nx [some (.ref a),some (.ref h.length),some (oD w'),some (.str t),x4] (h++[.lst (B'.reverse.map fD)])):
  bw sb (au sb P (d+1)) E bF K [some (.ref a),some (.ref h.length),some (oD w),some (.str t),x4] (h++[.lst (B.reverse.map fD)]):=by
 have nn:stP (B,w) (kt t)=none->K.rt .non (h++[.lst (B.reverse.map fD)]):=λe=>qn e _ (prefix_append _ _);have eqb:(true == true)=true:=rfl;have eqf:(false == false)=true:=rfl;rcases Jf t with rfl | rfl | rfl | rfl | rfl | ⟨k1,k2⟩
 ·rw[jY]at qn qs nn;cases w with
  | some w=>
   simp! only[bF,Yb,bH,oD,jO,iI,eqf,cV];exact nn rfl
  | none=>
   simp! only[bF,Yb,bH,gJ,iI,aaw,cU,oD,cI,adn,dG,fZ,ado,jF,cP aB,dM aB (show (B.reverse.map fD).length < 16777216 by simp;lia),dF];have:=qs _ _ rfl (some (.bl false));rw[n_]at this;exact this
 ·rw[jZ]at qn qs nn;cases w with
  | none=>
   simp! only[bF,X_,bH,oD,gJ,iI,eqb,cV];exact nn rfl
  | some w=>
   simp! only[bF,X_,bH,jO,iI,aav,cU,gb,adl,oD];refine Gv (by lia) ?_;cases e:(bh 0 B w).1 with
   | nil=>
    have t0:truthy (h++[AO.lst (([]:List Fr).reverse.map fD)]) (.ref h.length)=some false:=Gh aB;simp! only[cI,TJ,kE,t0,qN];exact qn (by simp only[stP,e]) _ (prefix_append _ _)
   | cons f B'=>
    rw[n_];have t1:truthy (h++[AO.lst (B'.reverse.map fD++[fD f])]) (.ref h.length)=some true:=by rw[Gh aB];simp
    simp! only[cI,TJ,kE,t1,qM,cP aB,Gi aB,dF];exact qs B' (some _) (by simp only[stP,e]) _
 ·rw[lU]at qn qs nn;cases w with
  | some w=>
   simp! only[bF,Yc,bH,oD,jO,iI,eqf,cV];exact nn rfl
  | none=>
   simp! only[bF,Yc,bH,gJ,iI,aaw,cU,oD,cI,TX,dG,fZ,adp,Ls,jF,cP aB,dM aB (show (B.reverse.map fD).length < 16777216 by simp;lia),dF];have:=qs _ _ rfl (some (.bl false));rw[n_]at this;exact this
 ·rw[jq]at qn qs nn;cases w with
  | none=>
   simp! only[bF,TF,bH,oD,gJ,iI,eqb,cV];exact nn rfl
  | some w=>
   have e2:=m8 (l:=1) (B:=B) (w:=w);simp! only[bF,TF,bH,jO,iI,aav,cU,gb,aau,oD];refine Gv (by lia) ?_;simp! only[cI,TQ,dG,kO,cP aB,dM aB (show ((bh 1 B w).1.reverse.map fD).length < 16777216 by simp;lia),dF,kJ];have:=qs _ _ rfl (some (.bl true));rw[n_]at this;exact this
 ·rw[jr]at qn qs nn;cases w with
  | none=>
   simp! only[bF,X8,bH,oD,gJ,iI,eqb,cV];exact nn rfl
  | some w=>
   have e2:=m8 (l:=0) (B:=B) (w:=w);simp! only[bF,X8,bH,jO,iI,aav,cU,gb,adk,oD];refine Gv (by lia) ?_;simp! only[cI,TV,dG,kO,cP aB,dM aB (show ((bh 0 B w).1.reverse.map fD).length < 16777216 by simp;lia),dF,kJ];have:=qs _ _ rfl (some (.bl true));rw[n_]at this;exact this
 ·have nb:∀k:S,kt k≠kt t->(t == k)=false:=λk hk=>beq_false_of_ne λz=>hk (by rw[z]);have s1:=nb (tx ")") (by rw[k1,jZ];exact λz=>by cases z);have s2:=nb (tx "(") (by rw[k1,jY];exact λz=>by cases z);have s3:=nb (tx "not") (by rw[k1,lU];exact λz=>by cases z);have s4:=nb (tx "and") (by rw[k1,jq];exact λz=>by cases z);have s5:=nb (tx "or") (by rw[k1,jr];exact λz=>by cases z);have tn:∀h,prim sb (.su cO) [.str t] h=some (.bl false,h):=λh=>by
   show some (D.bl (cO.lookup t).isSome,h)=_;simp only[cO,List.lookup,s4,s5,s1,Option.isSome_none]
  rw[k1]at qn qs nn;cases w with
  | some w=>
   simp! only[bF,tn,bH,oD,jO,iI,eqf,cV];exact nn rfl
  | none=>
   simp! only[bF,tn,bH,gJ,iI,aaw,cU,oD,cI,s1,dG,fZ,s2,s3,pC];exact qs _ _ rfl _
theorem agQ {ts:List S}(ha:h[a]?=some (.lst (ts.map .str)))(hl:ts.length<=900)(q:∀h',h<+:h'->Q (oD ((rP ([],none) (ts.map kt)).bind h_)) h'):au sb P (d+2) 5 [.ref a] h Q E:=by
 refine wp_call rfl rfl ?_;simp! only[pG,pF,pD];refine jG (xs:=ts.map .str) (J:=iu a) (vs:=[.ref a]) (h1:=h++[.lst []]) (λi σ h'=>∃(B:List Fr) (v:Option Sn) (x3 x4:Option D),h'=h++[.lst (B.reverse.map fD)]/\B.length<=i/\(rP (B,v) ((ts.drop i).map kt)).bind h_=(rP ([],none) (ts.map kt)).bind h_/\σ=[some (.ref a),some (.ref h.length),some (oD v),x3,x4])
  (λQ q=>by simp! only;exact q) (JV (aJ ha)) ⟨[],none,none,none,rfl,le_refl _,rfl,rfl⟩ ?_ ?_ ?_
 ·rintro i σ h' _ ⟨B,v,x3,x4,rfl,_⟩;simp only[iu,aJ ha]
 ·rintro i v σ h' ev ⟨B,v',x3,x4,rfl,hB,r,rfl⟩;rw[getElem?_map]at ev;cases et:ts[i]? with
  | none=>rw[et]at ev;cases ev
  | some t=>
   rw[et]at ev;cases ev;have hi:=(List.getElem?_eq_some_iff.mp et).1;have e1:ts.drop i=t::ts.drop (i+1):=by
    rw[drop_eq_getElem_cons hi];congr 1;exact Option.some.inj ((getElem?_eq_getElem hi).symm.trans et)
   rw[e1,map_cons]at r;change ((stP (B,v') (kt t)).bind _).bind h_=_ at r;refine ⟨_,rfl,aax (by lia) (λe h' pr=>?_) λB1 w1 e x4=>?_⟩
   ·rw[e]at r;rw[<-r]at q;exact q h' pr
   ·rw[e]at r;have:=adq e;exact ⟨B1,w1,_,x4,rfl,by lia,r,rfl⟩
 ·rintro σ h' ⟨B,v,x3,x4,rfl,hB,r,rfl⟩;rw[length_map,drop_length,map_nil]at r;change h_ (B,v)=_ at r;rw[<-r]at q;cases v with
  | none=>
   simp! only[kj,oD,gJ,qL];exact q _ (prefix_append _ _)
  | some w=>
   simp! only[kj,jO,qK,oD];refine Gv (l:=0) (by lia) ?_;simp only[h_]at q;cases e:(bh 0 B w).1 with
   | nil=>
    rw[e]at q;have t0:truthy (h++[AO.lst (([]:List Fr).reverse.map fD)]) (.ref h.length)=some false:=Gh aB;simp! only[kh,t0];exact q _ (prefix_append _ _)
   | cons f B'=>
    rw[e]at q;rw[n_];have t1:truthy (h++[AO.lst (B'.reverse.map fD++[fD f])]) (.ref h.length)=some true:=by rw[Gh aB];simp
    simp! only[kh,t1];exact q _ (prefix_append _ _)
theorem wz:wpS sb Γ E (.sE c e) K σ h=aL sb Γ E e σ h λx h1=>match x with
  | .int i=>E (.tup [.str c,.int i]) h1
  | _=>False:=by simp only[wpS]<;>rfl
theorem agR (tp:TP t o):∀al,o=some al->al.length<=t.length:=by
 induction tp with
 | nil=>intro al e;cases e;simp
 | bad _ _=>intro al e;cases e
 | @cons r q0 o h1 h2 h3 ih=>
  intro al e;obtain ⟨al',rfl,rfl⟩:=map_eq_some_iff.mp e;have:=ih al' rfl;have hq:=length_pos_iff.mpr (VG h2);have e3:=congrArg List.length (qe h2).1;simp only[length_drop,length_append]at e3 this;simp only[length_cons];lia
theorem adt (tp:TP t o)(q1:120 < t.length->∀h',h<+:h'->E (.tup [.str (tx "TooLong"),.int i]) h')(q2:t.length<=120->tQ o=none->∀h',h<+:h'->E (.tup [.str (tx "NoSentence"),.int i]) h')(q3:∀s,t.length<=120->tQ o=some s->∀h',h<+:h'->Q (sd s) h'):au sb P (d+4) 0 [.str t,.int i] h Q E:=by
 refine wp_call rfl rfl ?_;by_cases hl:120 < t.length
 ·have l1:decide ((120:Int) < (t.length:Int))=true:=decide_eq_true (by lia);simp! only[jE,lO,l1,pB,wz];exact q1 hl h iM
 ·have l1:decide ((120:Int) < (t.length:Int))=false:=decide_eq_false (by lia);simp! only[jE,lO,l1,pA];refine Yd tp (by lia) (λeo h' pr=>?_) λal eo=>?_
  ·simp! only[jD,gJ,fY,jC,wz];exact q2 (by lia) (by rw[eo];rfl) h' pr
  ·have:=agR tp al eo;simp! only[jD,agM];refine agQ aB (by rw[length_map];lia) λh' pr=>?_;have er:(rP ([],none) ((al.map tk).map kt)).bind h_=tQ o:=by rw[eo,List.map_map];rfl
   rw[er];cases e:tQ o with
   | none=>
    simp! only[oD,fY,gJ,jC,wz];exact q2 (by lia) e h' (pre_of pr)
   | some s=>
    simp! only[oD,fY,jO,o_];exact q3 s (by lia) e h' (pre_of pr)
def kW (t:S):Bool:=decide (t=tx "(") || (decide (t=tx ")") || decide (t=sB))
def pI (ts:List S)(c:Nat):List S:=match ts.getLast? with
 | none=>[[c]]
 | some l=>if sep c=true\/kW l=true then ts++[[c]] else ts.dropLast++[l++[c]]
theorem Jg:kW [c]=sep c:=by
 unfold kW sep sB;rw[dw,dN];simp
theorem T3 (h:sep c=false):kW (c::w)=false:=by
 cases w with
 | nil=>rw[Jg];exact h
 | cons d w=>simp[kW,sB,dw,dN]
theorem xH (h:ts≠[]):pI (x::ts) c=x::pI ts c:=by
 obtain ⟨ini,l,rfl⟩:∃ini l,ts=ini++[l]:=⟨ts.dropLast,ts.getLast h,(List.dropLast_concat_getLast h).symm⟩
 unfold pI;have e1:(x::(ini++[l])).getLast?=some l:=by rw[<-cons_append,List.getLast?_concat]
 have e2:(ini++[l]).getLast?=some l:=List.getLast?_concat;rw[e1,e2];dsimp only;split
 ·rfl
 ·have:(x::(ini++[l])).dropLast=x::ini:=by rw[<-cons_append,List.dropLast_concat]
  rw[this,List.dropLast_concat];rfl
theorem abw (h:r≠[]):lt r≠[]:=λz=>h (by have:=(Gn (r:=r)).2;rw[z]at this;exact this.symm)
theorem T4:∀{s:S} {c:Nat},lt (s++[c])=pI (lt s) c
 | [],c=>by
  show lt [c]=[[c]];rw[lt.eq_def];by_cases h:sep c=true
  ·simp only[if_pos h];rfl
  ·simp only[if_neg h]
 | d::s,c=>by
  have ih:=T4 (s:=s) (c:=c);by_cases hd:sep d=true
  ·rw[cons_append,jg hd,jg hd,ih];cases s with
   | nil=>
    show [d]::[[c]]=pI [[d]] c;unfold pI;show _=if sep c=true\/kW [d]=true then _ else _
    rw[if_pos (.inr (by rw[Jg];exact hd))];rfl
   | cons e s=>rw[xH (abw (by simp))]
  ·have hd':sep d=false:=by simpa using hd
   cases s with
   | nil=>
    have e1:lt [d]=[[d]]:=by rw[lt.eq_def];simp only[hd'];rfl
    rw[e1];show lt [d,c]=pI [[d]] c;unfold pI;show _=if sep c=true\/kW [d]=true then [[d],[c]] else [[d,c]]
    by_cases hc:sep c=true
    ·rw[if_pos (.inl hc)];rw[lt.eq_def];simp only[hd',hc,if_true];rw[jg hc];rfl
    ·have hc':sep c=false:=by simpa using hc
     have e2:lt [c]=[[c]]:=by rw[lt.eq_def];simp only[hc'];rfl
     rw[if_neg (by rintro (z | z);exact hc z;rw[Jg]at z;exact hd z)];rw[lt.eq_def];simp only[hd',hc',e2];rfl
   | cons e s=>
    by_cases he:sep e=true
    ·have e1:∀r,lt (d::e::r)=[d]::lt (e::r):=λr=>by
      rw[lt.eq_def];simp only[hd',he,if_true];rfl
     show lt (d::e::(s++[c]))=_;rw[e1,e1,xH (abw (by simp))];exact congrArg _ ih
    ·have he':sep e=false:=by simpa using he
     have e1:∀r,lt (d::e::r)=match lt (e::r) with | w::ws=>(d::w)::ws | []=>[[d]]:=λr=>by
      rw[lt.eq_def];simp only[hd',he'];rfl
     show lt (d::e::(s++[c]))=_;rw[e1,e1];have ih':lt (e::(s++[c]))=pI (lt (e::s)) c:=ih;rw[ih']
     -- the first word begins with e
     obtain ⟨w,ws,ew⟩:∃w ws,lt (e::s)=(e::w)::ws:=by
      have lx:=Gn (r:=e::s);generalize lt (e::s)=ts at lx;obtain ⟨l1,l2⟩:=lx;cases l1 with
      | nil=>cases l2
      | @sp c' ts hs hl=>
       change c'::ts.flatten=_ at l2;injection l2 with z _
       rw[z]at hs;rw[hs]at he';cases he'
      | @wd w ts h1 h2 h3 h4=>
       obtain ⟨c',w',rfl⟩:=List.exists_cons_of_ne_nil h1;change c'::(w'++ts.flatten)=_ at l2;injection l2 with z _
       exact ⟨w',ts,by rw[z]⟩
     rw[ew];cases ws with
     | nil=>
      unfold pI;show (match (if sep c=true\/kW (e::w)=true then [e::w,[c]] else [e::w++[c]]) with | w::ws=>(d::w)::ws | []=>[[d]])=if sep c=true\/kW (d::e::w)=true then [d::e::w,[c]] else [d::e::w++[c]]
      rw[T3 he',T3 hd'];by_cases hc:sep c=true
      ·rw[if_pos (.inl hc),if_pos (.inl hc)]
      ·rw[if_neg (by simp[hc]),if_neg (by simp[hc])];rfl
     | cons x xs=>
      have a1:=xH (x:=e::w) (ts:=x::xs) (c:=c) (by simp);have a2:=xH (x:=d::e::w) (ts:=x::xs) (c:=c) (by simp);rw[a1];exact a2.symm
theorem Ye:(lt r).length<=r.length:=by
 obtain ⟨l1,l2⟩:=Gn (r:=r);have:∀ts:List S,LX ts->ts.length<=ts.flatten.length:=by
  intro ts h
  induction h with
  | nil=>simp
  | sp _ _ ih=>simp only[length_cons,flatten_cons,length_append,length_nil];lia
  | wd h1 _ _ _ ih=>have:=length_pos_iff.mpr h1;simp only[length_cons,flatten_cons,length_append];lia
 have:=this _ l1;rw[l2]at this;exact this
theorem adu:∀w∈lt r,w.length<=r.length:=by
 intro w hw;have:=(Gn (r:=r)).2;have h2:w.length<=(lt r).flatten.length:=(List.sublist_flatten_of_mem hw).length_le;rw[this]at h2;exact h2
theorem adv (ha:h[a]?=some (.lst (xs++[v]))):prim sb .fB [.ref a,.int (-1),y] h=some (.non,h.set a (.lst (xs++[y]))):=by
 show (match h[a]? with | some (.dct kvs)=>_ | some (.lst xs)=>_ | _=>none)=_;rw[ha];show (match lD (xs++[v]).length (-1) with | some j=>some (Z.D.non,h.set a (.lst ((xs++[v]).set j y))) | none=>none)=_;have e:lD (xs++[v]).length (-1)=some xs.length:=by
  unfold lD;rw[if_neg (by decide),if_pos (by simp;lia)];simp;lia
 rw[e];simp
theorem agS:prim sb .GX [.str [c],.str (tx "() ")] h=some (.bl (sep c),h):=by
 show some (D.bl (jh [c] (tx "() ")),h)=_;rw[n8,show tx "() "=[40,41,32] by decide];have:decide (c∈[40,41,32])=sep c:=by unfold sep;simp
 rw[this]
theorem p7:tx " "=sB:=by decide
theorem T5:dW (.str l) [.str (tx "("),.str (tx ")"),.str (tx " ")]=some (kW l):=by
 have:=g_ (x:=l) (ss:=[tx "(",tx ")",tx " "]);rw[show List.map Z.D.str [tx "(",tx ")",tx " "]=[.str (tx "("),.str (tx ")"),.str (tx " ")] from rfl]at this;rw[this];unfold kW;rw[p7];by_cases h1:l=tx "("
 ·simp[h1]
 ·by_cases h2:l=tx ")"
  ·simp[h1,h2]
  ·by_cases h3:l=sB
   ·simp[h3]
   ·simp[h1,h2,h3]
theorem agT (hl:t.length<=5000)(q:Q (.ref h.length) (h++[.lst ((lt t).map .str)])):au sb P (d+1) 18 [.str t] h Q E:=by
 refine wp_call rfl rfl ?_;simp! only[vR,vQ];refine jG (xs:=t.map λc=>.str [c]) (J:=qp (t.map λc=>.str [c])) (vs:=[.str t]) (h1:=h++[.lst []]) (λi σ h'=>h'=h++[.lst ((lt (t.take i)).map .str)]/\∃x,σ=[some (.str t),some (.ref h.length),x]) (λQ q=>by simp! only;exact q) rfl ⟨rfl,none,rfl⟩ (λi σ h' _ _=>rfl) ?_ ?_
 ·rintro i v σ h' ev ⟨rfl,x,rfl⟩;rw[getElem?_map]at ev;cases et:t[i]? with
  | none=>rw[et]at ev;cases ev
  | some c=>
   rw[et]at ev;cases ev;have hi:=(List.getElem?_eq_some_iff.mp et).1;refine ⟨_,rfl,?_⟩;have tk1:t.take (i+1)=t.take i++[c]:=by rw[take_succ,et];rfl
   have hlen:(lt (t.take i)).length<=5000:=le_trans Ye (by simp;lia);have hw:∀w∈lt (t.take i),w.length<=5000:=λw h=>le_trans (adu w h) (by simp;lia);rw[tk1,T4];generalize lt (t.take i)=ts at hlen hw;simp! only[vP,agS];by_cases hts:ts=[]
   ·subst hts;have g0:([]:List D).length < 16777216:=by simp
    have e1:(pI [] c).map Z.D.str=[.str [c]]:=rfl;cases hc:sep c with
    | true=>
     simp! only[gQ,cP aB,dM aB g0,dF,e1];exact ⟨_,rfl⟩
    | false=>
     have e0:(((0:Nat):Int) == 0)=true:=rfl;simp! only[gw aB,e0,gQ,cP aB,dM aB g0,dF,e1];exact ⟨_,rfl⟩
   ·obtain ⟨ini,l,rfl⟩:∃ini l,ts=ini++[l]:=⟨ts.dropLast,ts.getLast hts,(List.dropLast_concat_getLast hts).symm⟩
    have em:(ini++[l]).map Z.D.str=ini.map Z.D.str++[.str l]:=by simp
    have hl2:=hw l (by simp);have es:pI (ini++[l]) c=if sep c=true\/kW l=true then ini++[l]++[[c]] else ini++[l++[c]]:=by
     unfold pI;rw[List.getLast?_concat];dsimp only;rw[List.dropLast_concat]
    have app:bw sb (au sb P d) E gQ {nx:=λσ h'=>h'=h++[.lst ((ini++[l]++[[c]]).map .str)]/\∃x,σ=[some (.str t),some (.ref h.length),x],rt:=Q,bk:=λσ' h'=>bw sb (au sb P d) E mW {nx:=λx h=>Q .non h,rt:=Q} σ' h',ct:=λσ h'=>h'=h++[.lst ((ini++[l]++[[c]]).map .str)]/\∃x,σ=[some (.str t),some (.ref h.length),x]}
      [some (.str t),some (.ref h.length),some (.str [c])] (h++[.lst ((ini++[l]).map .str)]):=by
     simp! only[gQ,cP aB,dM aB (show ((ini++[l]).map Z.D.str).length < 16777216 by rw[length_map];lia),dF];exact ⟨by simp,_,rfl⟩
    have es1:sep c=true->pI (ini++[l]) c=ini++[l]++[[c]]:=λz=>by rw[es,if_pos (.inl z)]
    have es2:kW l=true->pI (ini++[l]) c=ini++[l]++[[c]]:=λz=>by rw[es,if_pos (.inr z)]
    have es3:sep c=false->kW l=false->pI (ini++[l]) c=ini++[l++[c]]:=λz y=>by rw[es,if_neg (by rw[z,y];simp)]
    cases hc:sep c with
    | true=>
     rw[es1 hc];simp! only;exact app
    | false=>
     have en:(((((ini++[l]).map Z.D.str).length:Nat):Int) == 0)=false:=by
      simp;lia
     have ea:bT ((ini++[l]).map Z.D.str) (-1)=some (.str l):=by rw[Cm];simp
     cases hs:kW l with
     | true=>
      rw[es2 hs];simp! only[gw aB,en,aD aB,ea,T5,hs];exact app
     | false=>
      rw[es3 hc hs];simp! only[gw aB,en,aD aB,ea,T5,hs,vN];rw[if_pos (by lia)];rw[em];simp! only[adv aB,dF];exact ⟨by simp,_,rfl⟩
 ·rintro σ h' ⟨rfl,x,rfl⟩;rw[length_map,take_length];simp! only[mW];exact q
theorem aay:prim sb .lE [x,.tup ys] h=(dW x ys).map λb=>(.bl (b != true),h):=by cases x<;>rfl
theorem J_:dW (.str l) [.str (tx "not"),.str (tx "and"),.str (tx "or")]=some (J3.contains l):=g_ (ss:=[tx "not",tx "and",tx "or"])
theorem abx:dW (.str l) [.str (tx "and"),.str (tx "or")]=some (J2.contains l):=g_ (ss:=[tx "and",tx "or"])
theorem ajW:dW (.str l) [.str (tx "always"),.str (tx "where"),.str (tx "usually")]=some (WK.contains l):=g_ (ss:=[tx "always",tx "where",tx "usually"])
theorem Gw {a b:S}:(a == b)=decide (a=b):=by
 by_cases h:a=b
 ·subst h;simp
 ·simp[h]
theorem anx {a t b:S}{tr rr k:D}{K:En}(qt:ck a t b=true->K.nx [some tr,some rr,some k,some (.str a),some (.str b)] h)(qf:ck a t b=false->K.rt (.bl false) h)(hk:prim sb .idx [tr,k] h=some (.str t,h)):
  bw sb (au sb P d) E lQ K [some tr,some rr,some k,some (.str a),some (.str b)] h:=by
 have last:(J2.contains t=true->a=sB/\b=sB)->(t=sB->(a≠sB/\b≠sB)/\(J3.contains a=true\/J2.contains b=true))->bw sb (au sb P d) E mX K [some tr,some rr,some k,some (.str a),some (.str b)] h:=by
  intro h2 h1;simp! only[mX,hk,Gw];by_cases c3:t=tx "not"
  ·subst c3;rw[VN]at qt qf;rw[decide_eq_true rfl];rw[p7];by_cases hb:b=sB
   ·rw[decide_eq_true hb]at qt ⊢;simp! only;exact qt rfl
   ·rw[decide_eq_false hb]at qf ⊢;simp! only[vV];exact qf rfl
  ·rw[decide_eq_false c3];simp! only;refine qt ?_;unfold ck;rw[if_neg c3];by_cases c1:t=sB
   ·obtain ⟨⟨k1,k2⟩,k3⟩:=h1 c1;rw[if_pos c1,decide_eq_false k1,decide_eq_false k2];have j2:J2.contains t=false:=by rw[c1];decide
    rw[j2];have k4:(J3.contains a || J2.contains b)=true:=by
     rcases k3 with k3 | k3
     ·rw[k3];rfl
     ·rw[k3,Bool.or_true]
    rw[k4];rfl
   ·rw[if_neg c1];cases j2:J2.contains t with
    | false=>rfl
    | true=>
     obtain ⟨k1,k2⟩:=h2 j2;rw[decide_eq_true k1,decide_eq_true k2];rfl
 have mid:(t=sB->(a≠sB/\b≠sB)/\(J3.contains a=true\/J2.contains b=true))->bw sb (au sb P d) E mZ K [some tr,some rr,some k,some (.str a),some (.str b)] h:=by
  intro h1;simp! only[mZ,hk,abx];cases j2:J2.contains t with
  | false=>
   simp! only;exact last (λz=>by rw[j2]at z;cases z) h1
  | true=>
   have bj:t=tx "and"\/t=tx "or":=by have:=contains_iff_mem.mp j2;simpa [J2] using this
   simp! only[Gw,p7];by_cases k1:a=sB
   ·rw[decide_eq_true k1];simp! only;by_cases k2:b=sB
    ·rw[decide_eq_true k2];simp! only;exact last (λ_=>⟨k1,k2⟩) h1
    ·rw[decide_eq_false k2];simp! only[mY];exact qf (by rw[Je bj,decide_eq_false k2,Bool.and_false])
   ·rw[decide_eq_false k1];simp! only[mY];exact qf (by rw[Je bj,decide_eq_false k1];rfl)
 simp! only[lQ,hk,Gw,p7];by_cases c1:t=sB
 ·subst c1;rw[decide_eq_true rfl];rw[VP]at qt qf;simp! only[vY,Gw,p7];by_cases k1:a=sB
  ·rw[decide_eq_true k1]at qf ⊢;simp! only[m5];exact qf rfl
  ·rw[decide_eq_false k1]at qf ⊢;simp! only;by_cases k2:b=sB
   ·rw[decide_eq_true k2]at qf ⊢;simp! only[m5];exact qf rfl
   ·rw[decide_eq_false k2]at qf ⊢;simp! only[vX,aay,J_,abx];cases j3:J3.contains a with
    | true=>
     simp! only;exact mid λ_=>⟨⟨k1,k2⟩,.inl j3⟩
    | false=>
     simp! only;cases j2:J2.contains b with
     | true=>
      simp! only;exact mid λ_=>⟨⟨k1,k2⟩,.inr j2⟩
     | false=>
      simp! only[vW];exact qf (by rw[j3,j2];rfl)
 ·rw[decide_eq_false c1];simp! only;exact mid λz=>absurd z c1
theorem aaz (ha:h[a]?=some (.lst (ts.map .str)))(hl:ts.length<=5000)(q:∀h',h<+:h'->Q (.bl (bl sB ts)) h'):au sb P (d+1) 19 [.ref a] h Q E:=by
 refine wp_call rfl rfl ?_;simp! only[tO];have hb0:tx " "=sB:=p7;rw[iy (a:=h.length) (b:=a) aB (aJ ha) (by simp;lia)];simp! only;have g1:∀o,((h++[AO.lst [.str (tx " ")]])++[AO.lst (.str (tx " ")::ts.map .str)]++[o])[(h++[AO.lst [.str (tx " ")]]).length]?=some (.lst (.str (tx " ")::ts.map .str)):=λo=>aJ aB;rw[iy (g1 _) aB (by simp;lia)];simp! only[tM];generalize hr:(h++[AO.lst [.str (tx " ")]])++[AO.lst (.str (tx " ")::ts.map .str)]++[AO.lst [.str (tx " ")]]=h1;have pr:h<+:h1:=by rw[<-hr];exact pre_app (pre_app (prefix_append _ _))
 have hrm:(h1++[AO.lst (.str (tx " ")::(ts.map .str++[.str (tx " ")]))])[h1.length]?=some (.lst (([sB]++ts++[sB]).map .str)):=by
  rw[aB,p7];simp
 have ha2:(h1++[AO.lst (.str (tx " ")::(ts.map .str++[.str (tx " ")]))])[a]?=some (.lst (ts.map .str)):=aJ (aK pr ha);have b_:h<+:h1++[AO.lst (.str (tx " ")::(ts.map .str++[.str (tx " ")]))]:=pre_app pr;clear g1 hr;generalize h1.length=ra at hrm ⊢;generalize h1++[AO.lst (.str (tx " ")::(ts.map .str++[.str (tx " ")]))]=h2 at hrm ha2 b_ ⊢;have f0:([sB]++ts++[sB])[0]?=some sB:=rfl;have f1:∀(i:Nat) (hi:i < ts.length),([sB]++ts++[sB])[i+1]?=some ts[i]:=λi hi=>by
  rw[append_assoc,singleton_append,getElem?_cons_succ,getElem?_append_left hi,getElem?_eq_getElem hi]
 have f2:∀(i:Nat) (hi:i < ts.length),([sB]++ts++[sB])[i+2]?=some (lV (ts.drop (i+1))):=λi hi=>by
  rw[append_assoc,singleton_append,getElem?_cons_succ];by_cases hj:i+1 < ts.length
  ·rw[getElem?_append_left hj,drop_eq_getElem_cons hj,getElem?_eq_getElem hj];rfl
  ·have:i+1=ts.length:=by lia
   rw[getElem?_append_right (by lia),this];simp[lV]
 generalize [sB]++ts++[sB]=rm at hrm f0 f1 f2;refine lH (lo:=0) (n:=ts.length) (vs:=[.int ts.length]) (h1:=h2) (λi σ h'=>h'=h2/\(∃a0,rm[i]?=some a0/\bl sB ts=bl a0 (ts.drop i))/\∃x2 x3 x4,σ=[some (.ref a),some (.ref ra),x2,x3,x4]) (λQ q=>by simp! only[gw ha2,length_map];exact q) (by simp[bM,iZ,iR,i_,jc,iw,okR];lia) ⟨rfl,⟨sB,f0,rfl⟩,none,none,none,rfl⟩ ?_ ?_
 ·rintro i σ h' hi ⟨rfl,⟨a0,e0,eb⟩,x2,x3,x4,rfl⟩;refine ⟨_,rfl,?_⟩;have e1:ts.drop i=ts[i]::ts.drop (i+1):=drop_eq_getElem_cons hi;have et:ts[i]?=some ts[i]:=getElem?_eq_getElem hi;have e2:=f1 i hi;have e3:=f2 i hi;have a1:bT (rm.map Z.D.str) (0+(i:Int))=some (.str a0):=by
   rw[dO (by lia),show (0+(i:Int)).toNat=i by lia,getElem?_map,e0];rfl
  have a2:bT (rm.map Z.D.str) (0+(i:Int)+2)=some (.str (lV (ts.drop (i+1)))):=by
   rw[dO (by lia),show (0+(i:Int)+2).toNat=i+2 by lia,getElem?_map,e3];rfl
  have a3:prim sb .idx [.ref a,.int (0+(i:Int))] h'=some (.str ts[i],h'):=by
   rw[aD ha2,dO (by lia),show (0+(i:Int)).toNat=i by lia,getElem?_map,et];rfl
  simp! only[tL,aD hrm,a1,tK,a2];rw[e1]at eb;change _=(ck a0 ts[i] (lV (ts.drop (i+1))) && bl ts[i] (ts.drop (i+1))) at eb;refine anx (λz=>?_) (λz=>?_) a3
  ·rw[z,Bool.true_and]at eb;exact ⟨rfl,⟨_,e2,eb⟩,_,_,_,rfl⟩
  ·rw[z,Bool.false_and]at eb;rw[eb]at q;exact q _ b_
 ·rintro σ h' ⟨rfl,⟨a0,e0,eb⟩,x2,x3,x4,rfl⟩;rw[drop_length]at eb;rw[eb]at q;simp! only[vU];exact q _ b_
theorem agU (q:Q (.bl (pH t)) h):au sb P (d+1) 21 [.str t] h Q E:=by
 refine wp_call rfl rfl ?_;unfold pH at q;simp! only[DG,ajW];cases hw:WK.contains t with
 | true=>
  rw[hw]at q;simp! only[Dz];exact q
 | false=>
  rw[hw]at q;simp! only[Dy];refine jG (xs:=t.map λc=>.str [c]) (J:=qp (t.map λc=>.str [c])) (vs:=[.str t]) (h1:=h) (λi σ h'=>h'=h/\(∀c∈t.take i,c∈eN)/\∃x,σ=[some (.str t),x]) (λQ q=>by simp! only;exact q) rfl ⟨rfl,by simp,none,rfl⟩ (λi σ h' _ _=>rfl) ?_ ?_
  ·rintro i v σ h' ev ⟨rfl,hc,x,rfl⟩;rw[getElem?_map]at ev;cases et:t[i]? with
   | none=>rw[et]at ev;cases ev
   | some c=>
    rw[et]at ev;cases ev;refine ⟨_,rfl,?_⟩;have en:prim sb .KJ [.str [c],.str (tx "abcdefghijklmnopqrstuvwxyz")] h'=some (.bl (!decide (c∈eN)),h'):=by
     show some (D.bl (!jh [c] eN),h')=_;rw[n8]
    simp! only[Dw,en];by_cases hm:c∈eN
    ·rw[decide_eq_true hm];simp! only;refine ⟨λx hx=>?_,_,rfl⟩;rw[take_succ,et,mem_append]at hx;rcases hx with hx | hx
     ·exact hc x hx
     ·simp at hx;rw[hx];exact hm
    ·rw[decide_eq_false hm];have ea:t.all (λc=>eN.contains c)=false:=by
      rw[eq_false_iff];intro z;exact hm (contains_iff_mem.mp (all_eq_true.mp z c (mem_of_getElem? et)))
     rw[ea]at q;simp! only[Dv];exact q
  ·rintro σ h' ⟨rfl,hc,x,rfl⟩;rw[length_map,take_length]at hc;have ea:t.all (λc=>eN.contains c)=true:=all_eq_true.mpr λc hm=>contains_iff_mem.mpr (hc c hm);rw[ea]at q;simp! only[Du];have tR:decide ((t.length:Int)<=12)=decide (t.length<=12):=by
    by_cases h12:t.length<=12
    ·rw[decide_eq_true h12,decide_eq_true (by lia)]
    ·rw[decide_eq_false h12,decide_eq_false (by lia)]
   rw[tR];exact q
def iD:It->D
 | .nt=>.str (tx "not")
 | .an=>.str (tx "and")
 | .or=>.str (tx "or")
 | .tr t=>sd t
def wA:It->Bool
 | .tr _=>false
 | _=>true
theorem Yg:∀{x:It},prim sb (.fV .str) [iD x] h=some (.bl (wA x),h)
 | .nt=>rfl
 | .an=>rfl
 | .or=>rfl
 | .tr t=>by cases t<;>rfl
theorem ajX:o8 h (sd t) (.str k)=some false:=by cases t<;>rfl
def wv (t:Sn):List (Bool×Sn)->List It
 | []=>[.tr t]
 | (b,u)::l=>.tr t::(if b then .an else .or)::wv u l
theorem Ka:∀{b:List It} {p:Sn×List (Bool×Sn)},fW b=some p->b=wv p.1 p.2
 | [],p,e=>by cases e
 | .nt::_,p,e=>by cases e
 | .an::_,p,e=>by cases e
 | .or::_,p,e=>by cases e
 | [.tr t],p,e=>by cases e;rfl
 | .tr t::.nt::_,p,e=>by cases e
 | .tr t::.tr _::_,p,e=>by cases e
 | .tr t::.an::r,p,e=>by
  change (fW r).map _=some p at e;obtain ⟨q,e1,rfl⟩:=map_eq_some_iff.mp e;rw[Ka e1];rfl
 | .tr t::.or::r,p,e=>by
  change (fW r).map _=some p at e;obtain ⟨q,e1,rfl⟩:=map_eq_some_iff.mp e;rw[Ka e1];rfl
theorem Q9:∀{l:List (Bool×Sn)},(wv t l).length=2 * l.length+1:=by
 intro l
 induction l generalizing t with
 | nil=>rfl
 | cons x l ih=>obtain ⟨b,u⟩:=x;simp only[wv,length_cons,ih];lia
theorem agV:∀{l:List (Bool×Sn)} {j:Nat} {x:It},(wv t l)[j]?=some x->wA x=(j % 2 == 1):=by
 intro l
 induction l generalizing t with
 | nil=>
  intro j x e;cases j with
  | zero=>cases e;rfl
  | succ j=>cases e
 | cons y l ih=>
  obtain ⟨b,u⟩:=y;intro j x e
  match j with
  | 0=>cases e;rfl
  | 1=>
   simp only[wv,getElem?_cons_succ,List.getElem?_cons_zero,Option.some.injEq]at e;rw[<-e];cases b<;>rfl
  | j+2=>
   have:=ih (t:=u) (j:=j) (x:=x) (by simpa [wv] using e);rw[this,Nat.add_mod_right]
theorem ajY:∀{l:List (Bool×Sn)} {j:Nat} {b:Bool} {u:Sn},l[j]?=some (b,u)->(wv t l)[2 * j+1]?=some (if b then .an else .or)/\(wv t l)[2 * j+2]?=some (.tr u):=by
 intro l
 induction l generalizing t with
 | nil=>intro j b u e;cases e
 | cons y l ih=>
  obtain ⟨b',u'⟩:=y;intro j b u e;cases j with
  | zero=>
   cases e;refine ⟨rfl,?_⟩;show (wv u' l)[0]?=_;cases l with
   | nil=>rfl
   | cons z l=>obtain ⟨_,_⟩:=z;rfl
  | succ j=>
   have:=ih (t:=u') (j:=j) (b:=b) (u:=u) (by simpa using e);exact this
theorem V2:∀{b:List It},(∀x∈b,x≠.nt)->(∀(j:Nat) (x:It),b[j]?=some x->wA x=(j % 2 == 1))->b.length % 2=1->∃p,fW b=some p
 | [],_,_,h=>by simp at h
 | .nt::_,hn,_,_=>absurd rfl (hn _ (by simp))
 | .an::_,_,h,_=>by have:=h 0 _ rfl;simp[wA]at this
 | .or::_,_,h,_=>by have:=h 0 _ rfl;simp[wA]at this
 | [.tr t],_,_,_=>⟨_,rfl⟩
 | .tr t::.nt::_,hn,_,_=>absurd rfl (hn _ (by simp))
 | .tr t::.tr _::_,_,h,_=>by have:=h 1 _ rfl;simp[wA]at this
 | .tr t::.an::r,hn,h,hl=>by
  obtain ⟨p,e⟩:=V2 (b:=r) (λx hx=>hn x (by simp[hx])) (λj x e=>by have:=h (j+2) x (by simpa using e);rwa [Nat.add_mod_right]at this) (by simp at hl;lia);exact ⟨_,by show (fW r).map _=_;rw[e];rfl⟩
 | .tr t::.or::r,hn,h,hl=>by
  obtain ⟨p,e⟩:=V2 (b:=r) (λx hx=>hn x (by simp[hx])) (λj x e=>by have:=h (j+2) x (by simpa using e);rwa [Nat.add_mod_right]at this) (by simp at hl;lia);exact ⟨_,by show (fW r).map _=_;rw[e];rfl⟩
theorem xJ:∀{its b:List It},NF its=some b->(∀x∈b,x≠.nt)/\b.length<=its.length
 | [],b,e=>by cases e;exact ⟨by simp,by simp⟩
 | .nt::r,b,e=>by
  cases er:NF r with
  | none=>simp[NF,er]at e
  | some b'=>
   obtain ⟨h1,h2⟩:=xJ er;simp only[NF,er]at e;split at e
   ·rename_i t r' z;cases z;cases e;refine ⟨λx hx=>?_,by simp at h2 ⊢;lia⟩;rcases mem_cons.mp hx with rfl | hx
    ·exact λz=>by cases z
    ·exact h1 x (by simp[hx])
   ·cases e
 | .an::r,b,e=>by
  obtain ⟨b',er,rfl⟩:=map_eq_some_iff.mp (show (NF r).map _=some b from e);obtain ⟨h1,h2⟩:=xJ er;refine ⟨λx hx=>?_,by simp;lia⟩;rcases mem_cons.mp hx with rfl | hx
  ·exact λz=>by cases z
  ·exact h1 x hx
 | .or::r,b,e=>by
  obtain ⟨b',er,rfl⟩:=map_eq_some_iff.mp (show (NF r).map _=some b from e);obtain ⟨h1,h2⟩:=xJ er;refine ⟨λx hx=>?_,by simp;lia⟩;rcases mem_cons.mp hx with rfl | hx
  ·exact λz=>by cases z
  ·exact h1 x hx
 | .tr t::r,b,e=>by
  obtain ⟨b',er,rfl⟩:=map_eq_some_iff.mp (show (NF r).map _=some b from e);obtain ⟨h1,h2⟩:=xJ er;refine ⟨λx hx=>?_,by simp;lia⟩;rcases mem_cons.mp hx with rfl | hx
  ·exact λz=>by cases z
  ·exact h1 x hx
theorem Yh:∀{xs:List It},NF r=none->NF (xs++r)=none
 | [],h=>h
 | x::xs,h=>by
  have:=Yh (xs:=xs) h;cases x<;>simp only[cons_append,NF,this,Option.map_none]
def fo:List Sn->Option Sn
 | []=>none
 | x::xs=>some (xs.foldl .or x)
theorem T6:∀{ini:List Sn} {l:Sn},fo (ini++[l])=some (jo (fo ini) l)
 | [],l=>rfl
 | x::xs,l=>by
  show some ((xs++[l]).foldl .or x)=_;rw[List.foldl_append];rfl
theorem adw:∀{l:List (Bool×Sn)},comb acc bQ w l=comb acc none (ja bQ w) l
 | []=>rfl
 | (true,_)::_=>rfl
 | (false,_)::_=>rfl
theorem adx (ha:h[a]?=some (.lst ((wv t l).map iD)))(hl:l.length<=1000)(q:∀h',h<+:h'->Q (sd (comb none none t l)) h'):
  bw sb (au sb P d) E qT {nx:=λ_ h=>Q .non h,rt:=Q} [some (.ref a),x1,x2,x3,none,none,none] h:=by
 have a0:bT ((wv t l).map iD) 0=some (sd t):=by
  rw[dO (by decide)];cases l with
  | nil=>rfl
  | cons y l=>obtain ⟨_,_⟩:=y;rfl
 simp! only[qT,aD ha,a0,Dt];have hln:((wv t l).map iD).length=2 * l.length+1:=by rw[length_map,Q9]
 have ha1:∀o,(h++[o])[a]?=some (.lst ((wv t l).map iD)):=λo=>aJ ha;refine jG (xs:=(List.range l.length).map λj=>.int ((2 * j+1:Nat):Int)) (J:=uT 1 2 l.length) (vs:=[.int 1,.int (((wv t l).map iD).length:Nat),.int 2]) (h1:=h++[.lst [sd t]])
  (λi σ h'=>∃(ini:List Sn) (last:Sn) (x3:Option D),h'=h++[.lst ((ini++[last]).map sd)]/\ini.length<=i/\comb (fo ini) none last (l.drop i)=comb none none t l/\σ=[some (.ref a),x1,x2,x3,some (.ref h.length),none,none])
  (λQ q=>by simp! only[gw (ha1 _)];exact q) ?_ ⟨[],t,x3,rfl,by simp,rfl,rfl⟩ ?_ ?_ ?_
 ·simp only[bM,iR];have ok:R8 1 (((wv t l).map iD).length:Nat) 2=true:=KQ.mpr (by rw[hln];lia);rw[if_pos ok];congr 1;rw[hln];by_cases h0:l.length=0
  ·rw[if_neg (by lia)];rw[h0]
  ·rw[if_pos (by lia)];congr 1
   lia
 ·rintro i σ h' hi _;rw[length_map,length_range]at hi;unfold uT;by_cases hlt:i < l.length
  ·rw[if_pos hlt,getElem?_map,getElem?_range hlt,map_some];congr 3
   lia
  ·rw[if_neg hlt,getElem?_eq_none (by simp;lia)]
 ·rintro i v σ h' ev ⟨ini,last,x3,rfl,hin,ec,rfl⟩;have hlt:i < l.length:=by have:=(List.getElem?_eq_some_iff.mp ev).1;simpa using this
  rw[getElem?_map,getElem?_range hlt]at ev;simp only[map_some,Option.some.injEq]at ev;subst ev;obtain ⟨b,u,hbu⟩:∃b u,l[i]=(b,u):=⟨_,_,rfl⟩
  have e1:l.drop i=(b,u)::l.drop (i+1):=by rw[drop_eq_getElem_cons hlt,hbu]
  obtain ⟨w1,w2⟩:=ajY (t:=t) (l:=l) (j:=i) (b:=b) (u:=u) (by rw[getElem?_eq_getElem hlt,hbu]);have a1:bT ((wv t l).map iD) ((2 * i+1:Nat):Int)=some (iD (if b then .an else .or)):=by rw[vp,getElem?_map,w1];rfl
  have a2:bT ((wv t l).map iD) (((2 * i+1:Nat):Int)+1)=some (sd u):=by
   rw[show ((2 * i+1:Nat):Int)+1=((2 * i+2:Nat):Int) by lia,vp,getElem?_map,w2];rfl
  have em:(ini++[last]).map sd=ini.map sd++[sd last]:=by simp
  refine ⟨_,rfl,?_⟩;rw[e1]at ec;cases b with
  | true=>
   have a1':bT ((wv t l).map iD) ((2 * i+1:Nat):Int)=some (.str (tx "and")):=a1;rw[em];have hp:(h++[AO.lst (ini.map sd)])[a]?=some (.lst ((wv t l).map iD)):=ha1 _;simp! only[qR,aD (ha1 _),a1',beq_self_eq_true,Dr,cP aB,Gi aB,dF,aD hp,a2,dM aB (show (ini.map sd).length < 16777216 by rw[length_map];lia)];refine ⟨ini,.an last u,_,by simp[sd],by lia,?_,rfl⟩;rw[<-ec];show _=comb (fo ini) (some (ja none last)) u (l.drop (i+1));rw[adw (bQ:=some (ja none last))];rfl
  | false=>
   have a1':bT ((wv t l).map iD) ((2 * i+1:Nat):Int)=some (.str (tx "or")):=a1;have no:(tx "or" == tx "and")=false:=by decide
   simp! only[qR,aD (ha1 _),a1',no,Ds,cP aB,a2,dM aB (show ((ini++[last]).map sd).length < 16777216 by simp;lia),dF];refine ⟨ini++[last],u,_,by simp,by simp;lia,?_,rfl⟩;rw[<-ec,T6];rfl
 ·rintro σ h' ⟨ini,last,x3,rfl,hin,ec,rfl⟩;rw[length_map,length_range,drop_length]at ec;rw[<-ec]at q;obtain ⟨x,xs,exs⟩:∃x xs,ini++[last]=x::xs:=by
   cases ini with
   | nil=>exact ⟨last,[],rfl⟩
   | cons y ys=>exact ⟨y,ys++[last],rfl⟩
  have hxl:xs.length<=1000:=by
   have:=congrArg List.length exs;simp at this hin;lia
  have ef:comb (fo ini) none last []=xs.foldl .or x:=by
   show jo (fo ini) last=_;have:=T6 (ini:=ini) (l:=last);rw[exs]at this;exact (Option.some.inj this).symm
  rw[ef]at q;rw[exs];have a0:bT ((x::xs).map sd) 0=some (sd x):=by rw[dO (by decide)];rfl
  have sl:prim sb .uQ [.ref h.length,.int 1] (h++[.lst ((x::xs).map sd)])=some (.ref (h++[AO.lst ((x::xs).map sd)]).length,(h++[.lst ((x::xs).map sd)])++[.lst (xs.map sd)]):=by
   show dg (.ref h.length) (some 1) none _=_;unfold dg;simp only[aB];have ec2:cut ((x::xs).map sd) (some 1) none=xs.map sd:=by
    simp only[cut,bG];rw[if_neg (by decide),map_cons,length_cons];have:(min (1:Int) ((xs.map sd).length+1:Nat)).toNat=1:=by lia
    rw[this];simp only[List.drop_succ_cons,drop_zero,Nat.add_sub_cancel];exact List.take_of_length_le (le_refl _)
   rw[ec2];exact if_pos (by rw[length_map];show xs.length<=16777216;lia)
  generalize (x::xs).map sd=L at a0 sl ⊢;simp! only[Dq,aD aB,a0,Dp];refine jG (xs:=xs.map sd) (J:=iu (h++[AO.lst (L)]).length) (vs:=[.ref (h++[AO.lst (L)]).length]) (h1:=(h++[.lst (L)])++[.lst (xs.map sd)])
   (λi σ h'=>h'=(h++[.lst (L)])++[.lst (xs.map sd)]/\∃x6,σ=[some (.ref a),x1,x2,x3,some (.ref h.length),some (sd ((xs.take i).foldl .or x)),x6]) (λQ q=>?_) (JV aB) ⟨rfl,none,rfl⟩ ?_ ?_ ?_
  ·simp! only[sl];exact q
  ·rintro i σ h' _ ⟨rfl,_⟩;simp only[iu,aB]
  ·rintro i v σ h' ev ⟨rfl,x6,rfl⟩;rw[getElem?_map]at ev;cases et:xs[i]? with
   | none=>rw[et]at ev;cases ev
   | some u=>
    rw[et]at ev;cases ev;refine ⟨_,rfl,?_⟩;simp! only[Dn];refine ⟨some (sd u),?_⟩;rw[take_succ,et,Option.toList_some,List.foldl_append];rfl
  ·rintro σ h' ⟨rfl,x6,rfl⟩;rw[length_map,take_length];simp! only[Dm];exact q _ (pre_app (prefix_append _ _))
theorem ady:o8 h (.bl p) (.bl q)=some (p == q):=rfl
theorem adz (ha:h[a]?=some (.lst (b.map iD)))(hn:∀x∈b,x≠.nt)(hl:b.length<=1000)(q:∀h',h<+:h'->Q (oD ((fW b).map λp=>comb none none p.1 p.2)) h'):
  bw sb (au sb P d) E oU {nx:=λ_ h=>Q .non h,rt:=Q} [some (.ref a),x1,x2,none,none,none,none] h:=by
 simp! only[oU];have bad:(∀p,fW b≠some p)->Q .non h:=λhb=>by
  have:fW b=none:=by
   cases e:fW b with
   | none=>rfl
   | some p=>exact absurd e (hb p)
  rw[this]at q;exact q h iM
 refine lH (lo:=0) (n:=b.length) (vs:=[.int b.length]) (h1:=h) (λi σ h'=>h'=h/\(∀(j:Nat) (x:It),j < i->b[j]?=some x->wA x=(j % 2 == 1))/\∃x3,σ=[some (.ref a),x1,x2,x3,none,none,none]) (λQ q=>by simp! only[gw ha,length_map];exact q) (by simp[bM,iZ,iR,i_,jc,iw,okR];lia) ⟨rfl,λj x z=>by lia,none,rfl⟩ ?_ ?_
 ·rintro i σ h' hi ⟨rfl,hj,x3,rfl⟩;refine ⟨_,rfl,?_⟩;have a1:bT (b.map iD) (0+(i:Int))=some (iD b[i]):=by
   rw[dO (by lia),show (0+(i:Int)).toNat=i by lia,getElem?_map,getElem?_eq_getElem hi];rfl
  have e2:((0+(i:Int)) % 2 == 1)=(i % 2 == 1):=by
   by_cases h1:i % 2=1
   ·have:(0+(i:Int)) % 2=1:=by lia
    rw[this,h1];rfl
   ·have h2:¬(0+(i:Int)) % 2=1:=by lia
    rw[beq_false_of_ne h1,beq_false_of_ne h2]
  simp! only[zj,aD ha,a1,Yg,e2,ady];by_cases hc:wA b[i]=(i % 2 == 1)
  ·have:(wA b[i] == (i % 2 == 1))=true:=by rw[hc];simp
   simp! only[this];refine ⟨λj x hj1 ex=>?_,_,rfl⟩;by_cases hji:j < i
   ·exact hj j x hji ex
   ·obtain rfl:j=i:=by lia
    rw[getElem?_eq_getElem hi]at ex;cases ex;exact hc
  ·have:(wA b[i] == (i % 2 == 1))=false:=beq_false_of_ne hc;simp! only[this,zf];refine bad λp e=>hc ?_;have:=Ka e;exact agV (t:=p.1) (l:=p.2) (j:=i) (x:=b[i]) (by rw[<-this,getElem?_eq_getElem hi])
 ·rintro σ h' ⟨rfl,hj,x3,rfl⟩;simp! only[zc,gw ha,length_map];by_cases ho:b.length % 2=1
  ·have e0:((b.length:Int) % 2 == 0)=false:=beq_false_of_ne (by lia);simp! only[e0];obtain ⟨p,ep⟩:=V2 hn (λj x e=>hj j x (List.getElem?_eq_some_iff.mp e).1 e) ho;have eb:=Ka ep;rw[ep]at q;rw[eb]at ha hl;rw[Q9]at hl;exact adx ha (by lia) q
  ·have e0:((b.length:Int) % 2 == 0)=true:=by
    have:(b.length:Int) % 2=0:=by lia
    rw[this];rfl
   simp! only[e0,za];refine bad λp e=>ho ?_;rw[Ka e,Q9];lia
theorem Yi (ha:h[a]?=some (.lst (its.map iD)))(hl:its.length<=1000)(q:∀h',h<+:h'->Q (oD (FL its)) h'):au sb P (d+1) 20 [.ref a] h Q E:=by
 refine wp_call rfl rfl ?_;simp! only[zy,zx];have bad:NF its=none->∀h',h<+:h'->Q .non h':=λe h' pr=>by
  have:FL its=none:=by unfold FL;rw[e];rfl
  rw[this]at q;exact q h' pr
 refine jG (xs:=(its.map iD).reverse) (J:=Jp a (its.map iD).length) (vs:=[.ref a]) (h1:=h++[.lst []]) (λi σ h'=>∃(b:List It) (x2:Option D),NF (its.drop (its.length - i))=some b/\h'=h++[.lst (b.map iD).reverse]/\σ=[some (.ref a),some (.ref h.length),x2,none,none,none,none])
  (λQ q=>by simp! only;exact q) ?_ ⟨[],none,by simp[NF],rfl,rfl⟩ ?_ ?_ ?_
 ·simp only[bM,iw,aJ ha]
 ·rintro i σ h' hi ⟨b,x2,_,rfl,_⟩;rw[length_reverse]at hi;simp only[Jp,aJ ha,if_true];by_cases hlt:i < (its.map iD).length
  ·rw[if_pos hlt,getElem?_reverse hlt]
  ·rw[if_neg hlt,getElem?_eq_none (by rw[length_reverse];lia)]
 ·rintro i v σ h' ev ⟨b,x2,eb,rfl,rfl⟩;have hi:i < its.length:=by have:=(List.getElem?_eq_some_iff.mp ev).1;simpa using this
  rw[getElem?_reverse (by simpa using hi),length_map,getElem?_map]at ev;have hk:its.length - 1 - i < its.length:=by lia
  rw[getElem?_eq_getElem hk,map_some,Option.some.injEq]at ev;subst ev;have ed:its.drop (its.length - (i+1))=its[its.length - 1 - i]::its.drop (its.length - i):=by
   rw[show its.length - (i+1)=its.length - 1 - i by lia,drop_eq_getElem_cons hk,show its.length - 1 - i+1=its.length - i by lia]
  have hlb:b.length<=1000:=le_trans (xJ eb).2 (by simp;lia);have agX:its=its.take (its.length - (i+1))++its.drop (its.length - (i+1)):=(take_append_drop _ _).symm;have Gx:NF (its.drop (its.length - (i+1)))=none->NF its=none:=λz=>by rw[agX];exact Yh z
  rw[ed]at Gx ⊢;generalize its[its.length - 1 - i]=x at Gx ⊢;generalize its.drop (its.length - i)=r at eb Gx ⊢;have agY:((b.map iD).reverse).length < 16777216:=by simp;lia
  have keep:∀y:It,y≠.nt->NF (y::r)=some (y::b):=λy hy=>by
   cases y with
   | nt=>exact absurd rfl hy
   | _=>simp only[NF,eb,map_some]
  refine ⟨_,rfl,?_⟩;have other:x≠.nt->o8 (h++[AO.lst (b.map iD).reverse]) (iD x) (.str (tx "not"))=some false:=λhx=>by
   cases x with
   | nt=>exact absurd rfl hx
   | an=>rfl
   | or=>rfl
   | tr t=>exact ajX
  by_cases hx:x=.nt
  ·subst hx;have e1:o8 (h++[AO.lst (b.map iD).reverse]) (iD .nt) (.str (tx "not"))=some true:=rfl;cases b with
   | nil=>
    have e0:((((([]:List It).map iD).reverse.length:Nat):Int) == 0)=true:=rfl;generalize (([]:List It).map iD).reverse=L at e0 e1 ⊢;simp! only[jT,e1,oV,gw aB,e0,jR];exact bad (Gx (by simp only[NF,eb])) _ (prefix_append _ _)
   | cons y b=>
    have em:((y::b).map iD).reverse=(b.map iD).reverse++[iD y]:=by simp
    have hlr:((b.map iD).reverse).length < 16777216:=by simp at hlb ⊢;lia
    rw[em]at e1 ⊢;have fin:∀t,y=.tr t->∃b' x2,NF (.nt::r)=some b'/\h++[AO.lst ((b.map iD).reverse++[.tup [.str (tx "not"),sd t]])]=h++[AO.lst (b'.map iD).reverse]/\[some (D.ref a),some (D.ref h.length),some (iD .nt),none,none,none,none]=[some (D.ref a),some (D.ref h.length),x2,none,none,none,none]:=λt ht=>by
     subst ht;exact ⟨.tr (.nt t)::b,_,by simp only[NF,eb],by simp[iD,sd],rfl⟩
    have nb:(∀t,y≠.tr t)->NF its=none:=λhy=>Gx (by
     cases y with
     | tr t=>exact absurd rfl (hy t)
     | _=>simp only[NF,eb])
    have ny:y≠.nt:=(xJ eb).1 _ (by simp);clear keep other Gx eb ed agX agY em;generalize (b.map iD).reverse=L at e1 fin hlr ⊢;have e0:((((L++[iD y]).length:Nat):Int) == 0)=false:=beq_false_of_ne (by simp;lia);have ea:bT (L++[iD y]) (-1)=some (iD y):=by rw[Cm];simp
    simp! only[jT,e1,oV,gw aB,e0,aD aB,ea,Yg];cases y with
    | tr t=>
     simp! only[wA,zp,cP aB,Gi aB,dF,dM aB hlr];exact fin t rfl
    | nt=>exact absurd rfl ny
    | an=>
     simp! only[wA,jR];exact bad (nb (λt z=>by cases z)) _ (prefix_append _ _)
    | or=>
     simp! only[wA,jR];exact bad (nb (λt z=>by cases z)) _ (prefix_append _ _)
  ·simp! only[jT,other hx,zq,cP aB,dM aB agY,dF];exact ⟨x::b,_,keep x hx,by simp,rfl⟩
 ·rintro σ h' ⟨b,x2,eb,rfl,rfl⟩;rw[length_reverse,length_map,Nat.sub_self,drop_zero]at eb;obtain ⟨hn,hlb⟩:=xJ eb;have lr:prim sb .HJ [.ref h.length] (h++[.lst (b.map iD).reverse])=some (.ref (h++[AO.lst (b.map iD).reverse]).length,(h++[.lst (b.map iD).reverse])++[.lst (b.map iD)]):=by
   show (match (h++[AO.lst (b.map iD).reverse])[h.length]? with | some (.lst xs)=>newL xs.reverse _ | _=>none)=_;rw[aB];show newL (b.map iD).reverse.reverse _=_;rw[List.reverse_reverse];exact if_pos (by rw[length_map];show b.length<=16777216;lia)
  simp! only[zm,lr];refine adz aB hn (by lia) λh' pr=>?_;have:FL its=(fW b).map λp=>comb none none p.1 p.2:=by unfold FL;rw[eb];rfl
  rw[this]at q;exact q h' ((pre_app (prefix_append _ _)).trans pr)
def vL (s:List (List It))(ts:List S):Option Sn:=if (∀t∈ts,t≠sB->J4 (kt t)=true->pH t=true) then (rL s (kinds ts)).bind Q6 else none
theorem anz:vL s (sB::ts)=vL s ts:=by
 unfold vL;rw[jt];by_cases hw:∀t∈ts,t≠sB->J4 (kt t)=true->pH t=true
 ·rw[if_pos hw,if_pos (λt ht=>by rcases mem_cons.mp ht with rfl | ht;exact λz=>absurd rfl z;exact hw t ht)]
 ·rw[if_neg hw,if_neg (λz=>hw λt ht=>z t (by simp[ht]))]
theorem Lw (h1:t≠sB)(h2:J4 (kt t)=true->pH t=true):vL s (t::ts)=(stL s (kt t)).bind λs'=>vL s' ts:=by
 unfold vL;rw[gV h1];by_cases hw:∀t∈ts,t≠sB->J4 (kt t)=true->pH t=true
 ·rw[if_pos (λx ht=>by rcases mem_cons.mp ht with rfl | ht;exact λ_=>h2;exact hw x ht)];show ((stL s (kt t)).bind _).bind _=_;cases stL s (kt t) with
  | none=>rfl
  | some s'=>simp only[bind_some,if_pos hw]
 ·rw[if_neg (λz=>hw λx ht=>z x (by simp[ht]))];cases stL s (kt t) with
  | none=>rfl
  | some s'=>simp only[bind_some,if_neg hw]
theorem agZ (h1:t≠sB)(h2:J4 (kt t)=true)(h3:pH t=false):vL s (t::ts)=none:=by
 unfold vL;rw[if_neg];intro z;have:=z t (by simp) h1 h2;rw[h3]at this;cases this
theorem adA:lW t=if bl sB (lt t)=true then vL [[]] (lt t) else none:=by
 unfold lW vL;by_cases h1:bl sB (lt t)=true
 ·rw[if_pos h1];by_cases h2:∀x∈lt t,x≠sB->J4 (kt x)=true->pH x=true
  ·rw[if_pos ⟨h1,h2⟩,if_pos h2]
  ·rw[if_neg (λz=>h2 z.2),if_neg h2]
 ·rw[if_neg h1,if_neg (λz=>h1 z.1)]
inductive wB (h:AH):List Nat->List (List It)->Prop
 | nil:wB h [] []
 | cons {r:Nat} {c:List It} {rs:List Nat} {s:List (List It)}:h[r]?=some (.lst (c.map iD))->wB h rs s->wB h (r::rs) (c::s)
theorem wB.mono (k:wB h rs s)(H:∀(n:Nat) (o:AO),n∈rs->h[n]?=some o->h'[n]?=some o):wB h' rs s:=by
 induction k with
 | nil=>exact .nil
 | cons a _ ih=>exact .cons (H _ _ (by simp) a) (ih λn o hn e=>H n o (by simp[hn]) e)
theorem wB.len {h:AH}{rs:List Nat}{s:List (List It)}(k:wB h rs s):rs.length=s.length:=by
 induction k with
 | nil=>rfl
 | cons _ _ ih=>simp[ih]
theorem wB.lt {h:AH}{rs:List Nat}{s:List (List It)}(k:wB h rs s):∀n∈rs,n < h.length:=by
 induction k with
 | nil=>intro n hn;cases hn
 | cons a _ ih=>
  intro n hn;rcases mem_cons.mp hn with rfl | hn
  ·exact lN a
  ·exact ih n hn
structure SI (h0 h:AH)(sa:Nat)(rs:List Nat)(s:List (List It))(n:Nat):Prop where
 pre:h0<+:h
 st:h[sa]?=some (.lst (rs.reverse.map .ref))
 sk:wB h rs s
 nd:rs.Nodup
 ns:sa∉rs
 lo:h0.length<=sa/\∀r∈rs,h0.length<=r
 b:rs.length<=n+1/\∀c∈s,c.length<=n
theorem SI.push (k:SI h0 h sa (r::rs) (c::s) n)(x:It):SI h0 (h.set r (.lst (c.map iD++[iD x]))) sa (r::rs) ((c++[x])::s) (n+1):=by
 obtain ⟨k1,k2,k3,k4,k5,k6,k7⟩:=k;have hr:h[r]?=some (.lst (c.map iD)):=by cases k3 with | cons a _=>exact a
 have hs:wB h rs s:=by cases k3 with | cons _ b=>exact b
 have nr:r∉rs:=(nodup_cons.mp k4).1;refine ⟨iK k1 (k6.2 r (by simp)),bN k2 (λz=>k5 (by simp[z])),.cons (by rw[get_set hr];simp) (hs.mono λm o hm e=>bN e (λz=>nr (z ▸ hm))),k4,k5,k6,by have:=k7.1;lia,λc' hc=>?_⟩;rcases mem_cons.mp hc with rfl | hc
 ·have:=k7.2 c (by simp);simp;lia
 ·have:=k7.2 c' (by simp[hc]);lia
theorem SI.open_ (k:SI h0 h sa rs s n):SI h0 ((h++[AO.lst []]).set sa (AO.lst (rs.reverse.map D.ref++[D.ref h.length]))) sa (h.length::rs) ([]::s) (n+1):=by
 obtain ⟨k1,k2,k3,k4,k5,k6,k7⟩:=k;have ls:=lN k2;have k2':(h++[AO.lst []])[sa]?=some (.lst (rs.reverse.map .ref)):=aJ k2;refine ⟨iK (pre_app k1) k6.1,by rw[get_set k2'];simp,.cons (bN aB (by lia)) (k3.mono λm o hm e=>bN (aJ e) (λz=>k5 (z ▸ hm))),nodup_cons.mpr ⟨λz=>absurd (k3.lt _ z) (lt_irrefl _),k4⟩,λz=>?_,⟨k6.1,λr hr=>?_⟩,by have:=k7.1;simp;lia,λc hc=>?_⟩
 ·rcases mem_cons.mp z with z | z
  ·lia
  ·exact k5 z
 ·rcases mem_cons.mp hr with rfl | hr
  ·exact lA k1
  ·exact k6.2 r hr
 ·rcases mem_cons.mp hc with rfl | hc
  ·simp
  ·have:=k7.2 c hc;lia
theorem SI.pop (k:SI h0 h sa (r::rs) (c::s) n)(pr:h.set sa (.lst (rs.reverse.map .ref))<+:h'):SI h0 h' sa rs s n:=by
 obtain ⟨k1,k2,k3,k4,k5,k6,k7⟩:=k;have hs:wB h rs s:=by cases k3 with | cons _ b=>exact b
 refine ⟨(iK k1 k6.1).trans pr,aK pr (get_set k2),hs.mono λm o hm e=>aK pr (bN e (λz=>k5 (by simp[z,hm]))),(nodup_cons.mp k4).2,λz=>k5 (by simp[z]),⟨k6.1,λr hr=>k6.2 r (by simp[hr])⟩,by have:=k7.1;simp at this;lia,λc hc=>k7.2 c (by simp[hc])⟩
theorem adB (hl:t.length<=5000)(q1:120 < t.length->∀h' r,h<+:h'->h'[r]?=some (.lst [.int 1])->Q (.ref r) h')(q2:t.length<=120->lW t=none->∀h' r,h<+:h'->h'[r]?=some (.lst [.int 2])->Q (.ref r) h')(q3:∀s,t.length<=120->lW t=some s->∀h',h<+:h'->Q (sd s) h'):au sb P (d+2) 22 [.str t] h Q E:=by
 refine wp_call rfl rfl ?_;simp! only[zM];refine agT hl ?_;have ht0:(h++[AO.lst ((lt t).map .str)])[h.length]?=some (.lst ((lt t).map .str)):=aB;have Q_:h<+:h++[AO.lst ((lt t).map .str)]:=prefix_append _ _;generalize h.length=ta at ht0 ⊢;generalize h++[AO.lst ((lt t).map .str)]=h0 at ht0 Q_ ⊢;by_cases hlen:120 < t.length
 ·have e1:decide ((120:Int) < (t.length:Int))=true:=decide_eq_true (by lia);simp! only[oW,e1,zL];exact q1 hlen _ _ (pre_app Q_) aB
 have hlen:t.length<=120:=by lia
 have e1:decide ((120:Int) < (t.length:Int))=false:=decide_eq_false (by lia);have ltl:(lt t).length<=120:=le_trans Ye hlen;simp! only[oW,e1,zK];refine aaz ht0 (by lia) λh1 bZ=>?_;have aaA:=Q_.trans bZ;have ht1:=aK bZ ht0;rw[adA]at q2 q3;cases hb:bl sB (lt t) with
 | false=>
  rw[hb]at q2;simp! only[zJ];exact q2 hlen rfl _ _ (pre_app aaA) aB
 | true=>
  rw[hb]at q2 q3;simp only[if_true]at q2 q3;simp! only[zH];have two:∀h',h<+:h'->vL [[]] (lt t)=none->Q (.ref h'.length) (h'++[.lst [.int 2]]):=λh' pr e=>q2 hlen e _ _ (pre_app pr) aB;clear q2;have I0:SI h ((h1++[.lst []])++[.lst [.ref h1.length]]) (h1++[AO.lst []]).length [h1.length] [[]] 0:=by
   refine ⟨pre_app (pre_app aaA),aB,.cons (aJ aB) .nil,by simp,by simp,?_,by simp,by simp⟩;have:=lA aaA;refine ⟨by simp;lia,λr hr=>?_⟩;rw[mem_singleton]at hr
   lia
  have ht2:((h1++[AO.lst []])++[AO.lst [.ref h1.length]])[ta]?=some (.lst ((lt t).map .str)):=aJ (aJ ht1);have hta:ta < h1.length:=lN ht1;have tsa:ta≠(h1++[AO.lst []]).length:=by simp;lia
  have trs:ta∉[h1.length]:=by simp;lia
  generalize (h1++[AO.lst []]).length=sa at I0 tsa ⊢;generalize [h1.length]=rs0 at I0 trs;generalize (h1++[AO.lst []])++[AO.lst [D.ref h1.length]]=h2 at I0 ht2 ⊢;generalize lt t=ts at *;simp! only[zG];refine jG (xs:=ts.map .str) (J:=iu ta) (vs:=[.ref ta]) (h1:=h2) (λi σ h'=>∃(rs:List Nat) (s:List (List It)) (x3 x4:Option D),SI h h' sa rs s i/\s≠[]/\ta∉rs/\h'[ta]?=some (.lst (ts.map .str))/\vL s (ts.drop i)=vL [[]] ts/\σ=[some (.str t),some (.ref ta),some (.ref sa),x3,x4])
   (λQ q=>by simp! only;exact q) (JV ht2) ⟨rs0,[[]],none,none,I0,by simp,trs,ht2,rfl,rfl⟩ ?_ ?_ ?_
  ·rintro i σ h' _ ⟨rs,s,x3,x4,I,_,_,EY,_⟩;simp only[iu,EY]
  ·rintro i v σ h' ev ⟨rs,s,x3,x4,I,sne,tn,EY,ev2,rfl⟩;rw[getElem?_map]at ev;cases et:ts[i]? with
   | none=>rw[et]at ev;cases ev
   | some w=>
    rw[et]at ev;cases ev;have hi:=(List.getElem?_eq_some_iff.mp et).1;have e1:ts.drop i=w::ts.drop (i+1):=by
     rw[drop_eq_getElem_cons hi];congr 1;exact Option.some.inj ((getElem?_eq_getElem hi).symm.trans et)
    rw[e1]at ev2;generalize ts.drop (i+1)=rest at ev2 ⊢;refine ⟨_,rfl,?_⟩;refine ajy λK hK=>?_;obtain ⟨c,s',rfl⟩:=List.exists_cons_of_ne_nil sne;obtain ⟨r,rs',rfl⟩:∃r rs',rs=r::rs':=by
     have:=I.sk.len;cases rs with
     | nil=>cases this
     | cons r rs'=>exact ⟨r,rs',rfl⟩
    have hr:h'[r]?=some (.lst (c.map iD)):=by have:=I.sk;cases this with | cons a _=>exact a
    have em:(r::rs').reverse.map Z.D.ref=rs'.reverse.map .ref++[.ref r]:=by simp
    have hst:=I.st;rw[em]at hst;have top:bT (rs'.reverse.map Z.D.ref++[.ref r]) (-1)=some (.ref r):=by rw[Cm];simp
    have hcl:c.length<=1000:=by have:=I.b.2 c (by simp);lia
    have hap:(c.map iD).length < 16777216:=by rw[length_map];lia
    have tr':ta≠r:=λz=>tn (by simp[z])
    -- an item is appended
    have item:∀(x:It) (x4:Option D),vL ((c++[x])::s') rest=vL [[]] ts->∃(rs:List Nat) (s:List (List It)) (x3 x4':Option D),SI h (h'.set r (.lst (c.map iD++[iD x]))) sa rs s (i+1)/\s≠[]/\ta∉rs/\(h'.set r (.lst (c.map iD++[iD x])))[ta]?=some (.lst (ts.map .str))/\vL s rest=vL [[]] ts/\[some (D.str t),some (D.ref ta),some (D.ref sa),some (D.str w),x4]=[some (D.str t),some (D.ref ta),some (D.ref sa),x3,x4']:=λx x4 e=>
     ⟨r::rs',(c++[x])::s',_,x4,I.push x,by simp,tn,bN EY (Ne.symm tr'),e,rfl⟩
    rcases Jf w with rfl | rfl | hj | hj | hj | ⟨k1,k2⟩
    ·rw[Lw Q8 (by rw[jY];intro z;cases z),jY]at ev2;have hll:(rs'.reverse.map Z.D.ref++[Z.D.ref r]).length < 16777216:=by have:=I.b.1;simp at this ⊢;lia
     have hpp:prim sb .append [.ref sa,.ref h'.length] (h'++[AO.lst []])=some (.non,(h'++[AO.lst []]).set sa (.lst (rs'.reverse.map Z.D.ref++[Z.D.ref r]++[Z.D.ref h'.length]))):=dM (aJ hst) hll;simp! only[d7,beq_self_eq_true,DP,cP hst,hpp];have I':=I.open_;rw[em]at I';subst hK;refine ⟨h'.length::r::rs',[]::c::s',_,_,I',by simp,λz=>?_,bN (aJ EY) (Ne.symm tsa),ev2,rfl⟩;rcases mem_cons.mp z with z | z
     ·have:=lN EY;lia
     ·exact tn z
    ·rw[Lw Lq (by rw[jZ];intro z;cases z),jZ]at ev2;change ((FL c).bind _).bind _=_ at ev2;have n1:(tx ")" == tx "(")=false:=by decide
     simp! only[d7,n1,fC,beq_self_eq_true,DR,cP hst,Gi hst];have hr2:(h'.set sa (.lst (rs'.reverse.map .ref)))[r]?=some (.lst (c.map iD)):=bN hr (λz=>I.ns (by simp[z]));refine Yi hr2 hcl λh3 cB=>?_;have I3:=I.pop cB;have anA:=aK cB (bN EY (Ne.symm tsa));cases ef:FL c with
     | none=>
      rw[ef]at ev2;simp! only[oD,qY,gJ,qX];subst hK;exact two h3 I3.pre ev2.symm
     | some tr=>
      rw[ef]at ev2;simp! only[oD,qY,jO,gw I3.st];cases rs' with
      | nil=>
       have es:s'=[]:=by
        have:=I3.sk.len;exact length_eq_zero_iff.mp this.symm
       subst es;have e0:((((([]:List Nat).reverse.map Z.D.ref).length:Nat):Int) == 0)=true:=rfl;have I3p:=I3.pre;clear I3 hst em top hr2 cB item;generalize ([]:List Nat).reverse.map Z.D.ref=L at e0 ⊢;simp! only[e0,qX];subst hK;exact two h3 I3p ev2.symm
      | cons r1 Ra=>
       obtain ⟨c1,s1,rfl⟩:∃c1 s1,s'=c1::s1:=by
        have:=I3.sk;cases this with
        | cons _ _=>exact ⟨_,_,rfl⟩
       have hr1:h3[r1]?=some (.lst (c1.map iD)):=by have:=I3.sk;cases this with | cons a _=>exact a
       have ag3:=I3.st;have em3:(r1::Ra).reverse.map Z.D.ref=Ra.reverse.map .ref++[.ref r1]:=by simp
       have ag4:bT ((r1::Ra).reverse.map Z.D.ref) (-1)=some (.ref r1):=by rw[Cm,em3];simp
       have e0:(((((r1::Ra).reverse.map Z.D.ref).length:Nat):Int) == 0)=false:=beq_false_of_ne (by simp;lia);have hc1:(c1.map iD).length < 16777216:=by have:=I3.b.2 c1 (by simp);rw[length_map];lia
       clear em hst top hr2;generalize (r1::Ra).reverse.map Z.D.ref=L at ag3 ag4 e0 ⊢;simp! only[e0,DQ,aD ag3,ag4,cP hr1,dM hr1 hc1];have I4:=I3.push (.tr tr);have tn1:ta∉r1::Ra:=λz=>tn (by simp at z ⊢;exact .inr z);have Kc:vL ((c1++[It.tr tr])::s1) rest=vL [[]] ts:=ev2;subst hK;exact ⟨r1::Ra,(c1++[It.tr tr])::s1,_,_,I4,by simp,tn1,bN anA (λz=>tn1 (by simp[z])),Kc,rfl⟩
    ·subst hj;rw[Lw VJ (by rw[lU];intro z;cases z),lU]at ev2;have n1:(tx "not" == tx "(")=false:=by decide
     have n3:J3.contains (tx "not")=true:=by decide
     simp! only[d7,n1,fC,TX,iB,J_,n3,jU,aD hst,top,cP hr,dM hr hap];subst hK;exact item .nt _ ev2
    ·subst hj;rw[Lw agE (by rw[jq];intro z;cases z),jq]at ev2;have n1:(tx "and" == tx "(")=false:=by decide
     have n3:J3.contains (tx "and")=true:=by decide
     simp! only[d7,n1,fC,TQ,iB,J_,n3,jU,aD hst,top,cP hr,dM hr hap];subst hK;exact item .an _ ev2
    ·subst hj;rw[Lw agF (by rw[jr];intro z;cases z),jr]at ev2;have n1:(tx "or" == tx "(")=false:=by decide
     have n3:J3.contains (tx "or")=true:=by decide
     simp! only[d7,n1,fC,TV,iB,J_,n3,jU,aD hst,top,cP hr,dM hr hap];subst hK;exact item .or _ ev2
    ·have nb:∀k:S,kt k≠kt w->(w == k)=false:=λk hk=>beq_false_of_ne λz=>hk (by rw[z]);have s1:=nb (tx ")") (by rw[k1,jZ];exact λz=>by cases z);have s2:=nb (tx "(") (by rw[k1,jY];exact λz=>by cases z);have s3:J3.contains w=false:=by rw[eq_false_iff];exact λz=>k2 (contains_iff_mem.mp z)
     simp! only[d7,s2,fC,s1,iB,J_,s3,zF];by_cases hw:w=sB
     ·rw[hw,anz]at ev2;have eb:(w == tx " ")=true:=by rw[hw,p7];simp
      simp! only[eb];obtain ⟨i1,i2,i3,i4,i5,i6,i7⟩:=I;subst hK;exact ⟨r::rs',c::s',_,_,⟨i1,i2,i3,i4,i5,i6,by have:=i7.1;lia,λc' hc=>by have:=i7.2 c' hc;lia⟩,by simp,tn,EY,ev2,rfl⟩
     ·have eb:(w == tx " ")=false:=by rw[p7];exact beq_false_of_ne hw
      simp! only[eb,zE];refine agU ?_;cases hlw:pH w with
      | false=>
       rw[agZ hw (by rw[k1];rfl) hlw]at ev2;simp! only[zB];subst hK;exact two h' I.pre ev2.symm
      | true=>
       rw[Lw hw (λ_=>hlw),k1]at ev2;simp! only[zA,aD hst,top,cP hr,dM hr hap];subst hK;exact item (.tr (.is w)) _ ev2
  ·rintro σ h' ⟨rs,s,x3,x4,I,sne,tn,EY,ev2,rfl⟩;rw[length_map,drop_length]at ev2;obtain ⟨c,s',rfl⟩:=List.exists_cons_of_ne_nil sne;obtain ⟨r,rs',rfl⟩:∃r rs',rs=r::rs':=by
    have:=I.sk.len;cases rs with
    | nil=>cases this
    | cons r rs'=>exact ⟨r,rs',rfl⟩
   have hr:h'[r]?=some (.lst (c.map iD)):=by have:=I.sk;cases this with | cons a _=>exact a
   have em:(r::rs').reverse.map Z.D.ref=rs'.reverse.map .ref++[.ref r]:=by simp
   have hst:=I.st;rw[em]at hst;have hcl:c.length<=1000:=by have:=I.b.2 c (by simp);rw[length_map]at this;lia
   have Kc:(FL c).bind (λt=>if s'.isEmpty then some t else none)=vL [[]] ts:=ev2;simp! only[DN,cP hst,Gi hst];have hr2:(h'.set sa (.lst (rs'.reverse.map .ref)))[r]?=some (.lst (c.map iD)):=bN hr (λz=>I.ns (by simp[z]));refine Yi hr2 hcl λh3 cB=>?_;have I3:=I.pop cB;cases ef:FL c with
   | none=>
    rw[ef]at Kc;simp! only[oD,qW,gJ,qU];exact two h3 I3.pre Kc.symm
   | some tr=>
    rw[ef]at Kc;have hl3:=I3.sk.len;have e0:decide ((0:Int) < ((rs'.reverse.map Z.D.ref).length:Nat))=!s'.isEmpty:=by
     rw[length_map,length_reverse,hl3];cases s' with
     | nil=>rfl
     | cons _ _=>simp
    have I3p:=I3.pre;have I3s:=I3.st;clear em hst hr2 cB I3;generalize rs'.reverse.map Z.D.ref=L at e0 I3s ⊢;simp! only[oD,qW,jO,gw I3s,e0];cases hs:s'.isEmpty with
    | true=>
     rw[hs]at Kc;simp! only[DK];exact q3 tr hlen Kc.symm h3 I3p
    | false=>
     rw[hs]at Kc;simp! only[qU];exact two h3 I3p Kc.symm
theorem abz:prim sb (.fV .str) [.str s] h=some (.bl true,h):=rfl
theorem ag5:prim sb (.fV .str) [.tup s] h=some (.bl false,h):=rfl
theorem ag6:prim sb (.fV .tuple) [.tup s] h=some (.bl true,h):=rfl
theorem qg (q:Q (.bl true) h):au sb P (d+1) 23 [.str s,.str s] h Q E:=by
 refine wp_call rfl rfl ?_;simp! only[qZ,abz,Ea,beq_self_eq_true];exact q
theorem qj (hl:xs.length<=100)(hx:∀x∈xs,∀{h:AH} {Q:PV} {E:PX},Q (.bl true) h->au sb P d 23 [x,x] h Q E)(q:Q (.bl true) h):au sb P (d+1) 23 [.tup xs,.tup xs] h Q E:=by
 refine wp_call rfl rfl ?_;simp! only[qZ,ag5,D_,ag6,beq_self_eq_true,DY];refine lH (lo:=0) (n:=xs.length) (vs:=[.int xs.length]) (h1:=h) (λi σ h'=>h'=h/\∃x,σ=[some (.tup xs),some (.tup xs),x]) (λQ q=>by simp! only;exact q) (by simp[bM,iZ,iR,i_,jc,iw,okR];lia) ⟨rfl,none,rfl⟩ ?_ ?_
 ·rintro i σ h' hi ⟨rfl,x,rfl⟩;refine ⟨_,rfl,?_⟩;have ea:bT xs (0+(i:Int))=some xs[i]:=by rw[dO (by lia),show (0+(i:Int)).toNat=i by lia,getElem?_eq_getElem hi]
  simp! only[DX,ea];refine hx _ (getElem_mem hi) ?_;simp! only;exact ⟨_,rfl⟩
 ·rintro σ h' ⟨rfl,x,rfl⟩;simp! only[DW];exact q
theorem oh:∀{s:Sn} {d:Nat} {h:AH} {Q:PV} {E:PX},lv s+1<=d->Q (.bl true) h->au sb P d 23 [sd s,sd s] h Q E
 | _,0,h,Q,E,hd,q=>by lia
 | .is n,d+1,h,Q,E,hd,q=>by
  obtain ⟨d,rfl⟩:∃d',d=d'+1:=⟨d - 1,by simp[lv]at hd;lia⟩
  refine qj (xs:=[.str (tx "is"),.str n]) (by simp) ?_ q;intro x hx h Q E q;simp only[mem_cons,not_mem_nil,or_false]at hx;rcases hx with rfl | rfl<;>exact qg q
 | .nt a,d+1,h,Q,E,hd,q=>by
  simp only[lv]at hd;obtain ⟨d,rfl⟩:∃d',d=d'+1:=⟨d - 1,by lia⟩
  refine qj (xs:=[.str (tx "not"),sd a]) (by simp) ?_ q;intro x hx h Q E q;simp only[mem_cons,not_mem_nil,or_false]at hx;rcases hx with rfl | rfl
  ·exact qg q
  ·exact oh (s:=a) (by lia) q
 | .an a b,d+1,h,Q,E,hd,q=>by
  simp only[lv]at hd;obtain ⟨d,rfl⟩:∃d',d=d'+1:=⟨d - 1,by lia⟩
  refine qj (xs:=[.str (tx "and"),sd a,sd b]) (by simp) ?_ q;intro x hx h Q E q;simp only[mem_cons,not_mem_nil,or_false]at hx;rcases hx with rfl | rfl | rfl
  ·exact qg q
  ·exact oh (s:=a) (by lia) q
  ·exact oh (s:=b) (by lia) q
 | .or a b,d+1,h,Q,E,hd,q=>by
  simp only[lv]at hd;obtain ⟨d,rfl⟩:∃d',d=d'+1:=⟨d - 1,by lia⟩
  refine qj (xs:=[.str (tx "or"),sd a,sd b]) (by simp) ?_ q;intro x hx h Q E q;simp only[mem_cons,not_mem_nil,or_false]at hx;rcases hx with rfl | rfl | rfl
  ·exact qg q
  ·exact oh (s:=a) (by lia) q
  ·exact oh (s:=b) (by lia) q
theorem ag7 {ns:List Int}(hk:0<=k)(q:∀c,Q (.int c) h):au sb P (d+1) 13 [.fu (ns.map .int),.int k] h Q E:=by
 refine wp_call rfl rfl ?_;simp! only[sS,sU,sV];by_cases hl:k < (List.map D.int ns).length
 ·rw[decide_eq_true hl,if_pos rfl,dO hk,getElem?_map];rw[length_map]at hl;rw[getElem?_eq_getElem (by lia)];exact q _
 ·rw[decide_eq_false hl,if_neg (by decide)];exact q _
theorem adC {cell:Int}{n:Nat}(hn:n<=100)(q:∀D,Q (.ref h.length) (h++[.lst (rl n D)])):au sb P (d+1) 12 [.int cell,.int n] h Q E:=by
 refine wp_call rfl rfl ?_;simp! only[yq,yu,yw,yx];refine lH (lo:=0) (n:=n) (vs:=[.int n]) (λi σ h'=>∃D m x,h'=h++[.lst (rl i D)]/\σ=[some (.int cell),some (.int n),some (.int m),some (.ref h.length),x]) (h1:=h++[.lst []]) (λQ q=>?_) ?_ ?_ ?_ ?_
 ·simp! only;exact q
 ·simp[bM,iZ,iR,i_,jc,iw,okR];lia
 ·exact ⟨λ_=>0,_,_,rfl,rfl⟩
 ·rintro i σ h' hi ⟨D,m,x,rfl,rfl⟩;refine ⟨_,rfl,?_⟩;simp! only[yr,yt,cP aB,dM aB (show (rl i D).length < 16777216 by rw[agt];lia),dF];refine ⟨λk=>if k=i then m * 48271 % 2147483647 / 13 else D k,_,_,?_,rfl⟩;rw[<-ac4,aap (f:=λk=>if k=i then m * 48271 % 2147483647 / 13 else D k) (g:=D) (λk hk=>by simp;lia)];simp
 ·rintro σ h' ⟨D,m,x,rfl,rfl⟩;simp! only;exact q D
theorem adD (hn:n<=100)(q:∀s:S,s.length=n->(∀c∈s,c∈eN)->Q (.str s) h):au sb P (d+1) 14 [.int num,.int n] h Q E:=by
 refine wp_call rfl rfl ?_;simp! only[yC,yF,yG,yH];refine lH (lo:=0) (n:=n) (vs:=[.int n]) (λi σ h'=>∃(m:Int) (s:S) (x:Option D),s.length=i/\(∀c∈s,c∈eN)/\h'=h/\σ=[some (.int m),some (.int n),some (.str (tx "abcdefghijklmnopqrstuvwxyz")),some (.str s),x]) (h1:=h) (λQ q=>?_) ?_ ?_ ?_ ?_
 ·simp! only;exact q
 ·simp[bM,iZ,iR,i_,jc,iw,okR];lia
 ·exact ⟨num,[],_,rfl,by simp,rfl,rfl⟩
 ·rintro i σ h' hi ⟨m,s,x,hs,hc,rfl,rfl⟩;refine ⟨_,rfl,?_⟩;simp! only[yD,yE];rw[dO (emod_nonneg _ (by decide))];have hb:=emod_lt_of_pos ((m * 69621+1) % 2147483647 / 17) (show (0:Int) < 26 by decide);have hl:(tx "abcdefghijklmnopqrstuvwxyz").length=26:=by decide
  rw[getElem?_eq_getElem (by rw[hl];lia)];simp! only;rw[if_pos (by lia)];refine ⟨_,_,_,by simp[hs],λc h=>?_,rfl,rfl⟩;rcases mem_append.mp h with h | h
  ·exact hc c h
  ·rw[mem_singleton]at h;subst h;exact getElem_mem _
 ·rintro σ h' ⟨m,s,x,hs,hc,rfl,rfl⟩;simp! only;exact q s hs hc
theorem xK (hz:0<=z)(hn:z<=100)(q:∀D,Q (.ref h.length) (h++[.lst (rl z.toNat D)])):au sb P (d+1) 12 [.int cell,.int z] h Q E:=by
 obtain ⟨n,rfl⟩:=eq_ofNat_of_zero_le hz;exact adC (by lia) q
theorem Rb (hz:0<=z)(hn:z<=100)(q:∀s:S,s.length=z.toNat->(∀c∈s,c∈eN)->Q (.str s) h):au sb P (d+1) 14 [.int num,.int z] h Q E:=by
 obtain ⟨n,rfl⟩:=eq_ofNat_of_zero_le hz;exact adD (by lia) q
def Yj:List S:=[tx "nota",tx "no",tx "ot",tx "an",tx "nd",tx "ands",tx "o",tx "r",tx "orr",tx "alway",tx "wher",tx "usual",tx "notnot",tx "ask",tx "is",tx "tell"]
structure LW (s:S):Prop where
 lo:1<=s.length
 hi:s.length<=12
 le:∀c∈s,c∈eN
theorem anB:∀s∈Yj,LW s:=λs hs=>by
 have:∀s∈Yj,1<=s.length/\s.length<=12/\s.all (λc=>eN.contains c)=true:=by decide
 obtain ⟨a,b,c⟩:=this s hs;exact ⟨a,b,λx hx=>contains_iff_mem.mp (all_eq_true.mp c x hx)⟩
theorem anC:∀{n:S},n∈KW->GN (n++tx "a"):=λ{n} hn=>by
 have:∀n∈KW,1<=(n++tx "a").length/\(n++tx "a").length<=12/\(n++tx "a").all (λc=>eN.contains c)=true/\KW.contains (n++tx "a")=false:=by decide
 obtain ⟨a,b,c,d⟩:=this n hn;refine ⟨a,b,λx hx=>contains_iff_mem.mp (all_eq_true.mp c x hx),λh=>?_⟩;rw[contains_iff_mem.mpr h]at d;cases d
theorem ag8 (z:Int):∃c,c∈eN/\bT (tx "abcdefghijklmnopqrstuvwxyz") (z % 26)=some c:=by
 have hl:(tx "abcdefghijklmnopqrstuvwxyz").length=26:=by decide
 have h0:=emod_nonneg z (show (26:Int)≠0 by decide);have h1:=emod_lt_of_pos z (show (0:Int) < 26 by decide);have hb:(z % 26).toNat < (tx "abcdefghijklmnopqrstuvwxyz").length:=by rw[hl];lia
 exact ⟨(tx "abcdefghijklmnopqrstuvwxyz")[(z % 26).toNat],(getElem_mem hb:_∈tx "abcdefghijklmnopqrstuvwxyz"),by rw[dO h0,getElem?_eq_getElem hb]⟩
noncomputable abbrev lets:D:=.str (tx "abcdefghijklmnopqrstuvwxyz")
def NmI (cell:Int)(n sa da:Nat)(base:S)(at_:Int)(h0:AH)(i:Nat):Lo->AH->Prop:=λσ h'=>∃(ss:List S) (x8 x9 x10:Option D),h0<+:h'/\h'[h0.length]?=some (.lst (ss.map .str))/\ss.length<=i/\(0 < i->ss≠[])/\(∀s∈ss,GN s)/\
  σ=[some (.int cell),some (.int n),some lets,some (.ref sa),some (.ref da),some (.str base),some (.int at_),some (.ref h0.length),x8,x9,x10]
def NmM (cell:Int)(n sa da:Nat)(base:S)(at_:Int)(h0:AH)(i:Nat):Lo->AH->Prop:=λσ h'=>∃(ss:List S) (nm:S) (x10:Option D),h0<+:h'/\h'[h0.length]?=some (.lst (ss.map .str))/\ss.length<=i/\(∀s∈ss,GN s)/\LW nm/\
  σ=[some (.int cell),some (.int n),some lets,some (.ref sa),some (.ref da),some (.str base),some (.int at_),some (.ref h0.length),some (.int (0+i)),some (.str nm),x10]
theorem Rc {cell:Int}{n sa:Nat}(h1:1<=n)(h2:n<=12)(hs:h[sa]?=some (.lst (Yj.map .str)))(q:∀h' r ss,h<+:h'->h.length<=r->h'[r]?=some (.lst (ss.map .str))->ss≠[]->ss.length<=12->(∀s∈ss,GN s)->Q (.ref r) h'):
  bw sb (au sb P (d+1)) E mV {nx:=λ_ h=>Q .non h,rt:=Q} [some (.int cell),some (.int n),some lets,some (.ref sa),none,none,none,none,none,none,none] h:=by
 simp! only[mV];refine xK (by decide) (by decide) λD=>?_;have tU:rl (26:Int).toNat D=rl 26 D:=rfl;rw[tU];obtain ⟨v0,e0⟩:=bC (n:=26) (f:=D) (z:=0) (by decide) (by decide);obtain ⟨v1,e1⟩:=bC (n:=26) (f:=D) (z:=1) (by decide) (by decide);obtain ⟨v2,e2⟩:=bC (n:=26) (f:=D) (z:=2) (by decide) (by decide);obtain ⟨v20,rK⟩:=bC (n:=26) (f:=D) (z:=20) (by decide) (by decide);obtain ⟨v21,tV⟩:=bC (n:=26) (f:=D) (z:=21) (by decide) (by decide);obtain ⟨v22,tW⟩:=bC (n:=26) (f:=D) (z:=22) (by decide) (by decide);obtain ⟨v23,tX⟩:=bC (n:=26) (f:=D) (z:=23) (by decide) (by decide);have hd:(h++[AO.lst (rl 26 D)])[h.length]?=some (.lst (rl 26 D)):=aB;simp! only[vI,aD hd,e0,e1];have hb1:=emod_nonneg v1 (show (12:Int)≠0 by decide);have hb2:=emod_lt_of_pos v1 (show (0:Int) < 12 by decide);refine Rb (by lia) (by lia) λbase hbase hbc=>?_;have hbl:1<=base.length/\base.length<=12:=by rw[hbase];lia
 simp! only[vH,aD hd,e2,pQ (show (0:Int) < base.length by lia),vG,vD];have at0:=emod_nonneg v2 (show (base.length:Int)≠0 by lia);have at1:=emod_lt_of_pos v2 (show (0:Int) < base.length by lia);generalize v2 % (base.length:Int)=at_ at at0 at1;have hs':(h++[AO.lst (rl 26 D)])[sa]?=some (.lst (Yj.map .str)):=aJ hs;have pre0:h<+:h++[AO.lst (rl 26 D)]:=prefix_append _ _;generalize hd0:h.length=da at hd;generalize h++[AO.lst (rl 26 D)]=h0 at hd hs' pre0;refine lH (lo:=0) (n:=n) (vs:=[.int n]) (h1:=h0++[.lst []]) (NmI cell n sa da base at_ h0) (λQ q=>by simp! only;exact q) (by simp[bM,iZ,iR,i_,jc,iw,okR];lia) ⟨[],none,none,none,prefix_append _ _,by simp,by simp,by simp,by simp,rfl⟩ ?_ ?_
 ·rintro i σ h' hi ⟨ss,x8,x9,x10,pr,hn,hl,hne,hg,rfl⟩;refine ⟨_,rfl,?_⟩;have hdl:=aK pr hd;have hsl:=aK pr hs';obtain ⟨w3,e3⟩:=bC (n:=26) (f:=D) (z:=3+(0+(i:Int))) (by lia) (by lia);obtain ⟨w4,e4⟩:=bC (n:=26) (f:=D) (z:=4+(0+(i:Int))) (by lia) (by lia);simp! only[vC,aD hdl,e3,e4];have hc1:=emod_nonneg (w4 / 5) (show (12:Int)≠0 by decide);have hc2:=emod_lt_of_pos (w4 / 5) (show (0:Int) < 12 by decide);refine Rb (by lia) (by lia) λname hname hnc=>?_;rw[vB,jk];refine wp_seq (NmM cell n sa da base at_ h0 i) ?_ ?_
  ·simp! only[aD hdl,rK];by_cases hc:v20 % 4 < 2
   ·rw[decide_eq_true hc];have anD:=λo=>aJ (l:=[o]) hdl;obtain ⟨w,hw,ew⟩:=jN (xs:=[Z.D.int 1,.int 3,.int 5,.int 7,.int 9,.int 11]) (z:=v22 % 6) (emod_nonneg _ (by decide)) (emod_lt_of_pos _ (by decide));obtain ⟨wi,rfl⟩:∃wi:Int,w=.int wi:=by
     simp only[mem_cons,not_mem_nil,or_false]at hw;rcases hw with e | e | e | e | e | e<;>exact ⟨_,e⟩
    obtain ⟨c,hcl,ec⟩:=ag8 (v21+(0+(i:Int)) * wi);simp! only[yO,yN,aD (anD _),aD hdl,tV,tW,aD aB,ew,Sd (show -18446744073709551616 < 0+(i:Int)/\0+(i:Int) < 18446744073709551616 by lia),ec];have cl1:(cut base none (some at_)).length=at_.toNat:=by
     simp only[cut,bG];rw[if_neg (by lia),length_take,length_drop];lia
    have cl2:(cut base (some (at_+1)) none).length=base.length - (at_.toNat+1):=by
     simp only[cut,bG];rw[if_neg (by lia),length_take,length_drop];lia
    have c1:=jl (xs:=base) (lo:=none) (hi:=some at_);have c2:=jl (xs:=base) (lo:=some (at_+1)) (hi:=none);rw[if_pos (by lia)];simp! only;rw[if_pos (by simp only[length_append,length_cons,length_nil];lia)];simp! only;refine ⟨ss,_,_,pre_app pr,aJ hn,hl,hg,?_,rfl⟩;refine ⟨by simp only[length_append,length_cons,length_nil];lia,by rw[length_append,length_append,cl1,cl2];simp only[length_cons,length_nil];lia,λx hx=>?_⟩;rcases mem_append.mp hx with hx | hx
    ·rcases mem_append.mp hx with hx | hx
     ·exact hbc x (Li hx)
     ·rw[mem_singleton]at hx;subst hx;exact hcl
    ·exact hbc x (Li hx)
   ·rw[decide_eq_false hc];simp! only;exact ⟨ss,name,_,pr,hn,hl,hg,⟨by rw[hname];lia,by rw[hname];lia,hnc⟩,rfl⟩
  ·rintro σ1 h3 ⟨ss,name,x10,pr,hn,hl,hg,hnl,rfl⟩;have hdl:=aK pr hd;have hsl:=aK pr hs';rw[yM,jk];refine wp_seq (NmM cell n sa da base at_ h0 i) ?_ ?_
   ·simp! only[aD hdl,rK];cases hc:v20 % 4 == 2 with
    | true=>
     obtain ⟨w,hw,ew⟩:=jN (xs:=Yj.map Z.D.str) (z:=(v23+3 * (0+(i:Int))) % 16) (emod_nonneg _ (by decide)) (emod_lt_of_pos _ (by decide));obtain ⟨s,hs,rfl⟩:=mem_map.mp hw;simp! only[yL,aD hdl,tX,aD hsl,ew];exact ⟨ss,s,_,pr,hn,hl,hg,anB s hs,rfl⟩
    | false=>
     simp! only;exact ⟨ss,name,_,pr,hn,hl,hg,hnl,rfl⟩
   ·rintro σ1 h3 ⟨ss,name,x10,pr,hn,hl,hg,hnl,rfl⟩;have e6:dW (.str name) [.str (tx "always"),.str (tx "where"),.str (tx "usually"),.str (tx "not"),.str (tx "and"),.str (tx "or")]=some _:=g_ (x:=name) (ss:=[tx "always",tx "where",tx "usually",tx "not",tx "and",tx "or"]);have k3:∀nm:S,GN nm->bw sb (au sb P (d+1)) E oR {nx:=NmI cell n sa da base at_ h0 (i+1),rt:=Q,bk:=λσ' h'=>bw sb (au sb P (d+1)) E oO {nx:=λ_ h=>Q .non h,rt:=Q} σ' h',ct:=NmI cell n sa da base at_ h0 (i+1)}
      [some (.int cell),some (.int n),some lets,some (.ref sa),some (.ref da),some (.str base),some (.int at_),some (.ref h0.length),some (.int (0+i)),some (.str nm),x10] h3:=by
     intro nm hgn;simp! only[oR,XJ hn,g_];cases hc:ss.contains nm with
     | true=>
      simp! only;refine ⟨ss,_,_,_,pr,hn,by lia,λ_ z=>?_,hg,rfl⟩;subst z;cases hc
     | false=>
      simp! only[yI,cP hn,dM hn (show (ss.map Z.D.str).length < 16777216 by rw[length_map];lia)];exact ⟨ss++[nm],_,_,_,iK pr (le_refl _),by rw[get_set hn];simp,by simp;lia,λ_=>by simp,λs hs=>by
       rcases mem_append.mp hs with hs | hs
       ·exact hg s hs
       ·rw[mem_singleton]at hs;subst hs;exact hgn,rfl⟩
    simp! only[yK,e6];cases bb:([tx "always",tx "where",tx "usually",tx "not",tx "and",tx "or"]:List S).contains name with
    | true=>
     simp! only[yJ];rw[if_pos (by have:(tx "a").length=1:=rfl;have:=hnl.hi;lia)];simp! only;exact k3 _ (anC (contains_iff_mem.mp bb))
    | false=>
     simp! only;exact k3 _ ⟨hnl.lo,hnl.hi,hnl.le,λhk=>by have e:=contains_iff_mem.mpr hk;exact absurd (e.symm.trans bb) (by decide)⟩
 ·rintro σ h' ⟨ss,x8,x9,x10,pr,hn,hl,hne,hg,rfl⟩;simp! only[oO];exact q h' _ ss (pre0.trans pr) (lA pre0) hn (hne (by lia)) (by lia) hg
theorem adE {cell:Int}{n:Nat}(h1:1<=n)(h2:n<=12)(q:∀h' r ss,h<+:h'->h.length<=r->h'[r]?=some (.lst (ss.map .str))->ss≠[]->ss.length<=12->(∀s∈ss,GN s)->Q (.ref r) h'):au sb P (d+2) 15 [.int cell,.int n] h Q E:=by
 refine wp_call rfl rfl ?_;simp! only[vM,vK,vJ];rw[iy (aJ aB) aB (by simp)];simp! only;refine Rc h1 h2 aB λh' r ss pr hr=>q h' r ss (((prefix_append _ _).trans ((prefix_append _ _).trans (prefix_append _ _))).trans pr) ?_;simp at hr;lia
theorem aaB (h1:1<=z)(h2:z<=12)(q:∀h' r ss,h<+:h'->h.length<=r->h'[r]?=some (.lst (ss.map .str))->ss≠[]->ss.length<=12->(∀s∈ss,GN s)->Q (.ref r) h'):au sb P (d+2) 15 [.int cell,.int z] h Q E:=by
 obtain ⟨n,rfl⟩:=eq_ofNat_of_zero_le (show 0<=z by lia);exact adE (by lia) (by lia) q
noncomputable abbrev sp (s:S):List S:=splitOn 32 s
noncomputable abbrev jn (l:List S):S:=fH [32] l
theorem xM:∀{s:S},sp s≠[]
 | []=>by simp[sp,splitOn]
 | c::s=>by
  simp only[sp,splitOn];split
  ·simp
  ·split<;>simp
theorem E_ (h:c≠32):∃w r,sp s=w::r/\sp (c::s)=(c::w)::r:=by
 cases e:sp s with
 | nil=>exact absurd e xM
 | cons w r=>exact ⟨w,r,rfl,by simp only[sp,splitOn,if_neg h];rw[show splitOn 32 s=w::r from e]⟩
theorem Jh:sp (32::s)=[]::sp s:=by simp[sp,splitOn]
theorem rM:∀{a b:S},sp (a++32::b)=sp a++sp b
 | [],b=>by rw[nil_append,Jh];rfl
 | c::a,b=>by
  by_cases h:c=32
  ·subst h;rw[cons_append,Jh,Jh,rM (a:=a)];rfl
  ·obtain ⟨w,r,e1,e2⟩:=E_ (s:=a) h;obtain ⟨w',r',e3,e4⟩:=E_ (s:=a++32::b) h;rw[rM (a:=a),e1]at e3;cases e3;rw[cons_append,e4,e2];rfl
theorem Gy:∀{s:S},jn (sp s)=s
 | []=>rfl
 | c::s=>by
  by_cases h:c=32
  ·subst h;rw[Jh];cases e:sp s with
   | nil=>exact absurd e xM
   | cons w r=>have:=Gy (s:=s);rw[e]at this;simp only[jn,fH];rw[show fH [32] (w::r)=s from this];rfl
  ·obtain ⟨w,r,e1,e2⟩:=E_ (s:=s) h;have:=Gy (s:=s);rw[e1]at this;rw[e2];cases r with
   | nil=>simp only[jn,fH]at this ⊢;rw[this]
   | cons x r=>simp only[jn,fH]at this ⊢;rw[<-this];rfl
theorem ql:∀{s:S},32∉s->sp s=[s]
 | [],_=>rfl
 | c::s,h=>by
  obtain ⟨w,r,e1,e2⟩:=E_ (s:=s) (c:=c) λe=>h (by simp[e]);rw[ql λx=>h (by simp[x])]at e1;cases e1;exact e2
theorem T7 (h:r≠[]):jn (w::r)=w++32::jn r:=by
 cases r with
 | nil=>exact absurd rfl h
 | cons x r=>simp[jn,fH]
theorem T8:∀{s:S} {c:Nat},c≠32->∃r w,sp s=r++[w]/\sp (s++[c])=r++[w++[c]]
 | [],c,h=>⟨[],[],rfl,ql (by simpa using λe=>h e.symm)⟩
 | x::s,c,h=>by
  obtain ⟨r,w,e1,e2⟩:=T8 (s:=s) h;by_cases e:x=32
  ·subst e;exact ⟨[]::r,w,by rw[Jh,e1];rfl,by rw[cons_append,Jh,e2];rfl⟩
  ·obtain ⟨v,q,f1,f2⟩:=E_ (s:=s) e;obtain ⟨v',q',f3,f4⟩:=E_ (s:=s++[c]) e;rw[e1]at f1;rw[e2]at f3;rw[cons_append,f4,f2];cases r with
   | nil=>simp only[nil_append,List.cons.injEq]at f1 f3;obtain ⟨rfl,rfl⟩:=f1;obtain ⟨rfl,rfl⟩:=f3;exact ⟨[],x::w,rfl,rfl⟩
   | cons y r=>simp only[cons_append,List.cons.injEq]at f1 f3;obtain ⟨rfl,rfl⟩:=f1;obtain ⟨rfl,rfl⟩:=f3;exact ⟨(x::y)::r,w,rfl,rfl⟩
def NU (s:S):Prop:=tx "usually"∉sp s
theorem ajZ:tx "usually"=[117,115,117,97,108,108,121]:=by decide
theorem aj0 (h:NU s):NU (tx "("++s++tx ")"):=by
 rw[NU,dw,dN,ajZ]at *;rw[append_assoc,singleton_append];obtain ⟨w,r,e1,e2⟩:=E_ (s:=s++[41]) (c:=40) (by decide);obtain ⟨r',w',f1,f2⟩:=T8 (s:=s) (c:=41) (by decide);rw[e2];rw[f2]at e1;rw[f1]at h;intro hm;rw[mem_cons]at hm;rcases hm with hm | hm
 ·cases hm
 ·have:[117,115,117,97,108,108,121]∈r'++[w'++[41]]:=by rw[e1];exact mem_cons_of_mem _ hm
  rw[mem_append,mem_singleton]at this;rcases this with x | x
  ·exact h (List.mem_append_left _ x)
  ·have:=congrArg List.getLast? x;simp at this
theorem Fb (h1:NU a)(h2:NU b):NU (a++32::b):=by
 rw[NU,rM,mem_append];exact λh=>h.elim h1 h2
theorem V3 (h:32∉w)(g:w≠tx "usually"):NU w:=by
 rw[NU,ql h,mem_singleton];exact λe=>g e.symm
theorem abA:∀{s:Sn} {l:Nat},(∀n∈nm s,GN n)->NU (sh s l):=by
 have bk:∀{t l:Nat} {s:S},NU s->NU (br t l s):=by
  intro t l s h;unfold br;split
  ·exact h
  ·exact aj0 h
 intro s
 induction s with
 | is n=>
  intro l g;have gn:=g n (by simp[nm]);exact bk (V3 (λh=>by have:=gU (gn.le _ h);lia) λe=>gn.kw (by rw[e];simp[KW]))
 | nt a ih=>
  intro l g;refine bk ?_;rw[show tx "not "++sh a 2=tx "not"++32::sh a 2 from by rw[fP,JX];rfl];exact Fb (V3 (by decide) (by decide)) (ih g)
 | an a b ia ib=>
  intro l g;refine bk ?_;rw[show sh a 1++tx " and "++sh b 2=sh a 1++32::(tx "and"++32::sh b 2) from by rw[fM,append_assoc];rfl];exact Fb (ia λn hn=>g n (by simp[nm,hn])) (Fb (V3 (by decide) (by decide)) (ib λn hn=>g n (by simp[nm,hn])))
 | or a b ia ib=>
  intro l g;refine bk ?_;rw[show sh a 0++tx " or "++sh b 1=sh a 0++32::(tx "or"++32::sh b 1) from by rw[fO,append_assoc];rfl];exact Fb (ia λn hn=>g n (by simp[nm,hn])) (Fb (V3 (by decide) (by decide)) (ib λn hn=>g n (by simp[nm,hn])))
theorem wC {s:S}{k:Int}(h1:-4611686018427387904<=k/\k < 4611686018427387904)(h2:s.length * k.toNat<=16777216):prim sb .wK [.str s,.int k] h=some (.str (replicate k.toNat s).flatten,h):=by
 show (if okR k && decide (s.length * k.toNat<=lim) then _ else none)=_;rw[mF.mpr h1];have:decide (s.length * k.toNat<=lim)=true:=decide_eq_true h2;rw[this];rfl
theorem qm:((replicate n s).flatten).length=s.length * n:=by
 rw[List.length_flatten,List.map_replicate,List.sum_replicate_nat,mul_comm]
theorem Yk {v:D}{k:Nat}(hk:k<=1000){a:Nat}(ha:h[a]?=some (.lst [v])):prim sb .mul [.ref a,.int (k:Int)] h=some (.ref h.length,h++[.lst (replicate k v)]):=by
 show (match h[a]? with | some (.lst xs)=>if okR (k:Int) then newL (replicate (k:Int).toNat xs).flatten h else none | _=>none)=_;rw[ha];show (if okR (k:Int) then newL (replicate (k:Int).toNat [v]).flatten h else none)=_;rw[if_pos (mF.mpr (by lia)),toNat_natCast];have e:(replicate k [v]).flatten=replicate k v:=by
  induction k with
  | zero=>rfl
  | succ k ih=>rw[replicate_succ,flatten_cons,ih (by lia),replicate_succ];rfl
 rw[e];exact if_pos (by rw[length_replicate];show k<=16777216;lia)
def Nr (n m:Nat)(xs:List D):Prop:=xs.length=n/\∀v∈xs,∃i:Nat,v=.int i/\i<=m
theorem Nr.at {n m:Nat}{xs:List D}{k:Int}(c:Nr n m xs)(h0:0<=k)(h1:k < n):∃i:Nat,bT xs k=some (.int i)/\i<=m:=by
 obtain ⟨v,hv,e⟩:=jN (xs:=xs) (z:=k) h0 (by rw[c.1];exact h1);obtain ⟨i,rfl,hi⟩:=c.2 v hv;exact ⟨i,e,hi⟩
theorem Nr.set (c:Nr n m xs)(hi:i<=m):Nr n (m+1) (xs.set k (.int ((i:Int)+1))):=by
 refine ⟨by rw[List.length_set];exact c.1,λv hv=>?_⟩;rcases List.mem_or_eq_of_mem_set hv with hv | rfl
 ·obtain ⟨j,e,hj⟩:=c.2 v hv;exact ⟨j,e,by lia⟩
 ·exact ⟨i+1,by simp,by lia⟩
theorem Fd (ha:h[a]?=some (.lst xs))(h0:0<=k)(h1:k < xs.length):prim sb .fB [.ref a,.int k,v] h=some (.non,h.set a (.lst (xs.set k.toNat v))):=by
 show (match h[a]? with | some (.dct kvs)=>_ | some (.lst xs)=>_ | _=>none)=_;rw[ha];show (match lD xs.length k with | some j=>some (Z.D.non,h.set a (.lst (xs.set j v))) | none=>none)=_;have e:lD xs.length k=some k.toNat:=by unfold lD;rw[if_pos h0,if_pos h1]
 rw[e]
theorem Yl {da na:Nat}{D:Nat->Int}{N:List S}{m:Nat}(hm:34<=m)(hd:h[da]?=some (.lst (rl m D)))(hn:h[na]?=some (.lst (N.map .str)))(hN:N≠[])(jw:∀n∈N,n.length<=12)(q:∀h' t,h<+:h'->t.length<=1000->Q (.str t) h'):au sb P (d+1) 16 [.ref da,.ref na] h Q E:=by
 refine wp_call rfl rfl ?_;obtain ⟨v0,e0⟩:=bC (n:=m) (f:=D) (z:=0) (by decide) (by lia);obtain ⟨v1,e1⟩:=bC (n:=m) (f:=D) (z:=1) (by decide) (by lia);obtain ⟨n,hnn⟩:∃n:Nat,1+v0 % 6=(n:Int):=⟨(1+v0 % 6).toNat,by lia⟩
 have hn1:1<=n/\n<=6:=by lia
 simp! only[yZ,aD hd,e0,hnn,yX,Yk (show n<=1000 by lia) aB];have hd1:=aJ (l:=[AO.lst (replicate n (Z.D.int 0))]) (aJ (l:=[AO.lst [Z.D.int 0]]) hd);have hn2:=aJ (l:=[AO.lst (replicate n (Z.D.int 0))]) (aJ (l:=[AO.lst [Z.D.int 0]]) hn);have bZ:h<+:h++[AO.lst [Z.D.int 0]]++[AO.lst (replicate n (Z.D.int 0))]:=pre_app (prefix_append _ _);have ho1:(h++[AO.lst [Z.D.int 0]]++[AO.lst (replicate n (Z.D.int 0))])[(h++[AO.lst [Z.D.int 0]]).length]?=some (.lst (replicate n (Z.D.int 0))):=aB;have hoa:h.length<=(h++[AO.lst [Z.D.int 0]]).length:=by simp
 generalize (h++[AO.lst [Z.D.int 0]]).length=oa at ho1 hoa ⊢;generalize h++[AO.lst [Z.D.int 0]]++[AO.lst (replicate n (Z.D.int 0))]=h1 at hd1 hn2 bZ ho1 ⊢;simp! only[yW,Yk (show n<=1000 by lia) aB];have hd2:=aJ (l:=[AO.lst (replicate n (Z.D.int 0))]) (aJ (l:=[AO.lst [Z.D.int 0]]) hd1);have hn3:=aJ (l:=[AO.lst (replicate n (Z.D.int 0))]) (aJ (l:=[AO.lst [Z.D.int 0]]) hn2);have ho2:=aJ (l:=[AO.lst (replicate n (Z.D.int 0))]) (aJ (l:=[AO.lst [Z.D.int 0]]) ho1);have b_:h<+:h1++[AO.lst [Z.D.int 0]]++[AO.lst (replicate n (Z.D.int 0))]:=pre_app (pre_app bZ);have hs2:(h1++[AO.lst [Z.D.int 0]]++[AO.lst (replicate n (Z.D.int 0))])[(h1++[AO.lst [Z.D.int 0]]).length]?=some (.lst (replicate n (Z.D.int 0))):=aB;have hsa:h.length<=(h1++[AO.lst [Z.D.int 0]]).length:=by have:=lA bZ;simp;lia
 have hos:oa≠(h1++[AO.lst [Z.D.int 0]]).length:=by have:=lN ho1;simp;lia
 generalize (h1++[AO.lst [Z.D.int 0]]).length=sa at hs2 hsa hos ⊢;generalize h1++[AO.lst [Z.D.int 0]]++[AO.lst (replicate n (Z.D.int 0))]=h2 at hd2 hn3 ho2 b_ hs2 ⊢;have hdl:=lN hd;have hnl:=lN hn;have c0:Nr n 0 (replicate n (Z.D.int 0)):=⟨length_replicate,λv hv=>⟨0,by rw[List.eq_of_mem_replicate hv];rfl,le_refl _⟩⟩
 obtain ⟨k1,hk1⟩:∃k:Nat,v1 % 4=(k:Int):=⟨(v1 % 4).toNat,by lia⟩
 have hk3:k1<=3:=by lia
 simp! only[yV];refine lH (lo:=0) (n:=k1) (vs:=[.int k1]) (h1:=h2) (λi σ h'=>∃(xs ys:List Z.D) (x5 x6 x7:Option Z.D),h<+:h'/\h'[oa]?=some (.lst xs)/\h'[sa]?=some (.lst ys)/\Nr n i xs/\Nr n i ys/\σ=[some (.ref da),some (.ref na),some (.int n),some (.ref oa),some (.ref sa),x5,x6,x7,none,none]) (λQ q=>by simp! only[aD hd2,e1,hk1];exact q) (by simp[bM,iZ,iR,i_,jc,iw,okR];lia) ⟨_,_,none,none,none,b_,ho2,hs2,c0,c0,rfl⟩ ?_ ?_
 ·rintro i σ h' hi ⟨xs,ys,x5,x6,x7,pr,ho,hs,cx,cy,rfl⟩;refine ⟨_,rfl,?_⟩;have hd':=aK pr hd;obtain ⟨w2,f2⟩:=bC (n:=m) (f:=D) (z:=2+(0+(i:Int))) (by lia) (by lia);obtain ⟨w5,f5⟩:=bC (n:=m) (f:=D) (z:=5+(0+(i:Int))) (by lia) (by lia);simp! only[yU,aD hd',f2,pQ (show (0:Int) < (n:Int) by lia),yS,f5];have o0:=emod_nonneg w2 (show (n:Int)≠0 by lia);have o1:=emod_lt_of_pos w2 (show (0:Int) < (n:Int) by lia);generalize w2 % (n:Int)=one at o0 o1;have t0:=emod_nonneg w5 (show (n:Int) - one≠0 by lia);have t1:=emod_lt_of_pos w5 (show (0:Int) < (n:Int) - one by lia);simp! only[pQ (show (0:Int) < (n:Int) - one by lia)];generalize w5 % ((n:Int) - one)=two at t0 t1;obtain ⟨i1,a1,b1⟩:=cx.at o0 o1;obtain ⟨i2,a2,b2⟩:=cy.at (k:=one+two) (by lia) (by lia);have hs':(h'.set oa (.lst (xs.set one.toNat (.int ((i1:Int)+1)))))[sa]?=some (.lst ys):=bN hs hos;simp! only[yR,aD ho,a1,Fd ho o0 (by rw[cx.1];exact o1),yQ,aD hs',a2,Fd hs' (show 0<=one+two by lia) (by rw[cy.1];lia)];exact ⟨_,_,_,_,_,iK (iK pr hoa) hsa,bN (get_set ho) (Ne.symm hos),get_set hs',cx.set b1,cy.set b2,rfl⟩
 ·rintro σ h' ⟨xs,ys,x5,x6,x7,pr,ho,hs,cx,cy,rfl⟩;simp! only[yP,Dl];have hN0:0 < N.length:=length_pos_iff.mpr hN;refine lH (lo:=0) (n:=n) (vs:=[.int n]) (h1:=h') (λi σ h2=>∃(t:S) (x5 x9:Option Z.D),h'<+:h2/\t.length<=60 * i/\σ=[some (.ref da),some (.ref na),some (.int n),some (.ref oa),some (.ref sa),x5,x6,x7,some (.str t),x9]) (λQ q=>by simp! only;exact q) (by simp[bM,iZ,iR,i_,jc,iw,okR];lia) ⟨_,_,_,iM,by simp;decide,rfl⟩ ?_ ?_
  ·rintro i σ h3 hi ⟨t,y5,y9,cB,tl,rfl⟩;refine ⟨_,rfl,?_⟩;have T9:=aK cB (aK pr hd);have aqy:=aK cB (aK pr hn);have ho3:=aK cB ho;have hs3:=aK cB hs;obtain ⟨w8,f8⟩:=bC (n:=m) (f:=D) (z:=8+(0+(i:Int))) (by lia) (by lia);obtain ⟨w14,ou⟩:=bC (n:=m) (f:=D) (z:=14+(0+(i:Int))) (by lia) (by lia);obtain ⟨w20,oA⟩:=bC (n:=m) (f:=D) (z:=20+(0+(i:Int))) (by lia) (by lia);obtain ⟨w26,pJ⟩:=bC (n:=m) (f:=D) (z:=26+(0+(i:Int))) (by lia) (by lia);obtain ⟨i1,a1,b1⟩:=cx.at (k:=0+(i:Int)) (by lia) (by lia);obtain ⟨i2,a2,b2⟩:=cy.at (k:=0+(i:Int)) (by lia) (by lia);obtain ⟨u,hu,eu⟩:=jN (xs:=N.map Z.D.str) (z:=w26 % ((N.length:Nat):Int)) (emod_nonneg _ (by lia)) (by rw[length_map];exact emod_lt_of_pos _ (by lia));obtain ⟨nme,hnm,rfl⟩:=mem_map.mp hu;have aqz:=jw nme hnm;rw[Dk,jk];refine wp_seq (λσ h4=>∃t':S,h'<+:h4/\t'.length<=60 * i+5/\σ=[some (.ref da),some (.ref na),some (.int n),some (.ref oa),some (.ref sa),some (.int (0+i)),x6,x7,some (.str t'),y9]) ?_ ?_
   ·simp! only;by_cases hp:(0:Int) < 0+(i:Int)
    ·rw[decide_eq_true hp];obtain ⟨x,hx,ex⟩:=jN (xs:=[Z.D.str (tx " and "),.str (tx " or ")]) (z:=w8 % 2) (emod_nonneg _ (by decide)) (emod_lt_of_pos _ (by decide));obtain ⟨jn,rfl,hjn⟩:∃jn:S,x=.str jn/\jn.length<=5:=by
      simp only[mem_cons,not_mem_nil,or_false]at hx;rcases hx with e | e
      ·exact ⟨_,e,by decide⟩
      ·exact ⟨_,e,by decide⟩
     simp! only[Dj,aD (aJ T9),f8,aD aB,ex];rw[if_pos (by lia)];exact ⟨_,pre_app cB,by simp;lia,rfl⟩
    ·rw[decide_eq_false hp];simp! only;exact ⟨t,cB,by lia,rfl⟩
   ·rintro σ1 h4 ⟨t',pr4,tl',rfl⟩;have QJ:=aK pr4 (aK pr hd);have hn4:=aK pr4 (aK pr hn);have ho4:=aK pr4 ho;have hs4:=aK pr4 hs;have k14:0<=w14 % 8 / 6/\w14 % 8 / 6<=1:=by lia
    have k20:0<=w20 % 8 / 6/\w20 % 8 / 6<=1:=by lia
    have l14:(tx "not ").length * (w14 % 8 / 6).toNat<=4:=by rw[fP];simp only[length_cons,length_nil];lia
    have l20:(tx "not ").length * (w20 % 8 / 6).toNat<=4:=by rw[fP];simp only[length_cons,length_nil];lia
    have li1:(tx "(").length * ((i1:Int)).toNat<=3:=by rw[dw];simp only[length_cons,length_nil];lia
    have li2:(tx ")").length * ((i2:Int)).toNat<=3:=by rw[dN];simp only[length_cons,length_nil];lia
    have m14:=@wC h4 (tx "not ") (w14 % 8 / 6) (by lia) (by lia);have m20:=@wC h4 (tx "not ") (w20 % 8 / 6) (by lia) (by lia);have mi1:=@wC h4 (tx "(") (i1:Int) (by lia) (by lia);have mi2:=@wC h4 (tx ")") (i2:Int) (by lia) (by lia);have r14:=qm (s:=tx "not ") (n:=(w14 % 8 / 6).toNat);have r20:=qm (s:=tx "not ") (n:=(w20 % 8 / 6).toNat);have ri1:=qm (s:=tx "(") (n:=((i1:Int)).toNat);have ri2:=qm (s:=tx ")") (n:=((i2:Int)).toNat);generalize (replicate (w14 % 8 / 6).toNat (tx "not ")).flatten=s14 at m14 r14;generalize (replicate (w20 % 8 / 6).toNat (tx "not ")).flatten=s20 at m20 r20;generalize (replicate ((i1:Int)).toNat (tx "(")).flatten=si1 at mi1 ri1;generalize (replicate ((i2:Int)).toNat (tx ")")).flatten=si2 at mi2 ri2;simp! only[Di,aD QJ,ou,m14];rw[if_pos (by lia)];simp! only[Dh,aD ho4,a1,mi1];rw[if_pos (by simp only[length_append];lia)];simp! only[Dg,aD QJ,pJ,gw hn4,length_map,pQ (show (0:Int) < (N.length:Int) by lia),aD hn4,eu,Df,oA,m20];rw[if_pos (by simp only[length_append];lia)];simp! only[Dd];rw[if_pos (by simp only[length_append];lia)];simp! only[aD hs4,a2,mi2];rw[if_pos (by simp only[length_append];lia)];exact ⟨_,_,_,pr4,by simp only[length_append];lia,rfl⟩
  ·rintro σ h2 ⟨t,y5,y9,cB,tl,rfl⟩;simp! only[Dc];exact q h2 t (pr.trans cB) (by lia)
theorem Nt {da:Nat}{D:Nat->Int}{m:Nat}{t:S}(hm:50<=m)(hd:h[da]?=some (.lst (rl m D)))(ht:t.length<=2000)(q:∀h' t',h<+:h'->t'.length<=2100->Q (.str t') h'):au sb P (d+1) 17 [.str t,.ref da] h Q E:=by
 refine wp_call rfl rfl ?_;simp! only[qQ];rw[qP,jk];generalize hsg:([32,33,34,35,36,38,39,40,41,42,43,44,45,46,47,48,49,50,51,52,53,54,55,56,57,58,59,60,61,62,63,64,65,66,67,68,69,70,71,72,73,74,75,76,77,78,79,80,81,82,83,84,85,86,87,88,89,90,91,92,93,94,95,96]:S)=sg0;have hsl:sg0.length=64:=by rw[<-hsg];rfl
 simp! only[tH];have htl:(tx "abcdefghijklmnopqrstuvwxyz{|}~").length=30:=by decide
 rw[if_pos (by lia)];have ahb:(sg0++tx "abcdefghijklmnopqrstuvwxyz{|}~").length=94:=by rw[length_append,hsl,htl]
 clear hsg hsl;generalize sg0++tx "abcdefghijklmnopqrstuvwxyz{|}~"=sg at ahb ⊢;generalize hsm:([.str (tx "("),.str (tx ")"),.str (tx " "),.str (tx "not "),.str (tx " and "),.str (tx " or "),.str (tx "a"),.str (tx "N"),.str (tx "0"),.str [10],.str (tx " usually "),.str (tx "nota")]:List Z.D)=sm;have anE:∀z:Int,∃w:S,bT sm (z % 12)=some (.str w)/\w.length<=9:=λz=>by
  obtain ⟨v,hv,e⟩:=jN (xs:=sm) (z:=z % 12) (emod_nonneg _ (by decide)) (by rw[<-hsm];exact emod_lt_of_pos _ (by decide));rw[<-hsm]at hv;simp only[mem_cons,not_mem_nil,or_false]at hv;rcases hv with rfl | rfl | rfl | rfl | rfl | rfl | rfl | rfl | rfl | rfl | rfl | rfl<;>exact ⟨_,e,by decide⟩
 clear hsm;have bZ:h<+:h++[AO.lst sm]:=prefix_append _ _;have hs1:(h++[AO.lst sm])[h.length]?=some (.lst sm):=aB;have hd1:=aK bZ hd;generalize h.length=ma at hs1 ⊢;generalize h++[AO.lst sm]=h1 at bZ hs1 hd1 ⊢;obtain ⟨v32,e32⟩:=bC (n:=m) (f:=D) (z:=32) (by decide) (by lia);obtain ⟨v33,e33⟩:=bC (n:=m) (f:=D) (z:=33) (by decide) (by lia);have mm:=@Wn sb h1 (v32 % 4 / 2) (1+v33 % 2) (by lia);obtain ⟨k,hk⟩:∃k:Nat,v32 % 4 / 2 * (1+v33 % 2)=(k:Int):=by
  refine eq_ofNat_of_zero_le (Int.mul_nonneg (by lia) (by lia))
 have hk2:k<=2:=by
  have h1:v32 % 4 / 2=0\/v32 % 4 / 2=1:=by lia
  have h2:v33 % 2=0\/v33 % 2=1:=by lia
  rcases h1 with h1 | h1<;>rcases h2 with h2 | h2<;>rw[h1,h2]at hk<;>lia
 rw[hk]at mm;simp! only[tG];refine lH (lo:=0) (n:=k) (vs:=[.int k]) (h1:=h1) (λi σ h'=>∃(t':S) (x4 x5 x6 x7:Option Z.D),h1<+:h'/\t'.length<=2000+20 * i/\σ=[some (.str t'),some (.ref da),some (.ref ma),some (.str sg),x4,x5,x6,x7]) (λQ q=>by simp! only[aD hd1,e32,e33,mm];exact q) (by simp[bM,iZ,iR,i_,jc,iw,okR];lia) ⟨t,none,none,none,none,iM,by lia,rfl⟩ ?_ ?_
 ·rintro i σ h' hi ⟨t',x4,x5,x6,x7,pr,tl,rfl⟩;refine ⟨_,rfl,?_⟩;have hd2:=aK pr hd1;have hs2:=aK pr hs1;obtain ⟨w34,f34⟩:=bC (n:=m) (f:=D) (z:=34+(0+(i:Int))) (by lia) (by lia);obtain ⟨w36,f36⟩:=bC (n:=m) (f:=D) (z:=36+(0+(i:Int))) (by lia) (by lia);obtain ⟨w38,f38⟩:=bC (n:=m) (f:=D) (z:=38+(0+(i:Int))) (by lia) (by lia);obtain ⟨w40,f40⟩:=bC (n:=m) (f:=D) (z:=40+(0+(i:Int))) (by lia) (by lia);obtain ⟨w46,f46⟩:=bC (n:=m) (f:=D) (z:=46+(0+(i:Int))) (by lia) (by lia);obtain ⟨w48,f48⟩:=bC (n:=m) (f:=D) (z:=48+(0+(i:Int))) (by lia) (by lia);obtain ⟨nw,en,ln⟩:=anE w36;have hpos:(0:Int) < (t'.length:Int)+1:=by lia
  simp! only[tE,aD hd2,f34,pQ hpos,tD,f36,aD hs2,en];have a0:=emod_nonneg w34 (show (t'.length:Int)+1≠0 by lia);generalize w34 % ((t'.length:Int)+1)=at_ at a0;obtain ⟨x,hx,ex⟩:=jN (xs:=[Z.D.str nw,.str (tx "")]) (z:=w38 % 2) (emod_nonneg _ (by decide)) (emod_lt_of_pos _ (by decide));obtain ⟨n2,rfl,ln2⟩:∃n2:S,x=.str n2/\n2.length<=9:=by
   simp only[mem_cons,not_mem_nil,or_false]at hx;rcases hx with e | e
   ·exact ⟨_,e,ln⟩
   ·exact ⟨_,e,by decide⟩
  simp! only[aD (aJ (l:=[AO.lst [Z.D.str nw,.str (tx "")]]) hd2),f38,aD aB,ex];rw[tB,jk];have T9:=aJ (l:=[AO.lst [Z.D.str nw,.str (tx "")]]) hd2;have cB:=pre_app (l:=[AO.lst [Z.D.str nw,.str (tx "")]]) pr;generalize h'++[AO.lst [Z.D.str nw,.str (tx "")]]=h3 at T9 cB;refine wp_seq (λσ h4=>h4=h3/\∃n3:S,n3.length<=9/\σ=[some (.str t'),some (.ref da),some (.ref ma),some (.str sg),some (.int (0+i)),some (.int at_),some (.str n3),x7]) ?_ ?_
  ·simp! only[aD T9,f48];cases w48 % 3 == 0 with
   | true=>
    obtain ⟨c,hc,ec⟩:=jN (xs:=sg) (z:=w46 % 94) (emod_nonneg _ (by decide)) (by rw[ahb];exact emod_lt_of_pos _ (by decide));simp! only[sZ,aD T9,f46,ec];exact ⟨_,by simp,rfl⟩
   | false=>
    simp! only;exact ⟨n2,ln2,rfl⟩
  ·rintro σ1 h4 ⟨rfl,n3,ln3,rfl⟩;have l1:=jl (xs:=t') (lo:=none) (hi:=some at_);have l2:=jl (xs:=t') (lo:=some (at_+w40 % 2)) (hi:=none);have l3:(cut t' none (some at_)).length+(cut t' (some (at_+w40 % 2)) none).length<=t'.length:=by
    have hw:=emod_nonneg w40 (show (2:Int)≠0 by decide);simp only[cut,bG];rw[if_neg (by lia),if_neg (by lia)];simp only[length_take,length_drop]
    lia
   simp! only[sY,aD T9,f40,sX];rw[if_pos (by lia)];simp! only;rw[if_pos (by simp only[length_append];lia)];exact ⟨_,_,_,_,_,cB,by simp only[length_append];lia,rfl⟩
 ·rintro σ h' ⟨t',x4,x5,x6,x7,pr,tl,rfl⟩;simp! only[sW];exact q h' t' (bZ.trans pr) (by lia)
theorem T_:(tx "is" == tx "is")=true:=by decide
theorem Ua:(tx "not" == tx "is")=false:=by decide
theorem Ub:(tx "and" == tx "is")=false:=by decide
theorem Uc:(tx "or" == tx "is")=false:=by decide
theorem Ud:(tx "and" == tx "not")=false:=by decide
theorem Ue:(tx "or" == tx "not")=false:=by decide
theorem adF:(tx "and" == tx "and")=true:=by decide
theorem adG:(tx "or" == tx "and")=false:=by decide
theorem Fe:bT [x,y] 0=some x:=rfl
theorem Ji:bT [x,y] 1=some y:=rfl
theorem Lx:bT [x,y,z] 0=some x:=rfl
theorem Ly:bT [x,y,z] 1=some y:=rfl
theorem Lz:bT [x,y,z] 2=some z:=rfl
theorem aj1:prim sb (.j5 fU) [.str (tx "is")] h=some (.int 3,h):=rfl
theorem aj2:prim sb (.j5 fU) [.str (tx "not")] h=some (.int 2,h):=rfl
theorem aj3:prim sb (.j5 fU) [.str (tx "and")] h=some (.int 1,h):=rfl
theorem aj4:prim sb (.j5 fU) [.str (tx "or")] h=some (.int 0,h):=rfl
theorem O1 (hs:s.length<=10000)(q:Q (.str (br t l s)) h):
  bw sb (au sb P d) E mO {nx:=λ_ h=>Q .non h,rt:=Q} [x0,some (.int l),x2,some (.int t),some (.str s),x5,x6] h:=by
 simp! only[mO];by_cases hl:l<=t
 ·rw[decide_eq_true (by lia)];rw[br,if_pos hl]at q;simp! only;exact q
 ·rw[decide_eq_false (by lia)];rw[br,if_neg hl]at q;simp! only;rw[if_pos (by rw[dw];simp only[length_cons,length_nil];lia)];simp! only;rw[if_pos (by rw[dw];simp only[length_cons,length_nil];lia)];simp! only;rw[if_pos (by rw[dw,dN];simp only[length_append,length_cons,length_nil];lia)];exact q
theorem O2:tx " "=[32]:=by decide
theorem ahd:tx "and"=[97,110,100]:=by decide
theorem ahe:tx "or"=[111,114]:=by decide
theorem wD:∀{s:Sn} {d l:Nat} {h:AH} {Q:PV} {E:PX},(∀n∈nm s,GN n)->sz s<=120->lv s<=d->Q (.str (sh s l)) h->au sb P d 8 [sd s,.int l] h Q E
 | .is n,0,l,h,Q,E,g,hz,hd,q=>by simp[lv]at hd
 | .is n,d+1,l,h,Q,E,g,hz,hd,q=>by
  have gn:=(g n (by simp[nm])).hi;refine wp_call rfl rfl ?_;simp! only[sd,fL,Fe,gP,aj1,gM,T_,vq,Ji];exact O1 (t:=3) (by lia) q
 | .nt a,0,l,h,Q,E,g,hz,hd,q=>by simp[lv]at hd
 | .nt a,d+1,l,h,Q,E,g,hz,hd,q=>by
  simp only[lv,sz]at hd hz;have l1:=eO (s:=a) (l:=2) g;refine wp_call rfl rfl ?_;simp! only[sd,fL,Fe,gP,aj2,gM,Ua,jm,Ls,vA,Ji];refine wD (s:=a) (l:=2) g (by lia) (by lia) ?_;simp! only;rw[if_pos (by rw[fP];simp only[length_cons,length_nil];lia)];simp! only;exact O1 (t:=2) (by rw[fP];simp only[length_append,length_cons,length_nil];lia) q
 | .an a b,0,l,h,Q,E,g,hz,hd,q=>by simp[lv]at hd
 | .an a b,d+1,l,h,Q,E,g,hz,hd,q=>by
  simp only[lv,sz]at hd hz;have g1:∀n∈nm a,GN n:=λn h=>g n (by simp[nm,h]);have g2:∀n∈nm b,GN n:=λn h=>g n (by simp[nm,h]);have l1:=eO (s:=a) (l:=1) g1;have l2:=eO (s:=b) (l:=2) g2;refine wp_call rfl rfl ?_;simp! only[sd,fL,Lx,gP,aj3,gM,Ub,jm,Ud,mU,Ly];refine wD (s:=a) (l:=1) g1 (by lia) (by lia) ?_;simp! only[mR,Lz];refine wD (s:=b) (l:=2) g2 (by lia) (by lia) ?_;simp! only[mQ];rw[if_pos (by lia)];simp! only[O2,ahd];rw[if_pos (by lia)];simp! only;rw[if_pos (by simp only[length_append,length_cons,length_nil];lia)];simp! only;rw[if_pos (by simp only[length_append,length_cons,length_nil];lia)];simp! only;rw[if_pos (by simp only[length_append,length_cons,length_nil];lia)];simp! only;refine O1 (t:=1) (by simp only[length_append,length_cons,length_nil];lia) ?_;simpa [sh,fM,append_assoc] using q
 | .or a b,0,l,h,Q,E,g,hz,hd,q=>by simp[lv]at hd
 | .or a b,d+1,l,h,Q,E,g,hz,hd,q=>by
  simp only[lv,sz]at hd hz;have g1:∀n∈nm a,GN n:=λn h=>g n (by simp[nm,h]);have g2:∀n∈nm b,GN n:=λn h=>g n (by simp[nm,h]);have l1:=eO (s:=a) (l:=0) g1;have l2:=eO (s:=b) (l:=1) g2;refine wp_call rfl rfl ?_;simp! only[sd,fL,Lx,gP,aj4,gM,Uc,jm,Ue,mU,Ly];refine wD (s:=a) (l:=0) g1 (by lia) (by lia) ?_;simp! only[mR,Lz];refine wD (s:=b) (l:=1) g2 (by lia) (by lia) ?_;simp! only[mQ];rw[if_pos (by lia)];simp! only[O2,ahe];rw[if_pos (by lia)];simp! only;rw[if_pos (by simp only[length_append,length_cons,length_nil];lia)];simp! only;rw[if_pos (by simp only[length_append,length_cons,length_nil];lia)];simp! only;rw[if_pos (by simp only[length_append,length_cons,length_nil];lia)];simp! only;refine O1 (t:=0) (by simp only[length_append,length_cons,length_nil];lia) ?_;simpa [sh,fO,append_assoc] using q
theorem abD (hs:s.length<=10000)(q:Q (.str (br t l s)) h):
  bw sb (au sb P d) E q9 {nx:=λ_ h=>Q .non h,rt:=Q} [x0,some (.int ((l:Int)+1)),some (.int ((t:Int)+1)),x3,some (.str s)] h:=by
 simp! only[q9];by_cases hl:l<=t
 ·rw[decide_eq_false (by lia)];rw[br,if_pos hl]at q;simp! only[Eb];exact q
 ·rw[decide_eq_true (by lia)];rw[br,if_neg hl]at q;simp! only[Ec];rw[if_pos (by rw[dw];simp only[length_cons,length_nil];lia)];simp! only;rw[if_pos (by rw[dw,dN];simp only[length_append,length_cons,length_nil];lia)];exact q
theorem wF:∀{s:Sn} {d l:Nat} {h:AH} {Q:PV} {E:PX},(∀n∈nm s,GN n)->sz s<=120->lv s<=d->l<=2->Q (.str (sh s l)) h->au sb P d 24 [sd s,.int ((l:Int)+1)] h Q E
 | .is n,0,l,h,Q,E,g,hz,hd,hl,q=>by simp[lv]at hd
 | .is n,d+1,l,h,Q,E,g,hz,hd,hl,q=>by
  refine wp_call rfl rfl ?_;simp! only[sd,iC,Fe,T_,zO,Ji];rw[sh,br,if_pos (by lia)]at q;exact q
 | .nt a,0,l,h,Q,E,g,hz,hd,hl,q=>by simp[lv]at hd
 | .nt a,d+1,l,h,Q,E,g,hz,hd,hl,q=>by
  simp only[lv,sz]at hd hz;have l1:=eO (s:=a) (l:=2) g;refine wp_call rfl rfl ?_;simp! only[sd,iC,Fe,Ua,jV,Ls,zN,Ji];refine wF (s:=a) (l:=2) g (by lia) (by lia) (by lia) ?_;simp! only;rw[if_pos (by rw[fP];simp only[length_cons,length_nil];lia)];rw[sh,br,if_pos (by lia)]at q;exact q
 | .an a b,0,l,h,Q,E,g,hz,hd,hl,q=>by simp[lv]at hd
 | .an a b,d+1,l,h,Q,E,g,hz,hd,hl,q=>by
  simp only[lv,sz]at hd hz;have g1:∀n∈nm a,GN n:=λn h=>g n (by simp[nm,h]);have g2:∀n∈nm b,GN n:=λn h=>g n (by simp[nm,h]);have l1:=eO (s:=a) (l:=1) g1;have l2:=eO (s:=b) (l:=2) g2;refine wp_call rfl rfl ?_;simp! only[sd,iC,Lx,Ub,jV,Ud,rC,rB,rA,adF,Ef,Ed,q_,Ly];refine wF (s:=a) (l:=1) g1 (by lia) (by lia) (by lia) ?_;simp! only;rw[if_pos (by rw[fM];simp only[length_cons,length_nil];lia)];simp! only[Lz];refine wF (s:=b) (l:=2) g2 (by lia) (by lia) (by lia) ?_;simp! only;rw[if_pos (by rw[fM];simp only[length_append,length_cons,length_nil];lia)];simp! only;exact abD (t:=1) (by rw[fM];simp only[length_append,length_cons,length_nil];lia) q
 | .or a b,0,l,h,Q,E,g,hz,hd,hl,q=>by simp[lv]at hd
 | .or a b,d+1,l,h,Q,E,g,hz,hd,hl,q=>by
  simp only[lv,sz]at hd hz;have g1:∀n∈nm a,GN n:=λn h=>g n (by simp[nm,h]);have g2:∀n∈nm b,GN n:=λn h=>g n (by simp[nm,h]);have l1:=eO (s:=a) (l:=0) g1;have l2:=eO (s:=b) (l:=1) g2;refine wp_call rfl rfl ?_;simp! only[sd,iC,Lx,Uc,jV,Ue,rC,rB,rA,adG,q_,Ly];refine wF (s:=a) (l:=0) g1 (by lia) (by lia) (by lia) ?_;simp! only;rw[if_pos (by rw[fO];simp only[length_cons,length_nil];lia)];simp! only[Lz];refine wF (s:=b) (l:=1) g2 (by lia) (by lia) (by lia) ?_;simp! only;rw[if_pos (by rw[fO];simp only[length_append,length_cons,length_nil];lia)];simp! only;exact abD (t:=0) (by rw[fO];simp only[length_append,length_cons,length_nil];lia) q
theorem LK (g:∀n∈nm s,GN n)(hz:sz s<=120)(hd:lv s<=d)(q:Q (.str (sh s 0)) h):au sb P (d+1) 7 [sd s] h Q E:=by
 refine wp_call rfl rfl ?_;simp! only[nJ];exact wD (l:=0) g hz hd q
theorem Gz:∀{s:Sn} {l:Nat},l<=2->(∀n∈nm s,GN n)->sz s<=sl s l
 | .is n,l,h,g=>by
  have:=length_pos_iff.mpr (J5 (g n (by simp[nm])));rw[J7 h];simp only[sz];lia
 | .nt a,l,h,g=>by
  have:=Gz (s:=a) (l:=2) (by lia) g;rw[J8 h];simp only[sz];lia
 | .an a b,l,h,g=>by
  have:=Gz (s:=a) (l:=1) (by lia) λn hn=>g n (by simp[nm,hn]);have:=Gz (s:=b) (l:=2) (by lia) λn hn=>g n (by simp[nm,hn]);rw[J9];simp only[sz];lia
 | .or a b,l,h,g=>by
  have:=Gz (s:=a) (l:=0) (by lia) λn hn=>g n (by simp[nm,hn]);have:=Gz (s:=b) (l:=1) (by lia) λn hn=>g n (by simp[nm,hn]);rw[Gp];simp only[sz];lia
theorem Nu {α:Type}{xs:List α}{n:Nat}:cut xs none (some (n:Int))=xs.take n:=by
 simp only[cut,bG];rw[if_neg (by lia),drop_zero,Nat.sub_zero,List.take_eq_take_iff]
 lia
theorem rN {α:Type}{xs:List α}(h:n<=xs.length):cut xs (some (n:Int)) none=xs.drop n:=by
 simp only[cut,bG];rw[if_neg (by lia)];have e:(min (n:Int) (xs.length:Int)).toNat=n:=by lia
 rw[e,List.take_of_length_le (by simp)]
theorem Ym (ha:h[a]?=some (.lst xs))(hl:xs.length<=16777216):prim sb .Mp [.ref a,.int i] h=some (.ref h.length,h++[.lst (cut xs none (some i))]):=by
 show dg (.ref a) none (some i) h=_;unfold dg;simp only[ha];exact if_pos (le_trans jl hl)
def US:S:=tx "usually"
def tl (ss:List S):Nat:=(ss.map List.length).sum+ss.length
theorem ju:tl (w::r)=w.length+1+tl r:=by simp only[tl,map_cons,sum_cons,length_cons];lia
theorem rO:tl (a++b)=tl a+tl b:=by simp only[tl,map_append,List.sum_append,length_append];lia
theorem lY:ss.length<=tl ss:=by unfold tl;lia
theorem GC:∀{ss:List S},(jn ss).length<=tl ss
 | []=>by simp[jn,fH]
 | [w]=>by simp only[jn,fH,tl,map_cons,map_nil,sum_cons,sum_nil,length_cons];lia
 | w::x::r=>by have:=GC (ss:=x::r);rw[T7 (by simp),ju,length_append,length_cons];lia
theorem xO:∀{s:S},tl (sp s)=s.length+1
 | []=>rfl
 | c::s=>by
  by_cases h:c=32
  ·subst h;rw[Jh,ju,xO];simp only[length_cons,length_nil];lia
  ·obtain ⟨w,r,e1,e2⟩:=E_ (s:=s) h;have:=xO (s:=s);rw[e1,ju]at this;rw[e2,ju,length_cons,length_cons];lia
theorem Ug:tl (ss.take n)<=tl ss:=by
 have:=rO (a:=ss.take n) (b:=ss.drop n);rw[take_append_drop]at this;lia
theorem LQ:tl (ss.drop n)<=tl ss:=by
 have:=rO (a:=ss.take n) (b:=ss.drop n);rw[take_append_drop]at this;lia
theorem wG (hl:s.length<=1000000):prim sb .split [.str s,.str (tx " ")] h=some (.ref h.length,h++[.lst ((sp s).map .str)]):=by
 rw[O2];refine if_pos ?_;have:=xO (s:=s);have:=lY (ss:=sp s);rw[length_map];show (sp s).length<=16777216;lia
theorem rQ (ha:h[a]?=some (.lst (ss.map .str)))(hl:tl ss<=1000000):prim sb .join [.str (tx " "),.ref a] h=some (.str (jn ss),h):=by
 rw[O2];show (match h[a]? with | some (.lst xs)=>(strsOf xs).bind λ(ss:List S)=>if (ss.map List.length).sum+ss.length * [32].length<=lim then some (Z.D.str (fH [32] ss),h) else none | _=>none)=_;rw[ha];show ((strsOf (ss.map .str)).bind _)=_;rw[pZ,bind_some];exact if_pos (show (ss.map List.length).sum+ss.length * 1<=16777216 by unfold tl at hl;lia)
theorem ahf {ss:List S}(ha:h[a]?=some (.lst (ss.map .str))):prim sb .count [.ref a,.str x] h=some (.int ((ss.count x:Nat):Int),h):=by
 show (match h[a]? with | some (.lst xs)=>(strsOf xs).map λ(ss:List S)=>(Z.D.int (ss.count x:Nat),h) | _=>none)=_;rw[ha];show ((strsOf (ss.map .str)).map _)=_;rw[pZ];rfl
theorem aj5 (ha:h[a]?=some (.lst (ss.map .str)))(e:gk x ss=some i):prim sb .Jk [.ref a,.str x] h=some (.int i,h):=by
 show (match h[a]? with | some (.lst xs)=>(strsOf xs).bind λss=>(gk x ss).map λi=>(Z.D.int i,h) | _=>none)=_;rw[ha];show ((strsOf (ss.map .str)).bind _)=_;rw[pZ,bind_some,e];rfl
theorem Ke (ha:h[a]?=some (.lst xs))(hl:xs.length<=16777216):prim sb .uQ [.ref a,.int i] h=some (.ref h.length,h++[.lst (cut xs (some i) none)]):=by
 show (match h[a]? with | some (.lst xs)=>newL (cut xs (some i) none) h | _=>none)=_;rw[ha];exact if_pos (le_trans jl hl)
theorem LR:∀{l:List S},0 < l.count x->∃i,gk x l=some i/\i < l.length
 | [],h=>by simp at h
 | y::r,h=>by
  by_cases e:y=x
  ·exact ⟨0,by simp[gk,e],by simp⟩
  ·obtain ⟨i,a,b⟩:=LR (l:=r) (x:=x) (by rw[count_cons,show (y == x)=false from by simp[e]]at h;simpa using h);exact ⟨i+1,by simp[gk,e,a],by simp only[length_cons];lia⟩
def dz:List S->List S
 | []=>[]
 | w::o=>if w=tx "always" then (if o=[] then [] else [jn o]) else if w=tx "where"/\o.count US=1 then (match gk US o with
  | some m=>if 0 < m/\m+1 < o.length then [jn (o.take m),jn (o.drop (m+1))] else []
  | none=>[]) else []
theorem abE:tx "always"≠tx "where":=by decide
theorem adH {l:S}(hl:l.length<=100000)(q:∀h' r,h<+:h'->h'[r]?=some (.lst ((dz (sp l)).map .str))->Q (.ref r) h'):au sb P (d+1) 10 [.str l] h Q E:=by
 refine wp_call rfl rfl ?_;have htl:=xO (s:=l);obtain ⟨w,o,e⟩:∃w o,sp l=w::o:=by cases e:sp l with | nil=>exact absurd e xM | cons w o=>exact ⟨w,o,rfl⟩
 rw[e,ju]at htl;have hol:=lY (ss:=o);have e1:(h++[AO.lst (Z.D.str w::o.map Z.D.str)])[h.length]?=some (.lst (Z.D.str w::o.map Z.D.str)):=aB;have bZ:h<+:h++[AO.lst (Z.D.str w::o.map Z.D.str)]:=prefix_append _ _;have ha0:bT (Z.D.str w::o.map Z.D.str) 0=some (.str w):=by rw[dO (by decide)];rfl
 have hc:cut (Z.D.str w::o.map Z.D.str) (some 1) none=o.map .str:=rN (n:=1) (by simp);simp! only[nW,wG (show l.length<=1000000 by lia),e];generalize h++[AO.lst (Z.D.str w::o.map Z.D.str)]=h1 at e1 bZ ⊢;generalize h.length=wa at e1 ⊢;simp! only[nU,Ke e1 (by simp only[length_map,length_cons];lia),hc];have e2:(h1++[AO.lst (o.map Z.D.str)])[h1.length]?=some (.lst (o.map .str)):=aB;have b_:h<+:h1++[AO.lst (o.map Z.D.str)]:=pre_app bZ;have e1':=aJ (l:=[AO.lst (o.map Z.D.str)]) e1;generalize h1++[AO.lst (o.map Z.D.str)]=h2 at e2 b_ e1' ⊢;generalize h1.length=oa at e2 ⊢;have tr:truthy h2 (.ref oa)=some (decide (o≠[])):=by simp only[truthy,e2];cases o<;>rfl
 have no:∀x,dz (w::o)=[]->bw sb (au sb P d) E je {nx:=λ_ h=>Q .non h,rt:=Q} [some (.str l),some (.ref wa),some (.ref oa),x] h2:=by
  intro x er;simp! only[je];exact q _ _ (pre_app b_) (by rw[aB,e,er];rfl)
 simp! only[nR,aD e1',ha0];by_cases a1:w=tx "always"
 ·rw[show (w == tx "always")=true from by simp[a1]];simp! only[tr];by_cases a0:o=[]
  ·rw[decide_eq_false (λx=>x a0)];simp! only[jf,aD e1',ha0];rw[show (w == tx "where")=false from by simp[a1,abE]];simp! only;exact no none (by simp[dz,a1,a0])
  ·rw[decide_eq_true a0];simp! only[nQ,rQ e2 (by lia)];exact q _ _ (pre_app b_) (by rw[aB,e];simp[dz,a1,a0])
 ·rw[show (w == tx "always")=false from by simp[a1]];simp! only[jf,aD e1',ha0];by_cases a2:w=tx "where"
  ·rw[show (w == tx "where")=true from by simp[a2]];simp! only[cP e2,ahf (x:=tx "usually") e2];by_cases a3:o.count US=1
   ·rw[show (((o.count (tx "usually"):Nat):Int) == 1)=true from by rw[show o.count (tx "usually")=1 from a3];rfl];obtain ⟨m,em,hm⟩:=LR (x:=US) (l:=o) (by lia);simp! only[nP,cP e2,aj5 (x:=tx "usually") e2 em,nO,Gu,nH e2,length_map];have er:dz (w::o)=if 0 < m/\m+1 < o.length then [jn (o.take m),jn (o.drop (m+1))] else []:=by
     simp only[dz,if_neg a1,em];rw[if_pos ⟨a2,a3⟩]
    by_cases a4:0 < m
    ·rw[decide_eq_true (show (0:Int) < (m:Int) by lia)];simp! only[nH e2,length_map];by_cases a5:m+1 < o.length
     ·rw[decide_eq_true (show (m:Int) < (o.length:Int) - 1 by lia)];have c1:cut (o.map Z.D.str) none (some (m:Int))=(o.take m).map .str:=by rw[Nu,map_take]
      have c2:cut (o.map Z.D.str) (some ((m:Int)+1)) none=(o.drop (m+1)).map .str:=by rw[show (m:Int)+1=((m+1:Nat):Int) by lia,rN (by simp;lia),map_drop]
      have b1:=Ug (ss:=o) (n:=m);have b2:=LQ (ss:=o) (n:=m+1);simp! only[nM,Ym e2 (by simp only[length_map];lia),c1];rw[rQ aB (by lia)];simp! only[Ke (aJ (l:=[AO.lst ((o.take m).map Z.D.str)]) e2) (by simp only[length_map];lia),c2];rw[rQ aB (by lia)];simp! only;exact q _ _ (pre_app (pre_app (pre_app b_))) (by rw[aB,e,er,if_pos ⟨a4,a5⟩];rfl)
     ·rw[decide_eq_false (show ¬(m:Int) < (o.length:Int) - 1 by lia)];simp! only;exact no _ (by rw[er,if_neg λx=>a5 x.2])
    ·rw[decide_eq_false (show ¬(0:Int) < (m:Int) by lia)];simp! only;exact no _ (by rw[er,if_neg λx=>a4 x.1])
   ·rw[show (((o.count (tx "usually"):Nat):Int) == 1)=false from by simp only[beq_eq_false_iff_ne];intro x;exact a3 (by show o.count (tx "usually")=1;lia)];simp! only;exact no none (by simp only[dz,if_neg a1];rw[if_neg λx=>a3 x.2])
  ·rw[show (w == tx "where")=false from by simp[a2]];simp! only;exact no none (by simp only[dz,if_neg a1];rw[if_neg λx=>a2 x.1])
def rt (t:S):Int ⊕ Sn:=if 120 < t.length then .inl 1 else match lW t with
 | none=>.inl 2
 | some s=>.inr s
def cE (z:Int):S:=if z=0 then tx "NoRow" else if z=1 then tx "TooLong" else tx "NoSentence"
inductive RR where
 | bad (z:Int) | al (s:Sn) | us (s t:Sn)
def lZ:List S->RR
 | []=>.bad 0
 | [t]=>match rt t with
  | .inl z=>.bad z
  | .inr s=>.al s
 | t::u::_=>match rt t with
  | .inl z=>.bad z
  | .inr s=>match rt u with
   | .inl z=>.bad z
   | .inr s'=>.us s s'
def rr (l:S):RR:=if 10∈l then .bad 0 else lZ (dz (sp l))
theorem Yn (h:dz (sp l)=[]):rr l=.bad 0:=by unfold rr;rw[h];split<;>rfl
theorem Uh (h:120 < t.length):rt t=.inl 1:=if_pos h
theorem Ui (h:t.length<=120)(e:lW t=none):rt t=.inl 2:=by unfold rt;rw[if_neg (by lia),e]
theorem L_ (h:t.length<=120)(e:lW t=some s):rt t=.inr s:=by unfold rt;rw[if_neg (by lia),e]
theorem Uj (q1:∀z,rt t=.inl z->∀h',h<+:h'->E (.tup [.str (cE z),.int i]) h')(q2:∀s,rt t=.inr s->∀h',h<+:h'->Q (sd s) h'):au sb P (d+4) 0 [.str t,.int i] h Q E:=by
 obtain ⟨o,tp⟩:=VH t.length t (le_refl _);have re:=Lr tp;exact adt tp (λhl=>q1 1 (Uh hl)) (λhl e=>q1 2 (Ui hl (re.trans e))) λs hl e=>q2 s (L_ hl (re.trans e))
theorem Uk:aL sb Γ E (.wN f es) σ h Q=bB sb Γ E es σ h λvs h1=>Γ f vs h1 Q E:=by simp only[aL]
theorem aj6:prim sb .GX [.str [c],.str s] h=some (.bl (decide (c∈s)),h):=by
 show some (Z.D.bl (jh [c] s),h)=_;rw[n8]
theorem Yo (hl:l.length<=100000)(q1:∀z,rr l=.bad z->∀h',h<+:h'->E (.tup [.str (cE z),.int i]) h')(q2:∀s,rr l=.al s->∀h',h<+:h'->Q (.tup [.str (tx "always"),sd s]) h')(q3:∀s t,rr l=.us s t->∀h',h<+:h'->Q (.tup [.str (tx "usually"),sd s,sd t]) h'):au sb P (d+5) 9 [.str l,.int i] h Q E:=by
 refine wp_call rfl rfl ?_;simp! only[C_];refine adH hl λh1 r bZ er=>?_;have tr:truthy h1 (.ref r)=some (decide (dz (sp l)≠[])):=by simp only[truthy,er];cases dz (sp l)<;>rfl
 simp! only[CZ,tr];by_cases a0:dz (sp l)=[]
 ·rw[decide_eq_false (λx=>x a0)];simp! only[qO,wz];exact q1 0 (Yn a0) h1 bZ
 ·rw[decide_eq_true a0];simp! only[aj6];by_cases a1:10∈l
  ·rw[decide_eq_true a1];simp! only[qO,wz];exact q1 0 (if_pos a1) h1 bZ
  ·rw[decide_eq_false a1];have wu:rr l=lZ (dz (sp l)):=if_neg a1;generalize rr l=R at q1 q2 q3 wu;cases hT:dz (sp l) with
   | nil=>exact absurd hT a0
   | cons t us=>
    rw[hT]at er wu;have i0:bT (Z.D.str t::us.map Z.D.str) 0=some (.str t):=by rw[dO (by decide)];rfl
    simp! only[CW,aD er,i0,Uk];refine Uj (λz ez h2 b_=>?_) λs es h2 b_=>?_
    ·refine q1 z ?_ h2 (bZ.trans b_);cases us<;>simp only[lZ,ez]at wu<;>exact wu
    ·simp! only[CV,nH (aK b_ er),length_map];cases us with
     | nil=>
      simp! only[CT];simp only[lZ,es]at wu;exact q2 s wu h2 (bZ.trans b_)
     | cons u us=>
      rw[show ((((u::us).length+1:Nat):Int) == 1)=false from by simp;lia];have i1:bT (Z.D.str t::Z.D.str u::us.map Z.D.str) 1=some (.str u):=by rw[dO (by decide)];rfl
      simp! only[CQ,aD (aK b_ er),i1,Uk];refine Uj (λz ez h3 cB=>?_) λs' es' h3 cB=>?_
      ·refine q1 z ?_ h3 (bZ.trans (b_.trans cB));simp only[lZ,es,ez]at wu;exact wu
      ·simp only[lZ,es,es']at wu;exact q3 s s' wu h3 (bZ.trans (b_.trans cB))
def Fx (x:S)(o:List S):List Nat:=(List.range o.length).filter λk=>decide (o[k]?=some x)
theorem Ul:Fx x (y::r)=(if y=x then [0] else [])++(Fx x r).map (·+1):=by
 unfold Fx;rw[length_cons,List.range_succ_eq_map,List.filter_cons,filter_map];have:((λk=>decide ((y::r)[k]?=some x)) ∘ Nat.succ)=λk=>decide (r[k]?=some x):=by funext k;rfl
 rw[this];by_cases e:y=x
 ·simp[e]
 ·simp[e]
theorem Rf:∀{o:List S},(Fx x o).length=o.count x
 | []=>rfl
 | y::r=>by
  rw[Ul,length_append,length_map,Rf (o:=r),count_cons];by_cases e:y=x
  ·simp[e];lia
  ·simp[e]
theorem Yp:∀{o:List S} {m:Nat},o.count x=1->gk x o=some m->Fx x o=[m]
 | [],m,h,_=>by simp at h
 | y::r,m,h,i=>by
  rw[Ul];by_cases e:y=x
  ·have h0:r.count x=0:=by rw[count_cons,e]at h;simpa using h
   have:Fx x r=[]:=List.eq_nil_of_length_eq_zero (Rf.trans h0);simp only[gk,if_pos e]at i;cases i;rw[this,if_pos e];rfl
  ·have h0:r.count x=1:=by rw[count_cons,show (y == x)=false from by simp[e]]at h;simpa using h
   simp only[gk,if_neg e]at i;cases ei:gk x r with
   | none=>rw[ei]at i;cases i
   | some k=>rw[ei]at i;cases i;rw[Yp h0 ei,if_neg e];rfl
theorem adI (hn:n<=1000000):bM .rng [.int 1,.int ((n+1:Nat):Int)] h=some (ji 1 n):=by
 have h1:okR (1:Int)=true:=mF.mpr (by lia);have h2:okR ((n+1:Nat):Int)=true:=mF.mpr (by lia);simp only[bM,iZ,iR,i_,jc,iw,h1,h2];rw[show (((n+1:Nat):Int) - 1).toNat=n by lia];rfl
theorem ahg (hw:h[wa]?=some (.lst (Z.D.str w::o.map Z.D.str)))(ho:o.length<=100000)(q:∀h',h<+:h'->h'[h.length]?=some (.lst ((Fx US o).map λ(k:Nat)=>.int ((k:Int)+1)))->Q (.ref h.length) h'):
  aL sb (au sb P d) E (.comp .rng (.cons (.lit (.int 1)) (.cons (.prim .len (.cons (.var 1) .nil)) .nil)) 1 (.one (.aR (.prim .eq (.cons (.prim .idx (.cons (.var 1) (.cons (.var 4) .nil))) (.cons (.lit (.str (tx "usually"))) .nil))))) (.var 4)) [l,some (.ref wa),x2,x3] h Q:=by
 refine Sg (xs:=(List.range o.length).map λ(k:Nat)=>.int ((k:Int)+1)) (J:=ji 1 o.length) (vs:=[.int 1,.int ((o.length+1:Nat):Int)]) (h1:=h) (λv=>match v with | .int k=>decide (o[k.toNat - 1]?=some US) | _=>false) (λv=>v) (λQ q=>by simp! only[nH hw,length_map];exact q) (adI (by lia)) (by simp;lia) ?_ ?_ ?_
 ·intro i h2 _;unfold ji;by_cases hi:i < o.length
  ·rw[if_pos hi,getElem?_map,getElem?_range hi];simp only[map_some];rw[Int.add_comm]
  ·rw[if_neg hi,getElem?_eq_none (by simp;lia)]
 ·intro i v h2 ev pr;have hk:i < o.length:=by have:=(List.getElem?_eq_some_iff.mp ev).1;simpa using this
  rw[getElem?_map,getElem?_range hk]at ev;simp only[map_some,Option.some.injEq]at ev;subst ev;refine ⟨_,rfl,?_⟩;have ea:bT (Z.D.str w::o.map Z.D.str) ((i:Int)+1)=some (.str o[i]):=by
   rw[dO (by lia),show ((i:Int)+1).toNat=i+1 by lia,getElem?_cons_succ,getElem?_map,getElem?_eq_getElem hk];rfl
  simp! only[aD (aK pr hw),ea];refine ⟨?_,iM,λ_=>iM⟩;rw[show ((i:Int)+1).toNat - 1=i by lia,getElem?_eq_getElem hk];simp[US,Bool.beq_eq_decide_eq]
 ·intro h' pr e;refine q h' pr ?_;rw[e,List.map_id',filter_map];congr 3
theorem V4 (ha:h[a]?=some (.lst xs)):prim sb (.fV .list) [.ref a] h=some (.bl true,h):=by
 rw[abo];simp only[iY,ha,map_some]
theorem Rg:prim sb (.fV .list) [sd s] h=some (.bl false,h):=by cases s<;>rfl
theorem Jj (hl:t.length<=5000)(q1:∀z,rt t=.inl z->∀h' r,h<+:h'->h'[r]?=some (.lst [.int z])->Q (.ref r) h')(q2:∀s,rt t=.inr s->∀h',h<+:h'->Q (sd s) h'):au sb P (d+2) 22 [.str t] h Q E:=
 adB hl (λa=>q1 1 (Uh a)) (λa b=>q1 2 (Ui a b)) λs a b=>q2 s (L_ a b)
theorem aj7 (ht:t.length<=5000)(hu:u.length<=5000)(q1:∀z,(rt t=.inl z\/∃s,rt t=.inr s/\rt u=.inl z)->∀h' r,h<+:h'->h'[r]?=some (.lst [.int z])->Q (.ref r) h')(q2:∀s s',rt t=.inr s->rt u=.inr s'->∀h',h<+:h'->Q (.tup [.str (tx "usually"),sd s,sd s']) h'):au sb P (d+3) 26 [.str t,.str u] h Q E:=by
 refine wp_call rfl rfl ?_;simp! only[Hu];refine Jj ht (λz ez h1 r bZ e1=>?_) λs es h1 bZ=>?_
 ·simp! only[uM,V4 e1,Ht];exact q1 z (.inl ez) h1 r bZ e1
 ·simp! only[uM,Rg,Hs];refine Jj hu (λz ez h2 r b_ e2=>?_) λs' es' h2 b_=>?_
  ·simp! only[uL,V4 e2,Hr];exact q1 z (.inr ⟨s,es,ez⟩) h2 r (bZ.trans b_) e2
  ·simp! only[uL,Rg,Hq];exact q2 s s' es es' h2 (bZ.trans b_)
theorem ahh (ha:h[a]?=some (.lst xs))(hl:xs.length<=16777216):dg (.ref a) lo hi h=some (.ref h.length,h++[.lst (cut xs lo hi)]):=by
 show (match h[a]? with | some (.lst xs)=>newL (cut xs lo hi) h | _=>none)=_;rw[ha];exact if_pos (le_trans jl hl)
theorem ahi:prim sb .Jl [.str s,.str [c]] h=some (.int ((s.count c:Nat):Int),h):=rfl
theorem aj8 {l:S}(hl:l.length<=5000)(q1:∀z,rr l=.bad z->∀h' r,h<+:h'->h'[r]?=some (.lst [.int z])->Q (.ref r) h')(q2:∀s,rr l=.al s->∀h',h<+:h'->Q (.tup [.str (tx "always"),sd s]) h')(q3:∀s t,rr l=.us s t->∀h',h<+:h'->Q (.tup [.str (tx "usually"),sd s,sd t]) h'):au sb P (d+4) 27 [.str l] h Q E:=by
 refine wp_call rfl rfl ?_;have htl:=xO (s:=l);obtain ⟨w,o,e⟩:∃w o,sp l=w::o:=by cases e:sp l with | nil=>exact absurd e xM | cons w o=>exact ⟨w,o,rfl⟩
 have ej:=Gy (s:=l);rw[e,ju]at htl;rw[e]at ej;have hol:=lY (ss:=o);have e1:(h++[AO.lst (Z.D.str w::o.map Z.D.str)])[h.length]?=some (.lst (Z.D.str w::o.map Z.D.str)):=aB;have bZ:h<+:h++[AO.lst (Z.D.str w::o.map Z.D.str)]:=prefix_append _ _;have ha0:bT (Z.D.str w::o.map Z.D.str) 0=some (.str w):=by rw[dO (by decide)];rfl
 simp! only[Et,wG (show l.length<=1000000 by lia),e];generalize h++[AO.lst (Z.D.str w::o.map Z.D.str)]=h1 at e1 bZ ⊢;generalize h.length=wa at e1 ⊢;simp! only[Es,ahi];by_cases a0:10∈l
 ·rw[decide_eq_true (show (0:Int) < ((l.count 10:Nat):Int) by have:=List.count_pos_iff.mpr a0;lia)];simp! only[rG];exact q1 0 (if_pos a0) _ _ (pre_app bZ) aB
 rw[decide_eq_false (show ¬(0:Int) < ((l.count 10:Nat):Int) by have:=count_eq_zero.mpr a0;lia)];simp! only[nH e1,length_map];by_cases a1:o=[]
 ·rw[decide_eq_true (show (((o.length+1:Nat):Int)) < 2 by rw[a1];decide)];simp! only[rG];exact q1 0 (Yn (by rw[e,a1];simp[dz])) _ _ (pre_app bZ) aB
 have ho1:1<=o.length:=length_pos_iff.mpr a1;rw[decide_eq_false (show ¬(((o.length+1:Nat):Int)) < 2 by lia)];have er:rr l=lZ (dz (w::o)):=by unfold rr;rw[if_neg a0,e]
 generalize rr l=R at q1 q2 q3 er;simp! only[HB,aD e1,ha0];by_cases a2:w=tx "always"
 ·rw[show (w == tx "always")=true from by simp[a2]];have rT:dz (w::o)=[jn o]:=by simp[dz,a2,a1]
  have ec:cut l (some 7) none=jn o:=by
   rw[T7 a1,a2]at ej;rw[<-ej];exact (rN (n:=7) (by rw[length_append,show (tx "always").length=6 from by decide,length_cons];lia)).trans (by rw[show tx "always"=[97,108,119,97,121,115] from by decide];rfl)
  rw[rT]at er;have:=GC (ss:=o);simp! only[Hz,ec];refine Jj (by lia) (λz ez h2 r b_ e2=>?_) λs es h2 b_=>?_
  ·simp! only[uP,V4 e2,Hy];simp only[lZ,ez]at er;exact q1 z er h2 r (bZ.trans b_) e2
  ·simp! only[uP,Rg,Hx];simp only[lZ,es]at er;exact q2 s er h2 (bZ.trans b_)
 rw[show (w == tx "always")=false from by simp[a2]];simp! only[Hw];refine ahg e1 (by lia) λh2 b_ e2=>?_;have e1':=aK b_ e1;have no:dz (w::o)=[]->∀x,bw sb (au sb P (d+3)) E uO {nx:=λσ' h'=>bw sb (au sb P (d+3)) E uN {nx:=λ_ h=>Q .non h,rt:=Q} σ' h',rt:=Q} x h2:=by
  intro rT x;rw[rT]at er;simp! only[uO];exact q1 0 er _ _ (pre_app (bZ.trans b_)) aB
 simp! only[Hv,aD e1',ha0];by_cases a3:w=tx "where"
 ·rw[show (w == tx "where")=true from by simp[a3]];simp! only[nH e2,length_map,Rf];by_cases a4:o.count US=1
  ·obtain ⟨m,em,hm⟩:=LR (x:=US) (l:=o) (by lia);rw[Yp a4 em]at e2;have rT:dz (w::o)=if 0 < m/\m+1 < o.length then [jn (o.take m),jn (o.drop (m+1))] else []:=by
    simp only[dz,if_neg a2,em];rw[if_pos ⟨a3,a4⟩]
   have i0:bT [Z.D.int ((m:Int)+1)] 0=some (.int ((m:Int)+1)):=rfl;rw[a4,show (!(((1:Nat):Int) == 1))=false from rfl];simp! only[aD e2,i0];by_cases a5:m=0
   ·rw[show ((m:Int)+1 == 1)=true from by simp[a5]];simp! only;exact no (by rw[rT,if_neg (by lia)]) _
   rw[show ((m:Int)+1 == 1)=false from by simp only[beq_eq_false_iff_ne];lia];simp! only[aD e2,i0,nH e1',length_map];by_cases a6:m+1=o.length
   ·rw[show ((m:Int)+1 == ((o.length+1:Nat):Int) - 1)=true from by simp only[beq_iff_eq];lia];simp! only;exact no (by rw[rT,if_neg (by lia)]) _
   rw[show ((m:Int)+1 == ((o.length+1:Nat):Int) - 1)=false from by simp only[beq_eq_false_iff_ne];lia];rw[if_pos (by lia)]at rT;rw[rT]at er;have c1:cut (Z.D.str w::o.map Z.D.str) (some 1) (some ((m:Int)+1))=(o.take m).map .str:=by
    simp only[cut,bG];rw[if_neg (by lia),if_neg (by lia),length_cons,length_map,show (min (1:Int) ((o.length+1:Nat):Int)).toNat=1 by lia,show (min ((m:Int)+1) ((o.length+1:Nat):Int)).toNat=m+1 by lia,List.drop_succ_cons,drop_zero,Nat.add_sub_cancel,map_take]
   have c2:cut (Z.D.str w::o.map Z.D.str) (some ((m:Int)+1+1)) none=(o.drop (m+1)).map .str:=by
    rw[show (m:Int)+1+1=((m+2:Nat):Int) by lia,rN (by simp;lia),List.drop_succ_cons,map_drop]
   have b1:=Ug (ss:=o) (n:=m);have b2:=LQ (ss:=o) (n:=m+1);have b3:=GC (ss:=o.take m);have b4:=GC (ss:=o.drop (m+1));simp! only[uN,aD e2,i0,ahh e1' (show (Z.D.str w::o.map Z.D.str).length<=16777216 by simp;lia),c1];rw[rQ aB (by lia)];simp! only[aD (aJ (l:=[AO.lst ((o.take m).map Z.D.str)]) e2),i0,Ke (aJ (l:=[AO.lst ((o.take m).map Z.D.str)]) e1') (show (Z.D.str w::o.map Z.D.str).length<=16777216 by simp;lia),c2];rw[rQ aB (by lia)];simp! only;refine aj7 (by lia) (by lia) (λz hz h3 r cB e3=>?_) λs s' es es' h3 cB=>?_
   ·refine q1 z ?_ h3 r (bZ.trans (b_.trans ((prefix_append _ _).trans ((prefix_append _ _).trans cB)))) e3;rcases hz with hz | ⟨s,hs,hz⟩
    ·simp only[lZ,hz]at er;exact er
    ·simp only[lZ,hs,hz]at er;exact er
   ·simp only[lZ,es,es']at er;exact q3 s s' er h3 (bZ.trans (b_.trans ((prefix_append _ _).trans ((prefix_append _ _).trans cB))))
  ·rw[show (((o.count US:Nat):Int) == 1)=false from by simp only[beq_eq_false_iff_ne];lia];simp! only;exact no (by simp only[dz,if_neg a2];rw[if_neg λx=>a4 x.2]) _
 ·rw[show (w == tx "where")=false from by simp[a3]];simp! only;exact no (by simp only[dz,if_neg a2];rw[if_neg λx=>a3 x.1]) _
theorem Kf:∀{xs ys:List Tk} {s:List Fr×Option Sn},rP s (xs++ys)=(rP s xs).bind λs'=>rP s' ys
 | [],ys,s=>rfl
 | x::r,ys,s=>by
  simp only[cons_append,rP];cases stP s x with
  | none=>rfl
  | some s'=>exact Kf
def Rd (s:Sn)(l:Nat)(ts:List Tk)(B:List Fr):Prop:=∃(A:List Fr) (w:Sn),rP (B,none) ts=some (A++B,some w)/\fld A w=s/\∀f∈A,cW l f=true
def Inv (l:Nat)(B:List Fr):Prop:=l<=1->∀f,B.head?=some f->cW l f=false
theorem Yq (h:cW l f=false):Inv l (f::B):=λ_ g e=>by cases e;exact h
theorem anF:cJ (tx "(")=.op:=by rw[cJ,Oo,jY]
theorem anG:cJ (tx ")")=.cl:=by rw[cJ,Oq,jZ]
theorem anH:cJ (tx "not ")=.nt:=by rw[cJ,Ov,lU]
theorem anJ:cJ (tx " and ")=.an:=by rw[cJ,Ot,jq]
theorem anK:cJ (tx " or ")=.or:=by rw[cJ,Ou,jr]
theorem O4 (k:∀l' B,l'<=t->l'<=2->Inv l' B->Rd s l' (ps.map cJ) B)(hl:l<=2)(hB:Inv l B):Rd s l ((bp t l ps).map cJ) B:=by
 unfold bp;split
 ·exact k l B (by assumption) hl hB
 ·obtain ⟨A,w,r,e,hA⟩:=k 0 (.op::B) (by lia) (by lia) (Yq rfl);rw[map_cons,map_append,anF];refine ⟨[],s,?_,rfl,by simp⟩;rw[map_cons,map_nil,anG];show rP (.op::B,none) (ps.map cJ++[.cl])=_;rw[Kf,r];show (stP (A++.op::B,some w) .cl).bind _=_;simp only[stP,v8 (B:=.op::B) (λf e=>by cases e;rfl) hA,e];rfl
theorem rd:∀{s:Sn} {l:Nat},(∀n∈nm s,GN n)->l<=2->∀{B:List Fr},Inv l B->Rd s l ((pc s l).map cJ) B
 | .is n,l,g,hl,B,hB=>by
  refine O4 (λl' B h1 h2 h3=>?_) hl hB;have gn:=g n (by simp[nm]);rw[map_cons,map_nil,cJ,Ow gn,Oz gn];exact ⟨[],.is n,rfl,rfl,by simp⟩
 | .nt a,l,g,hl,B,hB=>by
  refine O4 (λl' B h1 h2 h3=>?_) hl hB;obtain ⟨A,w,r,e,hA⟩:=rd (s:=a) (l:=2) g (by lia) (B:=.nt::B) (λh=>by lia);rw[map_cons,anH];refine ⟨A++[.nt],w,?_,by rw[Gm,e];rfl,λf hf=>?_⟩
  ·rw[append_assoc];exact r
  ·rcases mem_append.mp hf with hf | hf
   ·exact rH h2 (hA f hf)
   ·rw[mem_singleton]at hf;subst hf;simp[cW];lia
 | .an a b,l,g,hl,B,hB=>by
  refine O4 (λl' B h1 h2 h3=>?_) hl hB;have Yr:∀f,B.head?=some f->cW 1 f=false:=λf e=>by
   have:=h3 h1 f e;cases e1:cW 1 f with
   | false=>rfl
   | true=>rw[rH h1 e1]at this;cases this
  obtain ⟨A,w,r,e,hA⟩:=rd (s:=a) (l:=1) (λn h=>g n (by simp[nm,h])) (by lia) (B:=B) (λ_=>Yr);obtain ⟨A2,w2,r2,e2,hA2⟩:=rd (s:=b) (l:=2) (λn h=>g n (by simp[nm,h])) (by lia) (B:=.an a::B) (λh=>by lia);rw[map_append,map_cons,anJ];refine ⟨A2++[.an a],w2,?_,by rw[Gm,e2];rfl,λf hf=>?_⟩
  ·rw[Kf,r];simp only[bind_some,rP,stP,v8 Yr hA,e];rw[append_assoc];exact r2
  ·rcases mem_append.mp hf with hf | hf
   ·exact rH h2 (hA2 f hf)
   ·rw[mem_singleton]at hf;subst hf;simp[cW];lia
 | .or a b,l,g,hl,B,hB=>by
  refine O4 (λl' B h1 h2 h3=>?_) hl hB;obtain rfl:l'=0:=by lia
  have Yr:=h3 (by lia);obtain ⟨A,w,r,e,hA⟩:=rd (s:=a) (l:=0) (λn h=>g n (by simp[nm,h])) (by lia) (B:=B) (λ_=>Yr);obtain ⟨A2,w2,r2,e2,hA2⟩:=rd (s:=b) (l:=1) (λn h=>g n (by simp[nm,h])) (by lia) (B:=.or a::B) (Yq rfl);rw[map_append,map_cons,anK];refine ⟨A2++[.or a],w2,?_,by rw[Gm,e2];rfl,λf hf=>?_⟩
  ·rw[Kf,r];simp only[bind_some,rP,stP,v8 Yr hA,e];rw[append_assoc];exact r2
  ·rcases mem_append.mp hf with hf | hf
   ·exact rH (by lia) (hA2 f hf)
   ·rw[mem_singleton]at hf;subst hf;rfl
theorem V5:∀{qs:List S},PG qs->TP qs.flatten (some qs)
 | [],_=>.nil
 | q::qs,g=>by
  cases g with
  | pc h r=>exact lC (.inl h) (abp (.pc h r)) (V5 r)
  | nm h n r=>exact lC (.inr ⟨h,n⟩) (abp (.nm h n r)) (V5 r)
theorem V6 (g:∀n∈nm s,GN n)(hl:(sh s 0).length<=120):rt (sh s 0)=.inr s:=by
 refine L_ hl ?_;have pg:=Gk (l:=0) g [] .nil X3;rw[append_nil]at pg;have tp:=V5 pg;rw[Gj]at tp;rw[Lr tp];obtain ⟨A,w,r,e,hA⟩:=rd (l:=0) g (by lia) (B:=[]) (λ_ f e=>by cases e);show (rP ([],none) ((pc s 0).map cJ)).bind h_=some s;rw[r];have:=v8 (B:=[]) (λf e=>by cases e) hA (w:=w);simp only[bind_some,h_,this,e];rfl
def Fg:RR->S
 | .bad _=>[]
 | .al s=>tx "always "++sh s 0
 | .us s t=>tx "where "++sh s 0++tx " usually "++sh t 0
theorem Ys:∀{a b:List S},x∉a->gk x (a++x::b)=some a.length
 | [],b,_=>by simp[gk]
 | y::a,b,h=>by
  have e:¬y=x:=λe=>h (by simp[e]);rw[cons_append,gk,if_neg e,Ys λz=>h (by simp[z])];rfl
theorem V7:∀{s:Sn} {l:Nat},(∀n∈nm s,GN n)->10∉sh s l:=by
 have bk:∀{t l:Nat} {s:S},10∉s->10∉br t l s:=by
  intro t l s h;unfold br;split
  ·exact h
  ·rw[dw,dN];simpa using h
 intro s
 induction s with
 | is n=>intro l g;exact bk λh=>by have:=gU ((g n (by simp[nm])).le _ h);lia
 | nt a ih=>intro l g;refine bk ?_;rw[fP];simpa using ih g
 | an a b ia ib=>
  intro l g;refine bk ?_;rw[fM];simpa using ⟨ia λn hn=>g n (by simp[nm,hn]),ib λn hn=>g n (by simp[nm,hn])⟩
 | or a b ia ib=>
  intro l g;refine bk ?_;rw[fO];simpa using ⟨ia λn hn=>g n (by simp[nm,hn]),ib λn hn=>g n (by simp[nm,hn])⟩
def gR:RR->Prop
 | .bad _=>False
 | .al s=>(∀n∈nm s,GN n)/\(sh s 0).length<=120
 | .us s t=>((∀n∈nm s,GN n)/\(sh s 0).length<=120)/\(∀n∈nm t,GN n)/\(sh t 0).length<=120
theorem aaC (e:rt t=.inr s):(∀n∈nm s,GN n)/\(sh s 0).length<=120:=by
 unfold rt at e;split at e
 ·cases e
 ·rename_i hl;split at e
  ·cases e
  ·rename_i s' es;cases e;obtain ⟨o,tp⟩:=VH t.length t (le_refl _);have:=adg tp ((Lr tp).symm.trans es);exact ⟨this.2,le_trans this.1 (by lia)⟩
theorem aaD:(∃z,rr l=.bad z/\(z=0\/z=1\/z=2))\/gR (rr l):=by
 have rz:∀{t:S} {z:Int},rt t=.inl z->z=0\/z=1\/z=2:=by
  intro t z e;unfold rt at e;split at e
  ·cases e;exact .inr (.inl rfl)
  ·split at e<;>cases e;exact .inr (.inr rfl)
 unfold rr;split
 ·exact .inl ⟨0,rfl,.inl rfl⟩
 ·cases dz (sp l) with
  | nil=>exact .inl ⟨0,rfl,.inl rfl⟩
  | cons t us=>
   cases us with
   | nil=>
    cases e:rt t with
    | inl z=>exact .inl ⟨z,by simp only[lZ,e],rz e⟩
    | inr s=>exact .inr (by simp only[lZ,e];exact aaC e)
   | cons u us=>
    cases e:rt t with
    | inl z=>exact .inl ⟨z,by simp only[lZ,e],rz e⟩
    | inr s=>cases e':rt u with
     | inl z=>exact .inl ⟨z,by simp only[lZ,e,e'],rz e'⟩
     | inr s'=>exact .inr (by simp only[lZ,e,e'];exact ⟨aaC e,aaC e'⟩)
theorem aj9:∀{r:RR},gR r->rr (Fg r)=r
 | .bad _,g=>g.elim
 | .al s,g=>by
  have w:tx "always "++sh s 0=tx "always"++32::sh s 0:=by rw[show tx "always "=tx "always"++[32] from by decide,append_assoc];rfl
  have hT:dz (sp (Fg (.al s)))=[sh s 0]:=by
   show dz (sp (tx "always "++sh s 0))=_;rw[w,rM,ql (show 32∉tx "always" by decide)];rw[singleton_append,dz,if_pos rfl,if_neg xM,Gy]
  have hn:10∉Fg (.al s):=by
   show 10∉tx "always "++sh s 0;rw[mem_append,not_or];exact ⟨by decide,V7 g.1⟩
  unfold rr;rw[if_neg hn,hT];simp only[lZ,V6 g.1 g.2]
 | .us s t,g=>by
  have w:tx "where "++sh s 0++tx " usually "++sh t 0=tx "where"++32::(sh s 0++32::(tx "usually"++32::sh t 0)):=by
   rw[show tx "where "=tx "where"++[32] from by decide,show tx " usually "=32::(tx "usually"++[32]) from by decide];simp
  have n1:US∉sp (sh s 0):=abA (l:=0) g.1.1;have n2:US∉sp (sh t 0):=abA (l:=0) g.2.1;have hW:sp (Fg (.us s t))=tx "where"::(sp (sh s 0)++US::sp (sh t 0)):=by
   show sp (tx "where "++sh s 0++tx " usually "++sh t 0)=_;rw[w,rM,rM,rM,ql (show 32∉tx "where" by decide),ql (show 32∉tx "usually" by decide)];rfl
  have hc:(sp (sh s 0)++US::sp (sh t 0)).count US=1:=by
   rw[List.count_append,List.count_cons_self,count_eq_zero.mpr n1,count_eq_zero.mpr n2]
  have p1:=length_pos_iff.mpr (xM (s:=sh s 0));have p2:=length_pos_iff.mpr (xM (s:=sh t 0));have hT:dz (sp (Fg (.us s t)))=[sh s 0,sh t 0]:=by
   rw[hW];simp only[dz];rw[if_neg (Ne.symm abE),if_pos ⟨trivial,hc⟩,Ys n1];simp only[];rw[if_pos ⟨p1,by simp only[length_append,length_cons];lia⟩,List.take_left,<-drop_drop,drop_left,Gy];show [sh s 0,jn (sp (sh t 0))]=_;rw[Gy]
  have hn:10∉Fg (.us s t):=by
   show 10∉tx "where "++sh s 0++tx " usually "++sh t 0;simp only[mem_append,not_or];exact ⟨⟨⟨by decide,V7 g.1.1⟩,by decide⟩,V7 g.2.1⟩
  unfold rr;rw[if_neg hn,hT];simp only[lZ,V6 g.1.1 g.1.2,V6 g.2.1 g.2.2]
def Rh (ys ns:List S)(c:S):Option Bool:=if c∈ys then some true else if c∈ns then some false else none
theorem Fi (ha:h[a]?=some (.dZ c i))(hb:Rh ys ns c=some b):prim sb (.GR ys ns) [.ref a] h=some (.bl b,h):=by
 show (match h[a]? with | some (.exc c)=>_ | some (.dZ c _)=>if c∈ys then some (Z.D.bl true,h) else if c∈ns then some (Z.D.bl false,h) else none | _=>none)=_;rw[ha];unfold Rh at hb;show (if c∈ys then some (Z.D.bl true,h) else if c∈ns then some (Z.D.bl false,h) else none)=_;split
 ·rw[if_pos (by assumption)]at hb;cases hb;rfl
 ·rw[if_neg (by assumption)]at hb;split
  ·rw[if_pos (by assumption)]at hb;cases hb;rfl
  ·rw[if_neg (by assumption)]at hb;cases hb
theorem ahk (ha:h[a]?=some (.dZ c i))(hb:c∈cs):prim sb (.Uy cs) [.ref a] h=some (.int i,h):=by
 show (match h[a]? with | some (.dZ c i)=>if c∈cs then some (Z.D.int i,h) else none | _=>none)=_;rw[ha];exact if_pos hb
structure Kd (c:S)(z:Int):Prop where
 c0:Rh Cr Cu c=some ((0:Int) == z)
 c1:Rh uJ uK c=some ((1:Int) == z)
 c2:Rh mK mL c=some ((2:Int) == z)
 c3:Rh Cp Cq c=some ((3:Int) == z)
 c4:Rh uG uH c=some ((4:Int) == z)
 cr:c∈rcs
 ct:c∈[tx "NoRow",tx "TooLong",tx "NoSentence"]
theorem aj_ (h:z=0\/z=1\/z=2):Kd (cE z) z:=by
 rcases h with rfl | rfl | rfl<;>constructor<;>decide
def Um (z:Int):List D:=[.bl ((0:Int) == z),.bl ((1:Int) == z),.bl ((2:Int) == z),.bl ((3:Int) == z),.bl ((4:Int) == z)]
theorem akb:KD (Um z) (Um z)=some true:=by
 unfold Um;generalize ((0:Int) == z)=b0;generalize ((1:Int) == z)=b1;generalize ((2:Int) == z)=b2;generalize ((3:Int) == z)=b3;generalize ((4:Int) == z)=b4;cases b0<;>cases b1<;>cases b2<;>cases b3<;>cases b4<;>rfl
def rD:RR->D
 | .bad z=>.int z
 | .al s=>.tup [.str (tx "always"),sd s]
 | .us s t=>.tup [.str (tx "usually"),sd s,sd t]
theorem aaE (e:rr l=.bad z):z=0\/z=1\/z=2:=by
 rcases aaD (l:=l) with ⟨z',e',hz⟩ | g
 ·rw[e]at e';cases e';exact hz
 ·rw[e]at g;exact g.elim
theorem Uo (hl:l.length<=100000)(q1:∀z,rr l=.bad z->∀h',h<+:h'->E (.tup [.str (cE z),.int i]) h')(q2:gR (rr l)->∀h',h<+:h'->Q (rD (rr l)) h'):au sb P (d+5) 9 [.str l,.int i] h Q E:=by
 have g:∀{r},rr l=r->(∀z,r≠.bad z)->gR r:=by
  intro r e hn;rcases aaD (l:=l) with ⟨z',e',_⟩ | g
  ·exact absurd (e.symm.trans e') (hn z')
  ·rwa [e]at g
 refine Yo hl q1 (λs e h' pr=>?_) λs t e h' pr=>?_
 ·rw[e]at q2;exact q2 (g e λz h=>by cases h) h' pr
 ·rw[e]at q2;exact q2 (g e λz h=>by cases h) h' pr
theorem ahl (hl:l.length<=5000)(q1:∀z,rr l=.bad z->∀h' r,h<+:h'->h'[r]?=some (.lst [.int z])->Q (.ref r) h')(q2:gR (rr l)->∀h',h<+:h'->Q (rD (rr l)) h'):au sb P (d+4) 27 [.str l] h Q E:=by
 have g:∀{r},rr l=r->(∀z,r≠.bad z)->gR r:=by
  intro r e hn;rcases aaD (l:=l) with ⟨z',e',_⟩ | g
  ·exact absurd (e.symm.trans e') (hn z')
  ·rwa [e]at g
 refine aj8 hl q1 (λs e h' pr=>?_) λs t e h' pr=>?_
 ·rw[e]at q2;exact q2 (g e λz h=>by cases h) h' pr
 ·rw[e]at q2;exact q2 (g e λz h=>by cases h) h' pr
theorem ahm:wpS sb Γ E (.Pj i cc cs j hs) K σ h=gW sb Γ E cc σ h (λv h2=>K.nx (σ.set i (some v)) h2)
   λx h2=>∃c r,x=.tup [.str c,.int r]/\c∈cs/\bw sb Γ E hs {nx:=λσ' h'=>K.nx (σ'.set j none) h',rt:=K.rt,bk:=λσ' h'=>K.bk (σ'.set j none) h',ct:=λσ' h'=>K.ct (σ'.set j none) h'} (σ.set j (some (.ref h2.length))) (h2++[.dZ c r]):=by
 simp only[wpS]<;>rfl
theorem adJ:gW sb Γ E (.call f es ds) σ h Q F=bB sb Γ E es σ h λvs h1=>Γ f (vs++ds) h1 Q F:=rfl
theorem ahn:gW sb Γ E (.ite t a b) σ h Q F=cR sb Γ E t σ h λk h1=>if k=true then gW sb Γ E a σ h1 Q F else gW sb Γ E b σ h1 Q F:=rfl
theorem aho (ha:h[a]?=some (.dZ c i))(k:Kd c z)(q:∀h' k1,h<+:h'->h'[k1]?=some (.lst (Um z))->K.nx [x0,x1,x2,some (.ref k1),some (.int i),x5,some (.ref a)] h'):
  bw sb (au sb P d) E jX K [x0,x1,x2,some (.ref r3),x4,x5,some (.ref a)] h:=by
 simp! only[jX,Fi ha k.c0,Fi ha k.c1,Fi ha k.c2];have bZ:h<+:h++[AO.lst [.bl ((0:Int) == z),.bl ((1:Int) == z),.bl ((2:Int) == z)]]:=prefix_append _ _;have e1:(h++[AO.lst [.bl ((0:Int) == z),.bl ((1:Int) == z),.bl ((2:Int) == z)]])[h.length]?=some (.lst _):=aB;generalize h++[AO.lst [.bl ((0:Int) == z),.bl ((1:Int) == z),.bl ((2:Int) == z)]]=h1 at bZ e1 ⊢;generalize h.length=r1 at e1 ⊢;have a1:=aK bZ ha;simp! only[z9,Fi a1 k.c3,Fi a1 k.c4];rw[iy (aJ e1) aB (by simp)];simp! only[z8];rw[ahk (aJ (aJ a1)) k.cr];simp! only;exact q _ _ (pre_app (pre_app bZ)) aB
theorem Uq (hl:l.length<=100000)(q1:∀z,rr l=.bad z->∀h' r,h<+:h'->h'[r]?=some (.lst (Um z))->Q (.tup [.ref r,.int (if how=0 then 0 else place),.non]) h')(q2:gR (rr l)->∀h' r,h<+:h'->h'[r]?=some (.lst [])->Q (.tup [.ref r,.int 0,rD (rr l)]) h'):
  au sb P (d+6) 28 [.str l,.int how,.int place] h Q E:=by
 refine wp_call rfl rfl ?_;simp! only[Ac,Ab,Aa];rw[z_,jk,ahm];have Q_:h<+:h++[AO.lst []]:=prefix_append _ _;have ea:(h++[AO.lst []])[h.length]?=some (.lst []):=aB;generalize h++[AO.lst []]=h0 at Q_ ea ⊢;generalize h.length=ra at ea ⊢;have key:∀i:Int,i=(if how=0 then 0 else place)->au sb P (d+5) 9 [.str l,.int i] h0
   (λv h2=>bw sb (au sb P (d+5)) E iG {nx:=λ_ h=>Q .non h,rt:=Q} [some (.str l),some (.int how),some (.int place),some (.ref ra),some (.int 0),some v,none] h2)
   (λx h2=>∃c r,x=.tup [.str c,.int r]/\c∈[(tx "NoRow"),(tx "TooLong"),(tx "NoSentence")]/\bw sb (au sb P (d+5)) E jX {nx:=λσ' h'=>bw sb (au sb P (d+5)) E iG {nx:=λ_ h=>Q .non h,rt:=Q} (σ'.set 6 none) h',rt:=Q} [some (.str l),some (.int how),some (.int place),some (.ref ra),some (.int 0),some .non,some (.ref h2.length)] (h2++[.dZ c r])):=by
  intro i hi;refine Uo hl (λz ez h' pr=>?_) λg h' pr=>?_
  ·have k:=aj_ (aaE ez);refine ⟨_,_,rfl,k.ct,?_⟩;refine aho aB k λh2 k1 b_ g1=>?_;simp! only[iG];rw[hi];exact q1 z ez _ _ (Q_.trans (pr.trans ((prefix_append _ _).trans b_))) g1
  ·simp! only[iG];exact q2 g _ _ (Q_.trans pr) (aK pr ea)
 simp! only[ahn,adJ];by_cases h0':how=0
 ·rw[show (how == 0)=true from by simp[h0']];simp! only;exact key 0 (by rw[if_pos h0'])
 ·rw[show (how == 0)=false from by simp[h0']];simp! only;split
  ·exact key place (by rw[if_neg h0'])
  ·exact key place (by rw[if_neg h0'])
theorem p8 (g:(∀n∈nm s,GN n)/\(sh s 0).length<=120):lv s<=30/\sz s<=120:=by
 have h1:=Gs (l:=0) (by lia) g.1;have h2:=Gz (l:=0) (by lia) g.1;have h3:sl s 0<=120:=g.2
 lia
theorem Ur:∀{r:RR},gR r->Q (.bl true) h->au sb P (d+40) 23 [rD r,rD r] h Q E
 | .bad _,g,_=>g.elim
 | .al s,g,q=>by
  have:=p8 g;refine qj (xs:=[.str (tx "always"),sd s]) (by simp) ?_ q;intro x hx h Q E q;simp only[mem_cons,not_mem_nil,or_false]at hx;rcases hx with rfl | rfl
  ·exact qg q
  ·exact oh (by lia) q
 | .us s t,g,q=>by
  have:=p8 g.1;have:=p8 g.2;refine qj (xs:=[.str (tx "usually"),sd s,sd t]) (by simp) ?_ q;intro x hx h Q E q;simp only[mem_cons,not_mem_nil,or_false]at hx;rcases hx with rfl | rfl | rfl
  ·exact qg q
  ·exact oh (by lia) q
  ·exact oh (by lia) q
theorem ahp:(tx "always" == tx "always")=true:=by decide
theorem ahq:(tx "usually" == tx "always")=false:=by decide
theorem V8:(tx "always ").length=7:=by decide
theorem Fj:(tx "where ").length=6:=by decide
theorem Ri:(tx " usually ").length=9:=by decide
theorem adK:∀{r:RR},gR r->Q (.str (Fg r)) h->au sb P (d+40) 11 [rD r] h Q E
 | .bad _,g,_=>g.elim
 | .al s,g,q=>by
  have hv:=p8 g;refine wp_call rfl rfl ?_;simp! only[rD,oN,Ji];refine LK g.1 hv.2 (by lia) ?_;simp! only[oM,Fe,ahp,yj];rw[if_pos (by rw[V8];simp)];simp! only;rw[if_pos (by have:=g.2;rw[V8];lia)];exact q
 | .us s t,g,q=>by
  have hv:=p8 g.1;have hv2:=p8 g.2;have g1:=g.1.2;have g2:=g.2.2;refine wp_call rfl rfl ?_;simp! only[rD,oN,Ly];refine LK g.1.1 hv.2 (by lia) ?_;simp! only[oM,Lx,ahq,yh,Lz];refine LK g.2.1 hv2.2 (by lia) ?_;simp! only[yg];rw[if_pos (by rw[Fj];simp)];simp! only;rw[if_pos (by rw[Fj];lia)];simp! only;rw[if_pos (by simp only[length_append,Fj,Ri];lia)];simp! only;rw[if_pos (by simp only[length_append,Fj,Ri];lia)];exact q
theorem Ma (g:∀n∈nm s,GN n)(hz:sz s<=120)(hd:lv s<=d)(q:Q (.str (sh s 0)) h):au sb P d 24 [sd s,.int 1] h Q E:=by
 have t:=wF (l:=0) (E:=E) g hz hd (by lia) q;have e:((0:Nat):Int)+1=1:=by decide
 rw[e]at t;exact t
theorem ahr:∀{r:RR},gR r->Q (.str (Fg r)) h->au sb P (d+40) 29 [rD r] h Q E
 | .bad _,g,_=>g.elim
 | .al s,g,q=>by
  have hv:=p8 g;refine wp_call rfl rfl ?_;simp! only[rD,oZ,Fe,ahp,Ae,Ji];refine Ma g.1 hv.2 (by lia) ?_;simp! only;rw[if_pos (by have:=g.2;rw[V8];lia)];exact q
 | .us s t,g,q=>by
  have hv:=p8 g.1;have hv2:=p8 g.2;have g1:=g.1.2;have g2:=g.2.2;refine wp_call rfl rfl ?_;simp! only[rD,oZ,Lx,ahq];rw[Ad,jk];generalize hc:Ex.call 24 (.cons (.prim .idx (.cons (.var 0) (.cons (.lit (.int 2)) .nil))) (.cons (.lit (.int 1)) .nil)) []=c2;simp! only[Ly];refine Ma g.1.1 hv.2 (by lia) ?_;simp! only;rw[if_pos (by rw[Fj];lia)];simp! only;rw[if_pos (by simp only[length_append,Fj,Ri];lia)];rw[<-hc];simp! only[Lz];refine Ma g.2.1 hv2.2 (by lia) ?_;simp! only;rw[if_pos (by simp only[length_append,Fj,Ri];lia)];exact q
theorem ahs:∀{r:RR},gR r->∃xs,rD r=.tup xs
 | .bad _,g=>g.elim
 | .al s,_=>⟨_,rfl⟩
 | .us s t,_=>⟨_,rfl⟩
theorem adL:∀{r:RR},gR r->(Fg r).length<=300
 | .bad _,g=>g.elim
 | .al s,g=>by have:=g.2;simp only[Fg,length_append,V8];lia
 | .us s t,g=>by have:=g.1.2;have:=g.2.2;simp only[Fg,length_append,Fj,Ri];lia
theorem Us:jP [i,j,l] (.tup [x,y,z]) σ=some (((σ.set i (some x)).set j (some y)).set l (some z)):=rfl
theorem aht (ha:h[a]?=some (.lst xs)):prim sb (.fV .tuple) [.ref a] h=some (.bl false,h):=by
 rw[abo];simp only[iY,ha,map_some]
theorem ahu (e1:h[r1]?=some (.lst [.int z]))(q:∀h' r,h<+:h'->h'[r]?=some (.lst (Um z))->Q (.ref r) h'):
  aL sb (au sb P d) E (.comp .rng (.cons (.lit (.int 5)) .nil) 1 .none (.prim .eq (.cons (.var 8) (.cons (.prim .idx (.cons (.var 3) (.cons (.lit (.int 0)) .nil))) .nil)))) [x0,x1,x2,some (.ref r1),x4,x5,x6,x7] h Q:=by
 have i0:∀{x:D},bT [x] 0=some x:=rfl;refine agw (n:=5) (h1:=h) (λ_=>true) (λk=>.bl (((k:Nat):Int) == z)) (λQ q=>by simp! only;exact q) (by decide) ?_ ?_
 ·intro k h2 hk pr;simp! only[aD (aK pr e1),i0];exact ⟨iM,λ_=>iM⟩
 ·intro h' pr e;refine q h' _ pr ?_;rw[e];rfl
theorem adM (hl:l.length<=5000)(q:∀h',h<+:h'->Q (.bl true) h'):au sb P (d+48) 30 [.str l,.int how,.int place] h Q E:=by
 refine wp_call rfl rfl ?_;simp! only[v7];refine ahl hl (λz ez h1 r1 bZ e1=>?_) λg h1 bZ=>?_
 ·simp! only[m7];refine Uq (by lia) (λz' ez' h2 r2 b_ e2=>?_) λg _ _ _ _=>by rw[ez]at g;exact g.elim
  obtain rfl:z'=z:=by rw[ez]at ez';cases ez';rfl
  have e1':=aK b_ e1;simp! only[Us,m6,aht e1'];have i0:∀{x:D},bT [x] 0=some x:=rfl;have go:∀pl:Int,(if how=0 then 0 else place)=pl->bw sb (au sb P (d+47)) E o7 {nx:=λ_ h=>Q .non h,rt:=Q} [some (.str l),some (.int how),some (.int pl),some (.ref r1),some (.ref r2),some (.int (if how=0 then 0 else place)),some .non,none] h2:=by
   intro pl ep;rw[ep];simp! only[o7];refine ahu e1' λh3 r3 cB e3=>?_;simp! only[Tn (aK cB e2) e3,akb];have ib:prim sb (.fV .bool) [.int pl] h3=some (.bl false,h3):=rfl;have ii:prim sb (.fV .int) [.int pl] h3=some (.bl true,h3):=rfl;simp! only[ib,Af,ii,beq_self_eq_true];exact q _ (bZ.trans (b_.trans cB))
  simp! only[Ah];by_cases h0:how=0
  ·rw[show (how == 0)=true from by simp[h0]];simp! only[Ag];exact go 0 (if_pos h0)
  ·rw[show (how == 0)=false from by simp[h0]];simp! only;exact go place (if_neg h0)
 ·simp! only[m7];refine Uq (by lia) (λz' ez' _ _ _ _=>by rw[ez']at g;exact g.elim) λ_ h2 r2 b_ e2=>?_;have hr:=aj9 g;have hs:=adL g;generalize rr l=R at g hr hs;obtain ⟨xs,ex⟩:=ahs g;have hi:prim sb (.fV .tuple) [rD R] h2=some (.bl true,h2):=by rw[ex];rfl
  simp! only[Us,m6,hi,vZ,Tn (aJ (l:=[AO.lst []]) e2) aB,show KD [] []=some true from rfl];refine Ur g ?_;simp! only[Ak];refine adK g ?_;simp! only[Aj,abz];refine ahr g ?_;simp! only[beq_self_eq_true,Ai];refine Uo (by lia) (λz ez=>by rw[hr]at ez;rw[ez]at g;exact g.elim) λ_ h3 cB=>?_;rw[hr];refine Ur g ?_;exact q _ (bZ.trans (b_.trans ((prefix_append _ _).trans cB)))
theorem Yt {α:Type}{xs:List α}{n:Nat}:cut xs (some (n:Int)) none=xs.drop n:=by
 by_cases h:n<=xs.length
 ·exact rN h
 ·simp only[cut,bG];rw[if_neg (by lia),show (min (n:Int) (xs.length:Int)).toNat=xs.length by lia,List.drop_eq_nil_of_le (show xs.length<=n by lia),drop_length,List.take_nil]
theorem akc (h:m<=k):tl (W.take m)+tl (W.drop k)<=tl W:=by
 have e:=rO (a:=W.take m) (b:=W.drop m);rw[take_append_drop]at e;have e2:=LQ (ss:=W.drop m) (n:=k - m);rw[drop_drop,show m+(k - m)=k by lia]at e2
 lia
theorem Yu {x0 x3 x4 x5 x6 x8 x9:Option D}{na da wa:Nat}{D:Nat->Int}{N W:List S}(hd:h[da]?=some (.lst (rl 60 D)))(hn:h[na]?=some (.lst (N.map .str)))(hN:N≠[])(jw:∀n∈N,n.length<=12)(hw:h[wa]?=some (.lst (W.map .str)))(hl:tl W<=4900)(q:∀h' l,h<+:h'->l.length<=5000->Q (.str l) h'):bw sb (au sb P d) E rE {nx:=λ_ h=>Q .non h,rt:=Q} [x0,some (.ref na),some (.ref da),x3,x4,x5,x6,some (.ref wa),x8,x9] h:=by
 obtain ⟨Rj,Rk⟩:=bC (n:=60) (f:=D) (z:=52) (by decide) (by decide);obtain ⟨v56,e56⟩:=bC (n:=60) (f:=D) (z:=56) (by decide) (by decide);obtain ⟨v57,e57⟩:=bC (n:=60) (f:=D) (z:=57) (by decide) (by decide);obtain ⟨v58,e58⟩:=bC (n:=60) (f:=D) (z:=58) (by decide) (by decide);obtain ⟨v59,e59⟩:=bC (n:=60) (f:=D) (z:=59) (by decide) (by decide);have hWl:=lY (ss:=W);simp! only[rE,aD hd,Rk];cases decide ((2:Int) < Rj % 5) with
 | false=>
  simp! only[Eh,rQ hw (by lia)];exact q h _ iM (by have:=GC (ss:=W);lia)
 | true=>
  obtain ⟨n0,N',rfl⟩:∃n0 N',N=n0::N':=by cases N with | nil=>exact absurd rfl hN | cons a b=>exact ⟨a,b,rfl⟩
  have h0:bT (Z.D.str n0::N'.map Z.D.str) 0=some (.str n0):=by rw[dO (by decide)];rfl
  have hn':h[na]?=some (.lst (Z.D.str n0::N'.map Z.D.str)):=hn;simp! only[El,aD hd,e56,nH hw,length_map,pQ (show (0:Int) < (W.length:Int)+1 by lia),Ek,aD hn',h0];obtain ⟨m,em⟩:∃m:Nat,v56 % ((W.length:Int)+1)=(m:Int):=eq_ofNat_of_zero_le (emod_nonneg _ (by lia));rw[em];have hL:∀z:Int,∃w:S,bT [Z.D.str (tx "always"),.str (tx "where"),.str (tx "usually"),.str (tx "usually"),.str (tx "not"),.str (tx ""),.str n0,.str (tx "and")] (z % 8)=some (.str w)/\w.length<=12:=by
   intro z;obtain ⟨v,hv,e⟩:=jN (xs:=[Z.D.str (tx "always"),.str (tx "where"),.str (tx "usually"),.str (tx "usually"),.str (tx "not"),.str (tx ""),.str n0,.str (tx "and")]) (z:=z % 8) (emod_nonneg _ (by decide)) (emod_lt_of_pos _ (by decide));simp only[mem_cons,not_mem_nil,or_false]at hv;rcases hv with rfl | rfl | rfl | rfl | rfl | rfl | rfl | rfl
   all_goals first | exact ⟨_,e,by decide⟩ | exact ⟨_,e,jw _ (by simp)⟩
  obtain ⟨w,ew,wl⟩:=hL v57;generalize [Z.D.str (tx "always"),Z.D.str (tx "where"),Z.D.str (tx "usually"),Z.D.str (tx "usually"),Z.D.str (tx "not"),Z.D.str (tx ""),Z.D.str n0,Z.D.str (tx "and")]=L8 at ew ⊢;have hd1:=aJ (l:=[AO.lst L8]) hd;have hw1:=aJ (l:=[AO.lst L8]) hw;have hl1:(h++[AO.lst L8])[h.length]?=some (.lst L8):=aB;have bZ:h<+:h++[AO.lst L8]:=prefix_append _ _;generalize h++[AO.lst L8]=h1 at hd1 hw1 hl1 bZ ⊢;generalize h.length=la at hl1 ⊢;simp! only[Ej,aD hd1,e57,aD hl1,ew];have g1:(h1++[AO.lst [Z.D.str w]]++[AO.lst []]++[AO.lst [Z.D.ref (List.length h1),Z.D.ref (List.length (h1++[AO.lst [Z.D.str w]]))]])[h1.length]?=some (.lst [Z.D.str w]):=aJ (aJ aB);have g2:(h1++[AO.lst [Z.D.str w]]++[AO.lst []]++[AO.lst [Z.D.ref (List.length h1),Z.D.ref (List.length (h1++[AO.lst [Z.D.str w]]))]])[(h1++[AO.lst [Z.D.str w]]).length]?=some (.lst []):=aJ aB;have g3:(h1++[AO.lst [Z.D.str w]]++[AO.lst []]++[AO.lst [Z.D.ref (List.length h1),Z.D.ref (List.length (h1++[AO.lst [Z.D.str w]]))]])[(h1++[AO.lst [Z.D.str w]]++[AO.lst []]).length]?=some (.lst [Z.D.ref (List.length h1),Z.D.ref (List.length (h1++[AO.lst [Z.D.str w]]))]):=aB;have pr4:h1<+:h1++[AO.lst [Z.D.str w]]++[AO.lst []]++[AO.lst [Z.D.ref (List.length h1),Z.D.ref (List.length (h1++[AO.lst [Z.D.str w]]))]]:=pre_app (pre_app (prefix_append _ _));generalize (h1++[AO.lst [Z.D.str w]]++[AO.lst []]).length=a3 at g3 ⊢;generalize h1++[AO.lst [Z.D.str w]]++[AO.lst []]++[AO.lst [Z.D.ref (List.length h1),Z.D.ref (List.length (h1++[AO.lst [Z.D.str w]]))]]=h4 at g1 g2 g3 pr4 ⊢;generalize (h1++[AO.lst [Z.D.str w]]).length=a2 at g2 g3;generalize h1.length=a1 at g1 g3;have QJ:=aK pr4 hd1;have hw4:=aK pr4 hw1;obtain ⟨ra,X,er,eX,lX⟩:∃(ra:Nat) (X:List S),bT [Z.D.ref a1,.ref a2] (v58 % 2)=some (.ref ra)/\h4[ra]?=some (.lst (X.map .str))/\tl X<=13:=by
   rcases (show v58 % 2=0\/v58 % 2=1 by lia) with e | e
   ·rw[e];exact ⟨a1,[w],rfl,g1,by simp only[tl,map_cons,map_nil,sum_cons,sum_nil,length_cons,length_nil];lia⟩
   ·rw[e];exact ⟨a2,[],rfl,g2,by decide⟩
  obtain ⟨k,ek,hk⟩:∃k:Nat,(m:Int)+v59 % 2=(k:Int)/\m<=k:=⟨((m:Int)+v59 % 2).toNat,by lia,by lia⟩
  have bb:=akc (W:=W) hk;have c1:cut (W.map Z.D.str) none (some (m:Int))=(W.take m).map .str:=by rw[Nu,map_take]
  have c2:cut (W.map Z.D.str) (some (k:Int)) none=(W.drop k).map .str:=by rw[Yt,map_drop]
  have l1:=lY (ss:=W.take m);have l2:=lY (ss:=W.drop k);have l3:=lY (ss:=X);simp! only[aD QJ,e58,aD g3,er,Ei,Ym hw4 (by rw[length_map];lia),c1];rw[iy aB (aJ eX) (by simp only[length_append,length_map];lia)];simp! only;have hd5:=aJ (l:=[AO.lst ((W.take m).map Z.D.str++X.map Z.D.str)]) (aJ (l:=[AO.lst ((W.take m).map Z.D.str)]) QJ);have hw5:=aJ (l:=[AO.lst ((W.take m).map Z.D.str++X.map Z.D.str)]) (aJ (l:=[AO.lst ((W.take m).map Z.D.str)]) hw4);have Nv:h4<+:h4++[AO.lst ((W.take m).map Z.D.str)]++[AO.lst ((W.take m).map Z.D.str++X.map Z.D.str)]:=pre_app (prefix_append _ _);have e5:(h4++[AO.lst ((W.take m).map Z.D.str)]++[AO.lst ((W.take m).map Z.D.str++X.map Z.D.str)])[(h4++[AO.lst ((W.take m).map Z.D.str)]).length]?=some (.lst ((W.take m).map Z.D.str++X.map Z.D.str)):=aB;generalize (h4++[AO.lst ((W.take m).map Z.D.str)]).length=a5 at e5 ⊢;generalize h4++[AO.lst ((W.take m).map Z.D.str)]++[AO.lst ((W.take m).map Z.D.str++X.map Z.D.str)]=h5 at hd5 hw5 Nv e5 ⊢;simp! only[aD hd5,e59,ek,Ke hw5 (by rw[length_map];lia),c2];rw[iy (aJ e5) aB (by simp only[length_append,length_map];lia)];simp! only;have e6:∀g:AH,(g++[AO.lst ((W.take m).map Z.D.str++X.map Z.D.str++(W.drop k).map Z.D.str)])[g.length]?=some (.lst ((W.take m++X++W.drop k).map .str)):=λg=>by rw[aB];simp only[map_append]
  have l6:tl (W.take m++X++W.drop k)<=4913:=by rw[rO,rO];lia
  rw[rQ (e6 _) (by lia)];simp! only;exact q _ _ (bZ.trans (pr4.trans (Nv.trans (pre_app (prefix_append _ _))))) (by have:=GC (ss:=W.take m++X++W.drop k);lia)
theorem anL:(tx "always").length=6:=by decide
theorem anM:(tx "where").length=5:=by decide
theorem anN:(tx "usually").length=7:=by decide
theorem Ut {x0 x3 x5 x6 x7 x8 x9:Option D}{na da sa:Nat}{D:Nat->Int}{N:List S}{t0 t1:S}(hd:h[da]?=some (.lst (rl 60 D)))(hn:h[na]?=some (.lst (N.map .str)))(hN:N≠[])(jw:∀n∈N,n.length<=12)(hs:h[sa]?=some (.lst [.str t0,.str t1]))(b0:t0.length<=2300)(b1:t1.length<=2300)(q:∀h' l,h<+:h'->l.length<=5000->Q (.str l) h'):bw sb (au sb P d) E rF {nx:=λ_ h=>Q .non h,rt:=Q} [x0,some (.ref na),some (.ref da),x3,some (.ref sa),x5,x6,x7,x8,x9] h:=by
 obtain ⟨v54,e54⟩:=bC (n:=60) (f:=D) (z:=54) (by decide) (by decide);have tl0:=xO (s:=t0);have tl1:=xO (s:=t1);have ln0:=lY (ss:=sp t0);have ln1:=lY (ss:=sp t1);simp! only[rF,aD (aJ (l:=[AO.lst [Z.D.str (tx "always")]]) hs),Fe,wG (show t0.length<=1000000 by lia)];rw[iy (aJ aB) aB (by simp only[length_append,length_map,length_cons,length_nil];lia)];simp! only;have bZ:h<+:h++[AO.lst [Z.D.str (tx "always")]]++[AO.lst ((sp t0).map Z.D.str)]++[AO.lst (Z.D.str (tx "always")::(sp t0).map Z.D.str)]:=pre_app (pre_app (prefix_append _ _));have e1:(h++[AO.lst [Z.D.str (tx "always")]]++[AO.lst ((sp t0).map Z.D.str)]++[AO.lst (Z.D.str (tx "always")::(sp t0).map Z.D.str)])[(h++[AO.lst [Z.D.str (tx "always")]]++[AO.lst ((sp t0).map Z.D.str)]).length]?=some (.lst ((tx "always"::sp t0).map .str)):=aB;generalize (h++[AO.lst [Z.D.str (tx "always")]]++[AO.lst ((sp t0).map Z.D.str)]).length=wa at e1 ⊢;generalize h++[AO.lst [Z.D.str (tx "always")]]++[AO.lst ((sp t0).map Z.D.str)]++[AO.lst (Z.D.str (tx "always")::(sp t0).map Z.D.str)]=h1 at bZ e1 ⊢;have hd1:=aK bZ hd;have hn1:=aK bZ hn;have hs1:=aK bZ hs;simp! only[Ep,aD hd1,e54];cases decide ((0:Int) < v54 % 3) with
 | false=>
  simp! only;exact Yu hd1 hn1 hN jw e1 (by rw[ju,anL];lia) λh' l pr=>q h' l (bZ.trans pr)
 | true=>
  have g1:=aJ (l:=[AO.lst [Z.D.str (tx "where")]]) hs1;simp! only[Eo,aD g1,Fe,wG (show t0.length<=1000000 by lia)];rw[iy (aJ aB) aB (by simp only[length_append,length_map,length_cons,length_nil];lia)];simp! only;have b_:h1<+:h1++[AO.lst [Z.D.str (tx "where")]]++[AO.lst ((sp t0).map Z.D.str)]++[AO.lst (Z.D.str (tx "where")::(sp t0).map Z.D.str)]:=pre_app (pre_app (prefix_append _ _));have e2:(h1++[AO.lst [Z.D.str (tx "where")]]++[AO.lst ((sp t0).map Z.D.str)]++[AO.lst (Z.D.str (tx "where")::(sp t0).map Z.D.str)])[(h1++[AO.lst [Z.D.str (tx "where")]]++[AO.lst ((sp t0).map Z.D.str)]).length]?=some (.lst (Z.D.str (tx "where")::(sp t0).map Z.D.str)):=aB;generalize (h1++[AO.lst [Z.D.str (tx "where")]]++[AO.lst ((sp t0).map Z.D.str)]).length=w2 at e2 ⊢;generalize h1++[AO.lst [Z.D.str (tx "where")]]++[AO.lst ((sp t0).map Z.D.str)]++[AO.lst (Z.D.str (tx "where")::(sp t0).map Z.D.str)]=h2 at b_ e2 ⊢;have hs2:=aK b_ hs1;rw[iy (aJ e2) aB (by simp only[length_append,length_map,length_cons,length_nil];lia)];simp! only;have cB:h2<+:h2++[AO.lst [Z.D.str (tx "usually")]]++[AO.lst (Z.D.str (tx "where")::((sp t0).map Z.D.str++[Z.D.str (tx "usually")]))]:=pre_app (prefix_append _ _);have e3:(h2++[AO.lst [Z.D.str (tx "usually")]]++[AO.lst (Z.D.str (tx "where")::((sp t0).map Z.D.str++[Z.D.str (tx "usually")]))])[(h2++[AO.lst [Z.D.str (tx "usually")]]).length]?=some (.lst (Z.D.str (tx "where")::((sp t0).map Z.D.str++[Z.D.str (tx "usually")]))):=aB;generalize (h2++[AO.lst [Z.D.str (tx "usually")]]).length=w3 at e3 ⊢;generalize h2++[AO.lst [Z.D.str (tx "usually")]]++[AO.lst (Z.D.str (tx "where")::((sp t0).map Z.D.str++[Z.D.str (tx "usually")]))]=h3 at cB e3 ⊢;have hs3:=aK cB hs2;simp! only[aD hs3,Ji,wG (show t1.length<=1000000 by lia)];rw[iy (aJ e3) aB (by simp only[length_append,length_map,length_cons,length_nil];lia)];simp! only;have e4:(h3++[AO.lst ((sp t1).map Z.D.str)]++[AO.lst (Z.D.str (tx "where")::((sp t0).map Z.D.str++[Z.D.str (tx "usually")]++(sp t1).map Z.D.str))])[(h3++[AO.lst ((sp t1).map Z.D.str)]).length]?=some (.lst ((tx "where"::(sp t0++[tx "usually"]++sp t1)).map .str)):=by rw[aB];simp
  have pr4:h3<+:h3++[AO.lst ((sp t1).map Z.D.str)]++[AO.lst (Z.D.str (tx "where")::((sp t0).map Z.D.str++[Z.D.str (tx "usually")]++(sp t1).map Z.D.str))]:=pre_app (prefix_append _ _);have Nv:=b_.trans (cB.trans pr4);exact Yu (aK Nv hd1) (aK Nv hn1) hN jw e4 (by rw[ju,rO,rO,ju,anM,anN];simp only[tl,map_nil,sum_nil,length_nil]at *;lia) λh' l pr=>q h' l (bZ.trans (Nv.trans pr))
theorem Rm {t0 t1 u:S}{k:Int}(hk:k=0\/k=1):∃u0 u1:S,[Z.D.str t0,.str t1].set k.toNat (.str u)=[.str u0,.str u1]/\(u0=t0\/u0=u)/\(u1=t1\/u1=u):=by
 rcases hk with rfl | rfl
 ·exact ⟨u,t1,rfl,.inr rfl,.inl rfl⟩
 ·exact ⟨t0,u,rfl,.inl rfl,.inr rfl⟩
theorem O5 {t0 t1:S}{k:Int}(hk:k=0\/k=1):∃t:S,bT [Z.D.str t0,.str t1] k=some (.str t)/\(t=t0\/t=t1):=by
 rcases hk with rfl | rfl
 ·exact ⟨t0,rfl,.inl rfl⟩
 ·exact ⟨t1,rfl,.inr rfl⟩
theorem Yv {x0 x3 x5 x6 x7 x8 x9:Option D}{g:AH}{na da sa:Nat}{D:Nat->Int}{N:List S}{t0 t1:S}(pg:g<+:h)(hsa:g.length<=sa)(hd:h[da]?=some (.lst (rl 60 D)))(hn:h[na]?=some (.lst (N.map .str)))(hN:N≠[])(jw:∀n∈N,n.length<=12)(hs:h[sa]?=some (.lst [.str t0,.str t1]))(nd:da≠sa)(nn:na≠sa)(b0:t0.length<=2100)(b1:t1.length<=2100)(q:∀h' l,g<+:h'->l.length<=5000->Q (.str l) h'):bw sb (au sb P d) E oX {nx:=λ_ h=>Q .non h,rt:=Q} [x0,some (.ref na),some (.ref da),x3,some (.ref sa),x5,x6,x7,x8,x9] h:=by
 obtain ⟨Rj,Rk⟩:=bC (n:=60) (f:=D) (z:=52) (by decide) (by decide);obtain ⟨jx,HF⟩:=bC (n:=60) (f:=D) (z:=53) (by decide) (by decide);obtain ⟨Nx,e55⟩:=bC (n:=60) (f:=D) (z:=55) (by decide) (by decide);simp! only[oX,aD hd,Rk];cases Rj % 10 == 1 with
 | false=>
  simp! only;exact Ut hd hn hN jw hs (by lia) (by lia) λh' l pr=>q h' l (pg.trans pr)
 | true=>
  have hk:jx % 2=0\/jx % 2=1:=by lia
  obtain ⟨t,et,ht⟩:=O5 (t0:=t0) (t1:=t1) hk;have aqA:t.length<=2100:=by rcases ht with rfl | rfl<;>assumption
  have dl:0<=Nx % 70/\Nx % 70<=69:=by lia
  have m1:=@wC h (tx "(") (Nx % 70) (by lia) (by rw[dw];simp only[length_cons,length_nil];lia);have m2:=@wC h (tx ")") (Nx % 70) (by lia) (by rw[dN];simp only[length_cons,length_nil];lia);have r1:=qm (s:=tx "(") (n:=(Nx % 70).toNat);have r2:=qm (s:=tx ")") (n:=(Nx % 70).toNat);rw[dw]at r1;rw[dN]at r2;simp only[length_cons,length_nil]at r1 r2;rw[<-dw]at r1;rw[<-dN]at r2;generalize (replicate (Nx % 70).toNat (tx "(")).flatten=s1 at m1 r1;generalize (replicate (Nx % 70).toNat (tx ")")).flatten=s2 at m2 r2;have a1:s1.length+t.length<=16777216:=by lia
  have a2:(s1++t).length+s2.length<=16777216:=by rw[length_append];lia
  simp! only[zR,aD hd,e55,zQ,HF,zP,m1,aD hs,et];rw[if_pos a1];simp! only[m2];rw[if_pos a2];have sx:∀v,prim sb .fB [.ref sa,.int (jx % 2),v] h=some (.non,h.set sa (.lst ([Z.D.str t0,.str t1].set (jx % 2).toNat v))):=λv=>Fd (v:=v) (k:=jx % 2) hs (by lia) (by simp only[length_cons,length_nil];lia);simp only[sx];obtain ⟨u0,u1,eu,c0,c1⟩:=Rm (t0:=t0) (t1:=t1) (u:=s1++t++s2) hk;rw[eu];have ul:(s1++t++s2).length<=2300:=by simp only[length_append];lia
  exact Ut (bN hd nd.symm) (bN hn nn.symm) hN jw (get_set hs) (by rcases c0 with rfl | rfl<;>lia) (by rcases c1 with rfl | rfl<;>lia) λh' l pr=>q h' l ((iK pg hsa).trans pr)
theorem ahw {D:Nat->Int}:(rl 60 D).reverse=rl 60 λi=>D (59 - i):=by
 apply List.ext_getElem
 ·simp[rl]
 ·intro i h1 h2;simp only[rl,length_reverse,length_map,length_range]at h1 h2;simp only[rl,List.getElem_reverse,List.getElem_map,List.getElem_range,length_map,length_range]
theorem ahx (ha:h[a]?=some (.lst xs))(hl:xs.length<=1000):prim sb .HJ [.ref a] h=some (.ref h.length,h++[.lst xs.reverse]):=by
 show (match h[a]? with | some (.lst xs)=>newL xs.reverse h | _=>none)=_;rw[ha];exact if_pos (show xs.reverse.length<=16777216 by rw[length_reverse];lia)
theorem ahy {x0 x3 x5 x6 x7 x8 x9:Option D}{g:AH}{na da sa:Nat}{D:Nat->Int}{N:List S}{t0 t1:S}{jx:Int}(HF:bT (rl 60 D) 53=some (.int jx))(pg:g<+:h)(hsa:g.length<=sa)(hd:h[da]?=some (.lst (rl 60 D)))(hn:h[na]?=some (.lst (N.map .str)))(hN:N≠[])(jw:∀n∈N,n.length<=12)(hs:h[sa]?=some (.lst [.str t0,.str t1]))(nd:da≠sa)(nn:na≠sa)(b0:t0.length<=2100)(b1:t1.length<=2100)(bk:∀t,bT [Z.D.str t0,.str t1] (jx % 2)=some (.str t)->t.length<=2000)(q:∀h' l,g<+:h'->l.length<=5000->Q (.str l) h'):bw sb (au sb P (d+1)) E jW {nx:=λ_ h=>Q .non h,rt:=Q} [x0,some (.ref na),some (.ref da),x3,some (.ref sa),x5,x6,x7,x8,x9] h:=by
 obtain ⟨Rj,Rk⟩:=bC (n:=60) (f:=D) (z:=52) (by decide) (by decide);simp! only[jW,aD hd,Rk];cases Rj % 5 == 0 with
 | false=>
  simp! only;exact Yv pg hsa hd hn hN jw hs nd nn b0 b1 q
 | true=>
  have hk:jx % 2=0\/jx % 2=1:=by lia
  obtain ⟨t,et,_⟩:=O5 (t0:=t0) (t1:=t1) hk;simp! only[zT,aD hd,HF,aD hs,et];refine Nt (m:=60) (by decide) hd (bk t et) λh2 t' b_ tl'=>?_;have hs2:=aK b_ hs;have sx:∀v,prim sb .fB [.ref sa,.int (jx % 2),v] h2=some (.non,h2.set sa (.lst ([Z.D.str t0,.str t1].set (jx % 2).toNat v))):=λv=>Fd (v:=v) (k:=jx % 2) hs2 (by lia) (by simp only[length_cons,length_nil];lia);simp! only[aD (aK b_ hd),HF,sx];obtain ⟨u0,u1,eu,c0,c1⟩:=Rm (t0:=t0) (t1:=t1) (u:=t') hk;rw[eu];exact Yv (iK (pg.trans b_) hsa) hsa (bN (aK b_ hd) nd.symm) (bN (aK b_ hn) nn.symm) hN jw (get_set hs2) nd nn (by rcases c0 with rfl | rfl<;>lia) (by rcases c1 with rfl | rfl<;>lia) q
theorem anO {x0 x3 x5 x6 x7 x8 x9:Option D}{g:AH}{na da sa:Nat}{D:Nat->Int}{N:List S}{t0 t1:S}(pg:g<+:h)(hsa:g.length<=sa)(hd:h[da]?=some (.lst (rl 60 D)))(hn:h[na]?=some (.lst (N.map .str)))(hN:N≠[])(jw:∀n∈N,n.length<=12)(hs:h[sa]?=some (.lst [.str t0,.str t1]))(nd:da≠sa)(nn:na≠sa)(b0:t0.length<=1000)(b1:t1.length<=1000)(q:∀h' l,g<+:h'->l.length<=5000->Q (.str l) h'):bw sb (au sb P (d+1)) E oY {nx:=λ_ h=>Q .non h,rt:=Q} [x0,some (.ref na),some (.ref da),x3,some (.ref sa),x5,x6,x7,x8,x9] h:=by
 obtain ⟨Rj,Rk⟩:=bC (n:=60) (f:=D) (z:=52) (by decide) (by decide);obtain ⟨jx,HF⟩:=bC (n:=60) (f:=D) (z:=53) (by decide) (by decide);have hk:jx % 2=0\/jx % 2=1:=by lia
 have plain:bw sb (au sb P (d+1)) E jW {nx:=λ_ h=>Q .non h,rt:=Q} [x0,some (.ref na),some (.ref da),x3,some (.ref sa),x5,x6,x7,x8,x9] h:=by
  refine ahy HF pg hsa hd hn hN jw hs nd nn (by lia) (by lia) (λt et=>?_) q;obtain ⟨t',et',ht⟩:=O5 (t0:=t0) (t1:=t1) hk;rw[et]at et';cases et';rcases ht with rfl | rfl<;>lia
 simp! only[oY,aD hd,Rk];cases decide (Rj % 5 < 2) with
 | false=>
  simp! only;exact plain
 | true=>
  simp! only[aD hd,HF];cases jx / 2 % 3 == 0 with
  | false=>
   simp! only;exact plain
  | true=>
   have hk':1 - jx % 2=0\/1 - jx % 2=1:=by lia
   obtain ⟨t,et,ht⟩:=O5 (t0:=t0) (t1:=t1) hk';simp! only[zU,aD hd,HF,aD hs,et,ahx hd (by simp[rl])];rw[ahw];refine Nt (m:=60) (by decide) aB (by rcases ht with rfl | rfl<;>lia) λh2 t' b_ tl'=>?_;have cB:=(prefix_append h _).trans b_;have hs2:=aK cB hs;have sx:∀v,prim sb .fB [.ref sa,.int (1 - jx % 2),v] h2=some (.non,h2.set sa (.lst ([Z.D.str t0,.str t1].set (1 - jx % 2).toNat v))):=λv=>Fd (v:=v) (k:=1 - jx % 2) hs2 (by lia) (by simp only[length_cons,length_nil];lia);simp! only[aD (aK cB hd),HF,sx];obtain ⟨u0,u1,eu,c0,c1⟩:=Rm (t0:=t0) (t1:=t1) (u:=t') hk';rw[eu];refine ahy HF (iK (pg.trans cB) hsa) hsa (bN (aK cB hd) nd.symm) (bN (aK cB hn) nn.symm) hN jw (get_set hs2) nd nn (by rcases c0 with rfl | rfl<;>lia) (by rcases c1 with rfl | rfl<;>lia) (λs es=>?_) q;rcases hk with e | e
   ·rw[e]at es eu;cases es;rw[show (1 - 0:Int).toNat=1 from rfl]at eu;cases eu;lia
   ·rw[e]at es eu;cases es;rw[show (1 - 1:Int).toNat=0 from rfl]at eu;cases eu;lia
theorem ahz (hn:h[na]?=some (.lst (N.map .str)))(hN:N≠[])(jw:∀n∈N,n.length<=12)(q:∀h' l,h<+:h'->l.length<=5000->Q (.str l) h'):au sb P (d+3) 25 [.int cell,.ref na] h Q E:=by
 refine wp_call rfl rfl ?_;simp! only[z7];refine xK (by decide) (by decide) λD=>?_;have hd:(h++[AO.lst (rl (60:Int).toNat D)])[h.length]?=some (.lst (rl 60 D)):=aB;have bZ:h<+:h++[AO.lst (rl (60:Int).toNat D)]:=prefix_append _ _;generalize h++[AO.lst (rl (60:Int).toNat D)]=h1 at hd bZ ⊢;generalize h.length=da at hd ⊢;have hn1:=aK bZ hn;obtain ⟨v50,e50⟩:=bC (n:=60) (f:=D) (z:=50) (by decide) (by decide);obtain ⟨v51,e51⟩:=bC (n:=60) (f:=D) (z:=51) (by decide) (by decide);simp! only[z6];generalize eL:[Z.D.str (tx ""),Z.D.str (tx "always"),Z.D.str (tx "where"),Z.D.str (tx "always "),Z.D.str [97,10,98],Z.D.str [97,108,119,97,121,115,32,97,10,98],Z.D.str (tx "usually a"),Z.D.str [119,104,101,114,101,32,97,10,98,32,117,115,117,97,108,108,121,32,99]]=L8;have hO:∀z:Int,∃w:S,bT (L8++[Z.D.str (tx "where ( usually"),Z.D.str (tx "where usually a b")]) (z % 10)=some (.str w)/\w.length<=30:=by
  intro z;obtain ⟨v,hv,e⟩:=jN (xs:=L8++[Z.D.str (tx "where ( usually"),Z.D.str (tx "where usually a b")]) (z:=z % 10) (emod_nonneg _ (by decide)) (by rw[<-eL];exact emod_lt_of_pos _ (by decide));subst eL;simp only[cons_append,nil_append,mem_cons,not_mem_nil,or_false]at hv;rcases hv with rfl | rfl | rfl | rfl | rfl | rfl | rfl | rfl | rfl | rfl<;>exact ⟨_,e,by decide⟩
 simp! only[zZ];rw[iy (aJ aB) aB (by rw[<-eL];decide)];clear eL;simp! only;generalize [Z.D.str (tx "where ( usually"),Z.D.str (tx "where usually a b")]=B at hO ⊢;have b_:h1<+:h1++[AO.lst L8]++[AO.lst B]++[AO.lst (L8++B)]:=pre_app (pre_app (prefix_append _ _));have eo:(h1++[AO.lst L8]++[AO.lst B]++[AO.lst (L8++B)])[(h1++[AO.lst L8]++[AO.lst B]).length]?=some (.lst (L8++B)):=aB;generalize (h1++[AO.lst L8]++[AO.lst B]).length=oa at eo ⊢;generalize h1++[AO.lst L8]++[AO.lst B]++[AO.lst (L8++B)]=h2 at b_ eo ⊢;generalize L8++B=O at hO eo;have hd2:=aK b_ hd;have hn2:=aK b_ hn1;simp! only[zY,aD hd2,e50];cases v50 % 12 == 0 with
 | true=>
  obtain ⟨w,ew,wl⟩:=hO v51;simp! only[zX,aD hd2,e51,aD eo,ew];exact q _ _ (bZ.trans b_) (by lia)
 | false=>
  simp! only[zW];refine Yl (m:=60) (by decide) hd2 hn2 hN jw λh3 t0 cB l0=>?_;have pr4:h2<+:h3++[AO.lst [Z.D.str t0]]:=pre_app cB;have es:(h3++[AO.lst [Z.D.str t0]])[h3.length]?=some (.lst [Z.D.str t0]):=aB;have gl:h1.length<=h3.length:=le_trans (lA b_) (lA cB);generalize hsa:h3.length=sa at es gl ⊢;generalize h3++[AO.lst [Z.D.str t0]]=h4 at pr4 es ⊢;simp! only[zV,cP es];refine xK (by decide) (by decide) λD'=>?_;have Nv:h2<+:h4++[AO.lst (rl (toNat 50) D')]:=pre_app pr4;refine Yl (m:=50) (by decide) aB (aK Nv hn2) hN jw λh6 t1 pr6 l1=>?_;have pr7:h4<+:h6:=(prefix_append _ _).trans pr6;have es6:=aK pr7 es;rw[dM es6 (by simp)];simp! only;have pr8:h2<+:h6:=pr4.trans pr7;have ld:=lN hd;have ln:=lN hn1;refine anO (g:=h) (iK (bZ.trans (b_.trans pr8)) (le_trans (lA bZ) gl)) (le_trans (lA bZ) gl) (bN (aK pr8 hd2) (by lia)) (bN (aK pr8 hn2) (by lia)) hN jw (get_set es6) (by lia) (by lia) l0 l1 q
theorem Uu {k:Nat}(hk:k<=100):prim sb .pow [.int 10,.int (k:Int)] h=some (.int (10 ^ k),h):=by
 show (if (0:Int)<=(k:Int)/\(k:Int)<=1000000/\(10:Int).natAbs < 18446744073709551616 then some (Z.D.int (10 ^ ((k:Int).toNat)),h) else none)=_;rw[if_pos ⟨by lia,by lia,by decide⟩,toNat_natCast]
theorem ahB (hN:N≠[])(jw:∀n∈N,n.length<=12)(hn:h[na]?=some (.lst (N.map .str)))(q:∀h' x3 x4,h<+:h'->K.nx [some scr,some (.ref na),some (.int cell),x3,x4] h'):
  bw sb (au sb P (d+49)) E Ln K [some scr,some (.ref na),some (.int cell),x3,x4] h:=by
 have m0:∀g:AH,prim sb .pow [.int 10,.int 60] g=some (.int (10 ^ 60),g):=λg=>@Uu g 60 (by decide);have m1:∀g:AH,prim sb .pow [.int 10,.int 40] g=some (.int (10 ^ 40),g):=λg=>@Uu g 40 (by decide);generalize h60:(10:Int) ^ 60=b60 at m0;have hb6:0 < b60:=by rw[<-h60];decide
 generalize h40:(10:Int) ^ 40=Rn at m1;have hb4:0 < Rn:=by rw[<-h40];decide
 clear h60 h40;simp! only[Ln,m0,pQ hb6];refine xK (by decide) (by decide) λD=>?_;have hd:(h++[AO.lst (rl (3:Int).toNat D)])[h.length]?=some (.lst (rl 3 D)):=aB;have bZ:h<+:h++[AO.lst (rl (3:Int).toNat D)]:=prefix_append _ _;generalize h++[AO.lst (rl (3:Int).toNat D)]=h1 at hd bZ ⊢;generalize h.length=da at hd ⊢;have hn1:=aK bZ hn;obtain ⟨v0,e0⟩:=bC (n:=3) (f:=D) (z:=0) (by decide) (by decide);obtain ⟨v1,e1⟩:=bC (n:=3) (f:=D) (z:=1) (by decide) (by decide);obtain ⟨v2,e2⟩:=bC (n:=3) (f:=D) (z:=2) (by decide) (by decide);obtain ⟨pl,ep⟩:∃pl:Int,bT [Z.D.int (v0 % 20),.int (cell % Rn)] (v1 % 2)=some (.int pl):=by
  rcases (show v1 % 2=0\/v1 % 2=1 by lia) with e | e
  ·rw[e];exact ⟨_,rfl⟩
  ·rw[e];exact ⟨_,rfl⟩
 simp! only[Tr,aD hd,e0,m1,pQ hb4,aD (aJ (l:=[AO.lst [Z.D.int (v0 % 20),.int (cell % Rn)]]) hd),e1,aD aB,ep];have hd2:=aJ (l:=[AO.lst [Z.D.int (v0 % 20),.int (cell % Rn)]]) hd;have hn2:=aJ (l:=[AO.lst [Z.D.int (v0 % 20),.int (cell % Rn)]]) hn1;have b_:=pre_app (l:=[AO.lst [Z.D.int (v0 % 20),.int (cell % Rn)]]) bZ;generalize h1++[AO.lst [Z.D.int (v0 % 20),.int (cell % Rn)]]=h2 at hd2 hn2 b_ ⊢;simp! only[Tq];refine ahz hn2 hN jw λh3 l cB ll=>?_;simp! only[aD (aK cB hd2),e2];refine adM ll λh4 pr4=>?_;simp! only;exact q _ _ _ (b_.trans (cB.trans pr4))
theorem ahC (ns:List Int)(hl:ns.length<=63):au sb P 50 31 [.fu (ns.map .int)] [] (λd _=>d=.bl true) λ_ _=>False:=by
 refine wp_call rfl rfl ?_;simp! only[Tv];refine ag7 (by decide) λc=>?_;refine aaB (by decide) (by decide) λh1 na N bZ _ hN1 hN jw hNg=>?_;rw[Tt,jk];have hcl:(cut (ns.map Z.D.int) (some 1) (some 26)).length<=63:=le_trans jl (by simpa using hl);have hc1:((h1++[AO.lst (cut (ns.map Z.D.int) (some 1) (some 26))])++[AO.lst [Z.D.int ns.length]])[h1.length]?=some (.lst (cut (ns.map Z.D.int) (some 1) (some 26))):=aJ aB;have pr:h1<+:(h1++[AO.lst (cut (ns.map Z.D.int) (some 1) (some 26))])++[AO.lst [Z.D.int ns.length]]++[AO.lst (cut (ns.map Z.D.int) (some 1) (some 26)++[Z.D.int ns.length])]:=pre_app (pre_app (prefix_append _ _));have ec:((h1++[AO.lst (cut (ns.map Z.D.int) (some 1) (some 26))])++[AO.lst [Z.D.int ns.length]]++[AO.lst (cut (ns.map Z.D.int) (some 1) (some 26)++[Z.D.int ns.length])])[((h1++[AO.lst (cut (ns.map Z.D.int) (some 1) (some 26))])++[AO.lst [Z.D.int ns.length]]).length]?=some (.lst (cut (ns.map Z.D.int) (some 1) (some 26)++[Z.D.int ns.length])):=aB;generalize hcells:cut (ns.map Z.D.int) (some 1) (some 26)++[Z.D.int ns.length]=cells at pr ec;have hci:∀v∈cells,∃c:Int,v=.int c:=by
  rw[<-hcells];intro v hv;rcases mem_append.mp hv with hv | hv
  ·obtain ⟨c,_,e⟩:=mem_map.mp (Li hv);exact ⟨c,e.symm⟩
  ·rw[mem_singleton]at hv;exact ⟨_,hv⟩
 have hcn:cells.length<=64:=by rw[<-hcells];simp;lia
 have aaF:∀Q:List Z.D->AH->Prop,Q [.ref ((h1++[AO.lst (cut (ns.map Z.D.int) (some 1) (some 26))])++[AO.lst [Z.D.int ns.length]]).length] ((h1++[AO.lst (cut (ns.map Z.D.int) (some 1) (some 26))])++[AO.lst [Z.D.int ns.length]]++[AO.lst cells])->bB sb (au sb P 49) (λ_ _=>False) (.cons (.prim .add (.cons (.slc (.var 0) (.lit (.int 1)) (.lit (.int 26))) (.cons (.prim .bA (.cons (.prim .len (.cons (.var 0) .nil)) .nil)) .nil))) .nil) [some (.fu (ns.map .int)),some (.ref na),none,none,none] h1 Q:=by
  intro Q q;simp! only[agu (show (ns.map Z.D.int).length<=16777216 by simp;lia)];rw[length_map,iy hc1 aB (by rw[hcells];lia),hcells];simp! only;exact q
 generalize ((h1++[AO.lst (cut (ns.map Z.D.int) (some 1) (some 26))])++[AO.lst [Z.D.int ns.length]]).length=ca at ec aaF;generalize (h1++[AO.lst (cut (ns.map Z.D.int) (some 1) (some 26))])++[AO.lst [Z.D.int ns.length]]++[AO.lst cells]=h2 at pr ec aaF;refine jG (xs:=cells) (J:=iu ca) (vs:=[.ref ca]) (h1:=h2) (λi σ h'=>∃(x2 x3 x4:Option Z.D),h2<+:h'/\σ=[some (.fu (ns.map .int)),some (.ref na),x2,x3,x4]) aaF (JV ec) ⟨_,_,_,iM,rfl⟩ ?_ ?_ ?_
 ·rintro i σ h' _ ⟨x2,x3,x4,Yw,_⟩;simp only[iu,aK Yw ec]
 ·rintro i v σ h' ev ⟨x2,x3,x4,Yw,rfl⟩;obtain ⟨cell,rfl⟩:=hci v (mem_of_getElem? ev);exact ⟨_,rfl,ahB (d:=0) hN (λn hn=>(hNg n hn).hi) (aK (pr.trans Yw) hN1) λh3 _ _ cB=>⟨_,_,_,Yw.trans cB,rfl⟩⟩
 ·rintro σ h' ⟨x2,x3,x4,Yw,rfl⟩;simp! only[Tp]
end
end gj
namespace gj
open PySem PySem.Spec PyProof.Rows L2 ZS
def top (i:Nat):Stmt:=PySem.Challenge.pw_wontbook_k04_a_row.main.body.getD i (.Pass ⟨0,0,0,0⟩)
def inner (i j:Nat):Stmt:=match top i with | .ClassDef _ _ _ b _ _ _ _ _ _ _=>b.getD j (.Pass ⟨0,0,0,0⟩) | _=>.Pass ⟨0,0,0,0⟩
structure Txt (K:PySem.W.Frag)(w:World)(mg:Str->Option Value)(f0 f1 f2 f3 f4 f5 f6 f7 f8 f9 rR f11 oE tY ou tZ rW rY t_ ud oA uf pK pL mj ug pJ uh um uo uq ur c0 c1 c2 c3 c4 c5 c6 fI:Addr)(e0 e1 e2 e3 e4 e5 e6 e7 e8 e9 e10 Am tR Ao Aq Ar Av Aw Ax Ay rK tV tW tX Az A_ tU Ba Bb Bc Bd wH eI:FuncData):Prop where
 u0:FnD K "read_sentence" (top 17) f0 e0
 g0:Binds K e0 ["text","row"] []
 gd0:BnD K e0 ["text","row"] (.int 0)
 m0:mg "read_sentence"=some (.ref f0)
 k0:keepIn K (.ref f0)=true
 u1:FF K mg "tokens_of" (top 18) f1 e1 ["text"]
 u2:FF K mg "piece_at" (top 19) f2 e2 ["text","place"]
 u3:FF K mg "word_end" (top 20) f3 e3 ["text","place"]
 u4:FF K mg "is_name" (top 21) f4 e4 ["word"]
 u5:FF K mg "put_together" (top 22) f5 e5 ["tokens"]
 u6:FF K mg "ended" (top 23) f6 e6 ["begun","whole","joints"]
 u7:FF K mg "shown_sentence" (top 24) f7 e7 ["sentence"]
 u8:FF K mg "shown_part" (top 25) f8 e8 ["sentence","least"]
 u9:FnD K "read_row" (top 27) f9 e9
 g9:Binds K e9 ["line","row"] []
 gd9:BnD K e9 ["line","row"] (.int 0)
 m9:mg "read_row"=some (.ref f9)
 k9:keepIn K (.ref f9)=true
 u10:FF K mg "sentence_texts" (top 28) rR e10 ["line"]
 u11:FF K mg "shown_row" (top 29) f11 Am ["told"]
 Yx:FF K mg "_law_draws" (top 31) oE tR ["cell","count"]
 u13:FF K mg "_law_cell_at" (top 32) tY Ao ["script","k"]
 u14:FF K mg "_law_fresh" (top 33) ou Aq ["number","size"]
 u15:FF K mg "_law_names" (top 34) tZ Ar ["cell","size"]
 u16:FF K mg "_law_good" (top 35) rW Av ["drawn","names"]
 u17:FF K mg "_law_spoiled" (top 36) rY Aw ["text","drawn"]
 u18:FF K mg "_law_tokens" (top 38) t_ Ax ["text"]
 u19:FF K mg "_law_blanks" (top 39) ud Ay ["tokens"]
 u20:FF K mg "_law_flat" (top 40) oA rK ["items"]
 u21:FF K mg "_law_word" (top 41) uf tV ["text"]
 u22:FF K mg "_law_read" (top 42) pK tW ["text"]
 u23:FF K mg "_law_same" (top 43) pL tX ["found","due"]
 Ro:FF K mg "_law_text" (top 44) mj Az ["tree","under"]
 u25:FF K mg "_law_line" (top 45) ug A_ ["cell","names"]
 u26:FF K mg "_law_two" (top 46) pJ tU ["first","then"]
 u27:FF K mg "_law_due" (top 47) uh Ba ["line"]
 u28:FF K mg "_law_asked" (top 48) um Bb ["line","how","place"]
 u29:FF K mg "_law_shown" (top 49) uo Bc ["due"]
 u30:FF K mg "_law_right" (top 50) uq Bd ["line","how","place"]
 u31:FF K mg "law" (top 51) ur wH ["script"]
 n0:nsIn K mainGlobals "WontError"=some (some (.ref c0))
 mc0:mg "WontError"=some (.ref c0)
 n1:nsIn K mainGlobals "RowError"=some (some (.ref c1))
 mc1:mg "RowError"=some (.ref c1)
 n2:nsIn K mainGlobals "NoRow"=some (some (.ref c2))
 mc2:mg "NoRow"=some (.ref c2)
 n3:nsIn K mainGlobals "TooLong"=some (some (.ref c3))
 mc3:mg "TooLong"=some (.ref c3)
 n4:nsIn K mainGlobals "NoSentence"=some (some (.ref c4))
 mc4:mg "NoSentence"=some (.ref c4)
 n5:nsIn K mainGlobals "Twice"=some (some (.ref c5))
 mc5:mg "Twice"=some (.ref c5)
 n6:nsIn K mainGlobals "TooMany"=some (some (.ref c6))
 mc6:mg "TooMany"=some (.ref c6)
 uI:BJ K "__init__" "RowError.__init__" (inner 2 0) fI eI
 gI:Binds K eI ["self","row"] []
 nI:isFn K (.ref fI)=true
 Fl:XQ K fI c1
 pN:XQ K fI c2
 pO:XQ K fI c3
 pP:XQ K fI c4
 uw:XQ K fI c5
 ux:XQ K fI c6
 ir5:jQ K (.ref c5) Cp Cq
 ir6:jQ K (.ref c6) uG uH
 ir2:jQ K (.ref c2) Cr Cu
 ir3:jQ K (.ref c3) uJ uK
 ir4:jQ K (.ref c4) mK mL
 rows:Ci K rcs
 ca0:vg K [Z.tx "NoRow",Z.tx "TooLong",Z.tx "NoSentence"] c1
 gk9:BnK K e9 ["line","row"] "row"
 ahK:mg "bool"=none
 akd:mg "int"=none
 bV:mg "isinstance"=none
 cF:mg "len"=none
 Kg:mg "list"=none
 fG:mg "range"=none
 Kh:mg "reversed"=none
 Kl:mg "str"=none
 Uv:mg "tuple"=none
 Bf:QC K mg "MOST_SIGNS" lO
 Yy:QC K mg "PIECES" IW
 V9:QC K mg "LETTERS" Cv
 NT:QC K mg "KEPT_WORDS" qI
 Km:QC K mg "MOST_LETTERS" gK
 Yz:QC K mg "JOINTS" QS
 Ko:GlT K w mg "TIGHTER" cO
 Rp:GlT K w mg "TIGHTNESS" fU
structure Fns [R0](Pr:Program)(w:World)(K:PySem.W.Frag)(mg:Str->Option Value)(base:Heap)(k:Nat)(f0 f1 f2 f3 f4 f5 f6 f7 f8 f9 rR f11 oE tY ou tZ rW rY t_ ud oA uf pK pL mj ug pJ uh um uo uq ur c0 c1 c2 c3 c4 c5 c6 fI:Addr)(e0 e1 e2 e3 e4 e5 e6 e7 e8 e9 e10 Am tR Ao Aq Ar Av Aw Ax Ay rK tV tW tX Az A_ tU Ba Bb Bc Bd wH eI:FuncData)(Γ:Z.dB):Prop where
 x0:aP Pr w K mg base (lM Pr w) (k+2) f0 e0 ["text","row"] (vd K Γ 0)
 x9:aP Pr w K mg base (lM Pr w) (k+2) f9 e9 ["line","row"] (vd K Γ 9)
 f0:aP Pr w K mg base bx (k+2) f0 e0 ["text","row"] (aW K Γ 0)
 f1:aP Pr w K mg base bx (k+2) f1 e1 ["text"] (aW K Γ 1)
 f2:aP Pr w K mg base bx (k+2) f2 e2 ["text","place"] (aW K Γ 2)
 f3:aP Pr w K mg base bx (k+2) f3 e3 ["text","place"] (aW K Γ 3)
 f4:aP Pr w K mg base bx (k+2) f4 e4 ["word"] (aW K Γ 4)
 f5:aP Pr w K mg base bx (k+2) f5 e5 ["tokens"] (aW K Γ 5)
 f6:aP Pr w K mg base bx (k+2) f6 e6 ["begun","whole","joints"] (aW K Γ 6)
 f7:aP Pr w K mg base bx (k+2) f7 e7 ["sentence"] (aW K Γ 7)
 f8:aP Pr w K mg base bx (k+2) f8 e8 ["sentence","least"] (aW K Γ 8)
 f9:aP Pr w K mg base bx (k+2) f9 e9 ["line","row"] (aW K Γ 9)
 rR:aP Pr w K mg base bx (k+2) rR e10 ["line"] (aW K Γ 10)
 f11:aP Pr w K mg base bx (k+2) f11 Am ["told"] (aW K Γ 11)
 oE:aP Pr w K mg base bx (k+2) oE tR ["cell","count"] (aW K Γ 12)
 tY:aP Pr w K mg base bx (k+2) tY Ao ["script","k"] (aW K Γ 13)
 ou:aP Pr w K mg base bx (k+2) ou Aq ["number","size"] (aW K Γ 14)
 tZ:aP Pr w K mg base bx (k+2) tZ Ar ["cell","size"] (aW K Γ 15)
 rW:aP Pr w K mg base bx (k+2) rW Av ["drawn","names"] (aW K Γ 16)
 rY:aP Pr w K mg base bx (k+2) rY Aw ["text","drawn"] (aW K Γ 17)
 t_:aP Pr w K mg base bx (k+2) t_ Ax ["text"] (aW K Γ 18)
 ud:aP Pr w K mg base bx (k+2) ud Ay ["tokens"] (aW K Γ 19)
 oA:aP Pr w K mg base bx (k+2) oA rK ["items"] (aW K Γ 20)
 uf:aP Pr w K mg base bx (k+2) uf tV ["text"] (aW K Γ 21)
 pK:aP Pr w K mg base bx (k+2) pK tW ["text"] (aW K Γ 22)
 pL:aP Pr w K mg base bx (k+2) pL tX ["found","due"] (aW K Γ 23)
 mj:aP Pr w K mg base bx (k+2) mj Az ["tree","under"] (aW K Γ 24)
 ug:aP Pr w K mg base bx (k+2) ug A_ ["cell","names"] (aW K Γ 25)
 pJ:aP Pr w K mg base bx (k+2) pJ tU ["first","then"] (aW K Γ 26)
 uh:aP Pr w K mg base bx (k+2) uh Ba ["line"] (aW K Γ 27)
 um:aP Pr w K mg base bx (k+2) um Bb ["line","how","place"] (aW K Γ 28)
 uo:aP Pr w K mg base bx (k+2) uo Bc ["due"] (aW K Γ 29)
 uq:aP Pr w K mg base bx (k+2) uq Bd ["line","how","place"] (aW K Γ 30)
 ur:aP Pr w K mg base bx (k+2) ur wH ["script"] (aW K Γ 31)
seal L2.PE L2.PT L2.PA L2.PS L2.mC L2.PW L2.PI L2.bO L2.Ss L2.eZ L2.mD L2.uY ZS.xR L2.Binds
section
variable {Pr:Program}{w:World}{K:PySem.W.Frag}{mg:Str->Option Value}{base:Heap}{k:Nat}{f0 f1 f2 f3 f4 f5 f6 f7 f8 f9 rR f11 oE tY ou tZ rW rY t_ ud oA uf pK pL mj ug pJ uh um uo uq ur c0 c1 c2 c3 c4 c5 c6 fI:Addr}{e0 e1 e2 e3 e4 e5 e6 e7 e8 e9 e10 Am tR Ao Aq Ar Av Aw Ax Ay rK tV tW tX Az A_ tU Ba Bb Bc Bd wH eI:FuncData}
theorem Mf:aY ["text","row","tokens","sentence"] ["text","row"] (aC (top 17)):=cu (by decide+kernel)
theorem Rq:aY ["text","tokens","place","piece"] ["text"] (aC (top 18)):=cu (by decide+kernel)
theorem aaG:aY ["text","place","piece","word"] ["text","place"] (aC (top 19)):=cu (by decide+kernel)
theorem ahL:aY ["text","place"] ["text","place"] (aC (top 20)):=cu (by decide+kernel)
theorem anP:aY ["word"] ["word"] (aC (top 21)):=cu (by decide+kernel)
theorem xP:aY ["tokens","begun","whole","token","stands_behind"] ["tokens"] (aC (top 22)):=cu (by decide+kernel)
theorem ahM:aY ["begun","whole","joints"] ["begun","whole","joints"] (aC (top 23)):=cu (by decide+kernel)
theorem anQ:aY ["sentence"] ["sentence"] (aC (top 24)):=cu (by decide+kernel)
theorem Fo:aY ["sentence","least","kind","tightness","text","left","right"] ["sentence","least"] (aC (top 25)):=cu (by decide+kernel)
theorem Mg:aY ["line","row","texts","first"] ["line","row"] (aC (top 27)):=cu (by decide+kernel)
theorem O6:aY ["line","words","others","middle"] ["line"] (aC (top 28)):=cu (by decide+kernel)
theorem V_:aY ["told","first","second"] ["told"] (aC (top 29)):=cu (by decide+kernel)
theorem Kp:aY ["cell","count","number","drawn","k"] ["cell","count"] (aC (top 31)):=cu (by decide+kernel)
theorem ake:aY ["script","k"] ["script","k"] (aC (top 32)):=cu (by decide+kernel)
theorem GD:aY ["number","size","letters","name","k"] ["number","size"] (aC (top 33)):=cu (by decide+kernel)
theorem iV:aY ["cell","size","letters","some","drawn","base","at","names","k","name","sign"] ["cell","size"] (aC (top 34)):=cu (by decide+kernel)
theorem ig:aY ["drawn","names","size","opened","shut","k","one","other","text","name"] ["drawn","names"] (aC (top 35)):=cu (by decide+kernel)
theorem nq:aY ["text","drawn","some","signs","k","at","new","behind"] ["text","drawn"] (aC (top 36)):=cu (by decide+kernel)
theorem Wa:aY ["text","tokens","sign"] ["text"] (aC (top 38)):=cu (by decide+kernel)
theorem Kq:aY ["tokens","rimmed","k","ahead","behind"] ["tokens"] (aC (top 39)):=cu (by decide+kernel)
theorem nA:aY ["items","back","item","k","terms","tree","term"] ["items"] (aC (top 40)):=cu (by decide+kernel)
theorem abI:aY ["text","sign"] ["text"] (aC (top 41)):=cu (by decide+kernel)
theorem GF:aY ["text","tokens","stack","token","tree"] ["text"] (aC (top 42)):=cu (by decide+kernel)
theorem abJ:aY ["found","due","k"] ["found","due"] (aC (top 43)):=cu (by decide+kernel)
theorem GJ:aY ["tree","under","level","word","text"] ["tree","under"] (aC (top 44)):=cu (by decide+kernel)
theorem j4:aY ["cell","names","drawn","odd","some","deep","which","words","at","new"] ["cell","names"] (aC (top 45)):=cu (by decide+kernel)
theorem Wb:aY ["first","then","one","other"] ["first","then"] (aC (top 46)):=cu (by decide+kernel)
theorem O7:aY ["line","words","tree","ends"] ["line"] (aC (top 47)):=cu (by decide+kernel)
theorem mz:aY ["line","how","place","kinds","at","found","e"] ["line","how","place"] (aC (top 48)):=cu (by decide+kernel)
theorem akf:aY ["due"] ["due"] (aC (top 49)):=cu (by decide+kernel)
theorem Kr:aY ["line","how","place","due","kinds","at","found","text"] ["line","how","place"] (aC (top 50)):=cu (by decide+kernel)
theorem Ks:aY ["script","names","cell","drawn","place"] ["script"] (aC (top 51)):=cu (by decide+kernel)
theorem anR:aY ["self","row"] ["self","row"] (aC (inner 2 0)):=cu (by decide+kernel)
theorem Rt [R0]{X:Cx}{mg':Str->Option Value}{w':World}{C f0 f1 f2 f3 f4 f5 f6 f7 f8 f9 rR f11 oE tY ou tZ rW rY t_ ud oA uf pK pL mj ug pJ uh um uo uq ur c0 c1 c2 c3 c4 c5 c6 fI:Addr}{e0 e1 e2 e3 e4 e5 e6 e7 e8 e9 e10 Am tR Ao Aq Ar Av Aw Ax Ay rK tV tW tX Az A_ tU Ba Bb Bc Bd wH eI:FuncData}{k:Nat}(T:Txt X.K w' mg' f0 f1 f2 f3 f4 f5 f6 f7 f8 f9 rR f11 oE tY ou tZ rW rY t_ ud oA uf pK pL mj ug pJ uh um uo uq ur c0 c1 c2 c3 c4 c5 c6 fI e0 e1 e2 e3 e4 e5 e6 e7 e8 e9 e10 Am tR Ao Aq Ar Av Aw Ax Ay rK tV tW tX Az A_ tU Ba Bb Bc Bd wH eI)(q:XQ X.K fI C):Vl X (k+1) fI eI C:=af2 T.uI anR rfl (Or.inl rfl) (Or.inl rfl) (λ_ _=>rfl) q.r T.nI T.gI q.k
section
variable [r0:R0](T:Txt K w mg f0 f1 f2 f3 f4 f5 f6 f7 f8 f9 rR f11 oE tY ou tZ rW rY t_ ud oA uf pK pL mj ug pJ uh um uo uq ur c0 c1 c2 c3 c4 c5 c6 fI e0 e1 e2 e3 e4 e5 e6 e7 e8 e9 e10 Am tR Ao Aq Ar Av Aw Ax Ay rK tV tW tX Az A_ tU Ba Bb Bc Bd wH eI)(FA:∀r:R0,@Fns r Pr w K mg base k f0 f1 f2 f3 f4 f5 f6 f7 f8 f9 rR f11 oE tY ou tZ rW rY t_ ud oA uf pK pL mj ug pJ uh um uo uq ur c0 c1 c2 c3 c4 c5 c6 fI e0 e1 e2 e3 e4 e5 e6 e7 e8 e9 e10 Am tR Ao Aq Ar Av Aw Ax Ay rK tV tW tX Az A_ tU Ba Bb Bc Bd wH eI (Z.au sb P k))
include T FA
local macro_rules
 | `(#[$a,*])=>do
  let mut r <-`(gG)
  for x in a.getElems.reverse do r <-`(aiS $x $r)
  return r
local macro_rules
 | `(%[$a,*|$z])=>do
  let mut r:=z
  for x in a.getElems.reverse do r <-`(Zx $x $r)
  return r
theorem d_0:aP Pr w K mg base bx (k+3) f0 e0 ["text","row"] (aW K (Z.au sb P (k+1)) 0):=
 have F:=FA r0
 QK T.u0 Mf rfl rfl rfl λcdv A outer s H E E' hr=>
  %[aN (aF (dh rfl) BZ (bW cD T.cF bY #[zv 0]) (QD T.Bf) rfl) %[IV T.mc3 T.pO.k (zv 1)|aj] aj,aH 2 Mf.nd (bU hr F.f1 T.u1 #[zv 0]),aH 3 Mf.nd (BW (k_ (sJ rfl) pY (zv 2) rfl) zn (bU hr F.f5 T.u5 #[zv 2])),aN (k_ (sJ rfl) pY (zv 3) rfl) %[IV T.mc4 T.pP.k (zv 1)|aj] aj,aG (zv 3)|aj]
theorem anS:aP Pr w K mg base (lM Pr w) (k+3) f0 e0 ["text","row"] (vd K (Z.au sb P (k+1)) 0):=
 have F:=FA r0
 Nj T.u0 Mf rfl rfl rfl λcdv A outer s H E E' hr hx=>
  %[aN (aF (dh rfl) BZ (bW cD T.cF bY #[zv 0]) (QD T.Bf) rfl) %[Lh hx rfl hr (Rt T T.pO) T.mc3 T.n3 (zv 1)|aj] aj,aH 2 Mf.nd (bU hr F.f1 T.u1 #[zv 0]),aH 3 Mf.nd (BW (k_ (sJ rfl) pY (zv 2) rfl) zn (bU hr F.f5 T.u5 #[zv 2])),aN (k_ (sJ rfl) pY (zv 3) rfl) %[Lh hx rfl hr (Rt T T.pP) T.mc4 T.n4 (zv 1)|aj] aj,aG (zv 3)|aj]
theorem d_1:aP Pr w K mg base bx (k+3) f1 e1 ["text"] (aW K (Z.au sb P (k+1)) 1):=
 have F:=FA r0
 bR T.u1.u Rq rfl rfl rfl λcdv A outer s H E E' hr=>
  %[aH 1 Rq.nd (aV gG),aH 2 Rq.nd zi,(Ik PassesOwn.never (aF (dh rfl) wY (zv 2) (bW cD T.cF bY #[zv 0]) rfl) %[aH 3 Rq.nd (bU hr F.f2 T.u2 #[zv 0,zv 2]),aN (k_ (sJ rfl) pY (zv 3) rfl) %[aG zn|aj] aj,(fX (cX (m:=.list) plainAttrs_list PySem.F.slot_list_append PySem.F.type_list_append c7 (zv 1) #[(cX (m:=.str) plainAttrs_str PySem.F.slot_str_strip PySem.F.type_str_strip m_strip (zv 3) #[zt])])),afO 2 Rq.nd (bW cD T.cF bY #[zv 3])|aj]),aG (zv 1)|aj]
theorem d_2:aP Pr w K mg base bx (k+3) f2 e2 ["text","place"] (aW K (Z.au sb P (k+1)) 2):=
 have F:=FA r0
 bR T.u2.u aaG rfl rfl rfl λcdv A outer s H E E' hr=>
  %[(iQ 2 PassesOwn.never rfl aaG.nd (BX (QD T.Yy)) %[(aN (d_ (cX (m:=.str) plainAttrs_str PySem.F.slot_str_startswith PySem.F.type_str_startswith Xr (zv 0) #[zv 2,zv 1])) %[aG (zv 2)|aj] aj)|aj]),aH 3 aaG.nd (Ld (zv 0) (zv 1) (bU hr F.f3 T.u3 #[zv 0,zv 1])),aG (BW (d_ (bU hr F.f4 T.u4 #[zv 3])) (zv 3) zn)|aj]
theorem d_3:aP Pr w K mg base bx (k+3) f3 e3 ["text","place"] (aW K (Z.au sb P (k+1)) 3):=
 have F:=FA r0
 bR T.u3.u ahL rfl rfl rfl λcdv A outer s H E E' hr=>
  %[Ik PassesOwn.never (PW.pt (nD (aF (dh rfl) wY (zv 1) (bW cD T.cF bY #[zv 0]) rfl) (lg (aF (Gg (.inl rfl)) Oj (aQ hr (zv 0) (zv 1)) (QD T.V9) rfl)))) %[afO 1 ahL.nd zi|aj],aG (zv 1)|aj]
theorem d_4:aP Pr w K mg base bx (k+3) f4 e4 ["word"] (aW K (Z.au sb P (k+1)) 4):=
 have F:=FA r0
 bR T.u4.u anP rfl rfl rfl λcdv A outer s H E E' hr=>
  %[aG (Qe (Zv ZD ZD zi (bW cD T.cF bY #[zv 0]) (QD T.Km) rfl) (Qf (uZ (FZ (zu hr)) (zv 0) (QD T.NT) rfl)))|aj]
theorem d_5:aP Pr w K mg base bx (k+3) f5 e5 ["tokens"] (aW K (Z.au sb P (k+1)) 5):=
 have F:=FA r0
 bR T.u5.u xP rfl rfl rfl λcdv A outer s H E E' hr=>
  %[aH 1 xP.nd (aV gG),aH 2 xP.nd zn,(iQ 3 PassesOwn.never rfl xP.nd (BX (zv 0)) %[aH 4 xP.nd (anf T.Ko (zv 3)),aN (aF (aX rfl) (cg (zu hr)) (zv 4) (le_none pY (zv 2) rfl) rfl) %[aG zn|aj] aj,aN (d_ (zv 4)) %[aH 2 xP.nd (bU hr F.f6 T.u6 #[zv 1,zv 2,abj T.Ko (zv 3)])|aj] aj,(aN (aF (aX rfl) (cg (zu hr)) (zv 3) zt rfl) %[aN (jJ (d_ (zv 1))) %[aG zn|aj] aj,(fX (Gb (m:=.list) plainAttrs_list slot_list_pop type_list_pop Ga (zv 1)))|aj] %[(aN (d_ (zv 4)) %[(fX (cX (m:=.list) plainAttrs_list PySem.F.slot_list_append PySem.F.type_list_append c7 (zv 1) #[cT #[zv 3,zv 2]])),aH 2 xP.nd zn|aj] %[(aN (PW.pt (fj (aF (aX rfl) (cg (zu hr)) (zv 3) zt rfl) (eF (aF (aX rfl) (cg (zu hr)) (zv 3) zt rfl)))) %[(fX (cX (m:=.list) plainAttrs_list PySem.F.slot_list_append PySem.F.type_list_append c7 (zv 1) #[cT #[zv 3]]))|aj] %[aH 2 xP.nd (cT #[zt,zv 3])|aj])|aj])|aj])|aj]),aN (k_ (sJ rfl) pY (zv 2) rfl) %[aG zn|aj] aj,aH 2 xP.nd (bU hr F.f6 T.u6 #[zv 1,zv 2,QD T.Yz]),aG (BW (d_ (zv 1)) zn (zv 2))|aj]
theorem d_6:aP Pr w K mg base bx (k+3) f6 e6 ["begun","whole","joints"] (aW K (Z.au sb P (k+1)) 6):=
 have F:=FA r0
 bR T.u6.u ahM rfl rfl rfl λcdv A outer s H E E' hr=>
  %[(Ik PassesOwn.never (PW.pt (nD (d_ (zv 0)) (lg (aF (lK rfl) (K_ (zu hr)) (aQ hr (aQ hr (zv 0) (pW pX zi)) zi) (zv 2) rfl)))) %[(aH 1 ahM.nd (aA aO (Gb (m:=.list) plainAttrs_list slot_list_pop type_list_pop Ga (zv 0)) (cT #[zv 1])))|aj]),aG (zv 1)|aj]
theorem d_7:aP Pr w K mg base bx (k+3) f7 e7 ["sentence"] (aW K (Z.au sb P (k+1)) 7):=
 have F:=FA r0
 bR T.u7.u anQ rfl rfl rfl λcdv A outer s H E E' hr=>
  %[aG (bU hr F.f8 T.u8 #[zv 0,zi])|aj]
theorem d_8:aP Pr w K mg base bx (k+3) f8 e8 ["sentence","least"] (aW K (Z.au sb P (k+1)) 8):=
 have F:=FA r0
 bR T.u8.u Fo rfl rfl rfl λcdv A outer s H E E' hr=>
  %[aH 2 Fo.nd (aQ hr (zv 0) zi),aH 3 Fo.nd (abj T.Rp (zv 2)),(aN (aF (aX rfl) (cg (zu hr)) (zv 2) zt rfl) %[aH 4 Fo.nd (aQ hr (zv 0) zi)|aj] %[(aN (aF (aX rfl) (cg (zu hr)) (zv 2) zt rfl) %[aH 4 Fo.nd (aA aO zt (bU hr F.f8 T.u8 #[aQ hr (zv 0) zi,zv 3]))|aj] %[aH 5 Fo.nd (bU hr F.f8 T.u8 #[aQ hr (zv 0) zi,zv 3]),aH 6 Fo.nd (bU hr F.f8 T.u8 #[aQ hr (zv 0) zi,aA aO (zv 3) zi]),(aH 4 Fo.nd (zfs (es:=[(.var 5),(.lit (.str (Z.tx " "))),(.var 2),(.lit (.str (Z.tx " "))),(.var 6)]) (.cons (Iw (zv 5)) (.cons (Iv zt) (.cons (Iw (zv 2)) (.cons (Iv zt) (.cons (Iw (zv 6)) .nil)))))))|aj])|aj]),(aG (BW (aF (dh rfl) am5 (zv 3) (zv 1) rfl) (zv 4) (zfs (es:=[(.lit (.str (Z.tx "("))),(.var 4),(.lit (.str (Z.tx ")")))]) (.cons (Iv zt) (.cons (Iw (zv 4)) (.cons (Iv zt) .nil))))))|aj]
theorem d_9:aP Pr w K mg base bx (k+3) f9 e9 ["line","row"] (aW K (Z.au sb P (k+1)) 9):=
 have F:=FA r0
 QK T.u9 Mg rfl rfl rfl λcdv A outer s H E E' hr=>
  %[aH 2 Mg.nd (bU hr F.rR T.u10 #[zv 0]),aN (PW.pt (fj (jJ (d_ (zv 2))) (eF (aF (Gg (.inl rfl)) Oj zt (zv 0) rfl)))) %[IV T.mc2 T.pN.k (zv 1)|aj] aj,aH 3 Mg.nd (Tf hr F.f0 T.m0 T.k0 T.g0 #[aQ hr (zv 2) zi,zv 1]),aN (aF (aX rfl) (cg (zu hr)) (bW cD T.cF bY #[zv 2]) zi rfl) %[aG (cT #[zt,zv 3])|aj] aj,aG (cT #[zt,zv 3,Tf hr F.f0 T.m0 T.k0 T.g0 #[aQ hr (zv 2) zi,zv 1]])|aj]
theorem anT:aP Pr w K mg base (lM Pr w) (k+3) f9 e9 ["line","row"] (vd K (Z.au sb P (k+1)) 9):=
 have F:=FA r0
 Nj T.u9 Mg rfl rfl rfl λcdv A outer s H E E' hr hx=>
  %[aH 2 Mg.nd (bU hr F.rR T.u10 #[zv 0]),aN (PW.pt (fj (jJ (d_ (zv 2))) (eF (aF (Gg (.inl rfl)) Oj zt (zv 0) rfl)))) %[Lh hx rfl hr (Rt T T.pN) T.mc2 T.n2 (zv 1)|aj] aj,aH 3 Mg.nd (Xo hx rfl hr F.x0 T.m0 T.k0 T.g0 #[aQ hr (zv 2) zi,zv 1]),aN (aF (aX rfl) (cg (zu hr)) (bW cD T.cF bY #[zv 2]) zi rfl) %[aG (cT #[zt,zv 3])|aj] aj,aG (cT #[zt,zv 3,Xo hx rfl hr F.x0 T.m0 T.k0 T.g0 #[aQ hr (zv 2) zi,zv 1]])|aj]
theorem anU:aP Pr w K mg base bx (k+3) rR e10 ["line"] (aW K (Z.au sb P (k+1)) 10):=
 have F:=FA r0
 bR T.u10.u O6 rfl rfl rfl λcdv A outer s H E E' hr=>
  %[(aH 1 O6.nd (cX (m:=.str) plainAttrs_str slot_str_split type_str_split m_split (zv 0) #[zt])),aH 2 O6.nd (nG (zv 1) zi),(aN (PW.pt (nD (aF (aX rfl) (cg (zu hr)) (aQ hr (zv 1) zi) zt rfl) (lg (d_ (zv 2))))) %[(aG (aV #[(cX (m:=.str) plainAttrs_str slot_str_join type_str_join qF zt #[zv 2])]))|aj] aj),(aN (PW.pt (nD (aF (aX rfl) (cg (zu hr)) (aQ hr (zv 1) zi) zt rfl) (lg (aF (aX rfl) (cg (zu hr)) (cX (m:=.list) plainAttrs_list slot_list_count PySem.F.type_list_count (acL (zu hr)) (zv 2) #[zt]) zi rfl)))) %[(aH 3 O6.nd (cX (m:=.list) plainAttrs_list PySem.F.slot_list_index PySem.F.type_list_index (ZV (zu hr)) (zv 2) #[zt])),(aN (lt_chain (dh rfl) wY wY zi (zv 3) (aA JD (bW cD T.cF bY #[zv 2]) zi) rfl) %[(aG (aV #[(cX (m:=.str) plainAttrs_str slot_str_join type_str_join qF zt #[JG (zv 2) (zv 3)]),(cX (m:=.str) plainAttrs_str slot_str_join type_str_join qF zt #[nG (zv 2) (aA aO (zv 3) zi)])]))|aj] aj)|aj] aj),aG (aV gG)|aj]
theorem anV:aP Pr w K mg base bx (k+3) f11 Am ["told"] (aW K (Z.au sb P (k+1)) 11):=
 have F:=FA r0
 bR T.u11.u V_ rfl rfl rfl λcdv A outer s H E E' hr=>
  %[aH 1 V_.nd (bU hr F.f7 T.u7 #[aQ hr (zv 0) zi]),(aN (aF (aX rfl) (cg (zu hr)) (aQ hr (zv 0) zi) zt rfl) %[(aG (zfs (es:=[(.lit (.str (Z.tx "always "))),(.var 1)]) (.cons (Iv zt) (.cons (Iw (zv 1)) .nil))))|aj] aj),aH 2 V_.nd (bU hr F.f7 T.u7 #[aQ hr (zv 0) zi]),(aG (zfs (es:=[(.lit (.str (Z.tx "where "))),(.var 1),(.lit (.str (Z.tx " usually "))),(.var 2)]) (.cons (Iv zt) (.cons (Iw (zv 1)) (.cons (Iv zt) (.cons (Iw (zv 2)) .nil))))))|aj]
theorem anW:aP Pr w K mg base bx (k+3) oE tR ["cell","count"] (aW K (Z.au sb P (k+1)) 12):=
 have F:=FA r0
 bR T.Yx.u Kp rfl rfl rfl λcdv A outer s H E E' hr=>
  %[aH 2 Kp.nd (aA aZ (aA sI (aA aO (aA aZ (zv 0) zi) zi) zi) zi),aH 3 Kp.nd (aV gG),(iQ 4 PassesOwn.never rfl Kp.nd (iJ rfl T.fG #[zv 1] rfl) %[aH 2 Kp.nd (aA aZ (aA sI (zv 2) zi) zi),(fX (cX (m:=.list) plainAttrs_list PySem.F.slot_list_append PySem.F.type_list_append c7 (zv 3) #[aA nF (zv 2) zi]))|aj]),aG (zv 3)|aj]
theorem anY:aP Pr w K mg base bx (k+3) tY Ao ["script","k"] (aW K (Z.au sb P (k+1)) 13):=
 have F:=FA r0
 bR T.u13.u ake rfl rfl rfl λcdv A outer s H E E' hr=>
  %[aN (aF (dh rfl) wY (zv 1) (bW cD T.cF bY #[zv 0]) rfl) %[aG (aQ hr (zv 0) (zv 1))|aj] aj,aG zi|aj]
theorem anZ:aP Pr w K mg base bx (k+3) ou Aq ["number","size"] (aW K (Z.au sb P (k+1)) 14):=
 have F:=FA r0
 bR T.u14.u GD rfl rfl rfl λcdv A outer s H E E' hr=>
  %[aH 2 GD.nd zt,aH 3 GD.nd zt,iQ 4 PassesOwn.never rfl GD.nd (iJ rfl T.fG #[zv 1] rfl) %[aH 0 GD.nd (aA aZ (aA aO (aA sI (zv 0) zi) zi) zi),aH 3 GD.nd (aA aO (zv 3) (aQ hr (zv 2) (aA aZ (aA nF (zv 0) zi) zi)))|aj],aG (zv 3)|aj]
theorem an1:aP Pr w K mg base bx (k+3) tZ Ar ["cell","size"] (aW K (Z.au sb P (k+1)) 15):=
 have F:=FA r0
 bR T.u15.u iV rfl rfl rfl λcdv A outer s H E E' hr=>
  %[aH 2 iV.nd zt,aH 3 iV.nd (aV #[zt,zt,zt,zt,zt,zt,zt,zt,zt,zt,zt,zt,zt,zt]),aH 3 iV.nd (aA aO (zv 3) (aV #[zt,zt])),aH 4 iV.nd (bU hr F.oE T.Yx #[zv 0,zi]),aH 5 iV.nd (bU hr F.ou T.u14 #[aQ hr (zv 4) zi,aA aO zi (aA aZ (aQ hr (zv 4) zi) zi)]),aH 6 iV.nd (aA aZ (aQ hr (zv 4) zi) (bW cD T.cF bY #[zv 5])),aH 7 iV.nd (aV gG),(iQ 8 PassesOwn.never rfl iV.nd (iJ rfl T.fG #[zv 1] rfl) %[aH 9 iV.nd (bU hr F.ou T.u14 #[aQ hr (zv 4) (aA aO zi (zv 8)),aA aO zi (aA aZ (aA nF (aQ hr (zv 4) (aA aO zi (zv 8))) zi) zi)]),aN (aF (dh rfl) wY (aA aZ (aQ hr (zv 4) zi) zi) zi rfl) %[aH 10 iV.nd (aQ hr (zv 2) (aA aZ (aA aO (aQ hr (zv 4) zi) (aA sI (zv 8) (aQ hr (aV #[zi,zi,zi,zi,zi,zi]) (aA aZ (aQ hr (zv 4) zi) zi)))) zi)),aH 9 iV.nd (aA aO (aA aO (JG (zv 5) (zv 6)) (zv 10)) (nG (zv 5) (aA aO (zv 6) zi)))|aj] aj,aN (aF (aX rfl) (cg (zu hr)) (aA aZ (aQ hr (zv 4) zi) zi) zi rfl) %[aH 9 iV.nd (aQ hr (zv 3) (aA aZ (aA aO (aQ hr (zv 4) zi) (aA sI zi (zv 8))) zi))|aj] aj,aN (aF (lK rfl) (K_ (zu hr)) (zv 9) (cT #[zt,zt,zt,zt,zt,zt]) rfl) %[aH 9 iV.nd (aA aO (zv 9) zt)|aj] aj,(aN (aF (lK rfl) (FZ (zu hr)) (zv 9) (zv 7) rfl) %[(fX (cX (m:=.list) plainAttrs_list PySem.F.slot_list_append PySem.F.type_list_append c7 (zv 7) #[zv 9]))|aj] aj)|aj]),aG (zv 7)|aj]
theorem an2:aP Pr w K mg base bx (k+3) rW Av ["drawn","names"] (aW K (Z.au sb P (k+1)) 16):=
 have F:=FA r0
 bR T.u16.u ig rfl rfl rfl λcdv A outer s H E E' hr=>
  %[aH 2 ig.nd (aA aO zi (aA aZ (aQ hr (zv 0) zi) zi)),aH 3 ig.nd (aA sI (aV #[zi]) (zv 2)),aH 4 ig.nd (aA sI (aV #[zi]) (zv 2)),iQ 5 PassesOwn.never rfl ig.nd (iJ rfl T.fG #[aA aZ (aQ hr (zv 0) zi) zi] rfl) %[aH 6 ig.nd (aA aZ (aQ hr (zv 0) (aA aO zi (zv 5))) (zv 2)),aH 7 ig.nd (aA aO (zv 6) (aA aZ (aQ hr (zv 0) (aA aO zi (zv 5))) (aA JD (zv 2) (zv 6)))),Gd hr (aA aO (aQ hr (zv 3) (zv 6)) zi) (zv 3) (zv 6),Gd hr (aA aO (aQ hr (zv 4) (zv 7)) zi) (zv 4) (zv 7)|aj],aH 8 ig.nd zt,iQ 5 PassesOwn.never rfl ig.nd (iJ rfl T.fG #[zv 2] rfl) %[aN (aF (dh rfl) BZ (zv 5) zi rfl) %[aH 8 ig.nd (aA aO (zv 8) (aQ hr (aV #[zt,zt]) (aA aZ (aQ hr (zv 0) (aA aO zi (zv 5))) zi)))|aj] aj,aH 8 ig.nd (aA aO (zv 8) (aA vh zt (aA nF (aA aZ (aQ hr (zv 0) (aA aO zi (zv 5))) zi) zi))),aH 8 ig.nd (aA aO (zv 8) (aA vh zt (aQ hr (zv 3) (zv 5)))),aH 9 ig.nd (aQ hr (zv 1) (aA aZ (aQ hr (zv 0) (aA aO zi (zv 5))) (bW cD T.cF bY #[zv 1]))),aH 8 ig.nd (aA aO (zv 8) (aA vh zt (aA nF (aA aZ (aQ hr (zv 0) (aA aO zi (zv 5))) zi) zi))),aH 8 ig.nd (aA aO (aA aO (zv 8) (zv 9)) (aA vh zt (aQ hr (zv 4) (zv 5))))|aj],aG (zv 8)|aj]
theorem an3:aP Pr w K mg base bx (k+3) rY Aw ["text","drawn"] (aW K (Z.au sb P (k+1)) 17):=
 have F:=FA r0
 bR T.u17.u nq rfl rfl rfl λcdv A outer s H E E' hr=>
  %[aH 2 nq.nd (aV #[zt,zt,zt,zt,zt,zt,zt,zt,zt,zt,zt,zt]),aH 3 nq.nd zt,aH 3 nq.nd (aA aO (zv 3) zt),iQ 4 PassesOwn.never rfl nq.nd (iJ rfl T.fG #[aA sI (aA nF (aA aZ (aQ hr (zv 1) zi) zi) zi) (aA aO zi (aA aZ (aQ hr (zv 1) zi) zi))] rfl) %[aH 5 nq.nd (aA aZ (aQ hr (zv 1) (aA aO zi (zv 4))) (aA aO (bW cD T.cF bY #[zv 0]) zi)),aH 6 nq.nd (aQ hr (aV #[aQ hr (zv 2) (aA aZ (aQ hr (zv 1) (aA aO zi (zv 4))) zi),zt]) (aA aZ (aQ hr (zv 1) (aA aO zi (zv 4))) zi)),aN (aF (aX rfl) (cg (zu hr)) (aA aZ (aQ hr (zv 1) (aA aO zi (zv 4))) zi) zi rfl) %[aH 6 nq.nd (aQ hr (zv 3) (aA aZ (aQ hr (zv 1) (aA aO zi (zv 4))) zi))|aj] aj,aH 7 nq.nd (nG (zv 0) (aA aO (zv 5) (aA aZ (aQ hr (zv 1) (aA aO zi (zv 4))) zi))),aH 0 nq.nd (aA aO (aA aO (JG (zv 0) (zv 5)) (zv 6)) (zv 7))|aj],aG (zv 0)|aj]
theorem an4:aP Pr w K mg base bx (k+3) t_ Ax ["text"] (aW K (Z.au sb P (k+1)) 18):=
 have F:=FA r0
 bR T.u18.u Wa rfl rfl rfl λcdv A outer s H E E' hr=>
  %[aH 1 Wa.nd (aV gG),(iQ 2 PassesOwn.never rfl Wa.nd (XC (zv 0)) %[(aN (PW.pt (fj (aF (Gg (.inl rfl)) Oj (zv 2) zt rfl) (fj (aF (aX rfl) (cg (zu hr)) (bW cD T.cF bY #[zv 1]) zi rfl) (eF (aF (lK rfl) (K_ (zu hr)) (aQ hr (zv 1) (pW pX zi)) (cT #[zt,zt,zt]) rfl))))) %[(fX (cX (m:=.list) plainAttrs_list PySem.F.slot_list_append PySem.F.type_list_append c7 (zv 1) #[zv 2]))|aj] %[Gd hr (aA aO (aQ hr (zv 1) (pW pX zi)) (zv 2)) (zv 1) (pW pX zi)|aj])|aj]),aG (zv 1)|aj]
theorem an5:aP Pr w K mg base bx (k+3) ud Ay ["tokens"] (aW K (Z.au sb P (k+1)) 19):=
 have F:=FA r0
 bR T.u19.u Kq rfl rfl rfl λcdv A outer s H E E' hr=>
  %[aH 1 Kq.nd (aA aO (aA aO (aV #[zt]) (zv 0)) (aV #[zt])),iQ 2 PassesOwn.never rfl Kq.nd (iJ rfl T.fG #[bW cD T.cF bY #[zv 0]] rfl) %[aH 3 Kq.nd (aQ hr (zv 1) (zv 2)),aH 4 Kq.nd (aQ hr (zv 1) (aA aO (zv 2) zi)),aN (aF (aX rfl) (cg (zu hr)) (aQ hr (zv 0) (zv 2)) zt rfl) %[aN (PW.pt (fj (aF (aX rfl) (cg (zu hr)) (zv 3) zt rfl) (eF (aF (aX rfl) (cg (zu hr)) (zv 4) zt rfl)))) %[aG zb|aj] aj,aN (PW.pt (nD (aF (lK rfl) (FZ (zu hr)) (zv 3) (cT #[zt,zt,zt]) rfl) (lg (aF (lK rfl) (FZ (zu hr)) (zv 4) (cT #[zt,zt]) rfl)))) %[aG zb|aj] aj|aj] aj,aN (PW.pt (nD (aF (lK rfl) (K_ (zu hr)) (aQ hr (zv 0) (zv 2)) (cT #[zt,zt]) rfl) (lg (PW.pt (fj (aF (aX rfl) (qD (zu hr)) (zv 3) zt rfl) (eF (aF (aX rfl) (qD (zu hr)) (zv 4) zt rfl))))))) %[aG zb|aj] aj,aN (PW.pt (nD (aF (aX rfl) (cg (zu hr)) (aQ hr (zv 0) (zv 2)) zt rfl) (lg (aF (aX rfl) (qD (zu hr)) (zv 4) zt rfl)))) %[aG zb|aj] aj|aj],aG zb|aj]
theorem an6:aP Pr w K mg base bx (k+3) oA rK ["items"] (aW K (Z.au sb P (k+1)) 20):=
 have F:=FA r0
 bR T.u20.u nA rfl rfl rfl λcdv A outer s H E E' hr=>
  %[aH 1 nA.nd (aV gG),(iQ 2 PassesOwn.never rfl nA.nd (ac1 rfl T.Kh #[zv 0]) %[(aN (aF (aX rfl) (cg (zu hr)) (zv 2) zt rfl) %[(aN (PW.pt (fj (aF (aX rfl) (cg (zu hr)) (bW cD T.cF bY #[zv 1]) zi rfl) (eF (d_ (oJ (k:=.str) T.bV T.Kl Cd (aQ hr (zv 1) (pW pX zi))))))) %[aG zn|aj] aj),(fX (cX (m:=.list) plainAttrs_list PySem.F.slot_list_append PySem.F.type_list_append c7 (zv 1) #[(cT #[zt,(Gb (m:=.list) plainAttrs_list slot_list_pop type_list_pop Ga (zv 1))])]))|aj] %[(fX (cX (m:=.list) plainAttrs_list PySem.F.slot_list_append PySem.F.type_list_append c7 (zv 1) #[zv 2]))|aj])|aj]),aH 0 nA.nd (aiY T.Kg T.Kh #[zv 1]),(iQ 3 PassesOwn.never rfl nA.nd (iJ rfl T.fG #[bW cD T.cF bY #[zv 0]] rfl) %[(aN (aF (aX rfl) (qD (zu hr)) (oJ (k:=.str) T.bV T.Kl Cd (aQ hr (zv 0) (zv 3))) (uZ (cg (zu hr)) (aA aZ (zv 3) zi) zi rfl) rfl) %[aG zn|aj] aj)|aj]),aN (aF (aX rfl) (cg (zu hr)) (aA aZ (bW cD T.cF bY #[zv 0]) zi) zi rfl) %[aG zn|aj] aj,aH 4 nA.nd (aV #[aQ hr (zv 0) zi]),(iQ 3 PassesOwn.never rfl nA.nd (acK rfl T.fG #[zi,bW cD T.cF bY #[zv 0],zi]) %[(aN (aF (aX rfl) (cg (zu hr)) (aQ hr (zv 0) (zv 3)) zt rfl) %[(fX (cX (m:=.list) plainAttrs_list PySem.F.slot_list_append PySem.F.type_list_append c7 (zv 4) #[(cT #[zt,(Gb (m:=.list) plainAttrs_list slot_list_pop type_list_pop Ga (zv 4)),aQ hr (zv 0) (aA aO (zv 3) zi)])]))|aj] %[(fX (cX (m:=.list) plainAttrs_list PySem.F.slot_list_append PySem.F.type_list_append c7 (zv 4) #[aQ hr (zv 0) (aA aO (zv 3) zi)]))|aj])|aj]),aH 5 nA.nd (aQ hr (zv 4) zi),iQ 6 PassesOwn.never rfl nA.nd (BX (nG (zv 4) zi)) %[aH 5 nA.nd (cT #[zt,zv 5,zv 6])|aj],aG (zv 5)|aj]
theorem an7:aP Pr w K mg base bx (k+3) uf tV ["text"] (aW K (Z.au sb P (k+1)) 21):=
 have F:=FA r0
 bR T.u21.u abI rfl rfl rfl λcdv A outer s H E E' hr=>
  %[aN (aF (lK rfl) (K_ (zu hr)) (zv 0) (cT #[zt,zt,zt]) rfl) %[aG zb|aj] aj,iQ 1 PassesOwn.never rfl abI.nd (XC (zv 0)) %[aN (aF aaj af3 (zv 1) zt rfl) %[aG zb|aj] aj|aj],aG (uZ ZD (bW cD T.cF bY #[zv 0]) zi rfl)|aj]
theorem an8:aP Pr w K mg base bx (k+3) pK tW ["text"] (aW K (Z.au sb P (k+1)) 22):=
 have F:=FA r0
 bR T.u22.u GF rfl rfl rfl λcdv A outer s H E E' hr=>
  %[aH 1 GF.nd (bU hr F.t_ T.u18 #[zv 0]),aN (aF (dh rfl) BZ (bW cD T.cF bY #[zv 0]) zi rfl) %[aG (aV #[zi])|aj] aj,aN (jJ (d_ (bU hr F.ud T.u19 #[zv 1]))) %[aG (aV #[zi])|aj] aj,aH 2 GF.nd (aV #[aV gG]),(iQ 3 PassesOwn.never rfl GF.nd (BX (zv 1)) %[(aN (aF (aX rfl) (cg (zu hr)) (zv 3) zt rfl) %[(fX (cX (m:=.list) plainAttrs_list PySem.F.slot_list_append PySem.F.type_list_append c7 (zv 2) #[aV gG]))|aj] %[(aN (aF (aX rfl) (cg (zu hr)) (zv 3) zt rfl) %[(aH 4 GF.nd (bU hr F.oA T.u20 #[(Gb (m:=.list) plainAttrs_list slot_list_pop type_list_pop Ga (zv 2))])),aN (PW.pt (fj (k_ (sJ rfl) pY (zv 4) rfl) (eF (aF (aX rfl) (cg (zu hr)) (bW cD T.cF bY #[zv 2]) zi rfl)))) %[aG (aV #[zi])|aj] aj,(fX (cX (m:=.list) plainAttrs_list PySem.F.slot_list_append PySem.F.type_list_append c7 (aQ hr (zv 2) (pW pX zi)) #[zv 4]))|aj] %[(aN (aF (lK rfl) (K_ (zu hr)) (zv 3) (cT #[zt,zt,zt]) rfl) %[(fX (cX (m:=.list) plainAttrs_list PySem.F.slot_list_append PySem.F.type_list_append c7 (aQ hr (zv 2) (pW pX zi)) #[zv 3]))|aj] %[(aN (aF (aX rfl) (qD (zu hr)) (zv 3) zt rfl) %[aN (jJ (d_ (bU hr F.uf T.u21 #[zv 3]))) %[aG (aV #[zi])|aj] aj,(fX (cX (m:=.list) plainAttrs_list PySem.F.slot_list_append PySem.F.type_list_append c7 (aQ hr (zv 2) (pW pX zi)) #[cT #[zt,zv 3]]))|aj] aj)|aj])|aj])|aj])|aj]),(aH 4 GF.nd (bU hr F.oA T.u20 #[(Gb (m:=.list) plainAttrs_list slot_list_pop type_list_pop Ga (zv 2))])),aN (PW.pt (fj (k_ (sJ rfl) pY (zv 4) rfl) (eF (aF (dh rfl) BZ (bW cD T.cF bY #[zv 2]) zi rfl)))) %[aG (aV #[zi])|aj] aj,aG (zv 4)|aj]
theorem an_:aP Pr w K mg base bx (k+3) pL tX ["found","due"] (aW K (Z.au sb P (k+1)) 23):=
 have F:=FA r0
 bR T.u23.u abJ rfl rfl rfl λcdv A outer s H E E' hr=>
  %[(aN (d_ (oJ (k:=.str) T.bV T.Kl Cd (zv 1))) %[(aG (Qe (oJ (k:=.str) T.bV T.Kl Cd (zv 0)) (Qf (uZ (cg (zu hr)) (zv 0) (zv 1) rfl))))|aj] aj),(aN (PW.pt (fj (jJ (d_ (oJ (k:=.tuple) T.bV T.Uv Qu (zv 0)))) (eF (aF (aX rfl) (qD (zu hr)) (bW cD T.cF bY #[zv 0]) (bW cD T.cF bY #[zv 1]) rfl)))) %[aG zb|aj] aj),iQ 2 PassesOwn.never rfl abJ.nd (iJ rfl T.fG #[bW cD T.cF bY #[zv 1]] rfl) %[aN (jJ (d_ (bU hr F.pL T.u23 #[aQ hr (zv 0) (zv 2),aQ hr (zv 1) (zv 2)]))) %[aG zb|aj] aj|aj],aG zb|aj]
theorem aoa:aP Pr w K mg base bx (k+3) mj Az ["tree","under"] (aW K (Z.au sb P (k+1)) 24):=
 have F:=FA r0
 bR T.Ro.u GJ rfl rfl rfl λcdv A outer s H E E' hr=>
  %[aN (aF (aX rfl) (cg (zu hr)) (aQ hr (zv 0) zi) zt rfl) %[aG (aQ hr (zv 0) zi)|aj] aj,aN (aF (aX rfl) (cg (zu hr)) (aQ hr (zv 0) zi) zt rfl) %[aG (aA aO zt (bU hr F.mj T.Ro #[aQ hr (zv 0) zi,zi]))|aj] aj,aH 2 GJ.nd zi,aH 3 GJ.nd zt,aN (aF (aX rfl) (cg (zu hr)) (aQ hr (zv 0) zi) zt rfl) %[aH 2 GJ.nd zi,aH 3 GJ.nd zt|aj] aj,aH 4 GJ.nd (aA aO (aA aO (bU hr F.mj T.Ro #[aQ hr (zv 0) zi,zv 2]) (zv 3)) (bU hr F.mj T.Ro #[aQ hr (zv 0) zi,aA aO (zv 2) zi])),aN (aF (dh rfl) wY (zv 2) (zv 1) rfl) %[aG (aA aO (aA aO zt (zv 4)) zt)|aj] aj,aG (zv 4)|aj]
theorem aob:aP Pr w K mg base bx (k+3) ug A_ ["cell","names"] (aW K (Z.au sb P (k+1)) 25):=
 have F:=FA r0
 bR T.u25.u j4 rfl rfl rfl λcdv A outer s H E E' hr=>
  %[aH 2 j4.nd (bU hr F.oE T.Yx #[zv 0,zi]),aH 3 j4.nd (aV #[zt,zt,zt,zt,zt,zt,zt,zt]),aH 3 j4.nd (aA aO (zv 3) (aV #[zt,zt])),aN (aF (aX rfl) (cg (zu hr)) (aA aZ (aQ hr (zv 2) zi) zi) zi rfl) %[aG (aQ hr (zv 3) (aA aZ (aQ hr (zv 2) zi) zi))|aj] aj,aH 4 j4.nd (aV #[bU hr F.rW T.u16 #[zv 2,zv 1]]),(fX (cX (m:=.list) plainAttrs_list PySem.F.slot_list_append PySem.F.type_list_append c7 (zv 4) #[bU hr F.rW T.u16 #[bU hr F.oE T.Yx #[aA aO (aA nF (zv 0) zi) zi,zi],zv 1]])),aN (PW.pt (nD (aF (dh rfl) wY (aA aZ (aQ hr (zv 2) zi) zi) zi rfl) (lg (aF (aX rfl) (cg (zu hr)) (aA aZ (aA nF (aQ hr (zv 2) zi) zi) zi) zi rfl)))) %[Gd hr (bU hr F.rY T.u17 #[aQ hr (zv 4) (aA JD zi (aA aZ (aQ hr (zv 2) zi) zi)),aiV (zv 2) (pW pX zi) ana]) (zv 4) (aA JD zi (aA aZ (aQ hr (zv 2) zi) zi))|aj] aj,aN (aF (aX rfl) (cg (zu hr)) (aA aZ (aQ hr (zv 2) zi) zi) zi rfl) %[Gd hr (bU hr F.rY T.u17 #[aQ hr (zv 4) (aA aZ (aQ hr (zv 2) zi) zi),zv 2]) (zv 4) (aA aZ (aQ hr (zv 2) zi) zi)|aj] aj,aN (aF (aX rfl) (cg (zu hr)) (aA aZ (aQ hr (zv 2) zi) zi) zi rfl) %[aH 5 j4.nd (aA aZ (aQ hr (zv 2) zi) zi),aH 6 j4.nd (aA aZ (aQ hr (zv 2) zi) zi),Gd hr (aA aO (aA aO (aA vh zt (zv 5)) (aQ hr (zv 4) (zv 6))) (aA vh zt (zv 5))) (zv 4) (zv 6)|aj] aj,(aH 7 j4.nd (aA aO (aV #[zt]) (cX (m:=.str) plainAttrs_str slot_str_split type_str_split m_split (aQ hr (zv 4) zi) #[zt]))),(aN (aF (dh rfl) BZ (aA aZ (aQ hr (zv 2) zi) zi) zi rfl) %[(aH 7 j4.nd (aA aO (aA aO (aA aO (aV #[zt]) (cX (m:=.str) plainAttrs_str slot_str_split type_str_split m_split (aQ hr (zv 4) zi) #[zt])) (aV #[zt])) (cX (m:=.str) plainAttrs_str slot_str_split type_str_split m_split (aQ hr (zv 4) zi) #[zt])))|aj] aj),(aN (aF (dh rfl) BZ (aA aZ (aQ hr (zv 2) zi) zi) zi rfl) %[aH 8 j4.nd (aA aZ (aQ hr (zv 2) zi) (aA aO (bW cD T.cF bY #[zv 7]) zi)),aH 9 j4.nd (aV #[zt,zt,zt,zt,zt,zt,aQ hr (zv 1) zi,zt]),aH 9 j4.nd (aQ hr (aV #[aV #[aQ hr (zv 9) (aA aZ (aQ hr (zv 2) zi) zi)],aV gG]) (aA aZ (aQ hr (zv 2) zi) zi)),(aG (cX (m:=.str) plainAttrs_str slot_str_join type_str_join qF zt #[aA aO (aA aO (JG (zv 7) (zv 8)) (zv 9)) (nG (zv 7) (aA aO (zv 8) (aA aZ (aQ hr (zv 2) zi) zi)))]))|aj] aj),(aG (cX (m:=.str) plainAttrs_str slot_str_join type_str_join qF zt #[zv 7]))|aj]
theorem aoc:aP Pr w K mg base bx (k+3) pJ tU ["first","then"] (aW K (Z.au sb P (k+1)) 26):=
 have F:=FA r0
 bR T.u26.u Wb rfl rfl rfl λcdv A outer s H E E' hr=>
  %[aH 2 Wb.nd (bU hr F.pK T.u22 #[zv 0]),(aN (d_ (oJ (k:=.list) T.bV T.Kg Ge (zv 2))) %[aG (zv 2)|aj] aj),aH 3 Wb.nd (bU hr F.pK T.u22 #[zv 1]),(aN (d_ (oJ (k:=.list) T.bV T.Kg Ge (zv 3))) %[aG (zv 3)|aj] aj),aG (cT #[zt,zv 2,zv 3])|aj]
theorem aod:aP Pr w K mg base bx (k+3) uh Ba ["line"] (aW K (Z.au sb P (k+1)) 27):=
 have F:=FA r0
 bR T.u27.u O7 rfl rfl rfl λcdv A outer s H E E' hr=>
  %[(aH 1 O7.nd (cX (m:=.str) plainAttrs_str slot_str_split type_str_split m_split (zv 0) #[zt])),(aN (PW.pt (fj (aF (dh rfl) BZ (cX (m:=.str) plainAttrs_str PySem.F.slot_str_count PySem.F.type_str_count aan (zv 0) #[zt]) zi rfl) (eF (aF (dh rfl) wY (bW cD T.cF bY #[zv 1]) zi rfl)))) %[aG (aV #[zi])|aj] aj),(aN (aF (aX rfl) (cg (zu hr)) (aQ hr (zv 1) zi) zt rfl) %[aH 2 O7.nd (bU hr F.pK T.u22 #[nG (zv 0) zi]),(aN (d_ (oJ (k:=.list) T.bV T.Kg Ge (zv 2))) %[aG (zv 2)|aj] aj),aG (cT #[zt,zv 2])|aj] aj),(afA 3 O7.nd ["line","words","tree","ends"] ["line","words","tree","ends"] (aC (top 47)) rfl (acr rfl T.fG #[zi,bW cD T.cF bY #[zv 1]] rfl rfl) (λ_ _ _ _=>afy (aF (aX rfl) (cg (zu hr)) (aQ hr (zv 1) (zv 4)) zt rfl)) (λ_ _ _ _=>(zv 4))),aN (PW.pt (fj (aF (aX rfl) (qD (zu hr)) (aQ hr (zv 1) zi) zt rfl) (fj (aF (aX rfl) (qD (zu hr)) (bW cD T.cF bY #[zv 3]) zi rfl) (fj (aF (aX rfl) (cg (zu hr)) (aQ hr (zv 3) zi) zi rfl) (eF (aF (aX rfl) (cg (zu hr)) (aQ hr (zv 3) zi) (aA JD (bW cD T.cF bY #[zv 1]) zi) rfl)))))) %[aG (aV #[zi])|aj] aj,(aG (bU hr F.pJ T.u26 #[(cX (m:=.str) plainAttrs_str slot_str_join type_str_join qF zt #[Ld (zv 1) zi (aQ hr (zv 3) zi)]),(cX (m:=.str) plainAttrs_str slot_str_join type_str_join qF zt #[nG (zv 1) (aA aO (aQ hr (zv 3) zi) zi)])]))|aj]
theorem aoe:aP Pr w K mg base bx (k+3) um Bb ["line","how","place"] (aW K (Z.au sb P (k+1)) 28):=
 have F:=FA r0
 bR T.u28.u mz rfl rfl rfl λcdv A outer s H E E' hr=>
  %[aH 3 mz.nd (aV gG),aH 4 mz.nd zi,aH 5 mz.nd zn,(ai1 5 6 (abn (aF (aX rfl) (cg (zu hr)) (zv 1) zi rfl) (aaf 5 hr (λr=>(FA r).x9) T.m9 T.k9 T.gd9 mz.nd #[zv 0]) (abn (aF (aX rfl) (cg (zu hr)) (zv 1) zi rfl) (acZ 5 hr (λr=>(FA r).x9) T.m9 T.k9 T.g9 mz.nd #[zv 0,zv 2]) (aag 5 hr (λr=>(FA r).x9) T.m9 T.k9 T.gk9 mz.nd #[zv 0] (zv 2)))) mz.nd rfl rfl rfl T.mc1 T.ca0 (λ_ _=>%[aH 3 mz.nd (aV #[Qz T.bV T.mc2 T.ir2 (zv 6),Qz T.bV T.mc3 T.ir3 (zv 6),Qz T.bV T.mc4 T.ir4 (zv 6)]),aH 3 mz.nd (aA aO (zv 3) (aV #[Qz T.bV T.mc5 T.ir5 (zv 6),Qz T.bV T.mc6 T.ir6 (zv 6)])),aH 4 mz.nd (ai0 T.rows (zv 6))|aj])),aG (cT #[zv 3,zv 4,zv 5])|aj]
theorem aof:aP Pr w K mg base bx (k+3) uo Bc ["due"] (aW K (Z.au sb P (k+1)) 29):=
 have F:=FA r0
 bR T.u29.u akf rfl rfl rfl λcdv A outer s H E E' hr=>
  %[aN (aF (aX rfl) (cg (zu hr)) (aQ hr (zv 0) zi) zt rfl) %[aG (aA aO zt (bU hr F.mj T.Ro #[aQ hr (zv 0) zi,zi]))|aj] aj,aG (aA aO (aA aO (aA aO zt (bU hr F.mj T.Ro #[aQ hr (zv 0) zi,zi])) zt) (bU hr F.mj T.Ro #[aQ hr (zv 0) zi,zi]))|aj]
theorem aog:aP Pr w K mg base bx (k+3) uq Bd ["line","how","place"] (aW K (Z.au sb P (k+1)) 30):=
 have F:=FA r0
 bR T.u30.u Kr rfl rfl rfl λcdv A outer s H E E' hr=>
  %[aH 3 Kr.nd (bU hr F.uh T.u27 #[zv 0]),aiU 4 5 6 rfl Kr.nd (bU hr F.um T.u28 #[zv 0,zv 1,zv 2]),(aN (d_ (oJ (k:=.tuple) T.bV T.Uv Qu (zv 3))) %[aN (PW.pt (fj (aF (aX rfl) (qD (zu hr)) (zv 4) (aV gG) rfl) (eF (jJ (d_ (bU hr F.pL T.u23 #[zv 6,zv 3])))))) %[aG zb|aj] aj,aH 7 Kr.nd (bU hr F.f11 T.u11 #[zv 3]),(aN (PW.pt (fj (jJ (d_ (oJ (k:=.str) T.bV T.Kl Cd (zv 7)))) (eF (aF (aX rfl) (qD (zu hr)) (zv 7) (bU hr F.uo T.u29 #[zv 3]) rfl)))) %[aG zb|aj] aj),aG (bU hr F.pL T.u23 #[afQ hr F.f9 T.m9 T.k9 T.gd9 #[zv 7],zv 3])|aj] aj),aN (aF (aX rfl) (cg (zu hr)) (zv 1) zi rfl) %[aH 2 Kr.nd zi|aj] aj,(aN (PW.pt (fj (aF (aX rfl) (qD (zu hr)) (zv 4) (afz ["line","how","place","due","kinds","at","found","text"] ["line","how","place","due","kinds","at","found","text"] (aC (top 50)) rfl (iJ rfl T.fG #[zi] rfl) (λ_ _ _ _=>acF) (λ_ _ _ _=>(uZ (cg (zu hr)) (zv 8) (aQ hr (zv 3) zi) rfl))) rfl) (eF (d_ (oJ (k:=.bool) T.bV T.ahK acJ (zv 5)))))) %[aG zb|aj] aj),(aG (Qe (oJ (k:=.int) T.bV T.akd afC (zv 5)) (Qf (uZ (cg (zu hr)) (zv 5) (zv 2) rfl))))|aj]
theorem aoh:aP Pr w K mg base bx (k+3) ur wH ["script"] (aW K (Z.au sb P (k+1)) 31):=
 have F:=FA r0
 bR T.u31.u Ks rfl rfl rfl λcdv A outer s H E E' hr=>
  %[aH 1 Ks.nd (bU hr F.tZ T.u15 #[bU hr F.tY T.u13 #[zv 0,zi],zi]),iQ 2 PassesOwn.never rfl Ks.nd (BX (aA aO (Ld (zv 0) zi zi) (aV #[bW cD T.cF bY #[zv 0]]))) %[aH 3 Ks.nd (bU hr F.oE T.Yx #[aA aO (aA aZ (zv 2) (aA aa3 zi zi)) zi,zi]),aH 4 Ks.nd (aQ hr (aV #[aA aZ (aQ hr (zv 3) zi) zi,aA aZ (zv 2) (aA aa3 zi zi)]) (aA aZ (aQ hr (zv 3) zi) zi)),aN (jJ (d_ (bU hr F.uq T.u30 #[bU hr F.ug T.u25 #[zv 2,zv 1],aA aZ (aQ hr (zv 3) zi) zi,zv 4]))) %[aG zb|aj] aj|aj],aG zb|aj]
end
theorem fns (T:Txt K w mg f0 f1 f2 f3 f4 f5 f6 f7 f8 f9 rR f11 oE tY ou tZ rW rY t_ ud oA uf pK pL mj ug pJ uh um uo uq ur c0 c1 c2 c3 c4 c5 c6 fI e0 e1 e2 e3 e4 e5 e6 e7 e8 e9 e10 Am tR Ao Aq Ar Av Aw Ax Ay rK tV tW tX Az A_ tU Ba Bb Bc Bd wH eI):∀(k:Nat) (r:R0),@Fns r Pr w K mg base k f0 f1 f2 f3 f4 f5 f6 f7 f8 f9 rR f11 oE tY ou tZ rW rY t_ ud oA uf pK pL mj ug pJ uh um uo uq ur c0 c1 c2 c3 c4 c5 c6 fI e0 e1 e2 e3 e4 e5 e6 e7 e8 e9 e10 Am tR Ao Aq Ar Av Aw Ax Ay rK tV tW tX Az A_ tU Ba Bb Bc Bd wH eI (Z.au sb P k)
 | 0,r=>⟨QL,QL,bK,bK,bK,bK,bK,bK,bK,bK,bK,bK,bK,bK,bK,bK,bK,bK,bK,bK,bK,bK,bK,bK,bK,bK,bK,bK,bK,bK,bK,bK,bK,bK⟩
 | k+1,r=>have FA:=fns T k;have F:=FA r;⟨anS T FA,anT T FA,d_0 T FA,d_1 T FA,d_2 T FA,d_3 T FA,d_4 T FA,d_5 T FA,d_6 T FA,d_7 T FA,d_8 T FA,d_9 T FA,anU T FA,anV T FA,anW T FA,anY T FA,anZ T FA,an1 T FA,an2 T FA,an3 T FA,an4 T FA,an5 T FA,an6 T FA,an7 T FA,an8 T FA,an_ T FA,aoa T FA,aob T FA,aoc T FA,aod T FA,aoe T FA,aof T FA,aog T FA,aoh T FA⟩
end
theorem all_mk {l:PySem.W.OpenLaw}{w:World}{K:PySem.W.Frag}{h:Heap}{mg:Str->Option Value}(X:K.In h)(G:h.Ns mainGlobals mg)(hfa:mg "law"=some (.ref fa))
  {c0 c1 c2 c3 c4 c5 c6:Addr}
  (NZ:nsIn K mainGlobals "MOST_SIGNS"=some (some (.int 120 adZ)))
  (YB:nsIn K mainGlobals "PIECES"=some (some (.ref YC)))
  (YD:K.lookup YC=some ⟨.type "tuple",none,.seq #[(.str "(" ahZ),(.str ")" ah0),(.str " and " ah1),(.str " or " ah2),(.str "not " ah3)] al9,al_⟩)
  (Wc:nsIn K mainGlobals "LETTERS"=some (some (.str "abcdefghijklmnopqrstuvwxyz" akg)))
  (N5:nsIn K mainGlobals "KEPT_WORDS"=some (some (.ref N6)))
  (N7:K.lookup N6=some ⟨.type "tuple",none,.seq #[(.str "always" abK),(.str "where" abL),(.str "usually" abM),(.str "not" abN),(.str "and" abO),(.str "or" abP)] ad0,ad1⟩)
  (Ku:nsIn K mainGlobals "MOST_LETTERS"=some (some (.int 12 abQ)))
  (YF:nsIn K mainGlobals "JOINTS"=some (some (.ref YG)))
  (YH:K.lookup YG=some ⟨.type "tuple",none,.seq #[(.str "not" ah4),(.str "and" ah5),(.str "or" ah6)] ama,amb⟩)
  (Wd:nsIn K mainGlobals "TIGHTER"=some (some (.ref Kv)))
  (Wf:K.lookup Kv=some ⟨.type "dict",none,.dict #[⟨PyData.keyHash w.params "and",.str "and" N8,(.ref Fp)⟩,⟨PyData.keyHash w.params "or",.str "or" N_,(.ref Fq)⟩,⟨PyData.keyHash w.params ")",.str ")" Oa,(.ref Ft)⟩] akh,#[]⟩)
  (Ru:K.lookup Fp=some ⟨.type "tuple",none,.seq #[(.str "not" adN),(.str "and" adO)] ahN,ahO⟩)
  (Rv:K.lookup Fq=some ⟨.type "tuple",none,.seq #[(.str "not" adP),(.str "and" adQ),(.str "or" adR)] ahP,ahQ⟩)
  (Rw:K.lookup Ft=some ⟨.type "tuple",none,.seq #[(.str "not" adS),(.str "and" adT),(.str "or" adU)] ahR,ahS⟩)
  (Wg:(Kv == sysModules)=false)
  (Rx:nsIn K mainGlobals "TIGHTNESS"=some (some (.ref Fv)))
  (Ry:K.lookup Fv=some ⟨.type "dict",none,.dict #[⟨PyData.keyHash w.params "or",.str "or" Kw,(.int 0 Mh)⟩,⟨PyData.keyHash w.params "and",.str "and" Ky,(.int 1 Mi)⟩,⟨PyData.keyHash w.params "not",.str "not" Kz,(.int 2 Mj)⟩,⟨PyData.keyHash w.params "is",.str "is" KC,(.int 3 Ml)⟩] ahT,#[]⟩)
  (Rz:(Fv == sysModules)=false)
  (n0:nsIn K mainGlobals "WontError"=some (some (.ref c0)))
  (n1:nsIn K mainGlobals "RowError"=some (some (.ref c1)))
  (n2:nsIn K mainGlobals "NoRow"=some (some (.ref c2)))
  (n3:nsIn K mainGlobals "TooLong"=some (some (.ref c3)))
  (n4:nsIn K mainGlobals "NoSentence"=some (some (.ref c4)))
  (n5:nsIn K mainGlobals "Twice"=some (some (.ref c5)))
  (n6:nsIn K mainGlobals "TooMany"=some (some (.ref c6)))
  (a0:nsIn K mainGlobals "read_sentence"=some (some (.ref f0)))
  (l0:K.lookup f0=some ⟨oc0,od0,.func (fnOf "read_sentence" "read_sentence" (dX (top 17)) (cH (top 17)) (aC (top 17)) (.ref dT0) kV0 dc0 pm0 an0 cd0 ct0),sl0⟩)
  (dl0:K.lookup dT0=some ⟨do0,dd0,.seq #[.int 0 dk0] dn0,ds0⟩)
  (c0_:codeIn K cd0 "read_sentence"=true)
  (k0:keepIn K (.ref f0)=true)
  (a1:FQ K "tokens_of" (top 18) f1)
  (a2:FQ K "piece_at" (top 19) f2)
  (a3:FQ K "word_end" (top 20) f3)
  (a4:FQ K "is_name" (top 21) f4)
  (a5:FQ K "put_together" (top 22) f5)
  (a6:FQ K "ended" (top 23) f6)
  (a7:FQ K "shown_sentence" (top 24) f7)
  (a8:FQ K "shown_part" (top 25) f8)
  (a9:nsIn K mainGlobals "read_row"=some (some (.ref f9)))
  (l9:K.lookup f9=some ⟨oc9,od9,.func (fnOf "read_row" "read_row" (dX (top 27)) (cH (top 27)) (aC (top 27)) (.ref dT9) kV9 dc9 pm9 an9 cd9 ct9),sl9⟩)
  (dl9:K.lookup dT9=some ⟨do9,dd9,.seq #[.int 0 dk9] dn9,ds9⟩)
  (c9_:codeIn K cd9 "read_row"=true)
  (k9:keepIn K (.ref f9)=true)
  (a10:FQ K "sentence_texts" (top 28) rR)
  (a11:FQ K "shown_row" (top 29) f11)
  (a12:FQ K "_law_draws" (top 31) oE)
  (a13:FQ K "_law_cell_at" (top 32) tY)
  (a14:FQ K "_law_fresh" (top 33) ou)
  (a15:FQ K "_law_names" (top 34) tZ)
  (a16:FQ K "_law_good" (top 35) rW)
  (a17:FQ K "_law_spoiled" (top 36) rY)
  (a18:FQ K "_law_tokens" (top 38) t_)
  (a19:FQ K "_law_blanks" (top 39) ud)
  (a20:FQ K "_law_flat" (top 40) oA)
  (a21:FQ K "_law_word" (top 41) uf)
  (a22:FQ K "_law_read" (top 42) pK)
  (a23:FQ K "_law_same" (top 43) pL)
  (a24:FQ K "_law_text" (top 44) mj)
  (a25:FQ K "_law_line" (top 45) ug)
  (a26:FQ K "_law_two" (top 46) pJ)
  (a27:FQ K "_law_due" (top 47) uh)
  (a28:FQ K "_law_asked" (top 48) um)
  (a29:FQ K "_law_shown" (top 49) uo)
  (a30:FQ K "_law_right" (top 50) uq)
  (a31:FQ K "law" (top 51) ur)
  (aI:PySem.W.findIn K (.ref c1) "__init__"=some (some (.ref fI)))
  (lI:K.lookup fI=some ⟨ocI,odI,.func (fnOf "__init__" "RowError.__init__" (dX (inner 2 0)) (cH (inner 2 0)) (aC (inner 2 0)) .none kVI dcI pmI anI cdI ctI),slI⟩)
  (cI_:codeIn K cdI "RowError.__init__"=true)
  (kI:keepIn K (.ref fI)=true)
  (nI_:isFn K (.ref fI)=true)
  (iH:PySem.W.specialIn K (.builtin "object.__class__") "__get__"=some (some (.builtin "getset_descriptor.__get__")))
  (iT:PySem.W.takesIn K (.builtin "object.__class__")=some true)
  (Fl:XQ K fI c1)
  (pN:XQ K fI c2)
  (pO:XQ K fI c3)
  (pP:XQ K fI c4)
  (uw:XQ K fI c5)
  (ux:XQ K fI c6)
  (aki:PySem.W.mroIn K c1 (.ref c5)=some false)
  (akj:PySem.W.mroIn K c2 (.ref c5)=some false)
  (akk:PySem.W.mroIn K c3 (.ref c5)=some false)
  (akl:PySem.W.mroIn K c4 (.ref c5)=some false)
  (akm:PySem.W.mroIn K c5 (.ref c5)=some true)
  (akn:PySem.W.mroIn K c6 (.ref c5)=some false)
  (ako:PySem.W.mroIn K c1 (.ref c6)=some false)
  (akp:PySem.W.mroIn K c2 (.ref c6)=some false)
  (akq:PySem.W.mroIn K c3 (.ref c6)=some false)
  (akr:PySem.W.mroIn K c4 (.ref c6)=some false)
  (aks:PySem.W.mroIn K c5 (.ref c6)=some false)
  (akt:PySem.W.mroIn K c6 (.ref c6)=some true)
  (aku:PySem.W.mroIn K c1 (.ref c2)=some false)
  (akv:PySem.W.mroIn K c2 (.ref c2)=some true)
  (akx:PySem.W.mroIn K c3 (.ref c2)=some false)
  (aky:PySem.W.mroIn K c4 (.ref c2)=some false)
  (akz:PySem.W.mroIn K c5 (.ref c2)=some false)
  (akA:PySem.W.mroIn K c6 (.ref c2)=some false)
  (akB:PySem.W.mroIn K c1 (.ref c3)=some false)
  (akC:PySem.W.mroIn K c2 (.ref c3)=some false)
  (akD:PySem.W.mroIn K c3 (.ref c3)=some true)
  (akE:PySem.W.mroIn K c4 (.ref c3)=some false)
  (akF:PySem.W.mroIn K c5 (.ref c3)=some false)
  (akG:PySem.W.mroIn K c6 (.ref c3)=some false)
  (akH:PySem.W.mroIn K c1 (.ref c4)=some false)
  (akI:PySem.W.mroIn K c2 (.ref c4)=some false)
  (akJ:PySem.W.mroIn K c3 (.ref c4)=some false)
  (akK:PySem.W.mroIn K c4 (.ref c4)=some true)
  (akL:PySem.W.mroIn K c5 (.ref c4)=some false)
  (akM:PySem.W.mroIn K c6 (.ref c4)=some false)
  (akN:PySem.W.mroIn K c2 (.ref c1)=some true)
  (akO:PySem.W.mroIn K c3 (.ref c1)=some true)
  (akP:PySem.W.mroIn K c4 (.ref c1)=some true)
  (ahV:nsIn K mainGlobals "bool"=some none)
  (akQ:nsIn K mainGlobals "int"=some none)
  (RB:nsIn K mainGlobals "isinstance"=some none)
  (akR:nsIn K mainGlobals "len"=some none)
  (ahW:nsIn K mainGlobals "list"=some none)
  (adV:nsIn K mainGlobals "range"=some none)
  (Wh:nsIn K mainGlobals "reversed"=some none)
  (akS:nsIn K mainGlobals "str"=some none)
  (adW:nsIn K mainGlobals "tuple"=some none)
  :∃fd:FuncData,(∀(s:Shared) (v:Value),BindsTo s fd ⟨[v],[]⟩ [("script",v)])/\∀base:Heap,K.In base->base.Ns mainGlobals mg->aP l.prog w K mg base bx 52 fa fd ["script"] (@aW R0.nil K (Z.au sb P 50) 31):=by
 letI:R0:=R0.nil;have e:=hfa.symm.trans (mg_of X G a31.1);cases e;have F0:=Ti (st:=(top 17)) l0 c0_ k0;have B0:Binds K _ ["text","row"] []:=F0.binds dl0 λ_ _ _ _ _ _ us hl=>Xp (show us.length=2 by simpa using hl) λ_ _=>⟨_,rfl,rfl⟩
 have D0:Binds K _ ["text","row"] [.int 0 dk0]:=F0.binds dl0 λ_ _ _ _ _ _ us hl=>by1 (show us.length=1 by simpa using hl) λ_=>⟨_,rfl,rfl⟩
 obtain ⟨e1,F1⟩:=sO X G a1 "text" rfl;obtain ⟨e2,F2⟩:=vo X G a2 "text" "place" rfl;obtain ⟨e3,F3⟩:=vo X G a3 "text" "place" rfl;obtain ⟨e4,F4⟩:=sO X G a4 "word" rfl;obtain ⟨e5,F5⟩:=sO X G a5 "tokens" rfl;obtain ⟨e6,F6⟩:=ff3 X G a6 "begun" "whole" "joints" rfl;obtain ⟨e7,F7⟩:=sO X G a7 "sentence" rfl;obtain ⟨e8,F8⟩:=vo X G a8 "sentence" "least" rfl;have F9:=Ti (st:=(top 27)) l9 c9_ k9;have B9:Binds K _ ["line","row"] []:=F9.binds dl9 λ_ _ _ _ _ _ us hl=>Xp (show us.length=2 by simpa using hl) λ_ _=>⟨_,rfl,rfl⟩
 have D9:Binds K _ ["line","row"] [.int 0 dk9]:=F9.binds dl9 λ_ _ _ _ _ _ us hl=>by1 (show us.length=1 by simpa using hl) λ_=>⟨_,rfl,rfl⟩
 obtain ⟨e10,F10⟩:=sO X G a10 "line" rfl;obtain ⟨Am,F11⟩:=sO X G a11 "told" rfl;obtain ⟨tR,F12⟩:=vo X G a12 "cell" "count" rfl;obtain ⟨Ao,F13⟩:=vo X G a13 "script" "k" rfl;obtain ⟨Aq,F14⟩:=vo X G a14 "number" "size" rfl;obtain ⟨Ar,F15⟩:=vo X G a15 "cell" "size" rfl;obtain ⟨Av,F16⟩:=vo X G a16 "drawn" "names" rfl;obtain ⟨Aw,F17⟩:=vo X G a17 "text" "drawn" rfl;obtain ⟨Ax,F18⟩:=sO X G a18 "text" rfl;obtain ⟨Ay,F19⟩:=sO X G a19 "tokens" rfl;obtain ⟨rK,F20⟩:=sO X G a20 "items" rfl;obtain ⟨tV,F21⟩:=sO X G a21 "text" rfl;obtain ⟨tW,F22⟩:=sO X G a22 "text" rfl;obtain ⟨tX,F23⟩:=vo X G a23 "found" "due" rfl;obtain ⟨Az,F24⟩:=vo X G a24 "tree" "under" rfl;obtain ⟨A_,F25⟩:=vo X G a25 "cell" "names" rfl;obtain ⟨tU,F26⟩:=vo X G a26 "first" "then" rfl;obtain ⟨Ba,F27⟩:=sO X G a27 "line" rfl;obtain ⟨Bb,F28⟩:=ff3 X G a28 "line" "how" "place" rfl;obtain ⟨Bc,F29⟩:=sO X G a29 "due" rfl;obtain ⟨Bd,F30⟩:=ff3 X G a30 "line" "how" "place" rfl;obtain ⟨wH,F31⟩:=sO X G a31 "script" rfl;have FI:=W5 (st:=(inner 2 0)) lI cI_ kI;have BI:=FI.binds (ps:=["self","row"]) λ_ _ _ _ _ _ us hl=>Xp hl λ_ _=>rfl;refine ⟨wH,λs v=>ai3 F31 rfl,λbase _ _=>?_⟩;exact (fns (Pr:=l.prog) (w:=w) (base:=base) ⟨⟨_,F0⟩,B0,⟨_,D0,lq⟩,mg_of X G a0,k0,F1,F2,F3,F4,F5,F6,F7,F8,⟨_,F9⟩,B9,⟨_,D9,lq⟩,mg_of X G a9,k9,F10,F11,F12,F13,F14,F15,F16,F17,F18,F19,F20,F21,F22,F23,F24,F25,F26,F27,F28,F29,F30,F31,n0,mg_of X G n0,n1,mg_of X G n1,n2,mg_of X G n2,n3,mg_of X G n3,n4,mg_of X G n4,n5,mg_of X G n5,n6,mg_of X G n6,FI,BI,nI_,Fl,pN,pO,pP,uw,ux,(JM n5 uw.e (uw.o akm) (cZ n1 Fl.e (uw.o aki) (cZ n2 pN.e (uw.o akj) (cZ n3 pO.e (uw.o akk) (cZ n4 pP.e (uw.o akl) (cZ n6 ux.e (uw.o akn) (vf iH iT))))))),(JM n6 ux.e (ux.o akt) (cZ n1 Fl.e (ux.o ako) (cZ n2 pN.e (ux.o akp) (cZ n3 pO.e (ux.o akq) (cZ n4 pP.e (ux.o akr) (cZ n5 uw.e (ux.o aks) (vf iH iT))))))),(JM n2 pN.e (pN.o akv) (cZ n1 Fl.e (pN.o aku) (cZ n3 pO.e (pN.o akx) (cZ n4 pP.e (pN.o aky) (cZ n5 uw.e (pN.o akz) (cZ n6 ux.e (pN.o akA) (vf iH iT))))))),(JM n3 pO.e (pO.o akD) (cZ n1 Fl.e (pO.o akB) (cZ n2 pN.e (pO.o akC) (cZ n4 pP.e (pO.o akE) (cZ n5 uw.e (pO.o akF) (cZ n6 ux.e (pO.o akG) (vf iH iT))))))),(JM n4 pP.e (pP.o akK) (cZ n1 Fl.e (pP.o akH) (cZ n2 pN.e (pP.o akI) (cZ n3 pO.e (pP.o akJ) (cZ n5 uw.e (pP.o akL) (cZ n6 ux.e (pP.o akM) (vf iH iT))))))),(lu n1 Fl.w (lu n2 pN.w (lu n3 pO.w (lu n4 pP.w (lu n5 uw.w (lu n6 ux.w aad)))))),(xC n2 (Fl.c akN) (xC n3 (Fl.c akO) (xC n4 (Fl.c akP) Xy))),(F9.afU dl9 λ_ _ _ _ _ _ _ _=>⟨_,rfl,rfl⟩),mg_none_of X G ahV,mg_none_of X G akQ,mg_none_of X G RB,mg_none_of X G akR,mg_none_of X G ahW,mg_none_of X G adV,mg_none_of X G Wh,mg_none_of X G akS,mg_none_of X G adW,⟨_,mg_of X G NZ,lq⟩,⟨_,mg_of X G YB,(qb YD (le_of_ble_eq_true rfl) (.cons (cA (by decide+kernel) (by decide+kernel)) (.cons (cA (by decide+kernel) (by decide+kernel)) (.cons (cA (by decide+kernel) (by decide+kernel)) (.cons (cA (by decide+kernel) (by decide+kernel)) (.cons (cA (by decide+kernel) (by decide+kernel)) .nil))))))⟩,⟨_,mg_of X G Wc,(cA (by decide+kernel) (by decide+kernel))⟩,⟨_,mg_of X G N5,(qb N7 (le_of_ble_eq_true rfl) (.cons (cA (by decide+kernel) (by decide+kernel)) (.cons (cA (by decide+kernel) (by decide+kernel)) (.cons (cA (by decide+kernel) (by decide+kernel)) (.cons (cA (by decide+kernel) (by decide+kernel)) (.cons (cA (by decide+kernel) (by decide+kernel)) (.cons (cA (by decide+kernel) (by decide+kernel)) .nil)))))))⟩,⟨_,mg_of X G Ku,lq⟩,⟨_,mg_of X G YF,(qb YH (le_of_ble_eq_true rfl) (.cons (cA (by decide+kernel) (by decide+kernel)) (.cons (cA (by decide+kernel) (by decide+kernel)) (.cons (cA (by decide+kernel) (by decide+kernel)) .nil))))⟩,⟨_,mg_of X G Wd,Xq [("and",N8,(.ref Fp)),("or",N_,(.ref Fq)),(")",Oa,(.ref Ft))] Wf rfl Wg (show ([Str.ofString "and",Str.ofString "or",Str.ofString ")"]:List Str).Nodup by decide+kernel) (show ([Str.ofString "and",Str.ofString "or",Str.ofString ")"]:List Str)=(cO.map (λp=>(⟨p.1.toArray⟩:Str))) by decide+kernel) (.cons (qb Ru (le_of_ble_eq_true rfl) (.cons (cA (by decide+kernel) (by decide+kernel)) (.cons (cA (by decide+kernel) (by decide+kernel)) .nil))) (.cons (qb Rv (le_of_ble_eq_true rfl) (.cons (cA (by decide+kernel) (by decide+kernel)) (.cons (cA (by decide+kernel) (by decide+kernel)) (.cons (cA (by decide+kernel) (by decide+kernel)) .nil)))) (.cons (qb Rw (le_of_ble_eq_true rfl) (.cons (cA (by decide+kernel) (by decide+kernel)) (.cons (cA (by decide+kernel) (by decide+kernel)) (.cons (cA (by decide+kernel) (by decide+kernel)) .nil)))) .nil)))⟩,⟨_,mg_of X G Rx,Xq [("or",Kw,(.int 0 Mh)),("and",Ky,(.int 1 Mi)),("not",Kz,(.int 2 Mj)),("is",KC,(.int 3 Ml))] Ry rfl Rz (show ([Str.ofString "or",Str.ofString "and",Str.ofString "not",Str.ofString "is"]:List Str).Nodup by decide+kernel) (show ([Str.ofString "or",Str.ofString "and",Str.ofString "not",Str.ofString "is"]:List Str)=(fU.map (λp=>(⟨p.1.toArray⟩:Str))) by decide+kernel) (.cons lq (.cons lq (.cons lq (.cons lq .nil))))⟩⟩ 50 R0.nil).ur
end gj
open PySem PySem.W PyProof.Rows
set_option maxRecDepth 100000 in
set_option maxHeartbeats 0 in
theorem PySem.Challenge.cw_wontbook_k04_a_row_holds : PySem.Challenge.rw_wontbook_k04_a_row.Holds := by
 w_on
 refine holds_law gj.ws λsaid=>?_;refine ZH.ad4 (q:=gj.QV) (loose:=[PySem.Str.ofString "TIGHTER",PySem.Str.ofString "TIGHTNESS",PySem.Str.ofString "read_sentence",PySem.Str.ofString "read_row"]) (N:=5880) (K:=gj.dm.heap_1) (as:=gj.AL) (λ_=>by kernel_rfl) (byRow2 "special-get-raises" gj.gof gj.got) rfl rfl (λ_=>rfl) (by rfl) (by rfl) (by rfl) (by rfl) (by assumption) (by decide+kernel) ⟨rfl,rfl,rfl,rfl,rfl,by decide+kernel⟩ (by w_witness2) ?_
 k_fill
 refine ZS.af0 (l:=PySem.Challenge.rw_wontbook_k04_a_row) (kk:=52) (kd:=50) (i:=31) (sub:=gj.sb) (Pg:=gj.P) rfl rfl ⟨rfl,by decide,by decide⟩ (λw h Y=>kIn_of Y) (λns hl=>gj.ahC ns hl) ?F
 case F=>
  intro w mg fa h KX G hmg;refine' gj.all_mk KX G hmg ..
  all_goals try refine' ZS.ai2 _ _ _ _
  all_goals try refine' ZS.XQ.mk _ _ _ _ _ _ _ _ _ _ _ _ _
  all_goals try k_is
  all_goals first | rfl | kernel_rfl | decide+kernel
