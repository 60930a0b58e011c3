import PyProof.Rows.All
import Wide.All
import OpenK.AllK
import Wide.FinOn
import Lean
import PyProof.EqAt
import PyProof.EqKinds
import PyProof.TupleCall
import PyProof.ExcBaseAll.ValueError
import PyProof.ExcAttrAll.ValueError
import KE.KTryMore
import OpenK.KOwn
import PyProof.InstSpecial
import KE.KRevIter
import KE.KDictList
import PyProof.SetScanFacts
import PyProof.Rows.SetFrom
import KE.KRevIter
import PyProof.Rows.SortShell
import PyProof.CollectWalk
import PyProof.Rows.SortWalk
import PyProof.ExcInit
import PyProof.InstStoreFacts
import PyProof.StrWalks
import PyProof.EnumMake
import PyProof.StrBlock2
import PyProof.StrLawsTight
import PyProof.StrLawsChain
import PyProof.StrCalls2
import PyProof.Rows.StrCountLaw
import PyProof.AutoSeq1
import PyProof.ListStr
import PyProof.TupleOfSeq
import PyProof.Rows.DictTallyStr
import PyProof.Rows.SortWalk
import PySem.Challenge.RW_wontbook_k02_read_by_hand
set_option linter.all false
set_option maxRecDepth 100000
set_option maxHeartbeats 4000000
set_option bootstrap.genMatcherCode false
set_option genSizeOf false
set_option genInjectivity false
set_option Elab.async false
local macro_rules
 | `(abbrev $x:declId $s:optDeclSig $v:declVal)=>`(noncomputable abbrev $x:declId $s:optDeclSig $v:declVal)
 | `(def $x:declId $s:optDeclSig $v:declVal)=>`(noncomputable def $x:declId $s:optDeclSig $v:declVal)
local macro_rules
 | `(tactic| erw[$r,*] $[$l]?)=>do
  let s <-r.getElems.mapM λx=>match x with
   | `(Lean.Parser.Tactic.rwRule| $t:term)=>`(Lean.Parser.Tactic.simpLemma| $t:term)
   | _=>Lean.Macro.throwUnsupported
  `(tactic| simp only[$s,*] $[$l]?)
open PySem.W (Frag)
section
open PySem PySem.Spec PyProof.Rows
abbrev bM (x:Str):Prop:=(x == ("__debug__":Str))=false
abbrev dn (v:Env)(e:Expr)(es:List Expr):Prop:=starEach (e::es) v=(false,eval e v)::starEach es v
abbrev iy (v:Env)(es:List Expr)(p:Pos):Prop:=(backTo p (starEach es v)).any (·.1)=false
end
open PySem.W (callWith_K cellsFrom_some codeIn exmOne fnOf isFn kIn_of keepIn kia_one kitCls kitOne kitx_list methodObj mg_none_of mg_of notCls nsIn typeIn)
open List (all_eq_true any_cons append_assoc append_nil cons_append contains_cons contains_iff_mem drop_eq_getElem_cons drop_length drop_zero filterMap_cons find?_cons flatten_cons foldl getElem?_append getElem?_append_left getElem?_append_right getElem?_cons_succ getElem?_drop getElem?_eq_getElem getElem?_eq_none getElem?_map getElem?_range getElem?_set_ne getElem?_set_self getElem_mem isPrefixOf isPrefixOf_iff_prefix length_append length_cons length_drop length_eq_zero_iff length_map length_nil length_pos_iff length_range length_replicate length_reverse length_take lookup_cons map_append map_cons map_nil mem_append mem_append_right mem_cons mem_cons_of_mem mem_cons_self mem_map mem_of_getElem? mem_range mem_singleton nil_append nodup_cons not_mem_nil of_mem_zip prefix_append replicate replicate_succ reverse_cons size_toArray take_length take_succ toArray_inj)
open Option (bind_some getD_none isSome_iff_exists isSome_map map_eq_some_iff map_some)
open PySem.F (args_tuple_add_2 attr_ValueError entry_bexc_ga entry_tuple_add plainAttrs_list plainAttrs_str slot_list_pop slot_tuple_add type_list_pop)
open Nat (ble le_of_ble_eq_true le_of_lt le_of_not_lt le_refl le_succ le_trans lt_irrefl lt_of_lt_of_le mul_comm ne_of_gt ne_of_lt zero_le)
open PySem.Heap (get?_push_of_some get?_push_size get?_update_other get?_update_self lt_size)
open Bool (and_eq_true bne_false bne_true eq_false_iff false_eq_true not_eq_true' or_eq_true)
open Int (emod_lt_of_pos emod_nonneg toNat_natCast)
open Classical (choose_spec propDecidable)
namespace ZH
open PySem PySem.W PySem.Calls PyProof.Rows
def CK (thr:Thread->Bool)(ok:Thread->Bool)(stp:SharedT->Thread->Option (SharedT×Thread)):Nat->SharedT->Thread->Option SharedT
 | 0,_,_=>none
 | n+1,s,t=>match thr t with
  | true=>some s
  | false=>match ok t with
   | false=>none
   | true=>match stp s t with
    | some (s',t')=>CK thr ok stp n s' t'
    | none=>none
theorem Bp:∀{n:Nat} {s s':SharedT} {t:Thread},CK through (stepOk n₀ ann) (stepT (denote tb) p w) n s t=some s'->topRun tb p w n₀ ann n s.abs t=some s'.abs
 | 0,_,_,_,h=>by cases h
 | n+1,s,s',t,h=>by
  unfold CK at h;unfold topRun;cases ht:through t with
  | true=>rw[ht]at h;cases h;rfl
  | false=>
   rw[ht]at h;cases hk:stepOk n₀ ann t with
   | false=>rw[hk]at h;cases h
   | true=>
    rw[hk]at h;cases hs:stepT (denote tb) p w s t with
    | none=>rw[hs]at h;cases h
    | some r=>obtain ⟨s₂,t₂⟩:=r;rw[hs]at h;rw[stepT_spec hs];exact Bp h
def treeOf:List Obj->Nat->BT->BT
 | [],_,t=>t
 | o::l,i,t=>treeOf l (i+1) (t.ins i o)
noncomputable def UW (P:Params) (os:OsState):SharedT:=⟨treeOf (boot_heap P).objs.toList 0 .nil,11,(boot_heap P).life,#[],boot_drawn,boot_toks,os⟩
theorem LK (P:Params)(os:OsState):(UW P os).abs=⟨boot_heap P,#[],boot_drawn,boot_toks,os⟩:=by kernel_rfl
theorem Yo (P:Params):((boot_heap P).isNs mainGlobals && (#[]:Array GenState).size == 0,(boot_heap P).objs.size,(boot_heap P).nsMap mainGlobals "__annotations__")=(true,11,some (.ref 6)):=by kernel_rfl
noncomputable def ends (M:Nat) (p:Program) (stp:SharedT->Thread->Option (SharedT×Thread)) (ok:Thread->Bool) (P:Params) (os:OsState):Option SharedT:=CK through ok stp M (UW P os) (topStub p)
theorem D9 {p q:Program}{loose:List Str}{Xt:Shared->Bool}{α:Type}{Yf:Shared->α}{Ya:World->α}{N:Nat}{g0:Bool}(e:opening p=plainProg p.main.scope.names)(hN:ble 600 N=true)(f:∀s,fenceModules? p s=some s)(h:∀(w:World) (os:OsState),(ends N p (stepT (denote treeTable) p w) (stepOk 11 (some (.ref 6))) w.params os).bind (λs=>
   match staticsOk (importedModules p.main.body) (boot_heap w.params) s.abs.heap && namesBound p s.abs.heap && gensDone s.abs && laidKept (boot_heap w.params) s.abs.heap with
   | true=>some (openSeen q loose (importedModules p.main.body) Xt g0 s.abs,Yf s.abs)
   | false=>none)=some (openGood q loose,Ya w)):LeftO p q loose Xt Yf Ya N g0:=λw=>by
 obtain ⟨⟨hh,gs,d,k,os⟩,e1,e2⟩:=map_eq_some_iff.mp (boot_open e hN f w);obtain ⟨rfl,rfl,rfl,rfl⟩:hh=boot_heap w.params/\gs=#[]/\d=boot_drawn/\k=boot_toks:=by simpa using e2
 obtain ⟨s,r1,r2⟩:=Option.bind_eq_some_iff.mp (h w os);have r:=Bp r1;rw[LK]at r;obtain ⟨z1,z2,z3⟩:_/\_/\_:=by simpa only[Prod.mk.injEq] using Yo w.params
 unfold openEnds;rw[e1];show (topFrom treeTable p w N _).map _=_;have t:topFrom treeTable p w N ⟨boot_heap w.params,#[],boot_drawn,boot_toks,os⟩=some s.abs:=by
  unfold topFrom;dsimp only;rw[z1,z2,z3,r];show (match staticsOk (importedModules p.main.body) (boot_heap w.params) s.abs.heap && namesBound p s.abs.heap && gensDone s.abs && laidKept (boot_heap w.params) s.abs.heap with | true=>_ | false=>_)=_;revert r2;split
  ·intro _;rfl
  ·intro x;cases x
 rw[t];revert r2;split
 ·intro r2;exact r2
 ·intro x;cases x
abbrev HR (p q:Program)(loose:List Str)(R:WRecords)(N:Nat)(K:Params->Frag)(as:List Addr)(w:World)(os:OsState):Prop:=
 ((ends N p (Fast.tw10156331382660048174 (Fast.tw11892475500146522536 Fast.tw14364793385576792824) p w) (Fast.tw6613529449190102663 11 (some (.ref 6))) w.params os).bind λs=>
   match staticsOk (Fast.tw5923862056798008813 p.main.body) (boot_heap w.params) s.abs.heap && namesBound p s.abs.heap && gensDone s.abs && laidKept (boot_heap w.params) s.abs.heap with
   | true=>some (Fast.tw4187177175401517315 q loose (Fast.tw5923862056798008813 p.main.body) (λs=>xlAt q [] s && recOk R s) true s.abs,as.map s.abs.heap.get?)
   | false=>none)=some (openGood q loose,(K w.params).map λp=>some p.2)
theorem LL {p q:Program}{loose:List Str}{R:WRecords}{N:Nat}{K:Params->Frag}{as:List Addr}(a:∀P,as=(K P).map (·.1))(e:opening p=plainProg p.main.scope.names)(hN:ble 600 N=true)(f:∀s,fenceModules? p s=some s)(h:∀w os,HR p q loose R N K as w os):LeftO p q loose (λs=>xlAt q [] s && recOk R s) (Hook.obs (kHook K as a)) (Hook.val (kHook K as a)) N true:=by
 refine D9 e hN f ?_;rw[Fast.te10156331382660048174,Fast.te11892475500146522536,Fast.te14364793385576792824,Fast.te6613529449190102663,Fast.te4187177175401517315,Fast.te5923862056798008813];exact h
theorem LN {r:OpenRow}{q:Program}{loose:List Str}{d:DefRec}{kwd:List (Str×Expr)}{N:Nat}{K:Params->Frag}{as:List Addr}(a:∀P,as=(K P).map (·.1))(h:∀w os,HR r.prog q loose r.records N K as w os)(e:opening r.prog=plainProg r.prog.main.scope.names)(hN:ble 600 N=true)(f:∀s,fenceModules? r.prog s=some s)(hdef:defOf q r.name=some (d,kwd))(hp:r.prog.theDef r.name=some (d.params,d.body,d.scope))(hk:kwWritten? d.params.kwonlyargs d.params.kw_defaults=some kwd)(hwr:(!r.writes || r.records.isEmpty)=true)(k1:r.wellSaid=true)(ok:(chainsOk q && opensWell r.prog && (frees r.toRowW && r.within.isEmpty))=true)(hb:r.prog.bare)(hw:r.toRowW.promised)(call:WalkO q loose (XL q []) (kHook K as a).says r.toRowW d kwd λf vs=>PySem.call f vs):r.Holds:=
 holds_open (LL a e hN f h) (Hook.of _) (Hook.keeps _) (λs e=>xl_of s (Bool.and_eq_true_iff.mp e).1) XL.keeps hdef hp hk (λs e=>recFacts_of (Bool.and_eq_true_iff.mp e).2) hwr k1 ok hb hw call
end ZH
section
open PySem PySem.W PyProof.Rows
def dq.QV:Program:=view PySem.Challenge.pw_wontbook_k02_read_by_hand ((List.range 49).filter λi=>!([0,13,21,28].contains i))
set_option Elab.async false
section
local macro_rules
 | `(tactic| o_head $H)=>`(tactic| skip)
set_option maxRecDepth 100000 in
theorem dq.dm (h:(OpenLaw.row PySem.Challenge.rw_wontbook_k02_read_by_hand).Holds):(OpenLaw.row PySem.Challenge.rw_wontbook_k02_read_by_hand).Holds:=by
 k_head
 exact h
end
def dq.AL:List Nat:=[2,3,15,22,23,24,25,28,35,37,38,40,41,42,43,44,47,54,55,56,59,66,67,68,71,78,79,80,83,90,91,92,95,102,103,104,107,114,115,116,119,126,127,128,131,138,139,140,143,150,151,152,155,162,163,164,167,168,169,170,171,172,173,174,175,177,178,180,181,182,184,185,187,188,189,191,192,194,195,196,198,199,201,202,203,205,206,208,209,210,212,213,215,216,217,219,220,222,223,224,226,227,229,230,231,233,234,236,237,238,240,241,243,244,245,247,248,250,251,252,254,255,257,258,259,261,262,264,265,266,268,269,271,272,273,275,276,278,279,280,282,283,285,286,287,289,290,292,293,294,296,297,299,300,301,303,304,306,307,308,310,311,313,314,315,317,318,320,321,322,325,326,327,329,330,332,333,334,336,337,339,340,341,343,344,346,347,348,350,351,353,354,355,357,358,360,361]
set_option maxRecDepth 100000 in
theorem dq.Yp:∀(w:World) (os:OsState),ZH.HR (OpenLaw.row PySem.Challenge.rw_wontbook_k02_read_by_hand).prog dq.QV [PySem.Str.ofString "TIGHTER",PySem.Str.ofString "read_sentence"] (OpenLaw.row PySem.Challenge.rw_wontbook_k02_read_by_hand).records 7470 dq.dm.heap_1 dq.AL (World.withFollow w "special-get-raises" false) os:=by
 intro w os;kernel_rfl
set_option maxRecDepth 100000 in
theorem dq.got:∀(w:World) (os:OsState),ZH.HR (OpenLaw.row PySem.Challenge.rw_wontbook_k02_read_by_hand).prog dq.QV [PySem.Str.ofString "TIGHTER",PySem.Str.ofString "read_sentence"] (OpenLaw.row PySem.Challenge.rw_wontbook_k02_read_by_hand).records 7470 dq.dm.heap_1 dq.AL (World.withFollow w "special-get-raises" true) os:=by
 intro w os;kernel_rfl
set_option maxRecDepth 100000 in
theorem dq.ws:OpenLaw.wellSaid PySem.Challenge.rw_wontbook_k02_read_by_hand=true:=(congrFun Fast.te9446332074065402090 _).trans (by kernel_rfl)
end
namespace Z
abbrev S:=List Nat
inductive D where
 | non | bl (b:Bool) | int (i:Int) | str (s:S) | tup (xs:List D) | bV (xs:List D) | ref (n:Nat)
abbrev KK:=Sum Int S
inductive AO where
 | lst (xs:List D) | dct (kvs:List (KK×D)) | obj (c:S) (fs:List (S×D)) | exc (c:S) | bU (c:S) (i:Int)
abbrev AH:=List AO
abbrev Lo:=List (Option D)
def lim:Nat:=16777216
def tx (s:String):S:=s.toList.map Char.toNat
def eqZ (f:D->D->Option Bool):List D->List D->Option Bool
 | [],[]=>some true
 | [],_::_=>some false
 | _::_,[]=>some false
 | x::xs,y::ys=>match f x y,eqZ f xs ys with
  | some a,some b=>some (a && b)
  | _,_=>none
def oU:Nat->D->D->Option Bool
 | _,.non,.non=>some true
 | _,.non,.bl _=>some false
 | _,.non,.int _=>some false
 | _,.non,.str _=>some false
 | _,.bl _,.non=>some false
 | _,.bl a,.bl b=>some (a == b)
 | _,.bl _,.str _=>some false
 | _,.int _,.non=>some false
 | _,.int a,.int b=>some (a == b)
 | _,.int _,.str _=>some false
 | _,.str _,.non=>some false
 | _,.str _,.bl _=>some false
 | _,.str _,.int _=>some false
 | _,.str a,.str b=>some (a == b)
 | _+1,.non,.tup _=>some false
 | _+1,.bl _,.tup _=>some false
 | _+1,.int _,.tup _=>some false
 | _+1,.str _,.tup _=>some false
 | _+1,.tup _,.non=>some false
 | _+1,.tup _,.bl _=>some false
 | _+1,.tup _,.int _=>some false
 | _+1,.tup _,.str _=>some false
 | n+1,.tup xs,.tup ys=>eqZ (oU n) xs ys
 | _,_,_=>none
def Yq (x y:D):Option Bool:=oU 150 x y
def CM (h:AH):D->Option (List D)
 | .tup xs=>some xs
 | .bV xs=>some xs
 | .ref n=>match h[n]? with
  | some (.lst xs)=>some xs
  | _=>none
 | _=>none
def xu (xs ys:List D):Option Bool:=if xs.length=ys.length then eqZ (oU 149) xs ys else some false
def ju (h:AH):D->D->Option Bool
 | .ref a,.ref b=>match h[a]?,h[b]? with
  | some (.lst xs),some (.lst ys)=>xu xs ys
  | _,_=>none
 | x,y=>Yq x y
def cj (x:D):List D->Option Bool
 | []=>some false
 | y::ys=>match oU 149 y x,cj x ys with
  | some a,some b=>some (a || b)
  | _,_=>none
def truthy (h:AH):D->Option Bool
 | .non=>some false
 | .bl b=>some b
 | .int i=>some (i != 0)
 | .str s=>some (!s.isEmpty)
 | .tup xs=>some (!xs.isEmpty)
 | .bV xs=>some (!xs.isEmpty)
 | .ref n=>match h[n]? with
  | some (.lst xs)=>some (!xs.isEmpty)
  | some (.dct kvs)=>some (!kvs.isEmpty)
  | _=>none
def gP (n:Nat)(i:Int):Option Nat:=if 0<=i then (if i < n then some i.toNat else none) else if -(n:Int)<=i then some (i+n).toNat else none
def bx {α:Type}(xs:List α)(i:Int):Option α:=(gP xs.length i).bind λj=>xs[j]?
def aV (n d:Nat):Option Int->Nat
 | none=>d
 | some v=>(if v < 0 then max (v+n) 0 else min v n).toNat
def cut {α:Type}(xs:List α)(lo hi:Option Int):List α:=(xs.drop (aV xs.length 0 lo)).take (aV xs.length xs.length hi - aV xs.length 0 lo)
def jX:D->Option KK
 | .int i=>some (.inl i)
 | .str s=>some (.inr s)
 | _=>none
def Yr:KK->D
 | .inl i=>.int i
 | .inr s=>.str s
def mC (kvs:List (KK×D))(k:KK):Option D:=(kvs.find? λkv=>decide (kv.1=k)).map (·.2)
def xx (kvs:List (KK×D))(k:KK)(v:D):List (KK×D):=
 if kvs.any (λkv=>decide (kv.1=k)) then kvs.map (λkv=>if kv.1=k then (kv.1,v) else kv) else kvs++[(k,v)]
def strsOf:List D->Option (List S)
 | []=>some []
 | .str s::r=>(strsOf r).map (s::·)
 | _=>none
def intsOf:List D->Option (List Int)
 | []=>some []
 | .int s::r=>(intsOf r).map (s::·)
 | _=>none
def UX:S->S->Bool
 | [],[]=>false
 | [],_::_=>true
 | _::_,[]=>false
 | x::xs,y::ys=>if x=y then UX xs ys else decide (x < y)
def LO (x:S):List S->List S
 | []=>[x]
 | y::ys=>if UX x y then x::y::ys else y::LO x ys
def zl (l:List S):List S:=l.foldl (λacc x=>LO x acc) []
def insI (x:Int):List Int->List Int
 | []=>[x]
 | y::ys=>if x < y then x::y::ys else y::insI x ys
def splitOn (c:Nat):S->List S
 | []=>[[]]
 | x::xs=>if x=c then []::splitOn c xs else match splitOn c xs with
  | []=>[[x]]
  | w::ws=>(x::w)::ws
def HS (sep:S):List S->S
 | []=>[]
 | [x]=>x
 | x::y::r=>x++sep++HS sep (y::r)
def lstrip (c:Nat):S->S
 | []=>[]
 | x::xs=>if x=c then lstrip c xs else x::xs
def strip (c:Nat)(s:S):S:=(lstrip c (lstrip c s).reverse).reverse
inductive KN | int | bool | str | list | tuple | cls (c:Nat)
 deriving DecidableEq
inductive Prim
 | add | sub | mul | fdiv | mod | pow | neg | eq | ne | lt | le | gt | kP | D_ | kQ | cA | aR | idx | zF | Ea | len | gK (k:KN) | append | pop | Bq | mJ | strip | fC | mD (t:List (S×D)) | kR (t:List (S×D)) | CN | CO | cD (yes no:List S) | yA | xA (cs:List S) | vp | xB
def okR (i:Int):Bool:=@decide (-4611686018427387904<=i/\i < 4611686018427387904) (propDecidable _)
theorem mK {i:Int}:okR i=true↔(-4611686018427387904<=i/\i < 4611686018427387904):=@decide_eq_true_iff _ (propDecidable _)
def Br (a b c:Int):Bool:=@decide (-2147483648<=a/\a < 2147483648/\-2147483648<=b/\b < 2147483648/\0 < c/\c < 1073741824) (propDecidable _)
theorem xC {a b c:Int}:Br a b c=true↔(-2147483648<=a/\a < 2147483648/\-2147483648<=b/\b < 2147483648/\0 < c/\c < 1073741824):=@decide_eq_true_iff _ (propDecidable _)
def vX (i:Int):Bool:=@decide (-18446744073709551616 < i/\i < 18446744073709551616) (propDecidable _)
theorem nV {i:Int}:vX i=true↔(-18446744073709551616 < i/\i < 18446744073709551616):=@decide_eq_true_iff _ (propDecidable _)
def zG (i:Int):Bool:=@decide (-2037035976334486086268445688409378161051468393665936250636140449354381299763336706183397376 < i/\i < 2037035976334486086268445688409378161051468393665936250636140449354381299763336706183397376) (propDecidable _)
theorem nW {i:Int}:zG i=true↔(-2037035976334486086268445688409378161051468393665936250636140449354381299763336706183397376 < i/\i < 2037035976334486086268445688409378161051468393665936250636140449354381299763336706183397376):=@decide_eq_true_iff _ (propDecidable _)
def CP (x:Int):Int:=-x - 1
def Ws:Int->Int->Int
 | .ofNat a,.ofNat b=>((a &&& b:Nat):Int)
 | .ofNat a,.negSucc b=>((a - (a &&& b):Nat):Int)
 | .negSucc a,.ofNat b=>((b - (b &&& a):Nat):Int)
 | .negSucc a,.negSucc b=>.negSucc (a ||| b)
def bOr (x y:Int):Int:=CP (Ws (CP x) (CP y))
def Wt (i:Int):Nat:=if i=0 then 0 else i.natAbs.log2+1
def pairsOf:List D->Option (List (Int×Int))
 | []=>some []
 | .tup [.int a,.int b]::r=>(pairsOf r).map ((a,b)::·)
 | _=>none
def Ys (x y:Int×Int):Bool:=decide (x.1 < y.1\/(x.1=y.1/\x.2 < y.2))
def LQ (x:Int×Int):List (Int×Int)->List (Int×Int)
 | []=>[x]
 | y::ys=>if Ys x y then x::y::ys else y::LQ x ys
def Q9 (l:List (Int×Int)):List (Int×Int):=l.foldl (λacc x=>LQ x acc) []
def Wu:List Int->Option Int
 | []=>none
 | x::r=>some (r.foldl (λa b=>if b < a then b else a) x)
def aaN:List Int->Option Int
 | []=>none
 | x::r=>some (r.foldl (λa b=>if b > a then b else a) x)
def fU (x:S):S->Bool
 | []=>x.isEmpty
 | c::r=>x.isPrefixOf (c::r) || fU x r
def HU:List D->Option S
 | []=>some []
 | .str s::r=>(HU r).map (s++·)
 | _=>none
def newL (xs:List D)(h:AH):Option (D×AH):=if xs.length<=lim then some (.ref h.length,h++[.lst xs]) else none
def vq (n:Nat)(xs:List D)(v:D)(h:AH):Option (D×AH):=if xs.length<=lim then some (v,h.set n (.lst xs)) else none
def Eb (h:AH):D->Option Nat
 | .non=>some 0
 | .bl _=>some 1
 | .int _=>some 2
 | .str _=>some 3
 | .tup _=>some 4
 | .bV _=>some 5
 | .ref n=>match h[n]? with
  | some (.lst _)=>some 5
  | some (.dct _)=>some 6
  | _=>none
def HV:KN->Nat->Bool
 | .int,t=>t == 2 || t == 1
 | .bool,t=>t == 1
 | .str,t=>t == 3
 | .tuple,t=>t == 4
 | .list,t=>t == 5
 | .cls _,_=>false
def CQ (h:AH)(_:Nat->Nat->Bool)(k:KN)(d:D):Option Bool:=(Eb h d).map (HV k)
def LR:List D->AH->Option (D×AH)
 | [.int i,.int j],h=>some (.int (i+j),h)
 | [.str i,.str j],h=>if i.length+j.length<=lim then some (.str (i++j),h) else none
 | [.tup i,.tup j],h=>if i.isEmpty then some (.tup j,h) else if i.length+j.length<=lim then some (.tup (i++j),h) else none
 | [.ref a,.ref b],h=>match h[a]?,h[b]? with
  | some (.lst xs),some (.lst ys)=>newL (xs++ys) h
  | _,_=>none
 | [.ref a,.bV ys],h=>match h[a]? with
  | some (.lst xs)=>newL (xs++ys) h
  | _=>none
 | _,_=>none
def ug (f:Int->Int->Int):List D->AH->Option (D×AH)
 | [.int i,.int j],h=>some (.int (f i j),h)
 | _,_=>none
def Gm:List D->AH->Option (D×AH)
 | [.int i,.int j],h=>if vX i || vX j || (zG i && zG j) then some (.int (i * j),h) else none
 | [.ref a,.int k],h=>match h[a]? with
  | some (.lst xs)=>if okR k then newL (replicate k.toNat xs).flatten h else none
  | _=>none
 | _,_=>none
def CT:List D->AH->Option (D×AH)
 | [.int i,.int j],h=>if 0 < j/\zG j=true then some (.int (i / j),h) else none
 | _,_=>none
def Gn:List D->AH->Option (D×AH)
 | [.int i,.int j],h=>if 0 < j then some (.int (i % j),h) else none
 | _,_=>none
def Gp:List D->AH->Option (D×AH)
 | [.int i,.int j],h=>if 0<=j/\j<=1000000/\i.natAbs < 18446744073709551616 then some (.int (i ^ j.toNat),h) else none
 | _,_=>none
def vt:List D->AH->Option (D×AH)
 | [.int i],h=>some (.int (-i),h)
 | _,_=>none
def Bs (n:Bool):List D->AH->Option (D×AH)
 | [x,y],h=>(ju h x y).map λb=>(.bl (b != n),h)
 | _,_=>none
def vw (f:Int->Int->Bool):List D->AH->Option (D×AH)
 | [.int i,.int j],h=>some (.bl (f i j),h)
 | _,_=>none
def zH (n:Bool):List D->AH->Option (D×AH)
 | [.non],h=>some (.bl (!n),h)
 | [_],h=>some (.bl n,h)
 | _,_=>none
def yB (n:Bool):List D->AH->Option (D×AH)
 | [x,.tup ys],h=>(cj x ys).map λb=>(.bl (b != n),h)
 | [x,.bV ys],h=>(cj x ys).map λb=>(.bl (b != n),h)
 | [x,.ref a],h=>match h[a]? with
  | some (.lst ys)=>(cj x ys).map λb=>(.bl (b != n),h)
  | some (.dct kvs)=>(jX x).map λk=>(.bl ((mC kvs k).isSome != n),h)
  | _=>none
 | _,_=>none
def Gq (xs:List D)(h:AH):Option (D×AH):=if xs.length<=lim then some (.tup xs,h) else none
def aaO:List D->AH->Option (D×AH)
 | [],h=>some (.ref h.length,h++[.dct []])
 | _,_=>none
def Wv:List D->AH->Option (D×AH)
 | [.str s,.int i],h=>(bx s i).map λc=>(.str [c],h)
 | [.tup xs,.int i],h=>(bx xs i).map λv=>(v,h)
 | [.bV xs,.int i],h=>(bx xs i).map λv=>(v,h)
 | [.ref n,k],h=>match h[n]? with
  | some (.dct kvs)=>(jX k).bind λq=>(mC kvs q).map λv=>(v,h)
  | some (.lst xs)=>match k with
   | .int i=>(bx xs i).map λv=>(v,h)
   | _=>none
  | _=>none
 | _,_=>none
def cu (x:D)(lo hi:Option Int)(h:AH):Option (D×AH):=match x with
 | .str s=>some (.str (cut s lo hi),h)
 | .tup xs=>if aV xs.length 0 lo=0/\aV xs.length xs.length hi=xs.length then none else some (.tup (cut xs lo hi),h)
 | .bV xs=>newL (cut xs lo hi) h
 | .ref n=>match h[n]? with
  | some (.lst xs)=>newL (cut xs lo hi) h
  | _=>none
 | _=>none
def aaC:List D->AH->Option (D×AH)
 | [x],h=>cu x none none h
 | _,_=>none
def Ww:List D->AH->Option (D×AH)
 | [x,.int i],h=>cu x (some i) none h
 | _,_=>none
def Wx:List D->AH->Option (D×AH)
 | [x,.int i],h=>cu x none (some i) h
 | _,_=>none
def aaD:List D->AH->Option (D×AH)
 | [x,.int i,.int j],h=>cu x (some i) (some j) h
 | _,_=>none
def Gr:List D->AH->Option (D×AH)
 | [.str s],h=>some (.int s.length,h)
 | [.tup s],h=>some (.int s.length,h)
 | [.bV s],h=>some (.int s.length,h)
 | [.ref n],h=>match h[n]? with
  | some (.lst xs)=>some (.int xs.length,h)
  | some (.dct xs)=>some (.int xs.length,h)
  | _=>none
 | _,_=>none
def Wy (sub:Nat->Nat->Bool)(k:KN):List D->AH->Option (D×AH)
 | [x],h=>(CQ h sub k x).map λb=>(.bl b,h)
 | _,_=>none
def aaE:List D->AH->Option (D×AH)
 | [x],h=>(CM h x).bind λxs=>newL xs h
 | _,_=>none
def Yt:List D->AH->Option (D×AH)
 | [x],h=>(CM h x).map λxs=>(.tup xs,h)
 | _,_=>none
def Yi:List D->AH->Option (D×AH)
 | [.tup xs],h=>(strsOf xs).bind λss=>if ss.length < 64 then newL ((zl ss).map .str) h else none
 | [.ref n],h=>match h[n]? with
  | some (.lst xs)=>(strsOf xs).bind λss=>if ss.length < 64 then newL ((zl ss).map .str) h else none
  | some (.dct kvs)=>(strsOf (kvs.map λkv=>Yr kv.1)).bind λss=>if ss.length < 64 then newL ((zl ss).map .str) h else none
  | _=>none
 | _,_=>none
def Wz:List D->AH->Option (D×AH)
 | [.ref n],h=>match h[n]? with
  | some (.lst xs)=>(pairsOf xs).bind λps=>if ps.length < 65 then newL ((Q9 ps).map λp=>.tup [.int p.1,.int p.2]) h else none
  | _=>none
 | _,_=>none
def Q_:List D->AH->Option (D×AH)
 | [.bl b],h=>some (.bl (!b),h)
 | _,_=>none
def aaP:List D->AH->Option (D×AH)
 | [.int i,.int j],h=>if 0<=j/\j<=1000000/\i.natAbs < 18446744073709551616 then some (.int (i * 2 ^ j.toNat),h) else none
 | _,_=>none
def aaQ:List D->AH->Option (D×AH)
 | [.int i,.int j],h=>if 0<=j then some (.int (i / 2 ^ j.toNat),h) else none
 | _,_=>none
def aaR:List D->AH->Option (D×AH)
 | [.int i],h=>some (.int (CP i),h)
 | _,_=>none
def Yj:List D->AH->Option (D×AH)
 | [.int i],h=>some (.int (Wt i),h)
 | _,_=>none
def aaF:List D->AH->Option (D×AH)
 | [.ref n],h=>match h[n]? with
  | some (.lst xs)=>(intsOf xs).map λis=>(.int is.sum,h)
  | _=>none
 | _,_=>none
def aaG (f:List Int->Option Int):List D->AH->Option (D×AH)
 | [.ref n],h=>match h[n]? with
  | some (.lst xs)=>(intsOf xs).bind λis=>(f is).map λi=>(.int i,h)
  | _=>none
 | _,_=>none
def aaH:List D->AH->Option (D×AH)
 | [.ref n,d],h=>match h[n]? with
  | some (.lst xs)=>(intsOf xs).map λis=>(match Wu is with | some i=>.int i | none=>d,h)
  | _=>none
 | _,_=>none
def HW:List S->List S
 | []=>[]
 | x::l=>if x∈l then HW l else x::HW l
def WB:List D->AH->Option (D×AH)
 | [.ref n],h=>match h[n]? with
  | some (.lst xs)=>(strsOf xs).bind λss=>if ss.length<=4000/\(HW ss).length < 64 then newL ((zl (HW ss)).map .str) h else none
  | _=>none
 | _,_=>none
def aaI:List D->AH->Option (D×AH)
 | [.int n],h=>if okR n then newL ((List.range n.toNat).map λ(k:Nat)=>.int k) h else none
 | _,_=>none
def CU:List D->AH->Option (D×AH)
 | [.ref n],h=>match h[n]? with
  | some (.lst xs)=>newL xs.reverse h
  | _=>none
 | _,_=>none
def Gs (x:S):List S->Option Nat
 | []=>none
 | y::r=>if y=x then some 0 else (Gs x r).map (·+1)
def Yu:List D->AH->Option (D×AH)
 | [.tup xs,.str x],h=>(strsOf xs).bind λss=>(Gs x ss).map λi=>(.int i,h)
 | _,_=>none
def zI:List D->AH->Option (D×AH)
 | [.ref n,v],h=>match h[n]? with
  | some (.lst xs)=>vq n (xs++[v]) .non h
  | _=>none
 | _,_=>none
def pExt:List D->AH->Option (D×AH)
 | [_,.bV _],_=>none
 | [.ref n,x],h=>match h[n]?,CM h x with
  | some (.lst xs),some ys=>vq n (xs++ys) .non h
  | _,_=>none
 | _,_=>none
def Gu:List D->AH->Option (D×AH)
 | [.ref n],h=>match h[n]? with
  | some (.lst xs)=>match xs.getLast? with
   | some v=>some (v,h.set n (.lst xs.dropLast))
   | none=>none
  | _=>none
 | _,_=>none
def Yv:List D->AH->Option (D×AH)
 | [.ref n,.int i],h=>match h[n]? with
  | some (.lst xs)=>match gP xs.length i with
   | some j=>match xs[j]? with
    | some v=>some (v,h.set n (.lst (xs.eraseIdx j)))
    | none=>none
   | none=>none
  | _=>none
 | _,_=>none
def Yk:List D->AH->Option (D×AH)
 | [.ref n,.int i,v],h=>match h[n]? with
  | some (.lst xs)=>if 0<=i/\i<=xs.length then vq n (xs.take i.toNat++v::xs.drop i.toNat) .non h else none
  | _=>none
 | _,_=>none
def aaJ:List D->AH->Option (D×AH)
 | [.str sep,.ref n],h=>match h[n]? with
  | some (.lst xs)=>(strsOf xs).bind λss=>if (ss.map λs=>s.length).sum+ss.length * sep.length<=lim then some (.str (HS sep ss),h) else none
  | _=>none
 | _,_=>none
def Yw:List D->AH->Option (D×AH)
 | [.str s,.str [c]],h=>newL ((splitOn c s).map .str) h
 | _,_=>none
def dr:List D->AH->Option (D×AH)
 | [.str s,.str p],h=>some (.bl (p.isPrefixOf s),h)
 | [.str s,.str p,.int i],h=>if 0<=i/\i<=s.length then some (.bl (p.isPrefixOf (s.drop i.toNat)),h) else none
 | _,_=>none
def gQ:List D->AH->Option (D×AH)
 | [.str s,.str [c]],h=>some (.str (Z.strip c s),h)
 | _,_=>none
def CV:List D->AH->Option (D×AH)
 | [.ref n,k,v],h=>match h[n]? with
  | some (.dct kvs)=>(jX k).bind λq=>if kvs.length < lim then some (.non,h.set n (.dct (xx kvs q v))) else none
  | some (.lst xs)=>match k with
   | .int i=>match gP xs.length i with
    | some j=>some (.non,h.set n (.lst (xs.set j v)))
    | none=>none
   | _=>none
  | _=>none
 | _,_=>none
def zm (t:List (S×D)):List D->AH->Option (D×AH)
 | [.str k],h=>(t.lookup k).map λv=>(v,h)
 | _,_=>none
def zJ (t:List (S×D)):List D->AH->Option (D×AH)
 | [.str k],h=>some (.bl (t.lookup k).isSome,h)
 | _,_=>none
def aaK (xs:List D)(h:AH):Option (D×AH):=(HU xs).bind λs=>if s.length<=lim then some (.str s,h) else none
def pAttr (cs:List S)(f:S):List D->AH->Option (D×AH)
 | [.ref n],h=>match h[n]? with
  | some (.obj c fs)=>if c∈cs then (fs.lookup f).map λv=>(v,h) else none
  | _=>none
 | _,_=>none
def LU (f:S)(v:D):List (S×D)->List (S×D)
 | []=>[(f,v)]
 | (g,x)::r=>if g=f then (g,v)::r else (g,x)::LU f v r
def aaL (cs:List S)(f:S):List D->AH->Option (D×AH)
 | [v,.ref n],h=>match h[n]? with
  | some (.obj c fs)=>if c∈cs/\fs.length < 100 then some (.non,h.set n (.obj c (LU f v fs))) else none
  | _=>none
 | _,_=>none
def CW:List D->Option (List Bool)
 | []=>some []
 | .bl s::r=>(CW r).map (s::·)
 | _=>none
def aaS (yes no:List S):List D->AH->Option (D×AH)
 | [.ref n],h=>match h[n]? with
  | some (.obj c _)=>if c∈yes then some (.bl true,h) else if c∈no then some (.bl false,h) else none
  | _=>none
 | _,_=>none
def Gv (yes no:List S):List D->AH->Option (D×AH)
 | [.ref n],h=>match h[n]? with
  | some (.exc c)=>if c∈yes then some (.bl true,h) else if c∈no then some (.bl false,h) else none
  | some (.bU c _)=>if c∈yes then some (.bl true,h) else if c∈no then some (.bl false,h) else none
  | _=>none
 | _,_=>none
def Yl:List D->AH->Option (D×AH)
 | [.ref n,.str x],h=>match h[n]? with
  | some (.lst xs)=>(strsOf xs).bind λss=>(Gs x ss).map λi=>(.int i,h)
  | _=>none
 | _,_=>none
def Yx:List D->AH->Option (D×AH)
 | [.ref n,.bl b],h=>match h[n]? with
  | some (.lst xs)=>(CW xs).map λbs=>(.int (bs.count b:Nat),h)
  | _=>none
 | [.ref n,.str x],h=>match h[n]? with
  | some (.lst xs)=>(strsOf xs).map λss=>(.int (ss.count x:Nat),h)
  | _=>none
 | _,_=>none
def Ym:List D->AH->Option (D×AH)
 | [.str s,.str [c]],h=>some (.int (s.count c:Nat),h)
 | _,_=>none
def Yy:List D->AH->Option (D×AH)
 | [.str s],h=>newL (s.map λc=>.str [c]) h
 | _,_=>none
def aaT:List D->AH->Option (D×AH)
 | [.ref n],h=>match h[n]? with
  | some (.lst xs)=>(CW xs).map λbs=>(.bl (bs.all id),h)
  | _=>none
 | _,_=>none
def aaM:List D->AH->Option (D×AH)
 | [.bl b],h=>some (.int (if b then 1 else 0),h)
 | _,_=>none
def CY:List D->AH->Option (D×AH)
 | [.str s,.int k],h=>if okR k && decide (s.length * k.toNat<=lim) then some (.str (replicate k.toNat s).flatten,h) else none
 | _,_=>none
def CZ (cs:List S):List D->AH->Option (D×AH)
 | [.ref n],h=>match h[n]? with
  | some (.bU c i)=>if c∈cs then some (.int i,h) else none
  | _=>none
 | _,_=>none
def xE:List D->AH->Option (D×AH)
 | [.str x,.str y],h=>some (.bl (fU x y),h)
 | _,_=>none
def uh:List D->AH->Option (D×AH)
 | [.str x,.str y],h=>some (.bl (!fU x y),h)
 | _,_=>none
def prim (sub:Nat->Nat->Bool):Prim->List D->AH->Option (D×AH)
 | .add=>LR
 | .sub=>ug (·- ·)
 | .mul=>Gm
 | .fdiv=>CT
 | .mod=>Gn
 | .pow=>Gp
 | .neg=>vt
 | .CN=>Q_
 | .CO=>CU
 | .eq=>Bs false
 | .ne=>Bs true
 | .lt=>vw λi j=>decide (i < j)
 | .le=>vw λi j=>decide (i<=j)
 | .gt=>vw λi j=>decide (j < i)
 | .kP=>zH false
 | .D_=>yB false
 | .kQ=>yB true
 | .cA=>Gq
 | .aR=>newL
 | .idx=>Wv
 | .zF=>Ww
 | .Ea=>Wx
 | .len=>Gr
 | .gK k=>Wy sub k
 | .append=>zI
 | .pop=>Gu
 | .Bq=>dr
 | .mJ=>dr
 | .strip=>gQ
 | .fC=>CV
 | .mD t=>zm t
 | .kR t=>zJ t
 | .cD ys ns=>Gv ys ns
 | .yA=>xE
 | .xA cs=>CZ cs
 | .vp=>CY
 | .xB=>uh
inductive IK | val | rng | rev | enum | zip | chr
 deriving DecidableEq
inductive MK | list | str | dict | int | tuple
 deriving DecidableEq
def tyB (h:AH):MK->D->Bool
 | .list,.bV _=>true
 | .list,.ref n=>match h[n]? with
  | some (.lst _)=>true
  | _=>false
 | .dict,.ref n=>match h[n]? with
  | some (.dct _)=>true
  | _=>false
 | .str,.str _=>true
 | .int,.int _=>true
 | .tuple,.tup _=>true
 | _,_=>false
mutual
inductive Ex
 | var (i:Nat) | lit (d:D) | prim (p:Prim) (es:cV) | mF (a b:Ex) | ite (c:Tx) (a b:Ex) | chain (p q:Prim) (a b c:Ex) | slc (a b c:Ex) | cW (k:MK) (p:Prim) (o:Ex) (es:cV) | call (f:Nat) (es:cV) (ds:List D) | comp (k:IK) (src:cV) (nt:Nat) (cond:zK) (elt:Ex) | uT (c:S) (e:Ex)
inductive cV
 | nil | cons (e:Ex) (es:cV)
inductive Tx
 | yC (e:Ex) | and (a b:Tx) | or (a b:Tx) | not (a:Tx)
inductive zK
 | none | one (t:Tx)
end
inductive CC
 | call (f:Nat) (es:cV) (ds:List D) | ite (t:Tx) (a b:CC)
mutual
inductive Sm
 | expr (e:Ex) | asg (i:Nat) (e:Ex) | Ec (is:List Nat) (e:Ex) | fC (o i v:Ex) | ret (e:Ex) | bC (c:Tx) (a b:ao) | qR (c:Tx) (b:ao) | cz (tg:List Nat) (k:IK) (src:cV) (b:ao) | nX (c:S) (e:Ex) | zL (i:Nat) (cc:CC) (cs:List S) (j:Nat) (hs:ao)
inductive ao
 | nil | cons (s:Sm) (ss:ao)
end
abbrev PV:=D->AH->Prop
abbrev PX:=D->AH->Prop
abbrev bS:=Nat->List D->AH->PV->PX->Prop
def aaU:D->Bool
 | .tup [.int _,.int _]=>true
 | _=>false
def EF (_:PX):PX:=λ_ _=>False
abbrev It:=Nat->AH->Option (Option D)
def dR (n:Nat):It:=λi h=>match h[n]? with
 | some (.lst xs)=>some xs[i]?
 | _=>none
def jY (xs:List D):It:=λi _=>some xs[i]?
def iL (lo:Int)(n:Nat):It:=λi _=>some (if i < n then some (.int (lo+i)) else none)
def Jv (xs:List D):It:=λi _=>some (xs[i]?.map λx=>.tup [.int i,x])
def vY (n len:Nat):It:=λi h=>match h[n]? with
 | some (.lst xs)=>if xs.length=len then some (if i < len then xs[len - 1 - i]? else none) else none
 | _=>none
def HX (xs ys:List D):It:=λi _=>match xs[i]?,ys[i]? with
 | some x,some y=>some (some (.tup [x,y]))
 | _,_=>some none
def LV (xs:List D)(n:Nat):It:=λi h=>match h[n]? with
 | some (.lst ys)=>HX xs ys i h
 | _=>none
def mL (lo st:Int)(n:Nat):It:=λi _=>some (if i < n then some (.int (lo+st * i)) else none)
def iY:List D->AH->Option It
 | [.ref n],h=>match h[n]? with
  | some (.lst _)=>some (dR n)
  | _=>none
 | [.tup xs],_=>some (jY xs)
 | [.bV xs],_=>some (jY xs)
 | _,_=>none
def Yz:List D->AH->Option It
 | [.str s],_=>some (jY (s.map λc=>.str [c]))
 | _,_=>none
def iu:List D->AH->Option It
 | [.int n],_=>if okR n then some (iL 0 n.toNat) else none
 | [.int a,.int b],_=>if okR a && okR b then some (iL a (b - a).toNat) else none
 | [.int a,.int b,.int c],_=>if Br a b c then some (mL a c (if a < b then ((b - a - 1) / c+1).toNat else 0)) else none
 | _,_=>none
def iZ:List D->AH->Option It
 | [.tup xs],_=>some (Jv xs)
 | _,_=>none
def i9:List D->AH->Option It
 | [.tup xs,.tup ys],_=>some (HX xs ys)
 | [.tup xs,.ref n],h=>match h[n]? with
  | some (.lst _)=>some (LV xs n)
  | _=>none
 | _,_=>none
def gR:List D->AH->Option It
 | [.ref n],h=>match h[n]? with
  | some (.lst xs)=>some (vY n xs.length)
  | _=>none
 | _,_=>none
def bz:IK->List D->AH->Option It
 | .val=>iY
 | .rng=>iu
 | .enum=>iZ
 | .zip=>i9
 | .rev=>gR
 | .chr=>Yz
structure En where
 nx:Lo->AH->Prop
 rt:PV
 bk:Lo->AH->Prop:=λ_ _=>False
 ct:Lo->AH->Prop:=λ_ _=>False
def fV:List Nat->D->Lo->Option Lo
 | [i],v,σ=>some (σ.set i (some v))
 | is,.tup vs,σ=>if is.length=vs.length then some ((is.zip vs).foldl (λσ p=>σ.set p.1 (some p.2)) σ) else none
 | _,_,_=>none
def uj:Nat->D->Lo->Option Lo
 | 1,v,σ=>some (σ++[some v])
 | n,.tup vs,σ=>if vs.length=n then some (σ++vs.map some) else none
 | _,_,_=>none
section
variable (sub:Nat->Nat->Bool)(Γ:bS)(E:PX)
mutual
noncomputable def aF:Ex->Lo->AH->PV->Prop
 | .var i,σ,h,Q=>match σ[i]? with
  | some (some v)=>Q v h
  | _=>False
 | .lit d,_,h,Q=>Q d h
 | .prim p es,σ,h,Q=>aW es σ h λvs h1=>match prim sub p vs h1 with
  | some (v,h2)=>Q v h2
  | none=>False
 | .mF a b,σ,h,Q=>aF a σ h λx h1=>match x with
  | .bl true=>aF b σ h1 Q
  | .bl false=>Q (.bl false) h1
  | _=>False
 | .ite c a b,σ,h,Q=>bR c σ h λk h1=>if k=true then aF a σ h1 Q else aF b σ h1 Q
 | .chain p q a b c,σ,h,Q=>aF a σ h λx h1=>aF b σ h1 λy h2=>match prim sub p [x,y] h2 with
  | some (.bl true,h3)=>aF c σ h3 λz h4=>match prim sub q [y,z] h4 with
   | some (v,h5)=>Q v h5
   | none=>False
  | some (.bl false,h3)=>Q (.bl false) h3
  | _=>False
 | .slc a b c,σ,h,Q=>aF a σ h λx h1=>aF b σ h1 λy h2=>match y with
  | .int i=>aF c σ h2 λz h3=>match z with
   | .int j=>match cu x (some i) (some j) h3 with
    | some (v,h4)=>Q v h4
    | none=>False
   | _=>False
  | _=>False
 | .cW k p o es,σ,h,Q=>aF o σ h λx h1=>tyB h1 k x=true/\aW es σ h1 λvs h2=>match prim sub p (x::vs) h2 with
  | some (v,h3)=>Q v h3
  | none=>False
 | .call f es ds,σ,h,Q=>aW es σ h λvs h1=>Γ f (vs++ds) h1 Q (EF E)
 | .comp k src nt cond elt,σ,h,Q=>aW src σ h λvs h1=>match bz k vs h1 with
  | none=>False
  | some J=>∃W:Nat->Nat->AH->Prop,(∃m,W 0 m (h1++[.lst []]))/\∀i m h,W i m h->match J i h with
   | none=>False
   | some none=>Q (.ref h1.length) h
   | some (some v)=>match uj nt v σ with
    | none=>False
    | some σ'=>∃N:AH->Prop,(∀h',N h'->∃m',m' < m/\W (i+1) m' h')/\kS cond σ' h λc h2=>if c=true then aF elt σ' h2 λx h3=>match prim sub .append [.ref h1.length,x] h3 with
      | some (_,h4)=>N h4
      | none=>False
     else N h2
 | .uT c e,σ,h,Q=>aF e σ h λx h1=>match x with
  | .int i=>Q (.ref h1.length) (h1++[.bU c i])
  | _=>False
noncomputable def aW:cV->Lo->AH->(List D->AH->Prop)->Prop
 | .nil,_,h,Q=>Q [] h
 | .cons e es,σ,h,Q=>aF e σ h λv h1=>aW es σ h1 λvs h2=>Q (v::vs) h2
noncomputable def bR:Tx->Lo->AH->(Bool->AH->Prop)->Prop
 | .yC e,σ,h,Q=>aF e σ h λv h1=>match truthy h1 v with
  | some c=>Q c h1
  | none=>False
 | .and a b,σ,h,Q=>bR a σ h λc h1=>if c=true then bR b σ h1 Q else Q false h1
 | .or a b,σ,h,Q=>bR a σ h λc h1=>if c=true then Q true h1 else bR b σ h1 Q
 | .not a,σ,h,Q=>bR a σ h λc h1=>Q (!c) h1
noncomputable def kS:zK->Lo->AH->(Bool->AH->Prop)->Prop
 | .none,_,h,Q=>Q true h
 | .one t,σ,h,Q=>bR t σ h Q
end
def LY (m:S)(tab:List (S×Nat))(o:Ex)(es:cV)(σ:Lo)(h:AH)(Q:PV)(E':PX):Prop:=aF sub Γ E o σ h λx h1=>match x with
 | .ref n=>match h1[n]? with
  | some (.obj c fs)=>fs.lookup m=none/\match tab.lookup c with
   | some f=>aW sub Γ E es σ h1 λvs h2=>Γ f (x::vs) h2 Q E'
   | none=>False
  | _=>False
 | _=>False
def dI:CC->Lo->AH->PV->PX->Prop
 | .call f es ds,σ,h,Q,F=>aW sub Γ E es σ h λvs h1=>Γ f (vs++ds) h1 Q F
 | .ite t a b,σ,h,Q,F=>bR sub Γ E t σ h λk h1=>if k=true then dI a σ h1 Q F else dI b σ h1 Q F
mutual
noncomputable def wpS:Sm->En->Lo->AH->Prop
 | .expr e,K,σ,h=>aF sub Γ E e σ h λ_ h1=>K.nx σ h1
 | .asg i e,K,σ,h=>aF sub Γ E e σ h λv h1=>K.nx (σ.set i (some v)) h1
 | .Ec is e,K,σ,h=>aF sub Γ E e σ h λv h1=>match fV is v σ with
  | some σ'=>K.nx σ' h1
  | none=>False
 | .fC o i v,K,σ,h=>aF sub Γ E v σ h λx h1=>aF sub Γ E o σ h1 λy h2=>aF sub Γ E i σ h2 λz h3=>match prim sub .fC [y,z,x] h3 with
  | some (_,h4)=>K.nx σ h4
  | none=>False
 | .ret e,K,σ,h=>aF sub Γ E e σ h K.rt
 | .bC c a b,K,σ,h=>bR sub Γ E c σ h λk h1=>if k=true then aZ a K σ h1 else aZ b K σ h1
 | .qR c b,K,σ,h=>∃W:Nat->Lo->AH->Prop,(∃m,W m σ h)/\∀m σ h,W m σ h->
   bR sub Γ E c σ h λk h1=>if k=true then ∃N:Lo->AH->Prop,(∀σ' h',N σ' h'->∃m',m' < m/\W m' σ' h')/\aZ b {nx:=N,rt:=K.rt,bk:=K.nx,ct:=N} σ h1 else K.nx σ h1
 | .cz tg k src b,K,σ,h=>aW sub Γ E src σ h λvs h1=>match bz k vs h1 with
  | none=>False
  | some J=>∃W:Nat->Nat->Lo->AH->Prop,(∃m,W 0 m σ h1)/\∀i m σ h,W i m σ h->match J i h with
   | none=>False
   | some none=>K.nx σ h
   | some (some v)=>match fV tg v σ with
    | none=>False
    | some σ'=>∃N:Lo->AH->Prop,(∀σ' h',N σ' h'->∃m',m' < m/\W (i+1) m' σ' h')/\aZ b {nx:=N,rt:=K.rt,bk:=K.nx,ct:=N} σ' h
 | .nX c e,_,σ,h=>aF sub Γ E e σ h λx h1=>match x with
  | .int i=>E (.tup [.str c,.int i]) h1
  | _=>False
 | .zL i cc cs j hs,K,σ,h=>dI sub Γ E cc σ h (λv h2=>K.nx (σ.set i (some v)) h2)
   λx h2=>∃c r,x=.tup [.str c,.int r]/\c∈cs/\aZ hs {nx:=λσ' h'=>K.nx (σ'.set j none) h',rt:=K.rt,bk:=λσ' h'=>K.bk (σ'.set j none) h',ct:=λσ' h'=>K.ct (σ'.set j none) h'} (σ.set j (some (.ref h2.length))) (h2++[.bU c r])
noncomputable def aZ:ao->En->Lo->AH->Prop
 | .nil,K,σ,h=>K.nx σ h
 | .cons s ss,K,σ,h=>wpS s {K with nx:=λσ' h'=>aZ ss K σ' h'} σ h
end
end
structure Def where
 np:Nat
 nl:Nat
 body:ao
def au (sub:Nat->Nat->Bool)(P:List Def):Nat->bS
 | 0,_,_,_,_,_=>False
 | d+1,f,vs,h,Q,E=>match P[f]? with
  | some df=>vs.length=df.np/\aZ sub (au sub P d) E df.body {nx:=λ_ h=>Q .non h,rt:=Q} (vs.map some++replicate (df.nl - df.np) none) h
  | none=>False
section
variable {sub:Nat->Nat->Bool}
theorem jZ {t}:prim sub (.kR t)=zJ t:=rfl
theorem Bt {t}:prim sub (.mD t)=zm t:=rfl
theorem zM:prim sub .neg=vt:=rfl
theorem zN:prim sub .add=LR:=rfl
theorem dJ:prim sub .Bq=dr:=rfl
theorem dM:prim sub .mJ=dr:=rfl
theorem gw:prim sub .strip=gQ:=rfl
theorem qS:prim sub .yA=xE:=rfl
theorem um:prim sub .xB=uh:=rfl
theorem zO:prim sub .sub=ug (·- ·):=rfl
end
section
variable {sub:Nat->Nat->Bool}{Γ:bS}{E:PX}
section
variable {h:AH}{i j:Int}{s t:S}{x y v:D}{xs ys:List D}{a b n:Nat}{p q:Bool}
theorem LZ:prim sub .add [.int i,.int j] h=some (.int (i+j),h):=rfl
theorem cK (ha:h[a]?=some (.lst xs))(hb:h[b]?=some (.lst ys))(hl:(xs++ys).length<=16777216):prim sub .add [.ref a,.ref b] h=some (.ref h.length,h++[.lst (xs++ys)]):=by
 show (match h[a]?,h[b]? with | some (.lst xs),some (.lst ys)=>newL (xs++ys) h | _,_=>none)=_;rw[ha,hb];exact if_pos hl
theorem L5:prim sub .sub [.int i,.int j] h=some (.int (i - j),h):=rfl
theorem yD (hj:-18446744073709551616 < j/\j < 18446744073709551616):vX j=true:=nV.mpr hj
theorem zP (hj:-18446744073709551616 < j/\j < 18446744073709551616):prim sub .mul [.int i,.int j] h=some (.int (i * j),h):=if_pos (by rw[yD hj,Bool.or_true,Bool.true_or])
theorem Bu (hj:-18446744073709551616 < i/\i < 18446744073709551616):prim sub .mul [.int i,.int j] h=some (.int (i * j),h):=if_pos (by rw[yD hj,Bool.true_or,Bool.true_or])
theorem Jw (hj:-2037035976334486086268445688409378161051468393665936250636140449354381299763336706183397376 < j/\j < 2037035976334486086268445688409378161051468393665936250636140449354381299763336706183397376):zG j=true:=nW.mpr hj
theorem L7 (h0:0 < j/\j < 1073741824):prim sub .fdiv [.int i,.int j] h=some (.int (i / j),h):=if_pos ⟨h0.1,Jw (by lia)⟩
theorem kT (h0:0 < j):prim sub .mod [.int i,.int j] h=some (.int (i % j),h):=if_pos h0
theorem Ra:prim sub .neg [.int i] h=some (.int (-i),h):=rfl
theorem WC:prim sub .lt [.int i,.int j] h=some (.bl (decide (i < j)),h):=rfl
theorem WD:prim sub .le [.int i,.int j] h=some (.bl (decide (i<=j)),h):=rfl
theorem WG:prim sub .gt [.int i,.int j] h=some (.bl (decide (j < i)),h):=rfl
theorem b9 (ha:h[a]?=some (.lst xs))(hl:xs.length < 16777216):prim sub .append [.ref a,v] h=some (.non,h.set a (.lst (xs++[v]))):=by
 show (match h[a]? with | some (.lst xs)=>vq a (xs++[v]) .non h | _=>none)=_;rw[ha];exact if_pos (by simp[lim];lia)
theorem dS (ha:h[a]?=some (.lst xs)):prim sub .len [.ref a] h=some (.int xs.length,h):=by
 show (match h[a]? with | some (.lst xs)=>_ | some (.dct xs)=>_ | _=>none)=_;rw[ha]
end
theorem fO {K:En}{xs:List D}(Pv:Nat->Lo->AH->Prop)(he:∀Q:List D->AH->Prop,Q vs h1->aW sub Γ E src σ h Q)(hi:bz k vs h1=some J)(h0:Pv 0 σ h1)(hJ:∀i σ h,i<=xs.length->Pv i σ h->J i h=some xs[i]?)(hs:∀i v σ h,xs[i]?=some v->Pv i σ h->∃σ',fV tg v σ=some σ'/\aZ sub Γ E b {nx:=Pv (i+1),rt:=K.rt,bk:=K.nx,ct:=Pv (i+1)} σ' h)(hd:∀σ h,Pv xs.length σ h->K.nx σ h):wpS sub Γ E (.cz tg k src b) K σ h:=by
 erw[wpS];refine he _ ?_;erw[hi];refine ⟨λi m σ h=>m=xs.length - i/\i<=xs.length/\Pv i σ h,⟨xs.length,by simp,zero_le _,h0⟩,?_⟩;rintro i m σ h ⟨rfl,hin,p⟩;rw[hJ i σ h hin p];cases e:xs[i]? with
 | some v=>
  have hlt:i < xs.length:=(List.getElem?_eq_some_iff.mp e).1;obtain ⟨σ',eb,w⟩:=hs i v σ h e p;erw[eb];exact ⟨_,λσ h p=>⟨xs.length - (i+1),by lia,rfl,hlt,p⟩,w⟩
 | none=>
  have:i=xs.length:=by have:=List.getElem?_eq_none_iff.mp e;lia
  subst this;exact hd σ h p
theorem eK {K:En}(Pv:Nat->Lo->AH->Prop)(he:∀Q:List D->AH->Prop,Q vs h1->aW sub Γ E src σ h Q)(hi:bz .rng vs h1=some (iL lo n))(h0:Pv 0 σ h1)(hs:∀i σ h,i < n->Pv i σ h->∃σ',fV tg (.int (lo+i)) σ=some σ'/\aZ sub Γ E b {nx:=Pv (i+1),rt:=K.rt,bk:=K.nx,ct:=Pv (i+1)} σ' h)(hd:∀σ h,Pv n σ h->K.nx σ h):wpS sub Γ E (.cz tg .rng src b) K σ h:=by
 refine fO (xs:=(List.range n).map λi=>.int (lo+(i:Nat))) (J:=iL lo n) Pv he hi h0 ?_ ?_ ?_
 ·intro i σ h hin p;erw[length_map,length_range]at hin;unfold iL;by_cases hlt:i < n
  ·rw[if_pos hlt,getElem?_map,getElem?_range hlt];rfl
  ·rw[if_neg hlt,getElem?_eq_none (by simp;lia)]
 ·intro i v σ h e p;have hlt:i < n:=by have:=(List.getElem?_eq_some_iff.mp e).1;simpa using this
  rw[getElem?_map,getElem?_range hlt]at e;cases e;exact hs i σ h hlt p
 ·intro σ h p;erw[length_map,length_range]at p;exact hd σ h p
theorem Gw (Pv:Nat->Lo->AH->Prop)(h0:Pv m σ h)(hs:∀m σ h,Pv m σ h->bR sub Γ E c σ h λk h1=>if k=true then aZ sub Γ E b {nx:=λσ' h'=>∃m',m' < m/\Pv m' σ' h',rt:=K.rt,bk:=K.nx,ct:=λσ' h'=>∃m',m' < m/\Pv m' σ' h'} σ h1 else K.nx σ h1)(mono:∀σ h Q Q',(∀b h1,Q b h1->Q' b h1)->bR sub Γ E c σ h Q->bR sub Γ E c σ h Q'):wpS sub Γ E (.qR c b) K σ h:=by
 erw[wpS];refine ⟨Pv,⟨m,h0⟩,λm σ h p=>mono _ _ _ _ (λc h1 q=>?_) (hs m σ h p)⟩;cases c with
 | true=>rw[if_pos rfl]at q ⊢;exact ⟨_,λ_ _ p=>p,q⟩
 | false=>exact q
end
def nd (a b:S):Prop:=¬b < a
section
variable {sub:Nat->Nat->Bool}{Γ:bS}{E E':PX}
def jI (Γ:bS):Prop:=∀f vs h (Q Q':PV) (E E':PX),(∀v h',Q v h'->Q' v h')->(∀v h',E v h'->E' v h')->Γ f vs h Q E->Γ f vs h Q' E'
mutual
theorem bf (hΓ:jI Γ)(hE:∀x h,E x h->E' x h):∀(e:Ex) (σ:Lo) (h:AH) (Q Q':PV),(∀v h',Q v h'->Q' v h')->aF sub Γ E e σ h Q->aF sub Γ E' e σ h Q'
 | .var i,σ,h,Q,Q',m,w=>by
  erw[aF]at w ⊢;split at w
  ·rename_i v e;exact m _ _ w
  ·exact w.elim
 | .lit d,σ,h,Q,Q',m,w=>by erw[aF]at w ⊢;exact m _ _ w
 | .prim p es,σ,h,Q,Q',m,w=>by
  erw[aF]at w ⊢;refine dH hΓ hE es σ h _ _ (λvs h1 q=>?_) w;split at q
  ·rename_i e;exact m _ _ q
  ·exact q.elim
 | .mF a b,σ,h,Q,Q',m,w=>by
  erw[aF]at w ⊢;refine bf hΓ hE a σ h _ _ (λx h1 q=>?_) w;split at q
  ·exact bf hΓ hE b σ h1 _ _ m q
  ·exact m _ _ q
  ·exact q.elim
 | .ite c a b,σ,h,Q,Q',m,w=>by
  erw[aF]at w ⊢;refine cL hΓ hE c σ h _ _ (λk h1 q=>?_) w;cases k
  ·exact bf hΓ hE b σ h1 _ _ m q
  ·exact bf hΓ hE a σ h1 _ _ m q
 | .chain p q a b c,σ,h,Q,Q',m,w=>by
  erw[aF]at w ⊢;refine bf hΓ hE a σ h _ _ (λx h1 q1=>bf hΓ hE b σ h1 _ _ (λy h2 q2=>?_) q1) w;split at q2
  ·rename_i e;refine bf hΓ hE c σ _ _ _ (λz h4 q4=>?_) q2;split at q4
   ·rename_i e;exact m _ _ q4
   ·exact q4.elim
  ·rename_i e;exact m _ _ q2
  ·exact q2.elim
 | .slc a b c,σ,h,Q,Q',m,w=>by
  erw[aF]at w ⊢;refine bf hΓ hE a σ h _ _ (λx h1 q1=>bf hΓ hE b σ h1 _ _ (λy h2 q2=>?_) q1) w;split at q2
  ·refine bf hΓ hE c σ _ _ _ (λz h4 q4=>?_) q2;split at q4
   ·split at q4
    ·rename_i e;exact m _ _ q4
    ·exact q4.elim
   ·exact q4.elim
  ·exact q2.elim
 | .cW k p o es,σ,h,Q,Q',m,w=>by
  erw[aF]at w ⊢;refine bf hΓ hE o σ h _ _ (λx h1 q1=>⟨q1.1,dH hΓ hE es σ h1 _ _ (λvs h2 q=>?_) q1.2⟩) w;split at q
  ·rename_i e;exact m _ _ q
  ·exact q.elim
 | .call f es ds,σ,h,Q,Q',m,w=>by
  erw[aF]at w ⊢;exact dH hΓ hE es σ h _ _ (λvs h1 q=>hΓ _ _ _ _ _ _ _ m (λ_ _ z=>z) q) w
 | .comp k src nt cond elt,σ,h,Q,Q',m,w=>by
  erw[aF]at w ⊢;refine dH hΓ hE src σ h _ _ (λvs h1 q=>?_) w;split at q
  ·exact q.elim
  ·rename_i J e;obtain ⟨W,hW,t⟩:=q;refine ⟨W,hW,λi n h2 w2=>?_⟩;have t:=t i n h2 w2;split at t
   ·exact t.elim
   ·exact m _ _ t
   ·split at t
    ·exact t.elim
    ·obtain ⟨N,hN,t⟩:=t;refine ⟨N,hN,zQ hΓ hE cond _ _ _ _ (λc h3 q=>?_) t⟩;cases c
     ·exact q
     ·exact bf hΓ hE elt _ _ _ _ (λx h4 q=>q) q
 | .uT c e,σ,h,Q,Q',m,w=>by
  erw[aF]at w ⊢;refine bf hΓ hE e σ h _ _ (λx h1 q=>?_) w;split at q
  ·exact m _ _ q
  ·exact q.elim
theorem dH (hΓ:jI Γ)(hE:∀x h,E x h->E' x h):∀(es:cV) (σ:Lo) (h:AH) (Q Q':List D->AH->Prop),(∀v h',Q v h'->Q' v h')->aW sub Γ E es σ h Q->aW sub Γ E' es σ h Q'
 | .nil,σ,h,Q,Q',m,w=>by erw[aW]at w ⊢;exact m _ _ w
 | .cons e es,σ,h,Q,Q',m,w=>by
  erw[aW]at w ⊢;exact bf hΓ hE e σ h _ _ (λv h1 q=>dH hΓ hE es σ h1 _ _ (λvs h2 q2=>m _ _ q2) q) w
theorem cL (hΓ:jI Γ)(hE:∀x h,E x h->E' x h):∀(t:Tx) (σ:Lo) (h:AH) (Q Q':Bool->AH->Prop),(∀v h',Q v h'->Q' v h')->bR sub Γ E t σ h Q->bR sub Γ E' t σ h Q'
 | .yC e,σ,h,Q,Q',m,w=>by
  erw[bR]at w ⊢;refine bf hΓ hE e σ h _ _ (λv h1 q=>?_) w;split at q
  ·rename_i e;exact m _ _ q
  ·exact q.elim
 | .and a b,σ,h,Q,Q',m,w=>by
  erw[bR]at w ⊢;refine cL hΓ hE a σ h _ _ (λc h1 q=>?_) w;cases c
  ·exact m _ _ q
  ·exact cL hΓ hE b σ h1 _ _ m q
 | .or a b,σ,h,Q,Q',m,w=>by
  erw[bR]at w ⊢;refine cL hΓ hE a σ h _ _ (λc h1 q=>?_) w;cases c
  ·exact cL hΓ hE b σ h1 _ _ m q
  ·exact m _ _ q
 | .not a,σ,h,Q,Q',m,w=>by
  erw[bR]at w ⊢;exact cL hΓ hE a σ h _ _ (λc h1 q=>m _ _ q) w
theorem zQ (hΓ:jI Γ)(hE:∀x h,E x h->E' x h):∀(t:zK) (σ:Lo) (h:AH) (Q Q':Bool->AH->Prop),(∀v h',Q v h'->Q' v h')->kS sub Γ E t σ h Q->kS sub Γ E' t σ h Q'
 | .none,σ,h,Q,Q',m,w=>by erw[kS]at w ⊢;exact m _ _ w
 | .one t,σ,h,Q,Q',m,w=>by erw[kS]at w ⊢;exact cL hΓ hE t σ h _ _ m w
end
structure L8 (K K':En):Prop where
 nx:∀σ h,K.nx σ h->K'.nx σ h
 rt:∀v h,K.rt v h->K'.rt v h
 bk:∀σ h,K.bk σ h->K'.bk σ h
 ct:∀σ h,K.ct σ h->K'.ct σ h
theorem WH (hΓ:jI Γ)(hE:∀x h,E x h->E' x h)(mq:∀v h',Q v h'->Q' v h')(mf:∀v h',F v h'->F' v h')(w:LY sub Γ E m tab o es σ h Q F):LY sub Γ E' m tab o es σ h Q' F':=by
 unfold LY at w ⊢;refine bf hΓ hE o σ h _ _ (λx h1 q=>?_) w;split at q
 ·split at q
  ·refine ⟨q.1,?_⟩;have q:=q.2;split at q
   ·exact dH hΓ hE es σ h1 _ _ (λvs h2 z=>hΓ _ _ _ _ _ _ _ mq mf z) q
   ·exact q.elim
  ·exact q.elim
 ·exact q.elim
theorem qT (hΓ:jI Γ)(hE:∀x h,E x h->E' x h)(mq:∀v h',Q v h'->Q' v h')(mf:∀v h',F v h'->F' v h'):∀(c:CC) (σ:Lo) (h:AH),dI sub Γ E c σ h Q F->dI sub Γ E' c σ h Q' F'
 | .call f es ds,σ,h,w=>by
  erw[dI]at w ⊢;exact dH hΓ hE es σ h _ _ (λvs h2 z=>hΓ _ _ _ _ _ _ _ mq mf z) w
 | .ite t a b,σ,h,w=>by
  erw[dI]at w ⊢;refine cL hΓ hE t σ h _ _ (λk h1 q=>?_) w;cases k
  ·exact qT hΓ hE mq mf b σ h1 q
  ·exact qT hΓ hE mq mf a σ h1 q
mutual
theorem wpS_mono (hΓ:jI Γ)(hE:∀x h,E x h->E' x h):∀(s:Sm) (K K':En) (σ:Lo) (h:AH),L8 K K'->wpS sub Γ E s K σ h->wpS sub Γ E' s K' σ h
 | .expr e,K,K',σ,h,m,w=>by erw[wpS]at w ⊢;exact bf hΓ hE e σ h _ _ (λ_ _ q=>m.nx _ _ q) w
 | .asg i e,K,K',σ,h,m,w=>by erw[wpS]at w ⊢;exact bf hΓ hE e σ h _ _ (λ_ _ q=>m.nx _ _ q) w
 | .Ec is e,K,K',σ,h,m,w=>by
  erw[wpS]at w ⊢;refine bf hΓ hE e σ h _ _ (λ_ _ q=>?_) w;split at q
  ·rename_i e;exact m.nx _ _ q
  ·exact q.elim
 | .fC o i v,K,K',σ,h,m,w=>by
  erw[wpS]at w ⊢;refine bf hΓ hE v σ h _ _ (λ_ _ q1=>bf hΓ hE o σ _ _ _ (λ_ _ q2=>bf hΓ hE i σ _ _ _ (λ_ _ q=>?_) q2) q1) w;split at q
  ·rename_i e;exact m.nx _ _ q
  ·exact q.elim
 | .ret e,K,K',σ,h,m,w=>by erw[wpS]at w ⊢;exact bf hΓ hE e σ h _ _ (λ_ _ q=>m.rt _ _ q) w
 | .bC c a b,K,K',σ,h,m,w=>by
  erw[wpS]at w ⊢;refine cL hΓ hE c σ h _ _ (λk h1 q=>?_) w;cases k
  ·exact eM hΓ hE b K K' σ h1 m q
  ·exact eM hΓ hE a K K' σ h1 m q
 | .qR c b,K,K',σ,h,m,w=>by
  erw[wpS]at w ⊢;obtain ⟨W,hW,t⟩:=w;refine ⟨W,hW,λn σ h w=>cL hΓ hE c σ h _ _ (λk h1 q=>?_) (t n σ h w)⟩;cases k
  ·exact m.nx _ _ q
  ·obtain ⟨N,hN,q⟩:=q;exact ⟨N,hN,eM hΓ hE b {nx:=N,rt:=K.rt,bk:=K.nx,ct:=N} _ σ h1 ⟨λ_ _ q=>q,m.rt,m.nx,λ_ _ q=>q⟩ q⟩
 | .cz tg k src b,K,K',σ,h,m,w=>by
  erw[wpS]at w ⊢;refine dH hΓ hE src σ h _ _ (λvs h1 q=>?_) w;split at q
  ·exact q.elim
  ·rename_i J e;obtain ⟨W,hW,t⟩:=q;refine ⟨W,hW,λi n σ2 h2 w2=>?_⟩;have t:=t i n σ2 h2 w2;split at t
   ·exact t.elim
   ·exact m.nx _ _ t
   ·split at t
    ·exact t.elim
    ·rename_i eb;obtain ⟨N,hN,q⟩:=t;exact ⟨N,hN,eM hΓ hE b {nx:=N,rt:=K.rt,bk:=K.nx,ct:=N} _ _ h2 ⟨λ_ _ q=>q,m.rt,m.nx,λ_ _ q=>q⟩ q⟩
 | .nX c e,K,K',σ,h,m,w=>by
  erw[wpS]at w ⊢;refine bf hΓ hE e σ h _ _ (λx h1 q=>?_) w;split at q
  ·exact hE _ _ q
  ·exact q.elim
 | .zL i cc cs j hs,K,K',σ,h,m,w=>by
  erw[wpS]at w ⊢;refine qT hΓ hE (λv h2 z=>m.nx _ _ z) (λx h2 z=>?_) cc σ h w;obtain ⟨c,r,e1,e2,z⟩:=z;exact ⟨c,r,e1,e2,eM hΓ hE hs {nx:=λσ' h'=>K.nx (σ'.set j none) h',rt:=K.rt,bk:=λσ' h'=>K.bk (σ'.set j none) h',ct:=λσ' h'=>K.ct (σ'.set j none) h'} _ _ _ ⟨λ_ _ q=>m.nx _ _ q,m.rt,λ_ _ q=>m.bk _ _ q,λ_ _ q=>m.ct _ _ q⟩ z⟩
theorem eM (hΓ:jI Γ)(hE:∀x h,E x h->E' x h):∀(s:ao) (K K':En) (σ:Lo) (h:AH),L8 K K'->aZ sub Γ E s K σ h->aZ sub Γ E' s K' σ h
 | .nil,K,K',σ,h,m,w=>by erw[aZ]at w ⊢;exact m.nx _ _ w
 | .cons s ss,K,K',σ,h,m,w=>by
  erw[aZ]at w ⊢;exact wpS_mono hΓ hE s {K with nx:=λσ' h'=>aZ sub Γ E ss K σ' h'} _ σ h ⟨λσ' h' q=>eM hΓ hE ss K K' σ' h' m q,m.rt,m.bk,m.ct⟩ w
end
end
theorem fP:∀d,jI (au sub P d)
 | 0,f,vs,h,Q,Q',E,E',m,mE,w=>by erw[au]at w
 | d+1,f,vs,h,Q,Q',E,E',m,mE,w=>by
  erw[au]at w ⊢;split at w
  ·rename_i df e;exact ⟨w.1,eM (fP d) mE _ {nx:=λ_ h=>Q .non h,rt:=Q} _ _ _ ⟨λ_ _ q=>m _ _ q,λ_ _ q=>m _ _ q,λ_ _ q=>q,λ_ _ q=>q⟩ w.2⟩
  ·exact w.elim
section
variable {sub:Nat->Nat->Bool}{P:List Def}{E:PX}{d:Nat}
theorem wp_seq (M:Lo->AH->Prop)(w:wpS sub (au sub P d) E s {K with nx:=M} σ h)(q:∀σ' h',M σ' h'->aZ sub (au sub P d) E ss K σ' h'):wpS sub (au sub P d) E s {K with nx:=λσ' h'=>aZ sub (au sub P d) E ss K σ' h'} σ h:=
 wpS_mono (fP d) (λ_ _ z=>z) s {K with nx:=M} _ σ h ⟨q,λ_ _ q=>q,λ_ _ q=>q,λ_ _ q=>q⟩ w
theorem qU (Pv:Nat->Lo->AH->Prop)(h0:Pv m σ h)(hs:∀m σ h,Pv m σ h->bR sub (au sub P d) E c σ h λk h1=>if k=true then aZ sub (au sub P d) E b {nx:=λσ' h'=>∃m',m' < m/\Pv m' σ' h',rt:=K.rt,bk:=K.nx,ct:=λσ' h'=>∃m',m' < m/\Pv m' σ' h'} σ h1 else K.nx σ h1):wpS sub (au sub P d) E (.qR c b) K σ h:=
 Gw Pv h0 hs λσ h Q Q' m w=>cL (fP d) (λ_ _ z=>z) c σ h _ _ m w
theorem Jx {k:IK}{src:cV}{nt:Nat}{cond:zK}{elt:Ex}{σ:Lo}{h h1:AH}{Q:PV}{J:It}{xs vs:List D}(p:D->Bool)(g:D->D)(he:∀Q:List D->AH->Prop,Q vs h1->aW sub (au sub P d) E src σ h Q)(hi:bz k vs h1=some J)(hl:xs.length<=16777216)(hJ:∀(i:Nat) h',h1<+:h'->J i h'=some xs[i]?)(hs:∀(i:Nat) v h2,xs[i]?=some v->h1<+:h2->∃σ',uj nt v σ=some σ'/\kS sub (au sub P d) E cond σ' h2 λc h3=>c=p v/\h2<+:h3/\(c=true->aF sub (au sub P d) E elt σ' h3 λx h4=>x=g v/\h3<+:h4))(q:∀h',h1<+:h'->h'[h1.length]?=some (.lst ((xs.filter p).map g))->Q (.ref h1.length) h'):aF sub (au sub P d) E (.comp k src nt cond elt) σ h Q:=by
 erw[aF];refine he _ ?_;erw[hi];refine ⟨λi m h'=>m=xs.length - i/\i<=xs.length/\h1<+:h'/\h'[h1.length]?=some (.lst (((xs.take i).filter p).map g)),⟨xs.length,by simp,zero_le _,prefix_append _ _,by simp⟩,?_⟩;rintro i m h2 ⟨rfl,hin,pr,ha⟩;rw[hJ i h2 pr];cases e:xs[i]? with
 | none=>
  have:i=xs.length:=by have:=List.getElem?_eq_none_iff.mp e;lia
  subst this;rw[take_length]at ha;exact q h2 pr ha
 | some v=>
  have hlt:i < xs.length:=(List.getElem?_eq_some_iff.mp e).1;obtain ⟨σ',em,w⟩:=hs i v h2 e pr;erw[em];refine ⟨λh'=>h1<+:h'/\h'[h1.length]?=some (.lst (((xs.take (i+1)).filter p).map g)),λh' q'=>⟨xs.length - (i+1),by lia,rfl,hlt,q'.1,q'.2⟩,zQ (fP d) (λ_ _ z=>z) _ _ _ _ _ (λc h3 q3=>?_) w⟩;obtain ⟨hc,bW,q3⟩:=q3;have ht:xs.take (i+1)=xs.take i++[v]:=by rw[take_succ,e];rfl
  have L9:∀{a b:AH} {n:Nat} {o:AO},a<+:b->a[n]?=some o->b[n]?=some o:=λ{a b n o} pp ee=>by
   obtain ⟨l,rfl⟩:=pp;rw[getElem?_append_left (List.getElem?_eq_some_iff.mp ee).1];exact ee
  cases hcc:c with
  | false=>
   rw[if_neg (by decide)];refine ⟨pr.trans bW,?_⟩;rw[ht,List.filter_append,List.filter_cons_of_neg (by rw[<-hc,hcc];decide)];simpa using L9 bW ha
  | true=>
   rw[if_pos rfl];refine bf (fP d) (λ_ _ z=>z) _ _ _ _ _ (λx h4 q4=>?_) (q3 hcc);obtain ⟨rfl,pr4⟩:=q4;have UY:=L9 (bW.trans pr4) ha;have hll:(((xs.take i).filter p).map g).length < 16777216:=by
    have h1:=List.length_filter_le p (xs.take i);rw[length_take]at h1;rw[length_map];lia
   rw[b9 UY hll];refine ⟨?_,?_⟩
   ·obtain ⟨l,rfl⟩:=(pr.trans (bW.trans pr4))
    rw[List.set_append_right _ _ (le_refl _)];exact prefix_append _ _
   ·rw[getElem?_set_self (List.getElem?_eq_some_iff.mp UY).1,ht,List.filter_append,List.filter_cons_of_pos (by rw[<-hc,hcc])];simp
end
end Z
namespace L2
open PySem PySem.Spec PyProof.Rows
abbrev Key:=Sum Int Str
def uo:Key->Value->Bool
 | .inl k,v=>Value.isInt k v
 | .inr x,v=>Value.isStrOf x v
def WL (w:World):Key->Int
 | .inl k=>hashInt k
 | .inr x=>hashStr w x
theorem b_:∀{k:Key} {v:Value},uo k v=true->(∃i t,k=Sum.inl i/\v=Value.int i t)\/(∃x t,k=Sum.inr x/\v=Value.str x t)
 | .inl i,v,h=>by
  obtain ⟨t,e⟩:=Value.isInt_shape (k:=i) (v:=v) h;exact .inl ⟨i,t,rfl,e⟩
 | .inr x,v,h=>by
  obtain ⟨t,e⟩:=Value.isStrOf_shape (x:=x) (v:=v) h;exact .inr ⟨x,t,rfl,e⟩
theorem Ed (i:Int)(t:Tok):uo (.inl i) (.int i t)=true:=by simp[uo,Value.isInt]
theorem Ee (x:Str)(t:Tok):uo (.inr x) (.str x t)=true:=by simp[uo,Value.isStrOf]
theorem L_ (a b:Int):decide ((Sum.inl a:Key)=Sum.inl b)=(a == b):=by
 by_cases e:a=b
 ·subst e;simp
 ·have h:¬(Sum.inl a:Key)=Sum.inl b:=λq=>e (Sum.inl.inj q);rw[decide_eq_false h];exact (beq_eq_false_iff_ne.mpr e).symm
theorem Ma (a b:Str):decide ((Sum.inr a:Key)=Sum.inr b)=decide (a=b):=by
 by_cases e:a=b
 ·subst e;simp
 ·have h:¬(Sum.inr a:Key)=Sum.inr b:=λq=>e (Sum.inr.inj q);rw[decide_eq_false h,decide_eq_false e]
theorem Mb (a:Int)(b:Str):decide ((Sum.inl a:Key)=Sum.inr b)=false:=decide_eq_false (λq=>nomatch q)
theorem Md (a:Str)(b:Int):decide ((Sum.inr a:Key)=Sum.inl b)=false:=decide_eq_false (λq=>nomatch q)
def b5 (prog:Program)(w:World):PySem.KeyKind prog w Key where
 is:=uo
 hash:=WL w
 inj:=λv a b ha hb=>by
  rcases b_ ha with ⟨i,t,rfl,rfl⟩ | ⟨x,t,rfl,rfl⟩
  ·rcases b_ hb with ⟨j,u,rfl,e⟩ | ⟨y,u,rfl,e⟩
   ·injection e with e1 _;rw[e1]
   ·exact nomatch e
  ·rcases b_ hb with ⟨j,u,rfl,e⟩ | ⟨y,u,rfl,e⟩
   ·exact nomatch e
   ·injection e with e1 _;rw[e1]
 byValue:=λk v h=>by
  rcases b_ h with ⟨i,t,rfl,rfl⟩ | ⟨x,t,rfl,rfl⟩<;>rfl
 pyHash:=λhv h=>by
  rcases b_ hv with ⟨i,t,rfl,rfl⟩ | ⟨x,t,rfl,rfl⟩
  ·exact wpAny_pyHash_int h
  ·exact wpAny_pyHash_str h
 eqBool:=λhu hv h=>by
  rcases b_ hu with ⟨i,t,rfl,rfl⟩ | ⟨x,t,rfl,rfl⟩
  ·rcases b_ hv with ⟨j,u,rfl,rfl⟩ | ⟨y,u,rfl,rfl⟩
   ·rw[L_]at h;exact wpAny_eqBool_int h
   ·rw[Mb]at h;exact SeqAt.EqAt.int_str i t y u _ _ _ _ h
  ·rcases b_ hv with ⟨j,u,rfl,rfl⟩ | ⟨y,u,rfl,rfl⟩
   ·rw[Md]at h;exact SeqAt.EqAt.str_int x t j u _ _ _ _ h
   ·rw[Ma]at h;exact wpAny_eqBool_str h
 «strs»:=λk x t v h=>by
  rcases b_ h with ⟨i,u,rfl,e⟩ | ⟨y,u,rfl,e⟩
  ·exact nomatch e
  ·injection e with e1 _
   subst e1;cases v<;>rfl
theorem Bc (prog:Program)(w:World)(i:Int)(t:Tok):(b5 prog w).is (.inl i) (.int i t)=true:=Ed i t
theorem mG (prog:Program)(w:World)(x:Str)(t:Tok):(b5 prog w).is (.inr x) (.str x t)=true:=Ee x t
inductive V where
 | non | bl (b:Bool) | int (i:Int) | str (x:Str) | yE (b:Array UInt8) | flt (b:UInt64) | ref (a:Addr) | ty (n:String)
 deriving DecidableEq
def RelV:V->Value->Prop
 | .non,u=>u=Value.none
 | .bl b,u=>u=Value.bool b
 | .int i,u=>∃t,u=Value.int i t
 | .str x,u=>∃t,u=Value.str x t
 | .yE b,u=>∃t,u=Value.bytes b t
 | .flt b,u=>∃t,u=Value.float b t
 | .ref a,u=>u=Value.ref a
 | .ty n,u=>u=Value.type n
abbrev Vals:List V->List Value->Prop:=Paired RelV
theorem Vals.length (r:Vals xs us):xs.length=us.length:=Paired.length r
theorem Vals.get:∀{xs:List V} {us:List Value} {i:Nat} {x:V},Vals xs us->xs[i]?=some x->∃u,us[i]?=some u/\RelV x u
 | _,_,_,_,.nil,e=>by simp at e
 | _,_,0,_,.cons r _,e=>by simp at e;subst e;exact ⟨_,rfl,r⟩
 | _,_,i+1,x,.cons _ t,e=>by
  obtain ⟨u,h1,h2⟩:=Vals.get (i:=i) (x:=x) t (by simpa using e);exact ⟨u,by simpa using h1,h2⟩
theorem Vals.set (r:RelV x u):∀{xs:List V} {us:List Value} (i:Nat),Vals xs us->Vals (xs.set i x) (us.set i u)
 | _,_,_,.nil=>.nil
 | _,_,0,.cons _ t=>.cons r t
 | _,_,i+1,.cons q t=>.cons q (Vals.set r i t)
theorem Vals.append:∀{xs ys:List V} {us ws:List Value},Vals xs us->Vals ys ws->Vals (xs++ys) (us++ws)
 | _,_,_,_,.nil,s=>s
 | _,_,_,_,.cons r t,s=>.cons r (Vals.append t s)
theorem Vals.take:∀{xs:List V} {us:List Value} (n:Nat),Vals xs us->Vals (xs.take n) (us.take n)
 | _,_,0,_=>.nil
 | _,_,_+1,.nil=>.nil
 | _,_,n+1,.cons r t=>.cons r (Vals.take n t)
theorem Vals.drop:∀{xs:List V} {us:List Value} (n:Nat),Vals xs us->Vals (xs.drop n) (us.drop n)
 | _,_,0,r=>r
 | _,_,_+1,.nil=>.nil
 | _,_,n+1,.cons _ t=>Vals.drop n t
def jg:Option V->Option Value->Prop
 | some v,some u=>RelV v u
 | none,none=>True
 | _,_=>False
def KV {κ:Type}:List (κ×V)->List (κ×Value)->Prop:=Paired λ(p:κ×V) (q:κ×Value)=>p.1=q.1/\RelV p.2 q.2
def kV:Key->V
 | .inl i=>.int i
 | .inr x=>.str x
inductive HO where
 /-- a list -/
 | lst (xs:List V)
 /-- a tuple (never changes) -/
 | tup (xs:List V)
 /-- a dict whose keys are ints and texts;one whose keys are tuples of ints and texts (the empty one is both) -/
 | dK (kvs:List (Key×V)) | dT (kvs:List (List Key×V))
 /-- a set of ints:its members,its size -/
 | set (S:Int->Bool) (n:Nat)
 /-- an instance of the class at C,its dict at dx,its attributes -/
 | ins (C dx:Addr) (fs:List (Str×V))
 /-- the dict of the instance at x -/
 | own (x:Addr)
 /-- the dict of an exception -/
 | xd (fs:List (Str×V))
 /-- a bound method,f of x -/
 | met (f x:Addr)
 /-- a range object lo,lo+1,.. below hi -/
 | rng (lo hi:Int)
 /-- a thing that is known to the object (the script;a dict while a loop walks it):read,never written while it is so -/
 | bq (o:Obj) (u:HO)
 /-- a code object's table -/
 | uU (ps:Array Value)
 /-- any other thing,by what is true of its one object (a def of one's own:aaV a S n:=HO.ext λh=>..) -/
 | ext (φ:Heap->Prop)
abbrev Hp:=Addr->Option HO
def upd (H:Hp)(a:Addr)(o:HO):Hp:=λb=>if b=a then some o else H b
theorem aK:upd H a o a=some o:=by unfold upd;rw[if_pos rfl]
theorem aB (h:b≠a):upd H a o b=H b:=by unfold upd;rw[if_neg h]
theorem C0 {H:Hp}{a b:Addr}{o u:HO}(h:H a=some o)(h':H b=some u)(d:o≠u):a≠b:=by
 intro e;subst e;rw[h]at h';exact d (Option.some.inj h')
theorem bQ {H:Hp}{a b:Addr}{o:HO}(h:H a=some o)(h':H b=none):a≠b:=by
 intro e;subst e;rw[h]at h';cases h'
def qV (h:Heap)(a:Addr)(items:Array Value):Prop:=IsTup h a items/\∃o,h.get? a=some o/\o.dict=none
theorem qV.new (h:Heap)(items:Array Value):qV (h.push {cls:=.type "tuple",data:=.seq items}) h.objs.size items:=⟨IsTup.new h items,_,get?_push_size _ rfl,rfl⟩
section
variable (P:Program)(w:World)
def bD (H:Hp)(h:Heap)(a:Addr):HO->Prop
 | .lst xs=>xs.length<=sizeLine/\∃(its:List Value) (n:Nat),Vals xs its/\h.get? a=some {cls:=.type "list",data:=.seq its.toArray n}
 | .tup xs=>xs.length<=sizeLine/\∃its:List Value,Vals xs its/\qV h a its.toArray
 | .dK kvs=>kvs.length<=sizeLine/\(a == sysModules)=false/\∃vs,KV kvs vs/\h.DictOf (b5 P w) a vs
 | .dT kvs=>kvs.length<=sizeLine/\(a == sysModules)=false/\∃xs:List (List Key×Addr×Value),
   Paired (λ(p:List Key×V) (q:List Key×Addr×Value)=>p.1=q.1/\H q.2.1=some (.tup (p.1.map kV))/\RelV p.2 q.2.2) kvs xs/\
   ∃o es ep,h.get? a=some o/\o.ExactDict/\o.data=.dict es ep/\es.toList=xs.map (entryOfKey (tupleKind (b5 P w)))/\(xs.map (·.1)).Nodup
 | .set S n=>h.SetOf (intKind P w) a S n
 | .ins C dx fs=>H dx=some (.own a)/\fs.length<=1000/\dx≠a/\h.get? a=some (PySem.W.instObj C dx)/\
   ∃mA,h.Ns1 dx mA/\(∀f,jg (fs.lookup f) (mA f))/\PySem.Within mA (fs.map (·.1))
 | .own _=>∃o,h.get? a=some o
 | .xd fs=>∃mA,h.Ns1 a mA/\∀f,jg (fs.lookup f) (mA f)
 | .rng lo hi=>∃t u v,h.get? a=some {cls:=.type "range",data:=.fields #[.int lo t,.int hi u,.int 1 v]}
 | .bq o u=>h.get? a=some o/\bD H h a u
 | .uU ps=>h.get? a=some {cls:=.none,data:=.fields ps}
 | .met f x=>h.get? a=some (methodObj (.ref f) (.ref x))
 | .ext φ=>φ h/\(∃o,h.get? a=some o)/\∀h1 h2:Heap,φ h1->(∀o,h1.get? a=some o->h2.get? a=some o)->φ h2
def cE (H:Hp)(h:Heap):Prop:=∀a o,H a=some o->bD P w H h a o
end
section
variable {P:Program}{w:World}{H H':Hp}{h h':Heap}{a:Addr}{o:HO}
theorem bD.lt (x:bD P w H h a o):a < h.objs.size:=by
 cases o with
 | lst xs=>obtain ⟨_,_,_,_,e⟩:=x;exact lt_size e
 | tup xs=>obtain ⟨_,_,_,p⟩:=x;exact p.1.lt
 | dK kvs=>obtain ⟨_,_,_,_,o,_,_,e,_⟩:=x;exact lt_size e
 | dT kvs=>obtain ⟨_,_,_,_,o,_,_,e,_⟩:=x;exact lt_size e
 | set S n=>obtain ⟨o,_,_,_,e,_⟩:=x;exact lt_size e
 | ins C dx fs=>obtain ⟨_,_,_,e,_⟩:=x;exact lt_size e
 | own y=>obtain ⟨_,e⟩:=x;exact lt_size e
 | xd fs=>obtain ⟨_,⟨_,_,_,e,_⟩,_⟩:=x;exact lt_size e
 | rng lo hi=>obtain ⟨_,_,_,e⟩:=x;exact lt_size e
 | bq ob u=>obtain ⟨e,_⟩:=x;exact lt_size e
 | uU ps=>exact lt_size (show h.get? a=some _ from x)
 | met f y=>exact lt_size (show h.get? a=some _ from x)
 | ext φ=>obtain ⟨_,⟨_,e⟩,_⟩:=x;exact lt_size e
theorem Paired.Gx {α β:Type}{F G:α->β->Prop}:∀{l₁:List α} {l₂:List β},Paired F l₁ l₂->(∀a b,F a b->G a b)->Paired G l₁ l₂
 | _,_,.nil,_=>.nil
 | _,_,.cons r t,f=>.cons (f _ _ r) (Paired.Gx t f)
theorem bD.stay (x:bD P w H h a o)(k:∀b u,(b=a\/H b=some (.own a))->h.get? b=some u->h'.get? b=some u)(ho:∀b,H b=some (.own a)->H' b=some (.own a))(ht:∀b xs,H b=some (.tup xs)->H' b=some (.tup xs)):bD P w H' h' a o:=by
 induction o with
 | lst xs=>obtain ⟨z,its,n,r,e⟩:=x;exact ⟨z,its,n,r,k _ _ (.inl rfl) e⟩
 | tup xs=>obtain ⟨z,its,r,⟨ob,e,c⟩,ob',e',d⟩:=x;exact ⟨z,its,r,⟨ob,k _ _ (.inl rfl) e,c⟩,ob',k _ _ (.inl rfl) e',d⟩
 | dK kvs=>obtain ⟨z,y,vs,r,ob,es,ep,e,c⟩:=x;exact ⟨z,y,vs,r,ob,es,ep,k _ _ (.inl rfl) e,c⟩
 | dT kvs=>
  obtain ⟨z,y,xs,r,ob,es,ep,e,c⟩:=x;exact ⟨z,y,xs,Paired.Gx r λp q z=>⟨z.1,ht _ _ z.2.1,z.2.2⟩,ob,es,ep,k _ _ (.inl rfl) e,c⟩
 | set S n=>obtain ⟨ob,es,ep,t,e,c⟩:=x;exact ⟨ob,es,ep,t,k _ _ (.inl rfl) e,c⟩
 | ins C dx fs=>
  obtain ⟨d,z,ne,e,mA,⟨od,es,ep,e2,c⟩,r⟩:=x;exact ⟨ho _ d,z,ne,k _ _ (.inl rfl) e,mA,⟨od,es,ep,k _ _ (.inr d) e2,c⟩,r⟩
 | own y=>obtain ⟨ob,e⟩:=x;exact ⟨ob,k _ _ (.inl rfl) e⟩
 | xd fs=>obtain ⟨mA,⟨od,es,ep,e,c⟩,r⟩:=x;exact ⟨mA,⟨od,es,ep,k _ _ (.inl rfl) e,c⟩,r⟩
 | rng lo hi=>obtain ⟨t,u,v,e⟩:=x;exact ⟨t,u,v,k _ _ (.inl rfl) e⟩
 | bq ob u ih=>obtain ⟨e,q⟩:=x;exact ⟨k _ _ (.inl rfl) e,ih q⟩
 | uU ps=>
  have e:h.get? a=some {cls:=.none,data:=.fields ps}:=x;show h'.get? a=some {cls:=.none,data:=.fields ps};exact k a _ (.inl rfl) e
 | met f y=>
  have e:h.get? a=some (methodObj (.ref f) (.ref y)):=x;show h'.get? a=some (methodObj (.ref f) (.ref y));exact k a _ (.inl rfl) e
 | ext φ=>obtain ⟨p,⟨o,e⟩,st⟩:=x;exact ⟨st _ _ p λo q=>k _ _ (.inl rfl) q,⟨o,k _ _ (.inl rfl) e⟩,st⟩
theorem cE.lt (x:cE P w H h)(e:H a=some o):a < h.objs.size:=(x a o e).lt
theorem cE.fresh (x:cE P w H h)(e:h.objs.size<=a):H a=none:=by
 cases q:H a with
 | none=>rfl
 | some u=>exact absurd (lt_of_lt_of_le (x.lt q) e) (lt_irrefl _)
theorem cE.kept (x:cE P w H h)(k:∀b u,h.get? b=some u->h'.get? b=some u):cE P w H h':=λa o e=>
 (x a o e).stay (λb u _ q=>k b u q) (λ_ q=>q) λ_ _ q=>q
theorem cE.laid (x:cE P w H h)(k:∀b u,h.get? b=some u->h'.get? b=some u)(hp:h.objs.size<=a)(new:bD P w (upd H a o) h' a o):cE P w (upd H a o) h':=λb u e=>by
 have hn:=x.fresh hp;by_cases hb:b=a
 ·subst hb;rw[aK]at e;cases e;exact new
 ·rw[aB hb]at e;exact (x b u e).stay (λc v _ q=>k c v q) (λc q=>by rw[aB (bQ q hn)];exact q) λc xs q=>by rw[aB (bQ q hn)];exact q
end
def Rd (H:Hp)(a:Addr)(u:HO):Prop:=H a=some u\/∃o,H a=some (.bq o u)
theorem Rd.ok (r:Rd H a u)(x:cE P w H h):bD P w H h a u:=by
 rcases r with r | ⟨o,r⟩
 ·exact x a u r
 ·obtain ⟨_,q⟩:=x a _ r;exact q
def Ef:Option HO->Prop
 | some (.lst _)=>True
 | some (.dK _)=>True
 | some (.dT _)=>True
 | some (.set _ _)=>True
 | some (.ins _ _ _)=>True
 | some (.ext _)=>True
 | _=>False
section
variable {P:Program}{w:World}{H:Hp}{h h':Heap}{x e:Addr}{o':HO}
theorem cE.write (ok:cE P w H h)(mu:Ef (H x))(he:e=x\/H e=some (.own x))(k:∀b u,b≠e->h.get? b=some u->h'.get? b=some u)(heo:∃u,h'.get? e=some u)(new:bD P w (upd H x o') h' x o'):cE P w (upd H x o') h':=λb u q=>by
 have Mf:∀c y,H c=some (.own y)->c≠x:=λc y r z=>by subst z;rw[r]at mu;exact mu
 have WM:∀c xs,H c=some (.tup xs)->c≠x:=λc xs r z=>by subst z;rw[r]at mu;exact mu
 by_cases hb:b=x
 ·subst hb;rw[aK]at q;cases q;exact new
 ·rw[aB hb]at q;by_cases hbe:b=e
  ·have q':H b=some (.own x):=by
    rcases he with z | z
    ·exact absurd (hbe.trans z) hb
    ·rw[hbe];exact z
   rw[q]at q';cases q';obtain ⟨v,hv⟩:=heo;exact ⟨v,by rw[hbe];exact hv⟩
  ·refine (ok b u q).stay (λc v hc r=>k c v ?_ r) (λc r=>by rw[aB (Mf c b r)];exact r) λc xs r=>by rw[aB (WM c xs r)];exact r
   rcases hc with rfl | hc
   ·exact hbe
   ·rintro rfl;rcases he with z | z
    ·exact Mf c b hc z
    ·rw[hc]at z;cases z;exact hb rfl
end
structure Un (fs ex:List Addr)(H H':Hp)(h h':Heap):Prop where
 keep:∀b o,h.get? b=some o->H b=none->b∉fs->b∉ex->h'.get? b=some o
 slot:∀b o,h.get? b=some o->H b=none->b∈fs->b∉ex->∃sl,h'.get? b=some {o with slots:=sl}
 free:∀b o,h.get? b=some o->H b=none->b∉ex->H' b=none
 there:∀b o,h.get? b=some o->b∉ex->∃o',h'.get? b=some o'
 tups:∀b xs,H b=some (.tup xs)->H' b=some (.tup xs)
 fE:∀b o u,H b=some (.bq o u)->H' b=some (.bq o u)
 gx:∀b ps,H b=some (.uU ps)->∃more,H' b=some (.uU (ps++more))
section
variable {fs fs' ex ex':List Addr}{H H1 H2:Hp}{h h1 h2 h':Heap}{a x e:Addr}{o:HO}
theorem Un.any (u:Un fs ex H H1 h h1)(q:h.get? b=some ob)(n:H b=none)(hx:b∉ex):∃sl,h1.get? b=some {ob with slots:=sl}:=by
 by_cases hb:b∈fs
 ·exact u.slot b ob q n hb hx
 ·exact ⟨ob.slots,u.keep b ob q n hb hx⟩
theorem Un.kept (k:∀b u,h.get? b=some u->h'.get? b=some u):Un fs ex H H h h':=
 ⟨λb ob q _ _ _=>k b ob q,λb ob q _ _ _=>⟨ob.slots,k b ob q⟩,λ_ _ _ n _=>n,λb ob q _=>⟨ob,k b ob q⟩,λ_ _ q=>q,λ_ _ _ q=>q,λ_ ps q=>⟨#[],by rw[q];simp⟩⟩
theorem Un.refl:Un fs ex H H h h:=Un.kept λ_ _ q=>q
theorem Un.laid (k:∀b u,h.get? b=some u->h'.get? b=some u)(hp:h.objs.size<=a)(hn:H a=none):Un fs ex H (upd H a o) h h' where
 keep:=λb u q _ _ _=>k b u q
 slot:=λb u q _ _ _=>⟨u.slots,k b u q⟩
 free:=λb u q n _=>by rw[aB (ne_of_lt (lt_of_lt_of_le (lt_size q) hp))];exact n
 there:=λb u q _=>⟨u,k b u q⟩
 tups:=λb xs q=>by rw[aB (bQ q hn)];exact q
 fE:=λb u xs q=>by rw[aB (bQ q hn)];exact q
 gx:=λb ps q=>⟨#[],by rw[aB (bQ q hn),q];simp⟩
theorem Un.write (mu:Ef (H x))(he:e=x\/H e=some (.own x))(k:∀b u,b≠e->h.get? b=some u->h'.get? b=some u)(heo:∃u,h'.get? e=some u):Un fs ex H (upd H x o) h h':=by
 have hx:∀b,H b=none->b≠x:=λb n z=>by subst z;rw[n]at mu;exact mu
 have hb:∀b,H b=none->b≠e:=λb n z=>by
  subst z;rcases he with r | r
  ·exact hx b n r
  ·rw[n]at r;cases r
 have hm:∀b u,H b=some u->¬Ef (some u)->b≠x:=λb u q nm z=>by subst z;rw[q]at mu;exact nm mu
 refine ⟨λb u q n _ _=>k b u (hb b n) q,λb u q n _ _=>⟨u.slots,k b u (hb b n) q⟩,λb u q n _=>by rw[aB (hx b n)];exact n,λb u q _=>?_,
  λb xs q=>by rw[aB (hm b _ q λz=>z)];exact q,λb u xs q=>by rw[aB (hm b _ q λz=>z)];exact q,λb ps q=>⟨#[],by rw[aB (hm b _ q λz=>z),q];simp⟩⟩
 by_cases hbe:b=e
 ·subst hbe;exact heo
 ·exact ⟨u,k b u hbe q⟩
end
def HY (h:Heap)(H:Hp):List Addr:=(List.range h.objs.size).filter λa=>(H a).isSome
def nY (h:Heap)(H:Hp):Heap:=PySem.W.hideAll h (HY h H)
theorem Eg (h:Heap)(H:Hp):(nY h H).objs.size=h.objs.size:=PySem.W.hideAll_size _ _
theorem Gy (e:h.get? b=some o)(n:H b=none):(nY h H).get? b=some o:=
 PySem.W.hideAll_get _ e λhm=>by
  have q:(H b).isSome=true:=(List.mem_filter.mp hm).2;rw[n]at q;simp at q
theorem Jy (e:(nY h H).get? b=some o):h.get? b=some o/\H b=none:=by
 have e':h.get? b=some o:=PySem.W.of_hideAll (HY h H) e;refine ⟨e',?_⟩;cases q:H b with
 | none=>rfl
 | some x=>
  have hm:b∈HY h H:=List.mem_filter.mpr ⟨mem_range.mpr (lt_size e'),by simp[q]⟩;have z:(nY h H).get? b=none:=PySem.W.hideAll_none (HY h H) hm;rw[z]at e;cases e
def Jz (g h:Heap)(L:Addr):List (Addr×Obj):=(List.range h.objs.size).filterMap λa=>if a=L\/(g.get? a).isSome=true then none else (h.get? a).map λo=>(a,o)
def rest (g h:Heap)(L d:Addr):List (Addr×Obj):=(Jz g h L).filter λp=>decide (p.1≠d)
structure Mod (K:Frag)(mg:Str->Option Value)(base:Heap):Prop where
 uV:K.In base
 glob:base.Ns mainGlobals mg
 blt:∃mb,base.Ns builtinsNs mb/\∀x:Str,x≠"__name__"->mb x=bootBuiltins x
 nolimit:base.NoLimit
structure Cx where
 prog:Program
 w:World
 K:Frag
 mg:Str->Option Value
 base:Heap
 A:Around
 N:List Str
 s₀:Shared
 H₀:Hp
 env:Env
 outer:List Env
 stack:List Env
 ex:List Addr
 fn:Str->Bool
 calm:Bool
 pn:List (Addr×Obj)
 xe:Value->Shared->Prop
def frs (l:List Env):List Addr:=l.filterMap (·.frame)
abbrev Cx.fs (X:Cx):List Addr:=frs X.outer
def vZ (sc:Scope)(x:Str):Prop:=sc.names.lookup x=some .local\/sc.names.lookup x=some .cell\/sc.names.lookup x=some .free
def Loc (sc:Scope)(x:Str):Prop:=sc.names.lookup x=some .local\/sc.names.lookup x=some .cell
def Look (env:Env)(h:Heap)(m:Str->Option Value)(x:Str)(u:Value):Prop:=
 (env.kindOf x=some .local/\m x=some u)\/((env.kindOf x=some .cell\/env.kindOf x=some .free)/\∃c,env.cells.lookup x=some c/\h.IsCell c (some u))
structure Cx.Ok (X:Cx):Prop where
 mod:Mod X.K X.mg X.base
 kind:X.env.scope.kind=.function
 glob:X.env.globals=mainGlobals
 blt:X.env.builtins=builtinsNs
 above:X.s₀.heap.objs.size<=X.env.locals
 inj:∀x y c,X.env.cells.lookup x=some c->X.env.cells.lookup y=some c->x=y
 has:∀x,(X.env.kindOf x=some .cell\/X.env.kindOf x=some .free)->∃c,X.env.cells.lookup x=some c
 cab:∀x c,X.fn x=true->X.env.cells.lookup x=some c->X.s₀.heap.objs.size<=c
 hd:X.calm=true->X.A.handled=none
 frames:X.A.frames=some X.stack
 stk:X.stack=X.outer\/(X.stack=X.env::X.outer/\X.env.frame=some X.env.locals)
 Mg:∀b∈X.ex,b≠X.env.locals/\∀x c,X.env.cells.lookup x=some c->c≠b
 bs:∀b o,X.base.get? b=some o->X.s₀.heap.get? b=some o/\X.H₀ b=none
 uW:X.base.objs.size<=X.s₀.heap.objs.size
 jh:∀b o,X.base.get? b=some o->b∉X.ex
 zR:∀b∈X.ex,b∉X.fs
 iz:X.s₀.heap.FunFrames X.base X.outer
 yF:∀b∈X.fs,X.H₀ b=none
structure Inv (X:Cx)(pins:List (Addr×Obj))(σ:List (Option V))(H:Hp)(s:Shared):Prop where
 ok:X.Ok
 os:s.os=X.s₀.os
 bare:AllBare s.gens
 base:Un X.fs X.ex X.H₀ H X.s₀.heap s.heap
 loc:∃m,s.heap.Ns X.env.locals m/\∀(i:Nat) (x:Str) (v:V),X.N[i]?=some x->σ[i]?=some (some v)->vZ X.env.scope x->∃u,RelV v u/\Look X.env s.heap m x u
 cell:∀x c,X.env.cells.lookup x=some c->∃v,s.heap.IsCell c v
 free:H X.env.locals=none
 cQ:∀x c,X.env.cells.lookup x=some c->H c=none
 pin:∀p∈X.pn++pins,s.heap.get? p.1=some p.2/\H p.1=none/\p.1≠X.env.locals/\p.1∉X.fs/\∀v,p.2.data≠.cell v
 hok:cE X.prog X.w H s.heap
 len:σ.length=X.N.length
section
variable {X:Cx}{pins:List (Addr×Obj)}{σ:List (Option V)}{H H':Hp}{s:Shared}{h':Heap}
theorem Cx.Ok.WN (ok:X.Ok)(e:X.base.get? b=some o):b∉X.fs:=λhb=>by
 have:=(ok.iz.mem hb).1;rw[e]at this;cases this
theorem Inv.bs (I:Inv X pins σ H s):∀b o,X.base.get? b=some o->s.heap.get? b=some o/\H b=none:=λb o e=>
 ⟨I.base.keep b o (I.ok.bs b o e).1 (I.ok.bs b o e).2 (I.ok.WN e) (I.ok.jh b o e),I.base.free b o (I.ok.bs b o e).1 (I.ok.bs b o e).2 (I.ok.jh b o e)⟩
theorem Inv.bk (I:Inv X pins σ H s):∀b o,X.base.get? b=some o->s.heap.get? b=some o:=λb o e=>(I.bs b o e).1
theorem Inv.mod (I:Inv X pins σ H s):Mod X.K X.mg X.base:=I.ok.mod
theorem Inv.bX (I:Inv X pins σ H s):X.K.In s.heap:=I.ok.mod.uV.keeps I.bk
theorem Inv.lt (I:Inv X pins σ H s):X.env.locals < s.heap.objs.size:=let ⟨_,hn,_⟩:=I.loc;hn.lt
theorem Inv.sz (I:Inv X pins σ H s):X.s₀.heap.objs.size<=s.heap.objs.size:=le_trans I.ok.above (le_of_lt I.lt)
theorem Inv.WO (I:Inv X pins σ H s)(h:s.heap.objs.size<=a):a∉X.fs:=λhb=>by
 obtain ⟨_,o,ho,_⟩:=I.ok.iz.mem hb;exact absurd (lt_of_lt_of_le (lt_size ho) (le_trans I.sz h)) (lt_irrefl _)
theorem Inv.qW (I:Inv X pins σ H s):∀x c,X.env.cells.lookup x=some c->c≠X.env.locals:=λx c e z=>by
 obtain ⟨v,o,ho,hd⟩:=I.cell x c e;obtain ⟨m,⟨o',es,ep,ho',hd',_⟩,_⟩:=I.loc;rw[z,ho']at ho;cases ho;rw[hd']at hd;cases hd
theorem Inv.iz (I:Inv X pins σ H s):s.heap.FunFrames X.base X.outer:=by
 have all:∀(l:List Env),(∀b∈frs l,b∈X.fs)->X.s₀.heap.FunFrames X.base l->s.heap.FunFrames X.base l:=by
  intro l
  induction l with
  | nil=>intro _ _;trivial
  | cons env r ih=>
   intro hs hl;obtain ⟨hk,⟨L,o,hf,hn,ho,hd⟩,hr⟩:=hl;have hL:L∈X.fs:=hs L (by unfold frs;rw[filterMap_cons,hf];exact mem_cons_self);obtain ⟨sl,e⟩:=I.base.slot L o ho (I.ok.yF L hL) hL λz=>I.ok.zR L z hL;exact ⟨hk,⟨L,_,hf,hn,e,hd⟩,ih (λb hb=>hs b (by unfold frs;rw[filterMap_cons,hf];exact mem_cons_of_mem _ hb)) hr⟩
 exact all X.outer (λ_ hb=>hb) I.ok.iz
theorem Inv.stack (I:Inv X pins σ H s):s.heap.FunFrames X.base X.stack:=by
 rcases I.ok.stk with e | ⟨e,hf⟩
 ·rw[e];exact I.iz
 ·rw[e];obtain ⟨m,hn,_⟩:=I.loc;refine .cons (by rw[I.ok.kind];decide) hf hn ?_ I.iz;exact Heap.get?_none_of_le (le_trans I.ok.uW I.ok.above)
theorem Inv.qX (I:Inv X pins σ H s):∀b∈frs X.stack,b∈X.env.locals::X.fs:=λb hb=>by
 rcases I.ok.stk with e | ⟨e,hf⟩
 ·rw[e]at hb;exact mem_cons_of_mem _ hb
 ·rw[e]at hb;unfold frs at hb;rw[filterMap_cons,hf]at hb;exact hb
theorem Inv.uq (I:Inv X pins σ H s):∀b∈frs X.stack,H b=none:=λb hb=>by
 rcases mem_cons.mp (I.qX b hb) with e | hb
 ·rw[e];exact I.free
 ·obtain ⟨_,o,ho,_⟩:=I.ok.iz.mem hb;exact I.base.free b o ho (I.ok.yF b hb) λz=>I.ok.zR b z hb
theorem Inv.step {g':Array GenState}{t':Nat}{d':Drawn}{ch:List Addr}(I:Inv X pins σ H s)(hch:∀b∈ch,(b∈X.ex\/X.s₀.heap.objs.size<=b)/\b≠X.env.locals/\(∀x c,X.env.cells.lookup x=some c->c≠b)/\∀p∈X.pn++pins,p.1≠b)(keep:∀b o,b≠X.env.locals->b∉X.fs->b∉ch->s.heap.get? b=some o->H b=none->h'.get? b=some o)(slot:∀b o,b≠X.env.locals->b∈X.fs->b∉ch->s.heap.get? b=some o->H b=none->∃sl,h'.get? b=some {o with slots:=sl})(free:∀b o,b∉ch->s.heap.get? b=some o->H b=none->H' b=none)(there:∀b o,b∉ch->s.heap.get? b=some o->∃o',h'.get? b=some o')(tups:∀b xs,H b=some (.tup xs)->H' b=some (.tup xs))(fE:∀b o u,H b=some (.bq o u)->H' b=some (.bq o u))(gx:∀b ps,H b=some (.uU ps)->∃more,H' b=some (.uU (ps++more)))(ns:∀m,s.heap.Ns X.env.locals m->h'.Ns X.env.locals m)(hok:cE X.prog X.w H' h')(hg:AllBare g'):
  Inv X pins σ H' {s with heap:=h',gens:=g',drawn:=d',toks:=t'}:=by
 have Eh:∀b o,X.s₀.heap.get? b=some o->b≠X.env.locals:=λb o e=>ne_of_lt (lt_of_lt_of_le (lt_size e) I.ok.above);have v5:∀b o,X.s₀.heap.get? b=some o->b∉X.ex->b∉ch:=λb o e hx hb=>by
  rcases (hch b hb).1 with z | z
  ·exact hx z
  ·exact absurd (lt_of_lt_of_le (lt_size e) z) (lt_irrefl _)
 have cellK:∀x c,X.env.cells.lookup x=some c->∀v,s.heap.IsCell c v->h'.IsCell c v:=λx c e v ⟨o,ho,hd⟩=>by
  have kU:c∉ch:=λz=>(hch c z).2.2.1 x c e rfl;by_cases hc:c∈X.fs
  ·obtain ⟨sl,q⟩:=slot c o (I.qW x c e) hc kU ho (I.cQ x c e);exact ⟨_,q,hd⟩
  ·exact ⟨o,keep c o (I.qW x c e) hc kU ho (I.cQ x c e),hd⟩
 refine ⟨I.ok,I.os,hg,⟨λb o e n hb hx=>?_,λb o e n hb hx=>?_,λb o e n hx=>?_,λb o e hx=>?_,λb xs e=>tups b xs (I.base.tups b xs e),λb o xs e=>fE b o xs (I.base.fE b o xs e),λb ps e=>?_⟩,?_,λx c e=>?_,?_,λx c e=>?_,λp hp=>?_,hok,I.len⟩
 ·exact keep b o (Eh b o e) hb (v5 b o e hx) (I.base.keep b o e n hb hx) (I.base.free b o e n hx)
 ·obtain ⟨sl,e1⟩:=I.base.slot b o e n hb hx;obtain ⟨sl',e2⟩:=slot b _ (Eh b o e) hb (v5 b o e hx) e1 (I.base.free b o e n hx);exact ⟨sl',e2⟩
 ·obtain ⟨o',e1⟩:=I.base.there b o e hx;exact free b o' (v5 b o e hx) e1 (I.base.free b o e n hx)
 ·obtain ⟨o',e1⟩:=I.base.there b o e hx;exact there b o' (v5 b o e hx) e1
 ·obtain ⟨m1,e1⟩:=I.base.gx b ps e;obtain ⟨m2,e2⟩:=gx b _ e1;exact ⟨m1++m2,by rw[e2,Array.append_assoc]⟩
 ·obtain ⟨m,hn,hl⟩:=I.loc;refine ⟨m,ns m hn,λi x v e1 e2 e3=>?_⟩;obtain ⟨u,r,l⟩:=hl i x v e1 e2 e3;refine ⟨u,r,?_⟩;rcases l with l | ⟨k,c,e,z⟩
  ·exact .inl l
  ·exact .inr ⟨k,c,e,cellK x c e _ z⟩
 ·obtain ⟨v,z⟩:=I.cell x c e;exact ⟨v,cellK x c e v z⟩
 ·obtain ⟨m,⟨o,_,_,ho,_⟩,_⟩:=I.loc;exact free _ o (λz=>(hch _ z).2.1 rfl) ho I.free
 ·obtain ⟨v,o,ho,hd⟩:=I.cell x c e;exact free c o (λz=>(hch c z).2.2.1 x c e rfl) ho (I.cQ x c e)
 ·obtain ⟨e,n,ne,nf,d⟩:=I.pin p hp;have kU:p.1∉ch:=λz=>(hch p.1 z).2.2.2 p hp rfl;exact ⟨keep p.1 p.2 ne nf kU e n,free p.1 p.2 kU e n,ne,nf,d⟩
theorem Inv.zo {g':Array GenState}{t':Nat}{d':Drawn}{ch:List Addr}(I:Inv X pins σ H s)(hch:∀b∈ch,(b∈X.ex\/X.s₀.heap.get? b=none)/\b≠X.env.locals/\(∀x c,X.env.cells.lookup x=some c->c≠b)/\∀p∈X.pn++pins,p.1≠b)(keep:∀b o,b≠X.env.locals->b∉X.fs->b∉ch->s.heap.get? b=some o->H b=none->h'.get? b=some o)(slot:∀b o,b≠X.env.locals->b∈X.fs->b∉ch->s.heap.get? b=some o->H b=none->∃sl,h'.get? b=some {o with slots:=sl})(free:∀b o,b∉ch->s.heap.get? b=some o->H b=none->H' b=none)(there:∀b o,b∉ch->s.heap.get? b=some o->∃o',h'.get? b=some o')(tups:∀b xs,H b=some (.tup xs)->H' b=some (.tup xs))(fE:∀b o u,H b=some (.bq o u)->H' b=some (.bq o u))(gx:∀b ps,H b=some (.uU ps)->∃more,H' b=some (.uU (ps++more)))(ns:∀m,s.heap.Ns X.env.locals m->h'.Ns X.env.locals m)(hok:cE X.prog X.w H' h')(hg:AllBare g'):
  Inv X pins σ H' {s with heap:=h',gens:=g',drawn:=d',toks:=t'}:=by
 have Eh:∀b o,X.s₀.heap.get? b=some o->b≠X.env.locals:=λb o e=>ne_of_lt (lt_of_lt_of_le (lt_size e) I.ok.above);have v5:∀b o,X.s₀.heap.get? b=some o->b∉X.ex->b∉ch:=λb o e hx hb=>by
  rcases (hch b hb).1 with z | z
  ·exact hx z
  ·rw[z]at e;cases e
 have cellK:∀x c,X.env.cells.lookup x=some c->∀v,s.heap.IsCell c v->h'.IsCell c v:=λx c e v ⟨o,ho,hd⟩=>by
  have kU:c∉ch:=λz=>(hch c z).2.2.1 x c e rfl;by_cases hc:c∈X.fs
  ·obtain ⟨sl,q⟩:=slot c o (I.qW x c e) hc kU ho (I.cQ x c e);exact ⟨_,q,hd⟩
  ·exact ⟨o,keep c o (I.qW x c e) hc kU ho (I.cQ x c e),hd⟩
 refine ⟨I.ok,I.os,hg,⟨λb o e n hb hx=>?_,λb o e n hb hx=>?_,λb o e n hx=>?_,λb o e hx=>?_,λb xs e=>tups b xs (I.base.tups b xs e),λb o xs e=>fE b o xs (I.base.fE b o xs e),λb ps e=>?_⟩,?_,λx c e=>?_,?_,λx c e=>?_,λp hp=>?_,hok,I.len⟩
 ·exact keep b o (Eh b o e) hb (v5 b o e hx) (I.base.keep b o e n hb hx) (I.base.free b o e n hx)
 ·obtain ⟨sl,e1⟩:=I.base.slot b o e n hb hx;obtain ⟨sl',e2⟩:=slot b _ (Eh b o e) hb (v5 b o e hx) e1 (I.base.free b o e n hx);exact ⟨sl',e2⟩
 ·obtain ⟨o',e1⟩:=I.base.there b o e hx;exact free b o' (v5 b o e hx) e1 (I.base.free b o e n hx)
 ·obtain ⟨o',e1⟩:=I.base.there b o e hx;exact there b o' (v5 b o e hx) e1
 ·obtain ⟨m1,e1⟩:=I.base.gx b ps e;obtain ⟨m2,e2⟩:=gx b _ e1;exact ⟨m1++m2,by rw[e2,Array.append_assoc]⟩
 ·obtain ⟨m,hn,hl⟩:=I.loc;refine ⟨m,ns m hn,λi x v e1 e2 e3=>?_⟩;obtain ⟨u,r,l⟩:=hl i x v e1 e2 e3;refine ⟨u,r,?_⟩;rcases l with l | ⟨k,c,e,z⟩
  ·exact .inl l
  ·exact .inr ⟨k,c,e,cellK x c e _ z⟩
 ·obtain ⟨v,z⟩:=I.cell x c e;exact ⟨v,cellK x c e v z⟩
 ·obtain ⟨m,⟨o,_,_,ho,_⟩,_⟩:=I.loc;exact free _ o (λz=>(hch _ z).2.1 rfl) ho I.free
 ·obtain ⟨v,o,ho,hd⟩:=I.cell x c e;exact free c o (λz=>(hch c z).2.2.1 x c e rfl) ho (I.cQ x c e)
 ·obtain ⟨e,n,ne,nf,d⟩:=I.pin p hp;have kU:p.1∉ch:=λz=>(hch p.1 z).2.2.2 p hp rfl;exact ⟨keep p.1 p.2 ne nf kU e n,free p.1 p.2 kU e n,ne,nf,d⟩
theorem Inv.un {t':Nat}(I:Inv X pins σ H s)(u:Un X.fs [] H H' s.heap h')(hok:cE X.prog X.w H' h'):Inv X pins σ H' {s with heap:=h',toks:=t'}:=by
 obtain ⟨m,⟨o,es,ep,ho,r⟩,_⟩:=id I.loc;obtain ⟨sl,hL⟩:=u.any ho I.free (by simp);exact I.step (g':=s.gens) (d':=s.drawn) (ch:=[]) (λ_ z=>nomatch z) (λb o _ hb _ e n=>u.keep b o e n hb (by simp)) (λb o _ hb _ e n=>u.slot b o e n hb (by simp)) (λb o _ e n=>u.free b o e n (by simp)) (λb o _ e=>u.there b o e (by simp)) u.tups u.fE u.gx (λm' hm=>by
  obtain ⟨o',es',ep',ho',r'⟩:=hm;rw[ho]at ho';cases ho';exact ⟨_,es',ep',hL,r'⟩) hok I.bare
theorem Inv.call {g':Array GenState}{t':Nat}{d':Drawn}{ch:List Addr}(I:Inv X pins σ H s)(u:Un (frs X.stack) ch H H' s.heap h')(hok:cE X.prog X.w H' h')(hg:AllBare g')(hch:∀b∈ch,(b∈X.ex\/X.s₀.heap.objs.size<=b)/\b≠X.env.locals/\(∀x c,X.env.cells.lookup x=some c->c≠b)/\∀p∈X.pn++pins,p.1≠b):
  Inv X pins σ H' {s with heap:=h',gens:=g',drawn:=d',toks:=t'}:=by
 obtain ⟨m,⟨o,es,ep,ho,r⟩,_⟩:=id I.loc;obtain ⟨sl,hL⟩:=u.any ho I.free λz=>(hch _ z).2.1 rfl;exact I.step (ch:=ch) hch (λb o hL hb hc e n=>u.keep b o e n (λz=>(mem_cons.mp (I.qX b z)).elim hL hb) hc) (λb o _ _ hc e n=>u.any e n hc) (λb o hc e n=>u.free b o e n hc) (λb o hc e=>u.there b o e hc) u.tups u.fE u.gx (λm' hm=>by
  obtain ⟨o',es',ep',ho',r'⟩:=hm;rw[ho]at ho';cases ho';exact ⟨_,es',ep',hL,r'⟩) hok hg
theorem Inv.turned {t':Nat}{it:Addr}(I:Inv X pins σ H s)(k:∀b o,b≠it->s.heap.get? b=some o->h'.get? b=some o)(hn:H it=none)(hL:it≠X.env.locals)(h1:it∈X.ex\/X.s₀.heap.objs.size<=it)(h2:∀x c,X.env.cells.lookup x=some c->c≠it)(h3:∀p∈X.pn++pins,p.1≠it):Inv X pins σ H {s with heap:=h',toks:=t'}:=by
 have UZ:∀b u,H b=some u->b≠it:=λb u e z=>by rw[z,hn]at e;cases e
 refine I.step (g':=s.gens) (d':=s.drawn) (ch:=[it]) (λb hb=>?_) (λb o _ _ hc e _=>k b o (λz=>hc (by simp[z])) e) (λb o _ _ hc e _=>⟨o.slots,k b o (λz=>hc (by simp[z])) e⟩) (λ_ _ _ _ n=>n)
  (λb o hc e=>⟨o,k b o (λz=>hc (by simp[z])) e⟩) (λ_ _ e=>e) (λ_ _ _ e=>e) (λb ps e=>⟨#[],by rw[e];simp⟩) (λm hm=>?_) (λb u e=>?_) I.bare
 ·have e:b=it:=by simpa using hb
  subst e;exact ⟨h1,hL,h2,h3⟩
 ·obtain ⟨o,es,ep,ho,r⟩:=hm;exact ⟨o,es,ep,k _ o (Ne.symm hL) ho,r⟩
 ·refine (I.hok b u e).stay (λc v hc q=>k c v ?_ q) (λ_ q=>q) λ_ _ q=>q;rcases hc with z | z
  ·rw[z];exact UZ b u e
  ·exact UZ c _ z
theorem Inv.tok (I:Inv X pins σ H s)(t:Nat):Inv X pins σ H {s with toks:=t}:=I.un (h':=s.heap) (t':=t) Un.refl I.hok
theorem Inv.kept (I:Inv X pins σ H s)(k:∀b u,s.heap.get? b=some u->h'.get? b=some u):Inv X pins σ H {s with heap:=h',toks:=t'}:=I.un (Un.kept k) (I.hok.kept k)
theorem Inv.laid (I:Inv X pins σ H s)(k:∀b u,s.heap.get? b=some u->h'.get? b=some u)(hp:s.heap.objs.size<=a)(new:bD X.prog X.w (upd H a o) h' a o):
  Inv X pins σ (upd H a o) {s with heap:=h',toks:=t'}:=I.un (Un.laid k hp (I.hok.fresh hp)) (I.hok.laid k hp new)
theorem Inv.write (I:Inv X pins σ H s)(mu:Ef (H x))(he:e=x\/H e=some (.own x))(k:∀b u,b≠e->s.heap.get? b=some u->h'.get? b=some u)(heo:∃u,h'.get? e=some u)(new:bD X.prog X.w (upd H x o) h' x o):Inv X pins σ (upd H x o) {s with heap:=h',toks:=t'}:=I.un (Un.write mu he k heo) (I.hok.write mu he k heo new)
theorem Inv.Bv (I:Inv X pins σ H s)(h:∀p∈Rb,s.heap.get? p.1=some p.2/\H p.1=none/\p.1≠X.env.locals/\p.1∉X.fs/\∀v,p.2.data≠.cell v):Inv X Rb σ H s:=
 ⟨I.ok,I.os,I.bare,I.base,I.loc,I.cell,I.free,I.cQ,λp hp=>(mem_append.mp hp).elim (λz=>I.pin p (List.mem_append_left _ z)) (h p),I.hok,I.len⟩
theorem vy {N:List Str}(hN:N.Nodup){i j:Nat}{x:Str}(a:N[i]?=some x)(b:N[j]?=some x):i=j:=by
 obtain ⟨h1,e1⟩:=List.getElem?_eq_some_iff.mp a;obtain ⟨h2,e2⟩:=List.getElem?_eq_some_iff.mp b;exact (List.getElem_inj hN).mp (e1.trans e2.symm)
theorem Ei {M:Model}{A:Around}{E:Value->Shared->Prop}{i:Nat}{x:Str}{v:V}{u:Value}{Q:Unit->Shared->Prop}(I:Inv X pins σ H s)(hN:X.N.Nodup)(hi:X.N[i]?=some x)(hx:Loc X.env.scope x)(r:RelV v u)(h:∀s',Inv X pins (σ.set i (some v)) H s'->(∃a,Heap.SameBut a s.heap s'.heap/\(a=X.env.locals\/X.env.cells.lookup x=some a))->Q () s')(hf:X.fn x=true\/X.env.scope.names.lookup x=some .local:=by first | exact .inl rfl | exact .inr rfl | assumption):wpAny M A (storeName X.env x u) Q E s:=by
 obtain ⟨m,hn,hl⟩:=id I.loc;have hcls:(X.env.scope.kind == .class || (X.env.scope.kind == .module && X.env.locals != X.env.globals))=false:=by rw[I.ok.kind];rfl
 have HZ:i < σ.length:=by rw[I.len];exact (List.getElem?_eq_some_iff.mp hi).1
 have qW:=I.qW;have tracked:∀{a:Addr} {h':Heap},(∃o,s.heap.get? a=some o/\H a=none)->Heap.SameBut a s.heap h'->cE X.prog X.w H h':=λ{a h'} ha hs b ob e=>by
  obtain ⟨_,_,hfree⟩:=ha;refine (I.hok b ob e).stay (λc w' hc q=>(hs.2 c ?_).trans q) (λ_ q=>q) λ_ _ q=>q;rintro rfl;rcases hc with rfl | hc
  ·rw[hfree]at e;cases e
  ·rw[hfree]at hc;cases hc
 rcases hx with hk | hk
 ·refine wpAny_storeName_local hk hn (λh' hn' hs=>?_) hcls;obtain ⟨oL,_,_,hoL,_⟩:=id hn;refine h _ ⟨I.ok,I.os,I.bare,⟨λb o e n hb hx=>?_,λb o e n hb hx=>?_,I.base.free,λb o e hx=>?_,I.base.tups,I.base.fE,I.base.gx⟩,⟨_,hn',λj y v' e1 e2 e3=>?_⟩,λy c e=>?_,I.free,I.cQ,λp hp=>?_,tracked ⟨oL,hoL,I.free⟩ hs,by simpa using I.len⟩ ⟨_,hs,.inl rfl⟩
  ·exact (hs.2 b (ne_of_lt (lt_of_lt_of_le (lt_size e) I.ok.above))).trans (I.base.keep b o e n hb hx)
  ·obtain ⟨sl,e1⟩:=I.base.slot b o e n hb hx;exact ⟨sl,(hs.2 b (ne_of_lt (lt_of_lt_of_le (lt_size e) I.ok.above))).trans e1⟩
  ·obtain ⟨o',e1⟩:=I.base.there b o e hx;exact ⟨o',(hs.2 b (ne_of_lt (lt_of_lt_of_le (lt_size e) I.ok.above))).trans e1⟩
  ·by_cases hj:j=i
   ·subst hj;rw[hi]at e1;cases e1;rw[getElem?_set_self HZ]at e2;cases e2;exact ⟨u,r,.inl ⟨hk,by simp⟩⟩
   ·rw[getElem?_set_ne (Ne.symm hj)]at e2;obtain ⟨u',r',q⟩:=hl j y v' e1 e2 e3;refine ⟨u',r',?_⟩;rcases q with ⟨k,e⟩ | ⟨k,c,e,z⟩
    ·refine .inl ⟨k,?_⟩;have:y≠x:=λe=>hj (vy hN e1 (e ▸ hi));simp[this,e]
    ·exact .inr ⟨k,c,e,z.sameBut hs (qW y c e)⟩
  ·obtain ⟨w',z⟩:=I.cell y c e;exact ⟨w',z.sameBut hs (qW y c e)⟩
  ·obtain ⟨e,n,ne,nf,d⟩:=I.pin p hp;exact ⟨(hs.2 p.1 ne).trans e,n,ne,nf,d⟩
 ·have hfn:X.fn x=true:=by
   rcases hf with z | z
   ·exact z
   ·rw[z]at hk;cases hk
  obtain ⟨c,hc⟩:=I.ok.has x (.inl hk);obtain ⟨w',z⟩:=I.cell x c hc;refine wpAny_storeName_cell I.ok.kind hk hc z (λh' hc' hs=>?_);obtain ⟨oc,hoc,WQ⟩:=id z;refine h {s with heap:=h'} ⟨I.ok,I.os,I.bare,⟨λb o e n hb hx=>?_,λb o e n hb hx=>?_,I.base.free,λb o e hx=>?_,I.base.tups,I.base.fE,I.base.gx⟩,⟨m,hn.sameBut hs (Ne.symm (qW x c hc)),λj y v' e1 e2 e3=>?_⟩,λy c' e=>?_,I.free,I.cQ,λp hp=>?_,tracked ⟨oc,hoc,I.cQ x c hc⟩ hs,by simpa using I.len⟩ ⟨c,hs,.inr hc⟩
  ·exact (hs.2 b (ne_of_lt (lt_of_lt_of_le (lt_size e) (I.ok.cab x c hfn hc)))).trans (I.base.keep b o e n hb hx)
  ·obtain ⟨sl,e1⟩:=I.base.slot b o e n hb hx;exact ⟨sl,(hs.2 b (ne_of_lt (lt_of_lt_of_le (lt_size e) (I.ok.cab x c hfn hc)))).trans e1⟩
  ·obtain ⟨o',e1⟩:=I.base.there b o e hx;exact ⟨o',(hs.2 b (ne_of_lt (lt_of_lt_of_le (lt_size e) (I.ok.cab x c hfn hc)))).trans e1⟩
  ·by_cases hj:j=i
   ·subst hj;rw[hi]at e1;cases e1;rw[getElem?_set_self HZ]at e2;cases e2;exact ⟨u,r,.inr ⟨.inl hk,c,hc,hc'⟩⟩
   ·rw[getElem?_set_ne (Ne.symm hj)]at e2;obtain ⟨u',r',q⟩:=hl j y v' e1 e2 e3;refine ⟨u',r',?_⟩;rcases q with q | ⟨k,c',e,z'⟩
    ·exact .inl q
    ·refine .inr ⟨k,c',e,z'.sameBut hs ?_⟩;rintro rfl;exact hj (vy hN e1 (I.ok.inj _ _ _ e hc ▸ hi))
  ·by_cases hcc:c'=c
   ·subst hcc;exact ⟨_,hc'⟩
   ·obtain ⟨w2,z2⟩:=I.cell y c' e;exact ⟨w2,z2.sameBut hs hcc⟩
  ·obtain ⟨e,n,ne,nf,d⟩:=I.pin p hp;refine ⟨(hs.2 p.1 ?_).trans e,n,ne,nf,d⟩;intro q;rw[q,hoc]at e;have q':oc=p.2:=Option.some.inj e;exact d w' (by rw[<-q'];exact WQ)
theorem gA (I:Inv X pins σ H s)(hN:X.N.Nodup)(hi:X.N[i]?=some x)(hx:Loc X.env.scope x)(r:RelV v u)(h:∀s',Inv X pins (σ.set i (some v)) H s'->Q () s')(hf:X.fn x=true\/X.env.scope.names.lookup x=some .local:=by first | exact .inl rfl | exact .inr rfl | assumption):wpAny M A (storeName X.env x u) Q E s:=
 Ei I hN hi hx r (λs' I' _=>h s' I') hf
theorem Inv.call' (I:Inv X pins σ H s)(ho:s'.os=s.os)(u:Un (frs X.stack) ch H H' s.heap s'.heap)(hok:cE X.prog X.w H' s'.heap)(hg:AllBare s'.gens)(hch:∀b∈ch,(b∈X.ex\/X.s₀.heap.objs.size<=b)/\b≠X.env.locals/\(∀x c,X.env.cells.lookup x=some c->c≠b)/\∀p∈X.pn++pins,p.1≠b):Inv X pins σ H' s':=by
 obtain ⟨h',g',d',t',o'⟩:=s';have e:o'=s.os:=ho;subst e;exact I.call (g':=g') (t':=t') (d':=d') u hok hg hch
end
abbrev XK:=Value->Option Addr->Hp->Prop
abbrev St:=List (Option V)
abbrev VK:=V->Hp->Prop
abbrev TE:=St->Hp->VK->Prop
abbrev TT:=St->Hp->(Bool->Hp->Prop)->Prop
abbrev TA:=St->Hp->(List V->Hp->Prop)->Prop
structure Ends where
 nx:St->Hp->Prop
 rt:VK
 bk:St->Hp->Prop:=λ_ _=>False
 ct:St->Hp->Prop:=λ_ _=>False
abbrev TS:=Ends->St->Hp->Prop
def EP (X:Cx)(pins:List (Addr×Obj))(σ:St)(Q:VK)(u:Value)(s':Shared):Prop:=∃v H',Inv X pins σ H' s'/\RelV v u/\Q v H'
def TP (X:Cx)(pins:List (Addr×Obj))(σ:St)(Q:Bool->Hp->Prop)(b:Bool)(s':Shared):Prop:=∃H',Inv X pins σ H' s'/\Q b H'
def AP (X:Cx)(pins:List (Addr×Obj))(σ:St)(Q:List V->Hp->Prop)(us:List Value)(s':Shared):Prop:=∃vs H',Inv X pins σ H' s'/\Vals vs us/\Q vs H'
def SP (X:Cx)(pins:List (Addr×Obj))(D:Ends)(f:Flow)(s':Shared):Prop:=
 match f with
 | .next=>∃σ' H',Inv X pins σ' H' s'/\D.nx σ' H'
 | .brk=>∃σ' H',Inv X pins σ' H' s'/\D.bk σ' H'
 | .cont=>∃σ' H',Inv X pins σ' H' s'/\D.ct σ' H'
 | .ret u=>∃v σ' H',Inv X pins σ' H' s'/\RelV v u/\D.rt v H'
def PE (X:Cx)(e:Expr)(t:TE):Prop:=
 ∀(pins:List (Addr×Obj)) (s:Shared) (σ:St) (H:Hp) (Q:VK),Inv X pins σ H s->t σ H Q->wpAny (model X.prog X.w) X.A (eval e X.env) (EP X pins σ Q) X.xe s
def PT (X:Cx)(e:Expr)(t:TT):Prop:=
 ∀(pins:List (Addr×Obj)) (s:Shared) (σ:St) (H:Hp) (Q:Bool->Hp->Prop),Inv X pins σ H s->t σ H Q->wpAny (model X.prog X.w) X.A (isTrue e X.env (eval e X.env)) (TP X pins σ Q) X.xe s
def PW (X:Cx)(e:Expr)(t:TT):Prop:=
 ∀(whole:Sem Value) (pins:List (Addr×Obj)) (s:Shared) (σ:St) (H:Hp) (Q:Bool->Hp->Prop),Inv X pins σ H s->t σ H Q->wpAny (model X.prog X.w) X.A (isTrue e X.env whole) (TP X pins σ Q) X.xe s
theorem PW.pt (h:PW X e t):PT X e t:=h _
def PA (X:Cx)(es:List Expr)(t:TA):Prop:=
 ∀(pos:Pos) (pins:List (Addr×Obj)) (s:Shared) (σ:St) (H:Hp) (Q:List V->Hp->Prop),Inv X pins σ H s->t σ H Q->wpAny (model X.prog X.w) X.A (spliced (backTo pos (starEach es X.env))) (AP X pins σ Q) X.xe s
def PS (X:Cx)(st:Stmt)(t:TS):Prop:=
 ∀(pins:List (Addr×Obj)) (s:Shared) (σ:St) (H:Hp) (D:Ends),Inv X pins σ H s->t D σ H->wpAny (model X.prog X.w) X.A (exec st X.env) (SP X pins D) X.xe s
def iw (X:Cx)(st:List Stmt)(t:TS):Prop:=
 ∀(pins:List (Addr×Obj)) (s:Shared) (σ:St) (H:Hp) (D:Ends),Inv X pins σ H s->t D σ H->wpAny (model X.prog X.w) X.A (execs st X.env) (SP X pins D) X.xe s
theorem aS {α:Type}{t:Sem α}{Q Q':α->Shared->Prop}(h:wpAny M A t Q E s)(hQ:∀a s,Q a s->Q' a s):wpAny M A t Q' E s:=wpAny_mono h hQ λ_ _ x=>x
section
variable {X:Cx}
theorem bin {a b:Expr}{ta tb:TE}(ha:PE X a ta)(hb:PE X b tb){pins:List (Addr×Obj)}{s:Shared}{σ:St}{H:Hp}{R:V->V->Hp->Prop}(I:Inv X pins σ H s)(h:ta σ H λx H1=>tb σ H1 λy H2=>R x y H2){α:Type}{Q:α->Shared->Prop}{f:Value->Value->Sem α}(hf:∀v u s2 x y H2,Inv X pins σ H2 s2->RelV x v->RelV y u->R x y H2->wpAny (model X.prog X.w) X.A (f v u) Q X.xe s2):
  wpAny (model X.prog X.w) X.A (eval a X.env) (λv s₁=>wpAny (model X.prog X.w) X.A (eval b X.env) (λu s₂=>wpAny (model X.prog X.w) X.A (f v u) Q X.xe s₂) X.xe s₁) X.xe s:=by
 refine aS (ha pins s σ H _ I h) λv s1 ⟨x,H1,I1,r1,q1⟩=>?_;refine aS (hb pins s1 σ H1 _ I1 q1) λu s2 ⟨y,H2,I2,r2,q2⟩=>?_;exact hf v u s2 x y H2 I2 r1 r2 q2
def WR (i:Nat):TE:=λσ H Q=>∃v,σ[i]?=some (some v)/\Q v H
def tC (v:V):TE:=λ_ H Q=>Q v H
theorem zS (hN:X.N[i]?=some x)(hv:vZ X.env.scope x)(hd:bM x:=by decide)(hcd:(x == ("__classdict__":Str))=false:=by decide):PE X (.Name x pos) (WR i):=by
 intro pins s σ H Q I h;obtain ⟨v,e,h⟩:=h;obtain ⟨m,hn,hl⟩:=I.loc;obtain ⟨u,r,l⟩:=hl i x v hN e hv;have fin:EP X pins σ Q u s:=⟨v,H,I,r,h⟩
 rcases l with ⟨hk,hm⟩ | ⟨hk,c,hc,hcell⟩
 ·exact wpAny_Name (wpAny_loadName_local I.ok.kind hk hn hm fin) hd
 ·rcases hk with hk | hk
  ·exact wpAny_Name (wpAny_loadName_cell I.ok.kind hk hc hcell fin) hd
  ·exact wpAny_Name (wpAny_loadName_free I.ok.kind hk hc hcell fin hcd) hd
theorem Mh {i j pos}:PE X (.Constant (.int i) j pos) (tC (.int i)):=λ_ _ _ H _ I h=>wpAny_Constant_int ⟨.int i,H,I.tok _,⟨_,rfl⟩,h⟩
theorem Rc {b j pos}:PE X (.Constant (.bool b) j pos) (tC (.bl b)):=λ_ _ _ H _ I h=>Constant_bool ⟨.bl b,H,I,rfl,h⟩
theorem zT {j pos}:PE X (.Constant .none j pos) (tC .non):=λ_ _ _ H _ I h=>Constant_none ⟨.non,H,I,rfl,h⟩
theorem Mi {x j pos}:PE X (.Constant (.str x) j pos) (tC (.str x)):=λ_ _ _ H _ I h=>Calls.Constant_str ⟨.str x,H,I.tok _,⟨_,rfl⟩,h⟩
def Gl (X:Cx)(x:Str):Prop:=X.env.kindOf x=some .globalImplicit
theorem eY (I:Inv X pins σ H s)(hg:Gl X x)(hm:X.mg x=some u)(h:Q u s)(hd:bM x:=by decide):wpAny (model X.prog X.w) X.A (eval (.Name x pos) X.env) Q E s:=
 Calls.Name_function_global I.ok.kind hg (Calls.loadGlobal_global (by rw[I.ok.glob];exact I.mod.glob.keeps I.bk) hm h) hd
theorem mO (I:Inv X pins σ H s)(hg:Gl X x)(hm:X.mg x=none)(hv:bootBuiltins x=some u)(h:Q u s)(hn:x≠"__name__":=by decide)(hd:bM x:=by decide):wpAny (model X.prog X.w) X.A (eval (.Name x pos) X.env) Q E s:=by
 obtain ⟨mb,h1,h2⟩:=I.mod.blt;exact Calls.Name_function_global I.ok.kind hg (Calls.loadGlobal_builtin (by rw[I.ok.glob];exact I.mod.glob.keeps I.bk) hm (by rw[I.ok.blt];exact h1.keeps I.bk) ((h2 x hn).trans hv) h) hd
theorem ur (hg:Gl X x)(hm:X.mg x=some u)(r:RelV v u)(hd:bM x:=by decide):PE X (.Name x pos) (tC v):=
 λ_ _ _ H _ I h=>eY I hg hm ⟨v,H,I,r,h⟩ hd
theorem Bw (hg:Gl X x)(hm:X.mg x=none)(hv:bootBuiltins x=some u)(r:RelV v u)(hn:x≠"__name__":=by decide)(hd:bM x:=by decide):PE X (.Name x pos) (tC v):=
 λ_ _ _ H _ I h=>mO I hg hm hv ⟨v,H,I,r,h⟩ hn hd
variable {a b:Expr}{ta tb:TE}{pos:Pos}
variable {tA H_:TT}{rest:List Expr}
def WT (t u:TT):TT:=λσ H Q=>t σ H λc H1=>if c=true then u σ H1 Q else Q false H1
def YB (t u:TT):TT:=λσ H Q=>t σ H λc H1=>if c=true then Q true H1 else u σ H1 Q
def WU (t:TT):TT:=λσ H Q=>t σ H λc H1=>Q (!c) H1
theorem pw_and1 (ha:PT X a tA):PW X (.BoolOp .And [a] pos) tA:=by
 intro wh pins s σ H Q I h;refine isTrue_and (aS (ha pins s σ H Q I h) λc s1 e=>?_);cases c with
 | true=>exact isTrue_and_nil e
 | false=>exact e
theorem pw_or1 (ha:PT X a tA):PW X (.BoolOp .Or [a] pos) tA:=by
 intro wh pins s σ H Q I h;refine isTrue_or (aS (ha pins s σ H Q I h) λc s1 e=>?_);cases c with
 | false=>exact isTrue_or_nil e
 | true=>exact e
theorem pw_and (ha:PT X a tA)(hb:PW X (.BoolOp .And (b::rest) pos) H_):PW X (.BoolOp .And (a::b::rest) pos) (WT tA H_):=by
 intro wh pins s σ H Q I h;refine isTrue_and (aS (ha pins s σ H _ I h) λc s1 ⟨H1,I1,q1⟩=>?_);cases c with
 | true=>exact hb wh pins s1 σ H1 Q I1 q1
 | false=>exact ⟨H1,I1,q1⟩
theorem pw_or (ha:PT X a tA)(hb:PW X (.BoolOp .Or (b::rest) pos) H_):PW X (.BoolOp .Or (a::b::rest) pos) (YB tA H_):=by
 intro wh pins s σ H Q I h;refine isTrue_or (aS (ha pins s σ H _ I h) λc s1 ⟨H1,I1,q1⟩=>?_);cases c with
 | true=>exact ⟨H1,I1,q1⟩
 | false=>exact hb wh pins s1 σ H1 Q I1 q1
theorem Mj (ha:PT X a tA):PT X (.UnaryOp .Not a pos) (WU tA):=by
 intro pins s σ H Q I h;exact isTrue_not (ha pins s σ H (λc H1=>Q (!c) H1) I h)
def Rf (ta tb:TE):TE:=λσ H Q=>ta σ H λx H1=>∃c,x=.bl c/\if c=true then tb σ H1 Q else Q (.bl false) H1
def Rg (ta:TE):TE:=λσ H Q=>ta σ H λx H1=>∃c,x=.bl c/\Q (.bl (!c)) H1
theorem Ml {op}(h:PE X a t):PE X (.BoolOp op [a] pos) t:=λpins s σ H Q I hw=>BoolOp_one (h pins s σ H Q I hw)
theorem Mp (ha:PE X a ta)(hb:PE X (.BoolOp .And (b::rest) pos) tb):PE X (.BoolOp .And (a::b::rest) pos) (Rf ta tb):=by
 intro pins s σ H Q I h;refine BoolOp_and (aS (ha pins s σ H _ I h) λv s1 ⟨x,H1,I1,r1,q1⟩=>?_);obtain ⟨c,rfl,q1⟩:=q1;cases r1;refine wpAny_truthy_bool ?_;cases c with
 | true=>exact hb pins s1 σ H1 Q I1 q1
 | false=>exact ⟨.bl false,H1,I1,rfl,q1⟩
theorem Mq (ha:PE X a ta):PE X (.UnaryOp .Not a pos) (Rg ta):=by
 intro pins s σ H Q I h;refine UnaryOp_ (aS (ha pins s σ H _ I h) λv s1 ⟨x,H1,I1,r1,q1⟩=>?_);obtain ⟨c,rfl,q1⟩:=q1;cases r1;exact not_of (wpAny_truthy_bool ⟨.bl (!c),H1,I1,rfl,q1⟩)
def YC (t:TT)(ta tb:TE):TE:=λσ H Q=>t σ H λc H1=>if c=true then ta σ H1 Q else tb σ H1 Q
theorem Gz (hc:PT X c tA)(ha:PE X a ta)(hb:PE X b tb):PE X (.IfExp c a b pos) (YC tA ta tb):=by
 intro pins s σ H Q I h;refine wpAny_IfExp (aS (hc pins s σ H _ I h) λd s1 ⟨H1,I1,q1⟩=>?_);cases d with
 | true=>exact ha pins s1 σ H1 Q I1 q1
 | false=>exact hb pins s1 σ H1 Q I1 q1
end
def eN (K:Frag)(H:Hp)(a:Addr)(xs:List V):Prop:=
 Rd H a (.lst xs)\/
  ∃(o:Obj) (its:Array Value) (n:Nat),K.lookup a=some o/\o.cls=.type "list"/\o.dict=none/\o.data=.seq its n/\its.size<=sizeLine/\Vals xs its.toList
def cZ (K:Frag)(H:Hp)(a:Addr)(xs:List V):Prop:=
 Rd H a (.tup xs)\/
  ∃(o:Obj) (its:Array Value) (n:Nat),K.lookup a=some o/\o.cls=.type "tuple"/\o.dict=none/\o.data=.seq its n/\its.size<=sizeLine/\Vals xs its.toList
def WV:Value->Option V
 | .none=>some .non
 | .bool b=>some (.bl b)
 | .int i _=>some (.int i)
 | .str x _=>some (.str x)
 | .bytes b _=>some (.yE b)
 | .float b _=>some (.flt b)
 | .ref a=>some (.ref a)
 | .type n=>some (.ty n)
 | _=>none
theorem RelV.abs (r:RelV x u):WV u=some x:=by
 cases x with
 | non=>cases r;rfl
 | bl _=>cases r;rfl
 | int _=>obtain ⟨t,rfl⟩:=r;rfl
 | str _=>obtain ⟨t,rfl⟩:=r;rfl
 | yE _=>obtain ⟨t,rfl⟩:=r;rfl
 | flt _=>obtain ⟨t,rfl⟩:=r;rfl
 | ref _=>cases r;rfl
 | ty _=>cases r;rfl
theorem RelV.inj (r:RelV x u)(q:RelV y u):x=y:=Option.some.inj (r.abs.symm.trans q.abs)
theorem Vals.inj:∀{xs ys:List V} {us:List Value},Vals xs us->Vals ys us->xs=ys
 | _,_,_,.nil,.nil=>rfl
 | _,_,_,.cons r t,.cons r' t'=>by rw[r.inj r',Vals.inj t t']
section
variable {X:Cx}{pins:List (Addr×Obj)}{σ:St}{H:Hp}{s:Shared}{a:Addr}{xs ys:List V}
theorem eN.of {K:Frag}(h:H a=some (.lst xs)):eN K H a xs:=.inl (.inl h)
theorem cZ.of {K:Frag}(h:H a=some (.tup xs)):cZ K H a xs:=.inl (.inl h)
theorem Inv.list (I:Inv X pins σ H s)(h:eN X.K H a xs):∃its:List Value,Vals xs its/\PlainL s.heap a its.toArray/\xs.length<=sizeLine:=by
 rcases h with h | ⟨o,its,n,hk,hc,hd,hs,hz,r⟩
 ·obtain ⟨z,its,n,r,e⟩:=h.ok I.hok;exact ⟨its,r,⟨_,n,e,rfl,rfl,rfl⟩,z⟩
 ·refine ⟨its.toList,r,⟨o,n,I.bX a o hk,hc,hd,by simpa using hs⟩,?_⟩;have e:=r.length;erw[Array.length_toList]at e
  lia
theorem Inv.tuple (I:Inv X pins σ H s)(h:cZ X.K H a xs):∃its:List Value,Vals xs its/\IsTup s.heap a its.toArray/\xs.length<=sizeLine:=by
 rcases h with h | ⟨o,its,n,hk,hc,_,hs,hz,r⟩
 ·obtain ⟨z,its,r,p⟩:=h.ok I.hok;exact ⟨its,r,p.1,z⟩
 ·refine ⟨its.toList,r,⟨o,I.bX a o hk,hc,n,by simpa using hs⟩,?_⟩;have e:=r.length;erw[Array.length_toList]at e
  lia
theorem Inv.vz (I:Inv X pins σ H s)(h:eN X.K H a xs)(h':eN X.K H a ys):xs=ys:=by
 obtain ⟨its,r,⟨o,n,e,_,_,d⟩,_⟩:=I.list h;obtain ⟨its',r',⟨o',n',e',_,_,d'⟩,_⟩:=I.list h';rw[e]at e';cases e';rw[d]at d';injection d' with d1 _
 have:its=its':=by simpa using congrArg Array.toList d1
 subst this;exact r.inj r'
theorem Inv.qY (I:Inv X pins σ H s)(h:cZ X.K H a xs)(h':cZ X.K H a ys):xs=ys:=by
 obtain ⟨its,r,⟨o,e,_,n,d⟩,_⟩:=I.tuple h;obtain ⟨its',r',⟨o',e',_,n',d'⟩,_⟩:=I.tuple h';rw[e]at e';cases e';rw[d]at d';injection d' with d1 _
 have:its=its':=by simpa using congrArg Array.toList d1
 subst this;exact r.inj r'
end
abbrev Cx.wish (X:Cx)(E:Value->Shared->Prop):Cx:={X with xe:=E}
abbrev Cx.j0 (X:Cx):Cx:=X.wish λ_ _=>False
theorem Cx.Ok.wish {X:Cx}(ok:X.Ok)(E:Value->Shared->Prop):(X.wish E).Ok:=
 ⟨ok.mod,ok.kind,ok.glob,ok.blt,ok.above,ok.inj,ok.has,ok.cab,ok.hd,ok.frames,ok.stk,ok.Mg,ok.bs,ok.uW,ok.jh,ok.zR,ok.iz,ok.yF⟩
theorem Cx.Ok.du {X:Cx}{E:Value->Shared->Prop}(ok:(X.wish E).Ok):X.Ok:=
 ⟨ok.mod,ok.kind,ok.glob,ok.blt,ok.above,ok.inj,ok.has,ok.cab,ok.hd,ok.frames,ok.stk,ok.Mg,ok.bs,ok.uW,ok.jh,ok.zR,ok.iz,ok.yF⟩
section
variable {X:Cx}{pins:List (Addr×Obj)}{σ:St}{H:Hp}{s:Shared}{E:Value->Shared->Prop}
theorem Inv.wish (I:Inv X pins σ H s)(E:Value->Shared->Prop):Inv (X.wish E) pins σ H s:=⟨I.ok.wish E,I.os,I.bare,I.base,I.loc,I.cell,I.free,I.cQ,I.pin,I.hok,I.len⟩
theorem Inv.du (I:Inv (X.wish E) pins σ H s):Inv X pins σ H s:=⟨I.ok.du,I.os,I.bare,I.base,I.loc,I.cell,I.free,I.cQ,I.pin,I.hok,I.len⟩
theorem SP.du (h:SP (X.wish E) pins D f s'):SP X pins D f s':=by
 cases f with
 | next=>obtain ⟨σ',H',I,q⟩:=h;exact ⟨σ',H',I.du,q⟩
 | brk=>obtain ⟨σ',H',I,q⟩:=h;exact ⟨σ',H',I.du,q⟩
 | cont=>obtain ⟨σ',H',I,q⟩:=h;exact ⟨σ',H',I.du,q⟩
 | ret u=>obtain ⟨v,σ',H',I,r,q⟩:=h;exact ⟨v,σ',H',I.du,r,q⟩
theorem iw.j0 {st:List Stmt}{t:TS}(h:iw X.j0 st t):iw X st t:=λpins s σ H D I hw=>
 wpAny_mono (h pins s σ H D (I.wish _) hw) (λ_ _ q=>q.du) λ_ _ z=>False.elim z
end
section
variable {X:Cx}{st:Stmt}{rest:List Stmt}{t u:TS}{e:Expr}{te:TE}{pos:Pos}
def Rh:TS:=λD σ H=>D.nx σ H
def WW (t u:TS):TS:=λD σ H=>t {D with nx:=u D} σ H
theorem JA:iw X [] Rh:=λ_ _ σ H _ I h=>wpAny_execs_nil ⟨σ,H,I,h⟩
theorem GA (h1:PS X st t)(h2:iw X rest u):iw X (st::rest) (WW t u):=by
 intro pins s σ H D I h;refine wpAny_execs_cons (aS (h1 pins s σ H {D with nx:=u D} I h) λf s1 q=>?_);cases f with
 | next=>
  obtain ⟨σ',H',I',q⟩:=q;exact h2 pins s1 σ' H' D I' q
 | ret v=>exact q
 | brk=>exact q
 | cont=>exact q
theorem JB (h1:PS X st t):iw X [st] t:=by
 intro pins s σ H D I h;refine wpAny_execs_cons (aS (h1 pins s σ H D I h) λf s1 q=>?_);cases f with
 | next=>exact wpAny_execs_nil q
 | ret v=>exact q
 | brk=>exact q
 | cont=>exact q
theorem Inv.quiet (I:Inv X pins σ H s):interactive X.env=false:=by simp[interactive,I.ok.kind]
def Ri (te:TE):TS:=λD σ H=>te σ H λ_ H1=>D.nx σ H1
theorem JC (he:PE X e te)(hs:swapsWith e none pos.line X.env=pure false:=by rfl):PS X (.Expr e pos) (Ri te):=by
 intro pins s σ H D I h;exact wpAny_Expr_any (aS (he pins s σ H _ I h) λv s1 ⟨x,H1,I1,r1,q1⟩=>⟨σ,H1,I1,q1⟩) I.quiet hs
def WX (te:TE):TS:=λD σ H=>te σ H D.rt
theorem Mr (he:PE X e te):PS X (.Return (some e) pos) (WX te):=by
 intro pins s σ H D I h;exact wpAny_Return_some (aS (he pins s σ H _ I h) λv s1 ⟨x,H1,I1,r1,q1⟩=>⟨x,σ,H1,I1,r1,q1⟩)
def WY (c:TT)(t u:TS):TS:=λD σ H=>c σ H λb H1=>if b=true then t D σ H1 else u D σ H1
theorem Rj (hc:PT X c tc)(ha:iw X a t)(hb:iw X b u):PS X (.If c a b pos) (WY tc t u):=by
 intro pins s σ H D I h;refine wpAny_If (aS (hc pins s σ H _ I h) λd s1 ⟨H1,I1,q1⟩=>?_);cases d with
 | true=>exact ha pins s1 σ H1 D I1 q1
 | false=>exact hb pins s1 σ H1 D I1 q1
end
abbrev TG:=V->St->Hp->(St->Hp->Prop)->Prop
abbrev Ej:=List V->St->Hp->(St->Hp->Prop)->Prop
def PG (X:Cx)(target:Expr)(t:TG):Prop:=
 ∀(pins:List (Addr×Obj)) (s:Shared) (σ:St) (H:Hp) (v:V) (u:Value) (Q:St->Hp->Prop),Inv X pins σ H s->RelV v u->t v σ H Q->
  wpAny (model X.prog X.w) X.A (assign target X.env u) (λ_ s'=>∃σ' H',Inv X pins σ' H' s'/\Q σ' H') X.xe s
def Ia (X:Cx)(ts:List Expr)(t:Ej):Prop:=
 ∀(pins:List (Addr×Obj)) (s:Shared) (σ:St) (H:Hp) (vs:List V) (us:List Value) (Q:St->Hp->Prop),Inv X pins σ H s->Vals vs us->t vs σ H Q->
  wpAny (model X.prog X.w) X.A (assignInOrder ((assignEach ts X.env).map (·.2)) us) (λ_ s'=>∃σ' H',Inv X pins σ' H' s'/\Q σ' H') X.xe s
abbrev Ms:=V->V->V->Hp->(Hp->Prop)->Prop
def nZ (X:Cx)(t:Ms):Prop:=
 ∀(pins:List (Addr×Obj)) (s:Shared) (σ:St) (H:Hp) (o i v:V) (ov iv u:Value) (Q:Hp->Prop),Inv X pins σ H s->RelV o ov->RelV i iv->RelV v u->t o i v H Q->
  wpAny (model X.prog X.w) X.A (setItem ov iv u) (λ_ s'=>∃H',Inv X pins σ H' s'/\Q H') X.xe s
abbrev Mt:=V->V->Hp->VK->Prop
def U0 (X:Cx)(op:Operator)(t:Mt):Prop:=
 ∀(pins:List (Addr×Obj)) (s:Shared) (σ:St) (H:Hp) (x y:V) (v u:Value) (Q:VK),Inv X pins σ H s->RelV x v->RelV y u->t x y H Q->
  wpAny (model X.prog X.w) X.A (inplaceOp op v u) (EP X pins σ Q) X.xe s
section
variable {X:Cx}{pos:Pos}
def Ib (i:Nat):TG:=λv σ H Q=>Q (σ.set i (some v)) H
theorem mP (hN:X.N.Nodup)(hi:X.N[i]?=some x)(hx:Loc X.env.scope x)(hf:X.fn x=true\/X.env.scope.names.lookup x=some .local:=by first | exact .inl rfl | exact .inr rfl | assumption):PG X (.Name x pos) (Ib i):=by
 intro pins s σ H v u Q I r h;exact wpAny_assign_Name (gA I hN hi hx r (λs' I'=>⟨_,H,I',h⟩) hf)
def WZ:Ej:=λvs σ H Q=>vs=[]/\Q σ H
def Rk (t:TG)(u:Ej):Ej:=λvs σ H Q=>∃v r,vs=v::r/\t v σ H λσ' H'=>u r σ' H' Q
theorem JD:Ia X [] WZ:=by
 intro pins s σ H vs us Q I r h;obtain ⟨e,h⟩:=h;subst e;cases r;exact assignInOrder_nil ⟨σ,H,I,h⟩
theorem vA (h1:PG X e t)(h2:Ia X es u)(hs:(assignEach (e::es) X.env).map (·.2)=assign e X.env::(assignEach es X.env).map (·.2):=by rfl):Ia X (e::es) (Rk t u):=by
 intro pins s σ H vs us Q I r h;obtain ⟨v,vr,e1,h⟩:=h;subst e1;cases r with
 | cons r rr=>
  rw[hs];refine assignInOrder_cons (aS (h1 pins s σ H _ _ _ I r h) λ_ s1 ⟨σ1,H1,I1,q1⟩=>?_);exact h2 pins s1 σ1 H1 _ _ Q I1 rr q1
def W0 (K:Frag)(n:Nat)(t:Ej):TG:=λv σ H Q=>∃a xs,v=.ref a/\cZ K H a xs/\xs.length=n/\t xs σ H Q
theorem Mu (hc:X.calm=true)(h:Ia X es t)(hn:(assignEach es X.env).length=n:=by rfl)(hst:(assignEach es X.env).findIdx? (·.1)=none:=by rfl):PG X (.Tuple es k pos) (W0 X.K n t):=by
 intro pins s σ H v u Q I r hw;obtain ⟨a,xs,e1,hq,hl,hw⟩:=hw;subst e1;cases r;obtain ⟨its,rv,ht,hz⟩:=I.tuple hq;refine assign_Tuple_tuple (I.ok.hd hc) ht (by simp[hn,<-hl,rv.length]) hst λh' hx=>?_;have I1:Inv X pins σ H {s with heap:=h'}:=I.kept (t':=s.toks) λb o e=>hx b o (ne_of_lt (lt_size e)) e;exact h pins _ σ H xs _ Q I1 (by simpa using rv) hw
def W2 (to ti:TE)(t:Ms):TG:=λv σ H Q=>to σ H λo H1=>ti σ H1 λi H2=>t o i v H2 λH3=>Q σ H3
theorem Mv (ho:PE X o to)(hi:PE X i ti)(hs:nZ X t)(ha:∀v,assign (.Subscript o i pos) X.env v=(do
   let ov <-holding [v] (eval o X.env)
   let iv <-holding [v,ov] (eval i X.env)
   standAt pos
   holding [v,ov,iv] (setItem ov iv v)
   release [v,ov,iv] []):=by intro _;rfl):PG X (.Subscript o i pos) (W2 to ti t):=by
 intro pins s σ H v u Q I r h;rw[ha];refine wpAny_bind (wpAny_holding (aS (ho pins s σ H _ I h) λov s1 ⟨x,H1,I1,r1,q1⟩=>?_));refine wpAny_bind (wpAny_holding (aS (hi pins s1 σ H1 _ I1 q1) λiv s2 ⟨y,H2,I2,r2,q2⟩=>?_));refine wpAny_bind (wpAny_standAt (wpAny_bind (wpAny_holding (aS (hs pins s2 σ H2 x y v ov iv u _ I2 r1 r2 r q2) λ_ s3 ⟨H3,I3,q3⟩=>?_))));exact wpAny_release ⟨σ,H3,I3,q3⟩
def Mw (te:TE)(g:TG):TS:=λD σ H=>te σ H λx H1=>g x σ H1 D.nx
theorem Ek (he:PE X e te)(hg:PG X tg g)(hs:swapsWithSole [tg] e pos.line X.env=pure false:=by rfl)(hw:swappedStores [tg] e X.env=pure none:=by rfl)(h1:(assignEach [tg] X.env).map (·.2)=[assign tg X.env]:=by rfl):PS X (.Assign [tg] e pos) (Mw te g):=by
 intro pins s σ H D I h;refine wpAny_Assign_stores (aS (he pins s σ H _ I h) λv s1 ⟨x,H1,I1,r1,q1⟩=>?_) hs hw;rw[h1];exact aS (hg pins s1 σ H1 x v _ I1 r1 q1) λ_ s2 q=>q
theorem Mx (hN:X.N.Nodup)(hi:X.N[i]?=some x)(hx:Loc X.env.scope x)(he:PE X e te)(hs:swapsWith e (some (.Name x pos')) pos.line X.env=pure false:=by rfl)(hf:X.fn x=true\/X.env.scope.names.lookup x=some .local:=by first | exact .inl rfl | exact .inr rfl | assumption):
  PS X (.Assign [.Name x pos'] e pos) (Mw te (Ib i)):=by
 intro pins s σ H D I h;refine wpAny_Assign_Name (aS (he pins s σ H _ I h) λv s1 ⟨y,H1,I1,r1,q1⟩=>?_) hs;exact gA I1 hN hi hx r1 (λs2 I2=>⟨_,H1,I2,q1⟩) hf
def W3 (i:Nat)(te:TE)(ti:Mt):TS:=λD σ H=>∃x,σ[i]?=some (some x)/\te σ H λy H1=>ti x y H1 λz H2=>D.nx (σ.set i (some z)) H2
theorem My (hN:X.N.Nodup)(hi:X.N[i]?=some x)(hx:Loc X.env.scope x)(he:PE X e te)(ho:U0 X op ti)(hf:X.fn x=true\/X.env.scope.names.lookup x=some .local:=by first | exact .inl rfl | exact .inr rfl | assumption):
  PS X (.AugAssign (.Name x pos') op e pos) (W3 i te ti):=by
 intro pins s σ H D I h;obtain ⟨v,e1,h⟩:=h;obtain ⟨m,hn,hl⟩:=I.loc;have vis:vZ X.env.scope x:=by rcases hx with k | k;exact .inl k;exact .inr (.inl k)
 obtain ⟨u,r,l⟩:=hl i x v hi e1 vis;refine wpAny_AugAssign_Name ?_;have go:wpAny (model X.prog X.w) X.A (eval e X.env) (λw s₂=>wpAny (model X.prog X.w) X.A (inplaceOp op u w) (λr s₃=>wpAny (model X.prog X.w) X.A (storeName X.env x r) (λ_=>SP X pins D .next) X.xe s₃) X.xe s₂) X.xe s:=by
  refine aS (he pins s σ H _ I h) λw s1 ⟨y,H1,I1,r1,q1⟩=>?_;refine aS (ho pins s1 σ H1 v y u w _ I1 r r1 q1) λz s2 ⟨zv,H2,I2,r2,q2⟩=>?_;exact gA I2 hN hi hx r2 (λs3 I3=>⟨_,H2,I3,q2⟩) hf
 rcases l with ⟨hk,hm⟩ | ⟨hk,c,hc,hcell⟩
 ·exact wpAny_loadName_local I.ok.kind hk hn hm go
 ·rcases hk with hk | hk
  ·exact wpAny_loadName_cell I.ok.kind hk hc hcell go
  ·rcases hx with k | k
   ·have:X.env.scope.names.lookup x=some .free:=hk;rw[k]at this;cases this
   ·have:X.env.scope.names.lookup x=some .free:=hk;rw[k]at this;cases this
def YD (f:Int->Int->Int):Mt:=λx y H Q=>∃i j,x=.int i/\y=.int j/\Q (.int (f i j)) H
theorem Mz:U0 X .Add (YD λi j=>i+j):=by
 intro pins s σ H x y v u Q I r1 r2 h;obtain ⟨i,j,e1,e2,q⟩:=h;subst e1;subst e2;obtain ⟨t,rfl⟩:=r1;obtain ⟨t',rfl⟩:=r2;exact iadd_int ⟨.int _,H,I.tok _,⟨_,rfl⟩,q⟩
def MA (c:TT)(tb:TS):TS:=λD σ H=>∃W:Nat->St->Hp->Prop,(∃m,W m σ H)/\∀m σ H,W m σ H->
 c σ H λb H1=>if b=true then ∃N:St->Hp->Prop,(∀σ' H',N σ' H'->∃m',m' < m/\W m' σ' H')/\tb {D with nx:=N,ct:=N,bk:=D.nx} σ H1 else D.nx σ H1
theorem GB (hp:PassesOwn (model X.prog X.w) X.A X.env X.xe)(hc:PT X c tc)(hb:iw X body tb):PS X (.While c body [] pos) (MA tc tb):=by
 intro pins s σ H D I h;obtain ⟨W,⟨m0,w0⟩,turn⟩:=h;refine wpAny_While (codeAny_whileLoop (λn s'=>∃σ' H',Inv X pins σ' H' s'/\W n σ' H') ?_ m0 ⟨σ,H,I,w0⟩);rintro n s1 ⟨σ1,H1,I1,w1⟩;refine wpAny_passesOwn hp (aS (hc pins s1 σ1 H1 _ I1 (turn n σ1 H1 w1)) λb s2 ⟨H2,I2,q2⟩=>?_);cases b with
 | true=>
  obtain ⟨N,hN,q2⟩:=q2;rw[if_pos rfl];refine wpAny_passesOwn hp (aS (hb pins s2 σ1 H2 _ I2 q2) λf s3 q3=>?_);cases f with
  | next=>
   obtain ⟨σ3,H3,I3,n3⟩:=q3;obtain ⟨m',hm,w3⟩:=hN σ3 H3 n3;exact ⟨m',hm,σ3,H3,I3,w3⟩
  | cont=>
   obtain ⟨σ3,H3,I3,n3⟩:=q3;obtain ⟨m',hm,w3⟩:=hN σ3 H3 n3;exact ⟨m',hm,σ3,H3,I3,w3⟩
  | brk=>exact q3
  | ret v=>exact q3
 | false=>
  rw[if_neg Bool.false_ne_true];exact wpAny_execs_nil ⟨σ1,H2,I2,q2⟩
end
structure It where
 go:Nat->Hp->Prop
 El:Nat->Hp->V->Hp->Prop
 stop:Nat->Hp->Prop
def iA (X:Cx)(pins:List (Addr×Obj))(H:Hp)(b:Addr):Prop:=
 H b=none/\b≠X.env.locals/\b∉X.fs/\(b∈X.ex\/X.s₀.heap.objs.size<=b)/\(∀x c,X.env.cells.lookup x=some c->c≠b)/\∀p∈X.pn++pins,p.1≠b
theorem Inv.vB (I:Inv X pins σ H s)(hb:s.heap.objs.size<=b)(hn:H' b=none):iA X pins H' b:=by
 refine ⟨hn,ne_of_gt (lt_of_lt_of_le I.lt hb),I.WO hb,.inr (le_trans I.sz hb),λx c e z=>?_,λp hp z=>?_⟩
 ·obtain ⟨v,q⟩:=I.cell x c e;exact absurd (lt_of_lt_of_le q.lt (by rw[z];exact hb)) (lt_irrefl _)
 ·exact absurd (lt_of_lt_of_le (lt_size (I.pin p hp).1) (by rw[z];exact hb)) (lt_irrefl _)
structure Turn (P:Program)(w:World)(K:Frag)(tg:Expr)(J:It)(fp:List Addr)(it:Addr)(tn:Nat->Heap->Prop):Prop where
 mem:it∈fp
 obj:∀i h,tn i h->∀b∈fp,∃o,h.get? b=some o/\∀v,o.data≠.cell v
 keep:∀i h h',tn i h->(∀b∈fp,∀o,h.get? b=some o->h'.get? b=some o)->tn i h'
 item:∀(X:Cx),X.prog=P->X.w=w->X.K=K->X.calm=true->∀(i:Nat) (pins:List (Addr×Obj)) (s:Shared) (σ:St) (H:Hp) (E:Value->Shared->Prop),Inv X pins σ H s->(∀b∈fp,iA X pins H b)->tn i s.heap->J.go i H->
  wpAny (model P w) X.A (pyNext (.ref it)) (λr s1=>∃u,r=some u/\
   wpAny (model P w) X.A (letOwnedTupleGo tg (.ref it) u) (λ_ s2=>∃x H',Inv X pins σ H' s2/\RelV x u/\J.El i H x H'/\tn (i+1) s2.heap/\∀b∈fp,H' b=none) E s1) E s
 done:∀(X:Cx),X.prog=P->X.w=w->X.K=K->X.calm=true->∀(i:Nat) (pins:List (Addr×Obj)) (s:Shared) (σ:St) (H:Hp) (E:Value->Shared->Prop),Inv X pins σ H s->(∀b∈fp,iA X pins H b)->tn i s.heap->J.stop i H->
  wpAny (model P w) X.A (pyNext (.ref it)) (λr s1=>r=none/\Inv X pins σ H s1) E s
 self:∀(A:Around) (i:Nat) (s:Shared) (Q:Value->Shared->Prop) (E:Value->Shared->Prop),tn i s.heap->Q (.ref it) s->wpAny (model P w) A (pyIter (.ref it)) Q E s
abbrev TI:=St->Hp->(It->Hp->Prop)->Prop
def PIE (X:Cx)(pins:List (Addr×Obj))(σ:St)(tg:Expr)(R:It->Hp->Prop)(itv:Value)(s2:Shared):Prop:=
 ∃(it:Addr) (fp:List Addr) (tn:Nat->Heap->Prop) (J:It) (H':Hp),itv=.ref it/\Inv X pins σ H' s2/\Turn X.prog X.w X.K tg J fp it tn/\tn 0 s2.heap/\(∀b∈fp,iA X pins H' b)/\R J H'
def PI (X:Cx)(tg iter:Expr)(wi:TI):Prop:=
 ∀(pins:List (Addr×Obj)) (s:Shared) (σ:St) (H:Hp) (R:It->Hp->Prop),Inv X pins σ H s->wi σ H R->
  wpAny (model X.prog X.w) X.A (eval iter X.env) (λv s1=>wpAny (model X.prog X.w) X.A (pyIter v) (PIE X pins σ tg R) X.xe s1) X.xe s
theorem uv (ho:s.heap.get? it=some o)(hc:o.cls=.type n)(hd:o.data=.fields vs)(hn:["enumerate","zip","dict_itemiterator","dict_reverseitemiterator","odict_iterator","itertools.zip_longest","itertools.pairwise"].contains n=false)(hQ:Q () s):wpAny M A (letOwnedTupleGo tg (.ref it) u) Q E s:=by
 unfold letOwnedTupleGo;cases tg<;>first
  | exact wpAny_pure hQ
  | (cases u<;>first
    | exact wpAny_pure hQ
    | (refine wpAny_bind (wpAny_load ho ?_)
       rw[hc,hd];show wpAny M A (if (["enumerate","zip","dict_itemiterator","dict_reverseitemiterator","odict_iterator","itertools.zip_longest","itertools.pairwise"].contains n && vs[0]? == some (rawInt _))=true then _ else _) Q E s;rw[if_neg (by intro h;rw[hn,Bool.false_and]at h;cases h)];exact wpAny_pure hQ))
def Ic (K:Frag)(a:Addr):It:=
 ⟨λi H=>∃xs x,eN K H a xs/\xs[i]?=some x,λi H x H'=>H'=H/\∀xs,eN K H a xs->xs[i]?=some x,λi H=>∃xs,eN K H a xs/\xs.length<=i⟩
def MB (K:Frag)(a:Addr):It:=
 ⟨λi H=>∃xs x,cZ K H a xs/\xs[i]?=some x,λi H x H'=>H'=H/\∀xs,cZ K H a xs->xs[i]?=some x,λi H=>∃xs,cZ K H a xs/\xs.length<=i⟩
def Ie (lo:Int)(n:Nat):It:=⟨λi _=>i < n,λi H x H'=>H'=H/\x=.int (lo+i),λi _=>n<=i⟩
theorem Eo {P:Program}{w:World}{K:Frag}{tg:Expr}(a it:Addr):Turn P w K tg (Ic K a) [it] it (λi h=>h.IsListIter it a i) where
 mem:=by simp
 obj:=λi h st b hb=>by
  have e:b=it:=by simpa using hb
  subst e;obtain ⟨o,e,c,d⟩:=st;exact ⟨o,e,λv z=>by rw[d]at z;cases z⟩
 keep:=λi h h' st k=>st.at λo e=>k it (by simp) o e
 item:=by
  intro X hP hw hK hc i pins s σ H E I hf st hg;subst hP hw hK;obtain ⟨xs,x,hq,hx⟩:=hg;obtain ⟨its,rv,p,hz⟩:=I.list hq;obtain ⟨u,hu,ru⟩:=rv.get hx;obtain ⟨f0,f1,f2,f3,f4,f5⟩:=hf it (by simp);refine wpAny_pyNext_list_item st p.isList (x:=u) (by simpa using hu) λh' st' sb=>?_;have I1:Inv X pins σ H {s with heap:=h'}:=I.turned (t':=s.toks) (λb o hb e=>(sb.2 b hb).trans e) f0 f1 f3 f4 f5;obtain ⟨o,e,c,d⟩:=id st';exact ⟨u,rfl,uv (s:={s with heap:=h'}) e c d (by decide) ⟨x,H,I1,ru,⟨rfl,λys hy=>by rw[I.vz hy hq];exact hx⟩,st',λb hb=>(hf b hb).1⟩⟩
 done:=by
  intro X hP hw hK hc i pins s σ H E I hf st hg;subst hP hw hK;obtain ⟨xs,hq,hx⟩:=hg;obtain ⟨its,rv,p,hz⟩:=I.list hq;obtain ⟨f0,f1,f2,f3,f4,f5⟩:=hf it (by simp);have hl:=rv.length;exact wpAny_pyNext_list_end (I.ok.hd hc) st p.isList (by simp;lia) λh' eb=>⟨rfl,I.turned (t':=s.toks) (λb o hb e=>eb b o hb e) f0 f1 f3 f4 f5⟩
 self:=λ_ _ _ _ _ st h=>wpAny_pyIter_listiter st h
theorem C1 {P:Program}{w:World}{K:Frag}{tg:Expr}(a it:Addr):Turn P w K tg (MB K a) [it] it (λi h=>h.IsTupleIter it a i) where
 mem:=by simp
 obj:=λi h st b hb=>by
  have e:b=it:=by simpa using hb
  subst e;obtain ⟨o,e,c,d⟩:=st;exact ⟨o,e,λv z=>by rw[d]at z;cases z⟩
 keep:=λi h h' st k=>st.at λo e=>k it (by simp) o e
 item:=by
  intro X hP hw hK hc i pins s σ H E I hf st hg;subst hP hw hK;obtain ⟨xs,x,hq,hx⟩:=hg;obtain ⟨its,rv,p,hz⟩:=I.tuple hq;obtain ⟨u,hu,ru⟩:=rv.get hx;obtain ⟨f0,f1,f2,f3,f4,f5⟩:=hf it (by simp);refine wpAny_pyNext_tuple_item st (show s.heap.IsTuple a its.toArray from p) (x:=u) (by simpa using hu) λh' st' sb=>?_;have I1:Inv X pins σ H {s with heap:=h'}:=I.turned (t':=s.toks) (λb o hb e=>(sb.2 b hb).trans e) f0 f1 f3 f4 f5;obtain ⟨o,e,c,d⟩:=id st';exact ⟨u,rfl,uv (s:={s with heap:=h'}) e c d (by decide) ⟨x,H,I1,ru,⟨rfl,λys hy=>by rw[I.qY hy hq];exact hx⟩,st',λb hb=>(hf b hb).1⟩⟩
 done:=by
  intro X hP hw hK hc i pins s σ H E I hf st hg;subst hP hw hK;obtain ⟨xs,hq,hx⟩:=hg;obtain ⟨its,rv,p,hz⟩:=I.tuple hq;obtain ⟨f0,f1,f2,f3,f4,f5⟩:=hf it (by simp);have hl:=rv.length;exact wpAny_pyNext_tuple_end (I.ok.hd hc) st (show s.heap.IsTuple a its.toArray from p) (by simp;lia) λh' eb=>⟨rfl,I.turned (t':=s.toks) (λb o hb e=>eb b o hb e) f0 f1 f3 f4 f5⟩
 self:=λ_ _ _ _ _ st h=>wpAny_pyIter_tupleiter st h
theorem C2 {P:Program}{w:World}{K:Frag}{tg:Expr}(it:Addr)(lo:Int)(n:Nat):Turn P w K tg (Ie lo n) [it] it (λi h=>IsRangeIter h it (lo+(i:Nat) * 1) ((n:Int) - (i:Nat)) 1) where
 mem:=by simp
 obj:=λi h st b hb=>by
  have e:b=it:=by simpa using hb
  subst e;exact ⟨_,st,λv z=>by
   have z':Data.fields _=Data.cell v:=z;cases z'⟩
 keep:=λi h h' st k=>k it (by simp) _ st
 item:=by
  intro X hP hw hK hc i pins s σ H E I hf st hg;subst hP hw hK;obtain ⟨f0,f1,f2,f3,f4,f5⟩:=hf it (by simp);have W:=Walks.range (prog:=X.prog) (w:=X.w) (I.ok.hd hc) it lo 1 n;refine W.item i s _ _ hg st λv h' tk hv st' kk=>?_;obtain ⟨t,rfl⟩:=hv;have I1:Inv X pins σ H {s with heap:=h',toks:=tk}:=I.turned (λb o hb e=>kk b o (by simpa using hb) e) f0 f1 f3 f4 f5;refine ⟨_,rfl,uv (s:={s with heap:=h',toks:=tk}) (n:="range_iterator") st' rfl rfl (by decide) ⟨.int (lo+i),H,I1,⟨t,?_⟩,⟨rfl,rfl⟩,st',λb hb=>(hf b hb).1⟩⟩;rw[Int.mul_one]
 done:=by
  intro X hP hw hK hc i pins s σ H E I hf st hg;subst hP hw hK;obtain ⟨f0,f1,f2,f3,f4,f5⟩:=hf it (by simp);exact wpAny_pyNext_range_end (I.ok.hd hc) st (by have:n<=i:=hg;lia) λh' eb=>⟨rfl,I.turned (t':=s.toks) (λb o hb e=>eb b o hb e) f0 f1 f3 f4 f5⟩
 self:=λ_ _ _ _ _ st h=>wpAny_pyIter_rangeiter st h
section
variable {X:Cx}{tg:Expr}
theorem GC {pins:List (Addr×Obj)}{σ:St}{H:Hp}{s:Shared}{R:It->Hp->Prop}{E:Value->Shared->Prop}{lo hi:Int}{t u v:Tok}{tk:Nat}(I:Inv X pins σ H s)(h1:-(2 ^ 62)<=lo)(h2:lo < 2 ^ 62)(h3:-(2 ^ 62)<=hi)(h4:hi < 2 ^ 62)(q:R (Ie lo (hi - lo).toNat) H):wpAny (model X.prog X.w) X.A (pyIter (.ref s.heap.objs.size)) (PIE X pins σ tg R) E {s with heap:=s.heap.push {cls:=.type "range",data:=.fields #[.int lo t,.int hi u,.int 1 v]},toks:=tk}:=by
 refine wpAny_pyIter_range (IsRange.new ..) (small_one h1 h2 h3 h4) ?_;have I1:Inv X pins σ H {s with heap:=s.heap.push {cls:=.type "range",data:=.fields #[.int lo t,.int hi u,.int 1 v]},toks:=tk}:=I.kept λb o e=>get?_push_of_some _ e;refine ⟨(s.heap.push {cls:=.type "range",data:=.fields #[.int lo t,.int hi u,.int 1 v]}).objs.size,[(s.heap.push {cls:=.type "range",data:=.fields #[.int lo t,.int hi u,.int 1 v]}).objs.size],_,_,H,rfl,
  I1.kept (t':=tk) λb o e=>get?_push_of_some _ e,C2 _ lo (hi - lo).toNat,?_,λb hb=>?_,q⟩
 ·have e1:lo+((0:Nat):Int) * 1=lo:=by simp
  have e2:(((hi - lo).toNat:Nat):Int) - ((0:Nat):Int)=Builtin.Range.rangeSize lo hi 1:=by rw[rangeSize_one];split<;>lia
  show IsRangeIter _ _ (lo+((0:Nat):Int) * 1) ((((hi - lo).toNat:Nat):Int) - ((0:Nat):Int)) 1;rw[e1,e2];exact get?_push_size _ rfl
 ·have e:b=(s.heap.push {cls:=.type "range",data:=.fields #[.int lo t,.int hi u,.int 1 v]}).objs.size:=by simpa using hb
  subst e;exact I1.vB (le_refl _) (I1.hok.fresh (le_refl _))
def Rm (ta:TA):TI:=λσ H R=>ta σ H λvs H1=>∃j:Int,vs=[.int j]/\-(2 ^ 62)<=j/\j < 2 ^ 62/\R (Ie 0 j.toNat) H1
theorem Ep {a:Expr}{ta:TA}{p pos:Pos}(hg:Gl X "range")(hm:X.mg "range"=none)(ha:PA X [a] ta)(hs:starEach [a] X.env=[(false,eval a X.env)]:=by rfl):PI X tg (.Call (.Name "range" p) [a] [] pos) (Rm ta):=by
 intro pins s σ H R I h;refine Call_ (mO I hg hm boot_range (PyProof.Rows.callWith_type1 (aS (ha pos pins s σ H _ I h) λus s1 ⟨vs,H1,I1,r1,q1⟩=>?_) hs rfl));obtain ⟨j,e,q1,q2,q⟩:=q1;subst e;cases r1 with
 | cons r rr=>
  cases rr;obtain ⟨t,rfl⟩:=r;exact call_range_1 (GC I1 (by lia) (by lia) q1 q2 (by simpa using q))
def W4 (wi:TI)(g:TG)(tb:TS):TS:=λD σ H=>wi σ H λJ H1=>∃W:Nat->Nat->St->Hp->Prop,(∃m,W 0 m σ H1)/\∀i m σ H,W i m σ H->
 (J.stop i H/\D.nx σ H)\/(J.go i H/\∃N:St->Hp->Prop,(∀σ' H',N σ' H'->∃m',m' < m/\W (i+1) m' σ' H')/\∀x H',J.El i H x H'->g x σ H' λσ2 H2=>tb {D with nx:=N,ct:=N,bk:=D.nx} σ2 H2)
def qZ (fp:List Addr)(h:Heap):List (Addr×Obj):=fp.filterMap λb=>(h.get? b).map λo=>(b,o)
theorem jJ (hb:b∈fp)(e:h.get? b=some o):(b,o)∈qZ fp h:=List.mem_filterMap.mpr ⟨b,hb,by rw[e];rfl⟩
theorem Es (hp:p∈qZ fp h):p.1∈fp/\h.get? p.1=some p.2:=by
 obtain ⟨b,hb,e⟩:=List.mem_filterMap.mp hp;cases q:h.get? b with
 | none=>rw[q]at e;cases e
 | some o=>
  rw[q]at e;have e':(b,o)=p:=Option.some.inj e;subst e';exact ⟨hb,q⟩
theorem Inv.pinned (I:Inv X pins σ H s)(hf:∀b∈fp,iA X pins H b)(ho:∀b∈fp,∃o,s.heap.get? b=some o/\∀v,o.data≠.cell v):Inv X (pins++qZ fp s.heap) σ H s:=
 I.Bv λp hp=>(mem_append.mp hp).elim (λz=>I.pin p (mem_append_right _ z)) λz=>by
  obtain ⟨hb,e⟩:=Es z;obtain ⟨f0,f1,f2,_⟩:=hf p.1 hb;obtain ⟨o,e',d⟩:=ho p.1 hb;rw[e]at e';cases e';exact ⟨e,f0,f1,f2,d⟩
theorem Inv.n_ (I:Inv X (pins++pl) σ H s):Inv X pins σ H s:=I.Bv λp hp=>I.pin p (mem_append_right _ (List.mem_append_left _ hp))
theorem MC (hp:PassesOwn (model X.prog X.w) X.A X.env X.xe)(hc:X.calm=true)(hi:PI X tg iter wi)(hg:PG X tg g)(hb:iw X body tb)(hs:∀x,foldedSetIterable iter X.env x=pure x:=by intro _;rfl):PS X (.For tg iter body [] pos) (W4 wi g tb):=by
 intro pins s σ H D I h;refine wpAny_For (aS (hi pins s σ H _ I h) λv s1 h1=>aS h1 λitv s2 h2=>?_) hs;obtain ⟨it,fp,tn,J,H2,e,I2,T,st2,f2,W,⟨m0,w0⟩,turn⟩:=h2;subst e
 -- what stays true of the iterator's objects through the loop
 have stat:∀{H':Hp},(∀b∈fp,H' b=none)->∀b∈fp,iA X pins H' b:=λhn b hb=>⟨hn b hb,(f2 b hb).2⟩
 refine codeAny_forLoop_any (λn s'=>∃i σ' H',Inv X pins σ' H' s'/\tn i s'.heap/\(∀b∈fp,H' b=none)/\W i n σ' H') ?_ m0 ⟨0,σ,H2,I2,st2,λb hb=>(f2 b hb).1,w0⟩;rintro n s3 ⟨i,σ3,H3,I3,st3,U1,w3⟩;rcases turn i n σ3 H3 w3 with ⟨stop,qn⟩ | ⟨go,N,hN,step⟩
 ·refine wpAny_passesOwn hp (aS (T.done X rfl rfl rfl hc i pins s3 σ3 H3 X.xe I3 (stat U1) st3 stop) λr s4 ⟨hr,I4⟩=>?_);subst hr;exact wpAny_execs_nil ⟨σ3,H3,I4,qn⟩
 ·refine wpAny_passesOwn hp (aS (T.item X rfl rfl rfl hc i pins s3 σ3 H3 X.xe I3 (stat U1) st3 go) λr s4 ⟨u,hr,h4⟩=>?_);subst hr;refine wpAny_passesOwn hp (aS h4 λ_ s5 ⟨x,H5,I5,r5,y5,Bx,Ig⟩=>?_);have YF:=I5.pinned (stat Ig) (T.obj _ _ Bx);refine wpAny_passesOwn hp (aS (hg _ s5 σ3 H5 x u _ YF r5 (step x H5 y5)) λ_ s6 ⟨σ6,H6,I6,q6⟩=>?_);refine wpAny_passesOwn hp (aS (hb _ s6 σ6 H6 _ I6 q6) λf s7 q7=>?_);have again:∀{zU:St} {H7:Hp},Inv X (pins++qZ fp s5.heap) zU H7 s7->N zU H7->∃m,m < n/\∃i σ' H',Inv X pins σ' H' s7/\tn i s7.heap/\(∀b∈fp,H' b=none)/\W i m σ' H':=λ{zU H7} I7 n7=>by
   obtain ⟨m',hm,w7⟩:=hN zU H7 n7;refine ⟨m',hm,i+1,zU,H7,I7.n_,T.keep _ _ _ Bx λb hb o e=>(I7.pin (b,o) (mem_append_right _ (mem_append_right _ (jJ hb e)))).1,λb hb=>?_,w7⟩;obtain ⟨o,e,d⟩:=T.obj _ _ Bx b hb;exact (I7.pin (b,o) (mem_append_right _ (mem_append_right _ (jJ hb e)))).2.1
  cases f with
  | next=>obtain ⟨zU,H7,I7,n7⟩:=q7;exact again I7 n7
  | cont=>obtain ⟨zU,H7,I7,n7⟩:=q7;exact again I7 n7
  | brk=>obtain ⟨zU,H7,I7,q7⟩:=q7;exact ⟨zU,H7,I7.n_,q7⟩
  | ret v=>obtain ⟨x7,zU,H7,I7,r7,q7⟩:=q7;exact ⟨x7,zU,H7,I7.n_,r7,q7⟩
end
abbrev R2:=V->V->Hp->VK->Prop
def bu (X:Cx)(f:Value->Value->Sem Value)(r:R2):Prop:=
 ∀(pins:List (Addr×Obj)) (s:Shared) (σ:St) (H:Hp) (x y:V) (v u:Value) (Q:VK),Inv X pins σ H s->RelV x v->RelV y u->r x y H Q->
  wpAny (model X.prog X.w) X.A (f v u) (EP X pins σ Q) X.xe s
def By (X:Cx)(f:Value->Sem Value)(r:V->Hp->VK->Prop):Prop:=
 ∀(pins:List (Addr×Obj)) (s:Shared) (σ:St) (H:Hp) (x:V) (v:Value) (Q:VK),Inv X pins σ H s->RelV x v->r x H Q->
  wpAny (model X.prog X.w) X.A (f v) (EP X pins σ Q) X.xe s
def cR (X:Cx)(f:Value)(r:List V->Hp->VK->Prop):Prop:=
 ∀(pins:List (Addr×Obj)) (s:Shared) (σ:St) (H:Hp) (xs:List V) (us:List Value) (Q:VK),Inv X pins σ H s->Vals xs us->r xs H Q->
  wpAny (model X.prog X.w) X.A (call f us) (EP X pins σ Q) X.xe s
def W5 (X:Cx)(r:V->Hp->(Bool->Hp->Prop)->Prop):Prop:=
 ∀(pins:List (Addr×Obj)) (s:Shared) (σ:St) (H:Hp) (x:V) (v:Value) (Q:Bool->Hp->Prop),Inv X pins σ H s->RelV x v->r x H Q->
  wpAny (model X.prog X.w) X.A (truthy v) (TP X pins σ Q) X.xe s
def Ih (r:R2)(ta tb:TE):TE:=λσ H Q=>ta σ H λx H1=>tb σ H1 λy H2=>r x y H2 Q
def YG (r:V->Hp->VK->Prop)(ta:TE):TE:=λσ H Q=>ta σ H λx H1=>r x H1 Q
def rI (C:Int->Int->Prop)(g:Int->Int->V):R2:=λx y H Q=>∃i j,x=.int i/\y=.int j/\C i j/\Q (g i j) H
def v7 (g:Int->Int->V):R2:=λx y H Q=>∃i j,x=.int i/\y=.int j/\Q (g i j) H
def rU (g:Int->V):V->Hp->VK->Prop:=λx H Q=>∃i,x=.int i/\Q (g i) H
section
variable {X:Cx}{a b c:Expr}{ta tb tc:TE}{pos:Pos}
theorem GD (ha:PE X a ta)(hb:PE X b tb){pins:List (Addr×Obj)}{s:Shared}{σ:St}{H:Hp}{R:V->V->Hp->Prop}(I:Inv X pins σ H s)(h:ta σ H λx H1=>tb σ H1 λy H2=>R x y H2){Q:Value->Shared->Prop}{f:Value->Value->Sem Value}(hf:∀v u s2 x y H2,Inv X pins σ H2 s2->RelV x v->RelV y u->R x y H2->wpAny (model X.prog X.w) X.A (f v u) Q X.xe s2):
  wpAny (model X.prog X.w) X.A (eval a X.env) (λv s₁=>wpAny (model X.prog X.w) X.A (eval b X.env) (λu s₂=>wpAny (model X.prog X.w) X.A (f v u) Q X.xe s₂) X.xe s₁) X.xe s:=by
 refine aS (ha pins s σ H _ I h) λv s1 ⟨x,H1,I1,r1,q1⟩=>?_;refine aS (hb pins s1 σ H1 _ I1 q1) λu s2 ⟨y,H2,I2,r2,q2⟩=>?_;exact hf v u s2 x y H2 I2 r1 r2 q2
theorem Rn {op:Operator}{r:R2}(ho:bu X (binaryOp op) r)(ha:PE X a ta)(hb:PE X b tb):PE X (.BinOp a op b pos) (Ih r ta tb):=by
 intro pins s σ H Q I h;exact wpAny_BinOp (GD ha hb I h λv u s2 x y H2 I2 rx ry q=>ho pins s2 σ H2 x y v u Q I2 rx ry q)
theorem Ro (ho:By X (unaryOp op) r)(ha:PE X a ta):PE X (.UnaryOp op a pos) (YG r ta):=by
 intro pins s σ H Q I h;exact UnaryOp_ (aS (ha pins s σ H _ I h) λv s1 ⟨x,H1,I1,r1,q1⟩=>ho pins s1 σ H1 x v Q I1 r1 q1)
theorem Et {f:Value->Value->Sem Value}{C:Int->Int->Prop}{g:Int->Int->Int}(rule:∀(i j:Int) (t u:Tok) (s:Shared) (Q:Value->Shared->Prop) (E:Value->Shared->Prop),C i j->Q (.int (g i j) s.toks) {s with toks:=s.toks+1}->wpAny (model X.prog X.w) X.A (f (.int i t) (.int j u)) Q E s):
  bu X f (rI C λi j=>.int (g i j)):=by
 intro pins s σ H x y v u Q I rx ry h;obtain ⟨i,j,rfl,rfl,hc,q⟩:=h;obtain ⟨t,rfl⟩:=rx;obtain ⟨t',rfl⟩:=ry;exact rule i j t t' s _ _ hc ⟨.int (g i j),H,I.tok _,⟨_,rfl⟩,q⟩
theorem MD {f:Value->Value->Sem Value}{g:Int->Int->Int}(rule:∀(i j:Int) (t u:Tok) (s:Shared) (Q:Value->Shared->Prop) (E:Value->Shared->Prop),Q (.int (g i j) s.toks) {s with toks:=s.toks+1}->wpAny (model X.prog X.w) X.A (f (.int i t) (.int j u)) Q E s):
  bu X f (v7 λi j=>.int (g i j)):=by
 intro pins s σ H x y v u Q I rx ry h;obtain ⟨i,j,rfl,rfl,q⟩:=h;obtain ⟨t,rfl⟩:=rx;obtain ⟨t',rfl⟩:=ry;exact rule i j t t' s _ _ ⟨.int (g i j),H,I.tok _,⟨_,rfl⟩,q⟩
theorem GF {f:Value->Value->Sem Value}{g:Int->Int->Bool}(rule:∀(i j:Int) (t u:Tok) (s:Shared) (Q:Value->Shared->Prop) (E:Value->Shared->Prop),Q (.bool (g i j)) s->wpAny (model X.prog X.w) X.A (f (.int i t) (.int j u)) Q E s):
  bu X f (v7 λi j=>.bl (g i j)):=by
 intro pins s σ H x y v u Q I rx ry h;obtain ⟨i,j,rfl,rfl,q⟩:=h;obtain ⟨t,rfl⟩:=rx;obtain ⟨t',rfl⟩:=ry;exact rule i j t t' s _ _ ⟨.bl (g i j),H,I,rfl,q⟩
def W6 (i j:Int):Prop:=0<=j/\j<=1000000/\i.natAbs < 2 ^ 64
def GH (i j:Int):Prop:=(-(2 ^ 64) < i/\i < 2 ^ 64)\/(-(2 ^ 64) < j/\j < 2 ^ 64)
theorem GH.ok (h:GH i j):IntMulOk i j:=by
 rcases h with ⟨h1,h2⟩ | ⟨h1,h2⟩
 ·exact .of_left (intBits_le_64 h1 h2)
 ·exact .of_right (intBits_le_64 h1 h2)
theorem ME:bu X (binaryOp .Add) (v7 λi j=>.int (i+j)):=MD λ_ _ _ _ _ _ _ q=>add_int q
theorem MF:bu X (binaryOp .Sub) (v7 λi j=>.int (i - j)):=MD λ_ _ _ _ _ _ _ q=>sub_int q
theorem MG:bu X (binaryOp .Mult) (rI GH λi j=>.int (i * j)):=Et λ_ _ _ _ _ _ _ hc q=>mul_int q hc.ok
theorem MH:bu X (binaryOp .Mod) (rI (λ_ j=>0 < j) λi j=>.int (i % j)):=Et λi j _ _ _ _ _ hc q=>by
 have h1:(0:Int) < j:=hc;exact mod_int' (by lia) (by rw[Int.fmod_eq_emod_of_nonneg i (by lia)];exact q)
theorem MI:bu X (binaryOp .Pow) (rI W6 λi j=>.int (i ^ j.toNat)):=Et λ_ _ _ _ _ _ _ hc q=>pow_int_small hc.1 hc.2.1 hc.2.2 q
theorem YH {f:Value->Sem Value}{g:Int->Int}(rule:∀(i:Int) (t:Tok) (s:Shared) (Q:Value->Shared->Prop) (E:Value->Shared->Prop),Q (.int (g i) s.toks) {s with toks:=s.toks+1}->wpAny (model X.prog X.w) X.A (f (.int i t)) Q E s):
  By X f (rU λi=>.int (g i)):=by
 intro pins s σ H x v Q I rx h;obtain ⟨i,rfl,q⟩:=h;obtain ⟨t,rfl⟩:=rx;exact rule i t s _ _ ⟨.int (g i),H,I.tok _,⟨_,rfl⟩,q⟩
theorem MJ:By X (unaryOp .USub) (rU λi=>.int (-i)):=YH λ_ _ _ _ _ q=>neg_int q
theorem zV (I:Inv X pins σ H s)(q:Q (.bl k) H)(e:k=k'):EP X pins σ Q (.bool k') s:=by
 subst e;exact ⟨.bl k,H,I,rfl,q⟩
theorem Rp:bu X (compareOp .Lt) (v7 λi j=>.bl (decide (i < j))):=GF λ_ _ _ _ _ _ _ q=>lt_int q
theorem Rq:bu X (compareOp .LtE) (v7 λi j=>.bl (decide (i<=j))):=GF λ_ _ _ _ _ _ _ q=>le_int q
theorem Rt:bu X (compareOp .Gt) (v7 λi j=>.bl (decide (j < i))):=GF λ_ _ _ _ _ _ _ q=>gt_int q
theorem Eu:bu X (compareOp .In) (λx y H Q=>∃i j,x=.str i/\y=.str j/\Q (.bl (!(Builtin.Str.occurrences j i 0 j.length 1).isEmpty)) H):=by
 intro pins s σ H x y v u Q I rx ry h;obtain ⟨i,j,rfl,rfl,q⟩:=h;obtain ⟨t,rfl⟩:=rx;obtain ⟨t',rfl⟩:=ry;exact in_str (zV I q rfl)
theorem ML:bu X (compareOp .Is) (λx y H Q=>y=.non/\Q (.bl (decide (x=.non))) H):=by
 intro pins s σ H x y v u Q I rx ry h;obtain ⟨rfl,q⟩:=h;cases ry;refine is_none_gen (zV I q ?_);cases x<;>first
  | (cases rx;rfl)
  | (obtain ⟨t,rfl⟩:=rx;rfl)
theorem zW:bu X (compareOp .NotIn) (λx y H Q=>∃i j,x=.str i/\y=.str j/\Q (.bl (!(!(Builtin.Str.occurrences j i 0 j.length 1).isEmpty))) H):=by
 intro pins s σ H x y v u Q I rx ry h;obtain ⟨i,j,rfl,rfl,q⟩:=h;obtain ⟨t,rfl⟩:=rx;obtain ⟨t',rfl⟩:=ry;exact notIn_str (zV I q rfl)
theorem xF (ho:bu X (compareOp op) r)(ha:PE X a ta)(hb:PE X b tb)(hm:behindInMarks op b=false):PE X (.Compare a [op] [b] pos) (Ih r ta tb):=by
 intro pins s σ H Q I h;exact wpAny_Compare1 (GD ha hb I h λv u s2 x y H2 I2 rx ry q=>ho pins s2 σ H2 x y v u Q I2 rx ry q) hm
def Ru (t:TE):TT:=λσ H Q=>t σ H λx H'=>∃k,x=.bl k/\Q k H'
theorem BA (ho:bu X (compareOp op) r)(ha:PE X a ta)(hb:PE X b tb)(hm:behindInMarks op b=false):PT X (.Compare a [op] [b] pos) (Ru (Ih r ta tb)):=by
 intro pins s σ H Q I h;refine wpAny_isTrue_Compare1 (aS (ha pins s σ H _ I h) λv s1 ⟨x,H1,I1,r1,q1⟩=>aS (hb pins s1 σ H1 _ I1 q1) λu s2 ⟨y,H2,I2,r2,q2⟩=>
  aS (ho pins s2 σ H2 x y v u _ I2 r1 r2 q2) λc s3 ⟨z,H3,I3,r3,k,e,q3⟩=>?_) hm
 subst e;cases r3;exact wpAny_truthy_bool ⟨H3,I3,q3⟩
def MM (r r':R2)(ta tb tc:TE):TE:=λσ H Q=>ta σ H λx H1=>tb σ H1 λy H2=>r x y H2 λz H3=>∃k,z=.bl k/\
 (if k=true then tc σ H3 λw' H4=>r' y w' H4 Q else Q (.bl false) H3)
theorem GI (ho:bu X (compareOp op) r)(ho':bu X (compareOp op') r')(ha:PE X a ta)(hb:PE X b tb)(hc:PE X c tc)(hm:lastMarks [op,op'] [b,c]=false:=by with_unfolding_all rfl):PE X (.Compare a [op,op'] [b,c] pos) (MM r r' ta tb tc):=by
 intro pins s σ H Q I h;refine Compare_chain (aS (ha pins s σ H _ I h) λv s1 ⟨x,H1,I1,r1,q1⟩=>chain_link (aS (hb pins s1 σ H1 _ I1 q1) λu s2 ⟨y,H2,I2,r2,q2⟩=>
  aS (ho pins s2 σ H2 x y v u _ I2 r1 r2 q2) λd s3 ⟨z,H3,I3,r3,k,e,q3⟩=>?_)) hm
 subst e;cases r3;refine wpAny_truthy_bool ?_;cases k with
 | false=>exact ite_ff ⟨.bl false,H3,I3,rfl,q3⟩
 | true=>exact ite_tt (chain_last (aS (hc pins s3 σ H3 _ I3 q3) λw' s4 ⟨z',H4,I4,r4,q4⟩=>ho' pins s4 σ H4 y z' u w' Q I4 r2 r4 q4))
def GJ (K:Frag)(x:V)(H:Hp)(k:Bool):Prop:=
 match x with
 | .non=>k=false
 | .bl b=>k=b
 | .int i=>k=(i != 0)
 | .str y=>y.length<=sizeLine/\k=((y.length:Int) != 0)
 | .yE y=>y.size<=sizeLine/\k=((y.size:Int) != 0)
 | .ref p=>(∃xs,eN K H p xs/\k=!xs.isEmpty)\/(∃xs,cZ K H p xs/\k=!xs.isEmpty)\/∃kvs,H p=some (.dK kvs)/\k=!kvs.isEmpty
 | _=>False
theorem C3 {κ:Type}{kvs:List (κ×V)}{vs:List (κ×Value)}(r:KV kvs vs):(!vs.isEmpty)=!kvs.isEmpty:=by
 cases r<;>rfl
theorem v8 (r:Vals xs its):(!its.toArray.isEmpty)=!xs.isEmpty:=by
 cases r<;>simp
theorem mQ:(sizeLine:Nat) < 2 ^ 63:=by rw[sizeLine_eq];decide
theorem MN:W5 X (λx H Q=>∃k,GJ X.K x H k/\Q k H):=by
 intro pins s σ H x v Q I rx h;obtain ⟨k,e,q⟩:=h;have hl:=mQ;have hs:sizeLine=16777216:=sizeLine_eq;cases x with
 | non=>
  cases rx;have e':k=false:=e;subst e';exact truthy_none ⟨H,I,q⟩
 | bl b=>
  cases rx;have e':k=b:=e;subst e';exact wpAny_truthy_bool ⟨H,I,q⟩
 | int i=>
  obtain ⟨t,rfl⟩:=rx;have e':k=(i != 0):=e;subst e';exact PySem.P.truthy_int ⟨H,I,q⟩
 | str y=>
  obtain ⟨t,rfl⟩:=rx;obtain ⟨hy,e'⟩:y.length<=sizeLine/\k=((y.length:Int) != 0):=e;subst e';exact PySem.P.truthy_str (by lia) ⟨H,I.tok _,q⟩
 | yE y=>
  obtain ⟨t,rfl⟩:=rx;obtain ⟨hy,e'⟩:y.size<=sizeLine/\k=((y.size:Int) != 0):=e;subst e';exact PySem.W.truthy_bytes (by lia) ⟨H,I.tok _,q⟩
 | ref p=>
  cases rx;have e':(∃xs,eN X.K H p xs/\k=!xs.isEmpty)\/(∃xs,cZ X.K H p xs/\k=!xs.isEmpty)\/∃kvs,H p=some (.dK kvs)/\k=!kvs.isEmpty:=e;rcases e' with ⟨xs,hx,e'⟩ | ⟨xs,hx,e'⟩ | ⟨kvs,hx,e'⟩
  ·subst e';obtain ⟨its,r,pl,hz⟩:=I.list hx;have hlen:=r.length;exact wpAny_truthy_list pl.isList (by erw[size_toArray];lia) ⟨H,I.tok _,by rw[v8 r];exact q⟩
  ·subst e';obtain ⟨its,r,pl,hz⟩:=I.tuple hx;have hlen:=r.length;exact truthy_tuple pl (by erw[size_toArray];lia) ⟨H,I.tok _,by rw[v8 r];exact q⟩
  ·subst e';obtain ⟨hz,hS,vs,r,m⟩:kvs.length<=sizeLine/\(p == sysModules)=false/\∃vs,KV kvs vs/\s.heap.DictOf (b5 X.prog X.w) p vs:=I.hok p _ hx;have hlen:kvs.length=vs.length:=Paired.length r;exact wpAny_truthy_dict hS m (by lia) ⟨H,I.tok _,by rw[C3 r];exact q⟩
 | _=>exact (show False from e).elim
theorem GK (ha:PE X a ta)(he:∀whole,isTrue a X.env whole=(do let v <-whole;standAt a.pos;holding [v] (truthy v))):
  PT X a (λσ H Q=>ta σ H λx H'=>∃k,GJ X.K x H' k/\Q k H'):=by
 intro pins s σ H Q I h;exact isTrue_plain (aS (ha pins s σ H _ I h) λv s1 ⟨x,H1,I1,r1,q1⟩=>MN pins s1 σ H1 x v Q I1 r1 q1) (he _)
theorem C4:bu X (binaryOp .Add) (λx y H Q=>∃i j,x=.str i/\y=.str j/\i.length+j.length<=sizeLine/\Q (.str (i++j)) H):=by
 intro pins s σ H x y v u Q I rx ry h;obtain ⟨i,j,rfl,rfl,hz,q⟩:=h;obtain ⟨t,rfl⟩:=rx;obtain ⟨t',rfl⟩:=ry;exact add_str (λt' tk=>⟨.str (i++j),H,I.tok _,⟨_,rfl⟩,q⟩) hz
theorem vals1 (r:Vals [x] us):∃u,us=[u]/\RelV x u:=by
 cases r with
 | cons r1 r2=>cases r2;exact ⟨_,rfl,r1⟩
theorem vals2 (r:Vals [x,y] us):∃u w',us=[u,w']/\RelV x u/\RelV y w':=by
 cases r with
 | cons r1 r2=>
  cases r2 with
  | cons r3 r4=>cases r4;exact ⟨_,_,rfl,r1,r3⟩
def W7 (K:Frag)(x:V)(H:Hp)(n:Nat):Prop:=
 match x with
 | .str y=>y.length<=sizeLine/\n=y.length
 | .yE y=>y.size<=sizeLine/\n=y.size
 | .ref p=>(∃xs,eN K H p xs/\n=xs.length)\/∃xs,cZ K H p xs/\n=xs.length
 | _=>False
theorem GL:cR X (.builtin "len") (λxs H Q=>∃x n,xs=[x]/\W7 X.K x H n/\Q (.int n) H):=by
 intro pins s σ H xs us Q I r h;obtain ⟨x,n,rfl,e,q⟩:=h;obtain ⟨u,rfl,rx⟩:=vals1 r;have hl:=mQ;have hs:sizeLine=16777216:=sizeLine_eq;cases x with
 | str y=>
  obtain ⟨t,rfl⟩:=rx;obtain ⟨hy,e'⟩:y.length<=sizeLine/\n=y.length:=e;subst e';exact len_str (by lia) ⟨.int _,H,I.tok _,⟨_,rfl⟩,q⟩
 | yE y=>
  obtain ⟨t,rfl⟩:=rx;obtain ⟨hy,e'⟩:y.size<=sizeLine/\n=y.size:=e;subst e';exact PySem.W.len_bytes (by lia) ⟨.int _,H,I.tok _,⟨_,rfl⟩,q⟩
 | ref p=>
  cases rx;have e':(∃xs,eN X.K H p xs/\n=xs.length)\/∃xs,cZ X.K H p xs/\n=xs.length:=e;rcases e' with ⟨xs,hx,e'⟩ | ⟨xs,hx,e'⟩
  ·subst e';obtain ⟨its,r',pl,hz⟩:=I.list hx;have hlen:=r'.length;exact Calls.call_len_list pl.isList (by erw[size_toArray];lia) ⟨.int xs.length,H,I.tok _,⟨_,by erw[size_toArray];rw[hlen]⟩,q⟩
  ·subst e';obtain ⟨its,r',pl,hz⟩:=I.tuple hx;have hlen:=r'.length;exact len_tuple pl (by erw[size_toArray];lia) ⟨.int xs.length,H,I.tok _,⟨_,by erw[size_toArray];rw[hlen]⟩,q⟩
 | _=>exact (show False from e).elim
end
theorem jg.some_of (r:jg (some v) o):∃u,o=some u/\RelV v u:=by
 cases o with
 | none=>exact (show False from r).elim
 | some u=>exact ⟨u,rfl,r⟩
theorem Ew (r:RelV v u):PySem.W.handedIn u=true:=by
 cases v with
 | non=>cases (show u=Value.none from r);rfl
 | bl b=>cases (show u=Value.bool b from r);rfl
 | int i=>obtain ⟨t,e⟩:=(show ∃t,u=Value.int i t from r);cases e;rfl
 | str x=>obtain ⟨t,e⟩:=(show ∃t,u=Value.str x t from r);cases e;rfl
 | yE b=>obtain ⟨t,e⟩:=(show ∃t,u=Value.bytes b t from r);cases e;rfl
 | flt b=>obtain ⟨t,e⟩:=(show ∃t,u=Value.float b t from r);cases e;rfl
 | ref a=>cases (show u=Value.ref a from r);rfl
 | ty n=>cases (show u=Value.type n from r);rfl
section
variable {X:Cx}{pins:List (Addr×Obj)}{σ:St}{H:Hp}{s:Shared}{a C dx:Addr}{fs:List (Str×V)}{f:Str}{v:V}{A:Around}{E:Value->Shared->Prop}
theorem JE (hb:attributeBase e f env (eval e env)=eval e env)(h:wpAny (model prog w) A (eval e env) (λo s₁=>wpAny (model prog w) A (getAttr o f true) Q E s₁) E s):wpAny (model prog w) A (eval (.Attribute e f pos) env) Q E s:=
 Attribute_any_ h (by rw[arm_eval_Attribute,hb])
end
structure bN (k:Nat)(A:Around):Prop where
 hd:A.handled=none
 dp:A.depth+3 * k+5 < recursionLimit
 un:A.units+16 * k+200 < cLine
theorem bN.deeper (r:bN (k+1) A)(env:Env):bN k (A.deeper env):=
 ⟨r.hd,by have:=r.dp;show A.depth+1+3 * k+5 < _;lia,by have:=r.un;show A.units+3+16 * k+200 < _;lia⟩
theorem C5 {A:Around}{C:Addr}{us:List Value}{kw:List (Str×Value)}:(A.under (.builtin "type.__call__" ⟨.ref C::us,kw⟩)).depth=A.depth+1:=by
 first | rfl | simp[Around.under,Code.weight,Code.isCreation,Code.isGuard,Code.isCaller,Code.frames,Code.isFrame,guardIds]
theorem C6 {A:Around}{C:Addr}{us:List Value}{kw:List (Str×Value)}:(A.under (.builtin "type.__call__" ⟨.ref C::us,kw⟩)).units=A.units+1:=by
 first | rfl | simp[Around.under,Code.cUnits,Code.frames,Code.isFrame]
theorem bN.make (r:bN (k+1) A)(C:Addr)(us:List Value)(kw:List (Str×Value)):bN k (A.under (.builtin "type.__call__" ⟨.ref C::us,kw⟩)):=
 ⟨r.hd,by have:=r.dp;rw[C5];lia,by have:=r.un;rw[C6];lia⟩
theorem bN.depth (r:bN k A):A.depth < recursionLimit:=by have:=r.dp;lia
def W8:TA:=λ_ H Q=>Q [] H
def Rv (ta:TE)(tr:TA):TA:=λσ H Q=>ta σ H λx H1=>tr σ H1 λxs H2=>Q (x::xs) H2
section
variable {X:Cx}{e:Expr}{es:List Expr}{te:TE}{t:TA}{pos:Pos}
theorem i_:PA X [] W8:=λ_ _ _ _ H Q I h=>Calls.spliced_nil ⟨[],H,I,.nil,h⟩
theorem dw (ha:PE X e te)(hr:PA X es t)(hs:dn X.env e es:=by rfl):PA X (e::es) (Rv te t):=by
 intro pos pins s σ H Q I h;rw[hs];show wpAny _ _ (spliced ((false,eval e X.env)::backTo pos (starEach es X.env))) _ _ s;refine Calls.spliced_cons (aS (ha pins s σ H _ I h) λu s1 ⟨x,H1,I1,r1,q1⟩=>?_);exact aS (hr pos pins s1 σ H1 _ I1 q1) λus s2 ⟨xs,H2,I2,r2,q2⟩=>⟨x::xs,H2,I2,.cons r1 r2,q2⟩
def W9 (t:TA):TE:=λσ H Q=>t σ H λxs H1=>xs.length<=sizeLine/\∀p,H1 p=none->Q (.ref p) (upd H1 p (.tup xs))
def W_ (t:TA):TE:=λσ H Q=>t σ H λxs H1=>xs.length<=sizeLine/\∀p,H1 p=none->Q (.ref p) (upd H1 p (.lst xs))
theorem MO {x1}(h:PA X es t):PE X (.Tuple es x1 pos) (W9 t):=by
 intro pins s σ H Q I hq;refine wpAny_Tuple_spliced (aS (h pos pins s σ H _ I hq) λus s1 ⟨xs,H1,I1,r,z,q⟩=>⟨by rw[<-r.length];exact z,?_⟩);have hf:H1 s1.heap.objs.size=none:=I1.hok.fresh (le_refl _);refine ⟨.ref s1.heap.objs.size,upd H1 s1.heap.objs.size (.tup xs),I1.laid (t':=s1.toks) (λb u e=>get?_push_of_some _ e) (le_refl _) ?_,rfl,q _ hf⟩;exact ⟨z,us,r,⟨⟨_,get?_push_size _ rfl,rfl,_,rfl⟩,_,get?_push_size _ rfl,rfl⟩⟩
theorem MP (h:PA X es t):PE X (.List es pos) (W_ t):=by
 intro pins s σ H Q I hq;refine wpAny_List_spliced (aS (h pos pins s σ H _ I hq) λus s1 ⟨xs,H1,I1,r,z,q⟩=>⟨by rw[<-r.length];exact z,?_⟩);have hf:H1 s1.heap.objs.size=none:=I1.hok.fresh (le_refl _);refine ⟨.ref s1.heap.objs.size,upd H1 s1.heap.objs.size (.lst xs),I1.laid (t':=s1.toks) (λb u e=>get?_push_of_some _ e) (le_refl _) ?_,rfl,q _ hf⟩;exact ⟨z,us,0,r,get?_push_size _ rfl⟩
end
abbrev Sp:=List V->Hp->VK->XK->Prop
abbrev q9:=List Env->Hp->Shared->XK->Value->Shared->Prop
structure vC (P:Program)(w:World)(K:Frag)(mg:Str->Option Value)(base:Heap)(A:Around)(outer:List Env)(s:Shared)(H:Hp):Prop where
 frames:A.frames=some outer
 mod:Mod K mg base
 bs:∀b o,base.get? b=some o->s.heap.get? b=some o/\H b=none
 uW:base.objs.size<=s.heap.objs.size
 iz:s.heap.FunFrames base outer
 yF:∀b∈frs outer,H b=none
 hok:cE P w H s.heap
 bare:AllBare s.gens
def CE (outer:List Env)(P:Program)(w:World)(H:Hp)(s:Shared)(Q:VK)(u:Value)(s':Shared):Prop:=
 ∃v H',s'.os=s.os/\AllBare s'.gens/\Un (frs outer) [] H H' s.heap s'.heap/\cE P w H' s'.heap/\RelV v u/\Q v H'
def CR (CX:q9)(outer:List Env)(P:Program)(w:World)(H:Hp)(s:Shared)(Q:VK)(E:XK)(r:Result)(s':Shared):Prop:=
 match r with
 | .ok (.ret u)=>CE outer P w H s Q u s'
 | .ok _=>False
 | .error e=>CX outer H s E e s'
structure aH (P:Program)(w:World)(K:Frag)(mg:Str->Option Value)(base:Heap)(CX:q9)(k:Nat)(f:Addr)(fd:FuncData)(ps:List Str)(sp:Sp):Prop where
 len:∀vs H Q E,sp vs H Q E->vs.length=ps.length
 run:∀(A:Around) (outer:List Env) (s:Shared) (H:Hp) (args:Args) (us:List Value) (vs:List V) (Q:VK) (E:XK),bN k A->vC P w K mg base A outer s H->BindsTo s fd args (ps.zip us)->Vals vs us->sp vs H Q E->
  codeAny (model P w) A (.call (.ref f) args) (CR CX outer P w H s Q E) s
theorem vC.make {P:Program}{w:World}{K:Frag}{mg:Str->Option Value}{base:Heap}{A:Around}{outer:List Env}{s:Shared}{H:Hp}(e:vC P w K mg base A outer s H)(C:Addr)(us:List Value)(kw:List (Str×Value)):
  vC P w K mg base (A.under (.builtin "type.__call__" ⟨.ref C::us,kw⟩)) outer s H:=⟨by first | exact e.frames | (simpa [Around.under,Code.envs,Code.isFrame,pushEnvs] using e.frames),e.mod,e.bs,e.uW,e.iz,e.yF,e.hok,e.bare⟩
section
variable {X:Cx}{pins:List (Addr×Obj)}{σ:St}{H:Hp}{s s':Shared}
theorem Inv.env0 (I:Inv X pins σ H s):vC X.prog X.w X.K X.mg X.base X.A X.stack s H:=
 ⟨I.ok.frames,I.ok.mod,I.bs,le_trans I.ok.uW I.sz,I.stack,I.uq,I.hok,I.bare⟩
theorem Inv.after (I:Inv X pins σ H s)(h:CE X.stack X.prog X.w H s Q u s'):EP X pins σ Q u s':=by
 obtain ⟨v,H',os,bare,un,hok,r,q⟩:=h;obtain ⟨hh,g,d,t,os'⟩:=s';obtain rfl:os'=s.os:=os;exact ⟨v,H',I.call (h':=hh) (g':=g) (d':=d) (t':=t) (ch:=[]) un hok bare (λb z=>absurd z (by simp)),r,q⟩
end
def Rw (sp:Sp)(uX:List V)(E:XK)(t:TA):TE:=λσ H Q=>t σ H λvs H1=>sp (vs++uX) H1 Q E
def Binds (K:Frag)(fd:FuncData)(ps:List Str)(ds:List Value):Prop:=
 ∀(s:Shared) (us:List Value),K.In s.heap->(us++ds).length=ps.length->BindsTo s fd ⟨us,[]⟩ (ps.zip (us++ds))
theorem Binds.all {K:Frag}{fd:FuncData}{ps:List Str}(h:∀us:List Value,us.length=ps.length->bindArgs fd ⟨us,[]⟩=pure (ps.zip us)):Binds K fd ps []:=λs us _ hl=>by
 rw[append_nil]at hl ⊢;exact .of_eq (h us hl)
def Passes (CX:q9)(X:Cx)(E:XK):Prop:=∀(pins:List (Addr×Obj)) (σ:St) (H:Hp) (s:Shared) (e:Value) (s':Shared),Inv X pins σ H s->CX X.stack H s E e s'->X.xe e s'
section
variable {X:Cx}{CX:q9}{k:Nat}{f C:Addr}{fd:FuncData}{ps:List Str}{sp:Sp}{uX:List V}{ds:List Value}{E:XK}{x m:Str}{p pos apos:Pos}{e o:Expr}{es:List Expr}{ta:TE}{t:TA}
theorem MQ (F:aH X.prog X.w X.K X.mg X.base CX k f fd ps sp)(hr:bN k X.A)(hb:Binds X.K fd ps ds)(hd:Vals uX ds)(hx:Passes CX X E)(I:Inv X pins σ H s)(r:Vals vs us)(h:sp (vs++uX) H Q E):wpAny (model X.prog X.w) X.A (call (.ref f) us) (EP X pins σ Q) X.xe s:=by
 have r2:Vals (vs++uX) (us++ds):=r.append hd;have hl:(us++ds).length=ps.length:=by rw[<-r2.length];exact F.len _ _ _ _ h
 refine wpAny_call (codeAny_mono (F.run X.A X.stack s H ⟨us,[]⟩ (us++ds) (vs++uX) Q E hr I.env0 (hb s us I.bX hl) r2 h) λr s' hq=>?_);cases r with
 | error e=>exact hx pins σ H s e s' I hq
 | ok fl=>
  cases fl with
  | ret u=>exact I.after hq
  | next=>exact False.elim hq
  | brk=>exact False.elim hq
  | cont=>exact False.elim hq
theorem JF (F:aH X.prog X.w X.K X.mg X.base CX k f fd ps sp)(hr:bN k X.A)(hg:Gl X x)(hm:X.mg x=some (.ref f))(hk:keepIn X.K (.ref f)=true)(hb:Binds X.K fd ps ds)(hd:Vals uX ds)(hx:Passes CX X E)(ha:PA X (e::es) t)(hdb:bM x:=by decide)(he:dn X.env e es:=by rfl)(hpl:iy X.env es pos:=by rfl):
  PE X (.Call (.Name x p) (e::es) [] pos) (Rw sp uX E t):=by
 intro pins s σ H Q I h;refine wpAny_Call_Name_kw (eY I hg hm ?_ hdb);refine callWith_K (h₀:=X.base) I.ok.mod.uV hk (aS (ha pos pins s σ H _ I h) λus s1 ⟨vs,H1,I1,r,q⟩=>⟨I1.bX,?_⟩) he hpl;exact MQ F hr hb hd hx I1 r q
end
structure aM (N P:List Str)(sc:Scope):Prop where
 kind:sc.kind=.function
 co:sc.isCoroutine=false
 gen:sc.isGenerator=false
 nd:N.Nodup
 pre:N.take P.length=P
 par:∀x∈P,sc.names.lookup x=some .local\/sc.names.lookup x=some .cell
 MR:∀y∈sc.names,y.2≠.free
theorem yG {kindOf:Str->Option NameKind}{x:Str}:∀{binds:List (Str×Value)} {m:Str->Option Value},(∀v,(x,v)∉binds)->bindL kindOf binds m x=m x
 | [],_,_=>rfl
 | (n,v)::r,m,h=>by
  unfold bindL;rw[yG λw hw=>h w (mem_cons_of_mem _ hw)];split
  ·have:x≠n:=by rintro rfl;exact h v mem_cons_self
   simp[this]
  ·rfl
theorem yH {kindOf:Str->Option NameKind}{x:Str}:∀{binds:List (Str×Value)} {m:Str->Option Value},(∀v,(x,v)∉binds)->bindC kindOf binds m x=m x
 | [],_,_=>rfl
 | (n,v)::r,m,h=>by
  unfold bindC;rw[yH λw hw=>h w (mem_cons_of_mem _ hw)];split
  ·rfl
  ·have:x≠n:=by rintro rfl;exact h v mem_cons_self
   simp[this]
theorem yI {kindOf:Str->Option NameKind}{x:Str}{v:Value}:∀{P:List Str} {vs:List Value} {i:Nat} {m:Str->Option Value},P.Nodup->P[i]?=some x->vs[i]?=some v->kindOf x=some .local->
  bindL kindOf (P.zip vs) m x=some v
 | [],_,_,_,_,h,_,_=>by simp at h
 | _::_,[],_,_,_,_,h,_=>by simp at h
 | p::P,w::vs,0,m,nd,h1,h2,hk=>by
  simp at h1 h2;subst h1;subst h2;show bindL kindOf ((p,w)::P.zip vs) m p=_;unfold bindL;rw[yG λv hv=>(nodup_cons.mp nd).1 (of_mem_zip hv).1,if_pos hk];simp
 | p::P,w::vs,i+1,m,nd,h1,h2,hk=>by
  show bindL kindOf ((p,w)::P.zip vs) m x=_;unfold bindL;exact yI (i:=i) (nodup_cons.mp nd).2 (by simpa using h1) (by simpa using h2) hk
theorem yJ {kindOf:Str->Option NameKind}{x:Str}{v:Value}:∀{P:List Str} {vs:List Value} {i:Nat} {m:Str->Option Value},P.Nodup->P[i]?=some x->vs[i]?=some v->kindOf x≠some .local->
  bindC kindOf (P.zip vs) m x=some v
 | [],_,_,_,_,h,_,_=>by simp at h
 | _::_,[],_,_,_,_,h,_=>by simp at h
 | p::P,w::vs,0,m,nd,h1,h2,hk=>by
  simp at h1 h2;subst h1;subst h2;show bindC kindOf ((p,w)::P.zip vs) m p=_;unfold bindC;rw[yH λv hv=>(nodup_cons.mp nd).1 (of_mem_zip hv).1,if_neg hk];simp
 | p::P,w::vs,i+1,m,nd,h1,h2,hk=>by
  show bindC kindOf ((p,w)::P.zip vs) m x=_;unfold bindC;exact yJ (i:=i) (nodup_cons.mp nd).2 (by simpa using h1) (by simpa using h2) hk
def start (N:List Str)(vs:List V):St:=vs.map some++replicate (N.length - vs.length) none
def fF (CX:q9)(P:Program)(w:World)(K:Frag)(mg:Str->Option Value)(base:Heap)(N:List Str)(qual:Str)(scope:Scope)(f:Addr)(cd:Value)(A:Around)(outer:List Env)(s:Shared)(H:Hp)(E:XK):Cx where
 prog:=P
 w:=w
 K:=K
 mg:=mg
 base:=base
 A:=A.deeper (envOfC qual scope s.heap.objs.size f cd)
 N:=N
 s₀:=s
 H₀:=H
 env:=envOfC qual scope s.heap.objs.size f cd
 outer:=outer
 stack:=envOfC qual scope s.heap.objs.size f cd::outer
 ex:=[]
 calm:=true
 fn:=λ_=>true
 pn:=[]
 xe:=λe s'=>wpAny (model P w) (A.deeper (envOfC qual scope s.heap.objs.size f cd)) (leaving (envOfC qual scope s.heap.objs.size f cd) e) (λ_ s''=>CX outer H s E e s'') (λe' s''=>CX outer H s E e' s'') s'
theorem zX {sc:Scope}{n:Nat}{x:Str}(h:sc.names.lookup x=some .cell):∃c,(cellsFrom n sc.names []).lookup x=some c:=by
 have q:=cellsFrom_some sc.names n [] (.inl h);exact isSome_iff_exists.mp q
theorem Ey {CX:q9}{P:Program}{w:World}{K:Frag}{mg:Str->Option Value}{base:Heap}{N ps:List Str}{qual:Str}{scope:Scope}{f:Addr}{cd:Value}{A:Around}{outer:List Env}{s s1:Shared}{H:Hp}{E:XK}{us:List Value}{vs:List V}(S:aM N ps scope)(hd:A.handled=none)(e0:vC P w K mg base A outer s H)(hl:vs.length=ps.length)(r:Vals vs us)(x:InCallC s s.heap.objs.size (bindL (envOfC qual scope s.heap.objs.size f cd).kindOf (ps.zip us) λ_=>none) (cellsFrom (s.heap.objs.size+1) scope.names []) (bindC (envOfC qual scope s.heap.objs.size f cd).kindOf (ps.zip us) λ_=>none) s1):
  Inv (fF CX P w K mg base N qual scope f cd A outer s H E) [] (start N vs) H s1:=by
 have hpl:ps.length<=N.length:=by have:=congrArg List.length S.pre;rw[length_take]at this;lia
 obtain ⟨h1,tk,rfl,hk⟩:=x.done;have Ez:∀b:Addr,b∉(fF CX P w K mg base N qual scope f cd A outer s H E).ex:=λb z=>absurd (show b∈([]:List Addr) from z) (by simp);refine ⟨⟨e0.mod,S.kind,rfl,rfl,le_refl _,λy z c h1 h2=>?_,λy hy=>?_,λy c _ h=>?_,λ_=>hd,Around.frames_deeper e0.frames,.inr ⟨rfl,rfl⟩,λb z=>absurd z (Ez b),e0.bs,e0.uW,λb _ _=>Ez b,λb z=>absurd z (Ez b),e0.iz,e0.yF⟩,
  rfl,e0.bare,Un.kept hk,⟨_,x.toInCall.ns,λi y v h1 h2 h3=>?_⟩,λy c h=>⟨_,x.cell y c h⟩,e0.hok.fresh (le_refl _),λy c h=>?_,λp hp=>absurd (show p∈([]:List (Addr×Obj)) from hp) (by simp),e0.hok.kept hk,?_⟩
 ·exact name_of_addr x.apart (PySem.mem_of_lookup h1) (PySem.mem_of_lookup h2)
 ·have hy:scope.names.lookup y=some .cell\/scope.names.lookup y=some .free:=hy;rcases hy with hy | hy
  ·exact zX hy
  ·exact absurd rfl (S.MR _ (PySem.mem_of_lookup hy))
 ·exact le_of_lt (x.above y c (PySem.mem_of_lookup h))
 ·have hi:i < vs.length:=by
   unfold start at h2;by_cases hi:i < vs.length
   ·exact hi
   ·rw[getElem?_append_right (by simpa using hi)]at h2;rw[List.getElem?_replicate]at h2;split at h2<;>cases h2
  have ha:vs[i]?=some v:=by
   unfold start at h2;rw[getElem?_append_left (by simpa using hi),getElem?_map]at h2;cases e:vs[i]? with
   | none=>rw[e]at h2;cases h2
   | some a=>rw[e]at h2;cases h2;rfl
  obtain ⟨u,hu,rv⟩:=r.get ha;have hp:ps[i]?=some y:=by
   rw[<-S.pre,List.getElem?_take_of_lt (by lia)];exact h1
  have U3:ps.Nodup:=by rw[<-S.pre];exact S.nd.sublist (List.take_sublist _ _)
  refine ⟨u,rv,?_⟩;rcases S.par y (mem_of_getElem? hp) with k | k
  ·exact .inl ⟨k,yI U3 hp hu k⟩
  ·obtain ⟨c,e⟩:=zX (n:=s.heap.objs.size+1) k;refine .inr ⟨.inl k,c,e,?_⟩;have q:=x.cell y c e;rw[yJ U3 hp hu (by show scope.names.lookup y≠_;rw[k];decide)]at q;exact q
 ·exact e0.hok.fresh (le_of_lt (x.above y c (PySem.mem_of_lookup h)))
 ·unfold start;show _=N.length;rw[length_append,length_map,length_replicate]
  lia
theorem C7 {CX:q9}{P:Program}{w:World}{K:Frag}{mg:Str->Option Value}{base:Heap}{k:Nat}{f:Addr}{name qual:Str}{params:Arguments}{body:List Stmt}{scope:Scope}{dV kV doc pm cdv ct oc:Value}{an od:Option Addr}{osl:Array (Option Value)}{N ps:List Str}{sp:Sp}(lk:K.lookup f=some ⟨oc,od,.func (fnOf name qual params body scope dV kV doc pm an cdv ct),osl⟩)(hcd:codeIn K cdv qual=true)(S:aM N ps scope)(len:∀vs H Q E,sp vs H Q E->vs.length=ps.length)(hbody:∀(A:Around) (outer:List Env) (s:Shared) (H:Hp) (vs:List V) (Q:VK) (E:XK),bN k (A.deeper (envOfC qual scope s.heap.objs.size f cdv))->sp vs H Q E->
   ∃t,iw (fF CX P w K mg base N qual scope f cdv A outer s H E) body t/\t {nx:=λ_ H'=>Q .non H',rt:=Q} (start N vs) H):
  aH P w K mg base CX (k+1) f (fnOf name qual params body scope dV kV doc pm an cdv ct) ps sp:=by
 refine ⟨len,λA outer s H args us vs Q E hr e0 hb r hsp=>?_⟩;have hl:=len _ _ _ _ hsp;have KX:K.In s.heap:=e0.mod.uV.keeps λb o e=>(e0.bs b o e).1;have lim:s.heap.NoLimit:=e0.mod.nolimit.keeps λb o e=>(e0.bs b o e).1;have hkind:∀y∈ps.zip us,scope.names.lookup y.1=some .local\/(scope.names.lookup y.1=some .cell/\((cellsFrom (s.heap.objs.size+1) scope.names []).lookup y.1).isSome=true):=λ⟨n,v⟩ hy=>by
  rcases S.par n (of_mem_zip hy).1 with q | q
  ·exact .inl q
  ·exact .inr ⟨q,cellsFrom_some _ _ _ (.inl q)⟩
 refine codeAny_call_function hr.depth (KX _ _ lk) rfl S.co S.gen rfl (PySem.W.codeRec_of KX hcd) (hb _ _ _ _ ?_);refine wpAny_newFunctionEnv_cells S.kind hkind λenv he s1 x=>?_;subst he;refine ⟨lim.keeps x.toInCall.keep,codeAny_func ?_⟩;obtain ⟨t,ht,hq⟩:=hbody A outer s H vs Q E (hr.deeper _) hsp;have I:Inv (fF CX P w K mg base N qual scope f cdv A outer s H E) [] (start N vs) H s1:=Ey S hr.hd e0 hl r x;refine wpAny_mono (ht [] s1 (start N vs) H _ I hq) (λfl s' hs=>?_) λe s' hs=>hs;have fin:∀{σ':St} {H':Hp} {v:V} {u:Value},Inv (fF CX P w K mg base N qual scope f cdv A outer s H E) [] σ' H' s'->RelV v u->Q v H'->CE outer P w H s Q u s':=
  λ{σ' H' v u} J rv q=>⟨v,H',J.os,J.bare,J.base,J.hok,rv,q⟩
 cases fl with
 | ret u=>
  obtain ⟨v,σ',H',J,rv,q⟩:=hs;exact fin J rv q
 | next=>
  obtain ⟨σ',H',J,q⟩:=hs;exact fin (v:=V.non) (u:=Value.none) J rfl q
 | brk=>
  obtain ⟨_,_,_,q⟩:=hs;exact False.elim q
 | cont=>
  obtain ⟨_,_,_,q⟩:=hs;exact False.elim q
section
variable {X:Cx}{x:Str}{p pos:Pos}{e:Expr}{es:List Expr}{t:TA}{id T:String}{r:List V->Hp->VK->Prop}
def U4 (r:List V->Hp->VK->Prop)(t:TA):TE:=λσ H Q=>t σ H λvs H1=>r vs H1 Q
theorem oh (hc:cR X (.builtin id) r)(hg:Gl X x)(hm:X.mg x=none)(hv:bootBuiltins x=some (.builtin id))(ha:PA X (e::es) t)(hn:x≠"__name__":=by decide)(hdb:bM x:=by decide)(he:dn X.env e es:=by rfl)(hpl:iy X.env es pos:=by rfl):PE X (.Call (.Name x p) (e::es) [] pos) (U4 r t):=by
 intro pins s σ H Q I h;refine wpAny_Call_Name_kw (mO I hg hm hv ?_ hn hdb);exact PyProof.Rows.callWith_builtin1 (aS (ha pos pins s σ H _ I h) λus s1 ⟨vs,H1,I1,r1,q1⟩=>hc pins s1 σ H1 vs us Q I1 r1 q1) he hpl
theorem yK (hc:cR X (.type T) r)(hg:Gl X x)(hm:X.mg x=none)(hv:bootBuiltins x=some (.type T))(ha:PA X (e::es) t)(hn:x≠"__name__":=by decide)(hdb:bM x:=by decide)(he:dn X.env e es:=by rfl)(hpl:iy X.env es pos:=by rfl):PE X (.Call (.Name x p) (e::es) [] pos) (U4 r t):=by
 intro pins s σ H Q I h;refine wpAny_Call_Name_kw (mO I hg hm hv ?_ hn hdb);exact PyProof.Rows.callWith_type1 (aS (ha pos pins s σ H _ I h) λus s1 ⟨vs,H1,I1,r1,q1⟩=>hc pins s1 σ H1 vs us Q I1 r1 q1) he hpl
end
end L2
namespace HT
open PySem PyProof.Rows
section
variable {prog:Program}{w:World}{A:Around}{E:Value->Shared->Prop}{s:Shared}
theorem JG (ht:IsTup s.heap t vs.toArray)(hb:IsTup s.heap b ws.toArray)(hv:vs≠[])(h1:ws=[]->Q (.ref t) s)(h2:ws≠[]->Q (.ref s.heap.objs.size) {s with heap:=s.heap.push {cls:=.type "tuple",data:=.seq (vs++ws).toArray}})(hsz:vs.length+ws.length<=sizeLine):wpAny (model prog w) A (binaryOp .Add (.ref t) (.ref b)) Q E s:=by
 obtain ⟨⟨cls,dd,data,sl⟩,ho,hc,n,hd⟩:=id ht;obtain ⟨⟨cls2,dd2,data2,sl2⟩,ho2,hc2,n2,hd2⟩:=id hb;simp only at hc hd hc2 hd2;subst hc hd hc2 hd2;have e:vs.toArray++ws.toArray=(vs++ws).toArray:=by simp
 by_cases hw:ws=[]
 ·exact concat_meets ⟨_,ho,rfl⟩ ⟨_,ho2,rfl⟩ noFill_tuple_add seq_tuple_add slot_tuple_add entry_tuple_add (args_tuple_add_2 _ _)
   (tuple_addW1 t b vs.toArray ws.toArray n n2 dd dd2 sl sl2 (by simpa using hv) (by simp[hw])) ⟨ho,ho2,h1 hw⟩
 ·refine concat_meets ⟨_,ho,rfl⟩ ⟨_,ho2,rfl⟩ noFill_tuple_add seq_tuple_add slot_tuple_add entry_tuple_add (args_tuple_add_2 _ _)
   (tuple_addW2 t b vs.toArray ws.toArray n n2 dd dd2 sl sl2 (by simpa using hv) (by simpa using hw) (by rw[size_toArray,size_toArray];exact hsz)) ⟨ho,ho2,?_⟩
  rw[e];exact h2 hw
def aV (n d:Nat):Option Int->Nat
 | none=>d
 | some v=>if v < 0 then (v+(n:Int)).toNat else min v.toNat n
theorem v9 (n d:Nat)(hd:d<=n)(o:Option Int):aV n d o<=n:=by
 cases o with
 | none=>exact hd
 | some v=>
  show (if v < 0 then (v+(n:Int)).toNat else min v.toNat n)<=n;by_cases hv:v < 0
  ·rw[if_pos hv];lia
  ·rw[if_neg hv];exact Nat.min_le_right _ _
theorem BD (v:Int)(n d:Nat):(if v < 0 then max (v+(n:Int)) 0 else min v (n:Int))=((aV n d (some v):Nat):Int):=by
 show (if v < 0 then max (v+(n:Int)) 0 else min v (n:Int))=(((if v < 0 then (v+(n:Int)).toNat else min v.toNat n):Nat):Int);by_cases hv:v < 0
 ·erw[if_pos hv];lia
 ·erw[if_neg hv];lia
theorem C8 (lo hi:Option Int)(n:Nat):Builtin.Slice.sliceAdjust lo hi 1 (n:Int)=(((aV n 0 lo:Nat):Int),((aV n n hi:Nat):Int)):=by
 have h1:¬((1:Int) < 0):=by lia
 unfold Builtin.Slice.sliceAdjust;erw[h1,if_false];refine Prod.ext ?_ ?_
 ·cases lo with
  | none=>rfl
  | some v=>exact BD v n 0
 ·cases hi with
  | none=>rfl
  | some v=>exact BD v n n
theorem C9 (i j:Nat):Builtin.Slice.slicePlaces (i:Int) (j:Int) 1=j - i:=by
 unfold Builtin.Slice.slicePlaces;have h1:(1:Int) > 0:=by lia
 erw[h1,if_true,Int.ediv_one];split<;>lia
theorem wc (p:IsPart v o)(h:Q o s):wpAny (model prog w) A (Builtin.Slice.slicePartIndex v) Q E s:=by
 cases p with
 | none=>exact slicePart_none h
 | int i t=>exact slicePart_int h
theorem vD {sl:Addr}{vl vu:Value}{lo hi:Option Int}{n:Nat}{Q:Int×Int×Nat->Shared->Prop}(hs:s.heap.IsSliceOf sl vl vu .none)(pl:IsPart vl lo)(pu:IsPart vu hi)(h:Q (((aV n 0 lo:Nat):Int),1,aV n n hi - aV n 0 lo) s):wpAny (model prog w) A (Builtin.Slice.sliceApplied (.ref sl) (pure (n:Int))) Q E s:=by
 obtain ⟨os,hos,hcs,hds⟩:=id hs;unfold Builtin.Slice.sliceApplied Builtin.Slice.sliceFields;refine wpAny_bind (wpAny_bind (wpAny_field hos hds (x:=vl) rfl (wpAny_bind (wpAny_field hos hds (x:=vu) rfl (wpAny_bind (wpAny_field hos hds (x:=.none) rfl (wpAny_pure ?_)))))));refine wpAny_bind (slicePart_none ?_);show wpAny _ _ (if ((1:Int) == 0)=true then _ else _) _ _ s;rw[if_neg (by decide)];refine wpAny_bind (wc pl (wpAny_bind (wc pu (wpAny_bind (wpAny_pure ?_)))));show wpAny _ _ (match Builtin.Slice.sliceAdjust lo hi 1 (n:Int) with | (lo,hi)=>pure (lo,(1:Int),Builtin.Slice.slicePlaces lo hi 1)) _ _ s;rw[C8 lo hi n];show wpAny _ _ (pure (((aV n 0 lo:Nat):Int),(1:Int),Builtin.Slice.slicePlaces ((aV n 0 lo:Nat):Int) ((aV n n hi:Nat):Int) 1)) _ _ s;rw[C9];exact wpAny_pure h
theorem GO (xs:Array Value)(i k:Nat):((List.range k).filterMap λ(m:Nat)=>xs[((i:Int)+(m:Int) * 1).toNat]?).toArray=((xs.toList.drop i).take k).toArray:=by
 have e:(λ(m:Nat)=>xs[((i:Int)+(m:Int) * 1).toNat]?)=λm=>xs[i+m]?:=by
  funext m;have:((i:Int)+(m:Int) * 1).toNat=i+m:=by lia
  rw[this]
 rw[e];have:=pick_run xs i k;rw[List.filterMap_map]at this;have e2:((λx=>xs[x]?) ∘ λx=>i+x)=λm=>xs[i+m]?:=rfl;rw[e2]at this;rw[this]
theorem uS {t sl:Addr}{items:Array Value}{vl vu:Value}{lo hi:Option Int}{Q:Value->Shared->Prop}(ht:IsTup s.heap t items)(hs:s.heap.IsSliceOf sl vl vu .none)(pl:IsPart vl lo)(pu:IsPart vu hi)(hw:¬(aV items.size 0 lo=0/\aV items.size items.size hi=items.size))(h:Q (.ref s.heap.objs.size) {s with heap:=s.heap.push {cls:=.type "tuple",data:=.seq ((items.toList.drop (aV items.size 0 lo)).take (aV items.size items.size hi - aV items.size 0 lo)).toArray}})(hsz:items.size<=sizeLine):wpAny (model prog w) A (getItem (.ref t) (.ref sl)) Q E s:=by
 have zp:sizeOk (.seq ((items.toList.drop (aV items.size 0 lo)).take (aV items.size items.size hi - aV items.size 0 lo)).toArray):=by
  show ((items.toList.drop (aV items.size 0 lo)).take (aV items.size items.size hi - aV items.size 0 lo)).toArray.size<=sizeLine;rw[size_toArray,length_take,length_drop,Array.length_toList]
  lia
 have hj:aV items.size items.size hi<=items.size:=v9 _ _ (le_refl _) hi;obtain ⟨os,hos,hcs,hds⟩:=id hs;have hTs:s.TypeIs (.ref sl) "slice":=⟨os,hos,hcs⟩
 unfold getItem
 try with_reducible refine wpAny_holding ?_
 first | refine wpAny_bind (wpAny_pure ?_) | skip
 refine wpAny_bind (wpAny_sequenceKey ht.typeIs (by decide) ?_);refine wpAny_bind (wpAny_callSpecial?_slot (name:=Str.ofString "__getitem__") ht.typeIs PyProof.Rows.slot_tuple_getitem
  (wpAny_call_entry PyProof.Rows.slot_tuple_getitem ht.typeIs entry_tuple_getitem ?_ (args_tuple_getitem _ _)))
 show wpAny _ _ (Builtin.Tuple.tupleItemsOf (.ref t) >>= _) _ _ s;refine wpAny_bind (tupleItemsOf_ ht ?_);refine wpAny_bind (wpAny_typeOf hTs ?_);rw[if_pos (by decide)];refine wpAny_bind (vD hs pl pu ?_);have hno:¬((((aV items.size 0 lo:Nat):Int) == 0 && (1:Int) == 1 && (aV items.size items.size hi - aV items.size 0 lo) == items.size)=true):=by
  intro q;rw[and_eq_true,and_eq_true]at q;have q1:((aV items.size 0 lo:Nat):Int)=0:=eq_of_beq q.1.1;have q2:aV items.size items.size hi - aV items.size 0 lo=items.size:=eq_of_beq q.2;exact hw ⟨by lia,by lia⟩
 show wpAny _ _ (if (((aV items.size 0 lo:Nat):Int) == 0 && (1:Int) == 1 && (aV items.size items.size hi - aV items.size 0 lo) == items.size)=true then _ else _) _ _ s;rw[if_neg hno,GO]
 first
  | exact wpAny_bind (m:=Builtin.Tuple.tupleExact _) (wpAny_newObj_type (wpAny_pure ⟨_,rfl,wpAny_pure h⟩) zp)
  | exact wpAny_bind (m:=Builtin.Tuple.tupleExact _) (wpAny_newObj_type (wpAny_bind (wpAny_pure (wpAny_pure ⟨_,rfl,wpAny_pure h⟩))) zp)
  | exact wpAny_bind (wpAny_bind (m:=Builtin.Tuple.tupleExact _) (wpAny_newObj_type (wpAny_pure (wpAny_pure ⟨_,rfl,wpAny_pure h⟩)) zp))
  | exact wpAny_bind (wpAny_bind (m:=Builtin.Tuple.tupleExact _) (wpAny_newObj_type (wpAny_pure ⟨_,rfl,wpAny_pure h⟩) zp))
end
end HT
namespace L2
open PySem PySem.Spec PyProof.Rows
abbrev TO:=St->Hp->(Option Int->Hp->Prop)->Prop
def PO (X:Cx)(e:Option Expr)(t:TO):Prop:=
 ∀(pins:List (Addr×Obj)) (s:Shared) (σ:St) (H:Hp) (Q:Option Int->Hp->Prop),Inv X pins σ H s->t σ H Q->
  wpAny (model X.prog X.w) X.A (evalPart e X.env) (λu s'=>∃o H',Inv X pins σ H' s'/\IsPart u o/\Q o H') X.xe s
def JH:TO:=λ_ H Q=>Q none H
def Rx (t:TE):TO:=λσ H Q=>t σ H λx H1=>∃i,x=.int i/\Q (some i) H1
section
variable {X:Cx}{e:Expr}{te:TE}{lo hi:Option Expr}{tl th:TO}{pos p2:Pos}
theorem BE:PO X none JH:=by
 intro pins s σ H Q I h;rw[evalPart_none];exact wpAny_pure ⟨none,H,I,.none,h⟩
theorem uw (h:PE X e te):PO X (some e) (Rx te):=by
 intro pins s σ H Q I hw;rw[evalPart_some];refine aS (h pins s σ H _ I hw) λu s1 ⟨x,H1,I1,r1,q1⟩=>?_;obtain ⟨i,rfl,q⟩:=q1;obtain ⟨t,rfl⟩:=r1;exact ⟨some i,H1,I1,.int i t,q⟩
def oV (X:Cx)(r:V->Option Int->Option Int->Hp->VK->Prop):Prop:=
 ∀(pins:List (Addr×Obj)) (s:Shared) (σ:St) (H:Hp) (x:V) (v vl vu:Value) (lo hi:Option Int) (sl:Addr) (Q:VK),Inv X pins σ H s->RelV x v->s.heap.IsSliceOf sl vl vu .none->IsPart vl lo->IsPart vu hi->r x lo hi H Q->
  ∃T id,typeLookup (.type T) "__getitem__"=pure (some (.builtin id))/\s.TypeIs v T/\wpAny (model X.prog X.w) X.A (getItem v (.ref sl)) (EP X pins σ Q) X.xe s
theorem oV.or (h:oV X r)(h':oV X r'):oV X (λx lo hi H Q=>r x lo hi H Q\/r' x lo hi H Q):=by
 intro pins s σ H x v vl vu lo hi sl Q I rx hs pl pu q;rcases q with q | q
 ·exact h pins s σ H x v vl vu lo hi sl Q I rx hs pl pu q
 ·exact h' pins s σ H x v vl vu lo hi sl Q I rx hs pl pu q
def YJ (r:V->Option Int->Option Int->Hp->VK->Prop)(te:TE)(tl th:TO):TE:=λσ H Q=>te σ H λx H1=>tl σ H1 λl H2=>th σ H2 λu H3=>r x l u H3 Q
theorem vE (hr:oV X r)(he:PE X e te)(hl:PO X lo tl)(hu:PO X hi th):PE X (.Subscript e (.Slice lo hi none p2) pos) (YJ r te tl th):=by
 intro pins s σ H Q I h;refine Subscript_ (aS (he pins s σ H _ I h) λv s1 ⟨x,H1,I1,r1,q1⟩=>?_);refine wpAny_Slice (aS (hl pins s1 σ H1 _ I1 q1) λvl s2 ⟨l,H2,I2,pl,q2⟩=>aS (hu pins s2 σ H2 _ I2 q2) λvu s3 ⟨u,H3,I3,pu,q3⟩=>?_);rw[evalPart_none];refine wpAny_pure ?_;have I4:Inv X pins σ H3 {s3 with heap:=s3.heap.push {cls:=.type "slice",data:=.fields #[vl,vu,.none]}}:=I3.kept (t':=s3.toks) λb ob q=>get?_push_of_some _ q;obtain ⟨T,id,hT,ht,hg⟩:=hr pins {s3 with heap:=s3.heap.push {cls:=.type "slice",data:=.fields #[vl,vu,.none]}} σ H3 x v vl vu l u s3.heap.objs.size Q I4 r1 (Heap.IsSliceOf.new ..) pl pu q3;show wpAny (model X.prog X.w) X.A (subscriptTail e (.Slice lo hi none p2) v (.ref s3.heap.objs.size)) (EP X pins σ Q) X.xe {s3 with heap:=s3.heap.push {cls:=.type "slice",data:=.fields #[vl,vu,.none]}};exact tail_any (ops:=[.ref s3.heap.objs.size,v]) ht hT hg (by with_unfolding_all rfl)
def oq (xs:List V)(lo hi:Option Int):List V:=(xs.drop (HT.aV xs.length 0 lo)).take (HT.aV xs.length xs.length hi - HT.aV xs.length 0 lo)
theorem uY (xs:List V)(lo hi:Option Int):(oq xs lo hi).length<=xs.length:=by
 unfold oq;rw[length_take,length_drop]
 lia
def Xa (K:Frag):V->Option Int->Option Int->Hp->VK->Prop:=λx lo hi H Q=>∃a xs,x=.ref a/\cZ K H a xs/\
 ¬(HT.aV xs.length 0 lo=0/\HT.aV xs.length xs.length hi=xs.length)/\∀p,H p=none->Q (.ref p) (upd H p (.tup (oq xs lo hi)))
theorem MS:oV X (Xa X.K):=by
 intro pins s σ H x v vl vu lo hi sl Q I rx hs pl pu h;obtain ⟨a,xs,rfl,hx,hw,q⟩:=h;cases rx;obtain ⟨its,r,ht,hz⟩:=I.tuple hx;have hlen:its.toArray.size=xs.length:=by rw[size_toArray];exact r.length.symm
 refine ⟨"tuple",_,PyProof.Rows.slot_tuple_getitem.lookup,ht.typeIs,?_⟩;refine HT.uS ht hs pl pu (by rw[hlen];exact hw) ?_ (by rw[hlen];exact hz);rw[hlen];refine ⟨.ref s.heap.objs.size,_,I.laid (t':=s.toks) (o:=.tup (oq xs lo hi)) (λb ob q=>get?_push_of_some _ q) (le_refl _) ?_,rfl,q _ (I.hok.fresh (le_refl _))⟩;exact ⟨le_trans (uY xs lo hi) hz,_,(r.drop (HT.aV xs.length 0 lo)).take (HT.aV xs.length xs.length hi - HT.aV xs.length 0 lo),qV.new _ _⟩
def Ry (K:Frag):R2:=λx y H Q=>∃a b xs ys,x=.ref a/\y=.ref b/\cZ K H a xs/\cZ K H b ys/\xs≠[]/\xs.length+ys.length<=sizeLine/\
 (ys=[]->Q (.ref a) H)/\(ys≠[]->∀p,H p=none->Q (.ref p) (upd H p (.tup (xs++ys))))
theorem Vals.xG (r:Vals xs us):us=[]↔xs=[]:=by
 cases r with
 | nil=>simp
 | cons _ _=>simp
theorem JI:bu X (binaryOp .Add) (Ry X.K):=by
 intro pins s σ H x y v u Q I rx ry h;obtain ⟨a,b,xs,ys,rfl,rfl,ha,hb,hx,hz,q1,q2⟩:=h;cases rx;cases ry;obtain ⟨its,r1,p1,_⟩:=I.tuple ha;obtain ⟨its2,r2,p2,_⟩:=I.tuple hb;refine HT.JG p1 p2 (λz=>hx (r1.xG.mp z)) (λz=>⟨.ref a,H,I,rfl,q1 (r2.xG.mp z)⟩) (λz=>?_) (by rw[<-r1.length,<-r2.length];exact hz);refine ⟨.ref s.heap.objs.size,_,I.laid (t':=s.toks) (o:=.tup (xs++ys)) (λb ob q=>get?_push_of_some _ q) (le_refl _) ?_,rfl,q2 (λw=>z (r2.xG.mpr w)) _ (I.hok.fresh (le_refl _))⟩;exact ⟨by rw[length_append];exact hz,_,r1.append r2,qV.new _ _⟩
end
def gP (n:Nat)(i:Int):Option Nat:=if 0<=i then (if i < n then some i.toNat else none) else if -(n:Int)<=i then some (i+n).toNat else none
def bx {α:Type}(xs:List α)(i:Int):Option α:=(gP xs.length i).bind λj=>xs[j]?
theorem BF (h:gP n i=some j):seqIndex? i n=some j/\j < n/\-(n:Int)<=i/\i < n:=by
 unfold gP at h;by_cases h0:0<=i
 ·rw[if_pos h0]at h;by_cases h1:i < n
  ·rw[if_pos h1]at h;have e:i.toNat=j:=Option.some.inj h;exact ⟨by rw[seqIndex_of h0 h1,e],by lia,by lia,h1⟩
  ·rw[if_neg h1]at h;cases h
 ·rw[if_neg h0]at h;by_cases h1:-(n:Int)<=i
  ·rw[if_pos h1]at h;have e:(i+n).toNat=j:=Option.some.inj h;exact ⟨by rw[seqIndex_neg (by lia) h1,e],by lia,h1,by lia⟩
  ·rw[if_neg h1]at h;cases h
theorem xH {α:Type}{xs:List α}{v:α}(h:bx xs i=some v):∃j,seqIndex? i xs.length=some j/\xs[j]?=some v/\j < xs.length/\-(xs.length:Int)<=i/\i < xs.length:=by
 unfold bx at h;cases e:gP xs.length i with
 | none=>rw[e]at h;cases h
 | some j=>
  rw[e]at h;obtain ⟨h1,h2,h3,h4⟩:=BF e;exact ⟨j,h1,h,h2,h3,h4⟩
def mR (b:Expr):Prop:=∀o i,subscripted b false o i=operate [o,i] (getItem o i)
def mS (X:Cx)(r:R2):Prop:=
 ∀(value slice:Expr) (pins:List (Addr×Obj)) (s:Shared) (σ:St) (H:Hp) (x y:V) (v u:Value) (Q:VK),Inv X pins σ H s->RelV x v->RelV y u->r x y H Q->
  subscripted slice false v u=operate [v,u] (getItem v u)->wpAny (model X.prog X.w) X.A (subscriptTail value slice v u) (EP X pins σ Q) X.xe s
def mU (X:Cx)(id:String)(r:V->List V->Hp->VK->Prop):Prop:=
 ∀(pins:List (Addr×Obj)) (s:Shared) (σ:St) (H:Hp) (x:V) (xs:List V) (v:Value) (us:List Value) (Q:VK),Inv X pins σ H s->RelV x v->Vals xs us->r x xs H Q->
  wpAny (model X.prog X.w) X.A (call (.builtin id) (v::us)) (EP X pins σ Q) X.xe s
section
variable {X:Cx}{a b:Expr}{ta tb:TE}{pos:Pos}
theorem mS.or (h:mS X r)(h':mS X r'):mS X (λx y H Q=>r x y H Q\/r' x y H Q):=by
 intro value slice pins s σ H x y v u Q I rx ry q hs;rcases q with q | q
 ·exact h value slice pins s σ H x y v u Q I rx ry q hs
 ·exact h' value slice pins s σ H x y v u Q I rx ry q hs
theorem Ii (hr:mS X r)(ha:PE X a ta)(hb:PE X b tb)(hs:mR b):PE X (.Subscript a b pos) (Ih r ta tb):=by
 intro pins s σ H Q I h;exact Subscript_ (GD ha hb I h λv u s2 x y H2 I2 rx ry q=>hr a b pins s2 σ H2 x y v u Q I2 rx ry q (hs _ _))
def MT (K:Frag):R2:=λx y H Q=>∃p xs i v,x=.ref p/\y=.int i/\eN K H p xs/\bx xs i=some v/\Q v H
def MU (K:Frag):R2:=λx y H Q=>∃p xs i v,x=.ref p/\y=.int i/\cZ K H p xs/\bx xs i=some v/\Q v H
def MV:R2:=λx y H Q=>∃z i c,x=.str z/\y=.int i/\z.length<=sizeLine/\bx z.cps.toList i=some c/\Q (.str ⟨#[c]⟩) H
theorem JK:mS X (MT X.K):=by
 intro value slice pins s σ H x y v u Q I rx ry h hs;obtain ⟨p,xs,i,z,rfl,rfl,hq,he,q⟩:=h;cases rx;obtain ⟨t,rfl⟩:=ry;obtain ⟨its,r,pl,hz⟩:=I.list hq;obtain ⟨j,h1,h2,h3,h4,h5⟩:=xH he;obtain ⟨w,ew,q_⟩:=r.get h2;have hl:=r.length;have hn:=mQ;have fin:EP X pins σ Q w s:=⟨z,H,I,q_,q⟩
 by_cases h0:0<=i
 ·have hj:i.toNat=j:=by
   rw[seqIndex_of h0 h5]at h1;exact Option.some.inj h1
  exact item_listR pl.isList h0 (by lia) (by rw[hj];simpa using ew) fin hs
 ·have hj:(i+(its.toArray.size:Int)).toNat=j:=by
   rw[seqIndex_neg (by lia) h4]at h1;rw[size_toArray,<-hl];exact Option.some.inj h1
  exact subscriptTail_builtinR (x:=w) pl.isList.typeIs slot_list_getitem.lookup
   (wpAny_getItem_list_neg (Q:=λr s'=>r=w/\EP X pins σ Q r s') pl.isList (by lia) (by rw[size_toArray]<;>lia) (by lia) (by rw[hj];simpa using ew) ⟨rfl,fin⟩) hs
theorem MX:mS X (MU X.K):=by
 intro value slice pins s σ H x y v u Q I rx ry h hs;obtain ⟨p,xs,i,z,rfl,rfl,hq,he,q⟩:=h;cases rx;obtain ⟨t,rfl⟩:=ry;obtain ⟨its,r,pl,hz⟩:=I.tuple hq;obtain ⟨j,h1,h2,h3,h4,h5⟩:=xH he;obtain ⟨w,ew,q_⟩:=r.get h2;have hl:=r.length;have hn:=mQ;have fin:EP X pins σ Q w s:=⟨z,H,I,q_,q⟩
 exact subscriptTail_builtinR (x:=w) pl.typeIs slot_tuple_getitem.lookup
  (getItem_tuple (j:=j) (Q:=λr s'=>r=w/\EP X pins σ Q r s') pl (by lia) (by lia) (by rw[size_toArray,<-hl];exact h1) (by simpa using ew) ⟨rfl,fin⟩) hs
theorem MY:mS X MV:=by
 intro value slice pins s σ H x y v u Q I rx ry h hs;obtain ⟨z,i,c,rfl,rfl,hz,he,q⟩:=h;obtain ⟨t,rfl⟩:=rx;obtain ⟨t',rfl⟩:=ry;obtain ⟨j,h1,h2,h3,h4,h5⟩:=xH he;have hl:z.cps.toList.length=z.length:=by simp[Str.length]
 rw[hl]at h1 h4 h5;have hn:=mQ;exact tail_any (typeIs_str s z t) slot_str_getitem.lookup (getItem_str (c:=c) (by
  have e1:decide (i < -(2 ^ 63:Int))=false:=decide_eq_false (by lia);have e2:decide (i ≥ 2 ^ 63)=false:=decide_eq_false (by lia);rw[e1,e2,Bool.or_false]) (by rw[h1];simpa using h2) ⟨.str ⟨#[c]⟩,H,I.tok _,⟨_,rfl⟩,q⟩) hs
def YK (K:Frag):R2:=λx y H Q=>MT K x y H Q\/MU K x y H Q\/MV x y H Q
theorem wg:mS X (YK X.K):=JK.or (MX.or MY)
theorem C_ (its:List Value)(n j:Nat)(u:Value):Obj.mapSeq (·.setIfInBounds j u) {cls:=.type "list",data:=.seq its.toArray n}={cls:=.type "list",data:=.seq (its.set j u).toArray n}:=by
 simp[Obj.mapSeq]
theorem Inv.lst {pins:List (Addr×Obj)}{σ:St}{H:Hp}{s:Shared}{p:Addr}{xs:List V}(I:Inv X pins σ H s)(h:H p=some (.lst xs)):
  ∃(its:List Value) (n:Nat),Vals xs its/\s.heap.get? p=some {cls:=.type "list",data:=.seq its.toArray n}/\xs.length<=sizeLine:=by
 obtain ⟨z,its,n,r,e⟩:=I.hok p _ h;exact ⟨its,n,r,e,z⟩
theorem Inv.MZ {pins:List (Addr×Obj)}{σ:St}{H:Hp}{s:Shared}{p:Addr}{xs ys:List V}{its its':List Value}{n n':Nat}{f:Obj->Obj}(I:Inv X pins σ H s)(h:H p=some (.lst xs))(ho:s.heap.get? p=some {cls:=.type "list",data:=.seq its.toArray n})(hf:f {cls:=.type "list",data:=.seq its.toArray n}={cls:=.type "list",data:=.seq its'.toArray n'})(r:Vals ys its')(hz:ys.length<=sizeLine)(t:Nat):
  Inv X pins σ (upd H p (.lst ys)) {s with heap:=s.heap.update p f,toks:=t}:=by
 have e:(s.heap.update p f).get? p=some {cls:=.type "list",data:=.seq its'.toArray n'}:=by
  rw[get?_update_self f ho (by rw[hf]<;>rfl),hf]
 refine I.write (x:=p) (e:=p) (by rw[h];trivial) (.inl rfl) (λb u hb q=>(get?_update_other _ _ (Ne.symm hb)).trans q) ⟨_,e⟩ ?_;exact ⟨hz,its',n',r,e⟩
def Rz:V->V->V->Hp->(Hp->Prop)->Prop:=λo i v H Q=>∃p xs k j,o=.ref p/\i=.int k/\H p=some (.lst xs)/\gP xs.length k=some j/\Q (upd H p (.lst (xs.set j v)))
theorem set_list:nZ X Rz:=by
 intro pins s σ H o i v ov iv u Q I ro ri rv h;obtain ⟨p,xs,k,j,rfl,rfl,hp,hj,q⟩:=h;cases ro;obtain ⟨t,rfl⟩:=ri;obtain ⟨its,n,r,ho,hz⟩:=I.lst hp;obtain ⟨h1,h2,h3,h4⟩:=BF hj;have hl:=r.length;have hn:=mQ;have I':Inv X pins σ (upd H p (.lst (xs.set j v))) {s with heap:=s.heap.update p (Obj.mapSeq (·.setIfInBounds j u))}:=
  I.MZ hp ho (C_ its n j u) (r.set rv j) (by rw[List.length_set];exact hz) s.toks
 by_cases h0:0<=k
 ·have hk:k.toNat=j:=by
   rw[seqIndex_of h0 h4]at h1;exact Option.some.inj h1
  exact PySem.W.ki_setAt ho h0 (by lia) (by rw[size_toArray,<-hl];exact h4) (by rw[hk];exact ⟨_,I',q⟩)
 ·have hk:(k+(its.toArray.size:Int)).toNat=j:=by
   rw[seqIndex_neg (by lia) h3]at h1;rw[size_toArray,<-hl];exact Option.some.inj h1
  exact PySem.W.ki_setBack ho (by lia) (by rw[size_toArray,<-hl];exact h3) (by lia) (by rw[hk];exact ⟨_,I',q⟩)
theorem zY (lo hi:Option Int)(n:Nat):(sliceBounds lo hi none n).1=((HT.aV n 0 lo:Nat):Int)/\(sliceBounds lo hi none n).2.1=((HT.aV n n hi:Nat):Int)/\(sliceBounds lo hi none n).2.2=1:=by
 refine ⟨?_,?_,rfl⟩
 ·cases lo with
  | none=>simp[sliceBounds,HT.aV]
  | some i=>
   erw[sliceBounds,HT.aV,getD_none,show (1:Int) > 0 by decide,if_true];by_cases h:i < 0
   ·erw[h,if_true]<;>lia
   ·erw[h,if_false]<;>lia
 ·cases hi with
  | none=>simp[sliceBounds,HT.aV]
  | some i=>
   erw[sliceBounds,HT.aV,getD_none,show (1:Int) > 0 by decide,if_true];by_cases h:i < 0
   ·erw[h,if_true]<;>lia
   ·erw[h,if_false]<;>lia
theorem y0 (its:List Value)(lo hi:Option Int):slicePick its.toArray lo hi none=((its.drop (HT.aV its.length 0 lo)).take (HT.aV its.length its.length hi - HT.aV its.length 0 lo)).toArray:=by
 obtain ⟨h1,h2,h3⟩:=zY lo hi its.toArray.size;unfold slicePick;rw[h1,h2,h3];erw[sliceRange_one,pick_run,size_toArray]<;>rfl
def Xb (K:Frag):V->Option Int->Option Int->Hp->VK->Prop:=λx lo hi H Q=>∃a xs,x=.ref a/\eN K H a xs/\∀p,H p=none->Q (.ref p) (upd H p (.lst (oq xs lo hi)))
theorem JL:oV X (Xb X.K):=by
 intro pins s σ H x v vl vu lo hi sl Q I rx hs pl pu h;obtain ⟨a,xs,rfl,hx,q⟩:=h;cases rx;obtain ⟨its,r,ht,hz⟩:=I.list hx;have hlen:=r.length;refine ⟨"list",_,slot_list_getitem.lookup,ht.isList.typeIs,?_⟩;refine wpAny_getItem_list_slice ht.isList hs pl pu .none (by simp) ?_ (by rw[size_toArray]<;>lia);rw[y0,<-hlen];refine ⟨.ref s.heap.objs.size,_,I.laid (t':=s.toks) (o:=.lst (oq xs lo hi)) (λb ob q=>get?_push_of_some _ q) (le_refl _) ?_,rfl,q _ (I.hok.fresh (le_refl _))⟩;exact ⟨le_trans (uY xs lo hi) hz,_,0,(r.drop (HT.aV xs.length 0 lo)).take (HT.aV xs.length xs.length hi - HT.aV xs.length 0 lo),get?_push_size _ rfl⟩
theorem cR.or (h:cR X f r)(h':cR X f r'):cR X f (λxs H Q=>r xs H Q\/r' xs H Q):=by
 intro pins s σ H xs us Q I rs q;rcases q with q | q
 ·exact h pins s σ H xs us Q I rs q
 ·exact h' pins s σ H xs us Q I rs q
def Ij (K:Frag)(T:String)(x:V)(H:Hp):Prop:=match x with
 | .str _=>T="str"
 | .int _=>T="int"
 | .ref p=>(T="list"/\∃xs,eN K H p xs)\/(T="tuple"/\∃o,K.lookup p=some o/\o.cls=.type "tuple"/\o.dict=none)\/
   (T="dict"/\((∃kvs,H p=some (.dK kvs))\/∃kvs,H p=some (.dT kvs)))\/(T="set"/\∃S n,H p=some (.set S n))
 | _=>False
theorem EA (I:Inv X pins σ H s)(r:RelV x v)(ty:Ij X.K T x H):
  s.TypeIs v T/\∀a,v=.ref a->∃ob,s.heap.get? a=some ob/\ob.dict=none:=by
 cases x with
 | str z=>
  obtain ⟨t,rfl⟩:=r;cases (show T="str" from ty);exact ⟨typeIs_str s z t,λ_ e=>nomatch e⟩
 | int i=>
  obtain ⟨t,rfl⟩:=r;cases (show T="int" from ty);exact ⟨typeIs_int s i t,λ_ e=>nomatch e⟩
 | ref p=>
  cases r;rcases ty with ⟨rfl,xs,hq⟩ | ⟨rfl,o,hk,hc,hd⟩ | ⟨rfl,hk⟩ | ⟨rfl,S,n,hk⟩
  ·obtain ⟨its,_,pl,_⟩:=I.list hq;refine ⟨pl.isList.typeIs,λa e=>?_⟩;cases e;obtain ⟨o,n,e,c,hd,_⟩:=pl;exact ⟨o,e,hd⟩
  ·refine ⟨⟨o,I.bX p o hk,hc⟩,λa e=>?_⟩;cases e;exact ⟨o,I.bX _ o hk,hd⟩
  ·have z:∃o,s.heap.get? p=some o/\o.ExactDict:=by
    rcases hk with ⟨kvs,hk⟩ | ⟨kvs,hk⟩
    ·obtain ⟨_,_,_,_,o,_,_,e,ex,_⟩:=I.hok p _ hk;exact ⟨o,e,ex⟩
    ·obtain ⟨_,_,_,_,o,_,_,e,ex,_⟩:=I.hok p _ hk;exact ⟨o,e,ex⟩
   obtain ⟨o,e,ex⟩:=z;refine ⟨⟨o,e,ex.1⟩,λa e2=>?_⟩;cases e2;exact ⟨o,e,ex.2.1⟩
  ·obtain ⟨o,_,_,_,e,ex,_⟩:=I.hok p _ hk;refine ⟨⟨o,e,ex.1⟩,λa e2=>?_⟩;cases e2;exact ⟨o,e,ex.2.1⟩
 | _=>exact False.elim ty
def Xc (K:Frag)(T:String)(r:V->List V->Hp->VK->Prop)(to:TE):TE:=λσ H Q=>to σ H λx H1=>Ij K T x H1/\r x [] H1 Q
def YL (K:Frag)(T:String)(r:V->List V->Hp->VK->Prop)(to:TE)(t:TA):TE:=λσ H Q=>to σ H λx H1=>Ij K T x H1/\t σ H1 λxs H2=>r x xs H2 Q
variable {o e:Expr}{es:List Expr}{to:TE}{t:TA}{name:Str}{apos cpos:Pos}{T id:String}{r:V->List V->Hp->VK->Prop}
theorem M0 (pa:PlainAttrs T)(slot:Slot T name id)(hty:typeOf (.builtin id)=pure (.type "method_descriptor"))(hm:mU X id r)(ho:PE X o to)(hbase:attributeBase o name X.env (eval o X.env)=eval o X.env:=by rfl)(hline:(apos.endLine == cpos.line)=true:=by rfl):PE X (.Call (.Attribute o name apos) [] [] cpos) (Xc X.K T r to):=by
 intro pins s σ H Q I h;refine wpAny_Call_method0_late hbase hline (aS (ho pins s σ H _ I h) λv s1 ⟨x,H1,I1,r1,ty,q1⟩=>?_);obtain ⟨h1,h2⟩:=EA I1 r1 ty;exact ⟨T,id,pa,slot,hty,h1,h2,Calls.callWith_builtin rfl (PySem.evalArgs_none (hm pins s1 σ H1 x [] v [] Q I1 r1 .nil q1))⟩
theorem RA (pa:PlainAttrs T)(slot:Slot T name id)(hty:typeOf (.builtin id)=pure (.type "method_descriptor"))(hm:mU X id r)(ho:PE X o to)(ha:PA X (e::es) t)(hbase:attributeBase o name X.env (eval o X.env)=eval o X.env:=by rfl)(hfew:((backTo cpos (starEach (e::es) X.env)).all (λx=>!x.1) && (backToKw cpos (keywordEach [] X.env)).all (λx=>x.1.isSome)
   && decide ((e::es).length+([]:List Keyword).length+(if ([]:List Keyword).isEmpty then 0 else 1) < 30))=true:=by rfl) (hline:(apos.endLine == cpos.line)=true:=by rfl) (hs:dn X.env e es:=by rfl) (hplain:iy X.env es cpos:=by rfl):
  PE X (.Call (.Attribute o name apos) (e::es) [] cpos) (YL X.K T r to t):=by
 intro pins s σ H Q I h;refine wpAny_Call_method_late hbase hfew hline rfl (aS (ho pins s σ H _ I h) λv s1 ⟨x,H1,I1,r1,ty,q1⟩=>?_);obtain ⟨h1,h2⟩:=EA I1 r1 ty;refine ⟨T,id,pa,slot,hty,h1,h2,?_⟩;have hA:=ha cpos pins s1 σ H1 _ I1 q1;rw[hs]at hA ⊢;refine Calls.callWith_builtin (by show (false || (backTo cpos (starEach es X.env)).any (·.1))=false;rw[hplain]<;>rfl) (Calls.evalArgs_plain ?_);exact aS hA λus s2 ⟨vs,H2,I2,r2,q2⟩=>hm pins s2 σ H2 x vs v us Q I2 r1 r2 q2
end
def M1 (X:Cx)(id:String)(r:V->List V->Hp->VK->Prop):Prop:=
 ∀(pins:List (Addr×Obj)) (s:Shared) (σ:St) (H:Hp) (x:V) (xs:List V) (v:Value) (us:List Value) (Q:VK),Inv X pins σ H s->RelV x v->Vals xs us->r x xs H Q->
  wpAny (model X.prog X.w) X.A (call (.builtin id) (v::us)) (EP X pins σ Q) X.xe s
theorem Vals.one:∀{x:V} {us:List Value},Vals [x] us->∃u,us=[u]/\RelV x u
 | _,_,.cons r .nil=>⟨_,rfl,r⟩
theorem Vals.zero:∀{us:List Value},Vals [] us->us=[]
 | _,.nil=>rfl
theorem Vals.dropLast (h:Vals xs us):Vals xs.dropLast us.dropLast:=by
 induction h with
 | nil=>exact .nil
 | cons r t ih=>
  cases t with
  | nil=>exact .nil
  | cons q t'=>exact .cons r ih
theorem Vals.rep (h:Vals xs us):∀k:Nat,Vals (replicate k xs).flatten (replicate k us).flatten
 | 0=>.nil
 | k+1=>by
  rw[replicate_succ,replicate_succ,flatten_cons,flatten_cons];exact Vals.append h (Vals.rep h k)
theorem Dc {α:Type}(l:List α):l.eraseIdx (l.length - 1)=l.dropLast:=by
 induction l with
 | nil=>rfl
 | cons a r ih=>
  cases r with
  | nil=>rfl
  | cons b r=>
   have e:(a::b::r).length - 1=((b::r).length - 1)+1:=by
    have h1:(a::b::r).length=r.length+2:=rfl;have h2:(b::r).length=r.length+1:=rfl
    lia
   rw[e,List.eraseIdx_cons_succ,ih]
   all_goals rfl
theorem foldl_rep (its:List Value):∀(k:Nat) (acc:List Value),
  foldl (λx1 x2=>x1++x2) acc.toArray (replicate k its.toArray)=(acc++(replicate k its).flatten).toArray
 | 0,acc=>by simp
 | k+1,acc=>by
  have e:acc.toArray++its.toArray=(acc++its).toArray:=by simp
  have e2:(acc++its)++(replicate k its).flatten=acc++(replicate (k+1) its).flatten:=by
   rw[replicate_succ,flatten_cons,append_assoc]
  rw[<-e2,<-foldl_rep its k (acc++its),<-e,replicate_succ,List.foldl_cons]
section
variable {X:Cx}{pins:List (Addr×Obj)}{σ:St}{H:Hp}{s:Shared}{l b:Addr}{xs ys zs:List V}
theorem Inv.GP {its its':List Value}{n:Nat}{f:Array Value->Array Value}{t':Nat}(I:Inv X pins σ H s)(hH:H l=some (.lst xs))(e:s.heap.get? l=some {cls:=.type "list",data:=.seq its.toArray n})(hf:f its.toArray=its'.toArray)(hv:Vals ys its')(hz:ys.length<=sizeLine):
  Inv X pins σ (upd H l (.lst ys)) {s with heap:=s.heap.update l (Obj.mapSeq f),toks:=t'}:=by
 have q:=PySem.IsL.update e f;rw[hf]at q;refine I.write (x:=l) (e:=l) (by rw[hH];exact trivial) (.inl rfl) (λb' u hb hu=>(get?_update_other s.heap (Obj.mapSeq f) (Ne.symm hb)).trans hu) ⟨_,q⟩ ?_;exact ⟨hz,its',_,hv,q⟩
theorem Inv.GQ (I:Inv X pins σ H s)(hv:Vals ys its)(hz:ys.length<=sizeLine):
  Inv X pins σ (upd H s.heap.objs.size (.lst ys)) {s with heap:=s.heap.push {cls:=.type "list",data:=.seq its.toArray},toks:=t'}:=
 I.laid (λ_ _ q=>get?_push_of_some _ q) (le_refl _) ⟨hz,its,0,hv,get?_push_size _ rfl⟩
theorem Inv.fresh (I:Inv X pins σ H s):H s.heap.objs.size=none:=I.hok.fresh (le_refl _)
theorem Inv.rj (I:Inv X pins σ H s)(hH:H l=some (.lst xs)):xs.length<=sizeLine/\∃(its:List Value) (n:Nat),Vals xs its/\xs.length=its.length/\s.heap.get? l=some {cls:=.type "list",data:=.seq its.toArray n}:=by
 obtain ⟨z,its,n,r,e⟩:=I.hok l _ hH;exact ⟨z,its,n,r,r.length,e⟩
theorem zZ (h:n<=sizeLine):Builtin.List.listTooLong n=false:=by
 unfold Builtin.List.listTooLong;exact decide_eq_false (by lia)
end
section
variable {X:Cx}
def JM:V->List V->Hp->VK->Prop:=λx vs H Q=>∃l xs y,x=.ref l/\vs=[y]/\H l=some (.lst xs)/\xs.length < sizeLine/\Q .non (upd H l (.lst (xs++[y])))
theorem yL:M1 X "list.append" JM:=by
 intro pins s σ H x vs v us Q I rx rv h;obtain ⟨l,xs,y,rfl,rfl,hH,hz,q⟩:=h;cases rx;obtain ⟨u,rfl,ru⟩:=rv.one;obtain ⟨z,its,n,r,hl,e⟩:=I.rj hH;refine call_meets F.slot_list_append ⟨_,e,rfl⟩ F.entry_list_append (F.args_list_append_2 _ _) (PySem.list_append l its.toArray n u (by rw[size_toArray];lia)) ⟨e,?_⟩;refine ⟨.non,_,I.GP (its':=its++[u]) hH e (by simp) (r.append (.cons ru .nil)) ?_,rfl,q⟩;rw[length_append,List.length_singleton]
 lia
def JN:V->List V->Hp->VK->Prop:=λx vs H Q=>∃l b xs zs,x=.ref l/\vs=[.ref b]/\H l=some (.lst xs)/\H b=some (.lst zs)/\xs.length+zs.length<=sizeLine/\Q .non (upd H l (.lst (xs++zs)))
theorem U5:M1 X "list.extend" JN:=by
 intro pins s σ H x vs v us Q I rx rv h;obtain ⟨l,b,xs,zs,rfl,rfl,hH,hB,hz,q⟩:=h;cases rx;obtain ⟨u,rfl,ru⟩:=rv.one;cases ru;obtain ⟨z,its,n,r,hl,e⟩:=I.rj hH;obtain ⟨z2,its2,n2,r2,hl2,e2⟩:=I.rj hB;have hsz:its.toArray.size+its2.toArray.size<=sizeLine:=by rw[size_toArray,size_toArray];lia
 have Dd:¬(!its.toArray.isEmpty && Builtin.List.listTooLong (its.toArray.size+its2.toArray.size))=true:=by
  rw[zZ hsz,Bool.and_false];exact Bool.false_ne_true
 refine call_meets F.slot_list_extend ⟨_,e,rfl⟩ F.entry_list_extend (F.args_list_extend_2 _ _)
  (AutoSeq1.list_extend_list_list_0 l its.toArray n b its2.toArray n2 Dd (by rw[size_toArray];lia) (by lia)) ⟨e,e2,?_⟩
 refine ⟨.non,_,I.GP (its':=its++its2) hH e (by simp) (r.append r2) ?_,rfl,q⟩;rw[length_append]
 lia
def Xd:V->List V->Hp->VK->Prop:=λx vs H Q=>∃l xs y,x=.ref l/\vs=[]/\H l=some (.lst xs)/\xs[xs.length - 1]?=some y/\Q y (upd H l (.lst xs.dropLast))
theorem M4:M1 X "list.pop" Xd:=by
 intro pins s σ H x vs v us Q I rx rv h;obtain ⟨l,xs,y,rfl,rfl,hH,hy,q⟩:=h;cases rx;have hus:=rv.zero;subst hus;obtain ⟨z,its,n,r,hl,e⟩:=I.rj hH;obtain ⟨u,hu,ru⟩:=r.get hy;have hy':its.toArray[its.toArray.size - 1]?=some u:=by
  show its.toArray[its.length - 1]?=some u;rw[<-Array.getElem?_toList,<-hl];exact hu
 refine call_meets F.slot_list_pop ⟨_,e,rfl⟩ F.entry_list_pop (F.args_list_pop_1 _) (MeetsSeq.list_pop_last l its.toArray n u hy' (by rw[size_toArray];lia)) ⟨e,?_⟩;refine ⟨y,_,I.GP (its':=its.dropLast) hH e ?_ r.dropLast ?_,ru,q⟩
 ·show its.toArray.eraseIdxIfInBounds (its.toArray.size - 1)=its.dropLast.toArray;rw[size_toArray,List.eraseIdxIfInBounds_toArray,Dc]
 ·rw[List.length_dropLast]
  lia
def Xe:R2:=λx y H Q=>∃l b xs zs,x=.ref l/\y=.ref b/\H l=some (.lst xs)/\H b=some (.lst zs)/\xs.length+zs.length<=sizeLine/\∀p,H p=none->Q (.ref p) (upd H p (.lst (xs++zs)))
theorem M5:bu X (binaryOp .Add) Xe:=by
 intro pins s σ H x y v u Q I rx ry h;obtain ⟨l,b,xs,zs,rfl,rfl,hH,hB,hz,q⟩:=h;cases rx;cases ry;obtain ⟨z,its,n,r,hl,e⟩:=I.rj hH;obtain ⟨z2,its2,n2,r2,hl2,e2⟩:=I.rj hB;refine PySem.P.add_list e e2 ?_ (by rw[size_toArray,size_toArray];lia);have ea:its.toArray++its2.toArray=(its++its2).toArray:=by simp
 rw[ea];exact ⟨.ref _,_,I.GQ (t':=s.toks) (r.append r2) (by rw[length_append];lia),rfl,q _ I.fresh⟩
def Xf:R2:=λx y H Q=>∃l k xs,x=.ref l/\y=.int k/\H l=some (.lst xs)/\-(2 ^ 63)<=k/\k < 2 ^ 63/\xs.length * k.toNat<=sizeLine/\
 ∀p,H p=none->Q (.ref p) (upd H p (.lst (replicate k.toNat xs).flatten))
theorem len_rep {α:Type}(xs:List α)(k:Nat):(replicate k xs).flatten.length=k * xs.length:=by
 induction k with
 | zero=>simp
 | succ k ih=>rw[replicate_succ,flatten_cons,length_append,ih,Nat.succ_mul,Nat.add_comm]
theorem M6:bu X (binaryOp .Mult) Xf:=by
 intro pins s σ H x y v u Q I rx ry h;obtain ⟨l,k,xs,rfl,rfl,hH,h1,h2,hz,q⟩:=h;cases rx;obtain ⟨t,rfl⟩:=ry;obtain ⟨z,its,n,r,hl,e⟩:=I.rj hH;have hlen:its.toArray.size * k.toNat<=sizeLine:=by rw[size_toArray,<-hl];exact hz
 have hcap:¬its.toArray.size * k.toNat > (2 ^ 63 - 1) / 8:=by
  have:(sizeLine:Nat)<=(2 ^ 63 - 1) / 8:=by decide
  lia
 have hfit:¬(!Builtin.List.listFitsIndex k)=true:=by
  rw[fitsIndex_both h1 h2];exact Bool.false_ne_true
 have Dd:¬Builtin.List.listTooLong (its.toArray.size * k.toNat)=true:=by
  rw[zZ hlen];exact Bool.false_ne_true
 have hnew:foldl (λx1 x2=>x1++x2) #[] (replicate (if its.toArray.isEmpty=true then 0 else k.toNat) its.toArray)=(replicate k.toNat its).flatten.toArray:=by
  have f0:∀m:Nat,foldl (λx1 x2=>x1++x2) #[] (replicate m its.toArray)=(replicate m its).flatten.toArray:=λm=>by
   have:=foldl_rep its m [];rw[nil_append]at this;exact this
  rw[f0];cases its with
  | nil=>simp
  | cons a r'=>rw[if_neg (by simp)]
 refine wpAny_binaryOp_repeat_ref (T:="list") (U:="int") (by decide) ⟨_,e,rfl⟩ (λs'=>typeIs_int s' k t) noFill_list_mul F.fills_int_mul F.slot_int_rmul repeat_list F.slot_int_index.lookup
  (call_meets F.slot_int_rmul (typeIs_int s k t) F.entry_int_rmul (F.args_int_rmul_2 _ _) (int___rmul___int_list k t l its.toArray n)
   ⟨e,rfl,⟨_,e,rfl⟩,call_meets F.slot_list_mul ⟨_,e,rfl⟩ F.entry_list_mul (F.args_list_mul_2 _ _) (AutoListH.list___mul___list_int_3 l its.toArray n k t hfit hcap Dd) ⟨e,?_⟩⟩)
 rw[hnew];exact ⟨.ref _,_,I.GQ (t':=s.toks) (r.rep k.toNat) (by rw[len_rep,mul_comm];exact hz),rfl,q _ I.fresh⟩
end
section
variable {κ:Type}[DecidableEq κ]
def fG (kvs:List (κ×V))(k:κ):Option V:=(kvs.find? λkv=>decide (kv.1=k)).map (·.2)
def putK (kvs:List (κ×V))(k:κ)(v:V):List (κ×V):=
 if (kvs.any λkv=>decide (kv.1=k))=true then kvs.map (λkv=>if kv.1=k then (kv.1,v) else kv) else kvs++[(k,v)]
theorem vF {p:κ×V}{r:List (κ×V)}{k:κ}(e:p.1=k):fG (p::r) k=some p.2:=by simp[fG,find?_cons,e]
theorem vG {p:κ×V}{r:List (κ×V)}{k:κ}(e:¬p.1=k):fG (p::r) k=fG r k:=by simp[fG,find?_cons,e]
theorem z0 (k:κ):∀kvs:List (κ×V),(kvs.any λkv=>decide (kv.1=k))=(fG kvs k).isSome
 | []=>rfl
 | p::r=>by
  rw[any_cons];by_cases e:p.1=k
  ·erw[vF e,decide_eq_true e,Bool.true_or,Option.isSome_some]
  ·rw[vG e,decide_eq_false e,Bool.false_or];exact z0 k r
theorem uZ (kvs:List (κ×V))(k:κ)(v:V):(putK kvs k v).length<=kvs.length+1:=by
 unfold putK;split
 ·rw[length_map];lia
 ·rw[length_append,length_cons,length_nil];lia
theorem jg.jb (r:jg o u):o.isSome=u.isSome:=by
 cases o with
 | none=>cases u with
  | none=>rfl
  | some _=>exact (show False from r).elim
 | some _=>cases u with
  | none=>exact (show False from r).elim
  | some _=>rfl
theorem KV.val {kvs:List (κ×V)}{vs:List (κ×Value)}(r:KV kvs vs)(k:κ):jg (fG kvs k) (valueAt vs k):=by
 unfold KV at r
 induction r with
 | nil=>exact True.intro
 | @cons p q ps qs h t ih=>
  obtain ⟨h1,h2⟩:=h;by_cases e:p.1=k
  ·have e':q.1=k:=h1.symm.trans e;have b:valueAt (q::qs) k=some q.2:=by simp[valueAt,find?_cons,e']
   rw[vF e,b];exact h2
  ·have e':¬q.1=k:=λz=>e (h1.trans z);have b:valueAt (q::qs) k=valueAt qs k:=by simp[valueAt,find?_cons,e']
   rw[vG e,b];exact ih
theorem KV.any {kvs:List (κ×V)}{vs:List (κ×Value)}(r:KV kvs vs)(k:κ):(kvs.any λkv=>decide (kv.1=k))=vs.any λkv=>decide (kv.1=k):=by
 unfold KV at r
 induction r with
 | nil=>rfl
 | cons h t ih=>rw[any_cons,any_cons,ih,h.1]
theorem KV.repl {kvs:List (κ×V)}{vs:List (κ×Value)}(r:KV kvs vs)(k:κ)(ry:RelV y u):
  KV (kvs.map λkv=>if kv.1=k then (kv.1,y) else kv) (vs.map λkv=>if kv.1=k then (kv.1,u) else kv):=by
 unfold KV at r ⊢
 induction r with
 | nil=>exact .nil
 | @cons p q ps qs h t ih=>
  rw[map_cons,map_cons];refine .cons ?_ ih;obtain ⟨h1,h2⟩:=h;by_cases e:p.1=k
  ·rw[if_pos e,if_pos (h1.symm.trans e)];exact ⟨h1,ry⟩
  ·rw[if_neg e,if_neg (λz=>e (h1.trans z))];exact ⟨h1,h2⟩
theorem KV.put {kvs:List (κ×V)}{vs:List (κ×Value)}(r:KV kvs vs)(k:κ)(ry:RelV y u):KV (putK kvs k y) (stored vs k u):=by
 unfold putK stored;rw[r.any k];by_cases e:(vs.any λkv=>decide (kv.1=k))=true
 ·rw[if_pos e,if_pos e];exact r.repl k ry
 ·rw[if_neg e,if_neg e];exact Paired.snoc r ⟨rfl,ry⟩
theorem KV.length {kvs:List (κ×V)}{vs:List (κ×Value)}(r:KV kvs vs):kvs.length=vs.length:=Paired.length r
end
theorem ou (r:RelV (kV k) u):(b5 P w).is k u=true:=by
 cases k with
 | inl i=>obtain ⟨t,e⟩:=(show ∃t,u=Value.int i t from r);subst e;exact Bc P w i t
 | inr x=>obtain ⟨t,e⟩:=(show ∃t,u=Value.str x t from r);subst e;exact mG P w x t
theorem yM:∀{ks:List Key} {us:List Value},Vals (ks.map kV) us->ItemsAre (b5 P w) ks us
 | [],_,r=>by rw[map_nil]at r;cases r;exact .nil
 | k::ks,_,r=>by
  rw[map_cons]at r;cases r with
  | cons h t=>exact .cons (ou h) (yM t)
abbrev KT (H:Hp):List (List Key×V)->List (List Key×Addr×Value)->Prop:=Paired λp q=>p.1=q.1/\H q.2.1=some (.tup (p.1.map kV))/\RelV p.2 q.2.2
theorem KT.val (r:KT H kvs xs)(k:List Key):jg (fG kvs k) ((atKey xs k).map (·.2)):=by
 induction r with
 | nil=>exact True.intro
 | @cons p q ps qs h t ih=>
  obtain ⟨h1,_,h2⟩:=h;by_cases e:p.1=k
  ·have e':q.1=k:=h1.symm.trans e;have b:atKey (q::qs) k=some q.2:=by simp[atKey,find?_cons,e']
   rw[vF e,b];exact h2
  ·have e':¬q.1=k:=λz=>e (h1.trans z);have b:atKey (q::qs) k=atKey qs k:=by simp[atKey,find?_cons,e']
   rw[vG e,b];exact ih
theorem KT.repl (r:KT H kvs xs)(k:List Key)(ry:RelV y u):
  KT H (kvs.map λkv=>if kv.1=k then (kv.1,y) else kv) (xs.map (putAt k u)):=by
 induction r with
 | nil=>exact .nil
 | @cons p q ps qs h t ih=>
  rw[map_cons,map_cons];refine .cons ?_ ih;obtain ⟨h1,h2,h3⟩:=h;unfold putAt;by_cases e:p.1=k
  ·rw[if_pos e,if_pos (h1.symm.trans e)];exact ⟨h1,h2,ry⟩
  ·rw[if_neg e,if_neg (λz=>e (h1.trans z))];exact ⟨h1,h2,h3⟩
theorem KT.put (r:KT H kvs xs)(k:List Key)(hb:H b=some (.tup (k.map kV)))(ry:RelV y u):
  KT H (putK kvs k y) (storedH xs k b u):=by
 have e:(kvs.any λkv=>decide (kv.1=k))=(atKey xs k).isSome:=by
  rw[z0,(r.val k).jb,isSome_map]
 unfold putK storedH;rw[e];by_cases q:(atKey xs k).isSome=true
 ·rw[if_pos q,if_pos q];exact r.repl k ry
 ·rw[if_neg q,if_neg q];exact Paired.snoc r ⟨rfl,hb,ry⟩
theorem KT.keeps (r:KT H kvs xs)(ht:∀b ys,H b=some (.tup ys)->H' b=some (.tup ys)):KT H' kvs xs:=
 Paired.Gx r λ_ _ z=>⟨z.1,ht _ _ z.2.1,z.2.2⟩
section
variable {P:Program}{w:World}{H:Hp}{h:Heap}{a:Addr}
theorem Ik (ok:cE P w H h)(e:Rd H a u):bD P w H h a u:=e.ok ok
theorem ux (ok:cE P w H h)(e:Rd H a (.dK kvs)):kvs.length<=sizeLine/\(a == sysModules)=false/\∃vs,KV kvs vs/\h.DictOf (b5 P w) a vs:=
 show bD P w H h a (.dK kvs) from Ik ok e
theorem RB (ok:cE P w H h)(e:H a=some (.dK kvs)):kvs.length<=sizeLine/\(a == sysModules)=false/\∃vs,KV kvs vs/\h.DictOf (b5 P w) a vs:=ux ok (.inl e)
theorem rk (ok:cE P w H h)(e:H a=some (.tup (ks.map kV))):(tupleKind (b5 P w)).is h ks a:=by
 obtain ⟨_,its,r,⟨o,h1,h2,n,h3⟩,_⟩:=(show bD P w H h a (.tup (ks.map kV)) from ok a _ e)
 exact ⟨o,its.toArray,n,h1,h2,h3,by simpa using yM r⟩
theorem wj (ok:cE P w H h)(e:Rd H a (.dT kvs)):kvs.length<=sizeLine/\(a == sysModules)=false/\
  ∃xs,KT H kvs xs/\h.DictOfH (tupleKind (b5 P w)) a xs:=by
 obtain ⟨z,y,xs,r,o,es,ep,h1,h2,h3,h4,h5⟩:=(show bD P w H h a (.dT kvs) from Ik ok e)
 refine ⟨z,y,xs,r,o,es,ep,h1,h2,h3,h4,λx hx=>?_,h5⟩;have all:∀{l:List (List Key×V)} {m:List (List Key×Addr×Value)},KT H l m->∀x∈m,(tupleKind (b5 P w)).is h x.1 x.2.1:=by
  intro l m q
  induction q with
  | nil=>intro x hx;exact nomatch hx
  | @cons p q ps qs hq t ih=>
   intro x hx;rcases mem_cons.mp hx with e | hx
   ·subst e;exact rk ok (by rw[<-hq.1];exact hq.2.1)
   ·exact ih x hx
 exact all r x hx
theorem RC (ok:cE P w H h)(e:H a=some (.dT kvs)):kvs.length<=sizeLine/\(a == sysModules)=false/\
  ∃xs,KT H kvs xs/\h.DictOfH (tupleKind (b5 P w)) a xs:=wj ok (.inl e)
end
def mH (H:Hp)(a:Addr)(y:V)(r:Option V):Prop:=
 (∃kvs k,Rd H a (.dK kvs)/\y=kV k/\r=fG kvs k)\/∃kvs k b,Rd H a (.dT kvs)/\y=.ref b/\H b=some (.tup (k.map kV))/\r=fG kvs k
def z4 (H:Hp)(a:Addr)(y v:V)(H':Hp):Prop:=
 (∃kvs k,H a=some (.dK kvs)/\y=kV k/\kvs.length < sizeLine/\H'=upd H a (.dK (putK kvs k v)))\/
 ∃kvs k b,H a=some (.dT kvs)/\y=.ref b/\H b=some (.tup (k.map kV))/\kvs.length < sizeLine/\H'=upd H a (.dT (putK kvs k v))
theorem mH.k {H:Hp}{a:Addr}{kvs:List (Key×V)}{k:Key}(e:H a=some (.dK kvs)):mH H a (kV k) (fG kvs k):=.inl ⟨kvs,k,.inl e,rfl,rfl⟩
theorem z4.k {H:Hp}{a:Addr}{kvs:List (Key×V)}{k:Key}{v:V}(e:H a=some (.dK kvs))(hl:kvs.length < sizeLine):z4 H a (kV k) v (upd H a (.dK (putK kvs k v))):=.inl ⟨kvs,k,e,rfl,hl,rfl⟩
section
variable {X:Cx}{pins:List (Addr×Obj)}{σ:St}{H:Hp}{s:Shared}{a:Addr}{y v:V}{u r:Value}{o:Option V}{A:Around}{E:Value->Shared->Prop}
theorem EB (hu:A.units+1 < cLine)(I:Inv X pins σ H s)(g:mH H a y (some v))(ry:RelV y u)(h:∀w' s',Inv X pins σ H s'->RelV v w'->Q w' s'):
  wpAny (model X.prog X.w) A (getItem (.ref a) u) Q E s:=by
 rcases g with ⟨kvs,k,e,ey,l⟩ | ⟨kvs,k,b,e,ey,eb,l⟩
 ·subst ey;obtain ⟨z,hd,vs,rel,dd⟩:=ux I.hok e;obtain ⟨w',hw,q_⟩:=jg.some_of (v:=v) (o:=valueAt vs k) (by rw[l];exact rel.val k);exact wpAny_getItem_of (ou ry) dd.mapOf hw (h w' _ (I.tok _) q_)
 ·subst ey;cases (show u=Value.ref b from ry);obtain ⟨z,hd,xs,rel,dd⟩:=wj I.hok e;obtain ⟨w',hw,q_⟩:=jg.some_of (v:=v) (o:=(atKey xs k).map (·.2)) (by rw[l];exact rel.val k);obtain ⟨p,hp,hp2⟩:=map_eq_some_iff.mp hw;refine wpAny_getItem_heap (tupleKind_room_in1 hu) (rk I.hok eb) dd hp ?_;rw[hp2];exact h w' _ (I.tok _) q_
theorem Xg (hu:A.units+1 < cLine)(I:Inv X pins σ H s)(g:mH H a y o)(ry:RelV y u)(h:∀s',Inv X pins σ H s'->Q (.bool o.isSome) s'):
  wpAny (model X.prog X.w) A (compareOp .In u (.ref a)) Q E s:=by
 rcases g with ⟨kvs,k,e,ey,l⟩ | ⟨kvs,k,b,e,ey,eb,l⟩
 ·subst ey;obtain ⟨z,hd,vs,rel,dd⟩:=ux I.hok e;refine wpAny_in_of (ou ry) hd dd.mapOf ?_;rw[<-(rel.val k).jb,<-l];exact h _ (I.tok _)
 ·subst ey;cases (show u=Value.ref b from ry);obtain ⟨z,hd,xs,rel,dd⟩:=wj I.hok e;refine wpAny_in_heap (tupleKind_room_in1 hu) (rk I.hok eb) hd dd ?_;have q:=(rel.val k).jb;rw[isSome_map]at q;rw[<-q,<-l];exact h _ (I.tok _)
theorem JO (hu:A.units+1 < cLine)(I:Inv X pins σ H s)(g:mH H a y o)(ry:RelV y u)(h:∀s',Inv X pins σ H s'->Q (.bool (!o.isSome)) s'):
  wpAny (model X.prog X.w) A (compareOp .NotIn u (.ref a)) Q E s:=by
 rcases g with ⟨kvs,k,e,ey,l⟩ | ⟨kvs,k,b,e,ey,eb,l⟩
 ·subst ey;obtain ⟨z,hd,vs,rel,dd⟩:=ux I.hok e;refine wpAny_notIn_of (ou ry) hd dd.mapOf ?_;rw[<-(rel.val k).jb,<-l];exact h _ (I.tok _)
 ·subst ey;cases (show u=Value.ref b from ry);obtain ⟨z,hd,xs,rel,dd⟩:=wj I.hok e;refine wpAny_notIn_heap (tupleKind_room_in1 hu) (rk I.hok eb) hd dd ?_;have q:=(rel.val k).jb;rw[isSome_map]at q;rw[<-q,<-l];exact h _ (I.tok _)
theorem BG (I:Inv X pins σ H s)(mu:Ef (H a))(hs:Heap.SameBut a s.heap h')(he:∃q,h'.get? a=some q)(new:bD X.prog X.w (upd H a ob) h' a ob):
  Inv X pins σ (upd H a ob) {s with heap:=h',toks:=t'}:=
 I.write (x:=a) (e:=a) mu (.inl rfl) (λb q hb z=>(hs.2 b hb).trans z) he new
theorem M7 (z:kvs.length<=sizeLine)(hd:(a == sysModules)=false)(rel:KV kvs vs)(dd:h'.DictOf (b5 P w) a vs):
  bD P w H' h' a (.dK kvs):=⟨z,hd,vs,rel,dd⟩
theorem EC (hu:A.units+1 < cLine)(I:Inv X pins σ H s)(g:z4 H a y v H')(ry:RelV y u)(rv:RelV v r)(h:∀s',Inv X pins σ H' s'->Q () s'):
  wpAny (model X.prog X.w) A (setItem (.ref a) u r) Q E s:=by
 rcases g with ⟨kvs,k,e,ey,l,eH⟩ | ⟨kvs,k,b,e,ey,eb,l,eH⟩
 ·subst ey eH;obtain ⟨z,hd,vs,rel,dd⟩:=RB I.hok e;have hz:vs.length<=sizeLine:=by rw[<-rel.length];exact z
  have hl:(putK kvs k v).length<=sizeLine:=by have:=uZ kvs k v;lia
  refine wpAny_setItem_pairs (hsz:=hz) (ou ry) dd λh' Il hs=>h _ ?_;have he:∃q,h'.get? a=some q:=let ⟨q,_,_,hq,_⟩:=Il;⟨q,hq⟩;exact BG I (by rw[e];exact True.intro) hs he (M7 hl hd (rel.put k rv) Il)
 ·subst ey eH;cases (show u=Value.ref b from ry);obtain ⟨z,hd,xs,rel,dd⟩:=RC I.hok e;have hz:xs.length<=sizeLine:=by rw[<-Paired.length rel];exact z
  have hl:(putK kvs k v).length<=sizeLine:=by have:=uZ kvs k v;lia
  refine wpAny_setItem_heap (hsz:=hz) (tupleKind_room_in1 hu) (rk I.hok eb) dd λh' Il hs=>h _ ?_;obtain ⟨q,es,ep,hq,h2,h3,h4,_,h5⟩:=Il;refine BG I (by rw[e];exact True.intro) hs ⟨q,hq⟩ ⟨hl,hd,_,(rel.put k eb rv).keeps λc ys ec=>?_,q,es,ep,hq,h2,h3,h4,h5⟩;rw[aB (C0 ec e (λz=>nomatch z))];exact ec
end
section
variable {X:Cx}{pins:List (Addr×Obj)}{σ:St}{H:Hp}{s:Shared}{a:Addr}{kvs:List (Key×V)}{k:Key}{u:Value}{A:Around}{E:Value->Shared->Prop}
theorem RE (I:Inv X pins σ H s)(e:Rd H a (.dK kvs))(h:∀t s',Inv X pins σ H s'->Q (.int kvs.length t) s'):wpAny (model X.prog X.w) A (call (.builtin "len") [.ref a]) Q E s:=by
 obtain ⟨z,hd,vs,rel,dd⟩:=ux I.hok e;refine call_len_dict hd dd (by rw[<-rel.length];rw[sizeLine_eq]at z;lia) ?_;rw[<-rel.length];exact h _ _ (I.tok _)
end
theorem Bd (I:Inv X pins σ H s)(g:mH H a y o):s.TypeIs (.ref a) "dict":=by
 rcases g with ⟨kvs,k,e,_,_⟩ | ⟨kvs,k,b,e,_,_,_⟩
 ·obtain ⟨_,_,vs,_,dd⟩:=ux I.hok e;exact dd.typeIs
 ·obtain ⟨_,_,xs,_,dd⟩:=wj I.hok e;exact dd.typeIs
end L2
namespace U6
open PySem PySem.W PySem.Calls PyProof.Rows
theorem wk:∀(ns:List Int) (vs:List Value),WellAll P h vs (ns.map WData.int)->IntsAre vs ns:=by
 intro ns
 induction ns with
 | nil=>
  intro vs w;rw[map_nil]at w;cases w;exact .nil
 | cons n ns ih=>
  intro vs w;rw[map_cons]at w;cases w with
  | cons a b=>
   cases a;exact .cons _ _ (ih _ b)
theorem ED {l:OpenLaw}{n:Nat}(hn:l.most=some n){P:Params}{h:Heap}{args:List WData}{vals:List Value}(hpre:l.row.toRowW.claim.pre args=true)(hwl:WellAll P h vals args):
  ∃a vs ns,vals=[Value.ref a]/\args=[WData.list (ns.map WData.int)]/\h.get? a=some {cls:=.type "list",data:=.seq vs.toArray}/\IntsAre vs ns/\ns.length<=n:=by
 have hsh:WShape.hasAll [] args [.list .int]=true:=(pre_splitW hpre).1;have hc:l.pre.holds [] {args:=args}=true:=(pre_splitW hpre).2;obtain ⟨d,r,rfl,h1,h2⟩:=hasAllW_cons hsh;obtain rfl:=hasAllW_nil h2;obtain ⟨xs,rfl,h3⟩:=hasW_list h1;obtain ⟨ns,rfl⟩:=items_int h3;have hlen:ns.length<=n:=by
  unfold OpenLaw.pre at hc;have h4:(WTm.not (.lt (.lit (.int (n:Int))) (.len (.arg 0)))).holds [] {args:=[.list (ns.map .int)]}=true:=by
   have h4:=(holds_andW hc).1;rw[hn]at h4;exact h4
  have h5:=condW_of h4 (w_not (w_lt w_lit (w_len_list (w_arg rfl))));rw[length_map]at h5;refine le_of_not_lt λq=>?_;have q':(n:Int) < ((ns.length:Nat):Int):=by lia
  first
   | (rw[decide_eq_true q']at h5;exact absurd h5 (by decide))
   | (simp at h5;lia)
 cases hwl with
 | cons w1 w2=>
  cases w2;cases w1 with
  | list ho hall=>exact ⟨_,_,ns,rfl,rfl,ho,wk ns _ hall,hlen⟩
theorem EE (l:OpenLaw)(args:List WData):l.row.toRowW.claim.post args (.bool true) args=true:=
 postW_of (r:=l.row.toRowW) (X:=(true == true))
  (show WShape.has [] (.bool true) .bool=true by first | rfl | decide | simp[WShape.has,WShape.arms,WShape.armsAll])
  (show (WTm.eq .res (.lit (.bool true))).value [] {args:=args,res:=some (.bool true),after:=args}=some (.bool (true == true)) from w_eq_bool (w_res rfl) w_lit) rfl
theorem Be {l:OpenLaw}{n:Nat}{q:Program}{loose:List Str}{XP:(Str->Option Value)->Heap->Prop}{YP:World->Heap->Prop}{d:DefRec}(hn:l.most=some n)(hdf:d.params.defaults=[])(call:∀(w:World) (s₀ s₁:Shared) (mg mb:Str->Option Value) (fa:Addr) (o:Obj) (pm cd doc:Value) (a:Addr) (vs:List Value) (ns:List Int),
   Ground q loose [] XP w s₀ mg mb s₁.heap->YP w s₁.heap->
   s₁.heap.get? fa=some o->o.data=.func (docDef d.name d.params d.body d.scope pm cd doc)->s₁.heap.CodeRec cd d.name->mg d.name=some (.ref fa)->
   s₁.heap.get? a=some {cls:=.type "list",data:=.seq vs.toArray}->IntsAre vs ns->ns.length<=n->s₁.gens=#[]->
   codeAny (model l.prog w) callerA (.call (.ref fa) ⟨[.ref a],[]⟩) (λr s'=>r=.ok (.ret (.bool true))/\OldK s₁.heap s'.heap/\s'.os=s₁.os/\AllBare s'.gens) s₁):
  WalkO q loose XP YP l.row.toRowW d [] (λf vs=>PySem.call f vs):=by
 intro w s₀ s₁ mg mb G Y fa o pm cd doc dV kV ho hd hcd hD hmg hg args vals as hpre hlay hrd hwl hlo;obtain rfl:dV=.none:=Dflts.none hD hdf;obtain rfl:kV=.none:=Dflts.noKw hD;obtain ⟨a,vs,ns,rfl,rfl,hobj,hints,hlen⟩:=ED hn hpre hwl;refine enter_call (codeAny_mono (call w s₀ s₁ mg mb fa o pm cd doc a vs ns G Y ho (fd_plain hd) hcd hmg hobj hints hlen hg) λr s' hq=>?_);obtain ⟨rfl,h2,h3,h4⟩:=hq;exact ⟨.inl ⟨.bool true,.bool true,[],rfl,λ_=>rfl,.bool true,EE l _,λ_=>⟨List.Pairwise.nil,λ_ hm=>(nomatch hm)⟩⟩,h2,h3,h4⟩
end U6
namespace L2
open PySem PySem.Spec PyProof.Rows
theorem yN:∀{vs:List Value} {ns:List Int},IntsAre vs ns->Vals (ns.map V.int) vs
 | _,_,.nil=>.nil
 | _,_,.cons n t h=>.cons ⟨t,rfl⟩ (yN h)
def Only (H:Hp):Prop:=∀b,H b=none\/∃o xs,H b=some (.bq o (.lst xs))
theorem GR {P:Program}{w:World}{K:Frag}{mg mb:Str->Option Value}{CX:q9}{k:Nat}{fa a:Addr}{fd:FuncData}{x:Str}{sp:Sp}{s₁:Shared}{vs:List Value}{ns:List Int}(KX:K.In s₁.heap)(hns:s₁.heap.Ns mainGlobals mg)(hb:s₁.heap.Ns builtinsNs mb)(hbb:∀x:Str,x≠"__name__"->mb x=bootBuiltins x)(hlim:s₁.heap.NoLimit)(hg:s₁.gens=#[])(ha:s₁.heap.get? a=some {cls:=.type "list",data:=.seq vs.toArray})(hi:IntsAre vs ns)(hl:ns.length<=sizeLine)(hr:bN k callerA)(F:∀base:Heap,K.In base->base.Ns mainGlobals mg->aH P w K mg base CX k fa fd [x] sp)(hbind:∀(s:Shared) (u:Value),BindsTo s fd ⟨[u],[]⟩ [(x,u)])(hsp:∀H:Hp,Only H->eN K H a (ns.map V.int)->(∀o,K.lookup a=some o->o.slots=#[])->sp [.ref a] H (λv _=>v=.bl true) λ_ _ _=>False)(M8:∀H e s',CX [] H s₁ (λ_ _ _=>False) e s'->False):
  codeAny (model P w) callerA (.call (.ref fa) ⟨[.ref a],[]⟩) (λr s'=>r=.ok (.ret (.bool true))/\OldK s₁.heap s'.heap/\s'.os=s₁.os/\AllBare s'.gens) s₁:=by
 have rv:=yN hi;have lenV:=hi.length
 -- from an abstract heap in which nothing but the script may be tracked
 have core:∀H:Hp,Only H->eN K H a (ns.map V.int)->cE P w H s₁.heap->(∀b,H b≠none->b=a)->(H a≠none->K.lookup a=none)->
   codeAny (model P w) callerA (.call (.ref fa) ⟨[.ref a],[]⟩) (λr s'=>r=.ok (.ret (.bool true))/\OldK s₁.heap s'.heap/\s'.os=s₁.os/\AllBare s'.gens) s₁:=by
  intro H hO hS hok hA hK;have BH:∀{b:Addr} {o:Obj},s₁.heap.get? b=some o->H b=none->(nY s₁.heap H).get? b=some o:=λe n=>Gy e n;have Ez:∀{b:Addr} {o:Obj} {es:Array DictEntry} {ep:Nat},s₁.heap.get? b=some o->o.data=.dict es ep->H b=none:=λ{b o es ep} e d=>by
   cases q:H b with
   | none=>rfl
   | some u=>
    have e':b=a:=hA b (by rw[q];simp);subst e';rw[ha]at e;cases e;have d':Data.seq vs.toArray _=Data.dict es ep:=d;cases d'
  have Im:∀{b:Addr} {m:Str->Option Value},s₁.heap.Ns b m->(nY s₁.heap H).Ns b m:=λ{b m} ⟨o,es,ep,e,d,r⟩=>⟨o,es,ep,BH e (Ez e d),d,r⟩
  have U7:K.In (nY s₁.heap H):=λb o e=>BH (KX b o e) (by
   cases q:H b with
   | none=>rfl
   | some u=>
    have e':b=a:=hA b (by rw[q];simp);subst e';rw[hK (by rw[q];simp)]at e;cases e)
  have hM:Mod K mg (nY s₁.heap H):=⟨U7,Im hns,⟨mb,Im hb,hbb⟩,let ⟨mc,h1,h2⟩:=hlim;⟨mc,Im h1,h2⟩⟩
  have e0:vC P w K mg (nY s₁.heap H) callerA [] s₁ H:=⟨rfl,hM,λb o e=>Jy e,Nat.le_of_eq (Eg _ _),trivial,λb hb=>absurd (show b∈([]:List Addr) from hb) (by simp),hok,.of_eq hg⟩
  refine codeAny_mono ((F _ U7 (Im hns)).run callerA [] s₁ H ⟨[.ref a],[]⟩ [.ref a] [.ref a] _ _ hr e0 (hbind s₁ (.ref a)) (.cons rfl .nil) (hsp H hO hS (λo e=>by have e':=KX a o e;rw[ha]at e';cases e';rfl))) λr s' h=>?_;cases r with
  | error e=>exact (M8 H e s' h).elim
  | ok fl=>
   cases fl with
   | next=>exact False.elim h
   | brk=>exact False.elim h
   | cont=>exact False.elim h
   | ret u=>
    obtain ⟨v,H',os,bare,un,hok',r',q⟩:=h;have q':v=.bl true:=q;subst q';obtain rfl:u=Value.bool true:=r';refine ⟨rfl,OldK.of_keep λb o e=>?_,os,bare⟩;cases q:H b with
    | none=>exact un.keep b o e q (by intro z;exact absurd (show b∈([]:List Addr) from z) (by simp)) (by simp)
    | some u=>
     rcases hO b with z | ⟨ob,xs,z⟩
     ·rw[q]at z;cases z
     ·have z2:=un.fE b ob _ z;obtain ⟨e1,_⟩:=hok b _ z;obtain ⟨e2,_⟩:=hok' b _ z2;rw[e]at e1;cases e1;exact e2
 cases hk:K.lookup a with
 | some o=>
  -- the script is one of the module's own objects
  have e:=KX a o hk;rw[ha]at e;cases e;refine core (λ_=>none) (λ_=>.inl rfl) (.inr ⟨_,vs.toArray,_,hk,rfl,rfl,rfl,by rw[size_toArray,lenV];exact hl,by simpa using rv⟩) (λb u z=>by have z':(none:Option HO)=some u:=z;cases z') (λb z=>absurd rfl z) λz=>absurd rfl z
 | none=>
  refine core (λb=>if b=a then some (.bq {cls:=.type "list",data:=.seq vs.toArray} (.lst (ns.map V.int))) else none) (λb=>?_) (.inl (.inr ⟨{cls:=.type "list",data:=.seq vs.toArray},if_pos rfl⟩)) (λb u z=>?_) (λb z=>?_) λ_=>hk
  ·by_cases hb:b=a
   ·exact .inr ⟨_,_,if_pos hb⟩
   ·exact .inl (if_neg hb)
  ·by_cases hb:b=a
   ·have z':=(if_pos hb).symm.trans z;cases z';subst hb;exact ⟨ha,by rw[length_map];exact hl,vs,_,rv,ha⟩
   ·have z':=(if_neg hb).symm.trans z;cases z'
  ·by_cases hb:b=a
   ·exact hb
   ·exact absurd (if_neg hb) z
theorem JQ {l:PySem.W.OpenLaw}{n k:Nat}{q:Program}{loose:List Str}{XP:(Str->Option Value)->Heap->Prop}{YP:World->Heap->Prop}{d:DefRec}{K:Params->Frag}{CX:World->q9}{sp:World->Sp}{x:Str}(hn:l.most=some n)(hn2:n<=sizeLine)(hdf:d.params.defaults=[])(hr:bN k callerA)(hY:∀(w:World) (h:Heap),YP w h->(K w.params).In h)(F:∀(w:World) (mg:Str->Option Value) (fa:Addr) (h:Heap),(K w.params).In h->h.Ns mainGlobals mg->mg d.name=some (.ref fa)->
   ∃fd:FuncData,(∀(s:Shared) (u:Value),BindsTo s fd ⟨[u],[]⟩ [(x,u)])/\
    ∀base:Heap,(K w.params).In base->base.Ns mainGlobals mg->aH l.prog w (K w.params) mg base (CX w) k fa fd [x] (sp w)) (hsp:∀(w:World) (H:Hp) (a:Addr) (ns:List Int),ns.length<=n->Only H->eN (K w.params) H a (ns.map V.int)->(∀o,(K w.params).lookup a=some o->o.slots=#[])->sp w [.ref a] H (λv _=>v=.bl true) λ_ _ _=>False) (M8:∀(w:World) (H:Hp) (s:Shared) (e:Value) (s':Shared),CX w [] H s (λ_ _ _=>False) e s'->False):
  PySem.W.WalkO q loose XP YP l.row.toRowW d [] (λf vs=>PySem.call f vs):=by
 refine U6.Be hn hdf λw s₀ s₁ mg mb fa o pm cd doc a vs ns G Y ho hd hcd hmg hobj hints hlen hg=>?_;have KX:=hY w _ Y;obtain ⟨fd,hb,hF⟩:=F w mg fa _ KX G.T.g hmg;exact GR KX G.T.g G.T.b G.T.builtins G.T.nolimit hg hobj hints (le_trans hlen hn2) hr hF hb (λH hO hS=>hsp w H a ns hlen hO hS) λH e s'=>M8 w H s₁ e s'
def cH (s:Stmt):Arguments:=match s with
 | .FunctionDef _ a _ _ _ _ _ _ _ _=>a
 | _=>{posonlyargs:=[],args:=[],vararg:=none,kwonlyargs:=[],kw_defaults:=[],kwarg:=none,defaults:=[]}
def bG (s:Stmt):List Stmt:=match s with
 | .FunctionDef _ _ b _ _ _ _ _ _ _=>b
 | _=>[]
def aw (s:Stmt):Scope:=match s with
 | .FunctionDef _ _ _ _ _ _ sc _ _ _=>sc
 | _=>{kind:=.function,names:=[],isGenerator:=false,isCoroutine:=false}
abbrev aY:q9:=λ_ _ _ _ _ _=>False
abbrev E0:XK:=λ_ _ _=>False
theorem Io:Passes aY X E0:=λ_ _ _ _ _ _ _ h=>h.elim
structure rn (K:Frag)(x qual:Str)(st:Stmt)(f:Addr)(fd:FuncData):Prop where
 ex:∃(oc:Value) (od:Option Addr) (kV doc pm:Value) (an:Option Addr) (cdv ct:Value) (osl:Array (Option Value)),
  fd=fnOf x qual (cH st) (bG st) (aw st) .none kV doc pm an cdv ct/\K.lookup f=some ⟨oc,od,.func fd,osl⟩/\codeIn K cdv qual=true
 kp:keepIn K (.ref f)=true
section
variable {P:Program}{w:World}{K:Frag}{mg:Str->Option Value}{base:Heap}
theorem rn.ok {x qual:Str}{st:Stmt}{f:Addr}{fd:FuncData}{N ps:List Str}{k:Nat}{sp:Sp}(F:rn K x qual st f fd)(S:aM N ps (aw st))(len:∀vs H Q E,sp vs H Q E->vs.length=ps.length)(hbody:∀(cdv:Value) (A:Around) (outer:List Env) (s:Shared) (H:Hp) (vs:List V) (Q:VK) (E:XK),bN k (A.deeper (envOfC qual (aw st) s.heap.objs.size f cdv))->sp vs H Q E->
   ∃t,iw (fF aY P w K mg base N qual (aw st) f cdv A outer s H E).j0 (bG st) t/\t {nx:=λ_ H'=>Q .non H',rt:=Q} (start N vs) H):aH P w K mg base aY (k+1) f fd ps sp:=by
 obtain ⟨oc,od,kV,doc,pm,an,cdv,ct,osl,rfl,lk,hcd⟩:=F.ex;refine C7 lk hcd S len λA outer s H vs Q E hr hsp=>?_;obtain ⟨t,h,q⟩:=hbody cdv A outer s H vs Q E hr hsp;exact ⟨t,h.j0,q⟩
theorem rn.binds {x qual:Str}{st:Stmt}{f:Addr}{fd:FuncData}{ps:List Str}(F:rn K x qual st f fd)(h:∀(kV doc pm:Value) (an:Option Addr) (cdv ct:Value) (us:List Value),us.length=ps.length->bindArgs (fnOf x qual (cH st) (bG st) (aw st) .none kV doc pm an cdv ct) ⟨us,[]⟩=pure (ps.zip us)):Binds K fd ps []:=by
 obtain ⟨oc,od,kV,doc,pm,an,cdv,ct,osl,rfl,lk,hcd⟩:=F.ex;exact .all (h kV doc pm an cdv ct)
theorem EG {x qual:Str}{st:Stmt}{f:Addr}{oc:Value}{od an:Option Addr}{osl:Array (Option Value)}{kV doc pm cdv ct:Value}(l:K.lookup f=some ⟨oc,od,.func (fnOf x qual (cH st) (bG st) (aw st) .none kV doc pm an cdv ct),osl⟩)(c:codeIn K cdv qual=true)(k:keepIn K (.ref f)=true):rn K x qual st f (fnOf x qual (cH st) (bG st) (aw st) .none kV doc pm an cdv ct):=⟨⟨oc,od,kV,doc,pm,an,cdv,ct,osl,rfl,l,c⟩,k⟩
end
section
variable {X:Cx}
theorem EH:cR X (.builtin "len") (λxs H Q=>∃a kvs,xs=[V.ref a]/\H a=some (.dK kvs)/\Q (.int kvs.length) H):=by
 intro pins s σ H xs us Q I r h;obtain ⟨a,kvs,rfl,ha,q⟩:=h;obtain ⟨u,rfl,ru⟩:=vals1 r;cases ru;exact RE I (.inl ha) λt s' I'=>⟨.int kvs.length,H,I',⟨t,rfl⟩,q⟩
end
end L2
namespace ZT
open PySem PyProof PyProof.Rows
def kv:Value->Int
 | .int k _=>k
 | _=>0
end ZT
namespace ZS
open PySem PySem.Spec PyProof.Rows L2
theorem rA {α:Type}:∀{l:List α},l.Nodup->∀{i j:Nat} {x:α},l[i]?=some x->l[j]?=some x->i=j
 | [],_,i,_,_,a,_=>by simp at a
 | y::l,h,i,j,x,a,b=>by
  obtain ⟨h1,h2⟩:=nodup_cons.mp h;cases i with
  | zero=>
   cases j with
   | zero=>rfl
   | succ j=>simp at a b;subst a;exact absurd (mem_of_getElem? b) h1
  | succ i=>
   cases j with
   | zero=>simp at a b;subst b;exact absurd (mem_of_getElem? a) h1
   | succ j=>exact congrArg (·+1) (rA h2 (by simpa using a) (by simpa using b))
section
variable (K:Frag)(ρ:List Addr)(H:Hp)
def u_ (a:Addr)(xs:List V):Prop:=
 (∃o,H a=some (.bq o (.lst xs)))\/
  ∃(o:Obj) (its:Array Value) (n:Nat),K.lookup a=some o/\o.cls=.type "list"/\o.dict=none/\o.data=.seq its n/\its.size<=sizeLine/\Vals xs its.toList/\o.slots=#[]
mutual
noncomputable def ah:Z.D->V->Prop
 | .non,v=>v=.non
 | .bl b,v=>v=.bl b
 | .int i,v=>v=.int i
 | .str s,v=>v=.str ⟨s.toArray⟩/\s.length<=Z.lim
 | .tup xs,v=>∃a ys,v=.ref a/\cZ K H a ys/\ak xs ys
 | .bV xs,v=>∃a ys,v=.ref a/\u_ K H a ys/\ak xs ys
 | .ref n,v=>∃a,v=.ref a/\ρ[n]?=some a
noncomputable def ak:List Z.D->List V->Prop
 | [],ys=>ys=[]
 | x::xs,ys=>∃y r,ys=y::r/\ah x y/\ak xs r
end
def dz:Z.KK->Key
 | .inl i=>.inl i
 | .inr s=>.inr ⟨s.toArray⟩
def gS:Z.AO->Addr->Prop
 | .lst xs,a=>∃ys,H a=some (.lst ys)/\ak K ρ H xs ys
 | .dct kvs,a=>∃kvs',H a=some (.dK kvs')/\kvs'.map (·.1)=kvs.map (λp=>dz p.1)/\ak K ρ H (kvs.map (·.2)) (kvs'.map (·.2))/\∀p∈kvs,∀s,p.1=Sum.inr s->s.length<=Z.lim
 | .exc c,a=>∃C oe,nsIn K mainGlobals ⟨c.toArray⟩=some (some (.ref C))/\H a=some (.bq oe (.own 0))/\oe.cls=.ref C/\oe.dict=none/\notCls oe=true
 | .bU c i,a=>∃C oe dx od,nsIn K mainGlobals ⟨c.toArray⟩=some (some (.ref C))/\H a=some (.bq oe (.own 0))/\H dx=some (.bq od (.xd [("row",.int i)]))/\oe.cls=.ref C/\oe.dict=some dx/\notCls oe=true
 | .obj c fs,a=>∃C dx fs',nsIn K mainGlobals ⟨c.toArray⟩=some (some (.ref C))/\H a=some (.ins C dx fs')/\fs'.map (·.1)=fs.map (λp=>(⟨p.1.toArray⟩:Str))/\ak K ρ H (fs.map (·.2)) (fs'.map (·.2))
end
structure Ext (K:Frag)(ρ:List Addr)(H:Hp)(ρ':List Addr)(H':Hp):Prop where
 pre:∀(n:Nat) (a:Addr),ρ[n]?=some a->ρ'[n]?=some a
 tup:∀a xs,H a=some (.tup xs)->H' a=some (.tup xs)
 bq:∀a o u,H a=some (.bq o u)->H' a=some (.bq o u)
class R0 where
 YM:List Addr
 hp:Hp
variable [R0]
structure Rep (K:Frag)(ρ:List Addr)(h:Z.AH)(H:Hp):Prop where
 len:ρ.length=h.length
 nd:ρ.Nodup
 ext:Ext K R0.YM R0.hp ρ H
 at_:∀(n:Nat) (o:Z.AO),h[n]?=some o->∃a,ρ[n]?=some a/\gS K ρ H o a
def bI (K:Frag)(ρ:List Addr)(H:Hp)(σ:Z.Lo)(τ:L2.St):Prop:=
 σ.length=τ.length/\∀(i:Nat) (d:Z.D),σ[i]?=some (some d)->∃v,τ[i]?=some (some v)/\ah K ρ H d v
section
variable {K:Frag}{ρ ρ' U8:List Addr}{H H' U9:Hp}{h h':Z.AH}
theorem Ext.refl:Ext K ρ H ρ H:=⟨λ_ _ e=>e,λ_ _ e=>e,λ_ _ _ e=>e⟩
theorem Ext.trans (a:Ext K ρ H ρ' H')(b:Ext K ρ' H' U8 U9):Ext K ρ H U8 U9:=
 ⟨λn x e=>b.pre n x (a.pre n x e),λx xs e=>b.tup x xs (a.tup x xs e),λx o u e=>b.bq x o u (a.bq x o u e)⟩
theorem Ext.U_ (e:Ext K ρ H ρ' H')(q:cZ K H a xs):cZ K H' a xs:=by
 rcases q with (q | ⟨o,q⟩) | q
 ·exact .inl (.inl (e.tup _ _ q))
 ·exact .inl (.inr ⟨o,e.bq _ _ _ q⟩)
 ·exact .inr q
theorem Ext.Va (e:Ext K ρ H ρ' H')(q:u_ K H a xs):u_ K H' a xs:=by
 rcases q with ⟨o,q⟩ | q
 ·exact .inl ⟨o,e.bq _ _ _ q⟩
 ·exact .inr q
theorem u_.rB (q:u_ K H a xs):eN K H a xs:=by
 rcases q with ⟨o,q⟩ | ⟨o,its,n,h1,h2,h3,h4,h5,h6,_⟩
 ·exact .inl (.inr ⟨o,q⟩)
 ·exact .inr ⟨o,its,n,h1,h2,h3,h4,h5,h6⟩
mutual
theorem ah.mono (e:Ext K ρ H ρ' H'):∀(d:Z.D) (v:V),ah K ρ H d v->ah K ρ' H' d v
 | .non,_,r=>by erw[ah]at r ⊢;exact r
 | .bl _,_,r=>by erw[ah]at r ⊢;exact r
 | .int _,_,r=>by erw[ah]at r ⊢;exact r
 | .str _,_,r=>by erw[ah]at r ⊢;exact r
 | .tup xs,v,r=>by
  erw[ah]at r ⊢;obtain ⟨a,ys,e1,q,r⟩:=r;exact ⟨a,ys,e1,e.U_ q,ak.mono e xs ys r⟩
 | .bV xs,v,r=>by
  erw[ah]at r ⊢;obtain ⟨a,ys,e1,q,r⟩:=r;exact ⟨a,ys,e1,e.Va q,ak.mono e xs ys r⟩
 | .ref n,v,r=>by
  erw[ah]at r ⊢;obtain ⟨a,e1,q⟩:=r;exact ⟨a,e1,e.pre _ _ q⟩
theorem ak.mono (e:Ext K ρ H ρ' H'):∀(d:List Z.D) (v:List V),ak K ρ H d v->ak K ρ' H' d v
 | [],_,r=>by erw[ak]at r ⊢;exact r
 | x::xs,v,r=>by
  erw[ak]at r ⊢;obtain ⟨y,t,e1,q,r⟩:=r;exact ⟨y,t,e1,ah.mono e x y q,ak.mono e xs t r⟩
end
theorem ak.length:∀{xs:List Z.D} {ys:List V},ak K ρ H xs ys->xs.length=ys.length
 | [],_,r=>by erw[ak]at r;subst r;rfl
 | x::xs,_,r=>by
  erw[ak]at r;obtain ⟨y,t,rfl,_,r⟩:=r;simp[ak.length r]
theorem ak.get:∀{xs:List Z.D} {ys:List V} {i:Nat} {x:Z.D},ak K ρ H xs ys->xs[i]?=some x->∃y,ys[i]?=some y/\ah K ρ H x y
 | [],_,_,_,_,e=>by simp at e
 | x::xs,_,i,z,r,e=>by
  erw[ak]at r;obtain ⟨y,t,rfl,q,r⟩:=r;cases i with
  | zero=>simp at e;subst e;exact ⟨y,by simp,q⟩
  | succ i=>obtain ⟨w,e1,e2⟩:=ak.get (i:=i) r (by simpa using e);exact ⟨w,by simpa using e1,e2⟩
theorem ak.append:∀{xs xs':List Z.D} {ys ys':List V},ak K ρ H xs ys->ak K ρ H xs' ys'->ak K ρ H (xs++xs') (ys++ys')
 | [],_,_,_,r,r'=>by erw[ak]at r;subst r;exact r'
 | x::xs,_,_,_,r,r'=>by
  erw[ak]at r;obtain ⟨y,t,rfl,q,r⟩:=r;show ak K ρ H (x::(xs++_)) (y::(t++_));erw[ak];exact ⟨y,_,rfl,q,ak.append r r'⟩
theorem ak.one (r:ah K ρ H x y):ak K ρ H [x] [y]:=by
 erw[ak];exact ⟨y,[],rfl,r,rfl⟩
theorem ak.take:∀{xs:List Z.D} {ys:List V} (n:Nat),ak K ρ H xs ys->ak K ρ H (xs.take n) (ys.take n)
 | [],_,n,r=>by erw[ak]at r;subst r;simp[ak]
 | x::xs,_,0,r=>by simp[ak]
 | x::xs,_,n+1,r=>by
  erw[ak]at r;obtain ⟨y,t,rfl,q,r⟩:=r;erw[List.take_succ_cons,ak];exact ⟨y,_,rfl,q,ak.take n r⟩
theorem ak.drop:∀{xs:List Z.D} {ys:List V} (n:Nat),ak K ρ H xs ys->ak K ρ H (xs.drop n) (ys.drop n)
 | [],_,n,r=>by erw[ak]at r;subst r;simp[ak]
 | x::xs,_,0,r=>r
 | x::xs,_,n+1,r=>by
  erw[ak]at r;obtain ⟨y,t,rfl,q,r⟩:=r;simpa using ak.drop n r
theorem ak.set:∀{xs:List Z.D} {ys:List V} (n:Nat) {d:Z.D} {v:V},ak K ρ H xs ys->ah K ρ H d v->ak K ρ H (xs.set n d) (ys.set n v)
 | [],_,n,_,_,r,_=>by erw[ak]at r;subst r;simp[ak]
 | x::xs,_,0,d,v,r,q'=>by
  erw[ak]at r;obtain ⟨y,t,rfl,q,r⟩:=r;erw[List.set_cons_zero,ak];exact ⟨v,t,rfl,q',r⟩
 | x::xs,_,n+1,d,v,r,q'=>by
  erw[ak]at r;obtain ⟨y,t,rfl,q,r⟩:=r;erw[List.set_cons_succ,ak];exact ⟨y,_,rfl,q,ak.set n r q'⟩
theorem ak.dropLast:∀{xs:List Z.D} {ys:List V},ak K ρ H xs ys->ak K ρ H xs.dropLast ys.dropLast:=λ{xs ys} r=>by
 rw[List.dropLast_eq_take,List.dropLast_eq_take,<-r.length];exact r.take _
theorem gS.mono (e:Ext K ρ H ρ' H')(hs:H' a=H a)(r:gS K ρ H o a):gS K ρ' H' o a:=by
 cases o with
 | lst xs=>
  obtain ⟨ys,q,r⟩:=r;exact ⟨ys,hs.trans q,ak.mono e _ _ r⟩
 | dct kvs=>
  obtain ⟨ys,q,q2,r,q3⟩:=r;exact ⟨ys,hs.trans q,q2,ak.mono e _ _ r,q3⟩
 | obj c fs=>
  obtain ⟨C,dx,fs',hc,q,q2,r⟩:=r;exact ⟨C,dx,fs',hc,hs.trans q,q2,ak.mono e _ _ r⟩
 | exc c=>
  obtain ⟨C,oe,hc,q,q2⟩:=r;exact ⟨C,oe,hc,hs.trans q,q2⟩
 | bU c i=>
  obtain ⟨C,oe,dx,od,hc,q,q1,q2⟩:=r;exact ⟨C,oe,dx,od,hc,hs.trans q,e.bq _ _ _ q1,q2⟩
theorem gS.some (r:gS K ρ H o a):∃u,H a=some u:=by
 cases o with
 | lst xs=>obtain ⟨ys,q,_⟩:=r;exact ⟨_,q⟩
 | dct kvs=>obtain ⟨ys,q,_⟩:=r;exact ⟨_,q⟩
 | obj c fs=>obtain ⟨C,dx,fs',hc,q,_⟩:=r;exact ⟨_,q⟩
 | exc c=>obtain ⟨C,oe,hc,q,_⟩:=r;exact ⟨_,q⟩
 | bU c i=>obtain ⟨C,oe,dx,od,hc,q,_⟩:=r;exact ⟨_,q⟩
theorem Rep.tracked (R:Rep K ρ h H){n:Nat}{a:Addr}(e:ρ[n]?=some a):∃u,H a=some u:=by
 have hn:n < h.length:=by rw[<-R.len];exact (List.getElem?_eq_some_iff.mp e).1
 obtain ⟨b,e1,r⟩:=R.at_ n h[n] (by simp[hn]);rw[e]at e1;cases e1;exact r.some
theorem Ext.fresh (hp:H p=none):Ext K ρ H ρ (upd H p o):=
 ⟨λ_ _ e=>e,λa xs e=>by rw[aB (bQ e hp)];exact e,λa ob u e=>by rw[aB (bQ e hp)];exact e⟩
theorem Ext.alloc (hp:H p=none):Ext K ρ H (ρ++[p]) (upd H p o):=
 ⟨λn a e=>by rw[getElem?_append_left (List.getElem?_eq_some_iff.mp e).1];exact e,λa xs e=>by rw[aB (bQ e hp)];exact e,λa ob u e=>by rw[aB (bQ e hp)];exact e⟩
theorem Rep.fresh (R:Rep K ρ h H)(hp:H p=none):Rep K ρ h (upd H p o):=
 ⟨R.len,R.nd,R.ext.trans (Ext.fresh hp),λn ob e=>by
  obtain ⟨a,e1,r⟩:=R.at_ n ob e;obtain ⟨u,hu⟩:=r.some;exact ⟨a,e1,gS.mono (Ext.fresh hp) (aB (bQ hu hp)) r⟩⟩
theorem Rep.alloc (R:Rep K ρ h H){p:Addr}{o:HO}{ob:Z.AO}(hp:H p=none)(r:gS K (ρ++[p]) (upd H p o) ob p):Rep K (ρ++[p]) (h++[ob]) (upd H p o):=by
 refine ⟨by simp[R.len],?_,R.ext.trans (Ext.alloc hp),λn ob' e=>?_⟩
 ·refine List.nodup_append.mpr ⟨R.nd,by simp,λa ha b hb=>?_⟩;obtain ⟨n,hn,e⟩:=List.getElem_of_mem ha;obtain ⟨u,hu⟩:=R.tracked (n:=n) (a:=a) (by rw[getElem?_eq_getElem hn,e]);rw[mem_singleton]at hb;subst hb;exact bQ hu hp
 ·by_cases hn:n < h.length
  ·rw[getElem?_append_left hn]at e;obtain ⟨a,e1,r1⟩:=R.at_ n ob' e;obtain ⟨u,hu⟩:=r1.some;exact ⟨a,(Ext.alloc (K:=K) (o:=o) hp).pre _ _ e1,gS.mono (Ext.alloc hp) (aB (bQ hu hp)) r1⟩
  ·have hl:n=h.length:=by
    have:=(List.getElem?_eq_some_iff.mp e).1;simp at this;lia
   subst hl;rw[getElem?_append_right (le_refl _)]at e;simp at e;subst e;exact ⟨p,by rw[<-R.len,getElem?_append_right (le_refl _)];simp,r⟩
theorem Ext.write (hu:H a=some u)(h1:∀xs,u≠.tup xs)(h2:∀ob w,u≠.bq ob w):Ext K ρ H ρ (upd H a o):=
 ⟨λ_ _ e=>e,λb xs e=>by rw[aB (C0 e hu λz=>h1 xs z.symm)];exact e,λb ob w e=>by rw[aB (C0 e hu λz=>h2 ob w z.symm)];exact e⟩
theorem Rep.write (R:Rep K ρ h H)(hn:ρ[n]?=some a)(hu:H a=some u)(h1:∀xs,u≠.tup xs)(h2:∀ob w,u≠.bq ob w)(r:gS K ρ (upd H a o) ob a):Rep K ρ (h.set n ob) (upd H a o):=by
 refine ⟨by simp[R.len],R.nd,R.ext.trans (Ext.write hu h1 h2),λm ob' e=>?_⟩;by_cases hm:m=n
 ·subst hm;rw[getElem?_set_self (by rw[<-R.len];exact (List.getElem?_eq_some_iff.mp hn).1)]at e;cases e;exact ⟨a,hn,r⟩
 ·rw[getElem?_set_ne (Ne.symm hm)]at e;obtain ⟨b,e1,r1⟩:=R.at_ m ob' e;refine ⟨b,e1,gS.mono (Ext.write hu h1 h2) (aB λz=>hm ?_) r1⟩;subst z;exact rA R.nd e1 hn
theorem bI.mono (e:Ext K ρ H ρ' H')(r:bI K ρ H σ τ):bI K ρ' H' σ τ:=
 ⟨r.1,λi d q=>let ⟨v,q1,q2⟩:=r.2 i d q;⟨v,q1,ah.mono e d v q2⟩⟩
theorem bI.set (r:bI K ρ H σ τ)(q:ah K ρ H d v):bI K ρ H (σ.set i (some d)) (τ.set i (some v)):=by
 refine ⟨by simp[r.1],λj e hj=>?_⟩;by_cases hij:i=j
 ·subst hij;have hl:i < σ.length:=by have:=(List.getElem?_eq_some_iff.mp hj).1;simpa using this
  rw[getElem?_set_self hl]at hj;cases hj;exact ⟨v,by rw[getElem?_set_self (by rw[<-r.1];exact hl)],q⟩
 ·rw[getElem?_set_ne hij]at hj;rw[getElem?_set_ne hij];exact r.2 j e hj
end
def Ip (K:Frag)(w:Z.Lo->Z.AH->Z.PV->Prop):TE:=λσ H Q=>∃ρ h τ Q',Rep K ρ h H/\bI K ρ H τ σ/\w τ h Q'/\
 ∀d h' ρ' H' v,Ext K ρ H ρ' H'->Rep K ρ' h' H'->ah K ρ' H' d v->Q' d h'->Q v H'
def GU (K:Frag)(w:Z.Lo->Z.AH->(List Z.D->Z.AH->Prop)->Prop):TA:=λσ H Q=>∃ρ h τ Q',Rep K ρ h H/\bI K ρ H τ σ/\w τ h Q'/\
 ∀ds h' ρ' H' vs,Ext K ρ H ρ' H'->Rep K ρ' h' H'->ak K ρ' H' ds vs->Q' ds h'->Q vs H'
def BJ (K:Frag)(w:Z.Lo->Z.AH->(Bool->Z.AH->Prop)->Prop):TT:=λσ H Q=>∃ρ h τ Q',Rep K ρ h H/\bI K ρ H τ σ/\w τ h Q'/\
 ∀c h' ρ' H',Ext K ρ H ρ' H'->Rep K ρ' h' H'->Q' c h'->Q c H'
structure z5 (K:Frag)(ρ:List Addr)(H:Hp)(N:Z.En)(D:Ends):Prop where
 nx:∀τ h' ρ' H' σ,Ext K ρ H ρ' H'->Rep K ρ' h' H'->bI K ρ' H' τ σ->N.nx τ h'->D.nx σ H'
 rt:∀d h' ρ' H' v,Ext K ρ H ρ' H'->Rep K ρ' h' H'->ah K ρ' H' d v->N.rt d h'->D.rt v H'
 bk:∀τ h' ρ' H' σ,Ext K ρ H ρ' H'->Rep K ρ' h' H'->bI K ρ' H' τ σ->N.bk τ h'->D.bk σ H'
 ct:∀τ h' ρ' H' σ,Ext K ρ H ρ' H'->Rep K ρ' h' H'->bI K ρ' H' τ σ->N.ct τ h'->D.ct σ H'
theorem z5.mono {K:Frag}{ρ aA:List Addr}{H H1:Hp}{N:Z.En}{D:Ends}(k:z5 K ρ H N D)(e:Ext K ρ H aA H1):z5 K aA H1 N D:=
 ⟨λτ h' ρ' H' σ e'=>k.nx τ h' ρ' H' σ (e.trans e'),λd h' ρ' H' v e'=>k.rt d h' ρ' H' v (e.trans e'),λτ h' ρ' H' σ e'=>k.bk τ h' ρ' H' σ (e.trans e'),λτ h' ρ' H' σ e'=>k.ct τ h' ρ' H' σ (e.trans e')⟩
def Vb (K:Frag)(w:Z.En->Z.Lo->Z.AH->Prop):TS:=λD σ H=>∃ρ h τ N,Rep K ρ h H/\bI K ρ H τ σ/\w N τ h/\z5 K ρ H N D
def rP (K:Frag)(sub:Nat->Nat->Bool)(p:Z.Prim)(vs:List V)(H:Hp)(Q:VK):Prop:=∃ρ h ds d h',Rep K ρ h H/\ak K ρ H ds vs/\Z.prim sub p ds h=some (d,h')/\
 ∀ρ' H' v,Ext K ρ H ρ' H'->Rep K ρ' h' H'->ah K ρ' H' d v->Q v H'
theorem dA (h:PE X e t)(w:∀σ H Q,t' σ H Q->t σ H Q):PE X e t':=λpins s σ H Q I q=>h pins s σ H Q I (w _ _ _ q)
theorem Iq (h:PT X e t)(w:∀σ H Q,t' σ H Q->t σ H Q):PT X e t':=λpins s σ H Q I q=>h pins s σ H Q I (w _ _ _ q)
theorem Vc (h:PA X e t)(w:∀σ H Q,t' σ H Q->t σ H Q):PA X e t':=λpos pins s σ H Q I q=>h pos pins s σ H Q I (w _ _ _ q)
theorem wm (h:PS X e t)(w:∀D σ H,t' D σ H->t D σ H):PS X e t':=λpins s σ H D I q=>h pins s σ H D I (w _ _ _ q)
theorem M9 (h:iw X e t)(w:∀D σ H,t' D σ H->t D σ H):iw X e t':=λpins s σ H D I q=>h pins s σ H D I (w _ _ _ q)
theorem oz (h:bu X f r)(w:∀x y H Q,r' x y H Q->r x y H Q):bu X f r':=λpins s σ H x y v u Q I rx ry q=>h pins s σ H x y v u Q I rx ry (w _ _ _ _ q)
theorem M_ (h:cR X f r)(w:∀xs H Q,r' xs H Q->r xs H Q):cR X f r':=λpins s σ H x v Q I rx q=>h pins s σ H x v Q I rx (w _ _ _ q)
theorem Nb {X:Cx}{id:String}{r r':V->List V->Hp->VK->Prop}(h:mU X id r)(w:∀x xs H Q,r' x xs H Q->r x xs H Q):mU X id r':=λpins s σ H x xs v us Q I rx ry q=>h pins s σ H x xs v us Q I rx ry (w _ _ _ _ q)
theorem Xh (h:oV X r)(w:∀x lo hi H Q,r' x lo hi H Q->r x lo hi H Q):oV X r':=by
 unfold oV at h ⊢;intros;apply h<;>first | assumption | (apply w;assumption)
section
variable {X:Cx}{sub:Nat->Nat->Bool}{Γ:Z.bS}{E:Z.PX}
abbrev LE (X:Cx)(sub:Nat->Nat->Bool)(Γ:Z.bS)(E:Z.PX)(e:Expr)(i:Z.Ex):Prop:=PE X e (Ip X.K (Z.aF sub Γ E i))
abbrev LT (X:Cx)(sub:Nat->Nat->Bool)(Γ:Z.bS)(E:Z.PX)(e:Expr)(i:Z.Tx):Prop:=PT X e (BJ X.K (Z.bR sub Γ E i))
abbrev LA (X:Cx)(sub:Nat->Nat->Bool)(Γ:Z.bS)(E:Z.PX)(e:List Expr)(i:Z.cV):Prop:=PA X e (GU X.K (Z.aW sub Γ E i))
abbrev LS (X:Cx)(sub:Nat->Nat->Bool)(Γ:Z.bS)(E:Z.PX)(e:Stmt)(i:Z.Sm):Prop:=PS X e (Vb X.K (Z.wpS sub Γ E i))
abbrev j4 (X:Cx)(sub:Nat->Nat->Bool)(Γ:Z.bS)(E:Z.PX)(e:List Stmt)(i:Z.ao):Prop:=iw X e (Vb X.K (Z.aZ sub Γ E i))
theorem xJ {K:Frag}{ρ:List Addr}{H:Hp}{a b:Z.D}{x y:V}(r1:ah K ρ H a x)(r2:ah K ρ H b y):ak K ρ H [a,b] [x,y]:=by
 erw[ak];exact ⟨x,_,rfl,r1,y,_,rfl,r2,rfl⟩
theorem Xi {K:Frag}{ρ:List Addr}{H:Hp}{a b c:Z.D}{x y z:V}(r1:ah K ρ H a x)(r2:ah K ρ H b y)(r3:ah K ρ H c z):ak K ρ H [a,b,c] [x,y,z]:=by
 erw[ak];exact ⟨x,_,rfl,r1,y,_,rfl,r2,z,_,rfl,r3,rfl⟩
theorem Nc (hN:X.N[i]?=some x)(hv:vZ X.env.scope x)(hd:bM x)(hcd:(x == ("__classdict__":Str))=false):LE X sub Γ E (.Name x pos) (.var i):=by
 refine dA (zS hN hv hd hcd) ?_;rintro σ H Q ⟨ρ,h,τ,Q',R,L,w,k⟩;erw[Z.aF]at w;cases q:τ[i]? with
 | none=>rw[q]at w;exact w.elim
 | some o=>
  cases o with
  | none=>rw[q]at w;exact w.elim
  | some d=>
   rw[q]at w;obtain ⟨v,e,r⟩:=L.2 i d q;exact ⟨v,e,k d h ρ H v .refl R r w⟩
theorem rC (he:PE X e (tC v))(r:∀ρ H,ah X.K ρ H d v):LE X sub Γ E e (.lit d):=by
 refine dA he ?_;rintro σ H Q ⟨ρ,h,τ,Q',R,L,w,k⟩;exact k d h ρ H v .refl R (r ρ H) w
theorem bA (ho:bu X (binaryOp op) (λx y=>rP X.K sub p [x,y]))(ha:LE X sub Γ E a a')(hb:LE X sub Γ E b b'):
  LE X sub Γ E (.BinOp a op b pos) (.prim p (.cons a' (.cons b' .nil))):=by
 refine dA (Rn ho ha hb) ?_;rintro σ H Q ⟨ρ,h,τ,Q',R,L,w,k⟩;erw[Z.aF,Z.aW]at w;refine ⟨ρ,h,τ,_,R,L,w,λd1 h1 aA H1 x e1 R1 r1 w1=>⟨aA,h1,τ,_,R1,L.mono e1,w1,λd2 h2 a_ H2 y e2 R2 r2 w2=>?_⟩⟩;cases q:Z.prim sub p [d1,d2] h2 with
 | none=>rw[q]at w2;exact w2.elim
 | some z=>
  rw[q]at w2;exact ⟨a_,h2,[d1,d2],z.1,z.2,R2,xJ (ah.mono e2 _ _ r1) r2,q,λρ' H' v e' R' r'=>k _ _ ρ' H' v (e1.trans (e2.trans e')) R' r' w2⟩
theorem kW (ho:By X (unaryOp op) (λx=>rP X.K sub p [x]))(ha:LE X sub Γ E a a'):
  LE X sub Γ E (.UnaryOp op a pos) (.prim p (.cons a' .nil)):=by
 refine dA (Ro ho ha) ?_;rintro σ H Q ⟨ρ,h,τ,Q',R,L,w,k⟩;erw[Z.aF,Z.aW]at w;refine ⟨ρ,h,τ,_,R,L,w,λd1 h1 aA H1 x e1 R1 r1 w1=>?_⟩;cases q:Z.prim sub p [d1] h1 with
 | none=>rw[q]at w1;exact w1.elim
 | some z=>
  rw[q]at w1;exact ⟨aA,h1,[d1],z.1,z.2,R1,.one r1,q,λρ' H' v e' R' r'=>k _ _ ρ' H' v (e1.trans e') R' r' w1⟩
theorem jc (ho:bu X (compareOp op) (λx y=>rP X.K sub p [x,y]))(ha:LE X sub Γ E a a')(hb:LE X sub Γ E b b')(hm:behindInMarks op b=false):
  LE X sub Γ E (.Compare a [op] [b] pos) (.prim p (.cons a' (.cons b' .nil))):=by
 refine dA (xF ho ha hb hm) ?_;rintro σ H Q ⟨ρ,h,τ,Q',R,L,w,k⟩;erw[Z.aF,Z.aW]at w;refine ⟨ρ,h,τ,_,R,L,w,λd1 h1 aA H1 x e1 R1 r1 w1=>⟨aA,h1,τ,_,R1,L.mono e1,w1,λd2 h2 a_ H2 y e2 R2 r2 w2=>?_⟩⟩;cases q:Z.prim sub p [d1,d2] h2 with
 | none=>rw[q]at w2;exact w2.elim
 | some z=>
  rw[q]at w2;exact ⟨a_,h2,[d1,d2],z.1,z.2,R2,xJ (ah.mono e2 _ _ r1) r2,q,λρ' H' v e' R' r'=>k _ _ ρ' H' v (e1.trans (e2.trans e')) R' r' w2⟩
theorem le_none (ho:bu X (compareOp op) (λx y H Q=>y=.non/\rP X.K sub p [x] H Q))(ha:LE X sub Γ E a a')(hm:behindInMarks op (.Constant .none j pos')=false):
  LE X sub Γ E (.Compare a [op] [.Constant .none j pos'] pos) (.prim p (.cons a' .nil)):=by
 refine dA (xF ho ha zT hm) ?_;rintro σ H Q ⟨ρ,h,τ,Q',R,L,w,k⟩;erw[Z.aF,Z.aW]at w;refine ⟨ρ,h,τ,_,R,L,w,λd1 h1 aA H1 x e1 R1 r1 w1=>?_⟩;cases q:Z.prim sub p [d1] h1 with
 | none=>rw[q]at w1;exact w1.elim
 | some z=>
  rw[q]at w1;exact ⟨rfl,aA,h1,[d1],z.1,z.2,R1,.one r1,q,λρ' H' v e' R' r'=>k _ _ ρ' H' v (e1.trans e') R' r' w1⟩
theorem mV {a b:Expr}{rest:List Expr}{a' b':Z.Ex}{pos:Pos}(ha:LE X sub Γ E a a')(hb:LE X sub Γ E (.BoolOp .And (b::rest) pos) b'):LE X sub Γ E (.BoolOp .And (a::b::rest) pos) (.mF a' b'):=by
 refine dA (Mp ha hb) ?_;rintro σ H Q ⟨ρ,h,τ,Q',R,L,w,k⟩;erw[Z.aF]at w;refine ⟨ρ,h,τ,_,R,L,w,λd1 h1 aA H1 x e1 R1 r1 w1=>?_⟩;cases d1 with
 | bl c=>
  erw[ah]at r1;cases c with
  | true=>exact ⟨true,r1,by rw[if_pos rfl];exact ⟨aA,h1,τ,_,R1,L.mono e1,w1,λd h' ρ' H' v e'=>k d h' ρ' H' v (e1.trans e')⟩⟩
  | false=>exact ⟨false,r1,by rw[if_neg (by decide)];exact k _ h1 aA H1 _ e1 R1 (by erw[ah]) w1⟩
 | _=>exact w1.elim
theorem rE (ha:LE X sub Γ E a a'):LE X sub Γ E (.BoolOp op [a] pos) a':=Ml ha
theorem wq (hc:LT X sub Γ E c c')(ha:LE X sub Γ E a a')(hb:LE X sub Γ E b b'):LE X sub Γ E (.IfExp c a b pos) (.ite c' a' b'):=by
 refine dA (Gz hc ha hb) ?_;rintro σ H Q ⟨ρ,h,τ,Q',R,L,w,k⟩;erw[Z.aF]at w;refine ⟨ρ,h,τ,_,R,L,w,λc h1 aA H1 e1 R1 w1=>?_⟩;cases c with
 | true=>rw[if_pos rfl]at w1 ⊢;exact ⟨aA,h1,τ,_,R1,L.mono e1,w1,λd h' ρ' H' v e'=>k d h' ρ' H' v (e1.trans e')⟩
 | false=>rw[if_neg (by decide)]at w1 ⊢;exact ⟨aA,h1,τ,_,R1,L.mono e1,w1,λd h' ρ' H' v e'=>k d h' ρ' H' v (e1.trans e')⟩
theorem GV (ho:bu X (compareOp op) (λx y=>rP X.K sub p [x,y]))(ho':bu X (compareOp op') (λx y=>rP X.K sub p' [x,y]))(ha:LE X sub Γ E a a')(hb:LE X sub Γ E b b')(hc:LE X sub Γ E c c')(hm:lastMarks [op,op'] [b,c]=false):
  LE X sub Γ E (.Compare a [op,op'] [b,c] pos) (.chain p p' a' b' c'):=by
 refine dA (GI ho ho' ha hb hc hm) ?_;rintro σ H Q ⟨ρ,h,τ,Q',R,L,w,k⟩;erw[Z.aF]at w;refine ⟨ρ,h,τ,_,R,L,w,λd1 h1 aA H1 x e1 R1 r1 w1=>⟨aA,h1,τ,_,R1,L.mono e1,w1,λd2 h2 a_ H2 y e2 R2 r2 w2=>?_⟩⟩;cases q:Z.prim sub p [d1,d2] h2 with
 | none=>rw[q]at w2;exact w2.elim
 | some z=>
  obtain ⟨z,h3⟩:=z;rw[q]at w2;refine ⟨a_,h2,[d1,d2],z,h3,R2,xJ (ah.mono e2 _ _ r1) r2,q,λgB H3 v e3 R3 r3=>?_⟩;cases z with
  | bl c=>
   erw[ah]at r3;refine ⟨c,r3,?_⟩;cases c with
   | false=>rw[if_neg (by decide)];exact k _ h3 gB H3 _ (e1.trans (e2.trans e3)) R3 (by erw[ah]) w2
   | true=>
    rw[if_pos rfl];refine ⟨gB,h3,τ,_,R3,L.mono (e1.trans (e2.trans e3)),w2,λd4 h4 YN H4 y4 e4 R4 r4 w4=>?_⟩;cases q':Z.prim sub p' [d2,d4] h4 with
    | none=>rw[q']at w4;exact w4.elim
    | some z=>
     rw[q']at w4;exact ⟨YN,h4,[d2,d4],z.1,z.2,R4,xJ (ah.mono (e3.trans e4) _ _ r2) r4,q',λρ' H' v e' R' r'=>k _ _ ρ' H' v (e1.trans (e2.trans (e3.trans (e4.trans e')))) R' r' w4⟩
  | _=>exact w2.elim
theorem cX:LA X sub Γ E [] .nil:=by
 refine Vc i_ ?_;rintro σ H Q ⟨ρ,h,τ,Q',R,L,w,k⟩;erw[Z.aW]at w;exact k [] h ρ H [] .refl R (by erw[ak]) w
theorem JR (he:LE X sub Γ E e e')(hes:LA X sub Γ E es es')(hs:dn X.env e es):LA X sub Γ E (e::es) (.cons e' es'):=by
 refine Vc (dw he hes hs) ?_;rintro σ H Q ⟨ρ,h,τ,Q',R,L,w,k⟩;erw[Z.aW]at w;refine ⟨ρ,h,τ,_,R,L,w,λd1 h1 aA H1 x e1 R1 r1 w1=>⟨aA,h1,τ,_,R1,L.mono e1,w1,λds h2 a_ H2 xs e2 R2 r2 w2=>?_⟩⟩;exact k _ h2 a_ H2 _ (e1.trans e2) R2 (by erw[ak];exact ⟨x,xs,rfl,ah.mono e2 _ _ r1,r2⟩) w2
theorem gC:Z.lim=sizeLine:=by rw[sizeLine_eq];rfl
theorem Nf:Z.prim sub .cA=Z.Gq:=rfl
theorem Ng:Z.prim sub .aR=Z.newL:=rfl
theorem cF (h:LA X sub Γ E es es'):LE X sub Γ E (.Tuple es k pos) (.prim .cA es'):=by
 refine dA (MO h) ?_;rintro σ H Q ⟨ρ,h,τ,Q',R,L,w,k⟩;erw[Z.aF]at w;refine ⟨ρ,h,τ,_,R,L,w,λds h1 aA H1 xs e1 R1 r1 w1=>?_⟩;erw[Nf,Z.Gq]at w1;by_cases hl:ds.length<=Z.lim
 ·rw[if_pos hl]at w1;refine ⟨by rw[<-r1.length,<-gC];exact hl,λp hp=>?_⟩;have e2:Ext X.K aA H1 aA (upd H1 p (.tup xs)):=Ext.fresh hp;exact k _ h1 aA _ _ (e1.trans e2) (R1.fresh hp) (by erw[ah];exact ⟨p,xs,rfl,.of aK,ak.mono e2 _ _ r1⟩) w1
 ·rw[if_neg hl]at w1;exact w1.elim
theorem eO {K:Frag}{ρ:List Addr}{h:Z.AH}{H:Hp}{ds:List Z.D}{vs:List V}{p:Addr}(R:Rep K ρ h H)(r:ak K ρ H ds vs)(hp:H p=none):
  Ext K ρ H (ρ++[p]) (upd H p (.lst vs))/\Rep K (ρ++[p]) (h++[.lst ds]) (upd H p (.lst vs))/\ah K (ρ++[p]) (upd H p (.lst vs)) (.ref h.length) (.ref p):=by
 have e:Ext K ρ H (ρ++[p]) (upd H p (.lst vs)):=Ext.alloc hp;exact ⟨e,R.alloc hp ⟨vs,aK,ak.mono e _ _ r⟩,by erw[ah];exact ⟨p,rfl,by rw[<-R.len,getElem?_append_right (le_refl _)];simp⟩⟩
theorem aJ {es:List Expr}{es':Z.cV}{pos:Pos}(h:LA X sub Γ E es es'):LE X sub Γ E (.List es pos) (.prim .aR es'):=by
 refine dA (MP h) ?_;rintro σ H Q ⟨ρ,h,τ,Q',R,L,w,k⟩;erw[Z.aF]at w;refine ⟨ρ,h,τ,_,R,L,w,λds h1 aA H1 xs e1 R1 r1 w1=>?_⟩;erw[Ng,Z.newL]at w1;by_cases hl:ds.length<=Z.lim
 ·rw[if_pos hl]at w1;refine ⟨by rw[<-r1.length,<-gC];exact hl,λp hp=>?_⟩;obtain ⟨e2,R2,r2⟩:=eO R1 r1 hp;exact k _ _ _ _ _ (e1.trans e2) R2 r2 w1
 ·rw[if_neg hl]at w1;exact w1.elim
theorem RG (ho:mS X (λx y=>rP X.K sub p [x,y]))(ha:LE X sub Γ E a a')(hb:LE X sub Γ E b b')(hs:mR b):
  LE X sub Γ E (.Subscript a b pos) (.prim p (.cons a' (.cons b' .nil))):=by
 refine dA (Ii ho ha hb hs) ?_;rintro σ H Q ⟨ρ,h,τ,Q',R,L,w,k⟩;erw[Z.aF,Z.aW]at w;refine ⟨ρ,h,τ,_,R,L,w,λd1 h1 aA H1 x e1 R1 r1 w1=>⟨aA,h1,τ,_,R1,L.mono e1,w1,λd2 h2 a_ H2 y e2 R2 r2 w2=>?_⟩⟩;cases q:Z.prim sub p [d1,d2] h2 with
 | none=>rw[q]at w2;exact w2.elim
 | some z=>
  rw[q]at w2;exact ⟨a_,h2,[d1,d2],z.1,z.2,R2,xJ (ah.mono e2 _ _ r1) r2,q,λρ' H' v e' R' r'=>k _ _ ρ' H' v (e1.trans (e2.trans e')) R' r' w2⟩
theorem GW {x:Str}{id:String}{e:Expr}{es:List Expr}{es':Z.cV}{p:Z.Prim}{q pos:Pos}(hc:cR X (.builtin id) (rP X.K sub p))(hg:Gl X x)(hm:X.mg x=none)(hv:bootBuiltins x=some (.builtin id))(ha:LA X sub Γ E (e::es) es')(hn:x≠"__name__")(hdb:bM x)(he:dn X.env e es)(hpl:iy X.env es pos):
  LE X sub Γ E (.Call (.Name x q) (e::es) [] pos) (.prim p es'):=by
 refine dA (oh hc hg hm hv ha hn hdb he hpl) ?_;rintro σ H Q ⟨ρ,h,τ,Q',R,L,w,k⟩;erw[Z.aF]at w;refine ⟨ρ,h,τ,_,R,L,w,λds h1 aA H1 xs e1 R1 r1 w1=>?_⟩;cases q:Z.prim sub p ds h1 with
 | none=>rw[q]at w1;exact w1.elim
 | some z=>
  rw[q]at w1;exact ⟨aA,h1,ds,z.1,z.2,R1,r1,q,λρ' H' v e' R' r'=>k _ _ ρ' H' v (e1.trans e') R' r' w1⟩
def wu:Z.MK->String
 | .list=>"list" | .str=>"str" | .dict=>"dict" | .int=>"int" | .tuple=>"tuple"
theorem Ir {K:Frag}{ρ:List Addr}{h:Z.AH}{H:Hp}{m:Z.MK}{d:Z.D}{v:V}(hm:m≠.dict)(hm2:m≠.tuple)(R:Rep K ρ h H)(r:ah K ρ H d v)(t:Z.tyB h m d=true):Ij K (wu m) v H:=by
 cases m<;>cases d<;>erw[Z.tyB]at t<;>try cases t
 ·erw[ah]at r;obtain ⟨a,ys,rfl,q,_⟩:=r;exact .inl ⟨rfl,ys,q.rB⟩
 ·rename_i n;erw[ah]at r;obtain ⟨a,rfl,q⟩:=r;cases e:h[n]? with
  | none=>rw[e]at t;cases t
  | some o=>
   rw[e]at t;cases o with
   | lst xs=>
    obtain ⟨b,e1,ys,e2,_⟩:=R.at_ n _ e;rw[q]at e1;cases e1;exact .inl ⟨rfl,ys,.of e2⟩
   | _=>cases t
 ·erw[ah]at r;obtain ⟨rfl,_⟩:=r;rfl
 ·exact absurd rfl hm
 ·erw[ah]at r;subst r;rfl
 ·exact absurd rfl hm2
theorem Nh {o e:Expr}{es:List Expr}{o':Z.Ex}{es':Z.cV}{m:Z.MK}{p:Z.Prim}{name:Str}{apos cpos:Pos}{id:String}(hmk:m≠.dict)(hmt:m≠.tuple)(pa:PlainAttrs (wu m))(slot:Slot (wu m) name id)(hty:typeOf (.builtin id)=pure (.type "method_descriptor"))(hm:mU X id (λx xs=>rP X.K sub p (x::xs)))(ho:LE X sub Γ E o o')(ha:LA X sub Γ E (e::es) es')(hbase:attributeBase o name X.env (eval o X.env)=eval o X.env)(hfew:((backTo cpos (starEach (e::es) X.env)).all (λx=>!x.1) && (backToKw cpos (keywordEach [] X.env)).all (λx=>x.1.isSome)
   && decide ((e::es).length+([]:List Keyword).length+(if ([]:List Keyword).isEmpty then 0 else 1) < 30))=true) (hline:(apos.endLine == cpos.line)=true) (hs:dn X.env e es) (hplain:iy X.env es cpos):
  LE X sub Γ E (.Call (.Attribute o name apos) (e::es) [] cpos) (.cW m p o' es'):=by
 refine dA (RA pa slot hty hm ho ha hbase hfew hline hs hplain) ?_;rintro σ H Q ⟨ρ,h,τ,Q',R,L,w,k⟩;erw[Z.aF]at w;refine ⟨ρ,h,τ,_,R,L,w,λd1 h1 aA H1 x e1 R1 r1 w1=>⟨Ir hmk hmt R1 r1 w1.1,aA,h1,τ,_,R1,L.mono e1,w1.2,λds h2 a_ H2 xs e2 R2 r2 w2=>?_⟩⟩;cases q:Z.prim sub p (d1::ds) h2 with
 | none=>rw[q]at w2;exact w2.elim
 | some z=>
  rw[q]at w2;exact ⟨a_,h2,d1::ds,z.1,z.2,R2,by erw[ak];exact ⟨x,xs,rfl,ah.mono e2 _ _ r1,r2⟩,q,λρ' H' v e' R' r'=>k _ _ ρ' H' v (e1.trans (e2.trans e')) R' r' w2⟩
theorem JS {o:Expr}{o':Z.Ex}{m:Z.MK}{p:Z.Prim}{name:Str}{apos cpos:Pos}{id:String}(hmk:m≠.dict)(hmt:m≠.tuple)(pa:PlainAttrs (wu m))(slot:Slot (wu m) name id)(hty:typeOf (.builtin id)=pure (.type "method_descriptor"))(hm:mU X id (λx xs=>rP X.K sub p (x::xs)))(ho:LE X sub Γ E o o')(hbase:attributeBase o name X.env (eval o X.env)=eval o X.env)(hline:(apos.endLine == cpos.line)=true):
  LE X sub Γ E (.Call (.Attribute o name apos) [] [] cpos) (.cW m p o' .nil):=by
 refine dA (M0 pa slot hty hm ho hbase hline) ?_;rintro σ H Q ⟨ρ,h,τ,Q',R,L,w,k⟩;erw[Z.aF,Z.aW]at w;refine ⟨ρ,h,τ,_,R,L,w,λd1 h1 aA H1 x e1 R1 r1 w1=>⟨Ir hmk hmt R1 r1 w1.1,?_⟩⟩;obtain ⟨_,w2⟩:=w1;cases q:Z.prim sub p [d1] h1 with
 | none=>rw[q]at w2;exact w2.elim
 | some z=>
  rw[q]at w2;exact ⟨aA,h1,[d1],z.1,z.2,R1,.one r1,q,λρ' H' v e' R' r'=>k _ _ ρ' H' v (e1.trans e') R' r' w2⟩
theorem Ni {K:Frag}{ρ:List Addr}{h:Z.AH}{H:Hp}{d:Z.D}{v:V}{c:Bool}(R:Rep K ρ h H)(r:ah K ρ H d v)(t:Z.truthy h d=some c):GJ K v H c:=by
 cases d with
 | non=>erw[ah]at r;subst r;erw[Z.truthy]at t;cases t;rfl
 | bl b=>erw[ah]at r;subst r;erw[Z.truthy]at t;cases t;rfl
 | int i=>erw[ah]at r;subst r;erw[Z.truthy]at t;cases t;rfl
 | str s=>
  erw[ah]at r;obtain ⟨rfl,hl⟩:=r;erw[Z.truthy]at t;cases t;refine ⟨by rw[<-gC];exact hl,?_⟩;show (!s.isEmpty)=(((⟨s.toArray⟩:Str).length:Int) != 0);cases s with
  | nil=>rfl
  | cons a b=>
   show true=_;symm;rw[bne_iff_ne];show ((a::b).toArray.size:Int)≠0;simp
   lia
 | tup xs=>
  erw[ah]at r;obtain ⟨a,ys,rfl,q,rs⟩:=r;erw[Z.truthy]at t;cases t;refine .inr (.inl ⟨ys,q,?_⟩);have:=rs.length;cases xs<;>cases ys<;>simp at this ⊢
 | bV xs=>
  erw[ah]at r;obtain ⟨a,ys,rfl,q,rs⟩:=r;erw[Z.truthy]at t;cases t;refine .inl ⟨ys,q.rB,?_⟩;have:=rs.length;cases xs<;>cases ys<;>simp at this ⊢
 | ref n=>
  erw[ah]at r;obtain ⟨a,rfl,q⟩:=r;erw[Z.truthy]at t;cases e:h[n]? with
  | none=>rw[e]at t;cases t
  | some o=>
   rw[e]at t;obtain ⟨b,e1,ro⟩:=R.at_ n _ e;rw[q]at e1;cases e1;cases o with
   | lst xs=>
    obtain ⟨ys,e2,rs⟩:=ro;cases t;refine .inl ⟨ys,.of e2,?_⟩;have:=rs.length;cases xs<;>cases ys<;>simp at this ⊢
   | dct kvs=>
    obtain ⟨ys,e2,ek,rs,_⟩:=ro;cases t;refine .inr (.inr ⟨ys,e2,?_⟩);have:=rs.length;rw[length_map,length_map]at this;cases kvs<;>cases ys<;>simp at this ⊢
   | obj _ _=>cases t
   | exc _=>cases t
   | bU _ _=>cases t
theorem Nj (ha:LE X sub Γ E a a')(he:∀whole,isTrue a X.env whole=(do let v <-whole;standAt a.pos;holding [v] (truthy v))):LT X sub Γ E a (.yC a'):=by
 refine Iq (GK ha he) ?_;rintro σ H Q ⟨ρ,h,τ,Q',R,L,w,k⟩;erw[Z.bR]at w;refine ⟨ρ,h,τ,_,R,L,w,λd1 h1 aA H1 x e1 R1 r1 w1=>?_⟩;cases q:Z.truthy h1 d1 with
 | none=>rw[q]at w1;exact w1.elim
 | some c=>
  rw[q]at w1;exact ⟨c,Ni R1 r1 q,k c h1 aA H1 e1 R1 w1⟩
theorem bt (hp:∀ds h d h',Z.prim sub p ds h=some (d,h')->∃c,d=.bl c)(ho:bu X (compareOp op) (λx y=>rP X.K sub p [x,y]))(ha:LE X sub Γ E a a')(hb:LE X sub Γ E b b')(hm:behindInMarks op b=false):
  LT X sub Γ E (.Compare a [op] [b] pos) (.yC (.prim p (.cons a' (.cons b' .nil)))):=by
 refine Iq (BA ho ha hb hm) ?_;rintro σ H Q ⟨ρ,h,τ,Q',R,L,w,k⟩;erw[Z.bR,Z.aF,Z.aW]at w;refine ⟨ρ,h,τ,_,R,L,w,λd1 h1 aA H1 x e1 R1 r1 w1=>⟨aA,h1,τ,_,R1,L.mono e1,w1,λd2 h2 a_ H2 y e2 R2 r2 w2=>?_⟩⟩;cases q:Z.prim sub p [d1,d2] h2 with
 | none=>rw[q]at w2;exact w2.elim
 | some z=>
  obtain ⟨z,h3⟩:=z;obtain ⟨c,rfl⟩:=hp _ _ _ _ q;rw[q]at w2;refine ⟨a_,h2,[d1,d2],.bl c,h3,R2,xJ (ah.mono e2 _ _ r1) r2,q,λρ' H' v e' R' r'=>?_⟩;erw[ah]at r';exact ⟨c,r',k _ h3 ρ' H' (e1.trans (e2.trans e')) R' w2⟩
theorem gL (hp:∀ds h d h',Z.prim sub p ds h=some (d,h')->∃c,d=.bl c)(ho:bu X (compareOp op) (λx y H Q=>y=.non/\rP X.K sub p [x] H Q))(ha:LE X sub Γ E a a')(hm:behindInMarks op (.Constant .none j pos')=false):
  LT X sub Γ E (.Compare a [op] [.Constant .none j pos'] pos) (.yC (.prim p (.cons a' .nil))):=by
 refine Iq (BA ho ha zT hm) ?_;rintro σ H Q ⟨ρ,h,τ,Q',R,L,w,k⟩;erw[Z.bR,Z.aF,Z.aW]at w;refine ⟨ρ,h,τ,_,R,L,w,λd1 h1 aA H1 x e1 R1 r1 w1=>?_⟩;cases q:Z.prim sub p [d1] h1 with
 | none=>rw[q]at w1;exact w1.elim
 | some z=>
  obtain ⟨z,h3⟩:=z;obtain ⟨c,rfl⟩:=hp _ _ _ _ q;rw[q]at w1;refine ⟨rfl,aA,h1,[d1],.bl c,h3,R1,.one r1,q,λρ' H' v e' R' r'=>?_⟩;erw[ah]at r';exact ⟨c,r',k _ h3 ρ' H' (e1.trans e') R' w1⟩
theorem j5 (ha:LT X sub Γ E a a'):LT X sub Γ E (.UnaryOp .Not a pos) (.not a'):=by
 refine Iq (Mj ha) ?_;rintro σ H Q ⟨ρ,h,τ,Q',R,L,w,k⟩;erw[Z.bR]at w;exact ⟨ρ,h,τ,_,R,L,w,λc h1 aA H1 e1 R1 w1=>k _ h1 aA H1 e1 R1 w1⟩
abbrev LW (X:Cx)(sub:Nat->Nat->Bool)(Γ:Z.bS)(E:Z.PX)(e:Expr)(i:Z.Tx):Prop:=PW X e (BJ X.K (Z.bR sub Γ E i))
theorem Vd (h:PW X e t)(w:∀σ H Q,t' σ H Q->t σ H Q):PW X e t':=λwh pins s σ H Q I q=>h wh pins s σ H Q I (w _ _ _ q)
theorem mW (ha:LT X sub Γ E a a'):LW X sub Γ E (.BoolOp .And [a] pos) a':=pw_and1 ha
theorem gU (ha:LT X sub Γ E a a'):LW X sub Γ E (.BoolOp .Or [a] pos) a':=pw_or1 ha
theorem rF {a b:Expr}{rest:List Expr}{a' b':Z.Tx}{pos:Pos}(ha:LT X sub Γ E a a')(hb:LW X sub Γ E (.BoolOp .And (b::rest) pos) b'):LW X sub Γ E (.BoolOp .And (a::b::rest) pos) (.and a' b'):=by
 refine Vd (pw_and ha hb) ?_;rintro σ H Q ⟨ρ,h,τ,Q',R,L,w,k⟩;erw[Z.bR]at w;refine ⟨ρ,h,τ,_,R,L,w,λc h1 aA H1 e1 R1 w1=>?_⟩;cases c with
 | true=>rw[if_pos rfl]at w1 ⊢;exact ⟨aA,h1,τ,_,R1,L.mono e1,w1,λd h' ρ' H' e'=>k d h' ρ' H' (e1.trans e')⟩
 | false=>rw[if_neg (by decide)]at w1 ⊢;exact k _ h1 aA H1 e1 R1 w1
theorem gV {a b:Expr}{rest:List Expr}{a' b':Z.Tx}{pos:Pos}(ha:LT X sub Γ E a a')(hb:LW X sub Γ E (.BoolOp .Or (b::rest) pos) b'):LW X sub Γ E (.BoolOp .Or (a::b::rest) pos) (.or a' b'):=by
 refine Vd (pw_or ha hb) ?_;rintro σ H Q ⟨ρ,h,τ,Q',R,L,w,k⟩;erw[Z.bR]at w;refine ⟨ρ,h,τ,_,R,L,w,λc h1 aA H1 e1 R1 w1=>?_⟩;cases c with
 | true=>rw[if_pos rfl]at w1 ⊢;exact k _ h1 aA H1 e1 R1 w1
 | false=>rw[if_neg (by decide)]at w1 ⊢;exact ⟨aA,h1,τ,_,R1,L.mono e1,w1,λd h' ρ' H' e'=>k d h' ρ' H' (e1.trans e')⟩
theorem aj:j4 X sub Γ E [] .nil:=by
 refine M9 JA ?_;rintro D σ H ⟨ρ,h,τ,N,R,L,w,k⟩;erw[Z.aZ]at w;exact k.nx τ h ρ H σ .refl R L w
theorem GX (h1:LS X sub Γ E s s')(h2:j4 X sub Γ E ss ss'):j4 X sub Γ E (s::ss) (.cons s' ss'):=by
 refine M9 (GA h1 h2) ?_;rintro D σ H ⟨ρ,h,τ,N,R,L,w,k⟩;erw[Z.aZ]at w;refine ⟨ρ,h,τ,_,R,L,w,⟨λJU h1 aA H1 σ1 e1 R1 L1 w1=>⟨aA,h1,JU,N,R1,L1,w1,k.mono e1⟩,k.rt,k.bk,k.ct⟩⟩
theorem JV (he:LE X sub Γ E e e')(hs:swapsWith e none pos.line X.env=pure false):LS X sub Γ E (.Expr e pos) (.expr e'):=by
 refine wm (JC he hs) ?_;rintro D σ H ⟨ρ,h,τ,N,R,L,w,k⟩;erw[Z.wpS]at w;exact ⟨ρ,h,τ,_,R,L,w,λd h1 aA H1 v e1 R1 r1 w1=>k.nx τ h1 aA H1 σ e1 R1 (L.mono e1) w1⟩
theorem aG (he:LE X sub Γ E e e'):LS X sub Γ E (.Return (some e) pos) (.ret e'):=by
 refine wm (Mr he) ?_;rintro D σ H ⟨ρ,h,τ,N,R,L,w,k⟩;erw[Z.wpS]at w;exact ⟨ρ,h,τ,_,R,L,w,λd h1 aA H1 v e1 R1 r1 w1=>k.rt d h1 aA H1 v e1 R1 r1 w1⟩
theorem Nk (hN:X.N.Nodup)(hi:X.N[i]?=some x)(hx:Loc X.env.scope x)(he:LE X sub Γ E e e')(hs:swapsWith e (some (.Name x pos')) pos.line X.env=pure false)(hf:X.fn x=true\/X.env.scope.names.lookup x=some .local):LS X sub Γ E (.Assign [.Name x pos'] e pos) (.asg i e'):=by
 refine wm (Mx hN hi hx he hs hf) ?_;rintro D σ H ⟨ρ,h,τ,N,R,L,w,k⟩;erw[Z.wpS]at w;exact ⟨ρ,h,τ,_,R,L,w,λd h1 aA H1 v e1 R1 r1 w1=>k.nx _ h1 aA H1 _ e1 R1 ((L.mono e1).set r1) w1⟩
theorem aO (hc:LT X sub Γ E c c')(ha:j4 X sub Γ E a a')(hb:j4 X sub Γ E b b'):LS X sub Γ E (.If c a b pos) (.bC c' a' b'):=by
 refine wm (Rj hc ha hb) ?_;rintro D σ H ⟨ρ,h,τ,N,R,L,w,k⟩;erw[Z.wpS]at w;refine ⟨ρ,h,τ,_,R,L,w,λc h1 aA H1 e1 R1 w1=>?_⟩;cases c with
 | true=>rw[if_pos rfl]at w1 ⊢;exact ⟨aA,h1,τ,N,R1,L.mono e1,w1,k.mono e1⟩
 | false=>rw[if_neg (by decide)]at w1 ⊢;exact ⟨aA,h1,τ,N,R1,L.mono e1,w1,k.mono e1⟩
theorem vH (hp:PassesOwn (model X.prog X.w) X.A X.env X.xe)(hc:LT X sub Γ E c c')(hb:j4 X sub Γ E body b'):LS X sub Γ E (.While c body [] pos) (.qR c' b'):=by
 refine wm (GB hp hc hb) ?_;rintro D σ H ⟨ρ,h,τ,N,R,L,w,k⟩;erw[Z.wpS]at w;obtain ⟨W,⟨m,w0⟩,turn⟩:=w;refine ⟨λm σ' H'=>∃ρ' h' gW,Ext X.K ρ H ρ' H'/\Rep X.K ρ' h' H'/\bI X.K ρ' H' gW σ'/\W m gW h',⟨m,ρ,h,τ,.refl,R,L,w0⟩,?_⟩;rintro m σ1 H1 ⟨aA,h1,JU,e1,R1,L1,w1⟩;refine ⟨aA,h1,JU,_,R1,L1,turn m JU h1 w1,λc h2 a_ H2 e2 R2 w2=>?_⟩;cases c with
 | false=>rw[if_neg (by decide)]at w2 ⊢;exact k.nx JU h2 a_ H2 σ1 (e1.trans e2) R2 (L1.mono e2) w2
 | true=>
  rw[if_pos rfl]at w2 ⊢;obtain ⟨Nn,hN,w2⟩:=w2;refine ⟨λσ' H'=>∃m',m' < m/\∃ρ' h' gW,Ext X.K ρ H ρ' H'/\Rep X.K ρ' h' H'/\bI X.K ρ' H' gW σ'/\W m' gW h',λσ' H' q=>q,a_,h2,JU,_,R2,L1.mono e2,w2,⟨?_,?_,?_,?_⟩⟩
  ·intro z6 h3 gB H3 σ3 e3 R3 L3 w3;obtain ⟨m',hm,w3⟩:=hN _ _ w3;exact ⟨m',hm,gB,h3,z6,e1.trans (e2.trans e3),R3,L3,w3⟩
  ·intro d h3 gB H3 v e3 R3 r3 w3;exact k.rt d h3 gB H3 v (e1.trans (e2.trans e3)) R3 r3 w3
  ·intro z6 h3 gB H3 σ3 e3 R3 L3 w3;exact k.nx z6 h3 gB H3 σ3 (e1.trans (e2.trans e3)) R3 L3 w3
  ·intro z6 h3 gB H3 σ3 e3 R3 L3 w3;obtain ⟨m',hm,w3⟩:=hN _ _ w3;exact ⟨m',hm,gB,h3,z6,e1.trans (e2.trans e3),R3,L3,w3⟩
def vI (K:Frag)(ρ0:List Addr)(H0:Hp)(J:Z.It)(J':L2.It):Prop:=∀(i:Nat) (ρ:List Addr) (h:Z.AH) (H:Hp),Ext K ρ0 H0 ρ H->Rep K ρ h H->
 match J i h with
 | some (some d)=>J'.go i H/\∀x H',J'.El i H x H'->Ext K ρ H ρ H'/\Rep K ρ h H'/\ah K ρ H' d x
 | some none=>J'.stop i H
 | none=>True
theorem iB {K:Frag}{ρ:List Addr}{h:Z.AH}{H H':Hp}{d:Z.D}{x:V}(R:Rep K ρ h H)(e:H'=H)(r:ah K ρ H d x):Ext K ρ H ρ H'/\Rep K ρ h H'/\ah K ρ H' d x:=by
 subst e;exact ⟨.refl,R,r⟩
def Ve (K:Frag)(kd:Z.IK)(w:Z.Lo->Z.AH->(List Z.D->Z.AH->Prop)->Prop):TI:=λσ H R=>∃ρ h τ Q',Rep K ρ h H/\bI K ρ H τ σ/\w τ h Q'/\
 ∀ds h' ρ' H' vs,Ext K ρ H ρ' H'->Rep K ρ' h' H'->ak K ρ' H' ds vs->Q' ds h'->∃J,Z.bz kd ds h'=some J/\∀J',vI K ρ' H' J J'->R J' H'
abbrev LI (X:Cx)(sub:Nat->Nat->Bool)(Γ:Z.bS)(E:Z.PX)(tg iter:Expr)(kd:Z.IK)(es:Z.cV):Prop:=PI X tg iter (Ve X.K kd (Z.aW sub Γ E es))
theorem Nm (h:PI X tg iter t)(w:∀σ H R,t' σ H R->t σ H R):PI X tg iter t':=λpins s σ H R I q=>h pins s σ H R I (w _ _ _ q)
theorem Np (hl:PE X l tl):PI X tg l (λσ H R=>tl σ H λx H1=>∃a,x=.ref a/\(((∃xs,eN X.K H1 a xs)/\R (Ic X.K a) H1)\/((∃xs,cZ X.K H1 a xs)/\R (MB X.K a) H1))):=by
 intro pins s σ H R I h;refine aS (hl pins s σ H _ I h) λv s1 ⟨x,H1,I1,r1,q1⟩=>?_;obtain ⟨a,e,⟨⟨xs,hq⟩,q⟩ | ⟨⟨xs,hq⟩,q⟩⟩:=q1
 ·subst e;cases r1;obtain ⟨its,rv,p,hz⟩:=I1.list hq;refine wpAny_pyIter_list p.isList ?_;refine ⟨s1.heap.objs.size,[s1.heap.objs.size],_,_,H1,rfl,I1.kept (t':=s1.toks) λb o e=>get?_push_of_some _ e,Eo a _,⟨_,get?_push_size _ rfl,rfl,rfl⟩,λb hb=>?_,q⟩;have e:b=s1.heap.objs.size:=by simpa using hb
  subst e;exact I1.vB (le_refl _) (I1.hok.fresh (le_refl _))
 ·subst e;cases r1;obtain ⟨its,rv,p,hz⟩:=I1.tuple hq;refine wpAny_pyIter_tuple (show s1.heap.IsTuple a its.toArray from p) ?_;refine ⟨s1.heap.objs.size,[s1.heap.objs.size],_,_,H1,rfl,I1.kept (t':=s1.toks) λb o e=>get?_push_of_some _ e,C1 a _,⟨_,get?_push_size _ rfl,rfl,rfl⟩,λb hb=>?_,q⟩;have e:b=s1.heap.objs.size:=by simpa using hb
  subst e;exact I1.vB (le_refl _) (I1.hok.fresh (le_refl _))
theorem EI {K:Frag}{ρ:List Addr}{H:Hp}{n:Nat}{a:Addr}(hn:ρ[n]?=some a):vI K ρ H (Z.dR n) (Ic K a):=by
 intro i aA h1 H1 e1 R1;have hn1:=e1.pre _ _ hn;unfold Z.dR;cases e:h1[n]? with
 | none=>trivial
 | some o=>
  cases o with
  | lst xs=>
   obtain ⟨b,eb,ys,e2,rs⟩:=R1.at_ n _ e;rw[hn1]at eb;cases eb;dsimp only;cases q:xs[i]? with
   | none=>
    refine ⟨ys,.of e2,?_⟩;rw[<-rs.length];exact List.getElem?_eq_none_iff.mp q
   | some d=>
    obtain ⟨y,q1,q2⟩:=rs.get q;refine ⟨⟨ys,y,.of e2,q1⟩,λx H' hy=>?_⟩;obtain ⟨eH,hy⟩:=hy;have:=hy ys (.of e2);rw[q1]at this;cases this;exact iB R1 eH q2
  | _=>trivial
theorem JW {K:Frag}{ρ:List Addr}{H:Hp}{a:Addr}{xs:List Z.D}{ys:List V}(q:u_ K H a ys)(r:ak K ρ H xs ys):vI K ρ H (Z.jY xs) (Ic K a):=by
 intro i aA h1 H1 e1 R1;have q':=(e1.Va q).rB;have r':=ak.mono e1 _ _ r;unfold Z.jY;cases e:xs[i]? with
 | none=>exact ⟨ys,q',by rw[<-r.length];exact List.getElem?_eq_none_iff.mp e⟩
 | some d=>
  obtain ⟨y,q1,q2⟩:=r'.get e;refine ⟨⟨ys,y,q',q1⟩,λx H' hy=>?_⟩;have:=hy.2 ys q';rw[q1]at this;cases this;exact iB R1 hy.1 q2
theorem GY {K:Frag}{ρ:List Addr}{H:Hp}{a:Addr}{xs:List Z.D}{ys:List V}(q:cZ K H a ys)(r:ak K ρ H xs ys):vI K ρ H (Z.jY xs) (MB K a):=by
 intro i aA h1 H1 e1 R1;have q':=e1.U_ q;have r':=ak.mono e1 _ _ r;unfold Z.jY;cases e:xs[i]? with
 | none=>exact ⟨ys,q',by rw[<-r.length];exact List.getElem?_eq_none_iff.mp e⟩
 | some d=>
  obtain ⟨y,q1,q2⟩:=r'.get e;refine ⟨⟨ys,y,q',q1⟩,λx H' hy=>?_⟩;have:=hy.2 ys q';rw[q1]at this;cases this;exact iB R1 hy.1 q2
theorem GZ {K:Frag}{ρ:List Addr}{H:Hp}{lo:Int}{n:Nat}:vI K ρ H (Z.iL lo n) (Ie lo n):=by
 intro i aA h1 H1 e1 R1;unfold Z.iL;by_cases hi:i < n
 ·rw[if_pos hi];refine ⟨hi,λx H' hy=>iB R1 hy.1 ?_⟩;erw[ah];exact hy.2
 ·rw[if_neg hi];exact le_of_not_lt hi
theorem rG (hl:LE X sub Γ E l e'):LI X sub Γ E tg l .val (.cons e' .nil):=by
 refine Nm (Np hl) ?_;rintro σ H Rr ⟨ρ,h,τ,Q',R,L,w,k⟩;erw[Z.aW]at w;refine ⟨ρ,h,τ,_,R,L,w,λd h1 aA H1 x e1 R1 r1 w1=>?_⟩;obtain ⟨J,eJ,hk⟩:=k [d] h1 aA H1 [x] e1 R1 (.one r1) w1;cases d with
 | str s=>cases eJ
 | tup xs=>
  cases eJ;erw[ah]at r1;obtain ⟨a,ys,rfl,q,rs⟩:=r1;exact ⟨a,rfl,.inr ⟨⟨ys,q⟩,hk _ (GY q rs)⟩⟩
 | bV xs=>
  cases eJ;erw[ah]at r1;obtain ⟨a,ys,rfl,q,rs⟩:=r1;exact ⟨a,rfl,.inl ⟨⟨ys,q.rB⟩,hk _ (JW q rs)⟩⟩
 | ref n=>
  erw[ah]at r1;obtain ⟨a,rfl,q⟩:=r1;erw[Z.bz,Z.iY,Z.iu,Z.iZ,Z.i9,Z.gR]at eJ;cases e:h1[n]? with
  | none=>rw[e]at eJ;cases eJ
  | some o=>
   rw[e]at eJ;cases o with
   | lst xs=>
    cases eJ;obtain ⟨b,eb,ys,e2,rs⟩:=R1.at_ n _ e;rw[q]at eb;cases eb;exact ⟨a,rfl,.inl ⟨⟨ys,.of e2⟩,hk _ (EI q)⟩⟩
   | _=>cases eJ
 | non=>cases eJ
 | bl _=>cases eJ
 | int _=>cases eJ
theorem z7 (h:Z.okR i=true):-(2 ^ 62)<=i/\i < 2 ^ 62:=by have:=Z.mK.mp h;lia
theorem cS (hg:Gl X "range")(hm:X.mg "range"=none)(ha:LA X sub Γ E [a] (.cons a' .nil))(hs:starEach [a] X.env=[(false,eval a X.env)]):LI X sub Γ E tg (.Call (.Name "range" p) [a] [] pos) .rng (.cons a' .nil):=by
 refine Nm (Ep hg hm ha hs) ?_;rintro σ H Rr ⟨ρ,h,τ,Q',R,L,w,k⟩;refine ⟨ρ,h,τ,λds h1=>match ds with | [d]=>Q' [d] h1 | _=>False,R,L,(by simpa only[Z.aW] using w),λds h1 aA H1 vs e1 R1 r1 w1=>?_⟩
 match ds,w1,r1 with
 | [d],w1,r1=>
  obtain ⟨J,eJ,hk⟩:=k [d] h1 aA H1 vs e1 R1 r1 w1;erw[ak]at r1;obtain ⟨v,_,rfl,r1,rfl⟩:=r1;cases d with
  | int i=>
   erw[Z.bz,Z.iY,Z.iu,Z.iZ,Z.i9,Z.gR]at eJ;split at eJ
   ·rename_i hi;cases eJ;erw[ah]at r1;subst r1;exact ⟨i,rfl,(z7 hi).1,(z7 hi).2,hk _ GZ⟩
   ·cases eJ
  | _=>erw[Z.bz,Z.iY,Z.iu,Z.iZ,Z.i9,Z.gR]at eJ;cases eJ
 | [],w1,_=>exact w1.elim
 | _::_::_,w1,_=>exact w1.elim
theorem Nq {tg:Expr}(hp:PassesOwn (model X.prog X.w) X.A X.env X.xe)(hc:X.calm=true)(hN:X.N.Nodup)(hi:X.N[i]?=some x)(hx:Loc X.env.scope x)(hf:X.fn x=true\/X.env.scope.names.lookup x=some .local)(hit:LI X sub Γ E (.Name x tpos) iter kd src)(hb:j4 X sub Γ E body b')(hs:∀x,foldedSetIterable iter X.env x=pure x):LS X sub Γ E (.For (.Name x tpos) iter body [] pos) (.cz [i] kd src b'):=by
 refine wm (MC hp hc hit (mP hN hi hx hf) hb hs) ?_;rintro D σ H ⟨ρ,h,τ,N,R,L,w,k⟩;erw[Z.wpS]at w;refine ⟨ρ,h,τ,_,R,L,w,λds h1 aA H1 vs e1 R1 r1 w1=>?_⟩;cases eJ:Z.bz kd ds h1 with
 | none=>rw[eJ]at w1;exact w1.elim
 | some J=>
  rw[eJ]at w1;refine ⟨J,rfl,λJ' hJ=>?_⟩;obtain ⟨W,⟨m,w0⟩,turn⟩:=w1;refine ⟨λi m σ' H'=>∃ρ' h' gW,Ext X.K aA H1 ρ' H'/\Rep X.K ρ' h' H'/\bI X.K ρ' H' gW σ'/\W i m gW h',⟨m,aA,h1,τ,.refl,R1,L.mono e1,w0⟩,?_⟩;rintro n m σ2 H2 ⟨a_,h2,EJ,e2,R2,z8,w2⟩;have t:=turn n m EJ h2 w2;have j:=hJ n a_ h2 H2 e2 R2;cases ev:J n h2 with
  | none=>rw[ev]at t;exact t.elim
  | some o=>
   rw[ev]at t j;cases o with
   | none=>exact .inl ⟨j,k.nx EJ h2 a_ H2 σ2 (e1.trans e2) R2 z8 t⟩
   | some d=>
    obtain ⟨go,yl⟩:=j;have hbd:Z.fV [i] d EJ=some (EJ.set i (some d)):=by cases d<;>rfl
    erw[hbd]at t;obtain ⟨Nn,hNn,t⟩:=t;refine .inr ⟨go,λσ' H'=>∃m',m' < m/\∃ρ' h' gW,Ext X.K aA H1 ρ' H'/\Rep X.K ρ' h' H'/\bI X.K ρ' H' gW σ'/\W (n+1) m' gW h',λσ' H' q=>q,λv H' hy=>?_⟩;obtain ⟨eX,R2,rv⟩:=yl v H' hy;have e2:=e2.trans eX;have z8:=z8.mono eX;refine ⟨a_,h2,EJ.set i (some d),_,R2,z8.set rv,t,⟨?_,?_,?_,?_⟩⟩
    ·intro z6 h3 gB H3 σ3 e3 R3 L3 w3;obtain ⟨m',hm,w3⟩:=hNn _ _ w3;exact ⟨m',hm,gB,h3,z6,e2.trans e3,R3,L3,w3⟩
    ·intro d h3 gB H3 v e3 R3 r3 w3;exact k.rt d h3 gB H3 v (e1.trans (e2.trans e3)) R3 r3 w3
    ·intro z6 h3 gB H3 σ3 e3 R3 L3 w3;exact k.nx z6 h3 gB H3 σ3 (e1.trans (e2.trans e3)) R3 L3 w3
    ·intro z6 h3 gB H3 σ3 e3 R3 L3 w3;obtain ⟨m',hm,w3⟩:=hNn _ _ w3;exact ⟨m',hm,gB,h3,z6,e2.trans e3,R3,L3,w3⟩
end
section
variable {X:Cx}{pins:List (Addr×Obj)}{σ:L2.St}{H:Hp}{s:Shared}{ρ:List Addr}{h:Z.AH}
theorem G0 (a b:List Nat):((⟨a.toArray⟩:Str) == ⟨b.toArray⟩)=(a == b):=by
 by_cases e:a=b
 ·subst e;simp
 ·have:¬((⟨a.toArray⟩:Str)=⟨b.toArray⟩):=λq=>e (by injection q with q;exact (toArray_inj q));rw[beq_eq_false_iff_ne.mpr this,beq_eq_false_iff_ne.mpr e]
theorem vJ {K:Frag}{ρ:List Addr}{H:Hp}{ds:List Z.D}{x:V}{xs:List V}(r:ak K ρ H ds (x::xs)):∃d ds',ds=d::ds'/\ah K ρ H d x/\ak K ρ H ds' xs:=by
 cases ds with
 | nil=>erw[ak]at r;cases r
 | cons d ds=>
  erw[ak]at r;obtain ⟨y,t,e,r1,r2⟩:=r;cases e;exact ⟨d,ds,rfl,r1,r2⟩
theorem JX {K:Frag}{ρ:List Addr}{H:Hp}{ds:List Z.D}(r:ak K ρ H ds []):ds=[]:=by
 cases ds with
 | nil=>rfl
 | cons _ _=>erw[ak]at r;obtain ⟨_,_,e,_⟩:=r;cases e
theorem EK (I:Inv X pins σ H s)(e:X.K.lookup a=some o)(e':H a=some u):False:=by
 have:=(I.bs a o (I.mod.uV a o e)).2;rw[e']at this;cases this
theorem vd (I:Inv X pins σ H s)(R:Rep X.K ρ h H){n:Nat}{a:Addr}{ys:List V}(e:ρ[n]?=some a)(q:cZ X.K H a ys):False:=by
 have hn:n < h.length:=by rw[<-R.len];exact (List.getElem?_eq_some_iff.mp e).1
 obtain ⟨b,e1,r⟩:=R.at_ n h[n] (by simp[hn]);rw[e]at e1;cases e1;have nt:(∀xs,H a≠some (.tup xs))/\(∀o xs,H a≠some (.bq o (.tup xs)))/\∃u,H a=some u:=by
  cases ho:h[n] with
  | lst xs=>rw[ho]at r;obtain ⟨ys,q,_⟩:=r;rw[q];exact ⟨(λ_ z=>by cases z),(λ_ _ z=>by cases z),_,rfl⟩
  | dct xs=>rw[ho]at r;obtain ⟨ys,q,_⟩:=r;rw[q];exact ⟨(λ_ z=>by cases z),(λ_ _ z=>by cases z),_,rfl⟩
  | obj _ _=>rw[ho]at r;obtain ⟨C,dx,fs',_,q,_⟩:=r;rw[q];exact ⟨(λ_ z=>by cases z),(λ_ _ z=>by cases z),_,rfl⟩
  | exc _=>rw[ho]at r;obtain ⟨C,oe,_,q,_⟩:=r;rw[q];exact ⟨(λ_ z=>by cases z),(λ_ _ z=>by cases z),_,rfl⟩
  | bU _ _=>rw[ho]at r;obtain ⟨C,oe,dx,od,_,q,_⟩:=r;rw[q];exact ⟨(λ_ z=>by cases z),(λ_ _ z=>by cases z),_,rfl⟩
 obtain ⟨n1,n2,u,hu⟩:=nt;rcases q with (q | ⟨o,q⟩) | ⟨o,_,_,q,_⟩
 ·exact n1 _ q
 ·exact n2 _ _ q
 ·exact EK I q hu
theorem vf (I:Inv X pins σ H s)(R:Rep X.K ρ h H){n:Nat}{a:Addr}{ys:List V}(e:ρ[n]?=some a)(q:u_ X.K H a ys):False:=by
 have hn:n < h.length:=by rw[<-R.len];exact (List.getElem?_eq_some_iff.mp e).1
 obtain ⟨b,e1,r⟩:=R.at_ n h[n] (by simp[hn]);rw[e]at e1;cases e1;have nt:(∀o xs,H a≠some (.bq o (.lst xs)))/\∃u,H a=some u:=by
  cases ho:h[n] with
  | lst xs=>rw[ho]at r;obtain ⟨ys,q,_⟩:=r;rw[q];exact ⟨(λ_ _ z=>by cases z),_,rfl⟩
  | dct xs=>rw[ho]at r;obtain ⟨ys,q,_⟩:=r;rw[q];exact ⟨(λ_ _ z=>by cases z),_,rfl⟩
  | obj _ _=>rw[ho]at r;obtain ⟨C,dx,fs',_,q,_⟩:=r;rw[q];exact ⟨(λ_ _ z=>by cases z),_,rfl⟩
  | exc _=>rw[ho]at r;obtain ⟨C,oe,_,q,_⟩:=r;rw[q];exact ⟨(λ_ _ z=>by cases z),_,rfl⟩
  | bU _ _=>rw[ho]at r;obtain ⟨C,oe,dx,od,_,q,_⟩:=r;rw[q];exact ⟨(λ_ _ z=>by cases z),_,rfl⟩
 obtain ⟨n2,u,hu⟩:=nt;rcases q with ⟨o,q⟩ | ⟨o,_,_,q,_⟩
 ·exact n2 _ _ q
 ·exact EK I q hu
theorem BK (I:Inv X pins σ H s)(q:cZ X.K H a ys)(q':u_ X.K H a zs):False:=by
 rcases q with (q | ⟨o,q⟩) | ⟨o,_,_,q,c,_⟩<;>rcases q' with ⟨o',q'⟩ | ⟨o',_,_,q',c',_⟩
 ·rw[q]at q';cases q'
 ·exact EK I q' q
 ·rw[q]at q';cases q'
 ·exact EK I q' q
 ·exact EK I q q'
 ·rw[q]at q';cases q';rw[c]at c';exact absurd c' (by decide)
mutual
theorem ah.inj (I:Inv X pins σ H s)(R:Rep X.K ρ h H):∀(d d':Z.D) (v:V),ah X.K ρ H d v->ah X.K ρ H d' v->d=d'
 | .non,d',v,r,r'=>by
  erw[ah]at r;subst r;cases d'<;>erw[ah]at r'<;>first | rfl | (cases r';done) | (obtain ⟨r',_⟩:=r';cases r';done) | (obtain ⟨_,_,r',_⟩:=r';cases r';done) | (obtain ⟨_,r',_⟩:=r';cases r';done)
 | .bl b,d',v,r,r'=>by
  erw[ah]at r;subst r;cases d'<;>erw[ah]at r'<;>first | (cases r';rfl) | (cases r';done) | (obtain ⟨r',_⟩:=r';cases r';done) | (obtain ⟨_,_,r',_⟩:=r';cases r';done) | (obtain ⟨_,r',_⟩:=r';cases r';done)
 | .int b,d',v,r,r'=>by
  erw[ah]at r;subst r;cases d'<;>erw[ah]at r'<;>first | (cases r';rfl) | (cases r';done) | (obtain ⟨r',_⟩:=r';cases r';done) | (obtain ⟨_,_,r',_⟩:=r';cases r';done) | (obtain ⟨_,r',_⟩:=r';cases r';done)
 | .str b,d',v,r,r'=>by
  erw[ah]at r;obtain ⟨rfl,_⟩:=r;cases d'<;>erw[ah]at r'<;>first | (cases r';done) | (obtain ⟨r',_⟩:=r';injection r' with r';injection r' with r';rw[toArray_inj r'];done) | (obtain ⟨r',_⟩:=r';cases r';done) | (obtain ⟨_,_,r',_⟩:=r';cases r';done) | (obtain ⟨_,r',_⟩:=r';cases r';done)
 | .tup xs,d',v,r,r'=>by
  erw[ah]at r;obtain ⟨a,ys,rfl,q,rs⟩:=r;cases d' with
  | tup xs'=>
   erw[ah]at r';obtain ⟨a',ys',e,q',rs'⟩:=r';cases e;have:=I.qY q q';subst this;rw[ak.inj I R xs xs' ys rs rs']
  | bV xs'=>erw[ah]at r';obtain ⟨a',ys',e,q',rs'⟩:=r';cases e;exact (BK I q q').elim
  | ref n=>erw[ah]at r';obtain ⟨a',e,q'⟩:=r';cases e;exact (vd I R q' q).elim
  | non=>erw[ah]at r';cases r'
  | bl _=>erw[ah]at r';cases r'
  | int _=>erw[ah]at r';cases r'
  | str _=>erw[ah]at r';cases r'.1
 | .bV xs,d',v,r,r'=>by
  erw[ah]at r;obtain ⟨a,ys,rfl,q,rs⟩:=r;cases d' with
  | bV xs'=>
   erw[ah]at r';obtain ⟨a',ys',e,q',rs'⟩:=r';cases e;have:=I.vz q.rB q'.rB;subst this;rw[ak.inj I R xs xs' ys rs rs']
  | tup xs'=>erw[ah]at r';obtain ⟨a',ys',e,q',rs'⟩:=r';cases e;exact (BK I q' q).elim
  | ref n=>erw[ah]at r';obtain ⟨a',e,q'⟩:=r';cases e;exact (vf I R q' q).elim
  | non=>erw[ah]at r';cases r'
  | bl _=>erw[ah]at r';cases r'
  | int _=>erw[ah]at r';cases r'
  | str _=>erw[ah]at r';cases r'.1
 | .ref n,d',v,r,r'=>by
  erw[ah]at r;obtain ⟨a,rfl,q⟩:=r;cases d' with
  | ref m=>erw[ah]at r';obtain ⟨a',e,q'⟩:=r';cases e;rw[rA R.nd q q']
  | bV xs'=>erw[ah]at r';obtain ⟨a',ys',e,q',rs'⟩:=r';cases e;exact (vf I R q q').elim
  | tup xs'=>erw[ah]at r';obtain ⟨a',ys',e,q',rs'⟩:=r';cases e;exact (vd I R q q').elim
  | non=>erw[ah]at r';cases r'
  | bl _=>erw[ah]at r';cases r'
  | int _=>erw[ah]at r';cases r'
  | str _=>erw[ah]at r';cases r'.1
theorem ak.inj (I:Inv X pins σ H s)(R:Rep X.K ρ h H):∀(d d':List Z.D) (v:List V),ak X.K ρ H d v->ak X.K ρ H d' v->d=d'
 | [],d',v,r,r'=>by erw[ak]at r;subst r;exact (JX r').symm
 | x::xs,d',v,r,r'=>by
  erw[ak]at r;obtain ⟨y,t,rfl,q,rs⟩:=r;obtain ⟨x',xs',rfl,q',rs'⟩:=vJ r';rw[ah.inj I R x x' y q q',ak.inj I R xs xs' t rs rs']
end
theorem z9 (hf:∀x b,f x x=some b->b=true):∀(xs:List Z.D) (b:Bool),Z.eqZ f xs xs=some b->b=true
 | [],b,e=>by cases e;rfl
 | x::xs,b,e=>by
  erw[Z.eqZ]at e;split at e
  ·rename_i a c ea ec;cases e;rw[hf _ _ ea,z9 hf _ _ ec];rfl
  ·cases e
theorem G1:∀(n:Nat) (d:Z.D) (b:Bool),Z.oU n d d=some b->b=true:=by
 intro n
 induction n with
 | zero=>intro d b e;cases d<;>cases e<;>simp
 | succ n ih=>
  intro d b e;cases d with
  | tup xs=>exact z9 ih xs b e
  | _=>cases e<;>simp
theorem BL:∀{xs ys:List Z.D} {b:Bool},Z.eqZ f xs ys=some b->∃e:Nat->Bool,(∀(j:Nat) x y,xs[j]?=some x->ys[j]?=some y->f x y=some (e j))/\b=((List.range (min xs.length ys.length)).all e && xs.length == ys.length):=by
 intro xs
 induction xs with
 | nil=>
  intro ys b h;cases ys with
  | nil=>erw[Z.eqZ]at h;cases h;exact ⟨λ_=>true,λj x y h=>by simp at h,by simp⟩
  | cons _ _=>erw[Z.eqZ]at h;cases h;exact ⟨λ_=>true,λj x y h=>by simp at h,by simp⟩
 | cons x xs ih=>
  intro ys b h;cases ys with
  | nil=>erw[Z.eqZ]at h;cases h;exact ⟨λ_=>true,λj x y h h'=>by simp at h',by simp⟩
  | cons y ys=>
   erw[Z.eqZ]at h;split at h
   ·rename_i a c ea ec;cases h;obtain ⟨e,h1,h2⟩:=ih ec;refine ⟨λj=>match j with | 0=>a | j+1=>e j,λj x' y' hx hy=>?_,?_⟩
    ·cases j with
     | zero=>simp at hx hy;subst hx hy;exact ea
     | succ j=>exact h1 j x' y' (by simpa using hx) (by simpa using hy)
    ·rw[h2,length_cons,length_cons,Nat.succ_min_succ,List.range_succ_eq_map,List.all_cons,List.all_map,Bool.and_assoc];have hl:(xs.length == ys.length)=(xs.length+1 == ys.length+1):=by
      by_cases hl:xs.length=ys.length<;>simp[hl]
     rw[hl];rfl
   ·cases h
theorem z_ {A:Around}{xs xs':List Z.D}{ys ys':List V}{its its':List Value}{f:Z.D->Z.D->Option Bool}{e:Nat->Bool}(r:ak X.K ρ H xs ys)(r':ak X.K ρ H xs' ys')(v:Vals ys its)(v':Vals ys' its')(he:∀(j:Nat) x y,xs[j]?=some x->xs'[j]?=some y->f x y=some (e j))(hf:∀x x' y y' u u' b,ah X.K ρ H x y->ah X.K ρ H x' y'->RelV y u->RelV y' u'->f x x'=some b->SeqAt.EqAt A s u u' b):
  ∀j (h1:j < its.toArray.size) (h2:j < its'.toArray.size),SeqAt.EqAt A s its.toArray[j] its'.toArray[j] (e j):=by
 intro j h1 h2;have l1:j < xs.length:=by rw[r.length,v.length];simpa using h1
 have l2:j < xs'.length:=by rw[r'.length,v'.length];simpa using h2
 obtain ⟨y,ey,ry⟩:=r.get (i:=j) (x:=xs[j]) (by simp[l1]);obtain ⟨y',ey',Nr⟩:=r'.get (i:=j) (x:=xs'[j]) (by simp[l2]);obtain ⟨u,eu,ru⟩:=v.get ey;obtain ⟨u',Vf,Nt⟩:=v'.get ey';have a1:its.toArray[j]=u:=by
  have:its[j]?=some its[j]:=by simp
  rw[this]at eu;cases eu;simp
 have a2:its'.toArray[j]=u':=by
  have:its'[j]?=some its'[j]:=by simp
  rw[this]at Vf;cases Vf;simp
 rw[a1,a2];exact hf _ _ _ _ _ _ _ ry Nr ru Nt (he j _ _ (by simp[l1]) (by simp[l2]))
def VW (K:Frag)(ρ:List Addr)(H:Hp)(s:Shared):Z.D->Value->Prop
 | .non,u=>u=.none
 | .bl c,u=>u=.bool c
 | .int i,u=>∃t,u=.int i t
 | .str l,u=>∃t,u=.str ⟨l.toArray⟩ t
 | .tup xs,u=>∃a ys its,u=.ref a/\s.heap.IsTuple a its.toArray/\cZ K H a ys/\ak K ρ H xs ys/\Vals ys its
 | _,_=>True
theorem uy (I:Inv X pins σ H s):∀{d:Z.D} {v:V} {u:Value},ah X.K ρ H d v->RelV v u->VW X.K ρ H s d u
 | .non,v,u,r,q=>by erw[ah]at r;subst r;cases q;rfl
 | .bl c,v,u,r,q=>by erw[ah]at r;subst r;cases q;rfl
 | .int i,v,u,r,q=>by erw[ah]at r;subst r;obtain ⟨t,rfl⟩:=q;exact ⟨t,rfl⟩
 | .str l,v,u,r,q=>by erw[ah]at r;obtain ⟨rfl,_⟩:=r;obtain ⟨t,rfl⟩:=q;exact ⟨t,rfl⟩
 | .tup xs,v,u,r,q=>by
  erw[ah]at r;obtain ⟨a,ys,rfl,hq,rs⟩:=r;cases q;obtain ⟨its,vv,it,_⟩:=I.tuple hq;exact ⟨a,ys,its,rfl,it,hq,rs,vv⟩
 | .bV _,_,_,_,_=>trivial
 | .ref _,_,_,_,_=>trivial
theorem Iu {K:Frag}{A:Around}{n:Nat}{u u':Value}{b:Bool}(hu:A.units < cLine):∀{d d':Z.D},VW K ρ H s d u->VW K ρ H s d' u'->Z.oU n d d'=some b->(∀xs ys,d=.tup xs->d'≠.tup ys)->SeqAt.RcAt A s u u' b/\SeqAt.EqAt A s u u' b/\SeqAt.RcNeAt A s u u' (!b)
 | .non,.non,V,V',e,_=>by
  have hb:b=true:=by cases n<;>cases e<;>rfl
  subst hb;cases V;cases V';exact ⟨.none_none,.same _,.none_none⟩
 | .non,.bl _,V,V',e,_=>by
  have hb:b=false:=by cases n<;>cases e<;>rfl
  subst hb;cases V;cases V';exact ⟨.none_bool _,.none_bool _,.none_bool _⟩
 | .non,.int _,V,V',e,_=>by
  have hb:b=false:=by cases n<;>cases e<;>rfl
  subst hb;cases V;obtain ⟨_,rfl⟩:=V';exact ⟨.none_int _ _,.none_int _ _,.none_int _ _⟩
 | .non,.str _,V,V',e,_=>by
  have hb:b=false:=by cases n<;>cases e<;>rfl
  subst hb;cases V;obtain ⟨_,rfl⟩:=V';exact ⟨.none_str _ _,.none_str _ _,.none_str _ _⟩
 | .non,.tup _,V,V',e,_=>by
  have hb:b=false:=by cases n<;>cases e<;>rfl
  subst hb;cases V;obtain ⟨a,ys,its,rfl,it,_⟩:=V';exact ⟨.none_tuple it hu,.none_tuple it hu,.none_tuple it hu⟩
 | .bl _,.non,V,V',e,_=>by
  have hb:b=false:=by cases n<;>cases e<;>rfl
  subst hb;cases V;cases V';exact ⟨.bool_none _,.bool_none _,.bool_none _⟩
 | .bl c,.bl c',V,V',e,_=>by
  have hb:b=(c == c'):=by cases n<;>cases e<;>rfl
  subst hb;cases V;cases V';exact ⟨.bool_bool _ _,.bool_bool _ _,.bool_bool _ _⟩
 | .bl _,.int _,_,_,e,_=>by cases n<;>cases e
 | .bl _,.str _,V,V',e,_=>by
  have hb:b=false:=by cases n<;>cases e<;>rfl
  subst hb;cases V;obtain ⟨_,rfl⟩:=V';exact ⟨.bool_str _ _ _,.bool_str _ _ _,.bool_str _ _ _⟩
 | .bl _,.tup _,V,V',e,_=>by
  have hb:b=false:=by cases n<;>cases e<;>rfl
  subst hb;cases V;obtain ⟨a,ys,its,rfl,it,_⟩:=V';exact ⟨.bool_tuple _ it hu,.bool_tuple _ it hu,.bool_tuple _ it hu⟩
 | .int _,.non,V,V',e,_=>by
  have hb:b=false:=by cases n<;>cases e<;>rfl
  subst hb;obtain ⟨_,rfl⟩:=V;cases V';exact ⟨.int_none _ _,.int_none _ _,.int_none _ _⟩
 | .int _,.bl _,_,_,e,_=>by cases n<;>cases e
 | .int c,.int c',V,V',e,_=>by
  have hb:b=(c == c'):=by cases n<;>cases e<;>rfl
  subst hb;obtain ⟨_,rfl⟩:=V;obtain ⟨_,rfl⟩:=V';exact ⟨.int_int _ _ _ _,.int_int _ _ _ _,.int_int _ _ _ _⟩
 | .int _,.str _,V,V',e,_=>by
  have hb:b=false:=by cases n<;>cases e<;>rfl
  subst hb;obtain ⟨_,rfl⟩:=V;obtain ⟨_,rfl⟩:=V';exact ⟨.int_str _ _ _ _,.int_str _ _ _ _,.int_str _ _ _ _⟩
 | .int _,.tup _,V,V',e,_=>by
  have hb:b=false:=by cases n<;>cases e<;>rfl
  subst hb;obtain ⟨_,rfl⟩:=V;obtain ⟨a,ys,its,rfl,it,_⟩:=V';exact ⟨.int_tuple _ _ it hu,.int_tuple _ _ it hu,.int_tuple _ _ it hu⟩
 | .str _,.non,V,V',e,_=>by
  have hb:b=false:=by cases n<;>cases e<;>rfl
  subst hb;obtain ⟨_,rfl⟩:=V;cases V';exact ⟨.str_none _ _,.str_none _ _,.str_none _ _⟩
 | .str _,.bl _,V,V',e,_=>by
  have hb:b=false:=by cases n<;>cases e<;>rfl
  subst hb;obtain ⟨_,rfl⟩:=V;cases V';exact ⟨.str_bool _ _ _,.str_bool _ _ _,.str_bool _ _ _⟩
 | .str _,.int _,V,V',e,_=>by
  have hb:b=false:=by cases n<;>cases e<;>rfl
  subst hb;obtain ⟨_,rfl⟩:=V;obtain ⟨_,rfl⟩:=V';exact ⟨.str_int _ _ _ _,.str_int _ _ _ _,.str_int _ _ _ _⟩
 | .str c,.str c',V,V',e,_=>by
  have hb:b=(c == c'):=by cases n<;>cases e<;>rfl
  subst hb;obtain ⟨_,rfl⟩:=V;obtain ⟨_,rfl⟩:=V';rw[<-G0];exact ⟨.str_str _ _ _ _,.str_str _ _ _ _,.str_str _ _ _ _⟩
 | .str _,.tup _,V,V',e,_=>by
  have hb:b=false:=by cases n<;>cases e<;>rfl
  subst hb;obtain ⟨_,rfl⟩:=V;obtain ⟨a,ys,its,rfl,it,_⟩:=V';exact ⟨.str_tuple _ _ it hu,.str_tuple _ _ it hu,.str_tuple _ _ it hu⟩
 | .tup _,.non,V,V',e,_=>by
  have hb:b=false:=by cases n<;>cases e<;>rfl
  subst hb;obtain ⟨a,ys,its,rfl,it,_⟩:=V;cases V';exact ⟨.tuple_none it hu,.tuple_none it hu,.tuple_none it hu⟩
 | .tup _,.bl _,V,V',e,_=>by
  have hb:b=false:=by cases n<;>cases e<;>rfl
  subst hb;obtain ⟨a,ys,its,rfl,it,_⟩:=V;cases V';exact ⟨.tuple_bool _ it hu,.tuple_bool _ it hu,.tuple_bool _ it hu⟩
 | .tup _,.int _,V,V',e,_=>by
  have hb:b=false:=by cases n<;>cases e<;>rfl
  subst hb;obtain ⟨a,ys,its,rfl,it,_⟩:=V;obtain ⟨_,rfl⟩:=V';exact ⟨.tuple_int _ _ it hu,.tuple_int _ _ it hu,.tuple_int _ _ it hu⟩
 | .tup _,.str _,V,V',e,_=>by
  have hb:b=false:=by cases n<;>cases e<;>rfl
  subst hb;obtain ⟨a,ys,its,rfl,it,_⟩:=V;obtain ⟨_,rfl⟩:=V';exact ⟨.tuple_str _ _ it hu,.tuple_str _ _ it hu,.tuple_str _ _ it hu⟩
 | .tup _,.tup _,_,_,_,z=>absurd rfl (z _ _ rfl)
 | .bV _,_,_,_,e,_=>by cases n<;>cases e
 | .ref _,_,_,_,e,_=>by cases n<;>cases e
 | .non,.bV _,_,_,e,_=>by cases n<;>cases e
 | .non,.ref _,_,_,e,_=>by cases n<;>cases e
 | .bl _,.bV _,_,_,e,_=>by cases n<;>cases e
 | .bl _,.ref _,_,_,e,_=>by cases n<;>cases e
 | .int _,.bV _,_,_,e,_=>by cases n<;>cases e
 | .int _,.ref _,_,_,e,_=>by cases n<;>cases e
 | .str _,.bV _,_,_,e,_=>by cases n<;>cases e
 | .str _,.ref _,_,_,e,_=>by cases n<;>cases e
 | .tup _,.bV _,_,_,e,_=>by cases n<;>cases e
 | .tup _,.ref _,_,_,e,_=>by cases n<;>cases e
theorem Nu (I:Inv X pins σ H s)(R:Rep X.K ρ h H):∀(n:Nat) (A:Around) (d d':Z.D) (v v':V) (u u':Value) (b:Bool),A.units+n < cLine->ah X.K ρ H d v->ah X.K ρ H d' v'->RelV v u->RelV v' u'->Z.oU n d d'=some b->
  SeqAt.RcAt A s u u' b/\SeqAt.EqAt A s u u' b/\SeqAt.RcNeAt A s u u' (!b):=by
 intro n
 induction n with
 | zero=>
  intro A d d' v v' u u' b hu r r' q q' e;exact Iu (by lia) (uy I r q) (uy I r' q') e λxs ys z z'=>by subst z z';cases e
 | succ n ih=>
  intro A d d' v v' u u' b hu r r' q q' e;by_cases z:∃xs xs',d=.tup xs/\d'=.tup xs'
  ·obtain ⟨xs,xs',rfl,rfl⟩:=z;obtain ⟨a,ys,its,rfl,it,hq,rs,vv⟩:=uy I r q;obtain ⟨a',ys',its',rfl,it',hq',rs',EL⟩:=uy I r' q';obtain ⟨ee,h1,h2⟩:=BL e;have hlen:its.toArray.size=xs.length:=by rw[size_toArray,<-vv.length,<-rs.length]
   have hlen':its'.toArray.size=xs'.length:=by rw[size_toArray,<-EL.length,<-rs'.length]
   have at':=z_ (A:=A.in1) rs rs' vv EL h1 (λx x' y y' u u' b hx hx' hy hy' hb=>(ih A.in1 x x' y y' u u' b (by show A.units+1+n < cLine;lia) hx hx' hy hy' hb).2.1);have rc:=SeqAt.RcAt.tuples (A:=A) it it' (by lia) at';have ne:=SeqAt.RcNeAt.tuples (A:=A) it it' (by lia) at';rw[hlen,hlen',<-h2]at rc ne;refine ⟨rc,?_,ne⟩;by_cases ha:a=a'
   ·subst ha;cases I.qY hq hq';cases ak.inj I R _ _ _ rs rs';have:b=true:=G1 (n+1) (.tup xs) b e;subst this;exact .same _
   ·exact .of_refs ha rc
  ·exact Iu (by lia) (uy I r q) (uy I r' q') e λxs ys a b=>z ⟨xs,ys,a,b⟩
theorem Aa (I:Inv X pins σ H s)(R:Rep X.K ρ h H)(n:Nat)(A:Around)(d d':Z.D)(v v':V)(u u':Value)(b:Bool)(hu:A.units+n < cLine)(r:ah X.K ρ H d v)(r':ah X.K ρ H d' v')(q:RelV v u)(q':RelV v' u')(e:Z.oU n d d'=some b):
  SeqAt.RcAt A s u u' b/\SeqAt.EqAt A s u u' b:=let x:=Nu I R n A d d' v v' u u' b hu r r' q q' e;⟨x.1,x.2.1⟩
end
section
variable {K:Frag}{ρ:List Addr}{h:Z.AH}{H:Hp}
theorem oA (r:ak K ρ H ds [x]):∃d,ds=[d]/\ah K ρ H d x:=by
 cases ds with
 | nil=>erw[ak]at r;cases r
 | cons d ds=>
  erw[ak]at r;obtain ⟨y,t,e,r1,r2⟩:=r;cases e;cases ds with
  | nil=>exact ⟨d,rfl,r1⟩
  | cons _ _=>erw[ak]at r2;obtain ⟨_,_,e,_⟩:=r2;cases e
theorem eE (r:ak K ρ H ds [x,y]):∃d e,ds=[d,e]/\ah K ρ H d x/\ah K ρ H e y:=by
 obtain ⟨d,ds,rfl,r1,r⟩:=vJ r;obtain ⟨e,rfl,r2⟩:=oA r;exact ⟨d,e,rfl,r1,r2⟩
theorem RH (r:ak K ρ H ds [x,y,z]):∃d e f,ds=[d,e,f]/\ah K ρ H d x/\ah K ρ H e y/\ah K ρ H f z:=by
 obtain ⟨d,ds,rfl,r1,r⟩:=vJ r;obtain ⟨e,f,rfl,r2,r3⟩:=eE r;exact ⟨d,e,f,rfl,r1,r2,r3⟩
theorem dN (R:Rep K ρ h H)(r:ah K ρ H (.ref n) v)(e:h[n]?=some (.lst xs)):∃a ys,v=.ref a/\ρ[n]?=some a/\H a=some (.lst ys)/\ak K ρ H xs ys:=by
 erw[ah]at r;obtain ⟨a,rfl,q⟩:=r;obtain ⟨b,e1,ys,e2,rs⟩:=R.at_ n _ e;rw[q]at e1;cases e1;exact ⟨a,ys,rfl,q,e2,rs⟩
theorem wy (R:Rep K ρ h H)(r:ah K ρ H (.ref n) v)(e:h[n]?=some (.dct kvs)):∃a kvs',v=.ref a/\ρ[n]?=some a/\H a=some (.dK kvs')/\kvs'.map (·.1)=kvs.map (λp=>dz p.1)/\ak K ρ H (kvs.map (·.2)) (kvs'.map (·.2))/\∀p∈kvs,∀s,p.1=Sum.inr s->s.length<=Z.lim:=by
 erw[ah]at r;obtain ⟨a,rfl,q⟩:=r;obtain ⟨b,e1,ys,e2,rs⟩:=R.at_ n _ e;rw[q]at e1;cases e1;exact ⟨a,ys,rfl,q,e2,rs⟩
theorem j6 (e:Z.newL xs h=some (d,h')):xs.length<=Z.lim/\d=.ref h.length/\h'=h++[.lst xs]:=by
 unfold Z.newL at e;split at e
 ·cases e;exact ⟨by assumption,rfl,rfl⟩
 ·cases e
theorem G2 (e:Z.vq n xs v h=some (d,h')):xs.length<=Z.lim/\d=v/\h'=h.set n (.lst xs):=by
 unfold Z.vq at e;split at e
 ·cases e;exact ⟨by assumption,rfl,rfl⟩
 ·cases e
theorem kX {xs:List Z.D}(R:Rep K ρ h H)(hn:ρ[n]?=some a)(ha:H a=some (.lst vs))(r:ak K ρ H ys ws):Ext K ρ H ρ (upd H a (.lst ws))/\Rep K ρ (h.set n (.lst ys)) (upd H a (.lst ws)):=by
 have e:Ext K ρ H ρ (upd H a (.lst ws)):=Ext.write ha (λ_=>by simp) (λ_ _=>by simp);exact ⟨e,R.write hn ha (λ_=>by simp) (λ_ _=>by simp) ⟨ws,aK,ak.mono e _ _ r⟩⟩
theorem gX (s:List Nat):(⟨s.toArray⟩:Str).length=s.length:=by
 show s.toArray.size=_;simp
theorem Nv (s t:List Nat):(⟨s.toArray⟩++⟨t.toArray⟩:Str)=⟨(s++t).toArray⟩:=by
 show Str.mk (s.toArray++t.toArray)=_;simp
end
section
variable {X:Cx}{sub:Nat->Nat->Bool}
theorem Nx (hp:Z.prim sub p=Z.ug f)(ho:bu X op (v7 λi j=>.int (f i j))):bu X op (λx y=>rP X.K sub p [x,y]):=oz ho (by
 rintro x y H Q ⟨ρ,h,ds,d,h',R,r,q,k⟩;obtain ⟨d1,d2,rfl,r1,r2⟩:=eE r;rw[hp]at q;unfold Z.ug at q;split at q
 ·rename_i e;cases e;cases q;erw[ah]at r1 r2;subst r1 r2;exact ⟨_,_,rfl,rfl,k ρ H _ .refl R (by erw[ah])⟩
 ·cases q)
theorem De (hp:Z.prim sub p=Z.vw f)(ho:bu X op (v7 λi j=>.bl (f i j))):bu X op (λx y=>rP X.K sub p [x,y]):=oz ho (by
 rintro x y H Q ⟨ρ,h,ds,d,h',R,r,q,k⟩;obtain ⟨d1,d2,rfl,r1,r2⟩:=eE r;rw[hp]at q;unfold Z.vw at q;split at q
 ·rename_i e;cases e;cases q;erw[ah]at r1 r2;subst r1 r2;exact ⟨_,_,rfl,rfl,k ρ H _ .refl R (by erw[ah])⟩
 ·cases q)
theorem Iv:bu X (binaryOp .Sub) (λx y=>rP X.K sub .sub [x,y]):=Nx rfl MF
theorem Df:bu X (compareOp .Lt) (λx y=>rP X.K sub .lt [x,y]):=De rfl Rp
theorem Dg:bu X (compareOp .LtE) (λx y=>rP X.K sub .le [x,y]):=De rfl Rq
theorem Ab:bu X (compareOp .Gt) (λx y=>rP X.K sub .gt [x,y]):=De rfl Rt
theorem RJ:bu X (binaryOp .Mod) (λx y=>rP X.K sub .mod [x,y]):=oz MH (by
 rintro x y H Q ⟨ρ,h,ds,d,h',R,r,q,k⟩;obtain ⟨d1,d2,rfl,r1,r2⟩:=eE r;change Z.Gn _ _=_ at q;unfold Z.Gn at q;split at q
 ·rename_i e;cases e;split at q
  ·cases q;erw[ah]at r1 r2;subst r1 r2;exact ⟨_,_,rfl,rfl,by assumption,k ρ H _ .refl R (by erw[ah])⟩
  ·cases q
 ·cases q)
theorem log2_lt_of (hk:0 < k)(h:n < 2 ^ k):n.log2 < k:=by
 by_cases z:n=0
 ·subst z;simpa using hk
 ·exact (Nat.log2_lt z).mpr h
theorem wz (h:-2037035976334486086268445688409378161051468393665936250636140449354381299763336706183397376 < i/\i < 2037035976334486086268445688409378161051468393665936250636140449354381299763336706183397376):i.natAbs < 2 ^ 300:=by
 have e:(2:Nat) ^ 300=2037035976334486086268445688409378161051468393665936250636140449354381299763336706183397376:=by decide+kernel
 rw[e];lia
theorem G3:bu X (binaryOp .FloorDiv) (rI (λ_ j=>0 < j/\-2037035976334486086268445688409378161051468393665936250636140449354381299763336706183397376 < j/\j < 2037035976334486086268445688409378161051468393665936250636140449354381299763336706183397376) λi j=>.int (i / j)):=Et λi j _ _ _ _ _ hc q=>by
 have h1:(0:Int) < j:=hc.1;exact floordiv_int (Int.ne_of_gt h1) (by rw[Int.fdiv_eq_ediv_of_nonneg i (Int.le_of_lt h1)];exact q) (.inl (PyProof.noPylong_of_log2 (Nat.lt_trans (log2_lt_of (by decide) (wz hc.2)) (by decide))))
theorem vg (h:-2037035976334486086268445688409378161051468393665936250636140449354381299763336706183397376 < i/\i < 2037035976334486086268445688409378161051468393665936250636140449354381299763336706183397376):Builtin.Int.intBits i<=2 ^ 20:=by
 have:=log2_lt_of (by decide) (wz h);unfold Builtin.Int.intBits;have e:(2:Nat) ^ 20=1048576:=by decide
 rw[e];split<;>lia
theorem JY:bu X (binaryOp .Mult) (rI (λi j=>(-2037035976334486086268445688409378161051468393665936250636140449354381299763336706183397376 < i/\i < 2037035976334486086268445688409378161051468393665936250636140449354381299763336706183397376)/\(-2037035976334486086268445688409378161051468393665936250636140449354381299763336706183397376 < j/\j < 2037035976334486086268445688409378161051468393665936250636140449354381299763336706183397376)) λi j=>.int (i * j)):=Et λi j _ _ _ _ _ hc q=>mul_int q (.of_bits (vg hc.1) (vg hc.2))
theorem mX:bu X (binaryOp .FloorDiv) (λx y=>rP X.K sub .fdiv [x,y]):=oz G3 (by
 rintro x y H Q ⟨ρ,h,ds,d,h',R,r,q,k⟩;obtain ⟨d1,d2,rfl,r1,r2⟩:=eE r;change Z.CT _ _=_ at q;unfold Z.CT at q;split at q
 ·rename_i e;cases e;split at q
  ·rename_i hc;cases q;erw[ah]at r1 r2;subst r1 r2;exact ⟨_,_,rfl,rfl,⟨hc.1,Z.nW.mp hc.2⟩,k ρ H _ .refl R (by erw[ah])⟩
  ·cases q
 ·cases q)
theorem Dh:bu X (binaryOp .Pow) (λx y=>rP X.K sub .pow [x,y]):=oz MI (by
 rintro x y H Q ⟨ρ,h,ds,d,h',R,r,q,k⟩;obtain ⟨d1,d2,rfl,r1,r2⟩:=eE r;change Z.Gp _ _=_ at q;unfold Z.Gp at q;split at q
 ·rename_i e;cases e;split at q
  ·cases q;erw[ah]at r1 r2;subst r1 r2;exact ⟨_,_,rfl,rfl,by assumption,k ρ H _ .refl R (by erw[ah])⟩
  ·cases q
 ·cases q)
theorem kY:By X (unaryOp .USub) (λx=>rP X.K sub .neg [x]):=λpins s σ H x v Q I rx ⟨ρ,h,ds,d,h',R,r,q,k⟩=>MJ pins s σ H x v Q I rx (by
 obtain ⟨d1,rfl,r1⟩:=oA r;change Z.vt _ _=_ at q;unfold Z.vt at q;split at q
 ·rename_i e;cases e;cases q;erw[ah]at r1;subst r1;exact ⟨_,rfl,k ρ H _ .refl R (by erw[ah])⟩
 ·cases q)
theorem Inv.Xj (I:Inv X pins σ H s)(q:u_ X.K H l xs):xs.length<=sizeLine/\∃(its:List Value) (n:Nat),Vals xs its/\s.heap.get? l=some {cls:=.type "list",data:=.seq its.toArray n}:=by
 rcases q with ⟨o,q⟩ | ⟨o,its,n,h1,h2,h3,h4,h5,h6,h7⟩
 ·obtain ⟨z,its,n,r,e⟩:=Rd.ok (.inr ⟨o,q⟩) I.hok;exact ⟨z,its,n,r,e⟩
 ·have:=h6.length;refine ⟨by simp at this;lia,its.toList,n,h6,?_⟩;rw[I.bX l o h1];obtain ⟨c,dd,da,sl⟩:=o;cases h2;cases h3;cases h4;cases h7;simp
theorem JZ:bu X (binaryOp .Add) (λx y H Q=>∃a b ys,x=.ref a/\y=.ref b/\cZ X.K H a []/\cZ X.K H b ys/\Q (.ref b) H):=by
 intro pins s σ H x y v u Q I rx ry h;obtain ⟨a,b,ys,rfl,rfl,ha,hb,q⟩:=h;cases rx;cases ry;obtain ⟨its,r1,p1,_⟩:=I.tuple ha;obtain ⟨its2,r2,p2,_⟩:=I.tuple hb;obtain ⟨⟨cls,dd,data,sl⟩,ho,hc,n,hd⟩:=id p1;obtain ⟨⟨cls2,dd2,data2,sl2⟩,ho2,hc2,n2,hd2⟩:=id p2;simp only at hc hd hc2 hd2;subst hc hd hc2 hd2;cases r1;exact concat_meets ⟨_,ho,rfl⟩ ⟨_,ho2,rfl⟩ noFill_tuple_add seq_tuple_add slot_tuple_add entry_tuple_add (args_tuple_add_2 _ _)
   (tuple_addW0 a b _ _ n n2 dd dd2 sl sl2 (by simp)) ⟨ho,ho2,⟨.ref b,H,I,rfl,q⟩⟩
theorem J0:bu X (binaryOp .Add) (λx y H Q=>∃l b xs zs,x=.ref l/\y=.ref b/\H l=some (.lst xs)/\u_ X.K H b zs/\xs.length+zs.length<=sizeLine/\∀p,H p=none->Q (.ref p) (upd H p (.lst (xs++zs)))):=by
 intro pins s σ H x y v u Q I rx ry h;obtain ⟨l,b,xs,zs,rfl,rfl,hH,hB,hz,q⟩:=h;cases rx;cases ry;obtain ⟨z,its,n,r,hl,e⟩:=I.rj hH;obtain ⟨z2,its2,n2,r2,e2⟩:=Inv.Xj I hB;have hl2:=r2.length;refine PySem.P.add_list e e2 ?_ (by rw[size_toArray,size_toArray];lia);have ea:its.toArray++its2.toArray=(its++its2).toArray:=by simp
 rw[ea];exact ⟨.ref _,_,I.GQ (t':=s.toks) (r.append r2) (by rw[length_append];lia),rfl,q _ I.fresh⟩
theorem J1 {h:Z.AH}{a:Nat}{d2:Z.D}{r:Z.D×Z.AH}(q:Z.prim sub .add [.ref a,d2] h=some r):∃xs ys,h[a]?=some (.lst xs)/\((∃b,d2=.ref b/\h[b]?=some (.lst ys))\/d2=.bV ys)/\Z.newL (xs++ys) h=some r:=by
 cases d2 with
 | ref b=>
  change (match h[a]?,h[b]? with | some (.lst xs),some (.lst ys)=>Z.newL (xs++ys) h | _,_=>none)=_ at q;cases e1:h[a]? with
  | none=>rw[e1]at q;cases q
  | some o=>
   rw[e1]at q;cases o with
   | lst xs=>
    cases e2:h[b]? with
    | none=>rw[e2]at q;cases q
    | some o=>
     rw[e2]at q;cases o with
     | lst ys=>exact ⟨xs,ys,rfl,.inl ⟨b,rfl,e2⟩,q⟩
     | _=>cases q
   | _=>cases q
 | bV ys=>
  change (match h[a]? with | some (.lst xs)=>Z.newL (xs++ys) h | _=>none)=_ at q;cases e1:h[a]? with
  | none=>rw[e1]at q;cases q
  | some o=>
   rw[e1]at q;cases o with
   | lst xs=>exact ⟨xs,ys,rfl,.inr rfl,q⟩
   | _=>cases q
 | _=>cases q
theorem RK:bu X (binaryOp .Add) (λx y=>rP X.K sub .add [x,y]):=by
 intro pins s0 σ H x y v u Q I rx ry ⟨ρ,h,ds,d,h',R,r,q,k⟩;obtain ⟨d1,d2,rfl,r1,r2⟩:=eE r;cases d1 with
 | int i=>
  cases d2 with
  | int j=>
   cases q;erw[ah]at r1 r2;subst r1 r2;exact ME pins s0 σ H _ _ _ _ _ I rx ry ⟨_,_,rfl,rfl,k ρ H _ .refl R (by erw[ah])⟩
  | _=>cases q
 | str s=>
  cases d2 with
  | str t=>
   change (if s.length+t.length<=Z.lim then some (Z.D.str (s++t),h) else none)=_ at q;by_cases hl:s.length+t.length<=Z.lim
   ·rw[if_pos hl]at q;cases q;erw[ah]at r1 r2;obtain ⟨rfl,l1⟩:=r1;obtain ⟨rfl,l2⟩:=r2;refine C4 pins s0 σ H _ _ _ _ _ I rx ry ⟨_,_,rfl,rfl,by rw[gX,gX,<-gC];exact hl,k ρ H _ .refl R ?_⟩;erw[ah];exact ⟨by rw[Nv],by rw[length_append];exact hl⟩
   ·rw[if_neg hl]at q;cases q
  | _=>cases q
 | tup s=>
  cases d2 with
  | tup t=>
   change (if s.isEmpty then some (Z.D.tup t,h) else if s.length+t.length<=Z.lim then some (Z.D.tup (s++t),h) else none)=_ at q;erw[ah]at r1 r2;obtain ⟨a,ys,rfl,q1,r1⟩:=r1;obtain ⟨b,zs,rfl,q2,r2⟩:=r2;by_cases he:s.isEmpty=true
   ·rw[if_pos he]at q;cases q;have hs:s=[]:=by simpa using he
    subst hs;erw[ak]at r1;subst r1;exact JZ pins s0 σ H _ _ _ _ _ I rx ry ⟨a,b,zs,rfl,rfl,q1,q2,k ρ H _ .refl R (by erw[ah];exact ⟨b,zs,rfl,q2,r2⟩)⟩
   ·rw[if_neg he]at q;by_cases hl:s.length+t.length<=Z.lim
    ·rw[if_pos hl]at q;cases q;refine JI pins s0 σ H _ _ _ _ _ I rx ry ⟨a,b,ys,zs,rfl,rfl,q1,q2,?_,by rw[<-r1.length,<-r2.length,<-gC];exact hl,λhz=>?_,λ_ p hp=>?_⟩
     ·intro z;subst z;have:=r1.length;simp at this he;exact he this
     ·subst hz;have:=r2.length;simp at this;subst this;rw[append_nil]at k;exact k ρ H _ .refl R (by erw[ah];exact ⟨a,ys,rfl,q1,r1⟩)
     ·have e2:Ext X.K ρ H ρ (upd H p (.tup (ys++zs))):=Ext.fresh hp;exact k ρ _ _ e2 (R.fresh hp) (by erw[ah];exact ⟨p,_,rfl,.of aK,ak.mono e2 _ _ (r1.append r2)⟩)
    ·rw[if_neg hl]at q;cases q
  | _=>cases q
 | ref a=>
  obtain ⟨xs,ys,e1,e2,q⟩:=J1 q;obtain ⟨l,vs,rfl,_,ha,r1⟩:=dN R r1 e1;obtain ⟨hl,rfl,rfl⟩:=j6 q;rcases e2 with ⟨b,rfl,e2⟩ | rfl
  ·obtain ⟨l',vs',rfl,_,hb,r2⟩:=dN R r2 e2;refine M5 pins s0 σ H _ _ _ _ _ I rx ry ⟨l,l',vs,vs',rfl,rfl,ha,hb,by rw[<-r1.length,<-r2.length,<-gC,<-length_append];exact hl,λp hp=>?_⟩;obtain ⟨e2,R2,r2⟩:=eO R (r1.append r2) hp;exact k _ _ _ e2 R2 r2
  ·erw[ah]at r2;obtain ⟨b,zs,rfl,q2,r2⟩:=r2;refine J0 pins s0 σ H _ _ _ _ _ I rx ry ⟨l,b,vs,zs,rfl,rfl,ha,q2,by rw[<-r1.length,<-r2.length,<-gC,<-length_append];exact hl,λp hp=>?_⟩;obtain ⟨e2,R2,r2⟩:=eO R (r1.append r2) hp;exact k _ _ _ e2 R2 r2
 | _=>cases q
theorem J4 {K:Frag}{ρ:List Addr}{H:Hp}{xs:List Z.D}{vs:List V}(n:Nat)(r:ak K ρ H xs vs):ak K ρ H (replicate n xs).flatten (replicate n vs).flatten:=by
 induction n with
 | zero=>simp[ak]
 | succ n ih=>rw[replicate_succ,replicate_succ,flatten_cons,flatten_cons];exact r.append ih
theorem gY:bu X (binaryOp .Mult) (λx y=>rP X.K sub .mul [x,y]):=by
 intro pins s σ H x y v u Q I rx ry ⟨ρ,h,ds,d,h',R,r,q,k⟩;obtain ⟨d1,d2,rfl,r1,r2⟩:=eE r;change Z.Gm _ _=_ at q;unfold Z.Gm at q;split at q
 ·rename_i i j e;cases e;split at q
  ·rename_i hc;cases q;erw[ah]at r1 r2;subst r1 r2;rw[or_eq_true]at hc;rcases hc with hc | hc
   ·refine MG pins s σ H _ _ v u Q I rx ry ⟨_,_,rfl,rfl,?_,k ρ H _ .refl R (by erw[ah])⟩;rw[or_eq_true]at hc;exact hc.imp (λz=>by have:=Z.nV.mp z;lia) (λz=>by have:=Z.nV.mp z;lia)
   ·rw[and_eq_true]at hc;exact JY pins s σ H _ _ v u Q I rx ry ⟨_,_,rfl,rfl,⟨Z.nW.mp hc.1,Z.nW.mp hc.2⟩,k ρ H _ .refl R (by erw[ah])⟩
  ·cases q
 ·rename_i a kk e;cases e;split at q
  ·rename_i xs e1;split at q
   ·rename_i hk;obtain ⟨l,vs,rfl,_,ha,r1⟩:=dN R r1 e1;obtain ⟨hl,rfl,rfl⟩:=j6 q;erw[ah]at r2;subst r2;have hk':=z7 hk;have hlen:vs.length * kk.toNat<=sizeLine:=by
     rw[<-r1.length,<-gC,mul_comm];rw[len_rep]at hl;exact hl
    refine M6 pins s σ H _ _ v u Q I rx ry ⟨l,kk,vs,rfl,rfl,ha,by lia,by lia,hlen,λp hp=>?_⟩;obtain ⟨e2,R2,r2⟩:=eO R (J4 kk.toNat r1) hp;exact k _ _ _ e2 R2 r2
   ·cases q
  ·cases q
 ·cases q
theorem jK:bu X (compareOp .Is) (λx y H Q=>y=.non/\rP X.K sub .kP [x] H Q):=oz ML (by
 rintro x y H Q ⟨rfl,ρ,h,ds,d,h',R,r,q,k⟩;obtain ⟨d1,rfl,r1⟩:=oA r;change Z.zH _ _ _=_ at q;unfold Z.zH at q;refine ⟨rfl,?_⟩;split at q
 ·rename_i e;cases e;cases q;erw[ah]at r1;subst r1;exact k ρ H _ .refl R (by erw[ah];rfl)
 ·rename_i hn e;cases e;cases q;have hx:x≠.non:=by
   rintro rfl;cases d1<;>erw[ah]at r1<;>first
    | exact hn rfl
    | (cases r1;done)
    | (obtain ⟨r1,_⟩:=r1;cases r1;done)
    | (obtain ⟨_,_,r1,_⟩:=r1;cases r1;done)
    | (obtain ⟨_,r1,_⟩:=r1;cases r1;done)
  exact k ρ H _ .refl R (by erw[ah];rw[decide_eq_false hx])
 ·cases q)
theorem J5 (I:Inv X pins σ H s)(R:Rep X.K ρ h H)(n:Nat)(d d':Z.D)(v v':V)(b:Bool)(hu:A.units+n < cLine)(r:ah X.K ρ H d v)(r':ah X.K ρ H d' v')(q:RelV v u)(q':RelV v' u')(e:Z.oU n d d'=some b):
  SeqAt.RcNeAt A s u u' (!b):=(Nu I R n A d d' v v' u u' b hu r r' q q' e).2.2
theorem ER (e:Z.ju h d1 d2=some b):Z.oU 150 d1 d2=some b\/∃a c xs ys,d1=.ref a/\d2=.ref c/\h[a]?=some (.lst xs)/\h[c]?=some (.lst ys)/\Z.xu xs ys=some b:=by
 unfold Z.ju at e;split at e
 ·rename_i a c;split at e
  ·rename_i xs ys e1 e2;exact .inr ⟨a,c,xs,ys,rfl,rfl,e1,e2,e⟩
  ·cases e
 ·exact .inl e
theorem EV {neg:Bool}(hu:X.A.units+200 < cLine):bu X (compareOp (if neg then .NotEq else .Eq)) (λx y=>rP X.K sub (if neg then .ne else .eq) [x,y]):=by
 intro pins s σ H x y v u Q I rx ry ⟨ρ,h,ds,d,h',R,r,q,k⟩;obtain ⟨d1,d2,rfl,r1,r2⟩:=eE r;have q':Z.Bs neg [d1,d2] h=some (d,h'):=by cases neg<;>exact q
 unfold Z.Bs at q';cases e:Z.ju h d1 d2 with
 | none=>erw[e]at q';cases q'
 | some b=>
  erw[e]at q';cases q';have fin:EP X pins σ Q (.bool (b != neg)) s:=⟨.bl (b != neg),H,I,rfl,k ρ H _ .refl R (by erw[ah])⟩
  rcases ER e with e | ⟨a,c,xs,ys,rfl,rfl,e1,e2,e⟩
  ·cases neg with
   | false=>rw[bne_false]at fin;exact (Aa I R 150 X.A d1 d2 x y v u b (by lia) r1 r2 rx ry e).1 _ _ _ _ fin
   | true=>rw[bne_true]at fin;exact J5 I R 150 d1 d2 x y b (by lia) r1 r2 rx ry e _ _ _ _ fin
  ·obtain ⟨l,vs,rfl,_,ha,r1⟩:=dN R r1 e1;obtain ⟨l',vs',rfl,_,hb,r2⟩:=dN R r2 e2;cases rx;cases ry;obtain ⟨its,vv,pl,_⟩:=I.list (.of ha);obtain ⟨its',EL,Iw,_⟩:=I.list (.of hb);have hlen:its.toArray.size=xs.length:=by rw[size_toArray,<-vv.length,<-r1.length]
   have hlen':its'.toArray.size=ys.length:=by rw[size_toArray,<-EL.length,<-r2.length]
   unfold Z.xu at e;split at e
   ·rename_i hl;obtain ⟨ee,h1,h2⟩:=BL e;have at':=z_ (A:=X.A.in1) r1 r2 vv EL h1 (λx x' y y' u u' b hx hx' hy hy' hb=>(Aa I R 149 X.A.in1 x x' y y' u u' b (by show X.A.units+1+149 < cLine;lia) hx hx' hy hy' hb).2);have hb':b=(List.range its.toArray.size).all ee:=by
     rw[h2,hlen,hl,Nat.min_self];simp
    cases neg with
    | false=>rw[bne_false,hb']at fin;exact SeqAt.RcAt.lists pl.isList Iw.isList (by rw[hlen,hlen',hl]) (by lia) at' _ _ _ _ fin
    | true=>rw[bne_true,hb']at fin;exact SeqAt.RcNeAt.lists pl.isList Iw.isList (by rw[hlen,hlen',hl]) (by lia) at' _ _ _ _ fin
   ·rename_i hl;cases e;cases neg with
    | false=>exact SeqAt.RcAt.lists_lengths pl.isList Iw.isList (by rw[hlen,hlen'];simp[hl]) (by lia) _ _ _ _ fin
    | true=>exact SeqAt.RcNeAt.lists_lengths pl.isList Iw.isList (by rw[hlen,hlen'];simp[hl]) (by lia) _ _ _ _ fin
theorem vK (hu:X.A.units+200 < cLine):bu X (compareOp .Eq) (λx y=>rP X.K sub .eq [x,y]):=EV (neg:=false) hu
theorem rH (hu:X.A.units+200 < cLine):bu X (compareOp .NotEq) (λx y=>rP X.K sub .ne [x,y]):=EV (neg:=true) hu
section
variable {pins:List (Addr×Obj)}{σ:L2.St}{H:Hp}{s:Shared}{ρ:List Addr}{h:Z.AH}
theorem G4:∀{ys:List Z.D} {b:Bool},Z.cj x ys=some b->∃e:Nat->Bool,(∀(j:Nat) y,ys[j]?=some y->Z.oU 149 y x=some (e j))/\b=(List.range ys.length).any e:=by
 intro ys
 induction ys with
 | nil=>intro b h;erw[Z.cj]at h;cases h;exact ⟨λ_=>true,λj y h=>by simp at h,by simp⟩
 | cons y ys ih=>
  intro b h;erw[Z.cj]at h;split at h
  ·rename_i a c ea ec;cases h;obtain ⟨e,h1,h2⟩:=ih ec;refine ⟨λj=>match j with | 0=>a | j+1=>e j,λj y' hy=>?_,?_⟩
   ·cases j with
    | zero=>simp at hy;subst hy;exact ea
    | succ j=>exact h1 j y' (by simpa using hy)
   ·rw[h2,length_cons,List.range_succ_eq_map,any_cons,List.any_map];rfl
  ·cases h
theorem xK {A:Around}{its:List Value}(I:Inv X pins σ H s)(R:Rep X.K ρ h H)(hu:A.units+200 < cLine)(r1:ah X.K ρ H d1 x)(rx:RelV x v)(rs:ak X.K ρ H ys vs)(vv:Vals vs its)(e:Z.cj d1 ys=some b):
  ∃f:Value->Bool,(∀y,y∈its.toArray->SeqAt.EqAt A.in1 s y v (f y))/\its.toArray.any f=b:=by
 obtain ⟨g,h1,h2⟩:=G4 e;have at_:∀(j:Nat) (u:Value),its[j]?=some u->SeqAt.EqAt A.in1 s u v (g j):=λj u hj=>by
  have hl:j < ys.length:=by rw[rs.length,vv.length];exact (List.getElem?_eq_some_iff.mp hj).1
  obtain ⟨y,ey,ry⟩:=rs.get (i:=j) (x:=ys[j]) (by simp[hl]);obtain ⟨u',eu,ru⟩:=vv.get ey;rw[hj]at eu;cases eu;exact (Aa I R 149 A.in1 ys[j] d1 y x u v (g j) (by show A.units+1+149 < cLine;lia) ry r1 ru rx (h1 j _ (by simp[hl]))).2
 have one:∀(i j:Nat) (u:Value),its[i]?=some u->its[j]?=some u->g i=g j:=λi j u hi hj=>by
  have li:i < ys.length:=by rw[rs.length,vv.length];exact (List.getElem?_eq_some_iff.mp hi).1
  have lj:j < ys.length:=by rw[rs.length,vv.length];exact (List.getElem?_eq_some_iff.mp hj).1
  obtain ⟨y,ey,ry⟩:=rs.get (i:=i) (x:=ys[i]) (by simp[li]);obtain ⟨y',ey',Nr⟩:=rs.get (i:=j) (x:=ys[j]) (by simp[lj]);obtain ⟨u',eu,ru⟩:=vv.get ey;rw[hi]at eu;cases eu;obtain ⟨u',eu,Nt⟩:=vv.get ey';rw[hj]at eu;cases eu;have:=ru.inj Nt;subst this;have ed:=ah.inj I R _ _ _ ry Nr;have a:=h1 i _ (show ys[i]?=some ys[i] by simp[li]);have c:=h1 j _ (show ys[j]?=some ys[j] by simp[lj]);rw[ed,c]at a;exact (Option.some.inj a).symm
 classical
 refine ⟨λu=>if hu:∃j:Nat,its[j]?=some u then g (Classical.choose hu) else false,λy hy=>?_,?_⟩
 ·obtain ⟨j,hj,ej⟩:=List.getElem_of_mem (List.mem_toArray.mp hy);have ex:∃j:Nat,its[j]?=some y:=⟨j,by rw[getElem?_eq_getElem hj,ej]⟩
  show SeqAt.EqAt _ _ _ _ (if hu:∃j:Nat,its[j]?=some y then g (Classical.choose hu) else false);rw[dif_pos ex];exact at_ _ _ (choose_spec ex)
 ·rw[h2,List.any_toArray];have hlen:ys.length=its.length:=by rw[rs.length,vv.length]
  apply Bool.eq_iff_iff.mpr;rw[List.any_eq_true,List.any_eq_true];constructor
  ·rintro ⟨u,hu',hf⟩;obtain ⟨j,hj,ej⟩:=List.getElem_of_mem hu';have ex:∃j:Nat,its[j]?=some u:=⟨j,by rw[getElem?_eq_getElem hj,ej]⟩
   rw[dif_pos ex]at hf;refine ⟨j,mem_range.mpr (by rw[hlen];exact hj),?_⟩;rw[one j _ u (by rw[getElem?_eq_getElem hj,ej]) (choose_spec ex)];exact hf
  ·rintro ⟨j,hj,hg⟩;have hj':j < its.length:=by rw[<-hlen];exact mem_range.mp hj
   have ex:∃i:Nat,its[i]?=some its[j]:=⟨j,by simp[hj']⟩
   refine ⟨its[j],getElem_mem hj',?_⟩;rw[dif_pos ex,<-one j _ its[j] (by simp[hj']) (choose_spec ex)];exact hg
end
theorem BO (h:dz a=dz b):a=b:=by
 cases a<;>cases b<;>erw[dz]at h
 ·cases h;rfl
 ·cases h
 ·cases h
 ·injection h with h
  injection h with h
  rw[toArray_inj h]
theorem BP (a b:Z.KK):decide (dz a=dz b)=decide (a=b):=by
 by_cases e:a=b
 ·subst e;simp
 ·rw[decide_eq_false e,decide_eq_false λq=>e (BO q)]
theorem Ac {K:Frag}{ρ:List Addr}{H:Hp}{d:Z.D}{k:Z.KK}{v:V}(e:Z.jX d=some k)(r:ah K ρ H d v):v=kV (dz k)/\∀s,k=Sum.inr s->s.length<=Z.lim:=by
 cases d<;>erw[Z.jX]at e<;>first | (cases e;done) | skip
 ·cases e;erw[ah]at r;subst r;exact ⟨rfl,λs z=>by cases z⟩
 ·cases e;erw[ah]at r;obtain ⟨rfl,l⟩:=r;exact ⟨rfl,λs z=>by cases z;exact l⟩
theorem xM {K:Frag}{ρ:List Addr}{H:Hp}(k:Z.KK):∀(kvs:List (Z.KK×Z.D)) (kvs':List (Key×V)),kvs'.map (·.1)=kvs.map (λp=>dz p.1)->ak K ρ H (kvs.map (·.2)) (kvs'.map (·.2))->
  match Z.mC kvs k with
  | some d=>∃v,fG kvs' (dz k)=some v/\ah K ρ H d v
  | none=>fG kvs' (dz k)=none
 | [],kvs',h1,h2=>by
  cases kvs' with
  | nil=>rfl
  | cons _ _=>cases h1
 | (k1,d1)::kvs,kvs',h1,h2=>by
  cases kvs' with
  | nil=>cases h1
  | cons p kvs'=>
   obtain ⟨k2,v2⟩:=p;erw[map_cons,List.cons.injEq]at h1;obtain ⟨rfl,h1⟩:=h1;erw[map_cons,ak]at h2;obtain ⟨y,t,e,r1,r2⟩:=h2;cases e;have ih:=xM k kvs kvs' h1 r2;unfold Z.mC fG at ih ⊢;rw[find?_cons,find?_cons,BP];by_cases e:k1=k
   ·subst e;simp;exact r1
   ·erw[decide_eq_false e];exact ih
theorem J6 {K:Frag}{ρ:List Addr}{H:Hp}(k:Z.KK){d:Z.D}{v:V}(r:ah K ρ H d v)(kvs:List (Z.KK×Z.D))(kvs':List (Key×V))(h1:kvs'.map (·.1)=kvs.map (λp=>dz p.1))(h2:ak K ρ H (kvs.map (·.2)) (kvs'.map (·.2))):
  (putK kvs' (dz k) v).map (·.1)=(Z.xx kvs k d).map (λp=>dz p.1)/\ak K ρ H ((Z.xx kvs k d).map (·.2)) ((putK kvs' (dz k) v).map (·.2)):=by
 have any_eq:∀(kvs:List (Z.KK×Z.D)) (kvs':List (Key×V)),kvs'.map (·.1)=kvs.map (λp=>dz p.1)->(kvs'.any λkv=>decide (kv.1=dz k))=kvs.any λkv=>decide (kv.1=k):=by
  intro kvs
  induction kvs with
  | nil=>intro kvs' h;cases kvs' with
   | nil=>rfl
   | cons _ _=>cases h
  | cons p kvs ih=>intro kvs' h;cases kvs' with
   | nil=>cases h
   | cons q kvs'=>
    erw[map_cons,List.cons.injEq]at h;rw[any_cons,any_cons,ih _ h.2,h.1,BP]
 have map_eq:∀(kvs:List (Z.KK×Z.D)) (kvs':List (Key×V)),kvs'.map (·.1)=kvs.map (λp=>dz p.1)->ak K ρ H (kvs.map (·.2)) (kvs'.map (·.2))->
   (kvs'.map (λkv=>if kv.1=dz k then (kv.1,v) else kv)).map (·.1)=(kvs.map (λkv=>if kv.1=k then (kv.1,d) else kv)).map (λp=>dz p.1)/\
   ak K ρ H ((kvs.map (λkv=>if kv.1=k then (kv.1,d) else kv)).map (·.2)) ((kvs'.map (λkv=>if kv.1=dz k then (kv.1,v) else kv)).map (·.2)):=by
  intro kvs
  induction kvs with
  | nil=>intro kvs' h h';cases kvs' with
   | nil=>exact ⟨rfl,by simp[ak]⟩
   | cons _ _=>cases h
  | cons p kvs ih=>intro kvs' h h';cases kvs' with
   | nil=>cases h
   | cons q kvs'=>
    obtain ⟨k1,d1⟩:=p;obtain ⟨k2,v2⟩:=q;erw[map_cons,List.cons.injEq]at h;obtain ⟨rfl,h⟩:=h;erw[map_cons,ak]at h';obtain ⟨y,t,e,r1,r2⟩:=h';cases e;obtain ⟨i1,i2⟩:=ih kvs' h r2;erw[map_cons,ak];by_cases e:k1=k
    ·subst e;erw[if_true];exact ⟨by rw[i1],v,_,rfl,r,i2⟩
    ·rw[if_neg e,if_neg λz=>e (BO z)];exact ⟨by rw[i1],v2,_,rfl,r1,i2⟩
 unfold putK Z.xx;rw[any_eq kvs kvs' h1];by_cases ha:(kvs.any λkv=>decide (kv.1=k))=true
 ·rw[if_pos ha,if_pos ha];exact map_eq kvs kvs' h1 h2
 ·rw[if_neg ha,if_neg ha];rw[map_append,map_append,map_append,map_append,h1];exact ⟨rfl,h2.append (.one r)⟩
theorem G5 {k:Z.KK}{d:Z.D}{kvs:List (Z.KK×Z.D)}{P:Z.KK->Prop}(hk:P k)(h:∀p∈kvs,P p.1):∀p∈Z.xx kvs k d,P p.1:=by
 intro p hp;unfold Z.xx at hp;split at hp
 ·obtain ⟨q,hq,rfl⟩:=mem_map.mp hp;split
  ·exact h q hq
  ·exact h q hq
 ·rcases mem_append.mp hp with hp | hp
  ·exact h p hp
  ·rw[mem_singleton.mp hp];exact hk
theorem Iy {neg:Bool}(hu:X.A.units+200 < cLine):bu X (compareOp (if neg then .NotIn else .In)) (λx y=>rP X.K sub (if neg then .kQ else .D_) [x,y]):=by
 intro pins s σ H x y v u Q I rx ry ⟨ρ,h,ds,d,h',R,r,q,k⟩;obtain ⟨d1,d2,rfl,r1,r2⟩:=eE r;have q':Z.yB neg [d1,d2] h=some (d,h'):=by cases neg<;>exact q
 unfold Z.yB at q';split at q'
 ·rename_i e;cases e;rename_i ys;cases e:Z.cj d1 ys with
  | none=>rw[e]at q';cases q'
  | some b=>
   rw[e]at q';cases q';erw[ah]at r2;obtain ⟨a,vs,rfl,hq,rs⟩:=r2;cases ry;obtain ⟨its,vv,it,_⟩:=I.tuple hq;obtain ⟨f,f1,f2⟩:=xK I R hu r1 rx rs vv e;have fin:EP X pins σ Q (.bool (b != neg)) s:=⟨.bl (b != neg),H,I,rfl,k ρ H _ .refl R (by erw[ah])⟩
   cases neg with
   | false=>exact SeqAt.in_tupleAt f (show s.heap.IsTuple a its.toArray from it) f1 (by rw[f2];rw[bne_false]at fin;exact fin)
   | true=>exact SeqAt.notIn_tupleAt f (show s.heap.IsTuple a its.toArray from it) f1 (by rw[f2];rw[bne_true]at fin;exact fin)
 ·rename_i e;cases e;rename_i ys;cases e:Z.cj d1 ys with
  | none=>rw[e]at q';cases q'
  | some b=>
   rw[e]at q';cases q';erw[ah]at r2;obtain ⟨a,vs,rfl,hq,rs⟩:=r2;cases ry;obtain ⟨its,vv,it,_⟩:=I.list hq.rB;obtain ⟨f,f1,f2⟩:=xK I R hu r1 rx rs vv e;have fin:EP X pins σ Q (.bool (b != neg)) s:=⟨.bl (b != neg),H,I,rfl,k ρ H _ .refl R (by erw[ah])⟩
   cases neg with
   | false=>exact SeqAt.in_listAt f it.isList f1 (by rw[f2];rw[bne_false]at fin;exact fin)
   | true=>exact SeqAt.notIn_listAt f it.isList f1 (by rw[f2];rw[bne_true]at fin;exact fin)
 ·rename_i e;cases e;rename_i n;split at q'
  ·rename_i ys e1;cases e:Z.cj d1 ys with
   | none=>rw[e]at q';cases q'
   | some b=>
    rw[e]at q';cases q';obtain ⟨a,vs,rfl,_,hq,rs⟩:=dN R r2 e1;cases ry;obtain ⟨its,vv,it,_⟩:=I.list (.of hq);obtain ⟨f,f1,f2⟩:=xK I R hu r1 rx rs vv e;have fin:EP X pins σ Q (.bool (b != neg)) s:=⟨.bl (b != neg),H,I,rfl,k ρ H _ .refl R (by erw[ah])⟩
    cases neg with
    | false=>exact SeqAt.in_listAt f it.isList f1 (by rw[f2];rw[bne_false]at fin;exact fin)
    | true=>exact SeqAt.notIn_listAt f it.isList f1 (by rw[f2];rw[bne_true]at fin;exact fin)
  ·rename_i kvs e1;cases e:Z.jX d1 with
   | none=>rw[e]at q';cases q'
   | some kk=>
    rw[e]at q';cases q';obtain ⟨a,kvs',rfl,_,hq,hk,rs,_⟩:=wy R r2 e1;obtain ⟨rfl,_⟩:=Ac e r1;cases ry;have vr:=xM (K:=X.K) (ρ:=ρ) (H:=H) kk kvs kvs' hk rs;have his:(fG kvs' (dz kk)).isSome=(Z.mC kvs kk).isSome:=by
     cases e:Z.mC kvs kk with
     | none=>rw[e]at vr;rw[vr];rfl
     | some d=>rw[e]at vr;obtain ⟨v,e',_⟩:=vr;rw[e'];rfl
    have fin:Q (.bl ((Z.mC kvs kk).isSome != neg)) H:=k ρ H _ .refl R (by erw[ah]);have g:mH H a (kV (dz kk)) (fG kvs' (dz kk)):=mH.k hq;cases neg with
    | false=>exact Xg (by lia) I g rx λs' I'=>⟨.bl _,H,I',rfl,by rw[his];rw[bne_false]at fin;exact fin⟩
    | true=>exact JO (by lia) I g rx λs' I'=>⟨.bl _,H,I',rfl,by rw[his];rw[bne_true]at fin;exact fin⟩
  ·cases q'
 ·cases q'
theorem xN (hu:X.A.units+200 < cLine):bu X (compareOp .In) (λx y=>rP X.K sub .D_ [x,y]):=Iy (neg:=false) hu
theorem uz (hu:X.A.units+200 < cLine):bu X (compareOp .NotIn) (λx y=>rP X.K sub .kQ [x,y]):=Iy (neg:=true) hu
theorem xO {K:Frag}{ρ:List Addr}{H:Hp}{xs:List Z.D}{ys:List V}{i:Int}{d:Z.D}(r:ak K ρ H xs ys)(e:Z.bx xs i=some d):∃v,bx ys i=some v/\ah K ρ H d v:=by
 unfold Z.bx at e;cases ej:Z.gP xs.length i with
 | none=>rw[ej]at e;cases e
 | some j=>
  rw[ej]at e;obtain ⟨v,e1,e2⟩:=r.get (i:=j) e;refine ⟨v,?_,e2⟩;unfold bx;rw[<-r.length];show (Z.gP xs.length i).bind _=_;rw[ej];exact e1
theorem RL (hu:X.A.units+200 < cLine):mS X (λx y=>rP X.K sub .idx [x,y]):=by
 intro value slice pins s σ H x y v u Q I rx ry ⟨ρ,h,ds,d,h',R,r,q,k⟩ hs;obtain ⟨d1,d2,rfl,r1,r2⟩:=eE r;cases d1 with
 | str a=>
  cases d2 with
  | int i=>
   change (Z.bx a i).map (λc=>(Z.D.str [c],h))=_ at q;cases e:Z.bx a i with
   | none=>rw[e]at q;cases q
   | some c=>
    rw[e]at q;cases q;erw[ah]at r1 r2;obtain ⟨rfl,hl⟩:=r1;subst r2;refine wg value slice pins s σ H _ _ v u Q I rx ry (.inr (.inr ⟨_,i,c,rfl,rfl,by rw[gX,<-gC];exact hl,e,k ρ H _ .refl R ?_⟩)) hs;unfold ah;exact ⟨rfl,by show 1<=16777216;decide⟩
  | _=>cases q
 | tup xs=>
  cases d2 with
  | int i=>
   change (Z.bx xs i).map (λv=>(v,h))=_ at q;cases e:Z.bx xs i with
   | none=>rw[e]at q;cases q
   | some c=>
    rw[e]at q;cases q;erw[ah]at r1 r2;obtain ⟨a,ys,rfl,hq,rs⟩:=r1;subst r2;obtain ⟨w,e1,e2⟩:=xO rs e;exact wg value slice pins s σ H _ _ v u Q I rx ry (.inr (.inl ⟨a,ys,i,w,rfl,rfl,hq,e1,k ρ H _ .refl R e2⟩)) hs
  | _=>cases q
 | bV xs=>
  cases d2 with
  | int i=>
   change (Z.bx xs i).map (λv=>(v,h))=_ at q;cases e:Z.bx xs i with
   | none=>rw[e]at q;cases q
   | some c=>
    rw[e]at q;cases q;erw[ah]at r1 r2;obtain ⟨a,ys,rfl,hq,rs⟩:=r1;subst r2;obtain ⟨w,e1,e2⟩:=xO rs e;exact wg value slice pins s σ H _ _ v u Q I rx ry (.inl ⟨a,ys,i,w,rfl,rfl,hq.rB,e1,k ρ H _ .refl R e2⟩) hs
  | _=>cases q
 | ref n=>
  change (match h[n]? with | some (.dct kvs)=>(Z.jX d2).bind λq=>(Z.mC kvs q).map λv=>(v,h) | some (.lst xs)=>(match (generalizing:=false) d2 with | .int i=>(Z.bx xs i).map λv=>(v,h) | _=>none) | _=>none)=_ at q;cases e1:h[n]? with
  | none=>rw[e1]at q;cases q
  | some o=>
   rw[e1]at q;cases o with
   | dct kvs=>
    change (Z.jX d2).bind (λq=>(Z.mC kvs q).map λv=>(v,h))=_ at q;cases e:Z.jX d2 with
    | none=>rw[e]at q;cases q
    | some kk=>
     rw[e,bind_some]at q;cases e':Z.mC kvs kk with
     | none=>rw[e']at q;cases q
     | some dv=>
      rw[e']at q;cases q;obtain ⟨a,kvs',rfl,_,hq,hk,rs,_⟩:=wy R r1 e1;obtain ⟨rfl,_⟩:=Ac e r2;cases rx;have vr:=xM (K:=X.K) (ρ:=ρ) (H:=H) kk kvs kvs' hk rs;rw[e']at vr;obtain ⟨w,ew,q_⟩:=vr;have g:mH H a (kV (dz kk)) (some w):=by rw[<-ew];exact mH.k hq
      exact tail_any (Bd I g) PySem.F.slot_dict_getitem.lookup (EB (by lia) I g ry λw' s3 I3 Xk=>⟨w,H,I3,Xk,k ρ H _ .refl R q_⟩) hs
   | lst xs=>
    cases d2 with
    | int i=>
     change (Z.bx xs i).map (λv=>(v,h))=_ at q;cases e:Z.bx xs i with
     | none=>rw[e]at q;cases q
     | some c=>
      rw[e]at q;cases q;obtain ⟨a,ys,rfl,_,hq,rs⟩:=dN R r1 e1;erw[ah]at r2;subst r2;obtain ⟨w,e1,e2⟩:=xO rs e;exact wg value slice pins s σ H _ _ v u Q I rx ry (.inl ⟨a,ys,i,w,rfl,rfl,.of hq,e1,k ρ H _ .refl R e2⟩) hs
    | _=>cases q
   | _=>cases q
 | _=>cases q
end
section
variable {X:Cx}{sub:Nat->Nat->Bool}{Γ:Z.bS}{E:Z.PX}
theorem Ad (n d:Nat)(o:Option Int):HT.aV n d o=Z.aV n d o:=by
 cases o with
 | none=>rfl
 | some v=>
  unfold HT.aV Z.aV;dsimp only;split<;>lia
theorem EW (a b:Nat):sliceRange (a:Int) (b:Int) 1=(List.range (b - a)).map λm=>a+m:=by
 unfold sliceRange;have e:(if (1:Int) > 0 then (if (a:Int) < b then ((b:Int) - a+1 - 1) / 1 else 0) else (if (a:Int) > b then ((a:Int) - b - 1 - 1) / (-1) else 0)).toNat=b - a:=by
  rw[if_pos (by decide)];split
  ·rw[Int.ediv_one];lia
  ·lia
 show List.map _ (List.range (Int.toNat _))=_;rw[e];apply List.map_congr_left;intro m _
 lia
theorem idx_eq (lo hi:Option Int)(n:Nat):Builtin.Str.strSliceIndices lo hi 1 n=(List.range (Z.aV n n hi - Z.aV n 0 lo)).map λm=>Z.aV n 0 lo+m:=by
 rw[<-EW];unfold Builtin.Str.strSliceIndices;dsimp only;congr 1
 ·cases lo with
  | none=>simp[Z.aV]
  | some v=>
   erw[Z.aV];rw[if_pos (by decide)];split<;>lia
 ·cases hi with
  | none=>simp[Z.aV]
  | some v=>
   erw[Z.aV];rw[if_pos (by decide)];split<;>lia
theorem BQ {α:Type}:∀(k i:Nat) (s:List α),((List.range k).map λm=>i+m).filterMap (λj=>s[j]?)=(s.drop i).take k
 | 0,i,s=>by simp
 | k+1,i,s=>by
  rw[List.range_succ,map_append,List.filterMap_append,BQ k i s,take_succ];congr 1;erw[map_cons,map_nil,filterMap_cons,List.filterMap_nil];rw[getElem?_drop];cases s[i+k]?<;>rfl
theorem Ny (s:List Nat)(lo hi:Option Int):((Builtin.Str.strSliceIndices lo hi 1 s.length).filterMap λi=>s[i]?)=Z.cut s lo hi:=by
 rw[idx_eq,BQ];rfl
theorem EX {α:Type}(s:List α)(lo hi:Option Int):(Z.cut s lo hi).length<=s.length:=by
 unfold Z.cut;rw[length_take,length_drop]
 lia
theorem v9 (n d:Nat)(hd:d<=n)(o:Option Int):Z.aV n d o<=n:=by
 rw[<-Ad];exact HT.v9 n d hd o
theorem G6 {α:Type}(s:List α)(lo hi:Option Int)(h:Z.aV s.length s.length hi - Z.aV s.length 0 lo=s.length):Z.cut s lo hi=s:=by
 have h1:=v9 s.length s.length (le_refl _) hi;unfold Z.cut;by_cases h0:Z.aV s.length 0 lo=0
 ·rw[h,h0,drop_zero,take_length]
 ·have:s.length=0:=by lia
  rw[length_eq_zero_iff.mp this];simp
theorem Nz:oV X (λx lo hi H Q=>∃z:List Nat,x=.str ⟨z.toArray⟩/\z.length<=Z.lim/\Q (.str ⟨(Z.cut z lo hi).toArray⟩) H):=by
 intro pins s σ H x v vl vu lo hi sl Q I rx hs pl pu h;obtain ⟨z,rfl,hz,q⟩:=h;obtain ⟨t,rfl⟩:=rx;refine ⟨"str",_,F.slot_str_getitem.lookup,typeIs_str s _ t,?_⟩;obtain ⟨l',e1,e2⟩:∃l':Option (Int×Tok),vl=partValue l'/\l'.map (·.1)=lo:=by
  cases pl with
  | none=>exact ⟨none,rfl,rfl⟩
  | int i t=>exact ⟨some (i,t),rfl,rfl⟩
 obtain ⟨u',e3,e4⟩:∃l':Option (Int×Tok),vu=partValue l'/\l'.map (·.1)=hi:=by
  cases pu with
  | none=>exact ⟨none,rfl,rfl⟩
  | int i t=>exact ⟨some (i,t),rfl,rfl⟩
 subst e1 e3;refine wpAny_getItem_str_slice (l:=l') (u:=u') (st:=none) hs rfl ?_;have hp:slicePicked ⟨z.toArray⟩ l' u' none=Builtin.Str.strSliceIndices lo hi 1 z.length:=by
  unfold slicePicked;rw[e2,e4,gX];rfl
 have hc:((slicePicked ⟨z.toArray⟩ l' u' none).filterMap ((⟨z.toArray⟩:Str).cps[·]?))=Z.cut z lo hi:=by
  rw[hp,<-Ny];congr 1;funext i;simp
 unfold sliceMade;split
 ·rename_i hw;have hl:(slicePicked ⟨z.toArray⟩ l' u' none).length=z.length:=by
   rw[and_eq_true]at hw;have:=beq_iff_eq.mp hw.2;rw[this,gX]
  have hz:Z.cut z lo hi=z:=by
   rw[hp,idx_eq,length_map,length_range]at hl;exact G6 z lo hi hl
  show EP X pins σ Q (.str ⟨z.toArray⟩ t) s;exact ⟨.str ⟨z.toArray⟩,H,I,⟨t,rfl⟩,by rw[hz]at q;exact q⟩
 ·rw[hc];refine ⟨by rw[gX,<-gC];exact le_trans (EX z lo hi) hz,.str ⟨(Z.cut z lo hi).toArray⟩,H,I.tok _,⟨_,rfl⟩,q⟩
def YQ (K:Frag)(x:V)(lo hi:Option Int)(H:Hp)(Q:VK):Prop:=∃ρ h d e h',Rep K ρ h H/\ah K ρ H d x/\Z.cu d lo hi h=some (e,h')/\
 ∀ρ' H' v,Ext K ρ H ρ' H'->Rep K ρ' h' H'->ah K ρ' H' e v->Q v H'
theorem xP {K:Frag}{ρ:List Addr}{H:Hp}{xs:List Z.D}{ys:List V}{lo hi:Option Int}(r:ak K ρ H xs ys):ak K ρ H (Z.cut xs lo hi) (oq ys lo hi):=by
 unfold Z.cut oq;rw[Ad,Ad,<-r.length];exact (r.drop _).take _
theorem Ae:oV X (YQ X.K):=Xh (Nz.or (MS.or JL)) (by
 rintro x lo hi H Q ⟨ρ,h,d,e,h',R,r,q,k⟩;unfold Z.cu at q;split at q
 ·cases q;erw[ah]at r;obtain ⟨rfl,hl⟩:=r;refine .inl ⟨_,rfl,hl,k ρ H _ .refl R ?_⟩;unfold ah;exact ⟨rfl,le_trans (EX _ lo hi) hl⟩
 ·rename_i xs;split at q
  ·cases q
  ·rename_i hw;cases q;erw[ah]at r;obtain ⟨a,ys,rfl,hq,rs⟩:=r;refine .inr (.inl ⟨a,ys,rfl,hq,by rw[<-rs.length,Ad,Ad];exact hw,λp hp=>?_⟩);have e2:Ext X.K ρ H ρ (upd H p (.tup (oq ys lo hi))):=Ext.fresh hp;exact k ρ _ _ e2 (R.fresh hp) (by erw[ah];exact ⟨p,_,rfl,.of aK,ak.mono e2 _ _ (xP rs)⟩)
 ·obtain ⟨hl,rfl,rfl⟩:=j6 q;erw[ah]at r;obtain ⟨a,ys,rfl,hq,rs⟩:=r;refine .inr (.inr ⟨a,ys,rfl,hq.rB,λp hp=>?_⟩);obtain ⟨e2,R2,r2⟩:=eO R (xP rs) hp;exact k _ _ _ e2 R2 r2
 ·split at q
  ·rename_i e1;obtain ⟨hl,rfl,rfl⟩:=j6 q;obtain ⟨a,ys,rfl,_,hq,rs⟩:=dN R r e1;refine .inr (.inr ⟨a,ys,rfl,.of hq,λp hp=>?_⟩);obtain ⟨e2,R2,r2⟩:=eO R (xP rs) hp;exact k _ _ _ e2 R2 r2
  ·cases q
 ·cases q)
theorem Af (ha:LE X sub Γ E a a')(hb:LE X sub Γ E b b'):LE X sub Γ E (.Subscript a (.Slice (some b) none none p) pos) (.prim .zF (.cons a' (.cons b' .nil))):=by
 refine dA (vE Ae ha (uw hb) BE) ?_;rintro σ H Q ⟨ρ,h,τ,Q',R,L,w,k⟩;erw[Z.aF,Z.aW]at w;refine ⟨ρ,h,τ,_,R,L,w,λd1 h1 aA H1 x e1 R1 r1 w1=>⟨aA,h1,τ,_,R1,L.mono e1,w1,λd2 h2 a_ H2 y e2 R2 r2 w2=>?_⟩⟩;cases d2 with
 | int i=>
  erw[ah]at r2;refine ⟨i,r2,?_⟩;change (match Z.cu d1 (some i) none h2 with | some (v,h2)=>Q' v h2 | none=>False) at w2;cases q:Z.cu d1 (some i) none h2 with
  | none=>rw[q]at w2;exact w2.elim
  | some z=>rw[q]at w2;exact ⟨a_,h2,d1,z.1,z.2,R2,ah.mono e2 _ _ r1,q,λρ' H' v e' R' r'=>k _ _ ρ' H' v (e1.trans (e2.trans e')) R' r' w2⟩
 | _=>exact w2.elim
theorem EY (ha:LE X sub Γ E a a')(hb:LE X sub Γ E b b'):LE X sub Γ E (.Subscript a (.Slice none (some b) none p) pos) (.prim .Ea (.cons a' (.cons b' .nil))):=by
 refine dA (vE Ae ha BE (uw hb)) ?_;rintro σ H Q ⟨ρ,h,τ,Q',R,L,w,k⟩;erw[Z.aF,Z.aW]at w;refine ⟨ρ,h,τ,_,R,L,w,λd1 h1 aA H1 x e1 R1 r1 w1=>⟨aA,h1,τ,_,R1,L.mono e1,w1,λd2 h2 a_ H2 y e2 R2 r2 w2=>?_⟩⟩;cases d2 with
 | int i=>
  erw[ah]at r2;refine ⟨i,r2,?_⟩;change (match Z.cu d1 none (some i) h2 with | some (v,h2)=>Q' v h2 | none=>False) at w2;cases q:Z.cu d1 none (some i) h2 with
  | none=>rw[q]at w2;exact w2.elim
  | some z=>rw[q]at w2;exact ⟨a_,h2,d1,z.1,z.2,R2,ah.mono e2 _ _ r1,q,λρ' H' v e' R' r'=>k _ _ ρ' H' v (e1.trans (e2.trans e')) R' r' w2⟩
 | _=>exact w2.elim
theorem BR (ha:LE X sub Γ E a a')(hb:LE X sub Γ E b b')(hc:LE X sub Γ E c c'):LE X sub Γ E (.Subscript a (.Slice (some b) (some c) none p) pos) (.slc a' b' c'):=by
 refine dA (vE Ae ha (uw hb) (uw hc)) ?_;rintro σ H Q ⟨ρ,h,τ,Q',R,L,w,k⟩;erw[Z.aF]at w;refine ⟨ρ,h,τ,_,R,L,w,λd1 h1 aA H1 x e1 R1 r1 w1=>⟨aA,h1,τ,_,R1,L.mono e1,w1,λd2 h2 a_ H2 y e2 R2 r2 w2=>?_⟩⟩;cases d2 with
 | int i=>
  erw[ah]at r2;refine ⟨i,r2,a_,h2,τ,_,R2,L.mono (e1.trans e2),w2,λd3 h3 gB H3 z e3 R3 r3 w3=>?_⟩;cases d3 with
  | int j=>
   erw[ah]at r3;refine ⟨j,r3,?_⟩;dsimp only at w3;cases q:Z.cu d1 (some i) (some j) h3 with
   | none=>rw[q]at w3;exact w3.elim
   | some z=>rw[q]at w3;exact ⟨gB,h3,d1,z.1,z.2,R3,ah.mono (e2.trans e3) _ _ r1,q,λρ' H' v e' R' r'=>k _ _ ρ' H' v (e1.trans (e2.trans (e3.trans e'))) R' r' w3⟩
  | _=>exact w3.elim
 | _=>exact w2.elim
theorem RM:cR X (.builtin "len") (rP X.K sub .len):=M_ (GL.or EH) (by
 rintro xs H Q ⟨ρ,h,ds,d,h',R,r,q,k⟩;change Z.Gr _ _=_ at q;unfold Z.Gr at q;split at q
 ·cases q;obtain ⟨x,xs,rfl⟩:∃x t,xs=x::t:=by erw[ak]at r;obtain ⟨y,t,e,_⟩:=r;exact ⟨y,t,e⟩
  erw[ak]at r;obtain ⟨y,t,e,r,rfl⟩:=r;cases e;erw[ah]at r;obtain ⟨rfl,hl⟩:=r;exact .inl ⟨_,_,rfl,⟨by rw[gX,<-gC];exact hl,rfl⟩,by rw[gX];exact k ρ H _ .refl R (by erw[ah])⟩
 ·cases q;erw[ak]at r;obtain ⟨y,t,rfl,r,rfl⟩:=r;erw[ah]at r;obtain ⟨a,ys,rfl,hq,rs⟩:=r;exact .inl ⟨_,_,rfl,.inr ⟨ys,hq,rfl⟩,by rw[<-rs.length];exact k ρ H _ .refl R (by erw[ah])⟩
 ·cases q;erw[ak]at r;obtain ⟨y,t,rfl,r,rfl⟩:=r;erw[ah]at r;obtain ⟨a,ys,rfl,hq,rs⟩:=r;exact .inl ⟨_,_,rfl,.inl ⟨ys,hq.rB,rfl⟩,by rw[<-rs.length];exact k ρ H _ .refl R (by erw[ah])⟩
 ·rename_i n;erw[ak]at r;obtain ⟨y,t,rfl,r,rfl⟩:=r;split at q
  ·rename_i e1;cases q;obtain ⟨a,ys,rfl,_,hq,rs⟩:=dN R r e1;exact .inl ⟨_,_,rfl,.inl ⟨ys,.of hq,rfl⟩,by rw[<-rs.length];exact k ρ H _ .refl R (by erw[ah])⟩
  ·rename_i e1;cases q;obtain ⟨a,kvs,rfl,_,hq,hk,rs,_⟩:=wy R r e1;have:=rs.length;rw[length_map,length_map]at this;exact .inr ⟨_,_,rfl,hq,by rw[<-this];exact k ρ H _ .refl R (by erw[ah])⟩
  ·cases q
 ·cases q)
theorem G7:mU X "list.append" (λx xs=>rP X.K sub .append (x::xs)):=Nb yL (by
 rintro x xs H Q ⟨ρ,h,ds,d,h',R,r,q,k⟩;change Z.zI _ _=_ at q;unfold Z.zI at q;split at q
 ·split at q
  ·rename_i e1;erw[ak]at r;obtain ⟨_,_,e,r1,y,_,rfl,r2,rfl⟩:=r;cases e;obtain ⟨a,ys,rfl,hn,ha,rs⟩:=dN R r1 e1;obtain ⟨hl,rfl,rfl⟩:=G2 q;rw[length_append,List.length_singleton]at hl;obtain ⟨e2,R2⟩:=kX (xs:=[]) R hn ha (rs.append (.one r2));exact ⟨a,ys,y,rfl,rfl,ha,by rw[<-rs.length,<-gC];lia,k _ _ _ e2 R2 (by erw[ah])⟩
  ·cases q
 ·cases q)
theorem uB:mU X "list.pop" (λx xs=>rP X.K sub .pop (x::xs)):=Nb M4 (by
 rintro x xs H Q ⟨ρ,h,ds,d,h',R,r,q,k⟩;change Z.Gu _ _=_ at q;unfold Z.Gu at q;split at q
 ·split at q
  ·rename_i e1;erw[ak]at r;obtain ⟨_,_,e,r1,rfl⟩:=r;cases e;obtain ⟨a,ys,rfl,hn,ha,rs⟩:=dN R r1 e1;split at q
   ·rename_i v ev;cases q;rw[List.getLast?_eq_getElem?]at ev;obtain ⟨y,ey,ry⟩:=rs.get ev;obtain ⟨e2,R2⟩:=kX (xs:=[]) R hn ha rs.dropLast;exact ⟨a,ys,y,rfl,rfl,ha,by rw[<-rs.length];exact ey,k _ _ _ e2 R2 (ah.mono e2 _ _ ry)⟩
   ·cases q
  ·cases q
 ·cases q)
theorem nZ.or (h:nZ X t)(h':nZ X t'):nZ X (λo i v H Q=>t o i v H Q\/t' o i v H Q):=by
 intro pins s σ H o i v ov iv u Q I ro ri rv q;rcases q with q | q
 ·exact h pins s σ H o i v ov iv u Q I ro ri rv q
 ·exact h' pins s σ H o i v ov iv u Q I ro ri rv q
theorem set_dict (hu:X.A.units+1 < cLine):nZ X (λo i v H Q=>∃a H',o=.ref a/\z4 H a i v H'/\Q H'):=by
 intro pins s σ H o i v ov iv u Q I ro ri rv ⟨a,H',e,g,q⟩;subst e;cases ro;exact EC hu I g ri rv λs' I'=>⟨H',I',q⟩
theorem NC (hu:X.A.units+200 < cLine):nZ X (λo i v H Q=>rP X.K sub .fC [o,i,v] H λ_ H'=>Q H'):=by
 intro pins s σ H o i v ov iv u Q I ro ri rv ⟨ρ,h,ds,d,h',R,r,q,k⟩;refine (nZ.or set_list (set_dict (by lia))) pins s σ H o i v ov iv u Q I ro ri rv ?_;obtain ⟨d1,d2,d3,rfl,r1,r2,r3⟩:=RH r;change Z.CV _ _=_ at q;unfold Z.CV at q;split at q
 ·rename_i e;cases e;rename_i n;split at q
  ·rename_i kvs e1;cases e:Z.jX d2 with
   | none=>rw[e]at q;cases q
   | some kk=>
    rw[e]at q;erw[bind_some]at q;split at q
    ·rename_i hl;cases q;obtain ⟨a,kvs',rfl,hn,ha,hk,rs,hs⟩:=wy R r1 e1;obtain ⟨rfl,hk2⟩:=Ac e r2;have hlen:=rs.length;rw[length_map,length_map]at hlen;have e2:Ext X.K ρ H ρ (upd H a (.dK (putK kvs' (dz kk) v))):=Ext.write ha (λ_=>by simp) (λ_ _=>by simp);obtain ⟨p1,p2⟩:=J6 kk r3 kvs kvs' hk rs;refine .inr ⟨a,_,rfl,z4.k (k:=dz kk) ha (by rw[<-hlen,<-gC];exact hl),k ρ _ .non e2 (R.write hn ha (λ_=>by simp) (λ_ _=>by simp) ⟨_,aK,p1,ak.mono e2 _ _ p2,?_⟩) (by erw[ah])⟩;exact G5 (P:=λq=>∀s,q=Sum.inr s->s.length<=Z.lim) hk2 hs
    ·cases q
  ·rename_i xs e1;split at q
   ·rename_i i;split at q
    ·rename_i j ej;cases q;obtain ⟨a,ys,rfl,hn,ha,rs⟩:=dN R r1 e1;erw[ah]at r2;subst r2;obtain ⟨e2,R2⟩:=kX (xs:=[]) R hn ha (rs.set j r3);exact .inl ⟨a,ys,i,j,rfl,rfl,ha,by rw[<-rs.length];exact ej,k _ _ .non e2 R2 (by erw[ah])⟩
    ·cases q
   ·cases q
  ·cases q
 ·cases q
def BU:Z.KN->String
 | .int=>"int" | .bool=>"bool" | .str=>"str" | .list=>"list" | .tuple=>"tuple" | .cls _=>"?"
def YR:Nat->String
 | 0=>"NoneType" | 1=>"bool" | 2=>"int" | 3=>"str" | 4=>"tuple" | 5=>"list" | 6=>"dict" | _=>"?"
theorem rJ {K:Frag}(k:Z.KN)(hk:∀c,k≠.cls c)(t:Nat)(ht:t<=6):kitOne K (.type (YR t)) (.type (BU k))=some (Z.HV k t):=by
 have h:t=0\/t=1\/t=2\/t=3\/t=4\/t=5\/t=6:=by lia
 cases k with
 | cls c=>exact absurd rfl (hk c)
 | _=>rcases h with rfl | rfl | rfl | rfl | rfl | rfl | rfl<;>kernel_rfl
theorem RN (k:Z.KN)(hk:∀c,k≠.cls c):cR X (.builtin "isinstance") (λxs H Q=>∃x,xs=[x,.ty (BU k)]/\rP X.K sub (.gK k) [x] H Q):=by
 intro pins s σ H xs us Q I r ⟨x,e,ρ,h,ds,d,h',R,rr,q,kk⟩;subst e;obtain ⟨u,w',rfl,rx,rt⟩:=vals2 r;cases (show w'=Value.type (BU k) from rt);obtain ⟨d1,rfl,r1⟩:=oA rr;change ((Z.Eb h d1).map (Z.HV k)).map (λb=>(Z.D.bl b,h))=some (d,h') at q;cases e:Z.Eb h d1 with
 | none=>rw[e]at q;cases q
 | some t=>
  rw[e]at q;cases q;have fin:∀tk,EP X pins σ Q (.bool (Z.HV k t)) {s with toks:=tk}:=λtk=>⟨.bl _,H,I.tok _,rfl,kk ρ H _ .refl R (by erw[ah])⟩
  cases d1 with
  | non=>
   cases e;erw[ah]at r1;subst r1;cases rx;exact kia_one PySem.W.kitx_none I.bX True.intro (rJ k hk 0 (by decide)) (λz=>nomatch z) fin
  | bl c=>
   cases e;erw[ah]at r1;subst r1;cases rx;exact kia_one PySem.W.kitx_bool I.bX True.intro (rJ k hk 1 (by decide)) (λz=>nomatch z) fin
  | int i=>
   cases e;erw[ah]at r1;subst r1;obtain ⟨t,rfl⟩:=rx;exact kia_one PySem.W.kitx_int I.bX True.intro (rJ k hk 2 (by decide)) (λz=>nomatch z) fin
  | str i=>
   cases e;erw[ah]at r1;obtain ⟨rfl,_⟩:=r1;obtain ⟨t,rfl⟩:=rx;exact kia_one PySem.W.kitx_str I.bX True.intro (rJ k hk 3 (by decide)) (λz=>nomatch z) fin
  | tup xs=>
   cases e;erw[ah]at r1;obtain ⟨a,ys,rfl,hq,_⟩:=r1;cases rx;obtain ⟨its,_,⟨o,h1,h2,_⟩,_⟩:=I.tuple hq;exact kia_one PySem.W.kitx_tuple I.bX ⟨o,h1,h2⟩ (rJ k hk 4 (by decide)) (λz=>nomatch z) fin
  | bV xs=>
   cases e;erw[ah]at r1;obtain ⟨a,ys,rfl,hq,_⟩:=r1;cases rx;obtain ⟨its,_,⟨o,n,h1,h2,_⟩,_⟩:=I.list hq.rB;exact kia_one kitx_list I.bX ⟨o,h1,h2⟩ (rJ k hk 5 (by decide)) (λz=>nomatch z) fin
  | ref n=>
   erw[Z.Eb]at e;split at e
   ·rename_i xs eo;cases e;obtain ⟨a,ys,rfl,_,ha,_⟩:=dN R r1 eo;cases rx;obtain ⟨its,_,⟨o,n,h1,h2,_⟩,_⟩:=I.list (.of ha);exact kia_one kitx_list I.bX ⟨o,h1,h2⟩ (rJ k hk 5 (by decide)) (λz=>nomatch z) fin
   ·rename_i xs eo;cases e;obtain ⟨a,ys,rfl,_,ha,_⟩:=wy R r1 eo;cases rx;obtain ⟨_,_,vs,_,p⟩:=(show bD X.prog X.w H s.heap a (.dK ys) from I.hok a _ ha)
    obtain ⟨o,es,ep,h1,h2,_⟩:=p;exact kia_one PySem.W.kitx_dict I.bX ⟨o,h1,h2.1⟩ (rJ k hk 6 (by decide)) (λz=>nomatch z) fin
   ·cases e
theorem ND (hk:∀c,k≠.cls c)(hg:Gl X "isinstance")(hm:X.mg "isinstance"=none)(hgt:Gl X tn)(hmt:X.mg tn=none)(EZ:bootBuiltins tn=some (.type (BU k)))(hnn:tn≠"__name__")(hdd:bM tn)(he:LE X sub Γ E e e')(hs:∀es,dn X.env e es):
  LE X sub Γ E (.Call (.Name "isinstance" p) [e,.Name tn p2] [] pos) (.prim (.gK k) (.cons e' .nil)):=by
 have hn:PE X (.Name tn p2) (tC (.ty (BU k))):=Bw hgt hmt EZ rfl hnn hdd;refine dA (oh (RN (sub:=sub) k hk) hg hm (by rfl) (dw he (dw hn i_ (by rfl)) (hs _)) (by decide) (by decide) (hs _) (by rfl)) ?_;rintro σ H Q ⟨ρ,h,τ,Q',R,L,w,k'⟩;erw[Z.aF,Z.aW]at w;refine ⟨ρ,h,τ,_,R,L,w,λd1 h1 aA H1 x e1 R1 r1 w1=>?_⟩;cases q:Z.prim sub (.gK k) [d1] h1 with
 | none=>rw[q]at w1;exact w1.elim
 | some z=>
  rw[q]at w1;exact ⟨x,rfl,aA,h1,[d1],z.1,z.2,R1,.one r1,q,λρ' H' v e' R' r'=>k' _ _ ρ' H' v (e1.trans e') R' r' w1⟩
def aN (K:Frag)(Γ:Z.bS)(f:Nat):Sp:=λvs H Q _=>∃ρ h ds Q',∃E':Z.PX,Rep K ρ h H/\ak K ρ H ds vs/\Γ f ds h Q' (Z.EF E')/\
 ∀d h' ρ' H' v,Ext K ρ H ρ' H'->Rep K ρ' h' H'->ah K ρ' H' d v->Q' d h'->Q v H'
theorem J7 (F:aH X.prog X.w X.K X.mg X.base CX k f fd ps (aN X.K Γ i))(hr:bN k X.A)(hg:Gl X x)(hm:X.mg x=some (.ref f))(hk:keepIn X.K (.ref f)=true)(hb:Binds X.K fd ps ds)(hd:Vals uX ds)(hx:Passes CX X E0)(hdd:∀ρ H,ak X.K ρ H dd uX)(ha:LA X sub Γ E (e::es) es')(hdb:bM x)(he:dn X.env e es)(hpl:iy X.env es pos):
  LE X sub Γ E (.Call (.Name x p) (e::es) [] pos) (.call i es' dd):=by
 refine dA (JF F hr hg hm hk hb hd hx ha hdb he hpl) ?_;rintro σ H Q ⟨ρ,h,τ,Q',R,L,w,k'⟩;erw[Z.aF]at w;refine ⟨ρ,h,τ,_,R,L,w,λgZ h1 aA H1 vs e1 R1 r1 w1=>?_⟩;exact ⟨aA,h1,gZ++dd,Q',E,R1,r1.append (hdd _ _),w1,λd h' ρ' H' v e' R' r' q=>k' d h' ρ' H' v (e1.trans e') R' r' q⟩
end
def fQ (X:Cx)(scope:Scope)(cl:List (Str×Addr))(N':List Str)(C:Addr)(s3:Shared)(H3:Hp)(fp:List Addr):Cx:=
 {X with N:=N',s₀:=s3,H₀:=H3,env:=compEnvC scope cl C X.env,outer:=X.stack,stack:=X.stack,ex:=fp,fn:=λ_=>false,pn:=[],xe:=λ_ _=>False}
def Di (wi:TI)(bd:V->Hp->List V->Prop)(tc:TT)(te:TE):TE:=λσ H Q=>wi σ H λJ H1=>∀D,H1 D=none->∃W:Nat->Nat->Hp->Prop,(∃m,W 0 m (upd H1 D (.lst [])))/\∀i m H,W i m H->
 (J.stop i H/\Q (.ref D) H)\/(J.go i H/\∃N:Hp->Prop,(∀H',N H'->∃m',m' < m/\W (i+1) m' H')/\∀v H',J.El i H v H'->∃vs,bd v H' vs/\tc (σ++vs.map some) H' λc H2=>
  if c=true then te (σ++vs.map some) H2 λy H3=>∃ys,H3 D=some (.lst ys)/\ys.length < sizeLine/\N (upd H3 D (.lst (ys++[y]))) else N H2)
def wA (X:Cx)(tg:Expr)(n m:Nat)(bd:V->Hp->List V->Prop):Prop:=∀(pins:List (Addr×Obj)) (s:Shared) (σ os:L2.St) (H:Hp) (v:V) (u:Value) (vs:List V),Inv X pins (σ++os) H s->RelV v u->bd v H vs->σ.length=n->os.length=m->
 wpAny (model X.prog X.w) X.A (assign tg X.env u) (λ_ s'=>Inv X pins (σ++vs.map some) H s') X.xe s
def Ag (X:Cx)(ifs:List Expr)(t:TT):Prop:=
 ∀(pins:List (Addr×Obj)) (s:Shared) (σ:L2.St) (H:Hp) (Q:Bool->Hp->Prop),Inv X pins σ H s->t σ H Q->
  wpAny (model X.prog X.w) X.A (forIn ifs true λc r=>if r=true then do let ok <-isTrue c X.env (eval c X.env);pure (ForInStep.yield ok) else pure (ForInStep.yield r)) (TP X pins σ Q) X.xe s
theorem J8:Ag X [] (λ_ H Q=>Q true H):=λ_ s _ H _ I h=>wpAny_pure ⟨H,I,h⟩
section
variable {X:Cx}
structure vM (X:Cx)(scope:Scope)(M xs:List Str):Prop where
 kind:scope.kind=.function
 nd:(M++xs).Nodup
 len:M.length=X.N.length
 at_:∀p∈M.zip X.N,scope.names.lookup p.1=none\/(p.1=p.2/\scope.names.lookup p.1≠some .local)
 Ah:∀y∈scope.names,y.2≠.cell
 free:∀y∈scope.names,y.2=.free->(X.env.kindOf y.1=some .cell)\/X.env.kindOf y.1=some .free
 loc:∀x∈xs,scope.names.lookup x=some .local
 names:∀y∈scope.names,y.2=.local->scope.names.lookup y.1=some .local
def bY (env:Env):List (Str×NameKind)->List (Str×Addr)->List (Str×Addr)
 | [],acc=>acc
 | (n,.free)::r,acc=>bY env r ((n,(env.cells.lookup n).getD 0)::acc)
 | _::r,acc=>bY env r acc
theorem rK (f:Str×NameKind->List (Str×Addr)->Sem (ForInStep (List (Str×Addr))))(f1:∀n r c,env.cells.lookup n=some c->f (n,.free) r=pure (ForInStep.yield ((n,c)::r)))(f2:∀n k r,k≠.free->f (n,k) r=pure (ForInStep.yield r)):
  ∀(l:List (Str×NameKind)) (acc:List (Str×Addr)),(∀y∈l,y.2=.free->∃c,env.cells.lookup y.1=some c)->(forIn l acc f)=pure (bY env l acc)
 | [],acc,_=>rfl
 | (n,k)::l,acc,h=>by
  rw[List.forIn_cons];have ih:=λacc=>rK f f1 f2 l acc λy hy=>h y (mem_cons_of_mem _ hy);cases k with
  | free=>
   obtain ⟨c,hc⟩:=h (n,.free) mem_cons_self rfl;have hc:env.cells.lookup n=some c:=hc;rw[f1 n acc c hc,pure_bind];show forIn l ((n,c)::acc) f=_;rw[ih];show _=pure (bY env l ((n,(env.cells.lookup n).getD 0)::acc));rw[hc];rfl
  | «local»=>rw[f2 _ _ _ (by simp),pure_bind];exact ih acc
  | cell=>rw[f2 _ _ _ (by simp),pure_bind];exact ih acc
  | globalExplicit=>rw[f2 _ _ _ (by simp),pure_bind];exact ih acc
  | globalImplicit=>rw[f2 _ _ _ (by simp),pure_bind];exact ih acc
theorem Dj {env:Env}{scope:Scope}(h:∀y∈scope.names,y.2=.free->∃c,env.cells.lookup y.1=some c):closureFor scope env=pure (bY env scope.names []):=by
 unfold closureFor;dsimp only;rw[rK _ ?_ ?_ scope.names [] h]
 ·rfl
 ·intro n r c e;show (if (NameKind.free == NameKind.free)=true then _ else _)=_;rw[if_pos (beq_self_eq_true _)];unfold cellOf;rw[e];rfl
 ·intro n k r hk;show (if (k == NameKind.free)=true then _ else _)=_;rw[if_neg (by simpa using hk)]
theorem iM {env:Env}:∀(l:List (Str×NameKind)) (acc:List (Str×Addr)) (y:Str) (c:Addr),(∀z∈l,z.2=.free->∃c,env.cells.lookup z.1=some c)->(∀y c,acc.lookup y=some c->env.cells.lookup y=some c)->(bY env l acc).lookup y=some c->env.cells.lookup y=some c
 | [],acc,y,c,_,ha,e=>ha y c e
 | (n,k)::l,acc,y,c,h,ha,e=>by
  cases k with
  | free=>
   refine iM l _ y c (λz hz=>h z (mem_cons_of_mem _ hz)) (λy' c' e'=>?_) e;obtain ⟨c0,hc⟩:=h (n,.free) mem_cons_self rfl;have hc:env.cells.lookup n=some c0:=hc;rw[lookup_cons]at e';split at e'
   ·rename_i hy;rw[hc]at e';cases e';rw[beq_iff_eq.mp hy];exact hc
   ·exact ha _ _ e'
  | _=>exact iM l acc y c (λz hz=>h z (mem_cons_of_mem _ hz)) ha e
theorem oB:∀(l:List (Str×NameKind)) (acc:List (Str×Addr)) (y:Str),((y,NameKind.free)∈l\/∃c,acc.lookup y=some c)->∃c,(bY env l acc).lookup y=some c
 | [],acc,y,h=>by
  rcases h with h | h
  ·simp at h
  ·exact h
 | (n,k)::l,acc,y,h=>by
  cases k with
  | free=>
   refine oB l _ y ?_;rcases h with h | ⟨c,h⟩
   ·rcases mem_cons.mp h with e | h
    ·cases e;exact .inr ⟨_,by rw[lookup_cons];simp;rfl⟩
    ·exact .inl h
   ·refine .inr ?_;rw[lookup_cons];split
    ·exact ⟨_,rfl⟩
    ·exact ⟨c,h⟩
  | _=>
   refine oB l acc y ?_;rcases h with h | h
   ·rcases mem_cons.mp h with e | h
    ·cases e
    ·exact .inl h
   ·exact .inr h
theorem cM (e:(relabel scope env).names.lookup y=some k):scope.names.lookup y=some k\/(k=.cell/\scope.names.lookup y=some .free):=by
 unfold relabel at e;dsimp only at e;generalize scope.names=l at e ⊢
 induction l with
 | nil=>cases e
 | cons p l ih=>
  obtain ⟨n,k'⟩:=p;rw[map_cons]at e;by_cases hy:(y == n)=true
  ·rw[lookup_cons,hy];dsimp only at e;split at e
   ·rename_i hh;rw[lookup_cons,hy]at e;cases e;rw[and_eq_true,and_eq_true]at hh;exact .inr ⟨rfl,by rw[beq_iff_eq.mp hh.1.1]⟩
   ·rw[lookup_cons,hy]at e;exact .inl e
  ·rw[Bool.not_eq_true]at hy;rw[lookup_cons,hy];refine ih ?_;dsimp only at e;split at e
   ·rw[lookup_cons,hy]at e;exact e
   ·rw[lookup_cons,hy]at e;exact e
theorem E1 {pins:List (Addr×Obj)}{σ:L2.St}{H:Hp}{s:Shared}{scope:Scope}{M xs:List Str}{fp:List Addr}{h1:Heap}{tk:Nat}(I:Inv X pins σ H s)(hc:X.calm=true)(S:vM X scope M xs)(hf:∀b∈fp,iA X pins H b)(hns:h1.Ns s.heap.objs.size (λ_=>none))(hk:∀b o,s.heap.get? b=some o->h1.get? b=some o)(hfs:∀b∈fp,b < s.heap.objs.size)(hfr:∀b∈fp,b∉frs X.stack)(YS:∀b∈fp,X.base.get? b=none):
  Inv (fQ X scope (bY X.env scope.names []) (M++xs) s.heap.objs.size s H fp) [] (σ++replicate xs.length none) H {s with heap:=h1,toks:=tk}:=by
 have cells:∀z∈scope.names,z.2=.free->∃c,X.env.cells.lookup z.1=some c:=λz hz e=>I.ok.has z.1 (S.free z hz e);have cl1:∀y c,(bY X.env scope.names []).lookup y=some c->X.env.cells.lookup y=some c:=λy c e=>iM scope.names [] y c cells (λ_ _ e=>by cases e) e;have Ai:∀y,scope.names.lookup y=some .free->(y,NameKind.free)∈scope.names:=λy e=>PySem.mem_of_lookup e;refine ⟨⟨I.ok.mod,S.kind,I.ok.glob,I.ok.blt,le_refl _,λy z c e1 e2=>I.ok.inj y z c (cl1 y c e1) (cl1 z c e2),λy e=>?_,(λy c e=>by cases e),λ_=>I.ok.hd hc,I.ok.frames,.inl rfl,λb hb=>⟨ne_of_lt (hfs b hb),λy c e=>(hf b hb).2.2.2.2.1 y c (cl1 y c e)⟩,
   I.bs,le_trans I.ok.uW I.sz,(λb o e hb=>(by have z:=(YS b hb).symm.trans e;cases z)),hfr,I.stack,I.uq⟩,
  rfl,I.bare,Un.kept hk,⟨_,hns,λi y v e1 e2 e3=>?_⟩,λy c e=>?_,I.hok.fresh (le_refl _),λy c e=>I.cQ y c (cl1 y c e),λp hp=>?_,I.hok.kept hk,?_⟩
 ·have e':(relabel scope X.env).names.lookup y=some .cell\/(relabel scope X.env).names.lookup y=some .free:=e;have hfr':scope.names.lookup y=some .free:=by
   rcases e' with e' | e'
   ·rcases cM e' with z | z
    ·exact absurd rfl (S.Ah _ (PySem.mem_of_lookup z))
    ·exact z.2
   ·rcases cM e' with z | z
    ·exact z
    ·cases z.1
  exact oB scope.names [] y (.inl (Ai y hfr'))
 ·have hi:i < X.N.length:=by
   refine Nat.lt_of_not_le λz=>?_;rw[getElem?_append_right (by rw[I.len];exact z),List.getElem?_replicate]at e2;split at e2<;>cases e2
  have e2':σ[i]?=some (some v):=by rw[getElem?_append_left (by rw[I.len];exact hi)]at e2;exact e2
  have YT:M[i]?=some y:=by
   have e1:(M++xs)[i]?=some y:=e1;rw[getElem?_append_left (by rw[S.len];exact hi)]at e1;exact e1
  have hz:(y,X.N[i])∈M.zip X.N:=by
   refine mem_of_getElem? (i:=i) ?_;rw[List.getElem?_zip_eq_some];exact ⟨YT,getElem?_eq_getElem hi⟩
  rcases S.at_ _ hz with hno | ⟨YV,Dk⟩
  ·exfalso;have hno:scope.names.lookup y=none:=hno;have e3':(relabel scope X.env).names.lookup y=some .local\/(relabel scope X.env).names.lookup y=some .cell\/(relabel scope X.env).names.lookup y=some .free:=e3;have none_:∀k,(relabel scope X.env).names.lookup y=some k->False:=λk z=>by
    rcases cM z with z | z
    ·rw[hno]at z;cases z
    ·rw[hno]at z;cases z.2
   rcases e3' with z | z | z<;>exact none_ _ z
  ·have e3':(relabel scope X.env).names.lookup y=some .local\/(relabel scope X.env).names.lookup y=some .cell\/(relabel scope X.env).names.lookup y=some .free:=e3;have Dk:scope.names.lookup y≠some .local:=Dk;have e1':X.N[i]?=some y:=by rw[getElem?_eq_getElem hi];exact congrArg some YV.symm
   have hfr':scope.names.lookup y=some .free:=by
    rcases e3' with z | z | z
    ·rcases cM z with z | z
     ·exact absurd z Dk
     ·cases z.1
    ·rcases cM z with z | z
     ·exact absurd rfl (S.Ah _ (PySem.mem_of_lookup z))
     ·exact z.2
    ·rcases cM z with z | z
     ·exact z
     ·cases z.1
   have hkx:=S.free _ (Ai y hfr') rfl;obtain ⟨m,hn,hl⟩:=I.loc;obtain ⟨u,r,l⟩:=hl i y v e1' e2' (hkx.elim (λz=>.inr (.inl z)) (λz=>.inr (.inr z)));refine ⟨u,r,?_⟩;rcases l with ⟨l,_⟩ | ⟨_,c,hc',hcell⟩
   ·have l:X.env.kindOf y=some .local:=l;rcases hkx with z | z<;>(rw[l]at z;cases z)
   ·obtain ⟨c2,hc2⟩:=oB (env:=X.env) scope.names [] y (.inl (Ai y hfr'));have:=cl1 y c2 hc2;rw[hc']at this;cases this;refine .inr ⟨?_,c,hc2,?_⟩
    ·rcases e3' with z | z | z
     ·rcases cM z with z | z
      ·exact absurd z Dk
      ·cases z.1
     ·exact .inl z
     ·exact .inr z
    ·obtain ⟨o,ho,hd⟩:=hcell;exact ⟨o,hk _ _ ho,hd⟩
 ·obtain ⟨v,o,ho,hd⟩:=I.cell y c (cl1 y c e);exact ⟨v,o,hk _ _ ho,hd⟩
 ·exact absurd (show p∈([]:List (Addr×Obj)) from hp) (by simp)
 ·show (σ++replicate xs.length none).length=(M++xs).length;rw[length_append,length_append,length_replicate,I.len,S.len]
theorem vN {pins:List (Addr×Obj)}{σ:L2.St}{H:Hp}{s:Shared}{b:Addr}(I:Inv X pins σ H s)(hf:iA X pins H b):b∉frs X.stack/\X.base.get? b=none:=by
 obtain ⟨_,h2,h3,h4,_⟩:=hf;refine ⟨λz=>?_,?_⟩
 ·rcases mem_cons.mp (I.qX b z) with q | q
  ·exact h2 q
  ·exact h3 q
 ·cases e:X.base.get? b with
  | none=>rfl
  | some o=>
   rcases h4 with z | z
   ·exact absurd z (I.ok.jh b o e)
   ·exact absurd (lt_of_lt_of_le (lt_size e) (le_trans I.ok.uW z)) (lt_irrefl _)
theorem G8 {pins:List (Addr×Obj)}{σ σ':L2.St}{H H':Hp}{s s':Shared}{scope:Scope}{cl:List (Str×Addr)}{N':List Str}{fp:List Addr}{h'':Heap}(I:Inv X pins σ H s)(hf:∀b∈fp,iA X pins H b)(J:Inv (fQ X scope cl N' s.heap.objs.size s H fp) [] σ' H' s')(hs:Heap.SameBut s.heap.objs.size s'.heap h''):Inv X pins σ H' {s' with heap:=h''}:=by
 have hos:=J.os;obtain ⟨hh,g,d,t,os⟩:=s';obtain rfl:os=s.os:=hos;have hok:cE X.prog X.w H' h'':=λa u e=>by
  have hne:∀b,H' b≠none->b≠s.heap.objs.size:=λb hb z=>hb (by rw[z];exact J.free);refine (J.hok a u e).stay (λb o hb q=>hs.extBut b o (hne b ?_) q) (λ_ q=>q) λ_ _ q=>q;rcases hb with rfl | hb
  ·rw[e];simp
  ·rw[hb];simp
 have un:Un (frs X.stack) fp H H' s.heap h'':=by
  have u:=J.base;have ne:∀b o,s.heap.get? b=some o->b≠s.heap.objs.size:=λb o e=>ne_of_lt (lt_size e);exact ⟨λb o e n hb hx=>hs.extBut b o (ne b o e) (u.keep b o e n hb hx),λb o e n hb hx=>let ⟨sl,q⟩:=u.slot b o e n hb hx;⟨sl,hs.extBut b _ (ne b o e) q⟩,u.free,λb o e hx=>let ⟨o',q⟩:=u.there b o e hx;⟨o',hs.extBut b _ (ne b o e) q⟩,u.tups,u.fE,u.gx⟩
 show Inv X pins σ H' {s with heap:=h'',gens:=g,drawn:=d,toks:=t};exact Inv.call (h':=h'') (g':=g) (d':=d) (t':=t) (ch:=fp) I un hok J.bare λb hb=>⟨(hf b hb).2.2.2.1,(hf b hb).2.1,(hf b hb).2.2.2.2.1,(hf b hb).2.2.2.2.2⟩
theorem Aj {α:Type}{M:Model}{A:Around}{t:Sem α}{Q:α->Shared->Prop}{E:Value->Shared->Prop}{s:Shared}(h:wpAny M A t Q (λ_ _=>False) s):wpAny M A t Q E s:=wpAny_mono h (λ_ _ q=>q) λ_ _ f=>f.elim
theorem G9 {pg:Program}{wd:World}{A:Around}{elt tgt src:Expr}{ifs:List Expr}{sc:Scope}{pos:Pos}{it acc:Value}{env:Env}{R:Result->Shared->Prop}(W:Nat->Shared->Prop){Er:Value->Shared->Prop}(YW:Er=notedBy (model pg wd) A env λe s'=>R (.error e) s')(turn:∀k t,W k t->wpAny (model pg wd) A (pyNext it) (λr t1=>match r with
   | none=>R (.ok .next) t1
   | some v=>wpAny (model pg wd) A (letOwnedTupleGo tgt it v) (λ_ t2=>wpAny (model pg wd) A (assign tgt env v) (λ_ t3=>
     wpAny (model pg wd) A (forIn ifs true λc r=>if r=true then do let ok <-isTrue c env (eval c env);pure (ForInStep.yield ok) else pure (ForInStep.yield r)) (λok t4=>if ok=true then wpAny (model pg wd) A (eval elt env) (λx t5=>
      wpAny (model pg wd) A (call (.builtin "list.append") [acc,x]) (λ_ t6=>∃m,m < k/\W m t6) Er t5) Er t4 else ∃m,m < k/\W m t4) Er t3) Er t2) Er t1) Er t) (k:Nat) {t:Shared} (h:W k t):codeAny (model pg wd) A (.compLoop (.ListComp elt [⟨tgt,src,ifs,0⟩] sc pos) 0 it acc env) R t:=by
 subst YW;refine codeAny_loop rfl W (λk t hW=>?_) k h;show wpAny _ A ((compTurn (.ListComp elt [⟨tgt,src,ifs,0⟩] sc pos) 0 it acc env).onRaise _) _ _ t;refine wpAny_noted ?_;rw[compTurn_list];refine wpAny_bind (wpAny_standAt (wpAny_bind (wpAny_mono (turn k t hW) (λr t1 q1=>?_) λ_ _ z=>z)));cases r with
 | none=>exact wpAny_pure q1
 | some v=>
  refine wpAny_bind (wpAny_mono q1 (λ_ t2 q2=>wpAny_bind (wpAny_mono q2 (λ_ t3 q3=>wpAny_bind (wpAny_mono q3 (λok t4 q4=>?_) λ_ _ z=>z)) λ_ _ z=>z)) λ_ _ z=>z);cases ok with
  | false=>exact wpAny_pure ⟨rfl,q4⟩
  | true=>exact wpAny_bind (wpAny_bind (wpAny_mono q4 (λx t5 q5=>wpAny_bind (wpAny_mono q5 (λ_ t6 q6=>wpAny_pure (wpAny_pure ⟨rfl,q6⟩)) λ_ _ z=>z)) λ_ _ z=>z))
theorem E2 {pins:List (Addr×Obj)}{s:Shared}{σ:L2.St}{H:Hp}{Q:VK}{use:Option (Value->Sem Unit)}{QQ:Value->Shared->Prop}{pos':Pos}{tg elt iter:Expr}{ifs:List Expr}{M xs:List Str}{pos:Pos}{scope:Scope}{wi:TI}{bd:V->Hp->List V->Prop}{tc:TT}{te:TE}(hcalm:X.calm=true)(S:vM X scope M xs)(hi:PI X tg iter wi)(hbd:∀v H vs,bd v H vs->vs.length=xs.length)(hg:∀C s H fp,wA (fQ X scope (bY X.env scope.names []) (M++xs) C s H fp) tg X.N.length xs.length bd)(hc:∀C s H fp,Ag (fQ X scope (bY X.env scope.names []) (M++xs) C s H fp) ifs tc)(he:∀C s H fp,PE (fQ X scope (bY X.env scope.names []) (M++xs) C s H fp) elt te)(hs:∀v,foldedSetIterable iter X.env v=pure v)(I:Inv X pins σ H s)(h:Di wi bd tc te σ H Q)(fin:∀(D C:Addr) (s6:Shared) (H5:Hp) (m:Str->Option Value) (r:Flow),Inv X pins σ H5 s6->s6.heap.Ns C m->iA X pins H5 C->Q (.ref D) H5->compPost (model X.prog X.w) X.A X.xe use QQ (.ref D) C (.ok r) s6):
  wpAny (model X.prog X.w) X.A (comprehension (.ListComp elt [⟨tg,iter,ifs,0⟩] scope pos) scope X.env pos' (newList []) false (eval iter X.env) use) QQ X.xe s:=by
 have cells:∀z∈scope.names,z.2=.free->∃c,X.env.cells.lookup z.1=some c:=λz hz e=>I.ok.has z.1 (S.free z hz e);refine wpAny_comprehension_free (use:=use) rfl hs (Dj cells) S.kind S.names ?_;refine aS (hi pins s σ H _ I h) λv s1 h1=>aS h1 λitv s2 h2=>?_;obtain ⟨it,fp,tn,J,H2,e,I2,T,st2,f2,q2⟩:=h2;subst e
 -- the new list
 refine wpAny_newObj_type ?_;have hD:H2 s2.heap.objs.size=none:=I2.hok.fresh (le_refl _);have I3:Inv X pins σ (upd H2 s2.heap.objs.size (.lst [])) {s2 with heap:=s2.heap.push {cls:=.type "list",data:=.seq ([]:List Value).toArray}}:=
  I2.laid (t':=s2.toks) (λb u z=>get?_push_of_some _ z) (le_refl _) ⟨zero_le _,[],0,.nil,get?_push_size _ rfl⟩
 have Xl:∀b∈fp,b≠s2.heap.objs.size:=λb hb=>by
  obtain ⟨o,ho,_⟩:=T.obj _ _ st2 b hb;exact ne_of_lt (lt_size ho)
 have f3:∀b∈fp,iA X pins (upd H2 s2.heap.objs.size (.lst [])) b:=λb hb=>⟨by rw[aB (Xl b hb)];exact (f2 b hb).1,(f2 b hb).2⟩
 have st3:tn 0 (s2.heap.push {cls:=.type "list",data:=.seq ([]:List Value).toArray}):=T.keep _ _ _ st2 λb _ o z=>get?_push_of_some _ z;obtain ⟨W,⟨m0,w0⟩,turn⟩:=q2 _ hD;generalize hD':s2.heap.objs.size=D at *;generalize hs3:({s2 with heap:=s2.heap.push {cls:=.type "list",data:=.seq ([]:List Value).toArray}}:Shared)=s3 at *;generalize hH3:upd H2 D (.lst [])=H3 at *;have st3:tn 0 s3.heap:=by rw[<-hs3];exact st3
 -- the frame
 refine wpAny_newFunctionEnv S.Ah (λy hy=>by simp at hy) (λh4 hns hsb=>?_) S.kind;have kp:∀b o,s3.heap.get? b=some o->h4.get? b=some o:=λb o z=>hsb.extBut b o (ne_of_lt (lt_size z)) (get?_push_of_some _ z);have hfs:∀b∈fp,b < s3.heap.objs.size:=λb hb=>by
  obtain ⟨o,ho,_⟩:=T.obj _ _ st3 b hb;exact lt_size ho
 have I4:=E1 (tk:=s3.toks+([]:List (Str×Value)).length) I3 hcalm S f3 hns kp hfs (λb hb=>(vN I3 (f3 b hb)).1) (λb hb=>(vN I3 (f3 b hb)).2);have Xm:∀H5:Hp,H5 s3.heap.objs.size=none->iA X pins H5 s3.heap.objs.size:=λH5 YX=>I3.vB (le_refl _) YX;generalize hC:s3.heap.objs.size=C at *;generalize NI:({s3 with heap:=h4,toks:=s3.toks+([]:List (Str×Value)).length}:Shared)=s4 at *;have Vg:tn 0 s4.heap:=by rw[<-NI];exact T.keep _ _ _ st3 λb _ o z=>kp b o z
 have back:∀{σ':L2.St} {H':Hp} {s':Shared} {h'':Heap},Inv (fQ X scope (bY X.env scope.names []) (M++xs) C s3 H3 fp) [] σ' H' s'->Heap.SameBut C s'.heap h''->Inv X pins σ H' {s' with heap:=h''}:=λJ hs'=>by
  subst hC;exact G8 I3 f3 J hs'
 have stat:∀{H':Hp},(∀b∈fp,H' b=none)->∀b∈fp,iA (fQ X scope (bY X.env scope.names []) (M++xs) C s3 H3 fp) [] H' b:=λhn b hb=>by
  refine ⟨hn b hb,?_,?_,.inl hb,λy c e=>?_,λp hp=>absurd (show p∈([]:List (Addr×Obj)) from hp) (by simp)⟩
  ·show b≠C;exact ne_of_lt (hfs b hb)
  ·exact (vN I3 (f3 b hb)).1
  ·exact (f3 b hb).2.2.2.2.1 y c (iM scope.names [] y c cells (λ_ _ e=>by cases e) e)
 have loop:codeAny (model X.prog X.w) X.A (.compLoop (.ListComp elt [⟨tg,iter,ifs,0⟩] scope pos) 0 (.ref it) (.ref D) (compEnvC scope (bY X.env scope.names []) C X.env)) (compPost (model X.prog X.w) X.A X.xe use QQ (.ref D) C) s4:=by
  refine G9 (Er:=_) (W:=λn s'=>∃i os H',os.length=xs.length/\Inv (fQ X scope (bY X.env scope.names []) (M++xs) C s3 H3 fp) [] (σ++os) H' s'/\tn i s'.heap/\(∀b∈fp,H' b=none)/\W i n H') rfl ?_ m0 ⟨0,_,H3,length_replicate,I4,Vg,λb hb=>(f3 b hb).1,w0⟩;rintro n s5 ⟨i,os,H5,los,I5,Bx,Ig,w5⟩;rcases turn i n H5 w5 with ⟨stop,qn⟩ | ⟨go,Nn,hNn,step⟩
  ·refine Aj (aS (T.done (fQ X scope (bY X.env scope.names []) (M++xs) C s3 H3 fp) rfl rfl rfl hcalm i [] s5 _ H5 _ I5 (stat Ig) Bx stop) λr s6 ⟨hr,I6⟩=>?_);subst hr;obtain ⟨m,hn,_⟩:=I6.loc;exact fin D C s6 H5 m _ (back I6 ⟨rfl,λ_ _=>rfl⟩) hn (Xm H5 I6.free) qn
  ·refine Aj (aS (T.item (fQ X scope (bY X.env scope.names []) (M++xs) C s3 H3 fp) rfl rfl rfl hcalm i [] s5 _ H5 (λ_ _=>False) I5 (stat Ig) Bx go) λr s6 ⟨u,hr,h6⟩=>?_);subst hr;refine Aj (aS h6 λ_ s6 ⟨v,H6,I6,r6,y6,NK,YY⟩=>?_);have YZ:=I6.pinned (stat YY) (T.obj _ _ NK);obtain ⟨vs,hbv,step⟩:=step v _ y6;refine Aj (aS (hg C s3 H3 fp _ s6 σ os H6 v u vs YZ r6 hbv I.len los) λ_ s7 I7=>?_);refine Aj (aS (hc C s3 H3 fp _ s7 _ _ _ I7 step) λok s8 ⟨H8,I8,q8⟩=>?_);have again:∀{H9:Hp} {s9:Shared},Inv (fQ X scope (bY X.env scope.names []) (M++xs) C s3 H3 fp) ([]++qZ fp s6.heap) (σ++vs.map some) H9 s9->Nn H9->∃m,m < n/\∃i os H',os.length=xs.length/\Inv (fQ X scope (bY X.env scope.names []) (M++xs) C s3 H3 fp) [] (σ++os) H' s9/\tn i s9.heap/\(∀b∈fp,H' b=none)/\W i m H':=λ{H9 s9} I9 n9=>by
    obtain ⟨m',hm,w9⟩:=hNn _ n9;refine ⟨m',hm,i+1,vs.map some,H9,(by rw[length_map];exact hbd _ _ _ hbv),I9.n_,T.keep _ _ _ NK λb hb o z=>(I9.pin (b,o) (mem_append_right _ (mem_append_right _ (jJ hb z)))).1,λb hb=>?_,w9⟩;obtain ⟨o,z,d⟩:=T.obj _ _ NK b hb;exact (I9.pin (b,o) (mem_append_right _ (mem_append_right _ (jJ hb z)))).2.1
   cases ok with
   | false=>rw[if_neg (by decide)]at q8 ⊢;exact again I8 q8
   | true=>
    rw[if_pos rfl]at q8 ⊢;refine Aj (aS (he C s3 H3 fp _ s8 _ _ _ I8 q8) λy s9 ⟨yv,H9,I9,r9,ys,e9,hz,n9⟩=>?_);refine Aj (aS (yL (X:=fQ X scope (bY X.env scope.names []) (M++xs) C s3 H3 fp) _ s9 _ H9 (.ref D) [yv] (.ref D) [y] (λ_ H'=>Nn H') I9 rfl (.cons r9 .nil) ⟨D,ys,yv,rfl,rfl,e9,hz,n9⟩) λ_ s10 ⟨_,H10,Y0,_,n10⟩=>?_);exact again Y0 n10
 exact codeAny_compStart_list loop (T.self X.A 0 s4 _ _ Vg loop)
theorem J9 (hcalm:X.calm=true)(S:vM X scope M xs)(hi:PI X tg iter wi)(hbd:∀v H vs,bd v H vs->vs.length=xs.length)(hg:∀C s H fp,wA (fQ X scope (bY X.env scope.names []) (M++xs) C s H fp) tg X.N.length xs.length bd)(hc:∀C s H fp,Ag (fQ X scope (bY X.env scope.names []) (M++xs) C s H fp) ifs tc)(he:∀C s H fp,PE (fQ X scope (bY X.env scope.names []) (M++xs) C s H fp) elt te)(hs:∀v,foldedSetIterable iter X.env v=pure v):PE X (.ListComp elt [⟨tg,iter,ifs,0⟩] scope pos) (Di wi bd tc te):=by
 intro pins s σ H Q I h;rw[eval_ListComp];refine E2 (use:=none) (QQ:=EP X pins σ Q) hcalm S hi hbd hg hc he hs I h λD C s6 H5 m r I6 hn hf q=>?_;exact ⟨m,hn,λh'' hs'=>⟨.ref D,H5,I6.turned (t':=s6.toks) (λb o hb e=>hs'.extBut b o hb e) hf.1 hf.2.1 hf.2.2.2.1 hf.2.2.2.2.1 hf.2.2.2.2.2,rfl,q⟩⟩
end
section
variable {X:Cx}{sub:Nat->Nat->Bool}{Γ:Z.bS}{E:Z.PX}
theorem J_:Ag X [] (BJ X.K (Z.kS sub Γ E .none)):=by
 intro pins s σ H Q I ⟨ρ,h,τ,Q',R,L,w,k⟩;erw[Z.kS]at w;exact J8 pins s σ H Q I (k true h ρ H .refl R w)
def NP:V->Hp->List V->Prop:=λv _ vs=>vs=[v]
theorem E3 (hN:X.N.Nodup)(hx:X.N[n]?=some x)(hl:X.env.scope.names.lookup x=some .local):wA X (.Name x px) n 1 NP:=by
 intro pins s σ os H v u vs I r hb hn hm;cases hb;obtain ⟨o,rfl⟩:=List.length_eq_one_iff.mp hm;refine aS (mP hN hx (.inl hl) (.inr hl) pins s _ H v u (λσ' H'=>σ'=σ++[some v]/\H'=H) I r ⟨?_,rfl⟩) λ_ s1 ⟨σ1,H1,I1,e1,e2⟩=>?_
 ·subst hn;rw[List.set_append_right _ _ (le_refl _)];simp
 ·subst e1 e2;exact I1
theorem bI.more {K:Frag}{ρ:List Addr}{H:Hp}{τ:Z.Lo}{σ:L2.St}{ds:List Z.D}{vs:List V}(L:bI K ρ H τ σ)(r:ak K ρ H ds vs):bI K ρ H (τ++ds.map some) (σ++vs.map some):=by
 refine ⟨by simp[L.1,r.length],λi d e=>?_⟩;by_cases hi:i < τ.length
 ·rw[getElem?_append_left hi]at e;rw[getElem?_append_left (by rw[<-L.1];exact hi)];exact L.2 i d e
 ·rw[getElem?_append_right (by lia),getElem?_map]at e;rw[getElem?_append_right (by rw[<-L.1];lia),getElem?_map,<-L.1];cases q:ds[i - τ.length]? with
  | none=>rw[q]at e;cases e
  | some d'=>
   rw[q]at e;cases e;obtain ⟨v,e1,e2⟩:=r.get q;exact ⟨v,by rw[e1];rfl,e2⟩
theorem RO {K:Frag}{ρ:List Addr}{H:Hp}{d:Z.D}{v:V}{τ gW:Z.Lo}{σ:L2.St}(r:ah K ρ H d v)(L:bI K ρ H τ σ)(e:Z.uj 1 d τ=some gW):∃vs,NP v H vs/\bI K ρ H gW (σ++vs.map some):=by
 have e:some (τ++[some d])=some gW:=by rw[<-e];cases d<;>rfl
 cases e;exact ⟨[v],rfl,bI.more (ds:=[d]) L (.one r)⟩
theorem E4 {xs:List Str}{nt:Nat}{kd:Z.IK}{src:Z.cV}{cond:Z.zK}{oE:Z.Ex}{bd:V->Hp->List V->Prop}(hmb:∀{ρ H d v τ gW σ},ah X.K ρ H d v->bI X.K ρ H τ σ->Z.uj nt d τ=some gW->∃vs,bd v H vs/\bI X.K ρ H gW (σ++vs.map some)):
  ∀σ H Q,Ip X.K (Z.aF sub Γ E (.comp kd src nt cond oE)) σ H Q->Di (Ve X.K kd (Z.aW sub Γ E src)) bd (BJ X.K (Z.kS sub Γ E cond)) (Ip X.K (Z.aF sub Γ E oE)) σ H Q:=by
 rintro σ H Q ⟨ρ,h,τ,Q',R,L,w,k⟩;erw[Z.aF]at w;refine ⟨ρ,h,τ,_,R,L,w,λds h1 aA H1 vs e1 R1 r1 w1=>?_⟩;cases eJ:Z.bz kd ds h1 with
 | none=>rw[eJ]at w1;exact w1.elim
 | some J=>
  rw[eJ]at w1;refine ⟨J,rfl,λJ' hJ D hD=>?_⟩;obtain ⟨W,⟨m,w0⟩,turn⟩:=w1;obtain ⟨eD,RD,rD⟩:=eO (ds:=[]) (vs:=[]) R1 (by simp[ak]) hD;refine ⟨λi m H'=>∃ρ' h',Ext X.K (aA++[D]) (upd H1 D (.lst [])) ρ' H'/\Rep X.K ρ' h' H'/\W i m h',⟨m,_,_,.refl,RD,w0⟩,?_⟩;rintro n m H2 ⟨a_,h2,e2,R2,w2⟩;have t:=turn n m h2 w2;have j:=hJ n a_ h2 H2 (eD.trans e2) R2;have Vh:a_[h1.length]?=some D:=e2.pre _ _ (by rw[<-R1.len,getElem?_append_right (le_refl _)];simp);cases ev:J n h2 with
  | none=>rw[ev]at t;exact t.elim
  | some o=>
   rw[ev]at t j;cases o with
   | none=>exact .inl ⟨j,k _ h2 a_ H2 _ (e1.trans (eD.trans e2)) R2 (by erw[ah];exact ⟨D,rfl,Vh⟩) t⟩
   | some d=>
    obtain ⟨go,yl⟩:=j;cases em:Z.uj nt d τ with
    | none=>erw[em]at t
    | some EJ=>
     erw[em]at t;obtain ⟨Nn,hNn,t⟩:=t;refine .inr ⟨go,λH'=>∃m',m' < m/\∃ρ' h',Ext X.K (aA++[D]) (upd H1 D (.lst [])) ρ' H'/\Rep X.K ρ' h' H'/\W (n+1) m' h',λH' q=>q,λv H' hy=>?_⟩;obtain ⟨eX,R2,rv⟩:=yl v H' hy;have e2:=e2.trans eX;obtain ⟨vs',hb,z8⟩:=hmb rv (L.mono (e1.trans (eD.trans e2))) em;have nx:∀{gB h3 H3},Ext X.K a_ H' gB H3->Rep X.K gB h3 H3->Nn h3->∃m',m' < m/\∃ρ' h',Ext X.K (aA++[D]) (upd H1 D (.lst [])) ρ' H3/\Rep X.K ρ' h' H3/\W (n+1) m' h':=λe3 R3 q3=>by
      obtain ⟨m',hm,w3⟩:=hNn _ q3;exact ⟨m',hm,_,_,e2.trans e3,R3,w3⟩
     refine ⟨vs',hb,a_,h2,EJ,_,R2,z8,t,λc h3 gB H3 e3 R3 q3=>?_⟩;cases c with
     | false=>rw[if_neg (by decide)]at q3 ⊢;exact nx e3 R3 q3
     | true=>
      rw[if_pos rfl]at q3 ⊢;refine ⟨gB,h3,EJ,_,R3,z8.mono e3,q3,λd4 h4 YN H4 y e4 R4 r4 q4=>?_⟩;change (match Z.zI [.ref h1.length,d4] h4 with | some (_,h5)=>Nn h5 | none=>False) at q4;have hq:∃ys4,h4[h1.length]?=some (.lst ys4)/\ys4.length+1<=Z.lim/\Nn (h4.set h1.length (.lst (ys4++[d4]))):=by
       unfold Z.zI at q4;cases e5:h4[h1.length]? with
       | none=>simp[e5]at q4
       | some o=>
        cases o with
        | lst ys4=>
         erw[e5,Z.vq]at q4;by_cases hl:(ys4++[d4]).length<=Z.lim
         ·rw[if_pos hl]at q4;exact ⟨ys4,rfl,by simpa using hl,q4⟩
         ·rw[if_neg hl]at q4;exact q4.elim
        | _=>simp[e5]at q4
      obtain ⟨ys4,e5,hl,q5⟩:=hq;obtain ⟨a,ys,ra,hn,ha,rs⟩:=dN R4 (by erw[ah];exact ⟨D,rfl,(e3.trans e4).pre _ _ Vh⟩) e5;cases ra;obtain ⟨e6,R6⟩:=kX (xs:=[]) R4 hn ha (rs.append (.one r4));exact ⟨ys,ha,by rw[<-rs.length,<-gC];lia,nx (e3.trans (e4.trans e6)) R6 q5⟩
theorem Ka {tg elt iter:Expr}{ifs:List Expr}{M xs:List Str}{pos:Pos}{scope:Scope}{nt:Nat}{kd:Z.IK}{src:Z.cV}{cond:Z.zK}{oE:Z.Ex}{bd:V->Hp->List V->Prop}(hcalm:X.calm=true)(S:vM X scope M xs)(hi:LI X sub Γ E tg iter kd src)(hbd:∀v H vs,bd v H vs->vs.length=xs.length)(hg:∀C s H fp,wA (fQ X scope (bY X.env scope.names []) (M++xs) C s H fp) tg X.N.length xs.length bd)(hmb:∀{ρ H d v τ gW σ},ah X.K ρ H d v->bI X.K ρ H τ σ->Z.uj nt d τ=some gW->∃vs,bd v H vs/\bI X.K ρ H gW (σ++vs.map some))(hc:∀C s H fp,Ag (fQ X scope (bY X.env scope.names []) (M++xs) C s H fp) ifs (BJ X.K (Z.kS sub Γ E cond)))(he:∀C s H fp,LE (fQ X scope (bY X.env scope.names []) (M++xs) C s H fp) sub Γ E elt oE)(hs:∀v,foldedSetIterable iter X.env v=pure v):LE X sub Γ E (.ListComp elt [⟨tg,iter,ifs,0⟩] scope pos) (.comp kd src nt cond oE):=by
 refine dA (J9 (te:=Ip X.K (Z.aF sub Γ E oE)) hcalm S hi hbd hg hc he hs) (E4 (xs:=xs) hmb)
theorem Kb (hu:X.A.units+200 < cLine)(he:LE X sub Γ E e e')(ho:LE X sub Γ E o o')(hi:LE X sub Γ E i i')(ha:∀v,assign (.Subscript o i p) X.env v=(do let ov <-holding [v] (eval o X.env);let iv <-holding [v,ov] (eval i X.env);standAt p;holding [v,ov,iv] (setItem ov iv v);release [v,ov,iv] []))(hs:swapsWithSole [.Subscript o i p] e pos.line X.env=pure false)(hw:swappedStores [.Subscript o i p] e X.env=pure none):LS X sub Γ E (.Assign [.Subscript o i p] e pos) (.fC o' i' e'):=by
 refine wm (Ek he (Mv ho hi (NC (sub:=sub) hu) ha) hs hw rfl) ?_;rintro D σ H ⟨ρ,h,τ,N,R,L,w,k⟩;erw[Z.wpS]at w;refine ⟨ρ,h,τ,_,R,L,w,λd1 h1 aA H1 x e1 R1 r1 w1=>?_⟩;refine ⟨aA,h1,τ,_,R1,L.mono e1,w1,λd2 h2 a_ H2 y e2 R2 r2 w2=>?_⟩;refine ⟨a_,h2,τ,_,R2,L.mono (e1.trans e2),w2,λd3 h3 gB H3 z e3 R3 r3 w3=>?_⟩;cases q:Z.prim sub .fC [d2,d3,d1] h3 with
 | none=>rw[q]at w3;exact w3.elim
 | some t=>
  rw[q]at w3;exact ⟨gB,h3,_,t.1,t.2,R3,Xi (ah.mono e3 _ _ r2) r3 (ah.mono (e2.trans e3) _ _ r1),q,λρ' H' v e' R' r'=>k.nx τ _ ρ' H' σ (e1.trans (e2.trans (e3.trans e'))) R' (L.mono (e1.trans (e2.trans (e3.trans e')))) w3⟩
end
end ZS
namespace ZS
open PySem PySem.Spec PyProof.Rows L2
section
variable [R0]
section
variable {X:Cx}{sub:Nat->Nat->Bool}{Γ:Z.bS}{E:Z.PX}
theorem zv (i:Nat)(hN:X.N[i]?=some x:=by rfl)(hv:vZ X.env.scope x:=by first | exact Or.inl rfl | exact Or.inr (Or.inl rfl) | exact Or.inr (Or.inr rfl))(hd:bM x:=by decide)(hcd:(x == ("__classdict__":Str))=false:=by decide):LE X sub Γ E (.Name x pos) (.var i):=Nc hN hv hd hcd
theorem zi:LE X sub Γ E (.Constant (.int n) k pos) (.lit (.int n)):=rC Mh λ_ _=>by erw[ah]
theorem zb:LE X sub Γ E (.Constant (.bool b) k pos) (.lit (.bl b)):=rC Rc λ_ _=>by erw[ah]
theorem zn:LE X sub Γ E (.Constant .none k pos) (.lit .non):=rC zT λ_ _=>by erw[ah]
theorem zs (h:s=⟨l.toArray⟩)(hl:l.length<=Z.lim):LE X sub Γ E (.Constant (.str s) k pos) (.lit (.str l)):=rC Mi λ_ _=>by erw[ah];exact ⟨congrArg V.str h,hl⟩
theorem Xn (ha:LE X sub Γ E a a'):LE X sub Γ E (.UnaryOp .Not a pos) (.prim .CN (.cons a' .nil)):=by
 refine dA (Mq ha) ?_;rintro σ H Q ⟨ρ,h,τ,Q',R,L,w,k⟩;erw[Z.aF,Z.aW]at w;refine ⟨ρ,h,τ,_,R,L,w,λd1 h1 aA H1 x e1 R1 r1 w1=>?_⟩;cases d1 with
 | bl b=>
  erw[ah]at r1;exact ⟨b,r1,k (.bl (!b)) h1 aA H1 _ e1 R1 (by erw[ah]) w1⟩
 | _=>exact w1.elim
theorem zu (hr:bN k X.A):X.A.units+200 < cLine:=by have:=hr.un;lia
theorem Y1 (hr:bN k X.A)(ha:LE X sub Γ E a a')(hb:LE X sub Γ E b b')(hs:mR b:=by intro _ _;rfl):LE X sub Γ E (.Subscript a b pos) (.prim .idx (.cons a' (.cons b' .nil))):=RG (RL (zu hr)) ha hb hs
theorem Dl (he:LE X sub Γ E e e')(hes:LA X sub Γ E es es')(hs:dn X.env e es:=by rfl):LA X sub Γ E (e::es) (.cons e' es'):=JR he hes hs
theorem NQ {x:Str}{id:String}{e:Expr}{es:List Expr}{es':Z.cV}{p:Z.Prim}{q pos:Pos}(hc:cR X (.builtin id) (rP X.K sub p))(hm:X.mg x=none)(hv:bootBuiltins x=some (.builtin id))(ha:LA X sub Γ E (e::es) es')(hg:Gl X x:=by rfl)(hn:x≠"__name__":=by decide)(hdb:bM x:=by decide)(he:dn X.env e es:=by rfl)(hpl:iy X.env es pos:=by rfl):
  LE X sub Γ E (.Call (.Name x q) (e::es) [] pos) (.prim p es'):=GW hc hg hm hv ha hn hdb he hpl
theorem rM (hm:X.mg "isinstance"=none)(hmt:X.mg tn=none)(EZ:bootBuiltins tn=some (.type (BU k)))(he:LE X sub Γ E e e')(hk:∀c,k≠.cls c:=by intro _ z;cases z)(hg:Gl X "isinstance":=by rfl)(hgt:Gl X tn:=by rfl)(hnn:tn≠"__name__":=by decide)(hdd:bM tn:=by decide)(hs:∀es,dn X.env e es:=by intro _;rfl):
  LE X sub Γ E (.Call (.Name "isinstance" p) [e,.Name tn p2] [] pos) (.prim (.gK k) (.cons e' .nil)):=ND hk hg hm hgt hmt EZ hnn hdd he hs
theorem G_ {o e:Expr}{es:List Expr}{o':Z.Ex}{es':Z.cV}{m:Z.MK}{p:Z.Prim}{name:Str}{apos cpos:Pos}{id:String}(pa:PlainAttrs (wu m))(slot:Slot (wu m) name id)(hty:typeOf (.builtin id)=pure (.type "method_descriptor"))(hm:mU X id (λx xs=>rP X.K sub p (x::xs)))(ho:LE X sub Γ E o o')(ha:LA X sub Γ E (e::es) es')(hmk:m≠.dict:=by decide)(hmt:m≠.tuple:=by decide)(hbase:attributeBase o name X.env (eval o X.env)=eval o X.env:=by rfl)(hfew:((backTo cpos (starEach (e::es) X.env)).all (λx=>!x.1) && (backToKw cpos (keywordEach [] X.env)).all (λx=>x.1.isSome)
   && decide ((e::es).length+([]:List Keyword).length+(if ([]:List Keyword).isEmpty then 0 else 1) < 30))=true:=by rfl) (hline:(apos.endLine == cpos.line)=true:=by rfl) (hs:dn X.env e es:=by rfl) (hplain:iy X.env es cpos:=by rfl):
  LE X sub Γ E (.Call (.Attribute o name apos) (e::es) [] cpos) (.cW m p o' es'):=Nh hmk hmt pa slot hty hm ho ha hbase hfew hline hs hplain
theorem uC {o:Expr}{o':Z.Ex}{m:Z.MK}{p:Z.Prim}{name:Str}{apos cpos:Pos}{id:String}(pa:PlainAttrs (wu m))(slot:Slot (wu m) name id)(hty:typeOf (.builtin id)=pure (.type "method_descriptor"))(hm:mU X id (λx xs=>rP X.K sub p (x::xs)))(ho:LE X sub Γ E o o')(hmk:m≠.dict:=by decide)(hmt:m≠.tuple:=by decide)(hbase:attributeBase o name X.env (eval o X.env)=eval o X.env:=by rfl)(hline:(apos.endLine == cpos.line)=true:=by rfl):
  LE X sub Γ E (.Call (.Attribute o name apos) [] [] cpos) (.cW m p o' .nil):=JS hmk hmt pa slot hty hm ho hbase hline
theorem RP (hr:bN k X.A)(F:aH X.prog X.w X.K X.mg X.base aY k f fd ps (aN X.K Γ i))(hm:X.mg x=some (.ref f))(hk:keepIn X.K (.ref f)=true)(hb:Binds X.K fd ps [])(ha:LA X sub Γ E (e::es) es')(hg:Gl X x:=by rfl)(hdb:bM x:=by decide)(he:dn X.env e es:=by rfl)(hpl:iy X.env es pos:=by rfl):
  LE X sub Γ E (.Call (.Name x p) (e::es) [] pos) (.call i es' []):=J7 F hr hg hm hk hb .nil Io (λ_ _=>by erw[ak]) ha hdb he hpl
theorem fH (ha:LE X sub Γ E a a')(he:∀whole,isTrue a X.env whole=(do let v <-whole;standAt a.pos;holding [v] (truthy v)):=by intro _;rfl):LT X sub Γ E a (.yC a'):=Nj ha he
theorem eh (hp:Z.prim sub p=Z.vw f)(ds:List Z.D)(h:Z.AH)(d:Z.D)(h':Z.AH)(e:Z.prim sub p ds h=some (d,h')):∃c,d=.bl c:=by
 rw[hp]at e;unfold Z.vw at e;split at e
 ·cases e;exact ⟨_,rfl⟩
 ·cases e
theorem g7 (hp:Z.prim sub p=Z.Bs n)(ds:List Z.D)(h:Z.AH)(d:Z.D)(h':Z.AH)(e:Z.prim sub p ds h=some (d,h')):∃c,d=.bl c:=by
 rw[hp]at e;unfold Z.Bs at e;split at e
 ·rename_i x y;cases z:Z.ju h x y with
  | none=>rw[z]at e;cases e
  | some b=>rw[z]at e;cases e;exact ⟨_,rfl⟩
 ·cases e
theorem g8 (hp:Z.prim sub p=Z.yB n)(ds:List Z.D)(h:Z.AH)(d:Z.D)(h':Z.AH)(e:Z.prim sub p ds h=some (d,h')):∃c,d=.bl c:=by
 rw[hp]at e;unfold Z.yB at e;split at e
 ·rename_i x ys;cases z:Z.cj x ys with
  | none=>rw[z]at e;cases e
  | some b=>rw[z]at e;cases e;exact ⟨_,rfl⟩
 ·rename_i x ys;cases z:Z.cj x ys with
  | none=>rw[z]at e;cases e
  | some b=>rw[z]at e;cases e;exact ⟨_,rfl⟩
 ·rename_i x a;split at e
  ·rename_i ys _;cases z:Z.cj x ys with
   | none=>rw[z]at e;cases e
   | some b=>rw[z]at e;cases e;exact ⟨_,rfl⟩
  ·cases z:Z.jX x with
   | none=>rw[z]at e;cases e
   | some b=>rw[z]at e;cases e;exact ⟨_,rfl⟩
  ·cases e
 ·cases e
theorem kZ (hp:Z.prim sub p=Z.zH n)(ds:List Z.D)(h:Z.AH)(d:Z.D)(h':Z.AH)(e:Z.prim sub p ds h=some (d,h')):∃c,d=.bl c:=by
 rw[hp]at e;unfold Z.zH at e;split at e
 ·cases e;exact ⟨_,rfl⟩
 ·cases e;exact ⟨_,rfl⟩
 ·cases e
theorem Iz (he:LE X sub Γ E e e')(hs:swapsWith e none pos.line X.env=pure false:=by rfl):LS X sub Γ E (.Expr e pos) (.expr e'):=JV he hs
theorem aC (i:Nat)(hN:X.N.Nodup)(he:LE X sub Γ E e e')(hi:X.N[i]?=some x:=by rfl)(hx:Loc X.env.scope x:=by first | exact Or.inl rfl | exact Or.inr rfl)(hs:swapsWith e (some (.Name x pos')) pos.line X.env=pure false:=by rfl)(hf:X.fn x=true\/X.env.scope.names.lookup x=some .local:=by first | exact .inl rfl | exact .inr rfl):LS X sub Γ E (.Assign [.Name x pos'] e pos) (.asg i e'):=Nk hN hi hx he hs hf
theorem Dm (hr:bN k X.A)(he:LE X sub Γ E e e')(ho:LE X sub Γ E o o')(hi:LE X sub Γ E i i')(ha:∀v,assign (.Subscript o i p) X.env v=(do let ov <-holding [v] (eval o X.env);let iv <-holding [v,ov] (eval i X.env);standAt p;holding [v,ov,iv] (setItem ov iv v);release [v,ov,iv] []):=by intro _;rfl)(hs:swapsWithSole [.Subscript o i p] e pos.line X.env=pure false:=by rfl)(hw:swappedStores [.Subscript o i p] e X.env=pure none:=by rfl):LS X sub Γ E (.Assign [.Subscript o i p] e pos) (.fC o' i' e'):=Kb (zu hr) he ho hi ha hs hw
theorem dB (i:Nat)(hp:PassesOwn (model X.prog X.w) X.A X.env X.xe)(hc:X.calm=true)(hN:X.N.Nodup)(hit:LI X sub Γ E (.Name x tpos) iter kd src)(hb:j4 X sub Γ E body b')(hi:X.N[i]?=some x:=by rfl)(hx:Loc X.env.scope x:=by first | exact Or.inl rfl | exact Or.inr rfl)(hf:X.fn x=true\/X.env.scope.names.lookup x=some .local:=by first | exact .inl rfl | exact .inr rfl)(hs:∀x,foldedSetIterable iter X.env x=pure x:=by intro _;rfl):LS X sub Γ E (.For (.Name x tpos) iter body [] pos) (.cz [i] kd src b'):=Nq (tg:=iter) hp hc hN hi hx hf hit hb hs
def Dn (N M xs:List Str)(sc0 scope:Scope):Bool:=
 decide (scope.kind=.function) && decide ((M++xs).Nodup) && decide (M.length=N.length)
  && (M.zip N).all (λp=>decide (scope.names.lookup p.1=none) || (decide (p.1=p.2) && !decide (scope.names.lookup p.1=some .local)))
  && scope.names.all (λy=>decide (y.2≠.cell) && (decide (y.2≠.free) || decide (sc0.names.lookup y.1=some .cell) || decide (sc0.names.lookup y.1=some .free)) && (decide (y.2≠.local) || decide (scope.names.lookup y.1=some .local)))
  && xs.all (λx=>decide (scope.names.lookup x=some .local))
theorem vM.of (h:Dn N M xs sc0 scope=true)(hN:X.N=N)(hs:X.env.scope=sc0):vM X scope M xs:=by
 unfold Dn at h;erw[and_eq_true,decide_eq_true_eq,all_eq_true,or_eq_true]at h;obtain ⟨⟨⟨⟨⟨h1,h2⟩,h3⟩,h4⟩,h5⟩,h6⟩:=h;refine ⟨h1,h2,by rw[hN];exact h3,λp hp=>?_,λy hy=>(h5 y hy).1.1,λy hy e=>?_,h6,λy hy e=>?_⟩
 ·rw[hN]at hp;rcases h4 p hp with z | z
  ·exact .inl z
  ·exact .inr ⟨z.1,by simpa using z.2⟩
 ·show X.env.scope.names.lookup y.1=_\/X.env.scope.names.lookup y.1=_;rw[hs];rcases (h5 y hy).1.2 with (z | z) | z
  ·exact absurd e z
  ·exact .inl z
  ·exact .inr z
 ·rcases (h5 y hy).2 with z | z
  ·exact absurd e z
  ·exact z
theorem NR (N M:List Str)(sc0:Scope){x:Str}{px:Pos}{elt iter:Expr}{ifs:List Expr}{pos:Pos}{scope:Scope}{kd:Z.IK}{src:Z.cV}{cond:Z.zK}{oE:Z.Ex}(hcalm:X.calm=true)(hi:LI X sub Γ E (.Name x px) iter kd src)(hc:∀C s H fp,Ag (fQ X scope (bY X.env scope.names []) (M++[x]) C s H fp) ifs (BJ X.K (Z.kS sub Γ E cond)))(he:∀C s H fp,LE (fQ X scope (bY X.env scope.names []) (M++[x]) C s H fp) sub Γ E elt oE)(hS:Dn N M [x] sc0 scope=true:=by decide+kernel)(hN:X.N=N:=by rfl)(hs0:X.env.scope=sc0:=by rfl)(hs:∀v,foldedSetIterable iter X.env v=pure v:=by intro _;rfl):LE X sub Γ E (.ListComp elt [⟨.Name x px,iter,ifs,0⟩] scope pos) (.comp kd src 1 cond oE):=by
 have S:=vM.of hS hN hs0;refine Ka (bd:=NP) hcalm S hi (λv H vs e=>by rw[e];rfl) (λC s H fp=>E3 S.nd ?_ (lookup_relabel_local (S.loc x (by simp)))) (λr L e=>RO r L e) hc he hs;show (M++[x])[X.N.length]?=_;rw[<-S.len,getElem?_append_right (le_refl _)];simp
theorem xQ {body:List Stmt}{df:Z.Def}{N:List Str}{K:Frag}{ρ:List Addr}{h:Z.AH}{H:Hp}{ds:List Z.D}{vs:List V}{Q:VK}{Q':Z.PV}(hK:X.K=K)(hN:N.length=df.nl)(hp:ds.length=df.np)(J:j4 X sub Γ E body df.body)(R:Rep K ρ h H)(r:ak K ρ H ds vs)(w:Z.aZ sub Γ E df.body {nx:=λ_ h=>Q' .non h,rt:=Q'} (ds.map some++replicate (df.nl - df.np) none) h)(k:∀d h' ρ' H' v,Ext K ρ H ρ' H'->Rep K ρ' h' H'->ah K ρ' H' d v->Q' d h'->Q v H'):
  ∃t,iw X body t/\t {nx:=λ_ H'=>Q .non H',rt:=Q} (L2.start N vs) H:=by
 subst hK;refine ⟨_,J,ρ,h,_,_,R,?_,w,⟨λτ h' ρ' H' σ e R' L q=>k _ h' ρ' H' _ e R' (by erw[ah]) q,k,λ_ _ _ _ _ _ _ _ q=>q.elim,λ_ _ _ _ _ _ _ _ q=>q.elim⟩⟩;have hl:=r.length;refine ⟨by simp[L2.start,hl,hN,<-hp],λi d e=>?_⟩;unfold L2.start;by_cases hi:i < ds.length
 ·rw[getElem?_append_left (by simpa using hi),getElem?_map]at e;rw[getElem?_append_left (by simpa [<-hl] using hi),getElem?_map];cases q:ds[i]? with
  | none=>rw[q]at e;cases e
  | some d'=>
   rw[q]at e;cases e;obtain ⟨v,e1,e2⟩:=r.get q;exact ⟨v,by rw[e1];rfl,e2⟩
 ·rw[getElem?_append_right (by simpa using hi),List.getElem?_replicate]at e;split at e<;>cases e
end
theorem NS:bootBuiltins "len"=some (.builtin "len"):=by decide+kernel
theorem Kc:bootBuiltins "list"=some (.type "list"):=by decide+kernel
theorem Ak:bootBuiltins "tuple"=some (.type "tuple"):=by decide+kernel
theorem NT:bootBuiltins "int"=some (.type "int"):=by decide+kernel
theorem Ke:bootBuiltins "bool"=some (.type "bool"):=by decide+kernel
theorem wB:bootBuiltins "str"=some (.type "str"):=by decide+kernel
theorem vh:bootBuiltins "reversed"=some (.type "reversed"):=by decide+kernel
theorem Al {K:Frag}{ρ:List Addr}{H:Hp}:∀ns:List Int,ak K ρ H (ns.map .int) (ns.map V.int)
 | []=>by erw[map_nil,ak]
 | n::ns=>by erw[map_cons,ak];exact ⟨_,_,rfl,by erw[ah],Al ns⟩
end
theorem ext_nil {H:Hp}{K:Frag}:Ext K [] (λ_=>none) [] H:=⟨(λ_ _ e=>e),(λ_ _ e=>by cases e),(λ_ _ _ e=>by cases e)⟩
abbrev R0.nil:R0:=⟨[],λ_=>none⟩
theorem Ha {K:Frag}{H:Hp}{a:Addr}{ns:List Int}{sub:Nat->Nat->Bool}{Pg:List Z.Def}{k i:Nat}(hO:Only H)(hS:eN K H a (ns.map V.int))(hZ:∀o,K.lookup a=some o->o.slots=#[])(w:Z.au sub Pg k i [.bV (ns.map .int)] [] (λd _=>d=.bl true) λ_ _=>False):
  @aN R0.nil K (Z.au sub Pg k) i [.ref a] H (λv _=>v=.bl true) λ_ _ _=>False:=by
 letI:R0:=R0.nil;refine ⟨[],[],[.bV (ns.map .int)],_,λ_ _=>False,⟨rfl,List.nodup_nil,ext_nil,λn o e=>by simp at e⟩,.one ?_,w,λd h' ρ' H' v e R r q=>?_⟩
 ·erw[ah];refine ⟨a,_,rfl,?_,Al ns⟩;rcases hS with (h | ⟨o,h⟩) | h
  ·rcases hO a with z | ⟨o,xs,z⟩
   ·rw[z]at h;cases h
   ·rw[z]at h;cases h
  ·exact .inl ⟨o,h⟩
  ·obtain ⟨o,its,n,h1,h2,h3,h4,h5,h6⟩:=h;exact .inr ⟨o,its,n,h1,h2,h3,h4,h5,h6,hZ o h1⟩
 ·subst q;simpa only[ah] using r
variable [R0]
section
variable {X:Cx}{sub:Nat->Nat->Bool}{Γ:Z.bS}{E:Z.PX}
def Hb (lo st:Int)(n:Nat):It:=⟨λi _=>i < n,λi H x H'=>H'=H/\x=.int (lo+i * st),λi _=>n<=i⟩
theorem Bf {P:Program}{w:World}{K:Frag}{tg:Expr}(it:Addr)(lo st0:Int)(n:Nat):Turn P w K tg (Hb lo st0 n) [it] it (λi h=>IsRangeIter h it (lo+(i:Nat) * st0) ((n:Int) - (i:Nat)) st0) where
 mem:=by simp
 obj:=λi h st b hb=>by
  have e:b=it:=by simpa using hb
  subst e;exact ⟨_,st,λv z=>by have z':Data.fields _=Data.cell v:=z;cases z'⟩
 keep:=λi h h' st k=>k it (by simp) _ st
 item:=by
  intro X hP hw hK hc i pins s σ H E I hf st hg;subst hP hw hK;obtain ⟨f0,f1,f2,f3,f4,f5⟩:=hf it (by simp);have W:=Walks.range (prog:=X.prog) (w:=X.w) (I.ok.hd hc) it lo st0 n;refine W.item i s _ _ hg st λv h' tk hv st' kk=>?_;obtain ⟨t,rfl⟩:=hv;have I1:Inv X pins σ H {s with heap:=h',toks:=tk}:=I.turned (λb o hb e=>kk b o (by simpa using hb) e) f0 f1 f3 f4 f5;exact ⟨_,rfl,uv (s:={s with heap:=h',toks:=tk}) (n:="range_iterator") st' rfl rfl (by decide) ⟨.int (lo+i * st0),H,I1,⟨t,rfl⟩,⟨rfl,rfl⟩,st',λb hb=>(hf b hb).1⟩⟩
 done:=by
  intro X hP hw hK hc i pins s σ H E I hf st hg;subst hP hw hK;obtain ⟨f0,f1,f2,f3,f4,f5⟩:=hf it (by simp);exact wpAny_pyNext_range_end (I.ok.hd hc) st (by have:n<=i:=hg;lia) λh' eb=>⟨rfl,I.turned (t':=s.toks) (λb o hb e=>eb b o hb e) f0 f1 f3 f4 f5⟩
 self:=λ_ _ _ _ _ st h=>wpAny_pyIter_rangeiter st h
theorem rsize (hc:0 < c):Builtin.Range.rangeSize a b c=(((if a < b then ((b - a - 1) / c+1).toNat else 0:Nat):Int)):=by
 unfold Builtin.Range.rangeSize;rw[if_pos hc];split
 ·have:0<=(b - a - 1) / c:=Int.ediv_nonneg (by lia) (by lia)
  lia
 ·rfl
theorem NU (h:Z.Br a b c=true):Builtin.Range.small a b c=true:=by
 obtain ⟨h1,h2,h3,h4,h5,h6⟩:=Z.xC.mp h;have hb:0<=Builtin.Range.rangeSize a b c/\Builtin.Range.rangeSize a b c<=8589934592:=by
  unfold Builtin.Range.rangeSize;rw[if_pos h5];split
  ·have k1:0<=(b - a - 1) / c:=Int.ediv_nonneg (by lia) (by lia);have k2:(b - a - 1) / c<=b - a - 1:=Int.ediv_le_self _ (by lia)
   lia
  ·lia
 unfold Builtin.Range.small;have f:∀x:Int,-9000000000<=x->x<=9000000000->Builtin.Range.rangeFitsLong x=true:=λx a b=>by
  unfold Builtin.Range.rangeFitsLong;simp;lia
 rw[f a (by lia) (by lia),f b (by lia) (by lia),f c (by lia) (by lia),f _ (by lia) (by lia),if_pos h5,f (b+(c - 1)) (by lia) (by lia)];simp
theorem E5 {K:Frag}{ρ:List Addr}{H:Hp}{lo st:Int}{n:Nat}:vI K ρ H (Z.mL lo st n) (Hb lo st n):=by
 intro i aA h1 H1 e1 R1;unfold Z.mL;by_cases hi:i < n
 ·rw[if_pos hi];refine ⟨hi,λx H' hy=>iB R1 hy.1 ?_⟩;erw[ah];rw[hy.2,Int.mul_comm]
 ·rw[if_neg hi];exact le_of_not_lt hi
theorem Kf (hg:Gl X "range")(hm:X.mg "range"=none)(ha:LA X sub Γ E [a,b,c] (.cons a' (.cons b' (.cons c' .nil))))(hs:starEach [a,b,c] X.env=(false,eval a X.env)::starEach [b,c] X.env:=by rfl)(hpl:(backTo pos (starEach [b,c] X.env)).any (·.1)=false:=by rfl):
  LI X sub Γ E tg (.Call (.Name "range" p) [a,b,c] [] pos) .rng (.cons a' (.cons b' (.cons c' .nil))):=by
 intro pins s σ H Rr I ⟨ρ,h,τ,Q',R,L,w,k⟩;have up:GU X.K (Z.aW sub Γ E (.cons a' (.cons b' (.cons c' .nil)))) σ H (λvs H1=>∃(i j l:Int),vs=[.int i,.int j,.int l]/\Z.Br i j l=true/\Rr (Hb i l (if i < j then ((j - i - 1) / l+1).toNat else 0)) H1):=by
  refine ⟨ρ,h,τ,λds h1=>match ds with | [x,y,z]=>Q' [x,y,z] h1 | _=>False,R,L,(by simpa only[Z.aW] using w),λds h1 aA H1 vs e1 R1 r1 q=>?_⟩;obtain ⟨x,y,z,rfl⟩:∃x y z,ds=[x,y,z]:=by
   match ds,q with
   | [x,y,z],_=>exact ⟨x,y,z,rfl⟩
  obtain ⟨J,eJ,hk⟩:=k _ h1 aA H1 vs e1 R1 r1 q;have key:∃i j l:Int,[x,y,z]=[Z.D.int i,.int j,.int l]/\Z.Br i j l=true/\J=Z.mL i l (if i < j then ((j - i - 1) / l+1).toNat else 0):=by
   ·cases x with
    | int i=>
     cases y with
     | int j=>
      cases z with
      | int l=>
       erw[Z.bz,Z.iY,Z.iu,Z.iZ,Z.i9,Z.gR]at eJ;split at eJ
       ·rename_i ok;cases eJ;exact ⟨i,j,l,rfl,ok,rfl⟩
       ·cases eJ
      | _=>erw[Z.bz,Z.iY,Z.iu,Z.iZ,Z.i9,Z.gR]at eJ;cases eJ
     | _=>erw[Z.bz,Z.iY,Z.iu,Z.iZ,Z.i9,Z.gR]at eJ;cases eJ
    | _=>erw[Z.bz,Z.iY,Z.iu,Z.iZ,Z.i9,Z.gR]at eJ;cases eJ
  obtain ⟨i,j,l,ek,ok,rfl⟩:=key;cases ek;erw[ak,ah]at r1;obtain ⟨_,_,rfl,rfl,_,_,rfl,rfl,_,_,rfl,rfl,rfl⟩:=r1;exact ⟨i,j,l,rfl,ok,hk _ E5⟩
 refine Call_ (mO I hg hm boot_range (PyProof.Rows.callWith_type1 (aS (ha pos pins s σ H _ I up) λus s1 ⟨vs,H1,I1,r1,q1⟩=>?_) hs hpl));obtain ⟨i,j,l,rfl,ok,q⟩:=q1;have ok':=Z.xC.mp ok;cases r1 with
 | cons r rr=>
  cases rr with
  | cons r' rr=>
   cases rr with
   | cons r'' rr=>
    cases rr;obtain ⟨t,rfl⟩:=r;obtain ⟨t',rfl⟩:=r';obtain ⟨t'',rfl⟩:=r'';refine call_range_3 (by lia) ?_ (.inl (PyProof.noPylong_small (by lia)));have I2:Inv X pins σ H1 {s1 with heap:=s1.heap.push {cls:=.type "range",data:=.fields #[.int i t,.int j t',.int l t'']},toks:=s1.toks}:=I1.kept λb o e=>get?_push_of_some _ e;refine wpAny_pyIter_range (IsRange.new ..) (NU ok) ?_;refine ⟨(s1.heap.push {cls:=.type "range",data:=.fields #[.int i t,.int j t',.int l t'']}).objs.size,[(s1.heap.push {cls:=.type "range",data:=.fields #[.int i t,.int j t',.int l t'']}).objs.size],_,_,H1,rfl,I2.kept (t':=s1.toks) λb o e=>get?_push_of_some _ e,Bf _ i l _,?_,λb hb=>?_,q⟩
    ·have e1:i+((0:Nat):Int) * l=i:=by simp
     show IsRangeIter _ _ (i+((0:Nat):Int) * l) ((((if i < j then ((j - i - 1) / l+1).toNat else 0:Nat):Nat):Int) - ((0:Nat):Int)) l;rw[e1,<-rsize (by lia)];have e2:∀x:Int,x - ((0:Nat):Int)=x:=λx=>by simp
     rw[e2];exact get?_push_size _ rfl
    ·have e:b=(s1.heap.push {cls:=.type "range",data:=.fields #[.int i t,.int j t',.int l t'']}).objs.size:=by simpa using hb
     subst e;exact I2.vB (le_refl _) (I2.hok.fresh (le_refl _))
theorem RQ {K:Frag}{ρ:List Addr}{H:Hp}{d:Z.D}{v:V}{τ gW:Z.Lo}{σ:L2.St}{i j l:Nat}(r:ah K ρ H d v)(L:bI K ρ H τ σ)(e:Z.fV [i,j,l] d τ=some gW):
  ∃a v1 v2 v3,v=.ref a/\cZ K H a [v1,v2,v3]/\bI K ρ H gW (((σ.set i (some v1)).set j (some v2)).set l (some v3)):=by
 cases d with
 | tup ds=>
  erw[Z.fV]at e;split at e
  ·rename_i hl;cases e;erw[ah]at r;obtain ⟨a,ys,rfl,q,r⟩:=r
   match ds,hl with
   | [d1,d2,d3],_=>
    erw[ak]at r;obtain ⟨v1,_,rfl,r1,v2,_,rfl,r2,v3,_,rfl,r3,rfl⟩:=r;exact ⟨a,v1,v2,v3,rfl,q,((L.set r1).set r2).set r3⟩
  ·cases e
 | _=>simp[Z.fV]at e
theorem RR (i j l:Nat){x y z:Str}{e:Expr}{e':Z.Ex}{px py pz pt pos:Pos}{k:Nat}(hc:X.calm=true)(hN:X.N.Nodup)(he:LE X sub Γ E e e')(hi:X.N[i]?=some x:=by rfl)(hj:X.N[j]?=some y:=by rfl)(hl:X.N[l]?=some z:=by rfl)(hx:Loc X.env.scope x:=by first | exact Or.inl rfl | exact Or.inr rfl)(hy:Loc X.env.scope y:=by first | exact Or.inl rfl | exact Or.inr rfl)(hz:Loc X.env.scope z:=by first | exact Or.inl rfl | exact Or.inr rfl)(hfx:X.fn x=true\/X.env.scope.names.lookup x=some .local:=by first | exact .inl rfl | exact .inr rfl)(Y2:X.fn y=true\/X.env.scope.names.lookup y=some .local:=by first | exact .inl rfl | exact .inr rfl)(hfz:X.fn z=true\/X.env.scope.names.lookup z=some .local:=by first | exact .inl rfl | exact .inr rfl)(hs:swapsWithSole [.Tuple [.Name x px,.Name y py,.Name z pz] k pt] e pos.line X.env=pure false:=by rfl)(hw:swappedStores [.Tuple [.Name x px,.Name y py,.Name z pz] k pt] e X.env=pure none:=by rfl):LS X sub Γ E (.Assign [.Tuple [.Name x px,.Name y py,.Name z pz] k pt] e pos) (.Ec [i,j,l] e'):=by
 refine wm (Ek he (Mu (n:=3) hc (vA (mP (pos:=px) hN hi hx hfx) (vA (mP (pos:=py) hN hj hy Y2) (vA (mP (pos:=pz) hN hl hz hfz) JD))) (by rfl) (by rfl)) hs hw rfl) ?_;rintro D σ H ⟨ρ,h,τ,N,R,L,w,k⟩;erw[Z.wpS]at w;refine ⟨ρ,h,τ,_,R,L,w,λd1 h1 aA H1 v e1 R1 r1 w1=>?_⟩;cases eb:Z.fV [i,j,l] d1 τ with
 | none=>rw[eb]at w1;exact w1.elim
 | some gW=>
  rw[eb]at w1;obtain ⟨a,v1,v2,v3,rfl,hS,L'⟩:=RQ r1 (L.mono e1) eb;exact ⟨a,_,rfl,hS,rfl,v1,_,rfl,v2,_,rfl,v3,_,rfl,rfl,k.nx gW h1 aA H1 _ e1 R1 L' w1⟩
end
theorem ak.rev {K:Frag}{ρ:List Addr}{H:Hp}:∀{xs:List Z.D} {ys:List V},ak K ρ H xs ys->ak K ρ H xs.reverse ys.reverse
 | [],_,r=>by erw[ak]at r;subst r;simp[ak]
 | x::xs,_,r=>by
  erw[ak]at r;obtain ⟨y,t,rfl,q,r⟩:=r;rw[reverse_cons,reverse_cons];exact (ak.rev r).append (ak.one q)
theorem Vals.rev:∀{vs:List V} {us:List Value},Vals vs us->Vals vs.reverse us.reverse
 | [],_,.nil=>.nil
 | _::_,_,.cons r rr=>by
  rw[reverse_cons,reverse_cons];exact (Vals.rev rr).append (.cons r .nil)
section
variable {X:Cx}{sub:Nat->Nat->Bool}{Γ:Z.bS}{E:Z.PX}
theorem aX {K:Frag}{C D:Addr}{b:Bool}(hm:PySem.W.mroIn K C (.ref D)=some b)(hs:PySem.W.mroIn K D (.ref D)=some true)(ht:typeIn K (.ref D)=some (.type "type")):kitOne K (.ref C) (.ref D)=some b:=by
 unfold kitOne;by_cases e:C=D
 ·subst e;rw[hm]at hs;cases hs;rw[if_pos (beq_self_eq_true _)]
 ·rw[if_neg (by simpa using e)];have h1:(PySem.W.clsIn K D).isSome=true:=by
   unfold PySem.W.mroIn at hs;cases q:PySem.W.clsIn K D with
   | none=>rw[q]at hs;cases hs
   | some _=>rfl
  unfold kitCls;erw[h1,ht,beq_self_eq_true,Bool.and_self,if_true];exact hm
end
end ZS
namespace ZS
open PySem PySem.Spec PyProof.Rows L2
section
variable {M:Model}{A:Around}{E:Value->Shared->Prop}{s:Shared}
theorem yO (hfr:A.frames=some (env::outer))(hl:s.heap.FunFrames base (env::outer))(hf:env.frame=some L)(he:s.heap.get? e=some oe)(hd:oe.data=.fields vs)(hsz:1 < vs.size)(h:∀h',(∀b o,b≠e->b∉frs (env::outer)->s.heap.get? b=some o->h'.get? b=some o)->(∀b o,b∈frs (env::outer)->s.heap.get? b=some o->∃sl,h'.get? b=some {o with slots:=sl})->
   (∃oe' vs',h'.get? e=some oe'/\oe'.cls=oe.cls/\oe'.dict=oe.dict/\oe'.data=.fields vs'/\vs'[1]?=some (.ref s.heap.objs.size))->(∃oT ts,h'.get? s.heap.objs.size=some oT/\oT.data=.fields ts/\ts[3]?=some .none)->Q () {s with heap:=h'}):
  wpAny M A (do let a <-frameOf env;let pl <-entryPlaceOf L hadNext;let b <-EntryCells.newEntry head a .none (rawInt L) .none pl;setField (.ref e) 1 b) (λ_ s'=>wpAny M A (setFlight (.ref e) none) Q E s') E s:=by
 have ne0:e∉(env::outer).filterMap (·.frame):=λhm=>by
  obtain ⟨_,o,ho,hnf⟩:=hl.mem hm;rw[he]at ho;injection ho with ho;subst ho;exact hnf vs hd
 refine wpAny_bind (wpAny_frameOf_fun hfr hl hf λg1 u1=>?_);refine wpAny_bind (wpAny_entryPlaceOf λpl pq=>?_);unfold EntryCells.newEntry newFields;refine wpAny_bind (wpAny_newObj_type ?_ (pq.sizeOk5 _ _ _ _ _));have i1:g1.get? e=some oe:=(u1.2.1 e ne0).trans he;have i2:=get?_push_of_some (h:=g1) {cls:=.type "traceback",dict:=none,data:=.fields ([head,.ref L,.none,rawInt L,.none]++(if pl.isEmpty then replicate 6 Value.none else pl)).toArray} i1;refine wpAny_setField i2 hd hsz ?_;have nt:g1.objs.size≠e:=ne_of_gt (lt_size i1);have j3:=Obj.data_mapFields hd (·.setIfInBounds 1 (Value.ref g1.objs.size));have i3:=get?_update_self (Obj.mapFields (·.setIfInBounds 1 (Value.ref g1.objs.size))) i2 (Obj.isFreed_of_fields j3);have t3:=(get?_update_other (g1.push {cls:=.type "traceback",dict:=none,data:=.fields ([head,.ref L,.none,rawInt L,.none]++(if pl.isEmpty then replicate 6 Value.none else pl)).toArray})
  (Obj.mapFields (·.setIfInBounds 1 (Value.ref g1.objs.size))) (Ne.symm nt)).trans (get?_push_size g1 rfl)
 unfold setFlight;refine wpAny_bind (wpAny_field i3 j3 (x:=.ref g1.objs.size) (by simp[hsz]) ?_);rw[if_pos (show (Value.ref g1.objs.size != Value.none)=true from by simp)];refine wpAny_setField t3 rfl (by erw[size_toArray,length_append,length_cons,length_nil]<;>lia) (h _ ?_ ?_ ?_ ?_)
 ·intro b o hbe hbf hb;have hb1:g1.get? b=some o:=(u1.2.1 b hbf).trans hb;have hbT:g1.objs.size≠b:=ne_of_gt (lt_size hb1);rw[get?_update_other _ _ hbT,get?_update_other _ _ (Ne.symm hbe)];exact get?_push_of_some _ hb1
 ·intro b o hbf hb;obtain ⟨sl,hb1⟩:=u1.2.2 b o hb;have hbe:b≠e:=λz=>ne0 (z ▸ hbf);have hbT:g1.objs.size≠b:=ne_of_gt (lt_size hb1);refine ⟨sl,?_⟩;rw[get?_update_other _ _ hbT,get?_update_other _ _ (Ne.symm hbe)];exact get?_push_of_some _ hb1
 ·rw[<-u1.1];refine ⟨_,_,?_,Obj.cls_mapFields _ _,?_,j3,by simp[hsz]⟩
  ·rw[get?_update_other _ _ nt];exact i3
  ·obtain ⟨c,d,dt,sl⟩:=oe;cases dt<;>rfl
 ·rw[<-u1.1];exact ⟨_,_,get?_update_self _ t3 (Obj.isFreed_of_fields (Obj.data_mapFields rfl _)),Obj.data_mapFields rfl _,by first | (simp;done) | (rcases pq with rfl | ⟨_,_,_,_,_,_,_,rfl⟩<;>simp)⟩
end
def XD (H:Hp)(oe:Obj):Option Int->Prop
 | none=>oe.dict=none
 | some i=>∃dx od,oe.dict=some dx/\H dx=some (.bq od (.xd [("row",.int i)]))
theorem XD.of (e:oe'.dict=oe.dict):∀{xr:Option Int},XD H oe xr->XD H oe' xr
 | none,x=>e.trans x
 | some _,⟨dx,od,h1,h2⟩=>⟨dx,od,e.trans h1,h2⟩
def xv:Option Int->Value
 | none=>.none
 | some i=>.int i 0
theorem NV:∀{a b:Option Int},xv a=xv b->a=b
 | none,none,_=>rfl
 | none,some _,e=>by cases e
 | some _,none,e=>by cases e
 | some _,some _,e=>by cases e;rfl
def xD (cn:Z.S):Option Int->Z.D
 | none=>.str cn
 | some i=>.tup [.str cn,.int i]
structure ExcAt (g h:Heap)(H:Hp)(xr:Option Int)(C ea:Addr):Prop where
 new:g.get? ea=none
 free:H ea=none
 at_:∃oe vs,h.get? ea=some oe/\oe.cls=.ref C/\XD H oe xr/\oe.data=.fields vs/\
  (vs[1]?=some .none\/∃T oT ts,vs[1]?=some (.ref T)/\g.get? T=none/\H T=none/\T≠ea/\h.get? T=some oT/\oT.data=.fields ts/\ts[3]?=some .none)
section
variable {M:Model}{A:Around}{E:Value->Shared->Prop}{s:Shared}
theorem Am (hfr:A.frames=some (env::outer))(hl:s.heap.FunFrames base (env::outer))(hf:env.frame=some L)(x:ExcAt g s.heap H xr C ea)(hg:∀b o,g.get? b=some o->∃o',s.heap.get? b=some o')(hok:cE P w H s.heap)(h:∀(h':Heap) (ch:List Addr),(∀b∈ch,g.get? b=none/\H b=none/\b∉frs (env::outer)/\(∃o,s.heap.get? b=some o/\∃vs,o.data=.fields vs)/\∃o,h'.get? b=some o)->(∀b o,b∉ch->b∉frs (env::outer)->s.heap.get? b=some o->h'.get? b=some o)->
   (∀b o,b∈frs (env::outer)->s.heap.get? b=some o->∃sl,h'.get? b=some {o with slots:=sl})->ExcAt g h' H xr C ea->Q () {s with heap:=h'}):
  wpAny M A (noteFrame (.ref ea) env) (λ_ s₂=>wpAny M A (setFlight (.ref ea) none) Q E s₂) E s:=by
 obtain ⟨hn,hfree,oe,vs,he,hc,hdi,hd,ht⟩:=x;have nof:∀b o vs,s.heap.get? b=some o->o.data=.fields vs->b∉frs (env::outer):=λb o vs e d hm=>by
  obtain ⟨_,o',ho,hnf⟩:=hl.mem hm;rw[e]at ho;injection ho with ho;subst ho;exact hnf vs d
 have newT:g.get? s.heap.objs.size=none:=by
  cases q:g.get? s.heap.objs.size with
  | none=>rfl
  | some o=>obtain ⟨o',e⟩:=hg _ o q;exact absurd (lt_size e) (lt_irrefl _)
 unfold noteFrame;erw[hf];rcases ht with h1 | ⟨T,oT,ts,h1,nT,fT,nt,hT,hdT,h3⟩
 ·refine wpAny_bind (wpAny_field he hd h1 ?_);rw[if_neg (by decide)];refine yO hfr hl hf he hd (Array.getElem?_eq_some_iff.mp h1).1 λh' k1 k2 ⟨oe',vs',k3,k4,k5,k6,k7⟩ ⟨oT,ts,k8,k9,k10⟩=>?_;refine h h' [ea] (λb hb=>?_) (λb o hb hbf e=>k1 b o (λz=>hb (by simp[z])) hbf e) k2 ⟨hn,hfree,oe',vs',k3,k4.trans hc,XD.of k5 hdi,k6,.inr ⟨_,oT,ts,k7,newT,hok.fresh (le_refl _),ne_of_gt (lt_size he),k8,k9,k10⟩⟩;rw[mem_singleton.mp hb];exact ⟨hn,hfree,nof _ _ _ he hd,⟨_,he,_,hd⟩,_,k3⟩
 ·refine wpAny_bind (wpAny_field he hd h1 ?_);rw[if_pos (show (Value.ref T != Value.none)=true from by simp)];refine wpAny_bind (wpAny_field hT hdT h3 ?_);rw[if_neg (show ¬((Value.none == rawInt L)=true) from by simp[rawInt])];refine wpAny_bind (wpAny_setField hT hdT (Array.getElem?_eq_some_iff.mp h3).1 ?_);have ot:∀b,b≠T->(s.heap.update T (Obj.mapFields (·.setIfInBounds 3 Value.none))).get? b=s.heap.get? b:=λb hb=>get?_update_other _ _ (Ne.symm hb);have nr:∀b o,s.heap.get? b=some o->(∀vs,o.data≠.fields vs)->b≠T:=λb o hb hnf q=>by
   rw[q,hT]at hb;injection hb with hb;subst hb;exact hnf ts hdT
  have sz:(s.heap.update T (Obj.mapFields (·.setIfInBounds 3 Value.none))).objs.size=s.heap.objs.size:=Heap.size_after_update ..;have hT2:=get?_update_self (Obj.mapFields (·.setIfInBounds 3 Value.none)) hT (Obj.isFreed_of_fields (Obj.data_mapFields hdT _));refine yO (s:={s with heap:=s.heap.update T (Obj.mapFields (·.setIfInBounds 3 Value.none))}) hfr (hl.of_keeps λb o hb hnf=>⟨o,(ot b (nr b o hb hnf)).trans hb,rfl⟩) hf ((ot ea (Ne.symm nt)).trans he) hd (Array.getElem?_eq_some_iff.mp h1).1 λh' k1 k2 ⟨oe',vs',k3,k4,k5,k6,k7⟩ ⟨oT',ts',k8,k9,k10⟩=>?_;have k7:vs'[1]?=some (.ref s.heap.objs.size):=sz ▸ k7;have k8:h'.get? s.heap.objs.size=some oT':=sz ▸ k8;refine h h' [ea,T] (λb hb=>?_) (λb o hb hbf e=>k1 b o (λz=>hb (by simp[z])) hbf ((ot b λz=>hb (by simp[z])).trans e)) (λb o hbf e=>k2 b o hbf ((ot b λz=>nof T oT ts hT hdT (z ▸ hbf)).trans e)) ⟨hn,hfree,oe',vs',k3,k4.trans hc,XD.of k5 hdi,k6,.inr ⟨_,oT',ts',k7,newT,hok.fresh (le_refl _),ne_of_gt (lt_size he),k8,k9,k10⟩⟩;rcases mem_cons.mp hb with rfl | hb
  ·exact ⟨hn,hfree,nof _ _ _ he hd,⟨_,he,_,hd⟩,_,k3⟩
  ·rw[mem_singleton.mp hb];exact ⟨nT,fT,nof _ _ _ hT hdT,⟨_,hT,_,hdT⟩,_,k1 T _ nt (nof _ _ _ hT hdT) hT2⟩
end
def j7 (P:Program)(w:World):q9:=λouter H s E e s'=>∃ea C xr H',e=.ref ea/\s'.os=s.os/\AllBare s'.gens/\Un (frs outer) [] H H' s.heap s'.heap/\cE P w H' s'.heap/\ExcAt s.heap s'.heap H' xr C ea/\E (xv xr) (some C) H'
theorem RT {P:Program}{w:World}{K:Frag}{mg:Str->Option Value}{base:Heap}{N:List Str}{qual:Str}{scope:Scope}{f:Addr}{cd:Value}{A:Around}{outer:List Env}{s:Shared}{H:Hp}{E:XK}{pins:List (Addr×Obj)}{σ:L2.St}{H1:Hp}{s1:Shared}{C ea:Addr}{xr:Option Int}(I:Inv (fF (j7 P w) P w K mg base N qual scope f cd A outer s H E) pins σ H1 s1)(x:ExcAt s.heap s1.heap H1 xr C ea)(he:E (xv xr) (some C) H1):(fF (j7 P w) P w K mg base N qual scope f cd A outer s H E).xe (.ref ea) s1:=by
 have jh:∀b:Addr,b∉(fF (j7 P w) P w K mg base N qual scope f cd A outer s H E).ex:=λb z=>absurd (show b∈([]:List Addr) from z) (by simp);show wpAny (model P w) (A.deeper (envOfC qual scope s.heap.objs.size f cd)) (leaving (envOfC qual scope s.heap.objs.size f cd) (.ref ea)) (λ_ s''=>j7 P w outer H s E (.ref ea) s'') (λe' s''=>j7 P w outer H s E e' s'') s1;unfold leaving;refine wpAny_bind (Am (P:=P) (w:=w) (g:=s.heap) (H:=H1) (base:=base) (outer:=outer) I.ok.frames I.stack rfl x (λb o e=>I.base.there b o e (jh b)) I.hok λh' ch E6 keep slot x'=>?_);have Vi:∀b o,s.heap.get? b=some o->b∉frs outer->b∉frs (envOfC qual scope s.heap.objs.size f cd::outer):=λb o e hb hm=>by
  rcases mem_cons.mp (I.qX b hm) with z | z
  ·exact absurd (lt_size e) (by rw[z];exact Nat.not_lt.mpr I.ok.above)
  ·exact hb z
 have kU:∀b o,s.heap.get? b=some o->b∉ch:=λb o e hb=>by rw[(E6 b hb).1]at e;cases e
 have inF:∀b,b∈frs outer->b∈frs (envOfC qual scope s.heap.objs.size f cd::outer):=λb hb=>by
  unfold frs at hb ⊢;rw[filterMap_cons];split
  ·exact hb
  ·exact mem_cons_of_mem _ hb
 refine ⟨ea,C,xr,H1,rfl,I.os,I.bare,⟨λb o e n hb _=>?_,λb o e n hb _=>?_,λb o e n _=>I.base.free b o e n (jh b),λb o e _=>?_,I.base.tups,I.base.fE,I.base.gx⟩,λa o e=>?_,x',he⟩
 ·exact keep b o (kU b o e) (Vi b o e hb) (I.base.keep b o e n hb (jh b))
 ·obtain ⟨sl,e1⟩:=I.base.slot b o e n hb (jh b);obtain ⟨sl',e2⟩:=slot b _ (inF b hb) e1;exact ⟨sl',e2⟩
 ·obtain ⟨o',e1⟩:=I.base.there b o e (jh b);by_cases hb:b∈frs outer
  ·obtain ⟨sl',e2⟩:=slot b _ (inF b hb) e1;exact ⟨_,e2⟩
  ·exact ⟨o',keep b o' (kU b o e) (Vi b o e hb) e1⟩
 ·refine (I.hok a o e).stay (λb u hb eb=>?_) (λ_ q=>q) λ_ _ q=>q;have ht:∃u,H1 b=some u:=by
   rcases hb with rfl | hb
   ·exact ⟨_,e⟩
   ·exact ⟨_,hb⟩
  obtain ⟨u',ht⟩:=ht;refine keep b u (λz=>?_) (λz=>?_) eb
  ·rw[(E6 b z).2.1]at ht;cases ht
  ·have:=I.uq b z;rw[this]at ht;cases ht
variable [R0]
def Vj (X:Cx)(E:Z.PX):Prop:=∀pins σ H s ea C xr ρ h (cn:Z.S),Inv X pins σ H s->ExcAt X.s₀.heap s.heap H xr C ea->Rep X.K ρ h H->nsIn X.K mainGlobals ⟨cn.toArray⟩=some (some (.ref C))->E (xD cn xr) h->X.xe (.ref ea) s
def vj (K:Frag)(Γ:Z.bS)(f:Nat):Sp:=λvs H Q E=>∃ρ h ds Q',∃E':Z.PX,Rep K ρ h H/\ak K ρ H ds vs/\Γ f ds h Q' E'/\
 (∀d h' ρ' H' v,Ext K ρ H ρ' H'->Rep K ρ' h' H'->ah K ρ' H' d v->Q' d h'->Q v H')/\
 ∀(cn:Z.S) C xr h' ρ' H',Rep K ρ' h' H'->nsIn K mainGlobals ⟨cn.toArray⟩=some (some (.ref C))->E' (xD cn xr) h'->E (xv xr) (some C) H'
end ZS
namespace ZS
open PySem PySem.Spec PyProof.Rows L2
section
variable {X:Cx}{pins:List (Addr×Obj)}{σ:L2.St}{H:Hp}{s:Shared}
theorem BV {ch:List Addr}{h':Heap}{t':Nat}(I:Inv X pins σ H s)(hch:∀b∈ch,X.s₀.heap.get? b=none/\H b=none/\(∃o,s.heap.get? b=some o/\∃vs,o.data=.fields vs)/\∀p∈X.pn++pins,p.1≠b)(keep:∀b o,b∉ch->b∉frs X.stack->s.heap.get? b=some o->h'.get? b=some o)(slot:∀b o,b∈frs X.stack->s.heap.get? b=some o->∃sl,h'.get? b=some {o with slots:=sl}):
  Inv X pins σ H {s with heap:=h',toks:=t'}:=by
 have IA:∀b u,H b=some u->b∉ch/\b∉frs X.stack:=λb u e=>⟨(λz=>by rw[(hch b z).2.1]at e;cases e),(λz=>by rw[I.uq b z]at e;cases e)⟩
 have Y3:∀b,b≠X.env.locals->b∉X.fs->b∉frs X.stack:=λb h1 h2 z=>(mem_cons.mp (I.qX b z)).elim h1 h2;have any:∀b o,b∉ch->s.heap.get? b=some o->∃sl,h'.get? b=some {o with slots:=sl}:=λb o hc e=>by
  by_cases hb:b∈frs X.stack
  ·exact slot b o hb e
  ·exact ⟨o.slots,keep b o hc hb e⟩
 obtain ⟨m0,⟨oL,esL,epL,hL,hLd,_⟩,_⟩:=id I.loc;have nL:X.env.locals∉ch:=λz=>by
  obtain ⟨_,_,⟨o,e,vs,d⟩,_⟩:=hch _ z;rw[hL]at e;cases e;rw[hLd]at d;cases d
 refine I.zo (g':=s.gens) (d':=s.drawn) (t':=t') (ch:=ch) (λb hb=>?_) (λb o h1 h2 h3 e _=>keep b o h3 (Y3 b h1 h2) e) (λb o _ _ h3 e _=>any b o h3 e) (λ_ _ _ _ n=>n) (λb o h3 e=>let ⟨sl,q⟩:=any b o h3 e;⟨_,q⟩) (λ_ _ e=>e) (λ_ _ _ e=>e) (λb ps e=>⟨#[],by rw[e];simp⟩) (λm hm=>?_) (λb u e=>?_) I.bare
 ·obtain ⟨h1,h2,⟨o,e,vs,d⟩,h3⟩:=hch b hb;refine ⟨.inr h1,λz=>nL (z ▸ hb),λx c ec z=>?_,h3⟩;obtain ⟨v,oc,eo,dc⟩:=I.cell x c ec;rw[z,e]at eo;cases eo;rw[d]at dc;cases dc
 ·obtain ⟨o,es,ep,ho,r⟩:=hm;obtain ⟨sl,q⟩:=any _ o nL ho;exact ⟨_,es,ep,q,r⟩
 ·refine (I.hok b u e).stay (λc v hc q=>?_) (λ_ q=>q) λ_ _ q=>q;have ht:∃w,H c=some w:=by
   rcases hc with rfl | hc
   ·exact ⟨_,e⟩
   ·exact ⟨_,hc⟩
  obtain ⟨w,ht⟩:=ht;exact keep c v (IA c w ht).1 (IA c w ht).2 q
theorem E7 {M:Model}{E:Value->Shared->Prop}{Q:Unit->Shared->Prop}{g:Heap}{C ea:Addr}{xr:Option Int}(I:Inv X pins σ H s)(hst:X.stack=X.env::X.outer)(hf:X.env.frame=some X.env.locals)(x:ExcAt g s.heap H xr C ea)(hg:∀b o,g.get? b=some o->∃o',s.heap.get? b=some o')(hg0:∀b,g.get? b=none->X.s₀.heap.get? b=none)(An:∀p∈X.pn++pins,∃o,g.get? p.1=some o)(h:∀h',Inv X pins σ H {s with heap:=h'}->(∀b o,g.get? b=some o->∃o',h'.get? b=some o')->ExcAt g h' H xr C ea->Q () {s with heap:=h'}):
  wpAny M X.A (noteFrame (.ref ea) X.env) (λ_ s₂=>wpAny M X.A (setFlight (.ref ea) none) Q E s₂) E s:=by
 refine Am (P:=X.prog) (w:=X.w) (base:=X.base) (outer:=X.outer) (hst ▸ I.ok.frames) (hst ▸ I.stack) hf x hg I.hok λh' ch E6 keep slot x'=>?_;refine h h' (BV (t':=s.toks) I (ch:=ch) (λb hb=>?_) (λb o h1 h2 e=>keep b o h1 (hst ▸ h2) e) λb o h2 e=>slot b o (hst ▸ h2) e) (λb o e=>?_) x'
 ·obtain ⟨h1,h2,_,h3,_⟩:=E6 b hb;refine ⟨hg0 b h1,h2,h3,λp hp z=>?_⟩;obtain ⟨o,e⟩:=An p hp;rw[z,h1]at e;cases e
 ·obtain ⟨o',e1⟩:=hg b o e;by_cases hc:b∈ch
  ·exact (E6 b hc).2.2.2.2
  ·by_cases hb:b∈frs (X.env::X.outer)
   ·obtain ⟨sl,q⟩:=slot b o' hb e1;exact ⟨_,q⟩
   ·exact ⟨_,keep b o' hc hb e1⟩
theorem Kg {M:Model}{A:Around}{E:Value->Shared->Prop}{Q:Unit->Shared->Prop}{g:Heap}{C ea:Addr}{xr:Option Int}(I:Inv X pins σ H s)(x:ExcAt g s.heap H xr C ea)(hg:∀b o,g.get? b=some o->∃o',s.heap.get? b=some o')(hg0:∀b,g.get? b=none->X.s₀.heap.get? b=none)(An:∀p∈X.pn++pins,∃o,g.get? p.1=some o)(h:∀h',Inv X pins σ H {s with heap:=h'}->(∀b o,g.get? b=some o->∃o',h'.get? b=some o')->ExcAt g h' H xr C ea->Q () {s with heap:=h'}):
  wpAny M A (setFlight (.ref ea) none) Q E s:=by
 obtain ⟨hn,hfree,oe,vs,he,hc,hdi,hd,ht⟩:=id x;rcases ht with h1 | ⟨T,oT,ts,h1,nT,fT,hTe,hT,hdT,h3⟩
 ·unfold setFlight;refine wpAny_bind (wpAny_field he hd h1 ?_);rw[if_neg (by decide)];exact wpAny_pure (h s.heap (I.tok s.toks) hg x)
 ·refine wpAny_setFlight_none he hd h1 hT hdT (Array.getElem?_eq_some_iff.mp h3).1 ?_;have ot:∀b,b≠T->(s.heap.update T (Obj.mapFields (·.setIfInBounds 3 Value.none))).get? b=s.heap.get? b:=λb hb=>get?_update_other _ _ (Ne.symm hb);have hT2:=get?_update_self (Obj.mapFields (·.setIfInBounds 3 Value.none)) hT (Obj.isFreed_of_fields (Obj.data_mapFields hdT _));have nf:T∉frs X.stack:=λz=>by
   obtain ⟨_,o,e,d⟩:=I.stack.mem z;rw[hT]at e;cases e;exact d _ hdT
  refine h _ (BV (t':=s.toks) I (ch:=[T]) (λb hb=>?_) (λb o h1 h2 e=>(ot b λz=>h1 (by simp[z])).trans e) λb o h2 e=>⟨o.slots,(ot b λz=>nf (z ▸ h2)).trans e⟩) (λb o e=>?_) ⟨hn,hfree,oe,vs,(ot ea (Ne.symm hTe)).trans he,hc,hdi,hd,.inr ⟨T,_,_,h1,nT,fT,hTe,hT2,Obj.data_mapFields hdT _,by simp[(Array.getElem?_eq_some_iff.mp h3).1]⟩⟩
  ·rw[mem_singleton.mp hb];refine ⟨hg0 T nT,fT,⟨_,hT,_,hdT⟩,λp hp z=>?_⟩;obtain ⟨o,e⟩:=An p hp;rw[z,nT]at e;cases e
  ·by_cases hb:b=T
   ·rw[hb,nT]at e;cases e
   ·obtain ⟨o',e1⟩:=hg b o e;exact ⟨o',(ot b hb).trans e1⟩
theorem Hc (I:Inv X pins σ H s)(hn:X.s₀.heap.get? ea=none)(hfree:H ea=none)(he:s.heap.get? ea=some oe)(hd:∃vs,oe.data=.fields vs)(hp:∀p∈X.pn++pins,p.1≠ea):Inv X pins σ (upd H ea (.bq oe (.own 0))) s:=by
 have E8:∀b u,H b=some u->b≠ea:=λb u e z=>by rw[z,hfree]at e;cases e
 obtain ⟨m0,⟨oL,esL,epL,hL,hLd,_⟩,_⟩:=id I.loc;obtain ⟨vs,hd⟩:=hd;refine I.zo (h':=s.heap) (g':=s.gens) (d':=s.drawn) (t':=s.toks) (ch:=[ea]) (λb hb=>?_) (λb o _ _ _ e _=>e) (λb o _ _ _ e _=>⟨o.slots,e⟩) (λb o h3 _ n=>?_) (λb o _ e=>⟨o,e⟩) (λb xs e=>?_) (λb o u e=>?_) (λb ps e=>⟨#[],?_⟩) (λm hm=>hm) (λb u e=>?_) I.bare
 ·rw[mem_singleton.mp hb];refine ⟨.inr hn,λz=>?_,λx c ec z=>?_,hp⟩
  ·rw[z,hL]at he;cases he;rw[hLd]at hd;cases hd
  ·obtain ⟨v,oc,eo,dc⟩:=I.cell x c ec;rw[z,he]at eo;cases eo;rw[hd]at dc;cases dc
 ·rw[aB (λz=>h3 (by simp[z]))];exact n
 ·rw[aB (E8 b _ e)];exact e
 ·rw[aB (E8 b _ e)];exact e
 ·rw[aB (E8 b _ e),e];simp
 ·by_cases hb:b=ea
  ·subst hb;rw[aK]at e;cases e;exact ⟨he,_,he⟩
  ·rw[aB hb]at e;exact (I.hok b u e).stay (λ_ _ _ q=>q) (λc q=>by rw[aB (E8 c _ q)];exact q) λc xs q=>by rw[aB (E8 c _ q)];exact q
end
variable [R0]
abbrev VB:List Value:=[.type "ValueError",.type "Exception",.type "BaseException",.type "object"]
section
open PySem.W
variable {prog:Program}{w:World}{A:Around}{E:Value->Shared->Prop}{s:Shared}{K:Frag}{x D:Addr}{ox:Obj}
structure oW (K:Frag)(D:Addr):Prop where
 ga:findIn K (.ref D) "__getattribute__"=some (some (.builtin "BaseException.__getattribute__"))
 gh:findIn K (.ref D) "__getattr__"=some none
 cl:findIn K (.ref D) "__class__"=some (some (.builtin "object.__class__"))
 mo:mroIn K D (.type "object")=some true
 mb:mroIn K D (.type "BaseException")=some true
theorem E9 (hc:(clsIn K D).isSome=true)(ha:findIn K (.ref D) nm=some (some a))(hg:specialIn K a "__get__"=some (some g))(ht:takesIn K a=some true):findObj K D od nm=some (.bind g a):=by
 obtain ⟨cd,hc⟩:=isSome_iff_exists.mp hc;unfold findObj;rw[hc,bind_some,ha,bind_some];simp[hg,ht]
theorem oW.some (c:oW K D):(clsIn K D).isSome=true:=by
 have:=c.mo;unfold mroIn at this;cases q:clsIn K D with
 | none=>rw[q]at this;cases this
 | some _=>rfl
theorem Kh (X:K.In s.heap)(I:InstAt s.heap x ox D od)(c:oW K D)(hn:specialIn K (.builtin "object.__class__") "__get__"=some (some (.builtin "getset_descriptor.__get__")))(htk:takesIn K (.builtin "object.__class__")=some true)(h:Q (.done (.ret (.ref D))) s):wpAny (model prog w) A (Builtin.«object.__getattribute__» ⟨[.ref x,.str "__class__" tk],[]⟩) Q E s:=by
 obtain ⟨hh,gg,d,t,os⟩:=s;have L0:=I.type (M:=model prog w);have L1:=looks_find (M:=model prog w) X I (E9 c.some c.cl hn htk);unfold Builtin.«object.__getattribute__»;refine wpAny_bind (wpAny_pure (wpAny_bind (wpAny_pure (wpAny_bind (L0.at (wpAny_bind (L1.at ?_)))))));show wpAny _ _ (holding [Value.builtin "object.__class__"] (call (.builtin "getset_descriptor.__get__") [.builtin "object.__class__",.ref x,.ref D]) >>= ret) _ _ _;refine wpAny_bind (wpAny_holding (wpAny_call (class_get (ox:=ox) (od:=od) X I c.mo (wpAny_pure h))))
theorem yP {M:Model}{h:Heap}{g:Array GenState}{d:Drawn}{t:Nat}{os:OsState}{nv:Value}{Q:Unit->Shared->Prop}(L3:Looks M h (isInstance (.ref x) (.type "BaseException")) true)(hq:Q () ⟨h,g,d,t,os⟩):wpAny M A (checkBuiltinCall "BaseException.__getattribute__" ⟨[.ref x,nv],[]⟩) Q E ⟨h,g,d,t,os⟩:=by
 have hk:builtinKind "BaseException.__getattribute__"=some .slot:=by decide+kernel
 have hsplit:splitId "BaseException.__getattribute__"=some ("BaseException","__getattribute__"):=by decide+kernel
 have ha:=PySem.F.args_bexc_ga (.ref x) nv;erw[checkBuiltinCall,hk,hsplit];refine wpAny_bind (L3.at ?_)
 repeat (any_goals (first | assumption | wp_step))
theorem E_ (X:K.In s.heap)(I:InstAt s.heap x ox D od)(c:oW K D)(hn:specialIn K (.builtin "object.__class__") "__get__"=some (some (.builtin "getset_descriptor.__get__")))(htk:takesIn K (.builtin "object.__class__")=some true)(h:Q (some (.ref D)) {s with toks:=s.toks+1}):wpAny (model prog w) A (getAttr? (.ref x) "__class__") Q E s:=by
 obtain ⟨hh,g,d,t,os⟩:=s;have L0:=I.type (M:=model prog w);have L1:=looks_findIn (M:=model prog w) X c.ga;have L2:=looks_findIn (M:=model prog w) X c.gh;have L3:Looks (model prog w) hh (isInstance (.ref x) (.type "BaseException")) true:=L0.andThen (looks_mroIn X c.mb);unfold getAttr? getAttrBy? getAttrBy;refine wpAny_bind (wpAny_mkText (wpAny_bind (wpAny_attempt (wpAny_holding (wpAny_bind (L0.at (wpAny_bind (L1.at ?_))))))));have hx2:(Value.builtin "BaseException.__getattribute__" == Value.builtin "object.__getattribute__")=false:=by decide+kernel
 dsimp only;rw[if_neg (by rw[hx2,Bool.and_false];decide)];unfold getAttrByItsOwn hookBefore;rw[if_pos (show onTheHeap (Value.ref D)=true by rfl)];refine wpAny_bind (L2.at (wpAny_bind (wpAny_attempt (wpAny_holding ?_))));unfold callGetattribute;rw[if_neg (by decide)];unfold boundAndCalled;refine wpAny_bind (wpAny_of_eq (attr_ValueError.ga.bind (.ref x)) ?_);refine wpAny_call (codeAny_call_builtin attr_ValueError.ga.plain entry_bexc_ga (yP L3 (Kh (s:=⟨hh,g,d,t+1,os⟩) X I c hn htk ?_)));exact handed_on rfl (wpAny_pure h)
theorem oF (c:oW K D)(hn:specialIn K (.builtin "object.__class__") "__get__"=some (some (.builtin "getset_descriptor.__get__")))(htk:takesIn K (.builtin "object.__class__")=some true):KitX K (.ref x) (.ref D) (λh=>InstAt h x ox D od) where
 ty:=λ_ _ _ I=>I.type
 it:=λ_ _ X _=>by
  obtain ⟨cdD,hcD⟩:=isSome_iff_exists.mp c.some;unfold clsIn at hcD;split at hcD
  ·rename_i c' d' cd' sl' ho;intro A' Q' E' s' k q;unfold isType loadHead;exact wpAny_bind (wpAny_loadPart (k _ _ (X _ _ ho)) (wpAny_pure q))
  ·cases hcD
 ne:=λh tp dd its n sl X htp=>by
  obtain ⟨cdD,hcD⟩:=isSome_iff_exists.mp c.some;refine eq_false_iff.mpr λq=>?_;have e:D=tp:=Value.ref.inj (beq_iff_eq.mp q);subst e;unfold clsIn at hcD;split at hcD
  ·rename_i c' d' cd' sl' ho;have z:=(X _ _ ho).symm.trans htp;cases z
  ·cases hcD
 ca:=λX I k=>E_ X I c hn htk k
end
structure cg (K:Frag)(c:Value)(ys ns:List Z.S):Prop where
 hn:PySem.W.specialIn K (.builtin "object.__class__") "__get__"=some (some (.builtin "getset_descriptor.__get__"))
 ht:PySem.W.takesIn K (.builtin "object.__class__")=some true
 yes:∀d∈ys,∀C,nsIn K mainGlobals ⟨d.toArray⟩=some (some (.ref C))->oW K C/\kitOne K (.ref C) c=some true
 no:∀d∈ns,∀C,nsIn K mainGlobals ⟨d.toArray⟩=some (some (.ref C))->oW K C/\kitOne K (.ref C) c=some false
theorem cI {K:Frag}{c:Value}(hn:PySem.W.specialIn K (.builtin "object.__class__") "__get__"=some (some (.builtin "getset_descriptor.__get__")))(ht:PySem.W.takesIn K (.builtin "object.__class__")=some true):cg K c [] []:=⟨hn,ht,(λ_ h=>by cases h),(λ_ h=>by cases h)⟩
theorem bZ {K:Frag}{c:Value}{C:Addr}{d:Z.S}{ys ns:List Z.S}{x:Str}(hC:nsIn K mainGlobals x=some (some (.ref C)))(ok:oW K C)(e:kitOne K (.ref C) c=some true)(r:cg K c ys ns)(hx:x=⟨d.toArray⟩:=by rfl):cg K c (d::ys) ns:=by
 subst hx;refine ⟨r.hn,r.ht,λc' h C' hn=>?_,r.no⟩;rcases mem_cons.mp h with rfl | h
 ·rw[hC]at hn;cases hn;exact ⟨ok,e⟩
 ·exact r.yes c' h C' hn
theorem aL {K:Frag}{c:Value}{C:Addr}{d:Z.S}{ys ns:List Z.S}{x:Str}(hC:nsIn K mainGlobals x=some (some (.ref C)))(ok:oW K C)(e:kitOne K (.ref C) c=some false)(r:cg K c ys ns)(hx:x=⟨d.toArray⟩:=by rfl):cg K c ys (d::ns):=by
 subst hx;refine ⟨r.hn,r.ht,r.yes,λc' h C' hn=>?_⟩;rcases mem_cons.mp h with rfl | h
 ·rw[hC]at hn;cases hn;exact ⟨ok,e⟩
 ·exact r.no c' h C' hn
theorem mY {K:Frag}{C:Addr}{T:String}{b:Bool}(hT:PySem.W.kitMeta T=true)(hm:PySem.W.mroIn K C (.type T)=some b):kitOne K (.ref C) (.type T)=some b:=by
 unfold kitOne kitCls;rw[if_neg (by simp)];erw[hT,if_true];exact hm
theorem NW {K:Frag}{ρ:List Addr}{h:Z.AH}{H:Hp}{n:Nat}{v:V}{c:Z.S}(R:Rep K ρ h H)(r:ah K ρ H (.ref n) v)(e:h[n]?=some (.exc c)):
  ∃a C oe,v=.ref a/\nsIn K mainGlobals ⟨c.toArray⟩=some (some (.ref C))/\H a=some (.bq oe (.own 0))/\oe.cls=.ref C/\oe.dict=none/\notCls oe=true:=by
 erw[ah]at r;obtain ⟨a,rfl,q⟩:=r;obtain ⟨b,eb,C,oe,h1,h2,h3⟩:=R.at_ n _ e;rw[q]at eb;cases eb;exact ⟨a,C,oe,rfl,h1,h2,h3⟩
theorem Fb {K:Frag}{ρ:List Addr}{h:Z.AH}{H:Hp}{n:Nat}{v:V}{c:Z.S}{i:Int}(R:Rep K ρ h H)(r:ah K ρ H (.ref n) v)(e:h[n]?=some (.bU c i)):
  ∃a C oe dx od,v=.ref a/\nsIn K mainGlobals ⟨c.toArray⟩=some (some (.ref C))/\H a=some (.bq oe (.own 0))/\H dx=some (.bq od (.xd [("row",.int i)]))/\oe.cls=.ref C/\oe.dict=some dx/\notCls oe=true:=by
 erw[ah]at r;obtain ⟨a,rfl,q⟩:=r;obtain ⟨b,eb,C,oe,dx,od,h1,h2,h3⟩:=R.at_ n _ e;rw[q]at eb;cases eb;exact ⟨a,C,oe,dx,od,rfl,h1,h2,h3⟩
section
variable {X:Cx}{sub:Nat->Nat->Bool}{Γ:Z.bS}{E:Z.PX}
theorem IB (hv:∀u,RelV vc u->u=uc)(ok:cg X.K uc ys ns):cR X (.builtin "isinstance") (λxs H Q=>∃x,xs=[x,vc]/\rP X.K sub (.cD ys ns) [x] H Q):=by
 intro pins s σ H xs us Q I r ⟨x,e,ρ,h,ds,d,h',R,rr,q,kk⟩;subst e;obtain ⟨u,w',rfl,rx,rt⟩:=vals2 r;have:=hv _ rt;subst this;obtain ⟨d1,rfl,r1⟩:=oA rr;change Z.Gv ys ns [d1] h=some (d,h') at q;cases d1 with
 | ref n=>
  erw[Z.Gv]at q;cases eo:h[n]? with
  | none=>rw[eo]at q;cases q
  | some o=>
   cases o with
   | exc c=>
    rw[eo]at q;simp only at q;obtain ⟨a,C,oe,rfl,hn,ha,hc,hd,hnc⟩:=NW R r1 eo;obtain ⟨ho,_⟩:=(show bD X.prog X.w H s.heap a (.bq oe (.own 0)) from I.hok a _ ha)
    cases (show u=Value.ref a from rx);have J:PySem.W.InstAt s.heap a oe C none:=⟨ho,hc,hnc,by rw[hd];trivial⟩
    by_cases hy:c∈ys
    ·rw[if_pos hy]at q;cases q;obtain ⟨o,e⟩:=ok.yes c hy C hn;exact kia_one (oF o ok.hn ok.ht) I.bX J e (λz=>nomatch z) λtk=>⟨.bl true,H,I.tok _,rfl,kk ρ H _ .refl R (by erw[ah])⟩
    ·rw[if_neg hy]at q;by_cases hz:c∈ns
     ·rw[if_pos hz]at q;cases q;obtain ⟨o,e⟩:=ok.no c hz C hn;exact kia_one (oF o ok.hn ok.ht) I.bX J e (λz=>nomatch z) λtk=>⟨.bl false,H,I.tok _,rfl,kk ρ H _ .refl R (by erw[ah])⟩
     ·rw[if_neg hz]at q;cases q
   | bU c i=>
    rw[eo]at q;simp only at q;obtain ⟨a,C,oe,dx,od,rfl,hn,ha,hx,hc,hd,hnc⟩:=Fb R r1 eo;obtain ⟨hod,_⟩:=(show bD X.prog X.w H s.heap dx (.bq od (.xd [("row",.int i)])) from I.hok dx _ hx)
    obtain ⟨ho,_⟩:=(show bD X.prog X.w H s.heap a (.bq oe (.own 0)) from I.hok a _ ha)
    cases (show u=Value.ref a from rx);have J:PySem.W.InstAt s.heap a oe C (some od):=⟨ho,hc,hnc,by rw[hd];exact hod⟩
    by_cases hy:c∈ys
    ·rw[if_pos hy]at q;cases q;obtain ⟨o,e⟩:=ok.yes c hy C hn;exact kia_one (oF o ok.hn ok.ht) I.bX J e (λz=>nomatch z) λtk=>⟨.bl true,H,I.tok _,rfl,kk ρ H _ .refl R (by erw[ah])⟩
    ·rw[if_neg hy]at q;by_cases hz:c∈ns
     ·rw[if_pos hz]at q;cases q;obtain ⟨o,e⟩:=ok.no c hz C hn;exact kia_one (oF o ok.hn ok.ht) I.bX J e (λz=>nomatch z) λtk=>⟨.bl false,H,I.tok _,rfl,kk ρ H _ .refl R (by erw[ah])⟩
     ·rw[if_neg hz]at q;cases q
   | _=>rw[eo]at q;cases q
 | _=>cases q
theorem cG (hm:X.mg "isinstance"=none)(hmt:X.mg tn=some (.ref D))(ok:cg X.K (.ref D) ys ns)(he:LE X sub Γ E e e')(hg:Gl X "isinstance":=by rfl)(hgt:Gl X tn:=by rfl)(hdd:bM tn:=by decide)(hs:∀es,dn X.env e es:=by intro _;rfl):
  LE X sub Γ E (.Call (.Name "isinstance" p) [e,.Name tn p2] [] pos) (.prim (.cD ys ns) (.cons e' .nil)):=by
 have hn:PE X (.Name tn p2) (tC (.ref D)):=ur hgt hmt rfl hdd;refine dA (oh (IB (sub:=sub) (vc:=.ref D) (λu r=>r) ok) hg hm (by rfl) (dw he (dw hn i_ (by rfl)) (hs _)) (by decide) (by decide) (hs _) (by rfl)) ?_;rintro σ H Q ⟨ρ,h,τ,Q',R,L,w,k'⟩;erw[Z.aF,Z.aW]at w;refine ⟨ρ,h,τ,_,R,L,w,λd1 h1 aA H1 x e1 R1 r1 w1=>?_⟩;cases q:Z.prim sub (.cD ys ns) [d1] h1 with
 | none=>rw[q]at w1;exact w1.elim
 | some z=>
  rw[q]at w1;exact ⟨x,rfl,aA,h1,[d1],z.1,z.2,R1,.one r1,q,λρ' H' v e' R' r'=>k' _ _ ρ' H' v (e1.trans e') R' r' w1⟩
theorem IC (hm:X.mg "isinstance"=none)(hmt:X.mg tn=none)(EZ:bootBuiltins tn=some (.type T))(ok:cg X.K (.type T) ys ns)(he:LE X sub Γ E e e')(hg:Gl X "isinstance":=by rfl)(hgt:Gl X tn:=by rfl)(hnn:tn≠"__name__":=by decide)(hdd:bM tn:=by decide)(hs:∀es,dn X.env e es:=by intro _;rfl):
  LE X sub Γ E (.Call (.Name "isinstance" p) [e,.Name tn p2] [] pos) (.prim (.cD ys ns) (.cons e' .nil)):=by
 have hn:PE X (.Name tn p2) (tC (.ty T)):=Bw hgt hmt EZ rfl hnn hdd;refine dA (oh (IB (sub:=sub) (vc:=.ty T) (λu r=>r) ok) hg hm (by rfl) (dw he (dw hn i_ (by rfl)) (hs _)) (by decide) (by decide) (hs _) (by rfl)) ?_;rintro σ H Q ⟨ρ,h,τ,Q',R,L,w,k'⟩;erw[Z.aF,Z.aW]at w;refine ⟨ρ,h,τ,_,R,L,w,λd1 h1 aA H1 x e1 R1 r1 w1=>?_⟩;cases q:Z.prim sub (.cD ys ns) [d1] h1 with
 | none=>rw[q]at w1;exact w1.elim
 | some z=>
  rw[q]at w1;exact ⟨x,rfl,aA,h1,[d1],z.1,z.2,R1,.one r1,q,λρ' H' v e' R' r'=>k' _ _ ρ' H' v (e1.trans e') R' r' w1⟩
end
end ZS
namespace ZS
open PySem PySem.Spec PyProof.Rows L2
abbrev hand (X:Cx)(e:Value)(E:Value->Shared->Prop):Cx:={X with A:=X.A.mark (some e),calm:=false,xe:=E}
theorem Kk (ok:X.Ok):(hand X e E).Ok:=
 ⟨ok.mod,ok.kind,ok.glob,ok.blt,ok.above,ok.inj,ok.has,ok.cab,(λh=>by cases h),ok.frames,ok.stk,ok.Mg,ok.bs,ok.uW,ok.jh,ok.zR,ok.iz,ok.yF⟩
theorem BW (I:Inv X pins σ H s):Inv (hand X e E) pins σ H s:=⟨Kk I.ok,I.os,I.bare,I.base,I.loc,I.cell,I.free,I.cQ,I.pin,I.hok,I.len⟩
theorem oG (ok:X.Ok)(I:Inv (hand X e E) pins σ H s):Inv X pins σ H s:=⟨ok,I.os,I.bare,I.base,I.loc,I.cell,I.free,I.cQ,I.pin,I.hok,I.len⟩
section
variable {X:Cx}{pins:List (Addr×Obj)}{σ:L2.St}{H:Hp}{s:Shared}
theorem uD (I:Inv X pins σ H s)(hN:X.N.Nodup)(hj:X.N[j]?=some n)(hl:X.env.scope.names.lookup n=some .local)(h:∀s',Inv X pins (σ.set j none) H s'->Q () s'):wpAny M A (do bindName X.env n .none;unbindBehindTheSuite X.env n pos) Q E s:=by
 obtain ⟨m,hn,hloc⟩:=id I.loc;refine wpAny_nameGoes_keeps (show X.env.kindOf n=some .local from hl) hn (by rw[I.ok.kind];rfl) λh' v hn' hs=>h _ ?_;obtain ⟨oL,_,_,hoL,_⟩:=id hn;have lt:∀b o,X.s₀.heap.get? b=some o->b≠X.env.locals:=λb o e=>ne_of_lt (lt_of_lt_of_le (lt_size e) I.ok.above);have HZ:j < σ.length:=by rw[I.len];exact (List.getElem?_eq_some_iff.mp hj).1
 refine ⟨I.ok,I.os,I.bare,⟨λb o e q hb hx=>(hs.2 b (lt b o e)).trans (I.base.keep b o e q hb hx),λb o e q hb hx=>?_,I.base.free,λb o e hx=>?_,I.base.tups,I.base.fE,I.base.gx⟩,⟨_,hn',λi y w e1 e2 e3=>?_⟩,λy c e=>?_,I.free,I.cQ,λp hp=>?_,λb u e=>?_,by simpa using I.len⟩
 ·obtain ⟨sl,e1⟩:=I.base.slot b o e q hb hx;exact ⟨sl,(hs.2 b (lt b o e)).trans e1⟩
 ·obtain ⟨o',e1⟩:=I.base.there b o e hx;exact ⟨o',(hs.2 b (lt b o e)).trans e1⟩
 ·by_cases hji:i=j
  ·subst hji;rw[getElem?_set_self HZ]at e2;cases e2
  ·rw[getElem?_set_ne (Ne.symm hji)]at e2;obtain ⟨u,r,q⟩:=hloc i y w e1 e2 e3;refine ⟨u,r,?_⟩;rcases q with ⟨k,e⟩ | ⟨k,c,e,z⟩
   ·have:y≠n:=λe=>hji (vy hN e1 (e ▸ hj));exact .inl ⟨k,by simp[this,e]⟩
   ·exact .inr ⟨k,c,e,z.sameBut hs (I.qW y c e)⟩
 ·obtain ⟨w,z⟩:=I.cell y c e;exact ⟨w,z.sameBut hs (I.qW y c e)⟩
 ·obtain ⟨e,q,ne,nf,d⟩:=I.pin p hp;exact ⟨(hs.2 p.1 ne).trans e,q,ne,nf,d⟩
 ·refine (I.hok b u e).stay (λc w hc q=>(hs.2 c λz=>?_).trans q) (λ_ q=>q) λ_ _ q=>q;have hf:=I.free;rcases hc with rfl | hc
  ·rw[z,hf]at e;cases e
  ·rw[z,hf]at hc;cases hc
def IE (D:Ends)(j:Nat):Ends where
 nx:=λσ' H'=>D.nx (σ'.set j none) H'
 rt:=D.rt
 bk:=λσ' H'=>D.bk (σ'.set j none) H'
 ct:=λσ' H'=>D.ct (σ'.set j none) H'
theorem NX (ok:X.Ok)(hN:X.N.Nodup)(hj:X.N[j]?=some n)(hl:X.env.scope.names.lookup n=some .local)(q:SP (hand X e xe) pins (IE D j) f s):wpAny M X.A (do bindName X.env n .none;unbindBehindTheSuite X.env n pos) (λ_ s'=>SP X pins D f s') E s:=by
 cases f with
 | next=>obtain ⟨σ',H',I,q⟩:=q;exact uD (oG ok I) hN hj hl λs' I'=>⟨_,H',I',q⟩
 | brk=>obtain ⟨σ',H',I,q⟩:=q;exact uD (oG ok I) hN hj hl λs' I'=>⟨_,H',I',q⟩
 | cont=>obtain ⟨σ',H',I,q⟩:=q;exact uD (oG ok I) hN hj hl λs' I'=>⟨_,H',I',q⟩
 | ret u=>obtain ⟨v,σ',H',I,r,q⟩:=q;exact uD (oG ok I) hN hj hl λs' I'=>⟨v,_,H',I',r,q⟩
end
theorem bI.unset {K:Frag}{ρ:List Addr}{H:Hp}{τ:Z.Lo}{σ:L2.St}(L:bI K ρ H τ σ)(j:Nat):bI K ρ H (τ.set j none) (σ.set j none):=by
 refine ⟨by simp[L.1],λi d e=>?_⟩;by_cases hi:i=j
 ·subst hi;by_cases hl:i < τ.length
  ·rw[getElem?_set_self hl]at e;cases e
  ·rw[getElem?_eq_none (by simpa using hl)]at e;cases e
 ·rw[getElem?_set_ne (Ne.symm hi)]at e ⊢;exact L.2 i d e
theorem BX {K:Frag}{aA a_:List Addr}{h2:Z.AH}{H1 H2:Hp}(R2:@Rep ⟨aA,H1⟩ K a_ h2 H2):Ext K aA H1 a_ H2:=@Rep.ext ⟨aA,H1⟩ K a_ h2 H2 R2
theorem NY {K:Frag}[r0:R0]{aA:List Addr}{h1:Z.AH}{H1:Hp}(R1:Rep K aA h1 H1):@Rep ⟨aA,H1⟩ K aA h1 H1:=@Rep.mk ⟨aA,H1⟩ K aA h1 H1 R1.len R1.nd Ext.refl R1.at_
theorem Fc {K:Frag}[r0:R0]{aA a_:List Addr}{h1 h2:Z.AH}{H1 H2:Hp}(R1:Rep K aA h1 H1)(R2:@Rep ⟨aA,H1⟩ K a_ h2 H2):Rep K a_ h2 H2:=@Rep.mk r0 K a_ h2 H2 (@Rep.len ⟨aA,H1⟩ K a_ h2 H2 R2) (@Rep.nd ⟨aA,H1⟩ K a_ h2 H2 R2) (R1.ext.trans (BX R2)) (@Rep.at_ ⟨aA,H1⟩ K a_ h2 H2 R2)
theorem NZ {K:Frag}{C D:Addr}{b:Bool}(hb:PySem.W.mroIn K D (.type "BaseException")=some true)(hm:PySem.W.mroIn K C (.ref D)=some b)(hs:PySem.W.mroIn K D (.ref D)=some true)(ht:typeIn K (.ref D)=some (.type "type")):exmOne K (.ref C) (.ref D)=some b:=by
 unfold exmOne;rw[if_pos (by show (PySem.W.mroIn K D (.type "BaseException") == some true)=true;rw[hb];rfl)];have h1:(PySem.W.clsIn K D).isSome=true:=by
  unfold PySem.W.mroIn at hs;cases q:PySem.W.clsIn K D with
  | none=>rw[q]at hs;cases hs
  | some _=>rfl
 unfold kitCls;erw[h1,ht,beq_self_eq_true,Bool.and_self,if_true];exact hm
theorem oX:bootBuiltins "ValueError"=some (.type "ValueError"):=by decide+kernel
theorem Ao (I:Inv X pins σ H s)(hex:X.ex=[])(b:Addr)(z:s.heap.get? b=none):X.s₀.heap.get? b=none:=by
 cases q:X.s₀.heap.get? b with
 | none=>rfl
 | some o=>
  obtain ⟨o',eo⟩:=I.base.there b o q (λz=>by rw[hex]at z;cases z);rw[z]at eo;cases eo
end ZS
namespace ZT
open PySem PyProof PyProof.Rows
section
variable {prog:Program}{w:World}{A:Around}{E:Value->Shared->Prop}{s:Shared}{r l:Addr}{items:Array Value}
theorem Hd (hT:s.TypeIs (.ref r) "list_reverseiterator")(h:Q false s):wpAny (model prog w) A (Builtin.List.listLengthHint (.ref r)) Q E s:=by
 have l1:typeLookup (.type "list_reverseiterator") "__len__"=pure none:=by rw[typeLookup_type,builtinLookup_eq_fast];kernel_rfl
 have l2:typeLookup (.type "list_reverseiterator") "__length_hint__"=pure (some (.builtin "list_reverseiterator.__length_hint__")):=by rw[typeLookup_type,builtinLookup_eq_fast];kernel_rfl
 unfold Builtin.List.listLengthHint;refine wpAny_bind (wpAny_specialOf hT l1 ?_);refine wpAny_ite_split (λhab=>absurd hab (by decide)) (λ_=>?_);refine wpAny_ite_split (λhab=>absurd hab (by decide)) (λ_=>?_);refine wpAny_bind (wpAny_specialOf hT l2 ?_);generalize hid:("list_reverseiterator.__length_hint__":String)=id0
 wp_delta
 rw[show splitId id0=some ("list_reverseiterator","__length_hint__") from by subst hid;decide+kernel];subst hid;refine wpAny_bind (wpAny_isInstance (T:="list_reverseiterator") (b:=true) hT (by rw[isSubtype_type];kernel_rfl) ?_);refine wpAny_ite_split (λhab=>absurd hab (by decide)) (λ_=>?_);refine wpAny_ite_split (λ_=>?_) (λhab=>absurd (by decide+kernel) hab);refine wpAny_ite_split (λhab=>absurd hab (by decide+kernel)) (λ_=>?_);exact wpAny_pure h
theorem Dp (hh:A.handled=none)(hit:s.heap.IsRevIter r l ((items.size:Int) - 1))(hl:s.heap.IsList l items)(hn:items.size<=sizeLine)(hrl:l≠r)(S:Addr)(hSr:S≠r)(hSl:S≠l)(res:Value)(c₀:Nat)(hS:s.heap.get? S=some {cls:=.type "list",data:=.seq #[] c₀})(hR:∀h' tk acc' c',(∀b o,b≠S->b≠r->s.heap.get? b=some o->h'.get? b=some o)->h'.get? S=some {cls:=.type "list",dict:=none,data:=.seq acc' c',slots:=#[]}->ItemsOf (λi v=>items[items.size - 1 - i]?=some v) acc' items.size->R (.ok (.ret res)) {s with heap:=h',toks:=tk}):
  wpAny (model prog w) A.in1 (Builtin.List.listExtendWith (.ref S) (.ref r) res)
   (λfin s'=>match fin with | .done f=>R (.ok f) s' | .again c'=>c'.quiet=true/\codeAny (model prog w) A c' R s') (λe s'=>R (.error e) s') s:=by
 have W:=Walks.listRev (prog:=prog) (w:=w) (A:=A.in1) hh r l hrl items;have hSf:S∉[r,l]:=by erw[mem_cons,not_mem_nil,or_false,not_or];exact ⟨hSr,hSl⟩
 have st0:∀h:Heap,h.IsRevIter r l ((items.size:Int) - 1)->h.IsList l items->(0<=items.size/\h.IsRevIter r l ((items.size:Int) - 1 - ((0:Nat):Int))/\h.IsList l items):=λh a b=>⟨zero_le _,by simpa using a,b⟩
 have key:∀(h:Heap) (c₁ tk:Nat),h.IsRevIter r l ((items.size:Int) - 1)->h.IsList l items->(∀b o,b≠S->s.heap.get? b=some o->h.get? b=some o)->
   h.get? S=some {cls:=.type "list",data:=.seq #[] c₁}->codeAny (model prog w) A (.builtin "list.extend.loop" ⟨[.ref S,.ref r,res],[]⟩) R {s with heap:=h,toks:=tk}:=by
  intro h c₁ tk hst hst2 hk hS₁;refine codeAny_extend_loopS W.toS hn S hSf res items.size 0 _ #[] c₁ rfl (zero_le _) (st0 h hst hst2) hS₁ (ItemsOf.nil _) λs' acc' c' hm hS' hacc=>?_;rw[Moved.eq_with hm];refine hR s'.heap s'.toks acc' c' (λb o hb hbr e=>hm.heap b o (λhmem=>?_) (hk b o hb e)) hS' hacc;rcases mem_cons.mp hmem with e' | hmem
  ·exact hb e'
  ·exact hbr (mem_singleton.mp hmem)
 unfold Builtin.List.listExtendWith;refine wpAny_bind (wpAny_typeOf (T:="list_reverseiterator") hit.typeIs ?_);have h1:Builtin.List.listSameRef (.ref S) (.ref r)=false:=by simp[Builtin.List.listSameRef,hSr]
 have h2:(Value.type "list_reverseiterator" == Value.type "list")=false:=by decide
 have h3:(Value.type "list_reverseiterator" == Value.type "tuple")=false:=by decide
 erw[h1,h2,h3,Bool.or_false,false_eq_true,if_false];refine wpAny_bind (wpAny_pyIter_revIter hit ?_);refine wpAny_bind (wpAny_holding (Hd hit.typeIs ?_));refine wpAny_ite_split (λhab=>absurd hab (by decide)) (λ_=>wpAny_pure ⟨plainId_quiet PySem.F.plain_extend_loop _,key _ c₀ _ hit hl (λb o _ e=>e) hS⟩)
theorem He (hh:A.handled=none)(hit:s.heap.IsRevIter r l ((items.size:Int) - 1))(hl:s.heap.IsList l items)(hn:items.size<=sizeLine)(hrl:l≠r)(S:Addr)(hSr:S≠r)(hSl:S≠l)(hS:s.heap.get? S=some {cls:=.type "list",data:=.seq #[]})(hR:∀h' tk acc' c',(∀b o,b≠S->b≠r->s.heap.get? b=some o->h'.get? b=some o)->h'.get? S=some {cls:=.type "list",dict:=none,data:=.seq acc' c',slots:=#[]}->ItemsOf (λi v=>items[items.size - 1 - i]?=some v) acc' items.size->R (.ok (.ret .none)) {s with heap:=h',toks:=tk}):
  wpAny (model prog w) A.in1 (Builtin.«list.__init__» ⟨[.ref S,.ref r],[]⟩)
   (λfin s'=>match fin with | .done f=>R (.ok f) s' | .again c'=>c'.quiet=true/\codeAny (model prog w) A c' R s') (λe s'=>R (.error e) s') s:=by
 show wpAny _ _ (do let old <-Builtin.List.listItems (.ref S);Builtin.List.listUpdate (.ref S) (λ_=>#[]);letGo old.toList.reverse;Builtin.List.listExtendWith (.ref S) (.ref r) .none) _ _ s;refine wpAny_bind ?_;unfold Builtin.List.listItems;refine wpAny_bind (wpAny_seqItems hS rfl (wpAny_pure ?_));show wpAny _ _ (updateSeq S (λ_=>#[]) >>= λ_=>letGo (#[]:Array Value).toList.reverse >>= λ_=>Builtin.List.listExtendWith (.ref S) (.ref r) .none) _ _ s;refine wpAny_bind (wpAny_updateSeq hS rfl ?_);have hS₂:=get?_update_self (Obj.mapSeq (λ_=>(#[]:Array Value))) hS rfl;have oth:∀b o,b≠S->s.heap.get? b=some o->(s.heap.update S (Obj.mapSeq (λ_=>(#[]:Array Value)))).get? b=some o:=
  λb o hb e=>(get?_update_other _ _ (Ne.symm hb)).trans e
 refine wpAny_bind (wpAny_letGo ?_);refine Dp hh (hit.at λo e=>oth r o hSr.symm e) (hl.at λo e=>oth l o hSl.symm e) hn hrl S hSr hSl .none _ hS₂ λh' tk acc' c' hk hS' hacc=>?_;exact hR h' tk acc' c' (λb o hb hbr e=>hk b o hb hbr (oth b o hb e)) hS' hacc
theorem Hf (hh:A.handled=none)(hit:s.heap.IsRevIter r l ((items.size:Int) - 1))(hl:s.heap.IsList l items)(hn:items.size<=sizeLine)(hrl:l≠r)(hQ:∀h' tk acc' c',(∀b o,b≠r->s.heap.get? b=some o->h'.get? b=some o)->h'.get? s.heap.objs.size=some {cls:=.type "list",dict:=none,data:=.seq acc' c',slots:=#[]}->ItemsOf (λi v=>items[items.size - 1 - i]?=some v) acc' items.size->Q (.ref s.heap.objs.size) {s with heap:=h',toks:=tk}):
  wpAny (model prog w) A (call (.type "list") [.ref r]) Q E s:=by
 refine callType_codes (Q₁:=λobj s₁=>obj=.ref s.heap.objs.size/\s₁={s with heap:=s.heap.push {cls:=.type "list",data:=.seq #[]}}) PySem.F.called_list (PySem.F.typeCall_list_1 _) PySem.F.entry_list_init
  (code_list_new _ ⟨rfl,rfl⟩) λobj s₁ h₁=>?_
 obtain ⟨rfl,rfl⟩:=h₁;have hS:(s.heap.push {cls:=.type "list",data:=.seq #[]}).get? s.heap.objs.size=some {cls:=.type "list",data:=.seq #[]}:=get?_push_size _ rfl;have r1:r < s.heap.objs.size:=by obtain ⟨o,e,_⟩:=hit;exact lt_size e
 have l1:l < s.heap.objs.size:=by obtain ⟨o,e,_⟩:=hl;exact lt_size e
 refine ⟨⟨_,hS,rfl⟩,PySem.F.args_list_init_2 _ _,He (A:=A.in1) hh (hit.at λo e=>get?_push_of_some _ e) (hl.at λo e=>get?_push_of_some _ e) hn hrl _ (ne_of_gt r1) (ne_of_gt l1) hS λh' tk acc' c' hk hS' hacc=>?_⟩;exact ⟨rfl,hQ h' tk acc' c' (λb o hb e=>hk b o (ne_of_lt (lt_size e)) hb (get?_push_of_some _ e)) hS' hacc⟩
end
end ZT
namespace ZS
open PySem PySem.Spec PyProof.Rows L2
variable [R0]
section
variable {X:Cx}{sub:Nat->Nat->Bool}{Γ:Z.bS}{E:Z.PX}
theorem wC (hr:H r=none)(a:Addr):∀o:HO,bD P w (upd H r (.ext φ)) h a o->bD P w H h a o
 | .lst xs,k=>k
 | .tup xs,k=>k
 | .dK kvs,k=>k
 | .dT kvs,k=>by
  obtain ⟨k1,k2,xs,k3,k4⟩:=k;refine ⟨k1,k2,xs,?_,k4⟩;refine Paired.mono (λp q z=>?_) k3;refine ⟨z.1,?_,z.2.2⟩;have:=z.2.1;by_cases e:q.2.1=r
  ·rw[e,aK]at this;cases this
  ·rwa [aB e]at this
 | .set S n,k=>k
 | .ins C dx fs,k=>by
  obtain ⟨k1,k2⟩:=k;refine ⟨?_,k2⟩;by_cases e:dx=r
  ·rw[e,aK]at k1;cases k1
  ·rwa [aB e]at k1
 | .own _,k=>k
 | .xd fs,k=>k
 | .rng lo hi,k=>k
 | .bq o u,k=>⟨k.1,wC hr a u k.2⟩
 | .uU ps,k=>k
 | .met f x,k=>k
 | .ext φ,k=>k
theorem Hg (I:Inv X pins σ (upd H r (.ext φ)) s)(hr:H r=none):Inv X pins σ H s:=by
 have back:∀b o,(upd H r (.ext φ)) b=some o->(∀ψ,o≠.ext ψ)->H b=some o:=λb o e n=>by
  by_cases z:b=r
  ·rw[z,aK]at e;cases e;exact absurd rfl (n φ)
  ·rwa [aB z]at e
 have nn:∀b,(upd H r (.ext φ)) b=none->H b=none:=λb e=>by
  by_cases z:b=r
  ·rw[z];exact hr
  ·rwa [aB z]at e
 refine ⟨I.ok,I.os,I.bare,⟨I.base.keep,I.base.slot,λb o e1 e2 e3=>nn b (I.base.free b o e1 e2 e3),I.base.there,λb xs e=>back _ _ (I.base.tups b xs e) (λ_ z=>by cases z),λb o u e=>back _ _ (I.base.fE b o u e) (λ_ z=>by cases z),λb ps e=>?_⟩,I.loc,I.cell,nn _ I.free,λx c e=>nn _ (I.cQ x c e),λp hp=>?_,λa o e=>?_,I.len⟩
 ·obtain ⟨more,e'⟩:=I.base.gx b ps e;exact ⟨more,back _ _ e' (λ_ z=>by cases z)⟩
 ·obtain ⟨a1,a2,a3⟩:=I.pin p hp;exact ⟨a1,nn _ a2,a3⟩
 ·have ne:a≠r:=λz=>by rw[z,hr]at e;cases e
  exact wC hr a o (I.hok a o (by rw[aB ne];exact e))
def N0 (X:Cx)(r l:Addr)(n:Nat):Heap->Prop:=λh=>h.IsRevIter r l ((n:Int) - 1)/\X.s₀.heap.objs.size<=r
theorem Hh:cR X (.type "reversed") (λxs H Q=>∃l ys,xs=[.ref l]/\H l=some (.lst ys)/\∀r,H r=none->Q (.ref r) (upd H r (.ext (N0 X r l ys.length)))):=by
 intro pins s σ H xs us Q I rv ⟨l,ys,e,hl,q⟩;subst e;obtain ⟨u,rfl,ru⟩:=vals1 rv;cases ru;obtain ⟨its,vv,pl,_⟩:=I.list (.of hl);have hn:H s.heap.objs.size=none:=I.hok.fresh (le_refl _);refine call_reversed_list pl.isList ?_;have e:((its.toArray.size:Nat):Int) - 1=(ys.length:Int) - 1:=by rw[vv.length];simp
 rw[e];refine ⟨.ref s.heap.objs.size,_,I.laid (t':=s.toks) (λb o e=>get?_push_of_some _ e) (le_refl _) ?_,rfl,q _ hn⟩;exact ⟨⟨⟨_,get?_push_size _ rfl,rfl,rfl⟩,I.sz⟩,⟨_,get?_push_size _ rfl⟩,λh1 h2 k1 k2=>⟨k1.1.at k2,k1.2⟩⟩
theorem xR (hc:X.calm=true):cR X (.type "list") (λxs H Q=>∃r l ys H0,xs=[.ref r]/\H=upd H0 r (.ext (N0 X r l ys.length))/\H0 r=none/\H0 l=some (.lst ys)/\∀L,H0 L=none->Q (.ref L) (upd H0 L (.lst ys.reverse))):=by
 intro pins s σ H xs us Q I rv ⟨r,l,ys,H0,e,eH,hr,hl,q⟩;subst e;subst eH;obtain ⟨u,rfl,ru⟩:=vals1 rv;cases ru;have hlr:l≠r:=λz=>by rw[z,hr]at hl;cases hl
 obtain ⟨⟨hit,hsz⟩,_⟩:=(show bD X.prog X.w _ s.heap r (.ext (N0 X r l ys.length)) from I.hok r _ aK)
 obtain ⟨its,vv,pl,hz⟩:=I.list (xs:=ys) (.of (by rw[aB hlr];exact hl));have e:((its.toArray.size:Nat):Int) - 1=(ys.length:Int) - 1:=by rw[vv.length];simp
 rw[<-e]at hit;have hz':its.toArray.size<=sizeLine:=by rw[size_toArray,<-vv.length];exact hz
 refine ZT.Hf (I.ok.hd hc) hit pl.isList hz' hlr λh' tk acc c kp at_ ita=>?_;have I0:=Hg I hr;have hn:H0 s.heap.objs.size=none:=I0.hok.fresh (le_refl _);have ea:acc.toList=its.reverse:=by
  refine List.ext_getElem? λi=>?_;have e1:acc.size=its.length:=by have:=ita.1;simpa using this
  by_cases hi:i < its.length
  ·rw[List.getElem?_reverse hi];have h1:acc.toList[i]?=some (acc.toList[i]'(by simp;lia)):=getElem?_eq_getElem _;have h2:=ita.2 i _ (by rw[<-Array.getElem?_toList];exact h1);rw[h1];simpa using h2.symm
  ·rw[getElem?_eq_none (by simp;lia),getElem?_eq_none (by simp;lia)]
 have Y4:r < s.heap.objs.size:=by obtain ⟨o,e,_⟩:=hit;exact lt_size e
 have I1:Inv X pins σ (upd H0 s.heap.objs.size (.lst ys.reverse)) {s with heap:=s.heap.push {cls:=.type "list",data:=.seq acc c},toks:=tk}:=
  I0.laid (λb o e=>get?_push_of_some _ e) (le_refl _) ⟨by rw[length_reverse];exact hz,its.reverse,c,Vals.rev vv,by rw[<-ea,Array.toArray_toList];exact get?_push_size _ rfl⟩
 have I2:Inv X pins σ (upd H0 s.heap.objs.size (.lst ys.reverse)) {s with heap:=h',toks:=tk}:=by
  refine Inv.turned (s:={s with heap:=s.heap.push {cls:=.type "list",data:=.seq acc c},toks:=tk}) (it:=r) I1 (λb o hb e=>?_) ?_ ?_ (.inr hsz) (λx c e z=>?_) (λp hp z=>?_)
  ·by_cases hB:b=s.heap.objs.size
   ·subst hB;have e2:(s.heap.push {cls:=.type "list",data:=.seq acc c}).get? s.heap.objs.size=some {cls:=.type "list",data:=.seq acc c}:=get?_push_size _ rfl;have e3:=e2.symm.trans e;cases e3;exact at_
   ·have e2:s.heap.get? b=some o:=by rw[<-Heap.get?_push_ne _ _ _ hB];exact e
    exact kp b o hb e2
  ·rw[aB (ne_of_lt Y4)];exact hr
  ·intro z;have:=I.free;rw[<-z,aK]at this;cases this
  ·have:=I.cQ x c e;rw[z,aK]at this;cases this
  ·have:=(I.pin p hp).2.1;rw[z,aK]at this;cases this
 exact ⟨.ref s.heap.objs.size,_,I2,rfl,q _ hn⟩
theorem RU (hml:X.mg "list"=none)(hmr:X.mg "reversed"=none)(ha:LA X sub Γ E [a] (.cons a' .nil))(hc:X.calm=true:=by rfl)(Y5:Gl X "list":=by rfl)(hgr:Gl X "reversed":=by rfl)(he:starEach [a] X.env=(false,eval a X.env)::starEach [] X.env:=by rfl)(hpl:(backTo pos2 (starEach [] X.env)).any (·.1)=false:=by rfl)(he2:starEach [.Call (.Name "reversed" p2) [a] [] pos2] X.env=(false,eval (.Call (.Name "reversed" p2) [a] [] pos2) X.env)::starEach [] X.env:=by rfl)(Xo:(backTo pos (starEach [] X.env)).any (·.1)=false:=by rfl):
  LE X sub Γ E (.Call (.Name "list" p) [.Call (.Name "reversed" p2) [a] [] pos2] [] pos) (.prim .CO (.cons a' .nil)):=by
 refine dA (yK (xR hc) Y5 hml Kc (dw (yK Hh hgr hmr vh ha (by decide) (by decide) he hpl) i_ he2) (by decide) (by decide) he2 Xo) ?_;rintro σ H Q ⟨ρ,h,τ,Q',R,L,w,k⟩;erw[Z.aF]at w;refine ⟨ρ,h,τ,_,R,L,w,λds h1 aA H1 vs e1 R1 r1 w1=>?_⟩;change (match Z.CU ds h1 with | some (v,h2)=>Q' v h2 | none=>False) at w1;unfold Z.CU at w1;split at w1
 ·rename_i v h2 e;split at e
  ·rename_i n;split at e
   ·rename_i xs en;obtain ⟨hl,rfl,rfl⟩:=j6 e;erw[ak]at r1;obtain ⟨y,t,rfl,r1,rfl⟩:=r1;obtain ⟨a,ys,rfl,hn,hy,rs⟩:=dN R1 r1 en;refine ⟨a,ys,rfl,hy,λr hr=>⟨r,a,ys,H1,rfl,rfl,hr,hy,λl hl'=>?_⟩⟩;obtain ⟨e3,R3,r3⟩:=eO R1 (ak.rev rs) hl';exact k _ _ _ _ _ (e1.trans e3) R3 r3 w1
   ·cases e
  ·cases e
 ·exact w1.elim
theorem c1 {P:List Value->Prop}{us:List Value}{n:Nat}(hl:us.length=n+1)(h:∀a r,r.length=n->P (a::r)):P us:=by
 cases us with
 | nil=>cases hl
 | cons a r=>exact h a r (Nat.succ.inj hl)
@[elab_as_elim] theorem Y6 {P:List Value->Prop}{us:List Value}(hl:us.length=0)(h:P []):P us:=List.eq_nil_of_length_eq_zero hl ▸ h
@[elab_as_elim] theorem N2 {P:List Value->Prop}{us:List Value}(hl:us.length=1)(h:∀a,P [a]):P us:=c1 hl λa _ g=>Y6 g (h a)
@[elab_as_elim] theorem IG {P:List Value->Prop}{us:List Value}(hl:us.length=2)(h:∀a b,P [a,b]):P us:=c1 hl λa _ g=>N2 g (h a)
@[elab_as_elim] theorem Y7 {P:List Value->Prop}{us:List Value}(hl:us.length=3)(h:∀a b c,P [a,b,c]):P us:=c1 hl λa _ g=>IG g (h a)
def rN (K:Frag)(d:Z.D)(u:Value):Prop:=∃v,RelV v u/\∀ρ H,ah K ρ H d v
def wD (K:Frag):List Z.D->List Value->Prop:=Paired (rN K)
theorem xS {K:Frag}{n:Int}{t:Tok}:rN K (.int n) (.int n t):=⟨.int n,⟨t,rfl⟩,λ_ _=>by erw[ah]⟩
theorem bB {K:Frag}{s:Str}{l:List Nat}{t:Tok}(h:s=⟨l.toArray⟩:=by decide+kernel)(hl:l.length<=Z.lim:=by decide+kernel):rN K (.str l) (.str s t):=
 ⟨.str s,⟨t,rfl⟩,λ_ _=>by erw[ah];exact ⟨congrArg V.str h,hl⟩⟩
theorem yQ {K:Frag}:∀{ds:List Z.D} {us:List Value},wD K ds us->∃vs,Vals vs us/\∀ρ H,ak K ρ H ds vs
 | _,_,.nil=>⟨[],.nil,λ_ _=>by erw[ak]⟩
 | _,_,.cons (a:=d) r t=>by
  obtain ⟨v,h1,h2⟩:=r;obtain ⟨vs,h3,h4⟩:=yQ t;exact ⟨v::vs,.cons h1 h3,λρ H=>by erw[ak];exact ⟨v,vs,rfl,h2 ρ H,h4 ρ H⟩⟩
theorem jR {K:Frag}{its:Array Value}(hl:K.lookup a=some ⟨.type "tuple",none,.seq its n,sl⟩)(hz:its.size<=sizeLine)(hc:wD K ds its.toList):rN K (.tup ds) (.ref a):=by
 obtain ⟨vs,h1,h2⟩:=yQ hc;exact ⟨.ref a,rfl,λρ H=>by erw[ah];exact ⟨a,vs,rfl,.inr ⟨_,its,n,hl,rfl,rfl,rfl,hz,h1⟩,h2 ρ H⟩⟩
theorem Y8 (hm:X.mg x=some u)(hc:rN X.K d u)(hg:Gl X x:=by rfl)(hd:bM x:=by decide):LE X sub Γ E (.Name x pos) (.lit d):=by
 obtain ⟨v,h1,h2⟩:=hc;exact rC (ur hg hm h1 hd) h2
def N3 (w:World)(p:Str×Tok×Value):DictEntry:=⟨PyData.keyHash w.params p.1,.str p.1 p.2.1,p.2.2⟩
def vk (p:Str×Tok×Value):Key×Value:=(.inr p.1,p.2.2)
theorem yR:∀dU:List (Str×Tok×Value),PySem.Pairs (b5 P w) (dU.map (N3 w)) (dU.map vk)
 | []=>.nil
 | p::l=>.cons (mG P w _ _) rfl (yR l)
structure TabAt (K:Frag)(w:World)(a:Addr)(t:List (Z.S×Z.D)):Prop where
 sm:(a == sysModules)=false
 dd:∃dU:List (Str×Tok×Value),(∀(P:Program) (h:Heap),K.In h->h.DictOf (b5 P w) a (dU.map vk))/\dU.map (·.1)=t.map (λp=>(⟨p.1.toArray⟩:Str))/\wD K (t.map (·.2)) (dU.map (·.2.2))
theorem N4 {K:Frag}{es:Array DictEntry}{t:List (Z.S×Z.D)}(dU:List (Str×Tok×Value))(hl:K.lookup a=some ⟨.type "dict",none,.dict es n,#[]⟩)(he:es.toList=dU.map (N3 w))(sm:(a == sysModules)=false)(hn:(dU.map (·.1)).Nodup)(hk:dU.map (·.1)=t.map (λp=>(⟨p.1.toArray⟩:Str)))(hc:wD K (t.map (·.2)) (dU.map (·.2.2))):TabAt K w a t:=by
 refine ⟨sm,dU,λP h Y=>⟨_,es,n,Y a _ hl,⟨rfl,rfl,rfl⟩,rfl,?_,?_,?_⟩,hk,hc⟩
 ·intro e he';have q:e∈es.toList:=Array.mem_toList_iff.mpr he';rw[he]at q;obtain ⟨p,_,rfl⟩:=mem_map.mp q;exact ⟨.inr p.1,mG P w _ _,rfl⟩
 ·rw[he];exact yR dU
 ·rw[List.map_map];have:((λx:Key×Value=>x.1) ∘ vk)=(λx:Str=>(Sum.inr x:Key)) ∘ (λp:Str×Tok×Value=>p.1):=rfl;rw[this,<-List.map_map];exact List.Pairwise.map _ (λa b h z=>h (Sum.inr.inj z)) hn
theorem vO {K:Frag}{k:Z.S}:∀{t:List (Z.S×Z.D)} {dU:List (Str×Tok×Value)},dU.map (·.1)=t.map (λp=>(⟨p.1.toArray⟩:Str))->wD K (t.map (·.2)) (dU.map (·.2.2))->
  match t.lookup k with
  | some d=>∃u,valueAt (dU.map vk) (.inr ⟨k.toArray⟩)=some u/\rN K d u
  | none=>valueAt (dU.map vk) (.inr ⟨k.toArray⟩)=none
 | [],[],_,_=>by simp[valueAt]
 | [],_::_,h,_=>by simp at h
 | _::_,[],h,_=>by simp at h
 | (a,d)::t,(x,tk,u)::dU,h,hc=>by
  erw[map_cons,List.cons.injEq]at h hc;cases hc with
  | cons r rs=>
   obtain ⟨hx,h⟩:=h;subst hx;have ih:=vO (k:=k) h rs;by_cases e:k=a
   ·subst e;have:List.lookup k ((k,d)::t)=some d:=by simp[List.lookup]
    rw[this];exact ⟨u,by simp[valueAt,vk],r⟩
   ·have e1:List.lookup k ((a,d)::t)=List.lookup k t:=by
     rw[lookup_cons];have:(k == a)=false:=beq_eq_false_iff_ne.mpr e;rw[this]
    have e2:valueAt (((⟨a.toArray⟩:Str),tk,u)::dU |>.map vk) (.inr ⟨k.toArray⟩)=valueAt (dU.map vk) (.inr ⟨k.toArray⟩):=by
     have:¬((Sum.inr ⟨a.toArray⟩:Key)=Sum.inr ⟨k.toArray⟩):=λz=>by
      injection z with z
      injection z with z
      exact e (by have:=congrArg Array.toList z;simpa using this.symm)
     erw[valueAt,vk,map_cons,find?_cons,decide_eq_false this]
    rw[e1];rw[e2];exact ih
theorem N5 {a:Addr}{t:List (Z.S×Z.D)}{k:Z.S}{pins:List (Addr×Obj)}{s:Shared}{σ:L2.St}{H:Hp}{u:Value}{A:Around}{E:Value->Shared->Prop}{Q:Value->Shared->Prop}(T:TabAt X.K X.w a t)(I:Inv X pins σ H s)(ru:RelV (.str ⟨k.toArray⟩) u)(h:∀s',Inv X pins σ H s'->Q (.bool (t.lookup k).isSome) s'):wpAny (model X.prog X.w) A (compareOp .In u (.ref a)) Q E s:=by
 obtain ⟨sm,dU,dd,h1,h2⟩:=T;have q:=vO (k:=k) h1 h2;refine wpAny_in_of (ou (k:=.inr ⟨k.toArray⟩) ru) sm (dd X.prog s.heap I.bX).mapOf ?_;have e:(valueAt (dU.map vk) (.inr ⟨k.toArray⟩)).isSome=(t.lookup k).isSome:=by
  cases ek:t.lookup k with
  | none=>rw[ek]at q;rw[q];rfl
  | some d=>rw[ek]at q;obtain ⟨u,q,_⟩:=q;rw[q];rfl
 rw[e];exact h _ (I.tok _)
theorem Kl {a:Addr}{t:List (Z.S×Z.D)}{k:Z.S}{d:Z.D}{pins:List (Addr×Obj)}{s:Shared}{σ:L2.St}{H:Hp}{u:Value}{A:Around}{E:Value->Shared->Prop}{Q:Value->Shared->Prop}(T:TabAt X.K X.w a t)(I:Inv X pins σ H s)(ru:RelV (.str ⟨k.toArray⟩) u)(hd:t.lookup k=some d)(h:∀v w' s',Inv X pins σ H s'->RelV v w'->(∀ρ H,ah X.K ρ H d v)->Q w' s'):wpAny (model X.prog X.w) A (getItem (.ref a) u) Q E s:=by
 obtain ⟨sm,dU,dd,h1,h2⟩:=T;have q:=vO (k:=k) h1 h2;rw[hd]at q;obtain ⟨w',e,v,rv,rd⟩:=q;exact wpAny_getItem_of (ou (k:=.inr ⟨k.toArray⟩) ru) (dd X.prog s.heap I.bX).mapOf e (h v w' _ (I.tok _) rv rd)
theorem Xp {x:Str}{a:Addr}{t:List (Z.S×Z.D)}{e:Expr}{e':Z.Ex}{pos pos':Pos}(hm:X.mg x=some (.ref a))(T:TabAt X.K X.w a t)(he:LE X sub Γ E e e')(hg:Gl X x:=by rfl)(hd:bM x:=by decide):
  LE X sub Γ E (.Compare e [.In] [.Name x pos'] pos) (.prim (.kR t) (.cons e' .nil)):=by
 have ho:bu X (compareOp .In) (λy z=>λH Q=>z=.ref a/\rP X.K sub (.kR t) [y] H Q):=by
  rintro pins s σ H y z v u Q I ry rz ⟨rfl,ρ,h,ds,d,h',R,rs,hp,k⟩;cases rz;obtain ⟨d1,rfl,r1⟩:=oA rs;cases d1 with
  | str c=>
   erw[Z.jZ,Z.zJ,Option.some.injEq,Prod.mk.injEq]at hp;obtain ⟨rfl,rfl⟩:=hp;erw[ah]at r1;obtain ⟨rfl,_⟩:=r1;exact N5 T I ry λs' I'=>⟨.bl _,H,I',rfl,k ρ H _ .refl R (by erw[ah])⟩
  | _=>simp[Z.jZ,Z.zJ]at hp
 refine dA (xF ho he (ur (v:=.ref a) hg hm rfl hd) (by rfl)) ?_;rintro σ H Q ⟨ρ,h,τ,Q',R,L,w,k⟩;erw[Z.aF,Z.aW]at w;refine ⟨ρ,h,τ,_,R,L,w,λd1 h1 aA H1 x e1 R1 r1 w1=>?_⟩;cases q:Z.prim sub (.kR t) [d1] h1 with
 | none=>rw[q]at w1;exact w1.elim
 | some z=>
  rw[q]at w1;exact ⟨rfl,aA,h1,[d1],z.1,z.2,R1,.one r1,q,λρ' H' v e' R' r'=>k _ _ ρ' H' v (e1.trans e') R' r' w1⟩
theorem RV {x:Str}{a:Addr}{t:List (Z.S×Z.D)}{e:Expr}{e':Z.Ex}{pos pos':Pos}(hm:X.mg x=some (.ref a))(T:TabAt X.K X.w a t)(he:LE X sub Γ E e e')(hg:Gl X x:=by rfl)(hd:bM x:=by decide)(hs:mR e:=by intro _ _;rfl):
  LE X sub Γ E (.Subscript (.Name x pos') e pos) (.prim (.mD t) (.cons e' .nil)):=by
 have ho:mS X (λz y=>λH Q=>z=.ref a/\rP X.K sub (.mD t) [y] H Q):=by
  rintro ve se pins s σ H z y u v Q I rz ry ⟨rfl,ρ,h,ds,d,h',R,rs,hp,k⟩ hs;cases rz;obtain ⟨d1,rfl,r1⟩:=oA rs;cases d1 with
  | str c=>
   erw[Z.Bt,Z.zm]at hp;cases ec:t.lookup c with
   | none=>rw[ec]at hp;cases hp
   | some dv=>
    rw[ec]at hp;erw[map_some,Option.some.injEq,Prod.mk.injEq]at hp;obtain ⟨rfl,rfl⟩:=hp;erw[ah]at r1;obtain ⟨rfl,_⟩:=r1;have ty:s.TypeIs (.ref a) "dict":=by
     obtain ⟨_,dU,dd,_,_⟩:=T;obtain ⟨o,es,ep,h1,h2,_⟩:=dd X.prog s.heap I.bX;exact ⟨o,h1,h2.1⟩
    exact tail_any ty PySem.F.slot_dict_getitem.lookup (Kl T I ry ec λw w' s' I' q_ rd=>⟨w,H,I',q_,k ρ H _ .refl R (rd ρ H)⟩) hs
  | _=>simp[Z.Bt,Z.zm]at hp
 refine dA (Ii ho (ur (v:=.ref a) hg hm rfl hd) he hs) ?_;rintro σ H Q ⟨ρ,h,τ,Q',R,L,w,k⟩;erw[Z.aF,Z.aW]at w;refine ⟨ρ,h,τ,_,R,L,w,λd1 h1 aA H1 x e1 R1 r1 w1=>?_⟩;cases q:Z.prim sub (.mD t) [d1] h1 with
 | none=>rw[q]at w1;exact w1.elim
 | some z=>
  rw[q]at w1;exact ⟨rfl,aA,h1,[d1],z.1,z.2,R1,.one r1,q,λρ' H' v e' R' r'=>k _ _ ρ' H' v (e1.trans e') R' r' w1⟩
theorem N6 (i:Nat)(hN:X.N.Nodup)(he:LE X sub Γ E e e')(hi:X.N[i]?=some x:=by rfl)(hx:Loc X.env.scope x:=by first | exact Or.inl rfl | exact Or.inr rfl)(hf:X.fn x=true\/X.env.scope.names.lookup x=some .local:=by first | exact .inl rfl | exact .inr rfl):LS X sub Γ E (.AugAssign (.Name x pos') .Add e pos) (.asg i (.prim .sub (.cons (.var i) (.cons (.prim .neg (.cons e' .nil)) .nil)))):=by
 refine wm (My hN hi hx he Mz hf) ?_;rintro D σ H ⟨ρ,h,τ,N,R,L,w,k⟩;erw[Z.wpS,Z.aF,Z.aW]at w;cases q:τ[i]? with
 | none=>rw[q]at w;exact w.elim
 | some o=>
  cases o with
  | none=>rw[q]at w;exact w.elim
  | some d=>
   rw[q]at w;obtain ⟨v,ev,r⟩:=L.2 i d q;refine ⟨v,ev,ρ,h,τ,_,R,L,w,λd1 h1 aA H1 y e1 R1 r1 w1=>?_⟩;cases d1 with
   | int j=>
    cases d with
    | int n=>
     erw[Z.zM,Z.zO,Z.zN,Z.vt,Z.ug]at w1;erw[ah]at r r1;exact ⟨n,j,r,r1,k.nx _ h1 aA H1 _ e1 R1 ((L.mono e1).set (by erw[ah];rw[Int.sub_neg])) w1⟩
    | _=>simp[Z.zM,Z.zO,Z.zN,Z.vt,Z.ug]at w1
   | _=>simp[Z.zM,Z.zO,Z.zN,Z.vt]at w1
theorem pre_take (p l:List Nat):p.isPrefixOf l=decide (l.take p.length=p):=by
 rw[Bool.eq_iff_iff,decide_eq_true_iff,isPrefixOf_iff_prefix,List.prefix_iff_eq_take];exact eq_comm
theorem Aq (s p:List Nat)(i:Nat):Builtin.Str.subAt ⟨s.toArray⟩ ⟨p.toArray⟩ i=p.isPrefixOf (s.drop i):=by
 rw[pre_take];unfold Builtin.Str.subAt;have e:(s.toArray.extract i (i+(⟨p.toArray⟩:Str).length))=((s.drop i).take p.length).toArray:=by
  apply Array.ext';have hl:(⟨p.toArray⟩:Str).length=p.length:=by simp[Str.length]
  rw[hl];erw[Array.toList_extract,List.extract_eq_drop_take];rw[Nat.add_sub_cancel_left]
 show (s.toArray.extract i (i+(⟨p.toArray⟩:Str).length) == p.toArray)=_;rw[e,Bool.eq_iff_iff,beq_iff_eq,decide_eq_true_iff];exact ⟨λh=>by have:=congrArg Array.toList h;simpa using this,λh=>by rw[h]⟩
theorem yS (s p:List Nat)(i:Int)(h0:0<=i)(h1:i<=s.length):Txt.startswith3 ⟨s.toArray⟩ ⟨p.toArray⟩ i=p.isPrefixOf (s.drop i.toNat):=by
 have e:fromIndex (⟨s.toArray⟩:Str).length i=i.toNat:=by
  unfold fromIndex;rw[if_neg (by lia)]
  lia
 unfold Txt.startswith3;rw[e,Aq];cases q:p.isPrefixOf (s.drop i.toNat) with
 | false=>rw[Bool.and_false]
 | true=>
  rw[Bool.and_true];have:=(isPrefixOf_iff_prefix.mp q).length_le;rw[length_drop]at this;exact decide_eq_true (by show i.toNat+p.toArray.size<=s.toArray.size;simp;lia)
theorem Dq (s p:List Nat):Txt.startswith ⟨s.toArray⟩ ⟨p.toArray⟩=p.isPrefixOf s:=by
 have:=yS s p 0 (by lia) (by lia);unfold Txt.startswith3 at this;unfold Txt.startswith;simpa [fromIndex] using this
theorem fR (c:Nat):∀s:List Nat,Z.lstrip c s=s.drop (s.takeWhile λx=>x == c).length
 | []=>rfl
 | x::xs=>by
  erw[Z.lstrip,List.takeWhile_cons];by_cases e:x=c
  ·subst e;rw[if_pos rfl,if_pos (by simp),fR x xs];rfl
  ·rw[if_neg e,if_neg (by simpa using e)];rfl
theorem Hi (s:List Nat)(c:Nat):Txt.stripChars ⟨s.toArray⟩ ⟨#[c]⟩=⟨(Z.strip c s).toArray⟩:=by
 have g:(⟨#[c]⟩:Str).cps.contains=λx=>x == c:=by
  funext x;show Array.contains #[c] x=_;rw[Bool.eq_iff_iff];simp
 unfold Txt.stripChars;rw[PySem.W.stripBy_eq,g];unfold PySem.W.stripped Z.strip;erw[if_true];rw[fR c (Z.lstrip c s).reverse,fR c s];show Builtin.Str.strSub _ _ _=_;unfold Builtin.Str.strSub;congr 1;apply Array.ext';have hl:(⟨s.toArray⟩:Str).length=s.length:=by simp[Str.length]
 rw[hl];erw[Array.toList_extract,List.extract_eq_drop_take];rw[List.drop_reverse,List.reverse_reverse,length_drop];congr 1
 lia
theorem Fd:mU X "str.startswith" (λx xs=>rP X.K sub .mJ (x::xs)):=by
 rintro pins s σ H x xs v us Q I rx II ⟨ρ,h,ds,d,h',R,rs,hp,k⟩;cases ds with
 | nil=>simp[ak]at rs
 | cons d0 ds=>
  erw[ak,List.cons.injEq]at rs;obtain ⟨_,_,⟨rfl,rfl⟩,r0,rs⟩:=rs;cases d0 with
  | str a=>
   erw[ah]at r0;obtain ⟨rfl,ha⟩:=r0;obtain ⟨t,rfl⟩:=rx;cases ds with
   | nil=>simp[Z.dJ,Z.dM,Z.dr]at hp
   | cons d1 ds=>
    erw[ak]at rs;obtain ⟨y,r,rfl,r1,rs⟩:=rs;cases d1 with
    | str b=>
     erw[ah]at r1;obtain ⟨rfl,hb⟩:=r1;cases ds with
     | nil=>
      erw[ak]at rs;subst rs;cases II with
      | cons q1 q2=>
       cases q2;obtain ⟨t1,rfl⟩:=q1;erw[Z.dJ,Z.dM,Z.dr,Option.some.injEq,Prod.mk.injEq]at hp;obtain ⟨rfl,rfl⟩:=hp;exact SC.startswith ⟨.bl _,H,I,rfl,k ρ H _ .refl R (by erw[ah];rw[Dq])⟩
     | cons d2 ds=>
      erw[ak]at rs;obtain ⟨z,r,rfl,r2,rs⟩:=rs;cases d2 with
      | int i=>
       cases ds with
       | nil=>
        erw[ak]at rs;subst rs;erw[ah]at r2;subst r2;cases II with
        | cons q1 q2=>
         cases q2 with
         | cons q2 q3=>
          cases q3;obtain ⟨t1,rfl⟩:=q1;obtain ⟨t2,rfl⟩:=q2;erw[Z.dJ,Z.dM,Z.dr]at hp;split at hp
          ·rename_i c;erw[Option.some.injEq,Prod.mk.injEq]at hp;obtain ⟨rfl,rfl⟩:=hp;exact SC.startswith3 ⟨.bl _,H,I,rfl,k ρ H _ .refl R (by erw[ah];rw[yS _ _ _ c.1 c.2])⟩
          ·cases hp
       | cons _ _=>simp[Z.dJ,Z.dM,Z.dr]at hp
      | _=>simp[Z.dJ,Z.dM,Z.dr]at hp
    | _=>simp[Z.dJ,Z.dM,Z.dr]at hp
  | _=>simp[Z.dJ,Z.dM,Z.dr]at hp
theorem Fe (c:Nat)(s:List Nat):(Z.strip c s).length<=s.length:=by
 unfold Z.strip;rw[fR,fR];erw[length_reverse,length_drop]
 lia
theorem m_strip:mU X "str.strip" (λx xs=>rP X.K sub .strip (x::xs)):=by
 rintro pins s σ H x xs v us Q I rx II ⟨ρ,h,ds,d,h',R,rs,hp,k⟩;cases ds with
 | nil=>simp[ak]at rs
 | cons d0 ds=>
  erw[ak,List.cons.injEq]at rs;obtain ⟨_,_,⟨rfl,rfl⟩,r0,rs⟩:=rs;cases d0 with
  | str a=>
   erw[ah]at r0;obtain ⟨rfl,ha⟩:=r0;obtain ⟨t,rfl⟩:=rx;cases ds with
   | nil=>simp[Z.gw,Z.gQ]at hp
   | cons d1 ds=>
    erw[ak]at rs;obtain ⟨y,r,rfl,r1,rs⟩:=rs;cases d1 with
    | str b=>
     erw[ah]at r1;obtain ⟨rfl,hb⟩:=r1;cases b with
     | nil=>simp[Z.gw,Z.gQ]at hp
     | cons c b=>
      cases b with
      | cons _ _=>simp[Z.gw,Z.gQ]at hp
      | nil=>
       cases ds with
       | cons _ _=>simp[Z.gw,Z.gQ]at hp
       | nil=>
        erw[ak]at rs;subst rs;cases II with
        | cons q1 q2=>
         cases q2;obtain ⟨t1,rfl⟩:=q1;erw[Z.gw,Z.gQ,Option.some.injEq,Prod.mk.injEq]at hp;obtain ⟨rfl,rfl⟩:=hp;have hz:(⟨a.toArray⟩:Str).length<=sizeLine:=by
          rw[sizeLine_eq];simpa [Str.length,Z.lim] using ha
         refine SC.stripChars (λt' n=>?_) hz;have e:=Hi a c;exact ⟨.str ⟨(Z.strip c a).toArray⟩,H,I.tok n,⟨t',by rw[<-e]⟩,k ρ H _ .refl R (by erw[ah];exact ⟨trivial,le_trans (Fe c a) ha⟩)⟩
    | _=>simp[Z.gw,Z.gQ]at hp
  | _=>simp[Z.gw,Z.gQ]at hp
def jn (acc:Z.Ex):List Z.Ex->Z.Ex
 | []=>acc
 | e::es=>jn (.prim .add (.cons acc (.cons e .nil))) es
theorem yU (x:List Nat):∀y:List Nat,Z.fU x y=true↔∃i,i<=y.length/\x.isPrefixOf (y.drop i)=true
 | []=>by
  erw[Z.fU,List.drop_nil];constructor
  ·intro h;refine ⟨0,le_refl _,?_⟩;cases x<;>simp_all [isPrefixOf]
  ·rintro ⟨i,_,h⟩;cases x<;>simp_all [isPrefixOf]
 | c::r=>by
  erw[Z.fU,or_eq_true,yU x r];constructor
  ·rintro (h | ⟨i,h1,h2⟩)
   ·exact ⟨0,zero_le _,h⟩
   ·exact ⟨i+1,by simpa using h1,h2⟩
  ·rintro ⟨i,h1,h2⟩;cases i with
   | zero=>exact .inl h2
   | succ i=>exact .inr ⟨i,by simpa using h1,h2⟩
theorem BZ (x y:List Nat):(!(Builtin.Str.occurrences ⟨y.toArray⟩ ⟨x.toArray⟩ 0 (⟨y.toArray⟩:Str).length 1).isEmpty)=Z.fU x y:=by
 rw[Bool.eq_iff_iff,StrLaws.found_iff,yU];have e1:(⟨y.toArray⟩:Str).length=y.length:=by simp[Str.length]
 have e2:(⟨x.toArray⟩:Str).length=x.length:=by simp[Str.length]
 rw[e1,e2];constructor
 ·rintro ⟨i,h1,h2⟩;rw[Aq]at h2;exact ⟨i,by lia,h2⟩
 ·rintro ⟨i,h1,h2⟩;have:=(isPrefixOf_iff_prefix.mp h2).length_le;rw[length_drop]at this;exact ⟨i,by lia,by rw[Aq];exact h2⟩
theorem IJ:bu X (compareOp .In) (λx y=>rP X.K sub .yA [x,y]):=oz Eu (by
 rintro x y H Q ⟨ρ,h,ds,d,h',R,rs,hp,k⟩;obtain ⟨d1,d2,rfl,r1,r2⟩:=eE rs;cases d1 with
 | str a=>
  cases d2 with
  | str b=>
   erw[Z.qS,Z.jZ,Z.xE,Option.some.injEq,Prod.mk.injEq]at hp;obtain ⟨rfl,rfl⟩:=hp;erw[ah]at r1 r2;obtain ⟨rfl,_⟩:=r1;obtain ⟨rfl,_⟩:=r2;exact ⟨_,_,rfl,rfl,k ρ H _ .refl R (by erw[ah];rw[BZ])⟩
  | _=>simp[Z.qS,Z.jZ,Z.xE]at hp
 | _=>simp[Z.qS,Z.jZ,Z.xE]at hp)
theorem B2 (hp:p=.yA\/∃t,p=.kR t):∀ds h d h',Z.prim sub p ds h=some (d,h')->∃c,d=.bl c:=by
 intro ds h d h' q;rcases hp with rfl | ⟨t,rfl⟩
 ·erw[Z.qS,Z.jZ]at q;unfold Z.xE at q;split at q
  ·erw[Option.some.injEq,Prod.mk.injEq]at q;exact ⟨_,q.1.symm⟩
  ·cases q
 ·erw[Z.qS,Z.jZ]at q;unfold Z.zJ at q;split at q
  ·erw[Option.some.injEq,Prod.mk.injEq]at q;exact ⟨_,q.1.symm⟩
  ·cases q
end
structure vP (K:Frag)(x qual:Str)(st:Stmt)(f T:Addr)(fd:FuncData):Prop where
 ex:∃(oc:Value) (od:Option Addr) (kV doc pm:Value) (an:Option Addr) (cdv ct:Value) (osl:Array (Option Value)),
  fd=fnOf x qual (cH st) (bG st) (aw st) (.ref T) kV doc pm an cdv ct/\K.lookup f=some ⟨oc,od,.func fd,osl⟩/\codeIn K cdv qual=true
 kp:keepIn K (.ref f)=true
theorem Km {K:Frag}{x qual:Str}{st:Stmt}{f T:Addr}{oc:Value}{od an:Option Addr}{osl:Array (Option Value)}{kV doc pm cdv ct:Value}(l:K.lookup f=some ⟨oc,od,.func (fnOf x qual (cH st) (bG st) (aw st) (.ref T) kV doc pm an cdv ct),osl⟩)(c:codeIn K cdv qual=true)(k:keepIn K (.ref f)=true):vP K x qual st f T (fnOf x qual (cH st) (bG st) (aw st) (.ref T) kV doc pm an cdv ct):=⟨⟨oc,od,kV,doc,pm,an,cdv,ct,osl,rfl,l,c⟩,k⟩
theorem vP.binds {K:Frag}{x qual:Str}{st:Stmt}{f T:Addr}{fd:FuncData}{ps:List Str}{ds:List Value}{oc:Value}{od:Option Addr}{its:Array Value}{n:Nat}{sl:Array (Option Value)}(F:vP K x qual st f T fd)(hT:K.lookup T=some ⟨oc,od,.seq its n,sl⟩)(h:∀(kV doc pm:Value) (an:Option Addr) (cdv ct:Value) (us:List Value),(us++ds).length=ps.length->∃k,bindArgs (fnOf x qual (cH st) (bG st) (aw st) (.ref T) kV doc pm an cdv ct) ⟨us,[]⟩=(seqItems? (.ref T) >>= k)/\k (some its)=pure (ps.zip (us++ds))):Binds K fd ps ds:=by
 obtain ⟨oc,od,kV,doc,pm,an,cdv,ct,osl,rfl,lk,hcd⟩:=F.ex;intro s us Y hl;obtain ⟨k,e1,e2⟩:=h kV doc pm an cdv ct us hl;exact .of_defaults rfl (Y T _ hT) rfl e1 e2
def Ar (K:Frag)(mg:Str->Option Value)(x:Str)(d:Z.D):Prop:=∃u,mg x=some u/\rN K d u
def N7 (K:Frag)(w:World)(mg:Str->Option Value)(x:Str)(t:List (Z.S×Z.D)):Prop:=∃a,mg x=some (.ref a)/\TabAt K w a t
def N8 (K:Frag)(x:Str)(st:Stmt)(f:Addr)(fd:FuncData):Prop:=∃T,vP K x x st f T fd
def Vk (K:Frag)(fd:FuncData)(ps:List Str)(d:Z.D):Prop:=∃u,Binds K fd ps [u]/\rN K d u
section
variable {X:Cx}{sub:Nat->Nat->Bool}{Γ:Z.bS}{E:Z.PX}
theorem As (h:Ar X.K X.mg x d)(hg:Gl X x:=by rfl)(hd:bM x:=by decide):LE X sub Γ E (.Name x pos) (.lit d):=by
 obtain ⟨u,hm,hc⟩:=h;exact Y8 hm hc hg hd
theorem Xq (h:N7 X.K X.w X.mg x t)(he:LE X sub Γ E e e')(hg:Gl X x:=by rfl)(hd:bM x:=by decide):
  LE X sub Γ E (.Compare e [.In] [.Name x pos'] pos) (.prim (.kR t) (.cons e' .nil)):=by
 obtain ⟨a,hm,T⟩:=h;exact Xp hm T he hg hd
theorem RW (h:N7 X.K X.w X.mg x t)(he:LE X sub Γ E e e')(hg:Gl X x:=by rfl)(hd:bM x:=by decide)(hs:mR e:=by intro _ _;rfl):
  LE X sub Γ E (.Subscript (.Name x pos') e pos) (.prim (.mD t) (.cons e' .nil)):=by
 obtain ⟨a,hm,T⟩:=h;exact RV hm T he hg hd hs
end
end ZS
namespace ZS
open PySem PySem.Spec PyProof.Rows L2
def xT (K:Frag)(C:Addr):Bool:=match K.lookup C with
 | some ⟨.type "type",_,.cls cd,sl⟩=>(match cd.mro,sl.toList with
  | .ref C'::bm,[_,_,_,_,some (.builtin n),_]=>C' == C && (n == "ValueError.__new__" && (!cd.hasDel && (bm.contains (.type "ValueError") && (bm.contains (.type "BaseException") && (!bm.contains (.type "AttributeError") && (!bm.contains (.type "NameError") && cd.hasDict))))))
  | _,_=>false)
 | _=>false
structure Hj (bm:List Value):Prop where
 v:bm.contains (.type "ValueError")=true
 b:bm.contains (.type "BaseException")=true
 a:bm.contains (.type "AttributeError")=false
 n:bm.contains (.type "NameError")=false
theorem rO {K:Frag}{h:Heap}(X:K.In h)(q:xT K C=true):∃bm N nm qn bs sn sub ab col dd k0 k1 k2 k3 k5,
  h.get? C=some (excClassObj nm qn C N bs bm true sn sub ab col dd k0 k1 k2 k3 k5 "ValueError.__new__")/\Hj bm:=by
 unfold xT at q;split at q
 ·rename_i dd cd sl ho;split at q
  ·rename_i C' bm k0 k1 k2 k3 n k5 hm hs;erw[and_eq_true,beq_iff_eq,not_eq_true']at q;obtain ⟨rfl,rfl,hdel,q1,q2,q3,q4,hdi⟩:=q;obtain ⟨nm,bs,mro,ns,qn,hd,sn,sub,ab,col,del⟩:=cd;dsimp only at hm hdel hdi;subst hm hdel hdi;have hsl:sl=#[k0,k1,k2,k3,some (.builtin "ValueError.__new__"),k5]:=by
    obtain ⟨l⟩:=sl;simp only at hs;rw[hs]
   subst hsl;exact ⟨bm,ns,nm,qn,bs,sn,sub,ab,col,dd,k0,k1,k2,k3,k5,X _ _ ho,⟨q1,q2,q3,q4⟩⟩
  ·cases q
 ·cases q
section
variable {prog:Program}{w:World}{A:Around}{E:Value->Shared->Prop}{h:Heap}{g:Array GenState}{d:Drawn}{t:Nat}{os:OsState}{R:Result->Shared->Prop}
variable {nm q:Str}{C N:Addr}{bs bm:List Value}{hdct:Bool}{sn:List Str}{sub:List Value}{ab:Bool}{col:Option Bool}{dd:Option Addr}{k0 k1 k2 k3 k5:Option Value}
abbrev FV:=PySem.F.excBase_ValueError
theorem Kn (hC:h.get? C=some (excClassObj nm q C N bs bm hdct sn sub ab col dd k0 k1 k2 k3 k5 "ValueError.__new__"))(ok:Hj bm)(hq:Q () ⟨h,g,d,t,os⟩):wpAny M A (checkBuiltinCall "ValueError.__new__" ⟨.ref C::us,[]⟩) Q E ⟨h,g,d,t,os⟩:=by
 have hin:(Value.ref C::bm).contains (.type "ValueError")=true:=by rw[contains_cons,ok.v,Bool.or_true]
 have hst:=FV.noStar;erw[checkBuiltinCall,FV.newKind,FV.newSplit,FV.newRow]
 repeat (first | refine wpAny_loadPart_at hC ?_ | (refine wpAny_isSubtype_exc hC ?_;rw[hin]) | refine wpAny_staticBase_exc hC ?_ | refine wpAny_madeBy_exc hC ?_ | erw[bne_self_eq_false,false_eq_true,if_false] | wp_step)
 exact hq
abbrev jS (h:Heap)(C:Addr)(us:List Value):Heap:=(h.push {cls:=.type "tuple",data:=.seq us.toArray}).push {cls:=.ref C,data:=.fields #[.ref h.objs.size,.none,.none,.none,.bool false,.none]}
theorem Ko (hC:h.get? C=some (excClassObj nm q C N bs bm hdct sn sub ab col dd k0 k1 k2 k3 k5 "ValueError.__new__"))(ok:Hj bm)(hq:R (.ok (.ret (.ref (h.objs.size+1)))) ⟨jS h C us,g,d,t,os⟩)(hl:us.length<=sizeLine):
  codeAny (model prog w) A (.builtin "ValueError.__new__" ⟨.ref C::us,[]⟩) R ⟨h,g,d,t,os⟩:=by
 have hen:=FV.ends;have c1:(Value.ref C::bm).contains (.type "ValueError")=true:=by rw[contains_cons,ok.v,Bool.or_true]
 have c2:(Value.ref C::bm).contains (.type "AttributeError")=false:=by rw[contains_cons,ok.a];rfl
 have c3:(Value.ref C::bm).contains (.type "NameError")=false:=by rw[contains_cons,ok.n];rfl
 refine codeAny_builtinAt FV.entry ?_;unfold Builtin.«BaseException.__new__»;refine PySem.wpAt_bind ?_;show PySem.wpAt _ _ _ (stack >>= _) _ _ _;refine PySem.wpAt_bind (PySem.wpAt_stack λp below=>PySem.wpAt_of_wpAny ?_)
 wp_walk
 refine PySem.wpAt_of_wpAny ?_;rw[FV.owner]
 repeat (first | with_reducible refine wpAny_madeHere_exc FV.canon hC ?_ | with_reducible refine wpAny_loadPart_at hC ?_ | (with_reducible refine wpAny_isSubtype_exc hC ?_;first | rw[c1] | rw[c2] | rw[c3]) | wp_step)
 show R _ _;rw[Heap.size_push];exact hq
theorem wG:(jS h C us).get? (h.objs.size+1)=some {cls:=.ref C,data:=.fields #[.ref h.objs.size,.none,.none,.none,.bool false,.none]}:=by heap_get
theorem j8 (e:h.get? b=some o):(jS h C us).get? b=some o:=get?_push_of_some _ (get?_push_of_some _ e)
theorem Ff {K:Frag}{us:List Value}{oI:Obj}(X:K.In h)(hs:xT K C=true)(hi:PySem.W.findIn K (.ref C) "__init__"=some (some (.ref fI)))(hfI:K.lookup fI=some oI)(hfc:oI.cls=.type "function")(hl:us.length<=sizeLine)(hq:wpAny (model prog w) (A.under (.builtin "type.__call__" ⟨.ref C::us,[]⟩)) (call (.ref fI) (.ref (h.objs.size+1)::us)) (λr s'=>r=.none/\Q (.ref (h.objs.size+1)) s') E ⟨jS h C us,g,d,t,os⟩):
  wpAny (model prog w) A (call (.ref C) us) Q E ⟨h,g,d,t,os⟩:=by
 obtain ⟨bm,N,nm,qn,bs,sn,sub,ab,col,dd,k0,k1,k2,k3,k5,hC,ok⟩:=rO X hs;have f1:=tc_lookup;have f2:=tc_bind (.ref C);have hT:(⟨h,g,d,t,os⟩:Shared).TypeIs (.ref C) "type":=⟨_,hC,rfl⟩
 refine wpAny_call (codeAny_of_tree ?_);show wpAny _ _ (callAny (.ref C) _) _ _ _
 repeat (any_goals (first | assumption | with_reducible refine wpAny_loadPart_at hC ?_ | wp_step))
 refine ⟨rfl,?_⟩;refine codeAny_call_builtin_at (Code.quiet_builtin _ (by decide+kernel)) entry_typeCall (wpAny_check_type_call_sub hC ?_)
 repeat (first | with_reducible refine wpAny_loadPart_at hC ?_ | with_reducible refine wpAny_madeBy_exc hC ?_ | wp_step)
 refine codeAny_call_builtin_code (Code.quiet_builtin _ FV.quiet) (Kn hC ok ?_);refine Ko hC ok ?_ hl;show wpAny _ _ _ _ _ _;have Y9:=j8 (C:=C) (us:=us) hC;have hg1:=wG (h:=h) (C:=C) (us:=us);have hself:(Value.ref C::bm).contains (.ref C)=true:=by simp
 have X1:K.In (jS h C us):=X.keeps λb o e=>j8 e;unfold isInstance
 repeat (first | with_reducible refine wpAny_loadPart_at hg1 ?_ | wp_step)
 show wpAny _ _ (isSubtype (.ref C) (.ref C)) _ _ _;refine wpAny_isSubtype_exc Y9 ?_;rw[hself]
 repeat (first | with_reducible refine wpAny_loadPart_at hg1 ?_ | wp_step)
 show wpAny _ _ (typeLookup (.ref C) _) _ _ _;refine (PySem.W.looks_findIn (M:=model prog w) X1 hi).at ?_;refine wpAny_holding (wpAny_bind ?_);unfold bindSpecial;refine wpAny_bind (wpAny_typeOf (T:="function") ⟨_,X1 _ _ hfI,hfc⟩ ?_);rw[if_pos (by decide)];refine wpAny_pure (wpAny_bind (wpAny_mono hq (λr s' hr=>?_) λ_ _ x=>x));obtain ⟨rfl,hQ⟩:=hr
 wp_walk
 exact hQ
end
def Au:List Value->List Value
 | .ref _::l=>Au l
 | l=>l
theorem rQ:∀{l:List Value},refuseLoop self what l=refuseLoop self what (Au l)
 | []=>rfl
 | v::l=>by
  cases v
  case ref a=>rw[refuseLoop_ref];exact rQ (l:=l)
  all_goals rfl
def Av (K:Frag)(C:Addr):Bool:=(PySem.W.clsIn K C).any λcd=>cd.hasDict && (!cd.mro.isEmpty && (cd.mro.contains (.type "object") && Au cd.mro == VB))
section
open PySem.W
variable {prog:Program}{w:World}{A:Around}{E:Value->Shared->Prop}{s:Shared}{K:Frag}{x C:Addr}{ox:Obj}
theorem Kp (X:K.In s.heap)(I:InstAt s.heap x ox C none)(hdn:ox.dict=none)(hp:Av K C=true)(hna:findIn K (.ref C) name=some none)(h:∀h' od t',h'.get? x=some {ox with dict:=some s.heap.objs.size}->h'.get? s.heap.objs.size=some od->h'.Ns1 s.heap.objs.size (λy=>if y=name then some v else none)->(∀b o,b≠x->s.heap.get? b=some o->h'.get? b=some o)->R (.ok (.ret .none)) {s with heap:=h',toks:=t'}):
  codeAny (model prog w) A (.call (.builtin "object.__setattr__") ⟨[.ref x,.str name tk,v],[]⟩) R s:=by
 have SF:=PySem.F.store_object;obtain ⟨cd,hc,ho⟩:=any_some hp;erw[and_eq_true,not_eq_true',beq_iff_eq]at ho;obtain ⟨hd,ne,hob,hst⟩:=ho;have sub:Looks (model prog w) s.heap (isInstance (.ref x) (.type "object")) true:=I.type.andThen (looks_mroIn X (by unfold mroIn;rw[hc,bind_some,if_neg (by rw[ne];decide),hob]));have hm:Looks (model prog w) s.heap (mroOf (.ref C)) cd.mro:=(looks_clsIn X hc).andThen .now;refine codeAny_call_builtin SF.slot.plain SF.entry (@check_slot (model prog w) _ _ s "object.__setattr__" "object" "__setattr__" (.ref x) [.str name tk,v] [] _ SF.kind SF.split sub (SF.args (.ref x) (.str name tk) v) ?_);rw[osa_eq,refuse_eq];refine wpAny_bind (wpAny_bind (I.type.here (wpAny_bind (hm.here ?_))));rw[rQ,hst,PySem.F.store_ValueError.passes];refine wpAny_pure (wpAny_bind (I.type.here (wpAny_bind ((looks_findIn X hna).here (wpAny_bind ?_)))));refine wpAny_pure ?_;have hx:=I.at_;obtain ⟨oc,odi,oda,osl⟩:=ox;have hcl:=I.cls;have hno:=I.no;dsimp only at hdn hcl;subst hdn hcl;have hxs:x≠s.heap.objs.size:=ne_of_lt (lt_size hx);refine wpAny_bind (wpAny_pure (wpAny_bind (wpAny_bind (wpAny_loadPart hx (wpAny_bind ((PySem.W.looks_clsIn X hc).here ?_))))));rw[hd];have hx1:(s.heap.push {cls:=.type "dict",data:=.dict #[]}).get? x=some ⟨.ref C,none,oda,osl⟩:=get?_push_of_some _ hx;have hgd:((s.heap.push {cls:=.type "dict",data:=.dict #[]}).update x λo=>{cls:=o.cls,dict:=some s.heap.objs.size,data:=o.data,slots:=o.slots}).get? s.heap.objs.size=some {cls:=.type "dict",data:=.dict #[]}:=
  (Heap.get?_update_ne _ _ _ _ hxs.symm).trans (Heap.get?_push_at rfl rfl)
 have hnd:((s.heap.push {cls:=.type "dict",data:=.dict #[]}).update x λo=>{cls:=o.cls,dict:=some s.heap.objs.size,data:=o.data,slots:=o.slots}).Ns s.heap.objs.size (λ_=>none):=
  ⟨_,#[],_,hgd,rfl,λe he=>absurd he (by simp),λ_=>rfl⟩
 have hx2:((s.heap.push {cls:=.type "dict",data:=.dict #[]}).update x λo=>{cls:=o.cls,dict:=some s.heap.objs.size,data:=o.data,slots:=o.slots}).get? x=some ⟨.ref C,some s.heap.objs.size,oda,osl⟩:=by
  refine get?_update_self _ hx1 ?_;have hfr:=(Heap.get?_some_iff.mp hx).2;cases oda<;>first | rfl | exact hfr
 have main:wpAny (model prog w) A.in1 (do
   let d <-alloc {cls:=.type "dict",data:=.dict #[]}
   update x λo=>{cls:=o.cls,dict:=some d,data:=o.data,slots:=o.slots}
   dictMade (.ref C) x d)
   (λa s'=>wpAny (model prog w) A.in1 (match a with | some d=>Builtin.ObjectAttr.storeInDict d (.str name tk) name v | none=>Builtin.ObjectAttr.noDictFor (.ref x) (.ref C) name (none:Option Value).isSome)
    (λfin s'=>match fin with | .done f=>R (.ok f) s' | .again c'=>c'.quiet=true/\codeAny (model prog w) A c' R s') (λe s'=>R (.error e) s') s') (λe s'=>R (.error e) s') s:=by
  refine wpAny_bind (wpAny_alloc' (wpAny_bind (wpAny_update' hx1 (wpAny_pure ?_))));show wpAny _ _ (Builtin.ObjectAttr.storeInDict s.heap.objs.size (.str name tk) name v) _ _ _;refine wpAny_bind (wpAny_pure (wpAny_bind (wpAny_nsSet1 (Heap.Ns1.of_empty hnd) λh' hn' hs=>?_)));obtain ⟨oD,esD,epD,hoD,hdD,hcD⟩:=hn'.count (Within.cons name v Within.nil);refine wpAny_bind (wpAny_lookBehind hoD (by rw[hdD];exact pastItsLine_dict (le_trans hcD (by rw[length_cons,length_nil,sizeLine_eq];lia))) ?_);refine wpAny_pure (h h' oD _ ((hs.2 x hxs).trans hx2) hoD hn' λb o hb e=>?_);exact (hs.2 b (ne_of_lt (lt_size e))).trans ((Heap.get?_update_ne _ _ _ _ hb).trans (get?_push_of_some _ e))
 have hth:typeHasDict (.ref C)=true:=by simp[typeHasDict]
 cases oda<;>first | (cases hno;done) | exact main
theorem Kq (X:K.In s.heap)(I:InstAt s.heap x ox C none)(hdn:ox.dict=none)(hsa:findIn K (.ref C) "__setattr__"=some (some (.builtin "object.__setattr__")))(hp:Av K C=true)(hna:findIn K (.ref C) name=some none)(h:∀h' od t',h'.get? x=some {ox with dict:=some s.heap.objs.size}->h'.get? s.heap.objs.size=some od->h'.Ns1 s.heap.objs.size (λy=>if y=name then some v else none)->(∀b o,b≠x->s.heap.get? b=some o->h'.get? b=some o)->Q () {s with heap:=h',toks:=t'}):
  wpAny (model prog w) A (setAttr (.ref x) name v) Q E s:=
 set_plain X I hsa (Kp (s:={s with toks:=s.toks+1}) X I hdn hp hna h)
end
def jd (C:Addr)(dx:Option Addr)(e:Addr)(h:Heap):Prop:=∃oe vs,h.get? e=some oe/\oe.cls=.ref C/\oe.dict=dx/\oe.data=.fields vs/\vs[1]?=some .none
theorem Fg (x:jd C dx e h):bD P w H h e (.ext (jd C dx e)):=by
 obtain ⟨oe,vs,h1,h2⟩:=id x;exact ⟨x,⟨oe,h1⟩,λg1 g2 ⟨o,v,a,b⟩ k=>⟨o,v,k _ a,b⟩⟩
abbrev fJ (i:Int):HO:=.xd [("row",.int i)]
structure B3 (K:Frag)(fI C:Addr):Prop where
 sh:xT K C=true
 vm:Av K C=true
 sa:PySem.W.findIn K (.ref C) "__setattr__"=some (some (.builtin "object.__setattr__"))
 na:PySem.W.findIn K (.ref C) "row"=some none
 ii:PySem.W.findIn K (.ref C) "__init__"=some (some (.ref fI))
section
variable {X:Cx}{pins:List (Addr×Obj)}{σ:L2.St}{H:Hp}{s:Shared}
theorem Xr (I:Inv X pins σ H s)(he:H e=some (.ext (jd C none e)))(k:∀b o,b≠e->s.heap.get? b=some o->h'.get? b=some o)(he':jd C (some s.heap.objs.size) e h')(hd:h'.get? s.heap.objs.size=some od)(hn:h'.Ns1 s.heap.objs.size (λy=>if y="row" then some u else none))(ru:RelV (.int i) u):
  Inv X pins σ (upd (upd H e (.ext (jd C (some s.heap.objs.size) e))) s.heap.objs.size (.bq od (fJ i))) {s with heap:=h',toks:=t'}:=by
 have hdx:H s.heap.objs.size=none:=I.hok.fresh (le_refl _);have ned:s.heap.objs.size≠e:=λz=>by rw[z,he]at hdx;cases hdx
 have IL:∀b,H b=none->b≠e:=λb z q=>by rw[q,he]at z;cases z
 have Y_:∀b o,s.heap.get? b=some o->b≠s.heap.objs.size:=λb o z=>ne_of_lt (lt_size z);have nu:∀b u,H b=some u->b≠e->upd (upd H e (.ext (jd C (some s.heap.objs.size) e))) s.heap.objs.size (.bq od (fJ i)) b=some u:=λb u z q=>by
  rw[aB (λy=>by rw[y,hdx]at z;cases z),aB q];exact z
 refine I.zo (g':=s.gens) (d':=s.drawn) (t':=t') (ch:=[]) (λb hb=>by cases hb) (λb o _ _ _ z n=>k b o (IL b n) z) (λb o _ _ _ z n=>⟨o.slots,k b o (IL b n) z⟩) (λb o _ z n=>?_) (λb o _ z=>?_) (λb xs z=>nu b _ z λy=>by rw[y,he]at z;cases z) (λb o u z=>nu b _ z λy=>by rw[y,he]at z;cases z) (λb ps z=>⟨#[],?_⟩) (λm hm=>?_) (λb u z=>?_) I.bare
 ·rw[aB (Y_ b o z),aB (IL b n)];exact n
 ·by_cases q:b=e
  ·obtain ⟨oe,vs,h1,_⟩:=he';rw[q];exact ⟨oe,h1⟩
  ·exact ⟨o,k b o q z⟩
 ·rw[nu b _ z λy=>by rw[y,he]at z;cases z];simp
 ·obtain ⟨o,es,ep,ho,r⟩:=hm;exact ⟨o,es,ep,k _ o (IL _ I.free) ho,r⟩
 ·by_cases q:b=s.heap.objs.size
  ·subst q;rw[aK]at z;cases z;refine ⟨hd,_,hn,λf=>?_⟩;show jg (List.lookup f [("row",V.int i)]) (if f="row" then some u else none);by_cases hf:f="row"
   ·subst hf;exact ru
   ·rw[if_neg hf];have:(f == ("row":Str))=false:=beq_false_of_ne hf;erw[List.lookup,this];trivial
  ·rw[aB q]at z;by_cases q2:b=e
   ·subst q2;rw[aK]at z;cases z;exact Fg he'
   ·rw[aB q2]at z;refine (I.hok b u z).stay (λc v hc y=>?_) (λc y=>nu c _ y λw=>by rw[w,he]at y;cases y) λc xs y=>nu c _ y λw=>by rw[w,he]at y;cases y
    refine k c v (λw=>?_) y;rcases hc with rfl | hc
    ·exact q2 w
    ·rw[w,he]at hc;cases hc
end
def IP (K:Frag)(fI:Addr):Sp:=λvs H Q _=>∃e C i,vs=[.ref e,.int i]/\H e=some (.ext (jd C none e))/\B3 K fI C/\∀dx od,H dx=none->Q .non (upd (upd H e (.ext (jd C (some dx) e))) dx (.bq od (fJ i)))
theorem Kr {P:Program}{w:World}{K:Frag}{mg:Str->Option Value}{base:Heap}{x qual:Str}{st:Stmt}{f:Addr}{fd:FuncData}{k:Nat}{p1 p2 p3 p4:Pos}(F:rn K x qual st f fd)(S:aM ["self","row"] ["self","row"] (aw st))(hb:bG st=[.Assign [.Attribute (.Name "self" p1) "row" p2] (.Name "row" p3) p4])(v1:vZ (aw st) "self")(v2:vZ (aw st) "row")(hs:∀env:Env,env.scope=aw st->swapsWith (.Name "row" p3) (some (.Attribute (.Name "self" p1) "row" p2)) p4.line env=pure false):
  aH P w K mg base aY (k+1) f fd ["self","row"] (IP K f):=by
 refine F.ok S (λvs H Q E h=>?_) λcdv A outer s H vs Q E hr h=>?_
 ·obtain ⟨e,C,i,rfl,_⟩:=h;rfl
 ·obtain ⟨e,C,i,rfl,he,hx,q⟩:=h;rw[hb];refine ⟨λD σ H=>∃e C i,σ[0]?=some (some (.ref e))/\σ[1]?=some (some (.int i))/\H e=some (.ext (jd C none e))/\B3 K f C/\∀dx od,H dx=none->D.nx σ (upd (upd H e (.ext (jd C (some dx) e))) dx (.bq od (fJ i))),JB ?_,e,C,i,rfl,rfl,he,hx,q⟩;intro pins s1 σ1 H1 D I ⟨e,C,i,h0,h1,he,hx,q⟩;have ha:=zS (X:=(fF aY P w K mg base ["self","row"] qual (aw st) f cdv A outer s H E).j0) (i:=0) (x:="self") (pos:=p1) rfl v1;have hv:=zS (X:=(fF aY P w K mg base ["self","row"] qual (aw st) f cdv A outer s H E).j0) (i:=1) (x:="row") (pos:=p3) rfl v2;refine plainObj_wpAny_Assign_Attribute (aS (hv pins s1 σ1 H1 (λy H'=>y=.int i/\H'=H1) I ⟨_,h1,rfl,rfl⟩) λu s2 ⟨y,H2,I2,ry,ey,eH⟩=>?_) (hs _ rfl);subst ey eH;refine aS (ha pins s2 σ1 H2 (λy H'=>y=.ref e/\H'=H2) I2 ⟨_,h0,rfl,rfl⟩) λov s3 ⟨z,H3,I3,rz,ez,eH⟩=>?_;subst ez eH;obtain rfl:ov=Value.ref e:=rz;obtain ⟨⟨oe,vs,g1,g2,g3,g4,g5⟩,_⟩:=(show bD _ _ H3 s3.heap e (.ext (jd C none e)) from I3.hok e _ he)
  refine Kq (K:=K) (C:=C) I3.bX ⟨g1,g2,by unfold notCls;rw[g4],by rw[g3];trivial⟩ g3 hx.sa hx.vm hx.na λh' od t' k1 k2 k3 k4=>?_;exact ⟨σ1,_,Xr I3 he k4 ⟨_,vs,k1,g2,rfl,g4,g5⟩ k2 k3 ry,q _ od (I3.hok.fresh (le_refl _))⟩
section
variable {X:Cx}{pins:List (Addr×Obj)}{σ:L2.St}{H:Hp}{s:Shared}
theorem Aw (M:B3 X.K fI C)(hfn:isFn X.K (.ref fI)=true)(F:aH X.prog X.w X.K X.mg X.base aY k fI fd ["self","row"] (IP X.K fI))(hr:bN (k+1) X.A)(hb:Binds X.K fd ["self","row"] [])(I:Inv X pins σ H s)(ru:RelV (.int i) u)(h:∀s' e dx od,s.heap.get? e=none->H e=none->H dx=none->dx≠e->Inv X pins σ (upd (upd H e (.ext (jd C (some dx) e))) dx (.bq od (fJ i))) s'->Q (.ref e) s'):
  wpAny (model X.prog X.w) X.A (call (.ref C) [u]) Q X.xe s:=by
 obtain ⟨oI,hfI,hfc⟩:∃oI,X.K.lookup fI=some oI/\oI.cls=.type "function":=by
  have e:typeIn X.K (.ref fI)=some (.type "function"):=beq_iff_eq.mp hfn;obtain ⟨o,e1,e2⟩:=map_eq_some_iff.mp (show (X.K.lookup fI).map (·.cls)=some (.type "function") from e);exact ⟨o,e1,e2⟩
 obtain ⟨hh,g,d,t,os⟩:=s;refine Ff (K:=X.K) I.bX M.sh M.ii hfI hfc (by rw[sizeLine_eq];simp) ?_;have hfe:H (hh.objs.size+1)=none:=I.hok.fresh (le_succ _);have I1:=I.laid (a:=hh.objs.size+1) (o:=.ext (jd C none (hh.objs.size+1))) (h':=jS hh C [u]) (t':=t) (λb o e=>j8 e) (le_succ _) (Fg ⟨_,_,wG,rfl,rfl,rfl,rfl⟩);have hsp:IP X.K fI [.ref (hh.objs.size+1),.int i] (upd H (hh.objs.size+1) (.ext (jd C none (hh.objs.size+1)))) (λv H2=>v=.non/\∃dx od,H dx=none/\dx≠hh.objs.size+1/\H2=upd (upd H (hh.objs.size+1) (.ext (jd C (some dx) (hh.objs.size+1)))) dx (.bq od (fJ i))) E0:=by
  refine ⟨hh.objs.size+1,C,i,rfl,aK,M,λdx od hdx=>⟨rfl,dx,od,?_,?_,?_⟩⟩
  ·by_cases q:dx=hh.objs.size+1
   ·rw[q];exact hfe
   ·rw[aB q]at hdx;exact hdx
  ·intro q;rw[q,aK]at hdx;cases hdx
  ·congr 1;funext b;by_cases q:b=hh.objs.size+1
   ·rw[q,aK,aK]
   ·rw[aB q,aB q,aB q]
 have r2:Vals [V.ref (hh.objs.size+1),.int i] [Value.ref (hh.objs.size+1),u]:=.cons rfl (.cons ru .nil);refine wpAny_call (codeAny_mono (F.run _ X.stack _ _ ⟨[Value.ref (hh.objs.size+1),u],[]⟩ [Value.ref (hh.objs.size+1),u] _ _ E0 (hr.make C [u] []) (I1.env0.make C [u] []) (hb _ [Value.ref (hh.objs.size+1),u] I1.bX rfl) r2 hsp) λr s' hq'=>?_);cases r with
 | error e=>exact Io pins σ _ _ e s' I1 hq'
 | ok fl=>
  cases fl with
  | ret v=>
   obtain ⟨w',H',I3,rv,ev,dx,od,q1,q2,q3⟩:=I1.after hq';subst ev q3;exact ⟨rv,h s' _ dx od (Heap.get?_none_of_le (le_succ _)) hfe q1 q2 I3⟩
  | next=>exact False.elim hq'
  | brk=>exact False.elim hq'
  | cont=>exact False.elim hq'
theorem B4 (I:Inv X pins σ H s)(he:H e=some (.ext φ))(ot:∀b,b≠e->H' b=H b)(new:∀o,H' e=some o->bD X.prog X.w H' s.heap e o):Inv X pins σ H' s:=by
 have ne:∀b u,H b=some u->(∀ψ,u≠.ext ψ)->b≠e:=λb u z n q=>by rw[q,he]at z;cases z;exact n _ rfl
 refine I.zo (h':=s.heap) (g':=s.gens) (d':=s.drawn) (t':=s.toks) (ch:=[]) (λb hb=>by cases hb) (λb o _ _ _ z _=>z) (λb o _ _ _ z _=>⟨o.slots,z⟩) (λb o _ z n=>?_) (λb o _ z=>⟨o,z⟩) (λb xs z=>?_) (λb o u z=>?_) (λb ps z=>⟨#[],?_⟩) (λm hm=>hm) (λb u z=>?_) I.bare
 ·rw[ot b (λq=>by rw[q,he]at n;cases n)];exact n
 ·rw[ot b (ne b _ z λ_ q=>by cases q)];exact z
 ·rw[ot b (ne b _ z λ_ q=>by cases q)];exact z
 ·rw[ot b (ne b _ z λ_ q=>by cases q),z];simp
 ·by_cases q:b=e
  ·subst q;exact new u z
  ·rw[ot b q]at z;exact (I.hok b u z).stay (λ_ _ _ y=>y) (λc y=>by rw[ot c (ne c _ y λ_ q=>by cases q)];exact y) λc xs y=>by rw[ot c (ne c _ y λ_ q=>by cases q)];exact y
end
variable [r0:R0]
section
variable {X:Cx}{sub:Nat->Nat->Bool}{Γ:Z.bS}{E:Z.PX}
structure zq (X:Cx)(k:Nat)(fI:Addr)(fd:FuncData)(C:Addr):Prop where
 ex:B3 X.K fI C
 fn:isFn X.K (.ref fI)=true
 ok:aH X.prog X.w X.K X.mg X.base aY k fI fd ["self","row"] (IP X.K fI)
 bi:Binds X.K fd ["self","row"] []
 kp:keepIn X.K (.ref C)=true
theorem xU (hr:bN (k+1) X.A)(M:zq X k fI fd C)(hm:X.mg x=some (.ref C))(hn:nsIn X.K mainGlobals x=some (some (.ref C)))(he:LE X sub Γ E e e')(hcn:x=⟨cn.toArray⟩:=by rfl)(hg:Gl X x:=by rfl)(hdb:bM x:=by decide)(hs:starEach [e] X.env=(false,eval e X.env)::starEach [] X.env:=by rfl)(hpl:(backTo pos (starEach [] X.env)).any (·.1)=false:=by rfl):
  LE X sub Γ E (.Call (.Name x p) [e] [] pos) (.uT cn e'):=by
 intro pins s σ H Q I ⟨ρ,h,τ,Q',R,L,w,k'⟩;erw[Z.aF]at w;refine wpAny_Call_Name_kw (eY I hg hm ?_ hdb);have ha:PA X [e] _:=dw he i_ hs;refine callWith_K (h₀:=X.base) I.ok.mod.uV M.kp (aS (ha pos pins s σ H (λvs H1=>∃i aA h1,vs=[.int i]/\Rep X.K aA h1 H1/\Ext X.K ρ H aA H1/\Q' (.ref h1.length) (h1++[.bU cn i])) I ?_) λus s1 ⟨vs,H1,I1,r,i,aA,h1,ev,R1,e1,q⟩=>⟨I1.bX,?_⟩) hs hpl
 ·refine ⟨ρ,h,τ,_,R,L,w,λd1 h1 aA H1 v e1 R1 r1 w1=>?_⟩;cases d1 with
  | int i=>
   erw[ah]at r1;subst r1;exact ⟨i,aA,h1,rfl,R1,e1,w1⟩
  | _=>exact w1.elim
 ·subst ev;obtain ⟨u,rfl,ru⟩:∃u,us=[u]/\RelV (.int i) u:=by
   cases r with
   | cons a b=>cases b;exact ⟨_,rfl,a⟩
  refine Aw M.ex M.fn M.ok hr M.bi I1 ru λs2 ea dx od hnew hf hfd hne I2=>?_;obtain ⟨⟨oe,vs,g1,g2,g3,g4,g5⟩,_⟩:=(show bD _ _ _ s2.heap ea (.ext (jd C (some dx) ea)) from I2.hok ea _ (by rw[aB (Ne.symm hne),aK]))
  have I3:=B4 (H':=upd (upd H1 dx (.bq od (fJ i))) ea (.bq oe (.own 0))) I2 (e:=ea) (by rw[aB (Ne.symm hne),aK]) (λb hb=>?_) λo z=>?_
  ·have e2:Ext X.K aA H1 aA (upd H1 dx (.bq od (fJ i))):=Ext.fresh hfd;have hf2:upd H1 dx (.bq od (fJ i)) ea=none:=by rw[aB (Ne.symm hne)];exact hf
   have e3:Ext X.K aA (upd H1 dx (.bq od (fJ i))) (aA++[ea]) (upd (upd H1 dx (.bq od (fJ i))) ea (.bq oe (.own 0))):=Ext.alloc hf2;have R3:Rep X.K (aA++[ea]) (h1++[.bU cn i]) (upd (upd H1 dx (.bq od (fJ i))) ea (.bq oe (.own 0))):=(R1.fresh hfd).alloc (ob:=.bU cn i) hf2 ⟨C,oe,dx,od,hcn ▸ hn,aK,by rw[aB hne,aK],g2,g3,by unfold notCls;rw[g4]⟩;refine ⟨.ref ea,_,I3,rfl,k' _ _ (aA++[ea]) _ _ (e1.trans (e2.trans e3)) R3 ?_ q⟩;erw[ah];exact ⟨ea,rfl,by rw[<-R1.len,getElem?_append_right (le_refl _)];simp⟩
  ·rw[aB hb];by_cases q:b=dx
   ·rw[q,aK,aK]
   ·rw[aB q,aB q,aB hb]
  ·rw[aK]at z;cases z;exact ⟨g1,_,g1⟩
end
end ZS
namespace ZS
open PySem PySem.Spec PyProof.Rows L2
section
variable {M:Model}{A:Around}{E:Value->Shared->Prop}{s:Shared}{env:Env}
variable {nm q:Str}{C N:Addr}{bs bm:List Value}{hdct:Bool}{sn:List Str}{sub:List Value}{ab:Bool}{col:Option Bool}{dd:Option Addr}{k0 k1 k2 k3 k5:Option Value}{newId:String}
theorem Dr (hbase:bm.contains (.type "BaseException")=true)(hh:A.handled=none)(h:wpAny M A x (λv s₁=>∃e dx vs sl,v=.ref e/\s₁.heap.get? C=some (excClassObj nm q C N bs bm hdct sn sub ab col dd k0 k1 k2 k3 k5 newId)/\s₁.heap.get? e=some ⟨.ref C,dx,.fields vs,sl⟩/\vs[1]?=some .none/\E (.ref e) s₁) E s):
  wpAny M A (raiseStmt env (some x) none) Q E s:=by
 have hc:(Value.ref C::bm).contains (.type "BaseException")=true:=by rw[contains_cons,hbase,Bool.or_true]
 unfold raiseStmt;refine wpAny_bind (wpAny_mono h (λv s₁ h₁=>?_) λ_ _ x=>x);obtain ⟨e,dx,vs,sl,rfl,hC,he,h5,hE⟩:=h₁;obtain ⟨hp,g,d,tk,os⟩:=s₁
 repeat (first | with_reducible refine wpAny_loadPart_at he ?_ | with_reducible refine wpAny_loadPart_at hC ?_ | (with_reducible refine wpAny_isSubtype_exc hC ?_;rw[hc]) | wp_step)
 rw[h5];refine wpAny_pure ?_;rw[if_neg (by decide)];exact wpAny_pure (wpAny_raiseNew_none hh hE)
end
variable [r0:R0]
section
variable {X:Cx}{sub:Nat->Nat->Bool}{Γ:Z.bS}{E:Z.PX}
theorem B5 (hx:Vj X E)(hex:X.ex=[])(hr:bN (k+1) X.A)(M:zq X k fI fd C)(hm:X.mg x=some (.ref C))(hn:nsIn X.K mainGlobals x=some (some (.ref C)))(he:LE X sub Γ E e e')(hcn:x=⟨cn.toArray⟩:=by rfl)(hg:Gl X x:=by rfl)(hdb:bM x:=by decide)(hs:starEach [e] X.env=(false,eval e X.env)::starEach [] X.env:=by rfl)(hpl:(backTo cpos (starEach [] X.env)).any (·.1)=false:=by rfl):
  LS X sub Γ E (.Raise (some (.Call (.Name x np) [e] [] cpos)) none pos) (.nX cn e'):=by
 intro pins s σ H D I ⟨ρ,h,τ,N,R,L,w,k'⟩;erw[Z.wpS]at w;obtain ⟨bm,NN,nm,qn,bs,sn,Hk,ab,col,dd,k0,k1,k2,k3,k5,Za,ok⟩:=rO I.bX M.ex.sh;rw[arm_exec_Raise];have ha:PA X [e] _:=dw he i_ hs;have main:wpAny (model X.prog X.w) X.A (eval (.Call (.Name x np) [e] [] cpos) X.env) (λv s₁=>∃e dx vs sl,v=.ref e/\s₁.heap.get? C=some (excClassObj nm qn C NN bs bm true sn Hk ab col dd k0 k1 k2 k3 k5 "ValueError.__new__")/\s₁.heap.get? e=some ⟨.ref C,dx,.fields vs,sl⟩/\vs[1]?=some .none/\X.xe (.ref e) s₁) X.xe s:=by
  refine wpAny_Call_Name_kw (eY I hg hm ?_ hdb);refine callWith_K (h₀:=X.base) I.ok.mod.uV M.kp (aS (ha cpos pins s σ H (λvs H1=>∃i aA h1,vs=[.int i]/\Rep X.K aA h1 H1/\Ext X.K ρ H aA H1/\E (.tup [.str cn,.int i]) h1) I ?_) λus s1 ⟨vs,H1,I1,r,i,aA,h1,ev,R1,e1,q⟩=>⟨I1.bX,?_⟩) hs hpl
  ·refine ⟨ρ,h,τ,_,R,L,w,λd1 h1 aA H1 v e1 R1 r1 w1=>?_⟩;cases d1 with
   | int i=>
    erw[ah]at r1;subst r1;exact ⟨i,aA,h1,rfl,R1,e1,w1⟩
   | _=>exact w1.elim
  ·subst ev;obtain ⟨u,rfl,ru⟩:∃u,us=[u]/\RelV (.int i) u:=by
    cases r with
    | cons a b=>cases b;exact ⟨_,rfl,a⟩
   refine Aw M.ex M.fn M.ok hr M.bi I1 ru λs2 ea dx od hnew hf hfd hne I2=>?_;obtain ⟨⟨oe,vs,g1,g2,g3,g4,g5⟩,_⟩:=(show bD _ _ _ s2.heap ea (.ext (jd C (some dx) ea)) from I2.hok ea _ (by rw[aB (Ne.symm hne),aK]))
   have hno:upd H1 dx (.bq od (fJ i)) ea=none:=by rw[aB (Ne.symm hne)];exact hf
   have I3:=B4 (H':=upd H1 dx (.bq od (fJ i))) I2 (e:=ea) (by rw[aB (Ne.symm hne),aK]) (λb hb=>?_) λo z=>?_
   ·obtain ⟨bm2,NN2,nm2,qn2,bs2,sn2,aaY,ab2,aaZ,dd2,l0,l1,l2,l3,l5,hC2,_⟩:=rO I2.bX M.ex.sh;have Zb:s2.heap.get? C=some (excClassObj nm qn C NN bs bm true sn Hk ab col dd k0 k1 k2 k3 k5 "ValueError.__new__"):=by
     obtain ⟨o,eo⟩:∃o,X.K.lookup C=some o:=by
      have:=M.ex.sh;unfold xT at this;cases q:X.K.lookup C with
      | none=>rw[q]at this;cases this
      | some o=>exact ⟨o,rfl⟩
     have z1:=I.bX _ _ eo;rw[Za]at z1;rw[I2.bX _ _ eo,z1]
    refine ⟨ea,some dx,vs,oe.slots,rfl,Zb,?_,g5,?_⟩
    ·rw[g1];obtain ⟨a1,a2,a3,a4⟩:=oe;simp only at g2 g3 g4;subst g2 g3 g4;rfl
    ·exact hx pins σ _ s2 ea C (some i) aA h1 cn I3 ⟨Ao I1 hex ea hnew,hno,oe,vs,g1,g2,⟨dx,od,g3,aK⟩,g4,.inl g5⟩ (R1.fresh hfd) (hcn ▸ hn) q
   ·by_cases q:b=dx
    ·rw[q,aK,aK]
    ·rw[aB q,aB q,aB hb]
   ·rw[hno]at z;cases z
 refine wpAny_bind (wpAny_standAt (Dr (C:=C) (nm:=nm) (q:=qn) (N:=NN) (bs:=bs) (bm:=bm) (hdct:=true) (sn:=sn) (sub:=Hk) (ab:=ab) (col:=col) (dd:=dd) (k0:=k0) (k1:=k1) (k2:=k2) (k3:=k3) (k5:=k5) (newId:="ValueError.__new__") ok.b hr.hd (wpAny_bind (wpAny_mono main (λv s₃ h₃=>wpAny_bind (wpAny_standAt (wpAny_pure h₃))) λ_ _ z=>z))))
end
section
open PySem.W
variable {prog:Program}{w:World}{A:Around}{E:Value->Shared->Prop}{s:Shared}{K:Frag}{x D:Addr}{ox od:Obj}
theorem Ks (X:K.In s.heap)(I:InstAt s.heap x ox D (some od))(hf:findObj K D (some od) name=some (.value v))(hv:handedIn v=true)(h:Q (.done (.ret v)) s):wpAny (model prog w) A (Builtin.«object.__getattribute__» ⟨[.ref x,.str name tk],[]⟩) Q E s:=by
 obtain ⟨hh,gg,d,t,os⟩:=s;have L0:=I.type (M:=model prog w);have L1:=looks_find (M:=model prog w) X I hf;unfold Builtin.«object.__getattribute__»;refine wpAny_bind (wpAny_pure (wpAny_bind (wpAny_pure (wpAny_bind (L0.at (wpAny_bind (L1.at ?_)))))));exact wpAny_pure h
theorem Hl (X:K.In s.heap)(I:InstAt s.heap x ox D (some od))(c:oW K D)(hf:findObj K D (some od) name=some (.value v))(hv:handedIn v=true)(h:Q v {s with toks:=s.toks+1}):wpAny (model prog w) A (getAttr (.ref x) name b) Q E s:=by
 obtain ⟨hh,g,d,t,os⟩:=s;have L0:=I.type (M:=model prog w);have L1:=looks_findIn (M:=model prog w) X c.ga;have L2:=looks_findIn (M:=model prog w) X c.gh;have L3:Looks (model prog w) hh (isInstance (.ref x) (.type "BaseException")) true:=L0.andThen (looks_mroIn X c.mb);unfold getAttr getAttrBy;refine wpAny_bind (wpAny_mkText (wpAny_holding (wpAny_bind (L0.at (wpAny_bind (L1.at ?_))))));have hx2:(Value.builtin "BaseException.__getattribute__" == Value.builtin "object.__getattribute__")=false:=by decide+kernel
 dsimp only;rw[if_neg (by rw[hx2,Bool.and_false];decide)];unfold getAttrByItsOwn hookBefore;rw[if_pos (show onTheHeap (Value.ref D)=true by rfl)];refine wpAny_bind (L2.at (wpAny_bind (wpAny_attempt (wpAny_holding ?_))));unfold callGetattribute;rw[if_neg (by cases b<;>decide)];unfold boundAndCalled;refine wpAny_bind (wpAny_of_eq (attr_ValueError.ga.bind (.ref x)) ?_);refine wpAny_call (codeAny_call_builtin attr_ValueError.ga.plain entry_bexc_ga (yP L3 (Ks (s:=⟨hh,g,d,t+1,os⟩) X I hf hv ?_)));exact handed_on hv h
theorem Ku (hd:o.data=.dict es ep)(e:nsFind es name=some v):lookIn name o=some (some v):=by
 unfold lookIn;rw[hd];dsimp only;unfold nsFind findBy at e;rw[Array.find?_toList];cases q:es.find? (λx=>x.key.isStr name) with
 | none=>rw[q]at e;cases e
 | some x=>rw[q]at e;cases e;rfl
theorem Hm (hc:clsIn K D=some cd)(hd:cd.hasDict=true)(ha:findIn K (.ref D) name=some none)(hl:lookIn name od=some (some v)):findObj K D (some od) name=some (.value v):=by
 unfold findObj;rw[hc,bind_some,ha];erw[bind_some];unfold PySem.W.ownOf;rw[hd,if_pos rfl];erw[hl,bind_some]
end
structure Ds (K:Frag)(C:Addr):Prop where
 ex:oW K C
 vm:Av K C=true
 na:PySem.W.findIn K (.ref C) "row"=some none
def rR (K:Frag)(cs:List Z.S):Prop:=∀c∈cs,∀C,nsIn K mainGlobals ⟨c.toArray⟩=some (some (.ref C))->Ds K C
theorem Hn {K:Frag}:rR K []:=λc h=>by cases h
theorem gM {K:Frag}{c:Z.S}{x:Str}{C:Addr}{cs:List Z.S}(hC:nsIn K mainGlobals x=some (some (.ref C)))(l:Ds K C)(r:rR K cs)(hx:x=⟨c.toArray⟩:=by rfl):rR K (c::cs):=by
 subst hx;intro c' h C' hn;rcases mem_cons.mp h with rfl | h
 ·rw[hC]at hn;cases hn;exact l
 ·exact r c' h C' hn
section
variable {X:Cx}{sub:Nat->Nat->Bool}{Γ:Z.bS}{E:Z.PX}
theorem Dt (hc:rR X.K cs)(he:LE X sub Γ E e e')(hb:attributeBase e "row" X.env (eval e X.env)=eval e X.env:=by rfl):LE X sub Γ E (.Attribute e "row" pos) (.prim (.xA cs) (.cons e' .nil)):=by
 intro pins s σ H Q I ⟨ρ,h,τ,Q',R,L,w,k⟩;erw[Z.aF,Z.aW]at w;refine JE hb (aS (he pins s σ H (λv H1=>∃a C oe dx od i,v=.ref a/\H1 a=some (.bq oe (.own 0))/\H1 dx=some (.bq od (fJ i))/\oe.cls=.ref C/\oe.dict=some dx/\notCls oe=true/\Ds X.K C/\Q (.int i) H1) I ⟨ρ,h,τ,_,R,L,w,λd1 h1 aA H1 x e1 R1 r1 w1=>?_⟩) λu s1 ⟨x,H1,I1,rx,a,C,oe,dx,od,i,ex,ha,hx,g1,g2,g3,l,q⟩=>?_)
 ·have w2:match Z.CZ cs [d1] h1 with | some (v,h2)=>Q' v h2 | none=>False:=w1
  cases d1 with
  | ref n=>
   erw[Z.CZ]at w2;cases eo:h1[n]? with
   | none=>erw[eo]at w2
   | some ob=>
    cases ob with
    | bU c i=>
     erw[eo]at w2;by_cases hm:c∈cs
     ·rw[if_pos hm]at w2;obtain ⟨a,C,oe,dx,od,rfl,hn,ha,hx,g1,g2,g3⟩:=Fb R1 r1 eo;exact ⟨a,C,oe,dx,od,i,rfl,ha,hx,g1,g2,g3,hc c hm C hn,k _ _ aA H1 _ e1 R1 (by erw[ah]) w2⟩
     ·rw[if_neg hm]at w2;exact w2.elim
    | _=>erw[eo]at w2
  | _=>exact w2.elim
 ·subst ex;obtain rfl:u=Value.ref a:=rx;obtain ⟨ho,_⟩:=(show bD X.prog X.w H1 s1.heap a (.bq oe (.own 0)) from I1.hok a _ ha)
  obtain ⟨hod,mA,⟨o,es,ep,ho2,hd,_,_,hf⟩,rel⟩:=(show bD X.prog X.w H1 s1.heap dx (.bq od (fJ i)) from I1.hok dx _ hx)
  rw[hod]at ho2;cases ho2;obtain ⟨u2,hu,ru⟩:=jg.some_of (v:=.int i) (o:=mA "row") (rel "row");obtain ⟨cd,hcd,hv⟩:=PySem.W.any_some l.vm;erw[and_eq_true]at hv;refine Hl I1.bX ⟨ho,g1,g3,by rw[g2];exact hod⟩ l.ex (Hm hcd hv.1 l.na (Ku hd (by rw[hf,hu]))) (Ew ru) ?_;exact ⟨.int i,H1,I1.tok _,ru,q⟩
theorem Du (F:∀r:R0,aH X.prog X.w X.K X.mg X.base (j7 X.prog X.w) kk fa fd ps (@vj r X.K Γ f))(hr:bN kk X.A)(hb:bs.length=ps.length->BindsTo s1 fd ⟨us,kw⟩ (ps.zip bs))(I1:Inv X pins σ H1 s1)(rv:Vals vs bs)(R1:Rep X.K aA h1 H1)(rd:ak X.K aA H1 gZ vs)(Ho:Γ f gZ h1 Qm Em)(hq:∀u s2 v H2 a_ h2 d2,Inv X pins σ H2 s2->RelV v u->Ext X.K aA H1 a_ H2->Rep X.K a_ h2 H2->ah X.K a_ H2 d2 v->Qm d2 h2->Q u s2)(hE:∀s2 H2 ea C xr (cn:Z.S) a_ h2,Inv X pins σ H2 s2->ExcAt s1.heap s2.heap H2 xr C ea->(∀b o,s1.heap.get? b=some o->∃o',s2.heap.get? b=some o')->Ext X.K aA H1 a_ H2->Rep X.K a_ h2 H2->nsIn X.K mainGlobals ⟨cn.toArray⟩=some (some (.ref C))->Em (xD cn xr) h2->XE (.ref ea) s2):
  wpAny (model X.prog X.w) X.A (call (.ref fa) us kw) Q XE s1:=by
 have sp:@vj ⟨aA,H1⟩ X.K Γ f vs H1 (λv H2=>∃a_ h2 d2,Ext X.K aA H1 a_ H2/\Rep X.K a_ h2 H2/\ah X.K a_ H2 d2 v/\Qm d2 h2)
   (λv c H2=>∃(cn:Z.S) (C:Addr) (xr:Option Int) (a_:List Addr) (h2:Z.AH),v=xv xr/\c=some C/\Ext X.K aA H1 a_ H2/\Rep X.K a_ h2 H2/\nsIn X.K mainGlobals ⟨cn.toArray⟩=some (some (.ref C))/\Em (xD cn xr) h2):=
  ⟨aA,h1,gZ,Qm,Em,NY R1,rd,Ho,λd h' ρ' H' v e' R' r' q=>⟨ρ',h',d,e',Fc R1 R',r',q⟩,λcn' C' xr h' ρ' H' R' hc' q=>⟨cn',C',xr,ρ',h',rfl,rfl,BX R',Fc R1 R',hc',q⟩⟩
 have IQ:bs.length=ps.length:=by rw[<-rv.length];exact (F ⟨aA,H1⟩).len _ _ _ _ sp
 refine wpAny_call (codeAny_mono ((F ⟨aA,H1⟩).run X.A X.stack s1 H1 ⟨us,kw⟩ bs vs _ _ hr I1.env0 (hb IQ) rv sp) λres s2 hres=>?_);cases res with
 | ok fl=>
  cases fl with
  | next=>exact False.elim hres
  | brk=>exact False.elim hres
  | cont=>exact False.elim hres
  | ret u=>
   obtain ⟨v,H2,I2,r2,a_,h2,d2,e2,R2,Ax,q⟩:=I1.after hres;exact hq u s2 v H2 a_ h2 d2 I2 r2 e2 R2 Ax q
 | error ex=>
  obtain ⟨ea,C',xr,H2,rfl,os,bare,un,hok,x2,cn,C,xr',a_,h2,hv,hC,e2,R2,hn,wh⟩:=hres;cases hC;cases NV hv;exact hE s2 H2 ea _ xr cn a_ h2 (I1.call' os un hok bare (λb z=>absurd z (by simp))) x2 (λb o e=>un.there b o e (by simp)) e2 R2 hn wh
def LC (X:Cx)(sub:Nat->Nat->Bool)(Γ:Z.bS)(E:Z.PX)(i:Nat)(sts:List Stmt)(cc:Z.CC):Prop:=
 ∀(pins:List (Addr×Obj)) (s:Shared) (σ:L2.St) (H:Hp) (ρ:List Addr) (h:Z.AH) (τ:Z.Lo) (Qm:Z.PV) (Em:Z.PX) (Q:Flow->Shared->Prop) (XE:Value->Shared->Prop),Inv X pins σ H s->Rep X.K ρ h H->bI X.K ρ H τ σ->Z.dI sub Γ E cc τ h Qm Em->
  (∀s2 v H2 a_ h2 d2,Inv X pins (σ.set i (some v)) H2 s2->Ext X.K ρ H a_ H2->Rep X.K a_ h2 H2->ah X.K a_ H2 d2 v->Qm d2 h2->Q .next s2)->
  (∀s1 H1 s2 H2 ea C xr (cn:Z.S) a_ h2,Inv X pins σ H1 s1->Inv X pins σ H2 s2->ExcAt s1.heap s2.heap H2 xr C ea->(∀b o,s1.heap.get? b=some o->∃o',s2.heap.get? b=some o')->Ext X.K ρ H a_ H2->Rep X.K a_ h2 H2->nsIn X.K mainGlobals ⟨cn.toArray⟩=some (some (.ref C))->Em (xD cn xr) h2->XE (.ref ea) s2)->
  wpAny (model X.prog X.w) X.A (execs sts X.env) Q XE s
theorem Kv (i:Nat)(hr:bN kk X.A)(F:∀r:R0,aH X.prog X.w X.K X.mg X.base (j7 X.prog X.w) kk fa fd ps (@vj r X.K Γ f))(hm:X.mg fx=some (.ref fa))(hk:keepIn X.K (.ref fa)=true)(hb:Binds X.K fd ps [])(hN:X.N.Nodup)(ha:LA X.j0 sub Γ E (a::as) es')(hi:X.N[i]?=some y:=by rfl)(hx:Loc X.env.scope y:=by first | exact Or.inl rfl | exact Or.inr rfl)(hf:X.fn y=true\/X.env.scope.names.lookup y=some .local:=by first | exact .inl rfl | exact .inr rfl)(hsw:swapsWith (.Call (.Name fx fp) (a::as) [] cpos) (some (.Name y yp)) apos.line X.env=pure false:=by rfl)(hg:Gl X fx:=by rfl)(hdb:bM fx:=by decide)(he:dn X.env a as:=by rfl)(hpl:iy X.env as cpos:=by rfl):
  LC X sub Γ E i [.Assign [.Name y yp] (.Call (.Name fx fp) (a::as) [] cpos) apos] (.call f es' []):=by
 intro pins s σ H ρ h τ Qm Em Q XE I R L w hq hE;erw[Z.dI]at w;refine wpAny_execs_cons (wpAny_Assign_Name (wpAny_Call_Name_kw (eY I hg hm ?_ hdb)) hsw);refine callWith_K (first:=[]) (h₀:=X.base) I.ok.mod.uV hk (wpAny_mono (ha cpos pins s σ H (λvs H1=>∃aA h1 gZ,Rep X.K aA h1 H1/\Ext X.K ρ H aA H1/\ak X.K aA H1 gZ vs/\Γ f gZ h1 Qm Em) (I.wish _)
  ⟨ρ,h,τ,_,R,L,w,λgZ h1 aA H1 vs e1 R1 r1 w1=>⟨aA,h1,gZ,R1,e1,r1,by rw[append_nil]at w1;exact w1⟩⟩) (λus s1 ⟨vs,H1,I1,rv,aA,h1,gZ,R1,e1,rd,Ho⟩=>⟨I1.bX,?_⟩) λ_ _ z=>False.elim z) he hpl
 replace I1:Inv X pins σ H1 s1:=I1.du
 refine Du F hr (λhl=>by have:=hb s1 us I1.bX (by rw[append_nil];exact hl);rwa [append_nil]at this) I1 rv R1 rd Ho (λu s2 v H2 a_ h2 d2 I2 r2 e2 R2 Ax q=>?_) λs2 H2 ea C xr cn a_ h2 I2 x2 th e2 R2 hn q=>hE s1 H1 s2 H2 ea C xr cn a_ h2 I1 I2 x2 th (e1.trans e2) R2 hn q;exact gA I2 hN hi hx r2 (λs3 I3=>wpAny_execs_nil (hq s3 v H2 a_ h2 d2 I3 (e1.trans e2) R2 Ax q)) hf
theorem Hq (i:Nat)(hr:bN kk X.A)(F:∀r:R0,aH X.prog X.w X.K X.mg X.base (j7 X.prog X.w) kk fa fd ps (@vj r X.K Γ f))(hm:X.mg fx=some (.ref fa))(hk:keepIn X.K (.ref fa)=true)(hb:Vk X.K fd ps d)(hN:X.N.Nodup)(ha:LA X.j0 sub Γ E (a::as) es')(hi:X.N[i]?=some y:=by rfl)(hx:Loc X.env.scope y:=by first | exact Or.inl rfl | exact Or.inr rfl)(hf:X.fn y=true\/X.env.scope.names.lookup y=some .local:=by first | exact .inl rfl | exact .inr rfl)(hsw:swapsWith (.Call (.Name fx fp) (a::as) [] cpos) (some (.Name y yp)) apos.line X.env=pure false:=by rfl)(hg:Gl X fx:=by rfl)(hdb:bM fx:=by decide)(he:dn X.env a as:=by rfl)(hpl:iy X.env as cpos:=by rfl):
  LC X sub Γ E i [.Assign [.Name y yp] (.Call (.Name fx fp) (a::as) [] cpos) apos] (.call f es' [d]):=by
 intro pins s σ H ρ h τ Qm Em Q XE I R L w hq hE;obtain ⟨u0,hb,v0,c1,c2⟩:=hb;erw[Z.dI]at w;refine wpAny_execs_cons (wpAny_Assign_Name (wpAny_Call_Name_kw (eY I hg hm ?_ hdb)) hsw);refine callWith_K (first:=[]) (h₀:=X.base) I.ok.mod.uV hk (wpAny_mono (ha cpos pins s σ H (λvs H1=>∃aA h1 gZ,Rep X.K aA h1 H1/\Ext X.K ρ H aA H1/\ak X.K aA H1 gZ vs/\Γ f (gZ++[d]) h1 Qm Em) (I.wish _)
  ⟨ρ,h,τ,_,R,L,w,λgZ h1 aA H1 vs e1 R1 r1 w1=>⟨aA,h1,gZ,R1,e1,r1,w1⟩⟩) (λus s1 ⟨vs,H1,I1,rv,aA,h1,gZ,R1,e1,rd,Ho⟩=>⟨I1.bX,?_⟩) λ_ _ z=>False.elim z) he hpl
 replace I1:Inv X pins σ H1 s1:=I1.du
 refine Du F hr (bs:=us++[u0]) (vs:=vs++[v0]) (λhl=>hb s1 us I1.bX hl) I1 (rv.append (.cons c1 .nil)) R1 (rd.append (.one (c2 aA H1))) Ho (λu s2 v H2 a_ h2 d2 I2 r2 e2 R2 Ax q=>?_) λs2 H2 ea C xr cn a_ h2 I2 x2 th e2 R2 hn q=>hE s1 H1 s2 H2 ea C xr cn a_ h2 I1 I2 x2 th (e1.trans e2) R2 hn q;exact gA I2 hN hi hx r2 (λs3 I3=>wpAny_execs_nil (hq s3 v H2 a_ h2 d2 I3 (e1.trans e2) R2 Ax q)) hf
theorem IU (hc:LT X.j0 sub Γ E c c')(h1:LC X sub Γ E i st1 a)(h2:LC X sub Γ E i st2 b):LC X sub Γ E i [.If c st1 st2 pos] (.ite c' a b):=by
 intro pins s σ H ρ h τ Qm Em Q XE I R L w hq hE;erw[Z.dI]at w;refine wpAny_execs_cons (wpAny_If (wpAny_mono (hc pins s σ H (λb' H1=>∃aA h1,Rep X.K aA h1 H1/\Ext X.K ρ H aA H1/\if b'=true then Z.dI sub Γ E a τ h1 Qm Em else Z.dI sub Γ E b τ h1 Qm Em) (I.wish _)
   ⟨ρ,h,τ,_,R,L,w,λc h1 aA H1 e1 R1 w1=>⟨aA,h1,R1,e1,w1⟩⟩) (λb' s1 ⟨H1,I1,aA,h1',R1,e1,w1⟩=>?_) λ_ _ z=>False.elim z))
 replace I1:Inv X pins σ H1 s1:=I1.du
 have L1:=L.mono e1;cases b' with
 | true=>
  rw[if_pos rfl]at w1 ⊢;exact h1 pins s1 σ H1 aA h1' τ Qm Em _ XE I1 R1 L1 w1 (λs2 v H2 a_ h2 d2 I2 e2 R2 r2 q=>wpAny_execs_nil (hq s2 v H2 a_ h2 d2 I2 (e1.trans e2) R2 r2 q)) λs1' N9 s2 H2 ea C xr cn a_ h2 N_ I2 x2 th e2 R2 hn q=>hE s1' N9 s2 H2 ea C xr cn a_ h2 N_ I2 x2 th (e1.trans e2) R2 hn q
 | false=>
  rw[if_neg (by decide)]at w1 ⊢;exact h2 pins s1 σ H1 aA h1' τ Qm Em _ XE I1 R1 L1 w1 (λs2 v H2 a_ h2 d2 I2 e2 R2 r2 q=>wpAny_execs_nil (hq s2 v H2 a_ h2 d2 I2 (e1.trans e2) R2 r2 q)) λs1' N9 s2 H2 ea C xr cn a_ h2 N_ I2 x2 th e2 R2 hn q=>hE s1' N9 s2 H2 ea C xr cn a_ h2 N_ I2 x2 th (e1.trans e2) R2 hn q
end
end ZS
namespace ZS
open PySem PySem.Spec PyProof.Rows L2
def Oa (K:Frag)(fd:FuncData)(ps:List Str)(kn:Str):Prop:=∀(s:Shared) (u1 u2:Value),K.In s.heap->BindsTo s fd ⟨[u1],[(kn,u2)]⟩ (ps.zip [u1,u2])
theorem vP.Ob {K:Frag}{x qual:Str}{st:Stmt}{f T:Addr}{fd:FuncData}{ps:List Str}{kn:Str}{oc:Value}{od:Option Addr}{its:Array Value}{n:Nat}{sl:Array (Option Value)}(F:vP K x qual st f T fd)(hT:K.lookup T=some ⟨oc,od,.seq its n,sl⟩)(h:∀(kV doc pm:Value) (an:Option Addr) (cdv ct:Value) (u1 u2:Value),∃k,bindArgs (fnOf x qual (cH st) (bG st) (aw st) (.ref T) kV doc pm an cdv ct) ⟨[u1],[(kn,u2)]⟩=(seqItems? (.ref T) >>= k)/\k (some its)=pure (ps.zip [u1,u2])):Oa K fd ps kn:=by
 obtain ⟨oc,od,kV,doc,pm,an,cdv,ct,osl,rfl,lk,hcd⟩:=F.ex;intro s u1 u2 X;obtain ⟨k,h1,h2⟩:=h kV doc pm an cdv ct u1 u2;exact BindsTo.of_defaults rfl (X _ _ hT) rfl h1 h2
variable [r0:R0]
section
variable {X:Cx}{sub:Nat->Nat->Bool}{Γ:Z.bS}{E:Z.PX}
theorem Hr (i:Nat)(hr:bN kk X.A)(F:∀r:R0,aH X.prog X.w X.K X.mg X.base (j7 X.prog X.w) kk fa fd ps (@vj r X.K Γ f))(hm:X.mg fx=some (.ref fa))(hk:keepIn X.K (.ref fa)=true)(hb:Oa X.K fd ps kn)(hN:X.N.Nodup)(ha:LA X.j0 sub Γ E [a] (.cons a' .nil))(hv:LE X.j0 sub Γ E b b')(hi:X.N[i]?=some y:=by rfl)(hx:Loc X.env.scope y:=by first | exact Or.inl rfl | exact Or.inr rfl)(hf:X.fn y=true\/X.env.scope.names.lookup y=some .local:=by first | exact .inl rfl | exact .inr rfl)(hsw:swapsWith (.Call (.Name fx fp) [a] [⟨some kn,b,kp⟩] cpos) (some (.Name y yp)) apos.line X.env=pure false:=by rfl)(hg:Gl X fx:=by rfl)(hdb:bM fx:=by decide)(he:starEach [a] X.env=(false,eval a X.env)::starEach [] X.env:=by rfl)(hpl:((backTo cpos (starEach [a] X.env)).any (·.1) || (backToKw cpos (keywordEach [⟨some kn,b,kp⟩] X.env)).any (·.1.isNone))=false:=by rfl):
  LC X sub Γ E i [.Assign [.Name y yp] (.Call (.Name fx fp) [a] [⟨some kn,b,kp⟩] cpos) apos] (.call f (.cons a' (.cons b' .nil)) []):=by
 intro pins s σ H ρ h τ Qm Em Q XE I R L w hq hE;erw[Z.dI,Z.aW]at w;refine wpAny_execs_cons (wpAny_Assign_Name (wpAny_Call_Name_kw (eY I hg hm ?_ hdb)) hsw);refine PySem.W.callWith_KW (first:=[]) (h₀:=X.base) I.ok.mod.uV hk rfl (wpAny_mono (ha cpos pins s σ H (λvs H1=>∃aA h1 d1 v1,vs=[v1]/\Rep X.K aA h1 H1/\Ext X.K ρ H aA H1/\ah X.K aA H1 d1 v1/\Z.aF sub Γ E b' τ h1 λd2 h2=>Γ f [d1,d2] h2 Qm Em) (I.wish _)
  ⟨ρ,h,τ,λds h1=>match ds with | [d1]=>Z.aF sub Γ E b' τ h1 (λd2 h2=>Γ f [d1,d2] h2 Qm Em) | _=>False,R,L,(by erw[Z.aW];exact w),λgZ h1 aA H1 vs e1 R1 r1 w1=>?_⟩) (λus s1 ⟨vs,H1,I1,rv,aA,h1,d1,v1,ev,R1,e1,rd,w1⟩=>?_) λ_ _ z=>False.elim z) hpl he
 ·match gZ,w1,r1 with
  | [d1],w1,r2=>
   erw[ak]at r2;obtain ⟨v1,_,rfl,r3,rfl⟩:=r2;exact ⟨aA,h1,d1,v1,rfl,R1,e1,r3,w1⟩
 ·subst ev
  replace I1:Inv X pins σ H1 s1:=I1.du
  obtain ⟨u1,rfl,Zc⟩:∃u,us=[u]/\RelV v1 u:=by
   cases rv with
   | cons a b=>cases b;exact ⟨_,rfl,a⟩
  refine wpAny_evalAll_cons (wpAny_bind (wpAny_mono (hv pins s1 σ H1 (λv2 H2=>∃a_ h2 d2,Rep X.K a_ h2 H2/\Ext X.K aA H1 a_ H2/\ah X.K a_ H2 d2 v2/\Γ f [d1,d2] h2 Qm Em) (I1.wish _) ⟨aA,h1,τ,_,R1,L.mono e1,w1,λd2 h2 a_ H2 v2 e2 R2 r2 w2=>⟨a_,h2,d2,R2,e2,r2,w2⟩⟩) (λu2 s2 ⟨v2,H2,I2,Zd,a_,h2,d2,R2,e2,Ax,Ho⟩=>wpAny_bind (wpAny_standAt (wpAny_pure (wpAny_evalAll_nil ⟨I2.bX,?_⟩)))) λ_ _ z=>False.elim z))
  replace I2:Inv X pins σ H2 s2:=I2.du
  refine Du F hr (us:=[u1]) (kw:=[(kn,u2)]) (bs:=[u1,u2]) (vs:=[v1,v2]) (gZ:=[d1,d2]) (λ_=>hb s2 u1 u2 I2.bX) I2 (.cons Zc (.cons Zd .nil)) R2 (by erw[ak];exact ⟨v1,_,rfl,ah.mono e2 _ _ rd,v2,_,rfl,Ax,rfl⟩) Ho (λu s3 v H3 gB h3 d3 I3 r3 e3 R3 Ze q=>?_) λs3 H3 ea C xr cn gB h3 I3 x3 th e3 R3 hn q=>hE s2 H2 s3 H3 ea C xr cn gB h3 I2 I3 x3 th (e1.trans (e2.trans e3)) R3 hn q;exact gA I3 hN hi hx r3 (λs4 I4=>wpAny_execs_nil (hq s4 v H3 gB h3 d3 I4 (e1.trans (e2.trans e3)) R3 Ze q)) hf
def mZ (K:Frag)(cs:List Z.S)(Cb:Addr):Prop:=∀c∈cs,∀C,nsIn K mainGlobals ⟨c.toArray⟩=some (some (.ref C))->exmOne K (.ref C) (.ref Cb)=some true
theorem Fi {K:Frag}{Cb:Addr}:mZ K [] Cb:=λc h=>by cases h
theorem wH {K:Frag}{Cb C:Addr}{c:Z.S}{x:Str}{cs:List Z.S}(hC:nsIn K mainGlobals x=some (some (.ref C)))(l:exmOne K (.ref C) (.ref Cb)=some true)(r:mZ K cs Cb)(hx:x=⟨c.toArray⟩:=by rfl):mZ K (c::cs) Cb:=by
 subst hx;intro c' h C' hn;rcases mem_cons.mp h with rfl | h
 ·rw[hC]at hn;cases hn;exact l
 ·exact r c' h C' hn
theorem Fj {j:Nat}{C Cb:Addr}{n cx:Str}{cn:Z.S}{xi:Int}{b₀:Stmt}{suite:List Stmt}{hs:Z.ao}{Oc hpos:Pos}{rest:List ExceptHandler}{pins:List (Addr×Obj)}{σ:L2.St}{H H1 H2:Hp}{s1 s2:Shared}{ea:Addr}{ρ a_:List Addr}{h2:Z.AH}{τ:Z.Lo}{N:Z.En}{D:Ends}(hN:X.N.Nodup)(hst:X.stack=X.env::X.outer)(hfr:X.env.frame=some X.env.locals)(hex:X.ex=[])(hcx:X.mg cx=some (.ref Cb))(hcn:nsIn X.K mainGlobals ⟨cn.toArray⟩=some (some (.ref C)))(hmt:exmOne X.K (.ref C) (.ref Cb)=some true)(hh:∀(e:Value) (xe:Value->Shared->Prop),j4 (hand X e xe) sub Γ E (b₀::suite) hs)(hj:X.N[j]?=some n)(hl:X.env.scope.names.lookup n=some .local)(Od:Gl X cx)(hdc:bM cx)(I1:Inv X pins σ H1 s1)(I2:Inv X pins σ H2 s2)(x2:ExcAt s1.heap s2.heap H2 (some xi) C ea)(th:∀b o,s1.heap.get? b=some o->∃o',s2.heap.get? b=some o')(e2:Ext X.K ρ H a_ H2)(R2:Rep X.K a_ h2 H2)(L:bI X.K ρ H τ σ)(k:z5 X.K ρ H N D)(wh:Z.aZ sub Γ E hs {nx:=λσ' h'=>N.nx (σ'.set j none) h',rt:=N.rt,bk:=λσ' h'=>N.bk (σ'.set j none) h',ct:=λσ' h'=>N.ct (σ'.set j none) h'} (τ.set j (some (.ref h2.length))) (h2++[.bU cn xi])):
  wpAny (model X.prog X.w) X.A (noteFrame (.ref ea) X.env) (λ_ s₂=>wpAny (model X.prog X.w) X.A (setFlight (.ref ea) none) (λ_ s₃=>wpAny (model X.prog X.w) X.A (handleBy (.ref ea) X.env (.ExceptHandler (some (.Name cx Oc)) (some n) (b₀::suite) hpos::rest)) (SP X pins D) X.xe s₃) X.xe s₂) X.xe s2:=by
 have hg0:∀b,s1.heap.get? b=none->X.s₀.heap.get? b=none:=Ao I1 hex;have An:∀p∈X.pn++pins,∃o,s1.heap.get? p.1=some o:=λp hp=>⟨_,(I1.pin p hp).1⟩
 refine E7 I2 hst hfr x2 th hg0 An λh3 I3 Zf x3=>?_;refine wpAny_handleBy_cons (codeAny_handlers_test (eY (X:=hand X (.ref ea) λ_ _=>False) (BW I3) Od hcx ?_ hdc)) (by intro q;cases q);obtain ⟨oe,vs',Zg,hc3,_⟩:=x3.at_;refine (PySem.W.exm_one (M:=model X.prog X.w) I3.bX (hc3 ▸ (PySem.W.Looks.ld Zg).andThen .now) hmt).here ?_;refine codeAny_handlers_suite_as (Kg I3 x3 Zf hg0 An λh4 I4 hg4 x4=>?_);obtain ⟨oe,Zh,Zi,hc4,⟨dx,od,wI,Zj⟩,Oe,_⟩:=x4.at_;have np:∀p∈X.pn++pins,p.1≠ea:=λp hp z=>by
  obtain ⟨o,eo⟩:=An p hp;rw[z,x4.new]at eo;cases eo
 have I5:=Hc I4 (hg0 ea x4.new) x4.free Zi ⟨Zh,Oe⟩ np;refine gA I5 hN hj (.inl hl) (v:=.ref ea) rfl (λs6 I6=>?_) (.inr hl);have eA:Ext X.K a_ H2 (a_++[ea]) (upd H2 ea (.bq oe (.own 0))):=Ext.alloc x4.free;have R3:Rep X.K (a_++[ea]) (h2++[.bU cn xi]) (upd H2 ea (.bq oe (.own 0))):=R2.alloc (ob:=.bU cn xi) x4.free ⟨C,oe,dx,od,hcn,aK,eA.bq _ _ _ Zj,hc4,wI,by unfold notCls;rw[Oe]⟩;have rx:ah X.K (a_++[ea]) (upd H2 ea (.bq oe (.own 0))) (.ref h2.length) (.ref ea):=by
  erw[ah];exact ⟨ea,rfl,by rw[<-R2.len,getElem?_append_right (le_refl _)];simp⟩
 refine aS (hh (.ref ea) _ pins s6 (σ.set j (some (.ref ea))) (upd H2 ea (.bq oe (.own 0))) (IE D j) (BW I6) ⟨a_++[ea],h2++[.bU cn xi],τ.set j (some (.ref h2.length)),_,R3,(L.mono (e2.trans eA)).set rx,wh,?_⟩) λfl s7 q=>NX I1.ok hN hj hl q;have eB:=e2.trans eA;exact ⟨λgW h' ρ' H' σ' e' R' L' q=>k.nx _ h' ρ' H' _ (eB.trans e') R' (L'.unset j) q,λd h' ρ' H' v e' R' r' q=>k.rt d h' ρ' H' v (eB.trans e') R' r' q,λgW h' ρ' H' σ' e' R' L' q=>k.bk _ h' ρ' H' _ (eB.trans e') R' (L'.unset j) q,λgW h' ρ' H' σ' e' R' L' q=>k.ct _ h' ρ' H' _ (eB.trans e') R' (L'.unset j) q⟩
theorem RX (i j:Nat){Cb:Addr}{n cx:Str}{cs:List Z.S}{body:List Stmt}{cc:Z.CC}{b₀:Stmt}{suite:List Stmt}{hs:Z.ao}{Oc hpos pos:Pos}{rest:List ExceptHandler}(hc:LC X sub Γ E i body cc)(hN:X.N.Nodup)(hst:X.stack=X.env::X.outer)(hfr:X.env.frame=some X.env.locals)(hex:X.ex=[])(hcx:X.mg cx=some (.ref Cb))(hcs:mZ X.K cs Cb)(hh:∀(e:Value) (xe:Value->Shared->Prop),j4 (hand X e xe) sub Γ E (b₀::suite) hs)(hj:X.N[j]?=some n:=by rfl)(hl:X.env.scope.names.lookup n=some .local:=by rfl)(Od:Gl X cx:=by rfl)(hdc:bM cx:=by decide):
  LS X sub Γ E (.Try body (.ExceptHandler (some (.Name cx Oc)) (some n) (b₀::suite) hpos::rest) [] [] pos) (.zL i cc cs j hs):=by
 intro pins s σ H D I ⟨ρ,h,τ,N,R,L,w,k⟩;erw[Z.wpS]at w;refine wpAny_Try_except (hc pins s σ H ρ h τ _ _ _ _ I R L w (λs2 v H2 a_ h2 d2 I2 e2 R2 r2 q=>?_) λs1 H1 s2 H2 ea C xr cn a_ h2 I1 I2 x2 th e2 R2 hn q=>?_)
 ·exact wpAny_execs_nil ⟨_,H2,I2,k.nx _ h2 a_ H2 _ e2 R2 ((L.mono e2).set r2) q⟩
 ·obtain ⟨c,r,e1,hm,q⟩:=q;cases xr with
  | none=>cases e1
  | some i'=>
   cases e1;exact Fj hN hst hfr hex hcx hn (hcs _ hm C hn) hh hj hl Od hdc I1 I2 x2 th e2 R2 L k q
end
end ZS
namespace ZS
open PySem PySem.Spec PyProof.Rows L2
def Og (x:Str):It:=⟨λi _=>i < x.cps.size,λi H v H'=>H'=H/\∃c,x.cps[i]?=some c/\v=.str ⟨#[c]⟩,λi _=>x.cps.size<=i⟩
theorem Hs {P:Program}{w:World}{K:Frag}{tg:Expr}(x:Str)(t:Tok)(it:Addr):Turn P w K tg (Og x) [it] it (λi h=>h.IsStrIter it (strIterType x) x t i) where
 mem:=by simp
 obj:=λi h st b hb=>by
  have e:b=it:=by simpa using hb
  subst e;obtain ⟨o,e,c,d⟩:=st;exact ⟨o,e,λv z=>by rw[d]at z;cases z⟩
 keep:=λi h h' st k=>let ⟨o,e,r⟩:=st;⟨o,k it (by simp) o e,r⟩
 item:=by
  intro X hP hw hK hc i pins s σ H E I hf st hg;subst hP hw hK;obtain ⟨f0,f1,f2,f3,f4,f5⟩:=hf it (by simp);have fin:∀u h' tk,SignAt x i u->h'.IsStrIter it (strIterType x) x t (i+1)->(∀b o,b∉[it]->s.heap.get? b=some o->h'.get? b=some o)->∃u',some u=some u'/\wpAny (model X.prog X.w) X.A (letOwnedTupleGo tg (.ref it) u') (λ_ s2=>∃x' H',Inv X pins σ H' s2/\RelV x' u'/\(Og x).El i H x' H'/\s2.heap.IsStrIter it (strIterType x) x t (i+1)/\∀b∈[it],H' b=none) E {s with heap:=h',toks:=tk}:=by
   intro u h' tk hv st' kk;obtain ⟨c,tu,e1,rfl⟩:=hv;have I1:Inv X pins σ H {s with heap:=h',toks:=tk}:=I.turned (λb o hb e=>kk b o (by simpa using hb) e) f0 f1 f3 f4 f5;obtain ⟨o,e,cl,d⟩:=id st';refine ⟨_,rfl,uv (s:={s with heap:=h',toks:=tk}) e cl d ?_ ⟨.str ⟨#[c]⟩,H,I1,⟨_,rfl⟩,⟨rfl,c,e1,rfl⟩,st',λb hb=>(hf b hb).1⟩⟩;unfold strIterType;split<;>decide
  cases ha:x.cps.all (·< 128)
  ·have eT:strIterType x="str_iterator":=by unfold strIterType;rw[ha];rfl
   rw[eT]at st fin;exact (Walks.strWide (prog:=X.prog) (w:=X.w) (I.ok.hd hc) it x t).item i s _ _ hg st λv h' tk hv st' kk=>by
    rw[eT];exact fin v h' tk hv st' kk
  ·have eT:strIterType x="str_ascii_iterator":=by unfold strIterType;rw[ha];rfl
   rw[eT]at st fin;exact (Walks.strAscii (prog:=X.prog) (w:=X.w) (I.ok.hd hc) it x t).item i s _ _ hg st λv h' tk hv st' kk=>by
    rw[eT];exact fin v h' tk hv st' kk
 done:=by
  intro X hP hw hK hc i pins s σ H E I hf st hg;subst hP hw hK;obtain ⟨f0,f1,f2,f3,f4,f5⟩:=hf it (by simp);have hx:x.cps[i]?=none:=Array.getElem?_eq_none_iff.mpr hg;cases ha:x.cps.all (·< 128)
  ·have eT:strIterType x="str_iterator":=by unfold strIterType;rw[ha];rfl
   rw[eT]at st;exact wpAny_pyNext_wide_end (I.ok.hd hc) st hx λh' eb=>⟨rfl,I.turned (t':=s.toks) (λb o hb e=>eb b o hb e) f0 f1 f3 f4 f5⟩
  ·have eT:strIterType x="str_ascii_iterator":=by unfold strIterType;rw[ha];rfl
   rw[eT]at st;exact wpAny_pyNext_ascii_end (I.ok.hd hc) st hx λh' eb=>⟨rfl,I.turned (t':=s.toks) (λb o hb e=>eb b o hb e) f0 f1 f3 f4 f5⟩
 self:=λ_ _ s _ _ st h=>by
  cases ha:x.cps.all (·< 128)
  ·have eT:strIterType x="str_iterator":=by unfold strIterType;rw[ha];rfl
   rw[eT]at st;exact wpAny_pyIter_striter_wide st h
  ·have eT:strIterType x="str_ascii_iterator":=by unfold strIterType;rw[ha];rfl
   rw[eT]at st;exact wpAny_pyIter_striter_ascii st h
section
variable {X:Cx}{tg:Expr}
theorem Oh {l:Expr}{tl:TE}(hl:PE X l tl):PI X tg l (λσ H R=>tl σ H λx H1=>∃y,x=.str y/\R (Og y) H1):=by
 intro pins s σ H R I h;refine aS (hl pins s σ H _ I h) λv s1 ⟨x,H1,I1,r1,y,e,q⟩=>?_;subst e;obtain ⟨t,rfl⟩:=r1;refine wpAny_pyIter_strU ?_;refine ⟨s1.heap.objs.size,[s1.heap.objs.size],_,_,H1,rfl,I1.kept (t':=s1.toks) λb o e=>get?_push_of_some _ e,Hs y t _,⟨_,get?_push_size _ rfl,rfl,rfl⟩,λb hb=>?_,q⟩;have e:b=s1.heap.objs.size:=by simpa using hb
 subst e;exact I1.vB (le_refl _) (I1.hok.fresh (le_refl _))
end
variable [r0:R0]
section
variable {X:Cx}{sub:Nat->Nat->Bool}{Γ:Z.bS}{E:Z.PX}
theorem Fl (hl:LE X sub Γ E l e'):LI X sub Γ E tg l .chr (.cons e' .nil):=by
 refine Nm (Oh hl) ?_;rintro σ H Rr ⟨ρ,h,τ,Q',R,L,w,k⟩;erw[Z.aW]at w;refine ⟨ρ,h,τ,_,R,L,w,λd h1 aA H1 x e1 R1 r1 w1=>?_⟩;obtain ⟨J,eJ,hk⟩:=k [d] h1 aA H1 [x] e1 R1 (.one r1) w1;cases d with
 | str s=>
  erw[ah]at r1;obtain ⟨rfl,hl⟩:=r1;cases eJ;refine ⟨_,rfl,hk _ ?_⟩;intro i a_ h2 H2 e2 R2;unfold Z.jY;rw[getElem?_map];cases e:s[i]? with
  | none=>
   show (⟨s.toArray⟩:Str).cps.size<=i;have:=List.getElem?_eq_none_iff.mp e;simpa using this
  | some c=>
   have hi:=(List.getElem?_eq_some_iff.mp e).1;refine ⟨(by show i < (⟨s.toArray⟩:Str).cps.size;simpa using hi),λv H' hy=>?_⟩;obtain ⟨eH,c',e3,rfl⟩:=hy;have:c'=c:=by
    have e4:s[i]?=some c':=by simpa using e3
    rw[e]at e4;cases e4;rfl
   subst this;refine iB R2 eH ?_;erw[ah];exact ⟨trivial,by simp[Z.lim]⟩
 | _=>cases eJ
theorem Dv:bu X (binaryOp .Mult) (λx y H Q=>∃i n,x=.str i/\y=.int n/\MulOk i n/\Q (.str (Txt.mul i n)) H):=by
 intro pins s σ H x y v u Q I rx ry h;obtain ⟨i,n,rfl,rfl,hz,q⟩:=h;obtain ⟨t,rfl⟩:=rx;obtain ⟨t',rfl⟩:=ry;exact SB.mul hz λt' tk=>⟨.str _,H,I.tok _,⟨_,rfl⟩,q⟩
theorem foldl_rep:∀{n:Nat} {acc:Array Nat},(replicate n s.toArray).foldl (·++·) acc=acc++((replicate n s).flatten).toArray
 | 0,acc=>by simp
 | n+1,acc=>by
  rw[replicate_succ,List.foldl_cons,foldl_rep,replicate_succ,flatten_cons];simp
theorem Kw:Txt.mul ⟨s.toArray⟩ k=⟨((replicate k.toNat s).flatten).toArray⟩:=by
 unfold Txt.mul;by_cases h1:k < 1
 ·rw[if_pos h1,show k.toNat=0 by lia];rfl
 ·rw[if_neg h1];by_cases h2:((k == 1 || (⟨s.toArray⟩:Str).length == 0)=true)
  ·rw[if_pos h2];erw[or_eq_true,beq_iff_eq]at h2;rcases h2 with rfl | h2
   ·simp
   ·have:s=[]:=by
     have:s.length=0:=h2;exact length_eq_zero_iff.mp this
    subst this;simp
  ·rw[if_neg h2,foldl_rep];simp
theorem wJ:bu X (binaryOp .Mult) (λx y=>rP X.K sub .vp [x,y]):=oz Dv (by
 rintro x y H Q ⟨ρ,h,ds,d,h',R,r,q,k⟩;obtain ⟨d1,d2,rfl,r1,r2⟩:=eE r;change Z.CY _ _=_ at q;unfold Z.CY at q;split at q
 ·rename_i s n e;cases e;split at q
  ·rename_i hh;cases q;erw[and_eq_true,decide_eq_true_eq]at hh;obtain ⟨h1,h2⟩:=hh;have h3:=Z.mK.mp h1;erw[ah]at r1 r2;obtain ⟨rfl,l1⟩:=r1;subst r2;have hlen:(⟨s.toArray⟩:Str).length=s.length:=by rw[gX]
   have hlim:Z.lim=16777216:=rfl;refine ⟨_,_,rfl,rfl,⟨?_,λh4 _=>?_,λh4 _=>?_⟩,?_⟩
   ·erw[Bool.or_eq_false_iff,decide_eq_false_iff_not];constructor<;>lia
   ·intro z;rw[hlen]at z;have hk:(0:Int) < n:=by lia
    have:(s.length:Int)<=(2 ^ 63 - 1) / n:=by
     refine Int.le_ediv_of_mul_le hk ?_;have h5:(s.length * n.toNat:Nat)<=16777216:=by rw[<-hlim];exact h2
     have h6:((s.length * n.toNat:Nat):Int)=(s.length:Int) * n:=by
      rw[Int.natCast_mul,Int.toNat_of_nonneg (by lia)]
     rw[<-h6];lia
    lia
   ·rw[hlen];have:s.length * n.toNat<=sizeLine:=by rw[<-gC];exact h2
    unfold Builtin.Str.tooLong;erw[decide_eq_false_iff_not]
    lia
   ·rw[Kw];refine k ρ H _ .refl R ?_;erw[ah];refine ⟨trivial,?_⟩;rw[List.length_flatten,List.map_replicate,List.sum_replicate_nat,mul_comm];exact h2
  ·cases q
 ·cases q)
theorem Ay (hm:X.mg x=some (.ref C))(hk:keepIn X.K (.ref C)=true)(he:LE X sub Γ (Z.EF E) e e')(hg:Gl X x:=by rfl)(hdb:bM x:=by decide)(hs:starEach [e] X.env=(false,eval e X.env)::starEach [] X.env:=by rfl)(hpl:(backTo cpos (starEach [] X.env)).any (·.1)=false:=by rfl):
  LS X sub Γ (Z.EF E) (.Raise (some (.Call (.Name x np) [e] [] cpos)) none pos) (.nX cn e'):=by
 intro pins s σ H D I ⟨ρ,h,τ,N,R,L,w,k'⟩;erw[Z.wpS]at w;rw[arm_exec_Raise];have ha:PA X [e] _:=dw he i_ hs;have main:∀Q:Value->Shared->Prop,wpAny (model X.prog X.w) X.A (eval (.Call (.Name x np) [e] [] cpos) X.env) Q X.xe s:=by
  intro Q;refine wpAny_Call_Name_kw (eY I hg hm ?_ hdb);refine callWith_K (h₀:=X.base) I.ok.mod.uV hk (aS (ha cpos pins s σ H (λvs H1=>False) I ?_) λus s1 ⟨vs,H1,I1,r,q⟩=>q.elim) hs hpl;refine ⟨ρ,h,τ,_,R,L,w,λd1 h1 aA H1 v e1 R1 r1 w1=>?_⟩;cases d1 with
  | int i=>exact w1.elim
  | _=>exact w1.elim
 refine wpAny_bind (wpAny_standAt ?_);erw[evalOpt,Option.map];unfold raiseStmt;exact wpAny_bind (wpAny_bind (main _))
end
end ZS
namespace ZS
open PySem PySem.Spec PyProof.Rows L2
theorem Oi {l:PySem.W.OpenLaw}{kk kd i:Nat}{sub:Nat->Nat->Bool}{Pg:List Z.Def}{q:Program}{loose:List Str}{XP:(Str->Option Value)->Heap->Prop}{YP:World->Heap->Prop}{d:DefRec}{K:Params->Frag}(hn:l.most=some 63)(hdf:d.params.defaults=[])(hr:bN kk callerA)(hY:∀(w:World) (h:Heap),YP w h->(K w.params).In h)(hw:∀ns:List Int,ns.length<=63->Z.au sub Pg kd i [.bV (ns.map .int)] [] (λd _=>d=.bl true) λ_ _=>False)(F:∀(w:World) (mg:Str->Option Value) (fa:Addr) (h:Heap),(K w.params).In h->h.Ns mainGlobals mg->mg d.name=some (.ref fa)->
   ∃fd:FuncData,(∀(s:Shared) (u:Value),BindsTo s fd ⟨[u],[]⟩ [("script",u)])/\∀base:Heap,(K w.params).In base->base.Ns mainGlobals mg->aH l.prog w (K w.params) mg base aY kk fa fd ["script"] (@aN R0.nil (K w.params) (Z.au sub Pg kd) i)):
  PySem.W.WalkO q loose XP YP l.row.toRowW d [] (λf vs=>PySem.call f vs):=
 L2.JQ (n:=63) (k:=kk) (x:="script") (CX:=λ_=>aY) (sp:=λw=>@aN R0.nil (K w.params) (Z.au sub Pg kd) i) hn (by decide) hdf hr hY F (λ_ _ a ns hl hO hS hZ=>Ha hO hS hZ (hw ns hl)) λ_ _ _ _ _ z=>z
variable [R0]
theorem bw {P:Program}{w:World}{K:Frag}{mg:Str->Option Value}{base:Heap}{sub:Nat->Nat->Bool}{Pg:List Z.Def}{x:Str}{st:Stmt}{f:Addr}{fd:FuncData}{N ps:List Str}{r k i:Nat}{df:Z.Def}(F:rn K x x st f fd)(S:aM N ps (aw st))(hi:Pg[i]?=some df)(hN:N.length=df.nl)(hp:ps.length=df.np)(J:∀(cdv:Value) (A:Around) (outer:List Env) (s:Shared) (H:Hp) (E:XK) (E':Z.PX),bN r (A.deeper (envOfC x (aw st) s.heap.objs.size f cdv))->j4 (fF aY P w K mg base N x (aw st) f cdv A outer s H E).j0 sub (Z.au sub Pg k) (Z.EF E') (bG st) df.body):
  aH P w K mg base aY (r+1) f fd ps (aN K (Z.au sub Pg (k+1)) i):=by
 refine F.ok S (λvs H Q E h=>?_) (λcdv A outer s H vs Q E hr h=>?_)
 ·obtain ⟨ρ,h,ds,Q',E',R,rr,w,kk⟩:=h;erw[Z.au,hi]at w;rw[<-rr.length,hp];exact w.1
 ·obtain ⟨ρ,h,ds,Q',E',R,rr,w,kk⟩:=h;erw[Z.au,hi]at w;exact xQ (sub:=sub) (Γ:=Z.au sub Pg k) (E:=Z.EF E') (df:=df) rfl hN w.1 (J cdv A outer s H E E' hr) R rr w.2 kk
theorem bh {P:Program}{w:World}{K:Frag}{mg:Str->Option Value}{base:Heap}{sub:Nat->Nat->Bool}{Pg:List Z.Def}{f:Addr}{fd:FuncData}{ps:List Str}{r i:Nat}:aH P w K mg base aY r f fd ps (aN K (Z.au sub Pg 0) i):=by
 have no:∀vs H Q E,¬aN K (Z.au sub Pg 0) i vs H Q E:=λvs H Q E h=>by
  obtain ⟨ρ,h,ds,Q',E',R,rr,w,kk⟩:=h;erw[Z.au]at w
 exact ⟨λvs H Q E h=>absurd h (no vs H Q E),λA outer s H args us vs Q E _ _ _ _ h=>absurd h (no vs H Q E)⟩
theorem Ht {P:Program}{w:World}{K:Frag}{mg:Str->Option Value}{base:Heap}{sub:Nat->Nat->Bool}{Pg:List Z.Def}{x:Str}{st:Stmt}{f T:Addr}{fd:FuncData}{N ps:List Str}{r k i:Nat}{df:Z.Def}(F:vP K x x st f T fd)(S:aM N ps (aw st))(hi:Pg[i]?=some df)(hN:N.length=df.nl)(hp:ps.length=df.np)(J:∀(cdv:Value) (A:Around) (outer:List Env) (s:Shared) (H:Hp) (E:XK) (E':Z.PX),bN r (A.deeper (envOfC x (aw st) s.heap.objs.size f cdv))->j4 (fF aY P w K mg base N x (aw st) f cdv A outer s H E).j0 sub (Z.au sub Pg k) (Z.EF E') (bG st) df.body):
  aH P w K mg base aY (r+1) f fd ps (aN K (Z.au sub Pg (k+1)) i):=by
 obtain ⟨oc,od,kV,doc,pm,an,cdv,ct,osl,rfl,lk,hcd⟩:=F.ex;refine C7 lk hcd S (λvs H Q E h=>?_) (λA outer s H vs Q E hr h=>?_)
 ·obtain ⟨ρ,h,ds,Q',E',R,rr,w,kk⟩:=h;erw[Z.au,hi]at w;rw[<-rr.length,hp];exact w.1
 ·obtain ⟨ρ,h,ds,Q',E',R,rr,w,kk⟩:=h;erw[Z.au,hi]at w;obtain ⟨t,q1,q2⟩:=xQ (sub:=sub) (Γ:=Z.au sub Pg k) (E:=Z.EF E') (df:=df) rfl hN w.1 (J cdv A outer s H E E' hr) R rr w.2 kk;exact ⟨t,q1.j0,q2⟩
theorem Hu {P:Program}{w:World}{K:Frag}{mg:Str->Option Value}{base:Heap}{sub:Nat->Nat->Bool}{Pg:List Z.Def}{x:Str}{st:Stmt}{f:Addr}{fd:FuncData}{N ps:List Str}{r k i:Nat}{df:Z.Def}(F:N8 K x st f fd)(S:aM N ps (aw st))(hi:Pg[i]?=some df)(hN:N.length=df.nl)(hp:ps.length=df.np)(J:∀(cdv:Value) (A:Around) (outer:List Env) (s:Shared) (H:Hp) (E:XK) (E':Z.PX),bN r (A.deeper (envOfC x (aw st) s.heap.objs.size f cdv))->j4 (fF aY P w K mg base N x (aw st) f cdv A outer s H E).j0 sub (Z.au sub Pg k) (Z.EF E') (bG st) df.body):
  aH P w K mg base aY (r+1) f fd ps (aN K (Z.au sub Pg (k+1)) i):=by
 obtain ⟨T,F⟩:=F;exact Ht F S hi hN hp J
theorem Hv {P:Program}{w:World}{K:Frag}{mg:Str->Option Value}{base:Heap}{sub:Nat->Nat->Bool}{Pg:List Z.Def}{f:Addr}{fd:FuncData}{ps:List Str}{r i:Nat}:aH P w K mg base (j7 P w) r f fd ps (vj K (Z.au sub Pg 0) i):=by
 have no:∀vs H Q E,¬vj K (Z.au sub Pg 0) i vs H Q E:=λvs H Q E h=>by
  obtain ⟨ρ,h,ds,Q',E',R,rr,w,kk,kx⟩:=h;erw[Z.au]at w
 exact ⟨λvs H Q E h=>absurd h (no vs H Q E),λA outer s H args us vs Q E _ _ _ _ h=>absurd h (no vs H Q E)⟩
theorem Fo {P:Program}{w:World}{K:Frag}{mg:Str->Option Value}{base:Heap}{sub:Nat->Nat->Bool}{Pg:List Z.Def}{x:Str}{st:Stmt}{f:Addr}{fd:FuncData}{N ps:List Str}{r k i:Nat}{df:Z.Def}(F:N8 K x st f fd)(S:aM N ps (aw st))(hi:Pg[i]?=some df)(hN:N.length=df.nl)(hp:ps.length=df.np)(J:∀(cdv:Value) (A:Around) (outer:List Env) (s:Shared) (H:Hp) (E:XK) (E':Z.PX),bN r (A.deeper (envOfC x (aw st) s.heap.objs.size f cdv))->Vj (fF (j7 P w) P w K mg base N x (aw st) f cdv A outer s H E) E'->j4 (fF (j7 P w) P w K mg base N x (aw st) f cdv A outer s H E) sub (Z.au sub Pg k) E' (bG st) df.body):
  aH P w K mg base (j7 P w) (r+1) f fd ps (vj K (Z.au sub Pg (k+1)) i):=by
 obtain ⟨T,F⟩:=F;obtain ⟨oc,od,kV,doc,pm,an,cdv,ct,osl,rfl,lk,hcd⟩:=F.ex;refine C7 lk hcd S (λvs H Q E h=>?_) λA outer s H vs Q E hr h=>?_
 ·obtain ⟨ρ,h,ds,Q',E',R,rr,w,kk,kx⟩:=h;erw[Z.au,hi]at w;rw[<-rr.length,hp];exact w.1
 ·obtain ⟨ρ,h,ds,Q',E',R,rr,w,kk,kx⟩:=h;erw[Z.au,hi]at w;refine xQ (sub:=sub) (Γ:=Z.au sub Pg k) (E:=E') (df:=df) rfl hN w.1 (J cdv A outer s H E E' hr ?_) R rr w.2 kk;intro pins σ H1 s1 ea C xr aA h1 cn I x R1 hc he;exact RT I x (kx cn C xr h1 aA H1 R1 hc he)
theorem Oj {X:Cx}{k:Nat}{fI C:Addr}{fd:FuncData}{x qual:Str}{st:Stmt}{p1 p2 p3 p4:Pos}(F:rn X.K x qual st fI fd)(S:aM ["self","row"] ["self","row"] (aw st))(hb:bG st=[.Assign [.Attribute (.Name "self" p1) "row" p2] (.Name "row" p3) p4])(v1:vZ (aw st) "self")(v2:vZ (aw st) "row")(hs:∀env:Env,env.scope=aw st->swapsWith (.Name "row" p3) (some (.Attribute (.Name "self" p1) "row" p2)) p4.line env=pure false)(ex:B3 X.K fI C)(fn:isFn X.K (.ref fI)=true)(bi:Binds X.K fd ["self","row"] [])(kp:keepIn X.K (.ref C)=true):zq X (k+1) fI fd C:=
 ⟨ex,fn,Kr F S hb v1 v2 hs,bi,kp⟩
section
variable {X:Cx}{sub:Nat->Nat->Bool}{Γ:Z.bS}{E:Z.PX}
theorem Ol:bu X (compareOp .NotIn) (λx y=>rP X.K sub .xB [x,y]):=oz zW (by
 rintro x y H Q ⟨ρ,h,ds,d,h',R,rs,hp,k⟩;obtain ⟨d1,d2,rfl,r1,r2⟩:=eE rs;cases d1 with
 | str a=>
  cases d2 with
  | str b=>
   erw[Z.um,Z.uh,Option.some.injEq,Prod.mk.injEq]at hp;obtain ⟨rfl,rfl⟩:=hp;erw[ah]at r1 r2;obtain ⟨rfl,_⟩:=r1;obtain ⟨rfl,_⟩:=r2;exact ⟨_,_,rfl,rfl,k ρ H _ .refl R (by erw[ah];rw[BZ])⟩
  | _=>simp[Z.um,Z.uh]at hp
 | _=>simp[Z.um,Z.uh]at hp)
theorem Hw:∀ds h d h',Z.prim sub .xB ds h=some (d,h')->∃c,d=.bl c:=by
 intro ds h d h' q;erw[Z.um]at q;unfold Z.uh at q;split at q
 ·erw[Option.some.injEq,Prod.mk.injEq]at q;exact ⟨_,q.1.symm⟩
 ·cases q
def Om (K:Frag)(a:Addr)(n:Nat):It:=
 ⟨λi H=>∃xs x,eN K H a xs/\xs.length=n/\i < n/\xs[n - 1 - i]?=some x,λi H x H'=>H'=H/\∀xs,eN K H a xs->xs[n - 1 - i]?=some x,λi H=>n<=i⟩
theorem Hx {P:Program}{w:World}{K:Frag}{tg:Expr}(a it:Addr)(n:Nat):Turn P w K tg (Om K a n) [it] it (λi h=>i<=n/\h.IsRevIter it a ((n:Int) - 1 - i)) where
 mem:=by simp
 obj:=λi h st b hb=>by
  have e:b=it:=by simpa using hb
  subst e;obtain ⟨_,o,e,c,d⟩:=st;exact ⟨o,e,λv z=>by rw[d]at z;cases z⟩
 keep:=λi h h' st k=>⟨st.1,st.2.at λo e=>k it (by simp) o e⟩
 item:=by
  intro X hP hw hK hc i pins s σ H E I hf st hg;subst hP hw hK;obtain ⟨xs,x,hq,hlen,hi,hx⟩:=hg;obtain ⟨its,rv,p,hz⟩:=I.list hq;obtain ⟨u,hu,ru⟩:=rv.get hx;obtain ⟨f0,f1,f2,f3,f4,f5⟩:=hf it (by simp);have st2:s.heap.IsRevIter it a ((n - 1 - i:Nat):Int):=by
   have e:((n - 1 - i:Nat):Int)=(n:Int) - 1 - i:=by lia
   rw[e];exact st.2
  refine wpAny_pyNext_rev_item st2 p.isList (x:=u) (by simpa using hu) λh' st' sb=>?_;have I1:Inv X pins σ H {s with heap:=h'}:=I.turned (t':=s.toks) (λb o hb e=>(sb.2 b hb).trans e) f0 f1 f3 f4 f5;have st3:h'.IsRevIter it a ((n:Int) - 1 - ((i+1:Nat):Int)):=by
   have e:(n:Int) - 1 - ((i+1:Nat):Int)=((n - 1 - i:Nat):Int) - 1:=by lia
   rw[e];exact st'
  obtain ⟨o,e,c,d⟩:=id st';exact ⟨u,rfl,uv (s:={s with heap:=h'}) e c d (by decide) ⟨x,H,I1,ru,⟨rfl,λys hy=>by rw[I.vz hy hq];exact hx⟩,⟨hi,st3⟩,λb hb=>(hf b hb).1⟩⟩
 done:=by
  intro X hP hw hK hc i pins s σ H E I hf st hg;subst hP hw hK;obtain ⟨f0,f1,f2,f3,f4,f5⟩:=hf it (by simp);have hg:n<=i:=hg;have st2:s.heap.IsRevIter it a (-1):=by
   have e:(-1:Int)=(n:Int) - 1 - i:=by have:=st.1;lia
   rw[e];exact st.2
  exact wpAny_pyNext_rev_end (I.ok.hd hc) st2 λh' eb=>⟨rfl,I.turned (t':=s.toks) (λb o hb e=>eb b o hb e) f0 f1 f3 f4 f5⟩
 self:=λ_ _ _ _ _ st h=>wpAny_pyIter_revIter st.2 h
theorem Hy {K:Frag}{ρ:List Addr}{H:Hp}{n len:Nat}{a:Addr}(hn:ρ[n]?=some a):vI K ρ H (Z.vY n len) (Om K a len):=by
 intro i aA h1 H1 e1 R1;have hn1:=e1.pre _ _ hn;unfold Z.vY;cases e:h1[n]? with
 | none=>trivial
 | some o=>
  cases o with
  | lst xs=>
   obtain ⟨b,eb,ys,e2,rs⟩:=R1.at_ n _ e;rw[hn1]at eb;cases eb;dsimp only;by_cases hl:xs.length=len
   ·rw[if_pos hl];by_cases hi:i < len
    ·rw[if_pos hi];cases q:xs[len - 1 - i]? with
     | none=>have:=List.getElem?_eq_none_iff.mp q;lia
     | some d=>
      obtain ⟨y,q1,q2⟩:=rs.get q;refine ⟨⟨ys,y,.of e2,by rw[<-rs.length,hl],hi,q1⟩,λx H' hy=>?_⟩;obtain ⟨eH,hy⟩:=hy;have:=hy ys (.of e2);rw[q1]at this;cases this;exact iB R1 eH q2
    ·rw[if_neg hi];exact le_of_not_lt hi
   ·rw[if_neg hl];trivial
  | _=>trivial
theorem Kx {tg a:Expr}{a':Z.Ex}{p pos:Pos}(hg:Gl X "reversed")(hm:X.mg "reversed"=none)(ha:LA X sub Γ E [a] (.cons a' .nil))(hs:starEach [a] X.env=(false,eval a X.env)::starEach [] X.env:=by rfl)(hpl:(backTo pos (starEach [] X.env)).any (·.1)=false:=by rfl):
  LI X sub Γ E tg (.Call (.Name "reversed" p) [a] [] pos) .rev (.cons a' .nil):=by
 intro pins s σ H Rr I ⟨ρ,h,τ,Q',R,L,w,k⟩;have up:GU X.K (Z.aW sub Γ E (.cons a' .nil)) σ H (λvs H1=>∃(l:Addr) (ys:List V),vs=[.ref l]/\H1 l=some (.lst ys)/\Rr (Om X.K l ys.length) H1):=by
  refine ⟨ρ,h,τ,λds h1=>match ds with | [x]=>Q' [x] h1 | _=>False,R,L,(by simpa only[Z.aW] using w),λds h1 aA H1 vs e1 R1 r1 q=>?_⟩;obtain ⟨x,rfl⟩:∃x,ds=[x]:=by
   match ds,q with
   | [x],_=>exact ⟨x,rfl⟩
  obtain ⟨J,eJ,hk⟩:=k _ h1 aA H1 vs e1 R1 r1 q;cases x with
  | ref n=>
   erw[Z.bz,Z.gR]at eJ;cases eo:h1[n]? with
   | none=>rw[eo]at eJ;cases eJ
   | some o=>
    cases o with
    | lst xs=>
     rw[eo]at eJ;cases eJ;obtain ⟨b,eb,ys,e2,rs⟩:=R1.at_ n _ eo;erw[ak,ah]at r1;obtain ⟨_,_,rfl,⟨c,rfl,q1⟩,rfl⟩:=r1;rw[q1]at eb;cases eb;exact ⟨b,ys,rfl,e2,rs.length ▸ hk _ (Hy q1)⟩
    | _=>rw[eo]at eJ;cases eJ
  | _=>cases eJ
 refine Call_ (mO I hg hm vh (PyProof.Rows.callWith_type1 (aS (ha pos pins s σ H _ I up) λus s1 ⟨vs,H1,I1,r1,l,ys,ev,hl,q⟩=>?_) hs hpl));subst ev;obtain ⟨u,rfl,ru⟩:=vals1 r1;cases ru;obtain ⟨its,vv,pl,_⟩:=I1.list (.of hl);refine call_reversed_list pl.isList ?_;have e:((its.toArray.size:Nat):Int) - 1=(ys.length:Int) - 1 - ((0:Nat):Int):=by rw[vv.length];simp
 rw[e];have I2:Inv X pins σ H1 {s1 with heap:=s1.heap.push (revObj l ((ys.length:Int) - 1 - ((0:Nat):Int))),toks:=s1.toks}:=I1.kept λb o e=>get?_push_of_some _ e;have hit:(s1.heap.push (revObj l ((ys.length:Int) - 1 - ((0:Nat):Int)))).IsRevIter s1.heap.objs.size l ((ys.length:Int) - 1 - ((0:Nat):Int)):=⟨_,get?_push_size _ rfl,rfl,rfl⟩
 refine wpAny_pyIter_revIter (s:={s1 with heap:=s1.heap.push (revObj l ((ys.length:Int) - 1 - ((0:Nat):Int)))}) hit ?_;refine ⟨s1.heap.objs.size,[s1.heap.objs.size],_,_,H1,rfl,I2,Hx l _ ys.length,⟨zero_le _,hit⟩,λb hb=>?_,q⟩;have e:b=s1.heap.objs.size:=by simpa using hb
 subst e;exact I1.vB (le_refl _) (I1.hok.fresh (le_refl _))
end
end ZS
namespace ZS
open PySem PySem.Spec PyProof.Rows L2
structure FF (K:Frag)(mg:Str->Option Value)(x:Str)(st:Stmt)(f:Addr)(e:FuncData)(ps:List Str):Prop where
 u:rn K x x st f e
 g:Binds K e ps []
 m:mg x=some (.ref f)
 k:keepIn K (.ref f)=true
def FQ (K:Frag)(x:Str)(st:Stmt)(f:Addr):Prop:=nsIn K mainGlobals x=some (some (.ref f))/\∃e,rn K x x st f e
abbrev Fp (x:Str)(st:Stmt)(kV doc pm:Value)(an:Option Addr)(cdv ct:Value):FuncData:=fnOf x x (cH st) (bG st) (aw st) .none kV doc pm an cdv ct
section
variable {K:Frag}{h:Heap}{mg:Str->Option Value}{x:Str}{st:Stmt}{f:Addr}{e:FuncData}
theorem RY {oc:Value}{od an:Option Addr}{osl:Array (Option Value)}{kV doc pm cdv ct:Value}(a:nsIn K mainGlobals x=some (some (.ref f)))(l:K.lookup f=some ⟨oc,od,.func (fnOf x x (cH st) (bG st) (aw st) .none kV doc pm an cdv ct),osl⟩)(c:codeIn K cdv x=true)(k:keepIn K (.ref f)=true):FQ K x st f:=⟨a,_,EG l c k⟩
theorem Dw (X:K.In h)(G:h.Ns mainGlobals mg)(q:FQ K x st f)(hb:∀(kV doc pm:Value) (an:Option Addr) (cdv ct:Value) (us:List Value),us.length=ps.length->bindArgs (Fp x st kV doc pm an cdv ct) ⟨us,[]⟩=pure (ps.zip us)):∃e,FF K mg x st f e ps:=
 let ⟨a,e,F⟩:=q
 ⟨e,F,F.binds hb,mg_of X G a,F.kp⟩
variable [R0]
theorem m4 (X:K.In h)(G:h.Ns mainGlobals mg)(q:FQ K x st f)(a:Str)(hb:∀{kV doc pm:Value} {an:Option Addr} {cdv ct u:Value},bindArgs (Fp x st kV doc pm an cdv ct) ⟨[u],[]⟩=pure [(a,u)]):∃e,FF K mg x st f e [a]:=
 Dw X G q λ_ _ _ _ _ _ _ hl=>N2 hl λ_=>hb
theorem vn (X:K.In h)(G:h.Ns mainGlobals mg)(q:FQ K x st f)(a b:Str)(hb:∀{kV doc pm:Value} {an:Option Addr} {cdv ct u v:Value},bindArgs (Fp x st kV doc pm an cdv ct) ⟨[u,v],[]⟩=pure [(a,u),(b,v)]):∃e,FF K mg x st f e [a,b]:=
 Dw X G q λ_ _ _ _ _ _ _ hl=>IG hl λ_ _=>hb
theorem Oo (X:K.In h)(G:h.Ns mainGlobals mg)(q:FQ K x st f)(a b c:Str)(hb:∀{kV doc pm:Value} {an:Option Addr} {cdv ct u v w:Value},bindArgs (Fp x st kV doc pm an cdv ct) ⟨[u,v,w],[]⟩=pure [(a,u),(b,v),(c,w)]):∃e,FF K mg x st f e [a,b,c]:=
 Dw X G q λ_ _ _ _ _ _ _ hl=>Y7 hl λ_ _ _=>hb
theorem RZ (F:FF K mg x st f e ps)(hb:∀{kV doc pm:Value} {an:Option Addr} {cdv ct:Value},bindArgs (Fp x st kV doc pm an cdv ct) ⟨us,[]⟩=pure l):BindsTo s e ⟨us,[]⟩ l:=by
 obtain ⟨oc,od,kV,doc,pm,an,cdv,ct,osl,rfl,lk,hcd⟩:=F.u.ex;exact .of_eq hb
end
structure XQ (K:Frag)(fI C:Addr):Prop where
 k:keepIn K (.ref C)=true
 S:xT K C=true
 V:Av K C=true
 sa:PySem.W.findIn K (.ref C) "__setattr__"=some (some (.builtin "object.__setattr__"))
 na:PySem.W.findIn K (.ref C) "row"=some none
 ii:PySem.W.findIn K (.ref C) "__init__"=some (some (.ref fI))
 xg:PySem.W.findIn K (.ref C) "__getattribute__"=some (some (.builtin "BaseException.__getattribute__"))
 xh:PySem.W.findIn K (.ref C) "__getattr__"=some none
 xl:PySem.W.findIn K (.ref C) "__class__"=some (some (.builtin "object.__class__"))
 xo:PySem.W.mroIn K C (.type "object")=some true
 xb:PySem.W.mroIn K C (.type "BaseException")=some true
 s:PySem.W.mroIn K C (.ref C)=some true
 y:typeIn K (.ref C)=some (.type "type")
section
variable [R0]{K:Frag}{fI C D:Addr}{b:Bool}
theorem XQ.r (q:XQ K fI C):B3 K fI C:=⟨q.S,q.V,q.sa,q.na,q.ii⟩
theorem XQ.e (q:XQ K fI C):oW K C:=⟨q.xg,q.xh,q.xl,q.xo,q.xb⟩
theorem XQ.w (q:XQ K fI C):Ds K C:=⟨q.e,q.V,q.na⟩
theorem XQ.o (q:XQ K fI C)(h:PySem.W.mroIn K D (.ref C)=some b):kitOne K (.ref D) (.ref C)=some b:=aX h q.s q.y
theorem XQ.c (q:XQ K fI C)(h:PySem.W.mroIn K D (.ref C)=some b):exmOne K (.ref D) (.ref C)=some b:=NZ q.xb h q.s q.y
end
def Vl (N P:List Str)(sc:Scope):Bool:=(match sc.kind with | .function=>true | _=>false) && !sc.isCoroutine && !sc.isGenerator && decide N.Nodup && decide (N.take P.length=P) && decide (∀x∈P,sc.names.lookup x=some .local\/sc.names.lookup x=some .cell) && decide (∀y∈sc.names,y.2≠.free)
theorem bH (h:Vl N P sc=true:=by decide+kernel):aM N P sc:=by
 erw[Vl,and_eq_true,decide_eq_true_eq,not_eq_true']at h;obtain ⟨⟨⟨⟨⟨⟨h1,h2⟩,h3⟩,h4⟩,h5⟩,h6⟩,h7⟩:=h;refine ⟨?_,h2,h3,h4,h5,h6,h7⟩;revert h1;cases sc.kind<;>simp
section
variable [R0]{X:Cx}{sub:Nat->Nat->Bool}{Γ:Z.bS}{E:Z.PX}
theorem bJ {k i:Nat}{f:Addr}{st:Stmt}{fd:FuncData}{ps:List Str}{x:Str}{e:Expr}{es:List Expr}{es':Z.cV}{p pos:Pos}(hr:bN k X.A)(F:aH X.prog X.w X.K X.mg X.base aY k f fd ps (aN X.K Γ i))(q:FF X.K X.mg x st f fd ps)(ha:LA X sub Γ E (e::es) es')(hg:Gl X x:=by rfl)(hdb:bM x:=by decide)(he:dn X.env e es:=by rfl)(hpl:iy X.env es pos:=by rfl):
  LE X sub Γ E (.Call (.Name x p) (e::es) [] pos) (.call i es' []):=RP hr F q.m q.k q.g ha hg hdb he hpl
theorem zt (h:s=⟨l.toArray⟩:=by decide+kernel)(hl:l.length<=Z.lim:=by decide+kernel):LE X sub Γ E (.Constant (.str s) k pos) (.lit (.str l)):=zs h hl
end
end ZS
namespace Z
section
variable {sub:Nat->Nat->Bool}{Γ:bS}{E:PX}{K:En}{σ:Lo}{h:AH}{Q:PV}
theorem R5 {i:Nat}:aF sub Γ E (.var i) σ h Q=(match σ[i]? with | some (some v)=>Q v h | _=>False):=rfl
theorem R7 {d:D}:aF sub Γ E (.lit d) σ h Q=Q d h:=rfl
theorem Oq {p:Prim}{es:cV}:aF sub Γ E (.prim p es) σ h Q=aW sub Γ E es σ h (λvs h1=>match prim sub p vs h1 with | some (v,h2)=>Q v h2 | none=>False):=rfl
theorem Ot {a b:Ex}:aF sub Γ E (.mF a b) σ h Q=aF sub Γ E a σ h (λx h1=>match x with | .bl true=>aF sub Γ E b σ h1 Q | .bl false=>Q (.bl false) h1 | _=>False):=rfl
theorem R8 {c:Tx}{a b:Ex}:aF sub Γ E (.ite c a b) σ h Q=bR sub Γ E c σ h (λk h1=>if k=true then aF sub Γ E a σ h1 Q else aF sub Γ E b σ h1 Q):=rfl
theorem Ou {f:Nat}{es:cV}{ds:List D}:aF sub Γ E (.call f es ds) σ h Q=aW sub Γ E es σ h (λvs h1=>Γ f (vs++ds) h1 Q (EF E)):=rfl
theorem R9 {a b c:Ex}:aF sub Γ E (.slc a b c) σ h Q=aF sub Γ E a σ h (λx h1=>aF sub Γ E b σ h1 λy h2=>match y with
  | .int i=>aF sub Γ E c σ h2 λz h3=>match z with
   | .int j=>match cu x (some i) (some j) h3 with
    | some (v,h4)=>Q v h4
    | none=>False
   | _=>False
  | _=>False):=rfl
theorem R_ {k:MK}{p:Prim}{o:Ex}{es:cV}:aF sub Γ E (.cW k p o es) σ h Q=aF sub Γ E o σ h (λx h1=>tyB h1 k x=true/\aW sub Γ E es σ h1 λvs h2=>match prim sub p (x::vs) h2 with
  | some (v,h3)=>Q v h3
  | none=>False):=rfl
theorem Sd {Q:List D->AH->Prop}:aW sub Γ E .nil σ h Q=Q [] h:=rfl
theorem Ov {e:Ex}{es:cV}{Q:List D->AH->Prop}:aW sub Γ E (.cons e es) σ h Q=aF sub Γ E e σ h (λv h1=>aW sub Γ E es σ h1 λvs h2=>Q (v::vs) h2):=rfl
theorem Sg {e:Ex}{Q:Bool->AH->Prop}:bR sub Γ E (.yC e) σ h Q=aF sub Γ E e σ h (λv h1=>match truthy h1 v with | some c=>Q c h1 | none=>False):=rfl
theorem Sh {a b:Tx}{Q:Bool->AH->Prop}:bR sub Γ E (.and a b) σ h Q=bR sub Γ E a σ h (λc h1=>if c=true then bR sub Γ E b σ h1 Q else Q false h1):=rfl
theorem Xu {a b:Tx}{Q:Bool->AH->Prop}:bR sub Γ E (.or a b) σ h Q=bR sub Γ E a σ h (λc h1=>if c=true then Q true h1 else bR sub Γ E b σ h1 Q):=rfl
theorem Si {a:Tx}{Q:Bool->AH->Prop}:bR sub Γ E (.not a) σ h Q=bR sub Γ E a σ h (λc h1=>Q (!c) h1):=rfl
theorem Ow {Q:Bool->AH->Prop}:kS sub Γ E .none σ h Q=Q true h:=rfl
theorem Sq {t:Tx}{Q:Bool->AH->Prop}:kS sub Γ E (.one t) σ h Q=bR sub Γ E t σ h Q:=rfl
theorem Ox {e:Ex}:wpS sub Γ E (.expr e) K σ h=aF sub Γ E e σ h (λ_ h1=>K.nx σ h1):=rfl
theorem Sr {i:Nat}{e:Ex}:wpS sub Γ E (.asg i e) K σ h=aF sub Γ E e σ h (λv h1=>K.nx (σ.set i (some v)) h1):=rfl
theorem Ss {is:List Nat}{e:Ex}:wpS sub Γ E (.Ec is e) K σ h=aF sub Γ E e σ h (λv h1=>match fV is v σ with | some σ'=>K.nx σ' h1 | none=>False):=rfl
theorem Oy {o i v:Ex}:wpS sub Γ E (.fC o i v) K σ h=aF sub Γ E v σ h (λx h1=>aF sub Γ E o σ h1 λy h2=>aF sub Γ E i σ h2 λz h3=>match prim sub .fC [y,z,x] h3 with
  | some (_,h4)=>K.nx σ h4
  | none=>False):=rfl
theorem Sv {e:Ex}:wpS sub Γ E (.ret e) K σ h=aF sub Γ E e σ h K.rt:=rfl
theorem Sw {c:Tx}{a b:ao}:wpS sub Γ E (.bC c a b) K σ h=bR sub Γ E c σ h (λk h1=>if k=true then aZ sub Γ E a K σ h1 else aZ sub Γ E b K σ h1):=rfl
theorem Oz:aZ sub Γ E .nil K σ h=K.nx σ h:=rfl
theorem eZ:aZ sub Γ E (.cons s ss) K σ h=wpS sub Γ E s {K with nx:=λσ' h'=>aZ sub Γ E ss K σ' h'} σ h:=rfl
section
variable {i j:Int}{s t:S}{x y v:D}{xs ys:List D}{a b n:Nat}{p q:Bool}
theorem OA:prim sub .idx [.tup xs,.int i] h=(bx xs i).map λv=>(v,h):=rfl
theorem OB:prim sub .idx [.bV xs,.int i] h=(bx xs i).map λv=>(v,h):=rfl
theorem OC:prim sub .idx [.str s,.int i] h=(bx s i).map λc=>(.str [c],h):=rfl
theorem aE (ha:h[a]?=some (.lst xs)):prim sub .idx [.ref a,.int i] h=(bx xs i).map λv=>(v,h):=by
 show (match h[a]? with | some (.dct kvs)=>_ | some (.lst xs)=>(bx xs i).map λv=>(v,h) | _=>none)=_;rw[ha]
theorem OD:prim sub .add [.str s,.str t] h=if s.length+t.length<=16777216 then some (.str (s++t),h) else none:=rfl
theorem OG:prim sub .Ea [.str s,.int i] h=some (.str (cut s none (some i)),h):=rfl
theorem OH:prim sub .zF [.str s,.int i] h=some (.str (cut s (some i) none),h):=rfl
theorem Xv:prim sub .eq [x,y] h=(ju h x y).map λb=>(.bl (b != false),h):=rfl
theorem Xw:prim sub .ne [x,y] h=(ju h x y).map λb=>(.bl (b != true),h):=rfl
theorem IV:prim sub (.gK k) [x] h=(CQ h sub k x).map λb=>(.bl b,h):=rfl
theorem OI:prim sub .len [.bV xs] h=some (.int xs.length,h):=rfl
theorem OJ:prim sub .len [.tup xs] h=some (.int xs.length,h):=rfl
theorem OM:prim sub .len [.str s] h=some (.int s.length,h):=rfl
theorem OO:prim sub .D_ [x,.tup ys] h=(cj x ys).map λb=>(.bl (b != false),h):=by cases x<;>rfl
theorem Fq (ha:h[a]?=some (.lst ys)):prim sub .kQ [x,.ref a] h=(cj x ys).map λb=>(.bl (b != true),h):=by
 show yB true [x,.ref a] h=_;unfold yB;erw[ha]
theorem Sx:prim sub .cA xs h=if xs.length<=16777216 then some (.tup xs,h) else none:=rfl
theorem Sy:prim sub .aR xs h=if xs.length<=16777216 then some (.ref h.length,h++[.lst xs]) else none:=rfl
theorem dC:prim sub .kP [.non] h=some (.bl true,h):=rfl
theorem OQ:prim sub .kP [.int i] h=some (.bl false,h):=rfl
theorem OT:prim sub .CN [.bl p] h=some (.bl (!p),h):=rfl
theorem Xx:truthy h (.bl p)=some p:=rfl
theorem Sz:truthy h (.int i)=some (i != 0):=rfl
theorem uE (ha:h[a]?=some (.lst xs)):truthy h (.ref a)=some (!xs.isEmpty):=by erw[truthy,ha]
theorem bT (ha:h[a]?=some (.lst xs)):tyB h .list (.ref a)=true:=by erw[tyB,ha]
theorem SA:tyB h .str (.str s)=true:=rfl
theorem SD:tyB h .int (.int i)=true:=rfl
theorem SE:tyB h .tuple (.tup xs)=true:=rfl
end
theorem SG {i j:Nat}{x y:D}:fV [i,j] (.tup [x,y]) σ=some ((σ.set i (some x)).set j (some y)):=rfl
theorem wp_call (hf:P[f]?=some df)(hv:vs.length=df.np)(w:aZ sub (au sub P d) E df.body {nx:=λ_ h=>Q .non h,rt:=Q} (vs.map some++replicate (df.nl - df.np) none) h):au sub P (d+1) f vs h Q E:=by
 erw[au,hf];exact ⟨hv,w⟩
end
theorem m5 {α:Type}{xs:List α}{n:Nat}:bx xs (n:Int)=xs[n]?:=by
 unfold bx gP;by_cases hn:n < xs.length
 ·rw[if_pos (Int.natCast_nonneg n),if_pos (by lia)];simp
 ·rw[if_pos (Int.natCast_nonneg n),if_neg (by lia),getElem?_eq_none (by lia)];rfl
theorem dW {α:Type}{xs:List α}{i:Int}(h0:0<=i):bx xs i=xs[i.toNat]?:=by
 obtain ⟨n,rfl⟩:=Int.eq_ofNat_of_zero_le h0;rw[toNat_natCast];exact m5
theorem rS {α:Type}{xs:List α}:bx xs (-1)=xs.getLast?:=by
 unfold bx gP;rw[if_neg (by decide)];cases xs with
 | nil=>rfl
 | cons x r=>
  rw[if_pos (by simp;lia)];erw[bind_some,List.getLast?_eq_getElem?];congr 1;simp;lia
def rl (n:Nat)(f:Nat->Int):List D:=(List.range n).map λk=>.int (f k)
theorem OU:(rl n f).length=n:=by simp[rl]
theorem Ky:rl n f++[.int (f n)]=rl (n+1) f:=by simp[rl,List.range_succ]
theorem SH {n:Nat}{f:Nat->Int}{i:Nat}(h:i < n):(rl n f)[i]?=some (.int (f i)):=by simp[rl,h]
theorem Hz (h:∀k,k < n->f k=g k):rl n f=rl n g:=by
 unfold rl;refine List.map_congr_left λk hk=>?_;rw[h k (mem_range.mp hk)]
theorem wK (e:h1[a]?=some (.lst xs)):bz .val [.ref a] h1=some (dR a):=by erw[bz,iY,iu,iZ,i9,gR,e]
theorem az {h l:AH}{n:Nat}{o:AO}(e:h[n]?=some o):(h++l)[n]?=some o:=by
 rw[getElem?_append_left (List.getElem?_eq_some_iff.mp e).1];exact e
theorem aq:(h++[o])[h.length]?=some o:=by simp
theorem b6:(h++[o]).set h.length o'=h++[o']:=by simp
theorem get_set {h:AH}(e:h[n]?=some o):(h.set n o')[n]?=some o':=by
 rw[getElem?_set_self (List.getElem?_eq_some_iff.mp e).1]
theorem bL {h:AH}(e:h[n]?=some o)(hne:m≠n):(h.set m o')[n]?=some o:=by
 rw[getElem?_set_ne hne];exact e
theorem bg {n:Nat}{f:Nat->Int}{z:Int}(h0:0<=z)(h1:z < n):∃v:Int,bx (rl n f) z=some (.int v):=⟨f z.toNat,by rw[dW h0,SH (by lia)]⟩
theorem g9 {α:Type}{xs:List α}{z:Int}(h0:0<=z)(h1:z < xs.length):∃v,v∈xs/\bx xs z=some v:=by
 have hl:z.toNat < xs.length:=by lia
 exact ⟨xs[z.toNat],getElem_mem _,by rw[dW h0,getElem?_eq_getElem hl]⟩
theorem jT {α:Type}{xs:List α}{lo hi:Option Int}:(cut xs lo hi).length<=xs.length:=by
 unfold cut;simp;lia
theorem aD {h h':AH}{n:Nat}{o:AO}(p:h<+:h')(e:h[n]?=some o):h'[n]?=some o:=by
 obtain ⟨l,rfl⟩:=p;exact az e
theorem pre_app (p:h<+:h'):h<+:h'++l:=p.trans (prefix_append _ _)
theorem jU (p:h<+:h')(hr:h.length<=r):h<+:h'.set r o:=by
 obtain ⟨l,rfl⟩:=p;rw[List.set_append_right _ _ hr];exact prefix_append _ _
theorem uF (p:h<+:h'):h.length<=h'.length:=p.length_le
theorem fe:h<+:h:=List.prefix_refl h
theorem j9 {h:AH}(e:h[n]?=some o):n < h.length:=(List.getElem?_eq_some_iff.mp e).1
theorem pre_of (p:h++l<+:h'):h<+:h':=(prefix_append h l).trans p
theorem Kz:oU n (.str x) (.str y)=some (x == y):=by cases n<;>rfl
theorem dO:∀{ss:List S},cj (.str x) (ss.map .str)=some (ss.contains x)
 | []=>rfl
 | y::r=>by
  erw[map_cons,cj,Kz,dO (ss:=r),contains_cons];have e:(y == x)=(x == y):=by rw[Bool.eq_iff_iff,beq_iff_eq,beq_iff_eq];exact eq_comm
  rw[e]
theorem xV (ea:h[a]?=some (.lst xs))(eb:h[b]?=some (.lst ys)):ju h (.ref a) (.ref b)=xu xs ys:=by erw[ju,ea,eb]
theorem KA {h:AH}{i j:Int}:ju h (.int i) (.int j)=some (i == j):=rfl
theorem KC {h:AH}{i j:S}:ju h (.str i) (.str j)=some (i == j):=rfl
inductive Sn where
 | is (n:S) | nt (a:Sn) | an (a b:Sn) | or (a b:Sn)
def sd:Sn->D
 | .is n=>.tup [.str (tx "is"),.str n]
 | .nt a=>.tup [.str (tx "not"),sd a]
 | .an a b=>.tup [.str (tx "and"),sd a,sd b]
 | .or a b=>.tup [.str (tx "or"),sd a,sd b]
def nm:Sn->List S
 | .is n=>[n]
 | .nt a=>nm a
 | .an a b=>nm a++nm b
 | .or a b=>nm a++nm b
def sz:Sn->Nat
 | .is _=>1
 | .nt a=>sz a+1
 | .an a b=>sz a+sz b+1
 | .or a b=>sz a+sz b+1
def kd (ks:List S):List (KK×D):=ks.map λk=>(.inr k,.bl true)
section
variable {sub:Nat->Nat->Bool}{h:AH}{a:Nat}{xs:List D}{v:D}
theorem uG (ha:h[a]?=some (.lst (xs++[v]))):prim sub .pop [.ref a] h=some (v,h.set a (.lst xs)):=by
 show (match h[a]? with | some (.lst xs)=>_ | _=>none)=_;rw[ha];simp
theorem OV {lo hi:Option Int}(hl:xs.length<=16777216):cu (.bV xs) lo hi h=some (.ref h.length,h++[.lst (cut xs lo hi)]):=if_pos (le_trans jT hl)
theorem xW {α:Type}{xs:List α}{v:α}(hv:v∈cut xs lo hi):v∈xs:=by
 unfold cut at hv;exact List.mem_of_mem_drop (List.mem_of_mem_take hv)
end
def dp:Sn->Nat
 | .is _=>1
 | .nt a=>dp a+1
 | .an a b=>max (dp a) (dp b)+1
 | .or a b=>max (dp a) (dp b)+1
end Z
set_option hygiene false in
local macro_rules
 | `(tactic| simp!)=>`(tactic| simp![])
 | `(tactic| simp![$ls,*])=>`(tactic| simp only[List.getElem?_cons_zero,getElem?_cons_succ,List.set_cons_zero,List.set_cons_succ,nil_append,append_nil,cons_append,map_cons,map_nil,Nat.sub_zero,map_some,Option.map_none,length_cons,length_nil,if_true,if_false,Bool.not_true,Bool.not_false,bne_false,bne_true,and_self,true_and,and_true,replicate_succ,List.replicate_zero,Z.R5,Z.R7,Z.Oq,Z.Ot,Z.R8,Z.Ou,Z.R9,Z.R_,Z.Sd,Z.Ov,Z.Sg,Z.Sh,Z.Xu,Z.Si,Z.Ow,Z.Sq,Z.Ox,Z.Sr,Z.Ss,Z.Oy,Z.Sv,Z.Sw,Z.Oz,Z.LZ,Z.OD,Z.OG,Z.OH,Z.L5,Z.Ra,Z.WC,Z.WD,Z.WG,Z.OA,Z.OB,Z.OC,Z.Xv,Z.Xw,Z.OI,Z.OJ,Z.OM,Z.OO,Z.Sx,Z.Sy,Z.dC,Z.OQ,Z.OT,Z.Xx,Z.Sz,Z.SA,Z.SD,Z.SE,Z.SG,Z.KA,Z.KC,Z.kT,Z.L7,Z.zP,Z.Bu,Z.eZ,reduceIte,false_eq_true,Int.reduceLT,Int.reduceLE,Nat.reduceLeDiff,Nat.reduceSub,$ls,*])
namespace Z
section
variable {sub:Nat->Nat->Bool}{P:List Def}{E:PX}{d:Nat}
theorem rT {n:Nat}{h:AH}(hn:n<=1000000):bz .rng [.int n] h=some (iL 0 n):=by
 have:okR (n:Int)=true:=mK.mpr (by lia);erw[bz,iY,iu,iZ,i9,gR,this,toNat_natCast];rfl
theorem SJ {Γ:bS}{b:ao}{K:En}{σ:Lo}{h:AH}(q:∀K',K'=K->aZ sub Γ E b K' σ h):aZ sub Γ E b K σ h:=q K rfl
end
end Z
namespace dq
open Z
section
variable {sub:Nat->Nat->Bool}{Γ:bS}{E:PX}{K:En}{σ:Lo}{h:AH}
def rcs:List S:=[(tx "RowError"),(tx "NoRow"),(tx "TooLong"),(tx "NoSentence"),(tx "Twice"),(tx "TooMany")]
def iN:List S:=[]
def iO:List S:=[(tx "RowError"),(tx "NoRow"),(tx "TooLong"),(tx "NoSentence"),(tx "Twice"),(tx "TooMany")]
def oH:List S:=[]
def oJ:List S:=[(tx "RowError"),(tx "NoRow"),(tx "TooLong"),(tx "NoSentence"),(tx "Twice"),(tx "TooMany")]
def jL:List S:=[]
def jM:List S:=[(tx "RowError"),(tx "NoRow"),(tx "TooLong"),(tx "NoSentence"),(tx "Twice"),(tx "TooMany")]
def k_:List S:=[]
def lg:List S:=[(tx "RowError"),(tx "NoRow"),(tx "TooLong"),(tx "NoSentence"),(tx "Twice"),(tx "TooMany")]
def jN:List S:=[]
def jO:List S:=[(tx "RowError"),(tx "NoRow"),(tx "TooLong"),(tx "NoSentence"),(tx "Twice"),(tx "TooMany")]
def iP:List S:=[(tx "TooMany")]
def iQ:List S:=[(tx "RowError"),(tx "NoRow"),(tx "TooLong"),(tx "NoSentence"),(tx "Twice")]
def g_:List S:=[(tx "RowError"),(tx "NoRow"),(tx "TooLong"),(tx "NoSentence"),(tx "Twice"),(tx "TooMany")]
def hU:List S:=[]
def fW:List S:=[(tx "RowError"),(tx "NoRow"),(tx "TooLong"),(tx "NoSentence"),(tx "Twice"),(tx "TooMany")]
def fX:List S:=[]
def lh:List S:=[(tx "NoRow")]
def lq:List S:=[(tx "RowError"),(tx "TooLong"),(tx "NoSentence"),(tx "Twice"),(tx "TooMany")]
def iR:List S:=[(tx "TooLong")]
def iS:List S:=[(tx "RowError"),(tx "NoRow"),(tx "NoSentence"),(tx "Twice"),(tx "TooMany")]
def fh:List S:=[(tx "NoSentence")]
def fj:List S:=[(tx "RowError"),(tx "NoRow"),(tx "TooLong"),(tx "Twice"),(tx "TooMany")]
def lu:List S:=[(tx "Twice")]
def ly:List S:=[(tx "RowError"),(tx "NoRow"),(tx "TooLong"),(tx "NoSentence"),(tx "TooMany")]
def fq:List S:=[(tx "RowError"),(tx "NoRow"),(tx "TooLong"),(tx "NoSentence"),(tx "Twice"),(tx "TooMany")]
def fu:List S:=[]
def hV:D:=(.int 120)
def vQ:D:=(.tup [(.str (tx "(")),(.str (tx ")")),(.str (tx " and ")),(.str (tx " or ")),(.str (tx "not "))])
def rW:D:=(.str (tx "abcdefghijklmnopqrstuvwxyz"))
def j_:D:=(.tup [(.str (tx "always")),(.str (tx "where")),(.str (tx "usually")),(.str (tx "not")),(.str (tx "and")),(.str (tx "or"))])
def dD:D:=(.int 12)
def Az:D:=(.tup [(.str (tx "not")),(.str (tx "and")),(.str (tx "or"))])
def bK:List (S×D):=[((tx "and"),(.tup [(.str (tx "not")),(.str (tx "and"))])),((tx "or"),(.tup [(.str (tx "not")),(.str (tx "and")),(.str (tx "or"))])),((tx ")"),(.tup [(.str (tx "not")),(.str (tx "and")),(.str (tx "or"))]))]
section
set_option hygiene false in
local macro_rules
 | `(#[$a,*])=>do
  let mut r <-`(cV.nil)
  for x in a.getElems.reverse do r <-`(cV.cons $x $r)
  return r
 | `($a :: $b)=>`(ao.cons $a $b)
 | `($c:char)=>`(Ex.var $(Lean.quote (c.getChar.toNat - 97)))
 | `(-$n)=>`(Ex.lit (.int $n))
 | `(s!$x)=>`(Ex.lit (.str (tx $(Lean.quote (x.raw[0].isInterpolatedStrLit?.getD "")))))
 | `(!$a)=>`(Tx.yC $a)
 | `($a[$b])=>`(Ex.prim .idx (.cons $a (.cons $b .nil)))
 | `(↑$a)=>`(Ex.prim .len (.cons $a .nil))
 | `($a+$b)=>`(Ex.prim .add (.cons $a (.cons $b .nil)))
 | `($a - $b)=>`(Ex.prim .sub (.cons $a (.cons $b .nil)))
 | `($a * $b)=>`(Ex.prim .mul (.cons $a (.cons $b .nil)))
 | `($a % $b)=>`(Ex.prim .mod (.cons $a (.cons $b .nil)))
 | `($a / $b)=>`(Ex.prim .fdiv (.cons $a (.cons $b .nil)))
 | `($a == $b)=>`(Ex.prim .eq (.cons $a (.cons $b .nil)))
 | `($a != $b)=>`(Ex.prim .ne (.cons $a (.cons $b .nil)))
 | `($a < $b)=>`(Ex.prim .lt (.cons $a (.cons $b .nil)))
 | `($a<=$b)=>`(Ex.prim .le (.cons $a (.cons $b .nil)))
 | `($a > $b)=>`(Ex.prim .gt (.cons $a (.cons $b .nil)))
 | `($a ≥ $b)=>`(Ex.prim .ge (.cons $a (.cons $b .nil)))
 | `($a∈$b)=>`(Ex.prim .D_ (.cons $a (.cons $b .nil)))
 | `($a∉$b)=>`(Ex.prim .kQ (.cons $a (.cons $b .nil)))
 | `($a ^ $b)=>`(Ex.prim .pow (.cons $a (.cons $b .nil)))
def jv:ao:=.ret 'd'::.nil
def fK:ao:=.nX (tx "NoSentence") 'b'::.nil
def dh:ao:=.bC (!(.prim .kP #['d'])) fK .nil::jv
def fL:ao:=.asg 3 (.ite (!(.prim .kP #['c'])) (.lit .non) (.call 5 #['c'] []))::dh
def jw:ao:=.asg 2 (.call 1 #['a'] [])::fL
def jx:ao:=.nX (tx "TooLong") 'b'::.nil
def fM:ao:=.bC (!(↑'a' > (.lit hV))) jx .nil::jw
abbrev wL:ao:=fM
def oY:ao:=.ret 'b'::.nil
def oZ:ao:=.asg 2 ('c' - (.prim .neg #[↑'d']))::.nil
def o3:ao:=.expr (.cW .list .append 'b' #[.cW .str .strip 'd' #[s!" "]])::oZ
def o4:ao:=.ret (.lit .non)::.nil
def ji:ao:=.bC (!(.prim .kP #['d'])) o4 .nil::o3
def o5:ao:=.asg 3 (.call 2 #['a','c'] [])::ji
def o6:ao:=.qR (!('c' < ↑'a')) o5::oY
def o7:ao:=.asg 2 (-0)::o6
def o8:ao:=.asg 1 (.prim .aR .nil)::o7
abbrev Bg:ao:=o8
def rX:ao:=.ret (.ite (!(.call 4 #['d'] [])) 'd' (.lit .non))::.nil
def rY:ao:=.asg 3 (.slc 'a' 'b' (.call 3 #['a','b'] []))::rX
def rZ:ao:=.ret 'c'::.nil
def si:ao:=.bC (!(.cW .str .mJ 'a' #['c','b'])) rZ .nil::.nil
def sj:ao:=.cz [2] .val #[.lit vQ] si::rY
abbrev Dy:ao:=sj
def kc:ao:=.ret 'b'::.nil
def sq:ao:=.asg 1 ('b' - (.prim .neg #[-1]))::.nil
def su:ao:=.qR (.and (!('b' < ↑'a')) (!(.prim .yA #['a'['b'],.lit rW]))) sq::kc
abbrev Dz:ao:=su
def iU:ao:=.ret (.mF (.chain .le .le (-1) ↑'a' (.lit dD)) ('a'∉(.lit j_)))::.nil
abbrev Ft:ao:=iU
def gD:ao:=.ret (.ite (!'b') (.lit .non) 'c')::.nil
def kg:ao:=.asg 2 (.call 6 #['b','c',.lit Az] [])::gD
def kh:ao:=.ret (.lit .non)::.nil
def gE:ao:=.bC (!(.prim .kP #['c'])) kh .nil::kg
def kj:ao:=.expr (.cW .list .pop 'b' .nil)::.nil
def kl:ao:=.ret (.lit .non)::.nil
def gF:ao:=.bC (.not (!'b')) kl .nil::kj
def gG:ao:=.asg 2 (.lit .non)::.nil
def gH:ao:=.expr (.cW .list .append 'b' #[.prim .cA #['d','c']])::gG
def fN:ao:=.expr (.cW .list .append 'b' #[.prim .cA #['d']])::.nil
def jy:ao:=.asg 2 (.prim .cA #[s!"is",'d'])::.nil
def dj:ao:=.bC (.or (!('d' == s!"(")) (!('d' == s!"not"))) fN jy::.nil
def b7:ao:=.bC (!'e') gH dj::.nil
def bF:ao:=.bC (!('d' == s!")")) gF b7::.nil
def dk:ao:=.asg 2 (.call 6 #['b','c',.prim (.mD bK) #['d']] [])::.nil
def bO:ao:=.bC (!'e') dk .nil::bF
def bP:ao:=.ret (.lit .non)::.nil
def aT:ao:=.bC (!('e' == (.prim .kP #['c']))) bP .nil::bO
def aP:ao:=.asg 4 (.prim (.kR bK) #['d'])::aT
def jz:ao:=.cz [3] .val #['a'] aP::gE
def jA:ao:=.asg 2 (.lit .non)::jz
def jB:ao:=.asg 1 (.prim .aR .nil)::jA
abbrev xX:ao:=jB
def sx:ao:=.ret 'b'::.nil
def yV:ao:=.asg 1 ((.cW .list .pop 'a' .nil)+(.prim .cA #['b']))::.nil
def yW:ao:=.qR (.and (!'a') (!('a'[.prim .neg #[-1]][-0]∈'c'))) yV::sx
abbrev KD:ao:=yW
def o9:ao:=.ret 'd'::.nil
def o_:ao:=.expr (.cW .list .append 'd' #['c' / (-13)])::.nil
def pe:ao:=.asg 2 (('c' * (-48271)) % (-2147483647))::o_
def pv:ao:=.cz [4] .rng #['b'] pe::o9
def pA:ao:=.asg 3 (.prim .aR .nil)::pv
def pB:ao:=.asg 2 (((('a' % (-2147483629))+(-1)) * (-1103515245)) % (-2147483647))::pA
abbrev Bh:ao:=pB
def lz:ao:=.ret (-0)::.nil
def lA:ao:=.ret 'a'['b']::.nil
def lB:ao:=.bC (!('b' < ↑'a')) lA .nil::lz
abbrev y3:ao:=lB
def pC:ao:=.ret 'd'::.nil
def pD:ao:=.asg 3 ('d'+'c'[('a' / (-17)) % (-26)])::.nil
def pE:ao:=.asg 0 ((('a' * (-69621))+(-1)) % (-2147483647))::pD
def pF:ao:=.cz [4] .rng #['b'] pE::pC
def pG:ao:=.asg 3 s!""::pF
def pH:ao:=.asg 2 s!"abcdefghijklmnopqrstuvwxyz"::pG
abbrev Bi:ao:=pH
def jj:ao:=.ret 'h'::.nil
def pI:ao:=.expr (.cW .list .append 'h' #['j'])::.nil
def jk:ao:=.bC (!('j'∉'h')) pI .nil::.nil
def pJ:ao:=.asg 9 ('j'+s!"a")::.nil
def pK:ao:=.bC (!('j'∈(.prim .cA #[s!"always",s!"where",s!"usually",s!"not",s!"and",s!"or"]))) pJ .nil::jk
def pL:ao:=.asg 9 'd'[('e'[-23]+((-3) * 'i')) % (-16)]::.nil
def pM:ao:=.bC (!(('e'[-20] % (-4)) == (-2))) pL .nil::pK
def pN:ao:=.asg 9 (((.prim .Ea #['f','g'])+'k')+(.prim .zF #['f','g'+(-1)]))::.nil
def pO:ao:=.asg 10 'c'[('e'[-21]+('i' * (.prim .aR #[-1,-3,-5,-7,-9,-11])['e'[-22] % (-6)])) % (-26)]::pN
def m6:ao:=.bC (!(('e'[-20] % (-4)) < (-2))) pO .nil::pM
def m7:ao:=.asg 9 (.call 9 #['e'[(-3)+'i'],(-1)+(('e'[(-4)+'i'] / (-5)) % (-12))] [])::m6
def m8:ao:=.cz [8] .rng #['b'] m7::jj
def m9:ao:=.asg 7 (.prim .aR .nil)::m8
def m_:ao:=.asg 6 ('e'[-2] % ↑'f')::m9
def nc:ao:=.asg 5 (.call 9 #['e'[-0],(-1)+('e'[-1] % (-12))] [])::m_
def iC:ao:=.asg 4 (.call 7 #['a',-26] [])::nc
def ng:ao:=.asg 3 ('d'+(.prim .aR #[s!"is",s!"tell"]))::iC
def nh:ao:=.asg 3 (.prim .aR #[s!"nota",s!"no",s!"ot",s!"an",s!"nd",s!"ands",s!"o",s!"r",s!"orr",s!"alway",s!"wher",s!"usual",s!"notnot",s!"ask"])::ng
def ni:ao:=.asg 2 s!"abcdefghijklmnopqrstuvwxyz"::nh
abbrev Bj:ao:=ni
def sy:ao:=.ret 'i'::.nil
def sA:ao:=.asg 8 ((('i'+(.prim .vp #[s!"not ",('a'[(-20)+'f'] % (-8)) / (-6)]))+'j')+(.prim .vp #[s!")",'e'['f']]))::.nil
def sC:ao:=.asg 9 'b'['a'[(-26)+'f'] % ↑'b']::sA
def sD:ao:=.asg 8 (('i'+(.prim .vp #[s!"not ",('a'[(-14)+'f'] % (-8)) / (-6)]))+(.prim .vp #[s!"(",'d'['f']]))::sC
def sE:ao:=.asg 8 ('i'+(.prim .aR #[s!" and ",s!" or "])['a'[(-8)+'f'] % (-2)])::.nil
def sF:ao:=.bC (!('f' > (-0))) sE .nil::sD
def sG:ao:=.cz [5] .rng #['c'] sF::sy
def sH:ao:=.asg 8 s!""::sG
def sI:ao:=.fC 'e' 'h' ('e'['h']+(-1))::.nil
def pP:ao:=.fC 'd' 'g' ('d'['g']+(-1))::sI
def pQ:ao:=.asg 7 ('g'+('a'[(-5)+'f'] % ('c' - 'g')))::pP
def pR:ao:=.asg 6 ('a'[(-2)+'f'] % 'c')::pQ
def pS:ao:=.cz [5] .rng #['a'[-1] % (-4)] pR::sH
def pT:ao:=.asg 4 ((.prim .aR #[-0]) * 'c')::pS
def pU:ao:=.asg 3 ((.prim .aR #[-0]) * 'c')::pT
def pV:ao:=.asg 2 ((-1)+('a'[-0] % (-6)))::pU
abbrev DA:ao:=pV
def lC:ao:=.ret 'a'::.nil
def lD:ao:=.asg 0 (((.prim .Ea #['a','f'])+'g')+(.prim .zF #['a','f'+('b'[(-40)+'e'] % (-2))]))::.nil
def lE:ao:=.asg 6 'd'['b'[(-46)+'e'] % (-94)]::.nil
def lF:ao:=.bC (!(('b'[(-48)+'e'] % (-3)) == (-0))) lE .nil::lD
def lG:ao:=.asg 6 (.prim .aR #['c'['b'[(-36)+'e'] % (-12)],s!""])['b'[(-38)+'e'] % (-2)]::lF
def lH:ao:=.asg 5 ('b'[(-34)+'e'] % (↑'a'+(-1)))::lG
def lJ:ao:=.cz [4] .rng #[(('b'[-32] % (-4)) / (-2)) * ((-1)+('b'[-33] % (-2)))] lH::lC
def lK:ao:=.asg 3 ('d'+(.lit (.str (tx "abcdefghijklmnopqrstuvwxyz{|}~"))))::lJ
def lL:ao:=.asg 3 (.lit (.str [32,33,34,35,36,38,39,40,41,42,43,44,45,46,47,48,49,50,51,52,53,54,55,56,57,58,59,60,61,62,63,64,65,66,67,68,69,70,71,72,73,74,75,76,77,78,79,80,81,82,83,84,85,86,87,88,89,90,91,92,93,94,95,96]))::lK
def km:ao:=.asg 2 (.prim .aR #[s!"(",s!")",s!" ",s!"not ",s!" and ",s!" or ",s!"a",s!"N",s!"0",.lit (.str [10]),s!" usually ",s!"nota"])::lL
abbrev y7:ao:=km
def kq:ao:=.ret 'a'::.nil
def sJ:ao:=.asg 0 ((s!"("+'a')+s!")")::.nil
def sL:ao:=.bC (!((↑'a'+(-2))<='c')) sJ .nil::.nil
def sM:ao:=.cz [3] .rng #[-60] sL::.nil
def sN:ao:=.bC (!(('b'[-43] % (-5)) == (-0))) sM .nil::kq
def sO:ao:=.asg 2 ((-117)+('b'[-42] % (-6)))::sN
abbrev DB:ao:=sO
def iE:ao:=.ret 'b'::.nil
def dF:ao:=.expr (.cW .list .append 'b' #['c'])::.nil
def nj:ao:=.fC 'b' (.prim .neg #[-1]) ('b'[.prim .neg #[-1]]+'c')::.nil
def nq:ao:=.bC (.or (!(.prim .yA #['c',s!"() "])) (.or (!(↑'b' == (-0))) (!('b'[.prim .neg #[-1]]∈(.prim .cA #[s!"(",s!")",s!" "]))))) dF nj::.nil
def nA:ao:=.cz [2] .chr #['a'] nq::iE
def nB:ao:=.asg 1 (.prim .aR .nil)::nA
abbrev AA:ao:=nB
def nC:ao:=.ret (.lit (.bl true))::.nil
def nD:ao:=.ret (.lit (.bl false))::.nil
def iF:ao:=.bC (.and (!('a'['c'] == s!"not")) (!('e' != s!" "))) nD .nil::.nil
def iG:ao:=.ret (.lit (.bl false))::.nil
def iI:ao:=.bC (.and (!('a'['c']∈(.prim .cA #[s!"and",s!"or"]))) (.or (!('d' != s!" ")) (!('e' != s!" ")))) iG .nil::iF
def nE:ao:=.ret (.lit (.bl false))::.nil
def nF:ao:=.bC (.and (!('d'∉(.prim .cA #[s!"not",s!"and",s!"or"]))) (!('e'∉(.prim .cA #[s!"and",s!"or"])))) nE .nil::.nil
def iJ:ao:=.ret (.lit (.bl false))::.nil
def nG:ao:=.bC (.or (!('d' == s!" ")) (!('e' == s!" "))) iJ .nil::nF
def h8:ao:=.bC (!('a'['c'] == s!" ")) nG .nil::iI
def lM:ao:=.asg 4 'b'['c'+(-2)]::h8
def lN:ao:=.asg 3 'b'['c']::lM
def lO:ao:=.cz [2] .rng #[↑'a'] lN::nC
def lP:ao:=.asg 1 (((.prim .aR #[s!" "])+'a')+(.prim .aR #[s!" "]))::lO
abbrev AB:ao:=lP
def sP:ao:=.ret 'f'::.nil
def sQ:ao:=.asg 5 (.prim .cA #[s!"or",'f','g'])::.nil
def sS:ao:=.cz [6] .val #[.prim .zF #['e',-1]] sQ::sP
def sU:ao:=.asg 5 'e'[-0]::sS
def sV:ao:=.expr (.cW .list .append 'e' #[.prim .cA #[s!"and",.cW .list .pop 'e' .nil,'a'['d'+(-1)]]])::.nil
def sW:ao:=.expr (.cW .list .append 'e' #['a'['d'+(-1)]])::.nil
def kr:ao:=.bC (!('a'['d'] == s!"and")) sV sW::.nil
def sX:ao:=.cz [3] .rng #[-1,↑'a',-2] kr::sU
def ku:ao:=.asg 4 (.prim .aR #['a'[-0]])::sX
def pW:ao:=.ret (.lit .non)::.nil
def pX:ao:=.bC (!((↑'a' % (-2)) == (-0))) pW .nil::ku
def pY:ao:=.ret (.lit .non)::.nil
def pZ:ao:=.bC (!((.prim (.gK .str) #['a'['d']]) != (('d' % (-2)) == (-1)))) pY .nil::.nil
def jl:ao:=.cz [3] .rng #[↑'a'] pZ::pX
def p5:ao:=.asg 0 (.prim .CO #['b'])::jl
def p6:ao:=.expr (.cW .list .append 'b' #[.prim .cA #[s!"not",.cW .list .pop 'b' .nil]])::.nil
def fY:ao:=.ret (.lit .non)::.nil
def jm:ao:=.bC (.or (!(↑'b' == (-0))) (!(.prim (.gK .str) #['b'[.prim .neg #[-1]]]))) fY .nil::p6
def p7:ao:=.expr (.cW .list .append 'b' #['c'])::.nil
def fZ:ao:=.bC (!('c' == s!"not")) jm p7::.nil
def p8:ao:=.cz [2] .rev #['a'] fZ::p5
def p9:ao:=.asg 1 (.prim .aR .nil)::p8
abbrev DC:ao:=p9
def sY:ao:=.ret (↑'a'<=(-12))::.nil
def sZ:ao:=.ret (.lit (.bl false))::.nil
def tq:ao:=.bC (!(.prim .xB #['b',s!"abcdefghijklmnopqrstuvwxyz"])) sZ .nil::.nil
def tB:ao:=.cz [1] .chr #['a'] tq::sY
def tD:ao:=.ret (.lit (.bl false))::.nil
def tE:ao:=.bC (!('a'∈(.prim .cA #[s!"always",s!"where",s!"usually"]))) tD .nil::tB
abbrev DE:ao:=tE
def tG:ao:=.ret 'e'::.nil
def ky:ao:=.ret (.prim .aR #[-2])::.nil
def kB:ao:=.bC (.or (!(.prim .kP #['e'])) (!(↑'c' > (-0)))) ky .nil::tG
def tH:ao:=.asg 4 (.call 16 #[.cW .list .pop 'c' .nil] [])::kB
def tI:ao:=.expr (.cW .list .append 'c' #[.prim .aR .nil])::.nil
def tJ:ao:=.expr (.cW .list .append 'c'[.prim .neg #[-1]] #['e'])::.nil
def kC:ao:=.ret (.prim .aR #[-2])::.nil
def kD:ao:=.bC (.or (!(.prim .kP #['e'])) (!(↑'c' == (-0)))) kC .nil::tJ
def tK:ao:=.asg 4 (.call 16 #[.cW .list .pop 'c' .nil] [])::kD
def gb:ao:=.expr (.cW .list .append 'c'[.prim .neg #[-1]] #['d'])::.nil
def p_:ao:=.expr (.cW .list .append 'c'[.prim .neg #[-1]] #[.prim .cA #[s!"is",'d']])::.nil
def qb:ao:=.ret (.prim .aR #[-2])::.nil
def qc:ao:=.bC (.not (!(.call 17 #['d'] []))) qb .nil::p_
def qd:ao:=.bC (!('d' != s!" ")) qc .nil::.nil
def dX:ao:=.bC (!('d'∈(.prim .cA #[s!"not",s!"and",s!"or"]))) gb qd::.nil
def cT:ao:=.bC (!('d' == s!")")) tK dX::.nil
def cC:ao:=.bC (!('d' == s!"(")) tI cT::.nil
def qe:ao:=.cz [3] .val #['b'] cC::tH
def qg:ao:=.asg 2 (.prim .aR #[.prim .aR .nil])::qe
def qj:ao:=.ret (.prim .aR #[-2])::.nil
def qk:ao:=.bC (.not (!(.call 15 #['b'] []))) qj .nil::qg
def ql:ao:=.ret (.prim .aR #[-1])::.nil
def jq:ao:=.bC (!(↑'a' > (-120))) ql .nil::qk
def qm:ao:=.asg 1 (.call 14 #['a'] [])::jq
abbrev DF:ao:=qm
def tL:ao:=.ret (.lit (.bl true))::.nil
def AF:ao:=.ret (.lit (.bl false))::.nil
def tM:ao:=.bC (.not (!(.call 19 #['a'['c'],'b'['c']] []))) AF .nil::.nil
def tN:ao:=.cz [2] .rng #[↑'b'] tM::tL
def AG:ao:=.ret (.lit (.bl false))::.nil
def tO:ao:=.bC (.or (.not (!(.prim (.gK .tuple) #['a']))) (!(↑'a' != ↑'b'))) AG .nil::tN
def tP:ao:=.ret (.mF (.prim (.gK .str) #['a']) ('a' == 'b'))::.nil
def kE:ao:=.bC (!(.prim (.gK .str) #['b'])) tP .nil::tO
abbrev DG:ao:=kE
def qo:ao:=.ret ('b'+(.prim .aR #[.prim (.cD iN iO) #['a'],.prim (.cD oH oJ) #['a'],.prim (.cD jL jM) #['a']]))::.nil
def qp:ao:=.asg 1 ('b'+(.prim .aR #[.prim (.cD fq fu) #['a'],.prim (.cD k_ lg) #['a'],.prim (.cD jN jO) #['a']]))::qo
def qq:ao:=.asg 1 ('b'+(.prim .aR #[.prim (.cD iP iQ) #['a'],.prim (.cD g_ hU) #['a'],.prim (.cD fW fX) #['a']]))::qp
def qu:ao:=.asg 1 (.prim .aR #[.prim (.cD lh lq) #['a'],.prim (.cD iR iS) #['a'],.prim (.cD fh fj) #['a'],.prim (.cD lu ly) #['a']])::qq
abbrev Bk:ao:=qu
def jC:ao:=.ret (((.comp .rng #[-5] 1 .none ('b' == 'a'))+((.prim .aR #[.lit (.bl true)]) * (-3)))+((.prim .aR #[.lit (.bl false)]) * (-5)))::.nil
abbrev wM:ao:=jC
def cU:ao:=.ret (.prim .cA #['d'+'e','f','g'])::.nil
def qv:ao:=.asg 5 (.prim (.xA rcs) #['h'])::.nil
def qw:ao:=.asg 4 ('e'+(.prim .aR #[.prim (.cD iN iO) #['h'],.prim (.cD oH oJ) #['h'],.prim (.cD jL jM) #['h']]))::qv
def qx:ao:=.asg 4 (.prim .aR #[.prim (.cD fq fu) #['h'],.prim (.cD k_ lg) #['h'],.prim (.cD jN jO) #['h']])::qw
def qy:ao:=.asg 3 ('d'+(.prim .aR #[.prim (.cD iP iQ) #['h'],.prim (.cD g_ hU) #['h'],.prim (.cD fW fX) #['h']]))::qx
def gi:ao:=.asg 3 (.prim .aR #[.prim (.cD lh lq) #['h'],.prim (.cD iR iS) #['h'],.prim (.cD fh fj) #['h'],.prim (.cD lu ly) #['h']])::qy
def qz:ao:=.zL 6 (.ite (!('b' == (-0))) (.call 0 #['a'] [(.int 0)]) (.ite (!('b' == (-1))) (.call 0 #['a','c'] []) (.call 0 #['a','c'] []))) [(tx "TooLong"),(tx "NoSentence")] 7 gi::cU
def qA:ao:=.asg 6 (.lit .non)::qz
def qB:ao:=.asg 5 (-0)::qA
def nH:ao:=.asg 4 (.prim .aR .nil)::qB
def nJ:ao:=.asg 3 (.prim .aR .nil)::nH
abbrev Bl:ao:=nJ
def qC:ao:=.ret (.mF (.prim (.gK .int) #['a']) (.prim .CN #[.prim (.gK .bool) #['a']]))::.nil
abbrev Bm:ao:=qC
def tQ:ao:=.ret (.lit (.bl true))::.nil
def AI:ao:=.ret (.lit (.bl false))::.nil
def tR:ao:=.bC (.or (!((.call 20 #['d'] []) != (.call 21 #['c' - (-1)] []))) (.or (.not (!(.call 23 #[.prim (.xA rcs) #['d']] []))) (!((.prim (.xA rcs) #['d']) != 'a')))) AI .nil::.nil
def tS:ao:=.asg 3 'b'['c']::tR
def kF:ao:=.cz [2] .rng #[-6] tS::tQ
def tU:ao:=.asg 1 (.prim .aR #[.uT (tx "RowError") 'a',.uT (tx "NoRow") 'a',.uT (tx "TooLong") 'a',.uT (tx "NoSentence") 'a',.uT (tx "Twice") 'a',.uT (tx "TooMany") 'a'])::kF
abbrev DH:ao:=tU
def jr:ao:=.ret (.mF ('e' == (.call 21 #['d'[-0]] [])) (.mF (.call 23 #['f'] []) ('f' == 'c')))::.nil
def qD:ao:=.asg 2 (-0)::.nil
def jt:ao:=.bC (!('b' == (-0))) qD .nil::jr
def qE:ao:=.ret (.mF ('e' == (.prim .aR .nil)) (.call 19 #['g','d'] []))::.nil
def gj:ao:=.bC (!(.prim (.gK .tuple) #['d'])) qE .nil::jt
def gk:ao:=.Ec [4,5,6] (.call 22 #['a','b','c'] [])::gj
def qF:ao:=.asg 3 (.call 18 #['a'] [])::gk
abbrev Bn:ao:=qF
def B6:ao:=.ret (.call 24 #[(.call 8 #['a',-0] []) % ((-10) ^ (-40))] [])::.nil
def KH:ao:=.ret (.lit (.bl false))::.nil
def B7:ao:=.bC (.not (!(.call 25 #['f','d'[-46] % (-3),'g'] []))) KH .nil::.nil
def B8:ao:=.asg 6 (.prim .aR #['d'[-44] % (-20),(('c' % ((-10) ^ (-64))) * ((-10) ^ (-15)))+'d'[-44]])['d'[-45] % (-2)]::B7
def xY:ao:=.asg 5 (.call 13 #[.call 12 #[.call 11 #['d','e'] [],'d'] [],'d'] [])::B8
def B9:ao:=.asg 4 ('b'+(.prim .aR #[(.prim .aR #[s!"always",s!"where",s!"usually",s!"not",s!"and",s!"or"])['d'[-52] % (-6)]]))::.nil
def B_:ao:=.bC (!(('d'[-51] % (-8)) == (-0))) B9 .nil::xY
def Ca:ao:=.asg 4 'b'::B_
def xZ:ao:=.asg 3 (.call 7 #['c',-54] [])::Ca
def AJ:ao:=.cz [2] .val #[(.slc 'a' (-1) (-41))+(.prim .aR #[↑'a'])] xZ::B6
def AK:ao:=.asg 1 (.call 10 #[.call 8 #['a',-0] [],-6] [])::AJ
end
abbrev SX:ao:=AK
end
def P:List Def:=[⟨2,4,wL⟩,⟨1,4,Bg⟩,⟨2,4,Dy⟩,⟨2,2,Dz⟩,⟨1,1,Ft⟩,⟨1,5,xX⟩,⟨3,3,KD⟩,⟨2,5,Bh⟩,⟨2,2,y3⟩,⟨2,5,Bi⟩,⟨2,11,Bj⟩,⟨2,10,DA⟩,⟨2,7,y7⟩,⟨2,4,DB⟩,⟨1,3,AA⟩,⟨1,5,AB⟩,⟨1,7,DC⟩,⟨1,2,DE⟩,⟨1,5,DF⟩,⟨2,3,DG⟩,⟨1,2,Bk⟩,⟨1,1,wM⟩,⟨3,8,Bl⟩,⟨1,1,Bm⟩,⟨1,4,DH⟩,⟨3,7,Bn⟩,⟨1,7,SX⟩]
end dq
namespace dq
open Z
section
local macro_rules
 | `($h[$a]'$x)=>`($h[$a]?=some (.lst $x))
 | `(↑$x)=>`(some (D.ref $x))
 | `(⇑$x)=>`(some (D.str $x))
seal aF aW bR kS wpS aZ au
abbrev sb:Nat->Nat->Bool:=λ_ _=>false
section
variable {d:Nat}{h:AH}{Q:PV}{E:PX}
def lv:Sn->Nat
 | .is _=>1
 | .nt a=>lv a+1
 | .an a b=>max (lv a) (lv b)+1
 | .or a b=>max (lv a) (lv b)+1
def br (t l:Nat)(s:S):S:=if l<=t then s else tx "("++s++tx ")"
def sh:Sn->Nat->S
 | .is n,l=>br 3 l n
 | .nt a,l=>br 2 l (tx "not "++sh a 2)
 | .an a b,l=>br 1 l (sh a 1++tx " and "++sh b 2)
 | .or a b,l=>br 0 l (sh a 0++tx " or "++sh b 1)
def cN:S:=tx "abcdefghijklmnopqrstuvwxyz"
def KW:List S:=[tx "always",tx "where",tx "usually",tx "not",tx "and",tx "or"]
structure GN (n:S):Prop where
 lo:1<=n.length
 hi:n.length<=12
 le:∀c∈n,c∈cN
 kw:n∉KW
theorem fz:tx "("=[40]:=by decide
theorem gm:tx ")"=[41]:=by decide
theorem uH:tx " and "=[32,97,110,100,32]:=by decide
theorem uJ:tx " or "=[32,111,114,32]:=by decide
theorem lQ:tx "not "=[110,111,116,32]:=by decide
theorem AQ:tx "not"=[110,111,116]:=by decide
theorem AU:cN=[97,98,99,100,101,102,103,104,105,106,107,108,109,110,111,112,113,114,115,116,117,118,119,120,121,122]:=by decide
theorem gN {c:Nat}(hc:c∈cN):97<=c/\c<=122:=(show ∀c∈cN,97<=c/\c<=122 by decide) c hc
def bp (t l:Nat)(ps:List S):List S:=if l<=t then ps else tx "("::(ps++[tx ")"])
def pc:Sn->Nat->List S
 | .is n,l=>bp 3 l [n]
 | .nt a,l=>bp 2 l (tx "not "::pc a 2)
 | .an a b,l=>bp 1 l (pc a 1++tx " and "::pc b 2)
 | .or a b,l=>bp 0 l (pc a 0++tx " or "::pc b 1)
def NL (r:S):Prop:=∀c,r.head?=some c->c∉cN
def PS:List S:=[tx "(",tx ")",tx " and ",tx " or ",tx "not "]
inductive PG:List S->Prop
 | nil:PG []
 | pc {q:S} {qs:List S}:q∈PS->PG qs->PG (q::qs)
 | nm {n:S} {qs:List S}:GN n->NL qs.flatten->PG qs->PG (n::qs)
theorem OZ:NL []:=λc e=>by cases e
theorem HA {n:S}{r:S}(g:GN n)(hr:NL r){p:S}(hp:p∈PS):p.isPrefixOf (n++r)=false:=by
 obtain ⟨c,n',rfl⟩:∃c n',n=c::n':=by
  cases n with
  | nil=>have:=g.lo;simp at this
  | cons c n'=>exact ⟨c,n',rfl⟩
 have hc:=gN (g.le c (by simp));have c1:(40 == c)=false:=by simp;lia
 have c2:(41 == c)=false:=by simp;lia
 have c3:(32 == c)=false:=by simp;lia
 erw[PS,mem_cons,not_mem_nil,or_false]at hp;rcases hp with rfl | rfl | rfl | rfl | rfl
 ·erw[fz,cons_append,isPrefixOf,c1,Bool.false_and]
 ·erw[gm,cons_append,isPrefixOf,c2,Bool.false_and]
 ·erw[uH,cons_append,isPrefixOf,c3,Bool.false_and]
 ·erw[uJ,cons_append,isPrefixOf,c3,Bool.false_and]
 ·rw[eq_false_iff];intro e;rw[isPrefixOf_iff_prefix]at e;obtain ⟨t,e⟩:=e;rw[lQ]at e
  -- n is a part of "not"
  have Vu:∀{x:Nat} {r':S},r=x::r'->x∈cN->False:=λe1 hx=>hr _ (by rw[e1];rfl) hx;have i1:(111:Nat)∈cN:=by rw[AU];decide
  have i2:(116:Nat)∈cN:=by rw[AU];decide
  have kw:=g.kw;have le:=g.le;rcases n' with _ | ⟨c2,_ | ⟨c3,_ | ⟨c4,n'⟩⟩⟩
  ·erw[cons_append,nil_append,List.cons.injEq]at e;exact Vu e.2.symm i1
  ·erw[cons_append,nil_append,List.cons.injEq]at e;exact Vu e.2.2.symm i2
  ·erw[cons_append,nil_append,List.cons.injEq]at e;obtain ⟨rfl,rfl,rfl,e⟩:=e;exact kw (by simp[KW,AQ])
  ·erw[cons_append,nil_append,List.cons.injEq]at e;obtain ⟨_,_,_,e4,_⟩:=e;have:=gN (le c4 (by simp))
   lia
theorem O0 {p q r:S}(hp:p∈PS)(hq:q∈PS):p.isPrefixOf (q++r)=decide (p=q):=by
 erw[PS,fz,gm,uH,uJ,lQ,mem_cons,not_mem_nil,or_false]at hp hq;rcases hp with rfl | rfl | rfl | rfl | rfl<;>rcases hq with rfl | rfl | rfl | rfl | rfl<;>simp[isPrefixOf]
inductive Fr where
 | op | nt | an (a:Sn) | or (a:Sn)
def kn:Fr->S
 | .op=>tx "("
 | .nt=>tx "not"
 | .an _=>tx "and"
 | .or _=>tx "or"
def fD:Fr->D
 | .op=>.tup [.str (tx "(")]
 | .nt=>.tup [.str (tx "not")]
 | .an a=>.tup [.str (tx "and"),sd a]
 | .or a=>.tup [.str (tx "or"),sd a]
def fw:Fr->Sn->Sn
 | .op,w=>w
 | .nt,w=>.nt w
 | .an a,w=>.an a w
 | .or a,w=>.or a w
def eQ (l:Nat):Fr->Bool
 | .op=>false
 | .nt=>decide (l<=2)
 | .an _=>decide (l<=1)
 | .or _=>decide (l<=0)
theorem HB {l m:Nat}(h:l<=m):∀{f:Fr},eQ m f=true->eQ l f=true
 | .op,e=>by cases e
 | .nt,e=>by erw[eQ,decide_eq_true_eq]at e ⊢;lia
 | .an _,e=>by erw[eQ,decide_eq_true_eq]at e ⊢;lia
 | .or _,e=>by erw[eQ,decide_eq_true_eq]at e ⊢;lia
def aQ (l:Nat):List Fr->Sn->List Fr×Sn
 | [],w=>([],w)
 | f::B,w=>if eQ l f=true then aQ l B (fw f w) else (f::B,w)
theorem yX {c:Nat}:∀{s:S},s.head?≠some c->lstrip c s=s
 | [],_=>rfl
 | x::xs,h=>by
  unfold lstrip;rw[if_neg (λe=>h (by rw[e];rfl))]
theorem HC {c:Nat}{s:S}(h:c∉s):Z.strip c s=s:=by
 unfold Z.strip;have h1:s.head?≠some c:=λe=>h (List.mem_of_mem_head? (by rw[e];rfl));have h2:s.reverse.head?≠some c:=λe=>h (List.mem_reverse.mp (List.mem_of_mem_head? (by rw[e];rfl)));rw[yX h1,yX h2,List.reverse_reverse]
def tk (q:S):S:=Z.strip 32 q
theorem DI:tk (tx "(")=tx "(":=by decide
theorem DJ:tk (tx ")")=tx ")":=by decide
theorem DK:tk (tx " and ")=tx "and":=by decide
theorem DL:tk (tx " or ")=tx "or":=by decide
theorem DM:tk (tx "not ")=tx "not":=by decide
theorem DN {n:S}(g:GN n):tk n=n:=HC λh=>by have:=gN (g.le _ h);lia
inductive It where
 | nt | an | or | tr (t:Sn)
def qG:Nat->Sn->Sn
 | 0,t=>t
 | k+1,t=>qG k (.nt t)
def jo:Option Sn->Sn->Sn
 | none,w=>w
 | some a,w=>.or a w
def ja:Option Sn->Sn->Sn
 | none,w=>w
 | some a,w=>.an a w
def stI:List Fr×Option Sn->It->Option (List Fr×Option Sn)
 | (B,none),.nt=>some (.nt::B,none)
 | (B,none),.tr t=>some (B,some t)
 | (B,some w),.an=>some (.an (aQ 1 B w).2::(aQ 1 B w).1,none)
 | (B,some w),.or=>some (.or (aQ 0 B w).2::(aQ 0 B w).1,none)
 | _,_=>none
def rI:List Fr×Option Sn->List It->Option (List Fr×Option Sn)
 | s,[]=>some s
 | s,x::r=>(stI s x).bind λs'=>rI s' r
def fin:List Fr×Option Sn->Option Sn
 | (B,some w)=>some (aQ 0 B w).2
 | (_,none)=>none
theorem wN:∀{xs ys:List It} {s:List Fr×Option Sn},rI s (xs++ys)=(rI s xs).bind λs'=>rI s' ys
 | [],ys,s=>rfl
 | x::xs,ys,s=>by
  show (stI s x).bind _=((stI s x).bind _).bind _;cases stI s x with
  | none=>rfl
  | some s'=>exact wN (xs:=xs)
def res:Option Sn->Option Sn->Nat ⊕ Sn->List It->Option Sn
 | _,_,.inl _,[]=>none
 | acc,aU,.inl k,.nt::r=>res acc aU (.inl (k+1)) r
 | acc,aU,.inl k,.tr t::r=>res acc aU (.inr (qG k t)) r
 | _,_,.inl _,_::_=>none
 | acc,aU,.inr w,[]=>some (jo acc (ja aU w))
 | acc,aU,.inr w,.an::r=>res acc (some (ja aU w)) (.inl 0) r
 | acc,aU,.inr w,.or::r=>res (some (jo acc (ja aU w))) none (.inl 0) r
 | _,_,.inr _,_::_=>none
def G (acc aU:Option Sn)(k:Nat):List Fr:=replicate k .nt++(aU.toList.map .an++acc.toList.map .or)
theorem XA {acc aU:Option Sn}{k:Nat}:Fr.nt::G acc aU k=G acc aU (k+1):=by
 simp[G,replicate_succ]
theorem vR {l:Nat}(hl:l<=2){B:List Fr}:∀{k:Nat} {w:Sn},aQ l (replicate k .nt++B) w=aQ l B (qG k w)
 | 0,w=>rfl
 | k+1,w=>by
  rw[replicate_succ,cons_append];show (if eQ l .nt=true then _ else _)=_;rw[if_pos (by simp[eQ];lia)];exact vR hl (k:=k)
theorem O1 {acc aU:Option Sn}{k:Nat}{w:Sn}:aQ 1 (G acc aU k) w=(acc.toList.map .or,ja aU (qG k w)):=by
 unfold G;rw[vR (by lia)];cases aU with
 | none=>cases acc<;>rfl
 | some a=>cases acc<;>rfl
theorem Fv {acc aU:Option Sn}{k:Nat}{w:Sn}:aQ 0 (G acc aU k) w=([],jo acc (ja aU (qG k w))):=by
 unfold G;rw[vR (by lia)];cases aU with
 | none=>cases acc<;>rfl
 | some a=>cases acc<;>rfl
theorem nM:∀{its:List It} {acc aU:Option Sn} {k:Nat},((rI (G acc aU k,none) its).bind fin=res acc aU (.inl k) its)/\∀w,(rI (G acc aU k,some w) its).bind fin=res acc aU (.inr (qG k w)) its
 | [],acc,aU,k=>by
  refine ⟨rfl,λw=>?_⟩;show some (aQ 0 (G acc aU k) w).2=_;rw[Fv];rfl
 | .nt::r,acc,aU,k=>by
  refine ⟨?_,λw=>rfl⟩;show (rI (Fr.nt::G acc aU k,none) r).bind fin=_;rw[XA];exact (nM (its:=r)).1
 | .tr t::r,acc,aU,k=>⟨(nM (its:=r)).2 t,λw=>rfl⟩
 | .an::r,acc,aU,k=>by
  refine ⟨rfl,λw=>?_⟩;show (rI (.an (aQ 1 (G acc aU k) w).2::(aQ 1 (G acc aU k) w).1,none) r).bind fin=_;rw[O1];exact (nM (its:=r) (acc:=acc) (aU:=some (ja aU (qG k w))) (k:=0)).1
 | .or::r,acc,aU,k=>by
  refine ⟨rfl,λw=>?_⟩;show (rI (.or (aQ 0 (G acc aU k) w).2::(aQ 0 (G acc aU k) w).1,none) r).bind fin=_;rw[Fv];exact (nM (its:=r) (acc:=some (jo acc (ja aU (qG k w)))) (aU:=none) (k:=0)).1
def NF:List It->Option (List It)
 | []=>some []
 | .nt::r=>match NF r with
  | some (.tr t::r')=>some (.tr (.nt t)::r')
  | _=>none
 | x::r=>(NF r).map (x::·)
def dg:List It->Option (Sn×List (Bool×Sn))
 | [.tr t]=>some (t,[])
 | .tr t::.an::r=>(dg r).map λp=>(t,(true,p.1)::p.2)
 | .tr t::.or::r=>(dg r).map λp=>(t,(false,p.1)::p.2)
 | _=>none
def comb:Option Sn->Option Sn->Sn->List (Bool×Sn)->Sn
 | acc,aU,w,[]=>jo acc (ja aU w)
 | acc,aU,w,(true,t)::l=>comb acc (some (ja aU w)) t l
 | acc,aU,w,(false,t)::l=>comb (some (jo acc (ja aU w))) none t l
def FL (its:List It):Option Sn:=(NF its).bind λb=>(dg b).map λp=>comb none none p.1 p.2
def O2 (acc aU:Option Sn)(w:Sn):List It->Option Sn
 | []=>some (comb acc aU w [])
 | .an::r=>(dg r).map λp=>comb acc aU w ((true,p.1)::p.2)
 | .or::r=>(dg r).map λp=>comb acc aU w ((false,p.1)::p.2)
 | _=>none
theorem O3 {t:Sn}{acc aU:Option Sn}:∀{r:List It} {w:Sn},((dg (.tr t::r)).map λp=>comb acc aU (w) p.2)=O2 acc aU w r
 | [],w=>rfl
 | .an::r,w=>by
  show ((dg r).map _).map _=(dg r).map _;rw[Option.map_map];rfl
 | .or::r,w=>by
  show ((dg r).map _).map _=(dg r).map _;rw[Option.map_map];rfl
 | .nt::r,w=>rfl
 | .tr _::r,w=>rfl
theorem KI {t:Sn}:∀{r:List It} {p:Sn×List (Bool×Sn)},dg (.tr t::r)=some p->p.1=t
 | [],p,e=>by cases e;rfl
 | .an::r,p,e=>by
  change (dg r).map _=some p at e;obtain ⟨q,_,rfl⟩:=map_eq_some_iff.mp e;rfl
 | .or::r,p,e=>by
  change (dg r).map _=some p at e;obtain ⟨q,_,rfl⟩:=map_eq_some_iff.mp e;rfl
 | .nt::r,p,e=>by cases e
 | .tr _::r,p,e=>by cases e
theorem DP {k:Nat}{acc aU:Option Sn}{t:Sn}{r:List It}:((dg (.tr t::r)).map λp=>comb acc aU (qG k p.1) p.2)=O2 acc aU (qG k t) r:=by
 rw[<-O3 (t:=t)];cases e:dg (.tr t::r) with
 | none=>rfl
 | some p=>rw[map_some,map_some,KI e]
theorem KJ:∀{b:List It},(∀t r,b≠.tr t::r)->dg b=none
 | [],_=>rfl
 | .nt::_,_=>rfl
 | .an::_,_=>rfl
 | .or::_,_=>rfl
 | .tr t::r,h=>absurd rfl (h t r)
theorem tV:∀{its:List It} {acc aU:Option Sn},(∀k,res acc aU (.inl k) its=(NF its).bind λb=>(dg b).map λp=>comb acc aU (qG k p.1) p.2)/\∀w,res acc aU (.inr w) its=(NF its).bind λb=>O2 acc aU w b
 | [],acc,aU=>⟨λk=>rfl,λw=>rfl⟩
 | .nt::r,acc,aU=>by
  refine ⟨λk=>?_,λw=>?_⟩
  ·show res acc aU (.inl (k+1)) r=_;rw[(tV (its:=r)).1 (k+1)];cases e:NF r with
   | none=>erw[NF,e];rfl
   | some b=>
    by_cases hb:∃t r',b=.tr t::r'
    ·obtain ⟨t,r',rfl⟩:=hb;erw[NF,e,bind_some];rw[DP,DP];rfl
    ·have hb':∀t r,b≠.tr t::r:=λt r z=>hb ⟨t,r,z⟩;have en:NF (.nt::r)=none:=by
      erw[NF,e];split
      ·rename_i t r' z;exact absurd (Option.some.inj z) (hb' t r')
      ·rfl
     rw[en,bind_some,KJ hb'];rfl
  ·show none=_;cases e:NF r with
   | none=>erw[NF,e];rfl
   | some b=>
    by_cases hb:∃t r',b=.tr t::r'
    ·obtain ⟨t,r',rfl⟩:=hb;erw[NF,e,bind_some];rfl
    ·have hb':∀t r,b≠.tr t::r:=λt r z=>hb ⟨t,r,z⟩;have en:NF (.nt::r)=none:=by
      erw[NF,e];split
      ·rename_i t r' z;exact absurd (Option.some.inj z) (hb' t r')
      ·rfl
     rw[en];rfl
 | .tr t::r,acc,aU=>by
  refine ⟨λk=>?_,λw=>?_⟩
  ·show res acc aU (.inr (qG k t)) r=((NF r).map _).bind _;rw[(tV (its:=r)).2];cases NF r with
   | none=>rfl
   | some b=>erw[map_some,bind_some];rw[DP]
  ·show none=((NF r).map _).bind _;cases NF r with
   | none=>rfl
   | some b=>rfl
 | .an::r,acc,aU=>by
  refine ⟨λk=>?_,λw=>?_⟩
  ·show none=((NF r).map _).bind _;cases NF r with
   | none=>rfl
   | some b=>rfl
  ·show res acc (some (ja aU w)) (.inl 0) r=((NF r).map _).bind _;rw[(tV (its:=r)).1 0];cases NF r with
   | none=>rfl
   | some b=>rfl
 | .or::r,acc,aU=>by
  refine ⟨λk=>?_,λw=>?_⟩
  ·show none=((NF r).map _).bind _;cases NF r with
   | none=>rfl
   | some b=>rfl
  ·show res (some (jo acc (ja aU w))) none (.inl 0) r=((NF r).map _).bind _;rw[(tV (its:=r)).1 0];cases NF r with
   | none=>rfl
   | some b=>rfl
theorem zx {its:List It}:FL its=(rI ([],none) its).bind fin:=by
 have h1:=(nM (its:=its) (acc:=none) (aU:=none) (k:=0)).1;have h2:=(tV (its:=its) (acc:=none) (aU:=none)).1 0;exact (h1.trans h2).symm
inductive Tk where
 | op | cl | nt | an | or | nm (s:S)
def stP:List Fr×Option Sn->Tk->Option (List Fr×Option Sn)
 | (B,none),.op=>some (.op::B,none)
 | (B,none),.nt=>some (.nt::B,none)
 | (B,none),.nm s=>some (B,some (.is s))
 | (B,some w),.an=>some (.an (aQ 1 B w).2::(aQ 1 B w).1,none)
 | (B,some w),.or=>some (.or (aQ 0 B w).2::(aQ 0 B w).1,none)
 | (B,some w),.cl=>match (aQ 0 B w).1 with
  | []=>none
  | _::B'=>some (B',some (aQ 0 B w).2)
 | _,_=>none
def rP:List Fr×Option Sn->List Tk->Option (List Fr×Option Sn)
 | s,[]=>some s
 | s,x::r=>(stP s x).bind λs'=>rP s' r
def eR:List Fr×Option Sn->Option Sn
 | (B,some w)=>if (aQ 0 B w).1.isEmpty then some (aQ 0 B w).2 else none
 | (_,none)=>none
def stL:List (List It)->Tk->Option (List (List It))
 | c::r,.op=>some ([]::c::r)
 | c::r,.nt=>some ((c++[.nt])::r)
 | c::r,.an=>some ((c++[.an])::r)
 | c::r,.or=>some ((c++[.or])::r)
 | c::r,.nm s=>some ((c++[.tr (.is s)])::r)
 | c::r,.cl=>(FL c).bind λt=>match r with
  | []=>none
  | c1::r'=>some ((c1++[.tr t])::r')
 | [],_=>none
def rL:List (List It)->List Tk->Option (List (List It))
 | s,[]=>some s
 | s,x::r=>(stL s x).bind λs'=>rL s' r
def AV:List (List It)->Option Sn
 | c::r=>(FL c).bind λt=>if r.isEmpty then some t else none
 | []=>none
def tW (F:List Fr):Prop:=∀f∈F,eQ 0 f=true
theorem tX {l:Nat}:∀{F:List Fr} {w:Sn},tW F->tW (aQ l F w).1
 | [],w,h=>h
 | f::F,w,h=>by
  show tW (if eQ l f=true then _ else _:List Fr×Sn).1;split
  ·exact tX λg hg=>h g (by simp[hg])
  ·exact h
theorem vS {B B':List Fr}{w w':Option Sn}{x:It}(h:tW B)(e:stI (B,w) x=some (B',w')):tW B':=by
 cases w with
 | none=>
  cases x<;>erw[stI,Option.some.injEq,Prod.mk.injEq,reduceCtorEq]at e
  ·obtain ⟨rfl,_⟩:=e;intro f hf;rcases mem_cons.mp hf with rfl | hf
   ·rfl
   ·exact h f hf
  ·obtain ⟨rfl,_⟩:=e;exact h
 | some w=>
  cases x<;>erw[stI,Option.some.injEq,Prod.mk.injEq,reduceCtorEq]at e
  ·obtain ⟨rfl,_⟩:=e;intro f hf;rcases mem_cons.mp hf with rfl | hf
   ·rfl
   ·exact tX h f hf
  ·obtain ⟨rfl,_⟩:=e;intro f hf;rcases mem_cons.mp hf with rfl | hf
   ·rfl
   ·exact tX h f hf
inductive Fw:List (List It)->List Fr->Prop
 | nil:Fw [] []
 | cons {c:List It} {r:List (List It)} {F B:List Fr}:rI ([],none) c=some (F,none)->tW F->Fw r B->Fw (c::r) (.op::(F++B))
structure Rl (s:List (List It))(B:List Fr)(w:Option Sn):Prop where
 ex:∃c r F B',s=c::r/\B=F++B'/\rI ([],none) c=some (F,w)/\tW F/\Fw r B'
theorem oK {r:List (List It)}{B:List Fr}(h:Fw r B):∀f,B.head?=some f->eQ 0 f=false:=by
 intro f e;cases h with
 | nil=>cases e
 | cons _ _ _=>cases e;rfl
theorem kG {l:Nat}{B:List Fr}(hB:∀f,B.head?=some f->eQ l f=false):∀{F:List Fr} {w:Sn},aQ l (F++B) w=((aQ l F w).1++B,(aQ l F w).2)
 | [],w=>by
  cases B with
  | nil=>rfl
  | cons f B=>
   show (if eQ l f=true then _ else _)=_;rw[hB f rfl,if_neg (by decide)];rfl
 | f::F,w=>by
  show (if eQ l f=true then aQ l (F++B) (fw f w) else _)=((if eQ l f=true then _ else _:List Fr×Sn).1++B,(if eQ l f=true then _ else _:List Fr×Sn).2);split
  ·exact kG hB
  ·rfl
theorem vT:∀{F:List Fr} {w:Sn},tW F->(aQ 0 F w).1=[]
 | [],w,_=>rfl
 | f::F,w,h=>by
  show (if eQ 0 f=true then _ else _:List Fr×Sn).1=_;rw[if_pos (h f (by simp))];exact vT λg hg=>h g (by simp[hg])
def Dead:List (List It)->Prop
 | []=>True
 | c::r=>rI ([],none) c=none\/∃c'∈r,∀F,rI ([],none) c'≠some (F,none)
theorem oM {c c':List It}{r:List (List It)}(h:Dead (c::r))(hn:rI ([],none) c=none->rI ([],none) c'=none):Dead (c'::r):=h.elim (λh=>.inl (hn h)) .inr
theorem h_ {c:List It}{x:It}(h:rI ([],none) c=none):rI ([],none) (c++[x])=none:=by rw[wN,h];rfl
theorem cO:∀{ts:List Tk} {s:List (List It)},Dead s->(rL s ts).bind AV=none
 | [],[],_=>rfl
 | [],c::r,h=>by
  show (FL c).bind _=none;rw[zx];rcases h with h | ⟨c',hc',_⟩
  ·rw[h];rfl
  ·cases (rI ([],none) c).bind fin with
   | none=>rfl
   | some t=>
    show (if r.isEmpty=true then _ else _)=none;rw[if_neg];intro z;rw[List.isEmpty_iff]at z;subst z;cases hc'
 | t::ts,[],_=>by cases t<;>rfl
 | .op::ts,c::r,h=>by
  refine cO (ts:=ts) (s:=[]::c::r) (.inr ?_);rcases h with h | ⟨c',hc',k⟩
  ·exact ⟨c,by simp,λF e=>by rw[h]at e;cases e⟩
  ·exact ⟨c',by simp[hc'],k⟩
 | .nt::ts,c::r,h=>cO (ts:=ts) (oM h h_)
 | .an::ts,c::r,h=>cO (ts:=ts) (oM h h_)
 | .or::ts,c::r,h=>cO (ts:=ts) (oM h h_)
 | .nm s::ts,c::r,h=>cO (ts:=ts) (oM h h_)
 | .cl::ts,c::r,h=>by
  show (((FL c).bind _).bind _).bind _=none;cases ef:FL c with
  | none=>rfl
  | some t=>
   cases r with
   | nil=>rfl
   | cons c1 r=>
    refine cO (ts:=ts) (s:=(c1++[.tr t])::r) ?_;rcases h with h | ⟨c',hc',k⟩
    ·rw[zx,h]at ef;cases ef
    ·rcases mem_cons.mp hc' with rfl | hc'
     ·refine .inl ?_;rw[wN];cases e:rI ([],none) c' with
      | none=>rfl
      | some s=>
       obtain ⟨F,w⟩:=s;cases w with
       | none=>exact absurd e (k F)
       | some w=>rfl
     ·exact .inr ⟨c',hc',k⟩
theorem nN {c:List It}{x:It}{F:List Fr}{w:Option Sn}(h:rI ([],none) c=some (F,w)):rI ([],none) (c++[x])=stI (F,w) x:=by
 rw[wN,h];show (stI (F,w) x).bind _=_;cases stI (F,w) x<;>rfl
theorem run_eq:∀{ts:List Tk} {s:List (List It)} {B:List Fr} {w:Option Sn},Rl s B w->(rL s ts).bind AV=(rP (B,w) ts).bind eR
 | [],s,B,w,⟨c,r,F,B',e1,e2,e3,e4,e5⟩=>by
  subst e1 e2;show (FL c).bind _=eR (F++B',w);rw[zx,e3];cases w with
  | none=>rfl
  | some w=>
   show (if r.isEmpty=true then some (aQ 0 F w).2 else none)=(if _ then _ else _);rw[kG (oK e5),vT e4];cases e5 with
   | nil=>rfl
   | cons _ _ _=>rfl
 | .op::ts,s,B,w,⟨c,r,F,B',e1,e2,e3,e4,e5⟩=>by
  subst e1 e2;cases w with
  | none=>exact run_eq (ts:=ts) (s:=[]::c::r) ⟨[],c::r,[],.op::(F++B'),rfl,rfl,rfl,λf h=>(by cases h),.cons e3 e4 e5⟩
  | some w=>
   refine (cO (ts:=ts) (s:=[]::c::r) (.inr ⟨c,by simp,λF' e=>?_⟩)).trans rfl;rw[e3]at e;cases e
 | .nt::ts,s,B,w,⟨c,r,F,B',e1,e2,e3,e4,e5⟩=>by
  subst e1 e2;have e6:=nN (x:=.nt) e3;cases w with
  | none=>exact run_eq (ts:=ts) (s:=(c++[.nt])::r) ⟨_,r,.nt::F,B',rfl,rfl,e6,vS (w:=none) (x:=.nt) e4 rfl,e5⟩
  | some w=>exact (cO (ts:=ts) (s:=(c++[.nt])::r) (.inl e6)).trans rfl
 | .nm n::ts,s,B,w,⟨c,r,F,B',e1,e2,e3,e4,e5⟩=>by
  subst e1 e2;have e6:=nN (x:=.tr (.is n)) e3;cases w with
  | none=>exact run_eq (ts:=ts) (s:=(c++[.tr (.is n)])::r) ⟨_,r,F,B',rfl,rfl,e6,e4,e5⟩
  | some w=>exact (cO (ts:=ts) (s:=(c++[.tr (.is n)])::r) (.inl e6)).trans rfl
 | .an::ts,s,B,w,⟨c,r,F,B',e1,e2,e3,e4,e5⟩=>by
  subst e1 e2;have e6:=nN (x:=.an) e3;cases w with
  | none=>exact (cO (ts:=ts) (s:=(c++[.an])::r) (.inl e6)).trans rfl
  | some w=>
   have hb:∀f,B'.head?=some f->eQ 1 f=false:=λf e=>by
    cases q:eQ 1 f with
    | false=>rfl
    | true=>have:=HB (l:=0) (by lia) q;rw[oK e5 f e]at this;cases this
   show _=(rP (.an (aQ 1 (F++B') w).2::(aQ 1 (F++B') w).1,none) ts).bind eR;rw[kG hb];exact run_eq (ts:=ts) (s:=(c++[.an])::r) ⟨_,r,.an (aQ 1 F w).2::(aQ 1 F w).1,B',rfl,rfl,e6,vS (w:=some w) (x:=.an) e4 rfl,e5⟩
 | .or::ts,s,B,w,⟨c,r,F,B',e1,e2,e3,e4,e5⟩=>by
  subst e1 e2;have e6:=nN (x:=.or) e3;cases w with
  | none=>exact (cO (ts:=ts) (s:=(c++[.or])::r) (.inl e6)).trans rfl
  | some w=>
   show _=(rP (.or (aQ 0 (F++B') w).2::(aQ 0 (F++B') w).1,none) ts).bind eR;rw[kG (oK e5)];exact run_eq (ts:=ts) (s:=(c++[.or])::r) ⟨_,r,.or (aQ 0 F w).2::(aQ 0 F w).1,B',rfl,rfl,e6,vS (w:=some w) (x:=.or) e4 rfl,e5⟩
 | .cl::ts,s,B,w,⟨c,r,F,B',e1,e2,e3,e4,e5⟩=>by
  subst e1 e2;show (((FL c).bind _).bind _).bind _=_;rw[zx,e3];cases w with
  | none=>rfl
  | some w=>
   show ((match r with | []=>none | c1::r'=>some ((c1++[It.tr (aQ 0 F w).2])::r')).bind _).bind _=((match (aQ 0 (F++B') w).1 with | []=>none | _::B1=>some (B1,some (aQ 0 (F++B') w).2)).bind _).bind _;rw[kG (oK e5),vT e4];cases e5 with
   | nil=>rfl
   | @cons c1 r' F1 B1 e7 e8 e9=>
    exact run_eq (ts:=ts) (s:=(c1++[.tr (aQ 0 F w).2])::r') ⟨_,r',F1,B1,rfl,rfl,nN e7,e8,e9⟩
theorem AW {ts:List Tk}:(rL [[]] ts).bind AV=(rP ([],none) ts).bind eR:=run_eq ⟨[],[],[],[],rfl,rfl,rfl,λf h=>(by cases h),.nil⟩
def alt:Bool->List Tk->Bool
 | e,[]=>!e
 | true,.op::r=>alt true r
 | true,.nt::r=>alt true r
 | true,.nm _::r=>alt false r
 | false,.cl::r=>alt false r
 | false,.an::r=>alt true r
 | false,.or::r=>alt true r
 | _,_::_=>false
theorem gO:∀{ts:List Tk} {B:List Fr} {w:Option Sn} {t:Sn},(rP (B,w) ts).bind eR=some t->alt w.isNone ts=true
 | [],B,none,t,e=>by cases e
 | [],B,some w,t,e=>rfl
 | .op::ts,B,none,t,e=>gO (ts:=ts) (w:=none) e
 | .nt::ts,B,none,t,e=>gO (ts:=ts) (w:=none) e
 | .nm n::ts,B,none,t,e=>gO (ts:=ts) (w:=some (.is n)) e
 | .an::ts,B,none,t,e=>by cases e
 | .or::ts,B,none,t,e=>by cases e
 | .cl::ts,B,none,t,e=>by cases e
 | .an::ts,B,some w,t,e=>gO (ts:=ts) (w:=none) e
 | .or::ts,B,some w,t,e=>gO (ts:=ts) (w:=none) e
 | .op::ts,B,some w,t,e=>by cases e
 | .nt::ts,B,some w,t,e=>by cases e
 | .nm n::ts,B,some w,t,e=>by cases e
 | .cl::ts,B,some w,t,e=>by
  change ((match (aQ 0 B w).1 with | []=>none | _::B'=>some (B',some (aQ 0 B w).2)).bind _).bind _=_ at e;cases q:(aQ 0 B w).1 with
  | nil=>rw[q]at e;cases e
  | cons f B'=>rw[q]at e;exact gO (ts:=ts) (w:=some _) e
def vo (n:S):Bool:=decide (1<=n.length) && (decide (n.length<=12) && !KW.contains n)
def lw (r:S):S:=r.takeWhile λc=>cN.contains c
def pa (r:S):Option S:=match PS.find? λp=>p.isPrefixOf r with
 | some p=>some p
 | none=>if vo (lw r)=true then some (lw r) else none
inductive TP:S->Option (List S)->Prop
 | nil:TP [] (some [])
 | bad {r:S}:r≠[]->pa r=none->TP r none
 | cons {r q:S} {o:Option (List S)}:r≠[]->pa r=some q->TP (r.drop q.length) o->TP r (o.map (q::·))
theorem HD {p r:S}(h:p.isPrefixOf r=true):r=p++r.drop p.length:=by
 rw[isPrefixOf_iff_prefix]at h;obtain ⟨t,rfl⟩:=h;rw[List.drop_left]
theorem oN {r:S}:r=lw r++r.drop (lw r).length/\NL (r.drop (lw r).length)/\∀c∈lw r,c∈cN:=by
 induction r with
 | nil=>exact ⟨rfl,OZ,λc h=>by cases h⟩
 | cons c r ih=>
  by_cases hc:cN.contains c=true
  ·have e:lw (c::r)=c::lw r:=by unfold lw;rw[List.takeWhile_cons_of_pos hc]
   rw[e];refine ⟨?_,ih.2.1,λd hd=>?_⟩
   ·show c::r=c::(lw r++r.drop (lw r).length);rw[<-ih.1]
   ·rcases mem_cons.mp hd with rfl | hd
    ·exact contains_iff_mem.mp hc
    ·exact ih.2.2 d hd
  ·have e:lw (c::r)=[]:=by unfold lw;rw[List.takeWhile_cons_of_neg hc]
   rw[e];refine ⟨rfl,λd hd hm=>hc ?_,λd hd=>by cases hd⟩;cases hd;exact contains_iff_mem.mpr hm
theorem SY {n:S}(h:vo n=true)(l:∀c∈n,c∈cN):GN n:=by
 erw[vo,and_eq_true,decide_eq_true_eq,not_eq_true']at h;refine ⟨h.1,h.2.1,l,λk=>?_⟩;rw[contains_iff_mem.mpr k]at h;cases h.2.2
theorem jV {r q:S}(h:pa r=some q):r=q++r.drop q.length/\(q∈PS\/(GN q/\NL (r.drop q.length))):=by
 unfold pa at h;cases e:PS.find? λp=>p.isPrefixOf r with
 | some p=>
  rw[e]at h;cases h;exact ⟨HD (List.find?_some (p:=λp:S=>p.isPrefixOf r) e),.inl (List.mem_of_find?_eq_some e)⟩
 | none=>
  rw[e]at h;by_cases hg:vo (lw r)=true
  ·erw[if_pos hg,Option.some.injEq]at h;subst h;exact ⟨oN.1,.inr ⟨SY hg oN.2.2,oN.2.1⟩⟩
  ·erw[if_neg hg]at h;cases h
theorem DQ {r q:S}(h:pa r=some q):q≠[]:=by
 rcases (jV h).2 with h | ⟨h,_⟩
 ·rintro rfl;simp[PS,fz,gm,uH,uJ,lQ]at h
 ·rintro rfl;have:=h.lo;simp at this
theorem IW:∀(n:Nat) (r:S),r.length<=n->∃o,TP r o
 | 0,r,h=>by
  obtain rfl:r=[]:=length_eq_zero_iff.mp (by lia);exact ⟨_,.nil⟩
 | n+1,r,h=>by
  by_cases hr:r=[]
  ·subst hr;exact ⟨_,.nil⟩
  ·cases e:pa r with
   | none=>exact ⟨_,.bad hr e⟩
   | some q=>
    have:=length_pos_iff.mpr (DQ e);obtain ⟨o,ho⟩:=IW n (r.drop q.length) (by rw[length_drop];lia);exact ⟨_,.cons hr e ho⟩
theorem wQ {f g:S->Bool}:∀{l:List S},(∀x∈l,f x=g x)->l.find? f=l.find? g
 | [],_=>rfl
 | x::l,h=>by
  rw[find?_cons,find?_cons,h x (by simp),wQ λy hy=>h y (by simp[hy])]
theorem S5 {q r:S}(h:q∈PS\/(GN q/\NL r)):pa (q++r)=some q:=by
 unfold pa;rcases h with h | ⟨g,hr⟩
 ·have e:(PS.find? λp=>p.isPrefixOf (q++r))=some q:=by
   have h2:(PS.find? λp=>p.isPrefixOf (q++r))=PS.find? λp=>decide (p=q):=by
    refine wQ λp hp=>?_;rw[O0 hp h]
   rw[h2];erw[PS,mem_cons,not_mem_nil,or_false]at h;rcases h with rfl | rfl | rfl | rfl | rfl<;>decide
  rw[e]
 ·have e:(PS.find? λp=>p.isPrefixOf (q++r))=none:=by
   rw[List.find?_eq_none];intro p hp;rw[HA g hr hp];decide
  rw[e];have el:lw (q++r)=q:=by
   unfold lw;rw[List.takeWhile_append_of_pos (λc hc=>contains_iff_mem.mpr (g.le c hc))];have:r.takeWhile (λc=>cN.contains c)=[]:=by
    cases r with
    | nil=>rfl
    | cons c r=>
     rw[List.takeWhile_cons_of_neg];intro hc;exact hr c rfl (contains_iff_mem.mp hc)
   rw[this,append_nil]
  rw[el];have hk:KW.contains q=false:=by
   rw[eq_false_iff];exact λz=>g.kw (contains_iff_mem.mp z)
  have hg:vo q=true:=by
   have h1:=g.lo;have h2:=g.hi;erw[vo,and_eq_true,decide_eq_true_eq,not_eq_true'];exact ⟨h1,h2,hk⟩
  erw[if_pos hg]
def kt (s:S):Tk:=if s=tx "(" then .op else if s=tx ")" then .cl else if s=tx "not" then .nt else if s=tx "and" then .an else if s=tx "or" then .or else .nm s
theorem ic:kt (tx "(")=.op:=by simp[kt]
theorem ig:kt (tx ")")=.cl:=by simp[kt,show tx ")"≠tx "(" by decide]
theorem iV:kt (tx "not")=.nt:=by simp[kt,show tx "not"≠tx "(" by decide,show tx "not"≠tx ")" by decide]
theorem gn:kt (tx "and")=.an:=by simp[kt,show tx "and"≠tx "(" by decide,show tx "and"≠tx ")" by decide,show tx "and"≠tx "not" by decide]
theorem gq:kt (tx "or")=.or:=by simp[kt,show tx "or"≠tx "(" by decide,show tx "or"≠tx ")" by decide,show tx "or"≠tx "not" by decide,show tx "or"≠tx "and" by decide]
theorem DR {s:S}(g:GN s):kt s=.nm s:=by
 have h1:s≠tx "(":=by rintro rfl;have:=gN (g.le 40 (by rw[fz];simp));lia
 have h2:s≠tx ")":=by rintro rfl;have:=gN (g.le 41 (by rw[gm];simp));lia
 have h3:s≠tx "not":=by rintro rfl;exact g.kw (by simp[KW])
 have h4:s≠tx "and":=by rintro rfl;exact g.kw (by simp[KW])
 have h5:s≠tx "or":=by rintro rfl;exact g.kw (by simp[KW])
 simp[kt,h1,h2,h3,h4,h5]
def sep (c:Nat):Bool:=decide (c=40) || (decide (c=41) || decide (c=32))
def lt:S->List S
 | []=>[]
 | c::r=>if sep c=true then [c]::lt r else match r with
  | []=>[[c]]
  | d::_=>if sep d=true then [c]::lt r else match lt r with
   | w::ws=>(c::w)::ws
   | []=>[[c]]
theorem eS {c:Nat}{r:S}(h:sep c=true):lt (c::r)=[c]::lt r:=by
 rw[lt.eq_def];erw[h,if_true]
def SP (r:S):Prop:=∀c,r.head?=some c->sep c=true
theorem nO:∀{w r:S},w≠[]->(∀c∈w,sep c=false)->SP r->lt (w++r)=w::lt r
 | [],r,h,_,_=>absurd rfl h
 | [c],r,_,hw,hr=>by
  have hc:=hw c (by simp);cases r with
  | nil=>
   show lt [c]=_;rw[lt.eq_def];erw[hc];rfl
  | cons d r=>
   show lt (c::d::r)=_;rw[lt.eq_def];erw[hc,hr d rfl,if_true];rfl
 | c::d::w,r,_,hw,hr=>by
  have hc:=hw c (by simp);have hd:=hw d (by simp);have ih:=nO (w:=d::w) (r:=r) (by simp) (λx hx=>hw x (mem_cons_of_mem _ hx)) hr;show lt (c::d::(w++r))=_;rw[lt.eq_def];erw[hc,hd];rw[show lt (d::(w++r))=(d::w)::lt r from ih];rfl
def sB:S:=[32]
def J3:List S:=[tx "not",tx "and",tx "or"]
def J2:List S:=[tx "and",tx "or"]
def ck (a t b:S):Bool:=(if t=sB then !(decide (a=sB) || decide (b=sB)) && (J3.contains a || J2.contains b) else true) && ((if J2.contains t then decide (a=sB) && decide (b=sB) else true) && (if t=tx "not" then decide (b=sB) else true))
def ik (r:List S):S:=r.headD sB
def bl:S->List S->Bool
 | _,[]=>true
 | a,t::r=>ck a t (ik r) && bl t r
def kinds (ts:List S):List Tk:=(ts.filter λt=>!decide (t=sB)).map kt
def WK:List S:=[tx "always",tx "where",tx "usually"]
def jD (w:S):Bool:=!WK.contains w && (w.all (λc=>cN.contains c) && decide (w.length<=12))
def wR:Tk->Bool
 | .nm _=>true
 | _=>false
def Cd (ts:List S):Prop:=∀t∈ts,t≠sB->wR (kt t)=true->jD t=true
theorem fA {ts:List S}:kinds (sB::ts)=kinds ts:=by simp[kinds]
theorem dG {t:S}{ts:List S}(h:t≠sB):kinds (t::ts)=kt t::kinds ts:=by
 simp[kinds,h]
theorem AX:tx "("≠sB:=by decide
theorem yc:tx ")"≠sB:=by decide
theorem DS:tx "not"≠sB:=by decide
theorem O4:tx "and"≠sB:=by decide
theorem O5:tx "or"≠sB:=by decide
theorem DU {a t b:S}(h1:t≠sB)(h2:t∉J3):ck a t b=true:=by
 have h3:J2.contains t=false:=by
  rw[eq_false_iff];intro h;exact h2 (by have:=contains_iff_mem.mp h;simp[J2]at this;simp[J3];exact .inr this)
 have h4:t≠tx "not":=by rintro rfl;exact h2 (by simp[J3])
 erw[ck,if_neg h1,h3,false_eq_true,if_false,if_neg h4,Bool.and_self]
theorem DV {a b:S}:ck a (tx "not") b=decide (b=sB):=by
 have h3:J2.contains (tx "not")=false:=by decide
 erw[ck,if_neg DS,h3,false_eq_true,if_false,if_true,Bool.true_and]
theorem vU {a b t:S}(h:t=tx "and"\/t=tx "or"):ck a t b=(decide (a=sB) && decide (b=sB)):=by
 have h3:J2.contains t=true:=by rcases h with rfl | rfl<;>decide
 have h4:t≠tx "not":=by rcases h with rfl | rfl<;>decide
 have h5:t≠sB:=by rcases h with rfl | rfl<;>decide
 erw[ck,if_neg h5,h3,if_true,if_neg h4,Bool.true_and,Bool.and_true]
theorem DW {a b:S}:ck a sB b=(!(decide (a=sB) || decide (b=sB)) && (J3.contains a || J2.contains b)):=by
 have h3:J2.contains sB=false:=by decide
 have h4:sB≠tx "not":=by decide
 erw[ck,if_true,h3,false_eq_true,if_false,if_neg h4,Bool.and_true]
theorem O6 {n:S}(g:GN n):∀c∈n,sep c=false:=λc hc=>by
 have:=gN (g.le c hc);simp[sep];lia
theorem AY {n:S}(g:GN n):n≠[]:=by
 rintro rfl;have:=g.lo;simp at this
theorem zy {n:S}(g:GN n):n≠sB:=by
 rintro rfl;have:=gN (g.le 32 (by simp[sB]))
 lia
theorem S6 {n:S}(g:GN n):n∉J3:=λh=>g.kw (by erw[J3,mem_cons,not_mem_nil,or_false]at h;rcases h with rfl | rfl | rfl<;>simp[KW])
theorem tY {c:Nat}{r:S}(h:sep c=true):SP (c::r):=λd e=>by cases e;exact h
theorem S7 {r:S}:lt (tx "("++r)=tx "("::lt r:=by rw[fz];exact eS (by decide)
theorem S8 {r:S}:lt (tx ")"++r)=tx ")"::lt r:=by rw[gm];exact eS (by decide)
theorem S9 {r:S}:lt (tx " and "++r)=sB::tx "and"::sB::lt r:=by
 have e:tx " and "++r=32::(tx "and"++(32::r)):=by
  rw[uH,show tx "and"=[97,110,100] by decide];rfl
 rw[e,eS (by decide),nO (by decide) (by decide) (tY (by decide)),eS (by decide)];rfl
theorem S_ {r:S}:lt (tx " or "++r)=sB::tx "or"::sB::lt r:=by
 have e:tx " or "++r=32::(tx "or"++(32::r)):=by
  rw[uJ,show tx "or"=[111,114] by decide];rfl
 rw[e,eS (by decide),nO (by decide) (by decide) (tY (by decide)),eS (by decide)];rfl
theorem Ta {r:S}:lt (tx "not "++r)=tx "not"::sB::lt r:=by
 have e:tx "not "++r=tx "not"++(32::r):=by
  rw[lQ,AQ];rfl
 rw[e,nO (by decide) (by decide) (tY (by decide)),eS (by decide)];rfl
theorem KL {q r:S}(h:q∈PS)(hn:NL (q++r)):SP (q++r):=by
 erw[PS,mem_cons,not_mem_nil,or_false]at h;rcases h with rfl | rfl | rfl | rfl | rfl
 ·rw[fz];exact tY (by decide)
 ·rw[gm];exact tY (by decide)
 ·rw[uH];exact tY (by decide)
 ·rw[uJ];exact tY (by decide)
 ·rw[lQ]at hn;exact absurd (by rw[AU];decide) (hn 110 rfl)
theorem Tb {r:S}{o:Option (List S)}(h:TP r o)(ho:o≠none)(hn:NL r):SP r:=by
 cases h with
 | nil=>exact λc e=>by cases e
 | bad _ _=>exact absurd rfl ho
 | @cons _ q o h1 h2 h3=>
  obtain ⟨e1,e2⟩:=jV h2;rw[e1]at hn ⊢;rcases e2 with e2 | ⟨g,_⟩
  ·exact KL e2 hn
  ·obtain ⟨c,n',rfl⟩:=List.exists_cons_of_ne_nil (AY g);exact absurd (g.le c (by simp)) (hn c rfl)
def cB (q:S):Tk:=kt (tk q)
theorem IX:tx "("∉J3:=by decide
theorem IY:tx ")"∉J3:=by decide
theorem cP {t:S}{ts:List S}(h:t≠sB->wR (kt t)=true->jD t=true)(r:Cd ts):Cd (t::ts):=λx hx=>by
 rcases mem_cons.mp hx with rfl | hx
 ·exact h
 ·exact r x hx
theorem O7 {n:S}(g:GN n):jD n=true:=by
 have h1:WK.contains n=false:=by
  rw[eq_false_iff];intro h;have:=contains_iff_mem.mp h;erw[WK,mem_cons,not_mem_nil,or_false]at this;exact g.kw (by rcases this with rfl | rfl | rfl<;>simp[KW])
 have h2:n.all (λc=>cN.contains c)=true:=all_eq_true.mpr λc hc=>contains_iff_mem.mpr (g.le c hc);have h3:=g.hi;erw[jD,h1,h2,Bool.not_false,Bool.true_and,decide_eq_true_eq];exact h3
theorem IZ {a b t:S}(ht:t=tx "and"\/t=tx "or")(ha:a≠sB):ck a sB t=true:=by
 rw[DW];have h1:decide (a=sB)=false:=decide_eq_false ha;have h2:decide (t=sB)=false:=decide_eq_false (by rcases ht with rfl | rfl<;>decide);have h3:J2.contains t=true:=by rcases ht with rfl | rfl<;>decide
 rw[h1,h2,h3];simp
theorem DX {b t:S}(ht:t∈J3)(hb:b≠sB):ck t sB b=true:=by
 rw[DW];have h1:decide (b=sB)=false:=decide_eq_false hb;have h2:decide (t=sB)=false:=decide_eq_false (by rintro rfl;revert ht;decide);have h3:J3.contains t=true:=contains_iff_mem.mpr ht;rw[h1,h2,h3];simp
theorem t1:∀{r:S} {o:Option (List S)},TP r o->∀qs,o=some qs->∀(e:Bool) (a:S),alt e (qs.map cB)=true->(e=false->a≠sB)->bl a (lt r)=true/\kinds (lt r)=qs.map cB/\Cd (lt r)/\(e=true->ik (lt r)≠sB):=by
 intro r o h
 induction h with
 | nil=>
  intro qs e0 e a ha _;cases e0;refine ⟨rfl,rfl,(λt h=>by cases h),λhe=>?_⟩;subst he;cases ha
 | bad _ _=>intro qs e0;cases e0
 | @cons r q o h1 h2 h3 ih=>
  intro qs e0 e a ha Vv;obtain ⟨Ce,rfl,rfl⟩:=map_eq_some_iff.mp e0;obtain ⟨er,hq⟩:=jV h2;generalize r.drop q.length=r' at *;subst er;rcases hq with hq | ⟨g,hnl⟩
  ·erw[PS,mem_cons,not_mem_nil,or_false]at hq;rcases hq with rfl | rfl | rfl | rfl | rfl
   ·have ek:cB (tx "(")=.op:=by rw[cB,DI,ic]
    rw[map_cons,ek]at ha ⊢;cases e with
    | false=>cases ha
    | true=>
     obtain ⟨i1,i2,i3,i4⟩:=ih Ce rfl true (tx "(") ha (λz=>by cases z);rw[S7,dG AX,ic,i2];refine ⟨?_,rfl,cP (λ_ z=>by rw[ic]at z;cases z) i3,λ_=>AX⟩;show (ck a _ _ && bl _ _)=true;rw[DU AX IX,i1];rfl
   ·have ek:cB (tx ")")=.cl:=by rw[cB,DJ,ig]
    rw[map_cons,ek]at ha ⊢;cases e with
    | true=>cases ha
    | false=>
     obtain ⟨i1,i2,i3,i4⟩:=ih Ce rfl false (tx ")") ha (λ_=>yc);rw[S8,dG yc,ig,i2];refine ⟨?_,rfl,cP (λ_ z=>by rw[ig]at z;cases z) i3,λz=>by cases z⟩;show (ck a _ _ && bl _ _)=true;rw[DU yc IY,i1];rfl
   ·have ek:cB (tx " and ")=.an:=by rw[cB,DK,gn]
    rw[map_cons,ek]at ha ⊢;cases e with
    | true=>cases ha
    | false=>
     obtain ⟨i1,i2,i3,i4⟩:=ih Ce rfl true sB ha (λz=>by cases z);rw[S9,fA,dG O4,fA,gn,i2];refine ⟨?_,rfl,cP (λz=>absurd rfl z) (cP (λ_ z=>by rw[gn]at z;cases z) (cP (λz=>absurd rfl z) i3)),λz=>by cases z⟩;show (ck a sB (tx "and") && (ck sB (tx "and") sB && (ck (tx "and") sB (ik (lt r')) && bl sB (lt r'))))=true;rw[IZ (b:=sB) (.inl rfl) (Vv rfl),vU (.inl rfl),DX (by simp[J3]) (i4 rfl),i1];rfl
   ·have ek:cB (tx " or ")=.or:=by rw[cB,DL,gq]
    rw[map_cons,ek]at ha ⊢;cases e with
    | true=>cases ha
    | false=>
     obtain ⟨i1,i2,i3,i4⟩:=ih Ce rfl true sB ha (λz=>by cases z);rw[S_,fA,dG O5,fA,gq,i2];refine ⟨?_,rfl,cP (λz=>absurd rfl z) (cP (λ_ z=>by rw[gq]at z;cases z) (cP (λz=>absurd rfl z) i3)),λz=>by cases z⟩;show (ck a sB (tx "or") && (ck sB (tx "or") sB && (ck (tx "or") sB (ik (lt r')) && bl sB (lt r'))))=true;rw[IZ (b:=sB) (.inr rfl) (Vv rfl),vU (.inr rfl),DX (by simp[J3]) (i4 rfl),i1];rfl
   ·have ek:cB (tx "not ")=.nt:=by rw[cB,DM,iV]
    rw[map_cons,ek]at ha ⊢;cases e with
    | false=>cases ha
    | true=>
     obtain ⟨i1,i2,i3,i4⟩:=ih Ce rfl true sB ha (λz=>by cases z);rw[Ta,dG DS,fA,iV,i2];refine ⟨?_,rfl,cP (λ_ z=>by rw[iV]at z;cases z) (cP (λz=>absurd rfl z) i3),λ_=>DS⟩;show (ck a (tx "not") sB && (ck (tx "not") sB (ik (lt r')) && bl sB (lt r')))=true;rw[DV,DX (by simp[J3]) (i4 rfl),i1];rfl
  ·have ek:cB q=.nm q:=by rw[cB,DN g,DR g]
   rw[map_cons,ek]at ha ⊢;cases e with
   | false=>cases ha
   | true=>
    obtain ⟨i1,i2,i3,i4⟩:=ih Ce rfl false q ha (λ_=>zy g);rw[nO (AY g) (O6 g) (Tb h3 (by simp) hnl),dG (zy g),DR g,i2];refine ⟨?_,rfl,cP (λ_ _=>O7 g) i3,λ_=>zy g⟩;show (ck a q _ && bl _ _)=true;rw[DU (zy g) (S6 g),i1];rfl
inductive LX:List S->Prop
 | nil:LX []
 | sp {c:Nat} {ts:List S}:sep c=true->LX ts->LX ([c]::ts)
 | wd {w:S} {ts:List S}:w≠[]->(∀c∈w,sep c=false)->SP ts.flatten->LX ts->LX (w::ts)
theorem uK:∀{r:S},LX (lt r)/\(lt r).flatten=r
 | []=>⟨.nil,rfl⟩
 | c::r=>by
  obtain ⟨i1,i2⟩:=uK (r:=r);by_cases hc:sep c=true
  ·rw[eS hc];exact ⟨.sp hc i1,by rw[flatten_cons,i2];rfl⟩
  ·have hc':sep c=false:=by simpa using hc
   cases r with
   | nil=>
    rw[lt.eq_def];erw[hc'];exact ⟨.wd (by simp) (by simpa using hc') (λd e=>by cases e) .nil,rfl⟩
   | cons d r=>
    by_cases hd:sep d=true
    ·have:lt (c::d::r)=[c]::lt (d::r):=by
      rw[lt.eq_def];erw[hc',hd,if_true];rfl
     rw[this];refine ⟨.wd (by simp) (by simpa using hc') ?_ i1,by rw[flatten_cons,i2];rfl⟩;rw[i2];exact tY hd
    ·have hd':sep d=false:=by simpa using hd
     have:lt (c::d::r)=match lt (d::r) with | w::ws=>(c::w)::ws | []=>[[c]]:=by
      rw[lt.eq_def];erw[hc',hd'];rfl
     rw[this];generalize lt (d::r)=ts at i1 i2;cases i1 with
     | nil=>cases i2
     | @sp c' ts hs hl=>
      change c'::ts.flatten=_ at i2;injection i2 with z _
      rw[z]at hs;rw[hs]at hd';cases hd'
     | @wd w ts h1 h2 h3 h4=>
      refine ⟨.wd (by simp) (λx hx=>?_) h3 h4,?_⟩
      ·rcases mem_cons.mp hx with rfl | hx
       ·exact hc'
       ·exact h2 x hx
      ·rw[flatten_cons,cons_append,<-flatten_cons,i2]
theorem vV (s:S):s=tx "("\/s=tx ")"\/s=tx "not"\/s=tx "and"\/s=tx "or"\/(kt s=.nm s/\s∉J3):=by
 by_cases h1:s=tx "("
 ·exact .inl h1
 by_cases h2:s=tx ")"
 ·exact .inr (.inl h2)
 by_cases h3:s=tx "not"
 ·exact .inr (.inr (.inl h3))
 by_cases h4:s=tx "and"
 ·exact .inr (.inr (.inr (.inl h4)))
 by_cases h5:s=tx "or"
 ·exact .inr (.inr (.inr (.inr (.inl h5))))
 refine .inr (.inr (.inr (.inr (.inr ⟨?_,?_⟩))))
 ·erw[kt,if_neg h1,if_neg h2,if_neg h3,if_neg h4,if_neg h5]
 ·erw[J3,mem_cons,not_mem_nil,or_false];rintro (z | z | z)
  ·exact h3 z
  ·exact h4 z
  ·exact h5 z
theorem O8 {w:S}(h:jD w=true)(hn:w≠[])(hj:w∉J3):GN w:=by
 erw[jD,and_eq_true,not_eq_true',decide_eq_true_eq]at h;obtain ⟨h1,h2,h3⟩:=h;refine ⟨length_pos_iff.mpr hn,h3,λc hc=>contains_iff_mem.mp (all_eq_true.mp h2 c hc),λhk=>?_⟩;erw[KW,mem_cons,not_mem_nil,or_false]at hk;rcases hk with rfl | rfl | rfl | rfl | rfl | rfl
 ·revert h1;decide
 ·revert h1;decide
 ·revert h1;decide
 ·exact hj (by simp[J3])
 ·exact hj (by simp[J3])
 ·exact hj (by simp[J3])
theorem jW {q r:S}{qs:List S}(h:q∈PS\/(GN q/\NL r))(hq:q≠[])(t:TP r (some qs)):TP (q++r) (some (q::qs)):=by
 have:=TP.cons (r:=q++r) (by simp[hq]) (S5 h) (o:=some qs) (by rw[List.drop_left];exact t);exact this
theorem Tc {r:S}(h:SP r):NL r:=λc e hc=>by
 have:=gN hc;have h2:=h c e;simp[sep]at h2
 lia
theorem Fx {c:Nat}(h:sep c=true):[c]=tx "("\/[c]=tx ")"\/[c]=sB:=by
 erw[sep,or_eq_true,decide_eq_true_eq]at h;rcases h with rfl | rfl | rfl
 ·exact .inl (by decide)
 ·exact .inr (.inl (by decide))
 ·exact .inr (.inr rfl)
theorem wU {t:S}{ts:List S}(h:Cd (t::ts)):Cd ts:=λx hx=>h x (mem_cons_of_mem _ hx)
theorem zz {t:S}{ts:List S}(h:LX (t::ts)):LX ts:=by
 cases h with
 | sp _ h=>exact h
 | wd _ _ _ h=>exact h
theorem Td {a b:S}(h:ck a sB b=true)(ha:a∉J3):a≠sB/\b∈J2:=by
 rw[DW]at h;erw[and_eq_true,not_eq_true',Bool.or_eq_false_iff,decide_eq_false_iff_not,or_eq_true]at h;obtain ⟨⟨h1,h2⟩,h3⟩:=h;refine ⟨h1,?_⟩;rcases h3 with h3 | h3
 ·exact absurd (contains_iff_mem.mp h3) ha
 ·exact contains_iff_mem.mp h3
theorem t2:∀(n:Nat) {ts:List S},ts.length<=n->∀{e:Bool} {a:S},LX ts->bl a ts=true->Cd ts->alt e (kinds ts)=true->(e=true->a=sB\/a=tx "(")->(e=false->a≠sB/\a∉J3)->∃qs,TP ts.flatten (some qs)/\qs.map cB=kinds ts
 | n,[],_,e,a,_,_,_,_,_,_=>⟨[],.nil,rfl⟩
 | 0,_::_,hn,_,_,_,_,_,_,_,_=>by simp at hn
 | n+1,t::r,hn,e,a,lx,hb,hw,ha,c1,c2=>by
  have hn':r.length<=n:=by simpa using hn
  have hb2:ck a t (ik r)=true/\bl t r=true:=by
   have:(ck a t (ik r) && bl t r)=true:=hb;simpa using this
  have Fy:=zz lx;have hw2:=wU hw;cases lx with
  | @sp c _ hs _=>
   rcases Fx hs with ec | ec | ec
   ·rw[ec]at hb2 ha ⊢;rw[dG AX,ic]at ha ⊢;cases e with
    | false=>cases ha
    | true=>
     obtain ⟨qs,i1,i2⟩:=t2 n hn' (e:=true) (a:=tx "(") Fy hb2.2 hw2 ha (λ_=>.inr rfl) (λz=>by cases z);refine ⟨tx "("::qs,?_,by rw[map_cons,i2,cB,DI,ic]⟩;rw[flatten_cons];exact jW (.inl (by simp[PS])) (by decide) i1
   ·rw[ec]at hb2 ha ⊢;rw[dG yc,ig]at ha ⊢;cases e with
    | true=>cases ha
    | false=>
     obtain ⟨qs,i1,i2⟩:=t2 n hn' (e:=false) (a:=tx ")") Fy hb2.2 hw2 ha (λz=>by cases z) (λ_=>⟨yc,IY⟩);refine ⟨tx ")"::qs,?_,by rw[map_cons,i2,cB,DJ,ig]⟩;rw[flatten_cons];exact jW (.inl (by simp[PS])) (by decide) i1
   ·rw[ec]at hb2 ha ⊢;rw[fA]at ha ⊢;have an:a∉J3:=by
     cases e with
     | false=>exact (c2 rfl).2
     | true=>
      rcases c1 rfl with rfl | rfl
      ·decide
      ·exact IX
    obtain ⟨b1,b2⟩:=Td hb2.1 an;cases r with
    | nil=>exact absurd b2 (by decide)
    | cons t' r=>
     change t'∈J2 at b2;have bj:t'=tx "and"\/t'=tx "or":=by simpa [J2] using b2
     have nb:t'≠sB:=by rcases bj with rfl | rfl<;>decide
     have hb3:ck sB t' (ik r)=true/\bl t' r=true:=by
      have:(ck sB t' (ik r) && bl t' r)=true:=hb2.2;simpa using this
     have Zn:=zz Fy;have Zo:=wU hw2;rw[dG nb]at ha ⊢;cases e with
     | true=>rcases bj with rfl | rfl<;>first | (rw[gn]at ha;cases ha) | (rw[gq]at ha;cases ha)
     | false=>
      have ha':alt true (kinds r)=true:=by rcases bj with rfl | rfl<;>first | (rw[gn]at ha;exact ha) | (rw[gq]at ha;exact ha)
      have hr:ik r=sB:=by
       have:=hb3.1;rw[vU bj]at this;simpa using this
      cases r with
      | nil=>cases ha'
      | cons s r=>
       change s=sB at hr;subst hr;rw[fA]at ha' ⊢;have hb4:ck t' sB (ik r)=true/\bl sB r=true:=by
        have:(ck t' sB (ik r) && bl sB r)=true:=hb3.2;simpa using this
       obtain ⟨qs,i1,i2⟩:=t2 n (by simp at hn';lia) (e:=true) (a:=sB) (zz Zn) hb4.2 (wU Zo) ha' (λ_=>.inl rfl) (λz=>by cases z);rcases bj with rfl | rfl
       ·refine ⟨tx " and "::qs,?_,by rw[map_cons,i2,cB,DK,gn]⟩;have ef:(sB::tx "and"::sB::r).flatten=tx " and "++r.flatten:=by
         erw[flatten_cons];rw[uH,show tx "and"=[97,110,100] by decide];rfl
        rw[ef];exact jW (.inl (by simp[PS])) (by decide) i1
       ·refine ⟨tx " or "::qs,?_,by rw[map_cons,i2,cB,DL,gq]⟩;have ef:(sB::tx "or"::sB::r).flatten=tx " or "++r.flatten:=by
         erw[flatten_cons];rw[uJ,show tx "or"=[111,114] by decide];rfl
        rw[ef];exact jW (.inl (by simp[PS])) (by decide) i1
  | wd w1 w2 w3 w4=>
   have nb:t≠sB:=by
    rintro rfl;have:=w2 32 (by simp[sB]);revert this;decide
   rw[dG nb]at ha ⊢;rcases vV t with rfl | rfl | rfl | hj | hj | ⟨k1,k2⟩
   ·exact absurd (w2 40 (by rw[fz];simp)) (by decide)
   ·exact absurd (w2 41 (by rw[gm];simp)) (by decide)
   ·rw[iV]at ha ⊢;cases e with
    | false=>cases ha
    | true=>
     have hr:ik r=sB:=by
      have:=hb2.1;rw[DV]at this;simpa using this
     cases r with
     | nil=>cases ha
     | cons s r=>
      change s=sB at hr;subst hr;change alt true (kinds (sB::r))=true at ha;rw[fA]at ha ⊢;have hb4:ck (tx "not") sB (ik r)=true/\bl sB r=true:=by
       have:(ck (tx "not") sB (ik r) && bl sB r)=true:=hb2.2;simpa using this
      obtain ⟨qs,i1,i2⟩:=t2 n (by simp at hn';lia) (e:=true) (a:=sB) (zz Fy) hb4.2 (wU hw2) ha (λ_=>.inl rfl) (λz=>by cases z);refine ⟨tx "not "::qs,?_,by rw[map_cons,i2,cB,DM,iV]⟩;have ef:(tx "not"::sB::r).flatten=tx "not "++r.flatten:=by
       erw[flatten_cons];rw[lQ,AQ];rfl
      rw[ef];exact jW (.inl (by simp[PS])) (by decide) i1
   ·subst hj;rw[gn]at ha;cases e with
    | true=>cases ha
    | false=>
     have:=hb2.1;rw[vU (.inl rfl)]at this;erw[and_eq_true,decide_eq_true_eq]at this;exact absurd this.1 (c2 rfl).1
   ·subst hj;rw[gq]at ha;cases e with
    | true=>cases ha
    | false=>
     have:=hb2.1;rw[vU (.inr rfl)]at this;erw[and_eq_true,decide_eq_true_eq]at this;exact absurd this.1 (c2 rfl).1
   ·rw[k1]at ha ⊢;cases e with
    | false=>cases ha
    | true=>
     have g:=O8 (hw t (by simp) nb (by rw[k1];rfl)) w1 k2;obtain ⟨qs,i1,i2⟩:=t2 n hn' (e:=false) (a:=t) Fy hb2.2 hw2 ha (λz=>by cases z) (λ_=>⟨nb,k2⟩);refine ⟨t::qs,?_,by rw[map_cons,i2,cB,DN g,k1]⟩;rw[flatten_cons];exact jW (.inr ⟨g,Tc w3⟩) w1 i1
def iW (o:Option (List S)):Option Sn:=o.bind λqs=>(rP ([],none) (qs.map cB)).bind eR
def lR (r:S):Option Sn:=if bl sB (lt r)=true/\(∀t∈lt r,t≠sB->wR (kt t)=true->jD t=true) then (rL [[]] (kinds (lt r))).bind AV else none
theorem O9:∀{r:S} {o:Option (List S)},TP r o->∀{o':Option (List S)},TP r o'->o=o':=by
 intro r o h
 induction h with
 | nil=>
  intro o' h';cases h' with
  | nil=>rfl
  | bad h _=>exact absurd rfl h
  | cons h _ _=>exact absurd rfl h
 | bad h1 h2=>
  intro o' h';cases h' with
  | nil=>exact absurd rfl h1
  | bad _ _=>rfl
  | cons _ h3 _=>rw[h2]at h3;cases h3
 | cons h1 h2 h3 ih=>
  intro o' h';cases h' with
  | nil=>exact absurd rfl h1
  | bad _ h4=>rw[h2]at h4;cases h4
  | cons _ h4 h5=>
   rw[h2]at h4;cases h4;rw[ih h5]
theorem KO {r:S}{o:Option (List S)}(h:TP r o):lR r=iW o:=by
 have lx:=uK (r:=r);cases eP:iW o with
 | some t=>
  cases o with
  | none=>cases eP
  | some qs=>
   have al:=gO (ts:=qs.map cB) (B:=[]) (w:=none) (t:=t) eP;obtain ⟨b1,b2,b3,_⟩:=t1 h qs rfl true sB al (λz=>by cases z);unfold lR;rw[if_pos ⟨b1,b3⟩,b2,AW];exact eP
 | none=>
  cases eL:lR r with
  | none=>rfl
  | some t=>
   unfold lR at eL;split at eL
   ·rename_i hh;rw[AW]at eL;have al:=gO (ts:=kinds (lt r)) (B:=[]) (w:=none) (t:=t) eL;obtain ⟨qs,i1,i2⟩:=t2 _ (le_refl _) (e:=true) (a:=sB) lx.1 hh.1 hh.2 al (λ_=>.inl rfl) (λz=>by cases z);rw[lx.2]at i1;have:=O9 h i1;subst this;have:iW (some qs)=some t:=by
     show (rP ([],none) (qs.map cB)).bind eR=some t;rw[i2];exact eL
    rw[this]at eP;cases eP
   ·cases eL
theorem yd {p q:Prim}{a b c:Ex}{Γ:bS}{σ:Lo}:aF sb Γ E (.chain p q a b c) σ h Q=aF sb Γ E a σ h (λx h1=>aF sb Γ E b σ h1 λy h2=>match prim sb p [x,y] h2 with
  | some (.bl true,h3)=>aF sb Γ E c σ h3 λz h4=>match prim sb q [y,z] h4 with
   | some (v,h5)=>Q v h5
   | none=>False
  | some (.bl false,h3)=>Q (.bl false) h3
  | _=>False):=by erw[aF]<;>rfl
theorem lS {c:Nat}:∀{s:S},fU [c] s=decide (c∈s)
 | []=>rfl
 | x::r=>by
  show ([c].isPrefixOf (x::r) || fU [c] r)=_;rw[lS (s:=r)];by_cases e:c=x
  ·subst e;simp[isPrefixOf]
  ·have e2:(c == x)=false:=by simp[e]
   simp[isPrefixOf,e,e2]
theorem I_ {c:Nat}:prim sb .yA [.str [c],rW] h=some (.bl (decide (c∈cN)),h):=by
 show some (D.bl (fU [c] cN),h)=_;rw[lS]
theorem DY {t n r:S}{p:Nat}(e:t.drop p=n++r)(hp:p<=t.length)(hn:∀c∈n,c∈cN)(hr:NL r)(q:Q (.int ((p+n.length:Nat):Int)) h):au sb P (d+1) 3 [.str t,.int p] h Q E:=by
 refine wp_call rfl rfl ?_;simp![su];refine qU (λm σ h'=>h'=h/\∃i,i<=n.length/\m=n.length - i/\σ=[⇑t,some (.int ((p+i:Nat):Int))]) (m:=n.length) ⟨rfl,0,by lia,by lia,rfl⟩ ?_;rintro m σ h' ⟨rfl,i,hi,rfl,rfl⟩;have hl:t.length=p+n.length+r.length:=by have:=congrArg List.length e;simp at this;lia
 simp!;by_cases hlt:i < n.length
 ·have ea:bx t ((p+i:Nat):Int)=some n[i]:=by rw[m5,<-getElem?_drop,e,getElem?_append_left hlt,getElem?_eq_getElem hlt]
  rw[decide_eq_true (by lia)];simp![ea,I_,decide_eq_true (hn _ (getElem_mem hlt)),sq];refine ⟨n.length - (i+1),by lia,i+1,by lia,rfl,?_⟩;have:((p+i:Nat):Int) - -1=((p+(i+1):Nat):Int):=by lia
  rw[this]
 ·obtain rfl:i=n.length:=by lia
  cases r with
  | nil=>
   rw[decide_eq_false (by simp at hl;lia)];simp![kc];exact q
  | cons c r'=>
   have ea:bx t ((p+n.length:Nat):Int)=some c:=by rw[m5,<-getElem?_drop,e,getElem?_append_right (le_refl _)];simp
   rw[decide_eq_true (by simp at hl;lia)];simp![ea,I_,decide_eq_false (hr c rfl),kc];exact q
theorem XC {n:S}:prim sb .kQ [.str n,j_] h=some (.bl (KW.contains n != true),h):=by
 have e:prim sb .kQ [.str n,.tup (KW.map .str)] h=(cj (.str n) (KW.map .str)).map λb=>(.bl (b != true),h):=rfl;rw[dO]at e;exact e
theorem HE {t p':S}{p:Nat}(hp:p<=t.length):prim sb .mJ [.str t,.str p',.int p] h=some (.bl (p'.isPrefixOf (t.drop p)),h):=by
 show (if 0<=(p:Int)/\(p:Int)<=t.length then some (D.bl (p'.isPrefixOf (t.drop (p:Int).toNat)),h) else none)=_;rw[if_pos (by lia)];rfl
theorem KP {t n r:S}{p:Nat}(e:t.drop p=n++r)(hp:p<=t.length):cut t (some (p:Int)) (some ((p+n.length:Nat):Int))=n:=by
 have hl:t.length=p+n.length+r.length:=by have:=congrArg List.length e;simp at this;lia
 erw[cut,aV];rw[if_neg (by lia),if_neg (by lia)];have e1:(min (p:Int) (t.length:Int)).toNat=p:=by lia
 have e2:(min ((p+n.length:Nat):Int) (t.length:Int)).toNat=p+n.length:=by lia
 rw[e1,e2,e,show p+n.length - p=n.length by lia];simp
theorem O_ {s:S}:prim sb .kP [.str s] h=some (.bl false,h):=rfl
theorem Pa {s:Nat}:prim sb .kP [.ref s] h=some (.bl false,h):=rfl
theorem KQ {s:S}:prim sb .strip [.str s,.str (tx " ")] h=some (.str (tk s),h):=rfl
def JT:Nat->List S
 | 0=>[tx "not",tx "and",tx "or"]
 | _=>[tx "not",tx "and"]
theorem Te {l:Nat}(hl:l<=1):∀{f:Fr},(JT l).contains (kn f)=eQ l f:=by
 intro f;obtain rfl | rfl:l=0\/l=1:=by lia
 ·cases f
  ·show (JT 0).contains (tx "(")=false;decide
  ·show (JT 0).contains (tx "not")=true;decide
  ·show (JT 0).contains (tx "and")=true;decide
  ·show (JT 0).contains (tx "or")=true;decide
 ·cases f
  ·show (JT 1).contains (tx "(")=false;decide
  ·show (JT 1).contains (tx "not")=true;decide
  ·show (JT 1).contains (tx "and")=true;decide
  ·show (JT 1).contains (tx "or")=false;decide
theorem XF:∀{f:Fr},prim sb .idx [fD f,.int 0] h=some (.str (kn f),h)
 | .op=>rfl
 | .nt=>rfl
 | .an _=>rfl
 | .or _=>rfl
theorem Pb {l:Nat}{w:Sn}:∀{f:Fr},eQ l f=true->prim sb .add [fD f,.tup [sd w]] h=some (sd (fw f w),h)
 | .op,e=>by cases e
 | .nt,_=>rfl
 | .an _,_=>rfl
 | .or _,_=>rfl
theorem Tf {l:Nat}(hl:l<=1){f:Fr}:cj (.str (kn f)) ((JT l).map .str)=some (eQ l f):=by
 rw[dO,Te hl]
theorem je {B:List Fr}{f:Fr}:(f::B).reverse.map fD=B.reverse.map fD++[fD f]:=by simp
theorem uL {l:Nat}{B:List Fr}{w:Sn}(hl:l<=1)(q:Q (sd (aQ l B w).2) (h++[.lst ((aQ l B w).1.reverse.map fD)])):
  au sb P (d+1) 6 [.ref h.length,sd w,.tup ((JT l).map .str)] (h++[.lst (B.reverse.map fD)]) Q E:=by
 refine wp_call rfl rfl ?_;simp![yW];refine qU (λm σ h'=>∃(B':List Fr) (w':Sn),aQ l B' w'=aQ l B w/\m=B'.length/\h'=h++[.lst (B'.reverse.map fD)]/\σ=[some (.ref h.length),some (sd w'),some (.tup ((JT l).map .str))]) (m:=B.length) ⟨B,w,rfl,rfl,rfl,rfl⟩ ?_;rintro m σ h' ⟨B',w',e,rfl,rfl,rfl⟩;cases B' with
 | nil=>
  rw[<-e]at q;have t0:truthy (h++[AO.lst (([]:List Fr).reverse.map fD)]) (.ref h.length)=some false:=uE aq;simp![t0,sx];exact q
 | cons f B'=>
  rw[je];have t1:truthy (h++[AO.lst (B'.reverse.map fD++[fD f])]) (.ref h.length)=some true:=by rw[uE aq];simp
  have ea:bx (B'.reverse.map fD++[fD f]) (-1)=some (fD f):=by rw[rS];simp
  simp![t1,aE aq,ea,XF,Tf hl];cases ej:eQ l f with
  | true=>
   simp![yV,bT aq,uG aq,b6,Pb ej];refine ⟨B'.length,by simp,B',fw f w',?_,rfl,rfl,rfl⟩;rw[<-e];show _=if _ then _ else _
   rw[if_pos ej]
  | false=>
   have:aQ l (f::B') w'=(f::B',w'):=by show (if _ then _ else _)=_;rw[if_neg (by rw[ej];decide)]
   simp![sx];rw[<-e,this,je]at q;exact q
def oD:Option Sn->D
 | none=>.non
 | some w=>sd w
theorem fS {w:Sn}:prim sb .kP [sd w] h=some (.bl false,h):=by cases w<;>rfl
theorem dY {p q:Bool}:ju h (.bl p) (.bl q)=some (p == q):=rfl
theorem Cg:prim sb (.kR bK) [.str (tx "and")] h=some (.bl true,h):=rfl
theorem Fz:prim sb (.kR bK) [.str (tx "or")] h=some (.bl true,h):=rfl
theorem FC:prim sb (.kR bK) [.str (tx ")")] h=some (.bl true,h):=rfl
theorem FD:prim sb (.kR bK) [.str (tx "(")] h=some (.bl false,h):=rfl
theorem FE:prim sb (.kR bK) [.str (tx "not")] h=some (.bl false,h):=rfl
theorem HF:prim sb (.mD bK) [.str (tx "and")] h=some (.tup ((JT 1).map .str),h):=rfl
theorem KR:prim sb (.mD bK) [.str (tx "or")] h=some (.tup ((JT 0).map .str),h):=rfl
theorem KS:prim sb (.mD bK) [.str (tx ")")] h=some (.tup ((JT 0).map .str),h):=rfl
theorem iK {l:Nat}:∀{B:List Fr} {w:Sn},(aQ l B w).1.length<=B.length
 | [],w=>le_refl _
 | f::B,w=>by
  show (if _ then _ else _:List Fr×Sn).1.length<=_;split
  ·have:=iK (l:=l) (B:=B) (w:=fw f w);erw[length_cons];lia
  ·exact le_refl _
theorem Ci:(tx ")" == tx ")")=true:=by decide
theorem Cj:(tx "and" == tx ")")=false:=by decide
theorem Ck:(tx "or" == tx ")")=false:=by decide
theorem KU:(tx "(" == tx ")")=false:=by decide
theorem Cm:(tx "not" == tx ")")=false:=by decide
theorem KY:(tx "(" == tx "(")=true:=by decide
theorem KZ:(tx "not" == tx "(")=false:=by decide
theorem K1:(tx "not" == tx "not")=true:=by decide
theorem HG:(true == false)=false:=rfl
theorem HH:(false == true)=false:=rfl
theorem DZ {n:S}(q:Q (.bl (vo n)) h):au sb P (d+1) 4 [.str n] h Q E:=by
 refine wp_call rfl rfl ?_;unfold vo at q;by_cases l1:1<=n.length
 ·have e1:decide ((1:Int)<=(n.length:Int))=true:=decide_eq_true (by lia);rw[decide_eq_true l1]at q;by_cases l2:n.length<=12
  ·have e2:decide ((n.length:Int)<=12)=true:=decide_eq_true (by lia);rw[decide_eq_true l2]at q;simp![iU,yd,dD,e1,e2,XC];exact q
  ·have e2:decide ((n.length:Int)<=12)=false:=decide_eq_false (by lia);rw[decide_eq_false l2]at q;simp![iU,yd,dD,e1,e2];exact q
 ·have e1:decide ((1:Int)<=(n.length:Int))=false:=decide_eq_false (by lia);rw[decide_eq_false l1]at q;simp![iU,yd,dD,e1];exact q
def oS:Option S->D
 | none=>.non
 | some s=>.str s
theorem Cp {f:S->Bool}:∀{l:List S} {i:Nat} {p:S},(∀x∈l.take i,f x=false)->l[i]?=some p->f p=true->l.find? f=some p
 | [],i,p,_,e,_=>by cases e
 | x::l,0,p,_,e,hp=>by cases e;rw[find?_cons,hp]
 | x::l,i+1,p,h,e,hp=>by
  rw[find?_cons,h x (by simp)];exact Cp (l:=l) (i:=i) (λy hy=>h y (by simp[hy])) (by simpa using e) hp
theorem Bo {t:S}{p:Nat}(hp:p<=t.length)(q:Q (oS (pa (t.drop p))) h):au sb P (d+2) 2 [.str t,.int p] h Q E:=by
 refine wp_call rfl rfl ?_;simp![sj];refine fO (xs:=PS.map .str) (J:=jY (PS.map .str)) (vs:=[vQ]) (h1:=h) (λi σ h'=>h'=h/\(∀x∈PS.take i,x.isPrefixOf (t.drop p)=false)/\∃x,σ=[⇑t,some (.int p),x,none]) (λQ q=>by simp!;exact q) rfl ⟨rfl,by simp,none,rfl⟩ (λi σ h' _ _=>rfl) ?_ ?_
 ·rintro i v σ h' ev ⟨rfl,hni,x,rfl⟩;rw[getElem?_map]at ev;cases e1:PS[i]? with
  | none=>rw[e1]at ev;cases ev
  | some p'=>
   rw[e1]at ev;cases ev;refine ⟨_,rfl,?_⟩;simp![si,HE hp];cases eb:p'.isPrefixOf (t.drop p) with
   | true=>
    have:pa (t.drop p)=some p':=by
     unfold pa;rw[Cp (f:=λz=>z.isPrefixOf (t.drop p)) hni e1 eb]
    rw[this]at q;simp![rZ];exact q
   | false=>
    simp!;refine ⟨λx hx=>?_,_,rfl⟩;rw[show PS.take (i+1)=PS.take i++[p'] by rw[take_succ,e1];rfl,mem_append,mem_singleton]at hx;rcases hx with hx | rfl
    ·exact hni x hx
    ·exact eb
 ·rintro σ h' ⟨rfl,hni,x,rfl⟩;have hni:∀x∈PS,x.isPrefixOf (t.drop p)=false:=by
   have:PS.take (PS.map Z.D.str).length=PS:=by rw[length_map,take_length]
   rwa [this]at hni
  have ef:(PS.find? λz=>z.isPrefixOf (t.drop p))=none:=by
   rw[List.find?_eq_none];intro x hx;rw[hni x hx];decide
  obtain ⟨s1,s2,s3⟩:=oN (r:=t.drop p);simp![rY];refine DY s1 hp s3 s2 ?_;have e2:cu (.str t) (some (p:Int)) (some ((p+(lw (t.drop p)).length:Nat):Int)) h'=some (.str (lw (t.drop p)),h'):=by
   show some (D.str (cut t _ _),h')=_;rw[KP s1 hp]
  simp![e2,rX];refine DZ ?_;unfold pa at q;rw[ef]at q;cases eg:vo (lw (t.drop p)) with
  | true=>
   simp!;erw[if_pos eg]at q;exact q
  | false=>
   simp!;have:¬vo (lw (t.drop p))=true:=by rw[eg];decide
   erw[if_neg this]at q;exact q
theorem FG {t:S}{o:Option (List S)}(tp:TP t o)(hl:t.length<=1000)(qn:o=none->∀h',h<+:h'->Q .non h')(qs:∀al,o=some al->Q (.ref h.length) (h++[.lst ((al.map tk).map .str)])):au sb P (d+3) 1 [.str t] h Q E:=by
 refine wp_call rfl rfl ?_;simp![o8,o7,o6];refine qU (λm σ h'=>∃(ps:List S) (o':Option (List S)) (p:Nat) (x:Option D),p<=t.length/\ps.length<=p/\TP (t.drop p) o'/\o=o'.map (ps++·)/\m=t.length - p/\h'=h++[.lst ((ps.map tk).map .str)]/\σ=[⇑t,some (.ref h.length),some (.int p),x]) (m:=t.length) ⟨[],o,0,none,by lia,by simp,tp,by cases o<;>rfl,rfl,rfl,rfl⟩ ?_;rintro m σ h' ⟨ps,o',p,x,hp,hps,Ja,eo,rfl,rfl,rfl⟩;simp!;by_cases hlt:p < t.length
 ·rw[decide_eq_true (by lia)];simp![o5];refine Bo hp ?_;obtain ⟨r0,er⟩:∃r0,r0=t.drop p:=⟨_,rfl⟩
  have Vw:=congrArg List.length er;rw[length_drop]at Vw;rw[<-er]at Ja ⊢;cases Ja with
  | nil=>simp at Vw;lia
  | bad h1 h2=>
   rw[h2];simp![oS,ji,dC,o4];exact qn eo _ (prefix_append _ _)
  | @cons _ q0 o2 h1 h2 h3=>
   have hq:=length_pos_iff.mpr (DQ h2);have e3:=congrArg List.length (jV h2).1;erw[length_drop,length_append]at e3;rw[h2];simp![oS,ji,O_,o3,bT aq,KQ,b9 aq (show ((ps.map tk).map Z.D.str).length < 16777216 by erw[length_map];lia),b6,oZ];refine ⟨t.length - (p+q0.length),by lia,ps++[q0],o2,p+q0.length,⇑q0,by lia,by simp;lia,by rw[<-List.drop_drop,<-er];exact h3,?_,rfl,by simp,?_⟩
   ·rw[eo,Option.map_map];congr 1;funext l;simp
   ·have:(p:Int) - -(q0.length:Int)=((p+q0.length:Nat):Int):=by lia
    rw[this]
 ·rw[decide_eq_false (by lia)];have:t.drop p=[]:=List.drop_eq_nil_iff.mpr (by lia);rw[this]at Ja;cases Ja with
  | bad h1 _=>exact absurd rfl h1
  | cons h1 _ _=>exact absurd rfl h1
  | nil=>
   simp![oY];exact qs ps (by rw[eo];simp)
theorem K2:∀{B B':List Fr} {w w':Option Sn} {t:Tk},stP (B,w) t=some (B',w')->B'.length<=B.length+1:=by
 intro B B' w w' t e;cases w with
 | none=>
  cases t<;>erw[stP,Option.some.injEq,Prod.mk.injEq,reduceCtorEq]at e
  ·rw[<-e.1];simp
  ·rw[<-e.1];simp
  ·rw[<-e.1];lia
 | some w=>
  cases t
  case an=>erw[stP,Option.some.injEq,Prod.mk.injEq]at e;rw[<-e.1];have:=iK (l:=1) (B:=B) (w:=w);simp;lia
  case or=>erw[stP,Option.some.injEq,Prod.mk.injEq]at e;rw[<-e.1];have:=iK (l:=0) (B:=B) (w:=w);simp;lia
  case cl=>
   have:=iK (l:=0) (B:=B) (w:=w);erw[stP]at e;split at e
   ·cases e
   ·rename_i q;erw[Option.some.injEq,Prod.mk.injEq]at e;rw[q]at this;rw[<-e.1];simp at this;lia
  all_goals (erw[stP,reduceCtorEq]at e)
theorem HJ {a:Nat}{B:List Fr}{w:Option Sn}{t:S}{x4:Option D}{K:En}(hl:B.length<=1000)(qn:stP (B,w) (kt t)=none->∀h',h<+:h'->K.rt .non h')(qs:∀B' w',stP (B,w) (kt t)=some (B',w')->∀x4,K.nx [↑a,some (.ref h.length),some (oD w'),⇑t,x4] (h++[.lst (B'.reverse.map fD)])):
  aZ sb (au sb P (d+1)) E aP K [↑a,some (.ref h.length),some (oD w),⇑t,x4] (h++[.lst (B.reverse.map fD)]):=by
 have nn:stP (B,w) (kt t)=none->K.rt .non (h++[.lst (B.reverse.map fD)]):=λe=>qn e _ (prefix_append _ _);have Ph:(true == true)=true:=rfl;have Pj:(false == false)=true:=rfl;rcases vV t with rfl | rfl | rfl | rfl | rfl | ⟨k1,k2⟩
 ·rw[ic]at qn qs nn;cases w with
  | some w=>
   simp![aP,FD,aT,oD,fS,dY,Pj,bP];exact nn rfl
  | none=>
   simp![aP,FD,aT,dC,dY,HH,bO,oD,bF,KU,b7,dj,KY,fN,bT aq,b9 aq (show (B.reverse.map fD).length < 16777216 by simp;lia),b6];have:=qs _ _ rfl (some (.bl false));rw[je]at this;exact this
 ·rw[ig]at qn qs nn;cases w with
  | none=>
   simp![aP,FC,aT,oD,dC,dY,Ph,bP];exact nn rfl
  | some w=>
   simp![aP,FC,aT,fS,dY,HG,bO,dk,KS,oD];refine uL (by lia) ?_;cases e:(aQ 0 B w).1 with
   | nil=>
    have t0:truthy (h++[AO.lst (([]:List Fr).reverse.map fD)]) (.ref h.length)=some false:=uE aq;simp![bF,Ci,gF,t0,kl];exact qn (by erw[stP,e]) _ (prefix_append _ _)
   | cons f B'=>
    rw[je];have t1:truthy (h++[AO.lst (B'.reverse.map fD++[fD f])]) (.ref h.length)=some true:=by rw[uE aq];simp
    simp![bF,Ci,gF,t1,kj,bT aq,uG aq,b6];exact qs B' (some _) (by erw[stP,e]) _
 ·rw[iV]at qn qs nn;cases w with
  | some w=>
   simp![aP,FE,aT,oD,fS,dY,Pj,bP];exact nn rfl
  | none=>
   simp![aP,FE,aT,dC,dY,HH,bO,oD,bF,Cm,b7,dj,KZ,K1,fN,bT aq,b9 aq (show (B.reverse.map fD).length < 16777216 by simp;lia),b6];have:=qs _ _ rfl (some (.bl false));rw[je]at this;exact this
 ·rw[gn]at qn qs nn;cases w with
  | none=>
   simp![aP,Cg,aT,oD,dC,dY,Ph,bP];exact nn rfl
  | some w=>
   have e2:=iK (l:=1) (B:=B) (w:=w);simp![aP,Cg,aT,fS,dY,HG,bO,dk,HF,oD];refine uL (by lia) ?_;simp![bF,Cj,b7,gH,bT aq,b9 aq (show ((aQ 1 B w).1.reverse.map fD).length < 16777216 by simp;lia),b6,gG];have:=qs _ _ rfl (some (.bl true));rw[je]at this;exact this
 ·rw[gq]at qn qs nn;cases w with
  | none=>
   simp![aP,Fz,aT,oD,dC,dY,Ph,bP];exact nn rfl
  | some w=>
   have e2:=iK (l:=0) (B:=B) (w:=w);simp![aP,Fz,aT,fS,dY,HG,bO,dk,KR,oD];refine uL (by lia) ?_;simp![bF,Ck,b7,gH,bT aq,b9 aq (show ((aQ 0 B w).1.reverse.map fD).length < 16777216 by simp;lia),b6,gG];have:=qs _ _ rfl (some (.bl true));rw[je]at this;exact this
 ·have nb:∀k:S,kt k≠kt t->(t == k)=false:=λk hk=>beq_false_of_ne λz=>hk (by rw[z]);have s1:=nb (tx ")") (by rw[k1,ig];exact λz=>by cases z);have s2:=nb (tx "(") (by rw[k1,ic];exact λz=>by cases z);have s3:=nb (tx "not") (by rw[k1,iV];exact λz=>by cases z);have s4:=nb (tx "and") (by rw[k1,gn];exact λz=>by cases z);have s5:=nb (tx "or") (by rw[k1,gq];exact λz=>by cases z);have tn:∀h,prim sb (.kR bK) [.str t] h=some (.bl false,h):=λh=>by
   show some (D.bl (bK.lookup t).isSome,h)=_;erw[bK,List.lookup,s4,s5,s1,Option.isSome_none]
  rw[k1]at qn qs nn;cases w with
  | some w=>
   simp![aP,tn,aT,oD,fS,dY,Pj,bP];exact nn rfl
  | none=>
   simp![aP,tn,aT,dC,dY,HH,bO,oD,bF,s1,b7,dj,s2,s3,jy];exact qs _ _ rfl _
theorem Pk {a:Nat}{ts:List S}(ha:h[a]'(ts.map .str))(hl:ts.length<=900)(q:∀h',h<+:h'->Q (oD ((rP ([],none) (ts.map kt)).bind eR)) h'):au sb P (d+2) 5 [.ref a] h Q E:=by
 refine wp_call rfl rfl ?_;simp![jB,jA,jz];refine fO (xs:=ts.map .str) (J:=dR a) (vs:=[.ref a]) (h1:=h++[.lst []]) (λi σ h'=>∃(B:List Fr) (v:Option Sn) (x3 x4:Option D),h'=h++[.lst (B.reverse.map fD)]/\B.length<=i/\(rP (B,v) ((ts.drop i).map kt)).bind eR=(rP ([],none) (ts.map kt)).bind eR/\σ=[↑a,some (.ref h.length),some (oD v),x3,x4])
  (λQ q=>by simp!;exact q) (wK (az ha)) ⟨[],none,none,none,rfl,le_refl _,rfl,rfl⟩ ?_ ?_ ?_
 ·rintro i σ h' _ ⟨B,v,x3,x4,rfl,_⟩;erw[dR,az ha]
 ·rintro i v σ h' ev ⟨B,v',x3,x4,rfl,hB,r,rfl⟩;rw[getElem?_map]at ev;cases et:ts[i]? with
  | none=>rw[et]at ev;cases ev
  | some t=>
   rw[et]at ev;cases ev;have hi:=(List.getElem?_eq_some_iff.mp et).1;have e1:ts.drop i=t::ts.drop (i+1):=by
    rw[drop_eq_getElem_cons hi];congr 1;exact Option.some.inj ((getElem?_eq_getElem hi).symm.trans et)
   rw[e1,map_cons]at r;change ((stP (B,v') (kt t)).bind _).bind eR=_ at r;refine ⟨_,rfl,HJ (by lia) (λe h' pr=>?_) λB1 w1 e x4=>?_⟩
   ·rw[e]at r;rw[<-r]at q;exact q h' pr
   ·rw[e]at r;have:=K2 e;exact ⟨B1,w1,_,x4,rfl,by lia,r,rfl⟩
 ·rintro σ h' ⟨B,v,x3,x4,rfl,hB,r,rfl⟩;rw[length_map,drop_length,map_nil]at r;change eR (B,v)=_ at r;rw[<-r]at q;cases v with
  | none=>
   simp![gE,oD,dC,kh];exact q _ (prefix_append _ _)
  | some w=>
   simp![gE,fS,kg,oD];refine uL (l:=0) (by lia) ?_;erw[eR]at q;cases e:(aQ 0 B w).1 with
   | nil=>
    rw[e]at q;have t0:truthy (h++[AO.lst (([]:List Fr).reverse.map fD)]) (.ref h.length)=some false:=uE aq;simp![gD,t0];exact q _ (prefix_append _ _)
   | cons f B'=>
    rw[e]at q;rw[je];have t1:truthy (h++[AO.lst (B'.reverse.map fD++[fD f])]) (.ref h.length)=some true:=by rw[uE aq];simp
    simp![gD,t1];exact q _ (prefix_append _ _)
theorem ye {c:S}{e:Ex}{Γ:bS}{σ:Lo}{K:En}:wpS sb Γ E (.nX c e) K σ h=aF sb Γ E e σ h λx h1=>match x with
  | .int i=>E (.tup [.str c,.int i]) h1
  | _=>False:=by erw[wpS]<;>rfl
theorem Pm {t:S}{o:Option (List S)}(tp:TP t o):∀al,o=some al->al.length<=t.length:=by
 induction tp with
 | nil=>intro al e;cases e;simp
 | bad _ _=>intro al e;cases e
 | @cons r q0 o h1 h2 h3 ih=>
  intro al e;obtain ⟨Zq,rfl,rfl⟩:=map_eq_some_iff.mp e;have:=ih Zq rfl;have hq:=length_pos_iff.mpr (DQ h2);have e3:=congrArg List.length (jV h2).1;erw[length_drop,length_append]at e3 this;erw[length_cons];lia
theorem K3 {t:S}{o:Option (List S)}{i:Int}(tp:TP t o)(q1:120 < t.length->∀h',h<+:h'->E (.tup [.str (tx "TooLong"),.int i]) h')(q2:t.length<=120->iW o=none->∀h',h<+:h'->E (.tup [.str (tx "NoSentence"),.int i]) h')(q3:∀s,t.length<=120->iW o=some s->∀h',h<+:h'->Q (sd s) h'):au sb P (d+4) 0 [.str t,.int i] h Q E:=by
 refine wp_call rfl rfl ?_;by_cases hl:120 < t.length
 ·have l1:decide ((120:Int) < (t.length:Int))=true:=decide_eq_true (by lia);simp![fM,hV,l1,jx,ye];exact q1 hl h fe
 ·have l1:decide ((120:Int) < (t.length:Int))=false:=decide_eq_false (by lia);simp![fM,hV,l1,jw];refine FG tp (by lia) (λeo h' pr=>?_) λal eo=>?_
  ·simp![fL,dC,dh,fK,ye];exact q2 (by lia) (by rw[eo];rfl) h' pr
  ·have:=Pm tp al eo;simp![fL,Pa];refine Pk aq (by rw[length_map];lia) λh' pr=>?_;have er:(rP ([],none) ((al.map tk).map kt)).bind eR=iW o:=by rw[eo,List.map_map];rfl
   rw[er];cases e:iW o with
   | none=>
    simp![oD,dh,dC,fK,ye];exact q2 (by lia) e h' (pre_of pr)
   | some s=>
    simp![oD,dh,fS,jv];exact q3 s (by lia) e h' (pre_of pr)
def gJ (t:S):Bool:=decide (t=tx "(") || (decide (t=tx ")") || decide (t=sB))
def jE (ts:List S)(c:Nat):List S:=match ts.getLast? with
 | none=>[[c]]
 | some l=>if sep c=true\/gJ l=true then ts++[[c]] else ts.dropLast++[l++[c]]
theorem vW {c:Nat}:gJ [c]=sep c:=by
 unfold gJ sep sB;rw[fz,gm];simp
theorem Cq {c:Nat}{w:S}(h:sep c=false):gJ (c::w)=false:=by
 cases w with
 | nil=>rw[vW];exact h
 | cons d w=>simp[gJ,sB,fz,gm]
theorem oO {x:S}{ts:List S}{c:Nat}(h:ts≠[]):jE (x::ts) c=x::jE ts c:=by
 obtain ⟨ini,l,rfl⟩:∃ini l,ts=ini++[l]:=⟨ts.dropLast,ts.getLast h,(List.dropLast_concat_getLast h).symm⟩
 unfold jE;have e1:(x::(ini++[l])).getLast?=some l:=by rw[<-cons_append,List.getLast?_concat]
 have e2:(ini++[l]).getLast?=some l:=List.getLast?_concat;rw[e1,e2];dsimp only;split
 ·rfl
 ·have:(x::(ini++[l])).dropLast=x::ini:=by rw[<-cons_append,List.dropLast_concat]
  rw[this,List.dropLast_concat];rfl
theorem Jb {r:S}(h:r≠[]):lt r≠[]:=λz=>h (by have:=(uK (r:=r)).2;rw[z]at this;exact this.symm)
theorem Cr:∀{s:S} {c:Nat},lt (s++[c])=jE (lt s) c
 | [],c=>by
  show lt [c]=[[c]];rw[lt.eq_def];by_cases h:sep c=true
  ·erw[if_pos h];rfl
  ·erw[if_neg h]
 | d::s,c=>by
  have ih:=Cr (s:=s) (c:=c);by_cases hd:sep d=true
  ·rw[cons_append,eS hd,eS hd,ih];cases s with
   | nil=>
    show [d]::[[c]]=jE [[d]] c;unfold jE;show _=if sep c=true\/gJ [d]=true then _ else _
    rw[if_pos (.inr (by rw[vW];exact hd))];rfl
   | cons e s=>rw[oO (Jb (by simp))]
  ·have hd':sep d=false:=by simpa using hd
   cases s with
   | nil=>
    have e1:lt [d]=[[d]]:=by rw[lt.eq_def];erw[hd'];rfl
    rw[e1];show lt [d,c]=jE [[d]] c;unfold jE;show _=if sep c=true\/gJ [d]=true then [[d],[c]] else [[d,c]]
    by_cases hc:sep c=true
    ·rw[if_pos (.inl hc)];rw[lt.eq_def];erw[hd',hc,if_true];rw[eS hc];rfl
    ·have hc':sep c=false:=by simpa using hc
     have e2:lt [c]=[[c]]:=by rw[lt.eq_def];erw[hc'];rfl
     rw[if_neg (by rintro (z | z);exact hc z;rw[vW]at z;exact hd z)];rw[lt.eq_def];erw[hd',hc',e2];rfl
   | cons e s=>
    by_cases he:sep e=true
    ·have e1:∀r,lt (d::e::r)=[d]::lt (e::r):=λr=>by
      rw[lt.eq_def];erw[hd',he,if_true];rfl
     show lt (d::e::(s++[c]))=_;rw[e1,e1,oO (Jb (by simp))];exact congrArg _ ih
    ·have he':sep e=false:=by simpa using he
     have e1:∀r,lt (d::e::r)=match lt (e::r) with | w::ws=>(d::w)::ws | []=>[[d]]:=λr=>by
      rw[lt.eq_def];erw[hd',he'];rfl
     show lt (d::e::(s++[c]))=_;rw[e1,e1];have ih':lt (e::(s++[c]))=jE (lt (e::s)) c:=ih;rw[ih']
     -- the first word begins with e
     obtain ⟨w,ws,ew⟩:∃w ws,lt (e::s)=(e::w)::ws:=by
      have lx:=uK (r:=e::s);generalize lt (e::s)=ts at lx;obtain ⟨l1,l2⟩:=lx;cases l1 with
      | nil=>cases l2
      | @sp c' ts hs hl=>
       change c'::ts.flatten=_ at l2;injection l2 with z _
       rw[z]at hs;rw[hs]at he';cases he'
      | @wd w ts h1 h2 h3 h4=>
       obtain ⟨c',w',rfl⟩:=List.exists_cons_of_ne_nil h1;change c'::(w'++ts.flatten)=_ at l2;injection l2 with z _
       exact ⟨w',ts,by rw[z]⟩
     rw[ew];cases ws with
     | nil=>
      unfold jE;show (match (if sep c=true\/gJ (e::w)=true then [e::w,[c]] else [e::w++[c]]) with | w::ws=>(d::w)::ws | []=>[[d]])=if sep c=true\/gJ (d::e::w)=true then [d::e::w,[c]] else [d::e::w++[c]]
      rw[Cq he',Cq hd'];by_cases hc:sep c=true
      ·rw[if_pos (.inl hc),if_pos (.inl hc)]
      ·rw[if_neg (by simp[hc]),if_neg (by simp[hc])];rfl
     | cons x xs=>
      have a1:=oO (x:=e::w) (ts:=x::xs) (c:=c) (by simp);have a2:=oO (x:=d::e::w) (ts:=x::xs) (c:=c) (by simp);rw[a1];exact a2.symm
theorem FH {r:S}:(lt r).length<=r.length:=by
 obtain ⟨l1,l2⟩:=uK (r:=r);have:∀ts:List S,LX ts->ts.length<=ts.flatten.length:=by
  intro ts h
  induction h with
  | nil=>simp
  | sp _ _ ih=>erw[length_cons,flatten_cons,length_append,length_nil];lia
  | wd h1 _ _ _ ih=>have:=length_pos_iff.mpr h1;erw[length_cons,flatten_cons,length_append];lia
 have:=this _ l1;rw[l2]at this;exact this
theorem K4 {r:S}:∀w∈lt r,w.length<=r.length:=by
 intro w hw;have:=(uK (r:=r)).2;have h2:w.length<=(lt r).flatten.length:=(List.sublist_flatten_of_mem hw).length_le;rw[this]at h2;exact h2
theorem K5 {xs:List D}{v y:D}{a:Nat}(ha:h[a]'(xs++[v])):prim sb .fC [.ref a,.int (-1),y] h=some (.non,h.set a (.lst (xs++[y]))):=by
 show (match h[a]? with | some (.dct kvs)=>_ | some (.lst xs)=>_ | _=>none)=_;rw[ha];show (match gP (xs++[v]).length (-1) with | some j=>some (Z.D.non,h.set a (.lst ((xs++[v]).set j y))) | none=>none)=_;have e:gP (xs++[v]).length (-1)=some xs.length:=by
  unfold gP;rw[if_neg (by decide),if_pos (by simp;lia)];simp;lia
 rw[e];simp
theorem Pn {c:Nat}:prim sb .yA [.str [c],.str (tx "() ")] h=some (.bl (sep c),h):=by
 show some (D.bl (fU [c] (tx "() ")),h)=_;rw[lS,show tx "() "=[40,41,32] by decide];have:decide (c∈[40,41,32])=sep c:=by unfold sep;simp
 rw[this]
theorem jP:tx " "=sB:=by decide
theorem Ct {l:S}:cj (.str l) [.str (tx "("),.str (tx ")"),.str (tx " ")]=some (gJ l):=by
 have:=dO (x:=l) (ss:=[tx "(",tx ")",tx " "]);rw[show List.map Z.D.str [tx "(",tx ")",tx " "]=[.str (tx "("),.str (tx ")"),.str (tx " ")] from rfl]at this;rw[this];unfold gJ;rw[jP];by_cases h1:l=tx "("
 ·simp[h1]
 ·by_cases h2:l=tx ")"
  ·simp[h1,h2]
  ·by_cases h3:l=sB
   ·simp[h3]
   ·simp[h1,h2,h3]
theorem Pp {t:S}(hl:t.length<=5000)(q:Q (.ref h.length) (h++[.lst ((lt t).map .str)])):au sb P (d+1) 14 [.str t] h Q E:=by
 refine wp_call rfl rfl ?_;simp![nB,nA];refine fO (xs:=t.map λc=>.str [c]) (J:=jY (t.map λc=>.str [c])) (vs:=[.str t]) (h1:=h++[.lst []]) (λi σ h'=>h'=h++[.lst ((lt (t.take i)).map .str)]/\∃x,σ=[⇑t,some (.ref h.length),x]) (λQ q=>by simp!;exact q) rfl ⟨rfl,none,rfl⟩ (λi σ h' _ _=>rfl) ?_ ?_
 ·rintro i v σ h' ev ⟨rfl,x,rfl⟩;rw[getElem?_map]at ev;cases et:t[i]? with
  | none=>rw[et]at ev;cases ev
  | some c=>
   rw[et]at ev;cases ev;have hi:=(List.getElem?_eq_some_iff.mp et).1;refine ⟨_,rfl,?_⟩;have tk1:t.take (i+1)=t.take i++[c]:=by rw[take_succ,et];rfl
   have hlen:(lt (t.take i)).length<=5000:=le_trans FH (by simp;lia);have hw:∀w∈lt (t.take i),w.length<=5000:=λw h=>le_trans (K4 w h) (by simp;lia);rw[tk1,Cr];generalize lt (t.take i)=ts at hlen hw;simp![nq,Pn];by_cases hts:ts=[]
   ·subst hts;have g0:([]:List D).length < 16777216:=by simp
    have e1:(jE [] c).map Z.D.str=[.str [c]]:=rfl;cases hc:sep c with
    | true=>
     simp![dF,bT aq,b9 aq g0,b6,e1];exact ⟨_,rfl⟩
    | false=>
     have e0:(((0:Nat):Int) == 0)=true:=rfl;simp![dS aq,e0,dF,bT aq,b9 aq g0,b6,e1];exact ⟨_,rfl⟩
   ·obtain ⟨ini,l,rfl⟩:∃ini l,ts=ini++[l]:=⟨ts.dropLast,ts.getLast hts,(List.dropLast_concat_getLast hts).symm⟩
    have em:(ini++[l]).map Z.D.str=ini.map Z.D.str++[.str l]:=by simp
    have hl2:=hw l (by simp);have es:jE (ini++[l]) c=if sep c=true\/gJ l=true then ini++[l]++[[c]] else ini++[l++[c]]:=by
     unfold jE;rw[List.getLast?_concat];dsimp only;rw[List.dropLast_concat]
    have app:aZ sb (au sb P d) E dF {nx:=λσ h'=>h'=h++[.lst ((ini++[l]++[[c]]).map .str)]/\∃x,σ=[⇑t,some (.ref h.length),x],rt:=Q,bk:=λσ' h'=>aZ sb (au sb P d) E iE {nx:=λx h=>Q .non h,rt:=Q} σ' h',ct:=λσ h'=>h'=h++[.lst ((ini++[l]++[[c]]).map .str)]/\∃x,σ=[⇑t,some (.ref h.length),x]}
      [⇑t,some (.ref h.length),some (.str [c])] (h++[.lst ((ini++[l]).map .str)]):=by
     simp![dF,bT aq,b9 aq (show ((ini++[l]).map Z.D.str).length < 16777216 by rw[length_map];lia),b6];exact ⟨by simp,_,rfl⟩
    have es1:sep c=true->jE (ini++[l]) c=ini++[l]++[[c]]:=λz=>by rw[es,if_pos (.inl z)]
    have es2:gJ l=true->jE (ini++[l]) c=ini++[l]++[[c]]:=λz=>by rw[es,if_pos (.inr z)]
    have Zr:sep c=false->gJ l=false->jE (ini++[l]) c=ini++[l++[c]]:=λz y=>by rw[es,if_neg (by rw[z,y];simp)]
    cases hc:sep c with
    | true=>
     rw[es1 hc];simp!;exact app
    | false=>
     have en:(((((ini++[l]).map Z.D.str).length:Nat):Int) == 0)=false:=by
      simp;lia
     have ea:bx ((ini++[l]).map Z.D.str) (-1)=⇑l:=by rw[rS];simp
     cases hs:gJ l with
     | true=>
      rw[es2 hs];simp![dS aq,en,aE aq,ea,Ct,hs];exact app
     | false=>
      rw[Zr hc hs];simp![dS aq,en,aE aq,ea,Ct,hs,nj];rw[if_pos (by lia)];rw[em];simp![K5 aq,b6];exact ⟨by simp,_,rfl⟩
 ·rintro σ h' ⟨rfl,x,rfl⟩;rw[length_map,take_length];simp![iE];exact q
theorem HK {x:D}{ys:List D}:prim sb .kQ [x,.tup ys] h=(cj x ys).map λb=>(.bl (b != true),h):=by cases x<;>rfl
theorem wV {l:S}:cj (.str l) [.str (tx "not"),.str (tx "and"),.str (tx "or")]=some (J3.contains l):=dO (ss:=[tx "not",tx "and",tx "or"])
theorem Jc {l:S}:cj (.str l) [.str (tx "and"),.str (tx "or")]=some (J2.contains l):=dO (ss:=[tx "and",tx "or"])
theorem Tg {l:S}:cj (.str l) [.str (tx "always"),.str (tx "where"),.str (tx "usually")]=some (WK.contains l):=dO (ss:=[tx "always",tx "where",tx "usually"])
theorem uM {a b:S}:(a == b)=decide (a=b):=by
 by_cases h:a=b
 ·subst h;simp
 ·simp[h]
theorem XG {a t b:S}{tr rr k:D}{K:En}(qt:ck a t b=true->K.nx [some tr,some rr,some k,⇑a,⇑b] h)(qf:ck a t b=false->K.rt (.bl false) h)(hk:prim sb .idx [tr,k] h=some (.str t,h)):
  aZ sb (au sb P d) E h8 K [some tr,some rr,some k,⇑a,⇑b] h:=by
 have last:(J2.contains t=true->a=sB/\b=sB)->(t=sB->(a≠sB/\b≠sB)/\(J3.contains a=true\/J2.contains b=true))->aZ sb (au sb P d) E iF K [some tr,some rr,some k,⇑a,⇑b] h:=by
  intro h2 h1;simp![iF,hk,uM];by_cases c3:t=tx "not"
  ·subst c3;rw[DV]at qt qf;rw[decide_eq_true rfl];rw[jP];by_cases hb:b=sB
   ·rw[decide_eq_true hb]at qt ⊢;simp!;exact qt rfl
   ·rw[decide_eq_false hb]at qf ⊢;simp![nD];exact qf rfl
  ·rw[decide_eq_false c3];simp!;refine qt ?_;unfold ck;rw[if_neg c3];by_cases c1:t=sB
   ·obtain ⟨⟨k1,k2⟩,k3⟩:=h1 c1;rw[if_pos c1,decide_eq_false k1,decide_eq_false k2];have j2:J2.contains t=false:=by rw[c1];decide
    rw[j2];have k4:(J3.contains a || J2.contains b)=true:=by
     rcases k3 with k3 | k3
     ·rw[k3];rfl
     ·rw[k3,Bool.or_true]
    rw[k4];rfl
   ·rw[if_neg c1];cases j2:J2.contains t with
    | false=>rfl
    | true=>
     obtain ⟨k1,k2⟩:=h2 j2;rw[decide_eq_true k1,decide_eq_true k2];rfl
 have mid:(t=sB->(a≠sB/\b≠sB)/\(J3.contains a=true\/J2.contains b=true))->aZ sb (au sb P d) E iI K [some tr,some rr,some k,⇑a,⇑b] h:=by
  intro h1;simp![iI,hk,Jc];cases j2:J2.contains t with
  | false=>
   simp!;exact last (λz=>by rw[j2]at z;cases z) h1
  | true=>
   have bj:t=tx "and"\/t=tx "or":=by have:=contains_iff_mem.mp j2;simpa [J2] using this
   simp![uM,jP];by_cases k1:a=sB
   ·rw[decide_eq_true k1];simp!;by_cases k2:b=sB
    ·rw[decide_eq_true k2];simp!;exact last (λ_=>⟨k1,k2⟩) h1
    ·rw[decide_eq_false k2];simp![iG];exact qf (by rw[vU bj,decide_eq_false k2,Bool.and_false])
   ·rw[decide_eq_false k1];simp![iG];exact qf (by rw[vU bj,decide_eq_false k1];rfl)
 simp![h8,hk,uM,jP];by_cases c1:t=sB
 ·subst c1;rw[decide_eq_true rfl];rw[DW]at qt qf;simp![nG,uM,jP];by_cases k1:a=sB
  ·rw[decide_eq_true k1]at qf ⊢;simp![iJ];exact qf rfl
  ·rw[decide_eq_false k1]at qf ⊢;simp!;by_cases k2:b=sB
   ·rw[decide_eq_true k2]at qf ⊢;simp![iJ];exact qf rfl
   ·rw[decide_eq_false k2]at qf ⊢;simp![nF,HK,wV,Jc];cases j3:J3.contains a with
    | true=>
     simp!;exact mid λ_=>⟨⟨k1,k2⟩,.inl j3⟩
    | false=>
     simp!;cases j2:J2.contains b with
     | true=>
      simp!;exact mid λ_=>⟨⟨k1,k2⟩,.inr j2⟩
     | false=>
      simp![nE];exact qf (by rw[j3,j2];rfl)
 ·rw[decide_eq_false c1];simp!;exact mid λz=>absurd z c1
theorem HL {a:Nat}{ts:List S}(ha:h[a]'(ts.map .str))(hl:ts.length<=5000)(q:∀h',h<+:h'->Q (.bl (bl sB ts)) h'):au sb P (d+1) 15 [.ref a] h Q E:=by
 refine wp_call rfl rfl ?_;simp![lP];have hb0:tx " "=sB:=jP;rw[cK (a:=h.length) (b:=a) aq (az ha) (by simp;lia)];simp!;have g1:∀o,((h++[AO.lst [.str (tx " ")]])++[AO.lst (.str (tx " ")::ts.map .str)]++[o])[(h++[AO.lst [.str (tx " ")]]).length]'(.str (tx " ")::ts.map .str):=λo=>az aq;rw[cK (g1 _) aq (by simp;lia)];simp![lO];generalize hr:(h++[AO.lst [.str (tx " ")]])++[AO.lst (.str (tx " ")::ts.map .str)]++[AO.lst [.str (tx " ")]]=h1;have pr:h<+:h1:=by rw[<-hr];exact pre_app (pre_app (prefix_append _ _))
 have hrm:(h1++[AO.lst (.str (tx " ")::(ts.map .str++[.str (tx " ")]))])[h1.length]'(([sB]++ts++[sB]).map .str):=by
  rw[aq,jP];simp
 have ha2:(h1++[AO.lst (.str (tx " ")::(ts.map .str++[.str (tx " ")]))])[a]'(ts.map .str):=az (aD pr ha);have b8:h<+:h1++[AO.lst (.str (tx " ")::(ts.map .str++[.str (tx " ")]))]:=pre_app pr;clear g1 hr;generalize h1.length=ra at hrm ⊢;generalize h1++[AO.lst (.str (tx " ")::(ts.map .str++[.str (tx " ")]))]=h2 at hrm ha2 b8 ⊢;have f0:([sB]++ts++[sB])[0]?=some sB:=rfl;have f1:∀(i:Nat) (hi:i < ts.length),([sB]++ts++[sB])[i+1]?=some ts[i]:=λi hi=>by
  rw[append_assoc,List.singleton_append,getElem?_cons_succ,getElem?_append_left hi,getElem?_eq_getElem hi]
 have f2:∀(i:Nat) (hi:i < ts.length),([sB]++ts++[sB])[i+2]?=some (ik (ts.drop (i+1))):=λi hi=>by
  rw[append_assoc,List.singleton_append,getElem?_cons_succ];by_cases hj:i+1 < ts.length
  ·rw[getElem?_append_left hj,drop_eq_getElem_cons hj,getElem?_eq_getElem hj];rfl
  ·have:i+1=ts.length:=by lia
   rw[getElem?_append_right (by lia),this];simp[ik]
 generalize [sB]++ts++[sB]=rm at hrm f0 f1 f2;refine eK (lo:=0) (n:=ts.length) (vs:=[.int ts.length]) (h1:=h2) (λi σ h'=>h'=h2/\(∃a0,rm[i]?=some a0/\bl sB ts=bl a0 (ts.drop i))/\∃x2 x3 x4,σ=[↑a,↑ra,x2,x3,x4]) (λQ q=>by simp![dS ha2,length_map];exact q) (rT (by lia)) ⟨rfl,⟨sB,f0,rfl⟩,none,none,none,rfl⟩ ?_ ?_
 ·rintro i σ h' hi ⟨rfl,⟨a0,e0,eb⟩,x2,x3,x4,rfl⟩;refine ⟨_,rfl,?_⟩;have e1:ts.drop i=ts[i]::ts.drop (i+1):=drop_eq_getElem_cons hi;have et:ts[i]?=some ts[i]:=getElem?_eq_getElem hi;have e2:=f1 i hi;have e3:=f2 i hi;have a1:bx (rm.map Z.D.str) (0+(i:Int))=⇑a0:=by
   rw[dW (by lia),show (0+(i:Int)).toNat=i by lia,getElem?_map,e0];rfl
  have a2:bx (rm.map Z.D.str) (0+(i:Int)+2)=some (.str (ik (ts.drop (i+1)))):=by
   rw[dW (by lia),show (0+(i:Int)+2).toNat=i+2 by lia,getElem?_map,e3];rfl
  have a3:prim sb .idx [.ref a,.int (0+(i:Int))] h'=some (.str ts[i],h'):=by
   rw[aE ha2,dW (by lia),show (0+(i:Int)).toNat=i by lia,getElem?_map,et];rfl
  simp![lN,aE hrm,a1,lM,a2];rw[e1]at eb;change _=(ck a0 ts[i] (ik (ts.drop (i+1))) && bl ts[i] (ts.drop (i+1))) at eb;refine XG (λz=>?_) (λz=>?_) a3
  ·rw[z,Bool.true_and]at eb;exact ⟨rfl,⟨_,e2,eb⟩,_,_,_,rfl⟩
  ·rw[z,Bool.false_and]at eb;rw[eb]at q;exact q _ b8
 ·rintro σ h' ⟨rfl,⟨a0,e0,eb⟩,x2,x3,x4,rfl⟩;rw[drop_length]at eb;rw[eb]at q;simp![nC];exact q _ b8
theorem Pq {t:S}(q:Q (.bl (jD t)) h):au sb P (d+1) 17 [.str t] h Q E:=by
 refine wp_call rfl rfl ?_;unfold jD at q;simp![tE,Tg];cases hw:WK.contains t with
 | true=>
  rw[hw]at q;simp![tD];exact q
 | false=>
  rw[hw]at q;simp![tB];refine fO (xs:=t.map λc=>.str [c]) (J:=jY (t.map λc=>.str [c])) (vs:=[.str t]) (h1:=h) (λi σ h'=>h'=h/\(∀c∈t.take i,c∈cN)/\∃x,σ=[⇑t,x]) (λQ q=>by simp!;exact q) rfl ⟨rfl,by simp,none,rfl⟩ (λi σ h' _ _=>rfl) ?_ ?_
  ·rintro i v σ h' ev ⟨rfl,hc,x,rfl⟩;rw[getElem?_map]at ev;cases et:t[i]? with
   | none=>rw[et]at ev;cases ev
   | some c=>
    rw[et]at ev;cases ev;refine ⟨_,rfl,?_⟩;have en:prim sb .xB [.str [c],.str (tx "abcdefghijklmnopqrstuvwxyz")] h'=some (.bl (!decide (c∈cN)),h'):=by
     show some (D.bl (!fU [c] cN),h')=_;rw[lS]
    simp![tq,en];by_cases hm:c∈cN
    ·rw[decide_eq_true hm];simp!;refine ⟨λx hx=>?_,_,rfl⟩;rw[take_succ,et,mem_append]at hx;rcases hx with hx | hx
     ·exact hc x hx
     ·simp at hx;rw[hx];exact hm
    ·rw[decide_eq_false hm];have ea:t.all (λc=>cN.contains c)=false:=by
      rw[eq_false_iff];intro z;exact hm (contains_iff_mem.mp (all_eq_true.mp z c (mem_of_getElem? et)))
     rw[ea]at q;simp![sZ];exact q
  ·rintro σ h' ⟨rfl,hc,x,rfl⟩;rw[length_map,take_length]at hc;have ea:t.all (λc=>cN.contains c)=true:=all_eq_true.mpr λc hm=>contains_iff_mem.mpr (hc c hm);rw[ea]at q;simp![sY];have lT:decide ((t.length:Int)<=12)=decide (t.length<=12):=by
    by_cases h12:t.length<=12
    ·rw[decide_eq_true h12,decide_eq_true (by lia)]
    ·rw[decide_eq_false h12,decide_eq_false (by lia)]
   rw[lT];exact q
def iD:It->D
 | .nt=>.str (tx "not")
 | .an=>.str (tx "and")
 | .or=>.str (tx "or")
 | .tr t=>sd t
def nP:It->Bool
 | .tr _=>false
 | _=>true
theorem FJ:∀{x:It},prim sb (.gK .str) [iD x] h=some (.bl (nP x),h)
 | .nt=>rfl
 | .an=>rfl
 | .or=>rfl
 | .tr t=>by cases t<;>rfl
theorem Ti {t:Sn}{k:S}:ju h (sd t) (.str k)=some false:=by cases t<;>rfl
def wv (t:Sn):List (Bool×Sn)->List It
 | []=>[.tr t]
 | (b,u)::l=>.tr t::(if b then .an else .or)::wv u l
theorem wW:∀{b:List It} {p:Sn×List (Bool×Sn)},dg b=some p->b=wv p.1 p.2
 | [],p,e=>by cases e
 | .nt::_,p,e=>by cases e
 | .an::_,p,e=>by cases e
 | .or::_,p,e=>by cases e
 | [.tr t],p,e=>by cases e;rfl
 | .tr t::.nt::_,p,e=>by cases e
 | .tr t::.tr _::_,p,e=>by cases e
 | .tr t::.an::r,p,e=>by
  change (dg r).map _=some p at e;obtain ⟨q,e1,rfl⟩:=map_eq_some_iff.mp e;rw[wW e1];rfl
 | .tr t::.or::r,p,e=>by
  change (dg r).map _=some p at e;obtain ⟨q,e1,rfl⟩:=map_eq_some_iff.mp e;rw[wW e1];rfl
theorem AZ {t:Sn}:∀{l:List (Bool×Sn)},(wv t l).length=2 * l.length+1:=by
 intro l
 induction l generalizing t with
 | nil=>rfl
 | cons x l ih=>obtain ⟨b,u⟩:=x;erw[wv,length_cons,ih];lia
theorem Pt {t:Sn}:∀{l:List (Bool×Sn)} {j:Nat} {x:It},(wv t l)[j]?=some x->nP x=(j % 2 == 1):=by
 intro l
 induction l generalizing t with
 | nil=>
  intro j x e;cases j with
  | zero=>cases e;rfl
  | succ j=>cases e
 | cons y l ih=>
  obtain ⟨b,u⟩:=y;intro j x e
  match j with
  | 0=>cases e;rfl
  | 1=>
   erw[wv,getElem?_cons_succ,List.getElem?_cons_zero,Option.some.injEq]at e;rw[<-e];cases b<;>rfl
  | j+2=>
   have:=ih (t:=u) (j:=j) (x:=x) (by simpa [wv] using e);rw[this,Nat.add_mod_right]
theorem Tj {t:Sn}:∀{l:List (Bool×Sn)} {j:Nat} {b:Bool} {u:Sn},l[j]?=some (b,u)->(wv t l)[2 * j+1]?=some (if b then .an else .or)/\(wv t l)[2 * j+2]?=some (.tr u):=by
 intro l
 induction l generalizing t with
 | nil=>intro j b u e;cases e
 | cons y l ih=>
  obtain ⟨b',u'⟩:=y;intro j b u e;cases j with
  | zero=>
   cases e;refine ⟨rfl,?_⟩;show (wv u' l)[0]?=_;cases l with
   | nil=>rfl
   | cons z l=>obtain ⟨_,_⟩:=z;rfl
  | succ j=>
   have:=ih (t:=u') (j:=j) (b:=b) (u:=u) (by simpa using e);exact this
theorem D1:∀{b:List It},(∀x∈b,x≠.nt)->(∀(j:Nat) (x:It),b[j]?=some x->nP x=(j % 2 == 1))->b.length % 2=1->∃p,dg b=some p
 | [],_,_,h=>by simp at h
 | .nt::_,hn,_,_=>absurd rfl (hn _ (by simp))
 | .an::_,_,h,_=>by have:=h 0 _ rfl;simp[nP]at this
 | .or::_,_,h,_=>by have:=h 0 _ rfl;simp[nP]at this
 | [.tr t],_,_,_=>⟨_,rfl⟩
 | .tr t::.nt::_,hn,_,_=>absurd rfl (hn _ (by simp))
 | .tr t::.tr _::_,_,h,_=>by have:=h 1 _ rfl;simp[nP]at this
 | .tr t::.an::r,hn,h,hl=>by
  obtain ⟨p,e⟩:=D1 (b:=r) (λx hx=>hn x (by simp[hx])) (λj x e=>by have:=h (j+2) x (by simpa using e);rwa [Nat.add_mod_right]at this) (by simp at hl;lia);exact ⟨_,by show (dg r).map _=_;rw[e];rfl⟩
 | .tr t::.or::r,hn,h,hl=>by
  obtain ⟨p,e⟩:=D1 (b:=r) (λx hx=>hn x (by simp[hx])) (λj x e=>by have:=h (j+2) x (by simpa using e);rwa [Nat.add_mod_right]at this) (by simp at hl;lia);exact ⟨_,by show (dg r).map _=_;rw[e];rfl⟩
theorem oQ:∀{its b:List It},NF its=some b->(∀x∈b,x≠.nt)/\b.length<=its.length
 | [],b,e=>by cases e;exact ⟨by simp,by simp⟩
 | .nt::r,b,e=>by
  cases er:NF r with
  | none=>simp[NF,er]at e
  | some b'=>
   obtain ⟨h1,h2⟩:=oQ er;erw[NF,er]at e;split at e
   ·rename_i t r' z;cases z;cases e;refine ⟨λx hx=>?_,by simp at h2 ⊢;lia⟩;rcases mem_cons.mp hx with rfl | hx
    ·exact λz=>by cases z
    ·exact h1 x (by simp[hx])
   ·cases e
 | .an::r,b,e=>by
  obtain ⟨b',er,rfl⟩:=map_eq_some_iff.mp (show (NF r).map _=some b from e);obtain ⟨h1,h2⟩:=oQ er;refine ⟨λx hx=>?_,by simp;lia⟩;rcases mem_cons.mp hx with rfl | hx
  ·exact λz=>by cases z
  ·exact h1 x hx
 | .or::r,b,e=>by
  obtain ⟨b',er,rfl⟩:=map_eq_some_iff.mp (show (NF r).map _=some b from e);obtain ⟨h1,h2⟩:=oQ er;refine ⟨λx hx=>?_,by simp;lia⟩;rcases mem_cons.mp hx with rfl | hx
  ·exact λz=>by cases z
  ·exact h1 x hx
 | .tr t::r,b,e=>by
  obtain ⟨b',er,rfl⟩:=map_eq_some_iff.mp (show (NF r).map _=some b from e);obtain ⟨h1,h2⟩:=oQ er;refine ⟨λx hx=>?_,by simp;lia⟩;rcases mem_cons.mp hx with rfl | hx
  ·exact λz=>by cases z
  ·exact h1 x hx
theorem FN {r:List It}:∀{xs:List It},NF r=none->NF (xs++r)=none
 | [],h=>h
 | x::xs,h=>by
  have:=FN (xs:=xs) h;cases x<;>erw[cons_append,NF,this,Option.map_none]
def fo:List Sn->Option Sn
 | []=>none
 | x::xs=>some (xs.foldl .or x)
theorem Cu:∀{ini:List Sn} {l:Sn},fo (ini++[l])=some (jo (fo ini) l)
 | [],l=>rfl
 | x::xs,l=>by
  show some ((xs++[l]).foldl .or x)=_;rw[List.foldl_append];rfl
theorem K6 {acc aU:Option Sn}{w:Sn}:∀{l:List (Bool×Sn)},comb acc aU w l=comb acc none (ja aU w) l
 | []=>rfl
 | (true,_)::_=>rfl
 | (false,_)::_=>rfl
theorem K7 {a:Nat}{t:Sn}{l:List (Bool×Sn)}{x1 x2 x3:Option D}(ha:h[a]'((wv t l).map iD))(hl:l.length<=1000)(q:∀h',h<+:h'->Q (sd (comb none none t l)) h'):
  aZ sb (au sb P d) E ku {nx:=λ_ h=>Q .non h,rt:=Q} [↑a,x1,x2,x3,none,none,none] h:=by
 have a0:bx ((wv t l).map iD) 0=some (sd t):=by
  rw[dW (by decide)];cases l with
  | nil=>rfl
  | cons y l=>obtain ⟨_,_⟩:=y;rfl
 simp![ku,aE ha,a0,sX];have IQ:((wv t l).map iD).length=2 * l.length+1:=by rw[length_map,AZ]
 have ha1:∀o,(h++[o])[a]'((wv t l).map iD):=λo=>az ha;refine fO (xs:=(List.range l.length).map λj=>.int ((2 * j+1:Nat):Int)) (J:=mL 1 2 l.length) (vs:=[.int 1,.int (((wv t l).map iD).length:Nat),.int 2]) (h1:=h++[.lst [sd t]])
  (λi σ h'=>∃(ini:List Sn) (last:Sn) (x3:Option D),h'=h++[.lst ((ini++[last]).map sd)]/\ini.length<=i/\comb (fo ini) none last (l.drop i)=comb none none t l/\σ=[↑a,x1,x2,x3,some (.ref h.length),none,none])
  (λQ q=>by simp![dS (ha1 _)];exact q) ?_ ⟨[],t,x3,rfl,by simp,rfl,rfl⟩ ?_ ?_ ?_
 ·erw[bz,iu];have ok:Br 1 (((wv t l).map iD).length:Nat) 2=true:=xC.mpr (by rw[IQ];lia);rw[if_pos ok];congr 1;rw[IQ];by_cases h0:l.length=0
  ·rw[if_neg (by lia)];rw[h0]
  ·rw[if_pos (by lia)];congr 1
   lia
 ·rintro i σ h' hi _;rw[length_map,length_range]at hi;unfold mL;by_cases hlt:i < l.length
  ·rw[if_pos hlt,getElem?_map,getElem?_range hlt,map_some];congr 3
   lia
  ·rw[if_neg hlt,getElem?_eq_none (by simp;lia)]
 ·rintro i v σ h' ev ⟨ini,last,x3,rfl,hin,ec,rfl⟩;have hlt:i < l.length:=by have:=(List.getElem?_eq_some_iff.mp ev).1;simpa using this
  rw[getElem?_map,getElem?_range hlt]at ev;erw[map_some,Option.some.injEq]at ev;subst ev;obtain ⟨b,u,Vx⟩:∃b u,l[i]=(b,u):=⟨_,_,rfl⟩
  have e1:l.drop i=(b,u)::l.drop (i+1):=by rw[drop_eq_getElem_cons hlt,Vx]
  obtain ⟨w1,w2⟩:=Tj (t:=t) (l:=l) (j:=i) (b:=b) (u:=u) (by rw[getElem?_eq_getElem hlt,Vx]);have a1:bx ((wv t l).map iD) ((2 * i+1:Nat):Int)=some (iD (if b then .an else .or)):=by rw[m5,getElem?_map,w1];rfl
  have a2:bx ((wv t l).map iD) (((2 * i+1:Nat):Int)+1)=some (sd u):=by
   rw[show ((2 * i+1:Nat):Int)+1=((2 * i+2:Nat):Int) by lia,m5,getElem?_map,w2];rfl
  have em:(ini++[last]).map sd=ini.map sd++[sd last]:=by simp
  refine ⟨_,rfl,?_⟩;rw[e1]at ec;cases b with
  | true=>
   have Pu:bx ((wv t l).map iD) ((2 * i+1:Nat):Int)=some (.str (tx "and")):=a1;rw[em];have hp:(h++[AO.lst (ini.map sd)])[a]'((wv t l).map iD):=ha1 _;simp![kr,aE (ha1 _),Pu,beq_self_eq_true,sV,bT aq,uG aq,b6,aE hp,a2,b9 aq (show (ini.map sd).length < 16777216 by rw[length_map];lia)];refine ⟨ini,.an last u,_,by simp[sd],by lia,?_,rfl⟩;rw[<-ec];show _=comb (fo ini) (some (ja none last)) u (l.drop (i+1));rw[K6 (aU:=some (ja none last))];rfl
  | false=>
   have Pu:bx ((wv t l).map iD) ((2 * i+1:Nat):Int)=some (.str (tx "or")):=a1;have no:(tx "or" == tx "and")=false:=by decide
   simp![kr,aE (ha1 _),Pu,no,sW,bT aq,a2,b9 aq (show ((ini++[last]).map sd).length < 16777216 by simp;lia),b6];refine ⟨ini++[last],u,_,by simp,by simp;lia,?_,rfl⟩;rw[<-ec,Cu];rfl
 ·rintro σ h' ⟨ini,last,x3,rfl,hin,ec,rfl⟩;rw[length_map,length_range,drop_length]at ec;rw[<-ec]at q;obtain ⟨x,xs,exs⟩:∃x xs,ini++[last]=x::xs:=by
   cases ini with
   | nil=>exact ⟨last,[],rfl⟩
   | cons y ys=>exact ⟨y,ys++[last],rfl⟩
  have hxl:xs.length<=1000:=by
   have:=congrArg List.length exs;simp at this hin;lia
  have ef:comb (fo ini) none last []=xs.foldl .or x:=by
   show jo (fo ini) last=_;have:=Cu (ini:=ini) (l:=last);rw[exs]at this;exact (Option.some.inj this).symm
  rw[ef]at q;rw[exs];have a0:bx ((x::xs).map sd) 0=some (sd x):=by rw[dW (by decide)];rfl
  have sl:prim sb .zF [.ref h.length,.int 1] (h++[.lst ((x::xs).map sd)])=some (.ref (h++[AO.lst ((x::xs).map sd)]).length,(h++[.lst ((x::xs).map sd)])++[.lst (xs.map sd)]):=by
   show cu (.ref h.length) (some 1) none _=_;unfold cu;erw[aq];have Zt:cut ((x::xs).map sd) (some 1) none=xs.map sd:=by
    erw[cut,aV];rw[if_neg (by decide),map_cons,length_cons];have:(min (1:Int) ((xs.map sd).length+1:Nat)).toNat=1:=by lia
    rw[this];erw[List.drop_succ_cons,drop_zero,Nat.add_sub_cancel];exact List.take_of_length_le (le_refl _)
   rw[Zt];exact if_pos (by rw[length_map];show xs.length<=16777216;lia)
  generalize (x::xs).map sd=L at a0 sl ⊢;simp![sU,aE aq,a0,sS];refine fO (xs:=xs.map sd) (J:=dR (h++[AO.lst (L)]).length) (vs:=[.ref (h++[AO.lst (L)]).length]) (h1:=(h++[.lst (L)])++[.lst (xs.map sd)])
   (λi σ h'=>h'=(h++[.lst (L)])++[.lst (xs.map sd)]/\∃x6,σ=[↑a,x1,x2,x3,some (.ref h.length),some (sd ((xs.take i).foldl .or x)),x6]) (λQ q=>?_) (wK aq) ⟨rfl,none,rfl⟩ ?_ ?_ ?_
  ·simp![sl];exact q
  ·rintro i σ h' _ ⟨rfl,_⟩;erw[dR,aq]
  ·rintro i v σ h' ev ⟨rfl,x6,rfl⟩;rw[getElem?_map]at ev;cases et:xs[i]? with
   | none=>rw[et]at ev;cases ev
   | some u=>
    rw[et]at ev;cases ev;refine ⟨_,rfl,?_⟩;simp![sQ];refine ⟨some (sd u),?_⟩;rw[take_succ,et,Option.toList_some,List.foldl_append];rfl
  ·rintro σ h' ⟨rfl,x6,rfl⟩;rw[length_map,take_length];simp![sP];exact q _ (pre_app (prefix_append _ _))
theorem K8 {p q:Bool}:ju h (.bl p) (.bl q)=some (p == q):=rfl
theorem K9 {a:Nat}{b:List It}{x1 x2:Option D}(ha:h[a]'(b.map iD))(hn:∀x∈b,x≠.nt)(hl:b.length<=1000)(q:∀h',h<+:h'->Q (oD ((dg b).map λp=>comb none none p.1 p.2)) h'):
  aZ sb (au sb P d) E jl {nx:=λ_ h=>Q .non h,rt:=Q} [↑a,x1,x2,none,none,none,none] h:=by
 simp![jl];have bad:(∀p,dg b≠some p)->Q .non h:=λhb=>by
  have:dg b=none:=by
   cases e:dg b with
   | none=>rfl
   | some p=>exact absurd e (hb p)
  rw[this]at q;exact q h fe
 refine eK (lo:=0) (n:=b.length) (vs:=[.int b.length]) (h1:=h) (λi σ h'=>h'=h/\(∀(j:Nat) (x:It),j < i->b[j]?=some x->nP x=(j % 2 == 1))/\∃x3,σ=[↑a,x1,x2,x3,none,none,none]) (λQ q=>by simp![dS ha,length_map];exact q) (rT (by lia)) ⟨rfl,λj x z=>by lia,none,rfl⟩ ?_ ?_
 ·rintro i σ h' hi ⟨rfl,hj,x3,rfl⟩;refine ⟨_,rfl,?_⟩;have a1:bx (b.map iD) (0+(i:Int))=some (iD b[i]):=by
   rw[dW (by lia),show (0+(i:Int)).toNat=i by lia,getElem?_map,getElem?_eq_getElem hi];rfl
  have e2:((0+(i:Int)) % 2 == 1)=(i % 2 == 1):=by
   by_cases h1:i % 2=1
   ·have:(0+(i:Int)) % 2=1:=by lia
    rw[this,h1];rfl
   ·have h2:¬(0+(i:Int)) % 2=1:=by lia
    rw[beq_false_of_ne h1,beq_false_of_ne h2]
  simp![pZ,aE ha,a1,FJ,e2,K8];by_cases hc:nP b[i]=(i % 2 == 1)
  ·have:(nP b[i] == (i % 2 == 1))=true:=by rw[hc];simp
   simp![this];refine ⟨λj x hj1 ex=>?_,_,rfl⟩;by_cases hji:j < i
   ·exact hj j x hji ex
   ·obtain rfl:j=i:=by lia
    rw[getElem?_eq_getElem hi]at ex;cases ex;exact hc
  ·have:(nP b[i] == (i % 2 == 1))=false:=beq_false_of_ne hc;simp![this,pY];refine bad λp e=>hc ?_;have:=wW e;exact Pt (t:=p.1) (l:=p.2) (j:=i) (x:=b[i]) (by rw[<-this,getElem?_eq_getElem hi])
 ·rintro σ h' ⟨rfl,hj,x3,rfl⟩;simp![pX,dS ha,length_map];by_cases ho:b.length % 2=1
  ·have e0:((b.length:Int) % 2 == 0)=false:=beq_false_of_ne (by lia);simp![e0];obtain ⟨p,ep⟩:=D1 hn (λj x e=>hj j x (List.getElem?_eq_some_iff.mp e).1 e) ho;have eb:=wW ep;rw[ep]at q;rw[eb]at ha hl;rw[AZ]at hl;exact K7 ha (by lia) q
  ·have e0:((b.length:Int) % 2 == 0)=true:=by
    have:(b.length:Int) % 2=0:=by lia
    rw[this];rfl
   simp![e0,pW];refine bad λp e=>ho ?_;rw[wW e,AZ];lia
theorem FO {a:Nat}{its:List It}(ha:h[a]'(its.map iD))(hl:its.length<=1000)(q:∀h',h<+:h'->Q (oD (FL its)) h'):au sb P (d+1) 16 [.ref a] h Q E:=by
 refine wp_call rfl rfl ?_;simp![p9,p8];have bad:NF its=none->∀h',h<+:h'->Q .non h':=λe h' pr=>by
  have:FL its=none:=by unfold FL;rw[e];rfl
  rw[this]at q;exact q h' pr
 refine fO (xs:=(its.map iD).reverse) (J:=vY a (its.map iD).length) (vs:=[.ref a]) (h1:=h++[.lst []]) (λi σ h'=>∃(b:List It) (x2:Option D),NF (its.drop (its.length - i))=some b/\h'=h++[.lst (b.map iD).reverse]/\σ=[↑a,some (.ref h.length),x2,none,none,none,none])
  (λQ q=>by simp!;exact q) ?_ ⟨[],none,by simp[NF],rfl,rfl⟩ ?_ ?_ ?_
 ·erw[bz,gR,az ha]
 ·rintro i σ h' hi ⟨b,x2,_,rfl,_⟩;rw[length_reverse]at hi;erw[vY,az ha,if_true];by_cases hlt:i < (its.map iD).length
  ·rw[if_pos hlt,List.getElem?_reverse hlt]
  ·rw[if_neg hlt,getElem?_eq_none (by rw[length_reverse];lia)]
 ·rintro i v σ h' ev ⟨b,x2,eb,rfl,rfl⟩;have hi:i < its.length:=by have:=(List.getElem?_eq_some_iff.mp ev).1;simpa using this
  rw[List.getElem?_reverse (by simpa using hi),length_map,getElem?_map]at ev;have hk:its.length - 1 - i < its.length:=by lia
  rw[getElem?_eq_getElem hk,map_some,Option.some.injEq]at ev;subst ev;have ed:its.drop (its.length - (i+1))=its[its.length - 1 - i]::its.drop (its.length - i):=by
   rw[show its.length - (i+1)=its.length - 1 - i by lia,drop_eq_getElem_cons hk,show its.length - 1 - i+1=its.length - i by lia]
  have hlb:b.length<=1000:=le_trans (oQ eb).2 (by simp;lia);have Px:its=its.take (its.length - (i+1))++its.drop (its.length - (i+1)):=(List.take_append_drop _ _).symm;have uN:NF (its.drop (its.length - (i+1)))=none->NF its=none:=λz=>by rw[Px];exact FN z
  rw[ed]at uN ⊢;generalize its[its.length - 1 - i]=x at uN ⊢;generalize its.drop (its.length - i)=r at eb uN ⊢;have Py:((b.map iD).reverse).length < 16777216:=by simp;lia
  have keep:∀y:It,y≠.nt->NF (y::r)=some (y::b):=λy hy=>by
   cases y with
   | nt=>exact absurd rfl hy
   | _=>erw[NF,eb,map_some]
  refine ⟨_,rfl,?_⟩;have other:x≠.nt->ju (h++[AO.lst (b.map iD).reverse]) (iD x) (.str (tx "not"))=some false:=λhx=>by
   cases x with
   | nt=>exact absurd rfl hx
   | an=>rfl
   | or=>rfl
   | tr t=>exact Ti
  by_cases hx:x=.nt
  ·subst hx;have e1:ju (h++[AO.lst (b.map iD).reverse]) (iD .nt) (.str (tx "not"))=some true:=rfl;cases b with
   | nil=>
    have e0:((((([]:List It).map iD).reverse.length:Nat):Int) == 0)=true:=rfl;generalize (([]:List It).map iD).reverse=L at e0 e1 ⊢;simp![fZ,e1,jm,dS aq,e0,fY];exact bad (uN (by erw[NF,eb])) _ (prefix_append _ _)
   | cons y b=>
    have em:((y::b).map iD).reverse=(b.map iD).reverse++[iD y]:=by simp
    have hlr:((b.map iD).reverse).length < 16777216:=by simp at hlb ⊢;lia
    rw[em]at e1 ⊢;have fin:∀t,y=.tr t->∃b' x2,NF (.nt::r)=some b'/\h++[AO.lst ((b.map iD).reverse++[.tup [.str (tx "not"),sd t]])]=h++[AO.lst (b'.map iD).reverse]/\[↑a,some (D.ref h.length),some (iD .nt),none,none,none,none]=[↑a,some (D.ref h.length),x2,none,none,none,none]:=λt ht=>by
     subst ht;exact ⟨.tr (.nt t)::b,_,by erw[NF,eb],by simp[iD,sd],rfl⟩
    have nb:(∀t,y≠.tr t)->NF its=none:=λhy=>uN (by
     cases y with
     | tr t=>exact absurd rfl (hy t)
     | _=>erw[NF,eb])
    have ny:y≠.nt:=(oQ eb).1 _ (by simp);clear keep other uN eb ed Px Py em;generalize (b.map iD).reverse=L at e1 fin hlr ⊢;have e0:((((L++[iD y]).length:Nat):Int) == 0)=false:=beq_false_of_ne (by simp;lia);have ea:bx (L++[iD y]) (-1)=some (iD y):=by rw[rS];simp
    simp![fZ,e1,jm,dS aq,e0,aE aq,ea,FJ];cases y with
    | tr t=>
     simp![nP,p6,bT aq,uG aq,b6,b9 aq hlr];exact fin t rfl
    | nt=>exact absurd rfl ny
    | an=>
     simp![nP,fY];exact bad (nb (λt z=>by cases z)) _ (prefix_append _ _)
    | or=>
     simp![nP,fY];exact bad (nb (λt z=>by cases z)) _ (prefix_append _ _)
  ·simp![fZ,other hx,p7,bT aq,b9 aq Py,b6];exact ⟨x::b,_,keep x hx,by simp,rfl⟩
 ·rintro σ h' ⟨b,x2,eb,rfl,rfl⟩;rw[length_reverse,length_map,Nat.sub_self,drop_zero]at eb;obtain ⟨hn,hlb⟩:=oQ eb;have lr:prim sb .CO [.ref h.length] (h++[.lst (b.map iD).reverse])=some (.ref (h++[AO.lst (b.map iD).reverse]).length,(h++[.lst (b.map iD).reverse])++[.lst (b.map iD)]):=by
   show (match (h++[AO.lst (b.map iD).reverse])[h.length]? with | some (.lst xs)=>newL xs.reverse _ | _=>none)=_;rw[aq];show newL (b.map iD).reverse.reverse _=_;rw[List.reverse_reverse];exact if_pos (by rw[length_map];show b.length<=16777216;lia)
  simp![p5,lr];refine K9 aq hn (by lia) λh' pr=>?_;have:FL its=(dg b).map λp=>comb none none p.1 p.2:=by unfold FL;rw[eb];rfl
  rw[this]at q;exact q h' ((pre_app (prefix_append _ _)).trans pr)
def vL (s:List (List It))(ts:List S):Option Sn:=if (∀t∈ts,t≠sB->wR (kt t)=true->jD t=true) then (rL s (kinds ts)).bind AV else none
theorem XH {s:List (List It)}{ts:List S}:vL s (sB::ts)=vL s ts:=by
 unfold vL;rw[fA];by_cases hw:∀t∈ts,t≠sB->wR (kt t)=true->jD t=true
 ·rw[if_pos hw,if_pos (λt ht=>by rcases mem_cons.mp ht with rfl | ht;exact λz=>absurd rfl z;exact hw t ht)]
 ·rw[if_neg hw,if_neg (λz=>hw λt ht=>z t (by simp[ht]))]
theorem yf {s:List (List It)}{t:S}{ts:List S}(h1:t≠sB)(h2:wR (kt t)=true->jD t=true):vL s (t::ts)=(stL s (kt t)).bind λs'=>vL s' ts:=by
 unfold vL;rw[dG h1];by_cases hw:∀t∈ts,t≠sB->wR (kt t)=true->jD t=true
 ·rw[if_pos (λx ht=>by rcases mem_cons.mp ht with rfl | ht;exact λ_=>h2;exact hw x ht)];show ((stL s (kt t)).bind _).bind _=_;cases stL s (kt t) with
  | none=>rfl
  | some s'=>erw[bind_some,if_pos hw]
 ·rw[if_neg (λz=>hw λx ht=>z x (by simp[ht]))];cases stL s (kt t) with
  | none=>rfl
  | some s'=>erw[bind_some,if_neg hw]
theorem Pz {s:List (List It)}{t:S}{ts:List S}(h1:t≠sB)(h2:wR (kt t)=true)(h3:jD t=false):vL s (t::ts)=none:=by
 unfold vL;rw[if_neg];intro z;have:=z t (by simp) h1 h2;rw[h3]at this;cases this
theorem K_ {t:S}:lR t=if bl sB (lt t)=true then vL [[]] (lt t) else none:=by
 unfold lR vL;by_cases h1:bl sB (lt t)=true
 ·rw[if_pos h1];by_cases h2:∀x∈lt t,x≠sB->wR (kt x)=true->jD x=true
  ·rw[if_pos ⟨h1,h2⟩,if_pos h2]
  ·rw[if_neg (λz=>h2 z.2),if_neg h2]
 ·rw[if_neg h1,if_neg (λz=>h1 z.1)]
inductive nQ (h:AH):List Nat->List (List It)->Prop
 | nil:nQ h [] []
 | cons {r:Nat} {c:List It} {rs:List Nat} {s:List (List It)}:h[r]'(c.map iD)->nQ h rs s->nQ h (r::rs) (c::s)
theorem nQ.mono {h h':AH}{rs:List Nat}{s:List (List It)}(k:nQ h rs s)(H:∀(n:Nat) (o:AO),n∈rs->h[n]?=some o->h'[n]?=some o):nQ h' rs s:=by
 induction k with
 | nil=>exact .nil
 | cons a _ ih=>exact .cons (H _ _ (by simp) a) (ih λn o hn e=>H n o (by simp[hn]) e)
theorem nQ.len {h:AH}{rs:List Nat}{s:List (List It)}(k:nQ h rs s):rs.length=s.length:=by
 induction k with
 | nil=>rfl
 | cons _ _ ih=>simp[ih]
theorem nQ.lt {h:AH}{rs:List Nat}{s:List (List It)}(k:nQ h rs s):∀n∈rs,n < h.length:=by
 induction k with
 | nil=>intro n hn;cases hn
 | cons a _ ih=>
  intro n hn;rcases mem_cons.mp hn with rfl | hn
  ·exact j9 a
  ·exact ih n hn
structure SI (h0 h:AH)(sa:Nat)(rs:List Nat)(s:List (List It))(n:Nat):Prop where
 pre:h0<+:h
 st:h[sa]'(rs.reverse.map .ref)
 sk:nQ h rs s
 nd:rs.Nodup
 ns:sa∉rs
 lo:h0.length<=sa/\∀r∈rs,h0.length<=r
 b:rs.length<=n+1/\∀c∈s,c.length<=n
theorem SI.push {h0 h:AH}{sa r:Nat}{rs:List Nat}{c:List It}{s:List (List It)}{n:Nat}(k:SI h0 h sa (r::rs) (c::s) n)(x:It):SI h0 (h.set r (.lst (c.map iD++[iD x]))) sa (r::rs) ((c++[x])::s) (n+1):=by
 obtain ⟨k1,k2,k3,k4,k5,k6,k7⟩:=k;have hr:h[r]'(c.map iD):=by cases k3 with | cons a _=>exact a
 have hs:nQ h rs s:=by cases k3 with | cons _ b=>exact b
 have nr:r∉rs:=(nodup_cons.mp k4).1;refine ⟨jU k1 (k6.2 r (by simp)),bL k2 (λz=>k5 (by simp[z])),.cons (by rw[get_set hr];simp) (hs.mono λm o hm e=>bL e (λz=>nr (z ▸ hm))),k4,k5,k6,by have:=k7.1;lia,λc' hc=>?_⟩;rcases mem_cons.mp hc with rfl | hc
 ·have:=k7.2 c (by simp);simp;lia
 ·have:=k7.2 c' (by simp[hc]);lia
theorem SI.open_ {h0 h:AH}{sa:Nat}{rs:List Nat}{s:List (List It)}{n:Nat}(k:SI h0 h sa rs s n):SI h0 ((h++[AO.lst []]).set sa (AO.lst (rs.reverse.map D.ref++[D.ref h.length]))) sa (h.length::rs) ([]::s) (n+1):=by
 obtain ⟨k1,k2,k3,k4,k5,k6,k7⟩:=k;have ls:=j9 k2;have k2':(h++[AO.lst []])[sa]'(rs.reverse.map .ref):=az k2;refine ⟨jU (pre_app k1) k6.1,by rw[get_set k2'];simp,.cons (bL aq (by lia)) (k3.mono λm o hm e=>bL (az e) (λz=>k5 (z ▸ hm))),nodup_cons.mpr ⟨λz=>absurd (k3.lt _ z) (lt_irrefl _),k4⟩,λz=>?_,⟨k6.1,λr hr=>?_⟩,by have:=k7.1;simp;lia,λc hc=>?_⟩
 ·rcases mem_cons.mp z with z | z
  ·lia
  ·exact k5 z
 ·rcases mem_cons.mp hr with rfl | hr
  ·exact uF k1
  ·exact k6.2 r hr
 ·rcases mem_cons.mp hc with rfl | hc
  ·simp
  ·have:=k7.2 c hc;lia
theorem SI.pop {h0 h h':AH}{sa r:Nat}{rs:List Nat}{c:List It}{s:List (List It)}{n:Nat}(k:SI h0 h sa (r::rs) (c::s) n)(pr:h.set sa (.lst (rs.reverse.map .ref))<+:h'):SI h0 h' sa rs s n:=by
 obtain ⟨k1,k2,k3,k4,k5,k6,k7⟩:=k;have hs:nQ h rs s:=by cases k3 with | cons _ b=>exact b
 refine ⟨(jU k1 k6.1).trans pr,aD pr (get_set k2),hs.mono λm o hm e=>aD pr (bL e (λz=>k5 (by simp[z,hm]))),(nodup_cons.mp k4).2,λz=>k5 (by simp[z]),⟨k6.1,λr hr=>k6.2 r (by simp[hr])⟩,by have:=k7.1;simp at this;lia,λc hc=>k7.2 c (by simp[hc])⟩
theorem La {t:S}(hl:t.length<=5000)(q1:120 < t.length->∀h' r,h<+:h'->h'[r]'[.int 1]->Q (.ref r) h')(q2:t.length<=120->lR t=none->∀h' r,h<+:h'->h'[r]'[.int 2]->Q (.ref r) h')(q3:∀s,t.length<=120->lR t=some s->∀h',h<+:h'->Q (sd s) h'):au sb P (d+2) 18 [.str t] h Q E:=by
 refine wp_call rfl rfl ?_;simp![qm];refine Pp hl ?_;have ht0:(h++[AO.lst ((lt t).map .str)])[h.length]'((lt t).map .str):=aq;have yY:h<+:h++[AO.lst ((lt t).map .str)]:=prefix_append _ _;generalize h.length=ta at ht0 ⊢;generalize h++[AO.lst ((lt t).map .str)]=h0 at ht0 yY ⊢;by_cases hlen:120 < t.length
 ·have e1:decide ((120:Int) < (t.length:Int))=true:=decide_eq_true (by lia);simp![jq,e1,ql];exact q1 hlen _ _ (pre_app yY) aq
 have hlen:t.length<=120:=by lia
 have e1:decide ((120:Int) < (t.length:Int))=false:=decide_eq_false (by lia);have ltl:(lt t).length<=120:=le_trans FH hlen;simp![jq,e1,qk];refine HL ht0 (by lia) λh1 cY=>?_;have HM:=yY.trans cY;have ht1:=aD cY ht0;rw[K_]at q2 q3;cases hb:bl sB (lt t) with
 | false=>
  rw[hb]at q2;simp![qj];exact q2 hlen rfl _ _ (pre_app HM) aq
 | true=>
  rw[hb]at q2 q3;erw[if_true]at q2 q3;simp![qg];have two:∀h',h<+:h'->vL [[]] (lt t)=none->Q (.ref h'.length) (h'++[.lst [.int 2]]):=λh' pr e=>q2 hlen e _ _ (pre_app pr) aq;clear q2;have I0:SI h ((h1++[.lst []])++[.lst [.ref h1.length]]) (h1++[AO.lst []]).length [h1.length] [[]] 0:=by
   refine ⟨pre_app (pre_app HM),aq,.cons (az aq) .nil,by simp,by simp,?_,by simp,by simp⟩;have:=uF HM;refine ⟨by simp;lia,λr hr=>?_⟩;rw[mem_singleton]at hr
   lia
  have PB:((h1++[AO.lst []])++[AO.lst [.ref h1.length]])[ta]'((lt t).map .str):=az (az ht1);have hta:ta < h1.length:=j9 ht1;have PC:ta≠(h1++[AO.lst []]).length:=by simp;lia
  have Vy:ta∉[h1.length]:=by simp;lia
  generalize (h1++[AO.lst []]).length=sa at I0 PC ⊢;generalize [h1.length]=Zu at I0 Vy;generalize (h1++[AO.lst []])++[AO.lst [D.ref h1.length]]=h2 at I0 PB ⊢;generalize lt t=ts at *;simp![qe];refine fO (xs:=ts.map .str) (J:=dR ta) (vs:=[.ref ta]) (h1:=h2) (λi σ h'=>∃(rs:List Nat) (s:List (List It)) (x3 x4:Option D),SI h h' sa rs s i/\s≠[]/\ta∉rs/\h'[ta]'(ts.map .str)/\vL s (ts.drop i)=vL [[]] ts/\σ=[⇑t,↑ta,↑sa,x3,x4])
   (λQ q=>by simp!;exact q) (wK PB) ⟨Zu,[[]],none,none,I0,by simp,Vy,PB,rfl,rfl⟩ ?_ ?_ ?_
  ·rintro i σ h' _ ⟨rs,s,x3,x4,I,_,_,tZ,_⟩;erw[dR,tZ]
  ·rintro i v σ h' ev ⟨rs,s,x3,x4,I,PD,tn,tZ,ev2,rfl⟩;rw[getElem?_map]at ev;cases et:ts[i]? with
   | none=>rw[et]at ev;cases ev
   | some w=>
    rw[et]at ev;cases ev;have hi:=(List.getElem?_eq_some_iff.mp et).1;have e1:ts.drop i=w::ts.drop (i+1):=by
     rw[drop_eq_getElem_cons hi];congr 1;exact Option.some.inj ((getElem?_eq_getElem hi).symm.trans et)
    rw[e1]at ev2;generalize ts.drop (i+1)=rest at ev2 ⊢;refine ⟨_,rfl,?_⟩;refine SJ λK hK=>?_;obtain ⟨c,s',rfl⟩:=List.exists_cons_of_ne_nil PD;obtain ⟨r,rs',rfl⟩:∃r rs',rs=r::rs':=by
     have:=I.sk.len;cases rs with
     | nil=>cases this
     | cons r rs'=>exact ⟨r,rs',rfl⟩
    have hr:h'[r]'(c.map iD):=by have:=I.sk;cases this with | cons a _=>exact a
    have em:(r::rs').reverse.map Z.D.ref=rs'.reverse.map .ref++[.ref r]:=by simp
    have hst:=I.st;rw[em]at hst;have top:bx (rs'.reverse.map Z.D.ref++[.ref r]) (-1)=↑r:=by rw[rS];simp
    have hcl:c.length<=1000:=by have:=I.b.2 c (by simp);lia
    have hap:(c.map iD).length < 16777216:=by rw[length_map];lia
    have Zv:ta≠r:=λz=>tn (by simp[z])
    -- an item is appended
    have item:∀(x:It) (x4:Option D),vL ((c++[x])::s') rest=vL [[]] ts->∃(rs:List Nat) (s:List (List It)) (x3 Zw:Option D),SI h (h'.set r (.lst (c.map iD++[iD x]))) sa rs s (i+1)/\s≠[]/\ta∉rs/\(h'.set r (.lst (c.map iD++[iD x])))[ta]'(ts.map .str)/\vL s rest=vL [[]] ts/\[⇑t,↑ta,↑sa,⇑w,x4]=[⇑t,↑ta,↑sa,x3,Zw]:=λx x4 e=>
     ⟨r::rs',(c++[x])::s',_,x4,I.push x,by simp,tn,bL tZ (Ne.symm Zv),e,rfl⟩
    rcases vV w with rfl | rfl | hj | hj | hj | ⟨k1,k2⟩
    ·rw[yf AX (by rw[ic];intro z;cases z),ic]at ev2;have hll:(rs'.reverse.map Z.D.ref++[Z.D.ref r]).length < 16777216:=by have:=I.b.1;simp at this ⊢;lia
     have hpp:prim sb .append [.ref sa,.ref h'.length] (h'++[AO.lst []])=some (.non,(h'++[AO.lst []]).set sa (.lst (rs'.reverse.map Z.D.ref++[Z.D.ref r]++[Z.D.ref h'.length]))):=b9 (az hst) hll;simp![cC,beq_self_eq_true,tI,bT hst,hpp];have I':=I.open_;rw[em]at I';subst hK;refine ⟨h'.length::r::rs',[]::c::s',_,_,I',by simp,λz=>?_,bL (az tZ) (Ne.symm PC),ev2,rfl⟩;rcases mem_cons.mp z with z | z
     ·have:=j9 tZ;lia
     ·exact tn z
    ·rw[yf yc (by rw[ig];intro z;cases z),ig]at ev2;change ((FL c).bind _).bind _=_ at ev2;have n1:(tx ")" == tx "(")=false:=by decide
     simp![cC,n1,cT,beq_self_eq_true,tK,bT hst,uG hst];have hr2:(h'.set sa (.lst (rs'.reverse.map .ref)))[r]'(c.map iD):=bL hr (λz=>I.ns (by simp[z]));refine FO hr2 hcl λh3 bW=>?_;have I3:=I.pop bW;have XI:=aD bW (bL tZ (Ne.symm PC));cases ef:FL c with
     | none=>
      rw[ef]at ev2;simp![oD,kD,dC,kC];subst hK;exact two h3 I3.pre ev2.symm
     | some tr=>
      rw[ef]at ev2;simp![oD,kD,fS,dS I3.st];cases rs' with
      | nil=>
       have es:s'=[]:=by
        have:=I3.sk.len;exact length_eq_zero_iff.mp this.symm
       subst es;have e0:((((([]:List Nat).reverse.map Z.D.ref).length:Nat):Int) == 0)=true:=rfl;have Jd:=I3.pre;clear I3 hst em top hr2 bW item;generalize ([]:List Nat).reverse.map Z.D.ref=L at e0 ⊢;simp![e0,kC];subst hK;exact two h3 Jd ev2.symm
      | cons r1 A0=>
       obtain ⟨c1,s1,rfl⟩:∃c1 s1,s'=c1::s1:=by
        have:=I3.sk;cases this with
        | cons _ _=>exact ⟨_,_,rfl⟩
       have hr1:h3[r1]'(c1.map iD):=by have:=I3.sk;cases this with | cons a _=>exact a
       have PF:=I3.st;have Zx:(r1::A0).reverse.map Z.D.ref=A0.reverse.map .ref++[.ref r1]:=by simp
       have PH:bx ((r1::A0).reverse.map Z.D.ref) (-1)=↑r1:=by rw[rS,Zx];simp
       have e0:(((((r1::A0).reverse.map Z.D.ref).length:Nat):Int) == 0)=false:=beq_false_of_ne (by simp;lia);have hc1:(c1.map iD).length < 16777216:=by have:=I3.b.2 c1 (by simp);rw[length_map];lia
       clear em hst top hr2;generalize (r1::A0).reverse.map Z.D.ref=L at PF PH e0 ⊢;simp![e0,tJ,aE PF,PH,bT hr1,b9 hr1 hc1];have I4:=I3.push (.tr tr);have Vz:ta∉r1::A0:=λz=>tn (by simp at z ⊢;exact .inr z);have wX:vL ((c1++[It.tr tr])::s1) rest=vL [[]] ts:=ev2;subst hK;exact ⟨r1::A0,(c1++[It.tr tr])::s1,_,_,I4,by simp,Vz,bL XI (λz=>Vz (by simp[z])),wX,rfl⟩
    ·subst hj;rw[yf DS (by rw[iV];intro z;cases z),iV]at ev2;have n1:(tx "not" == tx "(")=false:=by decide
     have n3:J3.contains (tx "not")=true:=by decide
     simp![cC,n1,cT,Cm,dX,wV,n3,gb,aE hst,top,bT hr,b9 hr hap];subst hK;exact item .nt _ ev2
    ·subst hj;rw[yf O4 (by rw[gn];intro z;cases z),gn]at ev2;have n1:(tx "and" == tx "(")=false:=by decide
     have n3:J3.contains (tx "and")=true:=by decide
     simp![cC,n1,cT,Cj,dX,wV,n3,gb,aE hst,top,bT hr,b9 hr hap];subst hK;exact item .an _ ev2
    ·subst hj;rw[yf O5 (by rw[gq];intro z;cases z),gq]at ev2;have n1:(tx "or" == tx "(")=false:=by decide
     have n3:J3.contains (tx "or")=true:=by decide
     simp![cC,n1,cT,Ck,dX,wV,n3,gb,aE hst,top,bT hr,b9 hr hap];subst hK;exact item .or _ ev2
    ·have nb:∀k:S,kt k≠kt w->(w == k)=false:=λk hk=>beq_false_of_ne λz=>hk (by rw[z]);have s1:=nb (tx ")") (by rw[k1,ig];exact λz=>by cases z);have s2:=nb (tx "(") (by rw[k1,ic];exact λz=>by cases z);have s3:J3.contains w=false:=by rw[eq_false_iff];exact λz=>k2 (contains_iff_mem.mp z)
     simp![cC,s2,cT,s1,dX,wV,s3,qd];by_cases hw:w=sB
     ·rw[hw,XH]at ev2;have eb:(w == tx " ")=true:=by rw[hw,jP];simp
      simp![eb];obtain ⟨i1,i2,i3,i4,i5,i6,i7⟩:=I;subst hK;exact ⟨r::rs',c::s',_,_,⟨i1,i2,i3,i4,i5,i6,by have:=i7.1;lia,λc' hc=>by have:=i7.2 c' hc;lia⟩,by simp,tn,tZ,ev2,rfl⟩
     ·have eb:(w == tx " ")=false:=by rw[jP];exact beq_false_of_ne hw
      simp![eb,qc];refine Pq ?_;cases VA:jD w with
      | false=>
       rw[Pz hw (by rw[k1];rfl) VA]at ev2;simp![qb];subst hK;exact two h' I.pre ev2.symm
      | true=>
       rw[yf hw (λ_=>VA),k1]at ev2;simp![p_,aE hst,top,bT hr,b9 hr hap];subst hK;exact item (.tr (.is w)) _ ev2
  ·rintro σ h' ⟨rs,s,x3,x4,I,PD,tn,tZ,ev2,rfl⟩;rw[length_map,drop_length]at ev2;obtain ⟨c,s',rfl⟩:=List.exists_cons_of_ne_nil PD;obtain ⟨r,rs',rfl⟩:∃r rs',rs=r::rs':=by
    have:=I.sk.len;cases rs with
    | nil=>cases this
    | cons r rs'=>exact ⟨r,rs',rfl⟩
   have hr:h'[r]'(c.map iD):=by have:=I.sk;cases this with | cons a _=>exact a
   have em:(r::rs').reverse.map Z.D.ref=rs'.reverse.map .ref++[.ref r]:=by simp
   have hst:=I.st;rw[em]at hst;have hcl:c.length<=1000:=by have:=I.b.2 c (by simp);rw[length_map]at this;lia
   have wX:(FL c).bind (λt=>if s'.isEmpty then some t else none)=vL [[]] ts:=ev2;simp![tH,bT hst,uG hst];have hr2:(h'.set sa (.lst (rs'.reverse.map .ref)))[r]'(c.map iD):=bL hr (λz=>I.ns (by simp[z]));refine FO hr2 hcl λh3 bW=>?_;have I3:=I.pop bW;cases ef:FL c with
   | none=>
    rw[ef]at wX;simp![oD,kB,dC,ky];exact two h3 I3.pre wX.symm
   | some tr=>
    rw[ef]at wX;have hl3:=I3.sk.len;have e0:decide ((0:Int) < ((rs'.reverse.map Z.D.ref).length:Nat))=!s'.isEmpty:=by
     rw[length_map,length_reverse,hl3];cases s' with
     | nil=>rfl
     | cons _ _=>simp
    have Jd:=I3.pre;have VD:=I3.st;clear em hst hr2 bW I3;generalize rs'.reverse.map Z.D.ref=L at e0 VD ⊢;simp![oD,kB,fS,dS VD,e0];cases hs:s'.isEmpty with
    | true=>
     rw[hs]at wX;simp![tG];exact q3 tr hlen wX.symm h3 Jd
    | false=>
     rw[hs]at wX;simp![ky];exact two h3 Jd wX.symm
theorem wY {s:S}{k:Int}(h1:-4611686018427387904<=k/\k < 4611686018427387904)(h2:s.length * k.toNat<=16777216):prim sb .vp [.str s,.int k] h=some (.str (replicate k.toNat s).flatten,h):=by
 show (if okR k && decide (s.length * k.toNat<=lim) then _ else none)=_;rw[mK.mpr h1];have:decide (s.length * k.toNat<=lim)=true:=decide_eq_true h2;rw[this];rfl
theorem uO {s:S}{n:Nat}:((replicate n s).flatten).length=s.length * n:=by
 rw[List.length_flatten,List.map_replicate,List.sum_replicate_nat,mul_comm]
theorem wZ {v:D}{k:Nat}(hk:k<=1000){a:Nat}(ha:h[a]'[v]):prim sb .mul [.ref a,.int (k:Int)] h=some (.ref h.length,h++[.lst (replicate k v)]):=by
 show (match h[a]? with | some (.lst xs)=>if okR (k:Int) then newL (replicate (k:Int).toNat xs).flatten h else none | _=>none)=_;rw[ha];show (if okR (k:Int) then newL (replicate (k:Int).toNat [v]).flatten h else none)=_;rw[if_pos (mK.mpr (by lia)),toNat_natCast];have e:(replicate k [v]).flatten=replicate k v:=by
  induction k with
  | zero=>rfl
  | succ k ih=>rw[replicate_succ,flatten_cons,ih (by lia),replicate_succ];rfl
 rw[e];exact if_pos (by rw[length_replicate];show k<=16777216;lia)
def yZ (n m:Nat)(xs:List D):Prop:=xs.length=n/\∀v∈xs,∃i:Nat,v=.int i/\i<=m
theorem yZ.at {n m:Nat}{xs:List D}{k:Int}(c:yZ n m xs)(h0:0<=k)(h1:k < n):∃i:Nat,bx xs k=some (.int i)/\i<=m:=by
 obtain ⟨v,hv,e⟩:=g9 (xs:=xs) (z:=k) h0 (by rw[c.1];exact h1);obtain ⟨i,rfl,hi⟩:=c.2 v hv;exact ⟨i,e,hi⟩
theorem yZ.set {n m:Nat}{xs:List D}{k i:Nat}(c:yZ n m xs)(hi:i<=m):yZ n (m+1) (xs.set k (.int ((i:Int)+1))):=by
 refine ⟨by rw[List.length_set];exact c.1,λv hv=>?_⟩;rcases List.mem_or_eq_of_mem_set hv with hv | rfl
 ·obtain ⟨j,e,hj⟩:=c.2 v hv;exact ⟨j,e,by lia⟩
 ·exact ⟨i+1,by simp,by lia⟩
theorem FP {xs:List D}{v:D}{a:Nat}{k:Int}(ha:h[a]'xs)(h0:0<=k)(h1:k < xs.length):prim sb .fC [.ref a,.int k,v] h=some (.non,h.set a (.lst (xs.set k.toNat v))):=by
 show (match h[a]? with | some (.dct kvs)=>_ | some (.lst xs)=>_ | _=>none)=_;rw[ha];show (match gP xs.length k with | some j=>some (Z.D.non,h.set a (.lst (xs.set j v))) | none=>none)=_;have e:gP xs.length k=some k.toNat:=by unfold gP;rw[if_pos h0,if_pos h1]
 rw[e]
theorem PJ {da na:Nat}{D:Nat->Int}{N:List S}{m:Nat}(hm:34<=m)(hd:h[da]'(rl m D))(hn:h[na]'(N.map .str))(hN:N≠[])(Cv:∀n∈N,n.length<=12)(q:∀h' t,h<+:h'->t.length<=1000->Q (.str t) h'):au sb P (d+1) 11 [.ref da,.ref na] h Q E:=by
 refine wp_call rfl rfl ?_;obtain ⟨v0,e0⟩:=bg (n:=m) (f:=D) (z:=0) (by decide) (by lia);obtain ⟨v1,e1⟩:=bg (n:=m) (f:=D) (z:=1) (by decide) (by lia);obtain ⟨n,hnn⟩:∃n:Nat,1+v0 % 6=(n:Int):=⟨(1+v0 % 6).toNat,by lia⟩
 have hn1:1<=n/\n<=6:=by lia
 simp![pV,aE hd,e0,hnn,pU,wZ (show n<=1000 by lia) aq];have hd1:=az (l:=[AO.lst (replicate n (Z.D.int 0))]) (az (l:=[AO.lst [Z.D.int 0]]) hd);have hn2:=az (l:=[AO.lst (replicate n (Z.D.int 0))]) (az (l:=[AO.lst [Z.D.int 0]]) hn);have cY:h<+:h++[AO.lst [Z.D.int 0]]++[AO.lst (replicate n (Z.D.int 0))]:=pre_app (prefix_append _ _);have ho1:(h++[AO.lst [Z.D.int 0]]++[AO.lst (replicate n (Z.D.int 0))])[(h++[AO.lst [Z.D.int 0]]).length]'(replicate n (Z.D.int 0)):=aq;have hoa:h.length<=(h++[AO.lst [Z.D.int 0]]).length:=by simp
 generalize (h++[AO.lst [Z.D.int 0]]).length=oa at ho1 hoa ⊢;generalize h++[AO.lst [Z.D.int 0]]++[AO.lst (replicate n (Z.D.int 0))]=h1 at hd1 hn2 cY ho1 ⊢;simp![pT,wZ (show n<=1000 by lia) aq];have hd2:=az (l:=[AO.lst (replicate n (Z.D.int 0))]) (az (l:=[AO.lst [Z.D.int 0]]) hd1);have Zy:=az (l:=[AO.lst (replicate n (Z.D.int 0))]) (az (l:=[AO.lst [Z.D.int 0]]) hn2);have ho2:=az (l:=[AO.lst (replicate n (Z.D.int 0))]) (az (l:=[AO.lst [Z.D.int 0]]) ho1);have b8:h<+:h1++[AO.lst [Z.D.int 0]]++[AO.lst (replicate n (Z.D.int 0))]:=pre_app (pre_app cY);have hs2:(h1++[AO.lst [Z.D.int 0]]++[AO.lst (replicate n (Z.D.int 0))])[(h1++[AO.lst [Z.D.int 0]]).length]'(replicate n (Z.D.int 0)):=aq;have hsa:h.length<=(h1++[AO.lst [Z.D.int 0]]).length:=by have:=uF cY;simp;lia
 have hos:oa≠(h1++[AO.lst [Z.D.int 0]]).length:=by have:=j9 ho1;simp;lia
 generalize (h1++[AO.lst [Z.D.int 0]]).length=sa at hs2 hsa hos ⊢;generalize h1++[AO.lst [Z.D.int 0]]++[AO.lst (replicate n (Z.D.int 0))]=h2 at hd2 Zy ho2 b8 hs2 ⊢;have hdl:=j9 hd;have hnl:=j9 hn;have c0:yZ n 0 (replicate n (Z.D.int 0)):=⟨length_replicate,λv hv=>⟨0,by rw[List.eq_of_mem_replicate hv];rfl,le_refl _⟩⟩
 obtain ⟨k1,hk1⟩:∃k:Nat,v1 % 4=(k:Int):=⟨(v1 % 4).toNat,by lia⟩
 have hk3:k1<=3:=by lia
 simp![pS];refine eK (lo:=0) (n:=k1) (vs:=[.int k1]) (h1:=h2) (λi σ h'=>∃(xs ys:List Z.D) (x5 x6 x7:Option Z.D),h<+:h'/\h'[oa]'xs/\h'[sa]'ys/\yZ n i xs/\yZ n i ys/\σ=[↑da,↑na,some (.int n),↑oa,↑sa,x5,x6,x7,none,none]) (λQ q=>by simp![aE hd2,e1,hk1];exact q) (by simp[bz,iY,iu,iZ,i9,gR,okR];lia) ⟨_,_,none,none,none,b8,ho2,hs2,c0,c0,rfl⟩ ?_ ?_
 ·rintro i σ h' hi ⟨xs,ys,x5,x6,x7,pr,ho,hs,cx,cy,rfl⟩;refine ⟨_,rfl,?_⟩;have hd':=aD pr hd;obtain ⟨w2,f2⟩:=bg (n:=m) (f:=D) (z:=2+(0+(i:Int))) (by lia) (by lia);obtain ⟨w5,f5⟩:=bg (n:=m) (f:=D) (z:=5+(0+(i:Int))) (by lia) (by lia);simp![pR,aE hd',f2,kT (show (0:Int) < (n:Int) by lia),pQ,f5];have o0:=emod_nonneg w2 (show (n:Int)≠0 by lia);have o1:=emod_lt_of_pos w2 (show (0:Int) < (n:Int) by lia);generalize w2 % (n:Int)=one at o0 o1;have t0:=emod_nonneg w5 (show (n:Int) - one≠0 by lia);have t1:=emod_lt_of_pos w5 (show (0:Int) < (n:Int) - one by lia);simp![kT (show (0:Int) < (n:Int) - one by lia)];generalize w5 % ((n:Int) - one)=two at t0 t1;obtain ⟨i1,a1,b1⟩:=cx.at o0 o1;obtain ⟨i2,a2,b2⟩:=cy.at (k:=one+two) (by lia) (by lia);have hs':(h'.set oa (.lst (xs.set one.toNat (.int ((i1:Int)+1)))))[sa]'ys:=bL hs hos;simp![pP,aE ho,a1,FP ho o0 (by rw[cx.1];exact o1),sI,aE hs',a2,FP hs' (show 0<=one+two by lia) (by rw[cy.1];lia)];exact ⟨_,_,_,_,_,jU (jU pr hoa) hsa,bL (get_set ho) (Ne.symm hos),get_set hs',cx.set b1,cy.set b2,rfl⟩
 ·rintro σ h' ⟨xs,ys,x5,x6,x7,pr,ho,hs,cx,cy,rfl⟩;simp![sH,sG];have hN0:0 < N.length:=length_pos_iff.mpr hN;refine eK (lo:=0) (n:=n) (vs:=[.int n]) (h1:=h') (λi σ h2=>∃(t:S) (x5 x9:Option Z.D),h'<+:h2/\t.length<=60 * i/\σ=[↑da,↑na,some (.int n),↑oa,↑sa,x5,x6,x7,⇑t,x9]) (λQ q=>by simp!;exact q) (by simp[bz,iY,iu,iZ,i9,gR,okR];lia) ⟨_,_,_,fe,by simp;decide,rfl⟩ ?_ ?_
  ·rintro i σ h3 hi ⟨t,y5,y9,bW,tl,rfl⟩;refine ⟨_,rfl,?_⟩;have w6:=aD bW (aD pr hd);have aa0:=aD bW (aD pr hn);have ho3:=aD bW ho;have hs3:=aD bW hs;obtain ⟨w8,f8⟩:=bg (n:=m) (f:=D) (z:=8+(0+(i:Int))) (by lia) (by lia);obtain ⟨w14,jF⟩:=bg (n:=m) (f:=D) (z:=14+(0+(i:Int))) (by lia) (by lia);obtain ⟨w20,jG⟩:=bg (n:=m) (f:=D) (z:=20+(0+(i:Int))) (by lia) (by lia);obtain ⟨w26,jH⟩:=bg (n:=m) (f:=D) (z:=26+(0+(i:Int))) (by lia) (by lia);obtain ⟨i1,a1,b1⟩:=cx.at (k:=0+(i:Int)) (by lia) (by lia);obtain ⟨i2,a2,b2⟩:=cy.at (k:=0+(i:Int)) (by lia) (by lia);obtain ⟨u,hu,eu⟩:=g9 (xs:=N.map Z.D.str) (z:=w26 % ((N.length:Nat):Int)) (emod_nonneg _ (by lia)) (by rw[length_map];exact emod_lt_of_pos _ (by lia));obtain ⟨Zz,hnm,rfl⟩:=mem_map.mp hu;have aa1:=Cv Zz hnm;rw[sF,eZ];refine wp_seq (λσ h4=>∃t':S,h'<+:h4/\t'.length<=60 * i+5/\σ=[↑da,↑na,some (.int n),↑oa,↑sa,some (.int (0+i)),x6,x7,⇑t',y9]) ?_ ?_
   ·simp!;by_cases hp:(0:Int) < 0+(i:Int)
    ·rw[decide_eq_true hp];obtain ⟨x,hx,ex⟩:=g9 (xs:=[Z.D.str (tx " and "),.str (tx " or ")]) (z:=w8 % 2) (emod_nonneg _ (by decide)) (emod_lt_of_pos _ (by decide));obtain ⟨jn,rfl,hjn⟩:∃jn:S,x=.str jn/\jn.length<=5:=by
      erw[mem_cons,not_mem_nil,or_false]at hx;rcases hx with e | e
      ·exact ⟨_,e,by decide⟩
      ·exact ⟨_,e,by decide⟩
     simp![sE,aE (az w6),f8,aE aq,ex];rw[if_pos (by lia)];exact ⟨_,pre_app bW,by simp;lia,rfl⟩
    ·rw[decide_eq_false hp];simp!;exact ⟨t,bW,by lia,rfl⟩
   ·rintro σ1 h4 ⟨t',pr4,tl',rfl⟩;have wI:=aD pr4 (aD pr hd);have VE:=aD pr4 (aD pr hn);have ZA:=aD pr4 ho;have NI:=aD pr4 hs;have k14:0<=w14 % 8 / 6/\w14 % 8 / 6<=1:=by lia
    have k20:0<=w20 % 8 / 6/\w20 % 8 / 6<=1:=by lia
    have l14:(tx "not ").length * (w14 % 8 / 6).toNat<=4:=by rw[lQ];erw[length_cons,length_nil];lia
    have l20:(tx "not ").length * (w20 % 8 / 6).toNat<=4:=by rw[lQ];erw[length_cons,length_nil];lia
    have li1:(tx "(").length * ((i1:Int)).toNat<=3:=by rw[fz];erw[length_cons,length_nil];lia
    have li2:(tx ")").length * ((i2:Int)).toNat<=3:=by rw[gm];erw[length_cons,length_nil];lia
    have VF:=@wY h4 (tx "not ") (w14 % 8 / 6) (by lia) (by lia);have VG:=@wY h4 (tx "not ") (w20 % 8 / 6) (by lia) (by lia);have VH:=@wY h4 (tx "(") (i1:Int) (by lia) (by lia);have VI:=@wY h4 (tx ")") (i2:Int) (by lia) (by lia);have r14:=uO (s:=tx "not ") (n:=(w14 % 8 / 6).toNat);have r20:=uO (s:=tx "not ") (n:=(w20 % 8 / 6).toNat);have ZC:=uO (s:=tx "(") (n:=((i1:Int)).toNat);have ZD:=uO (s:=tx ")") (n:=((i2:Int)).toNat);generalize (replicate (w14 % 8 / 6).toNat (tx "not ")).flatten=s14 at VF r14;generalize (replicate (w20 % 8 / 6).toNat (tx "not ")).flatten=s20 at VG r20;generalize (replicate ((i1:Int)).toNat (tx "(")).flatten=si1 at VH ZC;generalize (replicate ((i2:Int)).toNat (tx ")")).flatten=si2 at VI ZD;simp![sD,aE wI,jF,VF];rw[if_pos (by lia)];simp![aE ZA,a1,VH];rw[if_pos (by erw[length_append];lia)];simp![sC,aE wI,jH,dS VE,length_map,kT (show (0:Int) < (N.length:Int) by lia),aE VE,eu,sA,jG,VG];rw[if_pos (by erw[length_append];lia)];simp!;rw[if_pos (by erw[length_append];lia)];simp![aE NI,a2,VI];rw[if_pos (by erw[length_append];lia)];exact ⟨_,_,_,pr4,by erw[length_append];lia,rfl⟩
  ·rintro σ h2 ⟨t,y5,y9,bW,tl,rfl⟩;simp![sy];exact q h2 t (pr.trans bW) (by lia)
theorem FR {da:Nat}{D:Nat->Int}{m:Nat}{t:S}(hm:50<=m)(hd:h[da]'(rl m D))(ht:t.length<=2000)(q:∀h' t',h<+:h'->t'.length<=2100->Q (.str t') h'):au sb P (d+1) 12 [.str t,.ref da] h Q E:=by
 refine wp_call rfl rfl ?_;simp![km];rw[lL,eZ];generalize hsg:([32,33,34,35,36,38,39,40,41,42,43,44,45,46,47,48,49,50,51,52,53,54,55,56,57,58,59,60,61,62,63,64,65,66,67,68,69,70,71,72,73,74,75,76,77,78,79,80,81,82,83,84,85,86,87,88,89,90,91,92,93,94,95,96]:S)=PK;have hsl:PK.length=64:=by rw[<-hsg];rfl
 simp![lK];have htl:(tx "abcdefghijklmnopqrstuvwxyz{|}~").length=30:=by decide
 rw[if_pos (by lia)];have PL:(PK++tx "abcdefghijklmnopqrstuvwxyz{|}~").length=94:=by rw[length_append,hsl,htl]
 clear hsg hsl;generalize PK++tx "abcdefghijklmnopqrstuvwxyz{|}~"=sg at PL ⊢;generalize hsm:([.str (tx "("),.str (tx ")"),.str (tx " "),.str (tx "not "),.str (tx " and "),.str (tx " or "),.str (tx "a"),.str (tx "N"),.str (tx "0"),.str [10],.str (tx " usually "),.str (tx "nota")]:List Z.D)=sm;have XJ:∀z:Int,∃w:S,bx sm (z % 12)=⇑w/\w.length<=9:=λz=>by
  obtain ⟨v,hv,e⟩:=g9 (xs:=sm) (z:=z % 12) (emod_nonneg _ (by decide)) (by rw[<-hsm];exact emod_lt_of_pos _ (by decide));rw[<-hsm]at hv;erw[mem_cons,not_mem_nil,or_false]at hv;rcases hv with rfl | rfl | rfl | rfl | rfl | rfl | rfl | rfl | rfl | rfl | rfl | rfl<;>exact ⟨_,e,by decide⟩
 clear hsm;have cY:h<+:h++[AO.lst sm]:=prefix_append _ _;have hs1:(h++[AO.lst sm])[h.length]'sm:=aq;have hd1:=aD cY hd;generalize h.length=ma at hs1 ⊢;generalize h++[AO.lst sm]=h1 at cY hs1 hd1 ⊢;obtain ⟨Je,ZE⟩:=bg (n:=m) (f:=D) (z:=32) (by decide) (by lia);obtain ⟨Jf,ZF⟩:=bg (n:=m) (f:=D) (z:=33) (by decide) (by lia);have mm:=@zP sb h1 (Je % 4 / 2) (1+Jf % 2) (by lia);obtain ⟨k,hk⟩:∃k:Nat,Je % 4 / 2 * (1+Jf % 2)=(k:Int):=by
  refine Int.eq_ofNat_of_zero_le (Int.mul_nonneg (by lia) (by lia))
 have hk2:k<=2:=by
  have h1:Je % 4 / 2=0\/Je % 4 / 2=1:=by lia
  have h2:Jf % 2=0\/Jf % 2=1:=by lia
  rcases h1 with h1 | h1<;>rcases h2 with h2 | h2<;>rw[h1,h2]at hk<;>lia
 rw[hk]at mm;simp![lJ];refine eK (lo:=0) (n:=k) (vs:=[.int k]) (h1:=h1) (λi σ h'=>∃(t':S) (x4 x5 x6:Option Z.D),h1<+:h'/\t'.length<=2000+20 * i/\σ=[⇑t',↑da,↑ma,⇑sg,x4,x5,x6]) (λQ q=>by simp![aE hd1,ZE,ZF,mm];exact q) (by simp[bz,iY,iu,iZ,i9,gR,okR];lia) ⟨t,none,none,none,fe,by lia,rfl⟩ ?_ ?_
 ·rintro i σ h' hi ⟨t',x4,x5,x6,pr,tl,rfl⟩;refine ⟨_,rfl,?_⟩;have hd2:=aD pr hd1;have hs2:=aD pr hs1;obtain ⟨w34,ZG⟩:=bg (n:=m) (f:=D) (z:=34+(0+(i:Int))) (by lia) (by lia);obtain ⟨ZI,ZJ⟩:=bg (n:=m) (f:=D) (z:=36+(0+(i:Int))) (by lia) (by lia);obtain ⟨ZK,ZL⟩:=bg (n:=m) (f:=D) (z:=38+(0+(i:Int))) (by lia) (by lia);obtain ⟨PN,ZM⟩:=bg (n:=m) (f:=D) (z:=40+(0+(i:Int))) (by lia) (by lia);obtain ⟨ZN,ZO⟩:=bg (n:=m) (f:=D) (z:=46+(0+(i:Int))) (by lia) (by lia);obtain ⟨ZP,ZQ⟩:=bg (n:=m) (f:=D) (z:=48+(0+(i:Int))) (by lia) (by lia);obtain ⟨nw,en,ln⟩:=XJ ZI;have hpos:(0:Int) < (t'.length:Int)+1:=by lia
  simp![lH,aE hd2,ZG,kT hpos,lG,ZJ,aE hs2,en];have a0:=emod_nonneg w34 (show (t'.length:Int)+1≠0 by lia);generalize w34 % ((t'.length:Int)+1)=at_ at a0;obtain ⟨x,hx,ex⟩:=g9 (xs:=[Z.D.str nw,.str (tx "")]) (z:=ZK % 2) (emod_nonneg _ (by decide)) (emod_lt_of_pos _ (by decide));obtain ⟨n2,rfl,ln2⟩:∃n2:S,x=.str n2/\n2.length<=9:=by
   erw[mem_cons,not_mem_nil,or_false]at hx;rcases hx with e | e
   ·exact ⟨_,e,ln⟩
   ·exact ⟨_,e,by decide⟩
  simp![aE (az (l:=[AO.lst [Z.D.str nw,.str (tx "")]]) hd2),ZL,aE aq,ex];rw[lF,eZ];have w6:=az (l:=[AO.lst [Z.D.str nw,.str (tx "")]]) hd2;have bW:=pre_app (l:=[AO.lst [Z.D.str nw,.str (tx "")]]) pr;generalize h'++[AO.lst [Z.D.str nw,.str (tx "")]]=h3 at w6 bW;refine wp_seq (λσ h4=>h4=h3/\∃n3:S,n3.length<=9/\σ=[⇑t',↑da,↑ma,⇑sg,some (.int (0+i)),some (.int at_),⇑n3]) ?_ ?_
  ·simp![aE w6,ZQ];cases ZP % 3 == 0 with
   | true=>
    obtain ⟨c,hc,ec⟩:=g9 (xs:=sg) (z:=ZN % 94) (emod_nonneg _ (by decide)) (by rw[PL];exact emod_lt_of_pos _ (by decide));simp![lE,aE w6,ZO,ec];exact ⟨_,by simp,rfl⟩
   | false=>
    simp!;exact ⟨n2,ln2,rfl⟩
  ·rintro σ1 h4 ⟨rfl,n3,ln3,rfl⟩;have l1:=jT (xs:=t') (lo:=none) (hi:=some at_);have l2:=jT (xs:=t') (lo:=some (at_+PN % 2)) (hi:=none);have l3:(cut t' none (some at_)).length+(cut t' (some (at_+PN % 2)) none).length<=t'.length:=by
    have hw:=emod_nonneg PN (show (2:Int)≠0 by decide);erw[cut,aV];rw[if_neg (by lia),if_neg (by lia)];erw[length_take,length_drop]
    lia
   simp![lD];rw[if_pos (by lia)];simp![aE w6,ZM];rw[if_pos (by erw[length_append];lia)];exact ⟨_,_,_,_,bW,by erw[length_append];lia,rfl⟩
 ·rintro σ h' ⟨t',x4,x5,x6,pr,tl,rfl⟩;simp![lC];exact q h' t' (cY.trans pr) (by lia)
theorem c_long {da:Nat}{D:Nat->Int}{m:Nat}{t:S}(hm:50<=m)(hd:h[da]'(rl m D))(ht:t.length<=2100)(q:∀t',t'.length<=2300->Q (.str t') h):au sb P (d+1) 13 [.str t,.ref da] h Q E:=by
 refine wp_call rfl rfl ?_;obtain ⟨VJ,ZR⟩:=bg (n:=m) (f:=D) (z:=42) (by decide) (by lia);obtain ⟨ZU,ZV⟩:=bg (n:=m) (f:=D) (z:=43) (by decide) (by lia);simp![sO,aE hd,ZR,sN,ZV];cases ZU % 5 == 0 with
 | true=>
  simp![sM];refine eK (lo:=0) (n:=60) (vs:=[.int 60]) (h1:=h) (λi σ h'=>∃(t':S) (x3:Option Z.D),h'=h/\t'.length<=2100+2 * i/\σ=[⇑t',↑da,some (.int (117+VJ % 6)),x3]) (λQ q=>by simp!;exact q) (by simp[bz,iY,iu,iZ,i9,gR,okR]) ⟨t,none,rfl,by lia,rfl⟩ ?_ ?_
  ·rintro i σ h' hi ⟨t',x3,rfl,tl,rfl⟩;refine ⟨_,rfl,?_⟩;simp![sL];cases decide ((t'.length:Int)+2<=117+VJ % 6) with
   | true=>
    simp![sJ];rw[if_pos (by rw[fz];erw[length_cons,length_nil];lia)];simp!;rw[if_pos (by rw[fz,gm];erw[length_append,length_cons,length_nil];lia)];exact ⟨_,_,rfl,by rw[fz,gm];erw[length_append,length_cons,length_nil];lia,rfl⟩
   | false=>
    simp!;exact ⟨t',_,by lia,rfl⟩
  ·rintro σ h' ⟨t',x3,rfl,tl,rfl⟩;simp![kq];exact q t' (by lia)
 | false=>
  simp![kq];exact q t (by lia)
theorem t7:∀{s:Sn},1<=lv s
 | .is _=>le_refl _
 | .nt _=>by erw[lv];lia
 | .an _ _=>by erw[lv];lia
 | .or _ _=>by erw[lv];lia
def wF:Fr->Nat
 | .op=>1
 | .nt=>4
 | .an a=>4 * lv a+2
 | .or a=>4 * lv a+1
def lU:List Fr->Nat
 | []=>0
 | f::B=>wF f+lU B
def wO:Option Sn->Nat
 | none=>0
 | some w=>4 * lv w - 3
def wT:Tk->Nat
 | .op=>1 | .cl=>1 | .nt=>4 | .an=>5 | .or=>4
 | .nm s=>s.length
def wTs:List Tk->Nat
 | []=>0
 | t::r=>wT t+wTs r
theorem XM {f:Fr}{w:Sn}:4 * lv (fw f w) - 3<=wF f+(4 * lv w - 3):=by
 have:=@t7 w;cases f with
 | op=>erw[fw,wF];lia
 | nt=>erw[fw,wF,lv];lia
 | an a=>have:=@t7 a;erw[fw,wF,lv];lia
 | or a=>have:=@t7 a;erw[fw,wF,lv];lia
theorem t8 {l:Nat}:∀{B:List Fr} {w:Sn},lU (aQ l B w).1+(4 * lv (aQ l B w).2 - 3)<=lU B+(4 * lv w - 3)
 | [],w=>by simp[aQ,lU]
 | f::B,w=>by
  unfold aQ;split
  ·have:=t8 (l:=l) (B:=B) (w:=fw f w);have:=@XM f w;erw[lU];lia
  ·exact le_refl _
def FT:Tk->Prop
 | .nm s=>1<=s.length
 | _=>True
theorem Tn {B B':List Fr}{w w':Option Sn}{t:Tk}(ok:FT t)(e:stP (B,w) t=some (B',w')):lU B'+wO w'<=lU B+wO w+wT t:=by
 cases w with
 | none=>cases t with
  | op=>erw[stP,Option.some.injEq,Prod.mk.injEq]at e;obtain ⟨rfl,rfl⟩:=e;erw[lU,wF,wO,wT];lia
  | nt=>erw[stP,Option.some.injEq,Prod.mk.injEq]at e;obtain ⟨rfl,rfl⟩:=e;erw[lU,wF,wO,wT];lia
  | nm s=>erw[stP,Option.some.injEq,Prod.mk.injEq]at e;obtain ⟨rfl,rfl⟩:=e;erw[wO,wT,lv,FT]at ok ⊢;lia
  | cl=>simp[stP]at e
  | an=>simp[stP]at e
  | or=>simp[stP]at e
 | some w=>cases t with
  | op=>simp[stP]at e
  | nt=>simp[stP]at e
  | nm s=>simp[stP]at e
  | an=>
   erw[stP,Option.some.injEq,Prod.mk.injEq]at e;obtain ⟨rfl,rfl⟩:=e;have:=@t8 1 B w;have:=@t7 (aQ 1 B w).2;erw[lU,wF,wO,wT];lia
  | or=>
   erw[stP,Option.some.injEq,Prod.mk.injEq]at e;obtain ⟨rfl,rfl⟩:=e;have:=@t8 0 B w;have:=@t7 (aQ 0 B w).2;erw[lU,wF,wO,wT];lia
  | cl=>
   have h:=@t8 0 B w;erw[stP]at e;generalize aQ 0 B w=p at e h;obtain ⟨C,v⟩:=p;cases C with
   | nil=>cases e
   | cons f C=>
    erw[Option.some.injEq,Prod.mk.injEq]at e;obtain ⟨rfl,rfl⟩:=e;erw[lU,wO,wT]at h ⊢;lia
theorem PQ:∀{ts:List Tk} {B:List Fr} {w:Option Sn} {s:Sn},(∀t∈ts,FT t)->(rP (B,w) ts).bind eR=some s->4 * lv s - 3<=lU B+wO w+wTs ts
 | [],B,none,s,_,e=>by cases e
 | [],B,some w,s,_,e=>by
  have h:=@t8 0 B w;erw[rP,bind_some,eR]at e;split at e
  ·cases e;erw[wO,wTs];lia
  ·cases e
 | t::ts,B,w,s,ok,e=>by
  erw[rP]at e;cases e1:stP (B,w) t with
  | none=>rw[e1]at e;cases e
  | some p=>
   obtain ⟨B',w'⟩:=p;rw[e1]at e;have h1:=Tn (ok t (by simp)) e1;have h2:=PQ (λx hx=>ok x (by simp[hx])) e;erw[wTs];lia
theorem Tp {q:S}(h:q∈PS\/GN q):wT (cB q)<=q.length/\FT (cB q):=by
 rcases h with h | g
 ·erw[PS,mem_cons,not_mem_nil,or_false]at h;rcases h with rfl | rfl | rfl | rfl | rfl
  ·rw[cB,DI,ic];exact ⟨by decide,trivial⟩
  ·rw[cB,DJ,ig];exact ⟨by decide,trivial⟩
  ·rw[cB,DK,gn];exact ⟨by decide,trivial⟩
  ·rw[cB,DL,gq];exact ⟨by decide,trivial⟩
  ·rw[cB,DM,iV];exact ⟨by decide,trivial⟩
 ·rw[cB,DN g,DR g];exact ⟨le_refl _,length_pos_iff.mpr (AY g)⟩
theorem XN:∀{r:S} {o:Option (List S)},TP r o->∀qs,o=some qs->wTs (qs.map cB)<=r.length/\∀t∈qs.map cB,FT t:=by
 intro r o tp
 induction tp with
 | nil=>intro qs e;cases e;exact ⟨le_refl _,λt h=>by cases h⟩
 | bad _ _=>intro qs e;cases e
 | @cons r q o h1 h2 h3 ih=>
  intro qs e;cases o with
  | none=>cases e
  | some ps=>
   cases e;obtain ⟨i1,i2⟩:=ih ps rfl;obtain ⟨e1,e2⟩:=jV h2;have e3:=congrArg List.length e1;rw[length_append]at e3;obtain ⟨w1,w2⟩:=Tp (q:=q) (e2.imp id And.left);refine ⟨by erw[map_cons,wTs];lia,λt ht=>?_⟩;rw[map_cons,mem_cons]at ht;rcases ht with rfl | ht
   ·exact w2
   ·exact i2 t ht
theorem Lb {r:S}{o:Option (List S)}{s:Sn}(tp:TP r o)(e:iW o=some s):4 * lv s<=r.length+3:=by
 cases o with
 | none=>cases e
 | some qs=>
  obtain ⟨h1,h2⟩:=XN tp qs rfl;have:=PQ h2 e;erw[lU,wO]at this
  lia
theorem Tq {s:S}:prim sb (.gK .str) [.str s] h=some (.bl true,h):=rfl
theorem PR {s:List D}:prim sb (.gK .str) [.tup s] h=some (.bl false,h):=rfl
theorem PU {s:List D}:prim sb (.gK .tuple) [.tup s] h=some (.bl true,h):=rfl
theorem uP {s:S}(q:Q (.bl true) h):au sb P (d+1) 19 [.str s,.str s] h Q E:=by
 refine wp_call rfl rfl ?_;simp![kE,Tq,tP,beq_self_eq_true];exact q
theorem uQ {xs:List D}(hl:xs.length<=100)(hx:∀x∈xs,∀{h:AH} {Q:PV} {E:PX},Q (.bl true) h->au sb P d 19 [x,x] h Q E)(q:Q (.bl true) h):au sb P (d+1) 19 [.tup xs,.tup xs] h Q E:=by
 refine wp_call rfl rfl ?_;simp![kE,PR,tO,PU,beq_self_eq_true,tN];refine eK (lo:=0) (n:=xs.length) (vs:=[.int xs.length]) (h1:=h) (λi σ h'=>h'=h/\∃x,σ=[some (.tup xs),some (.tup xs),x]) (λQ q=>by simp!;exact q) (rT (by lia)) ⟨rfl,none,rfl⟩ ?_ ?_
 ·rintro i σ h' hi ⟨rfl,x,rfl⟩;refine ⟨_,rfl,?_⟩;have ea:bx xs (0+(i:Int))=some xs[i]:=by rw[dW (by lia),show (0+(i:Int)).toNat=i by lia,getElem?_eq_getElem hi]
  simp![tM,ea];refine hx _ (getElem_mem hi) ?_;simp!;exact ⟨_,rfl⟩
 ·rintro σ h' ⟨rfl,x,rfl⟩;simp![tL];exact q
theorem nR:∀{s:Sn} {d:Nat} {h:AH} {Q:PV} {E:PX},lv s+1<=d->Q (.bl true) h->au sb P d 19 [sd s,sd s] h Q E
 | _,0,h,Q,E,hd,q=>by lia
 | .is n,d+1,h,Q,E,hd,q=>by
  obtain ⟨d,rfl⟩:∃d',d=d'+1:=⟨d - 1,by simp[lv]at hd;lia⟩
  refine uQ (xs:=[.str (tx "is"),.str n]) (by simp) ?_ q;intro x hx h Q E q;erw[mem_cons,not_mem_nil,or_false]at hx;rcases hx with rfl | rfl<;>exact uP q
 | .nt a,d+1,h,Q,E,hd,q=>by
  erw[lv]at hd;obtain ⟨d,rfl⟩:∃d',d=d'+1:=⟨d - 1,by lia⟩
  refine uQ (xs:=[.str (tx "not"),sd a]) (by simp) ?_ q;intro x hx h Q E q;erw[mem_cons,not_mem_nil,or_false]at hx;rcases hx with rfl | rfl
  ·exact uP q
  ·exact nR (s:=a) (by lia) q
 | .an a b,d+1,h,Q,E,hd,q=>by
  erw[lv]at hd;obtain ⟨d,rfl⟩:∃d',d=d'+1:=⟨d - 1,by lia⟩
  refine uQ (xs:=[.str (tx "and"),sd a,sd b]) (by simp) ?_ q;intro x hx h Q E q;erw[mem_cons,not_mem_nil,or_false]at hx;rcases hx with rfl | rfl | rfl
  ·exact uP q
  ·exact nR (s:=a) (by lia) q
  ·exact nR (s:=b) (by lia) q
 | .or a b,d+1,h,Q,E,hd,q=>by
  erw[lv]at hd;obtain ⟨d,rfl⟩:∃d',d=d'+1:=⟨d - 1,by lia⟩
  refine uQ (xs:=[.str (tx "or"),sd a,sd b]) (by simp) ?_ q;intro x hx h Q E q;erw[mem_cons,not_mem_nil,or_false]at hx;rcases hx with rfl | rfl | rfl
  ·exact uP q
  ·exact nR (s:=a) (by lia) q
  ·exact nR (s:=b) (by lia) q
theorem FU {ns:List Int}{k:Int}(hk:0<=k)(q:∀c,Q (.int c) h):au sb P (d+1) 8 [.bV (ns.map .int),.int k] h Q E:=by
 refine wp_call rfl rfl ?_;simp![lz,lA,lB];by_cases hl:k < (List.map D.int ns).length
 ·rw[decide_eq_true hl,if_pos rfl,dW hk,getElem?_map];rw[length_map]at hl;rw[getElem?_eq_getElem (by lia)];exact q _
 ·rw[decide_eq_false hl,if_neg (by decide)];exact q _
theorem Lc {cell:Int}{n:Nat}(hn:n<=100)(q:∀D,Q (.ref h.length) (h++[.lst (rl n D)])):au sb P (d+1) 7 [.int cell,.int n] h Q E:=by
 refine wp_call rfl rfl ?_;simp![o9,pv,pA,pB];refine eK (lo:=0) (n:=n) (vs:=[.int n]) (λi σ h'=>∃D m x,h'=h++[.lst (rl i D)]/\σ=[some (.int cell),some (.int n),some (.int m),some (.ref h.length),x]) (h1:=h++[.lst []]) (λQ q=>?_) ?_ ?_ ?_ ?_
 ·simp!;exact q
 ·exact rT (by lia)
 ·exact ⟨λ_=>0,_,_,rfl,rfl⟩
 ·rintro i σ h' hi ⟨D,m,x,rfl,rfl⟩;refine ⟨_,rfl,?_⟩;simp![o_,pe,bT aq,b9 aq (show (rl i D).length < 16777216 by rw[OU];lia),b6];refine ⟨λk=>if k=i then m * 48271 % 2147483647 / 13 else D k,_,_,?_,rfl⟩;rw[<-Ky,Hz (f:=λk=>if k=i then m * 48271 % 2147483647 / 13 else D k) (g:=D) (λk hk=>by simp;lia)];simp
 ·rintro σ h' ⟨D,m,x,rfl,rfl⟩;simp!;exact q D
theorem Ld {num:Int}{n:Nat}(hn:n<=100)(q:∀s:S,s.length=n->(∀c∈s,c∈cN)->Q (.str s) h):au sb P (d+1) 9 [.int num,.int n] h Q E:=by
 refine wp_call rfl rfl ?_;simp![pC,pF,pG,pH];refine eK (lo:=0) (n:=n) (vs:=[.int n]) (λi σ h'=>∃(m:Int) (s:S) (x:Option D),s.length=i/\(∀c∈s,c∈cN)/\h'=h/\σ=[some (.int m),some (.int n),some (.str (tx "abcdefghijklmnopqrstuvwxyz")),⇑s,x]) (h1:=h) (λQ q=>?_) ?_ ?_ ?_ ?_
 ·simp!;exact q
 ·exact rT (by lia)
 ·exact ⟨num,[],_,rfl,by simp,rfl,rfl⟩
 ·rintro i σ h' hi ⟨m,s,x,hs,hc,rfl,rfl⟩;refine ⟨_,rfl,?_⟩;simp![pD,pE];rw[dW (emod_nonneg _ (by decide))];have hb:=emod_lt_of_pos ((m * 69621+1) % 2147483647 / 17) (show (0:Int) < 26 by decide);have hl:(tx "abcdefghijklmnopqrstuvwxyz").length=26:=by decide
  rw[getElem?_eq_getElem (by rw[hl];lia)];simp!;rw[if_pos (by lia)];refine ⟨_,_,_,by simp[hs],λc h=>?_,rfl,rfl⟩;rcases mem_append.mp h with h | h
  ·exact hc c h
  ·rw[mem_singleton]at h;subst h;exact getElem_mem _
 ·rintro σ h' ⟨m,s,x,hs,hc,rfl,rfl⟩;simp!;exact q s hs hc
theorem A1 {cell z:Int}(hz:0<=z)(hn:z<=100)(q:∀D,Q (.ref h.length) (h++[.lst (rl z.toNat D)])):au sb P (d+1) 7 [.int cell,.int z] h Q E:=by
 obtain ⟨n,rfl⟩:=Int.eq_ofNat_of_zero_le hz;exact Lc (by lia) q
theorem A3 {num z:Int}(hz:0<=z)(hn:z<=100)(q:∀s:S,s.length=z.toNat->(∀c∈s,c∈cN)->Q (.str s) h):au sb P (d+1) 9 [.int num,.int z] h Q E:=by
 obtain ⟨n,rfl⟩:=Int.eq_ofNat_of_zero_le hz;exact Ld (by lia) q
def FW:List S:=[tx "nota",tx "no",tx "ot",tx "an",tx "nd",tx "ands",tx "o",tx "r",tx "orr",tx "alway",tx "wher",tx "usual",tx "notnot",tx "ask",tx "is",tx "tell"]
structure LW (s:S):Prop where
 lo:1<=s.length
 hi:s.length<=12
 le:∀c∈s,c∈cN
theorem XO:∀s∈FW,LW s:=λs hs=>by
 have:∀s∈FW,1<=s.length/\s.length<=12/\s.all (λc=>cN.contains c)=true:=by decide
 obtain ⟨a,b,c⟩:=this s hs;exact ⟨a,b,λx hx=>contains_iff_mem.mp (all_eq_true.mp c x hx)⟩
theorem XR:∀{n:S},n∈KW->GN (n++tx "a"):=λ{n} hn=>by
 have:∀n∈KW,1<=(n++tx "a").length/\(n++tx "a").length<=12/\(n++tx "a").all (λc=>cN.contains c)=true/\KW.contains (n++tx "a")=false:=by decide
 obtain ⟨a,b,c,d⟩:=this n hn;refine ⟨a,b,λx hx=>contains_iff_mem.mp (all_eq_true.mp c x hx),λh=>?_⟩;rw[contains_iff_mem.mpr h]at d;cases d
theorem PY (z:Int):∃c,c∈cN/\bx (tx "abcdefghijklmnopqrstuvwxyz") (z % 26)=some c:=by
 have hl:(tx "abcdefghijklmnopqrstuvwxyz").length=26:=by decide
 have h0:=emod_nonneg z (show (26:Int)≠0 by decide);have h1:=emod_lt_of_pos z (show (0:Int) < 26 by decide);have hb:(z % 26).toNat < (tx "abcdefghijklmnopqrstuvwxyz").length:=by rw[hl];lia
 exact ⟨(tx "abcdefghijklmnopqrstuvwxyz")[(z % 26).toNat],(getElem_mem hb:_∈tx "abcdefghijklmnopqrstuvwxyz"),by rw[dW h0,getElem?_eq_getElem hb]⟩
abbrev lets:D:=.str (tx "abcdefghijklmnopqrstuvwxyz")
def PZ (cell:Int)(n sa da:Nat)(base:S)(at_:Int)(h0:AH)(i:Nat):Lo->AH->Prop:=λσ h'=>∃(ss:List S) (x8 x9 x10:Option D),h0<+:h'/\h'[h0.length]'(ss.map .str)/\ss.length<=i/\(0 < i->ss≠[])/\(∀s∈ss,GN s)/\
  σ=[some (.int cell),some (.int n),some lets,↑sa,↑da,⇑base,some (.int at_),some (.ref h0.length),x8,x9,x10]
def VL (cell:Int)(n sa da:Nat)(base:S)(at_:Int)(h0:AH)(i:Nat):Lo->AH->Prop:=λσ h'=>∃(ss:List S) (nm:S) (x10:Option D),h0<+:h'/\h'[h0.length]'(ss.map .str)/\ss.length<=i/\(∀s∈ss,GN s)/\LW nm/\
  σ=[some (.int cell),some (.int n),some lets,↑sa,↑da,⇑base,some (.int at_),some (.ref h0.length),some (.int (0+i)),⇑nm,x10]
theorem A4 {cell:Int}{n sa:Nat}(h1:1<=n)(h2:n<=12)(hs:h[sa]'(FW.map .str))(q:∀h' r ss,h<+:h'->h.length<=r->h'[r]'(ss.map .str)->ss≠[]->ss.length<=12->(∀s∈ss,GN s)->Q (.ref r) h'):
  aZ sb (au sb P (d+1)) E iC {nx:=λ_ h=>Q .non h,rt:=Q} [some (.int cell),some (.int n),some lets,↑sa,none,none,none,none,none,none,none] h:=by
 simp![iC];refine A1 (by decide) (by decide) λD=>?_;have kH:rl (26:Int).toNat D=rl 26 D:=rfl;rw[kH];obtain ⟨v0,e0⟩:=bg (n:=26) (f:=D) (z:=0) (by decide) (by decide);obtain ⟨v1,e1⟩:=bg (n:=26) (f:=D) (z:=1) (by decide) (by decide);obtain ⟨v2,e2⟩:=bg (n:=26) (f:=D) (z:=2) (by decide) (by decide);obtain ⟨v20,kJ⟩:=bg (n:=26) (f:=D) (z:=20) (by decide) (by decide);obtain ⟨ZW,lV⟩:=bg (n:=26) (f:=D) (z:=21) (by decide) (by decide);obtain ⟨ZX,lW⟩:=bg (n:=26) (f:=D) (z:=22) (by decide) (by decide);obtain ⟨ZY,lX⟩:=bg (n:=26) (f:=D) (z:=23) (by decide) (by decide);have hd:(h++[AO.lst (rl 26 D)])[h.length]'(rl 26 D):=aq;simp![nc,aE hd,e0,e1];have hb1:=emod_nonneg v1 (show (12:Int)≠0 by decide);have hb2:=emod_lt_of_pos v1 (show (0:Int) < 12 by decide);refine A3 (by lia) (by lia) λbase hbase hbc=>?_;have hbl:1<=base.length/\base.length<=12:=by rw[hbase];lia
 simp![m_,aE hd,e2,kT (show (0:Int) < base.length by lia),m9,m8];have at0:=emod_nonneg v2 (show (base.length:Int)≠0 by lia);have at1:=emod_lt_of_pos v2 (show (0:Int) < base.length by lia);generalize v2 % (base.length:Int)=at_ at at0 at1;have hs':(h++[AO.lst (rl 26 D)])[sa]'(FW.map .str):=az hs;have pre0:h<+:h++[AO.lst (rl 26 D)]:=prefix_append _ _;generalize hd0:h.length=da at hd;generalize h++[AO.lst (rl 26 D)]=h0 at hd hs' pre0;refine eK (lo:=0) (n:=n) (vs:=[.int n]) (h1:=h0++[.lst []]) (PZ cell n sa da base at_ h0) (λQ q=>by simp!;exact q) (by simp[bz,iY,iu,iZ,i9,gR,okR];lia) ⟨[],none,none,none,prefix_append _ _,by simp,by simp,by simp,by simp,rfl⟩ ?_ ?_
 ·rintro i σ h' hi ⟨ss,x8,x9,x10,pr,hn,hl,hne,hg,rfl⟩;refine ⟨_,rfl,?_⟩;have hdl:=aD pr hd;have hsl:=aD pr hs';obtain ⟨w3,e3⟩:=bg (n:=26) (f:=D) (z:=3+(0+(i:Int))) (by lia) (by lia);obtain ⟨w4,e4⟩:=bg (n:=26) (f:=D) (z:=4+(0+(i:Int))) (by lia) (by lia);simp![m7,aE hdl,e3,e4];have hc1:=emod_nonneg (w4 / 5) (show (12:Int)≠0 by decide);have hc2:=emod_lt_of_pos (w4 / 5) (show (0:Int) < 12 by decide);refine A3 (by lia) (by lia) λname hname hnc=>?_;rw[m6,eZ];refine wp_seq (VL cell n sa da base at_ h0 i) ?_ ?_
  ·simp![aE hdl,kJ];by_cases hc:v20 % 4 < 2
   ·rw[decide_eq_true hc];have XS:=λo=>az (l:=[o]) hdl;obtain ⟨w,hw,ew⟩:=g9 (xs:=[Z.D.int 1,.int 3,.int 5,.int 7,.int 9,.int 11]) (z:=ZX % 6) (emod_nonneg _ (by decide)) (emod_lt_of_pos _ (by decide));obtain ⟨wi,rfl⟩:∃wi:Int,w=.int wi:=by
     erw[mem_cons,not_mem_nil,or_false]at hw;rcases hw with e | e | e | e | e | e<;>exact ⟨_,e⟩
    obtain ⟨c,hcl,ec⟩:=PY (ZW+(0+(i:Int)) * wi);simp![pO,pN,aE (XS _),aE hdl,lV,lW,aE aq,ew,Bu (show -18446744073709551616 < 0+(i:Int)/\0+(i:Int) < 18446744073709551616 by lia),ec];have cl1:(cut base none (some at_)).length=at_.toNat:=by
     erw[cut,aV];rw[if_neg (by lia),length_take,length_drop];lia
    have cl2:(cut base (some (at_+1)) none).length=base.length - (at_.toNat+1):=by
     erw[cut,aV];rw[if_neg (by lia),length_take,length_drop];lia
    have c1:=jT (xs:=base) (lo:=none) (hi:=some at_);have c2:=jT (xs:=base) (lo:=some (at_+1)) (hi:=none);rw[if_pos (by lia)];simp!;rw[if_pos (by erw[length_append,length_cons,length_nil];lia)];simp!;refine ⟨ss,_,_,pre_app pr,az hn,hl,hg,?_,rfl⟩;refine ⟨by erw[length_append,length_cons,length_nil];lia,by rw[length_append,length_append,cl1,cl2];erw[length_cons,length_nil];lia,λx hx=>?_⟩;rcases mem_append.mp hx with hx | hx
    ·rcases mem_append.mp hx with hx | hx
     ·exact hbc x (xW hx)
     ·rw[mem_singleton]at hx;subst hx;exact hcl
    ·exact hbc x (xW hx)
   ·rw[decide_eq_false hc];simp!;exact ⟨ss,name,_,pr,hn,hl,hg,⟨by rw[hname];lia,by rw[hname];lia,hnc⟩,rfl⟩
  ·rintro σ1 h3 ⟨ss,name,x10,pr,hn,hl,hg,hnl,rfl⟩;have hdl:=aD pr hd;have hsl:=aD pr hs';rw[pM,eZ];refine wp_seq (VL cell n sa da base at_ h0 i) ?_ ?_
   ·simp![aE hdl,kJ];cases hc:v20 % 4 == 2 with
    | true=>
     obtain ⟨w,hw,ew⟩:=g9 (xs:=FW.map Z.D.str) (z:=(ZY+3 * (0+(i:Int))) % 16) (emod_nonneg _ (by decide)) (emod_lt_of_pos _ (by decide));obtain ⟨s,hs,rfl⟩:=mem_map.mp hw;simp![pL,aE hdl,lX,aE hsl,ew];exact ⟨ss,s,_,pr,hn,hl,hg,XO s hs,rfl⟩
    | false=>
     simp!;exact ⟨ss,name,_,pr,hn,hl,hg,hnl,rfl⟩
   ·rintro σ1 h3 ⟨ss,name,x10,pr,hn,hl,hg,hnl,rfl⟩;have e6:cj (.str name) [.str (tx "always"),.str (tx "where"),.str (tx "usually"),.str (tx "not"),.str (tx "and"),.str (tx "or")]=some _:=dO (x:=name) (ss:=[tx "always",tx "where",tx "usually",tx "not",tx "and",tx "or"]);have k3:∀nm:S,GN nm->aZ sb (au sb P (d+1)) E jk {nx:=PZ cell n sa da base at_ h0 (i+1),rt:=Q,bk:=λσ' h'=>aZ sb (au sb P (d+1)) E jj {nx:=λ_ h=>Q .non h,rt:=Q} σ' h',ct:=PZ cell n sa da base at_ h0 (i+1)}
      [some (.int cell),some (.int n),some lets,↑sa,↑da,⇑base,some (.int at_),some (.ref h0.length),some (.int (0+i)),⇑nm,x10] h3:=by
     intro nm ZZ;simp![jk,Fq hn,dO];cases hc:ss.contains nm with
     | true=>
      simp!;refine ⟨ss,_,_,_,pr,hn,by lia,λ_ z=>?_,hg,rfl⟩;subst z;cases hc
     | false=>
      simp![pI,bT hn,b9 hn (show (ss.map Z.D.str).length < 16777216 by rw[length_map];lia)];exact ⟨ss++[nm],_,_,_,jU pr (le_refl _),by rw[get_set hn];simp,by simp;lia,λ_=>by simp,λs hs=>by
       rcases mem_append.mp hs with hs | hs
       ·exact hg s hs
       ·rw[mem_singleton]at hs;subst hs;exact ZZ,rfl⟩
    simp![pK,e6];cases bb:([tx "always",tx "where",tx "usually",tx "not",tx "and",tx "or"]:List S).contains name with
    | true=>
     simp![pJ];rw[if_pos (by have:(tx "a").length=1:=rfl;have:=hnl.hi;lia)];simp!;exact k3 _ (XR (contains_iff_mem.mp bb))
    | false=>
     simp!;exact k3 _ ⟨hnl.lo,hnl.hi,hnl.le,λhk=>by have e:=contains_iff_mem.mpr hk;exact absurd (e.symm.trans bb) (by decide)⟩
 ·rintro σ h' ⟨ss,x8,x9,x10,pr,hn,hl,hne,hg,rfl⟩;simp![jj];exact q h' _ ss (pre0.trans pr) (uF pre0) hn (hne (by lia)) (by lia) hg
theorem Le {cell:Int}{n:Nat}(h1:1<=n)(h2:n<=12)(q:∀h' r ss,h<+:h'->h.length<=r->h'[r]'(ss.map .str)->ss≠[]->ss.length<=12->(∀s∈ss,GN s)->Q (.ref r) h'):au sb P (d+2) 10 [.int cell,.int n] h Q E:=by
 refine wp_call rfl rfl ?_;simp![ni,nh,ng];rw[cK (az aq) aq (by simp)];simp!;refine A4 h1 h2 aq λh' r ss pr hr=>q h' r ss (((prefix_append _ _).trans ((prefix_append _ _).trans (prefix_append _ _))).trans pr) ?_;simp at hr;lia
theorem HN {cell z:Int}(h1:1<=z)(h2:z<=12)(q:∀h' r ss,h<+:h'->h.length<=r->h'[r]'(ss.map .str)->ss≠[]->ss.length<=12->(∀s∈ss,GN s)->Q (.ref r) h'):au sb P (d+2) 10 [.int cell,.int z] h Q E:=by
 obtain ⟨n,rfl⟩:=Int.eq_ofNat_of_zero_le (show 0<=z by lia);exact Le (by lia) (by lia) q
def kK (ys ns:List S)(c:S):Option Bool:=if c∈ys then some true else if c∈ns then some false else none
theorem bE {a:Nat}{c:S}{i:Int}{ys ns:List S}{b:Bool}(ha:h[a]?=some (.bU c i))(hb:kK ys ns c=some b):prim sb (.cD ys ns) [.ref a] h=some (.bl b,h):=by
 show (match h[a]? with | some (.exc c)=>_ | some (.bU c _)=>if c∈ys then some (Z.D.bl true,h) else if c∈ns then some (Z.D.bl false,h) else none | _=>none)=_;rw[ha];unfold kK at hb;show (if c∈ys then some (Z.D.bl true,h) else if c∈ns then some (Z.D.bl false,h) else none)=_;split
 ·rw[if_pos (by assumption)]at hb;cases hb;rfl
 ·rw[if_neg (by assumption)]at hb;split
  ·rw[if_pos (by assumption)]at hb;cases hb;rfl
  ·rw[if_neg (by assumption)]at hb;cases hb
theorem A5 {a:Nat}{c:S}{i:Int}{cs:List S}(ha:h[a]?=some (.bU c i))(hb:c∈cs):prim sb (.xA cs) [.ref a] h=some (.int i,h):=by
 show (match h[a]? with | some (.bU c i)=>if c∈cs then some (Z.D.int i,h) else none | _=>none)=_;rw[ha];exact if_pos hb
structure Kd (c:S)(z:Int):Prop where
 c0:kK lh lq c=some ((0:Int) == z)
 c1:kK iR iS c=some ((1:Int) == z)
 c2:kK fh fj c=some ((2:Int) == z)
 c3:kK lu ly c=some ((3:Int) == z)
 c4:kK iP iQ c=some ((4:Int) == z)
 c5:kK g_ hU c=some true
 c6:kK fW fX c=some true
 c7:kK fq fu c=some true
 c8:kK k_ lg c=some false
 c9:kK jN jO c=some false
 dZ:kK iN iO c=some false
 d7:kK oH oJ c=some false
 c12:kK jL jM c=some false
 cr:c∈rcs
def t9 (z:Int):List D:=[.bl ((0:Int) == z),.bl ((1:Int) == z),.bl ((2:Int) == z),.bl ((3:Int) == z),.bl ((4:Int) == z),.bl true,.bl true,.bl true,.bl false,.bl false,.bl false,.bl false,.bl false]
theorem VN:Kd (tx "RowError") (-1):=by constructor<;>decide
theorem VO:Kd (tx "NoRow") 0:=by constructor<;>decide
theorem kd1:Kd (tx "TooLong") 1:=by constructor<;>decide
theorem kd2:Kd (tx "NoSentence") 2:=by constructor<;>decide
theorem VP:Kd (tx "Twice") 3:=by constructor<;>decide
theorem VQ:Kd (tx "TooMany") 4:=by constructor<;>decide
theorem Jg {z:Int}:xu (t9 z) (t9 z)=some true:=by
 unfold t9;generalize ((0:Int) == z)=b0;generalize ((1:Int) == z)=b1;generalize ((2:Int) == z)=b2;generalize ((3:Int) == z)=b3;generalize ((4:Int) == z)=b4;cases b0<;>cases b1<;>cases b2<;>cases b3<;>cases b4<;>rfl
theorem Lf {a:Nat}{c:S}{i z:Int}(ha:h[a]?=some (.bU c i))(k:Kd c z)(q:∀h' r,h<+:h'->h'[r]'(t9 z)->Q (.ref r) h'):au sb P (d+1) 20 [.ref a] h Q E:=by
 refine wp_call rfl rfl ?_;simp![qu,bE ha k.c0,bE ha k.c1,bE ha k.c2,bE ha k.c3];have cY:h<+:h++[AO.lst [.bl ((0:Int) == z),.bl ((1:Int) == z),.bl ((2:Int) == z),.bl ((3:Int) == z)]]:=prefix_append _ _;have e1:(h++[AO.lst [.bl ((0:Int) == z),.bl ((1:Int) == z),.bl ((2:Int) == z),.bl ((3:Int) == z)]])[h.length]'_:=aq;generalize h++[AO.lst [.bl ((0:Int) == z),.bl ((1:Int) == z),.bl ((2:Int) == z),.bl ((3:Int) == z)]]=h1 at cY e1 ⊢;generalize h.length=r1 at e1 ⊢;have a1:=aD cY ha;simp![qq,bE a1 k.c4,bE a1 k.c5,bE a1 k.c6];rw[cK (az e1) aq (by simp)];simp!;generalize hx:h1++[AO.lst [.bl ((4:Int) == z),.bl true,.bl true]]=h2;have b8:h<+:h2++[AO.lst [.bl ((0:Int) == z),.bl ((1:Int) == z),.bl ((2:Int) == z),.bl ((3:Int) == z),.bl ((4:Int) == z),.bl true,.bl true]]:=pre_app (by rw[<-hx];exact pre_app cY);have e2:(h2++[AO.lst [.bl ((0:Int) == z),.bl ((1:Int) == z),.bl ((2:Int) == z),.bl ((3:Int) == z),.bl ((4:Int) == z),.bl true,.bl true]])[h2.length]'_:=aq;generalize h2++[AO.lst [.bl ((0:Int) == z),.bl ((1:Int) == z),.bl ((2:Int) == z),.bl ((3:Int) == z),.bl ((4:Int) == z),.bl true,.bl true]]=h3 at b8 e2 ⊢;generalize h2.length=r2 at e2 ⊢;have a2:=aD b8 ha;simp![qp,bE a2 k.c7,bE a2 k.c8,bE a2 k.c9];rw[cK (az e2) aq (by simp)];simp!;generalize hy:h3++[AO.lst [.bl true,.bl false,.bl false]]=h4;have bW:h<+:h4++[AO.lst [.bl ((0:Int) == z),.bl ((1:Int) == z),.bl ((2:Int) == z),.bl ((3:Int) == z),.bl ((4:Int) == z),.bl true,.bl true,.bl true,.bl false,.bl false]]:=pre_app (by rw[<-hy];exact pre_app b8);have e3:(h4++[AO.lst [.bl ((0:Int) == z),.bl ((1:Int) == z),.bl ((2:Int) == z),.bl ((3:Int) == z),.bl ((4:Int) == z),.bl true,.bl true,.bl true,.bl false,.bl false]])[h4.length]'_:=aq;generalize h4++[AO.lst [.bl ((0:Int) == z),.bl ((1:Int) == z),.bl ((2:Int) == z),.bl ((3:Int) == z),.bl ((4:Int) == z),.bl true,.bl true,.bl true,.bl false,.bl false]]=h5 at bW e3 ⊢;generalize h4.length=r3 at e3 ⊢;have a3:=aD bW ha;simp![qo,bE a3 k.dZ,bE a3 k.d7,bE a3 k.c12];rw[cK (az e3) aq (by simp)];simp!;exact q _ _ (pre_app (pre_app bW)) aq
theorem Jh {z:Int}(q:∀h' r,h<+:h'->h'[r]'(t9 z)->Q (.ref r) h'):au sb P (d+1) 21 [.int z] h Q E:=by
 refine wp_call rfl rfl ?_;simp![jC];refine Jx (xs:=(List.range 5).map λ(k:Nat)=>.int k) (vs:=[.int 5]) (h1:=h) (J:=iL 0 5) (λ_=>true) (λv=>match v with | .int k=>.bl (k == z) | _=>.non) (λQ q=>by simp!;exact q) (by simp[bz,iY,iu,iZ,i9,gR,okR]) (by simp) ?_ ?_ ?_
 ·intro i h2 _;unfold iL;by_cases hi:i < 5
  ·rw[if_pos hi,getElem?_map,getElem?_range hi];simp
  ·rw[if_neg hi,getElem?_eq_none (by simp;lia)]
 ·intro k v h3 ev pr;have hk:k < 5:=by have:=(List.getElem?_eq_some_iff.mp ev).1;simpa using this
  rw[getElem?_map,getElem?_range hk]at ev;erw[map_some,Option.some.injEq]at ev;subst ev;refine ⟨_,rfl,?_⟩;simp!;exact ⟨fe,λ_=>fe⟩
 ·intro h2 pr e;have e':h2[h.length]'[.bl ((0:Int) == z),.bl ((1:Int) == z),.bl ((2:Int) == z),.bl ((3:Int) == z),.bl ((4:Int) == z)]:=by rw[e];rfl
  clear e;generalize h.length=r at e';rw[show (3:Int)=((3:Nat):Int) from rfl,wZ (by decide) aq];simp!;rw[cK (az (az e')) aq (by simp)];simp!;rw[show (5:Int)=((5:Nat):Int) from rfl,wZ (by decide) aq];simp!;rw[cK (az (az aq)) aq (by simp)];simp!;exact q _ _ (pre_app (pre_app (pre_app (pre_app (pre_app (pre_app pr)))))) aq
theorem Cw {i:Int}(q:Q (.bl true) h):au sb P (d+1) 23 [.int i] h Q E:=by
 refine wp_call rfl rfl ?_;simp![qC,IV,CQ];exact q
theorem P0 {i j:Nat}{cc:CC}{cs:List S}{hs:ao}{Γ:bS}{σ:Lo}{K:En}:wpS sb Γ E (.zL i cc cs j hs) K σ h=dI sb Γ E cc σ h (λv h2=>K.nx (σ.set i (some v)) h2)
   λx h2=>∃c r,x=.tup [.str c,.int r]/\c∈cs/\aZ sb Γ E hs {nx:=λσ' h'=>K.nx (σ'.set j none) h',rt:=K.rt,bk:=λσ' h'=>K.bk (σ'.set j none) h',ct:=λσ' h'=>K.ct (σ'.set j none) h'} (σ.set j (some (.ref h2.length))) (h2++[.bU c r]):=by
 erw[wpS]<;>rfl
theorem Lg {f:Nat}{es:cV}{ds:List D}{Γ:bS}{σ:Lo}{F:PX}:dI sb Γ E (.call f es ds) σ h Q F=aW sb Γ E es σ h λvs h1=>Γ f (vs++ds) h1 Q F:=rfl
theorem P_ {t:Tx}{a b:CC}{Γ:bS}{σ:Lo}{F:PX}:dI sb Γ E (.ite t a b) σ h Q F=bR sb Γ E t σ h λk h1=>if k=true then dI sb Γ E a σ h1 Q F else dI sb Γ E b σ h1 Q F:=rfl
theorem Tr {c:S}{e:Ex}{Γ:bS}{σ:Lo}:aF sb Γ E (.uT c e) σ h Q=aF sb Γ E e σ h λx h1=>match x with
  | .int i=>Q (.ref h1.length) (h1++[.bU c i])
  | _=>False:=by erw[aF]<;>rfl
theorem FY {a r3 r4:Nat}{c:S}{i z:Int}{x0 x1 x2 x5 x6:Option D}{K:En}(ha:h[a]?=some (.bU c i))(k:Kd c z)(q:∀h' k1 k2,h<+:h'->h'[k1]'((t9 z).take 7)->h'[k2]'((t9 z).drop 7)->K.nx [x0,x1,x2,↑k1,↑k2,some (.int i),x6,↑a] h'):
  aZ sb (au sb P d) E gi K [x0,x1,x2,↑r3,↑r4,x5,x6,↑a] h:=by
 simp![gi,bE ha k.c0,bE ha k.c1,bE ha k.c2,bE ha k.c3];have cY:h<+:h++[AO.lst [.bl ((0:Int) == z),.bl ((1:Int) == z),.bl ((2:Int) == z),.bl ((3:Int) == z)]]:=prefix_append _ _;have e1:(h++[AO.lst [.bl ((0:Int) == z),.bl ((1:Int) == z),.bl ((2:Int) == z),.bl ((3:Int) == z)]])[h.length]'_:=aq;generalize h++[AO.lst [.bl ((0:Int) == z),.bl ((1:Int) == z),.bl ((2:Int) == z),.bl ((3:Int) == z)]]=h1 at cY e1 ⊢;generalize h.length=r1 at e1 ⊢;have a1:=aD cY ha;simp![qy,bE a1 k.c4,bE a1 k.c5,bE a1 k.c6];rw[cK (az e1) aq (by simp)];simp!;generalize hx:h1++[AO.lst [.bl ((4:Int) == z),.bl true,.bl true]]=h2;have b8:h<+:h2++[AO.lst [.bl ((0:Int) == z),.bl ((1:Int) == z),.bl ((2:Int) == z),.bl ((3:Int) == z),.bl ((4:Int) == z),.bl true,.bl true]]:=pre_app (by rw[<-hx];exact pre_app cY);have e2:(h2++[AO.lst [.bl ((0:Int) == z),.bl ((1:Int) == z),.bl ((2:Int) == z),.bl ((3:Int) == z),.bl ((4:Int) == z),.bl true,.bl true]])[h2.length]'((t9 z).take 7):=aq;generalize h2++[AO.lst [.bl ((0:Int) == z),.bl ((1:Int) == z),.bl ((2:Int) == z),.bl ((3:Int) == z),.bl ((4:Int) == z),.bl true,.bl true]]=h3 at b8 e2 ⊢;generalize h2.length=r2 at e2 ⊢;have a2:=aD b8 ha;simp![qx,bE a2 k.c7,bE a2 k.c8,bE a2 k.c9];have bW:h<+:h3++[AO.lst [.bl true,.bl false,.bl false]]:=pre_app b8;have e3:(h3++[AO.lst [.bl true,.bl false,.bl false]])[h3.length]'[.bl true,.bl false,.bl false]:=aq;have e2':=az (l:=[AO.lst [.bl true,.bl false,.bl false]]) e2;generalize h3++[AO.lst [.bl true,.bl false,.bl false]]=h4 at bW e3 e2' ⊢;generalize h3.length=r5 at e3 ⊢;have a3:=aD bW ha;simp![qw,bE a3 k.dZ,bE a3 k.d7,bE a3 k.c12];rw[cK (az e3) aq (by simp)];simp![qv];rw[A5 (az (az a3)) k.cr];simp!;exact q _ _ _ (pre_app (pre_app bW)) (az (az e2')) aq
theorem yg {t:S}{o:Option (List S)}{how place:Int}(tp:TP t o)(q1:120 < t.length->∀h' r,h<+:h'->h'[r]'(t9 1)->Q (.tup [.ref r,.int (if how=0 then 0 else place),.non]) h')(q2:t.length<=120->iW o=none->∀h' r,h<+:h'->h'[r]'(t9 2)->Q (.tup [.ref r,.int (if how=0 then 0 else place),.non]) h')(q3:∀s,t.length<=120->iW o=some s->∀h' r,h<+:h'->h'[r]'[]->Q (.tup [.ref r,.int 0,sd s]) h'):
  au sb P (d+5) 22 [.str t,.int how,.int place] h Q E:=by
 refine wp_call rfl rfl ?_;simp![nJ,nH,qB,qA];rw[qz,eZ,P0];have yY:h<+:h++[AO.lst []]++[AO.lst []]:=pre_app (prefix_append _ _);have ea:(h++[AO.lst []]++[AO.lst []])[h.length]'[]:=az aq;have eb:(h++[AO.lst []]++[AO.lst []])[(h++[AO.lst []]).length]'[]:=aq;generalize (h++[AO.lst []]).length=rb at eb ⊢;generalize h++[AO.lst []]++[AO.lst []]=h0 at yY ea eb ⊢;generalize h.length=ra at ea ⊢;have key:∀i:Int,i=(if how=0 then 0 else place)->au sb P (d+4) 0 [.str t,.int i] h0
   (λv h2=>aZ sb (au sb P (d+4)) E cU {nx:=λ_ h=>Q .non h,rt:=Q} [⇑t,some (.int how),some (.int place),↑ra,↑rb,some (.int 0),some v,none] h2)
   (λx h2=>∃c r,x=.tup [.str c,.int r]/\c∈[(tx "TooLong"),(tx "NoSentence")]/\aZ sb (au sb P (d+4)) E gi {nx:=λσ' h'=>aZ sb (au sb P (d+4)) E cU {nx:=λ_ h=>Q .non h,rt:=Q} (σ'.set 7 none) h',rt:=Q} [⇑t,some (.int how),some (.int place),↑ra,↑rb,some (.int 0),some .non,some (.ref h2.length)] (h2++[.bU c r])):=by
  intro i hi;refine K3 tp (λhl h' pr=>⟨_,_,rfl,by simp,?_⟩) (λhl e h' pr=>⟨_,_,rfl,by simp,?_⟩) λs hl e h' pr=>?_
  ·refine FY aq kd1 λh2 k1 k2 b8 g1 g2=>?_;simp![cU];rw[cK g1 g2 (by decide)];simp!;rw[hi];exact q1 hl _ _ (pre_app (yY.trans (pr.trans ((prefix_append _ _).trans b8)))) (by rw[aq];rfl)
  ·refine FY aq kd2 λh2 k1 k2 b8 g1 g2=>?_;simp![cU];rw[cK g1 g2 (by decide)];simp!;rw[hi];exact q2 hl e _ _ (pre_app (yY.trans (pr.trans ((prefix_append _ _).trans b8)))) (by rw[aq];rfl)
  ·simp![cU];rw[cK (aD pr ea) (aD pr eb) (by simp)];simp!;exact q3 s hl e _ _ (pre_app (yY.trans pr)) aq
 simp![P_,Lg];by_cases h0':how=0
 ·rw[show (how == 0)=true from by simp[h0']];simp!;exact key 0 (by rw[if_pos h0'])
 ·rw[show (how == 0)=false from by simp[h0']];simp!;split
  ·exact key place (by rw[if_neg h0'])
  ·exact key place (by rw[if_neg h0'])
theorem FZ {a:Nat}{xs:List D}(ha:h[a]'xs):prim sb (.gK .tuple) [.ref a] h=some (.bl false,h):=by
 rw[IV];erw[CQ,Eb,ha];rfl
theorem yh {i j l:Nat}{x y z:D}{σ:Lo}:fV [i,j,l] (.tup [x,y,z]) σ=some (((σ.set i (some x)).set j (some y)).set l (some z)):=rfl
theorem Qa:∀{s:Sn},∃xs,sd s=.tup xs
 | .is _=>⟨_,rfl⟩
 | .nt _=>⟨_,rfl⟩
 | .an _ _=>⟨_,rfl⟩
 | .or _ _=>⟨_,rfl⟩
theorem Lh {t:S}{how place:Int}(hl:t.length<=5000)(q:∀h',h<+:h'->Q (.bl true) h'):au sb P (d+48) 25 [.str t,.int how,.int place] h Q E:=by
 obtain ⟨o,tp⟩:=IW t.length t (le_refl _);have re:=KO tp;have rest:∀(h':AH) (a r:Nat) (z at_:Int) (x6:Option D),h<+:h'->h'[a]'[.int z]->h'[r]'(t9 z)->at_=(if how=0 then 0 else place)->
   aZ sb (au sb P (d+47)) E jt {nx:=λ_ h=>Q .non h,rt:=Q} [⇑t,some (.int how),some (.int place),↑a,↑r,some (.int at_),x6] h':=by
  intro h' a r z at_ x6 pr ea er hat;have go:∀pl:Int,at_=pl->aZ sb (au sb P (d+47)) E jr {nx:=λ_ h=>Q .non h,rt:=Q} [⇑t,some (.int how),some (.int pl),↑a,↑r,some (.int at_),x6] h':=by
   intro pl ep;subst ep;have e0:bx [Z.D.int z] 0=some (.int z):=rfl;simp![jr,aE ea,e0];refine Jh λh2 r2 b8 e2=>?_;simp![xV (aD b8 er) e2,Jg];refine Cw ?_;simp![beq_self_eq_true];exact q h2 (pr.trans b8)
  simp![jt];by_cases h0:how=0
  ·rw[show (how == 0)=true from by simp[h0]];rw[if_pos h0]at hat;simp![qD];exact go 0 hat
  ·rw[show (how == 0)=false from by simp[h0]];rw[if_neg h0]at hat;simp!;exact go place hat
 refine wp_call rfl rfl ?_;simp![qF];refine La hl (λhl1 h1 r1 cY e1=>?_) (λhl1 en h1 r1 cY e1=>?_) λs hl1 es h1 cY=>?_
 ·simp![gk];refine yg tp (λ_ h2 r2 b8 e2=>?_) (λhc _ _ _ _ _=>by lia) λ_ hc _ _ _ _ _=>by lia
  simp![yh,gj,FZ (aD b8 e1)];exact rest h2 r1 r2 1 _ _ (cY.trans b8) (aD b8 e1) e2 rfl
 ·simp![gk];refine yg tp (λhc _ _ _ _=>by lia) (λ_ _ h2 r2 b8 e2=>?_) λs _ hs _ _ _ _=>by rw[re,hs]at en;cases en
  simp![yh,gj,FZ (aD b8 e1)];exact rest h2 r1 r2 2 _ _ (cY.trans b8) (aD b8 e1) e2 rfl
 ·simp![gk];rw[re]at es;refine yg tp (λhc _ _ _ _=>by lia) (λ_ hn _ _ _ _=>by rw[es]at hn;cases hn) λs' _ hs h2 r2 b8 e2=>?_;rw[es]at hs;cases hs;have lb:=Lb tp es;obtain ⟨xs,ex⟩:=@Qa s;have hi:prim sb (.gK .tuple) [sd s] h2=some (.bl true,h2):=by rw[ex];rfl
  simp![yh,gj,hi,qE,xV (az (l:=[AO.lst []]) e2) aq,show xu [] []=some true from rfl];exact nR (by lia) (q _ (pre_app (cY.trans b8)))
theorem Qb {place:Int}(q:∀h',Q (.bl true) h'):au sb P (d+2) 24 [.int place] h Q E:=by
 refine wp_call rfl rfl ?_;simp![tU,Tr];generalize hg:[tx "RowError",tx "NoRow",tx "TooLong",tx "NoSentence",tx "Twice",tx "TooMany"]=CL;have hk:∀(i:Nat) c,CL[i]?=some c->Kd c ((i:Int) - 1):=by
  rw[<-hg];intro i c e
  match i,e with
  | 0,e=>cases e;exact VN
  | 1,e=>cases e;exact VO
  | 2,e=>cases e;exact kd1
  | 3,e=>cases e;exact kd2
  | 4,e=>cases e;exact VP
  | 5,e=>cases e;exact VQ
  | n+6,e=>cases e
 have hl:CL.length=6:=by rw[<-hg];rfl
 have main:∀(h1:AH) (ma:Nat) (rs:List D),h1[ma]'rs->(∀(i:Nat),i < 6->∃a c,bx rs (i:Int)=↑a/\h1[a]?=some (.bU c place)/\Kd c ((i:Int) - 1))->
   aZ sb (au sb P (d+1)) E kF {nx:=λ_ h=>Q .non h,rt:=Q} [some (.int place),↑ma,none,none] h1:=by
  intro h1 ma rs em hx;rw[kF,eZ];refine eK (lo:=0) (n:=6) (vs:=[.int 6]) (h1:=h1) (λi σ h'=>∃(x2 x3:Option Z.D),h1<+:h'/\σ=[some (.int place),↑ma,x2,x3]) (λQ q=>by simp!;exact q) (by simp[bz,iY,iu,iZ,i9,gR,okR]) ⟨none,none,fe,rfl⟩ ?_ ?_
  ·rintro i σ h' hi ⟨x2,x3,pr,rfl⟩;refine ⟨_,rfl,?_⟩;obtain ⟨a,c,ei,ea,kd⟩:=hx i hi;have Z0:bx rs (0+(i:Int))=↑a:=by rw[Int.zero_add];exact ei
   have VR:=aD pr ea;simp![tS,aE (aD pr em),Z0,tR];refine Lf VR kd λh2 r2 b8 e2=>?_;rw[Int.zero_add];refine Jh λh3 r3 bW e3=>?_;have VS:=aD bW (aD b8 VR);simp![xV (aD bW e2) e3,Jg,A5 VS kd.cr];refine Cw ?_;simp![A5 VS kd.cr,beq_self_eq_true];exact ⟨_,_,pr.trans (b8.trans bW),rfl⟩
  ·rintro σ h' ⟨x2,x3,pr,rfl⟩;simp![tQ];exact q h'
 refine main _ _ _ aq λi hi=>?_
 match i,hi with
 | 0,_=>exact ⟨_,_,rfl,by simp[getElem?_append],VN⟩
 | 1,_=>exact ⟨_,_,rfl,by simp[getElem?_append],VO⟩
 | 2,_=>exact ⟨_,_,rfl,by simp[getElem?_append],kd1⟩
 | 3,_=>exact ⟨_,_,rfl,by simp[getElem?_append],kd2⟩
 | 4,_=>exact ⟨_,_,rfl,by simp[getElem?_append],VP⟩
 | 5,_=>exact ⟨_,_,rfl,by simp[getElem?_append],VQ⟩
theorem yi {k:Nat}(hk:k<=100):prim sb .pow [.int 10,.int (k:Int)] h=some (.int (10 ^ k),h):=by
 show (if (0:Int)<=(k:Int)/\(k:Int)<=1000000/\(10:Int).natAbs < 18446744073709551616 then some (Z.D.int (10 ^ ((k:Int).toNat)),h) else none)=_;rw[if_pos ⟨by lia,by lia,by decide⟩,toNat_natCast]
theorem Qc:∀v∈[Z.D.str (tx "always"),.str (tx "where"),.str (tx "usually"),.str (tx "not"),.str (tx "and"),.str (tx "or")],∃w:S,v=.str w/\w.length<=12:=by
 intro v hv;erw[mem_cons,not_mem_nil,or_false]at hv;rcases hv with rfl | rfl | rfl | rfl | rfl | rfl<;>exact ⟨_,rfl,by decide⟩
theorem Qd {Qe:D}{N:List S}{na:Nat}{cell:Int}{x3 x4 x5 x6:Option D}{K:En}(hN:N≠[])(Cv:∀n∈N,n.length<=12)(hNn:N.length<=12)(hn:h[na]'(N.map .str))(q:∀h' x3 x4 x5 x6,h<+:h'->K.nx [some Qe,↑na,some (.int cell),x3,x4,x5,x6] h'):
  aZ sb (au sb P (d+49)) E xZ K [some Qe,↑na,some (.int cell),x3,x4,x5,x6] h:=by
 simp![xZ];refine A1 (by decide) (by decide) λD=>?_;have hd:(h++[AO.lst (rl (54:Int).toNat D)])[h.length]'(rl 54 D):=aq;have cY:h<+:h++[AO.lst (rl (54:Int).toNat D)]:=prefix_append _ _;generalize h++[AO.lst (rl (54:Int).toNat D)]=h1 at hd cY ⊢;generalize h.length=da at hd ⊢;have hn1:=aD cY hn;obtain ⟨Z1,Z2⟩:=bg (n:=54) (f:=D) (z:=51) (by decide) (by decide);obtain ⟨Z4,Z5⟩:=bg (n:=54) (f:=D) (z:=52) (by decide) (by decide);obtain ⟨Cy,Z6⟩:=bg (n:=54) (f:=D) (z:=44) (by decide) (by decide);obtain ⟨Qf,Z7⟩:=bg (n:=54) (f:=D) (z:=45) (by decide) (by decide);obtain ⟨v46,Z8⟩:=bg (n:=54) (f:=D) (z:=46) (by decide) (by decide);have go:∀(h2:AH) (sa:Nat) (M:List S),h1<+:h2->M≠[]->(∀n∈M,n.length<=12)->h2[sa]'(M.map .str)->
   aZ sb (au sb P (d+49)) E xY K [some Qe,↑na,some (.int cell),↑da,↑sa,x5,x6] h2:=by
  intro h2 sa M b8 hM Z9 em;have hd2:=aD b8 hd;simp![xY];refine PJ (by decide) hd2 em hM Z9 λh3 t bW tl=>?_;have w6:=aD bW hd2;refine FR (by decide) w6 (by lia) λh4 t4 pr4 tl4=>?_;have wI:=aD pr4 w6;refine c_long (by decide) wI (by lia) λt5 tl5=>?_;have m1:=@yi h4 64 (by decide);have m2:=@yi h4 15 (by decide);have i2:∃pl:Int,bx [Z.D.int (Cy % 20),.int (cell % 10 ^ 64 * 10 ^ 15+Cy)] (Qf % 2)=some (.int pl):=by
   rcases (show Qf % 2=0\/Qf % 2=1 by lia) with e | e
   ·rw[e];exact ⟨_,rfl⟩
   ·rw[e];exact ⟨_,rfl⟩
  obtain ⟨pl,ep⟩:=i2;generalize h64:(10:Int) ^ 64=Qg at m1 ep;have hb:0 < Qg:=by rw[<-h64];decide
  generalize h15:(10:Int) ^ 15=Ji at m2 ep;have hb2:-18446744073709551616 < Ji/\Ji < 18446744073709551616:=by rw[<-h15];decide
  clear h64 h15;have Z_:((64:Nat):Int)=64:=rfl;have lY:((15:Nat):Int)=15:=rfl;rw[Z_]at m1;rw[lY]at m2;simp![B8,aE wI,Z6,Z7,m1,m2,kT hb,zP hb2,aE (az (l:=[AO.lst [Z.D.int (Cy % 20),.int (cell % Qg * Ji+Cy)]]) wI),aE aq,ep];simp![B7,aE (az (l:=[AO.lst [Z.D.int (Cy % 20),.int (cell % Qg * Ji+Cy)]]) wI),Z8];refine Lh (by lia) λh6 pr6=>?_;simp!;exact q _ _ _ _ _ (cY.trans (b8.trans (bW.trans (pr4.trans ((prefix_append _ _).trans pr6)))))
 simp![Ca,B_,aE hd,Z2];cases Z1 % 8 == 0 with
 | false=>
  simp!;exact go h1 na N fe hN Cv hn1
 | true=>
  obtain ⟨v,hv,ev⟩:=g9 (xs:=[Z.D.str (tx "always"),.str (tx "where"),.str (tx "usually"),.str (tx "not"),.str (tx "and"),.str (tx "or")]) (z:=Z4 % 6) (emod_nonneg _ (by decide)) (emod_lt_of_pos _ (by decide));obtain ⟨w,rfl,wl⟩:=Qc v hv;simp![B9];generalize [Z.D.str (tx "always"),Z.D.str (tx "where"),Z.D.str (tx "usually"),Z.D.str (tx "not"),Z.D.str (tx "and"),Z.D.str (tx "or")]=L6 at ev hv ⊢;have e2:(h1++[AO.lst L6]++[AO.lst [Z.D.str w]]++[AO.lst (N.map Z.D.str++[Z.D.str w])])[(h1++[AO.lst L6]++[AO.lst [Z.D.str w]]).length]'((N++[w]).map Z.D.str):=by rw[aq];simp
  simp![aE (az (l:=[AO.lst L6]) hd),Z5,aE aq,ev];have hll:(N.map Z.D.str++[Z.D.str w]).length<=16777216:=by erw[length_append,length_map,length_cons,length_nil];lia
  rw[cK (az (az hn1)) aq hll];simp!;refine go _ _ (N++[w]) (pre_app (pre_app (prefix_append _ _))) (by simp) (λn hn=>?_) e2;rcases mem_append.mp hn with hn | hn
  ·exact Cv n hn
  ·rw[mem_singleton]at hn;subst hn;exact wl
theorem Qh (ns:List Int)(hl:ns.length<=63):au sb P 50 26 [.bV (ns.map .int)] [] (λd _=>d=.bl true) λ_ _=>False:=by
 refine wp_call rfl rfl ?_;simp![AK];refine FU (by decide) λc=>?_;refine HN (by decide) (by decide) λh1 na N cY _ hN1 hN Cv hNg=>?_;rw[AJ,eZ];have hcl:(cut (ns.map Z.D.int) (some 1) (some 41)).length<=63:=le_trans jT (by simpa using hl);have hc1:((h1++[AO.lst (cut (ns.map Z.D.int) (some 1) (some 41))])++[AO.lst [Z.D.int ns.length]])[h1.length]'(cut (ns.map Z.D.int) (some 1) (some 41)):=az aq;have pr:h1<+:(h1++[AO.lst (cut (ns.map Z.D.int) (some 1) (some 41))])++[AO.lst [Z.D.int ns.length]]++[AO.lst (cut (ns.map Z.D.int) (some 1) (some 41)++[Z.D.int ns.length])]:=pre_app (pre_app (prefix_append _ _));have ec:((h1++[AO.lst (cut (ns.map Z.D.int) (some 1) (some 41))])++[AO.lst [Z.D.int ns.length]]++[AO.lst (cut (ns.map Z.D.int) (some 1) (some 41)++[Z.D.int ns.length])])[((h1++[AO.lst (cut (ns.map Z.D.int) (some 1) (some 41))])++[AO.lst [Z.D.int ns.length]]).length]'(cut (ns.map Z.D.int) (some 1) (some 41)++[Z.D.int ns.length]):=aq;generalize hcells:cut (ns.map Z.D.int) (some 1) (some 41)++[Z.D.int ns.length]=cells at pr ec;have hci:∀v∈cells,∃c:Int,v=.int c:=by
  rw[<-hcells];intro v hv;rcases mem_append.mp hv with hv | hv
  ·obtain ⟨c,_,e⟩:=mem_map.mp (xW hv);exact ⟨c,e.symm⟩
  ·rw[mem_singleton]at hv;exact ⟨_,hv⟩
 have hcn:cells.length<=64:=by rw[<-hcells];simp;lia
 have HP:∀Q:List Z.D->AH->Prop,Q [.ref ((h1++[AO.lst (cut (ns.map Z.D.int) (some 1) (some 41))])++[AO.lst [Z.D.int ns.length]]).length] ((h1++[AO.lst (cut (ns.map Z.D.int) (some 1) (some 41))])++[AO.lst [Z.D.int ns.length]]++[AO.lst cells])->aW sb (au sb P 49) (λ_ _=>False) (.cons (.prim .add (.cons (.slc (.var 0) (.lit (.int 1)) (.lit (.int 41))) (.cons (.prim .aR (.cons (.prim .len (.cons (.var 0) .nil)) .nil)) .nil))) .nil) [some (.bV (ns.map .int)),↑na,none,none,none,none,none] h1 Q:=by
  intro Q q;simp![OV (show (ns.map Z.D.int).length<=16777216 by simp;lia)];rw[length_map,cK hc1 aq (by rw[hcells];lia),hcells];simp!;exact q
 generalize ((h1++[AO.lst (cut (ns.map Z.D.int) (some 1) (some 41))])++[AO.lst [Z.D.int ns.length]]).length=ca at ec HP;generalize (h1++[AO.lst (cut (ns.map Z.D.int) (some 1) (some 41))])++[AO.lst [Z.D.int ns.length]]++[AO.lst cells]=h2 at pr ec HP;refine fO (xs:=cells) (J:=dR ca) (vs:=[.ref ca]) (h1:=h2) (λi σ h'=>∃(x2 x3 x4 x5 x6:Option Z.D),h2<+:h'/\σ=[some (.bV (ns.map .int)),↑na,x2,x3,x4,x5,x6]) HP (wK ec) ⟨_,_,_,_,_,fe,rfl⟩ ?_ ?_ ?_
 ·rintro i σ h' _ ⟨x2,x3,x4,x5,x6,F_,_⟩;erw[dR,aD F_ ec]
 ·rintro i v σ h' ev ⟨x2,x3,x4,x5,x6,F_,rfl⟩;obtain ⟨cell,rfl⟩:=hci v (mem_of_getElem? ev);exact ⟨_,rfl,Qd (d:=0) hN (λn hn=>(hNg n hn).hi) Cv (aD (pr.trans F_) hN1) λh3 _ _ _ _ bW=>⟨_,_,_,_,_,F_.trans bW,rfl⟩⟩
 ·rintro σ h' ⟨x2,x3,x4,x5,x6,F_,rfl⟩;simp![B6];refine FU (by decide) λc=>?_;have m1:=@yi h' 40 (by decide);generalize h64:(10:Int) ^ 40=b40 at m1;have hb:0 < b40:=by rw[<-h64];decide
  clear h64;rw[show ((40:Nat):Int)=40 from rfl]at m1;simp![m1,kT hb];exact Qb λh''=>rfl
end
end
end dq
namespace dq
open PySem PySem.Spec PyProof.Rows L2 ZS
def top (i:Nat):Stmt:=PySem.Challenge.pw_wontbook_k02_read_by_hand.main.body.getD i (.Pass ⟨0,0,0,0⟩)
def inner (i j:Nat):Stmt:=match top i with | .ClassDef _ _ _ b _ _ _ _ _ _ _=>b.getD j (.Pass ⟨0,0,0,0⟩) | _=>.Pass ⟨0,0,0,0⟩
structure Txt (K:Frag)(w:World)(mg:Str->Option Value)(f0 f1 f2 f3 f4 f5 f6 f7 f8 f9 lZ f11 me mh jF mj kL ml mw kM jG kN mx kO my mz jH c0 c1 c2 c3 c4 c5 c6 c7 c8 c9 dZ d7 fI:Addr)(e0 e1 e2 e3 e4 e5 e6 e7 e8 e9 e10 qH lT qI qJ lY qK qL qM qN kJ lV lW lX qO qP kH eI:FuncData):Prop where
 u0:N8 K "read_sentence" (top 21) f0 e0
 g0:Binds K e0 ["text","row"] []
 gd0:Vk K e0 ["text","row"] (.int 0)
 m0:mg "read_sentence"=some (.ref f0)
 k0:keepIn K (.ref f0)=true
 u1:FF K mg "tokens_of" (top 22) f1 e1 ["text"]
 u2:FF K mg "piece_at" (top 23) f2 e2 ["text","place"]
 u3:FF K mg "word_end" (top 24) f3 e3 ["text","place"]
 u4:FF K mg "is_name" (top 25) f4 e4 ["word"]
 u5:FF K mg "put_together" (top 26) f5 e5 ["tokens"]
 u6:FF K mg "ended" (top 27) f6 e6 ["begun","whole","joints"]
 u7:FF K mg "_law_draws" (top 29) f7 e7 ["cell","count"]
 u8:FF K mg "_law_cell_at" (top 30) f8 e8 ["script","k"]
 u9:FF K mg "_law_fresh" (top 31) f9 e9 ["number","size"]
 VU:FF K mg "_law_names" (top 32) lZ e10 ["cell","size"]
 VX:FF K mg "_law_good" (top 33) f11 qH ["drawn","names"]
 VY:FF K mg "_law_spoiled" (top 34) me lT ["text","drawn"]
 VZ:FF K mg "_law_long" (top 35) mh qI ["text","drawn"]
 V0:FF K mg "_law_tokens" (top 36) jF qJ ["text"]
 V1:FF K mg "_law_blanks" (top 37) mj lY ["tokens"]
 u16:FF K mg "_law_flat" (top 38) kL qK ["items"]
 V2:FF K mg "_law_word" (top 39) ml qL ["text"]
 V3:FF K mg "_law_read" (top 40) mw qM ["text"]
 Qi:FF K mg "_law_same" (top 41) kM qN ["found","due"]
 V4:FF K mg "_law_kinds" (top 42) jG kJ ["e"]
 Qj:FF K mg "_law_due_kinds" (top 43) kN lV ["kind"]
 V5:FF K mg "_law_asked" (top 44) mx lW ["text","how","place"]
 Qk:FF K mg "_law_whole" (top 45) kO lX ["found"]
 V6:FF K mg "_law_made" (top 46) my qO ["place"]
 V7:FF K mg "_law_right" (top 47) mz qP ["text","how","place"]
 u26:FF K mg "law" (top 48) jH kH ["script"]
 n0:nsIn K mainGlobals "WontError"=some (some (.ref c0))
 V8:mg "WontError"=some (.ref c0)
 n1:nsIn K mainGlobals "RowError"=some (some (.ref c1))
 Jj:mg "RowError"=some (.ref c1)
 n2:nsIn K mainGlobals "NoRow"=some (some (.ref c2))
 Ql:mg "NoRow"=some (.ref c2)
 n3:nsIn K mainGlobals "TooLong"=some (some (.ref c3))
 Ga:mg "TooLong"=some (.ref c3)
 n4:nsIn K mainGlobals "NoSentence"=some (some (.ref c4))
 Gb:mg "NoSentence"=some (.ref c4)
 n5:nsIn K mainGlobals "Twice"=some (some (.ref c5))
 Qn:mg "Twice"=some (.ref c5)
 n6:nsIn K mainGlobals "TooMany"=some (some (.ref c6))
 Qo:mg "TooMany"=some (.ref c6)
 n7:nsIn K mainGlobals "NoAsk"=some (some (.ref c7))
 V9:mg "NoAsk"=some (.ref c7)
 n8:nsIn K mainGlobals "NoName"=some (some (.ref c8))
 V_:mg "NoName"=some (.ref c8)
 n9:nsIn K mainGlobals "NotTold"=some (some (.ref c9))
 Wa:mg "NotTold"=some (.ref c9)
 n10:nsIn K mainGlobals "Torn"=some (some (.ref dZ))
 Qp:mg "Torn"=some (.ref dZ)
 Qq:nsIn K mainGlobals "NoNews"=some (some (.ref d7))
 Qr:mg "NoNews"=some (.ref d7)
 uI:rn K "__init__" "RowError.__init__" (inner 2 0) fI eI
 gI:Binds K eI ["self","row"] []
 nI:isFn K (.ref fI)=true
 d8:XQ K fI c1
 eU:XQ K fI c2
 d9:XQ K fI c3
 d_:XQ K fI c4
 eV:XQ K fI c5
 eW:XQ K fI c6
 Wb:cg K (.ref c9) iN iO
 Qs:cg K (.ref dZ) oH oJ
 Qt:cg K (.ref d7) jL jM
 Wc:cg K (.ref c7) k_ lg
 Wd:cg K (.ref c8) jN jO
 Wf:cg K (.ref c6) iP iQ
 Wg:cg K (.ref c1) g_ hU
 Wh:cg K (.ref c0) fW fX
 Wi:cg K (.ref c2) lh lq
 Wj:cg K (.ref c3) iR iS
 Wk:cg K (.ref c4) fh fj
 Wl:cg K (.ref c5) lu ly
 nU:cg K (.type "ValueError") fq fu
 rows:rR K rcs
 ca0:mZ K [Z.tx "TooLong",Z.tx "NoSentence"] c1
 gk0:Oa K e0 ["text","row"] "row"
 t_:mg "ValueError"=none
 Qu:mg "bool"=none
 Tt:mg "int"=none
 ay:mg "isinstance"=none
 Tv:mg "len"=none
 Qv:mg "list"=none
 cJ:mg "range"=none
 w_:mg "reversed"=none
 zA:mg "str"=none
 Cz:mg "tuple"=none
 qQ:Ar K mg "MOST_SIGNS" hV
 Gd:Ar K mg "PIECES" vQ
 D2:Ar K mg "LETTERS" rW
 y8:Ar K mg "KEPT_WORDS" j_
 xf:Ar K mg "MOST_LETTERS" dD
 Ge:Ar K mg "JOINTS" Az
 xj:N7 K w mg "TIGHTER" bK
structure Wm [R0](Pr:Program)(w:World)(K:Frag)(mg:Str->Option Value)(base:Heap)(k:Nat)(f0 f1 f2 f3 f4 f5 f6 f7 f8 f9 lZ f11 me mh jF mj kL ml mw kM jG kN mx kO my mz jH c0 c1 c2 c3 c4 c5 c6 c7 c8 c9 dZ d7 fI:Addr)(e0 e1 e2 e3 e4 e5 e6 e7 e8 e9 e10 qH lT qI qJ lY qK qL qM qN kJ lV lW lX qO qP kH eI:FuncData)(Γ:Z.bS):Prop where
 x0:aH Pr w K mg base (j7 Pr w) (k+2) f0 e0 ["text","row"] (vj K Γ 0)
 f0:aH Pr w K mg base aY (k+2) f0 e0 ["text","row"] (aN K Γ 0)
 f1:aH Pr w K mg base aY (k+2) f1 e1 ["text"] (aN K Γ 1)
 f2:aH Pr w K mg base aY (k+2) f2 e2 ["text","place"] (aN K Γ 2)
 f3:aH Pr w K mg base aY (k+2) f3 e3 ["text","place"] (aN K Γ 3)
 f4:aH Pr w K mg base aY (k+2) f4 e4 ["word"] (aN K Γ 4)
 f5:aH Pr w K mg base aY (k+2) f5 e5 ["tokens"] (aN K Γ 5)
 f6:aH Pr w K mg base aY (k+2) f6 e6 ["begun","whole","joints"] (aN K Γ 6)
 f7:aH Pr w K mg base aY (k+2) f7 e7 ["cell","count"] (aN K Γ 7)
 f8:aH Pr w K mg base aY (k+2) f8 e8 ["script","k"] (aN K Γ 8)
 f9:aH Pr w K mg base aY (k+2) f9 e9 ["number","size"] (aN K Γ 9)
 lZ:aH Pr w K mg base aY (k+2) lZ e10 ["cell","size"] (aN K Γ 10)
 f11:aH Pr w K mg base aY (k+2) f11 qH ["drawn","names"] (aN K Γ 11)
 me:aH Pr w K mg base aY (k+2) me lT ["text","drawn"] (aN K Γ 12)
 mh:aH Pr w K mg base aY (k+2) mh qI ["text","drawn"] (aN K Γ 13)
 jF:aH Pr w K mg base aY (k+2) jF qJ ["text"] (aN K Γ 14)
 mj:aH Pr w K mg base aY (k+2) mj lY ["tokens"] (aN K Γ 15)
 kL:aH Pr w K mg base aY (k+2) kL qK ["items"] (aN K Γ 16)
 ml:aH Pr w K mg base aY (k+2) ml qL ["text"] (aN K Γ 17)
 mw:aH Pr w K mg base aY (k+2) mw qM ["text"] (aN K Γ 18)
 kM:aH Pr w K mg base aY (k+2) kM qN ["found","due"] (aN K Γ 19)
 jG:aH Pr w K mg base aY (k+2) jG kJ ["e"] (aN K Γ 20)
 kN:aH Pr w K mg base aY (k+2) kN lV ["kind"] (aN K Γ 21)
 mx:aH Pr w K mg base aY (k+2) mx lW ["text","how","place"] (aN K Γ 22)
 kO:aH Pr w K mg base aY (k+2) kO lX ["found"] (aN K Γ 23)
 my:aH Pr w K mg base aY (k+2) my qO ["place"] (aN K Γ 24)
 mz:aH Pr w K mg base aY (k+2) mz qP ["text","how","place"] (aN K Γ 25)
 jH:aH Pr w K mg base aY (k+2) jH kH ["script"] (aN K Γ 26)
seal L2.PE L2.PT L2.PA L2.PS L2.iw L2.PW L2.PI L2.bu L2.By L2.cR L2.mU L2.mS ZS.Ag L2.Binds
section
variable {Pr:Program}{w:World}{K:Frag}{mg:Str->Option Value}{base:Heap}{k:Nat}{f0 f1 f2 f3 f4 f5 f6 f7 f8 f9 lZ f11 me mh jF mj kL ml mw kM jG kN mx kO my mz jH c0 c1 c2 c3 c4 c5 c6 c7 c8 c9 dZ d7 fI:Addr}{e0 e1 e2 e3 e4 e5 e6 e7 e8 e9 e10 qH lT qI qJ lY qK qL qM qN kJ lV lW lX qO qP kH eI:FuncData}
theorem yj:aM ["text","row","tokens","sentence"] ["text","row"] (aw (top 21)):=bH
theorem A6:aM ["text","tokens","place","piece"] ["text"] (aw (top 22)):=bH
theorem HQ:aM ["text","place","piece","word"] ["text","place"] (aw (top 23)):=bH
theorem Qw:aM ["text","place"] ["text","place"] (aw (top 24)):=bH
theorem XU:aM ["word"] ["word"] (aw (top 25)):=bH
theorem oR:aM ["tokens","begun","whole","token","stands_behind"] ["tokens"] (aw (top 26)):=bH
theorem Qx:aM ["begun","whole","joints"] ["begun","whole","joints"] (aw (top 27)):=bH
theorem A7:aM ["cell","count","number","drawn","k"] ["cell","count"] (aw (top 29)):=bH
theorem XW:aM ["script","k"] ["script","k"] (aw (top 30)):=bH
theorem ym:aM ["number","size","letters","name","k"] ["number","size"] (aw (top 31)):=bH
theorem eF:aM ["cell","size","letters","some","drawn","base","at","names","k","name","sign"] ["cell","size"] (aw (top 32)):=bH
theorem fB:aM ["drawn","names","size","opened","shut","k","one","other","text","name"] ["drawn","names"] (aw (top 33)):=bH
theorem jQ:aM ["text","drawn","some","signs","k","at","new"] ["text","drawn"] (aw (top 34)):=bH
theorem zB:aM ["text","drawn","most","k"] ["text","drawn"] (aw (top 35)):=bH
theorem D3:aM ["text","tokens","sign"] ["text"] (aw (top 36)):=bH
theorem xk:aM ["tokens","rimmed","k","ahead","behind"] ["tokens"] (aw (top 37)):=bH
theorem iX:aM ["items","back","item","k","terms","tree","term"] ["items"] (aw (top 38)):=bH
theorem Jk:aM ["text","sign"] ["text"] (aw (top 39)):=bH
theorem uR:aM ["text","tokens","stack","token","tree"] ["text"] (aw (top 40)):=bH
theorem Jl:aM ["found","due","k"] ["found","due"] (aw (top 41)):=bH
theorem zC:aM ["e","kinds"] ["e"] (aw (top 42)):=bH
theorem Tw:aM ["kind"] ["kind"] (aw (top 43)):=bH
theorem eG:aM ["text","how","place","kinds","others","at","found","e"] ["text","how","place"] (aw (top 44)):=bH
theorem Tz:aM ["found"] ["found"] (aw (top 45)):=bH
theorem zD:aM ["place","made","k","e"] ["place"] (aw (top 46)):=bH
theorem zE:aM ["text","how","place","due","kinds","at","found"] ["text","how","place"] (aw (top 47)):=bH
theorem mB:aM ["script","names","cell","drawn","some","text","place"] ["script"] (aw (top 48)):=bH
theorem XX:aM ["self","row"] ["self","row"] (aw (inner 2 0)):=bH
theorem jf [R0]{X:Cx}{mg':Str->Option Value}{w':World}{C f0 f1 f2 f3 f4 f5 f6 f7 f8 f9 lZ f11 me mh jF mj kL ml mw kM jG kN mx kO my mz jH c0 c1 c2 c3 c4 c5 c6 c7 c8 c9 dZ d7 fI:Addr}{e0 e1 e2 e3 e4 e5 e6 e7 e8 e9 e10 qH lT qI qJ lY qK qL qM qN kJ lV lW lX qO qP kH eI:FuncData}{k:Nat}(T:Txt X.K w' mg' f0 f1 f2 f3 f4 f5 f6 f7 f8 f9 lZ f11 me mh jF mj kL ml mw kM jG kN mx kO my mz jH c0 c1 c2 c3 c4 c5 c6 c7 c8 c9 dZ d7 fI e0 e1 e2 e3 e4 e5 e6 e7 e8 e9 e10 qH lT qI qJ lY qK qL qM qN kJ lV lW lX qO qP kH eI)(q:XQ X.K fI C):zq X (k+1) fI eI C:=Oj T.uI XX rfl (Or.inl rfl) (Or.inl rfl) (λ_ _=>rfl) q.r T.nI T.gI q.k
section
variable [r0:R0](T:Txt K w mg f0 f1 f2 f3 f4 f5 f6 f7 f8 f9 lZ f11 me mh jF mj kL ml mw kM jG kN mx kO my mz jH c0 c1 c2 c3 c4 c5 c6 c7 c8 c9 dZ d7 fI e0 e1 e2 e3 e4 e5 e6 e7 e8 e9 e10 qH lT qI qJ lY qK qL qM qN kJ lV lW lX qO qP kH eI)(FA:∀r:R0,@Wm r Pr w K mg base k f0 f1 f2 f3 f4 f5 f6 f7 f8 f9 lZ f11 me mh jF mj kL ml mw kM jG kN mx kO my mz jH c0 c1 c2 c3 c4 c5 c6 c7 c8 c9 dZ d7 fI e0 e1 e2 e3 e4 e5 e6 e7 e8 e9 e10 qH lT qI qJ lY qK qL qM qN kJ lV lW lX qO qP kH eI (Z.au sb P k))
include T FA
set_option hygiene false in
local macro_rules
 | `(#[$a,*])=>do
  let mut r <-`(cX)
  for x in a.getElems.reverse do r <-`(Dl $x $r)
  return r
 | `(%[$a,*|$z])=>do
  let mut r:=z
  for x in a.getElems.reverse do r <-`(GX $x $r)
  return r
 | `($c:char)=>`(zv $(Lean.quote (c.getChar.toNat - 97)))
 | `($a++$b)=>`(bA RK $a $b)
 | `($a % $b)=>`(bA RJ $a $b)
 | `($a == $b)=>`(bt (g7 rfl) (vK (zu hr)) $a $b rfl)
 | `($a[$b])=>`(Y1 hr $a $b)
 | `(↑$a)=>`(NQ RM T.Tv NS (Dl $a cX))
 | `($a <|> $b)=>`(Iz (G_ (m:=.list) plainAttrs_list PySem.F.slot_list_append PySem.F.type_list_append G7 $a (Dl $b cX)))
theorem d_0:aH Pr w K mg base aY (k+3) f0 e0 ["text","row"] (aN K (Z.au sb P (k+1)) 0):=
 have F:=FA r0
 Hu T.u0 yj rfl rfl rfl λcdv A outer s H E E' hr=>
  %[aO (bt (eh rfl) Ab ↑'a' (As T.qQ) rfl) %[Ay T.Ga T.d9.k 'b'|aj] aj,aC 2 yj.nd (bJ hr F.f1 T.u1 #['a']),aC 3 yj.nd (wq (gL (kZ rfl) jK 'c' rfl) zn (bJ hr F.f5 T.u5 #['c'])),aO (gL (kZ rfl) jK 'd' rfl) %[Ay T.Gb T.d_.k 'b'|aj] aj,aG 'd'|aj]
theorem XY:aH Pr w K mg base (j7 Pr w) (k+3) f0 e0 ["text","row"] (vj K (Z.au sb P (k+1)) 0):=
 have F:=FA r0
 Fo T.u0 yj rfl rfl rfl λcdv A outer s H E E' hr hx=>
  %[aO (bt (eh rfl) Ab ↑'a' (As T.qQ) rfl) %[B5 hx rfl hr (jf T T.d9) T.Ga T.n3 'b'|aj] aj,aC 2 yj.nd (bJ hr F.f1 T.u1 #['a']),aC 3 yj.nd (wq (gL (kZ rfl) jK 'c' rfl) zn (bJ hr F.f5 T.u5 #['c'])),aO (gL (kZ rfl) jK 'd' rfl) %[B5 hx rfl hr (jf T T.d_) T.Gb T.n4 'b'|aj] aj,aG 'd'|aj]
theorem d_1:aH Pr w K mg base aY (k+3) f1 e1 ["text"] (aN K (Z.au sb P (k+1)) 1):=
 have F:=FA r0
 bw T.u1.u A6 rfl rfl rfl λcdv A outer s H E E' hr=>
  %[aC 1 A6.nd (aJ cX),aC 2 A6.nd zi,(vH PassesOwn.never (bt (eh rfl) Df 'c' ↑'a' rfl) %[aC 3 A6.nd (bJ hr F.f2 T.u2 #['a','c']),aO (gL (kZ rfl) jK 'd' rfl) %[aG zn|aj] aj,'b' <|> (G_ (m:=.str) plainAttrs_str PySem.F.slot_str_strip PySem.F.type_str_strip m_strip 'd' #[zt]),N6 2 A6.nd ↑'d'|aj]),aG 'b'|aj]
theorem d_2:aH Pr w K mg base aY (k+3) f2 e2 ["text","place"] (aN K (Z.au sb P (k+1)) 2):=
 have F:=FA r0
 bw T.u2.u HQ rfl rfl rfl λcdv A outer s H E E' hr=>
  %[(dB 2 PassesOwn.never rfl HQ.nd (rG (As T.Gd)) %[(aO (fH (G_ (m:=.str) plainAttrs_str PySem.F.slot_str_startswith PySem.F.type_str_startswith Fd 'a' #['c','b'])) %[aG 'c'|aj] aj)|aj]),aC 3 HQ.nd (BR 'a' 'b' (bJ hr F.f3 T.u3 #['a','b'])),aG (wq (fH (bJ hr F.f4 T.u4 #['d'])) 'd' zn)|aj]
theorem d_3:aH Pr w K mg base aY (k+3) f3 e3 ["text","place"] (aN K (Z.au sb P (k+1)) 3):=
 have F:=FA r0
 bw T.u3.u Qw rfl rfl rfl λcdv A outer s H E E' hr=>
  %[vH PassesOwn.never (PW.pt (rF (bt (eh rfl) Df 'b' ↑'a' rfl) (mW (bt (B2 (.inl rfl)) IJ 'a'['b'] (As T.D2) rfl)))) %[N6 1 Qw.nd zi|aj],aG 'b'|aj]
theorem d_4:aH Pr w K mg base aY (k+3) f4 e4 ["word"] (aN K (Z.au sb P (k+1)) 4):=
 have F:=FA r0
 bw T.u4.u XU rfl rfl rfl λcdv A outer s H E E' hr=>
  %[aG (mV (GV Dg Dg zi ↑'a' (As T.xf) rfl) (rE (jc (uz (zu hr)) 'a' (As T.y8) rfl)))|aj]
theorem d_5:aH Pr w K mg base aY (k+3) f5 e5 ["tokens"] (aN K (Z.au sb P (k+1)) 5):=
 have F:=FA r0
 bw T.u5.u oR rfl rfl rfl λcdv A outer s H E E' hr=>
  %[aC 1 oR.nd (aJ cX),aC 2 oR.nd zn,(dB 3 PassesOwn.never rfl oR.nd (rG 'a') %[aC 4 oR.nd (Xq T.xj 'd'),aO ('e' == (le_none jK 'c' rfl)) %[aG zn|aj] aj,aO (fH 'e') %[aC 2 oR.nd (bJ hr F.f6 T.u6 #['b','c',RW T.xj 'd'])|aj] aj,(aO ('d' == zt) %[aO (j5 (fH 'b')) %[aG zn|aj] aj,(Iz (uC (m:=.list) plainAttrs_list slot_list_pop type_list_pop uB 'b'))|aj] %[aO (fH 'e') %['b' <|> (cF #['d','c']),aC 2 oR.nd zn|aj] %[aO (PW.pt (gV ('d' == zt) (gU ('d' == zt)))) %['b' <|> (cF #['d'])|aj] %[aC 2 oR.nd (cF #[zt,'d'])|aj]|aj]|aj])|aj]),aO (gL (kZ rfl) jK 'c' rfl) %[aG zn|aj] aj,aC 2 oR.nd (bJ hr F.f6 T.u6 #['b','c',As T.Ge]),aG (wq (fH 'b') zn 'c')|aj]
theorem d_6:aH Pr w K mg base aY (k+3) f6 e6 ["begun","whole","joints"] (aN K (Z.au sb P (k+1)) 6):=
 have F:=FA r0
 bw T.u6.u Qx rfl rfl rfl λcdv A outer s H E E' hr=>
  %[(vH PassesOwn.never (PW.pt (rF (fH 'a') (mW (bt (g8 rfl) (xN (zu hr)) 'a'[kW kY zi][zi] 'c' rfl)))) %[(aC 1 Qx.nd ((uC (m:=.list) plainAttrs_list slot_list_pop type_list_pop uB 'a')++(cF #['b'])))|aj]),aG 'b'|aj]
theorem d_7:aH Pr w K mg base aY (k+3) f7 e7 ["cell","count"] (aN K (Z.au sb P (k+1)) 7):=
 have F:=FA r0
 bw T.u7.u A7 rfl rfl rfl λcdv A outer s H E E' hr=>
  %[aC 2 A7.nd ((bA gY (('a' % zi)++zi) zi) % zi),aC 3 A7.nd (aJ cX),dB 4 PassesOwn.never rfl A7.nd (cS rfl T.cJ #['b'] rfl) %[aC 2 A7.nd ((bA gY 'c' zi) % zi),'d' <|> (bA mX 'c' zi)|aj],aG 'd'|aj]
theorem d_8:aH Pr w K mg base aY (k+3) f8 e8 ["script","k"] (aN K (Z.au sb P (k+1)) 8):=
 have F:=FA r0
 bw T.u8.u XW rfl rfl rfl λcdv A outer s H E E' hr=>
  %[aO (bt (eh rfl) Df 'b' ↑'a' rfl) %[aG 'a'['b']|aj] aj,aG zi|aj]
theorem d_9:aH Pr w K mg base aY (k+3) f9 e9 ["number","size"] (aN K (Z.au sb P (k+1)) 9):=
 have F:=FA r0
 bw T.u9.u ym rfl rfl rfl λcdv A outer s H E E' hr=>
  %[aC 2 ym.nd zt,aC 3 ym.nd zt,dB 4 PassesOwn.never rfl ym.nd (cS rfl T.cJ #['b'] rfl) %[aC 0 ym.nd (((bA gY 'a' zi)++zi) % zi),aC 3 ym.nd ('d'++'c'[(bA mX 'a' zi) % zi])|aj],aG 'd'|aj]
theorem XZ:aH Pr w K mg base aY (k+3) lZ e10 ["cell","size"] (aN K (Z.au sb P (k+1)) 10):=
 have F:=FA r0
 bw T.VU.u eF rfl rfl rfl λcdv A outer s H E E' hr=>
  %[aC 2 eF.nd zt,aC 3 eF.nd (aJ #[zt,zt,zt,zt,zt,zt,zt,zt,zt,zt,zt,zt,zt,zt]),aC 3 eF.nd ('d'++(aJ #[zt,zt])),aC 4 eF.nd (bJ hr F.f7 T.u7 #['a',zi]),aC 5 eF.nd (bJ hr F.f9 T.u9 #['e'[zi],zi++('e'[zi] % zi)]),aC 6 eF.nd ('e'[zi] % ↑'f'),aC 7 eF.nd (aJ cX),dB 8 PassesOwn.never rfl eF.nd (cS rfl T.cJ #['b'] rfl) %[aC 9 eF.nd (bJ hr F.f9 T.u9 #['e'[zi++'i'],zi++((bA mX 'e'[zi++'i'] zi) % zi)]),aO (bt (eh rfl) Df ('e'[zi] % zi) zi rfl) %[aC 10 eF.nd 'c'[('e'[zi]++(bA gY 'i' (aJ #[zi,zi,zi,zi,zi,zi])['e'[zi] % zi])) % zi],aC 9 eF.nd (((EY 'f' 'g')++'k')++(Af 'f' ('g'++zi)))|aj] aj,aO (('e'[zi] % zi) == zi) %[aC 9 eF.nd 'd'[('e'[zi]++(bA gY zi 'i')) % zi]|aj] aj,aO (bt (g8 rfl) (xN (zu hr)) 'j' (cF #[zt,zt,zt,zt,zt,zt]) rfl) %[aC 9 eF.nd ('j'++zt)|aj] aj,aO (bt (g8 rfl) (uz (zu hr)) 'j' 'h' rfl) %['h' <|> 'j'|aj] aj|aj],aG 'h'|aj]
theorem X0:aH Pr w K mg base aY (k+3) f11 qH ["drawn","names"] (aN K (Z.au sb P (k+1)) 11):=
 have F:=FA r0
 bw T.VX.u fB rfl rfl rfl λcdv A outer s H E E' hr=>
  %[aC 2 fB.nd (zi++('a'[zi] % zi)),aC 3 fB.nd (bA gY (aJ #[zi]) 'c'),aC 4 fB.nd (bA gY (aJ #[zi]) 'c'),dB 5 PassesOwn.never rfl fB.nd (cS rfl T.cJ #['a'[zi] % zi] rfl) %[aC 6 fB.nd ('a'[zi++'f'] % 'c'),aC 7 fB.nd ('g'++('a'[zi++'f'] % (bA Iv 'c' 'g'))),Dm hr ('d'['g']++zi) 'd' 'g',Dm hr ('e'['h']++zi) 'e' 'h'|aj],aC 8 fB.nd zt,dB 5 PassesOwn.never rfl fB.nd (cS rfl T.cJ #['c'] rfl) %[aO (bt (eh rfl) Ab 'f' zi rfl) %[aC 8 fB.nd ('i'++(aJ #[zt,zt])['a'[zi++'f'] % zi])|aj] aj,aC 8 fB.nd (('i'++(bA wJ zt (bA mX ('a'[zi++'f'] % zi) zi)))++(bA wJ zt 'd'['f'])),aC 9 fB.nd 'b'['a'[zi++'f'] % ↑'b'],aC 8 fB.nd ((('i'++(bA wJ zt (bA mX ('a'[zi++'f'] % zi) zi)))++'j')++(bA wJ zt 'e'['f']))|aj],aG 'i'|aj]
theorem X2:aH Pr w K mg base aY (k+3) me lT ["text","drawn"] (aN K (Z.au sb P (k+1)) 12):=
 have F:=FA r0
 bw T.VY.u jQ rfl rfl rfl λcdv A outer s H E E' hr=>
  %[aC 2 jQ.nd (aJ #[zt,zt,zt,zt,zt,zt,zt,zt,zt,zt,zt,zt]),aC 3 jQ.nd zt,aC 3 jQ.nd ('d'++zt),dB 4 PassesOwn.never rfl jQ.nd (cS rfl T.cJ #[bA gY (bA mX ('b'[zi] % zi) zi) (zi++('b'[zi] % zi))] rfl) %[aC 5 jQ.nd ('b'[zi++'e'] % (↑'a'++zi)),aC 6 jQ.nd (aJ #['c'['b'[zi++'e'] % zi],zt])['b'[zi++'e'] % zi],aO (('b'[zi++'e'] % zi) == zi) %[aC 6 jQ.nd 'd'['b'[zi++'e'] % zi]|aj] aj,aC 0 jQ.nd (((EY 'a' 'f')++'g')++(Af 'a' ('f'++('b'[zi++'e'] % zi))))|aj],aG 'a'|aj]
theorem X3:aH Pr w K mg base aY (k+3) mh qI ["text","drawn"] (aN K (Z.au sb P (k+1)) 13):=
 have F:=FA r0
 bw T.VZ.u zB rfl rfl rfl λcdv A outer s H E E' hr=>
  %[aC 2 zB.nd (zi++('b'[zi] % zi)),aO (('b'[zi] % zi) == zi) %[dB 3 PassesOwn.never rfl zB.nd (cS rfl T.cJ #[zi] rfl) %[aO (bt (eh rfl) Dg (↑'a'++zi) 'c' rfl) %[aC 0 zB.nd ((zt++'a')++zt)|aj] aj|aj]|aj] aj,aG 'a'|aj]
theorem X4:aH Pr w K mg base aY (k+3) jF qJ ["text"] (aN K (Z.au sb P (k+1)) 14):=
 have F:=FA r0
 bw T.V0.u D3 rfl rfl rfl λcdv A outer s H E E' hr=>
  %[aC 1 D3.nd (aJ cX),dB 2 PassesOwn.never rfl D3.nd (Fl 'a') %[aO (PW.pt (gV (bt (B2 (.inl rfl)) IJ 'c' zt rfl) (gV (↑'b' == zi) (gU (bt (g8 rfl) (xN (zu hr)) 'b'[kW kY zi] (cF #[zt,zt,zt]) rfl))))) %['b' <|> 'c'|aj] %[Dm hr ('b'[kW kY zi]++'c') 'b' (kW kY zi)|aj]|aj],aG 'b'|aj]
theorem X5:aH Pr w K mg base aY (k+3) mj lY ["tokens"] (aN K (Z.au sb P (k+1)) 15):=
 have F:=FA r0
 bw T.V1.u xk rfl rfl rfl λcdv A outer s H E E' hr=>
  %[aC 1 xk.nd (((aJ #[zt])++'a')++(aJ #[zt])),dB 2 PassesOwn.never rfl xk.nd (cS rfl T.cJ #[↑'a'] rfl) %[aC 3 xk.nd 'b'['c'],aC 4 xk.nd 'b'['c'++zi],aO ('a'['c'] == zt) %[aO (PW.pt (gV ('d' == zt) (gU ('e' == zt)))) %[aG zb|aj] aj,aO (PW.pt (rF (bt (g8 rfl) (uz (zu hr)) 'd' (cF #[zt,zt,zt]) rfl) (mW (bt (g8 rfl) (uz (zu hr)) 'e' (cF #[zt,zt]) rfl)))) %[aG zb|aj] aj|aj] aj,aO (PW.pt (rF (bt (g8 rfl) (xN (zu hr)) 'a'['c'] (cF #[zt,zt]) rfl) (mW (PW.pt (gV (bt (g7 rfl) (rH (zu hr)) 'd' zt rfl) (gU (bt (g7 rfl) (rH (zu hr)) 'e' zt rfl))))))) %[aG zb|aj] aj,aO (PW.pt (rF ('a'['c'] == zt) (mW (bt (g7 rfl) (rH (zu hr)) 'e' zt rfl)))) %[aG zb|aj] aj|aj],aG zb|aj]
theorem X6:aH Pr w K mg base aY (k+3) kL qK ["items"] (aN K (Z.au sb P (k+1)) 16):=
 have F:=FA r0
 bw T.u16.u iX rfl rfl rfl λcdv A outer s H E E' hr=>
  %[aC 1 iX.nd (aJ cX),(dB 2 PassesOwn.never rfl iX.nd (Kx rfl T.w_ #['a']) %[(aO ('c' == zt) %[(aO (PW.pt (gV (↑'b' == zi) (gU (fH (rM (k:=.str) T.ay T.zA wB 'b'[kW kY zi]))))) %[aG zn|aj] aj),'b' <|> (cF #[zt,(uC (m:=.list) plainAttrs_list slot_list_pop type_list_pop uB 'b')])|aj] %['b' <|> 'c'|aj])|aj]),aC 0 iX.nd (RU T.Qv T.w_ #['b']),(dB 3 PassesOwn.never rfl iX.nd (cS rfl T.cJ #[↑'a'] rfl) %[(aO (bt (g7 rfl) (rH (zu hr)) (rM (k:=.str) T.ay T.zA wB 'a'['d']) (jc (vK (zu hr)) ('d' % zi) zi rfl) rfl) %[aG zn|aj] aj)|aj]),aO ((↑'a' % zi) == zi) %[aG zn|aj] aj,aC 4 iX.nd (aJ #['a'[zi]]),(dB 3 PassesOwn.never rfl iX.nd (Kf rfl T.cJ #[zi,↑'a',zi]) %[(aO ('a'['d'] == zt) %['e' <|> (cF #[zt,(uC (m:=.list) plainAttrs_list slot_list_pop type_list_pop uB 'e'),'a'['d'++zi]])|aj] %['e' <|> 'a'['d'++zi]|aj])|aj]),aC 5 iX.nd 'e'[zi],dB 6 PassesOwn.never rfl iX.nd (rG (Af 'e' zi)) %[aC 5 iX.nd (cF #[zt,'f','g'])|aj],aG 'f'|aj]
theorem X7:aH Pr w K mg base aY (k+3) ml qL ["text"] (aN K (Z.au sb P (k+1)) 17):=
 have F:=FA r0
 bw T.V2.u Jk rfl rfl rfl λcdv A outer s H E E' hr=>
  %[aO (bt (g8 rfl) (xN (zu hr)) 'a' (cF #[zt,zt,zt]) rfl) %[aG zb|aj] aj,dB 1 PassesOwn.never rfl Jk.nd (Fl 'a') %[aO (bt Hw Ol 'b' zt rfl) %[aG zb|aj] aj|aj],aG (jc Dg ↑'a' zi rfl)|aj]
theorem X8:aH Pr w K mg base aY (k+3) mw qM ["text"] (aN K (Z.au sb P (k+1)) 18):=
 have F:=FA r0
 bw T.V3.u uR rfl rfl rfl λcdv A outer s H E E' hr=>
  %[aC 1 uR.nd (bJ hr F.jF T.V0 #['a']),aO (bt (eh rfl) Ab ↑'a' zi rfl) %[aG (aJ #[zi])|aj] aj,aO (j5 (fH (bJ hr F.mj T.V1 #['b']))) %[aG (aJ #[zi])|aj] aj,aC 2 uR.nd (aJ #[aJ cX]),(dB 3 PassesOwn.never rfl uR.nd (rG 'b') %[(aO ('d' == zt) %['c' <|> (aJ cX)|aj] %[(aO ('d' == zt) %[(aC 4 uR.nd (bJ hr F.kL T.u16 #[(uC (m:=.list) plainAttrs_list slot_list_pop type_list_pop uB 'c')])),aO (PW.pt (gV (gL (kZ rfl) jK 'e' rfl) (gU (↑'c' == zi)))) %[aG (aJ #[zi])|aj] aj,'c'[kW kY zi] <|> 'e'|aj] %[aO (bt (g8 rfl) (xN (zu hr)) 'd' (cF #[zt,zt,zt]) rfl) %['c'[kW kY zi] <|> 'd'|aj] %[aO (bt (g7 rfl) (rH (zu hr)) 'd' zt rfl) %[aO (j5 (fH (bJ hr F.ml T.V2 #['d']))) %[aG (aJ #[zi])|aj] aj,'c'[kW kY zi] <|> (cF #[zt,'d'])|aj] aj|aj]|aj])|aj])|aj]),(aC 4 uR.nd (bJ hr F.kL T.u16 #[(uC (m:=.list) plainAttrs_list slot_list_pop type_list_pop uB 'c')])),aO (PW.pt (gV (gL (kZ rfl) jK 'e' rfl) (gU (bt (eh rfl) Ab ↑'c' zi rfl)))) %[aG (aJ #[zi])|aj] aj,aG 'e'|aj]
theorem X9:aH Pr w K mg base aY (k+3) kM qN ["found","due"] (aN K (Z.au sb P (k+1)) 19):=
 have F:=FA r0
 bw T.Qi.u Jl rfl rfl rfl λcdv A outer s H E E' hr=>
  %[(aO (fH (rM (k:=.str) T.ay T.zA wB 'b')) %[(aG (mV (rM (k:=.str) T.ay T.zA wB 'a') (rE (jc (vK (zu hr)) 'a' 'b' rfl))))|aj] aj),(aO (PW.pt (gV (j5 (fH (rM (k:=.tuple) T.ay T.Cz Ak 'a'))) (gU (bt (g7 rfl) (rH (zu hr)) ↑'a' ↑'b' rfl)))) %[aG zb|aj] aj),dB 2 PassesOwn.never rfl Jl.nd (cS rfl T.cJ #[↑'b'] rfl) %[aO (j5 (fH (bJ hr F.kM T.Qi #['a'['c'],'b'['c']]))) %[aG zb|aj] aj|aj],aG zb|aj]
theorem X_:aH Pr w K mg base aY (k+3) jG kJ ["e"] (aN K (Z.au sb P (k+1)) 20):=
 have F:=FA r0
 bw T.V4.u zC rfl rfl rfl λcdv A outer s H E E' hr=>
  %[aC 1 zC.nd (aJ #[cG T.ay T.Ql T.Wi 'a',cG T.ay T.Ga T.Wj 'a',cG T.ay T.Gb T.Wk 'a',cG T.ay T.Qn T.Wl 'a']),aC 1 zC.nd ('b'++(aJ #[cG T.ay T.Qo T.Wf 'a',cG T.ay T.Jj T.Wg 'a',cG T.ay T.V8 T.Wh 'a'])),aC 1 zC.nd ('b'++(aJ #[IC T.ay T.t_ oX T.nU 'a',cG T.ay T.V9 T.Wc 'a',cG T.ay T.V_ T.Wd 'a'])),aG ('b'++(aJ #[cG T.ay T.Wa T.Wb 'a',cG T.ay T.Qp T.Qs 'a',cG T.ay T.Qr T.Qt 'a']))|aj]
theorem Yb:aH Pr w K mg base aY (k+3) kN lV ["kind"] (aN K (Z.au sb P (k+1)) 21):=
 have F:=FA r0
 bw T.Qj.u Tw rfl rfl rfl λcdv A outer s H E E' hr=>
  %[(aG (((NR ["kind"] ["kind"] (aw (top 43)) rfl (cS rfl T.cJ #[zi] rfl) (λ_ _ _ _=>J_) (λ_ _ _ _=>(jc (vK (zu hr)) 'b' 'a' rfl)))++(bA gY (aJ #[zb]) zi))++(bA gY (aJ #[zb]) zi)))|aj]
theorem Yc:aH Pr w K mg base aY (k+3) mx lW ["text","how","place"] (aN K (Z.au sb P (k+1)) 22):=
 have F:=FA r0
 bw T.V5.u eG rfl rfl rfl λcdv A outer s H E E' hr=>
  %[aC 3 eG.nd (aJ cX),aC 4 eG.nd (aJ cX),aC 5 eG.nd zi,aC 6 eG.nd zn,(RX 6 7 (IU ('b' == zi) (Hq 6 hr (λr=>(FA r).x0) T.m0 T.k0 T.gd0 eG.nd #['a']) (IU ('b' == zi) (Kv 6 hr (λr=>(FA r).x0) T.m0 T.k0 T.g0 eG.nd #['a','c']) (Hr 6 hr (λr=>(FA r).x0) T.m0 T.k0 T.gk0 eG.nd #['a'] 'c'))) eG.nd rfl rfl rfl T.Jj T.ca0 (λ_ _=>%[aC 3 eG.nd (aJ #[cG T.ay T.Ql T.Wi 'h',cG T.ay T.Ga T.Wj 'h',cG T.ay T.Gb T.Wk 'h',cG T.ay T.Qn T.Wl 'h']),aC 3 eG.nd ('d'++(aJ #[cG T.ay T.Qo T.Wf 'h',cG T.ay T.Jj T.Wg 'h',cG T.ay T.V8 T.Wh 'h'])),aC 4 eG.nd (aJ #[IC T.ay T.t_ oX T.nU 'h',cG T.ay T.V9 T.Wc 'h',cG T.ay T.V_ T.Wd 'h']),aC 4 eG.nd ('e'++(aJ #[cG T.ay T.Wa T.Wb 'h',cG T.ay T.Qp T.Qs 'h',cG T.ay T.Qr T.Qt 'h'])),aC 5 eG.nd (Dt T.rows 'h')|aj])),aG (cF #['d'++'e','f','g'])|aj]
theorem Yd:aH Pr w K mg base aY (k+3) kO lX ["found"] (aN K (Z.au sb P (k+1)) 23):=
 have F:=FA r0
 bw T.Qk.u Tz rfl rfl rfl λcdv A outer s H E E' hr=>
  %[(aG (mV (rM (k:=.int) T.ay T.Tt NT 'a') (rE (Xn (rM (k:=.bool) T.ay T.Qu Ke 'a')))))|aj]
theorem Ye:aH Pr w K mg base aY (k+3) my qO ["place"] (aN K (Z.au sb P (k+1)) 24):=
 have F:=FA r0
 bw T.V6.u zD rfl rfl rfl λcdv A outer s H E E' hr=>
  %[aC 1 zD.nd (aJ #[xU hr (jf T T.d8) T.Jj T.n1 'a',xU hr (jf T T.eU) T.Ql T.n2 'a',xU hr (jf T T.d9) T.Ga T.n3 'a',xU hr (jf T T.d_) T.Gb T.n4 'a',xU hr (jf T T.eV) T.Qn T.n5 'a',xU hr (jf T T.eW) T.Qo T.n6 'a']),dB 2 PassesOwn.never rfl zD.nd (cS rfl T.cJ #[zi] rfl) %[aC 3 zD.nd 'b'['c'],aO (PW.pt (gV (bt (g7 rfl) (rH (zu hr)) (bJ hr F.jG T.V4 #['d']) (bJ hr F.kN T.Qj #[bA Iv 'c' zi]) rfl) (gV (j5 (fH (bJ hr F.kO T.Qk #[Dt T.rows 'd']))) (gU (bt (g7 rfl) (rH (zu hr)) (Dt T.rows 'd') 'a' rfl))))) %[aG zb|aj] aj|aj],aG zb|aj]
theorem Yg:aH Pr w K mg base aY (k+3) mz qP ["text","how","place"] (aN K (Z.au sb P (k+1)) 25):=
 have F:=FA r0
 bw T.V7.u zE rfl rfl rfl λcdv A outer s H E E' hr=>
  %[aC 3 zE.nd (bJ hr F.mw T.V3 #['a']),RR 4 5 6 rfl zE.nd (bJ hr F.mx T.V5 #['a','b','c']),(aO (fH (rM (k:=.tuple) T.ay T.Cz Ak 'd')) %[aG (mV (jc (vK (zu hr)) 'e' (aJ cX) rfl) (rE (bJ hr F.kM T.Qi #['g','d'])))|aj] aj),aO ('b' == zi) %[aC 2 zE.nd zi|aj] aj,aG (mV (jc (vK (zu hr)) 'e' (bJ hr F.kN T.Qj #['d'[zi]]) rfl) (mV (bJ hr F.kO T.Qk #['f']) (rE (jc (vK (zu hr)) 'f' 'c' rfl))))|aj]
theorem Yh:aH Pr w K mg base aY (k+3) jH kH ["script"] (aN K (Z.au sb P (k+1)) 26):=
 have F:=FA r0
 bw T.u26.u mB rfl rfl rfl λcdv A outer s H E E' hr=>
  %[aC 1 mB.nd (bJ hr F.lZ T.VU #[bJ hr F.f8 T.u8 #['a',zi],zi]),dB 2 PassesOwn.never rfl mB.nd (rG ((BR 'a' zi zi)++(aJ #[↑'a']))) %[aC 3 mB.nd (bJ hr F.f7 T.u7 #['c',zi]),aC 4 mB.nd 'b',aO (('d'[zi] % zi) == zi) %[aC 4 mB.nd ('b'++(aJ #[(aJ #[zt,zt,zt,zt,zt,zt])['d'[zi] % zi]]))|aj] aj,aC 5 mB.nd (bJ hr F.mh T.VZ #[bJ hr F.me T.VY #[bJ hr F.f11 T.VX #['d','e'],'d'],'d']),aC 6 mB.nd (aJ #['d'[zi] % zi,(bA gY ('c' % (bA Dh zi zi)) (bA Dh zi zi))++'d'[zi]])['d'[zi] % zi],aO (j5 (fH (bJ hr F.mz T.V7 #['f','d'[zi] % zi,'g']))) %[aG zb|aj] aj|aj],aG (bJ hr F.my T.V6 #[(bJ hr F.f8 T.u8 #['a',zi]) % (bA Dh zi zi)])|aj]
end
theorem fns (T:Txt K w mg f0 f1 f2 f3 f4 f5 f6 f7 f8 f9 lZ f11 me mh jF mj kL ml mw kM jG kN mx kO my mz jH c0 c1 c2 c3 c4 c5 c6 c7 c8 c9 dZ d7 fI e0 e1 e2 e3 e4 e5 e6 e7 e8 e9 e10 qH lT qI qJ lY qK qL qM qN kJ lV lW lX qO qP kH eI):∀(k:Nat) (r:R0),@Wm r Pr w K mg base k f0 f1 f2 f3 f4 f5 f6 f7 f8 f9 lZ f11 me mh jF mj kL ml mw kM jG kN mx kO my mz jH c0 c1 c2 c3 c4 c5 c6 c7 c8 c9 dZ d7 fI e0 e1 e2 e3 e4 e5 e6 e7 e8 e9 e10 qH lT qI qJ lY qK qL qM qN kJ lV lW lX qO qP kH eI (Z.au sb P k)
 | 0,r=>⟨Hv,bh,bh,bh,bh,bh,bh,bh,bh,bh,bh,bh,bh,bh,bh,bh,bh,bh,bh,bh,bh,bh,bh,bh,bh,bh,bh,bh⟩
 | k+1,r=>have FA:=fns T k;have F:=FA r;⟨XY T FA,d_0 T FA,d_1 T FA,d_2 T FA,d_3 T FA,d_4 T FA,d_5 T FA,d_6 T FA,d_7 T FA,d_8 T FA,d_9 T FA,XZ T FA,X0 T FA,X2 T FA,X3 T FA,X4 T FA,X5 T FA,X6 T FA,X7 T FA,X8 T FA,X9 T FA,X_ T FA,Yb T FA,Yc T FA,Yd T FA,Ye T FA,Yg T FA,Yh T FA⟩
end
theorem all_mk {l:PySem.W.OpenLaw}{w:World}{K:Frag}{h:Heap}{mg:Str->Option Value}(X:K.In h)(G:h.Ns mainGlobals mg)(hfa:mg "law"=some (.ref fa))
  {c0 c1 c2 c3 c4 c5 c6 c7 c8 c9 dZ d7:Addr}
  (y_:nsIn K mainGlobals "MOST_SIGNS"=some (some (.int 120 Lz)))
  (Gf:nsIn K mainGlobals "PIECES"=some (some (.ref Gg)))
  (Gh:K.lookup Gg=some ⟨.type "tuple",none,.seq #[(.str "(" QX),(.str ")" QY),(.str " and " QZ),(.str " or " Q0),(.str "not " Q5)] Wn,Wo⟩)
  (D4:nsIn K mainGlobals "LETTERS"=some (some (.str "abcdefghijklmnopqrstuvwxyz" TF)))
  (za:nsIn K mainGlobals "KEPT_WORDS"=some (some (.ref zc)))
  (zf:K.lookup zc=some ⟨.type "tuple",none,.seq #[(.str "always" Jm),(.str "where" Jn),(.str "usually" Jo),(.str "not" Jp),(.str "and" Jq),(.str "or" Jr)] LD,LJ⟩)
  (xm:nsIn K mainGlobals "MOST_LETTERS"=some (some (.int 12 Js)))
  (Gi:nsIn K mainGlobals "JOINTS"=some (some (.ref Gj)))
  (Gk:K.lookup Gj=some ⟨.type "tuple",none,.seq #[(.str "not" Q6),(.str "and" Q7),(.str "or" Q8)] Wq,Wr⟩)
  (D5:nsIn K mainGlobals "TIGHTER"=some (some (.ref xq)))
  (D6:K.lookup xq=some ⟨.type "dict",none,.dict #[⟨PyData.keyHash w.params "and",.str "and" zg,(.ref ub)⟩,⟨PyData.keyHash w.params "or",.str "or" zj,(.ref ud)⟩,⟨PyData.keyHash w.params ")",.str ")" zk,(.ref uf)⟩] TH,#[]⟩)
  (A8:K.lookup ub=some ⟨.type "tuple",none,.seq #[(.str "not" Li),(.str "and" Lj)] Qy,Qz⟩)
  (A9:K.lookup ud=some ⟨.type "tuple",none,.seq #[(.str "not" Lk),(.str "and" Ln),(.str "or" Lp)] QA,QB⟩)
  (A_:K.lookup uf=some ⟨.type "tuple",none,.seq #[(.str "not" Lq),(.str "and" Lr),(.str "or" Ls)] QC,QD⟩)
  (D7:(xq == sysModules)=false)
  (n0:nsIn K mainGlobals "WontError"=some (some (.ref c0)))
  (n1:nsIn K mainGlobals "RowError"=some (some (.ref c1)))
  (n2:nsIn K mainGlobals "NoRow"=some (some (.ref c2)))
  (n3:nsIn K mainGlobals "TooLong"=some (some (.ref c3)))
  (n4:nsIn K mainGlobals "NoSentence"=some (some (.ref c4)))
  (n5:nsIn K mainGlobals "Twice"=some (some (.ref c5)))
  (n6:nsIn K mainGlobals "TooMany"=some (some (.ref c6)))
  (n7:nsIn K mainGlobals "NoAsk"=some (some (.ref c7)))
  (n8:nsIn K mainGlobals "NoName"=some (some (.ref c8)))
  (n9:nsIn K mainGlobals "NotTold"=some (some (.ref c9)))
  (n10:nsIn K mainGlobals "Torn"=some (some (.ref dZ)))
  (Qq:nsIn K mainGlobals "NoNews"=some (some (.ref d7)))
  (a0:nsIn K mainGlobals "read_sentence"=some (some (.ref f0)))
  (l0:K.lookup f0=some ⟨oc0,od0,.func (fnOf "read_sentence" "read_sentence" (cH (top 21)) (bG (top 21)) (aw (top 21)) (.ref dT0) kV0 dc0 pm0 an0 cd0 ct0),sl0⟩)
  (QE:K.lookup dT0=some ⟨do0,dd0,.seq #[.int 0 dk0] dn0,ds0⟩)
  (c0_:codeIn K cd0 "read_sentence"=true)
  (k0:keepIn K (.ref f0)=true)
  (a1:FQ K "tokens_of" (top 22) f1)
  (a2:FQ K "piece_at" (top 23) f2)
  (a3:FQ K "word_end" (top 24) f3)
  (a4:FQ K "is_name" (top 25) f4)
  (a5:FQ K "put_together" (top 26) f5)
  (a6:FQ K "ended" (top 27) f6)
  (a7:FQ K "_law_draws" (top 29) f7)
  (a8:FQ K "_law_cell_at" (top 30) f8)
  (a9:FQ K "_law_fresh" (top 31) f9)
  (a10:FQ K "_law_names" (top 32) lZ)
  (a11:FQ K "_law_good" (top 33) f11)
  (a12:FQ K "_law_spoiled" (top 34) me)
  (a13:FQ K "_law_long" (top 35) mh)
  (a14:FQ K "_law_tokens" (top 36) jF)
  (a15:FQ K "_law_blanks" (top 37) mj)
  (a16:FQ K "_law_flat" (top 38) kL)
  (a17:FQ K "_law_word" (top 39) ml)
  (a18:FQ K "_law_read" (top 40) mw)
  (a19:FQ K "_law_same" (top 41) kM)
  (a20:FQ K "_law_kinds" (top 42) jG)
  (a21:FQ K "_law_due_kinds" (top 43) kN)
  (a22:FQ K "_law_asked" (top 44) mx)
  (a23:FQ K "_law_whole" (top 45) kO)
  (a24:FQ K "_law_made" (top 46) my)
  (a25:FQ K "_law_right" (top 47) mz)
  (a26:FQ K "law" (top 48) jH)
  (aI:PySem.W.findIn K (.ref c1) "__init__"=some (some (.ref fI)))
  (lI:K.lookup fI=some ⟨ocI,odI,.func (fnOf "__init__" "RowError.__init__" (cH (inner 2 0)) (bG (inner 2 0)) (aw (inner 2 0)) .none kVI dcI pmI anI cdI ctI),slI⟩)
  (cI_:codeIn K cdI "RowError.__init__"=true)
  (kI:keepIn K (.ref fI)=true)
  (nI_:isFn K (.ref fI)=true)
  (iH:PySem.W.specialIn K (.builtin "object.__class__") "__get__"=some (some (.builtin "getset_descriptor.__get__")))
  (iT:PySem.W.takesIn K (.builtin "object.__class__")=some true)
  (d8:XQ K fI c1)
  (eU:XQ K fI c2)
  (d9:XQ K fI c3)
  (d_:XQ K fI c4)
  (eV:XQ K fI c5)
  (eW:XQ K fI c6)
  (TJ:PySem.W.mroIn K c1 (.ref c9)=some false)
  (TK:PySem.W.mroIn K c2 (.ref c9)=some false)
  (TN:PySem.W.mroIn K c3 (.ref c9)=some false)
  (TQ:PySem.W.mroIn K c4 (.ref c9)=some false)
  (TR:PySem.W.mroIn K c5 (.ref c9)=some false)
  (TU:PySem.W.mroIn K c6 (.ref c9)=some false)
  (QF:PySem.W.mroIn K c1 (.ref dZ)=some false)
  (QG:PySem.W.mroIn K c2 (.ref dZ)=some false)
  (QH:PySem.W.mroIn K c3 (.ref dZ)=some false)
  (QI:PySem.W.mroIn K c4 (.ref dZ)=some false)
  (QJ:PySem.W.mroIn K c5 (.ref dZ)=some false)
  (QK:PySem.W.mroIn K c6 (.ref dZ)=some false)
  (QL:PySem.W.mroIn K c1 (.ref d7)=some false)
  (QM:PySem.W.mroIn K c2 (.ref d7)=some false)
  (QN:PySem.W.mroIn K c3 (.ref d7)=some false)
  (QO:PySem.W.mroIn K c4 (.ref d7)=some false)
  (QP:PySem.W.mroIn K c5 (.ref d7)=some false)
  (QR:PySem.W.mroIn K c6 (.ref d7)=some false)
  (TV:PySem.W.mroIn K c1 (.ref c7)=some false)
  (TX:PySem.W.mroIn K c2 (.ref c7)=some false)
  (TY:PySem.W.mroIn K c3 (.ref c7)=some false)
  (T1:PySem.W.mroIn K c4 (.ref c7)=some false)
  (T2:PySem.W.mroIn K c5 (.ref c7)=some false)
  (T3:PySem.W.mroIn K c6 (.ref c7)=some false)
  (T4:PySem.W.mroIn K c1 (.ref c8)=some false)
  (T5:PySem.W.mroIn K c2 (.ref c8)=some false)
  (T6:PySem.W.mroIn K c3 (.ref c8)=some false)
  (T7:PySem.W.mroIn K c4 (.ref c8)=some false)
  (T8:PySem.W.mroIn K c5 (.ref c8)=some false)
  (T9:PySem.W.mroIn K c6 (.ref c8)=some false)
  (T_:PySem.W.mroIn K c1 (.ref c6)=some false)
  (Ua:PySem.W.mroIn K c2 (.ref c6)=some false)
  (Ub:PySem.W.mroIn K c3 (.ref c6)=some false)
  (Uc:PySem.W.mroIn K c4 (.ref c6)=some false)
  (Ud:PySem.W.mroIn K c5 (.ref c6)=some false)
  (Ue:PySem.W.mroIn K c6 (.ref c6)=some true)
  (Ug:PySem.W.mroIn K c1 (.ref c1)=some true)
  (Uh:PySem.W.mroIn K c2 (.ref c1)=some true)
  (Jt:PySem.W.mroIn K c3 (.ref c1)=some true)
  (Ju:PySem.W.mroIn K c4 (.ref c1)=some true)
  (Ui:PySem.W.mroIn K c5 (.ref c1)=some true)
  (Uj:PySem.W.mroIn K c6 (.ref c1)=some true)
  (Uk:PySem.W.mroIn K c1 (.ref c0)=some true)
  (Ul:PySem.W.mroIn K c2 (.ref c0)=some true)
  (Um:PySem.W.mroIn K c3 (.ref c0)=some true)
  (Uo:PySem.W.mroIn K c4 (.ref c0)=some true)
  (Up:PySem.W.mroIn K c5 (.ref c0)=some true)
  (Uq:PySem.W.mroIn K c6 (.ref c0)=some true)
  (Ur:PySem.W.mroIn K c1 (.ref c2)=some false)
  (Us:PySem.W.mroIn K c2 (.ref c2)=some true)
  (Ut:PySem.W.mroIn K c3 (.ref c2)=some false)
  (Uu:PySem.W.mroIn K c4 (.ref c2)=some false)
  (Uv:PySem.W.mroIn K c5 (.ref c2)=some false)
  (Uw:PySem.W.mroIn K c6 (.ref c2)=some false)
  (Ux:PySem.W.mroIn K c1 (.ref c3)=some false)
  (Uy:PySem.W.mroIn K c2 (.ref c3)=some false)
  (Uz:PySem.W.mroIn K c3 (.ref c3)=some true)
  (UA:PySem.W.mroIn K c4 (.ref c3)=some false)
  (UB:PySem.W.mroIn K c5 (.ref c3)=some false)
  (UC:PySem.W.mroIn K c6 (.ref c3)=some false)
  (UD:PySem.W.mroIn K c1 (.ref c4)=some false)
  (UE:PySem.W.mroIn K c2 (.ref c4)=some false)
  (UG:PySem.W.mroIn K c3 (.ref c4)=some false)
  (UH:PySem.W.mroIn K c4 (.ref c4)=some true)
  (UI:PySem.W.mroIn K c5 (.ref c4)=some false)
  (UJ:PySem.W.mroIn K c6 (.ref c4)=some false)
  (UK:PySem.W.mroIn K c1 (.ref c5)=some false)
  (UL:PySem.W.mroIn K c2 (.ref c5)=some false)
  (UM:PySem.W.mroIn K c3 (.ref c5)=some false)
  (UN:PySem.W.mroIn K c4 (.ref c5)=some false)
  (UO:PySem.W.mroIn K c5 (.ref c5)=some true)
  (UQ:PySem.W.mroIn K c6 (.ref c5)=some false)
  (CA:PySem.W.mroIn K c7 (.ref c7)=some true)
  (CB:typeIn K (.ref c7)=some (.type "type"))
  (CD:PySem.W.mroIn K c8 (.ref c8)=some true)
  (CF:typeIn K (.ref c8)=some (.type "type"))
  (yn:PySem.W.mroIn K d7 (.ref d7)=some true)
  (yo:typeIn K (.ref d7)=some (.type "type"))
  (CG:PySem.W.mroIn K c9 (.ref c9)=some true)
  (CH:typeIn K (.ref c9)=some (.type "type"))
  (yq:PySem.W.mroIn K dZ (.ref dZ)=some true)
  (yr:typeIn K (.ref dZ)=some (.type "type"))
  (CI:PySem.W.mroIn K c0 (.ref c0)=some true)
  (CJ:typeIn K (.ref c0)=some (.type "type"))
  (yt:PySem.W.mroIn K c1 (.type "ValueError")=some true)
  (yu:PySem.W.mroIn K c2 (.type "ValueError")=some true)
  (yw:PySem.W.mroIn K c3 (.type "ValueError")=some true)
  (yx:PySem.W.mroIn K c4 (.type "ValueError")=some true)
  (yy:PySem.W.mroIn K c5 (.type "ValueError")=some true)
  (yz:PySem.W.mroIn K c6 (.type "ValueError")=some true)
  (Ba:nsIn K mainGlobals "ValueError"=some none)
  (QS:nsIn K mainGlobals "bool"=some none)
  (UR:nsIn K mainGlobals "int"=some none)
  (Bb:nsIn K mainGlobals "isinstance"=some none)
  (UT:nsIn K mainGlobals "len"=some none)
  (QT:nsIn K mainGlobals "list"=some none)
  (Lv:nsIn K mainGlobals "range"=some none)
  (D8:nsIn K mainGlobals "reversed"=some none)
  (UU:nsIn K mainGlobals "str"=some none)
  (Lw:nsIn K mainGlobals "tuple"=some none)
  :∃fd:FuncData,(∀(s:Shared) (v:Value),BindsTo s fd ⟨[v],[]⟩ [("script",v)])/\∀base:Heap,K.In base->base.Ns mainGlobals mg->aH l.prog w K mg base aY 52 fa fd ["script"] (@aN R0.nil K (Z.au sb P 50) 26):=by
 letI:R0:=R0.nil;have e:=hfa.symm.trans (mg_of X G a26.1);cases e;have F0:=Km (st:=(top 21)) l0 c0_ k0;have B0:Binds K _ ["text","row"] []:=F0.binds QE λ_ _ _ _ _ _ us hl=>IG (show us.length=2 by simpa using hl) λ_ _=>⟨_,rfl,rfl⟩
 have D0:Binds K _ ["text","row"] [.int 0 dk0]:=F0.binds QE λ_ _ _ _ _ _ us hl=>N2 (show us.length=1 by simpa using hl) λ_=>⟨_,rfl,rfl⟩
 obtain ⟨e1,F1⟩:=m4 X G a1 "text" rfl;obtain ⟨e2,F2⟩:=vn X G a2 "text" "place" rfl;obtain ⟨e3,F3⟩:=vn X G a3 "text" "place" rfl;obtain ⟨e4,F4⟩:=m4 X G a4 "word" rfl;obtain ⟨e5,F5⟩:=m4 X G a5 "tokens" rfl;obtain ⟨e6,F6⟩:=Oo X G a6 "begun" "whole" "joints" rfl;obtain ⟨e7,F7⟩:=vn X G a7 "cell" "count" rfl;obtain ⟨e8,F8⟩:=vn X G a8 "script" "k" rfl;obtain ⟨e9,F9⟩:=vn X G a9 "number" "size" rfl;obtain ⟨e10,F10⟩:=vn X G a10 "cell" "size" rfl;obtain ⟨qH,F11⟩:=vn X G a11 "drawn" "names" rfl;obtain ⟨lT,F12⟩:=vn X G a12 "text" "drawn" rfl;obtain ⟨qI,F13⟩:=vn X G a13 "text" "drawn" rfl;obtain ⟨qJ,F14⟩:=m4 X G a14 "text" rfl;obtain ⟨lY,F15⟩:=m4 X G a15 "tokens" rfl;obtain ⟨qK,F16⟩:=m4 X G a16 "items" rfl;obtain ⟨qL,F17⟩:=m4 X G a17 "text" rfl;obtain ⟨qM,F18⟩:=m4 X G a18 "text" rfl;obtain ⟨qN,F19⟩:=vn X G a19 "found" "due" rfl;obtain ⟨kJ,F20⟩:=m4 X G a20 "e" rfl;obtain ⟨lV,F21⟩:=m4 X G a21 "kind" rfl;obtain ⟨lW,F22⟩:=Oo X G a22 "text" "how" "place" rfl;obtain ⟨lX,F23⟩:=m4 X G a23 "found" rfl;obtain ⟨qO,F24⟩:=m4 X G a24 "place" rfl;obtain ⟨qP,F25⟩:=Oo X G a25 "text" "how" "place" rfl;obtain ⟨kH,F26⟩:=m4 X G a26 "script" rfl;have FI:=EG (st:=(inner 2 0)) lI cI_ kI;have BI:=FI.binds (ps:=["self","row"]) λ_ _ _ _ _ _ us hl=>IG hl λ_ _=>rfl;refine ⟨kH,λs v=>RZ F26 rfl,λbase _ _=>?_⟩;exact (fns (Pr:=l.prog) (w:=w) (base:=base) ⟨⟨_,F0⟩,B0,⟨_,D0,xS⟩,mg_of X G a0,k0,F1,F2,F3,F4,F5,F6,F7,F8,F9,F10,F11,F12,F13,F14,F15,F16,F17,F18,F19,F20,F21,F22,F23,F24,F25,F26,n0,mg_of X G n0,n1,mg_of X G n1,n2,mg_of X G n2,n3,mg_of X G n3,n4,mg_of X G n4,n5,mg_of X G n5,n6,mg_of X G n6,n7,mg_of X G n7,n8,mg_of X G n8,n9,mg_of X G n9,n10,mg_of X G n10,Qq,mg_of X G Qq,FI,BI,nI_,d8,eU,d9,d_,eV,eW,(aL n1 d8.e (aX TJ CG CH) (aL n2 eU.e (aX TK CG CH) (aL n3 d9.e (aX TN CG CH) (aL n4 d_.e (aX TQ CG CH) (aL n5 eV.e (aX TR CG CH) (aL n6 eW.e (aX TU CG CH) (cI iH iT))))))),(aL n1 d8.e (aX QF yq yr) (aL n2 eU.e (aX QG yq yr) (aL n3 d9.e (aX QH yq yr) (aL n4 d_.e (aX QI yq yr) (aL n5 eV.e (aX QJ yq yr) (aL n6 eW.e (aX QK yq yr) (cI iH iT))))))),(aL n1 d8.e (aX QL yn yo) (aL n2 eU.e (aX QM yn yo) (aL n3 d9.e (aX QN yn yo) (aL n4 d_.e (aX QO yn yo) (aL n5 eV.e (aX QP yn yo) (aL n6 eW.e (aX QR yn yo) (cI iH iT))))))),(aL n1 d8.e (aX TV CA CB) (aL n2 eU.e (aX TX CA CB) (aL n3 d9.e (aX TY CA CB) (aL n4 d_.e (aX T1 CA CB) (aL n5 eV.e (aX T2 CA CB) (aL n6 eW.e (aX T3 CA CB) (cI iH iT))))))),(aL n1 d8.e (aX T4 CD CF) (aL n2 eU.e (aX T5 CD CF) (aL n3 d9.e (aX T6 CD CF) (aL n4 d_.e (aX T7 CD CF) (aL n5 eV.e (aX T8 CD CF) (aL n6 eW.e (aX T9 CD CF) (cI iH iT))))))),(bZ n6 eW.e (eW.o Ue) (aL n1 d8.e (eW.o T_) (aL n2 eU.e (eW.o Ua) (aL n3 d9.e (eW.o Ub) (aL n4 d_.e (eW.o Uc) (aL n5 eV.e (eW.o Ud) (cI iH iT))))))),(bZ n1 d8.e (d8.o Ug) (bZ n2 eU.e (d8.o Uh) (bZ n3 d9.e (d8.o Jt) (bZ n4 d_.e (d8.o Ju) (bZ n5 eV.e (d8.o Ui) (bZ n6 eW.e (d8.o Uj) (cI iH iT))))))),(bZ n1 d8.e (aX Uk CI CJ) (bZ n2 eU.e (aX Ul CI CJ) (bZ n3 d9.e (aX Um CI CJ) (bZ n4 d_.e (aX Uo CI CJ) (bZ n5 eV.e (aX Up CI CJ) (bZ n6 eW.e (aX Uq CI CJ) (cI iH iT))))))),(bZ n2 eU.e (eU.o Us) (aL n1 d8.e (eU.o Ur) (aL n3 d9.e (eU.o Ut) (aL n4 d_.e (eU.o Uu) (aL n5 eV.e (eU.o Uv) (aL n6 eW.e (eU.o Uw) (cI iH iT))))))),(bZ n3 d9.e (d9.o Uz) (aL n1 d8.e (d9.o Ux) (aL n2 eU.e (d9.o Uy) (aL n4 d_.e (d9.o UA) (aL n5 eV.e (d9.o UB) (aL n6 eW.e (d9.o UC) (cI iH iT))))))),(bZ n4 d_.e (d_.o UH) (aL n1 d8.e (d_.o UD) (aL n2 eU.e (d_.o UE) (aL n3 d9.e (d_.o UG) (aL n5 eV.e (d_.o UI) (aL n6 eW.e (d_.o UJ) (cI iH iT))))))),(bZ n5 eV.e (eV.o UO) (aL n1 d8.e (eV.o UK) (aL n2 eU.e (eV.o UL) (aL n3 d9.e (eV.o UM) (aL n4 d_.e (eV.o UN) (aL n6 eW.e (eV.o UQ) (cI iH iT))))))),(bZ n1 d8.e (mY (by decide+kernel) yt) (bZ n2 eU.e (mY (by decide+kernel) yu) (bZ n3 d9.e (mY (by decide+kernel) yw) (bZ n4 d_.e (mY (by decide+kernel) yx) (bZ n5 eV.e (mY (by decide+kernel) yy) (bZ n6 eW.e (mY (by decide+kernel) yz) (cI iH iT))))))),(gM n1 d8.w (gM n2 eU.w (gM n3 d9.w (gM n4 d_.w (gM n5 eV.w (gM n6 eW.w Hn)))))),(wH n3 (d8.c Jt) (wH n4 (d8.c Ju) Fi)),(F0.Ob QE λ_ _ _ _ _ _ _ _=>⟨_,rfl,rfl⟩),mg_none_of X G Ba,mg_none_of X G QS,mg_none_of X G UR,mg_none_of X G Bb,mg_none_of X G UT,mg_none_of X G QT,mg_none_of X G Lv,mg_none_of X G D8,mg_none_of X G UU,mg_none_of X G Lw,⟨_,mg_of X G y_,xS⟩,⟨_,mg_of X G Gf,(jR Gh (le_of_ble_eq_true rfl) (.cons bB (.cons bB (.cons bB (.cons bB (.cons bB .nil))))))⟩,⟨_,mg_of X G D4,bB⟩,⟨_,mg_of X G za,(jR zf (le_of_ble_eq_true rfl) (.cons bB (.cons bB (.cons bB (.cons bB (.cons bB (.cons bB .nil)))))))⟩,⟨_,mg_of X G xm,xS⟩,⟨_,mg_of X G Gi,(jR Gk (le_of_ble_eq_true rfl) (.cons bB (.cons bB (.cons bB .nil))))⟩,⟨_,mg_of X G D5,N4 [("and",zg,(.ref ub)),("or",zj,(.ref ud)),(")",zk,(.ref uf))] D6 rfl D7 (show ([Str.ofString "and",Str.ofString "or",Str.ofString ")"]:List Str).Nodup by decide+kernel) (show ([Str.ofString "and",Str.ofString "or",Str.ofString ")"]:List Str)=(bK.map (λp=>(⟨p.1.toArray⟩:Str))) by decide+kernel) (.cons (jR A8 (le_of_ble_eq_true rfl) (.cons bB (.cons bB .nil))) (.cons (jR A9 (le_of_ble_eq_true rfl) (.cons bB (.cons bB (.cons bB .nil)))) (.cons (jR A_ (le_of_ble_eq_true rfl) (.cons bB (.cons bB (.cons bB .nil)))) .nil)))⟩⟩ 50 R0.nil).jH
end dq
open PySem PySem.W PyProof.Rows
set_option maxRecDepth 100000 in
set_option maxHeartbeats 0 in
theorem PySem.Challenge.cw_wontbook_k02_read_by_hand_holds : PySem.Challenge.rw_wontbook_k02_read_by_hand.Holds := by
 w_on
 refine holds_law dq.ws λsaid=>?_;refine ZH.LN (q:=dq.QV) (loose:=[PySem.Str.ofString "TIGHTER",PySem.Str.ofString "read_sentence"]) (N:=7470) (K:=dq.dm.heap_1) (as:=dq.AL) (λ_=>by kernel_rfl) (byRow2 "special-get-raises" dq.Yp dq.got) rfl rfl (λ_=>rfl) (by rfl) (by rfl) (by rfl) (by rfl) (by assumption) (by decide+kernel) ⟨rfl,rfl,rfl,rfl,rfl,by decide+kernel⟩ (by w_witness2) ?_
 k_fill
 refine ZS.Oi (l:=PySem.Challenge.rw_wontbook_k02_read_by_hand) (kk:=52) (kd:=50) (i:=26) (sub:=dq.sb) (Pg:=dq.P) rfl rfl ⟨rfl,by decide,by decide⟩ (λw h Y=>kIn_of Y) (λns hl=>dq.Qh ns hl) ?F
 case F=>
  intro w mg fa h KX G hmg;refine' dq.all_mk KX G hmg ..
  all_goals try refine' ZS.RY _ _ _ _
  all_goals try refine' ZS.XQ.mk _ _ _ _ _ _ _ _ _ _ _ _ _
  all_goals try k_is
  all_goals first | rfl | kernel_rfl | decide+kernel
