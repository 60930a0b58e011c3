import PyProof.Rows.All
import Wide.All
import OpenK.AllK
import Wide.FinOn
import Lean
import PyProof.EqAt
import PyProof.EqKinds
import PyProof.TupleCall
import PyProof.ExcBaseAll.ValueError
import PyProof.ExcAttrAll.ValueError
import KE.KTryMore
import OpenK.KOwn
import PyProof.InstSpecial
import KE.KRevIter
import KE.KDictList
import PyProof.SetScanFacts
import PyProof.Rows.SetFrom
import KE.KRevIter
import PyProof.Rows.SortShell
import PyProof.CollectWalk
import PyProof.Rows.SortWalk
import PyProof.ExcInit
import PyProof.InstStoreFacts
import PyProof.StrWalks
import PyProof.EnumMake
import PyProof.StrBlock2
import PyProof.StrLawsTight
import PyProof.StrLawsChain
import PyProof.StrCalls2
import PyProof.Rows.StrCountLaw
import PyProof.AutoSeq1
import PyProof.ListStr
import PyProof.TupleOfSeq
import PyProof.Rows.DictTallyStr
import PyProof.Rows.SortWalk
import PySem.Challenge.RW_wontbook_k40_never_and_torn
set_option linter.all false
set_option maxRecDepth 100000
set_option maxHeartbeats 4000000
set_option bootstrap.genMatcherCode false
set_option genSizeOf false
set_option genInjectivity false
set_option Elab.async false
local macro_rules
  | `(abbrev $x:declId $s:optDeclSig $v:declVal) => `(noncomputable abbrev $x:declId $s:optDeclSig $v:declVal)
  | `(def $x:declId $s:optDeclSig $v:declVal) => `(noncomputable def $x:declId $s:optDeclSig $v:declVal)
local macro_rules
  | `(tactic| erw [$r,*] $[$l]?) => do
    let s ← r.getElems.mapM fun x => match x with
      | `(Lean.Parser.Tactic.rwRule| $t:term) => `(Lean.Parser.Tactic.simpLemma| $t:term)
      | _ => Lean.Macro.throwUnsupported
    `(tactic| simp only [$s,*] $[$l]?)
open PySem.W (Frag)
section
open PySem PySem.Spec PyProof.Rows
abbrev ZDbg (x : Str) : Prop := (x == ("__debug__" : Str)) = false
abbrev ZStE (v : Env) (e : Expr) (es : List Expr) : Prop := starEach (e :: es) v = (false, eval e v) :: starEach es v
abbrev ZBkT (v : Env) (es : List Expr) (p : Pos) : Prop := (backTo p (starEach es v)).any (·.1) = false
end
open PySem.W (callWith_K cellsFrom_some codeIn excIn exmOne fnOf kIn_of keepIn kia_one kia_tup kitAny kitCls kitOne kitx_list methodObj mg_none_of mg_of notCls nsIn typeIn)
open List (all_cons any_cons any_eq_true append_nil filterMap_cons filter_append filter_eq_self filter_map find?_cons flatten_cons foldl foldl_append foldl_cons forIn_cons forIn_nil getD_eq_getElem?_getD getElem?_append_left getElem?_append_right getElem?_eq_getElem getElem?_eq_none getElem?_map getElem?_range getElem?_replicate getElem?_set_ne getElem?_set_self getElem_mem length_append length_cons length_drop length_filter_le length_map length_nil length_range length_replicate length_set length_take lookup_cons map map_append map_cons map_id' map_map map_nil map_set mem_append mem_append_right mem_cons mem_cons_of_mem mem_cons_self mem_filter mem_map mem_of_getElem? mem_range mem_singleton nodup_cons not_mem_nil of_mem_zip prefix_append range_succ replicate replicate_succ set_append_right size_toArray take_add_one take_length toArray_inj)
open Option (bind_some getD_none isSome_iff_exists isSome_map map_some toList_some)
open PySem.F (args_tuple_add_2 called_zip entry_tuple_add entry_zip_new entry_zip_next newCall_zip_2 slot_tuple_add slot_tuple_iterator_next slot_zip_next typeCall_zip_2)
open Nat (add_comm ble le_of_lt le_refl le_trans lt_irrefl lt_of_lt_of_le ne_of_gt ne_of_lt pow_le_pow_right testBit_or zero_le zero_testBit)
open PySem.Heap (get?_push_of_some get?_push_size get?_update_other get?_update_self lt_size size_push)
open Bool (and_eq_true bne_false bne_true or_eq_true)
open Int (emod_lt_of_pos emod_nonneg eq_ofNat_of_zero_le natCast_nonneg toNat_natCast)
open Classical (choose_spec propDecidable)
namespace ZH
open PySem PySem.W PySem.Calls PyProof.Rows
def runG (thr : Thread → Bool) (ok : Thread → Bool) (stp : SharedT → Thread → Option (SharedT × Thread)) : Nat → SharedT → Thread → Option SharedT
  | 0, _, _ => none
  | n + 1, s, t => match thr t with
    | true => some s
    | false => match ok t with
      | false => none
      | true => match stp s t with
        | some (s', t') => runG thr ok stp n s' t'
        | none => none
theorem runG_of : ∀ {n : Nat} {s s' : SharedT} {t : Thread}, runG through (stepOk n₀ ann) (stepT (denote tb) p w) n s t = some s' → topRun tb p w n₀ ann n s.abs t = some s'.abs
  | 0, _, _, _, h => by cases h
  | n + 1, s, s', t, h => by
    unfold runG at h
    unfold topRun
    cases ht : through t with
    | true => rw [ht] at h; cases h; rfl
    | false =>
      rw [ht] at h
      cases hk : stepOk n₀ ann t with
      | false => rw [hk] at h; cases h
      | true =>
        rw [hk] at h
        cases hs : stepT (denote tb) p w s t with
        | none => rw [hs] at h; cases h
        | some r => obtain ⟨s₂, t₂⟩ := r; rw [hs] at h; rw [stepT_spec hs]; exact runG_of h
def treeOf : List Obj → Nat → BT → BT
  | [], _, t => t
  | o :: l, i, t => treeOf l (i + 1) (t.ins i o)
noncomputable def s0T (P : Params) (os : OsState) : SharedT := ⟨treeOf (boot_heap P).objs.toList 0 .nil, 11, (boot_heap P).life, #[], boot_drawn, boot_toks, os⟩
theorem s0_abs (P : Params) (os : OsState) : (s0T P os).abs = ⟨boot_heap P, #[], boot_drawn, boot_toks, os⟩ := by kernel_rfl
theorem sz0 (P : Params) : ((boot_heap P).isNs mainGlobals && (#[] : Array GenState).size == 0, (boot_heap P).objs.size, (boot_heap P).nsMap mainGlobals "__annotations__") = (true, 11, some (.ref 6)) := by kernel_rfl
noncomputable def ends (M : Nat) (p : Program) (stp : SharedT → Thread → Option (SharedT × Thread)) (ok : Thread → Bool) (P : Params) (os : OsState) : Option SharedT := runG through ok stp M (s0T P os) (topStub p)
theorem left_once {p q : Program} {loose : List Str} {Xt : Shared → Bool} {α : Type} {Yf : Shared → α} {Ya : World → α} {N : Nat} {g0 : Bool} (e : opening p = plainProg p.main.scope.names) (hN : ble 600 N = true) (f : ∀ s, fenceModules? p s = some s) (h : ∀ (w : World) (os : OsState), (ends N p (stepT (denote treeTable) p w) (stepOk 11 (some (.ref 6))) w.params os).bind (fun s =>
      match staticsOk (importedModules p.main.body) (boot_heap w.params) s.abs.heap && namesBound p s.abs.heap && gensDone s.abs && laidKept (boot_heap w.params) s.abs.heap with
      | true => some (openSeen q loose (importedModules p.main.body) Xt g0 s.abs, Yf s.abs)
      | false => none) = some (openGood q loose, Ya w)) : LeftO p q loose Xt Yf Ya N g0 := fun w => by
  obtain ⟨⟨hh, gs, d, k, os⟩, e1, e2⟩ := Option.map_eq_some_iff.mp (boot_open e hN f w)
  obtain ⟨rfl, rfl, rfl, rfl⟩ : hh = boot_heap w.params ∧ gs = #[] ∧ d = boot_drawn ∧ k = boot_toks := by simpa using e2
  obtain ⟨s, r1, r2⟩ := Option.bind_eq_some_iff.mp (h w os)
  have r := runG_of r1
  rw [s0_abs] at r
  obtain ⟨z1, z2, z3⟩ : _ ∧ _ ∧ _ := by simpa only [Prod.mk.injEq] using sz0 w.params
  unfold openEnds
  rw [e1]
  show (topFrom treeTable p w N _).map _ = _
  have t : topFrom treeTable p w N ⟨boot_heap w.params, #[], boot_drawn, boot_toks, os⟩ = some s.abs := by
    unfold topFrom
    dsimp only
    rw [z1, z2, z3, r]
    show (match staticsOk (importedModules p.main.body) (boot_heap w.params) s.abs.heap && namesBound p s.abs.heap && gensDone s.abs && laidKept (boot_heap w.params) s.abs.heap with | true => _ | false => _) = _
    revert r2
    split
    · intro _; rfl
    · intro x; cases x
  rw [t]
  revert r2
  split
  · intro r2; exact r2
  · intro x; cases x
abbrev GoQ (p q : Program) (loose : List Str) (R : WRecords) (N : Nat) (K : Params → Frag) (as : List Addr) (w : World) (os : OsState) : Prop :=
  ((ends N p (Fast.tw10156331382660048174 (Fast.tw11892475500146522536 Fast.tw14364793385576792824) p w) (Fast.tw6613529449190102663 11 (some (.ref 6))) w.params os).bind fun s =>
      match staticsOk (Fast.tw5923862056798008813 p.main.body) (boot_heap w.params) s.abs.heap && namesBound p s.abs.heap && gensDone s.abs && laidKept (boot_heap w.params) s.abs.heap with
      | true => some (Fast.tw4187177175401517315 q loose (Fast.tw5923862056798008813 p.main.body) (fun s => xlAt q [] s && recOk R s) true s.abs, as.map s.abs.heap.get?)
      | false => none) = some (openGood q loose, (K w.params).map fun p => some p.2)
theorem left_q {p q : Program} {loose : List Str} {R : WRecords} {N : Nat} {K : Params → Frag} {as : List Addr} (a : ∀ P, as = (K P).map (·.1)) (e : opening p = plainProg p.main.scope.names) (hN : ble 600 N = true) (f : ∀ s, fenceModules? p s = some s) (h : ∀ w os, GoQ p q loose R N K as w os) : LeftO p q loose (fun s => xlAt q [] s && recOk R s) (Hook.obs (kHook K as a)) (Hook.val (kHook K as a)) N true := by
  refine left_once e hN f ?_
  rw [Fast.te10156331382660048174, Fast.te11892475500146522536, Fast.te14364793385576792824, Fast.te6613529449190102663, Fast.te4187177175401517315, Fast.te5923862056798008813]
  exact h
theorem head_q {r : OpenRow} {q : Program} {loose : List Str} {d : DefRec} {kwd : List (Str × Expr)} {N : Nat} {K : Params → Frag} {as : List Addr} (a : ∀ P, as = (K P).map (·.1)) (h : ∀ w os, GoQ r.prog q loose r.records N K as w os) (e : opening r.prog = plainProg r.prog.main.scope.names) (hN : ble 600 N = true) (f : ∀ s, fenceModules? r.prog s = some s) (hdef : defOf q r.name = some (d, kwd)) (hp : r.prog.theDef r.name = some (d.params, d.body, d.scope)) (hk : kwWritten? d.params.kwonlyargs d.params.kw_defaults = some kwd) (hwr : (!r.writes || r.records.isEmpty) = true) (k1 : r.wellSaid = true) (ok : (chainsOk q && opensWell r.prog && (frees r.toRowW && r.within.isEmpty)) = true) (hb : r.prog.bare) (hw : r.toRowW.promised) (call : WalkO q loose (XL q []) (kHook K as a).says r.toRowW d kwd fun f vs => PySem.call f vs) : r.Holds :=
  holds_open (left_q a e hN f h) (Hook.of _) (Hook.keeps _) (fun s e => xl_of s (Bool.and_eq_true_iff.mp e).1) XL.keeps hdef hp hk (fun s e => recFacts_of (Bool.and_eq_true_iff.mp e).2) hwr k1 ok hb hw call
end ZH
section
open PySem PySem.W PyProof.Rows
def K40.QV : Program := view PySem.Challenge.pw_wontbook_k40_never_and_torn ((List.range 40).filter fun i => !([0, 13, 16, 22, 25, 27].contains i))
set_option Elab.async false
section
local macro_rules
  | `(tactic| o_head $H) => `(tactic| skip)
set_option maxRecDepth 100000 in
theorem K40.dm (h : (OpenLaw.row PySem.Challenge.rw_wontbook_k40_never_and_torn).Holds) : (OpenLaw.row PySem.Challenge.rw_wontbook_k40_never_and_torn).Holds := by
  k_head
  exact h
end
def K40.AL : List Nat := [2, 3, 15, 22, 23, 24, 25, 28, 35, 37, 38, 40, 41, 42, 43, 44, 47, 54, 55, 56, 59, 66, 67, 68, 71, 78, 79, 80, 83, 90, 91, 92, 95, 102, 103, 104, 107, 114, 115, 116, 119, 126, 127, 128, 131, 138, 139, 140, 143, 150, 151, 152, 155, 162, 163, 164, 167, 170, 171, 172, 174, 175, 177, 178, 179, 181, 182, 184, 185, 186, 189, 190, 191, 194, 195, 196, 199, 200, 201, 204, 205, 206, 209, 210, 211, 214, 215, 216, 218, 219, 221, 222, 223, 225, 226, 228, 229, 230, 232, 233, 235, 236, 237, 239, 240, 242, 243, 244, 247, 248, 249, 251, 252, 254, 255, 256, 258, 259, 261, 262, 263, 265, 266, 268, 269, 270, 273, 274, 275, 277, 278, 280, 281, 282, 284, 285, 287, 288, 289, 291, 292, 294, 295, 296, 298, 299, 301, 302]
set_option maxRecDepth 100000 in
theorem K40.go : ∀ (w : World) (os : OsState), ZH.GoQ (OpenLaw.row PySem.Challenge.rw_wontbook_k40_never_and_torn).prog K40.QV [] (OpenLaw.row PySem.Challenge.rw_wontbook_k40_never_and_torn).records 6850 K40.dm.heap_1 K40.AL w os := by
  intro w os
  kernel_rfl
set_option maxRecDepth 100000 in
theorem K40.ws : OpenLaw.wellSaid PySem.Challenge.rw_wontbook_k40_never_and_torn = true := (congrFun Fast.te9446332074065402090 _).trans (by kernel_rfl)
end
namespace Z
abbrev S := List Nat
inductive D where
  | non | bl (b : Bool) | int (i : Int) | str (s : S) | tup (xs : List D) | rol (xs : List D) | ref (n : Nat)
abbrev KK := Sum Int S
inductive AO where
  | lst (xs : List D) | dct (kvs : List (KK × D)) | obj (c : S) (fs : List (S × D)) | exc (c : S) | excR (c : S) (i : Int)
abbrev AH := List AO
abbrev Lo := List (Option D)
def lim : Nat := 16777216
def tx (s : String) : S := s.toList.map Char.toNat
def eqZ (f : D → D → Option Bool) : List D → List D → Option Bool
  | [], [] => some true
  | [], _ :: _ => some false
  | _ :: _, [] => some false
  | x :: xs, y :: ys => match f x y, eqZ f xs ys with
    | some a, some b => some (a && b)
    | _, _ => none
def eqN : Nat → D → D → Option Bool
  | _, .non, .non => some true
  | _, .non, .bl _ => some false
  | _, .non, .int _ => some false
  | _, .non, .str _ => some false
  | _, .bl _, .non => some false
  | _, .bl a, .bl b => some (a == b)
  | _, .bl _, .str _ => some false
  | _, .int _, .non => some false
  | _, .int a, .int b => some (a == b)
  | _, .int _, .str _ => some false
  | _, .str _, .non => some false
  | _, .str _, .bl _ => some false
  | _, .str _, .int _ => some false
  | _, .str a, .str b => some (a == b)
  | _ + 1, .non, .tup _ => some false
  | _ + 1, .bl _, .tup _ => some false
  | _ + 1, .int _, .tup _ => some false
  | _ + 1, .str _, .tup _ => some false
  | _ + 1, .tup _, .non => some false
  | _ + 1, .tup _, .bl _ => some false
  | _ + 1, .tup _, .int _ => some false
  | _ + 1, .tup _, .str _ => some false
  | n + 1, .tup xs, .tup ys => eqZ (eqN n) xs ys
  | _, _, _ => none
def eqD (x y : D) : Option Bool := eqN 150 x y
def seqOf (h : AH) : D → Option (List D)
  | .tup xs => some xs
  | .rol xs => some xs
  | .ref n => match h[n]? with
    | some (.lst xs) => some xs
    | _ => none
  | _ => none
def eqLs (xs ys : List D) : Option Bool := if xs.length = ys.length then eqZ (eqN 149) xs ys else some false
def eqH (h : AH) : D → D → Option Bool
  | .ref a, .ref b => match h[a]?, h[b]? with
    | some (.lst xs), some (.lst ys) => eqLs xs ys
    | _, _ => none
  | x, y => eqD x y
def inDs (x : D) : List D → Option Bool
  | [] => some false
  | y :: ys => match eqN 149 y x, inDs x ys with
    | some a, some b => some (a || b)
    | _, _ => none
def truthy (h : AH) : D → Option Bool
  | .non => some false
  | .bl b => some b
  | .int i => some (i != 0)
  | .str s => some (!s.isEmpty)
  | .tup xs => some (!xs.isEmpty)
  | .rol xs => some (!xs.isEmpty)
  | .ref n => match h[n]? with
    | some (.lst xs) => some (!xs.isEmpty)
    | some (.dct kvs) => some (!kvs.isEmpty)
    | _ => none
def ixN (n : Nat) (i : Int) : Option Nat := if 0 ≤ i then (if i < n then some i.toNat else none) else if -(n : Int) ≤ i then some (i + n).toNat else none
def atI {α : Type} (xs : List α) (i : Int) : Option α := (ixN xs.length i).bind fun j => xs[j]?
def sIx (n d : Nat) : Option Int → Nat
  | none => d
  | some v => (if v < 0 then max (v + n) 0 else min v n).toNat
def cut {α : Type} (xs : List α) (lo hi : Option Int) : List α := (xs.drop (sIx xs.length 0 lo)).take (sIx xs.length xs.length hi - sIx xs.length 0 lo)
def kkOf : D → Option KK
  | .int i => some (.inl i)
  | .str s => some (.inr s)
  | _ => none
def kkD : KK → D
  | .inl i => .int i
  | .inr s => .str s
def dGet (kvs : List (KK × D)) (k : KK) : Option D := (kvs.find? fun kv => decide (kv.1 = k)).map (·.2)
def dPut (kvs : List (KK × D)) (k : KK) (v : D) : List (KK × D) :=
  if kvs.any (fun kv => decide (kv.1 = k)) then kvs.map (fun kv => if kv.1 = k then (kv.1, v) else kv) else kvs ++ [(k, v)]
def strsOf : List D → Option (List S)
  | [] => some []
  | .str s :: r => (strsOf r).map (s :: ·)
  | _ => none
def intsOf : List D → Option (List Int)
  | [] => some []
  | .int s :: r => (intsOf r).map (s :: ·)
  | _ => none
def sLt : S → S → Bool
  | [], [] => false
  | [], _ :: _ => true
  | _ :: _, [] => false
  | x :: xs, y :: ys => if x = y then sLt xs ys else decide (x < y)
def insS (x : S) : List S → List S
  | [] => [x]
  | y :: ys => if sLt x y then x :: y :: ys else y :: insS x ys
def sortS (l : List S) : List S := l.foldl (fun acc x => insS x acc) []
def insI (x : Int) : List Int → List Int
  | [] => [x]
  | y :: ys => if x < y then x :: y :: ys else y :: insI x ys
def splitOn (c : Nat) : S → List S
  | [] => [[]]
  | x :: xs => if x = c then [] :: splitOn c xs else match splitOn c xs with
    | [] => [[x]]
    | w :: ws => (x :: w) :: ws
def joinS (sep : S) : List S → S
  | [] => []
  | [x] => x
  | x :: y :: r => x ++ sep ++ joinS sep (y :: r)
def lstrip (c : Nat) : S → S
  | [] => []
  | x :: xs => if x = c then lstrip c xs else x :: xs
def strip (c : Nat) (s : S) : S := (lstrip c (lstrip c s).reverse).reverse
inductive KN | int | bool | str | list | tuple | cls (c : Nat)
  deriving DecidableEq
inductive Prim
  | add | sub | mul | fdiv | mod | shl | shr | band | bor | inv | eq | ne | lt | gt | isN | notN | in_ | notin | mktup | mklst | idx | len | isi (k : KN) | list_ | tuple_ | append | bitlen | setx | max1 | lrng | isE (yes no : List S)
def okR (i : Int) : Bool := @decide (-4611686018427387904 ≤ i ∧ i < 4611686018427387904) (propDecidable _)
theorem okR_iff {i : Int} : okR i = true ↔ (-4611686018427387904 ≤ i ∧ i < 4611686018427387904) := @decide_eq_true_iff _ (propDecidable _)
def ok3 (a b c : Int) : Bool := @decide (-2147483648 ≤ a ∧ a < 2147483648 ∧ -2147483648 ≤ b ∧ b < 2147483648 ∧ 0 < c ∧ c < 1073741824) (propDecidable _)
def smallI (i : Int) : Bool := @decide (-18446744073709551616 < i ∧ i < 18446744073709551616) (propDecidable _)
theorem smallI_iff {i : Int} : smallI i = true ↔ (-18446744073709551616 < i ∧ i < 18446744073709551616) := @decide_eq_true_iff _ (propDecidable _)
def bigI (i : Int) : Bool := @decide (-2037035976334486086268445688409378161051468393665936250636140449354381299763336706183397376 < i ∧ i < 2037035976334486086268445688409378161051468393665936250636140449354381299763336706183397376) (propDecidable _)
theorem bigI_iff {i : Int} : bigI i = true ↔ (-2037035976334486086268445688409378161051468393665936250636140449354381299763336706183397376 < i ∧ i < 2037035976334486086268445688409378161051468393665936250636140449354381299763336706183397376) := @decide_eq_true_iff _ (propDecidable _)
def bNot (x : Int) : Int := -x - 1
def bAnd : Int → Int → Int
  | .ofNat a, .ofNat b => ((a &&& b : Nat) : Int)
  | .ofNat a, .negSucc b => ((a - (a &&& b) : Nat) : Int)
  | .negSucc a, .ofNat b => ((b - (b &&& a) : Nat) : Int)
  | .negSucc a, .negSucc b => .negSucc (a ||| b)
def bOr (x y : Int) : Int := bNot (bAnd (bNot x) (bNot y))
def bLen (i : Int) : Nat := if i = 0 then 0 else i.natAbs.log2 + 1
def pairsOf : List D → Option (List (Int × Int))
  | [] => some []
  | .tup [.int a, .int b] :: r => (pairsOf r).map ((a, b) :: ·)
  | _ => none
def pLt (x y : Int × Int) : Bool := decide (x.1 < y.1 ∨ (x.1 = y.1 ∧ x.2 < y.2))
def insP (x : Int × Int) : List (Int × Int) → List (Int × Int)
  | [] => [x]
  | y :: ys => if pLt x y then x :: y :: ys else y :: insP x ys
def sortP (l : List (Int × Int)) : List (Int × Int) := l.foldl (fun acc x => insP x acc) []
def minL : List Int → Option Int
  | [] => none
  | x :: r => some (r.foldl (fun a b => if b < a then b else a) x)
def maxL : List Int → Option Int
  | [] => none
  | x :: r => some (r.foldl (fun a b => if b > a then b else a) x)
def isSub (x : S) : S → Bool
  | [] => x.isEmpty
  | c :: r => x.isPrefixOf (c :: r) || isSub x r
def fcatS : List D → Option S
  | [] => some []
  | .str s :: r => (fcatS r).map (s ++ ·)
  | _ => none
def newL (xs : List D) (h : AH) : Option (D × AH) := if xs.length ≤ lim then some (.ref h.length, h ++ [.lst xs]) else none
def setL (n : Nat) (xs : List D) (v : D) (h : AH) : Option (D × AH) := if xs.length ≤ lim then some (v, h.set n (.lst xs)) else none
def tyN (h : AH) : D → Option Nat
  | .non => some 0
  | .bl _ => some 1
  | .int _ => some 2
  | .str _ => some 3
  | .tup _ => some 4
  | .rol _ => some 5
  | .ref n => match h[n]? with
    | some (.lst _) => some 5
    | some (.dct _) => some 6
    | _ => none
def knB : KN → Nat → Bool
  | .int, t => t == 2 || t == 1
  | .bool, t => t == 1
  | .str, t => t == 3
  | .tuple, t => t == 4
  | .list, t => t == 5
  | .cls _, _ => false
def isiB (h : AH) (_ : Nat → Nat → Bool) (k : KN) (d : D) : Option Bool := (tyN h d).map (knB k)
def pAdd : List D → AH → Option (D × AH)
  | [.int i, .int j], h => some (.int (i + j), h)
  | [.str i, .str j], h => if i.length + j.length ≤ lim then some (.str (i ++ j), h) else none
  | [.tup i, .tup j], h => if i.isEmpty then some (.tup j, h) else if i.length + j.length ≤ lim then some (.tup (i ++ j), h) else none
  | [.ref a, .ref b], h => match h[a]?, h[b]? with
    | some (.lst xs), some (.lst ys) => newL (xs ++ ys) h
    | _, _ => none
  | [.ref a, .rol ys], h => match h[a]? with
    | some (.lst xs) => newL (xs ++ ys) h
    | _ => none
  | _, _ => none
def pInt2 (f : Int → Int → Int) : List D → AH → Option (D × AH)
  | [.int i, .int j], h => some (.int (f i j), h)
  | _, _ => none
def pMul : List D → AH → Option (D × AH)
  | [.int i, .int j], h => if smallI i || smallI j || (bigI i && bigI j) then some (.int (i * j), h) else none
  | [.ref a, .int k], h => match h[a]? with
    | some (.lst xs) => if okR k then newL (replicate k.toNat xs).flatten h else none
    | _ => none
  | _, _ => none
def pFdiv : List D → AH → Option (D × AH)
  | [.int i, .int j], h => if 0 < j ∧ bigI j = true then some (.int (i / j), h) else none
  | _, _ => none
def pMod : List D → AH → Option (D × AH)
  | [.int i, .int j], h => if 0 < j then some (.int (i % j), h) else none
  | _, _ => none
def pPow : List D → AH → Option (D × AH)
  | [.int i, .int j], h => if 0 ≤ j ∧ j ≤ 1000000 ∧ i.natAbs < 18446744073709551616 then some (.int (i ^ j.toNat), h) else none
  | _, _ => none
def pNeg : List D → AH → Option (D × AH)
  | [.int i], h => some (.int (-i), h)
  | _, _ => none
def pEq (n : Bool) : List D → AH → Option (D × AH)
  | [x, y], h => (eqH h x y).map fun b => (.bl (b != n), h)
  | _, _ => none
def pCmp (f : Int → Int → Bool) : List D → AH → Option (D × AH)
  | [.int i, .int j], h => some (.bl (f i j), h)
  | _, _ => none
def pIsN (n : Bool) : List D → AH → Option (D × AH)
  | [.non], h => some (.bl (!n), h)
  | [_], h => some (.bl n, h)
  | _, _ => none
def pIn (n : Bool) : List D → AH → Option (D × AH)
  | [x, .tup ys], h => (inDs x ys).map fun b => (.bl (b != n), h)
  | [x, .rol ys], h => (inDs x ys).map fun b => (.bl (b != n), h)
  | [x, .ref a], h => match h[a]? with
    | some (.lst ys) => (inDs x ys).map fun b => (.bl (b != n), h)
    | some (.dct kvs) => (kkOf x).map fun k => (.bl ((dGet kvs k).isSome != n), h)
    | _ => none
  | _, _ => none
def pMkt (xs : List D) (h : AH) : Option (D × AH) := if xs.length ≤ lim then some (.tup xs, h) else none
def pMkd : List D → AH → Option (D × AH)
  | [], h => some (.ref h.length, h ++ [.dct []])
  | _, _ => none
def pIdx : List D → AH → Option (D × AH)
  | [.str s, .int i], h => (atI s i).map fun c => (.str [c], h)
  | [.tup xs, .int i], h => (atI xs i).map fun v => (v, h)
  | [.rol xs, .int i], h => (atI xs i).map fun v => (v, h)
  | [.ref n, k], h => match h[n]? with
    | some (.dct kvs) => (kkOf k).bind fun q => (dGet kvs q).map fun v => (v, h)
    | some (.lst xs) => match k with
      | .int i => (atI xs i).map fun v => (v, h)
      | _ => none
    | _ => none
  | _, _ => none
def pSlice (x : D) (lo hi : Option Int) (h : AH) : Option (D × AH) := match x with
  | .str s => some (.str (cut s lo hi), h)
  | .tup xs => if sIx xs.length 0 lo = 0 ∧ sIx xs.length xs.length hi = xs.length then none else some (.tup (cut xs lo hi), h)
  | .rol xs => newL (cut xs lo hi) h
  | .ref n => match h[n]? with
    | some (.lst xs) => newL (cut xs lo hi) h
    | _ => none
  | _ => none
def pSl00 : List D → AH → Option (D × AH)
  | [x], h => pSlice x none none h
  | _, _ => none
def pSlL : List D → AH → Option (D × AH)
  | [x, .int i], h => pSlice x (some i) none h
  | _, _ => none
def pSlH : List D → AH → Option (D × AH)
  | [x, .int i], h => pSlice x none (some i) h
  | _, _ => none
def pSlLH : List D → AH → Option (D × AH)
  | [x, .int i, .int j], h => pSlice x (some i) (some j) h
  | _, _ => none
def pLen : List D → AH → Option (D × AH)
  | [.str s], h => some (.int s.length, h)
  | [.tup s], h => some (.int s.length, h)
  | [.rol s], h => some (.int s.length, h)
  | [.ref n], h => match h[n]? with
    | some (.lst xs) => some (.int xs.length, h)
    | some (.dct xs) => some (.int xs.length, h)
    | _ => none
  | _, _ => none
def pIsi (sub : Nat → Nat → Bool) (k : KN) : List D → AH → Option (D × AH)
  | [x], h => (isiB h sub k x).map fun b => (.bl b, h)
  | _, _ => none
def pList : List D → AH → Option (D × AH)
  | [x], h => (seqOf h x).bind fun xs => newL xs h
  | _, _ => none
def pTuple : List D → AH → Option (D × AH)
  | [x], h => (seqOf h x).map fun xs => (.tup xs, h)
  | _, _ => none
def pSorted : List D → AH → Option (D × AH)
  | [.tup xs], h => (strsOf xs).bind fun ss => if ss.length < 64 then newL ((sortS ss).map .str) h else none
  | [.ref n], h => match h[n]? with
    | some (.lst xs) => (strsOf xs).bind fun ss => if ss.length < 64 then newL ((sortS ss).map .str) h else none
    | some (.dct kvs) => (strsOf (kvs.map fun kv => kkD kv.1)).bind fun ss => if ss.length < 64 then newL ((sortS ss).map .str) h else none
    | _ => none
  | _, _ => none
def pSortedP : List D → AH → Option (D × AH)
  | [.ref n], h => match h[n]? with
    | some (.lst xs) => (pairsOf xs).bind fun ps => if ps.length < 65 then newL ((sortP ps).map fun p => .tup [.int p.1, .int p.2]) h else none
    | _ => none
  | _, _ => none
def pNot1 : List D → AH → Option (D × AH)
  | [.bl b], h => some (.bl (!b), h)
  | _, _ => none
def pShl : List D → AH → Option (D × AH)
  | [.int i, .int j], h => if 0 ≤ j ∧ j ≤ 1000000 ∧ i.natAbs < 18446744073709551616 then some (.int (i * 2 ^ j.toNat), h) else none
  | _, _ => none
def pShr : List D → AH → Option (D × AH)
  | [.int i, .int j], h => if 0 ≤ j then some (.int (i / 2 ^ j.toNat), h) else none
  | _, _ => none
def pInv : List D → AH → Option (D × AH)
  | [.int i], h => some (.int (bNot i), h)
  | _, _ => none
def pBitlen : List D → AH → Option (D × AH)
  | [.int i], h => some (.int (bLen i), h)
  | _, _ => none
def pSum1 : List D → AH → Option (D × AH)
  | [.ref n], h => match h[n]? with
    | some (.lst xs) => (intsOf xs).map fun is => (.int is.sum, h)
    | _ => none
  | _, _ => none
def pMin1 (f : List Int → Option Int) : List D → AH → Option (D × AH)
  | [.ref n], h => match h[n]? with
    | some (.lst xs) => (intsOf xs).bind fun is => (f is).map fun i => (.int i, h)
    | _ => none
  | _, _ => none
def pMinD : List D → AH → Option (D × AH)
  | [.ref n, d], h => match h[n]? with
    | some (.lst xs) => (intsOf xs).map fun is => (match minL is with | some i => .int i | none => d, h)
    | _ => none
  | _, _ => none
def ddS : List S → List S
  | [] => []
  | x :: l => if x ∈ l then ddS l else x :: ddS l
def pSortset : List D → AH → Option (D × AH)
  | [.ref n], h => match h[n]? with
    | some (.lst xs) => (strsOf xs).bind fun ss => if ss.length ≤ 4000 ∧ (ddS ss).length < 64 then newL ((sortS (ddS ss)).map .str) h else none
    | _ => none
  | _, _ => none
def pLrng : List D → AH → Option (D × AH)
  | [.int n], h => if okR n then newL ((List.range n.toNat).map fun (k : Nat) => .int k) h else none
  | _, _ => none
def pLrev : List D → AH → Option (D × AH)
  | [.ref n], h => match h[n]? with
    | some (.lst xs) => newL xs.reverse h
    | _ => none
  | _, _ => none
def idxL (x : S) : List S → Option Nat
  | [] => none
  | y :: r => if y = x then some 0 else (idxL x r).map (· + 1)
def pIndex : List D → AH → Option (D × AH)
  | [.tup xs, .str x], h => (strsOf xs).bind fun ss => (idxL x ss).map fun i => (.int i, h)
  | _, _ => none
def pApp : List D → AH → Option (D × AH)
  | [.ref n, v], h => match h[n]? with
    | some (.lst xs) => setL n (xs ++ [v]) .non h
    | _ => none
  | _, _ => none
def pExt : List D → AH → Option (D × AH)
  | [_, .rol _], _ => none
  | [.ref n, x], h => match h[n]?, seqOf h x with
    | some (.lst xs), some ys => setL n (xs ++ ys) .non h
    | _, _ => none
  | _, _ => none
def pPop : List D → AH → Option (D × AH)
  | [.ref n], h => match h[n]? with
    | some (.lst xs) => match xs.getLast? with
      | some v => some (v, h.set n (.lst xs.dropLast))
      | none => none
    | _ => none
  | _, _ => none
def pPopat : List D → AH → Option (D × AH)
  | [.ref n, .int i], h => match h[n]? with
    | some (.lst xs) => match ixN xs.length i with
      | some j => match xs[j]? with
        | some v => some (v, h.set n (.lst (xs.eraseIdx j)))
        | none => none
      | none => none
    | _ => none
  | _, _ => none
def pInsert : List D → AH → Option (D × AH)
  | [.ref n, .int i, v], h => match h[n]? with
    | some (.lst xs) => if 0 ≤ i ∧ i ≤ xs.length then setL n (xs.take i.toNat ++ v :: xs.drop i.toNat) .non h else none
    | _ => none
  | _, _ => none
def pJoin : List D → AH → Option (D × AH)
  | [.str sep, .ref n], h => match h[n]? with
    | some (.lst xs) => (strsOf xs).bind fun ss => if (ss.map fun s => s.length).sum + ss.length * sep.length ≤ lim then some (.str (joinS sep ss), h) else none
    | _ => none
  | _, _ => none
def pSplit : List D → AH → Option (D × AH)
  | [.str s, .str [c]], h => newL ((splitOn c s).map .str) h
  | _, _ => none
def pStarts : List D → AH → Option (D × AH)
  | [.str s, .str p], h => some (.bl (p.isPrefixOf s), h)
  | [.str s, .str p, .int i], h => if 0 ≤ i ∧ i ≤ s.length then some (.bl (p.isPrefixOf (s.drop i.toNat)), h) else none
  | _, _ => none
def pStrip : List D → AH → Option (D × AH)
  | [.str s, .str [c]], h => some (.str (Z.strip c s), h)
  | _, _ => none
def pSetx : List D → AH → Option (D × AH)
  | [.ref n, k, v], h => match h[n]? with
    | some (.dct kvs) => (kkOf k).bind fun q => if kvs.length < lim then some (.non, h.set n (.dct (dPut kvs q v))) else none
    | some (.lst xs) => match k with
      | .int i => match ixN xs.length i with
        | some j => some (.non, h.set n (.lst (xs.set j v)))
        | none => none
      | _ => none
    | _ => none
  | _, _ => none
def pTget (t : List (S × D)) : List D → AH → Option (D × AH)
  | [.str k], h => (t.lookup k).map fun v => (v, h)
  | _, _ => none
def pTin (t : List (S × D)) : List D → AH → Option (D × AH)
  | [.str k], h => some (.bl (t.lookup k).isSome, h)
  | _, _ => none
def pFcat (xs : List D) (h : AH) : Option (D × AH) := (fcatS xs).bind fun s => if s.length ≤ lim then some (.str s, h) else none
def pAttr (cs : List S) (f : S) : List D → AH → Option (D × AH)
  | [.ref n], h => match h[n]? with
    | some (.obj c fs) => if c ∈ cs then (fs.lookup f).map fun v => (v, h) else none
    | _ => none
  | _, _ => none
def putA (f : S) (v : D) : List (S × D) → List (S × D)
  | [] => [(f, v)]
  | (g, x) :: r => if g = f then (g, v) :: r else (g, x) :: putA f v r
def pSetA (cs : List S) (f : S) : List D → AH → Option (D × AH)
  | [v, .ref n], h => match h[n]? with
    | some (.obj c fs) => if c ∈ cs ∧ fs.length < 100 then some (.non, h.set n (.obj c (putA f v fs))) else none
    | _ => none
  | _, _ => none
def blsOf : List D → Option (List Bool)
  | [] => some []
  | .bl s :: r => (blsOf r).map (s :: ·)
  | _ => none
def pIsC (yes no : List S) : List D → AH → Option (D × AH)
  | [.ref n], h => match h[n]? with
    | some (.obj c _) => if c ∈ yes then some (.bl true, h) else if c ∈ no then some (.bl false, h) else none
    | _ => none
  | _, _ => none
def pIsE (yes no : List S) : List D → AH → Option (D × AH)
  | [.ref n], h => match h[n]? with
    | some (.exc c) => if c ∈ yes then some (.bl true, h) else if c ∈ no then some (.bl false, h) else none
    | some (.excR c _) => if c ∈ yes then some (.bl true, h) else if c ∈ no then some (.bl false, h) else none
    | _ => none
  | _, _ => none
def pIndexL : List D → AH → Option (D × AH)
  | [.ref n, .str x], h => match h[n]? with
    | some (.lst xs) => (strsOf xs).bind fun ss => (idxL x ss).map fun i => (.int i, h)
    | _ => none
  | _, _ => none
def pCount : List D → AH → Option (D × AH)
  | [.ref n, .bl b], h => match h[n]? with
    | some (.lst xs) => (blsOf xs).map fun bs => (.int (bs.count b : Nat), h)
    | _ => none
  | [.ref n, .str x], h => match h[n]? with
    | some (.lst xs) => (strsOf xs).map fun ss => (.int (ss.count x : Nat), h)
    | _ => none
  | _, _ => none
def pCountC : List D → AH → Option (D × AH)
  | [.str s, .str [c]], h => some (.int (s.count c : Nat), h)
  | _, _ => none
def pListS : List D → AH → Option (D × AH)
  | [.str s], h => newL (s.map fun c => .str [c]) h
  | _, _ => none
def pAll : List D → AH → Option (D × AH)
  | [.ref n], h => match h[n]? with
    | some (.lst xs) => (blsOf xs).map fun bs => (.bl (bs.all id), h)
    | _ => none
  | _, _ => none
def pInt1 : List D → AH → Option (D × AH)
  | [.bl b], h => some (.int (if b then 1 else 0), h)
  | _, _ => none
def pMulS : List D → AH → Option (D × AH)
  | [.str s, .int k], h => if okR k && decide (s.length * k.toNat ≤ lim) then some (.str (replicate k.toNat s).flatten, h) else none
  | _, _ => none
def pErow (cs : List S) : List D → AH → Option (D × AH)
  | [.ref n], h => match h[n]? with
    | some (.excR c i) => if c ∈ cs then some (.int i, h) else none
    | _ => none
  | _, _ => none
def pInS : List D → AH → Option (D × AH)
  | [.str x, .str y], h => some (.bl (isSub x y), h)
  | _, _ => none
def pNinS : List D → AH → Option (D × AH)
  | [.str x, .str y], h => some (.bl (!isSub x y), h)
  | _, _ => none
def prim (sub : Nat → Nat → Bool) : Prim → List D → AH → Option (D × AH)
  | .add => pAdd
  | .sub => pInt2 (· - ·)
  | .mul => pMul
  | .fdiv => pFdiv
  | .mod => pMod
  | .shl => pShl
  | .shr => pShr
  | .band => pInt2 bAnd
  | .bor => pInt2 bOr
  | .inv => pInv
  | .bitlen => pBitlen
  | .max1 => pMin1 maxL
  | .lrng => pLrng
  | .eq => pEq false
  | .ne => pEq true
  | .lt => pCmp fun i j => decide (i < j)
  | .gt => pCmp fun i j => decide (j < i)
  | .isN => pIsN false
  | .notN => pIsN true
  | .in_ => pIn false
  | .notin => pIn true
  | .mktup => pMkt
  | .mklst => newL
  | .idx => pIdx
  | .len => pLen
  | .isi k => pIsi sub k
  | .list_ => pList
  | .tuple_ => pTuple
  | .append => pApp
  | .setx => pSetx
  | .isE ys ns => pIsE ys ns
inductive IK | val | rng | rev | enum | zip | chr
  deriving DecidableEq
inductive MK | list | str | dict | int | tuple
  deriving DecidableEq
def tyB (h : AH) : MK → D → Bool
  | .list, .rol _ => true
  | .list, .ref n => match h[n]? with
    | some (.lst _) => true
    | _ => false
  | .dict, .ref n => match h[n]? with
    | some (.dct _) => true
    | _ => false
  | .str, .str _ => true
  | .int, .int _ => true
  | .tuple, .tup _ => true
  | _, _ => false
mutual
inductive Ex
  | var (i : Nat) | lit (d : D) | prim (p : Prim) (es : Exs) | andV (a b : Ex) | ite (c : Tx) (a b : Ex) | slc (a b c : Ex) | mth (k : MK) (p : Prim) (o : Ex) (es : Exs) | call (f : Nat) (es : Exs) (ds : List D) | comp (k : IK) (src : Exs) (nt : Nat) (cond : Txs) (elt : Ex)
inductive Exs
  | nil | cons (e : Ex) (es : Exs)
inductive Tx
  | tru (e : Ex) | and (a b : Tx) | or (a b : Tx) | not (a : Tx)
inductive Txs
  | none | one (t : Tx)
end
inductive CC
  | call (f : Nat) (es : Exs) (ds : List D) | ite (t : Tx) (a b : CC)
mutual
inductive Sm
  | expr (e : Ex) | asg (i : Nat) (e : Ex) | unp (is : List Nat) (e : Ex) | setx (o i v : Ex) | ret (e : Ex) | ife (c : Tx) (a b : Sms) | whil (c : Tx) (b : Sms) | forr (tg : List Nat) (k : IK) (src : Exs) (b : Sms) | raisC (c : S) | tryA (i f : Nat) (es : Exs) (c : S) (j : Nat) (hs : Sms)
inductive Sms
  | nil | cons (s : Sm) (ss : Sms)
end
abbrev PV := D → AH → Prop
abbrev PX := D → AH → Prop
abbrev Gam := Nat → List D → AH → PV → PX → Prop
def isPr : D → Bool
  | .tup [.int _, .int _] => true
  | _ => false
def EF (_ : PX) : PX := fun _ _ => False
abbrev It := Nat → AH → Option (Option D)
def itList (n : Nat) : It := fun i h => match h[n]? with
  | some (.lst xs) => some xs[i]?
  | _ => none
def itXs (xs : List D) : It := fun i _ => some xs[i]?
def itRng (lo : Int) (n : Nat) : It := fun i _ => some (if i < n then some (.int (lo + i)) else none)
def itEnumX (xs : List D) : It := fun i _ => some (xs[i]?.map fun x => .tup [.int i, x])
def itRev (n len : Nat) : It := fun i h => match h[n]? with
  | some (.lst xs) => if xs.length = len then some (if i < len then xs[len - 1 - i]? else none) else none
  | _ => none
def itZip (xs ys : List D) : It := fun i _ => match xs[i]?, ys[i]? with
  | some x, some y => some (some (.tup [x, y]))
  | _, _ => some none
def itZipL (xs : List D) (n : Nat) : It := fun i h => match h[n]? with
  | some (.lst ys) => itZip xs ys i h
  | _ => none
def itRng3 (lo st : Int) (n : Nat) : It := fun i _ => some (if i < n then some (.int (lo + st * i)) else none)
def ioV : List D → AH → Option It
  | [.ref n], h => match h[n]? with
    | some (.lst _) => some (itList n)
    | _ => none
  | [.tup xs], _ => some (itXs xs)
  | [.rol xs], _ => some (itXs xs)
  | _, _ => none
def ioC : List D → AH → Option It
  | [.str s], _ => some (itXs (s.map fun c => .str [c]))
  | _, _ => none
def ioR : List D → AH → Option It
  | [.int n], _ => if okR n then some (itRng 0 n.toNat) else none
  | [.int a, .int b], _ => if okR a && okR b then some (itRng a (b - a).toNat) else none
  | [.int a, .int b, .int c], _ => if ok3 a b c then some (itRng3 a c (if a < b then ((b - a - 1) / c + 1).toNat else 0)) else none
  | _, _ => none
def ioE : List D → AH → Option It
  | [.tup xs], _ => some (itEnumX xs)
  | _, _ => none
def ioZ : List D → AH → Option It
  | [.tup xs, .tup ys], _ => some (itZip xs ys)
  | [.tup xs, .ref n], h => match h[n]? with
    | some (.lst _) => some (itZipL xs n)
    | _ => none
  | _, _ => none
def ioB : List D → AH → Option It
  | [.ref n], h => match h[n]? with
    | some (.lst xs) => some (itRev n xs.length)
    | _ => none
  | _, _ => none
def iterOf : IK → List D → AH → Option It
  | .val => ioV
  | .rng => ioR
  | .enum => ioE
  | .zip => ioZ
  | .rev => ioB
  | .chr => ioC
structure En where
  nx : Lo → AH → Prop
  rt : PV
  bk : Lo → AH → Prop := fun _ _ => False
  ct : Lo → AH → Prop := fun _ _ => False
def bindT : List Nat → D → Lo → Option Lo
  | [i], v, σ => some (σ.set i (some v))
  | is, .tup vs, σ => if is.length = vs.length then some ((is.zip vs).foldl (fun σ p => σ.set p.1 (some p.2)) σ) else none
  | _, _, _ => none
def moreT : Nat → D → Lo → Option Lo
  | 1, v, σ => some (σ ++ [some v])
  | n, .tup vs, σ => if vs.length = n then some (σ ++ vs.map some) else none
  | _, _, _ => none
section
variable (sub : Nat → Nat → Bool) (Γ : Gam) (E : PX)
mutual
noncomputable def wpE : Ex → Lo → AH → PV → Prop
  | .var i, σ, h, Q => match σ[i]? with
    | some (some v) => Q v h
    | _ => False
  | .lit d, _, h, Q => Q d h
  | .prim p es, σ, h, Q => wpEs es σ h fun vs h1 => match prim sub p vs h1 with
    | some (v, h2) => Q v h2
    | none => False
  | .andV a b, σ, h, Q => wpE a σ h fun x h1 => match x with
    | .bl true => wpE b σ h1 Q
    | .bl false => Q (.bl false) h1
    | _ => False
  | .ite c a b, σ, h, Q => wpT c σ h fun k h1 => if k = true then wpE a σ h1 Q else wpE b σ h1 Q
  | .slc a b c, σ, h, Q => wpE a σ h fun x h1 => wpE b σ h1 fun y h2 => match y with
    | .int i => wpE c σ h2 fun z h3 => match z with
      | .int j => match pSlice x (some i) (some j) h3 with
        | some (v, h4) => Q v h4
        | none => False
      | _ => False
    | _ => False
  | .mth k p o es, σ, h, Q => wpE o σ h fun x h1 => tyB h1 k x = true ∧ wpEs es σ h1 fun vs h2 => match prim sub p (x :: vs) h2 with
    | some (v, h3) => Q v h3
    | none => False
  | .call f es ds, σ, h, Q => wpEs es σ h fun vs h1 => Γ f (vs ++ ds) h1 Q (EF E)
  | .comp k src nt cond elt, σ, h, Q => wpEs src σ h fun vs h1 => match iterOf k vs h1 with
    | none => False
    | some J => ∃ W : Nat → Nat → AH → Prop, (∃ m, W 0 m (h1 ++ [.lst []])) ∧ ∀ i m h, W i m h → match J i h with
      | none => False
      | some none => Q (.ref h1.length) h
      | some (some v) => match moreT nt v σ with
        | none => False
        | some σ' => ∃ N : AH → Prop, (∀ h', N h' → ∃ m', m' < m ∧ W (i + 1) m' h') ∧ wpC cond σ' h fun c h2 => if c = true then wpE elt σ' h2 fun x h3 => match prim sub .append [.ref h1.length, x] h3 with
            | some (_, h4) => N h4
            | none => False
          else N h2
noncomputable def wpEs : Exs → Lo → AH → (List D → AH → Prop) → Prop
  | .nil, _, h, Q => Q [] h
  | .cons e es, σ, h, Q => wpE e σ h fun v h1 => wpEs es σ h1 fun vs h2 => Q (v :: vs) h2
noncomputable def wpT : Tx → Lo → AH → (Bool → AH → Prop) → Prop
  | .tru e, σ, h, Q => wpE e σ h fun v h1 => match truthy h1 v with
    | some c => Q c h1
    | none => False
  | .and a b, σ, h, Q => wpT a σ h fun c h1 => if c = true then wpT b σ h1 Q else Q false h1
  | .or a b, σ, h, Q => wpT a σ h fun c h1 => if c = true then Q true h1 else wpT b σ h1 Q
  | .not a, σ, h, Q => wpT a σ h fun c h1 => Q (!c) h1
noncomputable def wpC : Txs → Lo → AH → (Bool → AH → Prop) → Prop
  | .none, _, h, Q => Q true h
  | .one t, σ, h, Q => wpT t σ h Q
end
def wpM (m : S) (tab : List (S × Nat)) (o : Ex) (es : Exs) (σ : Lo) (h : AH) (Q : PV) (E' : PX) : Prop := wpE sub Γ E o σ h fun x h1 => match x with
  | .ref n => match h1[n]? with
    | some (.obj c fs) => fs.lookup m = none ∧ match tab.lookup c with
      | some f => wpEs sub Γ E es σ h1 fun vs h2 => Γ f (x :: vs) h2 Q E'
      | none => False
    | _ => False
  | _ => False
def wpCC : CC → Lo → AH → PV → PX → Prop
  | .call f es ds, σ, h, Q, F => wpEs sub Γ E es σ h fun vs h1 => Γ f (vs ++ ds) h1 Q F
  | .ite t a b, σ, h, Q, F => wpT sub Γ E t σ h fun k h1 => if k = true then wpCC a σ h1 Q F else wpCC b σ h1 Q F
mutual
noncomputable def wpS : Sm → En → Lo → AH → Prop
  | .expr e, K, σ, h => wpE sub Γ E e σ h fun _ h1 => K.nx σ h1
  | .asg i e, K, σ, h => wpE sub Γ E e σ h fun v h1 => K.nx (σ.set i (some v)) h1
  | .unp is e, K, σ, h => wpE sub Γ E e σ h fun v h1 => match bindT is v σ with
    | some σ' => K.nx σ' h1
    | none => False
  | .setx o i v, K, σ, h => wpE sub Γ E v σ h fun x h1 => wpE sub Γ E o σ h1 fun y h2 => wpE sub Γ E i σ h2 fun z h3 => match prim sub .setx [y, z, x] h3 with
    | some (_, h4) => K.nx σ h4
    | none => False
  | .ret e, K, σ, h => wpE sub Γ E e σ h K.rt
  | .ife c a b, K, σ, h => wpT sub Γ E c σ h fun k h1 => if k = true then wpSs a K σ h1 else wpSs b K σ h1
  | .whil c b, K, σ, h => ∃ W : Nat → Lo → AH → Prop, (∃ m, W m σ h) ∧ ∀ m σ h, W m σ h →
      wpT sub Γ E c σ h fun k h1 => if k = true then ∃ N : Lo → AH → Prop, (∀ σ' h', N σ' h' → ∃ m', m' < m ∧ W m' σ' h') ∧ wpSs b { nx := N, rt := K.rt, bk := K.nx, ct := N } σ h1 else K.nx σ h1
  | .forr tg k src b, K, σ, h => wpEs sub Γ E src σ h fun vs h1 => match iterOf k vs h1 with
    | none => False
    | some J => ∃ W : Nat → Nat → Lo → AH → Prop, (∃ m, W 0 m σ h1) ∧ ∀ i m σ h, W i m σ h → match J i h with
      | none => False
      | some none => K.nx σ h
      | some (some v) => match bindT tg v σ with
        | none => False
        | some σ' => ∃ N : Lo → AH → Prop, (∀ σ' h', N σ' h' → ∃ m', m' < m ∧ W (i + 1) m' σ' h') ∧ wpSs b { nx := N, rt := K.rt, bk := K.nx, ct := N } σ' h
  | .raisC c, _, _, h => E (.str c) h
  | .tryA i f es c j hs, K, σ, h => wpEs sub Γ E es σ h fun vs h1 => Γ f vs h1 (fun v h2 => K.nx (σ.set i (some v)) h2) fun x h2 => x = .str c ∧ wpSs hs { nx := fun σ' h' => K.nx (σ'.set j none) h', rt := K.rt, bk := fun σ' h' => K.bk (σ'.set j none) h', ct := fun σ' h' => K.ct (σ'.set j none) h' } (σ.set j (some (.ref h2.length))) (h2 ++ [.exc c])
noncomputable def wpSs : Sms → En → Lo → AH → Prop
  | .nil, K, σ, h => K.nx σ h
  | .cons s ss, K, σ, h => wpS s { K with nx := fun σ' h' => wpSs ss K σ' h' } σ h
end
end
structure Def where
  np : Nat
  nl : Nat
  body : Sms
def wpCall (sub : Nat → Nat → Bool) (P : List Def) : Nat → Gam
  | 0, _, _, _, _, _ => False
  | d + 1, f, vs, h, Q, E => match P[f]? with
    | some df => vs.length = df.np ∧ wpSs sub (wpCall sub P d) E df.body { nx := fun _ h => Q .non h, rt := Q } (vs.map some ++ replicate (df.nl - df.np) none) h
    | none => False
section
variable {sub : Nat → Nat → Bool} {Γ : Gam} {E : PX}
section
variable {h : AH} {i j : Int} {s t : S} {x y v : D} {xs ys : List D} {a b n : Nat} {p q : Bool}
theorem p_addI : prim sub .add [.int i, .int j] h = some (.int (i + j), h) := rfl
theorem p_addL (ha : h[a]? = some (.lst xs)) (hb : h[b]? = some (.lst ys)) (hl : (xs ++ ys).length ≤ 16777216) : prim sub .add [.ref a, .ref b] h = some (.ref h.length, h ++ [.lst (xs ++ ys)]) := by
  show (match h[a]?, h[b]? with | some (.lst xs), some (.lst ys) => newL (xs ++ ys) h | _, _ => none) = _
  rw [ha, hb]; exact if_pos hl
theorem p_subI : prim sub .sub [.int i, .int j] h = some (.int (i - j), h) := rfl
theorem smallI_of (hj : -18446744073709551616 < j ∧ j < 18446744073709551616) : smallI j = true := smallI_iff.mpr hj
theorem p_mulI (hj : -18446744073709551616 < j ∧ j < 18446744073709551616) : prim sub .mul [.int i, .int j] h = some (.int (i * j), h) := if_pos (by rw [smallI_of hj, Bool.or_true, Bool.true_or])
theorem p_mulI' (hj : -18446744073709551616 < i ∧ i < 18446744073709551616) : prim sub .mul [.int i, .int j] h = some (.int (i * j), h) := if_pos (by rw [smallI_of hj, Bool.true_or, Bool.true_or])
theorem bigI_of (hj : -2037035976334486086268445688409378161051468393665936250636140449354381299763336706183397376 < j ∧ j < 2037035976334486086268445688409378161051468393665936250636140449354381299763336706183397376) : bigI j = true := bigI_iff.mpr hj
theorem p_fdiv (h0 : 0 < j ∧ j < 1073741824) : prim sub .fdiv [.int i, .int j] h = some (.int (i / j), h) := if_pos ⟨h0.1, bigI_of (by lia)⟩
theorem p_mod (h0 : 0 < j) : prim sub .mod [.int i, .int j] h = some (.int (i % j), h) := if_pos h0
theorem p_lt : prim sub .lt [.int i, .int j] h = some (.bl (decide (i < j)), h) := rfl
theorem p_gt : prim sub .gt [.int i, .int j] h = some (.bl (decide (j < i)), h) := rfl
theorem p_app (ha : h[a]? = some (.lst xs)) (hl : xs.length < 16777216) : prim sub .append [.ref a, v] h = some (.non, h.set a (.lst (xs ++ [v]))) := by
  show (match h[a]? with | some (.lst xs) => setL a (xs ++ [v]) .non h | _ => none) = _
  rw [ha]
  exact if_pos (by simp [lim]; lia)
theorem p_lenL (ha : h[a]? = some (.lst xs)) : prim sub .len [.ref a] h = some (.int xs.length, h) := by
  show (match h[a]? with | some (.lst xs) => _ | some (.dct xs) => _ | _ => none) = _
  rw [ha]
end
theorem wp_for {K : En} {xs : List D} (Pv : Nat → Lo → AH → Prop) (he : ∀ Q : List D → AH → Prop, Q vs h1 → wpEs sub Γ E src σ h Q) (hi : iterOf k vs h1 = some J) (h0 : Pv 0 σ h1) (hJ : ∀ i σ h, i ≤ xs.length → Pv i σ h → J i h = some xs[i]?) (hs : ∀ i v σ h, xs[i]? = some v → Pv i σ h → ∃ σ', bindT tg v σ = some σ' ∧ wpSs sub Γ E b { nx := Pv (i + 1), rt := K.rt, bk := K.nx, ct := Pv (i + 1) } σ' h) (hd : ∀ σ h, Pv xs.length σ h → K.nx σ h) : wpS sub Γ E (.forr tg k src b) K σ h := by
  erw [wpS]
  refine he _ ?_
  erw [hi]
  refine ⟨fun i m σ h => m = xs.length - i ∧ i ≤ xs.length ∧ Pv i σ h, ⟨xs.length, by simp, zero_le _, h0⟩, ?_⟩
  rintro i m σ h ⟨rfl, hin, p⟩
  rw [hJ i σ h hin p]
  cases e : xs[i]? with
  | some v =>
    have hlt : i < xs.length := (List.getElem?_eq_some_iff.mp e).1
    obtain ⟨σ', eb, w⟩ := hs i v σ h e p
    erw [eb]
    exact ⟨_, fun σ h p => ⟨xs.length - (i + 1), by lia, rfl, hlt, p⟩, w⟩
  | none =>
    have : i = xs.length := by have := List.getElem?_eq_none_iff.mp e; lia
    subst this
    exact hd σ h p
theorem wp_rng {K : En} (Pv : Nat → Lo → AH → Prop) (he : ∀ Q : List D → AH → Prop, Q vs h1 → wpEs sub Γ E src σ h Q) (hi : iterOf .rng vs h1 = some (itRng lo n)) (h0 : Pv 0 σ h1) (hs : ∀ i σ h, i < n → Pv i σ h → ∃ σ', bindT tg (.int (lo + i)) σ = some σ' ∧ wpSs sub Γ E b { nx := Pv (i + 1), rt := K.rt, bk := K.nx, ct := Pv (i + 1) } σ' h) (hd : ∀ σ h, Pv n σ h → K.nx σ h) : wpS sub Γ E (.forr tg .rng src b) K σ h := by
  refine wp_for (xs := (List.range n).map fun i => .int (lo + (i : Nat))) (J := itRng lo n) Pv he hi h0 ?_ ?_ ?_
  · intro i σ h hin p
    erw [length_map, length_range] at hin
    unfold itRng
    by_cases hlt : i < n
    · rw [if_pos hlt, getElem?_map, getElem?_range hlt]; rfl
    · rw [if_neg hlt, getElem?_eq_none (by simp; lia)]
  · intro i v σ h e p
    have hlt : i < n := by have := (List.getElem?_eq_some_iff.mp e).1; simpa using this
    rw [getElem?_map, getElem?_range hlt] at e
    cases e
    exact hs i σ h hlt p
  · intro σ h p
    erw [length_map, length_range] at p
    exact hd σ h p
theorem wp_while (Pv : Nat → Lo → AH → Prop) (h0 : Pv m σ h) (hs : ∀ m σ h, Pv m σ h → wpT sub Γ E c σ h fun k h1 => if k = true then wpSs sub Γ E b { nx := fun σ' h' => ∃ m', m' < m ∧ Pv m' σ' h', rt := K.rt, bk := K.nx, ct := fun σ' h' => ∃ m', m' < m ∧ Pv m' σ' h' } σ h1 else K.nx σ h1) (mono : ∀ σ h Q Q', (∀ b h1, Q b h1 → Q' b h1) → wpT sub Γ E c σ h Q → wpT sub Γ E c σ h Q') : wpS sub Γ E (.whil c b) K σ h := by
  erw [wpS]
  refine ⟨Pv, ⟨m, h0⟩, fun m σ h p => mono _ _ _ _ (fun c h1 q => ?_) (hs m σ h p)⟩
  cases c with
  | true => rw [if_pos rfl] at q ⊢; exact ⟨_, fun _ _ p => p, q⟩
  | false => exact q
end
def nd (a b : S) : Prop := ¬ b < a
section
variable {sub : Nat → Nat → Bool} {Γ : Gam} {E E' : PX}
def GMono (Γ : Gam) : Prop := ∀ f vs h (Q Q' : PV) (E E' : PX), (∀ v h', Q v h' → Q' v h') → (∀ v h', E v h' → E' v h') → Γ f vs h Q E → Γ f vs h Q' E'
mutual
theorem wpE_mono (hΓ : GMono Γ) (hE : ∀ x h, E x h → E' x h) : ∀ (e : Ex) (σ : Lo) (h : AH) (Q Q' : PV), (∀ v h', Q v h' → Q' v h') → wpE sub Γ E e σ h Q → wpE sub Γ E' e σ h Q'
  | .var i, σ, h, Q, Q', m, w => by
    erw [wpE] at w ⊢
    split at w
    · rename_i v e; exact m _ _ w
    · exact w.elim
  | .lit d, σ, h, Q, Q', m, w => by erw [wpE] at w ⊢; exact m _ _ w
  | .prim p es, σ, h, Q, Q', m, w => by
    erw [wpE] at w ⊢
    refine wpEs_mono hΓ hE es σ h _ _ (fun vs h1 q => ?_) w
    split at q
    · rename_i e; exact m _ _ q
    · exact q.elim
  | .andV a b, σ, h, Q, Q', m, w => by
    erw [wpE] at w ⊢
    refine wpE_mono hΓ hE a σ h _ _ (fun x h1 q => ?_) w
    split at q
    · exact wpE_mono hΓ hE b σ h1 _ _ m q
    · exact m _ _ q
    · exact q.elim
  | .ite c a b, σ, h, Q, Q', m, w => by
    erw [wpE] at w ⊢
    refine wpT_mono hΓ hE c σ h _ _ (fun k h1 q => ?_) w
    cases k
    · exact wpE_mono hΓ hE b σ h1 _ _ m q
    · exact wpE_mono hΓ hE a σ h1 _ _ m q
  | .slc a b c, σ, h, Q, Q', m, w => by
    erw [wpE] at w ⊢
    refine wpE_mono hΓ hE a σ h _ _ (fun x h1 q1 => wpE_mono hΓ hE b σ h1 _ _ (fun y h2 q2 => ?_) q1) w
    split at q2
    · refine wpE_mono hΓ hE c σ _ _ _ (fun z h4 q4 => ?_) q2
      split at q4
      · split at q4
        · rename_i e; exact m _ _ q4
        · exact q4.elim
      · exact q4.elim
    · exact q2.elim
  | .mth k p o es, σ, h, Q, Q', m, w => by
    erw [wpE] at w ⊢
    refine wpE_mono hΓ hE o σ h _ _ (fun x h1 q1 => ⟨q1.1, wpEs_mono hΓ hE es σ h1 _ _ (fun vs h2 q => ?_) q1.2⟩) w
    split at q
    · rename_i e; exact m _ _ q
    · exact q.elim
  | .call f es ds, σ, h, Q, Q', m, w => by
    erw [wpE] at w ⊢
    exact wpEs_mono hΓ hE es σ h _ _ (fun vs h1 q => hΓ _ _ _ _ _ _ _ m (fun _ _ z => z) q) w
  | .comp k src nt cond elt, σ, h, Q, Q', m, w => by
    erw [wpE] at w ⊢
    refine wpEs_mono hΓ hE src σ h _ _ (fun vs h1 q => ?_) w
    split at q
    · exact q.elim
    · rename_i J e
      obtain ⟨W, hW, t⟩ := q
      refine ⟨W, hW, fun i n h2 w2 => ?_⟩
      have t := t i n h2 w2
      split at t
      · exact t.elim
      · exact m _ _ t
      · split at t
        · exact t.elim
        · obtain ⟨N, hN, t⟩ := t
          refine ⟨N, hN, wpC_mono hΓ hE cond _ _ _ _ (fun c h3 q => ?_) t⟩
          cases c
          · exact q
          · exact wpE_mono hΓ hE elt _ _ _ _ (fun x h4 q => q) q
theorem wpEs_mono (hΓ : GMono Γ) (hE : ∀ x h, E x h → E' x h) : ∀ (es : Exs) (σ : Lo) (h : AH) (Q Q' : List D → AH → Prop), (∀ v h', Q v h' → Q' v h') → wpEs sub Γ E es σ h Q → wpEs sub Γ E' es σ h Q'
  | .nil, σ, h, Q, Q', m, w => by erw [wpEs] at w ⊢; exact m _ _ w
  | .cons e es, σ, h, Q, Q', m, w => by
    erw [wpEs] at w ⊢
    exact wpE_mono hΓ hE e σ h _ _ (fun v h1 q => wpEs_mono hΓ hE es σ h1 _ _ (fun vs h2 q2 => m _ _ q2) q) w
theorem wpT_mono (hΓ : GMono Γ) (hE : ∀ x h, E x h → E' x h) : ∀ (t : Tx) (σ : Lo) (h : AH) (Q Q' : Bool → AH → Prop), (∀ v h', Q v h' → Q' v h') → wpT sub Γ E t σ h Q → wpT sub Γ E' t σ h Q'
  | .tru e, σ, h, Q, Q', m, w => by
    erw [wpT] at w ⊢
    refine wpE_mono hΓ hE e σ h _ _ (fun v h1 q => ?_) w
    split at q
    · rename_i e; exact m _ _ q
    · exact q.elim
  | .and a b, σ, h, Q, Q', m, w => by
    erw [wpT] at w ⊢
    refine wpT_mono hΓ hE a σ h _ _ (fun c h1 q => ?_) w
    cases c
    · exact m _ _ q
    · exact wpT_mono hΓ hE b σ h1 _ _ m q
  | .or a b, σ, h, Q, Q', m, w => by
    erw [wpT] at w ⊢
    refine wpT_mono hΓ hE a σ h _ _ (fun c h1 q => ?_) w
    cases c
    · exact wpT_mono hΓ hE b σ h1 _ _ m q
    · exact m _ _ q
  | .not a, σ, h, Q, Q', m, w => by
    erw [wpT] at w ⊢
    exact wpT_mono hΓ hE a σ h _ _ (fun c h1 q => m _ _ q) w
theorem wpC_mono (hΓ : GMono Γ) (hE : ∀ x h, E x h → E' x h) : ∀ (t : Txs) (σ : Lo) (h : AH) (Q Q' : Bool → AH → Prop), (∀ v h', Q v h' → Q' v h') → wpC sub Γ E t σ h Q → wpC sub Γ E' t σ h Q'
  | .none, σ, h, Q, Q', m, w => by erw [wpC] at w ⊢; exact m _ _ w
  | .one t, σ, h, Q, Q', m, w => by erw [wpC] at w ⊢; exact wpT_mono hΓ hE t σ h _ _ m w
end
structure EnLe (K K' : En) : Prop where
  nx : ∀ σ h, K.nx σ h → K'.nx σ h
  rt : ∀ v h, K.rt v h → K'.rt v h
  bk : ∀ σ h, K.bk σ h → K'.bk σ h
  ct : ∀ σ h, K.ct σ h → K'.ct σ h
theorem wpM_mono (hΓ : GMono Γ) (hE : ∀ x h, E x h → E' x h) (mq : ∀ v h', Q v h' → Q' v h') (mf : ∀ v h', F v h' → F' v h') (w : wpM sub Γ E m tab o es σ h Q F) : wpM sub Γ E' m tab o es σ h Q' F' := by
  unfold wpM at w ⊢
  refine wpE_mono hΓ hE o σ h _ _ (fun x h1 q => ?_) w
  split at q
  · split at q
    · refine ⟨q.1, ?_⟩
      have q := q.2
      split at q
      · exact wpEs_mono hΓ hE es σ h1 _ _ (fun vs h2 z => hΓ _ _ _ _ _ _ _ mq mf z) q
      · exact q.elim
    · exact q.elim
  · exact q.elim
theorem wpCC_mono (hΓ : GMono Γ) (hE : ∀ x h, E x h → E' x h) (mq : ∀ v h', Q v h' → Q' v h') (mf : ∀ v h', F v h' → F' v h') : ∀ (c : CC) (σ : Lo) (h : AH), wpCC sub Γ E c σ h Q F → wpCC sub Γ E' c σ h Q' F'
  | .call f es ds, σ, h, w => by
    erw [wpCC] at w ⊢
    exact wpEs_mono hΓ hE es σ h _ _ (fun vs h2 z => hΓ _ _ _ _ _ _ _ mq mf z) w
  | .ite t a b, σ, h, w => by
    erw [wpCC] at w ⊢
    refine wpT_mono hΓ hE t σ h _ _ (fun k h1 q => ?_) w
    cases k
    · exact wpCC_mono hΓ hE mq mf b σ h1 q
    · exact wpCC_mono hΓ hE mq mf a σ h1 q
mutual
theorem wpS_mono (hΓ : GMono Γ) (hE : ∀ x h, E x h → E' x h) : ∀ (s : Sm) (K K' : En) (σ : Lo) (h : AH), EnLe K K' → wpS sub Γ E s K σ h → wpS sub Γ E' s K' σ h
  | .expr e, K, K', σ, h, m, w => by erw [wpS] at w ⊢; exact wpE_mono hΓ hE e σ h _ _ (fun _ _ q => m.nx _ _ q) w
  | .asg i e, K, K', σ, h, m, w => by erw [wpS] at w ⊢; exact wpE_mono hΓ hE e σ h _ _ (fun _ _ q => m.nx _ _ q) w
  | .unp is e, K, K', σ, h, m, w => by
    erw [wpS] at w ⊢
    refine wpE_mono hΓ hE e σ h _ _ (fun _ _ q => ?_) w
    split at q
    · rename_i e; exact m.nx _ _ q
    · exact q.elim
  | .setx o i v, K, K', σ, h, m, w => by
    erw [wpS] at w ⊢
    refine wpE_mono hΓ hE v σ h _ _ (fun _ _ q1 => wpE_mono hΓ hE o σ _ _ _ (fun _ _ q2 => wpE_mono hΓ hE i σ _ _ _ (fun _ _ q => ?_) q2) q1) w
    split at q
    · rename_i e; exact m.nx _ _ q
    · exact q.elim
  | .ret e, K, K', σ, h, m, w => by erw [wpS] at w ⊢; exact wpE_mono hΓ hE e σ h _ _ (fun _ _ q => m.rt _ _ q) w
  | .ife c a b, K, K', σ, h, m, w => by
    erw [wpS] at w ⊢
    refine wpT_mono hΓ hE c σ h _ _ (fun k h1 q => ?_) w
    cases k
    · exact wpSs_mono hΓ hE b K K' σ h1 m q
    · exact wpSs_mono hΓ hE a K K' σ h1 m q
  | .whil c b, K, K', σ, h, m, w => by
    erw [wpS] at w ⊢
    obtain ⟨W, hW, t⟩ := w
    refine ⟨W, hW, fun n σ h w => wpT_mono hΓ hE c σ h _ _ (fun k h1 q => ?_) (t n σ h w)⟩
    cases k
    · exact m.nx _ _ q
    · obtain ⟨N, hN, q⟩ := q
      exact ⟨N, hN, wpSs_mono hΓ hE b { nx := N, rt := K.rt, bk := K.nx, ct := N } _ σ h1 ⟨fun _ _ q => q, m.rt, m.nx, fun _ _ q => q⟩ q⟩
  | .forr tg k src b, K, K', σ, h, m, w => by
    erw [wpS] at w ⊢
    refine wpEs_mono hΓ hE src σ h _ _ (fun vs h1 q => ?_) w
    split at q
    · exact q.elim
    · rename_i J e
      obtain ⟨W, hW, t⟩ := q
      refine ⟨W, hW, fun i n σ2 h2 w2 => ?_⟩
      have t := t i n σ2 h2 w2
      split at t
      · exact t.elim
      · exact m.nx _ _ t
      · split at t
        · exact t.elim
        · rename_i eb
          obtain ⟨N, hN, q⟩ := t
          exact ⟨N, hN, wpSs_mono hΓ hE b { nx := N, rt := K.rt, bk := K.nx, ct := N } _ _ h2 ⟨fun _ _ q => q, m.rt, m.nx, fun _ _ q => q⟩ q⟩
  | .raisC c, K, K', σ, h, m, w => by erw [wpS] at w ⊢; exact hE _ _ w
  | .tryA i f es c j hs, K, K', σ, h, m, w => by
    erw [wpS] at w ⊢
    refine wpEs_mono hΓ hE es σ h _ _ (fun vs h1 q => hΓ _ _ _ _ _ _ _ (fun v h2 z => m.nx _ _ z) (fun x h2 z => ⟨z.1, wpSs_mono hΓ hE hs { nx := fun σ' h' => K.nx (σ'.set j none) h', rt := K.rt, bk := fun σ' h' => K.bk (σ'.set j none) h', ct := fun σ' h' => K.ct (σ'.set j none) h' } _ _ _ ⟨fun _ _ q => m.nx _ _ q, m.rt, fun _ _ q => m.bk _ _ q, fun _ _ q => m.ct _ _ q⟩ z.2⟩) q) w
theorem wpSs_mono (hΓ : GMono Γ) (hE : ∀ x h, E x h → E' x h) : ∀ (s : Sms) (K K' : En) (σ : Lo) (h : AH), EnLe K K' → wpSs sub Γ E s K σ h → wpSs sub Γ E' s K' σ h
  | .nil, K, K', σ, h, m, w => by erw [wpSs] at w ⊢; exact m.nx _ _ w
  | .cons s ss, K, K', σ, h, m, w => by
    erw [wpSs] at w ⊢
    exact wpS_mono hΓ hE s { K with nx := fun σ' h' => wpSs sub Γ E ss K σ' h' } _ σ h ⟨fun σ' h' q => wpSs_mono hΓ hE ss K K' σ' h' m q, m.rt, m.bk, m.ct⟩ w
end
end
theorem wpCall_mono : ∀ d, GMono (wpCall sub P d)
  | 0, f, vs, h, Q, Q', E, E', m, mE, w => by erw [wpCall] at w
  | d + 1, f, vs, h, Q, Q', E, E', m, mE, w => by
    erw [wpCall] at w ⊢
    split at w
    · rename_i df e
      exact ⟨w.1, wpSs_mono (wpCall_mono d) mE _ { nx := fun _ h => Q .non h, rt := Q } _ _ _ ⟨fun _ _ q => m _ _ q, fun _ _ q => m _ _ q, fun _ _ q => q, fun _ _ q => q⟩ w.2⟩
    · exact w.elim
section
variable {sub : Nat → Nat → Bool} {P : List Def} {E : PX} {d : Nat}
theorem wp_whileC (Pv : Nat → Lo → AH → Prop) (h0 : Pv m σ h) (hs : ∀ m σ h, Pv m σ h → wpT sub (wpCall sub P d) E c σ h fun k h1 => if k = true then wpSs sub (wpCall sub P d) E b { nx := fun σ' h' => ∃ m', m' < m ∧ Pv m' σ' h', rt := K.rt, bk := K.nx, ct := fun σ' h' => ∃ m', m' < m ∧ Pv m' σ' h' } σ h1 else K.nx σ h1) : wpS sub (wpCall sub P d) E (.whil c b) K σ h :=
  wp_while Pv h0 hs fun σ h Q Q' m w => wpT_mono (wpCall_mono d) (fun _ _ z => z) c σ h _ _ m w
theorem wp_comp {k : IK} {src : Exs} {nt : Nat} {cond : Txs} {elt : Ex} {σ : Lo} {h h1 : AH} {Q : PV} {J : It} {xs vs : List D} (p : D → Bool) (g : D → D) (he : ∀ Q : List D → AH → Prop, Q vs h1 → wpEs sub (wpCall sub P d) E src σ h Q) (hi : iterOf k vs h1 = some J) (hl : xs.length ≤ 16777216) (hJ : ∀ (i : Nat) h', h1 <+: h' → J i h' = some xs[i]?) (hs : ∀ (i : Nat) v h2, xs[i]? = some v → h1 <+: h2 → ∃ σ', moreT nt v σ = some σ' ∧ wpC sub (wpCall sub P d) E cond σ' h2 fun c h3 => c = p v ∧ h2 <+: h3 ∧ (c = true → wpE sub (wpCall sub P d) E elt σ' h3 fun x h4 => x = g v ∧ h3 <+: h4)) (q : ∀ h', h1 <+: h' → h'[h1.length]? = some (.lst ((xs.filter p).map g)) → Q (.ref h1.length) h') : wpE sub (wpCall sub P d) E (.comp k src nt cond elt) σ h Q := by
  erw [wpE]
  refine he _ ?_
  erw [hi]
  refine ⟨fun i m h' => m = xs.length - i ∧ i ≤ xs.length ∧ h1 <+: h' ∧ h'[h1.length]? = some (.lst (((xs.take i).filter p).map g)), ⟨xs.length, by simp, zero_le _, prefix_append _ _, by simp⟩, ?_⟩
  rintro i m h2 ⟨rfl, hin, pr, ha⟩
  rw [hJ i h2 pr]
  cases e : xs[i]? with
  | none =>
    have : i = xs.length := by have := List.getElem?_eq_none_iff.mp e; lia
    subst this
    rw [take_length] at ha
    exact q h2 pr ha
  | some v =>
    have hlt : i < xs.length := (List.getElem?_eq_some_iff.mp e).1
    obtain ⟨σ', em, w⟩ := hs i v h2 e pr
    erw [em]
    refine ⟨fun h' => h1 <+: h' ∧ h'[h1.length]? = some (.lst (((xs.take (i + 1)).filter p).map g)), fun h' q' => ⟨xs.length - (i + 1), by lia, rfl, hlt, q'.1, q'.2⟩, wpC_mono (wpCall_mono d) (fun _ _ z => z) _ _ _ _ _ (fun c h3 q3 => ?_) w⟩
    obtain ⟨hc, pr3, q3⟩ := q3
    have ht : xs.take (i + 1) = xs.take i ++ [v] := by rw [List.take_succ, e]; rfl
    have pget : ∀ {a b : AH} {n : Nat} {o : AO}, a <+: b → a[n]? = some o → b[n]? = some o := fun {a b n o} pp ee => by
      obtain ⟨l, rfl⟩ := pp
      rw [getElem?_append_left (List.getElem?_eq_some_iff.mp ee).1]; exact ee
    cases hcc : c with
    | false =>
      rw [if_neg (by decide)]
      refine ⟨pr.trans pr3, ?_⟩
      rw [ht, filter_append, List.filter_cons_of_neg (by rw [← hc, hcc]; decide)]
      simpa using pget pr3 ha
    | true =>
      rw [if_pos rfl]
      refine wpE_mono (wpCall_mono d) (fun _ _ z => z) _ _ _ _ _ (fun x h4 q4 => ?_) (q3 hcc)
      obtain ⟨rfl, pr4⟩ := q4
      have ha4 := pget (pr3.trans pr4) ha
      have hll : (((xs.take i).filter p).map g).length < 16777216 := by
        have h1 := length_filter_le p (xs.take i)
        rw [length_take] at h1
        rw [length_map]; lia
      rw [p_app ha4 hll]
      refine ⟨?_, ?_⟩
      · obtain ⟨l, rfl⟩ := (pr.trans (pr3.trans pr4))
        rw [set_append_right _ _ (le_refl _)]
        exact prefix_append _ _
      · rw [getElem?_set_self (List.getElem?_eq_some_iff.mp ha4).1, ht, filter_append, List.filter_cons_of_pos (by rw [← hc, hcc])]
        simp
end
end Z
namespace L2
open PySem PySem.Spec PyProof.Rows
abbrev Key := Sum Int Str
def keyIs : Key → Value → Bool
  | .inl k, v => Value.isInt k v
  | .inr x, v => Value.isStrOf x v
def keyH (w : World) : Key → Int
  | .inl k => hashInt k
  | .inr x => hashStr w x
theorem keyIs_shape : ∀ {k : Key} {v : Value}, keyIs k v = true → (∃ i t, k = Sum.inl i ∧ v = Value.int i t) ∨ (∃ x t, k = Sum.inr x ∧ v = Value.str x t)
  | .inl i, v, h => by
    obtain ⟨t, e⟩ := Value.isInt_shape (k := i) (v := v) h
    exact .inl ⟨i, t, rfl, e⟩
  | .inr x, v, h => by
    obtain ⟨t, e⟩ := Value.isStrOf_shape (x := x) (v := v) h
    exact .inr ⟨x, t, rfl, e⟩
theorem keyIs_int (i : Int) (t : Tok) : keyIs (.inl i) (.int i t) = true := by simp [keyIs, Value.isInt]
theorem keyIs_str (x : Str) (t : Tok) : keyIs (.inr x) (.str x t) = true := by simp [keyIs, Value.isStrOf]
theorem key_ll (a b : Int) : decide ((Sum.inl a : Key) = Sum.inl b) = (a == b) := by
  by_cases e : a = b
  · subst e; simp
  · have h : ¬ (Sum.inl a : Key) = Sum.inl b := fun q => e (Sum.inl.inj q)
    rw [decide_eq_false h]
    exact (beq_eq_false_iff_ne.mpr e).symm
theorem key_rr (a b : Str) : decide ((Sum.inr a : Key) = Sum.inr b) = decide (a = b) := by
  by_cases e : a = b
  · subst e; simp
  · have h : ¬ (Sum.inr a : Key) = Sum.inr b := fun q => e (Sum.inr.inj q)
    rw [decide_eq_false h, decide_eq_false e]
theorem key_lr (a : Int) (b : Str) : decide ((Sum.inl a : Key) = Sum.inr b) = false := decide_eq_false (fun q => nomatch q)
theorem key_rl (a : Str) (b : Int) : decide ((Sum.inr a : Key) = Sum.inl b) = false := decide_eq_false (fun q => nomatch q)
def mixKind (prog : Program) (w : World) : PySem.KeyKind prog w Key where
  is := keyIs
  hash := keyH w
  inj := fun v a b ha hb => by
    rcases keyIs_shape ha with ⟨i, t, rfl, rfl⟩ | ⟨x, t, rfl, rfl⟩
    · rcases keyIs_shape hb with ⟨j, u, rfl, e⟩ | ⟨y, u, rfl, e⟩
      · injection e with e1 _; rw [e1]
      · exact nomatch e
    · rcases keyIs_shape hb with ⟨j, u, rfl, e⟩ | ⟨y, u, rfl, e⟩
      · exact nomatch e
      · injection e with e1 _; rw [e1]
  byValue := fun k v h => by
    rcases keyIs_shape h with ⟨i, t, rfl, rfl⟩ | ⟨x, t, rfl, rfl⟩ <;> rfl
  pyHash := fun hv h => by
    rcases keyIs_shape hv with ⟨i, t, rfl, rfl⟩ | ⟨x, t, rfl, rfl⟩
    · exact wpAny_pyHash_int h
    · exact wpAny_pyHash_str h
  eqBool := fun hu hv h => by
    rcases keyIs_shape hu with ⟨i, t, rfl, rfl⟩ | ⟨x, t, rfl, rfl⟩
    · rcases keyIs_shape hv with ⟨j, u, rfl, rfl⟩ | ⟨y, u, rfl, rfl⟩
      · rw [key_ll] at h; exact wpAny_eqBool_int h
      · rw [key_lr] at h; exact SeqAt.EqAt.int_str i t y u _ _ _ _ h
    · rcases keyIs_shape hv with ⟨j, u, rfl, rfl⟩ | ⟨y, u, rfl, rfl⟩
      · rw [key_rl] at h; exact SeqAt.EqAt.str_int x t j u _ _ _ _ h
      · rw [key_rr] at h; exact wpAny_eqBool_str h
  «strs» := fun k x t v h => by
    rcases keyIs_shape h with ⟨i, u, rfl, e⟩ | ⟨y, u, rfl, e⟩
    · exact nomatch e
    · injection e with e1 _
      subst e1
      cases v <;> rfl
theorem mixKind_int (prog : Program) (w : World) (i : Int) (t : Tok) : (mixKind prog w).is (.inl i) (.int i t) = true := keyIs_int i t
theorem mixKind_str (prog : Program) (w : World) (x : Str) (t : Tok) : (mixKind prog w).is (.inr x) (.str x t) = true := keyIs_str x t
inductive V where
  | non | bl (b : Bool) | int (i : Int) | str (x : Str) | byt (b : Array UInt8) | flt (b : UInt64) | ref (a : Addr) | ty (n : String)
  deriving DecidableEq
def RelV : V → Value → Prop
  | .non, u => u = Value.none
  | .bl b, u => u = Value.bool b
  | .int i, u => ∃ t, u = Value.int i t
  | .str x, u => ∃ t, u = Value.str x t
  | .byt b, u => ∃ t, u = Value.bytes b t
  | .flt b, u => ∃ t, u = Value.float b t
  | .ref a, u => u = Value.ref a
  | .ty n, u => u = Value.type n
abbrev Vals : List V → List Value → Prop := Paired RelV
theorem Vals.length (r : Vals xs us) : xs.length = us.length := Paired.length r
theorem Vals.get : ∀ {xs : List V} {us : List Value} {i : Nat} {x : V}, Vals xs us → xs[i]? = some x → ∃ u, us[i]? = some u ∧ RelV x u
  | _, _, _, _, .nil, e => by simp at e
  | _, _, 0, _, .cons r _, e => by simp at e; subst e; exact ⟨_, rfl, r⟩
  | _, _, i + 1, x, .cons _ t, e => by
    obtain ⟨u, h1, h2⟩ := Vals.get (i := i) (x := x) t (by simpa using e)
    exact ⟨u, by simpa using h1, h2⟩
theorem Vals.set (r : RelV x u) : ∀ {xs : List V} {us : List Value} (i : Nat), Vals xs us → Vals (xs.set i x) (us.set i u)
  | _, _, _, .nil => .nil
  | _, _, 0, .cons _ t => .cons r t
  | _, _, i + 1, .cons q t => .cons q (Vals.set r i t)
theorem Vals.append : ∀ {xs ys : List V} {us ws : List Value}, Vals xs us → Vals ys ws → Vals (xs ++ ys) (us ++ ws)
  | _, _, _, _, .nil, s => s
  | _, _, _, _, .cons r t, s => .cons r (Vals.append t s)
theorem Vals.take : ∀ {xs : List V} {us : List Value} (n : Nat), Vals xs us → Vals (xs.take n) (us.take n)
  | _, _, 0, _ => .nil
  | _, _, _ + 1, .nil => .nil
  | _, _, n + 1, .cons r t => .cons r (Vals.take n t)
theorem Vals.drop : ∀ {xs : List V} {us : List Value} (n : Nat), Vals xs us → Vals (xs.drop n) (us.drop n)
  | _, _, 0, r => r
  | _, _, _ + 1, .nil => .nil
  | _, _, n + 1, .cons _ t => Vals.drop n t
def RelO : Option V → Option Value → Prop
  | some v, some u => RelV v u
  | none, none => True
  | _, _ => False
def KV {κ : Type} : List (κ × V) → List (κ × Value) → Prop := Paired fun (p : κ × V) (q : κ × Value) => p.1 = q.1 ∧ RelV p.2 q.2
def kV : Key → V
  | .inl i => .int i
  | .inr x => .str x
inductive HO where
  /-- a list -/
  | lst (xs : List V)
  /-- a tuple (never changes) -/
  | tup (xs : List V)
  /-- a dict whose keys are ints and texts; one whose keys are tuples of ints and texts (the empty one is both) -/
  | dK (kvs : List (Key × V)) | dT (kvs : List (List Key × V))
  /-- a set of ints: its members, its size -/
  | set (S : Int → Bool) (n : Nat)
  /-- an instance of the class at C, its dict at dx, its attributes -/
  | ins (C dx : Addr) (fs : List (Str × V))
  /-- the dict of the instance at x -/
  | own (x : Addr)
  /-- the dict of an exception -/
  | xd (fs : List (Str × V))
  /-- a bound method, f of x -/
  | met (f x : Addr)
  /-- a range object lo, lo + 1, .. below hi -/
  | rng (lo hi : Int)
  /-- a thing that is known to the object (the script; a dict while a loop walks it): read, never written while it is so -/
  | frz (o : Obj) (u : HO)
  /-- a code object's table -/
  | tbl (ps : Array Value)
  /-- any other thing, by what is true of its one object (a def of one's own: SetO a S n := HO.ext fun h => ..) -/
  | ext (φ : Heap → Prop)
abbrev Hp := Addr → Option HO
def upd (H : Hp) (a : Addr) (o : HO) : Hp := fun b => if b = a then some o else H b
theorem upd_same : upd H a o a = some o := by unfold upd; rw [if_pos rfl]
theorem upd_ne (h : b ≠ a) : upd H a o b = H b := by unfold upd; rw [if_neg h]
theorem ne_of {H : Hp} {a b : Addr} {o u : HO} (h : H a = some o) (h' : H b = some u) (d : o ≠ u) : a ≠ b := by
  intro e; subst e; rw [h] at h'; exact d (Option.some.inj h')
theorem ne_of_none {H : Hp} {a b : Addr} {o : HO} (h : H a = some o) (h' : H b = none) : a ≠ b := by
  intro e; subst e; rw [h] at h'; cases h'
def IsTupN (h : Heap) (a : Addr) (items : Array Value) : Prop := IsTup h a items ∧ ∃ o, h.get? a = some o ∧ o.dict = none
theorem IsTupN.new (h : Heap) (items : Array Value) : IsTupN (h.push { cls := .type "tuple", data := .seq items }) h.objs.size items := ⟨IsTup.new h items, _, get?_push_size _ rfl, rfl⟩
section
variable (P : Program) (w : World)
def ObjOk (H : Hp) (h : Heap) (a : Addr) : HO → Prop
  | .lst xs => xs.length ≤ sizeLine ∧ ∃ (its : List Value) (n : Nat), Vals xs its ∧ h.get? a = some { cls := .type "list", data := .seq its.toArray n }
  | .tup xs => xs.length ≤ sizeLine ∧ ∃ its : List Value, Vals xs its ∧ IsTupN h a its.toArray
  | .dK kvs => kvs.length ≤ sizeLine ∧ (a == sysModules) = false ∧ ∃ vs, KV kvs vs ∧ h.DictOf (mixKind P w) a vs
  | .dT kvs => kvs.length ≤ sizeLine ∧ (a == sysModules) = false ∧ ∃ xs : List (List Key × Addr × Value),
      Paired (fun (p : List Key × V) (q : List Key × Addr × Value) => p.1 = q.1 ∧ H q.2.1 = some (.tup (p.1.map kV)) ∧ RelV p.2 q.2.2) kvs xs ∧
      ∃ o es ep, h.get? a = some o ∧ o.ExactDict ∧ o.data = .dict es ep ∧ es.toList = xs.map (entryOfKey (tupleKind (mixKind P w))) ∧ (xs.map (·.1)).Nodup
  | .set S n => h.SetOf (intKind P w) a S n
  | .ins C dx fs => H dx = some (.own a) ∧ fs.length ≤ 1000 ∧ dx ≠ a ∧ h.get? a = some (PySem.W.instObj C dx) ∧
      ∃ mA, h.Ns1 dx mA ∧ (∀ f, RelO (fs.lookup f) (mA f)) ∧ PySem.Within mA (fs.map (·.1))
  | .own _ => ∃ o, h.get? a = some o
  | .xd fs => ∃ mA, h.Ns1 a mA ∧ ∀ f, RelO (fs.lookup f) (mA f)
  | .rng lo hi => ∃ t u v, h.get? a = some { cls := .type "range", data := .fields #[.int lo t, .int hi u, .int 1 v] }
  | .frz o u => h.get? a = some o ∧ ObjOk H h a u
  | .tbl ps => h.get? a = some { cls := .none, data := .fields ps }
  | .met f x => h.get? a = some (methodObj (.ref f) (.ref x))
  | .ext φ => φ h ∧ (∃ o, h.get? a = some o) ∧ ∀ h1 h2 : Heap, φ h1 → (∀ o, h1.get? a = some o → h2.get? a = some o) → φ h2
def HOk (H : Hp) (h : Heap) : Prop := ∀ a o, H a = some o → ObjOk P w H h a o
end
section
variable {P : Program} {w : World} {H H' : Hp} {h h' : Heap} {a : Addr} {o : HO}
theorem ObjOk.lt (x : ObjOk P w H h a o) : a < h.objs.size := by
  cases o with
  | lst xs => obtain ⟨_, _, _, _, e⟩ := x; exact lt_size e
  | tup xs => obtain ⟨_, _, _, p⟩ := x; exact p.1.lt
  | dK kvs => obtain ⟨_, _, _, _, o, _, _, e, _⟩ := x; exact lt_size e
  | dT kvs => obtain ⟨_, _, _, _, o, _, _, e, _⟩ := x; exact lt_size e
  | set S n => obtain ⟨o, _, _, _, e, _⟩ := x; exact lt_size e
  | ins C dx fs => obtain ⟨_, _, _, e, _⟩ := x; exact lt_size e
  | own y => obtain ⟨_, e⟩ := x; exact lt_size e
  | xd fs => obtain ⟨_, ⟨_, _, _, e, _⟩, _⟩ := x; exact lt_size e
  | rng lo hi => obtain ⟨_, _, _, e⟩ := x; exact lt_size e
  | frz ob u => obtain ⟨e, _⟩ := x; exact lt_size e
  | tbl ps => exact lt_size (show h.get? a = some _ from x)
  | met f y => exact lt_size (show h.get? a = some _ from x)
  | ext φ => obtain ⟨_, ⟨_, e⟩, _⟩ := x; exact lt_size e
theorem Paired.mapP {α β : Type} {F G : α → β → Prop} : ∀ {l₁ : List α} {l₂ : List β}, Paired F l₁ l₂ → (∀ a b, F a b → G a b) → Paired G l₁ l₂
  | _, _, .nil, _ => .nil
  | _, _, .cons r t, f => .cons (f _ _ r) (Paired.mapP t f)
theorem ObjOk.stay (x : ObjOk P w H h a o) (k : ∀ b u, (b = a ∨ H b = some (.own a)) → h.get? b = some u → h'.get? b = some u) (ho : ∀ b, H b = some (.own a) → H' b = some (.own a)) (ht : ∀ b xs, H b = some (.tup xs) → H' b = some (.tup xs)) : ObjOk P w H' h' a o := by
  induction o with
  | lst xs => obtain ⟨z, its, n, r, e⟩ := x; exact ⟨z, its, n, r, k _ _ (.inl rfl) e⟩
  | tup xs => obtain ⟨z, its, r, ⟨ob, e, c⟩, ob', e', d⟩ := x; exact ⟨z, its, r, ⟨ob, k _ _ (.inl rfl) e, c⟩, ob', k _ _ (.inl rfl) e', d⟩
  | dK kvs => obtain ⟨z, y, vs, r, ob, es, ep, e, c⟩ := x; exact ⟨z, y, vs, r, ob, es, ep, k _ _ (.inl rfl) e, c⟩
  | dT kvs =>
    obtain ⟨z, y, xs, r, ob, es, ep, e, c⟩ := x
    exact ⟨z, y, xs, Paired.mapP r fun p q z => ⟨z.1, ht _ _ z.2.1, z.2.2⟩, ob, es, ep, k _ _ (.inl rfl) e, c⟩
  | set S n => obtain ⟨ob, es, ep, t, e, c⟩ := x; exact ⟨ob, es, ep, t, k _ _ (.inl rfl) e, c⟩
  | ins C dx fs =>
    obtain ⟨d, z, ne, e, mA, ⟨od, es, ep, e2, c⟩, r⟩ := x
    exact ⟨ho _ d, z, ne, k _ _ (.inl rfl) e, mA, ⟨od, es, ep, k _ _ (.inr d) e2, c⟩, r⟩
  | own y => obtain ⟨ob, e⟩ := x; exact ⟨ob, k _ _ (.inl rfl) e⟩
  | xd fs => obtain ⟨mA, ⟨od, es, ep, e, c⟩, r⟩ := x; exact ⟨mA, ⟨od, es, ep, k _ _ (.inl rfl) e, c⟩, r⟩
  | rng lo hi => obtain ⟨t, u, v, e⟩ := x; exact ⟨t, u, v, k _ _ (.inl rfl) e⟩
  | frz ob u ih => obtain ⟨e, q⟩ := x; exact ⟨k _ _ (.inl rfl) e, ih q⟩
  | tbl ps =>
    have e : h.get? a = some { cls := .none, data := .fields ps } := x
    show h'.get? a = some { cls := .none, data := .fields ps }
    exact k a _ (.inl rfl) e
  | met f y =>
    have e : h.get? a = some (methodObj (.ref f) (.ref y)) := x
    show h'.get? a = some (methodObj (.ref f) (.ref y))
    exact k a _ (.inl rfl) e
  | ext φ => obtain ⟨p, ⟨o, e⟩, st⟩ := x; exact ⟨st _ _ p fun o q => k _ _ (.inl rfl) q, ⟨o, k _ _ (.inl rfl) e⟩, st⟩
theorem HOk.lt (x : HOk P w H h) (e : H a = some o) : a < h.objs.size := (x a o e).lt
theorem HOk.fresh (x : HOk P w H h) (e : h.objs.size ≤ a) : H a = none := by
  cases q : H a with
  | none => rfl
  | some u => exact absurd (lt_of_lt_of_le (x.lt q) e) (lt_irrefl _)
theorem HOk.kept (x : HOk P w H h) (k : ∀ b u, h.get? b = some u → h'.get? b = some u) : HOk P w H h' := fun a o e =>
  (x a o e).stay (fun b u _ q => k b u q) (fun _ q => q) fun _ _ q => q
theorem HOk.laid (x : HOk P w H h) (k : ∀ b u, h.get? b = some u → h'.get? b = some u) (hp : h.objs.size ≤ a) (new : ObjOk P w (upd H a o) h' a o) : HOk P w (upd H a o) h' := fun b u e => by
  have hn := x.fresh hp
  by_cases hb : b = a
  · subst hb; rw [upd_same] at e; cases e; exact new
  · rw [upd_ne hb] at e
    exact (x b u e).stay (fun c v _ q => k c v q) (fun c q => by rw [upd_ne (ne_of_none q hn)]; exact q) fun c xs q => by rw [upd_ne (ne_of_none q hn)]; exact q
end
def Rd (H : Hp) (a : Addr) (u : HO) : Prop := H a = some u ∨ ∃ o, H a = some (.frz o u)
theorem Rd.ok (r : Rd H a u) (x : HOk P w H h) : ObjOk P w H h a u := by
  rcases r with r | ⟨o, r⟩
  · exact x a u r
  · obtain ⟨_, q⟩ := x a _ r
    exact q
def Mut : Option HO → Prop
  | some (.lst _) => True
  | some (.dK _) => True
  | some (.dT _) => True
  | some (.set _ _) => True
  | some (.ins _ _ _) => True
  | some (.ext _) => True
  | _ => False
section
variable {P : Program} {w : World} {H : Hp} {h h' : Heap} {x e : Addr} {o' : HO}
theorem HOk.write (ok : HOk P w H h) (mu : Mut (H x)) (he : e = x ∨ H e = some (.own x)) (k : ∀ b u, b ≠ e → h.get? b = some u → h'.get? b = some u) (heo : ∃ u, h'.get? e = some u) (new : ObjOk P w (upd H x o') h' x o') : HOk P w (upd H x o') h' := fun b u q => by
  have nown : ∀ c y, H c = some (.own y) → c ≠ x := fun c y r z => by subst z; rw [r] at mu; exact mu
  have ntup : ∀ c xs, H c = some (.tup xs) → c ≠ x := fun c xs r z => by subst z; rw [r] at mu; exact mu
  by_cases hb : b = x
  · subst hb; rw [upd_same] at q; cases q; exact new
  · rw [upd_ne hb] at q
    by_cases hbe : b = e
    · have q' : H b = some (.own x) := by
        rcases he with z | z
        · exact absurd (hbe.trans z) hb
        · rw [hbe]; exact z
      rw [q] at q'; cases q'
      obtain ⟨v, hv⟩ := heo
      exact ⟨v, by rw [hbe]; exact hv⟩
    · refine (ok b u q).stay (fun c v hc r => k c v ?_ r) (fun c r => by rw [upd_ne (nown c b r)]; exact r) fun c xs r => by rw [upd_ne (ntup c xs r)]; exact r
      rcases hc with rfl | hc
      · exact hbe
      · rintro rfl
        rcases he with z | z
        · exact nown c b hc z
        · rw [hc] at z; cases z; exact hb rfl
end
structure Un (fs ex : List Addr) (H H' : Hp) (h h' : Heap) : Prop where
  keep : ∀ b o, h.get? b = some o → H b = none → b ∉ fs → b ∉ ex → h'.get? b = some o
  slot : ∀ b o, h.get? b = some o → H b = none → b ∈ fs → b ∉ ex → ∃ sl, h'.get? b = some { o with slots := sl }
  free : ∀ b o, h.get? b = some o → H b = none → b ∉ ex → H' b = none
  there : ∀ b o, h.get? b = some o → b ∉ ex → ∃ o', h'.get? b = some o'
  tups : ∀ b xs, H b = some (.tup xs) → H' b = some (.tup xs)
  frzs : ∀ b o u, H b = some (.frz o u) → H' b = some (.frz o u)
  tbls : ∀ b ps, H b = some (.tbl ps) → ∃ more, H' b = some (.tbl (ps ++ more))
section
variable {fs fs' ex ex' : List Addr} {H H1 H2 : Hp} {h h1 h2 h' : Heap} {a x e : Addr} {o : HO}
theorem Un.any (u : Un fs ex H H1 h h1) (q : h.get? b = some ob) (n : H b = none) (hx : b ∉ ex) : ∃ sl, h1.get? b = some { ob with slots := sl } := by
  by_cases hb : b ∈ fs
  · exact u.slot b ob q n hb hx
  · exact ⟨ob.slots, u.keep b ob q n hb hx⟩
theorem Un.kept (k : ∀ b u, h.get? b = some u → h'.get? b = some u) : Un fs ex H H h h' :=
  ⟨fun b ob q _ _ _ => k b ob q, fun b ob q _ _ _ => ⟨ob.slots, k b ob q⟩, fun _ _ _ n _ => n, fun b ob q _ => ⟨ob, k b ob q⟩, fun _ _ q => q, fun _ _ _ q => q, fun _ ps q => ⟨#[], by rw [q]; simp⟩⟩
theorem Un.refl : Un fs ex H H h h := Un.kept fun _ _ q => q
theorem Un.laid (k : ∀ b u, h.get? b = some u → h'.get? b = some u) (hp : h.objs.size ≤ a) (hn : H a = none) : Un fs ex H (upd H a o) h h' where
  keep := fun b u q _ _ _ => k b u q
  slot := fun b u q _ _ _ => ⟨u.slots, k b u q⟩
  free := fun b u q n _ => by rw [upd_ne (ne_of_lt (lt_of_lt_of_le (lt_size q) hp))]; exact n
  there := fun b u q _ => ⟨u, k b u q⟩
  tups := fun b xs q => by rw [upd_ne (ne_of_none q hn)]; exact q
  frzs := fun b u xs q => by rw [upd_ne (ne_of_none q hn)]; exact q
  tbls := fun b ps q => ⟨#[], by rw [upd_ne (ne_of_none q hn), q]; simp⟩
theorem Un.write (mu : Mut (H x)) (he : e = x ∨ H e = some (.own x)) (k : ∀ b u, b ≠ e → h.get? b = some u → h'.get? b = some u) (heo : ∃ u, h'.get? e = some u) : Un fs ex H (upd H x o) h h' := by
  have hx : ∀ b, H b = none → b ≠ x := fun b n z => by subst z; rw [n] at mu; exact mu
  have hb : ∀ b, H b = none → b ≠ e := fun b n z => by
    subst z
    rcases he with r | r
    · exact hx b n r
    · rw [n] at r; cases r
  have hm : ∀ b u, H b = some u → ¬ Mut (some u) → b ≠ x := fun b u q nm z => by subst z; rw [q] at mu; exact nm mu
  refine ⟨fun b u q n _ _ => k b u (hb b n) q, fun b u q n _ _ => ⟨u.slots, k b u (hb b n) q⟩, fun b u q n _ => by rw [upd_ne (hx b n)]; exact n, fun b u q _ => ?_,
    fun b xs q => by rw [upd_ne (hm b _ q fun z => z)]; exact q, fun b u xs q => by rw [upd_ne (hm b _ q fun z => z)]; exact q, fun b ps q => ⟨#[], by rw [upd_ne (hm b _ q fun z => z), q]; simp⟩⟩
  by_cases hbe : b = e
  · subst hbe; exact heo
  · exact ⟨u, k b u hbe q⟩
end
def trk (h : Heap) (H : Hp) : List Addr := (List.range h.objs.size).filter fun a => (H a).isSome
def hidT (h : Heap) (H : Hp) : Heap := PySem.W.hideAll h (trk h H)
theorem hidT_size (h : Heap) (H : Hp) : (hidT h H).objs.size = h.objs.size := PySem.W.hideAll_size _ _
theorem hidT_get (e : h.get? b = some o) (n : H b = none) : (hidT h H).get? b = some o :=
  PySem.W.hideAll_get _ e fun hm => by
    have q : (H b).isSome = true := (mem_filter.mp hm).2
    rw [n] at q; simp at q
theorem of_hidT (e : (hidT h H).get? b = some o) : h.get? b = some o ∧ H b = none := by
  have e' : h.get? b = some o := PySem.W.of_hideAll (trk h H) e
  refine ⟨e', ?_⟩
  cases q : H b with
  | none => rfl
  | some x =>
    have hm : b ∈ trk h H := mem_filter.mpr ⟨mem_range.mpr (lt_size e'), by simp [q]⟩
    have z : (hidT h H).get? b = none := PySem.W.hideAll_none (trk h H) hm
    rw [z] at e; cases e
def allNews (g h : Heap) (L : Addr) : List (Addr × Obj) := (List.range h.objs.size).filterMap fun a => if a = L ∨ (g.get? a).isSome = true then none else (h.get? a).map fun o => (a, o)
def rest (g h : Heap) (L d : Addr) : List (Addr × Obj) := (allNews g h L).filter fun p => decide (p.1 ≠ d)
structure Mod (K : Frag) (mg : Str → Option Value) (base : Heap) : Prop where
  kin : K.In base
  glob : base.Ns mainGlobals mg
  blt : ∃ mb, base.Ns builtinsNs mb ∧ ∀ x : Str, x ≠ "__name__" → mb x = bootBuiltins x
  nolimit : base.NoLimit
structure Cx where
  prog : Program
  w : World
  K : Frag
  mg : Str → Option Value
  base : Heap
  A : Around
  N : List Str
  s₀ : Shared
  H₀ : Hp
  env : Env
  outer : List Env
  stack : List Env
  ex : List Addr
  fn : Str → Bool
  calm : Bool
  pn : List (Addr × Obj)
  xe : Value → Shared → Prop
def frs (l : List Env) : List Addr := l.filterMap (·.frame)
abbrev Cx.fs (X : Cx) : List Addr := frs X.outer
def Vis (sc : Scope) (x : Str) : Prop := sc.names.lookup x = some .local ∨ sc.names.lookup x = some .cell ∨ sc.names.lookup x = some .free
def Loc (sc : Scope) (x : Str) : Prop := sc.names.lookup x = some .local ∨ sc.names.lookup x = some .cell
def Look (env : Env) (h : Heap) (m : Str → Option Value) (x : Str) (u : Value) : Prop :=
  (env.kindOf x = some .local ∧ m x = some u) ∨ ((env.kindOf x = some .cell ∨ env.kindOf x = some .free) ∧ ∃ c, env.cells.lookup x = some c ∧ h.IsCell c (some u))
structure Cx.Ok (X : Cx) : Prop where
  mod : Mod X.K X.mg X.base
  kind : X.env.scope.kind = .function
  glob : X.env.globals = mainGlobals
  blt : X.env.builtins = builtinsNs
  above : X.s₀.heap.objs.size ≤ X.env.locals
  inj : ∀ x y c, X.env.cells.lookup x = some c → X.env.cells.lookup y = some c → x = y
  has : ∀ x, (X.env.kindOf x = some .cell ∨ X.env.kindOf x = some .free) → ∃ c, X.env.cells.lookup x = some c
  cab : ∀ x c, X.fn x = true → X.env.cells.lookup x = some c → X.s₀.heap.objs.size ≤ c
  hd : X.calm = true → X.A.handled = none
  frames : X.A.frames = some X.stack
  stk : X.stack = X.outer ∨ (X.stack = X.env :: X.outer ∧ X.env.frame = some X.env.locals)
  exf : ∀ b ∈ X.ex, b ≠ X.env.locals ∧ ∀ x c, X.env.cells.lookup x = some c → c ≠ b
  bs : ∀ b o, X.base.get? b = some o → X.s₀.heap.get? b = some o ∧ X.H₀ b = none
  bsz : X.base.objs.size ≤ X.s₀.heap.objs.size
  noex : ∀ b o, X.base.get? b = some o → b ∉ X.ex
  exfs : ∀ b ∈ X.ex, b ∉ X.fs
  funs : X.s₀.heap.FunFrames X.base X.outer
  frf : ∀ b ∈ X.fs, X.H₀ b = none
structure Inv (X : Cx) (pins : List (Addr × Obj)) (σ : List (Option V)) (H : Hp) (s : Shared) : Prop where
  ok : X.Ok
  os : s.os = X.s₀.os
  bare : AllBare s.gens
  base : Un X.fs X.ex X.H₀ H X.s₀.heap s.heap
  loc : ∃ m, s.heap.Ns X.env.locals m ∧ ∀ (i : Nat) (x : Str) (v : V), X.N[i]? = some x → σ[i]? = some (some v) → Vis X.env.scope x → ∃ u, RelV v u ∧ Look X.env s.heap m x u
  cell : ∀ x c, X.env.cells.lookup x = some c → ∃ v, s.heap.IsCell c v
  free : H X.env.locals = none
  freeC : ∀ x c, X.env.cells.lookup x = some c → H c = none
  pin : ∀ p ∈ X.pn ++ pins, s.heap.get? p.1 = some p.2 ∧ H p.1 = none ∧ p.1 ≠ X.env.locals ∧ p.1 ∉ X.fs ∧ ∀ v, p.2.data ≠ .cell v
  hok : HOk X.prog X.w H s.heap
  len : σ.length = X.N.length
section
variable {X : Cx} {pins : List (Addr × Obj)} {σ : List (Option V)} {H H' : Hp} {s : Shared} {h' : Heap}
theorem Cx.Ok.nofr (ok : X.Ok) (e : X.base.get? b = some o) : b ∉ X.fs := fun hb => by
  have := (ok.funs.mem hb).1
  rw [e] at this; cases this
theorem Inv.bs (I : Inv X pins σ H s) : ∀ b o, X.base.get? b = some o → s.heap.get? b = some o ∧ H b = none := fun b o e =>
  ⟨I.base.keep b o (I.ok.bs b o e).1 (I.ok.bs b o e).2 (I.ok.nofr e) (I.ok.noex b o e), I.base.free b o (I.ok.bs b o e).1 (I.ok.bs b o e).2 (I.ok.noex b o e)⟩
theorem Inv.bk (I : Inv X pins σ H s) : ∀ b o, X.base.get? b = some o → s.heap.get? b = some o := fun b o e => (I.bs b o e).1
theorem Inv.mod (I : Inv X pins σ H s) : Mod X.K X.mg X.base := I.ok.mod
theorem Inv.kIn (I : Inv X pins σ H s) : X.K.In s.heap := I.ok.mod.kin.keeps I.bk
theorem Inv.lt (I : Inv X pins σ H s) : X.env.locals < s.heap.objs.size := let ⟨_, hn, _⟩ := I.loc; hn.lt
theorem Inv.sz (I : Inv X pins σ H s) : X.s₀.heap.objs.size ≤ s.heap.objs.size := le_trans I.ok.above (le_of_lt I.lt)
theorem Inv.nofs (I : Inv X pins σ H s) (h : s.heap.objs.size ≤ a) : a ∉ X.fs := fun hb => by
  obtain ⟨_, o, ho, _⟩ := I.ok.funs.mem hb
  exact absurd (lt_of_lt_of_le (lt_size ho) (le_trans I.sz h)) (lt_irrefl _)
theorem Inv.cne (I : Inv X pins σ H s) : ∀ x c, X.env.cells.lookup x = some c → c ≠ X.env.locals := fun x c e z => by
  obtain ⟨v, o, ho, hd⟩ := I.cell x c e
  obtain ⟨m, ⟨o', es, ep, ho', hd', _⟩, _⟩ := I.loc
  rw [z, ho'] at ho; cases ho; rw [hd'] at hd; cases hd
theorem Inv.funs (I : Inv X pins σ H s) : s.heap.FunFrames X.base X.outer := by
  have all : ∀ (l : List Env), (∀ b ∈ frs l, b ∈ X.fs) → X.s₀.heap.FunFrames X.base l → s.heap.FunFrames X.base l := by
    intro l
    induction l with
    | nil => intro _ _; trivial
    | cons env r ih =>
      intro hs hl
      obtain ⟨hk, ⟨L, o, hf, hn, ho, hd⟩, hr⟩ := hl
      have hL : L ∈ X.fs := hs L (by unfold frs; rw [filterMap_cons, hf]; exact mem_cons_self)
      obtain ⟨sl, e⟩ := I.base.slot L o ho (I.ok.frf L hL) hL fun z => I.ok.exfs L z hL
      exact ⟨hk, ⟨L, _, hf, hn, e, hd⟩, ih (fun b hb => hs b (by unfold frs; rw [filterMap_cons, hf]; exact mem_cons_of_mem _ hb)) hr⟩
  exact all X.outer (fun _ hb => hb) I.ok.funs
theorem Inv.stack (I : Inv X pins σ H s) : s.heap.FunFrames X.base X.stack := by
  rcases I.ok.stk with e | ⟨e, hf⟩
  · rw [e]; exact I.funs
  · rw [e]
    obtain ⟨m, hn, _⟩ := I.loc
    refine .cons (by rw [I.ok.kind]; decide) hf hn ?_ I.funs
    exact Heap.get?_none_of_le (le_trans I.ok.bsz I.ok.above)
theorem Inv.stkSub (I : Inv X pins σ H s) : ∀ b ∈ frs X.stack, b ∈ X.env.locals :: X.fs := fun b hb => by
  rcases I.ok.stk with e | ⟨e, hf⟩
  · rw [e] at hb; exact mem_cons_of_mem _ hb
  · rw [e] at hb
    unfold frs at hb
    rw [filterMap_cons, hf] at hb
    exact hb
theorem Inv.stkFree (I : Inv X pins σ H s) : ∀ b ∈ frs X.stack, H b = none := fun b hb => by
  rcases mem_cons.mp (I.stkSub b hb) with e | hb
  · rw [e]; exact I.free
  · obtain ⟨_, o, ho, _⟩ := I.ok.funs.mem hb
    exact I.base.free b o ho (I.ok.frf b hb) fun z => I.ok.exfs b z hb
theorem Inv.step {g' : Array GenState} {t' : Nat} {d' : Drawn} {ch : List Addr} (I : Inv X pins σ H s) (hch : ∀ b ∈ ch, (b ∈ X.ex ∨ X.s₀.heap.objs.size ≤ b) ∧ b ≠ X.env.locals ∧ (∀ x c, X.env.cells.lookup x = some c → c ≠ b) ∧ ∀ p ∈ X.pn ++ pins, p.1 ≠ b) (keep : ∀ b o, b ≠ X.env.locals → b ∉ X.fs → b ∉ ch → s.heap.get? b = some o → H b = none → h'.get? b = some o) (slot : ∀ b o, b ≠ X.env.locals → b ∈ X.fs → b ∉ ch → s.heap.get? b = some o → H b = none → ∃ sl, h'.get? b = some { o with slots := sl }) (free : ∀ b o, b ∉ ch → s.heap.get? b = some o → H b = none → H' b = none) (there : ∀ b o, b ∉ ch → s.heap.get? b = some o → ∃ o', h'.get? b = some o') (tups : ∀ b xs, H b = some (.tup xs) → H' b = some (.tup xs)) (frzs : ∀ b o u, H b = some (.frz o u) → H' b = some (.frz o u)) (tbls : ∀ b ps, H b = some (.tbl ps) → ∃ more, H' b = some (.tbl (ps ++ more))) (ns : ∀ m, s.heap.Ns X.env.locals m → h'.Ns X.env.locals m) (hok : HOk X.prog X.w H' h') (hg : AllBare g') :
    Inv X pins σ H' { s with heap := h', gens := g', drawn := d', toks := t' } := by
  have neL : ∀ b o, X.s₀.heap.get? b = some o → b ≠ X.env.locals := fun b o e => ne_of_lt (lt_of_lt_of_le (lt_size e) I.ok.above)
  have neC : ∀ b o, X.s₀.heap.get? b = some o → b ∉ X.ex → b ∉ ch := fun b o e hx hb => by
    rcases (hch b hb).1 with z | z
    · exact hx z
    · exact absurd (lt_of_lt_of_le (lt_size e) z) (lt_irrefl _)
  have cellK : ∀ x c, X.env.cells.lookup x = some c → ∀ v, s.heap.IsCell c v → h'.IsCell c v := fun x c e v ⟨o, ho, hd⟩ => by
    have nch : c ∉ ch := fun z => (hch c z).2.2.1 x c e rfl
    by_cases hc : c ∈ X.fs
    · obtain ⟨sl, q⟩ := slot c o (I.cne x c e) hc nch ho (I.freeC x c e)
      exact ⟨_, q, hd⟩
    · exact ⟨o, keep c o (I.cne x c e) hc nch ho (I.freeC x c e), hd⟩
  refine ⟨I.ok, I.os, hg, ⟨fun b o e n hb hx => ?_, fun b o e n hb hx => ?_, fun b o e n hx => ?_, fun b o e hx => ?_, fun b xs e => tups b xs (I.base.tups b xs e), fun b o xs e => frzs b o xs (I.base.frzs b o xs e), fun b ps e => ?_⟩, ?_, fun x c e => ?_, ?_, fun x c e => ?_, fun p hp => ?_, hok, I.len⟩
  · exact keep b o (neL b o e) hb (neC b o e hx) (I.base.keep b o e n hb hx) (I.base.free b o e n hx)
  · obtain ⟨sl, e1⟩ := I.base.slot b o e n hb hx
    obtain ⟨sl', e2⟩ := slot b _ (neL b o e) hb (neC b o e hx) e1 (I.base.free b o e n hx)
    exact ⟨sl', e2⟩
  · obtain ⟨o', e1⟩ := I.base.there b o e hx
    exact free b o' (neC b o e hx) e1 (I.base.free b o e n hx)
  · obtain ⟨o', e1⟩ := I.base.there b o e hx
    exact there b o' (neC b o e hx) e1
  · obtain ⟨m1, e1⟩ := I.base.tbls b ps e
    obtain ⟨m2, e2⟩ := tbls b _ e1
    exact ⟨m1 ++ m2, by rw [e2, Array.append_assoc]⟩
  · obtain ⟨m, hn, hl⟩ := I.loc
    refine ⟨m, ns m hn, fun i x v e1 e2 e3 => ?_⟩
    obtain ⟨u, r, l⟩ := hl i x v e1 e2 e3
    refine ⟨u, r, ?_⟩
    rcases l with l | ⟨k, c, e, z⟩
    · exact .inl l
    · exact .inr ⟨k, c, e, cellK x c e _ z⟩
  · obtain ⟨v, z⟩ := I.cell x c e
    exact ⟨v, cellK x c e v z⟩
  · obtain ⟨m, ⟨o, _, _, ho, _⟩, _⟩ := I.loc
    exact free _ o (fun z => (hch _ z).2.1 rfl) ho I.free
  · obtain ⟨v, o, ho, hd⟩ := I.cell x c e
    exact free c o (fun z => (hch c z).2.2.1 x c e rfl) ho (I.freeC x c e)
  · obtain ⟨e, n, ne, nf, d⟩ := I.pin p hp
    have nch : p.1 ∉ ch := fun z => (hch p.1 z).2.2.2 p hp rfl
    exact ⟨keep p.1 p.2 ne nf nch e n, free p.1 p.2 nch e n, ne, nf, d⟩
theorem Inv.stepN {g' : Array GenState} {t' : Nat} {d' : Drawn} {ch : List Addr} (I : Inv X pins σ H s) (hch : ∀ b ∈ ch, (b ∈ X.ex ∨ X.s₀.heap.get? b = none) ∧ b ≠ X.env.locals ∧ (∀ x c, X.env.cells.lookup x = some c → c ≠ b) ∧ ∀ p ∈ X.pn ++ pins, p.1 ≠ b) (keep : ∀ b o, b ≠ X.env.locals → b ∉ X.fs → b ∉ ch → s.heap.get? b = some o → H b = none → h'.get? b = some o) (slot : ∀ b o, b ≠ X.env.locals → b ∈ X.fs → b ∉ ch → s.heap.get? b = some o → H b = none → ∃ sl, h'.get? b = some { o with slots := sl }) (free : ∀ b o, b ∉ ch → s.heap.get? b = some o → H b = none → H' b = none) (there : ∀ b o, b ∉ ch → s.heap.get? b = some o → ∃ o', h'.get? b = some o') (tups : ∀ b xs, H b = some (.tup xs) → H' b = some (.tup xs)) (frzs : ∀ b o u, H b = some (.frz o u) → H' b = some (.frz o u)) (tbls : ∀ b ps, H b = some (.tbl ps) → ∃ more, H' b = some (.tbl (ps ++ more))) (ns : ∀ m, s.heap.Ns X.env.locals m → h'.Ns X.env.locals m) (hok : HOk X.prog X.w H' h') (hg : AllBare g') :
    Inv X pins σ H' { s with heap := h', gens := g', drawn := d', toks := t' } := by
  have neL : ∀ b o, X.s₀.heap.get? b = some o → b ≠ X.env.locals := fun b o e => ne_of_lt (lt_of_lt_of_le (lt_size e) I.ok.above)
  have neC : ∀ b o, X.s₀.heap.get? b = some o → b ∉ X.ex → b ∉ ch := fun b o e hx hb => by
    rcases (hch b hb).1 with z | z
    · exact hx z
    · rw [z] at e; cases e
  have cellK : ∀ x c, X.env.cells.lookup x = some c → ∀ v, s.heap.IsCell c v → h'.IsCell c v := fun x c e v ⟨o, ho, hd⟩ => by
    have nch : c ∉ ch := fun z => (hch c z).2.2.1 x c e rfl
    by_cases hc : c ∈ X.fs
    · obtain ⟨sl, q⟩ := slot c o (I.cne x c e) hc nch ho (I.freeC x c e)
      exact ⟨_, q, hd⟩
    · exact ⟨o, keep c o (I.cne x c e) hc nch ho (I.freeC x c e), hd⟩
  refine ⟨I.ok, I.os, hg, ⟨fun b o e n hb hx => ?_, fun b o e n hb hx => ?_, fun b o e n hx => ?_, fun b o e hx => ?_, fun b xs e => tups b xs (I.base.tups b xs e), fun b o xs e => frzs b o xs (I.base.frzs b o xs e), fun b ps e => ?_⟩, ?_, fun x c e => ?_, ?_, fun x c e => ?_, fun p hp => ?_, hok, I.len⟩
  · exact keep b o (neL b o e) hb (neC b o e hx) (I.base.keep b o e n hb hx) (I.base.free b o e n hx)
  · obtain ⟨sl, e1⟩ := I.base.slot b o e n hb hx
    obtain ⟨sl', e2⟩ := slot b _ (neL b o e) hb (neC b o e hx) e1 (I.base.free b o e n hx)
    exact ⟨sl', e2⟩
  · obtain ⟨o', e1⟩ := I.base.there b o e hx
    exact free b o' (neC b o e hx) e1 (I.base.free b o e n hx)
  · obtain ⟨o', e1⟩ := I.base.there b o e hx
    exact there b o' (neC b o e hx) e1
  · obtain ⟨m1, e1⟩ := I.base.tbls b ps e
    obtain ⟨m2, e2⟩ := tbls b _ e1
    exact ⟨m1 ++ m2, by rw [e2, Array.append_assoc]⟩
  · obtain ⟨m, hn, hl⟩ := I.loc
    refine ⟨m, ns m hn, fun i x v e1 e2 e3 => ?_⟩
    obtain ⟨u, r, l⟩ := hl i x v e1 e2 e3
    refine ⟨u, r, ?_⟩
    rcases l with l | ⟨k, c, e, z⟩
    · exact .inl l
    · exact .inr ⟨k, c, e, cellK x c e _ z⟩
  · obtain ⟨v, z⟩ := I.cell x c e
    exact ⟨v, cellK x c e v z⟩
  · obtain ⟨m, ⟨o, _, _, ho, _⟩, _⟩ := I.loc
    exact free _ o (fun z => (hch _ z).2.1 rfl) ho I.free
  · obtain ⟨v, o, ho, hd⟩ := I.cell x c e
    exact free c o (fun z => (hch c z).2.2.1 x c e rfl) ho (I.freeC x c e)
  · obtain ⟨e, n, ne, nf, d⟩ := I.pin p hp
    have nch : p.1 ∉ ch := fun z => (hch p.1 z).2.2.2 p hp rfl
    exact ⟨keep p.1 p.2 ne nf nch e n, free p.1 p.2 nch e n, ne, nf, d⟩
theorem Inv.un {t' : Nat} (I : Inv X pins σ H s) (u : Un X.fs [] H H' s.heap h') (hok : HOk X.prog X.w H' h') : Inv X pins σ H' { s with heap := h', toks := t' } := by
  obtain ⟨m, ⟨o, es, ep, ho, r⟩, _⟩ := id I.loc
  obtain ⟨sl, hL⟩ := u.any ho I.free (by simp)
  exact I.step (g' := s.gens) (d' := s.drawn) (ch := []) (fun _ z => nomatch z) (fun b o _ hb _ e n => u.keep b o e n hb (by simp)) (fun b o _ hb _ e n => u.slot b o e n hb (by simp)) (fun b o _ e n => u.free b o e n (by simp)) (fun b o _ e => u.there b o e (by simp)) u.tups u.frzs u.tbls (fun m' hm => by
    obtain ⟨o', es', ep', ho', r'⟩ := hm
    rw [ho] at ho'; cases ho'
    exact ⟨_, es', ep', hL, r'⟩) hok I.bare
theorem Inv.call {g' : Array GenState} {t' : Nat} {d' : Drawn} {ch : List Addr} (I : Inv X pins σ H s) (u : Un (frs X.stack) ch H H' s.heap h') (hok : HOk X.prog X.w H' h') (hg : AllBare g') (hch : ∀ b ∈ ch, (b ∈ X.ex ∨ X.s₀.heap.objs.size ≤ b) ∧ b ≠ X.env.locals ∧ (∀ x c, X.env.cells.lookup x = some c → c ≠ b) ∧ ∀ p ∈ X.pn ++ pins, p.1 ≠ b) :
    Inv X pins σ H' { s with heap := h', gens := g', drawn := d', toks := t' } := by
  obtain ⟨m, ⟨o, es, ep, ho, r⟩, _⟩ := id I.loc
  obtain ⟨sl, hL⟩ := u.any ho I.free fun z => (hch _ z).2.1 rfl
  exact I.step (ch := ch) hch (fun b o hL hb hc e n => u.keep b o e n (fun z => (mem_cons.mp (I.stkSub b z)).elim hL hb) hc) (fun b o _ _ hc e n => u.any e n hc) (fun b o hc e n => u.free b o e n hc) (fun b o hc e => u.there b o e hc) u.tups u.frzs u.tbls (fun m' hm => by
    obtain ⟨o', es', ep', ho', r'⟩ := hm
    rw [ho] at ho'; cases ho'
    exact ⟨_, es', ep', hL, r'⟩) hok hg
theorem Inv.turned {t' : Nat} {it : Addr} (I : Inv X pins σ H s) (k : ∀ b o, b ≠ it → s.heap.get? b = some o → h'.get? b = some o) (hn : H it = none) (hL : it ≠ X.env.locals) (h1 : it ∈ X.ex ∨ X.s₀.heap.objs.size ≤ it) (h2 : ∀ x c, X.env.cells.lookup x = some c → c ≠ it) (h3 : ∀ p ∈ X.pn ++ pins, p.1 ≠ it) : Inv X pins σ H { s with heap := h', toks := t' } := by
  have nit : ∀ b u, H b = some u → b ≠ it := fun b u e z => by rw [z, hn] at e; cases e
  refine I.step (g' := s.gens) (d' := s.drawn) (ch := [it]) (fun b hb => ?_) (fun b o _ _ hc e _ => k b o (fun z => hc (by simp [z])) e) (fun b o _ _ hc e _ => ⟨o.slots, k b o (fun z => hc (by simp [z])) e⟩) (fun _ _ _ _ n => n)
    (fun b o hc e => ⟨o, k b o (fun z => hc (by simp [z])) e⟩) (fun _ _ e => e) (fun _ _ _ e => e) (fun b ps e => ⟨#[], by rw [e]; simp⟩) (fun m hm => ?_) (fun b u e => ?_) I.bare
  · have e : b = it := by simpa using hb
    subst e
    exact ⟨h1, hL, h2, h3⟩
  · obtain ⟨o, es, ep, ho, r⟩ := hm
    exact ⟨o, es, ep, k _ o (Ne.symm hL) ho, r⟩
  · refine (I.hok b u e).stay (fun c v hc q => k c v ?_ q) (fun _ q => q) fun _ _ q => q
    rcases hc with z | z
    · rw [z]; exact nit b u e
    · exact nit c _ z
theorem Inv.tok (I : Inv X pins σ H s) (t : Nat) : Inv X pins σ H { s with toks := t } := I.un (h' := s.heap) (t' := t) Un.refl I.hok
theorem Inv.kept (I : Inv X pins σ H s) (k : ∀ b u, s.heap.get? b = some u → h'.get? b = some u) : Inv X pins σ H { s with heap := h', toks := t' } := I.un (Un.kept k) (I.hok.kept k)
theorem Inv.laid (I : Inv X pins σ H s) (k : ∀ b u, s.heap.get? b = some u → h'.get? b = some u) (hp : s.heap.objs.size ≤ a) (new : ObjOk X.prog X.w (upd H a o) h' a o) :
    Inv X pins σ (upd H a o) { s with heap := h', toks := t' } := I.un (Un.laid k hp (I.hok.fresh hp)) (I.hok.laid k hp new)
theorem Inv.write (I : Inv X pins σ H s) (mu : Mut (H x)) (he : e = x ∨ H e = some (.own x)) (k : ∀ b u, b ≠ e → s.heap.get? b = some u → h'.get? b = some u) (heo : ∃ u, h'.get? e = some u) (new : ObjOk X.prog X.w (upd H x o) h' x o) : Inv X pins σ (upd H x o) { s with heap := h', toks := t' } := I.un (Un.write mu he k heo) (I.hok.write mu he k heo new)
theorem Inv.pins_of (I : Inv X pins σ H s) (h : ∀ p ∈ pins', s.heap.get? p.1 = some p.2 ∧ H p.1 = none ∧ p.1 ≠ X.env.locals ∧ p.1 ∉ X.fs ∧ ∀ v, p.2.data ≠ .cell v) : Inv X pins' σ H s :=
  ⟨I.ok, I.os, I.bare, I.base, I.loc, I.cell, I.free, I.freeC, fun p hp => (mem_append.mp hp).elim (fun z => I.pin p (List.mem_append_left _ z)) (h p), I.hok, I.len⟩
theorem nodup_ix {N : List Str} (hN : N.Nodup) {i j : Nat} {x : Str} (a : N[i]? = some x) (b : N[j]? = some x) : i = j := by
  obtain ⟨h1, e1⟩ := List.getElem?_eq_some_iff.mp a
  obtain ⟨h2, e2⟩ := List.getElem?_eq_some_iff.mp b
  exact (List.getElem_inj hN).mp (e1.trans e2.symm)
theorem store_ok2 {M : Model} {A : Around} {E : Value → Shared → Prop} {i : Nat} {x : Str} {v : V} {u : Value} {Q : Unit → Shared → Prop} (I : Inv X pins σ H s) (hN : X.N.Nodup) (hi : X.N[i]? = some x) (hx : Loc X.env.scope x) (r : RelV v u) (h : ∀ s', Inv X pins (σ.set i (some v)) H s' → (∃ a, Heap.SameBut a s.heap s'.heap ∧ (a = X.env.locals ∨ X.env.cells.lookup x = some a)) → Q () s') (hf : X.fn x = true ∨ X.env.scope.names.lookup x = some .local := by first | exact .inl rfl | exact .inr rfl | assumption) : wpAny M A (storeName X.env x u) Q E s := by
  obtain ⟨m, hn, hl⟩ := id I.loc
  have hcls : (X.env.scope.kind == .class || (X.env.scope.kind == .module && X.env.locals != X.env.globals)) = false := by rw [I.ok.kind]; rfl
  have hiσ : i < σ.length := by rw [I.len]; exact (List.getElem?_eq_some_iff.mp hi).1
  have cne := I.cne
  have tracked : ∀ {a : Addr} {h' : Heap}, (∃ o, s.heap.get? a = some o ∧ H a = none) → Heap.SameBut a s.heap h' → HOk X.prog X.w H h' := fun {a h'} ha hs b ob e => by
    obtain ⟨_, _, hfree⟩ := ha
    refine (I.hok b ob e).stay (fun c w' hc q => (hs.2 c ?_).trans q) (fun _ q => q) fun _ _ q => q
    rintro rfl
    rcases hc with rfl | hc
    · rw [hfree] at e; cases e
    · rw [hfree] at hc; cases hc
  rcases hx with hk | hk
  · refine wpAny_storeName_local hk hn (fun h' hn' hs => ?_) hcls
    obtain ⟨oL, _, _, hoL, _⟩ := id hn
    refine h _ ⟨I.ok, I.os, I.bare, ⟨fun b o e n hb hx => ?_, fun b o e n hb hx => ?_, I.base.free, fun b o e hx => ?_, I.base.tups, I.base.frzs, I.base.tbls⟩, ⟨_, hn', fun j y v' e1 e2 e3 => ?_⟩, fun y c e => ?_, I.free, I.freeC, fun p hp => ?_, tracked ⟨oL, hoL, I.free⟩ hs, by simpa using I.len⟩ ⟨_, hs, .inl rfl⟩
    · exact (hs.2 b (ne_of_lt (lt_of_lt_of_le (lt_size e) I.ok.above))).trans (I.base.keep b o e n hb hx)
    · obtain ⟨sl, e1⟩ := I.base.slot b o e n hb hx
      exact ⟨sl, (hs.2 b (ne_of_lt (lt_of_lt_of_le (lt_size e) I.ok.above))).trans e1⟩
    · obtain ⟨o', e1⟩ := I.base.there b o e hx
      exact ⟨o', (hs.2 b (ne_of_lt (lt_of_lt_of_le (lt_size e) I.ok.above))).trans e1⟩
    · by_cases hj : j = i
      · subst hj
        rw [hi] at e1; cases e1
        rw [getElem?_set_self hiσ] at e2
        cases e2
        exact ⟨u, r, .inl ⟨hk, by simp⟩⟩
      · rw [getElem?_set_ne (Ne.symm hj)] at e2
        obtain ⟨u', r', q⟩ := hl j y v' e1 e2 e3
        refine ⟨u', r', ?_⟩
        rcases q with ⟨k, e⟩ | ⟨k, c, e, z⟩
        · refine .inl ⟨k, ?_⟩
          have : y ≠ x := fun e => hj (nodup_ix hN e1 (e ▸ hi))
          simp [this, e]
        · exact .inr ⟨k, c, e, z.sameBut hs (cne y c e)⟩
    · obtain ⟨w', z⟩ := I.cell y c e
      exact ⟨w', z.sameBut hs (cne y c e)⟩
    · obtain ⟨e, n, ne, nf, d⟩ := I.pin p hp
      exact ⟨(hs.2 p.1 ne).trans e, n, ne, nf, d⟩
  · have hfn : X.fn x = true := by
      rcases hf with z | z
      · exact z
      · rw [z] at hk; cases hk
    obtain ⟨c, hc⟩ := I.ok.has x (.inl hk)
    obtain ⟨w', z⟩ := I.cell x c hc
    refine wpAny_storeName_cell I.ok.kind hk hc z (fun h' hc' hs => ?_)
    obtain ⟨oc, hoc, hocd⟩ := id z
    refine h { s with heap := h' } ⟨I.ok, I.os, I.bare, ⟨fun b o e n hb hx => ?_, fun b o e n hb hx => ?_, I.base.free, fun b o e hx => ?_, I.base.tups, I.base.frzs, I.base.tbls⟩, ⟨m, hn.sameBut hs (Ne.symm (cne x c hc)), fun j y v' e1 e2 e3 => ?_⟩, fun y c' e => ?_, I.free, I.freeC, fun p hp => ?_, tracked ⟨oc, hoc, I.freeC x c hc⟩ hs, by simpa using I.len⟩ ⟨c, hs, .inr hc⟩
    · exact (hs.2 b (ne_of_lt (lt_of_lt_of_le (lt_size e) (I.ok.cab x c hfn hc)))).trans (I.base.keep b o e n hb hx)
    · obtain ⟨sl, e1⟩ := I.base.slot b o e n hb hx
      exact ⟨sl, (hs.2 b (ne_of_lt (lt_of_lt_of_le (lt_size e) (I.ok.cab x c hfn hc)))).trans e1⟩
    · obtain ⟨o', e1⟩ := I.base.there b o e hx
      exact ⟨o', (hs.2 b (ne_of_lt (lt_of_lt_of_le (lt_size e) (I.ok.cab x c hfn hc)))).trans e1⟩
    · by_cases hj : j = i
      · subst hj
        rw [hi] at e1; cases e1
        rw [getElem?_set_self hiσ] at e2
        cases e2
        exact ⟨u, r, .inr ⟨.inl hk, c, hc, hc'⟩⟩
      · rw [getElem?_set_ne (Ne.symm hj)] at e2
        obtain ⟨u', r', q⟩ := hl j y v' e1 e2 e3
        refine ⟨u', r', ?_⟩
        rcases q with q | ⟨k, c', e, z'⟩
        · exact .inl q
        · refine .inr ⟨k, c', e, z'.sameBut hs ?_⟩
          rintro rfl
          exact hj (nodup_ix hN e1 (I.ok.inj _ _ _ e hc ▸ hi))
    · by_cases hcc : c' = c
      · subst hcc; exact ⟨_, hc'⟩
      · obtain ⟨w2, z2⟩ := I.cell y c' e
        exact ⟨w2, z2.sameBut hs hcc⟩
    · obtain ⟨e, n, ne, nf, d⟩ := I.pin p hp
      refine ⟨(hs.2 p.1 ?_).trans e, n, ne, nf, d⟩
      intro q
      rw [q, hoc] at e
      have q' : oc = p.2 := Option.some.inj e
      exact d w' (by rw [← q']; exact hocd)
theorem store_ok (I : Inv X pins σ H s) (hN : X.N.Nodup) (hi : X.N[i]? = some x) (hx : Loc X.env.scope x) (r : RelV v u) (h : ∀ s', Inv X pins (σ.set i (some v)) H s' → Q () s') (hf : X.fn x = true ∨ X.env.scope.names.lookup x = some .local := by first | exact .inl rfl | exact .inr rfl | assumption) : wpAny M A (storeName X.env x u) Q E s :=
  store_ok2 I hN hi hx r (fun s' I' _ => h s' I') hf
theorem Inv.call' (I : Inv X pins σ H s) (ho : s'.os = s.os) (u : Un (frs X.stack) ch H H' s.heap s'.heap) (hok : HOk X.prog X.w H' s'.heap) (hg : AllBare s'.gens) (hch : ∀ b ∈ ch, (b ∈ X.ex ∨ X.s₀.heap.objs.size ≤ b) ∧ b ≠ X.env.locals ∧ (∀ x c, X.env.cells.lookup x = some c → c ≠ b) ∧ ∀ p ∈ X.pn ++ pins, p.1 ≠ b) : Inv X pins σ H' s' := by
  obtain ⟨h', g', d', t', o'⟩ := s'
  have e : o' = s.os := ho
  subst e
  exact I.call (g' := g') (t' := t') (d' := d') u hok hg hch
end
abbrev XK := Value → Option Addr → Hp → Prop
abbrev St := List (Option V)
abbrev VK := V → Hp → Prop
abbrev TE := St → Hp → VK → Prop
abbrev TT := St → Hp → (Bool → Hp → Prop) → Prop
abbrev TA := St → Hp → (List V → Hp → Prop) → Prop
structure Ends where
  nx : St → Hp → Prop
  rt : VK
  bk : St → Hp → Prop := fun _ _ => False
  ct : St → Hp → Prop := fun _ _ => False
abbrev TS := Ends → St → Hp → Prop
def EP (X : Cx) (pins : List (Addr × Obj)) (σ : St) (Q : VK) (u : Value) (s' : Shared) : Prop := ∃ v H', Inv X pins σ H' s' ∧ RelV v u ∧ Q v H'
def TP (X : Cx) (pins : List (Addr × Obj)) (σ : St) (Q : Bool → Hp → Prop) (b : Bool) (s' : Shared) : Prop := ∃ H', Inv X pins σ H' s' ∧ Q b H'
def AP (X : Cx) (pins : List (Addr × Obj)) (σ : St) (Q : List V → Hp → Prop) (us : List Value) (s' : Shared) : Prop := ∃ vs H', Inv X pins σ H' s' ∧ Vals vs us ∧ Q vs H'
def SP (X : Cx) (pins : List (Addr × Obj)) (D : Ends) (f : Flow) (s' : Shared) : Prop :=
  match f with
  | .next => ∃ σ' H', Inv X pins σ' H' s' ∧ D.nx σ' H'
  | .brk => ∃ σ' H', Inv X pins σ' H' s' ∧ D.bk σ' H'
  | .cont => ∃ σ' H', Inv X pins σ' H' s' ∧ D.ct σ' H'
  | .ret u => ∃ v σ' H', Inv X pins σ' H' s' ∧ RelV v u ∧ D.rt v H'
def PE (X : Cx) (e : Expr) (t : TE) : Prop :=
  ∀ (pins : List (Addr × Obj)) (s : Shared) (σ : St) (H : Hp) (Q : VK), Inv X pins σ H s → t σ H Q → wpAny (model X.prog X.w) X.A (eval e X.env) (EP X pins σ Q) X.xe s
def PT (X : Cx) (e : Expr) (t : TT) : Prop :=
  ∀ (pins : List (Addr × Obj)) (s : Shared) (σ : St) (H : Hp) (Q : Bool → Hp → Prop), Inv X pins σ H s → t σ H Q → wpAny (model X.prog X.w) X.A (isTrue e X.env (eval e X.env)) (TP X pins σ Q) X.xe s
def PW (X : Cx) (e : Expr) (t : TT) : Prop :=
  ∀ (whole : Sem Value) (pins : List (Addr × Obj)) (s : Shared) (σ : St) (H : Hp) (Q : Bool → Hp → Prop), Inv X pins σ H s → t σ H Q → wpAny (model X.prog X.w) X.A (isTrue e X.env whole) (TP X pins σ Q) X.xe s
theorem PW.pt (h : PW X e t) : PT X e t := h _
def PA (X : Cx) (es : List Expr) (t : TA) : Prop :=
  ∀ (pos : Pos) (pins : List (Addr × Obj)) (s : Shared) (σ : St) (H : Hp) (Q : List V → Hp → Prop), Inv X pins σ H s → t σ H Q → wpAny (model X.prog X.w) X.A (spliced (backTo pos (starEach es X.env))) (AP X pins σ Q) X.xe s
def PS (X : Cx) (st : Stmt) (t : TS) : Prop :=
  ∀ (pins : List (Addr × Obj)) (s : Shared) (σ : St) (H : Hp) (D : Ends), Inv X pins σ H s → t D σ H → wpAny (model X.prog X.w) X.A (exec st X.env) (SP X pins D) X.xe s
def PSs (X : Cx) (st : List Stmt) (t : TS) : Prop :=
  ∀ (pins : List (Addr × Obj)) (s : Shared) (σ : St) (H : Hp) (D : Ends), Inv X pins σ H s → t D σ H → wpAny (model X.prog X.w) X.A (execs st X.env) (SP X pins D) X.xe s
theorem thn {α : Type} {t : Sem α} {Q Q' : α → Shared → Prop} (h : wpAny M A t Q E s) (hQ : ∀ a s, Q a s → Q' a s) : wpAny M A t Q' E s := wpAny_mono h hQ fun _ _ x => x
section
variable {X : Cx}
theorem bin {a b : Expr} {ta tb : TE} (ha : PE X a ta) (hb : PE X b tb) {pins : List (Addr × Obj)} {s : Shared} {σ : St} {H : Hp} {R : V → V → Hp → Prop} (I : Inv X pins σ H s) (h : ta σ H fun x H1 => tb σ H1 fun y H2 => R x y H2) {α : Type} {Q : α → Shared → Prop} {f : Value → Value → Sem α} (hf : ∀ v u s2 x y H2, Inv X pins σ H2 s2 → RelV x v → RelV y u → R x y H2 → wpAny (model X.prog X.w) X.A (f v u) Q X.xe s2) :
    wpAny (model X.prog X.w) X.A (eval a X.env) (fun v s₁ => wpAny (model X.prog X.w) X.A (eval b X.env) (fun u s₂ => wpAny (model X.prog X.w) X.A (f v u) Q X.xe s₂) X.xe s₁) X.xe s := by
  refine thn (ha pins s σ H _ I h) fun v s1 ⟨x, H1, I1, r1, q1⟩ => ?_
  refine thn (hb pins s1 σ H1 _ I1 q1) fun u s2 ⟨y, H2, I2, r2, q2⟩ => ?_
  exact hf v u s2 x y H2 I2 r1 r2 q2
def tVar (i : Nat) : TE := fun σ H Q => ∃ v, σ[i]? = some (some v) ∧ Q v H
def tC (v : V) : TE := fun _ H Q => Q v H
theorem pe_var (hN : X.N[i]? = some x) (hv : Vis X.env.scope x) (hd : ZDbg x := by decide) (hcd : (x == ("__classdict__" : Str)) = false := by decide) : PE X (.Name x pos) (tVar i) := by
  intro pins s σ H Q I h
  obtain ⟨v, e, h⟩ := h
  obtain ⟨m, hn, hl⟩ := I.loc
  obtain ⟨u, r, l⟩ := hl i x v hN e hv
  have fin : EP X pins σ Q u s := ⟨v, H, I, r, h⟩
  rcases l with ⟨hk, hm⟩ | ⟨hk, c, hc, hcell⟩
  · exact wpAny_Name (wpAny_loadName_local I.ok.kind hk hn hm fin) hd
  · rcases hk with hk | hk
    · exact wpAny_Name (wpAny_loadName_cell I.ok.kind hk hc hcell fin) hd
    · exact wpAny_Name (wpAny_loadName_free I.ok.kind hk hc hcell fin hcd) hd
theorem pe_int {i j pos} : PE X (.Constant (.int i) j pos) (tC (.int i)) := fun _ _ _ H _ I h => wpAny_Constant_int ⟨.int i, H, I.tok _, ⟨_, rfl⟩, h⟩
theorem pe_bl {b j pos} : PE X (.Constant (.bool b) j pos) (tC (.bl b)) := fun _ _ _ H _ I h => Constant_bool ⟨.bl b, H, I, rfl, h⟩
theorem pe_non {j pos} : PE X (.Constant .none j pos) (tC .non) := fun _ _ _ H _ I h => Constant_none ⟨.non, H, I, rfl, h⟩
theorem pe_str {x j pos} : PE X (.Constant (.str x) j pos) (tC (.str x)) := fun _ _ _ H _ I h => Calls.Constant_str ⟨.str x, H, I.tok _, ⟨_, rfl⟩, h⟩
def Gl (X : Cx) (x : Str) : Prop := X.env.kindOf x = some .globalImplicit
theorem ld_glob (I : Inv X pins σ H s) (hg : Gl X x) (hm : X.mg x = some u) (h : Q u s) (hd : ZDbg x := by decide) : wpAny (model X.prog X.w) X.A (eval (.Name x pos) X.env) Q E s :=
  Calls.Name_function_global I.ok.kind hg (Calls.loadGlobal_global (by rw [I.ok.glob]; exact I.mod.glob.keeps I.bk) hm h) hd
theorem ld_blt (I : Inv X pins σ H s) (hg : Gl X x) (hm : X.mg x = none) (hv : bootBuiltins x = some u) (h : Q u s) (hn : x ≠ "__name__" := by decide) (hd : ZDbg x := by decide) : wpAny (model X.prog X.w) X.A (eval (.Name x pos) X.env) Q E s := by
  obtain ⟨mb, h1, h2⟩ := I.mod.blt
  exact Calls.Name_function_global I.ok.kind hg (Calls.loadGlobal_builtin (by rw [I.ok.glob]; exact I.mod.glob.keeps I.bk) hm (by rw [I.ok.blt]; exact h1.keeps I.bk) ((h2 x hn).trans hv) h) hd
theorem pe_glob (hg : Gl X x) (hm : X.mg x = some u) (r : RelV v u) (hd : ZDbg x := by decide) : PE X (.Name x pos) (tC v) :=
  fun _ _ _ H _ I h => ld_glob I hg hm ⟨v, H, I, r, h⟩ hd
theorem pe_bltn (hg : Gl X x) (hm : X.mg x = none) (hv : bootBuiltins x = some u) (r : RelV v u) (hn : x ≠ "__name__" := by decide) (hd : ZDbg x := by decide) : PE X (.Name x pos) (tC v) :=
  fun _ _ _ H _ I h => ld_blt I hg hm hv ⟨v, H, I, r, h⟩ hn hd
variable {a b : Expr} {ta tb : TE} {pos : Pos}
variable {tA tB' : TT} {rest : List Expr}
def tAnd (t u : TT) : TT := fun σ H Q => t σ H fun c H1 => if c = true then u σ H1 Q else Q false H1
def tOr (t u : TT) : TT := fun σ H Q => t σ H fun c H1 => if c = true then Q true H1 else u σ H1 Q
def tNot (t : TT) : TT := fun σ H Q => t σ H fun c H1 => Q (!c) H1
theorem pw_and1 (ha : PT X a tA) : PW X (.BoolOp .And [a] pos) tA := by
  intro wh pins s σ H Q I h
  refine isTrue_and (thn (ha pins s σ H Q I h) fun c s1 e => ?_)
  cases c with
  | true => exact isTrue_and_nil e
  | false => exact e
theorem pw_or1 (ha : PT X a tA) : PW X (.BoolOp .Or [a] pos) tA := by
  intro wh pins s σ H Q I h
  refine isTrue_or (thn (ha pins s σ H Q I h) fun c s1 e => ?_)
  cases c with
  | false => exact isTrue_or_nil e
  | true => exact e
theorem pw_and (ha : PT X a tA) (hb : PW X (.BoolOp .And (b :: rest) pos) tB') : PW X (.BoolOp .And (a :: b :: rest) pos) (tAnd tA tB') := by
  intro wh pins s σ H Q I h
  refine isTrue_and (thn (ha pins s σ H _ I h) fun c s1 ⟨H1, I1, q1⟩ => ?_)
  cases c with
  | true => exact hb wh pins s1 σ H1 Q I1 q1
  | false => exact ⟨H1, I1, q1⟩
theorem pw_or (ha : PT X a tA) (hb : PW X (.BoolOp .Or (b :: rest) pos) tB') : PW X (.BoolOp .Or (a :: b :: rest) pos) (tOr tA tB') := by
  intro wh pins s σ H Q I h
  refine isTrue_or (thn (ha pins s σ H _ I h) fun c s1 ⟨H1, I1, q1⟩ => ?_)
  cases c with
  | true => exact ⟨H1, I1, q1⟩
  | false => exact hb wh pins s1 σ H1 Q I1 q1
theorem pt_not (ha : PT X a tA) : PT X (.UnaryOp .Not a pos) (tNot tA) := by
  intro pins s σ H Q I h
  exact isTrue_not (ha pins s σ H (fun c H1 => Q (!c) H1) I h)
def tAndV (ta tb : TE) : TE := fun σ H Q => ta σ H fun x H1 => ∃ c, x = .bl c ∧ if c = true then tb σ H1 Q else Q (.bl false) H1
theorem pe_one {op} (h : PE X a t) : PE X (.BoolOp op [a] pos) t := fun pins s σ H Q I hw => BoolOp_one (h pins s σ H Q I hw)
theorem pe_and (ha : PE X a ta) (hb : PE X (.BoolOp .And (b :: rest) pos) tb) : PE X (.BoolOp .And (a :: b :: rest) pos) (tAndV ta tb) := by
  intro pins s σ H Q I h
  refine BoolOp_and (thn (ha pins s σ H _ I h) fun v s1 ⟨x, H1, I1, r1, q1⟩ => ?_)
  obtain ⟨c, rfl, q1⟩ := q1
  cases r1
  refine wpAny_truthy_bool ?_
  cases c with
  | true => exact hb pins s1 σ H1 Q I1 q1
  | false => exact ⟨.bl false, H1, I1, rfl, q1⟩
def tIf (t : TT) (ta tb : TE) : TE := fun σ H Q => t σ H fun c H1 => if c = true then ta σ H1 Q else tb σ H1 Q
theorem pe_ifExp (hc : PT X c tA) (ha : PE X a ta) (hb : PE X b tb) : PE X (.IfExp c a b pos) (tIf tA ta tb) := by
  intro pins s σ H Q I h
  refine wpAny_IfExp (thn (hc pins s σ H _ I h) fun d s1 ⟨H1, I1, q1⟩ => ?_)
  cases d with
  | true => exact ha pins s1 σ H1 Q I1 q1
  | false => exact hb pins s1 σ H1 Q I1 q1
end
def SqL (K : Frag) (H : Hp) (a : Addr) (xs : List V) : Prop :=
  Rd H a (.lst xs) ∨
    ∃ (o : Obj) (its : Array Value) (n : Nat), K.lookup a = some o ∧ o.cls = .type "list" ∧ o.dict = none ∧ o.data = .seq its n ∧ its.size ≤ sizeLine ∧ Vals xs its.toList
def SqT (K : Frag) (H : Hp) (a : Addr) (xs : List V) : Prop :=
  Rd H a (.tup xs) ∨
    ∃ (o : Obj) (its : Array Value) (n : Nat), K.lookup a = some o ∧ o.cls = .type "tuple" ∧ o.dict = none ∧ o.data = .seq its n ∧ its.size ≤ sizeLine ∧ Vals xs its.toList
def absV : Value → Option V
  | .none => some .non
  | .bool b => some (.bl b)
  | .int i _ => some (.int i)
  | .str x _ => some (.str x)
  | .bytes b _ => some (.byt b)
  | .float b _ => some (.flt b)
  | .ref a => some (.ref a)
  | .type n => some (.ty n)
  | _ => none
theorem RelV.abs (r : RelV x u) : absV u = some x := by
  cases x with
  | non => cases r; rfl
  | bl _ => cases r; rfl
  | int _ => obtain ⟨t, rfl⟩ := r; rfl
  | str _ => obtain ⟨t, rfl⟩ := r; rfl
  | byt _ => obtain ⟨t, rfl⟩ := r; rfl
  | flt _ => obtain ⟨t, rfl⟩ := r; rfl
  | ref _ => cases r; rfl
  | ty _ => cases r; rfl
theorem RelV.inj (r : RelV x u) (q : RelV y u) : x = y := Option.some.inj (r.abs.symm.trans q.abs)
theorem Vals.inj : ∀ {xs ys : List V} {us : List Value}, Vals xs us → Vals ys us → xs = ys
  | _, _, _, .nil, .nil => rfl
  | _, _, _, .cons r t, .cons r' t' => by rw [r.inj r', Vals.inj t t']
section
variable {X : Cx} {pins : List (Addr × Obj)} {σ : St} {H : Hp} {s : Shared} {a : Addr} {xs ys : List V}
theorem SqL.of {K : Frag} (h : H a = some (.lst xs)) : SqL K H a xs := .inl (.inl h)
theorem SqT.of {K : Frag} (h : H a = some (.tup xs)) : SqT K H a xs := .inl (.inl h)
theorem Inv.list (I : Inv X pins σ H s) (h : SqL X.K H a xs) : ∃ its : List Value, Vals xs its ∧ PlainL s.heap a its.toArray ∧ xs.length ≤ sizeLine := by
  rcases h with h | ⟨o, its, n, hk, hc, hd, hs, hz, r⟩
  · obtain ⟨z, its, n, r, e⟩ := h.ok I.hok
    exact ⟨its, r, ⟨_, n, e, rfl, rfl, rfl⟩, z⟩
  · refine ⟨its.toList, r, ⟨o, n, I.kIn a o hk, hc, hd, by simpa using hs⟩, ?_⟩
    have e := r.length
    erw [Array.length_toList] at e
    lia
theorem Inv.tuple (I : Inv X pins σ H s) (h : SqT X.K H a xs) : ∃ its : List Value, Vals xs its ∧ IsTup s.heap a its.toArray ∧ xs.length ≤ sizeLine := by
  rcases h with h | ⟨o, its, n, hk, hc, _, hs, hz, r⟩
  · obtain ⟨z, its, r, p⟩ := h.ok I.hok
    exact ⟨its, r, p.1, z⟩
  · refine ⟨its.toList, r, ⟨o, I.kIn a o hk, hc, n, by simpa using hs⟩, ?_⟩
    have e := r.length
    erw [Array.length_toList] at e
    lia
theorem Inv.list_inj (I : Inv X pins σ H s) (h : SqL X.K H a xs) (h' : SqL X.K H a ys) : xs = ys := by
  obtain ⟨its, r, ⟨o, n, e, _, _, d⟩, _⟩ := I.list h
  obtain ⟨its', r', ⟨o', n', e', _, _, d'⟩, _⟩ := I.list h'
  rw [e] at e'; cases e'
  rw [d] at d'
  injection d' with d1 _
  have : its = its' := by simpa using congrArg Array.toList d1
  subst this
  exact r.inj r'
theorem Inv.tuple_inj (I : Inv X pins σ H s) (h : SqT X.K H a xs) (h' : SqT X.K H a ys) : xs = ys := by
  obtain ⟨its, r, ⟨o, e, _, n, d⟩, _⟩ := I.tuple h
  obtain ⟨its', r', ⟨o', e', _, n', d'⟩, _⟩ := I.tuple h'
  rw [e] at e'; cases e'
  rw [d] at d'
  injection d' with d1 _
  have : its = its' := by simpa using congrArg Array.toList d1
  subst this
  exact r.inj r'
end
abbrev Cx.wish (X : Cx) (E : Value → Shared → Prop) : Cx := { X with xe := E }
abbrev Cx.nox (X : Cx) : Cx := X.wish fun _ _ => False
theorem Cx.Ok.wish {X : Cx} (ok : X.Ok) (E : Value → Shared → Prop) : (X.wish E).Ok :=
  ⟨ok.mod, ok.kind, ok.glob, ok.blt, ok.above, ok.inj, ok.has, ok.cab, ok.hd, ok.frames, ok.stk, ok.exf, ok.bs, ok.bsz, ok.noex, ok.exfs, ok.funs, ok.frf⟩
theorem Cx.Ok.unwish {X : Cx} {E : Value → Shared → Prop} (ok : (X.wish E).Ok) : X.Ok :=
  ⟨ok.mod, ok.kind, ok.glob, ok.blt, ok.above, ok.inj, ok.has, ok.cab, ok.hd, ok.frames, ok.stk, ok.exf, ok.bs, ok.bsz, ok.noex, ok.exfs, ok.funs, ok.frf⟩
section
variable {X : Cx} {pins : List (Addr × Obj)} {σ : St} {H : Hp} {s : Shared} {E : Value → Shared → Prop}
theorem Inv.wish (I : Inv X pins σ H s) (E : Value → Shared → Prop) : Inv (X.wish E) pins σ H s := ⟨I.ok.wish E, I.os, I.bare, I.base, I.loc, I.cell, I.free, I.freeC, I.pin, I.hok, I.len⟩
theorem Inv.unwish (I : Inv (X.wish E) pins σ H s) : Inv X pins σ H s := ⟨I.ok.unwish, I.os, I.bare, I.base, I.loc, I.cell, I.free, I.freeC, I.pin, I.hok, I.len⟩
theorem SP.unwish (h : SP (X.wish E) pins D f s') : SP X pins D f s' := by
  cases f with
  | next => obtain ⟨σ', H', I, q⟩ := h; exact ⟨σ', H', I.unwish, q⟩
  | brk => obtain ⟨σ', H', I, q⟩ := h; exact ⟨σ', H', I.unwish, q⟩
  | cont => obtain ⟨σ', H', I, q⟩ := h; exact ⟨σ', H', I.unwish, q⟩
  | ret u => obtain ⟨v, σ', H', I, r, q⟩ := h; exact ⟨v, σ', H', I.unwish, r, q⟩
theorem PSs.nox {st : List Stmt} {t : TS} (h : PSs X.nox st t) : PSs X st t := fun pins s σ H D I hw =>
  wpAny_mono (h pins s σ H D (I.wish _) hw) (fun _ _ q => q.unwish) fun _ _ z => False.elim z
end
section
variable {X : Cx} {st : Stmt} {rest : List Stmt} {t u : TS} {e : Expr} {te : TE} {pos : Pos}
def tNext : TS := fun D σ H => D.nx σ H
def tSeq (t u : TS) : TS := fun D σ H => t { D with nx := u D } σ H
theorem pss_nil : PSs X [] tNext := fun _ _ σ H _ I h => wpAny_execs_nil ⟨σ, H, I, h⟩
theorem pss_cons (h1 : PS X st t) (h2 : PSs X rest u) : PSs X (st :: rest) (tSeq t u) := by
  intro pins s σ H D I h
  refine wpAny_execs_cons (thn (h1 pins s σ H { D with nx := u D } I h) fun f s1 q => ?_)
  cases f with
  | next =>
    obtain ⟨σ', H', I', q⟩ := q
    exact h2 pins s1 σ' H' D I' q
  | ret v => exact q
  | brk => exact q
  | cont => exact q
theorem Inv.quiet (I : Inv X pins σ H s) : interactive X.env = false := by simp [interactive, I.ok.kind]
def tDrop (te : TE) : TS := fun D σ H => te σ H fun _ H1 => D.nx σ H1
theorem ps_expr (he : PE X e te) (hs : swapsWith e none pos.line X.env = pure false := by rfl) : PS X (.Expr e pos) (tDrop te) := by
  intro pins s σ H D I h
  exact wpAny_Expr_any (thn (he pins s σ H _ I h) fun v s1 ⟨x, H1, I1, r1, q1⟩ => ⟨σ, H1, I1, q1⟩) I.quiet hs
def tRet (te : TE) : TS := fun D σ H => te σ H D.rt
theorem ps_ret (he : PE X e te) : PS X (.Return (some e) pos) (tRet te) := by
  intro pins s σ H D I h
  exact wpAny_Return_some (thn (he pins s σ H _ I h) fun v s1 ⟨x, H1, I1, r1, q1⟩ => ⟨x, σ, H1, I1, r1, q1⟩)
def tIfS (c : TT) (t u : TS) : TS := fun D σ H => c σ H fun b H1 => if b = true then t D σ H1 else u D σ H1
theorem ps_if (hc : PT X c tc) (ha : PSs X a t) (hb : PSs X b u) : PS X (.If c a b pos) (tIfS tc t u) := by
  intro pins s σ H D I h
  refine wpAny_If (thn (hc pins s σ H _ I h) fun d s1 ⟨H1, I1, q1⟩ => ?_)
  cases d with
  | true => exact ha pins s1 σ H1 D I1 q1
  | false => exact hb pins s1 σ H1 D I1 q1
end
abbrev TG := V → St → Hp → (St → Hp → Prop) → Prop
abbrev TGs := List V → St → Hp → (St → Hp → Prop) → Prop
def PG (X : Cx) (target : Expr) (t : TG) : Prop :=
  ∀ (pins : List (Addr × Obj)) (s : Shared) (σ : St) (H : Hp) (v : V) (u : Value) (Q : St → Hp → Prop), Inv X pins σ H s → RelV v u → t v σ H Q →
    wpAny (model X.prog X.w) X.A (assign target X.env u) (fun _ s' => ∃ σ' H', Inv X pins σ' H' s' ∧ Q σ' H') X.xe s
def PGs (X : Cx) (ts : List Expr) (t : TGs) : Prop :=
  ∀ (pins : List (Addr × Obj)) (s : Shared) (σ : St) (H : Hp) (vs : List V) (us : List Value) (Q : St → Hp → Prop), Inv X pins σ H s → Vals vs us → t vs σ H Q →
    wpAny (model X.prog X.w) X.A (assignInOrder ((assignEach ts X.env).map (·.2)) us) (fun _ s' => ∃ σ' H', Inv X pins σ' H' s' ∧ Q σ' H') X.xe s
abbrev TSet := V → V → V → Hp → (Hp → Prop) → Prop
def PSet (X : Cx) (t : TSet) : Prop :=
  ∀ (pins : List (Addr × Obj)) (s : Shared) (σ : St) (H : Hp) (o i v : V) (ov iv u : Value) (Q : Hp → Prop), Inv X pins σ H s → RelV o ov → RelV i iv → RelV v u → t o i v H Q →
    wpAny (model X.prog X.w) X.A (setItem ov iv u) (fun _ s' => ∃ H', Inv X pins σ H' s' ∧ Q H') X.xe s
section
variable {X : Cx} {pos : Pos}
def gName (i : Nat) : TG := fun v σ H Q => Q (σ.set i (some v)) H
theorem pg_name (hN : X.N.Nodup) (hi : X.N[i]? = some x) (hx : Loc X.env.scope x) (hf : X.fn x = true ∨ X.env.scope.names.lookup x = some .local := by first | exact .inl rfl | exact .inr rfl | assumption) : PG X (.Name x pos) (gName i) := by
  intro pins s σ H v u Q I r h
  exact wpAny_assign_Name (store_ok I hN hi hx r (fun s' I' => ⟨_, H, I', h⟩) hf)
def gNil : TGs := fun vs σ H Q => vs = [] ∧ Q σ H
def gCons (t : TG) (u : TGs) : TGs := fun vs σ H Q => ∃ v r, vs = v :: r ∧ t v σ H fun σ' H' => u r σ' H' Q
theorem pgs_nil : PGs X [] gNil := by
  intro pins s σ H vs us Q I r h
  obtain ⟨e, h⟩ := h
  subst e
  cases r
  exact assignInOrder_nil ⟨σ, H, I, h⟩
theorem pgs_cons (h1 : PG X e t) (h2 : PGs X es u) (hs : (assignEach (e :: es) X.env).map (·.2) = assign e X.env :: (assignEach es X.env).map (·.2) := by rfl) : PGs X (e :: es) (gCons t u) := by
  intro pins s σ H vs us Q I r h
  obtain ⟨v, vr, e1, h⟩ := h
  subst e1
  cases r with
  | cons r rr =>
    rw [hs]
    refine assignInOrder_cons (thn (h1 pins s σ H _ _ _ I r h) fun _ s1 ⟨σ1, H1, I1, q1⟩ => ?_)
    exact h2 pins s1 σ1 H1 _ _ Q I1 rr q1
def gTup (K : Frag) (n : Nat) (t : TGs) : TG := fun v σ H Q => ∃ a xs, v = .ref a ∧ SqT K H a xs ∧ xs.length = n ∧ t xs σ H Q
theorem pg_tup (hc : X.calm = true) (h : PGs X es t) (hn : (assignEach es X.env).length = n := by rfl) (hst : (assignEach es X.env).findIdx? (·.1) = none := by rfl) : PG X (.Tuple es k pos) (gTup X.K n t) := by
  intro pins s σ H v u Q I r hw
  obtain ⟨a, xs, e1, hq, hl, hw⟩ := hw
  subst e1
  cases r
  obtain ⟨its, rv, ht, hz⟩ := I.tuple hq
  refine assign_Tuple_tuple (I.ok.hd hc) ht (by simp [hn, ← hl, rv.length]) hst fun h' hx => ?_
  have I1 : Inv X pins σ H { s with heap := h' } := I.kept (t' := s.toks) fun b o e => hx b o (ne_of_lt (lt_size e)) e
  exact h pins _ σ H xs _ Q I1 (by simpa using rv) hw
def gSub (to ti : TE) (t : TSet) : TG := fun v σ H Q => to σ H fun o H1 => ti σ H1 fun i H2 => t o i v H2 fun H3 => Q σ H3
theorem pg_sub (ho : PE X o to) (hi : PE X i ti) (hs : PSet X t) (ha : ∀ v, assign (.Subscript o i pos) X.env v = (do
      let ov ← holding [v] (eval o X.env)
      let iv ← holding [v, ov] (eval i X.env)
      standAt pos
      holding [v, ov, iv] (setItem ov iv v)
      release [v, ov, iv] []) := by intro _; rfl) : PG X (.Subscript o i pos) (gSub to ti t) := by
  intro pins s σ H v u Q I r h
  rw [ha]
  refine wpAny_bind (wpAny_holding (thn (ho pins s σ H _ I h) fun ov s1 ⟨x, H1, I1, r1, q1⟩ => ?_))
  refine wpAny_bind (wpAny_holding (thn (hi pins s1 σ H1 _ I1 q1) fun iv s2 ⟨y, H2, I2, r2, q2⟩ => ?_))
  refine wpAny_bind (wpAny_standAt (wpAny_bind (wpAny_holding (thn (hs pins s2 σ H2 x y v ov iv u _ I2 r1 r2 r q2) fun _ s3 ⟨H3, I3, q3⟩ => ?_))))
  exact wpAny_release ⟨σ, H3, I3, q3⟩
def tAsg (te : TE) (g : TG) : TS := fun D σ H => te σ H fun x H1 => g x σ H1 D.nx
theorem ps_asg (he : PE X e te) (hg : PG X tg g) (hs : swapsWithSole [tg] e pos.line X.env = pure false := by rfl) (hw : swappedStores [tg] e X.env = pure none := by rfl) (h1 : (assignEach [tg] X.env).map (·.2) = [assign tg X.env] := by rfl) : PS X (.Assign [tg] e pos) (tAsg te g) := by
  intro pins s σ H D I h
  refine wpAny_Assign_stores (thn (he pins s σ H _ I h) fun v s1 ⟨x, H1, I1, r1, q1⟩ => ?_) hs hw
  rw [h1]
  exact thn (hg pins s1 σ H1 x v _ I1 r1 q1) fun _ s2 q => q
theorem ps_set (hN : X.N.Nodup) (hi : X.N[i]? = some x) (hx : Loc X.env.scope x) (he : PE X e te) (hs : swapsWith e (some (.Name x pos')) pos.line X.env = pure false := by rfl) (hf : X.fn x = true ∨ X.env.scope.names.lookup x = some .local := by first | exact .inl rfl | exact .inr rfl | assumption) :
    PS X (.Assign [.Name x pos'] e pos) (tAsg te (gName i)) := by
  intro pins s σ H D I h
  refine wpAny_Assign_Name (thn (he pins s σ H _ I h) fun v s1 ⟨y, H1, I1, r1, q1⟩ => ?_) hs
  exact store_ok I1 hN hi hx r1 (fun s2 I2 => ⟨_, H1, I2, q1⟩) hf
def tWhile (c : TT) (tb : TS) : TS := fun D σ H => ∃ W : Nat → St → Hp → Prop, (∃ m, W m σ H) ∧ ∀ m σ H, W m σ H →
  c σ H fun b H1 => if b = true then ∃ N : St → Hp → Prop, (∀ σ' H', N σ' H' → ∃ m', m' < m ∧ W m' σ' H') ∧ tb { D with nx := N, ct := N, bk := D.nx } σ H1 else D.nx σ H1
theorem ps_while (hp : PassesOwn (model X.prog X.w) X.A X.env X.xe) (hc : PT X c tc) (hb : PSs X body tb) : PS X (.While c body [] pos) (tWhile tc tb) := by
  intro pins s σ H D I h
  obtain ⟨W, ⟨m0, w0⟩, turn⟩ := h
  refine wpAny_While (codeAny_whileLoop (fun n s' => ∃ σ' H', Inv X pins σ' H' s' ∧ W n σ' H') ?_ m0 ⟨σ, H, I, w0⟩)
  rintro n s1 ⟨σ1, H1, I1, w1⟩
  refine wpAny_passesOwn hp (thn (hc pins s1 σ1 H1 _ I1 (turn n σ1 H1 w1)) fun b s2 ⟨H2, I2, q2⟩ => ?_)
  cases b with
  | true =>
    obtain ⟨N, hN, q2⟩ := q2
    rw [if_pos rfl]
    refine wpAny_passesOwn hp (thn (hb pins s2 σ1 H2 _ I2 q2) fun f s3 q3 => ?_)
    cases f with
    | next =>
      obtain ⟨σ3, H3, I3, n3⟩ := q3
      obtain ⟨m', hm, w3⟩ := hN σ3 H3 n3
      exact ⟨m', hm, σ3, H3, I3, w3⟩
    | cont =>
      obtain ⟨σ3, H3, I3, n3⟩ := q3
      obtain ⟨m', hm, w3⟩ := hN σ3 H3 n3
      exact ⟨m', hm, σ3, H3, I3, w3⟩
    | brk => exact q3
    | ret v => exact q3
  | false =>
    rw [if_neg Bool.false_ne_true]
    exact wpAny_execs_nil ⟨σ1, H2, I2, q2⟩
end
structure It where
  go : Nat → Hp → Prop
  yld : Nat → Hp → V → Hp → Prop
  stop : Nat → Hp → Prop
def FpOk (X : Cx) (pins : List (Addr × Obj)) (H : Hp) (b : Addr) : Prop :=
  H b = none ∧ b ≠ X.env.locals ∧ b ∉ X.fs ∧ (b ∈ X.ex ∨ X.s₀.heap.objs.size ≤ b) ∧ (∀ x c, X.env.cells.lookup x = some c → c ≠ b) ∧ ∀ p ∈ X.pn ++ pins, p.1 ≠ b
theorem Inv.fpOk (I : Inv X pins σ H s) (hb : s.heap.objs.size ≤ b) (hn : H' b = none) : FpOk X pins H' b := by
  refine ⟨hn, ne_of_gt (lt_of_lt_of_le I.lt hb), I.nofs hb, .inr (le_trans I.sz hb), fun x c e z => ?_, fun p hp z => ?_⟩
  · obtain ⟨v, q⟩ := I.cell x c e
    exact absurd (lt_of_lt_of_le q.lt (by rw [z]; exact hb)) (lt_irrefl _)
  · exact absurd (lt_of_lt_of_le (lt_size (I.pin p hp).1) (by rw [z]; exact hb)) (lt_irrefl _)
structure Turn (P : Program) (w : World) (K : Frag) (tg : Expr) (J : It) (fp : List Addr) (it : Addr) (tn : Nat → Heap → Prop) : Prop where
  mem : it ∈ fp
  obj : ∀ i h, tn i h → ∀ b ∈ fp, ∃ o, h.get? b = some o ∧ ∀ v, o.data ≠ .cell v
  keep : ∀ i h h', tn i h → (∀ b ∈ fp, ∀ o, h.get? b = some o → h'.get? b = some o) → tn i h'
  item : ∀ (X : Cx), X.prog = P → X.w = w → X.K = K → X.calm = true → ∀ (i : Nat) (pins : List (Addr × Obj)) (s : Shared) (σ : St) (H : Hp) (E : Value → Shared → Prop), Inv X pins σ H s → (∀ b ∈ fp, FpOk X pins H b) → tn i s.heap → J.go i H →
    wpAny (model P w) X.A (pyNext (.ref it)) (fun r s1 => ∃ u, r = some u ∧
      wpAny (model P w) X.A (letOwnedTupleGo tg (.ref it) u) (fun _ s2 => ∃ x H', Inv X pins σ H' s2 ∧ RelV x u ∧ J.yld i H x H' ∧ tn (i + 1) s2.heap ∧ ∀ b ∈ fp, H' b = none) E s1) E s
  done : ∀ (X : Cx), X.prog = P → X.w = w → X.K = K → X.calm = true → ∀ (i : Nat) (pins : List (Addr × Obj)) (s : Shared) (σ : St) (H : Hp) (E : Value → Shared → Prop), Inv X pins σ H s → (∀ b ∈ fp, FpOk X pins H b) → tn i s.heap → J.stop i H →
    wpAny (model P w) X.A (pyNext (.ref it)) (fun r s1 => r = none ∧ Inv X pins σ H s1) E s
  self : ∀ (A : Around) (i : Nat) (s : Shared) (Q : Value → Shared → Prop) (E : Value → Shared → Prop), tn i s.heap → Q (.ref it) s → wpAny (model P w) A (pyIter (.ref it)) Q E s
abbrev TI := St → Hp → (It → Hp → Prop) → Prop
def PIE (X : Cx) (pins : List (Addr × Obj)) (σ : St) (tg : Expr) (R : It → Hp → Prop) (itv : Value) (s2 : Shared) : Prop :=
  ∃ (it : Addr) (fp : List Addr) (tn : Nat → Heap → Prop) (J : It) (H' : Hp), itv = .ref it ∧ Inv X pins σ H' s2 ∧ Turn X.prog X.w X.K tg J fp it tn ∧ tn 0 s2.heap ∧ (∀ b ∈ fp, FpOk X pins H' b) ∧ R J H'
def PI (X : Cx) (tg iter : Expr) (wi : TI) : Prop :=
  ∀ (pins : List (Addr × Obj)) (s : Shared) (σ : St) (H : Hp) (R : It → Hp → Prop), Inv X pins σ H s → wi σ H R →
    wpAny (model X.prog X.w) X.A (eval iter X.env) (fun v s1 => wpAny (model X.prog X.w) X.A (pyIter v) (PIE X pins σ tg R) X.xe s1) X.xe s
theorem go_of (ho : s.heap.get? it = some o) (hc : o.cls = .type n) (hd : o.data = .fields vs) (hn : ["enumerate", "zip", "dict_itemiterator", "dict_reverseitemiterator", "odict_iterator", "itertools.zip_longest", "itertools.pairwise"].contains n = false) (hQ : Q () s) : wpAny M A (letOwnedTupleGo tg (.ref it) u) Q E s := by
  unfold letOwnedTupleGo
  cases tg <;> first
    | exact wpAny_pure hQ
    | (cases u <;> first
        | exact wpAny_pure hQ
        | (refine wpAny_bind (wpAny_load ho ?_)
           rw [hc, hd]
           show wpAny M A (if (["enumerate", "zip", "dict_itemiterator", "dict_reverseitemiterator", "odict_iterator", "itertools.zip_longest", "itertools.pairwise"].contains n && vs[0]? == some (rawInt _)) = true then _ else _) Q E s
           rw [if_neg (by intro h; rw [hn, Bool.false_and] at h; cases h)]
           exact wpAny_pure hQ))
def Itl (K : Frag) (a : Addr) : It :=
  ⟨fun i H => ∃ xs x, SqL K H a xs ∧ xs[i]? = some x, fun i H x H' => H' = H ∧ ∀ xs, SqL K H a xs → xs[i]? = some x, fun i H => ∃ xs, SqL K H a xs ∧ xs.length ≤ i⟩
def Itt (K : Frag) (a : Addr) : It :=
  ⟨fun i H => ∃ xs x, SqT K H a xs ∧ xs[i]? = some x, fun i H x H' => H' = H ∧ ∀ xs, SqT K H a xs → xs[i]? = some x, fun i H => ∃ xs, SqT K H a xs ∧ xs.length ≤ i⟩
def Itr (lo : Int) (n : Nat) : It := ⟨fun i _ => i < n, fun i H x H' => H' = H ∧ x = .int (lo + i), fun i _ => n ≤ i⟩
theorem turn_list {P : Program} {w : World} {K : Frag} {tg : Expr} (a it : Addr) : Turn P w K tg (Itl K a) [it] it (fun i h => h.IsListIter it a i) where
  mem := by simp
  obj := fun i h st b hb => by
    have e : b = it := by simpa using hb
    subst e
    obtain ⟨o, e, c, d⟩ := st
    exact ⟨o, e, fun v z => by rw [d] at z; cases z⟩
  keep := fun i h h' st k => st.at fun o e => k it (by simp) o e
  item := by
    intro X hP hw hK hc i pins s σ H E I hf st hg
    subst hP hw hK
    obtain ⟨xs, x, hq, hx⟩ := hg
    obtain ⟨its, rv, p, hz⟩ := I.list hq
    obtain ⟨u, hu, ru⟩ := rv.get hx
    obtain ⟨f0, f1, f2, f3, f4, f5⟩ := hf it (by simp)
    refine wpAny_pyNext_list_item st p.isList (x := u) (by simpa using hu) fun h' st' sb => ?_
    have I1 : Inv X pins σ H { s with heap := h' } := I.turned (t' := s.toks) (fun b o hb e => (sb.2 b hb).trans e) f0 f1 f3 f4 f5
    obtain ⟨o, e, c, d⟩ := id st'
    exact ⟨u, rfl, go_of (s := { s with heap := h' }) e c d (by decide) ⟨x, H, I1, ru, ⟨rfl, fun ys hy => by rw [I.list_inj hy hq]; exact hx⟩, st', fun b hb => (hf b hb).1⟩⟩
  done := by
    intro X hP hw hK hc i pins s σ H E I hf st hg
    subst hP hw hK
    obtain ⟨xs, hq, hx⟩ := hg
    obtain ⟨its, rv, p, hz⟩ := I.list hq
    obtain ⟨f0, f1, f2, f3, f4, f5⟩ := hf it (by simp)
    have hl := rv.length
    exact wpAny_pyNext_list_end (I.ok.hd hc) st p.isList (by simp; lia) fun h' eb => ⟨rfl, I.turned (t' := s.toks) (fun b o hb e => eb b o hb e) f0 f1 f3 f4 f5⟩
  self := fun _ _ _ _ _ st h => wpAny_pyIter_listiter st h
theorem turn_tuple {P : Program} {w : World} {K : Frag} {tg : Expr} (a it : Addr) : Turn P w K tg (Itt K a) [it] it (fun i h => h.IsTupleIter it a i) where
  mem := by simp
  obj := fun i h st b hb => by
    have e : b = it := by simpa using hb
    subst e
    obtain ⟨o, e, c, d⟩ := st
    exact ⟨o, e, fun v z => by rw [d] at z; cases z⟩
  keep := fun i h h' st k => st.at fun o e => k it (by simp) o e
  item := by
    intro X hP hw hK hc i pins s σ H E I hf st hg
    subst hP hw hK
    obtain ⟨xs, x, hq, hx⟩ := hg
    obtain ⟨its, rv, p, hz⟩ := I.tuple hq
    obtain ⟨u, hu, ru⟩ := rv.get hx
    obtain ⟨f0, f1, f2, f3, f4, f5⟩ := hf it (by simp)
    refine wpAny_pyNext_tuple_item st (show s.heap.IsTuple a its.toArray from p) (x := u) (by simpa using hu) fun h' st' sb => ?_
    have I1 : Inv X pins σ H { s with heap := h' } := I.turned (t' := s.toks) (fun b o hb e => (sb.2 b hb).trans e) f0 f1 f3 f4 f5
    obtain ⟨o, e, c, d⟩ := id st'
    exact ⟨u, rfl, go_of (s := { s with heap := h' }) e c d (by decide) ⟨x, H, I1, ru, ⟨rfl, fun ys hy => by rw [I.tuple_inj hy hq]; exact hx⟩, st', fun b hb => (hf b hb).1⟩⟩
  done := by
    intro X hP hw hK hc i pins s σ H E I hf st hg
    subst hP hw hK
    obtain ⟨xs, hq, hx⟩ := hg
    obtain ⟨its, rv, p, hz⟩ := I.tuple hq
    obtain ⟨f0, f1, f2, f3, f4, f5⟩ := hf it (by simp)
    have hl := rv.length
    exact wpAny_pyNext_tuple_end (I.ok.hd hc) st (show s.heap.IsTuple a its.toArray from p) (by simp; lia) fun h' eb => ⟨rfl, I.turned (t' := s.toks) (fun b o hb e => eb b o hb e) f0 f1 f3 f4 f5⟩
  self := fun _ _ _ _ _ st h => wpAny_pyIter_tupleiter st h
theorem turn_range {P : Program} {w : World} {K : Frag} {tg : Expr} (it : Addr) (lo : Int) (n : Nat) : Turn P w K tg (Itr lo n) [it] it (fun i h => IsRangeIter h it (lo + (i : Nat) * 1) ((n : Int) - (i : Nat)) 1) where
  mem := by simp
  obj := fun i h st b hb => by
    have e : b = it := by simpa using hb
    subst e
    exact ⟨_, st, fun v z => by
      have z' : Data.fields _ = Data.cell v := z
      cases z'⟩
  keep := fun i h h' st k => k it (by simp) _ st
  item := by
    intro X hP hw hK hc i pins s σ H E I hf st hg
    subst hP hw hK
    obtain ⟨f0, f1, f2, f3, f4, f5⟩ := hf it (by simp)
    have W := Walks.range (prog := X.prog) (w := X.w) (I.ok.hd hc) it lo 1 n
    refine W.item i s _ _ hg st fun v h' tk hv st' kk => ?_
    obtain ⟨t, rfl⟩ := hv
    have I1 : Inv X pins σ H { s with heap := h', toks := tk } := I.turned (fun b o hb e => kk b o (by simpa using hb) e) f0 f1 f3 f4 f5
    refine ⟨_, rfl, go_of (s := { s with heap := h', toks := tk }) (n := "range_iterator") st' rfl rfl (by decide) ⟨.int (lo + i), H, I1, ⟨t, ?_⟩, ⟨rfl, rfl⟩, st', fun b hb => (hf b hb).1⟩⟩
    rw [Int.mul_one]
  done := by
    intro X hP hw hK hc i pins s σ H E I hf st hg
    subst hP hw hK
    obtain ⟨f0, f1, f2, f3, f4, f5⟩ := hf it (by simp)
    exact wpAny_pyNext_range_end (I.ok.hd hc) st (by have : n ≤ i := hg; lia) fun h' eb => ⟨rfl, I.turned (t' := s.toks) (fun b o hb e => eb b o hb e) f0 f1 f3 f4 f5⟩
  self := fun _ _ _ _ _ st h => wpAny_pyIter_rangeiter st h
section
variable {X : Cx} {tg : Expr}
theorem range_it {pins : List (Addr × Obj)} {σ : St} {H : Hp} {s : Shared} {R : It → Hp → Prop} {E : Value → Shared → Prop} {lo hi : Int} {t u v : Tok} {tk : Nat} (I : Inv X pins σ H s) (h1 : -(2 ^ 62) ≤ lo) (h2 : lo < 2 ^ 62) (h3 : -(2 ^ 62) ≤ hi) (h4 : hi < 2 ^ 62) (q : R (Itr lo (hi - lo).toNat) H) : wpAny (model X.prog X.w) X.A (pyIter (.ref s.heap.objs.size)) (PIE X pins σ tg R) E { s with heap := s.heap.push { cls := .type "range", data := .fields #[.int lo t, .int hi u, .int 1 v] }, toks := tk } := by
  refine wpAny_pyIter_range (IsRange.new ..) (small_one h1 h2 h3 h4) ?_
  have I1 : Inv X pins σ H { s with heap := s.heap.push { cls := .type "range", data := .fields #[.int lo t, .int hi u, .int 1 v] }, toks := tk } := I.kept fun b o e => get?_push_of_some _ e
  refine ⟨(s.heap.push { cls := .type "range", data := .fields #[.int lo t, .int hi u, .int 1 v] }).objs.size, [(s.heap.push { cls := .type "range", data := .fields #[.int lo t, .int hi u, .int 1 v] }).objs.size], _, _, H, rfl,
    I1.kept (t' := tk) fun b o e => get?_push_of_some _ e, turn_range _ lo (hi - lo).toNat, ?_, fun b hb => ?_, q⟩
  · have e1 : lo + ((0 : Nat) : Int) * 1 = lo := by simp
    have e2 : (((hi - lo).toNat : Nat) : Int) - ((0 : Nat) : Int) = Builtin.Range.rangeSize lo hi 1 := by rw [rangeSize_one]; split <;> lia
    show IsRangeIter _ _ (lo + ((0 : Nat) : Int) * 1) ((((hi - lo).toNat : Nat) : Int) - ((0 : Nat) : Int)) 1
    rw [e1, e2]
    exact get?_push_size _ rfl
  · have e : b = (s.heap.push { cls := .type "range", data := .fields #[.int lo t, .int hi u, .int 1 v] }).objs.size := by simpa using hb
    subst e
    exact I1.fpOk (le_refl _) (I1.hok.fresh (le_refl _))
def iRng1 (ta : TA) : TI := fun σ H R => ta σ H fun vs H1 => ∃ j : Int, vs = [.int j] ∧ -(2 ^ 62) ≤ j ∧ j < 2 ^ 62 ∧ R (Itr 0 j.toNat) H1
theorem pi_range1 {a : Expr} {ta : TA} {p pos : Pos} (hg : Gl X "range") (hm : X.mg "range" = none) (ha : PA X [a] ta) (hs : starEach [a] X.env = [(false, eval a X.env)] := by rfl) : PI X tg (.Call (.Name "range" p) [a] [] pos) (iRng1 ta) := by
  intro pins s σ H R I h
  refine Call_ (ld_blt I hg hm boot_range (PyProof.Rows.callWith_type1 (thn (ha pos pins s σ H _ I h) fun us s1 ⟨vs, H1, I1, r1, q1⟩ => ?_) hs rfl))
  obtain ⟨j, e, q1, q2, q⟩ := q1
  subst e
  cases r1 with
  | cons r rr =>
    cases rr
    obtain ⟨t, rfl⟩ := r
    exact call_range_1 (range_it I1 (by lia) (by lia) q1 q2 (by simpa using q))
def tFor (wi : TI) (g : TG) (tb : TS) : TS := fun D σ H => wi σ H fun J H1 => ∃ W : Nat → Nat → St → Hp → Prop, (∃ m, W 0 m σ H1) ∧ ∀ i m σ H, W i m σ H →
  (J.stop i H ∧ D.nx σ H) ∨ (J.go i H ∧ ∃ N : St → Hp → Prop, (∀ σ' H', N σ' H' → ∃ m', m' < m ∧ W (i + 1) m' σ' H') ∧ ∀ x H', J.yld i H x H' → g x σ H' fun σ2 H2 => tb { D with nx := N, ct := N, bk := D.nx } σ2 H2)
def pinsAt (fp : List Addr) (h : Heap) : List (Addr × Obj) := fp.filterMap fun b => (h.get? b).map fun o => (b, o)
theorem mem_pinsAt (hb : b ∈ fp) (e : h.get? b = some o) : (b, o) ∈ pinsAt fp h := List.mem_filterMap.mpr ⟨b, hb, by rw [e]; rfl⟩
theorem of_pinsAt (hp : p ∈ pinsAt fp h) : p.1 ∈ fp ∧ h.get? p.1 = some p.2 := by
  obtain ⟨b, hb, e⟩ := List.mem_filterMap.mp hp
  cases q : h.get? b with
  | none => rw [q] at e; cases e
  | some o =>
    rw [q] at e
    have e' : (b, o) = p := Option.some.inj e
    subst e'
    exact ⟨hb, q⟩
theorem Inv.pinned (I : Inv X pins σ H s) (hf : ∀ b ∈ fp, FpOk X pins H b) (ho : ∀ b ∈ fp, ∃ o, s.heap.get? b = some o ∧ ∀ v, o.data ≠ .cell v) : Inv X (pins ++ pinsAt fp s.heap) σ H s :=
  I.pins_of fun p hp => (mem_append.mp hp).elim (fun z => I.pin p (mem_append_right _ z)) fun z => by
    obtain ⟨hb, e⟩ := of_pinsAt z
    obtain ⟨f0, f1, f2, _⟩ := hf p.1 hb
    obtain ⟨o, e', d⟩ := ho p.1 hb
    rw [e] at e'; cases e'
    exact ⟨e, f0, f1, f2, d⟩
theorem Inv.unpinned (I : Inv X (pins ++ pl) σ H s) : Inv X pins σ H s := I.pins_of fun p hp => I.pin p (mem_append_right _ (List.mem_append_left _ hp))
theorem ps_for (hp : PassesOwn (model X.prog X.w) X.A X.env X.xe) (hc : X.calm = true) (hi : PI X tg iter wi) (hg : PG X tg g) (hb : PSs X body tb) (hs : ∀ x, foldedSetIterable iter X.env x = pure x := by intro _; rfl) : PS X (.For tg iter body [] pos) (tFor wi g tb) := by
  intro pins s σ H D I h
  refine wpAny_For (thn (hi pins s σ H _ I h) fun v s1 h1 => thn h1 fun itv s2 h2 => ?_) hs
  obtain ⟨it, fp, tn, J, H2, e, I2, T, st2, f2, W, ⟨m0, w0⟩, turn⟩ := h2
  subst e
  -- what stays true of the iterator's objects through the loop
  have stat : ∀ {H' : Hp}, (∀ b ∈ fp, H' b = none) → ∀ b ∈ fp, FpOk X pins H' b := fun hn b hb => ⟨hn b hb, (f2 b hb).2⟩
  refine codeAny_forLoop_any (fun n s' => ∃ i σ' H', Inv X pins σ' H' s' ∧ tn i s'.heap ∧ (∀ b ∈ fp, H' b = none) ∧ W i n σ' H') ?_ m0 ⟨0, σ, H2, I2, st2, fun b hb => (f2 b hb).1, w0⟩
  rintro n s3 ⟨i, σ3, H3, I3, st3, fr3, w3⟩
  rcases turn i n σ3 H3 w3 with ⟨stop, qn⟩ | ⟨go, N, hN, step⟩
  · refine wpAny_passesOwn hp (thn (T.done X rfl rfl rfl hc i pins s3 σ3 H3 X.xe I3 (stat fr3) st3 stop) fun r s4 ⟨hr, I4⟩ => ?_)
    subst hr
    exact wpAny_execs_nil ⟨σ3, H3, I4, qn⟩
  · refine wpAny_passesOwn hp (thn (T.item X rfl rfl rfl hc i pins s3 σ3 H3 X.xe I3 (stat fr3) st3 go) fun r s4 ⟨u, hr, h4⟩ => ?_)
    subst hr
    refine wpAny_passesOwn hp (thn h4 fun _ s5 ⟨x, H5, I5, r5, y5, st5, fr5⟩ => ?_)
    have I5' := I5.pinned (stat fr5) (T.obj _ _ st5)
    refine wpAny_passesOwn hp (thn (hg _ s5 σ3 H5 x u _ I5' r5 (step x H5 y5)) fun _ s6 ⟨σ6, H6, I6, q6⟩ => ?_)
    refine wpAny_passesOwn hp (thn (hb _ s6 σ6 H6 _ I6 q6) fun f s7 q7 => ?_)
    have again : ∀ {σ7 : St} {H7 : Hp}, Inv X (pins ++ pinsAt fp s5.heap) σ7 H7 s7 → N σ7 H7 → ∃ m, m < n ∧ ∃ i σ' H', Inv X pins σ' H' s7 ∧ tn i s7.heap ∧ (∀ b ∈ fp, H' b = none) ∧ W i m σ' H' := fun {σ7 H7} I7 n7 => by
      obtain ⟨m', hm, w7⟩ := hN σ7 H7 n7
      refine ⟨m', hm, i + 1, σ7, H7, I7.unpinned, T.keep _ _ _ st5 fun b hb o e => (I7.pin (b, o) (mem_append_right _ (mem_append_right _ (mem_pinsAt hb e)))).1, fun b hb => ?_, w7⟩
      obtain ⟨o, e, d⟩ := T.obj _ _ st5 b hb
      exact (I7.pin (b, o) (mem_append_right _ (mem_append_right _ (mem_pinsAt hb e)))).2.1
    cases f with
    | next => obtain ⟨σ7, H7, I7, n7⟩ := q7; exact again I7 n7
    | cont => obtain ⟨σ7, H7, I7, n7⟩ := q7; exact again I7 n7
    | brk => obtain ⟨σ7, H7, I7, q7⟩ := q7; exact ⟨σ7, H7, I7.unpinned, q7⟩
    | ret v => obtain ⟨x7, σ7, H7, I7, r7, q7⟩ := q7; exact ⟨x7, σ7, H7, I7.unpinned, r7, q7⟩
end
abbrev R2 := V → V → Hp → VK → Prop
def OpR (X : Cx) (f : Value → Value → Sem Value) (r : R2) : Prop :=
  ∀ (pins : List (Addr × Obj)) (s : Shared) (σ : St) (H : Hp) (x y : V) (v u : Value) (Q : VK), Inv X pins σ H s → RelV x v → RelV y u → r x y H Q →
    wpAny (model X.prog X.w) X.A (f v u) (EP X pins σ Q) X.xe s
def UnR (X : Cx) (f : Value → Sem Value) (r : V → Hp → VK → Prop) : Prop :=
  ∀ (pins : List (Addr × Obj)) (s : Shared) (σ : St) (H : Hp) (x : V) (v : Value) (Q : VK), Inv X pins σ H s → RelV x v → r x H Q →
    wpAny (model X.prog X.w) X.A (f v) (EP X pins σ Q) X.xe s
def CallR (X : Cx) (f : Value) (r : List V → Hp → VK → Prop) : Prop :=
  ∀ (pins : List (Addr × Obj)) (s : Shared) (σ : St) (H : Hp) (xs : List V) (us : List Value) (Q : VK), Inv X pins σ H s → Vals xs us → r xs H Q →
    wpAny (model X.prog X.w) X.A (call f us) (EP X pins σ Q) X.xe s
def TruR (X : Cx) (r : V → Hp → (Bool → Hp → Prop) → Prop) : Prop :=
  ∀ (pins : List (Addr × Obj)) (s : Shared) (σ : St) (H : Hp) (x : V) (v : Value) (Q : Bool → Hp → Prop), Inv X pins σ H s → RelV x v → r x H Q →
    wpAny (model X.prog X.w) X.A (truthy v) (TP X pins σ Q) X.xe s
def tOp (r : R2) (ta tb : TE) : TE := fun σ H Q => ta σ H fun x H1 => tb σ H1 fun y H2 => r x y H2 Q
def tUn (r : V → Hp → VK → Prop) (ta : TE) : TE := fun σ H Q => ta σ H fun x H1 => r x H1 Q
def rI (C : Int → Int → Prop) (g : Int → Int → V) : R2 := fun x y H Q => ∃ i j, x = .int i ∧ y = .int j ∧ C i j ∧ Q (g i j) H
def rI0 (g : Int → Int → V) : R2 := fun x y H Q => ∃ i j, x = .int i ∧ y = .int j ∧ Q (g i j) H
def rU (g : Int → V) : V → Hp → VK → Prop := fun x H Q => ∃ i, x = .int i ∧ Q (g i) H
section
variable {X : Cx} {a b c : Expr} {ta tb tc : TE} {pos : Pos}
theorem binT (ha : PE X a ta) (hb : PE X b tb) {pins : List (Addr × Obj)} {s : Shared} {σ : St} {H : Hp} {R : V → V → Hp → Prop} (I : Inv X pins σ H s) (h : ta σ H fun x H1 => tb σ H1 fun y H2 => R x y H2) {Q : Value → Shared → Prop} {f : Value → Value → Sem Value} (hf : ∀ v u s2 x y H2, Inv X pins σ H2 s2 → RelV x v → RelV y u → R x y H2 → wpAny (model X.prog X.w) X.A (f v u) Q X.xe s2) :
    wpAny (model X.prog X.w) X.A (eval a X.env) (fun v s₁ => wpAny (model X.prog X.w) X.A (eval b X.env) (fun u s₂ => wpAny (model X.prog X.w) X.A (f v u) Q X.xe s₂) X.xe s₁) X.xe s := by
  refine thn (ha pins s σ H _ I h) fun v s1 ⟨x, H1, I1, r1, q1⟩ => ?_
  refine thn (hb pins s1 σ H1 _ I1 q1) fun u s2 ⟨y, H2, I2, r2, q2⟩ => ?_
  exact hf v u s2 x y H2 I2 r1 r2 q2
theorem pe_op {op : Operator} {r : R2} (ho : OpR X (binaryOp op) r) (ha : PE X a ta) (hb : PE X b tb) : PE X (.BinOp a op b pos) (tOp r ta tb) := by
  intro pins s σ H Q I h
  exact wpAny_BinOp (binT ha hb I h fun v u s2 x y H2 I2 rx ry q => ho pins s2 σ H2 x y v u Q I2 rx ry q)
theorem pe_un (ho : UnR X (unaryOp op) r) (ha : PE X a ta) : PE X (.UnaryOp op a pos) (tUn r ta) := by
  intro pins s σ H Q I h
  exact UnaryOp_ (thn (ha pins s σ H _ I h) fun v s1 ⟨x, H1, I1, r1, q1⟩ => ho pins s1 σ H1 x v Q I1 r1 q1)
theorem opI {f : Value → Value → Sem Value} {C : Int → Int → Prop} {g : Int → Int → Int} (rule : ∀ (i j : Int) (t u : Tok) (s : Shared) (Q : Value → Shared → Prop) (E : Value → Shared → Prop), C i j → Q (.int (g i j) s.toks) { s with toks := s.toks + 1 } → wpAny (model X.prog X.w) X.A (f (.int i t) (.int j u)) Q E s) :
    OpR X f (rI C fun i j => .int (g i j)) := by
  intro pins s σ H x y v u Q I rx ry h
  obtain ⟨i, j, rfl, rfl, hc, q⟩ := h
  obtain ⟨t, rfl⟩ := rx
  obtain ⟨t', rfl⟩ := ry
  exact rule i j t t' s _ _ hc ⟨.int (g i j), H, I.tok _, ⟨_, rfl⟩, q⟩
theorem opI0 {f : Value → Value → Sem Value} {g : Int → Int → Int} (rule : ∀ (i j : Int) (t u : Tok) (s : Shared) (Q : Value → Shared → Prop) (E : Value → Shared → Prop), Q (.int (g i j) s.toks) { s with toks := s.toks + 1 } → wpAny (model X.prog X.w) X.A (f (.int i t) (.int j u)) Q E s) :
    OpR X f (rI0 fun i j => .int (g i j)) := by
  intro pins s σ H x y v u Q I rx ry h
  obtain ⟨i, j, rfl, rfl, q⟩ := h
  obtain ⟨t, rfl⟩ := rx
  obtain ⟨t', rfl⟩ := ry
  exact rule i j t t' s _ _ ⟨.int (g i j), H, I.tok _, ⟨_, rfl⟩, q⟩
theorem opB0 {f : Value → Value → Sem Value} {g : Int → Int → Bool} (rule : ∀ (i j : Int) (t u : Tok) (s : Shared) (Q : Value → Shared → Prop) (E : Value → Shared → Prop), Q (.bool (g i j)) s → wpAny (model X.prog X.w) X.A (f (.int i t) (.int j u)) Q E s) :
    OpR X f (rI0 fun i j => .bl (g i j)) := by
  intro pins s σ H x y v u Q I rx ry h
  obtain ⟨i, j, rfl, rfl, q⟩ := h
  obtain ⟨t, rfl⟩ := rx
  obtain ⟨t', rfl⟩ := ry
  exact rule i j t t' s _ _ ⟨.bl (g i j), H, I, rfl, q⟩
def CPow (i j : Int) : Prop := 0 ≤ j ∧ j ≤ 1000000 ∧ i.natAbs < 2 ^ 64
def CMul (i j : Int) : Prop := (-(2 ^ 64) < i ∧ i < 2 ^ 64) ∨ (-(2 ^ 64) < j ∧ j < 2 ^ 64)
theorem CMul.ok (h : CMul i j) : IntMulOk i j := by
  rcases h with ⟨h1, h2⟩ | ⟨h1, h2⟩
  · exact .of_left (intBits_le_64 h1 h2)
  · exact .of_right (intBits_le_64 h1 h2)
theorem two_pow_nn (k : Nat) : (0 : Int) ≤ 2 ^ k := by
  rw [two_pow_cast]
  exact natCast_nonneg _
theorem op_add : OpR X (binaryOp .Add) (rI0 fun i j => .int (i + j)) := opI0 fun _ _ _ _ _ _ _ q => add_int q
theorem op_sub : OpR X (binaryOp .Sub) (rI0 fun i j => .int (i - j)) := opI0 fun _ _ _ _ _ _ _ q => sub_int q
theorem op_mul : OpR X (binaryOp .Mult) (rI CMul fun i j => .int (i * j)) := opI fun _ _ _ _ _ _ _ hc q => mul_int q hc.ok
theorem op_mod : OpR X (binaryOp .Mod) (rI (fun _ j => 0 < j) fun i j => .int (i % j)) := opI fun i j _ _ _ _ _ hc q => by
  have h1 : (0 : Int) < j := hc
  exact mod_int' (by lia) (by rw [Int.fmod_eq_emod_of_nonneg i (by lia)]; exact q)
theorem op_shl : OpR X (binaryOp .LShift) (rI CPow fun i j => .int (i * 2 ^ j.toNat)) := opI fun _ _ _ _ _ _ _ hc q => lshift_int_small hc.1 hc.2.1 hc.2.2 q
theorem op_shr : OpR X (binaryOp .RShift) (rI (fun _ j => 0 ≤ j) fun i j => .int (i / 2 ^ j.toNat)) := opI fun i j _ _ _ _ _ hc q =>
  rshift_int hc (by rw [Int.fdiv_eq_ediv_of_nonneg i (two_pow_nn _)]; exact q)
theorem op_and : OpR X (binaryOp .BitAnd) (rI0 fun i j => .int (Builtin.bitAnd i j)) := opI0 fun _ _ _ _ _ _ _ q => and_int q
theorem op_or : OpR X (binaryOp .BitOr) (rI0 fun i j => .int (Builtin.bitOr i j)) := opI0 fun _ _ _ _ _ _ _ q => or_int q
theorem unI {f : Value → Sem Value} {g : Int → Int} (rule : ∀ (i : Int) (t : Tok) (s : Shared) (Q : Value → Shared → Prop) (E : Value → Shared → Prop), Q (.int (g i) s.toks) { s with toks := s.toks + 1 } → wpAny (model X.prog X.w) X.A (f (.int i t)) Q E s) :
    UnR X f (rU fun i => .int (g i)) := by
  intro pins s σ H x v Q I rx h
  obtain ⟨i, rfl, q⟩ := h
  obtain ⟨t, rfl⟩ := rx
  exact rule i t s _ _ ⟨.int (g i), H, I.tok _, ⟨_, rfl⟩, q⟩
theorem un_inv : UnR X (unaryOp .Invert) (rU fun i => .int (Builtin.bitNot i)) := unI fun _ _ _ _ _ q => invert_int q
theorem fin_bl (I : Inv X pins σ H s) (q : Q (.bl k) H) (e : k = k') : EP X pins σ Q (.bool k') s := by
  subst e
  exact ⟨.bl k, H, I, rfl, q⟩
theorem op_lt : OpR X (compareOp .Lt) (rI0 fun i j => .bl (decide (i < j))) := opB0 fun _ _ _ _ _ _ _ q => lt_int q
theorem op_gt : OpR X (compareOp .Gt) (rI0 fun i j => .bl (decide (j < i))) := opB0 fun _ _ _ _ _ _ _ q => gt_int q
theorem op_isN : OpR X (compareOp .Is) (fun x y H Q => y = .non ∧ Q (.bl (decide (x = .non))) H) := by
  intro pins s σ H x y v u Q I rx ry h
  obtain ⟨rfl, q⟩ := h
  cases ry
  refine is_none_gen (fin_bl I q ?_)
  cases x <;> first
    | (cases rx; rfl)
    | (obtain ⟨t, rfl⟩ := rx; rfl)
theorem op_notN : OpR X (compareOp .IsNot) (fun x y H Q => y = .non ∧ Q (.bl (!decide (x = .non))) H) := by
  intro pins s σ H x y v u Q I rx ry h
  obtain ⟨rfl, q⟩ := h
  cases ry
  refine isnot_none_gen (fin_bl I q ?_)
  cases x <;> first
    | (cases rx; rfl)
    | (obtain ⟨t, rfl⟩ := rx; rfl)
theorem pe_cmpR (ho : OpR X (compareOp op) r) (ha : PE X a ta) (hb : PE X b tb) (hm : behindInMarks op b = false) : PE X (.Compare a [op] [b] pos) (tOp r ta tb) := by
  intro pins s σ H Q I h
  exact wpAny_Compare1 (binT ha hb I h fun v u s2 x y H2 I2 rx ry q => ho pins s2 σ H2 x y v u Q I2 rx ry q) hm
def tTest (t : TE) : TT := fun σ H Q => t σ H fun x H' => ∃ k, x = .bl k ∧ Q k H'
theorem pt_cmpR (ho : OpR X (compareOp op) r) (ha : PE X a ta) (hb : PE X b tb) (hm : behindInMarks op b = false) : PT X (.Compare a [op] [b] pos) (tTest (tOp r ta tb)) := by
  intro pins s σ H Q I h
  refine wpAny_isTrue_Compare1 (thn (ha pins s σ H _ I h) fun v s1 ⟨x, H1, I1, r1, q1⟩ => thn (hb pins s1 σ H1 _ I1 q1) fun u s2 ⟨y, H2, I2, r2, q2⟩ =>
    thn (ho pins s2 σ H2 x y v u _ I2 r1 r2 q2) fun c s3 ⟨z, H3, I3, r3, k, e, q3⟩ => ?_) hm
  subst e
  cases r3
  exact wpAny_truthy_bool ⟨H3, I3, q3⟩
def TruV (K : Frag) (x : V) (H : Hp) (k : Bool) : Prop :=
  match x with
  | .non => k = false
  | .bl b => k = b
  | .int i => k = (i != 0)
  | .str y => y.length ≤ sizeLine ∧ k = ((y.length : Int) != 0)
  | .byt y => y.size ≤ sizeLine ∧ k = ((y.size : Int) != 0)
  | .ref p => (∃ xs, SqL K H p xs ∧ k = !xs.isEmpty) ∨ (∃ xs, SqT K H p xs ∧ k = !xs.isEmpty) ∨ ∃ kvs, H p = some (.dK kvs) ∧ k = !kvs.isEmpty
  | _ => False
theorem isEmpty_kv {κ : Type} {kvs : List (κ × V)} {vs : List (κ × Value)} (r : KV kvs vs) : (!vs.isEmpty) = !kvs.isEmpty := by
  cases r <;> rfl
theorem isEmpty_of (r : Vals xs its) : (!its.toArray.isEmpty) = !xs.isEmpty := by
  cases r <;> simp
theorem line63 : (sizeLine : Nat) < 2 ^ 63 := by rw [sizeLine_eq]; decide
theorem tru_ok : TruR X (fun x H Q => ∃ k, TruV X.K x H k ∧ Q k H) := by
  intro pins s σ H x v Q I rx h
  obtain ⟨k, e, q⟩ := h
  have hl := line63
  have hs : sizeLine = 16777216 := sizeLine_eq
  cases x with
  | non =>
    cases rx
    have e' : k = false := e
    subst e'
    exact truthy_none ⟨H, I, q⟩
  | bl b =>
    cases rx
    have e' : k = b := e
    subst e'
    exact wpAny_truthy_bool ⟨H, I, q⟩
  | int i =>
    obtain ⟨t, rfl⟩ := rx
    have e' : k = (i != 0) := e
    subst e'
    exact PySem.P.truthy_int ⟨H, I, q⟩
  | str y =>
    obtain ⟨t, rfl⟩ := rx
    obtain ⟨hy, e'⟩ : y.length ≤ sizeLine ∧ k = ((y.length : Int) != 0) := e
    subst e'
    exact PySem.P.truthy_str (by lia) ⟨H, I.tok _, q⟩
  | byt y =>
    obtain ⟨t, rfl⟩ := rx
    obtain ⟨hy, e'⟩ : y.size ≤ sizeLine ∧ k = ((y.size : Int) != 0) := e
    subst e'
    exact PySem.W.truthy_bytes (by lia) ⟨H, I.tok _, q⟩
  | ref p =>
    cases rx
    have e' : (∃ xs, SqL X.K H p xs ∧ k = !xs.isEmpty) ∨ (∃ xs, SqT X.K H p xs ∧ k = !xs.isEmpty) ∨ ∃ kvs, H p = some (.dK kvs) ∧ k = !kvs.isEmpty := e
    rcases e' with ⟨xs, hx, e'⟩ | ⟨xs, hx, e'⟩ | ⟨kvs, hx, e'⟩
    · subst e'
      obtain ⟨its, r, pl, hz⟩ := I.list hx
      have hlen := r.length
      exact wpAny_truthy_list pl.isList (by erw [size_toArray]; lia) ⟨H, I.tok _, by rw [isEmpty_of r]; exact q⟩
    · subst e'
      obtain ⟨its, r, pl, hz⟩ := I.tuple hx
      have hlen := r.length
      exact truthy_tuple pl (by erw [size_toArray]; lia) ⟨H, I.tok _, by rw [isEmpty_of r]; exact q⟩
    · subst e'
      obtain ⟨hz, hS, vs, r, m⟩ : kvs.length ≤ sizeLine ∧ (p == sysModules) = false ∧ ∃ vs, KV kvs vs ∧ s.heap.DictOf (mixKind X.prog X.w) p vs := I.hok p _ hx
      have hlen : kvs.length = vs.length := Paired.length r
      exact wpAny_truthy_dict hS m (by lia) ⟨H, I.tok _, by rw [isEmpty_kv r]; exact q⟩
  | _ => exact (show False from e).elim
theorem pt_truth (ha : PE X a ta) (he : ∀ whole, isTrue a X.env whole = (do let v ← whole; standAt a.pos; holding [v] (truthy v))) :
    PT X a (fun σ H Q => ta σ H fun x H' => ∃ k, TruV X.K x H' k ∧ Q k H') := by
  intro pins s σ H Q I h
  exact isTrue_plain (thn (ha pins s σ H _ I h) fun v s1 ⟨x, H1, I1, r1, q1⟩ => tru_ok pins s1 σ H1 x v Q I1 r1 q1) (he _)
theorem op_add_str : OpR X (binaryOp .Add) (fun x y H Q => ∃ i j, x = .str i ∧ y = .str j ∧ i.length + j.length ≤ sizeLine ∧ Q (.str (i ++ j)) H) := by
  intro pins s σ H x y v u Q I rx ry h
  obtain ⟨i, j, rfl, rfl, hz, q⟩ := h
  obtain ⟨t, rfl⟩ := rx
  obtain ⟨t', rfl⟩ := ry
  exact add_str (fun t' tk => ⟨.str (i ++ j), H, I.tok _, ⟨_, rfl⟩, q⟩) hz
theorem vals1 (r : Vals [x] us) : ∃ u, us = [u] ∧ RelV x u := by
  cases r with
  | cons r1 r2 => cases r2; exact ⟨_, rfl, r1⟩
theorem vals2 (r : Vals [x, y] us) : ∃ u w', us = [u, w'] ∧ RelV x u ∧ RelV y w' := by
  cases r with
  | cons r1 r2 =>
    cases r2 with
    | cons r3 r4 => cases r4; exact ⟨_, _, rfl, r1, r3⟩
def LenV (K : Frag) (x : V) (H : Hp) (n : Nat) : Prop :=
  match x with
  | .str y => y.length ≤ sizeLine ∧ n = y.length
  | .byt y => y.size ≤ sizeLine ∧ n = y.size
  | .ref p => (∃ xs, SqL K H p xs ∧ n = xs.length) ∨ ∃ xs, SqT K H p xs ∧ n = xs.length
  | _ => False
theorem call_len : CallR X (.builtin "len") (fun xs H Q => ∃ x n, xs = [x] ∧ LenV X.K x H n ∧ Q (.int n) H) := by
  intro pins s σ H xs us Q I r h
  obtain ⟨x, n, rfl, e, q⟩ := h
  obtain ⟨u, rfl, rx⟩ := vals1 r
  have hl := line63
  have hs : sizeLine = 16777216 := sizeLine_eq
  cases x with
  | str y =>
    obtain ⟨t, rfl⟩ := rx
    obtain ⟨hy, e'⟩ : y.length ≤ sizeLine ∧ n = y.length := e
    subst e'
    exact len_str (by lia) ⟨.int _, H, I.tok _, ⟨_, rfl⟩, q⟩
  | byt y =>
    obtain ⟨t, rfl⟩ := rx
    obtain ⟨hy, e'⟩ : y.size ≤ sizeLine ∧ n = y.size := e
    subst e'
    exact PySem.W.len_bytes (by lia) ⟨.int _, H, I.tok _, ⟨_, rfl⟩, q⟩
  | ref p =>
    cases rx
    have e' : (∃ xs, SqL X.K H p xs ∧ n = xs.length) ∨ ∃ xs, SqT X.K H p xs ∧ n = xs.length := e
    rcases e' with ⟨xs, hx, e'⟩ | ⟨xs, hx, e'⟩
    · subst e'
      obtain ⟨its, r', pl, hz⟩ := I.list hx
      have hlen := r'.length
      exact Calls.call_len_list pl.isList (by erw [size_toArray]; lia) ⟨.int xs.length, H, I.tok _, ⟨_, by erw [size_toArray]; rw [hlen]⟩, q⟩
    · subst e'
      obtain ⟨its, r', pl, hz⟩ := I.tuple hx
      have hlen := r'.length
      exact len_tuple pl (by erw [size_toArray]; lia) ⟨.int xs.length, H, I.tok _, ⟨_, by erw [size_toArray]; rw [hlen]⟩, q⟩
  | _ => exact (show False from e).elim
end
theorem RelO.some_of (r : RelO (some v) o) : ∃ u, o = some u ∧ RelV v u := by
  cases o with
  | none => exact (show False from r).elim
  | some u => exact ⟨u, rfl, r⟩
structure Room (k : Nat) (A : Around) : Prop where
  hd : A.handled = none
  dp : A.depth + 3 * k + 5 < recursionLimit
  un : A.units + 16 * k + 200 < cLine
theorem Room.deeper (r : Room (k + 1) A) (env : Env) : Room k (A.deeper env) :=
  ⟨r.hd, by have := r.dp; show A.depth + 1 + 3 * k + 5 < _; lia, by have := r.un; show A.units + 3 + 16 * k + 200 < _; lia⟩
theorem Room.depth (r : Room k A) : A.depth < recursionLimit := by have := r.dp; lia
def tNil : TA := fun _ H Q => Q [] H
def tCons (ta : TE) (tr : TA) : TA := fun σ H Q => ta σ H fun x H1 => tr σ H1 fun xs H2 => Q (x :: xs) H2
section
variable {X : Cx} {e : Expr} {es : List Expr} {te : TE} {t : TA} {pos : Pos}
theorem pa_nil : PA X [] tNil := fun _ _ _ _ H Q I h => Calls.spliced_nil ⟨[], H, I, .nil, h⟩
theorem pa_cons (ha : PE X e te) (hr : PA X es t) (hs : ZStE X.env e es := by rfl) : PA X (e :: es) (tCons te t) := by
  intro pos pins s σ H Q I h
  rw [hs]
  show wpAny _ _ (spliced ((false, eval e X.env) :: backTo pos (starEach es X.env))) _ _ s
  refine Calls.spliced_cons (thn (ha pins s σ H _ I h) fun u s1 ⟨x, H1, I1, r1, q1⟩ => ?_)
  exact thn (hr pos pins s1 σ H1 _ I1 q1) fun us s2 ⟨xs, H2, I2, r2, q2⟩ => ⟨x :: xs, H2, I2, .cons r1 r2, q2⟩
def tTup (t : TA) : TE := fun σ H Q => t σ H fun xs H1 => xs.length ≤ sizeLine ∧ ∀ p, H1 p = none → Q (.ref p) (upd H1 p (.tup xs))
def tLst (t : TA) : TE := fun σ H Q => t σ H fun xs H1 => xs.length ≤ sizeLine ∧ ∀ p, H1 p = none → Q (.ref p) (upd H1 p (.lst xs))
theorem pe_tup {x1} (h : PA X es t) : PE X (.Tuple es x1 pos) (tTup t) := by
  intro pins s σ H Q I hq
  refine wpAny_Tuple_spliced (thn (h pos pins s σ H _ I hq) fun us s1 ⟨xs, H1, I1, r, z, q⟩ => ⟨by rw [← r.length]; exact z, ?_⟩)
  have hf : H1 s1.heap.objs.size = none := I1.hok.fresh (le_refl _)
  refine ⟨.ref s1.heap.objs.size, upd H1 s1.heap.objs.size (.tup xs), I1.laid (t' := s1.toks) (fun b u e => get?_push_of_some _ e) (le_refl _) ?_, rfl, q _ hf⟩
  exact ⟨z, us, r, ⟨⟨_, get?_push_size _ rfl, rfl, _, rfl⟩, _, get?_push_size _ rfl, rfl⟩⟩
theorem pe_lst (h : PA X es t) : PE X (.List es pos) (tLst t) := by
  intro pins s σ H Q I hq
  refine wpAny_List_spliced (thn (h pos pins s σ H _ I hq) fun us s1 ⟨xs, H1, I1, r, z, q⟩ => ⟨by rw [← r.length]; exact z, ?_⟩)
  have hf : H1 s1.heap.objs.size = none := I1.hok.fresh (le_refl _)
  refine ⟨.ref s1.heap.objs.size, upd H1 s1.heap.objs.size (.lst xs), I1.laid (t' := s1.toks) (fun b u e => get?_push_of_some _ e) (le_refl _) ?_, rfl, q _ hf⟩
  exact ⟨z, us, 0, r, get?_push_size _ rfl⟩
end
abbrev Sp := List V → Hp → VK → XK → Prop
abbrev CXT := List Env → Hp → Shared → XK → Value → Shared → Prop
structure Env0 (P : Program) (w : World) (K : Frag) (mg : Str → Option Value) (base : Heap) (A : Around) (outer : List Env) (s : Shared) (H : Hp) : Prop where
  frames : A.frames = some outer
  mod : Mod K mg base
  bs : ∀ b o, base.get? b = some o → s.heap.get? b = some o ∧ H b = none
  bsz : base.objs.size ≤ s.heap.objs.size
  funs : s.heap.FunFrames base outer
  frf : ∀ b ∈ frs outer, H b = none
  hok : HOk P w H s.heap
  bare : AllBare s.gens
def CE (outer : List Env) (P : Program) (w : World) (H : Hp) (s : Shared) (Q : VK) (u : Value) (s' : Shared) : Prop :=
  ∃ v H', s'.os = s.os ∧ AllBare s'.gens ∧ Un (frs outer) [] H H' s.heap s'.heap ∧ HOk P w H' s'.heap ∧ RelV v u ∧ Q v H'
def CR (CX : CXT) (outer : List Env) (P : Program) (w : World) (H : Hp) (s : Shared) (Q : VK) (E : XK) (r : Result) (s' : Shared) : Prop :=
  match r with
  | .ok (.ret u) => CE outer P w H s Q u s'
  | .ok _ => False
  | .error e => CX outer H s E e s'
structure FnOk (P : Program) (w : World) (K : Frag) (mg : Str → Option Value) (base : Heap) (CX : CXT) (k : Nat) (f : Addr) (fd : FuncData) (ps : List Str) (sp : Sp) : Prop where
  len : ∀ vs H Q E, sp vs H Q E → vs.length = ps.length
  run : ∀ (A : Around) (outer : List Env) (s : Shared) (H : Hp) (args : Args) (us : List Value) (vs : List V) (Q : VK) (E : XK), Room k A → Env0 P w K mg base A outer s H → BindsTo s fd args (ps.zip us) → Vals vs us → sp vs H Q E →
    codeAny (model P w) A (.call (.ref f) args) (CR CX outer P w H s Q E) s
section
variable {X : Cx} {pins : List (Addr × Obj)} {σ : St} {H : Hp} {s s' : Shared}
theorem Inv.env0 (I : Inv X pins σ H s) : Env0 X.prog X.w X.K X.mg X.base X.A X.stack s H :=
  ⟨I.ok.frames, I.ok.mod, I.bs, le_trans I.ok.bsz I.sz, I.stack, I.stkFree, I.hok, I.bare⟩
theorem Inv.after (I : Inv X pins σ H s) (h : CE X.stack X.prog X.w H s Q u s') : EP X pins σ Q u s' := by
  obtain ⟨v, H', os, bare, un, hok, r, q⟩ := h
  obtain ⟨hh, g, d, t, os'⟩ := s'
  obtain rfl : os' = s.os := os
  exact ⟨v, H', I.call (h' := hh) (g' := g) (d' := d) (t' := t) (ch := []) un hok bare (fun b z => absurd z (by simp)), r, q⟩
end
def tCall (sp : Sp) (dvs : List V) (E : XK) (t : TA) : TE := fun σ H Q => t σ H fun vs H1 => sp (vs ++ dvs) H1 Q E
def Binds (K : Frag) (fd : FuncData) (ps : List Str) (ds : List Value) : Prop :=
  ∀ (s : Shared) (us : List Value), K.In s.heap → (us ++ ds).length = ps.length → BindsTo s fd ⟨us, []⟩ (ps.zip (us ++ ds))
theorem Binds.all {K : Frag} {fd : FuncData} {ps : List Str} (h : ∀ us : List Value, us.length = ps.length → bindArgs fd ⟨us, []⟩ = pure (ps.zip us)) : Binds K fd ps [] := fun s us _ hl => by
  rw [append_nil] at hl ⊢
  exact .of_eq (h us hl)
def Passes (CX : CXT) (X : Cx) (E : XK) : Prop := ∀ (pins : List (Addr × Obj)) (σ : St) (H : Hp) (s : Shared) (e : Value) (s' : Shared), Inv X pins σ H s → CX X.stack H s E e s' → X.xe e s'
section
variable {X : Cx} {CX : CXT} {k : Nat} {f C : Addr} {fd : FuncData} {ps : List Str} {sp : Sp} {dvs : List V} {ds : List Value} {E : XK} {x m : Str} {p pos apos : Pos} {e o : Expr} {es : List Expr} {ta : TE} {t : TA}
theorem run_fn (F : FnOk X.prog X.w X.K X.mg X.base CX k f fd ps sp) (hr : Room k X.A) (hb : Binds X.K fd ps ds) (hd : Vals dvs ds) (hx : Passes CX X E) (I : Inv X pins σ H s) (r : Vals vs us) (h : sp (vs ++ dvs) H Q E) : wpAny (model X.prog X.w) X.A (call (.ref f) us) (EP X pins σ Q) X.xe s := by
  have r2 : Vals (vs ++ dvs) (us ++ ds) := r.append hd
  have hl : (us ++ ds).length = ps.length := by rw [← r2.length]; exact F.len _ _ _ _ h
  refine wpAny_call (codeAny_mono (F.run X.A X.stack s H ⟨us, []⟩ (us ++ ds) (vs ++ dvs) Q E hr I.env0 (hb s us I.kIn hl) r2 h) fun r s' hq => ?_)
  cases r with
  | error e => exact hx pins σ H s e s' I hq
  | ok fl =>
    cases fl with
    | ret u => exact I.after hq
    | next => exact False.elim hq
    | brk => exact False.elim hq
    | cont => exact False.elim hq
theorem pe_call (F : FnOk X.prog X.w X.K X.mg X.base CX k f fd ps sp) (hr : Room k X.A) (hg : Gl X x) (hm : X.mg x = some (.ref f)) (hk : keepIn X.K (.ref f) = true) (hb : Binds X.K fd ps ds) (hd : Vals dvs ds) (hx : Passes CX X E) (ha : PA X (e :: es) t) (hdb : ZDbg x := by decide) (he : ZStE X.env e es := by rfl) (hpl : ZBkT X.env es pos := by rfl) :
    PE X (.Call (.Name x p) (e :: es) [] pos) (tCall sp dvs E t) := by
  intro pins s σ H Q I h
  refine wpAny_Call_Name_kw (ld_glob I hg hm ?_ hdb)
  refine callWith_K (h₀ := X.base) I.ok.mod.kin hk (thn (ha pos pins s σ H _ I h) fun us s1 ⟨vs, H1, I1, r, q⟩ => ⟨I1.kIn, ?_⟩) he hpl
  exact run_fn F hr hb hd hx I1 r q
end
structure FnScope (N P : List Str) (sc : Scope) : Prop where
  kind : sc.kind = .function
  co : sc.isCoroutine = false
  gen : sc.isGenerator = false
  nd : N.Nodup
  pre : N.take P.length = P
  par : ∀ x ∈ P, sc.names.lookup x = some .local ∨ sc.names.lookup x = some .cell
  nofree : ∀ y ∈ sc.names, y.2 ≠ .free
theorem bindL_out {kindOf : Str → Option NameKind} {x : Str} : ∀ {binds : List (Str × Value)} {m : Str → Option Value}, (∀ v, (x, v) ∉ binds) → bindL kindOf binds m x = m x
  | [], _, _ => rfl
  | (n, v) :: r, m, h => by
    unfold bindL
    rw [bindL_out fun w hw => h w (mem_cons_of_mem _ hw)]
    split
    · have : x ≠ n := by rintro rfl; exact h v mem_cons_self
      simp [this]
    · rfl
theorem bindC_out {kindOf : Str → Option NameKind} {x : Str} : ∀ {binds : List (Str × Value)} {m : Str → Option Value}, (∀ v, (x, v) ∉ binds) → bindC kindOf binds m x = m x
  | [], _, _ => rfl
  | (n, v) :: r, m, h => by
    unfold bindC
    rw [bindC_out fun w hw => h w (mem_cons_of_mem _ hw)]
    split
    · rfl
    · have : x ≠ n := by rintro rfl; exact h v mem_cons_self
      simp [this]
theorem bindL_get {kindOf : Str → Option NameKind} {x : Str} {v : Value} : ∀ {P : List Str} {vs : List Value} {i : Nat} {m : Str → Option Value}, P.Nodup → P[i]? = some x → vs[i]? = some v → kindOf x = some .local →
    bindL kindOf (P.zip vs) m x = some v
  | [], _, _, _, _, h, _, _ => by simp at h
  | _ :: _, [], _, _, _, _, h, _ => by simp at h
  | p :: P, w :: vs, 0, m, nd, h1, h2, hk => by
    simp at h1 h2; subst h1; subst h2
    show bindL kindOf ((p, w) :: P.zip vs) m p = _
    unfold bindL
    rw [bindL_out fun v hv => (nodup_cons.mp nd).1 (of_mem_zip hv).1, if_pos hk]
    simp
  | p :: P, w :: vs, i + 1, m, nd, h1, h2, hk => by
    show bindL kindOf ((p, w) :: P.zip vs) m x = _
    unfold bindL
    exact bindL_get (i := i) (nodup_cons.mp nd).2 (by simpa using h1) (by simpa using h2) hk
theorem bindC_get {kindOf : Str → Option NameKind} {x : Str} {v : Value} : ∀ {P : List Str} {vs : List Value} {i : Nat} {m : Str → Option Value}, P.Nodup → P[i]? = some x → vs[i]? = some v → kindOf x ≠ some .local →
    bindC kindOf (P.zip vs) m x = some v
  | [], _, _, _, _, h, _, _ => by simp at h
  | _ :: _, [], _, _, _, _, h, _ => by simp at h
  | p :: P, w :: vs, 0, m, nd, h1, h2, hk => by
    simp at h1 h2; subst h1; subst h2
    show bindC kindOf ((p, w) :: P.zip vs) m p = _
    unfold bindC
    rw [bindC_out fun v hv => (nodup_cons.mp nd).1 (of_mem_zip hv).1, if_neg hk]
    simp
  | p :: P, w :: vs, i + 1, m, nd, h1, h2, hk => by
    show bindC kindOf ((p, w) :: P.zip vs) m x = _
    unfold bindC
    exact bindC_get (i := i) (nodup_cons.mp nd).2 (by simpa using h1) (by simpa using h2) hk
def start (N : List Str) (vs : List V) : St := vs.map some ++ replicate (N.length - vs.length) none
def cxOf (CX : CXT) (P : Program) (w : World) (K : Frag) (mg : Str → Option Value) (base : Heap) (N : List Str) (qual : Str) (scope : Scope) (f : Addr) (cd : Value) (A : Around) (outer : List Env) (s : Shared) (H : Hp) (E : XK) : Cx where
  prog := P
  w := w
  K := K
  mg := mg
  base := base
  A := A.deeper (envOfC qual scope s.heap.objs.size f cd)
  N := N
  s₀ := s
  H₀ := H
  env := envOfC qual scope s.heap.objs.size f cd
  outer := outer
  stack := envOfC qual scope s.heap.objs.size f cd :: outer
  ex := []
  calm := true
  fn := fun _ => true
  pn := []
  xe := fun e s' => wpAny (model P w) (A.deeper (envOfC qual scope s.heap.objs.size f cd)) (leaving (envOfC qual scope s.heap.objs.size f cd) e) (fun _ s'' => CX outer H s E e s'') (fun e' s'' => CX outer H s E e' s'') s'
theorem cell_has {sc : Scope} {n : Nat} {x : Str} (h : sc.names.lookup x = some .cell) : ∃ c, (cellsFrom n sc.names []).lookup x = some c := by
  have q := cellsFrom_some sc.names n [] (.inl h)
  exact isSome_iff_exists.mp q
theorem inv_start {CX : CXT} {P : Program} {w : World} {K : Frag} {mg : Str → Option Value} {base : Heap} {N ps : List Str} {qual : Str} {scope : Scope} {f : Addr} {cd : Value} {A : Around} {outer : List Env} {s s1 : Shared} {H : Hp} {E : XK} {us : List Value} {vs : List V} (S : FnScope N ps scope) (hd : A.handled = none) (e0 : Env0 P w K mg base A outer s H) (hl : vs.length = ps.length) (r : Vals vs us) (x : InCallC s s.heap.objs.size (bindL (envOfC qual scope s.heap.objs.size f cd).kindOf (ps.zip us) fun _ => none) (cellsFrom (s.heap.objs.size + 1) scope.names []) (bindC (envOfC qual scope s.heap.objs.size f cd).kindOf (ps.zip us) fun _ => none) s1) :
    Inv (cxOf CX P w K mg base N qual scope f cd A outer s H E) [] (start N vs) H s1 := by
  have hpl : ps.length ≤ N.length := by have := congrArg List.length S.pre; rw [length_take] at this; lia
  obtain ⟨h1, tk, rfl, hk⟩ := x.done
  have noA : ∀ b : Addr, b ∉ (cxOf CX P w K mg base N qual scope f cd A outer s H E).ex := fun b z => absurd (show b ∈ ([] : List Addr) from z) (by simp)
  refine ⟨⟨e0.mod, S.kind, rfl, rfl, le_refl _, fun y z c h1 h2 => ?_, fun y hy => ?_, fun y c _ h => ?_, fun _ => hd, Around.frames_deeper e0.frames, .inr ⟨rfl, rfl⟩, fun b z => absurd z (noA b), e0.bs, e0.bsz, fun b _ _ => noA b, fun b z => absurd z (noA b), e0.funs, e0.frf⟩,
    rfl, e0.bare, Un.kept hk, ⟨_, x.toInCall.ns, fun i y v h1 h2 h3 => ?_⟩, fun y c h => ⟨_, x.cell y c h⟩, e0.hok.fresh (le_refl _), fun y c h => ?_, fun p hp => absurd (show p ∈ ([] : List (Addr × Obj)) from hp) (by simp), e0.hok.kept hk, ?_⟩
  · exact name_of_addr x.apart (PySem.mem_of_lookup h1) (PySem.mem_of_lookup h2)
  · have hy : scope.names.lookup y = some .cell ∨ scope.names.lookup y = some .free := hy
    rcases hy with hy | hy
    · exact cell_has hy
    · exact absurd rfl (S.nofree _ (PySem.mem_of_lookup hy))
  · exact le_of_lt (x.above y c (PySem.mem_of_lookup h))
  · have hi : i < vs.length := by
      unfold start at h2
      by_cases hi : i < vs.length
      · exact hi
      · rw [getElem?_append_right (by simpa using hi)] at h2
        rw [getElem?_replicate] at h2
        split at h2 <;> cases h2
    have ha : vs[i]? = some v := by
      unfold start at h2
      rw [getElem?_append_left (by simpa using hi), getElem?_map] at h2
      cases e : vs[i]? with
      | none => rw [e] at h2; cases h2
      | some a => rw [e] at h2; cases h2; rfl
    obtain ⟨u, hu, rv⟩ := r.get ha
    have hp : ps[i]? = some y := by
      rw [← S.pre, List.getElem?_take_of_lt (by lia)]; exact h1
    have ndP : ps.Nodup := by rw [← S.pre]; exact S.nd.sublist (List.take_sublist _ _)
    refine ⟨u, rv, ?_⟩
    rcases S.par y (mem_of_getElem? hp) with k | k
    · exact .inl ⟨k, bindL_get ndP hp hu k⟩
    · obtain ⟨c, e⟩ := cell_has (n := s.heap.objs.size + 1) k
      refine .inr ⟨.inl k, c, e, ?_⟩
      have q := x.cell y c e
      rw [bindC_get ndP hp hu (by show scope.names.lookup y ≠ _; rw [k]; decide)] at q
      exact q
  · exact e0.hok.fresh (le_of_lt (x.above y c (PySem.mem_of_lookup h)))
  · unfold start
    show _ = N.length
    rw [length_append, length_map, length_replicate]
    lia
theorem fn_of {CX : CXT} {P : Program} {w : World} {K : Frag} {mg : Str → Option Value} {base : Heap} {k : Nat} {f : Addr} {name qual : Str} {params : Arguments} {body : List Stmt} {scope : Scope} {dV kV doc pm cdv ct oc : Value} {an od : Option Addr} {osl : Array (Option Value)} {N ps : List Str} {sp : Sp} (lk : K.lookup f = some ⟨oc, od, .func (fnOf name qual params body scope dV kV doc pm an cdv ct), osl⟩) (hcd : codeIn K cdv qual = true) (S : FnScope N ps scope) (len : ∀ vs H Q E, sp vs H Q E → vs.length = ps.length) (hbody : ∀ (A : Around) (outer : List Env) (s : Shared) (H : Hp) (vs : List V) (Q : VK) (E : XK), Room k (A.deeper (envOfC qual scope s.heap.objs.size f cdv)) → sp vs H Q E →
      ∃ t, PSs (cxOf CX P w K mg base N qual scope f cdv A outer s H E) body t ∧ t { nx := fun _ H' => Q .non H', rt := Q } (start N vs) H) :
    FnOk P w K mg base CX (k + 1) f (fnOf name qual params body scope dV kV doc pm an cdv ct) ps sp := by
  refine ⟨len, fun A outer s H args us vs Q E hr e0 hb r hsp => ?_⟩
  have hl := len _ _ _ _ hsp
  have KX : K.In s.heap := e0.mod.kin.keeps fun b o e => (e0.bs b o e).1
  have lim : s.heap.NoLimit := e0.mod.nolimit.keeps fun b o e => (e0.bs b o e).1
  have hkind : ∀ y ∈ ps.zip us, scope.names.lookup y.1 = some .local ∨ (scope.names.lookup y.1 = some .cell ∧ ((cellsFrom (s.heap.objs.size + 1) scope.names []).lookup y.1).isSome = true) := fun ⟨n, v⟩ hy => by
    rcases S.par n (of_mem_zip hy).1 with q | q
    · exact .inl q
    · exact .inr ⟨q, cellsFrom_some _ _ _ (.inl q)⟩
  refine codeAny_call_function hr.depth (KX _ _ lk) rfl S.co S.gen rfl (PySem.W.codeRec_of KX hcd) (hb _ _ _ _ ?_)
  refine wpAny_newFunctionEnv_cells S.kind hkind fun env he s1 x => ?_
  subst he
  refine ⟨lim.keeps x.toInCall.keep, codeAny_func ?_⟩
  obtain ⟨t, ht, hq⟩ := hbody A outer s H vs Q E (hr.deeper _) hsp
  have I : Inv (cxOf CX P w K mg base N qual scope f cdv A outer s H E) [] (start N vs) H s1 := inv_start S hr.hd e0 hl r x
  refine wpAny_mono (ht [] s1 (start N vs) H _ I hq) (fun fl s' hs => ?_) fun e s' hs => hs
  have fin : ∀ {σ' : St} {H' : Hp} {v : V} {u : Value}, Inv (cxOf CX P w K mg base N qual scope f cdv A outer s H E) [] σ' H' s' → RelV v u → Q v H' → CE outer P w H s Q u s' :=
    fun {σ' H' v u} J rv q => ⟨v, H', J.os, J.bare, J.base, J.hok, rv, q⟩
  cases fl with
  | ret u =>
    obtain ⟨v, σ', H', J, rv, q⟩ := hs
    exact fin J rv q
  | next =>
    obtain ⟨σ', H', J, q⟩ := hs
    exact fin (v := V.non) (u := Value.none) J rfl q
  | brk =>
    obtain ⟨_, _, _, q⟩ := hs
    exact False.elim q
  | cont =>
    obtain ⟨_, _, _, q⟩ := hs
    exact False.elim q
section
variable {X : Cx} {x : Str} {p pos : Pos} {e : Expr} {es : List Expr} {t : TA} {id T : String} {r : List V → Hp → VK → Prop}
def tCB (r : List V → Hp → VK → Prop) (t : TA) : TE := fun σ H Q => t σ H fun vs H1 => r vs H1 Q
theorem pe_callB (hc : CallR X (.builtin id) r) (hg : Gl X x) (hm : X.mg x = none) (hv : bootBuiltins x = some (.builtin id)) (ha : PA X (e :: es) t) (hn : x ≠ "__name__" := by decide) (hdb : ZDbg x := by decide) (he : ZStE X.env e es := by rfl) (hpl : ZBkT X.env es pos := by rfl) : PE X (.Call (.Name x p) (e :: es) [] pos) (tCB r t) := by
  intro pins s σ H Q I h
  refine wpAny_Call_Name_kw (ld_blt I hg hm hv ?_ hn hdb)
  exact PyProof.Rows.callWith_builtin1 (thn (ha pos pins s σ H _ I h) fun us s1 ⟨vs, H1, I1, r1, q1⟩ => hc pins s1 σ H1 vs us Q I1 r1 q1) he hpl
theorem pe_callTy (hc : CallR X (.type T) r) (hg : Gl X x) (hm : X.mg x = none) (hv : bootBuiltins x = some (.type T)) (ha : PA X (e :: es) t) (hn : x ≠ "__name__" := by decide) (hdb : ZDbg x := by decide) (he : ZStE X.env e es := by rfl) (hpl : ZBkT X.env es pos := by rfl) : PE X (.Call (.Name x p) (e :: es) [] pos) (tCB r t) := by
  intro pins s σ H Q I h
  refine wpAny_Call_Name_kw (ld_blt I hg hm hv ?_ hn hdb)
  exact PyProof.Rows.callWith_type1 (thn (ha pos pins s σ H _ I h) fun us s1 ⟨vs, H1, I1, r1, q1⟩ => hc pins s1 σ H1 vs us Q I1 r1 q1) he hpl
end
end L2
namespace HT
open PySem PyProof.Rows
section
variable {prog : Program} {w : World} {A : Around} {E : Value → Shared → Prop} {s : Shared}
theorem cat_tup (ht : IsTup s.heap t vs.toArray) (hb : IsTup s.heap b ws.toArray) (hv : vs ≠ []) (h1 : ws = [] → Q (.ref t) s) (h2 : ws ≠ [] → Q (.ref s.heap.objs.size) { s with heap := s.heap.push { cls := .type "tuple", data := .seq (vs ++ ws).toArray } }) (hsz : vs.length + ws.length ≤ sizeLine) : wpAny (model prog w) A (binaryOp .Add (.ref t) (.ref b)) Q E s := by
  obtain ⟨⟨cls, dd, data, sl⟩, ho, hc, n, hd⟩ := id ht
  obtain ⟨⟨cls2, dd2, data2, sl2⟩, ho2, hc2, n2, hd2⟩ := id hb
  simp only at hc hd hc2 hd2
  subst hc hd hc2 hd2
  have e : vs.toArray ++ ws.toArray = (vs ++ ws).toArray := by simp
  by_cases hw : ws = []
  · exact concat_meets ⟨_, ho, rfl⟩ ⟨_, ho2, rfl⟩ noFill_tuple_add seq_tuple_add slot_tuple_add entry_tuple_add (args_tuple_add_2 _ _)
      (tuple_addW1 t b vs.toArray ws.toArray n n2 dd dd2 sl sl2 (by simpa using hv) (by simp [hw])) ⟨ho, ho2, h1 hw⟩
  · refine concat_meets ⟨_, ho, rfl⟩ ⟨_, ho2, rfl⟩ noFill_tuple_add seq_tuple_add slot_tuple_add entry_tuple_add (args_tuple_add_2 _ _)
      (tuple_addW2 t b vs.toArray ws.toArray n n2 dd dd2 sl sl2 (by simpa using hv) (by simpa using hw) (by rw [size_toArray, size_toArray]; exact hsz)) ⟨ho, ho2, ?_⟩
    rw [e]
    exact h2 hw
def sIx (n d : Nat) : Option Int → Nat
  | none => d
  | some v => if v < 0 then (v + (n : Int)).toNat else min v.toNat n
theorem sIx_le (n d : Nat) (hd : d ≤ n) (o : Option Int) : sIx n d o ≤ n := by
  cases o with
  | none => exact hd
  | some v =>
    show (if v < 0 then (v + (n : Int)).toNat else min v.toNat n) ≤ n
    by_cases hv : v < 0
    · rw [if_pos hv]; lia
    · rw [if_neg hv]; exact Nat.min_le_right _ _
theorem clip_eq (v : Int) (n d : Nat) : (if v < 0 then max (v + (n : Int)) 0 else min v (n : Int)) = ((sIx n d (some v) : Nat) : Int) := by
  show (if v < 0 then max (v + (n : Int)) 0 else min v (n : Int)) = (((if v < 0 then (v + (n : Int)).toNat else min v.toNat n) : Nat) : Int)
  by_cases hv : v < 0
  · erw [if_pos hv]; lia
  · erw [if_neg hv]; lia
theorem adjust_gen (lo hi : Option Int) (n : Nat) : Builtin.Slice.sliceAdjust lo hi 1 (n : Int) = (((sIx n 0 lo : Nat) : Int), ((sIx n n hi : Nat) : Int)) := by
  have h1 : ¬ ((1 : Int) < 0) := by lia
  unfold Builtin.Slice.sliceAdjust
  erw [h1, if_false]
  refine Prod.ext ?_ ?_
  · cases lo with
    | none => rfl
    | some v => exact clip_eq v n 0
  · cases hi with
    | none => rfl
    | some v => exact clip_eq v n n
theorem places_gen (i j : Nat) : Builtin.Slice.slicePlaces (i : Int) (j : Int) 1 = j - i := by
  unfold Builtin.Slice.slicePlaces
  have h1 : (1 : Int) > 0 := by lia
  erw [h1, if_true, Int.ediv_one]
  split <;> lia
theorem slicePart_ (p : IsPart v o) (h : Q o s) : wpAny (model prog w) A (Builtin.Slice.slicePartIndex v) Q E s := by
  cases p with
  | none => exact slicePart_none h
  | int i t => exact slicePart_int h
theorem sliceApplied_gen {sl : Addr} {vl vu : Value} {lo hi : Option Int} {n : Nat} {Q : Int × Int × Nat → Shared → Prop} (hs : s.heap.IsSliceOf sl vl vu .none) (pl : IsPart vl lo) (pu : IsPart vu hi) (h : Q (((sIx n 0 lo : Nat) : Int), 1, sIx n n hi - sIx n 0 lo) s) : wpAny (model prog w) A (Builtin.Slice.sliceApplied (.ref sl) (pure (n : Int))) Q E s := by
  obtain ⟨os, hos, hcs, hds⟩ := id hs
  unfold Builtin.Slice.sliceApplied Builtin.Slice.sliceFields
  refine wpAny_bind (wpAny_bind (wpAny_field hos hds (x := vl) rfl (wpAny_bind (wpAny_field hos hds (x := vu) rfl (wpAny_bind (wpAny_field hos hds (x := .none) rfl (wpAny_pure ?_)))))))
  refine wpAny_bind (slicePart_none ?_)
  show wpAny _ _ (if ((1 : Int) == 0) = true then _ else _) _ _ s
  rw [if_neg (by decide)]
  refine wpAny_bind (slicePart_ pl (wpAny_bind (slicePart_ pu (wpAny_bind (wpAny_pure ?_)))))
  show wpAny _ _ (match Builtin.Slice.sliceAdjust lo hi 1 (n : Int) with | (lo, hi) => pure (lo, (1 : Int), Builtin.Slice.slicePlaces lo hi 1)) _ _ s
  rw [adjust_gen lo hi n]
  show wpAny _ _ (pure (((sIx n 0 lo : Nat) : Int), (1 : Int), Builtin.Slice.slicePlaces ((sIx n 0 lo : Nat) : Int) ((sIx n n hi : Nat) : Int) 1)) _ _ s
  rw [places_gen]
  exact wpAny_pure h
theorem pick_gen (xs : Array Value) (i k : Nat) : ((List.range k).filterMap fun (m : Nat) => xs[((i : Int) + (m : Int) * 1).toNat]?).toArray = ((xs.toList.drop i).take k).toArray := by
  have e : (fun (m : Nat) => xs[((i : Int) + (m : Int) * 1).toNat]?) = fun m => xs[i + m]? := by
    funext m
    have : ((i : Int) + (m : Int) * 1).toNat = i + m := by lia
    rw [this]
  rw [e]
  have := pick_run xs i k
  rw [List.filterMap_map] at this
  have e2 : ((fun x => xs[x]?) ∘ fun x => i + x) = fun m => xs[i + m]? := rfl
  rw [e2] at this
  rw [this]
theorem getItem_tuple_cut {t sl : Addr} {items : Array Value} {vl vu : Value} {lo hi : Option Int} {Q : Value → Shared → Prop} (ht : IsTup s.heap t items) (hs : s.heap.IsSliceOf sl vl vu .none) (pl : IsPart vl lo) (pu : IsPart vu hi) (hw : ¬ (sIx items.size 0 lo = 0 ∧ sIx items.size items.size hi = items.size)) (h : Q (.ref s.heap.objs.size) { s with heap := s.heap.push { cls := .type "tuple", data := .seq ((items.toList.drop (sIx items.size 0 lo)).take (sIx items.size items.size hi - sIx items.size 0 lo)).toArray } }) (hsz : items.size ≤ sizeLine) : wpAny (model prog w) A (getItem (.ref t) (.ref sl)) Q E s := by
  have htake : sizeOk (.seq ((items.toList.drop (sIx items.size 0 lo)).take (sIx items.size items.size hi - sIx items.size 0 lo)).toArray) := by
    show ((items.toList.drop (sIx items.size 0 lo)).take (sIx items.size items.size hi - sIx items.size 0 lo)).toArray.size ≤ sizeLine
    rw [size_toArray, length_take, length_drop, Array.length_toList]
    lia
  have hj : sIx items.size items.size hi ≤ items.size := sIx_le _ _ (le_refl _) hi
  obtain ⟨os, hos, hcs, hds⟩ := id hs
  have hTs : s.TypeIs (.ref sl) "slice" := ⟨os, hos, hcs⟩
  unfold getItem
  try with_reducible refine wpAny_holding ?_
  first | refine wpAny_bind (wpAny_pure ?_) | skip
  refine wpAny_bind (wpAny_sequenceKey ht.typeIs (by decide) ?_)
  refine wpAny_bind (wpAny_callSpecial?_slot (name := Str.ofString "__getitem__") ht.typeIs PyProof.Rows.slot_tuple_getitem
    (wpAny_call_entry PyProof.Rows.slot_tuple_getitem ht.typeIs entry_tuple_getitem ?_ (args_tuple_getitem _ _)))
  show wpAny _ _ (Builtin.Tuple.tupleItemsOf (.ref t) >>= _) _ _ s
  refine wpAny_bind (tupleItemsOf_ ht ?_)
  refine wpAny_bind (wpAny_typeOf hTs ?_)
  rw [if_pos (by decide)]
  refine wpAny_bind (sliceApplied_gen hs pl pu ?_)
  have hno : ¬ ((((sIx items.size 0 lo : Nat) : Int) == 0 && (1 : Int) == 1 && (sIx items.size items.size hi - sIx items.size 0 lo) == items.size) = true) := by
    intro q
    rw [and_eq_true, and_eq_true] at q
    have q1 : ((sIx items.size 0 lo : Nat) : Int) = 0 := eq_of_beq q.1.1
    have q2 : sIx items.size items.size hi - sIx items.size 0 lo = items.size := eq_of_beq q.2
    exact hw ⟨by lia, by lia⟩
  show wpAny _ _ (if (((sIx items.size 0 lo : Nat) : Int) == 0 && (1 : Int) == 1 && (sIx items.size items.size hi - sIx items.size 0 lo) == items.size) = true then _ else _) _ _ s
  rw [if_neg hno, pick_gen]
  first
    | exact wpAny_bind (m := Builtin.Tuple.tupleExact _) (wpAny_newObj_type (wpAny_pure ⟨_, rfl, wpAny_pure h⟩) htake)
    | exact wpAny_bind (m := Builtin.Tuple.tupleExact _) (wpAny_newObj_type (wpAny_bind (wpAny_pure (wpAny_pure ⟨_, rfl, wpAny_pure h⟩))) htake)
    | exact wpAny_bind (wpAny_bind (m := Builtin.Tuple.tupleExact _) (wpAny_newObj_type (wpAny_pure (wpAny_pure ⟨_, rfl, wpAny_pure h⟩)) htake))
    | exact wpAny_bind (wpAny_bind (m := Builtin.Tuple.tupleExact _) (wpAny_newObj_type (wpAny_pure ⟨_, rfl, wpAny_pure h⟩) htake))
end
end HT
namespace L2
open PySem PySem.Spec PyProof.Rows
abbrev TO := St → Hp → (Option Int → Hp → Prop) → Prop
def PO (X : Cx) (e : Option Expr) (t : TO) : Prop :=
  ∀ (pins : List (Addr × Obj)) (s : Shared) (σ : St) (H : Hp) (Q : Option Int → Hp → Prop), Inv X pins σ H s → t σ H Q →
    wpAny (model X.prog X.w) X.A (evalPart e X.env) (fun u s' => ∃ o H', Inv X pins σ H' s' ∧ IsPart u o ∧ Q o H') X.xe s
def tPart (t : TE) : TO := fun σ H Q => t σ H fun x H1 => ∃ i, x = .int i ∧ Q (some i) H1
section
variable {X : Cx} {e : Expr} {te : TE} {lo hi : Option Expr} {tl th : TO} {pos p2 : Pos}
theorem po_some (h : PE X e te) : PO X (some e) (tPart te) := by
  intro pins s σ H Q I hw
  rw [evalPart_some]
  refine thn (h pins s σ H _ I hw) fun u s1 ⟨x, H1, I1, r1, q1⟩ => ?_
  obtain ⟨i, rfl, q⟩ := q1
  obtain ⟨t, rfl⟩ := r1
  exact ⟨some i, H1, I1, .int i t, q⟩
def SlR (X : Cx) (r : V → Option Int → Option Int → Hp → VK → Prop) : Prop :=
  ∀ (pins : List (Addr × Obj)) (s : Shared) (σ : St) (H : Hp) (x : V) (v vl vu : Value) (lo hi : Option Int) (sl : Addr) (Q : VK), Inv X pins σ H s → RelV x v → s.heap.IsSliceOf sl vl vu .none → IsPart vl lo → IsPart vu hi → r x lo hi H Q →
    ∃ T id, typeLookup (.type T) "__getitem__" = pure (some (.builtin id)) ∧ s.TypeIs v T ∧ wpAny (model X.prog X.w) X.A (getItem v (.ref sl)) (EP X pins σ Q) X.xe s
theorem SlR.or (h : SlR X r) (h' : SlR X r') : SlR X (fun x lo hi H Q => r x lo hi H Q ∨ r' x lo hi H Q) := by
  intro pins s σ H x v vl vu lo hi sl Q I rx hs pl pu q
  rcases q with q | q
  · exact h pins s σ H x v vl vu lo hi sl Q I rx hs pl pu q
  · exact h' pins s σ H x v vl vu lo hi sl Q I rx hs pl pu q
def tSl (r : V → Option Int → Option Int → Hp → VK → Prop) (te : TE) (tl th : TO) : TE := fun σ H Q => te σ H fun x H1 => tl σ H1 fun l H2 => th σ H2 fun u H3 => r x l u H3 Q
theorem pe_slice (hr : SlR X r) (he : PE X e te) (hl : PO X lo tl) (hu : PO X hi th) : PE X (.Subscript e (.Slice lo hi none p2) pos) (tSl r te tl th) := by
  intro pins s σ H Q I h
  refine Subscript_ (thn (he pins s σ H _ I h) fun v s1 ⟨x, H1, I1, r1, q1⟩ => ?_)
  refine wpAny_Slice (thn (hl pins s1 σ H1 _ I1 q1) fun vl s2 ⟨l, H2, I2, pl, q2⟩ => thn (hu pins s2 σ H2 _ I2 q2) fun vu s3 ⟨u, H3, I3, pu, q3⟩ => ?_)
  rw [evalPart_none]
  refine wpAny_pure ?_
  have I4 : Inv X pins σ H3 { s3 with heap := s3.heap.push { cls := .type "slice", data := .fields #[vl, vu, .none] } } := I3.kept (t' := s3.toks) fun b ob q => get?_push_of_some _ q
  obtain ⟨T, id, hT, ht, hg⟩ := hr pins { s3 with heap := s3.heap.push { cls := .type "slice", data := .fields #[vl, vu, .none] } } σ H3 x v vl vu l u s3.heap.objs.size Q I4 r1 (Heap.IsSliceOf.new ..) pl pu q3
  show wpAny (model X.prog X.w) X.A (subscriptTail e (.Slice lo hi none p2) v (.ref s3.heap.objs.size)) (EP X pins σ Q) X.xe { s3 with heap := s3.heap.push { cls := .type "slice", data := .fields #[vl, vu, .none] } }
  exact tail_any (ops := [.ref s3.heap.objs.size, v]) ht hT hg (by with_unfolding_all rfl)
def cutV (xs : List V) (lo hi : Option Int) : List V := (xs.drop (HT.sIx xs.length 0 lo)).take (HT.sIx xs.length xs.length hi - HT.sIx xs.length 0 lo)
theorem cutV_length (xs : List V) (lo hi : Option Int) : (cutV xs lo hi).length ≤ xs.length := by
  unfold cutV
  rw [length_take, length_drop]
  lia
def rSlT (K : Frag) : V → Option Int → Option Int → Hp → VK → Prop := fun x lo hi H Q => ∃ a xs, x = .ref a ∧ SqT K H a xs ∧
  ¬ (HT.sIx xs.length 0 lo = 0 ∧ HT.sIx xs.length xs.length hi = xs.length) ∧ ∀ p, H p = none → Q (.ref p) (upd H p (.tup (cutV xs lo hi)))
theorem sl_tup : SlR X (rSlT X.K) := by
  intro pins s σ H x v vl vu lo hi sl Q I rx hs pl pu h
  obtain ⟨a, xs, rfl, hx, hw, q⟩ := h
  cases rx
  obtain ⟨its, r, ht, hz⟩ := I.tuple hx
  have hlen : its.toArray.size = xs.length := by rw [size_toArray]; exact r.length.symm
  refine ⟨"tuple", _, PyProof.Rows.slot_tuple_getitem.lookup, ht.typeIs, ?_⟩
  refine HT.getItem_tuple_cut ht hs pl pu (by rw [hlen]; exact hw) ?_ (by rw [hlen]; exact hz)
  rw [hlen]
  refine ⟨.ref s.heap.objs.size, _, I.laid (t' := s.toks) (o := .tup (cutV xs lo hi)) (fun b ob q => get?_push_of_some _ q) (le_refl _) ?_, rfl, q _ (I.hok.fresh (le_refl _))⟩
  exact ⟨le_trans (cutV_length xs lo hi) hz, _, (r.drop (HT.sIx xs.length 0 lo)).take (HT.sIx xs.length xs.length hi - HT.sIx xs.length 0 lo), IsTupN.new _ _⟩
def rCatT (K : Frag) : R2 := fun x y H Q => ∃ a b xs ys, x = .ref a ∧ y = .ref b ∧ SqT K H a xs ∧ SqT K H b ys ∧ xs ≠ [] ∧ xs.length + ys.length ≤ sizeLine ∧
  (ys = [] → Q (.ref a) H) ∧ (ys ≠ [] → ∀ p, H p = none → Q (.ref p) (upd H p (.tup (xs ++ ys))))
theorem Vals.nil_iff (r : Vals xs us) : us = [] ↔ xs = [] := by
  cases r with
  | nil => simp
  | cons _ _ => simp
theorem op_catT : OpR X (binaryOp .Add) (rCatT X.K) := by
  intro pins s σ H x y v u Q I rx ry h
  obtain ⟨a, b, xs, ys, rfl, rfl, ha, hb, hx, hz, q1, q2⟩ := h
  cases rx
  cases ry
  obtain ⟨its, r1, p1, _⟩ := I.tuple ha
  obtain ⟨its2, r2, p2, _⟩ := I.tuple hb
  refine HT.cat_tup p1 p2 (fun z => hx (r1.nil_iff.mp z)) (fun z => ⟨.ref a, H, I, rfl, q1 (r2.nil_iff.mp z)⟩) (fun z => ?_) (by rw [← r1.length, ← r2.length]; exact hz)
  refine ⟨.ref s.heap.objs.size, _, I.laid (t' := s.toks) (o := .tup (xs ++ ys)) (fun b ob q => get?_push_of_some _ q) (le_refl _) ?_, rfl, q2 (fun w => z (r2.nil_iff.mpr w)) _ (I.hok.fresh (le_refl _))⟩
  exact ⟨by rw [length_append]; exact hz, _, r1.append r2, IsTupN.new _ _⟩
end
def ixN (n : Nat) (i : Int) : Option Nat := if 0 ≤ i then (if i < n then some i.toNat else none) else if -(n : Int) ≤ i then some (i + n).toNat else none
def atI {α : Type} (xs : List α) (i : Int) : Option α := (ixN xs.length i).bind fun j => xs[j]?
theorem ixN_seq (h : ixN n i = some j) : seqIndex? i n = some j ∧ j < n ∧ -(n : Int) ≤ i ∧ i < n := by
  unfold ixN at h
  by_cases h0 : 0 ≤ i
  · rw [if_pos h0] at h
    by_cases h1 : i < n
    · rw [if_pos h1] at h
      have e : i.toNat = j := Option.some.inj h
      exact ⟨by rw [seqIndex_of h0 h1, e], by lia, by lia, h1⟩
    · rw [if_neg h1] at h; cases h
  · rw [if_neg h0] at h
    by_cases h1 : -(n : Int) ≤ i
    · rw [if_pos h1] at h
      have e : (i + n).toNat = j := Option.some.inj h
      exact ⟨by rw [seqIndex_neg (by lia) h1, e], by lia, h1, by lia⟩
    · rw [if_neg h1] at h; cases h
theorem atI_get {α : Type} {xs : List α} {v : α} (h : atI xs i = some v) : ∃ j, seqIndex? i xs.length = some j ∧ xs[j]? = some v ∧ j < xs.length ∧ -(xs.length : Int) ≤ i ∧ i < xs.length := by
  unfold atI at h
  cases e : ixN xs.length i with
  | none => rw [e] at h; cases h
  | some j =>
    rw [e] at h
    obtain ⟨h1, h2, h3, h4⟩ := ixN_seq e
    exact ⟨j, h1, h, h2, h3, h4⟩
def PlainIx (b : Expr) : Prop := ∀ o i, subscripted b false o i = operate [o, i] (getItem o i)
def IxR (X : Cx) (r : R2) : Prop :=
  ∀ (value slice : Expr) (pins : List (Addr × Obj)) (s : Shared) (σ : St) (H : Hp) (x y : V) (v u : Value) (Q : VK), Inv X pins σ H s → RelV x v → RelV y u → r x y H Q →
    subscripted slice false v u = operate [v, u] (getItem v u) → wpAny (model X.prog X.w) X.A (subscriptTail value slice v u) (EP X pins σ Q) X.xe s
def MtR (X : Cx) (id : String) (r : V → List V → Hp → VK → Prop) : Prop :=
  ∀ (pins : List (Addr × Obj)) (s : Shared) (σ : St) (H : Hp) (x : V) (xs : List V) (v : Value) (us : List Value) (Q : VK), Inv X pins σ H s → RelV x v → Vals xs us → r x xs H Q →
    wpAny (model X.prog X.w) X.A (call (.builtin id) (v :: us)) (EP X pins σ Q) X.xe s
section
variable {X : Cx} {a b : Expr} {ta tb : TE} {pos : Pos}
theorem IxR.or (h : IxR X r) (h' : IxR X r') : IxR X (fun x y H Q => r x y H Q ∨ r' x y H Q) := by
  intro value slice pins s σ H x y v u Q I rx ry q hs
  rcases q with q | q
  · exact h value slice pins s σ H x y v u Q I rx ry q hs
  · exact h' value slice pins s σ H x y v u Q I rx ry q hs
theorem pe_ix (hr : IxR X r) (ha : PE X a ta) (hb : PE X b tb) (hs : PlainIx b) : PE X (.Subscript a b pos) (tOp r ta tb) := by
  intro pins s σ H Q I h
  exact Subscript_ (binT ha hb I h fun v u s2 x y H2 I2 rx ry q => hr a b pins s2 σ H2 x y v u Q I2 rx ry q (hs _ _))
def rIxL (K : Frag) : R2 := fun x y H Q => ∃ p xs i v, x = .ref p ∧ y = .int i ∧ SqL K H p xs ∧ atI xs i = some v ∧ Q v H
def rIxT (K : Frag) : R2 := fun x y H Q => ∃ p xs i v, x = .ref p ∧ y = .int i ∧ SqT K H p xs ∧ atI xs i = some v ∧ Q v H
def rIxS : R2 := fun x y H Q => ∃ z i c, x = .str z ∧ y = .int i ∧ z.length ≤ sizeLine ∧ atI z.cps.toList i = some c ∧ Q (.str ⟨#[c]⟩) H
theorem ix_list : IxR X (rIxL X.K) := by
  intro value slice pins s σ H x y v u Q I rx ry h hs
  obtain ⟨p, xs, i, z, rfl, rfl, hq, he, q⟩ := h
  cases rx
  obtain ⟨t, rfl⟩ := ry
  obtain ⟨its, r, pl, hz⟩ := I.list hq
  obtain ⟨j, h1, h2, h3, h4, h5⟩ := atI_get he
  obtain ⟨w, ew, rw'⟩ := r.get h2
  have hl := r.length
  have hn := line63
  have fin : EP X pins σ Q w s := ⟨z, H, I, rw', q⟩
  by_cases h0 : 0 ≤ i
  · have hj : i.toNat = j := by
      rw [seqIndex_of h0 h5] at h1
      exact Option.some.inj h1
    exact item_listR pl.isList h0 (by lia) (by rw [hj]; simpa using ew) fin hs
  · have hj : (i + (its.toArray.size : Int)).toNat = j := by
      rw [seqIndex_neg (by lia) h4] at h1
      rw [size_toArray, ← hl]
      exact Option.some.inj h1
    exact subscriptTail_builtinR (x := w) pl.isList.typeIs slot_list_getitem.lookup
      (wpAny_getItem_list_neg (Q := fun r s' => r = w ∧ EP X pins σ Q r s') pl.isList (by lia) (by rw [size_toArray] <;> lia) (by lia) (by rw [hj]; simpa using ew) ⟨rfl, fin⟩) hs
theorem ix_tup : IxR X (rIxT X.K) := by
  intro value slice pins s σ H x y v u Q I rx ry h hs
  obtain ⟨p, xs, i, z, rfl, rfl, hq, he, q⟩ := h
  cases rx
  obtain ⟨t, rfl⟩ := ry
  obtain ⟨its, r, pl, hz⟩ := I.tuple hq
  obtain ⟨j, h1, h2, h3, h4, h5⟩ := atI_get he
  obtain ⟨w, ew, rw'⟩ := r.get h2
  have hl := r.length
  have hn := line63
  have fin : EP X pins σ Q w s := ⟨z, H, I, rw', q⟩
  exact subscriptTail_builtinR (x := w) pl.typeIs slot_tuple_getitem.lookup
    (getItem_tuple (j := j) (Q := fun r s' => r = w ∧ EP X pins σ Q r s') pl (by lia) (by lia) (by rw [size_toArray, ← hl]; exact h1) (by simpa using ew) ⟨rfl, fin⟩) hs
theorem ix_str : IxR X rIxS := by
  intro value slice pins s σ H x y v u Q I rx ry h hs
  obtain ⟨z, i, c, rfl, rfl, hz, he, q⟩ := h
  obtain ⟨t, rfl⟩ := rx
  obtain ⟨t', rfl⟩ := ry
  obtain ⟨j, h1, h2, h3, h4, h5⟩ := atI_get he
  have hl : z.cps.toList.length = z.length := by simp [Str.length]
  rw [hl] at h1 h4 h5
  have hn := line63
  exact tail_any (typeIs_str s z t) slot_str_getitem.lookup (getItem_str (c := c) (by
    have e1 : decide (i < -(2 ^ 63 : Int)) = false := decide_eq_false (by lia)
    have e2 : decide (i ≥ 2 ^ 63) = false := decide_eq_false (by lia)
    rw [e1, e2, Bool.or_false]) (by rw [h1]; simpa using h2) ⟨.str ⟨#[c]⟩, H, I.tok _, ⟨_, rfl⟩, q⟩) hs
def rIx (K : Frag) : R2 := fun x y H Q => rIxL K x y H Q ∨ rIxT K x y H Q ∨ rIxS x y H Q
theorem ix_seq : IxR X (rIx X.K) := ix_list.or (ix_tup.or ix_str)
theorem mapSeq_set (its : List Value) (n j : Nat) (u : Value) : Obj.mapSeq (·.setIfInBounds j u) { cls := .type "list", data := .seq its.toArray n } = { cls := .type "list", data := .seq (its.set j u).toArray n } := by
  simp [Obj.mapSeq]
theorem Inv.lst {pins : List (Addr × Obj)} {σ : St} {H : Hp} {s : Shared} {p : Addr} {xs : List V} (I : Inv X pins σ H s) (h : H p = some (.lst xs)) :
    ∃ (its : List Value) (n : Nat), Vals xs its ∧ s.heap.get? p = some { cls := .type "list", data := .seq its.toArray n } ∧ xs.length ≤ sizeLine := by
  obtain ⟨z, its, n, r, e⟩ := I.hok p _ h
  exact ⟨its, n, r, e, z⟩
theorem Inv.lstUpd {pins : List (Addr × Obj)} {σ : St} {H : Hp} {s : Shared} {p : Addr} {xs ys : List V} {its its' : List Value} {n n' : Nat} {f : Obj → Obj} (I : Inv X pins σ H s) (h : H p = some (.lst xs)) (ho : s.heap.get? p = some { cls := .type "list", data := .seq its.toArray n }) (hf : f { cls := .type "list", data := .seq its.toArray n } = { cls := .type "list", data := .seq its'.toArray n' }) (r : Vals ys its') (hz : ys.length ≤ sizeLine) (t : Nat) :
    Inv X pins σ (upd H p (.lst ys)) { s with heap := s.heap.update p f, toks := t } := by
  have e : (s.heap.update p f).get? p = some { cls := .type "list", data := .seq its'.toArray n' } := by
    rw [get?_update_self f ho (by rw [hf] <;> rfl), hf]
  refine I.write (x := p) (e := p) (by rw [h]; trivial) (.inl rfl) (fun b u hb q => (get?_update_other _ _ (Ne.symm hb)).trans q) ⟨_, e⟩ ?_
  exact ⟨hz, its', n', r, e⟩
def rSetL : V → V → V → Hp → (Hp → Prop) → Prop := fun o i v H Q => ∃ p xs k j, o = .ref p ∧ i = .int k ∧ H p = some (.lst xs) ∧ ixN xs.length k = some j ∧ Q (upd H p (.lst (xs.set j v)))
theorem set_list : PSet X rSetL := by
  intro pins s σ H o i v ov iv u Q I ro ri rv h
  obtain ⟨p, xs, k, j, rfl, rfl, hp, hj, q⟩ := h
  cases ro
  obtain ⟨t, rfl⟩ := ri
  obtain ⟨its, n, r, ho, hz⟩ := I.lst hp
  obtain ⟨h1, h2, h3, h4⟩ := ixN_seq hj
  have hl := r.length
  have hn := line63
  have I' : Inv X pins σ (upd H p (.lst (xs.set j v))) { s with heap := s.heap.update p (Obj.mapSeq (·.setIfInBounds j u)) } :=
    I.lstUpd hp ho (mapSeq_set its n j u) (r.set rv j) (by rw [length_set]; exact hz) s.toks
  by_cases h0 : 0 ≤ k
  · have hk : k.toNat = j := by
      rw [seqIndex_of h0 h4] at h1
      exact Option.some.inj h1
    exact PySem.W.ki_setAt ho h0 (by lia) (by rw [size_toArray, ← hl]; exact h4) (by rw [hk]; exact ⟨_, I', q⟩)
  · have hk : (k + (its.toArray.size : Int)).toNat = j := by
      rw [seqIndex_neg (by lia) h3] at h1
      rw [size_toArray, ← hl]
      exact Option.some.inj h1
    exact PySem.W.ki_setBack ho (by lia) (by rw [size_toArray, ← hl]; exact h3) (by lia) (by rw [hk]; exact ⟨_, I', q⟩)
theorem slice_bounds (lo hi : Option Int) (n : Nat) : (sliceBounds lo hi none n).1 = ((HT.sIx n 0 lo : Nat) : Int) ∧ (sliceBounds lo hi none n).2.1 = ((HT.sIx n n hi : Nat) : Int) ∧ (sliceBounds lo hi none n).2.2 = 1 := by
  refine ⟨?_, ?_, rfl⟩
  · cases lo with
    | none => simp [sliceBounds, HT.sIx]
    | some i =>
      erw [sliceBounds, HT.sIx, getD_none, show (1 : Int) > 0 by decide, if_true]
      by_cases h : i < 0
      · erw [h, if_true] <;> lia
      · erw [h, if_false] <;> lia
  · cases hi with
    | none => simp [sliceBounds, HT.sIx]
    | some i =>
      erw [sliceBounds, HT.sIx, getD_none, show (1 : Int) > 0 by decide, if_true]
      by_cases h : i < 0
      · erw [h, if_true] <;> lia
      · erw [h, if_false] <;> lia
theorem slicePick_cut (its : List Value) (lo hi : Option Int) : slicePick its.toArray lo hi none = ((its.drop (HT.sIx its.length 0 lo)).take (HT.sIx its.length its.length hi - HT.sIx its.length 0 lo)).toArray := by
  obtain ⟨h1, h2, h3⟩ := slice_bounds lo hi its.toArray.size
  unfold slicePick
  rw [h1, h2, h3]
  erw [sliceRange_one, pick_run, size_toArray] <;> rfl
def rSlL (K : Frag) : V → Option Int → Option Int → Hp → VK → Prop := fun x lo hi H Q => ∃ a xs, x = .ref a ∧ SqL K H a xs ∧ ∀ p, H p = none → Q (.ref p) (upd H p (.lst (cutV xs lo hi)))
theorem sl_list : SlR X (rSlL X.K) := by
  intro pins s σ H x v vl vu lo hi sl Q I rx hs pl pu h
  obtain ⟨a, xs, rfl, hx, q⟩ := h
  cases rx
  obtain ⟨its, r, ht, hz⟩ := I.list hx
  have hlen := r.length
  refine ⟨"list", _, slot_list_getitem.lookup, ht.isList.typeIs, ?_⟩
  refine wpAny_getItem_list_slice ht.isList hs pl pu .none (by simp) ?_ (by rw [size_toArray] <;> lia)
  rw [slicePick_cut, ← hlen]
  refine ⟨.ref s.heap.objs.size, _, I.laid (t' := s.toks) (o := .lst (cutV xs lo hi)) (fun b ob q => get?_push_of_some _ q) (le_refl _) ?_, rfl, q _ (I.hok.fresh (le_refl _))⟩
  exact ⟨le_trans (cutV_length xs lo hi) hz, _, 0, (r.drop (HT.sIx xs.length 0 lo)).take (HT.sIx xs.length xs.length hi - HT.sIx xs.length 0 lo), get?_push_size _ rfl⟩
theorem CallR.or (h : CallR X f r) (h' : CallR X f r') : CallR X f (fun xs H Q => r xs H Q ∨ r' xs H Q) := by
  intro pins s σ H xs us Q I rs q
  rcases q with q | q
  · exact h pins s σ H xs us Q I rs q
  · exact h' pins s σ H xs us Q I rs q
theorem call_list_of : CallR X (.type "list") (fun xs H Q => ∃ p ys, xs = [.ref p] ∧ (SqL X.K H p ys ∨ SqT X.K H p ys) ∧ ∀ l, H l = none → Q (.ref l) (upd H l (.lst ys))) := by
  intro pins s σ H xs us Q I r h
  obtain ⟨p, ys, rfl, hq, q⟩ := h
  obtain ⟨u, rfl, rx⟩ := vals1 r
  cases rx
  have fin : ∀ (its : List Value), Vals ys its → ys.length ≤ sizeLine → ∀ (h' : Heap) (c' : Nat), (∀ b o', s.heap.get? b = some o' → h'.get? b = some o') →
      h'.get? s.heap.objs.size = some { cls := .type "list", dict := none, data := .seq its.toArray c', slots := #[] } → EP X pins σ Q (.ref s.heap.objs.size) { s with heap := h' } := fun its r' hz h' c' kp e =>
    ⟨.ref s.heap.objs.size, _, I.laid (t' := s.toks) kp (le_refl _) (show ObjOk X.prog X.w _ h' _ (.lst ys) from ⟨hz, its, c', r', e⟩), rfl, q _ (I.hok.fresh (le_refl _))⟩
  rcases hq with hq | hq
  · obtain ⟨its, r', pl, hz⟩ := I.list hq
    have hlen := r'.length
    obtain ⟨o, ho, hc, n, hd⟩ := pl.isList
    exact call_list_seq p (.inl rfl) ho hc hd (fun h' c' kp e => fin its r' hz h' c' kp e) (by erw [size_toArray] <;> lia)
  · obtain ⟨its, r', pl, hz⟩ := I.tuple hq
    have hlen := r'.length
    obtain ⟨o, ho, hc, n, hd⟩ := pl
    exact call_list_seq p (.inr rfl) ho hc hd (fun h' c' kp e => fin its r' hz h' c' kp e) (by erw [size_toArray] <;> lia)
theorem call_tuple_of : CallR X (.type "tuple") (fun xs H Q => ∃ p ys, xs = [.ref p] ∧ ((SqL X.K H p ys ∧ ∀ l, H l = none → Q (.ref l) (upd H l (.tup ys))) ∨ (SqT X.K H p ys ∧ Q (.ref p) H))) := by
  intro pins s σ H xs us Q I r h
  obtain ⟨p, ys, rfl, h⟩ := h
  obtain ⟨u, rfl, rx⟩ := vals1 r
  cases rx
  rcases h with ⟨hq, q⟩ | ⟨hq, q⟩
  · obtain ⟨its, r', pl, hz⟩ := I.list hq
    have hlen := r'.length
    refine call_tuple_list pl.isList (fun h' kp => ?_) (by erw [size_toArray] <;> lia)
    have I1 : Inv X pins σ H { s with heap := h' } := I.kept (t' := s.toks) kp
    have I2 : Inv X pins σ (upd H h'.objs.size (.tup ys)) { s with heap := h'.push { cls := .type "tuple", data := .seq its.toArray } } :=
      I1.laid (t' := s.toks) (fun b o e => get?_push_of_some _ e) (le_refl _) (show ObjOk X.prog X.w _ _ _ (.tup ys) from ⟨hz, its, r', IsTupN.new _ _⟩)
    exact ⟨.ref h'.objs.size, _, I2, rfl, q _ (I1.hok.fresh (le_refl _))⟩
  · obtain ⟨its, r', pl, hz⟩ := I.tuple hq
    exact call_tuple_same pl ⟨.ref p, H, I, rfl, q⟩
def tyV (K : Frag) (T : String) (x : V) (H : Hp) : Prop := match x with
  | .str _ => T = "str"
  | .int _ => T = "int"
  | .ref p => (T = "list" ∧ ∃ xs, SqL K H p xs) ∨ (T = "tuple" ∧ ∃ o, K.lookup p = some o ∧ o.cls = .type "tuple" ∧ o.dict = none) ∨
      (T = "dict" ∧ ((∃ kvs, H p = some (.dK kvs)) ∨ ∃ kvs, H p = some (.dT kvs))) ∨ (T = "set" ∧ ∃ S n, H p = some (.set S n))
  | _ => False
theorem tyV_is (I : Inv X pins σ H s) (r : RelV x v) (ty : tyV X.K T x H) :
    s.TypeIs v T ∧ ∀ a, v = .ref a → ∃ ob, s.heap.get? a = some ob ∧ ob.dict = none := by
  cases x with
  | str z =>
    obtain ⟨t, rfl⟩ := r
    cases (show T = "str" from ty)
    exact ⟨typeIs_str s z t, fun _ e => nomatch e⟩
  | int i =>
    obtain ⟨t, rfl⟩ := r
    cases (show T = "int" from ty)
    exact ⟨typeIs_int s i t, fun _ e => nomatch e⟩
  | ref p =>
    cases r
    rcases ty with ⟨rfl, xs, hq⟩ | ⟨rfl, o, hk, hc, hd⟩ | ⟨rfl, hk⟩ | ⟨rfl, S, n, hk⟩
    · obtain ⟨its, _, pl, _⟩ := I.list hq
      refine ⟨pl.isList.typeIs, fun a e => ?_⟩
      cases e
      obtain ⟨o, n, e, c, hd, _⟩ := pl
      exact ⟨o, e, hd⟩
    · refine ⟨⟨o, I.kIn p o hk, hc⟩, fun a e => ?_⟩
      cases e
      exact ⟨o, I.kIn _ o hk, hd⟩
    · have z : ∃ o, s.heap.get? p = some o ∧ o.ExactDict := by
        rcases hk with ⟨kvs, hk⟩ | ⟨kvs, hk⟩
        · obtain ⟨_, _, _, _, o, _, _, e, ex, _⟩ := I.hok p _ hk
          exact ⟨o, e, ex⟩
        · obtain ⟨_, _, _, _, o, _, _, e, ex, _⟩ := I.hok p _ hk
          exact ⟨o, e, ex⟩
      obtain ⟨o, e, ex⟩ := z
      refine ⟨⟨o, e, ex.1⟩, fun a e2 => ?_⟩
      cases e2
      exact ⟨o, e, ex.2.1⟩
    · obtain ⟨o, _, _, _, e, ex, _⟩ := I.hok p _ hk
      refine ⟨⟨o, e, ex.1⟩, fun a e2 => ?_⟩
      cases e2
      exact ⟨o, e, ex.2.1⟩
  | _ => exact False.elim ty
def tBM0 (K : Frag) (T : String) (r : V → List V → Hp → VK → Prop) (to : TE) : TE := fun σ H Q => to σ H fun x H1 => tyV K T x H1 ∧ r x [] H1 Q
def tBM (K : Frag) (T : String) (r : V → List V → Hp → VK → Prop) (to : TE) (t : TA) : TE := fun σ H Q => to σ H fun x H1 => tyV K T x H1 ∧ t σ H1 fun xs H2 => r x xs H2 Q
variable {o e : Expr} {es : List Expr} {to : TE} {t : TA} {name : Str} {apos cpos : Pos} {T id : String} {r : V → List V → Hp → VK → Prop}
theorem pe_bm0 (pa : PlainAttrs T) (slot : Slot T name id) (hty : typeOf (.builtin id) = pure (.type "method_descriptor")) (hm : MtR X id r) (ho : PE X o to) (hbase : attributeBase o name X.env (eval o X.env) = eval o X.env := by rfl) (hline : (apos.endLine == cpos.line) = true := by rfl) : PE X (.Call (.Attribute o name apos) [] [] cpos) (tBM0 X.K T r to) := by
  intro pins s σ H Q I h
  refine wpAny_Call_method0_late hbase hline (thn (ho pins s σ H _ I h) fun v s1 ⟨x, H1, I1, r1, ty, q1⟩ => ?_)
  obtain ⟨h1, h2⟩ := tyV_is I1 r1 ty
  exact ⟨T, id, pa, slot, hty, h1, h2, Calls.callWith_builtin rfl (PySem.evalArgs_none (hm pins s1 σ H1 x [] v [] Q I1 r1 .nil q1))⟩
theorem pe_bm (pa : PlainAttrs T) (slot : Slot T name id) (hty : typeOf (.builtin id) = pure (.type "method_descriptor")) (hm : MtR X id r) (ho : PE X o to) (ha : PA X (e :: es) t) (hbase : attributeBase o name X.env (eval o X.env) = eval o X.env := by rfl) (hfew : ((backTo cpos (starEach (e :: es) X.env)).all (fun x => !x.1) && (backToKw cpos (keywordEach [] X.env)).all (fun x => x.1.isSome)
      && decide ((e :: es).length + ([] : List Keyword).length + (if ([] : List Keyword).isEmpty then 0 else 1) < 30)) = true := by rfl) (hline : (apos.endLine == cpos.line) = true := by rfl) (hs : ZStE X.env e es := by rfl) (hplain : ZBkT X.env es cpos := by rfl) :
    PE X (.Call (.Attribute o name apos) (e :: es) [] cpos) (tBM X.K T r to t) := by
  intro pins s σ H Q I h
  refine wpAny_Call_method_late hbase hfew hline rfl (thn (ho pins s σ H _ I h) fun v s1 ⟨x, H1, I1, r1, ty, q1⟩ => ?_)
  obtain ⟨h1, h2⟩ := tyV_is I1 r1 ty
  refine ⟨T, id, pa, slot, hty, h1, h2, ?_⟩
  have hA := ha cpos pins s1 σ H1 _ I1 q1
  rw [hs] at hA ⊢
  refine Calls.callWith_builtin (by show (false || (backTo cpos (starEach es X.env)).any (·.1)) = false; rw [hplain] <;> rfl) (Calls.evalArgs_plain ?_)
  exact thn hA fun us s2 ⟨vs, H2, I2, r2, q2⟩ => hm pins s2 σ H2 x vs v us Q I2 r1 r2 q2
end
def MtM (X : Cx) (id : String) (r : V → List V → Hp → VK → Prop) : Prop :=
  ∀ (pins : List (Addr × Obj)) (s : Shared) (σ : St) (H : Hp) (x : V) (xs : List V) (v : Value) (us : List Value) (Q : VK), Inv X pins σ H s → RelV x v → Vals xs us → r x xs H Q →
    wpAny (model X.prog X.w) X.A (call (.builtin id) (v :: us)) (EP X pins σ Q) X.xe s
theorem Vals.one : ∀ {x : V} {us : List Value}, Vals [x] us → ∃ u, us = [u] ∧ RelV x u
  | _, _, .cons r .nil => ⟨_, rfl, r⟩
theorem Vals.rep (h : Vals xs us) : ∀ k : Nat, Vals (replicate k xs).flatten (replicate k us).flatten
  | 0 => .nil
  | k + 1 => by
    rw [replicate_succ, replicate_succ, flatten_cons, flatten_cons]
    exact Vals.append h (Vals.rep h k)
theorem foldl_rep (its : List Value) : ∀ (k : Nat) (acc : List Value),
    foldl (fun x1 x2 => x1 ++ x2) acc.toArray (replicate k its.toArray) = (acc ++ (replicate k its).flatten).toArray
  | 0, acc => by simp
  | k + 1, acc => by
    have e : acc.toArray ++ its.toArray = (acc ++ its).toArray := by simp
    have e2 : (acc ++ its) ++ (replicate k its).flatten = acc ++ (replicate (k + 1) its).flatten := by
      rw [replicate_succ, flatten_cons, List.append_assoc]
    rw [← e2, ← foldl_rep its k (acc ++ its), ← e, replicate_succ, foldl_cons]
section
variable {X : Cx} {pins : List (Addr × Obj)} {σ : St} {H : Hp} {s : Shared} {l b : Addr} {xs ys zs : List V}
theorem Inv.lset {its its' : List Value} {n : Nat} {f : Array Value → Array Value} {t' : Nat} (I : Inv X pins σ H s) (hH : H l = some (.lst xs)) (e : s.heap.get? l = some { cls := .type "list", data := .seq its.toArray n }) (hf : f its.toArray = its'.toArray) (hv : Vals ys its') (hz : ys.length ≤ sizeLine) :
    Inv X pins σ (upd H l (.lst ys)) { s with heap := s.heap.update l (Obj.mapSeq f), toks := t' } := by
  have q := PySem.IsL.update e f
  rw [hf] at q
  refine I.write (x := l) (e := l) (by rw [hH]; exact trivial) (.inl rfl) (fun b' u hb hu => (get?_update_other s.heap (Obj.mapSeq f) (Ne.symm hb)).trans hu) ⟨_, q⟩ ?_
  exact ⟨hz, its', _, hv, q⟩
theorem Inv.lnew (I : Inv X pins σ H s) (hv : Vals ys its) (hz : ys.length ≤ sizeLine) :
    Inv X pins σ (upd H s.heap.objs.size (.lst ys)) { s with heap := s.heap.push { cls := .type "list", data := .seq its.toArray }, toks := t' } :=
  I.laid (fun _ _ q => get?_push_of_some _ q) (le_refl _) ⟨hz, its, 0, hv, get?_push_size _ rfl⟩
theorem Inv.fresh (I : Inv X pins σ H s) : H s.heap.objs.size = none := I.hok.fresh (le_refl _)
theorem Inv.lstM (I : Inv X pins σ H s) (hH : H l = some (.lst xs)) : xs.length ≤ sizeLine ∧ ∃ (its : List Value) (n : Nat), Vals xs its ∧ xs.length = its.length ∧ s.heap.get? l = some { cls := .type "list", data := .seq its.toArray n } := by
  obtain ⟨z, its, n, r, e⟩ := I.hok l _ hH
  exact ⟨z, its, n, r, r.length, e⟩
theorem notLongL (h : n ≤ sizeLine) : Builtin.List.listTooLong n = false := by
  unfold Builtin.List.listTooLong
  exact decide_eq_false (by lia)
end
section
variable {X : Cx}
def rAppend : V → List V → Hp → VK → Prop := fun x vs H Q => ∃ l xs y, x = .ref l ∧ vs = [y] ∧ H l = some (.lst xs) ∧ xs.length < sizeLine ∧ Q .non (upd H l (.lst (xs ++ [y])))
theorem mt_append : MtM X "list.append" rAppend := by
  intro pins s σ H x vs v us Q I rx rv h
  obtain ⟨l, xs, y, rfl, rfl, hH, hz, q⟩ := h
  cases rx
  obtain ⟨u, rfl, ru⟩ := rv.one
  obtain ⟨z, its, n, r, hl, e⟩ := I.lstM hH
  refine call_meets F.slot_list_append ⟨_, e, rfl⟩ F.entry_list_append (F.args_list_append_2 _ _) (PySem.list_append l its.toArray n u (by rw [size_toArray]; lia)) ⟨e, ?_⟩
  refine ⟨.non, _, I.lset (its' := its ++ [u]) hH e (by simp) (r.append (.cons ru .nil)) ?_, rfl, q⟩
  rw [length_append, List.length_singleton]
  lia
def rExtend : V → List V → Hp → VK → Prop := fun x vs H Q => ∃ l b xs zs, x = .ref l ∧ vs = [.ref b] ∧ H l = some (.lst xs) ∧ H b = some (.lst zs) ∧ xs.length + zs.length ≤ sizeLine ∧ Q .non (upd H l (.lst (xs ++ zs)))
theorem mt_extend : MtM X "list.extend" rExtend := by
  intro pins s σ H x vs v us Q I rx rv h
  obtain ⟨l, b, xs, zs, rfl, rfl, hH, hB, hz, q⟩ := h
  cases rx
  obtain ⟨u, rfl, ru⟩ := rv.one
  cases ru
  obtain ⟨z, its, n, r, hl, e⟩ := I.lstM hH
  obtain ⟨z2, its2, n2, r2, hl2, e2⟩ := I.lstM hB
  have hsz : its.toArray.size + its2.toArray.size ≤ sizeLine := by rw [size_toArray, size_toArray]; lia
  have hlong : ¬ (!its.toArray.isEmpty && Builtin.List.listTooLong (its.toArray.size + its2.toArray.size)) = true := by
    rw [notLongL hsz, Bool.and_false]
    exact Bool.false_ne_true
  refine call_meets F.slot_list_extend ⟨_, e, rfl⟩ F.entry_list_extend (F.args_list_extend_2 _ _)
    (AutoSeq1.list_extend_list_list_0 l its.toArray n b its2.toArray n2 hlong (by rw [size_toArray]; lia) (by lia)) ⟨e, e2, ?_⟩
  refine ⟨.non, _, I.lset (its' := its ++ its2) hH e (by simp) (r.append r2) ?_, rfl, q⟩
  rw [length_append]
  lia
def rCat : R2 := fun x y H Q => ∃ l b xs zs, x = .ref l ∧ y = .ref b ∧ H l = some (.lst xs) ∧ H b = some (.lst zs) ∧ xs.length + zs.length ≤ sizeLine ∧ ∀ p, H p = none → Q (.ref p) (upd H p (.lst (xs ++ zs)))
theorem op_cat : OpR X (binaryOp .Add) rCat := by
  intro pins s σ H x y v u Q I rx ry h
  obtain ⟨l, b, xs, zs, rfl, rfl, hH, hB, hz, q⟩ := h
  cases rx
  cases ry
  obtain ⟨z, its, n, r, hl, e⟩ := I.lstM hH
  obtain ⟨z2, its2, n2, r2, hl2, e2⟩ := I.lstM hB
  refine PySem.P.add_list e e2 ?_ (by rw [size_toArray, size_toArray]; lia)
  have ea : its.toArray ++ its2.toArray = (its ++ its2).toArray := by simp
  rw [ea]
  exact ⟨.ref _, _, I.lnew (t' := s.toks) (r.append r2) (by rw [length_append]; lia), rfl, q _ I.fresh⟩
def rRep : R2 := fun x y H Q => ∃ l k xs, x = .ref l ∧ y = .int k ∧ H l = some (.lst xs) ∧ -(2 ^ 63) ≤ k ∧ k < 2 ^ 63 ∧ xs.length * k.toNat ≤ sizeLine ∧
  ∀ p, H p = none → Q (.ref p) (upd H p (.lst (replicate k.toNat xs).flatten))
theorem len_rep {α : Type} (xs : List α) (k : Nat) : (replicate k xs).flatten.length = k * xs.length := by
  induction k with
  | zero => simp
  | succ k ih => rw [replicate_succ, flatten_cons, length_append, ih, Nat.succ_mul, add_comm]
theorem op_rep : OpR X (binaryOp .Mult) rRep := by
  intro pins s σ H x y v u Q I rx ry h
  obtain ⟨l, k, xs, rfl, rfl, hH, h1, h2, hz, q⟩ := h
  cases rx
  obtain ⟨t, rfl⟩ := ry
  obtain ⟨z, its, n, r, hl, e⟩ := I.lstM hH
  have hlen : its.toArray.size * k.toNat ≤ sizeLine := by rw [size_toArray, ← hl]; exact hz
  have hcap : ¬ its.toArray.size * k.toNat > (2 ^ 63 - 1) / 8 := by
    have : (sizeLine : Nat) ≤ (2 ^ 63 - 1) / 8 := by decide
    lia
  have hfit : ¬ (!Builtin.List.listFitsIndex k) = true := by
    rw [fitsIndex_both h1 h2]
    exact Bool.false_ne_true
  have hlong : ¬ Builtin.List.listTooLong (its.toArray.size * k.toNat) = true := by
    rw [notLongL hlen]
    exact Bool.false_ne_true
  have hnew : foldl (fun x1 x2 => x1 ++ x2) #[] (replicate (if its.toArray.isEmpty = true then 0 else k.toNat) its.toArray) = (replicate k.toNat its).flatten.toArray := by
    have f0 : ∀ m : Nat, foldl (fun x1 x2 => x1 ++ x2) #[] (replicate m its.toArray) = (replicate m its).flatten.toArray := fun m => by
      have := foldl_rep its m []
      rw [List.nil_append] at this
      exact this
    rw [f0]
    cases its with
    | nil => simp
    | cons a r' => rw [if_neg (by simp)]
  refine wpAny_binaryOp_repeat_ref (T := "list") (U := "int") (by decide) ⟨_, e, rfl⟩ (fun s' => typeIs_int s' k t) noFill_list_mul F.fills_int_mul F.slot_int_rmul repeat_list F.slot_int_index.lookup
    (call_meets F.slot_int_rmul (typeIs_int s k t) F.entry_int_rmul (F.args_int_rmul_2 _ _) (int___rmul___int_list k t l its.toArray n)
      ⟨e, rfl, ⟨_, e, rfl⟩, call_meets F.slot_list_mul ⟨_, e, rfl⟩ F.entry_list_mul (F.args_list_mul_2 _ _) (AutoListH.list___mul___list_int_3 l its.toArray n k t hfit hcap hlong) ⟨e, ?_⟩⟩)
  rw [hnew]
  exact ⟨.ref _, _, I.lnew (t' := s.toks) (r.rep k.toNat) (by rw [len_rep, Nat.mul_comm]; exact hz), rfl, q _ I.fresh⟩
end
section
variable {κ : Type} [DecidableEq κ]
def valV (kvs : List (κ × V)) (k : κ) : Option V := (kvs.find? fun kv => decide (kv.1 = k)).map (·.2)
def putK (kvs : List (κ × V)) (k : κ) (v : V) : List (κ × V) :=
  if (kvs.any fun kv => decide (kv.1 = k)) = true then kvs.map (fun kv => if kv.1 = k then (kv.1, v) else kv) else kvs ++ [(k, v)]
theorem valV_pos {p : κ × V} {r : List (κ × V)} {k : κ} (e : p.1 = k) : valV (p :: r) k = some p.2 := by simp [valV, find?_cons, e]
theorem valV_neg {p : κ × V} {r : List (κ × V)} {k : κ} (e : ¬ p.1 = k) : valV (p :: r) k = valV r k := by simp [valV, find?_cons, e]
theorem valV_any (k : κ) : ∀ kvs : List (κ × V), (kvs.any fun kv => decide (kv.1 = k)) = (valV kvs k).isSome
  | [] => rfl
  | p :: r => by
    rw [any_cons]
    by_cases e : p.1 = k
    · erw [valV_pos e, decide_eq_true e, Bool.true_or, Option.isSome_some]
    · rw [valV_neg e, decide_eq_false e, Bool.false_or]; exact valV_any k r
theorem length_putK (kvs : List (κ × V)) (k : κ) (v : V) : (putK kvs k v).length ≤ kvs.length + 1 := by
  unfold putK
  split
  · rw [length_map]; lia
  · rw [length_append, length_cons, length_nil]; lia
theorem RelO.isSome_eq (r : RelO o u) : o.isSome = u.isSome := by
  cases o with
  | none => cases u with
    | none => rfl
    | some _ => exact (show False from r).elim
  | some _ => cases u with
    | none => exact (show False from r).elim
    | some _ => rfl
theorem KV.val {kvs : List (κ × V)} {vs : List (κ × Value)} (r : KV kvs vs) (k : κ) : RelO (valV kvs k) (valueAt vs k) := by
  unfold KV at r
  induction r with
  | nil => exact True.intro
  | @cons p q ps qs h t ih =>
    obtain ⟨h1, h2⟩ := h
    by_cases e : p.1 = k
    · have e' : q.1 = k := h1.symm.trans e
      have b : valueAt (q :: qs) k = some q.2 := by simp [valueAt, find?_cons, e']
      rw [valV_pos e, b]; exact h2
    · have e' : ¬ q.1 = k := fun z => e (h1.trans z)
      have b : valueAt (q :: qs) k = valueAt qs k := by simp [valueAt, find?_cons, e']
      rw [valV_neg e, b]; exact ih
theorem KV.any {kvs : List (κ × V)} {vs : List (κ × Value)} (r : KV kvs vs) (k : κ) : (kvs.any fun kv => decide (kv.1 = k)) = vs.any fun kv => decide (kv.1 = k) := by
  unfold KV at r
  induction r with
  | nil => rfl
  | cons h t ih => rw [any_cons, any_cons, ih, h.1]
theorem KV.repl {kvs : List (κ × V)} {vs : List (κ × Value)} (r : KV kvs vs) (k : κ) (ry : RelV y u) :
    KV (kvs.map fun kv => if kv.1 = k then (kv.1, y) else kv) (vs.map fun kv => if kv.1 = k then (kv.1, u) else kv) := by
  unfold KV at r ⊢
  induction r with
  | nil => exact .nil
  | @cons p q ps qs h t ih =>
    rw [map_cons, map_cons]
    refine .cons ?_ ih
    obtain ⟨h1, h2⟩ := h
    by_cases e : p.1 = k
    · rw [if_pos e, if_pos (h1.symm.trans e)]; exact ⟨h1, ry⟩
    · rw [if_neg e, if_neg (fun z => e (h1.trans z))]; exact ⟨h1, h2⟩
theorem KV.put {kvs : List (κ × V)} {vs : List (κ × Value)} (r : KV kvs vs) (k : κ) (ry : RelV y u) : KV (putK kvs k y) (stored vs k u) := by
  unfold putK stored
  rw [r.any k]
  by_cases e : (vs.any fun kv => decide (kv.1 = k)) = true
  · rw [if_pos e, if_pos e]; exact r.repl k ry
  · rw [if_neg e, if_neg e]; exact Paired.snoc r ⟨rfl, ry⟩
theorem KV.length {kvs : List (κ × V)} {vs : List (κ × Value)} (r : KV kvs vs) : kvs.length = vs.length := Paired.length r
end
theorem kV_is (r : RelV (kV k) u) : (mixKind P w).is k u = true := by
  cases k with
  | inl i => obtain ⟨t, e⟩ := (show ∃ t, u = Value.int i t from r); subst e; exact mixKind_int P w i t
  | inr x => obtain ⟨t, e⟩ := (show ∃ t, u = Value.str x t from r); subst e; exact mixKind_str P w x t
theorem items_are : ∀ {ks : List Key} {us : List Value}, Vals (ks.map kV) us → ItemsAre (mixKind P w) ks us
  | [], _, r => by rw [map_nil] at r; cases r; exact .nil
  | k :: ks, _, r => by
    rw [map_cons] at r
    cases r with
    | cons h t => exact .cons (kV_is h) (items_are t)
abbrev KT (H : Hp) : List (List Key × V) → List (List Key × Addr × Value) → Prop := Paired fun p q => p.1 = q.1 ∧ H q.2.1 = some (.tup (p.1.map kV)) ∧ RelV p.2 q.2.2
theorem KT.val (r : KT H kvs xs) (k : List Key) : RelO (valV kvs k) ((atKey xs k).map (·.2)) := by
  induction r with
  | nil => exact True.intro
  | @cons p q ps qs h t ih =>
    obtain ⟨h1, _, h2⟩ := h
    by_cases e : p.1 = k
    · have e' : q.1 = k := h1.symm.trans e
      have b : atKey (q :: qs) k = some q.2 := by simp [atKey, find?_cons, e']
      rw [valV_pos e, b]; exact h2
    · have e' : ¬ q.1 = k := fun z => e (h1.trans z)
      have b : atKey (q :: qs) k = atKey qs k := by simp [atKey, find?_cons, e']
      rw [valV_neg e, b]; exact ih
theorem KT.repl (r : KT H kvs xs) (k : List Key) (ry : RelV y u) :
    KT H (kvs.map fun kv => if kv.1 = k then (kv.1, y) else kv) (xs.map (putAt k u)) := by
  induction r with
  | nil => exact .nil
  | @cons p q ps qs h t ih =>
    rw [map_cons, map_cons]
    refine .cons ?_ ih
    obtain ⟨h1, h2, h3⟩ := h
    unfold putAt
    by_cases e : p.1 = k
    · rw [if_pos e, if_pos (h1.symm.trans e)]; exact ⟨h1, h2, ry⟩
    · rw [if_neg e, if_neg (fun z => e (h1.trans z))]; exact ⟨h1, h2, h3⟩
theorem KT.put (r : KT H kvs xs) (k : List Key) (hb : H b = some (.tup (k.map kV))) (ry : RelV y u) :
    KT H (putK kvs k y) (storedH xs k b u) := by
  have e : (kvs.any fun kv => decide (kv.1 = k)) = (atKey xs k).isSome := by
    rw [valV_any, (r.val k).isSome_eq, isSome_map]
  unfold putK storedH
  rw [e]
  by_cases q : (atKey xs k).isSome = true
  · rw [if_pos q, if_pos q]; exact r.repl k ry
  · rw [if_neg q, if_neg q]; exact Paired.snoc r ⟨rfl, hb, ry⟩
theorem KT.keeps (r : KT H kvs xs) (ht : ∀ b ys, H b = some (.tup ys) → H' b = some (.tup ys)) : KT H' kvs xs :=
  Paired.mapP r fun _ _ z => ⟨z.1, ht _ _ z.2.1, z.2.2⟩
section
variable {P : Program} {w : World} {H : Hp} {h : Heap} {a : Addr}
theorem rd_of (ok : HOk P w H h) (e : Rd H a u) : ObjOk P w H h a u := e.ok ok
theorem dk_rd (ok : HOk P w H h) (e : Rd H a (.dK kvs)) : kvs.length ≤ sizeLine ∧ (a == sysModules) = false ∧ ∃ vs, KV kvs vs ∧ h.DictOf (mixKind P w) a vs :=
  show ObjOk P w H h a (.dK kvs) from rd_of ok e
theorem dk_of (ok : HOk P w H h) (e : H a = some (.dK kvs)) : kvs.length ≤ sizeLine ∧ (a == sysModules) = false ∧ ∃ vs, KV kvs vs ∧ h.DictOf (mixKind P w) a vs := dk_rd ok (.inl e)
theorem key_of (ok : HOk P w H h) (e : H a = some (.tup (ks.map kV))) : (tupleKind (mixKind P w)).is h ks a := by
  obtain ⟨_, its, r, ⟨o, h1, h2, n, h3⟩, _⟩ := (show ObjOk P w H h a (.tup (ks.map kV)) from ok a _ e)
  exact ⟨o, its.toArray, n, h1, h2, h3, by simpa using items_are r⟩
theorem dt_rd (ok : HOk P w H h) (e : Rd H a (.dT kvs)) : kvs.length ≤ sizeLine ∧ (a == sysModules) = false ∧
    ∃ xs, KT H kvs xs ∧ h.DictOfH (tupleKind (mixKind P w)) a xs := by
  obtain ⟨z, y, xs, r, o, es, ep, h1, h2, h3, h4, h5⟩ := (show ObjOk P w H h a (.dT kvs) from rd_of ok e)
  refine ⟨z, y, xs, r, o, es, ep, h1, h2, h3, h4, fun x hx => ?_, h5⟩
  have all : ∀ {l : List (List Key × V)} {m : List (List Key × Addr × Value)}, KT H l m → ∀ x ∈ m, (tupleKind (mixKind P w)).is h x.1 x.2.1 := by
    intro l m q
    induction q with
    | nil => intro x hx; exact nomatch hx
    | @cons p q ps qs hq t ih =>
      intro x hx
      rcases mem_cons.mp hx with e | hx
      · subst e
        exact key_of ok (by rw [← hq.1]; exact hq.2.1)
      · exact ih x hx
  exact all r x hx
theorem dt_of (ok : HOk P w H h) (e : H a = some (.dT kvs)) : kvs.length ≤ sizeLine ∧ (a == sysModules) = false ∧
    ∃ xs, KT H kvs xs ∧ h.DictOfH (tupleKind (mixKind P w)) a xs := dt_rd ok (.inl e)
end
def DGet (H : Hp) (a : Addr) (y : V) (r : Option V) : Prop :=
  (∃ kvs k, Rd H a (.dK kvs) ∧ y = kV k ∧ r = valV kvs k) ∨ ∃ kvs k b, Rd H a (.dT kvs) ∧ y = .ref b ∧ H b = some (.tup (k.map kV)) ∧ r = valV kvs k
def DPut (H : Hp) (a : Addr) (y v : V) (H' : Hp) : Prop :=
  (∃ kvs k, H a = some (.dK kvs) ∧ y = kV k ∧ kvs.length < sizeLine ∧ H' = upd H a (.dK (putK kvs k v))) ∨
  ∃ kvs k b, H a = some (.dT kvs) ∧ y = .ref b ∧ H b = some (.tup (k.map kV)) ∧ kvs.length < sizeLine ∧ H' = upd H a (.dT (putK kvs k v))
theorem DGet.k {H : Hp} {a : Addr} {kvs : List (Key × V)} {k : Key} (e : H a = some (.dK kvs)) : DGet H a (kV k) (valV kvs k) := .inl ⟨kvs, k, .inl e, rfl, rfl⟩
theorem DPut.k {H : Hp} {a : Addr} {kvs : List (Key × V)} {k : Key} {v : V} (e : H a = some (.dK kvs)) (hl : kvs.length < sizeLine) : DPut H a (kV k) v (upd H a (.dK (putK kvs k v))) := .inl ⟨kvs, k, e, rfl, hl, rfl⟩
section
variable {X : Cx} {pins : List (Addr × Obj)} {σ : St} {H : Hp} {s : Shared} {a : Addr} {y v : V} {u r : Value} {o : Option V} {A : Around} {E : Value → Shared → Prop}
theorem d_getItem (hu : A.units + 1 < cLine) (I : Inv X pins σ H s) (g : DGet H a y (some v)) (ry : RelV y u) (h : ∀ w' s', Inv X pins σ H s' → RelV v w' → Q w' s') :
    wpAny (model X.prog X.w) A (getItem (.ref a) u) Q E s := by
  rcases g with ⟨kvs, k, e, ey, l⟩ | ⟨kvs, k, b, e, ey, eb, l⟩
  · subst ey
    obtain ⟨z, hd, vs, rel, dd⟩ := dk_rd I.hok e
    obtain ⟨w', hw, rw'⟩ := RelO.some_of (v := v) (o := valueAt vs k) (by rw [l]; exact rel.val k)
    exact wpAny_getItem_of (kV_is ry) dd.mapOf hw (h w' _ (I.tok _) rw')
  · subst ey
    cases (show u = Value.ref b from ry)
    obtain ⟨z, hd, xs, rel, dd⟩ := dt_rd I.hok e
    obtain ⟨w', hw, rw'⟩ := RelO.some_of (v := v) (o := (atKey xs k).map (·.2)) (by rw [l]; exact rel.val k)
    obtain ⟨p, hp, hp2⟩ := Option.map_eq_some_iff.mp hw
    refine wpAny_getItem_heap (tupleKind_room_in1 hu) (key_of I.hok eb) dd hp ?_
    rw [hp2]
    exact h w' _ (I.tok _) rw'
theorem d_in (hu : A.units + 1 < cLine) (I : Inv X pins σ H s) (g : DGet H a y o) (ry : RelV y u) (h : ∀ s', Inv X pins σ H s' → Q (.bool o.isSome) s') :
    wpAny (model X.prog X.w) A (compareOp .In u (.ref a)) Q E s := by
  rcases g with ⟨kvs, k, e, ey, l⟩ | ⟨kvs, k, b, e, ey, eb, l⟩
  · subst ey
    obtain ⟨z, hd, vs, rel, dd⟩ := dk_rd I.hok e
    refine wpAny_in_of (kV_is ry) hd dd.mapOf ?_
    rw [← (rel.val k).isSome_eq, ← l]
    exact h _ (I.tok _)
  · subst ey
    cases (show u = Value.ref b from ry)
    obtain ⟨z, hd, xs, rel, dd⟩ := dt_rd I.hok e
    refine wpAny_in_heap (tupleKind_room_in1 hu) (key_of I.hok eb) hd dd ?_
    have q := (rel.val k).isSome_eq
    rw [isSome_map] at q
    rw [← q, ← l]
    exact h _ (I.tok _)
theorem d_notIn (hu : A.units + 1 < cLine) (I : Inv X pins σ H s) (g : DGet H a y o) (ry : RelV y u) (h : ∀ s', Inv X pins σ H s' → Q (.bool (!o.isSome)) s') :
    wpAny (model X.prog X.w) A (compareOp .NotIn u (.ref a)) Q E s := by
  rcases g with ⟨kvs, k, e, ey, l⟩ | ⟨kvs, k, b, e, ey, eb, l⟩
  · subst ey
    obtain ⟨z, hd, vs, rel, dd⟩ := dk_rd I.hok e
    refine wpAny_notIn_of (kV_is ry) hd dd.mapOf ?_
    rw [← (rel.val k).isSome_eq, ← l]
    exact h _ (I.tok _)
  · subst ey
    cases (show u = Value.ref b from ry)
    obtain ⟨z, hd, xs, rel, dd⟩ := dt_rd I.hok e
    refine wpAny_notIn_heap (tupleKind_room_in1 hu) (key_of I.hok eb) hd dd ?_
    have q := (rel.val k).isSome_eq
    rw [isSome_map] at q
    rw [← q, ← l]
    exact h _ (I.tok _)
theorem d_write (I : Inv X pins σ H s) (mu : Mut (H a)) (hs : Heap.SameBut a s.heap h') (he : ∃ q, h'.get? a = some q) (new : ObjOk X.prog X.w (upd H a ob) h' a ob) :
    Inv X pins σ (upd H a ob) { s with heap := h', toks := t' } :=
  I.write (x := a) (e := a) mu (.inl rfl) (fun b q hb z => (hs.2 b hb).trans z) he new
theorem dk_new (z : kvs.length ≤ sizeLine) (hd : (a == sysModules) = false) (rel : KV kvs vs) (dd : h'.DictOf (mixKind P w) a vs) :
    ObjOk P w H' h' a (.dK kvs) := ⟨z, hd, vs, rel, dd⟩
theorem d_setItem (hu : A.units + 1 < cLine) (I : Inv X pins σ H s) (g : DPut H a y v H') (ry : RelV y u) (rv : RelV v r) (h : ∀ s', Inv X pins σ H' s' → Q () s') :
    wpAny (model X.prog X.w) A (setItem (.ref a) u r) Q E s := by
  rcases g with ⟨kvs, k, e, ey, l, eH⟩ | ⟨kvs, k, b, e, ey, eb, l, eH⟩
  · subst ey eH
    obtain ⟨z, hd, vs, rel, dd⟩ := dk_of I.hok e
    have hz : vs.length ≤ sizeLine := by rw [← rel.length]; exact z
    have hl : (putK kvs k v).length ≤ sizeLine := by have := length_putK kvs k v; lia
    refine wpAny_setItem_pairs (hsz := hz) (kV_is ry) dd fun h' dd' hs => h _ ?_
    have he : ∃ q, h'.get? a = some q := let ⟨q, _, _, hq, _⟩ := dd'; ⟨q, hq⟩
    exact d_write I (by rw [e]; exact True.intro) hs he (dk_new hl hd (rel.put k rv) dd')
  · subst ey eH
    cases (show u = Value.ref b from ry)
    obtain ⟨z, hd, xs, rel, dd⟩ := dt_of I.hok e
    have hz : xs.length ≤ sizeLine := by rw [← Paired.length rel]; exact z
    have hl : (putK kvs k v).length ≤ sizeLine := by have := length_putK kvs k v; lia
    refine wpAny_setItem_heap (hsz := hz) (tupleKind_room_in1 hu) (key_of I.hok eb) dd fun h' dd' hs => h _ ?_
    obtain ⟨q, es, ep, hq, h2, h3, h4, _, h5⟩ := dd'
    refine d_write I (by rw [e]; exact True.intro) hs ⟨q, hq⟩ ⟨hl, hd, _, (rel.put k eb rv).keeps fun c ys ec => ?_, q, es, ep, hq, h2, h3, h4, h5⟩
    rw [upd_ne (ne_of ec e (fun z => nomatch z))]
    exact ec
end
section
variable {X : Cx} {pins : List (Addr × Obj)} {σ : St} {H : Hp} {s : Shared} {a : Addr} {kvs : List (Key × V)} {k : Key} {u : Value} {A : Around} {E : Value → Shared → Prop}
theorem d_len (I : Inv X pins σ H s) (e : Rd H a (.dK kvs)) (h : ∀ t s', Inv X pins σ H s' → Q (.int kvs.length t) s') : wpAny (model X.prog X.w) A (call (.builtin "len") [.ref a]) Q E s := by
  obtain ⟨z, hd, vs, rel, dd⟩ := dk_rd I.hok e
  refine call_len_dict hd dd (by rw [← rel.length]; rw [sizeLine_eq] at z; lia) ?_
  rw [← rel.length]
  exact h _ _ (I.tok _)
end
theorem dict_typeIs (I : Inv X pins σ H s) (g : DGet H a y o) : s.TypeIs (.ref a) "dict" := by
  rcases g with ⟨kvs, k, e, _, _⟩ | ⟨kvs, k, b, e, _, _, _⟩
  · obtain ⟨_, _, vs, _, dd⟩ := dk_rd I.hok e
    exact dd.typeIs
  · obtain ⟨_, _, xs, _, dd⟩ := dt_rd I.hok e
    exact dd.typeIs
end L2
namespace Att
open PySem PySem.W PySem.Calls PyProof.Rows
theorem ints_of_wellAll : ∀ (ns : List Int) (vs : List Value), WellAll P h vs (ns.map WData.int) → IntsAre vs ns := by
  intro ns
  induction ns with
  | nil =>
    intro vs w
    rw [map_nil] at w
    cases w
    exact .nil
  | cons n ns ih =>
    intro vs w
    rw [map_cons] at w
    cases w with
    | cons a b =>
      cases a
      exact .cons _ _ (ih _ b)
theorem script_of {l : OpenLaw} {n : Nat} (hn : l.most = some n) {P : Params} {h : Heap} {args : List WData} {vals : List Value} (hpre : l.row.toRowW.claim.pre args = true) (hwl : WellAll P h vals args) :
    ∃ a vs ns, vals = [Value.ref a] ∧ args = [WData.list (ns.map WData.int)] ∧ h.get? a = some { cls := .type "list", data := .seq vs.toArray } ∧ IntsAre vs ns ∧ ns.length ≤ n := by
  have hsh : WShape.hasAll [] args [.list .int] = true := (pre_splitW hpre).1
  have hc : l.pre.holds [] { args := args } = true := (pre_splitW hpre).2
  obtain ⟨d, r, rfl, h1, h2⟩ := hasAllW_cons hsh
  obtain rfl := hasAllW_nil h2
  obtain ⟨xs, rfl, h3⟩ := hasW_list h1
  obtain ⟨ns, rfl⟩ := items_int h3
  have hlen : ns.length ≤ n := by
    unfold OpenLaw.pre at hc
    have h4 : (WTm.not (.lt (.lit (.int (n : Int))) (.len (.arg 0)))).holds [] { args := [.list (ns.map .int)] } = true := by
      have h4 := (holds_andW hc).1
      rw [hn] at h4
      exact h4
    have h5 := condW_of h4 (w_not (w_lt w_lit (w_len_list (w_arg rfl))))
    rw [length_map] at h5
    refine Nat.le_of_not_lt fun q => ?_
    have q' : (n : Int) < ((ns.length : Nat) : Int) := by lia
    first
      | (rw [decide_eq_true q'] at h5; exact absurd h5 (by decide))
      | (simp at h5; lia)
  cases hwl with
  | cons w1 w2 =>
    cases w2
    cases w1 with
    | list ho hall => exact ⟨_, _, ns, rfl, rfl, ho, ints_of_wellAll ns _ hall, hlen⟩
theorem post_true (l : OpenLaw) (args : List WData) : l.row.toRowW.claim.post args (.bool true) args = true :=
  postW_of (r := l.row.toRowW) (X := (true == true))
    (show WShape.has [] (.bool true) .bool = true by first | rfl | decide | simp [WShape.has, WShape.arms, WShape.armsAll])
    (show (WTm.eq .res (.lit (.bool true))).value [] { args := args, res := some (.bool true), after := args } = some (.bool (true == true)) from w_eq_bool (w_res rfl) w_lit) rfl
theorem attach_call {l : OpenLaw} {n : Nat} {q : Program} {loose : List Str} {XP : (Str → Option Value) → Heap → Prop} {YP : World → Heap → Prop} {d : DefRec} (hn : l.most = some n) (hdf : d.params.defaults = []) (call : ∀ (w : World) (s₀ s₁ : Shared) (mg mb : Str → Option Value) (fa : Addr) (o : Obj) (pm cd doc : Value) (a : Addr) (vs : List Value) (ns : List Int),
      Ground q loose [] XP w s₀ mg mb s₁.heap → YP w s₁.heap →
      s₁.heap.get? fa = some o → o.data = .func (docDef d.name d.params d.body d.scope pm cd doc) → s₁.heap.CodeRec cd d.name → mg d.name = some (.ref fa) →
      s₁.heap.get? a = some { cls := .type "list", data := .seq vs.toArray } → IntsAre vs ns → ns.length ≤ n → s₁.gens = #[] →
      codeAny (model l.prog w) callerA (.call (.ref fa) ⟨[.ref a], []⟩) (fun r s' => r = .ok (.ret (.bool true)) ∧ OldK s₁.heap s'.heap ∧ s'.os = s₁.os ∧ AllBare s'.gens) s₁) :
    WalkO q loose XP YP l.row.toRowW d [] (fun f vs => PySem.call f vs) := by
  intro w s₀ s₁ mg mb G Y fa o pm cd doc dV kV ho hd hcd hD hmg hg args vals as hpre hlay hrd hwl hlo
  obtain rfl : dV = .none := Dflts.none hD hdf
  obtain rfl : kV = .none := Dflts.noKw hD
  obtain ⟨a, vs, ns, rfl, rfl, hobj, hints, hlen⟩ := script_of hn hpre hwl
  refine enter_call (codeAny_mono (call w s₀ s₁ mg mb fa o pm cd doc a vs ns G Y ho (fd_plain hd) hcd hmg hobj hints hlen hg) fun r s' hq => ?_)
  obtain ⟨rfl, h2, h3, h4⟩ := hq
  exact ⟨.inl ⟨.bool true, .bool true, [], rfl, fun _ => rfl, .bool true, post_true l _, fun _ => ⟨List.Pairwise.nil, fun _ hm => (nomatch hm)⟩⟩, h2, h3, h4⟩
end Att
namespace L2
open PySem PySem.Spec PyProof.Rows
theorem vals_ints : ∀ {vs : List Value} {ns : List Int}, IntsAre vs ns → Vals (ns.map V.int) vs
  | _, _, .nil => .nil
  | _, _, .cons n t h => .cons ⟨t, rfl⟩ (vals_ints h)
def Only (H : Hp) : Prop := ∀ b, H b = none ∨ ∃ o xs, H b = some (.frz o (.lst xs))
theorem law_call {P : Program} {w : World} {K : Frag} {mg mb : Str → Option Value} {CX : CXT} {k : Nat} {fa a : Addr} {fd : FuncData} {x : Str} {sp : Sp} {s₁ : Shared} {vs : List Value} {ns : List Int} (KX : K.In s₁.heap) (hns : s₁.heap.Ns mainGlobals mg) (hb : s₁.heap.Ns builtinsNs mb) (hbb : ∀ x : Str, x ≠ "__name__" → mb x = bootBuiltins x) (hlim : s₁.heap.NoLimit) (hg : s₁.gens = #[]) (ha : s₁.heap.get? a = some { cls := .type "list", data := .seq vs.toArray }) (hi : IntsAre vs ns) (hl : ns.length ≤ sizeLine) (hr : Room k callerA) (F : ∀ base : Heap, K.In base → base.Ns mainGlobals mg → FnOk P w K mg base CX k fa fd [x] sp) (hbind : ∀ (s : Shared) (u : Value), BindsTo s fd ⟨[u], []⟩ [(x, u)]) (hsp : ∀ H : Hp, Only H → SqL K H a (ns.map V.int) → (∀ o, K.lookup a = some o → o.slots = #[]) → sp [.ref a] H (fun v _ => v = .bl true) fun _ _ _ => False) (hCX : ∀ H e s', CX [] H s₁ (fun _ _ _ => False) e s' → False) :
    codeAny (model P w) callerA (.call (.ref fa) ⟨[.ref a], []⟩) (fun r s' => r = .ok (.ret (.bool true)) ∧ OldK s₁.heap s'.heap ∧ s'.os = s₁.os ∧ AllBare s'.gens) s₁ := by
  have rv := vals_ints hi
  have lenV := hi.length
  -- from an abstract heap in which nothing but the script may be tracked
  have core : ∀ H : Hp, Only H → SqL K H a (ns.map V.int) → HOk P w H s₁.heap → (∀ b, H b ≠ none → b = a) → (H a ≠ none → K.lookup a = none) →
      codeAny (model P w) callerA (.call (.ref fa) ⟨[.ref a], []⟩) (fun r s' => r = .ok (.ret (.bool true)) ∧ OldK s₁.heap s'.heap ∧ s'.os = s₁.os ∧ AllBare s'.gens) s₁ := by
    intro H hO hS hok hA hK
    have base_of : ∀ {b : Addr} {o : Obj}, s₁.heap.get? b = some o → H b = none → (hidT s₁.heap H).get? b = some o := fun e n => hidT_get e n
    have noA : ∀ {b : Addr} {o : Obj} {es : Array DictEntry} {ep : Nat}, s₁.heap.get? b = some o → o.data = .dict es ep → H b = none := fun {b o es ep} e d => by
      cases q : H b with
      | none => rfl
      | some u =>
        have e' : b = a := hA b (by rw [q]; simp)
        subst e'
        rw [ha] at e; cases e
        have d' : Data.seq vs.toArray _ = Data.dict es ep := d
        cases d'
    have nsK : ∀ {b : Addr} {m : Str → Option Value}, s₁.heap.Ns b m → (hidT s₁.heap H).Ns b m := fun {b m} ⟨o, es, ep, e, d, r⟩ => ⟨o, es, ep, base_of e (noA e d), d, r⟩
    have hKb : K.In (hidT s₁.heap H) := fun b o e => base_of (KX b o e) (by
      cases q : H b with
      | none => rfl
      | some u =>
        have e' : b = a := hA b (by rw [q]; simp)
        subst e'
        rw [hK (by rw [q]; simp)] at e; cases e)
    have hM : Mod K mg (hidT s₁.heap H) := ⟨hKb, nsK hns, ⟨mb, nsK hb, hbb⟩, let ⟨mc, h1, h2⟩ := hlim; ⟨mc, nsK h1, h2⟩⟩
    have e0 : Env0 P w K mg (hidT s₁.heap H) callerA [] s₁ H := ⟨rfl, hM, fun b o e => of_hidT e, Nat.le_of_eq (hidT_size _ _), trivial, fun b hb => absurd (show b ∈ ([] : List Addr) from hb) (by simp), hok, .of_eq hg⟩
    refine codeAny_mono ((F _ hKb (nsK hns)).run callerA [] s₁ H ⟨[.ref a], []⟩ [.ref a] [.ref a] _ _ hr e0 (hbind s₁ (.ref a)) (.cons rfl .nil) (hsp H hO hS (fun o e => by have e' := KX a o e; rw [ha] at e'; cases e'; rfl))) fun r s' h => ?_
    cases r with
    | error e => exact (hCX H e s' h).elim
    | ok fl =>
      cases fl with
      | next => exact False.elim h
      | brk => exact False.elim h
      | cont => exact False.elim h
      | ret u =>
        obtain ⟨v, H', os, bare, un, hok', r', q⟩ := h
        have q' : v = .bl true := q
        subst q'
        obtain rfl : u = Value.bool true := r'
        refine ⟨rfl, OldK.of_keep fun b o e => ?_, os, bare⟩
        cases q : H b with
        | none => exact un.keep b o e q (by intro z; exact absurd (show b ∈ ([] : List Addr) from z) (by simp)) (by simp)
        | some u =>
          rcases hO b with z | ⟨ob, xs, z⟩
          · rw [q] at z; cases z
          · have z2 := un.frzs b ob _ z
            obtain ⟨e1, _⟩ := hok b _ z
            obtain ⟨e2, _⟩ := hok' b _ z2
            rw [e] at e1; cases e1
            exact e2
  cases hk : K.lookup a with
  | some o =>
    -- the script is one of the module's own objects
    have e := KX a o hk
    rw [ha] at e
    cases e
    refine core (fun _ => none) (fun _ => .inl rfl) (.inr ⟨_, vs.toArray, _, hk, rfl, rfl, rfl, by rw [size_toArray, lenV]; exact hl, by simpa using rv⟩) (fun b u z => by have z' : (none : Option HO) = some u := z; cases z') (fun b z => absurd rfl z) fun z => absurd rfl z
  | none =>
    refine core (fun b => if b = a then some (.frz { cls := .type "list", data := .seq vs.toArray } (.lst (ns.map V.int))) else none) (fun b => ?_) (.inl (.inr ⟨{ cls := .type "list", data := .seq vs.toArray }, if_pos rfl⟩)) (fun b u z => ?_) (fun b z => ?_) fun _ => hk
    · by_cases hb : b = a
      · exact .inr ⟨_, _, if_pos hb⟩
      · exact .inl (if_neg hb)
    · by_cases hb : b = a
      · have z' := (if_pos hb).symm.trans z
        cases z'
        subst hb
        exact ⟨ha, by rw [length_map]; exact hl, vs, _, rv, ha⟩
      · have z' := (if_neg hb).symm.trans z
        cases z'
    · by_cases hb : b = a
      · exact hb
      · exact absurd (if_neg hb) z
theorem walk_of {l : PySem.W.OpenLaw} {n k : Nat} {q : Program} {loose : List Str} {XP : (Str → Option Value) → Heap → Prop} {YP : World → Heap → Prop} {d : DefRec} {K : Params → Frag} {CX : World → CXT} {sp : World → Sp} {x : Str} (hn : l.most = some n) (hn2 : n ≤ sizeLine) (hdf : d.params.defaults = []) (hr : Room k callerA) (hY : ∀ (w : World) (h : Heap), YP w h → (K w.params).In h) (F : ∀ (w : World) (mg : Str → Option Value) (fa : Addr) (h : Heap), (K w.params).In h → h.Ns mainGlobals mg → mg d.name = some (.ref fa) →
      ∃ fd : FuncData, (∀ (s : Shared) (u : Value), BindsTo s fd ⟨[u], []⟩ [(x, u)]) ∧
        ∀ base : Heap, (K w.params).In base → base.Ns mainGlobals mg → FnOk l.prog w (K w.params) mg base (CX w) k fa fd [x] (sp w)) (hsp : ∀ (w : World) (H : Hp) (a : Addr) (ns : List Int), ns.length ≤ n → Only H → SqL (K w.params) H a (ns.map V.int) → (∀ o, (K w.params).lookup a = some o → o.slots = #[]) → sp w [.ref a] H (fun v _ => v = .bl true) fun _ _ _ => False) (hCX : ∀ (w : World) (H : Hp) (s : Shared) (e : Value) (s' : Shared), CX w [] H s (fun _ _ _ => False) e s' → False) :
    PySem.W.WalkO q loose XP YP l.row.toRowW d [] (fun f vs => PySem.call f vs) := by
  refine Att.attach_call hn hdf fun w s₀ s₁ mg mb fa o pm cd doc a vs ns G Y ho hd hcd hmg hobj hints hlen hg => ?_
  have KX := hY w _ Y
  obtain ⟨fd, hb, hF⟩ := F w mg fa _ KX G.T.g hmg
  exact law_call KX G.T.g G.T.b G.T.builtins G.T.nolimit hg hobj hints (le_trans hlen hn2) hr hF hb (fun H hO hS => hsp w H a ns hlen hO hS) fun H e s' => hCX w H s₁ e s'
def defArgs (s : Stmt) : Arguments := match s with
  | .FunctionDef _ a _ _ _ _ _ _ _ _ => a
  | _ => { posonlyargs := [], args := [], vararg := none, kwonlyargs := [], kw_defaults := [], kwarg := none, defaults := [] }
def defBody (s : Stmt) : List Stmt := match s with
  | .FunctionDef _ _ b _ _ _ _ _ _ _ => b
  | _ => []
def defScope (s : Stmt) : Scope := match s with
  | .FunctionDef _ _ _ _ _ _ sc _ _ _ => sc
  | _ => { kind := .function, names := [], isGenerator := false, isCoroutine := false }
abbrev CX0 : CXT := fun _ _ _ _ _ _ => False
abbrev E0 : XK := fun _ _ _ => False
theorem pass0 : Passes CX0 X E0 := fun _ _ _ _ _ _ _ h => h.elim
structure Fun (K : Frag) (x qual : Str) (st : Stmt) (f : Addr) (fd : FuncData) : Prop where
  ex : ∃ (oc : Value) (od : Option Addr) (kV doc pm : Value) (an : Option Addr) (cdv ct : Value) (osl : Array (Option Value)),
    fd = fnOf x qual (defArgs st) (defBody st) (defScope st) .none kV doc pm an cdv ct ∧ K.lookup f = some ⟨oc, od, .func fd, osl⟩ ∧ codeIn K cdv qual = true
  kp : keepIn K (.ref f) = true
section
variable {P : Program} {w : World} {K : Frag} {mg : Str → Option Value} {base : Heap}
theorem Fun.ok {x qual : Str} {st : Stmt} {f : Addr} {fd : FuncData} {N ps : List Str} {k : Nat} {sp : Sp} (F : Fun K x qual st f fd) (S : FnScope N ps (defScope st)) (len : ∀ vs H Q E, sp vs H Q E → vs.length = ps.length) (hbody : ∀ (cdv : Value) (A : Around) (outer : List Env) (s : Shared) (H : Hp) (vs : List V) (Q : VK) (E : XK), Room k (A.deeper (envOfC qual (defScope st) s.heap.objs.size f cdv)) → sp vs H Q E →
      ∃ t, PSs (cxOf CX0 P w K mg base N qual (defScope st) f cdv A outer s H E).nox (defBody st) t ∧ t { nx := fun _ H' => Q .non H', rt := Q } (start N vs) H) : FnOk P w K mg base CX0 (k + 1) f fd ps sp := by
  obtain ⟨oc, od, kV, doc, pm, an, cdv, ct, osl, rfl, lk, hcd⟩ := F.ex
  refine fn_of lk hcd S len fun A outer s H vs Q E hr hsp => ?_
  obtain ⟨t, h, q⟩ := hbody cdv A outer s H vs Q E hr hsp
  exact ⟨t, h.nox, q⟩
theorem Fun.binds {x qual : Str} {st : Stmt} {f : Addr} {fd : FuncData} {ps : List Str} (F : Fun K x qual st f fd) (h : ∀ (kV doc pm : Value) (an : Option Addr) (cdv ct : Value) (us : List Value), us.length = ps.length → bindArgs (fnOf x qual (defArgs st) (defBody st) (defScope st) .none kV doc pm an cdv ct) ⟨us, []⟩ = pure (ps.zip us)) : Binds K fd ps [] := by
  obtain ⟨oc, od, kV, doc, pm, an, cdv, ct, osl, rfl, lk, hcd⟩ := F.ex
  exact .all (h kV doc pm an cdv ct)
theorem fun_mk {x qual : Str} {st : Stmt} {f : Addr} {oc : Value} {od an : Option Addr} {osl : Array (Option Value)} {kV doc pm cdv ct : Value} (l : K.lookup f = some ⟨oc, od, .func (fnOf x qual (defArgs st) (defBody st) (defScope st) .none kV doc pm an cdv ct), osl⟩) (c : codeIn K cdv qual = true) (k : keepIn K (.ref f) = true) : Fun K x qual st f (fnOf x qual (defArgs st) (defBody st) (defScope st) .none kV doc pm an cdv ct) := ⟨⟨oc, od, kV, doc, pm, an, cdv, ct, osl, rfl, l, c⟩, k⟩
end
section
variable {X : Cx}
theorem call_lenD : CallR X (.builtin "len") (fun xs H Q => ∃ a kvs, xs = [V.ref a] ∧ H a = some (.dK kvs) ∧ Q (.int kvs.length) H) := by
  intro pins s σ H xs us Q I r h
  obtain ⟨a, kvs, rfl, ha, q⟩ := h
  obtain ⟨u, rfl, ru⟩ := vals1 r
  cases ru
  exact d_len I (.inl ha) fun t s' I' => ⟨.int kvs.length, H, I', ⟨t, rfl⟩, q⟩
end
end L2
namespace ZT
open PySem PyProof PyProof.Rows
def kv : Value → Int
  | .int k _ => k
  | _ => 0
end ZT
namespace ZS
open PySem PySem.Spec PyProof.Rows L2
theorem nodup_inj {α : Type} : ∀ {l : List α}, l.Nodup → ∀ {i j : Nat} {x : α}, l[i]? = some x → l[j]? = some x → i = j
  | [], _, i, _, _, a, _ => by simp at a
  | y :: l, h, i, j, x, a, b => by
    obtain ⟨h1, h2⟩ := nodup_cons.mp h
    cases i with
    | zero =>
      cases j with
      | zero => rfl
      | succ j => simp at a b; subst a; exact absurd (mem_of_getElem? b) h1
    | succ i =>
      cases j with
      | zero => simp at a b; subst b; exact absurd (mem_of_getElem? a) h1
      | succ j => exact congrArg (· + 1) (nodup_inj h2 (by simpa using a) (by simpa using b))
section
variable (K : Frag) (ρ : List Addr) (H : Hp)
def SqF (a : Addr) (xs : List V) : Prop :=
  (∃ o, H a = some (.frz o (.lst xs))) ∨
    ∃ (o : Obj) (its : Array Value) (n : Nat), K.lookup a = some o ∧ o.cls = .type "list" ∧ o.dict = none ∧ o.data = .seq its n ∧ its.size ≤ sizeLine ∧ Vals xs its.toList ∧ o.slots = #[]
mutual
noncomputable def RelD : Z.D → V → Prop
  | .non, v => v = .non
  | .bl b, v => v = .bl b
  | .int i, v => v = .int i
  | .str s, v => v = .str ⟨s.toArray⟩ ∧ s.length ≤ Z.lim
  | .tup xs, v => ∃ a ys, v = .ref a ∧ SqT K H a ys ∧ RelDs xs ys
  | .rol xs, v => ∃ a ys, v = .ref a ∧ SqF K H a ys ∧ RelDs xs ys
  | .ref n, v => ∃ a, v = .ref a ∧ ρ[n]? = some a
noncomputable def RelDs : List Z.D → List V → Prop
  | [], ys => ys = []
  | x :: xs, ys => ∃ y r, ys = y :: r ∧ RelD x y ∧ RelDs xs r
end
def kOf : Z.KK → Key
  | .inl i => .inl i
  | .inr s => .inr ⟨s.toArray⟩
def RelAO : Z.AO → Addr → Prop
  | .lst xs, a => ∃ ys, H a = some (.lst ys) ∧ RelDs K ρ H xs ys
  | .dct kvs, a => ∃ kvs', H a = some (.dK kvs') ∧ kvs'.map (·.1) = kvs.map (fun p => kOf p.1) ∧ RelDs K ρ H (kvs.map (·.2)) (kvs'.map (·.2)) ∧ ∀ p ∈ kvs, ∀ s, p.1 = Sum.inr s → s.length ≤ Z.lim
  | .exc c, a => ∃ C oe, nsIn K mainGlobals ⟨c.toArray⟩ = some (some (.ref C)) ∧ H a = some (.frz oe (.own 0)) ∧ oe.cls = .ref C ∧ oe.dict = none ∧ notCls oe = true
  | .excR c i, a => ∃ C oe dx od, nsIn K mainGlobals ⟨c.toArray⟩ = some (some (.ref C)) ∧ H a = some (.frz oe (.own 0)) ∧ H dx = some (.frz od (.xd [("row", .int i)])) ∧ oe.cls = .ref C ∧ oe.dict = some dx ∧ notCls oe = true
  | .obj c fs, a => ∃ C dx fs', nsIn K mainGlobals ⟨c.toArray⟩ = some (some (.ref C)) ∧ H a = some (.ins C dx fs') ∧ fs'.map (·.1) = fs.map (fun p => (⟨p.1.toArray⟩ : Str)) ∧ RelDs K ρ H (fs.map (·.2)) (fs'.map (·.2))
end
structure Ext (K : Frag) (ρ : List Addr) (H : Hp) (ρ' : List Addr) (H' : Hp) : Prop where
  pre : ∀ (n : Nat) (a : Addr), ρ[n]? = some a → ρ'[n]? = some a
  tup : ∀ a xs, H a = some (.tup xs) → H' a = some (.tup xs)
  frz : ∀ a o u, H a = some (.frz o u) → H' a = some (.frz o u)
class R0 where
  rho : List Addr
  hp : Hp
variable [R0]
structure Rep (K : Frag) (ρ : List Addr) (h : Z.AH) (H : Hp) : Prop where
  len : ρ.length = h.length
  nd : ρ.Nodup
  ext : Ext K R0.rho R0.hp ρ H
  at_ : ∀ (n : Nat) (o : Z.AO), h[n]? = some o → ∃ a, ρ[n]? = some a ∧ RelAO K ρ H o a
def RelL (K : Frag) (ρ : List Addr) (H : Hp) (σ : Z.Lo) (τ : L2.St) : Prop :=
  σ.length = τ.length ∧ ∀ (i : Nat) (d : Z.D), σ[i]? = some (some d) → ∃ v, τ[i]? = some (some v) ∧ RelD K ρ H d v
section
variable {K : Frag} {ρ ρ' ρ'' : List Addr} {H H' H'' : Hp} {h h' : Z.AH}
theorem Ext.refl : Ext K ρ H ρ H := ⟨fun _ _ e => e, fun _ _ e => e, fun _ _ _ e => e⟩
theorem Ext.trans (a : Ext K ρ H ρ' H') (b : Ext K ρ' H' ρ'' H'') : Ext K ρ H ρ'' H'' :=
  ⟨fun n x e => b.pre n x (a.pre n x e), fun x xs e => b.tup x xs (a.tup x xs e), fun x o u e => b.frz x o u (a.frz x o u e)⟩
theorem Ext.sqT (e : Ext K ρ H ρ' H') (q : SqT K H a xs) : SqT K H' a xs := by
  rcases q with (q | ⟨o, q⟩) | q
  · exact .inl (.inl (e.tup _ _ q))
  · exact .inl (.inr ⟨o, e.frz _ _ _ q⟩)
  · exact .inr q
theorem Ext.sqF (e : Ext K ρ H ρ' H') (q : SqF K H a xs) : SqF K H' a xs := by
  rcases q with ⟨o, q⟩ | q
  · exact .inl ⟨o, e.frz _ _ _ q⟩
  · exact .inr q
theorem SqF.sqL (q : SqF K H a xs) : SqL K H a xs := by
  rcases q with ⟨o, q⟩ | ⟨o, its, n, h1, h2, h3, h4, h5, h6, _⟩
  · exact .inl (.inr ⟨o, q⟩)
  · exact .inr ⟨o, its, n, h1, h2, h3, h4, h5, h6⟩
mutual
theorem RelD.mono (e : Ext K ρ H ρ' H') : ∀ (d : Z.D) (v : V), RelD K ρ H d v → RelD K ρ' H' d v
  | .non, _, r => by erw [RelD] at r ⊢; exact r
  | .bl _, _, r => by erw [RelD] at r ⊢; exact r
  | .int _, _, r => by erw [RelD] at r ⊢; exact r
  | .str _, _, r => by erw [RelD] at r ⊢; exact r
  | .tup xs, v, r => by
    erw [RelD] at r ⊢
    obtain ⟨a, ys, e1, q, r⟩ := r
    exact ⟨a, ys, e1, e.sqT q, RelDs.mono e xs ys r⟩
  | .rol xs, v, r => by
    erw [RelD] at r ⊢
    obtain ⟨a, ys, e1, q, r⟩ := r
    exact ⟨a, ys, e1, e.sqF q, RelDs.mono e xs ys r⟩
  | .ref n, v, r => by
    erw [RelD] at r ⊢
    obtain ⟨a, e1, q⟩ := r
    exact ⟨a, e1, e.pre _ _ q⟩
theorem RelDs.mono (e : Ext K ρ H ρ' H') : ∀ (d : List Z.D) (v : List V), RelDs K ρ H d v → RelDs K ρ' H' d v
  | [], _, r => by erw [RelDs] at r ⊢; exact r
  | x :: xs, v, r => by
    erw [RelDs] at r ⊢
    obtain ⟨y, t, e1, q, r⟩ := r
    exact ⟨y, t, e1, RelD.mono e x y q, RelDs.mono e xs t r⟩
end
theorem RelDs.length : ∀ {xs : List Z.D} {ys : List V}, RelDs K ρ H xs ys → xs.length = ys.length
  | [], _, r => by erw [RelDs] at r; subst r; rfl
  | x :: xs, _, r => by
    erw [RelDs] at r
    obtain ⟨y, t, rfl, _, r⟩ := r
    simp [RelDs.length r]
theorem RelDs.get : ∀ {xs : List Z.D} {ys : List V} {i : Nat} {x : Z.D}, RelDs K ρ H xs ys → xs[i]? = some x → ∃ y, ys[i]? = some y ∧ RelD K ρ H x y
  | [], _, _, _, _, e => by simp at e
  | x :: xs, _, i, z, r, e => by
    erw [RelDs] at r
    obtain ⟨y, t, rfl, q, r⟩ := r
    cases i with
    | zero => simp at e; subst e; exact ⟨y, by simp, q⟩
    | succ i => obtain ⟨w, e1, e2⟩ := RelDs.get (i := i) r (by simpa using e); exact ⟨w, by simpa using e1, e2⟩
theorem RelDs.append : ∀ {xs xs' : List Z.D} {ys ys' : List V}, RelDs K ρ H xs ys → RelDs K ρ H xs' ys' → RelDs K ρ H (xs ++ xs') (ys ++ ys')
  | [], _, _, _, r, r' => by erw [RelDs] at r; subst r; exact r'
  | x :: xs, _, _, _, r, r' => by
    erw [RelDs] at r
    obtain ⟨y, t, rfl, q, r⟩ := r
    show RelDs K ρ H (x :: (xs ++ _)) (y :: (t ++ _))
    erw [RelDs]
    exact ⟨y, _, rfl, q, RelDs.append r r'⟩
theorem RelDs.one (r : RelD K ρ H x y) : RelDs K ρ H [x] [y] := by
  erw [RelDs]; exact ⟨y, [], rfl, r, rfl⟩
theorem RelDs.take : ∀ {xs : List Z.D} {ys : List V} (n : Nat), RelDs K ρ H xs ys → RelDs K ρ H (xs.take n) (ys.take n)
  | [], _, n, r => by erw [RelDs] at r; subst r; simp [RelDs]
  | x :: xs, _, 0, r => by simp [RelDs]
  | x :: xs, _, n + 1, r => by
    erw [RelDs] at r
    obtain ⟨y, t, rfl, q, r⟩ := r
    erw [List.take_succ_cons, RelDs]
    exact ⟨y, _, rfl, q, RelDs.take n r⟩
theorem RelDs.drop : ∀ {xs : List Z.D} {ys : List V} (n : Nat), RelDs K ρ H xs ys → RelDs K ρ H (xs.drop n) (ys.drop n)
  | [], _, n, r => by erw [RelDs] at r; subst r; simp [RelDs]
  | x :: xs, _, 0, r => r
  | x :: xs, _, n + 1, r => by
    erw [RelDs] at r
    obtain ⟨y, t, rfl, q, r⟩ := r
    simpa using RelDs.drop n r
theorem RelDs.set : ∀ {xs : List Z.D} {ys : List V} (n : Nat) {d : Z.D} {v : V}, RelDs K ρ H xs ys → RelD K ρ H d v → RelDs K ρ H (xs.set n d) (ys.set n v)
  | [], _, n, _, _, r, _ => by erw [RelDs] at r; subst r; simp [RelDs]
  | x :: xs, _, 0, d, v, r, q' => by
    erw [RelDs] at r
    obtain ⟨y, t, rfl, q, r⟩ := r
    erw [List.set_cons_zero, RelDs]
    exact ⟨v, t, rfl, q', r⟩
  | x :: xs, _, n + 1, d, v, r, q' => by
    erw [RelDs] at r
    obtain ⟨y, t, rfl, q, r⟩ := r
    erw [List.set_cons_succ, RelDs]
    exact ⟨y, _, rfl, q, RelDs.set n r q'⟩
theorem RelAO.mono (e : Ext K ρ H ρ' H') (hs : H' a = H a) (r : RelAO K ρ H o a) : RelAO K ρ' H' o a := by
  cases o with
  | lst xs =>
    obtain ⟨ys, q, r⟩ := r
    exact ⟨ys, hs.trans q, RelDs.mono e _ _ r⟩
  | dct kvs =>
    obtain ⟨ys, q, q2, r, q3⟩ := r
    exact ⟨ys, hs.trans q, q2, RelDs.mono e _ _ r, q3⟩
  | obj c fs =>
    obtain ⟨C, dx, fs', hc, q, q2, r⟩ := r
    exact ⟨C, dx, fs', hc, hs.trans q, q2, RelDs.mono e _ _ r⟩
  | exc c =>
    obtain ⟨C, oe, hc, q, q2⟩ := r
    exact ⟨C, oe, hc, hs.trans q, q2⟩
  | excR c i =>
    obtain ⟨C, oe, dx, od, hc, q, q1, q2⟩ := r
    exact ⟨C, oe, dx, od, hc, hs.trans q, e.frz _ _ _ q1, q2⟩
theorem RelAO.some (r : RelAO K ρ H o a) : ∃ u, H a = some u := by
  cases o with
  | lst xs => obtain ⟨ys, q, _⟩ := r; exact ⟨_, q⟩
  | dct kvs => obtain ⟨ys, q, _⟩ := r; exact ⟨_, q⟩
  | obj c fs => obtain ⟨C, dx, fs', hc, q, _⟩ := r; exact ⟨_, q⟩
  | exc c => obtain ⟨C, oe, hc, q, _⟩ := r; exact ⟨_, q⟩
  | excR c i => obtain ⟨C, oe, dx, od, hc, q, _⟩ := r; exact ⟨_, q⟩
theorem Rep.tracked (R : Rep K ρ h H) {n : Nat} {a : Addr} (e : ρ[n]? = some a) : ∃ u, H a = some u := by
  have hn : n < h.length := by rw [← R.len]; exact (List.getElem?_eq_some_iff.mp e).1
  obtain ⟨b, e1, r⟩ := R.at_ n h[n] (by simp [hn])
  rw [e] at e1; cases e1
  exact r.some
theorem Ext.fresh (hp : H p = none) : Ext K ρ H ρ (upd H p o) :=
  ⟨fun _ _ e => e, fun a xs e => by rw [upd_ne (ne_of_none e hp)]; exact e, fun a ob u e => by rw [upd_ne (ne_of_none e hp)]; exact e⟩
theorem Ext.alloc (hp : H p = none) : Ext K ρ H (ρ ++ [p]) (upd H p o) :=
  ⟨fun n a e => by rw [getElem?_append_left (List.getElem?_eq_some_iff.mp e).1]; exact e, fun a xs e => by rw [upd_ne (ne_of_none e hp)]; exact e, fun a ob u e => by rw [upd_ne (ne_of_none e hp)]; exact e⟩
theorem Rep.fresh (R : Rep K ρ h H) (hp : H p = none) : Rep K ρ h (upd H p o) :=
  ⟨R.len, R.nd, R.ext.trans (Ext.fresh hp), fun n ob e => by
    obtain ⟨a, e1, r⟩ := R.at_ n ob e
    obtain ⟨u, hu⟩ := r.some
    exact ⟨a, e1, RelAO.mono (Ext.fresh hp) (upd_ne (ne_of_none hu hp)) r⟩⟩
theorem Rep.alloc (R : Rep K ρ h H) {p : Addr} {o : HO} {ob : Z.AO} (hp : H p = none) (r : RelAO K (ρ ++ [p]) (upd H p o) ob p) : Rep K (ρ ++ [p]) (h ++ [ob]) (upd H p o) := by
  refine ⟨by simp [R.len], ?_, R.ext.trans (Ext.alloc hp), fun n ob' e => ?_⟩
  · refine List.nodup_append.mpr ⟨R.nd, by simp, fun a ha b hb => ?_⟩
    obtain ⟨n, hn, e⟩ := List.getElem_of_mem ha
    obtain ⟨u, hu⟩ := R.tracked (n := n) (a := a) (by rw [getElem?_eq_getElem hn, e])
    rw [mem_singleton] at hb
    subst hb
    exact ne_of_none hu hp
  · by_cases hn : n < h.length
    · rw [getElem?_append_left hn] at e
      obtain ⟨a, e1, r1⟩ := R.at_ n ob' e
      obtain ⟨u, hu⟩ := r1.some
      exact ⟨a, (Ext.alloc (K := K) (o := o) hp).pre _ _ e1, RelAO.mono (Ext.alloc hp) (upd_ne (ne_of_none hu hp)) r1⟩
    · have hl : n = h.length := by
        have := (List.getElem?_eq_some_iff.mp e).1
        simp at this; lia
      subst hl
      rw [getElem?_append_right (le_refl _)] at e
      simp at e
      subst e
      exact ⟨p, by rw [← R.len, getElem?_append_right (le_refl _)]; simp, r⟩
theorem Ext.write (hu : H a = some u) (h1 : ∀ xs, u ≠ .tup xs) (h2 : ∀ ob w, u ≠ .frz ob w) : Ext K ρ H ρ (upd H a o) :=
  ⟨fun _ _ e => e, fun b xs e => by rw [upd_ne (ne_of e hu fun z => h1 xs z.symm)]; exact e, fun b ob w e => by rw [upd_ne (ne_of e hu fun z => h2 ob w z.symm)]; exact e⟩
theorem Rep.write (R : Rep K ρ h H) (hn : ρ[n]? = some a) (hu : H a = some u) (h1 : ∀ xs, u ≠ .tup xs) (h2 : ∀ ob w, u ≠ .frz ob w) (r : RelAO K ρ (upd H a o) ob a) : Rep K ρ (h.set n ob) (upd H a o) := by
  refine ⟨by simp [R.len], R.nd, R.ext.trans (Ext.write hu h1 h2), fun m ob' e => ?_⟩
  by_cases hm : m = n
  · subst hm
    rw [getElem?_set_self (by rw [← R.len]; exact (List.getElem?_eq_some_iff.mp hn).1)] at e
    cases e
    exact ⟨a, hn, r⟩
  · rw [getElem?_set_ne (Ne.symm hm)] at e
    obtain ⟨b, e1, r1⟩ := R.at_ m ob' e
    refine ⟨b, e1, RelAO.mono (Ext.write hu h1 h2) (upd_ne fun z => hm ?_) r1⟩
    subst z
    exact nodup_inj R.nd e1 hn
theorem RelL.mono (e : Ext K ρ H ρ' H') (r : RelL K ρ H σ τ) : RelL K ρ' H' σ τ :=
  ⟨r.1, fun i d q => let ⟨v, q1, q2⟩ := r.2 i d q; ⟨v, q1, RelD.mono e d v q2⟩⟩
theorem RelL.set (r : RelL K ρ H σ τ) (q : RelD K ρ H d v) : RelL K ρ H (σ.set i (some d)) (τ.set i (some v)) := by
  refine ⟨by simp [r.1], fun j e hj => ?_⟩
  by_cases hij : i = j
  · subst hij
    have hl : i < σ.length := by have := (List.getElem?_eq_some_iff.mp hj).1; simpa using this
    rw [getElem?_set_self hl] at hj
    cases hj
    exact ⟨v, by rw [getElem?_set_self (by rw [← r.1]; exact hl)], q⟩
  · rw [getElem?_set_ne hij] at hj
    rw [getElem?_set_ne hij]
    exact r.2 j e hj
end
def upE (K : Frag) (w : Z.Lo → Z.AH → Z.PV → Prop) : TE := fun σ H Q => ∃ ρ h τ Q', Rep K ρ h H ∧ RelL K ρ H τ σ ∧ w τ h Q' ∧
  ∀ d h' ρ' H' v, Ext K ρ H ρ' H' → Rep K ρ' h' H' → RelD K ρ' H' d v → Q' d h' → Q v H'
def upEs (K : Frag) (w : Z.Lo → Z.AH → (List Z.D → Z.AH → Prop) → Prop) : TA := fun σ H Q => ∃ ρ h τ Q', Rep K ρ h H ∧ RelL K ρ H τ σ ∧ w τ h Q' ∧
  ∀ ds h' ρ' H' vs, Ext K ρ H ρ' H' → Rep K ρ' h' H' → RelDs K ρ' H' ds vs → Q' ds h' → Q vs H'
def upT (K : Frag) (w : Z.Lo → Z.AH → (Bool → Z.AH → Prop) → Prop) : TT := fun σ H Q => ∃ ρ h τ Q', Rep K ρ h H ∧ RelL K ρ H τ σ ∧ w τ h Q' ∧
  ∀ c h' ρ' H', Ext K ρ H ρ' H' → Rep K ρ' h' H' → Q' c h' → Q c H'
structure EnOk (K : Frag) (ρ : List Addr) (H : Hp) (N : Z.En) (D : Ends) : Prop where
  nx : ∀ τ h' ρ' H' σ, Ext K ρ H ρ' H' → Rep K ρ' h' H' → RelL K ρ' H' τ σ → N.nx τ h' → D.nx σ H'
  rt : ∀ d h' ρ' H' v, Ext K ρ H ρ' H' → Rep K ρ' h' H' → RelD K ρ' H' d v → N.rt d h' → D.rt v H'
  bk : ∀ τ h' ρ' H' σ, Ext K ρ H ρ' H' → Rep K ρ' h' H' → RelL K ρ' H' τ σ → N.bk τ h' → D.bk σ H'
  ct : ∀ τ h' ρ' H' σ, Ext K ρ H ρ' H' → Rep K ρ' h' H' → RelL K ρ' H' τ σ → N.ct τ h' → D.ct σ H'
theorem EnOk.mono {K : Frag} {ρ ρ1 : List Addr} {H H1 : Hp} {N : Z.En} {D : Ends} (k : EnOk K ρ H N D) (e : Ext K ρ H ρ1 H1) : EnOk K ρ1 H1 N D :=
  ⟨fun τ h' ρ' H' σ e' => k.nx τ h' ρ' H' σ (e.trans e'), fun d h' ρ' H' v e' => k.rt d h' ρ' H' v (e.trans e'), fun τ h' ρ' H' σ e' => k.bk τ h' ρ' H' σ (e.trans e'), fun τ h' ρ' H' σ e' => k.ct τ h' ρ' H' σ (e.trans e')⟩
def upS (K : Frag) (w : Z.En → Z.Lo → Z.AH → Prop) : TS := fun D σ H => ∃ ρ h τ N, Rep K ρ h H ∧ RelL K ρ H τ σ ∧ w N τ h ∧ EnOk K ρ H N D
def rP (K : Frag) (sub : Nat → Nat → Bool) (p : Z.Prim) (vs : List V) (H : Hp) (Q : VK) : Prop := ∃ ρ h ds d h', Rep K ρ h H ∧ RelDs K ρ H ds vs ∧ Z.prim sub p ds h = some (d, h') ∧
  ∀ ρ' H' v, Ext K ρ H ρ' H' → Rep K ρ' h' H' → RelD K ρ' H' d v → Q v H'
theorem PEw (h : PE X e t) (w : ∀ σ H Q, t' σ H Q → t σ H Q) : PE X e t' := fun pins s σ H Q I q => h pins s σ H Q I (w _ _ _ q)
theorem PTw (h : PT X e t) (w : ∀ σ H Q, t' σ H Q → t σ H Q) : PT X e t' := fun pins s σ H Q I q => h pins s σ H Q I (w _ _ _ q)
theorem PAw (h : PA X e t) (w : ∀ σ H Q, t' σ H Q → t σ H Q) : PA X e t' := fun pos pins s σ H Q I q => h pos pins s σ H Q I (w _ _ _ q)
theorem PSw (h : PS X e t) (w : ∀ D σ H, t' D σ H → t D σ H) : PS X e t' := fun pins s σ H D I q => h pins s σ H D I (w _ _ _ q)
theorem PSsw (h : PSs X e t) (w : ∀ D σ H, t' D σ H → t D σ H) : PSs X e t' := fun pins s σ H D I q => h pins s σ H D I (w _ _ _ q)
theorem OpRw (h : OpR X f r) (w : ∀ x y H Q, r' x y H Q → r x y H Q) : OpR X f r' := fun pins s σ H x y v u Q I rx ry q => h pins s σ H x y v u Q I rx ry (w _ _ _ _ q)
theorem CallRw (h : CallR X f r) (w : ∀ xs H Q, r' xs H Q → r xs H Q) : CallR X f r' := fun pins s σ H x v Q I rx q => h pins s σ H x v Q I rx (w _ _ _ q)
theorem MtRw {X : Cx} {id : String} {r r' : V → List V → Hp → VK → Prop} (h : MtR X id r) (w : ∀ x xs H Q, r' x xs H Q → r x xs H Q) : MtR X id r' := fun pins s σ H x xs v us Q I rx ry q => h pins s σ H x xs v us Q I rx ry (w _ _ _ _ q)
theorem SlRw (h : SlR X r) (w : ∀ x lo hi H Q, r' x lo hi H Q → r x lo hi H Q) : SlR X r' := by
  unfold SlR at h ⊢
  intros
  apply h <;> first | assumption | (apply w; assumption)
section
variable {X : Cx} {sub : Nat → Nat → Bool} {Γ : Z.Gam} {E : Z.PX}
abbrev LE (X : Cx) (sub : Nat → Nat → Bool) (Γ : Z.Gam) (E : Z.PX) (e : Expr) (i : Z.Ex) : Prop := PE X e (upE X.K (Z.wpE sub Γ E i))
abbrev LT (X : Cx) (sub : Nat → Nat → Bool) (Γ : Z.Gam) (E : Z.PX) (e : Expr) (i : Z.Tx) : Prop := PT X e (upT X.K (Z.wpT sub Γ E i))
abbrev LA (X : Cx) (sub : Nat → Nat → Bool) (Γ : Z.Gam) (E : Z.PX) (e : List Expr) (i : Z.Exs) : Prop := PA X e (upEs X.K (Z.wpEs sub Γ E i))
abbrev LS (X : Cx) (sub : Nat → Nat → Bool) (Γ : Z.Gam) (E : Z.PX) (e : Stmt) (i : Z.Sm) : Prop := PS X e (upS X.K (Z.wpS sub Γ E i))
abbrev LSs (X : Cx) (sub : Nat → Nat → Bool) (Γ : Z.Gam) (E : Z.PX) (e : List Stmt) (i : Z.Sms) : Prop := PSs X e (upS X.K (Z.wpSs sub Γ E i))
theorem rel2 {K : Frag} {ρ : List Addr} {H : Hp} {a b : Z.D} {x y : V} (r1 : RelD K ρ H a x) (r2 : RelD K ρ H b y) : RelDs K ρ H [a, b] [x, y] := by
  erw [RelDs]; exact ⟨x, _, rfl, r1, y, _, rfl, r2, rfl⟩
theorem rel3 {K : Frag} {ρ : List Addr} {H : Hp} {a b c : Z.D} {x y z : V} (r1 : RelD K ρ H a x) (r2 : RelD K ρ H b y) (r3 : RelD K ρ H c z) : RelDs K ρ H [a, b, c] [x, y, z] := by
  erw [RelDs]; exact ⟨x, _, rfl, r1, y, _, rfl, r2, z, _, rfl, r3, rfl⟩
theorem le_var (hN : X.N[i]? = some x) (hv : Vis X.env.scope x) (hd : ZDbg x) (hcd : (x == ("__classdict__" : Str)) = false) : LE X sub Γ E (.Name x pos) (.var i) := by
  refine PEw (pe_var hN hv hd hcd) ?_
  rintro σ H Q ⟨ρ, h, τ, Q', R, L, w, k⟩
  erw [Z.wpE] at w
  cases q : τ[i]? with
  | none => rw [q] at w; exact w.elim
  | some o =>
    cases o with
    | none => rw [q] at w; exact w.elim
    | some d =>
      rw [q] at w
      obtain ⟨v, e, r⟩ := L.2 i d q
      exact ⟨v, e, k d h ρ H v .refl R r w⟩
theorem le_lit (he : PE X e (tC v)) (r : ∀ ρ H, RelD X.K ρ H d v) : LE X sub Γ E e (.lit d) := by
  refine PEw he ?_
  rintro σ H Q ⟨ρ, h, τ, Q', R, L, w, k⟩
  exact k d h ρ H v .refl R (r ρ H) w
theorem le_bin (ho : OpR X (binaryOp op) (fun x y => rP X.K sub p [x, y])) (ha : LE X sub Γ E a a') (hb : LE X sub Γ E b b') :
    LE X sub Γ E (.BinOp a op b pos) (.prim p (.cons a' (.cons b' .nil))) := by
  refine PEw (pe_op ho ha hb) ?_
  rintro σ H Q ⟨ρ, h, τ, Q', R, L, w, k⟩
  erw [Z.wpE, Z.wpEs] at w
  refine ⟨ρ, h, τ, _, R, L, w, fun d1 h1 ρ1 H1 x e1 R1 r1 w1 => ⟨ρ1, h1, τ, _, R1, L.mono e1, w1, fun d2 h2 ρ2 H2 y e2 R2 r2 w2 => ?_⟩⟩
  cases q : Z.prim sub p [d1, d2] h2 with
  | none => rw [q] at w2; exact w2.elim
  | some z =>
    rw [q] at w2
    exact ⟨ρ2, h2, [d1, d2], z.1, z.2, R2, rel2 (RelD.mono e2 _ _ r1) r2, q, fun ρ' H' v e' R' r' => k _ _ ρ' H' v (e1.trans (e2.trans e')) R' r' w2⟩
theorem le_un (ho : UnR X (unaryOp op) (fun x => rP X.K sub p [x])) (ha : LE X sub Γ E a a') :
    LE X sub Γ E (.UnaryOp op a pos) (.prim p (.cons a' .nil)) := by
  refine PEw (pe_un ho ha) ?_
  rintro σ H Q ⟨ρ, h, τ, Q', R, L, w, k⟩
  erw [Z.wpE, Z.wpEs] at w
  refine ⟨ρ, h, τ, _, R, L, w, fun d1 h1 ρ1 H1 x e1 R1 r1 w1 => ?_⟩
  cases q : Z.prim sub p [d1] h1 with
  | none => rw [q] at w1; exact w1.elim
  | some z =>
    rw [q] at w1
    exact ⟨ρ1, h1, [d1], z.1, z.2, R1, .one r1, q, fun ρ' H' v e' R' r' => k _ _ ρ' H' v (e1.trans e') R' r' w1⟩
theorem le_cmp (ho : OpR X (compareOp op) (fun x y => rP X.K sub p [x, y])) (ha : LE X sub Γ E a a') (hb : LE X sub Γ E b b') (hm : behindInMarks op b = false) :
    LE X sub Γ E (.Compare a [op] [b] pos) (.prim p (.cons a' (.cons b' .nil))) := by
  refine PEw (pe_cmpR ho ha hb hm) ?_
  rintro σ H Q ⟨ρ, h, τ, Q', R, L, w, k⟩
  erw [Z.wpE, Z.wpEs] at w
  refine ⟨ρ, h, τ, _, R, L, w, fun d1 h1 ρ1 H1 x e1 R1 r1 w1 => ⟨ρ1, h1, τ, _, R1, L.mono e1, w1, fun d2 h2 ρ2 H2 y e2 R2 r2 w2 => ?_⟩⟩
  cases q : Z.prim sub p [d1, d2] h2 with
  | none => rw [q] at w2; exact w2.elim
  | some z =>
    rw [q] at w2
    exact ⟨ρ2, h2, [d1, d2], z.1, z.2, R2, rel2 (RelD.mono e2 _ _ r1) r2, q, fun ρ' H' v e' R' r' => k _ _ ρ' H' v (e1.trans (e2.trans e')) R' r' w2⟩
theorem le_and {a b : Expr} {rest : List Expr} {a' b' : Z.Ex} {pos : Pos} (ha : LE X sub Γ E a a') (hb : LE X sub Γ E (.BoolOp .And (b :: rest) pos) b') : LE X sub Γ E (.BoolOp .And (a :: b :: rest) pos) (.andV a' b') := by
  refine PEw (pe_and ha hb) ?_
  rintro σ H Q ⟨ρ, h, τ, Q', R, L, w, k⟩
  erw [Z.wpE] at w
  refine ⟨ρ, h, τ, _, R, L, w, fun d1 h1 ρ1 H1 x e1 R1 r1 w1 => ?_⟩
  cases d1 with
  | bl c =>
    erw [RelD] at r1
    cases c with
    | true => exact ⟨true, r1, by rw [if_pos rfl]; exact ⟨ρ1, h1, τ, _, R1, L.mono e1, w1, fun d h' ρ' H' v e' => k d h' ρ' H' v (e1.trans e')⟩⟩
    | false => exact ⟨false, r1, by rw [if_neg (by decide)]; exact k _ h1 ρ1 H1 _ e1 R1 (by erw [RelD]) w1⟩
  | _ => exact w1.elim
theorem le_one (ha : LE X sub Γ E a a') : LE X sub Γ E (.BoolOp op [a] pos) a' := pe_one ha
theorem le_ite (hc : LT X sub Γ E c c') (ha : LE X sub Γ E a a') (hb : LE X sub Γ E b b') : LE X sub Γ E (.IfExp c a b pos) (.ite c' a' b') := by
  refine PEw (pe_ifExp hc ha hb) ?_
  rintro σ H Q ⟨ρ, h, τ, Q', R, L, w, k⟩
  erw [Z.wpE] at w
  refine ⟨ρ, h, τ, _, R, L, w, fun c h1 ρ1 H1 e1 R1 w1 => ?_⟩
  cases c with
  | true => rw [if_pos rfl] at w1 ⊢; exact ⟨ρ1, h1, τ, _, R1, L.mono e1, w1, fun d h' ρ' H' v e' => k d h' ρ' H' v (e1.trans e')⟩
  | false => rw [if_neg (by decide)] at w1 ⊢; exact ⟨ρ1, h1, τ, _, R1, L.mono e1, w1, fun d h' ρ' H' v e' => k d h' ρ' H' v (e1.trans e')⟩
theorem la_nil : LA X sub Γ E [] .nil := by
  refine PAw pa_nil ?_
  rintro σ H Q ⟨ρ, h, τ, Q', R, L, w, k⟩
  erw [Z.wpEs] at w
  exact k [] h ρ H [] .refl R (by erw [RelDs]) w
theorem la_cons (he : LE X sub Γ E e e') (hes : LA X sub Γ E es es') (hs : ZStE X.env e es) : LA X sub Γ E (e :: es) (.cons e' es') := by
  refine PAw (pa_cons he hes hs) ?_
  rintro σ H Q ⟨ρ, h, τ, Q', R, L, w, k⟩
  erw [Z.wpEs] at w
  refine ⟨ρ, h, τ, _, R, L, w, fun d1 h1 ρ1 H1 x e1 R1 r1 w1 => ⟨ρ1, h1, τ, _, R1, L.mono e1, w1, fun ds h2 ρ2 H2 xs e2 R2 r2 w2 => ?_⟩⟩
  exact k _ h2 ρ2 H2 _ (e1.trans e2) R2 (by erw [RelDs]; exact ⟨x, xs, rfl, RelD.mono e2 _ _ r1, r2⟩) w2
theorem limE : Z.lim = sizeLine := by rw [sizeLine_eq]; rfl
theorem pr_mkt : Z.prim sub .mktup = Z.pMkt := rfl
theorem pr_mkl : Z.prim sub .mklst = Z.newL := rfl
theorem le_tup (h : LA X sub Γ E es es') : LE X sub Γ E (.Tuple es k pos) (.prim .mktup es') := by
  refine PEw (pe_tup h) ?_
  rintro σ H Q ⟨ρ, h, τ, Q', R, L, w, k⟩
  erw [Z.wpE] at w
  refine ⟨ρ, h, τ, _, R, L, w, fun ds h1 ρ1 H1 xs e1 R1 r1 w1 => ?_⟩
  erw [pr_mkt, Z.pMkt] at w1
  by_cases hl : ds.length ≤ Z.lim
  · rw [if_pos hl] at w1
    refine ⟨by rw [← r1.length, ← limE]; exact hl, fun p hp => ?_⟩
    have e2 : Ext X.K ρ1 H1 ρ1 (upd H1 p (.tup xs)) := Ext.fresh hp
    exact k _ h1 ρ1 _ _ (e1.trans e2) (R1.fresh hp) (by erw [RelD]; exact ⟨p, xs, rfl, .of upd_same, RelDs.mono e2 _ _ r1⟩) w1
  · rw [if_neg hl] at w1; exact w1.elim
theorem new_list {K : Frag} {ρ : List Addr} {h : Z.AH} {H : Hp} {ds : List Z.D} {vs : List V} {p : Addr} (R : Rep K ρ h H) (r : RelDs K ρ H ds vs) (hp : H p = none) :
    Ext K ρ H (ρ ++ [p]) (upd H p (.lst vs)) ∧ Rep K (ρ ++ [p]) (h ++ [.lst ds]) (upd H p (.lst vs)) ∧ RelD K (ρ ++ [p]) (upd H p (.lst vs)) (.ref h.length) (.ref p) := by
  have e : Ext K ρ H (ρ ++ [p]) (upd H p (.lst vs)) := Ext.alloc hp
  exact ⟨e, R.alloc hp ⟨vs, upd_same, RelDs.mono e _ _ r⟩, by erw [RelD]; exact ⟨p, rfl, by rw [← R.len, getElem?_append_right (le_refl _)]; simp⟩⟩
theorem le_list {es : List Expr} {es' : Z.Exs} {pos : Pos} (h : LA X sub Γ E es es') : LE X sub Γ E (.List es pos) (.prim .mklst es') := by
  refine PEw (pe_lst h) ?_
  rintro σ H Q ⟨ρ, h, τ, Q', R, L, w, k⟩
  erw [Z.wpE] at w
  refine ⟨ρ, h, τ, _, R, L, w, fun ds h1 ρ1 H1 xs e1 R1 r1 w1 => ?_⟩
  erw [pr_mkl, Z.newL] at w1
  by_cases hl : ds.length ≤ Z.lim
  · rw [if_pos hl] at w1
    refine ⟨by rw [← r1.length, ← limE]; exact hl, fun p hp => ?_⟩
    obtain ⟨e2, R2, r2⟩ := new_list R1 r1 hp
    exact k _ _ _ _ _ (e1.trans e2) R2 r2 w1
  · rw [if_neg hl] at w1; exact w1.elim
theorem le_ix (ho : IxR X (fun x y => rP X.K sub p [x, y])) (ha : LE X sub Γ E a a') (hb : LE X sub Γ E b b') (hs : PlainIx b) :
    LE X sub Γ E (.Subscript a b pos) (.prim p (.cons a' (.cons b' .nil))) := by
  refine PEw (pe_ix ho ha hb hs) ?_
  rintro σ H Q ⟨ρ, h, τ, Q', R, L, w, k⟩
  erw [Z.wpE, Z.wpEs] at w
  refine ⟨ρ, h, τ, _, R, L, w, fun d1 h1 ρ1 H1 x e1 R1 r1 w1 => ⟨ρ1, h1, τ, _, R1, L.mono e1, w1, fun d2 h2 ρ2 H2 y e2 R2 r2 w2 => ?_⟩⟩
  cases q : Z.prim sub p [d1, d2] h2 with
  | none => rw [q] at w2; exact w2.elim
  | some z =>
    rw [q] at w2
    exact ⟨ρ2, h2, [d1, d2], z.1, z.2, R2, rel2 (RelD.mono e2 _ _ r1) r2, q, fun ρ' H' v e' R' r' => k _ _ ρ' H' v (e1.trans (e2.trans e')) R' r' w2⟩
theorem le_callB {x : Str} {id : String} {e : Expr} {es : List Expr} {es' : Z.Exs} {p : Z.Prim} {q pos : Pos} (hc : CallR X (.builtin id) (rP X.K sub p)) (hg : Gl X x) (hm : X.mg x = none) (hv : bootBuiltins x = some (.builtin id)) (ha : LA X sub Γ E (e :: es) es') (hn : x ≠ "__name__") (hdb : ZDbg x) (he : ZStE X.env e es) (hpl : ZBkT X.env es pos) :
    LE X sub Γ E (.Call (.Name x q) (e :: es) [] pos) (.prim p es') := by
  refine PEw (pe_callB hc hg hm hv ha hn hdb he hpl) ?_
  rintro σ H Q ⟨ρ, h, τ, Q', R, L, w, k⟩
  erw [Z.wpE] at w
  refine ⟨ρ, h, τ, _, R, L, w, fun ds h1 ρ1 H1 xs e1 R1 r1 w1 => ?_⟩
  cases q : Z.prim sub p ds h1 with
  | none => rw [q] at w1; exact w1.elim
  | some z =>
    rw [q] at w1
    exact ⟨ρ1, h1, ds, z.1, z.2, R1, r1, q, fun ρ' H' v e' R' r' => k _ _ ρ' H' v (e1.trans e') R' r' w1⟩
theorem le_callTy {x : Str} {id : String} {e : Expr} {es : List Expr} {es' : Z.Exs} {p : Z.Prim} {q pos : Pos} (hc : CallR X (.type id) (rP X.K sub p)) (hg : Gl X x) (hm : X.mg x = none) (hv : bootBuiltins x = some (.type id)) (ha : LA X sub Γ E (e :: es) es') (hn : x ≠ "__name__") (hdb : ZDbg x) (he : ZStE X.env e es) (hpl : ZBkT X.env es pos) :
    LE X sub Γ E (.Call (.Name x q) (e :: es) [] pos) (.prim p es') := by
  refine PEw (pe_callTy hc hg hm hv ha hn hdb he hpl) ?_
  rintro σ H Q ⟨ρ, h, τ, Q', R, L, w, k⟩
  erw [Z.wpE] at w
  refine ⟨ρ, h, τ, _, R, L, w, fun ds h1 ρ1 H1 xs e1 R1 r1 w1 => ?_⟩
  cases q : Z.prim sub p ds h1 with
  | none => rw [q] at w1; exact w1.elim
  | some z =>
    rw [q] at w1
    exact ⟨ρ1, h1, ds, z.1, z.2, R1, r1, q, fun ρ' H' v e' R' r' => k _ _ ρ' H' v (e1.trans e') R' r' w1⟩
def MKn : Z.MK → String
  | .list => "list" | .str => "str" | .dict => "dict" | .int => "int" | .tuple => "tuple"
theorem ty_of {K : Frag} {ρ : List Addr} {h : Z.AH} {H : Hp} {m : Z.MK} {d : Z.D} {v : V} (hm : m ≠ .dict) (hm2 : m ≠ .tuple) (R : Rep K ρ h H) (r : RelD K ρ H d v) (t : Z.tyB h m d = true) : tyV K (MKn m) v H := by
  cases m <;> cases d <;> erw [Z.tyB] at t <;> try cases t
  · erw [RelD] at r
    obtain ⟨a, ys, rfl, q, _⟩ := r
    exact .inl ⟨rfl, ys, q.sqL⟩
  · rename_i n
    erw [RelD] at r
    obtain ⟨a, rfl, q⟩ := r
    cases e : h[n]? with
    | none => rw [e] at t; cases t
    | some o =>
      rw [e] at t
      cases o with
      | lst xs =>
        obtain ⟨b, e1, ys, e2, _⟩ := R.at_ n _ e
        rw [q] at e1; cases e1
        exact .inl ⟨rfl, ys, .of e2⟩
      | _ => cases t
  · erw [RelD] at r
    obtain ⟨rfl, _⟩ := r
    rfl
  · exact absurd rfl hm
  · erw [RelD] at r
    subst r
    rfl
  · exact absurd rfl hm2
theorem le_mth {o e : Expr} {es : List Expr} {o' : Z.Ex} {es' : Z.Exs} {m : Z.MK} {p : Z.Prim} {name : Str} {apos cpos : Pos} {id : String} (hmk : m ≠ .dict) (hmt : m ≠ .tuple) (pa : PlainAttrs (MKn m)) (slot : Slot (MKn m) name id) (hty : typeOf (.builtin id) = pure (.type "method_descriptor")) (hm : MtR X id (fun x xs => rP X.K sub p (x :: xs))) (ho : LE X sub Γ E o o') (ha : LA X sub Γ E (e :: es) es') (hbase : attributeBase o name X.env (eval o X.env) = eval o X.env) (hfew : ((backTo cpos (starEach (e :: es) X.env)).all (fun x => !x.1) && (backToKw cpos (keywordEach [] X.env)).all (fun x => x.1.isSome)
      && decide ((e :: es).length + ([] : List Keyword).length + (if ([] : List Keyword).isEmpty then 0 else 1) < 30)) = true) (hline : (apos.endLine == cpos.line) = true) (hs : ZStE X.env e es) (hplain : ZBkT X.env es cpos) :
    LE X sub Γ E (.Call (.Attribute o name apos) (e :: es) [] cpos) (.mth m p o' es') := by
  refine PEw (pe_bm pa slot hty hm ho ha hbase hfew hline hs hplain) ?_
  rintro σ H Q ⟨ρ, h, τ, Q', R, L, w, k⟩
  erw [Z.wpE] at w
  refine ⟨ρ, h, τ, _, R, L, w, fun d1 h1 ρ1 H1 x e1 R1 r1 w1 => ⟨ty_of hmk hmt R1 r1 w1.1, ρ1, h1, τ, _, R1, L.mono e1, w1.2, fun ds h2 ρ2 H2 xs e2 R2 r2 w2 => ?_⟩⟩
  cases q : Z.prim sub p (d1 :: ds) h2 with
  | none => rw [q] at w2; exact w2.elim
  | some z =>
    rw [q] at w2
    exact ⟨ρ2, h2, d1 :: ds, z.1, z.2, R2, by erw [RelDs]; exact ⟨x, xs, rfl, RelD.mono e2 _ _ r1, r2⟩, q, fun ρ' H' v e' R' r' => k _ _ ρ' H' v (e1.trans (e2.trans e')) R' r' w2⟩
theorem le_mth0 {o : Expr} {o' : Z.Ex} {m : Z.MK} {p : Z.Prim} {name : Str} {apos cpos : Pos} {id : String} (hmk : m ≠ .dict) (hmt : m ≠ .tuple) (pa : PlainAttrs (MKn m)) (slot : Slot (MKn m) name id) (hty : typeOf (.builtin id) = pure (.type "method_descriptor")) (hm : MtR X id (fun x xs => rP X.K sub p (x :: xs))) (ho : LE X sub Γ E o o') (hbase : attributeBase o name X.env (eval o X.env) = eval o X.env) (hline : (apos.endLine == cpos.line) = true) :
    LE X sub Γ E (.Call (.Attribute o name apos) [] [] cpos) (.mth m p o' .nil) := by
  refine PEw (pe_bm0 pa slot hty hm ho hbase hline) ?_
  rintro σ H Q ⟨ρ, h, τ, Q', R, L, w, k⟩
  erw [Z.wpE, Z.wpEs] at w
  refine ⟨ρ, h, τ, _, R, L, w, fun d1 h1 ρ1 H1 x e1 R1 r1 w1 => ⟨ty_of hmk hmt R1 r1 w1.1, ?_⟩⟩
  obtain ⟨_, w2⟩ := w1
  cases q : Z.prim sub p [d1] h1 with
  | none => rw [q] at w2; exact w2.elim
  | some z =>
    rw [q] at w2
    exact ⟨ρ1, h1, [d1], z.1, z.2, R1, .one r1, q, fun ρ' H' v e' R' r' => k _ _ ρ' H' v (e1.trans e') R' r' w2⟩
theorem tru_of {K : Frag} {ρ : List Addr} {h : Z.AH} {H : Hp} {d : Z.D} {v : V} {c : Bool} (R : Rep K ρ h H) (r : RelD K ρ H d v) (t : Z.truthy h d = some c) : TruV K v H c := by
  cases d with
  | non => erw [RelD] at r; subst r; erw [Z.truthy] at t; cases t; rfl
  | bl b => erw [RelD] at r; subst r; erw [Z.truthy] at t; cases t; rfl
  | int i => erw [RelD] at r; subst r; erw [Z.truthy] at t; cases t; rfl
  | str s =>
    erw [RelD] at r
    obtain ⟨rfl, hl⟩ := r
    erw [Z.truthy] at t
    cases t
    refine ⟨by rw [← limE]; exact hl, ?_⟩
    show (!s.isEmpty) = (((⟨s.toArray⟩ : Str).length : Int) != 0)
    cases s with
    | nil => rfl
    | cons a b =>
      show true = _
      symm
      rw [bne_iff_ne]
      show ((a :: b).toArray.size : Int) ≠ 0
      simp
      lia
  | tup xs =>
    erw [RelD] at r
    obtain ⟨a, ys, rfl, q, rs⟩ := r
    erw [Z.truthy] at t
    cases t
    refine .inr (.inl ⟨ys, q, ?_⟩)
    have := rs.length
    cases xs <;> cases ys <;> simp at this ⊢
  | rol xs =>
    erw [RelD] at r
    obtain ⟨a, ys, rfl, q, rs⟩ := r
    erw [Z.truthy] at t
    cases t
    refine .inl ⟨ys, q.sqL, ?_⟩
    have := rs.length
    cases xs <;> cases ys <;> simp at this ⊢
  | ref n =>
    erw [RelD] at r
    obtain ⟨a, rfl, q⟩ := r
    erw [Z.truthy] at t
    cases e : h[n]? with
    | none => rw [e] at t; cases t
    | some o =>
      rw [e] at t
      obtain ⟨b, e1, ro⟩ := R.at_ n _ e
      rw [q] at e1; cases e1
      cases o with
      | lst xs =>
        obtain ⟨ys, e2, rs⟩ := ro
        cases t
        refine .inl ⟨ys, .of e2, ?_⟩
        have := rs.length
        cases xs <;> cases ys <;> simp at this ⊢
      | dct kvs =>
        obtain ⟨ys, e2, ek, rs, _⟩ := ro
        cases t
        refine .inr (.inr ⟨ys, e2, ?_⟩)
        have := rs.length
        rw [length_map, length_map] at this
        cases kvs <;> cases ys <;> simp at this ⊢
      | obj _ _ => cases t
      | exc _ => cases t
      | excR _ _ => cases t
theorem lt_tru (ha : LE X sub Γ E a a') (he : ∀ whole, isTrue a X.env whole = (do let v ← whole; standAt a.pos; holding [v] (truthy v))) : LT X sub Γ E a (.tru a') := by
  refine PTw (pt_truth ha he) ?_
  rintro σ H Q ⟨ρ, h, τ, Q', R, L, w, k⟩
  erw [Z.wpT] at w
  refine ⟨ρ, h, τ, _, R, L, w, fun d1 h1 ρ1 H1 x e1 R1 r1 w1 => ?_⟩
  cases q : Z.truthy h1 d1 with
  | none => rw [q] at w1; exact w1.elim
  | some c =>
    rw [q] at w1
    exact ⟨c, tru_of R1 r1 q, k c h1 ρ1 H1 e1 R1 w1⟩
theorem lt_cmp (hp : ∀ ds h d h', Z.prim sub p ds h = some (d, h') → ∃ c, d = .bl c) (ho : OpR X (compareOp op) (fun x y => rP X.K sub p [x, y])) (ha : LE X sub Γ E a a') (hb : LE X sub Γ E b b') (hm : behindInMarks op b = false) :
    LT X sub Γ E (.Compare a [op] [b] pos) (.tru (.prim p (.cons a' (.cons b' .nil)))) := by
  refine PTw (pt_cmpR ho ha hb hm) ?_
  rintro σ H Q ⟨ρ, h, τ, Q', R, L, w, k⟩
  erw [Z.wpT, Z.wpE, Z.wpEs] at w
  refine ⟨ρ, h, τ, _, R, L, w, fun d1 h1 ρ1 H1 x e1 R1 r1 w1 => ⟨ρ1, h1, τ, _, R1, L.mono e1, w1, fun d2 h2 ρ2 H2 y e2 R2 r2 w2 => ?_⟩⟩
  cases q : Z.prim sub p [d1, d2] h2 with
  | none => rw [q] at w2; exact w2.elim
  | some z =>
    obtain ⟨z, h3⟩ := z
    obtain ⟨c, rfl⟩ := hp _ _ _ _ q
    rw [q] at w2
    refine ⟨ρ2, h2, [d1, d2], .bl c, h3, R2, rel2 (RelD.mono e2 _ _ r1) r2, q, fun ρ' H' v e' R' r' => ?_⟩
    erw [RelD] at r'
    exact ⟨c, r', k _ h3 ρ' H' (e1.trans (e2.trans e')) R' w2⟩
theorem lt_none (hp : ∀ ds h d h', Z.prim sub p ds h = some (d, h') → ∃ c, d = .bl c) (ho : OpR X (compareOp op) (fun x y H Q => y = .non ∧ rP X.K sub p [x] H Q)) (ha : LE X sub Γ E a a') (hm : behindInMarks op (.Constant .none j pos') = false) :
    LT X sub Γ E (.Compare a [op] [.Constant .none j pos'] pos) (.tru (.prim p (.cons a' .nil))) := by
  refine PTw (pt_cmpR ho ha pe_non hm) ?_
  rintro σ H Q ⟨ρ, h, τ, Q', R, L, w, k⟩
  erw [Z.wpT, Z.wpE, Z.wpEs] at w
  refine ⟨ρ, h, τ, _, R, L, w, fun d1 h1 ρ1 H1 x e1 R1 r1 w1 => ?_⟩
  cases q : Z.prim sub p [d1] h1 with
  | none => rw [q] at w1; exact w1.elim
  | some z =>
    obtain ⟨z, h3⟩ := z
    obtain ⟨c, rfl⟩ := hp _ _ _ _ q
    rw [q] at w1
    refine ⟨rfl, ρ1, h1, [d1], .bl c, h3, R1, .one r1, q, fun ρ' H' v e' R' r' => ?_⟩
    erw [RelD] at r'
    exact ⟨c, r', k _ h3 ρ' H' (e1.trans e') R' w1⟩
theorem lt_not (ha : LT X sub Γ E a a') : LT X sub Γ E (.UnaryOp .Not a pos) (.not a') := by
  refine PTw (pt_not ha) ?_
  rintro σ H Q ⟨ρ, h, τ, Q', R, L, w, k⟩
  erw [Z.wpT] at w
  exact ⟨ρ, h, τ, _, R, L, w, fun c h1 ρ1 H1 e1 R1 w1 => k _ h1 ρ1 H1 e1 R1 w1⟩
abbrev LW (X : Cx) (sub : Nat → Nat → Bool) (Γ : Z.Gam) (E : Z.PX) (e : Expr) (i : Z.Tx) : Prop := PW X e (upT X.K (Z.wpT sub Γ E i))
theorem PWw (h : PW X e t) (w : ∀ σ H Q, t' σ H Q → t σ H Q) : PW X e t' := fun wh pins s σ H Q I q => h wh pins s σ H Q I (w _ _ _ q)
theorem lw_and1 (ha : LT X sub Γ E a a') : LW X sub Γ E (.BoolOp .And [a] pos) a' := pw_and1 ha
theorem lw_or1 (ha : LT X sub Γ E a a') : LW X sub Γ E (.BoolOp .Or [a] pos) a' := pw_or1 ha
theorem lw_and {a b : Expr} {rest : List Expr} {a' b' : Z.Tx} {pos : Pos} (ha : LT X sub Γ E a a') (hb : LW X sub Γ E (.BoolOp .And (b :: rest) pos) b') : LW X sub Γ E (.BoolOp .And (a :: b :: rest) pos) (.and a' b') := by
  refine PWw (pw_and ha hb) ?_
  rintro σ H Q ⟨ρ, h, τ, Q', R, L, w, k⟩
  erw [Z.wpT] at w
  refine ⟨ρ, h, τ, _, R, L, w, fun c h1 ρ1 H1 e1 R1 w1 => ?_⟩
  cases c with
  | true => rw [if_pos rfl] at w1 ⊢; exact ⟨ρ1, h1, τ, _, R1, L.mono e1, w1, fun d h' ρ' H' e' => k d h' ρ' H' (e1.trans e')⟩
  | false => rw [if_neg (by decide)] at w1 ⊢; exact k _ h1 ρ1 H1 e1 R1 w1
theorem lw_or {a b : Expr} {rest : List Expr} {a' b' : Z.Tx} {pos : Pos} (ha : LT X sub Γ E a a') (hb : LW X sub Γ E (.BoolOp .Or (b :: rest) pos) b') : LW X sub Γ E (.BoolOp .Or (a :: b :: rest) pos) (.or a' b') := by
  refine PWw (pw_or ha hb) ?_
  rintro σ H Q ⟨ρ, h, τ, Q', R, L, w, k⟩
  erw [Z.wpT] at w
  refine ⟨ρ, h, τ, _, R, L, w, fun c h1 ρ1 H1 e1 R1 w1 => ?_⟩
  cases c with
  | true => rw [if_pos rfl] at w1 ⊢; exact k _ h1 ρ1 H1 e1 R1 w1
  | false => rw [if_neg (by decide)] at w1 ⊢; exact ⟨ρ1, h1, τ, _, R1, L.mono e1, w1, fun d h' ρ' H' e' => k d h' ρ' H' (e1.trans e')⟩
theorem lss_nil : LSs X sub Γ E [] .nil := by
  refine PSsw pss_nil ?_
  rintro D σ H ⟨ρ, h, τ, N, R, L, w, k⟩
  erw [Z.wpSs] at w
  exact k.nx τ h ρ H σ .refl R L w
theorem lss_cons (h1 : LS X sub Γ E s s') (h2 : LSs X sub Γ E ss ss') : LSs X sub Γ E (s :: ss) (.cons s' ss') := by
  refine PSsw (pss_cons h1 h2) ?_
  rintro D σ H ⟨ρ, h, τ, N, R, L, w, k⟩
  erw [Z.wpSs] at w
  refine ⟨ρ, h, τ, _, R, L, w, ⟨fun τ1 h1 ρ1 H1 σ1 e1 R1 L1 w1 => ⟨ρ1, h1, τ1, N, R1, L1, w1, k.mono e1⟩, k.rt, k.bk, k.ct⟩⟩
theorem ls_expr (he : LE X sub Γ E e e') (hs : swapsWith e none pos.line X.env = pure false) : LS X sub Γ E (.Expr e pos) (.expr e') := by
  refine PSw (ps_expr he hs) ?_
  rintro D σ H ⟨ρ, h, τ, N, R, L, w, k⟩
  erw [Z.wpS] at w
  exact ⟨ρ, h, τ, _, R, L, w, fun d h1 ρ1 H1 v e1 R1 r1 w1 => k.nx τ h1 ρ1 H1 σ e1 R1 (L.mono e1) w1⟩
theorem ls_ret (he : LE X sub Γ E e e') : LS X sub Γ E (.Return (some e) pos) (.ret e') := by
  refine PSw (ps_ret he) ?_
  rintro D σ H ⟨ρ, h, τ, N, R, L, w, k⟩
  erw [Z.wpS] at w
  exact ⟨ρ, h, τ, _, R, L, w, fun d h1 ρ1 H1 v e1 R1 r1 w1 => k.rt d h1 ρ1 H1 v e1 R1 r1 w1⟩
theorem ls_asg (hN : X.N.Nodup) (hi : X.N[i]? = some x) (hx : Loc X.env.scope x) (he : LE X sub Γ E e e') (hs : swapsWith e (some (.Name x pos')) pos.line X.env = pure false) (hf : X.fn x = true ∨ X.env.scope.names.lookup x = some .local) : LS X sub Γ E (.Assign [.Name x pos'] e pos) (.asg i e') := by
  refine PSw (ps_set hN hi hx he hs hf) ?_
  rintro D σ H ⟨ρ, h, τ, N, R, L, w, k⟩
  erw [Z.wpS] at w
  exact ⟨ρ, h, τ, _, R, L, w, fun d h1 ρ1 H1 v e1 R1 r1 w1 => k.nx _ h1 ρ1 H1 _ e1 R1 ((L.mono e1).set r1) w1⟩
theorem ls_if (hc : LT X sub Γ E c c') (ha : LSs X sub Γ E a a') (hb : LSs X sub Γ E b b') : LS X sub Γ E (.If c a b pos) (.ife c' a' b') := by
  refine PSw (ps_if hc ha hb) ?_
  rintro D σ H ⟨ρ, h, τ, N, R, L, w, k⟩
  erw [Z.wpS] at w
  refine ⟨ρ, h, τ, _, R, L, w, fun c h1 ρ1 H1 e1 R1 w1 => ?_⟩
  cases c with
  | true => rw [if_pos rfl] at w1 ⊢; exact ⟨ρ1, h1, τ, N, R1, L.mono e1, w1, k.mono e1⟩
  | false => rw [if_neg (by decide)] at w1 ⊢; exact ⟨ρ1, h1, τ, N, R1, L.mono e1, w1, k.mono e1⟩
theorem ls_while (hp : PassesOwn (model X.prog X.w) X.A X.env X.xe) (hc : LT X sub Γ E c c') (hb : LSs X sub Γ E body b') : LS X sub Γ E (.While c body [] pos) (.whil c' b') := by
  refine PSw (ps_while hp hc hb) ?_
  rintro D σ H ⟨ρ, h, τ, N, R, L, w, k⟩
  erw [Z.wpS] at w
  obtain ⟨W, ⟨m, w0⟩, turn⟩ := w
  refine ⟨fun m σ' H' => ∃ ρ' h' τ', Ext X.K ρ H ρ' H' ∧ Rep X.K ρ' h' H' ∧ RelL X.K ρ' H' τ' σ' ∧ W m τ' h', ⟨m, ρ, h, τ, .refl, R, L, w0⟩, ?_⟩
  rintro m σ1 H1 ⟨ρ1, h1, τ1, e1, R1, L1, w1⟩
  refine ⟨ρ1, h1, τ1, _, R1, L1, turn m τ1 h1 w1, fun c h2 ρ2 H2 e2 R2 w2 => ?_⟩
  cases c with
  | false => rw [if_neg (by decide)] at w2 ⊢; exact k.nx τ1 h2 ρ2 H2 σ1 (e1.trans e2) R2 (L1.mono e2) w2
  | true =>
    rw [if_pos rfl] at w2 ⊢
    obtain ⟨Nn, hN, w2⟩ := w2
    refine ⟨fun σ' H' => ∃ m', m' < m ∧ ∃ ρ' h' τ', Ext X.K ρ H ρ' H' ∧ Rep X.K ρ' h' H' ∧ RelL X.K ρ' H' τ' σ' ∧ W m' τ' h', fun σ' H' q => q, ρ2, h2, τ1, _, R2, L1.mono e2, w2, ⟨?_, ?_, ?_, ?_⟩⟩
    · intro τ3 h3 ρ3 H3 σ3 e3 R3 L3 w3
      obtain ⟨m', hm, w3⟩ := hN _ _ w3
      exact ⟨m', hm, ρ3, h3, τ3, e1.trans (e2.trans e3), R3, L3, w3⟩
    · intro d h3 ρ3 H3 v e3 R3 r3 w3
      exact k.rt d h3 ρ3 H3 v (e1.trans (e2.trans e3)) R3 r3 w3
    · intro τ3 h3 ρ3 H3 σ3 e3 R3 L3 w3
      exact k.nx τ3 h3 ρ3 H3 σ3 (e1.trans (e2.trans e3)) R3 L3 w3
    · intro τ3 h3 ρ3 H3 σ3 e3 R3 L3 w3
      obtain ⟨m', hm, w3⟩ := hN _ _ w3
      exact ⟨m', hm, ρ3, h3, τ3, e1.trans (e2.trans e3), R3, L3, w3⟩
def ItOk (K : Frag) (ρ0 : List Addr) (H0 : Hp) (J : Z.It) (J' : L2.It) : Prop := ∀ (i : Nat) (ρ : List Addr) (h : Z.AH) (H : Hp), Ext K ρ0 H0 ρ H → Rep K ρ h H →
  match J i h with
  | some (some d) => J'.go i H ∧ ∀ x H', J'.yld i H x H' → Ext K ρ H ρ H' ∧ Rep K ρ h H' ∧ RelD K ρ H' d x
  | some none => J'.stop i H
  | none => True
theorem it_same {K : Frag} {ρ : List Addr} {h : Z.AH} {H H' : Hp} {d : Z.D} {x : V} (R : Rep K ρ h H) (e : H' = H) (r : RelD K ρ H d x) : Ext K ρ H ρ H' ∧ Rep K ρ h H' ∧ RelD K ρ H' d x := by
  subst e; exact ⟨.refl, R, r⟩
def upI (K : Frag) (kd : Z.IK) (w : Z.Lo → Z.AH → (List Z.D → Z.AH → Prop) → Prop) : TI := fun σ H R => ∃ ρ h τ Q', Rep K ρ h H ∧ RelL K ρ H τ σ ∧ w τ h Q' ∧
  ∀ ds h' ρ' H' vs, Ext K ρ H ρ' H' → Rep K ρ' h' H' → RelDs K ρ' H' ds vs → Q' ds h' → ∃ J, Z.iterOf kd ds h' = some J ∧ ∀ J', ItOk K ρ' H' J J' → R J' H'
abbrev LI (X : Cx) (sub : Nat → Nat → Bool) (Γ : Z.Gam) (E : Z.PX) (tg iter : Expr) (kd : Z.IK) (es : Z.Exs) : Prop := PI X tg iter (upI X.K kd (Z.wpEs sub Γ E es))
theorem PIw (h : PI X tg iter t) (w : ∀ σ H R, t' σ H R → t σ H R) : PI X tg iter t' := fun pins s σ H R I q => h pins s σ H R I (w _ _ _ q)
theorem pi_seq (hl : PE X l tl) : PI X tg l (fun σ H R => tl σ H fun x H1 => ∃ a, x = .ref a ∧ (((∃ xs, SqL X.K H1 a xs) ∧ R (Itl X.K a) H1) ∨ ((∃ xs, SqT X.K H1 a xs) ∧ R (Itt X.K a) H1))) := by
  intro pins s σ H R I h
  refine thn (hl pins s σ H _ I h) fun v s1 ⟨x, H1, I1, r1, q1⟩ => ?_
  obtain ⟨a, e, ⟨⟨xs, hq⟩, q⟩ | ⟨⟨xs, hq⟩, q⟩⟩ := q1
  · subst e
    cases r1
    obtain ⟨its, rv, p, hz⟩ := I1.list hq
    refine wpAny_pyIter_list p.isList ?_
    refine ⟨s1.heap.objs.size, [s1.heap.objs.size], _, _, H1, rfl, I1.kept (t' := s1.toks) fun b o e => get?_push_of_some _ e, turn_list a _, ⟨_, get?_push_size _ rfl, rfl, rfl⟩, fun b hb => ?_, q⟩
    have e : b = s1.heap.objs.size := by simpa using hb
    subst e
    exact I1.fpOk (le_refl _) (I1.hok.fresh (le_refl _))
  · subst e
    cases r1
    obtain ⟨its, rv, p, hz⟩ := I1.tuple hq
    refine wpAny_pyIter_tuple (show s1.heap.IsTuple a its.toArray from p) ?_
    refine ⟨s1.heap.objs.size, [s1.heap.objs.size], _, _, H1, rfl, I1.kept (t' := s1.toks) fun b o e => get?_push_of_some _ e, turn_tuple a _, ⟨_, get?_push_size _ rfl, rfl, rfl⟩, fun b hb => ?_, q⟩
    have e : b = s1.heap.objs.size := by simpa using hb
    subst e
    exact I1.fpOk (le_refl _) (I1.hok.fresh (le_refl _))
theorem itOk_list {K : Frag} {ρ : List Addr} {H : Hp} {n : Nat} {a : Addr} (hn : ρ[n]? = some a) : ItOk K ρ H (Z.itList n) (Itl K a) := by
  intro i ρ1 h1 H1 e1 R1
  have hn1 := e1.pre _ _ hn
  unfold Z.itList
  cases e : h1[n]? with
  | none => trivial
  | some o =>
    cases o with
    | lst xs =>
      obtain ⟨b, eb, ys, e2, rs⟩ := R1.at_ n _ e
      rw [hn1] at eb; cases eb
      dsimp only
      cases q : xs[i]? with
      | none =>
        refine ⟨ys, .of e2, ?_⟩
        rw [← rs.length]
        exact List.getElem?_eq_none_iff.mp q
      | some d =>
        obtain ⟨y, q1, q2⟩ := rs.get q
        refine ⟨⟨ys, y, .of e2, q1⟩, fun x H' hy => ?_⟩
        obtain ⟨eH, hy⟩ := hy
        have := hy ys (.of e2)
        rw [q1] at this; cases this
        exact it_same R1 eH q2
    | _ => trivial
theorem itOk_xs {K : Frag} {ρ : List Addr} {H : Hp} {a : Addr} {xs : List Z.D} {ys : List V} (q : SqF K H a ys) (r : RelDs K ρ H xs ys) : ItOk K ρ H (Z.itXs xs) (Itl K a) := by
  intro i ρ1 h1 H1 e1 R1
  have q' := (e1.sqF q).sqL
  have r' := RelDs.mono e1 _ _ r
  unfold Z.itXs
  cases e : xs[i]? with
  | none => exact ⟨ys, q', by rw [← r.length]; exact List.getElem?_eq_none_iff.mp e⟩
  | some d =>
    obtain ⟨y, q1, q2⟩ := r'.get e
    refine ⟨⟨ys, y, q', q1⟩, fun x H' hy => ?_⟩
    have := hy.2 ys q'
    rw [q1] at this; cases this
    exact it_same R1 hy.1 q2
theorem itOk_tup {K : Frag} {ρ : List Addr} {H : Hp} {a : Addr} {xs : List Z.D} {ys : List V} (q : SqT K H a ys) (r : RelDs K ρ H xs ys) : ItOk K ρ H (Z.itXs xs) (Itt K a) := by
  intro i ρ1 h1 H1 e1 R1
  have q' := e1.sqT q
  have r' := RelDs.mono e1 _ _ r
  unfold Z.itXs
  cases e : xs[i]? with
  | none => exact ⟨ys, q', by rw [← r.length]; exact List.getElem?_eq_none_iff.mp e⟩
  | some d =>
    obtain ⟨y, q1, q2⟩ := r'.get e
    refine ⟨⟨ys, y, q', q1⟩, fun x H' hy => ?_⟩
    have := hy.2 ys q'
    rw [q1] at this; cases this
    exact it_same R1 hy.1 q2
theorem itOk_rng {K : Frag} {ρ : List Addr} {H : Hp} {lo : Int} {n : Nat} : ItOk K ρ H (Z.itRng lo n) (Itr lo n) := by
  intro i ρ1 h1 H1 e1 R1
  unfold Z.itRng
  by_cases hi : i < n
  · rw [if_pos hi]
    refine ⟨hi, fun x H' hy => it_same R1 hy.1 ?_⟩
    erw [RelD]
    exact hy.2
  · rw [if_neg hi]
    exact Nat.le_of_not_lt hi
theorem li_val (hl : LE X sub Γ E l e') : LI X sub Γ E tg l .val (.cons e' .nil) := by
  refine PIw (pi_seq hl) ?_
  rintro σ H Rr ⟨ρ, h, τ, Q', R, L, w, k⟩
  erw [Z.wpEs] at w
  refine ⟨ρ, h, τ, _, R, L, w, fun d h1 ρ1 H1 x e1 R1 r1 w1 => ?_⟩
  obtain ⟨J, eJ, hk⟩ := k [d] h1 ρ1 H1 [x] e1 R1 (.one r1) w1
  cases d with
  | str s => cases eJ
  | tup xs =>
    cases eJ
    erw [RelD] at r1
    obtain ⟨a, ys, rfl, q, rs⟩ := r1
    exact ⟨a, rfl, .inr ⟨⟨ys, q⟩, hk _ (itOk_tup q rs)⟩⟩
  | rol xs =>
    cases eJ
    erw [RelD] at r1
    obtain ⟨a, ys, rfl, q, rs⟩ := r1
    exact ⟨a, rfl, .inl ⟨⟨ys, q.sqL⟩, hk _ (itOk_xs q rs)⟩⟩
  | ref n =>
    erw [RelD] at r1
    obtain ⟨a, rfl, q⟩ := r1
    erw [Z.iterOf, Z.ioV, Z.ioR, Z.ioE, Z.ioZ, Z.ioB] at eJ
    cases e : h1[n]? with
    | none => rw [e] at eJ; cases eJ
    | some o =>
      rw [e] at eJ
      cases o with
      | lst xs =>
        cases eJ
        obtain ⟨b, eb, ys, e2, rs⟩ := R1.at_ n _ e
        rw [q] at eb; cases eb
        exact ⟨a, rfl, .inl ⟨⟨ys, .of e2⟩, hk _ (itOk_list q)⟩⟩
      | _ => cases eJ
  | non => cases eJ
  | bl _ => cases eJ
  | int _ => cases eJ
theorem okR_of (h : Z.okR i = true) : -(2 ^ 62) ≤ i ∧ i < 2 ^ 62 := by have := Z.okR_iff.mp h; lia
theorem li_rng1 (hg : Gl X "range") (hm : X.mg "range" = none) (ha : LA X sub Γ E [a] (.cons a' .nil)) (hs : starEach [a] X.env = [(false, eval a X.env)]) : LI X sub Γ E tg (.Call (.Name "range" p) [a] [] pos) .rng (.cons a' .nil) := by
  refine PIw (pi_range1 hg hm ha hs) ?_
  rintro σ H Rr ⟨ρ, h, τ, Q', R, L, w, k⟩
  refine ⟨ρ, h, τ, fun ds h1 => match ds with | [d] => Q' [d] h1 | _ => False, R, L, (by simpa only [Z.wpEs] using w), fun ds h1 ρ1 H1 vs e1 R1 r1 w1 => ?_⟩
  match ds, w1, r1 with
  | [d], w1, r1 =>
    obtain ⟨J, eJ, hk⟩ := k [d] h1 ρ1 H1 vs e1 R1 r1 w1
    erw [RelDs] at r1
    obtain ⟨v, _, rfl, r1, rfl⟩ := r1
    cases d with
    | int i =>
      erw [Z.iterOf, Z.ioV, Z.ioR, Z.ioE, Z.ioZ, Z.ioB] at eJ
      split at eJ
      · rename_i hi
        cases eJ
        erw [RelD] at r1
        subst r1
        exact ⟨i, rfl, (okR_of hi).1, (okR_of hi).2, hk _ itOk_rng⟩
      · cases eJ
    | _ => erw [Z.iterOf, Z.ioV, Z.ioR, Z.ioE, Z.ioZ, Z.ioB] at eJ; cases eJ
  | [], w1, _ => exact w1.elim
  | _ :: _ :: _, w1, _ => exact w1.elim
theorem ls_for {tg : Expr} (hp : PassesOwn (model X.prog X.w) X.A X.env X.xe) (hc : X.calm = true) (hN : X.N.Nodup) (hi : X.N[i]? = some x) (hx : Loc X.env.scope x) (hf : X.fn x = true ∨ X.env.scope.names.lookup x = some .local) (hit : LI X sub Γ E (.Name x tpos) iter kd src) (hb : LSs X sub Γ E body b') (hs : ∀ x, foldedSetIterable iter X.env x = pure x) : LS X sub Γ E (.For (.Name x tpos) iter body [] pos) (.forr [i] kd src b') := by
  refine PSw (ps_for hp hc hit (pg_name hN hi hx hf) hb hs) ?_
  rintro D σ H ⟨ρ, h, τ, N, R, L, w, k⟩
  erw [Z.wpS] at w
  refine ⟨ρ, h, τ, _, R, L, w, fun ds h1 ρ1 H1 vs e1 R1 r1 w1 => ?_⟩
  cases eJ : Z.iterOf kd ds h1 with
  | none => rw [eJ] at w1; exact w1.elim
  | some J =>
    rw [eJ] at w1
    refine ⟨J, rfl, fun J' hJ => ?_⟩
    obtain ⟨W, ⟨m, w0⟩, turn⟩ := w1
    refine ⟨fun i m σ' H' => ∃ ρ' h' τ', Ext X.K ρ1 H1 ρ' H' ∧ Rep X.K ρ' h' H' ∧ RelL X.K ρ' H' τ' σ' ∧ W i m τ' h', ⟨m, ρ1, h1, τ, .refl, R1, L.mono e1, w0⟩, ?_⟩
    rintro n m σ2 H2 ⟨ρ2, h2, τ2, e2, R2, L2', w2⟩
    have t := turn n m τ2 h2 w2
    have j := hJ n ρ2 h2 H2 e2 R2
    cases ev : J n h2 with
    | none => rw [ev] at t; exact t.elim
    | some o =>
      rw [ev] at t j
      cases o with
      | none => exact .inl ⟨j, k.nx τ2 h2 ρ2 H2 σ2 (e1.trans e2) R2 L2' t⟩
      | some d =>
        obtain ⟨go, yl⟩ := j
        have hbd : Z.bindT [i] d τ2 = some (τ2.set i (some d)) := by cases d <;> rfl
        erw [hbd] at t
        obtain ⟨Nn, hNn, t⟩ := t
        refine .inr ⟨go, fun σ' H' => ∃ m', m' < m ∧ ∃ ρ' h' τ', Ext X.K ρ1 H1 ρ' H' ∧ Rep X.K ρ' h' H' ∧ RelL X.K ρ' H' τ' σ' ∧ W (n + 1) m' τ' h', fun σ' H' q => q, fun v H' hy => ?_⟩
        obtain ⟨eX, R2, rv⟩ := yl v H' hy
        have e2 := e2.trans eX
        have L2' := L2'.mono eX
        refine ⟨ρ2, h2, τ2.set i (some d), _, R2, L2'.set rv, t, ⟨?_, ?_, ?_, ?_⟩⟩
        · intro τ3 h3 ρ3 H3 σ3 e3 R3 L3 w3
          obtain ⟨m', hm, w3⟩ := hNn _ _ w3
          exact ⟨m', hm, ρ3, h3, τ3, e2.trans e3, R3, L3, w3⟩
        · intro d h3 ρ3 H3 v e3 R3 r3 w3
          exact k.rt d h3 ρ3 H3 v (e1.trans (e2.trans e3)) R3 r3 w3
        · intro τ3 h3 ρ3 H3 σ3 e3 R3 L3 w3
          exact k.nx τ3 h3 ρ3 H3 σ3 (e1.trans (e2.trans e3)) R3 L3 w3
        · intro τ3 h3 ρ3 H3 σ3 e3 R3 L3 w3
          obtain ⟨m', hm, w3⟩ := hNn _ _ w3
          exact ⟨m', hm, ρ3, h3, τ3, e2.trans e3, R3, L3, w3⟩
end
section
variable {X : Cx} {pins : List (Addr × Obj)} {σ : L2.St} {H : Hp} {s : Shared} {ρ : List Addr} {h : Z.AH}
theorem str_beqA (a b : List Nat) : ((⟨a.toArray⟩ : Str) == ⟨b.toArray⟩) = (a == b) := by
  by_cases e : a = b
  · subst e; simp
  · have : ¬ ((⟨a.toArray⟩ : Str) = ⟨b.toArray⟩) := fun q => e (by injection q with q; exact (toArray_inj q))
    rw [beq_eq_false_iff_ne.mpr this, beq_eq_false_iff_ne.mpr e]
theorem relCons' {K : Frag} {ρ : List Addr} {H : Hp} {ds : List Z.D} {x : V} {xs : List V} (r : RelDs K ρ H ds (x :: xs)) : ∃ d ds', ds = d :: ds' ∧ RelD K ρ H d x ∧ RelDs K ρ H ds' xs := by
  cases ds with
  | nil => erw [RelDs] at r; cases r
  | cons d ds =>
    erw [RelDs] at r
    obtain ⟨y, t, e, r1, r2⟩ := r
    cases e
    exact ⟨d, ds, rfl, r1, r2⟩
theorem relNil' {K : Frag} {ρ : List Addr} {H : Hp} {ds : List Z.D} (r : RelDs K ρ H ds []) : ds = [] := by
  cases ds with
  | nil => rfl
  | cons _ _ => erw [RelDs] at r; obtain ⟨_, _, e, _⟩ := r; cases e
theorem noK (I : Inv X pins σ H s) (e : X.K.lookup a = some o) (e' : H a = some u) : False := by
  have := (I.bs a o (I.mod.kin a o e)).2
  rw [e'] at this; cases this
theorem tup_tracked (I : Inv X pins σ H s) (R : Rep X.K ρ h H) {n : Nat} {a : Addr} {ys : List V} (e : ρ[n]? = some a) (q : SqT X.K H a ys) : False := by
  have hn : n < h.length := by rw [← R.len]; exact (List.getElem?_eq_some_iff.mp e).1
  obtain ⟨b, e1, r⟩ := R.at_ n h[n] (by simp [hn])
  rw [e] at e1; cases e1
  have nt : (∀ xs, H a ≠ some (.tup xs)) ∧ (∀ o xs, H a ≠ some (.frz o (.tup xs))) ∧ ∃ u, H a = some u := by
    cases ho : h[n] with
    | lst xs => rw [ho] at r; obtain ⟨ys, q, _⟩ := r; rw [q]; exact ⟨(fun _ z => by cases z), (fun _ _ z => by cases z), _, rfl⟩
    | dct xs => rw [ho] at r; obtain ⟨ys, q, _⟩ := r; rw [q]; exact ⟨(fun _ z => by cases z), (fun _ _ z => by cases z), _, rfl⟩
    | obj _ _ => rw [ho] at r; obtain ⟨C, dx, fs', _, q, _⟩ := r; rw [q]; exact ⟨(fun _ z => by cases z), (fun _ _ z => by cases z), _, rfl⟩
    | exc _ => rw [ho] at r; obtain ⟨C, oe, _, q, _⟩ := r; rw [q]; exact ⟨(fun _ z => by cases z), (fun _ _ z => by cases z), _, rfl⟩
    | excR _ _ => rw [ho] at r; obtain ⟨C, oe, dx, od, _, q, _⟩ := r; rw [q]; exact ⟨(fun _ z => by cases z), (fun _ _ z => by cases z), _, rfl⟩
  obtain ⟨n1, n2, u, hu⟩ := nt
  rcases q with (q | ⟨o, q⟩) | ⟨o, _, _, q, _⟩
  · exact n1 _ q
  · exact n2 _ _ q
  · exact noK I q hu
theorem rol_tracked (I : Inv X pins σ H s) (R : Rep X.K ρ h H) {n : Nat} {a : Addr} {ys : List V} (e : ρ[n]? = some a) (q : SqF X.K H a ys) : False := by
  have hn : n < h.length := by rw [← R.len]; exact (List.getElem?_eq_some_iff.mp e).1
  obtain ⟨b, e1, r⟩ := R.at_ n h[n] (by simp [hn])
  rw [e] at e1; cases e1
  have nt : (∀ o xs, H a ≠ some (.frz o (.lst xs))) ∧ ∃ u, H a = some u := by
    cases ho : h[n] with
    | lst xs => rw [ho] at r; obtain ⟨ys, q, _⟩ := r; rw [q]; exact ⟨(fun _ _ z => by cases z), _, rfl⟩
    | dct xs => rw [ho] at r; obtain ⟨ys, q, _⟩ := r; rw [q]; exact ⟨(fun _ _ z => by cases z), _, rfl⟩
    | obj _ _ => rw [ho] at r; obtain ⟨C, dx, fs', _, q, _⟩ := r; rw [q]; exact ⟨(fun _ _ z => by cases z), _, rfl⟩
    | exc _ => rw [ho] at r; obtain ⟨C, oe, _, q, _⟩ := r; rw [q]; exact ⟨(fun _ _ z => by cases z), _, rfl⟩
    | excR _ _ => rw [ho] at r; obtain ⟨C, oe, dx, od, _, q, _⟩ := r; rw [q]; exact ⟨(fun _ _ z => by cases z), _, rfl⟩
  obtain ⟨n2, u, hu⟩ := nt
  rcases q with ⟨o, q⟩ | ⟨o, _, _, q, _⟩
  · exact n2 _ _ q
  · exact noK I q hu
theorem tup_rol (I : Inv X pins σ H s) (q : SqT X.K H a ys) (q' : SqF X.K H a zs) : False := by
  rcases q with (q | ⟨o, q⟩) | ⟨o, _, _, q, c, _⟩ <;> rcases q' with ⟨o', q'⟩ | ⟨o', _, _, q', c', _⟩
  · rw [q] at q'; cases q'
  · exact noK I q' q
  · rw [q] at q'; cases q'
  · exact noK I q' q
  · exact noK I q q'
  · rw [q] at q'; cases q'
    rw [c] at c'
    exact absurd c' (by decide)
mutual
theorem RelD.inj (I : Inv X pins σ H s) (R : Rep X.K ρ h H) : ∀ (d d' : Z.D) (v : V), RelD X.K ρ H d v → RelD X.K ρ H d' v → d = d'
  | .non, d', v, r, r' => by
    erw [RelD] at r; subst r
    cases d' <;> erw [RelD] at r' <;> first | rfl | (cases r'; done) | (obtain ⟨r', _⟩ := r'; cases r'; done) | (obtain ⟨_, _, r', _⟩ := r'; cases r'; done) | (obtain ⟨_, r', _⟩ := r'; cases r'; done)
  | .bl b, d', v, r, r' => by
    erw [RelD] at r; subst r
    cases d' <;> erw [RelD] at r' <;> first | (cases r'; rfl) | (cases r'; done) | (obtain ⟨r', _⟩ := r'; cases r'; done) | (obtain ⟨_, _, r', _⟩ := r'; cases r'; done) | (obtain ⟨_, r', _⟩ := r'; cases r'; done)
  | .int b, d', v, r, r' => by
    erw [RelD] at r; subst r
    cases d' <;> erw [RelD] at r' <;> first | (cases r'; rfl) | (cases r'; done) | (obtain ⟨r', _⟩ := r'; cases r'; done) | (obtain ⟨_, _, r', _⟩ := r'; cases r'; done) | (obtain ⟨_, r', _⟩ := r'; cases r'; done)
  | .str b, d', v, r, r' => by
    erw [RelD] at r; obtain ⟨rfl, _⟩ := r
    cases d' <;> erw [RelD] at r' <;> first | (cases r'; done) | (obtain ⟨r', _⟩ := r'; injection r' with r'; injection r' with r'; rw [toArray_inj r']; done) | (obtain ⟨r', _⟩ := r'; cases r'; done) | (obtain ⟨_, _, r', _⟩ := r'; cases r'; done) | (obtain ⟨_, r', _⟩ := r'; cases r'; done)
  | .tup xs, d', v, r, r' => by
    erw [RelD] at r; obtain ⟨a, ys, rfl, q, rs⟩ := r
    cases d' with
    | tup xs' =>
      erw [RelD] at r'
      obtain ⟨a', ys', e, q', rs'⟩ := r'
      cases e
      have := I.tuple_inj q q'
      subst this
      rw [RelDs.inj I R xs xs' ys rs rs']
    | rol xs' => erw [RelD] at r'; obtain ⟨a', ys', e, q', rs'⟩ := r'; cases e; exact (tup_rol I q q').elim
    | ref n => erw [RelD] at r'; obtain ⟨a', e, q'⟩ := r'; cases e; exact (tup_tracked I R q' q).elim
    | non => erw [RelD] at r'; cases r'
    | bl _ => erw [RelD] at r'; cases r'
    | int _ => erw [RelD] at r'; cases r'
    | str _ => erw [RelD] at r'; cases r'.1
  | .rol xs, d', v, r, r' => by
    erw [RelD] at r; obtain ⟨a, ys, rfl, q, rs⟩ := r
    cases d' with
    | rol xs' =>
      erw [RelD] at r'
      obtain ⟨a', ys', e, q', rs'⟩ := r'
      cases e
      have := I.list_inj q.sqL q'.sqL
      subst this
      rw [RelDs.inj I R xs xs' ys rs rs']
    | tup xs' => erw [RelD] at r'; obtain ⟨a', ys', e, q', rs'⟩ := r'; cases e; exact (tup_rol I q' q).elim
    | ref n => erw [RelD] at r'; obtain ⟨a', e, q'⟩ := r'; cases e; exact (rol_tracked I R q' q).elim
    | non => erw [RelD] at r'; cases r'
    | bl _ => erw [RelD] at r'; cases r'
    | int _ => erw [RelD] at r'; cases r'
    | str _ => erw [RelD] at r'; cases r'.1
  | .ref n, d', v, r, r' => by
    erw [RelD] at r; obtain ⟨a, rfl, q⟩ := r
    cases d' with
    | ref m => erw [RelD] at r'; obtain ⟨a', e, q'⟩ := r'; cases e; rw [nodup_inj R.nd q q']
    | rol xs' => erw [RelD] at r'; obtain ⟨a', ys', e, q', rs'⟩ := r'; cases e; exact (rol_tracked I R q q').elim
    | tup xs' => erw [RelD] at r'; obtain ⟨a', ys', e, q', rs'⟩ := r'; cases e; exact (tup_tracked I R q q').elim
    | non => erw [RelD] at r'; cases r'
    | bl _ => erw [RelD] at r'; cases r'
    | int _ => erw [RelD] at r'; cases r'
    | str _ => erw [RelD] at r'; cases r'.1
theorem RelDs.inj (I : Inv X pins σ H s) (R : Rep X.K ρ h H) : ∀ (d d' : List Z.D) (v : List V), RelDs X.K ρ H d v → RelDs X.K ρ H d' v → d = d'
  | [], d', v, r, r' => by erw [RelDs] at r; subst r; exact (relNil' r').symm
  | x :: xs, d', v, r, r' => by
    erw [RelDs] at r
    obtain ⟨y, t, rfl, q, rs⟩ := r
    obtain ⟨x', xs', rfl, q', rs'⟩ := relCons' r'
    rw [RelD.inj I R x x' y q q', RelDs.inj I R xs xs' t rs rs']
end
theorem eqZ_self (hf : ∀ x b, f x x = some b → b = true) : ∀ (xs : List Z.D) (b : Bool), Z.eqZ f xs xs = some b → b = true
  | [], b, e => by cases e; rfl
  | x :: xs, b, e => by
    erw [Z.eqZ] at e
    split at e
    · rename_i a c ea ec
      cases e
      rw [hf _ _ ea, eqZ_self hf _ _ ec]; rfl
    · cases e
theorem eqN_self : ∀ (n : Nat) (d : Z.D) (b : Bool), Z.eqN n d d = some b → b = true := by
  intro n
  induction n with
  | zero => intro d b e; cases d <;> cases e <;> simp
  | succ n ih =>
    intro d b e
    cases d with
    | tup xs => exact eqZ_self ih xs b e
    | _ => cases e <;> simp
theorem eqZ_get : ∀ {xs ys : List Z.D} {b : Bool}, Z.eqZ f xs ys = some b → ∃ e : Nat → Bool, (∀ (j : Nat) x y, xs[j]? = some x → ys[j]? = some y → f x y = some (e j)) ∧ b = ((List.range (min xs.length ys.length)).all e && xs.length == ys.length) := by
  intro xs
  induction xs with
  | nil =>
    intro ys b h
    cases ys with
    | nil => erw [Z.eqZ] at h; cases h; exact ⟨fun _ => true, fun j x y h => by simp at h, by simp⟩
    | cons _ _ => erw [Z.eqZ] at h; cases h; exact ⟨fun _ => true, fun j x y h => by simp at h, by simp⟩
  | cons x xs ih =>
    intro ys b h
    cases ys with
    | nil => erw [Z.eqZ] at h; cases h; exact ⟨fun _ => true, fun j x y h h' => by simp at h', by simp⟩
    | cons y ys =>
      erw [Z.eqZ] at h
      split at h
      · rename_i a c ea ec
        cases h
        obtain ⟨e, h1, h2⟩ := ih ec
        refine ⟨fun j => match j with | 0 => a | j + 1 => e j, fun j x' y' hx hy => ?_, ?_⟩
        · cases j with
          | zero => simp at hx hy; subst hx hy; exact ea
          | succ j => exact h1 j x' y' (by simpa using hx) (by simpa using hy)
        · rw [h2, length_cons, length_cons, Nat.succ_min_succ, List.range_succ_eq_map, all_cons, List.all_map, Bool.and_assoc]
          have hl : (xs.length == ys.length) = (xs.length + 1 == ys.length + 1) := by
            by_cases hl : xs.length = ys.length <;> simp [hl]
          rw [hl]
          rfl
      · cases h
theorem items_at {A : Around} {xs xs' : List Z.D} {ys ys' : List V} {its its' : List Value} {f : Z.D → Z.D → Option Bool} {e : Nat → Bool} (r : RelDs X.K ρ H xs ys) (r' : RelDs X.K ρ H xs' ys') (v : Vals ys its) (v' : Vals ys' its') (he : ∀ (j : Nat) x y, xs[j]? = some x → xs'[j]? = some y → f x y = some (e j)) (hf : ∀ x x' y y' u u' b, RelD X.K ρ H x y → RelD X.K ρ H x' y' → RelV y u → RelV y' u' → f x x' = some b → SeqAt.EqAt A s u u' b) :
    ∀ j (h1 : j < its.toArray.size) (h2 : j < its'.toArray.size), SeqAt.EqAt A s its.toArray[j] its'.toArray[j] (e j) := by
  intro j h1 h2
  have l1 : j < xs.length := by rw [r.length, v.length]; simpa using h1
  have l2 : j < xs'.length := by rw [r'.length, v'.length]; simpa using h2
  obtain ⟨y, ey, ry⟩ := r.get (i := j) (x := xs[j]) (by simp [l1])
  obtain ⟨y', ey', ry'⟩ := r'.get (i := j) (x := xs'[j]) (by simp [l2])
  obtain ⟨u, eu, ru⟩ := v.get ey
  obtain ⟨u', eu', ru'⟩ := v'.get ey'
  have a1 : its.toArray[j] = u := by
    have : its[j]? = some its[j] := by simp
    rw [this] at eu; cases eu; simp
  have a2 : its'.toArray[j] = u' := by
    have : its'[j]? = some its'[j] := by simp
    rw [this] at eu'; cases eu'; simp
  rw [a1, a2]
  exact hf _ _ _ _ _ _ _ ry ry' ru ru' (he j _ _ (by simp [l1]) (by simp [l2]))
def VW (K : Frag) (ρ : List Addr) (H : Hp) (s : Shared) : Z.D → Value → Prop
  | .non, u => u = .none
  | .bl c, u => u = .bool c
  | .int i, u => ∃ t, u = .int i t
  | .str l, u => ∃ t, u = .str ⟨l.toArray⟩ t
  | .tup xs, u => ∃ a ys its, u = .ref a ∧ s.heap.IsTuple a its.toArray ∧ SqT K H a ys ∧ RelDs K ρ H xs ys ∧ Vals ys its
  | _, _ => True
theorem vw_of (I : Inv X pins σ H s) : ∀ {d : Z.D} {v : V} {u : Value}, RelD X.K ρ H d v → RelV v u → VW X.K ρ H s d u
  | .non, v, u, r, q => by erw [RelD] at r; subst r; cases q; rfl
  | .bl c, v, u, r, q => by erw [RelD] at r; subst r; cases q; rfl
  | .int i, v, u, r, q => by erw [RelD] at r; subst r; obtain ⟨t, rfl⟩ := q; exact ⟨t, rfl⟩
  | .str l, v, u, r, q => by erw [RelD] at r; obtain ⟨rfl, _⟩ := r; obtain ⟨t, rfl⟩ := q; exact ⟨t, rfl⟩
  | .tup xs, v, u, r, q => by
    erw [RelD] at r
    obtain ⟨a, ys, rfl, hq, rs⟩ := r
    cases q
    obtain ⟨its, vv, it, _⟩ := I.tuple hq
    exact ⟨a, ys, its, rfl, it, hq, rs, vv⟩
  | .rol _, _, _, _, _ => trivial
  | .ref _, _, _, _, _ => trivial
theorem rc_at {K : Frag} {A : Around} {n : Nat} {u u' : Value} {b : Bool} (hu : A.units < cLine) : ∀ {d d' : Z.D}, VW K ρ H s d u → VW K ρ H s d' u' → Z.eqN n d d' = some b → (∀ xs ys, d = .tup xs → d' ≠ .tup ys) → SeqAt.RcAt A s u u' b ∧ SeqAt.EqAt A s u u' b ∧ SeqAt.RcNeAt A s u u' (!b)
  | .non, .non, V, V', e, _ => by
    have hb : b = true := by cases n <;> cases e <;> rfl
    subst hb; cases V; cases V'; exact ⟨.none_none, .same _, .none_none⟩
  | .non, .bl _, V, V', e, _ => by
    have hb : b = false := by cases n <;> cases e <;> rfl
    subst hb; cases V; cases V'; exact ⟨.none_bool _, .none_bool _, .none_bool _⟩
  | .non, .int _, V, V', e, _ => by
    have hb : b = false := by cases n <;> cases e <;> rfl
    subst hb; cases V; obtain ⟨_, rfl⟩ := V'; exact ⟨.none_int _ _, .none_int _ _, .none_int _ _⟩
  | .non, .str _, V, V', e, _ => by
    have hb : b = false := by cases n <;> cases e <;> rfl
    subst hb; cases V; obtain ⟨_, rfl⟩ := V'; exact ⟨.none_str _ _, .none_str _ _, .none_str _ _⟩
  | .non, .tup _, V, V', e, _ => by
    have hb : b = false := by cases n <;> cases e <;> rfl
    subst hb; cases V; obtain ⟨a, ys, its, rfl, it, _⟩ := V'; exact ⟨.none_tuple it hu, .none_tuple it hu, .none_tuple it hu⟩
  | .bl _, .non, V, V', e, _ => by
    have hb : b = false := by cases n <;> cases e <;> rfl
    subst hb; cases V; cases V'; exact ⟨.bool_none _, .bool_none _, .bool_none _⟩
  | .bl c, .bl c', V, V', e, _ => by
    have hb : b = (c == c') := by cases n <;> cases e <;> rfl
    subst hb; cases V; cases V'; exact ⟨.bool_bool _ _, .bool_bool _ _, .bool_bool _ _⟩
  | .bl _, .int _, _, _, e, _ => by cases n <;> cases e
  | .bl _, .str _, V, V', e, _ => by
    have hb : b = false := by cases n <;> cases e <;> rfl
    subst hb; cases V; obtain ⟨_, rfl⟩ := V'; exact ⟨.bool_str _ _ _, .bool_str _ _ _, .bool_str _ _ _⟩
  | .bl _, .tup _, V, V', e, _ => by
    have hb : b = false := by cases n <;> cases e <;> rfl
    subst hb; cases V; obtain ⟨a, ys, its, rfl, it, _⟩ := V'; exact ⟨.bool_tuple _ it hu, .bool_tuple _ it hu, .bool_tuple _ it hu⟩
  | .int _, .non, V, V', e, _ => by
    have hb : b = false := by cases n <;> cases e <;> rfl
    subst hb; obtain ⟨_, rfl⟩ := V; cases V'; exact ⟨.int_none _ _, .int_none _ _, .int_none _ _⟩
  | .int _, .bl _, _, _, e, _ => by cases n <;> cases e
  | .int c, .int c', V, V', e, _ => by
    have hb : b = (c == c') := by cases n <;> cases e <;> rfl
    subst hb; obtain ⟨_, rfl⟩ := V; obtain ⟨_, rfl⟩ := V'; exact ⟨.int_int _ _ _ _, .int_int _ _ _ _, .int_int _ _ _ _⟩
  | .int _, .str _, V, V', e, _ => by
    have hb : b = false := by cases n <;> cases e <;> rfl
    subst hb; obtain ⟨_, rfl⟩ := V; obtain ⟨_, rfl⟩ := V'; exact ⟨.int_str _ _ _ _, .int_str _ _ _ _, .int_str _ _ _ _⟩
  | .int _, .tup _, V, V', e, _ => by
    have hb : b = false := by cases n <;> cases e <;> rfl
    subst hb; obtain ⟨_, rfl⟩ := V; obtain ⟨a, ys, its, rfl, it, _⟩ := V'; exact ⟨.int_tuple _ _ it hu, .int_tuple _ _ it hu, .int_tuple _ _ it hu⟩
  | .str _, .non, V, V', e, _ => by
    have hb : b = false := by cases n <;> cases e <;> rfl
    subst hb; obtain ⟨_, rfl⟩ := V; cases V'; exact ⟨.str_none _ _, .str_none _ _, .str_none _ _⟩
  | .str _, .bl _, V, V', e, _ => by
    have hb : b = false := by cases n <;> cases e <;> rfl
    subst hb; obtain ⟨_, rfl⟩ := V; cases V'; exact ⟨.str_bool _ _ _, .str_bool _ _ _, .str_bool _ _ _⟩
  | .str _, .int _, V, V', e, _ => by
    have hb : b = false := by cases n <;> cases e <;> rfl
    subst hb; obtain ⟨_, rfl⟩ := V; obtain ⟨_, rfl⟩ := V'; exact ⟨.str_int _ _ _ _, .str_int _ _ _ _, .str_int _ _ _ _⟩
  | .str c, .str c', V, V', e, _ => by
    have hb : b = (c == c') := by cases n <;> cases e <;> rfl
    subst hb; obtain ⟨_, rfl⟩ := V; obtain ⟨_, rfl⟩ := V'; rw [← str_beqA]; exact ⟨.str_str _ _ _ _, .str_str _ _ _ _, .str_str _ _ _ _⟩
  | .str _, .tup _, V, V', e, _ => by
    have hb : b = false := by cases n <;> cases e <;> rfl
    subst hb; obtain ⟨_, rfl⟩ := V; obtain ⟨a, ys, its, rfl, it, _⟩ := V'; exact ⟨.str_tuple _ _ it hu, .str_tuple _ _ it hu, .str_tuple _ _ it hu⟩
  | .tup _, .non, V, V', e, _ => by
    have hb : b = false := by cases n <;> cases e <;> rfl
    subst hb; obtain ⟨a, ys, its, rfl, it, _⟩ := V; cases V'; exact ⟨.tuple_none it hu, .tuple_none it hu, .tuple_none it hu⟩
  | .tup _, .bl _, V, V', e, _ => by
    have hb : b = false := by cases n <;> cases e <;> rfl
    subst hb; obtain ⟨a, ys, its, rfl, it, _⟩ := V; cases V'; exact ⟨.tuple_bool _ it hu, .tuple_bool _ it hu, .tuple_bool _ it hu⟩
  | .tup _, .int _, V, V', e, _ => by
    have hb : b = false := by cases n <;> cases e <;> rfl
    subst hb; obtain ⟨a, ys, its, rfl, it, _⟩ := V; obtain ⟨_, rfl⟩ := V'; exact ⟨.tuple_int _ _ it hu, .tuple_int _ _ it hu, .tuple_int _ _ it hu⟩
  | .tup _, .str _, V, V', e, _ => by
    have hb : b = false := by cases n <;> cases e <;> rfl
    subst hb; obtain ⟨a, ys, its, rfl, it, _⟩ := V; obtain ⟨_, rfl⟩ := V'; exact ⟨.tuple_str _ _ it hu, .tuple_str _ _ it hu, .tuple_str _ _ it hu⟩
  | .tup _, .tup _, _, _, _, z => absurd rfl (z _ _ rfl)
  | .rol _, _, _, _, e, _ => by cases n <;> cases e
  | .ref _, _, _, _, e, _ => by cases n <;> cases e
  | .non, .rol _, _, _, e, _ => by cases n <;> cases e
  | .non, .ref _, _, _, e, _ => by cases n <;> cases e
  | .bl _, .rol _, _, _, e, _ => by cases n <;> cases e
  | .bl _, .ref _, _, _, e, _ => by cases n <;> cases e
  | .int _, .rol _, _, _, e, _ => by cases n <;> cases e
  | .int _, .ref _, _, _, e, _ => by cases n <;> cases e
  | .str _, .rol _, _, _, e, _ => by cases n <;> cases e
  | .str _, .ref _, _, _, e, _ => by cases n <;> cases e
  | .tup _, .rol _, _, _, e, _ => by cases n <;> cases e
  | .tup _, .ref _, _, _, e, _ => by cases n <;> cases e
theorem rc_D (I : Inv X pins σ H s) (R : Rep X.K ρ h H) : ∀ (n : Nat) (A : Around) (d d' : Z.D) (v v' : V) (u u' : Value) (b : Bool), A.units + n < cLine → RelD X.K ρ H d v → RelD X.K ρ H d' v' → RelV v u → RelV v' u' → Z.eqN n d d' = some b →
    SeqAt.RcAt A s u u' b ∧ SeqAt.EqAt A s u u' b ∧ SeqAt.RcNeAt A s u u' (!b) := by
  intro n
  induction n with
  | zero =>
    intro A d d' v v' u u' b hu r r' q q' e
    exact rc_at (by lia) (vw_of I r q) (vw_of I r' q') e fun xs ys z z' => by subst z z'; cases e
  | succ n ih =>
    intro A d d' v v' u u' b hu r r' q q' e
    by_cases z : ∃ xs xs', d = .tup xs ∧ d' = .tup xs'
    · obtain ⟨xs, xs', rfl, rfl⟩ := z
      obtain ⟨a, ys, its, rfl, it, hq, rs, vv⟩ := vw_of I r q
      obtain ⟨a', ys', its', rfl, it', hq', rs', vv'⟩ := vw_of I r' q'
      obtain ⟨ee, h1, h2⟩ := eqZ_get e
      have hlen : its.toArray.size = xs.length := by rw [size_toArray, ← vv.length, ← rs.length]
      have hlen' : its'.toArray.size = xs'.length := by rw [size_toArray, ← vv'.length, ← rs'.length]
      have at' := items_at (A := A.in1) rs rs' vv vv' h1 (fun x x' y y' u u' b hx hx' hy hy' hb => (ih A.in1 x x' y y' u u' b (by show A.units + 1 + n < cLine; lia) hx hx' hy hy' hb).2.1)
      have rc := SeqAt.RcAt.tuples (A := A) it it' (by lia) at'
      have ne := SeqAt.RcNeAt.tuples (A := A) it it' (by lia) at'
      rw [hlen, hlen', ← h2] at rc ne
      refine ⟨rc, ?_, ne⟩
      by_cases ha : a = a'
      · subst ha
        cases I.tuple_inj hq hq'
        cases RelDs.inj I R _ _ _ rs rs'
        have : b = true := eqN_self (n + 1) (.tup xs) b e
        subst this
        exact .same _
      · exact .of_refs ha rc
    · exact rc_at (by lia) (vw_of I r q) (vw_of I r' q') e fun xs ys a b => z ⟨xs, ys, a, b⟩
theorem rcAt_D (I : Inv X pins σ H s) (R : Rep X.K ρ h H) (n : Nat) (A : Around) (d d' : Z.D) (v v' : V) (u u' : Value) (b : Bool) (hu : A.units + n < cLine) (r : RelD X.K ρ H d v) (r' : RelD X.K ρ H d' v') (q : RelV v u) (q' : RelV v' u') (e : Z.eqN n d d' = some b) :
    SeqAt.RcAt A s u u' b ∧ SeqAt.EqAt A s u u' b := let x := rc_D I R n A d d' v v' u u' b hu r r' q q' e; ⟨x.1, x.2.1⟩
end
section
variable {K : Frag} {ρ : List Addr} {h : Z.AH} {H : Hp}
theorem rel1' (r : RelDs K ρ H ds [x]) : ∃ d, ds = [d] ∧ RelD K ρ H d x := by
  cases ds with
  | nil => erw [RelDs] at r; cases r
  | cons d ds =>
    erw [RelDs] at r
    obtain ⟨y, t, e, r1, r2⟩ := r
    cases e
    cases ds with
    | nil => exact ⟨d, rfl, r1⟩
    | cons _ _ => erw [RelDs] at r2; obtain ⟨_, _, e, _⟩ := r2; cases e
theorem rel2' (r : RelDs K ρ H ds [x, y]) : ∃ d e, ds = [d, e] ∧ RelD K ρ H d x ∧ RelD K ρ H e y := by
  obtain ⟨d, ds, rfl, r1, r⟩ := relCons' r
  obtain ⟨e, rfl, r2⟩ := rel1' r
  exact ⟨d, e, rfl, r1, r2⟩
theorem rel3' (r : RelDs K ρ H ds [x, y, z]) : ∃ d e f, ds = [d, e, f] ∧ RelD K ρ H d x ∧ RelD K ρ H e y ∧ RelD K ρ H f z := by
  obtain ⟨d, ds, rfl, r1, r⟩ := relCons' r
  obtain ⟨e, f, rfl, r2, r3⟩ := rel2' r
  exact ⟨d, e, f, rfl, r1, r2, r3⟩
theorem lstAt (R : Rep K ρ h H) (r : RelD K ρ H (.ref n) v) (e : h[n]? = some (.lst xs)) : ∃ a ys, v = .ref a ∧ ρ[n]? = some a ∧ H a = some (.lst ys) ∧ RelDs K ρ H xs ys := by
  erw [RelD] at r
  obtain ⟨a, rfl, q⟩ := r
  obtain ⟨b, e1, ys, e2, rs⟩ := R.at_ n _ e
  rw [q] at e1; cases e1
  exact ⟨a, ys, rfl, q, e2, rs⟩
theorem dctAt (R : Rep K ρ h H) (r : RelD K ρ H (.ref n) v) (e : h[n]? = some (.dct kvs)) : ∃ a kvs', v = .ref a ∧ ρ[n]? = some a ∧ H a = some (.dK kvs') ∧ kvs'.map (·.1) = kvs.map (fun p => kOf p.1) ∧ RelDs K ρ H (kvs.map (·.2)) (kvs'.map (·.2)) ∧ ∀ p ∈ kvs, ∀ s, p.1 = Sum.inr s → s.length ≤ Z.lim := by
  erw [RelD] at r
  obtain ⟨a, rfl, q⟩ := r
  obtain ⟨b, e1, ys, e2, rs⟩ := R.at_ n _ e
  rw [q] at e1; cases e1
  exact ⟨a, ys, rfl, q, e2, rs⟩
theorem newL_inv (e : Z.newL xs h = some (d, h')) : xs.length ≤ Z.lim ∧ d = .ref h.length ∧ h' = h ++ [.lst xs] := by
  unfold Z.newL at e
  split at e
  · cases e; exact ⟨by assumption, rfl, rfl⟩
  · cases e
theorem setL_inv (e : Z.setL n xs v h = some (d, h')) : xs.length ≤ Z.lim ∧ d = v ∧ h' = h.set n (.lst xs) := by
  unfold Z.setL at e
  split at e
  · cases e; exact ⟨by assumption, rfl, rfl⟩
  · cases e
theorem set_list' {xs : List Z.D} (R : Rep K ρ h H) (hn : ρ[n]? = some a) (ha : H a = some (.lst vs)) (r : RelDs K ρ H ys ws) : Ext K ρ H ρ (upd H a (.lst ws)) ∧ Rep K ρ (h.set n (.lst ys)) (upd H a (.lst ws)) := by
  have e : Ext K ρ H ρ (upd H a (.lst ws)) := Ext.write ha (fun _ => by simp) (fun _ _ => by simp)
  exact ⟨e, R.write hn ha (fun _ => by simp) (fun _ _ => by simp) ⟨ws, upd_same, RelDs.mono e _ _ r⟩⟩
theorem strLen (s : List Nat) : (⟨s.toArray⟩ : Str).length = s.length := by
  show s.toArray.size = _
  simp
theorem strApp (s t : List Nat) : (⟨s.toArray⟩ ++ ⟨t.toArray⟩ : Str) = ⟨(s ++ t).toArray⟩ := by
  show Str.mk (s.toArray ++ t.toArray) = _
  simp
end
section
variable {X : Cx} {sub : Nat → Nat → Bool}
theorem o_int2 (hp : Z.prim sub p = Z.pInt2 f) (ho : OpR X op (rI0 fun i j => .int (f i j))) : OpR X op (fun x y => rP X.K sub p [x, y]) := OpRw ho (by
  rintro x y H Q ⟨ρ, h, ds, d, h', R, r, q, k⟩
  obtain ⟨d1, d2, rfl, r1, r2⟩ := rel2' r
  rw [hp] at q
  unfold Z.pInt2 at q
  split at q
  · rename_i e; cases e; cases q
    erw [RelD] at r1 r2
    subst r1 r2
    exact ⟨_, _, rfl, rfl, k ρ H _ .refl R (by erw [RelD])⟩
  · cases q)
theorem o_cmp (hp : Z.prim sub p = Z.pCmp f) (ho : OpR X op (rI0 fun i j => .bl (f i j))) : OpR X op (fun x y => rP X.K sub p [x, y]) := OpRw ho (by
  rintro x y H Q ⟨ρ, h, ds, d, h', R, r, q, k⟩
  obtain ⟨d1, d2, rfl, r1, r2⟩ := rel2' r
  rw [hp] at q
  unfold Z.pCmp at q
  split at q
  · rename_i e; cases e; cases q
    erw [RelD] at r1 r2
    subst r1 r2
    exact ⟨_, _, rfl, rfl, k ρ H _ .refl R (by erw [RelD])⟩
  · cases q)
theorem o_sub : OpR X (binaryOp .Sub) (fun x y => rP X.K sub .sub [x, y]) := o_int2 rfl op_sub
theorem o_lt : OpR X (compareOp .Lt) (fun x y => rP X.K sub .lt [x, y]) := o_cmp rfl op_lt
theorem o_gt : OpR X (compareOp .Gt) (fun x y => rP X.K sub .gt [x, y]) := o_cmp rfl op_gt
theorem o_mod : OpR X (binaryOp .Mod) (fun x y => rP X.K sub .mod [x, y]) := OpRw op_mod (by
  rintro x y H Q ⟨ρ, h, ds, d, h', R, r, q, k⟩
  obtain ⟨d1, d2, rfl, r1, r2⟩ := rel2' r
  change Z.pMod _ _ = _ at q
  unfold Z.pMod at q
  split at q
  · rename_i e; cases e
    split at q
    · cases q
      erw [RelD] at r1 r2
      subst r1 r2
      exact ⟨_, _, rfl, rfl, by assumption, k ρ H _ .refl R (by erw [RelD])⟩
    · cases q
  · cases q)
theorem log2_lt_of (hk : 0 < k) (h : n < 2 ^ k) : n.log2 < k := by
  by_cases z : n = 0
  · subst z; simpa using hk
  · exact (Nat.log2_lt z).mpr h
theorem nat_of_big (h : -2037035976334486086268445688409378161051468393665936250636140449354381299763336706183397376 < i ∧ i < 2037035976334486086268445688409378161051468393665936250636140449354381299763336706183397376) : i.natAbs < 2 ^ 300 := by
  have e : (2 : Nat) ^ 300 = 2037035976334486086268445688409378161051468393665936250636140449354381299763336706183397376 := by decide +kernel
  rw [e]; lia
theorem op_fdivB : OpR X (binaryOp .FloorDiv) (rI (fun _ j => 0 < j ∧ -2037035976334486086268445688409378161051468393665936250636140449354381299763336706183397376 < j ∧ j < 2037035976334486086268445688409378161051468393665936250636140449354381299763336706183397376) fun i j => .int (i / j)) := opI fun i j _ _ _ _ _ hc q => by
  have h1 : (0 : Int) < j := hc.1
  exact floordiv_int (Int.ne_of_gt h1) (by rw [Int.fdiv_eq_ediv_of_nonneg i (Int.le_of_lt h1)]; exact q) (.inl (PyProof.noPylong_of_log2 (Nat.lt_trans (log2_lt_of (by decide) (nat_of_big hc.2)) (by decide))))
theorem bits_of_big (h : -2037035976334486086268445688409378161051468393665936250636140449354381299763336706183397376 < i ∧ i < 2037035976334486086268445688409378161051468393665936250636140449354381299763336706183397376) : Builtin.Int.intBits i ≤ 2 ^ 20 := by
  have := log2_lt_of (by decide) (nat_of_big h)
  unfold Builtin.Int.intBits
  have e : (2 : Nat) ^ 20 = 1048576 := by decide
  rw [e]
  split <;> lia
theorem op_mulB : OpR X (binaryOp .Mult) (rI (fun i j => (-2037035976334486086268445688409378161051468393665936250636140449354381299763336706183397376 < i ∧ i < 2037035976334486086268445688409378161051468393665936250636140449354381299763336706183397376) ∧ (-2037035976334486086268445688409378161051468393665936250636140449354381299763336706183397376 < j ∧ j < 2037035976334486086268445688409378161051468393665936250636140449354381299763336706183397376)) fun i j => .int (i * j)) := opI fun i j _ _ _ _ _ hc q => mul_int q (.of_bits (bits_of_big hc.1) (bits_of_big hc.2))
theorem o_fdiv : OpR X (binaryOp .FloorDiv) (fun x y => rP X.K sub .fdiv [x, y]) := OpRw op_fdivB (by
  rintro x y H Q ⟨ρ, h, ds, d, h', R, r, q, k⟩
  obtain ⟨d1, d2, rfl, r1, r2⟩ := rel2' r
  change Z.pFdiv _ _ = _ at q
  unfold Z.pFdiv at q
  split at q
  · rename_i e; cases e
    split at q
    · rename_i hc
      cases q
      erw [RelD] at r1 r2
      subst r1 r2
      exact ⟨_, _, rfl, rfl, ⟨hc.1, Z.bigI_iff.mp hc.2⟩, k ρ H _ .refl R (by erw [RelD])⟩
    · cases q
  · cases q)
theorem Inv.rolM (I : Inv X pins σ H s) (q : SqF X.K H l xs) : xs.length ≤ sizeLine ∧ ∃ (its : List Value) (n : Nat), Vals xs its ∧ s.heap.get? l = some { cls := .type "list", data := .seq its.toArray n } := by
  rcases q with ⟨o, q⟩ | ⟨o, its, n, h1, h2, h3, h4, h5, h6, h7⟩
  · obtain ⟨z, its, n, r, e⟩ := Rd.ok (.inr ⟨o, q⟩) I.hok
    exact ⟨z, its, n, r, e⟩
  · have := h6.length
    refine ⟨by simp at this; lia, its.toList, n, h6, ?_⟩
    rw [I.kIn l o h1]
    obtain ⟨c, dd, da, sl⟩ := o
    cases h2; cases h3; cases h4; cases h7
    simp
theorem op_catE : OpR X (binaryOp .Add) (fun x y H Q => ∃ a b ys, x = .ref a ∧ y = .ref b ∧ SqT X.K H a [] ∧ SqT X.K H b ys ∧ Q (.ref b) H) := by
  intro pins s σ H x y v u Q I rx ry h
  obtain ⟨a, b, ys, rfl, rfl, ha, hb, q⟩ := h
  cases rx
  cases ry
  obtain ⟨its, r1, p1, _⟩ := I.tuple ha
  obtain ⟨its2, r2, p2, _⟩ := I.tuple hb
  obtain ⟨⟨cls, dd, data, sl⟩, ho, hc, n, hd⟩ := id p1
  obtain ⟨⟨cls2, dd2, data2, sl2⟩, ho2, hc2, n2, hd2⟩ := id p2
  simp only at hc hd hc2 hd2
  subst hc hd hc2 hd2
  cases r1
  exact concat_meets ⟨_, ho, rfl⟩ ⟨_, ho2, rfl⟩ noFill_tuple_add seq_tuple_add slot_tuple_add entry_tuple_add (args_tuple_add_2 _ _)
      (tuple_addW0 a b _ _ n n2 dd dd2 sl sl2 (by simp)) ⟨ho, ho2, ⟨.ref b, H, I, rfl, q⟩⟩
theorem op_catR : OpR X (binaryOp .Add) (fun x y H Q => ∃ l b xs zs, x = .ref l ∧ y = .ref b ∧ H l = some (.lst xs) ∧ SqF X.K H b zs ∧ xs.length + zs.length ≤ sizeLine ∧ ∀ p, H p = none → Q (.ref p) (upd H p (.lst (xs ++ zs)))) := by
  intro pins s σ H x y v u Q I rx ry h
  obtain ⟨l, b, xs, zs, rfl, rfl, hH, hB, hz, q⟩ := h
  cases rx
  cases ry
  obtain ⟨z, its, n, r, hl, e⟩ := I.lstM hH
  obtain ⟨z2, its2, n2, r2, e2⟩ := Inv.rolM I hB
  have hl2 := r2.length
  refine PySem.P.add_list e e2 ?_ (by rw [size_toArray, size_toArray]; lia)
  have ea : its.toArray ++ its2.toArray = (its ++ its2).toArray := by simp
  rw [ea]
  exact ⟨.ref _, _, I.lnew (t' := s.toks) (r.append r2) (by rw [length_append]; lia), rfl, q _ I.fresh⟩
theorem add_ref {h : Z.AH} {a : Nat} {d2 : Z.D} {r : Z.D × Z.AH} (q : Z.prim sub .add [.ref a, d2] h = some r) : ∃ xs ys, h[a]? = some (.lst xs) ∧ ((∃ b, d2 = .ref b ∧ h[b]? = some (.lst ys)) ∨ d2 = .rol ys) ∧ Z.newL (xs ++ ys) h = some r := by
  cases d2 with
  | ref b =>
    change (match h[a]?, h[b]? with | some (.lst xs), some (.lst ys) => Z.newL (xs ++ ys) h | _, _ => none) = _ at q
    cases e1 : h[a]? with
    | none => rw [e1] at q; cases q
    | some o =>
      rw [e1] at q
      cases o with
      | lst xs =>
        cases e2 : h[b]? with
        | none => rw [e2] at q; cases q
        | some o =>
          rw [e2] at q
          cases o with
          | lst ys => exact ⟨xs, ys, rfl, .inl ⟨b, rfl, e2⟩, q⟩
          | _ => cases q
      | _ => cases q
  | rol ys =>
    change (match h[a]? with | some (.lst xs) => Z.newL (xs ++ ys) h | _ => none) = _ at q
    cases e1 : h[a]? with
    | none => rw [e1] at q; cases q
    | some o =>
      rw [e1] at q
      cases o with
      | lst xs => exact ⟨xs, ys, rfl, .inr rfl, q⟩
      | _ => cases q
  | _ => cases q
theorem o_add : OpR X (binaryOp .Add) (fun x y => rP X.K sub .add [x, y]) := by
  intro pins s0 σ H x y v u Q I rx ry ⟨ρ, h, ds, d, h', R, r, q, k⟩
  obtain ⟨d1, d2, rfl, r1, r2⟩ := rel2' r
  cases d1 with
  | int i =>
    cases d2 with
    | int j =>
      cases q
      erw [RelD] at r1 r2
      subst r1 r2
      exact op_add pins s0 σ H _ _ _ _ _ I rx ry ⟨_, _, rfl, rfl, k ρ H _ .refl R (by erw [RelD])⟩
    | _ => cases q
  | str s =>
    cases d2 with
    | str t =>
      change (if s.length + t.length ≤ Z.lim then some (Z.D.str (s ++ t), h) else none) = _ at q
      by_cases hl : s.length + t.length ≤ Z.lim
      · rw [if_pos hl] at q
        cases q
        erw [RelD] at r1 r2
        obtain ⟨rfl, l1⟩ := r1
        obtain ⟨rfl, l2⟩ := r2
        refine op_add_str pins s0 σ H _ _ _ _ _ I rx ry ⟨_, _, rfl, rfl, by rw [strLen, strLen, ← limE]; exact hl, k ρ H _ .refl R ?_⟩
        erw [RelD]
        exact ⟨by rw [strApp], by rw [length_append]; exact hl⟩
      · rw [if_neg hl] at q; cases q
    | _ => cases q
  | tup s =>
    cases d2 with
    | tup t =>
      change (if s.isEmpty then some (Z.D.tup t, h) else if s.length + t.length ≤ Z.lim then some (Z.D.tup (s ++ t), h) else none) = _ at q
      erw [RelD] at r1 r2
      obtain ⟨a, ys, rfl, q1, r1⟩ := r1
      obtain ⟨b, zs, rfl, q2, r2⟩ := r2
      by_cases he : s.isEmpty = true
      · rw [if_pos he] at q
        cases q
        have hs : s = [] := by simpa using he
        subst hs
        erw [RelDs] at r1
        subst r1
        exact op_catE pins s0 σ H _ _ _ _ _ I rx ry ⟨a, b, zs, rfl, rfl, q1, q2, k ρ H _ .refl R (by erw [RelD]; exact ⟨b, zs, rfl, q2, r2⟩)⟩
      · rw [if_neg he] at q
        by_cases hl : s.length + t.length ≤ Z.lim
        · rw [if_pos hl] at q
          cases q
          refine op_catT pins s0 σ H _ _ _ _ _ I rx ry ⟨a, b, ys, zs, rfl, rfl, q1, q2, ?_, by rw [← r1.length, ← r2.length, ← limE]; exact hl, fun hz => ?_, fun _ p hp => ?_⟩
          · intro z; subst z
            have := r1.length
            simp at this he
            exact he this
          · subst hz
            have := r2.length
            simp at this
            subst this
            rw [append_nil] at k
            exact k ρ H _ .refl R (by erw [RelD]; exact ⟨a, ys, rfl, q1, r1⟩)
          · have e2 : Ext X.K ρ H ρ (upd H p (.tup (ys ++ zs))) := Ext.fresh hp
            exact k ρ _ _ e2 (R.fresh hp) (by erw [RelD]; exact ⟨p, _, rfl, .of upd_same, RelDs.mono e2 _ _ (r1.append r2)⟩)
        · rw [if_neg hl] at q; cases q
    | _ => cases q
  | ref a =>
    obtain ⟨xs, ys, e1, e2, q⟩ := add_ref q
    obtain ⟨l, vs, rfl, _, ha, r1⟩ := lstAt R r1 e1
    obtain ⟨hl, rfl, rfl⟩ := newL_inv q
    rcases e2 with ⟨b, rfl, e2⟩ | rfl
    · obtain ⟨l', vs', rfl, _, hb, r2⟩ := lstAt R r2 e2
      refine op_cat pins s0 σ H _ _ _ _ _ I rx ry ⟨l, l', vs, vs', rfl, rfl, ha, hb, by rw [← r1.length, ← r2.length, ← limE, ← length_append]; exact hl, fun p hp => ?_⟩
      obtain ⟨e2, R2, r2⟩ := new_list R (r1.append r2) hp
      exact k _ _ _ e2 R2 r2
    · erw [RelD] at r2
      obtain ⟨b, zs, rfl, q2, r2⟩ := r2
      refine op_catR pins s0 σ H _ _ _ _ _ I rx ry ⟨l, b, vs, zs, rfl, rfl, ha, q2, by rw [← r1.length, ← r2.length, ← limE, ← length_append]; exact hl, fun p hp => ?_⟩
      obtain ⟨e2, R2, r2⟩ := new_list R (r1.append r2) hp
      exact k _ _ _ e2 R2 r2
  | _ => cases q
theorem rel_rep {K : Frag} {ρ : List Addr} {H : Hp} {xs : List Z.D} {vs : List V} (n : Nat) (r : RelDs K ρ H xs vs) : RelDs K ρ H (replicate n xs).flatten (replicate n vs).flatten := by
  induction n with
  | zero => simp [RelDs]
  | succ n ih => rw [replicate_succ, replicate_succ, flatten_cons, flatten_cons]; exact r.append ih
theorem o_mul : OpR X (binaryOp .Mult) (fun x y => rP X.K sub .mul [x, y]) := by
  intro pins s σ H x y v u Q I rx ry ⟨ρ, h, ds, d, h', R, r, q, k⟩
  obtain ⟨d1, d2, rfl, r1, r2⟩ := rel2' r
  change Z.pMul _ _ = _ at q
  unfold Z.pMul at q
  split at q
  · rename_i i j e; cases e
    split at q
    · rename_i hc
      cases q
      erw [RelD] at r1 r2
      subst r1 r2
      rw [or_eq_true] at hc
      rcases hc with hc | hc
      · refine op_mul pins s σ H _ _ v u Q I rx ry ⟨_, _, rfl, rfl, ?_, k ρ H _ .refl R (by erw [RelD])⟩
        rw [or_eq_true] at hc
        exact hc.imp (fun z => by have := Z.smallI_iff.mp z; lia) (fun z => by have := Z.smallI_iff.mp z; lia)
      · rw [and_eq_true] at hc
        exact op_mulB pins s σ H _ _ v u Q I rx ry ⟨_, _, rfl, rfl, ⟨Z.bigI_iff.mp hc.1, Z.bigI_iff.mp hc.2⟩, k ρ H _ .refl R (by erw [RelD])⟩
    · cases q
  · rename_i a kk e; cases e
    split at q
    · rename_i xs e1
      split at q
      · rename_i hk
        obtain ⟨l, vs, rfl, _, ha, r1⟩ := lstAt R r1 e1
        obtain ⟨hl, rfl, rfl⟩ := newL_inv q
        erw [RelD] at r2
        subst r2
        have hk' := okR_of hk
        have hlen : vs.length * kk.toNat ≤ sizeLine := by
          rw [← r1.length, ← limE, Nat.mul_comm]
          rw [len_rep] at hl
          exact hl
        refine op_rep pins s σ H _ _ v u Q I rx ry ⟨l, kk, vs, rfl, rfl, ha, by lia, by lia, hlen, fun p hp => ?_⟩
        obtain ⟨e2, R2, r2⟩ := new_list R (rel_rep kk.toNat r1) hp
        exact k _ _ _ e2 R2 r2
      · cases q
    · cases q
  · cases q
theorem o_isN : OpR X (compareOp .Is) (fun x y H Q => y = .non ∧ rP X.K sub .isN [x] H Q) := OpRw op_isN (by
  rintro x y H Q ⟨rfl, ρ, h, ds, d, h', R, r, q, k⟩
  obtain ⟨d1, rfl, r1⟩ := rel1' r
  change Z.pIsN _ _ _ = _ at q
  unfold Z.pIsN at q
  refine ⟨rfl, ?_⟩
  split at q
  · rename_i e; cases e; cases q
    erw [RelD] at r1
    subst r1
    exact k ρ H _ .refl R (by erw [RelD]; rfl)
  · rename_i hn e; cases e; cases q
    have hx : x ≠ .non := by
      rintro rfl
      cases d1 <;> erw [RelD] at r1 <;> first
        | exact hn rfl
        | (cases r1; done)
        | (obtain ⟨r1, _⟩ := r1; cases r1; done)
        | (obtain ⟨_, _, r1, _⟩ := r1; cases r1; done)
        | (obtain ⟨_, r1, _⟩ := r1; cases r1; done)
    exact k ρ H _ .refl R (by erw [RelD]; rw [decide_eq_false hx])
  · cases q)
theorem o_notN : OpR X (compareOp .IsNot) (fun x y H Q => y = .non ∧ rP X.K sub .notN [x] H Q) := OpRw op_notN (by
  rintro x y H Q ⟨rfl, ρ, h, ds, d, h', R, r, q, k⟩
  obtain ⟨d1, rfl, r1⟩ := rel1' r
  change Z.pIsN _ _ _ = _ at q
  unfold Z.pIsN at q
  refine ⟨rfl, ?_⟩
  split at q
  · rename_i e; cases e; cases q
    erw [RelD] at r1
    subst r1
    exact k ρ H _ .refl R (by erw [RelD]; rfl)
  · rename_i hn e; cases e; cases q
    have hx : x ≠ .non := by
      rintro rfl
      cases d1 <;> erw [RelD] at r1 <;> first
        | exact hn rfl
        | (cases r1; done)
        | (obtain ⟨r1, _⟩ := r1; cases r1; done)
        | (obtain ⟨_, _, r1, _⟩ := r1; cases r1; done)
        | (obtain ⟨_, r1, _⟩ := r1; cases r1; done)
    exact k ρ H _ .refl R (by erw [RelD]; rw [decide_eq_false hx]; rfl)
  · cases q)
theorem rcNe_of (I : Inv X pins σ H s) (R : Rep X.K ρ h H) (n : Nat) (d d' : Z.D) (v v' : V) (b : Bool) (hu : A.units + n < cLine) (r : RelD X.K ρ H d v) (r' : RelD X.K ρ H d' v') (q : RelV v u) (q' : RelV v' u') (e : Z.eqN n d d' = some b) :
    SeqAt.RcNeAt A s u u' (!b) := (rc_D I R n A d d' v v' u u' b hu r r' q q' e).2.2
theorem eqH_cases (e : Z.eqH h d1 d2 = some b) : Z.eqN 150 d1 d2 = some b ∨ ∃ a c xs ys, d1 = .ref a ∧ d2 = .ref c ∧ h[a]? = some (.lst xs) ∧ h[c]? = some (.lst ys) ∧ Z.eqLs xs ys = some b := by
  unfold Z.eqH at e
  split at e
  · rename_i a c
    split at e
    · rename_i xs ys e1 e2
      exact .inr ⟨a, c, xs, ys, rfl, rfl, e1, e2, e⟩
    · cases e
  · exact .inl e
theorem o_eqne {neg : Bool} (hu : X.A.units + 200 < cLine) : OpR X (compareOp (if neg then .NotEq else .Eq)) (fun x y => rP X.K sub (if neg then .ne else .eq) [x, y]) := by
  intro pins s σ H x y v u Q I rx ry ⟨ρ, h, ds, d, h', R, r, q, k⟩
  obtain ⟨d1, d2, rfl, r1, r2⟩ := rel2' r
  have q' : Z.pEq neg [d1, d2] h = some (d, h') := by cases neg <;> exact q
  unfold Z.pEq at q'
  cases e : Z.eqH h d1 d2 with
  | none => erw [e] at q'; cases q'
  | some b =>
    erw [e] at q'
    cases q'
    have fin : EP X pins σ Q (.bool (b != neg)) s := ⟨.bl (b != neg), H, I, rfl, k ρ H _ .refl R (by erw [RelD])⟩
    rcases eqH_cases e with e | ⟨a, c, xs, ys, rfl, rfl, e1, e2, e⟩
    · cases neg with
      | false => rw [bne_false] at fin; exact (rcAt_D I R 150 X.A d1 d2 x y v u b (by lia) r1 r2 rx ry e).1 _ _ _ _ fin
      | true => rw [bne_true] at fin; exact rcNe_of I R 150 d1 d2 x y b (by lia) r1 r2 rx ry e _ _ _ _ fin
    · obtain ⟨l, vs, rfl, _, ha, r1⟩ := lstAt R r1 e1
      obtain ⟨l', vs', rfl, _, hb, r2⟩ := lstAt R r2 e2
      cases rx; cases ry
      obtain ⟨its, vv, pl, _⟩ := I.list (.of ha)
      obtain ⟨its', vv', pl', _⟩ := I.list (.of hb)
      have hlen : its.toArray.size = xs.length := by rw [size_toArray, ← vv.length, ← r1.length]
      have hlen' : its'.toArray.size = ys.length := by rw [size_toArray, ← vv'.length, ← r2.length]
      unfold Z.eqLs at e
      split at e
      · rename_i hl
        obtain ⟨ee, h1, h2⟩ := eqZ_get e
        have at' := items_at (A := X.A.in1) r1 r2 vv vv' h1 (fun x x' y y' u u' b hx hx' hy hy' hb => (rcAt_D I R 149 X.A.in1 x x' y y' u u' b (by show X.A.units + 1 + 149 < cLine; lia) hx hx' hy hy' hb).2)
        have hb' : b = (List.range its.toArray.size).all ee := by
          rw [h2, hlen, hl, Nat.min_self]; simp
        cases neg with
        | false => rw [bne_false, hb'] at fin; exact SeqAt.RcAt.lists pl.isList pl'.isList (by rw [hlen, hlen', hl]) (by lia) at' _ _ _ _ fin
        | true => rw [bne_true, hb'] at fin; exact SeqAt.RcNeAt.lists pl.isList pl'.isList (by rw [hlen, hlen', hl]) (by lia) at' _ _ _ _ fin
      · rename_i hl
        cases e
        cases neg with
        | false => exact SeqAt.RcAt.lists_lengths pl.isList pl'.isList (by rw [hlen, hlen']; simp [hl]) (by lia) _ _ _ _ fin
        | true => exact SeqAt.RcNeAt.lists_lengths pl.isList pl'.isList (by rw [hlen, hlen']; simp [hl]) (by lia) _ _ _ _ fin
theorem o_eq (hu : X.A.units + 200 < cLine) : OpR X (compareOp .Eq) (fun x y => rP X.K sub .eq [x, y]) := o_eqne (neg := false) hu
theorem o_ne (hu : X.A.units + 200 < cLine) : OpR X (compareOp .NotEq) (fun x y => rP X.K sub .ne [x, y]) := o_eqne (neg := true) hu
section
variable {pins : List (Addr × Obj)} {σ : L2.St} {H : Hp} {s : Shared} {ρ : List Addr} {h : Z.AH}
theorem inDs_get : ∀ {ys : List Z.D} {b : Bool}, Z.inDs x ys = some b → ∃ e : Nat → Bool, (∀ (j : Nat) y, ys[j]? = some y → Z.eqN 149 y x = some (e j)) ∧ b = (List.range ys.length).any e := by
  intro ys
  induction ys with
  | nil => intro b h; erw [Z.inDs] at h; cases h; exact ⟨fun _ => true, fun j y h => by simp at h, by simp⟩
  | cons y ys ih =>
    intro b h
    erw [Z.inDs] at h
    split at h
    · rename_i a c ea ec
      cases h
      obtain ⟨e, h1, h2⟩ := ih ec
      refine ⟨fun j => match j with | 0 => a | j + 1 => e j, fun j y' hy => ?_, ?_⟩
      · cases j with
        | zero => simp at hy; subst hy; exact ea
        | succ j => exact h1 j y' (by simpa using hy)
      · rw [h2, length_cons, List.range_succ_eq_map, any_cons, List.any_map]; rfl
    · cases h
theorem in_word {A : Around} {its : List Value} (I : Inv X pins σ H s) (R : Rep X.K ρ h H) (hu : A.units + 200 < cLine) (r1 : RelD X.K ρ H d1 x) (rx : RelV x v) (rs : RelDs X.K ρ H ys vs) (vv : Vals vs its) (e : Z.inDs d1 ys = some b) :
    ∃ f : Value → Bool, (∀ y, y ∈ its.toArray → SeqAt.EqAt A.in1 s y v (f y)) ∧ its.toArray.any f = b := by
  obtain ⟨g, h1, h2⟩ := inDs_get e
  have at_ : ∀ (j : Nat) (u : Value), its[j]? = some u → SeqAt.EqAt A.in1 s u v (g j) := fun j u hj => by
    have hl : j < ys.length := by rw [rs.length, vv.length]; exact (List.getElem?_eq_some_iff.mp hj).1
    obtain ⟨y, ey, ry⟩ := rs.get (i := j) (x := ys[j]) (by simp [hl])
    obtain ⟨u', eu, ru⟩ := vv.get ey
    rw [hj] at eu; cases eu
    exact (rcAt_D I R 149 A.in1 ys[j] d1 y x u v (g j) (by show A.units + 1 + 149 < cLine; lia) ry r1 ru rx (h1 j _ (by simp [hl]))).2
  have one : ∀ (i j : Nat) (u : Value), its[i]? = some u → its[j]? = some u → g i = g j := fun i j u hi hj => by
    have li : i < ys.length := by rw [rs.length, vv.length]; exact (List.getElem?_eq_some_iff.mp hi).1
    have lj : j < ys.length := by rw [rs.length, vv.length]; exact (List.getElem?_eq_some_iff.mp hj).1
    obtain ⟨y, ey, ry⟩ := rs.get (i := i) (x := ys[i]) (by simp [li])
    obtain ⟨y', ey', ry'⟩ := rs.get (i := j) (x := ys[j]) (by simp [lj])
    obtain ⟨u', eu, ru⟩ := vv.get ey
    rw [hi] at eu; cases eu
    obtain ⟨u', eu, ru'⟩ := vv.get ey'
    rw [hj] at eu; cases eu
    have := ru.inj ru'
    subst this
    have ed := RelD.inj I R _ _ _ ry ry'
    have a := h1 i _ (show ys[i]? = some ys[i] by simp [li])
    have c := h1 j _ (show ys[j]? = some ys[j] by simp [lj])
    rw [ed, c] at a
    exact (Option.some.inj a).symm
  classical
  refine ⟨fun u => if hu : ∃ j : Nat, its[j]? = some u then g (Classical.choose hu) else false, fun y hy => ?_, ?_⟩
  · obtain ⟨j, hj, ej⟩ := List.getElem_of_mem (List.mem_toArray.mp hy)
    have ex : ∃ j : Nat, its[j]? = some y := ⟨j, by rw [getElem?_eq_getElem hj, ej]⟩
    show SeqAt.EqAt _ _ _ _ (if hu : ∃ j : Nat, its[j]? = some y then g (Classical.choose hu) else false)
    rw [dif_pos ex]
    exact at_ _ _ (choose_spec ex)
  · rw [h2, List.any_toArray]
    have hlen : ys.length = its.length := by rw [rs.length, vv.length]
    apply Bool.eq_iff_iff.mpr
    rw [any_eq_true, any_eq_true]
    constructor
    · rintro ⟨u, hu', hf⟩
      obtain ⟨j, hj, ej⟩ := List.getElem_of_mem hu'
      have ex : ∃ j : Nat, its[j]? = some u := ⟨j, by rw [getElem?_eq_getElem hj, ej]⟩
      rw [dif_pos ex] at hf
      refine ⟨j, mem_range.mpr (by rw [hlen]; exact hj), ?_⟩
      rw [one j _ u (by rw [getElem?_eq_getElem hj, ej]) (choose_spec ex)]
      exact hf
    · rintro ⟨j, hj, hg⟩
      have hj' : j < its.length := by rw [← hlen]; exact mem_range.mp hj
      have ex : ∃ i : Nat, its[i]? = some its[j] := ⟨j, by simp [hj']⟩
      refine ⟨its[j], getElem_mem hj', ?_⟩
      rw [dif_pos ex, ← one j _ its[j] (by simp [hj']) (choose_spec ex)]
      exact hg
end
theorem kOf_inj (h : kOf a = kOf b) : a = b := by
  cases a <;> cases b <;> erw [kOf] at h
  · cases h; rfl
  · cases h
  · cases h
  · injection h with h
    injection h with h
    rw [toArray_inj h]
theorem kOf_dec (a b : Z.KK) : decide (kOf a = kOf b) = decide (a = b) := by
  by_cases e : a = b
  · subst e; simp
  · rw [decide_eq_false e, decide_eq_false fun q => e (kOf_inj q)]
theorem kk_rel {K : Frag} {ρ : List Addr} {H : Hp} {d : Z.D} {k : Z.KK} {v : V} (e : Z.kkOf d = some k) (r : RelD K ρ H d v) : v = kV (kOf k) ∧ ∀ s, k = Sum.inr s → s.length ≤ Z.lim := by
  cases d <;> erw [Z.kkOf] at e <;> first | (cases e; done) | skip
  · cases e; erw [RelD] at r; subst r; exact ⟨rfl, fun s z => by cases z⟩
  · cases e; erw [RelD] at r; obtain ⟨rfl, l⟩ := r; exact ⟨rfl, fun s z => by cases z; exact l⟩
theorem val_rel {K : Frag} {ρ : List Addr} {H : Hp} (k : Z.KK) : ∀ (kvs : List (Z.KK × Z.D)) (kvs' : List (Key × V)), kvs'.map (·.1) = kvs.map (fun p => kOf p.1) → RelDs K ρ H (kvs.map (·.2)) (kvs'.map (·.2)) →
    match Z.dGet kvs k with
    | some d => ∃ v, valV kvs' (kOf k) = some v ∧ RelD K ρ H d v
    | none => valV kvs' (kOf k) = none
  | [], kvs', h1, h2 => by
    cases kvs' with
    | nil => rfl
    | cons _ _ => cases h1
  | (k1, d1) :: kvs, kvs', h1, h2 => by
    cases kvs' with
    | nil => cases h1
    | cons p kvs' =>
      obtain ⟨k2, v2⟩ := p
      erw [map_cons, List.cons.injEq] at h1
      obtain ⟨rfl, h1⟩ := h1
      erw [map_cons, RelDs] at h2
      obtain ⟨y, t, e, r1, r2⟩ := h2
      cases e
      have ih := val_rel k kvs kvs' h1 r2
      unfold Z.dGet valV at ih ⊢
      rw [find?_cons, find?_cons, kOf_dec]
      by_cases e : k1 = k
      · subst e
        simp
        exact r1
      · erw [decide_eq_false e]
        exact ih
theorem put_rel {K : Frag} {ρ : List Addr} {H : Hp} (k : Z.KK) {d : Z.D} {v : V} (r : RelD K ρ H d v) (kvs : List (Z.KK × Z.D)) (kvs' : List (Key × V)) (h1 : kvs'.map (·.1) = kvs.map (fun p => kOf p.1)) (h2 : RelDs K ρ H (kvs.map (·.2)) (kvs'.map (·.2))) :
    (putK kvs' (kOf k) v).map (·.1) = (Z.dPut kvs k d).map (fun p => kOf p.1) ∧ RelDs K ρ H ((Z.dPut kvs k d).map (·.2)) ((putK kvs' (kOf k) v).map (·.2)) := by
  have any_eq : ∀ (kvs : List (Z.KK × Z.D)) (kvs' : List (Key × V)), kvs'.map (·.1) = kvs.map (fun p => kOf p.1) → (kvs'.any fun kv => decide (kv.1 = kOf k)) = kvs.any fun kv => decide (kv.1 = k) := by
    intro kvs
    induction kvs with
    | nil => intro kvs' h; cases kvs' with
      | nil => rfl
      | cons _ _ => cases h
    | cons p kvs ih => intro kvs' h; cases kvs' with
      | nil => cases h
      | cons q kvs' =>
        erw [map_cons, List.cons.injEq] at h
        rw [any_cons, any_cons, ih _ h.2, h.1, kOf_dec]
  have map_eq : ∀ (kvs : List (Z.KK × Z.D)) (kvs' : List (Key × V)), kvs'.map (·.1) = kvs.map (fun p => kOf p.1) → RelDs K ρ H (kvs.map (·.2)) (kvs'.map (·.2)) →
      (kvs'.map (fun kv => if kv.1 = kOf k then (kv.1, v) else kv)).map (·.1) = (kvs.map (fun kv => if kv.1 = k then (kv.1, d) else kv)).map (fun p => kOf p.1) ∧
      RelDs K ρ H ((kvs.map (fun kv => if kv.1 = k then (kv.1, d) else kv)).map (·.2)) ((kvs'.map (fun kv => if kv.1 = kOf k then (kv.1, v) else kv)).map (·.2)) := by
    intro kvs
    induction kvs with
    | nil => intro kvs' h h'; cases kvs' with
      | nil => exact ⟨rfl, by simp [RelDs]⟩
      | cons _ _ => cases h
    | cons p kvs ih => intro kvs' h h'; cases kvs' with
      | nil => cases h
      | cons q kvs' =>
        obtain ⟨k1, d1⟩ := p
        obtain ⟨k2, v2⟩ := q
        erw [map_cons, List.cons.injEq] at h
        obtain ⟨rfl, h⟩ := h
        erw [map_cons, RelDs] at h'
        obtain ⟨y, t, e, r1, r2⟩ := h'
        cases e
        obtain ⟨i1, i2⟩ := ih kvs' h r2
        erw [map_cons, RelDs]
        by_cases e : k1 = k
        · subst e
          erw [if_true]
          exact ⟨by rw [i1], v, _, rfl, r, i2⟩
        · rw [if_neg e, if_neg fun z => e (kOf_inj z)]
          exact ⟨by rw [i1], v2, _, rfl, r1, i2⟩
  unfold putK Z.dPut
  rw [any_eq kvs kvs' h1]
  by_cases ha : (kvs.any fun kv => decide (kv.1 = k)) = true
  · rw [if_pos ha, if_pos ha]
    exact map_eq kvs kvs' h1 h2
  · rw [if_neg ha, if_neg ha]
    rw [map_append, map_append, map_append, map_append, h1]
    exact ⟨rfl, h2.append (.one r)⟩
theorem put_keys {k : Z.KK} {d : Z.D} {kvs : List (Z.KK × Z.D)} {P : Z.KK → Prop} (hk : P k) (h : ∀ p ∈ kvs, P p.1) : ∀ p ∈ Z.dPut kvs k d, P p.1 := by
  intro p hp
  unfold Z.dPut at hp
  split at hp
  · obtain ⟨q, hq, rfl⟩ := mem_map.mp hp
    split
    · exact h q hq
    · exact h q hq
  · rcases mem_append.mp hp with hp | hp
    · exact h p hp
    · rw [mem_singleton.mp hp]; exact hk
theorem o_in_ {neg : Bool} (hu : X.A.units + 200 < cLine) : OpR X (compareOp (if neg then .NotIn else .In)) (fun x y => rP X.K sub (if neg then .notin else .in_) [x, y]) := by
  intro pins s σ H x y v u Q I rx ry ⟨ρ, h, ds, d, h', R, r, q, k⟩
  obtain ⟨d1, d2, rfl, r1, r2⟩ := rel2' r
  have q' : Z.pIn neg [d1, d2] h = some (d, h') := by cases neg <;> exact q
  unfold Z.pIn at q'
  split at q'
  · rename_i e; cases e; rename_i ys
    cases e : Z.inDs d1 ys with
    | none => rw [e] at q'; cases q'
    | some b =>
      rw [e] at q'; cases q'
      erw [RelD] at r2
      obtain ⟨a, vs, rfl, hq, rs⟩ := r2
      cases ry
      obtain ⟨its, vv, it, _⟩ := I.tuple hq
      obtain ⟨f, f1, f2⟩ := in_word I R hu r1 rx rs vv e
      have fin : EP X pins σ Q (.bool (b != neg)) s := ⟨.bl (b != neg), H, I, rfl, k ρ H _ .refl R (by erw [RelD])⟩
      cases neg with
      | false => exact SeqAt.in_tupleAt f (show s.heap.IsTuple a its.toArray from it) f1 (by rw [f2]; rw [bne_false] at fin; exact fin)
      | true => exact SeqAt.notIn_tupleAt f (show s.heap.IsTuple a its.toArray from it) f1 (by rw [f2]; rw [bne_true] at fin; exact fin)
  · rename_i e; cases e; rename_i ys
    cases e : Z.inDs d1 ys with
    | none => rw [e] at q'; cases q'
    | some b =>
      rw [e] at q'; cases q'
      erw [RelD] at r2
      obtain ⟨a, vs, rfl, hq, rs⟩ := r2
      cases ry
      obtain ⟨its, vv, it, _⟩ := I.list hq.sqL
      obtain ⟨f, f1, f2⟩ := in_word I R hu r1 rx rs vv e
      have fin : EP X pins σ Q (.bool (b != neg)) s := ⟨.bl (b != neg), H, I, rfl, k ρ H _ .refl R (by erw [RelD])⟩
      cases neg with
      | false => exact SeqAt.in_listAt f it.isList f1 (by rw [f2]; rw [bne_false] at fin; exact fin)
      | true => exact SeqAt.notIn_listAt f it.isList f1 (by rw [f2]; rw [bne_true] at fin; exact fin)
  · rename_i e; cases e; rename_i n
    split at q'
    · rename_i ys e1
      cases e : Z.inDs d1 ys with
      | none => rw [e] at q'; cases q'
      | some b =>
        rw [e] at q'; cases q'
        obtain ⟨a, vs, rfl, _, hq, rs⟩ := lstAt R r2 e1
        cases ry
        obtain ⟨its, vv, it, _⟩ := I.list (.of hq)
        obtain ⟨f, f1, f2⟩ := in_word I R hu r1 rx rs vv e
        have fin : EP X pins σ Q (.bool (b != neg)) s := ⟨.bl (b != neg), H, I, rfl, k ρ H _ .refl R (by erw [RelD])⟩
        cases neg with
        | false => exact SeqAt.in_listAt f it.isList f1 (by rw [f2]; rw [bne_false] at fin; exact fin)
        | true => exact SeqAt.notIn_listAt f it.isList f1 (by rw [f2]; rw [bne_true] at fin; exact fin)
    · rename_i kvs e1
      cases e : Z.kkOf d1 with
      | none => rw [e] at q'; cases q'
      | some kk =>
        rw [e] at q'; cases q'
        obtain ⟨a, kvs', rfl, _, hq, hk, rs, _⟩ := dctAt R r2 e1
        obtain ⟨rfl, _⟩ := kk_rel e r1
        cases ry
        have vr := val_rel (K := X.K) (ρ := ρ) (H := H) kk kvs kvs' hk rs
        have his : (valV kvs' (kOf kk)).isSome = (Z.dGet kvs kk).isSome := by
          cases e : Z.dGet kvs kk with
          | none => rw [e] at vr; rw [vr]; rfl
          | some d => rw [e] at vr; obtain ⟨v, e', _⟩ := vr; rw [e']; rfl
        have fin : Q (.bl ((Z.dGet kvs kk).isSome != neg)) H := k ρ H _ .refl R (by erw [RelD])
        have g : DGet H a (kV (kOf kk)) (valV kvs' (kOf kk)) := DGet.k hq
        cases neg with
        | false => exact d_in (by lia) I g rx fun s' I' => ⟨.bl _, H, I', rfl, by rw [his]; rw [bne_false] at fin; exact fin⟩
        | true => exact d_notIn (by lia) I g rx fun s' I' => ⟨.bl _, H, I', rfl, by rw [his]; rw [bne_true] at fin; exact fin⟩
    · cases q'
  · cases q'
theorem o_in (hu : X.A.units + 200 < cLine) : OpR X (compareOp .In) (fun x y => rP X.K sub .in_ [x, y]) := o_in_ (neg := false) hu
theorem o_notin (hu : X.A.units + 200 < cLine) : OpR X (compareOp .NotIn) (fun x y => rP X.K sub .notin [x, y]) := o_in_ (neg := true) hu
theorem atI_rel {K : Frag} {ρ : List Addr} {H : Hp} {xs : List Z.D} {ys : List V} {i : Int} {d : Z.D} (r : RelDs K ρ H xs ys) (e : Z.atI xs i = some d) : ∃ v, atI ys i = some v ∧ RelD K ρ H d v := by
  unfold Z.atI at e
  cases ej : Z.ixN xs.length i with
  | none => rw [ej] at e; cases e
  | some j =>
    rw [ej] at e
    obtain ⟨v, e1, e2⟩ := r.get (i := j) e
    refine ⟨v, ?_, e2⟩
    unfold atI
    rw [← r.length]
    show (Z.ixN xs.length i).bind _ = _
    rw [ej]
    exact e1
theorem i_idx (hu : X.A.units + 200 < cLine) : IxR X (fun x y => rP X.K sub .idx [x, y]) := by
  intro value slice pins s σ H x y v u Q I rx ry ⟨ρ, h, ds, d, h', R, r, q, k⟩ hs
  obtain ⟨d1, d2, rfl, r1, r2⟩ := rel2' r
  cases d1 with
  | str a =>
    cases d2 with
    | int i =>
      change (Z.atI a i).map (fun c => (Z.D.str [c], h)) = _ at q
      cases e : Z.atI a i with
      | none => rw [e] at q; cases q
      | some c =>
        rw [e] at q; cases q
        erw [RelD] at r1 r2
        obtain ⟨rfl, hl⟩ := r1
        subst r2
        refine ix_seq value slice pins s σ H _ _ v u Q I rx ry (.inr (.inr ⟨_, i, c, rfl, rfl, by rw [strLen, ← limE]; exact hl, e, k ρ H _ .refl R ?_⟩)) hs
        unfold RelD
        exact ⟨rfl, by show 1 ≤ 16777216; decide⟩
    | _ => cases q
  | tup xs =>
    cases d2 with
    | int i =>
      change (Z.atI xs i).map (fun v => (v, h)) = _ at q
      cases e : Z.atI xs i with
      | none => rw [e] at q; cases q
      | some c =>
        rw [e] at q; cases q
        erw [RelD] at r1 r2
        obtain ⟨a, ys, rfl, hq, rs⟩ := r1
        subst r2
        obtain ⟨w, e1, e2⟩ := atI_rel rs e
        exact ix_seq value slice pins s σ H _ _ v u Q I rx ry (.inr (.inl ⟨a, ys, i, w, rfl, rfl, hq, e1, k ρ H _ .refl R e2⟩)) hs
    | _ => cases q
  | rol xs =>
    cases d2 with
    | int i =>
      change (Z.atI xs i).map (fun v => (v, h)) = _ at q
      cases e : Z.atI xs i with
      | none => rw [e] at q; cases q
      | some c =>
        rw [e] at q; cases q
        erw [RelD] at r1 r2
        obtain ⟨a, ys, rfl, hq, rs⟩ := r1
        subst r2
        obtain ⟨w, e1, e2⟩ := atI_rel rs e
        exact ix_seq value slice pins s σ H _ _ v u Q I rx ry (.inl ⟨a, ys, i, w, rfl, rfl, hq.sqL, e1, k ρ H _ .refl R e2⟩) hs
    | _ => cases q
  | ref n =>
    change (match h[n]? with | some (.dct kvs) => (Z.kkOf d2).bind fun q => (Z.dGet kvs q).map fun v => (v, h) | some (.lst xs) => (match (generalizing := false) d2 with | .int i => (Z.atI xs i).map fun v => (v, h) | _ => none) | _ => none) = _ at q
    cases e1 : h[n]? with
    | none => rw [e1] at q; cases q
    | some o =>
      rw [e1] at q
      cases o with
      | dct kvs =>
        change (Z.kkOf d2).bind (fun q => (Z.dGet kvs q).map fun v => (v, h)) = _ at q
        cases e : Z.kkOf d2 with
        | none => rw [e] at q; cases q
        | some kk =>
          rw [e, bind_some] at q
          cases e' : Z.dGet kvs kk with
          | none => rw [e'] at q; cases q
          | some dv =>
            rw [e'] at q
            cases q
            obtain ⟨a, kvs', rfl, _, hq, hk, rs, _⟩ := dctAt R r1 e1
            obtain ⟨rfl, _⟩ := kk_rel e r2
            cases rx
            have vr := val_rel (K := X.K) (ρ := ρ) (H := H) kk kvs kvs' hk rs
            rw [e'] at vr
            obtain ⟨w, ew, rw'⟩ := vr
            have g : DGet H a (kV (kOf kk)) (some w) := by rw [← ew]; exact DGet.k hq
            exact tail_any (dict_typeIs I g) PySem.F.slot_dict_getitem.lookup (d_getItem (by lia) I g ry fun w' s3 I3 rw'' => ⟨w, H, I3, rw'', k ρ H _ .refl R rw'⟩) hs
      | lst xs =>
        cases d2 with
        | int i =>
          change (Z.atI xs i).map (fun v => (v, h)) = _ at q
          cases e : Z.atI xs i with
          | none => rw [e] at q; cases q
          | some c =>
            rw [e] at q; cases q
            obtain ⟨a, ys, rfl, _, hq, rs⟩ := lstAt R r1 e1
            erw [RelD] at r2
            subst r2
            obtain ⟨w, e1, e2⟩ := atI_rel rs e
            exact ix_seq value slice pins s σ H _ _ v u Q I rx ry (.inl ⟨a, ys, i, w, rfl, rfl, .of hq, e1, k ρ H _ .refl R e2⟩) hs
        | _ => cases q
      | _ => cases q
  | _ => cases q
end
section
variable {X : Cx} {sub : Nat → Nat → Bool} {Γ : Z.Gam} {E : Z.PX}
theorem sIxE (n d : Nat) (o : Option Int) : HT.sIx n d o = Z.sIx n d o := by
  cases o with
  | none => rfl
  | some v =>
    unfold HT.sIx Z.sIx
    dsimp only
    split <;> lia
theorem srange_eq (a b : Nat) : sliceRange (a : Int) (b : Int) 1 = (List.range (b - a)).map fun m => a + m := by
  unfold sliceRange
  have e : (if (1 : Int) > 0 then (if (a : Int) < b then ((b : Int) - a + 1 - 1) / 1 else 0) else (if (a : Int) > b then ((a : Int) - b - 1 - 1) / (-1) else 0)).toNat = b - a := by
    rw [if_pos (by decide)]
    split
    · rw [Int.ediv_one]; lia
    · lia
  show map _ (List.range (Int.toNat _)) = _
  rw [e]
  apply List.map_congr_left
  intro m _
  lia
theorem idx_eq (lo hi : Option Int) (n : Nat) : Builtin.Str.strSliceIndices lo hi 1 n = (List.range (Z.sIx n n hi - Z.sIx n 0 lo)).map fun m => Z.sIx n 0 lo + m := by
  rw [← srange_eq]
  unfold Builtin.Str.strSliceIndices
  dsimp only
  congr 1
  · cases lo with
    | none => simp [Z.sIx]
    | some v =>
      erw [Z.sIx]
      rw [if_pos (by decide)]
      split <;> lia
  · cases hi with
    | none => simp [Z.sIx]
    | some v =>
      erw [Z.sIx]
      rw [if_pos (by decide)]
      split <;> lia
theorem pick_eq {α : Type} : ∀ (k i : Nat) (s : List α), ((List.range k).map fun m => i + m).filterMap (fun j => s[j]?) = (s.drop i).take k
  | 0, i, s => by simp
  | k + 1, i, s => by
    rw [range_succ, map_append, List.filterMap_append, pick_eq k i s, List.take_succ]
    congr 1
    erw [map_cons, map_nil, filterMap_cons, List.filterMap_nil]
    rw [List.getElem?_drop]
    cases s[i + k]? <;> rfl
theorem cut_eq (s : List Nat) (lo hi : Option Int) : ((Builtin.Str.strSliceIndices lo hi 1 s.length).filterMap fun i => s[i]?) = Z.cut s lo hi := by
  rw [idx_eq, pick_eq]; rfl
theorem cut_le {α : Type} (s : List α) (lo hi : Option Int) : (Z.cut s lo hi).length ≤ s.length := by
  unfold Z.cut
  rw [length_take, length_drop]
  lia
theorem sIx_le (n d : Nat) (hd : d ≤ n) (o : Option Int) : Z.sIx n d o ≤ n := by
  rw [← sIxE]; exact HT.sIx_le n d hd o
theorem cut_full {α : Type} (s : List α) (lo hi : Option Int) (h : Z.sIx s.length s.length hi - Z.sIx s.length 0 lo = s.length) : Z.cut s lo hi = s := by
  have h1 := sIx_le s.length s.length (le_refl _) hi
  unfold Z.cut
  by_cases h0 : Z.sIx s.length 0 lo = 0
  · rw [h, h0, List.drop_zero, take_length]
  · have : s.length = 0 := by lia
    rw [List.length_eq_zero_iff.mp this]; simp
theorem sl_str : SlR X (fun x lo hi H Q => ∃ z : List Nat, x = .str ⟨z.toArray⟩ ∧ z.length ≤ Z.lim ∧ Q (.str ⟨(Z.cut z lo hi).toArray⟩) H) := by
  intro pins s σ H x v vl vu lo hi sl Q I rx hs pl pu h
  obtain ⟨z, rfl, hz, q⟩ := h
  obtain ⟨t, rfl⟩ := rx
  refine ⟨"str", _, F.slot_str_getitem.lookup, typeIs_str s _ t, ?_⟩
  obtain ⟨l', e1, e2⟩ : ∃ l' : Option (Int × Tok), vl = partValue l' ∧ l'.map (·.1) = lo := by
    cases pl with
    | none => exact ⟨none, rfl, rfl⟩
    | int i t => exact ⟨some (i, t), rfl, rfl⟩
  obtain ⟨u', e3, e4⟩ : ∃ l' : Option (Int × Tok), vu = partValue l' ∧ l'.map (·.1) = hi := by
    cases pu with
    | none => exact ⟨none, rfl, rfl⟩
    | int i t => exact ⟨some (i, t), rfl, rfl⟩
  subst e1 e3
  refine wpAny_getItem_str_slice (l := l') (u := u') (st := none) hs rfl ?_
  have hp : slicePicked ⟨z.toArray⟩ l' u' none = Builtin.Str.strSliceIndices lo hi 1 z.length := by
    unfold slicePicked
    rw [e2, e4, strLen]
    rfl
  have hc : ((slicePicked ⟨z.toArray⟩ l' u' none).filterMap ((⟨z.toArray⟩ : Str).cps[·]?)) = Z.cut z lo hi := by
    rw [hp, ← cut_eq]
    congr 1
    funext i
    simp
  unfold sliceMade
  split
  · rename_i hw
    have hl : (slicePicked ⟨z.toArray⟩ l' u' none).length = z.length := by
      rw [and_eq_true] at hw
      have := beq_iff_eq.mp hw.2
      rw [this, strLen]
    have hz : Z.cut z lo hi = z := by
      rw [hp, idx_eq, length_map, length_range] at hl
      exact cut_full z lo hi hl
    show EP X pins σ Q (.str ⟨z.toArray⟩ t) s
    exact ⟨.str ⟨z.toArray⟩, H, I, ⟨t, rfl⟩, by rw [hz] at q; exact q⟩
  · rw [hc]
    refine ⟨by rw [strLen, ← limE]; exact le_trans (cut_le z lo hi) hz, .str ⟨(Z.cut z lo hi).toArray⟩, H, I.tok _, ⟨_, rfl⟩, q⟩
def rPs (K : Frag) (x : V) (lo hi : Option Int) (H : Hp) (Q : VK) : Prop := ∃ ρ h d e h', Rep K ρ h H ∧ RelD K ρ H d x ∧ Z.pSlice d lo hi h = some (e, h') ∧
  ∀ ρ' H' v, Ext K ρ H ρ' H' → Rep K ρ' h' H' → RelD K ρ' H' e v → Q v H'
theorem cut_rel {K : Frag} {ρ : List Addr} {H : Hp} {xs : List Z.D} {ys : List V} {lo hi : Option Int} (r : RelDs K ρ H xs ys) : RelDs K ρ H (Z.cut xs lo hi) (cutV ys lo hi) := by
  unfold Z.cut cutV
  rw [sIxE, sIxE, ← r.length]
  exact (r.drop _).take _
theorem sl_all : SlR X (rPs X.K) := SlRw (sl_str.or (sl_tup.or sl_list)) (by
  rintro x lo hi H Q ⟨ρ, h, d, e, h', R, r, q, k⟩
  unfold Z.pSlice at q
  split at q
  · cases q
    erw [RelD] at r
    obtain ⟨rfl, hl⟩ := r
    refine .inl ⟨_, rfl, hl, k ρ H _ .refl R ?_⟩
    unfold RelD
    exact ⟨rfl, le_trans (cut_le _ lo hi) hl⟩
  · rename_i xs
    split at q
    · cases q
    · rename_i hw
      cases q
      erw [RelD] at r
      obtain ⟨a, ys, rfl, hq, rs⟩ := r
      refine .inr (.inl ⟨a, ys, rfl, hq, by rw [← rs.length, sIxE, sIxE]; exact hw, fun p hp => ?_⟩)
      have e2 : Ext X.K ρ H ρ (upd H p (.tup (cutV ys lo hi))) := Ext.fresh hp
      exact k ρ _ _ e2 (R.fresh hp) (by erw [RelD]; exact ⟨p, _, rfl, .of upd_same, RelDs.mono e2 _ _ (cut_rel rs)⟩)
  · obtain ⟨hl, rfl, rfl⟩ := newL_inv q
    erw [RelD] at r
    obtain ⟨a, ys, rfl, hq, rs⟩ := r
    refine .inr (.inr ⟨a, ys, rfl, hq.sqL, fun p hp => ?_⟩)
    obtain ⟨e2, R2, r2⟩ := new_list R (cut_rel rs) hp
    exact k _ _ _ e2 R2 r2
  · split at q
    · rename_i e1
      obtain ⟨hl, rfl, rfl⟩ := newL_inv q
      obtain ⟨a, ys, rfl, _, hq, rs⟩ := lstAt R r e1
      refine .inr (.inr ⟨a, ys, rfl, .of hq, fun p hp => ?_⟩)
      obtain ⟨e2, R2, r2⟩ := new_list R (cut_rel rs) hp
      exact k _ _ _ e2 R2 r2
    · cases q
  · cases q)
theorem le_slLH (ha : LE X sub Γ E a a') (hb : LE X sub Γ E b b') (hc : LE X sub Γ E c c') : LE X sub Γ E (.Subscript a (.Slice (some b) (some c) none p) pos) (.slc a' b' c') := by
  refine PEw (pe_slice sl_all ha (po_some hb) (po_some hc)) ?_
  rintro σ H Q ⟨ρ, h, τ, Q', R, L, w, k⟩
  erw [Z.wpE] at w
  refine ⟨ρ, h, τ, _, R, L, w, fun d1 h1 ρ1 H1 x e1 R1 r1 w1 => ⟨ρ1, h1, τ, _, R1, L.mono e1, w1, fun d2 h2 ρ2 H2 y e2 R2 r2 w2 => ?_⟩⟩
  cases d2 with
  | int i =>
    erw [RelD] at r2
    refine ⟨i, r2, ρ2, h2, τ, _, R2, L.mono (e1.trans e2), w2, fun d3 h3 ρ3 H3 z e3 R3 r3 w3 => ?_⟩
    cases d3 with
    | int j =>
      erw [RelD] at r3
      refine ⟨j, r3, ?_⟩
      dsimp only at w3
      cases q : Z.pSlice d1 (some i) (some j) h3 with
      | none => rw [q] at w3; exact w3.elim
      | some z => rw [q] at w3; exact ⟨ρ3, h3, d1, z.1, z.2, R3, RelD.mono (e2.trans e3) _ _ r1, q, fun ρ' H' v e' R' r' => k _ _ ρ' H' v (e1.trans (e2.trans (e3.trans e'))) R' r' w3⟩
    | _ => exact w3.elim
  | _ => exact w2.elim
theorem c_len : CallR X (.builtin "len") (rP X.K sub .len) := CallRw (call_len.or call_lenD) (by
  rintro xs H Q ⟨ρ, h, ds, d, h', R, r, q, k⟩
  change Z.pLen _ _ = _ at q
  unfold Z.pLen at q
  split at q
  · cases q
    obtain ⟨x, xs, rfl⟩ : ∃ x t, xs = x :: t := by erw [RelDs] at r; obtain ⟨y, t, e, _⟩ := r; exact ⟨y, t, e⟩
    erw [RelDs] at r
    obtain ⟨y, t, e, r, rfl⟩ := r
    cases e
    erw [RelD] at r
    obtain ⟨rfl, hl⟩ := r
    exact .inl ⟨_, _, rfl, ⟨by rw [strLen, ← limE]; exact hl, rfl⟩, by rw [strLen]; exact k ρ H _ .refl R (by erw [RelD])⟩
  · cases q
    erw [RelDs] at r
    obtain ⟨y, t, rfl, r, rfl⟩ := r
    erw [RelD] at r
    obtain ⟨a, ys, rfl, hq, rs⟩ := r
    exact .inl ⟨_, _, rfl, .inr ⟨ys, hq, rfl⟩, by rw [← rs.length]; exact k ρ H _ .refl R (by erw [RelD])⟩
  · cases q
    erw [RelDs] at r
    obtain ⟨y, t, rfl, r, rfl⟩ := r
    erw [RelD] at r
    obtain ⟨a, ys, rfl, hq, rs⟩ := r
    exact .inl ⟨_, _, rfl, .inl ⟨ys, hq.sqL, rfl⟩, by rw [← rs.length]; exact k ρ H _ .refl R (by erw [RelD])⟩
  · rename_i n
    erw [RelDs] at r
    obtain ⟨y, t, rfl, r, rfl⟩ := r
    split at q
    · rename_i e1
      cases q
      obtain ⟨a, ys, rfl, _, hq, rs⟩ := lstAt R r e1
      exact .inl ⟨_, _, rfl, .inl ⟨ys, .of hq, rfl⟩, by rw [← rs.length]; exact k ρ H _ .refl R (by erw [RelD])⟩
    · rename_i e1
      cases q
      obtain ⟨a, kvs, rfl, _, hq, hk, rs, _⟩ := dctAt R r e1
      have := rs.length
      rw [length_map, length_map] at this
      exact .inr ⟨_, _, rfl, hq, by rw [← this]; exact k ρ H _ .refl R (by erw [RelD])⟩
    · cases q
  · cases q)
theorem c_list : CallR X (.type "list") (rP X.K sub .list_) := CallRw call_list_of (by
  rintro xs H Q ⟨ρ, h, ds, d, h', R, r, q, k⟩
  change Z.pList _ _ = _ at q
  unfold Z.pList at q
  split at q
  · rename_i d1
    erw [RelDs] at r
    obtain ⟨y, t, rfl, r, rfl⟩ := r
    cases e : Z.seqOf h d1 with
    | none => rw [e] at q; cases q
    | some zs =>
      rw [e] at q
      obtain ⟨hl, rfl, rfl⟩ := newL_inv q
      have fin : ∀ (ys : List V), RelDs X.K ρ H zs ys → ∀ l, H l = none → Q (.ref l) (upd H l (.lst ys)) := fun ys rs l hl => by
        obtain ⟨e2, R2, r2⟩ := new_list R rs hl
        exact k _ _ _ e2 R2 r2
      cases d1 with
      | tup ws =>
        cases e
        erw [RelD] at r
        obtain ⟨a, ys, rfl, hq, rs⟩ := r
        exact ⟨a, ys, rfl, .inr hq, fin ys rs⟩
      | rol ws =>
        cases e
        erw [RelD] at r
        obtain ⟨a, ys, rfl, hq, rs⟩ := r
        exact ⟨a, ys, rfl, .inl hq.sqL, fin ys rs⟩
      | ref n =>
        erw [Z.seqOf] at e
        split at e
        · rename_i e1
          cases e
          obtain ⟨a, ys, rfl, _, hq, rs⟩ := lstAt R r e1
          exact ⟨a, ys, rfl, .inl (.of hq), fin ys rs⟩
        · cases e
      | _ => cases e
  · cases q)
theorem c_tuple : CallR X (.type "tuple") (rP X.K sub .tuple_) := CallRw call_tuple_of (by
  rintro xs H Q ⟨ρ, h, ds, d, h', R, r, q, k⟩
  change Z.pTuple _ _ = _ at q
  unfold Z.pTuple at q
  split at q
  · rename_i d1
    erw [RelDs] at r
    obtain ⟨y, t, rfl, r, rfl⟩ := r
    cases e : Z.seqOf h d1 with
    | none => rw [e] at q; cases q
    | some zs =>
      rw [e] at q
      cases q
      have fin : ∀ (ys : List V), RelDs X.K ρ H zs ys → ∀ l, H l = none → Q (.ref l) (upd H l (.tup ys)) := fun ys rs l hl => by
        have e2 : Ext X.K ρ H ρ (upd H l (.tup ys)) := Ext.fresh hl
        exact k ρ _ _ e2 (R.fresh hl) (by erw [RelD]; exact ⟨l, _, rfl, .of upd_same, RelDs.mono e2 _ _ rs⟩)
      cases d1 with
      | tup ws =>
        cases e
        have r' := r
        erw [RelD] at r
        obtain ⟨a, ys, rfl, hq, rs⟩ := r
        exact ⟨a, ys, rfl, .inr ⟨hq, k ρ H _ .refl R r'⟩⟩
      | rol ws =>
        cases e
        erw [RelD] at r
        obtain ⟨a, ys, rfl, hq, rs⟩ := r
        exact ⟨a, ys, rfl, .inl ⟨hq.sqL, fin ys rs⟩⟩
      | ref n =>
        erw [Z.seqOf] at e
        split at e
        · rename_i e1
          cases e
          obtain ⟨a, ys, rfl, _, hq, rs⟩ := lstAt R r e1
          exact ⟨a, ys, rfl, .inl ⟨.of hq, fin ys rs⟩⟩
        · cases e
      | _ => cases e
  · cases q)
theorem m_append : MtR X "list.append" (fun x xs => rP X.K sub .append (x :: xs)) := MtRw mt_append (by
  rintro x xs H Q ⟨ρ, h, ds, d, h', R, r, q, k⟩
  change Z.pApp _ _ = _ at q
  unfold Z.pApp at q
  split at q
  · split at q
    · rename_i e1
      erw [RelDs] at r
      obtain ⟨_, _, e, r1, y, _, rfl, r2, rfl⟩ := r
      cases e
      obtain ⟨a, ys, rfl, hn, ha, rs⟩ := lstAt R r1 e1
      obtain ⟨hl, rfl, rfl⟩ := setL_inv q
      rw [length_append, List.length_singleton] at hl
      obtain ⟨e2, R2⟩ := set_list' (xs := []) R hn ha (rs.append (.one r2))
      exact ⟨a, ys, y, rfl, rfl, ha, by rw [← rs.length, ← limE]; lia, k _ _ _ e2 R2 (by erw [RelD])⟩
    · cases q
  · cases q)
theorem PSet.or (h : PSet X t) (h' : PSet X t') : PSet X (fun o i v H Q => t o i v H Q ∨ t' o i v H Q) := by
  intro pins s σ H o i v ov iv u Q I ro ri rv q
  rcases q with q | q
  · exact h pins s σ H o i v ov iv u Q I ro ri rv q
  · exact h' pins s σ H o i v ov iv u Q I ro ri rv q
theorem set_dict (hu : X.A.units + 1 < cLine) : PSet X (fun o i v H Q => ∃ a H', o = .ref a ∧ DPut H a i v H' ∧ Q H') := by
  intro pins s σ H o i v ov iv u Q I ro ri rv ⟨a, H', e, g, q⟩
  subst e
  cases ro
  exact d_setItem hu I g ri rv fun s' I' => ⟨H', I', q⟩
theorem s_setx (hu : X.A.units + 200 < cLine) : PSet X (fun o i v H Q => rP X.K sub .setx [o, i, v] H fun _ H' => Q H') := by
  intro pins s σ H o i v ov iv u Q I ro ri rv ⟨ρ, h, ds, d, h', R, r, q, k⟩
  refine (PSet.or set_list (set_dict (by lia))) pins s σ H o i v ov iv u Q I ro ri rv ?_
  obtain ⟨d1, d2, d3, rfl, r1, r2, r3⟩ := rel3' r
  change Z.pSetx _ _ = _ at q
  unfold Z.pSetx at q
  split at q
  · rename_i e
    cases e; rename_i n
    split at q
    · rename_i kvs e1
      cases e : Z.kkOf d2 with
      | none => rw [e] at q; cases q
      | some kk =>
        rw [e] at q
        erw [bind_some] at q
        split at q
        · rename_i hl
          cases q
          obtain ⟨a, kvs', rfl, hn, ha, hk, rs, hs⟩ := dctAt R r1 e1
          obtain ⟨rfl, hk2⟩ := kk_rel e r2
          have hlen := rs.length
          rw [length_map, length_map] at hlen
          have e2 : Ext X.K ρ H ρ (upd H a (.dK (putK kvs' (kOf kk) v))) := Ext.write ha (fun _ => by simp) (fun _ _ => by simp)
          obtain ⟨p1, p2⟩ := put_rel kk r3 kvs kvs' hk rs
          refine .inr ⟨a, _, rfl, DPut.k (k := kOf kk) ha (by rw [← hlen, ← limE]; exact hl), k ρ _ .non e2 (R.write hn ha (fun _ => by simp) (fun _ _ => by simp) ⟨_, upd_same, p1, RelDs.mono e2 _ _ p2, ?_⟩) (by erw [RelD])⟩
          exact put_keys (P := fun q => ∀ s, q = Sum.inr s → s.length ≤ Z.lim) hk2 hs
        · cases q
    · rename_i xs e1
      split at q
      · rename_i i
        split at q
        · rename_i j ej
          cases q
          obtain ⟨a, ys, rfl, hn, ha, rs⟩ := lstAt R r1 e1
          erw [RelD] at r2
          subst r2
          obtain ⟨e2, R2⟩ := set_list' (xs := []) R hn ha (rs.set j r3)
          exact .inl ⟨a, ys, i, j, rfl, rfl, ha, by rw [← rs.length]; exact ej, k _ _ .non e2 R2 (by erw [RelD])⟩
        · cases q
      · cases q
    · cases q
  · cases q
def KNn : Z.KN → String
  | .int => "int" | .bool => "bool" | .str => "str" | .list => "list" | .tuple => "tuple" | .cls _ => "?"
def TNm : Nat → String
  | 0 => "NoneType" | 1 => "bool" | 2 => "int" | 3 => "str" | 4 => "tuple" | 5 => "list" | 6 => "dict" | _ => "?"
theorem kitB {K : Frag} (k : Z.KN) (hk : ∀ c, k ≠ .cls c) (t : Nat) (ht : t ≤ 6) : kitOne K (.type (TNm t)) (.type (KNn k)) = some (Z.knB k t) := by
  have h : t = 0 ∨ t = 1 ∨ t = 2 ∨ t = 3 ∨ t = 4 ∨ t = 5 ∨ t = 6 := by lia
  cases k with
  | cls c => exact absurd rfl (hk c)
  | _ => rcases h with rfl | rfl | rfl | rfl | rfl | rfl | rfl <;> kernel_rfl
theorem c_isi (k : Z.KN) (hk : ∀ c, k ≠ .cls c) : CallR X (.builtin "isinstance") (fun xs H Q => ∃ x, xs = [x, .ty (KNn k)] ∧ rP X.K sub (.isi k) [x] H Q) := by
  intro pins s σ H xs us Q I r ⟨x, e, ρ, h, ds, d, h', R, rr, q, kk⟩
  subst e
  obtain ⟨u, w', rfl, rx, rt⟩ := vals2 r
  cases (show w' = Value.type (KNn k) from rt)
  obtain ⟨d1, rfl, r1⟩ := rel1' rr
  change ((Z.tyN h d1).map (Z.knB k)).map (fun b => (Z.D.bl b, h)) = some (d, h') at q
  cases e : Z.tyN h d1 with
  | none => rw [e] at q; cases q
  | some t =>
    rw [e] at q
    cases q
    have fin : ∀ tk, EP X pins σ Q (.bool (Z.knB k t)) { s with toks := tk } := fun tk => ⟨.bl _, H, I.tok _, rfl, kk ρ H _ .refl R (by erw [RelD])⟩
    cases d1 with
    | non =>
      cases e; erw [RelD] at r1; subst r1; cases rx
      exact kia_one PySem.W.kitx_none I.kIn True.intro (kitB k hk 0 (by decide)) (fun z => nomatch z) fin
    | bl c =>
      cases e; erw [RelD] at r1; subst r1; cases rx
      exact kia_one PySem.W.kitx_bool I.kIn True.intro (kitB k hk 1 (by decide)) (fun z => nomatch z) fin
    | int i =>
      cases e; erw [RelD] at r1; subst r1; obtain ⟨t, rfl⟩ := rx
      exact kia_one PySem.W.kitx_int I.kIn True.intro (kitB k hk 2 (by decide)) (fun z => nomatch z) fin
    | str i =>
      cases e; erw [RelD] at r1; obtain ⟨rfl, _⟩ := r1; obtain ⟨t, rfl⟩ := rx
      exact kia_one PySem.W.kitx_str I.kIn True.intro (kitB k hk 3 (by decide)) (fun z => nomatch z) fin
    | tup xs =>
      cases e; erw [RelD] at r1; obtain ⟨a, ys, rfl, hq, _⟩ := r1; cases rx
      obtain ⟨its, _, ⟨o, h1, h2, _⟩, _⟩ := I.tuple hq
      exact kia_one PySem.W.kitx_tuple I.kIn ⟨o, h1, h2⟩ (kitB k hk 4 (by decide)) (fun z => nomatch z) fin
    | rol xs =>
      cases e; erw [RelD] at r1; obtain ⟨a, ys, rfl, hq, _⟩ := r1; cases rx
      obtain ⟨its, _, ⟨o, n, h1, h2, _⟩, _⟩ := I.list hq.sqL
      exact kia_one kitx_list I.kIn ⟨o, h1, h2⟩ (kitB k hk 5 (by decide)) (fun z => nomatch z) fin
    | ref n =>
      erw [Z.tyN] at e
      split at e
      · rename_i xs eo
        cases e
        obtain ⟨a, ys, rfl, _, ha, _⟩ := lstAt R r1 eo
        cases rx
        obtain ⟨its, _, ⟨o, n, h1, h2, _⟩, _⟩ := I.list (.of ha)
        exact kia_one kitx_list I.kIn ⟨o, h1, h2⟩ (kitB k hk 5 (by decide)) (fun z => nomatch z) fin
      · rename_i xs eo
        cases e
        obtain ⟨a, ys, rfl, _, ha, _⟩ := dctAt R r1 eo
        cases rx
        obtain ⟨_, _, vs, _, p⟩ := (show ObjOk X.prog X.w H s.heap a (.dK ys) from I.hok a _ ha)
        obtain ⟨o, es, ep, h1, h2, _⟩ := p
        exact kia_one PySem.W.kitx_dict I.kIn ⟨o, h1, h2.1⟩ (kitB k hk 6 (by decide)) (fun z => nomatch z) fin
      · cases e
theorem le_isi (hk : ∀ c, k ≠ .cls c) (hg : Gl X "isinstance") (hm : X.mg "isinstance" = none) (hgt : Gl X tn) (hmt : X.mg tn = none) (hvt : bootBuiltins tn = some (.type (KNn k))) (hnn : tn ≠ "__name__") (hdd : ZDbg tn) (he : LE X sub Γ E e e') (hs : ∀ es, ZStE X.env e es) :
    LE X sub Γ E (.Call (.Name "isinstance" p) [e, .Name tn p2] [] pos) (.prim (.isi k) (.cons e' .nil)) := by
  have hn : PE X (.Name tn p2) (tC (.ty (KNn k))) := pe_bltn hgt hmt hvt rfl hnn hdd
  refine PEw (pe_callB (c_isi (sub := sub) k hk) hg hm (by rfl) (pa_cons he (pa_cons hn pa_nil (by rfl)) (hs _)) (by decide) (by decide) (hs _) (by rfl)) ?_
  rintro σ H Q ⟨ρ, h, τ, Q', R, L, w, k'⟩
  erw [Z.wpE, Z.wpEs] at w
  refine ⟨ρ, h, τ, _, R, L, w, fun d1 h1 ρ1 H1 x e1 R1 r1 w1 => ?_⟩
  cases q : Z.prim sub (.isi k) [d1] h1 with
  | none => rw [q] at w1; exact w1.elim
  | some z =>
    rw [q] at w1
    exact ⟨x, rfl, ρ1, h1, [d1], z.1, z.2, R1, .one r1, q, fun ρ' H' v e' R' r' => k' _ _ ρ' H' v (e1.trans e') R' r' w1⟩
def spUp (K : Frag) (Γ : Z.Gam) (f : Nat) : Sp := fun vs H Q _ => ∃ ρ h ds Q', ∃ E' : Z.PX, Rep K ρ h H ∧ RelDs K ρ H ds vs ∧ Γ f ds h Q' (Z.EF E') ∧
  ∀ d h' ρ' H' v, Ext K ρ H ρ' H' → Rep K ρ' h' H' → RelD K ρ' H' d v → Q' d h' → Q v H'
theorem le_call (F : FnOk X.prog X.w X.K X.mg X.base CX k f fd ps (spUp X.K Γ i)) (hr : Room k X.A) (hg : Gl X x) (hm : X.mg x = some (.ref f)) (hk : keepIn X.K (.ref f) = true) (hb : Binds X.K fd ps ds) (hd : Vals dvs ds) (hx : Passes CX X E0) (hdd : ∀ ρ H, RelDs X.K ρ H dd dvs) (ha : LA X sub Γ E (e :: es) es') (hdb : ZDbg x) (he : ZStE X.env e es) (hpl : ZBkT X.env es pos) :
    LE X sub Γ E (.Call (.Name x p) (e :: es) [] pos) (.call i es' dd) := by
  refine PEw (pe_call F hr hg hm hk hb hd hx ha hdb he hpl) ?_
  rintro σ H Q ⟨ρ, h, τ, Q', R, L, w, k'⟩
  erw [Z.wpE] at w
  refine ⟨ρ, h, τ, _, R, L, w, fun ds1 h1 ρ1 H1 vs e1 R1 r1 w1 => ?_⟩
  exact ⟨ρ1, h1, ds1 ++ dd, Q', E, R1, r1.append (hdd _ _), w1, fun d h' ρ' H' v e' R' r' q => k' d h' ρ' H' v (e1.trans e') R' r' q⟩
end
def cxB (X : Cx) (scope : Scope) (cl : List (Str × Addr)) (N' : List Str) (C : Addr) (s3 : Shared) (H3 : Hp) (fp : List Addr) : Cx :=
  { X with N := N', s₀ := s3, H₀ := H3, env := compEnvC scope cl C X.env, outer := X.stack, stack := X.stack, ex := fp, fn := fun _ => false, pn := [], xe := fun _ _ => False }
def tComp (wi : TI) (bd : V → Hp → List V → Prop) (tc : TT) (te : TE) : TE := fun σ H Q => wi σ H fun J H1 => ∀ D, H1 D = none → ∃ W : Nat → Nat → Hp → Prop, (∃ m, W 0 m (upd H1 D (.lst []))) ∧ ∀ i m H, W i m H →
  (J.stop i H ∧ Q (.ref D) H) ∨ (J.go i H ∧ ∃ N : Hp → Prop, (∀ H', N H' → ∃ m', m' < m ∧ W (i + 1) m' H') ∧ ∀ v H', J.yld i H v H' → ∃ vs, bd v H' vs ∧ tc (σ ++ vs.map some) H' fun c H2 =>
    if c = true then te (σ ++ vs.map some) H2 fun y H3 => ∃ ys, H3 D = some (.lst ys) ∧ ys.length < sizeLine ∧ N (upd H3 D (.lst (ys ++ [y]))) else N H2)
def BindOk (X : Cx) (tg : Expr) (n m : Nat) (bd : V → Hp → List V → Prop) : Prop := ∀ (pins : List (Addr × Obj)) (s : Shared) (σ os : L2.St) (H : Hp) (v : V) (u : Value) (vs : List V), Inv X pins (σ ++ os) H s → RelV v u → bd v H vs → σ.length = n → os.length = m →
  wpAny (model X.prog X.w) X.A (assign tg X.env u) (fun _ s' => Inv X pins (σ ++ vs.map some) H s') X.xe s
def PTs (X : Cx) (ifs : List Expr) (t : TT) : Prop :=
  ∀ (pins : List (Addr × Obj)) (s : Shared) (σ : L2.St) (H : Hp) (Q : Bool → Hp → Prop), Inv X pins σ H s → t σ H Q →
    wpAny (model X.prog X.w) X.A (forIn ifs true fun c r => if r = true then do let ok ← isTrue c X.env (eval c X.env); pure (ForInStep.yield ok) else pure (ForInStep.yield r)) (TP X pins σ Q) X.xe s
theorem pts_nil : PTs X [] (fun _ H Q => Q true H) := fun _ s _ H _ I h => wpAny_pure ⟨H, I, h⟩
theorem pts_one (h : PT X c t) : PTs X [c] t := by
  intro pins s σ H Q I hq
  rw [forIn_cons]
  refine wpAny_bind ?_
  rw [if_pos rfl]
  refine wpAny_bind (thn (h pins s σ H _ I hq) fun b s1 q => wpAny_pure ?_)
  show wpAny _ _ (forIn [] b _) _ _ _
  rw [forIn_nil]
  exact wpAny_pure q
section
variable {X : Cx}
structure ScOk (X : Cx) (scope : Scope) (M xs : List Str) : Prop where
  kind : scope.kind = .function
  nd : (M ++ xs).Nodup
  len : M.length = X.N.length
  at_ : ∀ p ∈ M.zip X.N, scope.names.lookup p.1 = none ∨ (p.1 = p.2 ∧ scope.names.lookup p.1 ≠ some .local)
  nocell : ∀ y ∈ scope.names, y.2 ≠ .cell
  free : ∀ y ∈ scope.names, y.2 = .free → (X.env.kindOf y.1 = some .cell) ∨ X.env.kindOf y.1 = some .free
  loc : ∀ x ∈ xs, scope.names.lookup x = some .local
  names : ∀ y ∈ scope.names, y.2 = .local → scope.names.lookup y.1 = some .local
def clOf (env : Env) : List (Str × NameKind) → List (Str × Addr) → List (Str × Addr)
  | [], acc => acc
  | (n, .free) :: r, acc => clOf env r ((n, (env.cells.lookup n).getD 0) :: acc)
  | _ :: r, acc => clOf env r acc
theorem closure_loop (f : Str × NameKind → List (Str × Addr) → Sem (ForInStep (List (Str × Addr)))) (f1 : ∀ n r c, env.cells.lookup n = some c → f (n, .free) r = pure (ForInStep.yield ((n, c) :: r))) (f2 : ∀ n k r, k ≠ .free → f (n, k) r = pure (ForInStep.yield r)) :
    ∀ (l : List (Str × NameKind)) (acc : List (Str × Addr)), (∀ y ∈ l, y.2 = .free → ∃ c, env.cells.lookup y.1 = some c) → (forIn l acc f) = pure (clOf env l acc)
  | [], acc, _ => rfl
  | (n, k) :: l, acc, h => by
    rw [forIn_cons]
    have ih := fun acc => closure_loop f f1 f2 l acc fun y hy => h y (mem_cons_of_mem _ hy)
    cases k with
    | free =>
      obtain ⟨c, hc⟩ := h (n, .free) mem_cons_self rfl
      have hc : env.cells.lookup n = some c := hc
      rw [f1 n acc c hc, pure_bind]
      show forIn l ((n, c) :: acc) f = _
      rw [ih]
      show _ = pure (clOf env l ((n, (env.cells.lookup n).getD 0) :: acc))
      rw [hc]; rfl
    | «local» => rw [f2 _ _ _ (by simp), pure_bind]; exact ih acc
    | cell => rw [f2 _ _ _ (by simp), pure_bind]; exact ih acc
    | globalExplicit => rw [f2 _ _ _ (by simp), pure_bind]; exact ih acc
    | globalImplicit => rw [f2 _ _ _ (by simp), pure_bind]; exact ih acc
theorem closure_eq {env : Env} {scope : Scope} (h : ∀ y ∈ scope.names, y.2 = .free → ∃ c, env.cells.lookup y.1 = some c) : closureFor scope env = pure (clOf env scope.names []) := by
  unfold closureFor
  dsimp only
  rw [closure_loop _ ?_ ?_ scope.names [] h]
  · rfl
  · intro n r c e
    show (if (NameKind.free == NameKind.free) = true then _ else _) = _
    rw [if_pos (beq_self_eq_true _)]
    unfold cellOf
    rw [e]; rfl
  · intro n k r hk
    show (if (k == NameKind.free) = true then _ else _) = _
    rw [if_neg (by simpa using hk)]
theorem clOf_lookup {env : Env} : ∀ (l : List (Str × NameKind)) (acc : List (Str × Addr)) (y : Str) (c : Addr), (∀ z ∈ l, z.2 = .free → ∃ c, env.cells.lookup z.1 = some c) → (∀ y c, acc.lookup y = some c → env.cells.lookup y = some c) → (clOf env l acc).lookup y = some c → env.cells.lookup y = some c
  | [], acc, y, c, _, ha, e => ha y c e
  | (n, k) :: l, acc, y, c, h, ha, e => by
    cases k with
    | free =>
      refine clOf_lookup l _ y c (fun z hz => h z (mem_cons_of_mem _ hz)) (fun y' c' e' => ?_) e
      obtain ⟨c0, hc⟩ := h (n, .free) mem_cons_self rfl
      have hc : env.cells.lookup n = some c0 := hc
      rw [lookup_cons] at e'
      split at e'
      · rename_i hy
        rw [hc] at e'
        cases e'
        rw [beq_iff_eq.mp hy]; exact hc
      · exact ha _ _ e'
    | _ => exact clOf_lookup l acc y c (fun z hz => h z (mem_cons_of_mem _ hz)) ha e
theorem clOf_has : ∀ (l : List (Str × NameKind)) (acc : List (Str × Addr)) (y : Str), ((y, NameKind.free) ∈ l ∨ ∃ c, acc.lookup y = some c) → ∃ c, (clOf env l acc).lookup y = some c
  | [], acc, y, h => by
    rcases h with h | h
    · simp at h
    · exact h
  | (n, k) :: l, acc, y, h => by
    cases k with
    | free =>
      refine clOf_has l _ y ?_
      rcases h with h | ⟨c, h⟩
      · rcases mem_cons.mp h with e | h
        · cases e; exact .inr ⟨_, by rw [lookup_cons]; simp; rfl⟩
        · exact .inl h
      · refine .inr ?_
        rw [lookup_cons]
        split
        · exact ⟨_, rfl⟩
        · exact ⟨c, h⟩
    | _ =>
      refine clOf_has l acc y ?_
      rcases h with h | h
      · rcases mem_cons.mp h with e | h
        · cases e
        · exact .inl h
      · exact .inr h
theorem relabel_kind (e : (relabel scope env).names.lookup y = some k) : scope.names.lookup y = some k ∨ (k = .cell ∧ scope.names.lookup y = some .free) := by
  unfold relabel at e
  dsimp only at e
  generalize scope.names = l at e ⊢
  induction l with
  | nil => cases e
  | cons p l ih =>
    obtain ⟨n, k'⟩ := p
    rw [map_cons] at e
    by_cases hy : (y == n) = true
    · rw [lookup_cons, hy]
      dsimp only at e
      split at e
      · rename_i hh
        rw [lookup_cons, hy] at e
        cases e
        rw [and_eq_true, and_eq_true] at hh
        exact .inr ⟨rfl, by rw [beq_iff_eq.mp hh.1.1]⟩
      · rw [lookup_cons, hy] at e
        exact .inl e
    · rw [Bool.not_eq_true] at hy
      rw [lookup_cons, hy]
      refine ih ?_
      dsimp only at e
      split at e
      · rw [lookup_cons, hy] at e; exact e
      · rw [lookup_cons, hy] at e; exact e
theorem inv_block {pins : List (Addr × Obj)} {σ : L2.St} {H : Hp} {s : Shared} {scope : Scope} {M xs : List Str} {fp : List Addr} {h1 : Heap} {tk : Nat} (I : Inv X pins σ H s) (hc : X.calm = true) (S : ScOk X scope M xs) (hf : ∀ b ∈ fp, FpOk X pins H b) (hns : h1.Ns s.heap.objs.size (fun _ => none)) (hk : ∀ b o, s.heap.get? b = some o → h1.get? b = some o) (hfs : ∀ b ∈ fp, b < s.heap.objs.size) (hfr : ∀ b ∈ fp, b ∉ frs X.stack) (hfb : ∀ b ∈ fp, X.base.get? b = none) :
    Inv (cxB X scope (clOf X.env scope.names []) (M ++ xs) s.heap.objs.size s H fp) [] (σ ++ replicate xs.length none) H { s with heap := h1, toks := tk } := by
  have cells : ∀ z ∈ scope.names, z.2 = .free → ∃ c, X.env.cells.lookup z.1 = some c := fun z hz e => I.ok.has z.1 (S.free z hz e)
  have cl1 : ∀ y c, (clOf X.env scope.names []).lookup y = some c → X.env.cells.lookup y = some c := fun y c e => clOf_lookup scope.names [] y c cells (fun _ _ e => by cases e) e
  have inFree : ∀ y, scope.names.lookup y = some .free → (y, NameKind.free) ∈ scope.names := fun y e => PySem.mem_of_lookup e
  refine ⟨⟨I.ok.mod, S.kind, I.ok.glob, I.ok.blt, le_refl _, fun y z c e1 e2 => I.ok.inj y z c (cl1 y c e1) (cl1 z c e2), fun y e => ?_, (fun y c e => by cases e), fun _ => I.ok.hd hc, I.ok.frames, .inl rfl, fun b hb => ⟨ne_of_lt (hfs b hb), fun y c e => (hf b hb).2.2.2.2.1 y c (cl1 y c e)⟩,
      I.bs, le_trans I.ok.bsz I.sz, (fun b o e hb => (by have z := (hfb b hb).symm.trans e; cases z)), hfr, I.stack, I.stkFree⟩,
    rfl, I.bare, Un.kept hk, ⟨_, hns, fun i y v e1 e2 e3 => ?_⟩, fun y c e => ?_, I.hok.fresh (le_refl _), fun y c e => I.freeC y c (cl1 y c e), fun p hp => ?_, I.hok.kept hk, ?_⟩
  · have e' : (relabel scope X.env).names.lookup y = some .cell ∨ (relabel scope X.env).names.lookup y = some .free := e
    have hfr' : scope.names.lookup y = some .free := by
      rcases e' with e' | e'
      · rcases relabel_kind e' with z | z
        · exact absurd rfl (S.nocell _ (PySem.mem_of_lookup z))
        · exact z.2
      · rcases relabel_kind e' with z | z
        · exact z
        · cases z.1
    exact clOf_has scope.names [] y (.inl (inFree y hfr'))
  · have hi : i < X.N.length := by
      refine Nat.lt_of_not_le fun z => ?_
      rw [getElem?_append_right (by rw [I.len]; exact z), getElem?_replicate] at e2
      split at e2 <;> cases e2
    have e2' : σ[i]? = some (some v) := by rw [getElem?_append_left (by rw [I.len]; exact hi)] at e2; exact e2
    have e1m : M[i]? = some y := by
      have e1 : (M ++ xs)[i]? = some y := e1
      rw [getElem?_append_left (by rw [S.len]; exact hi)] at e1; exact e1
    have hz : (y, X.N[i]) ∈ M.zip X.N := by
      refine mem_of_getElem? (i := i) ?_
      rw [List.getElem?_zip_eq_some]
      exact ⟨e1m, getElem?_eq_getElem hi⟩
    rcases S.at_ _ hz with hno | ⟨hyy, nloc⟩
    · exfalso
      have hno : scope.names.lookup y = none := hno
      have e3' : (relabel scope X.env).names.lookup y = some .local ∨ (relabel scope X.env).names.lookup y = some .cell ∨ (relabel scope X.env).names.lookup y = some .free := e3
      have none_ : ∀ k, (relabel scope X.env).names.lookup y = some k → False := fun k z => by
        rcases relabel_kind z with z | z
        · rw [hno] at z; cases z
        · rw [hno] at z; cases z.2
      rcases e3' with z | z | z <;> exact none_ _ z
    · have e3' : (relabel scope X.env).names.lookup y = some .local ∨ (relabel scope X.env).names.lookup y = some .cell ∨ (relabel scope X.env).names.lookup y = some .free := e3
      have nloc : scope.names.lookup y ≠ some .local := nloc
      have e1' : X.N[i]? = some y := by rw [getElem?_eq_getElem hi]; exact congrArg some hyy.symm
      have hfr' : scope.names.lookup y = some .free := by
        rcases e3' with z | z | z
        · rcases relabel_kind z with z | z
          · exact absurd z nloc
          · cases z.1
        · rcases relabel_kind z with z | z
          · exact absurd rfl (S.nocell _ (PySem.mem_of_lookup z))
          · exact z.2
        · rcases relabel_kind z with z | z
          · exact z
          · cases z.1
      have hkx := S.free _ (inFree y hfr') rfl
      obtain ⟨m, hn, hl⟩ := I.loc
      obtain ⟨u, r, l⟩ := hl i y v e1' e2' (hkx.elim (fun z => .inr (.inl z)) (fun z => .inr (.inr z)))
      refine ⟨u, r, ?_⟩
      rcases l with ⟨l, _⟩ | ⟨_, c, hc', hcell⟩
      · have l : X.env.kindOf y = some .local := l
        rcases hkx with z | z <;> (rw [l] at z; cases z)
      · obtain ⟨c2, hc2⟩ := clOf_has (env := X.env) scope.names [] y (.inl (inFree y hfr'))
        have := cl1 y c2 hc2
        rw [hc'] at this; cases this
        refine .inr ⟨?_, c, hc2, ?_⟩
        · rcases e3' with z | z | z
          · rcases relabel_kind z with z | z
            · exact absurd z nloc
            · cases z.1
          · exact .inl z
          · exact .inr z
        · obtain ⟨o, ho, hd⟩ := hcell
          exact ⟨o, hk _ _ ho, hd⟩
  · obtain ⟨v, o, ho, hd⟩ := I.cell y c (cl1 y c e)
    exact ⟨v, o, hk _ _ ho, hd⟩
  · exact absurd (show p ∈ ([] : List (Addr × Obj)) from hp) (by simp)
  · show (σ ++ replicate xs.length none).length = (M ++ xs).length
    rw [length_append, length_append, length_replicate, I.len, S.len]
theorem fp_facts {pins : List (Addr × Obj)} {σ : L2.St} {H : Hp} {s : Shared} {b : Addr} (I : Inv X pins σ H s) (hf : FpOk X pins H b) : b ∉ frs X.stack ∧ X.base.get? b = none := by
  obtain ⟨_, h2, h3, h4, _⟩ := hf
  refine ⟨fun z => ?_, ?_⟩
  · rcases mem_cons.mp (I.stkSub b z) with q | q
    · exact h2 q
    · exact h3 q
  · cases e : X.base.get? b with
    | none => rfl
    | some o =>
      rcases h4 with z | z
      · exact absurd z (I.ok.noex b o e)
      · exact absurd (lt_of_lt_of_le (lt_size e) (le_trans I.ok.bsz z)) (lt_irrefl _)
theorem inv_back {pins : List (Addr × Obj)} {σ σ' : L2.St} {H H' : Hp} {s s' : Shared} {scope : Scope} {cl : List (Str × Addr)} {N' : List Str} {fp : List Addr} {h'' : Heap} (I : Inv X pins σ H s) (hf : ∀ b ∈ fp, FpOk X pins H b) (J : Inv (cxB X scope cl N' s.heap.objs.size s H fp) [] σ' H' s') (hs : Heap.SameBut s.heap.objs.size s'.heap h'') : Inv X pins σ H' { s' with heap := h'' } := by
  have hos := J.os
  obtain ⟨hh, g, d, t, os⟩ := s'
  obtain rfl : os = s.os := hos
  have hok : HOk X.prog X.w H' h'' := fun a u e => by
    have hne : ∀ b, H' b ≠ none → b ≠ s.heap.objs.size := fun b hb z => hb (by rw [z]; exact J.free)
    refine (J.hok a u e).stay (fun b o hb q => hs.extBut b o (hne b ?_) q) (fun _ q => q) fun _ _ q => q
    rcases hb with rfl | hb
    · rw [e]; simp
    · rw [hb]; simp
  have un : Un (frs X.stack) fp H H' s.heap h'' := by
    have u := J.base
    have ne : ∀ b o, s.heap.get? b = some o → b ≠ s.heap.objs.size := fun b o e => ne_of_lt (lt_size e)
    exact ⟨fun b o e n hb hx => hs.extBut b o (ne b o e) (u.keep b o e n hb hx), fun b o e n hb hx => let ⟨sl, q⟩ := u.slot b o e n hb hx; ⟨sl, hs.extBut b _ (ne b o e) q⟩, u.free, fun b o e hx => let ⟨o', q⟩ := u.there b o e hx; ⟨o', hs.extBut b _ (ne b o e) q⟩, u.tups, u.frzs, u.tbls⟩
  show Inv X pins σ H' { s with heap := h'', gens := g, drawn := d, toks := t }
  exact Inv.call (h' := h'') (g' := g) (d' := d) (t' := t) (ch := fp) I un hok J.bare fun b hb => ⟨(hf b hb).2.2.2.1, (hf b hb).2.1, (hf b hb).2.2.2.2.1, (hf b hb).2.2.2.2.2⟩
theorem noE {α : Type} {M : Model} {A : Around} {t : Sem α} {Q : α → Shared → Prop} {E : Value → Shared → Prop} {s : Shared} (h : wpAny M A t Q (fun _ _ => False) s) : wpAny M A t Q E s := wpAny_mono h (fun _ _ q => q) fun _ _ f => f.elim
theorem loop_any {pg : Program} {wd : World} {A : Around} {elt tgt src : Expr} {ifs : List Expr} {sc : Scope} {pos : Pos} {it acc : Value} {env : Env} {R : Result → Shared → Prop} (W : Nat → Shared → Prop) {Er : Value → Shared → Prop} (hEr : Er = notedBy (model pg wd) A env fun e s' => R (.error e) s') (turn : ∀ k t, W k t → wpAny (model pg wd) A (pyNext it) (fun r t1 => match r with
      | none => R (.ok .next) t1
      | some v => wpAny (model pg wd) A (letOwnedTupleGo tgt it v) (fun _ t2 => wpAny (model pg wd) A (assign tgt env v) (fun _ t3 =>
          wpAny (model pg wd) A (forIn ifs true fun c r => if r = true then do let ok ← isTrue c env (eval c env); pure (ForInStep.yield ok) else pure (ForInStep.yield r)) (fun ok t4 => if ok = true then wpAny (model pg wd) A (eval elt env) (fun x t5 =>
            wpAny (model pg wd) A (call (.builtin "list.append") [acc, x]) (fun _ t6 => ∃ m, m < k ∧ W m t6) Er t5) Er t4 else ∃ m, m < k ∧ W m t4) Er t3) Er t2) Er t1) Er t) (k : Nat) {t : Shared} (h : W k t) : codeAny (model pg wd) A (.compLoop (.ListComp elt [⟨tgt, src, ifs, 0⟩] sc pos) 0 it acc env) R t := by
  subst hEr
  refine codeAny_loop rfl W (fun k t hW => ?_) k h
  show wpAny _ A ((compTurn (.ListComp elt [⟨tgt, src, ifs, 0⟩] sc pos) 0 it acc env).onRaise _) _ _ t
  refine wpAny_noted ?_
  rw [compTurn_list]
  refine wpAny_bind (wpAny_standAt (wpAny_bind (wpAny_mono (turn k t hW) (fun r t1 q1 => ?_) fun _ _ z => z)))
  cases r with
  | none => exact wpAny_pure q1
  | some v =>
    refine wpAny_bind (wpAny_mono q1 (fun _ t2 q2 => wpAny_bind (wpAny_mono q2 (fun _ t3 q3 => wpAny_bind (wpAny_mono q3 (fun ok t4 q4 => ?_) fun _ _ z => z)) fun _ _ z => z)) fun _ _ z => z)
    cases ok with
    | false => exact wpAny_pure ⟨rfl, q4⟩
    | true => exact wpAny_bind (wpAny_bind (wpAny_mono q4 (fun x t5 q5 => wpAny_bind (wpAny_mono q5 (fun _ t6 q6 => wpAny_pure (wpAny_pure ⟨rfl, q6⟩)) fun _ _ z => z)) fun _ _ z => z))
theorem comp_core {pins : List (Addr × Obj)} {s : Shared} {σ : L2.St} {H : Hp} {Q : VK} {use : Option (Value → Sem Unit)} {QQ : Value → Shared → Prop} {pos' : Pos} {tg elt iter : Expr} {ifs : List Expr} {M xs : List Str} {pos : Pos} {scope : Scope} {wi : TI} {bd : V → Hp → List V → Prop} {tc : TT} {te : TE} (hcalm : X.calm = true) (S : ScOk X scope M xs) (hi : PI X tg iter wi) (hbd : ∀ v H vs, bd v H vs → vs.length = xs.length) (hg : ∀ C s H fp, BindOk (cxB X scope (clOf X.env scope.names []) (M ++ xs) C s H fp) tg X.N.length xs.length bd) (hc : ∀ C s H fp, PTs (cxB X scope (clOf X.env scope.names []) (M ++ xs) C s H fp) ifs tc) (he : ∀ C s H fp, PE (cxB X scope (clOf X.env scope.names []) (M ++ xs) C s H fp) elt te) (hs : ∀ v, foldedSetIterable iter X.env v = pure v) (I : Inv X pins σ H s) (h : tComp wi bd tc te σ H Q) (fin : ∀ (D C : Addr) (s6 : Shared) (H5 : Hp) (m : Str → Option Value) (r : Flow), Inv X pins σ H5 s6 → s6.heap.Ns C m → FpOk X pins H5 C → Q (.ref D) H5 → compPost (model X.prog X.w) X.A X.xe use QQ (.ref D) C (.ok r) s6) :
    wpAny (model X.prog X.w) X.A (comprehension (.ListComp elt [⟨tg, iter, ifs, 0⟩] scope pos) scope X.env pos' (newList []) false (eval iter X.env) use) QQ X.xe s := by
  have cells : ∀ z ∈ scope.names, z.2 = .free → ∃ c, X.env.cells.lookup z.1 = some c := fun z hz e => I.ok.has z.1 (S.free z hz e)
  refine wpAny_comprehension_free (use := use) rfl hs (closure_eq cells) S.kind S.names ?_
  refine thn (hi pins s σ H _ I h) fun v s1 h1 => thn h1 fun itv s2 h2 => ?_
  obtain ⟨it, fp, tn, J, H2, e, I2, T, st2, f2, q2⟩ := h2
  subst e
  -- the new list
  refine wpAny_newObj_type ?_
  have hD : H2 s2.heap.objs.size = none := I2.hok.fresh (le_refl _)
  have I3 : Inv X pins σ (upd H2 s2.heap.objs.size (.lst [])) { s2 with heap := s2.heap.push { cls := .type "list", data := .seq ([] : List Value).toArray } } :=
    I2.laid (t' := s2.toks) (fun b u z => get?_push_of_some _ z) (le_refl _) ⟨zero_le _, [], 0, .nil, get?_push_size _ rfl⟩
  have fpne : ∀ b ∈ fp, b ≠ s2.heap.objs.size := fun b hb => by
    obtain ⟨o, ho, _⟩ := T.obj _ _ st2 b hb
    exact ne_of_lt (lt_size ho)
  have f3 : ∀ b ∈ fp, FpOk X pins (upd H2 s2.heap.objs.size (.lst [])) b := fun b hb => ⟨by rw [upd_ne (fpne b hb)]; exact (f2 b hb).1, (f2 b hb).2⟩
  have st3 : tn 0 (s2.heap.push { cls := .type "list", data := .seq ([] : List Value).toArray }) := T.keep _ _ _ st2 fun b _ o z => get?_push_of_some _ z
  obtain ⟨W, ⟨m0, w0⟩, turn⟩ := q2 _ hD
  generalize hD' : s2.heap.objs.size = D at *
  generalize hs3 : ({ s2 with heap := s2.heap.push { cls := .type "list", data := .seq ([] : List Value).toArray } } : Shared) = s3 at *
  generalize hH3 : upd H2 D (.lst []) = H3 at *
  have st3 : tn 0 s3.heap := by rw [← hs3]; exact st3
  -- the frame
  refine wpAny_newFunctionEnv S.nocell (fun y hy => by simp at hy) (fun h4 hns hsb => ?_) S.kind
  have kp : ∀ b o, s3.heap.get? b = some o → h4.get? b = some o := fun b o z => hsb.extBut b o (ne_of_lt (lt_size z)) (get?_push_of_some _ z)
  have hfs : ∀ b ∈ fp, b < s3.heap.objs.size := fun b hb => by
    obtain ⟨o, ho, _⟩ := T.obj _ _ st3 b hb
    exact lt_size ho
  have I4 := inv_block (tk := s3.toks + ([] : List (Str × Value)).length) I3 hcalm S f3 hns kp hfs (fun b hb => (fp_facts I3 (f3 b hb)).1) (fun b hb => (fp_facts I3 (f3 b hb)).2)
  have hfpC : ∀ H5 : Hp, H5 s3.heap.objs.size = none → FpOk X pins H5 s3.heap.objs.size := fun H5 hn5 => I3.fpOk (le_refl _) hn5
  generalize hC : s3.heap.objs.size = C at *
  generalize hs4 : ({ s3 with heap := h4, toks := s3.toks + ([] : List (Str × Value)).length } : Shared) = s4 at *
  have st4 : tn 0 s4.heap := by rw [← hs4]; exact T.keep _ _ _ st3 fun b _ o z => kp b o z
  have back : ∀ {σ' : L2.St} {H' : Hp} {s' : Shared} {h'' : Heap}, Inv (cxB X scope (clOf X.env scope.names []) (M ++ xs) C s3 H3 fp) [] σ' H' s' → Heap.SameBut C s'.heap h'' → Inv X pins σ H' { s' with heap := h'' } := fun J hs' => by
    subst hC
    exact inv_back I3 f3 J hs'
  have stat : ∀ {H' : Hp}, (∀ b ∈ fp, H' b = none) → ∀ b ∈ fp, FpOk (cxB X scope (clOf X.env scope.names []) (M ++ xs) C s3 H3 fp) [] H' b := fun hn b hb => by
    refine ⟨hn b hb, ?_, ?_, .inl hb, fun y c e => ?_, fun p hp => absurd (show p ∈ ([] : List (Addr × Obj)) from hp) (by simp)⟩
    · show b ≠ C
      exact ne_of_lt (hfs b hb)
    · exact (fp_facts I3 (f3 b hb)).1
    · exact (f3 b hb).2.2.2.2.1 y c (clOf_lookup scope.names [] y c cells (fun _ _ e => by cases e) e)
  have loop : codeAny (model X.prog X.w) X.A (.compLoop (.ListComp elt [⟨tg, iter, ifs, 0⟩] scope pos) 0 (.ref it) (.ref D) (compEnvC scope (clOf X.env scope.names []) C X.env)) (compPost (model X.prog X.w) X.A X.xe use QQ (.ref D) C) s4 := by
    refine loop_any (Er := _) (W := fun n s' => ∃ i os H', os.length = xs.length ∧ Inv (cxB X scope (clOf X.env scope.names []) (M ++ xs) C s3 H3 fp) [] (σ ++ os) H' s' ∧ tn i s'.heap ∧ (∀ b ∈ fp, H' b = none) ∧ W i n H') rfl ?_ m0 ⟨0, _, H3, length_replicate, I4, st4, fun b hb => (f3 b hb).1, w0⟩
    rintro n s5 ⟨i, os, H5, los, I5, st5, fr5, w5⟩
    rcases turn i n H5 w5 with ⟨stop, qn⟩ | ⟨go, Nn, hNn, step⟩
    · refine noE (thn (T.done (cxB X scope (clOf X.env scope.names []) (M ++ xs) C s3 H3 fp) rfl rfl rfl hcalm i [] s5 _ H5 _ I5 (stat fr5) st5 stop) fun r s6 ⟨hr, I6⟩ => ?_)
      subst hr
      obtain ⟨m, hn, _⟩ := I6.loc
      exact fin D C s6 H5 m _ (back I6 ⟨rfl, fun _ _ => rfl⟩) hn (hfpC H5 I6.free) qn
    · refine noE (thn (T.item (cxB X scope (clOf X.env scope.names []) (M ++ xs) C s3 H3 fp) rfl rfl rfl hcalm i [] s5 _ H5 (fun _ _ => False) I5 (stat fr5) st5 go) fun r s6 ⟨u, hr, h6⟩ => ?_)
      subst hr
      refine noE (thn h6 fun _ s6 ⟨v, H6, I6, r6, y6, st6, fr6⟩ => ?_)
      have I6' := I6.pinned (stat fr6) (T.obj _ _ st6)
      obtain ⟨vs, hbv, step⟩ := step v _ y6
      refine noE (thn (hg C s3 H3 fp _ s6 σ os H6 v u vs I6' r6 hbv I.len los) fun _ s7 I7 => ?_)
      refine noE (thn (hc C s3 H3 fp _ s7 _ _ _ I7 step) fun ok s8 ⟨H8, I8, q8⟩ => ?_)
      have again : ∀ {H9 : Hp} {s9 : Shared}, Inv (cxB X scope (clOf X.env scope.names []) (M ++ xs) C s3 H3 fp) ([] ++ pinsAt fp s6.heap) (σ ++ vs.map some) H9 s9 → Nn H9 → ∃ m, m < n ∧ ∃ i os H', os.length = xs.length ∧ Inv (cxB X scope (clOf X.env scope.names []) (M ++ xs) C s3 H3 fp) [] (σ ++ os) H' s9 ∧ tn i s9.heap ∧ (∀ b ∈ fp, H' b = none) ∧ W i m H' := fun {H9 s9} I9 n9 => by
        obtain ⟨m', hm, w9⟩ := hNn _ n9
        refine ⟨m', hm, i + 1, vs.map some, H9, (by rw [length_map]; exact hbd _ _ _ hbv), I9.unpinned, T.keep _ _ _ st6 fun b hb o z => (I9.pin (b, o) (mem_append_right _ (mem_append_right _ (mem_pinsAt hb z)))).1, fun b hb => ?_, w9⟩
        obtain ⟨o, z, d⟩ := T.obj _ _ st6 b hb
        exact (I9.pin (b, o) (mem_append_right _ (mem_append_right _ (mem_pinsAt hb z)))).2.1
      cases ok with
      | false => rw [if_neg (by decide)] at q8 ⊢; exact again I8 q8
      | true =>
        rw [if_pos rfl] at q8 ⊢
        refine noE (thn (he C s3 H3 fp _ s8 _ _ _ I8 q8) fun y s9 ⟨yv, H9, I9, r9, ys, e9, hz, n9⟩ => ?_)
        refine noE (thn (mt_append (X := cxB X scope (clOf X.env scope.names []) (M ++ xs) C s3 H3 fp) _ s9 _ H9 (.ref D) [yv] (.ref D) [y] (fun _ H' => Nn H') I9 rfl (.cons r9 .nil) ⟨D, ys, yv, rfl, rfl, e9, hz, n9⟩) fun _ s10 ⟨_, H10, I10, _, n10⟩ => ?_)
        exact again I10 n10
  exact codeAny_compStart_list loop (T.self X.A 0 s4 _ _ st4 loop)
theorem pe_comp (hcalm : X.calm = true) (S : ScOk X scope M xs) (hi : PI X tg iter wi) (hbd : ∀ v H vs, bd v H vs → vs.length = xs.length) (hg : ∀ C s H fp, BindOk (cxB X scope (clOf X.env scope.names []) (M ++ xs) C s H fp) tg X.N.length xs.length bd) (hc : ∀ C s H fp, PTs (cxB X scope (clOf X.env scope.names []) (M ++ xs) C s H fp) ifs tc) (he : ∀ C s H fp, PE (cxB X scope (clOf X.env scope.names []) (M ++ xs) C s H fp) elt te) (hs : ∀ v, foldedSetIterable iter X.env v = pure v) : PE X (.ListComp elt [⟨tg, iter, ifs, 0⟩] scope pos) (tComp wi bd tc te) := by
  intro pins s σ H Q I h
  rw [eval_ListComp]
  refine comp_core (use := none) (QQ := EP X pins σ Q) hcalm S hi hbd hg hc he hs I h fun D C s6 H5 m r I6 hn hf q => ?_
  exact ⟨m, hn, fun h'' hs' => ⟨.ref D, H5, I6.turned (t' := s6.toks) (fun b o hb e => hs'.extBut b o hb e) hf.1 hf.2.1 hf.2.2.2.1 hf.2.2.2.2.1 hf.2.2.2.2.2, rfl, q⟩⟩
theorem ps_comp (hcalm : X.calm = true) (S : ScOk X scope M xs) (hi : PI X tg iter wi) (hbd : ∀ v H vs, bd v H vs → vs.length = xs.length) (hg : ∀ C s H fp, BindOk (cxB X scope (clOf X.env scope.names []) (M ++ xs) C s H fp) tg X.N.length xs.length bd) (hc : ∀ C s H fp, PTs (cxB X scope (clOf X.env scope.names []) (M ++ xs) C s H fp) ifs tc) (he : ∀ C s H fp, PE (cxB X scope (clOf X.env scope.names []) (M ++ xs) C s H fp) elt te) (hs : ∀ v, foldedSetIterable iter X.env v = pure v) (hN : X.N.Nodup) (hy : X.N[i]? = some y) (hx : Loc X.env.scope y) (hf : X.fn y = true ∨ X.env.scope.names.lookup y = some .local) (hsw : swapsWith (.ListComp elt [⟨tg, iter, ifs, 0⟩] scope pos) (some (.Name y py)) spos.line X.env = pure true) :
    PS X (.Assign [.Name y py] (.ListComp elt [⟨tg, iter, ifs, 0⟩] scope pos) spos) (tAsg (tComp wi bd tc te) (gName i)) := by
  intro pins s σ H D0 I h
  rw [exec_Assign_Name_used _ _ _ _ hsw]
  refine wpAny_bind (wpAny_standAt (wpAny_bind ?_))
  show wpAny _ X.A (do let _ ← comprehension (.ListComp elt [⟨tg, iter, ifs, 0⟩] scope pos) scope X.env _ (newList []) false (eval iter X.env) (some (assign (.Name y py) X.env))) _ _ s
  refine wpAny_bind (thn (comp_core (use := some (assign (.Name y py) X.env)) (QQ := fun _ s' => SP X pins D0 .next s') hcalm S hi hbd hg hc he hs I h fun D C s6 H5 m r I6 hn hfp q => ?_) fun _ s' hq => wpAny_pure (wpAny_pure hq))
  show wpAny _ _ (assign (.Name y py) X.env (.ref D)) _ _ _
  refine wpAny_assign_Name (store_ok2 I6 hN hy hx (v := .ref D) rfl (fun s7 I7 ⟨a, sb, ha⟩ => ?_) hf)
  have hne : C ≠ a := by
    rcases ha with rfl | ha
    · exact hfp.2.1
    · exact (hfp.2.2.2.2.1 y a ha).symm
  refine ⟨m, hn.sameBut sb hne, fun h'' hs' => ⟨_, H5, I7.turned (t' := s7.toks) (fun b o hb e => hs'.extBut b o hb e) hfp.1 hfp.2.1 hfp.2.2.2.1 hfp.2.2.2.2.1 hfp.2.2.2.2.2, q⟩⟩
end
section
variable {X : Cx} {sub : Nat → Nat → Bool} {Γ : Z.Gam} {E : Z.PX}
theorem lc_none : PTs X [] (upT X.K (Z.wpC sub Γ E .none)) := by
  intro pins s σ H Q I ⟨ρ, h, τ, Q', R, L, w, k⟩
  erw [Z.wpC] at w
  exact pts_nil pins s σ H Q I (k true h ρ H .refl R w)
theorem lc_one (ht : LT X sub Γ E c t) : PTs X [c] (upT X.K (Z.wpC sub Γ E (.one t))) := by
  intro pins s σ H Q I ⟨ρ, h, τ, Q', R, L, w, k⟩
  erw [Z.wpC] at w
  exact pts_one ht pins s σ H Q I ⟨ρ, h, τ, Q', R, L, w, k⟩
def bd1 : V → Hp → List V → Prop := fun v _ vs => vs = [v]
def bd2 (K : Frag) : V → Hp → List V → Prop := fun v H vs => ∃ a, v = .ref a ∧ SqT K H a vs ∧ vs.length = 2
theorem bind_name (hN : X.N.Nodup) (hx : X.N[n]? = some x) (hl : X.env.scope.names.lookup x = some .local) : BindOk X (.Name x px) n 1 bd1 := by
  intro pins s σ os H v u vs I r hb hn hm
  cases hb
  obtain ⟨o, rfl⟩ := List.length_eq_one_iff.mp hm
  refine thn (pg_name hN hx (.inl hl) (.inr hl) pins s _ H v u (fun σ' H' => σ' = σ ++ [some v] ∧ H' = H) I r ⟨?_, rfl⟩) fun _ s1 ⟨σ1, H1, I1, e1, e2⟩ => ?_
  · subst hn
    rw [set_append_right _ _ (le_refl _)]; simp
  · subst e1 e2; exact I1
theorem len2 {α : Type} {l : List α} (h : l.length = 2) : ∃ a b, l = [a, b] := by
  match l, h with
  | [a, b], _ => exact ⟨a, b, rfl⟩
theorem bind_pair {x y : Str} {px py pt : Pos} {n k : Nat} (hc : X.calm = true) (hN : X.N.Nodup) (hx : X.N[n]? = some x) (hy : X.N[n + 1]? = some y) (hlx : X.env.scope.names.lookup x = some .local) (hly : X.env.scope.names.lookup y = some .local) :
    BindOk X (.Tuple [.Name x px, .Name y py] k pt) n 2 (bd2 X.K) := by
  intro pins s σ os H v u vs I r hb hn hm
  obtain ⟨a, rfl, hS, hv⟩ := hb
  obtain ⟨o, p, rfl⟩ := len2 hm
  obtain ⟨v1, v2, rfl⟩ := len2 hv
  refine thn (pg_tup (n := 2) hc (pgs_cons (pg_name (pos := px) hN hx (.inl hlx) (.inr hlx)) (pgs_cons (pg_name (pos := py) hN hy (.inl hly) (.inr hly)) pgs_nil)) (by rfl) (by rfl) pins s _ H _ u (fun σ' H' => σ' = σ ++ [some v1, some v2] ∧ H' = H) I r ⟨a, _, rfl, hS, rfl, v1, _, rfl, v2, _, rfl, rfl, ?_, rfl⟩) fun _ s1 ⟨σ1, H1, I1, e1, e2⟩ => ?_
  · subst hn
    rw [set_append_right _ _ (le_refl _), set_append_right _ _ (Nat.le_succ _)]; simp
  · subst e1 e2; exact I1
theorem RelL.more {K : Frag} {ρ : List Addr} {H : Hp} {τ : Z.Lo} {σ : L2.St} {ds : List Z.D} {vs : List V} (L : RelL K ρ H τ σ) (r : RelDs K ρ H ds vs) : RelL K ρ H (τ ++ ds.map some) (σ ++ vs.map some) := by
  refine ⟨by simp [L.1, r.length], fun i d e => ?_⟩
  by_cases hi : i < τ.length
  · rw [getElem?_append_left hi] at e
    rw [getElem?_append_left (by rw [← L.1]; exact hi)]
    exact L.2 i d e
  · rw [getElem?_append_right (by lia), getElem?_map] at e
    rw [getElem?_append_right (by rw [← L.1]; lia), getElem?_map, ← L.1]
    cases q : ds[i - τ.length]? with
    | none => rw [q] at e; cases e
    | some d' =>
      rw [q] at e; cases e
      obtain ⟨v, e1, e2⟩ := r.get q
      exact ⟨v, by rw [e1]; rfl, e2⟩
theorem more1 {K : Frag} {ρ : List Addr} {H : Hp} {d : Z.D} {v : V} {τ τ' : Z.Lo} {σ : L2.St} (r : RelD K ρ H d v) (L : RelL K ρ H τ σ) (e : Z.moreT 1 d τ = some τ') : ∃ vs, bd1 v H vs ∧ RelL K ρ H τ' (σ ++ vs.map some) := by
  have e : some (τ ++ [some d]) = some τ' := by rw [← e]; cases d <;> rfl
  cases e
  exact ⟨[v], rfl, RelL.more (ds := [d]) L (.one r)⟩
theorem more2 {K : Frag} {ρ : List Addr} {H : Hp} {d : Z.D} {v : V} {τ τ' : Z.Lo} {σ : L2.St} (r : RelD K ρ H d v) (L : RelL K ρ H τ σ) (e : Z.moreT 2 d τ = some τ') : ∃ vs, bd2 K v H vs ∧ RelL K ρ H τ' (σ ++ vs.map some) := by
  cases d with
  | tup ds =>
    erw [Z.moreT] at e
    split at e
    · rename_i hl
      cases e
      erw [RelD] at r
      obtain ⟨a, ys, rfl, q, r⟩ := r
      exact ⟨ys, ⟨a, rfl, q, by rw [← r.length]; exact hl⟩, L.more r⟩
    · cases e
  | _ => simp [Z.moreT] at e
theorem comp_weak {xs : List Str} {nt : Nat} {kd : Z.IK} {src : Z.Exs} {cond : Z.Txs} {elt' : Z.Ex} {bd : V → Hp → List V → Prop} (hmb : ∀ {ρ H d v τ τ' σ}, RelD X.K ρ H d v → RelL X.K ρ H τ σ → Z.moreT nt d τ = some τ' → ∃ vs, bd v H vs ∧ RelL X.K ρ H τ' (σ ++ vs.map some)) :
    ∀ σ H Q, upE X.K (Z.wpE sub Γ E (.comp kd src nt cond elt')) σ H Q → tComp (upI X.K kd (Z.wpEs sub Γ E src)) bd (upT X.K (Z.wpC sub Γ E cond)) (upE X.K (Z.wpE sub Γ E elt')) σ H Q := by
  rintro σ H Q ⟨ρ, h, τ, Q', R, L, w, k⟩
  erw [Z.wpE] at w
  refine ⟨ρ, h, τ, _, R, L, w, fun ds h1 ρ1 H1 vs e1 R1 r1 w1 => ?_⟩
  cases eJ : Z.iterOf kd ds h1 with
  | none => rw [eJ] at w1; exact w1.elim
  | some J =>
    rw [eJ] at w1
    refine ⟨J, rfl, fun J' hJ D hD => ?_⟩
    obtain ⟨W, ⟨m, w0⟩, turn⟩ := w1
    obtain ⟨eD, RD, rD⟩ := new_list (ds := []) (vs := []) R1 (by simp [RelDs]) hD
    refine ⟨fun i m H' => ∃ ρ' h', Ext X.K (ρ1 ++ [D]) (upd H1 D (.lst [])) ρ' H' ∧ Rep X.K ρ' h' H' ∧ W i m h', ⟨m, _, _, .refl, RD, w0⟩, ?_⟩
    rintro n m H2 ⟨ρ2, h2, e2, R2, w2⟩
    have t := turn n m h2 w2
    have j := hJ n ρ2 h2 H2 (eD.trans e2) R2
    have hDn : ρ2[h1.length]? = some D := e2.pre _ _ (by rw [← R1.len, getElem?_append_right (le_refl _)]; simp)
    cases ev : J n h2 with
    | none => rw [ev] at t; exact t.elim
    | some o =>
      rw [ev] at t j
      cases o with
      | none => exact .inl ⟨j, k _ h2 ρ2 H2 _ (e1.trans (eD.trans e2)) R2 (by erw [RelD]; exact ⟨D, rfl, hDn⟩) t⟩
      | some d =>
        obtain ⟨go, yl⟩ := j
        cases em : Z.moreT nt d τ with
        | none => erw [em] at t
        | some τ2 =>
          erw [em] at t
          obtain ⟨Nn, hNn, t⟩ := t
          refine .inr ⟨go, fun H' => ∃ m', m' < m ∧ ∃ ρ' h', Ext X.K (ρ1 ++ [D]) (upd H1 D (.lst [])) ρ' H' ∧ Rep X.K ρ' h' H' ∧ W (n + 1) m' h', fun H' q => q, fun v H' hy => ?_⟩
          obtain ⟨eX, R2, rv⟩ := yl v H' hy
          have e2 := e2.trans eX
          obtain ⟨vs', hb, L2'⟩ := hmb rv (L.mono (e1.trans (eD.trans e2))) em
          have nx : ∀ {ρ3 h3 H3}, Ext X.K ρ2 H' ρ3 H3 → Rep X.K ρ3 h3 H3 → Nn h3 → ∃ m', m' < m ∧ ∃ ρ' h', Ext X.K (ρ1 ++ [D]) (upd H1 D (.lst [])) ρ' H3 ∧ Rep X.K ρ' h' H3 ∧ W (n + 1) m' h' := fun e3 R3 q3 => by
            obtain ⟨m', hm, w3⟩ := hNn _ q3
            exact ⟨m', hm, _, _, e2.trans e3, R3, w3⟩
          refine ⟨vs', hb, ρ2, h2, τ2, _, R2, L2', t, fun c h3 ρ3 H3 e3 R3 q3 => ?_⟩
          cases c with
          | false => rw [if_neg (by decide)] at q3 ⊢; exact nx e3 R3 q3
          | true =>
            rw [if_pos rfl] at q3 ⊢
            refine ⟨ρ3, h3, τ2, _, R3, L2'.mono e3, q3, fun d4 h4 ρ4 H4 y e4 R4 r4 q4 => ?_⟩
            change (match Z.pApp [.ref h1.length, d4] h4 with | some (_, h5) => Nn h5 | none => False) at q4
            have hq : ∃ ys4, h4[h1.length]? = some (.lst ys4) ∧ ys4.length + 1 ≤ Z.lim ∧ Nn (h4.set h1.length (.lst (ys4 ++ [d4]))) := by
              unfold Z.pApp at q4
              cases e5 : h4[h1.length]? with
              | none => simp [e5] at q4
              | some o =>
                cases o with
                | lst ys4 =>
                  erw [e5, Z.setL] at q4
                  by_cases hl : (ys4 ++ [d4]).length ≤ Z.lim
                  · rw [if_pos hl] at q4
                    exact ⟨ys4, rfl, by simpa using hl, q4⟩
                  · rw [if_neg hl] at q4; exact q4.elim
                | _ => simp [e5] at q4
            obtain ⟨ys4, e5, hl, q5⟩ := hq
            obtain ⟨a, ys, ra, hn, ha, rs⟩ := lstAt R4 (by erw [RelD]; exact ⟨D, rfl, (e3.trans e4).pre _ _ hDn⟩) e5
            cases ra
            obtain ⟨e6, R6⟩ := set_list' (xs := []) R4 hn ha (rs.append (.one r4))
            exact ⟨ys, ha, by rw [← rs.length, ← limE]; lia, nx (e3.trans (e4.trans e6)) R6 q5⟩
theorem le_comp {tg elt iter : Expr} {ifs : List Expr} {M xs : List Str} {pos : Pos} {scope : Scope} {nt : Nat} {kd : Z.IK} {src : Z.Exs} {cond : Z.Txs} {elt' : Z.Ex} {bd : V → Hp → List V → Prop} (hcalm : X.calm = true) (S : ScOk X scope M xs) (hi : LI X sub Γ E tg iter kd src) (hbd : ∀ v H vs, bd v H vs → vs.length = xs.length) (hg : ∀ C s H fp, BindOk (cxB X scope (clOf X.env scope.names []) (M ++ xs) C s H fp) tg X.N.length xs.length bd) (hmb : ∀ {ρ H d v τ τ' σ}, RelD X.K ρ H d v → RelL X.K ρ H τ σ → Z.moreT nt d τ = some τ' → ∃ vs, bd v H vs ∧ RelL X.K ρ H τ' (σ ++ vs.map some)) (hc : ∀ C s H fp, PTs (cxB X scope (clOf X.env scope.names []) (M ++ xs) C s H fp) ifs (upT X.K (Z.wpC sub Γ E cond))) (he : ∀ C s H fp, LE (cxB X scope (clOf X.env scope.names []) (M ++ xs) C s H fp) sub Γ E elt elt') (hs : ∀ v, foldedSetIterable iter X.env v = pure v) : LE X sub Γ E (.ListComp elt [⟨tg, iter, ifs, 0⟩] scope pos) (.comp kd src nt cond elt') := by
  refine PEw (pe_comp (te := upE X.K (Z.wpE sub Γ E elt')) hcalm S hi hbd hg hc he hs) (comp_weak (xs := xs) hmb)
theorem ls_comp {i : Nat} {y : Str} {py spos : Pos} {tg elt iter : Expr} {ifs : List Expr} {M xs : List Str} {pos : Pos} {scope : Scope} {nt : Nat} {kd : Z.IK} {src : Z.Exs} {cond : Z.Txs} {elt' : Z.Ex} {bd : V → Hp → List V → Prop} (hcalm : X.calm = true) (S : ScOk X scope M xs) (hi : LI X sub Γ E tg iter kd src) (hbd : ∀ v H vs, bd v H vs → vs.length = xs.length) (hg : ∀ C s H fp, BindOk (cxB X scope (clOf X.env scope.names []) (M ++ xs) C s H fp) tg X.N.length xs.length bd) (hmb : ∀ {ρ H d v τ τ' σ}, RelD X.K ρ H d v → RelL X.K ρ H τ σ → Z.moreT nt d τ = some τ' → ∃ vs, bd v H vs ∧ RelL X.K ρ H τ' (σ ++ vs.map some)) (hc : ∀ C s H fp, PTs (cxB X scope (clOf X.env scope.names []) (M ++ xs) C s H fp) ifs (upT X.K (Z.wpC sub Γ E cond))) (he : ∀ C s H fp, LE (cxB X scope (clOf X.env scope.names []) (M ++ xs) C s H fp) sub Γ E elt elt') (hs : ∀ v, foldedSetIterable iter X.env v = pure v) (hN : X.N.Nodup) (hy : X.N[i]? = some y) (hx : Loc X.env.scope y) (hf : X.fn y = true ∨ X.env.scope.names.lookup y = some .local) (hsw : swapsWith (.ListComp elt [⟨tg, iter, ifs, 0⟩] scope pos) (some (.Name y py)) spos.line X.env = pure true) : LS X sub Γ E (.Assign [.Name y py] (.ListComp elt [⟨tg, iter, ifs, 0⟩] scope pos) spos) (.asg i (.comp kd src nt cond elt')) := by
  refine PSw (ps_comp (te := upE X.K (Z.wpE sub Γ E elt')) hcalm S hi hbd hg hc he hs hN hy hx hf hsw) ?_
  rintro D σ H ⟨ρ, h, τ, N, R, L, w, k⟩
  erw [Z.wpS] at w
  exact comp_weak (xs := xs) hmb σ H _ ⟨ρ, h, τ, _, R, L, w, fun d h1 ρ1 H1 v e1 R1 r1 q1 => k.nx _ h1 ρ1 H1 _ e1 R1 ((L.mono e1).set r1) q1⟩
theorem ls_setx (hu : X.A.units + 200 < cLine) (he : LE X sub Γ E e e') (ho : LE X sub Γ E o o') (hi : LE X sub Γ E i i') (ha : ∀ v, assign (.Subscript o i p) X.env v = (do let ov ← holding [v] (eval o X.env); let iv ← holding [v, ov] (eval i X.env); standAt p; holding [v, ov, iv] (setItem ov iv v); release [v, ov, iv] [])) (hs : swapsWithSole [.Subscript o i p] e pos.line X.env = pure false) (hw : swappedStores [.Subscript o i p] e X.env = pure none) : LS X sub Γ E (.Assign [.Subscript o i p] e pos) (.setx o' i' e') := by
  refine PSw (ps_asg he (pg_sub ho hi (s_setx (sub := sub) hu) ha) hs hw rfl) ?_
  rintro D σ H ⟨ρ, h, τ, N, R, L, w, k⟩
  erw [Z.wpS] at w
  refine ⟨ρ, h, τ, _, R, L, w, fun d1 h1 ρ1 H1 x e1 R1 r1 w1 => ?_⟩
  refine ⟨ρ1, h1, τ, _, R1, L.mono e1, w1, fun d2 h2 ρ2 H2 y e2 R2 r2 w2 => ?_⟩
  refine ⟨ρ2, h2, τ, _, R2, L.mono (e1.trans e2), w2, fun d3 h3 ρ3 H3 z e3 R3 r3 w3 => ?_⟩
  cases q : Z.prim sub .setx [d2, d3, d1] h3 with
  | none => rw [q] at w3; exact w3.elim
  | some t =>
    rw [q] at w3
    exact ⟨ρ3, h3, _, t.1, t.2, R3, rel3 (RelD.mono e3 _ _ r2) r3 (RelD.mono (e2.trans e3) _ _ r1), q, fun ρ' H' v e' R' r' => k.nx τ _ ρ' H' σ (e1.trans (e2.trans (e3.trans e'))) R' (L.mono (e1.trans (e2.trans (e3.trans e')))) w3⟩
theorem bind2 {K : Frag} {ρ : List Addr} {H : Hp} {d : Z.D} {v : V} {τ τ' : Z.Lo} {σ : L2.St} {i j : Nat} (r : RelD K ρ H d v) (L : RelL K ρ H τ σ) (e : Z.bindT [i, j] d τ = some τ') :
    ∃ a v1 v2, v = .ref a ∧ SqT K H a [v1, v2] ∧ RelL K ρ H τ' ((σ.set i (some v1)).set j (some v2)) := by
  cases d with
  | tup ds =>
    erw [Z.bindT] at e
    split at e
    · rename_i hl
      cases e
      erw [RelD] at r
      obtain ⟨a, ys, rfl, q, r⟩ := r
      obtain ⟨d1, d2, rfl⟩ := len2 (l := ds) (by simpa using hl.symm)
      erw [RelDs] at r
      obtain ⟨v1, _, rfl, r1, v2, _, rfl, r2, rfl⟩ := r
      exact ⟨a, v1, v2, rfl, q, (L.set r1).set r2⟩
    · cases e
  | _ => simp [Z.bindT] at e
theorem ls_unp2 {i j : Nat} {x y : Str} {e : Expr} {e' : Z.Ex} {px py pt pos : Pos} {k : Nat} (hc : X.calm = true) (hN : X.N.Nodup) (hi : X.N[i]? = some x) (hj : X.N[j]? = some y) (hx : Loc X.env.scope x) (hy : Loc X.env.scope y) (hfx : X.fn x = true ∨ X.env.scope.names.lookup x = some .local) (hfy : X.fn y = true ∨ X.env.scope.names.lookup y = some .local) (he : LE X sub Γ E e e') (hs : swapsWithSole [.Tuple [.Name x px, .Name y py] k pt] e pos.line X.env = pure false) (hw : swappedStores [.Tuple [.Name x px, .Name y py] k pt] e X.env = pure none) : LS X sub Γ E (.Assign [.Tuple [.Name x px, .Name y py] k pt] e pos) (.unp [i, j] e') := by
  refine PSw (ps_asg he (pg_tup (n := 2) hc (pgs_cons (pg_name (pos := px) hN hi hx hfx) (pgs_cons (pg_name (pos := py) hN hj hy hfy) pgs_nil)) (by rfl) (by rfl)) hs hw rfl) ?_
  rintro D σ H ⟨ρ, h, τ, N, R, L, w, k⟩
  erw [Z.wpS] at w
  refine ⟨ρ, h, τ, _, R, L, w, fun d1 h1 ρ1 H1 v e1 R1 r1 w1 => ?_⟩
  cases eb : Z.bindT [i, j] d1 τ with
  | none => rw [eb] at w1; exact w1.elim
  | some τ' =>
    rw [eb] at w1
    obtain ⟨a, v1, v2, rfl, hS, L'⟩ := bind2 r1 (L.mono e1) eb
    exact ⟨a, _, rfl, hS, rfl, v1, _, rfl, v2, _, rfl, rfl, k.nx τ' h1 ρ1 H1 _ e1 R1 L' w1⟩
end
end ZS
namespace ZS
open PySem PySem.Spec PyProof.Rows L2
section
variable [R0]
section
variable {X : Cx} {sub : Nat → Nat → Bool} {Γ : Z.Gam} {E : Z.PX}
theorem zv (i : Nat) (hN : X.N[i]? = some x := by rfl) (hv : Vis X.env.scope x := by first | exact Or.inl rfl | exact Or.inr (Or.inl rfl) | exact Or.inr (Or.inr rfl)) (hd : ZDbg x := by decide) (hcd : (x == ("__classdict__" : Str)) = false := by decide) : LE X sub Γ E (.Name x pos) (.var i) := le_var hN hv hd hcd
theorem zi : LE X sub Γ E (.Constant (.int n) k pos) (.lit (.int n)) := le_lit pe_int fun _ _ => by erw [RelD]
theorem zb : LE X sub Γ E (.Constant (.bool b) k pos) (.lit (.bl b)) := le_lit pe_bl fun _ _ => by erw [RelD]
theorem zn : LE X sub Γ E (.Constant .none k pos) (.lit .non) := le_lit pe_non fun _ _ => by erw [RelD]
theorem zs (h : s = ⟨l.toArray⟩) (hl : l.length ≤ Z.lim) : LE X sub Γ E (.Constant (.str s) k pos) (.lit (.str l)) := le_lit pe_str fun _ _ => by erw [RelD]; exact ⟨congrArg V.str h, hl⟩
theorem zu (hr : Room k X.A) : X.A.units + 200 < cLine := by have := hr.un; lia
theorem zix (hr : Room k X.A) (ha : LE X sub Γ E a a') (hb : LE X sub Γ E b b') (hs : PlainIx b := by intro _ _; rfl) : LE X sub Γ E (.Subscript a b pos) (.prim .idx (.cons a' (.cons b' .nil))) := le_ix (i_idx (zu hr)) ha hb hs
theorem zargs (he : LE X sub Γ E e e') (hes : LA X sub Γ E es es') (hs : ZStE X.env e es := by rfl) : LA X sub Γ E (e :: es) (.cons e' es') := la_cons he hes hs
theorem zcallB {x : Str} {id : String} {e : Expr} {es : List Expr} {es' : Z.Exs} {p : Z.Prim} {q pos : Pos} (hc : CallR X (.builtin id) (rP X.K sub p)) (hm : X.mg x = none) (hv : bootBuiltins x = some (.builtin id)) (ha : LA X sub Γ E (e :: es) es') (hg : Gl X x := by rfl) (hn : x ≠ "__name__" := by decide) (hdb : ZDbg x := by decide) (he : ZStE X.env e es := by rfl) (hpl : ZBkT X.env es pos := by rfl) :
    LE X sub Γ E (.Call (.Name x q) (e :: es) [] pos) (.prim p es') := le_callB hc hg hm hv ha hn hdb he hpl
theorem zcallT {x : Str} {id : String} {e : Expr} {es : List Expr} {es' : Z.Exs} {p : Z.Prim} {q pos : Pos} (hc : CallR X (.type id) (rP X.K sub p)) (hm : X.mg x = none) (hv : bootBuiltins x = some (.type id)) (ha : LA X sub Γ E (e :: es) es') (hg : Gl X x := by rfl) (hn : x ≠ "__name__" := by decide) (hdb : ZDbg x := by decide) (he : ZStE X.env e es := by rfl) (hpl : ZBkT X.env es pos := by rfl) :
    LE X sub Γ E (.Call (.Name x q) (e :: es) [] pos) (.prim p es') := le_callTy hc hg hm hv ha hn hdb he hpl
theorem zisi (hm : X.mg "isinstance" = none) (hmt : X.mg tn = none) (hvt : bootBuiltins tn = some (.type (KNn k))) (he : LE X sub Γ E e e') (hk : ∀ c, k ≠ .cls c := by intro _ z; cases z) (hg : Gl X "isinstance" := by rfl) (hgt : Gl X tn := by rfl) (hnn : tn ≠ "__name__" := by decide) (hdd : ZDbg tn := by decide) (hs : ∀ es, ZStE X.env e es := by intro _; rfl) :
    LE X sub Γ E (.Call (.Name "isinstance" p) [e, .Name tn p2] [] pos) (.prim (.isi k) (.cons e' .nil)) := le_isi hk hg hm hgt hmt hvt hnn hdd he hs
theorem zmth {o e : Expr} {es : List Expr} {o' : Z.Ex} {es' : Z.Exs} {m : Z.MK} {p : Z.Prim} {name : Str} {apos cpos : Pos} {id : String} (pa : PlainAttrs (MKn m)) (slot : Slot (MKn m) name id) (hty : typeOf (.builtin id) = pure (.type "method_descriptor")) (hm : MtR X id (fun x xs => rP X.K sub p (x :: xs))) (ho : LE X sub Γ E o o') (ha : LA X sub Γ E (e :: es) es') (hmk : m ≠ .dict := by decide) (hmt : m ≠ .tuple := by decide) (hbase : attributeBase o name X.env (eval o X.env) = eval o X.env := by rfl) (hfew : ((backTo cpos (starEach (e :: es) X.env)).all (fun x => !x.1) && (backToKw cpos (keywordEach [] X.env)).all (fun x => x.1.isSome)
      && decide ((e :: es).length + ([] : List Keyword).length + (if ([] : List Keyword).isEmpty then 0 else 1) < 30)) = true := by rfl) (hline : (apos.endLine == cpos.line) = true := by rfl) (hs : ZStE X.env e es := by rfl) (hplain : ZBkT X.env es cpos := by rfl) :
    LE X sub Γ E (.Call (.Attribute o name apos) (e :: es) [] cpos) (.mth m p o' es') := le_mth hmk hmt pa slot hty hm ho ha hbase hfew hline hs hplain
theorem zmth0 {o : Expr} {o' : Z.Ex} {m : Z.MK} {p : Z.Prim} {name : Str} {apos cpos : Pos} {id : String} (pa : PlainAttrs (MKn m)) (slot : Slot (MKn m) name id) (hty : typeOf (.builtin id) = pure (.type "method_descriptor")) (hm : MtR X id (fun x xs => rP X.K sub p (x :: xs))) (ho : LE X sub Γ E o o') (hmk : m ≠ .dict := by decide) (hmt : m ≠ .tuple := by decide) (hbase : attributeBase o name X.env (eval o X.env) = eval o X.env := by rfl) (hline : (apos.endLine == cpos.line) = true := by rfl) :
    LE X sub Γ E (.Call (.Attribute o name apos) [] [] cpos) (.mth m p o' .nil) := le_mth0 hmk hmt pa slot hty hm ho hbase hline
theorem zcall (hr : Room k X.A) (F : FnOk X.prog X.w X.K X.mg X.base CX0 k f fd ps (spUp X.K Γ i)) (hm : X.mg x = some (.ref f)) (hk : keepIn X.K (.ref f) = true) (hb : Binds X.K fd ps []) (ha : LA X sub Γ E (e :: es) es') (hg : Gl X x := by rfl) (hdb : ZDbg x := by decide) (he : ZStE X.env e es := by rfl) (hpl : ZBkT X.env es pos := by rfl) :
    LE X sub Γ E (.Call (.Name x p) (e :: es) [] pos) (.call i es' []) := le_call F hr hg hm hk hb .nil pass0 (fun _ _ => by erw [RelDs]) ha hdb he hpl
theorem ztru (ha : LE X sub Γ E a a') (he : ∀ whole, isTrue a X.env whole = (do let v ← whole; standAt a.pos; holding [v] (truthy v)) := by intro _; rfl) : LT X sub Γ E a (.tru a') := lt_tru ha he
theorem isB_cmp (hp : Z.prim sub p = Z.pCmp f) (ds : List Z.D) (h : Z.AH) (d : Z.D) (h' : Z.AH) (e : Z.prim sub p ds h = some (d, h')) : ∃ c, d = .bl c := by
  rw [hp] at e
  unfold Z.pCmp at e
  split at e
  · cases e; exact ⟨_, rfl⟩
  · cases e
theorem isB_eq (hp : Z.prim sub p = Z.pEq n) (ds : List Z.D) (h : Z.AH) (d : Z.D) (h' : Z.AH) (e : Z.prim sub p ds h = some (d, h')) : ∃ c, d = .bl c := by
  rw [hp] at e
  unfold Z.pEq at e
  split at e
  · rename_i x y
    cases z : Z.eqH h x y with
    | none => rw [z] at e; cases e
    | some b => rw [z] at e; cases e; exact ⟨_, rfl⟩
  · cases e
theorem isB_in (hp : Z.prim sub p = Z.pIn n) (ds : List Z.D) (h : Z.AH) (d : Z.D) (h' : Z.AH) (e : Z.prim sub p ds h = some (d, h')) : ∃ c, d = .bl c := by
  rw [hp] at e
  unfold Z.pIn at e
  split at e
  · rename_i x ys
    cases z : Z.inDs x ys with
    | none => rw [z] at e; cases e
    | some b => rw [z] at e; cases e; exact ⟨_, rfl⟩
  · rename_i x ys
    cases z : Z.inDs x ys with
    | none => rw [z] at e; cases e
    | some b => rw [z] at e; cases e; exact ⟨_, rfl⟩
  · rename_i x a
    split at e
    · rename_i ys _
      cases z : Z.inDs x ys with
      | none => rw [z] at e; cases e
      | some b => rw [z] at e; cases e; exact ⟨_, rfl⟩
    · cases z : Z.kkOf x with
      | none => rw [z] at e; cases e
      | some b => rw [z] at e; cases e; exact ⟨_, rfl⟩
    · cases e
  · cases e
theorem isB_N (hp : Z.prim sub p = Z.pIsN n) (ds : List Z.D) (h : Z.AH) (d : Z.D) (h' : Z.AH) (e : Z.prim sub p ds h = some (d, h')) : ∃ c, d = .bl c := by
  rw [hp] at e
  unfold Z.pIsN at e
  split at e
  · cases e; exact ⟨_, rfl⟩
  · cases e; exact ⟨_, rfl⟩
  · cases e
theorem zexpr (he : LE X sub Γ E e e') (hs : swapsWith e none pos.line X.env = pure false := by rfl) : LS X sub Γ E (.Expr e pos) (.expr e') := ls_expr he hs
theorem zasg (i : Nat) (hN : X.N.Nodup) (he : LE X sub Γ E e e') (hi : X.N[i]? = some x := by rfl) (hx : Loc X.env.scope x := by first | exact Or.inl rfl | exact Or.inr rfl) (hs : swapsWith e (some (.Name x pos')) pos.line X.env = pure false := by rfl) (hf : X.fn x = true ∨ X.env.scope.names.lookup x = some .local := by first | exact .inl rfl | exact .inr rfl) : LS X sub Γ E (.Assign [.Name x pos'] e pos) (.asg i e') := ls_asg hN hi hx he hs hf
theorem zsetx (hr : Room k X.A) (he : LE X sub Γ E e e') (ho : LE X sub Γ E o o') (hi : LE X sub Γ E i i') (ha : ∀ v, assign (.Subscript o i p) X.env v = (do let ov ← holding [v] (eval o X.env); let iv ← holding [v, ov] (eval i X.env); standAt p; holding [v, ov, iv] (setItem ov iv v); release [v, ov, iv] []) := by intro _; rfl) (hs : swapsWithSole [.Subscript o i p] e pos.line X.env = pure false := by rfl) (hw : swappedStores [.Subscript o i p] e X.env = pure none := by rfl) : LS X sub Γ E (.Assign [.Subscript o i p] e pos) (.setx o' i' e') := ls_setx (zu hr) he ho hi ha hs hw
theorem zunp (i j : Nat) (hc : X.calm = true) (hN : X.N.Nodup) (he : LE X sub Γ E e e') (hi : X.N[i]? = some x := by rfl) (hj : X.N[j]? = some y := by rfl) (hx : Loc X.env.scope x := by first | exact Or.inl rfl | exact Or.inr rfl) (hy : Loc X.env.scope y := by first | exact Or.inl rfl | exact Or.inr rfl) (hfx : X.fn x = true ∨ X.env.scope.names.lookup x = some .local := by first | exact .inl rfl | exact .inr rfl) (hfy : X.fn y = true ∨ X.env.scope.names.lookup y = some .local := by first | exact .inl rfl | exact .inr rfl) (hs : swapsWithSole [.Tuple [.Name x px, .Name y py] k pt] e pos.line X.env = pure false := by rfl) (hw : swappedStores [.Tuple [.Name x px, .Name y py] k pt] e X.env = pure none := by rfl) : LS X sub Γ E (.Assign [.Tuple [.Name x px, .Name y py] k pt] e pos) (.unp [i, j] e') := ls_unp2 hc hN hi hj hx hy hfx hfy he hs hw
theorem zfor (i : Nat) (hp : PassesOwn (model X.prog X.w) X.A X.env X.xe) (hc : X.calm = true) (hN : X.N.Nodup) (hit : LI X sub Γ E (.Name x tpos) iter kd src) (hb : LSs X sub Γ E body b') (hi : X.N[i]? = some x := by rfl) (hx : Loc X.env.scope x := by first | exact Or.inl rfl | exact Or.inr rfl) (hf : X.fn x = true ∨ X.env.scope.names.lookup x = some .local := by first | exact .inl rfl | exact .inr rfl) (hs : ∀ x, foldedSetIterable iter X.env x = pure x := by intro _; rfl) : LS X sub Γ E (.For (.Name x tpos) iter body [] pos) (.forr [i] kd src b') := ls_for (tg := iter) hp hc hN hi hx hf hit hb hs
def scOkB (N M xs : List Str) (sc0 scope : Scope) : Bool :=
  decide (scope.kind = .function) && decide ((M ++ xs).Nodup) && decide (M.length = N.length)
    && (M.zip N).all (fun p => decide (scope.names.lookup p.1 = none) || (decide (p.1 = p.2) && !decide (scope.names.lookup p.1 = some .local)))
    && scope.names.all (fun y => decide (y.2 ≠ .cell) && (decide (y.2 ≠ .free) || decide (sc0.names.lookup y.1 = some .cell) || decide (sc0.names.lookup y.1 = some .free)) && (decide (y.2 ≠ .local) || decide (scope.names.lookup y.1 = some .local)))
    && xs.all (fun x => decide (scope.names.lookup x = some .local))
theorem ScOk.of (h : scOkB N M xs sc0 scope = true) (hN : X.N = N) (hs : X.env.scope = sc0) : ScOk X scope M xs := by
  unfold scOkB at h
  erw [and_eq_true, decide_eq_true_eq, List.all_eq_true, or_eq_true] at h
  obtain ⟨⟨⟨⟨⟨h1, h2⟩, h3⟩, h4⟩, h5⟩, h6⟩ := h
  refine ⟨h1, h2, by rw [hN]; exact h3, fun p hp => ?_, fun y hy => (h5 y hy).1.1, fun y hy e => ?_, h6, fun y hy e => ?_⟩
  · rw [hN] at hp
    rcases h4 p hp with z | z
    · exact .inl z
    · exact .inr ⟨z.1, by simpa using z.2⟩
  · show X.env.scope.names.lookup y.1 = _ ∨ X.env.scope.names.lookup y.1 = _
    rw [hs]
    rcases (h5 y hy).1.2 with (z | z) | z
    · exact absurd e z
    · exact .inl z
    · exact .inr z
  · rcases (h5 y hy).2 with z | z
    · exact absurd e z
    · exact z
theorem zcomp1 (N M : List Str) (sc0 : Scope) {x : Str} {px : Pos} {elt iter : Expr} {ifs : List Expr} {pos : Pos} {scope : Scope} {kd : Z.IK} {src : Z.Exs} {cond : Z.Txs} {elt' : Z.Ex} (hcalm : X.calm = true) (hi : LI X sub Γ E (.Name x px) iter kd src) (hc : ∀ C s H fp, PTs (cxB X scope (clOf X.env scope.names []) (M ++ [x]) C s H fp) ifs (upT X.K (Z.wpC sub Γ E cond))) (he : ∀ C s H fp, LE (cxB X scope (clOf X.env scope.names []) (M ++ [x]) C s H fp) sub Γ E elt elt') (hS : scOkB N M [x] sc0 scope = true := by decide +kernel) (hN : X.N = N := by rfl) (hs0 : X.env.scope = sc0 := by rfl) (hs : ∀ v, foldedSetIterable iter X.env v = pure v := by intro _; rfl) : LE X sub Γ E (.ListComp elt [⟨.Name x px, iter, ifs, 0⟩] scope pos) (.comp kd src 1 cond elt') := by
  have S := ScOk.of hS hN hs0
  refine le_comp (bd := bd1) hcalm S hi (fun v H vs e => by rw [e]; rfl) (fun C s H fp => bind_name S.nd ?_ (lookup_relabel_local (S.loc x (by simp)))) (fun r L e => more1 r L e) hc he hs
  show (M ++ [x])[X.N.length]? = _
  rw [← S.len, getElem?_append_right (le_refl _)]; simp
theorem zasgc1 (i : Nat) {y : Str} {py spos : Pos} (hNd : X.N.Nodup) (N M : List Str) (sc0 : Scope) {x : Str} {px : Pos} {elt iter : Expr} {ifs : List Expr} {pos : Pos} {scope : Scope} {kd : Z.IK} {src : Z.Exs} {cond : Z.Txs} {elt' : Z.Ex} (hcalm : X.calm = true) (hi : LI X sub Γ E (.Name x px) iter kd src) (hc : ∀ C s H fp, PTs (cxB X scope (clOf X.env scope.names []) (M ++ [x]) C s H fp) ifs (upT X.K (Z.wpC sub Γ E cond))) (he : ∀ C s H fp, LE (cxB X scope (clOf X.env scope.names []) (M ++ [x]) C s H fp) sub Γ E elt elt') (hS : scOkB N M [x] sc0 scope = true := by decide +kernel) (hN : X.N = N := by rfl) (hs0 : X.env.scope = sc0 := by rfl) (hs : ∀ v, foldedSetIterable iter X.env v = pure v := by intro _; rfl) (hy : X.N[i]? = some y := by rfl) (hly : Loc X.env.scope y := by first | exact Or.inl rfl | exact Or.inr rfl) (hfy : X.fn y = true ∨ X.env.scope.names.lookup y = some .local := by first | exact .inl rfl | exact .inr rfl) (hsw : swapsWith (.ListComp elt [⟨.Name x px, iter, ifs, 0⟩] scope pos) (some (.Name y py)) spos.line X.env = pure true := by rfl) : LS X sub Γ E (.Assign [.Name y py] (.ListComp elt [⟨.Name x px, iter, ifs, 0⟩] scope pos) spos) (.asg i (.comp kd src 1 cond elt')) := by
  have S := ScOk.of hS hN hs0
  refine ls_comp (bd := bd1) hcalm S hi (fun v H vs e => by rw [e]; rfl) (fun C s H fp => bind_name S.nd ?_ (lookup_relabel_local (S.loc x (by simp)))) (fun r L e => more1 r L e) hc he hs hNd hy hly hfy hsw
  show (M ++ [x])[X.N.length]? = _
  rw [← S.len, getElem?_append_right (le_refl _)]; simp
theorem zasgc2 (i : Nat) {z : Str} {pz spos : Pos} (hNd : X.N.Nodup) (N M : List Str) (sc0 : Scope) {x y : Str} {px py pt : Pos} {k : Nat} {elt iter : Expr} {ifs : List Expr} {pos : Pos} {scope : Scope} {kd : Z.IK} {src : Z.Exs} {cond : Z.Txs} {elt' : Z.Ex} (hcalm : X.calm = true) (hi : LI X sub Γ E (.Tuple [.Name x px, .Name y py] k pt) iter kd src) (hc : ∀ C s H fp, PTs (cxB X scope (clOf X.env scope.names []) (M ++ [x, y]) C s H fp) ifs (upT X.K (Z.wpC sub Γ E cond))) (he : ∀ C s H fp, LE (cxB X scope (clOf X.env scope.names []) (M ++ [x, y]) C s H fp) sub Γ E elt elt') (hS : scOkB N M [x, y] sc0 scope = true := by decide +kernel) (hN : X.N = N := by rfl) (hs0 : X.env.scope = sc0 := by rfl) (hs : ∀ v, foldedSetIterable iter X.env v = pure v := by intro _; rfl) (hz : X.N[i]? = some z := by rfl) (hlz : Loc X.env.scope z := by first | exact Or.inl rfl | exact Or.inr rfl) (hfz : X.fn z = true ∨ X.env.scope.names.lookup z = some .local := by first | exact .inl rfl | exact .inr rfl) (hsw : swapsWith (.ListComp elt [⟨.Tuple [.Name x px, .Name y py] k pt, iter, ifs, 0⟩] scope pos) (some (.Name z pz)) spos.line X.env = pure true := by rfl) : LS X sub Γ E (.Assign [.Name z pz] (.ListComp elt [⟨.Tuple [.Name x px, .Name y py] k pt, iter, ifs, 0⟩] scope pos) spos) (.asg i (.comp kd src 2 cond elt')) := by
  have S := ScOk.of hS hN hs0
  refine ls_comp (bd := bd2 X.K) hcalm S hi (fun v H vs e => by obtain ⟨_, _, _, z⟩ := e; exact z) (fun C s H fp => bind_pair hcalm S.nd ?_ ?_ (lookup_relabel_local (S.loc x (by simp))) (lookup_relabel_local (S.loc y (by simp)))) (fun r L e => more2 r L e) hc he hs hNd hz hlz hfz hsw
  · show (M ++ [x, y])[X.N.length]? = _
    rw [← S.len, getElem?_append_right (le_refl _)]; simp
  · show (M ++ [x, y])[X.N.length + 1]? = _
    rw [← S.len, getElem?_append_right (Nat.le_succ _)]; simp
theorem body_ok {body : List Stmt} {df : Z.Def} {N : List Str} {K : Frag} {ρ : List Addr} {h : Z.AH} {H : Hp} {ds : List Z.D} {vs : List V} {Q : VK} {Q' : Z.PV} (hK : X.K = K) (hN : N.length = df.nl) (hp : ds.length = df.np) (J : LSs X sub Γ E body df.body) (R : Rep K ρ h H) (r : RelDs K ρ H ds vs) (w : Z.wpSs sub Γ E df.body { nx := fun _ h => Q' .non h, rt := Q' } (ds.map some ++ replicate (df.nl - df.np) none) h) (k : ∀ d h' ρ' H' v, Ext K ρ H ρ' H' → Rep K ρ' h' H' → RelD K ρ' H' d v → Q' d h' → Q v H') :
    ∃ t, PSs X body t ∧ t { nx := fun _ H' => Q .non H', rt := Q } (L2.start N vs) H := by
  subst hK
  refine ⟨_, J, ρ, h, _, _, R, ?_, w, ⟨fun τ h' ρ' H' σ e R' L q => k _ h' ρ' H' _ e R' (by erw [RelD]) q, k, fun _ _ _ _ _ _ _ _ q => q.elim, fun _ _ _ _ _ _ _ _ q => q.elim⟩⟩
  have hl := r.length
  refine ⟨by simp [L2.start, hl, hN, ← hp], fun i d e => ?_⟩
  unfold L2.start
  by_cases hi : i < ds.length
  · rw [getElem?_append_left (by simpa using hi), getElem?_map] at e
    rw [getElem?_append_left (by simpa [← hl] using hi), getElem?_map]
    cases q : ds[i]? with
    | none => rw [q] at e; cases e
    | some d' =>
      rw [q] at e; cases e
      obtain ⟨v, e1, e2⟩ := r.get q
      exact ⟨v, by rw [e1]; rfl, e2⟩
  · rw [getElem?_append_right (by simpa using hi), getElem?_replicate] at e
    split at e <;> cases e
end
theorem def_ok {P : Program} {w : World} {K : Frag} {mg : Str → Option Value} {base : Heap} {sub : Nat → Nat → Bool} {Pg : List Z.Def} {x : Str} {st : Stmt} {f : Addr} {fd : FuncData} {N ps : List Str} {k i : Nat} {df : Z.Def} (F : Fun K x x st f fd) (S : FnScope N ps (defScope st)) (hi : Pg[i]? = some df) (hN : N.length = df.nl) (hp : ps.length = df.np) (J : ∀ (cdv : Value) (A : Around) (outer : List Env) (s : Shared) (H : Hp) (E : XK) (E' : Z.PX), Room k (A.deeper (envOfC x (defScope st) s.heap.objs.size f cdv)) → LSs (cxOf CX0 P w K mg base N x (defScope st) f cdv A outer s H E).nox sub (Z.wpCall sub Pg k) (Z.EF E') (defBody st) df.body) :
    FnOk P w K mg base CX0 (k + 1) f fd ps (spUp K (Z.wpCall sub Pg (k + 1)) i) := by
  refine F.ok S (fun vs H Q E h => ?_) (fun cdv A outer s H vs Q E hr h => ?_)
  · obtain ⟨ρ, h, ds, Q', E', R, r, w, kk⟩ := h
    erw [Z.wpCall, hi] at w
    rw [← r.length, hp]; exact w.1
  · obtain ⟨ρ, h, ds, Q', E', R, r, w, kk⟩ := h
    erw [Z.wpCall, hi] at w
    exact body_ok (sub := sub) (Γ := Z.wpCall sub Pg k) (E := Z.EF E') (df := df) rfl hN w.1 (J cdv A outer s H E E' hr) R r w.2 kk
theorem def_no {P : Program} {w : World} {K : Frag} {mg : Str → Option Value} {base : Heap} {sub : Nat → Nat → Bool} {Pg : List Z.Def} {f : Addr} {fd : FuncData} {ps : List Str} {i : Nat} : FnOk P w K mg base CX0 0 f fd ps (spUp K (Z.wpCall sub Pg 0) i) := by
  have no : ∀ vs H Q E, ¬ spUp K (Z.wpCall sub Pg 0) i vs H Q E := fun vs H Q E h => by
    obtain ⟨ρ, h, ds, Q', E', R, r, w, kk⟩ := h
    erw [Z.wpCall] at w
  exact ⟨fun vs H Q E h => absurd h (no vs H Q E), fun A outer s H args us vs Q E _ _ _ _ h => absurd h (no vs H Q E)⟩
theorem bt_len : bootBuiltins "len" = some (.builtin "len") := by decide +kernel
theorem bt_max : bootBuiltins "max" = some (.builtin "max") := by decide +kernel
theorem bt_list : bootBuiltins "list" = some (.type "list") := by decide +kernel
theorem bt_tuple : bootBuiltins "tuple" = some (.type "tuple") := by decide +kernel
theorem bt_str : bootBuiltins "str" = some (.type "str") := by decide +kernel
theorem bt_range : bootBuiltins "range" = some (.type "range") := by decide +kernel
theorem bt_zip : bootBuiltins "zip" = some (.type "zip") := by decide +kernel
theorem rel_ints {K : Frag} {ρ : List Addr} {H : Hp} : ∀ ns : List Int, RelDs K ρ H (ns.map .int) (ns.map V.int)
  | [] => by erw [map_nil, RelDs]
  | n :: ns => by erw [map_cons, RelDs]; exact ⟨_, _, rfl, by erw [RelD], rel_ints ns⟩
end
theorem ext_nil {H : Hp} {K : Frag} : Ext K [] (fun _ => none) [] H := ⟨(fun _ _ e => e), (fun _ _ e => by cases e), (fun _ _ _ e => by cases e)⟩
abbrev R0.nil : R0 := ⟨[], fun _ => none⟩
theorem sp_entry {K : Frag} {H : Hp} {a : Addr} {ns : List Int} {sub : Nat → Nat → Bool} {Pg : List Z.Def} {k i : Nat} (hO : Only H) (hS : SqL K H a (ns.map V.int)) (hZ : ∀ o, K.lookup a = some o → o.slots = #[]) (w : Z.wpCall sub Pg k i [.rol (ns.map .int)] [] (fun d _ => d = .bl true) fun _ _ => False) :
    @spUp R0.nil K (Z.wpCall sub Pg k) i [.ref a] H (fun v _ => v = .bl true) fun _ _ _ => False := by
  letI : R0 := R0.nil
  refine ⟨[], [], [.rol (ns.map .int)], _, fun _ _ => False, ⟨rfl, List.nodup_nil, ext_nil, fun n o e => by simp at e⟩, .one ?_, w, fun d h' ρ' H' v e R r q => ?_⟩
  · erw [RelD]
    refine ⟨a, _, rfl, ?_, rel_ints ns⟩
    rcases hS with (h | ⟨o, h⟩) | h
    · rcases hO a with z | ⟨o, xs, z⟩
      · rw [z] at h; cases h
      · rw [z] at h; cases h
    · exact .inl ⟨o, h⟩
    · obtain ⟨o, its, n, h1, h2, h3, h4, h5, h6⟩ := h
      exact .inr ⟨o, its, n, h1, h2, h3, h4, h5, h6, hZ o h1⟩
  · subst q
    simpa only [RelD] using r
theorem walkZ {l : PySem.W.OpenLaw} {kk i : Nat} {sub : Nat → Nat → Bool} {Pg : List Z.Def} {q : Program} {loose : List Str} {XP : (Str → Option Value) → Heap → Prop} {YP : World → Heap → Prop} {d : DefRec} {K : Params → Frag} (hn : l.most = some 63) (hdf : d.params.defaults = []) (hr : Room kk callerA) (hY : ∀ (w : World) (h : Heap), YP w h → (K w.params).In h) (hw : ∀ ns : List Int, ns.length ≤ 63 → Z.wpCall sub Pg kk i [.rol (ns.map .int)] [] (fun d _ => d = .bl true) fun _ _ => False) (F : ∀ (w : World) (mg : Str → Option Value) (fa : Addr) (h : Heap), (K w.params).In h → h.Ns mainGlobals mg → mg d.name = some (.ref fa) →
      ∃ fd : FuncData, (∀ (s : Shared) (u : Value), BindsTo s fd ⟨[u], []⟩ [("script", u)]) ∧ ∀ base : Heap, (K w.params).In base → base.Ns mainGlobals mg → FnOk l.prog w (K w.params) mg base CX0 kk fa fd ["script"] (@spUp R0.nil (K w.params) (Z.wpCall sub Pg kk) i)) :
    PySem.W.WalkO q loose XP YP l.row.toRowW d [] (fun f vs => PySem.call f vs) :=
  L2.walk_of (n := 63) (k := kk) (x := "script") (CX := fun _ => CX0) (sp := fun w => @spUp R0.nil (K w.params) (Z.wpCall sub Pg kk) i) hn (by decide) hdf hr hY F (fun _ _ a ns hl hO hS hZ => sp_entry hO hS hZ (hw ns hl)) fun _ _ _ _ _ z => z
variable [R0]
section
variable {X : Cx} {sub : Nat → Nat → Bool} {Γ : Z.Gam} {E : Z.PX}
theorem bAnd_eq (x y : Int) : Builtin.bitAnd x y = Z.bAnd x y := by
  have h1 : ∀ a b : Nat, a &&& b ≤ a := fun a b => Nat.and_le_left
  cases x with
  | ofNat a =>
    cases y with
    | ofNat b => rfl
    | negSucc b =>
      show (a : Int) - ((a &&& (Builtin.bitNot (Int.negSucc b)).toNat : Nat) : Int) = ((a - (a &&& b) : Nat) : Int)
      have e : (Builtin.bitNot (Int.negSucc b)).toNat = b := by unfold Builtin.bitNot; lia
      rw [e]
      have := h1 a b
      lia
  | negSucc a =>
    cases y with
    | ofNat b =>
      show (b : Int) - ((b &&& (Builtin.bitNot (Int.negSucc a)).toNat : Nat) : Int) = ((b - (b &&& a) : Nat) : Int)
      have e : (Builtin.bitNot (Int.negSucc a)).toNat = a := by unfold Builtin.bitNot; lia
      rw [e]
      have := h1 b a
      lia
    | negSucc b =>
      show Builtin.bitNot ((((Builtin.bitNot (Int.negSucc a)).toNat ||| (Builtin.bitNot (Int.negSucc b)).toNat : Nat) : Int)) = Int.negSucc (a ||| b)
      have e : (Builtin.bitNot (Int.negSucc a)).toNat = a := by unfold Builtin.bitNot; lia
      have e' : (Builtin.bitNot (Int.negSucc b)).toNat = b := by unfold Builtin.bitNot; lia
      rw [e, e']
      unfold Builtin.bitNot
      lia
theorem bOr_eq (x y : Int) : Builtin.bitOr x y = Z.bOr x y := by
  show Builtin.bitNot (Builtin.bitAnd (Builtin.bitNot x) (Builtin.bitNot y)) = _
  rw [bAnd_eq]; rfl
theorem o_band : OpR X (binaryOp .BitAnd) (fun x y => rP X.K sub .band [x, y]) := o_int2 rfl (by
  have h := op_and (X := X)
  erw [bAnd_eq] at h
  exact h)
theorem o_bor : OpR X (binaryOp .BitOr) (fun x y => rP X.K sub .bor [x, y]) := o_int2 rfl (by
  have h := op_or (X := X)
  erw [bOr_eq] at h
  exact h)
theorem o_shl : OpR X (binaryOp .LShift) (fun x y => rP X.K sub .shl [x, y]) := OpRw op_shl (by
  rintro x y H Q ⟨ρ, h, ds, d, h', R, r, q, k⟩
  obtain ⟨d1, d2, rfl, r1, r2⟩ := rel2' r
  change Z.pShl _ _ = _ at q
  unfold Z.pShl at q
  split at q
  · rename_i e; cases e
    split at q
    · rename_i hc
      cases q
      erw [RelD] at r1 r2
      subst r1 r2
      exact ⟨_, _, rfl, rfl, ⟨hc.1, hc.2.1, by have := hc.2.2; lia⟩, k ρ H _ .refl R (by erw [RelD])⟩
    · cases q
  · cases q)
theorem o_shr : OpR X (binaryOp .RShift) (fun x y => rP X.K sub .shr [x, y]) := OpRw op_shr (by
  rintro x y H Q ⟨ρ, h, ds, d, h', R, r, q, k⟩
  obtain ⟨d1, d2, rfl, r1, r2⟩ := rel2' r
  change Z.pShr _ _ = _ at q
  unfold Z.pShr at q
  split at q
  · rename_i e; cases e
    split at q
    · rename_i hc
      cases q
      erw [RelD] at r1 r2
      subst r1 r2
      exact ⟨_, _, rfl, rfl, hc, k ρ H _ .refl R (by erw [RelD])⟩
    · cases q
  · cases q)
theorem u_inv : UnR X (unaryOp .Invert) (fun x => rP X.K sub .inv [x]) := fun pins s σ H x v Q I rx ⟨ρ, h, ds, d, h', R, r, q, k⟩ => un_inv pins s σ H x v Q I rx (by
  obtain ⟨d1, rfl, r1⟩ := rel1' r
  change Z.pInv _ _ = _ at q
  unfold Z.pInv at q
  split at q
  · rename_i e; cases e; cases q
    erw [RelD] at r1
    subst r1
    exact ⟨_, rfl, k ρ H _ .refl R (by erw [RelD]; rfl)⟩
  · cases q)
theorem m_bitlen : MtR X "int.bit_length" (fun x xs => rP X.K sub .bitlen (x :: xs)) := by
  intro pins s σ H x xs v us Q I rx rxs ⟨ρ, h, ds, d, h', R, r, q, k⟩
  change Z.pBitlen _ _ = _ at q
  unfold Z.pBitlen at q
  split at q
  · rename_i i
    cases q
    erw [RelDs] at r
    obtain ⟨y, t, e, r1, rfl⟩ := r
    cases e
    erw [RelD] at r1
    subst r1
    obtain ⟨tk, rfl⟩ := rx
    cases rxs
    refine call_int_bit_length ⟨.int _, H, I.tok _, ⟨_, rfl⟩, ?_⟩
    have e : (Builtin.Int.intBits i : Nat) = Z.bLen i := by
      unfold Builtin.Int.intBits Z.bLen
      by_cases z : i = 0
      · subst z; rfl
      · simp [z]
    rw [e]
    exact k ρ H _ .refl R (by erw [RelD])
  · cases q
theorem ints_rel {K : Frag} {ρ : List Addr} {H : Hp} : ∀ {xs : List Z.D} {ys : List V} {its : List Value} {ns : List Int}, RelDs K ρ H xs ys → Vals ys its → Z.intsOf xs = some ns → IntsAre its ns
  | [], ys, its, ns, r, v, e => by erw [RelDs] at r; subst r; cases v; cases e; exact .nil
  | x :: xs, ys, its, ns, r, v, e => by
    erw [RelDs] at r
    obtain ⟨y, t, rfl, r1, r2⟩ := r
    cases v with
    | cons v1 v2 =>
      cases x <;> erw [Z.intsOf] at e <;> first | (cases e; done) | skip
      cases e' : Z.intsOf xs with
      | none => rw [e'] at e; cases e
      | some ns' =>
        rw [e'] at e; cases e
        erw [RelD] at r1
        subst r1
        obtain ⟨tk, rfl⟩ := v1
        exact .cons _ _ (ints_rel r2 v2 e')
theorem call_rng : CallR X (.type "range") (fun xs H Q => ∃ j : Int, xs = [.int j] ∧ ∀ l, H l = none → Q (.ref l) (upd H l (.rng 0 j))) := by
  intro pins s σ H xs us Q I r h
  obtain ⟨j, rfl, q⟩ := h
  obtain ⟨u, rfl, ⟨t, rfl⟩⟩ := vals1 r
  have hn : H s.heap.objs.size = none := I.hok.fresh (le_refl _)
  refine call_range_1 ⟨.ref s.heap.objs.size, _, ?_, rfl, q _ hn⟩
  exact I.laid (fun b o e => get?_push_of_some _ e) (le_refl _) ⟨_, _, _, get?_push_size _ rfl⟩
theorem call_list_rng (hc : X.calm = true) : CallR X (.type "list") (fun xs H Q => ∃ (a : Addr) (j : Int), xs = [.ref a] ∧ H a = some (.rng 0 j) ∧ -(2 ^ 62) ≤ j ∧ j < 2 ^ 62 ∧ j.toNat ≤ sizeLine ∧ ∀ l, H l = none → Q (.ref l) (upd H l (.lst ((List.range j.toNat).map fun k => V.int (k : Nat))))) := by
  intro pins s σ H xs us Q I r h
  obtain ⟨a, j, rfl, ha, h1, h2, hz, q⟩ := h
  obtain ⟨u, rfl, ru⟩ := vals1 r
  cases ru
  obtain ⟨t, u, v, e⟩ := (show ObjOk X.prog X.w H s.heap a (.rng 0 j) from I.hok a _ ha)
  have hsz : Builtin.Range.rangeSize 0 j 1 = ((j.toNat : Nat) : Int) := by rw [rangeSize_one]; split <;> lia
  refine call_list_range (I.ok.hd hc) (show IsRange s.heap a 0 j 1 t u v from e) (small_one (by decide) (by decide) h1 h2) hsz (by rw [sizeLine_eq] at hz; exact hz) fun h' tk acc c kp at_ its => ?_
  have hn : H s.heap.objs.size = none := I.hok.fresh (le_refl _)
  refine ⟨.ref s.heap.objs.size, _, I.laid (t' := tk) kp (le_refl _) (show ObjOk X.prog X.w _ h' _ (.lst ((List.range j.toNat).map fun k => V.int (k : Nat))) from ⟨by simpa using hz, acc.toList, c, ?_, by simpa using at_⟩), rfl, q _ hn⟩
  have key : ∀ (n : Nat) (l : List Value), l.length = n → (∀ (k : Nat) (v : Value), l[k]? = some v → ∃ t, v = Value.int (0 + (k : Int) * 1) t) → Vals ((List.range n).map fun k => V.int (k : Nat)) l := by
    intro n
    induction n with
    | zero => intro l hl _; rw [List.length_eq_zero_iff.mp hl]; exact .nil
    | succ n ih =>
      intro l hl hv
      have hne : l ≠ [] := by intro z; rw [z] at hl; cases hl
      have e := List.dropLast_concat_getLast hne
      rw [← e, range_succ, map_append]
      refine (ih _ (by simp [hl]) fun k v hk => ?_).append (.cons ?_ .nil)
      · refine hv k v ?_
        rw [List.getElem?_dropLast] at hk
        split at hk
        · exact hk
        · cases hk
      · obtain ⟨t, ht⟩ := hv n (l.getLast hne) (by rw [← List.getLast?_eq_getLast hne, List.getLast?_eq_getElem?, hl]; rfl)
        exact ⟨t, by rw [ht]; simp⟩
  refine key j.toNat acc.toList (by rw [Array.length_toList]; exact its.1) fun k v hk => ?_
  exact its.2 k v (by rw [← Array.getElem?_toList]; exact hk)
theorem range_rel {K : Frag} {ρ : List Addr} {H : Hp} : ∀ n : Nat, RelDs K ρ H ((List.range n).map fun (k : Nat) => Z.D.int k) ((List.range n).map fun k => V.int (k : Nat))
  | 0 => by simp [RelDs]
  | n + 1 => by rw [range_succ, map_append, map_append]; exact (range_rel n).append (.one (by erw [RelD]))
theorem zlrng (hml : X.mg "list" = none) (hmr : X.mg "range" = none) (ha : LA X sub Γ E [a] (.cons a' .nil)) (hc : X.calm = true := by rfl) (hgl : Gl X "list" := by rfl) (hgr : Gl X "range" := by rfl) (he : starEach [a] X.env = (false, eval a X.env) :: starEach [] X.env := by rfl) (hpl : (backTo pos2 (starEach [] X.env)).any (·.1) = false := by rfl) (he2 : starEach [.Call (.Name "range" p2) [a] [] pos2] X.env = (false, eval (.Call (.Name "range" p2) [a] [] pos2) X.env) :: starEach [] X.env := by rfl) (hpl2 : (backTo pos (starEach [] X.env)).any (·.1) = false := by rfl) :
    LE X sub Γ E (.Call (.Name "list" p) [.Call (.Name "range" p2) [a] [] pos2] [] pos) (.prim .lrng (.cons a' .nil)) := by
  refine PEw (pe_callTy (call_list_rng hc) hgl hml bt_list (pa_cons (pe_callTy call_rng hgr hmr bt_range ha (by decide) (by decide) he hpl) pa_nil he2) (by decide) (by decide) he2 hpl2) ?_
  rintro σ H Q ⟨ρ, h, τ, Q', R, L, w, k⟩
  erw [Z.wpE] at w
  refine ⟨ρ, h, τ, _, R, L, w, fun ds h1 ρ1 H1 vs e1 R1 r1 w1 => ?_⟩
  change (match Z.pLrng ds h1 with | some (v, h2) => Q' v h2 | none => False) at w1
  unfold Z.pLrng at w1
  split at w1
  · rename_i v h2 e
    split at e
    · rename_i n
      split at e
      · rename_i hk
        obtain ⟨hl, rfl, rfl⟩ := newL_inv e
        erw [RelDs, RelD] at r1
        obtain ⟨y, t, rfl, rfl, rfl⟩ := r1
        have hk' := okR_of hk
        refine ⟨n, rfl, fun l0 hl0 => ⟨l0, n, rfl, upd_same, hk'.1, hk'.2, by simpa [limE] using hl, fun l hl' => ?_⟩⟩
        have R2 := R1.fresh (o := .rng 0 n) hl0
        have e2 : Ext X.K ρ1 H1 ρ1 (upd H1 l0 (.rng 0 n)) := Ext.fresh hl0
        obtain ⟨e3, R3, r3⟩ := new_list R2 (range_rel n.toNat) hl'
        exact k _ _ _ _ _ (e1.trans (e2.trans e3)) R3 r3 w1
      · cases e
    · cases e
  · exact w1.elim
end
section
variable {pg : Program} {wd : World} {A : Around} {E : Value → Shared → Prop} {s : Shared}
theorem next_tup {I tu : Addr} {i : Nat} {its : Array Value} {x : Value} {Q : Value → Shared → Prop} (a : s.heap.IsTupleIter I tu i) (b : s.heap.IsTuple tu its) (e : its[i]? = some x) (q : ∀ h', h'.IsTupleIter I tu (i + 1) → Heap.SameBut I s.heap h' → Q x { s with heap := h' }) : wpAny (model pg wd) A (Builtin.SmallTypes.nextOf (.ref I)) Q E s := by
  obtain ⟨ob, eo, ec, ed⟩ := id a
  obtain ⟨ot, et, _, nt, edt⟩ := b
  unfold Builtin.SmallTypes.nextOf
  refine wpAny_bind (wpAny_callSpecial?_slot (name := Str.ofString "__next__") a.typeIs slot_tuple_iterator_next (wpAny_call_entry slot_tuple_iterator_next a.typeIs PySem.F.entry_tuple_iterator_next ?_ (PySem.F.args_tuple_iterator_next_1 _)))
  show wpAny _ _ (field (.ref I) 0 >>= _) _ _ s
  refine wpAny_bind (wpAny_field eo ed (x := .ref tu) rfl ?_)
  show wpAny _ _ (if (Value.ref tu == Value.none) = true then _ else _) _ _ s
  rw [if_neg (show ¬ ((Value.ref tu == Value.none) = true) from Bool.false_ne_true)]
  show wpAny _ _ (field (.ref I) 1 >>= _) _ _ s
  refine wpAny_bind (wpAny_field eo ed (x := .int i 0) rfl ?_)
  show wpAny _ _ (seqItems? (.ref tu) >>= _) _ _ s
  refine wpAny_bind (wpAny_seqItems et edt ?_)
  erw [toNat_natCast, e]
  refine wpAny_bind (wpAny_setField eo ed (by simp) (wpAny_pure ⟨x, rfl, wpAny_pure (q _ ⟨_, get?_update_self _ eo (Obj.isFreed_of_fields (Obj.data_mapFields ed _)), (Obj.cls_mapFields ..).trans ec, ?_⟩ (Heap.SameBut.update ..))⟩))
  rw [Obj.data_mapFields ed]; simp [rawInt]
theorem next_tup_end {I tu : Addr} {i : Nat} {its : Array Value} {Q : Value → Shared → Prop} (hq : A.handled = none) (a : s.heap.IsTupleIter I tu i) (b : s.heap.IsTuple tu its) (e : its[i]? = none) (k : ∀ h' x, Heap.ExtBut I s.heap h' → (∃ o, h'.get? x = some o ∧ o.cls = .type "StopIteration") → E (.ref x) { s with heap := h' }) : wpAny (model pg wd) A (Builtin.SmallTypes.nextOf (.ref I)) Q E s := by
  obtain ⟨ob, eo, ec, ed⟩ := id a
  obtain ⟨ot, et, _, nt, edt⟩ := b
  unfold Builtin.SmallTypes.nextOf
  refine wpAny_bind (wpAny_callSpecial?_slot (name := Str.ofString "__next__") a.typeIs slot_tuple_iterator_next (wpAny_call_entry slot_tuple_iterator_next a.typeIs PySem.F.entry_tuple_iterator_next ?_ (PySem.F.args_tuple_iterator_next_1 _)))
  show wpAny _ _ (field (.ref I) 0 >>= _) _ _ s
  refine wpAny_bind (wpAny_field eo ed (x := .ref tu) rfl ?_)
  show wpAny _ _ (if (Value.ref tu == Value.none) = true then _ else _) _ _ s
  rw [if_neg (show ¬ ((Value.ref tu == Value.none) = true) from Bool.false_ne_true)]
  show wpAny _ _ (field (.ref I) 1 >>= _) _ _ s
  refine wpAny_bind (wpAny_field eo ed (x := .int i 0) rfl ?_)
  show wpAny _ _ (seqItems? (.ref tu) >>= _) _ _ s
  refine wpAny_bind (wpAny_seqItems et edt ?_)
  erw [toNat_natCast, e]
  refine wpAny_bind (wpAny_rule (wpAny_bind (wpAny_setField eo ed (by simp) ?_)))
  show wpAny _ _ (newExc (.type "StopIteration") [] >>= _) _ _ _
  refine wpAny_bind ?_
  erw [newExc, newTuple]
  refine wpAny_bind (wpAny_newObj_type ?_ (by size_fits))
  refine wpAny_bind (m := firstArgMember _ _) (wpAny_of_eq (a := Value.none) (by first | rfl | (erw [firstArgMember]; rfl)) ?_)
  refine wpAny_newObj_type ?_ (by size_fits)
  erw [raiseNew]
  refine wpAny_bind (wpAny_handled ?_)
  first | rw [show A.in1.handled = none from hq] | rw [hq]
  exact wpAny_bind (wpAny_pure (wpAny_throw (k _ _ (((Heap.SameBut.update ..).extBut.push _).push _) ⟨_, get?_push_size _ rfl, rfl⟩)))
end
theorem draws_tup {pg : Program} {wd : World} {A : Around} (hq : A.handled = none) (I tu : Addr) (ne : tu ≠ I) (its : Array Value) :
    Draws pg wd A I [I, tu] its.size (fun i v => its[i]? = some v) (fun i h => h.IsTupleIter I tu i ∧ h.IsTuple tu its) where
  live := fun _ _ st => let ⟨o, ho, _⟩ := st.1; ⟨o, ho⟩
  frame := fun _ _ _ st hk => ⟨let ⟨o, ho, r⟩ := st.1; ⟨o, hk I (by simp) o ho, r⟩, let ⟨o, ho, r⟩ := st.2; ⟨o, hk tu (by simp) o ho, r⟩⟩
  item := fun i s Q E hi st hQ => next_tup st.1 st.2 (x := its[i]) (by simp [hi]) fun h' a b => hQ _ h' s.toks (by simp [hi]) ⟨a, st.2.extBut b.extBut ne⟩ b
  done := fun s Q E st hE => next_tup_end hq st.1 st.2 (by simp) hE
theorem draws_tup_end {pg : Program} {wd : World} {A : Around} (hq : A.handled = none) (I tu : Addr) (its : Array Value) {n : Nat} (e : its[n]? = none) :
    Draws pg wd A I [I, tu] n (fun _ _ => True) (fun i h => i = n ∧ h.IsTupleIter I tu i ∧ h.IsTuple tu its) where
  live := fun _ _ st => let ⟨o, ho, _⟩ := st.2.1; ⟨o, ho⟩
  frame := fun _ _ _ st hk => ⟨st.1, let ⟨o, ho, r⟩ := st.2.1; ⟨o, hk I (by simp) o ho, r⟩, let ⟨o, ho, r⟩ := st.2.2; ⟨o, hk tu (by simp) o ho, r⟩⟩
  item := fun i s Q E hi st hQ => absurd hi (by rw [st.1]; exact lt_irrefl _)
  done := fun s Q E st hE => next_tup_end hq st.2.1 st.2.2 e hE
section
variable {X : Cx} {pins : List (Addr × Obj)} {σ : L2.St} {H : Hp} {s : Shared}
theorem inv_walked {ch : List Addr} {T : Addr} {xs : List V} {t' : Nat} {h' : Heap} (I : Inv X pins σ H s) (hf : ∀ b ∈ ch, FpOk X pins H b) (k : ∀ b o, b ∉ ch → s.heap.get? b = some o → h'.get? b = some o) (hT : s.heap.objs.size ≤ T) (new : ObjOk X.prog X.w (upd H T (.tup xs)) h' T (.tup xs)) : Inv X pins σ (upd H T (.tup xs)) { s with heap := h', toks := t' } := by
  have hn : H T = none := I.hok.fresh hT
  have nit : ∀ b u, H b = some u → b ∉ ch := fun b u e z => by rw [(hf b z).1] at e; cases e
  have neT : ∀ b u, H b = some u → b ≠ T := fun b u e => ne_of_none e hn
  refine I.step (g' := s.gens) (d' := s.drawn) (ch := ch) (fun b hb => ?_) (fun b o _ _ hc e _ => k b o hc e) (fun b o _ _ hc e _ => ⟨o.slots, k b o hc e⟩) (fun b o _ e n => ?_)
    (fun b o hc e => ⟨o, k b o hc e⟩) (fun b xs e => ?_) (fun b o u e => ?_) (fun b ps e => ⟨#[], ?_⟩) (fun m hm => ?_) (fun b u e => ?_) I.bare
  · obtain ⟨_, f1, _, f3, f4, f5⟩ := hf b hb
    exact ⟨f3, f1, f4, f5⟩
  · rw [upd_ne (ne_of_lt (lt_of_lt_of_le (lt_size e) hT))]; exact n
  · rw [upd_ne (neT b _ e)]; exact e
  · rw [upd_ne (neT b _ e)]; exact e
  · rw [upd_ne (neT b _ e), e]; simp
  · obtain ⟨o, es, ep, ho, r⟩ := hm
    exact ⟨o, es, ep, k _ o (fun z => (hf _ z).2.1 rfl) ho, r⟩
  · by_cases hb : b = T
    · subst hb; rw [upd_same] at e; cases e; exact new
    · rw [upd_ne hb] at e
      refine (I.hok b u e).stay (fun c v hc q => k c v ?_ q) (fun c q => by rw [upd_ne (neT c _ q)]; exact q) fun c xs q => by rw [upd_ne (neT c _ q)]; exact q
      rcases hc with z | z
      · rw [z]; exact nit b u e
      · exact nit c _ z
theorem inv_turnedL {ch : List Addr} {t' : Nat} {h' : Heap} (I : Inv X pins σ H s) (hf : ∀ b ∈ ch, FpOk X pins H b) (k : ∀ b o, b ∉ ch → s.heap.get? b = some o → h'.get? b = some o) : Inv X pins σ H { s with heap := h', toks := t' } := by
  have nit : ∀ b u, H b = some u → b ∉ ch := fun b u e z => by rw [(hf b z).1] at e; cases e
  refine I.step (g' := s.gens) (d' := s.drawn) (ch := ch) (fun b hb => ?_) (fun b o _ _ hc e _ => k b o hc e) (fun b o _ _ hc e _ => ⟨o.slots, k b o hc e⟩) (fun b o _ e n => n)
    (fun b o hc e => ⟨o, k b o hc e⟩) (fun b xs e => e) (fun b o u e => e) (fun b ps e => ⟨#[], by rw [e]; simp⟩) (fun m hm => ?_) (fun b u e => ?_) I.bare
  · obtain ⟨_, f1, _, f3, f4, f5⟩ := hf b hb
    exact ⟨f3, f1, f4, f5⟩
  · obtain ⟨o, es, ep, ho, r⟩ := hm
    exact ⟨o, es, ep, k _ o (fun z => (hf _ z).2.1 rfl) ho, r⟩
  · refine (I.hok b u e).stay (fun c v hc q => k c v ?_ q) (fun c q => q) fun c xs q => q
    rcases hc with z | z
    · rw [z]; exact nit b u e
    · exact nit c _ z
end
section
variable {X : Cx} {sub : Nat → Nat → Bool} {Γ : Z.Gam} {E : Z.PX}
theorem ints_get {K : Frag} {ρ : List Addr} {H : Hp} : ∀ {ds : List Z.D} {ys : List V} {its : List Value} {ns : List Int}, RelDs K ρ H ds ys → Vals ys its → Z.intsOf ds = some ns → its.length = ns.length ∧ ∀ (i : Nat) v, its[i]? = some v → ∃ t z, v = .int z t ∧ ns[i]? = some z
  | [], _, _, _, r, v, e => by
    erw [RelDs] at r; subst r; cases v; cases e
    exact ⟨rfl, fun i v h => by simp at h⟩
  | d :: ds, _, _, _, r, v, e => by
    erw [RelDs] at r
    obtain ⟨y, ys, rfl, r1, r2⟩ := r
    cases v with
    | cons v1 v2 =>
      cases d with
      | int z =>
        erw [Z.intsOf] at e
        cases e' : Z.intsOf ds with
        | none => rw [e'] at e; cases e
        | some ns' =>
          rw [e'] at e; cases e
          erw [RelD] at r1
          subst r1
          obtain ⟨tk, rfl⟩ := v1
          obtain ⟨hl, hg⟩ := ints_get r2 v2 e'
          refine ⟨by simp [hl], fun i v h => ?_⟩
          cases i with
          | zero => cases h; exact ⟨tk, z, rfl, rfl⟩
          | succ i => exact hg i v (by simpa using h)
      | _ => simp [Z.intsOf] at e
end
theorem maxL_snoc (l : List Int) (x : Int) : Z.maxL (l ++ [x]) = some (match Z.maxL l with | none => x | some m => if x > m then x else m) := by
  cases l with
  | nil => rfl
  | cons y r => simp [Z.maxL, foldl_append]
theorem take_snoc {ns : List Int} {k : Nat} (hk : k < ns.length) : ns.take (k + 1) = ns.take k ++ [ns.getD k 0] := by
  rw [take_add_one, getElem?_eq_getElem hk, getD_eq_getElem?_getD, getElem?_eq_getElem hk]; rfl
theorem best_max (ns : List Int) : ∀ k, k < ns.length → Z.maxL (ns.take (k + 1)) = some (ns.getD (argBest (fun i j => decide (ns.getD i 0 > ns.getD j 0)) k) 0)
  | 0, hk => by rw [take_snoc hk, List.take_zero, maxL_snoc]; rfl
  | k + 1, hk => by
    rw [take_snoc hk, maxL_snoc, best_max ns k (by lia)]
    erw [argBest]
    by_cases hb : ns.getD (k + 1) 0 > ns.getD (argBest (fun i j => decide (ns.getD i 0 > ns.getD j 0)) k) 0
    · rw [if_pos hb, if_pos (decide_eq_true hb)]
    · rw [if_neg hb, if_neg (by rw [decide_eq_false hb]; decide)]
theorem numAt_ns {its : List Value} {ns : List Int} {xs : Array (Int × Tok)} (e : its.toArray = intItems xs) (hl : its.length = ns.length) (hg : ∀ (i : Nat) v, its[i]? = some v → ∃ t z, v = .int z t ∧ ns[i]? = some z) : (fun i => numAt xs i) = fun i => ns.getD i 0 := by
  funext i
  have e1 : its[i]? = (intItems xs)[i]? := by rw [← e]; simp
  erw [intItems, Array.getElem?_map] at e1
  unfold numAt
  cases hx : xs[i]? with
  | none =>
    rw [hx] at e1
    have : ns.length ≤ i := by rw [← hl]; exact List.getElem?_eq_none_iff.mp e1
    rw [getD_eq_getElem?_getD, getElem?_eq_none this]; rfl
  | some p =>
    rw [hx] at e1
    obtain ⟨t, z, e2, e3⟩ := hg i _ e1
    cases e2
    rw [getD_eq_getElem?_getD, e3]; rfl
section
variable {X : Cx} {sub : Nat → Nat → Bool}
theorem c_max1 (hc : X.calm = true) : CallR X (.builtin "max") (rP X.K sub .max1) := by
  intro pins s σ H xs us Q I rv ⟨ρ, h, ds, d, h', R, r, q, k⟩
  change Z.pMin1 Z.maxL ds h = some (d, h') at q
  unfold Z.pMin1 at q
  split at q
  · rename_i n
    erw [RelDs] at r
    obtain ⟨y, t, rfl, r, rfl⟩ := r
    obtain ⟨u, rfl, ru⟩ := vals1 rv
    split at q
    · rename_i zs e1
      obtain ⟨a, ys, rfl, hn, ha, rs⟩ := lstAt R r e1
      cases ru
      cases es : Z.intsOf zs with
      | none => rw [es] at q; cases q
      | some ns =>
        rw [es] at q
        obtain ⟨its, vv, pl, _⟩ := I.list (.of ha)
        obtain ⟨hl, hg⟩ := ints_get rs vv es
        obtain ⟨xs, e⟩ := (ints_rel rs vv es).allInts.items
        have en := numAt_ns e hl hg
        have hl' := pl.isList
        rw [e] at hl'
        have hsz : xs.size = ns.length := by have := congrArg Array.size e; simp [intItems] at this; lia
        cases em : Z.maxL ns with
        | none => simp [em] at q
        | some m =>
          have hpos : 0 < ns.length := by cases ns with
            | nil => cases em
            | cons _ _ => simp
          erw [bind_some, em, map_some] at q
          cases q
          refine max_intList (I.ok.hd hc) hl' (by lia) fun v h' tk hv hk => ?_
          have hf : (fun i j => decide (numAt xs i > numAt xs j)) = fun i j => decide (ns.getD i 0 > ns.getD j 0) := by
            funext i j; rw [congrFun en i, congrFun en j]
          rw [hf, ← e, hsz] at hv
          rw [List.getElem?_toArray] at hv
          obtain ⟨t, z, rfl, hz⟩ := hg _ v hv
          have hb := best_max ns (ns.length - 1) (by lia)
          rw [show ns.length - 1 + 1 = ns.length by lia, take_length, em, getD_eq_getElem?_getD, hz] at hb
          cases hb
          exact ⟨.int _, H, I.kept hk, ⟨t, rfl⟩, k ρ H _ .refl R (by erw [RelD]; rfl)⟩
    · cases q
  · cases q
end
structure ZA (z TI TO i1 i2 : Addr) (f1 f2 : List Addr) : Prop where
  Iz : TI ≠ z
  Oz : TO ≠ z
  az : i1 ≠ z
  bz : i2 ≠ z
  IO : TI ≠ TO
  Ia : TI ≠ i1
  Ib : TI ≠ i2
  Oa : TO ≠ i1
  Ob : TO ≠ i2
  ab : i1 ≠ i2
  z1 : z ∉ f1
  O1 : TO ∉ f1
  b1 : i2 ∉ f1
  z2 : z ∉ f2
  O2 : TO ∉ f2
  a2 : i1 ∉ f2
section
variable {pg : Program} {wd : World} {A : Around} {E : Value → Shared → Prop} {s : Shared} {z TI TO i1 i2 : Addr} {f1 f2 : List Addr} {n1 n2 k : Nat} {P1 P2 : Nat → Value → Prop} {S1 S2 : Nat → Heap → Prop} {a b : Value}
theorem fr1 (D : Draws pg wd A i1 f1 n1 P1 S1) (st : S1 i h) (sb : Heap.SameBut x h h') (hx : x ∉ f1) : S1 i h' :=
  D.frame i h h' st fun c hc o e => sb.extBut c o (fun q => hx (q ▸ hc)) e
theorem zipD_item {Q : Value → Shared → Prop} (D1 : Draws pg wd A i1 f1 n1 P1 S1) (D2 : Draws pg wd A i2 f2 n2 P2 S2) (ap : ZA z TI TO i1 i2 f1 f2) (hz : IsZip s.heap z TI TO .none) (hI : IsPair s.heap TI (.ref i1) (.ref i2)) (hO : IsPair s.heap TO a b) (s1 : S1 k s.heap) (s2 : S2 k s.heap) (l1 : k < n1) (l2 : k < n2) (hQ : ∀ x y h' t, P1 k x → P2 k y → IsZip h' z TI TO (rawInt s.heap.objs.size) → IsPair h' TI (.ref i1) (.ref i2) → IsPair h' TO x y → S1 (k + 1) h' → S2 (k + 1) h' → IsPair h' s.heap.objs.size x y →
      (∀ c o, c ∉ [z, TO, i1, i2] → s.heap.get? c = some o → h'.get? c = some o) → Q (.ref s.heap.objs.size) { s with heap := h', toks := t }) :
    wpAny (model pg wd) A (Builtin.«zip.__next__» ⟨[.ref z], []⟩) (fun fin s' => ∃ v, fin = .done (.ret v) ∧ Q v s') E s := by
  show wpAny _ _ (field (.ref z) 2 >>= _) _ _ _
  refine wpAny_bind (wpAny_field hz rfl (x := .bool false) rfl ?_)
  show wpAny _ _ (field (.ref z) 3 >>= _) _ _ _
  refine wpAny_bind (wpAny_field hz rfl (x := .ref TI) rfl (wpAny_bind (wpAny_seqItems hI rfl ?_)))
  show wpAny _ _ (Builtin.SmallTypes.ownedTupleIsFree (.ref z) >>= _) _ _ _
  refine wpAny_bind ?_
  unfold Builtin.SmallTypes.ownedTupleIsFree
  refine wpAny_bind (wpAny_field hz rfl (x := .none) rfl (wpAny_pure ?_))
  erw [if_true]
  refine wpAny_bind (wpAny_rule (wpAny_bind (wpAny_field hz rfl (x := .ref TO) rfl (wpAny_bind (wpAny_setField_rec hz (by simp) fun g1 z1 k1 => ?_)))))
  replace z1 : IsZip g1 z TI TO .ellipsis := z1
  refine wpAny_bind ?_
  erw [List.zipIdx_cons, List.zipIdx_nil, forIn_cons, forIn_nil]
  refine wpAny_bind (wpAny_bind (wpAny_onRaise ?_))
  show wpAny _ _ (Builtin.SmallTypes.nextOf (.ref i1) >>= _) _ _ _
  refine wpAny_bind (D1.item k _ _ _ l1 (fr1 D1 s1 k1 ap.z1) fun x g2 t2 px s12 k2 => wpAny_pure ?_)
  replace k2 : Heap.SameBut i1 g1 g2 := k2
  have O2 : IsPair g2 TO a b := k2.extBut _ _ ap.Oa (k1.extBut _ _ ap.Oz hO)
  refine wpAny_bind (wpAny_seqItems O2 rfl (wpAny_bind (wpAny_updateSeq_pair O2 fun g3 O3 k3 => wpAny_bind (wpAny_letGo (wpAny_pure ?_)))))
  replace O3 : IsPair g3 TO x b := O3
  replace k3 : Heap.SameBut TO g2 g3 := k3
  refine wpAny_bind (wpAny_bind (wpAny_onRaise ?_))
  show wpAny _ _ (Builtin.SmallTypes.nextOf (.ref i2) >>= _) _ _ _
  refine wpAny_bind (D2.item k _ _ _ l2 (fr1 D2 (fr1 D2 (fr1 D2 s2 k1 ap.z2) k2 ap.a2) k3 ap.O2) fun y g4 t4 py s24 k4 => wpAny_pure ?_)
  replace k4 : Heap.SameBut i2 g3 g4 := k4
  have O4 : IsPair g4 TO x b := k4.extBut _ _ ap.Ob O3
  refine wpAny_bind (wpAny_seqItems O4 rfl (wpAny_bind (wpAny_updateSeq_pair O4 fun g5 O5 k5 => wpAny_bind (wpAny_letGo (wpAny_pure (wpAny_pure ?_))))))
  replace O5 : IsPair g5 TO x y := O5
  replace k5 : Heap.SameBut TO g4 g5 := k5
  refine wpAny_bind (wpAny_seqItems O5 rfl (wpAny_bind (wpAny_newTuple ?_)))
  have hsz : g5.objs.size = s.heap.objs.size := by rw [k5.1, k4.1, k3.1, k2.1, k1.1]
  have keep : ∀ c o, c ∉ [z, TO, i1, i2] → s.heap.get? c = some o → g5.get? c = some o := fun c o hc e => by
    erw [mem_cons, not_mem_nil, or_false, not_or] at hc
    exact k5.extBut _ _ hc.2.1 (k4.extBut _ _ hc.2.2.2 (k3.extBut _ _ hc.2.1 (k2.extBut _ _ hc.2.2.1 (k1.extBut _ _ hc.1 e))))
  have z5 : IsZip g5 z TI TO .ellipsis := k5.extBut _ _ (Ne.symm ap.Oz) (k4.extBut _ _ (Ne.symm ap.bz) (k3.extBut _ _ (Ne.symm ap.Oz) (k2.extBut _ _ (Ne.symm ap.az) z1)))
  have s15 : S1 (k + 1) g5 := fr1 D1 (fr1 D1 (fr1 D1 s12 k3 ap.O1) k4 ap.b1) k5 ap.O1
  have s25 : S2 (k + 1) g5 := fr1 D2 s24 k5 ap.O2
  have hzlt : z < g5.objs.size := lt_size z5
  show wpAny _ _ (Builtin.SmallTypes.ownedTupleHandOut (.ref z) (.ref g5.objs.size) >>= _) _ _ _
  refine wpAny_bind ?_
  unfold Builtin.SmallTypes.ownedTupleHandOut
  have z6 : IsZip (g5.push { cls := .type "tuple", data := .seq #[x, y] }) z TI TO .ellipsis := get?_push_of_some _ z5
  refine wpAny_bind (wpAny_setField_rec z6 (by simp) fun g7 z7 k7 => wpAny_setField_rec z7 (by simp) fun g8 z8 k8 => ?_)
  replace z8 : IsZip g8 z TI TO (rawInt g5.objs.size) := z8
  have up : ∀ c o, c ≠ z → g5.get? c = some o → g8.get? c = some o := fun c o hc e => k8.extBut _ _ hc (k7.extBut _ _ hc (get?_push_of_some _ e))
  have T8 : IsPair g8 g5.objs.size x y := k8.extBut _ _ (ne_of_gt hzlt) (k7.extBut _ _ (ne_of_gt hzlt) (get?_push_size _ rfl))
  rw [hsz] at z8 T8
  refine wpAny_pure ⟨_, rfl, ?_⟩
  show Q (.ref g5.objs.size) _
  rw [hsz]
  exact hQ x y g8 t4 px py z8 (up _ _ ap.Iz (keep _ _ (by simp [ap.Iz, ap.IO, ap.Ia, ap.Ib]) hI)) (up _ _ ap.Oz O5) (D1.frame _ _ _ s15 fun c hc o e => up c o (fun q => ap.z1 (q ▸ hc)) e) (D2.frame _ _ _ s25 fun c hc o e => up c o (fun q => ap.z2 (q ▸ hc)) e) T8
    fun c o hc e => up c o (fun q => hc (by simp [q])) (keep c o hc e)
theorem zipD_end (D1 : Draws pg wd A i1 f1 n1 P1 S1) (D2 : Draws pg wd A i2 f2 n2 P2 S2) (ap : ZA z TI TO i1 i2 f1 f2) (hz : IsZip s.heap z TI TO .none) (hI : IsPair s.heap TI (.ref i1) (.ref i2)) (hO : IsPair s.heap TO a b) (s1 : S1 k s.heap) (s2 : S2 k s.heap) (l : k = n1 ∨ k < n1 ∧ k = n2) (hE : ∀ h' t e, (∀ c o, c ∉ [z, TO, i1, i2] → s.heap.get? c = some o → h'.get? c = some o) → (∃ o, h'.get? e = some o ∧ o.cls = .type "StopIteration") → E (.ref e) { s with heap := h', toks := t }) :
    wpAny (model pg wd) A (Builtin.«zip.__next__» ⟨[.ref z], []⟩) Q E s := by
  show wpAny _ _ (field (.ref z) 2 >>= _) _ _ _
  refine wpAny_bind (wpAny_field hz rfl (x := .bool false) rfl ?_)
  show wpAny _ _ (field (.ref z) 3 >>= _) _ _ _
  refine wpAny_bind (wpAny_field hz rfl (x := .ref TI) rfl (wpAny_bind (wpAny_seqItems hI rfl ?_)))
  show wpAny _ _ (Builtin.SmallTypes.ownedTupleIsFree (.ref z) >>= _) _ _ _
  refine wpAny_bind ?_
  unfold Builtin.SmallTypes.ownedTupleIsFree
  refine wpAny_bind (wpAny_field hz rfl (x := .none) rfl (wpAny_pure ?_))
  erw [if_true]
  refine wpAny_bind (wpAny_rule (wpAny_bind (wpAny_field hz rfl (x := .ref TO) rfl (wpAny_bind (wpAny_setField_rec hz (by simp) fun g1 z1 k1 => ?_)))))
  replace z1 : IsZip g1 z TI TO .ellipsis := z1
  refine wpAny_bind ?_
  erw [List.zipIdx_cons, List.zipIdx_nil, forIn_cons, forIn_nil]
  refine wpAny_bind (wpAny_bind (wpAny_onRaise ?_))
  show wpAny _ _ (Builtin.SmallTypes.nextOf (.ref i1) >>= _) _ _ _
  rcases l with rfl | ⟨l1, rfl⟩
  · refine wpAny_bind (D1.done _ _ _ (fr1 D1 s1 k1 ap.z1) fun g2 e k2 he => ?_)
    obtain ⟨oe, ho, hc⟩ := he
    have z2 : IsZip g2 z TI TO .ellipsis := k2 _ _ (Ne.symm ap.az) z1
    have ne : e ≠ z := fun q => by subst q; rw [z2] at ho; cases ho; simp at hc
    refine wpAny_setField_rec z2 (by simp) fun g3 _ k3 => hE g3 s.toks e (fun c o hc e => ?_) ⟨oe, k3.extBut _ _ ne ho, hc⟩
    erw [mem_cons, not_mem_nil, or_false, not_or] at hc
    exact k3.extBut _ _ hc.1 (k2 _ _ hc.2.2.1 (k1.extBut _ _ hc.1 e))
  · refine wpAny_bind (D1.item k _ _ _ l1 (fr1 D1 s1 k1 ap.z1) fun x g2 t2 px s12 k2 => wpAny_pure ?_)
    replace k2 : Heap.SameBut i1 g1 g2 := k2
    have O2 : IsPair g2 TO a b := k2.extBut _ _ ap.Oa (k1.extBut _ _ ap.Oz hO)
    refine wpAny_bind (wpAny_seqItems O2 rfl (wpAny_bind (wpAny_updateSeq_pair O2 fun g3 O3 k3 => wpAny_bind (wpAny_letGo (wpAny_pure ?_)))))
    replace k3 : Heap.SameBut TO g2 g3 := k3
    refine wpAny_bind (wpAny_bind (wpAny_onRaise ?_))
    show wpAny _ _ (Builtin.SmallTypes.nextOf (.ref i2) >>= _) _ _ _
    refine wpAny_bind (D2.done _ _ _ (fr1 D2 (fr1 D2 (fr1 D2 s2 k1 ap.z2) k2 ap.a2) k3 ap.O2) fun g4 e k4 he => ?_)
    obtain ⟨oe, ho, hc⟩ := he
    have z4 : IsZip g4 z TI TO .ellipsis := k4 _ _ (Ne.symm ap.bz) (k3.extBut _ _ (Ne.symm ap.Oz) (k2.extBut _ _ (Ne.symm ap.az) z1))
    have ne : e ≠ z := fun q => by subst q; rw [z4] at ho; cases ho; simp at hc
    refine wpAny_setField_rec z4 (by simp) fun g5 _ k5 => hE g5 t2 e (fun c o hc e => ?_) ⟨oe, k5.extBut _ _ ne ho, hc⟩
    erw [mem_cons, not_mem_nil, or_false, not_or] at hc
    exact k5.extBut _ _ hc.1 (k4 _ _ hc.2.2.2 (k3.extBut _ _ hc.2.1 (k2.extBut _ _ hc.2.2.1 (k1.extBut _ _ hc.1 e))))
theorem nextZ_item {Q : Option Value → Shared → Prop} (D1 : Draws pg wd A.in1 i1 f1 n1 P1 S1) (D2 : Draws pg wd A.in1 i2 f2 n2 P2 S2) (ap : ZA z TI TO i1 i2 f1 f2) (hz : IsZip s.heap z TI TO .none) (hI : IsPair s.heap TI (.ref i1) (.ref i2)) (hO : IsPair s.heap TO a b) (s1 : S1 k s.heap) (s2 : S2 k s.heap) (l1 : k < n1) (l2 : k < n2) (hQ : ∀ x y h' t, P1 k x → P2 k y → IsZip h' z TI TO (rawInt s.heap.objs.size) → IsPair h' TI (.ref i1) (.ref i2) → IsPair h' TO x y → S1 (k + 1) h' → S2 (k + 1) h' → IsPair h' s.heap.objs.size x y →
      (∀ c o, c ∉ [z, TO, i1, i2] → s.heap.get? c = some o → h'.get? c = some o) → Q (some (.ref s.heap.objs.size)) { s with heap := h', toks := t }) : wpAny (model pg wd) A (pyNext (.ref z)) Q E s := by
  have hT : s.TypeIs (.ref z) "zip" := ⟨_, hz, rfl⟩
  unfold pyNext
  exact wpAny_bind (wpAny_attempt (wpAny_callSpecial?_slot (name := Str.ofString "__next__") hT slot_zip_next (wpAny_call_entry slot_zip_next hT entry_zip_next
    (zipD_item D1 D2 ap hz hI hO s1 s2 l1 l2 fun x y h' t p1 p2 a1 a2 a3 a4 a5 a6 a7 => wpAny_pure (hQ x y h' t p1 p2 a1 a2 a3 a4 a5 a6 a7)) (PySem.F.args_zip_next_1 _))))
theorem nextZ_end (D1 : Draws pg wd A.in1 i1 f1 n1 P1 S1) (D2 : Draws pg wd A.in1 i2 f2 n2 P2 S2) (ap : ZA z TI TO i1 i2 f1 f2) (hz : IsZip s.heap z TI TO .none) (hI : IsPair s.heap TI (.ref i1) (.ref i2)) (hO : IsPair s.heap TO a b) (s1 : S1 k s.heap) (s2 : S2 k s.heap) (l : k = n1 ∨ k < n1 ∧ k = n2) (hQ : ∀ h' t, (∀ c o, c ∉ [z, TO, i1, i2] → s.heap.get? c = some o → h'.get? c = some o) → Q none { s with heap := h', toks := t }) : wpAny (model pg wd) A (pyNext (.ref z)) Q E s := by
  have hT : s.TypeIs (.ref z) "zip" := ⟨_, hz, rfl⟩
  unfold pyNext
  refine wpAny_bind (wpAny_attempt (wpAny_callSpecial?_slot (name := Str.ofString "__next__") hT slot_zip_next (wpAny_call_entry slot_zip_next hT entry_zip_next
    (zipD_end D1 D2 ap hz hI hO s1 s2 l fun h' t e hk he => ?_) (PySem.F.args_zip_next_1 _))))
  obtain ⟨o, ho, hc⟩ := he
  exact wpAny_bind (wpAny_isInstance (T := "StopIteration") (b := true) ⟨o, ho, hc⟩ isSubtype_stop (wpAny_pure (hQ _ _ hk)))
end
def isIt (cn : String) (it a : Addr) (i : Nat) (h : Heap) : Prop := ∃ o, h.get? it = some o ∧ o.cls = .type cn ∧ o.data = .fields #[.ref a, .int i 0]
theorem isIt.at (s : isIt cn it a i h) (k : ∀ o, h.get? it = some o → h'.get? it = some o) : isIt cn it a i h' := let ⟨o, e, r⟩ := s; ⟨o, k o e, r⟩
structure Src (P : Program) (w : World) (K : Frag) (cn : String) (it a : Addr) (Sq : Hp → List V → Prop) (Pl : Heap → Array Value → Prop) : Prop where
  vals : ∀ (X : Cx) (pins : List (Addr × Obj)) (s : Shared) (σ : L2.St) (H : Hp) (xs : List V), X.K = K → Inv X pins σ H s → Sq H xs → ∃ its : List Value, Vals xs its ∧ Pl s.heap its.toArray
  inj : ∀ (X : Cx) (pins : List (Addr × Obj)) (s : Shared) (σ : L2.St) (H : Hp) (xs ys : List V), X.K = K → Inv X pins σ H s → Sq H xs → Sq H ys → xs = ys
  item : ∀ (A : Around) (its : Array Value), A.handled = none → Draws P w A it [it, a] its.size (fun i v => its[i]? = some v) (fun i h => isIt cn it a i h ∧ Pl h its)
  fin : ∀ (A : Around) (its : Array Value) (n : Nat), A.handled = none → its[n]? = none → Draws P w A it [it, a] n (fun _ _ => True) (fun i h => i = n ∧ isIt cn it a i h ∧ Pl h its)
theorem src_tup {P : Program} {w : World} {K : Frag} {it a : Addr} (ne : a ≠ it) : Src P w K "tuple_iterator" it a (fun H xs => SqT K H a xs) (fun h its => h.IsTuple a its) where
  vals := fun X pins s σ H xs hK I q => by subst hK; obtain ⟨its, rv, p, _⟩ := I.tuple q; exact ⟨its, rv, p⟩
  inj := fun X pins s σ H xs ys hK I q q' => by subst hK; exact I.tuple_inj q q'
  item := fun A its hq => draws_tup hq it a ne its
  fin := fun A its n hq e => draws_tup_end hq it a its e
theorem src_lst {P : Program} {w : World} {K : Frag} {it a : Addr} (ne : a ≠ it) : Src P w K "list_iterator" it a (fun H xs => SqL K H a xs) (fun h its => h.IsList a its) where
  vals := fun X pins s σ H xs hK I q => by subst hK; obtain ⟨its, rv, p, _⟩ := I.list q; exact ⟨its, rv, p.isList⟩
  inj := fun X pins s σ H xs ys hK I q q' => by subst hK; exact I.list_inj q q'
  item := fun A its hq => Draws.list hq it a ne its
  fin := fun A its n hq e => {
    live := fun _ _ st => let ⟨o, ho, _⟩ := st.2.1; ⟨o, ho⟩
    frame := fun _ _ _ st hk => ⟨st.1, let ⟨o, ho, r⟩ := st.2.1; ⟨o, hk it (by simp) o ho, r⟩, st.2.2.at fun o e => hk a (by simp) o e⟩
    item := fun i s Q E hi st hQ => absurd hi (by rw [st.1]; exact lt_irrefl _)
    done := fun s Q E st hE => wpAny_nextOf_list_end hq st.2.1 st.2.2 e hE }
def tI (cn : String) (l : Addr) : Obj := { cls := .type cn, data := .fields #[.ref l, .int 0 0] }
def zH (h : Heap) (c2 : String) (l1 l2 : Addr) : Heap := ((((h.push (tI "tuple_iterator" l1)).push (tI c2 l2)).push { cls := .type "tuple", data := .seq #[.ref h.objs.size, .ref (h.push (tI "tuple_iterator" l1)).objs.size] }).push { cls := .type "tuple", data := .seq #[.none, .none] }).push
  { cls := .type "zip", data := .fields #[.none, .bool false, .bool false, .ref ((h.push (tI "tuple_iterator" l1)).push (tI c2 l2)).objs.size, .ref (((h.push (tI "tuple_iterator" l1)).push (tI c2 l2)).push { cls := .type "tuple", data := .seq #[.ref h.objs.size, .ref (h.push (tI "tuple_iterator" l1)).objs.size] }).objs.size] }
def zR (h : Heap) (c2 : String) (l1 l2 : Addr) : Addr := ((((h.push (tI "tuple_iterator" l1)).push (tI c2 l2)).push { cls := .type "tuple", data := .seq #[.ref h.objs.size, .ref (h.push (tI "tuple_iterator" l1)).objs.size] }).push { cls := .type "tuple", data := .seq #[.none, .none] }).objs.size
theorem meets_zipT (l1 l2 : Addr) (xs ys : Array Value) : Meets (Builtin.«zip.__new__» ⟨[.type "zip", .ref l1, .ref l2], []⟩) (fun _ R s => s.heap.IsTuple l1 xs ∧ s.heap.IsTuple l2 ys ∧
    R (.ok (.ret (.ref (zR s.heap "tuple_iterator" l1 l2)))) { s with heap := zH s.heap "tuple_iterator" l1 l2 }) :=
  .of_wp fun pg wd A R s h => by
    obtain ⟨hp, g, d, tk, os⟩ := s
    obtain ⟨hl1, hl2, h⟩ := h
    have hsub := sub_zip
    have a1 : Heap.IsTuple (Shared.heap ⟨hp, g, d, tk, os⟩) l1 xs := hl1
    have a2 : Heap.IsTuple (Shared.heap ⟨hp.push { cls := .type "tuple_iterator", data := .fields #[.ref l1, .int 0 0] }, g, d, tk, os⟩) l2 ys := Heap.IsTuple.push hl2 _
    wp_walk using wpAny_pyIter_tuple a1, wpAny_pyIter_tuple a2
    exact ⟨_, rfl, h⟩
theorem meets_zipL (l1 l2 : Addr) (xs ys : Array Value) : Meets (Builtin.«zip.__new__» ⟨[.type "zip", .ref l1, .ref l2], []⟩) (fun _ R s => s.heap.IsTuple l1 xs ∧ s.heap.IsList l2 ys ∧
    R (.ok (.ret (.ref (zR s.heap "list_iterator" l1 l2)))) { s with heap := zH s.heap "list_iterator" l1 l2 }) :=
  .of_wp fun pg wd A R s h => by
    obtain ⟨hp, g, d, tk, os⟩ := s
    obtain ⟨hl1, hl2, h⟩ := h
    have hsub := sub_zip
    have a1 : Heap.IsTuple (Shared.heap ⟨hp, g, d, tk, os⟩) l1 xs := hl1
    have a2 : Heap.IsList (Shared.heap ⟨hp.push { cls := .type "tuple_iterator", data := .fields #[.ref l1, .int 0 0] }, g, d, tk, os⟩) l2 ys := hl2.at fun o e => get?_push_of_some _ e
    wp_walk using wpAny_pyIter_tuple a1, wpAny_pyIter_list a2
    exact ⟨_, rfl, h⟩
section
variable {pg : Program} {wd : World} {A : Around} {E : Value → Shared → Prop} {s : Shared}
theorem zH_ok {c2 : String} {l1 l2 : Addr} {Q : Value → Heap → Prop} {h : Heap} (q : ∀ h', IsZip h' (h.objs.size + 4) (h.objs.size + 2) (h.objs.size + 3) .none → IsPair h' (h.objs.size + 2) (.ref h.objs.size) (.ref (h.objs.size + 1)) → IsPair h' (h.objs.size + 3) .none .none →
      isIt "tuple_iterator" h.objs.size l1 0 h' → isIt c2 (h.objs.size + 1) l2 0 h' → (∀ c o, h.get? c = some o → h'.get? c = some o) → Q (.ref (h.objs.size + 4)) h') : (∃ o, (zH h c2 l1 l2).get? (zR h c2 l1 l2) = some o ∧ o.cls = .type "zip") ∧ Q (.ref (zR h c2 l1 l2)) (zH h c2 l1 l2) := by
  have e1 : (h.push (tI "tuple_iterator" l1)).objs.size = h.objs.size + 1 := size_push ..
  have e2 : ((h.push (tI "tuple_iterator" l1)).push (tI c2 l2)).objs.size = h.objs.size + 2 := by rw [size_push, e1]
  have e3 : (((h.push (tI "tuple_iterator" l1)).push (tI c2 l2)).push { cls := .type "tuple", data := .seq #[.ref h.objs.size, .ref (h.objs.size + 1)] }).objs.size = h.objs.size + 3 := by rw [size_push, e2]
  have e4 : ((((h.push (tI "tuple_iterator" l1)).push (tI c2 l2)).push { cls := .type "tuple", data := .seq #[.ref h.objs.size, .ref (h.objs.size + 1)] }).push { cls := .type "tuple", data := .seq #[.none, .none] }).objs.size = h.objs.size + 4 := by rw [size_push, e3]
  unfold zH zR
  rw [e1, e2, e3, e4]
  have g5 := get?_push_size ((((h.push (tI "tuple_iterator" l1)).push (tI c2 l2)).push { cls := .type "tuple", data := .seq #[.ref h.objs.size, .ref (h.objs.size + 1)] }).push { cls := .type "tuple", data := .seq #[.none, .none] }) (o := { cls := .type "zip", data := .fields #[.none, .bool false, .bool false, .ref (h.objs.size + 2), .ref (h.objs.size + 3)] }) rfl
  rw [e4] at g5
  have g4 := get?_push_size (((h.push (tI "tuple_iterator" l1)).push (tI c2 l2)).push { cls := .type "tuple", data := .seq #[.ref h.objs.size, .ref (h.objs.size + 1)] }) (o := { cls := .type "tuple", data := .seq #[.none, .none] }) rfl
  rw [e3] at g4
  have g3 := get?_push_size ((h.push (tI "tuple_iterator" l1)).push (tI c2 l2)) (o := { cls := .type "tuple", data := .seq #[.ref h.objs.size, .ref (h.objs.size + 1)] }) rfl
  rw [e2] at g3
  have g2 := get?_push_size (h.push (tI "tuple_iterator" l1)) (o := tI c2 l2) rfl
  rw [e1] at g2
  have g1 := get?_push_size h (o := tI "tuple_iterator" l1) rfl
  exact ⟨⟨_, g5, rfl⟩, q _ g5 (get?_push_of_some _ (get?_push_of_some _ g3)) (get?_push_of_some _ g4) ⟨_, get?_push_of_some _ (get?_push_of_some _ (get?_push_of_some _ (get?_push_of_some _ g1))), rfl, rfl⟩
    ⟨_, get?_push_of_some _ (get?_push_of_some _ (get?_push_of_some _ g2)), rfl, rfl⟩ fun c o e => get?_push_of_some _ (get?_push_of_some _ (get?_push_of_some _ (get?_push_of_some _ (get?_push_of_some _ e))))⟩
theorem call_zipT (hl1 : s.heap.IsTuple l1 xs) (hl2 : s.heap.IsTuple l2 ys) (h : ∀ h', IsZip h' (s.heap.objs.size + 4) (s.heap.objs.size + 2) (s.heap.objs.size + 3) .none → IsPair h' (s.heap.objs.size + 2) (.ref s.heap.objs.size) (.ref (s.heap.objs.size + 1)) → IsPair h' (s.heap.objs.size + 3) .none .none →
      isIt "tuple_iterator" s.heap.objs.size l1 0 h' → isIt "tuple_iterator" (s.heap.objs.size + 1) l2 0 h' → (∀ c o, s.heap.get? c = some o → h'.get? c = some o) → Q (.ref (s.heap.objs.size + 4)) { s with heap := h' }) :
    wpAny (model pg wd) A (call (.type "zip") [.ref l1, .ref l2]) Q E s :=
  callType_new called_zip (by decide) (typeCall_zip_2 _ _) (newCall_zip_2 _ _) (fun obj => PySem.F.args_object_init_3 obj _ _) entry_zip_new (meets_zipT l1 l2 xs ys) ⟨hl1, hl2, zH_ok (Q := fun v h' => Q v { s with heap := h' }) h⟩
theorem call_zipL (hl1 : s.heap.IsTuple l1 xs) (hl2 : s.heap.IsList l2 ys) (h : ∀ h', IsZip h' (s.heap.objs.size + 4) (s.heap.objs.size + 2) (s.heap.objs.size + 3) .none → IsPair h' (s.heap.objs.size + 2) (.ref s.heap.objs.size) (.ref (s.heap.objs.size + 1)) → IsPair h' (s.heap.objs.size + 3) .none .none →
      isIt "tuple_iterator" s.heap.objs.size l1 0 h' → isIt "list_iterator" (s.heap.objs.size + 1) l2 0 h' → (∀ c o, s.heap.get? c = some o → h'.get? c = some o) → Q (.ref (s.heap.objs.size + 4)) { s with heap := h' }) :
    wpAny (model pg wd) A (call (.type "zip") [.ref l1, .ref l2]) Q E s :=
  callType_new called_zip (by decide) (typeCall_zip_2 _ _) (newCall_zip_2 _ _) (fun obj => PySem.F.args_object_init_3 obj _ _) entry_zip_new (meets_zipL l1 l2 xs ys) ⟨hl1, hl2, zH_ok (Q := fun v h' => Q v { s with heap := h' }) h⟩
end
def Itz (A B : Hp → List V → Prop) : L2.It :=
  ⟨fun i H => ∃ xs ys x y, A H xs ∧ B H ys ∧ xs[i]? = some x ∧ ys[i]? = some y,
   fun i H v H' => ∃ T x y, (∀ xs, A H xs → xs[i]? = some x) ∧ (∀ ys, B H ys → ys[i]? = some y) ∧ v = .ref T ∧ H T = none ∧ H' = upd H T (.tup [x, y]),
   fun i H => ∃ xs ys, A H xs ∧ B H ys ∧ (xs.length ≤ i ∨ ys.length ≤ i)⟩
theorem turn_zipT {P : Program} {w : World} {K : Frag} {elts : List Expr} {k : Nat} {pos : Pos} {c1 c2 : String} {q1 q2 : Hp → List V → Prop} {p1 p2 : Heap → Array Value → Prop} (a b z TI TO i1 i2 : Addr) (ap : ZA z TI TO i1 i2 [i1, a] [i2, b]) (D1 : Src P w K c1 i1 a q1 p1) (D2 : Src P w K c2 i2 b q2 p2) :
    Turn P w K (.Tuple elts k pos) (Itz q1 q2) [z, TI, TO, i1, i2] z (fun i h => IsZip h z TI TO .none ∧ IsPair h TI (.ref i1) (.ref i2) ∧ (∃ u v, IsPair h TO u v) ∧ isIt c1 i1 a i h ∧ isIt c2 i2 b i h) where
  mem := by simp
  obj := fun i h st c hc => by
    obtain ⟨hz, hI, ⟨u, v, hO⟩, ⟨o1, e1, c1, d1⟩, ⟨o2, e2, c2, d2⟩⟩ := st
    have hc' : c = z ∨ c = TI ∨ c = TO ∨ c = i1 ∨ c = i2 := by simpa using hc
    rcases hc' with rfl | rfl | rfl | rfl | rfl
    · exact ⟨_, hz, fun v z => by cases z⟩
    · exact ⟨_, hI, fun v z => by cases z⟩
    · exact ⟨_, hO, fun v z => by cases z⟩
    · exact ⟨o1, e1, fun v z => by rw [d1] at z; cases z⟩
    · exact ⟨o2, e2, fun v z => by rw [d2] at z; cases z⟩
  keep := fun i h h' st kp => by
    obtain ⟨hz, hI, ⟨u, v, hO⟩, s1, s2⟩ := st
    exact ⟨kp z (by simp) _ hz, kp TI (by simp) _ hI, ⟨u, v, kp TO (by simp) _ hO⟩, s1.at fun o q => kp i1 (by simp) o q, s2.at fun o q => kp i2 (by simp) o q⟩
  item := by
    intro X hP hw hK hc i pins s σ H E I hf st hg
    subst hP hw
    obtain ⟨xs, ys, x, y, q1, q2, hx, hy⟩ := hg
    obtain ⟨its1, rv1, p1⟩ := D1.vals X pins s σ H xs hK I q1
    obtain ⟨its2, rv2, p2⟩ := D2.vals X pins s σ H ys hK I q2
    obtain ⟨u1, hu1, ru1⟩ := rv1.get hx
    obtain ⟨u2, hu2, ru2⟩ := rv2.get hy
    obtain ⟨hz, hI, ⟨u, v, hO⟩, s1, s2⟩ := st
    have l1 : i < its1.toArray.size := by have := (List.getElem?_eq_some_iff.mp hu1).1; simpa using this
    have l2 : i < its2.toArray.size := by have := (List.getElem?_eq_some_iff.mp hu2).1; simpa using this
    refine nextZ_item (D1.item X.A.in1 its1.toArray (I.ok.hd hc)) (D2.item X.A.in1 its2.toArray (I.ok.hd hc)) ap hz hI hO ⟨s1, p1⟩ ⟨s2, p2⟩ l1 l2 fun x' y' h' tk px py hz' hI' hO' s1' s2' hT hk => ⟨_, rfl, ?_⟩
    have ex : x' = u1 := by
      have : its1[i]? = some x' := by simpa using px
      rw [hu1] at this; exact (Option.some.inj this).symm
    have ey : y' = u2 := by
      have : its2[i]? = some y' := by simpa using py
      rw [hu2] at this; exact (Option.some.inj this).symm
    subst ex ey
    refine wpAny_letOwnedTupleGo_zip hz' fun h2 hz2 hs2 => ?_
    have lz : z < s.heap.objs.size := lt_size hz
    have hT2 : IsPair h2 s.heap.objs.size x' y' := (hs2.2 _ (ne_of_gt lz)).trans hT
    have hn : H s.heap.objs.size = none := I.fresh
    have I2 : Inv X pins σ (upd H s.heap.objs.size (.tup [x, y])) { s with heap := h2, toks := tk } := by
      refine inv_walked (ch := [z, TO, i1, i2]) I (fun c hc => hf c (by simp at hc ⊢; rcases hc with h | h | h | h <;> simp [h])) (fun c o hc q => ?_) (le_refl _) ?_
      · exact (hs2.2 c fun e => hc (by simp [e])).trans (hk c o hc q)
      · exact ⟨show 2 ≤ sizeLine by decide, [x', y'], .cons ru1 (.cons ru2 .nil), ⟨⟨_, hT2, rfl, _, rfl⟩, _, hT2, rfl⟩⟩
    refine ⟨.ref s.heap.objs.size, upd H s.heap.objs.size (.tup [x, y]), I2, rfl, ⟨_, x, y, fun xs' h' => by rw [D1.inj X pins s σ H _ _ hK I h' q1]; exact hx, fun ys' h' => by rw [D2.inj X pins s σ H _ _ hK I h' q2]; exact hy, rfl, hn, rfl⟩,
      ⟨hz2, (hs2.2 _ ap.Iz).trans hI', ⟨_, _, (hs2.2 _ ap.Oz).trans hO'⟩, s1'.1.at fun o q => (hs2.2 _ ap.az).trans q, s2'.1.at fun o q => (hs2.2 _ ap.bz).trans q⟩, fun c hc => ?_⟩
    have hlt : c < s.heap.objs.size := by
      have hc' : c = z ∨ c = TI ∨ c = TO ∨ c = i1 ∨ c = i2 := by simpa using hc
      obtain ⟨o1, e1, _⟩ := s1
      obtain ⟨o2, e2, _⟩ := s2
      rcases hc' with rfl | rfl | rfl | rfl | rfl
      · exact lt_size hz
      · exact lt_size hI
      · exact lt_size hO
      · exact lt_size e1
      · exact lt_size e2
    rw [upd_ne (ne_of_lt hlt)]
    exact (hf c hc).1
  done := by
    intro X hP hw hK hc i pins s σ H E I hf st hg
    subst hP hw
    obtain ⟨xs, ys, q1, q2, hor⟩ := hg
    obtain ⟨its1, rv1, p1⟩ := D1.vals X pins s σ H xs hK I q1
    obtain ⟨its2, rv2, p2⟩ := D2.vals X pins s σ H ys hK I q2
    obtain ⟨hz, hI, ⟨u, v, hO⟩, s1, s2⟩ := st
    have hl1 := rv1.length
    have hl2 := rv2.length
    have fin : ∀ h' t, (∀ c o, c ∉ [z, TO, i1, i2] → s.heap.get? c = some o → h'.get? c = some o) → (none : Option Value) = none ∧ Inv X pins σ H { s with heap := h', toks := t } := fun h' t hk =>
      ⟨rfl, inv_turnedL (ch := [z, TO, i1, i2]) I (fun c hc => hf c (by simp at hc ⊢; rcases hc with h | h | h | h <;> simp [h])) hk⟩
    by_cases h1 : xs.length ≤ i
    · exact nextZ_end (D1.fin X.A.in1 its1.toArray i (I.ok.hd hc) (by simp; lia)) (D2.item X.A.in1 its2.toArray (I.ok.hd hc)) ap hz hI hO ⟨rfl, s1, p1⟩ ⟨s2, p2⟩ (.inl rfl) fin
    · have h2 : ys.length ≤ i := hor.resolve_left h1
      exact nextZ_end (D1.item X.A.in1 its1.toArray (I.ok.hd hc)) (D2.fin X.A.in1 its2.toArray i (I.ok.hd hc) (by simp; lia)) ap hz hI hO ⟨s1, p1⟩ ⟨rfl, s2, p2⟩ (.inr ⟨by simp; lia, rfl⟩) fin
  self := fun _ _ _ _ _ st h => wpAny_pyIter_zip st.1 h
theorem itOk_zip {K : Frag} {ρ : List Addr} {H : Hp} {J : Z.It} {q1 q2 : Hp → List V → Prop} (hJ : ∀ i ρ1 h1 H1, Ext K ρ H ρ1 H1 → Rep K ρ1 h1 H1 → J i h1 = none ∨ ∃ xs ys us vs, J i h1 = Z.itZip xs ys i h1 ∧ q1 H1 us ∧ q2 H1 vs ∧ RelDs K ρ1 H1 xs us ∧ RelDs K ρ1 H1 ys vs) : ItOk K ρ H J (Itz q1 q2) := by
  intro i ρ1 h1 H1 e1 R1
  rcases hJ i ρ1 h1 H1 e1 R1 with e | ⟨xs, ys, us, vs, e, q1', q2', r1, r2⟩
  · rw [e]; trivial
  rw [e]
  unfold Z.itZip
  cases ex : xs[i]? with
  | none => exact ⟨us, vs, q1', q2', .inl (by rw [← r1.length]; exact List.getElem?_eq_none_iff.mp ex)⟩
  | some x =>
    cases ey : ys[i]? with
    | none => exact ⟨us, vs, q1', q2', .inr (by rw [← r2.length]; exact List.getElem?_eq_none_iff.mp ey)⟩
    | some y =>
      obtain ⟨u, e3, e4⟩ := r1.get ex
      obtain ⟨v, e5, e6⟩ := r2.get ey
      refine ⟨⟨us, vs, u, v, q1', q2', e3, e5⟩, fun t H' hy => ?_⟩
      obtain ⟨T, u', v', h1', h2', rfl, hn, rfl⟩ := hy
      have := h1' us q1'
      rw [e3] at this; cases this
      have := h2' vs q2'
      rw [e5] at this; cases this
      refine ⟨.fresh hn, R1.fresh hn, ?_⟩
      erw [RelD, RelDs]
      exact ⟨T, _, rfl, .inl (.inl upd_same), _, _, rfl, RelD.mono (.fresh hn) _ _ e4, _, _, rfl, RelD.mono (.fresh hn) _ _ e6, rfl⟩
theorem itOk_zipT {K : Frag} {ρ : List Addr} {H : Hp} {a b : Addr} {xs ys : List Z.D} {us vs : List V} (q1 : SqT K H a us) (q2 : SqT K H b vs) (r1 : RelDs K ρ H xs us) (r2 : RelDs K ρ H ys vs) : ItOk K ρ H (Z.itZip xs ys) (Itz (fun H xs => SqT K H a xs) (fun H xs => SqT K H b xs)) :=
  itOk_zip fun i ρ1 h1 H1 e1 R1 => .inr ⟨xs, ys, us, vs, rfl, e1.sqT q1, e1.sqT q2, RelDs.mono e1 _ _ r1, RelDs.mono e1 _ _ r2⟩
theorem itOk_zipL {K : Frag} {ρ : List Addr} {H : Hp} {a b : Addr} {n : Nat} {xs : List Z.D} {us : List V} (q1 : SqT K H a us) (hn : ρ[n]? = some b) (r1 : RelDs K ρ H xs us) : ItOk K ρ H (Z.itZipL xs n) (Itz (fun H xs => SqT K H a xs) (fun H xs => SqL K H b xs)) :=
  itOk_zip fun i ρ1 h1 H1 e1 R1 => by
    have hn1 := e1.pre _ _ hn
    unfold Z.itZipL
    cases e : h1[n]? with
    | none => exact .inl rfl
    | some o =>
      cases o with
      | lst ys =>
        obtain ⟨b', eb, vs, e2, r2⟩ := R1.at_ n _ e
        rw [hn1] at eb; cases eb
        exact .inr ⟨xs, ys, us, vs, rfl, e1.sqT q1, .of e2, RelDs.mono e1 _ _ r1, r2⟩
      | _ => exact .inl rfl
theorem zip_apart (lt1 : c1 < m) (lt2 : c2 < m) : ZA (m + 4 : Nat) (m + 2 : Nat) (m + 3 : Nat) m (m + 1 : Nat) [m, c1] [(m + 1 : Nat), c2] ∧ c1 ≠ m ∧ c2 ≠ m + 1 ∧ ∀ c : Nat, c ∈ [m + 4, m + 2, m + 3, m, m + 1] → m ≤ c := by
  refine ⟨⟨?_, ?_, ?_, ?_, ?_, ?_, ?_, ?_, ?_, ?_, ?_, ?_, ?_, ?_, ?_, ?_⟩, ?_, ?_, ?_⟩
  all_goals first | (show (_ : Nat) ≠ (_ : Nat); lia) | (intro hm; rcases mem_cons.mp hm with e | hm; (first | (have e' : (_ : Nat) = (_ : Nat) := e; lia)); have e' : (_ : Nat) = (_ : Nat) := mem_singleton.mp hm; lia) | (intro c hc; simp at hc; lia)
section
variable {X : Cx} {sub : Nat → Nat → Bool} {Γ : Z.Gam} {E : Z.PX}
theorem li_zip2 {elts : List Expr} {k : Nat} {pt : Pos} {a b : Expr} {a' b' : Z.Ex} {p pos : Pos} (hg : Gl X "zip") (hm : X.mg "zip" = none) (ha : LA X sub Γ E [a, b] (.cons a' (.cons b' .nil))) (hs : starEach [a, b] X.env = (false, eval a X.env) :: starEach [b] X.env := by rfl) (hpl : (backTo pos (starEach [b] X.env)).any (·.1) = false := by rfl) :
    LI X sub Γ E (.Tuple elts k pt) (.Call (.Name "zip" p) [a, b] [] pos) .zip (.cons a' (.cons b' .nil)) := by
  intro pins s σ H Rr I ⟨ρ, h, τ, Q', R, L, w, kk⟩
  have up : upEs X.K (Z.wpEs sub Γ E (.cons a' (.cons b' .nil))) σ H (fun vs H1 => ∃ (c1 c2 : Addr) (us ws : List V), vs = [.ref c1, .ref c2] ∧ SqT X.K H1 c1 us ∧ (SqT X.K H1 c2 ws ∧ Rr (Itz (fun H xs => SqT X.K H c1 xs) (fun H xs => SqT X.K H c2 xs)) H1 ∨ SqL X.K H1 c2 ws ∧ Rr (Itz (fun H xs => SqT X.K H c1 xs) (fun H xs => SqL X.K H c2 xs)) H1)) := by
    refine ⟨ρ, h, τ, fun ds h1 => match ds with | [x, y] => Q' [x, y] h1 | _ => False, R, L, (by simpa only [Z.wpEs] using w), fun ds h1 ρ1 H1 vs e1 R1 r1 q => ?_⟩
    obtain ⟨x, y, rfl⟩ : ∃ x y, ds = [x, y] := by
      match ds, q with
      | [x, y], _ => exact ⟨x, y, rfl⟩
    obtain ⟨J, eJ, hk⟩ := kk _ h1 ρ1 H1 vs e1 R1 r1 q
    cases x with
    | tup xs =>
      cases y with
      | tup ys =>
        erw [Z.iterOf, Z.ioV, Z.ioR, Z.ioE, Z.ioZ, Z.ioB] at eJ
        cases eJ
        erw [RelDs, RelD] at r1
        obtain ⟨_, _, rfl, ⟨c1, us, rfl, q1, rs1⟩, _, _, rfl, ⟨c2, ws, rfl, q2, rs2⟩, rfl⟩ := r1
        exact ⟨c1, c2, us, ws, rfl, q1, .inl ⟨q2, hk _ (itOk_zipT q1 q2 rs1 rs2)⟩⟩
      | ref n =>
        erw [Z.iterOf, Z.ioV, Z.ioR, Z.ioE, Z.ioZ, Z.ioB] at eJ
        cases e : h1[n]? with
        | none => rw [e] at eJ; cases eJ
        | some o =>
          rw [e] at eJ
          cases o with
          | lst ys =>
            cases eJ
            erw [RelDs, RelD] at r1
            obtain ⟨_, _, rfl, ⟨c1, us, rfl, q1, rs1⟩, _, _, rfl, ⟨c2, rfl, q2⟩, rfl⟩ := r1
            obtain ⟨b, eb, ws, e2, rs⟩ := R1.at_ n _ e
            rw [q2] at eb; cases eb
            exact ⟨c1, c2, us, ws, rfl, q1, .inr ⟨.of e2, hk _ (itOk_zipL q1 q2 rs1)⟩⟩
          | _ => cases eJ
      | _ => erw [Z.iterOf, Z.ioV, Z.ioR, Z.ioE, Z.ioZ, Z.ioB] at eJ; cases eJ
    | _ => erw [Z.iterOf, Z.ioV, Z.ioR, Z.ioE, Z.ioZ, Z.ioB] at eJ; cases eJ
  refine Call_ (ld_blt I hg hm bt_zip (PyProof.Rows.callWith_type1 (thn (ha pos pins s σ H _ I up) fun us s1 ⟨vs, H1, I1, r1, q1⟩ => ?_) hs hpl))
  obtain ⟨c1, c2, us', ws', rfl, t1, q⟩ := q1
  cases r1 with
  | cons r rr =>
    cases rr with
    | cons r' rr =>
      cases rr
      cases r
      cases r'
      obtain ⟨its1, rv1, p1, _⟩ := I1.tuple t1
      have lt1 : c1 < s1.heap.objs.size := by obtain ⟨_, e, _⟩ := p1; exact lt_size e
      have fresh : ∀ c : Nat, s1.heap.objs.size ≤ c → FpOk X pins H1 c := fun c hge => I1.fpOk hge (I1.hok.fresh hge)
      rcases q with ⟨t2, q⟩ | ⟨t2, q⟩
      · obtain ⟨its2, rv2, p2, _⟩ := I1.tuple t2
        have lt2 : c2 < s1.heap.objs.size := by obtain ⟨_, e, _⟩ := p2; exact lt_size e
        obtain ⟨ap, n1, n2, hge⟩ := zip_apart lt1 lt2
        refine call_zipT (show s1.heap.IsTuple c1 its1.toArray from p1) (show s1.heap.IsTuple c2 its2.toArray from p2) fun h' hz hI hO i1 i2 hk => ?_
        exact wpAny_pyIter_zip hz ⟨s1.heap.objs.size + 4, _, _, _, H1, rfl, I1.kept (t' := s1.toks) hk, turn_zipT c1 c2 _ _ _ _ _ ap (src_tup n1) (src_tup n2), ⟨hz, hI, ⟨_, _, hO⟩, i1, i2⟩, fun c hc => fresh c (hge c hc), q⟩
      · obtain ⟨its2, rv2, p2, _⟩ := I1.list t2
        have p2 := p2.isList
        have lt2 : c2 < s1.heap.objs.size := by obtain ⟨_, e, _⟩ := p2; exact lt_size e
        obtain ⟨ap, n1, n2, hge⟩ := zip_apart lt1 lt2
        refine call_zipL (show s1.heap.IsTuple c1 its1.toArray from p1) p2 fun h' hz hI hO i1 i2 hk => ?_
        exact wpAny_pyIter_zip hz ⟨s1.heap.objs.size + 4, _, _, _, H1, rfl, I1.kept (t' := s1.toks) hk, turn_zipT c1 c2 _ _ _ _ _ ap (src_tup n1) (src_lst n2), ⟨hz, hI, ⟨_, _, hO⟩, i1, i2⟩, fun c hc => fresh c (hge c hc), q⟩
theorem bind3 {K : Frag} {ρ : List Addr} {H : Hp} {d : Z.D} {v : V} {τ τ' : Z.Lo} {σ : L2.St} {i j l : Nat} (r : RelD K ρ H d v) (L : RelL K ρ H τ σ) (e : Z.bindT [i, j, l] d τ = some τ') :
    ∃ a v1 v2 v3, v = .ref a ∧ SqT K H a [v1, v2, v3] ∧ RelL K ρ H τ' (((σ.set i (some v1)).set j (some v2)).set l (some v3)) := by
  cases d with
  | tup ds =>
    erw [Z.bindT] at e
    split at e
    · rename_i hl
      cases e
      erw [RelD] at r
      obtain ⟨a, ys, rfl, q, r⟩ := r
      match ds, hl with
      | [d1, d2, d3], _ =>
        erw [RelDs] at r
        obtain ⟨v1, _, rfl, r1, v2, _, rfl, r2, v3, _, rfl, r3, rfl⟩ := r
        exact ⟨a, v1, v2, v3, rfl, q, ((L.set r1).set r2).set r3⟩
    · cases e
  | _ => simp [Z.bindT] at e
theorem zunp3 (i j l : Nat) {x y z : Str} {e : Expr} {e' : Z.Ex} {px py pz pt pos : Pos} {k : Nat} (hc : X.calm = true) (hN : X.N.Nodup) (he : LE X sub Γ E e e') (hi : X.N[i]? = some x := by rfl) (hj : X.N[j]? = some y := by rfl) (hl : X.N[l]? = some z := by rfl) (hx : Loc X.env.scope x := by first | exact Or.inl rfl | exact Or.inr rfl) (hy : Loc X.env.scope y := by first | exact Or.inl rfl | exact Or.inr rfl) (hz : Loc X.env.scope z := by first | exact Or.inl rfl | exact Or.inr rfl) (hfx : X.fn x = true ∨ X.env.scope.names.lookup x = some .local := by first | exact .inl rfl | exact .inr rfl) (hfy : X.fn y = true ∨ X.env.scope.names.lookup y = some .local := by first | exact .inl rfl | exact .inr rfl) (hfz : X.fn z = true ∨ X.env.scope.names.lookup z = some .local := by first | exact .inl rfl | exact .inr rfl) (hs : swapsWithSole [.Tuple [.Name x px, .Name y py, .Name z pz] k pt] e pos.line X.env = pure false := by rfl) (hw : swappedStores [.Tuple [.Name x px, .Name y py, .Name z pz] k pt] e X.env = pure none := by rfl) : LS X sub Γ E (.Assign [.Tuple [.Name x px, .Name y py, .Name z pz] k pt] e pos) (.unp [i, j, l] e') := by
  refine PSw (ps_asg he (pg_tup (n := 3) hc (pgs_cons (pg_name (pos := px) hN hi hx hfx) (pgs_cons (pg_name (pos := py) hN hj hy hfy) (pgs_cons (pg_name (pos := pz) hN hl hz hfz) pgs_nil))) (by rfl) (by rfl)) hs hw rfl) ?_
  rintro D σ H ⟨ρ, h, τ, N, R, L, w, k⟩
  erw [Z.wpS] at w
  refine ⟨ρ, h, τ, _, R, L, w, fun d1 h1 ρ1 H1 v e1 R1 r1 w1 => ?_⟩
  cases eb : Z.bindT [i, j, l] d1 τ with
  | none => rw [eb] at w1; exact w1.elim
  | some τ' =>
    rw [eb] at w1
    obtain ⟨a, v1, v2, v3, rfl, hS, L'⟩ := bind3 r1 (L.mono e1) eb
    exact ⟨a, _, rfl, hS, rfl, v1, _, rfl, v2, _, rfl, v3, _, rfl, rfl, k.nx τ' h1 ρ1 H1 _ e1 R1 L' w1⟩
theorem kit_ow {K : Frag} {C D : Addr} {b : Bool} (hm : PySem.W.mroIn K C (.ref D) = some b) (hs : PySem.W.mroIn K D (.ref D) = some true) (ht : typeIn K (.ref D) = some (.type "type")) : kitOne K (.ref C) (.ref D) = some b := by
  unfold kitOne
  by_cases e : C = D
  · subst e
    rw [hm] at hs; cases hs
    rw [if_pos (beq_self_eq_true _)]
  · rw [if_neg (by simpa using e)]
    have h1 : (PySem.W.clsIn K D).isSome = true := by
      unfold PySem.W.mroIn at hs
      cases q : PySem.W.clsIn K D with
      | none => rw [q] at hs; cases hs
      | some _ => rfl
    unfold kitCls
    erw [h1, ht, beq_self_eq_true, Bool.and_self, if_true]
    exact hm
end
end ZS
namespace ZS
open PySem PySem.Spec PyProof.Rows L2
section
variable {M : Model} {A : Around} {E : Value → Shared → Prop} {s : Shared}
theorem new_entry (hfr : A.frames = some (env :: outer)) (hl : s.heap.FunFrames base (env :: outer)) (hf : env.frame = some L) (he : s.heap.get? e = some oe) (hd : oe.data = .fields vs) (hsz : 1 < vs.size) (h : ∀ h', (∀ b o, b ≠ e → b ∉ frs (env :: outer) → s.heap.get? b = some o → h'.get? b = some o) → (∀ b o, b ∈ frs (env :: outer) → s.heap.get? b = some o → ∃ sl, h'.get? b = some { o with slots := sl }) →
      (∃ oe' vs', h'.get? e = some oe' ∧ oe'.cls = oe.cls ∧ oe'.dict = oe.dict ∧ oe'.data = .fields vs' ∧ vs'[1]? = some (.ref s.heap.objs.size)) → (∃ oT ts, h'.get? s.heap.objs.size = some oT ∧ oT.data = .fields ts ∧ ts[3]? = some .none) → Q () { s with heap := h' }) :
    wpAny M A (do let a ← frameOf env; let pl ← entryPlaceOf L hadNext; let b ← EntryCells.newEntry head a .none (rawInt L) .none pl; setField (.ref e) 1 b) (fun _ s' => wpAny M A (setFlight (.ref e) none) Q E s') E s := by
  have ne0 : e ∉ (env :: outer).filterMap (·.frame) := fun hm => by
    obtain ⟨_, o, ho, hnf⟩ := hl.mem hm
    rw [he] at ho; injection ho with ho; subst ho; exact hnf vs hd
  refine wpAny_bind (wpAny_frameOf_fun hfr hl hf fun g1 u1 => ?_)
  refine wpAny_bind (wpAny_entryPlaceOf fun pl pq => ?_)
  unfold EntryCells.newEntry newFields
  refine wpAny_bind (wpAny_newObj_type ?_ (pq.sizeOk5 _ _ _ _ _))
  have i1 : g1.get? e = some oe := (u1.2.1 e ne0).trans he
  have i2 := get?_push_of_some (h := g1) { cls := .type "traceback", dict := none, data := .fields ([head, .ref L, .none, rawInt L, .none] ++ (if pl.isEmpty then replicate 6 Value.none else pl)).toArray } i1
  refine wpAny_setField i2 hd hsz ?_
  have nt : g1.objs.size ≠ e := ne_of_gt (lt_size i1)
  have j3 := Obj.data_mapFields hd (·.setIfInBounds 1 (Value.ref g1.objs.size))
  have i3 := get?_update_self (Obj.mapFields (·.setIfInBounds 1 (Value.ref g1.objs.size))) i2 (Obj.isFreed_of_fields j3)
  have t3 := (get?_update_other (g1.push { cls := .type "traceback", dict := none, data := .fields ([head, .ref L, .none, rawInt L, .none] ++ (if pl.isEmpty then replicate 6 Value.none else pl)).toArray })
    (Obj.mapFields (·.setIfInBounds 1 (Value.ref g1.objs.size))) (Ne.symm nt)).trans (get?_push_size g1 rfl)
  unfold setFlight
  refine wpAny_bind (wpAny_field i3 j3 (x := .ref g1.objs.size) (by simp [hsz]) ?_)
  rw [if_pos (show (Value.ref g1.objs.size != Value.none) = true from by simp)]
  refine wpAny_setField t3 rfl (by erw [size_toArray, length_append, length_cons, length_nil] <;> lia) (h _ ?_ ?_ ?_ ?_)
  · intro b o hbe hbf hb
    have hb1 : g1.get? b = some o := (u1.2.1 b hbf).trans hb
    have hbT : g1.objs.size ≠ b := ne_of_gt (lt_size hb1)
    rw [get?_update_other _ _ hbT, get?_update_other _ _ (Ne.symm hbe)]
    exact get?_push_of_some _ hb1
  · intro b o hbf hb
    obtain ⟨sl, hb1⟩ := u1.2.2 b o hb
    have hbe : b ≠ e := fun z => ne0 (z ▸ hbf)
    have hbT : g1.objs.size ≠ b := ne_of_gt (lt_size hb1)
    refine ⟨sl, ?_⟩
    rw [get?_update_other _ _ hbT, get?_update_other _ _ (Ne.symm hbe)]
    exact get?_push_of_some _ hb1
  · rw [← u1.1]
    refine ⟨_, _, ?_, Obj.cls_mapFields _ _, ?_, j3, by simp [hsz]⟩
    · rw [get?_update_other _ _ nt]; exact i3
    · obtain ⟨c, d, dt, sl⟩ := oe
      cases dt <;> rfl
  · rw [← u1.1]
    exact ⟨_, _, get?_update_self _ t3 (Obj.isFreed_of_fields (Obj.data_mapFields rfl _)), Obj.data_mapFields rfl _, by first | (simp; done) | (rcases pq with rfl | ⟨_, _, _, _, _, _, _, rfl⟩ <;> simp)⟩
end
def XD (H : Hp) (oe : Obj) : Option Int → Prop
  | none => oe.dict = none
  | some i => ∃ dx od, oe.dict = some dx ∧ H dx = some (.frz od (.xd [("row", .int i)]))
theorem XD.of (e : oe'.dict = oe.dict) : ∀ {xr : Option Int}, XD H oe xr → XD H oe' xr
  | none, x => e.trans x
  | some _, ⟨dx, od, h1, h2⟩ => ⟨dx, od, e.trans h1, h2⟩
def xv : Option Int → Value
  | none => .none
  | some i => .int i 0
theorem xv_inj : ∀ {a b : Option Int}, xv a = xv b → a = b
  | none, none, _ => rfl
  | none, some _, e => by cases e
  | some _, none, e => by cases e
  | some _, some _, e => by cases e; rfl
def xD (cn : Z.S) : Option Int → Z.D
  | none => .str cn
  | some i => .tup [.str cn, .int i]
structure ExcAt (g h : Heap) (H : Hp) (xr : Option Int) (C ea : Addr) : Prop where
  new : g.get? ea = none
  free : H ea = none
  at_ : ∃ oe vs, h.get? ea = some oe ∧ oe.cls = .ref C ∧ XD H oe xr ∧ oe.data = .fields vs ∧
    (vs[1]? = some .none ∨ ∃ T oT ts, vs[1]? = some (.ref T) ∧ g.get? T = none ∧ H T = none ∧ T ≠ ea ∧ h.get? T = some oT ∧ oT.data = .fields ts ∧ ts[3]? = some .none)
section
variable {M : Model} {A : Around} {E : Value → Shared → Prop} {s : Shared}
theorem leave_ok (hfr : A.frames = some (env :: outer)) (hl : s.heap.FunFrames base (env :: outer)) (hf : env.frame = some L) (x : ExcAt g s.heap H xr C ea) (hg : ∀ b o, g.get? b = some o → ∃ o', s.heap.get? b = some o') (hok : HOk P w H s.heap) (h : ∀ (h' : Heap) (ch : List Addr), (∀ b ∈ ch, g.get? b = none ∧ H b = none ∧ b ∉ frs (env :: outer) ∧ (∃ o, s.heap.get? b = some o ∧ ∃ vs, o.data = .fields vs) ∧ ∃ o, h'.get? b = some o) → (∀ b o, b ∉ ch → b ∉ frs (env :: outer) → s.heap.get? b = some o → h'.get? b = some o) →
      (∀ b o, b ∈ frs (env :: outer) → s.heap.get? b = some o → ∃ sl, h'.get? b = some { o with slots := sl }) → ExcAt g h' H xr C ea → Q () { s with heap := h' }) :
    wpAny M A (noteFrame (.ref ea) env) (fun _ s₂ => wpAny M A (setFlight (.ref ea) none) Q E s₂) E s := by
  obtain ⟨hn, hfree, oe, vs, he, hc, hdi, hd, ht⟩ := x
  have nof : ∀ b o vs, s.heap.get? b = some o → o.data = .fields vs → b ∉ frs (env :: outer) := fun b o vs e d hm => by
    obtain ⟨_, o', ho, hnf⟩ := hl.mem hm
    rw [e] at ho; injection ho with ho; subst ho; exact hnf vs d
  have newT : g.get? s.heap.objs.size = none := by
    cases q : g.get? s.heap.objs.size with
    | none => rfl
    | some o => obtain ⟨o', e⟩ := hg _ o q; exact absurd (lt_size e) (lt_irrefl _)
  unfold noteFrame
  erw [hf]
  rcases ht with h1 | ⟨T, oT, ts, h1, nT, fT, nt, hT, hdT, h3⟩
  · refine wpAny_bind (wpAny_field he hd h1 ?_)
    rw [if_neg (by decide)]
    refine new_entry hfr hl hf he hd (Array.getElem?_eq_some_iff.mp h1).1 fun h' k1 k2 ⟨oe', vs', k3, k4, k5, k6, k7⟩ ⟨oT, ts, k8, k9, k10⟩ => ?_
    refine h h' [ea] (fun b hb => ?_) (fun b o hb hbf e => k1 b o (fun z => hb (by simp [z])) hbf e) k2 ⟨hn, hfree, oe', vs', k3, k4.trans hc, XD.of k5 hdi, k6, .inr ⟨_, oT, ts, k7, newT, hok.fresh (le_refl _), ne_of_gt (lt_size he), k8, k9, k10⟩⟩
    rw [mem_singleton.mp hb]
    exact ⟨hn, hfree, nof _ _ _ he hd, ⟨_, he, _, hd⟩, _, k3⟩
  · refine wpAny_bind (wpAny_field he hd h1 ?_)
    rw [if_pos (show (Value.ref T != Value.none) = true from by simp)]
    refine wpAny_bind (wpAny_field hT hdT h3 ?_)
    rw [if_neg (show ¬ ((Value.none == rawInt L) = true) from by simp [rawInt])]
    refine wpAny_bind (wpAny_setField hT hdT (Array.getElem?_eq_some_iff.mp h3).1 ?_)
    have ot : ∀ b, b ≠ T → (s.heap.update T (Obj.mapFields (·.setIfInBounds 3 Value.none))).get? b = s.heap.get? b := fun b hb => get?_update_other _ _ (Ne.symm hb)
    have nr : ∀ b o, s.heap.get? b = some o → (∀ vs, o.data ≠ .fields vs) → b ≠ T := fun b o hb hnf q => by
      rw [q, hT] at hb; injection hb with hb; subst hb; exact hnf ts hdT
    have sz : (s.heap.update T (Obj.mapFields (·.setIfInBounds 3 Value.none))).objs.size = s.heap.objs.size := Heap.size_after_update ..
    have hT2 := get?_update_self (Obj.mapFields (·.setIfInBounds 3 Value.none)) hT (Obj.isFreed_of_fields (Obj.data_mapFields hdT _))
    refine new_entry (s := { s with heap := s.heap.update T (Obj.mapFields (·.setIfInBounds 3 Value.none)) }) hfr (hl.of_keeps fun b o hb hnf => ⟨o, (ot b (nr b o hb hnf)).trans hb, rfl⟩) hf ((ot ea (Ne.symm nt)).trans he) hd (Array.getElem?_eq_some_iff.mp h1).1 fun h' k1 k2 ⟨oe', vs', k3, k4, k5, k6, k7⟩ ⟨oT', ts', k8, k9, k10⟩ => ?_
    have k7 : vs'[1]? = some (.ref s.heap.objs.size) := sz ▸ k7
    have k8 : h'.get? s.heap.objs.size = some oT' := sz ▸ k8
    refine h h' [ea, T] (fun b hb => ?_) (fun b o hb hbf e => k1 b o (fun z => hb (by simp [z])) hbf ((ot b fun z => hb (by simp [z])).trans e)) (fun b o hbf e => k2 b o hbf ((ot b fun z => nof T oT ts hT hdT (z ▸ hbf)).trans e)) ⟨hn, hfree, oe', vs', k3, k4.trans hc, XD.of k5 hdi, k6, .inr ⟨_, oT', ts', k7, newT, hok.fresh (le_refl _), ne_of_gt (lt_size he), k8, k9, k10⟩⟩
    rcases mem_cons.mp hb with rfl | hb
    · exact ⟨hn, hfree, nof _ _ _ he hd, ⟨_, he, _, hd⟩, _, k3⟩
    · rw [mem_singleton.mp hb]
      exact ⟨nT, fT, nof _ _ _ hT hdT, ⟨_, hT, _, hdT⟩, _, k1 T _ nt (nof _ _ _ hT hdT) hT2⟩
end
theorem ObjOk.is (x : ObjOk P w H h a o) : ∃ u, h.get? a = some u := by
  cases o with
  | lst xs => obtain ⟨_, _, _, _, e⟩ := x; exact ⟨_, e⟩
  | tup xs => obtain ⟨_, _, _, ⟨o, e, _⟩, _⟩ := x; exact ⟨_, e⟩
  | dK kvs => obtain ⟨_, _, _, _, o, _, _, e, _⟩ := x; exact ⟨_, e⟩
  | dT kvs => obtain ⟨_, _, _, _, o, _, _, e, _⟩ := x; exact ⟨_, e⟩
  | set S n => obtain ⟨o, _, _, _, e, _⟩ := x; exact ⟨_, e⟩
  | ins C dx fs => obtain ⟨_, _, _, e, _⟩ := x; exact ⟨_, e⟩
  | own y => obtain ⟨_, e⟩ := x; exact ⟨_, e⟩
  | xd fs => obtain ⟨mA, ⟨od, es, ep, e, c⟩, r⟩ := x; exact ⟨_, e⟩
  | rng lo hi => obtain ⟨t, u, v, e⟩ := x; exact ⟨_, e⟩
  | frz ob u => obtain ⟨e, q⟩ := x; exact ⟨_, e⟩
  | tbl ps => exact ⟨_, x⟩
  | met f y => exact ⟨_, x⟩
  | ext φ => obtain ⟨p, ⟨o, e⟩, st⟩ := x; exact ⟨_, e⟩
def CX1 (P : Program) (w : World) : CXT := fun outer H s E e s' => ∃ ea C xr H', e = .ref ea ∧ s'.os = s.os ∧ AllBare s'.gens ∧ Un (frs outer) [] H H' s.heap s'.heap ∧ HOk P w H' s'.heap ∧ ExcAt s.heap s'.heap H' xr C ea ∧ E (xv xr) (some C) H'
theorem x_out {P : Program} {w : World} {K : Frag} {mg : Str → Option Value} {base : Heap} {N : List Str} {qual : Str} {scope : Scope} {f : Addr} {cd : Value} {A : Around} {outer : List Env} {s : Shared} {H : Hp} {E : XK} {pins : List (Addr × Obj)} {σ : L2.St} {H1 : Hp} {s1 : Shared} {C ea : Addr} {xr : Option Int} (I : Inv (cxOf (CX1 P w) P w K mg base N qual scope f cd A outer s H E) pins σ H1 s1) (x : ExcAt s.heap s1.heap H1 xr C ea) (he : E (xv xr) (some C) H1) : (cxOf (CX1 P w) P w K mg base N qual scope f cd A outer s H E).xe (.ref ea) s1 := by
  have noex : ∀ b : Addr, b ∉ (cxOf (CX1 P w) P w K mg base N qual scope f cd A outer s H E).ex := fun b z => absurd (show b ∈ ([] : List Addr) from z) (by simp)
  show wpAny (model P w) (A.deeper (envOfC qual scope s.heap.objs.size f cd)) (leaving (envOfC qual scope s.heap.objs.size f cd) (.ref ea)) (fun _ s'' => CX1 P w outer H s E (.ref ea) s'') (fun e' s'' => CX1 P w outer H s E e' s'') s1
  unfold leaving
  refine wpAny_bind (leave_ok (P := P) (w := w) (g := s.heap) (H := H1) (base := base) (outer := outer) I.ok.frames I.stack rfl x (fun b o e => I.base.there b o e (noex b)) I.hok fun h' ch kch keep slot x' => ?_)
  have nfr : ∀ b o, s.heap.get? b = some o → b ∉ frs outer → b ∉ frs (envOfC qual scope s.heap.objs.size f cd :: outer) := fun b o e hb hm => by
    rcases mem_cons.mp (I.stkSub b hm) with z | z
    · exact absurd (lt_size e) (by rw [z]; exact Nat.not_lt.mpr I.ok.above)
    · exact hb z
  have nch : ∀ b o, s.heap.get? b = some o → b ∉ ch := fun b o e hb => by rw [(kch b hb).1] at e; cases e
  have inF : ∀ b, b ∈ frs outer → b ∈ frs (envOfC qual scope s.heap.objs.size f cd :: outer) := fun b hb => by
    unfold frs at hb ⊢
    rw [filterMap_cons]
    split
    · exact hb
    · exact mem_cons_of_mem _ hb
  refine ⟨ea, C, xr, H1, rfl, I.os, I.bare, ⟨fun b o e n hb _ => ?_, fun b o e n hb _ => ?_, fun b o e n _ => I.base.free b o e n (noex b), fun b o e _ => ?_, I.base.tups, I.base.frzs, I.base.tbls⟩, fun a o e => ?_, x', he⟩
  · exact keep b o (nch b o e) (nfr b o e hb) (I.base.keep b o e n hb (noex b))
  · obtain ⟨sl, e1⟩ := I.base.slot b o e n hb (noex b)
    obtain ⟨sl', e2⟩ := slot b _ (inF b hb) e1
    exact ⟨sl', e2⟩
  · obtain ⟨o', e1⟩ := I.base.there b o e (noex b)
    by_cases hb : b ∈ frs outer
    · obtain ⟨sl', e2⟩ := slot b _ (inF b hb) e1
      exact ⟨_, e2⟩
    · exact ⟨o', keep b o' (nch b o e) (nfr b o e hb) e1⟩
  · refine (I.hok a o e).stay (fun b u hb eb => ?_) (fun _ q => q) fun _ _ q => q
    have ht : ∃ u, H1 b = some u := by
      rcases hb with rfl | hb
      · exact ⟨_, e⟩
      · exact ⟨_, hb⟩
    obtain ⟨u', ht⟩ := ht
    refine keep b u (fun z => ?_) (fun z => ?_) eb
    · rw [(kch b z).2.1] at ht; cases ht
    · have := I.stkFree b z
      rw [this] at ht; cases ht
variable [R0]
def XOk (X : Cx) (E : Z.PX) : Prop := ∀ pins σ H s ea C xr ρ h (cn : Z.S), Inv X pins σ H s → ExcAt X.s₀.heap s.heap H xr C ea → Rep X.K ρ h H → nsIn X.K mainGlobals ⟨cn.toArray⟩ = some (some (.ref C)) → E (xD cn xr) h → X.xe (.ref ea) s
def spX (K : Frag) (Γ : Z.Gam) (f : Nat) : Sp := fun vs H Q E => ∃ ρ h ds Q', ∃ E' : Z.PX, Rep K ρ h H ∧ RelDs K ρ H ds vs ∧ Γ f ds h Q' E' ∧
  (∀ d h' ρ' H' v, Ext K ρ H ρ' H' → Rep K ρ' h' H' → RelD K ρ' H' d v → Q' d h' → Q v H') ∧
  ∀ (cn : Z.S) C xr h' ρ' H', Rep K ρ' h' H' → nsIn K mainGlobals ⟨cn.toArray⟩ = some (some (.ref C)) → E' (xD cn xr) h' → E (xv xr) (some C) H'
theorem def_okX {P : Program} {w : World} {K : Frag} {mg : Str → Option Value} {base : Heap} {sub : Nat → Nat → Bool} {Pg : List Z.Def} {x : Str} {st : Stmt} {f : Addr} {fd : FuncData} {N ps : List Str} {k i : Nat} {df : Z.Def} (F : Fun K x x st f fd) (S : FnScope N ps (defScope st)) (hi : Pg[i]? = some df) (hN : N.length = df.nl) (hp : ps.length = df.np) (J : ∀ (cdv : Value) (A : Around) (outer : List Env) (s : Shared) (H : Hp) (E : XK) (E' : Z.PX), Room k (A.deeper (envOfC x (defScope st) s.heap.objs.size f cdv)) → XOk (cxOf (CX1 P w) P w K mg base N x (defScope st) f cdv A outer s H E) E' → LSs (cxOf (CX1 P w) P w K mg base N x (defScope st) f cdv A outer s H E) sub (Z.wpCall sub Pg k) E' (defBody st) df.body) :
    FnOk P w K mg base (CX1 P w) (k + 1) f fd ps (spX K (Z.wpCall sub Pg (k + 1)) i) := by
  obtain ⟨oc, od, kV, doc, pm, an, cdv, ct, osl, rfl, lk, hcd⟩ := F.ex
  refine fn_of lk hcd S (fun vs H Q E h => ?_) fun A outer s H vs Q E hr h => ?_
  · obtain ⟨ρ, h, ds, Q', E', R, r, w, kk, kx⟩ := h
    erw [Z.wpCall, hi] at w
    rw [← r.length, hp]; exact w.1
  · obtain ⟨ρ, h, ds, Q', E', R, r, w, kk, kx⟩ := h
    erw [Z.wpCall, hi] at w
    refine body_ok (sub := sub) (Γ := Z.wpCall sub Pg k) (E := E') (df := df) rfl hN w.1 (J cdv A outer s H E E' hr ?_) R r w.2 kk
    intro pins σ H1 s1 ea C xr ρ1 h1 cn I x R1 hc he
    exact x_out I x (kx cn C xr h1 ρ1 H1 R1 hc he)
theorem def_noX {P : Program} {w : World} {K : Frag} {mg : Str → Option Value} {base : Heap} {sub : Nat → Nat → Bool} {Pg : List Z.Def} {f : Addr} {fd : FuncData} {ps : List Str} {i : Nat} : FnOk P w K mg base (CX1 P w) 0 f fd ps (spX K (Z.wpCall sub Pg 0) i) := by
  have no : ∀ vs H Q E, ¬ spX K (Z.wpCall sub Pg 0) i vs H Q E := fun vs H Q E h => by
    obtain ⟨ρ, h, ds, Q', E', R, r, w, kk, kx⟩ := h
    erw [Z.wpCall] at w
  exact ⟨fun vs H Q E h => absurd h (no vs H Q E), fun A outer s H args us vs Q E _ _ _ _ h => absurd h (no vs H Q E)⟩
end ZS
namespace ZS
open PySem PySem.Spec PyProof.Rows L2
section
variable {X : Cx} {pins : List (Addr × Obj)} {σ : L2.St} {H : Hp} {s : Shared}
theorem recs_ok {ch : List Addr} {h' : Heap} {t' : Nat} (I : Inv X pins σ H s) (hch : ∀ b ∈ ch, X.s₀.heap.get? b = none ∧ H b = none ∧ (∃ o, s.heap.get? b = some o ∧ ∃ vs, o.data = .fields vs) ∧ ∀ p ∈ X.pn ++ pins, p.1 ≠ b) (keep : ∀ b o, b ∉ ch → b ∉ frs X.stack → s.heap.get? b = some o → h'.get? b = some o) (slot : ∀ b o, b ∈ frs X.stack → s.heap.get? b = some o → ∃ sl, h'.get? b = some { o with slots := sl }) :
    Inv X pins σ H { s with heap := h', toks := t' } := by
  have notIn : ∀ b u, H b = some u → b ∉ ch ∧ b ∉ frs X.stack := fun b u e => ⟨(fun z => by rw [(hch b z).2.1] at e; cases e), (fun z => by rw [I.stkFree b z] at e; cases e)⟩
  have nst : ∀ b, b ≠ X.env.locals → b ∉ X.fs → b ∉ frs X.stack := fun b h1 h2 z => (mem_cons.mp (I.stkSub b z)).elim h1 h2
  have any : ∀ b o, b ∉ ch → s.heap.get? b = some o → ∃ sl, h'.get? b = some { o with slots := sl } := fun b o hc e => by
    by_cases hb : b ∈ frs X.stack
    · exact slot b o hb e
    · exact ⟨o.slots, keep b o hc hb e⟩
  obtain ⟨m0, ⟨oL, esL, epL, hL, hLd, _⟩, _⟩ := id I.loc
  have nL : X.env.locals ∉ ch := fun z => by
    obtain ⟨_, _, ⟨o, e, vs, d⟩, _⟩ := hch _ z
    rw [hL] at e; cases e
    rw [hLd] at d; cases d
  refine I.stepN (g' := s.gens) (d' := s.drawn) (t' := t') (ch := ch) (fun b hb => ?_) (fun b o h1 h2 h3 e _ => keep b o h3 (nst b h1 h2) e) (fun b o _ _ h3 e _ => any b o h3 e) (fun _ _ _ _ n => n) (fun b o h3 e => let ⟨sl, q⟩ := any b o h3 e; ⟨_, q⟩) (fun _ _ e => e) (fun _ _ _ e => e) (fun b ps e => ⟨#[], by rw [e]; simp⟩) (fun m hm => ?_) (fun b u e => ?_) I.bare
  · obtain ⟨h1, h2, ⟨o, e, vs, d⟩, h3⟩ := hch b hb
    refine ⟨.inr h1, fun z => nL (z ▸ hb), fun x c ec z => ?_, h3⟩
    obtain ⟨v, oc, eo, dc⟩ := I.cell x c ec
    rw [z, e] at eo; cases eo
    rw [d] at dc; cases dc
  · obtain ⟨o, es, ep, ho, r⟩ := hm
    obtain ⟨sl, q⟩ := any _ o nL ho
    exact ⟨_, es, ep, q, r⟩
  · refine (I.hok b u e).stay (fun c v hc q => ?_) (fun _ q => q) fun _ _ q => q
    have ht : ∃ w, H c = some w := by
      rcases hc with rfl | hc
      · exact ⟨_, e⟩
      · exact ⟨_, hc⟩
    obtain ⟨w, ht⟩ := ht
    exact keep c v (notIn c w ht).1 (notIn c w ht).2 q
theorem try_leave {M : Model} {E : Value → Shared → Prop} {Q : Unit → Shared → Prop} {g : Heap} {C ea : Addr} {xr : Option Int} (I : Inv X pins σ H s) (hst : X.stack = X.env :: X.outer) (hf : X.env.frame = some X.env.locals) (x : ExcAt g s.heap H xr C ea) (hg : ∀ b o, g.get? b = some o → ∃ o', s.heap.get? b = some o') (hg0 : ∀ b, g.get? b = none → X.s₀.heap.get? b = none) (hgp : ∀ p ∈ X.pn ++ pins, ∃ o, g.get? p.1 = some o) (h : ∀ h', Inv X pins σ H { s with heap := h' } → (∀ b o, g.get? b = some o → ∃ o', h'.get? b = some o') → ExcAt g h' H xr C ea → Q () { s with heap := h' }) :
    wpAny M X.A (noteFrame (.ref ea) X.env) (fun _ s₂ => wpAny M X.A (setFlight (.ref ea) none) Q E s₂) E s := by
  refine leave_ok (P := X.prog) (w := X.w) (base := X.base) (outer := X.outer) (hst ▸ I.ok.frames) (hst ▸ I.stack) hf x hg I.hok fun h' ch kch keep slot x' => ?_
  refine h h' (recs_ok (t' := s.toks) I (ch := ch) (fun b hb => ?_) (fun b o h1 h2 e => keep b o h1 (hst ▸ h2) e) fun b o h2 e => slot b o (hst ▸ h2) e) (fun b o e => ?_) x'
  · obtain ⟨h1, h2, _, h3, _⟩ := kch b hb
    refine ⟨hg0 b h1, h2, h3, fun p hp z => ?_⟩
    obtain ⟨o, e⟩ := hgp p hp
    rw [z, h1] at e; cases e
  · obtain ⟨o', e1⟩ := hg b o e
    by_cases hc : b ∈ ch
    · exact (kch b hc).2.2.2.2
    · by_cases hb : b ∈ frs (X.env :: X.outer)
      · obtain ⟨sl, q⟩ := slot b o' hb e1; exact ⟨_, q⟩
      · exact ⟨_, keep b o' hc hb e1⟩
theorem land_ok {M : Model} {A : Around} {E : Value → Shared → Prop} {Q : Unit → Shared → Prop} {g : Heap} {C ea : Addr} {xr : Option Int} (I : Inv X pins σ H s) (x : ExcAt g s.heap H xr C ea) (hg : ∀ b o, g.get? b = some o → ∃ o', s.heap.get? b = some o') (hg0 : ∀ b, g.get? b = none → X.s₀.heap.get? b = none) (hgp : ∀ p ∈ X.pn ++ pins, ∃ o, g.get? p.1 = some o) (h : ∀ h', Inv X pins σ H { s with heap := h' } → (∀ b o, g.get? b = some o → ∃ o', h'.get? b = some o') → ExcAt g h' H xr C ea → Q () { s with heap := h' }) :
    wpAny M A (setFlight (.ref ea) none) Q E s := by
  obtain ⟨hn, hfree, oe, vs, he, hc, hdi, hd, ht⟩ := id x
  rcases ht with h1 | ⟨T, oT, ts, h1, nT, fT, hTe, hT, hdT, h3⟩
  · unfold setFlight
    refine wpAny_bind (wpAny_field he hd h1 ?_)
    rw [if_neg (by decide)]
    exact wpAny_pure (h s.heap (I.tok s.toks) hg x)
  · refine wpAny_setFlight_none he hd h1 hT hdT (Array.getElem?_eq_some_iff.mp h3).1 ?_
    have ot : ∀ b, b ≠ T → (s.heap.update T (Obj.mapFields (·.setIfInBounds 3 Value.none))).get? b = s.heap.get? b := fun b hb => get?_update_other _ _ (Ne.symm hb)
    have hT2 := get?_update_self (Obj.mapFields (·.setIfInBounds 3 Value.none)) hT (Obj.isFreed_of_fields (Obj.data_mapFields hdT _))
    have nf : T ∉ frs X.stack := fun z => by
      obtain ⟨_, o, e, d⟩ := I.stack.mem z
      rw [hT] at e; cases e
      exact d _ hdT
    refine h _ (recs_ok (t' := s.toks) I (ch := [T]) (fun b hb => ?_) (fun b o h1 h2 e => (ot b fun z => h1 (by simp [z])).trans e) fun b o h2 e => ⟨o.slots, (ot b fun z => nf (z ▸ h2)).trans e⟩) (fun b o e => ?_) ⟨hn, hfree, oe, vs, (ot ea (Ne.symm hTe)).trans he, hc, hdi, hd, .inr ⟨T, _, _, h1, nT, fT, hTe, hT2, Obj.data_mapFields hdT _, by simp [(Array.getElem?_eq_some_iff.mp h3).1]⟩⟩
    · rw [mem_singleton.mp hb]
      refine ⟨hg0 T nT, fT, ⟨_, hT, _, hdT⟩, fun p hp z => ?_⟩
      obtain ⟨o, e⟩ := hgp p hp
      rw [z, nT] at e; cases e
    · by_cases hb : b = T
      · rw [hb, nT] at e; cases e
      · obtain ⟨o', e1⟩ := hg b o e
        exact ⟨o', (ot b hb).trans e1⟩
theorem track_ok (I : Inv X pins σ H s) (hn : X.s₀.heap.get? ea = none) (hfree : H ea = none) (he : s.heap.get? ea = some oe) (hd : ∃ vs, oe.data = .fields vs) (hp : ∀ p ∈ X.pn ++ pins, p.1 ≠ ea) : Inv X pins σ (upd H ea (.frz oe (.own 0))) s := by
  have neH : ∀ b u, H b = some u → b ≠ ea := fun b u e z => by rw [z, hfree] at e; cases e
  obtain ⟨m0, ⟨oL, esL, epL, hL, hLd, _⟩, _⟩ := id I.loc
  obtain ⟨vs, hd⟩ := hd
  refine I.stepN (h' := s.heap) (g' := s.gens) (d' := s.drawn) (t' := s.toks) (ch := [ea]) (fun b hb => ?_) (fun b o _ _ _ e _ => e) (fun b o _ _ _ e _ => ⟨o.slots, e⟩) (fun b o h3 _ n => ?_) (fun b o _ e => ⟨o, e⟩) (fun b xs e => ?_) (fun b o u e => ?_) (fun b ps e => ⟨#[], ?_⟩) (fun m hm => hm) (fun b u e => ?_) I.bare
  · rw [mem_singleton.mp hb]
    refine ⟨.inr hn, fun z => ?_, fun x c ec z => ?_, hp⟩
    · rw [z, hL] at he; cases he
      rw [hLd] at hd; cases hd
    · obtain ⟨v, oc, eo, dc⟩ := I.cell x c ec
      rw [z, he] at eo; cases eo
      rw [hd] at dc; cases dc
  · rw [upd_ne (fun z => h3 (by simp [z]))]; exact n
  · rw [upd_ne (neH b _ e)]; exact e
  · rw [upd_ne (neH b _ e)]; exact e
  · rw [upd_ne (neH b _ e), e]; simp
  · by_cases hb : b = ea
    · subst hb
      rw [upd_same] at e
      cases e
      exact ⟨he, _, he⟩
    · rw [upd_ne hb] at e
      exact (I.hok b u e).stay (fun _ _ _ q => q) (fun c q => by rw [upd_ne (neH c _ q)]; exact q) fun c xs q => by rw [upd_ne (neH c _ q)]; exact q
end
variable [R0]
abbrev VB : List Value := [.type "ValueError", .type "Exception", .type "BaseException", .type "object"]
theorem exc_obj {K : Frag} {h : Heap} (X : K.In h) (q : excIn K C bmB newId = true) : ∃ bm N nm qn bs hd sn sub ab col dd k0 k1 k2 k3 k5 mN,
    h.get? C = some (excClassObj nm qn C N bs bm hd sn sub ab col dd k0 k1 k2 k3 k5 newId) ∧ h.Ns N mN ∧ mN "__init__" = none ∧ OwnTail h bmB bm := by
  unfold excIn at q
  split at q
  · rename_i dd cd sl ho
    split at q
    · rename_i C' bm k0 k1 k2 k3 n k5 hm hs
      erw [and_eq_true, beq_iff_eq, Bool.not_eq_true'] at q
      obtain ⟨⟨⟨⟨⟨rfl, rfl⟩, hdel⟩, ht⟩, hok⟩, hni⟩ := q
      obtain ⟨nm, bs, mro, ns, qn, hd, sn, sub, ab, col, del⟩ := cd
      dsimp only at hm hdel hok hni
      subst hm hdel
      have hsl : sl = #[k0, k1, k2, k3, some (.builtin n), k5] := by
        obtain ⟨l⟩ := sl
        simp only at hs
        rw [hs]
      subst hsl
      exact ⟨bm, ns, nm, qn, bs, hd, sn, sub, ab, col, dd, k0, k1, k2, k3, k5, _, X _ _ ho, .of_isNs (PySem.W.isNs_of_in X hok), PySem.W.nsMap_none_of_in X hok hni, PySem.W.tail_of_in X ht⟩
    · cases q
  · cases q
section
variable {X : Cx} {sub : Nat → Nat → Bool} {Γ : Z.Gam} {E : Z.PX}
theorem zraise {cn : Z.S} (hx : XOk X E) (hr : Room k X.A) (hex : X.ex = []) (hm : X.mg x = some (.ref C)) (hn : nsIn X.K mainGlobals x = some (some (.ref C))) (hc : excIn X.K C VB "ValueError.__new__" = true) (hcn : x = ⟨cn.toArray⟩ := by rfl) (hg : Gl X x := by rfl) (hdb : ZDbg x := by decide) :
    LS X sub Γ E (.Raise (some (.Call (.Name x np) [] [] cpos)) none pos) (.raisC cn) := by
  intro pins s σ H D I ⟨ρ, h, τ, N, R, L, w, k⟩
  erw [Z.wpS] at w
  obtain ⟨bm, NN, nm, qn, bs, hd, sn, sub', ab, col, dd, k0, k1, k2, k3, k5, mN, hC, hN, hni, T⟩ := exc_obj I.kIn hc
  refine wpAny_Raise_call_subU (Fn := PySem.F.excBase_ValueError) (hBn := by decide) (F := PySem.F.excBase_ValueError) (nm := nm) (q := qn) (N := NN) (bs := bs) (hdct := hd) (sn := sn) (sub := sub') (ab := ab) (col := col) (dd := dd) (k0 := k0) (k1 := k1) (k2 := k2) (k3 := k3) (k5 := k5) (args := []) (T.hasType (by decide)) hr.hd (by rfl) hni (ld_glob I hg hm ⟨rfl, ?_⟩ hdb)
  refine evalArgs_nil3 ⟨rfl, zero_le _, hC, hN, T, fun h' e hq => ?_⟩
  have noex : ∀ b : Addr, b ∉ X.ex := fun b z => by rw [hex] at z; cases z
  obtain ⟨t, ht, _, _⟩ := hq.there
  have I' : Inv X pins σ H { s with heap := h' } := I.kept (t' := s.toks) hq.keeps
  have hfree : H e = none := by
    cases q : H e with
    | none => rfl
    | some u =>
      obtain ⟨o, eo⟩ := ObjOk.is (I.hok e u q)
      rw [hq.new] at eo; cases eo
  have hnew : X.s₀.heap.get? e = none := by
    cases q : X.s₀.heap.get? e with
    | none => rfl
    | some o =>
      obtain ⟨o', eo⟩ := I.base.there e o q (noex e)
      rw [hq.new] at eo; cases eo
  exact hx pins σ H _ e C none ρ h cn I' ⟨hnew, hfree, _, _, ht, rfl, rfl, rfl, .inl rfl⟩ R (hcn ▸ hn) w
theorem zraise0 {st : Stmt} {cn : Z.S} : LS X sub Γ (Z.EF E) st (.raisC cn) := by
  intro pins s σ H D I ⟨ρ, h, τ, N, R, L, w, k⟩
  erw [Z.wpS] at w
  exact w.elim
end
section
open PySem.W
variable {prog : Program} {w : World} {A : Around} {E : Value → Shared → Prop} {s : Shared} {K : Frag} {x D : Addr} {ox : Obj}
structure ExC (K : Frag) (D : Addr) : Prop where
  ga : findIn K (.ref D) "__getattribute__" = some (some (.builtin "BaseException.__getattribute__"))
  gh : findIn K (.ref D) "__getattr__" = some none
  cl : findIn K (.ref D) "__class__" = some (some (.builtin "object.__class__"))
  mo : mroIn K D (.type "object") = some true
  mb : mroIn K D (.type "BaseException") = some true
theorem find_data (hc : (clsIn K D).isSome = true) (ha : findIn K (.ref D) nm = some (some a)) (hg : specialIn K a "__get__" = some (some g)) (ht : takesIn K a = some true) : findObj K D od nm = some (.bind g a) := by
  obtain ⟨cd, hc⟩ := isSome_iff_exists.mp hc
  unfold findObj
  rw [hc, bind_some, ha, bind_some]
  simp [hg, ht]
theorem ExC.some (c : ExC K D) : (clsIn K D).isSome = true := by
  have := c.mo
  unfold mroIn at this
  cases q : clsIn K D with
  | none => rw [q] at this; cases this
  | some _ => rfl
theorem exc_get (X : K.In s.heap) (I : InstAt s.heap x ox D od) (c : ExC K D) (hn : specialIn K (.builtin "object.__class__") "__get__" = some (some (.builtin "getset_descriptor.__get__"))) (htk : takesIn K (.builtin "object.__class__") = some true) (h : Q (.done (.ret (.ref D))) s) : wpAny (model prog w) A (Builtin.«object.__getattribute__» ⟨[.ref x, .str "__class__" tk], []⟩) Q E s := by
  obtain ⟨hh, gg, d, t, os⟩ := s
  have L0 := I.type (M := model prog w)
  have L1 := looks_find (M := model prog w) X I (find_data c.some c.cl hn htk)
  unfold Builtin.«object.__getattribute__»
  refine wpAny_bind (wpAny_pure (wpAny_bind (wpAny_pure (wpAny_bind (L0.at (wpAny_bind (L1.at ?_)))))))
  show wpAny _ _ (holding [Value.builtin "object.__class__"] (call (.builtin "getset_descriptor.__get__") [.builtin "object.__class__", .ref x, .ref D]) >>= ret) _ _ _
  refine wpAny_bind (wpAny_holding (wpAny_call (class_get (ox := ox) (od := od) X I c.mo (wpAny_pure h))))
theorem exc_check {M : Model} {h : Heap} {g : Array GenState} {d : Drawn} {t : Nat} {os : OsState} {nv : Value} {Q : Unit → Shared → Prop} (L3 : Looks M h (isInstance (.ref x) (.type "BaseException")) true) (hq : Q () ⟨h, g, d, t, os⟩) : wpAny M A (checkBuiltinCall "BaseException.__getattribute__" ⟨[.ref x, nv], []⟩) Q E ⟨h, g, d, t, os⟩ := by
  have hk : builtinKind "BaseException.__getattribute__" = some .slot := by decide +kernel
  have hsplit : splitId "BaseException.__getattribute__" = some ("BaseException", "__getattribute__") := by decide +kernel
  have ha := PySem.F.args_bexc_ga (.ref x) nv
  erw [checkBuiltinCall, hk, hsplit]
  refine wpAny_bind (L3.at ?_)
  repeat (any_goals (first | assumption | wp_step))
theorem exc_class (X : K.In s.heap) (I : InstAt s.heap x ox D od) (c : ExC K D) (hn : specialIn K (.builtin "object.__class__") "__get__" = some (some (.builtin "getset_descriptor.__get__"))) (htk : takesIn K (.builtin "object.__class__") = some true) (h : Q (some (.ref D)) { s with toks := s.toks + 1 }) : wpAny (model prog w) A (getAttr? (.ref x) "__class__") Q E s := by
  obtain ⟨hh, g, d, t, os⟩ := s
  have L0 := I.type (M := model prog w)
  have L1 := looks_findIn (M := model prog w) X c.ga
  have L2 := looks_findIn (M := model prog w) X c.gh
  have L3 : Looks (model prog w) hh (isInstance (.ref x) (.type "BaseException")) true := L0.andThen (looks_mroIn X c.mb)
  unfold getAttr? getAttrBy? getAttrBy
  refine wpAny_bind (wpAny_mkText (wpAny_bind (wpAny_attempt (wpAny_holding (wpAny_bind (L0.at (wpAny_bind (L1.at ?_))))))))
  have hx2 : (Value.builtin "BaseException.__getattribute__" == Value.builtin "object.__getattribute__") = false := by decide +kernel
  dsimp only
  rw [if_neg (by rw [hx2, Bool.and_false]; decide)]
  unfold getAttrByItsOwn hookBefore
  rw [if_pos (show onTheHeap (Value.ref D) = true by rfl)]
  refine wpAny_bind (L2.at (wpAny_bind (wpAny_attempt (wpAny_holding ?_))))
  unfold callGetattribute
  rw [if_neg (by decide)]
  unfold boundAndCalled
  refine wpAny_bind (wpAny_of_eq (PySem.F.attr_ValueError.ga.bind (.ref x)) ?_)
  refine wpAny_call (codeAny_call_builtin PySem.F.attr_ValueError.ga.plain PySem.F.entry_bexc_ga (exc_check L3 (exc_get (s := ⟨hh, g, d, t + 1, os⟩) X I c hn htk ?_)))
  exact handed_on rfl (wpAny_pure h)
theorem kitx_exc (c : ExC K D) (hn : specialIn K (.builtin "object.__class__") "__get__" = some (some (.builtin "getset_descriptor.__get__"))) (htk : takesIn K (.builtin "object.__class__") = some true) : KitX K (.ref x) (.ref D) (fun h => InstAt h x ox D od) where
  ty := fun _ _ _ I => I.type
  it := fun _ _ X _ => by
    obtain ⟨cdD, hcD⟩ := isSome_iff_exists.mp c.some
    unfold clsIn at hcD
    split at hcD
    · rename_i c' d' cd' sl' ho
      intro A' Q' E' s' k q
      unfold isType loadHead
      exact wpAny_bind (wpAny_loadPart (k _ _ (X _ _ ho)) (wpAny_pure q))
    · cases hcD
  ne := fun h tp dd its n sl X htp => by
    obtain ⟨cdD, hcD⟩ := isSome_iff_exists.mp c.some
    refine Bool.eq_false_iff.mpr fun q => ?_
    have e : D = tp := Value.ref.inj (beq_iff_eq.mp q)
    subst e
    unfold clsIn at hcD
    split at hcD
    · rename_i c' d' cd' sl' ho
      have z := (X _ _ ho).symm.trans htp
      cases z
    · cases hcD
  ca := fun X I k => exc_class X I c hn htk k
end
structure IseOk (K : Frag) (c : Value) (ys ns : List Z.S) : Prop where
  hn : PySem.W.specialIn K (.builtin "object.__class__") "__get__" = some (some (.builtin "getset_descriptor.__get__"))
  ht : PySem.W.takesIn K (.builtin "object.__class__") = some true
  yes : ∀ d ∈ ys, ∀ C, nsIn K mainGlobals ⟨d.toArray⟩ = some (some (.ref C)) → ExC K C ∧ kitOne K (.ref C) c = some true
  no : ∀ d ∈ ns, ∀ C, nsIn K mainGlobals ⟨d.toArray⟩ = some (some (.ref C)) → ExC K C ∧ kitOne K (.ref C) c = some false
theorem ise_nil {K : Frag} {c : Value} (hn : PySem.W.specialIn K (.builtin "object.__class__") "__get__" = some (some (.builtin "getset_descriptor.__get__"))) (ht : PySem.W.takesIn K (.builtin "object.__class__") = some true) : IseOk K c [] [] := ⟨hn, ht, (fun _ h => by cases h), (fun _ h => by cases h)⟩
theorem ise_y {K : Frag} {c : Value} {C : Addr} {d : Z.S} {ys ns : List Z.S} {x : Str} (hC : nsIn K mainGlobals x = some (some (.ref C))) (ok : ExC K C) (e : kitOne K (.ref C) c = some true) (r : IseOk K c ys ns) (hx : x = ⟨d.toArray⟩ := by rfl) : IseOk K c (d :: ys) ns := by
  subst hx
  refine ⟨r.hn, r.ht, fun c' h C' hn => ?_, r.no⟩
  rcases mem_cons.mp h with rfl | h
  · rw [hC] at hn; cases hn; exact ⟨ok, e⟩
  · exact r.yes c' h C' hn
theorem kit_ty {K : Frag} {C : Addr} {T : String} {b : Bool} (hT : PySem.W.kitMeta T = true) (hm : PySem.W.mroIn K C (.type T) = some b) : kitOne K (.ref C) (.type T) = some b := by
  unfold kitOne kitCls
  rw [if_neg (by simp)]
  erw [hT, if_true]
  exact hm
theorem excAtR {K : Frag} {ρ : List Addr} {h : Z.AH} {H : Hp} {n : Nat} {v : V} {c : Z.S} (R : Rep K ρ h H) (r : RelD K ρ H (.ref n) v) (e : h[n]? = some (.exc c)) :
    ∃ a C oe, v = .ref a ∧ nsIn K mainGlobals ⟨c.toArray⟩ = some (some (.ref C)) ∧ H a = some (.frz oe (.own 0)) ∧ oe.cls = .ref C ∧ oe.dict = none ∧ notCls oe = true := by
  erw [RelD] at r
  obtain ⟨a, rfl, q⟩ := r
  obtain ⟨b, eb, C, oe, h1, h2, h3⟩ := R.at_ n _ e
  rw [q] at eb; cases eb
  exact ⟨a, C, oe, rfl, h1, h2, h3⟩
theorem excRAt {K : Frag} {ρ : List Addr} {h : Z.AH} {H : Hp} {n : Nat} {v : V} {c : Z.S} {i : Int} (R : Rep K ρ h H) (r : RelD K ρ H (.ref n) v) (e : h[n]? = some (.excR c i)) :
    ∃ a C oe dx od, v = .ref a ∧ nsIn K mainGlobals ⟨c.toArray⟩ = some (some (.ref C)) ∧ H a = some (.frz oe (.own 0)) ∧ H dx = some (.frz od (.xd [("row", .int i)])) ∧ oe.cls = .ref C ∧ oe.dict = some dx ∧ notCls oe = true := by
  erw [RelD] at r
  obtain ⟨a, rfl, q⟩ := r
  obtain ⟨b, eb, C, oe, dx, od, h1, h2, h3⟩ := R.at_ n _ e
  rw [q] at eb; cases eb
  exact ⟨a, C, oe, dx, od, rfl, h1, h2, h3⟩
section
variable {X : Cx} {sub : Nat → Nat → Bool} {Γ : Z.Gam} {E : Z.PX}
theorem c_isE (hv : ∀ u, RelV vc u → u = uc) (ok : IseOk X.K uc ys ns) : CallR X (.builtin "isinstance") (fun xs H Q => ∃ x, xs = [x, vc] ∧ rP X.K sub (.isE ys ns) [x] H Q) := by
  intro pins s σ H xs us Q I r ⟨x, e, ρ, h, ds, d, h', R, rr, q, kk⟩
  subst e
  obtain ⟨u, w', rfl, rx, rt⟩ := vals2 r
  have := hv _ rt
  subst this
  obtain ⟨d1, rfl, r1⟩ := rel1' rr
  change Z.pIsE ys ns [d1] h = some (d, h') at q
  cases d1 with
  | ref n =>
    erw [Z.pIsE] at q
    cases eo : h[n]? with
    | none => rw [eo] at q; cases q
    | some o =>
      cases o with
      | exc c =>
        rw [eo] at q
        simp only at q
        obtain ⟨a, C, oe, rfl, hn, ha, hc, hd, hnc⟩ := excAtR R r1 eo
        obtain ⟨ho, _⟩ := (show ObjOk X.prog X.w H s.heap a (.frz oe (.own 0)) from I.hok a _ ha)
        cases (show u = Value.ref a from rx)
        have J : PySem.W.InstAt s.heap a oe C none := ⟨ho, hc, hnc, by rw [hd]; trivial⟩
        by_cases hy : c ∈ ys
        · rw [if_pos hy] at q
          cases q
          obtain ⟨o, e⟩ := ok.yes c hy C hn
          exact kia_one (kitx_exc o ok.hn ok.ht) I.kIn J e (fun z => nomatch z) fun tk => ⟨.bl true, H, I.tok _, rfl, kk ρ H _ .refl R (by erw [RelD])⟩
        · rw [if_neg hy] at q
          by_cases hz : c ∈ ns
          · rw [if_pos hz] at q
            cases q
            obtain ⟨o, e⟩ := ok.no c hz C hn
            exact kia_one (kitx_exc o ok.hn ok.ht) I.kIn J e (fun z => nomatch z) fun tk => ⟨.bl false, H, I.tok _, rfl, kk ρ H _ .refl R (by erw [RelD])⟩
          · rw [if_neg hz] at q; cases q
      | excR c i =>
        rw [eo] at q
        simp only at q
        obtain ⟨a, C, oe, dx, od, rfl, hn, ha, hx, hc, hd, hnc⟩ := excRAt R r1 eo
        obtain ⟨hod, _⟩ := (show ObjOk X.prog X.w H s.heap dx (.frz od (.xd [("row", .int i)])) from I.hok dx _ hx)
        obtain ⟨ho, _⟩ := (show ObjOk X.prog X.w H s.heap a (.frz oe (.own 0)) from I.hok a _ ha)
        cases (show u = Value.ref a from rx)
        have J : PySem.W.InstAt s.heap a oe C (some od) := ⟨ho, hc, hnc, by rw [hd]; exact hod⟩
        by_cases hy : c ∈ ys
        · rw [if_pos hy] at q
          cases q
          obtain ⟨o, e⟩ := ok.yes c hy C hn
          exact kia_one (kitx_exc o ok.hn ok.ht) I.kIn J e (fun z => nomatch z) fun tk => ⟨.bl true, H, I.tok _, rfl, kk ρ H _ .refl R (by erw [RelD])⟩
        · rw [if_neg hy] at q
          by_cases hz : c ∈ ns
          · rw [if_pos hz] at q
            cases q
            obtain ⟨o, e⟩ := ok.no c hz C hn
            exact kia_one (kitx_exc o ok.hn ok.ht) I.kIn J e (fun z => nomatch z) fun tk => ⟨.bl false, H, I.tok _, rfl, kk ρ H _ .refl R (by erw [RelD])⟩
          · rw [if_neg hz] at q; cases q
      | _ => rw [eo] at q; cases q
  | _ => cases q
theorem zisE (hm : X.mg "isinstance" = none) (hmt : X.mg tn = some (.ref D)) (ok : IseOk X.K (.ref D) ys ns) (he : LE X sub Γ E e e') (hg : Gl X "isinstance" := by rfl) (hgt : Gl X tn := by rfl) (hdd : ZDbg tn := by decide) (hs : ∀ es, ZStE X.env e es := by intro _; rfl) :
    LE X sub Γ E (.Call (.Name "isinstance" p) [e, .Name tn p2] [] pos) (.prim (.isE ys ns) (.cons e' .nil)) := by
  have hn : PE X (.Name tn p2) (tC (.ref D)) := pe_glob hgt hmt rfl hdd
  refine PEw (pe_callB (c_isE (sub := sub) (vc := .ref D) (fun u r => r) ok) hg hm (by rfl) (pa_cons he (pa_cons hn pa_nil (by rfl)) (hs _)) (by decide) (by decide) (hs _) (by rfl)) ?_
  rintro σ H Q ⟨ρ, h, τ, Q', R, L, w, k'⟩
  erw [Z.wpE, Z.wpEs] at w
  refine ⟨ρ, h, τ, _, R, L, w, fun d1 h1 ρ1 H1 x e1 R1 r1 w1 => ?_⟩
  cases q : Z.prim sub (.isE ys ns) [d1] h1 with
  | none => rw [q] at w1; exact w1.elim
  | some z =>
    rw [q] at w1
    exact ⟨x, rfl, ρ1, h1, [d1], z.1, z.2, R1, .one r1, q, fun ρ' H' v e' R' r' => k' _ _ ρ' H' v (e1.trans e') R' r' w1⟩
theorem zisEB (hm : X.mg "isinstance" = none) (hmt : X.mg tn = none) (hvt : bootBuiltins tn = some (.type T)) (ok : IseOk X.K (.type T) ys ns) (he : LE X sub Γ E e e') (hg : Gl X "isinstance" := by rfl) (hgt : Gl X tn := by rfl) (hnn : tn ≠ "__name__" := by decide) (hdd : ZDbg tn := by decide) (hs : ∀ es, ZStE X.env e es := by intro _; rfl) :
    LE X sub Γ E (.Call (.Name "isinstance" p) [e, .Name tn p2] [] pos) (.prim (.isE ys ns) (.cons e' .nil)) := by
  have hn : PE X (.Name tn p2) (tC (.ty T)) := pe_bltn hgt hmt hvt rfl hnn hdd
  refine PEw (pe_callB (c_isE (sub := sub) (vc := .ty T) (fun u r => r) ok) hg hm (by rfl) (pa_cons he (pa_cons hn pa_nil (by rfl)) (hs _)) (by decide) (by decide) (hs _) (by rfl)) ?_
  rintro σ H Q ⟨ρ, h, τ, Q', R, L, w, k'⟩
  erw [Z.wpE, Z.wpEs] at w
  refine ⟨ρ, h, τ, _, R, L, w, fun d1 h1 ρ1 H1 x e1 R1 r1 w1 => ?_⟩
  cases q : Z.prim sub (.isE ys ns) [d1] h1 with
  | none => rw [q] at w1; exact w1.elim
  | some z =>
    rw [q] at w1
    exact ⟨x, rfl, ρ1, h1, [d1], z.1, z.2, R1, .one r1, q, fun ρ' H' v e' R' r' => k' _ _ ρ' H' v (e1.trans e') R' r' w1⟩
end
end ZS
namespace ZS
open PySem PySem.Spec PyProof.Rows L2
abbrev hand (X : Cx) (e : Value) (E : Value → Shared → Prop) : Cx := { X with A := X.A.mark (some e), calm := false, xe := E }
theorem hand_ok (ok : X.Ok) : (hand X e E).Ok :=
  ⟨ok.mod, ok.kind, ok.glob, ok.blt, ok.above, ok.inj, ok.has, ok.cab, (fun h => by cases h), ok.frames, ok.stk, ok.exf, ok.bs, ok.bsz, ok.noex, ok.exfs, ok.funs, ok.frf⟩
theorem hand_in (I : Inv X pins σ H s) : Inv (hand X e E) pins σ H s := ⟨hand_ok I.ok, I.os, I.bare, I.base, I.loc, I.cell, I.free, I.freeC, I.pin, I.hok, I.len⟩
theorem hand_out (ok : X.Ok) (I : Inv (hand X e E) pins σ H s) : Inv X pins σ H s := ⟨ok, I.os, I.bare, I.base, I.loc, I.cell, I.free, I.freeC, I.pin, I.hok, I.len⟩
section
variable {X : Cx} {pins : List (Addr × Obj)} {σ : L2.St} {H : Hp} {s : Shared}
theorem gone_ok (I : Inv X pins σ H s) (hN : X.N.Nodup) (hj : X.N[j]? = some n) (hl : X.env.scope.names.lookup n = some .local) (h : ∀ s', Inv X pins (σ.set j none) H s' → Q () s') : wpAny M A (do bindName X.env n .none; unbindBehindTheSuite X.env n pos) Q E s := by
  obtain ⟨m, hn, hloc⟩ := id I.loc
  refine wpAny_nameGoes_keeps (show X.env.kindOf n = some .local from hl) hn (by rw [I.ok.kind]; rfl) fun h' v hn' hs => h _ ?_
  obtain ⟨oL, _, _, hoL, _⟩ := id hn
  have lt : ∀ b o, X.s₀.heap.get? b = some o → b ≠ X.env.locals := fun b o e => ne_of_lt (lt_of_lt_of_le (lt_size e) I.ok.above)
  have hiσ : j < σ.length := by rw [I.len]; exact (List.getElem?_eq_some_iff.mp hj).1
  refine ⟨I.ok, I.os, I.bare, ⟨fun b o e q hb hx => (hs.2 b (lt b o e)).trans (I.base.keep b o e q hb hx), fun b o e q hb hx => ?_, I.base.free, fun b o e hx => ?_, I.base.tups, I.base.frzs, I.base.tbls⟩, ⟨_, hn', fun i y w e1 e2 e3 => ?_⟩, fun y c e => ?_, I.free, I.freeC, fun p hp => ?_, fun b u e => ?_, by simpa using I.len⟩
  · obtain ⟨sl, e1⟩ := I.base.slot b o e q hb hx
    exact ⟨sl, (hs.2 b (lt b o e)).trans e1⟩
  · obtain ⟨o', e1⟩ := I.base.there b o e hx
    exact ⟨o', (hs.2 b (lt b o e)).trans e1⟩
  · by_cases hji : i = j
    · subst hji
      rw [getElem?_set_self hiσ] at e2
      cases e2
    · rw [getElem?_set_ne (Ne.symm hji)] at e2
      obtain ⟨u, r, q⟩ := hloc i y w e1 e2 e3
      refine ⟨u, r, ?_⟩
      rcases q with ⟨k, e⟩ | ⟨k, c, e, z⟩
      · have : y ≠ n := fun e => hji (nodup_ix hN e1 (e ▸ hj))
        exact .inl ⟨k, by simp [this, e]⟩
      · exact .inr ⟨k, c, e, z.sameBut hs (I.cne y c e)⟩
  · obtain ⟨w, z⟩ := I.cell y c e
    exact ⟨w, z.sameBut hs (I.cne y c e)⟩
  · obtain ⟨e, q, ne, nf, d⟩ := I.pin p hp
    exact ⟨(hs.2 p.1 ne).trans e, q, ne, nf, d⟩
  · refine (I.hok b u e).stay (fun c w hc q => (hs.2 c fun z => ?_).trans q) (fun _ q => q) fun _ _ q => q
    have hf := I.free
    rcases hc with rfl | hc
    · rw [z, hf] at e; cases e
    · rw [z, hf] at hc; cases hc
def endsJ (D : Ends) (j : Nat) : Ends where
  nx := fun σ' H' => D.nx (σ'.set j none) H'
  rt := D.rt
  bk := fun σ' H' => D.bk (σ'.set j none) H'
  ct := fun σ' H' => D.ct (σ'.set j none) H'
theorem end_ok (ok : X.Ok) (hN : X.N.Nodup) (hj : X.N[j]? = some n) (hl : X.env.scope.names.lookup n = some .local) (q : SP (hand X e xe) pins (endsJ D j) f s) : wpAny M X.A (do bindName X.env n .none; unbindBehindTheSuite X.env n pos) (fun _ s' => SP X pins D f s') E s := by
  cases f with
  | next => obtain ⟨σ', H', I, q⟩ := q; exact gone_ok (hand_out ok I) hN hj hl fun s' I' => ⟨_, H', I', q⟩
  | brk => obtain ⟨σ', H', I, q⟩ := q; exact gone_ok (hand_out ok I) hN hj hl fun s' I' => ⟨_, H', I', q⟩
  | cont => obtain ⟨σ', H', I, q⟩ := q; exact gone_ok (hand_out ok I) hN hj hl fun s' I' => ⟨_, H', I', q⟩
  | ret u => obtain ⟨v, σ', H', I, r, q⟩ := q; exact gone_ok (hand_out ok I) hN hj hl fun s' I' => ⟨v, _, H', I', r, q⟩
end
theorem RelL.unset {K : Frag} {ρ : List Addr} {H : Hp} {τ : Z.Lo} {σ : L2.St} (L : RelL K ρ H τ σ) (j : Nat) : RelL K ρ H (τ.set j none) (σ.set j none) := by
  refine ⟨by simp [L.1], fun i d e => ?_⟩
  by_cases hi : i = j
  · subst hi
    by_cases hl : i < τ.length
    · rw [getElem?_set_self hl] at e; cases e
    · rw [getElem?_eq_none (by simpa using hl)] at e; cases e
  · rw [getElem?_set_ne (Ne.symm hi)] at e ⊢
    exact L.2 i d e
theorem rep_ext {K : Frag} {ρ1 ρ2 : List Addr} {h2 : Z.AH} {H1 H2 : Hp} (R2 : @Rep ⟨ρ1, H1⟩ K ρ2 h2 H2) : Ext K ρ1 H1 ρ2 H2 := @Rep.ext ⟨ρ1, H1⟩ K ρ2 h2 H2 R2
theorem rep_at {K : Frag} [r0 : R0] {ρ1 : List Addr} {h1 : Z.AH} {H1 : Hp} (R1 : Rep K ρ1 h1 H1) : @Rep ⟨ρ1, H1⟩ K ρ1 h1 H1 := @Rep.mk ⟨ρ1, H1⟩ K ρ1 h1 H1 R1.len R1.nd Ext.refl R1.at_
theorem rep_to {K : Frag} [r0 : R0] {ρ1 ρ2 : List Addr} {h1 h2 : Z.AH} {H1 H2 : Hp} (R1 : Rep K ρ1 h1 H1) (R2 : @Rep ⟨ρ1, H1⟩ K ρ2 h2 H2) : Rep K ρ2 h2 H2 := @Rep.mk r0 K ρ2 h2 H2 (@Rep.len ⟨ρ1, H1⟩ K ρ2 h2 H2 R2) (@Rep.nd ⟨ρ1, H1⟩ K ρ2 h2 H2 R2) (R1.ext.trans (rep_ext R2)) (@Rep.at_ ⟨ρ1, H1⟩ K ρ2 h2 H2 R2)
variable [r0 : R0]
section
variable {X : Cx} {sub : Nat → Nat → Bool} {Γ : Z.Gam} {E : Z.PX}
theorem ztryA (i j : Nat) (hr : Room kk X.A) (F : ∀ r : R0, FnOk X.prog X.w X.K X.mg X.base (CX1 X.prog X.w) kk fa fd ps (@spX r X.K Γ f)) (hm : X.mg fx = some (.ref fa)) (hk : keepIn X.K (.ref fa) = true) (hb : Binds X.K fd ps []) (hN : X.N.Nodup) (hst : X.stack = X.env :: X.outer) (hfr : X.env.frame = some X.env.locals) (hex : X.ex = []) (hcx : X.mg cx = some (.ref Cb)) (hcn : nsIn X.K mainGlobals ⟨cn.toArray⟩ = some (some (.ref C))) (hmt : exmOne X.K (.ref C) (.ref Cb) = some true) (ha : LA X.nox sub Γ E (a :: as) es') (hh : ∀ (e : Value) (xe : Value → Shared → Prop), LSs (hand X e xe) sub Γ E (b₀ :: suite) hs) (hi : X.N[i]? = some y := by rfl) (hj : X.N[j]? = some n := by rfl) (hx : Loc X.env.scope y := by first | exact Or.inl rfl | exact Or.inr rfl) (hf : X.fn y = true ∨ X.env.scope.names.lookup y = some .local := by first | exact .inl rfl | exact .inr rfl) (hl : X.env.scope.names.lookup n = some .local := by rfl) (hsw : swapsWith (.Call (.Name fx fp) (a :: as) [] cpos) (some (.Name y yp)) apos.line X.env = pure false := by rfl) (hg : Gl X fx := by rfl) (hgc : Gl X cx := by rfl) (hdb : ZDbg fx := by decide) (hdc : ZDbg cx := by decide) (he : ZStE X.env a as := by rfl) (hpl : ZBkT X.env as cpos := by rfl) :
    LS X sub Γ E (.Try [.Assign [.Name y yp] (.Call (.Name fx fp) (a :: as) [] cpos) apos] [.ExceptHandler (some (.Name cx cxp)) (some n) (b₀ :: suite) hpos] [] [] pos) (.tryA i f es' cn j hs) := by
  intro pins s σ H D I ⟨ρ, h, τ, N, R, L, w, k⟩
  erw [Z.wpS] at w
  have noex : ∀ b : Addr, b ∉ X.ex := fun b z => by rw [hex] at z; cases z
  refine wpAny_Try_except (wpAny_execs_cons (wpAny_Assign_Name (wpAny_Call_Name_kw (ld_glob I hg hm ?_ hdb)) hsw))
  refine callWith_K (first := []) (h₀ := X.base) I.ok.mod.kin hk (wpAny_mono (ha cpos pins s σ H (fun vs H1 => ∃ ρ1 h1 ds1, Rep X.K ρ1 h1 H1 ∧ Ext X.K ρ H ρ1 H1 ∧ RelDs X.K ρ1 H1 ds1 vs ∧ Γ f ds1 h1 (fun v h2 => N.nx (τ.set i (some v)) h2) fun x h2 => x = .str cn ∧ Z.wpSs sub Γ E hs { nx := fun σ' h' => N.nx (σ'.set j none) h', rt := N.rt, bk := fun σ' h' => N.bk (σ'.set j none) h', ct := fun σ' h' => N.ct (σ'.set j none) h' } (τ.set j (some (.ref h2.length))) (h2 ++ [.exc cn])) (I.wish _)
    ⟨ρ, h, τ, _, R, L, w, fun ds1 h1 ρ1 H1 vs e1 R1 r1 w1 => ⟨ρ1, h1, ds1, R1, e1, r1, w1⟩⟩) (fun us s1 ⟨vs, H1, I1, rv, ρ1, h1, ds1, R1, e1, rd, wΓ⟩ => ⟨I1.kIn, ?_⟩) fun _ _ z => False.elim z) he hpl
  replace I1 := I1.unwish
  have sp : @spX ⟨ρ1, H1⟩ X.K Γ f vs H1 (fun v H2 => ∃ ρ2 h2 d2, Ext X.K ρ H ρ2 H2 ∧ Rep X.K ρ2 h2 H2 ∧ RelD X.K ρ2 H2 d2 v ∧ N.nx (τ.set i (some d2)) h2)
      (fun v c H2 => v = xv none ∧ ∃ ρ2 h2, c = some C ∧ Ext X.K ρ H ρ2 H2 ∧ Rep X.K ρ2 h2 H2 ∧ Z.wpSs sub Γ E hs { nx := fun σ' h' => N.nx (σ'.set j none) h', rt := N.rt, bk := fun σ' h' => N.bk (σ'.set j none) h', ct := fun σ' h' => N.ct (σ'.set j none) h' } (τ.set j (some (.ref h2.length))) (h2 ++ [.exc cn])) := by
    refine ⟨ρ1, h1, ds1, _, _, rep_at R1, rd, wΓ, fun d h' ρ' H' v e' R' r' q => ⟨ρ', h', d, e1.trans e', rep_to R1 R', r', q⟩, fun cn' C' xr h' ρ' H' R' hc' q => ?_⟩
    obtain ⟨q1, q2⟩ := q
    cases xr with
    | some i => cases q1
    | none =>
    cases q1
    rw [hcn] at hc'
    cases hc'
    exact ⟨rfl, ρ', h', rfl, e1.trans (rep_ext R'), rep_to R1 R', q2⟩
  have hln : (us ++ []).length = ps.length := by rw [append_nil, ← rv.length]; exact (F ⟨ρ1, H1⟩).len _ _ _ _ sp
  have hbind := hb s1 us I1.kIn hln
  rw [append_nil] at hbind
  refine wpAny_call (codeAny_mono ((F ⟨ρ1, H1⟩).run X.A X.stack s1 H1 ⟨us, []⟩ us vs _ _ hr I1.env0 hbind rv sp) fun res s2 hq => ?_)
  cases res with
  | ok fl =>
    cases fl with
    | next => exact False.elim hq
    | brk => exact False.elim hq
    | cont => exact False.elim hq
    | ret u =>
      obtain ⟨v, H2, I2, r2, ρ2, h2, d2, e2, R2, rd2, q⟩ := I1.after hq
      exact store_ok I2 hN hi hx r2 (fun s3 I3 => wpAny_execs_nil (wpAny_execs_nil ⟨_, H2, I3, k.nx _ h2 ρ2 H2 _ e2 R2 ((L.mono e2).set rd2) q⟩)) hf
  | error ex =>
    obtain ⟨ea, C', xr, H2, rfl, os, bare, un, hok, x2, hv, ρ2, h2, hC', e2, R2, wh⟩ := hq
    cases hC'
    cases xv_inj hv
    have I2 : Inv X pins σ H2 s2 := I1.call' os un hok bare (fun b z => absurd z (by simp))
    have hg0 : ∀ b, s1.heap.get? b = none → X.s₀.heap.get? b = none := fun b z => by
      cases q : X.s₀.heap.get? b with
      | none => rfl
      | some o =>
        obtain ⟨o', eo⟩ := I1.base.there b o q (noex b)
        rw [z] at eo; cases eo
    have hgp : ∀ p ∈ X.pn ++ pins, ∃ o, s1.heap.get? p.1 = some o := fun p hp => ⟨_, (I1.pin p hp).1⟩
    refine try_leave I2 hst hfr x2 (fun b o e => un.there b o e (by simp)) hg0 hgp fun h3 I3 hg3 x3 => ?_
    refine wpAny_handleBy_cons (codeAny_handlers_test (ld_glob (X := hand X (.ref ea) fun _ _ => False) (hand_in I3) hgc hcx ?_ hdc)) (by intro q; cases q)
    obtain ⟨oe, vs', he3, hc3, _⟩ := x3.at_
    refine (PySem.W.exm_one (M := model X.prog X.w) I3.kIn (hc3 ▸ (PySem.W.Looks.ld he3).andThen .now) hmt).here ?_
    refine codeAny_handlers_suite_as (land_ok I3 x3 hg3 hg0 hgp fun h4 I4 hg4 x4 => ?_)
    obtain ⟨oe, vs4, he4, hc4, hd4, hdt4, _⟩ := x4.at_
    have np : ∀ p ∈ X.pn ++ pins, p.1 ≠ ea := fun p hp z => by
      obtain ⟨o, eo⟩ := hgp p hp
      rw [z, x4.new] at eo; cases eo
    have I5 := track_ok I4 (hg0 ea x4.new) x4.free he4 ⟨vs4, hdt4⟩ np
    refine store_ok I5 hN hj (.inl hl) (v := .ref ea) rfl (fun s6 I6 => ?_) (.inr hl)
    have eA : Ext X.K ρ2 H2 (ρ2 ++ [ea]) (upd H2 ea (.frz oe (.own 0))) := Ext.alloc x4.free
    have R3 : Rep X.K (ρ2 ++ [ea]) (h2 ++ [.exc cn]) (upd H2 ea (.frz oe (.own 0))) := R2.alloc (ob := .exc cn) x4.free ⟨C, oe, hcn, upd_same, hc4, hd4, by unfold notCls; rw [hdt4]⟩
    have rx : RelD X.K (ρ2 ++ [ea]) (upd H2 ea (.frz oe (.own 0))) (.ref h2.length) (.ref ea) := by
      erw [RelD]; exact ⟨ea, rfl, by rw [← R2.len, getElem?_append_right (le_refl _)]; simp⟩
    refine thn (hh (.ref ea) _ pins s6 (σ.set j (some (.ref ea))) (upd H2 ea (.frz oe (.own 0))) (endsJ D j) (hand_in I6) ⟨ρ2 ++ [ea], h2 ++ [.exc cn], τ.set j (some (.ref h2.length)), _, R3, (L.mono (e2.trans eA)).set rx, wh, ?_⟩) fun fl s7 q => end_ok I.ok hN hj hl q
    have eB := e2.trans eA
    exact ⟨fun τ' h' ρ' H' σ' e' R' L' q => k.nx _ h' ρ' H' _ (eB.trans e') R' (L'.unset j) q, fun d h' ρ' H' v e' R' r' q => k.rt d h' ρ' H' v (eB.trans e') R' r' q, fun τ' h' ρ' H' σ' e' R' L' q => k.bk _ h' ρ' H' _ (eB.trans e') R' (L'.unset j) q, fun τ' h' ρ' H' σ' e' R' L' q => k.ct _ h' ρ' H' _ (eB.trans e') R' (L'.unset j) q⟩
end
end ZS
namespace ZS
open PySem PySem.Spec PyProof.Rows L2
theorem exm_ow {K : Frag} {C D : Addr} {b : Bool} (hb : PySem.W.mroIn K D (.type "BaseException") = some true) (hm : PySem.W.mroIn K C (.ref D) = some b) (hs : PySem.W.mroIn K D (.ref D) = some true) (ht : typeIn K (.ref D) = some (.type "type")) : exmOne K (.ref C) (.ref D) = some b := by
  unfold exmOne
  rw [if_pos (by show (PySem.W.mroIn K D (.type "BaseException") == some true) = true; rw [hb]; rfl)]
  have h1 : (PySem.W.clsIn K D).isSome = true := by
    unfold PySem.W.mroIn at hs
    cases q : PySem.W.clsIn K D with
    | none => rw [q] at hs; cases hs
    | some _ => rfl
  unfold kitCls
  erw [h1, ht, beq_self_eq_true, Bool.and_self, if_true]
  exact hm
theorem bt_ValueError : bootBuiltins "ValueError" = some (.type "ValueError") := by decide +kernel
structure IstOk (K : Frag) (Ds : List Addr) (ys ns : List Z.S) : Prop where
  hn : PySem.W.specialIn K (.builtin "object.__class__") "__get__" = some (some (.builtin "getset_descriptor.__get__"))
  ht : PySem.W.takesIn K (.builtin "object.__class__") = some true
  yes : ∀ d ∈ ys, ∀ C, nsIn K mainGlobals ⟨d.toArray⟩ = some (some (.ref C)) → ExC K C ∧ kitAny K (.ref C) (Ds.map .ref) = some true
  no : ∀ d ∈ ns, ∀ C, nsIn K mainGlobals ⟨d.toArray⟩ = some (some (.ref C)) → ExC K C ∧ kitAny K (.ref C) (Ds.map .ref) = some false
theorem any_nil {K : Frag} {t : Value} : kitAny K t (([] : List Addr).map .ref) = some false := rfl
theorem any_no {K : Frag} {t : Value} {D : Addr} {Ds : List Addr} {b : Bool} (h : kitOne K t (.ref D) = some false) (r : kitAny K t (Ds.map .ref) = some b) : kitAny K t ((D :: Ds).map .ref) = some b := by
  erw [map_cons, kitAny, h]; exact r
theorem ist_no {K : Frag} {Ds : List Addr} {d : Z.S} {C : Addr} {x : Str} (hn : PySem.W.specialIn K (.builtin "object.__class__") "__get__" = some (some (.builtin "getset_descriptor.__get__"))) (ht : PySem.W.takesIn K (.builtin "object.__class__") = some true) (hC : nsIn K mainGlobals x = some (some (.ref C))) (ok : ExC K C) (e : kitAny K (.ref C) (Ds.map .ref) = some false) (hx : x = ⟨d.toArray⟩ := by rfl) : IstOk K Ds [] [d] := by
  subst hx
  refine ⟨hn, ht, (fun _ h => by cases h), fun c' h C' hn' => ?_⟩
  rw [mem_singleton.mp h, hC] at hn'
  cases hn'
  exact ⟨ok, e⟩
def GA (X : Cx) (es : List Expr) (Ds : List Addr) : Prop := ∃ t, PA X es t ∧ ∀ σ H (Q : List V → Hp → Prop), Q (Ds.map V.ref) H → t σ H Q
theorem ga_nil : GA X [] [] := ⟨_, pa_nil, fun _ _ _ q => q⟩
theorem ga_cons (hm : X.mg tn = some (.ref D)) (r : GA X es Ds) (hg : Gl X tn := by rfl) (hd : ZDbg tn := by decide) (hs : starEach (.Name tn p :: es) X.env = (false, eval (.Name tn p) X.env) :: starEach es X.env := by rfl) : GA X (.Name tn p :: es) (D :: Ds) := by
  obtain ⟨t, h, k⟩ := r
  exact ⟨_, pa_cons (pe_glob (v := .ref D) hg hm rfl hd) h hs, fun σ H Q q => k σ H _ q⟩
theorem vals_refs : ∀ {Ds : List Addr} {us : List Value}, Vals (Ds.map V.ref) us → us = Ds.map .ref
  | [], _, .nil => rfl
  | D :: Ds, _, .cons r rr => by rw [vals_refs rr]; cases (show _ = Value.ref D from r); rfl
variable [R0]
section
variable {X : Cx} {sub : Nat → Nat → Bool} {Γ : Z.Gam} {E : Z.PX}
theorem c_isET (ok : IstOk X.K Ds ys ns) : CallR X (.builtin "isinstance") (fun xs H Q => ∃ x tp, xs = [x, .ref tp] ∧ H tp = some (.tup (Ds.map V.ref)) ∧ rP X.K sub (.isE ys ns) [x] H Q) := by
  intro pins s σ H xs us Q I r ⟨x, tp, e, htp, ρ, h, ds, d, h', R, rr, q, kk⟩
  subst e
  obtain ⟨u, w', rfl, rx, rt⟩ := vals2 r
  cases (show w' = Value.ref tp from rt)
  obtain ⟨_, its, rv, ⟨⟨cls, dd, dat, sl⟩, eo, ec, m, ed⟩, _⟩ := (show ObjOk X.prog X.w H s.heap tp (.tup (Ds.map V.ref)) from I.hok tp _ htp)
  simp only at ec ed
  subst ec ed
  have := vals_refs rv
  subst this
  obtain ⟨d1, rfl, r1⟩ := rel1' rr
  change Z.pIsE ys ns [d1] h = some (d, h') at q
  cases d1 with
  | ref n =>
    erw [Z.pIsE] at q
    cases eo2 : h[n]? with
    | none => rw [eo2] at q; cases q
    | some o =>
      cases o with
      | exc c =>
        rw [eo2] at q
        simp only at q
        obtain ⟨a, C, oe, rfl, hn, ha, hc, hd, hnc⟩ := excAtR R r1 eo2
        obtain ⟨ho, _⟩ := (show ObjOk X.prog X.w H s.heap a (.frz oe (.own 0)) from I.hok a _ ha)
        cases (show u = Value.ref a from rx)
        have J : PySem.W.InstAt s.heap a oe C none := ⟨ho, hc, hnc, by rw [hd]; trivial⟩
        by_cases hy : c ∈ ys
        · rw [if_pos hy] at q
          cases q
          obtain ⟨o, e⟩ := ok.yes c hy C hn
          exact kia_tup (kitx_exc o ok.hn ok.ht) I.kIn J eo e (fun z => nomatch z) fun tk => ⟨.bl true, H, I.tok _, rfl, kk ρ H _ .refl R (by erw [RelD])⟩
        · rw [if_neg hy] at q
          by_cases hz : c ∈ ns
          · rw [if_pos hz] at q
            cases q
            obtain ⟨o, e⟩ := ok.no c hz C hn
            exact kia_tup (kitx_exc o ok.hn ok.ht) I.kIn J eo e (fun z => nomatch z) fun tk => ⟨.bl false, H, I.tok _, rfl, kk ρ H _ .refl R (by erw [RelD])⟩
          · rw [if_neg hz] at q; cases q
      | excR c i =>
        rw [eo2] at q
        simp only at q
        obtain ⟨a, C, oe, dx, od, rfl, hn, ha, hx, hc, hd, hnc⟩ := excRAt R r1 eo2
        obtain ⟨hod, _⟩ := (show ObjOk X.prog X.w H s.heap dx (.frz od (.xd [("row", .int i)])) from I.hok dx _ hx)
        obtain ⟨ho, _⟩ := (show ObjOk X.prog X.w H s.heap a (.frz oe (.own 0)) from I.hok a _ ha)
        cases (show u = Value.ref a from rx)
        have J : PySem.W.InstAt s.heap a oe C (some od) := ⟨ho, hc, hnc, by rw [hd]; exact hod⟩
        by_cases hy : c ∈ ys
        · rw [if_pos hy] at q
          cases q
          obtain ⟨o, e⟩ := ok.yes c hy C hn
          exact kia_tup (kitx_exc o ok.hn ok.ht) I.kIn J eo e (fun z => nomatch z) fun tk => ⟨.bl true, H, I.tok _, rfl, kk ρ H _ .refl R (by erw [RelD])⟩
        · rw [if_neg hy] at q
          by_cases hz : c ∈ ns
          · rw [if_pos hz] at q
            cases q
            obtain ⟨o, e⟩ := ok.no c hz C hn
            exact kia_tup (kitx_exc o ok.hn ok.ht) I.kIn J eo e (fun z => nomatch z) fun tk => ⟨.bl false, H, I.tok _, rfl, kk ρ H _ .refl R (by erw [RelD])⟩
          · rw [if_neg hz] at q; cases q
      | _ => rw [eo2] at q; cases q
  | _ => cases q
theorem zisET (hm : X.mg "isinstance" = none) (G : GA X es Ds) (ok : IstOk X.K Ds ys ns) (he : LE X sub Γ E e e') (hlen : Ds.length ≤ 100 := by exact Nat.le_of_ble_eq_true rfl) (hg : Gl X "isinstance" := by rfl) (hs : ∀ es, ZStE X.env e es := by intro _; rfl) :
    LE X sub Γ E (.Call (.Name "isinstance" p) [e, .Tuple es tk p2] [] pos) (.prim (.isE ys ns) (.cons e' .nil)) := by
  obtain ⟨t, hp, ht⟩ := G
  refine PEw (pe_callB (c_isET (sub := sub) ok) hg hm (by rfl) (pa_cons he (pa_cons (pe_tup hp) pa_nil (by rfl)) (hs _)) (by decide) (by decide) (hs _) (by rfl)) ?_
  rintro σ H Q ⟨ρ, h, τ, Q', R, L, w, k'⟩
  erw [Z.wpE, Z.wpEs] at w
  refine ⟨ρ, h, τ, _, R, L, w, fun d1 h1 ρ1 H1 x e1 R1 r1 w1 => ht _ _ _ ⟨by rw [length_map, sizeLine_eq]; lia, fun l hl => ?_⟩⟩
  have ef : Ext X.K ρ1 H1 ρ1 (upd H1 l (.tup (Ds.map V.ref))) := Ext.fresh hl
  cases q : Z.prim sub (.isE ys ns) [d1] h1 with
  | none => rw [q] at w1; exact w1.elim
  | some z =>
    rw [q] at w1
    exact ⟨x, l, rfl, upd_same, ρ1, h1, [d1], z.1, z.2, R1.fresh hl, .one (RelD.mono ef _ _ r1), q, fun ρ' H' v e' R' r' => k' _ _ ρ' H' v (e1.trans (ef.trans e')) R' r' w1⟩
theorem c1 {P : List Value → Prop} {us : List Value} {n : Nat} (hl : us.length = n + 1) (h : ∀ a r, r.length = n → P (a :: r)) : P us := by
  cases us with
  | nil => cases hl
  | cons a r => exact h a r (Nat.succ.inj hl)
@[elab_as_elim] theorem by0 {P : List Value → Prop} {us : List Value} (hl : us.length = 0) (h : P []) : P us := List.eq_nil_of_length_eq_zero hl ▸ h
@[elab_as_elim] theorem by1 {P : List Value → Prop} {us : List Value} (hl : us.length = 1) (h : ∀ a, P [a]) : P us := c1 hl fun a _ g => by0 g (h a)
@[elab_as_elim] theorem by2 {P : List Value → Prop} {us : List Value} (hl : us.length = 2) (h : ∀ a b, P [a, b]) : P us := c1 hl fun a _ g => by1 g (h a)
@[elab_as_elim] theorem by3 {P : List Value → Prop} {us : List Value} (hl : us.length = 3) (h : ∀ a b c, P [a, b, c]) : P us := c1 hl fun a _ g => by2 g (h a)
@[elab_as_elim] theorem by4 {P : List Value → Prop} {us : List Value} (hl : us.length = 4) (h : ∀ a b c d, P [a, b, c, d]) : P us := c1 hl fun a _ g => by3 g (h a)
end
end ZS
namespace ZS
open PySem PySem.Spec PyProof.Rows L2
variable [r0 : R0]
section
variable {X : Cx} {sub : Nat → Nat → Bool} {Γ : Z.Gam} {E : Z.PX}
theorem foldl_rep : ∀ {n : Nat} {acc : Array Nat}, (replicate n s.toArray).foldl (· ++ ·) acc = acc ++ ((replicate n s).flatten).toArray
  | 0, acc => by simp
  | n + 1, acc => by
    rw [replicate_succ, foldl_cons, foldl_rep, replicate_succ, flatten_cons]
    simp
end
end ZS
namespace ZS
open PySem PySem.Spec PyProof.Rows L2
structure FF (K : Frag) (mg : Str → Option Value) (x : Str) (st : Stmt) (f : Addr) (e : FuncData) (ps : List Str) : Prop where
  u : Fun K x x st f e
  g : Binds K e ps []
  m : mg x = some (.ref f)
  k : keepIn K (.ref f) = true
def FQ (K : Frag) (x : Str) (st : Stmt) (f : Addr) : Prop := nsIn K mainGlobals x = some (some (.ref f)) ∧ ∃ e, Fun K x x st f e
abbrev fnA (x : Str) (st : Stmt) (kV doc pm : Value) (an : Option Addr) (cdv ct : Value) : FuncData := fnOf x x (defArgs st) (defBody st) (defScope st) .none kV doc pm an cdv ct
section
variable {K : Frag} {h : Heap} {mg : Str → Option Value} {x : Str} {st : Stmt} {f : Addr} {e : FuncData}
theorem fq_mk {oc : Value} {od an : Option Addr} {osl : Array (Option Value)} {kV doc pm cdv ct : Value} (a : nsIn K mainGlobals x = some (some (.ref f))) (l : K.lookup f = some ⟨oc, od, .func (fnOf x x (defArgs st) (defBody st) (defScope st) .none kV doc pm an cdv ct), osl⟩) (c : codeIn K cdv x = true) (k : keepIn K (.ref f) = true) : FQ K x st f := ⟨a, _, fun_mk l c k⟩
theorem ff_of (X : K.In h) (G : h.Ns mainGlobals mg) (q : FQ K x st f) (hb : ∀ (kV doc pm : Value) (an : Option Addr) (cdv ct : Value) (us : List Value), us.length = ps.length → bindArgs (fnA x st kV doc pm an cdv ct) ⟨us, []⟩ = pure (ps.zip us)) : ∃ e, FF K mg x st f e ps :=
  let ⟨a, e, F⟩ := q
  ⟨e, F, F.binds hb, mg_of X G a, F.kp⟩
variable [R0]
theorem ff1 (X : K.In h) (G : h.Ns mainGlobals mg) (q : FQ K x st f) (a : Str) (hb : ∀ {kV doc pm : Value} {an : Option Addr} {cdv ct u : Value}, bindArgs (fnA x st kV doc pm an cdv ct) ⟨[u], []⟩ = pure [(a, u)]) : ∃ e, FF K mg x st f e [a] :=
  ff_of X G q fun _ _ _ _ _ _ _ hl => by1 hl fun _ => hb
theorem ff2 (X : K.In h) (G : h.Ns mainGlobals mg) (q : FQ K x st f) (a b : Str) (hb : ∀ {kV doc pm : Value} {an : Option Addr} {cdv ct u v : Value}, bindArgs (fnA x st kV doc pm an cdv ct) ⟨[u, v], []⟩ = pure [(a, u), (b, v)]) : ∃ e, FF K mg x st f e [a, b] :=
  ff_of X G q fun _ _ _ _ _ _ _ hl => by2 hl fun _ _ => hb
theorem ff3 (X : K.In h) (G : h.Ns mainGlobals mg) (q : FQ K x st f) (a b c : Str) (hb : ∀ {kV doc pm : Value} {an : Option Addr} {cdv ct u v w : Value}, bindArgs (fnA x st kV doc pm an cdv ct) ⟨[u, v, w], []⟩ = pure [(a, u), (b, v), (c, w)]) : ∃ e, FF K mg x st f e [a, b, c] :=
  ff_of X G q fun _ _ _ _ _ _ _ hl => by3 hl fun _ _ _ => hb
theorem ff4 (X : K.In h) (G : h.Ns mainGlobals mg) (q : FQ K x st f) (a b c d : Str) (hb : ∀ {kV doc pm : Value} {an : Option Addr} {cdv ct u v w z : Value}, bindArgs (fnA x st kV doc pm an cdv ct) ⟨[u, v, w, z], []⟩ = pure [(a, u), (b, v), (c, w), (d, z)]) : ∃ e, FF K mg x st f e [a, b, c, d] :=
  ff_of X G q fun _ _ _ _ _ _ _ hl => by4 hl fun _ _ _ _ => hb
theorem ff_to (F : FF K mg x st f e ps) (hb : ∀ {kV doc pm : Value} {an : Option Addr} {cdv ct : Value}, bindArgs (fnA x st kV doc pm an cdv ct) ⟨us, []⟩ = pure l) : BindsTo s e ⟨us, []⟩ l := by
  obtain ⟨oc, od, kV, doc, pm, an, cdv, ct, osl, rfl, lk, hcd⟩ := F.u.ex
  exact .of_eq hb
end
def scB (N P : List Str) (sc : Scope) : Bool := (match sc.kind with | .function => true | _ => false) && !sc.isCoroutine && !sc.isGenerator && decide N.Nodup && decide (N.take P.length = P) && decide (∀ x ∈ P, sc.names.lookup x = some .local ∨ sc.names.lookup x = some .cell) && decide (∀ y ∈ sc.names, y.2 ≠ .free)
theorem sc_of (h : scB N P sc = true := by decide +kernel) : FnScope N P sc := by
  erw [scB, and_eq_true, decide_eq_true_eq, Bool.not_eq_true'] at h
  obtain ⟨⟨⟨⟨⟨⟨h1, h2⟩, h3⟩, h4⟩, h5⟩, h6⟩, h7⟩ := h
  refine ⟨?_, h2, h3, h4, h5, h6, h7⟩
  revert h1
  cases sc.kind <;> simp
section
variable [R0] {X : Cx} {sub : Nat → Nat → Bool} {Γ : Z.Gam} {E : Z.PX}
theorem zcal {k i : Nat} {f : Addr} {st : Stmt} {fd : FuncData} {ps : List Str} {x : Str} {e : Expr} {es : List Expr} {es' : Z.Exs} {p pos : Pos} (hr : Room k X.A) (F : FnOk X.prog X.w X.K X.mg X.base CX0 k f fd ps (spUp X.K Γ i)) (q : FF X.K X.mg x st f fd ps) (ha : LA X sub Γ E (e :: es) es') (hg : Gl X x := by rfl) (hdb : ZDbg x := by decide) (he : ZStE X.env e es := by rfl) (hpl : ZBkT X.env es pos := by rfl) :
    LE X sub Γ E (.Call (.Name x p) (e :: es) [] pos) (.call i es' []) := zcall hr F q.m q.k q.g ha hg hdb he hpl
theorem zt (h : s = ⟨l.toArray⟩ := by decide +kernel) (hl : l.length ≤ Z.lim := by decide +kernel) : LE X sub Γ E (.Constant (.str s) k pos) (.lit (.str l)) := zs h hl
end
end ZS
namespace Z
section
variable {sub : Nat → Nat → Bool} {Γ : Gam} {E : PX} {K : En} {σ : Lo} {h : AH} {Q : PV}
theorem g_var {i : Nat} : wpE sub Γ E (.var i) σ h Q = (match σ[i]? with | some (some v) => Q v h | _ => False) := rfl
theorem g_lit {d : D} : wpE sub Γ E (.lit d) σ h Q = Q d h := rfl
theorem g_prim {p : Prim} {es : Exs} : wpE sub Γ E (.prim p es) σ h Q = wpEs sub Γ E es σ h (fun vs h1 => match prim sub p vs h1 with | some (v, h2) => Q v h2 | none => False) := rfl
theorem g_andV {a b : Ex} : wpE sub Γ E (.andV a b) σ h Q = wpE sub Γ E a σ h (fun x h1 => match x with | .bl true => wpE sub Γ E b σ h1 Q | .bl false => Q (.bl false) h1 | _ => False) := rfl
theorem g_ite {c : Tx} {a b : Ex} : wpE sub Γ E (.ite c a b) σ h Q = wpT sub Γ E c σ h (fun k h1 => if k = true then wpE sub Γ E a σ h1 Q else wpE sub Γ E b σ h1 Q) := rfl
theorem g_call {f : Nat} {es : Exs} {ds : List D} : wpE sub Γ E (.call f es ds) σ h Q = wpEs sub Γ E es σ h (fun vs h1 => Γ f (vs ++ ds) h1 Q (EF E)) := rfl
theorem g_slc {a b c : Ex} : wpE sub Γ E (.slc a b c) σ h Q = wpE sub Γ E a σ h (fun x h1 => wpE sub Γ E b σ h1 fun y h2 => match y with
    | .int i => wpE sub Γ E c σ h2 fun z h3 => match z with
      | .int j => match pSlice x (some i) (some j) h3 with
        | some (v, h4) => Q v h4
        | none => False
      | _ => False
    | _ => False) := rfl
theorem g_mth {k : MK} {p : Prim} {o : Ex} {es : Exs} : wpE sub Γ E (.mth k p o es) σ h Q = wpE sub Γ E o σ h (fun x h1 => tyB h1 k x = true ∧ wpEs sub Γ E es σ h1 fun vs h2 => match prim sub p (x :: vs) h2 with
    | some (v, h3) => Q v h3
    | none => False) := rfl
theorem g_nil {Q : List D → AH → Prop} : wpEs sub Γ E .nil σ h Q = Q [] h := rfl
theorem g_cons {e : Ex} {es : Exs} {Q : List D → AH → Prop} : wpEs sub Γ E (.cons e es) σ h Q = wpE sub Γ E e σ h (fun v h1 => wpEs sub Γ E es σ h1 fun vs h2 => Q (v :: vs) h2) := rfl
theorem g_tru {e : Ex} {Q : Bool → AH → Prop} : wpT sub Γ E (.tru e) σ h Q = wpE sub Γ E e σ h (fun v h1 => match truthy h1 v with | some c => Q c h1 | none => False) := rfl
theorem g_and {a b : Tx} {Q : Bool → AH → Prop} : wpT sub Γ E (.and a b) σ h Q = wpT sub Γ E a σ h (fun c h1 => if c = true then wpT sub Γ E b σ h1 Q else Q false h1) := rfl
theorem g_or {a b : Tx} {Q : Bool → AH → Prop} : wpT sub Γ E (.or a b) σ h Q = wpT sub Γ E a σ h (fun c h1 => if c = true then Q true h1 else wpT sub Γ E b σ h1 Q) := rfl
theorem g_not {a : Tx} {Q : Bool → AH → Prop} : wpT sub Γ E (.not a) σ h Q = wpT sub Γ E a σ h (fun c h1 => Q (!c) h1) := rfl
theorem g_none {Q : Bool → AH → Prop} : wpC sub Γ E .none σ h Q = Q true h := rfl
theorem g_one {t : Tx} {Q : Bool → AH → Prop} : wpC sub Γ E (.one t) σ h Q = wpT sub Γ E t σ h Q := rfl
theorem g_expr {e : Ex} : wpS sub Γ E (.expr e) K σ h = wpE sub Γ E e σ h (fun _ h1 => K.nx σ h1) := rfl
theorem g_asg {i : Nat} {e : Ex} : wpS sub Γ E (.asg i e) K σ h = wpE sub Γ E e σ h (fun v h1 => K.nx (σ.set i (some v)) h1) := rfl
theorem g_unp {is : List Nat} {e : Ex} : wpS sub Γ E (.unp is e) K σ h = wpE sub Γ E e σ h (fun v h1 => match bindT is v σ with | some σ' => K.nx σ' h1 | none => False) := rfl
theorem g_setx {o i v : Ex} : wpS sub Γ E (.setx o i v) K σ h = wpE sub Γ E v σ h (fun x h1 => wpE sub Γ E o σ h1 fun y h2 => wpE sub Γ E i σ h2 fun z h3 => match prim sub .setx [y, z, x] h3 with
    | some (_, h4) => K.nx σ h4
    | none => False) := rfl
theorem g_ret {e : Ex} : wpS sub Γ E (.ret e) K σ h = wpE sub Γ E e σ h K.rt := rfl
theorem g_ife {c : Tx} {a b : Sms} : wpS sub Γ E (.ife c a b) K σ h = wpT sub Γ E c σ h (fun k h1 => if k = true then wpSs sub Γ E a K σ h1 else wpSs sub Γ E b K σ h1) := rfl
theorem g_snil : wpSs sub Γ E .nil K σ h = K.nx σ h := rfl
theorem g_scons : wpSs sub Γ E (.cons s ss) K σ h = wpS sub Γ E s { K with nx := fun σ' h' => wpSs sub Γ E ss K σ' h' } σ h := rfl
section
variable {i j : Int} {s t : S} {x y v : D} {xs ys : List D} {a b n : Nat} {p q : Bool}
theorem q_idxT : prim sub .idx [.tup xs, .int i] h = (atI xs i).map fun v => (v, h) := rfl
theorem q_idxR : prim sub .idx [.rol xs, .int i] h = (atI xs i).map fun v => (v, h) := rfl
theorem q_idxS : prim sub .idx [.str s, .int i] h = (atI s i).map fun c => (.str [c], h) := rfl
theorem q_idxL (ha : h[a]? = some (.lst xs)) : prim sub .idx [.ref a, .int i] h = (atI xs i).map fun v => (v, h) := by
  show (match h[a]? with | some (.dct kvs) => _ | some (.lst xs) => (atI xs i).map fun v => (v, h) | _ => none) = _
  rw [ha]
theorem q_addS : prim sub .add [.str s, .str t] h = if s.length + t.length ≤ 16777216 then some (.str (s ++ t), h) else none := rfl
theorem q_eq : prim sub .eq [x, y] h = (eqH h x y).map fun b => (.bl (b != false), h) := rfl
theorem q_ne : prim sub .ne [x, y] h = (eqH h x y).map fun b => (.bl (b != true), h) := rfl
theorem q_lenL (ha : h[a]? = some (.lst xs)) : prim sub .len [.ref a] h = some (.int xs.length, h) := p_lenL ha
theorem q_lenR : prim sub .len [.rol xs] h = some (.int xs.length, h) := rfl
theorem q_lenT : prim sub .len [.tup xs] h = some (.int xs.length, h) := rfl
theorem q_lenS : prim sub .len [.str s] h = some (.int s.length, h) := rfl
theorem q_in_T : prim sub .in_ [x, .tup ys] h = (inDs x ys).map fun b => (.bl (b != false), h) := by cases x <;> rfl
theorem q_notin_L (ha : h[a]? = some (.lst ys)) : prim sub .notin [x, .ref a] h = (inDs x ys).map fun b => (.bl (b != true), h) := by
  show pIn true [x, .ref a] h = _
  unfold pIn
  erw [ha]
theorem q_mkt : prim sub .mktup xs h = if xs.length ≤ 16777216 then some (.tup xs, h) else none := rfl
theorem q_mkl : prim sub .mklst xs h = if xs.length ≤ 16777216 then some (.ref h.length, h ++ [.lst xs]) else none := rfl
theorem q_isN0 : prim sub .isN [.non] h = some (.bl true, h) := rfl
theorem q_notN0 : prim sub .notN [.non] h = some (.bl false, h) := rfl
theorem q_isN1 : prim sub .isN [.int i] h = some (.bl false, h) := rfl
theorem q_notN1 : prim sub .notN [.int i] h = some (.bl true, h) := rfl
theorem q_shr : prim sub .shr [.int i, .int j] h = if 0 ≤ j then some (.int (i / 2 ^ j.toNat), h) else none := rfl
theorem q_band : prim sub .band [.int i, .int j] h = some (.int (bAnd i j), h) := rfl
theorem q_bor : prim sub .bor [.int i, .int j] h = some (.int (bOr i j), h) := rfl
theorem q_inv : prim sub .inv [.int i] h = some (.int (bNot i), h) := rfl
theorem q_bitlen : prim sub .bitlen [.int i] h = some (.int (bLen i), h) := rfl
theorem t_bl : truthy h (.bl p) = some p := rfl
theorem t_int : truthy h (.int i) = some (i != 0) := rfl
theorem t_lst (ha : h[a]? = some (.lst xs)) : truthy h (.ref a) = some (!xs.isEmpty) := by erw [truthy, ha]
theorem y_lst (ha : h[a]? = some (.lst xs)) : tyB h .list (.ref a) = true := by erw [tyB, ha]
theorem y_str : tyB h .str (.str s) = true := rfl
theorem y_int : tyB h .int (.int i) = true := rfl
theorem y_tup : tyB h .tuple (.tup xs) = true := rfl
end
theorem b_two {i j : Nat} {x y : D} : bindT [i, j] (.tup [x, y]) σ = some ((σ.set i (some x)).set j (some y)) := rfl
theorem wp_call (hf : P[f]? = some df) (hv : vs.length = df.np) (w : wpSs sub (wpCall sub P d) E df.body { nx := fun _ h => Q .non h, rt := Q } (vs.map some ++ replicate (df.nl - df.np) none) h) : wpCall sub P (d + 1) f vs h Q E := by
  erw [wpCall, hf]
  exact ⟨hv, w⟩
end
theorem atI_lit {α : Type} {xs : List α} {n : Nat} : atI xs (n : Int) = xs[n]? := by
  unfold atI ixN
  by_cases hn : n < xs.length
  · rw [if_pos (natCast_nonneg n), if_pos (by lia)]; simp
  · rw [if_pos (natCast_nonneg n), if_neg (by lia), getElem?_eq_none (by lia)]; rfl
theorem atI_of {α : Type} {xs : List α} {i : Int} (h0 : 0 ≤ i) : atI xs i = xs[i.toNat]? := by
  obtain ⟨n, rfl⟩ := eq_ofNat_of_zero_le h0
  rw [toNat_natCast]; exact atI_lit
def rl (n : Nat) (f : Nat → Int) : List D := (List.range n).map fun k => .int (f k)
theorem it_lst (e : h1[a]? = some (.lst xs)) : iterOf .val [.ref a] h1 = some (itList a) := by erw [iterOf, ioV, ioR, ioE, ioZ, ioB, e]
theorem it_lst_at (e : h1[a]? = some (.lst xs)) (p : h1 <+: h') (i : Nat) : itList a i h' = some xs[i]? := by
  obtain ⟨l, rfl⟩ := p
  have e' : (h1 ++ l)[a]? = some (.lst xs) := by rw [getElem?_append_left (List.getElem?_eq_some_iff.mp e).1]; exact e
  erw [itList, e']
theorem get_app {h l : AH} {n : Nat} {o : AO} (e : h[n]? = some o) : (h ++ l)[n]? = some o := by
  rw [getElem?_append_left (List.getElem?_eq_some_iff.mp e).1]; exact e
theorem get_new : (h ++ [o])[h.length]? = some o := by simp
theorem cut_len {α : Type} {xs : List α} {lo hi : Option Int} : (cut xs lo hi).length ≤ xs.length := by
  unfold cut; simp; lia
theorem pre_get {h h' : AH} {n : Nat} {o : AO} (p : h <+: h') (e : h[n]? = some o) : h'[n]? = some o := by
  obtain ⟨l, rfl⟩ := p; exact get_app e
theorem pre_app (p : h <+: h') : h <+: h' ++ l := p.trans (prefix_append _ _)
theorem pre_set (p : h <+: h') (hr : h.length ≤ r) : h <+: h'.set r o := by
  obtain ⟨l, rfl⟩ := p
  rw [set_append_right _ _ hr]
  exact prefix_append _ _
theorem pre_len (p : h <+: h') : h.length ≤ h'.length := p.length_le
theorem pre_rfl : h <+: h := List.prefix_refl h
theorem pre_of (p : h ++ l <+: h') : h <+: h' := (prefix_append h l).trans p
theorem eqH_lst (ea : h[a]? = some (.lst xs)) (eb : h[b]? = some (.lst ys)) : eqH h (.ref a) (.ref b) = eqLs xs ys := by erw [eqH, ea, eb]
theorem eqH_int {h : AH} {i j : Int} : eqH h (.int i) (.int j) = some (i == j) := rfl
theorem eqH_str {h : AH} {i j : S} : eqH h (.str i) (.str j) = some (i == j) := rfl
inductive Sn where
  | is (n : S) | nt (a : Sn) | an (a b : Sn) | or (a b : Sn)
def nm : Sn → List S
  | .is n => [n]
  | .nt a => nm a
  | .an a b => nm a ++ nm b
  | .or a b => nm a ++ nm b
def sz : Sn → Nat
  | .is _ => 1
  | .nt a => sz a + 1
  | .an a b => sz a + sz b + 1
  | .or a b => sz a + sz b + 1
def kd (ks : List S) : List (KK × D) := ks.map fun k => (.inr k, .bl true)
section
variable {sub : Nat → Nat → Bool} {h : AH} {a : Nat} {xs : List D} {v : D}
theorem q_tupleL (ha : h[a]? = some (.lst xs)) : prim sub .tuple_ [.ref a] h = some (.tup xs, h) := by
  show ((seqOf h (.ref a)).map fun xs => (D.tup xs, h)) = _
  erw [seqOf, ha, map_some]
theorem sl_rol {lo hi : Option Int} (hl : xs.length ≤ 16777216) : pSlice (.rol xs) lo hi h = some (.ref h.length, h ++ [.lst (cut xs lo hi)]) := if_pos (le_trans cut_len hl)
theorem cut_mem {α : Type} {xs : List α} {v : α} (hv : v ∈ cut xs lo hi) : v ∈ xs := by
  unfold cut at hv
  exact List.mem_of_mem_drop (List.mem_of_mem_take hv)
end
theorem has_eq (w k : Nat) : (bAnd ((w : Int) / 2 ^ ((k : Int)).toNat) 1 == 1) = w.testBit k := by
  have e1 : ((w : Int) / 2 ^ ((k : Int)).toNat) = ((w / 2 ^ k : Nat) : Int) := by
    rw [toNat_natCast, Int.natCast_ediv]; norm_cast
  have e2 : bAnd ((w / 2 ^ k : Nat) : Int) 1 = ((w / 2 ^ k % 2 : Nat) : Int) := by
    show (((w / 2 ^ k) &&& 1 : Nat) : Int) = _
    rw [Nat.and_one_is_mod]
  rw [e1, e2, Nat.testBit_eq_decide_div_mod_eq, Bool.eq_iff_iff, beq_iff_eq, decide_eq_true_iff]
  lia
def dp : Sn → Nat
  | .is _ => 1
  | .nt a => dp a + 1
  | .an a b => max (dp a) (dp b) + 1
  | .or a b => max (dp a) (dp b) + 1
section
variable {sub : Nat → Nat → Bool} {h : AH}
theorem q_shl1 {k : Nat} (hk : k ≤ 1000) : prim sub .shl [.int 1, .int (k : Int)] h = some (.int ((2 ^ k : Nat) : Int), h) := by
  show (if 0 ≤ (k : Int) ∧ (k : Int) ≤ 1000000 ∧ (1 : Int).natAbs < 18446744073709551616 then some (D.int (1 * 2 ^ (k : Int).toNat), h) else none) = _
  rw [if_pos ⟨by lia, by lia, by decide⟩, toNat_natCast, Int.one_mul]
  norm_cast
end
end Z
set_option hygiene false in
local macro_rules
  | `(tactic| simp!) => `(tactic| simp! [])
  | `(tactic| simp! [$ls,*]) => `(tactic| simp only [List.getElem?_cons_zero, List.getElem?_cons_succ, List.set_cons_zero, List.set_cons_succ, List.nil_append, append_nil, List.cons_append, map_cons, map_nil, Nat.sub_zero, map_some, Option.map_none, length_cons, length_nil, if_true, if_false, Bool.not_true, Bool.not_false, bne_false, bne_true, and_self, true_and, and_true, replicate_succ, List.replicate_zero, Z.g_var, Z.g_lit, Z.g_prim, Z.g_andV, Z.g_ite, Z.g_call, Z.g_slc, Z.g_mth, Z.g_nil, Z.g_cons, Z.g_tru, Z.g_and, Z.g_or, Z.g_not, Z.g_none, Z.g_one, Z.g_expr, Z.g_asg, Z.g_unp, Z.g_setx, Z.g_ret, Z.g_ife, Z.g_snil, Z.p_addI, Z.q_addS, Z.p_subI, Z.p_lt, Z.p_gt, Z.q_idxT, Z.q_idxR, Z.q_idxS, Z.q_eq, Z.q_ne, Z.q_lenR, Z.q_lenT, Z.q_lenS, Z.q_in_T, Z.q_mkt, Z.q_mkl, Z.q_isN0, Z.q_notN0, Z.q_isN1, Z.q_notN1, Z.q_shr, Z.q_band, Z.q_bor, Z.q_inv, Z.q_bitlen, Z.t_bl, Z.t_int, Z.y_str, Z.y_int, Z.y_tup, Z.b_two, Z.eqH_int, Z.eqH_str, Z.p_mod, Z.p_fdiv, Z.p_mulI, Z.p_mulI', Z.g_scons, reduceIte, Bool.false_eq_true, Int.reduceLT, Int.reduceLE, Nat.reduceLeDiff, Nat.reduceSub, $ls,*])
namespace Z
section
variable {sub : Nat → Nat → Bool} {P : List Def} {E : PX} {d : Nat}
theorem it_rng {n : Nat} {h : AH} (hn : n ≤ 1000000) : iterOf .rng [.int n] h = some (itRng 0 n) := by
  have : okR (n : Int) = true := okR_iff.mpr (by lia)
  erw [iterOf, ioV, ioR, ioE, ioZ, ioB, this, toNat_natCast]; rfl
theorem w_crng {src : Exs} {cond : Txs} {elt : Ex} {σ : Lo} {h h1 : AH} {Q : PV} {n : Nat} (p : Nat → Bool) (g : Nat → D) (he : ∀ Q : List D → AH → Prop, Q [.int n] h1 → wpEs sub (wpCall sub P d) E src σ h Q) (hn : n ≤ 1000) (hs : ∀ k h2, k < n → h1 <+: h2 → wpC sub (wpCall sub P d) E cond (σ ++ [some (.int k)]) h2 fun c h3 => c = p k ∧ h2 <+: h3 ∧ (c = true → wpE sub (wpCall sub P d) E elt (σ ++ [some (.int k)]) h3 fun x h4 => x = g k ∧ h3 <+: h4)) (q : ∀ h', h1 <+: h' → h'[h1.length]? = some (.lst (((List.range n).filter p).map g)) → Q (.ref h1.length) h') : wpE sub (wpCall sub P d) E (.comp .rng src 1 cond elt) σ h Q := by
  refine wp_comp (xs := (List.range n).map fun (k : Nat) => .int k) (J := itRng 0 n) (fun v => match v with | .int k => p k.toNat | _ => false) (fun v => match v with | .int k => g k.toNat | _ => .non) he (it_rng (by lia)) (by simp; lia) ?_ ?_ ?_
  · intro i h2 _
    unfold itRng
    by_cases hi : i < n
    · rw [if_pos hi, getElem?_map, getElem?_range hi]; simp
    · rw [if_neg hi, getElem?_eq_none (by simp; lia)]
  · intro i v h2 ev pr
    have hk : i < n := by have := (List.getElem?_eq_some_iff.mp ev).1; simpa using this
    rw [getElem?_map, getElem?_range hk] at ev
    erw [map_some, Option.some.injEq] at ev
    subst ev
    exact ⟨_, rfl, by simpa only [toNat_natCast] using hs i h2 hk pr⟩
  · intro h' pr e
    refine q h' pr ?_
    rw [e]
    congr 2
    rw [filter_map, map_map]
    rfl
theorem w_clst {src : Exs} {cond : Txs} {elt : Ex} {σ : Lo} {h h1 : AH} {Q : PV} {W : List Nat} {a : Nat} (p : Nat → Bool) (g : Nat → D) (he : ∀ Q : List D → AH → Prop, Q [.ref a] h1 → wpEs sub (wpCall sub P d) E src σ h Q) (ea : h1[a]? = some (.lst (W.map fun (k : Nat) => .int k))) (hn : W.length ≤ 1000) (hs : ∀ k h2, k ∈ W → h1 <+: h2 → wpC sub (wpCall sub P d) E cond (σ ++ [some (.int k)]) h2 fun c h3 => c = p k ∧ h2 <+: h3 ∧ (c = true → wpE sub (wpCall sub P d) E elt (σ ++ [some (.int k)]) h3 fun x h4 => x = g k ∧ h3 <+: h4)) (q : ∀ h', h1 <+: h' → h'[h1.length]? = some (.lst ((W.filter p).map g)) → Q (.ref h1.length) h') : wpE sub (wpCall sub P d) E (.comp .val src 1 cond elt) σ h Q := by
  refine wp_comp (xs := W.map fun (k : Nat) => .int k) (J := itList a) (fun v => match v with | .int k => p k.toNat | _ => false) (fun v => match v with | .int k => g k.toNat | _ => .non) he (it_lst ea) (by simp; lia) (fun i h' pp => it_lst_at ea pp i) ?_ ?_
  · intro i v h2 ev pr
    obtain ⟨w, hw, rfl⟩ := mem_map.mp (mem_of_getElem? ev)
    exact ⟨_, rfl, by simpa only [toNat_natCast] using hs w h2 hw pr⟩
  · intro h' pr e
    refine q h' pr ?_
    rw [e]
    congr 2
    rw [filter_map, map_map]
    rfl
end
end Z
namespace K40
open Z
section
variable {sub : Nat → Nat → Bool} {Γ : Gam} {E : PX} {K : En} {σ : Lo} {h : AH}
/-! 0 places(0 mask) -/
section
set_option hygiene false in
local macro_rules
  | `(#[$a,*]) => do
    let mut r ← `(Exs.nil)
    for x in a.getElems.reverse do r ← `(Exs.cons $x $r)
    return r
  | `($a :: $b) => `(Sms.cons $a $b)
  | `($c:char) => `(Ex.var $(Lean.quote (c.getChar.toNat - 97)))
  | `(-$n) => `(Ex.lit (.int $n))
  | `(s!$x) => `(Ex.lit (.str (tx $(Lean.quote (x.raw[0].isInterpolatedStrLit?.getD "")))))
  | `(!$a) => `(Tx.tru $a)
  | `($a[$b]) => `(Ex.prim .idx (.cons $a (.cons $b .nil)))
  | `(↑$a) => `(Ex.prim .len (.cons $a .nil))
  | `($a + $b) => `(Ex.prim .add (.cons $a (.cons $b .nil)))
  | `($a - $b) => `(Ex.prim .sub (.cons $a (.cons $b .nil)))
  | `($a * $b) => `(Ex.prim .mul (.cons $a (.cons $b .nil)))
  | `($a % $b) => `(Ex.prim .mod (.cons $a (.cons $b .nil)))
  | `($a / $b) => `(Ex.prim .fdiv (.cons $a (.cons $b .nil)))
  | `($a == $b) => `(Ex.prim .eq (.cons $a (.cons $b .nil)))
  | `($a != $b) => `(Ex.prim .ne (.cons $a (.cons $b .nil)))
  | `($a < $b) => `(Ex.prim .lt (.cons $a (.cons $b .nil)))
  | `($a ≤ $b) => `(Ex.prim .le (.cons $a (.cons $b .nil)))
  | `($a > $b) => `(Ex.prim .gt (.cons $a (.cons $b .nil)))
  | `($a ≥ $b) => `(Ex.prim .ge (.cons $a (.cons $b .nil)))
  | `($a ∈ $b) => `(Ex.prim .in_ (.cons $a (.cons $b .nil)))
  | `($a ∉ $b) => `(Ex.prim .notin (.cons $a (.cons $b .nil)))
  | `($a ^ $b) => `(Ex.prim .pow (.cons $a (.cons $b .nil)))
def b_places_1 : Sms := .ret (.comp .rng #[.mth .int .bitlen 'a' .nil] 1 (.one (!(.call 1 #['a', 'b'] []))) 'b')::.nil
abbrev b_places : Sms := b_places_1
/-! 1 has(0 mask, 1 number) -/
def b_has_1 : Sms := .ret ((.prim .band #[.prim .shr #['a', 'b'], -1]) == (-1))::.nil
abbrev b_has : Sms := b_has_1
/-! 2 let_by(0 frame, 1 among, 2 rule, 3 rules, 4 left, 5 number) -/
def b_let_by_1 : Sms := .ret (.ite (!'e') (.call 0 #['e'] [])[-0] (.lit .non))::.nil
def b_let_by_2 : Sms := .asg 4 (.prim .band #['e', .prim .inv #['d'['f'][-1]]])::.nil
def b_let_by_3 : Sms := .forr [5] .val #['b'] b_let_by_2::b_let_by_1
def b_let_by_4 : Sms := .asg 4 'd'['c'][-0]::b_let_by_3
def b_let_by_5 : Sms := .asg 3 'a'[-2]::b_let_by_4
abbrev b_let_by : Sms := b_let_by_5
/-! 3 levels(0 frame, 1 told, 2 left, 3 level, 4 gone, 5 rule) -/
def b_levels_1 : Sms := .ret (.prim .tuple_ #['b'])::.nil
def b_levels_2 : Sms := .asg 4 (.call 4 #['a', 'c'] [])::.nil
def b_levels_3 : Sms := .asg 3 ('d' + (-1))::b_levels_2
def b_levels_4 : Sms := .asg 2 (.comp .val #['c'] 1 (.one (!('g' ∉ 'e'))) 'g')::b_levels_3
def b_levels_5 : Sms := .setx 'b' 'f' 'd'::.nil
def b_levels_6 : Sms := .forr [5] .val #['e'] b_levels_5::b_levels_4
def b_levels_7 : Sms := .whil (!'e') b_levels_6::b_levels_1
def b_levels_8 : Sms := .asg 4 (.call 4 #['a', 'c'] [])::b_levels_7
def b_levels_9 : Sms := .asg 3 (-0)::b_levels_8
def b_levels_10 : Sms := .asg 2 (.prim .lrng #[↑'b'])::b_levels_9
def b_levels_11 : Sms := .asg 1 ((.prim .mklst #[.lit .non]) * ↑'a'[-2])::b_levels_10
abbrev b_levels : Sms := b_levels_11
/-! 4 going_out(0 frame, 1 left) -/
def b_going_out_1 : Sms := .ret (.comp .val #['b'] 1 (.one (!(.prim .notN #[.call 2 #['a', 'b', 'c'] []]))) 'c')::.nil
abbrev b_going_out : Sms := b_going_out_1
/-! 5 is_torn(0 frame, 1 among, 2 rules) -/
def b_is_torn_1 : Sms := .ret ((.lit .non) ∈ (.call 3 #[.prim .mktup #['a'[-0], 'a'[-1], .prim .tuple_ #['c']]] []))::.nil
def b_is_torn_2 : Sms := .asg 2 (.comp .val #['b'] 1 .none 'a'[-2]['d'])::b_is_torn_1
abbrev b_is_torn : Sms := b_is_torn_2
/-! 6 needed(0 frame, 1 rules, 2 besides, 3 kept, 4 rule, 5 others) -/
def b_needed_1 : Sms := .ret 'd'::.nil
def b_needed_2 : Sms := .asg 3 'f'::.nil
def b_needed_3 : Sms := .ife (!(.call 5 #['a', 'f' + 'c'] [])) b_needed_2 .nil::.nil
def b_needed_4 : Sms := .asg 5 (.comp .val #['d'] 1 (.one (!('g' != 'e'))) 'g')::b_needed_3
def b_needed_5 : Sms := .forr [4] .val #['b'] b_needed_4::b_needed_1
def b_needed_6 : Sms := .asg 3 'b'::b_needed_5
abbrev b_needed : Sms := b_needed_6
/-! 7 ranking(0 frame, 1 told) -/
def b_ranking_1 : Sms := .ret (.prim .tuple_ #[.comp .rng #['a'[-0]] 1 .none (.call 8 #['a', 'b', 'c'] [])])::.nil
def b_ranking_2 : Sms := .ret (.lit .non)::.nil
def b_ranking_3 : Sms := .ife (!((.lit .non) ∈ 'b')) b_ranking_2 .nil::b_ranking_1
def b_ranking_4 : Sms := .asg 1 (.call 3 #['a'] [])::b_ranking_3
abbrev b_ranking : Sms := b_ranking_4
/-! 8 rank_of(0 frame, 1 told, 2 world, 3 broken) -/
def b_rank_of_1 : Sms := .ret (.ite (!'d') ((.prim .max1 #['d']) + (-1)) (-0))::.nil
def b_rank_of_2 : Sms := .asg 3 (.comp .zip #['b', 'a'[-2]] 2 (.one (!(.call 1 #['f'[-1], 'c'] []))) 'e')::b_rank_of_1
def b_rank_of_3 : Sms := .ret (.lit .non)::.nil
def b_rank_of_4 : Sms := .ife (.not (!(.call 1 #['a'[-1], 'c'] []))) b_rank_of_3 .nil::b_rank_of_2
abbrev b_rank_of : Sms := b_rank_of_4
/-! 9 follows(0 frame, 1 met, 2 broken, 3 rules, 4 contrary, 5 ranks) -/
def b_follows_1 : Sms := .ret (.prim .mktup #[s!"free", 'f'])::.nil
def b_follows_2 : Sms := .ret (.prim .mktup #[s!"follows", .prim .tuple_ #[.call 6 #['e', 'd', .prim .mklst #[↑'d']] []]])::.nil
def b_follows_3 : Sms := .ife (!(.prim .isN #['f'])) b_follows_2 .nil::b_follows_1
def b_follows_4 : Sms := .asg 5 (.call 7 #['e'] [])::b_follows_3
def b_follows_5 : Sms := .asg 4 (.prim .mktup #['a'[-0], 'a'[-1], 'a'[-2] + (.prim .mktup #[.prim .mktup #['c', 'b']])])::b_follows_4
def b_follows_6 : Sms := .ret (.prim .mktup #[s!"never"])::.nil
def b_follows_7 : Sms := .ife (.and (!('b' == (-0))) (!('c' == (-0)))) b_follows_6 .nil::b_follows_5
def b_follows_8 : Sms := .raisC (tx "Torn")::.nil
def b_follows_9 : Sms := .ife (!(.call 5 #['a', 'd'] [])) b_follows_8 .nil::b_follows_7
def b_follows_10 : Sms := .asg 3 (.prim .lrng #[↑'a'[-2]])::b_follows_9
abbrev b_follows : Sms := b_follows_10
/-! 10 _law_cell_at(0 script, 1 k) -/
def b_law_cell_at_1 : Sms := .ret (-0)::.nil
def b_law_cell_at_2 : Sms := .ret 'a'['b']::.nil
def b_law_cell_at_3 : Sms := .ife (!('b' < ↑'a')) b_law_cell_at_2 .nil::b_law_cell_at_1
abbrev b_law_cell_at : Sms := b_law_cell_at_3
/-! 11 _law_draw(0 cell, 1 k, 2 number) -/
def b_law_draw_1 : Sms := .ret ((('c' * ((-36011) + ((-14) * 'b'))) % (-1999999559)) / (-3))::.nil
def b_law_draw_2 : Sms := .asg 2 (('c' * 'c') % (-1999999571))::b_law_draw_1
def b_law_draw_3 : Sms := .asg 2 ((((('a' % (-1999999609)) + ((-90000049) * 'b')) + (((-263) * 'b') * 'b')) + (-59)) % (-1999999609))::b_law_draw_2
abbrev b_law_draw : Sms := b_law_draw_3
/-! 12 _law_mask(0 cell, 1 k, 2 size, 3 number) -/
def b_law_mask_1 : Sms := .ret (('d' * (-2000183)) % (.prim .shl #[-1, 'c']))::.nil
def b_law_mask_2 : Sms := .asg 3 (((((.call 11 #['a', 'b'] []) * (-1000193)) + (.call 11 #['a', 'b' + (-1)] [])) * (-1000199)) + (.call 11 #['a', 'b' + (-2)] []))::b_law_mask_1
abbrev b_law_mask : Sms := b_law_mask_2
/-! 13 _law_classes(0 cell, 1 size, 2 many, 3 classes, 4 world, 5 at) -/
def b_law_classes_1 : Sms := .ret 'd'::.nil
def b_law_classes_2 : Sms := .setx 'd' 'f' (.prim .bor #['d'['f'], .prim .shl #[-1, 'e']])::.nil
def b_law_classes_3 : Sms := .asg 5 ((.call 11 #['a', (-20) + 'e'] []) % 'c')::b_law_classes_2
def b_law_classes_4 : Sms := .forr [4] .rng #['b'] b_law_classes_3::b_law_classes_1
def b_law_classes_5 : Sms := .asg 3 (.comp .rng #['c'] 1 .none (-0))::b_law_classes_4
def b_law_classes_6 : Sms := .asg 2 (.prim .mklst #[-2, -4, -9])[(.call 11 #['a', -10] []) % (-3)]::b_law_classes_5
abbrev b_law_classes : Sms := b_law_classes_6
/-! 14 _law_rule(0 cell, 1 possible, 2 classes, 3 size, 4 some, 5 ahead, 6 group, 7 low, 8 rest) -/
def b_law_rule_1 : Sms := .ret (.prim .mktup #['b', -0])::.nil
def b_law_rule_2 : Sms := .ret (.prim .mktup #[.prim .bor #['h', .prim .band #['i', 'f']], .prim .band #[.prim .band #['i', .prim .inv #['f']], .prim .inv #[.call 12 #['a', -13, 'd'] []]]])::.nil
def b_law_rule_3 : Sms := .asg 8 ('e' - 'h')::b_law_rule_2
def b_law_rule_4 : Sms := .ife (!('h' != (-0))) b_law_rule_3 .nil::.nil
def b_law_rule_5 : Sms := .asg 7 (.prim .band #['e', 'g'])::b_law_rule_4
def b_law_rule_6 : Sms := .forr [6] .val #['c'] b_law_rule_5::b_law_rule_1
def b_law_rule_7 : Sms := .asg 5 (.call 12 #['a', -8, 'd'] [])::b_law_rule_6
def b_law_rule_8 : Sms := .asg 4 (.prim .band #['e', .call 12 #['a', -5, 'd'] []])::.nil
def b_law_rule_9 : Sms := .ife (!(((.call 11 #['a', -4] []) % (-3)) > (-0))) b_law_rule_8 .nil::b_law_rule_7
def b_law_rule_10 : Sms := .asg 4 (.prim .band #['b', .call 12 #['a', -1, 'd'] []])::b_law_rule_9
abbrev b_law_rule : Sms := b_law_rule_10
/-! 15 _law_wild(0 cell, 1 possible, 2 rules, 3 size, 4 some, 5 ahead, 6 kind, 7 met, 8 broken) -/
def b_law_wild_1 : Sms := .ret (.prim .mklst #[.prim .mktup #[-0, 'e'], .prim .mktup #['e', -0], .prim .mktup #[-0, -0], .prim .mktup #[.prim .band #['e', 'f'], .prim .band #['e', .prim .inv #['f']]]])['g' % (-4)]::.nil
def b_law_wild_2 : Sms := .ret (.prim .mktup #['i', 'h'])::.nil
def b_law_wild_3 : Sms := .unp [7, 8] 'c'[(.call 11 #['a', -17] []) % ↑'c']::b_law_wild_2
def b_law_wild_4 : Sms := .ife (.and (!('g' < (-4))) (!('c' != (.prim .mklst .nil)))) b_law_wild_3 .nil::b_law_wild_1
def b_law_wild_5 : Sms := .asg 6 ((.call 11 #['a', -16] []) % (-8))::b_law_wild_4
def b_law_wild_6 : Sms := .asg 5 (.call 12 #['a', -8, 'd'] [])::b_law_wild_5
def b_law_wild_7 : Sms := .asg 4 (.prim .band #['b', .call 12 #['a', -1, 'd'] []])::b_law_wild_6
abbrev b_law_wild : Sms := b_law_wild_7
/-! 16 _law_frame(0 script, 1 first, 2 size, 3 possible, 4 classes, 5 wild, 6 rules, 7 cell, 8 rule) -/
def b_law_frame_1 : Sms := .ret (.prim .mktup #['c', 'd', .prim .tuple_ #['g']])::.nil
def b_law_frame_2 : Sms := .expr (.mth .list .append 'g' #['i'])::.nil
def b_law_frame_3 : Sms := .setx 'g' ('h' % (-20)) 'i'::.nil
def b_law_frame_4 : Sms := .ife (!(↑'g' < (-20))) b_law_frame_2 b_law_frame_3::.nil
def b_law_frame_5 : Sms := .asg 8 (.call 15 #['h', 'd', 'g', 'c'] [])::.nil
def b_law_frame_6 : Sms := .ife (.and (!'f') (!(((.call 11 #['h', -18] []) % (-5)) == (-1)))) b_law_frame_5 .nil::b_law_frame_4
def b_law_frame_7 : Sms := .asg 8 (.call 14 #['h', 'd', 'e', 'c'] [])::b_law_frame_6
def b_law_frame_8 : Sms := .forr [7] .val #[.slc 'a' (-2) (-92)] b_law_frame_7::b_law_frame_1
def b_law_frame_9 : Sms := .asg 6 (.prim .mklst .nil)::b_law_frame_8
def b_law_frame_10 : Sms := .asg 5 (((.call 11 #['b', -11] []) % (-3)) > (-0))::b_law_frame_9
def b_law_frame_11 : Sms := .asg 4 (.call 13 #['b', 'c'] [])::b_law_frame_10
def b_law_frame_12 : Sms := .asg 3 (-0)::.nil
def b_law_frame_13 : Sms := .ife (!(((.call 11 #['b', -2] []) % (-15)) == (-2))) b_law_frame_12 .nil::b_law_frame_11
def b_law_frame_14 : Sms := .asg 3 (.call 12 #['b', -3, 'c'] [])::.nil
def b_law_frame_15 : Sms := .ife (!(((.call 11 #['b', -2] []) % (-3)) == (-1))) b_law_frame_14 .nil::b_law_frame_13
def b_law_frame_16 : Sms := .asg 3 ((.prim .shl #[-1, 'c']) - (-1))::b_law_frame_15
def b_law_frame_17 : Sms := .asg 2 (-64)::.nil
def b_law_frame_18 : Sms := .ife (!(((.call 11 #['b', -1] []) % (-6)) == (-4))) b_law_frame_17 .nil::b_law_frame_16
def b_law_frame_19 : Sms := .asg 2 ((-1) + ((.call 11 #['b', -0] []) % (-64)))::b_law_frame_18
def b_law_frame_20 : Sms := .asg 1 (.call 10 #['a', -0] [])::b_law_frame_19
abbrev b_law_frame : Sms := b_law_frame_20
/-! 17 _law_left(0 rules, 1 left, 2 out, 3 broken, 4 rule) -/
def b_law_left_1 : Sms := .ret 'b'::.nil
def b_law_left_2 : Sms := .asg 1 (.comp .val #['b'] 1 (.one (!((.prim .band #['f'[-0], .prim .inv #['d']]) == (-0)))) 'f')::.nil
def b_law_left_3 : Sms := .asg 2 (.comp .val #['b'] 1 (.one (!((.prim .band #['f'[-0], .prim .inv #['d']]) != (-0)))) 'f')::b_law_left_2
def b_law_left_4 : Sms := .asg 3 (.prim .bor #['d', 'e'[-1]])::.nil
def b_law_left_5 : Sms := .forr [4] .val #['b'] b_law_left_4::b_law_left_3
def b_law_left_6 : Sms := .asg 3 (-0)::b_law_left_5
def b_law_left_7 : Sms := .whil (!('c' != (.prim .mklst .nil))) b_law_left_6::b_law_left_1
def b_law_left_8 : Sms := .asg 2 (.prim .list_ #['a'])::b_law_left_7
def b_law_left_9 : Sms := .asg 1 (.prim .list_ #['a'])::b_law_left_8
abbrev b_law_left : Sms := b_law_left_9
/-! 18 _law_asked(0 frame, 1 met, 2 broken, 3 kinds, 4 others, 5 found, 6 e) -/
def b_law_asked_1 : Sms := .ret (.prim .mktup #['f', 'd', 'e'])::.nil
def b_law_asked_2 : Sms := .asg 4 ('e' + (.prim .mklst #[.prim (.isE [] [(tx "Torn")]) #['g']]))::.nil
def b_law_asked_3 : Sms := .asg 4 (.prim .mklst #[.prim (.isE [] [(tx "Torn")]) #['g']])::b_law_asked_2
def b_law_asked_4 : Sms := .asg 3 (.prim .mklst #[.prim (.isE [(tx "Torn")] []) #['g'], .prim (.isE [(tx "Torn")] []) #['g']])::b_law_asked_3
def b_law_asked_5 : Sms := .tryA 5 9 #['a', 'b', 'c'] (tx "Torn") 6 b_law_asked_4::b_law_asked_1
def b_law_asked_6 : Sms := .asg 5 (.lit .non)::b_law_asked_5
def b_law_asked_7 : Sms := .asg 4 (.prim .mklst .nil)::b_law_asked_6
def b_law_asked_8 : Sms := .asg 3 (.prim .mklst .nil)::b_law_asked_7
abbrev b_law_asked : Sms := b_law_asked_8
/-! 19 _law_right(0 frame, 1 torn, 2 met, 3 broken, 4 found, 5 kinds, 6 others) -/
def b_law_right_1 : Sms := .ret (.andV ('e'[-0] ∈ (.prim .mktup #[s!"follows", s!"free"])) (↑'e' == (-2)))::.nil
def b_law_right_2 : Sms := .ret ('e' == (.prim .mktup #[s!"never"]))::.nil
def b_law_right_3 : Sms := .ife (.and (!('c' == (-0))) (!('d' == (-0)))) b_law_right_2 .nil::b_law_right_1
def b_law_right_4 : Sms := .ret (.lit (.bl false))::.nil
def b_law_right_5 : Sms := .ife (.or (!('f' != (.prim .mklst .nil))) (.or (.not (!(.prim (.isi .tuple) #['e']))) (.or (!('e' == (.prim .mktup .nil))) (.not (!(.prim (.isi .str) #['e'[-0]])))))) b_law_right_4 .nil::b_law_right_3
def b_law_right_6 : Sms := .ret (.andV ('f' == (.prim .mklst #[.lit (.bl true), .lit (.bl true)])) ('g' == (.prim .mklst #[.lit (.bl false), .lit (.bl false)])))::.nil
def b_law_right_7 : Sms := .ife (!'b') b_law_right_6 .nil::b_law_right_5
def b_law_right_8 : Sms := .unp [4, 5, 6] (.call 18 #['a', 'c', 'd'] [])::b_law_right_7
abbrev b_law_right : Sms := b_law_right_8
/-! 20 _law_further(0 frame, 1 cell, 2 size, 3 possible, 4 rules, 5 some, 6 ahead, 7 kind) -/
def b_law_further_1 : Sms := .ret (.prim .mklst #[.prim .mktup #[-0, -0], .prim .mktup #[-0, 'f'], .prim .mktup #['f', -0], .prim .mktup #[.prim .band #['f', 'g'], .prim .band #['f', .prim .inv #['g']]], .prim .mktup #[-0, -0], .prim .mktup #[-0, -0]])['h']::.nil
def b_law_further_2 : Sms := .ret 'e'[(.call 11 #['b', -8] []) % ↑'e']::.nil
def b_law_further_3 : Sms := .ife (.and (!('h' == (-5))) (!('e' != (.prim .mktup .nil)))) b_law_further_2 .nil::b_law_further_1
def b_law_further_4 : Sms := .asg 7 ((.call 11 #['b', -7] []) % (-6))::b_law_further_3
def b_law_further_5 : Sms := .asg 6 (.call 12 #['b', -4, 'c'] [])::b_law_further_4
def b_law_further_6 : Sms := .asg 5 (.prim .band #['d', .call 12 #['b', -1, 'c'] []])::b_law_further_5
def b_law_further_7 : Sms := .unp [2, 3, 4] 'a'::b_law_further_6
abbrev b_law_further : Sms := b_law_further_7
/-! 21 law(0 script, 1 frame, 2 torn, 3 cell, 4 k, 5 met, 6 broken) -/
def b_law_1 : Sms := .ret (.lit (.bl true))::.nil
def b_law_2 : Sms := .ret (.lit (.bl false))::.nil
def b_law_3 : Sms := .ife (.not (!(.call 19 #['b', 'c', 'f', 'g'] []))) b_law_2 .nil::.nil
def b_law_4 : Sms := .unp [5, 6] (.call 20 #['b', 'd' + 'e'] [])::b_law_3
def b_law_5 : Sms := .forr [4] .rng #[-3] b_law_4::b_law_1
def b_law_6 : Sms := .asg 3 (.call 10 #['a', -1] [])::b_law_5
def b_law_7 : Sms := .asg 2 ((.call 17 #['b'[-2]] []) != (.prim .mklst .nil))::b_law_6
def b_law_8 : Sms := .asg 1 (.call 16 #['a'] [])::b_law_7
end
abbrev b_law : Sms := b_law_8
end
def P : List Def := [⟨1, 1, b_places⟩, ⟨2, 2, b_has⟩, ⟨3, 6, b_let_by⟩, ⟨1, 6, b_levels⟩, ⟨2, 2, b_going_out⟩, ⟨2, 3, b_is_torn⟩, ⟨3, 6, b_needed⟩, ⟨1, 2, b_ranking⟩, ⟨3, 4, b_rank_of⟩, ⟨3, 6, b_follows⟩, ⟨2, 2, b_law_cell_at⟩, ⟨2, 3, b_law_draw⟩, ⟨3, 4, b_law_mask⟩, ⟨2, 6, b_law_classes⟩, ⟨4, 9, b_law_rule⟩, ⟨4, 9, b_law_wild⟩, ⟨1, 9, b_law_frame⟩, ⟨1, 5, b_law_left⟩, ⟨3, 7, b_law_asked⟩, ⟨4, 7, b_law_right⟩, ⟨2, 8, b_law_further⟩, ⟨1, 7, b_law⟩]
end K40

namespace K40
open Z
section
local macro_rules
  | `($h[$a]'$x) => `($h[$a]? = some (.lst $x))
  | `(↑$x) => `(some (D.ref $x))
  | `(⇑$x) => `(some (D.str $x))
seal wpE wpEs wpT wpC wpS wpSs wpCall
abbrev sb : Nat → Nat → Bool := fun _ _ => false
section
variable {d : Nat} {h : AH} {Q : PV} {E : PX}
theorem c_cell {ns : List Int} {k : Int} (hk : 0 ≤ k) (q : ∀ c, Q (.int c) h) : wpCall sb P (d + 1) 10 [.rol (ns.map .int), .int k] h Q E := by
  refine wp_call rfl rfl ?_
  simp! [b_law_cell_at_1, b_law_cell_at_2, b_law_cell_at_3]
  by_cases hl : k < (map D.int ns).length
  · rw [decide_eq_true hl, if_pos rfl, atI_of hk, getElem?_map]
    rw [length_map] at hl
    rw [getElem?_eq_getElem (by lia)]
    exact q _
  · rw [decide_eq_false hl, if_neg (by decide)]; exact q _
theorem c_has {w k : Nat} (q : Q (.bl (w.testBit k)) h) : wpCall sb P (d + 1) 1 [.int w, .int k] h Q E := by
  refine wp_call rfl rfl ?_
  simp! [b_has_1]
  rw [if_pos (by lia)]
  simp! [has_eq]
  exact q
def draw (cell k : Int) : Int := (cell % 1999999609 + 90000049 * k + 263 * k * k + 59) % 1999999609 * ((cell % 1999999609 + 90000049 * k + 263 * k * k + 59) % 1999999609) % 1999999571 * (36011 + 14 * k) % 1999999559 / 3
theorem c_draw {cell k : Int} (hk : -1000000 ≤ k ∧ k ≤ 1000000) (q : Q (.int (draw cell k)) h) : wpCall sb P (d + 1) 11 [.int cell, .int k] h Q E := by
  refine wp_call rfl rfl ?_
  have h0 := emod_nonneg (cell % 1999999609 + 90000049 * k + 263 * k * k + 59) (show (1999999609 : Int) ≠ 0 by decide)
  have h1 := emod_lt_of_pos (cell % 1999999609 + 90000049 * k + 263 * k * k + 59) (show (0 : Int) < 1999999609 by decide)
  have m1 := @p_mulI sb h (263 * k) k ⟨by lia, by lia⟩
  simp! [b_law_draw_3, m1, b_law_draw_2, b_law_draw_1]
  rw [p_mulI (show _ ∧ _ from ⟨by lia, by lia⟩)]
  simp!
  rw [p_mulI (show _ ∧ _ from ⟨by lia, by lia⟩)]
  simp!
  exact q
theorem pos2 (n : Nat) : (0 : Int) < ((2 ^ n : Nat) : Int) := by have := Nat.pow_pos (n := n) (show 0 < 2 by decide); lia
theorem c_mask {cell k : Int} {size : Nat} (hk : 0 ≤ k ∧ k ≤ 100000) (hs : size ≤ 64) (q : ∀ m : Nat, m < 2 ^ size → Q (.int m) h) : wpCall sb P (d + 2) 12 [.int cell, .int k, .int size] h Q E := by
  refine wp_call rfl rfl ?_
  simp! [b_law_mask_2]
  refine c_draw (by lia) ?_
  simp!
  refine c_draw (by lia) ?_
  simp!
  refine c_draw (by lia) ?_
  simp! [b_law_mask_1, q_shl1 (show size ≤ 1000 by lia), pos2]
  generalize ((draw cell k * 1000193 + draw cell (k + 1)) * 1000199 + draw cell (k + 2)) * 2000183 = z
  have h0 := emod_nonneg z (show ((2 ^ size : Nat) : Int) ≠ 0 by have := pos2 size; lia)
  have h1 := emod_lt_of_pos z (pos2 size)
  obtain ⟨m, hm⟩ := eq_ofNat_of_zero_le h0
  rw [hm] at h1 ⊢
  exact q m (by lia)
theorem bAnd_nat (a b : Nat) : bAnd (a : Int) (b : Int) = ((a &&& b : Nat) : Int) := rfl
def msk (n : Nat) (f : Nat → Bool) : Nat := (((List.range n).filter f).map fun w => 2 ^ w).sum
theorem msk_succ (n : Nat) (f : Nat → Bool) : msk (n + 1) f = msk n f + if f n then 2 ^ n else 0 := by
  unfold msk
  rw [range_succ, filter_append, map_append, List.sum_append]
  congr 1
  cases hf : f n <;> simp [hf]
theorem msk_lt (f : Nat → Bool) : ∀ n, msk n f < 2 ^ n
  | 0 => by simp [msk]
  | n + 1 => by
    have ih := msk_lt f n
    rw [msk_succ, Nat.pow_succ]
    split <;> lia
theorem msk_bit (f : Nat → Bool) (w : Nat) : ∀ n, (msk n f).testBit w = (decide (w < n) && f w)
  | 0 => by simp [msk]
  | n + 1 => by
    have ih := msk_bit f w n
    have hl := msk_lt f n
    rw [msk_succ]
    by_cases h1 : w < n
    · have e1 : decide (w < n + 1) = true := decide_eq_true (by lia)
      rw [e1, Bool.true_and]
      rw [decide_eq_true h1, Bool.true_and] at ih
      split
      · rw [add_comm, Nat.testBit_two_pow_add_gt h1]; exact ih
      · exact ih
    · by_cases h2 : w = n
      · subst h2
        have e1 : decide (w < w + 1) = true := decide_eq_true (by lia)
        rw [e1, Bool.true_and]
        have e0 : (msk w f).testBit w = false := Nat.testBit_lt_two_pow hl
        cases hf : f w with
        | true => rw [if_pos rfl, add_comm, Nat.testBit_two_pow_add_eq, e0]; rfl
        | false => rw [if_neg (by decide)]; exact e0
      · have e1 : decide (w < n + 1) = false := decide_eq_false (by lia)
        rw [e1, Bool.false_and]
        refine Nat.testBit_lt_two_pow (lt_of_lt_of_le (msk_succ n f ▸ msk_lt f (n + 1)) (pow_le_pow_right (by decide) (by lia)))
theorem bOr_nat (a b : Nat) : bOr (a : Int) (b : Int) = ((a ||| b : Nat) : Int) := by
  unfold bOr
  have e : ∀ x : Nat, bNot (x : Int) = Int.negSucc x := fun x => by unfold bNot; lia
  rw [e, e]
  show bNot (Int.negSucc (a ||| b)) = _
  unfold bNot; lia
theorem msk_parts (f g : Nat → Bool) : ∀ n, msk n (fun w => g w && f w) + msk n (fun w => !g w && f w) = msk n f
  | 0 => by simp [msk]
  | n + 1 => by
    have ih := msk_parts f g n
    rw [msk_succ, msk_succ, msk_succ]
    cases hf : f n <;> cases hg : g n <;> simp <;> lia
theorem msk_self {m n : Nat} (hm : m < 2 ^ n) : msk n m.testBit = m := by
  refine Nat.eq_of_testBit_eq fun w => ?_
  rw [msk_bit]
  by_cases hw : w < n
  · rw [decide_eq_true hw, Bool.true_and]
  · rw [decide_eq_false hw, Bool.false_and]
    exact (Nat.testBit_lt_two_pow (lt_of_lt_of_le hm (pow_le_pow_right (by decide) (by lia)))).symm
def isI : D → Bool
  | .int _ => true
  | _ => false
def iv : D → Int
  | .int i => i
  | _ => 0
theorem bLen_nat (m : Nat) : bLen (m : Int) = if m = 0 then 0 else m.log2 + 1 := by
  unfold bLen
  by_cases h0 : m = 0
  · subst h0; rfl
  · rw [if_neg (by lia), if_neg h0]; rfl
def plc (m : Nat) : List Nat := (List.range (bLen (m : Int))).filter m.testBit
theorem plc_ne {m : Nat} (hm : m ≠ 0) : plc m ≠ [] := by
  intro e
  have h1 := List.filter_eq_nil_iff.mp e m.log2 (mem_range.mpr (by rw [bLen_nat, if_neg hm]; lia))
  exact h1 (Nat.testBit_log2 hm)
theorem c_places {m : Nat} (hm : m < 2 ^ 64) (q : ∀ h' r, h <+: h' → h'[r]'((plc m).map fun (w : Nat) => .int w) → Q (.ref r) h') : wpCall sb P (d + 2) 0 [.int m] h Q E := by
  refine wp_call rfl rfl ?_
  simp! [b_places_1]
  have hb : bLen (m : Int) ≤ 64 := by
    rw [bLen_nat]
    split
    · lia
    · rename_i h0
      have := (Nat.log2_lt h0).mpr hm
      lia
  refine wp_comp (xs := (List.range (bLen (m : Int))).map fun (k : Nat) => .int k) (vs := [.int (bLen (m : Int) : Nat)]) (h1 := h) (J := itRng 0 (bLen (m : Int))) (fun v => match v with | .int k => m.testBit k.toNat | _ => false) (fun v => v) (fun Q q => by simp!; exact q) ?_ (by simp; lia) ?_ ?_ ?_
  · have : okR ((bLen (m : Int) : Nat) : Int) = true := okR_iff.mpr (by lia)
    erw [iterOf, ioV, ioR, ioE, ioZ, ioB, this, toNat_natCast]; rfl
  · intro i h2 _
    unfold itRng
    by_cases hi : i < bLen (m : Int)
    · rw [if_pos hi, getElem?_map, getElem?_range hi]; simp
    · rw [if_neg hi, getElem?_eq_none (by simp; lia)]
  · intro k v h3 ev pr
    have hk : k < bLen (m : Int) := by have := (List.getElem?_eq_some_iff.mp ev).1; simpa using this
    rw [getElem?_map, getElem?_range hk] at ev
    erw [map_some, Option.some.injEq] at ev
    subst ev
    refine ⟨_, rfl, ?_⟩
    simp!
    refine c_has ?_
    simp!
    exact ⟨by rw [toNat_natCast], pre_rfl, fun hb => pre_rfl⟩
  · intro h2 pr e
    refine q h2 _ pr ?_
    rw [e]
    congr 2
    rw [filter_map, map_map]
    rfl
def clr (l b : Nat) : Nat := l - (l &&& b)
theorem bAnd_inv (l b : Nat) : bAnd (l : Int) (bNot (b : Int)) = ((clr l b : Nat) : Int) := by
  have e : bNot (b : Int) = Int.negSucc b := by unfold bNot; lia
  rw [e]; rfl
theorem clr_le (l b : Nat) : clr l b ≤ l := Nat.sub_le _ _
def rD (ab : Nat × Nat) : D := .tup [.int ab.1, .int ab.2]
def lb (rl : List (Nat × Nat)) (among : List Nat) (r : Nat) : Nat := among.foldl (fun l k => clr l (rl.getD k (0, 0)).2) (rl.getD r (0, 0)).1
theorem foldl_clr_le (rl : List (Nat × Nat)) : ∀ (am : List Nat) (l : Nat), am.foldl (fun l k => clr l (rl.getD k (0, 0)).2) l ≤ l
  | [], l => le_refl _
  | k :: am, l => le_trans (foldl_clr_le rl am _) (clr_le _ _)
theorem rul_at {rl : List (Nat × Nat)} {k : Nat} (hk : k < rl.length) : atI (rl.map rD) (k : Int) = some (rD (rl.getD k (0, 0))) := by
  rw [atI_lit, getElem?_map, getD_eq_getElem?_getD, getElem?_eq_getElem hk]; rfl
theorem rd0 (ab : Nat × Nat) : prim sb .idx [rD ab, .int 0] h = some (.int ab.1, h) := rfl
theorem rd1 (ab : Nat × Nat) : prim sb .idx [rD ab, .int 1] h = some (.int ab.2, h) := rfl
theorem c_let_by {rl : List (Nat × Nat)} {am r : Nat} {among : List Nat} {x y : D} (ha : h[am]'(among.map fun (k : Nat) => .int k)) (hs : ∀ k ∈ among, k < rl.length) (hr : r < rl.length) (h64 : ∀ ab ∈ rl, ab.1 < 2 ^ 64) (q : ∀ h' v, h <+: h' → (lb rl among r = 0 → v = .non) → (lb rl among r ≠ 0 → ∃ w : Nat, v = .int w ∧ (plc (lb rl among r))[0]? = some w) → Q v h') :
    wpCall sb P (d + 3) 2 [.tup [x, y, .tup (rl.map rD)], .ref am, .int r] h Q E := by
  refine wp_call rfl rfl ?_
  have e2 : prim sb .idx [.tup [x, y, .tup (rl.map rD)], .int 2] h = some (.tup (rl.map rD), h) := rfl
  simp! [b_let_by_5, e2, b_let_by_4, rul_at hr, rd0, b_let_by_3]
  refine wp_for (xs := among.map fun (k : Nat) => .int k) (J := itList am) (vs := [.ref am]) (h1 := h)
    (fun i σ h' => h' = h ∧ ∃ x5, σ = [some (.tup [x, y, .tup (rl.map rD)]), ↑am, some (.int r), some (.tup (rl.map rD)), some (.int ((among.take i).foldl (fun l k => clr l (rl.getD k (0, 0)).2) (rl.getD r (0, 0)).1 : Nat)), x5])
    (fun Q q => by simp!; exact q) (it_lst ha) ⟨rfl, none, rfl⟩ ?_ ?_ ?_
  · rintro i σ h' _ ⟨rfl, _⟩
    erw [itList, ha]
  · rintro i v σ h' ev ⟨rfl, x5, rfl⟩
    rw [getElem?_map] at ev
    cases ek : among[i]? with
    | none => rw [ek] at ev; cases ev
    | some k =>
      rw [ek] at ev
      erw [map_some, Option.some.injEq] at ev
      subst ev
      refine ⟨_, rfl, ?_⟩
      simp! [b_let_by_2, rul_at (hs k (mem_of_getElem? ek)), rd1, bAnd_inv]
      refine ⟨some (.int k), ?_⟩
      · rw [take_add_one, ek, foldl_append]; rfl
  · rintro σ h' ⟨rfl, x5, rfl⟩
    rw [length_map, take_length]
    change wpSs sb (wpCall sb P (d + 2)) E b_let_by_1 _ [_, _, _, _, some (.int (lb rl among r : Nat)), _] h'
    have hb : lb rl among r < 2 ^ 64 := Nat.lt_of_le_of_lt (foldl_clr_le rl among _) (h64 _ (by rw [getD_eq_getElem?_getD, getElem?_eq_getElem hr]; exact getElem_mem _))
    simp! [b_let_by_1]
    by_cases h0 : lb rl among r = 0
    · have e0 : (((lb rl among r : Nat) : Int) != 0) = false := by rw [h0]; rfl
      simp! [e0]
      exact q h' _ pre_rfl (fun _ => rfl) fun n => absurd h0 n
    · have e0 : (((lb rl among r : Nat) : Int) != 0) = true := by rw [bne_iff_ne]; lia
      simp! [e0]
      refine c_places hb fun h2 pa pr hp => ?_
      cases ep : plc (lb rl among r) with
      | nil => exact absurd ep (plc_ne h0)
      | cons w W =>
        rw [ep] at hp
        simp! [q_idxL hp, show atI (D.int (w : Int) :: W.map fun (w : Nat) => D.int w) 0 = some (.int (w : Int)) by rw [show (0 : Int) = ((0 : Nat) : Int) from rfl, atI_lit]; rfl]
        exact q h2 _ pr (fun n => absurd n h0) fun _ => ⟨w, rfl, by rw [ep]; rfl⟩
def gone (rl : List (Nat × Nat)) (left : List Nat) : List Nat := left.filter fun r => lb rl left r != 0
abbrev iL (l : List Nat) : List D := l.map fun (k : Nat) => .int k
theorem c_going_out {rl : List (Nat × Nat)} {lf : Nat} {left : List Nat} {x y : D} (ha : h[lf]'(iL left)) (hs : ∀ k ∈ left, k < rl.length) (hl : left.length ≤ 1000) (h64 : ∀ ab ∈ rl, ab.1 < 2 ^ 64) (q : ∀ h' r, h <+: h' → r < h'.length → h.length ≤ r → h'[r]'(iL (gone rl left)) → Q (.ref r) h') :
    wpCall sb P (d + 4) 4 [.tup [x, y, .tup (rl.map rD)], .ref lf] h Q E := by
  refine wp_call rfl rfl ?_
  simp! [b_going_out_1]
  refine wp_comp (xs := iL left) (vs := [.ref lf]) (h1 := h) (J := itList lf) (fun v => match v with | .int k => lb rl left k.toNat != 0 | _ => false) (fun v => v) (fun Q q => by simp!; exact q) (it_lst ha) (by simp; lia) (fun i h' pp => it_lst_at ha pp i) ?_ ?_
  · intro i v h2 ev pr
    obtain ⟨k, hk, rfl⟩ := mem_map.mp (mem_of_getElem? ev)
    refine ⟨_, rfl, ?_⟩
    simp!
    refine c_let_by (pre_get pr ha) hs (hs k hk) h64 fun h3 v p3 c0 c1 => ?_
    by_cases h0 : lb rl left k = 0
    · rw [c0 h0]
      simp!
      exact ⟨by rw [toNat_natCast, h0]; rfl, p3, fun z => by cases z⟩
    · obtain ⟨w, rfl, _⟩ := c1 h0
      simp!
      exact ⟨by rw [toNat_natCast]; exact (bne_iff_ne.mpr h0).symm, p3, fun _ => pre_rfl⟩
  · intro h2 pr e
    refine q h2 _ pr (List.getElem?_eq_some_iff.mp e).1 (le_refl _) ?_
    rw [e]
    congr 2
    unfold gone iL
    rw [filter_map, map_map]
    rfl
def optD : Option Nat → D
  | none => .non
  | some l => .int l
def run (rl : List (Nat × Nat)) : Nat → List (Option Nat) → List Nat → Nat → List (Option Nat)
  | 0, told, _, _ => told
  | f + 1, told, left, lev => if gone rl left = [] then told else run rl f ((gone rl left).foldl (fun t r => t.set r (some lev)) told) (left.filter fun r => !(gone rl left).contains r) (lev + 1)
def lvls (rl : List (Nat × Nat)) : List (Option Nat) := run rl (rl.length + 1) (replicate rl.length none) (List.range rl.length) 0
theorem left_lt {rl : List (Nat × Nat)} {left : List Nat} (hg : gone rl left ≠ []) : (left.filter fun r => !(gone rl left).contains r).length < left.length := by
  obtain ⟨g, hm⟩ := List.exists_mem_of_ne_nil _ hg
  refine List.length_filter_lt_length_iff_exists.mpr ⟨g, (mem_filter.mp hm).1, ?_⟩
  simp [hm]
theorem run_fuel {rl : List (Nat × Nat)} : ∀ (n : Nat) (left : List Nat), left.length = n → ∀ f told lev, left.length < f → run rl f told left lev = run rl (left.length + 1) told left lev := by
  intro n
  induction n using Nat.strongRecOn with
  | ind n ih =>
    intro left hn f told lev hf
    obtain ⟨f, rfl⟩ : ∃ f', f = f' + 1 := ⟨f - 1, by lia⟩
    erw [run]
    split
    · rfl
    · rename_i hg
      have hlt := left_lt hg
      rw [ih _ (by lia) _ rfl f _ _ (by lia), ih _ (by lia) _ rfl left.length _ _ (by lia)]
theorem inDs_int {k : Nat} : ∀ {l : List Nat}, inDs (.int k) (iL l) = some (l.contains k)
  | [] => rfl
  | y :: r => by
    have e : eqN 149 (.int (y : Int)) (.int (k : Int)) = some (((y : Nat) : Int) == ((k : Nat) : Int)) := rfl
    have e2 : (((y : Nat) : Int) == ((k : Nat) : Int)) = (k == y) := by rw [Bool.eq_iff_iff, beq_iff_eq, beq_iff_eq]; lia
    show (match eqN 149 (.int (y : Int)) (.int (k : Int)), inDs (.int k) (iL r) with | some a, some b => some (a || b) | _, _ => none) = _
    rw [e, inDs_int, e2, List.contains_cons]
theorem setAll_len (lev : Nat) : ∀ (g : List Nat) (t : List (Option Nat)), (g.foldl (fun t r => t.set r (some lev)) t).length = t.length
  | [], _ => rfl
  | r :: g, t => by rw [foldl_cons, setAll_len lev g, length_set]
theorem q_setN {xs : List D} {a : Nat} {j : Nat} {v : D} (ha : h[a]'xs) (hj : j < xs.length) : prim sb .setx [.ref a, .int (j : Int), v] h = some (.non, h.set a (.lst (xs.set j v))) := by
  show pSetx [.ref a, .int (j : Int), v] h = _
  have : ixN xs.length (j : Int) = some j := by
    unfold ixN
    rw [if_pos (natCast_nonneg j), if_pos (by lia)]; simp
  unfold pSetx
  erw [ha, this]
theorem c_levels {rl : List (Nat × Nat)} {x y : D} (hl : rl.length ≤ 1000) (h64 : ∀ ab ∈ rl, ab.1 < 2 ^ 64) (q : ∀ h', h <+: h' → Q (.tup ((lvls rl).map optD)) h') : wpCall sb P (d + 5) 3 [.tup [x, y, .tup (rl.map rD)]] h Q E := by
  refine wp_call rfl rfl ?_
  have e2 : ∀ h, prim sb .idx [.tup [x, y, .tup (rl.map rD)], .int 2] h = some (.tup (rl.map rD), h) := fun _ => rfl
  have okn : okR (rl.length : Int) = true := okR_iff.mpr (by lia)
  have em : prim sb .mul [.ref h.length, .int (rl.length : Int)] (h ++ [.lst [.non]]) = some (.ref (h.length + 1), h ++ [.lst [.non]] ++ [.lst ((replicate rl.length (none : Option Nat)).map optD)]) := by
    show pMul [.ref h.length, .int (rl.length : Int)] (h ++ [.lst [.non]]) = _
    unfold pMul
    erw [get_new, okn, if_true]
    have : (replicate (rl.length : Int).toNat [D.non]).flatten = (replicate rl.length (none : Option Nat)).map optD := by
      rw [toNat_natCast, List.map_replicate]
      simp [optD]
    rw [this]
    unfold newL
    rw [if_pos (by simp [lim]; lia)]
    simp
  simp! [b_levels_11, e2, length_map, em, b_levels_10]
  have e1 : (h ++ [AO.lst [.non]] ++ [AO.lst ((replicate rl.length (none : Option Nat)).map optD)])[h.length + 1]'((replicate rl.length (none : Option Nat)).map optD) := by
    have : (h ++ [AO.lst [.non]]).length = h.length + 1 := by simp
    rw [← this]; exact get_new
  have p1 : h <+: h ++ [AO.lst [.non]] ++ [AO.lst ((replicate rl.length (none : Option Nat)).map optD)] := pre_app (prefix_append _ _)
  have l1 : (h ++ [AO.lst [.non]] ++ [AO.lst ((replicate rl.length (none : Option Nat)).map optD)]).length = h.length + 2 := by simp
  generalize h ++ [AO.lst [.non]] ++ [AO.lst ((replicate rl.length (none : Option Nat)).map optD)] = g1 at e1 p1 l1
  have er : prim sb .lrng [.int (rl.length : Int)] g1 = some (.ref g1.length, g1 ++ [.lst (iL (List.range rl.length))]) := by
    show pLrng [.int (rl.length : Int)] g1 = _
    unfold pLrng
    erw [okn, if_true, toNat_natCast]
    exact if_pos (by simp [lim]; lia)
  simp! [q_lenL e1, length_map, length_replicate, er, b_levels_9, b_levels_8]
  refine c_going_out get_new (fun k hk => mem_range.mp hk) (by simp; lia) h64 fun g2 ga pr2 hga hga2 hg => ?_
  simp! [b_levels_7]
  have ne1 : ga ≠ h.length + 1 := by rw [length_append] at hga2; simp at hga2; lia
  refine wp_whileC (fun m σ h' => h <+: h' ∧ ∃ ta la ga told left lev x5, m = left.length ∧ h'[ta]'(told.map optD) ∧ told.length = rl.length ∧ h'[la]'(iL left) ∧ h'[ga]'(iL (gone rl left)) ∧ (∀ k ∈ left, k < rl.length) ∧ left.length ≤ rl.length ∧ h.length ≤ ta ∧ ta ≠ la ∧ ta ≠ ga ∧
      run rl (left.length + 1) told left lev = lvls rl ∧ σ = [some (.tup [x, y, .tup (rl.map rD)]), ↑ta, ↑la, some (.int (lev : Nat)), ↑ga, x5]) (m := rl.length)
    ⟨p1.trans (pre_of pr2), h.length + 1, g1.length, ga, replicate rl.length none, List.range rl.length, 0, none, by simp, pre_get (pre_of pr2) e1, by simp, pre_get pr2 get_new, hg, fun k hk => mem_range.mp hk, by simp, by lia, by lia, fun z => ne1 z.symm, by rw [length_range]; rfl, rfl⟩ ?_
  rintro m σ h3 ⟨p3, ta, la, ga, told, left, lev, x5, rfl, ht, htl, hla, hgo, hk, hll, hta, n1, n2, hrun, rfl⟩
  simp! [t_lst hgo]
  cases hgn : gone rl left with
  | nil =>
    simp! [List.isEmpty_nil, b_levels_1, q_tupleL ht]
    have : lvls rl = told := by rw [← hrun]; erw [run]; rw [if_pos hgn]
    rw [← this]
    exact q _ p3
  | cons g0 G =>
    have hne : gone rl left ≠ [] := by rw [hgn]; simp
    rw [← hgn]
    have hie : (iL (gone rl left)).isEmpty = false := by rw [hgn]; rfl
    have hgm : ∀ k ∈ gone rl left, k < rl.length := fun k hk' => hk k (mem_filter.mp hk').1
    simp! [hie, b_levels_6]
    refine wp_for (xs := iL (gone rl left)) (J := itList ga) (vs := [.ref ga]) (h1 := h3)
      (fun i σ h' => h <+: h' ∧ h'[ta]'((((gone rl left).take i).foldl (fun t r => t.set r (some lev)) told).map optD) ∧ h'[la]'(iL left) ∧ h'[ga]'(iL (gone rl left)) ∧ ∃ x5, σ = [some (.tup [x, y, .tup (rl.map rD)]), ↑ta, ↑la, some (.int (lev : Nat)), ↑ga, x5])
      (fun Q q => by simp!; exact q) (it_lst hgo) ⟨p3, ht, hla, hgo, x5, rfl⟩ ?_ ?_ ?_
    · rintro i σ h' _ ⟨_, _, _, e, _⟩
      erw [itList, e]
    · rintro i v σ h' ev ⟨pp, et, el, eg, x5, rfl⟩
      rw [getElem?_map] at ev
      cases ek : (gone rl left)[i]? with
      | none => rw [ek] at ev; cases ev
      | some k =>
        rw [ek] at ev
        erw [map_some, Option.some.injEq] at ev
        subst ev
        refine ⟨_, rfl, ?_⟩
        have hkl := hgm k (mem_of_getElem? ek)
        simp! [b_levels_5, q_setN et (show k < ((((gone rl left).take i).foldl (fun t r => t.set r (some lev)) told).map optD).length by rw [length_map, setAll_len, htl]; exact hkl)]
        refine ⟨pre_set pp hta, ?_, ?_, ?_, some (.int k), rfl⟩
        · rw [getElem?_set_self (List.getElem?_eq_some_iff.mp et).1, take_add_one, ek, foldl_append]
          show some (AO.lst ((map optD _).set k (optD (some lev)))) = _
          rw [← map_set]; rfl
        · rw [getElem?_set_ne n1]; exact el
        · rw [getElem?_set_ne n2]; exact eg
    · rintro σ h4 ⟨p4, et, el, eg, x5, rfl⟩
      rw [length_map, take_length] at et
      simp! [b_levels_4]
      refine wp_comp (xs := iL left) (vs := [.ref la]) (h1 := h4) (J := itList la) (fun v => match v with | .int k => !(gone rl left).contains k.toNat | _ => false) (fun v => v) (fun Q q => by simp!; exact q) (it_lst el) (by simp; lia) (fun i h' pp => it_lst_at el pp i) ?_ ?_
      · intro i v h5 ev pr
        obtain ⟨k, hk', rfl⟩ := mem_map.mp (mem_of_getElem? ev)
        refine ⟨_, rfl, ?_⟩
        simp! [q_notin_L (pre_get pr eg), inDs_int]
        exact ⟨by rw [toNat_natCast], pre_rfl, fun _ => pre_rfl⟩
      · intro h5 p5 e5
        have e6 : h5[h4.length]'(iL (left.filter fun r => !(gone rl left).contains r)) := by
          rw [e5]
          congr 2
          unfold iL
          rw [filter_map, map_map]
          rfl
        simp! [b_levels_3, b_levels_2]
        have hlt := left_lt hne
        refine c_going_out e6 (fun k hk' => hk k (mem_filter.mp hk').1) (by lia) h64 fun h7 gb p7 hgb hgb2 hg7 => ?_
        have tlt : ta < h4.length := (List.getElem?_eq_some_iff.mp et).1
        have l5 := pre_len p5
        refine ⟨_, hlt, p4.trans (p5.trans p7), ta, h4.length, gb, _, _, lev + 1, x5, rfl, pre_get p7 (pre_get p5 et), by rw [setAll_len]; exact htl, pre_get p7 e6, hg7, fun k hk' => hk k (mem_filter.mp hk').1, by lia, hta, by lia, by lia, ?_, ?_⟩
        · rw [← hrun]
          conv => rhs; rw [run, if_neg hne]
          exact (run_fuel _ _ rfl left.length _ _ hlt).symm
        · rfl
def brk (lv : List Nat) (rl : List (Nat × Nat)) (w : Nat) : List Nat := ((lv.zip rl).filter fun p => p.2.2.testBit w).map fun p => p.1
def rkW (lv : List Nat) (rl : List (Nat × Nat)) (w : Nat) : Nat := (brk lv rl w).foldl (fun m l => max m (l + 1)) 0
theorem intsOf_iL : ∀ {l : List Nat}, intsOf (iL l) = some (l.map fun (k : Nat) => (k : Int))
  | [] => rfl
  | x :: r => by
    have ih := intsOf_iL (l := r)
    show (intsOf (iL r)).map _ = _
    rw [ih]; rfl
theorem foldl_max (r : List Nat) : ∀ (a b : Nat), b = a + 1 → ((r.map fun (k : Nat) => (k : Int)).foldl (fun a b => if b > a then b else a) (a : Int)) + 1 = ((r.foldl (fun m l => max m (l + 1)) b : Nat) : Int) := by
  induction r with
  | nil => intro a b e; subst e; rfl
  | cons x r ih =>
    intro a b e
    rw [map_cons, foldl_cons, foldl_cons]
    have e2 : (if ((x : Nat) : Int) > ((a : Nat) : Int) then ((x : Nat) : Int) else ((a : Nat) : Int)) = ((max a x : Nat) : Int) := by split <;> lia
    rw [e2]
    exact ih (max a x) _ (by lia)
theorem q_max1 {l : List Nat} {x : Nat} {a : Nat} (ha : h[a]'(iL (x :: l))) : prim sb .max1 [.ref a] h = some (.int ((((x :: l).foldl (fun m l => max m (l + 1)) 0 : Nat) : Int) - 1), h) := by
  show (match h[a]? with | some (.lst xs) => _ | _ => none) = _
  rw [ha]
  show ((intsOf (iL (x :: l))).bind _) = _
  rw [intsOf_iL, bind_some]
  have := foldl_max l x (x + 1) rfl
  have e0 : (x :: l).foldl (fun m l => max m (l + 1)) 0 = l.foldl (fun m l => max m (l + 1)) (x + 1) := by rw [foldl_cons]; congr 1
  rw [e0, ← this]
  show some (D.int ((l.map fun (k : Nat) => (k : Int)).foldl (fun a b => if b > a then b else a) (x : Int)), h) = _
  congr 2
  simp
theorem c_rank_of {lv : List Nat} {rl : List (Nat × Nat)} {p w : Nat} {x : D} (hl : rl.length ≤ 1000) (q : ∀ h', h <+: h' → Q (if p.testBit w then .int (rkW lv rl w : Nat) else .non) h') :
    wpCall sb P (d + 2) 8 [.tup [x, .int p, .tup (rl.map rD)], .tup (iL lv), .int w] h Q E := by
  refine wp_call rfl rfl ?_
  have e1 : prim sb .idx [.tup [x, .int p, .tup (rl.map rD)], .int 1] h = some (.int p, h) := rfl
  have e2 : ∀ h, prim sb .idx [.tup [x, .int p, .tup (rl.map rD)], .int 2] h = some (.tup (rl.map rD), h) := fun _ => rfl
  simp! [b_rank_of_4, e1]
  refine c_has ?_
  simp!
  cases hb : p.testBit w with
  | false =>
    simp! [b_rank_of_3]
    have := q h pre_rfl
    rw [hb] at this
    exact this
  | true =>
    simp! [b_rank_of_2]
    refine wp_comp (xs := (lv.zip rl).map fun ab => .tup [.int (ab.1 : Nat), rD ab.2]) (vs := [.tup (iL lv), .tup (rl.map rD)]) (h1 := h) (J := itZip (iL lv) (rl.map rD)) (fun v => match v with | .tup [_, .tup [_, .int b]] => b.toNat.testBit w | _ => false) (fun v => match v with | .tup [l, _] => l | _ => .non) (fun Q q => by simp! [e2]; exact q) rfl (by simp; lia) ?_ ?_ ?_
    · intro i h2 _
      unfold itZip
      rw [getElem?_map, getElem?_map, getElem?_map]
      cases ea : lv[i]? with
      | none => simp [List.getElem?_zip_eq_some, ea, List.zip, List.getElem?_zipWith]
      | some a =>
        cases eb : rl[i]? with
        | none => simp [ea, eb, List.zip, List.getElem?_zipWith]
        | some b => simp [ea, eb, List.zip, List.getElem?_zipWith]
    · intro k v h3 ev pr
      obtain ⟨ab, hab, rfl⟩ := mem_map.mp (mem_of_getElem? ev)
      refine ⟨_, rfl, ?_⟩
      simp! [rd1]
      refine c_has ?_
      simp!
      exact ⟨rfl, pre_rfl, fun _ => pre_rfl⟩
    · intro h2 pr e
      have e' : h2[h.length]'(iL (brk lv rl w)) := by
        rw [e]
        congr 2
        unfold brk iL
        rw [filter_map, map_map, map_map]
        rfl
      simp! [b_rank_of_1, t_lst e']
      have qq := q h2 pr
      rw [hb] at qq
      cases hk : brk lv rl w with
      | nil =>
        have e0 : rkW lv rl w = 0 := by unfold rkW; rw [hk]; rfl
        rw [e0] at qq
        simp! [List.isEmpty_nil]
        exact qq
      | cons l0 L =>
        rw [hk] at e'
        have e0 : rkW lv rl w = (l0 :: L).foldl (fun m l => max m (l + 1)) 0 := by unfold rkW; rw [hk]
        simp! [List.isEmpty_cons, q_max1 e', Int.sub_add_cancel]
        rw [← e0]
        exact qq
theorem inDs_non : ∀ {l : List (Option Nat)}, inDs .non (l.map optD) = some (l.contains none)
  | [] => rfl
  | y :: r => by
    have e : eqN 149 (optD y) .non = some (none == y) := by cases y <;> rfl
    show (match eqN 149 (optD y) .non, inDs .non (r.map optD) with | some a, some b => some (a || b) | _, _ => none) = _
    rw [e, inDs_non, List.contains_cons]
theorem somes : ∀ {l : List (Option Nat)}, l.contains none = false → ∃ lv : List Nat, l = lv.map some
  | [], _ => ⟨[], rfl⟩
  | none :: r, h => by simp at h
  | some x :: r, h => by
    obtain ⟨lv, rfl⟩ := somes (l := r) (by simpa using h)
    exact ⟨x :: lv, rfl⟩
def rks (lv : List Nat) (rl : List (Nat × Nat)) (p n : Nat) : List D := (List.range n).map fun w => if p.testBit w then .int (rkW lv rl w : Nat) else .non
theorem c_ranking {rl : List (Nat × Nat)} {p n : Nat} (hn : n ≤ 64) (hl : rl.length ≤ 1000) (h64 : ∀ ab ∈ rl, ab.1 < 2 ^ 64) (q0 : (lvls rl).contains none = true → ∀ h', h <+: h' → Q .non h') (q1 : ∀ lv : List Nat, lvls rl = lv.map some → ∀ h', h <+: h' → Q (.tup (rks lv rl p n)) h') :
    wpCall sb P (d + 6) 7 [.tup [.int n, .int p, .tup (rl.map rD)]] h Q E := by
  refine wp_call rfl rfl ?_
  simp! [b_ranking_4]
  refine c_levels hl h64 fun h1 p1 => ?_
  simp! [b_ranking_3, inDs_non]
  cases hc : (lvls rl).contains none with
  | true =>
    simp! [b_ranking_2]
    exact q0 hc _ p1
  | false =>
    obtain ⟨lv, hlv⟩ := somes hc
    rw [hlv]
    have e0 : (lv.map some).map optD = iL lv := by rw [map_map]; rfl
    have e1 : prim sb .idx [.tup [.int n, .int p, .tup (rl.map rD)], .int 0] h1 = some (.int n, h1) := rfl
    simp! [e0, b_ranking_1]
    have okn : okR (n : Int) = true := okR_iff.mpr (by lia)
    refine wp_comp (xs := (List.range n).map fun (k : Nat) => .int k) (vs := [.int n]) (h1 := h1) (J := itRng 0 n) (fun _ => true) (fun v => match v with | .int w => if p.testBit w.toNat then .int (rkW lv rl w.toNat : Nat) else .non | _ => .non) (fun Q q => by simp! [e1]; exact q) (by erw [iterOf, ioV, ioR, ioE, ioZ, ioB, okn, toNat_natCast]; rfl) (by simp; lia) ?_ ?_ ?_
    · intro i h2 _
      unfold itRng
      by_cases hi : i < n
      · rw [if_pos hi, getElem?_map, getElem?_range hi]; simp
      · rw [if_neg hi, getElem?_eq_none (by simp; lia)]
    · intro k v h3 ev pr
      have hk : k < n := by have := (List.getElem?_eq_some_iff.mp ev).1; simpa using this
      rw [getElem?_map, getElem?_range hk] at ev
      erw [map_some, Option.some.injEq] at ev
      subst ev
      refine ⟨_, rfl, ?_⟩
      simp!
      refine ⟨pre_rfl, fun _ => ?_⟩
      exact c_rank_of (d := d + 3) hl fun h' pr' => ⟨by erw [toNat_natCast], pr'⟩
    · intro h2 pr e
      have e' : h2[h1.length]'(rks lv rl p n) := by
        rw [e]
        congr 2
        unfold rks
        rw [filter_eq_self.mpr (fun _ _ => rfl), map_map]
        refine List.map_congr_left fun w _ => ?_
        erw [Function.comp_apply, toNat_natCast]
      simp! [q_tupleL e']
      exact q1 lv hlv _ (p1.trans pr)
theorem clr_bit (l b w : Nat) : (clr l b).testBit w = (l.testBit w && !b.testBit w) := by
  have hs : l < 2 ^ l := Nat.lt_two_pow_self
  have e1 := msk_self hs
  have hb : ∀ w, l.testBit w = (decide (w < l) && l.testBit w) := fun w => by
    have := msk_bit l.testBit w l
    rw [e1] at this
    exact this
  have e2 : msk l (fun w => b.testBit w && l.testBit w) = l &&& b := by
    refine Nat.eq_of_testBit_eq fun w => ?_
    rw [msk_bit, Nat.testBit_and, hb w]
    cases decide (w < l) <;> cases b.testBit w <;> cases l.testBit w <;> rfl
  have e3 := msk_parts l.testBit b.testBit l
  rw [e1, e2] at e3
  have e4 : clr l b = msk l (fun w => !b.testBit w && l.testBit w) := by unfold clr; lia
  rw [e4, msk_bit, hb w]
  cases decide (w < l) <;> cases b.testBit w <;> cases l.testBit w <;> rfl
theorem foldl_clr_bit (rl : List (Nat × Nat)) (w : Nat) : ∀ (am : List Nat) (l : Nat), (am.foldl (fun l k => clr l (rl.getD k (0, 0)).2) l).testBit w = (l.testBit w && am.all fun k => !(rl.getD k (0, 0)).2.testBit w)
  | [], l => by simp
  | k :: am, l => by rw [foldl_cons, foldl_clr_bit rl w am, clr_bit, all_cons, Bool.and_assoc]
theorem lb_some {rl : List (Nat × Nat)} {am : List Nat} {r : Nat} (h : lb rl am r ≠ 0) : ∃ w, (rl.getD r (0, 0)).1.testBit w = true ∧ ∀ k ∈ am, (rl.getD k (0, 0)).2.testBit w = false := by
  obtain ⟨w, hw⟩ := Nat.exists_testBit_of_ne_zero h
  unfold lb at hw
  rw [foldl_clr_bit, and_eq_true, List.all_eq_true] at hw
  exact ⟨w, hw.1, fun k hk => by simpa using hw.2 k hk⟩
structure LvOk (rl : List (Nat × Nat)) (told : List (Option Nat)) (left : List Nat) (lev : Nat) : Prop where
  len : told.length = rl.length
  lf : ∀ k, k ∈ left ↔ k < rl.length ∧ told.getD k none = none
  lt : ∀ k l, told.getD k none = some l → l < lev
  ok : ∀ k l, told.getD k none = some l → ∃ w, (rl.getD k (0, 0)).1.testBit w = true ∧ ∀ j, (rl.getD j (0, 0)).2.testBit w = true → ∃ l', l' < l ∧ told.getD j none = some l'
theorem setAll_get (lev : Nat) : ∀ (g : List Nat) (t : List (Option Nat)) (k : Nat), (∀ x ∈ g, x < t.length) → (g.foldl (fun t r => t.set r (some lev)) t).getD k none = if k ∈ g then some lev else t.getD k none
  | [], t, k, _ => by simp
  | x :: g, t, k, h => by
    rw [foldl_cons, setAll_get lev g _ k (fun y hy => by rw [length_set]; exact h y (by simp [hy]))]
    by_cases hk : k ∈ g
    · rw [if_pos hk, if_pos (by simp [hk])]
    · rw [if_neg hk]
      by_cases hx : k = x
      · subst hx
        rw [if_pos (by simp), getD_eq_getElem?_getD, getElem?_set_self (h k (by simp))]; rfl
      · rw [if_neg (by simp [hx, hk]), getD_eq_getElem?_getD, getElem?_set_ne (fun z => hx z.symm), ← getD_eq_getElem?_getD]
theorem LvOk.step {rl : List (Nat × Nat)} {told : List (Option Nat)} {left : List Nat} {lev : Nat} (I : LvOk rl told left lev) : LvOk rl ((gone rl left).foldl (fun t r => t.set r (some lev)) told) (left.filter fun r => !(gone rl left).contains r) (lev + 1) := by
  have hg : ∀ x ∈ gone rl left, x < told.length := fun x hx => by rw [I.len]; exact ((I.lf x).mp (mem_filter.mp hx).1).1
  have hget := fun k => setAll_get lev (gone rl left) told k hg
  refine ⟨by rw [setAll_len]; exact I.len, fun k => ?_, fun k l e => ?_, fun k l e => ?_⟩
  · rw [hget, mem_filter, I.lf]
    by_cases hk : k ∈ gone rl left
    · simp [hk]
    · simp [hk]
  · rw [hget] at e
    split at e
    · cases e; lia
    · have := I.lt k l e; lia
  · rw [hget] at e
    split at e
    · rename_i hk
      cases e
      obtain ⟨w, w1, w2⟩ := lb_some (bne_iff_ne.mp (mem_filter.mp hk).2)
      refine ⟨w, w1, fun j hj => ?_⟩
      have hjl : j ∉ left := fun hm => by rw [w2 j hm] at hj; cases hj
      have hjn : j ∉ gone rl left := fun hm => hjl (mem_filter.mp hm).1
      have hjr : j < rl.length := by
        refine Nat.lt_of_not_le fun hle => ?_
        rw [getD_eq_getElem?_getD, getElem?_eq_none hle] at hj
        simp at hj
      cases ej : told.getD j none with
      | none => exact absurd ((I.lf j).mpr ⟨hjr, ej⟩) hjl
      | some l' => exact ⟨l', I.lt j l' ej, by rw [hget, if_neg hjn]; exact ej⟩
    · obtain ⟨w, w1, w2⟩ := I.ok k l e
      refine ⟨w, w1, fun j hj => ?_⟩
      obtain ⟨l', h1, h2⟩ := w2 j hj
      have hjn : j ∉ gone rl left := fun hm => by
        have := ((I.lf j).mp (mem_filter.mp hm).1).2
        rw [this] at h2; cases h2
      exact ⟨l', h1, by rw [hget, if_neg hjn]; exact h2⟩
theorem run_ok {rl : List (Nat × Nat)} : ∀ (f : Nat) (told : List (Option Nat)) (left : List Nat) (lev : Nat), LvOk rl told left lev → ∃ left' lev', LvOk rl (run rl f told left lev) left' lev'
  | 0, told, left, lev, I => ⟨left, lev, I⟩
  | f + 1, told, left, lev, I => by
    erw [run]
    split
    · exact ⟨left, lev, I⟩
    · exact run_ok f _ _ _ I.step
theorem lvls_ok (rl : List (Nat × Nat)) : ∃ left lev, LvOk rl (lvls rl) left lev := by
  refine run_ok _ _ _ _ ⟨by simp, fun k => ?_, fun k l e => ?_, fun k l e => ?_⟩
  · have : (replicate rl.length (none : Option Nat)).getD k none = none := by
      rw [getD_eq_getElem?_getD, getElem?_replicate]; split <;> rfl
    rw [this, mem_range]
    exact ⟨fun h => ⟨h, rfl⟩, fun h => h.1⟩
  · rw [getD_eq_getElem?_getD, getElem?_replicate] at e
    split at e <;> cases e
  · rw [getD_eq_getElem?_getD, getElem?_replicate] at e
    split at e <;> cases e
def Sub (a b : Nat) : Prop := ∀ w, a.testBit w = true → b.testBit w = true
theorem sub_and {a b p : Nat} (s : Sub a p) : Sub (a &&& b) p := fun w hw => by
  rw [Nat.testBit_and, and_eq_true] at hw
  exact s w hw.1
theorem sub_clr {a b p : Nat} (s : Sub a p) : Sub (clr a b) p := fun w hw => by
  rw [clr_bit, and_eq_true] at hw
  exact s w hw.1
theorem sub_or {a b p : Nat} (s : Sub a p) (t : Sub b p) : Sub (a ||| b) p := fun w hw => by
  rw [testBit_or, or_eq_true] at hw
  exact hw.elim (s w) (t w)
theorem sub_zero {p : Nat} : Sub 0 p := fun w hw => by rw [zero_testBit] at hw; cases hw
theorem sub_self {p : Nat} : Sub p p := fun _ z => z
theorem lvlen {rl : List (Nat × Nat)} {lv : List Nat} (hlv : lvls rl = lv.map some) : lv.length = rl.length := by
  obtain ⟨_, _, I⟩ := lvls_ok rl
  have := I.len
  rw [hlv, length_map] at this
  exact this
theorem lt_of_bit {p n w : Nat} (hp : p < 2 ^ n) (hb : p.testBit w = true) : w < n := by
  refine Nat.lt_of_not_le fun hle => ?_
  rw [Nat.testBit_lt_two_pow (lt_of_lt_of_le hp (pow_le_pow_right (by decide) hle))] at hb
  cases hb
def Ge (told : List (Option Nat)) (k l : Nat) : Prop := ∀ l', told.getD k none = some l' → l ≤ l'
theorem lb0 {rl : List (Nat × Nat)} {am : List Nat} {r w : Nat} (h : lb rl am r = 0) (hw : (rl.getD r (0, 0)).1.testBit w = true) : ∃ k, k ∈ am ∧ (rl.getD k (0, 0)).2.testBit w = true := by
  have : (lb rl am r).testBit w = false := by rw [h]; exact zero_testBit w
  unfold lb at this
  rw [foldl_clr_bit, hw, Bool.true_and, List.all_eq_false] at this
  obtain ⟨k, hk, hb⟩ := this
  exact ⟨k, hk, by simpa using hb⟩
structure LvMin (rl : List (Nat × Nat)) (told : List (Option Nat)) (left : List Nat) (lev : Nat) : Prop where
  ok : LvOk rl told left lev
  mn : ∀ l, l < lev → ∀ k, k < rl.length → Ge told k (l + 1) → ∀ w, (rl.getD k (0, 0)).1.testBit w = true → ∃ j, j < rl.length ∧ Ge told j l ∧ (rl.getD j (0, 0)).2.testBit w = true
theorem LvMin.step {rl : List (Nat × Nat)} {told : List (Option Nat)} {left : List Nat} {lev : Nat} (I : LvMin rl told left lev) : LvMin rl ((gone rl left).foldl (fun t r => t.set r (some lev)) told) (left.filter fun r => !(gone rl left).contains r) (lev + 1) := by
  have O := I.ok
  have hg : ∀ x ∈ gone rl left, x < told.length := fun x hx => by rw [O.len]; exact ((O.lf x).mp (mem_filter.mp hx).1).1
  have hget := fun k => setAll_get lev (gone rl left) told k hg
  have hge : ∀ j l, l ≤ lev → Ge told j l → Ge ((gone rl left).foldl (fun t r => t.set r (some lev)) told) j l := by
    intro j l hl hj l' e
    rw [hget] at e
    split at e
    · cases e; exact hl
    · exact hj l' e
  refine ⟨O.step, fun l hl k hk hk2 w hw => ?_⟩
  have hold : Ge told k (l + 1) := by
    intro l' e
    refine hk2 l' ?_
    rw [hget, if_neg]
    · exact e
    · intro hm
      have := ((O.lf k).mp (mem_filter.mp hm).1).2
      rw [this] at e; cases e
  by_cases hlt : l < lev
  · obtain ⟨j, h1, h2, h3⟩ := I.mn l hlt k hk hold w hw
    exact ⟨j, h1, hge j l (by lia) h2, h3⟩
  · have el : l = lev := by lia
    subst el
    have hkn : told.getD k none = none := by
      cases e : told.getD k none with
      | none => rfl
      | some l' => have := hold l' e; have := O.lt k l' e; lia
    have hkl : k ∈ left := (O.lf k).mpr ⟨hk, hkn⟩
    have hkg : k ∉ gone rl left := fun hm => by
      have := hk2 l (by rw [hget, if_pos hm])
      lia
    have hlb : lb rl left k = 0 := by
      refine Decidable.by_contra fun hne => hkg (mem_filter.mpr ⟨hkl, bne_iff_ne.mpr hne⟩)
    obtain ⟨j, hj, hb⟩ := lb0 hlb hw
    have := (O.lf j).mp hj
    exact ⟨j, this.1, hge j l (le_refl _) (fun l' e => by rw [this.2] at e; cases e), hb⟩
theorem run_min {rl : List (Nat × Nat)} : ∀ (f : Nat) (told : List (Option Nat)) (left : List Nat) (lev : Nat), left.length < f → LvMin rl told left lev → ∃ left' lev', LvMin rl (run rl f told left lev) left' lev' ∧ gone rl left' = []
  | 0, told, left, lev, hf, I => by lia
  | f + 1, told, left, lev, hf, I => by
    erw [run]
    split
    · rename_i hg; exact ⟨left, lev, I, hg⟩
    · rename_i hg
      exact run_min f _ _ _ (by have := left_lt hg; lia) I.step
theorem rep_none {n k : Nat} : (replicate n (none : Option Nat)).getD k none = none := by
  rw [getD_eq_getElem?_getD, getElem?_replicate]; split <;> rfl
theorem getD_rl {rl : List (Nat × Nat)} {k : Nat} {ab : Nat × Nat} (e : rl[k]? = some ab) : rl.getD k (0, 0) = ab := by rw [getD_eq_getElem?_getD, e]; rfl
theorem eqLs_nil {xs : List D} : eqLs xs [] = some xs.isEmpty := by
  unfold eqLs
  cases xs with
  | nil => rfl
  | cons x r => rw [if_neg (by simp)]; rfl
theorem q_lrng {n : Nat} (hn : n ≤ 1000) : prim sb .lrng [.int (n : Int)] h = some (.ref h.length, h ++ [.lst (iL (List.range n))]) := by
  have okn : okR (n : Int) = true := okR_iff.mpr (by lia)
  show pLrng [.int (n : Int)] h = _
  unfold pLrng
  erw [okn, if_true, toNat_natCast]
  exact if_pos (by simp [lim]; lia)
def torn (rl : List (Nat × Nat)) (am : List Nat) : Bool := (lvls (am.map fun k => rl.getD k (0, 0))).contains none
theorem c_is_torn {rl : List (Nat × Nat)} {am : List Nat} {aa : Nat} {x y : D} (ha : h[aa]'(iL am)) (hs : ∀ k ∈ am, k < rl.length) (hl : am.length ≤ 1000) (h64 : ∀ ab ∈ rl, ab.1 < 2 ^ 64) (q : ∀ h', h <+: h' → Q (.bl (torn rl am)) h') :
    wpCall sb P (d + 6) 5 [.tup [x, y, .tup (rl.map rD)], .ref aa] h Q E := by
  refine wp_call rfl rfl ?_
  have g0 : ∀ h, prim sb .idx [.tup [x, y, .tup (rl.map rD)], .int 0] h = some (x, h) := fun _ => rfl
  have g1 : ∀ h, prim sb .idx [.tup [x, y, .tup (rl.map rD)], .int 1] h = some (y, h) := fun _ => rfl
  have g2 : ∀ h, prim sb .idx [.tup [x, y, .tup (rl.map rD)], .int 2] h = some (.tup (rl.map rD), h) := fun _ => rfl
  simp! [b_is_torn_2]
  refine w_clst (W := am) (a := aa) (h1 := h) (fun _ => true) (fun k => rD (rl.getD k (0, 0))) (fun Q q => by simp!; exact q) ha hl ?_ ?_
  · intro k h2 hk p2
    simp! [g2, rul_at (hs k hk)]
    exact ⟨pre_rfl, fun _ => pre_rfl⟩
  · intro h1 p1 e1
    have e2 : h1[h.length]'((am.map fun k => rl.getD k (0, 0)).map rD) := by
      rw [e1, filter_eq_self.mpr (fun _ _ => rfl), map_map]; rfl
    simp! [b_is_torn_1, g0, g1, q_tupleL e2]
    refine c_levels (d := d) (by simpa using hl) (fun ab hab => ?_) fun h2 p2 => ?_
    · obtain ⟨k, hk, rfl⟩ := mem_map.mp hab
      rw [getD_eq_getElem?_getD, getElem?_eq_getElem (hs k hk)]
      exact h64 _ (getElem_mem _)
    · simp! [inDs_non]
      exact q _ (p1.trans p2)
def ndd (rl : List (Nat × Nat)) (bs : List Nat) (rules kept : List Nat) : List Nat := rules.foldl (fun kept r => if torn rl ((kept.filter fun o => o != r) ++ bs) then kept.filter fun o => o != r else kept) kept
theorem ndd_sub {rl : List (Nat × Nat)} {bs : List Nat} : ∀ {rules kept : List Nat}, ∀ k ∈ ndd rl bs rules kept, k ∈ kept
  | [], kept, k, hk => hk
  | r :: rules, kept, k, hk => by
    have h1 : ndd rl bs (r :: rules) kept = ndd rl bs rules (if torn rl ((kept.filter fun o => o != r) ++ bs) then kept.filter fun o => o != r else kept) := rfl
    rw [h1] at hk
    have := ndd_sub k hk
    split at this
    · exact (mem_filter.mp this).1
    · exact this
theorem ndd_len {rl : List (Nat × Nat)} {bs : List Nat} : ∀ {rules kept : List Nat}, (ndd rl bs rules kept).length ≤ kept.length
  | [], kept => le_refl _
  | r :: rules, kept => by
    have h1 : ndd rl bs (r :: rules) kept = ndd rl bs rules (if torn rl ((kept.filter fun o => o != r) ++ bs) then kept.filter fun o => o != r else kept) := rfl
    rw [h1]
    refine le_trans ndd_len ?_
    split
    · exact length_filter_le _ _
    · exact le_refl _
theorem q_addL {xs ys : List D} {a b : Nat} (ha : h[a]'xs) (hb : h[b]'ys) (hl : (xs ++ ys).length ≤ 16777216) : prim sb .add [.ref a, .ref b] h = some (.ref h.length, h ++ [.lst (xs ++ ys)]) := by
  show (match h[a]?, h[b]? with | some (.lst xs), some (.lst ys) => newL (xs ++ ys) h | _, _ => none) = _
  rw [ha, hb]
  exact if_pos hl
theorem c_needed {rl : List (Nat × Nat)} {rules bs : List Nat} {ra ba : Nat} {x y : D} (ha : h[ra]'(iL rules)) (hb : h[ba]'(iL bs)) (hs : ∀ k ∈ rules, k < rl.length) (hs2 : ∀ k ∈ bs, k < rl.length) (hl : rules.length ≤ 100) (hl2 : bs.length ≤ 100) (h64 : ∀ ab ∈ rl, ab.1 < 2 ^ 64) (q : ∀ h' r, h <+: h' → h'[r]'(iL (ndd rl bs rules rules)) → Q (.ref r) h') : wpCall sb P (d + 7) 6 [.tup [x, y, .tup (rl.map rD)], .ref ra, .ref ba] h Q E := by
  refine wp_call rfl rfl ?_
  simp! [b_needed_6, b_needed_5]
  refine wp_for (xs := iL rules) (J := itList ra) (vs := [.ref ra]) (h1 := h)
    (fun j σ h' => h <+: h' ∧ ∃ ka x4 x5, h'[ka]'(iL (ndd rl bs (rules.take j) rules)) ∧ σ = [some (.tup [x, y, .tup (rl.map rD)]), ↑ra, ↑ba, ↑ka, x4, x5])
    (fun Q q => by simp!; exact q) (it_lst ha) ⟨pre_rfl, ra, none, none, ha, rfl⟩ ?_ ?_ ?_
  · rintro i σ h' _ ⟨p, _⟩
    erw [itList, pre_get p ha]
  · rintro i v σ h1 ev ⟨p1, ka, x4, x5, ek, rfl⟩
    rw [getElem?_map] at ev
    cases er : rules[i]? with
    | none => rw [er] at ev; cases ev
    | some r =>
      rw [er] at ev
      erw [map_some, Option.some.injEq] at ev
      subst ev
      refine ⟨_, rfl, ?_⟩
      have hstep : ndd rl bs (rules.take (i + 1)) rules = (if torn rl (((ndd rl bs (rules.take i) rules).filter fun o => o != r) ++ bs) then (ndd rl bs (rules.take i) rules).filter fun o => o != r else ndd rl bs (rules.take i) rules) := by
        rw [take_add_one, er]
        unfold ndd
        rw [toList_some, foldl_append]; rfl
      have hkl : (ndd rl bs (rules.take i) rules).length ≤ rules.length := ndd_len
      have hks : ∀ k ∈ ndd rl bs (rules.take i) rules, k < rl.length := fun k hk => hs k (ndd_sub k hk)
      rw [hstep]
      generalize ndd rl bs (rules.take i) rules = kept at ek hkl hks
      simp! [b_needed_4]
      refine w_clst (W := kept) (a := ka) (h1 := h1) (fun o => o != r) (fun o => .int o) (fun Q q => by simp!; exact q) ek (by lia) ?_ ?_
      · intro o h2 ho p2
        have eb : (!((o : Int) == (r : Int))) = (o != r) := by
          show _ = !(o == r)
          congr 1
          rw [Bool.eq_iff_iff, beq_iff_eq, beq_iff_eq]; lia
        simp! [eb]
        exact ⟨pre_rfl, fun _ => pre_rfl⟩
      · intro h2 p2 e2
        have hfl : (kept.filter fun o => o != r).length ≤ kept.length := length_filter_le _ _
        have ad := q_addL (h := h2) e2 (pre_get (p1.trans p2) hb) (by simp; lia)
        rw [← map_append] at ad
        simp! [b_needed_3]
        rw [ad]
        have p3 : h2 <+: h2 ++ [AO.lst (iL ((kept.filter fun o => o != r) ++ bs))] := prefix_append _ _
        have e3 := get_new (h := h2) (o := AO.lst (iL ((kept.filter fun o => o != r) ++ bs)))
        generalize h2 ++ [AO.lst (iL ((kept.filter fun o => o != r) ++ bs))] = h3 at p3 e3
        refine c_is_torn (d := d) e3 (fun k hk => ?_) (by simp; lia) h64 fun h4 p4 => ?_
        · rcases mem_append.mp hk with z | z
          · exact hks k (mem_filter.mp z).1
          · exact hs2 k z
        · have P4 := p1.trans (p2.trans (p3.trans p4))
          simp!
          cases ht : torn rl ((kept.filter fun o => o != r) ++ bs) with
          | true =>
            simp! [b_needed_2]
            exact ⟨P4, _, _, _, pre_get (p3.trans p4) e2, rfl⟩
          | false =>
            simp!
            exact ⟨P4, _, _, _, pre_get (p2.trans (p3.trans p4)) ek, rfl⟩
  · rintro σ h1 ⟨p1, ka, x4, x5, ek, rfl⟩
    simp! [b_needed_1]
    rw [length_map, take_length] at ek
    exact q _ _ p1 ek
theorem torn_all {rl : List (Nat × Nat)} : torn rl (List.range rl.length) = (lvls rl).contains none := by
  unfold torn
  congr 2
  refine List.ext_getElem? fun i => ?_
  by_cases hi : i < rl.length
  · rw [getElem?_map, getElem?_range hi, getElem?_eq_getElem hi]
    show some (rl.getD i (0, 0)) = _
    rw [getD_eq_getElem?_getD, getElem?_eq_getElem hi]; rfl
  · rw [getElem?_eq_none (by simp; lia), getElem?_eq_none (by lia)]
theorem q_addT {rl : List (Nat × Nat)} {a b : Nat} (hl : rl.length ≤ 1000) : prim sb .add [.tup (rl.map rD), .tup [.tup [.int (a : Nat), .int (b : Nat)]]] h = some (.tup ((rl ++ [(a, b)]).map rD), h) := by
  show (if (rl.map rD).isEmpty then some (D.tup [rD (a, b)], h) else if (rl.map rD).length + [rD (a, b)].length ≤ lim then some (D.tup (rl.map rD ++ [rD (a, b)]), h) else none) = _
  rw [map_append]
  cases hr : rl with
  | nil => rfl
  | cons x L =>
    rw [← hr]
    rw [if_neg (by rw [hr]; simp), if_pos (by simp [lim]; lia)]; rfl
theorem c_follows {rl : List (Nat × Nat)} {a b p n : Nat} (hn : n ≤ 64) (hl : rl.length ≤ 90) (h64 : ∀ ab ∈ rl ++ [(b, a)], ab.1 < 2 ^ 64) (hw : (lvls rl).contains none = false) (q0 : a = 0 → b = 0 → ∀ h', h <+: h' → Q (.tup [.str (tx "never")]) h') (q1 : ¬ (a = 0 ∧ b = 0) → (lvls (rl ++ [(b, a)])).contains none = true → ∀ h', h <+: h' → Q (.tup [.str (tx "follows"), .tup (iL (ndd (rl ++ [(b, a)]) [rl.length] (List.range rl.length) (List.range rl.length)))]) h') (q2 : ¬ (a = 0 ∧ b = 0) → ∀ lv : List Nat, lvls (rl ++ [(b, a)]) = lv.map some → ∀ h', h <+: h' → Q (.tup [.str (tx "free"), .tup (rks lv (rl ++ [(b, a)]) p n)]) h') :
    wpCall sb P (d + 8) 9 [.tup [.int n, .int p, .tup (rl.map rD)], .int a, .int b] h Q E := by
  refine wp_call rfl rfl ?_
  have g0 : ∀ h, prim sb .idx [.tup [.int n, .int p, .tup (rl.map rD)], .int 0] h = some (.int n, h) := fun _ => rfl
  have g1 : ∀ h, prim sb .idx [.tup [.int n, .int p, .tup (rl.map rD)], .int 1] h = some (.int p, h) := fun _ => rfl
  have g2 : ∀ h, prim sb .idx [.tup [.int n, .int p, .tup (rl.map rD)], .int 2] h = some (.tup (rl.map rD), h) := fun _ => rfl
  have elr : prim sb .lrng [.int (rl.length : Nat)] h = some (.ref h.length, h ++ [.lst (iL (List.range rl.length))]) := q_lrng (by lia)
  simp! [b_follows_10, g2, length_map, elr, b_follows_9]
  have p1 : h <+: h ++ [AO.lst (iL (List.range rl.length))] := prefix_append _ _
  have e1 := get_new (h := h) (o := AO.lst (iL (List.range rl.length)))
  generalize h ++ [AO.lst (iL (List.range rl.length))] = h1 at p1 e1
  generalize h.length = ra at e1
  refine c_is_torn (d := d + 1) e1 (fun k hk => mem_range.mp hk) (by simp; lia) (fun ab hab => h64 ab (by simp [hab])) fun h2 p2 => ?_
  rw [torn_all, hw]
  simp! [b_follows_7]
  have rest : ¬ (a = 0 ∧ b = 0) → wpSs sb (wpCall sb P (d + 7)) E b_follows_5 { nx := fun x h => Q .non h, rt := Q } [some (.tup [.int n, .int p, .tup (rl.map rD)]), some (.int a), some (.int b), ↑ra, none, none] h2 := by
    intro hab
    simp! [b_follows_5, g0, g1, g2, q_addT (show rl.length ≤ 1000 by lia), b_follows_4]
    refine c_ranking (d := d + 1) hn (by simp; lia) h64 (fun hc h3 p3 => ?_) fun lv hlv h3 p3 => ?_
    · simp! [b_follows_3, b_follows_2, q_lenL (pre_get (p2.trans p3) e1), length_map, length_range]
      have e4 := get_new (h := h3) (o := AO.lst [D.int (rl.length : Nat)])
      have e5 := get_app (l := [AO.lst [D.int (rl.length : Nat)]]) (pre_get (p2.trans p3) e1)
      have p5 : h3 <+: h3 ++ [AO.lst [D.int (rl.length : Nat)]] := prefix_append _ _
      generalize h3 ++ [AO.lst [D.int (rl.length : Nat)]] = h4 at e4 e5 p5
      refine c_needed (d := d) (bs := [rl.length]) e5 e4 (fun k hk => ?_) (fun k hk => ?_) (by simp; lia) (by simp) h64 fun h5 r p6 e6 => ?_
      · have := mem_range.mp hk; simp; lia
      · rw [mem_singleton.mp hk]; simp
      · simp! [q_tupleL e6]
        exact q1 hab hc _ (p1.trans (p2.trans (p3.trans (p5.trans p6))))
    · simp! [b_follows_3, b_follows_1]
      exact q2 hab lv hlv _ (p1.trans (p2.trans p3))
  cases ha : ((a : Int) == 0) with
  | false =>
    simp!
    exact rest fun z => by rw [beq_eq_false_iff_ne] at ha; lia
  | true =>
    have ha0 : a = 0 := by rw [beq_iff_eq] at ha; lia
    simp!
    cases hb : ((b : Int) == 0) with
    | false =>
      simp!
      exact rest fun z => by rw [beq_eq_false_iff_ne] at hb; lia
    | true =>
      simp! [b_follows_6]
      exact q0 ha0 (by rw [beq_iff_eq] at hb; lia) _ (p1.trans p2)
def ST (S : List (Nat × Nat)) : Prop := ∀ ab ∈ S, ∀ w, ab.1.testBit w = true → ∃ cd, cd ∈ S ∧ cd.2.testBit w = true
theorem torn_iff {rl : List (Nat × Nat)} : (lvls rl).contains none = true ↔ ∃ S, S ≠ [] ∧ (∀ ab ∈ S, ab ∈ rl) ∧ ST S := by
  constructor
  · intro hc
    obtain ⟨left, lev, I, hg⟩ : ∃ left' lev', LvMin rl (lvls rl) left' lev' ∧ gone rl left' = [] := by
      refine run_min _ _ _ _ (by simp) ⟨⟨by simp, fun k => ?_, fun k l e => ?_, fun k l e => ?_⟩, fun l hl => by lia⟩
      · rw [rep_none, mem_range]
        exact ⟨fun h => ⟨h, rfl⟩, fun h => h.1⟩
      · rw [rep_none] at e; cases e
      · rw [rep_none] at e; cases e
    obtain ⟨k, hk⟩ := List.getElem?_of_mem (List.contains_iff_mem.mp hc)
    have hkd : (lvls rl).getD k none = none := by rw [getD_eq_getElem?_getD, hk]; rfl
    have hkl : k < rl.length := by rw [← I.ok.len]; exact (List.getElem?_eq_some_iff.mp hk).1
    have hkm : k ∈ left := (I.ok.lf k).mpr ⟨hkl, hkd⟩
    refine ⟨left.map fun k => rl.getD k (0, 0), fun z => ?_, fun ab hab => ?_, fun ab hab w hw => ?_⟩
    · rw [List.map_eq_nil_iff] at z
      rw [z] at hkm; simp at hkm
    · obtain ⟨j, hj, rfl⟩ := mem_map.mp hab
      have := ((I.ok.lf j).mp hj).1
      rw [getD_eq_getElem?_getD, getElem?_eq_getElem this]
      exact getElem_mem _
    · obtain ⟨j, hj, rfl⟩ := mem_map.mp hab
      have hlb : lb rl left j = 0 := by
        refine Decidable.by_contra fun hne => ?_
        have : j ∈ gone rl left := mem_filter.mpr ⟨hj, bne_iff_ne.mpr hne⟩
        rw [hg] at this
        simp at this
      obtain ⟨i, hi, hb⟩ := lb0 hlb hw
      exact ⟨_, mem_map.mpr ⟨i, hi, rfl⟩, hb⟩
  · rintro ⟨S, hne, hsub, hst⟩
    cases hc : (lvls rl).contains none with
    | true => rfl
    | false =>
      exfalso
      obtain ⟨lv, hlv⟩ := somes hc
      obtain ⟨_, _, I⟩ := lvls_ok rl
      rw [hlv] at I
      have key : ∀ (l : Nat) (ab : Nat × Nat) (k : Nat), ab ∈ S → rl[k]? = some ab → lv[k]? = some l → False := by
        intro l
        induction l using Nat.strongRecOn with
        | ind l ih =>
          intro ab k hab ek el
          obtain ⟨w, w1, w2⟩ := I.ok k l (by rw [getD_eq_getElem?_getD, getElem?_map, el]; rfl)
          rw [getD_rl ek] at w1
          obtain ⟨cd, hcd, hb⟩ := hst ab hab w w1
          obtain ⟨j, ej⟩ := List.getElem?_of_mem (hsub cd hcd)
          obtain ⟨l', hl', e'⟩ := w2 j (by rw [getD_rl ej]; exact hb)
          rw [getD_eq_getElem?_getD, getElem?_map] at e'
          cases ev : lv[j]? with
          | none => rw [ev] at e'; cases e'
          | some l2 =>
            rw [ev] at e'
            cases e'
            exact ih l' hl' cd j hcd ej ev
      obtain ⟨ab, hab⟩ := List.exists_mem_of_ne_nil S hne
      obtain ⟨k, ek⟩ := List.getElem?_of_mem (hsub ab hab)
      have hk : k < lv.length := by rw [lvlen hlv]; exact (List.getElem?_eq_some_iff.mp ek).1
      exact key lv[k] ab k hab ek (getElem?_eq_getElem hk)
theorem c_classes {cell : Int} {size : Nat} (hs : size ≤ 64) (q : ∀ h' r cl (f : Nat → Nat), h <+: h' → h'[r]'(iL cl) → 1 ≤ cl.length → cl.length ≤ 21 → (∀ w, f w < cl.length) → (∀ i, i < cl.length → ∀ w, (cl.getD i 0).testBit w = (decide (w < size) && decide (f w = i))) → Q (.ref r) h') : wpCall sb P (d + 2) 13 [.int cell, .int size] h Q E := by
  refine wp_call rfl rfl ?_
  simp! [b_law_classes_6]
  refine c_draw (by decide) ?_
  have h0 := emod_nonneg (draw cell 10) (show (3 : Int) ≠ 0 by decide)
  have h1 := emod_lt_of_pos (draw cell 10) (show (0 : Int) < 3 by decide)
  obtain ⟨mn, hm2, hm21, em⟩ : ∃ mn : Nat, 1 ≤ mn ∧ mn ≤ 21 ∧ atI [D.int 2, .int 4, .int 9] (draw cell 10 % 3) = some (.int mn) := by
    generalize draw cell 10 % 3 = z at h0 h1
    have hz : z = 0 ∨ z = 1 ∨ z = 2 := by lia
    rcases hz with rfl | rfl | rfl
    · exact ⟨2, by decide, by decide, rfl⟩
    · exact ⟨4, by decide, by decide, rfl⟩
    · exact ⟨9, by decide, by decide, rfl⟩
  simp! [q_idxL (a := h.length) get_new, em, b_law_classes_5]
  have p1 : h <+: h ++ [AO.lst [D.int 2, .int 4, .int 9]] := prefix_append _ _
  generalize h ++ [AO.lst [D.int 2, .int 4, .int 9]] = g1 at p1
  refine w_crng (n := mn) (h1 := g1) (fun _ => true) (fun _ => .int 0) (fun Q q => by simp!; exact q) (by lia) ?_ ?_
  · intro k h3 _ pr
    simp!
    exact ⟨pre_rfl, fun _ => pre_rfl⟩
  · intro h3 pr e
    have e' : h3[g1.length]'(iL (replicate mn 0)) := by
      rw [e, filter_eq_self.mpr (fun _ _ => rfl)]
      congr 2
      unfold iL
      rw [List.map_replicate, List.eq_replicate_iff]
      exact ⟨by simp, fun b hb => by obtain ⟨_, _, rfl⟩ := mem_map.mp hb; rfl⟩
    have hg := pre_len p1
    have pm : (0 : Int) < (mn : Int) := by lia
    have fl : ∀ w : Nat, (draw cell (20 + (w : Int)) % (mn : Int)).toNat < mn := fun w => by
      have f0 := emod_nonneg (draw cell (20 + (w : Int))) (show (mn : Int) ≠ 0 by lia)
      have f1 := emod_lt_of_pos (draw cell (20 + (w : Int))) pm
      lia
    simp! [b_law_classes_4]
    refine wp_rng (fun j σ h' => h <+: h' ∧ ∃ cl x4 x5, h'[g1.length]'(iL cl) ∧ cl.length = mn ∧ (∀ i, i < mn → ∀ w : Nat, (cl.getD i 0).testBit w = (decide (w < j) && decide ((draw cell (20 + (w : Int)) % (mn : Int)).toNat = i))) ∧ σ = [some (.int cell), some (.int size), some (.int mn), some (.ref g1.length), x4, x5]) (lo := 0) (n := size) (vs := [.int size]) (h1 := h3) (fun Q q => by simp!; exact q) (it_rng (by lia)) ⟨p1.trans pr, replicate mn 0, none, none, e', by simp, fun i hi w => by
      rw [getD_eq_getElem?_getD, getElem?_replicate, if_pos hi]
      show Nat.testBit 0 w = _
      rw [zero_testBit, decide_eq_false (by lia), Bool.false_and], rfl⟩ ?_ ?_
    · rintro i σ h4 hi ⟨p4, cl, x4, x5, ec, hcl, hb, rfl⟩
      refine ⟨_, rfl, ?_⟩
      rw [Int.zero_add]
      simp! [b_law_classes_3]
      refine c_draw (by lia) ?_
      have f0 := emod_nonneg (draw cell (20 + (i : Int))) (show (mn : Int) ≠ 0 by lia)
      obtain ⟨j, hj⟩ := eq_ofNat_of_zero_le f0
      have hjf := fl i
      rw [hj, toNat_natCast] at hjf
      have hjl : j < cl.length := by lia
      have ea : atI (iL cl) (j : Int) = some (.int (cl[j] : Nat)) := by rw [atI_lit, getElem?_map, getElem?_eq_getElem hjl]; rfl
      simp! [pm, hj, b_law_classes_2, q_idxL ec, ea, q_shl1 (show i ≤ 1000 by lia), bOr_nat, q_setN ec (show j < (iL cl).length by simpa using hjl)]
      refine ⟨pre_set p4 hg, cl.set j (cl[j] ||| 2 ^ i), _, _, ?_, by rw [length_set]; exact hcl, fun i' hi' w => ?_, rfl⟩
      · rw [getElem?_set_self (List.getElem?_eq_some_iff.mp ec).1]
        unfold iL
        rw [map_set]
      · have hb' := hb i' hi' w
        have ejd : cl.getD j 0 = cl[j] := by rw [getD_eq_getElem?_getD, getElem?_eq_getElem hjl]; rfl
        by_cases hij : i' = j
        · subst hij
          rw [getD_eq_getElem?_getD, getElem?_set_self hjl]
          show (cl[i'] ||| 2 ^ i).testBit w = _
          rw [← ejd, testBit_or, hb', Nat.testBit_two_pow]
          by_cases hwi : i = w
          · subst hwi
            rw [decide_eq_true (show i < i + 1 by lia), hj, toNat_natCast]
            simp
          · rw [decide_eq_false hwi, Bool.or_false]
            congr 1
            rw [Bool.eq_iff_iff, decide_eq_true_iff, decide_eq_true_iff]; lia
        · rw [getD_eq_getElem?_getD, getElem?_set_ne (fun z => hij z.symm), ← getD_eq_getElem?_getD, hb']
          by_cases hwi : w = i
          · subst hwi
            rw [hj, toNat_natCast, decide_eq_false (show ¬ j = i' from fun z => hij z.symm), Bool.and_false, Bool.and_false]
          · congr 1
            rw [Bool.eq_iff_iff, decide_eq_true_iff, decide_eq_true_iff]; lia
    · rintro σ h4 ⟨p4, cl, x4, x5, ec, hcl, hb, rfl⟩
      simp! [b_law_classes_1]
      exact q h4 _ cl (fun w => (draw cell (20 + (w : Int)) % (mn : Int)).toNat) p4 ec (by lia) (by lia) (fun w => by rw [hcl]; exact fl w) (fun i hi w => hb i (by lia) w)
theorem sub2 (n : Nat) : ((2 ^ n : Nat) : Int) - 1 = ((2 ^ n - 1 : Nat) : Int) := by have := pos2 n; lia
theorem sub_lt {a p n : Nat} (s : Sub a p) (hp : p < 2 ^ n) : a < 2 ^ n := by
  refine Nat.lt_pow_two_of_testBit a fun i hi => ?_
  cases ha : a.testBit i with
  | false => rfl
  | true => exact absurd (lt_of_bit hp (s i ha)) (by lia)
def orL (L : List (Nat × Nat)) : Nat := L.foldl (fun b ab => b ||| ab.2) 0
theorem orL_bit (w : Nat) : ∀ (L : List (Nat × Nat)) (b : Nat), (L.foldl (fun b ab => b ||| ab.2) b).testBit w = (b.testBit w || L.any fun ab => ab.2.testBit w)
  | [], b => by simp
  | ab :: L, b => by rw [foldl_cons, orL_bit w L, testBit_or, any_cons, Bool.or_assoc]
theorem clr_orL {L : List (Nat × Nat)} {a : Nat} : clr a (orL L) = 0 ↔ ∀ w, a.testBit w = true → ∃ cd, cd ∈ L ∧ cd.2.testBit w = true := by
  constructor
  · intro hz w hw
    have : (clr a (orL L)).testBit w = false := by rw [hz]; exact zero_testBit w
    rw [clr_bit, hw, Bool.true_and, orL, orL_bit, zero_testBit, Bool.false_or] at this
    have h2 : (L.any fun ab => ab.2.testBit w) = true := by simpa using this
    obtain ⟨cd, hcd, hb⟩ := any_eq_true.mp h2
    exact ⟨cd, hcd, hb⟩
  · intro h
    refine Nat.eq_of_testBit_eq fun w => ?_
    rw [zero_testBit, clr_bit]
    cases hw : a.testBit w with
    | false => rfl
    | true =>
      obtain ⟨cd, hcd, hb⟩ := h w hw
      have : (orL L).testBit w = true := by
        rw [orL, orL_bit, any_eq_true.mpr ⟨cd, hcd, hb⟩, Bool.or_true]
      rw [this]; rfl
theorem c_left {rl : List (Nat × Nat)} (hl : rl.length ≤ 1000) (q : ∀ h' r (L : List (Nat × Nat)), h <+: h' → h'[r]'(L.map rD) → L.isEmpty = !((lvls rl).contains none) → Q (.ref r) h') :
    wpCall sb P (d + 1) 17 [.tup (rl.map rD)] h Q E := by
  refine wp_call rfl rfl ?_
  have hl' : (rl.map rD).length ≤ 16777216 := by simp; lia
  have qT : ∀ h : AH, prim sb .list_ [.tup (rl.map rD)] h = some (.ref h.length, h ++ [.lst (rl.map rD)]) := fun h => by
    show ((seqOf h (.tup (rl.map rD))).bind fun xs => newL xs h) = _
    erw [seqOf, bind_some]
    exact if_pos hl'
  simp! [b_law_left_9, qT, b_law_left_8, b_law_left_7]
  have e1 : (h ++ [AO.lst (rl.map rD)] ++ [AO.lst (rl.map rD)])[h.length]'(rl.map rD) := get_app get_new
  have e2 : (h ++ [AO.lst (rl.map rD)] ++ [AO.lst (rl.map rD)])[(h ++ [AO.lst (rl.map rD)]).length]'(rl.map rD) := get_new
  have p1 : h <+: h ++ [AO.lst (rl.map rD)] ++ [AO.lst (rl.map rD)] := pre_app (prefix_append _ _)
  generalize h ++ [AO.lst (rl.map rD)] ++ [AO.lst (rl.map rD)] = h1 at e1 e2 p1
  generalize h.length = la at e1
  generalize (h ++ [AO.lst (rl.map rD)]).length = oa at e2
  have fin : ∀ L : List (Nat × Nat), (∀ ab ∈ L, ab ∈ rl) → (∀ S, (∀ ab ∈ S, ab ∈ rl) → ST S → ∀ ab ∈ S, ab ∈ L) → ST L → L.isEmpty = !((lvls rl).contains none) := by
    intro L hsub hS hst
    cases hc : (lvls rl).contains none with
    | true =>
      obtain ⟨S, hne, h1, h2⟩ := torn_iff.mp hc
      obtain ⟨ab, hab⟩ := List.exists_mem_of_ne_nil S hne
      have := hS S h1 h2 ab hab
      cases L with
      | nil => simp at this
      | cons => rfl
    | false =>
      cases hL : L with
      | nil => rfl
      | cons x L' =>
        have : (lvls rl).contains none = true := torn_iff.mpr ⟨L, by rw [hL]; simp, hsub, hst⟩
        rw [hc] at this; cases this
  refine wp_whileC (fun m σ h' => h <+: h' ∧ ∃ la oa L O x3 x4, h'[la]'(L.map rD) ∧ h'[oa]'(O.map rD) ∧ L.length ≤ rl.length ∧ m = L.length + (if O.isEmpty then 0 else 1) ∧ (∀ ab ∈ L, ab ∈ rl) ∧ (∀ S, (∀ ab ∈ S, ab ∈ rl) → ST S → ∀ ab ∈ S, ab ∈ L) ∧ (O.isEmpty = true → ST L) ∧ σ = [some (.tup (rl.map rD)), ↑la, ↑oa, x3, x4]) (m := rl.length + (if rl.isEmpty then 0 else 1))
    ⟨p1, la, oa, rl, rl, none, none, e1, e2, le_refl _, rfl, fun _ z => z, fun S h _ ab hab => h ab hab, fun z => by
      have : rl = [] := by simpa using z
      subst this
      intro ab hab; simp at hab, rfl⟩ ?_
  rintro m σ h2 ⟨p2, la, oa, L, O, x3, x4, eL, eO, hLl, rfl, hsub, hS, hST, rfl⟩
  have ie : ∀ l : List (Nat × Nat), (l.map rD).isEmpty = l.isEmpty := fun l => by cases l <;> rfl
  simp! [eqH_lst (get_app eO) get_new, eqLs_nil, ie]
  have p3 := pre_app (l := [AO.lst []]) p2
  have eL3 := get_app (l := [AO.lst []]) eL
  generalize h2 ++ [AO.lst []] = h3 at p3 eL3
  cases hO : O.isEmpty with
  | true =>
    simp! [b_law_left_1]
    exact q _ _ L p3 eL3 (fin L hsub hS (hST hO))
  | false =>
    simp! [b_law_left_6, b_law_left_5]
    refine wp_for (xs := L.map rD) (J := itList la) (vs := [.ref la]) (h1 := h3) (fun j σ h' => h' = h3 ∧ ∃ x4, σ = [some (.tup (rl.map rD)), ↑la, ↑oa, some (.int (orL (L.take j) : Nat)), x4]) (fun Q q => by simp!; exact q) (it_lst eL3) ⟨rfl, x4, rfl⟩ ?_ ?_ ?_
    · rintro i σ h' _ ⟨rfl, _⟩
      erw [itList, eL3]
    · rintro i v σ h' ev ⟨rfl, x4, rfl⟩
      rw [getElem?_map] at ev
      cases er : L[i]? with
      | none => rw [er] at ev; cases ev
      | some ab =>
        rw [er] at ev
        erw [map_some, Option.some.injEq] at ev
        subst ev
        refine ⟨_, rfl, ?_⟩
        simp! [b_law_left_4, rd1, bOr_nat]
        refine ⟨some (rD ab), ?_⟩
        rw [take_add_one, er, toList_some, orL, orL, foldl_append]; rfl
    · rintro σ h' ⟨rfl, x4, rfl⟩
      rw [length_map, take_length]
      simp! [b_law_left_3]
      have pr : ∀ (b : Bool) (k v h2), (L.map rD)[k]? = some v → h' <+: h2 → ∃ ab, v = rD ab ∧ ab ∈ L := fun _ k v h2 ev _ => by
        obtain ⟨ab, hab, rfl⟩ := mem_map.mp (mem_of_getElem? ev)
        exact ⟨ab, rfl, hab⟩
      refine wp_comp (xs := L.map rD) (vs := [.ref la]) (h1 := h') (J := itList la) (fun v => match v with | .tup [.int a, _] => !(((clr a.toNat (orL L) : Nat) : Int) == 0) | _ => false) (fun v => v) (fun Q q => by simp!; exact q) (it_lst eL3) (by simp; lia) (fun i h'' pp => it_lst_at eL3 pp i) ?_ ?_
      · intro k v h4 ev p4
        obtain ⟨ab, rfl, hab⟩ := pr true k v h4 ev p4
        refine ⟨_, rfl, ?_⟩
        simp! [rd0, bAnd_inv]
        exact ⟨rfl, pre_rfl, fun _ => pre_rfl⟩
      · intro h4 p4 e4
        have eO4 : h4[h'.length]'((L.filter fun ab => !(((clr ab.1 (orL L) : Nat) : Int) == 0)).map rD) := by
          rw [e4, map_id', filter_map]; rfl
        generalize h'.length = oa' at eO4
        simp! [b_law_left_2]
        refine wp_comp (xs := L.map rD) (vs := [.ref la]) (h1 := h4) (J := itList la) (fun v => match v with | .tup [.int a, _] => (((clr a.toNat (orL L) : Nat) : Int) == 0) | _ => false) (fun v => v) (fun Q q => by simp!; exact q) (it_lst (pre_get p4 eL3)) (by simp; lia) (fun i h'' pp => it_lst_at (pre_get p4 eL3) pp i) ?_ ?_
        · intro k v h5 ev p5
          obtain ⟨ab, rfl, hab⟩ := pr true k v h5 ev (p4.trans p5)
          refine ⟨_, rfl, ?_⟩
          simp! [rd0, bAnd_inv]
          exact ⟨rfl, pre_rfl, fun _ => pre_rfl⟩
        · intro h5 p5 e5
          have eL5 : h5[h4.length]'((L.filter fun ab => (((clr ab.1 (orL L) : Nat) : Int) == 0)).map rD) := by
            rw [e5, map_id', filter_map]; rfl
          have z0 : ∀ ab : Nat × Nat, (((clr ab.1 (orL L) : Nat) : Int) == 0) = true ↔ clr ab.1 (orL L) = 0 := fun ab => by rw [beq_iff_eq]; lia
          have hO' : (L.filter fun ab => !(((clr ab.1 (orL L) : Nat) : Int) == 0)).isEmpty = true → L.filter (fun ab => (((clr ab.1 (orL L) : Nat) : Int) == 0)) = L ∧ ST L := fun he => by
            have hn : ∀ ab ∈ L, (((clr ab.1 (orL L) : Nat) : Int) == 0) = true := fun ab hab => by
              have he' : (L.filter fun ab => !(((clr ab.1 (orL L) : Nat) : Int) == 0)) = [] := by simpa using he
              have := List.filter_eq_nil_iff.mp he' ab hab
              simpa using this
            exact ⟨filter_eq_self.mpr hn, fun ab hab => clr_orL.mp ((z0 ab).mp (hn ab hab))⟩
          refine ⟨_, ?_, p3.trans (p4.trans p5), h4.length, oa', L.filter fun ab => (((clr ab.1 (orL L) : Nat) : Int) == 0), L.filter fun ab => !(((clr ab.1 (orL L) : Nat) : Int) == 0), _, _, eL5, pre_get p5 eO4, le_trans (length_filter_le _ _) hLl, rfl, fun ab hab => hsub ab (mem_filter.mp hab).1, fun S h1 h2 ab hab => mem_filter.mpr ⟨hS S h1 h2 ab hab, (z0 ab).mpr (clr_orL.mpr fun w hw => ?_)⟩, fun he => ?_, rfl⟩
          · cases he : (L.filter fun ab => !(((clr ab.1 (orL L) : Nat) : Int) == 0)).isEmpty with
            | true =>
              rw [if_pos rfl, (hO' he).1]; lia
            | false =>
              have : (L.filter fun ab => (((clr ab.1 (orL L) : Nat) : Int) == 0)).length < L.length := by
                cases hf : (L.filter fun ab => !(((clr ab.1 (orL L) : Nat) : Int) == 0)) with
                | nil => rw [hf] at he; cases he
                | cons x X =>
                  have hx : x ∈ L.filter fun ab => !(((clr ab.1 (orL L) : Nat) : Int) == 0) := by rw [hf]; simp
                  obtain ⟨m1, m2⟩ := mem_filter.mp hx
                  refine List.length_filter_lt_length_iff_exists.mpr ⟨x, m1, ?_⟩
                  simpa using m2
              rw [if_neg (by decide)]
              lia
          · obtain ⟨cd, hcd, hb⟩ := h2 ab hab w hw
            exact ⟨cd, hS S h1 h2 cd hcd, hb⟩
          · rw [(hO' he).1]; exact (hO' he).2
theorem g_raisC {c : S} {Γ : Gam} {K : En} {σ : Lo} : wpS sb Γ E (.raisC c) K σ h = E (.str c) h := by erw [wpS]
theorem g_tryA {i f j : Nat} {c : S} {es : Exs} {hs : Sms} {Γ : Gam} {K : En} {σ : Lo} : wpS sb Γ E (.tryA i f es c j hs) K σ h = wpEs sb Γ E es σ h fun vs h1 => Γ f vs h1 (fun v h2 => K.nx (σ.set i (some v)) h2) fun x h2 => x = .str c ∧ wpSs sb Γ E hs { nx := fun σ' h' => K.nx (σ'.set j none) h', rt := K.rt, bk := fun σ' h' => K.bk (σ'.set j none) h', ct := fun σ' h' => K.ct (σ'.set j none) h' } (σ.set j (some (.ref h2.length))) (h2 ++ [.exc c]) := by erw [wpS]
theorem q_isEy {c : S} {n : Nat} (e : h[n]? = some (.exc c)) : prim sb (.isE [c] []) [.ref n] h = some (.bl true, h) := by
  show pIsE [c] [] [.ref n] h = _
  erw [pIsE, e]
  exact if_pos (by simp)
theorem q_isEn {c : S} {n : Nat} (e : h[n]? = some (.exc c)) : prim sb (.isE [] [c]) [.ref n] h = some (.bl false, h) := by
  show pIsE [] [c] [.ref n] h = _
  erw [pIsE, e]
  exact (if_neg (by simp)).trans (if_pos (by simp))
theorem c_rule {cell : Int} {n p ca : Nat} {cl : List Nat} (ec : h[ca]'(iL cl)) (hn : n ≤ 64) (q : ∀ a b, Sub a p → Sub b p → Q (rD (a, b)) h) : wpCall sb P (d + 3) 14 [.int cell, .int p, .ref ca, .int n] h Q E := by
  refine wp_call rfl rfl ?_
  simp! [b_law_rule_10]
  refine c_mask (by decide) hn fun m1 _ => ?_
  simp! [bAnd_nat, b_law_rule_9]
  refine c_draw (by decide) ?_
  have rest : ∀ s : Nat, Sub s p → wpSs sb (wpCall sb P (d + 2)) E b_law_rule_7 { nx := fun x h => Q .non h, rt := Q } [some (.int cell), some (.int p), ↑ca, some (.int n), some (.int (s : Nat)), none, none, none, none] h := by
    intro s hs
    simp! [b_law_rule_7]
    refine c_mask (by decide) hn fun m8 _ => ?_
    simp! [b_law_rule_6]
    refine wp_for (xs := iL cl) (J := itList ca) (vs := [.ref ca]) (h1 := h) (fun i σ h'' => h'' = h ∧ ∃ x6 x7, σ = [some (.int cell), some (.int p), ↑ca, some (.int n), some (.int s), some (.int m8), x6, x7, none]) (fun Q q => by simp!; exact q) (it_lst ec) ⟨rfl, none, none, rfl⟩ ?_ ?_ ?_
    · rintro i σ h'' _ ⟨rfl, _⟩
      erw [itList, ec]
    · rintro i v σ h'' ev ⟨rfl, x6, x7, rfl⟩
      rw [getElem?_map] at ev
      cases eg : cl[i]? with
      | none => rw [eg] at ev; cases ev
      | some g =>
        rw [eg] at ev
        erw [map_some, Option.some.injEq] at ev
        subst ev
        refine ⟨_, rfl, ?_⟩
        simp! [b_law_rule_5, bAnd_nat, b_law_rule_4]
        cases hb : (((s &&& g : Nat) : Int) == 0) with
        | true =>
          simp!
          exact ⟨_, _, rfl⟩
        | false =>
          have er : (s : Int) - ((s &&& g : Nat) : Int) = ((clr s g : Nat) : Int) := by
            have : s &&& g ≤ s := Nat.and_le_left
            unfold clr; lia
          simp! [b_law_rule_3, er, b_law_rule_2, bAnd_nat, bOr_nat, bAnd_inv]
          refine c_mask (by decide) hn fun m13 _ => ?_
          simp! [bAnd_inv]
          exact q _ _ (sub_or (sub_and hs) (sub_and (sub_clr hs))) (sub_clr (sub_clr (sub_clr hs)))
    · rintro σ h'' ⟨rfl, x6, x7, rfl⟩
      simp! [b_law_rule_1]
      exact q p 0 sub_self sub_zero
  simp!
  cases decide (0 < draw cell 4 % 3) with
  | true =>
    simp! [b_law_rule_8]
    refine c_mask (by decide) hn fun m5 _ => ?_
    simp! [bAnd_nat]
    exact rest _ (sub_and (sub_and sub_self))
  | false =>
    simp!
    exact rest _ (sub_and sub_self)
theorem pick4 {a b c e : D} {z : Int} : ∃ v, (v = a ∨ v = b ∨ v = c ∨ v = e) ∧ atI [a, b, c, e] (z % 4) = some v := by
  have h0 := emod_nonneg z (show (4 : Int) ≠ 0 by decide)
  have h1 := emod_lt_of_pos z (show (0 : Int) < 4 by decide)
  generalize z % 4 = y at h0 h1
  have hy : y = 0 ∨ y = 1 ∨ y = 2 ∨ y = 3 := by lia
  rcases hy with rfl | rfl | rfl | rfl
  · exact ⟨a, .inl rfl, rfl⟩
  · exact ⟨b, .inr (.inl rfl), rfl⟩
  · exact ⟨c, .inr (.inr (.inl rfl)), rfl⟩
  · exact ⟨e, .inr (.inr (.inr rfl)), rfl⟩
theorem c_wild {cell : Int} {n p la : Nat} {rl : List (Nat × Nat)} (el : h[la]'(rl.map rD)) (hn : n ≤ 64) (hs : ∀ ab ∈ rl, Sub ab.1 p ∧ Sub ab.2 p) (q : ∀ h' a b, h <+: h' → Sub a p → Sub b p → Q (rD (a, b)) h') : wpCall sb P (d + 3) 15 [.int cell, .int p, .ref la, .int n] h Q E := by
  refine wp_call rfl rfl ?_
  simp! [b_law_wild_7]
  refine c_mask (by decide) hn fun m1 _ => ?_
  simp! [bAnd_nat, b_law_wild_6]
  refine c_mask (by decide) hn fun m8 _ => ?_
  simp! [b_law_wild_5]
  refine c_draw (by decide) ?_
  simp! [b_law_wild_4]
  generalize draw cell 16 % 8 = kd
  have s1 : Sub (p &&& m1) p := sub_and sub_self
  generalize p &&& m1 = s at s1
  have rest : ∀ g, h <+: g → wpSs sb (wpCall sb P (d + 2)) E b_law_wild_1 { nx := fun x h => Q .non h, rt := Q } [some (.int cell), some (.int p), ↑la, some (.int n), some (.int (s : Nat)), some (.int (m8 : Nat)), some (.int kd), none, none] g := by
    intro g pg
    obtain ⟨v, hv, ev⟩ := @pick4 (rD (0, s)) (rD (s, 0)) (rD (0, 0)) (rD (s &&& m8, clr s m8)) kd
    have ev' : atI [Z.D.tup [.int 0, .int (s : Nat)], .tup [.int (s : Nat), .int 0], .tup [.int 0, .int 0], .tup [.int ((s &&& m8 : Nat) : Int), .int ((clr s m8 : Nat) : Int)]] (kd % 4) = some v := ev
    simp! [b_law_wild_1, bAnd_nat, bAnd_inv, q_idxL (a := g.length) get_new, ev']
    have pg' := pre_app (l := [AO.lst [Z.D.tup [.int 0, .int (s : Nat)], .tup [.int (s : Nat), .int 0], .tup [.int 0, .int 0], .tup [.int ((s &&& m8 : Nat) : Int), .int ((clr s m8 : Nat) : Int)]]]) pg
    rcases hv with rfl | rfl | rfl | rfl
    · exact q _ _ _ pg' sub_zero s1
    · exact q _ _ _ pg' s1 sub_zero
    · exact q _ _ _ pg' sub_zero sub_zero
    · exact q _ _ _ pg' (sub_and s1) (sub_clr s1)
  cases decide (kd < 4) with
  | false =>
    simp!
    exact rest _ pre_rfl
  | true =>
    have ie : (rl.map rD).isEmpty = rl.isEmpty := by cases rl <;> rfl
    simp! [eqH_lst (get_app el) get_new, eqLs_nil, ie]
    have pe : h <+: h ++ [AO.lst []] := prefix_append _ _
    have el2 := get_app (l := [AO.lst []]) el
    generalize h ++ [AO.lst []] = g at pe el2
    cases hE : rl.isEmpty with
    | true =>
      simp!
      exact rest _ pe
    | false =>
      have hl0 : (0 : Int) < ((rl.length : Nat) : Int) := by
        cases rl with
        | nil => cases hE
        | cons => simp
      simp! [b_law_wild_3]
      refine c_draw (by decide) ?_
      have g0 := emod_nonneg (draw cell 17) (show ((rl.length : Nat) : Int) ≠ 0 by lia)
      have g1 := emod_lt_of_pos (draw cell 17) hl0
      obtain ⟨j, hj⟩ := eq_ofNat_of_zero_le g0
      rw [hj] at g1
      have hjl : j < rl.length := by lia
      simp! [q_lenL el2, length_map, hl0, hj, q_idxL el2, rul_at hjl]
      have hm : rl.getD j (0, 0) ∈ rl := by rw [getD_eq_getElem?_getD, getElem?_eq_getElem hjl]; exact getElem_mem _
      obtain ⟨sa, sb'⟩ := hs _ hm
      generalize rl.getD j (0, 0) = ab at sa sb'
      have bt : ∀ σ : Lo, bindT [7, 8] (rD ab) σ = some ((σ.set 7 (some (.int ab.1))).set 8 (some (.int ab.2))) := fun _ => rfl
      simp! [bt, b_law_wild_2]
      exact q _ _ _ pe sb' sa
structure FH (cl : List Nat) (cells : List D) (rl : List (Nat × Nat)) (p ca la lb : Nat) (h : AH) : Prop where
  c : h[ca]'(iL cl)
  l : h[la]'(rl.map rD)
  b : h[lb]'cells
  n1 : la ≠ ca
  n2 : la ≠ lb
  m : rl.length ≤ 20
  s : ∀ ab ∈ rl, Sub ab.1 p ∧ Sub ab.2 p
theorem FH.pre {cl : List Nat} {cells : List D} {rl : List (Nat × Nat)} {p ca la lb : Nat} {h h' : AH} (I : FH cl cells rl p ca la lb h) (pr : h <+: h') : FH cl cells rl p ca la lb h' := ⟨pre_get pr I.c, pre_get pr I.l, pre_get pr I.b, I.n1, I.n2, I.m, I.s⟩
theorem f_put {cl : List Nat} {cells : List D} {rl : List (Nat × Nat)} {p ca la lb a b : Nat} {cell : Int} {K : En} {v0 v1 v2 v3 v4 v5 : Option D} (I : FH cl cells rl p ca la lb h) (sa : Sub a p) (sb' : Sub b p) (q : ∀ h' rl', FH cl cells rl' p ca la lb h' → K.nx [v0, v1, v2, v3, v4, v5, ↑la, some (.int cell), some (rD (a, b))] h') :
    wpSs sb (wpCall sb P d) E b_law_frame_4 K [v0, v1, v2, v3, v4, v5, ↑la, some (.int cell), some (rD (a, b))] h := by
  have hm := I.m
  simp! [b_law_frame_4, q_lenL I.l, length_map]
  by_cases e : (rl.length : Int) < 20
  · rw [decide_eq_true e, if_pos rfl]
    simp! [b_law_frame_2, y_lst I.l, p_app I.l (show (rl.map rD).length < 16777216 by simp; lia)]
    refine q _ (rl ++ [(a, b)]) ⟨?_, ?_, ?_, I.n1, I.n2, by simp; lia, ?_⟩
    · rw [getElem?_set_ne I.n1]; exact I.c
    · rw [getElem?_set_self (List.getElem?_eq_some_iff.mp I.l).1, map_append]; rfl
    · rw [getElem?_set_ne I.n2]; exact I.b
    · intro ab hab
      rcases mem_append.mp hab with z | z
      · exact I.s ab z
      · rw [mem_singleton.mp z]; exact ⟨sa, sb'⟩
  · rw [decide_eq_false e, if_neg (by decide)]
    have f0 := emod_nonneg cell (show (20 : Int) ≠ 0 by decide)
    have f1 := emod_lt_of_pos cell (show (0 : Int) < 20 by decide)
    obtain ⟨j, hj⟩ := eq_ofNat_of_zero_le f0
    rw [hj] at f1
    simp! [b_law_frame_3, hj, q_setN I.l (show j < (rl.map rD).length by simp; lia)]
    refine q _ (rl.set j (a, b)) ⟨?_, ?_, ?_, I.n1, I.n2, by rw [length_set]; exact hm, ?_⟩
    · rw [getElem?_set_ne I.n1]; exact I.c
    · rw [getElem?_set_self (List.getElem?_eq_some_iff.mp I.l).1, map_set]
    · rw [getElem?_set_ne I.n2]; exact I.b
    · intro ab hab
      rcases List.mem_or_eq_of_mem_set hab with z | z
      · exact I.s ab z
      · rw [z]; exact ⟨sa, sb'⟩
theorem f_go {ns : List Int} {c : Int} {n p : Nat} (hl : ns.length ≤ 63) (hn : n ≤ 64) (q : ∀ h' (rl : List (Nat × Nat)), rl.length ≤ 20 → (∀ ab ∈ rl, Sub ab.1 p ∧ Sub ab.2 p) → Q (.tup [.int n, .int p, .tup (rl.map rD)]) h') :
    wpSs sb (wpCall sb P (d + 4)) E b_law_frame_11 { nx := fun x h => Q .non h, rt := Q } [some (.rol (ns.map .int)), some (.int c), some (.int n), some (.int p), none, none, none, none, none] h := by
  simp! [b_law_frame_11]
  refine c_classes (d := d + 2) hn fun h1 ca cl f p1 ec _ _ hf hb => ?_
  simp! [b_law_frame_10]
  refine c_draw (d := d + 3) (by decide) ?_
  simp! [b_law_frame_9, b_law_frame_8]
  generalize decide (0 < draw c 11 % 3) = wd
  have hcl3 : (cut (ns.map Z.D.int) (some 2) (some 92)).length ≤ 63 := le_trans cut_len (by simpa using hl)
  have el : (h1 ++ [AO.lst []]).length = h1.length + 1 := by simp
  have clt : ca < h1.length := (List.getElem?_eq_some_iff.mp ec).1
  refine wp_for (xs := cut (ns.map Z.D.int) (some 2) (some 92)) (J := itList (h1.length + 1)) (vs := [.ref (h1.length + 1)]) (h1 := (h1 ++ [.lst []]) ++ [.lst (cut (ns.map Z.D.int) (some 2) (some 92))])
    (fun _ σ h' => ∃ rl x7 x8, FH cl (cut (ns.map Z.D.int) (some 2) (some 92)) rl p ca h1.length (h1.length + 1) h' ∧ σ = [some (.rol (ns.map .int)), some (.int c), some (.int n), some (.int p), ↑ca, some (.bl wd), some (.ref h1.length), x7, x8])
    ?_ (it_lst (by rw [← el]; exact get_new)) ⟨[], none, none, ⟨get_app (get_app ec), get_app get_new, by rw [← el]; exact get_new, by lia, by lia, by simp, fun ab hab => by simp at hab⟩, rfl⟩ ?_ ?_ ?_
  · intro Q q
    simp! [sl_rol (show (ns.map Z.D.int).length ≤ 16777216 by simp; lia), el]
    exact q
  · rintro i σ h' _ ⟨rl, _, _, I, _⟩
    erw [itList, I.b]
  · rintro i v σ h5 ev ⟨rl, x7, x8, I, rfl⟩
    obtain ⟨cell, _, rfl⟩ := mem_map.mp (cut_mem (mem_of_getElem? ev))
    refine ⟨_, rfl, ?_⟩
    simp! [b_law_frame_7]
    refine c_rule (d := d + 1) I.c hn fun a b sa sb' => ?_
    simp! [b_law_frame_6]
    cases wd with
    | false =>
      simp!
      exact f_put I sa sb' fun h' rl' I' => ⟨rl', _, _, I', rfl⟩
    | true =>
      simp!
      refine c_draw (d := d + 3) (by decide) ?_
      simp!
      cases (draw cell 18 % 5 == 1) with
      | false =>
        simp!
        exact f_put I sa sb' fun h' rl' I' => ⟨rl', _, _, I', rfl⟩
      | true =>
        simp! [b_law_frame_5]
        refine c_wild (d := d + 1) I.l hn I.s fun h6 a b p6 sa sb' => ?_
        exact f_put (I.pre p6) sa sb' fun h' rl' I' => ⟨rl', _, _, I', rfl⟩
  · rintro σ h5 ⟨rl, x7, x8, I, rfl⟩
    simp! [b_law_frame_1, q_tupleL I.l]
    exact q _ rl I.m I.s
theorem c_frame {ns : List Int} (hl : ns.length ≤ 63) (q : ∀ h' (n p : Nat) (rl : List (Nat × Nat)), n ≤ 64 → p < 2 ^ n → rl.length ≤ 20 → (∀ ab ∈ rl, Sub ab.1 p ∧ Sub ab.2 p) → Q (.tup [.int n, .int p, .tup (rl.map rD)]) h') : wpCall sb P (d + 5) 16 [.rol (ns.map .int)] h Q E := by
  refine wp_call rfl rfl ?_
  simp! [b_law_frame_20]
  refine c_cell (d := d + 3) (by decide) fun c => ?_
  simp! [b_law_frame_19]
  refine c_draw (d := d + 3) (by decide) ?_
  have b1 := emod_nonneg (draw c 0) (show (64 : Int) ≠ 0 by decide)
  have b2 := emod_lt_of_pos (draw c 0) (show (0 : Int) < 64 by decide)
  simp! [b_law_frame_18]
  refine c_draw (d := d + 3) (by decide) ?_
  obtain ⟨n, hn⟩ := eq_ofNat_of_zero_le b1
  rw [hn] at b2
  have e1 : (1 : Int) + (n : Int) = ((1 + n : Nat) : Int) := by lia
  simp! [hn, e1]
  have r13 : ∀ n p : Nat, 1 ≤ n → n ≤ 64 → p < 2 ^ n → wpSs sb (wpCall sb P (d + 4)) E b_law_frame_13 { nx := fun x h => Q .non h, rt := Q } [some (.rol (ns.map .int)), some (.int c), some (.int n), some (.int p), none, none, none, none, none] h := by
    intro n p hn1 hn hp
    simp! [b_law_frame_13]
    refine c_draw (d := d + 3) (by decide) ?_
    simp!
    cases (draw c 2 % 15 == 2) with
    | true =>
      simp! [b_law_frame_12]
      exact f_go (p := 0) hl hn fun h' rl a b => q h' n 0 rl hn (by lia) a b
    | false =>
      simp!
      exact f_go hl hn fun h' rl a b => q h' n p rl hn hp a b
  have rest : ∀ n : Nat, 1 ≤ n → n ≤ 64 → wpSs sb (wpCall sb P (d + 4)) E b_law_frame_16 { nx := fun x h => Q .non h, rt := Q } [some (.rol (ns.map .int)), some (.int c), some (.int n), none, none, none, none, none, none] h := by
    intro n hn1 hn
    have h2 : 2 ≤ 2 ^ n := by
      have : 2 ^ 1 ≤ 2 ^ n := pow_le_pow_right (by decide) hn1
      lia
    simp! [b_law_frame_16, q_shl1 (show n ≤ 1000 by lia), sub2, b_law_frame_15]
    refine c_draw (d := d + 3) (by decide) ?_
    simp!
    cases (draw c 2 % 3 == 1) with
    | true =>
      simp! [b_law_frame_14]
      refine c_mask (d := d + 2) (by decide) hn fun m hm => ?_
      exact r13 n m hn1 hn hm
    | false =>
      simp!
      exact r13 n _ hn1 hn (by lia)
  cases (draw c 1 % 6 == 4) with
  | true => simp! [b_law_frame_17]; exact rest 64 (by decide) (by decide)
  | false => simp!; exact rest (1 + n) (by lia) (by lia)
theorem h64_of {rl : List (Nat × Nat)} {p n : Nat} (hn : n ≤ 64) (hp : p < 2 ^ n) (hs : ∀ ab ∈ rl, Sub ab.1 p ∧ Sub ab.2 p) : ∀ ab ∈ rl, ab.1 < 2 ^ 64 := fun ab hab =>
  lt_of_lt_of_le (sub_lt (hs ab hab).1 hp) (pow_le_pow_right (by decide) hn)
theorem sub_snoc {rl : List (Nat × Nat)} {p a b : Nat} (hs : ∀ ab ∈ rl, Sub ab.1 p ∧ Sub ab.2 p) (sa : Sub a p) (sb' : Sub b p) : ∀ ab ∈ rl ++ [(a, b)], Sub ab.1 p ∧ Sub ab.2 p := fun ab hab => by
  rcases mem_append.mp hab with z | z
  · exact hs ab z
  · rw [mem_singleton.mp z]; exact ⟨sa, sb'⟩
theorem c_folT {rl : List (Nat × Nat)} {a b p n : Nat} (hl : rl.length ≤ 90) (h64 : ∀ ab ∈ rl, ab.1 < 2 ^ 64) (ht : (lvls rl).contains none = true) (qE : ∀ h', h <+: h' → E (.str (tx "Torn")) h') :
    wpCall sb P (d + 8) 9 [.tup [.int n, .int p, .tup (rl.map rD)], .int a, .int b] h Q E := by
  refine wp_call rfl rfl ?_
  have g2 : ∀ h, prim sb .idx [.tup [.int n, .int p, .tup (rl.map rD)], .int 2] h = some (.tup (rl.map rD), h) := fun _ => rfl
  have elr : prim sb .lrng [.int (rl.length : Nat)] h = some (.ref h.length, h ++ [.lst (iL (List.range rl.length))]) := q_lrng (by lia)
  simp! [b_follows_10, g2, length_map, elr, b_follows_9]
  have p1 : h <+: h ++ [AO.lst (iL (List.range rl.length))] := prefix_append _ _
  have e1 := get_new (h := h) (o := AO.lst (iL (List.range rl.length)))
  generalize h ++ [AO.lst (iL (List.range rl.length))] = h1 at p1 e1
  generalize h.length = ra at e1
  refine c_is_torn (d := d + 1) e1 (fun k hk => mem_range.mp hk) (by simp; lia) h64 fun h2 p2 => ?_
  rw [torn_all, ht]
  simp! [b_follows_8, g_raisC]
  exact qE _ (p1.trans p2)
def Fnd (a b : Nat) (v : D) : Prop := (a = 0 ∧ b = 0 ∧ v = .tup [.str (tx "never")]) ∨ (¬ (a = 0 ∧ b = 0) ∧ ∃ x, v = .tup [.str (tx "follows"), x] ∨ v = .tup [.str (tx "free"), x])
theorem c_asked {rl : List (Nat × Nat)} {a b p n : Nat} (hn : n ≤ 64) (hl : rl.length ≤ 20) (hp : p < 2 ^ n) (hs : ∀ ab ∈ rl, Sub ab.1 p ∧ Sub ab.2 p) (sa : Sub a p) (sb' : Sub b p) (q0 : (lvls rl).contains none = false → ∀ h' v k o, h <+: h' → Fnd a b v → h'[k]'[] → Q (.tup [v, .ref k, .ref o]) h') (q1 : (lvls rl).contains none = true → ∀ h' k o, h <+: h' → h'[k]'[.bl true, .bl true] → h'[o]'[.bl false, .bl false] → Q (.tup [.non, .ref k, .ref o]) h') :
    wpCall sb P (d + 9) 18 [.tup [.int n, .int p, .tup (rl.map rD)], .int a, .int b] h Q E := by
  refine wp_call rfl rfl ?_
  simp! [b_law_asked_8, b_law_asked_7, b_law_asked_6, b_law_asked_5, g_tryA]
  have e0 : (h ++ [AO.lst []] ++ [AO.lst []])[h.length]'[] := get_app get_new
  have p0 : h <+: h ++ [AO.lst []] ++ [AO.lst []] := pre_app (prefix_append _ _)
  generalize h ++ [AO.lst []] ++ [AO.lst []] = h0 at e0 p0
  cases ht : (lvls rl).contains none with
  | false =>
    refine c_follows (d := d) hn (by lia) (h64_of hn hp (sub_snoc hs sb' sa)) ht (fun a0 b0 h1 p1 => ?_) (fun hab _ h1 p1 => ?_) fun hab lv _ h1 p1 => ?_
    · simp! [b_law_asked_1]
      exact q0 ht _ _ _ _ (p0.trans p1) (.inl ⟨a0, b0, rfl⟩) (pre_get p1 e0)
    · simp! [b_law_asked_1]
      exact q0 ht _ _ _ _ (p0.trans p1) (.inr ⟨hab, _, .inl rfl⟩) (pre_get p1 e0)
    · simp! [b_law_asked_1]
      exact q0 ht _ _ _ _ (p0.trans p1) (.inr ⟨hab, _, .inr rfl⟩) (pre_get p1 e0)
  | true =>
    refine c_folT (d := d) (by lia) (h64_of hn hp hs) ht fun h1 p1 => ⟨rfl, ?_⟩
    have ee : (h1 ++ [AO.exc (tx "Torn")])[h1.length]? = some (.exc (tx "Torn")) := get_new
    have p2 : h <+: h1 ++ [AO.exc (tx "Torn")] := pre_app (p0.trans p1)
    generalize h1 ++ [AO.exc (tx "Torn")] = h2 at ee p2
    simp! [b_law_asked_4, q_isEy ee, b_law_asked_3]
    have ee2 := get_app (l := [AO.lst [.bl true, .bl true]]) ee
    simp! [q_isEn ee2, b_law_asked_2]
    have ee3 := get_app (l := [AO.lst [.bl false]]) ee2
    simp! [q_isEn ee3]
    rw [p_addL (get_app get_new) get_new (by decide)]
    simp! [b_law_asked_1]
    exact q1 ht _ _ _ (pre_app (pre_app (pre_app (pre_app p2)))) (get_app (get_app (get_app get_new))) get_new
theorem c_right {rl : List (Nat × Nat)} {a b p n : Nat} (hn : n ≤ 64) (hl : rl.length ≤ 20) (hp : p < 2 ^ n) (hs : ∀ ab ∈ rl, Sub ab.1 p ∧ Sub ab.2 p) (sa : Sub a p) (sb' : Sub b p) (q : ∀ h', h <+: h' → Q (.bl true) h') : wpCall sb P (d + 10) 19 [.tup [.int n, .int p, .tup (rl.map rD)], .bl ((lvls rl).contains none), .int a, .int b] h Q E := by
  refine wp_call rfl rfl ?_
  have bt : ∀ (x y z : D) (σ : Lo), bindT [4, 5, 6] (.tup [x, y, z]) σ = some (((σ.set 4 (some x)).set 5 (some y)).set 6 (some z)) := fun _ _ _ _ => rfl
  simp! [b_law_right_8]
  refine c_asked (d := d) hn hl hp hs sa sb' (fun ht h1 v k o p1 hv ek => ?_) fun ht h1 k o p1 ek eo => ?_
  · rw [ht]
    have ist : ∀ (xs : List D) h, prim sb (.isi .tuple) [.tup xs] h = some (.bl true, h) := fun _ _ => rfl
    have iss : ∀ (xs : S) h, prim sb (.isi .str) [.str xs] h = some (.bl true, h) := fun _ _ => rfl
    have f1 : ∀ (x : D) h, prim sb .idx [.tup [x], .int 0] h = some (x, h) := fun _ _ => rfl
    have f2 : ∀ (x y : D) h, prim sb .idx [.tup [x, y], .int 0] h = some (x, h) := fun _ _ _ => rfl
    have l2 : ∀ (x y : D) h, prim sb .len [.tup [x, y]] h = some (.int 2, h) := fun _ _ _ => rfl
    have q1 : ∀ (x : D) h, eqH h (.tup [x]) (.tup []) = some false := fun _ _ => rfl
    have q2 : ∀ (x y : D) h, eqH h (.tup [x, y]) (.tup []) = some false := fun _ _ _ => rfl
    have en : ∀ h, eqH h (.tup [.str (tx "never")]) (.tup [.str (tx "never")]) = some true := fun _ => rfl
    have nl : eqH (h1 ++ [AO.lst []]) (.ref k) (.ref h1.length) = some true := by rw [eqH_lst (get_app ek) get_new]; rfl
    have P1 := pre_app (l := [AO.lst []]) p1
    have b22 : ((2 : Int) == 2) = true := rfl
    rcases hv with ⟨rfl, rfl, rfl⟩ | ⟨hab, x, hv⟩
    · simp! [bt, b_law_right_7, b_law_right_5, nl, ist, iss, f1, q1, b_law_right_3, b_law_right_2, en]
      exact q _ P1
    · have zz : (((a : Int) == 0) && ((b : Int) == 0)) = false := by
        cases ha : ((a : Int) == 0) with
        | false => rfl
        | true =>
          cases hb : ((b : Int) == 0) with
          | false => rfl
          | true => rw [beq_iff_eq] at ha hb; lia
      have key : ∀ w, (w = tx "follows" ∨ w = tx "free") → v = .tup [.str w, x] → wpSs sb (wpCall sb P (d + 9)) E b_law_right_7 { nx := fun x h => Q .non h, rt := Q } [some (.tup [.int n, .int p, .tup (rl.map rD)]), some (.bl false), some (.int a), some (.int b), some v, ↑k, ↑o] h1 := by
        rintro w hw rfl
        have iw : inDs (.str w) [.str (tx "follows"), .str (tx "free")] = some true := by
          rcases hw with rfl | rfl
          · rfl
          · rfl
        have rest : wpSs sb (wpCall sb P (d + 9)) E b_law_right_1 { nx := fun x h => Q .non h, rt := Q } [some (.tup [.int n, .int p, .tup (rl.map rD)]), some (.bl false), some (.int a), some (.int b), some (.tup [.str w, x]), ↑k, ↑o] (h1 ++ [AO.lst []]) := by
          simp! [b_law_right_1, f2, iw, l2, b22]
          exact q _ P1
        simp! [b_law_right_7, b_law_right_5, nl, ist, iss, f2, q2, b_law_right_3]
        cases ha : ((a : Int) == 0) with
        | false =>
          simp!
          exact rest
        | true =>
          cases hb : ((b : Int) == 0) with
          | false =>
            simp! [hb]
            exact rest
          | true => rw [beq_iff_eq] at ha hb; lia
      simp! [bt]
      rcases hv with hv | hv
      · exact key _ (.inl rfl) hv
      · exact key _ (.inr rfl) hv
  · rw [ht]
    simp! [bt, b_law_right_7, b_law_right_6]
    have q1 : eqH (h1 ++ [AO.lst [.bl true, .bl true]]) (.ref k) (.ref h1.length) = some true := by rw [eqH_lst (get_app ek) get_new]; rfl
    have q2 : eqH (h1 ++ [AO.lst [.bl true, .bl true]] ++ [AO.lst [.bl false, .bl false]]) (.ref o) (.ref (h1 ++ [AO.lst [.bl true, .bl true]]).length) = some true := by rw [eqH_lst (get_app (get_app eo)) get_new]; rfl
    simp! [q1, q2]
    exact q _ (pre_app (pre_app p1))
theorem pick6 {a b c e f g : D} {z : Int} : ∃ v, (v = a ∨ v = b ∨ v = c ∨ v = e ∨ v = f ∨ v = g) ∧ atI [a, b, c, e, f, g] (z % 6) = some v := by
  have h0 := emod_nonneg z (show (6 : Int) ≠ 0 by decide)
  have h1 := emod_lt_of_pos z (show (0 : Int) < 6 by decide)
  generalize z % 6 = y at h0 h1
  have hy : y = 0 ∨ y = 1 ∨ y = 2 ∨ y = 3 ∨ y = 4 ∨ y = 5 := by lia
  rcases hy with rfl | rfl | rfl | rfl | rfl | rfl
  · exact ⟨a, .inl rfl, rfl⟩
  · exact ⟨b, .inr (.inl rfl), rfl⟩
  · exact ⟨c, .inr (.inr (.inl rfl)), rfl⟩
  · exact ⟨e, .inr (.inr (.inr (.inl rfl))), rfl⟩
  · exact ⟨f, .inr (.inr (.inr (.inr (.inl rfl)))), rfl⟩
  · exact ⟨g, .inr (.inr (.inr (.inr (.inr rfl)))), rfl⟩
theorem c_further {cell : Int} {rl : List (Nat × Nat)} {p n : Nat} (hn : n ≤ 64) (hs : ∀ ab ∈ rl, Sub ab.1 p ∧ Sub ab.2 p) (q : ∀ h' a b, h <+: h' → Sub a p → Sub b p → Q (rD (a, b)) h') : wpCall sb P (d + 3) 20 [.tup [.int n, .int p, .tup (rl.map rD)], .int cell] h Q E := by
  refine wp_call rfl rfl ?_
  have bt : ∀ (x y z : D) (σ : Lo), bindT [2, 3, 4] (.tup [x, y, z]) σ = some (((σ.set 2 (some x)).set 3 (some y)).set 4 (some z)) := fun _ _ _ _ => rfl
  simp! [b_law_further_7, bt, b_law_further_6]
  refine c_mask (by decide) hn fun m1 _ => ?_
  simp! [bAnd_nat, b_law_further_5]
  refine c_mask (by decide) hn fun m4 _ => ?_
  simp! [b_law_further_4]
  refine c_draw (by decide) ?_
  simp! [b_law_further_3]
  generalize draw cell 7 = kd
  have s1 : Sub (p &&& m1) p := sub_and sub_self
  generalize p &&& m1 = s at s1
  have rest : wpSs sb (wpCall sb P (d + 2)) E b_law_further_1 { nx := fun x h => Q .non h, rt := Q } [some (.tup [.int n, .int p, .tup (rl.map rD)]), some (.int cell), some (.int n), some (.int p), some (.tup (rl.map rD)), some (.int (s : Nat)), some (.int (m4 : Nat)), some (.int (kd % 6))] h := by
    obtain ⟨v, hv, ev⟩ := @pick6 (rD (0, 0)) (rD (0, s)) (rD (s, 0)) (rD (s &&& m4, clr s m4)) (rD (0, 0)) (rD (0, 0)) kd
    have ev' : atI [Z.D.tup [.int 0, .int 0], .tup [.int 0, .int (s : Nat)], .tup [.int (s : Nat), .int 0], .tup [.int ((s &&& m4 : Nat) : Int), .int ((clr s m4 : Nat) : Int)], .tup [.int 0, .int 0], .tup [.int 0, .int 0]] (kd % 6) = some v := ev
    simp! [b_law_further_1, bAnd_nat, bAnd_inv, q_idxL (a := h.length) get_new, ev']
    have pg' : h <+: h ++ [AO.lst [Z.D.tup [.int 0, .int 0], .tup [.int 0, .int (s : Nat)], .tup [.int (s : Nat), .int 0], .tup [.int ((s &&& m4 : Nat) : Int), .int ((clr s m4 : Nat) : Int)], .tup [.int 0, .int 0], .tup [.int 0, .int 0]]] := prefix_append _ _
    rcases hv with rfl | rfl | rfl | rfl | rfl | rfl
    · exact q _ _ _ pg' sub_zero sub_zero
    · exact q _ _ _ pg' sub_zero s1
    · exact q _ _ _ pg' s1 sub_zero
    · exact q _ _ _ pg' (sub_and s1) (sub_clr s1)
    · exact q _ _ _ pg' sub_zero sub_zero
    · exact q _ _ _ pg' sub_zero sub_zero
  cases hk : (kd % 6 == 5) with
  | false =>
    simp!
    exact rest
  | true =>
    have e0 : eqH h (.tup (rl.map rD)) (.tup []) = some rl.isEmpty := by cases rl <;> rfl
    cases hE : rl.isEmpty with
    | true =>
      simp! [e0, hE]
      exact rest
    | false =>
      simp! [e0, hE, b_law_further_2]
      refine c_draw (by decide) ?_
      have hl0 : (0 : Int) < ((rl.length : Nat) : Int) := by
        cases rl with
        | nil => cases hE
        | cons => simp
      have g0 := emod_nonneg (draw cell 8) (show ((rl.length : Nat) : Int) ≠ 0 by lia)
      have g1 := emod_lt_of_pos (draw cell 8) hl0
      obtain ⟨j, hj⟩ := eq_ofNat_of_zero_le g0
      rw [hj] at g1
      have hjl : j < rl.length := by lia
      have hm : rl.getD j (0, 0) ∈ rl := by rw [getD_eq_getElem?_getD, getElem?_eq_getElem hjl]; exact getElem_mem _
      obtain ⟨sa, sb'⟩ := hs _ hm
      simp! [length_map, hl0, hj, rul_at hjl]
      exact q _ _ _ pre_rfl sa sb'
theorem law_wp (ns : List Int) (hl : ns.length ≤ 63) : wpCall sb P 50 21 [.rol (ns.map .int)] [] (fun d _ => d = .bl true) fun _ _ => False := by
  refine wp_call rfl rfl ?_
  simp! [b_law_8]
  refine c_frame (d := 44) hl fun h1 n p rl hn hp hm hs => ?_
  have g2 : ∀ h, prim sb .idx [.tup [.int n, .int p, .tup (rl.map rD)], .int 2] h = some (.tup (rl.map rD), h) := fun _ => rfl
  simp! [b_law_7, g2]
  refine c_left (d := 48) (by lia) fun h2 r L p2 er hL => ?_
  have ie : (L.map rD).isEmpty = L.isEmpty := by cases L <;> rfl
  have ee : eqH (h2 ++ [AO.lst []]) (.ref r) (.ref h2.length) = some (!((lvls rl).contains none)) := by
    rw [eqH_lst (get_app er) get_new, eqLs_nil, ie, hL]
  simp! [ee, Bool.not_not, b_law_6]
  refine c_cell (d := 48) (by decide) fun c => ?_
  simp! [b_law_5]
  refine wp_rng (fun j σ h' => ∃ x4 x5 x6, σ = [some (.rol (ns.map .int)), some (.tup [.int n, .int p, .tup (rl.map rD)]), some (.bl ((lvls rl).contains none)), some (.int c), x4, x5, x6]) (lo := 0) (n := 3) (vs := [.int ((3 : Nat) : Int)]) (h1 := h2 ++ [.lst []]) (fun Q q => by simp!; exact q) (it_rng (by lia)) ⟨none, none, none, rfl⟩ ?_ ?_
  · rintro k σ h' hk ⟨x4, x5, x6, rfl⟩
    refine ⟨_, rfl, ?_⟩
    rw [Int.zero_add]
    simp! [b_law_4]
    refine c_further (d := 46) hn hs fun h3 a b p3 sa sb' => ?_
    have bt : ∀ σ : Lo, bindT [5, 6] (rD (a, b)) σ = some ((σ.set 5 (some (.int a))).set 6 (some (.int b))) := fun _ => rfl
    simp! [bt, b_law_3]
    refine c_right (d := 39) hn hm hp hs sa sb' fun h4 p4 => ?_
    simp!
    exact ⟨_, _, _, rfl⟩
  · rintro σ h' ⟨x4, x5, x6, rfl⟩
    simp! [b_law_1]
end
end
end K40
namespace K40
open PySem PySem.Spec PyProof.Rows L2 ZS
def top (i : Nat) : Stmt := PySem.Challenge.pw_wontbook_k40_never_and_torn.main.body.getD i (.Pass ⟨0, 0, 0, 0⟩)
def inner (i j : Nat) : Stmt := match top i with | .ClassDef _ _ _ b _ _ _ _ _ _ _ => b.getD j (.Pass ⟨0, 0, 0, 0⟩) | _ => .Pass ⟨0, 0, 0, 0⟩
structure Txt (K : Frag) (mg : Str → Option Value) (f0 f1 f2 f3 f4 f5 f6 f7 f8 f9 f10 f11 f12 f13 f14 f15 f16 f17 f18 f19 f20 f21 c0 c1 c2 c3 c4 c5 c6 c7 c8 c9 c10 c11 : Addr) (e0 e1 e2 e3 e4 e5 e6 e7 e8 e9 e10 e11 e12 e13 e14 e15 e16 e17 e18 e19 e20 e21 : FuncData) : Prop where
  u0 : FF K mg "places" (top 14) f0 e0 ["mask"]
  u1 : FF K mg "has" (top 15) f1 e1 ["mask", "number"]
  u2 : FF K mg "let_by" (top 17) f2 e2 ["frame", "among", "rule"]
  u3 : FF K mg "levels" (top 18) f3 e3 ["frame"]
  u4 : FF K mg "going_out" (top 19) f4 e4 ["frame", "left"]
  u5 : FF K mg "is_torn" (top 20) f5 e5 ["frame", "among"]
  u6 : FF K mg "needed" (top 21) f6 e6 ["frame", "rules", "besides"]
  u7 : FF K mg "ranking" (top 23) f7 e7 ["frame"]
  u8 : FF K mg "rank_of" (top 24) f8 e8 ["frame", "told", "world"]
  u9 : FF K mg "follows" (top 26) f9 e9 ["frame", "met", "broken"]
  u10 : FF K mg "_law_cell_at" (top 28) f10 e10 ["script", "k"]
  u11 : FF K mg "_law_draw" (top 29) f11 e11 ["cell", "k"]
  u12 : FF K mg "_law_mask" (top 30) f12 e12 ["cell", "k", "size"]
  u13 : FF K mg "_law_classes" (top 31) f13 e13 ["cell", "size"]
  u14 : FF K mg "_law_rule" (top 32) f14 e14 ["cell", "possible", "classes", "size"]
  u15 : FF K mg "_law_wild" (top 33) f15 e15 ["cell", "possible", "rules", "size"]
  u16 : FF K mg "_law_frame" (top 34) f16 e16 ["script"]
  u17 : FF K mg "_law_left" (top 35) f17 e17 ["rules"]
  u18 : FF K mg "_law_asked" (top 36) f18 e18 ["frame", "met", "broken"]
  u19 : FF K mg "_law_right" (top 37) f19 e19 ["frame", "torn", "met", "broken"]
  u20 : FF K mg "_law_further" (top 38) f20 e20 ["frame", "cell"]
  u21 : FF K mg "law" (top 39) f21 e21 ["script"]
  n0 : nsIn K mainGlobals "WontError" = some (some (.ref c0))
  mc0 : mg "WontError" = some (.ref c0)
  n1 : nsIn K mainGlobals "RowError" = some (some (.ref c1))
  mc1 : mg "RowError" = some (.ref c1)
  n2 : nsIn K mainGlobals "NoRow" = some (some (.ref c2))
  mc2 : mg "NoRow" = some (.ref c2)
  n3 : nsIn K mainGlobals "TooLong" = some (some (.ref c3))
  mc3 : mg "TooLong" = some (.ref c3)
  n4 : nsIn K mainGlobals "NoSentence" = some (some (.ref c4))
  mc4 : mg "NoSentence" = some (.ref c4)
  n5 : nsIn K mainGlobals "Twice" = some (some (.ref c5))
  mc5 : mg "Twice" = some (.ref c5)
  n6 : nsIn K mainGlobals "TooMany" = some (some (.ref c6))
  mc6 : mg "TooMany" = some (.ref c6)
  n7 : nsIn K mainGlobals "NoAsk" = some (some (.ref c7))
  mc7 : mg "NoAsk" = some (.ref c7)
  n8 : nsIn K mainGlobals "NoName" = some (some (.ref c8))
  mc8 : mg "NoName" = some (.ref c8)
  n9 : nsIn K mainGlobals "NotTold" = some (some (.ref c9))
  mc9 : mg "NotTold" = some (.ref c9)
  n10 : nsIn K mainGlobals "Torn" = some (some (.ref c10))
  mc10 : mg "Torn" = some (.ref c10)
  n11 : nsIn K mainGlobals "NoNews" = some (some (.ref c11))
  mc11 : mg "NoNews" = some (.ref c11)
  xc10 : excIn K c10 VB "ValueError.__new__" = true
  ie10_10 : IseOk K (.ref c10) [Z.tx "Torn"] []
  ieb10_ValueError : IseOk K (.type "ValueError") [Z.tx "Torn"] []
  it0 : IstOk K [c7, c8, c9, c11] [] [Z.tx "Torn"]
  it1 : IstOk K [c1, c2, c3, c4, c5, c6] [] [Z.tx "Torn"]
  em10_0 : exmOne K (.ref c10) (.ref c0) = some true
  b_ValueError : mg "ValueError" = none
  b_isinstance : mg "isinstance" = none
  b_len : mg "len" = none
  b_list : mg "list" = none
  b_max : mg "max" = none
  b_range : mg "range" = none
  b_str : mg "str" = none
  b_tuple : mg "tuple" = none
  b_zip : mg "zip" = none
structure Fns [R0] (Pr : Program) (w : World) (K : Frag) (mg : Str → Option Value) (base : Heap) (k : Nat) (f0 f1 f2 f3 f4 f5 f6 f7 f8 f9 f10 f11 f12 f13 f14 f15 f16 f17 f18 f19 f20 f21 c0 c1 c2 c3 c4 c5 c6 c7 c8 c9 c10 c11 : Addr) (e0 e1 e2 e3 e4 e5 e6 e7 e8 e9 e10 e11 e12 e13 e14 e15 e16 e17 e18 e19 e20 e21 : FuncData) (Γ : Z.Gam) : Prop where
  x9 : FnOk Pr w K mg base (CX1 Pr w) k f9 e9 ["frame", "met", "broken"] (spX K Γ 9)
  f0 : FnOk Pr w K mg base CX0 k f0 e0 ["mask"] (spUp K Γ 0)
  f1 : FnOk Pr w K mg base CX0 k f1 e1 ["mask", "number"] (spUp K Γ 1)
  f2 : FnOk Pr w K mg base CX0 k f2 e2 ["frame", "among", "rule"] (spUp K Γ 2)
  f3 : FnOk Pr w K mg base CX0 k f3 e3 ["frame"] (spUp K Γ 3)
  f4 : FnOk Pr w K mg base CX0 k f4 e4 ["frame", "left"] (spUp K Γ 4)
  f5 : FnOk Pr w K mg base CX0 k f5 e5 ["frame", "among"] (spUp K Γ 5)
  f6 : FnOk Pr w K mg base CX0 k f6 e6 ["frame", "rules", "besides"] (spUp K Γ 6)
  f7 : FnOk Pr w K mg base CX0 k f7 e7 ["frame"] (spUp K Γ 7)
  f8 : FnOk Pr w K mg base CX0 k f8 e8 ["frame", "told", "world"] (spUp K Γ 8)
  f9 : FnOk Pr w K mg base CX0 k f9 e9 ["frame", "met", "broken"] (spUp K Γ 9)
  f10 : FnOk Pr w K mg base CX0 k f10 e10 ["script", "k"] (spUp K Γ 10)
  f11 : FnOk Pr w K mg base CX0 k f11 e11 ["cell", "k"] (spUp K Γ 11)
  f12 : FnOk Pr w K mg base CX0 k f12 e12 ["cell", "k", "size"] (spUp K Γ 12)
  f13 : FnOk Pr w K mg base CX0 k f13 e13 ["cell", "size"] (spUp K Γ 13)
  f14 : FnOk Pr w K mg base CX0 k f14 e14 ["cell", "possible", "classes", "size"] (spUp K Γ 14)
  f15 : FnOk Pr w K mg base CX0 k f15 e15 ["cell", "possible", "rules", "size"] (spUp K Γ 15)
  f16 : FnOk Pr w K mg base CX0 k f16 e16 ["script"] (spUp K Γ 16)
  f17 : FnOk Pr w K mg base CX0 k f17 e17 ["rules"] (spUp K Γ 17)
  f18 : FnOk Pr w K mg base CX0 k f18 e18 ["frame", "met", "broken"] (spUp K Γ 18)
  f19 : FnOk Pr w K mg base CX0 k f19 e19 ["frame", "torn", "met", "broken"] (spUp K Γ 19)
  f20 : FnOk Pr w K mg base CX0 k f20 e20 ["frame", "cell"] (spUp K Γ 20)
  f21 : FnOk Pr w K mg base CX0 k f21 e21 ["script"] (spUp K Γ 21)
seal L2.PE L2.PT L2.PA L2.PS L2.PSs L2.PW L2.PI L2.OpR L2.UnR L2.CallR L2.MtR L2.IxR ZS.PTs L2.Binds
section
variable {Pr : Program} {w : World} {K : Frag} {mg : Str → Option Value} {base : Heap} {k : Nat} {f0 f1 f2 f3 f4 f5 f6 f7 f8 f9 f10 f11 f12 f13 f14 f15 f16 f17 f18 f19 f20 f21 c0 c1 c2 c3 c4 c5 c6 c7 c8 c9 c10 c11 : Addr} {e0 e1 e2 e3 e4 e5 e6 e7 e8 e9 e10 e11 e12 e13 e14 e15 e16 e17 e18 e19 e20 e21 : FuncData}
theorem sc_0 : FnScope ["mask"] ["mask"] (defScope (top 14)) := sc_of
theorem sc_1 : FnScope ["mask", "number"] ["mask", "number"] (defScope (top 15)) := sc_of
theorem sc_2 : FnScope ["frame", "among", "rule", "rules", "left", "number"] ["frame", "among", "rule"] (defScope (top 17)) := sc_of
theorem sc_3 : FnScope ["frame", "told", "left", "level", "gone", "rule"] ["frame"] (defScope (top 18)) := sc_of
theorem sc_4 : FnScope ["frame", "left"] ["frame", "left"] (defScope (top 19)) := sc_of
theorem sc_5 : FnScope ["frame", "among", "rules"] ["frame", "among"] (defScope (top 20)) := sc_of
theorem sc_6 : FnScope ["frame", "rules", "besides", "kept", "rule", "others"] ["frame", "rules", "besides"] (defScope (top 21)) := sc_of
theorem sc_7 : FnScope ["frame", "told"] ["frame"] (defScope (top 23)) := sc_of
theorem sc_8 : FnScope ["frame", "told", "world", "broken"] ["frame", "told", "world"] (defScope (top 24)) := sc_of
theorem sc_9 : FnScope ["frame", "met", "broken", "rules", "contrary", "ranks"] ["frame", "met", "broken"] (defScope (top 26)) := sc_of
theorem sc_10 : FnScope ["script", "k"] ["script", "k"] (defScope (top 28)) := sc_of
theorem sc_11 : FnScope ["cell", "k", "number"] ["cell", "k"] (defScope (top 29)) := sc_of
theorem sc_12 : FnScope ["cell", "k", "size", "number"] ["cell", "k", "size"] (defScope (top 30)) := sc_of
theorem sc_13 : FnScope ["cell", "size", "many", "classes", "world", "at"] ["cell", "size"] (defScope (top 31)) := sc_of
theorem sc_14 : FnScope ["cell", "possible", "classes", "size", "some", "ahead", "group", "low", "rest"] ["cell", "possible", "classes", "size"] (defScope (top 32)) := sc_of
theorem sc_15 : FnScope ["cell", "possible", "rules", "size", "some", "ahead", "kind", "met", "broken"] ["cell", "possible", "rules", "size"] (defScope (top 33)) := sc_of
theorem sc_16 : FnScope ["script", "first", "size", "possible", "classes", "wild", "rules", "cell", "rule"] ["script"] (defScope (top 34)) := sc_of
theorem sc_17 : FnScope ["rules", "left", "out", "broken", "rule"] ["rules"] (defScope (top 35)) := sc_of
theorem sc_18 : FnScope ["frame", "met", "broken", "kinds", "others", "found", "e"] ["frame", "met", "broken"] (defScope (top 36)) := sc_of
theorem sc_19 : FnScope ["frame", "torn", "met", "broken", "found", "kinds", "others"] ["frame", "torn", "met", "broken"] (defScope (top 37)) := sc_of
theorem sc_20 : FnScope ["frame", "cell", "size", "possible", "rules", "some", "ahead", "kind"] ["frame", "cell"] (defScope (top 38)) := sc_of
theorem sc_21 : FnScope ["script", "frame", "torn", "cell", "k", "met", "broken"] ["script"] (defScope (top 39)) := sc_of
section
variable [r0 : R0] (T : Txt K mg f0 f1 f2 f3 f4 f5 f6 f7 f8 f9 f10 f11 f12 f13 f14 f15 f16 f17 f18 f19 f20 f21 c0 c1 c2 c3 c4 c5 c6 c7 c8 c9 c10 c11 e0 e1 e2 e3 e4 e5 e6 e7 e8 e9 e10 e11 e12 e13 e14 e15 e16 e17 e18 e19 e20 e21) (FA : ∀ r : R0, @Fns r Pr w K mg base k f0 f1 f2 f3 f4 f5 f6 f7 f8 f9 f10 f11 f12 f13 f14 f15 f16 f17 f18 f19 f20 f21 c0 c1 c2 c3 c4 c5 c6 c7 c8 c9 c10 c11 e0 e1 e2 e3 e4 e5 e6 e7 e8 e9 e10 e11 e12 e13 e14 e15 e16 e17 e18 e19 e20 e21 (Z.wpCall sb P k))
include T FA
set_option hygiene false in
local macro_rules
  | `(#[$a,*]) => do
    let mut r ← `(la_nil)
    for x in a.getElems.reverse do r ← `(zargs $x $r)
    return r
  | `(%[$a,*|$z]) => do
    let mut r := z
    for x in a.getElems.reverse do r ← `(lss_cons $x $r)
    return r
  | `($c:char) => `(zv $(Lean.quote (c.getChar.toNat - 97)))
  | `($a ++ $b) => `(le_bin o_add $a $b)
  | `($a % $b) => `(le_bin o_mod $a $b)
  | `($a == $b) => `(lt_cmp (isB_eq rfl) (o_eq (zu hr)) $a $b rfl)
  | `($a[$b]) => `(zix hr $a $b)
  | `(↑$a) => `(zcallB c_len T.b_len bt_len (zargs $a la_nil))
  | `($a <|> $b) => `(zexpr (zmth (m := .list) PySem.F.plainAttrs_list PySem.F.slot_list_append PySem.F.type_list_append m_append $a (zargs $b la_nil)))
theorem d_0 : FnOk Pr w K mg base CX0 (k + 1) f0 e0 ["mask"] (spUp K (Z.wpCall sb P (k + 1)) 0) :=
  have F := FA r0
  def_ok T.u0.u sc_0 rfl rfl rfl fun cdv A outer s H E E' hr =>
    %[(ls_ret (zcomp1 ["mask"] ["mask"] (defScope (top 14)) rfl (li_rng1 rfl T.b_range #[(zmth0 (m := .int) PySem.F.plainAttrs_int PySem.F.slot_int_bit_length PySem.F.type_int_bit_length m_bitlen 'a')] rfl) (fun _ _ _ _ => lc_one (ztru (zcal hr F.f1 T.u1 #['a', 'b']))) (fun _ _ _ _ => 'b')))|lss_nil]
theorem d_1 : FnOk Pr w K mg base CX0 (k + 1) f1 e1 ["mask", "number"] (spUp K (Z.wpCall sb P (k + 1)) 1) :=
  have F := FA r0
  def_ok T.u1.u sc_1 rfl rfl rfl fun cdv A outer s H E E' hr =>
    %[ls_ret (le_cmp (o_eq (zu hr)) (le_bin o_band (le_bin o_shr 'a' 'b') zi) zi rfl)|lss_nil]
theorem d_2 : FnOk Pr w K mg base CX0 (k + 1) f2 e2 ["frame", "among", "rule"] (spUp K (Z.wpCall sb P (k + 1)) 2) :=
  have F := FA r0
  def_ok T.u2.u sc_2 rfl rfl rfl fun cdv A outer s H E E' hr =>
    %[zasg 3 sc_2.nd 'a'[zi], zasg 4 sc_2.nd 'd'['c'][zi], zfor 5 PassesOwn.never rfl sc_2.nd (li_val 'b') %[zasg 4 sc_2.nd (le_bin o_band 'e' (le_un u_inv 'd'['f'][zi]))|lss_nil], ls_ret (le_ite (ztru 'e') (zcal hr F.f0 T.u0 #['e'])[zi] zn)|lss_nil]
theorem d_3 : FnOk Pr w K mg base CX0 (k + 1) f3 e3 ["frame"] (spUp K (Z.wpCall sb P (k + 1)) 3) :=
  have F := FA r0
  def_ok T.u3.u sc_3 rfl rfl rfl fun cdv A outer s H E E' hr =>
    %[zasg 1 sc_3.nd (le_bin o_mul (le_list #[zn]) ↑'a'[zi]), zasg 2 sc_3.nd (zlrng T.b_list T.b_range #[↑'b']), zasg 3 sc_3.nd zi, zasg 4 sc_3.nd (zcal hr F.f4 T.u4 #['a', 'c']), (ls_while PassesOwn.never (ztru 'e') %[zfor 5 PassesOwn.never rfl sc_3.nd (li_val 'e') %[zsetx hr 'd' 'b' 'f'|lss_nil], (zasgc1 2 sc_3.nd ["frame", "told", "left", "level", "gone", "rule"] ["frame", "told", "left", "level", "gone", ".rule"] (defScope (top 18)) rfl (li_val 'c') (fun _ _ _ _ => lc_one (lt_cmp (isB_in rfl) (o_notin (zu hr)) 'g' 'e' rfl)) (fun _ _ _ _ => 'g')), zasg 3 sc_3.nd ('d' ++ zi), zasg 4 sc_3.nd (zcal hr F.f4 T.u4 #['a', 'c'])|lss_nil]), ls_ret (zcallT c_tuple T.b_tuple bt_tuple #['b'])|lss_nil]
theorem d_4 : FnOk Pr w K mg base CX0 (k + 1) f4 e4 ["frame", "left"] (spUp K (Z.wpCall sb P (k + 1)) 4) :=
  have F := FA r0
  def_ok T.u4.u sc_4 rfl rfl rfl fun cdv A outer s H E E' hr =>
    %[(ls_ret (zcomp1 ["frame", "left"] ["frame", "left"] (defScope (top 19)) rfl (li_val 'b') (fun _ _ _ _ => lc_one (lt_none (isB_N rfl) o_notN (zcal hr F.f2 T.u2 #['a', 'b', 'c']) rfl)) (fun _ _ _ _ => 'c')))|lss_nil]
theorem d_5 : FnOk Pr w K mg base CX0 (k + 1) f5 e5 ["frame", "among"] (spUp K (Z.wpCall sb P (k + 1)) 5) :=
  have F := FA r0
  def_ok T.u5.u sc_5 rfl rfl rfl fun cdv A outer s H E E' hr =>
    %[(zasgc1 2 sc_5.nd ["frame", "among", "rules"] ["frame", "among", "rules"] (defScope (top 20)) rfl (li_val 'b') (fun _ _ _ _ => lc_none) (fun _ _ _ _ => 'a'[zi]['d'])), ls_ret (le_cmp (o_in (zu hr)) zn (zcal hr F.f3 T.u3 #[le_tup #['a'[zi], 'a'[zi], zcallT c_tuple T.b_tuple bt_tuple #['c']]]) rfl)|lss_nil]
theorem d_6 : FnOk Pr w K mg base CX0 (k + 1) f6 e6 ["frame", "rules", "besides"] (spUp K (Z.wpCall sb P (k + 1)) 6) :=
  have F := FA r0
  def_ok T.u6.u sc_6 rfl rfl rfl fun cdv A outer s H E E' hr =>
    %[zasg 3 sc_6.nd 'b', (zfor 4 PassesOwn.never rfl sc_6.nd (li_val 'b') %[(zasgc1 5 sc_6.nd ["frame", "rules", "besides", "kept", "rule", "others"] ["frame", "rules", "besides", "kept", "rule", "others"] (defScope (top 21)) rfl (li_val 'd') (fun _ _ _ _ => lc_one (lt_cmp (isB_eq rfl) (o_ne (zu hr)) 'g' 'e' rfl)) (fun _ _ _ _ => 'g')), ls_if (ztru (zcal hr F.f5 T.u5 #['a', 'f' ++ 'c'])) %[zasg 3 sc_6.nd 'f'|lss_nil] lss_nil|lss_nil]), ls_ret 'd'|lss_nil]
theorem d_7 : FnOk Pr w K mg base CX0 (k + 1) f7 e7 ["frame"] (spUp K (Z.wpCall sb P (k + 1)) 7) :=
  have F := FA r0
  def_ok T.u7.u sc_7 rfl rfl rfl fun cdv A outer s H E E' hr =>
    %[zasg 1 sc_7.nd (zcal hr F.f3 T.u3 #['a']), ls_if (lt_cmp (isB_in rfl) (o_in (zu hr)) zn 'b' rfl) %[ls_ret zn|lss_nil] lss_nil, (ls_ret (zcallT c_tuple T.b_tuple bt_tuple #[(zcomp1 ["frame", "told"] ["frame", "told"] (defScope (top 23)) rfl (li_rng1 rfl T.b_range #['a'[zi]] rfl) (fun _ _ _ _ => lc_none) (fun _ _ _ _ => (zcal hr F.f8 T.u8 #['a', 'b', 'c'])))]))|lss_nil]
theorem d_8 : FnOk Pr w K mg base CX0 (k + 1) f8 e8 ["frame", "told", "world"] (spUp K (Z.wpCall sb P (k + 1)) 8) :=
  have F := FA r0
  def_ok T.u8.u sc_8 rfl rfl rfl fun cdv A outer s H E E' hr =>
    %[ls_if (lt_not (ztru (zcal hr F.f1 T.u1 #['a'[zi], 'c']))) %[ls_ret zn|lss_nil] lss_nil, (zasgc2 3 sc_8.nd ["frame", "told", "world", "broken"] ["frame", "told", "world", "broken"] (defScope (top 24)) rfl (li_zip2 rfl T.b_zip #['b', 'a'[zi]]) (fun _ _ _ _ => lc_one (ztru (zcal hr F.f1 T.u1 #['f'[zi], 'c']))) (fun _ _ _ _ => 'e')), ls_ret (le_ite (ztru 'd') ((zcallB (c_max1 rfl) T.b_max bt_max #['d']) ++ zi) zi)|lss_nil]
theorem d_9 : FnOk Pr w K mg base CX0 (k + 1) f9 e9 ["frame", "met", "broken"] (spUp K (Z.wpCall sb P (k + 1)) 9) :=
  have F := FA r0
  def_ok T.u9.u sc_9 rfl rfl rfl fun cdv A outer s H E E' hr =>
    %[zasg 3 sc_9.nd (zlrng T.b_list T.b_range #[↑'a'[zi]]), ls_if (ztru (zcal hr F.f5 T.u5 #['a', 'd'])) %[zraise0|lss_nil] lss_nil, ls_if (PW.pt (lw_and ('b' == zi) (lw_and1 ('c' == zi)))) %[ls_ret (le_tup #[zt])|lss_nil] lss_nil, zasg 4 sc_9.nd (le_tup #['a'[zi], 'a'[zi], 'a'[zi] ++ (le_tup #[le_tup #['c', 'b']])]), zasg 5 sc_9.nd (zcal hr F.f7 T.u7 #['e']), ls_if (lt_none (isB_N rfl) o_isN 'f' rfl) %[ls_ret (le_tup #[zt, zcallT c_tuple T.b_tuple bt_tuple #[zcal hr F.f6 T.u6 #['e', 'd', le_list #[↑'d']]]])|lss_nil] lss_nil, ls_ret (le_tup #[zt, 'f'])|lss_nil]
theorem dx_9 : FnOk Pr w K mg base (CX1 Pr w) (k + 1) f9 e9 ["frame", "met", "broken"] (spX K (Z.wpCall sb P (k + 1)) 9) :=
  have F := FA r0
  def_okX T.u9.u sc_9 rfl rfl rfl fun cdv A outer s H E E' hr hx =>
    %[zasg 3 sc_9.nd (zlrng T.b_list T.b_range #[↑'a'[zi]]), ls_if (ztru (zcal hr F.f5 T.u5 #['a', 'd'])) %[zraise hx hr rfl T.mc10 T.n10 T.xc10|lss_nil] lss_nil, ls_if (PW.pt (lw_and ('b' == zi) (lw_and1 ('c' == zi)))) %[ls_ret (le_tup #[zt])|lss_nil] lss_nil, zasg 4 sc_9.nd (le_tup #['a'[zi], 'a'[zi], 'a'[zi] ++ (le_tup #[le_tup #['c', 'b']])]), zasg 5 sc_9.nd (zcal hr F.f7 T.u7 #['e']), ls_if (lt_none (isB_N rfl) o_isN 'f' rfl) %[ls_ret (le_tup #[zt, zcallT c_tuple T.b_tuple bt_tuple #[zcal hr F.f6 T.u6 #['e', 'd', le_list #[↑'d']]]])|lss_nil] lss_nil, ls_ret (le_tup #[zt, 'f'])|lss_nil]
theorem d_10 : FnOk Pr w K mg base CX0 (k + 1) f10 e10 ["script", "k"] (spUp K (Z.wpCall sb P (k + 1)) 10) :=
  have F := FA r0
  def_ok T.u10.u sc_10 rfl rfl rfl fun cdv A outer s H E E' hr =>
    %[ls_if (lt_cmp (isB_cmp rfl) o_lt 'b' ↑'a' rfl) %[ls_ret 'a'['b']|lss_nil] lss_nil, ls_ret zi|lss_nil]
theorem d_11 : FnOk Pr w K mg base CX0 (k + 1) f11 e11 ["cell", "k"] (spUp K (Z.wpCall sb P (k + 1)) 11) :=
  have F := FA r0
  def_ok T.u11.u sc_11 rfl rfl rfl fun cdv A outer s H E E' hr =>
    %[zasg 2 sc_11.nd ((((('a' % zi) ++ (le_bin o_mul zi 'b')) ++ (le_bin o_mul (le_bin o_mul zi 'b') 'b')) ++ zi) % zi), zasg 2 sc_11.nd ((le_bin o_mul 'c' 'c') % zi), ls_ret (le_bin o_fdiv ((le_bin o_mul 'c' (zi ++ (le_bin o_mul zi 'b'))) % zi) zi)|lss_nil]
theorem d_12 : FnOk Pr w K mg base CX0 (k + 1) f12 e12 ["cell", "k", "size"] (spUp K (Z.wpCall sb P (k + 1)) 12) :=
  have F := FA r0
  def_ok T.u12.u sc_12 rfl rfl rfl fun cdv A outer s H E E' hr =>
    %[zasg 3 sc_12.nd ((le_bin o_mul ((le_bin o_mul (zcal hr F.f11 T.u11 #['a', 'b']) zi) ++ (zcal hr F.f11 T.u11 #['a', 'b' ++ zi])) zi) ++ (zcal hr F.f11 T.u11 #['a', 'b' ++ zi])), ls_ret ((le_bin o_mul 'd' zi) % (le_bin o_shl zi 'c'))|lss_nil]
theorem d_13 : FnOk Pr w K mg base CX0 (k + 1) f13 e13 ["cell", "size"] (spUp K (Z.wpCall sb P (k + 1)) 13) :=
  have F := FA r0
  def_ok T.u13.u sc_13 rfl rfl rfl fun cdv A outer s H E E' hr =>
    %[zasg 2 sc_13.nd (le_list #[zi, zi, zi])[(zcal hr F.f11 T.u11 #['a', zi]) % zi], (zasgc1 3 sc_13.nd ["cell", "size", "many", "classes", "world", "at"] ["cell", "size", "many", "classes", "world", "at"] (defScope (top 31)) rfl (li_rng1 rfl T.b_range #['c'] rfl) (fun _ _ _ _ => lc_none) (fun _ _ _ _ => zi)), zfor 4 PassesOwn.never rfl sc_13.nd (li_rng1 rfl T.b_range #['b'] rfl) %[zasg 5 sc_13.nd ((zcal hr F.f11 T.u11 #['a', zi ++ 'e']) % 'c'), zsetx hr (le_bin o_bor 'd'['f'] (le_bin o_shl zi 'e')) 'd' 'f'|lss_nil], ls_ret 'd'|lss_nil]
theorem d_14 : FnOk Pr w K mg base CX0 (k + 1) f14 e14 ["cell", "possible", "classes", "size"] (spUp K (Z.wpCall sb P (k + 1)) 14) :=
  have F := FA r0
  def_ok T.u14.u sc_14 rfl rfl rfl fun cdv A outer s H E E' hr =>
    %[zasg 4 sc_14.nd (le_bin o_band 'b' (zcal hr F.f12 T.u12 #['a', zi, 'd'])), ls_if (lt_cmp (isB_cmp rfl) o_gt ((zcal hr F.f11 T.u11 #['a', zi]) % zi) zi rfl) %[zasg 4 sc_14.nd (le_bin o_band 'e' (zcal hr F.f12 T.u12 #['a', zi, 'd']))|lss_nil] lss_nil, zasg 5 sc_14.nd (zcal hr F.f12 T.u12 #['a', zi, 'd']), zfor 6 PassesOwn.never rfl sc_14.nd (li_val 'c') %[zasg 7 sc_14.nd (le_bin o_band 'e' 'g'), ls_if (lt_cmp (isB_eq rfl) (o_ne (zu hr)) 'h' zi rfl) %[zasg 8 sc_14.nd (le_bin o_sub 'e' 'h'), ls_ret (le_tup #[le_bin o_bor 'h' (le_bin o_band 'i' 'f'), le_bin o_band (le_bin o_band 'i' (le_un u_inv 'f')) (le_un u_inv (zcal hr F.f12 T.u12 #['a', zi, 'd']))])|lss_nil] lss_nil|lss_nil], ls_ret (le_tup #['b', zi])|lss_nil]
theorem d_15 : FnOk Pr w K mg base CX0 (k + 1) f15 e15 ["cell", "possible", "rules", "size"] (spUp K (Z.wpCall sb P (k + 1)) 15) :=
  have F := FA r0
  def_ok T.u15.u sc_15 rfl rfl rfl fun cdv A outer s H E E' hr =>
    %[zasg 4 sc_15.nd (le_bin o_band 'b' (zcal hr F.f12 T.u12 #['a', zi, 'd'])), zasg 5 sc_15.nd (zcal hr F.f12 T.u12 #['a', zi, 'd']), zasg 6 sc_15.nd ((zcal hr F.f11 T.u11 #['a', zi]) % zi), ls_if (PW.pt (lw_and (lt_cmp (isB_cmp rfl) o_lt 'g' zi rfl) (lw_and1 (lt_cmp (isB_eq rfl) (o_ne (zu hr)) 'c' (le_list la_nil) rfl)))) %[zunp 7 8 rfl sc_15.nd 'c'[(zcal hr F.f11 T.u11 #['a', zi]) % ↑'c'], ls_ret (le_tup #['i', 'h'])|lss_nil] lss_nil, ls_ret (le_list #[le_tup #[zi, 'e'], le_tup #['e', zi], le_tup #[zi, zi], le_tup #[le_bin o_band 'e' 'f', le_bin o_band 'e' (le_un u_inv 'f')]])['g' % zi]|lss_nil]
theorem d_16 : FnOk Pr w K mg base CX0 (k + 1) f16 e16 ["script"] (spUp K (Z.wpCall sb P (k + 1)) 16) :=
  have F := FA r0
  def_ok T.u16.u sc_16 rfl rfl rfl fun cdv A outer s H E E' hr =>
    %[zasg 1 sc_16.nd (zcal hr F.f10 T.u10 #['a', zi]), zasg 2 sc_16.nd (zi ++ ((zcal hr F.f11 T.u11 #['b', zi]) % zi)), ls_if (((zcal hr F.f11 T.u11 #['b', zi]) % zi) == zi) %[zasg 2 sc_16.nd zi|lss_nil] lss_nil, zasg 3 sc_16.nd (le_bin o_sub (le_bin o_shl zi 'c') zi), ls_if (((zcal hr F.f11 T.u11 #['b', zi]) % zi) == zi) %[zasg 3 sc_16.nd (zcal hr F.f12 T.u12 #['b', zi, 'c'])|lss_nil] lss_nil, ls_if (((zcal hr F.f11 T.u11 #['b', zi]) % zi) == zi) %[zasg 3 sc_16.nd zi|lss_nil] lss_nil, zasg 4 sc_16.nd (zcal hr F.f13 T.u13 #['b', 'c']), zasg 5 sc_16.nd (le_cmp o_gt ((zcal hr F.f11 T.u11 #['b', zi]) % zi) zi rfl), zasg 6 sc_16.nd (le_list la_nil), zfor 7 PassesOwn.never rfl sc_16.nd (li_val (le_slLH 'a' zi zi)) %[zasg 8 sc_16.nd (zcal hr F.f14 T.u14 #['h', 'd', 'e', 'c']), ls_if (PW.pt (lw_and (ztru 'f') (lw_and1 (((zcal hr F.f11 T.u11 #['h', zi]) % zi) == zi)))) %[zasg 8 sc_16.nd (zcal hr F.f15 T.u15 #['h', 'd', 'g', 'c'])|lss_nil] lss_nil, ls_if (lt_cmp (isB_cmp rfl) o_lt ↑'g' zi rfl) %['g' <|> 'i'|lss_nil] %[zsetx hr 'i' 'g' ('h' % zi)|lss_nil]|lss_nil], ls_ret (le_tup #['c', 'd', zcallT c_tuple T.b_tuple bt_tuple #['g']])|lss_nil]
theorem d_17 : FnOk Pr w K mg base CX0 (k + 1) f17 e17 ["rules"] (spUp K (Z.wpCall sb P (k + 1)) 17) :=
  have F := FA r0
  def_ok T.u17.u sc_17 rfl rfl rfl fun cdv A outer s H E E' hr =>
    %[zasg 1 sc_17.nd (zcallT c_list T.b_list bt_list #['a']), zasg 2 sc_17.nd (zcallT c_list T.b_list bt_list #['a']), (ls_while PassesOwn.never (lt_cmp (isB_eq rfl) (o_ne (zu hr)) 'c' (le_list la_nil) rfl) %[zasg 3 sc_17.nd zi, zfor 4 PassesOwn.never rfl sc_17.nd (li_val 'b') %[zasg 3 sc_17.nd (le_bin o_bor 'd' 'e'[zi])|lss_nil], (zasgc1 2 sc_17.nd ["rules", "left", "out", "broken", "rule"] ["rules", "left", "out", "broken", ".rule"] (defScope (top 35)) rfl (li_val 'b') (fun _ _ _ _ => lc_one (lt_cmp (isB_eq rfl) (o_ne (zu hr)) (le_bin o_band 'f'[zi] (le_un u_inv 'd')) zi rfl)) (fun _ _ _ _ => 'f')), (zasgc1 1 sc_17.nd ["rules", "left", "out", "broken", "rule"] ["rules", "left", "out", "broken", ".rule"] (defScope (top 35)) rfl (li_val 'b') (fun _ _ _ _ => lc_one ((le_bin o_band 'f'[zi] (le_un u_inv 'd')) == zi)) (fun _ _ _ _ => 'f'))|lss_nil]), ls_ret 'b'|lss_nil]
theorem d_18 : FnOk Pr w K mg base CX0 (k + 1) f18 e18 ["frame", "met", "broken"] (spUp K (Z.wpCall sb P (k + 1)) 18) :=
  have F := FA r0
  def_ok T.u18.u sc_18 rfl rfl rfl fun cdv A outer s H E E' hr =>
    %[zasg 3 sc_18.nd (le_list la_nil), zasg 4 sc_18.nd (le_list la_nil), zasg 5 sc_18.nd zn, (ztryA 5 6 hr (fun r => (FA r).x9) T.u9.m T.u9.k T.u9.g sc_18.nd rfl rfl rfl T.mc0 T.n10 T.em10_0 #['a', 'b', 'c'] (fun _ _ => %[zasg 3 sc_18.nd (le_list #[zisE T.b_isinstance T.mc10 T.ie10_10 'g', zisEB T.b_isinstance T.b_ValueError bt_ValueError T.ieb10_ValueError 'g']), zasg 4 sc_18.nd (le_list #[zisET T.b_isinstance (ga_cons T.mc1 (ga_cons T.mc2 (ga_cons T.mc3 (ga_cons T.mc4 (ga_cons T.mc5 (ga_cons T.mc6 ga_nil)))))) T.it1 'g']), zasg 4 sc_18.nd ('e' ++ (le_list #[zisET T.b_isinstance (ga_cons T.mc7 (ga_cons T.mc8 (ga_cons T.mc9 (ga_cons T.mc11 ga_nil)))) T.it0 'g']))|lss_nil])), ls_ret (le_tup #['f', 'd', 'e'])|lss_nil]
theorem d_19 : FnOk Pr w K mg base CX0 (k + 1) f19 e19 ["frame", "torn", "met", "broken"] (spUp K (Z.wpCall sb P (k + 1)) 19) :=
  have F := FA r0
  def_ok T.u19.u sc_19 rfl rfl rfl fun cdv A outer s H E E' hr =>
    %[zunp3 4 5 6 rfl sc_19.nd (zcal hr F.f18 T.u18 #['a', 'c', 'd']), ls_if (ztru 'b') %[ls_ret (le_and (le_cmp (o_eq (zu hr)) 'f' (le_list #[zb, zb]) rfl) (le_one (le_cmp (o_eq (zu hr)) 'g' (le_list #[zb, zb]) rfl)))|lss_nil] lss_nil, (ls_if (PW.pt (lw_or (lt_cmp (isB_eq rfl) (o_ne (zu hr)) 'f' (le_list la_nil) rfl) (lw_or (lt_not (ztru (zisi (k := .tuple) T.b_isinstance T.b_tuple bt_tuple 'e'))) (lw_or ('e' == (le_tup la_nil)) (lw_or1 (lt_not (ztru (zisi (k := .str) T.b_isinstance T.b_str bt_str 'e'[zi])))))))) %[ls_ret zb|lss_nil] lss_nil), ls_if (PW.pt (lw_and ('c' == zi) (lw_and1 ('d' == zi)))) %[ls_ret (le_cmp (o_eq (zu hr)) 'e' (le_tup #[zt]) rfl)|lss_nil] lss_nil, ls_ret (le_and (le_cmp (o_in (zu hr)) 'e'[zi] (le_tup #[zt, zt]) rfl) (le_one (le_cmp (o_eq (zu hr)) ↑'e' zi rfl)))|lss_nil]
theorem d_20 : FnOk Pr w K mg base CX0 (k + 1) f20 e20 ["frame", "cell"] (spUp K (Z.wpCall sb P (k + 1)) 20) :=
  have F := FA r0
  def_ok T.u20.u sc_20 rfl rfl rfl fun cdv A outer s H E E' hr =>
    %[zunp3 2 3 4 rfl sc_20.nd 'a', zasg 5 sc_20.nd (le_bin o_band 'd' (zcal hr F.f12 T.u12 #['b', zi, 'c'])), zasg 6 sc_20.nd (zcal hr F.f12 T.u12 #['b', zi, 'c']), zasg 7 sc_20.nd ((zcal hr F.f11 T.u11 #['b', zi]) % zi), ls_if (PW.pt (lw_and ('h' == zi) (lw_and1 (lt_cmp (isB_eq rfl) (o_ne (zu hr)) 'e' (le_tup la_nil) rfl)))) %[ls_ret 'e'[(zcal hr F.f11 T.u11 #['b', zi]) % ↑'e']|lss_nil] lss_nil, ls_ret (le_list #[le_tup #[zi, zi], le_tup #[zi, 'f'], le_tup #['f', zi], le_tup #[le_bin o_band 'f' 'g', le_bin o_band 'f' (le_un u_inv 'g')], le_tup #[zi, zi], le_tup #[zi, zi]])['h']|lss_nil]
theorem d_21 : FnOk Pr w K mg base CX0 (k + 1) f21 e21 ["script"] (spUp K (Z.wpCall sb P (k + 1)) 21) :=
  have F := FA r0
  def_ok T.u21.u sc_21 rfl rfl rfl fun cdv A outer s H E E' hr =>
    %[zasg 1 sc_21.nd (zcal hr F.f16 T.u16 #['a']), zasg 2 sc_21.nd (le_cmp (o_ne (zu hr)) (zcal hr F.f17 T.u17 #['b'[zi]]) (le_list la_nil) rfl), zasg 3 sc_21.nd (zcal hr F.f10 T.u10 #['a', zi]), zfor 4 PassesOwn.never rfl sc_21.nd (li_rng1 rfl T.b_range #[zi] rfl) %[zunp 5 6 rfl sc_21.nd (zcal hr F.f20 T.u20 #['b', 'd' ++ 'e']), ls_if (lt_not (ztru (zcal hr F.f19 T.u19 #['b', 'c', 'f', 'g']))) %[ls_ret zb|lss_nil] lss_nil|lss_nil], ls_ret zb|lss_nil]
end
theorem fns (T : Txt K mg f0 f1 f2 f3 f4 f5 f6 f7 f8 f9 f10 f11 f12 f13 f14 f15 f16 f17 f18 f19 f20 f21 c0 c1 c2 c3 c4 c5 c6 c7 c8 c9 c10 c11 e0 e1 e2 e3 e4 e5 e6 e7 e8 e9 e10 e11 e12 e13 e14 e15 e16 e17 e18 e19 e20 e21) : ∀ (k : Nat) (r : R0), @Fns r Pr w K mg base k f0 f1 f2 f3 f4 f5 f6 f7 f8 f9 f10 f11 f12 f13 f14 f15 f16 f17 f18 f19 f20 f21 c0 c1 c2 c3 c4 c5 c6 c7 c8 c9 c10 c11 e0 e1 e2 e3 e4 e5 e6 e7 e8 e9 e10 e11 e12 e13 e14 e15 e16 e17 e18 e19 e20 e21 (Z.wpCall sb P k)
  | 0, r => ⟨def_noX, def_no, def_no, def_no, def_no, def_no, def_no, def_no, def_no, def_no, def_no, def_no, def_no, def_no, def_no, def_no, def_no, def_no, def_no, def_no, def_no, def_no, def_no⟩
  | k + 1, r => have FA := fns T k; have F := FA r; ⟨dx_9 T FA, d_0 T FA, d_1 T FA, d_2 T FA, d_3 T FA, d_4 T FA, d_5 T FA, d_6 T FA, d_7 T FA, d_8 T FA, d_9 T FA, d_10 T FA, d_11 T FA, d_12 T FA, d_13 T FA, d_14 T FA, d_15 T FA, d_16 T FA, d_17 T FA, d_18 T FA, d_19 T FA, d_20 T FA, d_21 T FA⟩
end
theorem all_mk {l : PySem.W.OpenLaw} {w : World} {K : Frag} {h : Heap} {mg : Str → Option Value} (X : K.In h) (G : h.Ns mainGlobals mg) (hfa : mg "law" = some (.ref fa))
    {c0 c1 c2 c3 c4 c5 c6 c7 c8 c9 c10 c11 : Addr}
    (n0 : nsIn K mainGlobals "WontError" = some (some (.ref c0)))
    (n1 : nsIn K mainGlobals "RowError" = some (some (.ref c1)))
    (n2 : nsIn K mainGlobals "NoRow" = some (some (.ref c2)))
    (n3 : nsIn K mainGlobals "TooLong" = some (some (.ref c3)))
    (n4 : nsIn K mainGlobals "NoSentence" = some (some (.ref c4)))
    (n5 : nsIn K mainGlobals "Twice" = some (some (.ref c5)))
    (n6 : nsIn K mainGlobals "TooMany" = some (some (.ref c6)))
    (n7 : nsIn K mainGlobals "NoAsk" = some (some (.ref c7)))
    (n8 : nsIn K mainGlobals "NoName" = some (some (.ref c8)))
    (n9 : nsIn K mainGlobals "NotTold" = some (some (.ref c9)))
    (n10 : nsIn K mainGlobals "Torn" = some (some (.ref c10)))
    (n11 : nsIn K mainGlobals "NoNews" = some (some (.ref c11)))
    (a0 : FQ K "places" (top 14) f0)
    (a1 : FQ K "has" (top 15) f1)
    (a2 : FQ K "let_by" (top 17) f2)
    (a3 : FQ K "levels" (top 18) f3)
    (a4 : FQ K "going_out" (top 19) f4)
    (a5 : FQ K "is_torn" (top 20) f5)
    (a6 : FQ K "needed" (top 21) f6)
    (a7 : FQ K "ranking" (top 23) f7)
    (a8 : FQ K "rank_of" (top 24) f8)
    (a9 : FQ K "follows" (top 26) f9)
    (a10 : FQ K "_law_cell_at" (top 28) f10)
    (a11 : FQ K "_law_draw" (top 29) f11)
    (a12 : FQ K "_law_mask" (top 30) f12)
    (a13 : FQ K "_law_classes" (top 31) f13)
    (a14 : FQ K "_law_rule" (top 32) f14)
    (a15 : FQ K "_law_wild" (top 33) f15)
    (a16 : FQ K "_law_frame" (top 34) f16)
    (a17 : FQ K "_law_left" (top 35) f17)
    (a18 : FQ K "_law_asked" (top 36) f18)
    (a19 : FQ K "_law_right" (top 37) f19)
    (a20 : FQ K "_law_further" (top 38) f20)
    (a21 : FQ K "law" (top 39) f21)
    (iH : PySem.W.specialIn K (.builtin "object.__class__") "__get__" = some (some (.builtin "getset_descriptor.__get__")))
    (iT : PySem.W.takesIn K (.builtin "object.__class__") = some true)
    (xc10 : excIn K c10 VB "ValueError.__new__" = true)
    (xg10 : PySem.W.findIn K (.ref c10) "__getattribute__" = some (some (.builtin "BaseException.__getattribute__")))
    (xh10 : PySem.W.findIn K (.ref c10) "__getattr__" = some none)
    (xl10 : PySem.W.findIn K (.ref c10) "__class__" = some (some (.builtin "object.__class__")))
    (xo10 : PySem.W.mroIn K c10 (.type "object") = some true)
    (xb10 : PySem.W.mroIn K c10 (.type "BaseException") = some true)
    (xK10_10 : PySem.W.mroIn K c10 (.ref c10) = some true)
    (xK10_0 : PySem.W.mroIn K c10 (.ref c0) = some true)
    (xK10_7 : PySem.W.mroIn K c10 (.ref c7) = some false)
    (xK10_8 : PySem.W.mroIn K c10 (.ref c8) = some false)
    (xK10_9 : PySem.W.mroIn K c10 (.ref c9) = some false)
    (xK10_11 : PySem.W.mroIn K c10 (.ref c11) = some false)
    (xK10_1 : PySem.W.mroIn K c10 (.ref c1) = some false)
    (xK10_2 : PySem.W.mroIn K c10 (.ref c2) = some false)
    (xK10_3 : PySem.W.mroIn K c10 (.ref c3) = some false)
    (xK10_4 : PySem.W.mroIn K c10 (.ref c4) = some false)
    (xK10_5 : PySem.W.mroIn K c10 (.ref c5) = some false)
    (xK10_6 : PySem.W.mroIn K c10 (.ref c6) = some false)
    (xS7 : PySem.W.mroIn K c7 (.ref c7) = some true)
    (xY7 : typeIn K (.ref c7) = some (.type "type"))
    (xS8 : PySem.W.mroIn K c8 (.ref c8) = some true)
    (xY8 : typeIn K (.ref c8) = some (.type "type"))
    (xS11 : PySem.W.mroIn K c11 (.ref c11) = some true)
    (xY11 : typeIn K (.ref c11) = some (.type "type"))
    (xS2 : PySem.W.mroIn K c2 (.ref c2) = some true)
    (xY2 : typeIn K (.ref c2) = some (.type "type"))
    (xS4 : PySem.W.mroIn K c4 (.ref c4) = some true)
    (xY4 : typeIn K (.ref c4) = some (.type "type"))
    (xS9 : PySem.W.mroIn K c9 (.ref c9) = some true)
    (xY9 : typeIn K (.ref c9) = some (.type "type"))
    (xS1 : PySem.W.mroIn K c1 (.ref c1) = some true)
    (xY1 : typeIn K (.ref c1) = some (.type "type"))
    (xS3 : PySem.W.mroIn K c3 (.ref c3) = some true)
    (xY3 : typeIn K (.ref c3) = some (.type "type"))
    (xS6 : PySem.W.mroIn K c6 (.ref c6) = some true)
    (xY6 : typeIn K (.ref c6) = some (.type "type"))
    (xS10 : PySem.W.mroIn K c10 (.ref c10) = some true)
    (xY10 : typeIn K (.ref c10) = some (.type "type"))
    (xS5 : PySem.W.mroIn K c5 (.ref c5) = some true)
    (xY5 : typeIn K (.ref c5) = some (.type "type"))
    (xS0 : PySem.W.mroIn K c0 (.ref c0) = some true)
    (xY0 : typeIn K (.ref c0) = some (.type "type"))
    (xT10_ValueError : PySem.W.mroIn K c10 (.type "ValueError") = some true)
    (xB0 : PySem.W.mroIn K c0 (.type "BaseException") = some true)
    (z_ValueError : nsIn K mainGlobals "ValueError" = some none)
    (z_isinstance : nsIn K mainGlobals "isinstance" = some none)
    (z_len : nsIn K mainGlobals "len" = some none)
    (z_list : nsIn K mainGlobals "list" = some none)
    (z_max : nsIn K mainGlobals "max" = some none)
    (z_range : nsIn K mainGlobals "range" = some none)
    (z_str : nsIn K mainGlobals "str" = some none)
    (z_tuple : nsIn K mainGlobals "tuple" = some none)
    (z_zip : nsIn K mainGlobals "zip" = some none)
    : ∃ fd : FuncData, (∀ (s : Shared) (v : Value), BindsTo s fd ⟨[v], []⟩ [("script", v)]) ∧ ∀ base : Heap, K.In base → base.Ns mainGlobals mg → FnOk l.prog w K mg base CX0 50 fa fd ["script"] (@spUp R0.nil K (Z.wpCall sb P 50) 21) := by
  letI : R0 := R0.nil
  have e := hfa.symm.trans (mg_of X G a21.1)
  cases e
  obtain ⟨e0, F0⟩ := ff1 X G a0 "mask" rfl
  obtain ⟨e1, F1⟩ := ff2 X G a1 "mask" "number" rfl
  obtain ⟨e2, F2⟩ := ff3 X G a2 "frame" "among" "rule" rfl
  obtain ⟨e3, F3⟩ := ff1 X G a3 "frame" rfl
  obtain ⟨e4, F4⟩ := ff2 X G a4 "frame" "left" rfl
  obtain ⟨e5, F5⟩ := ff2 X G a5 "frame" "among" rfl
  obtain ⟨e6, F6⟩ := ff3 X G a6 "frame" "rules" "besides" rfl
  obtain ⟨e7, F7⟩ := ff1 X G a7 "frame" rfl
  obtain ⟨e8, F8⟩ := ff3 X G a8 "frame" "told" "world" rfl
  obtain ⟨e9, F9⟩ := ff3 X G a9 "frame" "met" "broken" rfl
  obtain ⟨e10, F10⟩ := ff2 X G a10 "script" "k" rfl
  obtain ⟨e11, F11⟩ := ff2 X G a11 "cell" "k" rfl
  obtain ⟨e12, F12⟩ := ff3 X G a12 "cell" "k" "size" rfl
  obtain ⟨e13, F13⟩ := ff2 X G a13 "cell" "size" rfl
  obtain ⟨e14, F14⟩ := ff4 X G a14 "cell" "possible" "classes" "size" rfl
  obtain ⟨e15, F15⟩ := ff4 X G a15 "cell" "possible" "rules" "size" rfl
  obtain ⟨e16, F16⟩ := ff1 X G a16 "script" rfl
  obtain ⟨e17, F17⟩ := ff1 X G a17 "rules" rfl
  obtain ⟨e18, F18⟩ := ff3 X G a18 "frame" "met" "broken" rfl
  obtain ⟨e19, F19⟩ := ff4 X G a19 "frame" "torn" "met" "broken" rfl
  obtain ⟨e20, F20⟩ := ff2 X G a20 "frame" "cell" rfl
  obtain ⟨e21, F21⟩ := ff1 X G a21 "script" rfl
  refine ⟨e21, fun s v => ff_to F21 rfl, fun base _ _ => ?_⟩
  exact (fns (Pr := l.prog) (w := w) (base := base) ⟨F0, F1, F2, F3, F4, F5, F6, F7, F8, F9, F10, F11, F12, F13, F14, F15, F16, F17, F18, F19, F20, F21, n0, mg_of X G n0, n1, mg_of X G n1, n2, mg_of X G n2, n3, mg_of X G n3, n4, mg_of X G n4, n5, mg_of X G n5, n6, mg_of X G n6, n7, mg_of X G n7, n8, mg_of X G n8, n9, mg_of X G n9, n10, mg_of X G n10, n11, mg_of X G n11, xc10, (ise_y n10 ⟨xg10, xh10, xl10, xo10, xb10⟩ (kit_ow xK10_10 xS10 xY10) (ise_nil iH iT)), (ise_y n10 ⟨xg10, xh10, xl10, xo10, xb10⟩ (kit_ty (by decide +kernel) xT10_ValueError) (ise_nil iH iT)), (ist_no iH iT n10 ⟨xg10, xh10, xl10, xo10, xb10⟩ (any_no (kit_ow xK10_7 xS7 xY7) (any_no (kit_ow xK10_8 xS8 xY8) (any_no (kit_ow xK10_9 xS9 xY9) (any_no (kit_ow xK10_11 xS11 xY11) any_nil))))), (ist_no iH iT n10 ⟨xg10, xh10, xl10, xo10, xb10⟩ (any_no (kit_ow xK10_1 xS1 xY1) (any_no (kit_ow xK10_2 xS2 xY2) (any_no (kit_ow xK10_3 xS3 xY3) (any_no (kit_ow xK10_4 xS4 xY4) (any_no (kit_ow xK10_5 xS5 xY5) (any_no (kit_ow xK10_6 xS6 xY6) any_nil))))))), (exm_ow xB0 xK10_0 xS0 xY0), mg_none_of X G z_ValueError, mg_none_of X G z_isinstance, mg_none_of X G z_len, mg_none_of X G z_list, mg_none_of X G z_max, mg_none_of X G z_range, mg_none_of X G z_str, mg_none_of X G z_tuple, mg_none_of X G z_zip⟩ 50 R0.nil).f21
end K40
open PySem PySem.W PyProof.Rows
set_option maxRecDepth 100000 in
set_option maxHeartbeats 0 in
theorem PySem.Challenge.cw_wontbook_k40_never_and_torn_holds : PySem.Challenge.rw_wontbook_k40_never_and_torn.Holds := by
  w_on
  refine holds_law K40.ws fun said => ?_
  refine ZH.head_q (q := K40.QV) (loose := []) (N := 6850) (K := K40.dm.heap_1) (as := K40.AL) (fun _ => by kernel_rfl) K40.go rfl rfl (fun _ => rfl) (by rfl) (by rfl) (by rfl) (by rfl) (by assumption) (by decide +kernel) ⟨rfl, rfl, rfl, rfl, rfl, by decide +kernel⟩ (by w_witness2) ?_
  k_fill
  refine ZS.walkZ (l := PySem.Challenge.rw_wontbook_k40_never_and_torn) (kk := 50) (i := 21) (sub := K40.sb) (Pg := K40.P) rfl rfl ⟨rfl, by decide, by decide⟩ (fun w h Y => kIn_of Y) (fun ns hl => K40.law_wp ns hl) ?F
  case F =>
    intro w mg fa h KX G hmg
    refine' K40.all_mk KX G hmg ..
    all_goals try refine' ZS.fq_mk _ _ _ _
    all_goals try k_is
    all_goals first | rfl | kernel_rfl | decide +kernel

