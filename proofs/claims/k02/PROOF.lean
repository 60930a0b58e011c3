import PyProof.Rows.All
import Wide.All
import OpenK.AllK
import Wide.FinOn
import Lean
import PyProof.EqAt
import PyProof.EqKinds
import PyProof.TupleCall
import PyProof.ExcBaseAll.ValueError
import PyProof.ExcAttrAll.ValueError
import KE.KTryMore
import OpenK.KOwn
import PyProof.InstSpecial
import KE.KRevIter
import KE.KDictList
import PyProof.SetScanFacts
import PyProof.Rows.SetFrom
import KE.KRevIter
import PyProof.Rows.SortShell
import PyProof.CollectWalk
import PyProof.Rows.SortWalk
import PyProof.ExcInit
import PyProof.InstStoreFacts
import PyProof.StrWalks
import PyProof.EnumMake
import PyProof.StrBlock2
import PySem.Challenge.RW_wontbook_k02_read_by_hand
set_option linter.all false
set_option maxRecDepth 100000
set_option maxHeartbeats 4000000
set_option bootstrap.genMatcherCode false
noncomputable section
set_option genSizeOf false
set_option genInjectivity false
namespace Z
noncomputable abbrev S:=List Nat
inductive D where
 | non | bl (b:Bool) | int (i:Int) | str (s:S) | tup (xs:List D) | eY (xs:List D) | ref (n:Nat)
noncomputable abbrev KK:=Sum Int S
inductive AO where
 | lst (xs:List D) | dct (kvs:List (KK×D)) | obj (c:S) (fs:List (S×D)) | exc (c:S) | cW (c:S) (i:Int)
noncomputable abbrev AH:=List AO
noncomputable abbrev Lo:=List (Option D)
noncomputable def lim:Nat:=16777216
noncomputable def tx (s:String):S:=s.toList.map Char.toNat
noncomputable def eqZ (f:D->D->Option Bool):List D->List D->Option Bool
 | [],[]=>some true
 | [],_::_=>some false
 | _::_,[]=>some false
 | x::xs,y::ys=>match f x y,eqZ f xs ys with
  | some a,some b=>some (a && b)
  | _,_=>none
noncomputable def lW:Nat->D->D->Option Bool
 | _,.non,.non=>some true
 | _,.non,.bl _=>some false
 | _,.non,.int _=>some false
 | _,.non,.str _=>some false
 | _,.bl _,.non=>some false
 | _,.bl a,.bl b=>some (a == b)
 | _,.bl _,.str _=>some false
 | _,.int _,.non=>some false
 | _,.int a,.int b=>some (a == b)
 | _,.int _,.str _=>some false
 | _,.str _,.non=>some false
 | _,.str _,.bl _=>some false
 | _,.str _,.int _=>some false
 | _,.str a,.str b=>some (a == b)
 | _+1,.non,.tup _=>some false
 | _+1,.bl _,.tup _=>some false
 | _+1,.int _,.tup _=>some false
 | _+1,.str _,.tup _=>some false
 | _+1,.tup _,.non=>some false
 | _+1,.tup _,.bl _=>some false
 | _+1,.tup _,.int _=>some false
 | _+1,.tup _,.str _=>some false
 | n+1,.tup xs,.tup ys=>eqZ (lW n) xs ys
 | _,_,_=>none
noncomputable def eqD (x y:D):Option Bool:=lW 150 x y
noncomputable def Rg (h:AH):D->Option (List D)
 | .tup xs=>some xs
 | .eY xs=>some xs
 | .ref n=>match h[n]? with
  | some (.lst xs)=>some xs
  | _=>none
 | _=>none
noncomputable def HB (xs ys:List D):Option Bool:=if xs.length=ys.length then eqZ (lW 149) xs ys else some false
noncomputable def oJ (h:AH):D->D->Option Bool
 | .ref a,.ref b=>match h[a]?,h[b]? with
  | some (.lst xs),some (.lst ys)=>HB xs ys
  | _,_=>none
 | x,y=>eqD x y
noncomputable def dN (x:D):List D->Option Bool
 | []=>some false
 | y::ys=>match lW 149 y x,dN x ys with
  | some a,some b=>some (a || b)
  | _,_=>none
noncomputable def truthy (h:AH):D->Option Bool
 | .non=>some false
 | .bl b=>some b
 | .int i=>some (i != 0)
 | .str s=>some (!s.isEmpty)
 | .tup xs=>some (!xs.isEmpty)
 | .eY xs=>some (!xs.isEmpty)
 | .ref n=>match h[n]? with
  | some (.lst xs)=>some (!xs.isEmpty)
  | some (.dct kvs)=>some (!kvs.isEmpty)
  | _=>none
noncomputable def kh (n:Nat) (i:Int):Option Nat:=if 0<=i then (if i < n then some i.toNat else none) else if -(n:Int)<=i then some (i+n).toNat else none
noncomputable def cB {α:Type} (xs:List α) (i:Int):Option α:=(kh xs.length i).bind λj=>xs[j]?
noncomputable def bL (n d:Nat):Option Int->Nat
 | none=>d
 | some v=>(if v < 0 then max (v+n) 0 else min v n).toNat
noncomputable def cut {α:Type} (xs:List α) (lo hi:Option Int):List α:=(xs.drop (bL xs.length 0 lo)).take (bL xs.length xs.length hi - bL xs.length 0 lo)
noncomputable def vW:D->Option KK
 | .int i=>some (.inl i)
 | .str s=>some (.inr s)
 | _=>none
noncomputable def kkD:KK->D
 | .inl i=>.int i
 | .inr s=>.str s
noncomputable def zV (kvs:List (KK×D)) (k:KK):Option D:=(kvs.find? λkv=>decide (kv.1=k)).map (·.2)
noncomputable def HD (kvs:List (KK×D)) (k:KK) (v:D):List (KK×D):=
 if kvs.any (λkv=>decide (kv.1=k)) then kvs.map (λkv=>if kv.1=k then (kv.1,v) else kv) else kvs++[(k,v)]
noncomputable def strsOf:List D->Option (List S)
 | []=>some []
 | .str s::r=>(strsOf r).map (s::·)
 | _=>none
noncomputable def intsOf:List D->Option (List Int)
 | []=>some []
 | .int s::r=>(intsOf r).map (s::·)
 | _=>none
noncomputable def sLt:S->S->Bool
 | [],[]=>false
 | [],_::_=>true
 | _::_,[]=>false
 | x::xs,y::ys=>if x=y then sLt xs ys else decide (x < y)
noncomputable def adq (x:S):List S->List S
 | []=>[x]
 | y::ys=>if sLt x y then x::y::ys else y::adq x ys
noncomputable def aav (l:List S):List S:=l.foldl (λacc x=>adq x acc) []
noncomputable def insI (x:Int):List Int->List Int
 | []=>[x]
 | y::ys=>if x < y then x::y::ys else y::insI x ys
noncomputable def sortI (l:List Int):List Int:=l.foldl (λacc x=>insI x acc) []
noncomputable def splitOn (c:Nat):S->List S
 | []=>[[]]
 | x::xs=>if x=c then []::splitOn c xs else match splitOn c xs with
  | []=>[[x]]
  | w::ws=>(x::w)::ws
noncomputable def aaw (sep:S):List S->S
 | []=>[]
 | [x]=>x
 | x::y::r=>x++sep++aaw sep (y::r)
noncomputable def lstrip (c:Nat):S->S
 | []=>[]
 | x::xs=>if x=c then lstrip c xs else x::xs
noncomputable def strip (c:Nat) (s:S):S:=(lstrip c (lstrip c s).reverse).reverse
inductive KN | int | bool | str | list | tuple | cls (c:Nat)
 deriving DecidableEq
inductive Prim
 | add | sub | mul | fdiv | mod | pow | shl | shr | band | bor | bxor | neg | inv
 | eq | ne | lt | le | gt | ge | su | XQ | Ei | kj
 | dW | bG | aax
 | idx | ak9 | K8 | Vw | ak_
 | len | jX (k:KN) | max2 | min2
 | ahM | adt | abA | str_ | int_ | bool_
 | append | extend | pop | ahN | insert | index | count | join | split | Py | uG | strip | find | Vx | atr | atu
 | iU
 | ux (t:List (S×D)) | sy (t:List (S×D))
 | ala | Rh | alb | min1 | alc | minD | abB | ald | Ri | abC
 | attr (cs:List S) (f:S) | setattr (cs:List S) (f:S)
 | isC (yes no:List S) | adu | all1 | dZ (yes no:List S) | Jr | HF (cs:List S) | Fg | HJ | adv
noncomputable def okR (i:Int):Bool:=@decide (-4611686018427387904<=i/\i < 4611686018427387904) (Classical.propDecidable _)
theorem Dm {i:Int}:okR i=true↔(-4611686018427387904<=i/\i < 4611686018427387904):=@decide_eq_true_iff _ (Classical.propDecidable _)
noncomputable def Pz (a b c:Int):Bool:=@decide (-2147483648<=a/\a < 2147483648/\-2147483648<=b/\b < 2147483648/\0 < c/\c < 1073741824) (Classical.propDecidable _)
theorem HN {a b c:Int}:Pz a b c=true↔(-2147483648<=a/\a < 2147483648/\-2147483648<=b/\b < 2147483648/\0 < c/\c < 1073741824):=@decide_eq_true_iff _ (Classical.propDecidable _)
noncomputable def Gh (i:Int):Bool:=@decide (-18446744073709551616 < i/\i < 18446744073709551616) (Classical.propDecidable _)
theorem vX {i:Int}:Gh i=true↔(-18446744073709551616 < i/\i < 18446744073709551616):=@decide_eq_true_iff _ (Classical.propDecidable _)
noncomputable def K9 (i:Int):Bool:=@decide (-2037035976334486086268445688409378161051468393665936250636140449354381299763336706183397376 < i/\i < 2037035976334486086268445688409378161051468393665936250636140449354381299763336706183397376) (Classical.propDecidable _)
theorem vY {i:Int}:K9 i=true↔(-2037035976334486086268445688409378161051468393665936250636140449354381299763336706183397376 < i/\i < 2037035976334486086268445688409378161051468393665936250636140449354381299763336706183397376):=@decide_eq_true_iff _ (Classical.propDecidable _)
noncomputable def K_ (x:Int):Int:=-x - 1
noncomputable def XR:Int->Int->Int
 | .ofNat a,.ofNat b=>((a &&& b:Nat):Int)
 | .ofNat a,.negSucc b=>((a - (a &&& b):Nat):Int)
 | .negSucc a,.ofNat b=>((b - (b &&& a):Nat):Int)
 | .negSucc a,.negSucc b=>.negSucc (a ||| b)
noncomputable def bOr (x y:Int):Int:=K_ (XR (K_ x) (K_ y))
noncomputable def adw (i:Int):Nat:=if i=0 then 0 else i.natAbs.log2+1
noncomputable def pairsOf:List D->Option (List (Int×Int))
 | []=>some []
 | .tup [.int a,.int b]::r=>(pairsOf r).map ((a,b)::·)
 | _=>none
noncomputable def pLt (x y:Int×Int):Bool:=decide (x.1 < y.1\/(x.1=y.1/\x.2 < y.2))
noncomputable def adx (x:Int×Int):List (Int×Int)->List (Int×Int)
 | []=>[x]
 | y::ys=>if pLt x y then x::y::ys else y::adx x ys
noncomputable def ahO (l:List (Int×Int)):List (Int×Int):=l.foldl (λacc x=>adx x acc) []
noncomputable def ady:List Int->Option Int
 | []=>none
 | x::r=>some (r.foldl (λa b=>if b < a then b else a) x)
noncomputable def ale:List Int->Option Int
 | []=>none
 | x::r=>some (r.foldl (λa b=>if b > a then b else a) x)
noncomputable def ahP (l:List Int):List Int:=l.foldl (λacc x=>if acc.contains x then acc else acc++[x]) []
noncomputable def jx (x:S):S->Bool
 | []=>x.isEmpty
 | c::r=>x.isPrefixOf (c::r) || jx x r
noncomputable def aay:List D->Option S
 | []=>some []
 | .str s::r=>(aay r).map (s++·)
 | _=>none
noncomputable def newL (xs:List D) (h:AH):Option (D×AH):=if xs.length<=lim then some (.ref h.length,h++[.lst xs]) else none
noncomputable def HS (n:Nat) (xs:List D) (v:D) (h:AH):Option (D×AH):=if xs.length<=lim then some (v,h.set n (.lst xs)) else none
noncomputable def gW (h:AH) (sub:Nat->Nat->Bool):KN->D->Option Bool
 | .int,.int _=>some true
 | .int,.bl _=>some true
 | .bool,.bl _=>some true
 | .str,.str _=>some true
 | .tuple,.tup _=>some true
 | .list,.eY _=>some true
 | .list,.ref n=>match h[n]? with
  | some (.lst _)=>some true
  | some (.dct _)=>some false
  | _=>none
 | _,.ref n=>match h[n]? with
  | some (.lst _)=>some false
  | some (.dct _)=>some false
  | _=>none
 | _,_=>some false
noncomputable def Rj:List D->AH->Option (D×AH)
 | [.int i,.int j],h=>some (.int (i+j),h)
 | [.str i,.str j],h=>if i.length+j.length<=lim then some (.str (i++j),h) else none
 | [.tup i,.tup j],h=>if i.isEmpty then some (.tup j,h) else if i.length+j.length<=lim then some (.tup (i++j),h) else none
 | [.ref a,.ref b],h=>match h[a]?,h[b]? with
  | some (.lst xs),some (.lst ys)=>newL (xs++ys) h
  | _,_=>none
 | [.ref a,.eY ys],h=>match h[a]? with
  | some (.lst xs)=>newL (xs++ys) h
  | _=>none
 | _,_=>none
noncomputable def mX (f:Int->Int->Int):List D->AH->Option (D×AH)
 | [.int i,.int j],h=>some (.int (f i j),h)
 | _,_=>none
noncomputable def XS:List D->AH->Option (D×AH)
 | [.int i,.int j],h=>if Gh i || Gh j || (K9 i && K9 j) then some (.int (i * j),h) else none
 | [.ref a,.int k],h=>match h[a]? with
  | some (.lst xs)=>if okR k then newL (List.replicate k.toNat xs).flatten h else none
  | _=>none
 | _,_=>none
noncomputable def Rk:List D->AH->Option (D×AH)
 | [.int i,.int j],h=>if 0 < j/\K9 j=true then some (.int (i / j),h) else none
 | _,_=>none
noncomputable def X3:List D->AH->Option (D×AH)
 | [.int i,.int j],h=>if 0 < j then some (.int (i % j),h) else none
 | _,_=>none
noncomputable def X4:List D->AH->Option (D×AH)
 | [.int i,.int j],h=>if 0<=j/\j<=1000000/\i.natAbs < 18446744073709551616 then some (.int (i ^ j.toNat),h) else none
 | _,_=>none
noncomputable def Fi:List D->AH->Option (D×AH)
 | [.int i],h=>some (.int (-i),h)
 | _,_=>none
noncomputable def PB (n:Bool):List D->AH->Option (D×AH)
 | [x,y],h=>(oJ h x y).map λb=>(.bl (b != n),h)
 | _,_=>none
noncomputable def zW (f:Int->Int->Bool):List D->AH->Option (D×AH)
 | [.int i,.int j],h=>some (.bl (f i j),h)
 | _,_=>none
noncomputable def HW (n:Bool):List D->AH->Option (D×AH)
 | [.non],h=>some (.bl (!n),h)
 | [_],h=>some (.bl n,h)
 | _,_=>none
noncomputable def Js (n:Bool):List D->AH->Option (D×AH)
 | [x,.tup ys],h=>(dN x ys).map λb=>(.bl (b != n),h)
 | [x,.eY ys],h=>(dN x ys).map λb=>(.bl (b != n),h)
 | [x,.ref a],h=>match h[a]? with
  | some (.lst ys)=>(dN x ys).map λb=>(.bl (b != n),h)
  | some (.dct kvs)=>(vW x).map λk=>(.bl ((zV kvs k).isSome != n),h)
  | _=>none
 | _,_=>none
noncomputable def X5 (xs:List D) (h:AH):Option (D×AH):=if xs.length<=lim then some (.tup xs,h) else none
noncomputable def alf:List D->AH->Option (D×AH)
 | [],h=>some (.ref h.length,h++[.dct []])
 | _,_=>none
noncomputable def X6:List D->AH->Option (D×AH)
 | [.str s,.int i],h=>(cB s i).map λc=>(.str [c],h)
 | [.tup xs,.int i],h=>(cB xs i).map λv=>(v,h)
 | [.eY xs,.int i],h=>(cB xs i).map λv=>(v,h)
 | [.ref n,k],h=>match h[n]? with
  | some (.dct kvs)=>(vW k).bind λq=>(zV kvs q).map λv=>(v,h)
  | some (.lst xs)=>match k with
   | .int i=>(cB xs i).map λv=>(v,h)
   | _=>none
  | _=>none
 | _,_=>none
noncomputable def dO (x:D) (lo hi:Option Int) (h:AH):Option (D×AH):=match x with
 | .str s=>some (.str (cut s lo hi),h)
 | .tup xs=>if bL xs.length 0 lo=0/\bL xs.length xs.length hi=xs.length then none else some (.tup (cut xs lo hi),h)
 | .eY xs=>newL (cut xs lo hi) h
 | .ref n=>match h[n]? with
  | some (.lst xs)=>newL (cut xs lo hi) h
  | _=>none
 | _=>none
noncomputable def ahQ:List D->AH->Option (D×AH)
 | [x],h=>dO x none none h
 | _,_=>none
noncomputable def alg:List D->AH->Option (D×AH)
 | [x,.int i],h=>dO x (some i) none h
 | _,_=>none
noncomputable def alh:List D->AH->Option (D×AH)
 | [x,.int i],h=>dO x none (some i) h
 | _,_=>none
noncomputable def ahR:List D->AH->Option (D×AH)
 | [x,.int i,.int j],h=>dO x (some i) (some j) h
 | _,_=>none
noncomputable def X7:List D->AH->Option (D×AH)
 | [.str s],h=>some (.int s.length,h)
 | [.tup s],h=>some (.int s.length,h)
 | [.eY s],h=>some (.int s.length,h)
 | [.ref n],h=>match h[n]? with
  | some (.lst xs)=>some (.int xs.length,h)
  | some (.dct xs)=>some (.int xs.length,h)
  | _=>none
 | _,_=>none
noncomputable def X8 (sub:Nat->Nat->Bool) (k:KN):List D->AH->Option (D×AH)
 | [x],h=>(gW h sub k x).map λb=>(.bl b,h)
 | _,_=>none
noncomputable def ahS:List D->AH->Option (D×AH)
 | [x],h=>(Rg h x).bind λxs=>newL xs h
 | _,_=>none
noncomputable def adz:List D->AH->Option (D×AH)
 | [x],h=>(Rg h x).map λxs=>(.tup xs,h)
 | _,_=>none
noncomputable def abD:List D->AH->Option (D×AH)
 | [.ref n],h=>match h[n]? with
  | some (.lst xs)=>(strsOf xs).bind λss=>if ss.length < 64 then newL ((aav ss).map .str) h else none
  | some (.dct kvs)=>(strsOf (kvs.map λkv=>kkD kv.1)).bind λss=>if ss.length < 64 then newL ((aav ss).map .str) h else none
  | _=>none
 | _,_=>none
noncomputable def X_:List D->AH->Option (D×AH)
 | [.ref n],h=>match h[n]? with
  | some (.lst xs)=>(pairsOf xs).bind λps=>if ps.length < 65 then newL ((ahO ps).map λp=>.tup [.int p.1,.int p.2]) h else none
  | _=>none
 | _,_=>none
noncomputable def ahT:List D->AH->Option (D×AH)
 | [.bl b],h=>some (.bl (!b),h)
 | _,_=>none
noncomputable def ali:List D->AH->Option (D×AH)
 | [.int i,.int j],h=>if 0<=j/\j<=1000000/\i.natAbs < 18446744073709551616 then some (.int (i * 2 ^ j.toNat),h) else none
 | _,_=>none
noncomputable def alj:List D->AH->Option (D×AH)
 | [.int i,.int j],h=>if 0<=j then some (.int (i / 2 ^ j.toNat),h) else none
 | _,_=>none
noncomputable def alk:List D->AH->Option (D×AH)
 | [.int i],h=>some (.int (K_ i),h)
 | _,_=>none
noncomputable def abE:List D->AH->Option (D×AH)
 | [.int i],h=>some (.int (adw i),h)
 | _,_=>none
noncomputable def ahU:List D->AH->Option (D×AH)
 | [.ref n],h=>match h[n]? with
  | some (.lst xs)=>(intsOf xs).map λis=>(.int is.sum,h)
  | _=>none
 | _,_=>none
noncomputable def aaz (f:List Int->Option Int):List D->AH->Option (D×AH)
 | [.ref n],h=>match h[n]? with
  | some (.lst xs)=>(intsOf xs).bind λis=>(f is).map λi=>(.int i,h)
  | _=>none
 | _,_=>none
noncomputable def ahV:List D->AH->Option (D×AH)
 | [.ref n,d],h=>match h[n]? with
  | some (.lst xs)=>(intsOf xs).map λis=>(match ady is with | some i=>.int i | none=>d,h)
  | _=>none
 | _,_=>none
noncomputable def Yb:List D->AH->Option (D×AH)
 | [.ref n],h=>match h[n]? with
  | some (.lst xs)=>(intsOf xs).bind λis=>if is.length < 200 then newL ((sortI (ahP is)).map .int) h else none
  | _=>none
 | _,_=>none
noncomputable def ahW:List D->AH->Option (D×AH)
 | [.int n],h=>if okR n then newL ((List.range n.toNat).map λ(k:Nat)=>.int k) h else none
 | _,_=>none
noncomputable def Rm:List D->AH->Option (D×AH)
 | [.ref n],h=>match h[n]? with
  | some (.lst xs)=>newL xs.reverse h
  | _=>none
 | _,_=>none
noncomputable def Yc (x:S):List S->Option Nat
 | []=>none
 | y::r=>if y=x then some 0 else (Yc x r).map (·+1)
noncomputable def adA:List D->AH->Option (D×AH)
 | [.tup xs,.str x],h=>(strsOf xs).bind λss=>(Yc x ss).map λi=>(.int i,h)
 | _,_=>none
noncomputable def La:List D->AH->Option (D×AH)
 | [.ref n,v],h=>match h[n]? with
  | some (.lst xs)=>HS n (xs++[v]) .non h
  | _=>none
 | _,_=>none
noncomputable def pExt:List D->AH->Option (D×AH)
 | [_,.eY _],_=>none
 | [.ref n,x],h=>match h[n]?,Rg h x with
  | some (.lst xs),some ys=>HS n (xs++ys) .non h
  | _,_=>none
 | _,_=>none
noncomputable def Yd:List D->AH->Option (D×AH)
 | [.ref n],h=>match h[n]? with
  | some (.lst xs)=>match xs.getLast? with
   | some v=>some (v,h.set n (.lst xs.dropLast))
   | none=>none
  | _=>none
 | _,_=>none
noncomputable def adB:List D->AH->Option (D×AH)
 | [.ref n,.int i],h=>match h[n]? with
  | some (.lst xs)=>match kh xs.length i with
   | some j=>match xs[j]? with
    | some v=>some (v,h.set n (.lst (xs.eraseIdx j)))
    | none=>none
   | none=>none
  | _=>none
 | _,_=>none
noncomputable def ahX:List D->AH->Option (D×AH)
 | [.str sep,.ref n],h=>match h[n]? with
  | some (.lst xs)=>(strsOf xs).bind λss=>if (ss.map λs=>s.length).sum+ss.length * sep.length<=lim then some (.str (aaw sep ss),h) else none
  | _=>none
 | _,_=>none
noncomputable def adC:List D->AH->Option (D×AH)
 | [.str s,.str [c]],h=>newL ((splitOn c s).map .str) h
 | _,_=>none
noncomputable def fP:List D->AH->Option (D×AH)
 | [.str s,.str p],h=>some (.bl (p.isPrefixOf s),h)
 | [.str s,.str p,.int i],h=>if 0<=i/\i<=s.length then some (.bl (p.isPrefixOf (s.drop i.toNat)),h) else none
 | _,_=>none
noncomputable def kE:List D->AH->Option (D×AH)
 | [.str s,.str [c]],h=>some (.str (Z.strip c s),h)
 | _,_=>none
noncomputable def Rn:List D->AH->Option (D×AH)
 | [.ref n,k,v],h=>match h[n]? with
  | some (.dct kvs)=>(vW k).bind λq=>if kvs.length < lim then some (.non,h.set n (.dct (HD kvs q v))) else none
  | some (.lst xs)=>match k with
   | .int i=>match kh xs.length i with
    | some j=>some (.non,h.set n (.lst (xs.set j v)))
    | none=>none
   | _=>none
  | _=>none
 | _,_=>none
noncomputable def KC (t:List (S×D)):List D->AH->Option (D×AH)
 | [.str k],h=>(t.lookup k).map λv=>(v,h)
 | _,_=>none
noncomputable def Lb (t:List (S×D)):List D->AH->Option (D×AH)
 | [.str k],h=>some (.bl (t.lookup k).isSome,h)
 | _,_=>none
noncomputable def ahY (xs:List D) (h:AH):Option (D×AH):=(aay xs).bind λs=>if s.length<=lim then some (.str s,h) else none
noncomputable def pAttr (cs:List S) (f:S):List D->AH->Option (D×AH)
 | [.ref n],h=>match h[n]? with
  | some (.obj c fs)=>if c∈cs then (fs.lookup f).map λv=>(v,h) else none
  | _=>none
 | _,_=>none
noncomputable def adD (f:S) (v:D):List (S×D)->List (S×D)
 | []=>[(f,v)]
 | (g,x)::r=>if g=f then (g,v)::r else (g,x)::adD f v r
noncomputable def ahZ (cs:List S) (f:S):List D->AH->Option (D×AH)
 | [v,.ref n],h=>match h[n]? with
  | some (.obj c fs)=>if c∈cs/\fs.length < 100 then some (.non,h.set n (.obj c (adD f v fs))) else none
  | _=>none
 | _,_=>none
noncomputable def Ro:List D->Option (List Bool)
 | []=>some []
 | .bl s::r=>(Ro r).map (s::·)
 | _=>none
noncomputable def alm (yes no:List S):List D->AH->Option (D×AH)
 | [.ref n],h=>match h[n]? with
  | some (.obj c _)=>if c∈yes then some (.bl true,h) else if c∈no then some (.bl false,h) else none
  | _=>none
 | _,_=>none
noncomputable def Ye (yes no:List S):List D->AH->Option (D×AH)
 | [.ref n],h=>match h[n]? with
  | some (.exc c)=>if c∈yes then some (.bl true,h) else if c∈no then some (.bl false,h) else none
  | some (.cW c _)=>if c∈yes then some (.bl true,h) else if c∈no then some (.bl false,h) else none
  | _=>none
 | _,_=>none
noncomputable def abF:List D->AH->Option (D×AH)
 | [.ref n,.str x],h=>match h[n]? with
  | some (.lst xs)=>(strsOf xs).bind λss=>(Yc x ss).map λi=>(.int i,h)
  | _=>none
 | _,_=>none
noncomputable def adE:List D->AH->Option (D×AH)
 | [.ref n,.bl b],h=>match h[n]? with
  | some (.lst xs)=>(Ro xs).map λbs=>(.int (bs.count b:Nat),h)
  | _=>none
 | [.ref n,.str x],h=>match h[n]? with
  | some (.lst xs)=>(strsOf xs).map λss=>(.int (ss.count x:Nat),h)
  | _=>none
 | _,_=>none
noncomputable def abG:List D->AH->Option (D×AH)
 | [.str s,.str [c]],h=>some (.int (s.count c:Nat),h)
 | _,_=>none
noncomputable def aln:List D->AH->Option (D×AH)
 | [.ref n],h=>match h[n]? with
  | some (.lst xs)=>(Ro xs).map λbs=>(.bl (bs.all id),h)
  | _=>none
 | _,_=>none
noncomputable def ah0:List D->AH->Option (D×AH)
 | [.bl b],h=>some (.int (if b then 1 else 0),h)
 | _,_=>none
noncomputable def Rp:List D->AH->Option (D×AH)
 | [.str s,.int k],h=>if okR k && decide (s.length * k.toNat<=lim) then some (.str (List.replicate k.toNat s).flatten,h) else none
 | _,_=>none
noncomputable def Rq (cs:List S):List D->AH->Option (D×AH)
 | [.ref n],h=>match h[n]? with
  | some (.cW c i)=>if c∈cs then some (.int i,h) else none
  | _=>none
 | _,_=>none
noncomputable def HX:List D->AH->Option (D×AH)
 | [.str x,.str y],h=>some (.bl (jx x y),h)
 | _,_=>none
noncomputable def Dn:List D->AH->Option (D×AH)
 | [.str x,.str y],h=>some (.bl (!jx x y),h)
 | _,_=>none
noncomputable def prim (sub:Nat->Nat->Bool):Prim->List D->AH->Option (D×AH)
 | .add=>Rj
 | .sub=>mX (·- ·)
 | .mul=>XS
 | .fdiv=>Rk
 | .mod=>X3
 | .pow=>X4
 | .neg=>Fi
 | .shl=>ali
 | .shr=>alj
 | .band=>mX XR
 | .bor=>mX bOr
 | .inv=>alk
 | .Vx=>abE
 | .Rh=>ahT
 | .alb=>ahU
 | .min1=>aaz ady
 | .alc=>aaz ale
 | .minD=>ahV
 | .abB=>Yb
 | .abC=>X_
 | .ald=>ahW
 | .Ri=>Rm
 | .index=>adA
 | .eq=>PB false
 | .ne=>PB true
 | .lt=>zW λi j=>decide (i < j)
 | .le=>zW λi j=>decide (i<=j)
 | .gt=>zW λi j=>decide (j < i)
 | .ge=>zW λi j=>decide (j<=i)
 | .su=>HW false
 | .XQ=>HW true
 | .Ei=>Js false
 | .kj=>Js true
 | .dW=>X5
 | .bG=>newL
 | .aax=>alf
 | .idx=>X6
 | .ak9=>ahQ
 | .K8=>alg
 | .Vw=>alh
 | .ak_=>ahR
 | .len=>X7
 | .jX k=>X8 sub k
 | .max2=>mX λi j=>if j > i then j else i
 | .min2=>mX λi j=>if j < i then j else i
 | .ahM=>ahS
 | .adt=>adz
 | .abA=>abD
 | .append=>La
 | .extend=>pExt
 | .pop=>Yd
 | .ahN=>adB
 | .join=>ahX
 | .split=>adC
 | .Py=>fP
 | .uG=>fP
 | .strip=>kE
 | .iU=>Rn
 | .ux t=>KC t
 | .sy t=>Lb t
 | .ala=>ahY
 | .attr cs f=>pAttr cs f
 | .setattr cs f=>ahZ cs f
 | .isC ys ns=>alm ys ns
 | .dZ ys ns=>Ye ys ns
 | .adu=>abF
 | .count=>adE
 | .adv=>abG
 | .all1=>aln
 | .int_=>ah0
 | .Jr=>HX
 | .HF cs=>Rq cs
 | .Fg=>Rp
 | .HJ=>Dn
 | _=>λ_ _=>none
inductive IK | val | rng | rev | enum | zip | chr
 deriving DecidableEq
inductive MK | list | str | dict | int | tuple
 deriving DecidableEq
noncomputable def tyB (h:AH):MK->D->Bool
 | .list,.eY _=>true
 | .list,.ref n=>match h[n]? with
  | some (.lst _)=>true
  | _=>false
 | .dict,.ref n=>match h[n]? with
  | some (.dct _)=>true
  | _=>false
 | .str,.str _=>true
 | .int,.int _=>true
 | .tuple,.tup _=>true
 | _,_=>false
mutual
inductive Ex
 | var (i:Nat) | lit (d:D) | prim (p:Prim) (es:cN)
 | uy (a b:Ex) | orV (a b:Ex) | tst (t:Tx) | ite (c:Tx) (a b:Ex)
 | chain (p q:Prim) (a b c:Ex) | slc (a b c:Ex)
 | fC (k:MK) (p:Prim) (o:Ex) (es:cN)
 | call (f:Nat) (es:cN) (ds:List D)
 | comp (k:IK) (src:cN) (nt:Nat) (cond:Ld) (elt:Ex)
 | make (c:S) (f:Nat) (es:cN) | meth (m:S) (tab:List (S×Nat)) (o:Ex) (es:cN) | srt (e:Ex)
 | aaA (f:Nat) (es:cN) | sset (e:Ex) | Ej (c:S) (e:Ex)
inductive cN
 | nil | cons (e:Ex) (es:cN)
inductive Tx
 | bF (e:Ex) | and (a b:Tx) | or (a b:Tx) | not (a:Tx)
inductive Ld
 | none | one (t:Tx)
end
inductive CC
 | call (f:Nat) (es:cN) (ds:List D) | ite (t:Tx) (a b:CC)
mutual
inductive Sm
 | expr (e:Ex) | asg (i:Nat) (e:Ex) | Vy (is:List Nat) (e:Ex) | iU (o i v:Ex)
 | aug (i:Nat) (p:Prim) (e:Ex) | ret (e:Ex) | Yg | cC (c:Tx) (a b:aB)
 | zX (c:Tx) (b:aB) | dR (tg:List Nat) (k:IK) (src:cN) (b:aB)
 | brk | cnt | pass | adG (c:Nat) (es:cN) | aaB (c:S) | adH (i f:Nat) (es:cN) (c:S) (j:Nat) (hs:aB)
 | adI (t:Tx) (i:Nat) (m1:S) (Yh:List (S×Nat)) (o1:Ex) (es1:cN) (m2:S) (Yi:List (S×Nat)) (o2:Ex) (es2:cN) (c:S) (j:Nat) (hs:aB)
 | vZ (c:S) (e:Ex) | Le (i:Nat) (cc:CC) (cs:List S) (j:Nat) (hs:aB)
inductive aB
 | nil | cons (s:Sm) (ss:aB)
end
noncomputable abbrev PV:=D->AH->Prop
noncomputable abbrev PX:=D->AH->Prop
noncomputable abbrev b_:=Nat->List D->AH->PV->PX->Prop
noncomputable def alo:D->Bool
 | .tup [.int _,.int _]=>true
 | _=>false
noncomputable def EF (_:PX):PX:=λ_ _=>False
noncomputable abbrev It:=Nat->AH->Option (Option D)
noncomputable def gD (n:Nat):It:=λi h=>match h[n]? with
 | some (.lst xs)=>some xs[i]?
 | _=>none
noncomputable def qH (xs:List D):It:=λi _=>some xs[i]?
noncomputable def qd (lo:Int) (n:Nat):It:=λi _=>some (if i < n then some (.int (lo+i)) else none)
noncomputable def abH (xs:List D):It:=λi _=>some (xs[i]?.map λx=>.tup [.int i,x])
noncomputable def Gi (n len:Nat):It:=λi h=>match h[n]? with
 | some (.lst xs)=>if xs.length=len then some (if i < len then xs[len - 1 - i]? else none) else none
 | _=>none
noncomputable def aaC (xs ys:List D):It:=λi _=>match xs[i]?,ys[i]? with
 | some x,some y=>some (some (.tup [x,y]))
 | _,_=>some none
noncomputable def adJ (xs:List D) (n:Nat):It:=λi h=>match h[n]? with
 | some (.lst ys)=>aaC xs ys i h
 | _=>none
noncomputable def uH (lo st:Int) (n:Nat):It:=λi _=>some (if i < n then some (.int (lo+st * i)) else none)
noncomputable def jh:List D->AH->Option It
 | [.ref n],h=>match h[n]? with
  | some (.lst _)=>some (gD n)
  | _=>none
 | [.tup xs],_=>some (qH xs)
 | [.eY xs],_=>some (qH xs)
 | _,_=>none
noncomputable def ioC:List D->AH->Option It
 | [.str s],_=>some (qH (s.map λc=>.str [c]))
 | _,_=>none
noncomputable def iR:List D->AH->Option It
 | [.int n],_=>if okR n then some (qd 0 n.toNat) else none
 | [.int a,.int b],_=>if okR a && okR b then some (qd a (b - a).toNat) else none
 | [.int a,.int b,.int c],_=>if Pz a b c then some (uH a c (if a < b then ((b - a - 1) / c+1).toNat else 0)) else none
 | _,_=>none
noncomputable def ji:List D->AH->Option It
 | [.tup xs],_=>some (abH xs)
 | _,_=>none
noncomputable def jj:List D->AH->Option It
 | [.tup xs,.tup ys],_=>some (aaC xs ys)
 | [.tup xs,.ref n],h=>match h[n]? with
  | some (.lst _)=>some (adJ xs n)
  | _=>none
 | _,_=>none
noncomputable def gY:List D->AH->Option It
 | [.ref n],h=>match h[n]? with
  | some (.lst xs)=>some (Gi n xs.length)
  | _=>none
 | _,_=>none
noncomputable def bU:IK->List D->AH->Option It
 | .val=>jh
 | .rng=>iR
 | .enum=>ji
 | .zip=>jj
 | .rev=>gY
 | .chr=>ioC
structure En where
 nx:Lo->AH->Prop
 rt:PV
 bk:Lo->AH->Prop:=λ_ _=>False
 ct:Lo->AH->Prop:=λ_ _=>False
noncomputable def jy:List Nat->D->Lo->Option Lo
 | [i],v,σ=>some (σ.set i (some v))
 | is,.tup vs,σ=>if is.length=vs.length then some ((is.zip vs).foldl (λσ p=>σ.set p.1 (some p.2)) σ) else none
 | _,_,_=>none
noncomputable def Dp:Nat->D->Lo->Option Lo
 | 1,v,σ=>some (σ++[some v])
 | n,.tup vs,σ=>if vs.length=n then some (σ++vs.map some) else none
 | _,_,_=>none
section
variable (sub:Nat->Nat->Bool)(Γ:b_)(E:PX)
mutual
noncomputable def aM:Ex->Lo->AH->PV->Prop
 | .var i,σ,h,Q=>match σ[i]? with
  | some (some v)=>Q v h
  | _=>False
 | .lit d,_,h,Q=>Q d h
 | .prim p es,σ,h,Q=>bH es σ h λvs h1=>match prim sub p vs h1 with
  | some (v,h2)=>Q v h2
  | none=>False
 | .uy a b,σ,h,Q=>aM a σ h λx h1=>match x with
  | .bl true=>aM b σ h1 Q
  | .bl false=>Q (.bl false) h1
  | _=>False
 | .orV a b,σ,h,Q=>aM a σ h λx h1=>match x with
  | .bl true=>Q (.bl true) h1
  | .bl false=>aM b σ h1 Q
  | _=>False
 | .tst t,σ,h,Q=>cQ t σ h λc h1=>Q (.bl c) h1
 | .ite c a b,σ,h,Q=>cQ c σ h λk h1=>if k=true then aM a σ h1 Q else aM b σ h1 Q
 | .chain p q a b c,σ,h,Q=>aM a σ h λx h1=>aM b σ h1 λy h2=>match prim sub p [x,y] h2 with
  | some (.bl true,h3)=>aM c σ h3 λz h4=>match prim sub q [y,z] h4 with
   | some (v,h5)=>Q v h5
   | none=>False
  | some (.bl false,h3)=>Q (.bl false) h3
  | _=>False
 | .slc a b c,σ,h,Q=>aM a σ h λx h1=>aM b σ h1 λy h2=>match y with
  | .int i=>aM c σ h2 λz h3=>match z with
   | .int j=>match dO x (some i) (some j) h3 with
    | some (v,h4)=>Q v h4
    | none=>False
   | _=>False
  | _=>False
 | .fC k p o es,σ,h,Q=>aM o σ h λx h1=>tyB h1 k x=true/\bH es σ h1 λvs h2=>match prim sub p (x::vs) h2 with
  | some (v,h3)=>Q v h3
  | none=>False
 | .call f es ds,σ,h,Q=>bH es σ h λvs h1=>Γ f (vs++ds) h1 Q (EF E)
 | .comp k src nt cond elt,σ,h,Q=>bH src σ h λvs h1=>match bU k vs h1 with
  | none=>False
  | some J=>∃W:Nat->Nat->AH->Prop,(∃m,W 0 m (h1++[.lst []]))/\∀i m h,W i m h->match J i h with
   | none=>False
   | some none=>Q (.ref h1.length) h
   | some (some v)=>match Dp nt v σ with
    | none=>False
    | some σ'=>∃N:AH->Prop,(∀h',N h'->∃m',m' < m/\W (i+1) m' h')/\sE cond σ' h λc h2=>if c=true then aM elt σ' h2 λx h3=>match prim sub .append [.ref h1.length,x] h3 with
      | some (_,h4)=>N h4
      | none=>False
     else N h2
 | .make c f es,σ,h,Q=>bH es σ h λvs h1=>Γ f (.ref h1.length::vs) (h1++[.obj c []]) (λv h2=>v=.non/\Q (.ref h1.length) h2) (EF E)
 | .meth m tab o es,σ,h,Q=>aM o σ h λx h1=>match x with
  | .ref n=>match h1[n]? with
   | some (.obj c fs)=>fs.lookup m=none/\match tab.lookup c with
    | some f=>bH es σ h1 λvs h2=>Γ f (x::vs) h2 Q (EF E)
    | none=>False
   | _=>False
  | _=>False
 | .srt e,σ,h,Q=>aM e σ h λx h1=>match x with
  | .ref n=>match h1[n]? with
   | some (.lst zs)=>zs.all alo=true/\zs.length<=64/\∀ys:List D,ys.Perm zs->Q (.ref h1.length) (h1++[.lst ys])
   | _=>False
  | _=>False
 | .aaA f es,σ,h,Q=>bH es σ h λvs h1=>Γ f vs h1 Q E
 | .sset e,σ,h,Q=>aM e σ h λx h1=>match x with
  | .ref n=>match h1[n]? with
   | some (.lst zs)=>match intsOf zs with
    | some is=>is.length < 64/\∀js:List Int,js.Nodup->(∀j∈js,j∈is)->Q (.ref h1.length) (h1++[.lst (js.map .int)])
    | none=>False
   | _=>False
  | _=>False
 | .Ej c e,σ,h,Q=>aM e σ h λx h1=>match x with
  | .int i=>Q (.ref h1.length) (h1++[.cW c i])
  | _=>False
noncomputable def bH:cN->Lo->AH->(List D->AH->Prop)->Prop
 | .nil,_,h,Q=>Q [] h
 | .cons e es,σ,h,Q=>aM e σ h λv h1=>bH es σ h1 λvs h2=>Q (v::vs) h2
noncomputable def cQ:Tx->Lo->AH->(Bool->AH->Prop)->Prop
 | .bF e,σ,h,Q=>aM e σ h λv h1=>match truthy h1 v with
  | some c=>Q c h1
  | none=>False
 | .and a b,σ,h,Q=>cQ a σ h λc h1=>if c=true then cQ b σ h1 Q else Q false h1
 | .or a b,σ,h,Q=>cQ a σ h λc h1=>if c=true then Q true h1 else cQ b σ h1 Q
 | .not a,σ,h,Q=>cQ a σ h λc h1=>Q (!c) h1
noncomputable def sE:Ld->Lo->AH->(Bool->AH->Prop)->Prop
 | .none,_,h,Q=>Q true h
 | .one t,σ,h,Q=>cQ t σ h Q
end
noncomputable def Vz (m:S) (tab:List (S×Nat)) (o:Ex) (es:cN) (σ:Lo) (h:AH) (Q:PV) (E':PX):Prop:=aM sub Γ E o σ h λx h1=>match x with
 | .ref n=>match h1[n]? with
  | some (.obj c fs)=>fs.lookup m=none/\match tab.lookup c with
   | some f=>bH sub Γ E es σ h1 λvs h2=>Γ f (x::vs) h2 Q E'
   | none=>False
  | _=>False
 | _=>False
noncomputable def gq:CC->Lo->AH->PV->PX->Prop
 | .call f es ds,σ,h,Q,F=>bH sub Γ E es σ h λvs h1=>Γ f (vs++ds) h1 Q F
 | .ite t a b,σ,h,Q,F=>cQ sub Γ E t σ h λk h1=>if k=true then gq a σ h1 Q F else gq b σ h1 Q F
mutual
noncomputable def wpS:Sm->En->Lo->AH->Prop
 | .expr e,K,σ,h=>aM sub Γ E e σ h λ_ h1=>K.nx σ h1
 | .asg i e,K,σ,h=>aM sub Γ E e σ h λv h1=>K.nx (σ.set i (some v)) h1
 | .Vy is e,K,σ,h=>aM sub Γ E e σ h λv h1=>match jy is v σ with
  | some σ'=>K.nx σ' h1
  | none=>False
 | .iU o i v,K,σ,h=>aM sub Γ E v σ h λx h1=>aM sub Γ E o σ h1 λy h2=>aM sub Γ E i σ h2 λz h3=>match prim sub .iU [y,z,x] h3 with
  | some (_,h4)=>K.nx σ h4
  | none=>False
 | .aug i p e,K,σ,h=>match σ[i]? with
  | some (some x)=>aM sub Γ E e σ h λy h1=>match prim sub p [x,y] h1 with
   | some (z,h2)=>K.nx (σ.set i (some z)) h2
   | none=>False
  | _=>False
 | .ret e,K,σ,h=>aM sub Γ E e σ h K.rt
 | .Yg,K,_,h=>K.rt .non h
 | .cC c a b,K,σ,h=>cQ sub Γ E c σ h λk h1=>if k=true then bN a K σ h1 else bN b K σ h1
 | .zX c b,K,σ,h=>∃W:Nat->Lo->AH->Prop,(∃m,W m σ h)/\∀m σ h,W m σ h->
   cQ sub Γ E c σ h λk h1=>if k=true then ∃N:Lo->AH->Prop,(∀σ' h',N σ' h'->∃m',m' < m/\W m' σ' h')/\bN b {nx:=N,rt:=K.rt,bk:=K.nx,ct:=N} σ h1 else K.nx σ h1
 | .dR tg k src b,K,σ,h=>bH sub Γ E src σ h λvs h1=>match bU k vs h1 with
  | none=>False
  | some J=>∃W:Nat->Nat->Lo->AH->Prop,(∃m,W 0 m σ h1)/\∀i m σ h,W i m σ h->match J i h with
   | none=>False
   | some none=>K.nx σ h
   | some (some v)=>match jy tg v σ with
    | none=>False
    | some σ'=>∃N:Lo->AH->Prop,(∀σ' h',N σ' h'->∃m',m' < m/\W (i+1) m' σ' h')/\bN b {nx:=N,rt:=K.rt,bk:=K.nx,ct:=N} σ' h
 | .brk,K,σ,h=>K.bk σ h
 | .cnt,K,σ,h=>K.ct σ h
 | .pass,K,σ,h=>K.nx σ h
 | .adG _ _,_,_,_=>False
 | .aaB c,_,_,h=>E (.str c) h
 | .adH i f es c j hs,K,σ,h=>bH sub Γ E es σ h λvs h1=>Γ f vs h1 (λv h2=>K.nx (σ.set i (some v)) h2) λx h2=>x=.str c/\bN hs {nx:=λσ' h'=>K.nx (σ'.set j none) h',rt:=K.rt,bk:=λσ' h'=>K.bk (σ'.set j none) h',ct:=λσ' h'=>K.ct (σ'.set j none) h'} (σ.set j (some (.ref h2.length))) (h2++[.exc c])
 | .adI t i m1 Yh o1 es1 m2 Yi o2 es2 c j hs,K,σ,h=>cQ sub Γ E t σ h λk h1=>
   (if k=true then Vz sub Γ E m1 Yh o1 es1 σ h1 else Vz sub Γ E m2 Yi o2 es2 σ h1) (λv h2=>K.nx (σ.set i (some v)) h2)
    λx h2=>x=.str c/\bN hs {nx:=λσ' h'=>K.nx (σ'.set j none) h',rt:=K.rt,bk:=λσ' h'=>K.bk (σ'.set j none) h',ct:=λσ' h'=>K.ct (σ'.set j none) h'} (σ.set j (some (.ref h2.length))) (h2++[.exc c])
 | .vZ c e,_,σ,h=>aM sub Γ E e σ h λx h1=>match x with
  | .int i=>E (.tup [.str c,.int i]) h1
  | _=>False
 | .Le i cc cs j hs,K,σ,h=>gq sub Γ E cc σ h (λv h2=>K.nx (σ.set i (some v)) h2)
   λx h2=>∃c r,x=.tup [.str c,.int r]/\c∈cs/\bN hs {nx:=λσ' h'=>K.nx (σ'.set j none) h',rt:=K.rt,bk:=λσ' h'=>K.bk (σ'.set j none) h',ct:=λσ' h'=>K.ct (σ'.set j none) h'} (σ.set j (some (.ref h2.length))) (h2++[.cW c r])
noncomputable def bN:aB->En->Lo->AH->Prop
 | .nil,K,σ,h=>K.nx σ h
 | .cons s ss,K,σ,h=>wpS s {K with nx:=λσ' h'=>bN ss K σ' h'} σ h
end
end
structure Def where
 np:Nat
 nl:Nat
 body:aB
noncomputable def aD (sub:Nat->Nat->Bool) (P:List Def):Nat->b_
 | 0,_,_,_,_,_=>False
 | d+1,f,vs,h,Q,E=>match P[f]? with
  | some df=>vs.length=df.np/\bN sub (aD sub P d) E df.body {nx:=λ_ h=>Q .non h,rt:=Q} (vs.map some++List.replicate (df.nl - df.np) none) h
  | none=>False
section
variable {sub:Nat->Nat->Bool}
theorem qI {t}:prim sub (.sy t)=Lb t:=rfl
theorem PJ {t}:prim sub (.ux t)=KC t:=rfl
theorem Lf:prim sub .neg=Fi:=rfl
theorem Lg:prim sub .add=Rj:=rfl
theorem gw:prim sub .Py=fP:=rfl
theorem gA:prim sub .uG=fP:=rfl
theorem jL:prim sub .strip=kE:=rfl
theorem zY:prim sub .Jr=HX:=rfl
theorem Dq:prim sub .HJ=Dn:=rfl
theorem Lh:prim sub .sub=mX (·- ·):=rfl
end
end Z
end
namespace Z
section
variable {sub:Nat->Nat->Bool}{Γ:b_}{E:PX}
section
variable {h:AH}{i j:Int}{s t:S}{x y v:D}{xs ys:List D}{a b n:Nat}{p q:Bool}
theorem adK:prim sub .add [.int i,.int j] h=some (.int (i+j),h):=rfl
theorem eF (ha:h[a]?=some (.lst xs))(hb:h[b]?=some (.lst ys))(hl:(xs++ys).length<=16777216):prim sub .add [.ref a,.ref b] h=some (.ref h.length,h++[.lst (xs++ys)]):=by
 show (match h[a]?,h[b]? with | some (.lst xs),some (.lst ys)=>newL (xs++ys) h | _,_=>none)=_;rw[ha,hb];exact if_pos hl
theorem adL:prim sub .sub [.int i,.int j] h=some (.int (i - j),h):=rfl
theorem Jt (hj:-18446744073709551616 < j/\j < 18446744073709551616):Gh j=true:=vX.mpr hj
theorem Li (hj:-18446744073709551616 < j/\j < 18446744073709551616):prim sub .mul [.int i,.int j] h=some (.int (i * j),h):=if_pos (by rw[Jt hj,Bool.or_true,Bool.true_or])
theorem PK (hj:-18446744073709551616 < i/\i < 18446744073709551616):prim sub .mul [.int i,.int j] h=some (.int (i * j),h):=if_pos (by rw[Jt hj,Bool.true_or,Bool.true_or])
theorem abI (hj:-2037035976334486086268445688409378161051468393665936250636140449354381299763336706183397376 < j/\j < 2037035976334486086268445688409378161051468393665936250636140449354381299763336706183397376):K9 j=true:=vY.mpr hj
theorem adM (h0:0 < j/\j < 1073741824):prim sub .fdiv [.int i,.int j] h=some (.int (i / j),h):=if_pos ⟨h0.1,abI (by omega)⟩
theorem sG (h0:0 < j):prim sub .mod [.int i,.int j] h=some (.int (i % j),h):=if_pos h0
theorem ah1:prim sub .neg [.int i] h=some (.int (-i),h):=rfl
theorem alp:prim sub .lt [.int i,.int j] h=some (.bl (decide (i < j)),h):=rfl
theorem alq:prim sub .le [.int i,.int j] h=some (.bl (decide (i<=j)),h):=rfl
theorem alr:prim sub .gt [.int i,.int j] h=some (.bl (decide (j < i)),h):=rfl
theorem als:prim sub .ge [.int i,.int j] h=some (.bl (decide (j<=i)),h):=rfl
theorem dI (ha:h[a]?=some (.lst xs))(hl:xs.length < 16777216):prim sub .append [.ref a,v] h=some (.non,h.set a (.lst (xs++[v]))):=by
 show (match h[a]? with | some (.lst xs)=>HS a (xs++[v]) .non h | _=>none)=_;rw[ha];exact if_pos (by simp[lim];omega)
theorem gF (ha:h[a]?=some (.lst xs)):prim sub .len [.ref a] h=some (.int xs.length,h):=by
 show (match h[a]? with | some (.lst xs)=>_ | some (.dct xs)=>_ | _=>none)=_;rw[ha]
end
theorem jk {tg:List Nat}{k:IK}{src:cN}{b:aB}{K:En}{σ:Lo}{h h1:AH}{J:It}{xs:List D}{vs:List D}(Pv:Nat->Lo->AH->Prop)
  (he:∀Q:List D->AH->Prop,Q vs h1->bH sub Γ E src σ h Q) (hi:bU k vs h1=some J) (h0:Pv 0 σ h1)
  (hJ:∀i σ h,i<=xs.length->Pv i σ h->J i h=some xs[i]?)
  (hs:∀i v σ h,xs[i]?=some v->Pv i σ h->∃σ',jy tg v σ=some σ'/\bN sub Γ E b {nx:=Pv (i+1),rt:=K.rt,bk:=K.nx,ct:=Pv (i+1)} σ' h)
  (hd:∀σ h,Pv xs.length σ h->K.nx σ h):wpS sub Γ E (.dR tg k src b) K σ h:=by
 simp only[wpS];refine he _ ?_;simp only[hi];refine ⟨λi m σ h=>m=xs.length - i/\i<=xs.length/\Pv i σ h,⟨xs.length,by simp,Nat.zero_le _,h0⟩,?_⟩;rintro i m σ h ⟨rfl,hin,p⟩;rw[hJ i σ h hin p];cases e:xs[i]? with
 | some v=>
  have hlt:i < xs.length:=(List.getElem?_eq_some_iff.mp e).1;obtain ⟨σ',eb,w⟩:=hs i v σ h e p;simp only[eb];exact ⟨_,λσ h p=>⟨xs.length - (i+1),by omega,rfl,hlt,p⟩,w⟩
 | none=>
  have:i=xs.length:=by have:=List.getElem?_eq_none_iff.mp e;omega
  subst this;exact hd σ h p
theorem gZ {tg:List Nat}{src:cN}{b:aB}{K:En}{σ:Lo}{h h1:AH}{lo:Int}{n:Nat}{vs:List D}(Pv:Nat->Lo->AH->Prop)
  (he:∀Q:List D->AH->Prop,Q vs h1->bH sub Γ E src σ h Q) (hi:bU .rng vs h1=some (qd lo n)) (h0:Pv 0 σ h1)
  (hs:∀i σ h,i < n->Pv i σ h->∃σ',jy tg (.int (lo+i)) σ=some σ'/\bN sub Γ E b {nx:=Pv (i+1),rt:=K.rt,bk:=K.nx,ct:=Pv (i+1)} σ' h)
  (hd:∀σ h,Pv n σ h->K.nx σ h):wpS sub Γ E (.dR tg .rng src b) K σ h:=by
 refine jk (xs:=(List.range n).map λi=>.int (lo+(i:Nat))) (J:=qd lo n) Pv he hi h0 ?_ ?_ ?_
 ·intro i σ h hin p;simp only[List.length_map,List.length_range]at hin;unfold qd;by_cases hlt:i < n
  ·rw[if_pos hlt,List.getElem?_map,List.getElem?_range hlt];rfl
  ·rw[if_neg hlt,List.getElem?_eq_none (by simp;omega)]
 ·intro i v σ h e p;have hlt:i < n:=by have:=(List.getElem?_eq_some_iff.mp e).1;simpa using this
  rw[List.getElem?_map,List.getElem?_range hlt]at e;cases e;exact hs i σ h hlt p
 ·intro σ h p;simp only[List.length_map,List.length_range]at p;exact hd σ h p
theorem Yj {c:Tx}{b:aB}{K:En}{σ:Lo}{h:AH}(Pv:Nat->Lo->AH->Prop){m:Nat}(h0:Pv m σ h)
  (hs:∀m σ h,Pv m σ h->cQ sub Γ E c σ h λk h1=>if k=true then bN sub Γ E b {nx:=λσ' h'=>∃m',m' < m/\Pv m' σ' h',rt:=K.rt,bk:=K.nx,ct:=λσ' h'=>∃m',m' < m/\Pv m' σ' h'} σ h1 else K.nx σ h1)
  (mono:∀σ h Q Q',(∀b h1,Q b h1->Q' b h1)->cQ sub Γ E c σ h Q->cQ sub Γ E c σ h Q'):wpS sub Γ E (.zX c b) K σ h:=by
 simp only[wpS];refine ⟨Pv,⟨m,h0⟩,λm σ h p=>mono _ _ _ _ (λc h1 q=>?_) (hs m σ h p)⟩;cases c with
 | true=>rw[if_pos rfl]at q ⊢;exact ⟨_,λ_ _ p=>p,q⟩
 | false=>exact q
end
end Z
namespace Z
noncomputable def nd (a b:S):Prop:=¬b < a
end Z
namespace Z
section
variable {sub:Nat->Nat->Bool}{Γ:b_}{E E':PX}
noncomputable def qe (Γ:b_):Prop:=∀f vs h (Q Q':PV) (E E':PX),(∀v h',Q v h'->Q' v h')->(∀v h',E v h'->E' v h')->Γ f vs h Q E->Γ f vs h Q' E'
mutual
theorem bB (hΓ:qe Γ)(hE:∀x h,E x h->E' x h):∀(e:Ex) (σ:Lo) (h:AH) (Q Q':PV),(∀v h',Q v h'->Q' v h')->aM sub Γ E e σ h Q->aM sub Γ E' e σ h Q'
 | .var i,σ,h,Q,Q',m,w=>by
  simp only[aM]at w ⊢;split at w
  ·rename_i v e;exact m _ _ w
  ·exact w.elim
 | .lit d,σ,h,Q,Q',m,w=>by simp only[aM]at w ⊢;exact m _ _ w
 | .prim p es,σ,h,Q,Q',m,w=>by
  simp only[aM]at w ⊢;refine dF hΓ hE es σ h _ _ (λvs h1 q=>?_) w;split at q
  ·rename_i e;exact m _ _ q
  ·exact q.elim
 | .uy a b,σ,h,Q,Q',m,w=>by
  simp only[aM]at w ⊢;refine bB hΓ hE a σ h _ _ (λx h1 q=>?_) w;split at q
  ·exact bB hΓ hE b σ h1 _ _ m q
  ·exact m _ _ q
  ·exact q.elim
 | .orV a b,σ,h,Q,Q',m,w=>by
  simp only[aM]at w ⊢;refine bB hΓ hE a σ h _ _ (λx h1 q=>?_) w;split at q
  ·exact m _ _ q
  ·exact bB hΓ hE b σ h1 _ _ m q
  ·exact q.elim
 | .tst t,σ,h,Q,Q',m,w=>by
  simp only[aM]at w ⊢;exact dH hΓ hE t σ h _ _ (λc h1 q=>m _ _ q) w
 | .ite c a b,σ,h,Q,Q',m,w=>by
  simp only[aM]at w ⊢;refine dH hΓ hE c σ h _ _ (λk h1 q=>?_) w;cases k
  ·exact bB hΓ hE b σ h1 _ _ m q
  ·exact bB hΓ hE a σ h1 _ _ m q
 | .chain p q a b c,σ,h,Q,Q',m,w=>by
  simp only[aM]at w ⊢;refine bB hΓ hE a σ h _ _ (λx h1 q1=>bB hΓ hE b σ h1 _ _ (λy h2 q2=>?_) q1) w;split at q2
  ·rename_i e;refine bB hΓ hE c σ _ _ _ (λz h4 q4=>?_) q2;split at q4
   ·rename_i e;exact m _ _ q4
   ·exact q4.elim
  ·rename_i e;exact m _ _ q2
  ·exact q2.elim
 | .slc a b c,σ,h,Q,Q',m,w=>by
  simp only[aM]at w ⊢;refine bB hΓ hE a σ h _ _ (λx h1 q1=>bB hΓ hE b σ h1 _ _ (λy h2 q2=>?_) q1) w;split at q2
  ·refine bB hΓ hE c σ _ _ _ (λz h4 q4=>?_) q2;split at q4
   ·split at q4
    ·rename_i e;exact m _ _ q4
    ·exact q4.elim
   ·exact q4.elim
  ·exact q2.elim
 | .fC k p o es,σ,h,Q,Q',m,w=>by
  simp only[aM]at w ⊢;refine bB hΓ hE o σ h _ _ (λx h1 q1=>⟨q1.1,dF hΓ hE es σ h1 _ _ (λvs h2 q=>?_) q1.2⟩) w;split at q
  ·rename_i e;exact m _ _ q
  ·exact q.elim
 | .call f es ds,σ,h,Q,Q',m,w=>by
  simp only[aM]at w ⊢;exact dF hΓ hE es σ h _ _ (λvs h1 q=>hΓ _ _ _ _ _ _ _ m (λ_ _ z=>z) q) w
 | .comp k src nt cond elt,σ,h,Q,Q',m,w=>by
  simp only[aM]at w ⊢;refine dF hΓ hE src σ h _ _ (λvs h1 q=>?_) w;split at q
  ·exact q.elim
  ·rename_i J e;obtain ⟨W,hW,t⟩:=q;refine ⟨W,hW,λi n h2 w2=>?_⟩;have t:=t i n h2 w2;split at t
   ·exact t.elim
   ·exact m _ _ t
   ·split at t
    ·exact t.elim
    ·obtain ⟨N,hN,t⟩:=t;refine ⟨N,hN,Lj hΓ hE cond _ _ _ _ (λc h3 q=>?_) t⟩;cases c
     ·exact q
     ·exact bB hΓ hE elt _ _ _ _ (λx h4 q=>q) q
 | .make c f es,σ,h,Q,Q',m,w=>by
  simp only[aM]at w ⊢;exact dF hΓ hE es σ h _ _ (λvs h1 q=>hΓ _ _ _ _ _ _ _ (λv h2 z=>⟨z.1,m _ _ z.2⟩) (λ_ _ z=>z) q) w
 | .meth n tab o es,σ,h,Q,Q',m,w=>by
  simp only[aM]at w ⊢;refine bB hΓ hE o σ h _ _ (λx h1 q=>?_) w;split at q
  ·split at q
   ·refine ⟨q.1,?_⟩;have q:=q.2;split at q
    ·exact dF hΓ hE es σ h1 _ _ (λvs h2 z=>hΓ _ _ _ _ _ _ _ m (λ_ _ z=>z) z) q
    ·exact q.elim
   ·exact q.elim
  ·exact q.elim
 | .srt e,σ,h,Q,Q',m,w=>by
  simp only[aM]at w ⊢;refine bB hΓ hE e σ h _ _ (λx h1 q=>?_) w;split at q
  ·split at q
   ·exact ⟨q.1,q.2.1,λys hp=>m _ _ (q.2.2 ys hp)⟩
   ·exact q.elim
  ·exact q.elim
 | .aaA f es,σ,h,Q,Q',m,w=>by
  simp only[aM]at w ⊢;exact dF hΓ hE es σ h _ _ (λvs h1 q=>hΓ _ _ _ _ _ _ _ m hE q) w
 | .sset e,σ,h,Q,Q',m,w=>by
  simp only[aM]at w ⊢;refine bB hΓ hE e σ h _ _ (λx h1 q=>?_) w;split at q
  ·split at q
   ·split at q
    ·exact ⟨q.1,λjs h1 h2=>m _ _ (q.2 js h1 h2)⟩
    ·exact q.elim
   ·exact q.elim
  ·exact q.elim
 | .Ej c e,σ,h,Q,Q',m,w=>by
  simp only[aM]at w ⊢;refine bB hΓ hE e σ h _ _ (λx h1 q=>?_) w;split at q
  ·exact m _ _ q
  ·exact q.elim
theorem dF (hΓ:qe Γ)(hE:∀x h,E x h->E' x h):∀(es:cN) (σ:Lo) (h:AH) (Q Q':List D->AH->Prop),(∀v h',Q v h'->Q' v h')->bH sub Γ E es σ h Q->bH sub Γ E' es σ h Q'
 | .nil,σ,h,Q,Q',m,w=>by simp only[bH]at w ⊢;exact m _ _ w
 | .cons e es,σ,h,Q,Q',m,w=>by
  simp only[bH]at w ⊢;exact bB hΓ hE e σ h _ _ (λv h1 q=>dF hΓ hE es σ h1 _ _ (λvs h2 q2=>m _ _ q2) q) w
theorem dH (hΓ:qe Γ)(hE:∀x h,E x h->E' x h):∀(t:Tx) (σ:Lo) (h:AH) (Q Q':Bool->AH->Prop),(∀v h',Q v h'->Q' v h')->cQ sub Γ E t σ h Q->cQ sub Γ E' t σ h Q'
 | .bF e,σ,h,Q,Q',m,w=>by
  simp only[cQ]at w ⊢;refine bB hΓ hE e σ h _ _ (λv h1 q=>?_) w;split at q
  ·rename_i e;exact m _ _ q
  ·exact q.elim
 | .and a b,σ,h,Q,Q',m,w=>by
  simp only[cQ]at w ⊢;refine dH hΓ hE a σ h _ _ (λc h1 q=>?_) w;cases c
  ·exact m _ _ q
  ·exact dH hΓ hE b σ h1 _ _ m q
 | .or a b,σ,h,Q,Q',m,w=>by
  simp only[cQ]at w ⊢;refine dH hΓ hE a σ h _ _ (λc h1 q=>?_) w;cases c
  ·exact dH hΓ hE b σ h1 _ _ m q
  ·exact m _ _ q
 | .not a,σ,h,Q,Q',m,w=>by
  simp only[cQ]at w ⊢;exact dH hΓ hE a σ h _ _ (λc h1 q=>m _ _ q) w
theorem Lj (hΓ:qe Γ)(hE:∀x h,E x h->E' x h):∀(t:Ld) (σ:Lo) (h:AH) (Q Q':Bool->AH->Prop),(∀v h',Q v h'->Q' v h')->sE sub Γ E t σ h Q->sE sub Γ E' t σ h Q'
 | .none,σ,h,Q,Q',m,w=>by simp only[sE]at w ⊢;exact m _ _ w
 | .one t,σ,h,Q,Q',m,w=>by simp only[sE]at w ⊢;exact dH hΓ hE t σ h _ _ m w
end
structure adN (K K':En):Prop where
 nx:∀σ h,K.nx σ h->K'.nx σ h
 rt:∀v h,K.rt v h->K'.rt v h
 bk:∀σ h,K.bk σ h->K'.bk σ h
 ct:∀σ h,K.ct σ h->K'.ct σ h
theorem Lk (hΓ:qe Γ)(hE:∀x h,E x h->E' x h){m:S}{tab:List (S×Nat)}{o:Ex}{es:cN}{σ:Lo}{h:AH}{Q Q':PV}{F F':PX}(mq:∀v h',Q v h'->Q' v h')(mf:∀v h',F v h'->F' v h')(w:Vz sub Γ E m tab o es σ h Q F):Vz sub Γ E' m tab o es σ h Q' F':=by
 unfold Vz at w ⊢;refine bB hΓ hE o σ h _ _ (λx h1 q=>?_) w;split at q
 ·split at q
  ·refine ⟨q.1,?_⟩;have q:=q.2;split at q
   ·exact dF hΓ hE es σ h1 _ _ (λvs h2 z=>hΓ _ _ _ _ _ _ _ mq mf z) q
   ·exact q.elim
  ·exact q.elim
 ·exact q.elim
theorem zZ (hΓ:qe Γ)(hE:∀x h,E x h->E' x h){Q Q':PV}{F F':PX}(mq:∀v h',Q v h'->Q' v h')(mf:∀v h',F v h'->F' v h'):∀(c:CC) (σ:Lo) (h:AH),gq sub Γ E c σ h Q F->gq sub Γ E' c σ h Q' F'
 | .call f es ds,σ,h,w=>by
  simp only[gq]at w ⊢;exact dF hΓ hE es σ h _ _ (λvs h2 z=>hΓ _ _ _ _ _ _ _ mq mf z) w
 | .ite t a b,σ,h,w=>by
  simp only[gq]at w ⊢;refine dH hΓ hE t σ h _ _ (λk h1 q=>?_) w;cases k
  ·exact zZ hΓ hE mq mf b σ h1 q
  ·exact zZ hΓ hE mq mf a σ h1 q
mutual
theorem wpS_mono (hΓ:qe Γ)(hE:∀x h,E x h->E' x h):∀(s:Sm) (K K':En) (σ:Lo) (h:AH),adN K K'->wpS sub Γ E s K σ h->wpS sub Γ E' s K' σ h
 | .expr e,K,K',σ,h,m,w=>by simp only[wpS]at w ⊢;exact bB hΓ hE e σ h _ _ (λ_ _ q=>m.nx _ _ q) w
 | .asg i e,K,K',σ,h,m,w=>by simp only[wpS]at w ⊢;exact bB hΓ hE e σ h _ _ (λ_ _ q=>m.nx _ _ q) w
 | .Vy is e,K,K',σ,h,m,w=>by
  simp only[wpS]at w ⊢;refine bB hΓ hE e σ h _ _ (λ_ _ q=>?_) w;split at q
  ·rename_i e;exact m.nx _ _ q
  ·exact q.elim
 | .iU o i v,K,K',σ,h,m,w=>by
  simp only[wpS]at w ⊢;refine bB hΓ hE v σ h _ _ (λ_ _ q1=>bB hΓ hE o σ _ _ _ (λ_ _ q2=>bB hΓ hE i σ _ _ _ (λ_ _ q=>?_) q2) q1) w;split at q
  ·rename_i e;exact m.nx _ _ q
  ·exact q.elim
 | .aug i p e,K,K',σ,h,m,w=>by
  simp only[wpS]at w ⊢;split at w
  ·rename_i x ex;refine bB hΓ hE e σ h _ _ (λ_ _ q=>?_) w;split at q
   ·rename_i e;exact m.nx _ _ q
   ·exact q.elim
  ·exact w.elim
 | .ret e,K,K',σ,h,m,w=>by simp only[wpS]at w ⊢;exact bB hΓ hE e σ h _ _ (λ_ _ q=>m.rt _ _ q) w
 | .Yg,K,K',σ,h,m,w=>by simp only[wpS]at w ⊢;exact m.rt _ _ w
 | .cC c a b,K,K',σ,h,m,w=>by
  simp only[wpS]at w ⊢;refine dH hΓ hE c σ h _ _ (λk h1 q=>?_) w;cases k
  ·exact fG hΓ hE b K K' σ h1 m q
  ·exact fG hΓ hE a K K' σ h1 m q
 | .zX c b,K,K',σ,h,m,w=>by
  simp only[wpS]at w ⊢;obtain ⟨W,hW,t⟩:=w;refine ⟨W,hW,λn σ h w=>dH hΓ hE c σ h _ _ (λk h1 q=>?_) (t n σ h w)⟩;cases k
  ·exact m.nx _ _ q
  ·obtain ⟨N,hN,q⟩:=q;exact ⟨N,hN,fG hΓ hE b {nx:=N,rt:=K.rt,bk:=K.nx,ct:=N} _ σ h1 ⟨λ_ _ q=>q,m.rt,m.nx,λ_ _ q=>q⟩ q⟩
 | .dR tg k src b,K,K',σ,h,m,w=>by
  simp only[wpS]at w ⊢;refine dF hΓ hE src σ h _ _ (λvs h1 q=>?_) w;split at q
  ·exact q.elim
  ·rename_i J e;obtain ⟨W,hW,t⟩:=q;refine ⟨W,hW,λi n σ2 h2 w2=>?_⟩;have t:=t i n σ2 h2 w2;split at t
   ·exact t.elim
   ·exact m.nx _ _ t
   ·split at t
    ·exact t.elim
    ·rename_i eb;obtain ⟨N,hN,q⟩:=t;exact ⟨N,hN,fG hΓ hE b {nx:=N,rt:=K.rt,bk:=K.nx,ct:=N} _ _ h2 ⟨λ_ _ q=>q,m.rt,m.nx,λ_ _ q=>q⟩ q⟩
 | .brk,K,K',σ,h,m,w=>by simp only[wpS]at w ⊢;exact m.bk _ _ w
 | .cnt,K,K',σ,h,m,w=>by simp only[wpS]at w ⊢;exact m.ct _ _ w
 | .pass,K,K',σ,h,m,w=>by simp only[wpS]at w ⊢;exact m.nx _ _ w
 | .adG _ _,K,K',σ,h,m,w=>by simp only[wpS]at w
 | .aaB c,K,K',σ,h,m,w=>by simp only[wpS]at w ⊢;exact hE _ _ w
 | .adH i f es c j hs,K,K',σ,h,m,w=>by
  simp only[wpS]at w ⊢;refine dF hΓ hE es σ h _ _ (λvs h1 q=>hΓ _ _ _ _ _ _ _ (λv h2 z=>m.nx _ _ z) (λx h2 z=>⟨z.1,fG hΓ hE hs {nx:=λσ' h'=>K.nx (σ'.set j none) h',rt:=K.rt,bk:=λσ' h'=>K.bk (σ'.set j none) h',ct:=λσ' h'=>K.ct (σ'.set j none) h'} _ _ _ ⟨λ_ _ q=>m.nx _ _ q,m.rt,λ_ _ q=>m.bk _ _ q,λ_ _ q=>m.ct _ _ q⟩ z.2⟩) q) w
 | .adI t i m1 Yh o1 es1 m2 Yi o2 es2 c j hs,K,K',σ,h,m,w=>by
  simp only[wpS]at w ⊢;refine dH hΓ hE t σ h _ _ (λk h1 q=>?_) w;have mf:∀(x:D) (h2:AH),(x=.str c/\bN sub Γ E hs {nx:=λσ' h'=>K.nx (σ'.set j none) h',rt:=K.rt,bk:=λσ' h'=>K.bk (σ'.set j none) h',ct:=λσ' h'=>K.ct (σ'.set j none) h'} (σ.set j (some (.ref h2.length))) (h2++[.exc c]))->(x=.str c/\bN sub Γ E' hs {nx:=λσ' h'=>K'.nx (σ'.set j none) h',rt:=K'.rt,bk:=λσ' h'=>K'.bk (σ'.set j none) h',ct:=λσ' h'=>K'.ct (σ'.set j none) h'} (σ.set j (some (.ref h2.length))) (h2++[.exc c])):=
   λx h2 z=>⟨z.1,fG hΓ hE hs {nx:=λσ' h'=>K.nx (σ'.set j none) h',rt:=K.rt,bk:=λσ' h'=>K.bk (σ'.set j none) h',ct:=λσ' h'=>K.ct (σ'.set j none) h'} _ _ _ ⟨λ_ _ q=>m.nx _ _ q,m.rt,λ_ _ q=>m.bk _ _ q,λ_ _ q=>m.ct _ _ q⟩ z.2⟩
  cases k
  ·exact Lk hΓ hE (λv h2 z=>m.nx _ _ z) mf q
  ·exact Lk hΓ hE (λv h2 z=>m.nx _ _ z) mf q
 | .vZ c e,K,K',σ,h,m,w=>by
  simp only[wpS]at w ⊢;refine bB hΓ hE e σ h _ _ (λx h1 q=>?_) w;split at q
  ·exact hE _ _ q
  ·exact q.elim
 | .Le i cc cs j hs,K,K',σ,h,m,w=>by
  simp only[wpS]at w ⊢;refine zZ hΓ hE (λv h2 z=>m.nx _ _ z) (λx h2 z=>?_) cc σ h w;obtain ⟨c,r,e1,e2,z⟩:=z;exact ⟨c,r,e1,e2,fG hΓ hE hs {nx:=λσ' h'=>K.nx (σ'.set j none) h',rt:=K.rt,bk:=λσ' h'=>K.bk (σ'.set j none) h',ct:=λσ' h'=>K.ct (σ'.set j none) h'} _ _ _ ⟨λ_ _ q=>m.nx _ _ q,m.rt,λ_ _ q=>m.bk _ _ q,λ_ _ q=>m.ct _ _ q⟩ z⟩
theorem fG (hΓ:qe Γ)(hE:∀x h,E x h->E' x h):∀(s:aB) (K K':En) (σ:Lo) (h:AH),adN K K'->bN sub Γ E s K σ h->bN sub Γ E' s K' σ h
 | .nil,K,K',σ,h,m,w=>by simp only[bN]at w ⊢;exact m.nx _ _ w
 | .cons s ss,K,K',σ,h,m,w=>by
  simp only[bN]at w ⊢;exact wpS_mono hΓ hE s {K with nx:=λσ' h'=>bN sub Γ E ss K σ' h'} _ σ h ⟨λσ' h' q=>fG hΓ hE ss K K' σ' h' m q,m.rt,m.bk,m.ct⟩ w
end
end
theorem jl {sub:Nat->Nat->Bool}{P:List Def}:∀d,qe (aD sub P d)
 | 0,f,vs,h,Q,Q',E,E',m,mE,w=>by simp only[aD]at w
 | d+1,f,vs,h,Q,Q',E,E',m,mE,w=>by
  simp only[aD]at w ⊢;split at w
  ·rename_i df e;exact ⟨w.1,fG (jl d) mE _ {nx:=λ_ h=>Q .non h,rt:=Q} _ _ _ ⟨λ_ _ q=>m _ _ q,λ_ _ q=>m _ _ q,λ_ _ q=>q,λ_ _ q=>q⟩ w.2⟩
  ·exact w.elim
section
variable {sub:Nat->Nat->Bool}{P:List Def}{E:PX}{d:Nat}
theorem wp_seq {s:Sm}{ss:aB}{K:En}{σ:Lo}{h:AH}(M:Lo->AH->Prop)(w:wpS sub (aD sub P d) E s {K with nx:=M} σ h)(q:∀σ' h',M σ' h'->bN sub (aD sub P d) E ss K σ' h'):wpS sub (aD sub P d) E s {K with nx:=λσ' h'=>bN sub (aD sub P d) E ss K σ' h'} σ h:=
 wpS_mono (jl d) (λ_ _ z=>z) s {K with nx:=M} _ σ h ⟨q,λ_ _ q=>q,λ_ _ q=>q,λ_ _ q=>q⟩ w
theorem z6 {c:Tx}{b:aB}{K:En}{σ:Lo}{h:AH}(Pv:Nat->Lo->AH->Prop){m:Nat}(h0:Pv m σ h)
  (hs:∀m σ h,Pv m σ h->cQ sub (aD sub P d) E c σ h λk h1=>if k=true then bN sub (aD sub P d) E b {nx:=λσ' h'=>∃m',m' < m/\Pv m' σ' h',rt:=K.rt,bk:=K.nx,ct:=λσ' h'=>∃m',m' < m/\Pv m' σ' h'} σ h1 else K.nx σ h1):wpS sub (aD sub P d) E (.zX c b) K σ h:=
 Yj Pv h0 hs λσ h Q Q' m w=>dH (jl d) (λ_ _ z=>z) c σ h _ _ m w
theorem abJ {k:IK}{src:cN}{nt:Nat}{cond:Ld}{elt:Ex}{σ:Lo}{h h1:AH}{Q:PV}{J:It}{xs vs:List D}(p:D->Bool)(g:D->D)
  (he:∀Q:List D->AH->Prop,Q vs h1->bH sub (aD sub P d) E src σ h Q) (hi:bU k vs h1=some J) (hl:xs.length<=16777216)
  (hJ:∀(i:Nat) h',h1<+:h'->J i h'=some xs[i]?)
  (hs:∀(i:Nat) v h2,xs[i]?=some v->h1<+:h2->∃σ',Dp nt v σ=some σ'/\sE sub (aD sub P d) E cond σ' h2 λc h3=>c=p v/\h2<+:h3/\(c=true->aM sub (aD sub P d) E elt σ' h3 λx h4=>x=g v/\h3<+:h4))
  (q:∀h',h1<+:h'->h'[h1.length]?=some (.lst ((xs.filter p).map g))->Q (.ref h1.length) h'):aM sub (aD sub P d) E (.comp k src nt cond elt) σ h Q:=by
 simp only[aM];refine he _ ?_;simp only[hi];refine ⟨λi m h'=>m=xs.length - i/\i<=xs.length/\h1<+:h'/\h'[h1.length]?=some (.lst (((xs.take i).filter p).map g)),⟨xs.length,by simp,Nat.zero_le _,List.prefix_append _ _,by simp⟩,?_⟩;rintro i m h2 ⟨rfl,hin,pr,ha⟩;rw[hJ i h2 pr];cases e:xs[i]? with
 | none=>
  have:i=xs.length:=by have:=List.getElem?_eq_none_iff.mp e;omega
  subst this;rw[List.take_length]at ha;exact q h2 pr ha
 | some v=>
  have hlt:i < xs.length:=(List.getElem?_eq_some_iff.mp e).1;obtain ⟨σ',em,w⟩:=hs i v h2 e pr;simp only[em];refine ⟨λh'=>h1<+:h'/\h'[h1.length]?=some (.lst (((xs.take (i+1)).filter p).map g)),λh' q'=>⟨xs.length - (i+1),by omega,rfl,hlt,q'.1,q'.2⟩,Lj (jl d) (λ_ _ z=>z) _ _ _ _ _ (λc h3 q3=>?_) w⟩;obtain ⟨hc,cY,q3⟩:=q3;have ht:xs.take (i+1)=xs.take i++[v]:=by rw[List.take_succ,e];rfl
  have adO:∀{a b:AH} {n:Nat} {o:AO},a<+:b->a[n]?=some o->b[n]?=some o:=λ{a b n o} pp ee=>by
   obtain ⟨l,rfl⟩:=pp;rw[List.getElem?_append_left (List.getElem?_eq_some_iff.mp ee).1];exact ee
  cases hcc:c with
  | false=>
   rw[if_neg (by decide)];refine ⟨pr.trans cY,?_⟩;rw[ht,List.filter_append,List.filter_cons_of_neg (by rw[<-hc,hcc];decide)];simpa using adO cY ha
  | true=>
   rw[if_pos rfl];refine bB (jl d) (λ_ _ z=>z) _ _ _ _ _ (λx h4 q4=>?_) (q3 hcc);obtain ⟨rfl,pr4⟩:=q4;have ha4:=adO (cY.trans pr4) ha;have hll:(((xs.take i).filter p).map g).length < 16777216:=by
    have h1:=List.length_filter_le p (xs.take i);rw[List.length_take]at h1;rw[List.length_map];omega
   rw[dI ha4 hll];refine ⟨?_,?_⟩
   ·obtain ⟨l,rfl⟩:=(pr.trans (cY.trans pr4))
    rw[List.set_append_right _ _ (Nat.le_refl _)];exact List.prefix_append _ _
   ·rw[List.getElem?_set_self (List.getElem?_eq_some_iff.mp ha4).1,ht,List.filter_append,List.filter_cons_of_pos (by rw[<-hc,hcc])];simp
end
end Z
set_option Elab.async false
namespace L2
open PySem PySem.Spec PyProof.Rows
noncomputable abbrev Key:=Sum Int Str
noncomputable def Dr:Key->Value->Bool
 | .inl k,v=>Value.isInt k v
 | .inr x,v=>Value.isStrOf x v
noncomputable def alu (w:World):Key->Int
 | .inl k=>hashInt k
 | .inr x=>hashStr w x
theorem dJ:∀{k:Key} {v:Value},Dr k v=true->(∃i t,k=Sum.inl i/\v=Value.int i t)\/(∃x t,k=Sum.inr x/\v=Value.str x t)
 | .inl i,v,h=>by
  obtain ⟨t,e⟩:=Value.isInt_shape (k:=i) (v:=v) h;exact .inl ⟨i,t,rfl,e⟩
 | .inr x,v,h=>by
  obtain ⟨t,e⟩:=Value.isStrOf_shape (x:=x) (v:=v) h;exact .inr ⟨x,t,rfl,e⟩
theorem VD (i:Int)(t:Tok):Dr (.inl i) (.int i t)=true:=by simp[Dr,Value.isInt]
theorem VF (x:Str)(t:Tok):Dr (.inr x) (.str x t)=true:=by simp[Dr,Value.isStrOf]
theorem adP (a b:Int):decide ((Sum.inl a:Key)=Sum.inl b)=(a == b):=by
 by_cases e:a=b
 ·subst e;simp
 ·have h:¬(Sum.inl a:Key)=Sum.inl b:=λq=>e (Sum.inl.inj q);rw[decide_eq_false h];exact (beq_eq_false_iff_ne.mpr e).symm
theorem adQ (a b:Str):decide ((Sum.inr a:Key)=Sum.inr b)=decide (a=b):=by
 by_cases e:a=b
 ·subst e;simp
 ·have h:¬(Sum.inr a:Key)=Sum.inr b:=λq=>e (Sum.inr.inj q);rw[decide_eq_false h,decide_eq_false e]
theorem adR (a:Int)(b:Str):decide ((Sum.inl a:Key)=Sum.inr b)=false:=decide_eq_false (λq=>nomatch q)
theorem adS (a:Str)(b:Int):decide ((Sum.inr a:Key)=Sum.inl b)=false:=decide_eq_false (λq=>nomatch q)
noncomputable def dz (prog:Program) (w:World):PySem.KeyKind prog w Key where
 is:=Dr
 hash:=alu w
 inj:=λv a b ha hb=>by
  rcases dJ ha with ⟨i,t,rfl,rfl⟩ | ⟨x,t,rfl,rfl⟩
  ·rcases dJ hb with ⟨j,u,rfl,e⟩ | ⟨y,u,rfl,e⟩
   ·injection e with e1 _;rw[e1]
   ·exact nomatch e
  ·rcases dJ hb with ⟨j,u,rfl,e⟩ | ⟨y,u,rfl,e⟩
   ·exact nomatch e
   ·injection e with e1 _;rw[e1]
 byValue:=λk v h=>by
  rcases dJ h with ⟨i,t,rfl,rfl⟩ | ⟨x,t,rfl,rfl⟩<;>rfl
 pyHash:=λhv h=>by
  rcases dJ hv with ⟨i,t,rfl,rfl⟩ | ⟨x,t,rfl,rfl⟩
  ·exact wpAny_pyHash_int h
  ·exact wpAny_pyHash_str h
 eqBool:=λhu hv h=>by
  rcases dJ hu with ⟨i,t,rfl,rfl⟩ | ⟨x,t,rfl,rfl⟩
  ·rcases dJ hv with ⟨j,u,rfl,rfl⟩ | ⟨y,u,rfl,rfl⟩
   ·rw[adP]at h;exact wpAny_eqBool_int h
   ·rw[adR]at h;exact SeqAt.EqAt.int_str i t y u _ _ _ _ h
  ·rcases dJ hv with ⟨j,u,rfl,rfl⟩ | ⟨y,u,rfl,rfl⟩
   ·rw[adS]at h;exact SeqAt.EqAt.str_int x t j u _ _ _ _ h
   ·rw[adQ]at h;exact wpAny_eqBool_str h
 «strs»:=λk x t v h=>by
  rcases dJ h with ⟨i,u,rfl,e⟩ | ⟨y,u,rfl,e⟩
  ·exact nomatch e
  ·injection e with e1 _
   subst e1;cases v<;>rfl
theorem Oz (prog:Program)(w:World)(i:Int)(t:Tok):(dz prog w).is (.inl i) (.int i t)=true:=VD i t
theorem uz (prog:Program)(w:World)(x:Str)(t:Tok):(dz prog w).is (.inr x) (.str x t)=true:=VF x t
end L2
namespace L2
open PySem PySem.Spec PyProof.Rows
inductive V where
 | non | bl (b:Bool) | int (i:Int) | str (x:Str) | Ju (b:Array UInt8) | flt (b:UInt64) | ref (a:Addr) | ty (n:String)
 deriving DecidableEq
noncomputable def RelV:V->Value->Prop
 | .non,u=>u=Value.none
 | .bl b,u=>u=Value.bool b
 | .int i,u=>∃t,u=Value.int i t
 | .str x,u=>∃t,u=Value.str x t
 | .Ju b,u=>∃t,u=Value.bytes b t
 | .flt b,u=>∃t,u=Value.float b t
 | .ref a,u=>u=Value.ref a
 | .ty n,u=>u=Value.type n
noncomputable abbrev Vals:List V->List Value->Prop:=Paired RelV
theorem Vals.length {xs:List V}{us:List Value}(r:Vals xs us):xs.length=us.length:=Paired.length r
theorem Vals.get:∀{xs:List V} {us:List Value} {i:Nat} {x:V},Vals xs us->xs[i]?=some x->∃u,us[i]?=some u/\RelV x u
 | _,_,_,_,.nil,e=>by simp at e
 | _,_,0,_,.cons r _,e=>by simp at e;subst e;exact ⟨_,rfl,r⟩
 | _,_,i+1,x,.cons _ t,e=>by
  obtain ⟨u,h1,h2⟩:=Vals.get (i:=i) (x:=x) t (by simpa using e);exact ⟨u,by simpa using h1,h2⟩
theorem Vals.set {x:V}{u:Value}(r:RelV x u):∀{xs:List V} {us:List Value} (i:Nat),Vals xs us->Vals (xs.set i x) (us.set i u)
 | _,_,_,.nil=>.nil
 | _,_,0,.cons _ t=>.cons r t
 | _,_,i+1,.cons q t=>.cons q (Vals.set r i t)
theorem Vals.append:∀{xs ys:List V} {us ws:List Value},Vals xs us->Vals ys ws->Vals (xs++ys) (us++ws)
 | _,_,_,_,.nil,s=>s
 | _,_,_,_,.cons r t,s=>.cons r (Vals.append t s)
theorem Vals.take:∀{xs:List V} {us:List Value} (n:Nat),Vals xs us->Vals (xs.take n) (us.take n)
 | _,_,0,_=>.nil
 | _,_,_+1,.nil=>.nil
 | _,_,n+1,.cons r t=>.cons r (Vals.take n t)
theorem Vals.drop:∀{xs:List V} {us:List Value} (n:Nat),Vals xs us->Vals (xs.drop n) (us.drop n)
 | _,_,0,r=>r
 | _,_,_+1,.nil=>.nil
 | _,_,n+1,.cons _ t=>Vals.drop n t
noncomputable def nR:Option V->Option Value->Prop
 | some v,some u=>RelV v u
 | none,none=>True
 | _,_=>False
noncomputable def KV {κ:Type}:List (κ×V)->List (κ×Value)->Prop:=Paired λ(p:κ×V) (q:κ×Value)=>p.1=q.1/\RelV p.2 q.2
noncomputable def kV:Key->V
 | .inl i=>.int i
 | .inr x=>.str x
inductive HO where
 /-- a list -/
 | lst (xs:List V)
 /-- a tuple (never changes) -/
 | tup (xs:List V)
 /-- a dict whose keys are ints and texts;one whose keys are tuples of ints and texts (the empty one is both) -/
 | dK (kvs:List (Key×V)) | dT (kvs:List (List Key×V))
 /-- a set of ints:its members,its size -/
 | set (S:Int->Bool) (n:Nat)
 /-- an instance of the class at C,its dict at dx,its attributes -/
 | ins (C dx:Addr) (fs:List (Str×V))
 /-- the dict of the instance at x -/
 | own (x:Addr)
 /-- the dict of an exception -/
 | xd (fs:List (Str×V))
 /-- a bound method,f of x -/
 | met (f x:Addr)
 /-- a range object lo,lo+1,.. below hi -/
 | rng (lo hi:Int)
 /-- a thing that is known to the object (the script;a dict while a loop walks it):read,never written while it is so -/
 | bY (o:Obj) (u:HO)
 /-- a code object's table -/
 | Ek (ps:Array Value)
 /-- any other thing,by what is true of its one object (a def of one's own:atv a S n:=HO.ext λh=>..) -/
 | ext (φ:Heap->Prop)
noncomputable abbrev Hp:=Addr->Option HO
noncomputable def upd (H:Hp) (a:Addr) (o:HO):Hp:=λb=>if b=a then some o else H b
theorem aZ {H:Hp}{a:Addr}{o:HO}:upd H a o a=some o:=by unfold upd;rw[if_pos rfl]
theorem aN {H:Hp}{a b:Addr}{o:HO}(h:b≠a):upd H a o b=H b:=by unfold upd;rw[if_neg h]
theorem Rt {H:Hp}{a b:Addr}{o u:HO}(h:H a=some o)(h':H b=some u)(d:o≠u):a≠b:=by
 intro e;subst e;rw[h]at h';exact d (Option.some.inj h')
theorem cT {H:Hp}{a b:Addr}{o:HO}(h:H a=some o)(h':H b=none):a≠b:=by
 intro e;subst e;rw[h]at h';cases h'
noncomputable def z7 (h:Heap) (a:Addr) (items:Array Value):Prop:=IsTup h a items/\∃o,h.get? a=some o/\o.dict=none
theorem z7.new (h:Heap)(items:Array Value):z7 (h.push {cls:=.type "tuple",data:=.seq items}) h.objs.size items:=⟨IsTup.new h items,_,Heap.get?_push_size _ rfl,rfl⟩
section
variable (P:Program)(w:World)
noncomputable def cD (H:Hp) (h:Heap) (a:Addr):HO->Prop
 | .lst xs=>xs.length<=sizeLine/\∃(its:List Value) (n:Nat),Vals xs its/\h.get? a=some {cls:=.type "list",data:=.seq its.toArray n}
 | .tup xs=>xs.length<=sizeLine/\∃its:List Value,Vals xs its/\z7 h a its.toArray
 | .dK kvs=>kvs.length<=sizeLine/\(a == sysModules)=false/\∃vs,KV kvs vs/\h.DictOf (dz P w) a vs
 | .dT kvs=>kvs.length<=sizeLine/\(a == sysModules)=false/\∃xs:List (List Key×Addr×Value),
   Paired (λ(p:List Key×V) (q:List Key×Addr×Value)=>p.1=q.1/\H q.2.1=some (.tup (p.1.map kV))/\RelV p.2 q.2.2) kvs xs/\
   ∃o es ep,h.get? a=some o/\o.ExactDict/\o.data=.dict es ep/\es.toList=xs.map (entryOfKey (tupleKind (dz P w)))/\(xs.map (·.1)).Nodup
 | .set S n=>h.SetOf (intKind P w) a S n
 | .ins C dx fs=>H dx=some (.own a)/\fs.length<=1000/\dx≠a/\h.get? a=some (PySem.W.instObj C dx)/\
   ∃mA,h.Ns1 dx mA/\(∀f,nR (fs.lookup f) (mA f))/\PySem.Within mA (fs.map (·.1))
 | .own _=>∃o,h.get? a=some o
 | .xd fs=>∃mA,h.Ns1 a mA/\∀f,nR (fs.lookup f) (mA f)
 | .rng lo hi=>∃t u v,h.get? a=some {cls:=.type "range",data:=.fields #[.int lo t,.int hi u,.int 1 v]}
 | .bY o u=>h.get? a=some o/\cD H h a u
 | .Ek ps=>h.get? a=some {cls:=.none,data:=.fields ps}
 | .met f x=>h.get? a=some (PySem.W.methodObj (.ref f) (.ref x))
 | .ext φ=>φ h/\(∃o,h.get? a=some o)/\∀h1 h2:Heap,φ h1->(∀o,h1.get? a=some o->h2.get? a=some o)->φ h2
noncomputable def d7 (H:Hp) (h:Heap):Prop:=∀a o,H a=some o->cD P w H h a o
end
section
variable {P:Program}{w:World}{H H':Hp}{h h':Heap}{a:Addr}{o:HO}
theorem cD.lt (x:cD P w H h a o):a < h.objs.size:=by
 cases o with
 | lst xs=>obtain ⟨_,_,_,_,e⟩:=x;exact Heap.lt_size e
 | tup xs=>obtain ⟨_,_,_,p⟩:=x;exact p.1.lt
 | dK kvs=>obtain ⟨_,_,_,_,o,_,_,e,_⟩:=x;exact Heap.lt_size e
 | dT kvs=>obtain ⟨_,_,_,_,o,_,_,e,_⟩:=x;exact Heap.lt_size e
 | set S n=>obtain ⟨o,_,_,_,e,_⟩:=x;exact Heap.lt_size e
 | ins C dx fs=>obtain ⟨_,_,_,e,_⟩:=x;exact Heap.lt_size e
 | own y=>obtain ⟨_,e⟩:=x;exact Heap.lt_size e
 | xd fs=>obtain ⟨_,⟨_,_,_,e,_⟩,_⟩:=x;exact Heap.lt_size e
 | rng lo hi=>obtain ⟨_,_,_,e⟩:=x;exact Heap.lt_size e
 | bY ob u=>obtain ⟨e,_⟩:=x;exact Heap.lt_size e
 | Ek ps=>exact Heap.lt_size (show h.get? a=some _ from x)
 | met f y=>exact Heap.lt_size (show h.get? a=some _ from x)
 | ext φ=>obtain ⟨_,⟨_,e⟩,_⟩:=x;exact Heap.lt_size e
theorem Paired.Yk {α β:Type}{F G:α->β->Prop}:∀{l₁:List α} {l₂:List β},Paired F l₁ l₂->(∀a b,F a b->G a b)->Paired G l₁ l₂
 | _,_,.nil,_=>.nil
 | _,_,.cons r t,f=>.cons (f _ _ r) (Paired.Yk t f)
theorem cD.stay (x:cD P w H h a o)(k:∀b u,(b=a\/H b=some (.own a))->h.get? b=some u->h'.get? b=some u)
  (ho:∀b,H b=some (.own a)->H' b=some (.own a)) (ht:∀b xs,H b=some (.tup xs)->H' b=some (.tup xs)):cD P w H' h' a o:=by
 induction o with
 | lst xs=>obtain ⟨z,its,n,r,e⟩:=x;exact ⟨z,its,n,r,k _ _ (.inl rfl) e⟩
 | tup xs=>obtain ⟨z,its,r,⟨ob,e,c⟩,ob',e',d⟩:=x;exact ⟨z,its,r,⟨ob,k _ _ (.inl rfl) e,c⟩,ob',k _ _ (.inl rfl) e',d⟩
 | dK kvs=>obtain ⟨z,y,vs,r,ob,es,ep,e,c⟩:=x;exact ⟨z,y,vs,r,ob,es,ep,k _ _ (.inl rfl) e,c⟩
 | dT kvs=>
  obtain ⟨z,y,xs,r,ob,es,ep,e,c⟩:=x;exact ⟨z,y,xs,Paired.Yk r λp q z=>⟨z.1,ht _ _ z.2.1,z.2.2⟩,ob,es,ep,k _ _ (.inl rfl) e,c⟩
 | set S n=>obtain ⟨ob,es,ep,t,e,c⟩:=x;exact ⟨ob,es,ep,t,k _ _ (.inl rfl) e,c⟩
 | ins C dx fs=>
  obtain ⟨d,z,ne,e,mA,⟨od,es,ep,e2,c⟩,r⟩:=x;exact ⟨ho _ d,z,ne,k _ _ (.inl rfl) e,mA,⟨od,es,ep,k _ _ (.inr d) e2,c⟩,r⟩
 | own y=>obtain ⟨ob,e⟩:=x;exact ⟨ob,k _ _ (.inl rfl) e⟩
 | xd fs=>obtain ⟨mA,⟨od,es,ep,e,c⟩,r⟩:=x;exact ⟨mA,⟨od,es,ep,k _ _ (.inl rfl) e,c⟩,r⟩
 | rng lo hi=>obtain ⟨t,u,v,e⟩:=x;exact ⟨t,u,v,k _ _ (.inl rfl) e⟩
 | bY ob u ih=>obtain ⟨e,q⟩:=x;exact ⟨k _ _ (.inl rfl) e,ih q⟩
 | Ek ps=>
  have e:h.get? a=some {cls:=.none,data:=.fields ps}:=x;show h'.get? a=some {cls:=.none,data:=.fields ps};exact k a _ (.inl rfl) e
 | met f y=>
  have e:h.get? a=some (PySem.W.methodObj (.ref f) (.ref y)):=x;show h'.get? a=some (PySem.W.methodObj (.ref f) (.ref y));exact k a _ (.inl rfl) e
 | ext φ=>obtain ⟨p,⟨o,e⟩,st⟩:=x;exact ⟨st _ _ p λo q=>k _ _ (.inl rfl) q,⟨o,k _ _ (.inl rfl) e⟩,st⟩
theorem d7.lt (x:d7 P w H h)(e:H a=some o):a < h.objs.size:=(x a o e).lt
theorem d7.fresh (x:d7 P w H h)(e:h.objs.size<=a):H a=none:=by
 cases q:H a with
 | none=>rfl
 | some u=>exact absurd (Nat.lt_of_lt_of_le (x.lt q) e) (Nat.lt_irrefl _)
theorem d7.kept (x:d7 P w H h)(k:∀b u,h.get? b=some u->h'.get? b=some u):d7 P w H h':=λa o e=>
 (x a o e).stay (λb u _ q=>k b u q) (λ_ q=>q) λ_ _ q=>q
theorem d7.laid (x:d7 P w H h)(k:∀b u,h.get? b=some u->h'.get? b=some u)(hp:h.objs.size<=a)(new:cD P w (upd H a o) h' a o):d7 P w (upd H a o) h':=λb u e=>by
 have hn:=x.fresh hp;by_cases hb:b=a
 ·subst hb;rw[aZ]at e;cases e;exact new
 ·rw[aN hb]at e;exact (x b u e).stay (λc v _ q=>k c v q) (λc q=>by rw[aN (cT q hn)];exact q) λc xs q=>by rw[aN (cT q hn)];exact q
end
noncomputable def Rd (H:Hp) (a:Addr) (u:HO):Prop:=H a=some u\/∃o,H a=some (.bY o u)
theorem Rd.ok {P:Program}{w:World}{H:Hp}{h:Heap}{a:Addr}{u:HO}(r:Rd H a u)(x:d7 P w H h):cD P w H h a u:=by
 rcases r with r | ⟨o,r⟩
 ·exact x a u r
 ·obtain ⟨_,q⟩:=x a _ r;exact q
noncomputable def VG:Option HO->Prop
 | some (.lst _)=>True
 | some (.dK _)=>True
 | some (.dT _)=>True
 | some (.set _ _)=>True
 | some (.ins _ _ _)=>True
 | some (.ext _)=>True
 | _=>False
section
variable {P:Program}{w:World}{H:Hp}{h h':Heap}{x e:Addr}{o':HO}
theorem d7.write (ok:d7 P w H h)(mu:VG (H x))(he:e=x\/H e=some (.own x))(k:∀b u,b≠e->h.get? b=some u->h'.get? b=some u)(heo:∃u,h'.get? e=some u)
  (new:cD P w (upd H x o') h' x o'):d7 P w (upd H x o') h':=λb u q=>by
 have adT:∀c y,H c=some (.own y)->c≠x:=λc y r z=>by subst z;rw[r]at mu;exact mu
 have alv:∀c xs,H c=some (.tup xs)->c≠x:=λc xs r z=>by subst z;rw[r]at mu;exact mu
 by_cases hb:b=x
 ·subst hb;rw[aZ]at q;cases q;exact new
 ·rw[aN hb]at q;by_cases hbe:b=e
  ·have q':H b=some (.own x):=by
    rcases he with z | z
    ·exact absurd (hbe.trans z) hb
    ·rw[hbe];exact z
   rw[q]at q';cases q';obtain ⟨v,hv⟩:=heo;exact ⟨v,by rw[hbe];exact hv⟩
  ·refine (ok b u q).stay (λc v hc r=>k c v ?_ r) (λc r=>by rw[aN (adT c b r)];exact r) λc xs r=>by rw[aN (alv c xs r)];exact r
   rcases hc with rfl | hc
   ·exact hbe
   ·rintro rfl;rcases he with z | z
    ·exact adT c b hc z
    ·rw[hc]at z;cases z;exact hb rfl
end
structure Un (fs ex:List Addr)(H H':Hp)(h h':Heap):Prop where
 keep:∀b o,h.get? b=some o->H b=none->b∉fs->b∉ex->h'.get? b=some o
 slot:∀b o,h.get? b=some o->H b=none->b∈fs->b∉ex->∃sl,h'.get? b=some {o with slots:=sl}
 free:∀b o,h.get? b=some o->H b=none->b∉ex->H' b=none
 there:∀b o,h.get? b=some o->b∉ex->∃o',h'.get? b=some o'
 tups:∀b xs,H b=some (.tup xs)->H' b=some (.tup xs)
 iV:∀b o u,H b=some (.bY o u)->H' b=some (.bY o u)
 jM:∀b ps,H b=some (.Ek ps)->∃more,H' b=some (.Ek (ps++more))
section
variable {fs fs' ex ex':List Addr}{H H1 H2:Hp}{h h1 h2 h':Heap}{a x e:Addr}{o:HO}
theorem Un.any (u:Un fs ex H H1 h h1){b:Addr}{ob:Obj}(q:h.get? b=some ob)(n:H b=none)(hx:b∉ex):∃sl,h1.get? b=some {ob with slots:=sl}:=by
 by_cases hb:b∈fs
 ·exact u.slot b ob q n hb hx
 ·exact ⟨ob.slots,u.keep b ob q n hb hx⟩
theorem Un.kept (k:∀b u,h.get? b=some u->h'.get? b=some u):Un fs ex H H h h':=
 ⟨λb ob q _ _ _=>k b ob q,λb ob q _ _ _=>⟨ob.slots,k b ob q⟩,λ_ _ _ n _=>n,λb ob q _=>⟨ob,k b ob q⟩,λ_ _ q=>q,λ_ _ _ q=>q,λ_ ps q=>⟨#[],by rw[q];simp⟩⟩
theorem Un.refl:Un fs ex H H h h:=Un.kept λ_ _ q=>q
theorem Un.laid (k:∀b u,h.get? b=some u->h'.get? b=some u)(hp:h.objs.size<=a)(hn:H a=none):Un fs ex H (upd H a o) h h' where
 keep:=λb u q _ _ _=>k b u q
 slot:=λb u q _ _ _=>⟨u.slots,k b u q⟩
 free:=λb u q n _=>by rw[aN (Nat.ne_of_lt (Nat.lt_of_lt_of_le (Heap.lt_size q) hp))];exact n
 there:=λb u q _=>⟨u,k b u q⟩
 tups:=λb xs q=>by rw[aN (cT q hn)];exact q
 iV:=λb u xs q=>by rw[aN (cT q hn)];exact q
 jM:=λb ps q=>⟨#[],by rw[aN (cT q hn),q];simp⟩
theorem Un.write (mu:VG (H x))(he:e=x\/H e=some (.own x))(k:∀b u,b≠e->h.get? b=some u->h'.get? b=some u)(heo:∃u,h'.get? e=some u):Un fs ex H (upd H x o) h h':=by
 have hx:∀b,H b=none->b≠x:=λb n z=>by subst z;rw[n]at mu;exact mu
 have hb:∀b,H b=none->b≠e:=λb n z=>by
  subst z;rcases he with r | r
  ·exact hx b n r
  ·rw[n]at r;cases r
 have hm:∀b u,H b=some u->¬VG (some u)->b≠x:=λb u q nm z=>by subst z;rw[q]at mu;exact nm mu
 refine ⟨λb u q n _ _=>k b u (hb b n) q,λb u q n _ _=>⟨u.slots,k b u (hb b n) q⟩,λb u q n _=>by rw[aN (hx b n)];exact n,λb u q _=>?_,
  λb xs q=>by rw[aN (hm b _ q λz=>z)];exact q,λb u xs q=>by rw[aN (hm b _ q λz=>z)];exact q,λb ps q=>⟨#[],by rw[aN (hm b _ q λz=>z),q];simp⟩⟩
 by_cases hbe:b=e
 ·subst hbe;exact heo
 ·exact ⟨u,k b u hbe q⟩
end
noncomputable def trk (h:Heap) (H:Hp):List Addr:=(List.range h.objs.size).filter λa=>(H a).isSome
noncomputable def v7 (h:Heap) (H:Hp):Heap:=PySem.W.hideAll h (trk h H)
theorem VH (h:Heap)(H:Hp):(v7 h H).objs.size=h.objs.size:=PySem.W.hideAll_size _ _
theorem Yl {h:Heap}{H:Hp}{b:Addr}{o:Obj}(e:h.get? b=some o)(n:H b=none):(v7 h H).get? b=some o:=
 PySem.W.hideAll_get _ e λhm=>by
  have q:(H b).isSome=true:=(List.mem_filter.mp hm).2;rw[n]at q;simp at q
theorem abK {h:Heap}{H:Hp}{b:Addr}{o:Obj}(e:(v7 h H).get? b=some o):h.get? b=some o/\H b=none:=by
 have e':h.get? b=some o:=PySem.W.of_hideAll (trk h H) e;refine ⟨e',?_⟩;cases q:H b with
 | none=>rfl
 | some x=>
  have hm:b∈trk h H:=List.mem_filter.mpr ⟨List.mem_range.mpr (Heap.lt_size e'),by simp[q]⟩;have z:(v7 h H).get? b=none:=PySem.W.hideAll_none (trk h H) hm;rw[z]at e;cases e
noncomputable def abL (g h:Heap) (L:Addr):List (Addr×Obj):=(List.range h.objs.size).filterMap λa=>if a=L\/(g.get? a).isSome=true then none else (h.get? a).map λo=>(a,o)
noncomputable def rest (g h:Heap) (L d:Addr):List (Addr×Obj):=(abL g h L).filter λp=>decide (p.1≠d)
end L2
namespace L2
open PySem PySem.Spec PyProof.Rows
structure Mod (K:PySem.W.Frag)(mg:Str->Option Value)(base:Heap):Prop where
 El:K.In base
 glob:base.Ns mainGlobals mg
 blt:∃mb,base.Ns builtinsNs mb/\∀x:Str,x≠"__name__"->mb x=bootBuiltins x
 nolimit:base.NoLimit
structure Cx where
 prog:Program
 w:World
 K:PySem.W.Frag
 mg:Str->Option Value
 base:Heap
 A:Around
 N:List Str
 s₀:Shared
 H₀:Hp
 env:Env
 outer:List Env
 stack:List Env
 ex:List Addr
 fn:Str->Bool
 calm:Bool
 pn:List (Addr×Obj)
 xe:Value->Shared->Prop
noncomputable def frs (l:List Env):List Addr:=l.filterMap (·.frame)
noncomputable abbrev Cx.fs (X:Cx):List Addr:=frs X.outer
noncomputable def Gj (sc:Scope) (x:Str):Prop:=sc.names.lookup x=some .local\/sc.names.lookup x=some .cell\/sc.names.lookup x=some .free
noncomputable def Loc (sc:Scope) (x:Str):Prop:=sc.names.lookup x=some .local\/sc.names.lookup x=some .cell
noncomputable def Look (env:Env) (h:Heap) (m:Str->Option Value) (x:Str) (u:Value):Prop:=
 (env.kindOf x=some .local/\m x=some u)\/((env.kindOf x=some .cell\/env.kindOf x=some .free)/\∃c,env.cells.lookup x=some c/\h.IsCell c (some u))
structure Cx.Ok (X:Cx):Prop where
 mod:Mod X.K X.mg X.base
 kind:X.env.scope.kind=.function
 glob:X.env.globals=mainGlobals
 blt:X.env.builtins=builtinsNs
 above:X.s₀.heap.objs.size<=X.env.locals
 inj:∀x y c,X.env.cells.lookup x=some c->X.env.cells.lookup y=some c->x=y
 has:∀x,(X.env.kindOf x=some .cell\/X.env.kindOf x=some .free)->∃c,X.env.cells.lookup x=some c
 cab:∀x c,X.fn x=true->X.env.cells.lookup x=some c->X.s₀.heap.objs.size<=c
 hd:X.calm=true->X.A.handled=none
 frames:X.A.frames=some X.stack
 stk:X.stack=X.outer\/(X.stack=X.env::X.outer/\X.env.frame=some X.env.locals)
 exf:∀b∈X.ex,b≠X.env.locals/\∀x c,X.env.cells.lookup x=some c->c≠b
 bs:∀b o,X.base.get? b=some o->X.s₀.heap.get? b=some o/\X.H₀ b=none
 Eo:X.base.objs.size<=X.s₀.heap.objs.size
 nU:∀b o,X.base.get? b=some o->b∉X.ex
 Ln:∀b∈X.ex,b∉X.fs
 lZ:X.s₀.heap.FunFrames X.base X.outer
 Jv:∀b∈X.fs,X.H₀ b=none
structure Inv (X:Cx)(pins:List (Addr×Obj))(σ:List (Option V))(H:Hp)(s:Shared):Prop where
 ok:X.Ok
 os:s.os=X.s₀.os
 bare:AllBare s.gens
 base:Un X.fs X.ex X.H₀ H X.s₀.heap s.heap
 loc:∃m,s.heap.Ns X.env.locals m/\∀(i:Nat) (x:Str) (v:V),X.N[i]?=some x->σ[i]?=some (some v)->Gj X.env.scope x->∃u,RelV v u/\Look X.env s.heap m x u
 cell:∀x c,X.env.cells.lookup x=some c->∃v,s.heap.IsCell c v
 free:H X.env.locals=none
 eU:∀x c,X.env.cells.lookup x=some c->H c=none
 pin:∀p∈X.pn++pins,s.heap.get? p.1=some p.2/\H p.1=none/\p.1≠X.env.locals/\p.1∉X.fs/\∀v,p.2.data≠.cell v
 hok:d7 X.prog X.w H s.heap
 len:σ.length=X.N.length
section
variable {X:Cx}{pins:List (Addr×Obj)}{σ:List (Option V)}{H H':Hp}{s:Shared}{h':Heap}
theorem Cx.Ok.alw (ok:X.Ok){b:Addr}{o:Obj}(e:X.base.get? b=some o):b∉X.fs:=λhb=>by
 have:=(ok.lZ.mem hb).1;rw[e]at this;cases this
theorem Inv.bs (I:Inv X pins σ H s):∀b o,X.base.get? b=some o->s.heap.get? b=some o/\H b=none:=λb o e=>
 ⟨I.base.keep b o (I.ok.bs b o e).1 (I.ok.bs b o e).2 (I.ok.alw e) (I.ok.nU b o e),I.base.free b o (I.ok.bs b o e).1 (I.ok.bs b o e).2 (I.ok.nU b o e)⟩
theorem Inv.bk (I:Inv X pins σ H s):∀b o,X.base.get? b=some o->s.heap.get? b=some o:=λb o e=>(I.bs b o e).1
theorem Inv.mod (I:Inv X pins σ H s):Mod X.K X.mg X.base:=I.ok.mod
theorem Inv.cZ (I:Inv X pins σ H s):X.K.In s.heap:=I.ok.mod.El.keeps I.bk
theorem Inv.lt (I:Inv X pins σ H s):X.env.locals < s.heap.objs.size:=let ⟨_,hn,_⟩:=I.loc;hn.lt
theorem Inv.sz (I:Inv X pins σ H s):X.s₀.heap.objs.size<=s.heap.objs.size:=Nat.le_trans I.ok.above (Nat.le_of_lt I.lt)
theorem Inv.alx (I:Inv X pins σ H s){a:Addr}(h:s.heap.objs.size<=a):a∉X.fs:=λhb=>by
 obtain ⟨_,o,ho,_⟩:=I.ok.lZ.mem hb;exact absurd (Nat.lt_of_lt_of_le (Heap.lt_size ho) (Nat.le_trans I.sz h)) (Nat.lt_irrefl _)
theorem Inv.z8 (I:Inv X pins σ H s):∀x c,X.env.cells.lookup x=some c->c≠X.env.locals:=λx c e z=>by
 obtain ⟨v,o,ho,hd⟩:=I.cell x c e;obtain ⟨m,⟨o',es,ep,ho',hd',_⟩,_⟩:=I.loc;rw[z,ho']at ho;cases ho;rw[hd']at hd;cases hd
theorem Inv.lZ (I:Inv X pins σ H s):s.heap.FunFrames X.base X.outer:=by
 have all:∀(l:List Env),(∀b∈frs l,b∈X.fs)->X.s₀.heap.FunFrames X.base l->s.heap.FunFrames X.base l:=by
  intro l
  induction l with
  | nil=>intro _ _;trivial
  | cons env r ih=>
   intro hs hl;obtain ⟨hk,⟨L,o,hf,hn,ho,hd⟩,hr⟩:=hl;have hL:L∈X.fs:=hs L (by unfold frs;rw[List.filterMap_cons,hf];exact List.mem_cons_self);obtain ⟨sl,e⟩:=I.base.slot L o ho (I.ok.Jv L hL) hL λz=>I.ok.Ln L z hL;exact ⟨hk,⟨L,_,hf,hn,e,hd⟩,ih (λb hb=>hs b (by unfold frs;rw[List.filterMap_cons,hf];exact List.mem_cons_of_mem _ hb)) hr⟩
 exact all X.outer (λ_ hb=>hb) I.ok.lZ
theorem Inv.stack (I:Inv X pins σ H s):s.heap.FunFrames X.base X.stack:=by
 rcases I.ok.stk with e | ⟨e,hf⟩
 ·rw[e];exact I.lZ
 ·rw[e];obtain ⟨m,hn,_⟩:=I.loc;refine .cons (by rw[I.ok.kind];decide) hf hn ?_ I.lZ;exact Heap.get?_none_of_le (Nat.le_trans I.ok.Eo I.ok.above)
theorem Inv.z9 (I:Inv X pins σ H s):∀b∈frs X.stack,b∈X.env.locals::X.fs:=λb hb=>by
 rcases I.ok.stk with e | ⟨e,hf⟩
 ·rw[e]at hb;exact List.mem_cons_of_mem _ hb
 ·rw[e]at hb;unfold frs at hb;rw[List.filterMap_cons,hf]at hb;exact hb
theorem Inv.Ds (I:Inv X pins σ H s):∀b∈frs X.stack,H b=none:=λb hb=>by
 rcases List.mem_cons.mp (I.z9 b hb) with e | hb
 ·rw[e];exact I.free
 ·obtain ⟨_,o,ho,_⟩:=I.ok.lZ.mem hb;exact I.base.free b o ho (I.ok.Jv b hb) λz=>I.ok.Ln b z hb
theorem Inv.step {g':Array GenState}{t':Nat}{d':Drawn}{ch:List Addr}(I:Inv X pins σ H s)
  (hch:∀b∈ch,(b∈X.ex\/X.s₀.heap.objs.size<=b)/\b≠X.env.locals/\(∀x c,X.env.cells.lookup x=some c->c≠b)/\∀p∈X.pn++pins,p.1≠b)
  (keep:∀b o,b≠X.env.locals->b∉X.fs->b∉ch->s.heap.get? b=some o->H b=none->h'.get? b=some o)
  (slot:∀b o,b≠X.env.locals->b∈X.fs->b∉ch->s.heap.get? b=some o->H b=none->∃sl,h'.get? b=some {o with slots:=sl}) (free:∀b o,b∉ch->s.heap.get? b=some o->H b=none->H' b=none)
  (there:∀b o,b∉ch->s.heap.get? b=some o->∃o',h'.get? b=some o')
  (tups:∀b xs,H b=some (.tup xs)->H' b=some (.tup xs)) (iV:∀b o u,H b=some (.bY o u)->H' b=some (.bY o u)) (jM:∀b ps,H b=some (.Ek ps)->∃more,H' b=some (.Ek (ps++more)))
  (ns:∀m,s.heap.Ns X.env.locals m->h'.Ns X.env.locals m) (hok:d7 X.prog X.w H' h') (hg:AllBare g'):
  Inv X pins σ H' {s with heap:=h',gens:=g',drawn:=d',toks:=t'}:=by
 have VJ:∀b o,X.s₀.heap.get? b=some o->b≠X.env.locals:=λb o e=>Nat.ne_of_lt (Nat.lt_of_lt_of_le (Heap.lt_size e) I.ok.above);have Gk:∀b o,X.s₀.heap.get? b=some o->b∉X.ex->b∉ch:=λb o e hx hb=>by
  rcases (hch b hb).1 with z | z
  ·exact hx z
  ·exact absurd (Nat.lt_of_lt_of_le (Heap.lt_size e) z) (Nat.lt_irrefl _)
 have cellK:∀x c,X.env.cells.lookup x=some c->∀v,s.heap.IsCell c v->h'.IsCell c v:=λx c e v ⟨o,ho,hd⟩=>by
  have sH:c∉ch:=λz=>(hch c z).2.2.1 x c e rfl;by_cases hc:c∈X.fs
  ·obtain ⟨sl,q⟩:=slot c o (I.z8 x c e) hc sH ho (I.eU x c e);exact ⟨_,q,hd⟩
  ·exact ⟨o,keep c o (I.z8 x c e) hc sH ho (I.eU x c e),hd⟩
 refine ⟨I.ok,I.os,hg,⟨λb o e n hb hx=>?_,λb o e n hb hx=>?_,λb o e n hx=>?_,λb o e hx=>?_,λb xs e=>tups b xs (I.base.tups b xs e),λb o xs e=>iV b o xs (I.base.iV b o xs e),λb ps e=>?_⟩,?_,λx c e=>?_,?_,λx c e=>?_,λp hp=>?_,hok,I.len⟩
 ·exact keep b o (VJ b o e) hb (Gk b o e hx) (I.base.keep b o e n hb hx) (I.base.free b o e n hx)
 ·obtain ⟨sl,e1⟩:=I.base.slot b o e n hb hx;obtain ⟨sl',e2⟩:=slot b _ (VJ b o e) hb (Gk b o e hx) e1 (I.base.free b o e n hx);exact ⟨sl',e2⟩
 ·obtain ⟨o',e1⟩:=I.base.there b o e hx;exact free b o' (Gk b o e hx) e1 (I.base.free b o e n hx)
 ·obtain ⟨o',e1⟩:=I.base.there b o e hx;exact there b o' (Gk b o e hx) e1
 ·obtain ⟨m1,e1⟩:=I.base.jM b ps e;obtain ⟨m2,e2⟩:=jM b _ e1;exact ⟨m1++m2,by rw[e2,Array.append_assoc]⟩
 ·obtain ⟨m,hn,hl⟩:=I.loc;refine ⟨m,ns m hn,λi x v e1 e2 e3=>?_⟩;obtain ⟨u,r,l⟩:=hl i x v e1 e2 e3;refine ⟨u,r,?_⟩;rcases l with l | ⟨k,c,e,z⟩
  ·exact .inl l
  ·exact .inr ⟨k,c,e,cellK x c e _ z⟩
 ·obtain ⟨v,z⟩:=I.cell x c e;exact ⟨v,cellK x c e v z⟩
 ·obtain ⟨m,⟨o,_,_,ho,_⟩,_⟩:=I.loc;exact free _ o (λz=>(hch _ z).2.1 rfl) ho I.free
 ·obtain ⟨v,o,ho,hd⟩:=I.cell x c e;exact free c o (λz=>(hch c z).2.2.1 x c e rfl) ho (I.eU x c e)
 ·obtain ⟨e,n,ne,nf,d⟩:=I.pin p hp;have sH:p.1∉ch:=λz=>(hch p.1 z).2.2.2 p hp rfl;exact ⟨keep p.1 p.2 ne nf sH e n,free p.1 p.2 sH e n,ne,nf,d⟩
theorem Inv.KD {g':Array GenState}{t':Nat}{d':Drawn}{ch:List Addr}(I:Inv X pins σ H s)
  (hch:∀b∈ch,(b∈X.ex\/X.s₀.heap.get? b=none)/\b≠X.env.locals/\(∀x c,X.env.cells.lookup x=some c->c≠b)/\∀p∈X.pn++pins,p.1≠b)
  (keep:∀b o,b≠X.env.locals->b∉X.fs->b∉ch->s.heap.get? b=some o->H b=none->h'.get? b=some o)
  (slot:∀b o,b≠X.env.locals->b∈X.fs->b∉ch->s.heap.get? b=some o->H b=none->∃sl,h'.get? b=some {o with slots:=sl}) (free:∀b o,b∉ch->s.heap.get? b=some o->H b=none->H' b=none)
  (there:∀b o,b∉ch->s.heap.get? b=some o->∃o',h'.get? b=some o')
  (tups:∀b xs,H b=some (.tup xs)->H' b=some (.tup xs)) (iV:∀b o u,H b=some (.bY o u)->H' b=some (.bY o u)) (jM:∀b ps,H b=some (.Ek ps)->∃more,H' b=some (.Ek (ps++more)))
  (ns:∀m,s.heap.Ns X.env.locals m->h'.Ns X.env.locals m) (hok:d7 X.prog X.w H' h') (hg:AllBare g'):
  Inv X pins σ H' {s with heap:=h',gens:=g',drawn:=d',toks:=t'}:=by
 have VJ:∀b o,X.s₀.heap.get? b=some o->b≠X.env.locals:=λb o e=>Nat.ne_of_lt (Nat.lt_of_lt_of_le (Heap.lt_size e) I.ok.above);have Gk:∀b o,X.s₀.heap.get? b=some o->b∉X.ex->b∉ch:=λb o e hx hb=>by
  rcases (hch b hb).1 with z | z
  ·exact hx z
  ·rw[z]at e;cases e
 have cellK:∀x c,X.env.cells.lookup x=some c->∀v,s.heap.IsCell c v->h'.IsCell c v:=λx c e v ⟨o,ho,hd⟩=>by
  have sH:c∉ch:=λz=>(hch c z).2.2.1 x c e rfl;by_cases hc:c∈X.fs
  ·obtain ⟨sl,q⟩:=slot c o (I.z8 x c e) hc sH ho (I.eU x c e);exact ⟨_,q,hd⟩
  ·exact ⟨o,keep c o (I.z8 x c e) hc sH ho (I.eU x c e),hd⟩
 refine ⟨I.ok,I.os,hg,⟨λb o e n hb hx=>?_,λb o e n hb hx=>?_,λb o e n hx=>?_,λb o e hx=>?_,λb xs e=>tups b xs (I.base.tups b xs e),λb o xs e=>iV b o xs (I.base.iV b o xs e),λb ps e=>?_⟩,?_,λx c e=>?_,?_,λx c e=>?_,λp hp=>?_,hok,I.len⟩
 ·exact keep b o (VJ b o e) hb (Gk b o e hx) (I.base.keep b o e n hb hx) (I.base.free b o e n hx)
 ·obtain ⟨sl,e1⟩:=I.base.slot b o e n hb hx;obtain ⟨sl',e2⟩:=slot b _ (VJ b o e) hb (Gk b o e hx) e1 (I.base.free b o e n hx);exact ⟨sl',e2⟩
 ·obtain ⟨o',e1⟩:=I.base.there b o e hx;exact free b o' (Gk b o e hx) e1 (I.base.free b o e n hx)
 ·obtain ⟨o',e1⟩:=I.base.there b o e hx;exact there b o' (Gk b o e hx) e1
 ·obtain ⟨m1,e1⟩:=I.base.jM b ps e;obtain ⟨m2,e2⟩:=jM b _ e1;exact ⟨m1++m2,by rw[e2,Array.append_assoc]⟩
 ·obtain ⟨m,hn,hl⟩:=I.loc;refine ⟨m,ns m hn,λi x v e1 e2 e3=>?_⟩;obtain ⟨u,r,l⟩:=hl i x v e1 e2 e3;refine ⟨u,r,?_⟩;rcases l with l | ⟨k,c,e,z⟩
  ·exact .inl l
  ·exact .inr ⟨k,c,e,cellK x c e _ z⟩
 ·obtain ⟨v,z⟩:=I.cell x c e;exact ⟨v,cellK x c e v z⟩
 ·obtain ⟨m,⟨o,_,_,ho,_⟩,_⟩:=I.loc;exact free _ o (λz=>(hch _ z).2.1 rfl) ho I.free
 ·obtain ⟨v,o,ho,hd⟩:=I.cell x c e;exact free c o (λz=>(hch c z).2.2.1 x c e rfl) ho (I.eU x c e)
 ·obtain ⟨e,n,ne,nf,d⟩:=I.pin p hp;have sH:p.1∉ch:=λz=>(hch p.1 z).2.2.2 p hp rfl;exact ⟨keep p.1 p.2 ne nf sH e n,free p.1 p.2 sH e n,ne,nf,d⟩
theorem Inv.un {t':Nat}(I:Inv X pins σ H s)(u:Un X.fs [] H H' s.heap h')(hok:d7 X.prog X.w H' h'):Inv X pins σ H' {s with heap:=h',toks:=t'}:=by
 obtain ⟨m,⟨o,es,ep,ho,r⟩,_⟩:=id I.loc;obtain ⟨sl,hL⟩:=u.any ho I.free (by simp);exact I.step (g':=s.gens) (d':=s.drawn) (ch:=[]) (λ_ z=>nomatch z) (λb o _ hb _ e n=>u.keep b o e n hb (by simp)) (λb o _ hb _ e n=>u.slot b o e n hb (by simp)) (λb o _ e n=>u.free b o e n (by simp)) (λb o _ e=>u.there b o e (by simp)) u.tups u.iV u.jM (λm' hm=>by
  obtain ⟨o',es',ep',ho',r'⟩:=hm;rw[ho]at ho';cases ho';exact ⟨_,es',ep',hL,r'⟩) hok I.bare
theorem Inv.call {g':Array GenState}{t':Nat}{d':Drawn}{ch:List Addr}(I:Inv X pins σ H s)(u:Un (frs X.stack) ch H H' s.heap h')(hok:d7 X.prog X.w H' h')(hg:AllBare g')
  (hch:∀b∈ch,(b∈X.ex\/X.s₀.heap.objs.size<=b)/\b≠X.env.locals/\(∀x c,X.env.cells.lookup x=some c->c≠b)/\∀p∈X.pn++pins,p.1≠b):
  Inv X pins σ H' {s with heap:=h',gens:=g',drawn:=d',toks:=t'}:=by
 obtain ⟨m,⟨o,es,ep,ho,r⟩,_⟩:=id I.loc;obtain ⟨sl,hL⟩:=u.any ho I.free λz=>(hch _ z).2.1 rfl;exact I.step (ch:=ch) hch (λb o hL hb hc e n=>u.keep b o e n (λz=>(List.mem_cons.mp (I.z9 b z)).elim hL hb) hc) (λb o _ _ hc e n=>u.any e n hc) (λb o hc e n=>u.free b o e n hc) (λb o hc e=>u.there b o e hc) u.tups u.iV u.jM (λm' hm=>by
  obtain ⟨o',es',ep',ho',r'⟩:=hm;rw[ho]at ho';cases ho';exact ⟨_,es',ep',hL,r'⟩) hok hg
theorem Inv.turned {t':Nat}{it:Addr}(I:Inv X pins σ H s)(k:∀b o,b≠it->s.heap.get? b=some o->h'.get? b=some o)(hn:H it=none)(hL:it≠X.env.locals)
  (h1:it∈X.ex\/X.s₀.heap.objs.size<=it) (h2:∀x c,X.env.cells.lookup x=some c->c≠it) (h3:∀p∈X.pn++pins,p.1≠it):Inv X pins σ H {s with heap:=h',toks:=t'}:=by
 have nit:∀b u,H b=some u->b≠it:=λb u e z=>by rw[z,hn]at e;cases e
 refine I.step (g':=s.gens) (d':=s.drawn) (ch:=[it]) (λb hb=>?_) (λb o _ _ hc e _=>k b o (λz=>hc (by simp[z])) e) (λb o _ _ hc e _=>⟨o.slots,k b o (λz=>hc (by simp[z])) e⟩) (λ_ _ _ _ n=>n)
  (λb o hc e=>⟨o,k b o (λz=>hc (by simp[z])) e⟩) (λ_ _ e=>e) (λ_ _ _ e=>e) (λb ps e=>⟨#[],by rw[e];simp⟩) (λm hm=>?_) (λb u e=>?_) I.bare
 ·have e:b=it:=by simpa using hb
  subst e;exact ⟨h1,hL,h2,h3⟩
 ·obtain ⟨o,es,ep,ho,r⟩:=hm;exact ⟨o,es,ep,k _ o (Ne.symm hL) ho,r⟩
 ·refine (I.hok b u e).stay (λc v hc q=>k c v ?_ q) (λ_ q=>q) λ_ _ q=>q;rcases hc with z | z
  ·rw[z];exact nit b u e
  ·exact nit c _ z
theorem Inv.tok (I:Inv X pins σ H s)(t:Nat):Inv X pins σ H {s with toks:=t}:=I.un (h':=s.heap) (t':=t) Un.refl I.hok
theorem Inv.kept {t':Nat}(I:Inv X pins σ H s)(k:∀b u,s.heap.get? b=some u->h'.get? b=some u):Inv X pins σ H {s with heap:=h',toks:=t'}:=I.un (Un.kept k) (I.hok.kept k)
theorem Inv.laid {a:Addr}{o:HO}{t':Nat}(I:Inv X pins σ H s)(k:∀b u,s.heap.get? b=some u->h'.get? b=some u)(hp:s.heap.objs.size<=a)(new:cD X.prog X.w (upd H a o) h' a o):
  Inv X pins σ (upd H a o) {s with heap:=h',toks:=t'}:=I.un (Un.laid k hp (I.hok.fresh hp)) (I.hok.laid k hp new)
theorem Inv.write {x e:Addr}{o:HO}{t':Nat}(I:Inv X pins σ H s)(mu:VG (H x))(he:e=x\/H e=some (.own x))(k:∀b u,b≠e->s.heap.get? b=some u->h'.get? b=some u)(heo:∃u,h'.get? e=some u)
  (new:cD X.prog X.w (upd H x o) h' x o):Inv X pins σ (upd H x o) {s with heap:=h',toks:=t'}:=I.un (Un.write mu he k heo) (I.hok.write mu he k heo new)
theorem Inv.PL {aaE:List (Addr×Obj)}(I:Inv X pins σ H s)(h:∀p∈aaE,s.heap.get? p.1=some p.2/\H p.1=none/\p.1≠X.env.locals/\p.1∉X.fs/\∀v,p.2.data≠.cell v):Inv X aaE σ H s:=
 ⟨I.ok,I.os,I.bare,I.base,I.loc,I.cell,I.free,I.eU,λp hp=>(List.mem_append.mp hp).elim (λz=>I.pin p (List.mem_append_left _ z)) (h p),I.hok,I.len⟩
theorem Fj {N:List Str}(hN:N.Nodup){i j:Nat}{x:Str}(a:N[i]?=some x)(b:N[j]?=some x):i=j:=by
 obtain ⟨h1,e1⟩:=List.getElem?_eq_some_iff.mp a;obtain ⟨h2,e2⟩:=List.getElem?_eq_some_iff.mp b;exact (List.getElem_inj hN).mp (e1.trans e2.symm)
theorem VL {M:Model}{A:Around}{E:Value->Shared->Prop}{i:Nat}{x:Str}{v:V}{u:Value}{Q:Unit->Shared->Prop}(I:Inv X pins σ H s)(hN:X.N.Nodup)(hi:X.N[i]?=some x)(hx:Loc X.env.scope x)(r:RelV v u)
  (h:∀s',Inv X pins (σ.set i (some v)) H s'->(∃a,Heap.SameBut a s.heap s'.heap/\(a=X.env.locals\/X.env.cells.lookup x=some a))->Q () s') (hf:X.fn x=true\/X.env.scope.names.lookup x=some .local:=by first | exact .inl rfl | exact .inr rfl | assumption):wpAny M A (storeName X.env x u) Q E s:=by
 obtain ⟨m,hn,hl⟩:=id I.loc;have hcls:(X.env.scope.kind == .class || (X.env.scope.kind == .module && X.env.locals != X.env.globals))=false:=by rw[I.ok.kind];rfl
 have aaF:i < σ.length:=by rw[I.len];exact (List.getElem?_eq_some_iff.mp hi).1
 have z8:=I.z8;have tracked:∀{a:Addr} {h':Heap},(∃o,s.heap.get? a=some o/\H a=none)->Heap.SameBut a s.heap h'->d7 X.prog X.w H h':=λ{a h'} ha hs b ob e=>by
  obtain ⟨_,_,hfree⟩:=ha;refine (I.hok b ob e).stay (λc w' hc q=>(hs.2 c ?_).trans q) (λ_ q=>q) λ_ _ q=>q;rintro rfl;rcases hc with rfl | hc
  ·rw[hfree]at e;cases e
  ·rw[hfree]at hc;cases hc
 rcases hx with hk | hk
 ·refine wpAny_storeName_local hk hn (λh' hn' hs=>?_) hcls;obtain ⟨oL,_,_,hoL,_⟩:=id hn;refine h _ ⟨I.ok,I.os,I.bare,⟨λb o e n hb hx=>?_,λb o e n hb hx=>?_,I.base.free,λb o e hx=>?_,I.base.tups,I.base.iV,I.base.jM⟩,⟨_,hn',λj y v' e1 e2 e3=>?_⟩,λy c e=>?_,I.free,I.eU,λp hp=>?_,tracked ⟨oL,hoL,I.free⟩ hs,by simpa using I.len⟩ ⟨_,hs,.inl rfl⟩
  ·exact (hs.2 b (Nat.ne_of_lt (Nat.lt_of_lt_of_le (Heap.lt_size e) I.ok.above))).trans (I.base.keep b o e n hb hx)
  ·obtain ⟨sl,e1⟩:=I.base.slot b o e n hb hx;exact ⟨sl,(hs.2 b (Nat.ne_of_lt (Nat.lt_of_lt_of_le (Heap.lt_size e) I.ok.above))).trans e1⟩
  ·obtain ⟨o',e1⟩:=I.base.there b o e hx;exact ⟨o',(hs.2 b (Nat.ne_of_lt (Nat.lt_of_lt_of_le (Heap.lt_size e) I.ok.above))).trans e1⟩
  ·by_cases hj:j=i
   ·subst hj;rw[hi]at e1;cases e1;rw[List.getElem?_set_self aaF]at e2;cases e2;exact ⟨u,r,.inl ⟨hk,by simp⟩⟩
   ·rw[List.getElem?_set_ne (Ne.symm hj)]at e2;obtain ⟨u',r',q⟩:=hl j y v' e1 e2 e3;refine ⟨u',r',?_⟩;rcases q with ⟨k,e⟩ | ⟨k,c,e,z⟩
    ·refine .inl ⟨k,?_⟩;have:y≠x:=λe=>hj (Fj hN e1 (e ▸ hi));simp[this,e]
    ·exact .inr ⟨k,c,e,z.sameBut hs (z8 y c e)⟩
  ·obtain ⟨w',z⟩:=I.cell y c e;exact ⟨w',z.sameBut hs (z8 y c e)⟩
  ·obtain ⟨e,n,ne,nf,d⟩:=I.pin p hp;exact ⟨(hs.2 p.1 ne).trans e,n,ne,nf,d⟩
 ·have hfn:X.fn x=true:=by
   rcases hf with z | z
   ·exact z
   ·rw[z]at hk;cases hk
  obtain ⟨c,hc⟩:=I.ok.has x (.inl hk);obtain ⟨w',z⟩:=I.cell x c hc;refine wpAny_storeName_cell I.ok.kind hk hc z (λh' hc' hs=>?_);obtain ⟨oc,hoc,aly⟩:=id z;refine h {s with heap:=h'} ⟨I.ok,I.os,I.bare,⟨λb o e n hb hx=>?_,λb o e n hb hx=>?_,I.base.free,λb o e hx=>?_,I.base.tups,I.base.iV,I.base.jM⟩,⟨m,hn.sameBut hs (Ne.symm (z8 x c hc)),λj y v' e1 e2 e3=>?_⟩,λy c' e=>?_,I.free,I.eU,λp hp=>?_,tracked ⟨oc,hoc,I.eU x c hc⟩ hs,by simpa using I.len⟩ ⟨c,hs,.inr hc⟩
  ·exact (hs.2 b (Nat.ne_of_lt (Nat.lt_of_lt_of_le (Heap.lt_size e) (I.ok.cab x c hfn hc)))).trans (I.base.keep b o e n hb hx)
  ·obtain ⟨sl,e1⟩:=I.base.slot b o e n hb hx;exact ⟨sl,(hs.2 b (Nat.ne_of_lt (Nat.lt_of_lt_of_le (Heap.lt_size e) (I.ok.cab x c hfn hc)))).trans e1⟩
  ·obtain ⟨o',e1⟩:=I.base.there b o e hx;exact ⟨o',(hs.2 b (Nat.ne_of_lt (Nat.lt_of_lt_of_le (Heap.lt_size e) (I.ok.cab x c hfn hc)))).trans e1⟩
  ·by_cases hj:j=i
   ·subst hj;rw[hi]at e1;cases e1;rw[List.getElem?_set_self aaF]at e2;cases e2;exact ⟨u,r,.inr ⟨.inl hk,c,hc,hc'⟩⟩
   ·rw[List.getElem?_set_ne (Ne.symm hj)]at e2;obtain ⟨u',r',q⟩:=hl j y v' e1 e2 e3;refine ⟨u',r',?_⟩;rcases q with q | ⟨k,c',e,z'⟩
    ·exact .inl q
    ·refine .inr ⟨k,c',e,z'.sameBut hs ?_⟩;rintro rfl;exact hj (Fj hN e1 (I.ok.inj _ _ _ e hc ▸ hi))
  ·by_cases hcc:c'=c
   ·subst hcc;exact ⟨_,hc'⟩
   ·obtain ⟨w2,z2⟩:=I.cell y c' e;exact ⟨w2,z2.sameBut hs hcc⟩
  ·obtain ⟨e,n,ne,nf,d⟩:=I.pin p hp;refine ⟨(hs.2 p.1 ?_).trans e,n,ne,nf,d⟩;intro q;rw[q,hoc]at e;have q':oc=p.2:=Option.some.inj e;exact d w' (by rw[<-q'];exact aly)
theorem jN {M:Model}{A:Around}{E:Value->Shared->Prop}{i:Nat}{x:Str}{v:V}{u:Value}{Q:Unit->Shared->Prop}(I:Inv X pins σ H s)(hN:X.N.Nodup)(hi:X.N[i]?=some x)(hx:Loc X.env.scope x)(r:RelV v u)
  (h:∀s',Inv X pins (σ.set i (some v)) H s'->Q () s') (hf:X.fn x=true\/X.env.scope.names.lookup x=some .local:=by first | exact .inl rfl | exact .inr rfl | assumption):wpAny M A (storeName X.env x u) Q E s:=
 VL I hN hi hx r (λs' I' _=>h s' I') hf
theorem Inv.call' {s':Shared}{ch:List Addr}(I:Inv X pins σ H s)(ho:s'.os=s.os)(u:Un (frs X.stack) ch H H' s.heap s'.heap)(hok:d7 X.prog X.w H' s'.heap)(hg:AllBare s'.gens)
  (hch:∀b∈ch,(b∈X.ex\/X.s₀.heap.objs.size<=b)/\b≠X.env.locals/\(∀x c,X.env.cells.lookup x=some c->c≠b)/\∀p∈X.pn++pins,p.1≠b):Inv X pins σ H' s':=by
 obtain ⟨h',g',d',t',o'⟩:=s';have e:o'=s.os:=ho;subst e;exact I.call (g':=g') (t':=t') (d':=d') u hok hg hch
end
noncomputable abbrev XK:=Value->Option Addr->Hp->Prop
noncomputable abbrev St:=List (Option V)
noncomputable abbrev VK:=V->Hp->Prop
noncomputable abbrev TE:=St->Hp->VK->Prop
noncomputable abbrev TT:=St->Hp->(Bool->Hp->Prop)->Prop
noncomputable abbrev TA:=St->Hp->(List V->Hp->Prop)->Prop
structure Ends where
 nx:St->Hp->Prop
 rt:VK
 bk:St->Hp->Prop:=λ_ _=>False
 ct:St->Hp->Prop:=λ_ _=>False
noncomputable abbrev TS:=Ends->St->Hp->Prop
noncomputable def EP (X:Cx) (pins:List (Addr×Obj)) (σ:St) (Q:VK) (u:Value) (s':Shared):Prop:=∃v H',Inv X pins σ H' s'/\RelV v u/\Q v H'
noncomputable def TP (X:Cx) (pins:List (Addr×Obj)) (σ:St) (Q:Bool->Hp->Prop) (b:Bool) (s':Shared):Prop:=∃H',Inv X pins σ H' s'/\Q b H'
noncomputable def AP (X:Cx) (pins:List (Addr×Obj)) (σ:St) (Q:List V->Hp->Prop) (us:List Value) (s':Shared):Prop:=∃vs H',Inv X pins σ H' s'/\Vals vs us/\Q vs H'
noncomputable def SP (X:Cx) (pins:List (Addr×Obj)) (D:Ends) (f:Flow) (s':Shared):Prop:=
 match f with
 | .next=>∃σ' H',Inv X pins σ' H' s'/\D.nx σ' H'
 | .brk=>∃σ' H',Inv X pins σ' H' s'/\D.bk σ' H'
 | .cont=>∃σ' H',Inv X pins σ' H' s'/\D.ct σ' H'
 | .ret u=>∃v σ' H',Inv X pins σ' H' s'/\RelV v u/\D.rt v H'
noncomputable def PE (X:Cx) (e:Expr) (t:TE):Prop:=
 ∀(pins:List (Addr×Obj)) (s:Shared) (σ:St) (H:Hp) (Q:VK),Inv X pins σ H s->t σ H Q->wpAny (model X.prog X.w) X.A (eval e X.env) (EP X pins σ Q) X.xe s
noncomputable def PT (X:Cx) (e:Expr) (t:TT):Prop:=
 ∀(pins:List (Addr×Obj)) (s:Shared) (σ:St) (H:Hp) (Q:Bool->Hp->Prop),Inv X pins σ H s->t σ H Q->wpAny (model X.prog X.w) X.A (isTrue e X.env (eval e X.env)) (TP X pins σ Q) X.xe s
noncomputable def PW (X:Cx) (e:Expr) (t:TT):Prop:=
 ∀(whole:Sem Value) (pins:List (Addr×Obj)) (s:Shared) (σ:St) (H:Hp) (Q:Bool->Hp->Prop),Inv X pins σ H s->t σ H Q->wpAny (model X.prog X.w) X.A (isTrue e X.env whole) (TP X pins σ Q) X.xe s
theorem PW.pt {X:Cx}{e:Expr}{t:TT}(h:PW X e t):PT X e t:=h _
noncomputable def PA (X:Cx) (es:List Expr) (t:TA):Prop:=
 ∀(pos:Pos) (pins:List (Addr×Obj)) (s:Shared) (σ:St) (H:Hp) (Q:List V->Hp->Prop),Inv X pins σ H s->t σ H Q->wpAny (model X.prog X.w) X.A (spliced (backTo pos (starEach es X.env))) (AP X pins σ Q) X.xe s
noncomputable def PS (X:Cx) (st:Stmt) (t:TS):Prop:=
 ∀(pins:List (Addr×Obj)) (s:Shared) (σ:St) (H:Hp) (D:Ends),Inv X pins σ H s->t D σ H->wpAny (model X.prog X.w) X.A (exec st X.env) (SP X pins D) X.xe s
noncomputable def lX (X:Cx) (st:List Stmt) (t:TS):Prop:=
 ∀(pins:List (Addr×Obj)) (s:Shared) (σ:St) (H:Hp) (D:Ends),Inv X pins σ H s->t D σ H->wpAny (model X.prog X.w) X.A (execs st X.env) (SP X pins D) X.xe s
theorem bI {α:Type}{t:Sem α}{Q Q':α->Shared->Prop}{M:Model}{A:Around}{E:Value->Shared->Prop}{s:Shared}(h:wpAny M A t Q E s)(hQ:∀a s,Q a s->Q' a s):wpAny M A t Q' E s:=wpAny_mono h hQ λ_ _ x=>x
end L2
namespace L2
open PySem PySem.Spec PyProof.Rows
section
variable {X:Cx}
theorem bin {a b:Expr}{ta tb:TE}(ha:PE X a ta)(hb:PE X b tb){pins:List (Addr×Obj)}{s:Shared}{σ:St}{H:Hp}{R:V->V->Hp->Prop}(I:Inv X pins σ H s)(h:ta σ H λx H1=>tb σ H1 λy H2=>R x y H2)
  {α:Type} {Q:α->Shared->Prop} {f:Value->Value->Sem α}
  (hf:∀v u s2 x y H2,Inv X pins σ H2 s2->RelV x v->RelV y u->R x y H2->wpAny (model X.prog X.w) X.A (f v u) Q X.xe s2):
  wpAny (model X.prog X.w) X.A (eval a X.env) (λv s₁=>wpAny (model X.prog X.w) X.A (eval b X.env) (λu s₂=>wpAny (model X.prog X.w) X.A (f v u) Q X.xe s₂) X.xe s₁) X.xe s:=by
 refine bI (ha pins s σ H _ I h) λv s1 ⟨x,H1,I1,r1,q1⟩=>?_;refine bI (hb pins s1 σ H1 _ I1 q1) λu s2 ⟨y,H2,I2,r2,q2⟩=>?_;exact hf v u s2 x y H2 I2 r1 r2 q2
noncomputable def alz (i:Nat):TE:=λσ H Q=>∃v,σ[i]?=some (some v)/\Q v H
noncomputable def tC (v:V):TE:=λ_ H Q=>Q v H
theorem Lp {i:Nat}{x:Str}{pos:Pos}(hN:X.N[i]?=some x)(hv:Gj X.env.scope x)(hd:(x == ("__debug__":Str))=false:=by decide)(hcd:(x == ("__classdict__":Str))=false:=by decide):PE X (.Name x pos) (alz i):=by
 intro pins s σ H Q I h;obtain ⟨v,e,h⟩:=h;obtain ⟨m,hn,hl⟩:=I.loc;obtain ⟨u,r,l⟩:=hl i x v hN e hv;have fin:EP X pins σ Q u s:=⟨v,H,I,r,h⟩
 rcases l with ⟨hk,hm⟩ | ⟨hk,c,hc,hcell⟩
 ·exact wpAny_Name (wpAny_loadName_local I.ok.kind hk hn hm fin) hd
 ·rcases hk with hk | hk
  ·exact wpAny_Name (wpAny_loadName_cell I.ok.kind hk hc hcell fin) hd
  ·exact wpAny_Name (wpAny_loadName_free I.ok.kind hk hc hcell fin hcd) hd
theorem adV {i j pos}:PE X (.Constant (.int i) j pos) (tC (.int i)):=λ_ _ _ H _ I h=>wpAny_Constant_int ⟨.int i,H,I.tok _,⟨_,rfl⟩,h⟩
theorem ah2 {b j pos}:PE X (.Constant (.bool b) j pos) (tC (.bl b)):=λ_ _ _ H _ I h=>Constant_bool ⟨.bl b,H,I,rfl,h⟩
theorem Lq {j pos}:PE X (.Constant .none j pos) (tC .non):=λ_ _ _ H _ I h=>Constant_none ⟨.non,H,I,rfl,h⟩
theorem adW {x j pos}:PE X (.Constant (.str x) j pos) (tC (.str x)):=λ_ _ _ H _ I h=>Calls.Constant_str ⟨.str x,H,I.tok _,⟨_,rfl⟩,h⟩
noncomputable def Gl (X:Cx) (x:Str):Prop:=X.env.kindOf x=some .globalImplicit
theorem iy {E:Value->Shared->Prop}{pins:List (Addr×Obj)}{s:Shared}{σ:St}{H:Hp}{x:Str}{u:Value}{pos:Pos}{Q:Value->Shared->Prop}(I:Inv X pins σ H s)(hg:Gl X x)(hm:X.mg x=some u)(h:Q u s)
  (hd:(x == ("__debug__":Str))=false:=by decide):wpAny (model X.prog X.w) X.A (eval (.Name x pos) X.env) Q E s:=
 Calls.Name_function_global I.ok.kind hg (Calls.loadGlobal_global (by rw[I.ok.glob];exact I.mod.glob.keeps I.bk) hm h) hd
theorem uJ {E:Value->Shared->Prop}{pins:List (Addr×Obj)}{s:Shared}{σ:St}{H:Hp}{x:Str}{u:Value}{pos:Pos}{Q:Value->Shared->Prop}(I:Inv X pins σ H s)(hg:Gl X x)(hm:X.mg x=none)(hv:bootBuiltins x=some u)(h:Q u s)
  (hn:x≠"__name__":=by decide) (hd:(x == ("__debug__":Str))=false:=by decide):wpAny (model X.prog X.w) X.A (eval (.Name x pos) X.env) Q E s:=by
 obtain ⟨mb,h1,h2⟩:=I.mod.blt;exact Calls.Name_function_global I.ok.kind hg (Calls.loadGlobal_builtin (by rw[I.ok.glob];exact I.mod.glob.keeps I.bk) hm (by rw[I.ok.blt];exact h1.keeps I.bk) ((h2 x hn).trans hv) h) hd
theorem Dt {x:Str}{v:V}{u:Value}{pos:Pos}(hg:Gl X x)(hm:X.mg x=some u)(r:RelV v u)(hd:(x == ("__debug__":Str))=false:=by decide):PE X (.Name x pos) (tC v):=
 λ_ _ _ H _ I h=>iy I hg hm ⟨v,H,I,r,h⟩ hd
theorem PN {x:Str}{v:V}{u:Value}{pos:Pos}(hg:Gl X x)(hm:X.mg x=none)(hv:bootBuiltins x=some u)(r:RelV v u)(hn:x≠"__name__":=by decide)(hd:(x == ("__debug__":Str))=false:=by decide):PE X (.Name x pos) (tC v):=
 λ_ _ _ H _ I h=>uJ I hg hm hv ⟨v,H,I,r,h⟩ hn hd
variable {a b:Expr}{ta tb:TE}{pos:Pos}
variable {tA tB':TT}{rest:List Expr}
noncomputable def alA (t u:TT):TT:=λσ H Q=>t σ H λc H1=>if c=true then u σ H1 Q else Q false H1
noncomputable def tOr (t u:TT):TT:=λσ H Q=>t σ H λc H1=>if c=true then Q true H1 else u σ H1 Q
noncomputable def alB (t:TT):TT:=λσ H Q=>t σ H λc H1=>Q (!c) H1
theorem pw_and1 (ha:PT X a tA):PW X (.BoolOp .And [a] pos) tA:=by
 intro wh pins s σ H Q I h;refine isTrue_and (bI (ha pins s σ H Q I h) λc s1 e=>?_);cases c with
 | true=>exact isTrue_and_nil e
 | false=>exact e
theorem pw_or1 (ha:PT X a tA):PW X (.BoolOp .Or [a] pos) tA:=by
 intro wh pins s σ H Q I h;refine isTrue_or (bI (ha pins s σ H Q I h) λc s1 e=>?_);cases c with
 | false=>exact isTrue_or_nil e
 | true=>exact e
theorem pw_and (ha:PT X a tA)(hb:PW X (.BoolOp .And (b::rest) pos) tB'):PW X (.BoolOp .And (a::b::rest) pos) (alA tA tB'):=by
 intro wh pins s σ H Q I h;refine isTrue_and (bI (ha pins s σ H _ I h) λc s1 ⟨H1,I1,q1⟩=>?_);cases c with
 | true=>exact hb wh pins s1 σ H1 Q I1 q1
 | false=>exact ⟨H1,I1,q1⟩
theorem pw_or (ha:PT X a tA)(hb:PW X (.BoolOp .Or (b::rest) pos) tB'):PW X (.BoolOp .Or (a::b::rest) pos) (tOr tA tB'):=by
 intro wh pins s σ H Q I h;refine isTrue_or (bI (ha pins s σ H _ I h) λc s1 ⟨H1,I1,q1⟩=>?_);cases c with
 | true=>exact ⟨H1,I1,q1⟩
 | false=>exact hb wh pins s1 σ H1 Q I1 q1
theorem adX (ha:PT X a tA):PT X (.UnaryOp .Not a pos) (alB tA):=by
 intro pins s σ H Q I h;exact isTrue_not (ha pins s σ H (λc H1=>Q (!c) H1) I h)
noncomputable def ah3 (ta tb:TE):TE:=λσ H Q=>ta σ H λx H1=>∃c,x=.bl c/\if c=true then tb σ H1 Q else Q (.bl false) H1
noncomputable def ah4 (ta:TE):TE:=λσ H Q=>ta σ H λx H1=>∃c,x=.bl c/\Q (.bl (!c)) H1
theorem adY {op}{t:TE}(h:PE X a t):PE X (.BoolOp op [a] pos) t:=λpins s σ H Q I hw=>BoolOp_one (h pins s σ H Q I hw)
theorem adZ (ha:PE X a ta)(hb:PE X (.BoolOp .And (b::rest) pos) tb):PE X (.BoolOp .And (a::b::rest) pos) (ah3 ta tb):=by
 intro pins s σ H Q I h;refine BoolOp_and (bI (ha pins s σ H _ I h) λv s1 ⟨x,H1,I1,r1,q1⟩=>?_);obtain ⟨c,rfl,q1⟩:=q1;cases r1;refine wpAny_truthy_bool ?_;cases c with
 | true=>exact hb pins s1 σ H1 Q I1 q1
 | false=>exact ⟨.bl false,H1,I1,rfl,q1⟩
theorem ad0 (ha:PE X a ta):PE X (.UnaryOp .Not a pos) (ah4 ta):=by
 intro pins s σ H Q I h;refine UnaryOp_ (bI (ha pins s σ H _ I h) λv s1 ⟨x,H1,I1,r1,q1⟩=>?_);obtain ⟨c,rfl,q1⟩:=q1;cases r1;exact not_of (wpAny_truthy_bool ⟨.bl (!c),H1,I1,rfl,q1⟩)
noncomputable def tIf (t:TT) (ta tb:TE):TE:=λσ H Q=>t σ H λc H1=>if c=true then ta σ H1 Q else tb σ H1 Q
theorem Ym {c:Expr}(hc:PT X c tA)(ha:PE X a ta)(hb:PE X b tb):PE X (.IfExp c a b pos) (tIf tA ta tb):=by
 intro pins s σ H Q I h;refine wpAny_IfExp (bI (hc pins s σ H _ I h) λd s1 ⟨H1,I1,q1⟩=>?_);cases d with
 | true=>exact ha pins s1 σ H1 Q I1 q1
 | false=>exact hb pins s1 σ H1 Q I1 q1
end
end L2
namespace L2
open PySem PySem.Spec PyProof.Rows
noncomputable def g_ (K:PySem.W.Frag) (H:Hp) (a:Addr) (xs:List V):Prop:=
 Rd H a (.lst xs)\/
  ∃(o:Obj) (its:Array Value) (n:Nat),K.lookup a=some o/\o.cls=.type "list"/\o.dict=none/\o.data=.seq its n/\its.size<=sizeLine/\Vals xs its.toList
noncomputable def fQ (K:PySem.W.Frag) (H:Hp) (a:Addr) (xs:List V):Prop:=
 Rd H a (.tup xs)\/
  ∃(o:Obj) (its:Array Value) (n:Nat),K.lookup a=some o/\o.cls=.type "tuple"/\o.dict=none/\o.data=.seq its n/\its.size<=sizeLine/\Vals xs its.toList
noncomputable def alC:Value->Option V
 | .none=>some .non
 | .bool b=>some (.bl b)
 | .int i _=>some (.int i)
 | .str x _=>some (.str x)
 | .bytes b _=>some (.Ju b)
 | .float b _=>some (.flt b)
 | .ref a=>some (.ref a)
 | .type n=>some (.ty n)
 | _=>none
theorem RelV.abs {x:V}{u:Value}(r:RelV x u):alC u=some x:=by
 cases x with
 | non=>cases r;rfl
 | bl _=>cases r;rfl
 | int _=>obtain ⟨t,rfl⟩:=r;rfl
 | str _=>obtain ⟨t,rfl⟩:=r;rfl
 | Ju _=>obtain ⟨t,rfl⟩:=r;rfl
 | flt _=>obtain ⟨t,rfl⟩:=r;rfl
 | ref _=>cases r;rfl
 | ty _=>cases r;rfl
theorem RelV.inj {x y:V}{u:Value}(r:RelV x u)(q:RelV y u):x=y:=Option.some.inj (r.abs.symm.trans q.abs)
theorem Vals.inj:∀{xs ys:List V} {us:List Value},Vals xs us->Vals ys us->xs=ys
 | _,_,_,.nil,.nil=>rfl
 | _,_,_,.cons r t,.cons r' t'=>by rw[r.inj r',Vals.inj t t']
section
variable {X:Cx}{pins:List (Addr×Obj)}{σ:St}{H:Hp}{s:Shared}{a:Addr}{xs ys:List V}
theorem g_.of {K:PySem.W.Frag}(h:H a=some (.lst xs)):g_ K H a xs:=.inl (.inl h)
theorem fQ.of {K:PySem.W.Frag}(h:H a=some (.tup xs)):fQ K H a xs:=.inl (.inl h)
theorem Inv.list (I:Inv X pins σ H s)(h:g_ X.K H a xs):∃its:List Value,Vals xs its/\PlainL s.heap a its.toArray/\xs.length<=sizeLine:=by
 rcases h with h | ⟨o,its,n,hk,hc,hd,hs,hz,r⟩
 ·obtain ⟨z,its,n,r,e⟩:=h.ok I.hok;exact ⟨its,r,⟨_,n,e,rfl,rfl,rfl⟩,z⟩
 ·refine ⟨its.toList,r,⟨o,n,I.cZ a o hk,hc,hd,by simpa using hs⟩,?_⟩;have e:=r.length;simp only[Array.length_toList]at e;omega
theorem Inv.tuple (I:Inv X pins σ H s)(h:fQ X.K H a xs):∃its:List Value,Vals xs its/\IsTup s.heap a its.toArray/\xs.length<=sizeLine:=by
 rcases h with h | ⟨o,its,n,hk,hc,_,hs,hz,r⟩
 ·obtain ⟨z,its,r,p⟩:=h.ok I.hok;exact ⟨its,r,p.1,z⟩
 ·refine ⟨its.toList,r,⟨o,I.cZ a o hk,hc,n,by simpa using hs⟩,?_⟩;have e:=r.length;simp only[Array.length_toList]at e;omega
theorem Inv.Fl (I:Inv X pins σ H s)(h:g_ X.K H a xs)(h':g_ X.K H a ys):xs=ys:=by
 obtain ⟨its,r,⟨o,n,e,_,_,d⟩,_⟩:=I.list h;obtain ⟨its',r',⟨o',n',e',_,_,d'⟩,_⟩:=I.list h';rw[e]at e';cases e';rw[d]at d';injection d' with d1 _
 have:its=its':=by simpa using congrArg Array.toList d1
 subst this;exact r.inj r'
theorem Inv.z_ (I:Inv X pins σ H s)(h:fQ X.K H a xs)(h':fQ X.K H a ys):xs=ys:=by
 obtain ⟨its,r,⟨o,e,_,n,d⟩,_⟩:=I.tuple h;obtain ⟨its',r',⟨o',e',_,n',d'⟩,_⟩:=I.tuple h';rw[e]at e';cases e';rw[d]at d';injection d' with d1 _
 have:its=its':=by simpa using congrArg Array.toList d1
 subst this;exact r.inj r'
end
noncomputable abbrev Cx.wish (X:Cx) (E:Value->Shared->Prop):Cx:={X with xe:=E}
noncomputable abbrev Cx.qJ (X:Cx):Cx:=X.wish λ_ _=>False
theorem Cx.Ok.wish {X:Cx}(ok:X.Ok)(E:Value->Shared->Prop):(X.wish E).Ok:=
 ⟨ok.mod,ok.kind,ok.glob,ok.blt,ok.above,ok.inj,ok.has,ok.cab,ok.hd,ok.frames,ok.stk,ok.exf,ok.bs,ok.Eo,ok.nU,ok.Ln,ok.lZ,ok.Jv⟩
theorem Cx.Ok.fU {X:Cx}{E:Value->Shared->Prop}(ok:(X.wish E).Ok):X.Ok:=
 ⟨ok.mod,ok.kind,ok.glob,ok.blt,ok.above,ok.inj,ok.has,ok.cab,ok.hd,ok.frames,ok.stk,ok.exf,ok.bs,ok.Eo,ok.nU,ok.Ln,ok.lZ,ok.Jv⟩
section
variable {X:Cx}{pins:List (Addr×Obj)}{σ:St}{H:Hp}{s:Shared}{E:Value->Shared->Prop}
theorem Inv.wish (I:Inv X pins σ H s)(E:Value->Shared->Prop):Inv (X.wish E) pins σ H s:=⟨I.ok.wish E,I.os,I.bare,I.base,I.loc,I.cell,I.free,I.eU,I.pin,I.hok,I.len⟩
theorem Inv.fU (I:Inv (X.wish E) pins σ H s):Inv X pins σ H s:=⟨I.ok.fU,I.os,I.bare,I.base,I.loc,I.cell,I.free,I.eU,I.pin,I.hok,I.len⟩
theorem SP.fU {D:Ends}{f:Flow}{s':Shared}(h:SP (X.wish E) pins D f s'):SP X pins D f s':=by
 cases f with
 | next=>obtain ⟨σ',H',I,q⟩:=h;exact ⟨σ',H',I.fU,q⟩
 | brk=>obtain ⟨σ',H',I,q⟩:=h;exact ⟨σ',H',I.fU,q⟩
 | cont=>obtain ⟨σ',H',I,q⟩:=h;exact ⟨σ',H',I.fU,q⟩
 | ret u=>obtain ⟨v,σ',H',I,r,q⟩:=h;exact ⟨v,σ',H',I.fU,r,q⟩
theorem lX.qJ {st:List Stmt}{t:TS}(h:lX X.qJ st t):lX X st t:=λpins s σ H D I hw=>
 wpAny_mono (h pins s σ H D (I.wish _) hw) (λ_ _ q=>q.fU) λ_ _ z=>False.elim z
end
section
variable {X:Cx}{st:Stmt}{rest:List Stmt}{t u:TS}{e:Expr}{te:TE}{pos:Pos}
noncomputable def ah5:TS:=λD σ H=>D.nx σ H
noncomputable def alD (t u:TS):TS:=λD σ H=>t {D with nx:=u D} σ H
theorem abM:lX X [] ah5:=λ_ _ σ H _ I h=>wpAny_execs_nil ⟨σ,H,I,h⟩
theorem Yn (h1:PS X st t)(h2:lX X rest u):lX X (st::rest) (alD t u):=by
 intro pins s σ H D I h;refine wpAny_execs_cons (bI (h1 pins s σ H {D with nx:=u D} I h) λf s1 q=>?_);cases f with
 | next=>
  obtain ⟨σ',H',I',q⟩:=q;exact h2 pins s1 σ' H' D I' q
 | ret v=>exact q
 | brk=>exact q
 | cont=>exact q
theorem abN (h1:PS X st t):lX X [st] t:=by
 intro pins s σ H D I h;refine wpAny_execs_cons (bI (h1 pins s σ H D I h) λf s1 q=>?_);cases f with
 | next=>exact wpAny_execs_nil q
 | ret v=>exact q
 | brk=>exact q
 | cont=>exact q
theorem Inv.quiet {pins:List (Addr×Obj)}{σ:St}{H:Hp}{s:Shared}(I:Inv X pins σ H s):interactive X.env=false:=by simp[interactive,I.ok.kind]
noncomputable def ah6 (te:TE):TS:=λD σ H=>te σ H λ_ H1=>D.nx σ H1
theorem abO (he:PE X e te)(hs:swapsWith e none pos.line X.env=pure false:=by rfl):PS X (.Expr e pos) (ah6 te):=by
 intro pins s σ H D I h;exact wpAny_Expr_any (bI (he pins s σ H _ I h) λv s1 ⟨x,H1,I1,r1,q1⟩=>⟨σ,H1,I1,q1⟩) I.quiet hs
noncomputable def alE (te:TE):TS:=λD σ H=>te σ H D.rt
theorem ad1 (he:PE X e te):PS X (.Return (some e) pos) (alE te):=by
 intro pins s σ H D I h;exact wpAny_Return_some (bI (he pins s σ H _ I h) λv s1 ⟨x,H1,I1,r1,q1⟩=>⟨x,σ,H1,I1,r1,q1⟩)
noncomputable def alF (c:TT) (t u:TS):TS:=λD σ H=>c σ H λb H1=>if b=true then t D σ H1 else u D σ H1
theorem ah7 {c:Expr}{a b:List Stmt}{tc:TT}(hc:PT X c tc)(ha:lX X a t)(hb:lX X b u):PS X (.If c a b pos) (alF tc t u):=by
 intro pins s σ H D I h;refine wpAny_If (bI (hc pins s σ H _ I h) λd s1 ⟨H1,I1,q1⟩=>?_);cases d with
 | true=>exact ha pins s1 σ H1 D I1 q1
 | false=>exact hb pins s1 σ H1 D I1 q1
end
noncomputable abbrev TG:=V->St->Hp->(St->Hp->Prop)->Prop
noncomputable abbrev Lr:=List V->St->Hp->(St->Hp->Prop)->Prop
noncomputable def PG (X:Cx) (target:Expr) (t:TG):Prop:=
 ∀(pins:List (Addr×Obj)) (s:Shared) (σ:St) (H:Hp) (v:V) (u:Value) (Q:St->Hp->Prop),Inv X pins σ H s->RelV v u->t v σ H Q->
  wpAny (model X.prog X.w) X.A (assign target X.env u) (λ_ s'=>∃σ' H',Inv X pins σ' H' s'/\Q σ' H') X.xe s
noncomputable def PGs (X:Cx) (ts:List Expr) (t:Lr):Prop:=
 ∀(pins:List (Addr×Obj)) (s:Shared) (σ:St) (H:Hp) (vs:List V) (us:List Value) (Q:St->Hp->Prop),Inv X pins σ H s->Vals vs us->t vs σ H Q->
  wpAny (model X.prog X.w) X.A (assignInOrder ((assignEach ts X.env).map (·.2)) us) (λ_ s'=>∃σ' H',Inv X pins σ' H' s'/\Q σ' H') X.xe s
noncomputable abbrev Ru:=V->V->V->Hp->(Hp->Prop)->Prop
noncomputable def v8 (X:Cx) (t:Ru):Prop:=
 ∀(pins:List (Addr×Obj)) (s:Shared) (σ:St) (H:Hp) (o i v:V) (ov iv u:Value) (Q:Hp->Prop),Inv X pins σ H s->RelV o ov->RelV i iv->RelV v u->t o i v H Q->
  wpAny (model X.prog X.w) X.A (setItem ov iv u) (λ_ s'=>∃H',Inv X pins σ H' s'/\Q H') X.xe s
noncomputable abbrev TIp:=V->V->Hp->VK->Prop
noncomputable def PIp (X:Cx) (op:Operator) (t:TIp):Prop:=
 ∀(pins:List (Addr×Obj)) (s:Shared) (σ:St) (H:Hp) (x y:V) (v u:Value) (Q:VK),Inv X pins σ H s->RelV x v->RelV y u->t x y H Q->
  wpAny (model X.prog X.w) X.A (inplaceOp op v u) (EP X pins σ Q) X.xe s
section
variable {X:Cx}{pos:Pos}
noncomputable def aaJ (i:Nat):TG:=λv σ H Q=>Q (σ.set i (some v)) H
theorem uK {i:Nat}{x:Str}(hN:X.N.Nodup)(hi:X.N[i]?=some x)(hx:Loc X.env.scope x)(hf:X.fn x=true\/X.env.scope.names.lookup x=some .local:=by first | exact .inl rfl | exact .inr rfl | assumption):PG X (.Name x pos) (aaJ i):=by
 intro pins s σ H v u Q I r h;exact wpAny_assign_Name (jN I hN hi hx r (λs' I'=>⟨_,H,I',h⟩) hf)
noncomputable def alG:Lr:=λvs σ H Q=>vs=[]/\Q σ H
noncomputable def ah8 (t:TG) (u:Lr):Lr:=λvs σ H Q=>∃v r,vs=v::r/\t v σ H λσ' H'=>u r σ' H' Q
theorem abP:PGs X [] alG:=by
 intro pins s σ H vs us Q I r h;obtain ⟨e,h⟩:=h;subst e;cases r;exact assignInOrder_nil ⟨σ,H,I,h⟩
theorem Fo {e:Expr}{es:List Expr}{t:TG}{u:Lr}(h1:PG X e t)(h2:PGs X es u)
  (hs:(assignEach (e::es) X.env).map (·.2)=assign e X.env::(assignEach es X.env).map (·.2):=by rfl):PGs X (e::es) (ah8 t u):=by
 intro pins s σ H vs us Q I r h;obtain ⟨v,vr,e1,h⟩:=h;subst e1;cases r with
 | cons r rr=>
  rw[hs];refine assignInOrder_cons (bI (h1 pins s σ H _ _ _ I r h) λ_ s1 ⟨σ1,H1,I1,q1⟩=>?_);exact h2 pins s1 σ1 H1 _ _ Q I1 rr q1
noncomputable def alH (K:PySem.W.Frag) (n:Nat) (t:Lr):TG:=λv σ H Q=>∃a xs,v=.ref a/\fQ K H a xs/\xs.length=n/\t xs σ H Q
theorem ad2 {es:List Expr}{k:Nat}{t:Lr}{n:Nat}(hc:X.calm=true)(h:PGs X es t)
  (hn:(assignEach es X.env).length=n:=by rfl) (hst:(assignEach es X.env).findIdx? (·.1)=none:=by rfl):PG X (.Tuple es k pos) (alH X.K n t):=by
 intro pins s σ H v u Q I r hw;obtain ⟨a,xs,e1,hq,hl,hw⟩:=hw;subst e1;cases r;obtain ⟨its,rv,ht,hz⟩:=I.tuple hq;refine assign_Tuple_tuple (I.ok.hd hc) ht (by simp[hn,<-hl,rv.length]) hst λh' hx=>?_;have I1:Inv X pins σ H {s with heap:=h'}:=I.kept (t':=s.toks) λb o e=>hx b o (Nat.ne_of_lt (Heap.lt_size e)) e;exact h pins _ σ H xs _ Q I1 (by simpa using rv) hw
noncomputable def alJ (to ti:TE) (t:Ru):TG:=λv σ H Q=>to σ H λo H1=>ti σ H1 λi H2=>t o i v H2 λH3=>Q σ H3
theorem ad3 {o i:Expr}{to ti:TE}{t:Ru}(ho:PE X o to)(hi:PE X i ti)(hs:v8 X t)
  (ha:∀v,assign (.Subscript o i pos) X.env v=(do
   let ov <-holding [v] (eval o X.env)
   let iv <-holding [v,ov] (eval i X.env)
   standAt pos
   holding [v,ov,iv] (setItem ov iv v)
   release [v,ov,iv] []):=by intro _;rfl):PG X (.Subscript o i pos) (alJ to ti t):=by
 intro pins s σ H v u Q I r h;rw[ha];refine wpAny_bind (wpAny_holding (bI (ho pins s σ H _ I h) λov s1 ⟨x,H1,I1,r1,q1⟩=>?_));refine wpAny_bind (wpAny_holding (bI (hi pins s1 σ H1 _ I1 q1) λiv s2 ⟨y,H2,I2,r2,q2⟩=>?_));refine wpAny_bind (wpAny_standAt (wpAny_bind (wpAny_holding (bI (hs pins s2 σ H2 x y v ov iv u _ I2 r1 r2 r q2) λ_ s3 ⟨H3,I3,q3⟩=>?_))));exact wpAny_release ⟨σ,H3,I3,q3⟩
noncomputable def ad4 (te:TE) (g:TG):TS:=λD σ H=>te σ H λx H1=>g x σ H1 D.nx
theorem VN {tg e:Expr}{te:TE}{g:TG}(he:PE X e te)(hg:PG X tg g)(hs:swapsWithSole [tg] e pos.line X.env=pure false:=by rfl)(hw:swappedStores [tg] e X.env=pure none:=by rfl)
  (h1:(assignEach [tg] X.env).map (·.2)=[assign tg X.env]:=by rfl):PS X (.Assign [tg] e pos) (ad4 te g):=by
 intro pins s σ H D I h;refine wpAny_Assign_stores (bI (he pins s σ H _ I h) λv s1 ⟨x,H1,I1,r1,q1⟩=>?_) hs hw;rw[h1];exact bI (hg pins s1 σ H1 x v _ I1 r1 q1) λ_ s2 q=>q
theorem ad5 {i:Nat}{x:Str}{e:Expr}{te:TE}{pos':Pos}(hN:X.N.Nodup)(hi:X.N[i]?=some x)(hx:Loc X.env.scope x)(he:PE X e te)(hs:swapsWith e (some (.Name x pos')) pos.line X.env=pure false:=by rfl)(hf:X.fn x=true\/X.env.scope.names.lookup x=some .local:=by first | exact .inl rfl | exact .inr rfl | assumption):
  PS X (.Assign [.Name x pos'] e pos) (ad4 te (aaJ i)):=by
 intro pins s σ H D I h;refine wpAny_Assign_Name (bI (he pins s σ H _ I h) λv s1 ⟨y,H1,I1,r1,q1⟩=>?_) hs;exact jN I1 hN hi hx r1 (λs2 I2=>⟨_,H1,I2,q1⟩) hf
noncomputable def alK (i:Nat) (te:TE) (ti:TIp):TS:=λD σ H=>∃x,σ[i]?=some (some x)/\te σ H λy H1=>ti x y H1 λz H2=>D.nx (σ.set i (some z)) H2
theorem ad6 {i:Nat}{x:Str}{e:Expr}{te:TE}{op:Operator}{ti:TIp}{pos':Pos}(hN:X.N.Nodup)(hi:X.N[i]?=some x)(hx:Loc X.env.scope x)(he:PE X e te)(ho:PIp X op ti)(hf:X.fn x=true\/X.env.scope.names.lookup x=some .local:=by first | exact .inl rfl | exact .inr rfl | assumption):
  PS X (.AugAssign (.Name x pos') op e pos) (alK i te ti):=by
 intro pins s σ H D I h;obtain ⟨v,e1,h⟩:=h;obtain ⟨m,hn,hl⟩:=I.loc;have vis:Gj X.env.scope x:=by rcases hx with k | k;exact .inl k;exact .inr (.inl k)
 obtain ⟨u,r,l⟩:=hl i x v hi e1 vis;refine wpAny_AugAssign_Name ?_;have go:wpAny (model X.prog X.w) X.A (eval e X.env) (λw s₂=>wpAny (model X.prog X.w) X.A (inplaceOp op u w) (λr s₃=>wpAny (model X.prog X.w) X.A (storeName X.env x r) (λ_=>SP X pins D .next) X.xe s₃) X.xe s₂) X.xe s:=by
  refine bI (he pins s σ H _ I h) λw s1 ⟨y,H1,I1,r1,q1⟩=>?_;refine bI (ho pins s1 σ H1 v y u w _ I1 r r1 q1) λz s2 ⟨zv,H2,I2,r2,q2⟩=>?_;exact jN I2 hN hi hx r2 (λs3 I3=>⟨_,H2,I3,q2⟩) hf
 rcases l with ⟨hk,hm⟩ | ⟨hk,c,hc,hcell⟩
 ·exact wpAny_loadName_local I.ok.kind hk hn hm go
 ·rcases hk with hk | hk
  ·exact wpAny_loadName_cell I.ok.kind hk hc hcell go
  ·rcases hx with k | k
   ·have:X.env.scope.names.lookup x=some .free:=hk;rw[k]at this;cases this
   ·have:X.env.scope.names.lookup x=some .free:=hk;rw[k]at this;cases this
noncomputable def ipI (f:Int->Int->Int):TIp:=λx y H Q=>∃i j,x=.int i/\y=.int j/\Q (.int (f i j)) H
theorem ad7:PIp X .Add (ipI λi j=>i+j):=by
 intro pins s σ H x y v u Q I r1 r2 h;obtain ⟨i,j,e1,e2,q⟩:=h;subst e1;subst e2;obtain ⟨t,rfl⟩:=r1;obtain ⟨t',rfl⟩:=r2;exact iadd_int ⟨.int _,H,I.tok _,⟨_,rfl⟩,q⟩
end
section
variable {X:Cx}{pos:Pos}
noncomputable def ad8 (c:TT) (tb:TS):TS:=λD σ H=>∃W:Nat->St->Hp->Prop,(∃m,W m σ H)/\∀m σ H,W m σ H->
 c σ H λb H1=>if b=true then ∃N:St->Hp->Prop,(∀σ' H',N σ' H'->∃m',m' < m/\W m' σ' H')/\tb {D with nx:=N,ct:=N,bk:=D.nx} σ H1 else D.nx σ H1
theorem Yo {c:Expr}{body:List Stmt}{tc:TT}{tb:TS}(hp:PassesOwn (model X.prog X.w) X.A X.env X.xe)(hc:PT X c tc)(hb:lX X body tb):PS X (.While c body [] pos) (ad8 tc tb):=by
 intro pins s σ H D I h;obtain ⟨W,⟨m0,w0⟩,turn⟩:=h;refine wpAny_While (codeAny_whileLoop (λn s'=>∃σ' H',Inv X pins σ' H' s'/\W n σ' H') ?_ m0 ⟨σ,H,I,w0⟩);rintro n s1 ⟨σ1,H1,I1,w1⟩;refine wpAny_passesOwn hp (bI (hc pins s1 σ1 H1 _ I1 (turn n σ1 H1 w1)) λb s2 ⟨H2,I2,q2⟩=>?_);cases b with
 | true=>
  obtain ⟨N,hN,q2⟩:=q2;rw[if_pos rfl];refine wpAny_passesOwn hp (bI (hb pins s2 σ1 H2 _ I2 q2) λf s3 q3=>?_);cases f with
  | next=>
   obtain ⟨σ3,H3,I3,n3⟩:=q3;obtain ⟨m',hm,w3⟩:=hN σ3 H3 n3;exact ⟨m',hm,σ3,H3,I3,w3⟩
  | cont=>
   obtain ⟨σ3,H3,I3,n3⟩:=q3;obtain ⟨m',hm,w3⟩:=hN σ3 H3 n3;exact ⟨m',hm,σ3,H3,I3,w3⟩
  | brk=>exact q3
  | ret v=>exact q3
 | false=>
  rw[if_neg Bool.false_ne_true];exact wpAny_execs_nil ⟨σ1,H2,I2,q2⟩
end
structure It where
 go:Nat->Hp->Prop
 VP:Nat->Hp->V->Hp->Prop
 stop:Nat->Hp->Prop
noncomputable def mj (X:Cx) (pins:List (Addr×Obj)) (H:Hp) (b:Addr):Prop:=
 H b=none/\b≠X.env.locals/\b∉X.fs/\(b∈X.ex\/X.s₀.heap.objs.size<=b)/\(∀x c,X.env.cells.lookup x=some c->c≠b)/\∀p∈X.pn++pins,p.1≠b
theorem Inv.Fp {X:Cx}{pins:List (Addr×Obj)}{σ:St}{H H':Hp}{s:Shared}{b:Addr}(I:Inv X pins σ H s)(hb:s.heap.objs.size<=b)(hn:H' b=none):mj X pins H' b:=by
 refine ⟨hn,Nat.ne_of_gt (Nat.lt_of_lt_of_le I.lt hb),I.alx hb,.inr (Nat.le_trans I.sz hb),λx c e z=>?_,λp hp z=>?_⟩
 ·obtain ⟨v,q⟩:=I.cell x c e;exact absurd (Nat.lt_of_lt_of_le q.lt (by rw[z];exact hb)) (Nat.lt_irrefl _)
 ·exact absurd (Nat.lt_of_lt_of_le (Heap.lt_size (I.pin p hp).1) (by rw[z];exact hb)) (Nat.lt_irrefl _)
structure Turn (P:Program)(w:World)(K:PySem.W.Frag)(tg:Expr)(J:It)(fp:List Addr)(it:Addr)(tn:Nat->Heap->Prop):Prop where
 mem:it∈fp
 obj:∀i h,tn i h->∀b∈fp,∃o,h.get? b=some o/\∀v,o.data≠.cell v
 keep:∀i h h',tn i h->(∀b∈fp,∀o,h.get? b=some o->h'.get? b=some o)->tn i h'
 item:∀(X:Cx),X.prog=P->X.w=w->X.K=K->X.calm=true->∀(i:Nat) (pins:List (Addr×Obj)) (s:Shared) (σ:St) (H:Hp) (E:Value->Shared->Prop),Inv X pins σ H s->(∀b∈fp,mj X pins H b)->tn i s.heap->J.go i H->
  wpAny (model P w) X.A (pyNext (.ref it)) (λr s1=>∃u,r=some u/\
   wpAny (model P w) X.A (letOwnedTupleGo tg (.ref it) u) (λ_ s2=>∃x H',Inv X pins σ H' s2/\RelV x u/\J.VP i H x H'/\tn (i+1) s2.heap/\∀b∈fp,H' b=none) E s1) E s
 done:∀(X:Cx),X.prog=P->X.w=w->X.K=K->X.calm=true->∀(i:Nat) (pins:List (Addr×Obj)) (s:Shared) (σ:St) (H:Hp) (E:Value->Shared->Prop),Inv X pins σ H s->(∀b∈fp,mj X pins H b)->tn i s.heap->J.stop i H->
  wpAny (model P w) X.A (pyNext (.ref it)) (λr s1=>r=none/\Inv X pins σ H s1) E s
 self:∀(A:Around) (i:Nat) (s:Shared) (Q:Value->Shared->Prop) (E:Value->Shared->Prop),tn i s.heap->Q (.ref it) s->wpAny (model P w) A (pyIter (.ref it)) Q E s
noncomputable abbrev TI:=St->Hp->(It->Hp->Prop)->Prop
noncomputable def PIE (X:Cx) (pins:List (Addr×Obj)) (σ:St) (tg:Expr) (R:It->Hp->Prop) (itv:Value) (s2:Shared):Prop:=
 ∃(it:Addr) (fp:List Addr) (tn:Nat->Heap->Prop) (J:It) (H':Hp),itv=.ref it/\Inv X pins σ H' s2/\Turn X.prog X.w X.K tg J fp it tn/\tn 0 s2.heap/\(∀b∈fp,mj X pins H' b)/\R J H'
noncomputable def PI (X:Cx) (tg iter:Expr) (wi:TI):Prop:=
 ∀(pins:List (Addr×Obj)) (s:Shared) (σ:St) (H:Hp) (R:It->Hp->Prop),Inv X pins σ H s->wi σ H R->
  wpAny (model X.prog X.w) X.A (eval iter X.env) (λv s1=>wpAny (model X.prog X.w) X.A (pyIter v) (PIE X pins σ tg R) X.xe s1) X.xe s
theorem Du {M:Model}{A:Around}{E:Value->Shared->Prop}{s:Shared}{tg:Expr}{it:Addr}{u:Value}{o:Obj}{n:String}{vs:Array Value}{Q:Unit->Shared->Prop}(ho:s.heap.get? it=some o)(hc:o.cls=.type n)(hd:o.data=.fields vs)
  (hn:["enumerate","zip","dict_itemiterator","dict_reverseitemiterator","odict_iterator","itertools.zip_longest","itertools.pairwise"].contains n=false) (hQ:Q () s):wpAny M A (letOwnedTupleGo tg (.ref it) u) Q E s:=by
 unfold letOwnedTupleGo;cases tg<;>first
  | exact wpAny_pure hQ
  | (cases u<;>first
    | exact wpAny_pure hQ
    | (refine wpAny_bind (wpAny_load ho ?_)
       rw[hc,hd];show wpAny M A (if (["enumerate","zip","dict_itemiterator","dict_reverseitemiterator","odict_iterator","itertools.zip_longest","itertools.pairwise"].contains n && vs[0]? == some (rawInt _))=true then _ else _) Q E s;rw[if_neg (by intro h;rw[hn,Bool.false_and]at h;cases h)];exact wpAny_pure hQ))
noncomputable def Itl (K:PySem.W.Frag) (a:Addr):It:=
 ⟨λi H=>∃xs x,g_ K H a xs/\xs[i]?=some x,λi H x H'=>H'=H/\∀xs,g_ K H a xs->xs[i]?=some x,λi H=>∃xs,g_ K H a xs/\xs.length<=i⟩
noncomputable def Itt (K:PySem.W.Frag) (a:Addr):It:=
 ⟨λi H=>∃xs x,fQ K H a xs/\xs[i]?=some x,λi H x H'=>H'=H/\∀xs,fQ K H a xs->xs[i]?=some x,λi H=>∃xs,fQ K H a xs/\xs.length<=i⟩
noncomputable def Itr (lo:Int) (n:Nat):It:=⟨λi _=>i < n,λi H x H'=>H'=H/\x=.int (lo+i),λi _=>n<=i⟩
theorem VR {P:Program}{w:World}{K:PySem.W.Frag}{tg:Expr}(a it:Addr):Turn P w K tg (Itl K a) [it] it (λi h=>h.IsListIter it a i) where
 mem:=by simp
 obj:=λi h st b hb=>by
  have e:b=it:=by simpa using hb
  subst e;obtain ⟨o,e,c,d⟩:=st;exact ⟨o,e,λv z=>by rw[d]at z;cases z⟩
 keep:=λi h h' st k=>st.at λo e=>k it (by simp) o e
 item:=by
  intro X hP hw hK hc i pins s σ H E I hf st hg;subst hP hw hK;obtain ⟨xs,x,hq,hx⟩:=hg;obtain ⟨its,rv,p,hz⟩:=I.list hq;obtain ⟨u,hu,ru⟩:=rv.get hx;obtain ⟨f0,f1,f2,f3,f4,f5⟩:=hf it (by simp);refine wpAny_pyNext_list_item st p.isList (x:=u) (by simpa using hu) λh' st' sb=>?_;have I1:Inv X pins σ H {s with heap:=h'}:=I.turned (t':=s.toks) (λb o hb e=>(sb.2 b hb).trans e) f0 f1 f3 f4 f5;obtain ⟨o,e,c,d⟩:=id st';exact ⟨u,rfl,Du (s:={s with heap:=h'}) e c d (by decide) ⟨x,H,I1,ru,⟨rfl,λys hy=>by rw[I.Fl hy hq];exact hx⟩,st',λb hb=>(hf b hb).1⟩⟩
 done:=by
  intro X hP hw hK hc i pins s σ H E I hf st hg;subst hP hw hK;obtain ⟨xs,hq,hx⟩:=hg;obtain ⟨its,rv,p,hz⟩:=I.list hq;obtain ⟨f0,f1,f2,f3,f4,f5⟩:=hf it (by simp);have hl:=rv.length;exact wpAny_pyNext_list_end (I.ok.hd hc) st p.isList (by simp;omega) λh' eb=>⟨rfl,I.turned (t':=s.toks) (λb o hb e=>eb b o hb e) f0 f1 f3 f4 f5⟩
 self:=λ_ _ _ _ _ st h=>wpAny_pyIter_listiter st h
theorem Rv {P:Program}{w:World}{K:PySem.W.Frag}{tg:Expr}(a it:Addr):Turn P w K tg (Itt K a) [it] it (λi h=>h.IsTupleIter it a i) where
 mem:=by simp
 obj:=λi h st b hb=>by
  have e:b=it:=by simpa using hb
  subst e;obtain ⟨o,e,c,d⟩:=st;exact ⟨o,e,λv z=>by rw[d]at z;cases z⟩
 keep:=λi h h' st k=>st.at λo e=>k it (by simp) o e
 item:=by
  intro X hP hw hK hc i pins s σ H E I hf st hg;subst hP hw hK;obtain ⟨xs,x,hq,hx⟩:=hg;obtain ⟨its,rv,p,hz⟩:=I.tuple hq;obtain ⟨u,hu,ru⟩:=rv.get hx;obtain ⟨f0,f1,f2,f3,f4,f5⟩:=hf it (by simp);refine wpAny_pyNext_tuple_item st (show s.heap.IsTuple a its.toArray from p) (x:=u) (by simpa using hu) λh' st' sb=>?_;have I1:Inv X pins σ H {s with heap:=h'}:=I.turned (t':=s.toks) (λb o hb e=>(sb.2 b hb).trans e) f0 f1 f3 f4 f5;obtain ⟨o,e,c,d⟩:=id st';exact ⟨u,rfl,Du (s:={s with heap:=h'}) e c d (by decide) ⟨x,H,I1,ru,⟨rfl,λys hy=>by rw[I.z_ hy hq];exact hx⟩,st',λb hb=>(hf b hb).1⟩⟩
 done:=by
  intro X hP hw hK hc i pins s σ H E I hf st hg;subst hP hw hK;obtain ⟨xs,hq,hx⟩:=hg;obtain ⟨its,rv,p,hz⟩:=I.tuple hq;obtain ⟨f0,f1,f2,f3,f4,f5⟩:=hf it (by simp);have hl:=rv.length;exact wpAny_pyNext_tuple_end (I.ok.hd hc) st (show s.heap.IsTuple a its.toArray from p) (by simp;omega) λh' eb=>⟨rfl,I.turned (t':=s.toks) (λb o hb e=>eb b o hb e) f0 f1 f3 f4 f5⟩
 self:=λ_ _ _ _ _ st h=>wpAny_pyIter_tupleiter st h
theorem Rw {P:Program}{w:World}{K:PySem.W.Frag}{tg:Expr}(it:Addr)(lo:Int)(n:Nat):Turn P w K tg (Itr lo n) [it] it (λi h=>IsRangeIter h it (lo+(i:Nat) * 1) ((n:Int) - (i:Nat)) 1) where
 mem:=by simp
 obj:=λi h st b hb=>by
  have e:b=it:=by simpa using hb
  subst e;exact ⟨_,st,λv z=>by
   have z':Data.fields _=Data.cell v:=z;cases z'⟩
 keep:=λi h h' st k=>k it (by simp) _ st
 item:=by
  intro X hP hw hK hc i pins s σ H E I hf st hg;subst hP hw hK;obtain ⟨f0,f1,f2,f3,f4,f5⟩:=hf it (by simp);have W:=Walks.range (prog:=X.prog) (w:=X.w) (I.ok.hd hc) it lo 1 n;refine W.item i s _ _ hg st λv h' tk hv st' kk=>?_;obtain ⟨t,rfl⟩:=hv;have I1:Inv X pins σ H {s with heap:=h',toks:=tk}:=I.turned (λb o hb e=>kk b o (by simpa using hb) e) f0 f1 f3 f4 f5;refine ⟨_,rfl,Du (s:={s with heap:=h',toks:=tk}) (n:="range_iterator") st' rfl rfl (by decide) ⟨.int (lo+i),H,I1,⟨t,?_⟩,⟨rfl,rfl⟩,st',λb hb=>(hf b hb).1⟩⟩;rw[Int.mul_one]
 done:=by
  intro X hP hw hK hc i pins s σ H E I hf st hg;subst hP hw hK;obtain ⟨f0,f1,f2,f3,f4,f5⟩:=hf it (by simp);exact wpAny_pyNext_range_end (I.ok.hd hc) st (by have:n<=i:=hg;omega) λh' eb=>⟨rfl,I.turned (t':=s.toks) (λb o hb e=>eb b o hb e) f0 f1 f3 f4 f5⟩
 self:=λ_ _ _ _ _ st h=>wpAny_pyIter_rangeiter st h
end L2
namespace L2
open PySem PySem.Spec PyProof.Rows
section
variable {X:Cx}{tg:Expr}
theorem Yp {pins:List (Addr×Obj)}{σ:St}{H:Hp}{s:Shared}{R:It->Hp->Prop}{E:Value->Shared->Prop}{lo hi:Int}{t u v:Tok}{tk:Nat}(I:Inv X pins σ H s)(h1:-(2 ^ 62)<=lo)(h2:lo < 2 ^ 62)(h3:-(2 ^ 62)<=hi)(h4:hi < 2 ^ 62)
  (q:R (Itr lo (hi - lo).toNat) H):wpAny (model X.prog X.w) X.A (pyIter (.ref s.heap.objs.size)) (PIE X pins σ tg R) E {s with heap:=s.heap.push {cls:=.type "range",data:=.fields #[.int lo t,.int hi u,.int 1 v]},toks:=tk}:=by
 refine wpAny_pyIter_range (IsRange.new ..) (small_one h1 h2 h3 h4) ?_;have I1:Inv X pins σ H {s with heap:=s.heap.push {cls:=.type "range",data:=.fields #[.int lo t,.int hi u,.int 1 v]},toks:=tk}:=I.kept λb o e=>Heap.get?_push_of_some _ e;refine ⟨(s.heap.push {cls:=.type "range",data:=.fields #[.int lo t,.int hi u,.int 1 v]}).objs.size,[(s.heap.push {cls:=.type "range",data:=.fields #[.int lo t,.int hi u,.int 1 v]}).objs.size],_,_,H,rfl,
  I1.kept (t':=tk) λb o e=>Heap.get?_push_of_some _ e,Rw _ lo (hi - lo).toNat,?_,λb hb=>?_,q⟩
 ·have e1:lo+((0:Nat):Int) * 1=lo:=by simp
  have e2:(((hi - lo).toNat:Nat):Int) - ((0:Nat):Int)=Builtin.Range.rangeSize lo hi 1:=by rw[rangeSize_one];split<;>omega
  show IsRangeIter _ _ (lo+((0:Nat):Int) * 1) ((((hi - lo).toNat:Nat):Int) - ((0:Nat):Int)) 1;rw[e1,e2];exact Heap.get?_push_size _ rfl
 ·have e:b=(s.heap.push {cls:=.type "range",data:=.fields #[.int lo t,.int hi u,.int 1 v]}).objs.size:=by simpa using hb
  subst e;exact I1.Fp (Nat.le_refl _) (I1.hok.fresh (Nat.le_refl _))
noncomputable def ah9 (ta:TA):TI:=λσ H R=>ta σ H λvs H1=>∃j:Int,vs=[.int j]/\-(2 ^ 62)<=j/\j < 2 ^ 62/\R (Itr 0 j.toNat) H1
theorem V0 {a:Expr}{ta:TA}{p pos:Pos}(hg:Gl X "range")(hm:X.mg "range"=none)(ha:PA X [a] ta)(hs:starEach [a] X.env=[(false,eval a X.env)]:=by rfl):PI X tg (.Call (.Name "range" p) [a] [] pos) (ah9 ta):=by
 intro pins s σ H R I h;refine Call_ (uJ I hg hm boot_range (PyProof.Rows.callWith_type1 (bI (ha pos pins s σ H _ I h) λus s1 ⟨vs,H1,I1,r1,q1⟩=>?_) hs rfl));obtain ⟨j,e,q1,q2,q⟩:=q1;subst e;cases r1 with
 | cons r rr=>
  cases rr;obtain ⟨t,rfl⟩:=r;exact call_range_1 (Yp I1 (by omega) (by omega) q1 q2 (by simpa using q))
noncomputable def alL (wi:TI) (g:TG) (tb:TS):TS:=λD σ H=>wi σ H λJ H1=>∃W:Nat->Nat->St->Hp->Prop,(∃m,W 0 m σ H1)/\∀i m σ H,W i m σ H->
 (J.stop i H/\D.nx σ H)\/(J.go i H/\∃N:St->Hp->Prop,(∀σ' H',N σ' H'->∃m',m' < m/\W (i+1) m' σ' H')/\∀x H',J.VP i H x H'->g x σ H' λσ2 H2=>tb {D with nx:=N,ct:=N,bk:=D.nx} σ2 H2)
noncomputable def Aa (fp:List Addr) (h:Heap):List (Addr×Obj):=fp.filterMap λb=>(h.get? b).map λo=>(b,o)
theorem qg {fp:List Addr}{h:Heap}{b:Addr}{o:Obj}(hb:b∈fp)(e:h.get? b=some o):(b,o)∈Aa fp h:=List.mem_filterMap.mpr ⟨b,hb,by rw[e];rfl⟩
theorem V1 {fp:List Addr}{h:Heap}{p:Addr×Obj}(hp:p∈Aa fp h):p.1∈fp/\h.get? p.1=some p.2:=by
 obtain ⟨b,hb,e⟩:=List.mem_filterMap.mp hp;cases q:h.get? b with
 | none=>rw[q]at e;cases e
 | some o=>
  rw[q]at e;have e':(b,o)=p:=Option.some.inj e;subst e';exact ⟨hb,q⟩
theorem Inv.pinned {pins:List (Addr×Obj)}{σ:St}{H:Hp}{s:Shared}{fp:List Addr}(I:Inv X pins σ H s)(hf:∀b∈fp,mj X pins H b)(ho:∀b∈fp,∃o,s.heap.get? b=some o/\∀v,o.data≠.cell v):Inv X (pins++Aa fp s.heap) σ H s:=
 I.PL λp hp=>(List.mem_append.mp hp).elim (λz=>I.pin p (List.mem_append_right _ z)) λz=>by
  obtain ⟨hb,e⟩:=V1 z;obtain ⟨f0,f1,f2,_⟩:=hf p.1 hb;obtain ⟨o,e',d⟩:=ho p.1 hb;rw[e]at e';cases e';exact ⟨e,f0,f1,f2,d⟩
theorem Inv.v9 {pins pl:List (Addr×Obj)}{σ:St}{H:Hp}{s:Shared}(I:Inv X (pins++pl) σ H s):Inv X pins σ H s:=I.PL λp hp=>I.pin p (List.mem_append_right _ (List.mem_append_left _ hp))
theorem ad_ {iter:Expr}{body:List Stmt}{wi:TI}{g:TG}{tb:TS}{pos:Pos}(hp:PassesOwn (model X.prog X.w) X.A X.env X.xe)(hc:X.calm=true)(hi:PI X tg iter wi)(hg:PG X tg g)(hb:lX X body tb)
  (hs:∀x,foldedSetIterable iter X.env x=pure x:=by intro _;rfl):PS X (.For tg iter body [] pos) (alL wi g tb):=by
 intro pins s σ H D I h;refine wpAny_For (bI (hi pins s σ H _ I h) λv s1 h1=>bI h1 λitv s2 h2=>?_) hs;obtain ⟨it,fp,tn,J,H2,e,I2,T,st2,f2,W,⟨m0,w0⟩,turn⟩:=h2;subst e
 -- what stays true of the iterator's objects through the loop
 have stat:∀{H':Hp},(∀b∈fp,H' b=none)->∀b∈fp,mj X pins H' b:=λhn b hb=>⟨hn b hb,(f2 b hb).2⟩
 refine codeAny_forLoop_any (λn s'=>∃i σ' H',Inv X pins σ' H' s'/\tn i s'.heap/\(∀b∈fp,H' b=none)/\W i n σ' H') ?_ m0 ⟨0,σ,H2,I2,st2,λb hb=>(f2 b hb).1,w0⟩;rintro n s3 ⟨i,σ3,H3,I3,st3,fr3,w3⟩;rcases turn i n σ3 H3 w3 with ⟨stop,qn⟩ | ⟨go,N,hN,step⟩
 ·refine wpAny_passesOwn hp (bI (T.done X rfl rfl rfl hc i pins s3 σ3 H3 X.xe I3 (stat fr3) st3 stop) λr s4 ⟨hr,I4⟩=>?_);subst hr;exact wpAny_execs_nil ⟨σ3,H3,I4,qn⟩
 ·refine wpAny_passesOwn hp (bI (T.item X rfl rfl rfl hc i pins s3 σ3 H3 X.xe I3 (stat fr3) st3 go) λr s4 ⟨u,hr,h4⟩=>?_);subst hr;refine wpAny_passesOwn hp (bI h4 λ_ s5 ⟨x,H5,I5,r5,y5,P0,fr5⟩=>?_);have I5':=I5.pinned (stat fr5) (T.obj _ _ P0);refine wpAny_passesOwn hp (bI (hg _ s5 σ3 H5 x u _ I5' r5 (step x H5 y5)) λ_ s6 ⟨σ6,H6,I6,q6⟩=>?_);refine wpAny_passesOwn hp (bI (hb _ s6 σ6 H6 _ I6 q6) λf s7 q7=>?_);have again:∀{Ls:St} {H7:Hp},Inv X (pins++Aa fp s5.heap) Ls H7 s7->N Ls H7->∃m,m < n/\∃i σ' H',Inv X pins σ' H' s7/\tn i s7.heap/\(∀b∈fp,H' b=none)/\W i m σ' H':=λ{Ls H7} I7 n7=>by
   obtain ⟨m',hm,w7⟩:=hN Ls H7 n7;refine ⟨m',hm,i+1,Ls,H7,I7.v9,T.keep _ _ _ P0 λb hb o e=>(I7.pin (b,o) (List.mem_append_right _ (List.mem_append_right _ (qg hb e)))).1,λb hb=>?_,w7⟩;obtain ⟨o,e,d⟩:=T.obj _ _ P0 b hb;exact (I7.pin (b,o) (List.mem_append_right _ (List.mem_append_right _ (qg hb e)))).2.1
  cases f with
  | next=>obtain ⟨Ls,H7,I7,n7⟩:=q7;exact again I7 n7
  | cont=>obtain ⟨Ls,H7,I7,n7⟩:=q7;exact again I7 n7
  | brk=>obtain ⟨Ls,H7,I7,q7⟩:=q7;exact ⟨Ls,H7,I7.v9,q7⟩
  | ret v=>obtain ⟨x7,Ls,H7,I7,r7,q7⟩:=q7;exact ⟨x7,Ls,H7,I7.v9,r7,q7⟩
end
end L2
namespace L2
open PySem PySem.Spec PyProof.Rows
noncomputable abbrev R2:=V->V->Hp->VK->Prop
noncomputable def bT (X:Cx) (f:Value->Value->Sem Value) (r:R2):Prop:=
 ∀(pins:List (Addr×Obj)) (s:Shared) (σ:St) (H:Hp) (x y:V) (v u:Value) (Q:VK),Inv X pins σ H s->RelV x v->RelV y u->r x y H Q->
  wpAny (model X.prog X.w) X.A (f v u) (EP X pins σ Q) X.xe s
noncomputable def P_ (X:Cx) (f:Value->Sem Value) (r:V->Hp->VK->Prop):Prop:=
 ∀(pins:List (Addr×Obj)) (s:Shared) (σ:St) (H:Hp) (x:V) (v:Value) (Q:VK),Inv X pins σ H s->RelV x v->r x H Q->
  wpAny (model X.prog X.w) X.A (f v) (EP X pins σ Q) X.xe s
noncomputable def eV (X:Cx) (f:Value) (r:List V->Hp->VK->Prop):Prop:=
 ∀(pins:List (Addr×Obj)) (s:Shared) (σ:St) (H:Hp) (xs:List V) (us:List Value) (Q:VK),Inv X pins σ H s->Vals xs us->r xs H Q->
  wpAny (model X.prog X.w) X.A (call f us) (EP X pins σ Q) X.xe s
noncomputable def alM (X:Cx) (r:V->Hp->(Bool->Hp->Prop)->Prop):Prop:=
 ∀(pins:List (Addr×Obj)) (s:Shared) (σ:St) (H:Hp) (x:V) (v:Value) (Q:Bool->Hp->Prop),Inv X pins σ H s->RelV x v->r x H Q->
  wpAny (model X.prog X.w) X.A (truthy v) (TP X pins σ Q) X.xe s
noncomputable def tOp (r:R2) (ta tb:TE):TE:=λσ H Q=>ta σ H λx H1=>tb σ H1 λy H2=>r x y H2 Q
noncomputable def tUn (r:V->Hp->VK->Prop) (ta:TE):TE:=λσ H Q=>ta σ H λx H1=>r x H1 Q
noncomputable def rI (C:Int->Int->Prop) (g:Int->Int->V):R2:=λx y H Q=>∃i j,x=.int i/\y=.int j/\C i j/\Q (g i j) H
noncomputable def Gm (g:Int->Int->V):R2:=λx y H Q=>∃i j,x=.int i/\y=.int j/\Q (g i j) H
noncomputable def rU (g:Int->V):V->Hp->VK->Prop:=λx H Q=>∃i,x=.int i/\Q (g i) H
section
variable {X:Cx}{a b c:Expr}{ta tb tc:TE}{pos:Pos}
theorem Yq (ha:PE X a ta)(hb:PE X b tb){pins:List (Addr×Obj)}{s:Shared}{σ:St}{H:Hp}{R:V->V->Hp->Prop}(I:Inv X pins σ H s)
  (h:ta σ H λx H1=>tb σ H1 λy H2=>R x y H2) {Q:Value->Shared->Prop} {f:Value->Value->Sem Value}
  (hf:∀v u s2 x y H2,Inv X pins σ H2 s2->RelV x v->RelV y u->R x y H2->wpAny (model X.prog X.w) X.A (f v u) Q X.xe s2):
  wpAny (model X.prog X.w) X.A (eval a X.env) (λv s₁=>wpAny (model X.prog X.w) X.A (eval b X.env) (λu s₂=>wpAny (model X.prog X.w) X.A (f v u) Q X.xe s₂) X.xe s₁) X.xe s:=by
 refine bI (ha pins s σ H _ I h) λv s1 ⟨x,H1,I1,r1,q1⟩=>?_;refine bI (hb pins s1 σ H1 _ I1 q1) λu s2 ⟨y,H2,I2,r2,q2⟩=>?_;exact hf v u s2 x y H2 I2 r1 r2 q2
theorem ah_ {op:Operator}{r:R2}(ho:bT X (binaryOp op) r)(ha:PE X a ta)(hb:PE X b tb):PE X (.BinOp a op b pos) (tOp r ta tb):=by
 intro pins s σ H Q I h;exact wpAny_BinOp (Yq ha hb I h λv u s2 x y H2 I2 rx ry q=>ho pins s2 σ H2 x y v u Q I2 rx ry q)
theorem aia {op:UnaryOp}{r:V->Hp->VK->Prop}(ho:P_ X (unaryOp op) r)(ha:PE X a ta):PE X (.UnaryOp op a pos) (tUn r ta):=by
 intro pins s σ H Q I h;exact UnaryOp_ (bI (ha pins s σ H _ I h) λv s1 ⟨x,H1,I1,r1,q1⟩=>ho pins s1 σ H1 x v Q I1 r1 q1)
theorem V2 {f:Value->Value->Sem Value}{C:Int->Int->Prop}{g:Int->Int->Int}
  (rule:∀(i j:Int) (t u:Tok) (s:Shared) (Q:Value->Shared->Prop) (E:Value->Shared->Prop),C i j->Q (.int (g i j) s.toks) {s with toks:=s.toks+1}->wpAny (model X.prog X.w) X.A (f (.int i t) (.int j u)) Q E s):
  bT X f (rI C λi j=>.int (g i j)):=by
 intro pins s σ H x y v u Q I rx ry h;obtain ⟨i,j,rfl,rfl,hc,q⟩:=h;obtain ⟨t,rfl⟩:=rx;obtain ⟨t',rfl⟩:=ry;exact rule i j t t' s _ _ hc ⟨.int (g i j),H,I.tok _,⟨_,rfl⟩,q⟩
theorem aea {f:Value->Value->Sem Value}{g:Int->Int->Int}
  (rule:∀(i j:Int) (t u:Tok) (s:Shared) (Q:Value->Shared->Prop) (E:Value->Shared->Prop),Q (.int (g i j) s.toks) {s with toks:=s.toks+1}->wpAny (model X.prog X.w) X.A (f (.int i t) (.int j u)) Q E s):
  bT X f (Gm λi j=>.int (g i j)):=by
 intro pins s σ H x y v u Q I rx ry h;obtain ⟨i,j,rfl,rfl,q⟩:=h;obtain ⟨t,rfl⟩:=rx;obtain ⟨t',rfl⟩:=ry;exact rule i j t t' s _ _ ⟨.int (g i j),H,I.tok _,⟨_,rfl⟩,q⟩
theorem Yr {f:Value->Value->Sem Value}{g:Int->Int->Bool}
  (rule:∀(i j:Int) (t u:Tok) (s:Shared) (Q:Value->Shared->Prop) (E:Value->Shared->Prop),Q (.bool (g i j)) s->wpAny (model X.prog X.w) X.A (f (.int i t) (.int j u)) Q E s):
  bT X f (Gm λi j=>.bl (g i j)):=by
 intro pins s σ H x y v u Q I rx ry h;obtain ⟨i,j,rfl,rfl,q⟩:=h;obtain ⟨t,rfl⟩:=rx;obtain ⟨t',rfl⟩:=ry;exact rule i j t t' s _ _ ⟨.bl (g i j),H,I,rfl,q⟩
noncomputable def alN (i j:Int):Prop:=0<=j/\j<=1000000/\i.natAbs < 2 ^ 64
noncomputable def Ys (i j:Int):Prop:=(-(2 ^ 64) < i/\i < 2 ^ 64)\/(-(2 ^ 64) < j/\j < 2 ^ 64)
theorem Ys.ok {i j:Int}(h:Ys i j):IntMulOk i j:=by
 rcases h with ⟨h1,h2⟩ | ⟨h1,h2⟩
 ·exact .of_left (intBits_le_64 h1 h2)
 ·exact .of_right (intBits_le_64 h1 h2)
theorem aeb:bT X (binaryOp .Add) (Gm λi j=>.int (i+j)):=aea λ_ _ _ _ _ _ _ q=>add_int q
theorem aec:bT X (binaryOp .Sub) (Gm λi j=>.int (i - j)):=aea λ_ _ _ _ _ _ _ q=>sub_int q
theorem aed:bT X (binaryOp .Mult) (rI Ys λi j=>.int (i * j)):=V2 λ_ _ _ _ _ _ _ hc q=>mul_int q hc.ok
theorem aee:bT X (binaryOp .Mod) (rI (λ_ j=>0 < j) λi j=>.int (i % j)):=V2 λi j _ _ _ _ _ hc q=>by
 have h1:(0:Int) < j:=hc;exact mod_int' (by omega) (by rw[Int.fmod_eq_emod_of_nonneg i (by omega)];exact q)
theorem aef:bT X (binaryOp .Pow) (rI alN λi j=>.int (i ^ j.toNat)):=V2 λ_ _ _ _ _ _ _ hc q=>pow_int_small hc.1 hc.2.1 hc.2.2 q
theorem unI {f:Value->Sem Value}{g:Int->Int}
  (rule:∀(i:Int) (t:Tok) (s:Shared) (Q:Value->Shared->Prop) (E:Value->Shared->Prop),Q (.int (g i) s.toks) {s with toks:=s.toks+1}->wpAny (model X.prog X.w) X.A (f (.int i t)) Q E s):
  P_ X f (rU λi=>.int (g i)):=by
 intro pins s σ H x v Q I rx h;obtain ⟨i,rfl,q⟩:=h;obtain ⟨t,rfl⟩:=rx;exact rule i t s _ _ ⟨.int (g i),H,I.tok _,⟨_,rfl⟩,q⟩
theorem aeg:P_ X (unaryOp .USub) (rU λi=>.int (-i)):=unI λ_ _ _ _ _ q=>neg_int q
end
section
variable {X:Cx}{a b c:Expr}{ta tb tc:TE}{pos:Pos}
theorem Lw {pins:List (Addr×Obj)}{σ:St}{H:Hp}{s:Shared}{Q:VK}{k k':Bool}(I:Inv X pins σ H s)(q:Q (.bl k) H)(e:k=k'):EP X pins σ Q (.bool k') s:=by
 subst e;exact ⟨.bl k,H,I,rfl,q⟩
theorem aib:bT X (compareOp .Lt) (Gm λi j=>.bl (decide (i < j))):=Yr λ_ _ _ _ _ _ _ q=>lt_int q
theorem aic:bT X (compareOp .LtE) (Gm λi j=>.bl (decide (i<=j))):=Yr λ_ _ _ _ _ _ _ q=>le_int q
theorem aie:bT X (compareOp .Gt) (Gm λi j=>.bl (decide (j < i))):=Yr λ_ _ _ _ _ _ _ q=>gt_int q
theorem V3:bT X (compareOp .In) (λx y H Q=>∃i j,x=.str i/\y=.str j/\Q (.bl (!(Builtin.Str.occurrences j i 0 j.length 1).isEmpty)) H):=by
 intro pins s σ H x y v u Q I rx ry h;obtain ⟨i,j,rfl,rfl,q⟩:=h;obtain ⟨t,rfl⟩:=rx;obtain ⟨t',rfl⟩:=ry;exact in_str (Lw I q rfl)
theorem aeh:bT X (compareOp .Is) (λx y H Q=>y=.non/\Q (.bl (decide (x=.non))) H):=by
 intro pins s σ H x y v u Q I rx ry h;obtain ⟨rfl,q⟩:=h;cases ry;refine is_none_gen (Lw I q ?_);cases x<;>first
  | (cases rx;rfl)
  | (obtain ⟨t,rfl⟩:=rx;rfl)
theorem Lx:bT X (compareOp .NotIn) (λx y H Q=>∃i j,x=.str i/\y=.str j/\Q (.bl (!(!(Builtin.Str.occurrences j i 0 j.length 1).isEmpty))) H):=by
 intro pins s σ H x y v u Q I rx ry h;obtain ⟨i,j,rfl,rfl,q⟩:=h;obtain ⟨t,rfl⟩:=rx;obtain ⟨t',rfl⟩:=ry;exact notIn_str (Lw I q rfl)
theorem bT.or {f:Value->Value->Sem Value}{r r':R2}(h:bT X f r)(h':bT X f r'):bT X f (λx y H Q=>r x y H Q\/r' x y H Q):=by
 intro pins s σ H x y v u Q I rx ry q;rcases q with q | q
 ·exact h pins s σ H x y v u Q I rx ry q
 ·exact h' pins s σ H x y v u Q I rx ry q
theorem HY {op:CmpOp}{r:R2}(ho:bT X (compareOp op) r)(ha:PE X a ta)(hb:PE X b tb)(hm:behindInMarks op b=false):PE X (.Compare a [op] [b] pos) (tOp r ta tb):=by
 intro pins s σ H Q I h;exact wpAny_Compare1 (Yq ha hb I h λv u s2 x y H2 I2 rx ry q=>ho pins s2 σ H2 x y v u Q I2 rx ry q) hm
noncomputable def aif (t:TE):TT:=λσ H Q=>t σ H λx H'=>∃k,x=.bl k/\Q k H'
theorem Qa {op:CmpOp}{r:R2}(ho:bT X (compareOp op) r)(ha:PE X a ta)(hb:PE X b tb)(hm:behindInMarks op b=false):PT X (.Compare a [op] [b] pos) (aif (tOp r ta tb)):=by
 intro pins s σ H Q I h;refine wpAny_isTrue_Compare1 (bI (ha pins s σ H _ I h) λv s1 ⟨x,H1,I1,r1,q1⟩=>bI (hb pins s1 σ H1 _ I1 q1) λu s2 ⟨y,H2,I2,r2,q2⟩=>
  bI (ho pins s2 σ H2 x y v u _ I2 r1 r2 q2) λc s3 ⟨z,H3,I3,r3,k,e,q3⟩=>?_) hm
 subst e;cases r3;exact wpAny_truthy_bool ⟨H3,I3,q3⟩
noncomputable def aei (r r':R2) (ta tb tc:TE):TE:=λσ H Q=>ta σ H λx H1=>tb σ H1 λy H2=>r x y H2 λz H3=>∃k,z=.bl k/\
 (if k=true then tc σ H3 λw' H4=>r' y w' H4 Q else Q (.bl false) H3)
theorem Yt {op op':CmpOp}{r r':R2}(ho:bT X (compareOp op) r)(ho':bT X (compareOp op') r')(ha:PE X a ta)(hb:PE X b tb)(hc:PE X c tc)
  (hm:lastMarks [op,op'] [b,c]=false:=by with_unfolding_all rfl):PE X (.Compare a [op,op'] [b,c] pos) (aei r r' ta tb tc):=by
 intro pins s σ H Q I h;refine Compare_chain (bI (ha pins s σ H _ I h) λv s1 ⟨x,H1,I1,r1,q1⟩=>chain_link (bI (hb pins s1 σ H1 _ I1 q1) λu s2 ⟨y,H2,I2,r2,q2⟩=>
  bI (ho pins s2 σ H2 x y v u _ I2 r1 r2 q2) λd s3 ⟨z,H3,I3,r3,k,e,q3⟩=>?_)) hm
 subst e;cases r3;refine wpAny_truthy_bool ?_;cases k with
 | false=>exact ite_ff ⟨.bl false,H3,I3,rfl,q3⟩
 | true=>exact ite_tt (chain_last (bI (hc pins s3 σ H3 _ I3 q3) λw' s4 ⟨z',H4,I4,r4,q4⟩=>ho' pins s4 σ H4 y z' u w' Q I4 r2 r4 q4))
noncomputable def Yu (K:PySem.W.Frag) (x:V) (H:Hp) (k:Bool):Prop:=
 match x with
 | .non=>k=false
 | .bl b=>k=b
 | .int i=>k=(i != 0)
 | .str y=>y.length<=sizeLine/\k=((y.length:Int) != 0)
 | .Ju y=>y.size<=sizeLine/\k=((y.size:Int) != 0)
 | .ref p=>(∃xs,g_ K H p xs/\k=!xs.isEmpty)\/(∃xs,fQ K H p xs/\k=!xs.isEmpty)\/∃kvs,H p=some (.dK kvs)/\k=!kvs.isEmpty
 | _=>False
theorem Rx {κ:Type}{kvs:List (κ×V)}{vs:List (κ×Value)}(r:KV kvs vs):(!vs.isEmpty)=!kvs.isEmpty:=by
 cases r<;>rfl
theorem Gn {xs:List V}{its:List Value}(r:Vals xs its):(!its.toArray.isEmpty)=!xs.isEmpty:=by
 cases r<;>simp
theorem uL:(sizeLine:Nat) < 2 ^ 63:=by rw[sizeLine_eq];decide
theorem aej:alM X (λx H Q=>∃k,Yu X.K x H k/\Q k H):=by
 intro pins s σ H x v Q I rx h;obtain ⟨k,e,q⟩:=h;have hl:=uL;have hs:sizeLine=16777216:=sizeLine_eq;cases x with
 | non=>
  cases rx;have e':k=false:=e;subst e';exact truthy_none ⟨H,I,q⟩
 | bl b=>
  cases rx;have e':k=b:=e;subst e';exact wpAny_truthy_bool ⟨H,I,q⟩
 | int i=>
  obtain ⟨t,rfl⟩:=rx;have e':k=(i != 0):=e;subst e';exact PySem.P.truthy_int ⟨H,I,q⟩
 | str y=>
  obtain ⟨t,rfl⟩:=rx;obtain ⟨hy,e'⟩:y.length<=sizeLine/\k=((y.length:Int) != 0):=e;subst e';exact PySem.P.truthy_str (by omega) ⟨H,I.tok _,q⟩
 | Ju y=>
  obtain ⟨t,rfl⟩:=rx;obtain ⟨hy,e'⟩:y.size<=sizeLine/\k=((y.size:Int) != 0):=e;subst e';exact PySem.W.truthy_bytes (by omega) ⟨H,I.tok _,q⟩
 | ref p=>
  cases rx;have e':(∃xs,g_ X.K H p xs/\k=!xs.isEmpty)\/(∃xs,fQ X.K H p xs/\k=!xs.isEmpty)\/∃kvs,H p=some (.dK kvs)/\k=!kvs.isEmpty:=e;rcases e' with ⟨xs,hx,e'⟩ | ⟨xs,hx,e'⟩ | ⟨kvs,hx,e'⟩
  ·subst e';obtain ⟨its,r,pl,hz⟩:=I.list hx;have hlen:=r.length;exact wpAny_truthy_list pl.isList (by simp only[List.size_toArray];omega) ⟨H,I.tok _,by rw[Gn r];exact q⟩
  ·subst e';obtain ⟨its,r,pl,hz⟩:=I.tuple hx;have hlen:=r.length;exact truthy_tuple pl (by simp only[List.size_toArray];omega) ⟨H,I.tok _,by rw[Gn r];exact q⟩
  ·subst e';obtain ⟨hz,hS,vs,r,m⟩:kvs.length<=sizeLine/\(p == sysModules)=false/\∃vs,KV kvs vs/\s.heap.DictOf (dz X.prog X.w) p vs:=I.hok p _ hx;have hlen:kvs.length=vs.length:=Paired.length r;exact wpAny_truthy_dict hS m (by omega) ⟨H,I.tok _,by rw[Rx r];exact q⟩
 | _=>exact (show False from e).elim
theorem Yv (ha:PE X a ta)(he:∀whole,isTrue a X.env whole=(do let v <-whole;standAt a.pos;holding [v] (truthy v))):
  PT X a (λσ H Q=>ta σ H λx H'=>∃k,Yu X.K x H' k/\Q k H'):=by
 intro pins s σ H Q I h;exact isTrue_plain (bI (ha pins s σ H _ I h) λv s1 ⟨x,H1,I1,r1,q1⟩=>aej pins s1 σ H1 x v Q I1 r1 q1) (he _)
theorem Ry:bT X (binaryOp .Add) (λx y H Q=>∃i j,x=.str i/\y=.str j/\i.length+j.length<=sizeLine/\Q (.str (i++j)) H):=by
 intro pins s σ H x y v u Q I rx ry h;obtain ⟨i,j,rfl,rfl,hz,q⟩:=h;obtain ⟨t,rfl⟩:=rx;obtain ⟨t',rfl⟩:=ry;exact add_str (λt' tk=>⟨.str (i++j),H,I.tok _,⟨_,rfl⟩,q⟩) hz
theorem vals1 {x:V}{us:List Value}(r:Vals [x] us):∃u,us=[u]/\RelV x u:=by
 cases r with
 | cons r1 r2=>cases r2;exact ⟨_,rfl,r1⟩
theorem vals2 {x y:V}{us:List Value}(r:Vals [x,y] us):∃u w',us=[u,w']/\RelV x u/\RelV y w':=by
 cases r with
 | cons r1 r2=>
  cases r2 with
  | cons r3 r4=>cases r4;exact ⟨_,_,rfl,r1,r3⟩
noncomputable def alO (K:PySem.W.Frag) (x:V) (H:Hp) (n:Nat):Prop:=
 match x with
 | .str y=>y.length<=sizeLine/\n=y.length
 | .Ju y=>y.size<=sizeLine/\n=y.size
 | .ref p=>(∃xs,g_ K H p xs/\n=xs.length)\/∃xs,fQ K H p xs/\n=xs.length
 | _=>False
theorem Yw:eV X (.builtin "len") (λxs H Q=>∃x n,xs=[x]/\alO X.K x H n/\Q (.int n) H):=by
 intro pins s σ H xs us Q I r h;obtain ⟨x,n,rfl,e,q⟩:=h;obtain ⟨u,rfl,rx⟩:=vals1 r;have hl:=uL;have hs:sizeLine=16777216:=sizeLine_eq;cases x with
 | str y=>
  obtain ⟨t,rfl⟩:=rx;obtain ⟨hy,e'⟩:y.length<=sizeLine/\n=y.length:=e;subst e';exact len_str (by omega) ⟨.int _,H,I.tok _,⟨_,rfl⟩,q⟩
 | Ju y=>
  obtain ⟨t,rfl⟩:=rx;obtain ⟨hy,e'⟩:y.size<=sizeLine/\n=y.size:=e;subst e';exact PySem.W.len_bytes (by omega) ⟨.int _,H,I.tok _,⟨_,rfl⟩,q⟩
 | ref p=>
  cases rx;have e':(∃xs,g_ X.K H p xs/\n=xs.length)\/∃xs,fQ X.K H p xs/\n=xs.length:=e;rcases e' with ⟨xs,hx,e'⟩ | ⟨xs,hx,e'⟩
  ·subst e';obtain ⟨its,r',pl,hz⟩:=I.list hx;have hlen:=r'.length;exact Calls.call_len_list pl.isList (by simp only[List.size_toArray];omega) ⟨.int xs.length,H,I.tok _,⟨_,by simp only[List.size_toArray];rw[hlen]⟩,q⟩
  ·subst e';obtain ⟨its,r',pl,hz⟩:=I.tuple hx;have hlen:=r'.length;exact len_tuple pl (by simp only[List.size_toArray];omega) ⟨.int xs.length,H,I.tok _,⟨_,by simp only[List.size_toArray];rw[hlen]⟩,q⟩
 | _=>exact (show False from e).elim
end
end L2
namespace L2
open PySem PySem.Spec PyProof.Rows
section
variable {prog:Program}{w:World}{A:Around}{E:Value->Shared->Prop}{s:Shared}{K:PySem.W.Frag}{x dx C f:Addr}{mA:Str->Option Value}{name:Str}{v:Value}
end
theorem nR.some_of {v:V}{o:Option Value}(r:nR (some v) o):∃u,o=some u/\RelV v u:=by
 cases o with
 | none=>exact (show False from r).elim
 | some u=>exact ⟨u,rfl,r⟩
theorem V4 {v:V}{u:Value}(r:RelV v u):PySem.W.handedIn u=true:=by
 cases v with
 | non=>cases (show u=Value.none from r);rfl
 | bl b=>cases (show u=Value.bool b from r);rfl
 | int i=>obtain ⟨t,e⟩:=(show ∃t,u=Value.int i t from r);cases e;rfl
 | str x=>obtain ⟨t,e⟩:=(show ∃t,u=Value.str x t from r);cases e;rfl
 | Ju b=>obtain ⟨t,e⟩:=(show ∃t,u=Value.bytes b t from r);cases e;rfl
 | flt b=>obtain ⟨t,e⟩:=(show ∃t,u=Value.float b t from r);cases e;rfl
 | ref a=>cases (show u=Value.ref a from r);rfl
 | ty n=>cases (show u=Value.type n from r);rfl
section
variable {P:Program}{w:World}{H H':Hp}{h h':Heap}{a C dx:Addr}{fs fs':List (Str×V)}
end
section
variable {X:Cx}{pins:List (Addr×Obj)}{σ:St}{H:Hp}{s:Shared}{a C dx:Addr}{fs:List (Str×V)}{f:Str}{v:V}{A:Around}{E:Value->Shared->Prop}
theorem abQ {prog:Program}{w:World}{env:Env}{e:Expr}{f:Str}{pos:Pos}{s:Shared}{Q:Value->Shared->Prop}(hb:attributeBase e f env (eval e env)=eval e env)
  (h:wpAny (model prog w) A (eval e env) (λo s₁=>wpAny (model prog w) A (getAttr o f true) Q E s₁) E s):wpAny (model prog w) A (eval (.Attribute e f pos) env) Q E s:=
 Attribute_any_ h (by rw[arm_eval_Attribute,hb])
end
section
variable {X:Cx}{o e value:Expr}{f:Str}{pos pos' tpos:Pos}{ta tv:TE}
end
section
variable {X:Cx}{pins:List (Addr×Obj)}{σ:St}{H:Hp}{s:Shared}{A:Around}{E:Value->Shared->Prop}{Q:Value->Shared->Prop}{c:Value}{b:Bool}
end
end L2
namespace L2
open PySem PySem.Spec PyProof.Rows
structure cR (k:Nat)(A:Around):Prop where
 hd:A.handled=none
 dp:A.depth+3 * k+5 < recursionLimit
 un:A.units+16 * k+200 < cLine
theorem cR.deeper {k:Nat}{A:Around}(r:cR (k+1) A)(env:Env):cR k (A.deeper env):=
 ⟨r.hd,by have:=r.dp;show A.depth+1+3 * k+5 < _;omega,by have:=r.un;show A.units+3+16 * k+200 < _;omega⟩
theorem Rz {A:Around}{C:Addr}{us:List Value}{kw:List (Str×Value)}:(A.under (.builtin "type.__call__" ⟨.ref C::us,kw⟩)).depth=A.depth+1:=by
 first | rfl | simp[Around.under,Code.weight,Code.isCreation,Code.isGuard,Code.isCaller,Code.frames,Code.isFrame,guardIds]
theorem RB {A:Around}{C:Addr}{us:List Value}{kw:List (Str×Value)}:(A.under (.builtin "type.__call__" ⟨.ref C::us,kw⟩)).units=A.units+1:=by
 first | rfl | simp[Around.under,Code.cUnits,Code.frames,Code.isFrame]
theorem cR.make {k:Nat}{A:Around}(r:cR (k+1) A)(C:Addr)(us:List Value)(kw:List (Str×Value)):cR k (A.under (.builtin "type.__call__" ⟨.ref C::us,kw⟩)):=
 ⟨r.hd,by have:=r.dp;rw[Rz];omega,by have:=r.un;rw[RB];omega⟩
theorem cR.depth {k:Nat}{A:Around}(r:cR k A):A.depth < recursionLimit:=by have:=r.dp;omega
noncomputable def alP:TA:=λ_ H Q=>Q [] H
noncomputable def aii (ta:TE) (tr:TA):TA:=λσ H Q=>ta σ H λx H1=>tr σ H1 λxs H2=>Q (x::xs) H2
section
variable {X:Cx}{e:Expr}{es:List Expr}{te:TE}{t:TA}{pos:Pos}
theorem nH:PA X [] alP:=λ_ _ _ _ H Q I h=>Calls.spliced_nil ⟨[],H,I,.nil,h⟩
theorem fV (ha:PE X e te)(hr:PA X es t)(hs:starEach (e::es) X.env=(false,eval e X.env)::starEach es X.env:=by rfl):PA X (e::es) (aii te t):=by
 intro pos pins s σ H Q I h;rw[hs];show wpAny _ _ (spliced ((false,eval e X.env)::backTo pos (starEach es X.env))) _ _ s;refine Calls.spliced_cons (bI (ha pins s σ H _ I h) λu s1 ⟨x,H1,I1,r1,q1⟩=>?_);exact bI (hr pos pins s1 σ H1 _ I1 q1) λus s2 ⟨xs,H2,I2,r2,q2⟩=>⟨x::xs,H2,I2,.cons r1 r2,q2⟩
noncomputable def alQ (t:TA):TE:=λσ H Q=>t σ H λxs H1=>xs.length<=sizeLine/\∀p,H1 p=none->Q (.ref p) (upd H1 p (.tup xs))
noncomputable def alR (t:TA):TE:=λσ H Q=>t σ H λxs H1=>xs.length<=sizeLine/\∀p,H1 p=none->Q (.ref p) (upd H1 p (.lst xs))
theorem aek {x1}(h:PA X es t):PE X (.Tuple es x1 pos) (alQ t):=by
 intro pins s σ H Q I hq;refine wpAny_Tuple_spliced (bI (h pos pins s σ H _ I hq) λus s1 ⟨xs,H1,I1,r,z,q⟩=>⟨by rw[<-r.length];exact z,?_⟩);have hf:H1 s1.heap.objs.size=none:=I1.hok.fresh (Nat.le_refl _);refine ⟨.ref s1.heap.objs.size,upd H1 s1.heap.objs.size (.tup xs),I1.laid (t':=s1.toks) (λb u e=>Heap.get?_push_of_some _ e) (Nat.le_refl _) ?_,rfl,q _ hf⟩;exact ⟨z,us,r,⟨⟨_,Heap.get?_push_size _ rfl,rfl,_,rfl⟩,_,Heap.get?_push_size _ rfl,rfl⟩⟩
theorem ael (h:PA X es t):PE X (.List es pos) (alR t):=by
 intro pins s σ H Q I hq;refine wpAny_List_spliced (bI (h pos pins s σ H _ I hq) λus s1 ⟨xs,H1,I1,r,z,q⟩=>⟨by rw[<-r.length];exact z,?_⟩);have hf:H1 s1.heap.objs.size=none:=I1.hok.fresh (Nat.le_refl _);refine ⟨.ref s1.heap.objs.size,upd H1 s1.heap.objs.size (.lst xs),I1.laid (t':=s1.toks) (λb u e=>Heap.get?_push_of_some _ e) (Nat.le_refl _) ?_,rfl,q _ hf⟩;exact ⟨z,us,0,r,Heap.get?_push_size _ rfl⟩
end
noncomputable abbrev Sp:=List V->Hp->VK->XK->Prop
noncomputable abbrev uM:=List Env->Hp->Shared->XK->Value->Shared->Prop
structure Fq (P:Program)(w:World)(K:PySem.W.Frag)(mg:Str->Option Value)(base:Heap)(A:Around)(outer:List Env)(s:Shared)(H:Hp):Prop where
 frames:A.frames=some outer
 mod:Mod K mg base
 bs:∀b o,base.get? b=some o->s.heap.get? b=some o/\H b=none
 Eo:base.objs.size<=s.heap.objs.size
 lZ:s.heap.FunFrames base outer
 Jv:∀b∈frs outer,H b=none
 hok:d7 P w H s.heap
 bare:AllBare s.gens
noncomputable def CE (outer:List Env) (P:Program) (w:World) (H:Hp) (s:Shared) (Q:VK) (u:Value) (s':Shared):Prop:=
 ∃v H',s'.os=s.os/\AllBare s'.gens/\Un (frs outer) [] H H' s.heap s'.heap/\d7 P w H' s'.heap/\RelV v u/\Q v H'
noncomputable def CR (CX:uM) (outer:List Env) (P:Program) (w:World) (H:Hp) (s:Shared) (Q:VK) (E:XK) (r:Result) (s':Shared):Prop:=
 match r with
 | .ok (.ret u)=>CE outer P w H s Q u s'
 | .ok _=>False
 | .error e=>CX outer H s E e s'
structure aX (P:Program)(w:World)(K:PySem.W.Frag)(mg:Str->Option Value)(base:Heap)(CX:uM)(k:Nat)(f:Addr)(fd:FuncData)(ps:List Str)(sp:Sp):Prop where
 len:∀vs H Q E,sp vs H Q E->vs.length=ps.length
 run:∀(A:Around) (outer:List Env) (s:Shared) (H:Hp) (args:Args) (us:List Value) (vs:List V) (Q:VK) (E:XK),cR k A->Fq P w K mg base A outer s H->BindsTo s fd args (ps.zip us)->Vals vs us->sp vs H Q E->
  codeAny (model P w) A (.call (.ref f) args) (CR CX outer P w H s Q E) s
theorem Fq.make {P:Program}{w:World}{K:PySem.W.Frag}{mg:Str->Option Value}{base:Heap}{A:Around}{outer:List Env}{s:Shared}{H:Hp}(e:Fq P w K mg base A outer s H)(C:Addr)(us:List Value)(kw:List (Str×Value)):
  Fq P w K mg base (A.under (.builtin "type.__call__" ⟨.ref C::us,kw⟩)) outer s H:=⟨by first | exact e.frames | (simpa [Around.under,Code.envs,Code.isFrame,pushEnvs] using e.frames),e.mod,e.bs,e.Eo,e.lZ,e.Jv,e.hok,e.bare⟩
section
variable {X:Cx}{pins:List (Addr×Obj)}{σ:St}{H:Hp}{s s':Shared}
theorem Inv.env0 (I:Inv X pins σ H s):Fq X.prog X.w X.K X.mg X.base X.A X.stack s H:=
 ⟨I.ok.frames,I.ok.mod,I.bs,Nat.le_trans I.ok.Eo I.sz,I.stack,I.Ds,I.hok,I.bare⟩
theorem Inv.after {Q:VK}{u:Value}(I:Inv X pins σ H s)(h:CE X.stack X.prog X.w H s Q u s'):EP X pins σ Q u s':=by
 obtain ⟨v,H',os,bare,un,hok,r,q⟩:=h;obtain ⟨hh,g,d,t,os'⟩:=s';obtain rfl:os'=s.os:=os;exact ⟨v,H',I.call (h':=hh) (g':=g) (d':=d) (t':=t) (ch:=[]) un hok bare (λb z=>absurd z (by simp)),r,q⟩
end
noncomputable def aij (sp:Sp) (Ab:List V) (E:XK) (t:TA):TE:=λσ H Q=>t σ H λvs H1=>sp (vs++Ab) H1 Q E
noncomputable def Binds (K:PySem.W.Frag) (fd:FuncData) (ps:List Str) (ds:List Value):Prop:=
 ∀(s:Shared) (us:List Value),K.In s.heap->(us++ds).length=ps.length->BindsTo s fd ⟨us,[]⟩ (ps.zip (us++ds))
theorem Binds.all {K:PySem.W.Frag}{fd:FuncData}{ps:List Str}(h:∀us:List Value,us.length=ps.length->bindArgs fd ⟨us,[]⟩=pure (ps.zip us)):Binds K fd ps []:=λs us _ hl=>by
 rw[List.append_nil]at hl ⊢;exact .of_eq (h us hl)
noncomputable def Passes (CX:uM) (X:Cx) (E:XK):Prop:=∀(pins:List (Addr×Obj)) (σ:St) (H:Hp) (s:Shared) (e:Value) (s':Shared),Inv X pins σ H s->CX X.stack H s E e s'->X.xe e s'
section
variable {X:Cx}{CX:uM}{k:Nat}{f C:Addr}{fd:FuncData}{ps:List Str}{sp:Sp}{Ab:List V}{ds:List Value}{E:XK}{x m:Str}{p pos apos:Pos}{e o:Expr}{es:List Expr}{ta:TE}{t:TA}
theorem aem {pins:List (Addr×Obj)}{σ:St}{H:Hp}{s:Shared}{Q:VK}{us:List Value}{vs:List V}(F:aX X.prog X.w X.K X.mg X.base CX k f fd ps sp)(hr:cR k X.A)(hb:Binds X.K fd ps ds)(hd:Vals Ab ds)(hx:Passes CX X E)
  (I:Inv X pins σ H s) (r:Vals vs us) (h:sp (vs++Ab) H Q E):wpAny (model X.prog X.w) X.A (call (.ref f) us) (EP X pins σ Q) X.xe s:=by
 have r2:Vals (vs++Ab) (us++ds):=r.append hd;have hl:(us++ds).length=ps.length:=by rw[<-r2.length];exact F.len _ _ _ _ h
 refine wpAny_call (codeAny_mono (F.run X.A X.stack s H ⟨us,[]⟩ (us++ds) (vs++Ab) Q E hr I.env0 (hb s us I.cZ hl) r2 h) λr s' hq=>?_);cases r with
 | error e=>exact hx pins σ H s e s' I hq
 | ok fl=>
  cases fl with
  | ret u=>exact I.after hq
  | next=>exact False.elim hq
  | brk=>exact False.elim hq
  | cont=>exact False.elim hq
theorem abR (F:aX X.prog X.w X.K X.mg X.base CX k f fd ps sp)(hr:cR k X.A)(hg:Gl X x)(hm:X.mg x=some (.ref f))(hk:PySem.W.keepIn X.K (.ref f)=true)(hb:Binds X.K fd ps ds)(hd:Vals Ab ds)(hx:Passes CX X E)
  (ha:PA X (e::es) t) (hdb:(x == ("__debug__":Str))=false:=by decide) (he:starEach (e::es) X.env=(false,eval e X.env)::starEach es X.env:=by rfl) (hpl:(backTo pos (starEach es X.env)).any (·.1)=false:=by rfl):
  PE X (.Call (.Name x p) (e::es) [] pos) (aij sp Ab E t):=by
 intro pins s σ H Q I h;refine wpAny_Call_Name_kw (iy I hg hm ?_ hdb);refine PySem.W.callWith_K (h₀:=X.base) I.ok.mod.El hk (bI (ha pos pins s σ H _ I h) λus s1 ⟨vs,H1,I1,r,q⟩=>⟨I1.cZ,?_⟩) he hpl;exact aem F hr hb hd hx I1 r q
end
section
variable {X:Cx}{CX:uM}{k:Nat}{f C:Addr}{fd:FuncData}{ps ks:List Str}{sp:Sp}{E:XK}{x m:Str}{p pos apos kpos:Pos}{e o:Expr}{es:List Expr}{kws:List Keyword}{te ta:TE}{t tk:TA}{nm:Option Str}
variable {g:List Value->List Value->List Value}{gV:List V->List V->List V}
end
structure bw (N P:List Str)(sc:Scope):Prop where
 kind:sc.kind=.function
 co:sc.isCoroutine=false
 gen:sc.isGenerator=false
 nd:N.Nodup
 pre:N.take P.length=P
 par:∀x∈P,sc.names.lookup x=some .local\/sc.names.lookup x=some .cell
 aen:∀y∈sc.names,y.2≠.free
theorem Jw {kindOf:Str->Option NameKind}{x:Str}:∀{binds:List (Str×Value)} {m:Str->Option Value},(∀v,(x,v)∉binds)->bindL kindOf binds m x=m x
 | [],_,_=>rfl
 | (n,v)::r,m,h=>by
  unfold bindL;rw[Jw λw hw=>h w (List.mem_cons_of_mem _ hw)];split
  ·have:x≠n:=by rintro rfl;exact h v List.mem_cons_self
   simp[this]
  ·rfl
theorem Jx {kindOf:Str->Option NameKind}{x:Str}:∀{binds:List (Str×Value)} {m:Str->Option Value},(∀v,(x,v)∉binds)->bindC kindOf binds m x=m x
 | [],_,_=>rfl
 | (n,v)::r,m,h=>by
  unfold bindC;rw[Jx λw hw=>h w (List.mem_cons_of_mem _ hw)];split
  ·rfl
  ·have:x≠n:=by rintro rfl;exact h v List.mem_cons_self
   simp[this]
theorem Jy {kindOf:Str->Option NameKind}{x:Str}{v:Value}:∀{P:List Str} {vs:List Value} {i:Nat} {m:Str->Option Value},P.Nodup->P[i]?=some x->vs[i]?=some v->kindOf x=some .local->
  bindL kindOf (P.zip vs) m x=some v
 | [],_,_,_,_,h,_,_=>by simp at h
 | _::_,[],_,_,_,_,h,_=>by simp at h
 | p::P,w::vs,0,m,nd,h1,h2,hk=>by
  simp at h1 h2;subst h1;subst h2;show bindL kindOf ((p,w)::P.zip vs) m p=_;unfold bindL;rw[Jw λv hv=>(List.nodup_cons.mp nd).1 (List.of_mem_zip hv).1,if_pos hk];simp
 | p::P,w::vs,i+1,m,nd,h1,h2,hk=>by
  show bindL kindOf ((p,w)::P.zip vs) m x=_;unfold bindL;exact Jy (i:=i) (List.nodup_cons.mp nd).2 (by simpa using h1) (by simpa using h2) hk
theorem Jz {kindOf:Str->Option NameKind}{x:Str}{v:Value}:∀{P:List Str} {vs:List Value} {i:Nat} {m:Str->Option Value},P.Nodup->P[i]?=some x->vs[i]?=some v->kindOf x≠some .local->
  bindC kindOf (P.zip vs) m x=some v
 | [],_,_,_,_,h,_,_=>by simp at h
 | _::_,[],_,_,_,_,h,_=>by simp at h
 | p::P,w::vs,0,m,nd,h1,h2,hk=>by
  simp at h1 h2;subst h1;subst h2;show bindC kindOf ((p,w)::P.zip vs) m p=_;unfold bindC;rw[Jx λv hv=>(List.nodup_cons.mp nd).1 (List.of_mem_zip hv).1,if_neg hk];simp
 | p::P,w::vs,i+1,m,nd,h1,h2,hk=>by
  show bindC kindOf ((p,w)::P.zip vs) m x=_;unfold bindC;exact Jz (i:=i) (List.nodup_cons.mp nd).2 (by simpa using h1) (by simpa using h2) hk
noncomputable def start (N:List Str) (vs:List V):St:=vs.map some++List.replicate (N.length - vs.length) none
noncomputable def iW (CX:uM) (P:Program) (w:World) (K:PySem.W.Frag) (mg:Str->Option Value) (base:Heap) (N:List Str) (qual:Str) (scope:Scope) (f:Addr) (cd:Value) (A:Around) (outer:List Env) (s:Shared) (H:Hp) (E:XK):Cx where
 prog:=P
 w:=w
 K:=K
 mg:=mg
 base:=base
 A:=A.deeper (envOfC qual scope s.heap.objs.size f cd)
 N:=N
 s₀:=s
 H₀:=H
 env:=envOfC qual scope s.heap.objs.size f cd
 outer:=outer
 stack:=envOfC qual scope s.heap.objs.size f cd::outer
 ex:=[]
 calm:=true
 fn:=λ_=>true
 pn:=[]
 xe:=λe s'=>wpAny (model P w) (A.deeper (envOfC qual scope s.heap.objs.size f cd)) (leaving (envOfC qual scope s.heap.objs.size f cd) e) (λ_ s''=>CX outer H s E e s'') (λe' s''=>CX outer H s E e' s'') s'
theorem Ly {sc:Scope}{n:Nat}{x:Str}(h:sc.names.lookup x=some .cell):∃c,(cellsFrom n sc.names []).lookup x=some c:=by
 have q:=PySem.W.cellsFrom_some sc.names n [] (.inl h);exact Option.isSome_iff_exists.mp q
theorem V5 {CX:uM}{P:Program}{w:World}{K:PySem.W.Frag}{mg:Str->Option Value}{base:Heap}{N ps:List Str}{qual:Str}{scope:Scope}{f:Addr}{cd:Value}{A:Around}{outer:List Env}{s s1:Shared}{H:Hp}{E:XK}{us:List Value}{vs:List V}
  (S:bw N ps scope) (hd:A.handled=none) (e0:Fq P w K mg base A outer s H) (hl:vs.length=ps.length) (r:Vals vs us)
  (x:InCallC s s.heap.objs.size (bindL (envOfC qual scope s.heap.objs.size f cd).kindOf (ps.zip us) λ_=>none) (cellsFrom (s.heap.objs.size+1) scope.names []) (bindC (envOfC qual scope s.heap.objs.size f cd).kindOf (ps.zip us) λ_=>none) s1):
  Inv (iW CX P w K mg base N qual scope f cd A outer s H E) [] (start N vs) H s1:=by
 have hpl:ps.length<=N.length:=by have:=congrArg List.length S.pre;rw[List.length_take]at this;omega
 obtain ⟨h1,tk,rfl,hk⟩:=x.done;have V6:∀b:Addr,b∉(iW CX P w K mg base N qual scope f cd A outer s H E).ex:=λb z=>absurd (show b∈([]:List Addr) from z) (by simp);refine ⟨⟨e0.mod,S.kind,rfl,rfl,Nat.le_refl _,λy z c h1 h2=>?_,λy hy=>?_,λy c _ h=>?_,λ_=>hd,Around.frames_deeper e0.frames,.inr ⟨rfl,rfl⟩,λb z=>absurd z (V6 b),e0.bs,e0.Eo,λb _ _=>V6 b,λb z=>absurd z (V6 b),e0.lZ,e0.Jv⟩,
  rfl,e0.bare,Un.kept hk,⟨_,x.toInCall.ns,λi y v h1 h2 h3=>?_⟩,λy c h=>⟨_,x.cell y c h⟩,e0.hok.fresh (Nat.le_refl _),λy c h=>?_,λp hp=>absurd (show p∈([]:List (Addr×Obj)) from hp) (by simp),e0.hok.kept hk,?_⟩
 ·exact name_of_addr x.apart (PySem.mem_of_lookup h1) (PySem.mem_of_lookup h2)
 ·have hy:scope.names.lookup y=some .cell\/scope.names.lookup y=some .free:=hy;rcases hy with hy | hy
  ·exact Ly hy
  ·exact absurd rfl (S.aen _ (PySem.mem_of_lookup hy))
 ·exact Nat.le_of_lt (x.above y c (PySem.mem_of_lookup h))
 ·have hi:i < vs.length:=by
   unfold start at h2;by_cases hi:i < vs.length
   ·exact hi
   ·rw[List.getElem?_append_right (by simpa using hi)]at h2;rw[List.getElem?_replicate]at h2;split at h2<;>cases h2
  have ha:vs[i]?=some v:=by
   unfold start at h2;rw[List.getElem?_append_left (by simpa using hi),List.getElem?_map]at h2;cases e:vs[i]? with
   | none=>rw[e]at h2;cases h2
   | some a=>rw[e]at h2;cases h2;rfl
  obtain ⟨u,hu,rv⟩:=r.get ha;have hp:ps[i]?=some y:=by
   rw[<-S.pre,List.getElem?_take_of_lt (by omega)];exact h1
  have ndP:ps.Nodup:=by rw[<-S.pre];exact S.nd.sublist (List.take_sublist _ _)
  refine ⟨u,rv,?_⟩;rcases S.par y (List.mem_of_getElem? hp) with k | k
  ·exact .inl ⟨k,Jy ndP hp hu k⟩
  ·obtain ⟨c,e⟩:=Ly (n:=s.heap.objs.size+1) k;refine .inr ⟨.inl k,c,e,?_⟩;have q:=x.cell y c e;rw[Jz ndP hp hu (by show scope.names.lookup y≠_;rw[k];decide)]at q;exact q
 ·exact e0.hok.fresh (Nat.le_of_lt (x.above y c (PySem.mem_of_lookup h)))
 ·unfold start;show _=N.length;rw[List.length_append,List.length_map,List.length_replicate];omega
theorem RG {CX:uM}{P:Program}{w:World}{K:PySem.W.Frag}{mg:Str->Option Value}{base:Heap}{k:Nat}{f:Addr}{name qual:Str}{params:Arguments}{body:List Stmt}{scope:Scope}{dV kV doc pm cdv ct oc:Value}{an od:Option Addr}
  {osl:Array (Option Value)} {N ps:List Str} {sp:Sp} (lk:K.lookup f=some ⟨oc,od,.func (PySem.W.fnOf name qual params body scope dV kV doc pm an cdv ct),osl⟩) (hcd:PySem.W.codeIn K cdv qual=true) (S:bw N ps scope)
  (len:∀vs H Q E,sp vs H Q E->vs.length=ps.length)
  (hbody:∀(A:Around) (outer:List Env) (s:Shared) (H:Hp) (vs:List V) (Q:VK) (E:XK),cR k (A.deeper (envOfC qual scope s.heap.objs.size f cdv))->sp vs H Q E->
   ∃t,lX (iW CX P w K mg base N qual scope f cdv A outer s H E) body t/\t {nx:=λ_ H'=>Q .non H',rt:=Q} (start N vs) H):
  aX P w K mg base CX (k+1) f (PySem.W.fnOf name qual params body scope dV kV doc pm an cdv ct) ps sp:=by
 refine ⟨len,λA outer s H args us vs Q E hr e0 hb r hsp=>?_⟩;have hl:=len _ _ _ _ hsp;have KX:K.In s.heap:=e0.mod.El.keeps λb o e=>(e0.bs b o e).1;have lim:s.heap.NoLimit:=e0.mod.nolimit.keeps λb o e=>(e0.bs b o e).1;have hkind:∀y∈ps.zip us,scope.names.lookup y.1=some .local\/(scope.names.lookup y.1=some .cell/\((cellsFrom (s.heap.objs.size+1) scope.names []).lookup y.1).isSome=true):=λ⟨n,v⟩ hy=>by
  rcases S.par n (List.of_mem_zip hy).1 with q | q
  ·exact .inl q
  ·exact .inr ⟨q,PySem.W.cellsFrom_some _ _ _ (.inl q)⟩
 refine codeAny_call_function hr.depth (KX _ _ lk) rfl S.co S.gen rfl (PySem.W.codeRec_of KX hcd) (hb _ _ _ _ ?_);refine wpAny_newFunctionEnv_cells S.kind hkind λenv he s1 x=>?_;subst he;refine ⟨lim.keeps x.toInCall.keep,codeAny_func ?_⟩;obtain ⟨t,ht,hq⟩:=hbody A outer s H vs Q E (hr.deeper _) hsp;have I:Inv (iW CX P w K mg base N qual scope f cdv A outer s H E) [] (start N vs) H s1:=V5 S hr.hd e0 hl r x;refine wpAny_mono (ht [] s1 (start N vs) H _ I hq) (λfl s' hs=>?_) λe s' hs=>hs;have fin:∀{σ':St} {H':Hp} {v:V} {u:Value},Inv (iW CX P w K mg base N qual scope f cdv A outer s H E) [] σ' H' s'->RelV v u->Q v H'->CE outer P w H s Q u s':=
  λ{σ' H' v u} J rv q=>⟨v,H',J.os,J.bare,J.base,J.hok,rv,q⟩
 cases fl with
 | ret u=>
  obtain ⟨v,σ',H',J,rv,q⟩:=hs;exact fin J rv q
 | next=>
  obtain ⟨σ',H',J,q⟩:=hs;exact fin (v:=V.non) (u:=Value.none) J rfl q
 | brk=>
  obtain ⟨_,_,_,q⟩:=hs;exact False.elim q
 | cont=>
  obtain ⟨_,_,_,q⟩:=hs;exact False.elim q
end L2
namespace L2
open PySem PySem.Spec PyProof.Rows
section
variable {X:Cx}{x:Str}{p pos:Pos}{e:Expr}{es:List Expr}{t:TA}{id T:String}{r:List V->Hp->VK->Prop}
noncomputable def tCB (r:List V->Hp->VK->Prop) (t:TA):TE:=λσ H Q=>t σ H λvs H1=>r vs H1 Q
theorem wg (hc:eV X (.builtin id) r)(hg:Gl X x)(hm:X.mg x=none)(hv:bootBuiltins x=some (.builtin id))(ha:PA X (e::es) t)(hn:x≠"__name__":=by decide)(hdb:(x == ("__debug__":Str))=false:=by decide)
  (he:starEach (e::es) X.env=(false,eval e X.env)::starEach es X.env:=by rfl) (hpl:(backTo pos (starEach es X.env)).any (·.1)=false:=by rfl):PE X (.Call (.Name x p) (e::es) [] pos) (tCB r t):=by
 intro pins s σ H Q I h;refine wpAny_Call_Name_kw (uJ I hg hm hv ?_ hn hdb);exact PyProof.Rows.callWith_builtin1 (bI (ha pos pins s σ H _ I h) λus s1 ⟨vs,H1,I1,r1,q1⟩=>hc pins s1 σ H1 vs us Q I1 r1 q1) he hpl
theorem JB (hc:eV X (.type T) r)(hg:Gl X x)(hm:X.mg x=none)(hv:bootBuiltins x=some (.type T))(ha:PA X (e::es) t)(hn:x≠"__name__":=by decide)(hdb:(x == ("__debug__":Str))=false:=by decide)
  (he:starEach (e::es) X.env=(false,eval e X.env)::starEach es X.env:=by rfl) (hpl:(backTo pos (starEach es X.env)).any (·.1)=false:=by rfl):PE X (.Call (.Name x p) (e::es) [] pos) (tCB r t):=by
 intro pins s σ H Q I h;refine wpAny_Call_Name_kw (uJ I hg hm hv ?_ hn hdb);exact PyProof.Rows.callWith_type1 (bI (ha pos pins s σ H _ I h) λus s1 ⟨vs,H1,I1,r1,q1⟩=>hc pins s1 σ H1 vs us Q I1 r1 q1) he hpl
end
end L2
namespace HT
open PySem PyProof.Rows
section
open PySem.SeqAt
open PySem.AutoSeq1 (wpAny_loadPart')
open PySem.MeetsSeq PySem.MeetsSeq2 PySem.MeetsSeq3
end
section
variable {prog:Program}{w:World}{A:Around}{E:Value->Shared->Prop}{s:Shared}
theorem abS {t b:Addr}{vs ws:List Value}{Q:Value->Shared->Prop}(ht:IsTup s.heap t vs.toArray)(hb:IsTup s.heap b ws.toArray)(hv:vs≠[])
  (h1:ws=[]->Q (.ref t) s) (h2:ws≠[]->Q (.ref s.heap.objs.size) {s with heap:=s.heap.push {cls:=.type "tuple",data:=.seq (vs++ws).toArray}})
  (hsz:vs.length+ws.length<=sizeLine):wpAny (model prog w) A (binaryOp .Add (.ref t) (.ref b)) Q E s:=by
 obtain ⟨⟨cls,dd,data,sl⟩,ho,hc,n,hd⟩:=id ht;obtain ⟨⟨cls2,dd2,data2,sl2⟩,ho2,hc2,n2,hd2⟩:=id hb;simp only at hc hd hc2 hd2;subst hc hd hc2 hd2;have e:vs.toArray++ws.toArray=(vs++ws).toArray:=by simp
 by_cases hw:ws=[]
 ·exact concat_meets ⟨_,ho,rfl⟩ ⟨_,ho2,rfl⟩ noFill_tuple_add seq_tuple_add PySem.F.slot_tuple_add PySem.F.entry_tuple_add (PySem.F.args_tuple_add_2 _ _)
   (tuple_addW1 t b vs.toArray ws.toArray n n2 dd dd2 sl sl2 (by simpa using hv) (by simp[hw])) ⟨ho,ho2,h1 hw⟩
 ·refine concat_meets ⟨_,ho,rfl⟩ ⟨_,ho2,rfl⟩ noFill_tuple_add seq_tuple_add PySem.F.slot_tuple_add PySem.F.entry_tuple_add (PySem.F.args_tuple_add_2 _ _)
   (tuple_addW2 t b vs.toArray ws.toArray n n2 dd dd2 sl sl2 (by simpa using hv) (by simpa using hw) (by rw[List.size_toArray,List.size_toArray];exact hsz)) ⟨ho,ho2,?_⟩
  rw[e];exact h2 hw
noncomputable def bL (n d:Nat):Option Int->Nat
 | none=>d
 | some v=>if v < 0 then (v+(n:Int)).toNat else min v.toNat n
theorem Gp (n d:Nat)(hd:d<=n)(o:Option Int):bL n d o<=n:=by
 cases o with
 | none=>exact hd
 | some v=>
  show (if v < 0 then (v+(n:Int)).toNat else min v.toNat n)<=n;by_cases hv:v < 0
  ·rw[if_pos hv];omega
  ·rw[if_neg hv];exact Nat.min_le_right _ _
theorem Qc (v:Int)(n d:Nat):(if v < 0 then max (v+(n:Int)) 0 else min v (n:Int))=((bL n d (some v):Nat):Int):=by
 show (if v < 0 then max (v+(n:Int)) 0 else min v (n:Int))=(((if v < 0 then (v+(n:Int)).toNat else min v.toNat n):Nat):Int);by_cases hv:v < 0
 ·simp only[if_pos hv];omega
 ·simp only[if_neg hv];omega
theorem RJ (lo hi:Option Int)(n:Nat):Builtin.Slice.sliceAdjust lo hi 1 (n:Int)=(((bL n 0 lo:Nat):Int),((bL n n hi:Nat):Int)):=by
 have h1:¬((1:Int) < 0):=by omega
 unfold Builtin.Slice.sliceAdjust;simp only[h1,if_false];refine Prod.ext ?_ ?_
 ·cases lo with
  | none=>rfl
  | some v=>exact Qc v n 0
 ·cases hi with
  | none=>rfl
  | some v=>exact Qc v n n
theorem RK (i j:Nat):Builtin.Slice.slicePlaces (i:Int) (j:Int) 1=j - i:=by
 unfold Builtin.Slice.slicePlaces;have h1:(1:Int) > 0:=by omega
 simp only[h1,if_true,Int.ediv_one];split<;>omega
theorem Gq {v:Value}{o:Option Int}{Q:Option Int->Shared->Prop}(p:IsPart v o)(h:Q o s):wpAny (model prog w) A (Builtin.Slice.slicePartIndex v) Q E s:=by
 cases p with
 | none=>exact slicePart_none h
 | int i t=>exact slicePart_int h
theorem Ft {sl:Addr}{vl vu:Value}{lo hi:Option Int}{n:Nat}{Q:Int×Int×Nat->Shared->Prop}(hs:s.heap.IsSliceOf sl vl vu .none)(pl:IsPart vl lo)(pu:IsPart vu hi)
  (h:Q (((bL n 0 lo:Nat):Int),1,bL n n hi - bL n 0 lo) s):wpAny (model prog w) A (Builtin.Slice.sliceApplied (.ref sl) (pure (n:Int))) Q E s:=by
 obtain ⟨os,hos,hcs,hds⟩:=id hs;unfold Builtin.Slice.sliceApplied Builtin.Slice.sliceFields;refine wpAny_bind (wpAny_bind (wpAny_field hos hds (x:=vl) rfl (wpAny_bind (wpAny_field hos hds (x:=vu) rfl (wpAny_bind (wpAny_field hos hds (x:=.none) rfl (wpAny_pure ?_)))))));refine wpAny_bind (slicePart_none ?_);show wpAny _ _ (if ((1:Int) == 0)=true then _ else _) _ _ s;rw[if_neg (by decide)];refine wpAny_bind (Gq pl (wpAny_bind (Gq pu (wpAny_bind (wpAny_pure ?_)))));show wpAny _ _ (match Builtin.Slice.sliceAdjust lo hi 1 (n:Int) with | (lo,hi)=>pure (lo,(1:Int),Builtin.Slice.slicePlaces lo hi 1)) _ _ s;rw[RJ lo hi n];show wpAny _ _ (pure (((bL n 0 lo:Nat):Int),(1:Int),Builtin.Slice.slicePlaces ((bL n 0 lo:Nat):Int) ((bL n n hi:Nat):Int) 1)) _ _ s;rw[RK];exact wpAny_pure h
theorem Yx (xs:Array Value)(i k:Nat):((List.range k).filterMap λ(m:Nat)=>xs[((i:Int)+(m:Int) * 1).toNat]?).toArray=((xs.toList.drop i).take k).toArray:=by
 have e:(λ(m:Nat)=>xs[((i:Int)+(m:Int) * 1).toNat]?)=λm=>xs[i+m]?:=by
  funext m;have:((i:Int)+(m:Int) * 1).toNat=i+m:=by omega
  rw[this]
 rw[e];have:=pick_run xs i k;rw[List.filterMap_map]at this;have e2:((λx=>xs[x]?) ∘ λx=>i+x)=λm=>xs[i+m]?:=rfl;rw[e2]at this;rw[this]
theorem Eh {t sl:Addr}{items:Array Value}{vl vu:Value}{lo hi:Option Int}{Q:Value->Shared->Prop}(ht:IsTup s.heap t items)(hs:s.heap.IsSliceOf sl vl vu .none)(pl:IsPart vl lo)(pu:IsPart vu hi)
  (hw:¬(bL items.size 0 lo=0/\bL items.size items.size hi=items.size))
  (h:Q (.ref s.heap.objs.size) {s with heap:=s.heap.push {cls:=.type "tuple",data:=.seq ((items.toList.drop (bL items.size 0 lo)).take (bL items.size items.size hi - bL items.size 0 lo)).toArray}})
  (hsz:items.size<=sizeLine):wpAny (model prog w) A (getItem (.ref t) (.ref sl)) Q E s:=by
 have KH:sizeOk (.seq ((items.toList.drop (bL items.size 0 lo)).take (bL items.size items.size hi - bL items.size 0 lo)).toArray):=by
  show ((items.toList.drop (bL items.size 0 lo)).take (bL items.size items.size hi - bL items.size 0 lo)).toArray.size<=sizeLine;rw[List.size_toArray,List.length_take,List.length_drop,Array.length_toList];omega
 have hj:bL items.size items.size hi<=items.size:=Gp _ _ (Nat.le_refl _) hi;obtain ⟨os,hos,hcs,hds⟩:=id hs;have hTs:s.TypeIs (.ref sl) "slice":=⟨os,hos,hcs⟩
 unfold getItem
 try with_reducible refine wpAny_holding ?_
 first | refine wpAny_bind (wpAny_pure ?_) | skip
 refine wpAny_bind (wpAny_sequenceKey ht.typeIs (by decide) ?_);refine wpAny_bind (wpAny_callSpecial?_slot (name:=Str.ofString "__getitem__") ht.typeIs PyProof.Rows.slot_tuple_getitem
  (wpAny_call_entry PyProof.Rows.slot_tuple_getitem ht.typeIs entry_tuple_getitem ?_ (args_tuple_getitem _ _)))
 show wpAny _ _ (Builtin.Tuple.tupleItemsOf (.ref t) >>= _) _ _ s;refine wpAny_bind (tupleItemsOf_ ht ?_);refine wpAny_bind (wpAny_typeOf hTs ?_);rw[if_pos (by decide)];refine wpAny_bind (Ft hs pl pu ?_);have hno:¬((((bL items.size 0 lo:Nat):Int) == 0 && (1:Int) == 1 && (bL items.size items.size hi - bL items.size 0 lo) == items.size)=true):=by
  intro q;rw[Bool.and_eq_true,Bool.and_eq_true]at q;have q1:((bL items.size 0 lo:Nat):Int)=0:=eq_of_beq q.1.1;have q2:bL items.size items.size hi - bL items.size 0 lo=items.size:=eq_of_beq q.2;exact hw ⟨by omega,by omega⟩
 show wpAny _ _ (if (((bL items.size 0 lo:Nat):Int) == 0 && (1:Int) == 1 && (bL items.size items.size hi - bL items.size 0 lo) == items.size)=true then _ else _) _ _ s;rw[if_neg hno,Yx]
 first
  | exact wpAny_bind (m:=Builtin.Tuple.tupleExact _) (wpAny_newObj_type (wpAny_pure ⟨_,rfl,wpAny_pure h⟩) KH)
  | exact wpAny_bind (m:=Builtin.Tuple.tupleExact _) (wpAny_newObj_type (wpAny_bind (wpAny_pure (wpAny_pure ⟨_,rfl,wpAny_pure h⟩))) KH)
  | exact wpAny_bind (wpAny_bind (m:=Builtin.Tuple.tupleExact _) (wpAny_newObj_type (wpAny_pure (wpAny_pure ⟨_,rfl,wpAny_pure h⟩)) KH))
  | exact wpAny_bind (wpAny_bind (m:=Builtin.Tuple.tupleExact _) (wpAny_newObj_type (wpAny_pure ⟨_,rfl,wpAny_pure h⟩) KH))
end
end HT
namespace L2
open PySem PySem.Spec PyProof.Rows
noncomputable abbrev TO:=St->Hp->(Option Int->Hp->Prop)->Prop
noncomputable def PO (X:Cx) (e:Option Expr) (t:TO):Prop:=
 ∀(pins:List (Addr×Obj)) (s:Shared) (σ:St) (H:Hp) (Q:Option Int->Hp->Prop),Inv X pins σ H s->t σ H Q->
  wpAny (model X.prog X.w) X.A (evalPart e X.env) (λu s'=>∃o H',Inv X pins σ H' s'/\IsPart u o/\Q o H') X.xe s
noncomputable def abT:TO:=λ_ H Q=>Q none H
noncomputable def aik (t:TE):TO:=λσ H Q=>t σ H λx H1=>∃i,x=.int i/\Q (some i) H1
section
variable {X:Cx}{e:Expr}{te:TE}{lo hi:Option Expr}{tl th:TO}{pos p2:Pos}
theorem Qd:PO X none abT:=by
 intro pins s σ H Q I h;rw[evalPart_none];exact wpAny_pure ⟨none,H,I,.none,h⟩
theorem Dv (h:PE X e te):PO X (some e) (aik te):=by
 intro pins s σ H Q I hw;rw[evalPart_some];refine bI (h pins s σ H _ I hw) λu s1 ⟨x,H1,I1,r1,q1⟩=>?_;obtain ⟨i,rfl,q⟩:=q1;obtain ⟨t,rfl⟩:=r1;exact ⟨some i,H1,I1,.int i t,q⟩
noncomputable def wY (X:Cx) (r:V->Option Int->Option Int->Hp->VK->Prop):Prop:=
 ∀(pins:List (Addr×Obj)) (s:Shared) (σ:St) (H:Hp) (x:V) (v vl vu:Value) (lo hi:Option Int) (sl:Addr) (Q:VK),Inv X pins σ H s->RelV x v->s.heap.IsSliceOf sl vl vu .none->IsPart vl lo->IsPart vu hi->r x lo hi H Q->
  ∃T id,typeLookup (.type T) "__getitem__"=pure (some (.builtin id))/\s.TypeIs v T/\wpAny (model X.prog X.w) X.A (getItem v (.ref sl)) (EP X pins σ Q) X.xe s
theorem wY.or {r r':V->Option Int->Option Int->Hp->VK->Prop}(h:wY X r)(h':wY X r'):wY X (λx lo hi H Q=>r x lo hi H Q\/r' x lo hi H Q):=by
 intro pins s σ H x v vl vu lo hi sl Q I rx hs pl pu q;rcases q with q | q
 ·exact h pins s σ H x v vl vu lo hi sl Q I rx hs pl pu q
 ·exact h' pins s σ H x v vl vu lo hi sl Q I rx hs pl pu q
noncomputable def tSl (r:V->Option Int->Option Int->Hp->VK->Prop) (te:TE) (tl th:TO):TE:=λσ H Q=>te σ H λx H1=>tl σ H1 λl H2=>th σ H2 λu H3=>r x l u H3 Q
theorem Fv {r:V->Option Int->Option Int->Hp->VK->Prop}(hr:wY X r)(he:PE X e te)(hl:PO X lo tl)(hu:PO X hi th):PE X (.Subscript e (.Slice lo hi none p2) pos) (tSl r te tl th):=by
 intro pins s σ H Q I h;refine Subscript_ (bI (he pins s σ H _ I h) λv s1 ⟨x,H1,I1,r1,q1⟩=>?_);refine wpAny_Slice (bI (hl pins s1 σ H1 _ I1 q1) λvl s2 ⟨l,H2,I2,pl,q2⟩=>bI (hu pins s2 σ H2 _ I2 q2) λvu s3 ⟨u,H3,I3,pu,q3⟩=>?_);rw[evalPart_none];refine wpAny_pure ?_;have I4:Inv X pins σ H3 {s3 with heap:=s3.heap.push {cls:=.type "slice",data:=.fields #[vl,vu,.none]}}:=I3.kept (t':=s3.toks) λb ob q=>Heap.get?_push_of_some _ q;obtain ⟨T,id,hT,ht,hg⟩:=hr pins {s3 with heap:=s3.heap.push {cls:=.type "slice",data:=.fields #[vl,vu,.none]}} σ H3 x v vl vu l u s3.heap.objs.size Q I4 r1 (Heap.IsSliceOf.new ..) pl pu q3;show wpAny (model X.prog X.w) X.A (subscriptTail e (.Slice lo hi none p2) v (.ref s3.heap.objs.size)) (EP X pins σ Q) X.xe {s3 with heap:=s3.heap.push {cls:=.type "slice",data:=.fields #[vl,vu,.none]}};exact tail_any (ops:=[.ref s3.heap.objs.size,v]) ht hT hg (by with_unfolding_all rfl)
noncomputable def wj (xs:List V) (lo hi:Option Int):List V:=(xs.drop (HT.bL xs.length 0 lo)).take (HT.bL xs.length xs.length hi - HT.bL xs.length 0 lo)
theorem Ep (xs:List V)(lo hi:Option Int):(wj xs lo hi).length<=xs.length:=by
 unfold wj;rw[List.length_take,List.length_drop];omega
noncomputable def alS (K:PySem.W.Frag):V->Option Int->Option Int->Hp->VK->Prop:=λx lo hi H Q=>∃a xs,x=.ref a/\fQ K H a xs/\
 ¬(HT.bL xs.length 0 lo=0/\HT.bL xs.length xs.length hi=xs.length)/\∀p,H p=none->Q (.ref p) (upd H p (.tup (wj xs lo hi)))
theorem aeo:wY X (alS X.K):=by
 intro pins s σ H x v vl vu lo hi sl Q I rx hs pl pu h;obtain ⟨a,xs,rfl,hx,hw,q⟩:=h;cases rx;obtain ⟨its,r,ht,hz⟩:=I.tuple hx;have hlen:its.toArray.size=xs.length:=by rw[List.size_toArray];exact r.length.symm
 refine ⟨"tuple",_,PyProof.Rows.slot_tuple_getitem.lookup,ht.typeIs,?_⟩;refine HT.Eh ht hs pl pu (by rw[hlen];exact hw) ?_ (by rw[hlen];exact hz);rw[hlen];refine ⟨.ref s.heap.objs.size,_,I.laid (t':=s.toks) (o:=.tup (wj xs lo hi)) (λb ob q=>Heap.get?_push_of_some _ q) (Nat.le_refl _) ?_,rfl,q _ (I.hok.fresh (Nat.le_refl _))⟩;exact ⟨Nat.le_trans (Ep xs lo hi) hz,_,(r.drop (HT.bL xs.length 0 lo)).take (HT.bL xs.length xs.length hi - HT.bL xs.length 0 lo),z7.new _ _⟩
noncomputable def ail (K:PySem.W.Frag):R2:=λx y H Q=>∃a b xs ys,x=.ref a/\y=.ref b/\fQ K H a xs/\fQ K H b ys/\xs≠[]/\xs.length+ys.length<=sizeLine/\
 (ys=[]->Q (.ref a) H)/\(ys≠[]->∀p,H p=none->Q (.ref p) (upd H p (.tup (xs++ys))))
theorem Vals.H_ {xs:List V}{us:List Value}(r:Vals xs us):us=[]↔xs=[]:=by
 cases r with
 | nil=>simp
 | cons _ _=>simp
theorem abU:bT X (binaryOp .Add) (ail X.K):=by
 intro pins s σ H x y v u Q I rx ry h;obtain ⟨a,b,xs,ys,rfl,rfl,ha,hb,hx,hz,q1,q2⟩:=h;cases rx;cases ry;obtain ⟨its,r1,p1,_⟩:=I.tuple ha;obtain ⟨its2,r2,p2,_⟩:=I.tuple hb;refine HT.abS p1 p2 (λz=>hx (r1.H_.mp z)) (λz=>⟨.ref a,H,I,rfl,q1 (r2.H_.mp z)⟩) (λz=>?_) (by rw[<-r1.length,<-r2.length];exact hz);refine ⟨.ref s.heap.objs.size,_,I.laid (t':=s.toks) (o:=.tup (xs++ys)) (λb ob q=>Heap.get?_push_of_some _ q) (Nat.le_refl _) ?_,rfl,q2 (λw=>z (r2.H_.mpr w)) _ (I.hok.fresh (Nat.le_refl _))⟩;exact ⟨by rw[List.length_append];exact hz,_,r1.append r2,z7.new _ _⟩
end
end L2
namespace L2
open PySem PySem.Spec PyProof.Rows
noncomputable def kh (n:Nat) (i:Int):Option Nat:=if 0<=i then (if i < n then some i.toNat else none) else if -(n:Int)<=i then some (i+n).toNat else none
noncomputable def cB {α:Type} (xs:List α) (i:Int):Option α:=(kh xs.length i).bind λj=>xs[j]?
theorem Qe {n:Nat}{i:Int}{j:Nat}(h:kh n i=some j):seqIndex? i n=some j/\j < n/\-(n:Int)<=i/\i < n:=by
 unfold kh at h;by_cases h0:0<=i
 ·rw[if_pos h0]at h;by_cases h1:i < n
  ·rw[if_pos h1]at h;have e:i.toNat=j:=Option.some.inj h;exact ⟨by rw[seqIndex_of h0 h1,e],by omega,by omega,h1⟩
  ·rw[if_neg h1]at h;cases h
 ·rw[if_neg h0]at h;by_cases h1:-(n:Int)<=i
  ·rw[if_pos h1]at h;have e:(i+n).toNat=j:=Option.some.inj h;exact ⟨by rw[seqIndex_neg (by omega) h1,e],by omega,h1,by omega⟩
  ·rw[if_neg h1]at h;cases h
theorem Ia {α:Type}{xs:List α}{i:Int}{v:α}(h:cB xs i=some v):∃j,seqIndex? i xs.length=some j/\xs[j]?=some v/\j < xs.length/\-(xs.length:Int)<=i/\i < xs.length:=by
 unfold cB at h;cases e:kh xs.length i with
 | none=>rw[e]at h;cases h
 | some j=>
  rw[e]at h;obtain ⟨h1,h2,h3,h4⟩:=Qe e;exact ⟨j,h1,h,h2,h3,h4⟩
noncomputable def uN (b:Expr):Prop:=∀o i,subscripted b false o i=operate [o,i] (getItem o i)
noncomputable def uO (X:Cx) (r:R2):Prop:=
 ∀(value slice:Expr) (pins:List (Addr×Obj)) (s:Shared) (σ:St) (H:Hp) (x y:V) (v u:Value) (Q:VK),Inv X pins σ H s->RelV x v->RelV y u->r x y H Q->
  subscripted slice false v u=operate [v,u] (getItem v u)->wpAny (model X.prog X.w) X.A (subscriptTail value slice v u) (EP X pins σ Q) X.xe s
noncomputable def uP (X:Cx) (id:String) (r:V->List V->Hp->VK->Prop):Prop:=
 ∀(pins:List (Addr×Obj)) (s:Shared) (σ:St) (H:Hp) (x:V) (xs:List V) (v:Value) (us:List Value) (Q:VK),Inv X pins σ H s->RelV x v->Vals xs us->r x xs H Q->
  wpAny (model X.prog X.w) X.A (call (.builtin id) (v::us)) (EP X pins σ Q) X.xe s
section
variable {X:Cx}{a b:Expr}{ta tb:TE}{pos:Pos}
theorem uO.or {r r':R2}(h:uO X r)(h':uO X r'):uO X (λx y H Q=>r x y H Q\/r' x y H Q):=by
 intro value slice pins s σ H x y v u Q I rx ry q hs;rcases q with q | q
 ·exact h value slice pins s σ H x y v u Q I rx ry q hs
 ·exact h' value slice pins s σ H x y v u Q I rx ry q hs
theorem aaO {r:R2}(hr:uO X r)(ha:PE X a ta)(hb:PE X b tb)(hs:uN b):PE X (.Subscript a b pos) (tOp r ta tb):=by
 intro pins s σ H Q I h;exact Subscript_ (Yq ha hb I h λv u s2 x y H2 I2 rx ry q=>hr a b pins s2 σ H2 x y v u Q I2 rx ry q (hs _ _))
noncomputable def aep (K:PySem.W.Frag):R2:=λx y H Q=>∃p xs i v,x=.ref p/\y=.int i/\g_ K H p xs/\cB xs i=some v/\Q v H
noncomputable def aer (K:PySem.W.Frag):R2:=λx y H Q=>∃p xs i v,x=.ref p/\y=.int i/\fQ K H p xs/\cB xs i=some v/\Q v H
noncomputable def aes:R2:=λx y H Q=>∃z i c,x=.str z/\y=.int i/\z.length<=sizeLine/\cB z.cps.toList i=some c/\Q (.str ⟨#[c]⟩) H
theorem abV:uO X (aep X.K):=by
 intro value slice pins s σ H x y v u Q I rx ry h hs;obtain ⟨p,xs,i,z,rfl,rfl,hq,he,q⟩:=h;cases rx;obtain ⟨t,rfl⟩:=ry;obtain ⟨its,r,pl,hz⟩:=I.list hq;obtain ⟨j,h1,h2,h3,h4,h5⟩:=Ia he;obtain ⟨w,ew,Ac⟩:=r.get h2;have hl:=r.length;have hn:=uL;have fin:EP X pins σ Q w s:=⟨z,H,I,Ac,q⟩
 by_cases h0:0<=i
 ·have hj:i.toNat=j:=by
   rw[seqIndex_of h0 h5]at h1;exact Option.some.inj h1
  exact item_listR pl.isList h0 (by omega) (by rw[hj];simpa using ew) fin hs
 ·have hj:(i+(its.toArray.size:Int)).toNat=j:=by
   rw[seqIndex_neg (by omega) h4]at h1;rw[List.size_toArray,<-hl];exact Option.some.inj h1
  exact subscriptTail_builtinR (x:=w) pl.isList.typeIs slot_list_getitem.lookup
   (wpAny_getItem_list_neg (Q:=λr s'=>r=w/\EP X pins σ Q r s') pl.isList (by omega) (by rw[List.size_toArray]<;>omega) (by omega) (by rw[hj];simpa using ew) ⟨rfl,fin⟩) hs
theorem aeu:uO X (aer X.K):=by
 intro value slice pins s σ H x y v u Q I rx ry h hs;obtain ⟨p,xs,i,z,rfl,rfl,hq,he,q⟩:=h;cases rx;obtain ⟨t,rfl⟩:=ry;obtain ⟨its,r,pl,hz⟩:=I.tuple hq;obtain ⟨j,h1,h2,h3,h4,h5⟩:=Ia he;obtain ⟨w,ew,Ac⟩:=r.get h2;have hl:=r.length;have hn:=uL;have fin:EP X pins σ Q w s:=⟨z,H,I,Ac,q⟩
 exact subscriptTail_builtinR (x:=w) pl.typeIs slot_tuple_getitem.lookup
  (getItem_tuple (j:=j) (Q:=λr s'=>r=w/\EP X pins σ Q r s') pl (by omega) (by omega) (by rw[List.size_toArray,<-hl];exact h1) (by simpa using ew) ⟨rfl,fin⟩) hs
theorem aev:uO X aes:=by
 intro value slice pins s σ H x y v u Q I rx ry h hs;obtain ⟨z,i,c,rfl,rfl,hz,he,q⟩:=h;obtain ⟨t,rfl⟩:=rx;obtain ⟨t',rfl⟩:=ry;obtain ⟨j,h1,h2,h3,h4,h5⟩:=Ia he;have hl:z.cps.toList.length=z.length:=by simp[Str.length]
 rw[hl]at h1 h4 h5;have hn:=uL;exact tail_any (typeIs_str s z t) slot_str_getitem.lookup (getItem_str (c:=c) (by
  have e1:decide (i < -(2 ^ 63:Int))=false:=decide_eq_false (by omega);have e2:decide (i ≥ 2 ^ 63)=false:=decide_eq_false (by omega);rw[e1,e2,Bool.or_false]) (by rw[h1];simpa using h2) ⟨.str ⟨#[c]⟩,H,I.tok _,⟨_,rfl⟩,q⟩) hs
noncomputable def rIx (K:PySem.W.Frag):R2:=λx y H Q=>aep K x y H Q\/aer K x y H Q\/aes x y H Q
theorem Gr:uO X (rIx X.K):=abV.or (aeu.or aev)
theorem RL (its:List Value)(n j:Nat)(u:Value):Obj.mapSeq (·.setIfInBounds j u) {cls:=.type "list",data:=.seq its.toArray n}={cls:=.type "list",data:=.seq (its.set j u).toArray n}:=by
 simp[Obj.mapSeq]
theorem Inv.lst {pins:List (Addr×Obj)}{σ:St}{H:Hp}{s:Shared}{p:Addr}{xs:List V}(I:Inv X pins σ H s)(h:H p=some (.lst xs)):
  ∃(its:List Value) (n:Nat),Vals xs its/\s.heap.get? p=some {cls:=.type "list",data:=.seq its.toArray n}/\xs.length<=sizeLine:=by
 obtain ⟨z,its,n,r,e⟩:=I.hok p _ h;exact ⟨its,n,r,e,z⟩
theorem Inv.aew {pins:List (Addr×Obj)}{σ:St}{H:Hp}{s:Shared}{p:Addr}{xs ys:List V}{its its':List Value}{n n':Nat}{f:Obj->Obj}(I:Inv X pins σ H s)(h:H p=some (.lst xs))
  (ho:s.heap.get? p=some {cls:=.type "list",data:=.seq its.toArray n}) (hf:f {cls:=.type "list",data:=.seq its.toArray n}={cls:=.type "list",data:=.seq its'.toArray n'}) (r:Vals ys its') (hz:ys.length<=sizeLine) (t:Nat):
  Inv X pins σ (upd H p (.lst ys)) {s with heap:=s.heap.update p f,toks:=t}:=by
 have e:(s.heap.update p f).get? p=some {cls:=.type "list",data:=.seq its'.toArray n'}:=by
  rw[Heap.get?_update_self f ho (by rw[hf]<;>rfl),hf]
 refine I.write (x:=p) (e:=p) (by rw[h];trivial) (.inl rfl) (λb u hb q=>(Heap.get?_update_other _ _ (Ne.symm hb)).trans q) ⟨_,e⟩ ?_;exact ⟨hz,its',n',r,e⟩
noncomputable def ain:V->V->V->Hp->(Hp->Prop)->Prop:=λo i v H Q=>∃p xs k j,o=.ref p/\i=.int k/\H p=some (.lst xs)/\kh xs.length k=some j/\Q (upd H p (.lst (xs.set j v)))
theorem set_list:v8 X ain:=by
 intro pins s σ H o i v ov iv u Q I ro ri rv h;obtain ⟨p,xs,k,j,rfl,rfl,hp,hj,q⟩:=h;cases ro;obtain ⟨t,rfl⟩:=ri;obtain ⟨its,n,r,ho,hz⟩:=I.lst hp;obtain ⟨h1,h2,h3,h4⟩:=Qe hj;have hl:=r.length;have hn:=uL;have I':Inv X pins σ (upd H p (.lst (xs.set j v))) {s with heap:=s.heap.update p (Obj.mapSeq (·.setIfInBounds j u))}:=
  I.aew hp ho (RL its n j u) (r.set rv j) (by rw[List.length_set];exact hz) s.toks
 by_cases h0:0<=k
 ·have hk:k.toNat=j:=by
   rw[seqIndex_of h0 h4]at h1;exact Option.some.inj h1
  exact PySem.W.ki_setAt ho h0 (by omega) (by rw[List.size_toArray,<-hl];exact h4) (by rw[hk];exact ⟨_,I',q⟩)
 ·have hk:(k+(its.toArray.size:Int)).toNat=j:=by
   rw[seqIndex_neg (by omega) h3]at h1;rw[List.size_toArray,<-hl];exact Option.some.inj h1
  exact PySem.W.ki_setBack ho (by omega) (by rw[List.size_toArray,<-hl];exact h3) (by omega) (by rw[hk];exact ⟨_,I',q⟩)
theorem Lz (lo hi:Option Int)(n:Nat):(sliceBounds lo hi none n).1=((HT.bL n 0 lo:Nat):Int)/\(sliceBounds lo hi none n).2.1=((HT.bL n n hi:Nat):Int)/\(sliceBounds lo hi none n).2.2=1:=by
 refine ⟨?_,?_,rfl⟩
 ·cases lo with
  | none=>simp[sliceBounds,HT.bL]
  | some i=>
   simp only[sliceBounds,HT.bL,Option.getD_none,show (1:Int) > 0 by decide,if_true];by_cases h:i < 0
   ·simp only[h,if_true]<;>omega
   ·simp only[h,if_false]<;>omega
 ·cases hi with
  | none=>simp[sliceBounds,HT.bL]
  | some i=>
   simp only[sliceBounds,HT.bL,Option.getD_none,show (1:Int) > 0 by decide,if_true];by_cases h:i < 0
   ·simp only[h,if_true]<;>omega
   ·simp only[h,if_false]<;>omega
theorem Kr (its:List Value)(lo hi:Option Int):slicePick its.toArray lo hi none=((its.drop (HT.bL its.length 0 lo)).take (HT.bL its.length its.length hi - HT.bL its.length 0 lo)).toArray:=by
 obtain ⟨h1,h2,h3⟩:=Lz lo hi its.toArray.size;unfold slicePick;rw[h1,h2,h3];simp only[sliceRange_one,pick_run,List.size_toArray]<;>rfl
noncomputable def alU (K:PySem.W.Frag):V->Option Int->Option Int->Hp->VK->Prop:=λx lo hi H Q=>∃a xs,x=.ref a/\g_ K H a xs/\∀p,H p=none->Q (.ref p) (upd H p (.lst (wj xs lo hi)))
theorem abW:wY X (alU X.K):=by
 intro pins s σ H x v vl vu lo hi sl Q I rx hs pl pu h;obtain ⟨a,xs,rfl,hx,q⟩:=h;cases rx;obtain ⟨its,r,ht,hz⟩:=I.list hx;have hlen:=r.length;refine ⟨"list",_,slot_list_getitem.lookup,ht.isList.typeIs,?_⟩;refine wpAny_getItem_list_slice ht.isList hs pl pu .none (by simp) ?_ (by rw[List.size_toArray]<;>omega);rw[Kr,<-hlen];refine ⟨.ref s.heap.objs.size,_,I.laid (t':=s.toks) (o:=.lst (wj xs lo hi)) (λb ob q=>Heap.get?_push_of_some _ q) (Nat.le_refl _) ?_,rfl,q _ (I.hok.fresh (Nat.le_refl _))⟩;exact ⟨Nat.le_trans (Ep xs lo hi) hz,_,0,(r.drop (HT.bL xs.length 0 lo)).take (HT.bL xs.length xs.length hi - HT.bL xs.length 0 lo),Heap.get?_push_size _ rfl⟩
theorem eV.or {f:Value}{r r':List V->Hp->VK->Prop}(h:eV X f r)(h':eV X f r'):eV X f (λxs H Q=>r xs H Q\/r' xs H Q):=by
 intro pins s σ H xs us Q I rs q;rcases q with q | q
 ·exact h pins s σ H xs us Q I rs q
 ·exact h' pins s σ H xs us Q I rs q
noncomputable def tyV (K:PySem.W.Frag) (T:String) (x:V) (H:Hp):Prop:=match x with
 | .str _=>T="str"
 | .int _=>T="int"
 | .ref p=>(T="list"/\∃xs,g_ K H p xs)\/(T="tuple"/\∃o,K.lookup p=some o/\o.cls=.type "tuple"/\o.dict=none)\/
   (T="dict"/\((∃kvs,H p=some (.dK kvs))\/∃kvs,H p=some (.dT kvs)))\/(T="set"/\∃S n,H p=some (.set S n))
 | _=>False
theorem V7 {pins:List (Addr×Obj)}{σ:St}{H:Hp}{s:Shared}{T:String}{x:V}{v:Value}(I:Inv X pins σ H s)(r:RelV x v)(ty:tyV X.K T x H):
  s.TypeIs v T/\∀a,v=.ref a->∃ob,s.heap.get? a=some ob/\ob.dict=none:=by
 cases x with
 | str z=>
  obtain ⟨t,rfl⟩:=r;cases (show T="str" from ty);exact ⟨typeIs_str s z t,λ_ e=>nomatch e⟩
 | int i=>
  obtain ⟨t,rfl⟩:=r;cases (show T="int" from ty);exact ⟨typeIs_int s i t,λ_ e=>nomatch e⟩
 | ref p=>
  cases r;rcases ty with ⟨rfl,xs,hq⟩ | ⟨rfl,o,hk,hc,hd⟩ | ⟨rfl,hk⟩ | ⟨rfl,S,n,hk⟩
  ·obtain ⟨its,_,pl,_⟩:=I.list hq;refine ⟨pl.isList.typeIs,λa e=>?_⟩;cases e;obtain ⟨o,n,e,c,hd,_⟩:=pl;exact ⟨o,e,hd⟩
  ·refine ⟨⟨o,I.cZ p o hk,hc⟩,λa e=>?_⟩;cases e;exact ⟨o,I.cZ _ o hk,hd⟩
  ·have z:∃o,s.heap.get? p=some o/\o.ExactDict:=by
    rcases hk with ⟨kvs,hk⟩ | ⟨kvs,hk⟩
    ·obtain ⟨_,_,_,_,o,_,_,e,ex,_⟩:=I.hok p _ hk;exact ⟨o,e,ex⟩
    ·obtain ⟨_,_,_,_,o,_,_,e,ex,_⟩:=I.hok p _ hk;exact ⟨o,e,ex⟩
   obtain ⟨o,e,ex⟩:=z;refine ⟨⟨o,e,ex.1⟩,λa e2=>?_⟩;cases e2;exact ⟨o,e,ex.2.1⟩
  ·obtain ⟨o,_,_,_,e,ex,_⟩:=I.hok p _ hk;refine ⟨⟨o,e,ex.1⟩,λa e2=>?_⟩;cases e2;exact ⟨o,e,ex.2.1⟩
 | _=>exact False.elim ty
noncomputable def alV (K:PySem.W.Frag) (T:String) (r:V->List V->Hp->VK->Prop) (to:TE):TE:=λσ H Q=>to σ H λx H1=>tyV K T x H1/\r x [] H1 Q
noncomputable def tBM (K:PySem.W.Frag) (T:String) (r:V->List V->Hp->VK->Prop) (to:TE) (t:TA):TE:=λσ H Q=>to σ H λx H1=>tyV K T x H1/\t σ H1 λxs H2=>r x xs H2 Q
variable {o e:Expr}{es:List Expr}{to:TE}{t:TA}{name:Str}{apos cpos:Pos}{T id:String}{r:V->List V->Hp->VK->Prop}
theorem aex (pa:PlainAttrs T)(slot:Slot T name id)(hty:typeOf (.builtin id)=pure (.type "method_descriptor"))(hm:uP X id r)(ho:PE X o to)
  (hbase:attributeBase o name X.env (eval o X.env)=eval o X.env:=by rfl) (hline:(apos.endLine == cpos.line)=true:=by rfl):PE X (.Call (.Attribute o name apos) [] [] cpos) (alV X.K T r to):=by
 intro pins s σ H Q I h;refine wpAny_Call_method0_late hbase hline (bI (ho pins s σ H _ I h) λv s1 ⟨x,H1,I1,r1,ty,q1⟩=>?_);obtain ⟨h1,h2⟩:=V7 I1 r1 ty;exact ⟨T,id,pa,slot,hty,h1,h2,Calls.callWith_builtin rfl (PySem.evalArgs_none (hm pins s1 σ H1 x [] v [] Q I1 r1 .nil q1))⟩
theorem aio (pa:PlainAttrs T)(slot:Slot T name id)(hty:typeOf (.builtin id)=pure (.type "method_descriptor"))(hm:uP X id r)(ho:PE X o to)(ha:PA X (e::es) t)
  (hbase:attributeBase o name X.env (eval o X.env)=eval o X.env:=by rfl)
  (hfew:((backTo cpos (starEach (e::es) X.env)).all (λx=>!x.1) && (backToKw cpos (keywordEach [] X.env)).all (λx=>x.1.isSome)
   && decide ((e::es).length+([]:List Keyword).length+(if ([]:List Keyword).isEmpty then 0 else 1) < 30))=true:=by rfl)
  (hline:(apos.endLine == cpos.line)=true:=by rfl) (hs:starEach (e::es) X.env=(false,eval e X.env)::starEach es X.env:=by rfl) (hplain:(backTo cpos (starEach es X.env)).any (·.1)=false:=by rfl):
  PE X (.Call (.Attribute o name apos) (e::es) [] cpos) (tBM X.K T r to t):=by
 intro pins s σ H Q I h;refine wpAny_Call_method_late hbase hfew hline rfl (bI (ho pins s σ H _ I h) λv s1 ⟨x,H1,I1,r1,ty,q1⟩=>?_);obtain ⟨h1,h2⟩:=V7 I1 r1 ty;refine ⟨T,id,pa,slot,hty,h1,h2,?_⟩;have hA:=ha cpos pins s1 σ H1 _ I1 q1;rw[hs]at hA ⊢;refine Calls.callWith_builtin (by show (false || (backTo cpos (starEach es X.env)).any (·.1))=false;rw[hplain]<;>rfl) (Calls.evalArgs_plain ?_);exact bI hA λus s2 ⟨vs,H2,I2,r2,q2⟩=>hm pins s2 σ H2 x vs v us Q I2 r1 r2 q2
end
end L2
namespace L2
open PySem PySem.Spec PyProof.Rows
noncomputable def MtM (X:Cx) (id:String) (r:V->List V->Hp->VK->Prop):Prop:=
 ∀(pins:List (Addr×Obj)) (s:Shared) (σ:St) (H:Hp) (x:V) (xs:List V) (v:Value) (us:List Value) (Q:VK),Inv X pins σ H s->RelV x v->Vals xs us->r x xs H Q->
  wpAny (model X.prog X.w) X.A (call (.builtin id) (v::us)) (EP X pins σ Q) X.xe s
theorem Vals.one:∀{x:V} {us:List Value},Vals [x] us->∃u,us=[u]/\RelV x u
 | _,_,.cons r .nil=>⟨_,rfl,r⟩
theorem Vals.zero:∀{us:List Value},Vals [] us->us=[]
 | _,.nil=>rfl
theorem Vals.dropLast {xs:List V}{us:List Value}(h:Vals xs us):Vals xs.dropLast us.dropLast:=by
 induction h with
 | nil=>exact .nil
 | cons r t ih=>
  cases t with
  | nil=>exact .nil
  | cons q t'=>exact .cons r ih
theorem Vals.rep {xs:List V}{us:List Value}(h:Vals xs us):∀k:Nat,Vals (List.replicate k xs).flatten (List.replicate k us).flatten
 | 0=>.nil
 | k+1=>by
  rw[List.replicate_succ,List.replicate_succ,List.flatten_cons,List.flatten_cons];exact Vals.append h (Vals.rep h k)
theorem RM {α:Type}(l:List α):l.eraseIdx (l.length - 1)=l.dropLast:=by
 induction l with
 | nil=>rfl
 | cons a r ih=>
  cases r with
  | nil=>rfl
  | cons b r=>
   have e:(a::b::r).length - 1=((b::r).length - 1)+1:=by
    have h1:(a::b::r).length=r.length+2:=rfl;have h2:(b::r).length=r.length+1:=rfl;omega
   rw[e,List.eraseIdx_cons_succ,ih]
   all_goals rfl
theorem foldl_rep (its:List Value):∀(k:Nat) (acc:List Value),
  List.foldl (λx1 x2=>x1++x2) acc.toArray (List.replicate k its.toArray)=(acc++(List.replicate k its).flatten).toArray
 | 0,acc=>by simp
 | k+1,acc=>by
  have e:acc.toArray++its.toArray=(acc++its).toArray:=by simp
  have e2:(acc++its)++(List.replicate k its).flatten=acc++(List.replicate (k+1) its).flatten:=by
   rw[List.replicate_succ,List.flatten_cons,List.append_assoc]
  rw[<-e2,<-foldl_rep its k (acc++its),<-e,List.replicate_succ,List.foldl_cons]
section
variable {X:Cx}{pins:List (Addr×Obj)}{σ:St}{H:Hp}{s:Shared}{l b:Addr}{xs ys zs:List V}
theorem Inv.Yy {its its':List Value}{n:Nat}{f:Array Value->Array Value}{t':Nat}(I:Inv X pins σ H s)(hH:H l=some (.lst xs))
  (e:s.heap.get? l=some {cls:=.type "list",data:=.seq its.toArray n}) (hf:f its.toArray=its'.toArray) (hv:Vals ys its') (hz:ys.length<=sizeLine):
  Inv X pins σ (upd H l (.lst ys)) {s with heap:=s.heap.update l (Obj.mapSeq f),toks:=t'}:=by
 have q:=PySem.IsL.update e f;rw[hf]at q;refine I.write (x:=l) (e:=l) (by rw[hH];exact trivial) (.inl rfl) (λb' u hb hu=>(Heap.get?_update_other s.heap (Obj.mapSeq f) (Ne.symm hb)).trans hu) ⟨_,q⟩ ?_;exact ⟨hz,its',_,hv,q⟩
theorem Inv.Yz {its:List Value}{t':Nat}(I:Inv X pins σ H s)(hv:Vals ys its)(hz:ys.length<=sizeLine):
  Inv X pins σ (upd H s.heap.objs.size (.lst ys)) {s with heap:=s.heap.push {cls:=.type "list",data:=.seq its.toArray},toks:=t'}:=
 I.laid (λ_ _ q=>Heap.get?_push_of_some _ q) (Nat.le_refl _) ⟨hz,its,0,hv,Heap.get?_push_size _ rfl⟩
theorem Inv.fresh (I:Inv X pins σ H s):H s.heap.objs.size=none:=I.hok.fresh (Nat.le_refl _)
theorem Inv.Ad (I:Inv X pins σ H s)(hH:H l=some (.lst xs)):xs.length<=sizeLine/\∃(its:List Value) (n:Nat),Vals xs its/\xs.length=its.length/\s.heap.get? l=some {cls:=.type "list",data:=.seq its.toArray n}:=by
 obtain ⟨z,its,n,r,e⟩:=I.hok l _ hH;exact ⟨z,its,n,r,r.length,e⟩
theorem LK {n:Nat}(h:n<=sizeLine):Builtin.List.listTooLong n=false:=by
 unfold Builtin.List.listTooLong;exact decide_eq_false (by omega)
end
section
variable {X:Cx}
noncomputable def abX:V->List V->Hp->VK->Prop:=λx vs H Q=>∃l xs y,x=.ref l/\vs=[y]/\H l=some (.lst xs)/\xs.length < sizeLine/\Q .non (upd H l (.lst (xs++[y])))
theorem JC:MtM X "list.append" abX:=by
 intro pins s σ H x vs v us Q I rx rv h;obtain ⟨l,xs,y,rfl,rfl,hH,hz,q⟩:=h;cases rx;obtain ⟨u,rfl,ru⟩:=rv.one;obtain ⟨z,its,n,r,hl,e⟩:=I.Ad hH;refine call_meets F.slot_list_append ⟨_,e,rfl⟩ F.entry_list_append (F.args_list_append_2 _ _) (PySem.list_append l its.toArray n u (by rw[List.size_toArray];omega)) ⟨e,?_⟩;refine ⟨.non,_,I.Yy (its':=its++[u]) hH e (by simp) (r.append (.cons ru .nil)) ?_,rfl,q⟩;rw[List.length_append,List.length_singleton];omega
noncomputable def abY:V->List V->Hp->VK->Prop:=λx vs H Q=>∃l b xs zs,x=.ref l/\vs=[.ref b]/\H l=some (.lst xs)/\H b=some (.lst zs)/\xs.length+zs.length<=sizeLine/\Q .non (upd H l (.lst (xs++zs)))
theorem ajN:MtM X "list.extend" abY:=by
 intro pins s σ H x vs v us Q I rx rv h;obtain ⟨l,b,xs,zs,rfl,rfl,hH,hB,hz,q⟩:=h;cases rx;obtain ⟨u,rfl,ru⟩:=rv.one;cases ru;obtain ⟨z,its,n,r,hl,e⟩:=I.Ad hH;obtain ⟨z2,its2,n2,r2,hl2,e2⟩:=I.Ad hB;have hsz:its.toArray.size+its2.toArray.size<=sizeLine:=by rw[List.size_toArray,List.size_toArray];omega
 have RN:¬(!its.toArray.isEmpty && Builtin.List.listTooLong (its.toArray.size+its2.toArray.size))=true:=by
  rw[LK hsz,Bool.and_false];exact Bool.false_ne_true
 refine call_meets F.slot_list_extend ⟨_,e,rfl⟩ F.entry_list_extend (F.args_list_extend_2 _ _)
  (AutoSeq1.list_extend_list_list_0 l its.toArray n b its2.toArray n2 RN (by rw[List.size_toArray];omega) (by omega)) ⟨e,e2,?_⟩
 refine ⟨.non,_,I.Yy (its':=its++its2) hH e (by simp) (r.append r2) ?_,rfl,q⟩;rw[List.length_append];omega
noncomputable def alW:V->List V->Hp->VK->Prop:=λx vs H Q=>∃l xs y,x=.ref l/\vs=[]/\H l=some (.lst xs)/\xs[xs.length - 1]?=some y/\Q y (upd H l (.lst xs.dropLast))
theorem aez:MtM X "list.pop" alW:=by
 intro pins s σ H x vs v us Q I rx rv h;obtain ⟨l,xs,y,rfl,rfl,hH,hy,q⟩:=h;cases rx;have hus:=rv.zero;subst hus;obtain ⟨z,its,n,r,hl,e⟩:=I.Ad hH;obtain ⟨u,hu,ru⟩:=r.get hy;have hy':its.toArray[its.toArray.size - 1]?=some u:=by
  show its.toArray[its.length - 1]?=some u;rw[<-Array.getElem?_toList,<-hl];exact hu
 refine call_meets F.slot_list_pop ⟨_,e,rfl⟩ F.entry_list_pop (F.args_list_pop_1 _) (MeetsSeq.list_pop_last l its.toArray n u hy' (by rw[List.size_toArray];omega)) ⟨e,?_⟩;refine ⟨y,_,I.Yy (its':=its.dropLast) hH e ?_ r.dropLast ?_,ru,q⟩
 ·show its.toArray.eraseIdxIfInBounds (its.toArray.size - 1)=its.dropLast.toArray;rw[List.size_toArray,List.eraseIdxIfInBounds_toArray,RM]
 ·rw[List.length_dropLast];omega
noncomputable def alX:R2:=λx y H Q=>∃l b xs zs,x=.ref l/\y=.ref b/\H l=some (.lst xs)/\H b=some (.lst zs)/\xs.length+zs.length<=sizeLine/\∀p,H p=none->Q (.ref p) (upd H p (.lst (xs++zs)))
theorem aeA:bT X (binaryOp .Add) alX:=by
 intro pins s σ H x y v u Q I rx ry h;obtain ⟨l,b,xs,zs,rfl,rfl,hH,hB,hz,q⟩:=h;cases rx;cases ry;obtain ⟨z,its,n,r,hl,e⟩:=I.Ad hH;obtain ⟨z2,its2,n2,r2,hl2,e2⟩:=I.Ad hB;refine PySem.P.add_list e e2 ?_ (by rw[List.size_toArray,List.size_toArray];omega);have ea:its.toArray++its2.toArray=(its++its2).toArray:=by simp
 rw[ea];exact ⟨.ref _,_,I.Yz (t':=s.toks) (r.append r2) (by rw[List.length_append];omega),rfl,q _ I.fresh⟩
noncomputable def alY:R2:=λx y H Q=>∃l k xs,x=.ref l/\y=.int k/\H l=some (.lst xs)/\-(2 ^ 63)<=k/\k < 2 ^ 63/\xs.length * k.toNat<=sizeLine/\
 ∀p,H p=none->Q (.ref p) (upd H p (.lst (List.replicate k.toNat xs).flatten))
theorem len_rep {α:Type}(xs:List α)(k:Nat):(List.replicate k xs).flatten.length=k * xs.length:=by
 induction k with
 | zero=>simp
 | succ k ih=>rw[List.replicate_succ,List.flatten_cons,List.length_append,ih,Nat.succ_mul,Nat.add_comm]
theorem aeB:bT X (binaryOp .Mult) alY:=by
 intro pins s σ H x y v u Q I rx ry h;obtain ⟨l,k,xs,rfl,rfl,hH,h1,h2,hz,q⟩:=h;cases rx;obtain ⟨t,rfl⟩:=ry;obtain ⟨z,its,n,r,hl,e⟩:=I.Ad hH;have hlen:its.toArray.size * k.toNat<=sizeLine:=by rw[List.size_toArray,<-hl];exact hz
 have hcap:¬its.toArray.size * k.toNat > (2 ^ 63 - 1) / 8:=by
  have:(sizeLine:Nat)<=(2 ^ 63 - 1) / 8:=by decide
  omega
 have hfit:¬(!Builtin.List.listFitsIndex k)=true:=by
  rw[fitsIndex_both h1 h2];exact Bool.false_ne_true
 have RN:¬Builtin.List.listTooLong (its.toArray.size * k.toNat)=true:=by
  rw[LK hlen];exact Bool.false_ne_true
 have hnew:List.foldl (λx1 x2=>x1++x2) #[] (List.replicate (if its.toArray.isEmpty=true then 0 else k.toNat) its.toArray)=(List.replicate k.toNat its).flatten.toArray:=by
  have f0:∀m:Nat,List.foldl (λx1 x2=>x1++x2) #[] (List.replicate m its.toArray)=(List.replicate m its).flatten.toArray:=λm=>by
   have:=foldl_rep its m [];rw[List.nil_append]at this;exact this
  rw[f0];cases its with
  | nil=>simp
  | cons a r'=>rw[if_neg (by simp)]
 refine wpAny_binaryOp_repeat_ref (T:="list") (U:="int") (by decide) ⟨_,e,rfl⟩ (λs'=>typeIs_int s' k t) noFill_list_mul F.fills_int_mul F.slot_int_rmul repeat_list F.slot_int_index.lookup
  (call_meets F.slot_int_rmul (typeIs_int s k t) F.entry_int_rmul (F.args_int_rmul_2 _ _) (int___rmul___int_list k t l its.toArray n)
   ⟨e,rfl,⟨_,e,rfl⟩,call_meets F.slot_list_mul ⟨_,e,rfl⟩ F.entry_list_mul (F.args_list_mul_2 _ _) (AutoListH.list___mul___list_int_3 l its.toArray n k t hfit hcap RN) ⟨e,?_⟩⟩)
 rw[hnew];exact ⟨.ref _,_,I.Yz (t':=s.toks) (r.rep k.toNat) (by rw[len_rep,Nat.mul_comm];exact hz),rfl,q _ I.fresh⟩
end
section
variable {prog:Program}{w:World}{A:Around}{E:Value->Shared->Prop}{s:Shared}
set_option maxRecDepth 100000 in
end
section
variable {X:Cx}
end
end L2
namespace L2
open PySem PySem.Spec PyProof.Rows
section
variable {κ:Type}[DecidableEq κ]
noncomputable def iY (kvs:List (κ×V)) (k:κ):Option V:=(kvs.find? λkv=>decide (kv.1=k)).map (·.2)
noncomputable def putK (kvs:List (κ×V)) (k:κ) (v:V):List (κ×V):=
 if (kvs.any λkv=>decide (kv.1=k))=true then kvs.map (λkv=>if kv.1=k then (kv.1,v) else kv) else kvs++[(k,v)]
theorem Fw {p:κ×V}{r:List (κ×V)}{k:κ}(e:p.1=k):iY (p::r) k=some p.2:=by simp[iY,List.find?_cons,e]
theorem Fx {p:κ×V}{r:List (κ×V)}{k:κ}(e:¬p.1=k):iY (p::r) k=iY r k:=by simp[iY,List.find?_cons,e]
theorem LQ (k:κ):∀kvs:List (κ×V),(kvs.any λkv=>decide (kv.1=k))=(iY kvs k).isSome
 | []=>rfl
 | p::r=>by
  rw[List.any_cons];by_cases e:p.1=k
  ·simp only[Fw e,decide_eq_true e,Bool.true_or,Option.isSome_some]
  ·rw[Fx e,decide_eq_false e,Bool.false_or];exact LQ k r
theorem Es (kvs:List (κ×V))(k:κ)(v:V):(putK kvs k v).length<=kvs.length+1:=by
 unfold putK;split
 ·rw[List.length_map];omega
 ·rw[List.length_append,List.length_cons,List.length_nil];omega
theorem nR.nJ {o:Option V}{u:Option Value}(r:nR o u):o.isSome=u.isSome:=by
 cases o with
 | none=>cases u with
  | none=>rfl
  | some _=>exact (show False from r).elim
 | some _=>cases u with
  | none=>exact (show False from r).elim
  | some _=>rfl
theorem KV.val {kvs:List (κ×V)}{vs:List (κ×Value)}(r:KV kvs vs)(k:κ):nR (iY kvs k) (valueAt vs k):=by
 unfold KV at r
 induction r with
 | nil=>exact True.intro
 | @cons p q ps qs h t ih=>
  obtain ⟨h1,h2⟩:=h;by_cases e:p.1=k
  ·have e':q.1=k:=h1.symm.trans e;have b:valueAt (q::qs) k=some q.2:=by simp[valueAt,List.find?_cons,e']
   rw[Fw e,b];exact h2
  ·have e':¬q.1=k:=λz=>e (h1.trans z);have b:valueAt (q::qs) k=valueAt qs k:=by simp[valueAt,List.find?_cons,e']
   rw[Fx e,b];exact ih
theorem KV.any {kvs:List (κ×V)}{vs:List (κ×Value)}(r:KV kvs vs)(k:κ):(kvs.any λkv=>decide (kv.1=k))=vs.any λkv=>decide (kv.1=k):=by
 unfold KV at r
 induction r with
 | nil=>rfl
 | cons h t ih=>rw[List.any_cons,List.any_cons,ih,h.1]
theorem KV.repl {kvs:List (κ×V)}{vs:List (κ×Value)}(r:KV kvs vs)(k:κ){y:V}{u:Value}(ry:RelV y u):
  KV (kvs.map λkv=>if kv.1=k then (kv.1,y) else kv) (vs.map λkv=>if kv.1=k then (kv.1,u) else kv):=by
 unfold KV at r ⊢
 induction r with
 | nil=>exact .nil
 | @cons p q ps qs h t ih=>
  rw[List.map_cons,List.map_cons];refine .cons ?_ ih;obtain ⟨h1,h2⟩:=h;by_cases e:p.1=k
  ·rw[if_pos e,if_pos (h1.symm.trans e)];exact ⟨h1,ry⟩
  ·rw[if_neg e,if_neg (λz=>e (h1.trans z))];exact ⟨h1,h2⟩
theorem KV.put {kvs:List (κ×V)}{vs:List (κ×Value)}(r:KV kvs vs)(k:κ){y:V}{u:Value}(ry:RelV y u):KV (putK kvs k y) (stored vs k u):=by
 unfold putK stored;rw[r.any k];by_cases e:(vs.any λkv=>decide (kv.1=k))=true
 ·rw[if_pos e,if_pos e];exact r.repl k ry
 ·rw[if_neg e,if_neg e];exact Paired.snoc r ⟨rfl,ry⟩
theorem KV.length {kvs:List (κ×V)}{vs:List (κ×Value)}(r:KV kvs vs):kvs.length=vs.length:=Paired.length r
end
theorem wk {P:Program}{w:World}{k:Key}{u:Value}(r:RelV (kV k) u):(dz P w).is k u=true:=by
 cases k with
 | inl i=>obtain ⟨t,e⟩:=(show ∃t,u=Value.int i t from r);subst e;exact Oz P w i t
 | inr x=>obtain ⟨t,e⟩:=(show ∃t,u=Value.str x t from r);subst e;exact uz P w x t
theorem JD {P:Program}{w:World}:∀{ks:List Key} {us:List Value},Vals (ks.map kV) us->ItemsAre (dz P w) ks us
 | [],_,r=>by rw[List.map_nil]at r;cases r;exact .nil
 | k::ks,_,r=>by
  rw[List.map_cons]at r;cases r with
  | cons h t=>exact .cons (wk h) (JD t)
noncomputable abbrev KT (H:Hp):List (List Key×V)->List (List Key×Addr×Value)->Prop:=Paired λp q=>p.1=q.1/\H q.2.1=some (.tup (p.1.map kV))/\RelV p.2 q.2.2
theorem KT.val {H:Hp}{kvs:List (List Key×V)}{xs:List (List Key×Addr×Value)}(r:KT H kvs xs)(k:List Key):nR (iY kvs k) ((atKey xs k).map (·.2)):=by
 induction r with
 | nil=>exact True.intro
 | @cons p q ps qs h t ih=>
  obtain ⟨h1,_,h2⟩:=h;by_cases e:p.1=k
  ·have e':q.1=k:=h1.symm.trans e;have b:atKey (q::qs) k=some q.2:=by simp[atKey,List.find?_cons,e']
   rw[Fw e,b];exact h2
  ·have e':¬q.1=k:=λz=>e (h1.trans z);have b:atKey (q::qs) k=atKey qs k:=by simp[atKey,List.find?_cons,e']
   rw[Fx e,b];exact ih
theorem KT.repl {H:Hp}{kvs:List (List Key×V)}{xs:List (List Key×Addr×Value)}(r:KT H kvs xs)(k:List Key){y:V}{u:Value}(ry:RelV y u):
  KT H (kvs.map λkv=>if kv.1=k then (kv.1,y) else kv) (xs.map (putAt k u)):=by
 induction r with
 | nil=>exact .nil
 | @cons p q ps qs h t ih=>
  rw[List.map_cons,List.map_cons];refine .cons ?_ ih;obtain ⟨h1,h2,h3⟩:=h;unfold putAt;by_cases e:p.1=k
  ·rw[if_pos e,if_pos (h1.symm.trans e)];exact ⟨h1,h2,ry⟩
  ·rw[if_neg e,if_neg (λz=>e (h1.trans z))];exact ⟨h1,h2,h3⟩
theorem KT.put {H:Hp}{kvs:List (List Key×V)}{xs:List (List Key×Addr×Value)}(r:KT H kvs xs)(k:List Key){b:Addr}{y:V}{u:Value}(hb:H b=some (.tup (k.map kV)))(ry:RelV y u):
  KT H (putK kvs k y) (storedH xs k b u):=by
 have e:(kvs.any λkv=>decide (kv.1=k))=(atKey xs k).isSome:=by
  rw[LQ,(r.val k).nJ,Option.isSome_map]
 unfold putK storedH;rw[e];by_cases q:(atKey xs k).isSome=true
 ·rw[if_pos q,if_pos q];exact r.repl k ry
 ·rw[if_neg q,if_neg q];exact Paired.snoc r ⟨rfl,hb,ry⟩
theorem KT.keeps {H H':Hp}{kvs:List (List Key×V)}{xs:List (List Key×Addr×Value)}(r:KT H kvs xs)(ht:∀b ys,H b=some (.tup ys)->H' b=some (.tup ys)):KT H' kvs xs:=
 Paired.Yk r λ_ _ z=>⟨z.1,ht _ _ z.2.1,z.2.2⟩
section
variable {P:Program}{w:World}{H:Hp}{h:Heap}{a:Addr}
theorem aaQ {u:HO}(ok:d7 P w H h)(e:Rd H a u):cD P w H h a u:=e.ok ok
theorem Dw {kvs:List (Key×V)}(ok:d7 P w H h)(e:Rd H a (.dK kvs)):kvs.length<=sizeLine/\(a == sysModules)=false/\∃vs,KV kvs vs/\h.DictOf (dz P w) a vs:=
 show cD P w H h a (.dK kvs) from aaQ ok e
theorem aip {kvs:List (Key×V)}(ok:d7 P w H h)(e:H a=some (.dK kvs)):kvs.length<=sizeLine/\(a == sysModules)=false/\∃vs,KV kvs vs/\h.DictOf (dz P w) a vs:=Dw ok (.inl e)
theorem Ae {ks:List Key}(ok:d7 P w H h)(e:H a=some (.tup (ks.map kV))):(tupleKind (dz P w)).is h ks a:=by
 obtain ⟨_,its,r,⟨o,h1,h2,n,h3⟩,_⟩:=(show cD P w H h a (.tup (ks.map kV)) from ok a _ e)
 exact ⟨o,its.toArray,n,h1,h2,h3,by simpa using JD r⟩
theorem Gs {kvs:List (List Key×V)}(ok:d7 P w H h)(e:Rd H a (.dT kvs)):kvs.length<=sizeLine/\(a == sysModules)=false/\
  ∃xs,KT H kvs xs/\h.DictOfH (tupleKind (dz P w)) a xs:=by
 obtain ⟨z,y,xs,r,o,es,ep,h1,h2,h3,h4,h5⟩:=(show cD P w H h a (.dT kvs) from aaQ ok e)
 refine ⟨z,y,xs,r,o,es,ep,h1,h2,h3,h4,λx hx=>?_,h5⟩;have all:∀{l:List (List Key×V)} {m:List (List Key×Addr×Value)},KT H l m->∀x∈m,(tupleKind (dz P w)).is h x.1 x.2.1:=by
  intro l m q
  induction q with
  | nil=>intro x hx;exact nomatch hx
  | @cons p q ps qs hq t ih=>
   intro x hx;rcases List.mem_cons.mp hx with e | hx
   ·subst e;exact Ae ok (by rw[<-hq.1];exact hq.2.1)
   ·exact ih x hx
 exact all r x hx
theorem aiq {kvs:List (List Key×V)}(ok:d7 P w H h)(e:H a=some (.dT kvs)):kvs.length<=sizeLine/\(a == sysModules)=false/\
  ∃xs,KT H kvs xs/\h.DictOfH (tupleKind (dz P w)) a xs:=Gs ok (.inl e)
end
noncomputable def uD (H:Hp) (a:Addr) (y:V) (r:Option V):Prop:=
 (∃kvs k,Rd H a (.dK kvs)/\y=kV k/\r=iY kvs k)\/∃kvs k b,Rd H a (.dT kvs)/\y=.ref b/\H b=some (.tup (k.map kV))/\r=iY kvs k
noncomputable def LR (H:Hp) (a:Addr) (y v:V) (H':Hp):Prop:=
 (∃kvs k,H a=some (.dK kvs)/\y=kV k/\kvs.length < sizeLine/\H'=upd H a (.dK (putK kvs k v)))\/
 ∃kvs k b,H a=some (.dT kvs)/\y=.ref b/\H b=some (.tup (k.map kV))/\kvs.length < sizeLine/\H'=upd H a (.dT (putK kvs k v))
theorem uD.k {H:Hp}{a:Addr}{kvs:List (Key×V)}{k:Key}(e:H a=some (.dK kvs)):uD H a (kV k) (iY kvs k):=.inl ⟨kvs,k,.inl e,rfl,rfl⟩
theorem LR.k {H:Hp}{a:Addr}{kvs:List (Key×V)}{k:Key}{v:V}(e:H a=some (.dK kvs))(hl:kvs.length < sizeLine):LR H a (kV k) v (upd H a (.dK (putK kvs k v))):=.inl ⟨kvs,k,e,rfl,hl,rfl⟩
section
variable {X:Cx}{pins:List (Addr×Obj)}{σ:St}{H:Hp}{s:Shared}{a:Addr}{y v:V}{u r:Value}{o:Option V}{A:Around}{E:Value->Shared->Prop}
theorem V8 {Q:Value->Shared->Prop}(hu:A.units+1 < cLine)(I:Inv X pins σ H s)(g:uD H a y (some v))(ry:RelV y u)(h:∀w' s',Inv X pins σ H s'->RelV v w'->Q w' s'):
  wpAny (model X.prog X.w) A (getItem (.ref a) u) Q E s:=by
 rcases g with ⟨kvs,k,e,ey,l⟩ | ⟨kvs,k,b,e,ey,eb,l⟩
 ·subst ey;obtain ⟨z,hd,vs,rel,dd⟩:=Dw I.hok e;obtain ⟨w',hw,Ac⟩:=nR.some_of (v:=v) (o:=valueAt vs k) (by rw[l];exact rel.val k);exact wpAny_getItem_of (wk ry) dd.mapOf hw (h w' _ (I.tok _) Ac)
 ·subst ey;cases (show u=Value.ref b from ry);obtain ⟨z,hd,xs,rel,dd⟩:=Gs I.hok e;obtain ⟨w',hw,Ac⟩:=nR.some_of (v:=v) (o:=(atKey xs k).map (·.2)) (by rw[l];exact rel.val k);obtain ⟨p,hp,hp2⟩:=Option.map_eq_some_iff.mp hw;refine wpAny_getItem_heap (tupleKind_room_in1 hu) (Ae I.hok eb) dd hp ?_;rw[hp2];exact h w' _ (I.tok _) Ac
theorem alZ {Q:Value->Shared->Prop}(hu:A.units+1 < cLine)(I:Inv X pins σ H s)(g:uD H a y o)(ry:RelV y u)(h:∀s',Inv X pins σ H s'->Q (.bool o.isSome) s'):
  wpAny (model X.prog X.w) A (compareOp .In u (.ref a)) Q E s:=by
 rcases g with ⟨kvs,k,e,ey,l⟩ | ⟨kvs,k,b,e,ey,eb,l⟩
 ·subst ey;obtain ⟨z,hd,vs,rel,dd⟩:=Dw I.hok e;refine wpAny_in_of (wk ry) hd dd.mapOf ?_;rw[<-(rel.val k).nJ,<-l];exact h _ (I.tok _)
 ·subst ey;cases (show u=Value.ref b from ry);obtain ⟨z,hd,xs,rel,dd⟩:=Gs I.hok e;refine wpAny_in_heap (tupleKind_room_in1 hu) (Ae I.hok eb) hd dd ?_;have q:=(rel.val k).nJ;rw[Option.isSome_map]at q;rw[<-q,<-l];exact h _ (I.tok _)
theorem abZ {Q:Value->Shared->Prop}(hu:A.units+1 < cLine)(I:Inv X pins σ H s)(g:uD H a y o)(ry:RelV y u)(h:∀s',Inv X pins σ H s'->Q (.bool (!o.isSome)) s'):
  wpAny (model X.prog X.w) A (compareOp .NotIn u (.ref a)) Q E s:=by
 rcases g with ⟨kvs,k,e,ey,l⟩ | ⟨kvs,k,b,e,ey,eb,l⟩
 ·subst ey;obtain ⟨z,hd,vs,rel,dd⟩:=Dw I.hok e;refine wpAny_notIn_of (wk ry) hd dd.mapOf ?_;rw[<-(rel.val k).nJ,<-l];exact h _ (I.tok _)
 ·subst ey;cases (show u=Value.ref b from ry);obtain ⟨z,hd,xs,rel,dd⟩:=Gs I.hok e;refine wpAny_notIn_heap (tupleKind_room_in1 hu) (Ae I.hok eb) hd dd ?_;have q:=(rel.val k).nJ;rw[Option.isSome_map]at q;rw[<-q,<-l];exact h _ (I.tok _)
theorem Qf {h':Heap}{t':Nat}{ob:HO}(I:Inv X pins σ H s)(mu:VG (H a))(hs:Heap.SameBut a s.heap h')(he:∃q,h'.get? a=some q)(new:cD X.prog X.w (upd H a ob) h' a ob):
  Inv X pins σ (upd H a ob) {s with heap:=h',toks:=t'}:=
 I.write (x:=a) (e:=a) mu (.inl rfl) (λb q hb z=>(hs.2 b hb).trans z) he new
theorem aeC {P:Program}{w:World}{H':Hp}{h':Heap}{kvs:List (Key×V)}{vs:List (Key×Value)}(z:kvs.length<=sizeLine)(hd:(a == sysModules)=false)(rel:KV kvs vs)(dd:h'.DictOf (dz P w) a vs):
  cD P w H' h' a (.dK kvs):=⟨z,hd,vs,rel,dd⟩
theorem V9 {H':Hp}{Q:Unit->Shared->Prop}(hu:A.units+1 < cLine)(I:Inv X pins σ H s)(g:LR H a y v H')(ry:RelV y u)(rv:RelV v r)(h:∀s',Inv X pins σ H' s'->Q () s'):
  wpAny (model X.prog X.w) A (setItem (.ref a) u r) Q E s:=by
 rcases g with ⟨kvs,k,e,ey,l,eH⟩ | ⟨kvs,k,b,e,ey,eb,l,eH⟩
 ·subst ey eH;obtain ⟨z,hd,vs,rel,dd⟩:=aip I.hok e;have hz:vs.length<=sizeLine:=by rw[<-rel.length];exact z
  have hl:(putK kvs k v).length<=sizeLine:=by have:=Es kvs k v;omega
  refine wpAny_setItem_pairs (hsz:=hz) (wk ry) dd λh' dd' hs=>h _ ?_;have he:∃q,h'.get? a=some q:=let ⟨q,_,_,hq,_⟩:=dd';⟨q,hq⟩;exact Qf I (by rw[e];exact True.intro) hs he (aeC hl hd (rel.put k rv) dd')
 ·subst ey eH;cases (show u=Value.ref b from ry);obtain ⟨z,hd,xs,rel,dd⟩:=aiq I.hok e;have hz:xs.length<=sizeLine:=by rw[<-Paired.length rel];exact z
  have hl:(putK kvs k v).length<=sizeLine:=by have:=Es kvs k v;omega
  refine wpAny_setItem_heap (hsz:=hz) (tupleKind_room_in1 hu) (Ae I.hok eb) dd λh' dd' hs=>h _ ?_;obtain ⟨q,es,ep,hq,h2,h3,h4,_,h5⟩:=dd';refine Qf I (by rw[e];exact True.intro) hs ⟨q,hq⟩ ⟨hl,hd,_,(rel.put k eb rv).keeps λc ys ec=>?_,q,es,ep,hq,h2,h3,h4,h5⟩;rw[aN (Rt ec e (λz=>nomatch z))];exact ec
end
section
variable {X:Cx}{pins:List (Addr×Obj)}{σ:St}{H:Hp}{s:Shared}{a:Addr}{kvs:List (Key×V)}{k:Key}{u:Value}{A:Around}{E:Value->Shared->Prop}
theorem air {Q:Value->Shared->Prop}(I:Inv X pins σ H s)(e:Rd H a (.dK kvs))(h:∀t s',Inv X pins σ H s'->Q (.int kvs.length t) s'):wpAny (model X.prog X.w) A (call (.builtin "len") [.ref a]) Q E s:=by
 obtain ⟨z,hd,vs,rel,dd⟩:=Dw I.hok e;refine call_len_dict hd dd (by rw[<-rel.length];rw[sizeLine_eq]at z;omega) ?_;rw[<-rel.length];exact h _ _ (I.tok _)
end
theorem OD {X:Cx}{pins:List (Addr×Obj)}{σ:St}{H:Hp}{s:Shared}{a:Addr}{y:V}{o:Option V}(I:Inv X pins σ H s)(g:uD H a y o):s.TypeIs (.ref a) "dict":=by
 rcases g with ⟨kvs,k,e,_,_⟩ | ⟨kvs,k,b,e,_,_,_⟩
 ·obtain ⟨_,_,vs,_,dd⟩:=Dw I.hok e;exact dd.typeIs
 ·obtain ⟨_,_,xs,_,dd⟩:=Gs I.hok e;exact dd.typeIs
section
variable {X:Cx}{o i e value:Expr}{pos pos' tpos:Pos}{td ty tv:TE}
end
section
variable {X:Cx}{pos:Pos}
end
section
variable {X:Cx}{pins:List (Addr×Obj)}{σ:St}{H:Hp}{s:Shared}{a:Addr}{y d:V}{u r:Value}{o:Option V}{A:Around}{E:Value->Shared->Prop}
end
section
variable {X:Cx}{o e f:Expr}{apos cpos:Pos}{td ty tx:TE}
end
section
variable {X:Cx}{pins:List (Addr×Obj)}{σ:St}{H:Hp}{s:Shared}{a:Addr}{kvs:List (Key×V)}{A:Around}{E:Value->Shared->Prop}
end
section
variable {X:Cx}{pins:List (Addr×Obj)}{σ:St}{H:Hp}{s:Shared}{a:Addr}{y:V}{u:Value}{A:Around}{E:Value->Shared->Prop}
end
end L2
namespace Att
open PySem PySem.W PySem.Calls PyProof.Rows
theorem Gu {P:Params}{h:Heap}:∀(ns:List Int) (vs:List Value),WellAll P h vs (ns.map WData.int)->IntsAre vs ns:=by
 intro ns
 induction ns with
 | nil=>
  intro vs w;rw[List.map_nil]at w;cases w;exact .nil
 | cons n ns ih=>
  intro vs w;rw[List.map_cons]at w;cases w with
  | cons a b=>
   cases a;exact .cons _ _ (ih _ b)
theorem V_ {l:OpenLaw}{n:Nat}(hn:l.most=some n){P:Params}{h:Heap}{args:List WData}{vals:List Value}
  (hpre:l.row.toRowW.claim.pre args=true) (hwl:WellAll P h vals args):
  ∃a vs ns,vals=[Value.ref a]/\args=[WData.list (ns.map WData.int)]/\h.get? a=some {cls:=.type "list",data:=.seq vs.toArray}/\IntsAre vs ns/\ns.length<=n:=by
 have hsh:WShape.hasAll [] args [.list .int]=true:=(pre_splitW hpre).1;have hc:l.pre.holds [] {args:=args}=true:=(pre_splitW hpre).2;obtain ⟨d,r,rfl,h1,h2⟩:=hasAllW_cons hsh;obtain rfl:=hasAllW_nil h2;obtain ⟨xs,rfl,h3⟩:=hasW_list h1;obtain ⟨ns,rfl⟩:=items_int h3;have hlen:ns.length<=n:=by
  unfold OpenLaw.pre at hc;have h4:(WTm.not (.lt (.lit (.int (n:Int))) (.len (.arg 0)))).holds [] {args:=[.list (ns.map .int)]}=true:=by
   have h4:=(holds_andW hc).1;rw[hn]at h4;exact h4
  have h5:=condW_of h4 (w_not (w_lt w_lit (w_len_list (w_arg rfl))));rw[List.length_map]at h5;refine Nat.le_of_not_lt λq=>?_;have q':(n:Int) < ((ns.length:Nat):Int):=by omega
  first
   | (rw[decide_eq_true q']at h5;exact absurd h5 (by decide))
   | (simp at h5;omega)
 cases hwl with
 | cons w1 w2=>
  cases w2;cases w1 with
  | list ho hall=>exact ⟨_,_,ns,rfl,rfl,ho,Gu ns _ hall,hlen⟩
theorem Wa (l:OpenLaw)(args:List WData):l.row.toRowW.claim.post args (.bool true) args=true:=
 postW_of (r:=l.row.toRowW) (X:=(true == true))
  (show WShape.has [] (.bool true) .bool=true by first | rfl | decide | simp[WShape.has,WShape.arms,WShape.armsAll])
  (show (WTm.eq .res (.lit (.bool true))).value [] {args:=args,res:=some (.bool true),after:=args}=some (.bool (true == true)) from w_eq_bool (w_res rfl) w_lit) rfl
theorem OJ {l:OpenLaw}{n:Nat}{q:Program}{loose:List Str}{XP:(Str->Option Value)->Heap->Prop}{YP:World->Heap->Prop}{d:DefRec}
  (hn:l.most=some n) (hdf:d.params.defaults=[])
  (call:∀(w:World) (s₀ s₁:Shared) (mg mb:Str->Option Value) (fa:Addr) (o:Obj) (pm cd doc:Value) (a:Addr) (vs:List Value) (ns:List Int),
   Ground q loose [] XP w s₀ mg mb s₁.heap->YP w s₁.heap->
   s₁.heap.get? fa=some o->o.data=.func (docDef d.name d.params d.body d.scope pm cd doc)->s₁.heap.CodeRec cd d.name->mg d.name=some (.ref fa)->
   s₁.heap.get? a=some {cls:=.type "list",data:=.seq vs.toArray}->IntsAre vs ns->ns.length<=n->s₁.gens=#[]->
   codeAny (model l.prog w) callerA (.call (.ref fa) ⟨[.ref a],[]⟩) (λr s'=>r=.ok (.ret (.bool true))/\OldK s₁.heap s'.heap/\s'.os=s₁.os/\AllBare s'.gens) s₁):
  WalkO q loose XP YP l.row.toRowW d [] (λf vs=>PySem.call f vs):=by
 intro w s₀ s₁ mg mb G Y fa o pm cd doc dV kV ho hd hcd hD hmg hg args vals as hpre hlay hrd hwl hlo;obtain rfl:dV=.none:=Dflts.none hD hdf;obtain rfl:kV=.none:=Dflts.noKw hD;obtain ⟨a,vs,ns,rfl,rfl,hobj,hints,hlen⟩:=V_ hn hpre hwl;refine enter_call (codeAny_mono (call w s₀ s₁ mg mb fa o pm cd doc a vs ns G Y ho (fd_plain hd) hcd hmg hobj hints hlen hg) λr s' hq=>?_);obtain ⟨rfl,h2,h3,h4⟩:=hq;exact ⟨.inl ⟨.bool true,.bool true,[],rfl,λ_=>rfl,.bool true,Wa l _,λ_=>⟨List.Pairwise.nil,λ_ hm=>(nomatch hm)⟩⟩,h2,h3,h4⟩
section
variable {prog:Program}{w:World}{A:Around}{E:Value->Shared->Prop}{s:Shared}{K:Frag}
end
end Att
namespace L2
open PySem PySem.Spec PyProof.Rows
theorem JF:∀{vs:List Value} {ns:List Int},IntsAre vs ns->Vals (ns.map V.int) vs
 | _,_,.nil=>.nil
 | _,_,.cons n t h=>.cons ⟨t,rfl⟩ (JF h)
noncomputable def Only (H:Hp):Prop:=∀b,H b=none\/∃o xs,H b=some (.bY o (.lst xs))
theorem YB {P:Program}{w:World}{K:PySem.W.Frag}{mg mb:Str->Option Value}{CX:uM}{k:Nat}{fa a:Addr}{fd:FuncData}{x:Str}{sp:Sp}{s₁:Shared}{vs:List Value}{ns:List Int}
  (KX:K.In s₁.heap) (hns:s₁.heap.Ns mainGlobals mg) (hb:s₁.heap.Ns builtinsNs mb) (hbb:∀x:Str,x≠"__name__"->mb x=bootBuiltins x) (hlim:s₁.heap.NoLimit) (hg:s₁.gens=#[])
  (ha:s₁.heap.get? a=some {cls:=.type "list",data:=.seq vs.toArray}) (hi:IntsAre vs ns) (hl:ns.length<=sizeLine) (hr:cR k callerA)
  (F:∀base:Heap,K.In base->base.Ns mainGlobals mg->aX P w K mg base CX k fa fd [x] sp) (hbind:∀(s:Shared) (u:Value),BindsTo s fd ⟨[u],[]⟩ [(x,u)])
  (hsp:∀H:Hp,Only H->g_ K H a (ns.map V.int)->(∀o,K.lookup a=some o->o.slots=#[])->sp [.ref a] H (λv _=>v=.bl true) λ_ _ _=>False)
  (hCX:∀H e s',CX [] H s₁ (λ_ _ _=>False) e s'->False):
  codeAny (model P w) callerA (.call (.ref fa) ⟨[.ref a],[]⟩) (λr s'=>r=.ok (.ret (.bool true))/\OldK s₁.heap s'.heap/\s'.os=s₁.os/\AllBare s'.gens) s₁:=by
 have rv:=JF hi;have lenV:=hi.length
 -- from an abstract heap in which nothing but the script may be tracked
 have core:∀H:Hp,Only H->g_ K H a (ns.map V.int)->d7 P w H s₁.heap->(∀b,H b≠none->b=a)->(H a≠none->K.lookup a=none)->
   codeAny (model P w) callerA (.call (.ref fa) ⟨[.ref a],[]⟩) (λr s'=>r=.ok (.ret (.bool true))/\OldK s₁.heap s'.heap/\s'.os=s₁.os/\AllBare s'.gens) s₁:=by
  intro H hO hS hok hA hK;have Qg:∀{b:Addr} {o:Obj},s₁.heap.get? b=some o->H b=none->(v7 s₁.heap H).get? b=some o:=λe n=>Yl e n;have V6:∀{b:Addr} {o:Obj} {es:Array DictEntry} {ep:Nat},s₁.heap.get? b=some o->o.data=.dict es ep->H b=none:=λ{b o es ep} e d=>by
   cases q:H b with
   | none=>rfl
   | some u=>
    have e':b=a:=hA b (by rw[q];simp);subst e';rw[ha]at e;cases e;have d':Data.seq vs.toArray _=Data.dict es ep:=d;cases d'
  have nsK:∀{b:Addr} {m:Str->Option Value},s₁.heap.Ns b m->(v7 s₁.heap H).Ns b m:=λ{b m} ⟨o,es,ep,e,d,r⟩=>⟨o,es,ep,Qg e (V6 e d),d,r⟩
  have hKb:K.In (v7 s₁.heap H):=λb o e=>Qg (KX b o e) (by
   cases q:H b with
   | none=>rfl
   | some u=>
    have e':b=a:=hA b (by rw[q];simp);subst e';rw[hK (by rw[q];simp)]at e;cases e)
  have hM:Mod K mg (v7 s₁.heap H):=⟨hKb,nsK hns,⟨mb,nsK hb,hbb⟩,let ⟨mc,h1,h2⟩:=hlim;⟨mc,nsK h1,h2⟩⟩
  have e0:Fq P w K mg (v7 s₁.heap H) callerA [] s₁ H:=⟨rfl,hM,λb o e=>abK e,Nat.le_of_eq (VH _ _),trivial,λb hb=>absurd (show b∈([]:List Addr) from hb) (by simp),hok,.of_eq hg⟩
  refine codeAny_mono ((F _ hKb (nsK hns)).run callerA [] s₁ H ⟨[.ref a],[]⟩ [.ref a] [.ref a] _ _ hr e0 (hbind s₁ (.ref a)) (.cons rfl .nil) (hsp H hO hS (λo e=>by have e':=KX a o e;rw[ha]at e';cases e';rfl))) λr s' h=>?_;cases r with
  | error e=>exact (hCX H e s' h).elim
  | ok fl=>
   cases fl with
   | next=>exact False.elim h
   | brk=>exact False.elim h
   | cont=>exact False.elim h
   | ret u=>
    obtain ⟨v,H',os,bare,un,hok',r',q⟩:=h;have q':v=.bl true:=q;subst q';obtain rfl:u=Value.bool true:=r';refine ⟨rfl,OldK.of_keep λb o e=>?_,os,bare⟩;cases q:H b with
    | none=>exact un.keep b o e q (by intro z;exact absurd (show b∈([]:List Addr) from z) (by simp)) (by simp)
    | some u=>
     rcases hO b with z | ⟨ob,xs,z⟩
     ·rw[q]at z;cases z
     ·have z2:=un.iV b ob _ z;obtain ⟨e1,_⟩:=hok b _ z;obtain ⟨e2,_⟩:=hok' b _ z2;rw[e]at e1;cases e1;exact e2
 cases hk:K.lookup a with
 | some o=>
  -- the script is one of the module's own objects
  have e:=KX a o hk;rw[ha]at e;cases e;refine core (λ_=>none) (λ_=>.inl rfl) (.inr ⟨_,vs.toArray,_,hk,rfl,rfl,rfl,by rw[List.size_toArray,lenV];exact hl,by simpa using rv⟩) (λb u z=>by have z':(none:Option HO)=some u:=z;cases z') (λb z=>absurd rfl z) λz=>absurd rfl z
 | none=>
  refine core (λb=>if b=a then some (.bY {cls:=.type "list",data:=.seq vs.toArray} (.lst (ns.map V.int))) else none) (λb=>?_) (.inl (.inr ⟨{cls:=.type "list",data:=.seq vs.toArray},if_pos rfl⟩)) (λb u z=>?_) (λb z=>?_) λ_=>hk
  ·by_cases hb:b=a
   ·exact .inr ⟨_,_,if_pos hb⟩
   ·exact .inl (if_neg hb)
  ·by_cases hb:b=a
   ·have z':=(if_pos hb).symm.trans z;cases z';subst hb;exact ⟨ha,by rw[List.length_map];exact hl,vs,_,rv,ha⟩
   ·have z':=(if_neg hb).symm.trans z;cases z'
  ·by_cases hb:b=a
   ·exact hb
   ·exact absurd (if_neg hb) z
end L2
namespace L2
open PySem PySem.Spec PyProof.Rows
theorem ab0 {l:PySem.W.OpenLaw}{n k:Nat}{q:Program}{loose:List Str}{XP:(Str->Option Value)->Heap->Prop}{YP:World->Heap->Prop}{d:DefRec}{K:Params->PySem.W.Frag}{CX:World->uM}{sp:World->Sp}{x:Str}
  (hn:l.most=some n) (hn2:n<=sizeLine) (hdf:d.params.defaults=[]) (hr:cR k callerA)
  (hY:∀(w:World) (h:Heap),YP w h->(K w.params).In h)
  (F:∀(w:World) (mg:Str->Option Value) (fa:Addr) (h:Heap),(K w.params).In h->h.Ns mainGlobals mg->mg d.name=some (.ref fa)->
   ∃fd:FuncData,(∀(s:Shared) (u:Value),BindsTo s fd ⟨[u],[]⟩ [(x,u)])/\
    ∀base:Heap,(K w.params).In base->base.Ns mainGlobals mg->aX l.prog w (K w.params) mg base (CX w) k fa fd [x] (sp w))
  (hsp:∀(w:World) (H:Hp) (a:Addr) (ns:List Int),ns.length<=n->Only H->g_ (K w.params) H a (ns.map V.int)->(∀o,(K w.params).lookup a=some o->o.slots=#[])->sp w [.ref a] H (λv _=>v=.bl true) λ_ _ _=>False)
  (hCX:∀(w:World) (H:Hp) (s:Shared) (e:Value) (s':Shared),CX w [] H s (λ_ _ _=>False) e s'->False):
  PySem.W.WalkO q loose XP YP l.row.toRowW d [] (λf vs=>PySem.call f vs):=by
 refine Att.OJ hn hdf λw s₀ s₁ mg mb fa o pm cd doc a vs ns G Y ho hd hcd hmg hobj hints hlen hg=>?_;have KX:=hY w _ Y;obtain ⟨fd,hb,hF⟩:=F w mg fa _ KX G.T.g hmg;exact YB KX G.T.g G.T.b G.T.builtins G.T.nolimit hg hobj hints (Nat.le_trans hlen hn2) hr hF hb (λH hO hS=>hsp w H a ns hlen hO hS) λH e s'=>hCX w H s₁ e s'
end L2
namespace L2
open PySem PySem.Spec PyProof.Rows
noncomputable def bh (s:Stmt):Arguments:=match s with
 | .FunctionDef _ a _ _ _ _ _ _ _ _=>a
 | _=>{posonlyargs:=[],args:=[],vararg:=none,kwonlyargs:=[],kw_defaults:=[],kwarg:=none,defaults:=[]}
noncomputable def aW (s:Stmt):List Stmt:=match s with
 | .FunctionDef _ _ b _ _ _ _ _ _ _=>b
 | _=>[]
noncomputable def aG (s:Stmt):Scope:=match s with
 | .FunctionDef _ _ _ _ _ _ sc _ _ _=>sc
 | _=>{kind:=.function,names:=[],isGenerator:=false,isCoroutine:=false}
noncomputable abbrev bO:uM:=λ_ _ _ _ _ _=>False
noncomputable abbrev E0:XK:=λ_ _ _=>False
theorem aaT {X:Cx}:Passes bO X E0:=λ_ _ _ _ _ _ _ h=>h.elim
structure dU (K:PySem.W.Frag)(x qual:Str)(st:Stmt)(f:Addr)(fd:FuncData):Prop where
 ex:∃(oc:Value) (od:Option Addr) (kV doc pm:Value) (an:Option Addr) (cdv ct:Value) (osl:Array (Option Value)),
  fd=PySem.W.fnOf x qual (bh st) (aW st) (aG st) .none kV doc pm an cdv ct/\K.lookup f=some ⟨oc,od,.func fd,osl⟩/\PySem.W.codeIn K cdv qual=true
 kp:PySem.W.keepIn K (.ref f)=true
section
variable {P:Program}{w:World}{K:PySem.W.Frag}{mg:Str->Option Value}{base:Heap}
theorem dU.ok {x qual:Str}{st:Stmt}{f:Addr}{fd:FuncData}{N ps:List Str}{k:Nat}{sp:Sp}(F:dU K x qual st f fd)(S:bw N ps (aG st))(len:∀vs H Q E,sp vs H Q E->vs.length=ps.length)
  (hbody:∀(cdv:Value) (A:Around) (outer:List Env) (s:Shared) (H:Hp) (vs:List V) (Q:VK) (E:XK),cR k (A.deeper (envOfC qual (aG st) s.heap.objs.size f cdv))->sp vs H Q E->
   ∃t,lX (iW bO P w K mg base N qual (aG st) f cdv A outer s H E).qJ (aW st) t/\t {nx:=λ_ H'=>Q .non H',rt:=Q} (start N vs) H):aX P w K mg base bO (k+1) f fd ps sp:=by
 obtain ⟨oc,od,kV,doc,pm,an,cdv,ct,osl,rfl,lk,hcd⟩:=F.ex;refine RG lk hcd S len λA outer s H vs Q E hr hsp=>?_;obtain ⟨t,h,q⟩:=hbody cdv A outer s H vs Q E hr hsp;exact ⟨t,h.qJ,q⟩
theorem dU.binds {x qual:Str}{st:Stmt}{f:Addr}{fd:FuncData}{ps:List Str}(F:dU K x qual st f fd)
  (h:∀(kV doc pm:Value) (an:Option Addr) (cdv ct:Value) (us:List Value),us.length=ps.length->bindArgs (PySem.W.fnOf x qual (bh st) (aW st) (aG st) .none kV doc pm an cdv ct) ⟨us,[]⟩=pure (ps.zip us)):Binds K fd ps []:=by
 obtain ⟨oc,od,kV,doc,pm,an,cdv,ct,osl,rfl,lk,hcd⟩:=F.ex;exact .all (h kV doc pm an cdv ct)
theorem cu {x qual:Str}{st:Stmt}{f:Addr}{oc:Value}{od an:Option Addr}{osl:Array (Option Value)}{kV doc pm cdv ct:Value}(l:K.lookup f=some ⟨oc,od,.func (PySem.W.fnOf x qual (bh st) (aW st) (aG st) .none kV doc pm an cdv ct),osl⟩)
  (c:PySem.W.codeIn K cdv qual=true) (k:PySem.W.keepIn K (.ref f)=true):dU K x qual st f (PySem.W.fnOf x qual (bh st) (aW st) (aG st) .none kV doc pm an cdv ct):=⟨⟨oc,od,kV,doc,pm,an,cdv,ct,osl,rfl,l,c⟩,k⟩
end
section
variable {X:Cx}
theorem Wb:eV X (.builtin "len") (λxs H Q=>∃a kvs,xs=[V.ref a]/\H a=some (.dK kvs)/\Q (.int kvs.length) H):=by
 intro pins s σ H xs us Q I r h;obtain ⟨a,kvs,rfl,ha,q⟩:=h;obtain ⟨u,rfl,ru⟩:=vals1 r;cases ru;exact air I (.inl ha) λt s' I'=>⟨.int kvs.length,H,I',⟨t,rfl⟩,q⟩
end
section
variable {κ:Type}[DecidableEq κ]
end
end L2
namespace ZT
open PySem PyProof PyProof.Rows
section
variable {prog:Program}{w:World}{A:Around}{E:Value->Shared->Prop}{s:Shared}{kd:SortKind}{M0:Keyed->Prop}
end
end ZT
namespace ZT
open PySem PyProof PyProof.Rows
section
variable {prog:Program}{w:World}{A:Around}{E:Value->Shared->Prop}{s:Shared}{kd:SortKind}{M0:Keyed->Prop}{a₀:Array Keyed}
end
end ZT
namespace ZT
open PySem PyProof PyProof.Rows
section
variable {prog:Program}{w:World}{A:Around}{E:Value->Shared->Prop}{s:Shared}{kd:SortKind}{M0:Keyed->Prop}{a₀:Array Keyed}
end
end ZT
namespace ZT
open PySem PyProof PyProof.Rows
section
variable {prog:Program}{w:World}{A:Around}{E:Value->Shared->Prop}{s:Shared}{kd:SortKind}{M0:Keyed->Prop}{a₀:Array Keyed}
end
end ZT
namespace ZT
open PySem PyProof PyProof.Rows
section
variable {prog:Program}{w:World}{A:Around}{E:Value->Shared->Prop}{s:Shared}
end
end ZT
namespace ZT
open PySem
end ZT
namespace ZT
open PySem PyProof PyProof.Rows
noncomputable def kv:Value->Int
 | .int k _=>k
 | _=>0
section
variable {prog:Program}{w:World}{A:Around}{E:Value->Shared->Prop}{s:Shared}{a:Addr}{ks:List Int}{led:Bool}
end
end ZT
namespace ZT
open PySem PyProof PyProof.Rows
section
variable {prog:Program}{w:World}{A:Around}{R:Result->Shared->Prop}{I a:Addr}{fp wr:List Addr}{G:Array GenState->Array GenState->Prop}{n:Nat}{P:Nat->Value->Prop}{St:Nat->Shared->Prop}{led:Bool}
end
section
variable {prog:Program}{w:World}{A:Around}{E:Value->Shared->Prop}{s:Shared}
end
end ZT
namespace ZT
open PySem PyProof PyProof.Rows
section
variable {prog:Program}{w:World}{A:Around}{E:Value->Shared->Prop}{s:Shared}
end
end ZT
namespace ZT
open PySem PyProof PyProof.Rows
end ZT
namespace ZT
open PySem PyProof PyProof.Rows
section
variable {prog:Program}{w:World}{A:Around}{E:Value->Shared->Prop}{s:Shared}{I a:Addr}{es:Array (Int×Value)}{ep:Nat}{t:SetTable}
end
end ZT
namespace ZT
open PySem PyProof PyProof.Rows
section
variable {prog:Program}{w:World}{A:Around}{E:Value->Shared->Prop}{s:Shared}{I a:Addr}{es:Array (Int×Value)}{ep:Nat}{t:SetTable}
end
end ZT
namespace ZT
open PySem PyProof PyProof.Rows
section
variable {prog:Program}{w:World}{A:Around}{E:Value->Shared->Prop}{s:Shared}{I a T:Addr}{es:Array (Int×Value)}{ep:Nat}{t:SetTable}{L:List Nat}
end
end ZT
namespace ZT
open PySem PyProof PyProof.Rows
section
variable {prog:Program}{w:World}{A:Around}{E:Value->Shared->Prop}{s:Shared}{I a T:Addr}{es:Array (Int×Value)}{ep:Nat}{t:SetTable}{L:List Nat}
end
end ZT
namespace ZT
open PySem PyProof PyProof.Rows
section
variable {prog:Program}{w:World}{A:Around}{E:Value->Shared->Prop}{s:Shared}{a:Addr}{ks:List Int}
end
end ZT
namespace ZS
open PySem PySem.Spec PyProof.Rows L2
theorem Af {α:Type}:∀{l:List α},l.Nodup->∀{i j:Nat} {x:α},l[i]?=some x->l[j]?=some x->i=j
 | [],_,i,_,_,a,_=>by simp at a
 | y::l,h,i,j,x,a,b=>by
  obtain ⟨h1,h2⟩:=List.nodup_cons.mp h;cases i with
  | zero=>
   cases j with
   | zero=>rfl
   | succ j=>simp at a b;subst a;exact absurd (List.mem_of_getElem? b) h1
  | succ i=>
   cases j with
   | zero=>simp at a b;subst b;exact absurd (List.mem_of_getElem? a) h1
   | succ j=>exact congrArg (·+1) (Af h2 (by simpa using a) (by simpa using b))
section
variable (K:PySem.W.Frag)(ρ:List Addr)(H:Hp)
noncomputable def Et (a:Addr) (xs:List V):Prop:=
 (∃o,H a=some (.bY o (.lst xs)))\/
  ∃(o:Obj) (its:Array Value) (n:Nat),K.lookup a=some o/\o.cls=.type "list"/\o.dict=none/\o.data=.seq its n/\its.size<=sizeLine/\Vals xs its.toList/\o.slots=#[]
mutual
noncomputable def ao:Z.D->V->Prop
 | .non,v=>v=.non
 | .bl b,v=>v=.bl b
 | .int i,v=>v=.int i
 | .str s,v=>v=.str ⟨s.toArray⟩/\s.length<=Z.lim
 | .tup xs,v=>∃a ys,v=.ref a/\fQ K H a ys/\au xs ys
 | .eY xs,v=>∃a ys,v=.ref a/\Et K H a ys/\au xs ys
 | .ref n,v=>∃a,v=.ref a/\ρ[n]?=some a
noncomputable def au:List Z.D->List V->Prop
 | [],ys=>ys=[]
 | x::xs,ys=>∃y r,ys=y::r/\ao x y/\au xs r
end
noncomputable def fW:Z.KK->Key
 | .inl i=>.inl i
 | .inr s=>.inr ⟨s.toArray⟩
noncomputable def kJ:Z.AO->Addr->Prop
 | .lst xs,a=>∃ys,H a=some (.lst ys)/\au K ρ H xs ys
 | .dct kvs,a=>∃kvs',H a=some (.dK kvs')/\kvs'.map (·.1)=kvs.map (λp=>fW p.1)/\au K ρ H (kvs.map (·.2)) (kvs'.map (·.2))/\∀p∈kvs,∀s,p.1=Sum.inr s->s.length<=Z.lim
 | .exc c,a=>∃C oe,PySem.W.nsIn K mainGlobals ⟨c.toArray⟩=some (some (.ref C))/\H a=some (.bY oe (.own 0))/\oe.cls=.ref C/\oe.dict=none/\PySem.W.notCls oe=true
 | .cW c i,a=>∃C oe dx od,PySem.W.nsIn K mainGlobals ⟨c.toArray⟩=some (some (.ref C))/\H a=some (.bY oe (.own 0))/\H dx=some (.bY od (.xd [("row",.int i)]))/\oe.cls=.ref C/\oe.dict=some dx/\PySem.W.notCls oe=true
 | .obj c fs,a=>∃C dx fs',PySem.W.nsIn K mainGlobals ⟨c.toArray⟩=some (some (.ref C))/\H a=some (.ins C dx fs')/\fs'.map (·.1)=fs.map (λp=>(⟨p.1.toArray⟩:Str))/\au K ρ H (fs.map (·.2)) (fs'.map (·.2))
end
structure Ext (K:PySem.W.Frag)(ρ:List Addr)(H:Hp)(ρ':List Addr)(H':Hp):Prop where
 pre:∀(n:Nat) (a:Addr),ρ[n]?=some a->ρ'[n]?=some a
 tup:∀a xs,H a=some (.tup xs)->H' a=some (.tup xs)
 bY:∀a o u,H a=some (.bY o u)->H' a=some (.bY o u)
class R0 where
 rho:List Addr
 hp:Hp
variable [R0]
structure Rep (K:PySem.W.Frag)(ρ:List Addr)(h:Z.AH)(H:Hp):Prop where
 len:ρ.length=h.length
 nd:ρ.Nodup
 ext:Ext K R0.rho R0.hp ρ H
 at_:∀(n:Nat) (o:Z.AO),h[n]?=some o->∃a,ρ[n]?=some a/\kJ K ρ H o a
noncomputable def cJ (K:PySem.W.Frag) (ρ:List Addr) (H:Hp) (σ:Z.Lo) (τ:L2.St):Prop:=
 σ.length=τ.length/\∀(i:Nat) (d:Z.D),σ[i]?=some (some d)->∃v,τ[i]?=some (some v)/\ao K ρ H d v
section
variable {K:PySem.W.Frag}{ρ ρ' ajQ:List Addr}{H H' H'':Hp}{h h':Z.AH}
theorem Ext.refl:Ext K ρ H ρ H:=⟨λ_ _ e=>e,λ_ _ e=>e,λ_ _ _ e=>e⟩
theorem Ext.trans (a:Ext K ρ H ρ' H')(b:Ext K ρ' H' ajQ H''):Ext K ρ H ajQ H'':=
 ⟨λn x e=>b.pre n x (a.pre n x e),λx xs e=>b.tup x xs (a.tup x xs e),λx o u e=>b.bY x o u (a.bY x o u e)⟩
theorem Ext.sqT (e:Ext K ρ H ρ' H'){a:Addr}{xs:List V}(q:fQ K H a xs):fQ K H' a xs:=by
 rcases q with (q | ⟨o,q⟩) | q
 ·exact .inl (.inl (e.tup _ _ q))
 ·exact .inl (.inr ⟨o,e.bY _ _ _ q⟩)
 ·exact .inr q
theorem Ext.sqF (e:Ext K ρ H ρ' H'){a:Addr}{xs:List V}(q:Et K H a xs):Et K H' a xs:=by
 rcases q with ⟨o,q⟩ | q
 ·exact .inl ⟨o,e.bY _ _ _ q⟩
 ·exact .inr q
theorem Et.Ag {a:Addr}{xs:List V}(q:Et K H a xs):g_ K H a xs:=by
 rcases q with ⟨o,q⟩ | ⟨o,its,n,h1,h2,h3,h4,h5,h6,_⟩
 ·exact .inl (.inr ⟨o,q⟩)
 ·exact .inr ⟨o,its,n,h1,h2,h3,h4,h5,h6⟩
mutual
theorem ao.mono (e:Ext K ρ H ρ' H'):∀(d:Z.D) (v:V),ao K ρ H d v->ao K ρ' H' d v
 | .non,_,r=>by simp only[ao]at r ⊢;exact r
 | .bl _,_,r=>by simp only[ao]at r ⊢;exact r
 | .int _,_,r=>by simp only[ao]at r ⊢;exact r
 | .str _,_,r=>by simp only[ao]at r ⊢;exact r
 | .tup xs,v,r=>by
  simp only[ao]at r ⊢;obtain ⟨a,ys,e1,q,r⟩:=r;exact ⟨a,ys,e1,e.sqT q,au.mono e xs ys r⟩
 | .eY xs,v,r=>by
  simp only[ao]at r ⊢;obtain ⟨a,ys,e1,q,r⟩:=r;exact ⟨a,ys,e1,e.sqF q,au.mono e xs ys r⟩
 | .ref n,v,r=>by
  simp only[ao]at r ⊢;obtain ⟨a,e1,q⟩:=r;exact ⟨a,e1,e.pre _ _ q⟩
theorem au.mono (e:Ext K ρ H ρ' H'):∀(d:List Z.D) (v:List V),au K ρ H d v->au K ρ' H' d v
 | [],_,r=>by simp only[au]at r ⊢;exact r
 | x::xs,v,r=>by
  simp only[au]at r ⊢;obtain ⟨y,t,e1,q,r⟩:=r;exact ⟨y,t,e1,ao.mono e x y q,au.mono e xs t r⟩
end
theorem au.length:∀{xs:List Z.D} {ys:List V},au K ρ H xs ys->xs.length=ys.length
 | [],_,r=>by simp only[au]at r;subst r;rfl
 | x::xs,_,r=>by
  simp only[au]at r;obtain ⟨y,t,rfl,_,r⟩:=r;simp[au.length r]
theorem au.get:∀{xs:List Z.D} {ys:List V} {i:Nat} {x:Z.D},au K ρ H xs ys->xs[i]?=some x->∃y,ys[i]?=some y/\ao K ρ H x y
 | [],_,_,_,_,e=>by simp at e
 | x::xs,_,i,z,r,e=>by
  simp only[au]at r;obtain ⟨y,t,rfl,q,r⟩:=r;cases i with
  | zero=>simp at e;subst e;exact ⟨y,by simp,q⟩
  | succ i=>obtain ⟨w,e1,e2⟩:=au.get (i:=i) r (by simpa using e);exact ⟨w,by simpa using e1,e2⟩
theorem au.append:∀{xs xs':List Z.D} {ys ys':List V},au K ρ H xs ys->au K ρ H xs' ys'->au K ρ H (xs++xs') (ys++ys')
 | [],_,_,_,r,r'=>by simp only[au]at r;subst r;exact r'
 | x::xs,_,_,_,r,r'=>by
  simp only[au]at r;obtain ⟨y,t,rfl,q,r⟩:=r;show au K ρ H (x::(xs++_)) (y::(t++_));simp only[au];exact ⟨y,_,rfl,q,au.append r r'⟩
theorem au.one {x:Z.D}{y:V}(r:ao K ρ H x y):au K ρ H [x] [y]:=by
 simp only[au];exact ⟨y,[],rfl,r,rfl⟩
theorem au.take:∀{xs:List Z.D} {ys:List V} (n:Nat),au K ρ H xs ys->au K ρ H (xs.take n) (ys.take n)
 | [],_,n,r=>by simp only[au]at r;subst r;simp[au]
 | x::xs,_,0,r=>by simp[au]
 | x::xs,_,n+1,r=>by
  simp only[au]at r;obtain ⟨y,t,rfl,q,r⟩:=r;simp only[List.take_succ_cons,au];exact ⟨y,_,rfl,q,au.take n r⟩
theorem au.drop:∀{xs:List Z.D} {ys:List V} (n:Nat),au K ρ H xs ys->au K ρ H (xs.drop n) (ys.drop n)
 | [],_,n,r=>by simp only[au]at r;subst r;simp[au]
 | x::xs,_,0,r=>r
 | x::xs,_,n+1,r=>by
  simp only[au]at r;obtain ⟨y,t,rfl,q,r⟩:=r;simpa using au.drop n r
theorem au.set:∀{xs:List Z.D} {ys:List V} (n:Nat) {d:Z.D} {v:V},au K ρ H xs ys->ao K ρ H d v->au K ρ H (xs.set n d) (ys.set n v)
 | [],_,n,_,_,r,_=>by simp only[au]at r;subst r;simp[au]
 | x::xs,_,0,d,v,r,q'=>by
  simp only[au]at r;obtain ⟨y,t,rfl,q,r⟩:=r;simp only[List.set_cons_zero,au];exact ⟨v,t,rfl,q',r⟩
 | x::xs,_,n+1,d,v,r,q'=>by
  simp only[au]at r;obtain ⟨y,t,rfl,q,r⟩:=r;simp only[List.set_cons_succ,au];exact ⟨y,_,rfl,q,au.set n r q'⟩
theorem au.dropLast:∀{xs:List Z.D} {ys:List V},au K ρ H xs ys->au K ρ H xs.dropLast ys.dropLast:=λ{xs ys} r=>by
 rw[List.dropLast_eq_take,List.dropLast_eq_take,<-r.length];exact r.take _
theorem kJ.mono (e:Ext K ρ H ρ' H'){o:Z.AO}{a:Addr}(hs:H' a=H a)(r:kJ K ρ H o a):kJ K ρ' H' o a:=by
 cases o with
 | lst xs=>
  obtain ⟨ys,q,r⟩:=r;exact ⟨ys,hs.trans q,au.mono e _ _ r⟩
 | dct kvs=>
  obtain ⟨ys,q,q2,r,q3⟩:=r;exact ⟨ys,hs.trans q,q2,au.mono e _ _ r,q3⟩
 | obj c fs=>
  obtain ⟨C,dx,fs',hc,q,q2,r⟩:=r;exact ⟨C,dx,fs',hc,hs.trans q,q2,au.mono e _ _ r⟩
 | exc c=>
  obtain ⟨C,oe,hc,q,q2⟩:=r;exact ⟨C,oe,hc,hs.trans q,q2⟩
 | cW c i=>
  obtain ⟨C,oe,dx,od,hc,q,q1,q2⟩:=r;exact ⟨C,oe,dx,od,hc,hs.trans q,e.bY _ _ _ q1,q2⟩
theorem kJ.some {o:Z.AO}{a:Addr}(r:kJ K ρ H o a):∃u,H a=some u:=by
 cases o with
 | lst xs=>obtain ⟨ys,q,_⟩:=r;exact ⟨_,q⟩
 | dct kvs=>obtain ⟨ys,q,_⟩:=r;exact ⟨_,q⟩
 | obj c fs=>obtain ⟨C,dx,fs',hc,q,_⟩:=r;exact ⟨_,q⟩
 | exc c=>obtain ⟨C,oe,hc,q,_⟩:=r;exact ⟨_,q⟩
 | cW c i=>obtain ⟨C,oe,dx,od,hc,q,_⟩:=r;exact ⟨_,q⟩
theorem Rep.tracked (R:Rep K ρ h H){n:Nat}{a:Addr}(e:ρ[n]?=some a):∃u,H a=some u:=by
 have hn:n < h.length:=by rw[<-R.len];exact (List.getElem?_eq_some_iff.mp e).1
 obtain ⟨b,e1,r⟩:=R.at_ n h[n] (by simp[hn]);rw[e]at e1;cases e1;exact r.some
theorem Ext.fresh {p:Addr}{o:HO}(hp:H p=none):Ext K ρ H ρ (upd H p o):=
 ⟨λ_ _ e=>e,λa xs e=>by rw[aN (cT e hp)];exact e,λa ob u e=>by rw[aN (cT e hp)];exact e⟩
theorem Ext.alloc {p:Addr}{o:HO}(hp:H p=none):Ext K ρ H (ρ++[p]) (upd H p o):=
 ⟨λn a e=>by rw[List.getElem?_append_left (List.getElem?_eq_some_iff.mp e).1];exact e,λa xs e=>by rw[aN (cT e hp)];exact e,λa ob u e=>by rw[aN (cT e hp)];exact e⟩
theorem Rep.fresh (R:Rep K ρ h H){p:Addr}{o:HO}(hp:H p=none):Rep K ρ h (upd H p o):=
 ⟨R.len,R.nd,R.ext.trans (Ext.fresh hp),λn ob e=>by
  obtain ⟨a,e1,r⟩:=R.at_ n ob e;obtain ⟨u,hu⟩:=r.some;exact ⟨a,e1,kJ.mono (Ext.fresh hp) (aN (cT hu hp)) r⟩⟩
theorem Rep.alloc (R:Rep K ρ h H){p:Addr}{o:HO}{ob:Z.AO}(hp:H p=none)(r:kJ K (ρ++[p]) (upd H p o) ob p):Rep K (ρ++[p]) (h++[ob]) (upd H p o):=by
 refine ⟨by simp[R.len],?_,R.ext.trans (Ext.alloc hp),λn ob' e=>?_⟩
 ·refine List.nodup_append.mpr ⟨R.nd,by simp,λa ha b hb=>?_⟩;obtain ⟨n,hn,e⟩:=List.getElem_of_mem ha;obtain ⟨u,hu⟩:=R.tracked (n:=n) (a:=a) (by rw[List.getElem?_eq_getElem hn,e]);rw[List.mem_singleton]at hb;subst hb;exact cT hu hp
 ·by_cases hn:n < h.length
  ·rw[List.getElem?_append_left hn]at e;obtain ⟨a,e1,r1⟩:=R.at_ n ob' e;obtain ⟨u,hu⟩:=r1.some;exact ⟨a,(Ext.alloc (K:=K) (o:=o) hp).pre _ _ e1,kJ.mono (Ext.alloc hp) (aN (cT hu hp)) r1⟩
  ·have hl:n=h.length:=by
    have:=(List.getElem?_eq_some_iff.mp e).1;simp at this;omega
   subst hl;rw[List.getElem?_append_right (Nat.le_refl _)]at e;simp at e;subst e;exact ⟨p,by rw[<-R.len,List.getElem?_append_right (Nat.le_refl _)];simp,r⟩
theorem Ext.write {a:Addr}{o u:HO}(hu:H a=some u)(h1:∀xs,u≠.tup xs)(h2:∀ob w,u≠.bY ob w):Ext K ρ H ρ (upd H a o):=
 ⟨λ_ _ e=>e,λb xs e=>by rw[aN (Rt e hu λz=>h1 xs z.symm)];exact e,λb ob w e=>by rw[aN (Rt e hu λz=>h2 ob w z.symm)];exact e⟩
theorem Rep.write (R:Rep K ρ h H){n:Nat}{a:Addr}{o u:HO}{ob:Z.AO}(hn:ρ[n]?=some a)(hu:H a=some u)(h1:∀xs,u≠.tup xs)(h2:∀ob w,u≠.bY ob w)
  (r:kJ K ρ (upd H a o) ob a):Rep K ρ (h.set n ob) (upd H a o):=by
 refine ⟨by simp[R.len],R.nd,R.ext.trans (Ext.write hu h1 h2),λm ob' e=>?_⟩;by_cases hm:m=n
 ·subst hm;rw[List.getElem?_set_self (by rw[<-R.len];exact (List.getElem?_eq_some_iff.mp hn).1)]at e;cases e;exact ⟨a,hn,r⟩
 ·rw[List.getElem?_set_ne (Ne.symm hm)]at e;obtain ⟨b,e1,r1⟩:=R.at_ m ob' e;refine ⟨b,e1,kJ.mono (Ext.write hu h1 h2) (aN λz=>hm ?_) r1⟩;subst z;exact Af R.nd e1 hn
theorem cJ.mono (e:Ext K ρ H ρ' H'){σ:Z.Lo}{τ:L2.St}(r:cJ K ρ H σ τ):cJ K ρ' H' σ τ:=
 ⟨r.1,λi d q=>let ⟨v,q1,q2⟩:=r.2 i d q;⟨v,q1,ao.mono e d v q2⟩⟩
theorem cJ.set {σ:Z.Lo}{τ:L2.St}{i:Nat}{d:Z.D}{v:V}(r:cJ K ρ H σ τ)(q:ao K ρ H d v):cJ K ρ H (σ.set i (some d)) (τ.set i (some v)):=by
 refine ⟨by simp[r.1],λj e hj=>?_⟩;by_cases hij:i=j
 ·subst hij;have hl:i < σ.length:=by have:=(List.getElem?_eq_some_iff.mp hj).1;simpa using this
  rw[List.getElem?_set_self hl]at hj;cases hj;exact ⟨v,by rw[List.getElem?_set_self (by rw[<-r.1];exact hl)],q⟩
 ·rw[List.getElem?_set_ne hij]at hj;rw[List.getElem?_set_ne hij];exact r.2 j e hj
end
end ZS
namespace ZS
open PySem PySem.Spec PyProof.Rows L2
variable [R0]
noncomputable def upE (K:PySem.W.Frag) (w:Z.Lo->Z.AH->Z.PV->Prop):TE:=λσ H Q=>∃ρ h τ Q',Rep K ρ h H/\cJ K ρ H τ σ/\w τ h Q'/\
 ∀d h' ρ' H' v,Ext K ρ H ρ' H'->Rep K ρ' h' H'->ao K ρ' H' d v->Q' d h'->Q v H'
noncomputable def YC (K:PySem.W.Frag) (w:Z.Lo->Z.AH->(List Z.D->Z.AH->Prop)->Prop):TA:=λσ H Q=>∃ρ h τ Q',Rep K ρ h H/\cJ K ρ H τ σ/\w τ h Q'/\
 ∀ds h' ρ' H' vs,Ext K ρ H ρ' H'->Rep K ρ' h' H'->au K ρ' H' ds vs->Q' ds h'->Q vs H'
noncomputable def Qh (K:PySem.W.Frag) (w:Z.Lo->Z.AH->(Bool->Z.AH->Prop)->Prop):TT:=λσ H Q=>∃ρ h τ Q',Rep K ρ h H/\cJ K ρ H τ σ/\w τ h Q'/\
 ∀c h' ρ' H',Ext K ρ H ρ' H'->Rep K ρ' h' H'->Q' c h'->Q c H'
structure L_ (K:PySem.W.Frag)(ρ:List Addr)(H:Hp)(N:Z.En)(D:Ends):Prop where
 nx:∀τ h' ρ' H' σ,Ext K ρ H ρ' H'->Rep K ρ' h' H'->cJ K ρ' H' τ σ->N.nx τ h'->D.nx σ H'
 rt:∀d h' ρ' H' v,Ext K ρ H ρ' H'->Rep K ρ' h' H'->ao K ρ' H' d v->N.rt d h'->D.rt v H'
 bk:∀τ h' ρ' H' σ,Ext K ρ H ρ' H'->Rep K ρ' h' H'->cJ K ρ' H' τ σ->N.bk τ h'->D.bk σ H'
 ct:∀τ h' ρ' H' σ,Ext K ρ H ρ' H'->Rep K ρ' h' H'->cJ K ρ' H' τ σ->N.ct τ h'->D.ct σ H'
theorem L_.mono {K:PySem.W.Frag}{ρ aL:List Addr}{H H1:Hp}{N:Z.En}{D:Ends}(k:L_ K ρ H N D)(e:Ext K ρ H aL H1):L_ K aL H1 N D:=
 ⟨λτ h' ρ' H' σ e'=>k.nx τ h' ρ' H' σ (e.trans e'),λd h' ρ' H' v e'=>k.rt d h' ρ' H' v (e.trans e'),λτ h' ρ' H' σ e'=>k.bk τ h' ρ' H' σ (e.trans e'),λτ h' ρ' H' σ e'=>k.ct τ h' ρ' H' σ (e.trans e')⟩
noncomputable def upS (K:PySem.W.Frag) (w:Z.En->Z.Lo->Z.AH->Prop):TS:=λD σ H=>∃ρ h τ N,Rep K ρ h H/\cJ K ρ H τ σ/\w N τ h/\L_ K ρ H N D
noncomputable def rP (K:PySem.W.Frag) (sub:Nat->Nat->Bool) (p:Z.Prim) (vs:List V) (H:Hp) (Q:VK):Prop:=∃ρ h ds d h',Rep K ρ h H/\au K ρ H ds vs/\Z.prim sub p ds h=some (d,h')/\
 ∀ρ' H' v,Ext K ρ H ρ' H'->Rep K ρ' h' H'->ao K ρ' H' d v->Q v H'
theorem fX {X:Cx}{e:Expr}{t t':TE}(h:PE X e t)(w:∀σ H Q,t' σ H Q->t σ H Q):PE X e t':=λpins s σ H Q I q=>h pins s σ H Q I (w _ _ _ q)
theorem PTw {X:Cx}{e:Expr}{t t':TT}(h:PT X e t)(w:∀σ H Q,t' σ H Q->t σ H Q):PT X e t':=λpins s σ H Q I q=>h pins s σ H Q I (w _ _ _ q)
theorem PAw {X:Cx}{e:List Expr}{t t':TA}(h:PA X e t)(w:∀σ H Q,t' σ H Q->t σ H Q):PA X e t':=λpos pins s σ H Q I q=>h pos pins s σ H Q I (w _ _ _ q)
theorem Gv {X:Cx}{e:Stmt}{t t':TS}(h:PS X e t)(w:∀D σ H,t' D σ H->t D σ H):PS X e t':=λpins s σ H D I q=>h pins s σ H D I (w _ _ _ q)
theorem aeE {X:Cx}{e:List Stmt}{t t':TS}(h:lX X e t)(w:∀D σ H,t' D σ H->t D σ H):lX X e t':=λpins s σ H D I q=>h pins s σ H D I (w _ _ _ q)
theorem uE {X:Cx}{f:Value->Value->Sem Value}{r r':R2}(h:bT X f r)(w:∀x y H Q,r' x y H Q->r x y H Q):bT X f r':=λpins s σ H x y v u Q I rx ry q=>h pins s σ H x y v u Q I rx ry (w _ _ _ _ q)
theorem aeF {X:Cx}{f:Value}{r r':List V->Hp->VK->Prop}(h:eV X f r)(w:∀xs H Q,r' xs H Q->r xs H Q):eV X f r':=λpins s σ H x v Q I rx q=>h pins s σ H x v Q I rx (w _ _ _ q)
theorem aeG {X:Cx}{id:String}{r r':V->List V->Hp->VK->Prop}(h:uP X id r)(w:∀x xs H Q,r' x xs H Q->r x xs H Q):uP X id r':=λpins s σ H x xs v us Q I rx ry q=>h pins s σ H x xs v us Q I rx ry (w _ _ _ _ q)
theorem al0 {X:Cx}{r r':V->Option Int->Option Int->Hp->VK->Prop}(h:wY X r)(w:∀x lo hi H Q,r' x lo hi H Q->r x lo hi H Q):wY X r':=by
 unfold wY at h ⊢;intros;apply h<;>first | assumption | (apply w;assumption)
section
variable {X:Cx}{sub:Nat->Nat->Bool}{Γ:Z.b_}{E:Z.PX}
noncomputable abbrev LE (X:Cx) (sub:Nat->Nat->Bool) (Γ:Z.b_) (E:Z.PX) (e:Expr) (i:Z.Ex):Prop:=PE X e (upE X.K (Z.aM sub Γ E i))
noncomputable abbrev LT (X:Cx) (sub:Nat->Nat->Bool) (Γ:Z.b_) (E:Z.PX) (e:Expr) (i:Z.Tx):Prop:=PT X e (Qh X.K (Z.cQ sub Γ E i))
noncomputable abbrev LA (X:Cx) (sub:Nat->Nat->Bool) (Γ:Z.b_) (E:Z.PX) (e:List Expr) (i:Z.cN):Prop:=PA X e (YC X.K (Z.bH sub Γ E i))
noncomputable abbrev LS (X:Cx) (sub:Nat->Nat->Bool) (Γ:Z.b_) (E:Z.PX) (e:Stmt) (i:Z.Sm):Prop:=PS X e (upS X.K (Z.wpS sub Γ E i))
noncomputable abbrev qK (X:Cx) (sub:Nat->Nat->Bool) (Γ:Z.b_) (E:Z.PX) (e:List Stmt) (i:Z.aB):Prop:=lX X e (upS X.K (Z.bN sub Γ E i))
theorem Ib {K:PySem.W.Frag}{ρ:List Addr}{H:Hp}{a b:Z.D}{x y:V}(r1:ao K ρ H a x)(r2:ao K ρ H b y):au K ρ H [a,b] [x,y]:=by
 simp only[au];exact ⟨x,_,rfl,r1,y,_,rfl,r2,rfl⟩
theorem al1 {K:PySem.W.Frag}{ρ:List Addr}{H:Hp}{a b c:Z.D}{x y z:V}(r1:ao K ρ H a x)(r2:ao K ρ H b y)(r3:ao K ρ H c z):au K ρ H [a,b,c] [x,y,z]:=by
 simp only[au];exact ⟨x,_,rfl,r1,y,_,rfl,r2,z,_,rfl,r3,rfl⟩
theorem aeH {i:Nat}{x:Str}{pos:Pos}(hN:X.N[i]?=some x)(hv:Gj X.env.scope x)(hd:(x == ("__debug__":Str))=false)(hcd:(x == ("__classdict__":Str))=false):LE X sub Γ E (.Name x pos) (.var i):=by
 refine fX (Lp hN hv hd hcd) ?_;rintro σ H Q ⟨ρ,h,τ,Q',R,L,w,k⟩;simp only[Z.aM]at w;cases q:τ[i]? with
 | none=>rw[q]at w;exact w.elim
 | some o=>
  cases o with
  | none=>rw[q]at w;exact w.elim
  | some d=>
   rw[q]at w;obtain ⟨v,e,r⟩:=L.2 i d q;exact ⟨v,e,k d h ρ H v .refl R r w⟩
theorem Ah {e:Expr}{d:Z.D}{v:V}(he:PE X e (tC v))(r:∀ρ H,ao X.K ρ H d v):LE X sub Γ E e (.lit d):=by
 refine fX he ?_;rintro σ H Q ⟨ρ,h,τ,Q',R,L,w,k⟩;exact k d h ρ H v .refl R (r ρ H) w
theorem aF {a b:Expr}{a' b':Z.Ex}{op:Operator}{p:Z.Prim}{pos:Pos}(ho:bT X (binaryOp op) (λx y=>rP X.K sub p [x,y]))(ha:LE X sub Γ E a a')(hb:LE X sub Γ E b b'):
  LE X sub Γ E (.BinOp a op b pos) (.prim p (.cons a' (.cons b' .nil))):=by
 refine fX (ah_ ho ha hb) ?_;rintro σ H Q ⟨ρ,h,τ,Q',R,L,w,k⟩;simp only[Z.aM,Z.bH]at w;refine ⟨ρ,h,τ,_,R,L,w,λd1 h1 aL H1 x e1 R1 r1 w1=>⟨aL,h1,τ,_,R1,L.mono e1,w1,λd2 h2 bQ H2 y e2 R2 r2 w2=>?_⟩⟩;cases q:Z.prim sub p [d1,d2] h2 with
 | none=>rw[q]at w2;exact w2.elim
 | some z=>
  rw[q]at w2;exact ⟨bQ,h2,[d1,d2],z.1,z.2,R2,Ib (ao.mono e2 _ _ r1) r2,q,λρ' H' v e' R' r'=>k _ _ ρ' H' v (e1.trans (e2.trans e')) R' r' w2⟩
theorem sI {a:Expr}{a':Z.Ex}{op:UnaryOp}{p:Z.Prim}{pos:Pos}(ho:P_ X (unaryOp op) (λx=>rP X.K sub p [x]))(ha:LE X sub Γ E a a'):
  LE X sub Γ E (.UnaryOp op a pos) (.prim p (.cons a' .nil)):=by
 refine fX (aia ho ha) ?_;rintro σ H Q ⟨ρ,h,τ,Q',R,L,w,k⟩;simp only[Z.aM,Z.bH]at w;refine ⟨ρ,h,τ,_,R,L,w,λd1 h1 aL H1 x e1 R1 r1 w1=>?_⟩;cases q:Z.prim sub p [d1] h1 with
 | none=>rw[q]at w1;exact w1.elim
 | some z=>
  rw[q]at w1;exact ⟨aL,h1,[d1],z.1,z.2,R1,.one r1,q,λρ' H' v e' R' r'=>k _ _ ρ' H' v (e1.trans e') R' r' w1⟩
theorem nM {a b:Expr}{a' b':Z.Ex}{op:CmpOp}{p:Z.Prim}{pos:Pos}(ho:bT X (compareOp op) (λx y=>rP X.K sub p [x,y]))(ha:LE X sub Γ E a a')(hb:LE X sub Γ E b b')(hm:behindInMarks op b=false):
  LE X sub Γ E (.Compare a [op] [b] pos) (.prim p (.cons a' (.cons b' .nil))):=by
 refine fX (HY ho ha hb hm) ?_;rintro σ H Q ⟨ρ,h,τ,Q',R,L,w,k⟩;simp only[Z.aM,Z.bH]at w;refine ⟨ρ,h,τ,_,R,L,w,λd1 h1 aL H1 x e1 R1 r1 w1=>⟨aL,h1,τ,_,R1,L.mono e1,w1,λd2 h2 bQ H2 y e2 R2 r2 w2=>?_⟩⟩;cases q:Z.prim sub p [d1,d2] h2 with
 | none=>rw[q]at w2;exact w2.elim
 | some z=>
  rw[q]at w2;exact ⟨bQ,h2,[d1,d2],z.1,z.2,R2,Ib (ao.mono e2 _ _ r1) r2,q,λρ' H' v e' R' r'=>k _ _ ρ' H' v (e1.trans (e2.trans e')) R' r' w2⟩
theorem le_none {a:Expr}{a':Z.Ex}{op:CmpOp}{p:Z.Prim}{pos pos':Pos}{j:Nat}(ho:bT X (compareOp op) (λx y H Q=>y=.non/\rP X.K sub p [x] H Q))(ha:LE X sub Γ E a a')(hm:behindInMarks op (.Constant .none j pos')=false):
  LE X sub Γ E (.Compare a [op] [.Constant .none j pos'] pos) (.prim p (.cons a' .nil)):=by
 refine fX (HY ho ha Lq hm) ?_;rintro σ H Q ⟨ρ,h,τ,Q',R,L,w,k⟩;simp only[Z.aM,Z.bH]at w;refine ⟨ρ,h,τ,_,R,L,w,λd1 h1 aL H1 x e1 R1 r1 w1=>?_⟩;cases q:Z.prim sub p [d1] h1 with
 | none=>rw[q]at w1;exact w1.elim
 | some z=>
  rw[q]at w1;exact ⟨rfl,aL,h1,[d1],z.1,z.2,R1,.one r1,q,λρ' H' v e' R' r'=>k _ _ ρ' H' v (e1.trans e') R' r' w1⟩
theorem uQ {a b:Expr}{rest:List Expr}{a' b':Z.Ex}{pos:Pos}(ha:LE X sub Γ E a a')(hb:LE X sub Γ E (.BoolOp .And (b::rest) pos) b'):LE X sub Γ E (.BoolOp .And (a::b::rest) pos) (.uy a' b'):=by
 refine fX (adZ ha hb) ?_;rintro σ H Q ⟨ρ,h,τ,Q',R,L,w,k⟩;simp only[Z.aM]at w;refine ⟨ρ,h,τ,_,R,L,w,λd1 h1 aL H1 x e1 R1 r1 w1=>?_⟩;cases d1 with
 | bl c=>
  simp only[ao]at r1;cases c with
  | true=>exact ⟨true,r1,by rw[if_pos rfl];exact ⟨aL,h1,τ,_,R1,L.mono e1,w1,λd h' ρ' H' v e'=>k d h' ρ' H' v (e1.trans e')⟩⟩
  | false=>exact ⟨false,r1,by rw[if_neg (by decide)];exact k _ h1 aL H1 _ e1 R1 (by simp only[ao]) w1⟩
 | _=>exact w1.elim
theorem Ai {op:BoolOp}{a:Expr}{a':Z.Ex}{pos:Pos}(ha:LE X sub Γ E a a'):LE X sub Γ E (.BoolOp op [a] pos) a':=adY ha
theorem Gw {c a b:Expr}{c':Z.Tx}{a' b':Z.Ex}{pos:Pos}(hc:LT X sub Γ E c c')(ha:LE X sub Γ E a a')(hb:LE X sub Γ E b b'):LE X sub Γ E (.IfExp c a b pos) (.ite c' a' b'):=by
 refine fX (Ym hc ha hb) ?_;rintro σ H Q ⟨ρ,h,τ,Q',R,L,w,k⟩;simp only[Z.aM]at w;refine ⟨ρ,h,τ,_,R,L,w,λc h1 aL H1 e1 R1 w1=>?_⟩;cases c with
 | true=>rw[if_pos rfl]at w1 ⊢;exact ⟨aL,h1,τ,_,R1,L.mono e1,w1,λd h' ρ' H' v e'=>k d h' ρ' H' v (e1.trans e')⟩
 | false=>rw[if_neg (by decide)]at w1 ⊢;exact ⟨aL,h1,τ,_,R1,L.mono e1,w1,λd h' ρ' H' v e'=>k d h' ρ' H' v (e1.trans e')⟩
theorem YD {a b c:Expr}{a' b' c':Z.Ex}{op op':CmpOp}{p p':Z.Prim}{pos:Pos}(ho:bT X (compareOp op) (λx y=>rP X.K sub p [x,y]))(ho':bT X (compareOp op') (λx y=>rP X.K sub p' [x,y]))
  (ha:LE X sub Γ E a a') (hb:LE X sub Γ E b b') (hc:LE X sub Γ E c c') (hm:lastMarks [op,op'] [b,c]=false):
  LE X sub Γ E (.Compare a [op,op'] [b,c] pos) (.chain p p' a' b' c'):=by
 refine fX (Yt ho ho' ha hb hc hm) ?_;rintro σ H Q ⟨ρ,h,τ,Q',R,L,w,k⟩;simp only[Z.aM]at w;refine ⟨ρ,h,τ,_,R,L,w,λd1 h1 aL H1 x e1 R1 r1 w1=>⟨aL,h1,τ,_,R1,L.mono e1,w1,λd2 h2 bQ H2 y e2 R2 r2 w2=>?_⟩⟩;cases q:Z.prim sub p [d1,d2] h2 with
 | none=>rw[q]at w2;exact w2.elim
 | some z=>
  obtain ⟨z,h3⟩:=z;rw[q]at w2;refine ⟨bQ,h2,[d1,d2],z,h3,R2,Ib (ao.mono e2 _ _ r1) r2,q,λjO H3 v e3 R3 r3=>?_⟩;cases z with
  | bl c=>
   simp only[ao]at r3;refine ⟨c,r3,?_⟩;cases c with
   | false=>rw[if_neg (by decide)];exact k _ h3 jO H3 _ (e1.trans (e2.trans e3)) R3 (by simp only[ao]) w2
   | true=>
    rw[if_pos rfl];refine ⟨jO,h3,τ,_,R3,L.mono (e1.trans (e2.trans e3)),w2,λd4 h4 ρ4 H4 y4 e4 R4 r4 w4=>?_⟩;cases q':Z.prim sub p' [d2,d4] h4 with
    | none=>rw[q']at w4;exact w4.elim
    | some z=>
     rw[q']at w4;exact ⟨ρ4,h4,[d2,d4],z.1,z.2,R4,Ib (ao.mono (e3.trans e4) _ _ r2) r4,q',λρ' H' v e' R' r'=>k _ _ ρ' H' v (e1.trans (e2.trans (e3.trans (e4.trans e')))) R' r' w4⟩
  | _=>exact w2.elim
theorem aA:LA X sub Γ E [] .nil:=by
 refine PAw nH ?_;rintro σ H Q ⟨ρ,h,τ,Q',R,L,w,k⟩;simp only[Z.bH]at w;exact k [] h ρ H [] .refl R (by simp only[au]) w
theorem ab1 {e:Expr}{es:List Expr}{e':Z.Ex}{es':Z.cN}(he:LE X sub Γ E e e')(hes:LA X sub Γ E es es')(hs:starEach (e::es) X.env=(false,eval e X.env)::starEach es X.env):LA X sub Γ E (e::es) (.cons e' es'):=by
 refine PAw (fV he hes hs) ?_;rintro σ H Q ⟨ρ,h,τ,Q',R,L,w,k⟩;simp only[Z.bH]at w;refine ⟨ρ,h,τ,_,R,L,w,λd1 h1 aL H1 x e1 R1 r1 w1=>⟨aL,h1,τ,_,R1,L.mono e1,w1,λds h2 bQ H2 xs e2 R2 r2 w2=>?_⟩⟩;exact k _ h2 bQ H2 _ (e1.trans e2) R2 (by simp only[au];exact ⟨x,xs,rfl,ao.mono e2 _ _ r1,r2⟩) w2
theorem jP:Z.lim=sizeLine:=by rw[sizeLine_eq];rfl
theorem aeI {sub:Nat->Nat->Bool}:Z.prim sub .dW=Z.X5:=rfl
theorem aeJ {sub:Nat->Nat->Bool}:Z.prim sub .bG=Z.newL:=rfl
theorem d8 {es:List Expr}{es':Z.cN}{k:Nat}{pos:Pos}(h:LA X sub Γ E es es'):LE X sub Γ E (.Tuple es k pos) (.prim .dW es'):=by
 refine fX (aek h) ?_;rintro σ H Q ⟨ρ,h,τ,Q',R,L,w,k⟩;simp only[Z.aM]at w;refine ⟨ρ,h,τ,_,R,L,w,λds h1 aL H1 xs e1 R1 r1 w1=>?_⟩;simp only[aeI,Z.X5]at w1;by_cases hl:ds.length<=Z.lim
 ·rw[if_pos hl]at w1;refine ⟨by rw[<-r1.length,<-jP];exact hl,λp hp=>?_⟩;have e2:Ext X.K aL H1 aL (upd H1 p (.tup xs)):=Ext.fresh hp;exact k _ h1 aL _ _ (e1.trans e2) (R1.fresh hp) (by simp only[ao];exact ⟨p,xs,rfl,.of aZ,au.mono e2 _ _ r1⟩) w1
 ·rw[if_neg hl]at w1;exact w1.elim
theorem h_ {K:PySem.W.Frag}{ρ:List Addr}{h:Z.AH}{H:Hp}{ds:List Z.D}{vs:List V}{p:Addr}(R:Rep K ρ h H)(r:au K ρ H ds vs)(hp:H p=none):
  Ext K ρ H (ρ++[p]) (upd H p (.lst vs))/\Rep K (ρ++[p]) (h++[.lst ds]) (upd H p (.lst vs))/\ao K (ρ++[p]) (upd H p (.lst vs)) (.ref h.length) (.ref p):=by
 have e:Ext K ρ H (ρ++[p]) (upd H p (.lst vs)):=Ext.alloc hp;exact ⟨e,R.alloc hp ⟨vs,aZ,au.mono e _ _ r⟩,by simp only[ao];exact ⟨p,rfl,by rw[<-R.len,List.getElem?_append_right (Nat.le_refl _)];simp⟩⟩
theorem aY {es:List Expr}{es':Z.cN}{pos:Pos}(h:LA X sub Γ E es es'):LE X sub Γ E (.List es pos) (.prim .bG es'):=by
 refine fX (ael h) ?_;rintro σ H Q ⟨ρ,h,τ,Q',R,L,w,k⟩;simp only[Z.aM]at w;refine ⟨ρ,h,τ,_,R,L,w,λds h1 aL H1 xs e1 R1 r1 w1=>?_⟩;simp only[aeJ,Z.newL]at w1;by_cases hl:ds.length<=Z.lim
 ·rw[if_pos hl]at w1;refine ⟨by rw[<-r1.length,<-jP];exact hl,λp hp=>?_⟩;obtain ⟨e2,R2,r2⟩:=h_ R1 r1 hp;exact k _ _ _ _ _ (e1.trans e2) R2 r2 w1
 ·rw[if_neg hl]at w1;exact w1.elim
theorem ais {a b:Expr}{a' b':Z.Ex}{p:Z.Prim}{pos:Pos}(ho:uO X (λx y=>rP X.K sub p [x,y]))(ha:LE X sub Γ E a a')(hb:LE X sub Γ E b b')(hs:uN b):
  LE X sub Γ E (.Subscript a b pos) (.prim p (.cons a' (.cons b' .nil))):=by
 refine fX (aaO ho ha hb hs) ?_;rintro σ H Q ⟨ρ,h,τ,Q',R,L,w,k⟩;simp only[Z.aM,Z.bH]at w;refine ⟨ρ,h,τ,_,R,L,w,λd1 h1 aL H1 x e1 R1 r1 w1=>⟨aL,h1,τ,_,R1,L.mono e1,w1,λd2 h2 bQ H2 y e2 R2 r2 w2=>?_⟩⟩;cases q:Z.prim sub p [d1,d2] h2 with
 | none=>rw[q]at w2;exact w2.elim
 | some z=>
  rw[q]at w2;exact ⟨bQ,h2,[d1,d2],z.1,z.2,R2,Ib (ao.mono e2 _ _ r1) r2,q,λρ' H' v e' R' r'=>k _ _ ρ' H' v (e1.trans (e2.trans e')) R' r' w2⟩
theorem YF {x:Str}{id:String}{e:Expr}{es:List Expr}{es':Z.cN}{p:Z.Prim}{q pos:Pos}(hc:eV X (.builtin id) (rP X.K sub p))(hg:Gl X x)(hm:X.mg x=none)(hv:bootBuiltins x=some (.builtin id))
  (ha:LA X sub Γ E (e::es) es') (hn:x≠"__name__") (hdb:(x == ("__debug__":Str))=false) (he:starEach (e::es) X.env=(false,eval e X.env)::starEach es X.env) (hpl:(backTo pos (starEach es X.env)).any (·.1)=false):
  LE X sub Γ E (.Call (.Name x q) (e::es) [] pos) (.prim p es'):=by
 refine fX (wg hc hg hm hv ha hn hdb he hpl) ?_;rintro σ H Q ⟨ρ,h,τ,Q',R,L,w,k⟩;simp only[Z.aM]at w;refine ⟨ρ,h,τ,_,R,L,w,λds h1 aL H1 xs e1 R1 r1 w1=>?_⟩;cases q:Z.prim sub p ds h1 with
 | none=>rw[q]at w1;exact w1.elim
 | some z=>
  rw[q]at w1;exact ⟨aL,h1,ds,z.1,z.2,R1,r1,q,λρ' H' v e' R' r'=>k _ _ ρ' H' v (e1.trans e') R' r' w1⟩
noncomputable def Gx:Z.MK->String
 | .list=>"list" | .str=>"str" | .dict=>"dict" | .int=>"int" | .tuple=>"tuple"
theorem aaW {K:PySem.W.Frag}{ρ:List Addr}{h:Z.AH}{H:Hp}{m:Z.MK}{d:Z.D}{v:V}(hm:m≠.dict)(hm2:m≠.tuple)(R:Rep K ρ h H)(r:ao K ρ H d v)(t:Z.tyB h m d=true):tyV K (Gx m) v H:=by
 cases m<;>cases d<;>simp only[Z.tyB]at t<;>try cases t
 ·simp only[ao]at r;obtain ⟨a,ys,rfl,q,_⟩:=r;exact .inl ⟨rfl,ys,q.Ag⟩
 ·rename_i n;simp only[ao]at r;obtain ⟨a,rfl,q⟩:=r;cases e:h[n]? with
  | none=>rw[e]at t;cases t
  | some o=>
   rw[e]at t;cases o with
   | lst xs=>
    obtain ⟨b,e1,ys,e2,_⟩:=R.at_ n _ e;rw[q]at e1;cases e1;exact .inl ⟨rfl,ys,.of e2⟩
   | _=>cases t
 ·simp only[ao]at r;obtain ⟨rfl,_⟩:=r;rfl
 ·exact absurd rfl hm
 ·simp only[ao]at r;subst r;rfl
 ·exact absurd rfl hm2
theorem aeK {o e:Expr}{es:List Expr}{o':Z.Ex}{es':Z.cN}{m:Z.MK}{p:Z.Prim}{name:Str}{apos cpos:Pos}{id:String}(hmk:m≠.dict)(hmt:m≠.tuple)(pa:PlainAttrs (Gx m))(slot:Slot (Gx m) name id)(hty:typeOf (.builtin id)=pure (.type "method_descriptor"))
  (hm:uP X id (λx xs=>rP X.K sub p (x::xs))) (ho:LE X sub Γ E o o') (ha:LA X sub Γ E (e::es) es') (hbase:attributeBase o name X.env (eval o X.env)=eval o X.env)
  (hfew:((backTo cpos (starEach (e::es) X.env)).all (λx=>!x.1) && (backToKw cpos (keywordEach [] X.env)).all (λx=>x.1.isSome)
   && decide ((e::es).length+([]:List Keyword).length+(if ([]:List Keyword).isEmpty then 0 else 1) < 30))=true)
  (hline:(apos.endLine == cpos.line)=true) (hs:starEach (e::es) X.env=(false,eval e X.env)::starEach es X.env) (hplain:(backTo cpos (starEach es X.env)).any (·.1)=false):
  LE X sub Γ E (.Call (.Attribute o name apos) (e::es) [] cpos) (.fC m p o' es'):=by
 refine fX (aio pa slot hty hm ho ha hbase hfew hline hs hplain) ?_;rintro σ H Q ⟨ρ,h,τ,Q',R,L,w,k⟩;simp only[Z.aM]at w;refine ⟨ρ,h,τ,_,R,L,w,λd1 h1 aL H1 x e1 R1 r1 w1=>⟨aaW hmk hmt R1 r1 w1.1,aL,h1,τ,_,R1,L.mono e1,w1.2,λds h2 bQ H2 xs e2 R2 r2 w2=>?_⟩⟩;cases q:Z.prim sub p (d1::ds) h2 with
 | none=>rw[q]at w2;exact w2.elim
 | some z=>
  rw[q]at w2;exact ⟨bQ,h2,d1::ds,z.1,z.2,R2,by simp only[au];exact ⟨x,xs,rfl,ao.mono e2 _ _ r1,r2⟩,q,λρ' H' v e' R' r'=>k _ _ ρ' H' v (e1.trans (e2.trans e')) R' r' w2⟩
theorem ab3 {o:Expr}{o':Z.Ex}{m:Z.MK}{p:Z.Prim}{name:Str}{apos cpos:Pos}{id:String}(hmk:m≠.dict)(hmt:m≠.tuple)(pa:PlainAttrs (Gx m))(slot:Slot (Gx m) name id)(hty:typeOf (.builtin id)=pure (.type "method_descriptor"))
  (hm:uP X id (λx xs=>rP X.K sub p (x::xs))) (ho:LE X sub Γ E o o') (hbase:attributeBase o name X.env (eval o X.env)=eval o X.env) (hline:(apos.endLine == cpos.line)=true):
  LE X sub Γ E (.Call (.Attribute o name apos) [] [] cpos) (.fC m p o' .nil):=by
 refine fX (aex pa slot hty hm ho hbase hline) ?_;rintro σ H Q ⟨ρ,h,τ,Q',R,L,w,k⟩;simp only[Z.aM,Z.bH]at w;refine ⟨ρ,h,τ,_,R,L,w,λd1 h1 aL H1 x e1 R1 r1 w1=>⟨aaW hmk hmt R1 r1 w1.1,?_⟩⟩;obtain ⟨_,w2⟩:=w1;cases q:Z.prim sub p [d1] h1 with
 | none=>rw[q]at w2;exact w2.elim
 | some z=>
  rw[q]at w2;exact ⟨aL,h1,[d1],z.1,z.2,R1,.one r1,q,λρ' H' v e' R' r'=>k _ _ ρ' H' v (e1.trans e') R' r' w2⟩
theorem aeL {K:PySem.W.Frag}{ρ:List Addr}{h:Z.AH}{H:Hp}{d:Z.D}{v:V}{c:Bool}(R:Rep K ρ h H)(r:ao K ρ H d v)(t:Z.truthy h d=some c):Yu K v H c:=by
 cases d with
 | non=>simp only[ao]at r;subst r;simp only[Z.truthy]at t;cases t;rfl
 | bl b=>simp only[ao]at r;subst r;simp only[Z.truthy]at t;cases t;rfl
 | int i=>simp only[ao]at r;subst r;simp only[Z.truthy]at t;cases t;rfl
 | str s=>
  simp only[ao]at r;obtain ⟨rfl,hl⟩:=r;simp only[Z.truthy]at t;cases t;refine ⟨by rw[<-jP];exact hl,?_⟩;show (!s.isEmpty)=(((⟨s.toArray⟩:Str).length:Int) != 0);cases s with
  | nil=>rfl
  | cons a b=>
   show true=_;symm;rw[bne_iff_ne];show ((a::b).toArray.size:Int)≠0;simp;omega
 | tup xs=>
  simp only[ao]at r;obtain ⟨a,ys,rfl,q,rs⟩:=r;simp only[Z.truthy]at t;cases t;refine .inr (.inl ⟨ys,q,?_⟩);have:=rs.length;cases xs<;>cases ys<;>simp at this ⊢
 | eY xs=>
  simp only[ao]at r;obtain ⟨a,ys,rfl,q,rs⟩:=r;simp only[Z.truthy]at t;cases t;refine .inl ⟨ys,q.Ag,?_⟩;have:=rs.length;cases xs<;>cases ys<;>simp at this ⊢
 | ref n=>
  simp only[ao]at r;obtain ⟨a,rfl,q⟩:=r;simp only[Z.truthy]at t;cases e:h[n]? with
  | none=>rw[e]at t;cases t
  | some o=>
   rw[e]at t;obtain ⟨b,e1,ro⟩:=R.at_ n _ e;rw[q]at e1;cases e1;cases o with
   | lst xs=>
    obtain ⟨ys,e2,rs⟩:=ro;cases t;refine .inl ⟨ys,.of e2,?_⟩;have:=rs.length;cases xs<;>cases ys<;>simp at this ⊢
   | dct kvs=>
    obtain ⟨ys,e2,ek,rs,_⟩:=ro;cases t;refine .inr (.inr ⟨ys,e2,?_⟩);have:=rs.length;rw[List.length_map,List.length_map]at this;cases kvs<;>cases ys<;>simp at this ⊢
   | obj _ _=>cases t
   | exc _=>cases t
   | cW _ _=>cases t
theorem aeM {a:Expr}{a':Z.Ex}(ha:LE X sub Γ E a a')(he:∀whole,isTrue a X.env whole=(do let v <-whole;standAt a.pos;holding [v] (truthy v))):LT X sub Γ E a (.bF a'):=by
 refine PTw (Yv ha he) ?_;rintro σ H Q ⟨ρ,h,τ,Q',R,L,w,k⟩;simp only[Z.cQ]at w;refine ⟨ρ,h,τ,_,R,L,w,λd1 h1 aL H1 x e1 R1 r1 w1=>?_⟩;cases q:Z.truthy h1 d1 with
 | none=>rw[q]at w1;exact w1.elim
 | some c=>
  rw[q]at w1;exact ⟨c,aeL R1 r1 q,k c h1 aL H1 e1 R1 w1⟩
theorem aV {a b:Expr}{a' b':Z.Ex}{op:CmpOp}{p:Z.Prim}{pos:Pos}(hp:∀ds h d h',Z.prim sub p ds h=some (d,h')->∃c,d=.bl c)(ho:bT X (compareOp op) (λx y=>rP X.K sub p [x,y]))(ha:LE X sub Γ E a a')(hb:LE X sub Γ E b b')(hm:behindInMarks op b=false):
  LT X sub Γ E (.Compare a [op] [b] pos) (.bF (.prim p (.cons a' (.cons b' .nil)))):=by
 refine PTw (Qa ho ha hb hm) ?_;rintro σ H Q ⟨ρ,h,τ,Q',R,L,w,k⟩;simp only[Z.cQ,Z.aM,Z.bH]at w;refine ⟨ρ,h,τ,_,R,L,w,λd1 h1 aL H1 x e1 R1 r1 w1=>⟨aL,h1,τ,_,R1,L.mono e1,w1,λd2 h2 bQ H2 y e2 R2 r2 w2=>?_⟩⟩;cases q:Z.prim sub p [d1,d2] h2 with
 | none=>rw[q]at w2;exact w2.elim
 | some z=>
  obtain ⟨z,h3⟩:=z;obtain ⟨c,rfl⟩:=hp _ _ _ _ q;rw[q]at w2;refine ⟨bQ,h2,[d1,d2],.bl c,h3,R2,Ib (ao.mono e2 _ _ r1) r2,q,λρ' H' v e' R' r'=>?_⟩;simp only[ao]at r';exact ⟨c,r',k _ h3 ρ' H' (e1.trans (e2.trans e')) R' w2⟩
theorem jY {a:Expr}{a':Z.Ex}{op:CmpOp}{p:Z.Prim}{pos pos':Pos}{j:Nat}(hp:∀ds h d h',Z.prim sub p ds h=some (d,h')->∃c,d=.bl c)(ho:bT X (compareOp op) (λx y H Q=>y=.non/\rP X.K sub p [x] H Q))(ha:LE X sub Γ E a a')(hm:behindInMarks op (.Constant .none j pos')=false):
  LT X sub Γ E (.Compare a [op] [.Constant .none j pos'] pos) (.bF (.prim p (.cons a' .nil))):=by
 refine PTw (Qa ho ha Lq hm) ?_;rintro σ H Q ⟨ρ,h,τ,Q',R,L,w,k⟩;simp only[Z.cQ,Z.aM,Z.bH]at w;refine ⟨ρ,h,τ,_,R,L,w,λd1 h1 aL H1 x e1 R1 r1 w1=>?_⟩;cases q:Z.prim sub p [d1] h1 with
 | none=>rw[q]at w1;exact w1.elim
 | some z=>
  obtain ⟨z,h3⟩:=z;obtain ⟨c,rfl⟩:=hp _ _ _ _ q;rw[q]at w1;refine ⟨rfl,aL,h1,[d1],.bl c,h3,R1,.one r1,q,λρ' H' v e' R' r'=>?_⟩;simp only[ao]at r';exact ⟨c,r',k _ h3 ρ' H' (e1.trans e') R' w1⟩
theorem qL {a:Expr}{a':Z.Tx}{pos:Pos}(ha:LT X sub Γ E a a'):LT X sub Γ E (.UnaryOp .Not a pos) (.not a'):=by
 refine PTw (adX ha) ?_;rintro σ H Q ⟨ρ,h,τ,Q',R,L,w,k⟩;simp only[Z.cQ]at w;exact ⟨ρ,h,τ,_,R,L,w,λc h1 aL H1 e1 R1 w1=>k _ h1 aL H1 e1 R1 w1⟩
noncomputable abbrev LW (X:Cx) (sub:Nat->Nat->Bool) (Γ:Z.b_) (E:Z.PX) (e:Expr) (i:Z.Tx):Prop:=PW X e (Qh X.K (Z.cQ sub Γ E i))
theorem PWw {e:Expr}{t t':TT}(h:PW X e t)(w:∀σ H Q,t' σ H Q->t σ H Q):PW X e t':=λwh pins s σ H Q I q=>h wh pins s σ H Q I (w _ _ _ q)
theorem uR {a:Expr}{a':Z.Tx}{pos:Pos}(ha:LT X sub Γ E a a'):LW X sub Γ E (.BoolOp .And [a] pos) a':=pw_and1 ha
theorem kO {a:Expr}{a':Z.Tx}{pos:Pos}(ha:LT X sub Γ E a a'):LW X sub Γ E (.BoolOp .Or [a] pos) a':=pw_or1 ha
theorem Aj {a b:Expr}{rest:List Expr}{a' b':Z.Tx}{pos:Pos}(ha:LT X sub Γ E a a')(hb:LW X sub Γ E (.BoolOp .And (b::rest) pos) b'):LW X sub Γ E (.BoolOp .And (a::b::rest) pos) (.and a' b'):=by
 refine PWw (pw_and ha hb) ?_;rintro σ H Q ⟨ρ,h,τ,Q',R,L,w,k⟩;simp only[Z.cQ]at w;refine ⟨ρ,h,τ,_,R,L,w,λc h1 aL H1 e1 R1 w1=>?_⟩;cases c with
 | true=>rw[if_pos rfl]at w1 ⊢;exact ⟨aL,h1,τ,_,R1,L.mono e1,w1,λd h' ρ' H' e'=>k d h' ρ' H' (e1.trans e')⟩
 | false=>rw[if_neg (by decide)]at w1 ⊢;exact k _ h1 aL H1 e1 R1 w1
theorem kW {a b:Expr}{rest:List Expr}{a' b':Z.Tx}{pos:Pos}(ha:LT X sub Γ E a a')(hb:LW X sub Γ E (.BoolOp .Or (b::rest) pos) b'):LW X sub Γ E (.BoolOp .Or (a::b::rest) pos) (.or a' b'):=by
 refine PWw (pw_or ha hb) ?_;rintro σ H Q ⟨ρ,h,τ,Q',R,L,w,k⟩;simp only[Z.cQ]at w;refine ⟨ρ,h,τ,_,R,L,w,λc h1 aL H1 e1 R1 w1=>?_⟩;cases c with
 | true=>rw[if_pos rfl]at w1 ⊢;exact k _ h1 aL H1 e1 R1 w1
 | false=>rw[if_neg (by decide)]at w1 ⊢;exact ⟨aL,h1,τ,_,R1,L.mono e1,w1,λd h' ρ' H' e'=>k d h' ρ' H' (e1.trans e')⟩
end
end ZS
namespace ZS
open PySem PySem.Spec PyProof.Rows L2
variable [R0]
section
variable {X:Cx}{sub:Nat->Nat->Bool}{Γ:Z.b_}{E:Z.PX}
theorem aq:qK X sub Γ E [] .nil:=by
 refine aeE abM ?_;rintro D σ H ⟨ρ,h,τ,N,R,L,w,k⟩;simp only[Z.bN]at w;exact k.nx τ h ρ H σ .refl R L w
theorem aj {s:Stmt}{ss:List Stmt}{s':Z.Sm}{ss':Z.aB}(h1:LS X sub Γ E s s')(h2:qK X sub Γ E ss ss'):qK X sub Γ E (s::ss) (.cons s' ss'):=by
 refine aeE (Yn h1 h2) ?_;rintro D σ H ⟨ρ,h,τ,N,R,L,w,k⟩;simp only[Z.bN]at w;refine ⟨ρ,h,τ,_,R,L,w,⟨λτ1 h1 aL H1 σ1 e1 R1 L1 w1=>⟨aL,h1,τ1,N,R1,L1,w1,k.mono e1⟩,k.rt,k.bk,k.ct⟩⟩
theorem ab5 {e:Expr}{e':Z.Ex}{pos:Pos}(he:LE X sub Γ E e e')(hs:swapsWith e none pos.line X.env=pure false):LS X sub Γ E (.Expr e pos) (.expr e'):=by
 refine Gv (abO he hs) ?_;rintro D σ H ⟨ρ,h,τ,N,R,L,w,k⟩;simp only[Z.wpS]at w;exact ⟨ρ,h,τ,_,R,L,w,λd h1 aL H1 v e1 R1 r1 w1=>k.nx τ h1 aL H1 σ e1 R1 (L.mono e1) w1⟩
theorem aR {e:Expr}{e':Z.Ex}{pos:Pos}(he:LE X sub Γ E e e'):LS X sub Γ E (.Return (some e) pos) (.ret e'):=by
 refine Gv (ad1 he) ?_;rintro D σ H ⟨ρ,h,τ,N,R,L,w,k⟩;simp only[Z.wpS]at w;exact ⟨ρ,h,τ,_,R,L,w,λd h1 aL H1 v e1 R1 r1 w1=>k.rt d h1 aL H1 v e1 R1 r1 w1⟩
theorem aeN {i:Nat}{x:Str}{e:Expr}{e':Z.Ex}{pos pos':Pos}(hN:X.N.Nodup)(hi:X.N[i]?=some x)(hx:Loc X.env.scope x)(he:LE X sub Γ E e e')(hs:swapsWith e (some (.Name x pos')) pos.line X.env=pure false)
  (hf:X.fn x=true\/X.env.scope.names.lookup x=some .local):LS X sub Γ E (.Assign [.Name x pos'] e pos) (.asg i e'):=by
 refine Gv (ad5 hN hi hx he hs hf) ?_;rintro D σ H ⟨ρ,h,τ,N,R,L,w,k⟩;simp only[Z.wpS]at w;exact ⟨ρ,h,τ,_,R,L,w,λd h1 aL H1 v e1 R1 r1 w1=>k.nx _ h1 aL H1 _ e1 R1 ((L.mono e1).set r1) w1⟩
theorem bx {c:Expr}{a b:List Stmt}{c':Z.Tx}{a' b':Z.aB}{pos:Pos}(hc:LT X sub Γ E c c')(ha:qK X sub Γ E a a')(hb:qK X sub Γ E b b'):LS X sub Γ E (.If c a b pos) (.cC c' a' b'):=by
 refine Gv (ah7 hc ha hb) ?_;rintro D σ H ⟨ρ,h,τ,N,R,L,w,k⟩;simp only[Z.wpS]at w;refine ⟨ρ,h,τ,_,R,L,w,λc h1 aL H1 e1 R1 w1=>?_⟩;cases c with
 | true=>rw[if_pos rfl]at w1 ⊢;exact ⟨aL,h1,τ,N,R1,L.mono e1,w1,k.mono e1⟩
 | false=>rw[if_neg (by decide)]at w1 ⊢;exact ⟨aL,h1,τ,N,R1,L.mono e1,w1,k.mono e1⟩
theorem Fy {c:Expr}{body:List Stmt}{c':Z.Tx}{b':Z.aB}{pos:Pos}(hp:PassesOwn (model X.prog X.w) X.A X.env X.xe)(hc:LT X sub Γ E c c')(hb:qK X sub Γ E body b'):LS X sub Γ E (.While c body [] pos) (.zX c' b'):=by
 refine Gv (Yo hp hc hb) ?_;rintro D σ H ⟨ρ,h,τ,N,R,L,w,k⟩;simp only[Z.wpS]at w;obtain ⟨W,⟨m,w0⟩,turn⟩:=w;refine ⟨λm σ' H'=>∃ρ' h' kY,Ext X.K ρ H ρ' H'/\Rep X.K ρ' h' H'/\cJ X.K ρ' H' kY σ'/\W m kY h',⟨m,ρ,h,τ,.refl,R,L,w0⟩,?_⟩;rintro m σ1 H1 ⟨aL,h1,τ1,e1,R1,L1,w1⟩;refine ⟨aL,h1,τ1,_,R1,L1,turn m τ1 h1 w1,λc h2 bQ H2 e2 R2 w2=>?_⟩;cases c with
 | false=>rw[if_neg (by decide)]at w2 ⊢;exact k.nx τ1 h2 bQ H2 σ1 (e1.trans e2) R2 (L1.mono e2) w2
 | true=>
  rw[if_pos rfl]at w2 ⊢;obtain ⟨Nn,hN,w2⟩:=w2;refine ⟨λσ' H'=>∃m',m' < m/\∃ρ' h' kY,Ext X.K ρ H ρ' H'/\Rep X.K ρ' h' H'/\cJ X.K ρ' H' kY σ'/\W m' kY h',λσ' H' q=>q,bQ,h2,τ1,_,R2,L1.mono e2,w2,⟨?_,?_,?_,?_⟩⟩
  ·intro Ma h3 jO H3 σ3 e3 R3 L3 w3;obtain ⟨m',hm,w3⟩:=hN _ _ w3;exact ⟨m',hm,jO,h3,Ma,e1.trans (e2.trans e3),R3,L3,w3⟩
  ·intro d h3 jO H3 v e3 R3 r3 w3;exact k.rt d h3 jO H3 v (e1.trans (e2.trans e3)) R3 r3 w3
  ·intro Ma h3 jO H3 σ3 e3 R3 L3 w3;exact k.nx Ma h3 jO H3 σ3 (e1.trans (e2.trans e3)) R3 L3 w3
  ·intro Ma h3 jO H3 σ3 e3 R3 L3 w3;obtain ⟨m',hm,w3⟩:=hN _ _ w3;exact ⟨m',hm,jO,h3,Ma,e1.trans (e2.trans e3),R3,L3,w3⟩
noncomputable def Fz (K:PySem.W.Frag) (ρ0:List Addr) (H0:Hp) (J:Z.It) (J':L2.It):Prop:=∀(i:Nat) (ρ:List Addr) (h:Z.AH) (H:Hp),Ext K ρ0 H0 ρ H->Rep K ρ h H->
 match J i h with
 | some (some d)=>J'.go i H/\∀x H',J'.VP i H x H'->Ext K ρ H ρ H'/\Rep K ρ h H'/\ao K ρ H' d x
 | some none=>J'.stop i H
 | none=>True
theorem mz {K:PySem.W.Frag}{ρ:List Addr}{h:Z.AH}{H H':Hp}{d:Z.D}{x:V}(R:Rep K ρ h H)(e:H'=H)(r:ao K ρ H d x):Ext K ρ H ρ H'/\Rep K ρ h H'/\ao K ρ H' d x:=by
 subst e;exact ⟨.refl,R,r⟩
noncomputable def upI (K:PySem.W.Frag) (kd:Z.IK) (w:Z.Lo->Z.AH->(List Z.D->Z.AH->Prop)->Prop):TI:=λσ H R=>∃ρ h τ Q',Rep K ρ h H/\cJ K ρ H τ σ/\w τ h Q'/\
 ∀ds h' ρ' H' vs,Ext K ρ H ρ' H'->Rep K ρ' h' H'->au K ρ' H' ds vs->Q' ds h'->∃J,Z.bU kd ds h'=some J/\∀J',Fz K ρ' H' J J'->R J' H'
noncomputable abbrev LI (X:Cx) (sub:Nat->Nat->Bool) (Γ:Z.b_) (E:Z.PX) (tg iter:Expr) (kd:Z.IK) (es:Z.cN):Prop:=PI X tg iter (upI X.K kd (Z.bH sub Γ E es))
theorem PIw {tg iter:Expr}{t t':TI}(h:PI X tg iter t)(w:∀σ H R,t' σ H R->t σ H R):PI X tg iter t':=λpins s σ H R I q=>h pins s σ H R I (w _ _ _ q)
theorem aeP {tg l:Expr}{tl:TE}(hl:PE X l tl):PI X tg l (λσ H R=>tl σ H λx H1=>∃a,x=.ref a/\(((∃xs,g_ X.K H1 a xs)/\R (Itl X.K a) H1)\/((∃xs,fQ X.K H1 a xs)/\R (Itt X.K a) H1))):=by
 intro pins s σ H R I h;refine bI (hl pins s σ H _ I h) λv s1 ⟨x,H1,I1,r1,q1⟩=>?_;obtain ⟨a,e,⟨⟨xs,hq⟩,q⟩ | ⟨⟨xs,hq⟩,q⟩⟩:=q1
 ·subst e;cases r1;obtain ⟨its,rv,p,hz⟩:=I1.list hq;refine wpAny_pyIter_list p.isList ?_;refine ⟨s1.heap.objs.size,[s1.heap.objs.size],_,_,H1,rfl,I1.kept (t':=s1.toks) λb o e=>Heap.get?_push_of_some _ e,VR a _,⟨_,Heap.get?_push_size _ rfl,rfl,rfl⟩,λb hb=>?_,q⟩;have e:b=s1.heap.objs.size:=by simpa using hb
  subst e;exact I1.Fp (Nat.le_refl _) (I1.hok.fresh (Nat.le_refl _))
 ·subst e;cases r1;obtain ⟨its,rv,p,hz⟩:=I1.tuple hq;refine wpAny_pyIter_tuple (show s1.heap.IsTuple a its.toArray from p) ?_;refine ⟨s1.heap.objs.size,[s1.heap.objs.size],_,_,H1,rfl,I1.kept (t':=s1.toks) λb o e=>Heap.get?_push_of_some _ e,Rv a _,⟨_,Heap.get?_push_size _ rfl,rfl,rfl⟩,λb hb=>?_,q⟩;have e:b=s1.heap.objs.size:=by simpa using hb
  subst e;exact I1.Fp (Nat.le_refl _) (I1.hok.fresh (Nat.le_refl _))
theorem Wc {K:PySem.W.Frag}{ρ:List Addr}{H:Hp}{n:Nat}{a:Addr}(hn:ρ[n]?=some a):Fz K ρ H (Z.gD n) (Itl K a):=by
 intro i aL h1 H1 e1 R1;have hn1:=e1.pre _ _ hn;unfold Z.gD;cases e:h1[n]? with
 | none=>trivial
 | some o=>
  cases o with
  | lst xs=>
   obtain ⟨b,eb,ys,e2,rs⟩:=R1.at_ n _ e;rw[hn1]at eb;cases eb;dsimp only;cases q:xs[i]? with
   | none=>
    refine ⟨ys,.of e2,?_⟩;rw[<-rs.length];exact List.getElem?_eq_none_iff.mp q
   | some d=>
    obtain ⟨y,q1,q2⟩:=rs.get q;refine ⟨⟨ys,y,.of e2,q1⟩,λx H' hy=>?_⟩;obtain ⟨eH,hy⟩:=hy;have:=hy ys (.of e2);rw[q1]at this;cases this;exact mz R1 eH q2
  | _=>trivial
theorem ab6 {K:PySem.W.Frag}{ρ:List Addr}{H:Hp}{a:Addr}{xs:List Z.D}{ys:List V}(q:Et K H a ys)(r:au K ρ H xs ys):Fz K ρ H (Z.qH xs) (Itl K a):=by
 intro i aL h1 H1 e1 R1;have q':=(e1.sqF q).Ag;have r':=au.mono e1 _ _ r;unfold Z.qH;cases e:xs[i]? with
 | none=>exact ⟨ys,q',by rw[<-r.length];exact List.getElem?_eq_none_iff.mp e⟩
 | some d=>
  obtain ⟨y,q1,q2⟩:=r'.get e;refine ⟨⟨ys,y,q',q1⟩,λx H' hy=>?_⟩;have:=hy.2 ys q';rw[q1]at this;cases this;exact mz R1 hy.1 q2
theorem YG {K:PySem.W.Frag}{ρ:List Addr}{H:Hp}{a:Addr}{xs:List Z.D}{ys:List V}(q:fQ K H a ys)(r:au K ρ H xs ys):Fz K ρ H (Z.qH xs) (Itt K a):=by
 intro i aL h1 H1 e1 R1;have q':=e1.sqT q;have r':=au.mono e1 _ _ r;unfold Z.qH;cases e:xs[i]? with
 | none=>exact ⟨ys,q',by rw[<-r.length];exact List.getElem?_eq_none_iff.mp e⟩
 | some d=>
  obtain ⟨y,q1,q2⟩:=r'.get e;refine ⟨⟨ys,y,q',q1⟩,λx H' hy=>?_⟩;have:=hy.2 ys q';rw[q1]at this;cases this;exact mz R1 hy.1 q2
theorem YH {K:PySem.W.Frag}{ρ:List Addr}{H:Hp}{lo:Int}{n:Nat}:Fz K ρ H (Z.qd lo n) (Itr lo n):=by
 intro i aL h1 H1 e1 R1;unfold Z.qd;by_cases hi:i < n
 ·rw[if_pos hi];refine ⟨hi,λx H' hy=>mz R1 hy.1 ?_⟩;simp only[ao];exact hy.2
 ·rw[if_neg hi];exact Nat.le_of_not_lt hi
theorem Ak {tg l:Expr}{e':Z.Ex}(hl:LE X sub Γ E l e'):LI X sub Γ E tg l .val (.cons e' .nil):=by
 refine PIw (aeP hl) ?_;rintro σ H Rr ⟨ρ,h,τ,Q',R,L,w,k⟩;simp only[Z.bH]at w;refine ⟨ρ,h,τ,_,R,L,w,λd h1 aL H1 x e1 R1 r1 w1=>?_⟩;obtain ⟨J,eJ,hk⟩:=k [d] h1 aL H1 [x] e1 R1 (.one r1) w1;cases d with
 | str s=>cases eJ
 | tup xs=>
  cases eJ;simp only[ao]at r1;obtain ⟨a,ys,rfl,q,rs⟩:=r1;exact ⟨a,rfl,.inr ⟨⟨ys,q⟩,hk _ (YG q rs)⟩⟩
 | eY xs=>
  cases eJ;simp only[ao]at r1;obtain ⟨a,ys,rfl,q,rs⟩:=r1;exact ⟨a,rfl,.inl ⟨⟨ys,q.Ag⟩,hk _ (ab6 q rs)⟩⟩
 | ref n=>
  simp only[ao]at r1;obtain ⟨a,rfl,q⟩:=r1;simp only[Z.bU,Z.jh,Z.iR,Z.ji,Z.jj,Z.gY]at eJ;cases e:h1[n]? with
  | none=>rw[e]at eJ;cases eJ
  | some o=>
   rw[e]at eJ;cases o with
   | lst xs=>
    cases eJ;obtain ⟨b,eb,ys,e2,rs⟩:=R1.at_ n _ e;rw[q]at eb;cases eb;exact ⟨a,rfl,.inl ⟨⟨ys,.of e2⟩,hk _ (Wc q)⟩⟩
   | _=>cases eJ
 | non=>cases eJ
 | bl _=>cases eJ
 | int _=>cases eJ
theorem Mf {i:Int}(h:Z.okR i=true):-(2 ^ 62)<=i/\i < 2 ^ 62:=by have:=Z.Dm.mp h;omega
theorem fj {tg a:Expr}{a':Z.Ex}{p pos:Pos}(hg:Gl X "range")(hm:X.mg "range"=none)(ha:LA X sub Γ E [a] (.cons a' .nil))(hs:starEach [a] X.env=[(false,eval a X.env)]):LI X sub Γ E tg (.Call (.Name "range" p) [a] [] pos) .rng (.cons a' .nil):=by
 refine PIw (V0 hg hm ha hs) ?_;rintro σ H Rr ⟨ρ,h,τ,Q',R,L,w,k⟩;refine ⟨ρ,h,τ,λds h1=>match ds with | [d]=>Q' [d] h1 | _=>False,R,L,(by simpa only[Z.bH] using w),λds h1 aL H1 vs e1 R1 r1 w1=>?_⟩
 match ds,w1,r1 with
 | [d],w1,r1=>
  obtain ⟨J,eJ,hk⟩:=k [d] h1 aL H1 vs e1 R1 r1 w1;simp only[au]at r1;obtain ⟨v,_,rfl,r1,rfl⟩:=r1;cases d with
  | int i=>
   simp only[Z.bU,Z.jh,Z.iR,Z.ji,Z.jj,Z.gY]at eJ;split at eJ
   ·rename_i hi;cases eJ;simp only[ao]at r1;subst r1;exact ⟨i,rfl,(Mf hi).1,(Mf hi).2,hk _ YH⟩
   ·cases eJ
  | _=>simp only[Z.bU,Z.jh,Z.iR,Z.ji,Z.jj,Z.gY]at eJ;cases eJ
 | [],w1,_=>exact w1.elim
 | _::_::_,w1,_=>exact w1.elim
theorem aeQ {tg iter:Expr}{i:Nat}{x:Str}{tpos:Pos}{kd:Z.IK}{src:Z.cN}{body:List Stmt}{b':Z.aB}{pos:Pos}(hp:PassesOwn (model X.prog X.w) X.A X.env X.xe)(hc:X.calm=true)
  (hN:X.N.Nodup) (hi:X.N[i]?=some x) (hx:Loc X.env.scope x) (hf:X.fn x=true\/X.env.scope.names.lookup x=some .local)
  (hit:LI X sub Γ E (.Name x tpos) iter kd src) (hb:qK X sub Γ E body b') (hs:∀x,foldedSetIterable iter X.env x=pure x):LS X sub Γ E (.For (.Name x tpos) iter body [] pos) (.dR [i] kd src b'):=by
 refine Gv (ad_ hp hc hit (uK hN hi hx hf) hb hs) ?_;rintro D σ H ⟨ρ,h,τ,N,R,L,w,k⟩;simp only[Z.wpS]at w;refine ⟨ρ,h,τ,_,R,L,w,λds h1 aL H1 vs e1 R1 r1 w1=>?_⟩;cases eJ:Z.bU kd ds h1 with
 | none=>rw[eJ]at w1;exact w1.elim
 | some J=>
  rw[eJ]at w1;refine ⟨J,rfl,λJ' hJ=>?_⟩;obtain ⟨W,⟨m,w0⟩,turn⟩:=w1;refine ⟨λi m σ' H'=>∃ρ' h' kY,Ext X.K aL H1 ρ' H'/\Rep X.K ρ' h' H'/\cJ X.K ρ' H' kY σ'/\W i m kY h',⟨m,aL,h1,τ,.refl,R1,L.mono e1,w0⟩,?_⟩;rintro n m σ2 H2 ⟨bQ,h2,Wd,e2,R2,Mg,w2⟩;have t:=turn n m Wd h2 w2;have j:=hJ n bQ h2 H2 e2 R2;cases ev:J n h2 with
  | none=>rw[ev]at t;exact t.elim
  | some o=>
   rw[ev]at t j;cases o with
   | none=>exact .inl ⟨j,k.nx Wd h2 bQ H2 σ2 (e1.trans e2) R2 Mg t⟩
   | some d=>
    obtain ⟨go,yl⟩:=j;have hbd:Z.jy [i] d Wd=some (Wd.set i (some d)):=by cases d<;>rfl
    simp only[hbd]at t;obtain ⟨Nn,hNn,t⟩:=t;refine .inr ⟨go,λσ' H'=>∃m',m' < m/\∃ρ' h' kY,Ext X.K aL H1 ρ' H'/\Rep X.K ρ' h' H'/\cJ X.K ρ' H' kY σ'/\W (n+1) m' kY h',λσ' H' q=>q,λv H' hy=>?_⟩;obtain ⟨eX,R2,rv⟩:=yl v H' hy;have e2:=e2.trans eX;have Mg:=Mg.mono eX;refine ⟨bQ,h2,Wd.set i (some d),_,R2,Mg.set rv,t,⟨?_,?_,?_,?_⟩⟩
    ·intro Ma h3 jO H3 σ3 e3 R3 L3 w3;obtain ⟨m',hm,w3⟩:=hNn _ _ w3;exact ⟨m',hm,jO,h3,Ma,e2.trans e3,R3,L3,w3⟩
    ·intro d h3 jO H3 v e3 R3 r3 w3;exact k.rt d h3 jO H3 v (e1.trans (e2.trans e3)) R3 r3 w3
    ·intro Ma h3 jO H3 σ3 e3 R3 L3 w3;exact k.nx Ma h3 jO H3 σ3 (e1.trans (e2.trans e3)) R3 L3 w3
    ·intro Ma h3 jO H3 σ3 e3 R3 L3 w3;obtain ⟨m',hm,w3⟩:=hNn _ _ w3;exact ⟨m',hm,jO,h3,Ma,e2.trans e3,R3,L3,w3⟩
end
end ZS
namespace ZS
open PySem PySem.Spec PyProof.Rows L2
variable [R0]
section
variable {X:Cx}{pins:List (Addr×Obj)}{σ:L2.St}{H:Hp}{s:Shared}{ρ:List Addr}
theorem wu (a b:List Nat):((⟨a.toArray⟩:Str) == ⟨b.toArray⟩)=(a == b):=by
 by_cases e:a=b
 ·subst e;simp
 ·have:¬((⟨a.toArray⟩:Str)=⟨b.toArray⟩):=λq=>e (by injection q with q;exact (List.toArray_inj q));rw[beq_eq_false_iff_ne.mpr this,beq_eq_false_iff_ne.mpr e]
theorem Mh (I:Inv X pins σ H s):∀(n:Nat) (d d':Z.D) (v:V) (b:Bool),ao X.K ρ H d v->ao X.K ρ H d' v->Z.lW n d d'=some b->b=true:=by
 intro n
 induction n with
 | zero=>
  intro d d' v b r r' e;cases d<;>cases d'<;>simp only[Z.lW,ao]at r r' e<;>first
   | (cases e;done)
   | (cases e;rfl)
   | (cases e;subst r;cases r';simp;done)
   | (cases e;obtain ⟨rfl,_⟩:=r;obtain ⟨r',_⟩:=r';cases r';simp;done)
   | (cases e;subst r;obtain ⟨r',_⟩:=r';cases r';done)
   | (cases e;obtain ⟨rfl,_⟩:=r;cases r';done)
 | succ n ih=>
  have all:∀(xs xs':List Z.D) (ys:List V) (b:Bool),au X.K ρ H xs ys->au X.K ρ H xs' ys->Z.eqZ (Z.lW n) xs xs'=some b->b=true:=by
   intro xs
   induction xs with
   | nil=>
    intro xs' ys b r r' e;simp only[au]at r;subst r;cases xs' with
    | nil=>simp only[Z.eqZ]at e;cases e;rfl
    | cons _ _=>simp only[au]at r';obtain ⟨_,_,r',_⟩:=r';cases r'
   | cons x xs ihx=>
    intro xs' ys b r r' e;simp only[au]at r;obtain ⟨y,t,rfl,q,r⟩:=r;cases xs' with
    | nil=>simp only[au]at r';cases r'
    | cons x' xs'=>
     simp only[au]at r';obtain ⟨y',t',e',q',r'⟩:=r';cases e';simp only[Z.eqZ]at e;split at e
     ·rename_i a c ea ec;cases e;rw[ih _ _ _ _ q q' ea,ihx _ _ _ r r' ec];rfl
     ·cases e
  intro d d' v b r r' e;cases d<;>cases d'<;>simp only[Z.lW,ao]at r r' e<;>first
   | (cases e;done)
   | (cases e;rfl)
   | (cases e;subst r;cases r';simp;done)
   | (cases e;obtain ⟨rfl,_⟩:=r;obtain ⟨r',_⟩:=r';cases r';simp;done)
   | (cases e;subst r;obtain ⟨r',_⟩:=r';cases r';done)
   | (cases e;obtain ⟨rfl,_⟩:=r;cases r';done)
   | (cases e;subst r;obtain ⟨_,_,r',_⟩:=r';cases r';done)
   | (cases e;obtain ⟨rfl,_⟩:=r;obtain ⟨_,_,r',_⟩:=r';cases r';done)
   | (cases e;obtain ⟨_,_,rfl,_⟩:=r;cases r';done)
   | (cases e;obtain ⟨_,_,rfl,_⟩:=r;obtain ⟨r',_⟩:=r';cases r';done)
   | (obtain ⟨a,ys,rfl,q,r⟩:=r
      obtain ⟨a',ys',ea,q',r'⟩:=r';cases ea;have:=I.z_ q q';subst this;exact all _ _ _ _ r r' e)
theorem Ie {f:Z.D->Z.D->Option Bool}:∀{xs ys:List Z.D} {b:Bool},Z.eqZ f xs ys=some b->∃e:Nat->Bool,(∀(j:Nat) x y,xs[j]?=some x->ys[j]?=some y->f x y=some (e j))/\b=((List.range (min xs.length ys.length)).all e && xs.length == ys.length):=by
 intro xs
 induction xs with
 | nil=>
  intro ys b h;cases ys with
  | nil=>simp only[Z.eqZ]at h;cases h;exact ⟨λ_=>true,λj x y h=>by simp at h,by simp⟩
  | cons _ _=>simp only[Z.eqZ]at h;cases h;exact ⟨λ_=>true,λj x y h=>by simp at h,by simp⟩
 | cons x xs ih=>
  intro ys b h;cases ys with
  | nil=>simp only[Z.eqZ]at h;cases h;exact ⟨λ_=>true,λj x y h h'=>by simp at h',by simp⟩
  | cons y ys=>
   simp only[Z.eqZ]at h;split at h
   ·rename_i a c ea ec;cases h;obtain ⟨e,h1,h2⟩:=ih ec;refine ⟨λj=>match j with | 0=>a | j+1=>e j,λj x' y' hx hy=>?_,?_⟩
    ·cases j with
     | zero=>simp at hx hy;subst hx hy;exact ea
     | succ j=>exact h1 j x' y' (by simpa using hx) (by simpa using hy)
    ·rw[h2,List.length_cons,List.length_cons,Nat.succ_min_succ,List.range_succ_eq_map,List.all_cons,List.all_map,Bool.and_assoc];have hl:(xs.length == ys.length)=(xs.length+1 == ys.length+1):=by
      by_cases hl:xs.length=ys.length<;>simp[hl]
     rw[hl];rfl
   ·cases h
theorem FJ {A:Around}{xs xs':List Z.D}{ys ys':List V}{its its':List Value}{f:Z.D->Z.D->Option Bool}{e:Nat->Bool}(r:au X.K ρ H xs ys)(r':au X.K ρ H xs' ys')(v:Vals ys its)(v':Vals ys' its')
  (he:∀(j:Nat) x y,xs[j]?=some x->xs'[j]?=some y->f x y=some (e j))
  (hf:∀x x' y y' u u' b,ao X.K ρ H x y->ao X.K ρ H x' y'->RelV y u->RelV y' u'->f x x'=some b->SeqAt.EqAt A s u u' b):
  ∀j (h1:j < its.toArray.size) (h2:j < its'.toArray.size),SeqAt.EqAt A s its.toArray[j] its'.toArray[j] (e j):=by
 intro j h1 h2;have l1:j < xs.length:=by rw[r.length,v.length];simpa using h1
 have l2:j < xs'.length:=by rw[r'.length,v'.length];simpa using h2
 obtain ⟨y,ey,ry⟩:=r.get (i:=j) (x:=xs[j]) (by simp[l1]);obtain ⟨y',ey',ry'⟩:=r'.get (i:=j) (x:=xs'[j]) (by simp[l2]);obtain ⟨u,eu,ru⟩:=v.get ey;obtain ⟨u',eu',ru'⟩:=v'.get ey';have a1:its.toArray[j]=u:=by
  have:its[j]?=some its[j]:=by simp
  rw[this]at eu;cases eu;simp
 have a2:its'.toArray[j]=u':=by
  have:its'[j]?=some its'[j]:=by simp
  rw[this]at eu';cases eu';simp
 rw[a1,a2];exact hf _ _ _ _ _ _ _ ry ry' ru ru' (he j _ _ (by simp[l1]) (by simp[l2]))
theorem Gy (I:Inv X pins σ H s):∀(n:Nat) (A:Around) (d d':Z.D) (v v':V) (u u':Value) (b:Bool),A.units+n < cLine->ao X.K ρ H d v->ao X.K ρ H d' v'->RelV v u->RelV v' u'->Z.lW n d d'=some b->
  SeqAt.RcAt A s u u' b/\SeqAt.EqAt A s u u' b:=by
 intro n
 induction n with
 | zero=>
  intro A d d' v v' u u' b hu r r' q q' e;cases d<;>cases d'<;>simp only[Z.lW,ao]at r r' e<;>first | (cases e;done) | skip
  all_goals cases e
  ·subst r r';cases q;cases q';exact ⟨.none_none,.same _⟩
  ·subst r r';cases q;cases q';exact ⟨.none_bool _,.none_bool _⟩
  ·subst r r';cases q;obtain ⟨_,rfl⟩:=q';exact ⟨.none_int _ _,.none_int _ _⟩
  ·obtain ⟨r',_⟩:=r';subst r r';cases q;obtain ⟨_,rfl⟩:=q';exact ⟨.none_str _ _,.none_str _ _⟩
  ·subst r r';cases q;cases q';exact ⟨.bool_none _,.bool_none _⟩
  ·subst r r';cases q;cases q';exact ⟨.bool_bool _ _,.bool_bool _ _⟩
  ·obtain ⟨r',_⟩:=r';subst r r';cases q;obtain ⟨_,rfl⟩:=q';exact ⟨.bool_str _ _ _,.bool_str _ _ _⟩
  ·subst r r';cases q';obtain ⟨_,rfl⟩:=q;exact ⟨.int_none _ _,.int_none _ _⟩
  ·subst r r';obtain ⟨_,rfl⟩:=q';obtain ⟨_,rfl⟩:=q;exact ⟨.int_int _ _ _ _,.int_int _ _ _ _⟩
  ·obtain ⟨r',_⟩:=r';subst r r';obtain ⟨_,rfl⟩:=q';obtain ⟨_,rfl⟩:=q;exact ⟨.int_str _ _ _ _,.int_str _ _ _ _⟩
  ·obtain ⟨r,_⟩:=r;subst r r';cases q';obtain ⟨_,rfl⟩:=q;exact ⟨.str_none _ _,.str_none _ _⟩
  ·obtain ⟨r,_⟩:=r;subst r r';cases q';obtain ⟨_,rfl⟩:=q;exact ⟨.str_bool _ _ _,.str_bool _ _ _⟩
  ·obtain ⟨r,_⟩:=r;subst r r';obtain ⟨_,rfl⟩:=q';obtain ⟨_,rfl⟩:=q;exact ⟨.str_int _ _ _ _,.str_int _ _ _ _⟩
  ·obtain ⟨r,_⟩:=r;obtain ⟨r',_⟩:=r';subst r r';obtain ⟨_,rfl⟩:=q';obtain ⟨_,rfl⟩:=q;rw[<-wu];exact ⟨.str_str _ _ _ _,.str_str _ _ _ _⟩
 | succ n ih=>
  intro A d d' v v' u u' b hu r r' q q' e;have hu':A.units < cLine:=by omega
  cases d<;>cases d'<;>simp only[Z.lW,ao]at r r' e<;>first | (cases e;done) | skip
  ·cases e;subst r r';cases q;cases q';exact ⟨.none_none,.same _⟩
  ·cases e;subst r r';cases q;cases q';exact ⟨.none_bool _,.none_bool _⟩
  ·cases e;subst r r';cases q;obtain ⟨_,rfl⟩:=q';exact ⟨.none_int _ _,.none_int _ _⟩
  ·cases e;obtain ⟨r',_⟩:=r';subst r r';cases q;obtain ⟨_,rfl⟩:=q';exact ⟨.none_str _ _,.none_str _ _⟩
  ·cases e;obtain ⟨a,ys,r',hq,_⟩:=r';subst r r';cases q;cases q';obtain ⟨its,_,it,_⟩:=I.tuple hq;exact ⟨.none_tuple (show s.heap.IsTuple a its.toArray from it) hu',.none_tuple (show s.heap.IsTuple a its.toArray from it) hu'⟩
  ·cases e;subst r r';cases q;cases q';exact ⟨.bool_none _,.bool_none _⟩
  ·cases e;subst r r';cases q;cases q';exact ⟨.bool_bool _ _,.bool_bool _ _⟩
  ·cases e;obtain ⟨r',_⟩:=r';subst r r';cases q;obtain ⟨_,rfl⟩:=q';exact ⟨.bool_str _ _ _,.bool_str _ _ _⟩
  ·cases e;obtain ⟨a,ys,r',hq,_⟩:=r';subst r r';cases q;cases q';obtain ⟨its,_,it,_⟩:=I.tuple hq;exact ⟨.bool_tuple _ (show s.heap.IsTuple a its.toArray from it) hu',.bool_tuple _ (show s.heap.IsTuple a its.toArray from it) hu'⟩
  ·cases e;subst r r';cases q';obtain ⟨_,rfl⟩:=q;exact ⟨.int_none _ _,.int_none _ _⟩
  ·cases e;subst r r';obtain ⟨_,rfl⟩:=q';obtain ⟨_,rfl⟩:=q;exact ⟨.int_int _ _ _ _,.int_int _ _ _ _⟩
  ·cases e;obtain ⟨r',_⟩:=r';subst r r';obtain ⟨_,rfl⟩:=q';obtain ⟨_,rfl⟩:=q;exact ⟨.int_str _ _ _ _,.int_str _ _ _ _⟩
  ·cases e;obtain ⟨a,ys,r',hq,_⟩:=r';subst r r';obtain ⟨_,rfl⟩:=q;cases q';obtain ⟨its,_,it,_⟩:=I.tuple hq;exact ⟨.int_tuple _ _ (show s.heap.IsTuple a its.toArray from it) hu',.int_tuple _ _ (show s.heap.IsTuple a its.toArray from it) hu'⟩
  ·cases e;obtain ⟨r,_⟩:=r;subst r r';cases q';obtain ⟨_,rfl⟩:=q;exact ⟨.str_none _ _,.str_none _ _⟩
  ·cases e;obtain ⟨r,_⟩:=r;subst r r';cases q';obtain ⟨_,rfl⟩:=q;exact ⟨.str_bool _ _ _,.str_bool _ _ _⟩
  ·cases e;obtain ⟨r,_⟩:=r;subst r r';obtain ⟨_,rfl⟩:=q';obtain ⟨_,rfl⟩:=q;exact ⟨.str_int _ _ _ _,.str_int _ _ _ _⟩
  ·cases e;obtain ⟨r,_⟩:=r;obtain ⟨r',_⟩:=r';subst r r';obtain ⟨_,rfl⟩:=q';obtain ⟨_,rfl⟩:=q;rw[<-wu];exact ⟨.str_str _ _ _ _,.str_str _ _ _ _⟩
  ·cases e;obtain ⟨a,ys,r',hq,_⟩:=r';obtain ⟨r,_⟩:=r;subst r r';obtain ⟨_,rfl⟩:=q;cases q';obtain ⟨its,_,it,_⟩:=I.tuple hq;exact ⟨.str_tuple _ _ (show s.heap.IsTuple a its.toArray from it) hu',.str_tuple _ _ (show s.heap.IsTuple a its.toArray from it) hu'⟩
  ·cases e;obtain ⟨a,ys,r,hq,_⟩:=r;subst r r';cases q;cases q';obtain ⟨its,_,it,_⟩:=I.tuple hq;exact ⟨.tuple_none (show s.heap.IsTuple a its.toArray from it) hu',.tuple_none (show s.heap.IsTuple a its.toArray from it) hu'⟩
  ·cases e;obtain ⟨a,ys,r,hq,_⟩:=r;subst r r';cases q;cases q';obtain ⟨its,_,it,_⟩:=I.tuple hq;exact ⟨.tuple_bool _ (show s.heap.IsTuple a its.toArray from it) hu',.tuple_bool _ (show s.heap.IsTuple a its.toArray from it) hu'⟩
  ·cases e;obtain ⟨a,ys,r,hq,_⟩:=r;subst r r';cases q;obtain ⟨_,rfl⟩:=q';obtain ⟨its,_,it,_⟩:=I.tuple hq;exact ⟨.tuple_int _ _ (show s.heap.IsTuple a its.toArray from it) hu',.tuple_int _ _ (show s.heap.IsTuple a its.toArray from it) hu'⟩
  ·cases e;obtain ⟨a,ys,r,hq,_⟩:=r;obtain ⟨r',_⟩:=r';subst r r';cases q;obtain ⟨_,rfl⟩:=q';obtain ⟨its,_,it,_⟩:=I.tuple hq;exact ⟨.tuple_str _ _ (show s.heap.IsTuple a its.toArray from it) hu',.tuple_str _ _ (show s.heap.IsTuple a its.toArray from it) hu'⟩
  ·rename_i xs xs';obtain ⟨a,ys,e1,hq,rs⟩:=r;obtain ⟨a',ys',e2,hq',rs'⟩:=r';subst e1 e2;cases q;cases q';obtain ⟨its,vv,it,_⟩:=I.tuple hq;obtain ⟨its',JG,it',_⟩:=I.tuple hq';obtain ⟨ee,h1,h2⟩:=Ie e;have hlen:its.toArray.size=xs.length:=by rw[List.size_toArray,<-vv.length,<-rs.length]
   have hlen':its'.toArray.size=xs'.length:=by rw[List.size_toArray,<-JG.length,<-rs'.length]
   have at':=FJ (A:=A.in1) rs rs' vv JG h1 (λx x' y y' u u' b hx hx' hy hy' hb=>(ih A.in1 x x' y y' u u' b (by show A.units+1+n < cLine;omega) hx hx' hy hy' hb).2);have rc:SeqAt.RcAt A s (.ref a) (.ref a') b:=by
    have:=SeqAt.RcAt.tuples (A:=A) (show s.heap.IsTuple a its.toArray from it) (show s.heap.IsTuple a' its'.toArray from it') hu' at';rw[hlen,hlen',<-h2]at this;exact this
   refine ⟨rc,?_⟩;by_cases ha:a=a'
   ·subst ha;have:b=true:=Mh I (n+1) (.tup xs) (.tup xs') (.ref a) b (by simp only[ao];exact ⟨a,ys,rfl,hq,rs⟩) (by simp only[ao];exact ⟨a,ys',rfl,hq',rs'⟩) (by simp only[Z.lW];exact e);subst this;exact .same _
   ·exact .of_refs ha rc
end
end ZS
namespace ZS
open PySem PySem.Spec PyProof.Rows L2
variable [R0]
section
variable {K:PySem.W.Frag}{ρ:List Addr}{h:Z.AH}{H:Hp}
theorem wz {ds:List Z.D}{x:V}(r:au K ρ H ds [x]):∃d,ds=[d]/\ao K ρ H d x:=by
 cases ds with
 | nil=>simp only[au]at r;cases r
 | cons d ds=>
  simp only[au]at r;obtain ⟨y,t,e,r1,r2⟩:=r;cases e;cases ds with
  | nil=>exact ⟨d,rfl,r1⟩
  | cons _ _=>simp only[au]at r2;obtain ⟨_,_,e,_⟩:=r2;cases e
theorem FN {ds:List Z.D}{x:V}{xs:List V}(r:au K ρ H ds (x::xs)):∃d ds',ds=d::ds'/\ao K ρ H d x/\au K ρ H ds' xs:=by
 cases ds with
 | nil=>simp only[au]at r;cases r
 | cons d ds=>
  simp only[au]at r;obtain ⟨y,t,e,r1,r2⟩:=r;cases e;exact ⟨d,ds,rfl,r1,r2⟩
theorem gQ {ds:List Z.D}{x y:V}(r:au K ρ H ds [x,y]):∃d e,ds=[d,e]/\ao K ρ H d x/\ao K ρ H e y:=by
 obtain ⟨d,ds,rfl,r1,r⟩:=FN r;obtain ⟨e,rfl,r2⟩:=wz r;exact ⟨d,e,rfl,r1,r2⟩
theorem ait {ds:List Z.D}{x y z:V}(r:au K ρ H ds [x,y,z]):∃d e f,ds=[d,e,f]/\ao K ρ H d x/\ao K ρ H e y/\ao K ρ H f z:=by
 obtain ⟨d,ds,rfl,r1,r⟩:=FN r;obtain ⟨e,f,rfl,r2,r3⟩:=gQ r;exact ⟨d,e,f,rfl,r1,r2,r3⟩
theorem ab7 {ds:List Z.D}(r:au K ρ H ds []):ds=[]:=by
 cases ds with
 | nil=>rfl
 | cons _ _=>simp only[au]at r;obtain ⟨_,_,e,_⟩:=r;cases e
theorem fK {n:Nat}{v:V}{xs:List Z.D}(R:Rep K ρ h H)(r:ao K ρ H (.ref n) v)(e:h[n]?=some (.lst xs)):∃a ys,v=.ref a/\ρ[n]?=some a/\H a=some (.lst ys)/\au K ρ H xs ys:=by
 simp only[ao]at r;obtain ⟨a,rfl,q⟩:=r;obtain ⟨b,e1,ys,e2,rs⟩:=R.at_ n _ e;rw[q]at e1;cases e1;exact ⟨a,ys,rfl,q,e2,rs⟩
theorem Gz {n:Nat}{v:V}{kvs:List (Z.KK×Z.D)}(R:Rep K ρ h H)(r:ao K ρ H (.ref n) v)(e:h[n]?=some (.dct kvs)):∃a kvs',v=.ref a/\ρ[n]?=some a/\H a=some (.dK kvs')/\kvs'.map (·.1)=kvs.map (λp=>fW p.1)/\au K ρ H (kvs.map (·.2)) (kvs'.map (·.2))/\∀p∈kvs,∀s,p.1=Sum.inr s->s.length<=Z.lim:=by
 simp only[ao]at r;obtain ⟨a,rfl,q⟩:=r;obtain ⟨b,e1,ys,e2,rs⟩:=R.at_ n _ e;rw[q]at e1;cases e1;exact ⟨a,ys,rfl,q,e2,rs⟩
theorem mC {xs:List Z.D}{d:Z.D}{h':Z.AH}(e:Z.newL xs h=some (d,h')):xs.length<=Z.lim/\d=.ref h.length/\h'=h++[.lst xs]:=by
 unfold Z.newL at e;split at e
 ·cases e;exact ⟨by assumption,rfl,rfl⟩
 ·cases e
theorem YJ {n:Nat}{xs:List Z.D}{v d:Z.D}{h':Z.AH}(e:Z.HS n xs v h=some (d,h')):xs.length<=Z.lim/\d=v/\h'=h.set n (.lst xs):=by
 unfold Z.HS at e;split at e
 ·cases e;exact ⟨by assumption,rfl,rfl⟩
 ·cases e
theorem sJ {n:Nat}{a:Addr}{xs ys:List Z.D}{vs ws:List V}(R:Rep K ρ h H)(hn:ρ[n]?=some a)(ha:H a=some (.lst vs))(r:au K ρ H ys ws):Ext K ρ H ρ (upd H a (.lst ws))/\Rep K ρ (h.set n (.lst ys)) (upd H a (.lst ws)):=by
 have e:Ext K ρ H ρ (upd H a (.lst ws)):=Ext.write ha (λ_=>by simp) (λ_ _=>by simp);exact ⟨e,R.write hn ha (λ_=>by simp) (λ_ _=>by simp) ⟨ws,aZ,au.mono e _ _ r⟩⟩
theorem kZ (s:List Nat):(⟨s.toArray⟩:Str).length=s.length:=by
 show s.toArray.size=_;simp
theorem aeT (s t:List Nat):(⟨s.toArray⟩++⟨t.toArray⟩:Str)=⟨(s++t).toArray⟩:=by
 show Str.mk (s.toArray++t.toArray)=_;simp
end
section
variable {X:Cx}{sub:Nat->Nat->Bool}
theorem aeU {p:Z.Prim}{f:Int->Int->Int}{op:Value->Value->Sem Value}(hp:Z.prim sub p=Z.mX f)(ho:bT X op (Gm λi j=>.int (f i j))):bT X op (λx y=>rP X.K sub p [x,y]):=uE ho (by
 rintro x y H Q ⟨ρ,h,ds,d,h',R,r,q,k⟩;obtain ⟨d1,d2,rfl,r1,r2⟩:=gQ r;rw[hp]at q;unfold Z.mX at q;split at q
 ·rename_i e;cases e;cases q;simp only[ao]at r1 r2;subst r1 r2;exact ⟨_,_,rfl,rfl,k ρ H _ .refl R (by simp only[ao])⟩
 ·cases q)
theorem RP {p:Z.Prim}{f:Int->Int->Bool}{op:Value->Value->Sem Value}(hp:Z.prim sub p=Z.zW f)(ho:bT X op (Gm λi j=>.bl (f i j))):bT X op (λx y=>rP X.K sub p [x,y]):=uE ho (by
 rintro x y H Q ⟨ρ,h,ds,d,h',R,r,q,k⟩;obtain ⟨d1,d2,rfl,r1,r2⟩:=gQ r;rw[hp]at q;unfold Z.zW at q;split at q
 ·rename_i e;cases e;cases q;simp only[ao]at r1 r2;subst r1 r2;exact ⟨_,_,rfl,rfl,k ρ H _ .refl R (by simp only[ao])⟩
 ·cases q)
theorem aaX:bT X (binaryOp .Sub) (λx y=>rP X.K sub .sub [x,y]):=aeU rfl aec
theorem RQ:bT X (compareOp .Lt) (λx y=>rP X.K sub .lt [x,y]):=RP rfl aib
theorem RT:bT X (compareOp .LtE) (λx y=>rP X.K sub .le [x,y]):=RP rfl aic
theorem Mi:bT X (compareOp .Gt) (λx y=>rP X.K sub .gt [x,y]):=RP rfl aie
theorem bR:bT X (binaryOp .Mod) (λx y=>rP X.K sub .mod [x,y]):=uE aee (by
 rintro x y H Q ⟨ρ,h,ds,d,h',R,r,q,k⟩;obtain ⟨d1,d2,rfl,r1,r2⟩:=gQ r;change Z.X3 _ _=_ at q;unfold Z.X3 at q;split at q
 ·rename_i e;cases e;split at q
  ·cases q;simp only[ao]at r1 r2;subst r1 r2;exact ⟨_,_,rfl,rfl,by assumption,k ρ H _ .refl R (by simp only[ao])⟩
  ·cases q
 ·cases q)
theorem log2_lt_of {n k:Nat}(hk:0 < k)(h:n < 2 ^ k):n.log2 < k:=by
 by_cases z:n=0
 ·subst z;simpa using hk
 ·exact (Nat.log2_lt z).mpr h
theorem GC {i:Int}(h:-2037035976334486086268445688409378161051468393665936250636140449354381299763336706183397376 < i/\i < 2037035976334486086268445688409378161051468393665936250636140449354381299763336706183397376):i.natAbs < 2 ^ 300:=by
 have e:(2:Nat) ^ 300=2037035976334486086268445688409378161051468393665936250636140449354381299763336706183397376:=by decide+kernel
 rw[e];omega
theorem YK:bT X (binaryOp .FloorDiv) (rI (λ_ j=>0 < j/\-2037035976334486086268445688409378161051468393665936250636140449354381299763336706183397376 < j/\j < 2037035976334486086268445688409378161051468393665936250636140449354381299763336706183397376) λi j=>.int (i / j)):=V2 λi j _ _ _ _ _ hc q=>by
 have h1:(0:Int) < j:=hc.1;exact floordiv_int (Int.ne_of_gt h1) (by rw[Int.fdiv_eq_ediv_of_nonneg i (Int.le_of_lt h1)];exact q) (.inl (PyProof.noPylong_of_log2 (Nat.lt_trans (log2_lt_of (by decide) (GC hc.2)) (by decide))))
theorem Eu {i:Int}(h:-2037035976334486086268445688409378161051468393665936250636140449354381299763336706183397376 < i/\i < 2037035976334486086268445688409378161051468393665936250636140449354381299763336706183397376):Builtin.Int.intBits i<=2 ^ 20:=by
 have:=log2_lt_of (by decide) (GC h);unfold Builtin.Int.intBits;have e:(2:Nat) ^ 20=1048576:=by decide
 rw[e];split<;>omega
theorem ab8:bT X (binaryOp .Mult) (rI (λi j=>(-2037035976334486086268445688409378161051468393665936250636140449354381299763336706183397376 < i/\i < 2037035976334486086268445688409378161051468393665936250636140449354381299763336706183397376)/\(-2037035976334486086268445688409378161051468393665936250636140449354381299763336706183397376 < j/\j < 2037035976334486086268445688409378161051468393665936250636140449354381299763336706183397376)) λi j=>.int (i * j)):=V2 λi j _ _ _ _ _ hc q=>mul_int q (.of_bits (Eu hc.1) (Eu hc.2))
theorem uT:bT X (binaryOp .FloorDiv) (λx y=>rP X.K sub .fdiv [x,y]):=uE YK (by
 rintro x y H Q ⟨ρ,h,ds,d,h',R,r,q,k⟩;obtain ⟨d1,d2,rfl,r1,r2⟩:=gQ r;change Z.Rk _ _=_ at q;unfold Z.Rk at q;split at q
 ·rename_i e;cases e;split at q
  ·rename_i hc;cases q;simp only[ao]at r1 r2;subst r1 r2;exact ⟨_,_,rfl,rfl,⟨hc.1,Z.vY.mp hc.2⟩,k ρ H _ .refl R (by simp only[ao])⟩
  ·cases q
 ·cases q)
theorem RV:bT X (binaryOp .Pow) (λx y=>rP X.K sub .pow [x,y]):=uE aef (by
 rintro x y H Q ⟨ρ,h,ds,d,h',R,r,q,k⟩;obtain ⟨d1,d2,rfl,r1,r2⟩:=gQ r;change Z.X4 _ _=_ at q;unfold Z.X4 at q;split at q
 ·rename_i e;cases e;split at q
  ·cases q;simp only[ao]at r1 r2;subst r1 r2;exact ⟨_,_,rfl,rfl,by assumption,k ρ H _ .refl R (by simp only[ao])⟩
  ·cases q
 ·cases q)
theorem sO:P_ X (unaryOp .USub) (λx=>rP X.K sub .neg [x]):=λpins s σ H x v Q I rx ⟨ρ,h,ds,d,h',R,r,q,k⟩=>aeg pins s σ H x v Q I rx (by
 obtain ⟨d1,rfl,r1⟩:=wz r;change Z.Fi _ _=_ at q;unfold Z.Fi at q;split at q
 ·rename_i e;cases e;cases q;simp only[ao]at r1;subst r1;exact ⟨_,rfl,k ρ H _ .refl R (by simp only[ao])⟩
 ·cases q)
theorem Inv.al2 {pins:List (Addr×Obj)}{s:Shared}{σ:L2.St}{H:Hp}{l:Addr}{xs:List V}(I:Inv X pins σ H s)(q:Et X.K H l xs):xs.length<=sizeLine/\∃(its:List Value) (n:Nat),Vals xs its/\s.heap.get? l=some {cls:=.type "list",data:=.seq its.toArray n}:=by
 rcases q with ⟨o,q⟩ | ⟨o,its,n,h1,h2,h3,h4,h5,h6,h7⟩
 ·obtain ⟨z,its,n,r,e⟩:=Rd.ok (.inr ⟨o,q⟩) I.hok;exact ⟨z,its,n,r,e⟩
 ·have:=h6.length;refine ⟨by simp at this;omega,its.toList,n,h6,?_⟩;rw[I.cZ l o h1];obtain ⟨c,dd,da,sl⟩:=o;cases h2;cases h3;cases h4;cases h7;simp
theorem ab9:bT X (binaryOp .Add) (λx y H Q=>∃a b ys,x=.ref a/\y=.ref b/\fQ X.K H a []/\fQ X.K H b ys/\Q (.ref b) H):=by
 intro pins s σ H x y v u Q I rx ry h;obtain ⟨a,b,ys,rfl,rfl,ha,hb,q⟩:=h;cases rx;cases ry;obtain ⟨its,r1,p1,_⟩:=I.tuple ha;obtain ⟨its2,r2,p2,_⟩:=I.tuple hb;obtain ⟨⟨cls,dd,data,sl⟩,ho,hc,n,hd⟩:=id p1;obtain ⟨⟨cls2,dd2,data2,sl2⟩,ho2,hc2,n2,hd2⟩:=id p2;simp only at hc hd hc2 hd2;subst hc hd hc2 hd2;cases r1;exact concat_meets ⟨_,ho,rfl⟩ ⟨_,ho2,rfl⟩ noFill_tuple_add seq_tuple_add PySem.F.slot_tuple_add PySem.F.entry_tuple_add (PySem.F.args_tuple_add_2 _ _)
   (tuple_addW0 a b _ _ n n2 dd dd2 sl sl2 (by simp)) ⟨ho,ho2,⟨.ref b,H,I,rfl,q⟩⟩
theorem ab_:bT X (binaryOp .Add) (λx y H Q=>∃l b xs zs,x=.ref l/\y=.ref b/\H l=some (.lst xs)/\Et X.K H b zs/\xs.length+zs.length<=sizeLine/\∀p,H p=none->Q (.ref p) (upd H p (.lst (xs++zs)))):=by
 intro pins s σ H x y v u Q I rx ry h;obtain ⟨l,b,xs,zs,rfl,rfl,hH,hB,hz,q⟩:=h;cases rx;cases ry;obtain ⟨z,its,n,r,hl,e⟩:=I.Ad hH;obtain ⟨z2,its2,n2,r2,e2⟩:=Inv.al2 I hB;have hl2:=r2.length;refine PySem.P.add_list e e2 ?_ (by rw[List.size_toArray,List.size_toArray];omega);have ea:its.toArray++its2.toArray=(its++its2).toArray:=by simp
 rw[ea];exact ⟨.ref _,_,I.Yz (t':=s.toks) (r.append r2) (by rw[List.length_append];omega),rfl,q _ I.fresh⟩
theorem aU:bT X (binaryOp .Add) (λx y=>rP X.K sub .add [x,y]):=uE (aeb.or (Ry.or (aeA.or (abU.or (ab_.or ab9))))) (by
 rintro x y H Q ⟨ρ,h,ds,d,h',R,r,q,k⟩;obtain ⟨d1,d2,rfl,r1,r2⟩:=gQ r;change Z.Rj _ _=_ at q;unfold Z.Rj at q;split at q
 ·rename_i e;cases e;cases q;simp only[ao]at r1 r2;subst r1 r2;exact .inl ⟨_,_,rfl,rfl,k ρ H _ .refl R (by simp only[ao])⟩
 ·rename_i s t e;cases e;split at q
  ·rename_i hl;cases q;simp only[ao]at r1 r2;obtain ⟨rfl,l1⟩:=r1;obtain ⟨rfl,l2⟩:=r2;refine .inr (.inl ⟨_,_,rfl,rfl,by rw[kZ,kZ,<-jP];exact hl,k ρ H _ .refl R ?_⟩);simp only[ao];exact ⟨by rw[aeT],by rw[List.length_append];exact hl⟩
  ·cases q
 ·rename_i s t e;cases e;split at q
  ·rename_i he;cases q;simp only[ao]at r1 r2;obtain ⟨a,ys,rfl,q1,r1⟩:=r1;obtain ⟨b,zs,rfl,q2,r2⟩:=r2;have hs:s=[]:=by simpa using he
   subst hs;simp only[au]at r1;subst r1;exact .inr (.inr (.inr (.inr (.inr ⟨a,b,zs,rfl,rfl,q1,q2,k ρ H _ .refl R (by simp only[ao];exact ⟨b,zs,rfl,q2,r2⟩)⟩))))
  ·rename_i hne;split at q
   ·rename_i hl;cases q;simp only[ao]at r1 r2;obtain ⟨a,ys,rfl,q1,r1⟩:=r1;obtain ⟨b,zs,rfl,q2,r2⟩:=r2;refine .inr (.inr (.inr (.inl ⟨a,b,ys,zs,rfl,rfl,q1,q2,?_,by rw[<-r1.length,<-r2.length,<-jP];exact hl,λhz=>?_,λ_ p hp=>?_⟩)))
    ·intro z;subst z;have:=r1.length;simp at this hne;exact hne this
    ·subst hz;have:=r2.length;simp at this;subst this;rw[List.append_nil]at k;exact k ρ H _ .refl R (by simp only[ao];exact ⟨a,ys,rfl,q1,r1⟩)
    ·have e2:Ext X.K ρ H ρ (upd H p (.tup (ys++zs))):=Ext.fresh hp;exact k ρ _ _ e2 (R.fresh hp) (by simp only[ao];exact ⟨p,_,rfl,.of aZ,au.mono e2 _ _ (r1.append r2)⟩)
   ·cases q
 ·rename_i a b e;cases e;split at q
  ·rename_i xs ys e1 e2;obtain ⟨l,vs,rfl,_,ha,r1⟩:=fK R r1 e1;obtain ⟨l',vs',rfl,_,hb,r2⟩:=fK R r2 e2;obtain ⟨hl,rfl,rfl⟩:=mC q;refine .inr (.inr (.inl ⟨l,l',vs,vs',rfl,rfl,ha,hb,by rw[<-r1.length,<-r2.length,<-jP,<-List.length_append];exact hl,λp hp=>?_⟩));obtain ⟨e2,R2,r2⟩:=h_ R (r1.append r2) hp;exact k _ _ _ e2 R2 r2
  ·cases q
 ·rename_i a ys e;cases e;split at q
  ·rename_i xs e1;obtain ⟨l,vs,rfl,_,ha,r1⟩:=fK R r1 e1;simp only[ao]at r2;obtain ⟨b,zs,rfl,q2,r2⟩:=r2;obtain ⟨hl,rfl,rfl⟩:=mC q;refine .inr (.inr (.inr (.inr (.inl ⟨l,b,vs,zs,rfl,rfl,ha,q2,by rw[<-r1.length,<-r2.length,<-jP,<-List.length_append];exact hl,λp hp=>?_⟩))));obtain ⟨e2,R2,r2⟩:=h_ R (r1.append r2) hp;exact k _ _ _ e2 R2 r2
  ·cases q
 ·cases q)
theorem acd {K:PySem.W.Frag}{ρ:List Addr}{H:Hp}{xs:List Z.D}{vs:List V}(n:Nat)(r:au K ρ H xs vs):au K ρ H (List.replicate n xs).flatten (List.replicate n vs).flatten:=by
 induction n with
 | zero=>simp[au]
 | succ n ih=>rw[List.replicate_succ,List.replicate_succ,List.flatten_cons,List.flatten_cons];exact r.append ih
theorem k_:bT X (binaryOp .Mult) (λx y=>rP X.K sub .mul [x,y]):=by
 intro pins s σ H x y v u Q I rx ry ⟨ρ,h,ds,d,h',R,r,q,k⟩;obtain ⟨d1,d2,rfl,r1,r2⟩:=gQ r;change Z.XS _ _=_ at q;unfold Z.XS at q;split at q
 ·rename_i i j e;cases e;split at q
  ·rename_i hc;cases q;simp only[ao]at r1 r2;subst r1 r2;rw[Bool.or_eq_true]at hc;rcases hc with hc | hc
   ·refine aed pins s σ H _ _ v u Q I rx ry ⟨_,_,rfl,rfl,?_,k ρ H _ .refl R (by simp only[ao])⟩;rw[Bool.or_eq_true]at hc;exact hc.imp (λz=>by have:=Z.vX.mp z;omega) (λz=>by have:=Z.vX.mp z;omega)
   ·rw[Bool.and_eq_true]at hc;exact ab8 pins s σ H _ _ v u Q I rx ry ⟨_,_,rfl,rfl,⟨Z.vY.mp hc.1,Z.vY.mp hc.2⟩,k ρ H _ .refl R (by simp only[ao])⟩
  ·cases q
 ·rename_i a kk e;cases e;split at q
  ·rename_i xs e1;split at q
   ·rename_i hk;obtain ⟨l,vs,rfl,_,ha,r1⟩:=fK R r1 e1;obtain ⟨hl,rfl,rfl⟩:=mC q;simp only[ao]at r2;subst r2;have hk':=Mf hk;have hlen:vs.length * kk.toNat<=sizeLine:=by
     rw[<-r1.length,<-jP,Nat.mul_comm];rw[len_rep]at hl;exact hl
    refine aeB pins s σ H _ _ v u Q I rx ry ⟨l,kk,vs,rfl,rfl,ha,by omega,by omega,hlen,λp hp=>?_⟩;obtain ⟨e2,R2,r2⟩:=h_ R (acd kk.toNat r1) hp;exact k _ _ _ e2 R2 r2
   ·cases q
  ·cases q
 ·cases q
theorem qj:bT X (compareOp .Is) (λx y H Q=>y=.non/\rP X.K sub .su [x] H Q):=uE aeh (by
 rintro x y H Q ⟨rfl,ρ,h,ds,d,h',R,r,q,k⟩;obtain ⟨d1,rfl,r1⟩:=wz r;change Z.HW _ _ _=_ at q;unfold Z.HW at q;refine ⟨rfl,?_⟩;split at q
 ·rename_i e;cases e;cases q;simp only[ao]at r1;subst r1;exact k ρ H _ .refl R (by simp only[ao];rfl)
 ·rename_i hn e;cases e;cases q;have hx:x≠.non:=by
   rintro rfl;cases d1<;>simp only[ao]at r1<;>first
    | exact hn rfl
    | (cases r1;done)
    | (obtain ⟨r1,_⟩:=r1;cases r1;done)
    | (obtain ⟨_,_,r1,_⟩:=r1;cases r1;done)
    | (obtain ⟨_,r1,_⟩:=r1;cases r1;done)
  exact k ρ H _ .refl R (by simp only[ao];rw[decide_eq_false hx])
 ·cases q)
end
end ZS
namespace ZS
open PySem PySem.Spec PyProof.Rows L2
variable [R0]
section
variable {X:Cx}{sub:Nat->Nat->Bool}
theorem ace {A:Around}{s:Shared}{u u':Value}{pins:List (Addr×Obj)}{σ:L2.St}{H:Hp}{ρ:List Addr}(I:Inv X pins σ H s)(n:Nat)(d d':Z.D)(v v':V)(b:Bool)(hu:A.units+n < cLine)(r:ao X.K ρ H d v)(r':ao X.K ρ H d' v')(q:RelV v u)(q':RelV v' u')(e:Z.lW n d d'=some b):
  SeqAt.RcNeAt A s u u' (!b):=by
 cases n with
 | zero=>
  cases d<;>cases d'<;>simp only[Z.lW,ao]at r r' e<;>first | (cases e;done) | skip
  all_goals cases e
  ·subst r r';cases q;cases q';exact .none_none
  ·subst r r';cases q;cases q';exact .none_bool _
  ·subst r r';cases q;obtain ⟨_,rfl⟩:=q';exact .none_int _ _
  ·obtain ⟨r',_⟩:=r';subst r r';cases q;obtain ⟨_,rfl⟩:=q';exact .none_str _ _
  ·subst r r';cases q;cases q';exact .bool_none _
  ·subst r r';cases q;cases q';exact .bool_bool _ _
  ·obtain ⟨r',_⟩:=r';subst r r';cases q;obtain ⟨_,rfl⟩:=q';exact .bool_str _ _ _
  ·subst r r';cases q';obtain ⟨_,rfl⟩:=q;exact .int_none _ _
  ·subst r r';obtain ⟨_,rfl⟩:=q';obtain ⟨_,rfl⟩:=q;exact .int_int _ _ _ _
  ·obtain ⟨r',_⟩:=r';subst r r';obtain ⟨_,rfl⟩:=q';obtain ⟨_,rfl⟩:=q;exact .int_str _ _ _ _
  ·obtain ⟨r,_⟩:=r;subst r r';cases q';obtain ⟨_,rfl⟩:=q;exact .str_none _ _
  ·obtain ⟨r,_⟩:=r;subst r r';cases q';obtain ⟨_,rfl⟩:=q;exact .str_bool _ _ _
  ·obtain ⟨r,_⟩:=r;subst r r';obtain ⟨_,rfl⟩:=q';obtain ⟨_,rfl⟩:=q;exact .str_int _ _ _ _
  ·obtain ⟨r,_⟩:=r;obtain ⟨r',_⟩:=r';subst r r';obtain ⟨_,rfl⟩:=q';obtain ⟨_,rfl⟩:=q;rw[<-wu];exact .str_str _ _ _ _
 | succ n=>
  have hu':A.units < cLine:=by omega
  cases d<;>cases d'<;>simp only[Z.lW,ao]at r r' e<;>first | (cases e;done) | skip
  ·cases e;subst r r';cases q;cases q';exact .none_none
  ·cases e;subst r r';cases q;cases q';exact .none_bool _
  ·cases e;subst r r';cases q;obtain ⟨_,rfl⟩:=q';exact .none_int _ _
  ·cases e;obtain ⟨r',_⟩:=r';subst r r';cases q;obtain ⟨_,rfl⟩:=q';exact .none_str _ _
  ·cases e;obtain ⟨a,ys,r',hq,_⟩:=r';subst r r';cases q;cases q';obtain ⟨its,_,it,_⟩:=I.tuple hq;exact .none_tuple (show s.heap.IsTuple a its.toArray from it) hu'
  ·cases e;subst r r';cases q;cases q';exact .bool_none _
  ·cases e;subst r r';cases q;cases q';exact .bool_bool _ _
  ·cases e;obtain ⟨r',_⟩:=r';subst r r';cases q;obtain ⟨_,rfl⟩:=q';exact .bool_str _ _ _
  ·cases e;obtain ⟨a,ys,r',hq,_⟩:=r';subst r r';cases q;cases q';obtain ⟨its,_,it,_⟩:=I.tuple hq;exact .bool_tuple _ (show s.heap.IsTuple a its.toArray from it) hu'
  ·cases e;subst r r';cases q';obtain ⟨_,rfl⟩:=q;exact .int_none _ _
  ·cases e;subst r r';obtain ⟨_,rfl⟩:=q';obtain ⟨_,rfl⟩:=q;exact .int_int _ _ _ _
  ·cases e;obtain ⟨r',_⟩:=r';subst r r';obtain ⟨_,rfl⟩:=q';obtain ⟨_,rfl⟩:=q;exact .int_str _ _ _ _
  ·cases e;obtain ⟨a,ys,r',hq,_⟩:=r';subst r r';obtain ⟨_,rfl⟩:=q;cases q';obtain ⟨its,_,it,_⟩:=I.tuple hq;exact .int_tuple _ _ (show s.heap.IsTuple a its.toArray from it) hu'
  ·cases e;obtain ⟨r,_⟩:=r;subst r r';cases q';obtain ⟨_,rfl⟩:=q;exact .str_none _ _
  ·cases e;obtain ⟨r,_⟩:=r;subst r r';cases q';obtain ⟨_,rfl⟩:=q;exact .str_bool _ _ _
  ·cases e;obtain ⟨r,_⟩:=r;subst r r';obtain ⟨_,rfl⟩:=q';obtain ⟨_,rfl⟩:=q;exact .str_int _ _ _ _
  ·cases e;obtain ⟨r,_⟩:=r;obtain ⟨r',_⟩:=r';subst r r';obtain ⟨_,rfl⟩:=q';obtain ⟨_,rfl⟩:=q;rw[<-wu];exact .str_str _ _ _ _
  ·cases e;obtain ⟨a,ys,r',hq,_⟩:=r';obtain ⟨r,_⟩:=r;subst r r';obtain ⟨_,rfl⟩:=q;cases q';obtain ⟨its,_,it,_⟩:=I.tuple hq;exact .str_tuple _ _ (show s.heap.IsTuple a its.toArray from it) hu'
  ·cases e;obtain ⟨a,ys,r,hq,_⟩:=r;subst r r';cases q;cases q';obtain ⟨its,_,it,_⟩:=I.tuple hq;exact .tuple_none (show s.heap.IsTuple a its.toArray from it) hu'
  ·cases e;obtain ⟨a,ys,r,hq,_⟩:=r;subst r r';cases q;cases q';obtain ⟨its,_,it,_⟩:=I.tuple hq;exact .tuple_bool _ (show s.heap.IsTuple a its.toArray from it) hu'
  ·cases e;obtain ⟨a,ys,r,hq,_⟩:=r;subst r r';cases q;obtain ⟨_,rfl⟩:=q';obtain ⟨its,_,it,_⟩:=I.tuple hq;exact .tuple_int _ _ (show s.heap.IsTuple a its.toArray from it) hu'
  ·cases e;obtain ⟨a,ys,r,hq,_⟩:=r;obtain ⟨r',_⟩:=r';subst r r';cases q;obtain ⟨_,rfl⟩:=q';obtain ⟨its,_,it,_⟩:=I.tuple hq;exact .tuple_str _ _ (show s.heap.IsTuple a its.toArray from it) hu'
  ·rename_i xs xs';obtain ⟨a,ys,e1,hq,rs⟩:=r;obtain ⟨a',ys',e2,hq',rs'⟩:=r';subst e1 e2;cases q;cases q';obtain ⟨its,vv,it,_⟩:=I.tuple hq;obtain ⟨its',JG,it',_⟩:=I.tuple hq';obtain ⟨ee,h1,h2⟩:=Ie e;have hlen:its.toArray.size=xs.length:=by rw[List.size_toArray,<-vv.length,<-rs.length]
   have hlen':its'.toArray.size=xs'.length:=by rw[List.size_toArray,<-JG.length,<-rs'.length]
   have at':=FJ (A:=A.in1) rs rs' vv JG h1 (λx x' y y' u u' b hx hx' hy hy' hb=>(Gy I n A.in1 x x' y y' u u' b (by show A.units+1+n < cLine;omega) hx hx' hy hy' hb).2);have:=SeqAt.RcNeAt.tuples (A:=A) (show s.heap.IsTuple a its.toArray from it) (show s.heap.IsTuple a' its'.toArray from it') hu' at';rw[hlen,hlen',<-h2]at this;exact this
theorem Wf {h:Z.AH}{d1 d2:Z.D}{b:Bool}(e:Z.oJ h d1 d2=some b):Z.lW 150 d1 d2=some b\/∃a c xs ys,d1=.ref a/\d2=.ref c/\h[a]?=some (.lst xs)/\h[c]?=some (.lst ys)/\Z.HB xs ys=some b:=by
 unfold Z.oJ at e;split at e
 ·rename_i a c;split at e
  ·rename_i xs ys e1 e2;exact .inr ⟨a,c,xs,ys,rfl,rfl,e1,e2,e⟩
  ·cases e
 ·exact .inl e
theorem Wg {neg:Bool}(hu:X.A.units+200 < cLine):bT X (compareOp (if neg then .NotEq else .Eq)) (λx y=>rP X.K sub (if neg then .ne else .eq) [x,y]):=by
 intro pins s σ H x y v u Q I rx ry ⟨ρ,h,ds,d,h',R,r,q,k⟩;obtain ⟨d1,d2,rfl,r1,r2⟩:=gQ r;have q':Z.PB neg [d1,d2] h=some (d,h'):=by cases neg<;>exact q
 unfold Z.PB at q';cases e:Z.oJ h d1 d2 with
 | none=>simp only[e]at q';cases q'
 | some b=>
  simp only[e]at q';cases q';have fin:EP X pins σ Q (.bool (b != neg)) s:=⟨.bl (b != neg),H,I,rfl,k ρ H _ .refl R (by simp only[ao])⟩
  rcases Wf e with e | ⟨a,c,xs,ys,rfl,rfl,e1,e2,e⟩
  ·cases neg with
   | false=>rw[Bool.bne_false]at fin;exact (Gy I 150 X.A d1 d2 x y v u b (by omega) r1 r2 rx ry e).1 _ _ _ _ fin
   | true=>rw[Bool.bne_true]at fin;exact ace I 150 d1 d2 x y b (by omega) r1 r2 rx ry e _ _ _ _ fin
  ·obtain ⟨l,vs,rfl,_,ha,r1⟩:=fK R r1 e1;obtain ⟨l',vs',rfl,_,hb,r2⟩:=fK R r2 e2;cases rx;cases ry;obtain ⟨its,vv,pl,_⟩:=I.list (.of ha);obtain ⟨its',JG,pl',_⟩:=I.list (.of hb);have hlen:its.toArray.size=xs.length:=by rw[List.size_toArray,<-vv.length,<-r1.length]
   have hlen':its'.toArray.size=ys.length:=by rw[List.size_toArray,<-JG.length,<-r2.length]
   unfold Z.HB at e;split at e
   ·rename_i hl;obtain ⟨ee,h1,h2⟩:=Ie e;have at':=FJ (A:=X.A.in1) r1 r2 vv JG h1 (λx x' y y' u u' b hx hx' hy hy' hb=>(Gy I 149 X.A.in1 x x' y y' u u' b (by show X.A.units+1+149 < cLine;omega) hx hx' hy hy' hb).2);have hb':b=(List.range its.toArray.size).all ee:=by
     rw[h2,hlen,hl,Nat.min_self];simp
    cases neg with
    | false=>rw[Bool.bne_false,hb']at fin;exact SeqAt.RcAt.lists pl.isList pl'.isList (by rw[hlen,hlen',hl]) (by omega) at' _ _ _ _ fin
    | true=>rw[Bool.bne_true,hb']at fin;exact SeqAt.RcNeAt.lists pl.isList pl'.isList (by rw[hlen,hlen',hl]) (by omega) at' _ _ _ _ fin
   ·rename_i hl;cases e;cases neg with
    | false=>exact SeqAt.RcAt.lists_lengths pl.isList pl'.isList (by rw[hlen,hlen'];simp[hl]) (by omega) _ _ _ _ fin
    | true=>exact SeqAt.RcNeAt.lists_lengths pl.isList pl'.isList (by rw[hlen,hlen'];simp[hl]) (by omega) _ _ _ _ fin
theorem dg (hu:X.A.units+200 < cLine):bT X (compareOp .Eq) (λx y=>rP X.K sub .eq [x,y]):=Wg (neg:=false) hu
theorem Al (hu:X.A.units+200 < cLine):bT X (compareOp .NotEq) (λx y=>rP X.K sub .ne [x,y]):=Wg (neg:=true) hu
section
variable {pins:List (Addr×Obj)}{σ:L2.St}{H:Hp}{s:Shared}{ρ:List Addr}{h:Z.AH}
theorem Wh (I:Inv X pins σ H s){a:Addr}{o:Obj}{u:HO}(e:X.K.lookup a=some o)(e':H a=some u):False:=by
 have:=(I.bs a o (I.mod.El a o e)).2;rw[e']at this;cases this
theorem Ew (I:Inv X pins σ H s)(R:Rep X.K ρ h H){n:Nat}{a:Addr}{ys:List V}(e:ρ[n]?=some a)(q:fQ X.K H a ys):False:=by
 have hn:n < h.length:=by rw[<-R.len];exact (List.getElem?_eq_some_iff.mp e).1
 obtain ⟨b,e1,r⟩:=R.at_ n h[n] (by simp[hn]);rw[e]at e1;cases e1;have nt:(∀xs,H a≠some (.tup xs))/\(∀o xs,H a≠some (.bY o (.tup xs)))/\∃u,H a=some u:=by
  cases ho:h[n] with
  | lst xs=>rw[ho]at r;obtain ⟨ys,q,_⟩:=r;rw[q];exact ⟨(λ_ z=>by cases z),(λ_ _ z=>by cases z),_,rfl⟩
  | dct xs=>rw[ho]at r;obtain ⟨ys,q,_⟩:=r;rw[q];exact ⟨(λ_ z=>by cases z),(λ_ _ z=>by cases z),_,rfl⟩
  | obj _ _=>rw[ho]at r;obtain ⟨C,dx,fs',_,q,_⟩:=r;rw[q];exact ⟨(λ_ z=>by cases z),(λ_ _ z=>by cases z),_,rfl⟩
  | exc _=>rw[ho]at r;obtain ⟨C,oe,_,q,_⟩:=r;rw[q];exact ⟨(λ_ z=>by cases z),(λ_ _ z=>by cases z),_,rfl⟩
  | cW _ _=>rw[ho]at r;obtain ⟨C,oe,dx,od,_,q,_⟩:=r;rw[q];exact ⟨(λ_ z=>by cases z),(λ_ _ z=>by cases z),_,rfl⟩
 obtain ⟨n1,n2,u,hu⟩:=nt;rcases q with (q | ⟨o,q⟩) | ⟨o,_,_,q,_⟩
 ·exact n1 _ q
 ·exact n2 _ _ q
 ·exact Wh I q hu
theorem Ey (I:Inv X pins σ H s)(R:Rep X.K ρ h H){n:Nat}{a:Addr}{ys:List V}(e:ρ[n]?=some a)(q:Et X.K H a ys):False:=by
 have hn:n < h.length:=by rw[<-R.len];exact (List.getElem?_eq_some_iff.mp e).1
 obtain ⟨b,e1,r⟩:=R.at_ n h[n] (by simp[hn]);rw[e]at e1;cases e1;have nt:(∀o xs,H a≠some (.bY o (.lst xs)))/\∃u,H a=some u:=by
  cases ho:h[n] with
  | lst xs=>rw[ho]at r;obtain ⟨ys,q,_⟩:=r;rw[q];exact ⟨(λ_ _ z=>by cases z),_,rfl⟩
  | dct xs=>rw[ho]at r;obtain ⟨ys,q,_⟩:=r;rw[q];exact ⟨(λ_ _ z=>by cases z),_,rfl⟩
  | obj _ _=>rw[ho]at r;obtain ⟨C,dx,fs',_,q,_⟩:=r;rw[q];exact ⟨(λ_ _ z=>by cases z),_,rfl⟩
  | exc _=>rw[ho]at r;obtain ⟨C,oe,_,q,_⟩:=r;rw[q];exact ⟨(λ_ _ z=>by cases z),_,rfl⟩
  | cW _ _=>rw[ho]at r;obtain ⟨C,oe,dx,od,_,q,_⟩:=r;rw[q];exact ⟨(λ_ _ z=>by cases z),_,rfl⟩
 obtain ⟨n2,u,hu⟩:=nt;rcases q with ⟨o,q⟩ | ⟨o,_,_,q,_⟩
 ·exact n2 _ _ q
 ·exact Wh I q hu
theorem Qi (I:Inv X pins σ H s){a:Addr}{ys zs:List V}(q:fQ X.K H a ys)(q':Et X.K H a zs):False:=by
 rcases q with (q | ⟨o,q⟩) | ⟨o,_,_,q,c,_⟩<;>rcases q' with ⟨o',q'⟩ | ⟨o',_,_,q',c',_⟩
 ·rw[q]at q';cases q'
 ·exact Wh I q' q
 ·rw[q]at q';cases q'
 ·exact Wh I q' q
 ·exact Wh I q q'
 ·rw[q]at q';cases q';rw[c]at c';exact absurd c' (by decide)
mutual
theorem ao.inj (I:Inv X pins σ H s)(R:Rep X.K ρ h H):∀(d d':Z.D) (v:V),ao X.K ρ H d v->ao X.K ρ H d' v->d=d'
 | .non,d',v,r,r'=>by
  simp only[ao]at r;subst r;cases d'<;>simp only[ao]at r'<;>first | rfl | (cases r';done) | (obtain ⟨r',_⟩:=r';cases r';done) | (obtain ⟨_,_,r',_⟩:=r';cases r';done) | (obtain ⟨_,r',_⟩:=r';cases r';done)
 | .bl b,d',v,r,r'=>by
  simp only[ao]at r;subst r;cases d'<;>simp only[ao]at r'<;>first | (cases r';rfl) | (cases r';done) | (obtain ⟨r',_⟩:=r';cases r';done) | (obtain ⟨_,_,r',_⟩:=r';cases r';done) | (obtain ⟨_,r',_⟩:=r';cases r';done)
 | .int b,d',v,r,r'=>by
  simp only[ao]at r;subst r;cases d'<;>simp only[ao]at r'<;>first | (cases r';rfl) | (cases r';done) | (obtain ⟨r',_⟩:=r';cases r';done) | (obtain ⟨_,_,r',_⟩:=r';cases r';done) | (obtain ⟨_,r',_⟩:=r';cases r';done)
 | .str b,d',v,r,r'=>by
  simp only[ao]at r;obtain ⟨rfl,_⟩:=r;cases d'<;>simp only[ao]at r'<;>first | (cases r';done) | (obtain ⟨r',_⟩:=r';injection r' with r';injection r' with r';rw[List.toArray_inj r'];done) | (obtain ⟨r',_⟩:=r';cases r';done) | (obtain ⟨_,_,r',_⟩:=r';cases r';done) | (obtain ⟨_,r',_⟩:=r';cases r';done)
 | .tup xs,d',v,r,r'=>by
  simp only[ao]at r;obtain ⟨a,ys,rfl,q,rs⟩:=r;cases d' with
  | tup xs'=>
   simp only[ao]at r';obtain ⟨a',ys',e,q',rs'⟩:=r';cases e;have:=I.z_ q q';subst this;rw[au.inj I R xs xs' ys rs rs']
  | eY xs'=>simp only[ao]at r';obtain ⟨a',ys',e,q',rs'⟩:=r';cases e;exact (Qi I q q').elim
  | ref n=>simp only[ao]at r';obtain ⟨a',e,q'⟩:=r';cases e;exact (Ew I R q' q).elim
  | non=>simp only[ao]at r';cases r'
  | bl _=>simp only[ao]at r';cases r'
  | int _=>simp only[ao]at r';cases r'
  | str _=>simp only[ao]at r';cases r'.1
 | .eY xs,d',v,r,r'=>by
  simp only[ao]at r;obtain ⟨a,ys,rfl,q,rs⟩:=r;cases d' with
  | eY xs'=>
   simp only[ao]at r';obtain ⟨a',ys',e,q',rs'⟩:=r';cases e;have:=I.Fl q.Ag q'.Ag;subst this;rw[au.inj I R xs xs' ys rs rs']
  | tup xs'=>simp only[ao]at r';obtain ⟨a',ys',e,q',rs'⟩:=r';cases e;exact (Qi I q' q).elim
  | ref n=>simp only[ao]at r';obtain ⟨a',e,q'⟩:=r';cases e;exact (Ey I R q' q).elim
  | non=>simp only[ao]at r';cases r'
  | bl _=>simp only[ao]at r';cases r'
  | int _=>simp only[ao]at r';cases r'
  | str _=>simp only[ao]at r';cases r'.1
 | .ref n,d',v,r,r'=>by
  simp only[ao]at r;obtain ⟨a,rfl,q⟩:=r;cases d' with
  | ref m=>simp only[ao]at r';obtain ⟨a',e,q'⟩:=r';cases e;rw[Af R.nd q q']
  | eY xs'=>simp only[ao]at r';obtain ⟨a',ys',e,q',rs'⟩:=r';cases e;exact (Ey I R q q').elim
  | tup xs'=>simp only[ao]at r';obtain ⟨a',ys',e,q',rs'⟩:=r';cases e;exact (Ew I R q q').elim
  | non=>simp only[ao]at r';cases r'
  | bl _=>simp only[ao]at r';cases r'
  | int _=>simp only[ao]at r';cases r'
  | str _=>simp only[ao]at r';cases r'.1
theorem au.inj (I:Inv X pins σ H s)(R:Rep X.K ρ h H):∀(d d':List Z.D) (v:List V),au X.K ρ H d v->au X.K ρ H d' v->d=d'
 | [],d',v,r,r'=>by simp only[au]at r;subst r;exact (ab7 r').symm
 | x::xs,d',v,r,r'=>by
  simp only[au]at r;obtain ⟨y,t,rfl,q,rs⟩:=r;obtain ⟨x',xs',rfl,q',rs'⟩:=FN r';rw[ao.inj I R x x' y q q',au.inj I R xs xs' t rs rs']
end
theorem YL {x:Z.D}:∀{ys:List Z.D} {b:Bool},Z.dN x ys=some b->∃e:Nat->Bool,(∀(j:Nat) y,ys[j]?=some y->Z.lW 149 y x=some (e j))/\b=(List.range ys.length).any e:=by
 intro ys
 induction ys with
 | nil=>intro b h;simp only[Z.dN]at h;cases h;exact ⟨λ_=>true,λj y h=>by simp at h,by simp⟩
 | cons y ys ih=>
  intro b h;simp only[Z.dN]at h;split at h
  ·rename_i a c ea ec;cases h;obtain ⟨e,h1,h2⟩:=ih ec;refine ⟨λj=>match j with | 0=>a | j+1=>e j,λj y' hy=>?_,?_⟩
   ·cases j with
    | zero=>simp at hy;subst hy;exact ea
    | succ j=>exact h1 j y' (by simpa using hy)
   ·rw[h2,List.length_cons,List.range_succ_eq_map,List.any_cons,List.any_map];rfl
  ·cases h
theorem Ig {A:Around}{d1:Z.D}{x:V}{v:Value}{ys:List Z.D}{vs:List V}{its:List Value}{b:Bool}(I:Inv X pins σ H s)(R:Rep X.K ρ h H)(hu:A.units+200 < cLine)(r1:ao X.K ρ H d1 x)(rx:RelV x v)(rs:au X.K ρ H ys vs)(vv:Vals vs its)(e:Z.dN d1 ys=some b):
  ∃f:Value->Bool,(∀y,y∈its.toArray->SeqAt.EqAt A.in1 s y v (f y))/\its.toArray.any f=b:=by
 obtain ⟨g,h1,h2⟩:=YL e;have at_:∀(j:Nat) (u:Value),its[j]?=some u->SeqAt.EqAt A.in1 s u v (g j):=λj u hj=>by
  have hl:j < ys.length:=by rw[rs.length,vv.length];exact (List.getElem?_eq_some_iff.mp hj).1
  obtain ⟨y,ey,ry⟩:=rs.get (i:=j) (x:=ys[j]) (by simp[hl]);obtain ⟨u',eu,ru⟩:=vv.get ey;rw[hj]at eu;cases eu;exact (Gy I 149 A.in1 ys[j] d1 y x u v (g j) (by show A.units+1+149 < cLine;omega) ry r1 ru rx (h1 j _ (by simp[hl]))).2
 have one:∀(i j:Nat) (u:Value),its[i]?=some u->its[j]?=some u->g i=g j:=λi j u hi hj=>by
  have li:i < ys.length:=by rw[rs.length,vv.length];exact (List.getElem?_eq_some_iff.mp hi).1
  have lj:j < ys.length:=by rw[rs.length,vv.length];exact (List.getElem?_eq_some_iff.mp hj).1
  obtain ⟨y,ey,ry⟩:=rs.get (i:=i) (x:=ys[i]) (by simp[li]);obtain ⟨y',ey',ry'⟩:=rs.get (i:=j) (x:=ys[j]) (by simp[lj]);obtain ⟨u',eu,ru⟩:=vv.get ey;rw[hi]at eu;cases eu;obtain ⟨u',eu,ru'⟩:=vv.get ey';rw[hj]at eu;cases eu;have:=ru.inj ru';subst this;have ed:=ao.inj I R _ _ _ ry ry';have a:=h1 i _ (show ys[i]?=some ys[i] by simp[li]);have c:=h1 j _ (show ys[j]?=some ys[j] by simp[lj]);rw[ed,c]at a;exact (Option.some.inj a).symm
 classical
 refine ⟨λu=>if hu:∃j:Nat,its[j]?=some u then g (Classical.choose hu) else false,λy hy=>?_,?_⟩
 ·obtain ⟨j,hj,ej⟩:=List.getElem_of_mem (List.mem_toArray.mp hy);have ex:∃j:Nat,its[j]?=some y:=⟨j,by rw[List.getElem?_eq_getElem hj,ej]⟩
  show SeqAt.EqAt _ _ _ _ (if hu:∃j:Nat,its[j]?=some y then g (Classical.choose hu) else false);rw[dif_pos ex];exact at_ _ _ (Classical.choose_spec ex)
 ·rw[h2,List.any_toArray];have hlen:ys.length=its.length:=by rw[rs.length,vv.length]
  apply Bool.eq_iff_iff.mpr;rw[List.any_eq_true,List.any_eq_true];constructor
  ·rintro ⟨u,hu',hf⟩;obtain ⟨j,hj,ej⟩:=List.getElem_of_mem hu';have ex:∃j:Nat,its[j]?=some u:=⟨j,by rw[List.getElem?_eq_getElem hj,ej]⟩
   rw[dif_pos ex]at hf;refine ⟨j,List.mem_range.mpr (by rw[hlen];exact hj),?_⟩;rw[one j _ u (by rw[List.getElem?_eq_getElem hj,ej]) (Classical.choose_spec ex)];exact hf
  ·rintro ⟨j,hj,hg⟩;have hj':j < its.length:=by rw[<-hlen];exact List.mem_range.mp hj
   have ex:∃i:Nat,its[i]?=some its[j]:=⟨j,by simp[hj']⟩
   refine ⟨its[j],List.getElem_mem hj',?_⟩;rw[dif_pos ex,<-one j _ its[j] (by simp[hj']) (Classical.choose_spec ex)];exact hg
end
end
end ZS
namespace ZS
open PySem PySem.Spec PyProof.Rows L2
variable [R0]
section
variable {X:Cx}{sub:Nat->Nat->Bool}
theorem Qj {a b:Z.KK}(h:fW a=fW b):a=b:=by
 cases a<;>cases b<;>simp only[fW]at h
 ·cases h;rfl
 ·cases h
 ·cases h
 ·injection h with h
  injection h with h
  rw[List.toArray_inj h]
theorem Qk (a b:Z.KK):decide (fW a=fW b)=decide (a=b):=by
 by_cases e:a=b
 ·subst e;simp
 ·rw[decide_eq_false e,decide_eq_false λq=>e (Qj q)]
theorem Mj {K:PySem.W.Frag}{ρ:List Addr}{H:Hp}{d:Z.D}{k:Z.KK}{v:V}(e:Z.vW d=some k)(r:ao K ρ H d v):v=kV (fW k)/\∀s,k=Sum.inr s->s.length<=Z.lim:=by
 cases d<;>simp only[Z.vW]at e<;>first | (cases e;done) | skip
 ·cases e;simp only[ao]at r;subst r;exact ⟨rfl,λs z=>by cases z⟩
 ·cases e;simp only[ao]at r;obtain ⟨rfl,l⟩:=r;exact ⟨rfl,λs z=>by cases z;exact l⟩
theorem Ih {K:PySem.W.Frag}{ρ:List Addr}{H:Hp}(k:Z.KK):∀(kvs:List (Z.KK×Z.D)) (kvs':List (Key×V)),kvs'.map (·.1)=kvs.map (λp=>fW p.1)->au K ρ H (kvs.map (·.2)) (kvs'.map (·.2))->
  match Z.zV kvs k with
  | some d=>∃v,iY kvs' (fW k)=some v/\ao K ρ H d v
  | none=>iY kvs' (fW k)=none
 | [],kvs',h1,h2=>by
  cases kvs' with
  | nil=>rfl
  | cons _ _=>cases h1
 | (k1,d1)::kvs,kvs',h1,h2=>by
  cases kvs' with
  | nil=>cases h1
  | cons p kvs'=>
   obtain ⟨k2,v2⟩:=p;simp only[List.map_cons,List.cons.injEq]at h1;obtain ⟨rfl,h1⟩:=h1;simp only[List.map_cons,au]at h2;obtain ⟨y,t,e,r1,r2⟩:=h2;cases e;have ih:=Ih k kvs kvs' h1 r2;unfold Z.zV iY at ih ⊢;rw[List.find?_cons,List.find?_cons,Qk];by_cases e:k1=k
   ·subst e;simp;exact r1
   ·simp only[decide_eq_false e];exact ih
theorem acf {K:PySem.W.Frag}{ρ:List Addr}{H:Hp}(k:Z.KK){d:Z.D}{v:V}(r:ao K ρ H d v)(kvs:List (Z.KK×Z.D))(kvs':List (Key×V))(h1:kvs'.map (·.1)=kvs.map (λp=>fW p.1))(h2:au K ρ H (kvs.map (·.2)) (kvs'.map (·.2))):
  (putK kvs' (fW k) v).map (·.1)=(Z.HD kvs k d).map (λp=>fW p.1)/\au K ρ H ((Z.HD kvs k d).map (·.2)) ((putK kvs' (fW k) v).map (·.2)):=by
 have any_eq:∀(kvs:List (Z.KK×Z.D)) (kvs':List (Key×V)),kvs'.map (·.1)=kvs.map (λp=>fW p.1)->(kvs'.any λkv=>decide (kv.1=fW k))=kvs.any λkv=>decide (kv.1=k):=by
  intro kvs
  induction kvs with
  | nil=>intro kvs' h;cases kvs' with
   | nil=>rfl
   | cons _ _=>cases h
  | cons p kvs ih=>intro kvs' h;cases kvs' with
   | nil=>cases h
   | cons q kvs'=>
    simp only[List.map_cons,List.cons.injEq]at h;rw[List.any_cons,List.any_cons,ih _ h.2,h.1,Qk]
 have map_eq:∀(kvs:List (Z.KK×Z.D)) (kvs':List (Key×V)),kvs'.map (·.1)=kvs.map (λp=>fW p.1)->au K ρ H (kvs.map (·.2)) (kvs'.map (·.2))->
   (kvs'.map (λkv=>if kv.1=fW k then (kv.1,v) else kv)).map (·.1)=(kvs.map (λkv=>if kv.1=k then (kv.1,d) else kv)).map (λp=>fW p.1)/\
   au K ρ H ((kvs.map (λkv=>if kv.1=k then (kv.1,d) else kv)).map (·.2)) ((kvs'.map (λkv=>if kv.1=fW k then (kv.1,v) else kv)).map (·.2)):=by
  intro kvs
  induction kvs with
  | nil=>intro kvs' h h';cases kvs' with
   | nil=>exact ⟨rfl,by simp[au]⟩
   | cons _ _=>cases h
  | cons p kvs ih=>intro kvs' h h';cases kvs' with
   | nil=>cases h
   | cons q kvs'=>
    obtain ⟨k1,d1⟩:=p;obtain ⟨k2,v2⟩:=q;simp only[List.map_cons,List.cons.injEq]at h;obtain ⟨rfl,h⟩:=h;simp only[List.map_cons,au]at h';obtain ⟨y,t,e,r1,r2⟩:=h';cases e;obtain ⟨i1,i2⟩:=ih kvs' h r2;simp only[List.map_cons,au];by_cases e:k1=k
    ·subst e;simp only[if_true];exact ⟨by rw[i1],v,_,rfl,r,i2⟩
    ·rw[if_neg e,if_neg λz=>e (Qj z)];exact ⟨by rw[i1],v2,_,rfl,r1,i2⟩
 unfold putK Z.HD;rw[any_eq kvs kvs' h1];by_cases ha:(kvs.any λkv=>decide (kv.1=k))=true
 ·rw[if_pos ha,if_pos ha];exact map_eq kvs kvs' h1 h2
 ·rw[if_neg ha,if_neg ha];rw[List.map_append,List.map_append,List.map_append,List.map_append,h1];exact ⟨rfl,h2.append (.one r)⟩
theorem YM {k:Z.KK}{d:Z.D}{kvs:List (Z.KK×Z.D)}{P:Z.KK->Prop}(hk:P k)(h:∀p∈kvs,P p.1):∀p∈Z.HD kvs k d,P p.1:=by
 intro p hp;unfold Z.HD at hp;split at hp
 ·obtain ⟨q,hq,rfl⟩:=List.mem_map.mp hp;split
  ·exact h q hq
  ·exact h q hq
 ·rcases List.mem_append.mp hp with hp | hp
  ·exact h p hp
  ·rw[List.mem_singleton.mp hp];exact hk
theorem aaZ {neg:Bool}(hu:X.A.units+200 < cLine):bT X (compareOp (if neg then .NotIn else .In)) (λx y=>rP X.K sub (if neg then .kj else .Ei) [x,y]):=by
 intro pins s σ H x y v u Q I rx ry ⟨ρ,h,ds,d,h',R,r,q,k⟩;obtain ⟨d1,d2,rfl,r1,r2⟩:=gQ r;have q':Z.Js neg [d1,d2] h=some (d,h'):=by cases neg<;>exact q
 unfold Z.Js at q';split at q'
 ·rename_i e;cases e;rename_i ys;cases e:Z.dN d1 ys with
  | none=>rw[e]at q';cases q'
  | some b=>
   rw[e]at q';cases q';simp only[ao]at r2;obtain ⟨a,vs,rfl,hq,rs⟩:=r2;cases ry;obtain ⟨its,vv,it,_⟩:=I.tuple hq;obtain ⟨f,f1,f2⟩:=Ig I R hu r1 rx rs vv e;have fin:EP X pins σ Q (.bool (b != neg)) s:=⟨.bl (b != neg),H,I,rfl,k ρ H _ .refl R (by simp only[ao])⟩
   cases neg with
   | false=>exact SeqAt.in_tupleAt f (show s.heap.IsTuple a its.toArray from it) f1 (by rw[f2];rw[Bool.bne_false]at fin;exact fin)
   | true=>exact SeqAt.notIn_tupleAt f (show s.heap.IsTuple a its.toArray from it) f1 (by rw[f2];rw[Bool.bne_true]at fin;exact fin)
 ·rename_i e;cases e;rename_i ys;cases e:Z.dN d1 ys with
  | none=>rw[e]at q';cases q'
  | some b=>
   rw[e]at q';cases q';simp only[ao]at r2;obtain ⟨a,vs,rfl,hq,rs⟩:=r2;cases ry;obtain ⟨its,vv,it,_⟩:=I.list hq.Ag;obtain ⟨f,f1,f2⟩:=Ig I R hu r1 rx rs vv e;have fin:EP X pins σ Q (.bool (b != neg)) s:=⟨.bl (b != neg),H,I,rfl,k ρ H _ .refl R (by simp only[ao])⟩
   cases neg with
   | false=>exact SeqAt.in_listAt f it.isList f1 (by rw[f2];rw[Bool.bne_false]at fin;exact fin)
   | true=>exact SeqAt.notIn_listAt f it.isList f1 (by rw[f2];rw[Bool.bne_true]at fin;exact fin)
 ·rename_i e;cases e;rename_i n;split at q'
  ·rename_i ys e1;cases e:Z.dN d1 ys with
   | none=>rw[e]at q';cases q'
   | some b=>
    rw[e]at q';cases q';obtain ⟨a,vs,rfl,_,hq,rs⟩:=fK R r2 e1;cases ry;obtain ⟨its,vv,it,_⟩:=I.list (.of hq);obtain ⟨f,f1,f2⟩:=Ig I R hu r1 rx rs vv e;have fin:EP X pins σ Q (.bool (b != neg)) s:=⟨.bl (b != neg),H,I,rfl,k ρ H _ .refl R (by simp only[ao])⟩
    cases neg with
    | false=>exact SeqAt.in_listAt f it.isList f1 (by rw[f2];rw[Bool.bne_false]at fin;exact fin)
    | true=>exact SeqAt.notIn_listAt f it.isList f1 (by rw[f2];rw[Bool.bne_true]at fin;exact fin)
  ·rename_i kvs e1;cases e:Z.vW d1 with
   | none=>rw[e]at q';cases q'
   | some kk=>
    rw[e]at q';cases q';obtain ⟨a,kvs',rfl,_,hq,hk,rs,_⟩:=Gz R r2 e1;obtain ⟨rfl,_⟩:=Mj e r1;cases ry;have vr:=Ih (K:=X.K) (ρ:=ρ) (H:=H) kk kvs kvs' hk rs;have his:(iY kvs' (fW kk)).isSome=(Z.zV kvs kk).isSome:=by
     cases e:Z.zV kvs kk with
     | none=>rw[e]at vr;rw[vr];rfl
     | some d=>rw[e]at vr;obtain ⟨v,e',_⟩:=vr;rw[e'];rfl
    have fin:Q (.bl ((Z.zV kvs kk).isSome != neg)) H:=k ρ H _ .refl R (by simp only[ao]);have g:uD H a (kV (fW kk)) (iY kvs' (fW kk)):=uD.k hq;cases neg with
    | false=>exact alZ (by omega) I g rx λs' I'=>⟨.bl _,H,I',rfl,by rw[his];rw[Bool.bne_false]at fin;exact fin⟩
    | true=>exact abZ (by omega) I g rx λs' I'=>⟨.bl _,H,I',rfl,by rw[his];rw[Bool.bne_true]at fin;exact fin⟩
  ·cases q'
 ·cases q'
theorem Ii (hu:X.A.units+200 < cLine):bT X (compareOp .In) (λx y=>rP X.K sub .Ei [x,y]):=aaZ (neg:=false) hu
theorem Dy (hu:X.A.units+200 < cLine):bT X (compareOp .NotIn) (λx y=>rP X.K sub .kj [x,y]):=aaZ (neg:=true) hu
theorem Ij {K:PySem.W.Frag}{ρ:List Addr}{H:Hp}{xs:List Z.D}{ys:List V}{i:Int}{d:Z.D}(r:au K ρ H xs ys)(e:Z.cB xs i=some d):∃v,cB ys i=some v/\ao K ρ H d v:=by
 unfold Z.cB at e;cases ej:Z.kh xs.length i with
 | none=>rw[ej]at e;cases e
 | some j=>
  rw[ej]at e;obtain ⟨v,e1,e2⟩:=r.get (i:=j) e;refine ⟨v,?_,e2⟩;unfold cB;rw[<-r.length];show (Z.kh xs.length i).bind _=_;rw[ej];exact e1
theorem aiu (hu:X.A.units+200 < cLine):uO X (λx y=>rP X.K sub .idx [x,y]):=by
 intro value slice pins s σ H x y v u Q I rx ry ⟨ρ,h,ds,d,h',R,r,q,k⟩ hs;obtain ⟨d1,d2,rfl,r1,r2⟩:=gQ r;change Z.X6 _ _=_ at q;unfold Z.X6 at q;split at q
 ·rename_i a i e;cases e;cases e:Z.cB a i with
  | none=>rw[e]at q;cases q
  | some c=>
   rw[e]at q;cases q;simp only[ao]at r1 r2;obtain ⟨rfl,hl⟩:=r1;subst r2;refine Gr value slice pins s σ H _ _ v u Q I rx ry (.inr (.inr ⟨_,i,c,rfl,rfl,by rw[kZ,<-jP];exact hl,e,k ρ H _ .refl R ?_⟩)) hs;unfold ao;exact ⟨rfl,by show 1<=16777216;decide⟩
 ·rename_i xs i e;cases e;cases e:Z.cB xs i with
  | none=>rw[e]at q;cases q
  | some c=>
   rw[e]at q;cases q;simp only[ao]at r1 r2;obtain ⟨a,ys,rfl,hq,rs⟩:=r1;subst r2;obtain ⟨w,e1,e2⟩:=Ij rs e;exact Gr value slice pins s σ H _ _ v u Q I rx ry (.inr (.inl ⟨a,ys,i,w,rfl,rfl,hq,e1,k ρ H _ .refl R e2⟩)) hs
 ·rename_i xs i e;cases e;cases e:Z.cB xs i with
  | none=>rw[e]at q;cases q
  | some c=>
   rw[e]at q;cases q;simp only[ao]at r1 r2;obtain ⟨a,ys,rfl,hq,rs⟩:=r1;subst r2;obtain ⟨w,e1,e2⟩:=Ij rs e;exact Gr value slice pins s σ H _ _ v u Q I rx ry (.inl ⟨a,ys,i,w,rfl,rfl,hq.Ag,e1,k ρ H _ .refl R e2⟩) hs
 ·rename_i n kd e;cases e;split at q
  ·rename_i kvs e1;cases e:Z.vW d2 with
   | none=>rw[e]at q;cases q
   | some kk=>
    rw[e]at q;cases e':Z.zV kvs kk with
    | none=>simp[e']at q
    | some dv=>
     simp[e']at q;obtain ⟨rfl,rfl⟩:=q;obtain ⟨a,kvs',rfl,_,hq,hk,rs,_⟩:=Gz R r1 e1;obtain ⟨rfl,_⟩:=Mj e r2;cases rx;have vr:=Ih (K:=X.K) (ρ:=ρ) (H:=H) kk kvs kvs' hk rs;rw[e']at vr;obtain ⟨w,ew,Ac⟩:=vr;have g:uD H a (kV (fW kk)) (some w):=by rw[<-ew];exact uD.k hq
     exact tail_any (OD I g) PySem.F.slot_dict_getitem.lookup (V8 (by omega) I g ry λw' s3 I3 al3=>⟨w,H,I3,al3,k ρ H _ .refl R Ac⟩) hs
  ·rename_i xs e1;split at q
   ·rename_i i;cases e:Z.cB xs i with
    | none=>rw[e]at q;cases q
    | some c=>
     rw[e]at q;cases q;obtain ⟨a,ys,rfl,_,hq,rs⟩:=fK R r1 e1;simp only[ao]at r2;subst r2;obtain ⟨w,e1,e2⟩:=Ij rs e;exact Gr value slice pins s σ H _ _ v u Q I rx ry (.inl ⟨a,ys,i,w,rfl,rfl,.of hq,e1,k ρ H _ .refl R e2⟩) hs
   ·cases q
  ·cases q
 ·cases q
end
end ZS
namespace ZS
open PySem PySem.Spec PyProof.Rows L2
variable [R0]
section
variable {X:Cx}{sub:Nat->Nat->Bool}{Γ:Z.b_}{E:Z.PX}
theorem Ml (n d:Nat)(o:Option Int):HT.bL n d o=Z.bL n d o:=by
 cases o with
 | none=>rfl
 | some v=>
  unfold HT.bL Z.bL;dsimp only;split<;>omega
theorem Wi (a b:Nat):sliceRange (a:Int) (b:Int) 1=(List.range (b - a)).map λm=>a+m:=by
 unfold sliceRange;have e:(if (1:Int) > 0 then (if (a:Int) < b then ((b:Int) - a+1 - 1) / 1 else 0) else (if (a:Int) > b then ((a:Int) - b - 1 - 1) / (-1) else 0)).toNat=b - a:=by
  rw[if_pos (by decide)];split
  ·rw[Int.ediv_one];omega
  ·omega
 show List.map _ (List.range (Int.toNat _))=_;rw[e];apply List.map_congr_left;intro m _;omega
theorem idx_eq (lo hi:Option Int)(n:Nat):Builtin.Str.strSliceIndices lo hi 1 n=(List.range (Z.bL n n hi - Z.bL n 0 lo)).map λm=>Z.bL n 0 lo+m:=by
 rw[<-Wi];unfold Builtin.Str.strSliceIndices;dsimp only;congr 1
 ·cases lo with
  | none=>simp[Z.bL]
  | some v=>
   simp only[Z.bL];rw[if_pos (by decide)];split<;>omega
 ·cases hi with
  | none=>simp[Z.bL]
  | some v=>
   simp only[Z.bL];rw[if_pos (by decide)];split<;>omega
theorem Ql {α:Type}:∀(k i:Nat) (s:List α),((List.range k).map λm=>i+m).filterMap (λj=>s[j]?)=(s.drop i).take k
 | 0,i,s=>by simp
 | k+1,i,s=>by
  rw[List.range_succ,List.map_append,List.filterMap_append,Ql k i s,List.take_succ];congr 1;simp only[List.map_cons,List.map_nil,List.filterMap_cons,List.filterMap_nil];rw[List.getElem?_drop];cases s[i+k]?<;>rfl
theorem aeV (s:List Nat)(lo hi:Option Int):((Builtin.Str.strSliceIndices lo hi 1 s.length).filterMap λi=>s[i]?)=Z.cut s lo hi:=by
 rw[idx_eq,Ql];rfl
theorem Wj {α:Type}(s:List α)(lo hi:Option Int):(Z.cut s lo hi).length<=s.length:=by
 unfold Z.cut;rw[List.length_take,List.length_drop];omega
theorem Gp (n d:Nat)(hd:d<=n)(o:Option Int):Z.bL n d o<=n:=by
 rw[<-Ml];exact HT.Gp n d hd o
theorem YQ {α:Type}(s:List α)(lo hi:Option Int)(h:Z.bL s.length s.length hi - Z.bL s.length 0 lo=s.length):Z.cut s lo hi=s:=by
 have h1:=Gp s.length s.length (Nat.le_refl _) hi;unfold Z.cut;by_cases h0:Z.bL s.length 0 lo=0
 ·rw[h,h0,List.drop_zero,List.take_length]
 ·have:s.length=0:=by omega
  rw[List.length_eq_zero_iff.mp this];simp
theorem aeW:wY X (λx lo hi H Q=>∃z:List Nat,x=.str ⟨z.toArray⟩/\z.length<=Z.lim/\Q (.str ⟨(Z.cut z lo hi).toArray⟩) H):=by
 intro pins s σ H x v vl vu lo hi sl Q I rx hs pl pu h;obtain ⟨z,rfl,hz,q⟩:=h;obtain ⟨t,rfl⟩:=rx;refine ⟨"str",_,F.slot_str_getitem.lookup,typeIs_str s _ t,?_⟩;obtain ⟨l',e1,e2⟩:∃l':Option (Int×Tok),vl=partValue l'/\l'.map (·.1)=lo:=by
  cases pl with
  | none=>exact ⟨none,rfl,rfl⟩
  | int i t=>exact ⟨some (i,t),rfl,rfl⟩
 obtain ⟨u',e3,e4⟩:∃l':Option (Int×Tok),vu=partValue l'/\l'.map (·.1)=hi:=by
  cases pu with
  | none=>exact ⟨none,rfl,rfl⟩
  | int i t=>exact ⟨some (i,t),rfl,rfl⟩
 subst e1 e3;refine wpAny_getItem_str_slice (l:=l') (u:=u') (st:=none) hs rfl ?_;have hp:slicePicked ⟨z.toArray⟩ l' u' none=Builtin.Str.strSliceIndices lo hi 1 z.length:=by
  unfold slicePicked;rw[e2,e4,kZ];rfl
 have hc:((slicePicked ⟨z.toArray⟩ l' u' none).filterMap ((⟨z.toArray⟩:Str).cps[·]?))=Z.cut z lo hi:=by
  rw[hp,<-aeV];congr 1;funext i;simp
 unfold sliceMade;split
 ·rename_i hw;have hl:(slicePicked ⟨z.toArray⟩ l' u' none).length=z.length:=by
   rw[Bool.and_eq_true]at hw;have:=beq_iff_eq.mp hw.2;rw[this,kZ]
  have hz:Z.cut z lo hi=z:=by
   rw[hp,idx_eq,List.length_map,List.length_range]at hl;exact YQ z lo hi hl
  show EP X pins σ Q (.str ⟨z.toArray⟩ t) s;exact ⟨.str ⟨z.toArray⟩,H,I,⟨t,rfl⟩,by rw[hz]at q;exact q⟩
 ·rw[hc];refine ⟨by rw[kZ,<-jP];exact Nat.le_trans (Wj z lo hi) hz,.str ⟨(Z.cut z lo hi).toArray⟩,H,I.tok _,⟨_,rfl⟩,q⟩
noncomputable def rPs (K:PySem.W.Frag) (x:V) (lo hi:Option Int) (H:Hp) (Q:VK):Prop:=∃ρ h d e h',Rep K ρ h H/\ao K ρ H d x/\Z.dO d lo hi h=some (e,h')/\
 ∀ρ' H' v,Ext K ρ H ρ' H'->Rep K ρ' h' H'->ao K ρ' H' e v->Q v H'
theorem Ik {K:PySem.W.Frag}{ρ:List Addr}{H:Hp}{xs:List Z.D}{ys:List V}{lo hi:Option Int}(r:au K ρ H xs ys):au K ρ H (Z.cut xs lo hi) (wj ys lo hi):=by
 unfold Z.cut wj;rw[Ml,Ml,<-r.length];exact (r.drop _).take _
theorem Mp:wY X (rPs X.K):=al0 (aeW.or (aeo.or abW)) (by
 rintro x lo hi H Q ⟨ρ,h,d,e,h',R,r,q,k⟩;unfold Z.dO at q;split at q
 ·cases q;simp only[ao]at r;obtain ⟨rfl,hl⟩:=r;refine .inl ⟨_,rfl,hl,k ρ H _ .refl R ?_⟩;unfold ao;exact ⟨rfl,Nat.le_trans (Wj _ lo hi) hl⟩
 ·rename_i xs;split at q
  ·cases q
  ·rename_i hw;cases q;simp only[ao]at r;obtain ⟨a,ys,rfl,hq,rs⟩:=r;refine .inr (.inl ⟨a,ys,rfl,hq,by rw[<-rs.length,Ml,Ml];exact hw,λp hp=>?_⟩);have e2:Ext X.K ρ H ρ (upd H p (.tup (wj ys lo hi))):=Ext.fresh hp;exact k ρ _ _ e2 (R.fresh hp) (by simp only[ao];exact ⟨p,_,rfl,.of aZ,au.mono e2 _ _ (Ik rs)⟩)
 ·obtain ⟨hl,rfl,rfl⟩:=mC q;simp only[ao]at r;obtain ⟨a,ys,rfl,hq,rs⟩:=r;refine .inr (.inr ⟨a,ys,rfl,hq.Ag,λp hp=>?_⟩);obtain ⟨e2,R2,r2⟩:=h_ R (Ik rs) hp;exact k _ _ _ e2 R2 r2
 ·split at q
  ·rename_i e1;obtain ⟨hl,rfl,rfl⟩:=mC q;obtain ⟨a,ys,rfl,_,hq,rs⟩:=fK R r e1;refine .inr (.inr ⟨a,ys,rfl,.of hq,λp hp=>?_⟩);obtain ⟨e2,R2,r2⟩:=h_ R (Ik rs) hp;exact k _ _ _ e2 R2 r2
  ·cases q
 ·cases q)
theorem Mq {a b:Expr}{a' b':Z.Ex}{p pos:Pos}(ha:LE X sub Γ E a a')(hb:LE X sub Γ E b b'):LE X sub Γ E (.Subscript a (.Slice (some b) none none p) pos) (.prim .K8 (.cons a' (.cons b' .nil))):=by
 refine fX (Fv Mp ha (Dv hb) Qd) ?_;rintro σ H Q ⟨ρ,h,τ,Q',R,L,w,k⟩;simp only[Z.aM,Z.bH]at w;refine ⟨ρ,h,τ,_,R,L,w,λd1 h1 aL H1 x e1 R1 r1 w1=>⟨aL,h1,τ,_,R1,L.mono e1,w1,λd2 h2 bQ H2 y e2 R2 r2 w2=>?_⟩⟩;cases d2 with
 | int i=>
  simp only[ao]at r2;refine ⟨i,r2,?_⟩;change (match Z.dO d1 (some i) none h2 with | some (v,h2)=>Q' v h2 | none=>False) at w2;cases q:Z.dO d1 (some i) none h2 with
  | none=>rw[q]at w2;exact w2.elim
  | some z=>rw[q]at w2;exact ⟨bQ,h2,d1,z.1,z.2,R2,ao.mono e2 _ _ r1,q,λρ' H' v e' R' r'=>k _ _ ρ' H' v (e1.trans (e2.trans e')) R' r' w2⟩
 | _=>exact w2.elim
theorem Wk {a b:Expr}{a' b':Z.Ex}{p pos:Pos}(ha:LE X sub Γ E a a')(hb:LE X sub Γ E b b'):LE X sub Γ E (.Subscript a (.Slice none (some b) none p) pos) (.prim .Vw (.cons a' (.cons b' .nil))):=by
 refine fX (Fv Mp ha Qd (Dv hb)) ?_;rintro σ H Q ⟨ρ,h,τ,Q',R,L,w,k⟩;simp only[Z.aM,Z.bH]at w;refine ⟨ρ,h,τ,_,R,L,w,λd1 h1 aL H1 x e1 R1 r1 w1=>⟨aL,h1,τ,_,R1,L.mono e1,w1,λd2 h2 bQ H2 y e2 R2 r2 w2=>?_⟩⟩;cases d2 with
 | int i=>
  simp only[ao]at r2;refine ⟨i,r2,?_⟩;change (match Z.dO d1 none (some i) h2 with | some (v,h2)=>Q' v h2 | none=>False) at w2;cases q:Z.dO d1 none (some i) h2 with
  | none=>rw[q]at w2;exact w2.elim
  | some z=>rw[q]at w2;exact ⟨bQ,h2,d1,z.1,z.2,R2,ao.mono e2 _ _ r1,q,λρ' H' v e' R' r'=>k _ _ ρ' H' v (e1.trans (e2.trans e')) R' r' w2⟩
 | _=>exact w2.elim
theorem Qn {a b c:Expr}{a' b' c':Z.Ex}{p pos:Pos}(ha:LE X sub Γ E a a')(hb:LE X sub Γ E b b')(hc:LE X sub Γ E c c'):LE X sub Γ E (.Subscript a (.Slice (some b) (some c) none p) pos) (.slc a' b' c'):=by
 refine fX (Fv Mp ha (Dv hb) (Dv hc)) ?_;rintro σ H Q ⟨ρ,h,τ,Q',R,L,w,k⟩;simp only[Z.aM]at w;refine ⟨ρ,h,τ,_,R,L,w,λd1 h1 aL H1 x e1 R1 r1 w1=>⟨aL,h1,τ,_,R1,L.mono e1,w1,λd2 h2 bQ H2 y e2 R2 r2 w2=>?_⟩⟩;cases d2 with
 | int i=>
  simp only[ao]at r2;refine ⟨i,r2,bQ,h2,τ,_,R2,L.mono (e1.trans e2),w2,λd3 h3 jO H3 z e3 R3 r3 w3=>?_⟩;cases d3 with
  | int j=>
   simp only[ao]at r3;refine ⟨j,r3,?_⟩;dsimp only at w3;cases q:Z.dO d1 (some i) (some j) h3 with
   | none=>rw[q]at w3;exact w3.elim
   | some z=>rw[q]at w3;exact ⟨jO,h3,d1,z.1,z.2,R3,ao.mono (e2.trans e3) _ _ r1,q,λρ' H' v e' R' r'=>k _ _ ρ' H' v (e1.trans (e2.trans (e3.trans e'))) R' r' w3⟩
  | _=>exact w3.elim
 | _=>exact w2.elim
end
end ZS
namespace ZS
open PySem PySem.Spec PyProof.Rows L2
variable [R0]
section
variable {X:Cx}{sub:Nat->Nat->Bool}{Γ:Z.b_}{E:Z.PX}
theorem cU:eV X (.builtin "len") (rP X.K sub .len):=aeF (Yw.or Wb) (by
 rintro xs H Q ⟨ρ,h,ds,d,h',R,r,q,k⟩;change Z.X7 _ _=_ at q;unfold Z.X7 at q;split at q
 ·cases q;obtain ⟨x,xs,rfl⟩:∃x t,xs=x::t:=by simp only[au]at r;obtain ⟨y,t,e,_⟩:=r;exact ⟨y,t,e⟩
  simp only[au]at r;obtain ⟨y,t,e,r,rfl⟩:=r;cases e;simp only[ao]at r;obtain ⟨rfl,hl⟩:=r;exact .inl ⟨_,_,rfl,⟨by rw[kZ,<-jP];exact hl,rfl⟩,by rw[kZ];exact k ρ H _ .refl R (by simp only[ao])⟩
 ·cases q;simp only[au]at r;obtain ⟨y,t,rfl,r,rfl⟩:=r;simp only[ao]at r;obtain ⟨a,ys,rfl,hq,rs⟩:=r;exact .inl ⟨_,_,rfl,.inr ⟨ys,hq,rfl⟩,by rw[<-rs.length];exact k ρ H _ .refl R (by simp only[ao])⟩
 ·cases q;simp only[au]at r;obtain ⟨y,t,rfl,r,rfl⟩:=r;simp only[ao]at r;obtain ⟨a,ys,rfl,hq,rs⟩:=r;exact .inl ⟨_,_,rfl,.inl ⟨ys,hq.Ag,rfl⟩,by rw[<-rs.length];exact k ρ H _ .refl R (by simp only[ao])⟩
 ·rename_i n;simp only[au]at r;obtain ⟨y,t,rfl,r,rfl⟩:=r;split at q
  ·rename_i e1;cases q;obtain ⟨a,ys,rfl,_,hq,rs⟩:=fK R r e1;exact .inl ⟨_,_,rfl,.inl ⟨ys,.of hq,rfl⟩,by rw[<-rs.length];exact k ρ H _ .refl R (by simp only[ao])⟩
  ·rename_i e1;cases q;obtain ⟨a,kvs,rfl,_,hq,hk,rs,_⟩:=Gz R r e1;have:=rs.length;rw[List.length_map,List.length_map]at this;exact .inr ⟨_,_,rfl,hq,by rw[<-this];exact k ρ H _ .refl R (by simp only[ao])⟩
  ·cases q
 ·cases q)
theorem dh:uP X "list.append" (λx xs=>rP X.K sub .append (x::xs)):=aeG JC (by
 rintro x xs H Q ⟨ρ,h,ds,d,h',R,r,q,k⟩;change Z.La _ _=_ at q;unfold Z.La at q;split at q
 ·split at q
  ·rename_i e1;simp only[au]at r;obtain ⟨_,_,e,r1,y,_,rfl,r2,rfl⟩:=r;cases e;obtain ⟨a,ys,rfl,hn,ha,rs⟩:=fK R r1 e1;obtain ⟨hl,rfl,rfl⟩:=YJ q;rw[List.length_append,List.length_singleton]at hl;obtain ⟨e2,R2⟩:=sJ (xs:=[]) R hn ha (rs.append (.one r2));exact ⟨a,ys,y,rfl,rfl,ha,by rw[<-rs.length,<-jP];omega,k _ _ _ e2 R2 (by simp only[ao])⟩
  ·cases q
 ·cases q)
theorem Dz:uP X "list.pop" (λx xs=>rP X.K sub .pop (x::xs)):=aeG aez (by
 rintro x xs H Q ⟨ρ,h,ds,d,h',R,r,q,k⟩;change Z.Yd _ _=_ at q;unfold Z.Yd at q;split at q
 ·split at q
  ·rename_i e1;simp only[au]at r;obtain ⟨_,_,e,r1,rfl⟩:=r;cases e;obtain ⟨a,ys,rfl,hn,ha,rs⟩:=fK R r1 e1;split at q
   ·rename_i v ev;cases q;rw[List.getLast?_eq_getElem?]at ev;obtain ⟨y,ey,ry⟩:=rs.get ev;obtain ⟨e2,R2⟩:=sJ (xs:=[]) R hn ha rs.dropLast;exact ⟨a,ys,y,rfl,rfl,ha,by rw[<-rs.length];exact ey,k _ _ _ e2 R2 (ao.mono e2 _ _ ry)⟩
   ·cases q
  ·cases q
 ·cases q)
open AutoSeq1 in
theorem v8.or {t t':Ru}(h:v8 X t)(h':v8 X t'):v8 X (λo i v H Q=>t o i v H Q\/t' o i v H Q):=by
 intro pins s σ H o i v ov iv u Q I ro ri rv q;rcases q with q | q
 ·exact h pins s σ H o i v ov iv u Q I ro ri rv q
 ·exact h' pins s σ H o i v ov iv u Q I ro ri rv q
theorem set_dict (hu:X.A.units+1 < cLine):v8 X (λo i v H Q=>∃a H',o=.ref a/\LR H a i v H'/\Q H'):=by
 intro pins s σ H o i v ov iv u Q I ro ri rv ⟨a,H',e,g,q⟩;subst e;cases ro;exact V9 hu I g ri rv λs' I'=>⟨H',I',q⟩
theorem aeX (hu:X.A.units+200 < cLine):v8 X (λo i v H Q=>rP X.K sub .iU [o,i,v] H λ_ H'=>Q H'):=by
 intro pins s σ H o i v ov iv u Q I ro ri rv ⟨ρ,h,ds,d,h',R,r,q,k⟩;refine (v8.or set_list (set_dict (by omega))) pins s σ H o i v ov iv u Q I ro ri rv ?_;obtain ⟨d1,d2,d3,rfl,r1,r2,r3⟩:=ait r;change Z.Rn _ _=_ at q;unfold Z.Rn at q;split at q
 ·rename_i e;cases e;rename_i n;split at q
  ·rename_i kvs e1;cases e:Z.vW d2 with
   | none=>rw[e]at q;cases q
   | some kk=>
    rw[e]at q;simp only[Option.bind_some]at q;split at q
    ·rename_i hl;cases q;obtain ⟨a,kvs',rfl,hn,ha,hk,rs,hs⟩:=Gz R r1 e1;obtain ⟨rfl,hk2⟩:=Mj e r2;have hlen:=rs.length;rw[List.length_map,List.length_map]at hlen;have e2:Ext X.K ρ H ρ (upd H a (.dK (putK kvs' (fW kk) v))):=Ext.write ha (λ_=>by simp) (λ_ _=>by simp);obtain ⟨p1,p2⟩:=acf kk r3 kvs kvs' hk rs;refine .inr ⟨a,_,rfl,LR.k (k:=fW kk) ha (by rw[<-hlen,<-jP];exact hl),k ρ _ .non e2 (R.write hn ha (λ_=>by simp) (λ_ _=>by simp) ⟨_,aZ,p1,au.mono e2 _ _ p2,?_⟩) (by simp only[ao])⟩;exact YM (P:=λq=>∀s,q=Sum.inr s->s.length<=Z.lim) hk2 hs
    ·cases q
  ·rename_i xs e1;split at q
   ·rename_i i;split at q
    ·rename_i j ej;cases q;obtain ⟨a,ys,rfl,hn,ha,rs⟩:=fK R r1 e1;simp only[ao]at r2;subst r2;obtain ⟨e2,R2⟩:=sJ (xs:=[]) R hn ha (rs.set j r3);exact .inl ⟨a,ys,i,j,rfl,rfl,ha,by rw[<-rs.length];exact ej,k _ _ .non e2 R2 (by simp only[ao])⟩
    ·cases q
   ·cases q
  ·cases q
 ·cases q
end
end ZS
namespace ZS
open PySem PySem.Spec PyProof.Rows L2
variable [R0]
section
variable {X:Cx}{sub:Nat->Nat->Bool}{Γ:Z.b_}{E:Z.PX}
noncomputable def Qo:Z.KN->String
 | .int=>"int" | .bool=>"bool" | .str=>"str" | .list=>"list" | .tuple=>"tuple" | .cls _=>"?"
noncomputable def GD:Z.KN->String->Bool
 | .int,"int"=>true | .int,"bool"=>true | .bool,"bool"=>true | .str,"str"=>true | .list,"list"=>true | .tuple,"tuple"=>true | _,_=>false
theorem Am {K:PySem.W.Frag}(k:Z.KN)(hk:∀c,k≠.cls c)(t:String)(ht:t∈["NoneType","bool","int","str","list","tuple","dict"]):PySem.W.kitOne K (.type t) (.type (Qo k))=some (GD k t):=by
 simp only[List.mem_cons,List.not_mem_nil,or_false]at ht;cases k with
 | cls c=>exact absurd rfl (hk c)
 | _=>rcases ht with rfl | rfl | rfl | rfl | rfl | rfl | rfl<;>kernel_rfl
theorem aiv (k:Z.KN)(hk:∀c,k≠.cls c):eV X (.builtin "isinstance") (λxs H Q=>∃x,xs=[x,.ty (Qo k)]/\rP X.K sub (.jX k) [x] H Q):=by
 intro pins s σ H xs us Q I r ⟨x,e,ρ,h,ds,d,h',R,rr,q,kk⟩;subst e;obtain ⟨u,w',rfl,rx,rt⟩:=vals2 r;cases (show w'=Value.type (Qo k) from rt);obtain ⟨d1,rfl,r1⟩:=wz rr;change Z.X8 sub k [d1] h=some (d,h') at q;unfold Z.X8 at q;cases e:Z.gW h sub k d1 with
 | none=>simp only[e]at q;cases q
 | some b=>
  simp only[e]at q;cases q;have fin:∀tk,EP X pins σ Q (.bool b) {s with toks:=tk}:=λtk=>⟨.bl b,H,I.tok _,rfl,kk ρ H _ .refl R (by simp only[ao])⟩
  cases d1 with
  | non=>
   simp only[ao]at r1;subst r1;cases rx;have hb:b=GD k "NoneType":=by cases k<;>first | (simp[Z.gW]at e;subst e;rfl) | exact absurd rfl (hk _)
   exact PySem.W.kia_one PySem.W.kitx_none I.cZ True.intro (hb ▸ Am k hk "NoneType" (by simp)) (λz=>nomatch z) fin
  | bl c=>
   simp only[ao]at r1;subst r1;cases rx;have hb:b=GD k "bool":=by cases k<;>first | (simp[Z.gW]at e;subst e;rfl) | exact absurd rfl (hk _)
   exact PySem.W.kia_one PySem.W.kitx_bool I.cZ True.intro (hb ▸ Am k hk "bool" (by simp)) (λz=>nomatch z) fin
  | int i=>
   simp only[ao]at r1;subst r1;obtain ⟨t,rfl⟩:=rx;have hb:b=GD k "int":=by cases k<;>first | (simp[Z.gW]at e;subst e;rfl) | exact absurd rfl (hk _)
   exact PySem.W.kia_one PySem.W.kitx_int I.cZ True.intro (hb ▸ Am k hk "int" (by simp)) (λz=>nomatch z) fin
  | str i=>
   simp only[ao]at r1;obtain ⟨rfl,_⟩:=r1;obtain ⟨t,rfl⟩:=rx;have hb:b=GD k "str":=by cases k<;>first | (simp[Z.gW]at e;subst e;rfl) | exact absurd rfl (hk _)
   exact PySem.W.kia_one PySem.W.kitx_str I.cZ True.intro (hb ▸ Am k hk "str" (by simp)) (λz=>nomatch z) fin
  | tup xs=>
   simp only[ao]at r1;obtain ⟨a,ys,rfl,hq,_⟩:=r1;cases rx;obtain ⟨its,_,⟨o,h1,h2,_⟩,_⟩:=I.tuple hq;have hb:b=GD k "tuple":=by cases k<;>first | (simp[Z.gW]at e;subst e;rfl) | exact absurd rfl (hk _)
   exact PySem.W.kia_one PySem.W.kitx_tuple I.cZ ⟨o,h1,h2⟩ (hb ▸ Am k hk "tuple" (by simp)) (λz=>nomatch z) fin
  | eY xs=>
   simp only[ao]at r1;obtain ⟨a,ys,rfl,hq,_⟩:=r1;cases rx;obtain ⟨its,_,⟨o,n,h1,h2,_⟩,_⟩:=I.list hq.Ag;have hb:b=GD k "list":=by cases k<;>first | (simp[Z.gW]at e;subst e;rfl) | exact absurd rfl (hk _)
   exact PySem.W.kia_one PySem.W.kitx_list I.cZ ⟨o,h1,h2⟩ (hb ▸ Am k hk "list" (by simp)) (λz=>nomatch z) fin
  | ref n=>
   cases eo:h[n]? with
   | none=>cases k<;>first | (simp[Z.gW,eo]at e;done) | exact absurd rfl (hk _)
   | some o=>
    cases o with
    | lst xs=>
     obtain ⟨a,ys,rfl,_,ha,_⟩:=fK R r1 eo;cases rx;obtain ⟨its,_,⟨o,n,h1,h2,_⟩,_⟩:=I.list (.of ha);have hb:b=GD k "list":=by cases k<;>first | (simp[Z.gW,eo]at e;subst e;rfl) | exact absurd rfl (hk _)
     exact PySem.W.kia_one PySem.W.kitx_list I.cZ ⟨o,h1,h2⟩ (hb ▸ Am k hk "list" (by simp)) (λz=>nomatch z) fin
    | dct xs=>
     obtain ⟨a,ys,rfl,_,ha,_⟩:=Gz R r1 eo;cases rx;obtain ⟨_,_,vs,_,p⟩:=(show cD X.prog X.w H s.heap a (.dK ys) from I.hok a _ ha)
     obtain ⟨o,es,ep,h1,h2,_⟩:=p;have hb:b=GD k "dict":=by cases k<;>first | (simp[Z.gW,eo]at e;subst e;rfl) | exact absurd rfl (hk _)
     exact PySem.W.kia_one PySem.W.kitx_dict I.cZ ⟨o,h1,h2.1⟩ (hb ▸ Am k hk "dict" (by simp)) (λz=>nomatch z) fin
    | obj c fs=>
     cases k<;>first | (simp[Z.gW,eo]at e;done) | exact absurd rfl (hk _)
    | exc c=>
     cases k<;>first | (simp[Z.gW,eo]at e;done) | exact absurd rfl (hk _)
    | cW c i=>
     cases k<;>first | (simp[Z.gW,eo]at e;done) | exact absurd rfl (hk _)
theorem aeY {e:Expr}{e':Z.Ex}{k:Z.KN}{tn:Str}{p p2 pos:Pos}(hk:∀c,k≠.cls c)(hg:Gl X "isinstance")(hm:X.mg "isinstance"=none)(hgt:Gl X tn)(hmt:X.mg tn=none)(Wm:bootBuiltins tn=some (.type (Qo k)))(hnn:tn≠"__name__")(hdd:(tn == ("__debug__":Str))=false)
  (he:LE X sub Γ E e e') (hs:∀es,starEach (e::es) X.env=(false,eval e X.env)::starEach es X.env):
  LE X sub Γ E (.Call (.Name "isinstance" p) [e,.Name tn p2] [] pos) (.prim (.jX k) (.cons e' .nil)):=by
 have hn:PE X (.Name tn p2) (tC (.ty (Qo k))):=PN hgt hmt Wm rfl hnn hdd;refine fX (wg (aiv (sub:=sub) k hk) hg hm (by rfl) (fV he (fV hn nH (by rfl)) (hs _)) (by decide) (by decide) (hs _) (by rfl)) ?_;rintro σ H Q ⟨ρ,h,τ,Q',R,L,w,k'⟩;simp only[Z.aM,Z.bH]at w;refine ⟨ρ,h,τ,_,R,L,w,λd1 h1 aL H1 x e1 R1 r1 w1=>?_⟩;cases q:Z.prim sub (.jX k) [d1] h1 with
 | none=>rw[q]at w1;exact w1.elim
 | some z=>
  rw[q]at w1;exact ⟨x,rfl,aL,h1,[d1],z.1,z.2,R1,.one r1,q,λρ' H' v e' R' r'=>k' _ _ ρ' H' v (e1.trans e') R' r' w1⟩
noncomputable def bA (K:PySem.W.Frag) (Γ:Z.b_) (f:Nat):Sp:=λvs H Q _=>∃ρ h ds Q',∃E':Z.PX,Rep K ρ h H/\au K ρ H ds vs/\Γ f ds h Q' (Z.EF E')/\
 ∀d h' ρ' H' v,Ext K ρ H ρ' H'->Rep K ρ' h' H'->ao K ρ' H' d v->Q' d h'->Q v H'
theorem acg {CX:uM}{k i:Nat}{f:Addr}{fd:FuncData}{ps:List Str}{x:Str}{e:Expr}{es:List Expr}{es':Z.cN}{Ab:List V}{ds:List Value}{dd:List Z.D}{p pos:Pos}{E0:XK}
  (F:aX X.prog X.w X.K X.mg X.base CX k f fd ps (bA X.K Γ i)) (hr:cR k X.A) (hg:Gl X x) (hm:X.mg x=some (.ref f)) (hk:PySem.W.keepIn X.K (.ref f)=true) (hb:Binds X.K fd ps ds) (hd:Vals Ab ds) (hx:Passes CX X E0) (hdd:∀ρ H,au X.K ρ H dd Ab)
  (ha:LA X sub Γ E (e::es) es') (hdb:(x == ("__debug__":Str))=false) (he:starEach (e::es) X.env=(false,eval e X.env)::starEach es X.env) (hpl:(backTo pos (starEach es X.env)).any (·.1)=false):
  LE X sub Γ E (.Call (.Name x p) (e::es) [] pos) (.call i es' dd):=by
 refine fX (abR F hr hg hm hk hb hd hx ha hdb he hpl) ?_;rintro σ H Q ⟨ρ,h,τ,Q',R,L,w,k'⟩;simp only[Z.aM]at w;refine ⟨ρ,h,τ,_,R,L,w,λjZ h1 aL H1 vs e1 R1 r1 w1=>?_⟩;exact ⟨aL,h1,jZ++dd,Q',E,R1,r1.append (hdd _ _),w1,λd h' ρ' H' v e' R' r' q=>k' d h' ρ' H' v (e1.trans e') R' r' q⟩
end
end ZS
namespace ZS
open PySem PySem.Spec PyProof.Rows L2
variable [R0]
section
variable {X:Cx}{sub:Nat->Nat->Bool}
end
end ZS
namespace ZS
open PySem PySem.Spec PyProof.Rows L2
variable [R0]
noncomputable def jm (X:Cx) (scope:Scope) (cl:List (Str×Addr)) (N':List Str) (C:Addr) (s3:Shared) (H3:Hp) (fp:List Addr):Cx:=
 {X with N:=N',s₀:=s3,H₀:=H3,env:=compEnvC scope cl C X.env,outer:=X.stack,stack:=X.stack,ex:=fp,fn:=λ_=>false,pn:=[],xe:=λ_ _=>False}
noncomputable def RW (wi:TI) (bd:V->Hp->List V->Prop) (tc:TT) (te:TE):TE:=λσ H Q=>wi σ H λJ H1=>∀D,H1 D=none->∃W:Nat->Nat->Hp->Prop,(∃m,W 0 m (upd H1 D (.lst [])))/\∀i m H,W i m H->
 (J.stop i H/\Q (.ref D) H)\/(J.go i H/\∃N:Hp->Prop,(∀H',N H'->∃m',m' < m/\W (i+1) m' H')/\∀v H',J.VP i H v H'->∃vs,bd v H' vs/\tc (σ++vs.map some) H' λc H2=>
  if c=true then te (σ++vs.map some) H2 λy H3=>∃ys,H3 D=some (.lst ys)/\ys.length < sizeLine/\N (upd H3 D (.lst (ys++[y]))) else N H2)
noncomputable def GF (X:Cx) (tg:Expr) (n m:Nat) (bd:V->Hp->List V->Prop):Prop:=∀(pins:List (Addr×Obj)) (s:Shared) (σ os:L2.St) (H:Hp) (v:V) (u:Value) (vs:List V),Inv X pins (σ++os) H s->RelV v u->bd v H vs->σ.length=n->os.length=m->
 wpAny (model X.prog X.w) X.A (assign tg X.env u) (λ_ s'=>Inv X pins (σ++vs.map some) H s') X.xe s
noncomputable def Mr (X:Cx) (ifs:List Expr) (t:TT):Prop:=
 ∀(pins:List (Addr×Obj)) (s:Shared) (σ:L2.St) (H:Hp) (Q:Bool->Hp->Prop),Inv X pins σ H s->t σ H Q->
  wpAny (model X.prog X.w) X.A (forIn ifs true λc r=>if r=true then do let ok <-isTrue c X.env (eval c X.env);pure (ForInStep.yield ok) else pure (ForInStep.yield r)) (TP X pins σ Q) X.xe s
theorem ach {X:Cx}:Mr X [] (λ_ H Q=>Q true H):=λ_ s _ H _ I h=>wpAny_pure ⟨H,I,h⟩
section
variable {X:Cx}
structure FP (X:Cx)(scope:Scope)(M xs:List Str):Prop where
 kind:scope.kind=.function
 nd:(M++xs).Nodup
 len:M.length=X.N.length
 at_:∀p∈M.zip X.N,scope.names.lookup p.1=none\/(p.1=p.2/\scope.names.lookup p.1≠some .local)
 Ms:∀y∈scope.names,y.2≠.cell
 free:∀y∈scope.names,y.2=.free->(X.env.kindOf y.1=some .cell)\/X.env.kindOf y.1=some .free
 loc:∀x∈xs,scope.names.lookup x=some .local
 names:∀y∈scope.names,y.2=.local->scope.names.lookup y.1=some .local
noncomputable def dj (env:Env):List (Str×NameKind)->List (Str×Addr)->List (Str×Addr)
 | [],acc=>acc
 | (n,.free)::r,acc=>dj env r ((n,(env.cells.lookup n).getD 0)::acc)
 | _::r,acc=>dj env r acc
theorem Ao {env:Env}(f:Str×NameKind->List (Str×Addr)->Sem (ForInStep (List (Str×Addr))))(f1:∀n r c,env.cells.lookup n=some c->f (n,.free) r=pure (ForInStep.yield ((n,c)::r)))(f2:∀n k r,k≠.free->f (n,k) r=pure (ForInStep.yield r)):
  ∀(l:List (Str×NameKind)) (acc:List (Str×Addr)),(∀y∈l,y.2=.free->∃c,env.cells.lookup y.1=some c)->(forIn l acc f)=pure (dj env l acc)
 | [],acc,_=>rfl
 | (n,k)::l,acc,h=>by
  rw[List.forIn_cons];have ih:=λacc=>Ao f f1 f2 l acc λy hy=>h y (List.mem_cons_of_mem _ hy);cases k with
  | free=>
   obtain ⟨c,hc⟩:=h (n,.free) List.mem_cons_self rfl;have hc:env.cells.lookup n=some c:=hc;rw[f1 n acc c hc,pure_bind];show forIn l ((n,c)::acc) f=_;rw[ih];show _=pure (dj env l ((n,(env.cells.lookup n).getD 0)::acc));rw[hc];rfl
  | «local»=>rw[f2 _ _ _ (by simp),pure_bind];exact ih acc
  | cell=>rw[f2 _ _ _ (by simp),pure_bind];exact ih acc
  | globalExplicit=>rw[f2 _ _ _ (by simp),pure_bind];exact ih acc
  | globalImplicit=>rw[f2 _ _ _ (by simp),pure_bind];exact ih acc
theorem RX {env:Env}{scope:Scope}(h:∀y∈scope.names,y.2=.free->∃c,env.cells.lookup y.1=some c):closureFor scope env=pure (dj env scope.names []):=by
 unfold closureFor;dsimp only;rw[Ao _ ?_ ?_ scope.names [] h]
 ·rfl
 ·intro n r c e;show (if (NameKind.free == NameKind.free)=true then _ else _)=_;rw[if_pos (beq_self_eq_true _)];unfold cellOf;rw[e];rfl
 ·intro n k r hk;show (if (k == NameKind.free)=true then _ else _)=_;rw[if_neg (by simpa using hk)]
theorem mY {env:Env}:∀(l:List (Str×NameKind)) (acc:List (Str×Addr)) (y:Str) (c:Addr),(∀z∈l,z.2=.free->∃c,env.cells.lookup z.1=some c)->(∀y c,acc.lookup y=some c->env.cells.lookup y=some c)->(dj env l acc).lookup y=some c->env.cells.lookup y=some c
 | [],acc,y,c,_,ha,e=>ha y c e
 | (n,k)::l,acc,y,c,h,ha,e=>by
  cases k with
  | free=>
   refine mY l _ y c (λz hz=>h z (List.mem_cons_of_mem _ hz)) (λy' c' e'=>?_) e;obtain ⟨c0,hc⟩:=h (n,.free) List.mem_cons_self rfl;have hc:env.cells.lookup n=some c0:=hc;rw[List.lookup_cons]at e';split at e'
   ·rename_i hy;rw[hc]at e';cases e';rw[beq_iff_eq.mp hy];exact hc
   ·exact ha _ _ e'
  | _=>exact mY l acc y c (λz hz=>h z (List.mem_cons_of_mem _ hz)) ha e
theorem wA {env:Env}:∀(l:List (Str×NameKind)) (acc:List (Str×Addr)) (y:Str),((y,NameKind.free)∈l\/∃c,acc.lookup y=some c)->∃c,(dj env l acc).lookup y=some c
 | [],acc,y,h=>by
  rcases h with h | h
  ·simp at h
  ·exact h
 | (n,k)::l,acc,y,h=>by
  cases k with
  | free=>
   refine wA l _ y ?_;rcases h with h | ⟨c,h⟩
   ·rcases List.mem_cons.mp h with e | h
    ·cases e;exact .inr ⟨_,by rw[List.lookup_cons];simp;rfl⟩
    ·exact .inl h
   ·refine .inr ?_;rw[List.lookup_cons];split
    ·exact ⟨_,rfl⟩
    ·exact ⟨c,h⟩
  | _=>
   refine wA l acc y ?_;rcases h with h | h
   ·rcases List.mem_cons.mp h with e | h
    ·cases e
    ·exact .inl h
   ·exact .inr h
theorem eG {scope:Scope}{env:Env}{y:Str}{k:NameKind}(e:(relabel scope env).names.lookup y=some k):scope.names.lookup y=some k\/(k=.cell/\scope.names.lookup y=some .free):=by
 unfold relabel at e;dsimp only at e;generalize scope.names=l at e ⊢
 induction l with
 | nil=>cases e
 | cons p l ih=>
  obtain ⟨n,k'⟩:=p;rw[List.map_cons]at e;by_cases hy:(y == n)=true
  ·rw[List.lookup_cons,hy];dsimp only at e;split at e
   ·rename_i hh;rw[List.lookup_cons,hy]at e;cases e;rw[Bool.and_eq_true,Bool.and_eq_true]at hh;exact .inr ⟨rfl,by rw[beq_iff_eq.mp hh.1.1]⟩
   ·rw[List.lookup_cons,hy]at e;exact .inl e
  ·rw[Bool.not_eq_true]at hy;rw[List.lookup_cons,hy];refine ih ?_;dsimp only at e;split at e
   ·rw[List.lookup_cons,hy]at e;exact e
   ·rw[List.lookup_cons,hy]at e;exact e
theorem Wn {pins:List (Addr×Obj)}{σ:L2.St}{H:Hp}{s:Shared}{scope:Scope}{M xs:List Str}{fp:List Addr}{h1:Heap}{tk:Nat}(I:Inv X pins σ H s)(hc:X.calm=true)(S:FP X scope M xs)
  (hf:∀b∈fp,mj X pins H b) (hns:h1.Ns s.heap.objs.size (λ_=>none)) (hk:∀b o,s.heap.get? b=some o->h1.get? b=some o) (hfs:∀b∈fp,b < s.heap.objs.size) (hfr:∀b∈fp,b∉frs X.stack) (hfb:∀b∈fp,X.base.get? b=none):
  Inv (jm X scope (dj X.env scope.names []) (M++xs) s.heap.objs.size s H fp) [] (σ++List.replicate xs.length none) H {s with heap:=h1,toks:=tk}:=by
 have cells:∀z∈scope.names,z.2=.free->∃c,X.env.cells.lookup z.1=some c:=λz hz e=>I.ok.has z.1 (S.free z hz e);have cl1:∀y c,(dj X.env scope.names []).lookup y=some c->X.env.cells.lookup y=some c:=λy c e=>mY scope.names [] y c cells (λ_ _ e=>by cases e) e;have Mt:∀y,scope.names.lookup y=some .free->(y,NameKind.free)∈scope.names:=λy e=>PySem.mem_of_lookup e;refine ⟨⟨I.ok.mod,S.kind,I.ok.glob,I.ok.blt,Nat.le_refl _,λy z c e1 e2=>I.ok.inj y z c (cl1 y c e1) (cl1 z c e2),λy e=>?_,(λy c e=>by cases e),λ_=>I.ok.hd hc,I.ok.frames,.inl rfl,λb hb=>⟨Nat.ne_of_lt (hfs b hb),λy c e=>(hf b hb).2.2.2.2.1 y c (cl1 y c e)⟩,
   I.bs,Nat.le_trans I.ok.Eo I.sz,(λb o e hb=>(by have z:=(hfb b hb).symm.trans e;cases z)),hfr,I.stack,I.Ds⟩,
  rfl,I.bare,Un.kept hk,⟨_,hns,λi y v e1 e2 e3=>?_⟩,λy c e=>?_,I.hok.fresh (Nat.le_refl _),λy c e=>I.eU y c (cl1 y c e),λp hp=>?_,I.hok.kept hk,?_⟩
 ·have e':(relabel scope X.env).names.lookup y=some .cell\/(relabel scope X.env).names.lookup y=some .free:=e;have hfr':scope.names.lookup y=some .free:=by
   rcases e' with e' | e'
   ·rcases eG e' with z | z
    ·exact absurd rfl (S.Ms _ (PySem.mem_of_lookup z))
    ·exact z.2
   ·rcases eG e' with z | z
    ·exact z
    ·cases z.1
  exact wA scope.names [] y (.inl (Mt y hfr'))
 ·have hi:i < X.N.length:=by
   refine Nat.lt_of_not_le λz=>?_;rw[List.getElem?_append_right (by rw[I.len];exact z),List.getElem?_replicate]at e2;split at e2<;>cases e2
  have e2':σ[i]?=some (some v):=by rw[List.getElem?_append_left (by rw[I.len];exact hi)]at e2;exact e2
  have e1m:M[i]?=some y:=by
   have e1:(M++xs)[i]?=some y:=e1;rw[List.getElem?_append_left (by rw[S.len];exact hi)]at e1;exact e1
  have hz:(y,X.N[i])∈M.zip X.N:=by
   refine List.mem_of_getElem? (i:=i) ?_;rw[List.getElem?_zip_eq_some];exact ⟨e1m,List.getElem?_eq_getElem hi⟩
  rcases S.at_ _ hz with hno | ⟨hyy,RZ⟩
  ·exfalso;have hno:scope.names.lookup y=none:=hno;have e3':(relabel scope X.env).names.lookup y=some .local\/(relabel scope X.env).names.lookup y=some .cell\/(relabel scope X.env).names.lookup y=some .free:=e3;have none_:∀k,(relabel scope X.env).names.lookup y=some k->False:=λk z=>by
    rcases eG z with z | z
    ·rw[hno]at z;cases z
    ·rw[hno]at z;cases z.2
   rcases e3' with z | z | z<;>exact none_ _ z
  ·have e3':(relabel scope X.env).names.lookup y=some .local\/(relabel scope X.env).names.lookup y=some .cell\/(relabel scope X.env).names.lookup y=some .free:=e3;have RZ:scope.names.lookup y≠some .local:=RZ;have e1':X.N[i]?=some y:=by rw[List.getElem?_eq_getElem hi];exact congrArg some hyy.symm
   have hfr':scope.names.lookup y=some .free:=by
    rcases e3' with z | z | z
    ·rcases eG z with z | z
     ·exact absurd z RZ
     ·cases z.1
    ·rcases eG z with z | z
     ·exact absurd rfl (S.Ms _ (PySem.mem_of_lookup z))
     ·exact z.2
    ·rcases eG z with z | z
     ·exact z
     ·cases z.1
   have hkx:=S.free _ (Mt y hfr') rfl;obtain ⟨m,hn,hl⟩:=I.loc;obtain ⟨u,r,l⟩:=hl i y v e1' e2' (hkx.elim (λz=>.inr (.inl z)) (λz=>.inr (.inr z)));refine ⟨u,r,?_⟩;rcases l with ⟨l,_⟩ | ⟨_,c,hc',hcell⟩
   ·have l:X.env.kindOf y=some .local:=l;rcases hkx with z | z<;>(rw[l]at z;cases z)
   ·obtain ⟨c2,hc2⟩:=wA (env:=X.env) scope.names [] y (.inl (Mt y hfr'));have:=cl1 y c2 hc2;rw[hc']at this;cases this;refine .inr ⟨?_,c,hc2,?_⟩
    ·rcases e3' with z | z | z
     ·rcases eG z with z | z
      ·exact absurd z RZ
      ·cases z.1
     ·exact .inl z
     ·exact .inr z
    ·obtain ⟨o,ho,hd⟩:=hcell;exact ⟨o,hk _ _ ho,hd⟩
 ·obtain ⟨v,o,ho,hd⟩:=I.cell y c (cl1 y c e);exact ⟨v,o,hk _ _ ho,hd⟩
 ·exact absurd (show p∈([]:List (Addr×Obj)) from hp) (by simp)
 ·show (σ++List.replicate xs.length none).length=(M++xs).length;rw[List.length_append,List.length_append,List.length_replicate,I.len,S.len]
theorem FQ {pins:List (Addr×Obj)}{σ:L2.St}{H:Hp}{s:Shared}{b:Addr}(I:Inv X pins σ H s)(hf:mj X pins H b):b∉frs X.stack/\X.base.get? b=none:=by
 obtain ⟨_,h2,h3,h4,_⟩:=hf;refine ⟨λz=>?_,?_⟩
 ·rcases List.mem_cons.mp (I.z9 b z) with q | q
  ·exact h2 q
  ·exact h3 q
 ·cases e:X.base.get? b with
  | none=>rfl
  | some o=>
   rcases h4 with z | z
   ·exact absurd z (I.ok.nU b o e)
   ·exact absurd (Nat.lt_of_lt_of_le (Heap.lt_size e) (Nat.le_trans I.ok.Eo z)) (Nat.lt_irrefl _)
theorem YS {pins:List (Addr×Obj)}{σ σ':L2.St}{H H':Hp}{s s':Shared}{scope:Scope}{cl:List (Str×Addr)}{N':List Str}{fp:List Addr}{h'':Heap}(I:Inv X pins σ H s)(hf:∀b∈fp,mj X pins H b)
  (J:Inv (jm X scope cl N' s.heap.objs.size s H fp) [] σ' H' s') (hs:Heap.SameBut s.heap.objs.size s'.heap h''):Inv X pins σ H' {s' with heap:=h''}:=by
 have hos:=J.os;obtain ⟨hh,g,d,t,os⟩:=s';obtain rfl:os=s.os:=hos;have hok:d7 X.prog X.w H' h'':=λa u e=>by
  have hne:∀b,H' b≠none->b≠s.heap.objs.size:=λb hb z=>hb (by rw[z];exact J.free);refine (J.hok a u e).stay (λb o hb q=>hs.extBut b o (hne b ?_) q) (λ_ q=>q) λ_ _ q=>q;rcases hb with rfl | hb
  ·rw[e];simp
  ·rw[hb];simp
 have un:Un (frs X.stack) fp H H' s.heap h'':=by
  have u:=J.base;have ne:∀b o,s.heap.get? b=some o->b≠s.heap.objs.size:=λb o e=>Nat.ne_of_lt (Heap.lt_size e);exact ⟨λb o e n hb hx=>hs.extBut b o (ne b o e) (u.keep b o e n hb hx),λb o e n hb hx=>let ⟨sl,q⟩:=u.slot b o e n hb hx;⟨sl,hs.extBut b _ (ne b o e) q⟩,u.free,λb o e hx=>let ⟨o',q⟩:=u.there b o e hx;⟨o',hs.extBut b _ (ne b o e) q⟩,u.tups,u.iV,u.jM⟩
 show Inv X pins σ H' {s with heap:=h'',gens:=g,drawn:=d,toks:=t};exact Inv.call (h':=h'') (g':=g) (d':=d) (t':=t) (ch:=fp) I un hok J.bare λb hb=>⟨(hf b hb).2.2.2.1,(hf b hb).2.1,(hf b hb).2.2.2.2.1,(hf b hb).2.2.2.2.2⟩
theorem Mu {α:Type}{M:Model}{A:Around}{t:Sem α}{Q:α->Shared->Prop}{E:Value->Shared->Prop}{s:Shared}(h:wpAny M A t Q (λ_ _=>False) s):wpAny M A t Q E s:=wpAny_mono h (λ_ _ q=>q) λ_ _ f=>f.elim
theorem YT {pg:Program}{wd:World}{A:Around}{elt tgt src:Expr}{ifs:List Expr}{sc:Scope}{pos:Pos}{it acc:Value}{env:Env}{R:Result->Shared->Prop}(W:Nat->Shared->Prop){Er:Value->Shared->Prop}(hEr:Er=notedBy (model pg wd) A env λe s'=>R (.error e) s')
  (turn:∀k t,W k t->wpAny (model pg wd) A (pyNext it) (λr t1=>match r with
   | none=>R (.ok .next) t1
   | some v=>wpAny (model pg wd) A (letOwnedTupleGo tgt it v) (λ_ t2=>wpAny (model pg wd) A (assign tgt env v) (λ_ t3=>
     wpAny (model pg wd) A (forIn ifs true λc r=>if r=true then do let ok <-isTrue c env (eval c env);pure (ForInStep.yield ok) else pure (ForInStep.yield r)) (λok t4=>if ok=true then wpAny (model pg wd) A (eval elt env) (λx t5=>
      wpAny (model pg wd) A (call (.builtin "list.append") [acc,x]) (λ_ t6=>∃m,m < k/\W m t6) Er t5) Er t4 else ∃m,m < k/\W m t4) Er t3) Er t2) Er t1) Er t)
  (k:Nat) {t:Shared} (h:W k t):codeAny (model pg wd) A (.compLoop (.ListComp elt [⟨tgt,src,ifs,0⟩] sc pos) 0 it acc env) R t:=by
 subst hEr;refine codeAny_loop rfl W (λk t hW=>?_) k h;show wpAny _ A ((compTurn (.ListComp elt [⟨tgt,src,ifs,0⟩] sc pos) 0 it acc env).onRaise _) _ _ t;refine wpAny_noted ?_;rw[compTurn_list];refine wpAny_bind (wpAny_standAt (wpAny_bind (wpAny_mono (turn k t hW) (λr t1 q1=>?_) λ_ _ z=>z)));cases r with
 | none=>exact wpAny_pure q1
 | some v=>
  refine wpAny_bind (wpAny_mono q1 (λ_ t2 q2=>wpAny_bind (wpAny_mono q2 (λ_ t3 q3=>wpAny_bind (wpAny_mono q3 (λok t4 q4=>?_) λ_ _ z=>z)) λ_ _ z=>z)) λ_ _ z=>z);cases ok with
  | false=>exact wpAny_pure ⟨rfl,q4⟩
  | true=>exact wpAny_bind (wpAny_bind (wpAny_mono q4 (λx t5 q5=>wpAny_bind (wpAny_mono q5 (λ_ t6 q6=>wpAny_pure (wpAny_pure ⟨rfl,q6⟩)) λ_ _ z=>z)) λ_ _ z=>z))
theorem Wo {pins:List (Addr×Obj)}{s:Shared}{σ:L2.St}{H:Hp}{Q:VK}{use:Option (Value->Sem Unit)}{QQ:Value->Shared->Prop}{pos':Pos}{tg elt iter:Expr}{ifs:List Expr}{M xs:List Str}{pos:Pos}{scope:Scope}{wi:TI}{bd:V->Hp->List V->Prop}{tc:TT}{te:TE}(hcalm:X.calm=true)(S:FP X scope M xs)(hi:PI X tg iter wi)
  (hbd:∀v H vs,bd v H vs->vs.length=xs.length) (hg:∀C s H fp,GF (jm X scope (dj X.env scope.names []) (M++xs) C s H fp) tg X.N.length xs.length bd)
  (hc:∀C s H fp,Mr (jm X scope (dj X.env scope.names []) (M++xs) C s H fp) ifs tc) (he:∀C s H fp,PE (jm X scope (dj X.env scope.names []) (M++xs) C s H fp) elt te)
  (hs:∀v,foldedSetIterable iter X.env v=pure v) (I:Inv X pins σ H s) (h:RW wi bd tc te σ H Q)
  (fin:∀(D C:Addr) (s6:Shared) (H5:Hp) (m:Str->Option Value) (r:Flow),Inv X pins σ H5 s6->s6.heap.Ns C m->mj X pins H5 C->Q (.ref D) H5->compPost (model X.prog X.w) X.A X.xe use QQ (.ref D) C (.ok r) s6):
  wpAny (model X.prog X.w) X.A (comprehension (.ListComp elt [⟨tg,iter,ifs,0⟩] scope pos) scope X.env pos' (newList []) false (eval iter X.env) use) QQ X.xe s:=by
 have cells:∀z∈scope.names,z.2=.free->∃c,X.env.cells.lookup z.1=some c:=λz hz e=>I.ok.has z.1 (S.free z hz e);refine wpAny_comprehension_free (use:=use) rfl hs (RX cells) S.kind S.names ?_;refine bI (hi pins s σ H _ I h) λv s1 h1=>bI h1 λitv s2 h2=>?_;obtain ⟨it,fp,tn,J,H2,e,I2,T,st2,f2,q2⟩:=h2;subst e
 -- the new list
 refine wpAny_newObj_type ?_;have hD:H2 s2.heap.objs.size=none:=I2.hok.fresh (Nat.le_refl _);have I3:Inv X pins σ (upd H2 s2.heap.objs.size (.lst [])) {s2 with heap:=s2.heap.push {cls:=.type "list",data:=.seq ([]:List Value).toArray}}:=
  I2.laid (t':=s2.toks) (λb u z=>Heap.get?_push_of_some _ z) (Nat.le_refl _) ⟨Nat.zero_le _,[],0,.nil,Heap.get?_push_size _ rfl⟩
 have al4:∀b∈fp,b≠s2.heap.objs.size:=λb hb=>by
  obtain ⟨o,ho,_⟩:=T.obj _ _ st2 b hb;exact Nat.ne_of_lt (Heap.lt_size ho)
 have f3:∀b∈fp,mj X pins (upd H2 s2.heap.objs.size (.lst [])) b:=λb hb=>⟨by rw[aN (al4 b hb)];exact (f2 b hb).1,(f2 b hb).2⟩
 have st3:tn 0 (s2.heap.push {cls:=.type "list",data:=.seq ([]:List Value).toArray}):=T.keep _ _ _ st2 λb _ o z=>Heap.get?_push_of_some _ z;obtain ⟨W,⟨m0,w0⟩,turn⟩:=q2 _ hD;generalize hD':s2.heap.objs.size=D at *;generalize hs3:({s2 with heap:=s2.heap.push {cls:=.type "list",data:=.seq ([]:List Value).toArray}}:Shared)=s3 at *;generalize hH3:upd H2 D (.lst [])=H3 at *;have st3:tn 0 s3.heap:=by rw[<-hs3];exact st3
 -- the frame
 refine wpAny_newFunctionEnv S.Ms (λy hy=>by simp at hy) (λh4 hns hsb=>?_) S.kind;have kp:∀b o,s3.heap.get? b=some o->h4.get? b=some o:=λb o z=>hsb.extBut b o (Nat.ne_of_lt (Heap.lt_size z)) (Heap.get?_push_of_some _ z);have hfs:∀b∈fp,b < s3.heap.objs.size:=λb hb=>by
  obtain ⟨o,ho,_⟩:=T.obj _ _ st3 b hb;exact Heap.lt_size ho
 have I4:=Wn (tk:=s3.toks+([]:List (Str×Value)).length) I3 hcalm S f3 hns kp hfs (λb hb=>(FQ I3 (f3 b hb)).1) (λb hb=>(FQ I3 (f3 b hb)).2);have al5:∀H5:Hp,H5 s3.heap.objs.size=none->mj X pins H5 s3.heap.objs.size:=λH5 hn5=>I3.Fp (Nat.le_refl _) hn5;generalize hC:s3.heap.objs.size=C at *;generalize hs4:({s3 with heap:=h4,toks:=s3.toks+([]:List (Str×Value)).length}:Shared)=s4 at *;have st4:tn 0 s4.heap:=by rw[<-hs4];exact T.keep _ _ _ st3 λb _ o z=>kp b o z
 have back:∀{σ':L2.St} {H':Hp} {s':Shared} {h'':Heap},Inv (jm X scope (dj X.env scope.names []) (M++xs) C s3 H3 fp) [] σ' H' s'->Heap.SameBut C s'.heap h''->Inv X pins σ H' {s' with heap:=h''}:=λJ hs'=>by
  subst hC;exact YS I3 f3 J hs'
 have stat:∀{H':Hp},(∀b∈fp,H' b=none)->∀b∈fp,mj (jm X scope (dj X.env scope.names []) (M++xs) C s3 H3 fp) [] H' b:=λhn b hb=>by
  refine ⟨hn b hb,?_,?_,.inl hb,λy c e=>?_,λp hp=>absurd (show p∈([]:List (Addr×Obj)) from hp) (by simp)⟩
  ·show b≠C;exact Nat.ne_of_lt (hfs b hb)
  ·exact (FQ I3 (f3 b hb)).1
  ·exact (f3 b hb).2.2.2.2.1 y c (mY scope.names [] y c cells (λ_ _ e=>by cases e) e)
 have loop:codeAny (model X.prog X.w) X.A (.compLoop (.ListComp elt [⟨tg,iter,ifs,0⟩] scope pos) 0 (.ref it) (.ref D) (compEnvC scope (dj X.env scope.names []) C X.env)) (compPost (model X.prog X.w) X.A X.xe use QQ (.ref D) C) s4:=by
  refine YT (Er:=_) (W:=λn s'=>∃i os H',os.length=xs.length/\Inv (jm X scope (dj X.env scope.names []) (M++xs) C s3 H3 fp) [] (σ++os) H' s'/\tn i s'.heap/\(∀b∈fp,H' b=none)/\W i n H') rfl ?_ m0 ⟨0,_,H3,List.length_replicate,I4,st4,λb hb=>(f3 b hb).1,w0⟩;rintro n s5 ⟨i,os,H5,los,I5,P0,fr5,w5⟩;rcases turn i n H5 w5 with ⟨stop,qn⟩ | ⟨go,Nn,hNn,step⟩
  ·refine Mu (bI (T.done (jm X scope (dj X.env scope.names []) (M++xs) C s3 H3 fp) rfl rfl rfl hcalm i [] s5 _ H5 _ I5 (stat fr5) P0 stop) λr s6 ⟨hr,I6⟩=>?_);subst hr;obtain ⟨m,hn,_⟩:=I6.loc;exact fin D C s6 H5 m _ (back I6 ⟨rfl,λ_ _=>rfl⟩) hn (al5 H5 I6.free) qn
  ·refine Mu (bI (T.item (jm X scope (dj X.env scope.names []) (M++xs) C s3 H3 fp) rfl rfl rfl hcalm i [] s5 _ H5 (λ_ _=>False) I5 (stat fr5) P0 go) λr s6 ⟨u,hr,h6⟩=>?_);subst hr;refine Mu (bI h6 λ_ s6 ⟨v,H6,I6,r6,y6,st6,fr6⟩=>?_);have I6':=I6.pinned (stat fr6) (T.obj _ _ st6);obtain ⟨vs,hbv,step⟩:=step v _ y6;refine Mu (bI (hg C s3 H3 fp _ s6 σ os H6 v u vs I6' r6 hbv I.len los) λ_ s7 I7=>?_);refine Mu (bI (hc C s3 H3 fp _ s7 _ _ _ I7 step) λok s8 ⟨H8,I8,q8⟩=>?_);have again:∀{H9:Hp} {s9:Shared},Inv (jm X scope (dj X.env scope.names []) (M++xs) C s3 H3 fp) ([]++Aa fp s6.heap) (σ++vs.map some) H9 s9->Nn H9->∃m,m < n/\∃i os H',os.length=xs.length/\Inv (jm X scope (dj X.env scope.names []) (M++xs) C s3 H3 fp) [] (σ++os) H' s9/\tn i s9.heap/\(∀b∈fp,H' b=none)/\W i m H':=λ{H9 s9} I9 n9=>by
    obtain ⟨m',hm,w9⟩:=hNn _ n9;refine ⟨m',hm,i+1,vs.map some,H9,(by rw[List.length_map];exact hbd _ _ _ hbv),I9.v9,T.keep _ _ _ st6 λb hb o z=>(I9.pin (b,o) (List.mem_append_right _ (List.mem_append_right _ (qg hb z)))).1,λb hb=>?_,w9⟩;obtain ⟨o,z,d⟩:=T.obj _ _ st6 b hb;exact (I9.pin (b,o) (List.mem_append_right _ (List.mem_append_right _ (qg hb z)))).2.1
   cases ok with
   | false=>rw[if_neg (by decide)]at q8 ⊢;exact again I8 q8
   | true=>
    rw[if_pos rfl]at q8 ⊢;refine Mu (bI (he C s3 H3 fp _ s8 _ _ _ I8 q8) λy s9 ⟨yv,H9,I9,r9,ys,e9,hz,n9⟩=>?_);refine Mu (bI (JC (X:=jm X scope (dj X.env scope.names []) (M++xs) C s3 H3 fp) _ s9 _ H9 (.ref D) [yv] (.ref D) [y] (λ_ H'=>Nn H') I9 rfl (.cons r9 .nil) ⟨D,ys,yv,rfl,rfl,e9,hz,n9⟩) λ_ s10 ⟨_,H10,I10,_,n10⟩=>?_);exact again I10 n10
 exact codeAny_compStart_list loop (T.self X.A 0 s4 _ _ st4 loop)
theorem aci {tg elt iter:Expr}{ifs:List Expr}{M xs:List Str}{pos:Pos}{scope:Scope}{wi:TI}{bd:V->Hp->List V->Prop}{tc:TT}{te:TE}(hcalm:X.calm=true)(S:FP X scope M xs)(hi:PI X tg iter wi)
  (hbd:∀v H vs,bd v H vs->vs.length=xs.length) (hg:∀C s H fp,GF (jm X scope (dj X.env scope.names []) (M++xs) C s H fp) tg X.N.length xs.length bd)
  (hc:∀C s H fp,Mr (jm X scope (dj X.env scope.names []) (M++xs) C s H fp) ifs tc) (he:∀C s H fp,PE (jm X scope (dj X.env scope.names []) (M++xs) C s H fp) elt te)
  (hs:∀v,foldedSetIterable iter X.env v=pure v):PE X (.ListComp elt [⟨tg,iter,ifs,0⟩] scope pos) (RW wi bd tc te):=by
 intro pins s σ H Q I h;rw[eval_ListComp];refine Wo (use:=none) (QQ:=EP X pins σ Q) hcalm S hi hbd hg hc he hs I h λD C s6 H5 m r I6 hn hf q=>?_;exact ⟨m,hn,λh'' hs'=>⟨.ref D,H5,I6.turned (t':=s6.toks) (λb o hb e=>hs'.extBut b o hb e) hf.1 hf.2.1 hf.2.2.2.1 hf.2.2.2.2.1 hf.2.2.2.2.2,rfl,q⟩⟩
end
end ZS
namespace ZS
open PySem PySem.Spec PyProof.Rows L2
variable [R0]
section
variable {X:Cx}{sub:Nat->Nat->Bool}{Γ:Z.b_}{E:Z.PX}
theorem acj:Mr X [] (Qh X.K (Z.sE sub Γ E .none)):=by
 intro pins s σ H Q I ⟨ρ,h,τ,Q',R,L,w,k⟩;simp only[Z.sE]at w;exact ach pins s σ H Q I (k true h ρ H .refl R w)
noncomputable def bd1:V->Hp->List V->Prop:=λv _ vs=>vs=[v]
theorem Wq {x:Str}{px:Pos}{n:Nat}(hN:X.N.Nodup)(hx:X.N[n]?=some x)(hl:X.env.scope.names.lookup x=some .local):GF X (.Name x px) n 1 bd1:=by
 intro pins s σ os H v u vs I r hb hn hm;cases hb;obtain ⟨o,rfl⟩:=List.length_eq_one_iff.mp hm;refine bI (uK hN hx (.inl hl) (.inr hl) pins s _ H v u (λσ' H'=>σ'=σ++[some v]/\H'=H) I r ⟨?_,rfl⟩) λ_ s1 ⟨σ1,H1,I1,e1,e2⟩=>?_
 ·subst hn;rw[List.set_append_right _ _ (Nat.le_refl _)];simp
 ·subst e1 e2;exact I1
theorem cJ.more {K:PySem.W.Frag}{ρ:List Addr}{H:Hp}{τ:Z.Lo}{σ:L2.St}{ds:List Z.D}{vs:List V}(L:cJ K ρ H τ σ)(r:au K ρ H ds vs):cJ K ρ H (τ++ds.map some) (σ++vs.map some):=by
 refine ⟨by simp[L.1,r.length],λi d e=>?_⟩;by_cases hi:i < τ.length
 ·rw[List.getElem?_append_left hi]at e;rw[List.getElem?_append_left (by rw[<-L.1];exact hi)];exact L.2 i d e
 ·rw[List.getElem?_append_right (by omega),List.getElem?_map]at e;rw[List.getElem?_append_right (by rw[<-L.1];omega),List.getElem?_map,<-L.1];cases q:ds[i - τ.length]? with
  | none=>rw[q]at e;cases e
  | some d'=>
   rw[q]at e;cases e;obtain ⟨v,e1,e2⟩:=r.get q;exact ⟨v,by rw[e1];rfl,e2⟩
theorem aiw {K:PySem.W.Frag}{ρ:List Addr}{H:Hp}{d:Z.D}{v:V}{τ kY:Z.Lo}{σ:L2.St}(r:ao K ρ H d v)(L:cJ K ρ H τ σ)(e:Z.Dp 1 d τ=some kY):∃vs,bd1 v H vs/\cJ K ρ H kY (σ++vs.map some):=by
 have e:some (τ++[some d])=some kY:=by rw[<-e];cases d<;>rfl
 cases e;exact ⟨[v],rfl,cJ.more (ds:=[d]) L (.one r)⟩
theorem Wr {xs:List Str}{nt:Nat}{kd:Z.IK}{src:Z.cN}{cond:Z.Ld}{wB:Z.Ex}{bd:V->Hp->List V->Prop}(hmb:∀{ρ H d v τ kY σ},ao X.K ρ H d v->cJ X.K ρ H τ σ->Z.Dp nt d τ=some kY->∃vs,bd v H vs/\cJ X.K ρ H kY (σ++vs.map some)):
  ∀σ H Q,upE X.K (Z.aM sub Γ E (.comp kd src nt cond wB)) σ H Q->RW (upI X.K kd (Z.bH sub Γ E src)) bd (Qh X.K (Z.sE sub Γ E cond)) (upE X.K (Z.aM sub Γ E wB)) σ H Q:=by
 rintro σ H Q ⟨ρ,h,τ,Q',R,L,w,k⟩;simp only[Z.aM]at w;refine ⟨ρ,h,τ,_,R,L,w,λds h1 aL H1 vs e1 R1 r1 w1=>?_⟩;cases eJ:Z.bU kd ds h1 with
 | none=>rw[eJ]at w1;exact w1.elim
 | some J=>
  rw[eJ]at w1;refine ⟨J,rfl,λJ' hJ D hD=>?_⟩;obtain ⟨W,⟨m,w0⟩,turn⟩:=w1;obtain ⟨eD,RD,rD⟩:=h_ (ds:=[]) (vs:=[]) R1 (by simp[au]) hD;refine ⟨λi m H'=>∃ρ' h',Ext X.K (aL++[D]) (upd H1 D (.lst [])) ρ' H'/\Rep X.K ρ' h' H'/\W i m h',⟨m,_,_,.refl,RD,w0⟩,?_⟩;rintro n m H2 ⟨bQ,h2,e2,R2,w2⟩;have t:=turn n m h2 w2;have j:=hJ n bQ h2 H2 (eD.trans e2) R2;have hDn:bQ[h1.length]?=some D:=e2.pre _ _ (by rw[<-R1.len,List.getElem?_append_right (Nat.le_refl _)];simp);cases ev:J n h2 with
  | none=>rw[ev]at t;exact t.elim
  | some o=>
   rw[ev]at t j;cases o with
   | none=>exact .inl ⟨j,k _ h2 bQ H2 _ (e1.trans (eD.trans e2)) R2 (by simp only[ao];exact ⟨D,rfl,hDn⟩) t⟩
   | some d=>
    obtain ⟨go,yl⟩:=j;cases em:Z.Dp nt d τ with
    | none=>simp only[em]at t
    | some Wd=>
     simp only[em]at t;obtain ⟨Nn,hNn,t⟩:=t;refine .inr ⟨go,λH'=>∃m',m' < m/\∃ρ' h',Ext X.K (aL++[D]) (upd H1 D (.lst [])) ρ' H'/\Rep X.K ρ' h' H'/\W (n+1) m' h',λH' q=>q,λv H' hy=>?_⟩;obtain ⟨eX,R2,rv⟩:=yl v H' hy;have e2:=e2.trans eX;obtain ⟨vs',hb,Mg⟩:=hmb rv (L.mono (e1.trans (eD.trans e2))) em;have nx:∀{jO h3 H3},Ext X.K bQ H' jO H3->Rep X.K jO h3 H3->Nn h3->∃m',m' < m/\∃ρ' h',Ext X.K (aL++[D]) (upd H1 D (.lst [])) ρ' H3/\Rep X.K ρ' h' H3/\W (n+1) m' h':=λe3 R3 q3=>by
      obtain ⟨m',hm,w3⟩:=hNn _ q3;exact ⟨m',hm,_,_,e2.trans e3,R3,w3⟩
     refine ⟨vs',hb,bQ,h2,Wd,_,R2,Mg,t,λc h3 jO H3 e3 R3 q3=>?_⟩;cases c with
     | false=>rw[if_neg (by decide)]at q3 ⊢;exact nx e3 R3 q3
     | true=>
      rw[if_pos rfl]at q3 ⊢;refine ⟨jO,h3,Wd,_,R3,Mg.mono e3,q3,λd4 h4 ρ4 H4 y e4 R4 r4 q4=>?_⟩;change (match Z.La [.ref h1.length,d4] h4 with | some (_,h5)=>Nn h5 | none=>False) at q4;have hq:∃ys4,h4[h1.length]?=some (.lst ys4)/\ys4.length+1<=Z.lim/\Nn (h4.set h1.length (.lst (ys4++[d4]))):=by
       unfold Z.La at q4;cases e5:h4[h1.length]? with
       | none=>simp[e5]at q4
       | some o=>
        cases o with
        | lst ys4=>
         simp only[e5,Z.HS]at q4;by_cases hl:(ys4++[d4]).length<=Z.lim
         ·rw[if_pos hl]at q4;exact ⟨ys4,rfl,by simpa using hl,q4⟩
         ·rw[if_neg hl]at q4;exact q4.elim
        | _=>simp[e5]at q4
      obtain ⟨ys4,e5,hl,q5⟩:=hq;obtain ⟨a,ys,ra,hn,ha,rs⟩:=fK R4 (by simp only[ao];exact ⟨D,rfl,(e3.trans e4).pre _ _ hDn⟩) e5;cases ra;obtain ⟨e6,R6⟩:=sJ (xs:=[]) R4 hn ha (rs.append (.one r4));exact ⟨ys,ha,by rw[<-rs.length,<-jP];omega,nx (e3.trans (e4.trans e6)) R6 q5⟩
theorem acn {tg elt iter:Expr}{ifs:List Expr}{M xs:List Str}{pos:Pos}{scope:Scope}{nt:Nat}{kd:Z.IK}{src:Z.cN}{cond:Z.Ld}{wB:Z.Ex}{bd:V->Hp->List V->Prop}(hcalm:X.calm=true)(S:FP X scope M xs)(hi:LI X sub Γ E tg iter kd src)
  (hbd:∀v H vs,bd v H vs->vs.length=xs.length) (hg:∀C s H fp,GF (jm X scope (dj X.env scope.names []) (M++xs) C s H fp) tg X.N.length xs.length bd)
  (hmb:∀{ρ H d v τ kY σ},ao X.K ρ H d v->cJ X.K ρ H τ σ->Z.Dp nt d τ=some kY->∃vs,bd v H vs/\cJ X.K ρ H kY (σ++vs.map some))
  (hc:∀C s H fp,Mr (jm X scope (dj X.env scope.names []) (M++xs) C s H fp) ifs (Qh X.K (Z.sE sub Γ E cond))) (he:∀C s H fp,LE (jm X scope (dj X.env scope.names []) (M++xs) C s H fp) sub Γ E elt wB)
  (hs:∀v,foldedSetIterable iter X.env v=pure v):LE X sub Γ E (.ListComp elt [⟨tg,iter,ifs,0⟩] scope pos) (.comp kd src nt cond wB):=by
 refine fX (aci (te:=upE X.K (Z.aM sub Γ E wB)) hcalm S hi hbd hg hc he hs) (Wr (xs:=xs) hmb)
theorem aco {o i e:Expr}{o' i' e':Z.Ex}{p pos:Pos}(hu:X.A.units+200 < cLine)(he:LE X sub Γ E e e')(ho:LE X sub Γ E o o')(hi:LE X sub Γ E i i')
  (ha:∀v,assign (.Subscript o i p) X.env v=(do let ov <-holding [v] (eval o X.env);let iv <-holding [v,ov] (eval i X.env);standAt p;holding [v,ov,iv] (setItem ov iv v);release [v,ov,iv] []))
  (hs:swapsWithSole [.Subscript o i p] e pos.line X.env=pure false) (hw:swappedStores [.Subscript o i p] e X.env=pure none):LS X sub Γ E (.Assign [.Subscript o i p] e pos) (.iU o' i' e'):=by
 refine Gv (VN he (ad3 ho hi (aeX (sub:=sub) hu) ha) hs hw rfl) ?_;rintro D σ H ⟨ρ,h,τ,N,R,L,w,k⟩;simp only[Z.wpS]at w;refine ⟨ρ,h,τ,_,R,L,w,λd1 h1 aL H1 x e1 R1 r1 w1=>?_⟩;refine ⟨aL,h1,τ,_,R1,L.mono e1,w1,λd2 h2 bQ H2 y e2 R2 r2 w2=>?_⟩;refine ⟨bQ,h2,τ,_,R2,L.mono (e1.trans e2),w2,λd3 h3 jO H3 z e3 R3 r3 w3=>?_⟩;cases q:Z.prim sub .iU [d2,d3,d1] h3 with
 | none=>rw[q]at w3;exact w3.elim
 | some t=>
  rw[q]at w3;exact ⟨jO,h3,_,t.1,t.2,R3,al1 (ao.mono e3 _ _ r2) r3 (ao.mono (e2.trans e3) _ _ r1),q,λρ' H' v e' R' r'=>k.nx τ _ ρ' H' σ (e1.trans (e2.trans (e3.trans e'))) R' (L.mono (e1.trans (e2.trans (e3.trans e')))) w3⟩
end
end ZS
namespace ZS
open PySem PySem.Spec PyProof.Rows L2
section
variable [R0]
section
variable {X:Cx}{sub:Nat->Nat->Bool}{Γ:Z.b_}{E:Z.PX}
theorem zv (i:Nat){x:Str}{pos:Pos}(hN:X.N[i]?=some x:=by rfl)(hv:Gj X.env.scope x:=by first | exact Or.inl rfl | exact Or.inr (Or.inl rfl) | exact Or.inr (Or.inr rfl))(hd:(x == ("__debug__":Str))=false:=by decide)
  (hcd:(x == ("__classdict__":Str))=false:=by decide):LE X sub Γ E (.Name x pos) (.var i):=aeH hN hv hd hcd
theorem zi {n:Int}{k:Nat}{pos:Pos}:LE X sub Γ E (.Constant (.int n) k pos) (.lit (.int n)):=Ah adV λ_ _=>by simp only[ao]
theorem zb {b:Bool}{k:Nat}{pos:Pos}:LE X sub Γ E (.Constant (.bool b) k pos) (.lit (.bl b)):=Ah ah2 λ_ _=>by simp only[ao]
theorem zn {k:Nat}{pos:Pos}:LE X sub Γ E (.Constant .none k pos) (.lit .non):=Ah Lq λ_ _=>by simp only[ao]
theorem zs {s:Str}{l:List Nat}{k:Nat}{pos:Pos}(h:s=⟨l.toArray⟩)(hl:l.length<=Z.lim):LE X sub Γ E (.Constant (.str s) k pos) (.lit (.str l)):=Ah adW λ_ _=>by simp only[ao];exact ⟨congrArg V.str h,hl⟩
theorem al6 {a:Expr}{a':Z.Ex}{pos:Pos}(ha:LE X sub Γ E a a'):LE X sub Γ E (.UnaryOp .Not a pos) (.prim .Rh (.cons a' .nil)):=by
 refine fX (ad0 ha) ?_;rintro σ H Q ⟨ρ,h,τ,Q',R,L,w,k⟩;simp only[Z.aM,Z.bH]at w;refine ⟨ρ,h,τ,_,R,L,w,λd1 h1 aL H1 x e1 R1 r1 w1=>?_⟩;cases d1 with
 | bl b=>
  simp only[ao]at r1;exact ⟨b,r1,k (.bl (!b)) h1 aL H1 _ e1 R1 (by simp only[ao]) w1⟩
 | _=>exact w1.elim
theorem zu {k:Nat}(hr:cR k X.A):X.A.units+200 < cLine:=by have:=hr.un;omega
theorem bM {k:Nat}{a b:Expr}{a' b':Z.Ex}{pos:Pos}(hr:cR k X.A)(ha:LE X sub Γ E a a')(hb:LE X sub Γ E b b')(hs:uN b:=by intro _ _;rfl):LE X sub Γ E (.Subscript a b pos) (.prim .idx (.cons a' (.cons b' .nil))):=ais (aiu (zu hr)) ha hb hs
theorem ak {e:Expr}{es:List Expr}{e':Z.Ex}{es':Z.cN}(he:LE X sub Γ E e e')(hes:LA X sub Γ E es es')(hs:starEach (e::es) X.env=(false,eval e X.env)::starEach es X.env:=by rfl):LA X sub Γ E (e::es) (.cons e' es'):=ab1 he hes hs
theorem cG {x:Str}{id:String}{e:Expr}{es:List Expr}{es':Z.cN}{p:Z.Prim}{q pos:Pos}(hc:eV X (.builtin id) (rP X.K sub p))(hm:X.mg x=none)(hv:bootBuiltins x=some (.builtin id))(ha:LA X sub Γ E (e::es) es')
  (hg:Gl X x:=by rfl) (hn:x≠"__name__":=by decide) (hdb:(x == ("__debug__":Str))=false:=by decide) (he:starEach (e::es) X.env=(false,eval e X.env)::starEach es X.env:=by rfl) (hpl:(backTo pos (starEach es X.env)).any (·.1)=false:=by rfl):
  LE X sub Γ E (.Call (.Name x q) (e::es) [] pos) (.prim p es'):=YF hc hg hm hv ha hn hdb he hpl
theorem Aq {e:Expr}{e':Z.Ex}{k:Z.KN}{tn:Str}{p p2 pos:Pos}(hm:X.mg "isinstance"=none)(hmt:X.mg tn=none)(Wm:bootBuiltins tn=some (.type (Qo k)))(he:LE X sub Γ E e e')
  (hk:∀c,k≠.cls c:=by intro _ z;cases z) (hg:Gl X "isinstance":=by rfl) (hgt:Gl X tn:=by rfl) (hnn:tn≠"__name__":=by decide) (hdd:(tn == ("__debug__":Str))=false:=by decide)
  (hs:∀es,starEach (e::es) X.env=(false,eval e X.env)::starEach es X.env:=by intro _;rfl):
  LE X sub Γ E (.Call (.Name "isinstance" p) [e,.Name tn p2] [] pos) (.prim (.jX k) (.cons e' .nil)):=aeY hk hg hm hgt hmt Wm hnn hdd he hs
theorem iZ {o e:Expr}{es:List Expr}{o':Z.Ex}{es':Z.cN}{m:Z.MK}{p:Z.Prim}{name:Str}{apos cpos:Pos}{id:String}(pa:PlainAttrs (Gx m))(slot:Slot (Gx m) name id)(hty:typeOf (.builtin id)=pure (.type "method_descriptor"))
  (hm:uP X id (λx xs=>rP X.K sub p (x::xs))) (ho:LE X sub Γ E o o') (ha:LA X sub Γ E (e::es) es') (hmk:m≠.dict:=by decide) (hmt:m≠.tuple:=by decide) (hbase:attributeBase o name X.env (eval o X.env)=eval o X.env:=by rfl)
  (hfew:((backTo cpos (starEach (e::es) X.env)).all (λx=>!x.1) && (backToKw cpos (keywordEach [] X.env)).all (λx=>x.1.isSome)
   && decide ((e::es).length+([]:List Keyword).length+(if ([]:List Keyword).isEmpty then 0 else 1) < 30))=true:=by rfl)
  (hline:(apos.endLine == cpos.line)=true:=by rfl) (hs:starEach (e::es) X.env=(false,eval e X.env)::starEach es X.env:=by rfl) (hplain:(backTo cpos (starEach es X.env)).any (·.1)=false:=by rfl):
  LE X sub Γ E (.Call (.Attribute o name apos) (e::es) [] cpos) (.fC m p o' es'):=aeK hmk hmt pa slot hty hm ho ha hbase hfew hline hs hplain
theorem DG {o:Expr}{o':Z.Ex}{m:Z.MK}{p:Z.Prim}{name:Str}{apos cpos:Pos}{id:String}(pa:PlainAttrs (Gx m))(slot:Slot (Gx m) name id)(hty:typeOf (.builtin id)=pure (.type "method_descriptor"))
  (hm:uP X id (λx xs=>rP X.K sub p (x::xs))) (ho:LE X sub Γ E o o') (hmk:m≠.dict:=by decide) (hmt:m≠.tuple:=by decide) (hbase:attributeBase o name X.env (eval o X.env)=eval o X.env:=by rfl) (hline:(apos.endLine == cpos.line)=true:=by rfl):
  LE X sub Γ E (.Call (.Attribute o name apos) [] [] cpos) (.fC m p o' .nil):=ab3 hmk hmt pa slot hty hm ho hbase hline
theorem cj {k i:Nat}{f:Addr}{fd:FuncData}{ps:List Str}{x:Str}{e:Expr}{es:List Expr}{es':Z.cN}{p pos:Pos}(hr:cR k X.A)
  (F:aX X.prog X.w X.K X.mg X.base bO k f fd ps (bA X.K Γ i)) (hm:X.mg x=some (.ref f)) (hk:PySem.W.keepIn X.K (.ref f)=true) (hb:Binds X.K fd ps [])
  (ha:LA X sub Γ E (e::es) es') (hg:Gl X x:=by rfl) (hdb:(x == ("__debug__":Str))=false:=by decide) (he:starEach (e::es) X.env=(false,eval e X.env)::starEach es X.env:=by rfl) (hpl:(backTo pos (starEach es X.env)).any (·.1)=false:=by rfl):
  LE X sub Γ E (.Call (.Name x p) (e::es) [] pos) (.call i es' []):=acg F hr hg hm hk hb .nil aaT (λ_ _=>by simp only[au]) ha hdb he hpl
theorem i_ {a:Expr}{a':Z.Ex}(ha:LE X sub Γ E a a')(he:∀whole,isTrue a X.env whole=(do let v <-whole;standAt a.pos;holding [v] (truthy v)):=by intro _;rfl):LT X sub Γ E a (.bF a'):=aeM ha he
theorem gP {p:Z.Prim}{f:Int->Int->Bool}(hp:Z.prim sub p=Z.zW f)(ds:List Z.D)(h:Z.AH)(d:Z.D)(h':Z.AH)(e:Z.prim sub p ds h=some (d,h')):∃c,d=.bl c:=by
 rw[hp]at e;unfold Z.zW at e;split at e
 ·cases e;exact ⟨_,rfl⟩
 ·cases e
theorem bZ {p:Z.Prim}{n:Bool}(hp:Z.prim sub p=Z.PB n)(ds:List Z.D)(h:Z.AH)(d:Z.D)(h':Z.AH)(e:Z.prim sub p ds h=some (d,h')):∃c,d=.bl c:=by
 rw[hp]at e;unfold Z.PB at e;split at e
 ·rename_i x y;cases z:Z.oJ h x y with
  | none=>rw[z]at e;cases e
  | some b=>rw[z]at e;cases e;exact ⟨_,rfl⟩
 ·cases e
theorem lg {p:Z.Prim}{n:Bool}(hp:Z.prim sub p=Z.Js n)(ds:List Z.D)(h:Z.AH)(d:Z.D)(h':Z.AH)(e:Z.prim sub p ds h=some (d,h')):∃c,d=.bl c:=by
 rw[hp]at e;unfold Z.Js at e;split at e
 ·rename_i x ys;cases z:Z.dN x ys with
  | none=>rw[z]at e;cases e
  | some b=>rw[z]at e;cases e;exact ⟨_,rfl⟩
 ·rename_i x ys;cases z:Z.dN x ys with
  | none=>rw[z]at e;cases e
  | some b=>rw[z]at e;cases e;exact ⟨_,rfl⟩
 ·rename_i x a;split at e
  ·rename_i ys _;cases z:Z.dN x ys with
   | none=>rw[z]at e;cases e
   | some b=>rw[z]at e;cases e;exact ⟨_,rfl⟩
  ·cases z:Z.vW x with
   | none=>rw[z]at e;cases e
   | some b=>rw[z]at e;cases e;exact ⟨_,rfl⟩
  ·cases e
 ·cases e
theorem sS {p:Z.Prim}{n:Bool}(hp:Z.prim sub p=Z.HW n)(ds:List Z.D)(h:Z.AH)(d:Z.D)(h':Z.AH)(e:Z.prim sub p ds h=some (d,h')):∃c,d=.bl c:=by
 rw[hp]at e;unfold Z.HW at e;split at e
 ·cases e;exact ⟨_,rfl⟩
 ·cases e;exact ⟨_,rfl⟩
 ·cases e
theorem gB {e:Expr}{e':Z.Ex}{pos:Pos}(he:LE X sub Γ E e e')(hs:swapsWith e none pos.line X.env=pure false:=by rfl):LS X sub Γ E (.Expr e pos) (.expr e'):=ab5 he hs
theorem aO (i:Nat){x:Str}{e:Expr}{e':Z.Ex}{pos pos':Pos}(hN:X.N.Nodup)(he:LE X sub Γ E e e')(hi:X.N[i]?=some x:=by rfl)(hx:Loc X.env.scope x:=by first | exact Or.inl rfl | exact Or.inr rfl)(hs:swapsWith e (some (.Name x pos')) pos.line X.env=pure false:=by rfl)
  (hf:X.fn x=true\/X.env.scope.names.lookup x=some .local:=by first | exact .inl rfl | exact .inr rfl):LS X sub Γ E (.Assign [.Name x pos'] e pos) (.asg i e'):=aeN hN hi hx he hs hf
theorem R5 {k:Nat}{o i e:Expr}{o' i' e':Z.Ex}{p pos:Pos}(hr:cR k X.A)(he:LE X sub Γ E e e')(ho:LE X sub Γ E o o')(hi:LE X sub Γ E i i')
  (ha:∀v,assign (.Subscript o i p) X.env v=(do let ov <-holding [v] (eval o X.env);let iv <-holding [v,ov] (eval i X.env);standAt p;holding [v,ov,iv] (setItem ov iv v);release [v,ov,iv] []):=by intro _;rfl)
  (hs:swapsWithSole [.Subscript o i p] e pos.line X.env=pure false:=by rfl) (hw:swappedStores [.Subscript o i p] e X.env=pure none:=by rfl):LS X sub Γ E (.Assign [.Subscript o i p] e pos) (.iU o' i' e'):=aco (zu hr) he ho hi ha hs hw
theorem fY (i:Nat){iter:Expr}{x:Str}{tpos:Pos}{kd:Z.IK}{src:Z.cN}{body:List Stmt}{b':Z.aB}{pos:Pos}(hp:PassesOwn (model X.prog X.w) X.A X.env X.xe)(hc:X.calm=true)(hN:X.N.Nodup)
  (hit:LI X sub Γ E (.Name x tpos) iter kd src) (hb:qK X sub Γ E body b') (hi:X.N[i]?=some x:=by rfl) (hx:Loc X.env.scope x:=by first | exact Or.inl rfl | exact Or.inr rfl) (hf:X.fn x=true\/X.env.scope.names.lookup x=some .local:=by first | exact .inl rfl | exact .inr rfl)
  (hs:∀x,foldedSetIterable iter X.env x=pure x:=by intro _;rfl):LS X sub Γ E (.For (.Name x tpos) iter body [] pos) (.dR [i] kd src b'):=aeQ (tg:=iter) hp hc hN hi hx hf hit hb hs
noncomputable def R7 (N M xs:List Str) (sc0 scope:Scope):Bool:=
 decide (scope.kind=.function) && decide ((M++xs).Nodup) && decide (M.length=N.length)
  && (M.zip N).all (λp=>decide (scope.names.lookup p.1=none) || (decide (p.1=p.2) && !decide (scope.names.lookup p.1=some .local)))
  && scope.names.all (λy=>decide (y.2≠.cell) && (decide (y.2≠.free) || decide (sc0.names.lookup y.1=some .cell) || decide (sc0.names.lookup y.1=some .free)) && (decide (y.2≠.local) || decide (scope.names.lookup y.1=some .local)))
  && xs.all (λx=>decide (scope.names.lookup x=some .local))
theorem FP.of {N M xs:List Str}{sc0 scope:Scope}(h:R7 N M xs sc0 scope=true)(hN:X.N=N)(hs:X.env.scope=sc0):FP X scope M xs:=by
 unfold R7 at h;simp only[Bool.and_eq_true,decide_eq_true_eq,List.all_eq_true,Bool.or_eq_true]at h;obtain ⟨⟨⟨⟨⟨h1,h2⟩,h3⟩,h4⟩,h5⟩,h6⟩:=h;refine ⟨h1,h2,by rw[hN];exact h3,λp hp=>?_,λy hy=>(h5 y hy).1.1,λy hy e=>?_,h6,λy hy e=>?_⟩
 ·rw[hN]at hp;rcases h4 p hp with z | z
  ·exact .inl z
  ·exact .inr ⟨z.1,by simpa using z.2⟩
 ·show X.env.scope.names.lookup y.1=_\/X.env.scope.names.lookup y.1=_;rw[hs];rcases (h5 y hy).1.2 with (z | z) | z
  ·exact absurd e z
  ·exact .inl z
  ·exact .inr z
 ·rcases (h5 y hy).2 with z | z
  ·exact absurd e z
  ·exact z
theorem ae2 (N M:List Str)(sc0:Scope){x:Str}{px:Pos}{elt iter:Expr}{ifs:List Expr}{pos:Pos}{scope:Scope}{kd:Z.IK}{src:Z.cN}{cond:Z.Ld}{wB:Z.Ex}(hcalm:X.calm=true)(hi:LI X sub Γ E (.Name x px) iter kd src)
  (hc:∀C s H fp,Mr (jm X scope (dj X.env scope.names []) (M++[x]) C s H fp) ifs (Qh X.K (Z.sE sub Γ E cond))) (he:∀C s H fp,LE (jm X scope (dj X.env scope.names []) (M++[x]) C s H fp) sub Γ E elt wB)
  (hS:R7 N M [x] sc0 scope=true:=by decide+kernel) (hN:X.N=N:=by rfl) (hs0:X.env.scope=sc0:=by rfl)
  (hs:∀v,foldedSetIterable iter X.env v=pure v:=by intro _;rfl):LE X sub Γ E (.ListComp elt [⟨.Name x px,iter,ifs,0⟩] scope pos) (.comp kd src 1 cond wB):=by
 have S:=FP.of hS hN hs0;refine acn (bd:=bd1) hcalm S hi (λv H vs e=>by rw[e];rfl) (λC s H fp=>Wq S.nd ?_ (lookup_relabel_local (S.loc x (by simp)))) (λr L e=>aiw r L e) hc he hs;show (M++[x])[X.N.length]?=_;rw[<-S.len,List.getElem?_append_right (Nat.le_refl _)];simp
theorem Il {body:List Stmt}{df:Z.Def}{N:List Str}{K:PySem.W.Frag}{ρ:List Addr}{h:Z.AH}{H:Hp}{ds:List Z.D}{vs:List V}{Q:VK}{Q':Z.PV}(hK:X.K=K)(hN:N.length=df.nl)(hp:ds.length=df.np)(J:qK X sub Γ E body df.body)(R:Rep K ρ h H)(r:au K ρ H ds vs)
  (w:Z.bN sub Γ E df.body {nx:=λ_ h=>Q' .non h,rt:=Q'} (ds.map some++List.replicate (df.nl - df.np) none) h)
  (k:∀d h' ρ' H' v,Ext K ρ H ρ' H'->Rep K ρ' h' H'->ao K ρ' H' d v->Q' d h'->Q v H'):
  ∃t,lX X body t/\t {nx:=λ_ H'=>Q .non H',rt:=Q} (L2.start N vs) H:=by
 subst hK;refine ⟨_,J,ρ,h,_,_,R,?_,w,⟨λτ h' ρ' H' σ e R' L q=>k _ h' ρ' H' _ e R' (by simp only[ao]) q,k,λ_ _ _ _ _ _ _ _ q=>q.elim,λ_ _ _ _ _ _ _ _ q=>q.elim⟩⟩;have hl:=r.length;refine ⟨by simp[L2.start,hl,hN,<-hp],λi d e=>?_⟩;unfold L2.start;by_cases hi:i < ds.length
 ·rw[List.getElem?_append_left (by simpa using hi),List.getElem?_map]at e;rw[List.getElem?_append_left (by simpa [<-hl] using hi),List.getElem?_map];cases q:ds[i]? with
  | none=>rw[q]at e;cases e
  | some d'=>
   rw[q]at e;cases e;obtain ⟨v,e1,e2⟩:=r.get q;exact ⟨v,by rw[e1];rfl,e2⟩
 ·rw[List.getElem?_append_right (by simpa using hi),List.getElem?_replicate]at e;split at e<;>cases e
end
theorem cH:bootBuiltins "len"=some (.builtin "len"):=by decide+kernel
theorem acp:bootBuiltins "list"=some (.type "list"):=by decide+kernel
theorem Mv:bootBuiltins "tuple"=some (.type "tuple"):=by decide+kernel
theorem ae3:bootBuiltins "int"=some (.type "int"):=by decide+kernel
theorem acq:bootBuiltins "bool"=some (.type "bool"):=by decide+kernel
theorem GJ:bootBuiltins "str"=some (.type "str"):=by decide+kernel
theorem Ez:bootBuiltins "reversed"=some (.type "reversed"):=by decide+kernel
theorem Mw {K:PySem.W.Frag}{ρ:List Addr}{H:Hp}:∀ns:List Int,au K ρ H (ns.map .int) (ns.map V.int)
 | []=>by simp only[List.map_nil,au]
 | n::ns=>by simp only[List.map_cons,au];exact ⟨_,_,rfl,by simp only[ao],Mw ns⟩
end
theorem ext_nil {H:Hp}{K:PySem.W.Frag}:Ext K [] (λ_=>none) [] H:=⟨(λ_ _ e=>e),(λ_ _ e=>by cases e),(λ_ _ _ e=>by cases e)⟩
noncomputable abbrev R0.nil:R0:=⟨[],λ_=>none⟩
theorem YW {K:PySem.W.Frag}{H:Hp}{a:Addr}{ns:List Int}{sub:Nat->Nat->Bool}{Pg:List Z.Def}{k i:Nat}(hO:Only H)(hS:g_ K H a (ns.map V.int))(hZ:∀o,K.lookup a=some o->o.slots=#[])(w:Z.aD sub Pg k i [.eY (ns.map .int)] [] (λd _=>d=.bl true) λ_ _=>False):
  @bA R0.nil K (Z.aD sub Pg k) i [.ref a] H (λv _=>v=.bl true) λ_ _ _=>False:=by
 letI:R0:=R0.nil;refine ⟨[],[],[.eY (ns.map .int)],_,λ_ _=>False,⟨rfl,List.nodup_nil,ext_nil,λn o e=>by simp at e⟩,.one ?_,w,λd h' ρ' H' v e R r q=>?_⟩
 ·simp only[ao];refine ⟨a,_,rfl,?_,Mw ns⟩;rcases hS with (h | ⟨o,h⟩) | h
  ·rcases hO a with z | ⟨o,xs,z⟩
   ·rw[z]at h;cases h
   ·rw[z]at h;cases h
  ·exact .inl ⟨o,h⟩
  ·obtain ⟨o,its,n,h1,h2,h3,h4,h5,h6⟩:=h;exact .inr ⟨o,its,n,h1,h2,h3,h4,h5,h6,hZ o h1⟩
 ·subst q;simpa only[ao] using r
end ZS
namespace ZS
open PySem PySem.Spec PyProof.Rows L2
variable [R0]
section
variable {X:Cx}{sub:Nat->Nat->Bool}{Γ:Z.b_}{E:Z.PX}
end
section
variable {X:Cx}{sub:Nat->Nat->Bool}{Γ:Z.b_}{E:Z.PX}
noncomputable def YX (lo st:Int) (n:Nat):It:=⟨λi _=>i < n,λi H x H'=>H'=H/\x=.int (lo+i * st),λi _=>n<=i⟩
theorem O1 {P:Program}{w:World}{K:PySem.W.Frag}{tg:Expr}(it:Addr)(lo st0:Int)(n:Nat):Turn P w K tg (YX lo st0 n) [it] it (λi h=>IsRangeIter h it (lo+(i:Nat) * st0) ((n:Int) - (i:Nat)) st0) where
 mem:=by simp
 obj:=λi h st b hb=>by
  have e:b=it:=by simpa using hb
  subst e;exact ⟨_,st,λv z=>by have z':Data.fields _=Data.cell v:=z;cases z'⟩
 keep:=λi h h' st k=>k it (by simp) _ st
 item:=by
  intro X hP hw hK hc i pins s σ H E I hf st hg;subst hP hw hK;obtain ⟨f0,f1,f2,f3,f4,f5⟩:=hf it (by simp);have W:=Walks.range (prog:=X.prog) (w:=X.w) (I.ok.hd hc) it lo st0 n;refine W.item i s _ _ hg st λv h' tk hv st' kk=>?_;obtain ⟨t,rfl⟩:=hv;have I1:Inv X pins σ H {s with heap:=h',toks:=tk}:=I.turned (λb o hb e=>kk b o (by simpa using hb) e) f0 f1 f3 f4 f5;exact ⟨_,rfl,Du (s:={s with heap:=h',toks:=tk}) (n:="range_iterator") st' rfl rfl (by decide) ⟨.int (lo+i * st0),H,I1,⟨t,rfl⟩,⟨rfl,rfl⟩,st',λb hb=>(hf b hb).1⟩⟩
 done:=by
  intro X hP hw hK hc i pins s σ H E I hf st hg;subst hP hw hK;obtain ⟨f0,f1,f2,f3,f4,f5⟩:=hf it (by simp);exact wpAny_pyNext_range_end (I.ok.hd hc) st (by have:n<=i:=hg;omega) λh' eb=>⟨rfl,I.turned (t':=s.toks) (λb o hb e=>eb b o hb e) f0 f1 f3 f4 f5⟩
 self:=λ_ _ _ _ _ st h=>wpAny_pyIter_rangeiter st h
theorem rsize {a b c:Int}(hc:0 < c):Builtin.Range.rangeSize a b c=(((if a < b then ((b - a - 1) / c+1).toNat else 0:Nat):Int)):=by
 unfold Builtin.Range.rangeSize;rw[if_pos hc];split
 ·have:0<=(b - a - 1) / c:=Int.ediv_nonneg (by omega) (by omega);omega
 ·rfl
theorem ae4 {a b c:Int}(h:Z.Pz a b c=true):Builtin.Range.small a b c=true:=by
 obtain ⟨h1,h2,h3,h4,h5,h6⟩:=Z.HN.mp h;have hb:0<=Builtin.Range.rangeSize a b c/\Builtin.Range.rangeSize a b c<=8589934592:=by
  unfold Builtin.Range.rangeSize;rw[if_pos h5];split
  ·have k1:0<=(b - a - 1) / c:=Int.ediv_nonneg (by omega) (by omega);have k2:(b - a - 1) / c<=b - a - 1:=Int.ediv_le_self _ (by omega);omega
  ·omega
 unfold Builtin.Range.small;have f:∀x:Int,-9000000000<=x->x<=9000000000->Builtin.Range.rangeFitsLong x=true:=λx a b=>by
  unfold Builtin.Range.rangeFitsLong;simp;omega
 rw[f a (by omega) (by omega),f b (by omega) (by omega),f c (by omega) (by omega),f _ (by omega) (by omega),if_pos h5,f (b+(c - 1)) (by omega) (by omega)];simp
theorem Ws {K:PySem.W.Frag}{ρ:List Addr}{H:Hp}{lo st:Int}{n:Nat}:Fz K ρ H (Z.uH lo st n) (YX lo st n):=by
 intro i aL h1 H1 e1 R1;unfold Z.uH;by_cases hi:i < n
 ·rw[if_pos hi];refine ⟨hi,λx H' hy=>mz R1 hy.1 ?_⟩;simp only[ao];rw[hy.2,Int.mul_comm]
 ·rw[if_neg hi];exact Nat.le_of_not_lt hi
theorem acr {tg a b c:Expr}{a' b' c':Z.Ex}{p pos:Pos}(hg:Gl X "range")(hm:X.mg "range"=none)(ha:LA X sub Γ E [a,b,c] (.cons a' (.cons b' (.cons c' .nil))))
  (hs:starEach [a,b,c] X.env=(false,eval a X.env)::starEach [b,c] X.env:=by rfl) (hpl:(backTo pos (starEach [b,c] X.env)).any (·.1)=false:=by rfl):
  LI X sub Γ E tg (.Call (.Name "range" p) [a,b,c] [] pos) .rng (.cons a' (.cons b' (.cons c' .nil))):=by
 intro pins s σ H Rr I ⟨ρ,h,τ,Q',R,L,w,k⟩;have up:YC X.K (Z.bH sub Γ E (.cons a' (.cons b' (.cons c' .nil)))) σ H (λvs H1=>∃(i j l:Int),vs=[.int i,.int j,.int l]/\Z.Pz i j l=true/\Rr (YX i l (if i < j then ((j - i - 1) / l+1).toNat else 0)) H1):=by
  refine ⟨ρ,h,τ,λds h1=>match ds with | [x,y,z]=>Q' [x,y,z] h1 | _=>False,R,L,(by simpa only[Z.bH] using w),λds h1 aL H1 vs e1 R1 r1 q=>?_⟩;obtain ⟨x,y,z,rfl⟩:∃x y z,ds=[x,y,z]:=by
   match ds,q with
   | [x,y,z],_=>exact ⟨x,y,z,rfl⟩
  obtain ⟨J,eJ,hk⟩:=k _ h1 aL H1 vs e1 R1 r1 q;have key:∃i j l:Int,[x,y,z]=[Z.D.int i,.int j,.int l]/\Z.Pz i j l=true/\J=Z.uH i l (if i < j then ((j - i - 1) / l+1).toNat else 0):=by
   ·cases x with
    | int i=>
     cases y with
     | int j=>
      cases z with
      | int l=>
       simp only[Z.bU,Z.jh,Z.iR,Z.ji,Z.jj,Z.gY]at eJ;split at eJ
       ·rename_i ok;cases eJ;exact ⟨i,j,l,rfl,ok,rfl⟩
       ·cases eJ
      | _=>simp only[Z.bU,Z.jh,Z.iR,Z.ji,Z.jj,Z.gY]at eJ;cases eJ
     | _=>simp only[Z.bU,Z.jh,Z.iR,Z.ji,Z.jj,Z.gY]at eJ;cases eJ
    | _=>simp only[Z.bU,Z.jh,Z.iR,Z.ji,Z.jj,Z.gY]at eJ;cases eJ
  obtain ⟨i,j,l,ek,ok,rfl⟩:=key;cases ek;simp only[au,ao]at r1;obtain ⟨_,_,rfl,rfl,_,_,rfl,rfl,_,_,rfl,rfl,rfl⟩:=r1;exact ⟨i,j,l,rfl,ok,hk _ Ws⟩
 refine Call_ (uJ I hg hm boot_range (PyProof.Rows.callWith_type1 (bI (ha pos pins s σ H _ I up) λus s1 ⟨vs,H1,I1,r1,q1⟩=>?_) hs hpl));obtain ⟨i,j,l,rfl,ok,q⟩:=q1;have ok':=Z.HN.mp ok;cases r1 with
 | cons r rr=>
  cases rr with
  | cons r' rr=>
   cases rr with
   | cons r'' rr=>
    cases rr;obtain ⟨t,rfl⟩:=r;obtain ⟨t',rfl⟩:=r';obtain ⟨t'',rfl⟩:=r'';refine call_range_3 (by omega) ?_ (.inl (PyProof.noPylong_small (by omega)));have I2:Inv X pins σ H1 {s1 with heap:=s1.heap.push {cls:=.type "range",data:=.fields #[.int i t,.int j t',.int l t'']},toks:=s1.toks}:=I1.kept λb o e=>Heap.get?_push_of_some _ e;refine wpAny_pyIter_range (IsRange.new ..) (ae4 ok) ?_;refine ⟨(s1.heap.push {cls:=.type "range",data:=.fields #[.int i t,.int j t',.int l t'']}).objs.size,[(s1.heap.push {cls:=.type "range",data:=.fields #[.int i t,.int j t',.int l t'']}).objs.size],_,_,H1,rfl,I2.kept (t':=s1.toks) λb o e=>Heap.get?_push_of_some _ e,O1 _ i l _,?_,λb hb=>?_,q⟩
    ·have e1:i+((0:Nat):Int) * l=i:=by simp
     show IsRangeIter _ _ (i+((0:Nat):Int) * l) ((((if i < j then ((j - i - 1) / l+1).toNat else 0:Nat):Nat):Int) - ((0:Nat):Int)) l;rw[e1,<-rsize (by omega)];have e2:∀x:Int,x - ((0:Nat):Int)=x:=λx=>by simp
     rw[e2];exact Heap.get?_push_size _ rfl
    ·have e:b=(s1.heap.push {cls:=.type "range",data:=.fields #[.int i t,.int j t',.int l t'']}).objs.size:=by simpa using hb
     subst e;exact I2.Fp (Nat.le_refl _) (I2.hok.fresh (Nat.le_refl _))
end
end ZS
namespace ZS
open PySem PySem.Spec PyProof.Rows L2
variable [R0]
section
variable {pg:Program}{wd:World}{A:Around}{E:Value->Shared->Prop}{s:Shared}
end
section
variable {prog:Program}{w:World}{A:Around}{E:Value->Shared->Prop}{s:Shared}
end
section
variable {X:Cx}{pins:List (Addr×Obj)}{σ:L2.St}{H:Hp}{s:Shared}
end
section
variable {X:Cx}{sub:Nat->Nat->Bool}{Γ:Z.b_}{E:Z.PX}
end
end ZS
namespace ZS
open PySem PySem.Spec PyProof.Rows L2
variable [R0]
section
variable {prog:Program}{w:World}{A:Around}{R:Result->Shared->Prop}{I:Addr}{fp wr:List Addr}{P:Nat->Value->Prop}{St:Nat->Heap->Prop}
end
section
variable {prog:Program}{w:World}{A:Around}{E:Value->Shared->Prop}{s:Shared}
end
section
variable {X:Cx}{sub:Nat->Nat->Bool}{Γ:Z.b_}{E:Z.PX}
end
end ZS
namespace ZS
open PySem PySem.Spec PyProof.Rows L2
variable [R0]
section
variable {X:Cx}{sub:Nat->Nat->Bool}
end
end ZS
namespace ZS
open PySem PySem.Spec PyProof.Rows L2
variable [R0]
section
variable {pg:Program}{wd:World}{A:Around}{E:Value->Shared->Prop}{s:Shared}{z TI TO i1 i2:Addr}{f1 f2:List Addr}{n1 n2 k:Nat}{P1 P2:Nat->Value->Prop}{S1 S2:Nat->Heap->Prop}{a b:Value}
end
section
variable {pg:Program}{wd:World}{A:Around}{E:Value->Shared->Prop}{s:Shared}{z TI TO i1 i2:Addr}{f1 f2:List Addr}{n1 n2 k:Nat}{P1 P2:Nat->Value->Prop}{S1 S2:Nat->Heap->Prop}{a b:Value}
end
section
variable {pg:Program}{wd:World}{A:Around}{E:Value->Shared->Prop}{s:Shared}
end
section
variable {X:Cx}{sub:Nat->Nat->Bool}{Γ:Z.b_}{E:Z.PX}
theorem aix {K:PySem.W.Frag}{ρ:List Addr}{H:Hp}{d:Z.D}{v:V}{τ kY:Z.Lo}{σ:L2.St}{i j l:Nat}(r:ao K ρ H d v)(L:cJ K ρ H τ σ)(e:Z.jy [i,j,l] d τ=some kY):
  ∃a v1 v2 v3,v=.ref a/\fQ K H a [v1,v2,v3]/\cJ K ρ H kY (((σ.set i (some v1)).set j (some v2)).set l (some v3)):=by
 cases d with
 | tup ds=>
  simp only[Z.jy]at e;split at e
  ·rename_i hl;cases e;simp only[ao]at r;obtain ⟨a,ys,rfl,q,r⟩:=r
   match ds,hl with
   | [d1,d2,d3],_=>
    simp only[au]at r;obtain ⟨v1,_,rfl,r1,v2,_,rfl,r2,v3,_,rfl,r3,rfl⟩:=r;exact ⟨a,v1,v2,v3,rfl,q,((L.set r1).set r2).set r3⟩
  ·cases e
 | _=>simp[Z.jy]at e
theorem aiy (i j l:Nat){x y z:Str}{e:Expr}{e':Z.Ex}{px py pz pt pos:Pos}{k:Nat}(hc:X.calm=true)(hN:X.N.Nodup)(he:LE X sub Γ E e e')(hi:X.N[i]?=some x:=by rfl)(hj:X.N[j]?=some y:=by rfl)(hl:X.N[l]?=some z:=by rfl)
  (hx:Loc X.env.scope x:=by first | exact Or.inl rfl | exact Or.inr rfl) (hy:Loc X.env.scope y:=by first | exact Or.inl rfl | exact Or.inr rfl) (hz:Loc X.env.scope z:=by first | exact Or.inl rfl | exact Or.inr rfl)
  (hfx:X.fn x=true\/X.env.scope.names.lookup x=some .local:=by first | exact .inl rfl | exact .inr rfl) (hfy:X.fn y=true\/X.env.scope.names.lookup y=some .local:=by first | exact .inl rfl | exact .inr rfl) (hfz:X.fn z=true\/X.env.scope.names.lookup z=some .local:=by first | exact .inl rfl | exact .inr rfl)
  (hs:swapsWithSole [.Tuple [.Name x px,.Name y py,.Name z pz] k pt] e pos.line X.env=pure false:=by rfl) (hw:swappedStores [.Tuple [.Name x px,.Name y py,.Name z pz] k pt] e X.env=pure none:=by rfl):LS X sub Γ E (.Assign [.Tuple [.Name x px,.Name y py,.Name z pz] k pt] e pos) (.Vy [i,j,l] e'):=by
 refine Gv (VN he (ad2 (n:=3) hc (Fo (uK (pos:=px) hN hi hx hfx) (Fo (uK (pos:=py) hN hj hy hfy) (Fo (uK (pos:=pz) hN hl hz hfz) abP))) (by rfl) (by rfl)) hs hw rfl) ?_;rintro D σ H ⟨ρ,h,τ,N,R,L,w,k⟩;simp only[Z.wpS]at w;refine ⟨ρ,h,τ,_,R,L,w,λd1 h1 aL H1 v e1 R1 r1 w1=>?_⟩;cases eb:Z.jy [i,j,l] d1 τ with
 | none=>rw[eb]at w1;exact w1.elim
 | some kY=>
  rw[eb]at w1;obtain ⟨a,v1,v2,v3,rfl,hS,L'⟩:=aix r1 (L.mono e1) eb;exact ⟨a,_,rfl,hS,rfl,v1,_,rfl,v2,_,rfl,v3,_,rfl,rfl,k.nx kY h1 aL H1 _ e1 R1 L' w1⟩
end
end ZS
namespace ZS
open PySem PySem.Spec PyProof.Rows L2
variable [R0]
section
variable {X:Cx}{sub:Nat->Nat->Bool}{Γ:Z.b_}{E:Z.PX}
end
end ZS
namespace ZS
open PySem PySem.Spec PyProof.Rows L2
variable [R0]
section
variable {X:Cx}{sub:Nat->Nat->Bool}{Γ:Z.b_}{E:Z.PX}
end
end ZS
namespace ZS
open PySem PySem.Spec PyProof.Rows L2
variable [R0]
theorem au.rev {K:PySem.W.Frag}{ρ:List Addr}{H:Hp}:∀{xs:List Z.D} {ys:List V},au K ρ H xs ys->au K ρ H xs.reverse ys.reverse
 | [],_,r=>by simp only[au]at r;subst r;simp[au]
 | x::xs,_,r=>by
  simp only[au]at r;obtain ⟨y,t,rfl,q,r⟩:=r;rw[List.reverse_cons,List.reverse_cons];exact (au.rev r).append (au.one q)
theorem Vals.rev:∀{vs:List V} {us:List Value},Vals vs us->Vals vs.reverse us.reverse
 | [],_,.nil=>.nil
 | _::_,_,.cons r rr=>by
  rw[List.reverse_cons,List.reverse_cons];exact (Vals.rev rr).append (.cons r .nil)
section
variable {X:Cx}{sub:Nat->Nat->Bool}{Γ:Z.b_}{E:Z.PX}
end
end ZS
namespace ZS
open PySem PySem.Spec PyProof.Rows L2
variable [R0]
section
variable {X:Cx}{sub:Nat->Nat->Bool}{Γ:Z.b_}{E:Z.PX}
theorem aH {K:PySem.W.Frag}{C D:Addr}{b:Bool}(hm:PySem.W.mroIn K C (.ref D)=some b)(hs:PySem.W.mroIn K D (.ref D)=some true)(ht:PySem.W.typeIn K (.ref D)=some (.type "type")):PySem.W.kitOne K (.ref C) (.ref D)=some b:=by
 unfold PySem.W.kitOne;by_cases e:C=D
 ·subst e;rw[hm]at hs;cases hs;rw[if_pos (beq_self_eq_true _)]
 ·rw[if_neg (by simpa using e)];have h1:(PySem.W.clsIn K D).isSome=true:=by
   unfold PySem.W.mroIn at hs;cases q:PySem.W.clsIn K D with
   | none=>rw[q]at hs;cases hs
   | some _=>rfl
  unfold PySem.W.kitCls;simp only[h1,ht,beq_self_eq_true,Bool.and_self,if_true];exact hm
end
end ZS
namespace ZS
open PySem PySem.Spec PyProof.Rows L2
section
variable {M:Model}{A:Around}{E:Value->Shared->Prop}{s:Shared}
theorem JH {base:Heap}{env:Env}{outer:List Env}{L e:Addr}{oe:Obj}{vs:Array Value}{head:Value}{hadNext:Bool}{Q:Unit->Shared->Prop}
  (hfr:A.frames=some (env::outer)) (hl:s.heap.FunFrames base (env::outer)) (hf:env.frame=some L)
  (he:s.heap.get? e=some oe) (hd:oe.data=.fields vs) (hsz:1 < vs.size)
  (h:∀h',(∀b o,b≠e->b∉frs (env::outer)->s.heap.get? b=some o->h'.get? b=some o)->(∀b o,b∈frs (env::outer)->s.heap.get? b=some o->∃sl,h'.get? b=some {o with slots:=sl})->
   (∃oe' vs',h'.get? e=some oe'/\oe'.cls=oe.cls/\oe'.dict=oe.dict/\oe'.data=.fields vs'/\vs'[1]?=some (.ref s.heap.objs.size))->(∃oT ts,h'.get? s.heap.objs.size=some oT/\oT.data=.fields ts/\ts[3]?=some .none)->Q () {s with heap:=h'}):
  wpAny M A (do let a <-frameOf env;let pl <-entryPlaceOf L hadNext;let b <-EntryCells.newEntry head a .none (rawInt L) .none pl;setField (.ref e) 1 b) (λ_ s'=>wpAny M A (setFlight (.ref e) none) Q E s') E s:=by
 have ne0:e∉(env::outer).filterMap (·.frame):=λhm=>by
  obtain ⟨_,o,ho,hnf⟩:=hl.mem hm;rw[he]at ho;injection ho with ho;subst ho;exact hnf vs hd
 refine wpAny_bind (wpAny_frameOf_fun hfr hl hf λg1 u1=>?_);refine wpAny_bind (wpAny_entryPlaceOf λpl pq=>?_);unfold EntryCells.newEntry newFields;refine wpAny_bind (wpAny_newObj_type ?_ (pq.sizeOk5 _ _ _ _ _));have i1:g1.get? e=some oe:=(u1.2.1 e ne0).trans he;have i2:=Heap.get?_push_of_some (h:=g1) {cls:=.type "traceback",dict:=none,data:=.fields ([head,.ref L,.none,rawInt L,.none]++(if pl.isEmpty then List.replicate 6 Value.none else pl)).toArray} i1;refine wpAny_setField i2 hd hsz ?_;have nt:g1.objs.size≠e:=Nat.ne_of_gt (Heap.lt_size i1);have j3:=Obj.data_mapFields hd (·.setIfInBounds 1 (Value.ref g1.objs.size));have i3:=Heap.get?_update_self (Obj.mapFields (·.setIfInBounds 1 (Value.ref g1.objs.size))) i2 (Obj.isFreed_of_fields j3);have t3:=(Heap.get?_update_other (g1.push {cls:=.type "traceback",dict:=none,data:=.fields ([head,.ref L,.none,rawInt L,.none]++(if pl.isEmpty then List.replicate 6 Value.none else pl)).toArray})
  (Obj.mapFields (·.setIfInBounds 1 (Value.ref g1.objs.size))) (Ne.symm nt)).trans (Heap.get?_push_size g1 rfl)
 unfold setFlight;refine wpAny_bind (wpAny_field i3 j3 (x:=.ref g1.objs.size) (by simp[hsz]) ?_);rw[if_pos (show (Value.ref g1.objs.size != Value.none)=true from by simp)];refine wpAny_setField t3 rfl (by simp only[List.size_toArray,List.length_append,List.length_cons,List.length_nil]<;>omega) (h _ ?_ ?_ ?_ ?_)
 ·intro b o hbe hbf hb;have hb1:g1.get? b=some o:=(u1.2.1 b hbf).trans hb;have hbT:g1.objs.size≠b:=Nat.ne_of_gt (Heap.lt_size hb1);rw[Heap.get?_update_other _ _ hbT,Heap.get?_update_other _ _ (Ne.symm hbe)];exact Heap.get?_push_of_some _ hb1
 ·intro b o hbf hb;obtain ⟨sl,hb1⟩:=u1.2.2 b o hb;have hbe:b≠e:=λz=>ne0 (z ▸ hbf);have hbT:g1.objs.size≠b:=Nat.ne_of_gt (Heap.lt_size hb1);refine ⟨sl,?_⟩;rw[Heap.get?_update_other _ _ hbT,Heap.get?_update_other _ _ (Ne.symm hbe)];exact Heap.get?_push_of_some _ hb1
 ·rw[<-u1.1];refine ⟨_,_,?_,Obj.cls_mapFields _ _,?_,j3,by simp[hsz]⟩
  ·rw[Heap.get?_update_other _ _ nt];exact i3
  ·obtain ⟨c,d,dt,sl⟩:=oe;cases dt<;>rfl
 ·rw[<-u1.1];exact ⟨_,_,Heap.get?_update_self _ t3 (Obj.isFreed_of_fields (Obj.data_mapFields rfl _)),Obj.data_mapFields rfl _,by first | (simp;done) | (rcases pq with rfl | ⟨_,_,_,_,_,_,_,rfl⟩<;>simp)⟩
end
noncomputable def XD (H:Hp) (oe:Obj):Option Int->Prop
 | none=>oe.dict=none
 | some i=>∃dx od,oe.dict=some dx/\H dx=some (.bY od (.xd [("row",.int i)]))
theorem XD.of {H:Hp}{oe oe':Obj}(e:oe'.dict=oe.dict):∀{xr:Option Int},XD H oe xr->XD H oe' xr
 | none,x=>e.trans x
 | some _,⟨dx,od,h1,h2⟩=>⟨dx,od,e.trans h1,h2⟩
noncomputable def xv:Option Int->Value
 | none=>.none
 | some i=>.int i 0
theorem ae5:∀{a b:Option Int},xv a=xv b->a=b
 | none,none,_=>rfl
 | none,some _,e=>by cases e
 | some _,none,e=>by cases e
 | some _,some _,e=>by cases e;rfl
noncomputable def xD (cn:Z.S):Option Int->Z.D
 | none=>.str cn
 | some i=>.tup [.str cn,.int i]
structure ExcAt (g h:Heap)(H:Hp)(xr:Option Int)(C ea:Addr):Prop where
 new:g.get? ea=none
 free:H ea=none
 at_:∃oe vs,h.get? ea=some oe/\oe.cls=.ref C/\XD H oe xr/\oe.data=.fields vs/\
  (vs[1]?=some .none\/∃T oT ts,vs[1]?=some (.ref T)/\g.get? T=none/\H T=none/\T≠ea/\h.get? T=some oT/\oT.data=.fields ts/\ts[3]?=some .none)
section
variable {M:Model}{A:Around}{E:Value->Shared->Prop}{s:Shared}
theorem Mx {P:Program}{w:World}{base g:Heap}{H:Hp}{env:Env}{outer:List Env}{L C ea:Addr}{xr:Option Int}{Q:Unit->Shared->Prop}
  (hfr:A.frames=some (env::outer)) (hl:s.heap.FunFrames base (env::outer)) (hf:env.frame=some L) (x:ExcAt g s.heap H xr C ea) (hg:∀b o,g.get? b=some o->∃o',s.heap.get? b=some o') (hok:d7 P w H s.heap)
  (h:∀(h':Heap) (ch:List Addr),(∀b∈ch,g.get? b=none/\H b=none/\b∉frs (env::outer)/\(∃o,s.heap.get? b=some o/\∃vs,o.data=.fields vs)/\∃o,h'.get? b=some o)->(∀b o,b∉ch->b∉frs (env::outer)->s.heap.get? b=some o->h'.get? b=some o)->
   (∀b o,b∈frs (env::outer)->s.heap.get? b=some o->∃sl,h'.get? b=some {o with slots:=sl})->ExcAt g h' H xr C ea->Q () {s with heap:=h'}):
  wpAny M A (noteFrame (.ref ea) env) (λ_ s₂=>wpAny M A (setFlight (.ref ea) none) Q E s₂) E s:=by
 obtain ⟨hn,hfree,oe,vs,he,hc,hdi,hd,ht⟩:=x;have nof:∀b o vs,s.heap.get? b=some o->o.data=.fields vs->b∉frs (env::outer):=λb o vs e d hm=>by
  obtain ⟨_,o',ho,hnf⟩:=hl.mem hm;rw[e]at ho;injection ho with ho;subst ho;exact hnf vs d
 have newT:g.get? s.heap.objs.size=none:=by
  cases q:g.get? s.heap.objs.size with
  | none=>rfl
  | some o=>obtain ⟨o',e⟩:=hg _ o q;exact absurd (Heap.lt_size e) (Nat.lt_irrefl _)
 unfold noteFrame;simp only[hf];rcases ht with h1 | ⟨T,oT,ts,h1,nT,fT,nt,hT,hdT,h3⟩
 ·refine wpAny_bind (wpAny_field he hd h1 ?_);rw[if_neg (by decide)];refine JH hfr hl hf he hd (Array.getElem?_eq_some_iff.mp h1).1 λh' k1 k2 ⟨oe',vs',k3,k4,k5,k6,k7⟩ ⟨oT,ts,k8,k9,k10⟩=>?_;refine h h' [ea] (λb hb=>?_) (λb o hb hbf e=>k1 b o (λz=>hb (by simp[z])) hbf e) k2 ⟨hn,hfree,oe',vs',k3,k4.trans hc,XD.of k5 hdi,k6,.inr ⟨_,oT,ts,k7,newT,hok.fresh (Nat.le_refl _),Nat.ne_of_gt (Heap.lt_size he),k8,k9,k10⟩⟩;rw[List.mem_singleton.mp hb];exact ⟨hn,hfree,nof _ _ _ he hd,⟨_,he,_,hd⟩,_,k3⟩
 ·refine wpAny_bind (wpAny_field he hd h1 ?_);rw[if_pos (show (Value.ref T != Value.none)=true from by simp)];refine wpAny_bind (wpAny_field hT hdT h3 ?_);rw[if_neg (show ¬((Value.none == rawInt L)=true) from by simp[rawInt])];refine wpAny_bind (wpAny_setField hT hdT (Array.getElem?_eq_some_iff.mp h3).1 ?_);have ot:∀b,b≠T->(s.heap.update T (Obj.mapFields (·.setIfInBounds 3 Value.none))).get? b=s.heap.get? b:=λb hb=>Heap.get?_update_other _ _ (Ne.symm hb);have nr:∀b o,s.heap.get? b=some o->(∀vs,o.data≠.fields vs)->b≠T:=λb o hb hnf q=>by
   rw[q,hT]at hb;injection hb with hb;subst hb;exact hnf ts hdT
  have sz:(s.heap.update T (Obj.mapFields (·.setIfInBounds 3 Value.none))).objs.size=s.heap.objs.size:=Heap.size_after_update ..;have hT2:=Heap.get?_update_self (Obj.mapFields (·.setIfInBounds 3 Value.none)) hT (Obj.isFreed_of_fields (Obj.data_mapFields hdT _));refine JH (s:={s with heap:=s.heap.update T (Obj.mapFields (·.setIfInBounds 3 Value.none))}) hfr (hl.of_keeps λb o hb hnf=>⟨o,(ot b (nr b o hb hnf)).trans hb,rfl⟩) hf ((ot ea (Ne.symm nt)).trans he) hd (Array.getElem?_eq_some_iff.mp h1).1 λh' k1 k2 ⟨oe',vs',k3,k4,k5,k6,k7⟩ ⟨oT',ts',k8,k9,k10⟩=>?_;have k7:vs'[1]?=some (.ref s.heap.objs.size):=sz ▸ k7;have k8:h'.get? s.heap.objs.size=some oT':=sz ▸ k8;refine h h' [ea,T] (λb hb=>?_) (λb o hb hbf e=>k1 b o (λz=>hb (by simp[z])) hbf ((ot b λz=>hb (by simp[z])).trans e)) (λb o hbf e=>k2 b o hbf ((ot b λz=>nof T oT ts hT hdT (z ▸ hbf)).trans e)) ⟨hn,hfree,oe',vs',k3,k4.trans hc,XD.of k5 hdi,k6,.inr ⟨_,oT',ts',k7,newT,hok.fresh (Nat.le_refl _),Nat.ne_of_gt (Heap.lt_size he),k8,k9,k10⟩⟩;rcases List.mem_cons.mp hb with rfl | hb
  ·exact ⟨hn,hfree,nof _ _ _ he hd,⟨_,he,_,hd⟩,_,k3⟩
  ·rw[List.mem_singleton.mp hb];exact ⟨nT,fT,nof _ _ _ hT hdT,⟨_,hT,_,hdT⟩,_,k1 T _ nt (nof _ _ _ hT hdT) hT2⟩
end
noncomputable def qM (P:Program) (w:World):uM:=λouter H s E e s'=>∃ea C xr H',e=.ref ea/\s'.os=s.os/\AllBare s'.gens/\Un (frs outer) [] H H' s.heap s'.heap/\d7 P w H' s'.heap/\ExcAt s.heap s'.heap H' xr C ea/\E (xv xr) (some C) H'
theorem aiz {P:Program}{w:World}{K:PySem.W.Frag}{mg:Str->Option Value}{base:Heap}{N:List Str}{qual:Str}{scope:Scope}{f:Addr}{cd:Value}{A:Around}{outer:List Env}{s:Shared}{H:Hp}{E:XK}{pins:List (Addr×Obj)}{σ:L2.St}{H1:Hp}{s1:Shared}{C ea:Addr}{xr:Option Int}
  (I:Inv (iW (qM P w) P w K mg base N qual scope f cd A outer s H E) pins σ H1 s1) (x:ExcAt s.heap s1.heap H1 xr C ea) (he:E (xv xr) (some C) H1):(iW (qM P w) P w K mg base N qual scope f cd A outer s H E).xe (.ref ea) s1:=by
 have nU:∀b:Addr,b∉(iW (qM P w) P w K mg base N qual scope f cd A outer s H E).ex:=λb z=>absurd (show b∈([]:List Addr) from z) (by simp);show wpAny (model P w) (A.deeper (envOfC qual scope s.heap.objs.size f cd)) (leaving (envOfC qual scope s.heap.objs.size f cd) (.ref ea)) (λ_ s''=>qM P w outer H s E (.ref ea) s'') (λe' s''=>qM P w outer H s E e' s'') s1;unfold leaving;refine wpAny_bind (Mx (P:=P) (w:=w) (g:=s.heap) (H:=H1) (base:=base) (outer:=outer) I.ok.frames I.stack rfl x (λb o e=>I.base.there b o e (nU b)) I.hok λh' ch Wt keep slot x'=>?_);have nfr:∀b o,s.heap.get? b=some o->b∉frs outer->b∉frs (envOfC qual scope s.heap.objs.size f cd::outer):=λb o e hb hm=>by
  rcases List.mem_cons.mp (I.z9 b hm) with z | z
  ·exact absurd (Heap.lt_size e) (by rw[z];exact Nat.not_lt.mpr I.ok.above)
  ·exact hb z
 have sH:∀b o,s.heap.get? b=some o->b∉ch:=λb o e hb=>by rw[(Wt b hb).1]at e;cases e
 have inF:∀b,b∈frs outer->b∈frs (envOfC qual scope s.heap.objs.size f cd::outer):=λb hb=>by
  unfold frs at hb ⊢;rw[List.filterMap_cons];split
  ·exact hb
  ·exact List.mem_cons_of_mem _ hb
 refine ⟨ea,C,xr,H1,rfl,I.os,I.bare,⟨λb o e n hb _=>?_,λb o e n hb _=>?_,λb o e n _=>I.base.free b o e n (nU b),λb o e _=>?_,I.base.tups,I.base.iV,I.base.jM⟩,λa o e=>?_,x',he⟩
 ·exact keep b o (sH b o e) (nfr b o e hb) (I.base.keep b o e n hb (nU b))
 ·obtain ⟨sl,e1⟩:=I.base.slot b o e n hb (nU b);obtain ⟨sl',e2⟩:=slot b _ (inF b hb) e1;exact ⟨sl',e2⟩
 ·obtain ⟨o',e1⟩:=I.base.there b o e (nU b);by_cases hb:b∈frs outer
  ·obtain ⟨sl',e2⟩:=slot b _ (inF b hb) e1;exact ⟨_,e2⟩
  ·exact ⟨o',keep b o' (sH b o e) (nfr b o e hb) e1⟩
 ·refine (I.hok a o e).stay (λb u hb eb=>?_) (λ_ q=>q) λ_ _ q=>q;have ht:∃u,H1 b=some u:=by
   rcases hb with rfl | hb
   ·exact ⟨_,e⟩
   ·exact ⟨_,hb⟩
  obtain ⟨u',ht⟩:=ht;refine keep b u (λz=>?_) (λz=>?_) eb
  ·rw[(Wt b z).2.1]at ht;cases ht
  ·have:=I.Ds b z;rw[this]at ht;cases ht
variable [R0]
noncomputable def XOk (X:Cx) (E:Z.PX):Prop:=∀pins σ H s ea C xr ρ h (cn:Z.S),Inv X pins σ H s->ExcAt X.s₀.heap s.heap H xr C ea->Rep X.K ρ h H->PySem.W.nsIn X.K mainGlobals ⟨cn.toArray⟩=some (some (.ref C))->E (xD cn xr) h->X.xe (.ref ea) s
noncomputable def EY (K:PySem.W.Frag) (Γ:Z.b_) (f:Nat):Sp:=λvs H Q E=>∃ρ h ds Q',∃E':Z.PX,Rep K ρ h H/\au K ρ H ds vs/\Γ f ds h Q' E'/\
 (∀d h' ρ' H' v,Ext K ρ H ρ' H'->Rep K ρ' h' H'->ao K ρ' H' d v->Q' d h'->Q v H')/\
 ∀(cn:Z.S) C xr h' ρ' H',Rep K ρ' h' H'->PySem.W.nsIn K mainGlobals ⟨cn.toArray⟩=some (some (.ref C))->E' (xD cn xr) h'->E (xv xr) (some C) H'
end ZS
namespace ZS
open PySem PySem.Spec PyProof.Rows L2
section
variable {X:Cx}{pins:List (Addr×Obj)}{σ:L2.St}{H:Hp}{s:Shared}
theorem Qp {ch:List Addr}{h':Heap}{t':Nat}(I:Inv X pins σ H s)(hch:∀b∈ch,X.s₀.heap.get? b=none/\H b=none/\(∃o,s.heap.get? b=some o/\∃vs,o.data=.fields vs)/\∀p∈X.pn++pins,p.1≠b)
  (keep:∀b o,b∉ch->b∉frs X.stack->s.heap.get? b=some o->h'.get? b=some o) (slot:∀b o,b∈frs X.stack->s.heap.get? b=some o->∃sl,h'.get? b=some {o with slots:=sl}):
  Inv X pins σ H {s with heap:=h',toks:=t'}:=by
 have aa0:∀b u,H b=some u->b∉ch/\b∉frs X.stack:=λb u e=>⟨(λz=>by rw[(hch b z).2.1]at e;cases e),(λz=>by rw[I.Ds b z]at e;cases e)⟩
 have nst:∀b,b≠X.env.locals->b∉X.fs->b∉frs X.stack:=λb h1 h2 z=>(List.mem_cons.mp (I.z9 b z)).elim h1 h2;have any:∀b o,b∉ch->s.heap.get? b=some o->∃sl,h'.get? b=some {o with slots:=sl}:=λb o hc e=>by
  by_cases hb:b∈frs X.stack
  ·exact slot b o hb e
  ·exact ⟨o.slots,keep b o hc hb e⟩
 obtain ⟨m0,⟨oL,esL,epL,hL,hLd,_⟩,_⟩:=id I.loc;have nL:X.env.locals∉ch:=λz=>by
  obtain ⟨_,_,⟨o,e,vs,d⟩,_⟩:=hch _ z;rw[hL]at e;cases e;rw[hLd]at d;cases d
 refine I.KD (g':=s.gens) (d':=s.drawn) (t':=t') (ch:=ch) (λb hb=>?_) (λb o h1 h2 h3 e _=>keep b o h3 (nst b h1 h2) e) (λb o _ _ h3 e _=>any b o h3 e) (λ_ _ _ _ n=>n) (λb o h3 e=>let ⟨sl,q⟩:=any b o h3 e;⟨_,q⟩) (λ_ _ e=>e) (λ_ _ _ e=>e) (λb ps e=>⟨#[],by rw[e];simp⟩) (λm hm=>?_) (λb u e=>?_) I.bare
 ·obtain ⟨h1,h2,⟨o,e,vs,d⟩,h3⟩:=hch b hb;refine ⟨.inr h1,λz=>nL (z ▸ hb),λx c ec z=>?_,h3⟩;obtain ⟨v,oc,eo,dc⟩:=I.cell x c ec;rw[z,e]at eo;cases eo;rw[d]at dc;cases dc
 ·obtain ⟨o,es,ep,ho,r⟩:=hm;obtain ⟨sl,q⟩:=any _ o nL ho;exact ⟨_,es,ep,q,r⟩
 ·refine (I.hok b u e).stay (λc v hc q=>?_) (λ_ q=>q) λ_ _ q=>q;have ht:∃w,H c=some w:=by
   rcases hc with rfl | hc
   ·exact ⟨_,e⟩
   ·exact ⟨_,hc⟩
  obtain ⟨w,ht⟩:=ht;exact keep c v (aa0 c w ht).1 (aa0 c w ht).2 q
theorem Wu {M:Model}{E:Value->Shared->Prop}{Q:Unit->Shared->Prop}{g:Heap}{C ea:Addr}{xr:Option Int}(I:Inv X pins σ H s)(hst:X.stack=X.env::X.outer)(hf:X.env.frame=some X.env.locals)(x:ExcAt g s.heap H xr C ea)
  (hg:∀b o,g.get? b=some o->∃o',s.heap.get? b=some o') (hg0:∀b,g.get? b=none->X.s₀.heap.get? b=none) (Mz:∀p∈X.pn++pins,∃o,g.get? p.1=some o)
  (h:∀h',Inv X pins σ H {s with heap:=h'}->(∀b o,g.get? b=some o->∃o',h'.get? b=some o')->ExcAt g h' H xr C ea->Q () {s with heap:=h'}):
  wpAny M X.A (noteFrame (.ref ea) X.env) (λ_ s₂=>wpAny M X.A (setFlight (.ref ea) none) Q E s₂) E s:=by
 refine Mx (P:=X.prog) (w:=X.w) (base:=X.base) (outer:=X.outer) (hst ▸ I.ok.frames) (hst ▸ I.stack) hf x hg I.hok λh' ch Wt keep slot x'=>?_;refine h h' (Qp (t':=s.toks) I (ch:=ch) (λb hb=>?_) (λb o h1 h2 e=>keep b o h1 (hst ▸ h2) e) λb o h2 e=>slot b o (hst ▸ h2) e) (λb o e=>?_) x'
 ·obtain ⟨h1,h2,_,h3,_⟩:=Wt b hb;refine ⟨hg0 b h1,h2,h3,λp hp z=>?_⟩;obtain ⟨o,e⟩:=Mz p hp;rw[z,h1]at e;cases e
 ·obtain ⟨o',e1⟩:=hg b o e;by_cases hc:b∈ch
  ·exact (Wt b hc).2.2.2.2
  ·by_cases hb:b∈frs (X.env::X.outer)
   ·obtain ⟨sl,q⟩:=slot b o' hb e1;exact ⟨_,q⟩
   ·exact ⟨_,keep b o' hc hb e1⟩
theorem acs {M:Model}{A:Around}{E:Value->Shared->Prop}{Q:Unit->Shared->Prop}{g:Heap}{C ea:Addr}{xr:Option Int}(I:Inv X pins σ H s)(x:ExcAt g s.heap H xr C ea)
  (hg:∀b o,g.get? b=some o->∃o',s.heap.get? b=some o') (hg0:∀b,g.get? b=none->X.s₀.heap.get? b=none) (Mz:∀p∈X.pn++pins,∃o,g.get? p.1=some o)
  (h:∀h',Inv X pins σ H {s with heap:=h'}->(∀b o,g.get? b=some o->∃o',h'.get? b=some o')->ExcAt g h' H xr C ea->Q () {s with heap:=h'}):
  wpAny M A (setFlight (.ref ea) none) Q E s:=by
 obtain ⟨hn,hfree,oe,vs,he,hc,hdi,hd,ht⟩:=id x;rcases ht with h1 | ⟨T,oT,ts,h1,nT,fT,hTe,hT,hdT,h3⟩
 ·unfold setFlight;refine wpAny_bind (wpAny_field he hd h1 ?_);rw[if_neg (by decide)];exact wpAny_pure (h s.heap (I.tok s.toks) hg x)
 ·refine wpAny_setFlight_none he hd h1 hT hdT (Array.getElem?_eq_some_iff.mp h3).1 ?_;have ot:∀b,b≠T->(s.heap.update T (Obj.mapFields (·.setIfInBounds 3 Value.none))).get? b=s.heap.get? b:=λb hb=>Heap.get?_update_other _ _ (Ne.symm hb);have hT2:=Heap.get?_update_self (Obj.mapFields (·.setIfInBounds 3 Value.none)) hT (Obj.isFreed_of_fields (Obj.data_mapFields hdT _));have nf:T∉frs X.stack:=λz=>by
   obtain ⟨_,o,e,d⟩:=I.stack.mem z;rw[hT]at e;cases e;exact d _ hdT
  refine h _ (Qp (t':=s.toks) I (ch:=[T]) (λb hb=>?_) (λb o h1 h2 e=>(ot b λz=>h1 (by simp[z])).trans e) λb o h2 e=>⟨o.slots,(ot b λz=>nf (z ▸ h2)).trans e⟩) (λb o e=>?_) ⟨hn,hfree,oe,vs,(ot ea (Ne.symm hTe)).trans he,hc,hdi,hd,.inr ⟨T,_,_,h1,nT,fT,hTe,hT2,Obj.data_mapFields hdT _,by simp[(Array.getElem?_eq_some_iff.mp h3).1]⟩⟩
  ·rw[List.mem_singleton.mp hb];refine ⟨hg0 T nT,fT,⟨_,hT,_,hdT⟩,λp hp z=>?_⟩;obtain ⟨o,e⟩:=Mz p hp;rw[z,nT]at e;cases e
  ·by_cases hb:b=T
   ·rw[hb,nT]at e;cases e
   ·obtain ⟨o',e1⟩:=hg b o e;exact ⟨o',(ot b hb).trans e1⟩
theorem YZ {oe:Obj}{ea:Addr}(I:Inv X pins σ H s)(hn:X.s₀.heap.get? ea=none)(hfree:H ea=none)(he:s.heap.get? ea=some oe)(hd:∃vs,oe.data=.fields vs)(hp:∀p∈X.pn++pins,p.1≠ea):Inv X pins σ (upd H ea (.bY oe (.own 0))) s:=by
 have Wv:∀b u,H b=some u->b≠ea:=λb u e z=>by rw[z,hfree]at e;cases e
 obtain ⟨m0,⟨oL,esL,epL,hL,hLd,_⟩,_⟩:=id I.loc;obtain ⟨vs,hd⟩:=hd;refine I.KD (h':=s.heap) (g':=s.gens) (d':=s.drawn) (t':=s.toks) (ch:=[ea]) (λb hb=>?_) (λb o _ _ _ e _=>e) (λb o _ _ _ e _=>⟨o.slots,e⟩) (λb o h3 _ n=>?_) (λb o _ e=>⟨o,e⟩) (λb xs e=>?_) (λb o u e=>?_) (λb ps e=>⟨#[],?_⟩) (λm hm=>hm) (λb u e=>?_) I.bare
 ·rw[List.mem_singleton.mp hb];refine ⟨.inr hn,λz=>?_,λx c ec z=>?_,hp⟩
  ·rw[z,hL]at he;cases he;rw[hLd]at hd;cases hd
  ·obtain ⟨v,oc,eo,dc⟩:=I.cell x c ec;rw[z,he]at eo;cases eo;rw[hd]at dc;cases dc
 ·rw[aN (λz=>h3 (by simp[z]))];exact n
 ·rw[aN (Wv b _ e)];exact e
 ·rw[aN (Wv b _ e)];exact e
 ·rw[aN (Wv b _ e),e];simp
 ·by_cases hb:b=ea
  ·subst hb;rw[aZ]at e;cases e;exact ⟨he,_,he⟩
  ·rw[aN hb]at e;exact (I.hok b u e).stay (λ_ _ _ q=>q) (λc q=>by rw[aN (Wv c _ q)];exact q) λc xs q=>by rw[aN (Wv c _ q)];exact q
end
end ZS
namespace ZS
open PySem PySem.Spec PyProof.Rows L2
variable [R0]
noncomputable abbrev VB:List Value:=[.type "ValueError",.type "Exception",.type "BaseException",.type "object"]
section
variable {X:Cx}{sub:Nat->Nat->Bool}{Γ:Z.b_}{E:Z.PX}
end
section
open PySem.W
variable {prog:Program}{w:World}{A:Around}{E:Value->Shared->Prop}{s:Shared}{K:PySem.W.Frag}{x D:Addr}{ox:Obj}
structure Ar (K:PySem.W.Frag)(D:Addr):Prop where
 ga:findIn K (.ref D) "__getattribute__"=some (some (.builtin "BaseException.__getattribute__"))
 gh:findIn K (.ref D) "__getattr__"=some none
 cl:findIn K (.ref D) "__class__"=some (some (.builtin "object.__class__"))
 mo:mroIn K D (.type "object")=some true
 mb:mroIn K D (.type "BaseException")=some true
theorem Ww {a g:Value}{nm:Str}(hc:(clsIn K D).isSome=true)(ha:findIn K (.ref D) nm=some (some a))(hg:specialIn K a "__get__"=some (some g))(ht:takesIn K a=some true){od:Option Obj}:findObj K D od nm=some (.bind g a):=by
 obtain ⟨cd,hc⟩:=Option.isSome_iff_exists.mp hc;unfold findObj;rw[hc,Option.bind_some,ha,Option.bind_some];simp[hg,ht]
theorem Ar.some (c:Ar K D):(clsIn K D).isSome=true:=by
 have:=c.mo;unfold mroIn at this;cases q:clsIn K D with
 | none=>rw[q]at this;cases this
 | some _=>rfl
theorem acu {tk:Tok}{od:Option Obj}{Q:Fin->Shared->Prop}(X:K.In s.heap)(I:InstAt s.heap x ox D od)(c:Ar K D)(hn:specialIn K (.builtin "object.__class__") "__get__"=some (some (.builtin "getset_descriptor.__get__")))(htk:takesIn K (.builtin "object.__class__")=some true)
  (h:Q (.done (.ret (.ref D))) s):wpAny (model prog w) A (Builtin.«object.__getattribute__» ⟨[.ref x,.str "__class__" tk],[]⟩) Q E s:=by
 obtain ⟨hh,gg,d,t,os⟩:=s;have L0:=I.type (M:=model prog w);have L1:=looks_find (M:=model prog w) X I (Ww c.some c.cl hn htk);unfold Builtin.«object.__getattribute__»;refine wpAny_bind (wpAny_pure (wpAny_bind (wpAny_pure (wpAny_bind (L0.at (wpAny_bind (L1.at ?_)))))));show wpAny _ _ (holding [Value.builtin "object.__class__"] (call (.builtin "getset_descriptor.__get__") [.builtin "object.__class__",.ref x,.ref D]) >>= ret) _ _ _;refine wpAny_bind (wpAny_holding (wpAny_call (class_get (ox:=ox) (od:=od) X I c.mo (wpAny_pure h))))
theorem JK {M:Model}{h:Heap}{g:Array GenState}{d:Drawn}{t:Nat}{os:OsState}{nv:Value}{Q:Unit->Shared->Prop}(L3:Looks M h (isInstance (.ref x) (.type "BaseException")) true)(hq:Q () ⟨h,g,d,t,os⟩):wpAny M A (checkBuiltinCall "BaseException.__getattribute__" ⟨[.ref x,nv],[]⟩) Q E ⟨h,g,d,t,os⟩:=by
 have hk:builtinKind "BaseException.__getattribute__"=some .slot:=by decide+kernel
 have hsplit:splitId "BaseException.__getattribute__"=some ("BaseException","__getattribute__"):=by decide+kernel
 have ha:=PySem.F.args_bexc_ga (.ref x) nv;simp only[checkBuiltinCall,hk,hsplit];refine wpAny_bind (L3.at ?_)
 repeat (any_goals (first | assumption | wp_step))
theorem Wx {od:Option Obj}{Q:Option Value->Shared->Prop}(X:K.In s.heap)(I:InstAt s.heap x ox D od)(c:Ar K D)(hn:specialIn K (.builtin "object.__class__") "__get__"=some (some (.builtin "getset_descriptor.__get__")))(htk:takesIn K (.builtin "object.__class__")=some true)
  (h:Q (some (.ref D)) {s with toks:=s.toks+1}):wpAny (model prog w) A (getAttr? (.ref x) "__class__") Q E s:=by
 obtain ⟨hh,g,d,t,os⟩:=s;have L0:=I.type (M:=model prog w);have L1:=looks_findIn (M:=model prog w) X c.ga;have L2:=looks_findIn (M:=model prog w) X c.gh;have L3:Looks (model prog w) hh (isInstance (.ref x) (.type "BaseException")) true:=L0.andThen (looks_mroIn X c.mb);unfold getAttr? getAttrBy? getAttrBy;refine wpAny_bind (wpAny_mkText (wpAny_bind (wpAny_attempt (wpAny_holding (wpAny_bind (L0.at (wpAny_bind (L1.at ?_))))))));have hx2:(Value.builtin "BaseException.__getattribute__" == Value.builtin "object.__getattribute__")=false:=by decide+kernel
 dsimp only;rw[if_neg (by rw[hx2,Bool.and_false];decide)];unfold getAttrByItsOwn hookBefore;rw[if_pos (show onTheHeap (Value.ref D)=true by rfl)];refine wpAny_bind (L2.at (wpAny_bind (wpAny_attempt (wpAny_holding ?_))));unfold callGetattribute;rw[if_neg (by decide)];unfold boundAndCalled;refine wpAny_bind (wpAny_of_eq (PySem.F.attr_ValueError.ga.bind (.ref x)) ?_);refine wpAny_call (codeAny_call_builtin PySem.F.attr_ValueError.ga.plain PySem.F.entry_bexc_ga (JK L3 (acu (s:=⟨hh,g,d,t+1,os⟩) X I c hn htk ?_)));exact handed_on rfl (wpAny_pure h)
theorem wC {od:Option Obj}(c:Ar K D)(hn:specialIn K (.builtin "object.__class__") "__get__"=some (some (.builtin "getset_descriptor.__get__")))(htk:takesIn K (.builtin "object.__class__")=some true):KitX K (.ref x) (.ref D) (λh=>InstAt h x ox D od) where
 ty:=λ_ _ _ I=>I.type
 it:=λ_ _ X _=>by
  obtain ⟨cdD,hcD⟩:=Option.isSome_iff_exists.mp c.some;unfold clsIn at hcD;split at hcD
  ·rename_i c' d' cd' sl' ho;intro A' Q' E' s' k q;unfold isType loadHead;exact wpAny_bind (wpAny_loadPart (k _ _ (X _ _ ho)) (wpAny_pure q))
  ·cases hcD
 ne:=λh tp dd its n sl X htp=>by
  obtain ⟨cdD,hcD⟩:=Option.isSome_iff_exists.mp c.some;refine Bool.eq_false_iff.mpr λq=>?_;have e:D=tp:=Value.ref.inj (beq_iff_eq.mp q);subst e;unfold clsIn at hcD;split at hcD
  ·rename_i c' d' cd' sl' ho;have z:=(X _ _ ho).symm.trans htp;cases z
  ·cases hcD
 ca:=λX I k=>Wx X I c hn htk k
end
structure dM (K:PySem.W.Frag)(c:Value)(ys ns:List Z.S):Prop where
 hn:PySem.W.specialIn K (.builtin "object.__class__") "__get__"=some (some (.builtin "getset_descriptor.__get__"))
 ht:PySem.W.takesIn K (.builtin "object.__class__")=some true
 yes:∀d∈ys,∀C,PySem.W.nsIn K mainGlobals ⟨d.toArray⟩=some (some (.ref C))->Ar K C/\PySem.W.kitOne K (.ref C) c=some true
 no:∀d∈ns,∀C,PySem.W.nsIn K mainGlobals ⟨d.toArray⟩=some (some (.ref C))->Ar K C/\PySem.W.kitOne K (.ref C) c=some false
theorem d_ {K:PySem.W.Frag}{c:Value}(hn:PySem.W.specialIn K (.builtin "object.__class__") "__get__"=some (some (.builtin "getset_descriptor.__get__")))(ht:PySem.W.takesIn K (.builtin "object.__class__")=some true):dM K c [] []:=⟨hn,ht,(λ_ h=>by cases h),(λ_ h=>by cases h)⟩
theorem dw {K:PySem.W.Frag}{c:Value}{C:Addr}{d:Z.S}{ys ns:List Z.S}{x:Str}(hC:PySem.W.nsIn K mainGlobals x=some (some (.ref C)))(ok:Ar K C)(e:PySem.W.kitOne K (.ref C) c=some true)(r:dM K c ys ns)(hx:x=⟨d.toArray⟩:=by rfl):dM K c (d::ys) ns:=by
 subst hx;refine ⟨r.hn,r.ht,λc' h C' hn=>?_,r.no⟩;rcases List.mem_cons.mp h with rfl | h
 ·rw[hC]at hn;cases hn;exact ⟨ok,e⟩
 ·exact r.yes c' h C' hn
theorem bf {K:PySem.W.Frag}{c:Value}{C:Addr}{d:Z.S}{ys ns:List Z.S}{x:Str}(hC:PySem.W.nsIn K mainGlobals x=some (some (.ref C)))(ok:Ar K C)(e:PySem.W.kitOne K (.ref C) c=some false)(r:dM K c ys ns)(hx:x=⟨d.toArray⟩:=by rfl):dM K c ys (d::ns):=by
 subst hx;refine ⟨r.hn,r.ht,r.yes,λc' h C' hn=>?_⟩;rcases List.mem_cons.mp h with rfl | h
 ·rw[hC]at hn;cases hn;exact ⟨ok,e⟩
 ·exact r.no c' h C' hn
theorem uU {K:PySem.W.Frag}{C:Addr}{T:String}{b:Bool}(hT:PySem.W.kitMeta T=true)(hm:PySem.W.mroIn K C (.type T)=some b):PySem.W.kitOne K (.ref C) (.type T)=some b:=by
 unfold PySem.W.kitOne PySem.W.kitCls;rw[if_neg (by simp)];simp only[hT,if_true];exact hm
theorem ae6 {K:PySem.W.Frag}{ρ:List Addr}{h:Z.AH}{H:Hp}{n:Nat}{v:V}{c:Z.S}(R:Rep K ρ h H)(r:ao K ρ H (.ref n) v)(e:h[n]?=some (.exc c)):
  ∃a C oe,v=.ref a/\PySem.W.nsIn K mainGlobals ⟨c.toArray⟩=some (some (.ref C))/\H a=some (.bY oe (.own 0))/\oe.cls=.ref C/\oe.dict=none/\PySem.W.notCls oe=true:=by
 simp only[ao]at r;obtain ⟨a,rfl,q⟩:=r;obtain ⟨b,eb,C,oe,h1,h2,h3⟩:=R.at_ n _ e;rw[q]at eb;cases eb;exact ⟨a,C,oe,rfl,h1,h2,h3⟩
theorem Wy {K:PySem.W.Frag}{ρ:List Addr}{h:Z.AH}{H:Hp}{n:Nat}{v:V}{c:Z.S}{i:Int}(R:Rep K ρ h H)(r:ao K ρ H (.ref n) v)(e:h[n]?=some (.cW c i)):
  ∃a C oe dx od,v=.ref a/\PySem.W.nsIn K mainGlobals ⟨c.toArray⟩=some (some (.ref C))/\H a=some (.bY oe (.own 0))/\H dx=some (.bY od (.xd [("row",.int i)]))/\oe.cls=.ref C/\oe.dict=some dx/\PySem.W.notCls oe=true:=by
 simp only[ao]at r;obtain ⟨a,rfl,q⟩:=r;obtain ⟨b,eb,C,oe,dx,od,h1,h2,h3⟩:=R.at_ n _ e;rw[q]at eb;cases eb;exact ⟨a,C,oe,dx,od,rfl,h1,h2,h3⟩
section
variable {X:Cx}{sub:Nat->Nat->Bool}{Γ:Z.b_}{E:Z.PX}
theorem aa1 {vc:V}{uc:Value}{ys ns:List Z.S}(hv:∀u,RelV vc u->u=uc)(ok:dM X.K uc ys ns):eV X (.builtin "isinstance") (λxs H Q=>∃x,xs=[x,vc]/\rP X.K sub (.dZ ys ns) [x] H Q):=by
 intro pins s σ H xs us Q I r ⟨x,e,ρ,h,ds,d,h',R,rr,q,kk⟩;subst e;obtain ⟨u,w',rfl,rx,rt⟩:=vals2 r;have:=hv _ rt;subst this;obtain ⟨d1,rfl,r1⟩:=wz rr;change Z.Ye ys ns [d1] h=some (d,h') at q;cases d1 with
 | ref n=>
  simp only[Z.Ye]at q;cases eo:h[n]? with
  | none=>rw[eo]at q;cases q
  | some o=>
   cases o with
   | exc c=>
    rw[eo]at q;simp only at q;obtain ⟨a,C,oe,rfl,hn,ha,hc,hd,hnc⟩:=ae6 R r1 eo;obtain ⟨ho,_⟩:=(show cD X.prog X.w H s.heap a (.bY oe (.own 0)) from I.hok a _ ha)
    cases (show u=Value.ref a from rx);have J:PySem.W.InstAt s.heap a oe C none:=⟨ho,hc,hnc,by rw[hd];trivial⟩
    by_cases hy:c∈ys
    ·rw[if_pos hy]at q;cases q;obtain ⟨o,e⟩:=ok.yes c hy C hn;exact PySem.W.kia_one (wC o ok.hn ok.ht) I.cZ J e (λz=>nomatch z) λtk=>⟨.bl true,H,I.tok _,rfl,kk ρ H _ .refl R (by simp only[ao])⟩
    ·rw[if_neg hy]at q;by_cases hz:c∈ns
     ·rw[if_pos hz]at q;cases q;obtain ⟨o,e⟩:=ok.no c hz C hn;exact PySem.W.kia_one (wC o ok.hn ok.ht) I.cZ J e (λz=>nomatch z) λtk=>⟨.bl false,H,I.tok _,rfl,kk ρ H _ .refl R (by simp only[ao])⟩
     ·rw[if_neg hz]at q;cases q
   | cW c i=>
    rw[eo]at q;simp only at q;obtain ⟨a,C,oe,dx,od,rfl,hn,ha,hx,hc,hd,hnc⟩:=Wy R r1 eo;obtain ⟨hod,_⟩:=(show cD X.prog X.w H s.heap dx (.bY od (.xd [("row",.int i)])) from I.hok dx _ hx)
    obtain ⟨ho,_⟩:=(show cD X.prog X.w H s.heap a (.bY oe (.own 0)) from I.hok a _ ha)
    cases (show u=Value.ref a from rx);have J:PySem.W.InstAt s.heap a oe C (some od):=⟨ho,hc,hnc,by rw[hd];exact hod⟩
    by_cases hy:c∈ys
    ·rw[if_pos hy]at q;cases q;obtain ⟨o,e⟩:=ok.yes c hy C hn;exact PySem.W.kia_one (wC o ok.hn ok.ht) I.cZ J e (λz=>nomatch z) λtk=>⟨.bl true,H,I.tok _,rfl,kk ρ H _ .refl R (by simp only[ao])⟩
    ·rw[if_neg hy]at q;by_cases hz:c∈ns
     ·rw[if_pos hz]at q;cases q;obtain ⟨o,e⟩:=ok.no c hz C hn;exact PySem.W.kia_one (wC o ok.hn ok.ht) I.cZ J e (λz=>nomatch z) λtk=>⟨.bl false,H,I.tok _,rfl,kk ρ H _ .refl R (by simp only[ao])⟩
     ·rw[if_neg hz]at q;cases q
   | _=>rw[eo]at q;cases q
 | _=>cases q
theorem d9 {e:Expr}{e':Z.Ex}{D:Addr}{ys ns:List Z.S}{tn:Str}{p p2 pos:Pos}(hm:X.mg "isinstance"=none)(hmt:X.mg tn=some (.ref D))(ok:dM X.K (.ref D) ys ns)(he:LE X sub Γ E e e')
  (hg:Gl X "isinstance":=by rfl) (hgt:Gl X tn:=by rfl) (hdd:(tn == ("__debug__":Str))=false:=by decide) (hs:∀es,starEach (e::es) X.env=(false,eval e X.env)::starEach es X.env:=by intro _;rfl):
  LE X sub Γ E (.Call (.Name "isinstance" p) [e,.Name tn p2] [] pos) (.prim (.dZ ys ns) (.cons e' .nil)):=by
 have hn:PE X (.Name tn p2) (tC (.ref D)):=Dt hgt hmt rfl hdd;refine fX (wg (aa1 (sub:=sub) (vc:=.ref D) (λu r=>r) ok) hg hm (by rfl) (fV he (fV hn nH (by rfl)) (hs _)) (by decide) (by decide) (hs _) (by rfl)) ?_;rintro σ H Q ⟨ρ,h,τ,Q',R,L,w,k'⟩;simp only[Z.aM,Z.bH]at w;refine ⟨ρ,h,τ,_,R,L,w,λd1 h1 aL H1 x e1 R1 r1 w1=>?_⟩;cases q:Z.prim sub (.dZ ys ns) [d1] h1 with
 | none=>rw[q]at w1;exact w1.elim
 | some z=>
  rw[q]at w1;exact ⟨x,rfl,aL,h1,[d1],z.1,z.2,R1,.one r1,q,λρ' H' v e' R' r'=>k' _ _ ρ' H' v (e1.trans e') R' r' w1⟩
theorem aa2 {e:Expr}{e':Z.Ex}{T:String}{ys ns:List Z.S}{tn:Str}{p p2 pos:Pos}(hm:X.mg "isinstance"=none)(hmt:X.mg tn=none)(Wm:bootBuiltins tn=some (.type T))(ok:dM X.K (.type T) ys ns)(he:LE X sub Γ E e e')
  (hg:Gl X "isinstance":=by rfl) (hgt:Gl X tn:=by rfl) (hnn:tn≠"__name__":=by decide) (hdd:(tn == ("__debug__":Str))=false:=by decide) (hs:∀es,starEach (e::es) X.env=(false,eval e X.env)::starEach es X.env:=by intro _;rfl):
  LE X sub Γ E (.Call (.Name "isinstance" p) [e,.Name tn p2] [] pos) (.prim (.dZ ys ns) (.cons e' .nil)):=by
 have hn:PE X (.Name tn p2) (tC (.ty T)):=PN hgt hmt Wm rfl hnn hdd;refine fX (wg (aa1 (sub:=sub) (vc:=.ty T) (λu r=>r) ok) hg hm (by rfl) (fV he (fV hn nH (by rfl)) (hs _)) (by decide) (by decide) (hs _) (by rfl)) ?_;rintro σ H Q ⟨ρ,h,τ,Q',R,L,w,k'⟩;simp only[Z.aM,Z.bH]at w;refine ⟨ρ,h,τ,_,R,L,w,λd1 h1 aL H1 x e1 R1 r1 w1=>?_⟩;cases q:Z.prim sub (.dZ ys ns) [d1] h1 with
 | none=>rw[q]at w1;exact w1.elim
 | some z=>
  rw[q]at w1;exact ⟨x,rfl,aL,h1,[d1],z.1,z.2,R1,.one r1,q,λρ' H' v e' R' r'=>k' _ _ ρ' H' v (e1.trans e') R' r' w1⟩
end
end ZS
namespace ZS
open PySem PySem.Spec PyProof.Rows L2
noncomputable abbrev hand (X:Cx) (e:Value) (E:Value->Shared->Prop):Cx:={X with A:=X.A.mark (some e),calm:=false,xe:=E}
theorem acv {X:Cx}{e:Value}{E:Value->Shared->Prop}(ok:X.Ok):(hand X e E).Ok:=
 ⟨ok.mod,ok.kind,ok.glob,ok.blt,ok.above,ok.inj,ok.has,ok.cab,(λh=>by cases h),ok.frames,ok.stk,ok.exf,ok.bs,ok.Eo,ok.nU,ok.Ln,ok.lZ,ok.Jv⟩
theorem Qq {X:Cx}{pins:List (Addr×Obj)}{σ:L2.St}{H:Hp}{s:Shared}{e:Value}{E:Value->Shared->Prop}(I:Inv X pins σ H s):Inv (hand X e E) pins σ H s:=⟨acv I.ok,I.os,I.bare,I.base,I.loc,I.cell,I.free,I.eU,I.pin,I.hok,I.len⟩
theorem wD {X:Cx}{pins:List (Addr×Obj)}{σ:L2.St}{H:Hp}{s:Shared}{e:Value}{E:Value->Shared->Prop}(ok:X.Ok)(I:Inv (hand X e E) pins σ H s):Inv X pins σ H s:=⟨ok,I.os,I.bare,I.base,I.loc,I.cell,I.free,I.eU,I.pin,I.hok,I.len⟩
section
variable {X:Cx}{pins:List (Addr×Obj)}{σ:L2.St}{H:Hp}{s:Shared}
theorem DK {M:Model}{A:Around}{E:Value->Shared->Prop}{Q:Unit->Shared->Prop}{j:Nat}{n:Str}{pos:Pos}(I:Inv X pins σ H s)(hN:X.N.Nodup)(hj:X.N[j]?=some n)(hl:X.env.scope.names.lookup n=some .local)
  (h:∀s',Inv X pins (σ.set j none) H s'->Q () s'):wpAny M A (do bindName X.env n .none;unbindBehindTheSuite X.env n pos) Q E s:=by
 obtain ⟨m,hn,hloc⟩:=id I.loc;refine wpAny_nameGoes_keeps (show X.env.kindOf n=some .local from hl) hn (by rw[I.ok.kind];rfl) λh' v hn' hs=>h _ ?_;obtain ⟨oL,_,_,hoL,_⟩:=id hn;have lt:∀b o,X.s₀.heap.get? b=some o->b≠X.env.locals:=λb o e=>Nat.ne_of_lt (Nat.lt_of_lt_of_le (Heap.lt_size e) I.ok.above);have aaF:j < σ.length:=by rw[I.len];exact (List.getElem?_eq_some_iff.mp hj).1
 refine ⟨I.ok,I.os,I.bare,⟨λb o e q hb hx=>(hs.2 b (lt b o e)).trans (I.base.keep b o e q hb hx),λb o e q hb hx=>?_,I.base.free,λb o e hx=>?_,I.base.tups,I.base.iV,I.base.jM⟩,⟨_,hn',λi y w e1 e2 e3=>?_⟩,λy c e=>?_,I.free,I.eU,λp hp=>?_,λb u e=>?_,by simpa using I.len⟩
 ·obtain ⟨sl,e1⟩:=I.base.slot b o e q hb hx;exact ⟨sl,(hs.2 b (lt b o e)).trans e1⟩
 ·obtain ⟨o',e1⟩:=I.base.there b o e hx;exact ⟨o',(hs.2 b (lt b o e)).trans e1⟩
 ·by_cases hji:i=j
  ·subst hji;rw[List.getElem?_set_self aaF]at e2;cases e2
  ·rw[List.getElem?_set_ne (Ne.symm hji)]at e2;obtain ⟨u,r,q⟩:=hloc i y w e1 e2 e3;refine ⟨u,r,?_⟩;rcases q with ⟨k,e⟩ | ⟨k,c,e,z⟩
   ·have:y≠n:=λe=>hji (Fj hN e1 (e ▸ hj));exact .inl ⟨k,by simp[this,e]⟩
   ·exact .inr ⟨k,c,e,z.sameBut hs (I.z8 y c e)⟩
 ·obtain ⟨w,z⟩:=I.cell y c e;exact ⟨w,z.sameBut hs (I.z8 y c e)⟩
 ·obtain ⟨e,q,ne,nf,d⟩:=I.pin p hp;exact ⟨(hs.2 p.1 ne).trans e,q,ne,nf,d⟩
 ·refine (I.hok b u e).stay (λc w hc q=>(hs.2 c λz=>?_).trans q) (λ_ q=>q) λ_ _ q=>q;have hf:=I.free;rcases hc with rfl | hc
  ·rw[z,hf]at e;cases e
  ·rw[z,hf]at hc;cases hc
noncomputable def aa3 (D:Ends) (j:Nat):Ends where
 nx:=λσ' H'=>D.nx (σ'.set j none) H'
 rt:=D.rt
 bk:=λσ' H'=>D.bk (σ'.set j none) H'
 ct:=λσ' H'=>D.ct (σ'.set j none) H'
theorem ae7 {M:Model}{E:Value->Shared->Prop}{e:Value}{xe:Value->Shared->Prop}{j:Nat}{n:Str}{pos:Pos}{D:Ends}{f:Flow}(ok:X.Ok)(hN:X.N.Nodup)(hj:X.N[j]?=some n)(hl:X.env.scope.names.lookup n=some .local)
  (q:SP (hand X e xe) pins (aa3 D j) f s):wpAny M X.A (do bindName X.env n .none;unbindBehindTheSuite X.env n pos) (λ_ s'=>SP X pins D f s') E s:=by
 cases f with
 | next=>obtain ⟨σ',H',I,q⟩:=q;exact DK (wD ok I) hN hj hl λs' I'=>⟨_,H',I',q⟩
 | brk=>obtain ⟨σ',H',I,q⟩:=q;exact DK (wD ok I) hN hj hl λs' I'=>⟨_,H',I',q⟩
 | cont=>obtain ⟨σ',H',I,q⟩:=q;exact DK (wD ok I) hN hj hl λs' I'=>⟨_,H',I',q⟩
 | ret u=>obtain ⟨v,σ',H',I,r,q⟩:=q;exact DK (wD ok I) hN hj hl λs' I'=>⟨v,_,H',I',r,q⟩
end
theorem cJ.unset {K:PySem.W.Frag}{ρ:List Addr}{H:Hp}{τ:Z.Lo}{σ:L2.St}(L:cJ K ρ H τ σ)(j:Nat):cJ K ρ H (τ.set j none) (σ.set j none):=by
 refine ⟨by simp[L.1],λi d e=>?_⟩;by_cases hi:i=j
 ·subst hi;by_cases hl:i < τ.length
  ·rw[List.getElem?_set_self hl]at e;cases e
  ·rw[List.getElem?_eq_none (by simpa using hl)]at e;cases e
 ·rw[List.getElem?_set_ne (Ne.symm hi)]at e ⊢;exact L.2 i d e
theorem Qs {K:PySem.W.Frag}{aL bQ:List Addr}{h2:Z.AH}{H1 H2:Hp}(R2:@Rep ⟨aL,H1⟩ K bQ h2 H2):Ext K aL H1 bQ H2:=@Rep.ext ⟨aL,H1⟩ K bQ h2 H2 R2
theorem ae8 {K:PySem.W.Frag}[r0:R0]{aL:List Addr}{h1:Z.AH}{H1:Hp}(R1:Rep K aL h1 H1):@Rep ⟨aL,H1⟩ K aL h1 H1:=@Rep.mk ⟨aL,H1⟩ K aL h1 H1 R1.len R1.nd Ext.refl R1.at_
theorem Wz {K:PySem.W.Frag}[r0:R0]{aL bQ:List Addr}{h1 h2:Z.AH}{H1 H2:Hp}(R1:Rep K aL h1 H1)(R2:@Rep ⟨aL,H1⟩ K bQ h2 H2):Rep K bQ h2 H2:=@Rep.mk r0 K bQ h2 H2 (@Rep.len ⟨aL,H1⟩ K bQ h2 H2 R2) (@Rep.nd ⟨aL,H1⟩ K bQ h2 H2 R2) (R1.ext.trans (Qs R2)) (@Rep.at_ ⟨aL,H1⟩ K bQ h2 H2 R2)
variable [r0:R0]
section
variable {X:Cx}{sub:Nat->Nat->Bool}{Γ:Z.b_}{E:Z.PX}
end
end ZS
namespace ZS
open PySem PySem.Spec PyProof.Rows L2
theorem WD {K:PySem.W.Frag}{C D:Addr}{b:Bool}(hb:PySem.W.mroIn K D (.type "BaseException")=some true)(hm:PySem.W.mroIn K C (.ref D)=some b)(hs:PySem.W.mroIn K D (.ref D)=some true)(ht:PySem.W.typeIn K (.ref D)=some (.type "type")):PySem.W.exmOne K (.ref C) (.ref D)=some b:=by
 unfold PySem.W.exmOne;rw[if_pos (by show (PySem.W.mroIn K D (.type "BaseException") == some true)=true;rw[hb];rfl)];have h1:(PySem.W.clsIn K D).isSome=true:=by
  unfold PySem.W.mroIn at hs;cases q:PySem.W.clsIn K D with
  | none=>rw[q]at hs;cases hs
  | some _=>rfl
 unfold PySem.W.kitCls;simp only[h1,ht,beq_self_eq_true,Bool.and_self,if_true];exact hm
theorem wZ:bootBuiltins "ValueError"=some (.type "ValueError"):=by decide+kernel
variable [R0]
section
variable {X:Cx}{sub:Nat->Nat->Bool}{Γ:Z.b_}{E:Z.PX}
end
end ZS
namespace ZS
open PySem PySem.Spec PyProof.Rows L2
theorem MF {X:Cx}{pins:List (Addr×Obj)}{σ:L2.St}{H:Hp}{s:Shared}(I:Inv X pins σ H s)(hex:X.ex=[])(b:Addr)(z:s.heap.get? b=none):X.s₀.heap.get? b=none:=by
 cases q:X.s₀.heap.get? b with
 | none=>rfl
 | some o=>
  obtain ⟨o',eo⟩:=I.base.there b o q (λz=>by rw[hex]at z;cases z);rw[z]at eo;cases eo
variable [r0:R0]
section
variable {X:Cx}{sub:Nat->Nat->Bool}{Γ:Z.b_}{E:Z.PX}
end
end ZS
namespace ZS
open PySem PySem.Spec PyProof.Rows L2
variable [R0]
section
variable {X:Cx}{sub:Nat->Nat->Bool}{Γ:Z.b_}{E:Z.PX}
end
end ZS
namespace ZT
open PySem PyProof PyProof.Rows
section
variable {prog:Program}{w:World}{A:Around}{E:Value->Shared->Prop}{s:Shared}{r l:Addr}{items:Array Value}
theorem Y0 {Q:Bool->Shared->Prop}(hT:s.TypeIs (.ref r) "list_reverseiterator")(h:Q false s):wpAny (model prog w) A (Builtin.List.listLengthHint (.ref r)) Q E s:=by
 have l1:typeLookup (.type "list_reverseiterator") "__len__"=pure none:=by rw[typeLookup_type,builtinLookup_eq_fast];kernel_rfl
 have l2:typeLookup (.type "list_reverseiterator") "__length_hint__"=pure (some (.builtin "list_reverseiterator.__length_hint__")):=by rw[typeLookup_type,builtinLookup_eq_fast];kernel_rfl
 unfold Builtin.List.listLengthHint;refine wpAny_bind (wpAny_specialOf hT l1 ?_);refine wpAny_ite_split (λhab=>absurd hab (by decide)) (λ_=>?_);refine wpAny_ite_split (λhab=>absurd hab (by decide)) (λ_=>?_);refine wpAny_bind (wpAny_specialOf hT l2 ?_);generalize hid:("list_reverseiterator.__length_hint__":String)=id0
 wp_delta
 rw[show splitId id0=some ("list_reverseiterator","__length_hint__") from by subst hid;decide+kernel];subst hid;refine wpAny_bind (wpAny_isInstance (T:="list_reverseiterator") (b:=true) hT (by rw[isSubtype_type];kernel_rfl) ?_);refine wpAny_ite_split (λhab=>absurd hab (by decide)) (λ_=>?_);refine wpAny_ite_split (λ_=>?_) (λhab=>absurd (by decide+kernel) hab);refine wpAny_ite_split (λhab=>absurd hab (by decide+kernel)) (λ_=>?_);exact wpAny_pure h
theorem R8 {R:Result->Shared->Prop}(hh:A.handled=none)(hit:s.heap.IsRevIter r l ((items.size:Int) - 1))(hl:s.heap.IsList l items)(hn:items.size<=sizeLine)(hrl:l≠r)(S:Addr)(hSr:S≠r)(hSl:S≠l)(res:Value)(c₀:Nat)(hS:s.heap.get? S=some {cls:=.type "list",data:=.seq #[] c₀})
  (hR:∀h' tk acc' c',(∀b o,b≠S->b≠r->s.heap.get? b=some o->h'.get? b=some o)->h'.get? S=some {cls:=.type "list",dict:=none,data:=.seq acc' c',slots:=#[]}->ItemsOf (λi v=>items[items.size - 1 - i]?=some v) acc' items.size->R (.ok (.ret res)) {s with heap:=h',toks:=tk}):
  wpAny (model prog w) A.in1 (Builtin.List.listExtendWith (.ref S) (.ref r) res)
   (λfin s'=>match fin with | .done f=>R (.ok f) s' | .again c'=>c'.quiet=true/\codeAny (model prog w) A c' R s') (λe s'=>R (.error e) s') s:=by
 have W:=Walks.listRev (prog:=prog) (w:=w) (A:=A.in1) hh r l hrl items;have hSf:S∉[r,l]:=by simp only[List.mem_cons,List.not_mem_nil,or_false,not_or];exact ⟨hSr,hSl⟩
 have st0:∀h:Heap,h.IsRevIter r l ((items.size:Int) - 1)->h.IsList l items->(0<=items.size/\h.IsRevIter r l ((items.size:Int) - 1 - ((0:Nat):Int))/\h.IsList l items):=λh a b=>⟨Nat.zero_le _,by simpa using a,b⟩
 have key:∀(h:Heap) (c₁ tk:Nat),h.IsRevIter r l ((items.size:Int) - 1)->h.IsList l items->(∀b o,b≠S->s.heap.get? b=some o->h.get? b=some o)->
   h.get? S=some {cls:=.type "list",data:=.seq #[] c₁}->codeAny (model prog w) A (.builtin "list.extend.loop" ⟨[.ref S,.ref r,res],[]⟩) R {s with heap:=h,toks:=tk}:=by
  intro h c₁ tk hst hst2 hk hS₁;refine codeAny_extend_loopS W.toS hn S hSf res items.size 0 _ #[] c₁ rfl (Nat.zero_le _) (st0 h hst hst2) hS₁ (ItemsOf.nil _) λs' acc' c' hm hS' hacc=>?_;rw[Moved.eq_with hm];refine hR s'.heap s'.toks acc' c' (λb o hb hbr e=>hm.heap b o (λhmem=>?_) (hk b o hb e)) hS' hacc;rcases List.mem_cons.mp hmem with e' | hmem
  ·exact hb e'
  ·exact hbr (List.mem_singleton.mp hmem)
 unfold Builtin.List.listExtendWith;refine wpAny_bind (wpAny_typeOf (T:="list_reverseiterator") hit.typeIs ?_);have h1:Builtin.List.listSameRef (.ref S) (.ref r)=false:=by simp[Builtin.List.listSameRef,hSr]
 have h2:(Value.type "list_reverseiterator" == Value.type "list")=false:=by decide
 have h3:(Value.type "list_reverseiterator" == Value.type "tuple")=false:=by decide
 simp only[h1,h2,h3,Bool.or_false,Bool.false_eq_true,if_false];refine wpAny_bind (wpAny_pyIter_revIter hit ?_);refine wpAny_bind (wpAny_holding (Y0 hit.typeIs ?_));refine wpAny_ite_split (λhab=>absurd hab (by decide)) (λ_=>wpAny_pure ⟨plainId_quiet PySem.F.plain_extend_loop _,key _ c₀ _ hit hl (λb o _ e=>e) hS⟩)
theorem Y4 {R:Result->Shared->Prop}(hh:A.handled=none)(hit:s.heap.IsRevIter r l ((items.size:Int) - 1))(hl:s.heap.IsList l items)(hn:items.size<=sizeLine)(hrl:l≠r)(S:Addr)(hSr:S≠r)(hSl:S≠l)(hS:s.heap.get? S=some {cls:=.type "list",data:=.seq #[]})
  (hR:∀h' tk acc' c',(∀b o,b≠S->b≠r->s.heap.get? b=some o->h'.get? b=some o)->h'.get? S=some {cls:=.type "list",dict:=none,data:=.seq acc' c',slots:=#[]}->ItemsOf (λi v=>items[items.size - 1 - i]?=some v) acc' items.size->R (.ok (.ret .none)) {s with heap:=h',toks:=tk}):
  wpAny (model prog w) A.in1 (Builtin.«list.__init__» ⟨[.ref S,.ref r],[]⟩)
   (λfin s'=>match fin with | .done f=>R (.ok f) s' | .again c'=>c'.quiet=true/\codeAny (model prog w) A c' R s') (λe s'=>R (.error e) s') s:=by
 show wpAny _ _ (do let old <-Builtin.List.listItems (.ref S);Builtin.List.listUpdate (.ref S) (λ_=>#[]);letGo old.toList.reverse;Builtin.List.listExtendWith (.ref S) (.ref r) .none) _ _ s;refine wpAny_bind ?_;unfold Builtin.List.listItems;refine wpAny_bind (wpAny_seqItems hS rfl (wpAny_pure ?_));show wpAny _ _ (updateSeq S (λ_=>#[]) >>= λ_=>letGo (#[]:Array Value).toList.reverse >>= λ_=>Builtin.List.listExtendWith (.ref S) (.ref r) .none) _ _ s;refine wpAny_bind (wpAny_updateSeq hS rfl ?_);have hS₂:=Heap.get?_update_self (Obj.mapSeq (λ_=>(#[]:Array Value))) hS rfl;have oth:∀b o,b≠S->s.heap.get? b=some o->(s.heap.update S (Obj.mapSeq (λ_=>(#[]:Array Value)))).get? b=some o:=
  λb o hb e=>(Heap.get?_update_other _ _ (Ne.symm hb)).trans e
 refine wpAny_bind (wpAny_letGo ?_);refine R8 hh (hit.at λo e=>oth r o hSr.symm e) (hl.at λo e=>oth l o hSl.symm e) hn hrl S hSr hSl .none _ hS₂ λh' tk acc' c' hk hS' hacc=>?_;exact hR h' tk acc' c' (λb o hb hbr e=>hk b o hb hbr (oth b o hb e)) hS' hacc
theorem Y5 {Q:Value->Shared->Prop}(hh:A.handled=none)(hit:s.heap.IsRevIter r l ((items.size:Int) - 1))(hl:s.heap.IsList l items)(hn:items.size<=sizeLine)(hrl:l≠r)
  (hQ:∀h' tk acc' c',(∀b o,b≠r->s.heap.get? b=some o->h'.get? b=some o)->h'.get? s.heap.objs.size=some {cls:=.type "list",dict:=none,data:=.seq acc' c',slots:=#[]}->ItemsOf (λi v=>items[items.size - 1 - i]?=some v) acc' items.size->Q (.ref s.heap.objs.size) {s with heap:=h',toks:=tk}):
  wpAny (model prog w) A (call (.type "list") [.ref r]) Q E s:=by
 refine callType_codes (Q₁:=λobj s₁=>obj=.ref s.heap.objs.size/\s₁={s with heap:=s.heap.push {cls:=.type "list",data:=.seq #[]}}) PySem.F.called_list (PySem.F.typeCall_list_1 _) PySem.F.entry_list_init
  (code_list_new _ ⟨rfl,rfl⟩) λobj s₁ h₁=>?_
 obtain ⟨rfl,rfl⟩:=h₁;have hS:(s.heap.push {cls:=.type "list",data:=.seq #[]}).get? s.heap.objs.size=some {cls:=.type "list",data:=.seq #[]}:=Heap.get?_push_size _ rfl;have r1:r < s.heap.objs.size:=by obtain ⟨o,e,_⟩:=hit;exact Heap.lt_size e
 have l1:l < s.heap.objs.size:=by obtain ⟨o,e,_⟩:=hl;exact Heap.lt_size e
 refine ⟨⟨_,hS,rfl⟩,PySem.F.args_list_init_2 _ _,Y4 (A:=A.in1) hh (hit.at λo e=>Heap.get?_push_of_some _ e) (hl.at λo e=>Heap.get?_push_of_some _ e) hn hrl _ (Nat.ne_of_gt r1) (Nat.ne_of_gt l1) hS λh' tk acc' c' hk hS' hacc=>?_⟩;exact ⟨rfl,hQ h' tk acc' c' (λb o hb e=>hk b o (Nat.ne_of_lt (Heap.lt_size e)) hb (Heap.get?_push_of_some _ e)) hS' hacc⟩
end
end ZT
namespace ZS
open PySem PySem.Spec PyProof.Rows L2
variable [R0]
section
variable {X:Cx}{sub:Nat->Nat->Bool}{Γ:Z.b_}{E:Z.PX}
theorem GK {P:Program}{w:World}{H:Hp}{r:Addr}{φ:Heap->Prop}{h:Heap}(hr:H r=none)(a:Addr):∀o:HO,cD P w (upd H r (.ext φ)) h a o->cD P w H h a o
 | .lst xs,k=>k
 | .tup xs,k=>k
 | .dK kvs,k=>k
 | .dT kvs,k=>by
  obtain ⟨k1,k2,xs,k3,k4⟩:=k;refine ⟨k1,k2,xs,?_,k4⟩;refine Paired.mono (λp q z=>?_) k3;refine ⟨z.1,?_,z.2.2⟩;have:=z.2.1;by_cases e:q.2.1=r
  ·rw[e,aZ]at this;cases this
  ·rwa [aN e]at this
 | .set S n,k=>k
 | .ins C dx fs,k=>by
  obtain ⟨k1,k2⟩:=k;refine ⟨?_,k2⟩;by_cases e:dx=r
  ·rw[e,aZ]at k1;cases k1
  ·rwa [aN e]at k1
 | .own _,k=>k
 | .xd fs,k=>k
 | .rng lo hi,k=>k
 | .bY o u,k=>⟨k.1,GK hr a u k.2⟩
 | .Ek ps,k=>k
 | .met f x,k=>k
 | .ext φ,k=>k
theorem Y6 {pins:List (Addr×Obj)}{σ:L2.St}{H:Hp}{s:Shared}{r:Addr}{φ:Heap->Prop}(I:Inv X pins σ (upd H r (.ext φ)) s)(hr:H r=none):Inv X pins σ H s:=by
 have back:∀b o,(upd H r (.ext φ)) b=some o->(∀ψ,o≠.ext ψ)->H b=some o:=λb o e n=>by
  by_cases z:b=r
  ·rw[z,aZ]at e;cases e;exact absurd rfl (n φ)
  ·rwa [aN z]at e
 have nn:∀b,(upd H r (.ext φ)) b=none->H b=none:=λb e=>by
  by_cases z:b=r
  ·rw[z];exact hr
  ·rwa [aN z]at e
 refine ⟨I.ok,I.os,I.bare,⟨I.base.keep,I.base.slot,λb o e1 e2 e3=>nn b (I.base.free b o e1 e2 e3),I.base.there,λb xs e=>back _ _ (I.base.tups b xs e) (λ_ z=>by cases z),λb o u e=>back _ _ (I.base.iV b o u e) (λ_ z=>by cases z),λb ps e=>?_⟩,I.loc,I.cell,nn _ I.free,λx c e=>nn _ (I.eU x c e),λp hp=>?_,λa o e=>?_,I.len⟩
 ·obtain ⟨more,e'⟩:=I.base.jM b ps e;exact ⟨more,back _ _ e' (λ_ z=>by cases z)⟩
 ·obtain ⟨a1,a2,a3⟩:=I.pin p hp;exact ⟨a1,nn _ a2,a3⟩
 ·have ne:a≠r:=λz=>by rw[z,hr]at e;cases e
  exact GK hr a o (I.hok a o (by rw[aN ne];exact e))
end
end ZS
namespace ZS
open PySem PySem.Spec PyProof.Rows L2
variable [R0]
section
variable {X:Cx}{sub:Nat->Nat->Bool}{Γ:Z.b_}{E:Z.PX}
noncomputable def phr (X:Cx) (r l:Addr) (n:Nat):Heap->Prop:=λh=>h.IsRevIter r l ((n:Int) - 1)/\X.s₀.heap.objs.size<=r
theorem Y7:eV X (.type "reversed") (λxs H Q=>∃l ys,xs=[.ref l]/\H l=some (.lst ys)/\∀r,H r=none->Q (.ref r) (upd H r (.ext (phr X r l ys.length)))):=by
 intro pins s σ H xs us Q I rv ⟨l,ys,e,hl,q⟩;subst e;obtain ⟨u,rfl,ru⟩:=vals1 rv;cases ru;obtain ⟨its,vv,pl,_⟩:=I.list (.of hl);have hn:H s.heap.objs.size=none:=I.hok.fresh (Nat.le_refl _);refine call_reversed_list pl.isList ?_;have e:((its.toArray.size:Nat):Int) - 1=(ys.length:Int) - 1:=by rw[vv.length];simp
 rw[e];refine ⟨.ref s.heap.objs.size,_,I.laid (t':=s.toks) (λb o e=>Heap.get?_push_of_some _ e) (Nat.le_refl _) ?_,rfl,q _ hn⟩;exact ⟨⟨⟨_,Heap.get?_push_size _ rfl,rfl,rfl⟩,I.sz⟩,⟨_,Heap.get?_push_size _ rfl⟩,λh1 h2 k1 k2=>⟨k1.1.at k2,k1.2⟩⟩
theorem Im (hc:X.calm=true):eV X (.type "list") (λxs H Q=>∃r l ys H0,xs=[.ref r]/\H=upd H0 r (.ext (phr X r l ys.length))/\H0 r=none/\H0 l=some (.lst ys)/\∀L,H0 L=none->Q (.ref L) (upd H0 L (.lst ys.reverse))):=by
 intro pins s σ H xs us Q I rv ⟨r,l,ys,H0,e,eH,hr,hl,q⟩;subst e;subst eH;obtain ⟨u,rfl,ru⟩:=vals1 rv;cases ru;have hlr:l≠r:=λz=>by rw[z,hr]at hl;cases hl
 obtain ⟨⟨hit,hsz⟩,_⟩:=(show cD X.prog X.w _ s.heap r (.ext (phr X r l ys.length)) from I.hok r _ aZ)
 obtain ⟨its,vv,pl,hz⟩:=I.list (xs:=ys) (.of (by rw[aN hlr];exact hl));have e:((its.toArray.size:Nat):Int) - 1=(ys.length:Int) - 1:=by rw[vv.length];simp
 rw[<-e]at hit;have hz':its.toArray.size<=sizeLine:=by rw[List.size_toArray,<-vv.length];exact hz
 refine ZT.Y5 (I.ok.hd hc) hit pl.isList hz' hlr λh' tk acc c kp at_ ita=>?_;have I0:=Y6 I hr;have hn:H0 s.heap.objs.size=none:=I0.hok.fresh (Nat.le_refl _);have ea:acc.toList=its.reverse:=by
  refine List.ext_getElem? λi=>?_;have e1:acc.size=its.length:=by have:=ita.1;simpa using this
  by_cases hi:i < its.length
  ·rw[List.getElem?_reverse hi];have h1:acc.toList[i]?=some (acc.toList[i]'(by simp;omega)):=List.getElem?_eq_getElem _;have h2:=ita.2 i _ (by rw[<-Array.getElem?_toList];exact h1);rw[h1];simpa using h2.symm
  ·rw[List.getElem?_eq_none (by simp;omega),List.getElem?_eq_none (by simp;omega)]
 have rlt:r < s.heap.objs.size:=by obtain ⟨o,e,_⟩:=hit;exact Heap.lt_size e
 have I1:Inv X pins σ (upd H0 s.heap.objs.size (.lst ys.reverse)) {s with heap:=s.heap.push {cls:=.type "list",data:=.seq acc c},toks:=tk}:=
  I0.laid (λb o e=>Heap.get?_push_of_some _ e) (Nat.le_refl _) ⟨by rw[List.length_reverse];exact hz,its.reverse,c,Vals.rev vv,by rw[<-ea,Array.toArray_toList];exact Heap.get?_push_size _ rfl⟩
 have I2:Inv X pins σ (upd H0 s.heap.objs.size (.lst ys.reverse)) {s with heap:=h',toks:=tk}:=by
  refine Inv.turned (s:={s with heap:=s.heap.push {cls:=.type "list",data:=.seq acc c},toks:=tk}) (it:=r) I1 (λb o hb e=>?_) ?_ ?_ (.inr hsz) (λx c e z=>?_) (λp hp z=>?_)
  ·by_cases hB:b=s.heap.objs.size
   ·subst hB;have e2:(s.heap.push {cls:=.type "list",data:=.seq acc c}).get? s.heap.objs.size=some {cls:=.type "list",data:=.seq acc c}:=Heap.get?_push_size _ rfl;have e3:=e2.symm.trans e;cases e3;exact at_
   ·have e2:s.heap.get? b=some o:=by rw[<-Heap.get?_push_ne _ _ _ hB];exact e
    exact kp b o hb e2
  ·rw[aN (Nat.ne_of_lt rlt)];exact hr
  ·intro z;have:=I.free;rw[<-z,aZ]at this;cases this
  ·have:=I.eU x c e;rw[z,aZ]at this;cases this
  ·have:=(I.pin p hp).2.1;rw[z,aZ]at this;cases this
 exact ⟨.ref s.heap.objs.size,_,I2,rfl,q _ hn⟩
theorem aiA {a:Expr}{a':Z.Ex}{p p2 pos pos2:Pos}(hml:X.mg "list"=none)(hmr:X.mg "reversed"=none)(ha:LA X sub Γ E [a] (.cons a' .nil))(hc:X.calm=true:=by rfl)(hgl:Gl X "list":=by rfl)(hgr:Gl X "reversed":=by rfl)
  (he:starEach [a] X.env=(false,eval a X.env)::starEach [] X.env:=by rfl) (hpl:(backTo pos2 (starEach [] X.env)).any (·.1)=false:=by rfl)
  (he2:starEach [.Call (.Name "reversed" p2) [a] [] pos2] X.env=(false,eval (.Call (.Name "reversed" p2) [a] [] pos2) X.env)::starEach [] X.env:=by rfl) (al7:(backTo pos (starEach [] X.env)).any (·.1)=false:=by rfl):
  LE X sub Γ E (.Call (.Name "list" p) [.Call (.Name "reversed" p2) [a] [] pos2] [] pos) (.prim .Ri (.cons a' .nil)):=by
 refine fX (JB (Im hc) hgl hml acp (fV (JB Y7 hgr hmr Ez ha (by decide) (by decide) he hpl) nH he2) (by decide) (by decide) he2 al7) ?_;rintro σ H Q ⟨ρ,h,τ,Q',R,L,w,k⟩;simp only[Z.aM]at w;refine ⟨ρ,h,τ,_,R,L,w,λds h1 aL H1 vs e1 R1 r1 w1=>?_⟩;change (match Z.Rm ds h1 with | some (v,h2)=>Q' v h2 | none=>False) at w1;unfold Z.Rm at w1;split at w1
 ·rename_i v h2 e;split at e
  ·rename_i n;split at e
   ·rename_i xs en;obtain ⟨hl,rfl,rfl⟩:=mC e;simp only[au]at r1;obtain ⟨y,t,rfl,r1,rfl⟩:=r1;obtain ⟨a,ys,rfl,hn,hy,rs⟩:=fK R1 r1 en;refine ⟨a,ys,rfl,hy,λr hr=>⟨r,a,ys,H1,rfl,rfl,hr,hy,λl hl'=>?_⟩⟩;obtain ⟨e3,R3,r3⟩:=h_ R1 (au.rev rs) hl';exact k _ _ _ _ _ (e1.trans e3) R3 r3 w1
   ·cases e
  ·cases e
 ·exact w1.elim
theorem c1 {P:List Value->Prop}{us:List Value}{n:Nat}(hl:us.length=n+1)(h:∀a r,r.length=n->P (a::r)):P us:=by
 cases us with
 | nil=>cases hl
 | cons a r=>exact h a r (Nat.succ.inj hl)
@[elab_as_elim] theorem by0 {P:List Value->Prop}{us:List Value}(hl:us.length=0)(h:P []):P us:=List.eq_nil_of_length_eq_zero hl ▸ h
@[elab_as_elim] theorem qN {P:List Value->Prop}{us:List Value}(hl:us.length=1)(h:∀a,P [a]):P us:=c1 hl λa _ g=>by0 g (h a)
@[elab_as_elim] theorem uV {P:List Value->Prop}{us:List Value}(hl:us.length=2)(h:∀a b,P [a,b]):P us:=c1 hl λa _ g=>qN g (h a)
@[elab_as_elim] theorem by3 {P:List Value->Prop}{us:List Value}(hl:us.length=3)(h:∀a b c,P [a,b,c]):P us:=c1 hl λa _ g=>uV g (h a)
end
end ZS
namespace ZS
open PySem PySem.Spec PyProof.Rows L2
variable [R0]
section
variable {X:Cx}{sub:Nat->Nat->Bool}{Γ:Z.b_}{E:Z.PX}
end
end ZS
namespace ZS
open PySem PySem.Spec PyProof.Rows L2
variable [R0]
section
variable {X:Cx}{sub:Nat->Nat->Bool}{Γ:Z.b_}{E:Z.PX}
noncomputable def Av (K:PySem.W.Frag) (d:Z.D) (u:Value):Prop:=∃v,RelV v u/\∀ρ H,ao K ρ H d v
noncomputable def GP (K:PySem.W.Frag):List Z.D->List Value->Prop:=Paired (Av K)
theorem Io {K:PySem.W.Frag}{n:Int}{t:Tok}:Av K (.int n) (.int n t):=⟨.int n,⟨t,rfl⟩,λ_ _=>by simp only[ao]⟩
theorem cA {K:PySem.W.Frag}{s:Str}{l:List Nat}{t:Tok}(h:s=⟨l.toArray⟩)(hl:l.length<=Z.lim):Av K (.str l) (.str s t):=
 ⟨.str s,⟨t,rfl⟩,λ_ _=>by simp only[ao];exact ⟨congrArg V.str h,hl⟩⟩
theorem JL {K:PySem.W.Frag}:∀{ds:List Z.D} {us:List Value},GP K ds us->∃vs,Vals vs us/\∀ρ H,au K ρ H ds vs
 | _,_,.nil=>⟨[],.nil,λ_ _=>by simp only[au]⟩
 | _,_,.cons (a:=d) r t=>by
  obtain ⟨v,h1,h2⟩:=r;obtain ⟨vs,h3,h4⟩:=JL t;exact ⟨v::vs,.cons h1 h3,λρ H=>by simp only[au];exact ⟨v,vs,rfl,h2 ρ H,h4 ρ H⟩⟩
theorem qy {K:PySem.W.Frag}{a:Addr}{its:Array Value}{n:Nat}{sl:Array (Option Value)}{ds:List Z.D}(hl:K.lookup a=some ⟨.type "tuple",none,.seq its n,sl⟩)(hz:its.size<=sizeLine)(hc:GP K ds its.toList):Av K (.tup ds) (.ref a):=by
 obtain ⟨vs,h1,h2⟩:=JL hc;exact ⟨.ref a,rfl,λρ H=>by simp only[ao];exact ⟨a,vs,rfl,.inr ⟨_,its,n,hl,rfl,rfl,rfl,hz,h1⟩,h2 ρ H⟩⟩
theorem zgl {x:Str}{d:Z.D}{u:Value}{pos:Pos}(hm:X.mg x=some u)(hc:Av X.K d u)(hg:Gl X x:=by rfl)(hd:(x == ("__debug__":Str))=false:=by decide):LE X sub Γ E (.Name x pos) (.lit d):=by
 obtain ⟨v,h1,h2⟩:=hc;exact Ah (Dt hg hm h1 hd) h2
noncomputable def afa (w:World) (p:Str×Tok×Value):DictEntry:=⟨PyData.keyHash w.params p.1,.str p.1 p.2.1,p.2.2⟩
noncomputable def E_ (p:Str×Tok×Value):Key×Value:=(.inr p.1,p.2.2)
theorem JM {P:Program}{w:World}:∀gG:List (Str×Tok×Value),PySem.Pairs (dz P w) (gG.map (afa w)) (gG.map E_)
 | []=>.nil
 | p::l=>.cons (uz P w _ _) rfl (JM l)
structure TabAt (K:PySem.W.Frag)(w:World)(a:Addr)(t:List (Z.S×Z.D)):Prop where
 sm:(a == sysModules)=false
 dd:∃gG:List (Str×Tok×Value),(∀(P:Program) (h:Heap),K.In h->h.DictOf (dz P w) a (gG.map E_))/\gG.map (·.1)=t.map (λp=>(⟨p.1.toArray⟩:Str))/\GP K (t.map (·.2)) (gG.map (·.2.2))
theorem afb {K:PySem.W.Frag}{w:World}{a:Addr}{es:Array DictEntry}{n:Nat}{t:List (Z.S×Z.D)}(gG:List (Str×Tok×Value))(hl:K.lookup a=some ⟨.type "dict",none,.dict es n,#[]⟩)(he:es.toList=gG.map (afa w))(sm:(a == sysModules)=false)
  (hn:(gG.map (·.1)).Nodup) (hk:gG.map (·.1)=t.map (λp=>(⟨p.1.toArray⟩:Str))) (hc:GP K (t.map (·.2)) (gG.map (·.2.2))):TabAt K w a t:=by
 refine ⟨sm,gG,λP h Y=>⟨_,es,n,Y a _ hl,⟨rfl,rfl,rfl⟩,rfl,?_,?_,?_⟩,hk,hc⟩
 ·intro e he';have q:e∈es.toList:=Array.mem_toList_iff.mpr he';rw[he]at q;obtain ⟨p,_,rfl⟩:=List.mem_map.mp q;exact ⟨.inr p.1,uz P w _ _,rfl⟩
 ·rw[he];exact JM gG
 ·rw[List.map_map];have:((λx:Key×Value=>x.1) ∘ E_)=(λx:Str=>(Sum.inr x:Key)) ∘ (λp:Str×Tok×Value=>p.1):=rfl;rw[this,<-List.map_map];exact List.Pairwise.map _ (λa b h z=>h (Sum.inr.inj z)) hn
theorem FT {K:PySem.W.Frag}{k:Z.S}:∀{t:List (Z.S×Z.D)} {gG:List (Str×Tok×Value)},gG.map (·.1)=t.map (λp=>(⟨p.1.toArray⟩:Str))->GP K (t.map (·.2)) (gG.map (·.2.2))->
  match t.lookup k with
  | some d=>∃u,valueAt (gG.map E_) (.inr ⟨k.toArray⟩)=some u/\Av K d u
  | none=>valueAt (gG.map E_) (.inr ⟨k.toArray⟩)=none
 | [],[],_,_=>by simp[valueAt]
 | [],_::_,h,_=>by simp at h
 | _::_,[],h,_=>by simp at h
 | (a,d)::t,(x,tk,u)::gG,h,hc=>by
  simp only[List.map_cons,List.cons.injEq]at h hc;cases hc with
  | cons r rs=>
   obtain ⟨hx,h⟩:=h;subst hx;have ih:=FT (k:=k) h rs;by_cases e:k=a
   ·subst e;have:List.lookup k ((k,d)::t)=some d:=by simp[List.lookup]
    rw[this];exact ⟨u,by simp[valueAt,E_],r⟩
   ·have e1:List.lookup k ((a,d)::t)=List.lookup k t:=by
     rw[List.lookup_cons];have:(k == a)=false:=beq_eq_false_iff_ne.mpr e;rw[this]
    have e2:valueAt (((⟨a.toArray⟩:Str),tk,u)::gG |>.map E_) (.inr ⟨k.toArray⟩)=valueAt (gG.map E_) (.inr ⟨k.toArray⟩):=by
     have:¬((Sum.inr ⟨a.toArray⟩:Key)=Sum.inr ⟨k.toArray⟩):=λz=>by
      injection z with z
      injection z with z
      exact e (by have:=congrArg Array.toList z;simpa using this.symm)
     simp only[valueAt,E_,List.map_cons,List.find?_cons,decide_eq_false this]
    rw[e1];rw[e2];exact ih
theorem afc {a:Addr}{t:List (Z.S×Z.D)}{k:Z.S}{pins:List (Addr×Obj)}{s:Shared}{σ:L2.St}{H:Hp}{u:Value}{A:Around}{E:Value->Shared->Prop}{Q:Value->Shared->Prop}(T:TabAt X.K X.w a t)(I:Inv X pins σ H s)(ru:RelV (.str ⟨k.toArray⟩) u)
  (h:∀s',Inv X pins σ H s'->Q (.bool (t.lookup k).isSome) s'):wpAny (model X.prog X.w) A (compareOp .In u (.ref a)) Q E s:=by
 obtain ⟨sm,gG,dd,h1,h2⟩:=T;have q:=FT (k:=k) h1 h2;refine wpAny_in_of (wk (k:=.inr ⟨k.toArray⟩) ru) sm (dd X.prog s.heap I.cZ).mapOf ?_;have e:(valueAt (gG.map E_) (.inr ⟨k.toArray⟩)).isSome=(t.lookup k).isSome:=by
  cases ek:t.lookup k with
  | none=>rw[ek]at q;rw[q];rfl
  | some d=>rw[ek]at q;obtain ⟨u,q,_⟩:=q;rw[q];rfl
 rw[e];exact h _ (I.tok _)
theorem acw {a:Addr}{t:List (Z.S×Z.D)}{k:Z.S}{d:Z.D}{pins:List (Addr×Obj)}{s:Shared}{σ:L2.St}{H:Hp}{u:Value}{A:Around}{E:Value->Shared->Prop}{Q:Value->Shared->Prop}(T:TabAt X.K X.w a t)(I:Inv X pins σ H s)(ru:RelV (.str ⟨k.toArray⟩) u)(hd:t.lookup k=some d)
  (h:∀v w' s',Inv X pins σ H s'->RelV v w'->(∀ρ H,ao X.K ρ H d v)->Q w' s'):wpAny (model X.prog X.w) A (getItem (.ref a) u) Q E s:=by
 obtain ⟨sm,gG,dd,h1,h2⟩:=T;have q:=FT (k:=k) h1 h2;rw[hd]at q;obtain ⟨w',e,v,rv,rd⟩:=q;exact wpAny_getItem_of (wk (k:=.inr ⟨k.toArray⟩) ru) (dd X.prog s.heap I.cZ).mapOf e (h v w' _ (I.tok _) rv rd)
theorem al8 {x:Str}{a:Addr}{t:List (Z.S×Z.D)}{e:Expr}{e':Z.Ex}{pos pos':Pos}(hm:X.mg x=some (.ref a))(T:TabAt X.K X.w a t)(he:LE X sub Γ E e e')(hg:Gl X x:=by rfl)(hd:(x == ("__debug__":Str))=false:=by decide):
  LE X sub Γ E (.Compare e [.In] [.Name x pos'] pos) (.prim (.sy t) (.cons e' .nil)):=by
 have ho:bT X (compareOp .In) (λy z=>λH Q=>z=.ref a/\rP X.K sub (.sy t) [y] H Q):=by
  rintro pins s σ H y z v u Q I ry rz ⟨rfl,ρ,h,ds,d,h',R,rs,hp,k⟩;cases rz;obtain ⟨d1,rfl,r1⟩:=wz rs;cases d1 with
  | str c=>
   simp only[Z.qI,Z.Lb,Option.some.injEq,Prod.mk.injEq]at hp;obtain ⟨rfl,rfl⟩:=hp;simp only[ao]at r1;obtain ⟨rfl,_⟩:=r1;exact afc T I ry λs' I'=>⟨.bl _,H,I',rfl,k ρ H _ .refl R (by simp only[ao])⟩
  | _=>simp[Z.qI,Z.Lb]at hp
 refine fX (HY ho he (Dt (v:=.ref a) hg hm rfl hd) (by rfl)) ?_;rintro σ H Q ⟨ρ,h,τ,Q',R,L,w,k⟩;simp only[Z.aM,Z.bH]at w;refine ⟨ρ,h,τ,_,R,L,w,λd1 h1 aL H1 x e1 R1 r1 w1=>?_⟩;cases q:Z.prim sub (.sy t) [d1] h1 with
 | none=>rw[q]at w1;exact w1.elim
 | some z=>
  rw[q]at w1;exact ⟨rfl,aL,h1,[d1],z.1,z.2,R1,.one r1,q,λρ' H' v e' R' r'=>k _ _ ρ' H' v (e1.trans e') R' r' w1⟩
theorem aiB {x:Str}{a:Addr}{t:List (Z.S×Z.D)}{e:Expr}{e':Z.Ex}{pos pos':Pos}(hm:X.mg x=some (.ref a))(T:TabAt X.K X.w a t)(he:LE X sub Γ E e e')(hg:Gl X x:=by rfl)(hd:(x == ("__debug__":Str))=false:=by decide)(hs:uN e:=by intro _ _;rfl):
  LE X sub Γ E (.Subscript (.Name x pos') e pos) (.prim (.ux t) (.cons e' .nil)):=by
 have ho:uO X (λz y=>λH Q=>z=.ref a/\rP X.K sub (.ux t) [y] H Q):=by
  rintro ve se pins s σ H z y u v Q I rz ry ⟨rfl,ρ,h,ds,d,h',R,rs,hp,k⟩ hs;cases rz;obtain ⟨d1,rfl,r1⟩:=wz rs;cases d1 with
  | str c=>
   simp only[Z.PJ,Z.KC]at hp;cases ec:t.lookup c with
   | none=>rw[ec]at hp;cases hp
   | some dv=>
    rw[ec]at hp;simp only[Option.map_some,Option.some.injEq,Prod.mk.injEq]at hp;obtain ⟨rfl,rfl⟩:=hp;simp only[ao]at r1;obtain ⟨rfl,_⟩:=r1;have ty:s.TypeIs (.ref a) "dict":=by
     obtain ⟨_,gG,dd,_,_⟩:=T;obtain ⟨o,es,ep,h1,h2,_⟩:=dd X.prog s.heap I.cZ;exact ⟨o,h1,h2.1⟩
    exact tail_any ty PySem.F.slot_dict_getitem.lookup (acw T I ry ec λw w' s' I' Ac rd=>⟨w,H,I',Ac,k ρ H _ .refl R (rd ρ H)⟩) hs
  | _=>simp[Z.PJ,Z.KC]at hp
 refine fX (aaO ho (Dt (v:=.ref a) hg hm rfl hd) he hs) ?_;rintro σ H Q ⟨ρ,h,τ,Q',R,L,w,k⟩;simp only[Z.aM,Z.bH]at w;refine ⟨ρ,h,τ,_,R,L,w,λd1 h1 aL H1 x e1 R1 r1 w1=>?_⟩;cases q:Z.prim sub (.ux t) [d1] h1 with
 | none=>rw[q]at w1;exact w1.elim
 | some z=>
  rw[q]at w1;exact ⟨rfl,aL,h1,[d1],z.1,z.2,R1,.one r1,q,λρ' H' v e' R' r'=>k _ _ ρ' H' v (e1.trans e') R' r' w1⟩
end
end ZS
namespace ZS
open PySem PySem.Spec PyProof.Rows L2
variable [R0]
section
variable {X:Cx}{sub:Nat->Nat->Bool}{Γ:Z.b_}{E:Z.PX}
theorem afd (i:Nat){x:Str}{e:Expr}{e':Z.Ex}{pos pos':Pos}(hN:X.N.Nodup)(he:LE X sub Γ E e e')(hi:X.N[i]?=some x:=by rfl)(hx:Loc X.env.scope x:=by first | exact Or.inl rfl | exact Or.inr rfl)
  (hf:X.fn x=true\/X.env.scope.names.lookup x=some .local:=by first | exact .inl rfl | exact .inr rfl):LS X sub Γ E (.AugAssign (.Name x pos') .Add e pos) (.asg i (.prim .sub (.cons (.var i) (.cons (.prim .neg (.cons e' .nil)) .nil)))):=by
 refine Gv (ad6 hN hi hx he ad7 hf) ?_;rintro D σ H ⟨ρ,h,τ,N,R,L,w,k⟩;simp only[Z.wpS,Z.aM,Z.bH]at w;cases q:τ[i]? with
 | none=>rw[q]at w;exact w.elim
 | some o=>
  cases o with
  | none=>rw[q]at w;exact w.elim
  | some d=>
   rw[q]at w;obtain ⟨v,ev,r⟩:=L.2 i d q;refine ⟨v,ev,ρ,h,τ,_,R,L,w,λd1 h1 aL H1 y e1 R1 r1 w1=>?_⟩;cases d1 with
   | int j=>
    cases d with
    | int n=>
     simp only[Z.Lf,Z.Lh,Z.Lg,Z.Fi,Z.mX]at w1;simp only[ao]at r r1;exact ⟨n,j,r,r1,k.nx _ h1 aL H1 _ e1 R1 ((L.mono e1).set (by simp only[ao];rw[Int.sub_neg])) w1⟩
    | _=>simp[Z.Lf,Z.Lh,Z.Lg,Z.Fi,Z.mX]at w1
   | _=>simp[Z.Lf,Z.Lh,Z.Lg,Z.Fi]at w1
end
end ZS
namespace ZS
open PySem PySem.Spec PyProof.Rows L2
variable [R0]
section
variable {X:Cx}{sub:Nat->Nat->Bool}{Γ:Z.b_}{E:Z.PX}
theorem pre_take (p l:List Nat):p.isPrefixOf l=decide (l.take p.length=p):=by
 rw[Bool.eq_iff_iff,decide_eq_true_iff,List.isPrefixOf_iff_prefix,List.prefix_iff_eq_take];exact eq_comm
theorem MJ (s p:List Nat)(i:Nat):Builtin.Str.subAt ⟨s.toArray⟩ ⟨p.toArray⟩ i=p.isPrefixOf (s.drop i):=by
 rw[pre_take];unfold Builtin.Str.subAt;have e:(s.toArray.extract i (i+(⟨p.toArray⟩:Str).length))=((s.drop i).take p.length).toArray:=by
  apply Array.ext';have hl:(⟨p.toArray⟩:Str).length=p.length:=by simp[Str.length]
  rw[hl];simp only[Array.toList_extract,List.extract_eq_drop_take];rw[Nat.add_sub_cancel_left]
 show (s.toArray.extract i (i+(⟨p.toArray⟩:Str).length) == p.toArray)=_;rw[e,Bool.eq_iff_iff,beq_iff_eq,decide_eq_true_iff];exact ⟨λh=>by have:=congrArg Array.toList h;simpa using this,λh=>by rw[h]⟩
theorem JN (s p:List Nat)(i:Int)(h0:0<=i)(h1:i<=s.length):Txt.startswith3 ⟨s.toArray⟩ ⟨p.toArray⟩ i=p.isPrefixOf (s.drop i.toNat):=by
 have e:fromIndex (⟨s.toArray⟩:Str).length i=i.toNat:=by
  unfold fromIndex;rw[if_neg (by omega)];omega
 unfold Txt.startswith3;rw[e,MJ];cases q:p.isPrefixOf (s.drop i.toNat) with
 | false=>rw[Bool.and_false]
 | true=>
  rw[Bool.and_true];have:=(List.isPrefixOf_iff_prefix.mp q).length_le;rw[List.length_drop]at this;exact decide_eq_true (by show i.toNat+p.toArray.size<=s.toArray.size;simp;omega)
theorem R9 (s p:List Nat):Txt.startswith ⟨s.toArray⟩ ⟨p.toArray⟩=p.isPrefixOf s:=by
 have:=JN s p 0 (by omega) (by omega);unfold Txt.startswith3 at this;unfold Txt.startswith;simpa [fromIndex] using this
theorem jq (c:Nat):∀s:List Nat,Z.lstrip c s=s.drop (s.takeWhile λx=>x == c).length
 | []=>rfl
 | x::xs=>by
  simp only[Z.lstrip,List.takeWhile_cons];by_cases e:x=c
  ·subst e;rw[if_pos rfl,if_pos (by simp),jq x xs];rfl
  ·rw[if_neg e,if_neg (by simpa using e)];rfl
theorem Y8 (s:List Nat)(c:Nat):Txt.stripChars ⟨s.toArray⟩ ⟨#[c]⟩=⟨(Z.strip c s).toArray⟩:=by
 have g:(⟨#[c]⟩:Str).cps.contains=λx=>x == c:=by
  funext x;show Array.contains #[c] x=_;rw[Bool.eq_iff_iff];simp
 unfold Txt.stripChars;rw[PySem.W.stripBy_eq,g];unfold PySem.W.stripped Z.strip;simp only[if_true];rw[jq c (Z.lstrip c s).reverse,jq c s];show Builtin.Str.strSub _ _ _=_;unfold Builtin.Str.strSub;congr 1;apply Array.ext';have hl:(⟨s.toArray⟩:Str).length=s.length:=by simp[Str.length]
 rw[hl];simp only[Array.toList_extract,List.extract_eq_drop_take];rw[List.drop_reverse,List.reverse_reverse,List.length_drop];congr 1;omega
theorem WL:uP X "str.startswith" (λx xs=>rP X.K sub .uG (x::xs)):=by
 rintro pins s σ H x xs v us Q I rx rxs ⟨ρ,h,ds,d,h',R,rs,hp,k⟩;cases ds with
 | nil=>simp[au]at rs
 | cons d0 ds=>
  simp only[au,List.cons.injEq]at rs;obtain ⟨_,_,⟨rfl,rfl⟩,r0,rs⟩:=rs;cases d0 with
  | str a=>
   simp only[ao]at r0;obtain ⟨rfl,ha⟩:=r0;obtain ⟨t,rfl⟩:=rx;cases ds with
   | nil=>simp[Z.gw,Z.gA,Z.fP]at hp
   | cons d1 ds=>
    simp only[au]at rs;obtain ⟨y,r,rfl,r1,rs⟩:=rs;cases d1 with
    | str b=>
     simp only[ao]at r1;obtain ⟨rfl,hb⟩:=r1;cases ds with
     | nil=>
      simp only[au]at rs;subst rs;cases rxs with
      | cons q1 q2=>
       cases q2;obtain ⟨t1,rfl⟩:=q1;simp only[Z.gw,Z.gA,Z.fP,Option.some.injEq,Prod.mk.injEq]at hp;obtain ⟨rfl,rfl⟩:=hp;exact SC.startswith ⟨.bl _,H,I,rfl,k ρ H _ .refl R (by simp only[ao];rw[R9])⟩
     | cons d2 ds=>
      simp only[au]at rs;obtain ⟨z,r,rfl,r2,rs⟩:=rs;cases d2 with
      | int i=>
       cases ds with
       | nil=>
        simp only[au]at rs;subst rs;simp only[ao]at r2;subst r2;cases rxs with
        | cons q1 q2=>
         cases q2 with
         | cons q2 q3=>
          cases q3;obtain ⟨t1,rfl⟩:=q1;obtain ⟨t2,rfl⟩:=q2;simp only[Z.gw,Z.gA,Z.fP]at hp;split at hp
          ·rename_i c;simp only[Option.some.injEq,Prod.mk.injEq]at hp;obtain ⟨rfl,rfl⟩:=hp;exact SC.startswith3 ⟨.bl _,H,I,rfl,k ρ H _ .refl R (by simp only[ao];rw[JN _ _ _ c.1 c.2])⟩
          ·cases hp
       | cons _ _=>simp[Z.gw,Z.gA,Z.fP]at hp
      | _=>simp[Z.gw,Z.gA,Z.fP]at hp
    | _=>simp[Z.gw,Z.gA,Z.fP]at hp
  | _=>simp[Z.gw,Z.gA,Z.fP]at hp
theorem WM (c:Nat)(s:List Nat):(Z.strip c s).length<=s.length:=by
 unfold Z.strip;rw[jq,jq];simp only[List.length_reverse,List.length_drop];omega
theorem m_strip:uP X "str.strip" (λx xs=>rP X.K sub .strip (x::xs)):=by
 rintro pins s σ H x xs v us Q I rx rxs ⟨ρ,h,ds,d,h',R,rs,hp,k⟩;cases ds with
 | nil=>simp[au]at rs
 | cons d0 ds=>
  simp only[au,List.cons.injEq]at rs;obtain ⟨_,_,⟨rfl,rfl⟩,r0,rs⟩:=rs;cases d0 with
  | str a=>
   simp only[ao]at r0;obtain ⟨rfl,ha⟩:=r0;obtain ⟨t,rfl⟩:=rx;cases ds with
   | nil=>simp[Z.jL,Z.kE]at hp
   | cons d1 ds=>
    simp only[au]at rs;obtain ⟨y,r,rfl,r1,rs⟩:=rs;cases d1 with
    | str b=>
     simp only[ao]at r1;obtain ⟨rfl,hb⟩:=r1;cases b with
     | nil=>simp[Z.jL,Z.kE]at hp
     | cons c b=>
      cases b with
      | cons _ _=>simp[Z.jL,Z.kE]at hp
      | nil=>
       cases ds with
       | cons _ _=>simp[Z.jL,Z.kE]at hp
       | nil=>
        simp only[au]at rs;subst rs;cases rxs with
        | cons q1 q2=>
         cases q2;obtain ⟨t1,rfl⟩:=q1;simp only[Z.jL,Z.kE,Option.some.injEq,Prod.mk.injEq]at hp;obtain ⟨rfl,rfl⟩:=hp;have hz:(⟨a.toArray⟩:Str).length<=sizeLine:=by
          rw[sizeLine_eq];simpa [Str.length,Z.lim] using ha
         refine SC.stripChars (λt' n=>?_) hz;have e:=Y8 a c;exact ⟨.str ⟨(Z.strip c a).toArray⟩,H,I.tok n,⟨t',by rw[<-e]⟩,k ρ H _ .refl R (by simp only[ao];exact ⟨trivial,Nat.le_trans (WM c a) ha⟩)⟩
    | _=>simp[Z.jL,Z.kE]at hp
  | _=>simp[Z.jL,Z.kE]at hp
end
end ZS
namespace ZS
open PySem PySem.Spec PyProof.Rows L2
variable [R0]
section
variable {X:Cx}{sub:Nat->Nat->Bool}{Γ:Z.b_}{E:Z.PX}
noncomputable def jn (acc:Z.Ex):List Z.Ex->Z.Ex
 | []=>acc
 | e::es=>jn (.prim .add (.cons acc (.cons e .nil))) es
end
end ZS
namespace ZS
open PySem PySem.Spec PyProof.Rows L2
variable [R0]
section
variable {X:Cx}{sub:Nat->Nat->Bool}{Γ:Z.b_}{E:Z.PX}
theorem JQ (x:List Nat):∀y:List Nat,Z.jx x y=true↔∃i,i<=y.length/\x.isPrefixOf (y.drop i)=true
 | []=>by
  simp only[Z.jx,List.drop_nil];constructor
  ·intro h;refine ⟨0,Nat.le_refl _,?_⟩;cases x<;>simp_all [List.isPrefixOf]
  ·rintro ⟨i,_,h⟩;cases x<;>simp_all [List.isPrefixOf]
 | c::r=>by
  simp only[Z.jx,Bool.or_eq_true,JQ x r];constructor
  ·rintro (h | ⟨i,h1,h2⟩)
   ·exact ⟨0,Nat.zero_le _,h⟩
   ·exact ⟨i+1,by simpa using h1,h2⟩
  ·rintro ⟨i,h1,h2⟩;cases i with
   | zero=>exact .inl h2
   | succ i=>exact .inr ⟨i,by simpa using h1,h2⟩
theorem Qt (x y:List Nat):(!(Builtin.Str.occurrences ⟨y.toArray⟩ ⟨x.toArray⟩ 0 (⟨y.toArray⟩:Str).length 1).isEmpty)=Z.jx x y:=by
 rw[Bool.eq_iff_iff,StrLaws.found_iff,JQ];have e1:(⟨y.toArray⟩:Str).length=y.length:=by simp[Str.length]
 have e2:(⟨x.toArray⟩:Str).length=x.length:=by simp[Str.length]
 rw[e1,e2];constructor
 ·rintro ⟨i,h1,h2⟩;rw[MJ]at h2;exact ⟨i,by omega,h2⟩
 ·rintro ⟨i,h1,h2⟩;have:=(List.isPrefixOf_iff_prefix.mp h2).length_le;rw[List.length_drop]at this;exact ⟨i,by omega,by rw[MJ];exact h2⟩
theorem aa5:bT X (compareOp .In) (λx y=>rP X.K sub .Jr [x,y]):=uE V3 (by
 rintro x y H Q ⟨ρ,h,ds,d,h',R,rs,hp,k⟩;obtain ⟨d1,d2,rfl,r1,r2⟩:=gQ rs;cases d1 with
 | str a=>
  cases d2 with
  | str b=>
   simp only[Z.zY,Z.qI,Z.HX,Option.some.injEq,Prod.mk.injEq]at hp;obtain ⟨rfl,rfl⟩:=hp;simp only[ao]at r1 r2;obtain ⟨rfl,_⟩:=r1;obtain ⟨rfl,_⟩:=r2;exact ⟨_,_,rfl,rfl,k ρ H _ .refl R (by simp only[ao];rw[Qt])⟩
  | _=>simp[Z.zY,Z.qI,Z.HX]at hp
 | _=>simp[Z.zY,Z.qI,Z.HX]at hp)
theorem Qu {p:Z.Prim}(hp:p=.Jr\/∃t,p=.sy t):∀ds h d h',Z.prim sub p ds h=some (d,h')->∃c,d=.bl c:=by
 intro ds h d h' q;rcases hp with rfl | ⟨t,rfl⟩
 ·simp only[Z.zY,Z.qI]at q;unfold Z.HX at q;split at q
  ·simp only[Option.some.injEq,Prod.mk.injEq]at q;exact ⟨_,q.1.symm⟩
  ·cases q
 ·simp only[Z.zY,Z.qI]at q;unfold Z.Lb at q;split at q
  ·simp only[Option.some.injEq,Prod.mk.injEq]at q;exact ⟨_,q.1.symm⟩
  ·cases q
end
end ZS
namespace ZS
open PySem PySem.Spec PyProof.Rows L2
variable [R0]
structure FW (K:PySem.W.Frag)(x qual:Str)(st:Stmt)(f T:Addr)(fd:FuncData):Prop where
 ex:∃(oc:Value) (od:Option Addr) (kV doc pm:Value) (an:Option Addr) (cdv ct:Value) (osl:Array (Option Value)),
  fd=PySem.W.fnOf x qual (bh st) (aW st) (aG st) (.ref T) kV doc pm an cdv ct/\K.lookup f=some ⟨oc,od,.func fd,osl⟩/\PySem.W.codeIn K cdv qual=true
 kp:PySem.W.keepIn K (.ref f)=true
theorem acy {K:PySem.W.Frag}{x qual:Str}{st:Stmt}{f T:Addr}{oc:Value}{od an:Option Addr}{osl:Array (Option Value)}{kV doc pm cdv ct:Value}(l:K.lookup f=some ⟨oc,od,.func (PySem.W.fnOf x qual (bh st) (aW st) (aG st) (.ref T) kV doc pm an cdv ct),osl⟩)
  (c:PySem.W.codeIn K cdv qual=true) (k:PySem.W.keepIn K (.ref f)=true):FW K x qual st f T (PySem.W.fnOf x qual (bh st) (aW st) (aG st) (.ref T) kV doc pm an cdv ct):=⟨⟨oc,od,kV,doc,pm,an,cdv,ct,osl,rfl,l,c⟩,k⟩
theorem FW.binds {K:PySem.W.Frag}{x qual:Str}{st:Stmt}{f T:Addr}{fd:FuncData}{ps:List Str}{ds:List Value}{oc:Value}{od:Option Addr}{its:Array Value}{n:Nat}{sl:Array (Option Value)}(F:FW K x qual st f T fd)(hT:K.lookup T=some ⟨oc,od,.seq its n,sl⟩)
  (h:∀(kV doc pm:Value) (an:Option Addr) (cdv ct:Value) (us:List Value),(us++ds).length=ps.length->∃k,bindArgs (PySem.W.fnOf x qual (bh st) (aW st) (aG st) (.ref T) kV doc pm an cdv ct) ⟨us,[]⟩=(seqItems? (.ref T) >>= k)/\k (some its)=pure (ps.zip (us++ds))):Binds K fd ps ds:=by
 obtain ⟨oc,od,kV,doc,pm,an,cdv,ct,osl,rfl,lk,hcd⟩:=F.ex;intro s us Y hl;obtain ⟨k,e1,e2⟩:=h kV doc pm an cdv ct us hl;exact .of_defaults rfl (Y T _ hT) rfl e1 e2
end ZS
namespace ZS
open PySem PySem.Spec PyProof.Rows L2
variable [R0]
noncomputable def MN (K:PySem.W.Frag) (mg:Str->Option Value) (x:Str) (d:Z.D):Prop:=∃u,mg x=some u/\Av K d u
noncomputable def GlT (K:PySem.W.Frag) (w:World) (mg:Str->Option Value) (x:Str) (t:List (Z.S×Z.D)):Prop:=∃a,mg x=some (.ref a)/\TabAt K w a t
noncomputable def FnD (K:PySem.W.Frag) (x:Str) (st:Stmt) (f:Addr) (fd:FuncData):Prop:=∃T,FW K x x st f T fd
noncomputable def BnD (K:PySem.W.Frag) (fd:FuncData) (ps:List Str) (d:Z.D):Prop:=∃u,Binds K fd ps [u]/\Av K d u
section
variable {X:Cx}{sub:Nat->Nat->Bool}{Γ:Z.b_}{E:Z.PX}
theorem MP {x:Str}{d:Z.D}{pos:Pos}(h:MN X.K X.mg x d)(hg:Gl X x:=by rfl)(hd:(x == ("__debug__":Str))=false:=by decide):LE X sub Γ E (.Name x pos) (.lit d):=by
 obtain ⟨u,hm,hc⟩:=h;exact zgl hm hc hg hd
theorem al9 {x:Str}{t:List (Z.S×Z.D)}{e:Expr}{e':Z.Ex}{pos pos':Pos}(h:GlT X.K X.w X.mg x t)(he:LE X sub Γ E e e')(hg:Gl X x:=by rfl)(hd:(x == ("__debug__":Str))=false:=by decide):
  LE X sub Γ E (.Compare e [.In] [.Name x pos'] pos) (.prim (.sy t) (.cons e' .nil)):=by
 obtain ⟨a,hm,T⟩:=h;exact al8 hm T he hg hd
theorem aiC {x:Str}{t:List (Z.S×Z.D)}{e:Expr}{e':Z.Ex}{pos pos':Pos}(h:GlT X.K X.w X.mg x t)(he:LE X sub Γ E e e')(hg:Gl X x:=by rfl)(hd:(x == ("__debug__":Str))=false:=by decide)(hs:uN e:=by intro _ _;rfl):
  LE X sub Γ E (.Subscript (.Name x pos') e pos) (.prim (.ux t) (.cons e' .nil)):=by
 obtain ⟨a,hm,T⟩:=h;exact aiB hm T he hg hd hs
end
end ZS
namespace ZS
open PySem PySem.Spec PyProof.Rows L2
noncomputable def qO (K:PySem.W.Frag) (C:Addr):Bool:=match K.lookup C with
 | some ⟨.type "type",_,.cls cd,sl⟩=>(match cd.mro,sl.toList with
  | .ref C'::bm,[_,_,_,_,some (.builtin n),_]=>C' == C && (n == "ValueError.__new__" && (!cd.hasDel && (bm.contains (.type "ValueError") && (bm.contains (.type "BaseException") && (!bm.contains (.type "AttributeError") && (!bm.contains (.type "NameError") && cd.hasDict))))))
  | _,_=>false)
 | _=>false
structure Y9 (bm:List Value):Prop where
 v:bm.contains (.type "ValueError")=true
 b:bm.contains (.type "BaseException")=true
 a:bm.contains (.type "AttributeError")=false
 n:bm.contains (.type "NameError")=false
theorem Aw {K:PySem.W.Frag}{h:Heap}{C:Addr}(X:K.In h)(q:qO K C=true):∃bm N nm qn bs sn sub ab col dd k0 k1 k2 k3 k5,
  h.get? C=some (excClassObj nm qn C N bs bm true sn sub ab col dd k0 k1 k2 k3 k5 "ValueError.__new__")/\Y9 bm:=by
 unfold qO at q;split at q
 ·rename_i dd cd sl ho;split at q
  ·rename_i C' bm k0 k1 k2 k3 n k5 hm hs;simp only[Bool.and_eq_true,beq_iff_eq,Bool.not_eq_true']at q;obtain ⟨rfl,rfl,hdel,q1,q2,q3,q4,hdi⟩:=q;obtain ⟨nm,bs,mro,ns,qn,hd,sn,sub,ab,col,del⟩:=cd;dsimp only at hm hdel hdi;subst hm hdel hdi;have hsl:sl=#[k0,k1,k2,k3,some (.builtin "ValueError.__new__"),k5]:=by
    obtain ⟨l⟩:=sl;simp only at hs;rw[hs]
   subst hsl;exact ⟨bm,ns,nm,qn,bs,sn,sub,ab,col,dd,k0,k1,k2,k3,k5,X _ _ ho,⟨q1,q2,q3,q4⟩⟩
  ·cases q
 ·cases q
section
variable {prog:Program}{w:World}{A:Around}{E:Value->Shared->Prop}{h:Heap}{g:Array GenState}{d:Drawn}{t:Nat}{os:OsState}{R:Result->Shared->Prop}
variable {nm q:Str}{C N:Addr}{bs bm:List Value}{hdct:Bool}{sn:List Str}{sub:List Value}{ab:Bool}{col:Option Bool}{dd:Option Addr}{k0 k1 k2 k3 k5:Option Value}
noncomputable abbrev FV:=PySem.F.excBase_ValueError
theorem acz {M:Model}{us:List Value}{Q:Unit->Shared->Prop}(hC:h.get? C=some (excClassObj nm q C N bs bm hdct sn sub ab col dd k0 k1 k2 k3 k5 "ValueError.__new__"))(ok:Y9 bm)
  (hq:Q () ⟨h,g,d,t,os⟩):wpAny M A (checkBuiltinCall "ValueError.__new__" ⟨.ref C::us,[]⟩) Q E ⟨h,g,d,t,os⟩:=by
 have hin:(Value.ref C::bm).contains (.type "ValueError")=true:=by rw[List.contains_cons,ok.v,Bool.or_true]
 have hst:=FV.noStar;simp only[checkBuiltinCall,FV.newKind,FV.newSplit,FV.newRow]
 repeat (first | refine wpAny_loadPart_at hC ?_ | (refine wpAny_isSubtype_exc hC ?_;rw[hin]) | refine wpAny_staticBase_exc hC ?_ | refine wpAny_madeBy_exc hC ?_ | simp only[bne_self_eq_false,Bool.false_eq_true,if_false] | wp_step)
 exact hq
noncomputable abbrev qz (h:Heap) (C:Addr) (us:List Value):Heap:=(h.push {cls:=.type "tuple",data:=.seq us.toArray}).push {cls:=.ref C,data:=.fields #[.ref h.objs.size,.none,.none,.none,.bool false,.none]}
theorem acA {us:List Value}(hC:h.get? C=some (excClassObj nm q C N bs bm hdct sn sub ab col dd k0 k1 k2 k3 k5 "ValueError.__new__"))(ok:Y9 bm)
  (hq:R (.ok (.ret (.ref (h.objs.size+1)))) ⟨qz h C us,g,d,t,os⟩) (hl:us.length<=sizeLine):
  codeAny (model prog w) A (.builtin "ValueError.__new__" ⟨.ref C::us,[]⟩) R ⟨h,g,d,t,os⟩:=by
 have hen:=FV.ends;have c1:(Value.ref C::bm).contains (.type "ValueError")=true:=by rw[List.contains_cons,ok.v,Bool.or_true]
 have c2:(Value.ref C::bm).contains (.type "AttributeError")=false:=by rw[List.contains_cons,ok.a];rfl
 have c3:(Value.ref C::bm).contains (.type "NameError")=false:=by rw[List.contains_cons,ok.n];rfl
 refine codeAny_builtinAt FV.entry ?_;unfold Builtin.«BaseException.__new__»;refine PySem.wpAt_bind ?_;show PySem.wpAt _ _ _ (stack >>= _) _ _ _;refine PySem.wpAt_bind (PySem.wpAt_stack λp below=>PySem.wpAt_of_wpAny ?_)
 wp_walk
 refine PySem.wpAt_of_wpAny ?_;rw[FV.owner]
 repeat (first | with_reducible refine wpAny_madeHere_exc FV.canon hC ?_ | with_reducible refine wpAny_loadPart_at hC ?_ | (with_reducible refine wpAny_isSubtype_exc hC ?_;first | rw[c1] | rw[c2] | rw[c3]) | wp_step)
 show R _ _;rw[Heap.size_push];exact hq
theorem GQ {us:List Value}:(qz h C us).get? (h.objs.size+1)=some {cls:=.ref C,data:=.fields #[.ref h.objs.size,.none,.none,.none,.bool false,.none]}:=by heap_get
theorem qP {us:List Value}{b:Addr}{o:Obj}(e:h.get? b=some o):(qz h C us).get? b=some o:=Heap.get?_push_of_some _ (Heap.get?_push_of_some _ e)
theorem WQ {K:PySem.W.Frag}{us:List Value}{fI:Addr}{oI:Obj}{Q:Value->Shared->Prop}(X:K.In h)(hs:qO K C=true)(hi:PySem.W.findIn K (.ref C) "__init__"=some (some (.ref fI)))
  (hfI:K.lookup fI=some oI) (hfc:oI.cls=.type "function") (hl:us.length<=sizeLine)
  (hq:wpAny (model prog w) (A.under (.builtin "type.__call__" ⟨.ref C::us,[]⟩)) (call (.ref fI) (.ref (h.objs.size+1)::us)) (λr s'=>r=.none/\Q (.ref (h.objs.size+1)) s') E ⟨qz h C us,g,d,t,os⟩):
  wpAny (model prog w) A (call (.ref C) us) Q E ⟨h,g,d,t,os⟩:=by
 obtain ⟨bm,N,nm,qn,bs,sn,sub,ab,col,dd,k0,k1,k2,k3,k5,hC,ok⟩:=Aw X hs;have f1:=tc_lookup;have f2:=tc_bind (.ref C);have hT:(⟨h,g,d,t,os⟩:Shared).TypeIs (.ref C) "type":=⟨_,hC,rfl⟩
 refine wpAny_call (codeAny_of_tree ?_);show wpAny _ _ (callAny (.ref C) _) _ _ _
 repeat (any_goals (first | assumption | with_reducible refine wpAny_loadPart_at hC ?_ | wp_step))
 refine ⟨rfl,?_⟩;refine codeAny_call_builtin_at (Code.quiet_builtin _ (by decide+kernel)) entry_typeCall (wpAny_check_type_call_sub hC ?_)
 repeat (first | with_reducible refine wpAny_loadPart_at hC ?_ | with_reducible refine wpAny_madeBy_exc hC ?_ | wp_step)
 refine codeAny_call_builtin_code (Code.quiet_builtin _ FV.quiet) (acz hC ok ?_);refine acA hC ok ?_ hl;show wpAny _ _ _ _ _ _;have hC1:=qP (C:=C) (us:=us) hC;have hg1:=GQ (h:=h) (C:=C) (us:=us);have hself:(Value.ref C::bm).contains (.ref C)=true:=by simp
 have X1:K.In (qz h C us):=X.keeps λb o e=>qP e;unfold isInstance
 repeat (first | with_reducible refine wpAny_loadPart_at hg1 ?_ | wp_step)
 show wpAny _ _ (isSubtype (.ref C) (.ref C)) _ _ _;refine wpAny_isSubtype_exc hC1 ?_;rw[hself]
 repeat (first | with_reducible refine wpAny_loadPart_at hg1 ?_ | wp_step)
 show wpAny _ _ (typeLookup (.ref C) _) _ _ _;refine (PySem.W.looks_findIn (M:=model prog w) X1 hi).at ?_;refine wpAny_holding (wpAny_bind ?_);unfold bindSpecial;refine wpAny_bind (wpAny_typeOf (T:="function") ⟨_,X1 _ _ hfI,hfc⟩ ?_);rw[if_pos (by decide)];refine wpAny_pure (wpAny_bind (wpAny_mono hq (λr s' hr=>?_) λ_ _ x=>x));obtain ⟨rfl,hQ⟩:=hr
 wp_walk
 exact hQ
end
end ZS
namespace ZS
open PySem PySem.Spec PyProof.Rows L2
noncomputable def M4:List Value->List Value
 | .ref _::l=>M4 l
 | l=>l
theorem Ax {self:Value}{what:Str}:∀{l:List Value},refuseLoop self what l=refuseLoop self what (M4 l)
 | []=>rfl
 | v::l=>by
  cases v
  case ref a=>rw[refuseLoop_ref];exact Ax (l:=l)
  all_goals rfl
noncomputable def uF (K:PySem.W.Frag) (C:Addr):Bool:=(PySem.W.clsIn K C).any λcd=>cd.hasDict && (!cd.mro.isEmpty && (cd.mro.contains (.type "object") && M4 cd.mro == VB))
section
open PySem.W
variable {prog:Program}{w:World}{A:Around}{E:Value->Shared->Prop}{s:Shared}{K:PySem.W.Frag}{x C:Addr}{ox:Obj}
theorem acB {name:Str}{tk:Tok}{v:Value}{R:Result->Shared->Prop}(X:K.In s.heap)(I:InstAt s.heap x ox C none)(hdn:ox.dict=none)(hp:uF K C=true)(hna:findIn K (.ref C) name=some none)
  (h:∀h' od t',h'.get? x=some {ox with dict:=some s.heap.objs.size}->h'.get? s.heap.objs.size=some od->h'.Ns1 s.heap.objs.size (λy=>if y=name then some v else none)->(∀b o,b≠x->s.heap.get? b=some o->h'.get? b=some o)->R (.ok (.ret .none)) {s with heap:=h',toks:=t'}):
  codeAny (model prog w) A (.call (.builtin "object.__setattr__") ⟨[.ref x,.str name tk,v],[]⟩) R s:=by
 have SF:=PySem.F.store_object;obtain ⟨cd,hc,ho⟩:=any_some hp;simp only[Bool.and_eq_true,Bool.not_eq_true',beq_iff_eq]at ho;obtain ⟨hd,ne,hob,hst⟩:=ho;have sub:Looks (model prog w) s.heap (isInstance (.ref x) (.type "object")) true:=I.type.andThen (looks_mroIn X (by unfold mroIn;rw[hc,Option.bind_some,if_neg (by rw[ne];decide),hob]));have hm:Looks (model prog w) s.heap (mroOf (.ref C)) cd.mro:=(looks_clsIn X hc).andThen .now;refine codeAny_call_builtin SF.slot.plain SF.entry (@check_slot (model prog w) _ _ s "object.__setattr__" "object" "__setattr__" (.ref x) [.str name tk,v] [] _ SF.kind SF.split sub (SF.args (.ref x) (.str name tk) v) ?_);rw[osa_eq,refuse_eq];refine wpAny_bind (wpAny_bind (I.type.here (wpAny_bind (hm.here ?_))));rw[Ax,hst,PySem.F.store_ValueError.passes];refine wpAny_pure (wpAny_bind (I.type.here (wpAny_bind ((looks_findIn X hna).here (wpAny_bind ?_)))));refine wpAny_pure ?_;have hx:=I.at_;obtain ⟨oc,odi,oda,osl⟩:=ox;have hcl:=I.cls;have hno:=I.no;dsimp only at hdn hcl;subst hdn hcl;have hxs:x≠s.heap.objs.size:=Nat.ne_of_lt (Heap.lt_size hx);refine wpAny_bind (wpAny_pure (wpAny_bind (wpAny_bind (wpAny_loadPart hx (wpAny_bind ((PySem.W.looks_clsIn X hc).here ?_))))));rw[hd];have hx1:(s.heap.push {cls:=.type "dict",data:=.dict #[]}).get? x=some ⟨.ref C,none,oda,osl⟩:=Heap.get?_push_of_some _ hx;have hgd:((s.heap.push {cls:=.type "dict",data:=.dict #[]}).update x λo=>{cls:=o.cls,dict:=some s.heap.objs.size,data:=o.data,slots:=o.slots}).get? s.heap.objs.size=some {cls:=.type "dict",data:=.dict #[]}:=
  (Heap.get?_update_ne _ _ _ _ hxs.symm).trans (Heap.get?_push_at rfl rfl)
 have hnd:((s.heap.push {cls:=.type "dict",data:=.dict #[]}).update x λo=>{cls:=o.cls,dict:=some s.heap.objs.size,data:=o.data,slots:=o.slots}).Ns s.heap.objs.size (λ_=>none):=
  ⟨_,#[],_,hgd,rfl,λe he=>absurd he (by simp),λ_=>rfl⟩
 have hx2:((s.heap.push {cls:=.type "dict",data:=.dict #[]}).update x λo=>{cls:=o.cls,dict:=some s.heap.objs.size,data:=o.data,slots:=o.slots}).get? x=some ⟨.ref C,some s.heap.objs.size,oda,osl⟩:=by
  refine Heap.get?_update_self _ hx1 ?_;have hfr:=(Heap.get?_some_iff.mp hx).2;cases oda<;>first | rfl | exact hfr
 have main:wpAny (model prog w) A.in1 (do
   let d <-alloc {cls:=.type "dict",data:=.dict #[]}
   update x λo=>{cls:=o.cls,dict:=some d,data:=o.data,slots:=o.slots}
   dictMade (.ref C) x d)
   (λa s'=>wpAny (model prog w) A.in1 (match a with | some d=>Builtin.ObjectAttr.storeInDict d (.str name tk) name v | none=>Builtin.ObjectAttr.noDictFor (.ref x) (.ref C) name (none:Option Value).isSome)
    (λfin s'=>match fin with | .done f=>R (.ok f) s' | .again c'=>c'.quiet=true/\codeAny (model prog w) A c' R s') (λe s'=>R (.error e) s') s') (λe s'=>R (.error e) s') s:=by
  refine wpAny_bind (wpAny_alloc' (wpAny_bind (wpAny_update' hx1 (wpAny_pure ?_))));show wpAny _ _ (Builtin.ObjectAttr.storeInDict s.heap.objs.size (.str name tk) name v) _ _ _;refine wpAny_bind (wpAny_pure (wpAny_bind (wpAny_nsSet1 (Heap.Ns1.of_empty hnd) λh' hn' hs=>?_)));obtain ⟨oD,esD,epD,hoD,hdD,hcD⟩:=hn'.count (Within.cons name v Within.nil);refine wpAny_bind (wpAny_lookBehind hoD (by rw[hdD];exact pastItsLine_dict (Nat.le_trans hcD (by rw[List.length_cons,List.length_nil,sizeLine_eq];omega))) ?_);refine wpAny_pure (h h' oD _ ((hs.2 x hxs).trans hx2) hoD hn' λb o hb e=>?_);exact (hs.2 b (Nat.ne_of_lt (Heap.lt_size e))).trans ((Heap.get?_update_ne _ _ _ _ hb).trans (Heap.get?_push_of_some _ e))
 have hth:typeHasDict (.ref C)=true:=by simp[typeHasDict]
 cases oda<;>first | (cases hno;done) | exact main
theorem acC {name:Str}{v:Value}{Q:Unit->Shared->Prop}(X:K.In s.heap)(I:InstAt s.heap x ox C none)(hdn:ox.dict=none)(hsa:findIn K (.ref C) "__setattr__"=some (some (.builtin "object.__setattr__")))(hp:uF K C=true)(hna:findIn K (.ref C) name=some none)
  (h:∀h' od t',h'.get? x=some {ox with dict:=some s.heap.objs.size}->h'.get? s.heap.objs.size=some od->h'.Ns1 s.heap.objs.size (λy=>if y=name then some v else none)->(∀b o,b≠x->s.heap.get? b=some o->h'.get? b=some o)->Q () {s with heap:=h',toks:=t'}):
  wpAny (model prog w) A (setAttr (.ref x) name v) Q E s:=
 set_plain X I hsa (acB (s:={s with toks:=s.toks+1}) X I hdn hp hna h)
end
end ZS
namespace ZS
open PySem PySem.Spec PyProof.Rows L2
noncomputable def nO (C:Addr) (dx:Option Addr) (e:Addr) (h:Heap):Prop:=∃oe vs,h.get? e=some oe/\oe.cls=.ref C/\oe.dict=dx/\oe.data=.fields vs/\vs[1]?=some .none
theorem WR {P:Program}{w:World}{H:Hp}{h:Heap}{C e:Addr}{dx:Option Addr}(x:nO C dx e h):cD P w H h e (.ext (nO C dx e)):=by
 obtain ⟨oe,vs,h1,h2⟩:=id x;exact ⟨x,⟨oe,h1⟩,λg1 g2 ⟨o,v,a,b⟩ k=>⟨o,v,k _ a,b⟩⟩
noncomputable abbrev jc (i:Int):HO:=.xd [("row",.int i)]
structure w6 (K:PySem.W.Frag)(fI C:Addr):Prop where
 sh:qO K C=true
 vm:uF K C=true
 sa:PySem.W.findIn K (.ref C) "__setattr__"=some (some (.builtin "object.__setattr__"))
 na:PySem.W.findIn K (.ref C) "row"=some none
 ii:PySem.W.findIn K (.ref C) "__init__"=some (some (.ref fI))
section
variable {X:Cx}{pins:List (Addr×Obj)}{σ:L2.St}{H:Hp}{s:Shared}
theorem al_ {C e:Addr}{h':Heap}{od:Obj}{i:Int}{u:Value}{t':Nat}(I:Inv X pins σ H s)(he:H e=some (.ext (nO C none e)))(k:∀b o,b≠e->s.heap.get? b=some o->h'.get? b=some o)(he':nO C (some s.heap.objs.size) e h')
  (hd:h'.get? s.heap.objs.size=some od) (hn:h'.Ns1 s.heap.objs.size (λy=>if y="row" then some u else none)) (ru:RelV (.int i) u):
  Inv X pins σ (upd (upd H e (.ext (nO C (some s.heap.objs.size) e))) s.heap.objs.size (.bY od (jc i))) {s with heap:=h',toks:=t'}:=by
 have hdx:H s.heap.objs.size=none:=I.hok.fresh (Nat.le_refl _);have ned:s.heap.objs.size≠e:=λz=>by rw[z,he]at hdx;cases hdx
 have nee:∀b,H b=none->b≠e:=λb z q=>by rw[q,he]at z;cases z
 have nex:∀b o,s.heap.get? b=some o->b≠s.heap.objs.size:=λb o z=>Nat.ne_of_lt (Heap.lt_size z);have nu:∀b u,H b=some u->b≠e->upd (upd H e (.ext (nO C (some s.heap.objs.size) e))) s.heap.objs.size (.bY od (jc i)) b=some u:=λb u z q=>by
  rw[aN (λy=>by rw[y,hdx]at z;cases z),aN q];exact z
 refine I.KD (g':=s.gens) (d':=s.drawn) (t':=t') (ch:=[]) (λb hb=>by cases hb) (λb o _ _ _ z n=>k b o (nee b n) z) (λb o _ _ _ z n=>⟨o.slots,k b o (nee b n) z⟩) (λb o _ z n=>?_) (λb o _ z=>?_) (λb xs z=>nu b _ z λy=>by rw[y,he]at z;cases z) (λb o u z=>nu b _ z λy=>by rw[y,he]at z;cases z) (λb ps z=>⟨#[],?_⟩) (λm hm=>?_) (λb u z=>?_) I.bare
 ·rw[aN (nex b o z),aN (nee b n)];exact n
 ·by_cases q:b=e
  ·obtain ⟨oe,vs,h1,_⟩:=he';rw[q];exact ⟨oe,h1⟩
  ·exact ⟨o,k b o q z⟩
 ·rw[nu b _ z λy=>by rw[y,he]at z;cases z];simp
 ·obtain ⟨o,es,ep,ho,r⟩:=hm;exact ⟨o,es,ep,k _ o (nee _ I.free) ho,r⟩
 ·by_cases q:b=s.heap.objs.size
  ·subst q;rw[aZ]at z;cases z;refine ⟨hd,_,hn,λf=>?_⟩;show nR (List.lookup f [("row",V.int i)]) (if f="row" then some u else none);by_cases hf:f="row"
   ·subst hf;exact ru
   ·rw[if_neg hf];have:(f == ("row":Str))=false:=beq_false_of_ne hf;simp only[List.lookup,this];trivial
  ·rw[aN q]at z;by_cases q2:b=e
   ·subst q2;rw[aZ]at z;cases z;exact WR he'
   ·rw[aN q2]at z;refine (I.hok b u z).stay (λc v hc y=>?_) (λc y=>nu c _ y λw=>by rw[w,he]at y;cases y) λc xs y=>nu c _ y λw=>by rw[w,he]at y;cases y
    refine k c v (λw=>?_) y;rcases hc with rfl | hc
    ·exact q2 w
    ·rw[w,he]at hc;cases hc
end
noncomputable def spI (K:PySem.W.Frag) (fI:Addr):Sp:=λvs H Q _=>∃e C i,vs=[.ref e,.int i]/\H e=some (.ext (nO C none e))/\w6 K fI C/\∀dx od,H dx=none->Q .non (upd (upd H e (.ext (nO C (some dx) e))) dx (.bY od (jc i)))
theorem acD {P:Program}{w:World}{K:PySem.W.Frag}{mg:Str->Option Value}{base:Heap}{x qual:Str}{st:Stmt}{f:Addr}{fd:FuncData}{k:Nat}{p1 p2 p3 p4:Pos}(F:dU K x qual st f fd)(S:bw ["self","row"] ["self","row"] (aG st))(hb:aW st=[.Assign [.Attribute (.Name "self" p1) "row" p2] (.Name "row" p3) p4])
  (v1:Gj (aG st) "self") (v2:Gj (aG st) "row") (hs:∀env:Env,env.scope=aG st->swapsWith (.Name "row" p3) (some (.Attribute (.Name "self" p1) "row" p2)) p4.line env=pure false):
  aX P w K mg base bO (k+1) f fd ["self","row"] (spI K f):=by
 refine F.ok S (λvs H Q E h=>?_) λcdv A outer s H vs Q E hr h=>?_
 ·obtain ⟨e,C,i,rfl,_⟩:=h;rfl
 ·obtain ⟨e,C,i,rfl,he,hx,q⟩:=h;rw[hb];refine ⟨λD σ H=>∃e C i,σ[0]?=some (some (.ref e))/\σ[1]?=some (some (.int i))/\H e=some (.ext (nO C none e))/\w6 K f C/\∀dx od,H dx=none->D.nx σ (upd (upd H e (.ext (nO C (some dx) e))) dx (.bY od (jc i))),abN ?_,e,C,i,rfl,rfl,he,hx,q⟩;intro pins s1 σ1 H1 D I ⟨e,C,i,h0,h1,he,hx,q⟩;have ha:=Lp (X:=(iW bO P w K mg base ["self","row"] qual (aG st) f cdv A outer s H E).qJ) (i:=0) (x:="self") (pos:=p1) rfl v1;have hv:=Lp (X:=(iW bO P w K mg base ["self","row"] qual (aG st) f cdv A outer s H E).qJ) (i:=1) (x:="row") (pos:=p3) rfl v2;refine plainObj_wpAny_Assign_Attribute (bI (hv pins s1 σ1 H1 (λy H'=>y=.int i/\H'=H1) I ⟨_,h1,rfl,rfl⟩) λu s2 ⟨y,H2,I2,ry,ey,eH⟩=>?_) (hs _ rfl);subst ey eH;refine bI (ha pins s2 σ1 H2 (λy H'=>y=.ref e/\H'=H2) I2 ⟨_,h0,rfl,rfl⟩) λov s3 ⟨z,H3,I3,rz,ez,eH⟩=>?_;subst ez eH;obtain rfl:ov=Value.ref e:=rz;obtain ⟨⟨oe,vs,g1,g2,g3,g4,g5⟩,_⟩:=(show cD _ _ H3 s3.heap e (.ext (nO C none e)) from I3.hok e _ he)
  refine acC (K:=K) (C:=C) I3.cZ ⟨g1,g2,by unfold PySem.W.notCls;rw[g4],by rw[g3];trivial⟩ g3 hx.sa hx.vm hx.na λh' od t' k1 k2 k3 k4=>?_;exact ⟨σ1,_,al_ I3 he k4 ⟨_,vs,k1,g2,rfl,g4,g5⟩ k2 k3 ry,q _ od (I3.hok.fresh (Nat.le_refl _))⟩
end ZS
namespace ZS
open PySem PySem.Spec PyProof.Rows L2
section
variable {X:Cx}{pins:List (Addr×Obj)}{σ:L2.St}{H:Hp}{s:Shared}
theorem M5 {k:Nat}{C fI:Addr}{fd:FuncData}{u:Value}{i:Int}{Q:Value->Shared->Prop}(M:w6 X.K fI C)(hfn:PySem.W.isFn X.K (.ref fI)=true)(F:aX X.prog X.w X.K X.mg X.base bO k fI fd ["self","row"] (spI X.K fI))(hr:cR (k+1) X.A)(hb:Binds X.K fd ["self","row"] [])(I:Inv X pins σ H s)(ru:RelV (.int i) u)
  (h:∀s' e dx od,s.heap.get? e=none->H e=none->H dx=none->dx≠e->Inv X pins σ (upd (upd H e (.ext (nO C (some dx) e))) dx (.bY od (jc i))) s'->Q (.ref e) s'):
  wpAny (model X.prog X.w) X.A (call (.ref C) [u]) Q X.xe s:=by
 obtain ⟨oI,hfI,hfc⟩:∃oI,X.K.lookup fI=some oI/\oI.cls=.type "function":=by
  have e:PySem.W.typeIn X.K (.ref fI)=some (.type "function"):=beq_iff_eq.mp hfn;obtain ⟨o,e1,e2⟩:=Option.map_eq_some_iff.mp (show (X.K.lookup fI).map (·.cls)=some (.type "function") from e);exact ⟨o,e1,e2⟩
 obtain ⟨hh,g,d,t,os⟩:=s;refine WQ (K:=X.K) I.cZ M.sh M.ii hfI hfc (by rw[sizeLine_eq];simp) ?_;have hfe:H (hh.objs.size+1)=none:=I.hok.fresh (Nat.le_succ _);have I1:=I.laid (a:=hh.objs.size+1) (o:=.ext (nO C none (hh.objs.size+1))) (h':=qz hh C [u]) (t':=t) (λb o e=>qP e) (Nat.le_succ _) (WR ⟨_,_,GQ,rfl,rfl,rfl,rfl⟩);have hsp:spI X.K fI [.ref (hh.objs.size+1),.int i] (upd H (hh.objs.size+1) (.ext (nO C none (hh.objs.size+1)))) (λv H2=>v=.non/\∃dx od,H dx=none/\dx≠hh.objs.size+1/\H2=upd (upd H (hh.objs.size+1) (.ext (nO C (some dx) (hh.objs.size+1)))) dx (.bY od (jc i))) E0:=by
  refine ⟨hh.objs.size+1,C,i,rfl,aZ,M,λdx od hdx=>⟨rfl,dx,od,?_,?_,?_⟩⟩
  ·by_cases q:dx=hh.objs.size+1
   ·rw[q];exact hfe
   ·rw[aN q]at hdx;exact hdx
  ·intro q;rw[q,aZ]at hdx;cases hdx
  ·congr 1;funext b;by_cases q:b=hh.objs.size+1
   ·rw[q,aZ,aZ]
   ·rw[aN q,aN q,aN q]
 have r2:Vals [V.ref (hh.objs.size+1),.int i] [Value.ref (hh.objs.size+1),u]:=.cons rfl (.cons ru .nil);refine wpAny_call (codeAny_mono (F.run _ X.stack _ _ ⟨[Value.ref (hh.objs.size+1),u],[]⟩ [Value.ref (hh.objs.size+1),u] _ _ E0 (hr.make C [u] []) (I1.env0.make C [u] []) (hb _ [Value.ref (hh.objs.size+1),u] I1.cZ rfl) r2 hsp) λr s' hq'=>?_);cases r with
 | error e=>exact aaT pins σ _ _ e s' I1 hq'
 | ok fl=>
  cases fl with
  | ret v=>
   obtain ⟨w',H',I3,rv,ev,dx,od,q1,q2,q3⟩:=I1.after hq';subst ev q3;exact ⟨rv,h s' _ dx od (Heap.get?_none_of_le (Nat.le_succ _)) hfe q1 q2 I3⟩
  | next=>exact False.elim hq'
  | brk=>exact False.elim hq'
  | cont=>exact False.elim hq'
theorem Qv {e:Addr}{φ:Heap->Prop}{H':Hp}(I:Inv X pins σ H s)(he:H e=some (.ext φ))(ot:∀b,b≠e->H' b=H b)(new:∀o,H' e=some o->cD X.prog X.w H' s.heap e o):Inv X pins σ H' s:=by
 have ne:∀b u,H b=some u->(∀ψ,u≠.ext ψ)->b≠e:=λb u z n q=>by rw[q,he]at z;cases z;exact n _ rfl
 refine I.KD (h':=s.heap) (g':=s.gens) (d':=s.drawn) (t':=s.toks) (ch:=[]) (λb hb=>by cases hb) (λb o _ _ _ z _=>z) (λb o _ _ _ z _=>⟨o.slots,z⟩) (λb o _ z n=>?_) (λb o _ z=>⟨o,z⟩) (λb xs z=>?_) (λb o u z=>?_) (λb ps z=>⟨#[],?_⟩) (λm hm=>hm) (λb u z=>?_) I.bare
 ·rw[ot b (λq=>by rw[q,he]at n;cases n)];exact n
 ·rw[ot b (ne b _ z λ_ q=>by cases q)];exact z
 ·rw[ot b (ne b _ z λ_ q=>by cases q)];exact z
 ·rw[ot b (ne b _ z λ_ q=>by cases q),z];simp
 ·by_cases q:b=e
  ·subst q;exact new u z
  ·rw[ot b q]at z;exact (I.hok b u z).stay (λ_ _ _ y=>y) (λc y=>by rw[ot c (ne c _ y λ_ q=>by cases q)];exact y) λc xs y=>by rw[ot c (ne c _ y λ_ q=>by cases q)];exact y
end
variable [r0:R0]
section
variable {X:Cx}{sub:Nat->Nat->Bool}{Γ:Z.b_}{E:Z.PX}
structure KJ (X:Cx)(k:Nat)(fI:Addr)(fd:FuncData)(C:Addr):Prop where
 ex:w6 X.K fI C
 fn:PySem.W.isFn X.K (.ref fI)=true
 ok:aX X.prog X.w X.K X.mg X.base bO k fI fd ["self","row"] (spI X.K fI)
 bi:Binds X.K fd ["self","row"] []
 kp:PySem.W.keepIn X.K (.ref C)=true
theorem Ip {k:Nat}{fI C:Addr}{fd:FuncData}{x:Str}{cn:Z.S}{e:Expr}{e':Z.Ex}{p pos:Pos}(hr:cR (k+1) X.A)(M:KJ X k fI fd C)(hm:X.mg x=some (.ref C))(hn:PySem.W.nsIn X.K mainGlobals x=some (some (.ref C)))
  (he:LE X sub Γ E e e') (hcn:x=⟨cn.toArray⟩:=by rfl) (hg:Gl X x:=by rfl) (hdb:(x == ("__debug__":Str))=false:=by decide) (hs:starEach [e] X.env=(false,eval e X.env)::starEach [] X.env:=by rfl) (hpl:(backTo pos (starEach [] X.env)).any (·.1)=false:=by rfl):
  LE X sub Γ E (.Call (.Name x p) [e] [] pos) (.Ej cn e'):=by
 intro pins s σ H Q I ⟨ρ,h,τ,Q',R,L,w,k'⟩;simp only[Z.aM]at w;refine wpAny_Call_Name_kw (iy I hg hm ?_ hdb);have ha:PA X [e] _:=fV he nH hs;refine PySem.W.callWith_K (h₀:=X.base) I.ok.mod.El M.kp (bI (ha pos pins s σ H (λvs H1=>∃i aL h1,vs=[.int i]/\Rep X.K aL h1 H1/\Ext X.K ρ H aL H1/\Q' (.ref h1.length) (h1++[.cW cn i])) I ?_) λus s1 ⟨vs,H1,I1,r,i,aL,h1,ev,R1,e1,q⟩=>⟨I1.cZ,?_⟩) hs hpl
 ·refine ⟨ρ,h,τ,_,R,L,w,λd1 h1 aL H1 v e1 R1 r1 w1=>?_⟩;cases d1 with
  | int i=>
   simp only[ao]at r1;subst r1;exact ⟨i,aL,h1,rfl,R1,e1,w1⟩
  | _=>exact w1.elim
 ·subst ev;obtain ⟨u,rfl,ru⟩:∃u,us=[u]/\RelV (.int i) u:=by
   cases r with
   | cons a b=>cases b;exact ⟨_,rfl,a⟩
  refine M5 M.ex M.fn M.ok hr M.bi I1 ru λs2 ea dx od hnew hf hfd hne I2=>?_;obtain ⟨⟨oe,vs,g1,g2,g3,g4,g5⟩,_⟩:=(show cD _ _ _ s2.heap ea (.ext (nO C (some dx) ea)) from I2.hok ea _ (by rw[aN (Ne.symm hne),aZ]))
  have I3:=Qv (H':=upd (upd H1 dx (.bY od (jc i))) ea (.bY oe (.own 0))) I2 (e:=ea) (by rw[aN (Ne.symm hne),aZ]) (λb hb=>?_) λo z=>?_
  ·have e2:Ext X.K aL H1 aL (upd H1 dx (.bY od (jc i))):=Ext.fresh hfd;have hf2:upd H1 dx (.bY od (jc i)) ea=none:=by rw[aN (Ne.symm hne)];exact hf
   have e3:Ext X.K aL (upd H1 dx (.bY od (jc i))) (aL++[ea]) (upd (upd H1 dx (.bY od (jc i))) ea (.bY oe (.own 0))):=Ext.alloc hf2;have R3:Rep X.K (aL++[ea]) (h1++[.cW cn i]) (upd (upd H1 dx (.bY od (jc i))) ea (.bY oe (.own 0))):=(R1.fresh hfd).alloc (ob:=.cW cn i) hf2 ⟨C,oe,dx,od,hcn ▸ hn,aZ,by rw[aN hne,aZ],g2,g3,by unfold PySem.W.notCls;rw[g4]⟩;refine ⟨.ref ea,_,I3,rfl,k' _ _ (aL++[ea]) _ _ (e1.trans (e2.trans e3)) R3 ?_ q⟩;simp only[ao];exact ⟨ea,rfl,by rw[<-R1.len,List.getElem?_append_right (Nat.le_refl _)];simp⟩
  ·rw[aN hb];by_cases q:b=dx
   ·rw[q,aZ,aZ]
   ·rw[aN q,aN q,aN hb]
  ·rw[aZ]at z;cases z;exact ⟨g1,_,g1⟩
end
end ZS
namespace ZS
open PySem PySem.Spec PyProof.Rows L2
section
variable {M:Model}{A:Around}{E:Value->Shared->Prop}{s:Shared}{env:Env}
variable {nm q:Str}{C N:Addr}{bs bm:List Value}{hdct:Bool}{sn:List Str}{sub:List Value}{ab:Bool}{col:Option Bool}{dd:Option Addr}{k0 k1 k2 k3 k5:Option Value}{newId:String}
theorem R_ {x:Sem Value}{Q:Flow->Shared->Prop}(hbase:bm.contains (.type "BaseException")=true)(hh:A.handled=none)
  (h:wpAny M A x (λv s₁=>∃e dx vs sl,v=.ref e/\s₁.heap.get? C=some (excClassObj nm q C N bs bm hdct sn sub ab col dd k0 k1 k2 k3 k5 newId)/\s₁.heap.get? e=some ⟨.ref C,dx,.fields vs,sl⟩/\vs[1]?=some .none/\E (.ref e) s₁) E s):
  wpAny M A (raiseStmt env (some x) none) Q E s:=by
 have hc:(Value.ref C::bm).contains (.type "BaseException")=true:=by rw[List.contains_cons,hbase,Bool.or_true]
 unfold raiseStmt;refine wpAny_bind (wpAny_mono h (λv s₁ h₁=>?_) λ_ _ x=>x);obtain ⟨e,dx,vs,sl,rfl,hC,he,h5,hE⟩:=h₁;obtain ⟨hp,g,d,tk,os⟩:=s₁
 repeat (first | with_reducible refine wpAny_loadPart_at he ?_ | with_reducible refine wpAny_loadPart_at hC ?_ | (with_reducible refine wpAny_isSubtype_exc hC ?_;rw[hc]) | wp_step)
 rw[h5];refine wpAny_pure ?_;rw[if_neg (by decide)];exact wpAny_pure (wpAny_raiseNew_none hh hE)
end
variable [r0:R0]
section
variable {X:Cx}{sub:Nat->Nat->Bool}{Γ:Z.b_}{E:Z.PX}
theorem Qw {k:Nat}{fI C:Addr}{fd:FuncData}{x:Str}{cn:Z.S}{e:Expr}{e':Z.Ex}{np cpos pos:Pos}(hx:XOk X E)(hex:X.ex=[])(hr:cR (k+1) X.A)(M:KJ X k fI fd C)(hm:X.mg x=some (.ref C))(hn:PySem.W.nsIn X.K mainGlobals x=some (some (.ref C)))
  (he:LE X sub Γ E e e') (hcn:x=⟨cn.toArray⟩:=by rfl) (hg:Gl X x:=by rfl) (hdb:(x == ("__debug__":Str))=false:=by decide) (hs:starEach [e] X.env=(false,eval e X.env)::starEach [] X.env:=by rfl) (hpl:(backTo cpos (starEach [] X.env)).any (·.1)=false:=by rfl):
  LS X sub Γ E (.Raise (some (.Call (.Name x np) [e] [] cpos)) none pos) (.vZ cn e'):=by
 intro pins s σ H D I ⟨ρ,h,τ,N,R,L,w,k'⟩;simp only[Z.wpS]at w;obtain ⟨bm,NN,nm,qn,bs,sn,Y_,ab,col,dd,k0,k1,k2,k3,k5,hC0,ok⟩:=Aw I.cZ M.ex.sh;rw[arm_exec_Raise];have ha:PA X [e] _:=fV he nH hs;have main:wpAny (model X.prog X.w) X.A (eval (.Call (.Name x np) [e] [] cpos) X.env) (λv s₁=>∃e dx vs sl,v=.ref e/\s₁.heap.get? C=some (excClassObj nm qn C NN bs bm true sn Y_ ab col dd k0 k1 k2 k3 k5 "ValueError.__new__")/\s₁.heap.get? e=some ⟨.ref C,dx,.fields vs,sl⟩/\vs[1]?=some .none/\X.xe (.ref e) s₁) X.xe s:=by
  refine wpAny_Call_Name_kw (iy I hg hm ?_ hdb);refine PySem.W.callWith_K (h₀:=X.base) I.ok.mod.El M.kp (bI (ha cpos pins s σ H (λvs H1=>∃i aL h1,vs=[.int i]/\Rep X.K aL h1 H1/\Ext X.K ρ H aL H1/\E (.tup [.str cn,.int i]) h1) I ?_) λus s1 ⟨vs,H1,I1,r,i,aL,h1,ev,R1,e1,q⟩=>⟨I1.cZ,?_⟩) hs hpl
  ·refine ⟨ρ,h,τ,_,R,L,w,λd1 h1 aL H1 v e1 R1 r1 w1=>?_⟩;cases d1 with
   | int i=>
    simp only[ao]at r1;subst r1;exact ⟨i,aL,h1,rfl,R1,e1,w1⟩
   | _=>exact w1.elim
  ·subst ev;obtain ⟨u,rfl,ru⟩:∃u,us=[u]/\RelV (.int i) u:=by
    cases r with
    | cons a b=>cases b;exact ⟨_,rfl,a⟩
   refine M5 M.ex M.fn M.ok hr M.bi I1 ru λs2 ea dx od hnew hf hfd hne I2=>?_;obtain ⟨⟨oe,vs,g1,g2,g3,g4,g5⟩,_⟩:=(show cD _ _ _ s2.heap ea (.ext (nO C (some dx) ea)) from I2.hok ea _ (by rw[aN (Ne.symm hne),aZ]))
   have hno:upd H1 dx (.bY od (jc i)) ea=none:=by rw[aN (Ne.symm hne)];exact hf
   have I3:=Qv (H':=upd H1 dx (.bY od (jc i))) I2 (e:=ea) (by rw[aN (Ne.symm hne),aZ]) (λb hb=>?_) λo z=>?_
   ·obtain ⟨bm2,NN2,nm2,qn2,bs2,sn2,aty,ab2,atz,dd2,l0,l1,l2,l3,l5,hC2,_⟩:=Aw I2.cZ M.ex.sh;have hC3:s2.heap.get? C=some (excClassObj nm qn C NN bs bm true sn Y_ ab col dd k0 k1 k2 k3 k5 "ValueError.__new__"):=by
     obtain ⟨o,eo⟩:∃o,X.K.lookup C=some o:=by
      have:=M.ex.sh;unfold qO at this;cases q:X.K.lookup C with
      | none=>rw[q]at this;cases this
      | some o=>exact ⟨o,rfl⟩
     have z1:=I.cZ _ _ eo;rw[hC0]at z1;rw[I2.cZ _ _ eo,z1]
    refine ⟨ea,some dx,vs,oe.slots,rfl,hC3,?_,g5,?_⟩
    ·rw[g1];obtain ⟨a1,a2,a3,a4⟩:=oe;simp only at g2 g3 g4;subst g2 g3 g4;rfl
    ·exact hx pins σ _ s2 ea C (some i) aL h1 cn I3 ⟨MF I1 hex ea hnew,hno,oe,vs,g1,g2,⟨dx,od,g3,aZ⟩,g4,.inl g5⟩ (R1.fresh hfd) (hcn ▸ hn) q
   ·by_cases q:b=dx
    ·rw[q,aZ,aZ]
    ·rw[aN q,aN q,aN hb]
   ·rw[hno]at z;cases z
 refine wpAny_bind (wpAny_standAt (R_ (C:=C) (nm:=nm) (q:=qn) (N:=NN) (bs:=bs) (bm:=bm) (hdct:=true) (sn:=sn) (sub:=Y_) (ab:=ab) (col:=col) (dd:=dd) (k0:=k0) (k1:=k1) (k2:=k2) (k3:=k3) (k5:=k5) (newId:="ValueError.__new__") ok.b hr.hd (wpAny_bind (wpAny_mono main (λv s₃ h₃=>wpAny_bind (wpAny_standAt (wpAny_pure h₃))) λ_ _ z=>z))))
end
end ZS
namespace ZS
open PySem PySem.Spec PyProof.Rows L2
variable [r0:R0]
section
open PySem.W
variable {prog:Program}{w:World}{A:Around}{E:Value->Shared->Prop}{s:Shared}{K:PySem.W.Frag}{x D:Addr}{ox od:Obj}
theorem acE {tk:Tok}{name:Str}{v:Value}{Q:Fin->Shared->Prop}(X:K.In s.heap)(I:InstAt s.heap x ox D (some od))(hf:findObj K D (some od) name=some (.value v))(hv:handedIn v=true)
  (h:Q (.done (.ret v)) s):wpAny (model prog w) A (Builtin.«object.__getattribute__» ⟨[.ref x,.str name tk],[]⟩) Q E s:=by
 obtain ⟨hh,gg,d,t,os⟩:=s;have L0:=I.type (M:=model prog w);have L1:=looks_find (M:=model prog w) X I hf;unfold Builtin.«object.__getattribute__»;refine wpAny_bind (wpAny_pure (wpAny_bind (wpAny_pure (wpAny_bind (L0.at (wpAny_bind (L1.at ?_)))))));exact wpAny_pure h
theorem Za {b:Bool}{name:Str}{v:Value}{Q:Value->Shared->Prop}(X:K.In s.heap)(I:InstAt s.heap x ox D (some od))(c:Ar K D)(hf:findObj K D (some od) name=some (.value v))(hv:handedIn v=true)
  (h:Q v {s with toks:=s.toks+1}):wpAny (model prog w) A (getAttr (.ref x) name b) Q E s:=by
 obtain ⟨hh,g,d,t,os⟩:=s;have L0:=I.type (M:=model prog w);have L1:=looks_findIn (M:=model prog w) X c.ga;have L2:=looks_findIn (M:=model prog w) X c.gh;have L3:Looks (model prog w) hh (isInstance (.ref x) (.type "BaseException")) true:=L0.andThen (looks_mroIn X c.mb);unfold getAttr getAttrBy;refine wpAny_bind (wpAny_mkText (wpAny_holding (wpAny_bind (L0.at (wpAny_bind (L1.at ?_))))));have hx2:(Value.builtin "BaseException.__getattribute__" == Value.builtin "object.__getattribute__")=false:=by decide+kernel
 dsimp only;rw[if_neg (by rw[hx2,Bool.and_false];decide)];unfold getAttrByItsOwn hookBefore;rw[if_pos (show onTheHeap (Value.ref D)=true by rfl)];refine wpAny_bind (L2.at (wpAny_bind (wpAny_attempt (wpAny_holding ?_))));unfold callGetattribute;rw[if_neg (by cases b<;>decide)];unfold boundAndCalled;refine wpAny_bind (wpAny_of_eq (PySem.F.attr_ValueError.ga.bind (.ref x)) ?_);refine wpAny_call (codeAny_call_builtin PySem.F.attr_ValueError.ga.plain PySem.F.entry_bexc_ga (JK L3 (acE (s:=⟨hh,g,d,t+1,os⟩) X I hf hv ?_)));exact handed_on hv h
theorem acF {o:Obj}{es:Array DictEntry}{ep:Nat}{name:Str}{v:Value}(hd:o.data=.dict es ep)(e:nsFind es name=some v):lookIn name o=some (some v):=by
 unfold lookIn;rw[hd];dsimp only;unfold nsFind findBy at e;rw[Array.find?_toList];cases q:es.find? (λx=>x.key.isStr name) with
 | none=>rw[q]at e;cases e
 | some x=>rw[q]at e;cases e;rfl
theorem Zb {cd:ClassData}{name:Str}{v:Value}(hc:clsIn K D=some cd)(hd:cd.hasDict=true)(ha:findIn K (.ref D) name=some none)(hl:lookIn name od=some (some v)):findObj K D (some od) name=some (.value v):=by
 unfold findObj;rw[hc,Option.bind_some,ha];simp only[Option.bind_some];unfold PySem.W.ownOf;rw[hd,if_pos rfl];simp only[hl,Option.bind_some]
end
structure Zc (K:PySem.W.Frag)(C:Addr):Prop where
 ex:Ar K C
 vm:uF K C=true
 na:PySem.W.findIn K (.ref C) "row"=some none
noncomputable def Ay (K:PySem.W.Frag) (cs:List Z.S):Prop:=∀c∈cs,∀C,PySem.W.nsIn K mainGlobals ⟨c.toArray⟩=some (some (.ref C))->Zc K C
theorem Zd {K:PySem.W.Frag}:Ay K []:=λc h=>by cases h
theorem j4 {K:PySem.W.Frag}{c:Z.S}{x:Str}{C:Addr}{cs:List Z.S}(hC:PySem.W.nsIn K mainGlobals x=some (some (.ref C)))(l:Zc K C)(r:Ay K cs)(hx:x=⟨c.toArray⟩:=by rfl):Ay K (c::cs):=by
 subst hx;intro c' h C' hn;rcases List.mem_cons.mp h with rfl | h
 ·rw[hC]at hn;cases hn;exact l
 ·exact r c' h C' hn
section
variable {X:Cx}{sub:Nat->Nat->Bool}{Γ:Z.b_}{E:Z.PX}
theorem Sd {e:Expr}{e':Z.Ex}{cs:List Z.S}{pos:Pos}(hc:Ay X.K cs)(he:LE X sub Γ E e e')(hb:attributeBase e "row" X.env (eval e X.env)=eval e X.env:=by rfl):LE X sub Γ E (.Attribute e "row" pos) (.prim (.HF cs) (.cons e' .nil)):=by
 intro pins s σ H Q I ⟨ρ,h,τ,Q',R,L,w,k⟩;simp only[Z.aM,Z.bH]at w;refine abQ hb (bI (he pins s σ H (λv H1=>∃a C oe dx od i,v=.ref a/\H1 a=some (.bY oe (.own 0))/\H1 dx=some (.bY od (jc i))/\oe.cls=.ref C/\oe.dict=some dx/\PySem.W.notCls oe=true/\Zc X.K C/\Q (.int i) H1) I ⟨ρ,h,τ,_,R,L,w,λd1 h1 aL H1 x e1 R1 r1 w1=>?_⟩) λu s1 ⟨x,H1,I1,rx,a,C,oe,dx,od,i,ex,ha,hx,g1,g2,g3,l,q⟩=>?_)
 ·have w2:match Z.Rq cs [d1] h1 with | some (v,h2)=>Q' v h2 | none=>False:=w1
  cases d1 with
  | ref n=>
   simp only[Z.Rq]at w2;cases eo:h1[n]? with
   | none=>simp only[eo]at w2
   | some ob=>
    cases ob with
    | cW c i=>
     simp only[eo]at w2;by_cases hm:c∈cs
     ·rw[if_pos hm]at w2;obtain ⟨a,C,oe,dx,od,rfl,hn,ha,hx,g1,g2,g3⟩:=Wy R1 r1 eo;exact ⟨a,C,oe,dx,od,i,rfl,ha,hx,g1,g2,g3,hc c hm C hn,k _ _ aL H1 _ e1 R1 (by simp only[ao]) w2⟩
     ·rw[if_neg hm]at w2;exact w2.elim
    | _=>simp only[eo]at w2
  | _=>exact w2.elim
 ·subst ex;obtain rfl:u=Value.ref a:=rx;obtain ⟨ho,_⟩:=(show cD X.prog X.w H1 s1.heap a (.bY oe (.own 0)) from I1.hok a _ ha)
  obtain ⟨hod,mA,⟨o,es,ep,ho2,hd,_,_,hf⟩,rel⟩:=(show cD X.prog X.w H1 s1.heap dx (.bY od (jc i)) from I1.hok dx _ hx)
  rw[hod]at ho2;cases ho2;obtain ⟨u2,hu,ru⟩:=nR.some_of (v:=.int i) (o:=mA "row") (rel "row");obtain ⟨cd,hcd,hv⟩:=PySem.W.any_some l.vm;simp only[Bool.and_eq_true]at hv;refine Za I1.cZ ⟨ho,g1,g3,by rw[g2];exact hod⟩ l.ex (Zb hcd hv.1 l.na (acF hd (by rw[hf,hu]))) (V4 ru) ?_;exact ⟨.int i,H1,I1.tok _,ru,q⟩
end
end ZS
namespace ZS
open PySem PySem.Spec PyProof.Rows L2
variable [r0:R0]
section
variable {X:Cx}{sub:Nat->Nat->Bool}{Γ:Z.b_}{E:Z.PX}
theorem Sg {kk f:Nat}{fa:Addr}{fd:FuncData}{ps:List Str}{pins:List (Addr×Obj)}{σ:L2.St}{H1:Hp}{s1:Shared}{us bs:List Value}{kw:List (Str×Value)}{vs:List V}{aL:List Addr}{h1:Z.AH}{jZ:List Z.D}{Qm:Z.PV}{Em:Z.PX}{Q:Value->Shared->Prop}{XE:Value->Shared->Prop}
  (F:∀r:R0,aX X.prog X.w X.K X.mg X.base (qM X.prog X.w) kk fa fd ps (@EY r X.K Γ f)) (hr:cR kk X.A) (hb:bs.length=ps.length->BindsTo s1 fd ⟨us,kw⟩ (ps.zip bs)) (I1:Inv X pins σ H1 s1) (rv:Vals vs bs) (R1:Rep X.K aL h1 H1) (rd:au X.K aL H1 jZ vs) (Ze:Γ f jZ h1 Qm Em)
  (hq:∀u s2 v H2 bQ h2 d2,Inv X pins σ H2 s2->RelV v u->Ext X.K aL H1 bQ H2->Rep X.K bQ h2 H2->ao X.K bQ H2 d2 v->Qm d2 h2->Q u s2)
  (hE:∀s2 H2 ea C xr (cn:Z.S) bQ h2,Inv X pins σ H2 s2->ExcAt s1.heap s2.heap H2 xr C ea->(∀b o,s1.heap.get? b=some o->∃o',s2.heap.get? b=some o')->Ext X.K aL H1 bQ H2->Rep X.K bQ h2 H2->PySem.W.nsIn X.K mainGlobals ⟨cn.toArray⟩=some (some (.ref C))->Em (xD cn xr) h2->XE (.ref ea) s2):
  wpAny (model X.prog X.w) X.A (call (.ref fa) us kw) Q XE s1:=by
 have sp:@EY ⟨aL,H1⟩ X.K Γ f vs H1 (λv H2=>∃bQ h2 d2,Ext X.K aL H1 bQ H2/\Rep X.K bQ h2 H2/\ao X.K bQ H2 d2 v/\Qm d2 h2)
   (λv c H2=>∃(cn:Z.S) (C:Addr) (xr:Option Int) (bQ:List Addr) (h2:Z.AH),v=xv xr/\c=some C/\Ext X.K aL H1 bQ H2/\Rep X.K bQ h2 H2/\PySem.W.nsIn X.K mainGlobals ⟨cn.toArray⟩=some (some (.ref C))/\Em (xD cn xr) h2):=
  ⟨aL,h1,jZ,Qm,Em,ae8 R1,rd,Ze,λd h' ρ' H' v e' R' r' q=>⟨ρ',h',d,e',Wz R1 R',r',q⟩,λcn' C' xr h' ρ' H' R' hc' q=>⟨cn',C',xr,ρ',h',rfl,rfl,Qs R',Wz R1 R',hc',q⟩⟩
 have hln:bs.length=ps.length:=by rw[<-rv.length];exact (F ⟨aL,H1⟩).len _ _ _ _ sp
 refine wpAny_call (codeAny_mono ((F ⟨aL,H1⟩).run X.A X.stack s1 H1 ⟨us,kw⟩ bs vs _ _ hr I1.env0 (hb hln) rv sp) λres s2 hres=>?_);cases res with
 | ok fl=>
  cases fl with
  | next=>exact False.elim hres
  | brk=>exact False.elim hres
  | cont=>exact False.elim hres
  | ret u=>
   obtain ⟨v,H2,I2,r2,bQ,h2,d2,e2,R2,M6,q⟩:=I1.after hres;exact hq u s2 v H2 bQ h2 d2 I2 r2 e2 R2 M6 q
 | error ex=>
  obtain ⟨ea,C',xr,H2,rfl,os,bare,un,hok,x2,cn,C,xr',bQ,h2,hv,hC,e2,R2,hn,wh⟩:=hres;cases hC;cases ae5 hv;exact hE s2 H2 ea _ xr cn bQ h2 (I1.call' os un hok bare (λb z=>absurd z (by simp))) x2 (λb o e=>un.there b o e (by simp)) e2 R2 hn wh
noncomputable def LC (X:Cx) (sub:Nat->Nat->Bool) (Γ:Z.b_) (E:Z.PX) (i:Nat) (sts:List Stmt) (cc:Z.CC):Prop:=
 ∀(pins:List (Addr×Obj)) (s:Shared) (σ:L2.St) (H:Hp) (ρ:List Addr) (h:Z.AH) (τ:Z.Lo) (Qm:Z.PV) (Em:Z.PX) (Q:Flow->Shared->Prop) (XE:Value->Shared->Prop),Inv X pins σ H s->Rep X.K ρ h H->cJ X.K ρ H τ σ->Z.gq sub Γ E cc τ h Qm Em->
  (∀s2 v H2 bQ h2 d2,Inv X pins (σ.set i (some v)) H2 s2->Ext X.K ρ H bQ H2->Rep X.K bQ h2 H2->ao X.K bQ H2 d2 v->Qm d2 h2->Q .next s2)->
  (∀s1 H1 s2 H2 ea C xr (cn:Z.S) bQ h2,Inv X pins σ H1 s1->Inv X pins σ H2 s2->ExcAt s1.heap s2.heap H2 xr C ea->(∀b o,s1.heap.get? b=some o->∃o',s2.heap.get? b=some o')->Ext X.K ρ H bQ H2->Rep X.K bQ h2 H2->PySem.W.nsIn X.K mainGlobals ⟨cn.toArray⟩=some (some (.ref C))->Em (xD cn xr) h2->XE (.ref ea) s2)->
  wpAny (model X.prog X.w) X.A (execs sts X.env) Q XE s
theorem acG (i:Nat){kk f:Nat}{fa:Addr}{fd:FuncData}{ps:List Str}{y fx:Str}{a:Expr}{as:List Expr}{es':Z.cN}{yp fp cpos apos:Pos}
  (hr:cR kk X.A) (F:∀r:R0,aX X.prog X.w X.K X.mg X.base (qM X.prog X.w) kk fa fd ps (@EY r X.K Γ f)) (hm:X.mg fx=some (.ref fa)) (hk:PySem.W.keepIn X.K (.ref fa)=true) (hb:Binds X.K fd ps [])
  (hN:X.N.Nodup) (ha:LA X.qJ sub Γ E (a::as) es')
  (hi:X.N[i]?=some y:=by rfl) (hx:Loc X.env.scope y:=by first | exact Or.inl rfl | exact Or.inr rfl) (hf:X.fn y=true\/X.env.scope.names.lookup y=some .local:=by first | exact .inl rfl | exact .inr rfl)
  (hsw:swapsWith (.Call (.Name fx fp) (a::as) [] cpos) (some (.Name y yp)) apos.line X.env=pure false:=by rfl) (hg:Gl X fx:=by rfl) (hdb:(fx == ("__debug__":Str))=false:=by decide)
  (he:starEach (a::as) X.env=(false,eval a X.env)::starEach as X.env:=by rfl) (hpl:(backTo cpos (starEach as X.env)).any (·.1)=false:=by rfl):
  LC X sub Γ E i [.Assign [.Name y yp] (.Call (.Name fx fp) (a::as) [] cpos) apos] (.call f es' []):=by
 intro pins s σ H ρ h τ Qm Em Q XE I R L w hq hE;simp only[Z.gq]at w;refine wpAny_execs_cons (wpAny_Assign_Name (wpAny_Call_Name_kw (iy I hg hm ?_ hdb)) hsw);refine PySem.W.callWith_K (first:=[]) (h₀:=X.base) I.ok.mod.El hk (wpAny_mono (ha cpos pins s σ H (λvs H1=>∃aL h1 jZ,Rep X.K aL h1 H1/\Ext X.K ρ H aL H1/\au X.K aL H1 jZ vs/\Γ f jZ h1 Qm Em) (I.wish _)
  ⟨ρ,h,τ,_,R,L,w,λjZ h1 aL H1 vs e1 R1 r1 w1=>⟨aL,h1,jZ,R1,e1,r1,by rw[List.append_nil]at w1;exact w1⟩⟩) (λus s1 ⟨vs,H1,I1,rv,aL,h1,jZ,R1,e1,rd,Ze⟩=>⟨I1.cZ,?_⟩) λ_ _ z=>False.elim z) he hpl
 replace I1:Inv X pins σ H1 s1:=I1.fU
 refine Sg F hr (λhl=>by have:=hb s1 us I1.cZ (by rw[List.append_nil];exact hl);rwa [List.append_nil]at this) I1 rv R1 rd Ze (λu s2 v H2 bQ h2 d2 I2 r2 e2 R2 M6 q=>?_) λs2 H2 ea C xr cn bQ h2 I2 x2 th e2 R2 hn q=>hE s1 H1 s2 H2 ea C xr cn bQ h2 I1 I2 x2 th (e1.trans e2) R2 hn q;exact jN I2 hN hi hx r2 (λs3 I3=>wpAny_execs_nil (hq s3 v H2 bQ h2 d2 I3 (e1.trans e2) R2 M6 q)) hf
theorem Zf (i:Nat){kk f:Nat}{fa:Addr}{fd:FuncData}{ps:List Str}{y fx:Str}{a:Expr}{as:List Expr}{es':Z.cN}{d:Z.D}{yp fp cpos apos:Pos}
  (hr:cR kk X.A) (F:∀r:R0,aX X.prog X.w X.K X.mg X.base (qM X.prog X.w) kk fa fd ps (@EY r X.K Γ f)) (hm:X.mg fx=some (.ref fa)) (hk:PySem.W.keepIn X.K (.ref fa)=true) (hb:BnD X.K fd ps d)
  (hN:X.N.Nodup) (ha:LA X.qJ sub Γ E (a::as) es')
  (hi:X.N[i]?=some y:=by rfl) (hx:Loc X.env.scope y:=by first | exact Or.inl rfl | exact Or.inr rfl) (hf:X.fn y=true\/X.env.scope.names.lookup y=some .local:=by first | exact .inl rfl | exact .inr rfl)
  (hsw:swapsWith (.Call (.Name fx fp) (a::as) [] cpos) (some (.Name y yp)) apos.line X.env=pure false:=by rfl) (hg:Gl X fx:=by rfl) (hdb:(fx == ("__debug__":Str))=false:=by decide)
  (he:starEach (a::as) X.env=(false,eval a X.env)::starEach as X.env:=by rfl) (hpl:(backTo cpos (starEach as X.env)).any (·.1)=false:=by rfl):
  LC X sub Γ E i [.Assign [.Name y yp] (.Call (.Name fx fp) (a::as) [] cpos) apos] (.call f es' [d]):=by
 intro pins s σ H ρ h τ Qm Em Q XE I R L w hq hE;obtain ⟨u0,hb,v0,c1,c2⟩:=hb;simp only[Z.gq]at w;refine wpAny_execs_cons (wpAny_Assign_Name (wpAny_Call_Name_kw (iy I hg hm ?_ hdb)) hsw);refine PySem.W.callWith_K (first:=[]) (h₀:=X.base) I.ok.mod.El hk (wpAny_mono (ha cpos pins s σ H (λvs H1=>∃aL h1 jZ,Rep X.K aL h1 H1/\Ext X.K ρ H aL H1/\au X.K aL H1 jZ vs/\Γ f (jZ++[d]) h1 Qm Em) (I.wish _)
  ⟨ρ,h,τ,_,R,L,w,λjZ h1 aL H1 vs e1 R1 r1 w1=>⟨aL,h1,jZ,R1,e1,r1,w1⟩⟩) (λus s1 ⟨vs,H1,I1,rv,aL,h1,jZ,R1,e1,rd,Ze⟩=>⟨I1.cZ,?_⟩) λ_ _ z=>False.elim z) he hpl
 replace I1:Inv X pins σ H1 s1:=I1.fU
 refine Sg F hr (bs:=us++[u0]) (vs:=vs++[v0]) (λhl=>hb s1 us I1.cZ hl) I1 (rv.append (.cons c1 .nil)) R1 (rd.append (.one (c2 aL H1))) Ze (λu s2 v H2 bQ h2 d2 I2 r2 e2 R2 M6 q=>?_) λs2 H2 ea C xr cn bQ h2 I2 x2 th e2 R2 hn q=>hE s1 H1 s2 H2 ea C xr cn bQ h2 I1 I2 x2 th (e1.trans e2) R2 hn q;exact jN I2 hN hi hx r2 (λs3 I3=>wpAny_execs_nil (hq s3 v H2 bQ h2 d2 I3 (e1.trans e2) R2 M6 q)) hf
theorem aa9 {i:Nat}{c:Expr}{c':Z.Tx}{st1 st2:List Stmt}{a b:Z.CC}{pos:Pos}(hc:LT X.qJ sub Γ E c c')(h1:LC X sub Γ E i st1 a)(h2:LC X sub Γ E i st2 b):LC X sub Γ E i [.If c st1 st2 pos] (.ite c' a b):=by
 intro pins s σ H ρ h τ Qm Em Q XE I R L w hq hE;simp only[Z.gq]at w;refine wpAny_execs_cons (wpAny_If (wpAny_mono (hc pins s σ H (λb' H1=>∃aL h1,Rep X.K aL h1 H1/\Ext X.K ρ H aL H1/\if b'=true then Z.gq sub Γ E a τ h1 Qm Em else Z.gq sub Γ E b τ h1 Qm Em) (I.wish _)
   ⟨ρ,h,τ,_,R,L,w,λc h1 aL H1 e1 R1 w1=>⟨aL,h1,R1,e1,w1⟩⟩) (λb' s1 ⟨H1,I1,aL,h1',R1,e1,w1⟩=>?_) λ_ _ z=>False.elim z))
 replace I1:Inv X pins σ H1 s1:=I1.fU
 have L1:=L.mono e1;cases b' with
 | true=>
  rw[if_pos rfl]at w1 ⊢;exact h1 pins s1 σ H1 aL h1' τ Qm Em _ XE I1 R1 L1 w1 (λs2 v H2 bQ h2 d2 I2 e2 R2 r2 q=>wpAny_execs_nil (hq s2 v H2 bQ h2 d2 I2 (e1.trans e2) R2 r2 q)) λs1' H1' s2 H2 ea C xr cn bQ h2 I1' I2 x2 th e2 R2 hn q=>hE s1' H1' s2 H2 ea C xr cn bQ h2 I1' I2 x2 th (e1.trans e2) R2 hn q
 | false=>
  rw[if_neg (by decide)]at w1 ⊢;exact h2 pins s1 σ H1 aL h1' τ Qm Em _ XE I1 R1 L1 w1 (λs2 v H2 bQ h2 d2 I2 e2 R2 r2 q=>wpAny_execs_nil (hq s2 v H2 bQ h2 d2 I2 (e1.trans e2) R2 r2 q)) λs1' H1' s2 H2 ea C xr cn bQ h2 I1' I2 x2 th e2 R2 hn q=>hE s1' H1' s2 H2 ea C xr cn bQ h2 I1' I2 x2 th (e1.trans e2) R2 hn q
end
end ZS
namespace ZS
open PySem PySem.Spec PyProof.Rows L2
noncomputable def BnK (K:PySem.W.Frag) (fd:FuncData) (ps:List Str) (kn:Str):Prop:=∀(s:Shared) (u1 u2:Value),K.In s.heap->BindsTo s fd ⟨[u1],[(kn,u2)]⟩ (ps.zip [u1,u2])
theorem FW.afk {K:PySem.W.Frag}{x qual:Str}{st:Stmt}{f T:Addr}{fd:FuncData}{ps:List Str}{kn:Str}{oc:Value}{od:Option Addr}{its:Array Value}{n:Nat}{sl:Array (Option Value)}(F:FW K x qual st f T fd)(hT:K.lookup T=some ⟨oc,od,.seq its n,sl⟩)
  (h:∀(kV doc pm:Value) (an:Option Addr) (cdv ct:Value) (u1 u2:Value),∃k,bindArgs (PySem.W.fnOf x qual (bh st) (aW st) (aG st) (.ref T) kV doc pm an cdv ct) ⟨[u1],[(kn,u2)]⟩=(seqItems? (.ref T) >>= k)/\k (some its)=pure (ps.zip [u1,u2])):BnK K fd ps kn:=by
 obtain ⟨oc,od,kV,doc,pm,an,cdv,ct,osl,rfl,lk,hcd⟩:=F.ex;intro s u1 u2 X;obtain ⟨k,h1,h2⟩:=h kV doc pm an cdv ct u1 u2;exact BindsTo.of_defaults rfl (X _ _ hT) rfl h1 h2
variable [r0:R0]
section
variable {X:Cx}{sub:Nat->Nat->Bool}{Γ:Z.b_}{E:Z.PX}
theorem Zg (i:Nat){kk f:Nat}{fa:Addr}{fd:FuncData}{ps:List Str}{y fx kn:Str}{a b:Expr}{a' b':Z.Ex}{yp fp cpos kp apos:Pos}
  (hr:cR kk X.A) (F:∀r:R0,aX X.prog X.w X.K X.mg X.base (qM X.prog X.w) kk fa fd ps (@EY r X.K Γ f)) (hm:X.mg fx=some (.ref fa)) (hk:PySem.W.keepIn X.K (.ref fa)=true) (hb:BnK X.K fd ps kn)
  (hN:X.N.Nodup) (ha:LA X.qJ sub Γ E [a] (.cons a' .nil)) (hv:LE X.qJ sub Γ E b b')
  (hi:X.N[i]?=some y:=by rfl) (hx:Loc X.env.scope y:=by first | exact Or.inl rfl | exact Or.inr rfl) (hf:X.fn y=true\/X.env.scope.names.lookup y=some .local:=by first | exact .inl rfl | exact .inr rfl)
  (hsw:swapsWith (.Call (.Name fx fp) [a] [⟨some kn,b,kp⟩] cpos) (some (.Name y yp)) apos.line X.env=pure false:=by rfl) (hg:Gl X fx:=by rfl) (hdb:(fx == ("__debug__":Str))=false:=by decide)
  (he:starEach [a] X.env=(false,eval a X.env)::starEach [] X.env:=by rfl) (hpl:((backTo cpos (starEach [a] X.env)).any (·.1) || (backToKw cpos (keywordEach [⟨some kn,b,kp⟩] X.env)).any (·.1.isNone))=false:=by rfl):
  LC X sub Γ E i [.Assign [.Name y yp] (.Call (.Name fx fp) [a] [⟨some kn,b,kp⟩] cpos) apos] (.call f (.cons a' (.cons b' .nil)) []):=by
 intro pins s σ H ρ h τ Qm Em Q XE I R L w hq hE;simp only[Z.gq,Z.bH]at w;refine wpAny_execs_cons (wpAny_Assign_Name (wpAny_Call_Name_kw (iy I hg hm ?_ hdb)) hsw);refine PySem.W.callWith_KW (first:=[]) (h₀:=X.base) I.ok.mod.El hk rfl (wpAny_mono (ha cpos pins s σ H (λvs H1=>∃aL h1 d1 v1,vs=[v1]/\Rep X.K aL h1 H1/\Ext X.K ρ H aL H1/\ao X.K aL H1 d1 v1/\Z.aM sub Γ E b' τ h1 λd2 h2=>Γ f [d1,d2] h2 Qm Em) (I.wish _)
  ⟨ρ,h,τ,λds h1=>match ds with | [d1]=>Z.aM sub Γ E b' τ h1 (λd2 h2=>Γ f [d1,d2] h2 Qm Em) | _=>False,R,L,(by simp only[Z.bH];exact w),λjZ h1 aL H1 vs e1 R1 r1 w1=>?_⟩) (λus s1 ⟨vs,H1,I1,rv,aL,h1,d1,v1,ev,R1,e1,rd,w1⟩=>?_) λ_ _ z=>False.elim z) hpl he
 ·match jZ,w1,r1 with
  | [d1],w1,r2=>
   simp only[au]at r2;obtain ⟨v1,_,rfl,r3,rfl⟩:=r2;exact ⟨aL,h1,d1,v1,rfl,R1,e1,r3,w1⟩
 ·subst ev
  replace I1:Inv X pins σ H1 s1:=I1.fU
  obtain ⟨u1,rfl,ru1⟩:∃u,us=[u]/\RelV v1 u:=by
   cases rv with
   | cons a b=>cases b;exact ⟨_,rfl,a⟩
  refine wpAny_evalAll_cons (wpAny_bind (wpAny_mono (hv pins s1 σ H1 (λv2 H2=>∃bQ h2 d2,Rep X.K bQ h2 H2/\Ext X.K aL H1 bQ H2/\ao X.K bQ H2 d2 v2/\Γ f [d1,d2] h2 Qm Em) (I1.wish _) ⟨aL,h1,τ,_,R1,L.mono e1,w1,λd2 h2 bQ H2 v2 e2 R2 r2 w2=>⟨bQ,h2,d2,R2,e2,r2,w2⟩⟩) (λu2 s2 ⟨v2,H2,I2,rv2,bQ,h2,d2,R2,e2,M6,Ze⟩=>wpAny_bind (wpAny_standAt (wpAny_pure (wpAny_evalAll_nil ⟨I2.cZ,?_⟩)))) λ_ _ z=>False.elim z))
  replace I2:Inv X pins σ H2 s2:=I2.fU
  refine Sg F hr (us:=[u1]) (kw:=[(kn,u2)]) (bs:=[u1,u2]) (vs:=[v1,v2]) (jZ:=[d1,d2]) (λ_=>hb s2 u1 u2 I2.cZ) I2 (.cons ru1 (.cons rv2 .nil)) R2 (by simp only[au];exact ⟨v1,_,rfl,ao.mono e2 _ _ rd,v2,_,rfl,M6,rfl⟩) Ze (λu s3 v H3 jO h3 d3 I3 r3 e3 R3 rd3 q=>?_) λs3 H3 ea C xr cn jO h3 I3 x3 th e3 R3 hn q=>hE s2 H2 s3 H3 ea C xr cn jO h3 I2 I3 x3 th (e1.trans (e2.trans e3)) R3 hn q;exact jN I3 hN hi hx r3 (λs4 I4=>wpAny_execs_nil (hq s4 v H3 jO h3 d3 I4 (e1.trans (e2.trans e3)) R3 rd3 q)) hf
noncomputable def uW (K:PySem.W.Frag) (cs:List Z.S) (Cb:Addr):Prop:=∀c∈cs,∀C,PySem.W.nsIn K mainGlobals ⟨c.toArray⟩=some (some (.ref C))->PySem.W.exmOne K (.ref C) (.ref Cb)=some true
theorem WT {K:PySem.W.Frag}{Cb:Addr}:uW K [] Cb:=λc h=>by cases h
theorem GR {K:PySem.W.Frag}{Cb C:Addr}{c:Z.S}{x:Str}{cs:List Z.S}(hC:PySem.W.nsIn K mainGlobals x=some (some (.ref C)))(l:PySem.W.exmOne K (.ref C) (.ref Cb)=some true)(r:uW K cs Cb)(hx:x=⟨c.toArray⟩:=by rfl):uW K (c::cs) Cb:=by
 subst hx;intro c' h C' hn;rcases List.mem_cons.mp h with rfl | h
 ·rw[hC]at hn;cases hn;exact l
 ·exact r c' h C' hn
theorem WW {j:Nat}{C Cb:Addr}{n cx:Str}{cn:Z.S}{xi:Int}{b₀:Stmt}{suite:List Stmt}{hs:Z.aB}{cxp hpos:Pos}{rest:List ExceptHandler}{pins:List (Addr×Obj)}{σ:L2.St}{H H1 H2:Hp}{s1 s2:Shared}{ea:Addr}{ρ bQ:List Addr}{h2:Z.AH}{τ:Z.Lo}{N:Z.En}{D:Ends}
  (hN:X.N.Nodup) (hst:X.stack=X.env::X.outer) (hfr:X.env.frame=some X.env.locals) (hex:X.ex=[]) (hcx:X.mg cx=some (.ref Cb)) (hcn:PySem.W.nsIn X.K mainGlobals ⟨cn.toArray⟩=some (some (.ref C))) (hmt:PySem.W.exmOne X.K (.ref C) (.ref Cb)=some true)
  (hh:∀(e:Value) (xe:Value->Shared->Prop),qK (hand X e xe) sub Γ E (b₀::suite) hs) (hj:X.N[j]?=some n) (hl:X.env.scope.names.lookup n=some .local) (hgc:Gl X cx) (hdc:(cx == ("__debug__":Str))=false)
  (I1:Inv X pins σ H1 s1) (I2:Inv X pins σ H2 s2) (x2:ExcAt s1.heap s2.heap H2 (some xi) C ea) (th:∀b o,s1.heap.get? b=some o->∃o',s2.heap.get? b=some o') (e2:Ext X.K ρ H bQ H2) (R2:Rep X.K bQ h2 H2) (L:cJ X.K ρ H τ σ) (k:L_ X.K ρ H N D)
  (wh:Z.bN sub Γ E hs {nx:=λσ' h'=>N.nx (σ'.set j none) h',rt:=N.rt,bk:=λσ' h'=>N.bk (σ'.set j none) h',ct:=λσ' h'=>N.ct (σ'.set j none) h'} (τ.set j (some (.ref h2.length))) (h2++[.cW cn xi])):
  wpAny (model X.prog X.w) X.A (noteFrame (.ref ea) X.env) (λ_ s₂=>wpAny (model X.prog X.w) X.A (setFlight (.ref ea) none) (λ_ s₃=>wpAny (model X.prog X.w) X.A (handleBy (.ref ea) X.env (.ExceptHandler (some (.Name cx cxp)) (some n) (b₀::suite) hpos::rest)) (SP X pins D) X.xe s₃) X.xe s₂) X.xe s2:=by
 have hg0:∀b,s1.heap.get? b=none->X.s₀.heap.get? b=none:=MF I1 hex;have Mz:∀p∈X.pn++pins,∃o,s1.heap.get? p.1=some o:=λp hp=>⟨_,(I1.pin p hp).1⟩
 refine Wu I2 hst hfr x2 th hg0 Mz λh3 I3 hg3 x3=>?_;refine wpAny_handleBy_cons (codeAny_handlers_test (iy (X:=hand X (.ref ea) λ_ _=>False) (Qq I3) hgc hcx ?_ hdc)) (by intro q;cases q);obtain ⟨oe,vs',he3,hc3,_⟩:=x3.at_;refine (PySem.W.exm_one (M:=model X.prog X.w) I3.cZ (hc3 ▸ (PySem.W.Looks.ld he3).andThen .now) hmt).here ?_;refine codeAny_handlers_suite_as (acs I3 x3 hg3 hg0 Mz λh4 I4 hg4 x4=>?_);obtain ⟨oe,vs4,he4,hc4,⟨dx,od,GX,hx4⟩,afn,_⟩:=x4.at_;have np:∀p∈X.pn++pins,p.1≠ea:=λp hp z=>by
  obtain ⟨o,eo⟩:=Mz p hp;rw[z,x4.new]at eo;cases eo
 have I5:=YZ I4 (hg0 ea x4.new) x4.free he4 ⟨vs4,afn⟩ np;refine jN I5 hN hj (.inl hl) (v:=.ref ea) rfl (λs6 I6=>?_) (.inr hl);have eA:Ext X.K bQ H2 (bQ++[ea]) (upd H2 ea (.bY oe (.own 0))):=Ext.alloc x4.free;have R3:Rep X.K (bQ++[ea]) (h2++[.cW cn xi]) (upd H2 ea (.bY oe (.own 0))):=R2.alloc (ob:=.cW cn xi) x4.free ⟨C,oe,dx,od,hcn,aZ,eA.bY _ _ _ hx4,hc4,GX,by unfold PySem.W.notCls;rw[afn]⟩;have rx:ao X.K (bQ++[ea]) (upd H2 ea (.bY oe (.own 0))) (.ref h2.length) (.ref ea):=by
  simp only[ao];exact ⟨ea,rfl,by rw[<-R2.len,List.getElem?_append_right (Nat.le_refl _)];simp⟩
 refine bI (hh (.ref ea) _ pins s6 (σ.set j (some (.ref ea))) (upd H2 ea (.bY oe (.own 0))) (aa3 D j) (Qq I6) ⟨bQ++[ea],h2++[.cW cn xi],τ.set j (some (.ref h2.length)),_,R3,(L.mono (e2.trans eA)).set rx,wh,?_⟩) λfl s7 q=>ae7 I1.ok hN hj hl q;have eB:=e2.trans eA;exact ⟨λkY h' ρ' H' σ' e' R' L' q=>k.nx _ h' ρ' H' _ (eB.trans e') R' (L'.unset j) q,λd h' ρ' H' v e' R' r' q=>k.rt d h' ρ' H' v (eB.trans e') R' r' q,λkY h' ρ' H' σ' e' R' L' q=>k.bk _ h' ρ' H' _ (eB.trans e') R' (L'.unset j) q,λkY h' ρ' H' σ' e' R' L' q=>k.ct _ h' ρ' H' _ (eB.trans e') R' (L'.unset j) q⟩
theorem aiD (i j:Nat){Cb:Addr}{n cx:Str}{cs:List Z.S}{body:List Stmt}{cc:Z.CC}{b₀:Stmt}{suite:List Stmt}{hs:Z.aB}{cxp hpos pos:Pos}{rest:List ExceptHandler}
  (hc:LC X sub Γ E i body cc) (hN:X.N.Nodup) (hst:X.stack=X.env::X.outer) (hfr:X.env.frame=some X.env.locals) (hex:X.ex=[]) (hcx:X.mg cx=some (.ref Cb)) (hcs:uW X.K cs Cb)
  (hh:∀(e:Value) (xe:Value->Shared->Prop),qK (hand X e xe) sub Γ E (b₀::suite) hs)
  (hj:X.N[j]?=some n:=by rfl) (hl:X.env.scope.names.lookup n=some .local:=by rfl) (hgc:Gl X cx:=by rfl) (hdc:(cx == ("__debug__":Str))=false:=by decide):
  LS X sub Γ E (.Try body (.ExceptHandler (some (.Name cx cxp)) (some n) (b₀::suite) hpos::rest) [] [] pos) (.Le i cc cs j hs):=by
 intro pins s σ H D I ⟨ρ,h,τ,N,R,L,w,k⟩;simp only[Z.wpS]at w;refine wpAny_Try_except (hc pins s σ H ρ h τ _ _ _ _ I R L w (λs2 v H2 bQ h2 d2 I2 e2 R2 r2 q=>?_) λs1 H1 s2 H2 ea C xr cn bQ h2 I1 I2 x2 th e2 R2 hn q=>?_)
 ·exact wpAny_execs_nil ⟨_,H2,I2,k.nx _ h2 bQ H2 _ e2 R2 ((L.mono e2).set r2) q⟩
 ·obtain ⟨c,r,e1,hm,q⟩:=q;cases xr with
  | none=>cases e1
  | some i'=>
   cases e1;exact WW hN hst hfr hex hcx hn (hcs _ hm C hn) hh hj hl hgc hdc I1 I2 x2 th e2 R2 L k q
end
end ZS
namespace ZS
open PySem PySem.Spec PyProof.Rows L2
noncomputable def Itc (x:Str):It:=⟨λi _=>i < x.cps.size,λi H v H'=>H'=H/\∃c,x.cps[i]?=some c/\v=.str ⟨#[c]⟩,λi _=>x.cps.size<=i⟩
theorem Zh {P:Program}{w:World}{K:PySem.W.Frag}{tg:Expr}(x:Str)(t:Tok)(it:Addr):Turn P w K tg (Itc x) [it] it (λi h=>h.IsStrIter it (strIterType x) x t i) where
 mem:=by simp
 obj:=λi h st b hb=>by
  have e:b=it:=by simpa using hb
  subst e;obtain ⟨o,e,c,d⟩:=st;exact ⟨o,e,λv z=>by rw[d]at z;cases z⟩
 keep:=λi h h' st k=>let ⟨o,e,r⟩:=st;⟨o,k it (by simp) o e,r⟩
 item:=by
  intro X hP hw hK hc i pins s σ H E I hf st hg;subst hP hw hK;obtain ⟨f0,f1,f2,f3,f4,f5⟩:=hf it (by simp);have fin:∀u h' tk,SignAt x i u->h'.IsStrIter it (strIterType x) x t (i+1)->(∀b o,b∉[it]->s.heap.get? b=some o->h'.get? b=some o)->∃u',some u=some u'/\wpAny (model X.prog X.w) X.A (letOwnedTupleGo tg (.ref it) u') (λ_ s2=>∃x' H',Inv X pins σ H' s2/\RelV x' u'/\(Itc x).VP i H x' H'/\s2.heap.IsStrIter it (strIterType x) x t (i+1)/\∀b∈[it],H' b=none) E {s with heap:=h',toks:=tk}:=by
   intro u h' tk hv st' kk;obtain ⟨c,tu,e1,rfl⟩:=hv;have I1:Inv X pins σ H {s with heap:=h',toks:=tk}:=I.turned (λb o hb e=>kk b o (by simpa using hb) e) f0 f1 f3 f4 f5;obtain ⟨o,e,cl,d⟩:=id st';refine ⟨_,rfl,Du (s:={s with heap:=h',toks:=tk}) e cl d ?_ ⟨.str ⟨#[c]⟩,H,I1,⟨_,rfl⟩,⟨rfl,c,e1,rfl⟩,st',λb hb=>(hf b hb).1⟩⟩;unfold strIterType;split<;>decide
  cases ha:x.cps.all (·< 128)
  ·have eT:strIterType x="str_iterator":=by unfold strIterType;rw[ha];rfl
   rw[eT]at st fin;exact (Walks.strWide (prog:=X.prog) (w:=X.w) (I.ok.hd hc) it x t).item i s _ _ hg st λv h' tk hv st' kk=>by
    rw[eT];exact fin v h' tk hv st' kk
  ·have eT:strIterType x="str_ascii_iterator":=by unfold strIterType;rw[ha];rfl
   rw[eT]at st fin;exact (Walks.strAscii (prog:=X.prog) (w:=X.w) (I.ok.hd hc) it x t).item i s _ _ hg st λv h' tk hv st' kk=>by
    rw[eT];exact fin v h' tk hv st' kk
 done:=by
  intro X hP hw hK hc i pins s σ H E I hf st hg;subst hP hw hK;obtain ⟨f0,f1,f2,f3,f4,f5⟩:=hf it (by simp);have hx:x.cps[i]?=none:=Array.getElem?_eq_none_iff.mpr hg;cases ha:x.cps.all (·< 128)
  ·have eT:strIterType x="str_iterator":=by unfold strIterType;rw[ha];rfl
   rw[eT]at st;exact wpAny_pyNext_wide_end (I.ok.hd hc) st hx λh' eb=>⟨rfl,I.turned (t':=s.toks) (λb o hb e=>eb b o hb e) f0 f1 f3 f4 f5⟩
  ·have eT:strIterType x="str_ascii_iterator":=by unfold strIterType;rw[ha];rfl
   rw[eT]at st;exact wpAny_pyNext_ascii_end (I.ok.hd hc) st hx λh' eb=>⟨rfl,I.turned (t':=s.toks) (λb o hb e=>eb b o hb e) f0 f1 f3 f4 f5⟩
 self:=λ_ _ s _ _ st h=>by
  cases ha:x.cps.all (·< 128)
  ·have eT:strIterType x="str_iterator":=by unfold strIterType;rw[ha];rfl
   rw[eT]at st;exact wpAny_pyIter_striter_wide st h
  ·have eT:strIterType x="str_ascii_iterator":=by unfold strIterType;rw[ha];rfl
   rw[eT]at st;exact wpAny_pyIter_striter_ascii st h
section
variable {X:Cx}{tg:Expr}
theorem afp {l:Expr}{tl:TE}(hl:PE X l tl):PI X tg l (λσ H R=>tl σ H λx H1=>∃y,x=.str y/\R (Itc y) H1):=by
 intro pins s σ H R I h;refine bI (hl pins s σ H _ I h) λv s1 ⟨x,H1,I1,r1,y,e,q⟩=>?_;subst e;obtain ⟨t,rfl⟩:=r1;refine wpAny_pyIter_strU ?_;refine ⟨s1.heap.objs.size,[s1.heap.objs.size],_,_,H1,rfl,I1.kept (t':=s1.toks) λb o e=>Heap.get?_push_of_some _ e,Zh y t _,⟨_,Heap.get?_push_size _ rfl,rfl,rfl⟩,λb hb=>?_,q⟩;have e:b=s1.heap.objs.size:=by simpa using hb
 subst e;exact I1.Fp (Nat.le_refl _) (I1.hok.fresh (Nat.le_refl _))
end
variable [r0:R0]
section
variable {X:Cx}{sub:Nat->Nat->Bool}{Γ:Z.b_}{E:Z.PX}
theorem WX {tg l:Expr}{e':Z.Ex}(hl:LE X sub Γ E l e'):LI X sub Γ E tg l .chr (.cons e' .nil):=by
 refine PIw (afp hl) ?_;rintro σ H Rr ⟨ρ,h,τ,Q',R,L,w,k⟩;simp only[Z.bH]at w;refine ⟨ρ,h,τ,_,R,L,w,λd h1 aL H1 x e1 R1 r1 w1=>?_⟩;obtain ⟨J,eJ,hk⟩:=k [d] h1 aL H1 [x] e1 R1 (.one r1) w1;cases d with
 | str s=>
  simp only[ao]at r1;obtain ⟨rfl,hl⟩:=r1;cases eJ;refine ⟨_,rfl,hk _ ?_⟩;intro i bQ h2 H2 e2 R2;unfold Z.qH;rw[List.getElem?_map];cases e:s[i]? with
  | none=>
   show (⟨s.toArray⟩:Str).cps.size<=i;have:=List.getElem?_eq_none_iff.mp e;simpa using this
  | some c=>
   have hi:=(List.getElem?_eq_some_iff.mp e).1;refine ⟨(by show i < (⟨s.toArray⟩:Str).cps.size;simpa using hi),λv H' hy=>?_⟩;obtain ⟨eH,c',e3,rfl⟩:=hy;have:c'=c:=by
    have e4:s[i]?=some c':=by simpa using e3
    rw[e]at e4;cases e4;rfl
   subst this;refine mz R2 eH ?_;simp only[ao];exact ⟨trivial,by simp[Z.lim]⟩
 | _=>cases eJ
theorem Sh:bT X (binaryOp .Mult) (λx y H Q=>∃i n,x=.str i/\y=.int n/\MulOk i n/\Q (.str (Txt.mul i n)) H):=by
 intro pins s σ H x y v u Q I rx ry h;obtain ⟨i,n,rfl,rfl,hz,q⟩:=h;obtain ⟨t,rfl⟩:=rx;obtain ⟨t',rfl⟩:=ry;exact SB.mul hz λt' tk=>⟨.str _,H,I.tok _,⟨_,rfl⟩,q⟩
theorem foldl_rep {s:List Nat}:∀{n:Nat} {acc:Array Nat},(List.replicate n s.toArray).foldl (·++·) acc=acc++((List.replicate n s).flatten).toArray
 | 0,acc=>by simp
 | n+1,acc=>by
  rw[List.replicate_succ,List.foldl_cons,foldl_rep,List.replicate_succ,List.flatten_cons];simp
theorem acH {s:List Nat}{k:Int}:Txt.mul ⟨s.toArray⟩ k=⟨((List.replicate k.toNat s).flatten).toArray⟩:=by
 unfold Txt.mul;by_cases h1:k < 1
 ·rw[if_pos h1,show k.toNat=0 by omega];rfl
 ·rw[if_neg h1];by_cases h2:((k == 1 || (⟨s.toArray⟩:Str).length == 0)=true)
  ·rw[if_pos h2];simp only[Bool.or_eq_true,beq_iff_eq]at h2;rcases h2 with rfl | h2
   ·simp
   ·have:s=[]:=by
     have:s.length=0:=h2;exact List.length_eq_zero_iff.mp this
    subst this;simp
  ·rw[if_neg h2,foldl_rep];simp
theorem GZ:bT X (binaryOp .Mult) (λx y=>rP X.K sub .Fg [x,y]):=uE Sh (by
 rintro x y H Q ⟨ρ,h,ds,d,h',R,r,q,k⟩;obtain ⟨d1,d2,rfl,r1,r2⟩:=gQ r;change Z.Rp _ _=_ at q;unfold Z.Rp at q;split at q
 ·rename_i s n e;cases e;split at q
  ·rename_i hh;cases q;simp only[Bool.and_eq_true,decide_eq_true_eq]at hh;obtain ⟨h1,h2⟩:=hh;have h3:=Z.Dm.mp h1;simp only[ao]at r1 r2;obtain ⟨rfl,l1⟩:=r1;subst r2;have hlen:(⟨s.toArray⟩:Str).length=s.length:=by rw[kZ]
   have hlim:Z.lim=16777216:=rfl;refine ⟨_,_,rfl,rfl,⟨?_,λh4 _=>?_,λh4 _=>?_⟩,?_⟩
   ·simp only[Bool.or_eq_false_iff,decide_eq_false_iff_not];constructor<;>omega
   ·intro z;rw[hlen]at z;have hk:(0:Int) < n:=by omega
    have:(s.length:Int)<=(2 ^ 63 - 1) / n:=by
     refine Int.le_ediv_of_mul_le hk ?_;have h5:(s.length * n.toNat:Nat)<=16777216:=by rw[<-hlim];exact h2
     have h6:((s.length * n.toNat:Nat):Int)=(s.length:Int) * n:=by
      rw[Int.natCast_mul,Int.toNat_of_nonneg (by omega)]
     rw[<-h6];omega
    omega
   ·rw[hlen];have:s.length * n.toNat<=sizeLine:=by rw[<-jP];exact h2
    unfold Builtin.Str.tooLong;simp only[decide_eq_false_iff_not];omega
   ·rw[acH];refine k ρ H _ .refl R ?_;simp only[ao];refine ⟨trivial,?_⟩;rw[List.length_flatten,List.map_replicate,List.sum_replicate_nat,Nat.mul_comm];exact h2
  ·cases q
 ·cases q)
theorem M7 {C:Addr}{x:Str}{cn:Z.S}{e:Expr}{e':Z.Ex}{np cpos pos:Pos}(hm:X.mg x=some (.ref C))(hk:PySem.W.keepIn X.K (.ref C)=true)
  (he:LE X sub Γ (Z.EF E) e e') (hg:Gl X x:=by rfl) (hdb:(x == ("__debug__":Str))=false:=by decide) (hs:starEach [e] X.env=(false,eval e X.env)::starEach [] X.env:=by rfl) (hpl:(backTo cpos (starEach [] X.env)).any (·.1)=false:=by rfl):
  LS X sub Γ (Z.EF E) (.Raise (some (.Call (.Name x np) [e] [] cpos)) none pos) (.vZ cn e'):=by
 intro pins s σ H D I ⟨ρ,h,τ,N,R,L,w,k'⟩;simp only[Z.wpS]at w;rw[arm_exec_Raise];have ha:PA X [e] _:=fV he nH hs;have main:∀Q:Value->Shared->Prop,wpAny (model X.prog X.w) X.A (eval (.Call (.Name x np) [e] [] cpos) X.env) Q X.xe s:=by
  intro Q;refine wpAny_Call_Name_kw (iy I hg hm ?_ hdb);refine PySem.W.callWith_K (h₀:=X.base) I.ok.mod.El hk (bI (ha cpos pins s σ H (λvs H1=>False) I ?_) λus s1 ⟨vs,H1,I1,r,q⟩=>q.elim) hs hpl;refine ⟨ρ,h,τ,_,R,L,w,λd1 h1 aL H1 v e1 R1 r1 w1=>?_⟩;cases d1 with
  | int i=>exact w1.elim
  | _=>exact w1.elim
 refine wpAny_bind (wpAny_standAt ?_);simp only[evalOpt,Option.map];unfold raiseStmt;exact wpAny_bind (wpAny_bind (main _))
end
end ZS
namespace ZS
open PySem PySem.Spec PyProof.Rows L2
theorem afq {l:PySem.W.OpenLaw}{kk kd i:Nat}{sub:Nat->Nat->Bool}{Pg:List Z.Def}{q:Program}{loose:List Str}{XP:(Str->Option Value)->Heap->Prop}{YP:World->Heap->Prop}{d:DefRec}{K:Params->PySem.W.Frag}(hn:l.most=some 63)(hdf:d.params.defaults=[])(hr:cR kk callerA)
  (hY:∀(w:World) (h:Heap),YP w h->(K w.params).In h)
  (hw:∀ns:List Int,ns.length<=63->Z.aD sub Pg kd i [.eY (ns.map .int)] [] (λd _=>d=.bl true) λ_ _=>False)
  (F:∀(w:World) (mg:Str->Option Value) (fa:Addr) (h:Heap),(K w.params).In h->h.Ns mainGlobals mg->mg d.name=some (.ref fa)->
   ∃fd:FuncData,(∀(s:Shared) (u:Value),BindsTo s fd ⟨[u],[]⟩ [("script",u)])/\∀base:Heap,(K w.params).In base->base.Ns mainGlobals mg->aX l.prog w (K w.params) mg base bO kk fa fd ["script"] (@bA R0.nil (K w.params) (Z.aD sub Pg kd) i)):
  PySem.W.WalkO q loose XP YP l.row.toRowW d [] (λf vs=>PySem.call f vs):=
 L2.ab0 (n:=63) (k:=kk) (x:="script") (CX:=λ_=>bO) (sp:=λw=>@bA R0.nil (K w.params) (Z.aD sub Pg kd) i) hn (by decide) hdf hr hY F (λ_ _ a ns hl hO hS hZ=>YW hO hS hZ (hw ns hl)) λ_ _ _ _ _ z=>z
variable [R0]
theorem cg {P:Program}{w:World}{K:PySem.W.Frag}{mg:Str->Option Value}{base:Heap}{sub:Nat->Nat->Bool}{Pg:List Z.Def}{x:Str}{st:Stmt}{f:Addr}{fd:FuncData}{N ps:List Str}{r k i:Nat}{df:Z.Def}(F:dU K x x st f fd)(S:bw N ps (aG st))(hi:Pg[i]?=some df)(hN:N.length=df.nl)(hp:ps.length=df.np)
  (J:∀(cdv:Value) (A:Around) (outer:List Env) (s:Shared) (H:Hp) (E:XK) (E':Z.PX),cR r (A.deeper (envOfC x (aG st) s.heap.objs.size f cdv))->qK (iW bO P w K mg base N x (aG st) f cdv A outer s H E).qJ sub (Z.aD sub Pg k) (Z.EF E') (aW st) df.body):
  aX P w K mg base bO (r+1) f fd ps (bA K (Z.aD sub Pg (k+1)) i):=by
 refine F.ok S (λvs H Q E h=>?_) (λcdv A outer s H vs Q E hr h=>?_)
 ·obtain ⟨ρ,h,ds,Q',E',R,rr,w,kk⟩:=h;simp only[Z.aD,hi]at w;rw[<-rr.length,hp];exact w.1
 ·obtain ⟨ρ,h,ds,Q',E',R,rr,w,kk⟩:=h;simp only[Z.aD,hi]at w;exact Il (sub:=sub) (Γ:=Z.aD sub Pg k) (E:=Z.EF E') (df:=df) rfl hN w.1 (J cdv A outer s H E E' hr) R rr w.2 kk
theorem bW {P:Program}{w:World}{K:PySem.W.Frag}{mg:Str->Option Value}{base:Heap}{sub:Nat->Nat->Bool}{Pg:List Z.Def}{f:Addr}{fd:FuncData}{ps:List Str}{r i:Nat}:aX P w K mg base bO r f fd ps (bA K (Z.aD sub Pg 0) i):=by
 have no:∀vs H Q E,¬bA K (Z.aD sub Pg 0) i vs H Q E:=λvs H Q E h=>by
  obtain ⟨ρ,h,ds,Q',E',R,rr,w,kk⟩:=h;simp only[Z.aD]at w
 exact ⟨λvs H Q E h=>absurd h (no vs H Q E),λA outer s H args us vs Q E _ _ _ _ h=>absurd h (no vs H Q E)⟩
theorem Zi {P:Program}{w:World}{K:PySem.W.Frag}{mg:Str->Option Value}{base:Heap}{sub:Nat->Nat->Bool}{Pg:List Z.Def}{x:Str}{st:Stmt}{f T:Addr}{fd:FuncData}{N ps:List Str}{r k i:Nat}{df:Z.Def}(F:FW K x x st f T fd)(S:bw N ps (aG st))(hi:Pg[i]?=some df)(hN:N.length=df.nl)(hp:ps.length=df.np)
  (J:∀(cdv:Value) (A:Around) (outer:List Env) (s:Shared) (H:Hp) (E:XK) (E':Z.PX),cR r (A.deeper (envOfC x (aG st) s.heap.objs.size f cdv))->qK (iW bO P w K mg base N x (aG st) f cdv A outer s H E).qJ sub (Z.aD sub Pg k) (Z.EF E') (aW st) df.body):
  aX P w K mg base bO (r+1) f fd ps (bA K (Z.aD sub Pg (k+1)) i):=by
 obtain ⟨oc,od,kV,doc,pm,an,cdv,ct,osl,rfl,lk,hcd⟩:=F.ex;refine RG lk hcd S (λvs H Q E h=>?_) (λA outer s H vs Q E hr h=>?_)
 ·obtain ⟨ρ,h,ds,Q',E',R,rr,w,kk⟩:=h;simp only[Z.aD,hi]at w;rw[<-rr.length,hp];exact w.1
 ·obtain ⟨ρ,h,ds,Q',E',R,rr,w,kk⟩:=h;simp only[Z.aD,hi]at w;obtain ⟨t,q1,q2⟩:=Il (sub:=sub) (Γ:=Z.aD sub Pg k) (E:=Z.EF E') (df:=df) rfl hN w.1 (J cdv A outer s H E E' hr) R rr w.2 kk;exact ⟨t,q1.qJ,q2⟩
theorem Zj {P:Program}{w:World}{K:PySem.W.Frag}{mg:Str->Option Value}{base:Heap}{sub:Nat->Nat->Bool}{Pg:List Z.Def}{x:Str}{st:Stmt}{f:Addr}{fd:FuncData}{N ps:List Str}{r k i:Nat}{df:Z.Def}(F:FnD K x st f fd)(S:bw N ps (aG st))(hi:Pg[i]?=some df)(hN:N.length=df.nl)(hp:ps.length=df.np)
  (J:∀(cdv:Value) (A:Around) (outer:List Env) (s:Shared) (H:Hp) (E:XK) (E':Z.PX),cR r (A.deeper (envOfC x (aG st) s.heap.objs.size f cdv))->qK (iW bO P w K mg base N x (aG st) f cdv A outer s H E).qJ sub (Z.aD sub Pg k) (Z.EF E') (aW st) df.body):
  aX P w K mg base bO (r+1) f fd ps (bA K (Z.aD sub Pg (k+1)) i):=by
 obtain ⟨T,F⟩:=F;exact Zi F S hi hN hp J
theorem Zk {P:Program}{w:World}{K:PySem.W.Frag}{mg:Str->Option Value}{base:Heap}{sub:Nat->Nat->Bool}{Pg:List Z.Def}{f:Addr}{fd:FuncData}{ps:List Str}{r i:Nat}:aX P w K mg base (qM P w) r f fd ps (EY K (Z.aD sub Pg 0) i):=by
 have no:∀vs H Q E,¬EY K (Z.aD sub Pg 0) i vs H Q E:=λvs H Q E h=>by
  obtain ⟨ρ,h,ds,Q',E',R,rr,w,kk,kx⟩:=h;simp only[Z.aD]at w
 exact ⟨λvs H Q E h=>absurd h (no vs H Q E),λA outer s H args us vs Q E _ _ _ _ h=>absurd h (no vs H Q E)⟩
theorem WY {P:Program}{w:World}{K:PySem.W.Frag}{mg:Str->Option Value}{base:Heap}{sub:Nat->Nat->Bool}{Pg:List Z.Def}{x:Str}{st:Stmt}{f:Addr}{fd:FuncData}{N ps:List Str}{r k i:Nat}{df:Z.Def}(F:FnD K x st f fd)(S:bw N ps (aG st))(hi:Pg[i]?=some df)(hN:N.length=df.nl)(hp:ps.length=df.np)
  (J:∀(cdv:Value) (A:Around) (outer:List Env) (s:Shared) (H:Hp) (E:XK) (E':Z.PX),cR r (A.deeper (envOfC x (aG st) s.heap.objs.size f cdv))->XOk (iW (qM P w) P w K mg base N x (aG st) f cdv A outer s H E) E'->qK (iW (qM P w) P w K mg base N x (aG st) f cdv A outer s H E) sub (Z.aD sub Pg k) E' (aW st) df.body):
  aX P w K mg base (qM P w) (r+1) f fd ps (EY K (Z.aD sub Pg (k+1)) i):=by
 obtain ⟨T,F⟩:=F;obtain ⟨oc,od,kV,doc,pm,an,cdv,ct,osl,rfl,lk,hcd⟩:=F.ex;refine RG lk hcd S (λvs H Q E h=>?_) λA outer s H vs Q E hr h=>?_
 ·obtain ⟨ρ,h,ds,Q',E',R,rr,w,kk,kx⟩:=h;simp only[Z.aD,hi]at w;rw[<-rr.length,hp];exact w.1
 ·obtain ⟨ρ,h,ds,Q',E',R,rr,w,kk,kx⟩:=h;simp only[Z.aD,hi]at w;refine Il (sub:=sub) (Γ:=Z.aD sub Pg k) (E:=E') (df:=df) rfl hN w.1 (J cdv A outer s H E E' hr ?_) R rr w.2 kk;intro pins σ H1 s1 ea C xr aL h1 cn I x R1 hc he;exact aiz I x (kx cn C xr h1 aL H1 R1 hc he)
theorem afr {X:Cx}{k:Nat}{fI C:Addr}{fd:FuncData}{x qual:Str}{st:Stmt}{p1 p2 p3 p4:Pos}(F:dU X.K x qual st fI fd)(S:bw ["self","row"] ["self","row"] (aG st))(hb:aW st=[.Assign [.Attribute (.Name "self" p1) "row" p2] (.Name "row" p3) p4])(v1:Gj (aG st) "self")(v2:Gj (aG st) "row")
  (hs:∀env:Env,env.scope=aG st->swapsWith (.Name "row" p3) (some (.Attribute (.Name "self" p1) "row" p2)) p4.line env=pure false) (ex:w6 X.K fI C) (fn:PySem.W.isFn X.K (.ref fI)=true) (bi:Binds X.K fd ["self","row"] []) (kp:PySem.W.keepIn X.K (.ref C)=true):KJ X (k+1) fI fd C:=
 ⟨ex,fn,acD F S hb v1 v2 hs,bi,kp⟩
end ZS
namespace ZS
open PySem PySem.Spec PyProof.Rows L2
variable [R0]
section
variable {X:Cx}{sub:Nat->Nat->Bool}{Γ:Z.b_}{E:Z.PX}
theorem afs:bT X (compareOp .NotIn) (λx y=>rP X.K sub .HJ [x,y]):=uE Lx (by
 rintro x y H Q ⟨ρ,h,ds,d,h',R,rs,hp,k⟩;obtain ⟨d1,d2,rfl,r1,r2⟩:=gQ rs;cases d1 with
 | str a=>
  cases d2 with
  | str b=>
   simp only[Z.Dq,Z.Dn,Option.some.injEq,Prod.mk.injEq]at hp;obtain ⟨rfl,rfl⟩:=hp;simp only[ao]at r1 r2;obtain ⟨rfl,_⟩:=r1;obtain ⟨rfl,_⟩:=r2;exact ⟨_,_,rfl,rfl,k ρ H _ .refl R (by simp only[ao];rw[Qt])⟩
  | _=>simp[Z.Dq,Z.Dn]at hp
 | _=>simp[Z.Dq,Z.Dn]at hp)
theorem Zm:∀ds h d h',Z.prim sub .HJ ds h=some (d,h')->∃c,d=.bl c:=by
 intro ds h d h' q;simp only[Z.Dq]at q;unfold Z.Dn at q;split at q
 ·simp only[Option.some.injEq,Prod.mk.injEq]at q;exact ⟨_,q.1.symm⟩
 ·cases q
noncomputable def Itb (K:PySem.W.Frag) (a:Addr) (n:Nat):It:=
 ⟨λi H=>∃xs x,g_ K H a xs/\xs.length=n/\i < n/\xs[n - 1 - i]?=some x,λi H x H'=>H'=H/\∀xs,g_ K H a xs->xs[n - 1 - i]?=some x,λi H=>n<=i⟩
theorem Zn {P:Program}{w:World}{K:PySem.W.Frag}{tg:Expr}(a it:Addr)(n:Nat):Turn P w K tg (Itb K a n) [it] it (λi h=>i<=n/\h.IsRevIter it a ((n:Int) - 1 - i)) where
 mem:=by simp
 obj:=λi h st b hb=>by
  have e:b=it:=by simpa using hb
  subst e;obtain ⟨_,o,e,c,d⟩:=st;exact ⟨o,e,λv z=>by rw[d]at z;cases z⟩
 keep:=λi h h' st k=>⟨st.1,st.2.at λo e=>k it (by simp) o e⟩
 item:=by
  intro X hP hw hK hc i pins s σ H E I hf st hg;subst hP hw hK;obtain ⟨xs,x,hq,hlen,hi,hx⟩:=hg;obtain ⟨its,rv,p,hz⟩:=I.list hq;obtain ⟨u,hu,ru⟩:=rv.get hx;obtain ⟨f0,f1,f2,f3,f4,f5⟩:=hf it (by simp);have st2:s.heap.IsRevIter it a ((n - 1 - i:Nat):Int):=by
   have e:((n - 1 - i:Nat):Int)=(n:Int) - 1 - i:=by omega
   rw[e];exact st.2
  refine wpAny_pyNext_rev_item st2 p.isList (x:=u) (by simpa using hu) λh' st' sb=>?_;have I1:Inv X pins σ H {s with heap:=h'}:=I.turned (t':=s.toks) (λb o hb e=>(sb.2 b hb).trans e) f0 f1 f3 f4 f5;have st3:h'.IsRevIter it a ((n:Int) - 1 - ((i+1:Nat):Int)):=by
   have e:(n:Int) - 1 - ((i+1:Nat):Int)=((n - 1 - i:Nat):Int) - 1:=by omega
   rw[e];exact st'
  obtain ⟨o,e,c,d⟩:=id st';exact ⟨u,rfl,Du (s:={s with heap:=h'}) e c d (by decide) ⟨x,H,I1,ru,⟨rfl,λys hy=>by rw[I.Fl hy hq];exact hx⟩,⟨hi,st3⟩,λb hb=>(hf b hb).1⟩⟩
 done:=by
  intro X hP hw hK hc i pins s σ H E I hf st hg;subst hP hw hK;obtain ⟨f0,f1,f2,f3,f4,f5⟩:=hf it (by simp);have hg:n<=i:=hg;have st2:s.heap.IsRevIter it a (-1):=by
   have e:(-1:Int)=(n:Int) - 1 - i:=by have:=st.1;omega
   rw[e];exact st.2
  exact wpAny_pyNext_rev_end (I.ok.hd hc) st2 λh' eb=>⟨rfl,I.turned (t':=s.toks) (λb o hb e=>eb b o hb e) f0 f1 f3 f4 f5⟩
 self:=λ_ _ _ _ _ st h=>wpAny_pyIter_revIter st.2 h
theorem Zo {K:PySem.W.Frag}{ρ:List Addr}{H:Hp}{n len:Nat}{a:Addr}(hn:ρ[n]?=some a):Fz K ρ H (Z.Gi n len) (Itb K a len):=by
 intro i aL h1 H1 e1 R1;have hn1:=e1.pre _ _ hn;unfold Z.Gi;cases e:h1[n]? with
 | none=>trivial
 | some o=>
  cases o with
  | lst xs=>
   obtain ⟨b,eb,ys,e2,rs⟩:=R1.at_ n _ e;rw[hn1]at eb;cases eb;dsimp only;by_cases hl:xs.length=len
   ·rw[if_pos hl];by_cases hi:i < len
    ·rw[if_pos hi];cases q:xs[len - 1 - i]? with
     | none=>have:=List.getElem?_eq_none_iff.mp q;omega
     | some d=>
      obtain ⟨y,q1,q2⟩:=rs.get q;refine ⟨⟨ys,y,.of e2,by rw[<-rs.length,hl],hi,q1⟩,λx H' hy=>?_⟩;obtain ⟨eH,hy⟩:=hy;have:=hy ys (.of e2);rw[q1]at this;cases this;exact mz R1 eH q2
    ·rw[if_neg hi];exact Nat.le_of_not_lt hi
   ·rw[if_neg hl];trivial
  | _=>trivial
theorem acI {tg a:Expr}{a':Z.Ex}{p pos:Pos}(hg:Gl X "reversed")(hm:X.mg "reversed"=none)(ha:LA X sub Γ E [a] (.cons a' .nil))
  (hs:starEach [a] X.env=(false,eval a X.env)::starEach [] X.env:=by rfl) (hpl:(backTo pos (starEach [] X.env)).any (·.1)=false:=by rfl):
  LI X sub Γ E tg (.Call (.Name "reversed" p) [a] [] pos) .rev (.cons a' .nil):=by
 intro pins s σ H Rr I ⟨ρ,h,τ,Q',R,L,w,k⟩;have up:YC X.K (Z.bH sub Γ E (.cons a' .nil)) σ H (λvs H1=>∃(l:Addr) (ys:List V),vs=[.ref l]/\H1 l=some (.lst ys)/\Rr (Itb X.K l ys.length) H1):=by
  refine ⟨ρ,h,τ,λds h1=>match ds with | [x]=>Q' [x] h1 | _=>False,R,L,(by simpa only[Z.bH] using w),λds h1 aL H1 vs e1 R1 r1 q=>?_⟩;obtain ⟨x,rfl⟩:∃x,ds=[x]:=by
   match ds,q with
   | [x],_=>exact ⟨x,rfl⟩
  obtain ⟨J,eJ,hk⟩:=k _ h1 aL H1 vs e1 R1 r1 q;cases x with
  | ref n=>
   simp only[Z.bU,Z.gY]at eJ;cases eo:h1[n]? with
   | none=>rw[eo]at eJ;cases eJ
   | some o=>
    cases o with
    | lst xs=>
     rw[eo]at eJ;cases eJ;obtain ⟨b,eb,ys,e2,rs⟩:=R1.at_ n _ eo;simp only[au,ao]at r1;obtain ⟨_,_,rfl,⟨c,rfl,q1⟩,rfl⟩:=r1;rw[q1]at eb;cases eb;exact ⟨b,ys,rfl,e2,rs.length ▸ hk _ (Zo q1)⟩
    | _=>rw[eo]at eJ;cases eJ
  | _=>cases eJ
 refine Call_ (uJ I hg hm Ez (PyProof.Rows.callWith_type1 (bI (ha pos pins s σ H _ I up) λus s1 ⟨vs,H1,I1,r1,l,ys,ev,hl,q⟩=>?_) hs hpl));subst ev;obtain ⟨u,rfl,ru⟩:=vals1 r1;cases ru;obtain ⟨its,vv,pl,_⟩:=I1.list (.of hl);refine call_reversed_list pl.isList ?_;have e:((its.toArray.size:Nat):Int) - 1=(ys.length:Int) - 1 - ((0:Nat):Int):=by rw[vv.length];simp
 rw[e];have I2:Inv X pins σ H1 {s1 with heap:=s1.heap.push (revObj l ((ys.length:Int) - 1 - ((0:Nat):Int))),toks:=s1.toks}:=I1.kept λb o e=>Heap.get?_push_of_some _ e;have hit:(s1.heap.push (revObj l ((ys.length:Int) - 1 - ((0:Nat):Int)))).IsRevIter s1.heap.objs.size l ((ys.length:Int) - 1 - ((0:Nat):Int)):=⟨_,Heap.get?_push_size _ rfl,rfl,rfl⟩
 refine wpAny_pyIter_revIter (s:={s1 with heap:=s1.heap.push (revObj l ((ys.length:Int) - 1 - ((0:Nat):Int)))}) hit ?_;refine ⟨s1.heap.objs.size,[s1.heap.objs.size],_,_,H1,rfl,I2,Zn l _ ys.length,⟨Nat.zero_le _,hit⟩,λb hb=>?_,q⟩;have e:b=s1.heap.objs.size:=by simpa using hb
 subst e;exact I1.Fp (Nat.le_refl _) (I1.hok.fresh (Nat.le_refl _))
end
end ZS
namespace Z
section
variable {sub:Nat->Nat->Bool}{Γ:b_}{E:PX}{K:En}{σ:Lo}{h:AH}{Q:PV}
theorem aiE {i:Nat}:aM sub Γ E (.var i) σ h Q=(match σ[i]? with | some (some v)=>Q v h | _=>False):=rfl
theorem aiF {d:D}:aM sub Γ E (.lit d) σ h Q=Q d h:=rfl
theorem afu {p:Prim}{es:cN}:aM sub Γ E (.prim p es) σ h Q=bH sub Γ E es σ h (λvs h1=>match prim sub p vs h1 with | some (v,h2)=>Q v h2 | none=>False):=rfl
theorem afv {a b:Ex}:aM sub Γ E (.uy a b) σ h Q=aM sub Γ E a σ h (λx h1=>match x with | .bl true=>aM sub Γ E b σ h1 Q | .bl false=>Q (.bl false) h1 | _=>False):=rfl
theorem aiG {a b:Ex}:aM sub Γ E (.orV a b) σ h Q=aM sub Γ E a σ h (λx h1=>match x with | .bl true=>Q (.bl true) h1 | .bl false=>aM sub Γ E b σ h1 Q | _=>False):=rfl
theorem aiH {c:Tx}{a b:Ex}:aM sub Γ E (.ite c a b) σ h Q=cQ sub Γ E c σ h (λk h1=>if k=true then aM sub Γ E a σ h1 Q else aM sub Γ E b σ h1 Q):=rfl
theorem afw {f:Nat}{es:cN}{ds:List D}:aM sub Γ E (.call f es ds) σ h Q=bH sub Γ E es σ h (λvs h1=>Γ f (vs++ds) h1 Q (EF E)):=rfl
theorem aiI {a b c:Ex}:aM sub Γ E (.slc a b c) σ h Q=aM sub Γ E a σ h (λx h1=>aM sub Γ E b σ h1 λy h2=>match y with
  | .int i=>aM sub Γ E c σ h2 λz h3=>match z with
   | .int j=>match dO x (some i) (some j) h3 with
    | some (v,h4)=>Q v h4
    | none=>False
   | _=>False
  | _=>False):=rfl
theorem aiJ {k:MK}{p:Prim}{o:Ex}{es:cN}:aM sub Γ E (.fC k p o es) σ h Q=aM sub Γ E o σ h (λx h1=>tyB h1 k x=true/\bH sub Γ E es σ h1 λvs h2=>match prim sub p (x::vs) h2 with
  | some (v,h3)=>Q v h3
  | none=>False):=rfl
theorem aiK {Q:List D->AH->Prop}:bH sub Γ E .nil σ h Q=Q [] h:=rfl
theorem afx {e:Ex}{es:cN}{Q:List D->AH->Prop}:bH sub Γ E (.cons e es) σ h Q=aM sub Γ E e σ h (λv h1=>bH sub Γ E es σ h1 λvs h2=>Q (v::vs) h2):=rfl
theorem aiL {e:Ex}{Q:Bool->AH->Prop}:cQ sub Γ E (.bF e) σ h Q=aM sub Γ E e σ h (λv h1=>match truthy h1 v with | some c=>Q c h1 | none=>False):=rfl
theorem aiM {a b:Tx}{Q:Bool->AH->Prop}:cQ sub Γ E (.and a b) σ h Q=cQ sub Γ E a σ h (λc h1=>if c=true then cQ sub Γ E b σ h1 Q else Q false h1):=rfl
theorem ama {a b:Tx}{Q:Bool->AH->Prop}:cQ sub Γ E (.or a b) σ h Q=cQ sub Γ E a σ h (λc h1=>if c=true then Q true h1 else cQ sub Γ E b σ h1 Q):=rfl
theorem aiN {a:Tx}{Q:Bool->AH->Prop}:cQ sub Γ E (.not a) σ h Q=cQ sub Γ E a σ h (λc h1=>Q (!c) h1):=rfl
theorem afy {Q:Bool->AH->Prop}:sE sub Γ E .none σ h Q=Q true h:=rfl
theorem aiO {t:Tx}{Q:Bool->AH->Prop}:sE sub Γ E (.one t) σ h Q=cQ sub Γ E t σ h Q:=rfl
theorem afz {e:Ex}:wpS sub Γ E (.expr e) K σ h=aM sub Γ E e σ h (λ_ h1=>K.nx σ h1):=rfl
theorem aiP {i:Nat}{e:Ex}:wpS sub Γ E (.asg i e) K σ h=aM sub Γ E e σ h (λv h1=>K.nx (σ.set i (some v)) h1):=rfl
theorem aiQ {is:List Nat}{e:Ex}:wpS sub Γ E (.Vy is e) K σ h=aM sub Γ E e σ h (λv h1=>match jy is v σ with | some σ'=>K.nx σ' h1 | none=>False):=rfl
theorem afA {o i v:Ex}:wpS sub Γ E (.iU o i v) K σ h=aM sub Γ E v σ h (λx h1=>aM sub Γ E o σ h1 λy h2=>aM sub Γ E i σ h2 λz h3=>match prim sub .iU [y,z,x] h3 with
  | some (_,h4)=>K.nx σ h4
  | none=>False):=rfl
theorem aiR {e:Ex}:wpS sub Γ E (.ret e) K σ h=aM sub Γ E e σ h K.rt:=rfl
theorem afB:wpS sub Γ E .Yg K σ h=K.rt .non h:=rfl
theorem aiS {c:Tx}{a b:aB}:wpS sub Γ E (.cC c a b) K σ h=cQ sub Γ E c σ h (λk h1=>if k=true then bN sub Γ E a K σ h1 else bN sub Γ E b K σ h1):=rfl
theorem aiT:wpS sub Γ E .brk K σ h=K.bk σ h:=rfl
theorem aiU:wpS sub Γ E .cnt K σ h=K.ct σ h:=rfl
theorem afC:wpS sub Γ E .pass K σ h=K.nx σ h:=rfl
theorem afD:bN sub Γ E .nil K σ h=K.nx σ h:=rfl
theorem iz {s:Sm}{ss:aB}:bN sub Γ E (.cons s ss) K σ h=wpS sub Γ E s {K with nx:=λσ' h'=>bN sub Γ E ss K σ' h'} σ h:=rfl
section
variable {i j:Int}{s t:S}{x y v:D}{xs ys:List D}{a b n:Nat}{p q:Bool}
theorem afE:prim sub .idx [.tup xs,.int i] h=(cB xs i).map λv=>(v,h):=rfl
theorem afF:prim sub .idx [.eY xs,.int i] h=(cB xs i).map λv=>(v,h):=rfl
theorem afG:prim sub .idx [.str s,.int i] h=(cB s i).map λc=>(.str [c],h):=rfl
theorem aQ (ha:h[a]?=some (.lst xs)):prim sub .idx [.ref a,.int i] h=(cB xs i).map λv=>(v,h):=by
 show (match h[a]? with | some (.dct kvs)=>_ | some (.lst xs)=>(cB xs i).map λv=>(v,h) | _=>none)=_;rw[ha]
theorem afH:prim sub .add [.str s,.str t] h=if s.length+t.length<=16777216 then some (.str (s++t),h) else none:=rfl
theorem afI:prim sub .Vw [.str s,.int i] h=some (.str (cut s none (some i)),h):=rfl
theorem afJ:prim sub .K8 [.str s,.int i] h=some (.str (cut s (some i) none),h):=rfl
theorem amb:prim sub .eq [x,y] h=(oJ h x y).map λb=>(.bl (b != false),h):=rfl
theorem amc:prim sub .ne [x,y] h=(oJ h x y).map λb=>(.bl (b != true),h):=rfl
theorem aa_ {k:KN}:prim sub (.jX k) [x] h=(gW h sub k x).map λb=>(.bl b,h):=rfl
theorem afK:prim sub .len [.eY xs] h=some (.int xs.length,h):=rfl
theorem afL:prim sub .len [.tup xs] h=some (.int xs.length,h):=rfl
theorem afM:prim sub .len [.str s] h=some (.int s.length,h):=rfl
theorem afN:prim sub .Ei [x,.tup ys] h=(dN x ys).map λb=>(.bl (b != false),h):=by cases x<;>rfl
theorem W0 (ha:h[a]?=some (.lst ys)):prim sub .kj [x,.ref a] h=(dN x ys).map λb=>(.bl (b != true),h):=by
 show Js true [x,.ref a] h=_;unfold Js;simp only[ha]
theorem aiV:prim sub .aax [] h=some (.ref h.length,h++[.dct []]):=rfl
theorem aiW:prim sub .dW xs h=if xs.length<=16777216 then some (.tup xs,h) else none:=rfl
theorem aiX:prim sub .bG xs h=if xs.length<=16777216 then some (.ref h.length,h++[.lst xs]) else none:=rfl
theorem fZ:prim sub .su [.non] h=some (.bl true,h):=rfl
theorem acJ:prim sub .XQ [.non] h=some (.bl false,h):=rfl
theorem afO:prim sub .su [.int i] h=some (.bl false,h):=rfl
theorem acK:prim sub .XQ [.int i] h=some (.bl true,h):=rfl
theorem afP:prim sub .Rh [.bl p] h=some (.bl (!p),h):=rfl
theorem aiY:prim sub .max2 [.int i,.int j] h=some (.int (if j > i then j else i),h):=rfl
theorem aiZ:prim sub .min2 [.int i,.int j] h=some (.int (if j < i then j else i),h):=rfl
theorem ai0:prim sub .shr [.int i,.int j] h=if 0<=j then some (.int (i / 2 ^ j.toNat),h) else none:=rfl
theorem afQ:prim sub .band [.int i,.int j] h=some (.int (XR i j),h):=rfl
theorem ai1:prim sub .bor [.int i,.int j] h=some (.int (bOr i j),h):=rfl
theorem ai2:prim sub .inv [.int i] h=some (.int (K_ i),h):=rfl
theorem Zq:prim sub .Vx [.int i] h=some (.int (adw i),h):=rfl
theorem amd:truthy h (.bl p)=some p:=rfl
theorem ai3:truthy h (.int i)=some (i != 0):=rfl
theorem DN (ha:h[a]?=some (.lst xs)):truthy h (.ref a)=some (!xs.isEmpty):=by simp only[truthy,ha]
theorem cX (ha:h[a]?=some (.lst xs)):tyB h .list (.ref a)=true:=by simp only[tyB,ha]
theorem ai4:tyB h .str (.str s)=true:=rfl
theorem ai5:tyB h .int (.int i)=true:=rfl
theorem ai6:tyB h .tuple (.tup xs)=true:=rfl
end
theorem ai7 {i j:Nat}{x y:D}:jy [i,j] (.tup [x,y]) σ=some ((σ.set i (some x)).set j (some y)):=rfl
theorem wp_call {P:List Def}{d f:Nat}{vs:List D}{df:Def}(hf:P[f]?=some df)(hv:vs.length=df.np)(w:bN sub (aD sub P d) E df.body {nx:=λ_ h=>Q .non h,rt:=Q} (vs.map some++List.replicate (df.nl - df.np) none) h):aD sub P (d+1) f vs h Q E:=by
 simp only[aD,hf];exact ⟨hv,w⟩
end
theorem uX {α:Type}{xs:List α}{n:Nat}:cB xs (n:Int)=xs[n]?:=by
 unfold cB kh;by_cases hn:n < xs.length
 ·rw[if_pos (Int.natCast_nonneg n),if_pos (by omega)];simp
 ·rw[if_pos (Int.natCast_nonneg n),if_neg (by omega),List.getElem?_eq_none (by omega)];rfl
theorem gH {α:Type}{xs:List α}{i:Int}(h0:0<=i):cB xs i=xs[i.toNat]?:=by
 obtain ⟨n,rfl⟩:=Int.eq_ofNat_of_zero_le h0;rw[Int.toNat_natCast];exact uX
theorem Az {α:Type}{xs:List α}:cB xs (-1)=xs.getLast?:=by
 unfold cB kh;rw[if_neg (by decide)];cases xs with
 | nil=>rfl
 | cons x r=>
  rw[if_pos (by simp;omega)];simp only[Option.bind_some,List.getLast?_eq_getElem?];congr 1;simp;omega
noncomputable def rl (n:Nat) (f:Nat->Int):List D:=(List.range n).map λk=>.int (f k)
theorem afR {n:Nat}{f:Nat->Int}:(rl n f).length=n:=by simp[rl]
theorem acL {n:Nat}{f:Nat->Int}:rl n f++[.int (f n)]=rl (n+1) f:=by simp[rl,List.range_succ]
theorem ai8 {n:Nat}{f:Nat->Int}{i:Nat}(h:i < n):(rl n f)[i]?=some (.int (f i)):=by simp[rl,h]
theorem Zr {n:Nat}{f g:Nat->Int}(h:∀k,k < n->f k=g k):rl n f=rl n g:=by
 unfold rl;refine List.map_congr_left λk hk=>?_;rw[h k (List.mem_range.mp hk)]
theorem G3 {h1:AH}{a:Nat}{xs:List D}(e:h1[a]?=some (.lst xs)):bU .val [.ref a] h1=some (gD a):=by simp only[bU,jh,iR,ji,jj,gY,e]
theorem aK {h l:AH}{n:Nat}{o:AO}(e:h[n]?=some o):(h++l)[n]?=some o:=by
 rw[List.getElem?_append_left (List.getElem?_eq_some_iff.mp e).1];exact e
theorem aC {h:AH}{o:AO}:(h++[o])[h.length]?=some o:=by simp
theorem dB {h:AH}{o o':AO}:(h++[o]).set h.length o'=h++[o']:=by simp
theorem get_set {h:AH}{n:Nat}{o o':AO}(e:h[n]?=some o):(h.set n o')[n]?=some o':=by
 rw[List.getElem?_set_self (List.getElem?_eq_some_iff.mp e).1]
theorem cM {h:AH}{m n:Nat}{o o':AO}(e:h[n]?=some o)(hne:m≠n):(h.set m o')[n]?=some o:=by
 rw[List.getElem?_set_ne hne];exact e
theorem bV {n:Nat}{f:Nat->Int}{z:Int}(h0:0<=z)(h1:z < n):∃v:Int,cB (rl n f) z=some (.int v):=⟨f z.toNat,by rw[gH h0,ai8 (by omega)]⟩
theorem lq {α:Type}{xs:List α}{z:Int}(h0:0<=z)(h1:z < xs.length):∃v,v∈xs/\cB xs z=some v:=by
 have hl:z.toNat < xs.length:=by omega
 exact ⟨xs[z.toNat],List.getElem_mem _,by rw[gH h0,List.getElem?_eq_getElem hl]⟩
theorem qC {α:Type}{xs:List α}{lo hi:Option Int}:(cut xs lo hi).length<=xs.length:=by
 unfold cut;simp;omega
theorem aP {h h':AH}{n:Nat}{o:AO}(p:h<+:h')(e:h[n]?=some o):h'[n]?=some o:=by
 obtain ⟨l,rfl⟩:=p;exact aK e
theorem pre_app {h h' l:AH}(p:h<+:h'):h<+:h'++l:=p.trans (List.prefix_append _ _)
theorem qD {h h':AH}{r:Nat}{o:AO}(p:h<+:h')(hr:h.length<=r):h<+:h'.set r o:=by
 obtain ⟨l,rfl⟩:=p;rw[List.set_append_right _ _ hr];exact List.prefix_append _ _
theorem DP {h h':AH}(p:h<+:h'):h.length<=h'.length:=p.length_le
theorem iB {h:AH}:h<+:h:=List.prefix_refl h
theorem qQ {h:AH}{n:Nat}{o:AO}(e:h[n]?=some o):n < h.length:=(List.getElem?_eq_some_iff.mp e).1
theorem pre_of {h h' l:AH}(p:h++l<+:h'):h<+:h':=(List.prefix_append h l).trans p
theorem acM {n:Nat}{x y:S}:lW n (.str x) (.str y)=some (x == y):=by cases n<;>rfl
theorem gC {x:S}:∀{ss:List S},dN (.str x) (ss.map .str)=some (ss.contains x)
 | []=>rfl
 | y::r=>by
  simp only[List.map_cons,dN,acM,gC (ss:=r),List.contains_cons];have e:(y == x)=(x == y):=by rw[Bool.eq_iff_iff,beq_iff_eq,beq_iff_eq];exact eq_comm
  rw[e]
theorem Ir {h:AH}{a b:Nat}{xs ys:List D}(ea:h[a]?=some (.lst xs))(eb:h[b]?=some (.lst ys)):oJ h (.ref a) (.ref b)=HB xs ys:=by simp only[oJ,ea,eb]
theorem acN {h:AH}{i j:Int}:oJ h (.int i) (.int j)=some (i == j):=rfl
theorem acO {h:AH}{i j:S}:oJ h (.str i) (.str j)=some (i == j):=rfl
end Z
namespace Z
inductive Sn where
 | is (n:S) | nt (a:Sn) | an (a b:Sn) | or (a b:Sn)
noncomputable def sd:Sn->D
 | .is n=>.tup [.str (tx "is"),.str n]
 | .nt a=>.tup [.str (tx "not"),sd a]
 | .an a b=>.tup [.str (tx "and"),sd a,sd b]
 | .or a b=>.tup [.str (tx "or"),sd a,sd b]
noncomputable def nm:Sn->List S
 | .is n=>[n]
 | .nt a=>nm a
 | .an a b=>nm a++nm b
 | .or a b=>nm a++nm b
noncomputable def sz:Sn->Nat
 | .is _=>1
 | .nt a=>sz a+1
 | .an a b=>sz a+sz b+1
 | .or a b=>sz a+sz b+1
noncomputable def kd (ks:List S):List (KK×D):=ks.map λk=>(.inr k,.bl true)
section
variable {sub:Nat->Nat->Bool}{h:AH}{a:Nat}{xs:List D}{v:D}
theorem DQ (ha:h[a]?=some (.lst (xs++[v]))):prim sub .pop [.ref a] h=some (v,h.set a (.lst xs)):=by
 show (match h[a]? with | some (.lst xs)=>_ | _=>none)=_;rw[ha];simp
theorem afS {lo hi:Option Int}(hl:xs.length<=16777216):dO (.eY xs) lo hi h=some (.ref h.length,h++[.lst (cut xs lo hi)]):=if_pos (Nat.le_trans qC hl)
theorem Iu {α:Type}{xs:List α}{lo hi:Option Int}{v:α}(hv:v∈cut xs lo hi):v∈xs:=by
 unfold cut at hv;exact List.mem_of_mem_drop (List.mem_of_mem_take hv)
end
end Z
namespace Z
noncomputable def dp:Sn->Nat
 | .is _=>1
 | .nt a=>dp a+1
 | .an a b=>max (dp a) (dp b)+1
 | .or a b=>max (dp a) (dp b)+1
section
variable {sub:Nat->Nat->Bool}{h:AH}
end
end Z
local macro_rules
 | `(tactic| simp! only)=>`(tactic| simp! only[])
 | `(tactic| simp! only[$ls,*])=>`(tactic| simp only[List.getElem?_cons_zero,List.getElem?_cons_succ,List.set_cons_zero,List.set_cons_succ,List.nil_append,List.append_nil,List.cons_append,List.map_cons,List.map_nil,Nat.sub_zero,Option.map_some,Option.map_none,List.length_cons,List.length_nil,if_true,if_false,Bool.not_true,Bool.not_false,Bool.bne_false,Bool.bne_true,and_self,true_and,and_true,List.replicate_succ,List.replicate_zero,Z.aiE,Z.aiF,Z.afu,Z.afv,Z.aiG,Z.aiH,Z.afw,Z.aiI,Z.aiJ,Z.aiK,Z.afx,Z.aiL,Z.aiM,Z.ama,Z.aiN,Z.afy,Z.aiO,Z.afz,Z.aiP,Z.aiQ,Z.afA,Z.aiR,Z.afB,Z.aiS,Z.aiT,Z.aiU,Z.afC,Z.afD,Z.adK,Z.afH,Z.afI,Z.afJ,Z.adL,Z.ah1,Z.alp,Z.alq,Z.alr,Z.als,Z.afE,Z.afF,Z.afG,Z.amb,Z.amc,Z.afK,Z.afL,Z.afM,Z.afN,Z.aiV,Z.aiW,Z.aiX,Z.fZ,Z.acJ,Z.afO,Z.acK,Z.afP,Z.aiY,Z.aiZ,Z.ai0,Z.afQ,Z.ai1,Z.ai2,Z.Zq,Z.amd,Z.ai3,Z.ai4,Z.ai5,Z.ai6,Z.ai7,Z.acN,Z.acO,Z.sG,Z.adM,Z.Li,Z.PK,Z.iz,reduceIte,Bool.false_eq_true,Int.reduceLT,Int.reduceLE,Nat.reduceLeDiff,Nat.reduceSub,$ls,*])
namespace Z
section
variable {sub:Nat->Nat->Bool}{P:List Def}{E:PX}{d:Nat}
end
end Z
namespace ZH
open PySem PySem.W PySem.Calls PyProof.Rows
noncomputable def Sq (thr:Thread->Bool) (ok:Thread->Bool) (stp:SharedT->Thread->Option (SharedT×Thread)):Nat->SharedT->Thread->Option SharedT
 | 0,_,_=>none
 | n+1,s,t=>match thr t with
  | true=>some s
  | false=>match ok t with
   | false=>none
   | true=>match stp s t with
    | some (s',t')=>Sq thr ok stp n s' t'
    | none=>none
theorem Qx {tb:String->Option Builtin}{p:Program}{w:World}{n₀:Nat}{ann:Option Value}:∀{n:Nat} {s s':SharedT} {t:Thread},Sq through (stepOk n₀ ann) (stepT (denote tb) p w) n s t=some s'->topRun tb p w n₀ ann n s.abs t=some s'.abs
 | 0,_,_,_,h=>by cases h
 | n+1,s,s',t,h=>by
  unfold Sq at h;unfold topRun;cases ht:through t with
  | true=>rw[ht]at h;cases h;rfl
  | false=>
   rw[ht]at h;cases hk:stepOk n₀ ann t with
   | false=>rw[hk]at h;cases h
   | true=>
    rw[hk]at h;cases hs:stepT (denote tb) p w s t with
    | none=>rw[hs]at h;cases h
    | some r=>obtain ⟨s₂,t₂⟩:=r;rw[hs]at h;rw[stepT_spec hs];exact Qx h
noncomputable def treeOf:List Obj->Nat->BT->BT
 | [],_,t=>t
 | o::l,i,t=>treeOf l (i+1) (t.ins i o)
noncomputable def s0T (P:Params) (os:OsState):SharedT:=⟨treeOf (boot_heap P).objs.toList 0 .nil,11,(boot_heap P).life,#[],boot_drawn,boot_toks,os⟩
theorem afT (P:Params)(os:OsState):(s0T P os).abs=⟨boot_heap P,#[],boot_drawn,boot_toks,os⟩:=by kernel_rfl
theorem sz0 (P:Params):((boot_heap P).isNs mainGlobals && (#[]:Array GenState).size == 0,(boot_heap P).objs.size,(boot_heap P).nsMap mainGlobals "__annotations__")=(true,11,some (.ref 6)):=by kernel_rfl
noncomputable def ends (M:Nat) (p:Program) (stp:SharedT->Thread->Option (SharedT×Thread)) (ok:Thread->Bool) (P:Params) (os:OsState):Option SharedT:=Sq through ok stp M (s0T P os) (topStub p)
theorem W2 {p q:Program}{loose:List Str}{Xt:Shared->Bool}{α:Type}{Yf:Shared->α}{Ya:World->α}{N:Nat}{g0:Bool}
  (e:opening p=plainProg p.main.scope.names) (hN:Nat.ble 600 N=true) (f:∀s,fenceModules? p s=some s)
  (h:∀(w:World) (os:OsState),(ends N p (stepT (denote treeTable) p w) (stepOk 11 (some (.ref 6))) w.params os).bind (λs=>
   match staticsOk (importedModules p.main.body) (boot_heap w.params) s.abs.heap && namesBound p s.abs.heap && gensDone s.abs && laidKept (boot_heap w.params) s.abs.heap with
   | true=>some (openSeen q loose (importedModules p.main.body) Xt g0 s.abs,Yf s.abs)
   | false=>none)=some (openGood q loose,Ya w)):LeftO p q loose Xt Yf Ya N g0:=λw=>by
 obtain ⟨⟨hh,gs,d,k,os⟩,e1,e2⟩:=Option.map_eq_some_iff.mp (boot_open e hN f w);obtain ⟨rfl,rfl,rfl,rfl⟩:hh=boot_heap w.params/\gs=#[]/\d=boot_drawn/\k=boot_toks:=by simpa using e2
 obtain ⟨s,r1,r2⟩:=Option.bind_eq_some_iff.mp (h w os);have r:=Qx r1;rw[afT]at r;obtain ⟨z1,z2,z3⟩:_/\_/\_:=by simpa only[Prod.mk.injEq] using sz0 w.params
 unfold openEnds;rw[e1];show (topFrom treeTable p w N _).map _=_;have t:topFrom treeTable p w N ⟨boot_heap w.params,#[],boot_drawn,boot_toks,os⟩=some s.abs:=by
  unfold topFrom;dsimp only;rw[z1,z2,z3,r];show (match staticsOk (importedModules p.main.body) (boot_heap w.params) s.abs.heap && namesBound p s.abs.heap && gensDone s.abs && laidKept (boot_heap w.params) s.abs.heap with | true=>_ | false=>_)=_;revert r2;split
  ·intro _;rfl
  ·intro x;cases x
 rw[t];revert r2;split
 ·intro r2;exact r2
 ·intro x;cases x
noncomputable abbrev GoQ (p q:Program) (loose:List Str) (R:WRecords) (N:Nat) (K:Params->Frag) (as:List Addr) (w:World) (os:OsState):Prop:=
 ((ends N p (Fast.tw10156331382660048174 (Fast.tw11892475500146522536 Fast.tw14364793385576792824) p w) (Fast.tw6613529449190102663 11 (some (.ref 6))) w.params os).bind λs=>
   match staticsOk (Fast.tw5923862056798008813 p.main.body) (boot_heap w.params) s.abs.heap && namesBound p s.abs.heap && gensDone s.abs && laidKept (boot_heap w.params) s.abs.heap with
   | true=>some (Fast.tw4187177175401517315 q loose (Fast.tw5923862056798008813 p.main.body) (λs=>xlAt q [] s && recOk R s) true s.abs,as.map s.abs.heap.get?)
   | false=>none)=some (openGood q loose,(K w.params).map λp=>some p.2)
theorem afU {p q:Program}{loose:List Str}{R:WRecords}{N:Nat}{K:Params->Frag}{as:List Addr}(a:∀P,as=(K P).map (·.1))(e:opening p=plainProg p.main.scope.names)(hN:Nat.ble 600 N=true)(f:∀s,fenceModules? p s=some s)
  (h:∀w os,GoQ p q loose R N K as w os):LeftO p q loose (λs=>xlAt q [] s && recOk R s) (Hook.obs (kHook K as a)) (Hook.val (kHook K as a)) N true:=by
 refine W2 e hN f ?_;rw[Fast.te10156331382660048174,Fast.te11892475500146522536,Fast.te14364793385576792824,Fast.te6613529449190102663,Fast.te4187177175401517315,Fast.te5923862056798008813];exact h
theorem afV {r:OpenRow}{q:Program}{loose:List Str}{d:DefRec}{kwd:List (Str×Expr)}{N:Nat}{K:Params->Frag}{as:List Addr}(a:∀P,as=(K P).map (·.1))(h:∀w os,GoQ r.prog q loose r.records N K as w os)
  (e:opening r.prog=plainProg r.prog.main.scope.names) (hN:Nat.ble 600 N=true) (f:∀s,fenceModules? r.prog s=some s)
  (hdef:defOf q r.name=some (d,kwd)) (hp:r.prog.theDef r.name=some (d.params,d.body,d.scope)) (hk:kwWritten? d.params.kwonlyargs d.params.kw_defaults=some kwd) (hwr:(!r.writes || r.records.isEmpty)=true)
  (k1:r.wellSaid=true) (ok:(chainsOk q && opensWell r.prog && (frees r.toRowW && r.within.isEmpty))=true) (hb:r.prog.bare) (hw:r.toRowW.promised)
  (call:WalkO q loose (XL q []) (kHook K as a).says r.toRowW d kwd λf vs=>PySem.call f vs):r.Holds:=
 holds_open (afU a e hN f h) (Hook.of _) (Hook.keeps _) (λs e=>xl_of s (Bool.and_eq_true_iff.mp e).1) XL.keeps hdef hp hk (λs e=>recFacts_of (Bool.and_eq_true_iff.mp e).2) hwr k1 ok hb hw call
end ZH
namespace gb
open Z
section
variable {sub:Nat->Nat->Bool}{Γ:b_}{E:PX}{K:En}{σ:Lo}{h:AH}
noncomputable def rcs:List S:=[(tx "RowError"),(tx "NoRow"),(tx "TooLong"),(tx "NoSentence"),(tx "Twice"),(tx "TooMany")]
noncomputable def mZ:List S:=[]
noncomputable def m_:List S:=[(tx "RowError"),(tx "NoRow"),(tx "TooLong"),(tx "NoSentence"),(tx "Twice"),(tx "TooMany")]
noncomputable def wG:List S:=[]
noncomputable def wH:List S:=[(tx "RowError"),(tx "NoRow"),(tx "TooLong"),(tx "NoSentence"),(tx "Twice"),(tx "TooMany")]
noncomputable def ql:List S:=[]
noncomputable def qm:List S:=[(tx "RowError"),(tx "NoRow"),(tx "TooLong"),(tx "NoSentence"),(tx "Twice"),(tx "TooMany")]
noncomputable def sU:List S:=[]
noncomputable def sV:List S:=[(tx "RowError"),(tx "NoRow"),(tx "TooLong"),(tx "NoSentence"),(tx "Twice"),(tx "TooMany")]
noncomputable def qp:List S:=[]
noncomputable def qu:List S:=[(tx "RowError"),(tx "NoRow"),(tx "TooLong"),(tx "NoSentence"),(tx "Twice"),(tx "TooMany")]
noncomputable def ni:List S:=[(tx "TooMany")]
noncomputable def nj:List S:=[(tx "RowError"),(tx "NoRow"),(tx "TooLong"),(tx "NoSentence"),(tx "Twice")]
noncomputable def lu:List S:=[(tx "RowError"),(tx "NoRow"),(tx "TooLong"),(tx "NoSentence"),(tx "Twice"),(tx "TooMany")]
noncomputable def lA:List S:=[]
noncomputable def jz:List S:=[(tx "RowError"),(tx "NoRow"),(tx "TooLong"),(tx "NoSentence"),(tx "Twice"),(tx "TooMany")]
noncomputable def jA:List S:=[]
noncomputable def sW:List S:=[(tx "NoRow")]
noncomputable def sX:List S:=[(tx "RowError"),(tx "TooLong"),(tx "NoSentence"),(tx "Twice"),(tx "TooMany")]
noncomputable def nq:List S:=[(tx "TooLong")]
noncomputable def nA:List S:=[(tx "RowError"),(tx "NoRow"),(tx "NoSentence"),(tx "Twice"),(tx "TooMany")]
noncomputable def iC:List S:=[(tx "NoSentence")]
noncomputable def iG:List S:=[(tx "RowError"),(tx "NoRow"),(tx "TooLong"),(tx "Twice"),(tx "TooMany")]
noncomputable def sY:List S:=[(tx "Twice")]
noncomputable def sZ:List S:=[(tx "RowError"),(tx "NoRow"),(tx "TooLong"),(tx "NoSentence"),(tx "TooMany")]
noncomputable def iI:List S:=[(tx "RowError"),(tx "NoRow"),(tx "TooLong"),(tx "NoSentence"),(tx "Twice"),(tx "TooMany")]
noncomputable def iJ:List S:=[]
noncomputable def lB:D:=(.int 120)
noncomputable def FZ:D:=(.tup [(.str (tx "(")),(.str (tx ")")),(.str (tx " and ")),(.str (tx " or ")),(.str (tx "not "))])
noncomputable def A_:D:=(.str (tx "abcdefghijklmnopqrstuvwxyz"))
noncomputable def qR:D:=(.tup [(.str (tx "always")),(.str (tx "where")),(.str (tx "usually")),(.str (tx "not")),(.str (tx "and")),(.str (tx "or"))])
noncomputable def gj:D:=(.int 12)
noncomputable def M8:D:=(.tup [(.str (tx "not")),(.str (tx "and")),(.str (tx "or"))])
noncomputable def cL:List (S×D):=[((tx "and"),(.tup [(.str (tx "not")),(.str (tx "and"))])),((tx "or"),(.tup [(.str (tx "not")),(.str (tx "and")),(.str (tx "or"))])),((tx ")"),(.tup [(.str (tx "not")),(.str (tx "and")),(.str (tx "or"))]))]
noncomputable def oK:aB:=.cons (.ret (.var 3)) .nil
noncomputable def jd:aB:=.cons (.vZ (tx "NoSentence") (.var 1)) .nil
noncomputable def fL:aB:=.cons (.cC (.bF (.prim .su (.cons (.var 3) .nil))) jd .nil) oK
noncomputable def je:aB:=.cons (.asg 3 (.ite (.bF (.prim .su (.cons (.var 2) .nil))) (.lit .non) (.call 5 (.cons (.var 2) .nil) []))) fL
noncomputable def oM:aB:=.cons (.asg 2 (.call 1 (.cons (.var 0) .nil) [])) je
noncomputable def oN:aB:=.cons (.vZ (tx "TooLong") (.var 1)) .nil
noncomputable def jf:aB:=.cons (.cC (.bF (.prim .gt (.cons (.prim .len (.cons (.var 0) .nil)) (.cons (.lit lB) .nil)))) oN .nil) oM
noncomputable abbrev G4:aB:=jf
noncomputable def xg:aB:=.cons (.ret (.var 1)) .nil
noncomputable def xq:aB:=.cons (.asg 2 (.prim .sub (.cons (.var 2) (.cons (.prim .neg (.cons (.prim .len (.cons (.var 3) .nil)) .nil)) .nil)))) .nil
noncomputable def xu:aB:=.cons (.expr (.fC .list .append (.var 1) (.cons (.fC .str .strip (.var 3) (.cons (.lit (.str (tx " "))) .nil)) .nil))) xq
noncomputable def xA:aB:=.cons (.ret (.lit .non)) .nil
noncomputable def nW:aB:=.cons (.cC (.bF (.prim .su (.cons (.var 3) .nil))) xA .nil) xu
noncomputable def xB:aB:=.cons (.asg 3 (.call 2 (.cons (.var 0) (.cons (.var 2) .nil)) [])) nW
noncomputable def xC:aB:=.cons (.zX (.bF (.prim .lt (.cons (.var 2) (.cons (.prim .len (.cons (.var 0) .nil)) .nil)))) xB) xg
noncomputable def xE:aB:=.cons (.asg 2 (.lit (.int 0))) xC
noncomputable def xF:aB:=.cons (.asg 1 (.prim .bG .nil)) xE
noncomputable abbrev O2:aB:=xF
noncomputable def Ba:aB:=.cons (.ret (.ite (.bF (.call 4 (.cons (.var 3) .nil) [])) (.var 3) (.lit .non))) .nil
noncomputable def Bb:aB:=.cons (.asg 3 (.slc (.var 0) (.var 1) (.call 3 (.cons (.var 0) (.cons (.var 1) .nil)) []))) Ba
noncomputable def Bc:aB:=.cons (.ret (.var 2)) .nil
noncomputable def Bd:aB:=.cons (.cC (.bF (.fC .str .uG (.var 0) (.cons (.var 2) (.cons (.var 1) .nil)))) Bc .nil) .nil
noncomputable def Bf:aB:=.cons (.dR [2] .val (.cons (.lit FZ) .nil) Bd) Bb
noncomputable abbrev Ss:aB:=Bf
noncomputable def qT:aB:=.cons (.ret (.var 1)) .nil
noncomputable def Bg:aB:=.cons (.asg 1 (.prim .sub (.cons (.var 1) (.cons (.prim .neg (.cons (.lit (.int 1)) .nil)) .nil)))) .nil
noncomputable def Bh:aB:=.cons (.zX (.and (.bF (.prim .lt (.cons (.var 1) (.cons (.prim .len (.cons (.var 0) .nil)) .nil)))) (.bF (.prim .Jr (.cons (.prim .idx (.cons (.var 0) (.cons (.var 1) .nil))) (.cons (.lit A_) .nil))))) Bg) qT
noncomputable abbrev Sv:aB:=Bh
noncomputable def nC:aB:=.cons (.ret (.uy (.chain .le .le (.lit (.int 1)) (.prim .len (.cons (.var 0) .nil)) (.lit gj)) (.prim .kj (.cons (.var 0) (.cons (.lit qR) .nil))))) .nil
noncomputable abbrev W3:aB:=nC
noncomputable def jQ:aB:=.cons (.ret (.ite (.bF (.var 1)) (.lit .non) (.var 2))) .nil
noncomputable def qU:aB:=.cons (.asg 2 (.call 6 (.cons (.var 1) (.cons (.var 2) (.cons (.lit M8) .nil))) [])) jQ
noncomputable def qW:aB:=.cons (.ret (.lit .non)) .nil
noncomputable def jR:aB:=.cons (.cC (.bF (.prim .su (.cons (.var 2) .nil))) qW .nil) qU
noncomputable def qX:aB:=.cons (.expr (.fC .list .pop (.var 1) .nil)) .nil
noncomputable def qY:aB:=.cons (.ret (.lit .non)) .nil
noncomputable def jT:aB:=.cons (.cC (.not (.bF (.var 1))) qY .nil) qX
noncomputable def jU:aB:=.cons (.asg 2 (.lit .non)) .nil
noncomputable def jV:aB:=.cons (.expr (.fC .list .append (.var 1) (.cons (.prim .dW (.cons (.var 3) (.cons (.var 2) .nil))) .nil))) jU
noncomputable def jg:aB:=.cons (.expr (.fC .list .append (.var 1) (.cons (.prim .dW (.cons (.var 3) .nil)) .nil))) .nil
noncomputable def oO:aB:=.cons (.asg 2 (.prim .dW (.cons (.lit (.str (tx "is"))) (.cons (.var 3) .nil)))) .nil
noncomputable def fM:aB:=.cons (.cC (.or (.bF (.prim .eq (.cons (.var 3) (.cons (.lit (.str (tx "("))) .nil)))) (.bF (.prim .eq (.cons (.var 3) (.cons (.lit (.str (tx "not"))) .nil))))) jg oO) .nil
noncomputable def dD:aB:=.cons (.cC (.bF (.var 4)) jV fM) .nil
noncomputable def cI:aB:=.cons (.cC (.bF (.prim .eq (.cons (.var 3) (.cons (.lit (.str (tx ")"))) .nil)))) jT dD) .nil
noncomputable def fO:aB:=.cons (.asg 2 (.call 6 (.cons (.var 1) (.cons (.var 2) (.cons (.prim (.ux cL) (.cons (.var 3) .nil)) .nil))) [])) .nil
noncomputable def cO:aB:=.cons (.cC (.bF (.var 4)) fO .nil) cI
noncomputable def cP:aB:=.cons (.ret (.lit .non)) .nil
noncomputable def bJ:aB:=.cons (.cC (.bF (.prim .eq (.cons (.var 4) (.cons (.prim .su (.cons (.var 2) .nil)) .nil)))) cP .nil) cO
noncomputable def bC:aB:=.cons (.asg 4 (.prim (.sy cL) (.cons (.var 3) .nil))) bJ
noncomputable def oR:aB:=.cons (.dR [3] .val (.cons (.var 0) .nil) bC) jR
noncomputable def oU:aB:=.cons (.asg 2 (.lit .non)) oR
noncomputable def oV:aB:=.cons (.asg 1 (.prim .bG .nil)) oU
noncomputable abbrev Iv:aB:=oV
noncomputable def Bj:aB:=.cons (.ret (.var 1)) .nil
noncomputable def JR:aB:=.cons (.asg 1 (.prim .add (.cons (.fC .list .pop (.var 0) .nil) (.cons (.prim .dW (.cons (.var 1) .nil)) .nil)))) .nil
noncomputable def JV:aB:=.cons (.zX (.and (.bF (.var 0)) (.bF (.prim .Ei (.cons (.prim .idx (.cons (.prim .idx (.cons (.var 0) (.cons (.prim .neg (.cons (.lit (.int 1)) .nil)) .nil))) (.cons (.lit (.int 0)) .nil))) (.cons (.var 2) .nil))))) JR) Bj
noncomputable abbrev acP:aB:=JV
noncomputable def xG:aB:=.cons (.ret (.var 3)) .nil
noncomputable def xH:aB:=.cons (.expr (.fC .list .append (.var 3) (.cons (.prim .fdiv (.cons (.var 2) (.cons (.lit (.int 13)) .nil))) .nil))) .nil
noncomputable def xJ:aB:=.cons (.asg 2 (.prim .mod (.cons (.prim .mul (.cons (.var 2) (.cons (.lit (.int 48271)) .nil))) (.cons (.lit (.int 2147483647)) .nil)))) xH
noncomputable def xK:aB:=.cons (.dR [4] .rng (.cons (.var 1) .nil) xJ) xG
noncomputable def xM:aB:=.cons (.asg 3 (.prim .bG .nil)) xK
noncomputable def xO:aB:=.cons (.asg 2 (.prim .mod (.cons (.prim .mul (.cons (.prim .add (.cons (.prim .mod (.cons (.var 0) (.cons (.lit (.int 2147483629)) .nil))) (.cons (.lit (.int 1)) .nil))) (.cons (.lit (.int 1103515245)) .nil))) (.cons (.lit (.int 2147483647)) .nil)))) xM
noncomputable abbrev O4:aB:=xO
noncomputable def tB:aB:=.cons (.ret (.lit (.int 0))) .nil
noncomputable def tD:aB:=.cons (.ret (.prim .idx (.cons (.var 0) (.cons (.var 1) .nil)))) .nil
noncomputable def tE:aB:=.cons (.cC (.bF (.prim .lt (.cons (.var 1) (.cons (.prim .len (.cons (.var 0) .nil)) .nil)))) tD .nil) tB
noncomputable abbrev Ks:aB:=tE
noncomputable def xP:aB:=.cons (.ret (.var 3)) .nil
noncomputable def xQ:aB:=.cons (.asg 3 (.prim .add (.cons (.var 3) (.cons (.prim .idx (.cons (.var 2) (.cons (.prim .mod (.cons (.prim .fdiv (.cons (.var 0) (.cons (.lit (.int 17)) .nil))) (.cons (.lit (.int 26)) .nil))) .nil))) .nil)))) .nil
noncomputable def xR:aB:=.cons (.asg 0 (.prim .mod (.cons (.prim .add (.cons (.prim .mul (.cons (.var 0) (.cons (.lit (.int 69621)) .nil))) (.cons (.lit (.int 1)) .nil))) (.cons (.lit (.int 2147483647)) .nil)))) xQ
noncomputable def xT:aB:=.cons (.dR [4] .rng (.cons (.var 1) .nil) xR) xP
noncomputable def xU:aB:=.cons (.asg 3 (.lit (.str (tx "")))) xT
noncomputable def xV:aB:=.cons (.asg 2 (.lit (.str (tx "abcdefghijklmnopqrstuvwxyz")))) xU
noncomputable abbrev O5:aB:=xV
noncomputable def nY:aB:=.cons (.ret (.var 7)) .nil
noncomputable def xW:aB:=.cons (.expr (.fC .list .append (.var 7) (.cons (.var 9) .nil))) .nil
noncomputable def nZ:aB:=.cons (.cC (.bF (.prim .kj (.cons (.var 9) (.cons (.var 7) .nil)))) xW .nil) .nil
noncomputable def xX:aB:=.cons (.asg 9 (.prim .add (.cons (.var 9) (.cons (.lit (.str (tx "a"))) .nil)))) .nil
noncomputable def xY:aB:=.cons (.cC (.bF (.prim .Ei (.cons (.var 9) (.cons (.prim .dW (.cons (.lit (.str (tx "always"))) (.cons (.lit (.str (tx "where"))) (.cons (.lit (.str (tx "usually"))) (.cons (.lit (.str (tx "not"))) (.cons (.lit (.str (tx "and"))) (.cons (.lit (.str (tx "or"))) .nil))))))) .nil)))) xX .nil) nZ
noncomputable def xZ:aB:=.cons (.asg 9 (.prim .idx (.cons (.var 3) (.cons (.prim .mod (.cons (.prim .add (.cons (.prim .idx (.cons (.var 4) (.cons (.lit (.int 23)) .nil))) (.cons (.prim .mul (.cons (.lit (.int 3)) (.cons (.var 8) .nil))) .nil))) (.cons (.lit (.int 16)) .nil))) .nil)))) .nil
noncomputable def yc:aB:=.cons (.cC (.bF (.prim .eq (.cons (.prim .mod (.cons (.prim .idx (.cons (.var 4) (.cons (.lit (.int 20)) .nil))) (.cons (.lit (.int 4)) .nil))) (.cons (.lit (.int 2)) .nil)))) xZ .nil) xY
noncomputable def yd:aB:=.cons (.asg 9 (.prim .add (.cons (.prim .add (.cons (.prim .Vw (.cons (.var 5) (.cons (.var 6) .nil))) (.cons (.var 10) .nil))) (.cons (.prim .K8 (.cons (.var 5) (.cons (.prim .add (.cons (.var 6) (.cons (.lit (.int 1)) .nil))) .nil))) .nil)))) .nil
noncomputable def yg:aB:=.cons (.asg 10 (.prim .idx (.cons (.var 2) (.cons (.prim .mod (.cons (.prim .add (.cons (.prim .idx (.cons (.var 4) (.cons (.lit (.int 21)) .nil))) (.cons (.prim .mul (.cons (.var 8) (.cons (.prim .idx (.cons (.prim .bG (.cons (.lit (.int 1)) (.cons (.lit (.int 3)) (.cons (.lit (.int 5)) (.cons (.lit (.int 7)) (.cons (.lit (.int 9)) (.cons (.lit (.int 11)) .nil))))))) (.cons (.prim .mod (.cons (.prim .idx (.cons (.var 4) (.cons (.lit (.int 22)) .nil))) (.cons (.lit (.int 6)) .nil))) .nil))) .nil))) .nil))) (.cons (.lit (.int 26)) .nil))) .nil)))) yd
noncomputable def uY:aB:=.cons (.cC (.bF (.prim .lt (.cons (.prim .mod (.cons (.prim .idx (.cons (.var 4) (.cons (.lit (.int 20)) .nil))) (.cons (.lit (.int 4)) .nil))) (.cons (.lit (.int 2)) .nil)))) yg .nil) yc
noncomputable def uZ:aB:=.cons (.asg 9 (.call 9 (.cons (.prim .idx (.cons (.var 4) (.cons (.prim .add (.cons (.lit (.int 3)) (.cons (.var 8) .nil))) .nil))) (.cons (.prim .add (.cons (.lit (.int 1)) (.cons (.prim .mod (.cons (.prim .fdiv (.cons (.prim .idx (.cons (.var 4) (.cons (.prim .add (.cons (.lit (.int 4)) (.cons (.var 8) .nil))) .nil))) (.cons (.lit (.int 5)) .nil))) (.cons (.lit (.int 12)) .nil))) .nil))) .nil)) [])) uY
noncomputable def u_:aB:=.cons (.dR [8] .rng (.cons (.var 1) .nil) uZ) nY
noncomputable def vd:aB:=.cons (.asg 7 (.prim .bG .nil)) u_
noncomputable def vf:aB:=.cons (.asg 6 (.prim .mod (.cons (.prim .idx (.cons (.var 4) (.cons (.lit (.int 2)) .nil))) (.cons (.prim .len (.cons (.var 5) .nil)) .nil)))) vd
noncomputable def vg:aB:=.cons (.asg 5 (.call 9 (.cons (.prim .idx (.cons (.var 4) (.cons (.lit (.int 0)) .nil))) (.cons (.prim .add (.cons (.lit (.int 1)) (.cons (.prim .mod (.cons (.prim .idx (.cons (.var 4) (.cons (.lit (.int 1)) .nil))) (.cons (.lit (.int 12)) .nil))) .nil))) .nil)) [])) vf
noncomputable def mD:aB:=.cons (.asg 4 (.call 7 (.cons (.var 0) (.cons (.lit (.int 26)) .nil)) [])) vg
noncomputable def vh:aB:=.cons (.asg 3 (.prim .add (.cons (.var 3) (.cons (.prim .bG (.cons (.lit (.str (tx "is"))) (.cons (.lit (.str (tx "tell"))) .nil))) .nil)))) mD
noncomputable def vo:aB:=.cons (.asg 3 (.prim .bG (.cons (.lit (.str (tx "nota"))) (.cons (.lit (.str (tx "no"))) (.cons (.lit (.str (tx "ot"))) (.cons (.lit (.str (tx "an"))) (.cons (.lit (.str (tx "nd"))) (.cons (.lit (.str (tx "ands"))) (.cons (.lit (.str (tx "o"))) (.cons (.lit (.str (tx "r"))) (.cons (.lit (.str (tx "orr"))) (.cons (.lit (.str (tx "alway"))) (.cons (.lit (.str (tx "wher"))) (.cons (.lit (.str (tx "usual"))) (.cons (.lit (.str (tx "notnot"))) (.cons (.lit (.str (tx "ask"))) .nil)))))))))))))))) vh
noncomputable def vp:aB:=.cons (.asg 2 (.lit (.str (tx "abcdefghijklmnopqrstuvwxyz")))) vo
noncomputable abbrev O6:aB:=vp
noncomputable def Bk:aB:=.cons (.ret (.var 8)) .nil
noncomputable def Bl:aB:=.cons (.asg 8 (.prim .add (.cons (.prim .add (.cons (.prim .add (.cons (.var 8) (.cons (.prim .Fg (.cons (.lit (.str (tx "not "))) (.cons (.prim .fdiv (.cons (.prim .mod (.cons (.prim .idx (.cons (.var 0) (.cons (.prim .add (.cons (.lit (.int 20)) (.cons (.var 5) .nil))) .nil))) (.cons (.lit (.int 8)) .nil))) (.cons (.lit (.int 6)) .nil))) .nil))) .nil))) (.cons (.var 9) .nil))) (.cons (.prim .Fg (.cons (.lit (.str (tx ")"))) (.cons (.prim .idx (.cons (.var 4) (.cons (.var 5) .nil))) .nil))) .nil)))) .nil
noncomputable def Bm:aB:=.cons (.asg 9 (.prim .idx (.cons (.var 1) (.cons (.prim .mod (.cons (.prim .idx (.cons (.var 0) (.cons (.prim .add (.cons (.lit (.int 26)) (.cons (.var 5) .nil))) .nil))) (.cons (.prim .len (.cons (.var 1) .nil)) .nil))) .nil)))) Bl
noncomputable def Bo:aB:=.cons (.asg 8 (.prim .add (.cons (.prim .add (.cons (.var 8) (.cons (.prim .Fg (.cons (.lit (.str (tx "not "))) (.cons (.prim .fdiv (.cons (.prim .mod (.cons (.prim .idx (.cons (.var 0) (.cons (.prim .add (.cons (.lit (.int 14)) (.cons (.var 5) .nil))) .nil))) (.cons (.lit (.int 8)) .nil))) (.cons (.lit (.int 6)) .nil))) .nil))) .nil))) (.cons (.prim .Fg (.cons (.lit (.str (tx "("))) (.cons (.prim .idx (.cons (.var 3) (.cons (.var 5) .nil))) .nil))) .nil)))) Bm
noncomputable def Bp:aB:=.cons (.asg 8 (.prim .add (.cons (.var 8) (.cons (.prim .idx (.cons (.prim .bG (.cons (.lit (.str (tx " and "))) (.cons (.lit (.str (tx " or "))) .nil))) (.cons (.prim .mod (.cons (.prim .idx (.cons (.var 0) (.cons (.prim .add (.cons (.lit (.int 8)) (.cons (.var 5) .nil))) .nil))) (.cons (.lit (.int 2)) .nil))) .nil))) .nil)))) .nil
noncomputable def Bq:aB:=.cons (.cC (.bF (.prim .gt (.cons (.var 5) (.cons (.lit (.int 0)) .nil)))) Bp .nil) Bo
noncomputable def Br:aB:=.cons (.dR [5] .rng (.cons (.var 2) .nil) Bq) Bk
noncomputable def Bs:aB:=.cons (.asg 8 (.lit (.str (tx "")))) Br
noncomputable def Bt:aB:=.cons (.iU (.var 4) (.var 7) (.prim .add (.cons (.prim .idx (.cons (.var 4) (.cons (.var 7) .nil))) (.cons (.lit (.int 1)) .nil)))) .nil
noncomputable def yh:aB:=.cons (.iU (.var 3) (.var 6) (.prim .add (.cons (.prim .idx (.cons (.var 3) (.cons (.var 6) .nil))) (.cons (.lit (.int 1)) .nil)))) Bt
noncomputable def yj:aB:=.cons (.asg 7 (.prim .add (.cons (.var 6) (.cons (.prim .mod (.cons (.prim .idx (.cons (.var 0) (.cons (.prim .add (.cons (.lit (.int 5)) (.cons (.var 5) .nil))) .nil))) (.cons (.prim .sub (.cons (.var 2) (.cons (.var 6) .nil))) .nil))) .nil)))) yh
noncomputable def yq:aB:=.cons (.asg 6 (.prim .mod (.cons (.prim .idx (.cons (.var 0) (.cons (.prim .add (.cons (.lit (.int 2)) (.cons (.var 5) .nil))) .nil))) (.cons (.var 2) .nil)))) yj
noncomputable def yr:aB:=.cons (.dR [5] .rng (.cons (.prim .mod (.cons (.prim .idx (.cons (.var 0) (.cons (.lit (.int 1)) .nil))) (.cons (.lit (.int 4)) .nil))) .nil) yq) Bs
noncomputable def yt:aB:=.cons (.asg 4 (.prim .mul (.cons (.prim .bG (.cons (.lit (.int 0)) .nil)) (.cons (.var 2) .nil)))) yr
noncomputable def yu:aB:=.cons (.asg 3 (.prim .mul (.cons (.prim .bG (.cons (.lit (.int 0)) .nil)) (.cons (.var 2) .nil)))) yt
noncomputable def yw:aB:=.cons (.asg 2 (.prim .add (.cons (.lit (.int 1)) (.cons (.prim .mod (.cons (.prim .idx (.cons (.var 0) (.cons (.lit (.int 0)) .nil))) (.cons (.lit (.int 6)) .nil))) .nil)))) yu
noncomputable abbrev Sw:aB:=yw
noncomputable def tG:aB:=.cons (.ret (.var 0)) .nil
noncomputable def tH:aB:=.cons (.asg 0 (.prim .add (.cons (.prim .add (.cons (.prim .Vw (.cons (.var 0) (.cons (.var 5) .nil))) (.cons (.var 6) .nil))) (.cons (.prim .K8 (.cons (.var 0) (.cons (.prim .add (.cons (.var 5) (.cons (.prim .mod (.cons (.prim .idx (.cons (.var 1) (.cons (.prim .add (.cons (.lit (.int 40)) (.cons (.var 4) .nil))) .nil))) (.cons (.lit (.int 2)) .nil))) .nil))) .nil))) .nil)))) .nil
noncomputable def tK:aB:=.cons (.asg 6 (.prim .idx (.cons (.var 3) (.cons (.prim .mod (.cons (.prim .idx (.cons (.var 1) (.cons (.prim .add (.cons (.lit (.int 46)) (.cons (.var 4) .nil))) .nil))) (.cons (.lit (.int 94)) .nil))) .nil)))) .nil
noncomputable def tL:aB:=.cons (.cC (.bF (.prim .eq (.cons (.prim .mod (.cons (.prim .idx (.cons (.var 1) (.cons (.prim .add (.cons (.lit (.int 48)) (.cons (.var 4) .nil))) .nil))) (.cons (.lit (.int 3)) .nil))) (.cons (.lit (.int 0)) .nil)))) tK .nil) tH
noncomputable def tM:aB:=.cons (.asg 6 (.prim .idx (.cons (.prim .bG (.cons (.prim .idx (.cons (.var 2) (.cons (.prim .mod (.cons (.prim .idx (.cons (.var 1) (.cons (.prim .add (.cons (.lit (.int 36)) (.cons (.var 4) .nil))) .nil))) (.cons (.lit (.int 12)) .nil))) .nil))) (.cons (.lit (.str (tx ""))) .nil))) (.cons (.prim .mod (.cons (.prim .idx (.cons (.var 1) (.cons (.prim .add (.cons (.lit (.int 38)) (.cons (.var 4) .nil))) .nil))) (.cons (.lit (.int 2)) .nil))) .nil)))) tL
noncomputable def tO:aB:=.cons (.asg 5 (.prim .mod (.cons (.prim .idx (.cons (.var 1) (.cons (.prim .add (.cons (.lit (.int 34)) (.cons (.var 4) .nil))) .nil))) (.cons (.prim .add (.cons (.prim .len (.cons (.var 0) .nil)) (.cons (.lit (.int 1)) .nil))) .nil)))) tM
noncomputable def tQ:aB:=.cons (.dR [4] .rng (.cons (.prim .mul (.cons (.prim .fdiv (.cons (.prim .mod (.cons (.prim .idx (.cons (.var 1) (.cons (.lit (.int 32)) .nil))) (.cons (.lit (.int 4)) .nil))) (.cons (.lit (.int 2)) .nil))) (.cons (.prim .add (.cons (.lit (.int 1)) (.cons (.prim .mod (.cons (.prim .idx (.cons (.var 1) (.cons (.lit (.int 33)) .nil))) (.cons (.lit (.int 2)) .nil))) .nil))) .nil))) .nil) tO) tG
noncomputable def tR:aB:=.cons (.asg 3 (.prim .add (.cons (.var 3) (.cons (.lit (.str (tx "abcdefghijklmnopqrstuvwxyz{|}~"))) .nil)))) tQ
noncomputable def tU:aB:=.cons (.asg 3 (.lit (.str [32,33,34,35,36,38,39,40,41,42,43,44,45,46,47,48,49,50,51,52,53,54,55,56,57,58,59,60,61,62,63,64,65,66,67,68,69,70,71,72,73,74,75,76,77,78,79,80,81,82,83,84,85,86,87,88,89,90,91,92,93,94,95,96]))) tR
noncomputable def qZ:aB:=.cons (.asg 2 (.prim .bG (.cons (.lit (.str (tx "("))) (.cons (.lit (.str (tx ")"))) (.cons (.lit (.str (tx " "))) (.cons (.lit (.str (tx "not "))) (.cons (.lit (.str (tx " and "))) (.cons (.lit (.str (tx " or "))) (.cons (.lit (.str (tx "a"))) (.cons (.lit (.str (tx "N"))) (.cons (.lit (.str (tx "0"))) (.cons (.lit (.str [10])) (.cons (.lit (.str (tx " usually "))) (.cons (.lit (.str (tx "nota"))) .nil)))))))))))))) tU
noncomputable abbrev Ku:aB:=qZ
noncomputable def q9:aB:=.cons (.ret (.var 0)) .nil
noncomputable def Bu:aB:=.cons (.asg 0 (.prim .add (.cons (.prim .add (.cons (.lit (.str (tx "("))) (.cons (.var 0) .nil))) (.cons (.lit (.str (tx ")"))) .nil)))) .nil
noncomputable def Bv:aB:=.cons (.cC (.bF (.prim .le (.cons (.prim .add (.cons (.prim .len (.cons (.var 0) .nil)) (.cons (.lit (.int 2)) .nil))) (.cons (.var 2) .nil)))) Bu .nil) .nil
noncomputable def Bw:aB:=.cons (.dR [3] .rng (.cons (.lit (.int 60)) .nil) Bv) .nil
noncomputable def Bx:aB:=.cons (.cC (.bF (.prim .eq (.cons (.prim .mod (.cons (.prim .idx (.cons (.var 1) (.cons (.lit (.int 43)) .nil))) (.cons (.lit (.int 5)) .nil))) (.cons (.lit (.int 0)) .nil)))) Bw .nil) q9
noncomputable def BJ:aB:=.cons (.asg 2 (.prim .add (.cons (.lit (.int 117)) (.cons (.prim .mod (.cons (.prim .idx (.cons (.var 1) (.cons (.lit (.int 42)) .nil))) (.cons (.lit (.int 6)) .nil))) .nil)))) Bx
noncomputable abbrev Sx:aB:=BJ
noncomputable def mF:aB:=.cons (.ret (.var 1)) .nil
noncomputable def gk:aB:=.cons (.expr (.fC .list .append (.var 1) (.cons (.var 2) .nil))) .nil
noncomputable def vq:aB:=.cons (.iU (.var 1) (.prim .neg (.cons (.lit (.int 1)) .nil)) (.prim .add (.cons (.prim .idx (.cons (.var 1) (.cons (.prim .neg (.cons (.lit (.int 1)) .nil)) .nil))) (.cons (.var 2) .nil)))) .nil
noncomputable def vA:aB:=.cons (.cC (.or (.bF (.prim .Jr (.cons (.var 2) (.cons (.lit (.str (tx "() "))) .nil)))) (.or (.bF (.prim .eq (.cons (.prim .len (.cons (.var 1) .nil)) (.cons (.lit (.int 0)) .nil)))) (.bF (.prim .Ei (.cons (.prim .idx (.cons (.var 1) (.cons (.prim .neg (.cons (.lit (.int 1)) .nil)) .nil))) (.cons (.prim .dW (.cons (.lit (.str (tx "("))) (.cons (.lit (.str (tx ")"))) (.cons (.lit (.str (tx " "))) .nil)))) .nil)))))) gk vq) .nil
noncomputable def vB:aB:=.cons (.dR [2] .chr (.cons (.var 0) .nil) vA) mF
noncomputable def vC:aB:=.cons (.asg 1 (.prim .bG .nil)) vB
noncomputable abbrev M9:aB:=vC
noncomputable def vD:aB:=.cons (.ret (.lit (.bl true))) .nil
noncomputable def vG:aB:=.cons (.ret (.lit (.bl false))) .nil
noncomputable def mG:aB:=.cons (.cC (.and (.bF (.prim .eq (.cons (.prim .idx (.cons (.var 0) (.cons (.var 2) .nil))) (.cons (.lit (.str (tx "not"))) .nil)))) (.bF (.prim .ne (.cons (.var 4) (.cons (.lit (.str (tx " "))) .nil))))) vG .nil) .nil
noncomputable def mH:aB:=.cons (.ret (.lit (.bl false))) .nil
noncomputable def mJ:aB:=.cons (.cC (.and (.bF (.prim .Ei (.cons (.prim .idx (.cons (.var 0) (.cons (.var 2) .nil))) (.cons (.prim .dW (.cons (.lit (.str (tx "and"))) (.cons (.lit (.str (tx "or"))) .nil))) .nil)))) (.or (.bF (.prim .ne (.cons (.var 3) (.cons (.lit (.str (tx " "))) .nil)))) (.bF (.prim .ne (.cons (.var 4) (.cons (.lit (.str (tx " "))) .nil)))))) mH .nil) mG
noncomputable def vH:aB:=.cons (.ret (.lit (.bl false))) .nil
noncomputable def vI:aB:=.cons (.cC (.and (.bF (.prim .kj (.cons (.var 3) (.cons (.prim .dW (.cons (.lit (.str (tx "not"))) (.cons (.lit (.str (tx "and"))) (.cons (.lit (.str (tx "or"))) .nil)))) .nil)))) (.bF (.prim .kj (.cons (.var 4) (.cons (.prim .dW (.cons (.lit (.str (tx "and"))) (.cons (.lit (.str (tx "or"))) .nil))) .nil))))) vH .nil) .nil
noncomputable def mK:aB:=.cons (.ret (.lit (.bl false))) .nil
noncomputable def vJ:aB:=.cons (.cC (.or (.bF (.prim .eq (.cons (.var 3) (.cons (.lit (.str (tx " "))) .nil)))) (.bF (.prim .eq (.cons (.var 4) (.cons (.lit (.str (tx " "))) .nil))))) mK .nil) vI
noncomputable def lC:aB:=.cons (.cC (.bF (.prim .eq (.cons (.prim .idx (.cons (.var 0) (.cons (.var 2) .nil))) (.cons (.lit (.str (tx " "))) .nil)))) vJ .nil) mJ
noncomputable def tV:aB:=.cons (.asg 4 (.prim .idx (.cons (.var 1) (.cons (.prim .add (.cons (.var 2) (.cons (.lit (.int 2)) .nil))) .nil)))) lC
noncomputable def tW:aB:=.cons (.asg 3 (.prim .idx (.cons (.var 1) (.cons (.var 2) .nil)))) tV
noncomputable def tX:aB:=.cons (.dR [2] .rng (.cons (.prim .len (.cons (.var 0) .nil)) .nil) tW) vD
noncomputable def tY:aB:=.cons (.asg 1 (.prim .add (.cons (.prim .add (.cons (.prim .bG (.cons (.lit (.str (tx " "))) .nil)) (.cons (.var 0) .nil))) (.cons (.prim .bG (.cons (.lit (.str (tx " "))) .nil)) .nil)))) tX
noncomputable abbrev M_:aB:=tY
noncomputable def BK:aB:=.cons (.ret (.var 5)) .nil
noncomputable def BL:aB:=.cons (.asg 5 (.prim .dW (.cons (.lit (.str (tx "or"))) (.cons (.var 5) (.cons (.var 6) .nil))))) .nil
noncomputable def BP:aB:=.cons (.dR [6] .val (.cons (.prim .K8 (.cons (.var 4) (.cons (.lit (.int 1)) .nil))) .nil) BL) BK
noncomputable def BR:aB:=.cons (.asg 5 (.prim .idx (.cons (.var 4) (.cons (.lit (.int 0)) .nil)))) BP
noncomputable def BW:aB:=.cons (.expr (.fC .list .append (.var 4) (.cons (.prim .dW (.cons (.lit (.str (tx "and"))) (.cons (.fC .list .pop (.var 4) .nil) (.cons (.prim .idx (.cons (.var 0) (.cons (.prim .add (.cons (.var 3) (.cons (.lit (.int 1)) .nil))) .nil))) .nil)))) .nil))) .nil
noncomputable def BX:aB:=.cons (.expr (.fC .list .append (.var 4) (.cons (.prim .idx (.cons (.var 0) (.cons (.prim .add (.cons (.var 3) (.cons (.lit (.int 1)) .nil))) .nil))) .nil))) .nil
noncomputable def q_:aB:=.cons (.cC (.bF (.prim .eq (.cons (.prim .idx (.cons (.var 0) (.cons (.var 3) .nil))) (.cons (.lit (.str (tx "and"))) .nil)))) BW BX) .nil
noncomputable def BZ:aB:=.cons (.dR [3] .rng (.cons (.lit (.int 1)) (.cons (.prim .len (.cons (.var 0) .nil)) (.cons (.lit (.int 2)) .nil))) q_) BR
noncomputable def rA:aB:=.cons (.asg 4 (.prim .bG (.cons (.prim .idx (.cons (.var 0) (.cons (.lit (.int 0)) .nil))) .nil))) BZ
noncomputable def yx:aB:=.cons (.ret (.lit .non)) .nil
noncomputable def yC:aB:=.cons (.cC (.bF (.prim .eq (.cons (.prim .mod (.cons (.prim .len (.cons (.var 0) .nil)) (.cons (.lit (.int 2)) .nil))) (.cons (.lit (.int 0)) .nil)))) yx .nil) rA
noncomputable def yD:aB:=.cons (.ret (.lit .non)) .nil
noncomputable def yE:aB:=.cons (.cC (.bF (.prim .ne (.cons (.prim (.jX .str) (.cons (.prim .idx (.cons (.var 0) (.cons (.var 3) .nil))) .nil)) (.cons (.prim .eq (.cons (.prim .mod (.cons (.var 3) (.cons (.lit (.int 2)) .nil))) (.cons (.lit (.int 1)) .nil))) .nil)))) yD .nil) .nil
noncomputable def n_:aB:=.cons (.dR [3] .rng (.cons (.prim .len (.cons (.var 0) .nil)) .nil) yE) yC
noncomputable def yF:aB:=.cons (.asg 0 (.prim .Ri (.cons (.var 1) .nil))) n_
noncomputable def yG:aB:=.cons (.expr (.fC .list .append (.var 1) (.cons (.prim .dW (.cons (.lit (.str (tx "not"))) (.cons (.fC .list .pop (.var 1) .nil) .nil))) .nil))) .nil
noncomputable def jB:aB:=.cons (.ret (.lit .non)) .nil
noncomputable def oh:aB:=.cons (.cC (.or (.bF (.prim .eq (.cons (.prim .len (.cons (.var 1) .nil)) (.cons (.lit (.int 0)) .nil)))) (.bF (.prim (.jX .str) (.cons (.prim .idx (.cons (.var 1) (.cons (.prim .neg (.cons (.lit (.int 1)) .nil)) .nil))) .nil)))) jB .nil) yG
noncomputable def yH:aB:=.cons (.expr (.fC .list .append (.var 1) (.cons (.var 2) .nil))) .nil
noncomputable def jC:aB:=.cons (.cC (.bF (.prim .eq (.cons (.var 2) (.cons (.lit (.str (tx "not"))) .nil)))) oh yH) .nil
noncomputable def yI:aB:=.cons (.dR [2] .rev (.cons (.var 0) .nil) jC) yF
noncomputable def yJ:aB:=.cons (.asg 1 (.prim .bG .nil)) yI
noncomputable abbrev Sy:aB:=yJ
noncomputable def B_:aB:=.cons (.ret (.prim .le (.cons (.prim .len (.cons (.var 0) .nil)) (.cons (.lit (.int 12)) .nil)))) .nil
noncomputable def Ca:aB:=.cons (.ret (.lit (.bl false))) .nil
noncomputable def Cd:aB:=.cons (.cC (.bF (.prim .HJ (.cons (.var 1) (.cons (.lit (.str (tx "abcdefghijklmnopqrstuvwxyz"))) .nil)))) Ca .nil) .nil
noncomputable def Ce:aB:=.cons (.dR [1] .chr (.cons (.var 0) .nil) Cd) B_
noncomputable def Cg:aB:=.cons (.ret (.lit (.bl false))) .nil
noncomputable def Ci:aB:=.cons (.cC (.bF (.prim .Ei (.cons (.var 0) (.cons (.prim .dW (.cons (.lit (.str (tx "always"))) (.cons (.lit (.str (tx "where"))) (.cons (.lit (.str (tx "usually"))) .nil)))) .nil)))) Cg .nil) Ce
noncomputable abbrev SJ:aB:=Ci
noncomputable def Cj:aB:=.cons (.ret (.var 4)) .nil
noncomputable def rB:aB:=.cons (.ret (.prim .bG (.cons (.lit (.int 2)) .nil))) .nil
noncomputable def rC:aB:=.cons (.cC (.or (.bF (.prim .su (.cons (.var 4) .nil))) (.bF (.prim .gt (.cons (.prim .len (.cons (.var 2) .nil)) (.cons (.lit (.int 0)) .nil))))) rB .nil) Cj
noncomputable def Ck:aB:=.cons (.asg 4 (.call 16 (.cons (.fC .list .pop (.var 2) .nil) .nil) [])) rC
noncomputable def Cm:aB:=.cons (.expr (.fC .list .append (.var 2) (.cons (.prim .bG .nil) .nil))) .nil
noncomputable def Cp:aB:=.cons (.expr (.fC .list .append (.prim .idx (.cons (.var 2) (.cons (.prim .neg (.cons (.lit (.int 1)) .nil)) .nil))) (.cons (.var 4) .nil))) .nil
noncomputable def rE:aB:=.cons (.ret (.prim .bG (.cons (.lit (.int 2)) .nil))) .nil
noncomputable def rF:aB:=.cons (.cC (.or (.bF (.prim .su (.cons (.var 4) .nil))) (.bF (.prim .eq (.cons (.prim .len (.cons (.var 2) .nil)) (.cons (.lit (.int 0)) .nil))))) rE .nil) Cp
noncomputable def Cq:aB:=.cons (.asg 4 (.call 16 (.cons (.fC .list .pop (.var 2) .nil) .nil) [])) rF
noncomputable def jD:aB:=.cons (.expr (.fC .list .append (.prim .idx (.cons (.var 2) (.cons (.prim .neg (.cons (.lit (.int 1)) .nil)) .nil))) (.cons (.var 3) .nil))) .nil
noncomputable def yK:aB:=.cons (.expr (.fC .list .append (.prim .idx (.cons (.var 2) (.cons (.prim .neg (.cons (.lit (.int 1)) .nil)) .nil))) (.cons (.prim .dW (.cons (.lit (.str (tx "is"))) (.cons (.var 3) .nil))) .nil))) .nil
noncomputable def yL:aB:=.cons (.ret (.prim .bG (.cons (.lit (.int 2)) .nil))) .nil
noncomputable def yM:aB:=.cons (.cC (.not (.bF (.call 17 (.cons (.var 3) .nil) []))) yL .nil) yK
noncomputable def yN:aB:=.cons (.cC (.bF (.prim .ne (.cons (.var 3) (.cons (.lit (.str (tx " "))) .nil)))) yM .nil) .nil
noncomputable def gJ:aB:=.cons (.cC (.bF (.prim .Ei (.cons (.var 3) (.cons (.prim .dW (.cons (.lit (.str (tx "not"))) (.cons (.lit (.str (tx "and"))) (.cons (.lit (.str (tx "or"))) .nil)))) .nil)))) jD yN) .nil
noncomputable def fu:aB:=.cons (.cC (.bF (.prim .eq (.cons (.var 3) (.cons (.lit (.str (tx ")"))) .nil)))) Cq gJ) .nil
noncomputable def dY:aB:=.cons (.cC (.bF (.prim .eq (.cons (.var 3) (.cons (.lit (.str (tx "("))) .nil)))) Cm fu) .nil
noncomputable def yO:aB:=.cons (.dR [3] .val (.cons (.var 1) .nil) dY) Ck
noncomputable def yP:aB:=.cons (.asg 2 (.prim .bG (.cons (.prim .bG .nil) .nil))) yO
noncomputable def yQ:aB:=.cons (.ret (.prim .bG (.cons (.lit (.int 2)) .nil))) .nil
noncomputable def yR:aB:=.cons (.cC (.not (.bF (.call 15 (.cons (.var 1) .nil) []))) yQ .nil) yP
noncomputable def yS:aB:=.cons (.ret (.prim .bG (.cons (.lit (.int 1)) .nil))) .nil
noncomputable def ou:aB:=.cons (.cC (.bF (.prim .gt (.cons (.prim .len (.cons (.var 0) .nil)) (.cons (.lit (.int 120)) .nil)))) yS .nil) yR
noncomputable def yU:aB:=.cons (.asg 1 (.call 14 (.cons (.var 0) .nil) [])) ou
noncomputable abbrev SM:aB:=yU
noncomputable def Cr:aB:=.cons (.ret (.lit (.bl true))) .nil
noncomputable def Nb:aB:=.cons (.ret (.lit (.bl false))) .nil
noncomputable def Cu:aB:=.cons (.cC (.not (.bF (.call 19 (.cons (.prim .idx (.cons (.var 0) (.cons (.var 2) .nil))) (.cons (.prim .idx (.cons (.var 1) (.cons (.var 2) .nil))) .nil)) []))) Nb .nil) .nil
noncomputable def Cv:aB:=.cons (.dR [2] .rng (.cons (.prim .len (.cons (.var 1) .nil)) .nil) Cu) Cr
noncomputable def Nf:aB:=.cons (.ret (.lit (.bl false))) .nil
noncomputable def Cw:aB:=.cons (.cC (.or (.not (.bF (.prim (.jX .tuple) (.cons (.var 0) .nil)))) (.bF (.prim .ne (.cons (.prim .len (.cons (.var 0) .nil)) (.cons (.prim .len (.cons (.var 1) .nil)) .nil))))) Nf .nil) Cv
noncomputable def Cy:aB:=.cons (.ret (.uy (.prim (.jX .str) (.cons (.var 0) .nil)) (.prim .eq (.cons (.var 0) (.cons (.var 1) .nil))))) .nil
noncomputable def rG:aB:=.cons (.cC (.bF (.prim (.jX .str) (.cons (.var 1) .nil))) Cy .nil) Cw
noncomputable abbrev SN:aB:=rG
noncomputable def yV:aB:=.cons (.ret (.prim .add (.cons (.var 1) (.cons (.prim .bG (.cons (.prim (.dZ mZ m_) (.cons (.var 0) .nil)) (.cons (.prim (.dZ wG wH) (.cons (.var 0) .nil)) (.cons (.prim (.dZ ql qm) (.cons (.var 0) .nil)) .nil)))) .nil)))) .nil
noncomputable def yW:aB:=.cons (.asg 1 (.prim .add (.cons (.var 1) (.cons (.prim .bG (.cons (.prim (.dZ iI iJ) (.cons (.var 0) .nil)) (.cons (.prim (.dZ sU sV) (.cons (.var 0) .nil)) (.cons (.prim (.dZ qp qu) (.cons (.var 0) .nil)) .nil)))) .nil)))) yV
noncomputable def yX:aB:=.cons (.asg 1 (.prim .add (.cons (.var 1) (.cons (.prim .bG (.cons (.prim (.dZ ni nj) (.cons (.var 0) .nil)) (.cons (.prim (.dZ lu lA) (.cons (.var 0) .nil)) (.cons (.prim (.dZ jz jA) (.cons (.var 0) .nil)) .nil)))) .nil)))) yW
noncomputable def yZ:aB:=.cons (.asg 1 (.prim .bG (.cons (.prim (.dZ sW sX) (.cons (.var 0) .nil)) (.cons (.prim (.dZ nq nA) (.cons (.var 0) .nil)) (.cons (.prim (.dZ iC iG) (.cons (.var 0) .nil)) (.cons (.prim (.dZ sY sZ) (.cons (.var 0) .nil)) .nil)))))) yX
noncomputable abbrev O7:aB:=yZ
noncomputable def oW:aB:=.cons (.ret (.prim .add (.cons (.prim .add (.cons (.comp .rng (.cons (.lit (.int 5)) .nil) 1 .none (.prim .eq (.cons (.var 1) (.cons (.var 0) .nil)))) (.cons (.prim .mul (.cons (.prim .bG (.cons (.lit (.bl true)) .nil)) (.cons (.lit (.int 3)) .nil))) .nil))) (.cons (.prim .mul (.cons (.prim .bG (.cons (.lit (.bl false)) .nil)) (.cons (.lit (.int 5)) .nil))) .nil)))) .nil
noncomputable abbrev G5:aB:=oW
noncomputable def fB:aB:=.cons (.ret (.prim .dW (.cons (.prim .add (.cons (.var 3) (.cons (.var 4) .nil))) (.cons (.var 5) (.cons (.var 6) .nil))))) .nil
noncomputable def za:aB:=.cons (.asg 5 (.prim (.HF rcs) (.cons (.var 7) .nil))) .nil
noncomputable def zc:aB:=.cons (.asg 4 (.prim .add (.cons (.var 4) (.cons (.prim .bG (.cons (.prim (.dZ mZ m_) (.cons (.var 7) .nil)) (.cons (.prim (.dZ wG wH) (.cons (.var 7) .nil)) (.cons (.prim (.dZ ql qm) (.cons (.var 7) .nil)) .nil)))) .nil)))) za
noncomputable def zf:aB:=.cons (.asg 4 (.prim .bG (.cons (.prim (.dZ iI iJ) (.cons (.var 7) .nil)) (.cons (.prim (.dZ sU sV) (.cons (.var 7) .nil)) (.cons (.prim (.dZ qp qu) (.cons (.var 7) .nil)) .nil))))) zc
noncomputable def zj:aB:=.cons (.asg 3 (.prim .add (.cons (.var 3) (.cons (.prim .bG (.cons (.prim (.dZ ni nj) (.cons (.var 7) .nil)) (.cons (.prim (.dZ lu lA) (.cons (.var 7) .nil)) (.cons (.prim (.dZ jz jA) (.cons (.var 7) .nil)) .nil)))) .nil)))) zf
noncomputable def jE:aB:=.cons (.asg 3 (.prim .bG (.cons (.prim (.dZ sW sX) (.cons (.var 7) .nil)) (.cons (.prim (.dZ nq nA) (.cons (.var 7) .nil)) (.cons (.prim (.dZ iC iG) (.cons (.var 7) .nil)) (.cons (.prim (.dZ sY sZ) (.cons (.var 7) .nil)) .nil)))))) zj
noncomputable def zm:aB:=.cons (.Le 6 (.ite (.bF (.prim .eq (.cons (.var 1) (.cons (.lit (.int 0)) .nil)))) (.call 0 (.cons (.var 0) .nil) [(.int 0)]) (.ite (.bF (.prim .eq (.cons (.var 1) (.cons (.lit (.int 1)) .nil)))) (.call 0 (.cons (.var 0) (.cons (.var 2) .nil)) []) (.call 0 (.cons (.var 0) (.cons (.var 2) .nil)) []))) [(tx "TooLong"),(tx "NoSentence")] 7 jE) fB
noncomputable def zp:aB:=.cons (.asg 6 (.lit .non)) zm
noncomputable def zq:aB:=.cons (.asg 5 (.lit (.int 0))) zp
noncomputable def vK:aB:=.cons (.asg 4 (.prim .bG .nil)) zq
noncomputable def vM:aB:=.cons (.asg 3 (.prim .bG .nil)) vK
noncomputable abbrev O8:aB:=vM
noncomputable def zx:aB:=.cons (.ret (.uy (.prim (.jX .int) (.cons (.var 0) .nil)) (.prim .Rh (.cons (.prim (.jX .bool) (.cons (.var 0) .nil)) .nil)))) .nil
noncomputable abbrev O9:aB:=zx
noncomputable def Cz:aB:=.cons (.ret (.lit (.bl true))) .nil
noncomputable def Ng:aB:=.cons (.ret (.lit (.bl false))) .nil
noncomputable def CG:aB:=.cons (.cC (.or (.bF (.prim .ne (.cons (.call 20 (.cons (.var 3) .nil) []) (.cons (.call 21 (.cons (.prim .sub (.cons (.var 2) (.cons (.lit (.int 1)) .nil))) .nil) []) .nil)))) (.or (.not (.bF (.call 23 (.cons (.prim (.HF rcs) (.cons (.var 3) .nil)) .nil) []))) (.bF (.prim .ne (.cons (.prim (.HF rcs) (.cons (.var 3) .nil)) (.cons (.var 0) .nil)))))) Ng .nil) .nil
noncomputable def CJ:aB:=.cons (.asg 3 (.prim .idx (.cons (.var 1) (.cons (.var 2) .nil)))) CG
noncomputable def rH:aB:=.cons (.dR [2] .rng (.cons (.lit (.int 6)) .nil) CJ) Cz
noncomputable def CK:aB:=.cons (.asg 1 (.prim .bG (.cons (.Ej (tx "RowError") (.var 0)) (.cons (.Ej (tx "NoRow") (.var 0)) (.cons (.Ej (tx "TooLong") (.var 0)) (.cons (.Ej (tx "NoSentence") (.var 0)) (.cons (.Ej (tx "Twice") (.var 0)) (.cons (.Ej (tx "TooMany") (.var 0)) .nil)))))))) rH
noncomputable abbrev SQ:aB:=CK
noncomputable def oA:aB:=.cons (.ret (.uy (.prim .eq (.cons (.var 4) (.cons (.call 21 (.cons (.prim .idx (.cons (.var 3) (.cons (.lit (.int 0)) .nil))) .nil) []) .nil))) (.uy (.call 23 (.cons (.var 5) .nil) []) (.prim .eq (.cons (.var 5) (.cons (.var 2) .nil)))))) .nil
noncomputable def zy:aB:=.cons (.asg 2 (.lit (.int 0))) .nil
noncomputable def oE:aB:=.cons (.cC (.bF (.prim .eq (.cons (.var 1) (.cons (.lit (.int 0)) .nil)))) zy .nil) oA
noncomputable def zA:aB:=.cons (.ret (.uy (.prim .eq (.cons (.var 4) (.cons (.prim .bG .nil) .nil))) (.call 19 (.cons (.var 6) (.cons (.var 3) .nil)) []))) .nil
noncomputable def jF:aB:=.cons (.cC (.bF (.prim (.jX .tuple) (.cons (.var 3) .nil))) zA .nil) oE
noncomputable def jG:aB:=.cons (.Vy [4,5,6] (.call 22 (.cons (.var 0) (.cons (.var 1) (.cons (.var 2) .nil))) [])) jF
noncomputable def zB:aB:=.cons (.asg 3 (.call 18 (.cons (.var 0) .nil) [])) jG
noncomputable abbrev O_:aB:=zB
noncomputable def Qy:aB:=.cons (.ret (.call 24 (.cons (.prim .mod (.cons (.call 8 (.cons (.var 0) (.cons (.lit (.int 0)) .nil)) []) (.cons (.prim .pow (.cons (.lit (.int 10)) (.cons (.lit (.int 40)) .nil))) .nil))) .nil) [])) .nil
noncomputable def acR:aB:=.cons (.ret (.lit (.bl false))) .nil
noncomputable def Qz:aB:=.cons (.cC (.not (.bF (.call 25 (.cons (.var 5) (.cons (.prim .mod (.cons (.prim .idx (.cons (.var 3) (.cons (.lit (.int 46)) .nil))) (.cons (.lit (.int 3)) .nil))) (.cons (.var 6) .nil))) []))) acR .nil) .nil
noncomputable def QB:aB:=.cons (.asg 6 (.prim .idx (.cons (.prim .bG (.cons (.prim .mod (.cons (.prim .idx (.cons (.var 3) (.cons (.lit (.int 44)) .nil))) (.cons (.lit (.int 20)) .nil))) (.cons (.prim .add (.cons (.prim .mul (.cons (.prim .mod (.cons (.var 2) (.cons (.prim .pow (.cons (.lit (.int 10)) (.cons (.lit (.int 64)) .nil))) .nil))) (.cons (.prim .pow (.cons (.lit (.int 10)) (.cons (.lit (.int 15)) .nil))) .nil))) (.cons (.prim .idx (.cons (.var 3) (.cons (.lit (.int 44)) .nil))) .nil))) .nil))) (.cons (.prim .mod (.cons (.prim .idx (.cons (.var 3) (.cons (.lit (.int 45)) .nil))) (.cons (.lit (.int 2)) .nil))) .nil)))) Qz
noncomputable def Iw:aB:=.cons (.asg 5 (.call 13 (.cons (.call 12 (.cons (.call 11 (.cons (.var 3) (.cons (.var 4) .nil)) []) (.cons (.var 3) .nil)) []) (.cons (.var 3) .nil)) [])) QB
noncomputable def QC:aB:=.cons (.asg 4 (.prim .add (.cons (.var 1) (.cons (.prim .bG (.cons (.prim .idx (.cons (.prim .bG (.cons (.lit (.str (tx "always"))) (.cons (.lit (.str (tx "where"))) (.cons (.lit (.str (tx "usually"))) (.cons (.lit (.str (tx "not"))) (.cons (.lit (.str (tx "and"))) (.cons (.lit (.str (tx "or"))) .nil))))))) (.cons (.prim .mod (.cons (.prim .idx (.cons (.var 3) (.cons (.lit (.int 52)) .nil))) (.cons (.lit (.int 6)) .nil))) .nil))) .nil)) .nil)))) .nil
noncomputable def QD:aB:=.cons (.cC (.bF (.prim .eq (.cons (.prim .mod (.cons (.prim .idx (.cons (.var 3) (.cons (.lit (.int 51)) .nil))) (.cons (.lit (.int 8)) .nil))) (.cons (.lit (.int 0)) .nil)))) QC .nil) Iw
noncomputable def QF:aB:=.cons (.asg 4 (.var 1)) QD
noncomputable def Iz:aB:=.cons (.asg 3 (.call 7 (.cons (.var 2) (.cons (.lit (.int 54)) .nil)) [])) QF
noncomputable def Nh:aB:=.cons (.dR [2] .val (.cons (.prim .add (.cons (.slc (.var 0) (.lit (.int 1)) (.lit (.int 41))) (.cons (.prim .bG (.cons (.prim .len (.cons (.var 0) .nil)) .nil)) .nil))) .nil) Iz) Qy
noncomputable def Ni:aB:=.cons (.asg 1 (.call 10 (.cons (.call 8 (.cons (.var 0) (.cons (.lit (.int 0)) .nil)) []) (.cons (.lit (.int 6)) .nil)) [])) Nh
noncomputable abbrev ajf:aB:=Ni
end
noncomputable def P:List Def:=[⟨2,4,G4⟩,⟨1,4,O2⟩,⟨2,4,Ss⟩,⟨2,2,Sv⟩,⟨1,1,W3⟩,⟨1,5,Iv⟩,⟨3,3,acP⟩,⟨2,5,O4⟩,⟨2,2,Ks⟩,⟨2,5,O5⟩,⟨2,11,O6⟩,⟨2,10,Sw⟩,⟨2,7,Ku⟩,⟨2,4,Sx⟩,⟨1,3,M9⟩,⟨1,5,M_⟩,⟨1,7,Sy⟩,⟨1,2,SJ⟩,⟨1,5,SM⟩,⟨2,3,SN⟩,⟨1,2,O7⟩,⟨1,1,G5⟩,⟨3,8,O8⟩,⟨1,1,O9⟩,⟨1,4,SQ⟩,⟨3,7,O_⟩,⟨1,7,ajf⟩]
end gb
set_option maxHeartbeats 1000000
set_option maxRecDepth 10000
namespace gb
open Z
seal aM bH cQ sE wpS bN aD
noncomputable abbrev sb:Nat->Nat->Bool:=λ_ _=>false
section
variable {d:Nat}{h:AH}{Q:PV}{E:PX}
noncomputable def lv:Sn->Nat
 | .is _=>1
 | .nt a=>lv a+1
 | .an a b=>max (lv a) (lv b)+1
 | .or a b=>max (lv a) (lv b)+1
noncomputable def br (t l:Nat) (s:S):S:=if l<=t then s else tx "("++s++tx ")"
noncomputable def sh:Sn->Nat->S
 | .is n,l=>br 3 l n
 | .nt a,l=>br 2 l (tx "not "++sh a 2)
 | .an a b,l=>br 1 l (sh a 1++tx " and "++sh b 2)
 | .or a b,l=>br 0 l (sh a 0++tx " or "++sh b 1)
noncomputable def eZ:S:=tx "abcdefghijklmnopqrstuvwxyz"
noncomputable def KW:List S:=[tx "always",tx "where",tx "usually",tx "not",tx "and",tx "or"]
structure GN (n:S):Prop where
 lo:1<=n.length
 hi:n.length<=12
 le:∀c∈n,c∈eZ
 kw:n∉KW
theorem iK:tx "("=[40]:=by decide
theorem jH:tx ")"=[41]:=by decide
theorem DR:tx " and "=[32,97,110,100,32]:=by decide
theorem DW:tx " or "=[32,111,114,32]:=by decide
theorem tZ:tx "not "=[110,111,116,32]:=by decide
theorem Nj:tx "not"=[110,111,116]:=by decide
theorem G6:eZ=[97,98,99,100,101,102,103,104,105,106,107,108,109,110,111,112,113,114,115,116,117,118,119,120,121,122]:=by decide
theorem j5 {c:Nat}(hc:c∈eZ):97<=c/\c<=122:=by
 rw[G6]at hc;simp only[List.mem_cons,List.not_mem_nil,or_false]at hc;omega
noncomputable def bp (t l:Nat) (ps:List S):List S:=if l<=t then ps else tx "("::(ps++[tx ")"])
noncomputable def pc:Sn->Nat->List S
 | .is n,l=>bp 3 l [n]
 | .nt a,l=>bp 2 l (tx "not "::pc a 2)
 | .an a b,l=>bp 1 l (pc a 1++tx " and "::pc b 2)
 | .or a b,l=>bp 0 l (pc a 0++tx " or "::pc b 1)
noncomputable def NL (r:S):Prop:=∀c,r.head?=some c->c∉eZ
noncomputable def PS:List S:=[tx "(",tx ")",tx " and ",tx " or ",tx "not "]
inductive PG:List S->Prop
 | nil:PG []
 | pc {q:S} {qs:List S}:q∈PS->PG qs->PG (q::qs)
 | nm {n:S} {qs:List S}:GN n->NL qs.flatten->PG qs->PG (n::qs)
theorem afZ:NL []:=λc e=>by cases e
theorem Zt {n:S}{r:S}(g:GN n)(hr:NL r){p:S}(hp:p∈PS):p.isPrefixOf (n++r)=false:=by
 obtain ⟨c,n',rfl⟩:∃c n',n=c::n':=by
  cases n with
  | nil=>have:=g.lo;simp at this
  | cons c n'=>exact ⟨c,n',rfl⟩
 have hc:=j5 (g.le c (by simp));have c1:(40 == c)=false:=by simp;omega
 have c2:(41 == c)=false:=by simp;omega
 have c3:(32 == c)=false:=by simp;omega
 simp only[PS,List.mem_cons,List.not_mem_nil,or_false]at hp;rcases hp with rfl | rfl | rfl | rfl | rfl
 ·simp only[iK,List.cons_append,List.isPrefixOf,c1,Bool.false_and]
 ·simp only[jH,List.cons_append,List.isPrefixOf,c2,Bool.false_and]
 ·simp only[DR,List.cons_append,List.isPrefixOf,c3,Bool.false_and]
 ·simp only[DW,List.cons_append,List.isPrefixOf,c3,Bool.false_and]
 ·rw[Bool.eq_false_iff];intro e;rw[List.isPrefixOf_iff_prefix]at e;obtain ⟨t,e⟩:=e;rw[tZ]at e
  -- n is a part of "not"
  have nol:∀{x:Nat} {r':S},r=x::r'->x∈eZ->False:=λe1 hx=>hr _ (by rw[e1];rfl) hx;have i1:(111:Nat)∈eZ:=by rw[G6];decide
  have i2:(116:Nat)∈eZ:=by rw[G6];decide
  have kw:=g.kw;have le:=g.le;rcases n' with _ | ⟨c2,_ | ⟨c3,_ | ⟨c4,n'⟩⟩⟩
  ·simp only[List.cons_append,List.nil_append,List.cons.injEq]at e;exact nol e.2.symm i1
  ·simp only[List.cons_append,List.nil_append,List.cons.injEq]at e;exact nol e.2.2.symm i2
  ·simp only[List.cons_append,List.nil_append,List.cons.injEq]at e;obtain ⟨rfl,rfl,rfl,e⟩:=e;exact kw (by simp[KW,Nj])
  ·simp only[List.cons_append,List.nil_append,List.cons.injEq]at e;obtain ⟨_,_,_,e4,_⟩:=e;have:=j5 (le c4 (by simp));omega
theorem af0 {p q r:S}(hp:p∈PS)(hq:q∈PS):p.isPrefixOf (q++r)=decide (p=q):=by
 simp only[PS,iK,jH,DR,DW,tZ,List.mem_cons,List.not_mem_nil,or_false]at hp hq;rcases hp with rfl | rfl | rfl | rfl | rfl<;>rcases hq with rfl | rfl | rfl | rfl | rfl<;>simp[List.isPrefixOf]
inductive Fr where
 | op | nt | an (a:Sn) | or (a:Sn)
noncomputable def kn:Fr->S
 | .op=>tx "("
 | .nt=>tx "not"
 | .an _=>tx "and"
 | .or _=>tx "or"
noncomputable def fD:Fr->D
 | .op=>.tup [.str (tx "(")]
 | .nt=>.tup [.str (tx "not")]
 | .an a=>.tup [.str (tx "and"),sd a]
 | .or a=>.tup [.str (tx "or"),sd a]
noncomputable def fw:Fr->Sn->Sn
 | .op,w=>w
 | .nt,w=>.nt w
 | .an a,w=>.an a w
 | .or a,w=>.or a w
noncomputable def ig (l:Nat):Fr->Bool
 | .op=>false
 | .nt=>decide (l<=2)
 | .an _=>decide (l<=1)
 | .or _=>decide (l<=0)
theorem Zu {l m:Nat}(h:l<=m):∀{f:Fr},ig m f=true->ig l f=true
 | .op,e=>by cases e
 | .nt,e=>by simp only[ig,decide_eq_true_eq]at e ⊢;omega
 | .an _,e=>by simp only[ig,decide_eq_true_eq]at e ⊢;omega
 | .or _,e=>by simp only[ig,decide_eq_true_eq]at e ⊢;omega
noncomputable def bD (l:Nat):List Fr->Sn->List Fr×Sn
 | [],w=>([],w)
 | f::B,w=>if ig l f=true then bD l B (fw f w) else (f::B,w)
theorem JW {c:Nat}:∀{s:S},s.head?≠some c->lstrip c s=s
 | [],_=>rfl
 | x::xs,h=>by
  unfold lstrip;rw[if_neg (λe=>h (by rw[e];rfl))]
theorem Zv {c:Nat}{s:S}(h:c∉s):Z.strip c s=s:=by
 unfold Z.strip;have h1:s.head?≠some c:=λe=>h (List.mem_of_mem_head? (by rw[e];rfl));have h2:s.reverse.head?≠some c:=λe=>h (List.mem_reverse.mp (List.mem_of_mem_head? (by rw[e];rfl)));rw[JW h1,JW h2,List.reverse_reverse]
noncomputable def tk (q:S):S:=Z.strip 32 q
theorem SX:tk (tx "(")=tx "(":=by decide
theorem S5:tk (tx ")")=tx ")":=by decide
theorem S6:tk (tx " and ")=tx "and":=by decide
theorem S7:tk (tx " or ")=tx "or":=by decide
theorem S8:tk (tx "not ")=tx "not":=by decide
theorem S9 {n:S}(g:GN n):tk n=n:=Zv λh=>by have:=j5 (g.le _ h);omega
inductive It where
 | nt | an | or | tr (t:Sn)
noncomputable def zE:Nat->Sn->Sn
 | 0,t=>t
 | k+1,t=>zE k (.nt t)
noncomputable def jo:Option Sn->Sn->Sn
 | none,w=>w
 | some a,w=>.or a w
noncomputable def ja:Option Sn->Sn->Sn
 | none,w=>w
 | some a,w=>.an a w
noncomputable def stI:List Fr×Option Sn->It->Option (List Fr×Option Sn)
 | (B,none),.nt=>some (.nt::B,none)
 | (B,none),.tr t=>some (B,some t)
 | (B,some w),.an=>some (.an (bD 1 B w).2::(bD 1 B w).1,none)
 | (B,some w),.or=>some (.or (bD 0 B w).2::(bD 0 B w).1,none)
 | _,_=>none
noncomputable def rI:List Fr×Option Sn->List It->Option (List Fr×Option Sn)
 | s,[]=>some s
 | s,x::r=>(stI s x).bind λs'=>rI s' r
noncomputable def fin:List Fr×Option Sn->Option Sn
 | (B,some w)=>some (bD 0 B w).2
 | (_,none)=>none
theorem G7:∀{xs ys:List It} {s:List Fr×Option Sn},rI s (xs++ys)=(rI s xs).bind λs'=>rI s' ys
 | [],ys,s=>rfl
 | x::xs,ys,s=>by
  show (stI s x).bind _=((stI s x).bind _).bind _;cases stI s x with
  | none=>rfl
  | some s'=>exact G7 (xs:=xs)
noncomputable def res:Option Sn->Option Sn->Nat ⊕ Sn->List It->Option Sn
 | _,_,.inl _,[]=>none
 | acc,bK,.inl k,.nt::r=>res acc bK (.inl (k+1)) r
 | acc,bK,.inl k,.tr t::r=>res acc bK (.inr (zE k t)) r
 | _,_,.inl _,_::_=>none
 | acc,bK,.inr w,[]=>some (jo acc (ja bK w))
 | acc,bK,.inr w,.an::r=>res acc (some (ja bK w)) (.inl 0) r
 | acc,bK,.inr w,.or::r=>res (some (jo acc (ja bK w))) none (.inl 0) r
 | _,_,.inr _,_::_=>none
noncomputable def G (acc bK:Option Sn) (k:Nat):List Fr:=List.replicate k .nt++(bK.toList.map .an++acc.toList.map .or)
theorem amg {acc bK:Option Sn}{k:Nat}:Fr.nt::G acc bK k=G acc bK (k+1):=by
 simp[G,List.replicate_succ]
theorem Ga {l:Nat}(hl:l<=2){B:List Fr}:∀{k:Nat} {w:Sn},bD l (List.replicate k .nt++B) w=bD l B (zE k w)
 | 0,w=>rfl
 | k+1,w=>by
  rw[List.replicate_succ,List.cons_append];show (if ig l .nt=true then _ else _)=_;rw[if_pos (by simp[ig];omega)];exact Ga hl (k:=k)
theorem af2 {acc bK:Option Sn}{k:Nat}{w:Sn}:bD 1 (G acc bK k) w=(acc.toList.map .or,ja bK (zE k w)):=by
 unfold G;rw[Ga (by omega)];cases bK with
 | none=>cases acc<;>rfl
 | some a=>cases acc<;>rfl
theorem W4 {acc bK:Option Sn}{k:Nat}{w:Sn}:bD 0 (G acc bK k) w=([],jo acc (ja bK (zE k w))):=by
 unfold G;rw[Ga (by omega)];cases bK with
 | none=>cases acc<;>rfl
 | some a=>cases acc<;>rfl
theorem vN:∀{its:List It} {acc bK:Option Sn} {k:Nat},((rI (G acc bK k,none) its).bind fin=res acc bK (.inl k) its)/\∀w,(rI (G acc bK k,some w) its).bind fin=res acc bK (.inr (zE k w)) its
 | [],acc,bK,k=>by
  refine ⟨rfl,λw=>?_⟩;show some (bD 0 (G acc bK k) w).2=_;rw[W4];rfl
 | .nt::r,acc,bK,k=>by
  refine ⟨?_,λw=>rfl⟩;show (rI (Fr.nt::G acc bK k,none) r).bind fin=_;rw[amg];exact (vN (its:=r)).1
 | .tr t::r,acc,bK,k=>⟨(vN (its:=r)).2 t,λw=>rfl⟩
 | .an::r,acc,bK,k=>by
  refine ⟨rfl,λw=>?_⟩;show (rI (.an (bD 1 (G acc bK k) w).2::(bD 1 (G acc bK k) w).1,none) r).bind fin=_;rw[af2];exact (vN (its:=r) (acc:=acc) (bK:=some (ja bK (zE k w))) (k:=0)).1
 | .or::r,acc,bK,k=>by
  refine ⟨rfl,λw=>?_⟩;show (rI (.or (bD 0 (G acc bK k) w).2::(bD 0 (G acc bK k) w).1,none) r).bind fin=_;rw[W4];exact (vN (its:=r) (acc:=some (jo acc (ja bK (zE k w)))) (bK:=none) (k:=0)).1
noncomputable def NF:List It->Option (List It)
 | []=>some []
 | .nt::r=>match NF r with
  | some (.tr t::r')=>some (.tr (.nt t)::r')
  | _=>none
 | x::r=>(NF r).map (x::·)
noncomputable def fJ:List It->Option (Sn×List (Bool×Sn))
 | [.tr t]=>some (t,[])
 | .tr t::.an::r=>(fJ r).map λp=>(t,(true,p.1)::p.2)
 | .tr t::.or::r=>(fJ r).map λp=>(t,(false,p.1)::p.2)
 | _=>none
noncomputable def comb:Option Sn->Option Sn->Sn->List (Bool×Sn)->Sn
 | acc,bK,w,[]=>jo acc (ja bK w)
 | acc,bK,w,(true,t)::l=>comb acc (some (ja bK w)) t l
 | acc,bK,w,(false,t)::l=>comb (some (jo acc (ja bK w))) none t l
noncomputable def FL (its:List It):Option Sn:=(NF its).bind λb=>(fJ b).map λp=>comb none none p.1 p.2
noncomputable def alT (acc bK:Option Sn) (w:Sn):List It->Option Sn
 | []=>some (comb acc bK w [])
 | .an::r=>(fJ r).map λp=>comb acc bK w ((true,p.1)::p.2)
 | .or::r=>(fJ r).map λp=>comb acc bK w ((false,p.1)::p.2)
 | _=>none
theorem af4 {t:Sn}{acc bK:Option Sn}:∀{r:List It} {w:Sn},((fJ (.tr t::r)).map λp=>comb acc bK (w) p.2)=alT acc bK w r
 | [],w=>rfl
 | .an::r,w=>by
  show ((fJ r).map _).map _=(fJ r).map _;rw[Option.map_map];rfl
 | .or::r,w=>by
  show ((fJ r).map _).map _=(fJ r).map _;rw[Option.map_map];rfl
 | .nt::r,w=>rfl
 | .tr _::r,w=>rfl
theorem acS {t:Sn}:∀{r:List It} {p:Sn×List (Bool×Sn)},fJ (.tr t::r)=some p->p.1=t
 | [],p,e=>by cases e;rfl
 | .an::r,p,e=>by
  change (fJ r).map _=some p at e;obtain ⟨q,_,rfl⟩:=Option.map_eq_some_iff.mp e;rfl
 | .or::r,p,e=>by
  change (fJ r).map _=some p at e;obtain ⟨q,_,rfl⟩:=Option.map_eq_some_iff.mp e;rfl
 | .nt::r,p,e=>by cases e
 | .tr _::r,p,e=>by cases e
theorem S_ {k:Nat}{acc bK:Option Sn}{t:Sn}{r:List It}:((fJ (.tr t::r)).map λp=>comb acc bK (zE k p.1) p.2)=alT acc bK (zE k t) r:=by
 rw[<-af4 (t:=t)];cases e:fJ (.tr t::r) with
 | none=>rfl
 | some p=>rw[Option.map_some,Option.map_some,acS e]
theorem acT:∀{b:List It},(∀t r,b≠.tr t::r)->fJ b=none
 | [],_=>rfl
 | .nt::_,_=>rfl
 | .an::_,_=>rfl
 | .or::_,_=>rfl
 | .tr t::r,h=>absurd rfl (h t r)
theorem CN:∀{its:List It} {acc bK:Option Sn},(∀k,res acc bK (.inl k) its=(NF its).bind λb=>(fJ b).map λp=>comb acc bK (zE k p.1) p.2)/\∀w,res acc bK (.inr w) its=(NF its).bind λb=>alT acc bK w b
 | [],acc,bK=>⟨λk=>rfl,λw=>rfl⟩
 | .nt::r,acc,bK=>by
  refine ⟨λk=>?_,λw=>?_⟩
  ·show res acc bK (.inl (k+1)) r=_;rw[(CN (its:=r)).1 (k+1)];cases e:NF r with
   | none=>simp only[NF,e];rfl
   | some b=>
    by_cases hb:∃t r',b=.tr t::r'
    ·obtain ⟨t,r',rfl⟩:=hb;simp only[NF,e,Option.bind_some];rw[S_,S_];rfl
    ·have hb':∀t r,b≠.tr t::r:=λt r z=>hb ⟨t,r,z⟩;have en:NF (.nt::r)=none:=by
      simp only[NF,e];split
      ·rename_i t r' z;exact absurd (Option.some.inj z) (hb' t r')
      ·rfl
     rw[en,Option.bind_some,acT hb'];rfl
  ·show none=_;cases e:NF r with
   | none=>simp only[NF,e];rfl
   | some b=>
    by_cases hb:∃t r',b=.tr t::r'
    ·obtain ⟨t,r',rfl⟩:=hb;simp only[NF,e,Option.bind_some];rfl
    ·have hb':∀t r,b≠.tr t::r:=λt r z=>hb ⟨t,r,z⟩;have en:NF (.nt::r)=none:=by
      simp only[NF,e];split
      ·rename_i t r' z;exact absurd (Option.some.inj z) (hb' t r')
      ·rfl
     rw[en];rfl
 | .tr t::r,acc,bK=>by
  refine ⟨λk=>?_,λw=>?_⟩
  ·show res acc bK (.inr (zE k t)) r=((NF r).map _).bind _;rw[(CN (its:=r)).2];cases NF r with
   | none=>rfl
   | some b=>simp only[Option.map_some,Option.bind_some];rw[S_]
  ·show none=((NF r).map _).bind _;cases NF r with
   | none=>rfl
   | some b=>rfl
 | .an::r,acc,bK=>by
  refine ⟨λk=>?_,λw=>?_⟩
  ·show none=((NF r).map _).bind _;cases NF r with
   | none=>rfl
   | some b=>rfl
  ·show res acc (some (ja bK w)) (.inl 0) r=((NF r).map _).bind _;rw[(CN (its:=r)).1 0];cases NF r with
   | none=>rfl
   | some b=>rfl
 | .or::r,acc,bK=>by
  refine ⟨λk=>?_,λw=>?_⟩
  ·show none=((NF r).map _).bind _;cases NF r with
   | none=>rfl
   | some b=>rfl
  ·show res (some (jo acc (ja bK w))) none (.inl 0) r=((NF r).map _).bind _;rw[(CN (its:=r)).1 0];cases NF r with
   | none=>rfl
   | some b=>rfl
theorem KQ {its:List It}:FL its=(rI ([],none) its).bind fin:=by
 have h1:=(vN (its:=its) (acc:=none) (bK:=none) (k:=0)).1;have h2:=(CN (its:=its) (acc:=none) (bK:=none)).1 0;exact (h1.trans h2).symm
inductive Tk where
 | op | cl | nt | an | or | nm (s:S)
noncomputable def stP:List Fr×Option Sn->Tk->Option (List Fr×Option Sn)
 | (B,none),.op=>some (.op::B,none)
 | (B,none),.nt=>some (.nt::B,none)
 | (B,none),.nm s=>some (B,some (.is s))
 | (B,some w),.an=>some (.an (bD 1 B w).2::(bD 1 B w).1,none)
 | (B,some w),.or=>some (.or (bD 0 B w).2::(bD 0 B w).1,none)
 | (B,some w),.cl=>match (bD 0 B w).1 with
  | []=>none
  | _::B'=>some (B',some (bD 0 B w).2)
 | _,_=>none
noncomputable def rP:List Fr×Option Sn->List Tk->Option (List Fr×Option Sn)
 | s,[]=>some s
 | s,x::r=>(stP s x).bind λs'=>rP s' r
noncomputable def iu:List Fr×Option Sn->Option Sn
 | (B,some w)=>if (bD 0 B w).1.isEmpty then some (bD 0 B w).2 else none
 | (_,none)=>none
noncomputable def stL:List (List It)->Tk->Option (List (List It))
 | c::r,.op=>some ([]::c::r)
 | c::r,.nt=>some ((c++[.nt])::r)
 | c::r,.an=>some ((c++[.an])::r)
 | c::r,.or=>some ((c++[.or])::r)
 | c::r,.nm s=>some ((c++[.tr (.is s)])::r)
 | c::r,.cl=>(FL c).bind λt=>match r with
  | []=>none
  | c1::r'=>some ((c1++[.tr t])::r')
 | [],_=>none
noncomputable def rL:List (List It)->List Tk->Option (List (List It))
 | s,[]=>some s
 | s,x::r=>(stL s x).bind λs'=>rL s' r
noncomputable def Nk:List (List It)->Option Sn
 | c::r=>(FL c).bind λt=>if r.isEmpty then some t else none
 | []=>none
noncomputable def CP (F:List Fr):Prop:=∀f∈F,ig 0 f=true
theorem CQ {l:Nat}:∀{F:List Fr} {w:Sn},CP F->CP (bD l F w).1
 | [],w,h=>h
 | f::F,w,h=>by
  show CP (if ig l f=true then _ else _:List Fr×Sn).1;split
  ·exact CQ λg hg=>h g (by simp[hg])
  ·exact h
theorem Gb {B B':List Fr}{w w':Option Sn}{x:It}(h:CP B)(e:stI (B,w) x=some (B',w')):CP B':=by
 cases w with
 | none=>
  cases x<;>simp only[stI,Option.some.injEq,Prod.mk.injEq,reduceCtorEq]at e
  ·obtain ⟨rfl,_⟩:=e;intro f hf;rcases List.mem_cons.mp hf with rfl | hf
   ·rfl
   ·exact h f hf
  ·obtain ⟨rfl,_⟩:=e;exact h
 | some w=>
  cases x<;>simp only[stI,Option.some.injEq,Prod.mk.injEq,reduceCtorEq]at e
  ·obtain ⟨rfl,_⟩:=e;intro f hf;rcases List.mem_cons.mp hf with rfl | hf
   ·rfl
   ·exact CQ h f hf
  ·obtain ⟨rfl,_⟩:=e;intro f hf;rcases List.mem_cons.mp hf with rfl | hf
   ·rfl
   ·exact CQ h f hf
inductive W5:List (List It)->List Fr->Prop
 | nil:W5 [] []
 | cons {c:List It} {r:List (List It)} {F B:List Fr}:rI ([],none) c=some (F,none)->CP F->W5 r B->W5 (c::r) (.op::(F++B))
structure Rl (s:List (List It))(B:List Fr)(w:Option Sn):Prop where
 ex:∃c r F B',s=c::r/\B=F++B'/\rI ([],none) c=some (F,w)/\CP F/\W5 r B'
theorem wI {r:List (List It)}{B:List Fr}(h:W5 r B):∀f,B.head?=some f->ig 0 f=false:=by
 intro f e;cases h with
 | nil=>cases e
 | cons _ _ _=>cases e;rfl
theorem rJ {l:Nat}{B:List Fr}(hB:∀f,B.head?=some f->ig l f=false):∀{F:List Fr} {w:Sn},bD l (F++B) w=((bD l F w).1++B,(bD l F w).2)
 | [],w=>by
  cases B with
  | nil=>rfl
  | cons f B=>
   show (if ig l f=true then _ else _)=_;rw[hB f rfl,if_neg (by decide)];rfl
 | f::F,w=>by
  show (if ig l f=true then bD l (F++B) (fw f w) else _)=((if ig l f=true then _ else _:List Fr×Sn).1++B,(if ig l f=true then _ else _:List Fr×Sn).2);split
  ·exact rJ hB
  ·rfl
theorem Gd:∀{F:List Fr} {w:Sn},CP F->(bD 0 F w).1=[]
 | [],w,_=>rfl
 | f::F,w,h=>by
  show (if ig 0 f=true then _ else _:List Fr×Sn).1=_;rw[if_pos (h f (by simp))];exact Gd λg hg=>h g (by simp[hg])
noncomputable def Dead:List (List It)->Prop
 | []=>True
 | c::r=>rI ([],none) c=none\/∃c'∈r,∀F,rI ([],none) c'≠some (F,none)
theorem wJ {c c':List It}{r:List (List It)}(h:Dead (c::r))(hn:rI ([],none) c=none->rI ([],none) c'=none):Dead (c'::r):=h.elim (λh=>.inl (hn h)) .inr
theorem lD {c:List It}{x:It}(h:rI ([],none) c=none):rI ([],none) (c++[x])=none:=by rw[G7,h];rfl
theorem eN:∀{ts:List Tk} {s:List (List It)},Dead s->(rL s ts).bind Nk=none
 | [],[],_=>rfl
 | [],c::r,h=>by
  show (FL c).bind _=none;rw[KQ];rcases h with h | ⟨c',hc',_⟩
  ·rw[h];rfl
  ·cases (rI ([],none) c).bind fin with
   | none=>rfl
   | some t=>
    show (if r.isEmpty=true then _ else _)=none;rw[if_neg];intro z;rw[List.isEmpty_iff]at z;subst z;cases hc'
 | t::ts,[],_=>by cases t<;>rfl
 | .op::ts,c::r,h=>by
  refine eN (ts:=ts) (s:=[]::c::r) (.inr ?_);rcases h with h | ⟨c',hc',k⟩
  ·exact ⟨c,by simp,λF e=>by rw[h]at e;cases e⟩
  ·exact ⟨c',by simp[hc'],k⟩
 | .nt::ts,c::r,h=>eN (ts:=ts) (wJ h lD)
 | .an::ts,c::r,h=>eN (ts:=ts) (wJ h lD)
 | .or::ts,c::r,h=>eN (ts:=ts) (wJ h lD)
 | .nm s::ts,c::r,h=>eN (ts:=ts) (wJ h lD)
 | .cl::ts,c::r,h=>by
  show (((FL c).bind _).bind _).bind _=none;cases ef:FL c with
  | none=>rfl
  | some t=>
   cases r with
   | nil=>rfl
   | cons c1 r=>
    refine eN (ts:=ts) (s:=(c1++[.tr t])::r) ?_;rcases h with h | ⟨c',hc',k⟩
    ·rw[KQ,h]at ef;cases ef
    ·rcases List.mem_cons.mp hc' with rfl | hc'
     ·refine .inl ?_;rw[G7];cases e:rI ([],none) c' with
      | none=>rfl
      | some s=>
       obtain ⟨F,w⟩:=s;cases w with
       | none=>exact absurd e (k F)
       | some w=>rfl
     ·exact .inr ⟨c',hc',k⟩
theorem vO {c:List It}{x:It}{F:List Fr}{w:Option Sn}(h:rI ([],none) c=some (F,w)):rI ([],none) (c++[x])=stI (F,w) x:=by
 rw[G7,h];show (stI (F,w) x).bind _=_;cases stI (F,w) x<;>rfl
theorem run_eq:∀{ts:List Tk} {s:List (List It)} {B:List Fr} {w:Option Sn},Rl s B w->(rL s ts).bind Nk=(rP (B,w) ts).bind iu
 | [],s,B,w,⟨c,r,F,B',e1,e2,e3,e4,e5⟩=>by
  subst e1 e2;show (FL c).bind _=iu (F++B',w);rw[KQ,e3];cases w with
  | none=>rfl
  | some w=>
   show (if r.isEmpty=true then some (bD 0 F w).2 else none)=(if _ then _ else _);rw[rJ (wI e5),Gd e4];cases e5 with
   | nil=>rfl
   | cons _ _ _=>rfl
 | .op::ts,s,B,w,⟨c,r,F,B',e1,e2,e3,e4,e5⟩=>by
  subst e1 e2;cases w with
  | none=>exact run_eq (ts:=ts) (s:=[]::c::r) ⟨[],c::r,[],.op::(F++B'),rfl,rfl,rfl,λf h=>(by cases h),.cons e3 e4 e5⟩
  | some w=>
   refine (eN (ts:=ts) (s:=[]::c::r) (.inr ⟨c,by simp,λF' e=>?_⟩)).trans rfl;rw[e3]at e;cases e
 | .nt::ts,s,B,w,⟨c,r,F,B',e1,e2,e3,e4,e5⟩=>by
  subst e1 e2;have e6:=vO (x:=.nt) e3;cases w with
  | none=>exact run_eq (ts:=ts) (s:=(c++[.nt])::r) ⟨_,r,.nt::F,B',rfl,rfl,e6,Gb (w:=none) (x:=.nt) e4 rfl,e5⟩
  | some w=>exact (eN (ts:=ts) (s:=(c++[.nt])::r) (.inl e6)).trans rfl
 | .nm n::ts,s,B,w,⟨c,r,F,B',e1,e2,e3,e4,e5⟩=>by
  subst e1 e2;have e6:=vO (x:=.tr (.is n)) e3;cases w with
  | none=>exact run_eq (ts:=ts) (s:=(c++[.tr (.is n)])::r) ⟨_,r,F,B',rfl,rfl,e6,e4,e5⟩
  | some w=>exact (eN (ts:=ts) (s:=(c++[.tr (.is n)])::r) (.inl e6)).trans rfl
 | .an::ts,s,B,w,⟨c,r,F,B',e1,e2,e3,e4,e5⟩=>by
  subst e1 e2;have e6:=vO (x:=.an) e3;cases w with
  | none=>exact (eN (ts:=ts) (s:=(c++[.an])::r) (.inl e6)).trans rfl
  | some w=>
   have hb:∀f,B'.head?=some f->ig 1 f=false:=λf e=>by
    cases q:ig 1 f with
    | false=>rfl
    | true=>have:=Zu (l:=0) (by omega) q;rw[wI e5 f e]at this;cases this
   show _=(rP (.an (bD 1 (F++B') w).2::(bD 1 (F++B') w).1,none) ts).bind iu;rw[rJ hb];exact run_eq (ts:=ts) (s:=(c++[.an])::r) ⟨_,r,.an (bD 1 F w).2::(bD 1 F w).1,B',rfl,rfl,e6,Gb (w:=some w) (x:=.an) e4 rfl,e5⟩
 | .or::ts,s,B,w,⟨c,r,F,B',e1,e2,e3,e4,e5⟩=>by
  subst e1 e2;have e6:=vO (x:=.or) e3;cases w with
  | none=>exact (eN (ts:=ts) (s:=(c++[.or])::r) (.inl e6)).trans rfl
  | some w=>
   show _=(rP (.or (bD 0 (F++B') w).2::(bD 0 (F++B') w).1,none) ts).bind iu;rw[rJ (wI e5)];exact run_eq (ts:=ts) (s:=(c++[.or])::r) ⟨_,r,.or (bD 0 F w).2::(bD 0 F w).1,B',rfl,rfl,e6,Gb (w:=some w) (x:=.or) e4 rfl,e5⟩
 | .cl::ts,s,B,w,⟨c,r,F,B',e1,e2,e3,e4,e5⟩=>by
  subst e1 e2;show (((FL c).bind _).bind _).bind _=_;rw[KQ,e3];cases w with
  | none=>rfl
  | some w=>
   show ((match r with | []=>none | c1::r'=>some ((c1++[It.tr (bD 0 F w).2])::r')).bind _).bind _=((match (bD 0 (F++B') w).1 with | []=>none | _::B1=>some (B1,some (bD 0 (F++B') w).2)).bind _).bind _;rw[rJ (wI e5),Gd e4];cases e5 with
   | nil=>rfl
   | @cons c1 r' F1 B1 e7 e8 e9=>
    exact run_eq (ts:=ts) (s:=(c1++[.tr (bD 0 F w).2])::r') ⟨_,r',F1,B1,rfl,rfl,vO e7,e8,e9⟩
theorem Nm {ts:List Tk}:(rL [[]] ts).bind Nk=(rP ([],none) ts).bind iu:=run_eq ⟨[],[],[],[],rfl,rfl,rfl,λf h=>(by cases h),.nil⟩
noncomputable def alt:Bool->List Tk->Bool
 | e,[]=>!e
 | true,.op::r=>alt true r
 | true,.nt::r=>alt true r
 | true,.nm _::r=>alt false r
 | false,.cl::r=>alt false r
 | false,.an::r=>alt true r
 | false,.or::r=>alt true r
 | _,_::_=>false
theorem j6:∀{ts:List Tk} {B:List Fr} {w:Option Sn} {t:Sn},(rP (B,w) ts).bind iu=some t->alt w.isNone ts=true
 | [],B,none,t,e=>by cases e
 | [],B,some w,t,e=>rfl
 | .op::ts,B,none,t,e=>j6 (ts:=ts) (w:=none) e
 | .nt::ts,B,none,t,e=>j6 (ts:=ts) (w:=none) e
 | .nm n::ts,B,none,t,e=>j6 (ts:=ts) (w:=some (.is n)) e
 | .an::ts,B,none,t,e=>by cases e
 | .or::ts,B,none,t,e=>by cases e
 | .cl::ts,B,none,t,e=>by cases e
 | .an::ts,B,some w,t,e=>j6 (ts:=ts) (w:=none) e
 | .or::ts,B,some w,t,e=>j6 (ts:=ts) (w:=none) e
 | .op::ts,B,some w,t,e=>by cases e
 | .nt::ts,B,some w,t,e=>by cases e
 | .nm n::ts,B,some w,t,e=>by cases e
 | .cl::ts,B,some w,t,e=>by
  change ((match (bD 0 B w).1 with | []=>none | _::B'=>some (B',some (bD 0 B w).2)).bind _).bind _=_ at e;cases q:(bD 0 B w).1 with
  | nil=>rw[q]at e;cases e
  | cons f B'=>rw[q]at e;exact j6 (ts:=ts) (w:=some _) e
noncomputable def Fb (n:S):Bool:=decide (1<=n.length) && (decide (n.length<=12) && !KW.contains n)
noncomputable def lw (r:S):S:=r.takeWhile λc=>eZ.contains c
noncomputable def pa (r:S):Option S:=match PS.find? λp=>p.isPrefixOf r with
 | some p=>some p
 | none=>if Fb (lw r)=true then some (lw r) else none
inductive TP:S->Option (List S)->Prop
 | nil:TP [] (some [])
 | bad {r:S}:r≠[]->pa r=none->TP r none
 | cons {r q:S} {o:Option (List S)}:r≠[]->pa r=some q->TP (r.drop q.length) o->TP r (o.map (q::·))
theorem Zw {p r:S}(h:p.isPrefixOf r=true):r=p++r.drop p.length:=by
 rw[List.isPrefixOf_iff_prefix]at h;obtain ⟨t,rfl⟩:=h;rw[List.drop_left]
theorem wK {r:S}:r=lw r++r.drop (lw r).length/\NL (r.drop (lw r).length)/\∀c∈lw r,c∈eZ:=by
 induction r with
 | nil=>exact ⟨rfl,afZ,λc h=>by cases h⟩
 | cons c r ih=>
  by_cases hc:eZ.contains c=true
  ·have e:lw (c::r)=c::lw r:=by unfold lw;rw[List.takeWhile_cons_of_pos hc]
   rw[e];refine ⟨?_,ih.2.1,λd hd=>?_⟩
   ·show c::r=c::(lw r++r.drop (lw r).length);rw[<-ih.1]
   ·rcases List.mem_cons.mp hd with rfl | hd
    ·exact List.contains_iff_mem.mp hc
    ·exact ih.2.2 d hd
  ·have e:lw (c::r)=[]:=by unfold lw;rw[List.takeWhile_cons_of_neg hc]
   rw[e];refine ⟨rfl,λd hd hm=>hc ?_,λd hd=>by cases hd⟩;cases hd;exact List.contains_iff_mem.mpr hm
theorem ajg {n:S}(h:Fb n=true)(l:∀c∈n,c∈eZ):GN n:=by
 simp only[Fb,Bool.and_eq_true,decide_eq_true_eq,Bool.not_eq_true']at h;refine ⟨h.1,h.2.1,l,λk=>?_⟩;rw[List.contains_iff_mem.mpr k]at h;cases h.2.2
theorem qF {r q:S}(h:pa r=some q):r=q++r.drop q.length/\(q∈PS\/(GN q/\NL (r.drop q.length))):=by
 unfold pa at h;cases e:PS.find? λp=>p.isPrefixOf r with
 | some p=>
  rw[e]at h;cases h;exact ⟨Zw (List.find?_some (p:=λp:S=>p.isPrefixOf r) e),.inl (List.mem_of_find?_eq_some e)⟩
 | none=>
  rw[e]at h;by_cases hg:Fb (lw r)=true
  ·simp only[if_pos hg,Option.some.injEq]at h;subst h;exact ⟨wK.1,.inr ⟨ajg hg wK.2.2,wK.2.1⟩⟩
  ·simp only[if_neg hg]at h;cases h
theorem Tc {r q:S}(h:pa r=some q):q≠[]:=by
 rcases (qF h).2 with h | ⟨h,_⟩
 ·rintro rfl;simp[PS,iK,jH,DR,DW,tZ]at h
 ·rintro rfl;have:=h.lo;simp at this
theorem abd:∀(n:Nat) (r:S),r.length<=n->∃o,TP r o
 | 0,r,h=>by
  obtain rfl:r=[]:=List.length_eq_zero_iff.mp (by omega);exact ⟨_,.nil⟩
 | n+1,r,h=>by
  by_cases hr:r=[]
  ·subst hr;exact ⟨_,.nil⟩
  ·cases e:pa r with
   | none=>exact ⟨_,.bad hr e⟩
   | some q=>
    have:=List.length_pos_iff.mpr (Tc e);obtain ⟨o,ho⟩:=abd n (r.drop q.length) (by rw[List.length_drop];omega);exact ⟨_,.cons hr e ho⟩
theorem G8 {f g:S->Bool}:∀{l:List S},(∀x∈l,f x=g x)->l.find? f=l.find? g
 | [],_=>rfl
 | x::l,h=>by
  rw[List.find?_cons,List.find?_cons,h x (by simp),G8 λy hy=>h y (by simp[hy])]
theorem ajh {q r:S}(h:q∈PS\/(GN q/\NL r)):pa (q++r)=some q:=by
 unfold pa;rcases h with h | ⟨g,hr⟩
 ·have e:(PS.find? λp=>p.isPrefixOf (q++r))=some q:=by
   have h2:(PS.find? λp=>p.isPrefixOf (q++r))=PS.find? λp=>decide (p=q):=by
    refine G8 λp hp=>?_;rw[af0 hp h]
   rw[h2];simp only[PS,List.mem_cons,List.not_mem_nil,or_false]at h;rcases h with rfl | rfl | rfl | rfl | rfl<;>decide
  rw[e]
 ·have e:(PS.find? λp=>p.isPrefixOf (q++r))=none:=by
   rw[List.find?_eq_none];intro p hp;rw[Zt g hr hp];decide
  rw[e];have el:lw (q++r)=q:=by
   unfold lw;rw[List.takeWhile_append_of_pos (λc hc=>List.contains_iff_mem.mpr (g.le c hc))];have:r.takeWhile (λc=>eZ.contains c)=[]:=by
    cases r with
    | nil=>rfl
    | cons c r=>
     rw[List.takeWhile_cons_of_neg];intro hc;exact hr c rfl (List.contains_iff_mem.mp hc)
   rw[this,List.append_nil]
  rw[el];have hk:KW.contains q=false:=by
   rw[Bool.eq_false_iff];exact λz=>g.kw (List.contains_iff_mem.mp z)
  have hg:Fb q=true:=by
   have h1:=g.lo;have h2:=g.hi;simp only[Fb,Bool.and_eq_true,decide_eq_true_eq,Bool.not_eq_true'];exact ⟨h1,h2,hk⟩
  simp only[if_pos hg]
noncomputable def kt (s:S):Tk:=if s=tx "(" then .op else if s=tx ")" then .cl else if s=tx "not" then .nt else if s=tx "and" then .an else if s=tx "or" then .or else .nm s
theorem lE:kt (tx "(")=.op:=by simp[kt]
theorem lF:kt (tx ")")=.cl:=by simp[kt,show tx ")"≠tx "(" by decide]
theorem nD:kt (tx "not")=.nt:=by simp[kt,show tx "not"≠tx "(" by decide,show tx "not"≠tx ")" by decide]
theorem jJ:kt (tx "and")=.an:=by simp[kt,show tx "and"≠tx "(" by decide,show tx "and"≠tx ")" by decide,show tx "and"≠tx "not" by decide]
theorem jK:kt (tx "or")=.or:=by simp[kt,show tx "or"≠tx "(" by decide,show tx "or"≠tx ")" by decide,show tx "or"≠tx "not" by decide,show tx "or"≠tx "and" by decide]
theorem Td {s:S}(g:GN s):kt s=.nm s:=by
 have h1:s≠tx "(":=by rintro rfl;have:=j5 (g.le 40 (by rw[iK];simp));omega
 have h2:s≠tx ")":=by rintro rfl;have:=j5 (g.le 41 (by rw[jH];simp));omega
 have h3:s≠tx "not":=by rintro rfl;exact g.kw (by simp[KW])
 have h4:s≠tx "and":=by rintro rfl;exact g.kw (by simp[KW])
 have h5:s≠tx "or":=by rintro rfl;exact g.kw (by simp[KW])
 simp[kt,h1,h2,h3,h4,h5]
noncomputable def sep (c:Nat):Bool:=decide (c=40) || (decide (c=41) || decide (c=32))
noncomputable def lt:S->List S
 | []=>[]
 | c::r=>if sep c=true then [c]::lt r else match r with
  | []=>[[c]]
  | d::_=>if sep d=true then [c]::lt r else match lt r with
   | w::ws=>(c::w)::ws
   | []=>[[c]]
theorem iw {c:Nat}{r:S}(h:sep c=true):lt (c::r)=[c]::lt r:=by
 rw[lt.eq_def];simp only[h,if_true]
noncomputable def SP (r:S):Prop:=∀c,r.head?=some c->sep c=true
theorem vP:∀{w r:S},w≠[]->(∀c∈w,sep c=false)->SP r->lt (w++r)=w::lt r
 | [],r,h,_,_=>absurd rfl h
 | [c],r,_,hw,hr=>by
  have hc:=hw c (by simp);cases r with
  | nil=>
   show lt [c]=_;rw[lt.eq_def];simp only[hc];rfl
  | cons d r=>
   show lt (c::d::r)=_;rw[lt.eq_def];simp only[hc,hr d rfl,if_true];rfl
 | c::d::w,r,_,hw,hr=>by
  have hc:=hw c (by simp);have hd:=hw d (by simp);have ih:=vP (w:=d::w) (r:=r) (by simp) (λx hx=>hw x (List.mem_cons_of_mem _ hx)) hr;show lt (c::d::(w++r))=_;rw[lt.eq_def];simp only[hc,hd];rw[show lt (d::(w++r))=(d::w)::lt r from ih];rfl
noncomputable def sB:S:=[32]
noncomputable def J3:List S:=[tx "not",tx "and",tx "or"]
noncomputable def J2:List S:=[tx "and",tx "or"]
noncomputable def ck (a t b:S):Bool:=(if t=sB then !(decide (a=sB) || decide (b=sB)) && (J3.contains a || J2.contains b) else true) && ((if J2.contains t then decide (a=sB) && decide (b=sB) else true) && (if t=tx "not" then decide (b=sB) else true))
noncomputable def lG (r:List S):S:=r.headD sB
noncomputable def bl:S->List S->Bool
 | _,[]=>true
 | a,t::r=>ck a t (lG r) && bl t r
noncomputable def kinds (ts:List S):List Tk:=(ts.filter λt=>!decide (t=sB)).map kt
noncomputable def WK:List S:=[tx "always",tx "where",tx "usually"]
noncomputable def oX (w:S):Bool:=!WK.contains w && (w.all (λc=>eZ.contains c) && decide (w.length<=12))
noncomputable def G9:Tk->Bool
 | .nm _=>true
 | _=>false
noncomputable def QG (ts:List S):Prop:=∀t∈ts,t≠sB->G9 (kt t)=true->oX t=true
theorem iM {ts:List S}:kinds (sB::ts)=kinds ts:=by simp[kinds]
theorem gn {t:S}{ts:List S}(h:t≠sB):kinds (t::ts)=kt t::kinds ts:=by
 simp[kinds,h]
theorem Np:tx "("≠sB:=by decide
theorem IV:tx ")"≠sB:=by decide
theorem Te:tx "not"≠sB:=by decide
theorem af5:tx "and"≠sB:=by decide
theorem af6:tx "or"≠sB:=by decide
theorem Tf {a t b:S}(h1:t≠sB)(h2:t∉J3):ck a t b=true:=by
 have h3:J2.contains t=false:=by
  rw[Bool.eq_false_iff];intro h;exact h2 (by have:=List.contains_iff_mem.mp h;simp[J2]at this;simp[J3];exact .inr this)
 have h4:t≠tx "not":=by rintro rfl;exact h2 (by simp[J3])
 simp only[ck,if_neg h1,h3,Bool.false_eq_true,if_false,if_neg h4,Bool.and_self]
theorem Tg {a b:S}:ck a (tx "not") b=decide (b=sB):=by
 have h3:J2.contains (tx "not")=false:=by decide
 simp only[ck,if_neg Te,h3,Bool.false_eq_true,if_false,if_true,Bool.true_and]
theorem Ge {a b t:S}(h:t=tx "and"\/t=tx "or"):ck a t b=(decide (a=sB) && decide (b=sB)):=by
 have h3:J2.contains t=true:=by rcases h with rfl | rfl<;>decide
 have h4:t≠tx "not":=by rcases h with rfl | rfl<;>decide
 have h5:t≠sB:=by rcases h with rfl | rfl<;>decide
 simp only[ck,if_neg h5,h3,if_true,if_neg h4,Bool.true_and,Bool.and_true]
theorem Ti {a b:S}:ck a sB b=(!(decide (a=sB) || decide (b=sB)) && (J3.contains a || J2.contains b)):=by
 have h3:J2.contains sB=false:=by decide
 have h4:sB≠tx "not":=by decide
 simp only[ck,if_true,h3,Bool.false_eq_true,if_false,if_neg h4,Bool.and_true]
theorem af7 {n:S}(g:GN n):∀c∈n,sep c=false:=λc hc=>by
 have:=j5 (g.le c hc);simp[sep];omega
theorem Nq {n:S}(g:GN n):n≠[]:=by
 rintro rfl;have:=g.lo;simp at this
theorem KR {n:S}(g:GN n):n≠sB:=by
 rintro rfl;have:=j5 (g.le 32 (by simp[sB]));omega
theorem aji {n:S}(g:GN n):n∉J3:=λh=>g.kw (by simp only[J3,List.mem_cons,List.not_mem_nil,or_false]at h;rcases h with rfl | rfl | rfl<;>simp[KW])
theorem CT {c:Nat}{r:S}(h:sep c=true):SP (c::r):=λd e=>by cases e;exact h
theorem ajj {r:S}:lt (tx "("++r)=tx "("::lt r:=by rw[iK];exact iw (by decide)
theorem ajk {r:S}:lt (tx ")"++r)=tx ")"::lt r:=by rw[jH];exact iw (by decide)
theorem ajl {r:S}:lt (tx " and "++r)=sB::tx "and"::sB::lt r:=by
 have e:tx " and "++r=32::(tx "and"++(32::r)):=by
  rw[DR,show tx "and"=[97,110,100] by decide];rfl
 rw[e,iw (by decide),vP (by decide) (by decide) (CT (by decide)),iw (by decide)];rfl
theorem ajm {r:S}:lt (tx " or "++r)=sB::tx "or"::sB::lt r:=by
 have e:tx " or "++r=32::(tx "or"++(32::r)):=by
  rw[DW,show tx "or"=[111,114] by decide];rfl
 rw[e,iw (by decide),vP (by decide) (by decide) (CT (by decide)),iw (by decide)];rfl
theorem ajn {r:S}:lt (tx "not "++r)=tx "not"::sB::lt r:=by
 have e:tx "not "++r=tx "not"++(32::r):=by
  rw[tZ,Nj];rfl
 rw[e,vP (by decide) (by decide) (CT (by decide)),iw (by decide)];rfl
theorem acU {q r:S}(h:q∈PS)(hn:NL (q++r)):SP (q++r):=by
 simp only[PS,List.mem_cons,List.not_mem_nil,or_false]at h;rcases h with rfl | rfl | rfl | rfl | rfl
 ·rw[iK];exact CT (by decide)
 ·rw[jH];exact CT (by decide)
 ·rw[DR];exact CT (by decide)
 ·rw[DW];exact CT (by decide)
 ·rw[tZ]at hn;exact absurd (by rw[G6];decide) (hn 110 rfl)
theorem ajo {r:S}{o:Option (List S)}(h:TP r o)(ho:o≠none)(hn:NL r):SP r:=by
 cases h with
 | nil=>exact λc e=>by cases e
 | bad _ _=>exact absurd rfl ho
 | @cons _ q o h1 h2 h3=>
  obtain ⟨e1,e2⟩:=qF h2;rw[e1]at hn ⊢;rcases e2 with e2 | ⟨g,_⟩
  ·exact acU e2 hn
  ·obtain ⟨c,n',rfl⟩:=List.exists_cons_of_ne_nil (Nq g);exact absurd (g.le c (by simp)) (hn c rfl)
noncomputable def dX (q:S):Tk:=kt (tk q)
theorem abe:tx "("∉J3:=by decide
theorem abf:tx ")"∉J3:=by decide
theorem eO {t:S}{ts:List S}(h:t≠sB->G9 (kt t)=true->oX t=true)(r:QG ts):QG (t::ts):=λx hx=>by
 rcases List.mem_cons.mp hx with rfl | hx
 ·exact h
 ·exact r x hx
theorem af8 {n:S}(g:GN n):oX n=true:=by
 have h1:WK.contains n=false:=by
  rw[Bool.eq_false_iff];intro h;have:=List.contains_iff_mem.mp h;simp only[WK,List.mem_cons,List.not_mem_nil,or_false]at this;exact g.kw (by rcases this with rfl | rfl | rfl<;>simp[KW])
 have h2:n.all (λc=>eZ.contains c)=true:=List.all_eq_true.mpr λc hc=>List.contains_iff_mem.mpr (g.le c hc);have h3:=g.hi;simp only[oX,h1,h2,Bool.not_false,Bool.true_and,decide_eq_true_eq];exact h3
theorem abg {a b t:S}(ht:t=tx "and"\/t=tx "or")(ha:a≠sB):ck a sB t=true:=by
 rw[Ti];have h1:decide (a=sB)=false:=decide_eq_false ha;have h2:decide (t=sB)=false:=decide_eq_false (by rcases ht with rfl | rfl<;>decide);have h3:J2.contains t=true:=by rcases ht with rfl | rfl<;>decide
 rw[h1,h2,h3];simp
theorem Tj {b t:S}(ht:t∈J3)(hb:b≠sB):ck t sB b=true:=by
 rw[Ti];have h1:decide (b=sB)=false:=decide_eq_false hb;have h2:decide (t=sB)=false:=decide_eq_false (by rintro rfl;revert ht;decide);have h3:J3.contains t=true:=List.contains_iff_mem.mpr ht;rw[h1,h2,h3];simp
theorem t1:∀{r:S} {o:Option (List S)},TP r o->∀qs,o=some qs->∀(e:Bool) (a:S),alt e (qs.map dX)=true->(e=false->a≠sB)->bl a (lt r)=true/\kinds (lt r)=qs.map dX/\QG (lt r)/\(e=true->lG (lt r)≠sB):=by
 intro r o h
 induction h with
 | nil=>
  intro qs e0 e a ha _;cases e0;refine ⟨rfl,rfl,(λt h=>by cases h),λhe=>?_⟩;subst he;cases ha
 | bad _ _=>intro qs e0;cases e0
 | @cons r q o h1 h2 h3 ih=>
  intro qs e0 e a ha hea;obtain ⟨QH,rfl,rfl⟩:=Option.map_eq_some_iff.mp e0;obtain ⟨er,hq⟩:=qF h2;generalize r.drop q.length=r' at *;subst er;rcases hq with hq | ⟨g,hnl⟩
  ·simp only[PS,List.mem_cons,List.not_mem_nil,or_false]at hq;rcases hq with rfl | rfl | rfl | rfl | rfl
   ·have ek:dX (tx "(")=.op:=by rw[dX,SX,lE]
    rw[List.map_cons,ek]at ha ⊢;cases e with
    | false=>cases ha
    | true=>
     obtain ⟨i1,i2,i3,i4⟩:=ih QH rfl true (tx "(") ha (λz=>by cases z);rw[ajj,gn Np,lE,i2];refine ⟨?_,rfl,eO (λ_ z=>by rw[lE]at z;cases z) i3,λ_=>Np⟩;show (ck a _ _ && bl _ _)=true;rw[Tf Np abe,i1];rfl
   ·have ek:dX (tx ")")=.cl:=by rw[dX,S5,lF]
    rw[List.map_cons,ek]at ha ⊢;cases e with
    | true=>cases ha
    | false=>
     obtain ⟨i1,i2,i3,i4⟩:=ih QH rfl false (tx ")") ha (λ_=>IV);rw[ajk,gn IV,lF,i2];refine ⟨?_,rfl,eO (λ_ z=>by rw[lF]at z;cases z) i3,λz=>by cases z⟩;show (ck a _ _ && bl _ _)=true;rw[Tf IV abf,i1];rfl
   ·have ek:dX (tx " and ")=.an:=by rw[dX,S6,jJ]
    rw[List.map_cons,ek]at ha ⊢;cases e with
    | true=>cases ha
    | false=>
     obtain ⟨i1,i2,i3,i4⟩:=ih QH rfl true sB ha (λz=>by cases z);rw[ajl,iM,gn af5,iM,jJ,i2];refine ⟨?_,rfl,eO (λz=>absurd rfl z) (eO (λ_ z=>by rw[jJ]at z;cases z) (eO (λz=>absurd rfl z) i3)),λz=>by cases z⟩;show (ck a sB (tx "and") && (ck sB (tx "and") sB && (ck (tx "and") sB (lG (lt r')) && bl sB (lt r'))))=true;rw[abg (b:=sB) (.inl rfl) (hea rfl),Ge (.inl rfl),Tj (by simp[J3]) (i4 rfl),i1];rfl
   ·have ek:dX (tx " or ")=.or:=by rw[dX,S7,jK]
    rw[List.map_cons,ek]at ha ⊢;cases e with
    | true=>cases ha
    | false=>
     obtain ⟨i1,i2,i3,i4⟩:=ih QH rfl true sB ha (λz=>by cases z);rw[ajm,iM,gn af6,iM,jK,i2];refine ⟨?_,rfl,eO (λz=>absurd rfl z) (eO (λ_ z=>by rw[jK]at z;cases z) (eO (λz=>absurd rfl z) i3)),λz=>by cases z⟩;show (ck a sB (tx "or") && (ck sB (tx "or") sB && (ck (tx "or") sB (lG (lt r')) && bl sB (lt r'))))=true;rw[abg (b:=sB) (.inr rfl) (hea rfl),Ge (.inr rfl),Tj (by simp[J3]) (i4 rfl),i1];rfl
   ·have ek:dX (tx "not ")=.nt:=by rw[dX,S8,nD]
    rw[List.map_cons,ek]at ha ⊢;cases e with
    | false=>cases ha
    | true=>
     obtain ⟨i1,i2,i3,i4⟩:=ih QH rfl true sB ha (λz=>by cases z);rw[ajn,gn Te,iM,nD,i2];refine ⟨?_,rfl,eO (λ_ z=>by rw[nD]at z;cases z) (eO (λz=>absurd rfl z) i3),λ_=>Te⟩;show (ck a (tx "not") sB && (ck (tx "not") sB (lG (lt r')) && bl sB (lt r')))=true;rw[Tg,Tj (by simp[J3]) (i4 rfl),i1];rfl
  ·have ek:dX q=.nm q:=by rw[dX,S9 g,Td g]
   rw[List.map_cons,ek]at ha ⊢;cases e with
   | false=>cases ha
   | true=>
    obtain ⟨i1,i2,i3,i4⟩:=ih QH rfl false q ha (λ_=>KR g);rw[vP (Nq g) (af7 g) (ajo h3 (by simp) hnl),gn (KR g),Td g,i2];refine ⟨?_,rfl,eO (λ_ _=>af8 g) i3,λ_=>KR g⟩;show (ck a q _ && bl _ _)=true;rw[Tf (KR g) (aji g),i1];rfl
inductive LX:List S->Prop
 | nil:LX []
 | sp {c:Nat} {ts:List S}:sep c=true->LX ts->LX ([c]::ts)
 | wd {w:S} {ts:List S}:w≠[]->(∀c∈w,sep c=false)->SP ts.flatten->LX ts->LX (w::ts)
theorem DX:∀{r:S},LX (lt r)/\(lt r).flatten=r
 | []=>⟨.nil,rfl⟩
 | c::r=>by
  obtain ⟨i1,i2⟩:=DX (r:=r);by_cases hc:sep c=true
  ·rw[iw hc];exact ⟨.sp hc i1,by rw[List.flatten_cons,i2];rfl⟩
  ·have hc':sep c=false:=by simpa using hc
   cases r with
   | nil=>
    rw[lt.eq_def];simp only[hc'];exact ⟨.wd (by simp) (by simpa using hc') (λd e=>by cases e) .nil,rfl⟩
   | cons d r=>
    by_cases hd:sep d=true
    ·have:lt (c::d::r)=[c]::lt (d::r):=by
      rw[lt.eq_def];simp only[hc',hd,if_true];rfl
     rw[this];refine ⟨.wd (by simp) (by simpa using hc') ?_ i1,by rw[List.flatten_cons,i2];rfl⟩;rw[i2];exact CT hd
    ·have hd':sep d=false:=by simpa using hd
     have:lt (c::d::r)=match lt (d::r) with | w::ws=>(c::w)::ws | []=>[[c]]:=by
      rw[lt.eq_def];simp only[hc',hd'];rfl
     rw[this];generalize lt (d::r)=ts at i1 i2;cases i1 with
     | nil=>cases i2
     | @sp c' ts hs hl=>
      change c'::ts.flatten=_ at i2;injection i2 with z _
      rw[z]at hs;rw[hs]at hd';cases hd'
     | @wd w ts h1 h2 h3 h4=>
      refine ⟨.wd (by simp) (λx hx=>?_) h3 h4,?_⟩
      ·rcases List.mem_cons.mp hx with rfl | hx
       ·exact hc'
       ·exact h2 x hx
      ·rw[List.flatten_cons,List.cons_append,<-List.flatten_cons,i2]
theorem Gf (s:S):s=tx "("\/s=tx ")"\/s=tx "not"\/s=tx "and"\/s=tx "or"\/(kt s=.nm s/\s∉J3):=by
 by_cases h1:s=tx "("
 ·exact .inl h1
 by_cases h2:s=tx ")"
 ·exact .inr (.inl h2)
 by_cases h3:s=tx "not"
 ·exact .inr (.inr (.inl h3))
 by_cases h4:s=tx "and"
 ·exact .inr (.inr (.inr (.inl h4)))
 by_cases h5:s=tx "or"
 ·exact .inr (.inr (.inr (.inr (.inl h5))))
 refine .inr (.inr (.inr (.inr (.inr ⟨?_,?_⟩))))
 ·simp only[kt,if_neg h1,if_neg h2,if_neg h3,if_neg h4,if_neg h5]
 ·simp only[J3,List.mem_cons,List.not_mem_nil,or_false];rintro (z | z | z)
  ·exact h3 z
  ·exact h4 z
  ·exact h5 z
theorem af9 {w:S}(h:oX w=true)(hn:w≠[])(hj:w∉J3):GN w:=by
 simp only[oX,Bool.and_eq_true,Bool.not_eq_true',decide_eq_true_eq]at h;obtain ⟨h1,h2,h3⟩:=h;refine ⟨List.length_pos_iff.mpr hn,h3,λc hc=>List.contains_iff_mem.mp (List.all_eq_true.mp h2 c hc),λhk=>?_⟩;simp only[KW,List.mem_cons,List.not_mem_nil,or_false]at hk;rcases hk with rfl | rfl | rfl | rfl | rfl | rfl
 ·revert h1;decide
 ·revert h1;decide
 ·revert h1;decide
 ·exact hj (by simp[J3])
 ·exact hj (by simp[J3])
 ·exact hj (by simp[J3])
theorem qG {q r:S}{qs:List S}(h:q∈PS\/(GN q/\NL r))(hq:q≠[])(t:TP r (some qs)):TP (q++r) (some (q::qs)):=by
 have:=TP.cons (r:=q++r) (by simp[hq]) (ajh h) (o:=some qs) (by rw[List.drop_left];exact t);exact this
theorem ajp {r:S}(h:SP r):NL r:=λc e hc=>by
 have:=j5 hc;have h2:=h c e;simp[sep]at h2;omega
theorem W6 {c:Nat}(h:sep c=true):[c]=tx "("\/[c]=tx ")"\/[c]=sB:=by
 simp only[sep,Bool.or_eq_true,decide_eq_true_eq]at h;rcases h with rfl | rfl | rfl
 ·exact .inl (by decide)
 ·exact .inr (.inl (by decide))
 ·exact .inr (.inr rfl)
theorem G_ {t:S}{ts:List S}(h:QG (t::ts)):QG ts:=λx hx=>h x (List.mem_cons_of_mem _ hx)
theorem KY {t:S}{ts:List S}(h:LX (t::ts)):LX ts:=by
 cases h with
 | sp _ h=>exact h
 | wd _ _ _ h=>exact h
theorem ajq {a b:S}(h:ck a sB b=true)(ha:a∉J3):a≠sB/\b∈J2:=by
 rw[Ti]at h;simp only[Bool.and_eq_true,Bool.not_eq_true',Bool.or_eq_false_iff,decide_eq_false_iff_not,Bool.or_eq_true]at h;obtain ⟨⟨h1,h2⟩,h3⟩:=h;refine ⟨h1,?_⟩;rcases h3 with h3 | h3
 ·exact absurd (List.contains_iff_mem.mp h3) ha
 ·exact List.contains_iff_mem.mp h3
theorem t2:∀(n:Nat) {ts:List S},ts.length<=n->∀{e:Bool} {a:S},LX ts->bl a ts=true->QG ts->alt e (kinds ts)=true->(e=true->a=sB\/a=tx "(")->(e=false->a≠sB/\a∉J3)->∃qs,TP ts.flatten (some qs)/\qs.map dX=kinds ts
 | n,[],_,e,a,_,_,_,_,_,_=>⟨[],.nil,rfl⟩
 | 0,_::_,hn,_,_,_,_,_,_,_,_=>by simp at hn
 | n+1,t::r,hn,e,a,lx,hb,hw,ha,c1,c2=>by
  have hn':r.length<=n:=by simpa using hn
  have hb2:ck a t (lG r)=true/\bl t r=true:=by
   have:(ck a t (lG r) && bl t r)=true:=hb;simpa using this
  have W7:=KY lx;have hw2:=G_ hw;cases lx with
  | @sp c _ hs _=>
   rcases W6 hs with ec | ec | ec
   ·rw[ec]at hb2 ha ⊢;rw[gn Np,lE]at ha ⊢;cases e with
    | false=>cases ha
    | true=>
     obtain ⟨qs,i1,i2⟩:=t2 n hn' (e:=true) (a:=tx "(") W7 hb2.2 hw2 ha (λ_=>.inr rfl) (λz=>by cases z);refine ⟨tx "("::qs,?_,by rw[List.map_cons,i2,dX,SX,lE]⟩;rw[List.flatten_cons];exact qG (.inl (by simp[PS])) (by decide) i1
   ·rw[ec]at hb2 ha ⊢;rw[gn IV,lF]at ha ⊢;cases e with
    | true=>cases ha
    | false=>
     obtain ⟨qs,i1,i2⟩:=t2 n hn' (e:=false) (a:=tx ")") W7 hb2.2 hw2 ha (λz=>by cases z) (λ_=>⟨IV,abf⟩);refine ⟨tx ")"::qs,?_,by rw[List.map_cons,i2,dX,S5,lF]⟩;rw[List.flatten_cons];exact qG (.inl (by simp[PS])) (by decide) i1
   ·rw[ec]at hb2 ha ⊢;rw[iM]at ha ⊢;have an:a∉J3:=by
     cases e with
     | false=>exact (c2 rfl).2
     | true=>
      rcases c1 rfl with rfl | rfl
      ·decide
      ·exact abe
    obtain ⟨b1,b2⟩:=ajq hb2.1 an;cases r with
    | nil=>exact absurd b2 (by decide)
    | cons t' r=>
     change t'∈J2 at b2;have bj:t'=tx "and"\/t'=tx "or":=by simpa [J2] using b2
     have nb:t'≠sB:=by rcases bj with rfl | rfl<;>decide
     have hb3:ck sB t' (lG r)=true/\bl t' r=true:=by
      have:(ck sB t' (lG r) && bl t' r)=true:=hb2.2;simpa using this
     have lx3:=KY W7;have hw3:=G_ hw2;rw[gn nb]at ha ⊢;cases e with
     | true=>rcases bj with rfl | rfl<;>first | (rw[jJ]at ha;cases ha) | (rw[jK]at ha;cases ha)
     | false=>
      have ha':alt true (kinds r)=true:=by rcases bj with rfl | rfl<;>first | (rw[jJ]at ha;exact ha) | (rw[jK]at ha;exact ha)
      have hr:lG r=sB:=by
       have:=hb3.1;rw[Ge bj]at this;simpa using this
      cases r with
      | nil=>cases ha'
      | cons s r=>
       change s=sB at hr;subst hr;rw[iM]at ha' ⊢;have hb4:ck t' sB (lG r)=true/\bl sB r=true:=by
        have:(ck t' sB (lG r) && bl sB r)=true:=hb3.2;simpa using this
       obtain ⟨qs,i1,i2⟩:=t2 n (by simp at hn';omega) (e:=true) (a:=sB) (KY lx3) hb4.2 (G_ hw3) ha' (λ_=>.inl rfl) (λz=>by cases z);rcases bj with rfl | rfl
       ·refine ⟨tx " and "::qs,?_,by rw[List.map_cons,i2,dX,S6,jJ]⟩;have ef:(sB::tx "and"::sB::r).flatten=tx " and "++r.flatten:=by
         simp only[List.flatten_cons];rw[DR,show tx "and"=[97,110,100] by decide];rfl
        rw[ef];exact qG (.inl (by simp[PS])) (by decide) i1
       ·refine ⟨tx " or "::qs,?_,by rw[List.map_cons,i2,dX,S7,jK]⟩;have ef:(sB::tx "or"::sB::r).flatten=tx " or "++r.flatten:=by
         simp only[List.flatten_cons];rw[DW,show tx "or"=[111,114] by decide];rfl
        rw[ef];exact qG (.inl (by simp[PS])) (by decide) i1
  | wd w1 w2 w3 w4=>
   have nb:t≠sB:=by
    rintro rfl;have:=w2 32 (by simp[sB]);revert this;decide
   rw[gn nb]at ha ⊢;rcases Gf t with rfl | rfl | rfl | hj | hj | ⟨k1,k2⟩
   ·exact absurd (w2 40 (by rw[iK];simp)) (by decide)
   ·exact absurd (w2 41 (by rw[jH];simp)) (by decide)
   ·rw[nD]at ha ⊢;cases e with
    | false=>cases ha
    | true=>
     have hr:lG r=sB:=by
      have:=hb2.1;rw[Tg]at this;simpa using this
     cases r with
     | nil=>cases ha
     | cons s r=>
      change s=sB at hr;subst hr;change alt true (kinds (sB::r))=true at ha;rw[iM]at ha ⊢;have hb4:ck (tx "not") sB (lG r)=true/\bl sB r=true:=by
       have:(ck (tx "not") sB (lG r) && bl sB r)=true:=hb2.2;simpa using this
      obtain ⟨qs,i1,i2⟩:=t2 n (by simp at hn';omega) (e:=true) (a:=sB) (KY W7) hb4.2 (G_ hw2) ha (λ_=>.inl rfl) (λz=>by cases z);refine ⟨tx "not "::qs,?_,by rw[List.map_cons,i2,dX,S8,nD]⟩;have ef:(tx "not"::sB::r).flatten=tx "not "++r.flatten:=by
       simp only[List.flatten_cons];rw[tZ,Nj];rfl
      rw[ef];exact qG (.inl (by simp[PS])) (by decide) i1
   ·subst hj;rw[jJ]at ha;cases e with
    | true=>cases ha
    | false=>
     have:=hb2.1;rw[Ge (.inl rfl)]at this;simp only[Bool.and_eq_true,decide_eq_true_eq]at this;exact absurd this.1 (c2 rfl).1
   ·subst hj;rw[jK]at ha;cases e with
    | true=>cases ha
    | false=>
     have:=hb2.1;rw[Ge (.inr rfl)]at this;simp only[Bool.and_eq_true,decide_eq_true_eq]at this;exact absurd this.1 (c2 rfl).1
   ·rw[k1]at ha ⊢;cases e with
    | false=>cases ha
    | true=>
     have g:=af9 (hw t (by simp) nb (by rw[k1];rfl)) w1 k2;obtain ⟨qs,i1,i2⟩:=t2 n hn' (e:=false) (a:=t) W7 hb2.2 hw2 ha (λz=>by cases z) (λ_=>⟨nb,k2⟩);refine ⟨t::qs,?_,by rw[List.map_cons,i2,dX,S9 g,k1]⟩;rw[List.flatten_cons];exact qG (.inr ⟨g,ajp w3⟩) w1 i1
noncomputable def nF (o:Option (List S)):Option Sn:=o.bind λqs=>(rP ([],none) (qs.map dX)).bind iu
noncomputable def t_ (r:S):Option Sn:=if bl sB (lt r)=true/\(∀t∈lt r,t≠sB->G9 (kt t)=true->oX t=true) then (rL [[]] (kinds (lt r))).bind Nk else none
theorem af_:∀{r:S} {o:Option (List S)},TP r o->∀{o':Option (List S)},TP r o'->o=o':=by
 intro r o h
 induction h with
 | nil=>
  intro o' h';cases h' with
  | nil=>rfl
  | bad h _=>exact absurd rfl h
  | cons h _ _=>exact absurd rfl h
 | bad h1 h2=>
  intro o' h';cases h' with
  | nil=>exact absurd rfl h1
  | bad _ _=>rfl
  | cons _ h3 _=>rw[h2]at h3;cases h3
 | cons h1 h2 h3 ih=>
  intro o' h';cases h' with
  | nil=>exact absurd rfl h1
  | bad _ h4=>rw[h2]at h4;cases h4
  | cons _ h4 h5=>
   rw[h2]at h4;cases h4;rw[ih h5]
theorem acV {r:S}{o:Option (List S)}(h:TP r o):t_ r=nF o:=by
 have lx:=DX (r:=r);cases eP:nF o with
 | some t=>
  cases o with
  | none=>cases eP
  | some qs=>
   have al:=j6 (ts:=qs.map dX) (B:=[]) (w:=none) (t:=t) eP;obtain ⟨b1,b2,b3,_⟩:=t1 h qs rfl true sB al (λz=>by cases z);unfold t_;rw[if_pos ⟨b1,b3⟩,b2,Nm];exact eP
 | none=>
  cases eL:t_ r with
  | none=>rfl
  | some t=>
   unfold t_ at eL;split at eL
   ·rename_i hh;rw[Nm]at eL;have al:=j6 (ts:=kinds (lt r)) (B:=[]) (w:=none) (t:=t) eL;obtain ⟨qs,i1,i2⟩:=t2 _ (Nat.le_refl _) (e:=true) (a:=sB) lx.1 hh.1 hh.2 al (λ_=>.inl rfl) (λz=>by cases z);rw[lx.2]at i1;have:=af_ h i1;subst this;have:nF (some qs)=some t:=by
     show (rP ([],none) (qs.map dX)).bind iu=some t;rw[i2];exact eL
    rw[this]at eP;cases eP
   ·cases eL
theorem IW {p q:Prim}{a b c:Ex}{Γ:b_}{σ:Lo}:aM sb Γ E (.chain p q a b c) σ h Q=aM sb Γ E a σ h (λx h1=>aM sb Γ E b σ h1 λy h2=>match prim sb p [x,y] h2 with
  | some (.bl true,h3)=>aM sb Γ E c σ h3 λz h4=>match prim sb q [y,z] h4 with
   | some (v,h5)=>Q v h5
   | none=>False
  | some (.bl false,h3)=>Q (.bl false) h3
  | _=>False):=by simp only[aM]<;>rfl
theorem ud {c:Nat}:∀{s:S},jx [c] s=decide (c∈s)
 | []=>rfl
 | x::r=>by
  show ([c].isPrefixOf (x::r) || jx [c] r)=_;rw[ud (s:=r)];by_cases e:c=x
  ·subst e;simp[List.isPrefixOf]
  ·have e2:(c == x)=false:=by simp[e]
   simp[List.isPrefixOf,e,e2]
theorem abh {c:Nat}:prim sb .Jr [.str [c],A_] h=some (.bl (decide (c∈eZ)),h):=by
 show some (D.bl (jx [c] eZ),h)=_;rw[ud]
theorem Tn {t n r:S}{p:Nat}(e:t.drop p=n++r)(hp:p<=t.length)(hn:∀c∈n,c∈eZ)(hr:NL r)(q:Q (.int ((p+n.length:Nat):Int)) h):aD sb P (d+1) 3 [.str t,.int p] h Q E:=by
 refine wp_call rfl rfl ?_;simp! only[Bh];refine z6 (λm σ h'=>h'=h/\∃i,i<=n.length/\m=n.length - i/\σ=[some (.str t),some (.int ((p+i:Nat):Int))]) (m:=n.length) ⟨rfl,0,by omega,by omega,rfl⟩ ?_;rintro m σ h' ⟨rfl,i,hi,rfl,rfl⟩;have hl:t.length=p+n.length+r.length:=by have:=congrArg List.length e;simp at this;omega
 simp! only;by_cases hlt:i < n.length
 ·have ea:cB t ((p+i:Nat):Int)=some n[i]:=by rw[uX,<-List.getElem?_drop,e,List.getElem?_append_left hlt,List.getElem?_eq_getElem hlt]
  rw[decide_eq_true (by omega)];simp! only[ea,abh,decide_eq_true (hn _ (List.getElem_mem hlt)),Bg];refine ⟨n.length - (i+1),by omega,i+1,by omega,rfl,?_⟩;have:((p+i:Nat):Int) - -1=((p+(i+1):Nat):Int):=by omega
  rw[this]
 ·obtain rfl:i=n.length:=by omega
  cases r with
  | nil=>
   rw[decide_eq_false (by simp at hl;omega)];simp! only[qT];exact q
  | cons c r'=>
   have ea:cB t ((p+n.length:Nat):Int)=some c:=by rw[uX,<-List.getElem?_drop,e,List.getElem?_append_right (Nat.le_refl _)];simp
   rw[decide_eq_true (by simp at hl;omega)];simp! only[ea,abh,decide_eq_false (hr c rfl),qT];exact q
theorem amh {n:S}:prim sb .kj [.str n,qR] h=some (.bl (KW.contains n != true),h):=by
 have e:prim sb .kj [.str n,.tup (KW.map .str)] h=(dN (.str n) (KW.map .str)).map λb=>(.bl (b != true),h):=rfl;rw[gC]at e;exact e
theorem Zx {t p':S}{p:Nat}(hp:p<=t.length):prim sb .uG [.str t,.str p',.int p] h=some (.bl (p'.isPrefixOf (t.drop p)),h):=by
 show (if 0<=(p:Int)/\(p:Int)<=t.length then some (D.bl (p'.isPrefixOf (t.drop (p:Int).toNat)),h) else none)=_;rw[if_pos (by omega)];rfl
theorem acW {t n r:S}{p:Nat}(e:t.drop p=n++r)(hp:p<=t.length):cut t (some (p:Int)) (some ((p+n.length:Nat):Int))=n:=by
 have hl:t.length=p+n.length+r.length:=by have:=congrArg List.length e;simp at this;omega
 simp only[cut,bL];rw[if_neg (by omega),if_neg (by omega)];have e1:(min (p:Int) (t.length:Int)).toNat=p:=by omega
 have e2:(min ((p+n.length:Nat):Int) (t.length:Int)).toNat=p+n.length:=by omega
 rw[e1,e2,e,show p+n.length - p=n.length by omega];simp
theorem aga {s:S}:prim sb .su [.str s] h=some (.bl false,h):=rfl
theorem agb {s:Nat}:prim sb .su [.ref s] h=some (.bl false,h):=rfl
theorem acX {s:S}:prim sb .strip [.str s,.str (tx " ")] h=some (.str (tk s),h):=rfl
noncomputable def JT:Nat->List S
 | 0=>[tx "not",tx "and",tx "or"]
 | _=>[tx "not",tx "and"]
theorem ajr {l:Nat}(hl:l<=1):∀{f:Fr},(JT l).contains (kn f)=ig l f:=by
 intro f;obtain rfl | rfl:l=0\/l=1:=by omega
 ·cases f
  ·show (JT 0).contains (tx "(")=false;decide
  ·show (JT 0).contains (tx "not")=true;decide
  ·show (JT 0).contains (tx "and")=true;decide
  ·show (JT 0).contains (tx "or")=true;decide
 ·cases f
  ·show (JT 1).contains (tx "(")=false;decide
  ·show (JT 1).contains (tx "not")=true;decide
  ·show (JT 1).contains (tx "and")=true;decide
  ·show (JT 1).contains (tx "or")=false;decide
theorem ami:∀{f:Fr},prim sb .idx [fD f,.int 0] h=some (.str (kn f),h)
 | .op=>rfl
 | .nt=>rfl
 | .an _=>rfl
 | .or _=>rfl
theorem agc {l:Nat}{w:Sn}:∀{f:Fr},ig l f=true->prim sb .add [fD f,.tup [sd w]] h=some (sd (fw f w),h)
 | .op,e=>by cases e
 | .nt,_=>rfl
 | .an _,_=>rfl
 | .or _,_=>rfl
theorem ajs {l:Nat}(hl:l<=1){f:Fr}:dN (.str (kn f)) ((JT l).map .str)=some (ig l f):=by
 rw[gC,ajr hl]
theorem nP {B:List Fr}{f:Fr}:(f::B).reverse.map fD=B.reverse.map fD++[fD f]:=by simp
theorem DY {l:Nat}{B:List Fr}{w:Sn}(hl:l<=1)(q:Q (sd (bD l B w).2) (h++[.lst ((bD l B w).1.reverse.map fD)])):
  aD sb P (d+1) 6 [.ref h.length,sd w,.tup ((JT l).map .str)] (h++[.lst (B.reverse.map fD)]) Q E:=by
 refine wp_call rfl rfl ?_;simp! only[JV];refine z6 (λm σ h'=>∃(B':List Fr) (w':Sn),bD l B' w'=bD l B w/\m=B'.length/\h'=h++[.lst (B'.reverse.map fD)]/\σ=[some (.ref h.length),some (sd w'),some (.tup ((JT l).map .str))]) (m:=B.length) ⟨B,w,rfl,rfl,rfl,rfl⟩ ?_;rintro m σ h' ⟨B',w',e,rfl,rfl,rfl⟩;cases B' with
 | nil=>
  rw[<-e]at q;have t0:truthy (h++[AO.lst (([]:List Fr).reverse.map fD)]) (.ref h.length)=some false:=DN aC;simp! only[t0,Bj];exact q
 | cons f B'=>
  rw[nP];have t1:truthy (h++[AO.lst (B'.reverse.map fD++[fD f])]) (.ref h.length)=some true:=by rw[DN aC];simp
  have ea:cB (B'.reverse.map fD++[fD f]) (-1)=some (fD f):=by rw[Az];simp
  simp! only[t1,aQ aC,ea,ami,ajs hl];cases ej:ig l f with
  | true=>
   simp! only[JR,cX aC,DQ aC,dB,agc ej];refine ⟨B'.length,by simp,B',fw f w',?_,rfl,rfl,rfl⟩;rw[<-e];show _=if _ then _ else _
   rw[if_pos ej]
  | false=>
   have:bD l (f::B') w'=(f::B',w'):=by show (if _ then _ else _)=_;rw[if_neg (by rw[ej];decide)]
   simp! only[Bj];rw[<-e,this,nP]at q;exact q
noncomputable def oD:Option Sn->D
 | none=>.non
 | some w=>sd w
theorem jr {w:Sn}:prim sb .su [sd w] h=some (.bl false,h):=by cases w<;>rfl
theorem gK {p q:Bool}:oJ h (.bl p) (.bl q)=some (p == q):=rfl
theorem QJ:prim sb (.sy cL) [.str (tx "and")] h=some (.bl true,h):=rfl
theorem W8:prim sb (.sy cL) [.str (tx "or")] h=some (.bl true,h):=rfl
theorem W9:prim sb (.sy cL) [.str (tx ")")] h=some (.bl true,h):=rfl
theorem W_:prim sb (.sy cL) [.str (tx "(")] h=some (.bl false,h):=rfl
theorem Xa:prim sb (.sy cL) [.str (tx "not")] h=some (.bl false,h):=rfl
theorem Zy:prim sb (.ux cL) [.str (tx "and")] h=some (.tup ((JT 1).map .str),h):=rfl
theorem acY:prim sb (.ux cL) [.str (tx "or")] h=some (.tup ((JT 0).map .str),h):=rfl
theorem acZ:prim sb (.ux cL) [.str (tx ")")] h=some (.tup ((JT 0).map .str),h):=rfl
theorem mL {l:Nat}:∀{B:List Fr} {w:Sn},(bD l B w).1.length<=B.length
 | [],w=>Nat.le_refl _
 | f::B,w=>by
  show (if _ then _ else _:List Fr×Sn).1.length<=_;split
  ·have:=mL (l:=l) (B:=B) (w:=fw f w);simp only[List.length_cons];omega
  ·exact Nat.le_refl _
theorem QK:(tx ")" == tx ")")=true:=by decide
theorem QL:(tx "and" == tx ")")=false:=by decide
theorem QM:(tx "or" == tx ")")=false:=by decide
theorem ac0:(tx "(" == tx ")")=false:=by decide
theorem QS:(tx "not" == tx ")")=false:=by decide
theorem ac1:(tx "(" == tx "(")=true:=by decide
theorem ac2:(tx "not" == tx "(")=false:=by decide
theorem ac3:(tx "not" == tx "not")=true:=by decide
theorem Zz:(true == false)=false:=rfl
theorem ZC:(false == true)=false:=rfl
theorem Tp {n:S}(q:Q (.bl (Fb n)) h):aD sb P (d+1) 4 [.str n] h Q E:=by
 refine wp_call rfl rfl ?_;unfold Fb at q;by_cases l1:1<=n.length
 ·have e1:decide ((1:Int)<=(n.length:Int))=true:=decide_eq_true (by omega);rw[decide_eq_true l1]at q;by_cases l2:n.length<=12
  ·have e2:decide ((n.length:Int)<=12)=true:=decide_eq_true (by omega);rw[decide_eq_true l2]at q;simp! only[nC,IW,gj,e1,e2,amh];exact q
  ·have e2:decide ((n.length:Int)<=12)=false:=decide_eq_false (by omega);rw[decide_eq_false l2]at q;simp! only[nC,IW,gj,e1,e2];exact q
 ·have e1:decide ((1:Int)<=(n.length:Int))=false:=decide_eq_false (by omega);rw[decide_eq_false l1]at q;simp! only[nC,IW,gj,e1];exact q
noncomputable def oS:Option S->D
 | none=>.non
 | some s=>.str s
theorem QT {f:S->Bool}:∀{l:List S} {i:Nat} {p:S},(∀x∈l.take i,f x=false)->l[i]?=some p->f p=true->l.find? f=some p
 | [],i,p,_,e,_=>by cases e
 | x::l,0,p,_,e,hp=>by cases e;rw[List.find?_cons,hp]
 | x::l,i+1,p,h,e,hp=>by
  rw[List.find?_cons,h x (by simp)];exact QT (l:=l) (i:=i) (λy hy=>h y (by simp[hy])) (by simpa using e) hp
theorem Pa {t:S}{p:Nat}(hp:p<=t.length)(q:Q (oS (pa (t.drop p))) h):aD sb P (d+2) 2 [.str t,.int p] h Q E:=by
 refine wp_call rfl rfl ?_;simp! only[Bf];refine jk (xs:=PS.map .str) (J:=qH (PS.map .str)) (vs:=[FZ]) (h1:=h) (λi σ h'=>h'=h/\(∀x∈PS.take i,x.isPrefixOf (t.drop p)=false)/\∃x,σ=[some (.str t),some (.int p),x,none]) (λQ q=>by simp! only;exact q) rfl ⟨rfl,by simp,none,rfl⟩ (λi σ h' _ _=>rfl) ?_ ?_
 ·rintro i v σ h' ev ⟨rfl,hni,x,rfl⟩;rw[List.getElem?_map]at ev;cases e1:PS[i]? with
  | none=>rw[e1]at ev;cases ev
  | some p'=>
   rw[e1]at ev;cases ev;refine ⟨_,rfl,?_⟩;simp! only[Bd,Zx hp];cases eb:p'.isPrefixOf (t.drop p) with
   | true=>
    have:pa (t.drop p)=some p':=by
     unfold pa;rw[QT (f:=λz=>z.isPrefixOf (t.drop p)) hni e1 eb]
    rw[this]at q;simp! only[Bc];exact q
   | false=>
    simp! only;refine ⟨λx hx=>?_,_,rfl⟩;rw[show PS.take (i+1)=PS.take i++[p'] by rw[List.take_succ,e1];rfl,List.mem_append,List.mem_singleton]at hx;rcases hx with hx | rfl
    ·exact hni x hx
    ·exact eb
 ·rintro σ h' ⟨rfl,hni,x,rfl⟩;have hni:∀x∈PS,x.isPrefixOf (t.drop p)=false:=by
   have:PS.take (PS.map Z.D.str).length=PS:=by rw[List.length_map,List.take_length]
   rwa [this]at hni
  have ef:(PS.find? λz=>z.isPrefixOf (t.drop p))=none:=by
   rw[List.find?_eq_none];intro x hx;rw[hni x hx];decide
  obtain ⟨s1,s2,s3⟩:=wK (r:=t.drop p);simp! only[Bb];refine Tn s1 hp s3 s2 ?_;have e2:dO (.str t) (some (p:Int)) (some ((p+(lw (t.drop p)).length:Nat):Int)) h'=some (.str (lw (t.drop p)),h'):=by
   show some (D.str (cut t _ _),h')=_;rw[acW s1 hp]
  simp! only[e2,Ba];refine Tp ?_;unfold pa at q;rw[ef]at q;cases eg:Fb (lw (t.drop p)) with
  | true=>
   simp! only;simp only[if_pos eg]at q;exact q
  | false=>
   simp! only;have:¬Fb (lw (t.drop p))=true:=by rw[eg];decide
   simp only[if_neg this]at q;exact q
theorem Xb {t:S}{o:Option (List S)}(tp:TP t o)(hl:t.length<=1000)(qn:o=none->∀h',h<+:h'->Q .non h')(qs:∀al,o=some al->Q (.ref h.length) (h++[.lst ((al.map tk).map .str)])):aD sb P (d+3) 1 [.str t] h Q E:=by
 refine wp_call rfl rfl ?_;simp! only[xF,xE,xC];refine z6 (λm σ h'=>∃(ps:List S) (o':Option (List S)) (p:Nat) (x:Option D),p<=t.length/\ps.length<=p/\TP (t.drop p) o'/\o=o'.map (ps++·)/\m=t.length - p/\h'=h++[.lst ((ps.map tk).map .str)]/\σ=[some (.str t),some (.ref h.length),some (.int p),x]) (m:=t.length) ⟨[],o,0,none,by omega,by simp,tp,by cases o<;>rfl,rfl,rfl,rfl⟩ ?_;rintro m σ h' ⟨ps,o',p,x,hp,hps,tp',eo,rfl,rfl,rfl⟩;simp! only;by_cases hlt:p < t.length
 ·rw[decide_eq_true (by omega)];simp! only[xB];refine Pa hp ?_;obtain ⟨r0,er⟩:∃r0,r0=t.drop p:=⟨_,rfl⟩
  have er2:=congrArg List.length er;rw[List.length_drop]at er2;rw[<-er]at tp' ⊢;cases tp' with
  | nil=>simp at er2;omega
  | bad h1 h2=>
   rw[h2];simp! only[oS,nW,fZ,xA];exact qn eo _ (List.prefix_append _ _)
  | @cons _ q0 o2 h1 h2 h3=>
   have hq:=List.length_pos_iff.mpr (Tc h2);have e3:=congrArg List.length (qF h2).1;simp only[List.length_drop,List.length_append]at e3;rw[h2];simp! only[oS,nW,aga,xu,cX aC,acX,dI aC (show ((ps.map tk).map Z.D.str).length < 16777216 by simp only[List.length_map];omega),dB,xq];refine ⟨t.length - (p+q0.length),by omega,ps++[q0],o2,p+q0.length,some (.str q0),by omega,by simp;omega,by rw[<-List.drop_drop,<-er];exact h3,?_,rfl,by simp,?_⟩
   ·rw[eo,Option.map_map];congr 1;funext l;simp
   ·have:(p:Int) - -(q0.length:Int)=((p+q0.length:Nat):Int):=by omega
    rw[this]
 ·rw[decide_eq_false (by omega)];have:t.drop p=[]:=List.drop_eq_nil_iff.mpr (by omega);rw[this]at tp';cases tp' with
  | bad h1 _=>exact absurd rfl h1
  | cons h1 _ _=>exact absurd rfl h1
  | nil=>
   simp! only[xg];exact qs ps (by rw[eo];simp)
theorem ac4:∀{B B':List Fr} {w w':Option Sn} {t:Tk},stP (B,w) t=some (B',w')->B'.length<=B.length+1:=by
 intro B B' w w' t e;cases w with
 | none=>
  cases t<;>simp only[stP,Option.some.injEq,Prod.mk.injEq,reduceCtorEq]at e
  ·rw[<-e.1];simp
  ·rw[<-e.1];simp
  ·rw[<-e.1];omega
 | some w=>
  cases t
  case an=>simp only[stP,Option.some.injEq,Prod.mk.injEq]at e;rw[<-e.1];have:=mL (l:=1) (B:=B) (w:=w);simp;omega
  case or=>simp only[stP,Option.some.injEq,Prod.mk.injEq]at e;rw[<-e.1];have:=mL (l:=0) (B:=B) (w:=w);simp;omega
  case cl=>
   have:=mL (l:=0) (B:=B) (w:=w);simp only[stP]at e;split at e
   ·cases e
   ·rename_i q;simp only[Option.some.injEq,Prod.mk.injEq]at e;rw[q]at this;rw[<-e.1];simp at this;omega
  all_goals (simp only[stP,reduceCtorEq]at e)
theorem ZD {a:Nat}{B:List Fr}{w:Option Sn}{t:S}{x4:Option D}{K:En}(hl:B.length<=1000)
  (qn:stP (B,w) (kt t)=none->∀h',h<+:h'->K.rt .non h')
  (qs:∀B' w',stP (B,w) (kt t)=some (B',w')->∀x4,K.nx [some (.ref a),some (.ref h.length),some (oD w'),some (.str t),x4] (h++[.lst (B'.reverse.map fD)])):
  bN sb (aD sb P (d+1)) E bC K [some (.ref a),some (.ref h.length),some (oD w),some (.str t),x4] (h++[.lst (B.reverse.map fD)]):=by
 have nn:stP (B,w) (kt t)=none->K.rt .non (h++[.lst (B.reverse.map fD)]):=λe=>qn e _ (List.prefix_append _ _);have eqb:(true == true)=true:=rfl;have eqf:(false == false)=true:=rfl;rcases Gf t with rfl | rfl | rfl | rfl | rfl | ⟨k1,k2⟩
 ·rw[lE]at qn qs nn;cases w with
  | some w=>
   simp! only[bC,W_,bJ,oD,jr,gK,eqf,cP];exact nn rfl
  | none=>
   simp! only[bC,W_,bJ,fZ,gK,ZC,cO,oD,cI,ac0,dD,fM,ac1,jg,cX aC,dI aC (show (B.reverse.map fD).length < 16777216 by simp;omega),dB];have:=qs _ _ rfl (some (.bl false));rw[nP]at this;exact this
 ·rw[lF]at qn qs nn;cases w with
  | none=>
   simp! only[bC,W9,bJ,oD,fZ,gK,eqb,cP];exact nn rfl
  | some w=>
   simp! only[bC,W9,bJ,jr,gK,Zz,cO,fO,acZ,oD];refine DY (by omega) ?_;cases e:(bD 0 B w).1 with
   | nil=>
    have t0:truthy (h++[AO.lst (([]:List Fr).reverse.map fD)]) (.ref h.length)=some false:=DN aC;simp! only[cI,QK,jT,t0,qY];exact qn (by simp only[stP,e]) _ (List.prefix_append _ _)
   | cons f B'=>
    rw[nP];have t1:truthy (h++[AO.lst (B'.reverse.map fD++[fD f])]) (.ref h.length)=some true:=by rw[DN aC];simp
    simp! only[cI,QK,jT,t1,qX,cX aC,DQ aC,dB];exact qs B' (some _) (by simp only[stP,e]) _
 ·rw[nD]at qn qs nn;cases w with
  | some w=>
   simp! only[bC,Xa,bJ,oD,jr,gK,eqf,cP];exact nn rfl
  | none=>
   simp! only[bC,Xa,bJ,fZ,gK,ZC,cO,oD,cI,QS,dD,fM,ac2,ac3,jg,cX aC,dI aC (show (B.reverse.map fD).length < 16777216 by simp;omega),dB];have:=qs _ _ rfl (some (.bl false));rw[nP]at this;exact this
 ·rw[jJ]at qn qs nn;cases w with
  | none=>
   simp! only[bC,QJ,bJ,oD,fZ,gK,eqb,cP];exact nn rfl
  | some w=>
   have e2:=mL (l:=1) (B:=B) (w:=w);simp! only[bC,QJ,bJ,jr,gK,Zz,cO,fO,Zy,oD];refine DY (by omega) ?_;simp! only[cI,QL,dD,jV,cX aC,dI aC (show ((bD 1 B w).1.reverse.map fD).length < 16777216 by simp;omega),dB,jU];have:=qs _ _ rfl (some (.bl true));rw[nP]at this;exact this
 ·rw[jK]at qn qs nn;cases w with
  | none=>
   simp! only[bC,W8,bJ,oD,fZ,gK,eqb,cP];exact nn rfl
  | some w=>
   have e2:=mL (l:=0) (B:=B) (w:=w);simp! only[bC,W8,bJ,jr,gK,Zz,cO,fO,acY,oD];refine DY (by omega) ?_;simp! only[cI,QM,dD,jV,cX aC,dI aC (show ((bD 0 B w).1.reverse.map fD).length < 16777216 by simp;omega),dB,jU];have:=qs _ _ rfl (some (.bl true));rw[nP]at this;exact this
 ·have nb:∀k:S,kt k≠kt t->(t == k)=false:=λk hk=>beq_false_of_ne λz=>hk (by rw[z]);have s1:=nb (tx ")") (by rw[k1,lF];exact λz=>by cases z);have s2:=nb (tx "(") (by rw[k1,lE];exact λz=>by cases z);have s3:=nb (tx "not") (by rw[k1,nD];exact λz=>by cases z);have s4:=nb (tx "and") (by rw[k1,jJ];exact λz=>by cases z);have s5:=nb (tx "or") (by rw[k1,jK];exact λz=>by cases z);have tn:∀h,prim sb (.sy cL) [.str t] h=some (.bl false,h):=λh=>by
   show some (D.bl (cL.lookup t).isSome,h)=_;simp only[cL,List.lookup,s4,s5,s1,Option.isSome_none]
  rw[k1]at qn qs nn;cases w with
  | some w=>
   simp! only[bC,tn,bJ,oD,jr,gK,eqf,cP];exact nn rfl
  | none=>
   simp! only[bC,tn,bJ,fZ,gK,ZC,cO,oD,cI,s1,dD,fM,s2,s3,oO];exact qs _ _ rfl _
theorem agg {a:Nat}{ts:List S}(ha:h[a]?=some (.lst (ts.map .str)))(hl:ts.length<=900)(q:∀h',h<+:h'->Q (oD ((rP ([],none) (ts.map kt)).bind iu)) h'):aD sb P (d+2) 5 [.ref a] h Q E:=by
 refine wp_call rfl rfl ?_;simp! only[oV,oU,oR];refine jk (xs:=ts.map .str) (J:=gD a) (vs:=[.ref a]) (h1:=h++[.lst []]) (λi σ h'=>∃(B:List Fr) (v:Option Sn) (x3 x4:Option D),h'=h++[.lst (B.reverse.map fD)]/\B.length<=i/\(rP (B,v) ((ts.drop i).map kt)).bind iu=(rP ([],none) (ts.map kt)).bind iu/\σ=[some (.ref a),some (.ref h.length),some (oD v),x3,x4])
  (λQ q=>by simp! only;exact q) (G3 (aK ha)) ⟨[],none,none,none,rfl,Nat.le_refl _,rfl,rfl⟩ ?_ ?_ ?_
 ·rintro i σ h' _ ⟨B,v,x3,x4,rfl,_⟩;simp only[gD,aK ha]
 ·rintro i v σ h' ev ⟨B,v',x3,x4,rfl,hB,r,rfl⟩;rw[List.getElem?_map]at ev;cases et:ts[i]? with
  | none=>rw[et]at ev;cases ev
  | some t=>
   rw[et]at ev;cases ev;have hi:=(List.getElem?_eq_some_iff.mp et).1;have e1:ts.drop i=t::ts.drop (i+1):=by
    rw[List.drop_eq_getElem_cons hi];congr 1;exact Option.some.inj ((List.getElem?_eq_getElem hi).symm.trans et)
   rw[e1,List.map_cons]at r;change ((stP (B,v') (kt t)).bind _).bind iu=_ at r;refine ⟨_,rfl,ZD (by omega) (λe h' pr=>?_) λB1 w1 e x4=>?_⟩
   ·rw[e]at r;rw[<-r]at q;exact q h' pr
   ·rw[e]at r;have:=ac4 e;exact ⟨B1,w1,_,x4,rfl,by omega,r,rfl⟩
 ·rintro σ h' ⟨B,v,x3,x4,rfl,hB,r,rfl⟩;rw[List.length_map,List.drop_length,List.map_nil]at r;change iu (B,v)=_ at r;rw[<-r]at q;cases v with
  | none=>
   simp! only[jR,oD,fZ,qW];exact q _ (List.prefix_append _ _)
  | some w=>
   simp! only[jR,jr,qU,oD];refine DY (l:=0) (by omega) ?_;simp only[iu]at q;cases e:(bD 0 B w).1 with
   | nil=>
    rw[e]at q;have t0:truthy (h++[AO.lst (([]:List Fr).reverse.map fD)]) (.ref h.length)=some false:=DN aC;simp! only[jQ,t0];exact q _ (List.prefix_append _ _)
   | cons f B'=>
    rw[e]at q;rw[nP];have t1:truthy (h++[AO.lst (B'.reverse.map fD++[fD f])]) (.ref h.length)=some true:=by rw[DN aC];simp
    simp! only[jQ,t1];exact q _ (List.prefix_append _ _)
theorem I_ {c:S}{e:Ex}{Γ:b_}{σ:Lo}{K:En}:wpS sb Γ E (.vZ c e) K σ h=aM sb Γ E e σ h λx h1=>match x with
  | .int i=>E (.tup [.str c,.int i]) h1
  | _=>False:=by simp only[wpS]<;>rfl
theorem agh {t:S}{o:Option (List S)}(tp:TP t o):∀al,o=some al->al.length<=t.length:=by
 induction tp with
 | nil=>intro al e;cases e;simp
 | bad _ _=>intro al e;cases e
 | @cons r q0 o h1 h2 h3 ih=>
  intro al e;obtain ⟨al',rfl,rfl⟩:=Option.map_eq_some_iff.mp e;have:=ih al' rfl;have hq:=List.length_pos_iff.mpr (Tc h2);have e3:=congrArg List.length (qF h2).1;simp only[List.length_drop,List.length_append]at e3 this;simp only[List.length_cons];omega
theorem ac5 {t:S}{o:Option (List S)}{i:Int}(tp:TP t o)(q1:120 < t.length->∀h',h<+:h'->E (.tup [.str (tx "TooLong"),.int i]) h')(q2:t.length<=120->nF o=none->∀h',h<+:h'->E (.tup [.str (tx "NoSentence"),.int i]) h')
  (q3:∀s,t.length<=120->nF o=some s->∀h',h<+:h'->Q (sd s) h'):aD sb P (d+4) 0 [.str t,.int i] h Q E:=by
 refine wp_call rfl rfl ?_;by_cases hl:120 < t.length
 ·have l1:decide ((120:Int) < (t.length:Int))=true:=decide_eq_true (by omega);simp! only[jf,lB,l1,oN,I_];exact q1 hl h iB
 ·have l1:decide ((120:Int) < (t.length:Int))=false:=decide_eq_false (by omega);simp! only[jf,lB,l1,oM];refine Xb tp (by omega) (λeo h' pr=>?_) λal eo=>?_
  ·simp! only[je,fZ,fL,jd,I_];exact q2 (by omega) (by rw[eo];rfl) h' pr
  ·have:=agh tp al eo;simp! only[je,agb];refine agg aC (by rw[List.length_map];omega) λh' pr=>?_;have er:(rP ([],none) ((al.map tk).map kt)).bind iu=nF o:=by rw[eo,List.map_map];rfl
   rw[er];cases e:nF o with
   | none=>
    simp! only[oD,fL,fZ,jd,I_];exact q2 (by omega) e h' (pre_of pr)
   | some s=>
    simp! only[oD,fL,jr,oK];exact q3 s (by omega) e h' (pre_of pr)
noncomputable def jW (t:S):Bool:=decide (t=tx "(") || (decide (t=tx ")") || decide (t=sB))
noncomputable def oY (ts:List S) (c:Nat):List S:=match ts.getLast? with
 | none=>[[c]]
 | some l=>if sep c=true\/jW l=true then ts++[[c]] else ts.dropLast++[l++[c]]
theorem Gg {c:Nat}:jW [c]=sep c:=by
 unfold jW sep sB;rw[iK,jH];simp
theorem QW {c:Nat}{w:S}(h:sep c=false):jW (c::w)=false:=by
 cases w with
 | nil=>rw[Gg];exact h
 | cons d w=>simp[jW,sB,iK,jH]
theorem wL {x:S}{ts:List S}{c:Nat}(h:ts≠[]):oY (x::ts) c=x::oY ts c:=by
 obtain ⟨ini,l,rfl⟩:∃ini l,ts=ini++[l]:=⟨ts.dropLast,ts.getLast h,(List.dropLast_concat_getLast h).symm⟩
 unfold oY;have e1:(x::(ini++[l])).getLast?=some l:=by rw[<-List.cons_append,List.getLast?_concat]
 have e2:(ini++[l]).getLast?=some l:=List.getLast?_concat;rw[e1,e2];dsimp only;split
 ·rfl
 ·have:(x::(ini++[l])).dropLast=x::ini:=by rw[<-List.cons_append,List.dropLast_concat]
  rw[this,List.dropLast_concat];rfl
theorem abk {r:S}(h:r≠[]):lt r≠[]:=λz=>h (by have:=(DX (r:=r)).2;rw[z]at this;exact this.symm)
theorem QX:∀{s:S} {c:Nat},lt (s++[c])=oY (lt s) c
 | [],c=>by
  show lt [c]=[[c]];rw[lt.eq_def];by_cases h:sep c=true
  ·simp only[if_pos h];rfl
  ·simp only[if_neg h]
 | d::s,c=>by
  have ih:=QX (s:=s) (c:=c);by_cases hd:sep d=true
  ·rw[List.cons_append,iw hd,iw hd,ih];cases s with
   | nil=>
    show [d]::[[c]]=oY [[d]] c;unfold oY;show _=if sep c=true\/jW [d]=true then _ else _
    rw[if_pos (.inr (by rw[Gg];exact hd))];rfl
   | cons e s=>rw[wL (abk (by simp))]
  ·have hd':sep d=false:=by simpa using hd
   cases s with
   | nil=>
    have e1:lt [d]=[[d]]:=by rw[lt.eq_def];simp only[hd'];rfl
    rw[e1];show lt [d,c]=oY [[d]] c;unfold oY;show _=if sep c=true\/jW [d]=true then [[d],[c]] else [[d,c]]
    by_cases hc:sep c=true
    ·rw[if_pos (.inl hc)];rw[lt.eq_def];simp only[hd',hc,if_true];rw[iw hc];rfl
    ·have hc':sep c=false:=by simpa using hc
     have e2:lt [c]=[[c]]:=by rw[lt.eq_def];simp only[hc'];rfl
     rw[if_neg (by rintro (z | z);exact hc z;rw[Gg]at z;exact hd z)];rw[lt.eq_def];simp only[hd',hc',e2];rfl
   | cons e s=>
    by_cases he:sep e=true
    ·have e1:∀r,lt (d::e::r)=[d]::lt (e::r):=λr=>by
      rw[lt.eq_def];simp only[hd',he,if_true];rfl
     show lt (d::e::(s++[c]))=_;rw[e1,e1,wL (abk (by simp))];exact congrArg _ ih
    ·have he':sep e=false:=by simpa using he
     have e1:∀r,lt (d::e::r)=match lt (e::r) with | w::ws=>(d::w)::ws | []=>[[d]]:=λr=>by
      rw[lt.eq_def];simp only[hd',he'];rfl
     show lt (d::e::(s++[c]))=_;rw[e1,e1];have ih':lt (e::(s++[c]))=oY (lt (e::s)) c:=ih;rw[ih']
     -- the first word begins with e
     obtain ⟨w,ws,ew⟩:∃w ws,lt (e::s)=(e::w)::ws:=by
      have lx:=DX (r:=e::s);generalize lt (e::s)=ts at lx;obtain ⟨l1,l2⟩:=lx;cases l1 with
      | nil=>cases l2
      | @sp c' ts hs hl=>
       change c'::ts.flatten=_ at l2;injection l2 with z _
       rw[z]at hs;rw[hs]at he';cases he'
      | @wd w ts h1 h2 h3 h4=>
       obtain ⟨c',w',rfl⟩:=List.exists_cons_of_ne_nil h1;change c'::(w'++ts.flatten)=_ at l2;injection l2 with z _
       exact ⟨w',ts,by rw[z]⟩
     rw[ew];cases ws with
     | nil=>
      unfold oY;show (match (if sep c=true\/jW (e::w)=true then [e::w,[c]] else [e::w++[c]]) with | w::ws=>(d::w)::ws | []=>[[d]])=if sep c=true\/jW (d::e::w)=true then [d::e::w,[c]] else [d::e::w++[c]]
      rw[QW he',QW hd'];by_cases hc:sep c=true
      ·rw[if_pos (.inl hc),if_pos (.inl hc)]
      ·rw[if_neg (by simp[hc]),if_neg (by simp[hc])];rfl
     | cons x xs=>
      have a1:=wL (x:=e::w) (ts:=x::xs) (c:=c) (by simp);have a2:=wL (x:=d::e::w) (ts:=x::xs) (c:=c) (by simp);rw[a1];exact a2.symm
theorem Xc {r:S}:(lt r).length<=r.length:=by
 obtain ⟨l1,l2⟩:=DX (r:=r);have:∀ts:List S,LX ts->ts.length<=ts.flatten.length:=by
  intro ts h
  induction h with
  | nil=>simp
  | sp _ _ ih=>simp only[List.length_cons,List.flatten_cons,List.length_append,List.length_nil];omega
  | wd h1 _ _ _ ih=>have:=List.length_pos_iff.mpr h1;simp only[List.length_cons,List.flatten_cons,List.length_append];omega
 have:=this _ l1;rw[l2]at this;exact this
theorem ac6 {r:S}:∀w∈lt r,w.length<=r.length:=by
 intro w hw;have:=(DX (r:=r)).2;have h2:w.length<=(lt r).flatten.length:=(List.sublist_flatten_of_mem hw).length_le;rw[this]at h2;exact h2
theorem ac7 {xs:List D}{v y:D}{a:Nat}(ha:h[a]?=some (.lst (xs++[v]))):prim sb .iU [.ref a,.int (-1),y] h=some (.non,h.set a (.lst (xs++[y]))):=by
 show (match h[a]? with | some (.dct kvs)=>_ | some (.lst xs)=>_ | _=>none)=_;rw[ha];show (match kh (xs++[v]).length (-1) with | some j=>some (Z.D.non,h.set a (.lst ((xs++[v]).set j y))) | none=>none)=_;have e:kh (xs++[v]).length (-1)=some xs.length:=by
  unfold kh;rw[if_neg (by decide),if_pos (by simp;omega)];simp;omega
 rw[e];simp
theorem agi {c:Nat}:prim sb .Jr [.str [c],.str (tx "() ")] h=some (.bl (sep c),h):=by
 show some (D.bl (jx [c] (tx "() ")),h)=_;rw[ud,show tx "() "=[40,41,32] by decide];have:decide (c∈[40,41,32])=sep c:=by unfold sep;simp
 rw[this]
theorem qw:tx " "=sB:=by decide
theorem QZ {l:S}:dN (.str l) [.str (tx "("),.str (tx ")"),.str (tx " ")]=some (jW l):=by
 have:=gC (x:=l) (ss:=[tx "(",tx ")",tx " "]);rw[show List.map Z.D.str [tx "(",tx ")",tx " "]=[.str (tx "("),.str (tx ")"),.str (tx " ")] from rfl]at this;rw[this];unfold jW;rw[qw];by_cases h1:l=tx "("
 ·simp[h1]
 ·by_cases h2:l=tx ")"
  ·simp[h1,h2]
  ·by_cases h3:l=sB
   ·simp[h3]
   ·simp[h1,h2,h3]
theorem agj {t:S}(hl:t.length<=5000)(q:Q (.ref h.length) (h++[.lst ((lt t).map .str)])):aD sb P (d+1) 14 [.str t] h Q E:=by
 refine wp_call rfl rfl ?_;simp! only[vC,vB];refine jk (xs:=t.map λc=>.str [c]) (J:=qH (t.map λc=>.str [c])) (vs:=[.str t]) (h1:=h++[.lst []]) (λi σ h'=>h'=h++[.lst ((lt (t.take i)).map .str)]/\∃x,σ=[some (.str t),some (.ref h.length),x]) (λQ q=>by simp! only;exact q) rfl ⟨rfl,none,rfl⟩ (λi σ h' _ _=>rfl) ?_ ?_
 ·rintro i v σ h' ev ⟨rfl,x,rfl⟩;rw[List.getElem?_map]at ev;cases et:t[i]? with
  | none=>rw[et]at ev;cases ev
  | some c=>
   rw[et]at ev;cases ev;have hi:=(List.getElem?_eq_some_iff.mp et).1;refine ⟨_,rfl,?_⟩;have tk1:t.take (i+1)=t.take i++[c]:=by rw[List.take_succ,et];rfl
   have hlen:(lt (t.take i)).length<=5000:=Nat.le_trans Xc (by simp;omega);have hw:∀w∈lt (t.take i),w.length<=5000:=λw h=>Nat.le_trans (ac6 w h) (by simp;omega);rw[tk1,QX];generalize lt (t.take i)=ts at hlen hw;simp! only[vA,agi];by_cases hts:ts=[]
   ·subst hts;have g0:([]:List D).length < 16777216:=by simp
    have e1:(oY [] c).map Z.D.str=[.str [c]]:=rfl;cases hc:sep c with
    | true=>
     simp! only[gk,cX aC,dI aC g0,dB,e1];exact ⟨_,rfl⟩
    | false=>
     have e0:(((0:Nat):Int) == 0)=true:=rfl;simp! only[gF aC,e0,gk,cX aC,dI aC g0,dB,e1];exact ⟨_,rfl⟩
   ·obtain ⟨ini,l,rfl⟩:∃ini l,ts=ini++[l]:=⟨ts.dropLast,ts.getLast hts,(List.dropLast_concat_getLast hts).symm⟩
    have em:(ini++[l]).map Z.D.str=ini.map Z.D.str++[.str l]:=by simp
    have hl2:=hw l (by simp);have es:oY (ini++[l]) c=if sep c=true\/jW l=true then ini++[l]++[[c]] else ini++[l++[c]]:=by
     unfold oY;rw[List.getLast?_concat];dsimp only;rw[List.dropLast_concat]
    have app:bN sb (aD sb P d) E gk {nx:=λσ h'=>h'=h++[.lst ((ini++[l]++[[c]]).map .str)]/\∃x,σ=[some (.str t),some (.ref h.length),x],rt:=Q,bk:=λσ' h'=>bN sb (aD sb P d) E mF {nx:=λx h=>Q .non h,rt:=Q} σ' h',ct:=λσ h'=>h'=h++[.lst ((ini++[l]++[[c]]).map .str)]/\∃x,σ=[some (.str t),some (.ref h.length),x]}
      [some (.str t),some (.ref h.length),some (.str [c])] (h++[.lst ((ini++[l]).map .str)]):=by
     simp! only[gk,cX aC,dI aC (show ((ini++[l]).map Z.D.str).length < 16777216 by rw[List.length_map];omega),dB];exact ⟨by simp,_,rfl⟩
    have es1:sep c=true->oY (ini++[l]) c=ini++[l]++[[c]]:=λz=>by rw[es,if_pos (.inl z)]
    have es2:jW l=true->oY (ini++[l]) c=ini++[l]++[[c]]:=λz=>by rw[es,if_pos (.inr z)]
    have es3:sep c=false->jW l=false->oY (ini++[l]) c=ini++[l++[c]]:=λz y=>by rw[es,if_neg (by rw[z,y];simp)]
    cases hc:sep c with
    | true=>
     rw[es1 hc];simp! only;exact app
    | false=>
     have en:(((((ini++[l]).map Z.D.str).length:Nat):Int) == 0)=false:=by
      simp;omega
     have ea:cB ((ini++[l]).map Z.D.str) (-1)=some (.str l):=by rw[Az];simp
     cases hs:jW l with
     | true=>
      rw[es2 hs];simp! only[gF aC,en,aQ aC,ea,QZ,hs];exact app
     | false=>
      rw[es3 hc hs];simp! only[gF aC,en,aQ aC,ea,QZ,hs,vq];rw[if_pos (by omega)];rw[em];simp! only[ac7 aC,dB];exact ⟨by simp,_,rfl⟩
 ·rintro σ h' ⟨rfl,x,rfl⟩;rw[List.length_map,List.take_length];simp! only[mF];exact q
theorem ZF {x:D}{ys:List D}:prim sb .kj [x,.tup ys] h=(dN x ys).map λb=>(.bl (b != true),h):=by cases x<;>rfl
theorem Hf {l:S}:dN (.str l) [.str (tx "not"),.str (tx "and"),.str (tx "or")]=some (J3.contains l):=gC (ss:=[tx "not",tx "and",tx "or"])
theorem abl {l:S}:dN (.str l) [.str (tx "and"),.str (tx "or")]=some (J2.contains l):=gC (ss:=[tx "and",tx "or"])
theorem ajt {l:S}:dN (.str l) [.str (tx "always"),.str (tx "where"),.str (tx "usually")]=some (WK.contains l):=gC (ss:=[tx "always",tx "where",tx "usually"])
theorem D_ {a b:S}:(a == b)=decide (a=b):=by
 by_cases h:a=b
 ·subst h;simp
 ·simp[h]
theorem amj {a t b:S}{tr rr k:D}{K:En}(qt:ck a t b=true->K.nx [some tr,some rr,some k,some (.str a),some (.str b)] h)(qf:ck a t b=false->K.rt (.bl false) h)(hk:prim sb .idx [tr,k] h=some (.str t,h)):
  bN sb (aD sb P d) E lC K [some tr,some rr,some k,some (.str a),some (.str b)] h:=by
 have last:(J2.contains t=true->a=sB/\b=sB)->(t=sB->(a≠sB/\b≠sB)/\(J3.contains a=true\/J2.contains b=true))->bN sb (aD sb P d) E mG K [some tr,some rr,some k,some (.str a),some (.str b)] h:=by
  intro h2 h1;simp! only[mG,hk,D_];by_cases c3:t=tx "not"
  ·subst c3;rw[Tg]at qt qf;rw[decide_eq_true rfl];rw[qw];by_cases hb:b=sB
   ·rw[decide_eq_true hb]at qt ⊢;simp! only;exact qt rfl
   ·rw[decide_eq_false hb]at qf ⊢;simp! only[vG];exact qf rfl
  ·rw[decide_eq_false c3];simp! only;refine qt ?_;unfold ck;rw[if_neg c3];by_cases c1:t=sB
   ·obtain ⟨⟨k1,k2⟩,k3⟩:=h1 c1;rw[if_pos c1,decide_eq_false k1,decide_eq_false k2];have j2:J2.contains t=false:=by rw[c1];decide
    rw[j2];have k4:(J3.contains a || J2.contains b)=true:=by
     rcases k3 with k3 | k3
     ·rw[k3];rfl
     ·rw[k3,Bool.or_true]
    rw[k4];rfl
   ·rw[if_neg c1];cases j2:J2.contains t with
    | false=>rfl
    | true=>
     obtain ⟨k1,k2⟩:=h2 j2;rw[decide_eq_true k1,decide_eq_true k2];rfl
 have mid:(t=sB->(a≠sB/\b≠sB)/\(J3.contains a=true\/J2.contains b=true))->bN sb (aD sb P d) E mJ K [some tr,some rr,some k,some (.str a),some (.str b)] h:=by
  intro h1;simp! only[mJ,hk,abl];cases j2:J2.contains t with
  | false=>
   simp! only;exact last (λz=>by rw[j2]at z;cases z) h1
  | true=>
   have bj:t=tx "and"\/t=tx "or":=by have:=List.contains_iff_mem.mp j2;simpa [J2] using this
   simp! only[D_,qw];by_cases k1:a=sB
   ·rw[decide_eq_true k1];simp! only;by_cases k2:b=sB
    ·rw[decide_eq_true k2];simp! only;exact last (λ_=>⟨k1,k2⟩) h1
    ·rw[decide_eq_false k2];simp! only[mH];exact qf (by rw[Ge bj,decide_eq_false k2,Bool.and_false])
   ·rw[decide_eq_false k1];simp! only[mH];exact qf (by rw[Ge bj,decide_eq_false k1];rfl)
 simp! only[lC,hk,D_,qw];by_cases c1:t=sB
 ·subst c1;rw[decide_eq_true rfl];rw[Ti]at qt qf;simp! only[vJ,D_,qw];by_cases k1:a=sB
  ·rw[decide_eq_true k1]at qf ⊢;simp! only[mK];exact qf rfl
  ·rw[decide_eq_false k1]at qf ⊢;simp! only;by_cases k2:b=sB
   ·rw[decide_eq_true k2]at qf ⊢;simp! only[mK];exact qf rfl
   ·rw[decide_eq_false k2]at qf ⊢;simp! only[vI,ZF,Hf,abl];cases j3:J3.contains a with
    | true=>
     simp! only;exact mid λ_=>⟨⟨k1,k2⟩,.inl j3⟩
    | false=>
     simp! only;cases j2:J2.contains b with
     | true=>
      simp! only;exact mid λ_=>⟨⟨k1,k2⟩,.inr j2⟩
     | false=>
      simp! only[vH];exact qf (by rw[j3,j2];rfl)
 ·rw[decide_eq_false c1];simp! only;exact mid λz=>absurd z c1
theorem ZG {a:Nat}{ts:List S}(ha:h[a]?=some (.lst (ts.map .str)))(hl:ts.length<=5000)(q:∀h',h<+:h'->Q (.bl (bl sB ts)) h'):aD sb P (d+1) 15 [.ref a] h Q E:=by
 refine wp_call rfl rfl ?_;simp! only[tY];have hb0:tx " "=sB:=qw;rw[eF (a:=h.length) (b:=a) aC (aK ha) (by simp;omega)];simp! only;have g1:∀o,((h++[AO.lst [.str (tx " ")]])++[AO.lst (.str (tx " ")::ts.map .str)]++[o])[(h++[AO.lst [.str (tx " ")]]).length]?=some (.lst (.str (tx " ")::ts.map .str)):=λo=>aK aC;rw[eF (g1 _) aC (by simp;omega)];simp! only[tX];generalize hr:(h++[AO.lst [.str (tx " ")]])++[AO.lst (.str (tx " ")::ts.map .str)]++[AO.lst [.str (tx " ")]]=h1;have pr:h<+:h1:=by rw[<-hr];exact pre_app (pre_app (List.prefix_append _ _))
 have hrm:(h1++[AO.lst (.str (tx " ")::(ts.map .str++[.str (tx " ")]))])[h1.length]?=some (.lst (([sB]++ts++[sB]).map .str)):=by
  rw[aC,qw];simp
 have ha2:(h1++[AO.lst (.str (tx " ")::(ts.map .str++[.str (tx " ")]))])[a]?=some (.lst (ts.map .str)):=aK (aP pr ha);have dG:h<+:h1++[AO.lst (.str (tx " ")::(ts.map .str++[.str (tx " ")]))]:=pre_app pr;clear g1 hr;generalize h1.length=ra at hrm ⊢;generalize h1++[AO.lst (.str (tx " ")::(ts.map .str++[.str (tx " ")]))]=h2 at hrm ha2 dG ⊢;have f0:([sB]++ts++[sB])[0]?=some sB:=rfl;have f1:∀(i:Nat) (hi:i < ts.length),([sB]++ts++[sB])[i+1]?=some ts[i]:=λi hi=>by
  rw[List.append_assoc,List.singleton_append,List.getElem?_cons_succ,List.getElem?_append_left hi,List.getElem?_eq_getElem hi]
 have f2:∀(i:Nat) (hi:i < ts.length),([sB]++ts++[sB])[i+2]?=some (lG (ts.drop (i+1))):=λi hi=>by
  rw[List.append_assoc,List.singleton_append,List.getElem?_cons_succ];by_cases hj:i+1 < ts.length
  ·rw[List.getElem?_append_left hj,List.drop_eq_getElem_cons hj,List.getElem?_eq_getElem hj];rfl
  ·have:i+1=ts.length:=by omega
   rw[List.getElem?_append_right (by omega),this];simp[lG]
 generalize [sB]++ts++[sB]=rm at hrm f0 f1 f2;refine gZ (lo:=0) (n:=ts.length) (vs:=[.int ts.length]) (h1:=h2) (λi σ h'=>h'=h2/\(∃a0,rm[i]?=some a0/\bl sB ts=bl a0 (ts.drop i))/\∃x2 x3 x4,σ=[some (.ref a),some (.ref ra),x2,x3,x4]) (λQ q=>by simp! only[gF ha2,List.length_map];exact q) (by simp[bU,jh,iR,ji,jj,gY,okR];omega) ⟨rfl,⟨sB,f0,rfl⟩,none,none,none,rfl⟩ ?_ ?_
 ·rintro i σ h' hi ⟨rfl,⟨a0,e0,eb⟩,x2,x3,x4,rfl⟩;refine ⟨_,rfl,?_⟩;have e1:ts.drop i=ts[i]::ts.drop (i+1):=List.drop_eq_getElem_cons hi;have et:ts[i]?=some ts[i]:=List.getElem?_eq_getElem hi;have e2:=f1 i hi;have e3:=f2 i hi;have a1:cB (rm.map Z.D.str) (0+(i:Int))=some (.str a0):=by
   rw[gH (by omega),show (0+(i:Int)).toNat=i by omega,List.getElem?_map,e0];rfl
  have a2:cB (rm.map Z.D.str) (0+(i:Int)+2)=some (.str (lG (ts.drop (i+1)))):=by
   rw[gH (by omega),show (0+(i:Int)+2).toNat=i+2 by omega,List.getElem?_map,e3];rfl
  have a3:prim sb .idx [.ref a,.int (0+(i:Int))] h'=some (.str ts[i],h'):=by
   rw[aQ ha2,gH (by omega),show (0+(i:Int)).toNat=i by omega,List.getElem?_map,et];rfl
  simp! only[tW,aQ hrm,a1,tV,a2];rw[e1]at eb;change _=(ck a0 ts[i] (lG (ts.drop (i+1))) && bl ts[i] (ts.drop (i+1))) at eb;refine amj (λz=>?_) (λz=>?_) a3
  ·rw[z,Bool.true_and]at eb;exact ⟨rfl,⟨_,e2,eb⟩,_,_,_,rfl⟩
  ·rw[z,Bool.false_and]at eb;rw[eb]at q;exact q _ dG
 ·rintro σ h' ⟨rfl,⟨a0,e0,eb⟩,x2,x3,x4,rfl⟩;rw[List.drop_length]at eb;rw[eb]at q;simp! only[vD];exact q _ dG
theorem agk {t:S}(q:Q (.bl (oX t)) h):aD sb P (d+1) 17 [.str t] h Q E:=by
 refine wp_call rfl rfl ?_;unfold oX at q;simp! only[Ci,ajt];cases hw:WK.contains t with
 | true=>
  rw[hw]at q;simp! only[Cg];exact q
 | false=>
  rw[hw]at q;simp! only[Ce];refine jk (xs:=t.map λc=>.str [c]) (J:=qH (t.map λc=>.str [c])) (vs:=[.str t]) (h1:=h) (λi σ h'=>h'=h/\(∀c∈t.take i,c∈eZ)/\∃x,σ=[some (.str t),x]) (λQ q=>by simp! only;exact q) rfl ⟨rfl,by simp,none,rfl⟩ (λi σ h' _ _=>rfl) ?_ ?_
  ·rintro i v σ h' ev ⟨rfl,hc,x,rfl⟩;rw[List.getElem?_map]at ev;cases et:t[i]? with
   | none=>rw[et]at ev;cases ev
   | some c=>
    rw[et]at ev;cases ev;refine ⟨_,rfl,?_⟩;have en:prim sb .HJ [.str [c],.str (tx "abcdefghijklmnopqrstuvwxyz")] h'=some (.bl (!decide (c∈eZ)),h'):=by
     show some (D.bl (!jx [c] eZ),h')=_;rw[ud]
    simp! only[Cd,en];by_cases hm:c∈eZ
    ·rw[decide_eq_true hm];simp! only;refine ⟨λx hx=>?_,_,rfl⟩;rw[List.take_succ,et,List.mem_append]at hx;rcases hx with hx | hx
     ·exact hc x hx
     ·simp at hx;rw[hx];exact hm
    ·rw[decide_eq_false hm];have ea:t.all (λc=>eZ.contains c)=false:=by
      rw[Bool.eq_false_iff];intro z;exact hm (List.contains_iff_mem.mp (List.all_eq_true.mp z c (List.mem_of_getElem? et)))
     rw[ea]at q;simp! only[Ca];exact q
  ·rintro σ h' ⟨rfl,hc,x,rfl⟩;rw[List.length_map,List.take_length]at hc;have ea:t.all (λc=>eZ.contains c)=true:=List.all_eq_true.mpr λc hm=>List.contains_iff_mem.mpr (hc c hm);rw[ea]at q;simp! only[B_];have uf:decide ((t.length:Int)<=12)=decide (t.length<=12):=by
    by_cases h12:t.length<=12
    ·rw[decide_eq_true h12,decide_eq_true (by omega)]
    ·rw[decide_eq_false h12,decide_eq_false (by omega)]
   rw[uf];exact q
noncomputable def iD:It->D
 | .nt=>.str (tx "not")
 | .an=>.str (tx "and")
 | .or=>.str (tx "or")
 | .tr t=>sd t
noncomputable def vQ:It->Bool
 | .tr _=>false
 | _=>true
theorem Xd:∀{x:It},prim sb (.jX .str) [iD x] h=some (.bl (vQ x),h)
 | .nt=>rfl
 | .an=>rfl
 | .or=>rfl
 | .tr t=>by cases t<;>rfl
theorem aju {t:Sn}{k:S}:oJ h (sd t) (.str k)=some false:=by cases t<;>rfl
noncomputable def wv (t:Sn):List (Bool×Sn)->List It
 | []=>[.tr t]
 | (b,u)::l=>.tr t::(if b then .an else .or)::wv u l
theorem Hg:∀{b:List It} {p:Sn×List (Bool×Sn)},fJ b=some p->b=wv p.1 p.2
 | [],p,e=>by cases e
 | .nt::_,p,e=>by cases e
 | .an::_,p,e=>by cases e
 | .or::_,p,e=>by cases e
 | [.tr t],p,e=>by cases e;rfl
 | .tr t::.nt::_,p,e=>by cases e
 | .tr t::.tr _::_,p,e=>by cases e
 | .tr t::.an::r,p,e=>by
  change (fJ r).map _=some p at e;obtain ⟨q,e1,rfl⟩:=Option.map_eq_some_iff.mp e;rw[Hg e1];rfl
 | .tr t::.or::r,p,e=>by
  change (fJ r).map _=some p at e;obtain ⟨q,e1,rfl⟩:=Option.map_eq_some_iff.mp e;rw[Hg e1];rfl
theorem Nr {t:Sn}:∀{l:List (Bool×Sn)},(wv t l).length=2 * l.length+1:=by
 intro l
 induction l generalizing t with
 | nil=>rfl
 | cons x l ih=>obtain ⟨b,u⟩:=x;simp only[wv,List.length_cons,ih];omega
theorem agl {t:Sn}:∀{l:List (Bool×Sn)} {j:Nat} {x:It},(wv t l)[j]?=some x->vQ x=(j % 2 == 1):=by
 intro l
 induction l generalizing t with
 | nil=>
  intro j x e;cases j with
  | zero=>cases e;rfl
  | succ j=>cases e
 | cons y l ih=>
  obtain ⟨b,u⟩:=y;intro j x e
  match j with
  | 0=>cases e;rfl
  | 1=>
   simp only[wv,List.getElem?_cons_succ,List.getElem?_cons_zero,Option.some.injEq]at e;rw[<-e];cases b<;>rfl
  | j+2=>
   have:=ih (t:=u) (j:=j) (x:=x) (by simpa [wv] using e);rw[this,Nat.add_mod_right]
theorem ajv {t:Sn}:∀{l:List (Bool×Sn)} {j:Nat} {b:Bool} {u:Sn},l[j]?=some (b,u)->(wv t l)[2 * j+1]?=some (if b then .an else .or)/\(wv t l)[2 * j+2]?=some (.tr u):=by
 intro l
 induction l generalizing t with
 | nil=>intro j b u e;cases e
 | cons y l ih=>
  obtain ⟨b',u'⟩:=y;intro j b u e;cases j with
  | zero=>
   cases e;refine ⟨rfl,?_⟩;show (wv u' l)[0]?=_;cases l with
   | nil=>rfl
   | cons z l=>obtain ⟨_,_⟩:=z;rfl
  | succ j=>
   have:=ih (t:=u') (j:=j) (b:=b) (u:=u) (by simpa using e);exact this
theorem Tq:∀{b:List It},(∀x∈b,x≠.nt)->(∀(j:Nat) (x:It),b[j]?=some x->vQ x=(j % 2 == 1))->b.length % 2=1->∃p,fJ b=some p
 | [],_,_,h=>by simp at h
 | .nt::_,hn,_,_=>absurd rfl (hn _ (by simp))
 | .an::_,_,h,_=>by have:=h 0 _ rfl;simp[vQ]at this
 | .or::_,_,h,_=>by have:=h 0 _ rfl;simp[vQ]at this
 | [.tr t],_,_,_=>⟨_,rfl⟩
 | .tr t::.nt::_,hn,_,_=>absurd rfl (hn _ (by simp))
 | .tr t::.tr _::_,_,h,_=>by have:=h 1 _ rfl;simp[vQ]at this
 | .tr t::.an::r,hn,h,hl=>by
  obtain ⟨p,e⟩:=Tq (b:=r) (λx hx=>hn x (by simp[hx])) (λj x e=>by have:=h (j+2) x (by simpa using e);rwa [Nat.add_mod_right]at this) (by simp at hl;omega);exact ⟨_,by show (fJ r).map _=_;rw[e];rfl⟩
 | .tr t::.or::r,hn,h,hl=>by
  obtain ⟨p,e⟩:=Tq (b:=r) (λx hx=>hn x (by simp[hx])) (λj x e=>by have:=h (j+2) x (by simpa using e);rwa [Nat.add_mod_right]at this) (by simp at hl;omega);exact ⟨_,by show (fJ r).map _=_;rw[e];rfl⟩
theorem wM:∀{its b:List It},NF its=some b->(∀x∈b,x≠.nt)/\b.length<=its.length
 | [],b,e=>by cases e;exact ⟨by simp,by simp⟩
 | .nt::r,b,e=>by
  cases er:NF r with
  | none=>simp[NF,er]at e
  | some b'=>
   obtain ⟨h1,h2⟩:=wM er;simp only[NF,er]at e;split at e
   ·rename_i t r' z;cases z;cases e;refine ⟨λx hx=>?_,by simp at h2 ⊢;omega⟩;rcases List.mem_cons.mp hx with rfl | hx
    ·exact λz=>by cases z
    ·exact h1 x (by simp[hx])
   ·cases e
 | .an::r,b,e=>by
  obtain ⟨b',er,rfl⟩:=Option.map_eq_some_iff.mp (show (NF r).map _=some b from e);obtain ⟨h1,h2⟩:=wM er;refine ⟨λx hx=>?_,by simp;omega⟩;rcases List.mem_cons.mp hx with rfl | hx
  ·exact λz=>by cases z
  ·exact h1 x hx
 | .or::r,b,e=>by
  obtain ⟨b',er,rfl⟩:=Option.map_eq_some_iff.mp (show (NF r).map _=some b from e);obtain ⟨h1,h2⟩:=wM er;refine ⟨λx hx=>?_,by simp;omega⟩;rcases List.mem_cons.mp hx with rfl | hx
  ·exact λz=>by cases z
  ·exact h1 x hx
 | .tr t::r,b,e=>by
  obtain ⟨b',er,rfl⟩:=Option.map_eq_some_iff.mp (show (NF r).map _=some b from e);obtain ⟨h1,h2⟩:=wM er;refine ⟨λx hx=>?_,by simp;omega⟩;rcases List.mem_cons.mp hx with rfl | hx
  ·exact λz=>by cases z
  ·exact h1 x hx
theorem Xe {r:List It}:∀{xs:List It},NF r=none->NF (xs++r)=none
 | [],h=>h
 | x::xs,h=>by
  have:=Xe (xs:=xs) h;cases x<;>simp only[List.cons_append,NF,this,Option.map_none]
noncomputable def fo:List Sn->Option Sn
 | []=>none
 | x::xs=>some (xs.foldl .or x)
theorem Q0:∀{ini:List Sn} {l:Sn},fo (ini++[l])=some (jo (fo ini) l)
 | [],l=>rfl
 | x::xs,l=>by
  show some ((xs++[l]).foldl .or x)=_;rw[List.foldl_append];rfl
theorem ac8 {acc bK:Option Sn}{w:Sn}:∀{l:List (Bool×Sn)},comb acc bK w l=comb acc none (ja bK w) l
 | []=>rfl
 | (true,_)::_=>rfl
 | (false,_)::_=>rfl
theorem ac9 {a:Nat}{t:Sn}{l:List (Bool×Sn)}{x1 x2 x3:Option D}(ha:h[a]?=some (.lst ((wv t l).map iD)))(hl:l.length<=1000)(q:∀h',h<+:h'->Q (sd (comb none none t l)) h'):
  bN sb (aD sb P d) E rA {nx:=λ_ h=>Q .non h,rt:=Q} [some (.ref a),x1,x2,x3,none,none,none] h:=by
 have a0:cB ((wv t l).map iD) 0=some (sd t):=by
  rw[gH (by decide)];cases l with
  | nil=>rfl
  | cons y l=>obtain ⟨_,_⟩:=y;rfl
 simp! only[rA,aQ ha,a0,BZ];have hln:((wv t l).map iD).length=2 * l.length+1:=by rw[List.length_map,Nr]
 have ha1:∀o,(h++[o])[a]?=some (.lst ((wv t l).map iD)):=λo=>aK ha;refine jk (xs:=(List.range l.length).map λj=>.int ((2 * j+1:Nat):Int)) (J:=uH 1 2 l.length) (vs:=[.int 1,.int (((wv t l).map iD).length:Nat),.int 2]) (h1:=h++[.lst [sd t]])
  (λi σ h'=>∃(ini:List Sn) (last:Sn) (x3:Option D),h'=h++[.lst ((ini++[last]).map sd)]/\ini.length<=i/\comb (fo ini) none last (l.drop i)=comb none none t l/\σ=[some (.ref a),x1,x2,x3,some (.ref h.length),none,none])
  (λQ q=>by simp! only[gF (ha1 _)];exact q) ?_ ⟨[],t,x3,rfl,by simp,rfl,rfl⟩ ?_ ?_ ?_
 ·simp only[bU,iR];have ok:Pz 1 (((wv t l).map iD).length:Nat) 2=true:=HN.mpr (by rw[hln];omega);rw[if_pos ok];congr 1;rw[hln];by_cases h0:l.length=0
  ·rw[if_neg (by omega)];rw[h0]
  ·rw[if_pos (by omega)];congr 1;omega
 ·rintro i σ h' hi _;rw[List.length_map,List.length_range]at hi;unfold uH;by_cases hlt:i < l.length
  ·rw[if_pos hlt,List.getElem?_map,List.getElem?_range hlt,Option.map_some];congr 3;omega
  ·rw[if_neg hlt,List.getElem?_eq_none (by simp;omega)]
 ·rintro i v σ h' ev ⟨ini,last,x3,rfl,hin,ec,rfl⟩;have hlt:i < l.length:=by have:=(List.getElem?_eq_some_iff.mp ev).1;simpa using this
  rw[List.getElem?_map,List.getElem?_range hlt]at ev;simp only[Option.map_some,Option.some.injEq]at ev;subst ev;obtain ⟨b,u,hbu⟩:∃b u,l[i]=(b,u):=⟨_,_,rfl⟩
  have e1:l.drop i=(b,u)::l.drop (i+1):=by rw[List.drop_eq_getElem_cons hlt,hbu]
  obtain ⟨w1,w2⟩:=ajv (t:=t) (l:=l) (j:=i) (b:=b) (u:=u) (by rw[List.getElem?_eq_getElem hlt,hbu]);have a1:cB ((wv t l).map iD) ((2 * i+1:Nat):Int)=some (iD (if b then .an else .or)):=by rw[uX,List.getElem?_map,w1];rfl
  have a2:cB ((wv t l).map iD) (((2 * i+1:Nat):Int)+1)=some (sd u):=by
   rw[show ((2 * i+1:Nat):Int)+1=((2 * i+2:Nat):Int) by omega,uX,List.getElem?_map,w2];rfl
  have em:(ini++[last]).map sd=ini.map sd++[sd last]:=by simp
  refine ⟨_,rfl,?_⟩;rw[e1]at ec;cases b with
  | true=>
   have a1':cB ((wv t l).map iD) ((2 * i+1:Nat):Int)=some (.str (tx "and")):=a1;rw[em];have hp:(h++[AO.lst (ini.map sd)])[a]?=some (.lst ((wv t l).map iD)):=ha1 _;simp! only[q_,aQ (ha1 _),a1',beq_self_eq_true,BW,cX aC,DQ aC,dB,aQ hp,a2,dI aC (show (ini.map sd).length < 16777216 by rw[List.length_map];omega)];refine ⟨ini,.an last u,_,by simp[sd],by omega,?_,rfl⟩;rw[<-ec];show _=comb (fo ini) (some (ja none last)) u (l.drop (i+1));rw[ac8 (bK:=some (ja none last))];rfl
  | false=>
   have a1':cB ((wv t l).map iD) ((2 * i+1:Nat):Int)=some (.str (tx "or")):=a1;have no:(tx "or" == tx "and")=false:=by decide
   simp! only[q_,aQ (ha1 _),a1',no,BX,cX aC,a2,dI aC (show ((ini++[last]).map sd).length < 16777216 by simp;omega),dB];refine ⟨ini++[last],u,_,by simp,by simp;omega,?_,rfl⟩;rw[<-ec,Q0];rfl
 ·rintro σ h' ⟨ini,last,x3,rfl,hin,ec,rfl⟩;rw[List.length_map,List.length_range,List.drop_length]at ec;rw[<-ec]at q;obtain ⟨x,xs,exs⟩:∃x xs,ini++[last]=x::xs:=by
   cases ini with
   | nil=>exact ⟨last,[],rfl⟩
   | cons y ys=>exact ⟨y,ys++[last],rfl⟩
  have hxl:xs.length<=1000:=by
   have:=congrArg List.length exs;simp at this hin;omega
  have ef:comb (fo ini) none last []=xs.foldl .or x:=by
   show jo (fo ini) last=_;have:=Q0 (ini:=ini) (l:=last);rw[exs]at this;exact (Option.some.inj this).symm
  rw[ef]at q;rw[exs];have a0:cB ((x::xs).map sd) 0=some (sd x):=by rw[gH (by decide)];rfl
  have sl:prim sb .K8 [.ref h.length,.int 1] (h++[.lst ((x::xs).map sd)])=some (.ref (h++[AO.lst ((x::xs).map sd)]).length,(h++[.lst ((x::xs).map sd)])++[.lst (xs.map sd)]):=by
   show dO (.ref h.length) (some 1) none _=_;unfold dO;simp only[aC];have ec2:cut ((x::xs).map sd) (some 1) none=xs.map sd:=by
    simp only[cut,bL];rw[if_neg (by decide),List.map_cons,List.length_cons];have:(min (1:Int) ((xs.map sd).length+1:Nat)).toNat=1:=by omega
    rw[this];simp only[List.drop_succ_cons,List.drop_zero,Nat.add_sub_cancel];exact List.take_of_length_le (Nat.le_refl _)
   rw[ec2];exact if_pos (by rw[List.length_map];show xs.length<=16777216;omega)
  generalize (x::xs).map sd=L at a0 sl ⊢;simp! only[BR,aQ aC,a0,BP];refine jk (xs:=xs.map sd) (J:=gD (h++[AO.lst (L)]).length) (vs:=[.ref (h++[AO.lst (L)]).length]) (h1:=(h++[.lst (L)])++[.lst (xs.map sd)])
   (λi σ h'=>h'=(h++[.lst (L)])++[.lst (xs.map sd)]/\∃x6,σ=[some (.ref a),x1,x2,x3,some (.ref h.length),some (sd ((xs.take i).foldl .or x)),x6]) (λQ q=>?_) (G3 aC) ⟨rfl,none,rfl⟩ ?_ ?_ ?_
  ·simp! only[sl];exact q
  ·rintro i σ h' _ ⟨rfl,_⟩;simp only[gD,aC]
  ·rintro i v σ h' ev ⟨rfl,x6,rfl⟩;rw[List.getElem?_map]at ev;cases et:xs[i]? with
   | none=>rw[et]at ev;cases ev
   | some u=>
    rw[et]at ev;cases ev;refine ⟨_,rfl,?_⟩;simp! only[BL];refine ⟨some (sd u),?_⟩;rw[List.take_succ,et,Option.toList_some,List.foldl_append];rfl
  ·rintro σ h' ⟨rfl,x6,rfl⟩;rw[List.length_map,List.take_length];simp! only[BK];exact q _ (pre_app (List.prefix_append _ _))
theorem ac_ {p q:Bool}:oJ h (.bl p) (.bl q)=some (p == q):=rfl
theorem ada {a:Nat}{b:List It}{x1 x2:Option D}(ha:h[a]?=some (.lst (b.map iD)))(hn:∀x∈b,x≠.nt)(hl:b.length<=1000)(q:∀h',h<+:h'->Q (oD ((fJ b).map λp=>comb none none p.1 p.2)) h'):
  bN sb (aD sb P d) E n_ {nx:=λ_ h=>Q .non h,rt:=Q} [some (.ref a),x1,x2,none,none,none,none] h:=by
 simp! only[n_];have bad:(∀p,fJ b≠some p)->Q .non h:=λhb=>by
  have:fJ b=none:=by
   cases e:fJ b with
   | none=>rfl
   | some p=>exact absurd e (hb p)
  rw[this]at q;exact q h iB
 refine gZ (lo:=0) (n:=b.length) (vs:=[.int b.length]) (h1:=h) (λi σ h'=>h'=h/\(∀(j:Nat) (x:It),j < i->b[j]?=some x->vQ x=(j % 2 == 1))/\∃x3,σ=[some (.ref a),x1,x2,x3,none,none,none]) (λQ q=>by simp! only[gF ha,List.length_map];exact q) (by simp[bU,jh,iR,ji,jj,gY,okR];omega) ⟨rfl,λj x z=>by omega,none,rfl⟩ ?_ ?_
 ·rintro i σ h' hi ⟨rfl,hj,x3,rfl⟩;refine ⟨_,rfl,?_⟩;have a1:cB (b.map iD) (0+(i:Int))=some (iD b[i]):=by
   rw[gH (by omega),show (0+(i:Int)).toNat=i by omega,List.getElem?_map,List.getElem?_eq_getElem hi];rfl
  have e2:((0+(i:Int)) % 2 == 1)=(i % 2 == 1):=by
   by_cases h1:i % 2=1
   ·have:(0+(i:Int)) % 2=1:=by omega
    rw[this,h1];rfl
   ·have h2:¬(0+(i:Int)) % 2=1:=by omega
    rw[beq_false_of_ne h1,beq_false_of_ne h2]
  simp! only[yE,aQ ha,a1,Xd,e2,ac_];by_cases hc:vQ b[i]=(i % 2 == 1)
  ·have:(vQ b[i] == (i % 2 == 1))=true:=by rw[hc];simp
   simp! only[this];refine ⟨λj x hj1 ex=>?_,_,rfl⟩;by_cases hji:j < i
   ·exact hj j x hji ex
   ·obtain rfl:j=i:=by omega
    rw[List.getElem?_eq_getElem hi]at ex;cases ex;exact hc
  ·have:(vQ b[i] == (i % 2 == 1))=false:=beq_false_of_ne hc;simp! only[this,yD];refine bad λp e=>hc ?_;have:=Hg e;exact agl (t:=p.1) (l:=p.2) (j:=i) (x:=b[i]) (by rw[<-this,List.getElem?_eq_getElem hi])
 ·rintro σ h' ⟨rfl,hj,x3,rfl⟩;simp! only[yC,gF ha,List.length_map];by_cases ho:b.length % 2=1
  ·have e0:((b.length:Int) % 2 == 0)=false:=beq_false_of_ne (by omega);simp! only[e0];obtain ⟨p,ep⟩:=Tq hn (λj x e=>hj j x (List.getElem?_eq_some_iff.mp e).1 e) ho;have eb:=Hg ep;rw[ep]at q;rw[eb]at ha hl;rw[Nr]at hl;exact ac9 ha (by omega) q
  ·have e0:((b.length:Int) % 2 == 0)=true:=by
    have:(b.length:Int) % 2=0:=by omega
    rw[this];rfl
   simp! only[e0,yx];refine bad λp e=>ho ?_;rw[Hg e,Nr];omega
theorem Xf {a:Nat}{its:List It}(ha:h[a]?=some (.lst (its.map iD)))(hl:its.length<=1000)(q:∀h',h<+:h'->Q (oD (FL its)) h'):aD sb P (d+1) 16 [.ref a] h Q E:=by
 refine wp_call rfl rfl ?_;simp! only[yJ,yI];have bad:NF its=none->∀h',h<+:h'->Q .non h':=λe h' pr=>by
  have:FL its=none:=by unfold FL;rw[e];rfl
  rw[this]at q;exact q h' pr
 refine jk (xs:=(its.map iD).reverse) (J:=Gi a (its.map iD).length) (vs:=[.ref a]) (h1:=h++[.lst []]) (λi σ h'=>∃(b:List It) (x2:Option D),NF (its.drop (its.length - i))=some b/\h'=h++[.lst (b.map iD).reverse]/\σ=[some (.ref a),some (.ref h.length),x2,none,none,none,none])
  (λQ q=>by simp! only;exact q) ?_ ⟨[],none,by simp[NF],rfl,rfl⟩ ?_ ?_ ?_
 ·simp only[bU,gY,aK ha]
 ·rintro i σ h' hi ⟨b,x2,_,rfl,_⟩;rw[List.length_reverse]at hi;simp only[Gi,aK ha,if_true];by_cases hlt:i < (its.map iD).length
  ·rw[if_pos hlt,List.getElem?_reverse hlt]
  ·rw[if_neg hlt,List.getElem?_eq_none (by rw[List.length_reverse];omega)]
 ·rintro i v σ h' ev ⟨b,x2,eb,rfl,rfl⟩;have hi:i < its.length:=by have:=(List.getElem?_eq_some_iff.mp ev).1;simpa using this
  rw[List.getElem?_reverse (by simpa using hi),List.length_map,List.getElem?_map]at ev;have hk:its.length - 1 - i < its.length:=by omega
  rw[List.getElem?_eq_getElem hk,Option.map_some,Option.some.injEq]at ev;subst ev;have ed:its.drop (its.length - (i+1))=its[its.length - 1 - i]::its.drop (its.length - i):=by
   rw[show its.length - (i+1)=its.length - 1 - i by omega,List.drop_eq_getElem_cons hk,show its.length - 1 - i+1=its.length - i by omega]
  have hlb:b.length<=1000:=Nat.le_trans (wM eb).2 (by simp;omega);have agn:its=its.take (its.length - (i+1))++its.drop (its.length - (i+1)):=(List.take_append_drop _ _).symm;have Ea:NF (its.drop (its.length - (i+1)))=none->NF its=none:=λz=>by rw[agn];exact Xe z
  rw[ed]at Ea ⊢;generalize its[its.length - 1 - i]=x at Ea ⊢;generalize its.drop (its.length - i)=r at eb Ea ⊢;have ago:((b.map iD).reverse).length < 16777216:=by simp;omega
  have keep:∀y:It,y≠.nt->NF (y::r)=some (y::b):=λy hy=>by
   cases y with
   | nt=>exact absurd rfl hy
   | _=>simp only[NF,eb,Option.map_some]
  refine ⟨_,rfl,?_⟩;have other:x≠.nt->oJ (h++[AO.lst (b.map iD).reverse]) (iD x) (.str (tx "not"))=some false:=λhx=>by
   cases x with
   | nt=>exact absurd rfl hx
   | an=>rfl
   | or=>rfl
   | tr t=>exact aju
  by_cases hx:x=.nt
  ·subst hx;have e1:oJ (h++[AO.lst (b.map iD).reverse]) (iD .nt) (.str (tx "not"))=some true:=rfl;cases b with
   | nil=>
    have e0:((((([]:List It).map iD).reverse.length:Nat):Int) == 0)=true:=rfl;generalize (([]:List It).map iD).reverse=L at e0 e1 ⊢;simp! only[jC,e1,oh,gF aC,e0,jB];exact bad (Ea (by simp only[NF,eb])) _ (List.prefix_append _ _)
   | cons y b=>
    have em:((y::b).map iD).reverse=(b.map iD).reverse++[iD y]:=by simp
    have hlr:((b.map iD).reverse).length < 16777216:=by simp at hlb ⊢;omega
    rw[em]at e1 ⊢;have fin:∀t,y=.tr t->∃b' x2,NF (.nt::r)=some b'/\h++[AO.lst ((b.map iD).reverse++[.tup [.str (tx "not"),sd t]])]=h++[AO.lst (b'.map iD).reverse]/\[some (D.ref a),some (D.ref h.length),some (iD .nt),none,none,none,none]=[some (D.ref a),some (D.ref h.length),x2,none,none,none,none]:=λt ht=>by
     subst ht;exact ⟨.tr (.nt t)::b,_,by simp only[NF,eb],by simp[iD,sd],rfl⟩
    have nb:(∀t,y≠.tr t)->NF its=none:=λhy=>Ea (by
     cases y with
     | tr t=>exact absurd rfl (hy t)
     | _=>simp only[NF,eb])
    have ny:y≠.nt:=(wM eb).1 _ (by simp);clear keep other Ea eb ed agn ago em;generalize (b.map iD).reverse=L at e1 fin hlr ⊢;have e0:((((L++[iD y]).length:Nat):Int) == 0)=false:=beq_false_of_ne (by simp;omega);have ea:cB (L++[iD y]) (-1)=some (iD y):=by rw[Az];simp
    simp! only[jC,e1,oh,gF aC,e0,aQ aC,ea,Xd];cases y with
    | tr t=>
     simp! only[vQ,yG,cX aC,DQ aC,dB,dI aC hlr];exact fin t rfl
    | nt=>exact absurd rfl ny
    | an=>
     simp! only[vQ,jB];exact bad (nb (λt z=>by cases z)) _ (List.prefix_append _ _)
    | or=>
     simp! only[vQ,jB];exact bad (nb (λt z=>by cases z)) _ (List.prefix_append _ _)
  ·simp! only[jC,other hx,yH,cX aC,dI aC ago,dB];exact ⟨x::b,_,keep x hx,by simp,rfl⟩
 ·rintro σ h' ⟨b,x2,eb,rfl,rfl⟩;rw[List.length_reverse,List.length_map,Nat.sub_self,List.drop_zero]at eb;obtain ⟨hn,hlb⟩:=wM eb;have lr:prim sb .Ri [.ref h.length] (h++[.lst (b.map iD).reverse])=some (.ref (h++[AO.lst (b.map iD).reverse]).length,(h++[.lst (b.map iD).reverse])++[.lst (b.map iD)]):=by
   show (match (h++[AO.lst (b.map iD).reverse])[h.length]? with | some (.lst xs)=>newL xs.reverse _ | _=>none)=_;rw[aC];show newL (b.map iD).reverse.reverse _=_;rw[List.reverse_reverse];exact if_pos (by rw[List.length_map];show b.length<=16777216;omega)
  simp! only[yF,lr];refine ada aC hn (by omega) λh' pr=>?_;have:FL its=(fJ b).map λp=>comb none none p.1 p.2:=by unfold FL;rw[eb];rfl
  rw[this]at q;exact q h' ((pre_app (List.prefix_append _ _)).trans pr)
noncomputable def vL (s:List (List It)) (ts:List S):Option Sn:=if (∀t∈ts,t≠sB->G9 (kt t)=true->oX t=true) then (rL s (kinds ts)).bind Nk else none
theorem amk {s:List (List It)}{ts:List S}:vL s (sB::ts)=vL s ts:=by
 unfold vL;rw[iM];by_cases hw:∀t∈ts,t≠sB->G9 (kt t)=true->oX t=true
 ·rw[if_pos hw,if_pos (λt ht=>by rcases List.mem_cons.mp ht with rfl | ht;exact λz=>absurd rfl z;exact hw t ht)]
 ·rw[if_neg hw,if_neg (λz=>hw λt ht=>z t (by simp[ht]))]
theorem Ja {s:List (List It)}{t:S}{ts:List S}(h1:t≠sB)(h2:G9 (kt t)=true->oX t=true):vL s (t::ts)=(stL s (kt t)).bind λs'=>vL s' ts:=by
 unfold vL;rw[gn h1];by_cases hw:∀t∈ts,t≠sB->G9 (kt t)=true->oX t=true
 ·rw[if_pos (λx ht=>by rcases List.mem_cons.mp ht with rfl | ht;exact λ_=>h2;exact hw x ht)];show ((stL s (kt t)).bind _).bind _=_;cases stL s (kt t) with
  | none=>rfl
  | some s'=>simp only[Option.bind_some,if_pos hw]
 ·rw[if_neg (λz=>hw λx ht=>z x (by simp[ht]))];cases stL s (kt t) with
  | none=>rfl
  | some s'=>simp only[Option.bind_some,if_neg hw]
theorem agp {s:List (List It)}{t:S}{ts:List S}(h1:t≠sB)(h2:G9 (kt t)=true)(h3:oX t=false):vL s (t::ts)=none:=by
 unfold vL;rw[if_neg];intro z;have:=z t (by simp) h1 h2;rw[h3]at this;cases this
theorem adb {t:S}:t_ t=if bl sB (lt t)=true then vL [[]] (lt t) else none:=by
 unfold t_ vL;by_cases h1:bl sB (lt t)=true
 ·rw[if_pos h1];by_cases h2:∀x∈lt t,x≠sB->G9 (kt x)=true->oX x=true
  ·rw[if_pos ⟨h1,h2⟩,if_pos h2]
  ·rw[if_neg (λz=>h2 z.2),if_neg h2]
 ·rw[if_neg h1,if_neg (λz=>h1 z.1)]
inductive vR (h:AH):List Nat->List (List It)->Prop
 | nil:vR h [] []
 | cons {r:Nat} {c:List It} {rs:List Nat} {s:List (List It)}:h[r]?=some (.lst (c.map iD))->vR h rs s->vR h (r::rs) (c::s)
theorem vR.mono {h h':AH}{rs:List Nat}{s:List (List It)}(k:vR h rs s)(H:∀(n:Nat) (o:AO),n∈rs->h[n]?=some o->h'[n]?=some o):vR h' rs s:=by
 induction k with
 | nil=>exact .nil
 | cons a _ ih=>exact .cons (H _ _ (by simp) a) (ih λn o hn e=>H n o (by simp[hn]) e)
theorem vR.len {h:AH}{rs:List Nat}{s:List (List It)}(k:vR h rs s):rs.length=s.length:=by
 induction k with
 | nil=>rfl
 | cons _ _ ih=>simp[ih]
theorem vR.lt {h:AH}{rs:List Nat}{s:List (List It)}(k:vR h rs s):∀n∈rs,n < h.length:=by
 induction k with
 | nil=>intro n hn;cases hn
 | cons a _ ih=>
  intro n hn;rcases List.mem_cons.mp hn with rfl | hn
  ·exact qQ a
  ·exact ih n hn
structure SI (h0 h:AH)(sa:Nat)(rs:List Nat)(s:List (List It))(n:Nat):Prop where
 pre:h0<+:h
 st:h[sa]?=some (.lst (rs.reverse.map .ref))
 sk:vR h rs s
 nd:rs.Nodup
 ns:sa∉rs
 lo:h0.length<=sa/\∀r∈rs,h0.length<=r
 b:rs.length<=n+1/\∀c∈s,c.length<=n
theorem SI.push {h0 h:AH}{sa r:Nat}{rs:List Nat}{c:List It}{s:List (List It)}{n:Nat}(k:SI h0 h sa (r::rs) (c::s) n)(x:It):SI h0 (h.set r (.lst (c.map iD++[iD x]))) sa (r::rs) ((c++[x])::s) (n+1):=by
 obtain ⟨k1,k2,k3,k4,k5,k6,k7⟩:=k;have hr:h[r]?=some (.lst (c.map iD)):=by cases k3 with | cons a _=>exact a
 have hs:vR h rs s:=by cases k3 with | cons _ b=>exact b
 have nr:r∉rs:=(List.nodup_cons.mp k4).1;refine ⟨qD k1 (k6.2 r (by simp)),cM k2 (λz=>k5 (by simp[z])),.cons (by rw[get_set hr];simp) (hs.mono λm o hm e=>cM e (λz=>nr (z ▸ hm))),k4,k5,k6,by have:=k7.1;omega,λc' hc=>?_⟩;rcases List.mem_cons.mp hc with rfl | hc
 ·have:=k7.2 c (by simp);simp;omega
 ·have:=k7.2 c' (by simp[hc]);omega
theorem SI.open_ {h0 h:AH}{sa:Nat}{rs:List Nat}{s:List (List It)}{n:Nat}(k:SI h0 h sa rs s n):SI h0 ((h++[AO.lst []]).set sa (AO.lst (rs.reverse.map D.ref++[D.ref h.length]))) sa (h.length::rs) ([]::s) (n+1):=by
 obtain ⟨k1,k2,k3,k4,k5,k6,k7⟩:=k;have ls:=qQ k2;have k2':(h++[AO.lst []])[sa]?=some (.lst (rs.reverse.map .ref)):=aK k2;refine ⟨qD (pre_app k1) k6.1,by rw[get_set k2'];simp,.cons (cM aC (by omega)) (k3.mono λm o hm e=>cM (aK e) (λz=>k5 (z ▸ hm))),List.nodup_cons.mpr ⟨λz=>absurd (k3.lt _ z) (Nat.lt_irrefl _),k4⟩,λz=>?_,⟨k6.1,λr hr=>?_⟩,by have:=k7.1;simp;omega,λc hc=>?_⟩
 ·rcases List.mem_cons.mp z with z | z
  ·omega
  ·exact k5 z
 ·rcases List.mem_cons.mp hr with rfl | hr
  ·exact DP k1
  ·exact k6.2 r hr
 ·rcases List.mem_cons.mp hc with rfl | hc
  ·simp
  ·have:=k7.2 c hc;omega
theorem SI.pop {h0 h h':AH}{sa r:Nat}{rs:List Nat}{c:List It}{s:List (List It)}{n:Nat}(k:SI h0 h sa (r::rs) (c::s) n)(pr:h.set sa (.lst (rs.reverse.map .ref))<+:h'):SI h0 h' sa rs s n:=by
 obtain ⟨k1,k2,k3,k4,k5,k6,k7⟩:=k;have hs:vR h rs s:=by cases k3 with | cons _ b=>exact b
 refine ⟨(qD k1 k6.1).trans pr,aP pr (get_set k2),hs.mono λm o hm e=>aP pr (cM e (λz=>k5 (by simp[z,hm]))),(List.nodup_cons.mp k4).2,λz=>k5 (by simp[z]),⟨k6.1,λr hr=>k6.2 r (by simp[hr])⟩,by have:=k7.1;simp at this;omega,λc hc=>k7.2 c (by simp[hc])⟩
theorem ade {t:S}(hl:t.length<=5000)(q1:120 < t.length->∀h' r,h<+:h'->h'[r]?=some (.lst [.int 1])->Q (.ref r) h')(q2:t.length<=120->t_ t=none->∀h' r,h<+:h'->h'[r]?=some (.lst [.int 2])->Q (.ref r) h')
  (q3:∀s,t.length<=120->t_ t=some s->∀h',h<+:h'->Q (sd s) h'):aD sb P (d+2) 18 [.str t] h Q E:=by
 refine wp_call rfl rfl ?_;simp! only[yU];refine agj hl ?_;have ht0:(h++[AO.lst ((lt t).map .str)])[h.length]?=some (.lst ((lt t).map .str)):=aC;have JX:h<+:h++[AO.lst ((lt t).map .str)]:=List.prefix_append _ _;generalize h.length=ta at ht0 ⊢;generalize h++[AO.lst ((lt t).map .str)]=h0 at ht0 JX ⊢;by_cases hlen:120 < t.length
 ·have e1:decide ((120:Int) < (t.length:Int))=true:=decide_eq_true (by omega);simp! only[ou,e1,yS];exact q1 hlen _ _ (pre_app JX) aC
 have hlen:t.length<=120:=by omega
 have e1:decide ((120:Int) < (t.length:Int))=false:=decide_eq_false (by omega);have ltl:(lt t).length<=120:=Nat.le_trans Xc hlen;simp! only[ou,e1,yR];refine ZG ht0 (by omega) λh1 fH=>?_;have ZJ:=JX.trans fH;have ht1:=aP fH ht0;rw[adb]at q2 q3;cases hb:bl sB (lt t) with
 | false=>
  rw[hb]at q2;simp! only[yQ];exact q2 hlen rfl _ _ (pre_app ZJ) aC
 | true=>
  rw[hb]at q2 q3;simp only[if_true]at q2 q3;simp! only[yP];have two:∀h',h<+:h'->vL [[]] (lt t)=none->Q (.ref h'.length) (h'++[.lst [.int 2]]):=λh' pr e=>q2 hlen e _ _ (pre_app pr) aC;clear q2;have I0:SI h ((h1++[.lst []])++[.lst [.ref h1.length]]) (h1++[AO.lst []]).length [h1.length] [[]] 0:=by
   refine ⟨pre_app (pre_app ZJ),aC,.cons (aK aC) .nil,by simp,by simp,?_,by simp,by simp⟩;have:=DP ZJ;refine ⟨by simp;omega,λr hr=>?_⟩;rw[List.mem_singleton]at hr;omega
  have ht2:((h1++[AO.lst []])++[AO.lst [.ref h1.length]])[ta]?=some (.lst ((lt t).map .str)):=aK (aK ht1);have hta:ta < h1.length:=qQ ht1;have tsa:ta≠(h1++[AO.lst []]).length:=by simp;omega
  have trs:ta∉[h1.length]:=by simp;omega
  generalize (h1++[AO.lst []]).length=sa at I0 tsa ⊢;generalize [h1.length]=rs0 at I0 trs;generalize (h1++[AO.lst []])++[AO.lst [D.ref h1.length]]=h2 at I0 ht2 ⊢;generalize lt t=ts at *;simp! only[yO];refine jk (xs:=ts.map .str) (J:=gD ta) (vs:=[.ref ta]) (h1:=h2) (λi σ h'=>∃(rs:List Nat) (s:List (List It)) (x3 x4:Option D),SI h h' sa rs s i/\s≠[]/\ta∉rs/\h'[ta]?=some (.lst (ts.map .str))/\vL s (ts.drop i)=vL [[]] ts/\σ=[some (.str t),some (.ref ta),some (.ref sa),x3,x4])
   (λQ q=>by simp! only;exact q) (G3 ht2) ⟨rs0,[[]],none,none,I0,by simp,trs,ht2,rfl,rfl⟩ ?_ ?_ ?_
  ·rintro i σ h' _ ⟨rs,s,x3,x4,I,_,_,CV,_⟩;simp only[gD,CV]
  ·rintro i v σ h' ev ⟨rs,s,x3,x4,I,sne,tn,CV,ev2,rfl⟩;rw[List.getElem?_map]at ev;cases et:ts[i]? with
   | none=>rw[et]at ev;cases ev
   | some w=>
    rw[et]at ev;cases ev;have hi:=(List.getElem?_eq_some_iff.mp et).1;have e1:ts.drop i=w::ts.drop (i+1):=by
     rw[List.drop_eq_getElem_cons hi];congr 1;exact Option.some.inj ((List.getElem?_eq_getElem hi).symm.trans et)
    rw[e1]at ev2;generalize ts.drop (i+1)=rest at ev2 ⊢;refine ⟨_,rfl,?_⟩;obtain ⟨c,s',rfl⟩:=List.exists_cons_of_ne_nil sne;obtain ⟨r,rs',rfl⟩:∃r rs',rs=r::rs':=by
     have:=I.sk.len;cases rs with
     | nil=>cases this
     | cons r rs'=>exact ⟨r,rs',rfl⟩
    have hr:h'[r]?=some (.lst (c.map iD)):=by have:=I.sk;cases this with | cons a _=>exact a
    have em:(r::rs').reverse.map Z.D.ref=rs'.reverse.map .ref++[.ref r]:=by simp
    have hst:=I.st;rw[em]at hst;have top:cB (rs'.reverse.map Z.D.ref++[.ref r]) (-1)=some (.ref r):=by rw[Az];simp
    have hcl:c.length<=1000:=by have:=I.b.2 c (by simp);omega
    have hap:(c.map iD).length < 16777216:=by rw[List.length_map];omega
    have tr':ta≠r:=λz=>tn (by simp[z])
    -- an item is appended
    have item:∀(x:It) (x4:Option D),vL ((c++[x])::s') rest=vL [[]] ts->∃(rs:List Nat) (s:List (List It)) (x3 x4':Option D),SI h (h'.set r (.lst (c.map iD++[iD x]))) sa rs s (i+1)/\s≠[]/\ta∉rs/\(h'.set r (.lst (c.map iD++[iD x])))[ta]?=some (.lst (ts.map .str))/\vL s rest=vL [[]] ts/\[some (D.str t),some (D.ref ta),some (D.ref sa),some (D.str w),x4]=[some (D.str t),some (D.ref ta),some (D.ref sa),x3,x4']:=λx x4 e=>
     ⟨r::rs',(c++[x])::s',_,x4,I.push x,by simp,tn,cM CV (Ne.symm tr'),e,rfl⟩
    rcases Gf w with rfl | rfl | hj | hj | hj | ⟨k1,k2⟩
    ·rw[Ja Np (by rw[lE];intro z;cases z),lE]at ev2;have hll:(rs'.reverse.map Z.D.ref++[Z.D.ref r]).length < 16777216:=by have:=I.b.1;simp at this ⊢;omega
     have hpp:prim sb .append [.ref sa,.ref h'.length] (h'++[AO.lst []])=some (.non,(h'++[AO.lst []]).set sa (.lst (rs'.reverse.map Z.D.ref++[Z.D.ref r]++[Z.D.ref h'.length]))):=dI (aK hst) hll;simp! only[dY,beq_self_eq_true,Cm,cX hst,hpp];have I':=I.open_;rw[em]at I';refine ⟨h'.length::r::rs',[]::c::s',_,_,I',by simp,λz=>?_,cM (aK CV) (Ne.symm tsa),ev2,rfl⟩;rcases List.mem_cons.mp z with z | z
     ·have:=qQ CV;omega
     ·exact tn z
    ·rw[Ja IV (by rw[lF];intro z;cases z),lF]at ev2;change ((FL c).bind _).bind _=_ at ev2;have n1:(tx ")" == tx "(")=false:=by decide
     simp! only[dY,n1,fu,beq_self_eq_true,Cq,cX hst,DQ hst];have hr2:(h'.set sa (.lst (rs'.reverse.map .ref)))[r]?=some (.lst (c.map iD)):=cM hr (λz=>I.ns (by simp[z]));refine Xf hr2 hcl λh3 cY=>?_;have I3:=I.pop cY;have aml:=aP cY (cM CV (Ne.symm tsa));cases ef:FL c with
     | none=>
      rw[ef]at ev2;simp! only[oD,rF,fZ,rE];exact two h3 I3.pre ev2.symm
     | some tr=>
      rw[ef]at ev2;simp! only[oD,rF,jr,gF I3.st];cases rs' with
      | nil=>
       have es:s'=[]:=by
        have:=I3.sk.len;exact List.length_eq_zero_iff.mp this.symm
       subst es;have e0:((((([]:List Nat).reverse.map Z.D.ref).length:Nat):Int) == 0)=true:=rfl;have I3p:=I3.pre;clear I3 hst em top hr2 cY item;generalize ([]:List Nat).reverse.map Z.D.ref=L at e0 ⊢;simp! only[e0,rE];exact two h3 I3p ev2.symm
      | cons r1 Nt=>
       obtain ⟨c1,s1,rfl⟩:∃c1 s1,s'=c1::s1:=by
        have:=I3.sk;cases this with
        | cons _ _=>exact ⟨_,_,rfl⟩
       have hr1:h3[r1]?=some (.lst (c1.map iD)):=by have:=I3.sk;cases this with | cons a _=>exact a
       have agt:=I3.st;have em3:(r1::Nt).reverse.map Z.D.ref=Nt.reverse.map .ref++[.ref r1]:=by simp
       have agu:cB ((r1::Nt).reverse.map Z.D.ref) (-1)=some (.ref r1):=by rw[Az,em3];simp
       have e0:(((((r1::Nt).reverse.map Z.D.ref).length:Nat):Int) == 0)=false:=beq_false_of_ne (by simp;omega);have hc1:(c1.map iD).length < 16777216:=by have:=I3.b.2 c1 (by simp);rw[List.length_map];omega
       clear em hst top hr2;generalize (r1::Nt).reverse.map Z.D.ref=L at agt agu e0 ⊢;simp! only[e0,Cp,aQ agt,agu,cX hr1,dI hr1 hc1];have I4:=I3.push (.tr tr);have tn1:ta∉r1::Nt:=λz=>tn (by simp at z ⊢;exact .inr z);have Hh:vL ((c1++[It.tr tr])::s1) rest=vL [[]] ts:=ev2;exact ⟨r1::Nt,(c1++[It.tr tr])::s1,_,_,I4,by simp,tn1,cM aml (λz=>tn1 (by simp[z])),Hh,rfl⟩
    ·subst hj;rw[Ja Te (by rw[nD];intro z;cases z),nD]at ev2;have n1:(tx "not" == tx "(")=false:=by decide
     have n3:J3.contains (tx "not")=true:=by decide
     simp! only[dY,n1,fu,QS,gJ,Hf,n3,jD,aQ hst,top,cX hr,dI hr hap];exact item .nt _ ev2
    ·subst hj;rw[Ja af5 (by rw[jJ];intro z;cases z),jJ]at ev2;have n1:(tx "and" == tx "(")=false:=by decide
     have n3:J3.contains (tx "and")=true:=by decide
     simp! only[dY,n1,fu,QL,gJ,Hf,n3,jD,aQ hst,top,cX hr,dI hr hap];exact item .an _ ev2
    ·subst hj;rw[Ja af6 (by rw[jK];intro z;cases z),jK]at ev2;have n1:(tx "or" == tx "(")=false:=by decide
     have n3:J3.contains (tx "or")=true:=by decide
     simp! only[dY,n1,fu,QM,gJ,Hf,n3,jD,aQ hst,top,cX hr,dI hr hap];exact item .or _ ev2
    ·have nb:∀k:S,kt k≠kt w->(w == k)=false:=λk hk=>beq_false_of_ne λz=>hk (by rw[z]);have s1:=nb (tx ")") (by rw[k1,lF];exact λz=>by cases z);have s2:=nb (tx "(") (by rw[k1,lE];exact λz=>by cases z);have s3:J3.contains w=false:=by rw[Bool.eq_false_iff];exact λz=>k2 (List.contains_iff_mem.mp z)
     simp! only[dY,s2,fu,s1,gJ,Hf,s3,yN];by_cases hw:w=sB
     ·rw[hw,amk]at ev2;have eb:(w == tx " ")=true:=by rw[hw,qw];simp
      simp! only[eb];obtain ⟨i1,i2,i3,i4,i5,i6,i7⟩:=I;exact ⟨r::rs',c::s',_,_,⟨i1,i2,i3,i4,i5,i6,by have:=i7.1;omega,λc' hc=>by have:=i7.2 c' hc;omega⟩,by simp,tn,CV,ev2,rfl⟩
     ·have eb:(w == tx " ")=false:=by rw[qw];exact beq_false_of_ne hw
      simp! only[eb,yM];refine agk ?_;cases hlw:oX w with
      | false=>
       rw[agp hw (by rw[k1];rfl) hlw]at ev2;simp! only[yL];exact two h' I.pre ev2.symm
      | true=>
       rw[Ja hw (λ_=>hlw),k1]at ev2;simp! only[yK,aQ hst,top,cX hr,dI hr hap];exact item (.tr (.is w)) _ ev2
  ·rintro σ h' ⟨rs,s,x3,x4,I,sne,tn,CV,ev2,rfl⟩;rw[List.length_map,List.drop_length]at ev2;obtain ⟨c,s',rfl⟩:=List.exists_cons_of_ne_nil sne;obtain ⟨r,rs',rfl⟩:∃r rs',rs=r::rs':=by
    have:=I.sk.len;cases rs with
    | nil=>cases this
    | cons r rs'=>exact ⟨r,rs',rfl⟩
   have hr:h'[r]?=some (.lst (c.map iD)):=by have:=I.sk;cases this with | cons a _=>exact a
   have em:(r::rs').reverse.map Z.D.ref=rs'.reverse.map .ref++[.ref r]:=by simp
   have hst:=I.st;rw[em]at hst;have hcl:c.length<=1000:=by have:=I.b.2 c (by simp);rw[List.length_map]at this;omega
   have Hh:(FL c).bind (λt=>if s'.isEmpty then some t else none)=vL [[]] ts:=ev2;simp! only[Ck,cX hst,DQ hst];have hr2:(h'.set sa (.lst (rs'.reverse.map .ref)))[r]?=some (.lst (c.map iD)):=cM hr (λz=>I.ns (by simp[z]));refine Xf hr2 hcl λh3 cY=>?_;have I3:=I.pop cY;cases ef:FL c with
   | none=>
    rw[ef]at Hh;simp! only[oD,rC,fZ,rB];exact two h3 I3.pre Hh.symm
   | some tr=>
    rw[ef]at Hh;have hl3:=I3.sk.len;have e0:decide ((0:Int) < ((rs'.reverse.map Z.D.ref).length:Nat))=!s'.isEmpty:=by
     rw[List.length_map,List.length_reverse,hl3];cases s' with
     | nil=>rfl
     | cons _ _=>simp
    have I3p:=I3.pre;have I3s:=I3.st;clear em hst hr2 cY I3;generalize rs'.reverse.map Z.D.ref=L at e0 I3s ⊢;simp! only[oD,rC,jr,gF I3s,e0];cases hs:s'.isEmpty with
    | true=>
     rw[hs]at Hh;simp! only[Cj];exact q3 tr hlen Hh.symm h3 I3p
    | false=>
     rw[hs]at Hh;simp! only[rB];exact two h3 I3p Hh.symm
theorem Hi {s:S}{k:Int}(h1:-4611686018427387904<=k/\k < 4611686018427387904)(h2:s.length * k.toNat<=16777216):prim sb .Fg [.str s,.int k] h=some (.str (List.replicate k.toNat s).flatten,h):=by
 show (if okR k && decide (s.length * k.toNat<=lim) then _ else none)=_;rw[Dm.mpr h1];have:decide (s.length * k.toNat<=lim)=true:=decide_eq_true h2;rw[this];rfl
theorem Eb {s:S}{n:Nat}:((List.replicate n s).flatten).length=s.length * n:=by
 rw[List.length_flatten,List.map_replicate,List.sum_replicate_nat,Nat.mul_comm]
theorem Hj {v:D}{k:Nat}(hk:k<=1000){a:Nat}(ha:h[a]?=some (.lst [v])):prim sb .mul [.ref a,.int (k:Int)] h=some (.ref h.length,h++[.lst (List.replicate k v)]):=by
 show (match h[a]? with | some (.lst xs)=>if okR (k:Int) then newL (List.replicate (k:Int).toNat xs).flatten h else none | _=>none)=_;rw[ha];show (if okR (k:Int) then newL (List.replicate (k:Int).toNat [v]).flatten h else none)=_;rw[if_pos (Dm.mpr (by omega)),Int.toNat_natCast];have e:(List.replicate k [v]).flatten=List.replicate k v:=by
  induction k with
  | zero=>rfl
  | succ k ih=>rw[List.replicate_succ,List.flatten_cons,ih (by omega),List.replicate_succ];rfl
 rw[e];exact if_pos (by rw[List.length_replicate];show k<=16777216;omega)
noncomputable def JZ (n m:Nat) (xs:List D):Prop:=xs.length=n/\∀v∈xs,∃i:Nat,v=.int i/\i<=m
theorem JZ.at {n m:Nat}{xs:List D}{k:Int}(c:JZ n m xs)(h0:0<=k)(h1:k < n):∃i:Nat,cB xs k=some (.int i)/\i<=m:=by
 obtain ⟨v,hv,e⟩:=lq (xs:=xs) (z:=k) h0 (by rw[c.1];exact h1);obtain ⟨i,rfl,hi⟩:=c.2 v hv;exact ⟨i,e,hi⟩
theorem JZ.set {n m:Nat}{xs:List D}{k i:Nat}(c:JZ n m xs)(hi:i<=m):JZ n (m+1) (xs.set k (.int ((i:Int)+1))):=by
 refine ⟨by rw[List.length_set];exact c.1,λv hv=>?_⟩;rcases List.mem_or_eq_of_mem_set hv with hv | rfl
 ·obtain ⟨j,e,hj⟩:=c.2 v hv;exact ⟨j,e,by omega⟩
 ·exact ⟨i+1,by simp,by omega⟩
theorem Xg {xs:List D}{v:D}{a:Nat}{k:Int}(ha:h[a]?=some (.lst xs))(h0:0<=k)(h1:k < xs.length):prim sb .iU [.ref a,.int k,v] h=some (.non,h.set a (.lst (xs.set k.toNat v))):=by
 show (match h[a]? with | some (.dct kvs)=>_ | some (.lst xs)=>_ | _=>none)=_;rw[ha];show (match kh xs.length k with | some j=>some (Z.D.non,h.set a (.lst (xs.set j v))) | none=>none)=_;have e:kh xs.length k=some k.toNat:=by unfold kh;rw[if_pos h0,if_pos h1]
 rw[e]
theorem agv {da na:Nat}{D:Nat->Int}{N:List S}{m:Nat}(hm:34<=m)(hd:h[da]?=some (.lst (rl m D)))(hn:h[na]?=some (.lst (N.map .str)))(hN:N≠[])(Q5:∀n∈N,n.length<=12)(q:∀h' t,h<+:h'->t.length<=1000->Q (.str t) h'):aD sb P (d+1) 11 [.ref da,.ref na] h Q E:=by
 refine wp_call rfl rfl ?_;obtain ⟨v0,e0⟩:=bV (n:=m) (f:=D) (z:=0) (by decide) (by omega);obtain ⟨v1,e1⟩:=bV (n:=m) (f:=D) (z:=1) (by decide) (by omega);obtain ⟨n,hnn⟩:∃n:Nat,1+v0 % 6=(n:Int):=⟨(1+v0 % 6).toNat,by omega⟩
 have hn1:1<=n/\n<=6:=by omega
 simp! only[yw,aQ hd,e0,hnn,yu,Hj (show n<=1000 by omega) aC];have hd1:=aK (l:=[AO.lst (List.replicate n (Z.D.int 0))]) (aK (l:=[AO.lst [Z.D.int 0]]) hd);have hn2:=aK (l:=[AO.lst (List.replicate n (Z.D.int 0))]) (aK (l:=[AO.lst [Z.D.int 0]]) hn);have fH:h<+:h++[AO.lst [Z.D.int 0]]++[AO.lst (List.replicate n (Z.D.int 0))]:=pre_app (List.prefix_append _ _);have ho1:(h++[AO.lst [Z.D.int 0]]++[AO.lst (List.replicate n (Z.D.int 0))])[(h++[AO.lst [Z.D.int 0]]).length]?=some (.lst (List.replicate n (Z.D.int 0))):=aC;have hoa:h.length<=(h++[AO.lst [Z.D.int 0]]).length:=by simp
 generalize (h++[AO.lst [Z.D.int 0]]).length=oa at ho1 hoa ⊢;generalize h++[AO.lst [Z.D.int 0]]++[AO.lst (List.replicate n (Z.D.int 0))]=h1 at hd1 hn2 fH ho1 ⊢;simp! only[yt,Hj (show n<=1000 by omega) aC];have hd2:=aK (l:=[AO.lst (List.replicate n (Z.D.int 0))]) (aK (l:=[AO.lst [Z.D.int 0]]) hd1);have hn3:=aK (l:=[AO.lst (List.replicate n (Z.D.int 0))]) (aK (l:=[AO.lst [Z.D.int 0]]) hn2);have ho2:=aK (l:=[AO.lst (List.replicate n (Z.D.int 0))]) (aK (l:=[AO.lst [Z.D.int 0]]) ho1);have dG:h<+:h1++[AO.lst [Z.D.int 0]]++[AO.lst (List.replicate n (Z.D.int 0))]:=pre_app (pre_app fH);have hs2:(h1++[AO.lst [Z.D.int 0]]++[AO.lst (List.replicate n (Z.D.int 0))])[(h1++[AO.lst [Z.D.int 0]]).length]?=some (.lst (List.replicate n (Z.D.int 0))):=aC;have hsa:h.length<=(h1++[AO.lst [Z.D.int 0]]).length:=by have:=DP fH;simp;omega
 have hos:oa≠(h1++[AO.lst [Z.D.int 0]]).length:=by have:=qQ ho1;simp;omega
 generalize (h1++[AO.lst [Z.D.int 0]]).length=sa at hs2 hsa hos ⊢;generalize h1++[AO.lst [Z.D.int 0]]++[AO.lst (List.replicate n (Z.D.int 0))]=h2 at hd2 hn3 ho2 dG hs2 ⊢;have hdl:=qQ hd;have hnl:=qQ hn;have c0:JZ n 0 (List.replicate n (Z.D.int 0)):=⟨List.length_replicate,λv hv=>⟨0,by rw[List.eq_of_mem_replicate hv];rfl,Nat.le_refl _⟩⟩
 obtain ⟨k1,hk1⟩:∃k:Nat,v1 % 4=(k:Int):=⟨(v1 % 4).toNat,by omega⟩
 have hk3:k1<=3:=by omega
 simp! only[yr];refine gZ (lo:=0) (n:=k1) (vs:=[.int k1]) (h1:=h2) (λi σ h'=>∃(xs ys:List Z.D) (x5 x6 x7:Option Z.D),h<+:h'/\h'[oa]?=some (.lst xs)/\h'[sa]?=some (.lst ys)/\JZ n i xs/\JZ n i ys/\σ=[some (.ref da),some (.ref na),some (.int n),some (.ref oa),some (.ref sa),x5,x6,x7,none,none]) (λQ q=>by simp! only[aQ hd2,e1,hk1];exact q) (by simp[bU,jh,iR,ji,jj,gY,okR];omega) ⟨_,_,none,none,none,dG,ho2,hs2,c0,c0,rfl⟩ ?_ ?_
 ·rintro i σ h' hi ⟨xs,ys,x5,x6,x7,pr,ho,hs,cx,cy,rfl⟩;refine ⟨_,rfl,?_⟩;have hd':=aP pr hd;obtain ⟨w2,f2⟩:=bV (n:=m) (f:=D) (z:=2+(0+(i:Int))) (by omega) (by omega);obtain ⟨w5,f5⟩:=bV (n:=m) (f:=D) (z:=5+(0+(i:Int))) (by omega) (by omega);simp! only[yq,aQ hd',f2,sG (show (0:Int) < (n:Int) by omega),yj,f5];have o0:=Int.emod_nonneg w2 (show (n:Int)≠0 by omega);have o1:=Int.emod_lt_of_pos w2 (show (0:Int) < (n:Int) by omega);generalize w2 % (n:Int)=one at o0 o1;have t0:=Int.emod_nonneg w5 (show (n:Int) - one≠0 by omega);have t1:=Int.emod_lt_of_pos w5 (show (0:Int) < (n:Int) - one by omega);simp! only[sG (show (0:Int) < (n:Int) - one by omega)];generalize w5 % ((n:Int) - one)=two at t0 t1;obtain ⟨i1,a1,b1⟩:=cx.at o0 o1;obtain ⟨i2,a2,b2⟩:=cy.at (k:=one+two) (by omega) (by omega);have hs':(h'.set oa (.lst (xs.set one.toNat (.int ((i1:Int)+1)))))[sa]?=some (.lst ys):=cM hs hos;simp! only[yh,aQ ho,a1,Xg ho o0 (by rw[cx.1];exact o1),Bt,aQ hs',a2,Xg hs' (show 0<=one+two by omega) (by rw[cy.1];omega)];exact ⟨_,_,_,_,_,qD (qD pr hoa) hsa,cM (get_set ho) (Ne.symm hos),get_set hs',cx.set b1,cy.set b2,rfl⟩
 ·rintro σ h' ⟨xs,ys,x5,x6,x7,pr,ho,hs,cx,cy,rfl⟩;simp! only[Bs,Br];have hN0:0 < N.length:=List.length_pos_iff.mpr hN;refine gZ (lo:=0) (n:=n) (vs:=[.int n]) (h1:=h') (λi σ h2=>∃(t:S) (x5 x9:Option Z.D),h'<+:h2/\t.length<=60 * i/\σ=[some (.ref da),some (.ref na),some (.int n),some (.ref oa),some (.ref sa),x5,x6,x7,some (.str t),x9]) (λQ q=>by simp! only;exact q) (by simp[bU,jh,iR,ji,jj,gY,okR];omega) ⟨_,_,_,iB,by simp;decide,rfl⟩ ?_ ?_
  ·rintro i σ h3 hi ⟨t,y5,y9,cY,tl,rfl⟩;refine ⟨_,rfl,?_⟩;have Hl:=aP cY (aP pr hd);have atA:=aP cY (aP pr hn);have ho3:=aP cY ho;have hs3:=aP cY hs;obtain ⟨w8,f8⟩:=bV (n:=m) (f:=D) (z:=8+(0+(i:Int))) (by omega) (by omega);obtain ⟨w14,jt⟩:=bV (n:=m) (f:=D) (z:=14+(0+(i:Int))) (by omega) (by omega);obtain ⟨w20,ju⟩:=bV (n:=m) (f:=D) (z:=20+(0+(i:Int))) (by omega) (by omega);obtain ⟨w26,jw⟩:=bV (n:=m) (f:=D) (z:=26+(0+(i:Int))) (by omega) (by omega);obtain ⟨i1,a1,b1⟩:=cx.at (k:=0+(i:Int)) (by omega) (by omega);obtain ⟨i2,a2,b2⟩:=cy.at (k:=0+(i:Int)) (by omega) (by omega);obtain ⟨u,hu,eu⟩:=lq (xs:=N.map Z.D.str) (z:=w26 % ((N.length:Nat):Int)) (Int.emod_nonneg _ (by omega)) (by rw[List.length_map];exact Int.emod_lt_of_pos _ (by omega));obtain ⟨nme,hnm,rfl⟩:=List.mem_map.mp hu;have atB:=Q5 nme hnm;rw[Bq,iz];refine wp_seq (λσ h4=>∃t':S,h'<+:h4/\t'.length<=60 * i+5/\σ=[some (.ref da),some (.ref na),some (.int n),some (.ref oa),some (.ref sa),some (.int (0+i)),x6,x7,some (.str t'),y9]) ?_ ?_
   ·simp! only;by_cases hp:(0:Int) < 0+(i:Int)
    ·rw[decide_eq_true hp];obtain ⟨x,hx,ex⟩:=lq (xs:=[Z.D.str (tx " and "),.str (tx " or ")]) (z:=w8 % 2) (Int.emod_nonneg _ (by decide)) (Int.emod_lt_of_pos _ (by decide));obtain ⟨jn,rfl,hjn⟩:∃jn:S,x=.str jn/\jn.length<=5:=by
      simp only[List.mem_cons,List.not_mem_nil,or_false]at hx;rcases hx with e | e
      ·exact ⟨_,e,by decide⟩
      ·exact ⟨_,e,by decide⟩
     simp! only[Bp,aQ (aK Hl),f8,aQ aC,ex];rw[if_pos (by omega)];exact ⟨_,pre_app cY,by simp;omega,rfl⟩
    ·rw[decide_eq_false hp];simp! only;exact ⟨t,cY,by omega,rfl⟩
   ·rintro σ1 h4 ⟨t',pr4,tl',rfl⟩;have GX:=aP pr4 (aP pr hd);have hn4:=aP pr4 (aP pr hn);have ho4:=aP pr4 ho;have hs4:=aP pr4 hs;have k14:0<=w14 % 8 / 6/\w14 % 8 / 6<=1:=by omega
    have Nu:0<=w20 % 8 / 6/\w20 % 8 / 6<=1:=by omega
    have l14:(tx "not ").length * (w14 % 8 / 6).toNat<=4:=by rw[tZ];simp only[List.length_cons,List.length_nil];omega
    have l20:(tx "not ").length * (w20 % 8 / 6).toNat<=4:=by rw[tZ];simp only[List.length_cons,List.length_nil];omega
    have li1:(tx "(").length * ((i1:Int)).toNat<=3:=by rw[iK];simp only[List.length_cons,List.length_nil];omega
    have li2:(tx ")").length * ((i2:Int)).toNat<=3:=by rw[jH];simp only[List.length_cons,List.length_nil];omega
    have m14:=@Hi h4 (tx "not ") (w14 % 8 / 6) (by omega) (by omega);have m20:=@Hi h4 (tx "not ") (w20 % 8 / 6) (by omega) (by omega);have mi1:=@Hi h4 (tx "(") (i1:Int) (by omega) (by omega);have mi2:=@Hi h4 (tx ")") (i2:Int) (by omega) (by omega);have r14:=Eb (s:=tx "not ") (n:=(w14 % 8 / 6).toNat);have r20:=Eb (s:=tx "not ") (n:=(w20 % 8 / 6).toNat);have ri1:=Eb (s:=tx "(") (n:=((i1:Int)).toNat);have ri2:=Eb (s:=tx ")") (n:=((i2:Int)).toNat);generalize (List.replicate (w14 % 8 / 6).toNat (tx "not ")).flatten=s14 at m14 r14;generalize (List.replicate (w20 % 8 / 6).toNat (tx "not ")).flatten=s20 at m20 r20;generalize (List.replicate ((i1:Int)).toNat (tx "(")).flatten=si1 at mi1 ri1;generalize (List.replicate ((i2:Int)).toNat (tx ")")).flatten=si2 at mi2 ri2;simp! only[Bo,aQ GX,jt,m14];rw[if_pos (by omega)];simp! only[aQ ho4,a1,mi1];rw[if_pos (by simp only[List.length_append];omega)];simp! only[Bm,aQ GX,jw,gF hn4,List.length_map,sG (show (0:Int) < (N.length:Int) by omega),aQ hn4,eu,Bl,ju,m20];rw[if_pos (by simp only[List.length_append];omega)];simp! only;rw[if_pos (by simp only[List.length_append];omega)];simp! only[aQ hs4,a2,mi2];rw[if_pos (by simp only[List.length_append];omega)];exact ⟨_,_,_,pr4,by simp only[List.length_append];omega,rfl⟩
  ·rintro σ h2 ⟨t,y5,y9,cY,tl,rfl⟩;simp! only[Bk];exact q h2 t (pr.trans cY) (by omega)
theorem Xh {da:Nat}{D:Nat->Int}{m:Nat}{t:S}(hm:50<=m)(hd:h[da]?=some (.lst (rl m D)))(ht:t.length<=2000)(q:∀h' t',h<+:h'->t'.length<=2100->Q (.str t') h'):aD sb P (d+1) 12 [.str t,.ref da] h Q E:=by
 refine wp_call rfl rfl ?_;simp! only[qZ];rw[tU,iz];generalize hsg:([32,33,34,35,36,38,39,40,41,42,43,44,45,46,47,48,49,50,51,52,53,54,55,56,57,58,59,60,61,62,63,64,65,66,67,68,69,70,71,72,73,74,75,76,77,78,79,80,81,82,83,84,85,86,87,88,89,90,91,92,93,94,95,96]:S)=sg0;have hsl:sg0.length=64:=by rw[<-hsg];rfl
 simp! only[tR];have htl:(tx "abcdefghijklmnopqrstuvwxyz{|}~").length=30:=by decide
 rw[if_pos (by omega)];have agx:(sg0++tx "abcdefghijklmnopqrstuvwxyz{|}~").length=94:=by rw[List.length_append,hsl,htl]
 clear hsg hsl;generalize sg0++tx "abcdefghijklmnopqrstuvwxyz{|}~"=sg at agx ⊢;generalize hsm:([.str (tx "("),.str (tx ")"),.str (tx " "),.str (tx "not "),.str (tx " and "),.str (tx " or "),.str (tx "a"),.str (tx "N"),.str (tx "0"),.str [10],.str (tx " usually "),.str (tx "nota")]:List Z.D)=sm;have amm:∀z:Int,∃w:S,cB sm (z % 12)=some (.str w)/\w.length<=9:=λz=>by
  obtain ⟨v,hv,e⟩:=lq (xs:=sm) (z:=z % 12) (Int.emod_nonneg _ (by decide)) (by rw[<-hsm];exact Int.emod_lt_of_pos _ (by decide));rw[<-hsm]at hv;simp only[List.mem_cons,List.not_mem_nil,or_false]at hv;rcases hv with rfl | rfl | rfl | rfl | rfl | rfl | rfl | rfl | rfl | rfl | rfl | rfl<;>exact ⟨_,e,by decide⟩
 clear hsm;have fH:h<+:h++[AO.lst sm]:=List.prefix_append _ _;have hs1:(h++[AO.lst sm])[h.length]?=some (.lst sm):=aC;have hd1:=aP fH hd;generalize h.length=ma at hs1 ⊢;generalize h++[AO.lst sm]=h1 at fH hs1 hd1 ⊢;obtain ⟨v32,e32⟩:=bV (n:=m) (f:=D) (z:=32) (by decide) (by omega);obtain ⟨v33,e33⟩:=bV (n:=m) (f:=D) (z:=33) (by decide) (by omega);have mm:=@Li sb h1 (v32 % 4 / 2) (1+v33 % 2) (by omega);obtain ⟨k,hk⟩:∃k:Nat,v32 % 4 / 2 * (1+v33 % 2)=(k:Int):=by
  refine Int.eq_ofNat_of_zero_le (Int.mul_nonneg (by omega) (by omega))
 have hk2:k<=2:=by
  have h1:v32 % 4 / 2=0\/v32 % 4 / 2=1:=by omega
  have h2:v33 % 2=0\/v33 % 2=1:=by omega
  rcases h1 with h1 | h1<;>rcases h2 with h2 | h2<;>rw[h1,h2]at hk<;>omega
 rw[hk]at mm;simp! only[tQ];refine gZ (lo:=0) (n:=k) (vs:=[.int k]) (h1:=h1) (λi σ h'=>∃(t':S) (x4 x5 x6:Option Z.D),h1<+:h'/\t'.length<=2000+20 * i/\σ=[some (.str t'),some (.ref da),some (.ref ma),some (.str sg),x4,x5,x6]) (λQ q=>by simp! only[aQ hd1,e32,e33,mm];exact q) (by simp[bU,jh,iR,ji,jj,gY,okR];omega) ⟨t,none,none,none,iB,by omega,rfl⟩ ?_ ?_
 ·rintro i σ h' hi ⟨t',x4,x5,x6,pr,tl,rfl⟩;refine ⟨_,rfl,?_⟩;have hd2:=aP pr hd1;have hs2:=aP pr hs1;obtain ⟨w34,f34⟩:=bV (n:=m) (f:=D) (z:=34+(0+(i:Int))) (by omega) (by omega);obtain ⟨w36,f36⟩:=bV (n:=m) (f:=D) (z:=36+(0+(i:Int))) (by omega) (by omega);obtain ⟨w38,f38⟩:=bV (n:=m) (f:=D) (z:=38+(0+(i:Int))) (by omega) (by omega);obtain ⟨w40,f40⟩:=bV (n:=m) (f:=D) (z:=40+(0+(i:Int))) (by omega) (by omega);obtain ⟨w46,f46⟩:=bV (n:=m) (f:=D) (z:=46+(0+(i:Int))) (by omega) (by omega);obtain ⟨w48,f48⟩:=bV (n:=m) (f:=D) (z:=48+(0+(i:Int))) (by omega) (by omega);obtain ⟨nw,en,ln⟩:=amm w36;have hpos:(0:Int) < (t'.length:Int)+1:=by omega
  simp! only[tO,aQ hd2,f34,sG hpos,tM,f36,aQ hs2,en];have a0:=Int.emod_nonneg w34 (show (t'.length:Int)+1≠0 by omega);generalize w34 % ((t'.length:Int)+1)=at_ at a0;obtain ⟨x,hx,ex⟩:=lq (xs:=[Z.D.str nw,.str (tx "")]) (z:=w38 % 2) (Int.emod_nonneg _ (by decide)) (Int.emod_lt_of_pos _ (by decide));obtain ⟨n2,rfl,ln2⟩:∃n2:S,x=.str n2/\n2.length<=9:=by
   simp only[List.mem_cons,List.not_mem_nil,or_false]at hx;rcases hx with e | e
   ·exact ⟨_,e,ln⟩
   ·exact ⟨_,e,by decide⟩
  simp! only[aQ (aK (l:=[AO.lst [Z.D.str nw,.str (tx "")]]) hd2),f38,aQ aC,ex];rw[tL,iz];have Hl:=aK (l:=[AO.lst [Z.D.str nw,.str (tx "")]]) hd2;have cY:=pre_app (l:=[AO.lst [Z.D.str nw,.str (tx "")]]) pr;generalize h'++[AO.lst [Z.D.str nw,.str (tx "")]]=h3 at Hl cY;refine wp_seq (λσ h4=>h4=h3/\∃n3:S,n3.length<=9/\σ=[some (.str t'),some (.ref da),some (.ref ma),some (.str sg),some (.int (0+i)),some (.int at_),some (.str n3)]) ?_ ?_
  ·simp! only[aQ Hl,f48];cases w48 % 3 == 0 with
   | true=>
    obtain ⟨c,hc,ec⟩:=lq (xs:=sg) (z:=w46 % 94) (Int.emod_nonneg _ (by decide)) (by rw[agx];exact Int.emod_lt_of_pos _ (by decide));simp! only[tK,aQ Hl,f46,ec];exact ⟨_,by simp,rfl⟩
   | false=>
    simp! only;exact ⟨n2,ln2,rfl⟩
  ·rintro σ1 h4 ⟨rfl,n3,ln3,rfl⟩;have l1:=qC (xs:=t') (lo:=none) (hi:=some at_);have l2:=qC (xs:=t') (lo:=some (at_+w40 % 2)) (hi:=none);have l3:(cut t' none (some at_)).length+(cut t' (some (at_+w40 % 2)) none).length<=t'.length:=by
    have hw:=Int.emod_nonneg w40 (show (2:Int)≠0 by decide);simp only[cut,bL];rw[if_neg (by omega),if_neg (by omega)];simp only[List.length_take,List.length_drop];omega
   simp! only[tH];rw[if_pos (by omega)];simp! only[aQ Hl,f40];rw[if_pos (by simp only[List.length_append];omega)];exact ⟨_,_,_,_,cY,by simp only[List.length_append];omega,rfl⟩
 ·rintro σ h' ⟨t',x4,x5,x6,pr,tl,rfl⟩;simp! only[tG];exact q h' t' (fH.trans pr) (by omega)
theorem c_long {da:Nat}{D:Nat->Int}{m:Nat}{t:S}(hm:50<=m)(hd:h[da]?=some (.lst (rl m D)))(ht:t.length<=2100)(q:∀t',t'.length<=2300->Q (.str t') h):aD sb P (d+1) 13 [.str t,.ref da] h Q E:=by
 refine wp_call rfl rfl ?_;obtain ⟨v42,e42⟩:=bV (n:=m) (f:=D) (z:=42) (by decide) (by omega);obtain ⟨v43,e43⟩:=bV (n:=m) (f:=D) (z:=43) (by decide) (by omega);simp! only[BJ,aQ hd,e42,Bx,e43];cases v43 % 5 == 0 with
 | true=>
  simp! only[Bw];refine gZ (lo:=0) (n:=60) (vs:=[.int 60]) (h1:=h) (λi σ h'=>∃(t':S) (x3:Option Z.D),h'=h/\t'.length<=2100+2 * i/\σ=[some (.str t'),some (.ref da),some (.int (117+v42 % 6)),x3]) (λQ q=>by simp! only;exact q) (by simp[bU,jh,iR,ji,jj,gY,okR]) ⟨t,none,rfl,by omega,rfl⟩ ?_ ?_
  ·rintro i σ h' hi ⟨t',x3,rfl,tl,rfl⟩;refine ⟨_,rfl,?_⟩;simp! only[Bv];cases decide ((t'.length:Int)+2<=117+v42 % 6) with
   | true=>
    simp! only[Bu];rw[if_pos (by rw[iK];simp only[List.length_cons,List.length_nil];omega)];simp! only;rw[if_pos (by rw[iK,jH];simp only[List.length_append,List.length_cons,List.length_nil];omega)];exact ⟨_,_,rfl,by rw[iK,jH];simp only[List.length_append,List.length_cons,List.length_nil];omega,rfl⟩
   | false=>
    simp! only;exact ⟨t',_,by omega,rfl⟩
  ·rintro σ h' ⟨t',x3,rfl,tl,rfl⟩;simp! only[q9];exact q t' (by omega)
 | false=>
  simp! only[q9];exact q t (by omega)
theorem CW:∀{s:Sn},1<=lv s
 | .is _=>Nat.le_refl _
 | .nt _=>by simp only[lv];omega
 | .an _ _=>by simp only[lv];omega
 | .or _ _=>by simp only[lv];omega
noncomputable def wF:Fr->Nat
 | .op=>1
 | .nt=>4
 | .an a=>4 * lv a+2
 | .or a=>4 * lv a+1
noncomputable def ug:List Fr->Nat
 | []=>0
 | f::B=>wF f+ug B
noncomputable def wO:Option Sn->Nat
 | none=>0
 | some w=>4 * lv w - 3
noncomputable def wT:Tk->Nat
 | .op=>1 | .cl=>1 | .nt=>4 | .an=>5 | .or=>4
 | .nm s=>s.length
noncomputable def wTs:List Tk->Nat
 | []=>0
 | t::r=>wT t+wTs r
theorem amn {f:Fr}{w:Sn}:4 * lv (fw f w) - 3<=wF f+(4 * lv w - 3):=by
 have:=@CW w;cases f with
 | op=>simp only[fw,wF];omega
 | nt=>simp only[fw,wF,lv];omega
 | an a=>have:=@CW a;simp only[fw,wF,lv];omega
 | or a=>have:=@CW a;simp only[fw,wF,lv];omega
theorem CZ {l:Nat}:∀{B:List Fr} {w:Sn},ug (bD l B w).1+(4 * lv (bD l B w).2 - 3)<=ug B+(4 * lv w - 3)
 | [],w=>by simp[bD,ug]
 | f::B,w=>by
  unfold bD;split
  ·have:=CZ (l:=l) (B:=B) (w:=fw f w);have:=@amn f w;simp only[ug];omega
  ·exact Nat.le_refl _
noncomputable def Xi:Tk->Prop
 | .nm s=>1<=s.length
 | _=>True
theorem ajw {B B':List Fr}{w w':Option Sn}{t:Tk}(ok:Xi t)(e:stP (B,w) t=some (B',w')):ug B'+wO w'<=ug B+wO w+wT t:=by
 cases w with
 | none=>cases t with
  | op=>simp only[stP,Option.some.injEq,Prod.mk.injEq]at e;obtain ⟨rfl,rfl⟩:=e;simp only[ug,wF,wO,wT];omega
  | nt=>simp only[stP,Option.some.injEq,Prod.mk.injEq]at e;obtain ⟨rfl,rfl⟩:=e;simp only[ug,wF,wO,wT];omega
  | nm s=>simp only[stP,Option.some.injEq,Prod.mk.injEq]at e;obtain ⟨rfl,rfl⟩:=e;simp only[wO,wT,lv,Xi]at ok ⊢;omega
  | cl=>simp[stP]at e
  | an=>simp[stP]at e
  | or=>simp[stP]at e
 | some w=>cases t with
  | op=>simp[stP]at e
  | nt=>simp[stP]at e
  | nm s=>simp[stP]at e
  | an=>
   simp only[stP,Option.some.injEq,Prod.mk.injEq]at e;obtain ⟨rfl,rfl⟩:=e;have:=@CZ 1 B w;have:=@CW (bD 1 B w).2;simp only[ug,wF,wO,wT];omega
  | or=>
   simp only[stP,Option.some.injEq,Prod.mk.injEq]at e;obtain ⟨rfl,rfl⟩:=e;have:=@CZ 0 B w;have:=@CW (bD 0 B w).2;simp only[ug,wF,wO,wT];omega
  | cl=>
   have h:=@CZ 0 B w;simp only[stP]at e;generalize bD 0 B w=p at e h;obtain ⟨C,v⟩:=p;cases C with
   | nil=>cases e
   | cons f C=>
    simp only[Option.some.injEq,Prod.mk.injEq]at e;obtain ⟨rfl,rfl⟩:=e;simp only[ug,wO,wT]at h ⊢;omega
theorem agz:∀{ts:List Tk} {B:List Fr} {w:Option Sn} {s:Sn},(∀t∈ts,Xi t)->(rP (B,w) ts).bind iu=some s->4 * lv s - 3<=ug B+wO w+wTs ts
 | [],B,none,s,_,e=>by cases e
 | [],B,some w,s,_,e=>by
  have h:=@CZ 0 B w;simp only[rP,Option.bind_some,iu]at e;split at e
  ·cases e;simp only[wO,wTs];omega
  ·cases e
 | t::ts,B,w,s,ok,e=>by
  simp only[rP]at e;cases e1:stP (B,w) t with
  | none=>rw[e1]at e;cases e
  | some p=>
   obtain ⟨B',w'⟩:=p;rw[e1]at e;have h1:=ajw (ok t (by simp)) e1;have h2:=agz (λx hx=>ok x (by simp[hx])) e;simp only[wTs];omega
theorem ajx {q:S}(h:q∈PS\/GN q):wT (dX q)<=q.length/\Xi (dX q):=by
 rcases h with h | g
 ·simp only[PS,List.mem_cons,List.not_mem_nil,or_false]at h;rcases h with rfl | rfl | rfl | rfl | rfl
  ·rw[dX,SX,lE];exact ⟨by decide,trivial⟩
  ·rw[dX,S5,lF];exact ⟨by decide,trivial⟩
  ·rw[dX,S6,jJ];exact ⟨by decide,trivial⟩
  ·rw[dX,S7,jK];exact ⟨by decide,trivial⟩
  ·rw[dX,S8,nD];exact ⟨by decide,trivial⟩
 ·rw[dX,S9 g,Td g];exact ⟨Nat.le_refl _,List.length_pos_iff.mpr (Nq g)⟩
theorem amo:∀{r:S} {o:Option (List S)},TP r o->∀qs,o=some qs->wTs (qs.map dX)<=r.length/\∀t∈qs.map dX,Xi t:=by
 intro r o tp
 induction tp with
 | nil=>intro qs e;cases e;exact ⟨Nat.le_refl _,λt h=>by cases h⟩
 | bad _ _=>intro qs e;cases e
 | @cons r q o h1 h2 h3 ih=>
  intro qs e;cases o with
  | none=>cases e
  | some ps=>
   cases e;obtain ⟨i1,i2⟩:=ih ps rfl;obtain ⟨e1,e2⟩:=qF h2;have e3:=congrArg List.length e1;rw[List.length_append]at e3;obtain ⟨w1,w2⟩:=ajx (q:=q) (e2.imp id And.left);refine ⟨by simp only[List.map_cons,wTs];omega,λt ht=>?_⟩;rw[List.map_cons,List.mem_cons]at ht;rcases ht with rfl | ht
   ·exact w2
   ·exact i2 t ht
theorem adf {r:S}{o:Option (List S)}{s:Sn}(tp:TP r o)(e:nF o=some s):4 * lv s<=r.length+3:=by
 cases o with
 | none=>cases e
 | some qs=>
  obtain ⟨h1,h2⟩:=amo tp qs rfl;have:=agz h2 e;simp only[ug,wO]at this;omega
theorem ajy {s:S}:prim sb (.jX .str) [.str s] h=some (.bl true,h):=rfl
theorem agA {s:List D}:prim sb (.jX .str) [.tup s] h=some (.bl false,h):=rfl
theorem agB {s:List D}:prim sb (.jX .tuple) [.tup s] h=some (.bl true,h):=rfl
theorem Ec {s:S}(q:Q (.bl true) h):aD sb P (d+1) 19 [.str s,.str s] h Q E:=by
 refine wp_call rfl rfl ?_;simp! only[rG,ajy,Cy,beq_self_eq_true];exact q
theorem Ed {xs:List D}(hl:xs.length<=100)(hx:∀x∈xs,∀{h:AH} {Q:PV} {E:PX},Q (.bl true) h->aD sb P d 19 [x,x] h Q E)(q:Q (.bl true) h):aD sb P (d+1) 19 [.tup xs,.tup xs] h Q E:=by
 refine wp_call rfl rfl ?_;simp! only[rG,agA,Cw,agB,beq_self_eq_true,Cv];refine gZ (lo:=0) (n:=xs.length) (vs:=[.int xs.length]) (h1:=h) (λi σ h'=>h'=h/\∃x,σ=[some (.tup xs),some (.tup xs),x]) (λQ q=>by simp! only;exact q) (by simp[bU,jh,iR,ji,jj,gY,okR];omega) ⟨rfl,none,rfl⟩ ?_ ?_
 ·rintro i σ h' hi ⟨rfl,x,rfl⟩;refine ⟨_,rfl,?_⟩;have ea:cB xs (0+(i:Int))=some xs[i]:=by rw[gH (by omega),show (0+(i:Int)).toNat=i by omega,List.getElem?_eq_getElem hi]
  simp! only[Cu,ea];refine hx _ (List.getElem_mem hi) ?_;simp! only;exact ⟨_,rfl⟩
 ·rintro σ h' ⟨rfl,x,rfl⟩;simp! only[Cr];exact q
theorem vU:∀{s:Sn} {d:Nat} {h:AH} {Q:PV} {E:PX},lv s+1<=d->Q (.bl true) h->aD sb P d 19 [sd s,sd s] h Q E
 | _,0,h,Q,E,hd,q=>by omega
 | .is n,d+1,h,Q,E,hd,q=>by
  obtain ⟨d,rfl⟩:∃d',d=d'+1:=⟨d - 1,by simp[lv]at hd;omega⟩
  refine Ed (xs:=[.str (tx "is"),.str n]) (by simp) ?_ q;intro x hx h Q E q;simp only[List.mem_cons,List.not_mem_nil,or_false]at hx;rcases hx with rfl | rfl<;>exact Ec q
 | .nt a,d+1,h,Q,E,hd,q=>by
  simp only[lv]at hd;obtain ⟨d,rfl⟩:∃d',d=d'+1:=⟨d - 1,by omega⟩
  refine Ed (xs:=[.str (tx "not"),sd a]) (by simp) ?_ q;intro x hx h Q E q;simp only[List.mem_cons,List.not_mem_nil,or_false]at hx;rcases hx with rfl | rfl
  ·exact Ec q
  ·exact vU (s:=a) (by omega) q
 | .an a b,d+1,h,Q,E,hd,q=>by
  simp only[lv]at hd;obtain ⟨d,rfl⟩:∃d',d=d'+1:=⟨d - 1,by omega⟩
  refine Ed (xs:=[.str (tx "and"),sd a,sd b]) (by simp) ?_ q;intro x hx h Q E q;simp only[List.mem_cons,List.not_mem_nil,or_false]at hx;rcases hx with rfl | rfl | rfl
  ·exact Ec q
  ·exact vU (s:=a) (by omega) q
  ·exact vU (s:=b) (by omega) q
 | .or a b,d+1,h,Q,E,hd,q=>by
  simp only[lv]at hd;obtain ⟨d,rfl⟩:∃d',d=d'+1:=⟨d - 1,by omega⟩
  refine Ed (xs:=[.str (tx "or"),sd a,sd b]) (by simp) ?_ q;intro x hx h Q E q;simp only[List.mem_cons,List.not_mem_nil,or_false]at hx;rcases hx with rfl | rfl | rfl
  ·exact Ec q
  ·exact vU (s:=a) (by omega) q
  ·exact vU (s:=b) (by omega) q
theorem Xj {ns:List Int}{k:Int}(hk:0<=k)(q:∀c,Q (.int c) h):aD sb P (d+1) 8 [.eY (ns.map .int),.int k] h Q E:=by
 refine wp_call rfl rfl ?_;simp! only[tB,tD,tE];by_cases hl:k < (List.map D.int ns).length
 ·rw[decide_eq_true hl,if_pos rfl,gH hk,List.getElem?_map];rw[List.length_map]at hl;rw[List.getElem?_eq_getElem (by omega)];exact q _
 ·rw[decide_eq_false hl,if_neg (by decide)];exact q _
theorem adg {cell:Int}{n:Nat}(hn:n<=100)(q:∀D,Q (.ref h.length) (h++[.lst (rl n D)])):aD sb P (d+1) 7 [.int cell,.int n] h Q E:=by
 refine wp_call rfl rfl ?_;simp! only[xG,xK,xM,xO];refine gZ (lo:=0) (n:=n) (vs:=[.int n]) (λi σ h'=>∃D m x,h'=h++[.lst (rl i D)]/\σ=[some (.int cell),some (.int n),some (.int m),some (.ref h.length),x]) (h1:=h++[.lst []]) (λQ q=>?_) ?_ ?_ ?_ ?_
 ·simp! only;exact q
 ·simp[bU,jh,iR,ji,jj,gY,okR];omega
 ·exact ⟨λ_=>0,_,_,rfl,rfl⟩
 ·rintro i σ h' hi ⟨D,m,x,rfl,rfl⟩;refine ⟨_,rfl,?_⟩;simp! only[xH,xJ,cX aC,dI aC (show (rl i D).length < 16777216 by rw[afR];omega),dB];refine ⟨λk=>if k=i then m * 48271 % 2147483647 / 13 else D k,_,_,?_,rfl⟩;rw[<-acL,Zr (f:=λk=>if k=i then m * 48271 % 2147483647 / 13 else D k) (g:=D) (λk hk=>by simp;omega)];simp
 ·rintro σ h' ⟨D,m,x,rfl,rfl⟩;simp! only;exact q D
theorem adh {num:Int}{n:Nat}(hn:n<=100)(q:∀s:S,s.length=n->(∀c∈s,c∈eZ)->Q (.str s) h):aD sb P (d+1) 9 [.int num,.int n] h Q E:=by
 refine wp_call rfl rfl ?_;simp! only[xP,xT,xU,xV];refine gZ (lo:=0) (n:=n) (vs:=[.int n]) (λi σ h'=>∃(m:Int) (s:S) (x:Option D),s.length=i/\(∀c∈s,c∈eZ)/\h'=h/\σ=[some (.int m),some (.int n),some (.str (tx "abcdefghijklmnopqrstuvwxyz")),some (.str s),x]) (h1:=h) (λQ q=>?_) ?_ ?_ ?_ ?_
 ·simp! only;exact q
 ·simp[bU,jh,iR,ji,jj,gY,okR];omega
 ·exact ⟨num,[],_,rfl,by simp,rfl,rfl⟩
 ·rintro i σ h' hi ⟨m,s,x,hs,hc,rfl,rfl⟩;refine ⟨_,rfl,?_⟩;simp! only[xQ,xR];rw[gH (Int.emod_nonneg _ (by decide))];have hb:=Int.emod_lt_of_pos ((m * 69621+1) % 2147483647 / 17) (show (0:Int) < 26 by decide);have hl:(tx "abcdefghijklmnopqrstuvwxyz").length=26:=by decide
  rw[List.getElem?_eq_getElem (by rw[hl];omega)];simp! only;rw[if_pos (by omega)];refine ⟨_,_,_,by simp[hs],λc h=>?_,rfl,rfl⟩;rcases List.mem_append.mp h with h | h
  ·exact hc c h
  ·rw[List.mem_singleton]at h;subst h;exact List.getElem_mem _
 ·rintro σ h' ⟨m,s,x,hs,hc,rfl,rfl⟩;simp! only;exact q s hs hc
theorem Nv {cell z:Int}(hz:0<=z)(hn:z<=100)(q:∀D,Q (.ref h.length) (h++[.lst (rl z.toNat D)])):aD sb P (d+1) 7 [.int cell,.int z] h Q E:=by
 obtain ⟨n,rfl⟩:=Int.eq_ofNat_of_zero_le hz;exact adg (by omega) q
theorem Nx {num z:Int}(hz:0<=z)(hn:z<=100)(q:∀s:S,s.length=z.toNat->(∀c∈s,c∈eZ)->Q (.str s) h):aD sb P (d+1) 9 [.int num,.int z] h Q E:=by
 obtain ⟨n,rfl⟩:=Int.eq_ofNat_of_zero_le hz;exact adh (by omega) q
noncomputable def Xk:List S:=[tx "nota",tx "no",tx "ot",tx "an",tx "nd",tx "ands",tx "o",tx "r",tx "orr",tx "alway",tx "wher",tx "usual",tx "notnot",tx "ask",tx "is",tx "tell"]
structure LW (s:S):Prop where
 lo:1<=s.length
 hi:s.length<=12
 le:∀c∈s,c∈eZ
theorem amq:∀s∈Xk,LW s:=λs hs=>by
 have:∀s∈Xk,1<=s.length/\s.length<=12/\s.all (λc=>eZ.contains c)=true:=by decide
 obtain ⟨a,b,c⟩:=this s hs;exact ⟨a,b,λx hx=>List.contains_iff_mem.mp (List.all_eq_true.mp c x hx)⟩
theorem amr:∀{n:S},n∈KW->GN (n++tx "a"):=λ{n} hn=>by
 have:∀n∈KW,1<=(n++tx "a").length/\(n++tx "a").length<=12/\(n++tx "a").all (λc=>eZ.contains c)=true/\KW.contains (n++tx "a")=false:=by decide
 obtain ⟨a,b,c,d⟩:=this n hn;refine ⟨a,b,λx hx=>List.contains_iff_mem.mp (List.all_eq_true.mp c x hx),λh=>?_⟩;rw[List.contains_iff_mem.mpr h]at d;cases d
theorem agC (z:Int):∃c,c∈eZ/\cB (tx "abcdefghijklmnopqrstuvwxyz") (z % 26)=some c:=by
 have hl:(tx "abcdefghijklmnopqrstuvwxyz").length=26:=by decide
 have h0:=Int.emod_nonneg z (show (26:Int)≠0 by decide);have h1:=Int.emod_lt_of_pos z (show (0:Int) < 26 by decide);have hb:(z % 26).toNat < (tx "abcdefghijklmnopqrstuvwxyz").length:=by rw[hl];omega
 exact ⟨(tx "abcdefghijklmnopqrstuvwxyz")[(z % 26).toNat],(List.getElem_mem hb:_∈tx "abcdefghijklmnopqrstuvwxyz"),by rw[gH h0,List.getElem?_eq_getElem hb]⟩
noncomputable abbrev lets:D:=.str (tx "abcdefghijklmnopqrstuvwxyz")
noncomputable def NmI (cell:Int) (n sa da:Nat) (base:S) (at_:Int) (h0:AH) (i:Nat):Lo->AH->Prop:=λσ h'=>∃(ss:List S) (x8 x9 x10:Option D),h0<+:h'/\h'[h0.length]?=some (.lst (ss.map .str))/\ss.length<=i/\(0 < i->ss≠[])/\(∀s∈ss,GN s)/\
  σ=[some (.int cell),some (.int n),some lets,some (.ref sa),some (.ref da),some (.str base),some (.int at_),some (.ref h0.length),x8,x9,x10]
noncomputable def NmM (cell:Int) (n sa da:Nat) (base:S) (at_:Int) (h0:AH) (i:Nat):Lo->AH->Prop:=λσ h'=>∃(ss:List S) (nm:S) (x10:Option D),h0<+:h'/\h'[h0.length]?=some (.lst (ss.map .str))/\ss.length<=i/\(∀s∈ss,GN s)/\LW nm/\
  σ=[some (.int cell),some (.int n),some lets,some (.ref sa),some (.ref da),some (.str base),some (.int at_),some (.ref h0.length),some (.int (0+i)),some (.str nm),x10]
theorem Ny {cell:Int}{n sa:Nat}(h1:1<=n)(h2:n<=12)(hs:h[sa]?=some (.lst (Xk.map .str)))(q:∀h' r ss,h<+:h'->h.length<=r->h'[r]?=some (.lst (ss.map .str))->ss≠[]->ss.length<=12->(∀s∈ss,GN s)->Q (.ref r) h'):
  bN sb (aD sb P (d+1)) E mD {nx:=λ_ h=>Q .non h,rt:=Q} [some (.int cell),some (.int n),some lets,some (.ref sa),none,none,none,none,none,none,none] h:=by
 simp! only[mD];refine Nv (by decide) (by decide) λD=>?_;have uh:rl (26:Int).toNat D=rl 26 D:=rfl;rw[uh];obtain ⟨v0,e0⟩:=bV (n:=26) (f:=D) (z:=0) (by decide) (by decide);obtain ⟨v1,e1⟩:=bV (n:=26) (f:=D) (z:=1) (by decide) (by decide);obtain ⟨v2,e2⟩:=bV (n:=26) (f:=D) (z:=2) (by decide) (by decide);obtain ⟨v20,rK⟩:=bV (n:=26) (f:=D) (z:=20) (by decide) (by decide);obtain ⟨v21,um⟩:=bV (n:=26) (f:=D) (z:=21) (by decide) (by decide);obtain ⟨v22,uo⟩:=bV (n:=26) (f:=D) (z:=22) (by decide) (by decide);obtain ⟨v23,uq⟩:=bV (n:=26) (f:=D) (z:=23) (by decide) (by decide);have hd:(h++[AO.lst (rl 26 D)])[h.length]?=some (.lst (rl 26 D)):=aC;simp! only[vg,aQ hd,e0,e1];have hb1:=Int.emod_nonneg v1 (show (12:Int)≠0 by decide);have hb2:=Int.emod_lt_of_pos v1 (show (0:Int) < 12 by decide);refine Nx (by omega) (by omega) λbase hbase hbc=>?_;have hbl:1<=base.length/\base.length<=12:=by rw[hbase];omega
 simp! only[vf,aQ hd,e2,sG (show (0:Int) < base.length by omega),vd,u_];have at0:=Int.emod_nonneg v2 (show (base.length:Int)≠0 by omega);have at1:=Int.emod_lt_of_pos v2 (show (0:Int) < base.length by omega);generalize v2 % (base.length:Int)=at_ at at0 at1;have hs':(h++[AO.lst (rl 26 D)])[sa]?=some (.lst (Xk.map .str)):=aK hs;have pre0:h<+:h++[AO.lst (rl 26 D)]:=List.prefix_append _ _;generalize hd0:h.length=da at hd;generalize h++[AO.lst (rl 26 D)]=h0 at hd hs' pre0;refine gZ (lo:=0) (n:=n) (vs:=[.int n]) (h1:=h0++[.lst []]) (NmI cell n sa da base at_ h0) (λQ q=>by simp! only;exact q) (by simp[bU,jh,iR,ji,jj,gY,okR];omega) ⟨[],none,none,none,List.prefix_append _ _,by simp,by simp,by simp,by simp,rfl⟩ ?_ ?_
 ·rintro i σ h' hi ⟨ss,x8,x9,x10,pr,hn,hl,hne,hg,rfl⟩;refine ⟨_,rfl,?_⟩;have hdl:=aP pr hd;have hsl:=aP pr hs';obtain ⟨w3,e3⟩:=bV (n:=26) (f:=D) (z:=3+(0+(i:Int))) (by omega) (by omega);obtain ⟨w4,e4⟩:=bV (n:=26) (f:=D) (z:=4+(0+(i:Int))) (by omega) (by omega);simp! only[uZ,aQ hdl,e3,e4];have hc1:=Int.emod_nonneg (w4 / 5) (show (12:Int)≠0 by decide);have hc2:=Int.emod_lt_of_pos (w4 / 5) (show (0:Int) < 12 by decide);refine Nx (by omega) (by omega) λname hname hnc=>?_;rw[uY,iz];refine wp_seq (NmM cell n sa da base at_ h0 i) ?_ ?_
  ·simp! only[aQ hdl,rK];by_cases hc:v20 % 4 < 2
   ·rw[decide_eq_true hc];have ams:=λo=>aK (l:=[o]) hdl;obtain ⟨w,hw,ew⟩:=lq (xs:=[Z.D.int 1,.int 3,.int 5,.int 7,.int 9,.int 11]) (z:=v22 % 6) (Int.emod_nonneg _ (by decide)) (Int.emod_lt_of_pos _ (by decide));obtain ⟨wi,rfl⟩:∃wi:Int,w=.int wi:=by
     simp only[List.mem_cons,List.not_mem_nil,or_false]at hw;rcases hw with e | e | e | e | e | e<;>exact ⟨_,e⟩
    obtain ⟨c,hcl,ec⟩:=agC (v21+(0+(i:Int)) * wi);simp! only[yg,yd,aQ (ams _),aQ hdl,um,uo,aQ aC,ew,PK (show -18446744073709551616 < 0+(i:Int)/\0+(i:Int) < 18446744073709551616 by omega),ec];have cl1:(cut base none (some at_)).length=at_.toNat:=by
     simp only[cut,bL];rw[if_neg (by omega),List.length_take,List.length_drop];omega
    have cl2:(cut base (some (at_+1)) none).length=base.length - (at_.toNat+1):=by
     simp only[cut,bL];rw[if_neg (by omega),List.length_take,List.length_drop];omega
    have c1:=qC (xs:=base) (lo:=none) (hi:=some at_);have c2:=qC (xs:=base) (lo:=some (at_+1)) (hi:=none);rw[if_pos (by omega)];simp! only;rw[if_pos (by simp only[List.length_append,List.length_cons,List.length_nil];omega)];simp! only;refine ⟨ss,_,_,pre_app pr,aK hn,hl,hg,?_,rfl⟩;refine ⟨by simp only[List.length_append,List.length_cons,List.length_nil];omega,by rw[List.length_append,List.length_append,cl1,cl2];simp only[List.length_cons,List.length_nil];omega,λx hx=>?_⟩;rcases List.mem_append.mp hx with hx | hx
    ·rcases List.mem_append.mp hx with hx | hx
     ·exact hbc x (Iu hx)
     ·rw[List.mem_singleton]at hx;subst hx;exact hcl
    ·exact hbc x (Iu hx)
   ·rw[decide_eq_false hc];simp! only;exact ⟨ss,name,_,pr,hn,hl,hg,⟨by rw[hname];omega,by rw[hname];omega,hnc⟩,rfl⟩
  ·rintro σ1 h3 ⟨ss,name,x10,pr,hn,hl,hg,hnl,rfl⟩;have hdl:=aP pr hd;have hsl:=aP pr hs';rw[yc,iz];refine wp_seq (NmM cell n sa da base at_ h0 i) ?_ ?_
   ·simp! only[aQ hdl,rK];cases hc:v20 % 4 == 2 with
    | true=>
     obtain ⟨w,hw,ew⟩:=lq (xs:=Xk.map Z.D.str) (z:=(v23+3 * (0+(i:Int))) % 16) (Int.emod_nonneg _ (by decide)) (Int.emod_lt_of_pos _ (by decide));obtain ⟨s,hs,rfl⟩:=List.mem_map.mp hw;simp! only[xZ,aQ hdl,uq,aQ hsl,ew];exact ⟨ss,s,_,pr,hn,hl,hg,amq s hs,rfl⟩
    | false=>
     simp! only;exact ⟨ss,name,_,pr,hn,hl,hg,hnl,rfl⟩
   ·rintro σ1 h3 ⟨ss,name,x10,pr,hn,hl,hg,hnl,rfl⟩;have e6:dN (.str name) [.str (tx "always"),.str (tx "where"),.str (tx "usually"),.str (tx "not"),.str (tx "and"),.str (tx "or")]=some _:=gC (x:=name) (ss:=[tx "always",tx "where",tx "usually",tx "not",tx "and",tx "or"]);have k3:∀nm:S,GN nm->bN sb (aD sb P (d+1)) E nZ {nx:=NmI cell n sa da base at_ h0 (i+1),rt:=Q,bk:=λσ' h'=>bN sb (aD sb P (d+1)) E nY {nx:=λ_ h=>Q .non h,rt:=Q} σ' h',ct:=NmI cell n sa da base at_ h0 (i+1)}
      [some (.int cell),some (.int n),some lets,some (.ref sa),some (.ref da),some (.str base),some (.int at_),some (.ref h0.length),some (.int (0+i)),some (.str nm),x10] h3:=by
     intro nm hgn;simp! only[nZ,W0 hn,gC];cases hc:ss.contains nm with
     | true=>
      simp! only;refine ⟨ss,_,_,_,pr,hn,by omega,λ_ z=>?_,hg,rfl⟩;subst z;cases hc
     | false=>
      simp! only[xW,cX hn,dI hn (show (ss.map Z.D.str).length < 16777216 by rw[List.length_map];omega)];exact ⟨ss++[nm],_,_,_,qD pr (Nat.le_refl _),by rw[get_set hn];simp,by simp;omega,λ_=>by simp,λs hs=>by
       rcases List.mem_append.mp hs with hs | hs
       ·exact hg s hs
       ·rw[List.mem_singleton]at hs;subst hs;exact hgn,rfl⟩
    simp! only[xY,e6];cases bb:([tx "always",tx "where",tx "usually",tx "not",tx "and",tx "or"]:List S).contains name with
    | true=>
     simp! only[xX];rw[if_pos (by have:(tx "a").length=1:=rfl;have:=hnl.hi;omega)];simp! only;exact k3 _ (amr (List.contains_iff_mem.mp bb))
    | false=>
     simp! only;exact k3 _ ⟨hnl.lo,hnl.hi,hnl.le,λhk=>by have e:=List.contains_iff_mem.mpr hk;exact absurd (e.symm.trans bb) (by decide)⟩
 ·rintro σ h' ⟨ss,x8,x9,x10,pr,hn,hl,hne,hg,rfl⟩;simp! only[nY];exact q h' _ ss (pre0.trans pr) (DP pre0) hn (hne (by omega)) (by omega) hg
theorem adi {cell:Int}{n:Nat}(h1:1<=n)(h2:n<=12)(q:∀h' r ss,h<+:h'->h.length<=r->h'[r]?=some (.lst (ss.map .str))->ss≠[]->ss.length<=12->(∀s∈ss,GN s)->Q (.ref r) h'):aD sb P (d+2) 10 [.int cell,.int n] h Q E:=by
 refine wp_call rfl rfl ?_;simp! only[vp,vo,vh];rw[eF (aK aC) aC (by simp)];simp! only;refine Ny h1 h2 aC λh' r ss pr hr=>q h' r ss (((List.prefix_append _ _).trans ((List.prefix_append _ _).trans (List.prefix_append _ _))).trans pr) ?_;simp at hr;omega
theorem ZK {cell z:Int}(h1:1<=z)(h2:z<=12)(q:∀h' r ss,h<+:h'->h.length<=r->h'[r]?=some (.lst (ss.map .str))->ss≠[]->ss.length<=12->(∀s∈ss,GN s)->Q (.ref r) h'):aD sb P (d+2) 10 [.int cell,.int z] h Q E:=by
 obtain ⟨n,rfl⟩:=Int.eq_ofNat_of_zero_le (show 0<=z by omega);exact adi (by omega) (by omega) q
noncomputable def rM (ys ns:List S) (c:S):Option Bool:=if c∈ys then some true else if c∈ns then some false else none
theorem cF {a:Nat}{c:S}{i:Int}{ys ns:List S}{b:Bool}(ha:h[a]?=some (.cW c i))(hb:rM ys ns c=some b):prim sb (.dZ ys ns) [.ref a] h=some (.bl b,h):=by
 show (match h[a]? with | some (.exc c)=>_ | some (.cW c _)=>if c∈ys then some (Z.D.bl true,h) else if c∈ns then some (Z.D.bl false,h) else none | _=>none)=_;rw[ha];unfold rM at hb;show (if c∈ys then some (Z.D.bl true,h) else if c∈ns then some (Z.D.bl false,h) else none)=_;split
 ·rw[if_pos (by assumption)]at hb;cases hb;rfl
 ·rw[if_neg (by assumption)]at hb;split
  ·rw[if_pos (by assumption)]at hb;cases hb;rfl
  ·rw[if_neg (by assumption)]at hb;cases hb
theorem Nz {a:Nat}{c:S}{i:Int}{cs:List S}(ha:h[a]?=some (.cW c i))(hb:c∈cs):prim sb (.HF cs) [.ref a] h=some (.int i,h):=by
 show (match h[a]? with | some (.cW c i)=>if c∈cs then some (Z.D.int i,h) else none | _=>none)=_;rw[ha];exact if_pos hb
structure Kd (c:S)(z:Int):Prop where
 c0:rM sW sX c=some ((0:Int) == z)
 c1:rM nq nA c=some ((1:Int) == z)
 c2:rM iC iG c=some ((2:Int) == z)
 c3:rM sY sZ c=some ((3:Int) == z)
 c4:rM ni nj c=some ((4:Int) == z)
 c5:rM lu lA c=some true
 c6:rM jz jA c=some true
 c7:rM iI iJ c=some true
 c8:rM sU sV c=some false
 c9:rM qp qu c=some false
 gM:rM mZ m_ c=some false
 gO:rM wG wH c=some false
 c12:rM ql qm c=some false
 cr:c∈rcs
noncomputable def C_ (z:Int):List D:=[.bl ((0:Int) == z),.bl ((1:Int) == z),.bl ((2:Int) == z),.bl ((3:Int) == z),.bl ((4:Int) == z),.bl true,.bl true,.bl true,.bl false,.bl false,.bl false,.bl false,.bl false]
theorem kdR:Kd (tx "RowError") (-1):=by constructor<;>decide
theorem kd0:Kd (tx "NoRow") 0:=by constructor<;>decide
theorem kd1:Kd (tx "TooLong") 1:=by constructor<;>decide
theorem kd2:Kd (tx "NoSentence") 2:=by constructor<;>decide
theorem kd3:Kd (tx "Twice") 3:=by constructor<;>decide
theorem kd4:Kd (tx "TooMany") 4:=by constructor<;>decide
theorem abu {z:Int}:HB (C_ z) (C_ z)=some true:=by
 unfold C_;generalize ((0:Int) == z)=b0;generalize ((1:Int) == z)=b1;generalize ((2:Int) == z)=b2;generalize ((3:Int) == z)=b3;generalize ((4:Int) == z)=b4;cases b0<;>cases b1<;>cases b2<;>cases b3<;>cases b4<;>rfl
theorem adk {a:Nat}{c:S}{i z:Int}(ha:h[a]?=some (.cW c i))(k:Kd c z)(q:∀h' r,h<+:h'->h'[r]?=some (.lst (C_ z))->Q (.ref r) h'):aD sb P (d+1) 20 [.ref a] h Q E:=by
 refine wp_call rfl rfl ?_;simp! only[yZ,cF ha k.c0,cF ha k.c1,cF ha k.c2,cF ha k.c3];have fH:h<+:h++[AO.lst [.bl ((0:Int) == z),.bl ((1:Int) == z),.bl ((2:Int) == z),.bl ((3:Int) == z)]]:=List.prefix_append _ _;have e1:(h++[AO.lst [.bl ((0:Int) == z),.bl ((1:Int) == z),.bl ((2:Int) == z),.bl ((3:Int) == z)]])[h.length]?=some (.lst _):=aC;generalize h++[AO.lst [.bl ((0:Int) == z),.bl ((1:Int) == z),.bl ((2:Int) == z),.bl ((3:Int) == z)]]=h1 at fH e1 ⊢;generalize h.length=r1 at e1 ⊢;have a1:=aP fH ha;simp! only[yX,cF a1 k.c4,cF a1 k.c5,cF a1 k.c6];rw[eF (aK e1) aC (by simp)];simp! only;generalize hx:h1++[AO.lst [.bl ((4:Int) == z),.bl true,.bl true]]=h2;have dG:h<+:h2++[AO.lst [.bl ((0:Int) == z),.bl ((1:Int) == z),.bl ((2:Int) == z),.bl ((3:Int) == z),.bl ((4:Int) == z),.bl true,.bl true]]:=pre_app (by rw[<-hx];exact pre_app fH);have e2:(h2++[AO.lst [.bl ((0:Int) == z),.bl ((1:Int) == z),.bl ((2:Int) == z),.bl ((3:Int) == z),.bl ((4:Int) == z),.bl true,.bl true]])[h2.length]?=some (.lst _):=aC;generalize h2++[AO.lst [.bl ((0:Int) == z),.bl ((1:Int) == z),.bl ((2:Int) == z),.bl ((3:Int) == z),.bl ((4:Int) == z),.bl true,.bl true]]=h3 at dG e2 ⊢;generalize h2.length=r2 at e2 ⊢;have a2:=aP dG ha;simp! only[yW,cF a2 k.c7,cF a2 k.c8,cF a2 k.c9];rw[eF (aK e2) aC (by simp)];simp! only;generalize hy:h3++[AO.lst [.bl true,.bl false,.bl false]]=h4;have cY:h<+:h4++[AO.lst [.bl ((0:Int) == z),.bl ((1:Int) == z),.bl ((2:Int) == z),.bl ((3:Int) == z),.bl ((4:Int) == z),.bl true,.bl true,.bl true,.bl false,.bl false]]:=pre_app (by rw[<-hy];exact pre_app dG);have e3:(h4++[AO.lst [.bl ((0:Int) == z),.bl ((1:Int) == z),.bl ((2:Int) == z),.bl ((3:Int) == z),.bl ((4:Int) == z),.bl true,.bl true,.bl true,.bl false,.bl false]])[h4.length]?=some (.lst _):=aC;generalize h4++[AO.lst [.bl ((0:Int) == z),.bl ((1:Int) == z),.bl ((2:Int) == z),.bl ((3:Int) == z),.bl ((4:Int) == z),.bl true,.bl true,.bl true,.bl false,.bl false]]=h5 at cY e3 ⊢;generalize h4.length=r3 at e3 ⊢;have a3:=aP cY ha;simp! only[yV,cF a3 k.gM,cF a3 k.gO,cF a3 k.c12];rw[eF (aK e3) aC (by simp)];simp! only;exact q _ _ (pre_app (pre_app cY)) aC
theorem abv {z:Int}(q:∀h' r,h<+:h'->h'[r]?=some (.lst (C_ z))->Q (.ref r) h'):aD sb P (d+1) 21 [.int z] h Q E:=by
 refine wp_call rfl rfl ?_;simp! only[oW];refine abJ (xs:=(List.range 5).map λ(k:Nat)=>.int k) (vs:=[.int 5]) (h1:=h) (J:=qd 0 5) (λ_=>true) (λv=>match v with | .int k=>.bl (k == z) | _=>.non) (λQ q=>by simp! only;exact q) (by simp[bU,jh,iR,ji,jj,gY,okR]) (by simp) ?_ ?_ ?_
 ·intro i h2 _;unfold qd;by_cases hi:i < 5
  ·rw[if_pos hi,List.getElem?_map,List.getElem?_range hi];simp
  ·rw[if_neg hi,List.getElem?_eq_none (by simp;omega)]
 ·intro k v h3 ev pr;have hk:k < 5:=by have:=(List.getElem?_eq_some_iff.mp ev).1;simpa using this
  rw[List.getElem?_map,List.getElem?_range hk]at ev;simp only[Option.map_some,Option.some.injEq]at ev;subst ev;refine ⟨_,rfl,?_⟩;simp! only;exact ⟨iB,λ_=>iB⟩
 ·intro h2 pr e;have e':h2[h.length]?=some (.lst [.bl ((0:Int) == z),.bl ((1:Int) == z),.bl ((2:Int) == z),.bl ((3:Int) == z),.bl ((4:Int) == z)]):=by rw[e];rfl
  clear e;generalize h.length=r at e';rw[show (3:Int)=((3:Nat):Int) from rfl,Hj (by decide) aC];simp! only;rw[eF (aK (aK e')) aC (by simp)];simp! only;rw[show (5:Int)=((5:Nat):Int) from rfl,Hj (by decide) aC];simp! only;rw[eF (aK (aK aC)) aC (by simp)];simp! only;exact q _ _ (pre_app (pre_app (pre_app (pre_app (pre_app (pre_app pr)))))) aC
theorem Q6 {i:Int}(q:Q (.bl true) h):aD sb P (d+1) 23 [.int i] h Q E:=by
 refine wp_call rfl rfl ?_;simp! only[zx,aa_,gW];exact q
theorem agE {i j:Nat}{cc:CC}{cs:List S}{hs:aB}{Γ:b_}{σ:Lo}{K:En}:wpS sb Γ E (.Le i cc cs j hs) K σ h=gq sb Γ E cc σ h (λv h2=>K.nx (σ.set i (some v)) h2)
   λx h2=>∃c r,x=.tup [.str c,.int r]/\c∈cs/\bN sb Γ E hs {nx:=λσ' h'=>K.nx (σ'.set j none) h',rt:=K.rt,bk:=λσ' h'=>K.bk (σ'.set j none) h',ct:=λσ' h'=>K.ct (σ'.set j none) h'} (σ.set j (some (.ref h2.length))) (h2++[.cW c r]):=by
 simp only[wpS]<;>rfl
theorem adl {f:Nat}{es:cN}{ds:List D}{Γ:b_}{σ:Lo}{F:PX}:gq sb Γ E (.call f es ds) σ h Q F=bH sb Γ E es σ h λvs h1=>Γ f (vs++ds) h1 Q F:=rfl
theorem agF {t:Tx}{a b:CC}{Γ:b_}{σ:Lo}{F:PX}:gq sb Γ E (.ite t a b) σ h Q F=cQ sb Γ E t σ h λk h1=>if k=true then gq sb Γ E a σ h1 Q F else gq sb Γ E b σ h1 Q F:=rfl
theorem ajz {c:S}{e:Ex}{Γ:b_}{σ:Lo}:aM sb Γ E (.Ej c e) σ h Q=aM sb Γ E e σ h λx h1=>match x with
  | .int i=>Q (.ref h1.length) (h1++[.cW c i])
  | _=>False:=by simp only[aM]<;>rfl
theorem Xl {a r3 r4:Nat}{c:S}{i z:Int}{x0 x1 x2 x5 x6:Option D}{K:En}(ha:h[a]?=some (.cW c i))(k:Kd c z)
  (q:∀h' k1 k2,h<+:h'->h'[k1]?=some (.lst ((C_ z).take 7))->h'[k2]?=some (.lst ((C_ z).drop 7))->K.nx [x0,x1,x2,some (.ref k1),some (.ref k2),some (.int i),x6,some (.ref a)] h'):
  bN sb (aD sb P d) E jE K [x0,x1,x2,some (.ref r3),some (.ref r4),x5,x6,some (.ref a)] h:=by
 simp! only[jE,cF ha k.c0,cF ha k.c1,cF ha k.c2,cF ha k.c3];have fH:h<+:h++[AO.lst [.bl ((0:Int) == z),.bl ((1:Int) == z),.bl ((2:Int) == z),.bl ((3:Int) == z)]]:=List.prefix_append _ _;have e1:(h++[AO.lst [.bl ((0:Int) == z),.bl ((1:Int) == z),.bl ((2:Int) == z),.bl ((3:Int) == z)]])[h.length]?=some (.lst _):=aC;generalize h++[AO.lst [.bl ((0:Int) == z),.bl ((1:Int) == z),.bl ((2:Int) == z),.bl ((3:Int) == z)]]=h1 at fH e1 ⊢;generalize h.length=r1 at e1 ⊢;have a1:=aP fH ha;simp! only[zj,cF a1 k.c4,cF a1 k.c5,cF a1 k.c6];rw[eF (aK e1) aC (by simp)];simp! only;generalize hx:h1++[AO.lst [.bl ((4:Int) == z),.bl true,.bl true]]=h2;have dG:h<+:h2++[AO.lst [.bl ((0:Int) == z),.bl ((1:Int) == z),.bl ((2:Int) == z),.bl ((3:Int) == z),.bl ((4:Int) == z),.bl true,.bl true]]:=pre_app (by rw[<-hx];exact pre_app fH);have e2:(h2++[AO.lst [.bl ((0:Int) == z),.bl ((1:Int) == z),.bl ((2:Int) == z),.bl ((3:Int) == z),.bl ((4:Int) == z),.bl true,.bl true]])[h2.length]?=some (.lst ((C_ z).take 7)):=aC;generalize h2++[AO.lst [.bl ((0:Int) == z),.bl ((1:Int) == z),.bl ((2:Int) == z),.bl ((3:Int) == z),.bl ((4:Int) == z),.bl true,.bl true]]=h3 at dG e2 ⊢;generalize h2.length=r2 at e2 ⊢;have a2:=aP dG ha;simp! only[zf,cF a2 k.c7,cF a2 k.c8,cF a2 k.c9];have cY:h<+:h3++[AO.lst [.bl true,.bl false,.bl false]]:=pre_app dG;have e3:(h3++[AO.lst [.bl true,.bl false,.bl false]])[h3.length]?=some (.lst [.bl true,.bl false,.bl false]):=aC;have e2':=aK (l:=[AO.lst [.bl true,.bl false,.bl false]]) e2;generalize h3++[AO.lst [.bl true,.bl false,.bl false]]=h4 at cY e3 e2' ⊢;generalize h3.length=r5 at e3 ⊢;have a3:=aP cY ha;simp! only[zc,cF a3 k.gM,cF a3 k.gO,cF a3 k.c12];rw[eF (aK e3) aC (by simp)];simp! only[za];rw[Nz (aK (aK a3)) k.cr];simp! only;exact q _ _ _ (pre_app (pre_app cY)) (aK (aK e2')) aC
theorem Jb {t:S}{o:Option (List S)}{how place:Int}(tp:TP t o)
  (q1:120 < t.length->∀h' r,h<+:h'->h'[r]?=some (.lst (C_ 1))->Q (.tup [.ref r,.int (if how=0 then 0 else place),.non]) h')
  (q2:t.length<=120->nF o=none->∀h' r,h<+:h'->h'[r]?=some (.lst (C_ 2))->Q (.tup [.ref r,.int (if how=0 then 0 else place),.non]) h')
  (q3:∀s,t.length<=120->nF o=some s->∀h' r,h<+:h'->h'[r]?=some (.lst [])->Q (.tup [.ref r,.int 0,sd s]) h'):
  aD sb P (d+5) 22 [.str t,.int how,.int place] h Q E:=by
 refine wp_call rfl rfl ?_;simp! only[vM,vK,zq,zp];rw[zm,iz,agE];have JX:h<+:h++[AO.lst []]++[AO.lst []]:=pre_app (List.prefix_append _ _);have ea:(h++[AO.lst []]++[AO.lst []])[h.length]?=some (.lst []):=aK aC;have eb:(h++[AO.lst []]++[AO.lst []])[(h++[AO.lst []]).length]?=some (.lst []):=aC;generalize (h++[AO.lst []]).length=rb at eb ⊢;generalize h++[AO.lst []]++[AO.lst []]=h0 at JX ea eb ⊢;generalize h.length=ra at ea ⊢;have key:∀i:Int,i=(if how=0 then 0 else place)->aD sb P (d+4) 0 [.str t,.int i] h0
   (λv h2=>bN sb (aD sb P (d+4)) E fB {nx:=λ_ h=>Q .non h,rt:=Q} [some (.str t),some (.int how),some (.int place),some (.ref ra),some (.ref rb),some (.int 0),some v,none] h2)
   (λx h2=>∃c r,x=.tup [.str c,.int r]/\c∈[(tx "TooLong"),(tx "NoSentence")]/\bN sb (aD sb P (d+4)) E jE {nx:=λσ' h'=>bN sb (aD sb P (d+4)) E fB {nx:=λ_ h=>Q .non h,rt:=Q} (σ'.set 7 none) h',rt:=Q} [some (.str t),some (.int how),some (.int place),some (.ref ra),some (.ref rb),some (.int 0),some .non,some (.ref h2.length)] (h2++[.cW c r])):=by
  intro i hi;refine ac5 tp (λhl h' pr=>⟨_,_,rfl,by simp,?_⟩) (λhl e h' pr=>⟨_,_,rfl,by simp,?_⟩) λs hl e h' pr=>?_
  ·refine Xl aC kd1 λh2 k1 k2 dG g1 g2=>?_;simp! only[fB];rw[eF g1 g2 (by decide)];simp! only;rw[hi];exact q1 hl _ _ (pre_app (JX.trans (pr.trans ((List.prefix_append _ _).trans dG)))) (by rw[aC];rfl)
  ·refine Xl aC kd2 λh2 k1 k2 dG g1 g2=>?_;simp! only[fB];rw[eF g1 g2 (by decide)];simp! only;rw[hi];exact q2 hl e _ _ (pre_app (JX.trans (pr.trans ((List.prefix_append _ _).trans dG)))) (by rw[aC];rfl)
  ·simp! only[fB];rw[eF (aP pr ea) (aP pr eb) (by simp)];simp! only;exact q3 s hl e _ _ (pre_app (JX.trans pr)) aC
 simp! only[agF,adl];by_cases h0':how=0
 ·rw[show (how == 0)=true from by simp[h0']];simp! only;exact key 0 (by rw[if_pos h0'])
 ·rw[show (how == 0)=false from by simp[h0']];simp! only;split
  ·exact key place (by rw[if_neg h0'])
  ·exact key place (by rw[if_neg h0'])
theorem Xm {a:Nat}{xs:List D}(ha:h[a]?=some (.lst xs)):prim sb (.jX .tuple) [.ref a] h=some (.bl false,h):=by
 rw[aa_];simp only[gW,ha,Option.map_some]
theorem Jc {i j l:Nat}{x y z:D}{σ:Lo}:jy [i,j,l] (.tup [x,y,z]) σ=some (((σ.set i (some x)).set j (some y)).set l (some z)):=rfl
theorem agG:∀{s:Sn},∃xs,sd s=.tup xs
 | .is _=>⟨_,rfl⟩
 | .nt _=>⟨_,rfl⟩
 | .an _ _=>⟨_,rfl⟩
 | .or _ _=>⟨_,rfl⟩
theorem adn {t:S}{how place:Int}(hl:t.length<=5000)(q:∀h',h<+:h'->Q (.bl true) h'):aD sb P (d+48) 25 [.str t,.int how,.int place] h Q E:=by
 obtain ⟨o,tp⟩:=abd t.length t (Nat.le_refl _);have re:=acV tp;have rest:∀(h':AH) (a r:Nat) (z at_:Int) (x6:Option D),h<+:h'->h'[a]?=some (.lst [.int z])->h'[r]?=some (.lst (C_ z))->at_=(if how=0 then 0 else place)->
   bN sb (aD sb P (d+47)) E oE {nx:=λ_ h=>Q .non h,rt:=Q} [some (.str t),some (.int how),some (.int place),some (.ref a),some (.ref r),some (.int at_),x6] h':=by
  intro h' a r z at_ x6 pr ea er hat;have go:∀pl:Int,at_=pl->bN sb (aD sb P (d+47)) E oA {nx:=λ_ h=>Q .non h,rt:=Q} [some (.str t),some (.int how),some (.int pl),some (.ref a),some (.ref r),some (.int at_),x6] h':=by
   intro pl ep;subst ep;have e0:cB [Z.D.int z] 0=some (.int z):=rfl;simp! only[oA,aQ ea,e0];refine abv λh2 r2 dG e2=>?_;simp! only[Ir (aP dG er) e2,abu];refine Q6 ?_;simp! only[beq_self_eq_true];exact q h2 (pr.trans dG)
  simp! only[oE];by_cases h0:how=0
  ·rw[show (how == 0)=true from by simp[h0]];rw[if_pos h0]at hat;simp! only[zy];exact go 0 hat
  ·rw[show (how == 0)=false from by simp[h0]];rw[if_neg h0]at hat;simp! only;exact go place hat
 refine wp_call rfl rfl ?_;simp! only[zB];refine ade hl (λhl1 h1 r1 fH e1=>?_) (λhl1 en h1 r1 fH e1=>?_) λs hl1 es h1 fH=>?_
 ·simp! only[jG];refine Jb tp (λ_ h2 r2 dG e2=>?_) (λhc _ _ _ _ _=>by omega) λ_ hc _ _ _ _ _=>by omega
  simp! only[Jc,jF,Xm (aP dG e1)];exact rest h2 r1 r2 1 _ _ (fH.trans dG) (aP dG e1) e2 rfl
 ·simp! only[jG];refine Jb tp (λhc _ _ _ _=>by omega) (λ_ _ h2 r2 dG e2=>?_) λs _ hs _ _ _ _=>by rw[re,hs]at en;cases en
  simp! only[Jc,jF,Xm (aP dG e1)];exact rest h2 r1 r2 2 _ _ (fH.trans dG) (aP dG e1) e2 rfl
 ·simp! only[jG];rw[re]at es;refine Jb tp (λhc _ _ _ _=>by omega) (λ_ hn _ _ _ _=>by rw[es]at hn;cases hn) λs' _ hs h2 r2 dG e2=>?_;rw[es]at hs;cases hs;have lb:=adf tp es;obtain ⟨xs,ex⟩:=@agG s;have hi:prim sb (.jX .tuple) [sd s] h2=some (.bl true,h2):=by rw[ex];rfl
  simp! only[Jc,jF,hi,zA,Ir (aK (l:=[AO.lst []]) e2) aC,show HB [] []=some true from rfl];exact vU (by omega) (q _ (pre_app (fH.trans dG)))
theorem agH {place:Int}(q:∀h',Q (.bl true) h'):aD sb P (d+2) 24 [.int place] h Q E:=by
 refine wp_call rfl rfl ?_;simp! only[CK,ajz];generalize hg:[tx "RowError",tx "NoRow",tx "TooLong",tx "NoSentence",tx "Twice",tx "TooMany"]=CL;have hk:∀(i:Nat) c,CL[i]?=some c->Kd c ((i:Int) - 1):=by
  rw[<-hg];intro i c e
  match i,e with
  | 0,e=>cases e;exact kdR
  | 1,e=>cases e;exact kd0
  | 2,e=>cases e;exact kd1
  | 3,e=>cases e;exact kd2
  | 4,e=>cases e;exact kd3
  | 5,e=>cases e;exact kd4
  | n+6,e=>cases e
 have hl:CL.length=6:=by rw[<-hg];rfl
 have main:∀(h1:AH) (ma:Nat) (rs:List D),h1[ma]?=some (.lst rs)->(∀(i:Nat),i < 6->∃a c,cB rs (i:Int)=some (.ref a)/\h1[a]?=some (.cW c place)/\Kd c ((i:Int) - 1))->
   bN sb (aD sb P (d+1)) E rH {nx:=λ_ h=>Q .non h,rt:=Q} [some (.int place),some (.ref ma),none,none] h1:=by
  intro h1 ma rs em hx;rw[rH,iz];refine gZ (lo:=0) (n:=6) (vs:=[.int 6]) (h1:=h1) (λi σ h'=>∃(x2 x3:Option Z.D),h1<+:h'/\σ=[some (.int place),some (.ref ma),x2,x3]) (λQ q=>by simp! only;exact q) (by simp[bU,jh,iR,ji,jj,gY,okR]) ⟨none,none,iB,rfl⟩ ?_ ?_
  ·rintro i σ h' hi ⟨x2,x3,pr,rfl⟩;refine ⟨_,rfl,?_⟩;obtain ⟨a,c,ei,ea,kd⟩:=hx i hi;have ei':cB rs (0+(i:Int))=some (.ref a):=by rw[Int.zero_add];exact ei
   have ea':=aP pr ea;simp! only[CJ,aQ (aP pr em),ei',CG];refine adk ea' kd λh2 r2 dG e2=>?_;rw[Int.zero_add];refine abv λh3 r3 cY e3=>?_;have ea3:=aP cY (aP dG ea');simp! only[Ir (aP cY e2) e3,abu,Nz ea3 kd.cr];refine Q6 ?_;simp! only[Nz ea3 kd.cr,beq_self_eq_true];exact ⟨_,_,pr.trans (dG.trans cY),rfl⟩
  ·rintro σ h' ⟨x2,x3,pr,rfl⟩;simp! only[Cz];exact q h'
 refine main _ _ _ aC λi hi=>?_
 match i,hi with
 | 0,_=>exact ⟨_,_,rfl,by simp[List.getElem?_append],kdR⟩
 | 1,_=>exact ⟨_,_,rfl,by simp[List.getElem?_append],kd0⟩
 | 2,_=>exact ⟨_,_,rfl,by simp[List.getElem?_append],kd1⟩
 | 3,_=>exact ⟨_,_,rfl,by simp[List.getElem?_append],kd2⟩
 | 4,_=>exact ⟨_,_,rfl,by simp[List.getElem?_append],kd3⟩
 | 5,_=>exact ⟨_,_,rfl,by simp[List.getElem?_append],kd4⟩
theorem Jd {k:Nat}(hk:k<=100):prim sb .pow [.int 10,.int (k:Int)] h=some (.int (10 ^ k),h):=by
 show (if (0:Int)<=(k:Int)/\(k:Int)<=1000000/\(10:Int).natAbs < 18446744073709551616 then some (Z.D.int (10 ^ ((k:Int).toNat)),h) else none)=_;rw[if_pos ⟨by omega,by omega,by decide⟩,Int.toNat_natCast]
theorem agI:∀v∈[Z.D.str (tx "always"),.str (tx "where"),.str (tx "usually"),.str (tx "not"),.str (tx "and"),.str (tx "or")],∃w:S,v=.str w/\w.length<=12:=by
 intro v hv;simp only[List.mem_cons,List.not_mem_nil,or_false]at hv;rcases hv with rfl | rfl | rfl | rfl | rfl | rfl<;>exact ⟨_,rfl,by decide⟩
theorem agJ {scr:D}{N:List S}{na:Nat}{cell:Int}{x3 x4 x5 x6:Option D}{K:En}(hN:N≠[])(Q5:∀n∈N,n.length<=12)(hNn:N.length<=12)(hn:h[na]?=some (.lst (N.map .str)))
  (q:∀h' x3 x4 x5 x6,h<+:h'->K.nx [some scr,some (.ref na),some (.int cell),x3,x4,x5,x6] h'):
  bN sb (aD sb P (d+49)) E Iz K [some scr,some (.ref na),some (.int cell),x3,x4,x5,x6] h:=by
 simp! only[Iz];refine Nv (by decide) (by decide) λD=>?_;have hd:(h++[AO.lst (rl (54:Int).toNat D)])[h.length]?=some (.lst (rl 54 D)):=aC;have fH:h<+:h++[AO.lst (rl (54:Int).toNat D)]:=List.prefix_append _ _;generalize h++[AO.lst (rl (54:Int).toNat D)]=h1 at hd fH ⊢;generalize h.length=da at hd ⊢;have hn1:=aP fH hn;obtain ⟨v51,e51⟩:=bV (n:=54) (f:=D) (z:=51) (by decide) (by decide);obtain ⟨v52,e52⟩:=bV (n:=54) (f:=D) (z:=52) (by decide) (by decide);obtain ⟨Q7,e44⟩:=bV (n:=54) (f:=D) (z:=44) (by decide) (by decide);obtain ⟨v45,e45⟩:=bV (n:=54) (f:=D) (z:=45) (by decide) (by decide);obtain ⟨v46,e46⟩:=bV (n:=54) (f:=D) (z:=46) (by decide) (by decide);have go:∀(h2:AH) (sa:Nat) (M:List S),h1<+:h2->M≠[]->(∀n∈M,n.length<=12)->h2[sa]?=some (.lst (M.map .str))->
   bN sb (aD sb P (d+49)) E Iw K [some scr,some (.ref na),some (.int cell),some (.ref da),some (.ref sa),x5,x6] h2:=by
  intro h2 sa M dG hM hMl em;have hd2:=aP dG hd;simp! only[Iw];refine agv (by decide) hd2 em hM hMl λh3 t cY tl=>?_;have Hl:=aP cY hd2;refine Xh (by decide) Hl (by omega) λh4 t4 pr4 tl4=>?_;have GX:=aP pr4 Hl;refine c_long (by decide) GX (by omega) λt5 tl5=>?_;have m1:=@Jd h4 64 (by decide);have m2:=@Jd h4 15 (by decide);have i2:∃pl:Int,cB [Z.D.int (Q7 % 20),.int (cell % 10 ^ 64 * 10 ^ 15+Q7)] (v45 % 2)=some (.int pl):=by
   rcases (show v45 % 2=0\/v45 % 2=1 by omega) with e | e
   ·rw[e];exact ⟨_,rfl⟩
   ·rw[e];exact ⟨_,rfl⟩
  obtain ⟨pl,ep⟩:=i2;generalize h64:(10:Int) ^ 64=b64 at m1 ep;have hb:0 < b64:=by rw[<-h64];decide
  generalize h15:(10:Int) ^ 15=b15 at m2 ep;have hb2:-18446744073709551616 < b15/\b15 < 18446744073709551616:=by rw[<-h15];decide
  clear h64 h15;have e64:((64:Nat):Int)=64:=rfl;have ur:((15:Nat):Int)=15:=rfl;rw[e64]at m1;rw[ur]at m2;simp! only[QB,aQ GX,e44,e45,m1,m2,sG hb,Li hb2,aQ (aK (l:=[AO.lst [Z.D.int (Q7 % 20),.int (cell % b64 * b15+Q7)]]) GX),aQ aC,ep];simp! only[Qz,aQ (aK (l:=[AO.lst [Z.D.int (Q7 % 20),.int (cell % b64 * b15+Q7)]]) GX),e46];refine adn (by omega) λh6 pr6=>?_;simp! only;exact q _ _ _ _ _ (fH.trans (dG.trans (cY.trans (pr4.trans ((List.prefix_append _ _).trans pr6)))))
 simp! only[QF,QD,aQ hd,e51];cases v51 % 8 == 0 with
 | false=>
  simp! only;exact go h1 na N iB hN Q5 hn1
 | true=>
  obtain ⟨v,hv,ev⟩:=lq (xs:=[Z.D.str (tx "always"),.str (tx "where"),.str (tx "usually"),.str (tx "not"),.str (tx "and"),.str (tx "or")]) (z:=v52 % 6) (Int.emod_nonneg _ (by decide)) (Int.emod_lt_of_pos _ (by decide));obtain ⟨w,rfl,wl⟩:=agI v hv;simp! only[QC];generalize [Z.D.str (tx "always"),Z.D.str (tx "where"),Z.D.str (tx "usually"),Z.D.str (tx "not"),Z.D.str (tx "and"),Z.D.str (tx "or")]=L6 at ev hv ⊢;have e2:(h1++[AO.lst L6]++[AO.lst [Z.D.str w]]++[AO.lst (N.map Z.D.str++[Z.D.str w])])[(h1++[AO.lst L6]++[AO.lst [Z.D.str w]]).length]?=some (.lst ((N++[w]).map Z.D.str)):=by rw[aC];simp
  simp! only[aQ (aK (l:=[AO.lst L6]) hd),e52,aQ aC,ev];have hll:(N.map Z.D.str++[Z.D.str w]).length<=16777216:=by simp only[List.length_append,List.length_map,List.length_cons,List.length_nil];omega
  rw[eF (aK (aK hn1)) aC hll];simp! only;refine go _ _ (N++[w]) (pre_app (pre_app (List.prefix_append _ _))) (by simp) (λn hn=>?_) e2;rcases List.mem_append.mp hn with hn | hn
  ·exact Q5 n hn
  ·rw[List.mem_singleton]at hn;subst hn;exact wl
theorem agN (ns:List Int)(hl:ns.length<=63):aD sb P 50 26 [.eY (ns.map .int)] [] (λd _=>d=.bl true) λ_ _=>False:=by
 refine wp_call rfl rfl ?_;simp! only[Ni];refine Xj (by decide) λc=>?_;refine ZK (by decide) (by decide) λh1 na N fH _ hN1 hN Q5 hNg=>?_;rw[Nh,iz];have hcl:(cut (ns.map Z.D.int) (some 1) (some 41)).length<=63:=Nat.le_trans qC (by simpa using hl);have hc1:((h1++[AO.lst (cut (ns.map Z.D.int) (some 1) (some 41))])++[AO.lst [Z.D.int ns.length]])[h1.length]?=some (.lst (cut (ns.map Z.D.int) (some 1) (some 41))):=aK aC;have pr:h1<+:(h1++[AO.lst (cut (ns.map Z.D.int) (some 1) (some 41))])++[AO.lst [Z.D.int ns.length]]++[AO.lst (cut (ns.map Z.D.int) (some 1) (some 41)++[Z.D.int ns.length])]:=pre_app (pre_app (List.prefix_append _ _));have ec:((h1++[AO.lst (cut (ns.map Z.D.int) (some 1) (some 41))])++[AO.lst [Z.D.int ns.length]]++[AO.lst (cut (ns.map Z.D.int) (some 1) (some 41)++[Z.D.int ns.length])])[((h1++[AO.lst (cut (ns.map Z.D.int) (some 1) (some 41))])++[AO.lst [Z.D.int ns.length]]).length]?=some (.lst (cut (ns.map Z.D.int) (some 1) (some 41)++[Z.D.int ns.length])):=aC;generalize hcells:cut (ns.map Z.D.int) (some 1) (some 41)++[Z.D.int ns.length]=cells at pr ec;have hci:∀v∈cells,∃c:Int,v=.int c:=by
  rw[<-hcells];intro v hv;rcases List.mem_append.mp hv with hv | hv
  ·obtain ⟨c,_,e⟩:=List.mem_map.mp (Iu hv);exact ⟨c,e.symm⟩
  ·rw[List.mem_singleton]at hv;exact ⟨_,hv⟩
 have hcn:cells.length<=64:=by rw[<-hcells];simp;omega
 have ZL:∀Q:List Z.D->AH->Prop,Q [.ref ((h1++[AO.lst (cut (ns.map Z.D.int) (some 1) (some 41))])++[AO.lst [Z.D.int ns.length]]).length] ((h1++[AO.lst (cut (ns.map Z.D.int) (some 1) (some 41))])++[AO.lst [Z.D.int ns.length]]++[AO.lst cells])->bH sb (aD sb P 49) (λ_ _=>False) (.cons (.prim .add (.cons (.slc (.var 0) (.lit (.int 1)) (.lit (.int 41))) (.cons (.prim .bG (.cons (.prim .len (.cons (.var 0) .nil)) .nil)) .nil))) .nil) [some (.eY (ns.map .int)),some (.ref na),none,none,none,none,none] h1 Q:=by
  intro Q q;simp! only[afS (show (ns.map Z.D.int).length<=16777216 by simp;omega)];rw[List.length_map,eF hc1 aC (by rw[hcells];omega),hcells];simp! only;exact q
 generalize ((h1++[AO.lst (cut (ns.map Z.D.int) (some 1) (some 41))])++[AO.lst [Z.D.int ns.length]]).length=ca at ec ZL;generalize (h1++[AO.lst (cut (ns.map Z.D.int) (some 1) (some 41))])++[AO.lst [Z.D.int ns.length]]++[AO.lst cells]=h2 at pr ec ZL;refine jk (xs:=cells) (J:=gD ca) (vs:=[.ref ca]) (h1:=h2) (λi σ h'=>∃(x2 x3 x4 x5 x6:Option Z.D),h2<+:h'/\σ=[some (.eY (ns.map .int)),some (.ref na),x2,x3,x4,x5,x6]) ZL (G3 ec) ⟨_,_,_,_,_,iB,rfl⟩ ?_ ?_ ?_
 ·rintro i σ h' _ ⟨x2,x3,x4,x5,x6,Xn,_⟩;simp only[gD,aP Xn ec]
 ·rintro i v σ h' ev ⟨x2,x3,x4,x5,x6,Xn,rfl⟩;obtain ⟨cell,rfl⟩:=hci v (List.mem_of_getElem? ev);exact ⟨_,rfl,agJ (d:=0) hN (λn hn=>(hNg n hn).hi) Q5 (aP (pr.trans Xn) hN1) λh3 _ _ _ _ cY=>⟨_,_,_,_,_,Xn.trans cY,rfl⟩⟩
 ·rintro σ h' ⟨x2,x3,x4,x5,x6,Xn,rfl⟩;simp! only[Qy];refine Xj (by decide) λc=>?_;have m1:=@Jd h' 40 (by decide);generalize h64:(10:Int) ^ 40=b40 at m1;have hb:0 < b40:=by rw[<-h64];decide
  clear h64;rw[show ((40:Nat):Int)=40 from rfl]at m1;simp! only[m1,sG hb];exact agH λh''=>rfl
end
end gb
namespace gb
open PySem PySem.Spec PyProof.Rows L2 ZS
noncomputable def top (i:Nat):Stmt:=PySem.Challenge.pw_wontbook_k02_read_by_hand.main.body.getD i (.Pass ⟨0,0,0,0⟩)
noncomputable def inner (i j:Nat):Stmt:=match top i with | .ClassDef _ _ _ b _ _ _ _ _ _ _=>b.getD j (.Pass ⟨0,0,0,0⟩) | _=>.Pass ⟨0,0,0,0⟩
structure Txt (K:PySem.W.Frag)(w:World)(mg:Str->Option Value)(f0 f1 f2 f3 f4 f5 f6 f7 f8 f9 lH f11 lJ lK jt lM j7 lN lO j8 ju j9 lQ j_ lR lU jw c0 c1 c2 c3 c4 c5 c6 c7 c8 c9 gM gO fI:Addr)(e0 e1 e2 e3 e4 e5 e6 e7 e8 e9 e10 zF uf zG zH ur zJ zK zL zM rK um uo uq zN zO uh eI:FuncData):Prop where
 u0:FnD K "read_sentence" (top 21) f0 e0
 g0:Binds K e0 ["text","row"] []
 gd0:BnD K e0 ["text","row"] (.int 0)
 m0:mg "read_sentence"=some (.ref f0)
 k0:PySem.W.keepIn K (.ref f0)=true
 u1:dU K "tokens_of" "tokens_of" (top 22) f1 e1
 g1:Binds K e1 ["text"] []
 m1:mg "tokens_of"=some (.ref f1)
 k1:PySem.W.keepIn K (.ref f1)=true
 u2:dU K "piece_at" "piece_at" (top 23) f2 e2
 g2:Binds K e2 ["text","place"] []
 m2:mg "piece_at"=some (.ref f2)
 k2:PySem.W.keepIn K (.ref f2)=true
 u3:dU K "word_end" "word_end" (top 24) f3 e3
 g3:Binds K e3 ["text","place"] []
 m3:mg "word_end"=some (.ref f3)
 k3:PySem.W.keepIn K (.ref f3)=true
 u4:dU K "is_name" "is_name" (top 25) f4 e4
 g4:Binds K e4 ["word"] []
 m4:mg "is_name"=some (.ref f4)
 k4:PySem.W.keepIn K (.ref f4)=true
 u5:dU K "put_together" "put_together" (top 26) f5 e5
 g5:Binds K e5 ["tokens"] []
 m5:mg "put_together"=some (.ref f5)
 k5:PySem.W.keepIn K (.ref f5)=true
 u6:dU K "ended" "ended" (top 27) f6 e6
 g6:Binds K e6 ["begun","whole","joints"] []
 m6:mg "ended"=some (.ref f6)
 k6:PySem.W.keepIn K (.ref f6)=true
 u7:dU K "_law_draws" "_law_draws" (top 29) f7 e7
 g7:Binds K e7 ["cell","count"] []
 m7:mg "_law_draws"=some (.ref f7)
 k7:PySem.W.keepIn K (.ref f7)=true
 u8:dU K "_law_cell_at" "_law_cell_at" (top 30) f8 e8
 g8:Binds K e8 ["script","k"] []
 m8:mg "_law_cell_at"=some (.ref f8)
 k8:PySem.W.keepIn K (.ref f8)=true
 u9:dU K "_law_fresh" "_law_fresh" (top 31) f9 e9
 g9:Binds K e9 ["number","size"] []
 m9:mg "_law_fresh"=some (.ref f9)
 k9:PySem.W.keepIn K (.ref f9)=true
 u10:dU K "_law_names" "_law_names" (top 32) lH e10
 g10:Binds K e10 ["cell","size"] []
 m10:mg "_law_names"=some (.ref lH)
 k10:PySem.W.keepIn K (.ref lH)=true
 u11:dU K "_law_good" "_law_good" (top 33) f11 zF
 g11:Binds K zF ["drawn","names"] []
 m11:mg "_law_good"=some (.ref f11)
 k11:PySem.W.keepIn K (.ref f11)=true
 u12:dU K "_law_spoiled" "_law_spoiled" (top 34) lJ uf
 g12:Binds K uf ["text","drawn"] []
 m12:mg "_law_spoiled"=some (.ref lJ)
 k12:PySem.W.keepIn K (.ref lJ)=true
 u13:dU K "_law_long" "_law_long" (top 35) lK zG
 g13:Binds K zG ["text","drawn"] []
 m13:mg "_law_long"=some (.ref lK)
 k13:PySem.W.keepIn K (.ref lK)=true
 u14:dU K "_law_tokens" "_law_tokens" (top 36) jt zH
 g14:Binds K zH ["text"] []
 m14:mg "_law_tokens"=some (.ref jt)
 k14:PySem.W.keepIn K (.ref jt)=true
 u15:dU K "_law_blanks" "_law_blanks" (top 37) lM ur
 g15:Binds K ur ["tokens"] []
 m15:mg "_law_blanks"=some (.ref lM)
 Q8:PySem.W.keepIn K (.ref lM)=true
 u16:dU K "_law_flat" "_law_flat" (top 38) j7 zJ
 g16:Binds K zJ ["items"] []
 m16:mg "_law_flat"=some (.ref j7)
 NK:PySem.W.keepIn K (.ref j7)=true
 u17:dU K "_law_word" "_law_word" (top 39) lN zK
 g17:Binds K zK ["text"] []
 m17:mg "_law_word"=some (.ref lN)
 Q9:PySem.W.keepIn K (.ref lN)=true
 u18:dU K "_law_read" "_law_read" (top 40) lO zL
 g18:Binds K zL ["text"] []
 m18:mg "_law_read"=some (.ref lO)
 Q_:PySem.W.keepIn K (.ref lO)=true
 u19:dU K "_law_same" "_law_same" (top 41) j8 zM
 g19:Binds K zM ["found","due"] []
 m19:mg "_law_same"=some (.ref j8)
 NP:PySem.W.keepIn K (.ref j8)=true
 u20:dU K "_law_kinds" "_law_kinds" (top 42) ju rK
 g20:Binds K rK ["e"] []
 m20:mg "_law_kinds"=some (.ref ju)
 Nu:PySem.W.keepIn K (.ref ju)=true
 u21:dU K "_law_due_kinds" "_law_due_kinds" (top 43) j9 um
 g21:Binds K um ["kind"] []
 m21:mg "_law_due_kinds"=some (.ref j9)
 NQ:PySem.W.keepIn K (.ref j9)=true
 u22:dU K "_law_asked" "_law_asked" (top 44) lQ uo
 g22:Binds K uo ["text","how","place"] []
 m22:mg "_law_asked"=some (.ref lQ)
 Ra:PySem.W.keepIn K (.ref lQ)=true
 u23:dU K "_law_whole" "_law_whole" (top 45) j_ uq
 g23:Binds K uq ["found"] []
 m23:mg "_law_whole"=some (.ref j_)
 NT:PySem.W.keepIn K (.ref j_)=true
 u24:dU K "_law_made" "_law_made" (top 46) lR zN
 g24:Binds K zN ["place"] []
 m24:mg "_law_made"=some (.ref lR)
 Rb:PySem.W.keepIn K (.ref lR)=true
 u25:dU K "_law_right" "_law_right" (top 47) lU zO
 g25:Binds K zO ["text","how","place"] []
 m25:mg "_law_right"=some (.ref lU)
 Rc:PySem.W.keepIn K (.ref lU)=true
 u26:dU K "law" "law" (top 48) jw uh
 g26:Binds K uh ["script"] []
 m26:mg "law"=some (.ref jw)
 Xo:PySem.W.keepIn K (.ref jw)=true
 n0:PySem.W.nsIn K mainGlobals "WontError"=some (some (.ref c0))
 mc0:mg "WontError"=some (.ref c0)
 n1:PySem.W.nsIn K mainGlobals "RowError"=some (some (.ref c1))
 mc1:mg "RowError"=some (.ref c1)
 n2:PySem.W.nsIn K mainGlobals "NoRow"=some (some (.ref c2))
 mc2:mg "NoRow"=some (.ref c2)
 n3:PySem.W.nsIn K mainGlobals "TooLong"=some (some (.ref c3))
 Xp:mg "TooLong"=some (.ref c3)
 n4:PySem.W.nsIn K mainGlobals "NoSentence"=some (some (.ref c4))
 Xq:mg "NoSentence"=some (.ref c4)
 n5:PySem.W.nsIn K mainGlobals "Twice"=some (some (.ref c5))
 mc5:mg "Twice"=some (.ref c5)
 n6:PySem.W.nsIn K mainGlobals "TooMany"=some (some (.ref c6))
 mc6:mg "TooMany"=some (.ref c6)
 n7:PySem.W.nsIn K mainGlobals "NoAsk"=some (some (.ref c7))
 mc7:mg "NoAsk"=some (.ref c7)
 n8:PySem.W.nsIn K mainGlobals "NoName"=some (some (.ref c8))
 mc8:mg "NoName"=some (.ref c8)
 n9:PySem.W.nsIn K mainGlobals "NotTold"=some (some (.ref c9))
 mc9:mg "NotTold"=some (.ref c9)
 n10:PySem.W.nsIn K mainGlobals "Torn"=some (some (.ref gM))
 agR:mg "Torn"=some (.ref gM)
 Xr:PySem.W.nsIn K mainGlobals "NoNews"=some (some (.ref gO))
 agS:mg "NoNews"=some (.ref gO)
 uI:dU K "__init__" "RowError.__init__" (inner 2 0) fI eI
 gI:Binds K eI ["self","row"] []
 nI:PySem.W.isFn K (.ref fI)=true
 Xu:PySem.W.keepIn K (.ref c1)=true
 xr1:w6 K fI c1
 Xv:PySem.W.keepIn K (.ref c2)=true
 xr2:w6 K fI c2
 NZ:PySem.W.keepIn K (.ref c3)=true
 xr3:w6 K fI c3
 N5:PySem.W.keepIn K (.ref c4)=true
 xr4:w6 K fI c4
 Xw:PySem.W.keepIn K (.ref c5)=true
 xr5:w6 K fI c5
 Xx:PySem.W.keepIn K (.ref c6)=true
 xr6:w6 K fI c6
 ir9:dM K (.ref c9) mZ m_
 agT:dM K (.ref gM) wG wH
 agU:dM K (.ref gO) ql qm
 ir7:dM K (.ref c7) sU sV
 ir8:dM K (.ref c8) qp qu
 ir6:dM K (.ref c6) ni nj
 ir1:dM K (.ref c1) lu lA
 ir0:dM K (.ref c0) jz jA
 ir2:dM K (.ref c2) sW sX
 ir3:dM K (.ref c3) nq nA
 ir4:dM K (.ref c4) iC iG
 ir5:dM K (.ref c5) sY sZ
 vV:dM K (.type "ValueError") iI iJ
 rows:Ay K rcs
 ca0:uW K [Z.tx "TooLong",Z.tx "NoSentence"] c1
 gk0:BnK K e0 ["text","row"] "row"
 Dc:mg "ValueError"=none
 agV:mg "bool"=none
 ajA:mg "int"=none
 aJ:mg "isinstance"=none
 cV:mg "len"=none
 agW:mg "list"=none
 eE:mg "range"=none
 Ho:mg "reversed"=none
 KZ:mg "str"=none
 Rf:mg "tuple"=none
 zP:MN K mg "MOST_SIGNS" lB
 Xy:MN K mg "PIECES" FZ
 Tr:MN K mg "LETTERS" A_
 Kv:MN K mg "KEPT_WORDS" qR
 Hq:MN K mg "MOST_LETTERS" gj
 Xz:MN K mg "JOINTS" M8
 Hr:GlT K w mg "TIGHTER" cL
structure Fns [R0](Pr:Program)(w:World)(K:PySem.W.Frag)(mg:Str->Option Value)(base:Heap)(k:Nat)(f0 f1 f2 f3 f4 f5 f6 f7 f8 f9 lH f11 lJ lK jt lM j7 lN lO j8 ju j9 lQ j_ lR lU jw c0 c1 c2 c3 c4 c5 c6 c7 c8 c9 gM gO fI:Addr)(e0 e1 e2 e3 e4 e5 e6 e7 e8 e9 e10 zF uf zG zH ur zJ zK zL zM rK um uo uq zN zO uh eI:FuncData)(Γ:Z.b_):Prop where
 x0:aX Pr w K mg base (qM Pr w) (k+2) f0 e0 ["text","row"] (EY K Γ 0)
 f0:aX Pr w K mg base bO (k+2) f0 e0 ["text","row"] (bA K Γ 0)
 f1:aX Pr w K mg base bO (k+2) f1 e1 ["text"] (bA K Γ 1)
 f2:aX Pr w K mg base bO (k+2) f2 e2 ["text","place"] (bA K Γ 2)
 f3:aX Pr w K mg base bO (k+2) f3 e3 ["text","place"] (bA K Γ 3)
 f4:aX Pr w K mg base bO (k+2) f4 e4 ["word"] (bA K Γ 4)
 f5:aX Pr w K mg base bO (k+2) f5 e5 ["tokens"] (bA K Γ 5)
 f6:aX Pr w K mg base bO (k+2) f6 e6 ["begun","whole","joints"] (bA K Γ 6)
 f7:aX Pr w K mg base bO (k+2) f7 e7 ["cell","count"] (bA K Γ 7)
 f8:aX Pr w K mg base bO (k+2) f8 e8 ["script","k"] (bA K Γ 8)
 f9:aX Pr w K mg base bO (k+2) f9 e9 ["number","size"] (bA K Γ 9)
 lH:aX Pr w K mg base bO (k+2) lH e10 ["cell","size"] (bA K Γ 10)
 f11:aX Pr w K mg base bO (k+2) f11 zF ["drawn","names"] (bA K Γ 11)
 lJ:aX Pr w K mg base bO (k+2) lJ uf ["text","drawn"] (bA K Γ 12)
 lK:aX Pr w K mg base bO (k+2) lK zG ["text","drawn"] (bA K Γ 13)
 jt:aX Pr w K mg base bO (k+2) jt zH ["text"] (bA K Γ 14)
 lM:aX Pr w K mg base bO (k+2) lM ur ["tokens"] (bA K Γ 15)
 j7:aX Pr w K mg base bO (k+2) j7 zJ ["items"] (bA K Γ 16)
 lN:aX Pr w K mg base bO (k+2) lN zK ["text"] (bA K Γ 17)
 lO:aX Pr w K mg base bO (k+2) lO zL ["text"] (bA K Γ 18)
 j8:aX Pr w K mg base bO (k+2) j8 zM ["found","due"] (bA K Γ 19)
 ju:aX Pr w K mg base bO (k+2) ju rK ["e"] (bA K Γ 20)
 j9:aX Pr w K mg base bO (k+2) j9 um ["kind"] (bA K Γ 21)
 lQ:aX Pr w K mg base bO (k+2) lQ uo ["text","how","place"] (bA K Γ 22)
 j_:aX Pr w K mg base bO (k+2) j_ uq ["found"] (bA K Γ 23)
 lR:aX Pr w K mg base bO (k+2) lR zN ["place"] (bA K Γ 24)
 lU:aX Pr w K mg base bO (k+2) lU zO ["text","how","place"] (bA K Γ 25)
 jw:aX Pr w K mg base bO (k+2) jw uh ["script"] (bA K Γ 26)
seal L2.PE L2.PT L2.PA L2.PS L2.lX L2.PW L2.PI L2.bT L2.P_ L2.eV L2.uP L2.uO ZS.Mr L2.Binds
section
variable {Pr:Program}{w:World}{K:PySem.W.Frag}{mg:Str->Option Value}{base:Heap}{k:Nat}{f0 f1 f2 f3 f4 f5 f6 f7 f8 f9 lH f11 lJ lK jt lM j7 lN lO j8 ju j9 lQ j_ lR lU jw c0 c1 c2 c3 c4 c5 c6 c7 c8 c9 gM gO fI:Addr}{e0 e1 e2 e3 e4 e5 e6 e7 e8 e9 e10 zF uf zG zH ur zJ zK zL zM rK um uo uq zN zO uh eI:FuncData}
theorem Je:bw ["text","row","tokens","sentence"] ["text","row"] (aG (top 21)):=⟨rfl,rfl,rfl,by decide+kernel,rfl,by decide+kernel,by decide+kernel⟩
theorem N6:bw ["text","tokens","place","piece"] ["text"] (aG (top 22)):=⟨rfl,rfl,rfl,by decide+kernel,rfl,by decide+kernel,by decide+kernel⟩
theorem ZM:bw ["text","place","piece","word"] ["text","place"] (aG (top 23)):=⟨rfl,rfl,rfl,by decide+kernel,rfl,by decide+kernel,by decide+kernel⟩
theorem agX:bw ["text","place"] ["text","place"] (aG (top 24)):=⟨rfl,rfl,rfl,by decide+kernel,rfl,by decide+kernel,by decide+kernel⟩
theorem amt:bw ["word"] ["word"] (aG (top 25)):=⟨rfl,rfl,rfl,by decide+kernel,rfl,by decide+kernel,by decide+kernel⟩
theorem wN:bw ["tokens","begun","whole","token","stands_behind"] ["tokens"] (aG (top 26)):=⟨rfl,rfl,rfl,by decide+kernel,rfl,by decide+kernel,by decide+kernel⟩
theorem agY:bw ["begun","whole","joints"] ["begun","whole","joints"] (aG (top 27)):=⟨rfl,rfl,rfl,by decide+kernel,rfl,by decide+kernel,by decide+kernel⟩
theorem N7:bw ["cell","count","number","drawn","k"] ["cell","count"] (aG (top 29)):=⟨rfl,rfl,rfl,by decide+kernel,rfl,by decide+kernel,by decide+kernel⟩
theorem amu:bw ["script","k"] ["script","k"] (aG (top 30)):=⟨rfl,rfl,rfl,by decide+kernel,rfl,by decide+kernel,by decide+kernel⟩
theorem Jf:bw ["number","size","letters","name","k"] ["number","size"] (aG (top 31)):=⟨rfl,rfl,rfl,by decide+kernel,rfl,by decide+kernel,by decide+kernel⟩
theorem gR:bw ["cell","size","letters","some","drawn","base","at","names","k","name","sign"] ["cell","size"] (aG (top 32)):=⟨rfl,rfl,rfl,by decide+kernel,rfl,by decide+kernel,by decide+kernel⟩
theorem iQ:bw ["drawn","names","size","opened","shut","k","one","other","text","name"] ["drawn","names"] (aG (top 33)):=⟨rfl,rfl,rfl,by decide+kernel,rfl,by decide+kernel,by decide+kernel⟩
theorem qx:bw ["text","drawn","some","signs","k","at","new"] ["text","drawn"] (aG (top 34)):=⟨rfl,rfl,rfl,by decide+kernel,rfl,by decide+kernel,by decide+kernel⟩
theorem K1:bw ["text","drawn","most","k"] ["text","drawn"] (aG (top 35)):=⟨rfl,rfl,rfl,by decide+kernel,rfl,by decide+kernel,by decide+kernel⟩
theorem Tt:bw ["text","tokens","sign"] ["text"] (aG (top 36)):=⟨rfl,rfl,rfl,by decide+kernel,rfl,by decide+kernel,by decide+kernel⟩
theorem Hs:bw ["tokens","rimmed","k","ahead","behind"] ["tokens"] (aG (top 37)):=⟨rfl,rfl,rfl,by decide+kernel,rfl,by decide+kernel,by decide+kernel⟩
theorem nG:bw ["items","back","item","k","terms","tree","term"] ["items"] (aG (top 38)):=⟨rfl,rfl,rfl,by decide+kernel,rfl,by decide+kernel,by decide+kernel⟩
theorem aby:bw ["text","sign"] ["text"] (aG (top 39)):=⟨rfl,rfl,rfl,by decide+kernel,rfl,by decide+kernel,by decide+kernel⟩
theorem Ef:bw ["text","tokens","stack","token","tree"] ["text"] (aG (top 40)):=⟨rfl,rfl,rfl,by decide+kernel,rfl,by decide+kernel,by decide+kernel⟩
theorem abz:bw ["found","due","k"] ["found","due"] (aG (top 41)):=⟨rfl,rfl,rfl,by decide+kernel,rfl,by decide+kernel,by decide+kernel⟩
theorem K3:bw ["e","kinds"] ["e"] (aG (top 42)):=⟨rfl,rfl,rfl,by decide+kernel,rfl,by decide+kernel,by decide+kernel⟩
theorem ajB:bw ["kind"] ["kind"] (aG (top 43)):=⟨rfl,rfl,rfl,by decide+kernel,rfl,by decide+kernel,by decide+kernel⟩
theorem gU:bw ["text","how","place","kinds","others","at","found","e"] ["text","how","place"] (aG (top 44)):=⟨rfl,rfl,rfl,by decide+kernel,rfl,by decide+kernel,by decide+kernel⟩
theorem ajC:bw ["found"] ["found"] (aG (top 45)):=⟨rfl,rfl,rfl,by decide+kernel,rfl,by decide+kernel,by decide+kernel⟩
theorem K4:bw ["place","made","k","e"] ["place"] (aG (top 46)):=⟨rfl,rfl,rfl,by decide+kernel,rfl,by decide+kernel,by decide+kernel⟩
theorem K5:bw ["text","how","place","due","kinds","at","found"] ["text","how","place"] (aG (top 47)):=⟨rfl,rfl,rfl,by decide+kernel,rfl,by decide+kernel,by decide+kernel⟩
theorem uw:bw ["script","names","cell","drawn","some","text","place"] ["script"] (aG (top 48)):=⟨rfl,rfl,rfl,by decide+kernel,rfl,by decide+kernel,by decide+kernel⟩
theorem amv:bw ["self","row"] ["self","row"] (aG (inner 2 0)):=⟨rfl,rfl,rfl,by decide+kernel,rfl,by decide+kernel,by decide+kernel⟩
theorem nQ [R0]{X:Cx}{mg':Str->Option Value}{w':World}{C f0 f1 f2 f3 f4 f5 f6 f7 f8 f9 lH f11 lJ lK jt lM j7 lN lO j8 ju j9 lQ j_ lR lU jw c0 c1 c2 c3 c4 c5 c6 c7 c8 c9 gM gO fI:Addr}{e0 e1 e2 e3 e4 e5 e6 e7 e8 e9 e10 zF uf zG zH ur zJ zK zL zM rK um uo uq zN zO uh eI:FuncData}{k:Nat}(T:Txt X.K w' mg' f0 f1 f2 f3 f4 f5 f6 f7 f8 f9 lH f11 lJ lK jt lM j7 lN lO j8 ju j9 lQ j_ lR lU jw c0 c1 c2 c3 c4 c5 c6 c7 c8 c9 gM gO fI e0 e1 e2 e3 e4 e5 e6 e7 e8 e9 e10 zF uf zG zH ur zJ zK zL zM rK um uo uq zN zO uh eI)(ex:w6 X.K fI C)(kp:PySem.W.keepIn X.K (.ref C)=true):KJ X (k+1) fI eI C:=afr T.uI amv rfl (Or.inl rfl) (Or.inl rfl) (λ_ _=>rfl) ex T.nI T.gI kp
section
variable [r0:R0](T:Txt K w mg f0 f1 f2 f3 f4 f5 f6 f7 f8 f9 lH f11 lJ lK jt lM j7 lN lO j8 ju j9 lQ j_ lR lU jw c0 c1 c2 c3 c4 c5 c6 c7 c8 c9 gM gO fI e0 e1 e2 e3 e4 e5 e6 e7 e8 e9 e10 zF uf zG zH ur zJ zK zL zM rK um uo uq zN zO uh eI)(FA:∀r:R0,@Fns r Pr w K mg base k f0 f1 f2 f3 f4 f5 f6 f7 f8 f9 lH f11 lJ lK jt lM j7 lN lO j8 ju j9 lQ j_ lR lU jw c0 c1 c2 c3 c4 c5 c6 c7 c8 c9 gM gO fI e0 e1 e2 e3 e4 e5 e6 e7 e8 e9 e10 zF uf zG zH ur zJ zK zL zM rK um uo uq zN zO uh eI (Z.aD sb P k))
include T FA
theorem d_0:aX Pr w K mg base bO (k+3) f0 e0 ["text","row"] (bA K (Z.aD sb P (k+1)) 0):=
 have F:=FA r0
 Zj T.u0 Je rfl rfl rfl λcdv A outer s H E E' hr=>
  (aj (bx (aV (gP rfl) Mi (cG cU T.cV cH (ak (zv 0) aA)) (MP T.zP) rfl)
  (aj (M7 T.Xp T.NZ (zv 1))
  aq)
  aq)
  (aj (aO 2 Je.nd (cj hr F.f1 T.m1 T.k1 T.g1 (ak (zv 0) aA)))
  (aj (aO 3 Je.nd (Gw (jY (sS rfl) qj (zv 2) rfl) zn (cj hr F.f5 T.m5 T.k5 T.g5 (ak (zv 2) aA))))
  (aj (bx (jY (sS rfl) qj (zv 3) rfl)
  (aj (M7 T.Xq T.N5 (zv 1))
  aq)
  aq)
  (aj (aR (zv 3))
  aq)))))
theorem amw:aX Pr w K mg base (qM Pr w) (k+3) f0 e0 ["text","row"] (EY K (Z.aD sb P (k+1)) 0):=
 have F:=FA r0
 WY T.u0 Je rfl rfl rfl λcdv A outer s H E E' hr hx=>
  (aj (bx (aV (gP rfl) Mi (cG cU T.cV cH (ak (zv 0) aA)) (MP T.zP) rfl)
  (aj (Qw hx rfl hr (nQ T T.xr3 T.NZ) T.Xp T.n3 (zv 1))
  aq)
  aq)
  (aj (aO 2 Je.nd (cj hr F.f1 T.m1 T.k1 T.g1 (ak (zv 0) aA)))
  (aj (aO 3 Je.nd (Gw (jY (sS rfl) qj (zv 2) rfl) zn (cj hr F.f5 T.m5 T.k5 T.g5 (ak (zv 2) aA))))
  (aj (bx (jY (sS rfl) qj (zv 3) rfl)
  (aj (Qw hx rfl hr (nQ T T.xr4 T.N5) T.Xq T.n4 (zv 1))
  aq)
  aq)
  (aj (aR (zv 3))
  aq)))))
theorem d_1:aX Pr w K mg base bO (k+3) f1 e1 ["text"] (bA K (Z.aD sb P (k+1)) 1):=
 have F:=FA r0
 cg T.u1 N6 rfl rfl rfl λcdv A outer s H E E' hr=>
  (aj (aO 1 N6.nd (aY aA))
  (aj (aO 2 N6.nd zi)
  (aj (Fy PassesOwn.never (aV (gP rfl) RQ (zv 2) (cG cU T.cV cH (ak (zv 0) aA)) rfl)
  (aj (aO 3 N6.nd (cj hr F.f2 T.m2 T.k2 T.g2 (ak (zv 0) (ak (zv 2) aA))))
  (aj (bx (jY (sS rfl) qj (zv 3) rfl)
  (aj (aR zn)
  aq)
  aq)
  (aj (gB (iZ (m:=.list) PySem.F.plainAttrs_list PySem.F.slot_list_append PySem.F.type_list_append dh (zv 1) (ak (iZ (m:=.str) PySem.F.plainAttrs_str PySem.F.slot_str_strip PySem.F.type_str_strip m_strip (zv 3) (ak (zs (by decide+kernel) (by decide+kernel)) aA)) aA)))
  (aj (afd 2 N6.nd (cG cU T.cV cH (ak (zv 3) aA)))
  aq)))))
  (aj (aR (zv 1))
  aq))))
theorem d_2:aX Pr w K mg base bO (k+3) f2 e2 ["text","place"] (bA K (Z.aD sb P (k+1)) 2):=
 have F:=FA r0
 cg T.u2 ZM rfl rfl rfl λcdv A outer s H E E' hr=>
  (aj (fY 2 PassesOwn.never rfl ZM.nd (Ak (MP T.Xy))
  (aj (bx (i_ (iZ (m:=.str) PySem.F.plainAttrs_str PySem.F.slot_str_startswith PySem.F.type_str_startswith WL (zv 0) (ak (zv 2) (ak (zv 1) aA))))
  (aj (aR (zv 2))
  aq)
  aq)
  aq))
  (aj (aO 3 ZM.nd (Qn (zv 0) (zv 1) (cj hr F.f3 T.m3 T.k3 T.g3 (ak (zv 0) (ak (zv 1) aA)))))
  (aj (aR (Gw (i_ (cj hr F.f4 T.m4 T.k4 T.g4 (ak (zv 3) aA))) (zv 3) zn))
  aq)))
theorem d_3:aX Pr w K mg base bO (k+3) f3 e3 ["text","place"] (bA K (Z.aD sb P (k+1)) 3):=
 have F:=FA r0
 cg T.u3 agX rfl rfl rfl λcdv A outer s H E E' hr=>
  (aj (Fy PassesOwn.never (PW.pt (Aj (aV (gP rfl) RQ (zv 1) (cG cU T.cV cH (ak (zv 0) aA)) rfl) (uR (aV (Qu (.inl rfl)) aa5 (bM hr (zv 0) (zv 1)) (MP T.Tr) rfl))))
  (aj (afd 1 agX.nd zi)
  aq))
  (aj (aR (zv 1))
  aq))
theorem d_4:aX Pr w K mg base bO (k+3) f4 e4 ["word"] (bA K (Z.aD sb P (k+1)) 4):=
 have F:=FA r0
 cg T.u4 amt rfl rfl rfl λcdv A outer s H E E' hr=>
  (aj (aR (uQ (YD RT RT zi (cG cU T.cV cH (ak (zv 0) aA)) (MP T.Hq) rfl) (Ai (nM (Dy (zu hr)) (zv 0) (MP T.Kv) rfl))))
  aq)
theorem d_5:aX Pr w K mg base bO (k+3) f5 e5 ["tokens"] (bA K (Z.aD sb P (k+1)) 5):=
 have F:=FA r0
 cg T.u5 wN rfl rfl rfl λcdv A outer s H E E' hr=>
  (aj (aO 1 wN.nd (aY aA))
  (aj (aO 2 wN.nd zn)
  (aj (fY 3 PassesOwn.never rfl wN.nd (Ak (zv 0))
  (aj (aO 4 wN.nd (al9 T.Hr (zv 3)))
  (aj (bx (aV (bZ rfl) (dg (zu hr)) (zv 4) (le_none qj (zv 2) rfl) rfl)
  (aj (aR zn)
  aq)
  aq)
  (aj (bx (i_ (zv 4))
  (aj (aO 2 wN.nd (cj hr F.f6 T.m6 T.k6 T.g6 (ak (zv 1) (ak (zv 2) (ak (aiC T.Hr (zv 3)) aA)))))
  aq)
  aq)
  (aj (bx (aV (bZ rfl) (dg (zu hr)) (zv 3) (zs (by decide+kernel) (by decide+kernel)) rfl)
  (aj (bx (qL (i_ (zv 1)))
  (aj (aR zn)
  aq)
  aq)
  (aj (gB (DG (m:=.list) PySem.F.plainAttrs_list PySem.F.slot_list_pop PySem.F.type_list_pop Dz (zv 1)))
  aq))
  (aj (bx (i_ (zv 4))
  (aj (gB (iZ (m:=.list) PySem.F.plainAttrs_list PySem.F.slot_list_append PySem.F.type_list_append dh (zv 1) (ak (d8 (ak (zv 3) (ak (zv 2) aA))) aA)))
  (aj (aO 2 wN.nd zn)
  aq))
  (aj (bx (PW.pt (kW (aV (bZ rfl) (dg (zu hr)) (zv 3) (zs (by decide+kernel) (by decide+kernel)) rfl) (kO (aV (bZ rfl) (dg (zu hr)) (zv 3) (zs (by decide+kernel) (by decide+kernel)) rfl))))
  (aj (gB (iZ (m:=.list) PySem.F.plainAttrs_list PySem.F.slot_list_append PySem.F.type_list_append dh (zv 1) (ak (d8 (ak (zv 3) aA)) aA)))
  aq)
  (aj (aO 2 wN.nd (d8 (ak (zs (by decide+kernel) (by decide+kernel)) (ak (zv 3) aA))))
  aq))
  aq))
  aq))
  aq)))))
  (aj (bx (jY (sS rfl) qj (zv 2) rfl)
  (aj (aR zn)
  aq)
  aq)
  (aj (aO 2 wN.nd (cj hr F.f6 T.m6 T.k6 T.g6 (ak (zv 1) (ak (zv 2) (ak (MP T.Xz) aA)))))
  (aj (aR (Gw (i_ (zv 1)) zn (zv 2)))
  aq))))))
theorem d_6:aX Pr w K mg base bO (k+3) f6 e6 ["begun","whole","joints"] (bA K (Z.aD sb P (k+1)) 6):=
 have F:=FA r0
 cg T.u6 agY rfl rfl rfl λcdv A outer s H E E' hr=>
  (aj (Fy PassesOwn.never (PW.pt (Aj (i_ (zv 0)) (uR (aV (lg rfl) (Ii (zu hr)) (bM hr (bM hr (zv 0) (sI sO zi)) zi) (zv 2) rfl))))
  (aj (aO 1 agY.nd (aF aU (DG (m:=.list) PySem.F.plainAttrs_list PySem.F.slot_list_pop PySem.F.type_list_pop Dz (zv 0)) (d8 (ak (zv 1) aA))))
  aq))
  (aj (aR (zv 1))
  aq))
theorem d_7:aX Pr w K mg base bO (k+3) f7 e7 ["cell","count"] (bA K (Z.aD sb P (k+1)) 7):=
 have F:=FA r0
 cg T.u7 N7 rfl rfl rfl λcdv A outer s H E E' hr=>
  (aj (aO 2 N7.nd (aF bR (aF k_ (aF aU (aF bR (zv 0) zi) zi) zi) zi))
  (aj (aO 3 N7.nd (aY aA))
  (aj (fY 4 PassesOwn.never rfl N7.nd (fj rfl T.eE (ak (zv 1) aA) rfl)
  (aj (aO 2 N7.nd (aF bR (aF k_ (zv 2) zi) zi))
  (aj (gB (iZ (m:=.list) PySem.F.plainAttrs_list PySem.F.slot_list_append PySem.F.type_list_append dh (zv 3) (ak (aF uT (zv 2) zi) aA)))
  aq)))
  (aj (aR (zv 3))
  aq))))
theorem d_8:aX Pr w K mg base bO (k+3) f8 e8 ["script","k"] (bA K (Z.aD sb P (k+1)) 8):=
 have F:=FA r0
 cg T.u8 amu rfl rfl rfl λcdv A outer s H E E' hr=>
  (aj (bx (aV (gP rfl) RQ (zv 1) (cG cU T.cV cH (ak (zv 0) aA)) rfl)
  (aj (aR (bM hr (zv 0) (zv 1)))
  aq)
  aq)
  (aj (aR zi)
  aq))
theorem d_9:aX Pr w K mg base bO (k+3) f9 e9 ["number","size"] (bA K (Z.aD sb P (k+1)) 9):=
 have F:=FA r0
 cg T.u9 Jf rfl rfl rfl λcdv A outer s H E E' hr=>
  (aj (aO 2 Jf.nd (zs (by decide+kernel) (by decide+kernel)))
  (aj (aO 3 Jf.nd (zs (by decide+kernel) (by decide+kernel)))
  (aj (fY 4 PassesOwn.never rfl Jf.nd (fj rfl T.eE (ak (zv 1) aA) rfl)
  (aj (aO 0 Jf.nd (aF bR (aF aU (aF k_ (zv 0) zi) zi) zi))
  (aj (aO 3 Jf.nd (aF aU (zv 3) (bM hr (zv 2) (aF bR (aF uT (zv 0) zi) zi))))
  aq)))
  (aj (aR (zv 3))
  aq))))
theorem amx:aX Pr w K mg base bO (k+3) lH e10 ["cell","size"] (bA K (Z.aD sb P (k+1)) 10):=
 have F:=FA r0
 cg T.u10 gR rfl rfl rfl λcdv A outer s H E E' hr=>
  (aj (aO 2 gR.nd (zs (by decide+kernel) (by decide+kernel)))
  (aj (aO 3 gR.nd (aY (ak (zs (by decide+kernel) (by decide+kernel)) (ak (zs (by decide+kernel) (by decide+kernel)) (ak (zs (by decide+kernel) (by decide+kernel)) (ak (zs (by decide+kernel) (by decide+kernel)) (ak (zs (by decide+kernel) (by decide+kernel)) (ak (zs (by decide+kernel) (by decide+kernel)) (ak (zs (by decide+kernel) (by decide+kernel)) (ak (zs (by decide+kernel) (by decide+kernel)) (ak (zs (by decide+kernel) (by decide+kernel)) (ak (zs (by decide+kernel) (by decide+kernel)) (ak (zs (by decide+kernel) (by decide+kernel)) (ak (zs (by decide+kernel) (by decide+kernel)) (ak (zs (by decide+kernel) (by decide+kernel)) (ak (zs (by decide+kernel) (by decide+kernel)) aA))))))))))))))))
  (aj (aO 3 gR.nd (aF aU (zv 3) (aY (ak (zs (by decide+kernel) (by decide+kernel)) (ak (zs (by decide+kernel) (by decide+kernel)) aA)))))
  (aj (aO 4 gR.nd (cj hr F.f7 T.m7 T.k7 T.g7 (ak (zv 0) (ak zi aA))))
  (aj (aO 5 gR.nd (cj hr F.f9 T.m9 T.k9 T.g9 (ak (bM hr (zv 4) zi) (ak (aF aU zi (aF bR (bM hr (zv 4) zi) zi)) aA))))
  (aj (aO 6 gR.nd (aF bR (bM hr (zv 4) zi) (cG cU T.cV cH (ak (zv 5) aA))))
  (aj (aO 7 gR.nd (aY aA))
  (aj (fY 8 PassesOwn.never rfl gR.nd (fj rfl T.eE (ak (zv 1) aA) rfl)
  (aj (aO 9 gR.nd (cj hr F.f9 T.m9 T.k9 T.g9 (ak (bM hr (zv 4) (aF aU zi (zv 8))) (ak (aF aU zi (aF bR (aF uT (bM hr (zv 4) (aF aU zi (zv 8))) zi) zi)) aA))))
  (aj (bx (aV (gP rfl) RQ (aF bR (bM hr (zv 4) zi) zi) zi rfl)
  (aj (aO 10 gR.nd (bM hr (zv 2) (aF bR (aF aU (bM hr (zv 4) zi) (aF k_ (zv 8) (bM hr (aY (ak zi (ak zi (ak zi (ak zi (ak zi (ak zi aA))))))) (aF bR (bM hr (zv 4) zi) zi)))) zi)))
  (aj (aO 9 gR.nd (aF aU (aF aU (Wk (zv 5) (zv 6)) (zv 10)) (Mq (zv 5) (aF aU (zv 6) zi))))
  aq))
  aq)
  (aj (bx (aV (bZ rfl) (dg (zu hr)) (aF bR (bM hr (zv 4) zi) zi) zi rfl)
  (aj (aO 9 gR.nd (bM hr (zv 3) (aF bR (aF aU (bM hr (zv 4) zi) (aF k_ zi (zv 8))) zi)))
  aq)
  aq)
  (aj (bx (aV (lg rfl) (Ii (zu hr)) (zv 9) (d8 (ak (zs (by decide+kernel) (by decide+kernel)) (ak (zs (by decide+kernel) (by decide+kernel)) (ak (zs (by decide+kernel) (by decide+kernel)) (ak (zs (by decide+kernel) (by decide+kernel)) (ak (zs (by decide+kernel) (by decide+kernel)) (ak (zs (by decide+kernel) (by decide+kernel)) aA))))))) rfl)
  (aj (aO 9 gR.nd (aF aU (zv 9) (zs (by decide+kernel) (by decide+kernel))))
  aq)
  aq)
  (aj (bx (aV (lg rfl) (Dy (zu hr)) (zv 9) (zv 7) rfl)
  (aj (gB (iZ (m:=.list) PySem.F.plainAttrs_list PySem.F.slot_list_append PySem.F.type_list_append dh (zv 7) (ak (zv 9) aA)))
  aq)
  aq)
  aq))))))
  (aj (aR (zv 7))
  aq)))))))))
theorem amy:aX Pr w K mg base bO (k+3) f11 zF ["drawn","names"] (bA K (Z.aD sb P (k+1)) 11):=
 have F:=FA r0
 cg T.u11 iQ rfl rfl rfl λcdv A outer s H E E' hr=>
  (aj (aO 2 iQ.nd (aF aU zi (aF bR (bM hr (zv 0) zi) zi)))
  (aj (aO 3 iQ.nd (aF k_ (aY (ak zi aA)) (zv 2)))
  (aj (aO 4 iQ.nd (aF k_ (aY (ak zi aA)) (zv 2)))
  (aj (fY 5 PassesOwn.never rfl iQ.nd (fj rfl T.eE (ak (aF bR (bM hr (zv 0) zi) zi) aA) rfl)
  (aj (aO 6 iQ.nd (aF bR (bM hr (zv 0) (aF aU zi (zv 5))) (zv 2)))
  (aj (aO 7 iQ.nd (aF aU (zv 6) (aF bR (bM hr (zv 0) (aF aU zi (zv 5))) (aF aaX (zv 2) (zv 6)))))
  (aj (R5 hr (aF aU (bM hr (zv 3) (zv 6)) zi) (zv 3) (zv 6))
  (aj (R5 hr (aF aU (bM hr (zv 4) (zv 7)) zi) (zv 4) (zv 7))
  aq)))))
  (aj (aO 8 iQ.nd (zs (by decide+kernel) (by decide+kernel)))
  (aj (fY 5 PassesOwn.never rfl iQ.nd (fj rfl T.eE (ak (zv 2) aA) rfl)
  (aj (bx (aV (gP rfl) Mi (zv 5) zi rfl)
  (aj (aO 8 iQ.nd (aF aU (zv 8) (bM hr (aY (ak (zs (by decide+kernel) (by decide+kernel)) (ak (zs (by decide+kernel) (by decide+kernel)) aA))) (aF bR (bM hr (zv 0) (aF aU zi (zv 5))) zi))))
  aq)
  aq)
  (aj (aO 8 iQ.nd (aF aU (aF aU (zv 8) (aF GZ (zs (by decide+kernel) (by decide+kernel)) (aF uT (aF bR (bM hr (zv 0) (aF aU zi (zv 5))) zi) zi))) (aF GZ (zs (by decide+kernel) (by decide+kernel)) (bM hr (zv 3) (zv 5)))))
  (aj (aO 9 iQ.nd (bM hr (zv 1) (aF bR (bM hr (zv 0) (aF aU zi (zv 5))) (cG cU T.cV cH (ak (zv 1) aA)))))
  (aj (aO 8 iQ.nd (aF aU (aF aU (aF aU (zv 8) (aF GZ (zs (by decide+kernel) (by decide+kernel)) (aF uT (aF bR (bM hr (zv 0) (aF aU zi (zv 5))) zi) zi))) (zv 9)) (aF GZ (zs (by decide+kernel) (by decide+kernel)) (bM hr (zv 4) (zv 5)))))
  aq)))))
  (aj (aR (zv 8))
  aq)))))))
theorem amA:aX Pr w K mg base bO (k+3) lJ uf ["text","drawn"] (bA K (Z.aD sb P (k+1)) 12):=
 have F:=FA r0
 cg T.u12 qx rfl rfl rfl λcdv A outer s H E E' hr=>
  (aj (aO 2 qx.nd (aY (ak (zs (by decide+kernel) (by decide+kernel)) (ak (zs (by decide+kernel) (by decide+kernel)) (ak (zs (by decide+kernel) (by decide+kernel)) (ak (zs (by decide+kernel) (by decide+kernel)) (ak (zs (by decide+kernel) (by decide+kernel)) (ak (zs (by decide+kernel) (by decide+kernel)) (ak (zs (by decide+kernel) (by decide+kernel)) (ak (zs (by decide+kernel) (by decide+kernel)) (ak (zs (by decide+kernel) (by decide+kernel)) (ak (zs (by decide+kernel) (by decide+kernel)) (ak (zs (by decide+kernel) (by decide+kernel)) (ak (zs (by decide+kernel) (by decide+kernel)) aA))))))))))))))
  (aj (aO 3 qx.nd (zs (by decide+kernel) (by decide+kernel)))
  (aj (aO 3 qx.nd (aF aU (zv 3) (zs (by decide+kernel) (by decide+kernel))))
  (aj (fY 4 PassesOwn.never rfl qx.nd (fj rfl T.eE (ak (aF k_ (aF uT (aF bR (bM hr (zv 1) zi) zi) zi) (aF aU zi (aF bR (bM hr (zv 1) zi) zi))) aA) rfl)
  (aj (aO 5 qx.nd (aF bR (bM hr (zv 1) (aF aU zi (zv 4))) (aF aU (cG cU T.cV cH (ak (zv 0) aA)) zi)))
  (aj (aO 6 qx.nd (bM hr (aY (ak (bM hr (zv 2) (aF bR (bM hr (zv 1) (aF aU zi (zv 4))) zi)) (ak (zs (by decide+kernel) (by decide+kernel)) aA))) (aF bR (bM hr (zv 1) (aF aU zi (zv 4))) zi)))
  (aj (bx (aV (bZ rfl) (dg (zu hr)) (aF bR (bM hr (zv 1) (aF aU zi (zv 4))) zi) zi rfl)
  (aj (aO 6 qx.nd (bM hr (zv 3) (aF bR (bM hr (zv 1) (aF aU zi (zv 4))) zi)))
  aq)
  aq)
  (aj (aO 0 qx.nd (aF aU (aF aU (Wk (zv 0) (zv 5)) (zv 6)) (Mq (zv 0) (aF aU (zv 5) (aF bR (bM hr (zv 1) (aF aU zi (zv 4))) zi)))))
  aq)))))
  (aj (aR (zv 0))
  aq)))))
theorem amB:aX Pr w K mg base bO (k+3) lK zG ["text","drawn"] (bA K (Z.aD sb P (k+1)) 13):=
 have F:=FA r0
 cg T.u13 K1 rfl rfl rfl λcdv A outer s H E E' hr=>
  (aj (aO 2 K1.nd (aF aU zi (aF bR (bM hr (zv 1) zi) zi)))
  (aj (bx (aV (bZ rfl) (dg (zu hr)) (aF bR (bM hr (zv 1) zi) zi) zi rfl)
  (aj (fY 3 PassesOwn.never rfl K1.nd (fj rfl T.eE (ak zi aA) rfl)
  (aj (bx (aV (gP rfl) RT (aF aU (cG cU T.cV cH (ak (zv 0) aA)) zi) (zv 2) rfl)
  (aj (aO 0 K1.nd (aF aU (aF aU (zs (by decide+kernel) (by decide+kernel)) (zv 0)) (zs (by decide+kernel) (by decide+kernel))))
  aq)
  aq)
  aq))
  aq)
  aq)
  (aj (aR (zv 0))
  aq)))
theorem amC:aX Pr w K mg base bO (k+3) jt zH ["text"] (bA K (Z.aD sb P (k+1)) 14):=
 have F:=FA r0
 cg T.u14 Tt rfl rfl rfl λcdv A outer s H E E' hr=>
  (aj (aO 1 Tt.nd (aY aA))
  (aj (fY 2 PassesOwn.never rfl Tt.nd (WX (zv 0))
  (aj (bx (PW.pt (kW (aV (Qu (.inl rfl)) aa5 (zv 2) (zs (by decide+kernel) (by decide+kernel)) rfl) (kW (aV (bZ rfl) (dg (zu hr)) (cG cU T.cV cH (ak (zv 1) aA)) zi rfl) (kO (aV (lg rfl) (Ii (zu hr)) (bM hr (zv 1) (sI sO zi)) (d8 (ak (zs (by decide+kernel) (by decide+kernel)) (ak (zs (by decide+kernel) (by decide+kernel)) (ak (zs (by decide+kernel) (by decide+kernel)) aA)))) rfl)))))
  (aj (gB (iZ (m:=.list) PySem.F.plainAttrs_list PySem.F.slot_list_append PySem.F.type_list_append dh (zv 1) (ak (zv 2) aA)))
  aq)
  (aj (R5 hr (aF aU (bM hr (zv 1) (sI sO zi)) (zv 2)) (zv 1) (sI sO zi))
  aq))
  aq))
  (aj (aR (zv 1))
  aq)))
theorem amD:aX Pr w K mg base bO (k+3) lM ur ["tokens"] (bA K (Z.aD sb P (k+1)) 15):=
 have F:=FA r0
 cg T.u15 Hs rfl rfl rfl λcdv A outer s H E E' hr=>
  (aj (aO 1 Hs.nd (aF aU (aF aU (aY (ak (zs (by decide+kernel) (by decide+kernel)) aA)) (zv 0)) (aY (ak (zs (by decide+kernel) (by decide+kernel)) aA))))
  (aj (fY 2 PassesOwn.never rfl Hs.nd (fj rfl T.eE (ak (cG cU T.cV cH (ak (zv 0) aA)) aA) rfl)
  (aj (aO 3 Hs.nd (bM hr (zv 1) (zv 2)))
  (aj (aO 4 Hs.nd (bM hr (zv 1) (aF aU (zv 2) zi)))
  (aj (bx (aV (bZ rfl) (dg (zu hr)) (bM hr (zv 0) (zv 2)) (zs (by decide+kernel) (by decide+kernel)) rfl)
  (aj (bx (PW.pt (kW (aV (bZ rfl) (dg (zu hr)) (zv 3) (zs (by decide+kernel) (by decide+kernel)) rfl) (kO (aV (bZ rfl) (dg (zu hr)) (zv 4) (zs (by decide+kernel) (by decide+kernel)) rfl))))
  (aj (aR zb)
  aq)
  aq)
  (aj (bx (PW.pt (Aj (aV (lg rfl) (Dy (zu hr)) (zv 3) (d8 (ak (zs (by decide+kernel) (by decide+kernel)) (ak (zs (by decide+kernel) (by decide+kernel)) (ak (zs (by decide+kernel) (by decide+kernel)) aA)))) rfl) (uR (aV (lg rfl) (Dy (zu hr)) (zv 4) (d8 (ak (zs (by decide+kernel) (by decide+kernel)) (ak (zs (by decide+kernel) (by decide+kernel)) aA))) rfl))))
  (aj (aR zb)
  aq)
  aq)
  aq))
  aq)
  (aj (bx (PW.pt (Aj (aV (lg rfl) (Ii (zu hr)) (bM hr (zv 0) (zv 2)) (d8 (ak (zs (by decide+kernel) (by decide+kernel)) (ak (zs (by decide+kernel) (by decide+kernel)) aA))) rfl) (uR (PW.pt (kW (aV (bZ rfl) (Al (zu hr)) (zv 3) (zs (by decide+kernel) (by decide+kernel)) rfl) (kO (aV (bZ rfl) (Al (zu hr)) (zv 4) (zs (by decide+kernel) (by decide+kernel)) rfl)))))))
  (aj (aR zb)
  aq)
  aq)
  (aj (bx (PW.pt (Aj (aV (bZ rfl) (dg (zu hr)) (bM hr (zv 0) (zv 2)) (zs (by decide+kernel) (by decide+kernel)) rfl) (uR (aV (bZ rfl) (Al (zu hr)) (zv 4) (zs (by decide+kernel) (by decide+kernel)) rfl))))
  (aj (aR zb)
  aq)
  aq)
  aq))))))
  (aj (aR zb)
  aq)))
theorem amE:aX Pr w K mg base bO (k+3) j7 zJ ["items"] (bA K (Z.aD sb P (k+1)) 16):=
 have F:=FA r0
 cg T.u16 nG rfl rfl rfl λcdv A outer s H E E' hr=>
  (aj (aO 1 nG.nd (aY aA))
  (aj (fY 2 PassesOwn.never rfl nG.nd (acI rfl T.Ho (ak (zv 0) aA))
  (aj (bx (aV (bZ rfl) (dg (zu hr)) (zv 2) (zs (by decide+kernel) (by decide+kernel)) rfl)
  (aj (bx (PW.pt (kW (aV (bZ rfl) (dg (zu hr)) (cG cU T.cV cH (ak (zv 1) aA)) zi rfl) (kO (i_ (Aq (k:=.str) T.aJ T.KZ GJ (bM hr (zv 1) (sI sO zi)))))))
  (aj (aR zn)
  aq)
  aq)
  (aj (gB (iZ (m:=.list) PySem.F.plainAttrs_list PySem.F.slot_list_append PySem.F.type_list_append dh (zv 1) (ak (d8 (ak (zs (by decide+kernel) (by decide+kernel)) (ak (DG (m:=.list) PySem.F.plainAttrs_list PySem.F.slot_list_pop PySem.F.type_list_pop Dz (zv 1)) aA))) aA)))
  aq))
  (aj (gB (iZ (m:=.list) PySem.F.plainAttrs_list PySem.F.slot_list_append PySem.F.type_list_append dh (zv 1) (ak (zv 2) aA)))
  aq))
  aq))
  (aj (aO 0 nG.nd (aiA T.agW T.Ho (ak (zv 1) aA)))
  (aj (fY 3 PassesOwn.never rfl nG.nd (fj rfl T.eE (ak (cG cU T.cV cH (ak (zv 0) aA)) aA) rfl)
  (aj (bx (aV (bZ rfl) (Al (zu hr)) (Aq (k:=.str) T.aJ T.KZ GJ (bM hr (zv 0) (zv 3))) (nM (dg (zu hr)) (aF bR (zv 3) zi) zi rfl) rfl)
  (aj (aR zn)
  aq)
  aq)
  aq))
  (aj (bx (aV (bZ rfl) (dg (zu hr)) (aF bR (cG cU T.cV cH (ak (zv 0) aA)) zi) zi rfl)
  (aj (aR zn)
  aq)
  aq)
  (aj (aO 4 nG.nd (aY (ak (bM hr (zv 0) zi) aA)))
  (aj (fY 3 PassesOwn.never rfl nG.nd (acr rfl T.eE (ak zi (ak (cG cU T.cV cH (ak (zv 0) aA)) (ak zi aA))))
  (aj (bx (aV (bZ rfl) (dg (zu hr)) (bM hr (zv 0) (zv 3)) (zs (by decide+kernel) (by decide+kernel)) rfl)
  (aj (gB (iZ (m:=.list) PySem.F.plainAttrs_list PySem.F.slot_list_append PySem.F.type_list_append dh (zv 4) (ak (d8 (ak (zs (by decide+kernel) (by decide+kernel)) (ak (DG (m:=.list) PySem.F.plainAttrs_list PySem.F.slot_list_pop PySem.F.type_list_pop Dz (zv 4)) (ak (bM hr (zv 0) (aF aU (zv 3) zi)) aA)))) aA)))
  aq)
  (aj (gB (iZ (m:=.list) PySem.F.plainAttrs_list PySem.F.slot_list_append PySem.F.type_list_append dh (zv 4) (ak (bM hr (zv 0) (aF aU (zv 3) zi)) aA)))
  aq))
  aq))
  (aj (aO 5 nG.nd (bM hr (zv 4) zi))
  (aj (fY 6 PassesOwn.never rfl nG.nd (Ak (Mq (zv 4) zi))
  (aj (aO 5 nG.nd (d8 (ak (zs (by decide+kernel) (by decide+kernel)) (ak (zv 5) (ak (zv 6) aA)))))
  aq))
  (aj (aR (zv 5))
  aq))))))))))
theorem amF:aX Pr w K mg base bO (k+3) lN zK ["text"] (bA K (Z.aD sb P (k+1)) 17):=
 have F:=FA r0
 cg T.u17 aby rfl rfl rfl λcdv A outer s H E E' hr=>
  (aj (bx (aV (lg rfl) (Ii (zu hr)) (zv 0) (d8 (ak (zs (by decide+kernel) (by decide+kernel)) (ak (zs (by decide+kernel) (by decide+kernel)) (ak (zs (by decide+kernel) (by decide+kernel)) aA)))) rfl)
  (aj (aR zb)
  aq)
  aq)
  (aj (fY 1 PassesOwn.never rfl aby.nd (WX (zv 0))
  (aj (bx (aV Zm afs (zv 1) (zs (by decide+kernel) (by decide+kernel)) rfl)
  (aj (aR zb)
  aq)
  aq)
  aq))
  (aj (aR (nM RT (cG cU T.cV cH (ak (zv 0) aA)) zi rfl))
  aq)))
theorem amG:aX Pr w K mg base bO (k+3) lO zL ["text"] (bA K (Z.aD sb P (k+1)) 18):=
 have F:=FA r0
 cg T.u18 Ef rfl rfl rfl λcdv A outer s H E E' hr=>
  (aj (aO 1 Ef.nd (cj hr F.jt T.m14 T.k14 T.g14 (ak (zv 0) aA)))
  (aj (bx (aV (gP rfl) Mi (cG cU T.cV cH (ak (zv 0) aA)) zi rfl)
  (aj (aR (aY (ak zi aA)))
  aq)
  aq)
  (aj (bx (qL (i_ (cj hr F.lM T.m15 T.Q8 T.g15 (ak (zv 1) aA))))
  (aj (aR (aY (ak zi aA)))
  aq)
  aq)
  (aj (aO 2 Ef.nd (aY (ak (aY aA) aA)))
  (aj (fY 3 PassesOwn.never rfl Ef.nd (Ak (zv 1))
  (aj (bx (aV (bZ rfl) (dg (zu hr)) (zv 3) (zs (by decide+kernel) (by decide+kernel)) rfl)
  (aj (gB (iZ (m:=.list) PySem.F.plainAttrs_list PySem.F.slot_list_append PySem.F.type_list_append dh (zv 2) (ak (aY aA) aA)))
  aq)
  (aj (bx (aV (bZ rfl) (dg (zu hr)) (zv 3) (zs (by decide+kernel) (by decide+kernel)) rfl)
  (aj (aO 4 Ef.nd (cj hr F.j7 T.m16 T.NK T.g16 (ak (DG (m:=.list) PySem.F.plainAttrs_list PySem.F.slot_list_pop PySem.F.type_list_pop Dz (zv 2)) aA)))
  (aj (bx (PW.pt (kW (jY (sS rfl) qj (zv 4) rfl) (kO (aV (bZ rfl) (dg (zu hr)) (cG cU T.cV cH (ak (zv 2) aA)) zi rfl))))
  (aj (aR (aY (ak zi aA)))
  aq)
  aq)
  (aj (gB (iZ (m:=.list) PySem.F.plainAttrs_list PySem.F.slot_list_append PySem.F.type_list_append dh (bM hr (zv 2) (sI sO zi)) (ak (zv 4) aA)))
  aq)))
  (aj (bx (aV (lg rfl) (Ii (zu hr)) (zv 3) (d8 (ak (zs (by decide+kernel) (by decide+kernel)) (ak (zs (by decide+kernel) (by decide+kernel)) (ak (zs (by decide+kernel) (by decide+kernel)) aA)))) rfl)
  (aj (gB (iZ (m:=.list) PySem.F.plainAttrs_list PySem.F.slot_list_append PySem.F.type_list_append dh (bM hr (zv 2) (sI sO zi)) (ak (zv 3) aA)))
  aq)
  (aj (bx (aV (bZ rfl) (Al (zu hr)) (zv 3) (zs (by decide+kernel) (by decide+kernel)) rfl)
  (aj (bx (qL (i_ (cj hr F.lN T.m17 T.Q9 T.g17 (ak (zv 3) aA))))
  (aj (aR (aY (ak zi aA)))
  aq)
  aq)
  (aj (gB (iZ (m:=.list) PySem.F.plainAttrs_list PySem.F.slot_list_append PySem.F.type_list_append dh (bM hr (zv 2) (sI sO zi)) (ak (d8 (ak (zs (by decide+kernel) (by decide+kernel)) (ak (zv 3) aA))) aA)))
  aq))
  aq)
  aq))
  aq))
  aq))
  aq))
  (aj (aO 4 Ef.nd (cj hr F.j7 T.m16 T.NK T.g16 (ak (DG (m:=.list) PySem.F.plainAttrs_list PySem.F.slot_list_pop PySem.F.type_list_pop Dz (zv 2)) aA)))
  (aj (bx (PW.pt (kW (jY (sS rfl) qj (zv 4) rfl) (kO (aV (gP rfl) Mi (cG cU T.cV cH (ak (zv 2) aA)) zi rfl))))
  (aj (aR (aY (ak zi aA)))
  aq)
  aq)
  (aj (aR (zv 4))
  aq))))))))
theorem amH:aX Pr w K mg base bO (k+3) j8 zM ["found","due"] (bA K (Z.aD sb P (k+1)) 19):=
 have F:=FA r0
 cg T.u19 abz rfl rfl rfl λcdv A outer s H E E' hr=>
  (aj (bx (i_ (Aq (k:=.str) T.aJ T.KZ GJ (zv 1)))
  (aj (aR (uQ (Aq (k:=.str) T.aJ T.KZ GJ (zv 0)) (Ai (nM (dg (zu hr)) (zv 0) (zv 1) rfl))))
  aq)
  aq)
  (aj (bx (PW.pt (kW (qL (i_ (Aq (k:=.tuple) T.aJ T.Rf Mv (zv 0)))) (kO (aV (bZ rfl) (Al (zu hr)) (cG cU T.cV cH (ak (zv 0) aA)) (cG cU T.cV cH (ak (zv 1) aA)) rfl))))
  (aj (aR zb)
  aq)
  aq)
  (aj (fY 2 PassesOwn.never rfl abz.nd (fj rfl T.eE (ak (cG cU T.cV cH (ak (zv 1) aA)) aA) rfl)
  (aj (bx (qL (i_ (cj hr F.j8 T.m19 T.NP T.g19 (ak (bM hr (zv 0) (zv 2)) (ak (bM hr (zv 1) (zv 2)) aA)))))
  (aj (aR zb)
  aq)
  aq)
  aq))
  (aj (aR zb)
  aq))))
theorem amI:aX Pr w K mg base bO (k+3) ju rK ["e"] (bA K (Z.aD sb P (k+1)) 20):=
 have F:=FA r0
 cg T.u20 K3 rfl rfl rfl λcdv A outer s H E E' hr=>
  (aj (aO 1 K3.nd (aY (ak (d9 T.aJ T.mc2 T.ir2 (zv 0)) (ak (d9 T.aJ T.Xp T.ir3 (zv 0)) (ak (d9 T.aJ T.Xq T.ir4 (zv 0)) (ak (d9 T.aJ T.mc5 T.ir5 (zv 0)) aA))))))
  (aj (aO 1 K3.nd (aF aU (zv 1) (aY (ak (d9 T.aJ T.mc6 T.ir6 (zv 0)) (ak (d9 T.aJ T.mc1 T.ir1 (zv 0)) (ak (d9 T.aJ T.mc0 T.ir0 (zv 0)) aA))))))
  (aj (aO 1 K3.nd (aF aU (zv 1) (aY (ak (aa2 T.aJ T.Dc wZ T.vV (zv 0)) (ak (d9 T.aJ T.mc7 T.ir7 (zv 0)) (ak (d9 T.aJ T.mc8 T.ir8 (zv 0)) aA))))))
  (aj (aR (aF aU (zv 1) (aY (ak (d9 T.aJ T.mc9 T.ir9 (zv 0)) (ak (d9 T.aJ T.agR T.agT (zv 0)) (ak (d9 T.aJ T.agS T.agU (zv 0)) aA))))))
  aq))))
theorem amJ:aX Pr w K mg base bO (k+3) j9 um ["kind"] (bA K (Z.aD sb P (k+1)) 21):=
 have F:=FA r0
 cg T.u21 ajB rfl rfl rfl λcdv A outer s H E E' hr=>
  (aj (aR (aF aU (aF aU (ae2 ["kind"] ["kind"] (aG (top 43)) rfl (fj rfl T.eE (ak zi aA) rfl) (λ_ _ _ _=>acj) (λ_ _ _ _=>(nM (dg (zu hr)) (zv 1) (zv 0) rfl))) (aF k_ (aY (ak zb aA)) zi)) (aF k_ (aY (ak zb aA)) zi)))
  aq)
theorem amK:aX Pr w K mg base bO (k+3) lQ uo ["text","how","place"] (bA K (Z.aD sb P (k+1)) 22):=
 have F:=FA r0
 cg T.u22 gU rfl rfl rfl λcdv A outer s H E E' hr=>
  (aj (aO 3 gU.nd (aY aA))
  (aj (aO 4 gU.nd (aY aA))
  (aj (aO 5 gU.nd zi)
  (aj (aO 6 gU.nd zn)
  (aj (aiD 6 7 (aa9 (aV (bZ rfl) (dg (zu hr)) (zv 1) zi rfl)
  (Zf 6 hr (λr=>(FA r).x0) T.m0 T.k0 T.gd0 gU.nd (ak (zv 0) aA))
  (aa9 (aV (bZ rfl) (dg (zu hr)) (zv 1) zi rfl)
  (acG 6 hr (λr=>(FA r).x0) T.m0 T.k0 T.g0 gU.nd (ak (zv 0) (ak (zv 2) aA)))
  (Zg 6 hr (λr=>(FA r).x0) T.m0 T.k0 T.gk0 gU.nd (ak (zv 0) aA) (zv 2)))) gU.nd rfl rfl rfl T.mc1 T.ca0 (λ_ _=>
  (aj (aO 3 gU.nd (aY (ak (d9 T.aJ T.mc2 T.ir2 (zv 7)) (ak (d9 T.aJ T.Xp T.ir3 (zv 7)) (ak (d9 T.aJ T.Xq T.ir4 (zv 7)) (ak (d9 T.aJ T.mc5 T.ir5 (zv 7)) aA))))))
  (aj (aO 3 gU.nd (aF aU (zv 3) (aY (ak (d9 T.aJ T.mc6 T.ir6 (zv 7)) (ak (d9 T.aJ T.mc1 T.ir1 (zv 7)) (ak (d9 T.aJ T.mc0 T.ir0 (zv 7)) aA))))))
  (aj (aO 4 gU.nd (aY (ak (aa2 T.aJ T.Dc wZ T.vV (zv 7)) (ak (d9 T.aJ T.mc7 T.ir7 (zv 7)) (ak (d9 T.aJ T.mc8 T.ir8 (zv 7)) aA)))))
  (aj (aO 4 gU.nd (aF aU (zv 4) (aY (ak (d9 T.aJ T.mc9 T.ir9 (zv 7)) (ak (d9 T.aJ T.agR T.agT (zv 7)) (ak (d9 T.aJ T.agS T.agU (zv 7)) aA))))))
  (aj (aO 5 gU.nd (Sd T.rows (zv 7)))
  aq)))))))
  (aj (aR (d8 (ak (aF aU (zv 3) (zv 4)) (ak (zv 5) (ak (zv 6) aA)))))
  aq))))))
theorem amL:aX Pr w K mg base bO (k+3) j_ uq ["found"] (bA K (Z.aD sb P (k+1)) 23):=
 have F:=FA r0
 cg T.u23 ajC rfl rfl rfl λcdv A outer s H E E' hr=>
  (aj (aR (uQ (Aq (k:=.int) T.aJ T.ajA ae3 (zv 0)) (Ai (al6 (Aq (k:=.bool) T.aJ T.agV acq (zv 0))))))
  aq)
theorem amM:aX Pr w K mg base bO (k+3) lR zN ["place"] (bA K (Z.aD sb P (k+1)) 24):=
 have F:=FA r0
 cg T.u24 K4 rfl rfl rfl λcdv A outer s H E E' hr=>
  (aj (aO 1 K4.nd (aY (ak (Ip hr (nQ T T.xr1 T.Xu) T.mc1 T.n1 (zv 0)) (ak (Ip hr (nQ T T.xr2 T.Xv) T.mc2 T.n2 (zv 0)) (ak (Ip hr (nQ T T.xr3 T.NZ) T.Xp T.n3 (zv 0)) (ak (Ip hr (nQ T T.xr4 T.N5) T.Xq T.n4 (zv 0)) (ak (Ip hr (nQ T T.xr5 T.Xw) T.mc5 T.n5 (zv 0)) (ak (Ip hr (nQ T T.xr6 T.Xx) T.mc6 T.n6 (zv 0)) aA))))))))
  (aj (fY 2 PassesOwn.never rfl K4.nd (fj rfl T.eE (ak zi aA) rfl)
  (aj (aO 3 K4.nd (bM hr (zv 1) (zv 2)))
  (aj (bx (PW.pt (kW (aV (bZ rfl) (Al (zu hr)) (cj hr F.ju T.m20 T.Nu T.g20 (ak (zv 3) aA)) (cj hr F.j9 T.m21 T.NQ T.g21 (ak (aF aaX (zv 2) zi) aA)) rfl) (kW (qL (i_ (cj hr F.j_ T.m23 T.NT T.g23 (ak (Sd T.rows (zv 3)) aA)))) (kO (aV (bZ rfl) (Al (zu hr)) (Sd T.rows (zv 3)) (zv 0) rfl)))))
  (aj (aR zb)
  aq)
  aq)
  aq)))
  (aj (aR zb)
  aq)))
theorem amN:aX Pr w K mg base bO (k+3) lU zO ["text","how","place"] (bA K (Z.aD sb P (k+1)) 25):=
 have F:=FA r0
 cg T.u25 K5 rfl rfl rfl λcdv A outer s H E E' hr=>
  (aj (aO 3 K5.nd (cj hr F.lO T.m18 T.Q_ T.g18 (ak (zv 0) aA)))
  (aj (aiy 4 5 6 rfl K5.nd (cj hr F.lQ T.m22 T.Ra T.g22 (ak (zv 0) (ak (zv 1) (ak (zv 2) aA)))))
  (aj (bx (i_ (Aq (k:=.tuple) T.aJ T.Rf Mv (zv 3)))
  (aj (aR (uQ (nM (dg (zu hr)) (zv 4) (aY aA) rfl) (Ai (cj hr F.j8 T.m19 T.NP T.g19 (ak (zv 6) (ak (zv 3) aA))))))
  aq)
  aq)
  (aj (bx (aV (bZ rfl) (dg (zu hr)) (zv 1) zi rfl)
  (aj (aO 2 K5.nd zi)
  aq)
  aq)
  (aj (aR (uQ (nM (dg (zu hr)) (zv 4) (cj hr F.j9 T.m21 T.NQ T.g21 (ak (bM hr (zv 3) zi) aA)) rfl) (uQ (cj hr F.j_ T.m23 T.NT T.g23 (ak (zv 5) aA)) (Ai (nM (dg (zu hr)) (zv 5) (zv 2) rfl)))))
  aq)))))
theorem amO:aX Pr w K mg base bO (k+3) jw uh ["script"] (bA K (Z.aD sb P (k+1)) 26):=
 have F:=FA r0
 cg T.u26 uw rfl rfl rfl λcdv A outer s H E E' hr=>
  (aj (aO 1 uw.nd (cj hr F.lH T.m10 T.k10 T.g10 (ak (cj hr F.f8 T.m8 T.k8 T.g8 (ak (zv 0) (ak zi aA))) (ak zi aA))))
  (aj (fY 2 PassesOwn.never rfl uw.nd (Ak (aF aU (Qn (zv 0) zi zi) (aY (ak (cG cU T.cV cH (ak (zv 0) aA)) aA))))
  (aj (aO 3 uw.nd (cj hr F.f7 T.m7 T.k7 T.g7 (ak (zv 2) (ak zi aA))))
  (aj (aO 4 uw.nd (zv 1))
  (aj (bx (aV (bZ rfl) (dg (zu hr)) (aF bR (bM hr (zv 3) zi) zi) zi rfl)
  (aj (aO 4 uw.nd (aF aU (zv 1) (aY (ak (bM hr (aY (ak (zs (by decide+kernel) (by decide+kernel)) (ak (zs (by decide+kernel) (by decide+kernel)) (ak (zs (by decide+kernel) (by decide+kernel)) (ak (zs (by decide+kernel) (by decide+kernel)) (ak (zs (by decide+kernel) (by decide+kernel)) (ak (zs (by decide+kernel) (by decide+kernel)) aA))))))) (aF bR (bM hr (zv 3) zi) zi)) aA))))
  aq)
  aq)
  (aj (aO 5 uw.nd (cj hr F.lK T.m13 T.k13 T.g13 (ak (cj hr F.lJ T.m12 T.k12 T.g12 (ak (cj hr F.f11 T.m11 T.k11 T.g11 (ak (zv 3) (ak (zv 4) aA))) (ak (zv 3) aA))) (ak (zv 3) aA))))
  (aj (aO 6 uw.nd (bM hr (aY (ak (aF bR (bM hr (zv 3) zi) zi) (ak (aF aU (aF k_ (aF bR (zv 2) (aF RV zi zi)) (aF RV zi zi)) (bM hr (zv 3) zi)) aA))) (aF bR (bM hr (zv 3) zi) zi)))
  (aj (bx (qL (i_ (cj hr F.lU T.m25 T.Rc T.g25 (ak (zv 5) (ak (aF bR (bM hr (zv 3) zi) zi) (ak (zv 6) aA))))))
  (aj (aR zb)
  aq)
  aq)
  aq)))))))
  (aj (aR (cj hr F.lR T.m24 T.Rb T.g24 (ak (aF bR (cj hr F.f8 T.m8 T.k8 T.g8 (ak (zv 0) (ak zi aA))) (aF RV zi zi)) aA)))
  aq)))
end
theorem fns (T:Txt K w mg f0 f1 f2 f3 f4 f5 f6 f7 f8 f9 lH f11 lJ lK jt lM j7 lN lO j8 ju j9 lQ j_ lR lU jw c0 c1 c2 c3 c4 c5 c6 c7 c8 c9 gM gO fI e0 e1 e2 e3 e4 e5 e6 e7 e8 e9 e10 zF uf zG zH ur zJ zK zL zM rK um uo uq zN zO uh eI):∀(k:Nat) (r:R0),@Fns r Pr w K mg base k f0 f1 f2 f3 f4 f5 f6 f7 f8 f9 lH f11 lJ lK jt lM j7 lN lO j8 ju j9 lQ j_ lR lU jw c0 c1 c2 c3 c4 c5 c6 c7 c8 c9 gM gO fI e0 e1 e2 e3 e4 e5 e6 e7 e8 e9 e10 zF uf zG zH ur zJ zK zL zM rK um uo uq zN zO uh eI (Z.aD sb P k)
 | 0,r=>⟨Zk,bW,bW,bW,bW,bW,bW,bW,bW,bW,bW,bW,bW,bW,bW,bW,bW,bW,bW,bW,bW,bW,bW,bW,bW,bW,bW,bW⟩
 | k+1,r=>have FA:=fns T k;have F:=FA r;⟨amw T FA,d_0 T FA,d_1 T FA,d_2 T FA,d_3 T FA,d_4 T FA,d_5 T FA,d_6 T FA,d_7 T FA,d_8 T FA,d_9 T FA,amx T FA,amy T FA,amA T FA,amB T FA,amC T FA,amD T FA,amE T FA,amF T FA,amG T FA,amH T FA,amI T FA,amJ T FA,amK T FA,amL T FA,amM T FA,amN T FA,amO T FA⟩
end
theorem all_mk {l:PySem.W.OpenLaw}{w:World}{K:PySem.W.Frag}{h:Heap}{mg:Str->Option Value}{fa f0 f1 f2 f3 f4 f5 f6 f7 f8 f9 lH f11 lJ lK jt lM j7 lN lO j8 ju j9 lQ j_ lR lU jw c0 c1 c2 c3 c4 c5 c6 c7 c8 c9 gM gO fI:Addr}(X:K.In h)(G:h.Ns mainGlobals mg)(hfa:mg "law"=some (.ref fa))
  {od0 an0 od1 an1 od2 an2 od3 an3 od4 an4 od5 an5 od6 an6 od7 an7 od8 an8 od9 an9 amP amQ amR amS amT amU amV amW amX amY amZ am0 am1 am2 am3 am4 am5 am6 am7 am8 am9 am_ ana anb ane anf ang anh ani anj ank anl anm agZ:Option Addr} {sl0 sl1 sl2 sl3 sl4 sl5 sl6 sl7 sl8 sl9 ano anp anq anr ant anu anv anw anx anz anA anB anC anD anE anF anG:Array (Option Value)} {oc0 kV0 dc0 pm0 cd0 ct0 oc1 kV1 dc1 pm1 cd1 ct1 oc2 kV2 dc2 pm2 cd2 ct2 oc3 kV3 dc3 pm3 cd3 ct3 oc4 kV4 dc4 pm4 cd4 ct4 oc5 kV5 dc5 pm5 cd5 ct5 oc6 kV6 dc6 pm6 cd6 ct6 oc7 kV7 dc7 pm7 cd7 ct7 oc8 kV8 dc8 pm8 cd8 ct8 oc9 kV9 dc9 pm9 cd9 ct9 anH anJ anK anL ag0 anM anN anO anP anQ ag1 anR anS anT anU anV ag2 anW anY anZ an_ aoa ag3 aob aoc aod aoe aof ag4 aog aoh aoi aoj aok ag5 aol aom aon aoo aop ag6 aoq aor aos aot aou ag7 aov aow aox aoy aoz ag8 aoA aoB aoC aoD aoE ag9 aoF aoG aoH aoI aoJ aha aoK aoL aoM aoN aoO ahb aoP aoQ aoR aoS aoT ahc aoU aoV aoW aoX aoY ahd aoZ ao0 ao1 ao2 ao3 ahe ao4 ao5 ao6 ao7 ao8 ahf ao9 ao_ ahg ahh ahi ZP ahj:Value}
  {Kw:Tok}
  {J0:Addr} {XC:Nat} {XF:Array (Option Value)}
  {Pb:Tok}
  {Ph:Tok}
  {Pj:Tok}
  {Pk:Tok}
  {Pn:Tok}
  {Tv:Tok}
  {zQ:Addr} {Ky:Nat} {Kz:Array (Option Value)}
  {Ht:Tok}
  {Hu:Tok}
  {Hv:Tok}
  {Hw:Tok}
  {Hx:Tok}
  {Hy:Tok}
  {Hz:Tok}
  {J1:Addr} {XH:Nat} {XJ:Array (Option Value)}
  {Pq:Tok}
  {Pu:Tok}
  {Px:Tok}
  {wQ:Addr} {Tw:Nat}
  {rN:Addr} {N8:Nat} {N_:Array (Option Value)}
  {Jg:Tok}
  {Jh:Tok}
  {rO:Addr} {Oa:Nat} {Ob:Array (Option Value)}
  {Ji:Tok}
  {Jj:Tok}
  {Jk:Tok}
  {rQ:Addr} {Oc:Nat} {Od:Array (Option Value)}
  {Jl:Tok}
  {Jm:Tok}
  {Jo:Tok}
  {zR:Tok}
  {zT:Tok}
  {zU:Tok}
  {dT0:Addr} {do0:Value} {dd0:Option Addr} {dk0:Tok} {dn0:Nat} {ds0:Array (Option Value)}
  {odI anI:Option Addr} {slI:Array (Option Value)} {ocI kVI dcI pmI cdI ctI:Value}
  (oF:PySem.W.nsIn K mainGlobals "MOST_SIGNS"=some (some (.int 120 Kw)))
  (Dd:PySem.W.nsIn K mainGlobals "PIECES"=some (some (.ref J0)))
  (Df:K.lookup J0=some ⟨.type "tuple",none,.seq #[(.str "(" Pb),(.str ")" Ph),(.str " and " Pj),(.str " or " Pk),(.str "not " Pn)] XC,XF⟩)
  (wR:PySem.W.nsIn K mainGlobals "LETTERS"=some (some (.str "abcdefghijklmnopqrstuvwxyz" Tv)))
  (oG:PySem.W.nsIn K mainGlobals "KEPT_WORDS"=some (some (.ref zQ)))
  (oH:K.lookup zQ=some ⟨.type "tuple",none,.seq #[(.str "always" Ht),(.str "where" Hu),(.str "usually" Hv),(.str "not" Hw),(.str "and" Hx),(.str "or" Hy)] Ky,Kz⟩)
  (lV:PySem.W.nsIn K mainGlobals "MOST_LETTERS"=some (some (.int 12 Hz)))
  (Dg:PySem.W.nsIn K mainGlobals "JOINTS"=some (some (.ref J1)))
  (Dh:K.lookup J1=some ⟨.type "tuple",none,.seq #[(.str "not" Pq),(.str "and" Pu),(.str "or" Px)] XH,XJ⟩)
  (wU:PySem.W.nsIn K mainGlobals "TIGHTER"=some (some (.ref wQ)))
  (wV:K.lookup wQ=some ⟨.type "dict",none,.dict #[⟨PyData.keyHash w.params "and",.str "and" zR,(.ref rN)⟩,⟨PyData.keyHash w.params "or",.str "or" zT,(.ref rO)⟩,⟨PyData.keyHash w.params ")",.str ")" zU,(.ref rQ)⟩] Tw,#[]⟩)
  (rR:K.lookup rN=some ⟨.type "tuple",none,.seq #[(.str "not" Jg),(.str "and" Jh)] N8,N_⟩)
  (rT:K.lookup rO=some ⟨.type "tuple",none,.seq #[(.str "not" Ji),(.str "and" Jj),(.str "or" Jk)] Oa,Ob⟩)
  (rW:K.lookup rQ=some ⟨.type "tuple",none,.seq #[(.str "not" Jl),(.str "and" Jm),(.str "or" Jo)] Oc,Od⟩)
  (wW:(wQ == sysModules)=false)
  (n0:PySem.W.nsIn K mainGlobals "WontError"=some (some (.ref c0)))
  (n1:PySem.W.nsIn K mainGlobals "RowError"=some (some (.ref c1)))
  (n2:PySem.W.nsIn K mainGlobals "NoRow"=some (some (.ref c2)))
  (n3:PySem.W.nsIn K mainGlobals "TooLong"=some (some (.ref c3)))
  (n4:PySem.W.nsIn K mainGlobals "NoSentence"=some (some (.ref c4)))
  (n5:PySem.W.nsIn K mainGlobals "Twice"=some (some (.ref c5)))
  (n6:PySem.W.nsIn K mainGlobals "TooMany"=some (some (.ref c6)))
  (n7:PySem.W.nsIn K mainGlobals "NoAsk"=some (some (.ref c7)))
  (n8:PySem.W.nsIn K mainGlobals "NoName"=some (some (.ref c8)))
  (n9:PySem.W.nsIn K mainGlobals "NotTold"=some (some (.ref c9)))
  (n10:PySem.W.nsIn K mainGlobals "Torn"=some (some (.ref gM)))
  (Xr:PySem.W.nsIn K mainGlobals "NoNews"=some (some (.ref gO)))
  (a0:PySem.W.nsIn K mainGlobals "read_sentence"=some (some (.ref f0)))
  (l0:K.lookup f0=some ⟨oc0,od0,.func (PySem.W.fnOf "read_sentence" "read_sentence" (bh (top 21)) (aW (top 21)) (aG (top 21)) (.ref dT0) kV0 dc0 pm0 an0 cd0 ct0),sl0⟩)
  (XM:K.lookup dT0=some ⟨do0,dd0,.seq #[.int 0 dk0] dn0,ds0⟩)
  (c0_:PySem.W.codeIn K cd0 "read_sentence"=true)
  (k0:PySem.W.keepIn K (.ref f0)=true)
  (a1:PySem.W.nsIn K mainGlobals "tokens_of"=some (some (.ref f1)))
  (l1:K.lookup f1=some ⟨oc1,od1,.func (PySem.W.fnOf "tokens_of" "tokens_of" (bh (top 22)) (aW (top 22)) (aG (top 22)) .none kV1 dc1 pm1 an1 cd1 ct1),sl1⟩)
  (c1_:PySem.W.codeIn K cd1 "tokens_of"=true)
  (k1:PySem.W.keepIn K (.ref f1)=true)
  (a2:PySem.W.nsIn K mainGlobals "piece_at"=some (some (.ref f2)))
  (l2:K.lookup f2=some ⟨oc2,od2,.func (PySem.W.fnOf "piece_at" "piece_at" (bh (top 23)) (aW (top 23)) (aG (top 23)) .none kV2 dc2 pm2 an2 cd2 ct2),sl2⟩)
  (c2_:PySem.W.codeIn K cd2 "piece_at"=true)
  (k2:PySem.W.keepIn K (.ref f2)=true)
  (a3:PySem.W.nsIn K mainGlobals "word_end"=some (some (.ref f3)))
  (l3:K.lookup f3=some ⟨oc3,od3,.func (PySem.W.fnOf "word_end" "word_end" (bh (top 24)) (aW (top 24)) (aG (top 24)) .none kV3 dc3 pm3 an3 cd3 ct3),sl3⟩)
  (c3_:PySem.W.codeIn K cd3 "word_end"=true)
  (k3:PySem.W.keepIn K (.ref f3)=true)
  (a4:PySem.W.nsIn K mainGlobals "is_name"=some (some (.ref f4)))
  (l4:K.lookup f4=some ⟨oc4,od4,.func (PySem.W.fnOf "is_name" "is_name" (bh (top 25)) (aW (top 25)) (aG (top 25)) .none kV4 dc4 pm4 an4 cd4 ct4),sl4⟩)
  (c4_:PySem.W.codeIn K cd4 "is_name"=true)
  (k4:PySem.W.keepIn K (.ref f4)=true)
  (a5:PySem.W.nsIn K mainGlobals "put_together"=some (some (.ref f5)))
  (l5:K.lookup f5=some ⟨oc5,od5,.func (PySem.W.fnOf "put_together" "put_together" (bh (top 26)) (aW (top 26)) (aG (top 26)) .none kV5 dc5 pm5 an5 cd5 ct5),sl5⟩)
  (c5_:PySem.W.codeIn K cd5 "put_together"=true)
  (k5:PySem.W.keepIn K (.ref f5)=true)
  (a6:PySem.W.nsIn K mainGlobals "ended"=some (some (.ref f6)))
  (l6:K.lookup f6=some ⟨oc6,od6,.func (PySem.W.fnOf "ended" "ended" (bh (top 27)) (aW (top 27)) (aG (top 27)) .none kV6 dc6 pm6 an6 cd6 ct6),sl6⟩)
  (c6_:PySem.W.codeIn K cd6 "ended"=true)
  (k6:PySem.W.keepIn K (.ref f6)=true)
  (a7:PySem.W.nsIn K mainGlobals "_law_draws"=some (some (.ref f7)))
  (l7:K.lookup f7=some ⟨oc7,od7,.func (PySem.W.fnOf "_law_draws" "_law_draws" (bh (top 29)) (aW (top 29)) (aG (top 29)) .none kV7 dc7 pm7 an7 cd7 ct7),sl7⟩)
  (c7_:PySem.W.codeIn K cd7 "_law_draws"=true)
  (k7:PySem.W.keepIn K (.ref f7)=true)
  (a8:PySem.W.nsIn K mainGlobals "_law_cell_at"=some (some (.ref f8)))
  (l8:K.lookup f8=some ⟨oc8,od8,.func (PySem.W.fnOf "_law_cell_at" "_law_cell_at" (bh (top 30)) (aW (top 30)) (aG (top 30)) .none kV8 dc8 pm8 an8 cd8 ct8),sl8⟩)
  (c8_:PySem.W.codeIn K cd8 "_law_cell_at"=true)
  (k8:PySem.W.keepIn K (.ref f8)=true)
  (a9:PySem.W.nsIn K mainGlobals "_law_fresh"=some (some (.ref f9)))
  (l9:K.lookup f9=some ⟨oc9,od9,.func (PySem.W.fnOf "_law_fresh" "_law_fresh" (bh (top 31)) (aW (top 31)) (aG (top 31)) .none kV9 dc9 pm9 an9 cd9 ct9),sl9⟩)
  (c9_:PySem.W.codeIn K cd9 "_law_fresh"=true)
  (k9:PySem.W.keepIn K (.ref f9)=true)
  (a10:PySem.W.nsIn K mainGlobals "_law_names"=some (some (.ref lH)))
  (l10:K.lookup lH=some ⟨anH,amP,.func (PySem.W.fnOf "_law_names" "_law_names" (bh (top 32)) (aW (top 32)) (aG (top 32)) .none anJ anK anL amQ ag0 anM),ano⟩)
  (ZQ:PySem.W.codeIn K ag0 "_law_names"=true)
  (k10:PySem.W.keepIn K (.ref lH)=true)
  (a11:PySem.W.nsIn K mainGlobals "_law_good"=some (some (.ref f11)))
  (l11:K.lookup f11=some ⟨anN,amR,.func (PySem.W.fnOf "_law_good" "_law_good" (bh (top 33)) (aW (top 33)) (aG (top 33)) .none anO anP anQ amS ag1 anR),anp⟩)
  (ZR:PySem.W.codeIn K ag1 "_law_good"=true)
  (k11:PySem.W.keepIn K (.ref f11)=true)
  (a12:PySem.W.nsIn K mainGlobals "_law_spoiled"=some (some (.ref lJ)))
  (l12:K.lookup lJ=some ⟨anS,amT,.func (PySem.W.fnOf "_law_spoiled" "_law_spoiled" (bh (top 34)) (aW (top 34)) (aG (top 34)) .none anT anU anV amU ag2 anW),anq⟩)
  (ZV:PySem.W.codeIn K ag2 "_law_spoiled"=true)
  (k12:PySem.W.keepIn K (.ref lJ)=true)
  (a13:PySem.W.nsIn K mainGlobals "_law_long"=some (some (.ref lK)))
  (l13:K.lookup lK=some ⟨anY,amV,.func (PySem.W.fnOf "_law_long" "_law_long" (bh (top 35)) (aW (top 35)) (aG (top 35)) .none anZ an_ aoa amW ag3 aob),anr⟩)
  (ZW:PySem.W.codeIn K ag3 "_law_long"=true)
  (k13:PySem.W.keepIn K (.ref lK)=true)
  (a14:PySem.W.nsIn K mainGlobals "_law_tokens"=some (some (.ref jt)))
  (l14:K.lookup jt=some ⟨aoc,amX,.func (PySem.W.fnOf "_law_tokens" "_law_tokens" (bh (top 36)) (aW (top 36)) (aG (top 36)) .none aod aoe aof amY ag4 aog),ant⟩)
  (ZX:PySem.W.codeIn K ag4 "_law_tokens"=true)
  (k14:PySem.W.keepIn K (.ref jt)=true)
  (a15:PySem.W.nsIn K mainGlobals "_law_blanks"=some (some (.ref lM)))
  (l15:K.lookup lM=some ⟨aoh,amZ,.func (PySem.W.fnOf "_law_blanks" "_law_blanks" (bh (top 37)) (aW (top 37)) (aG (top 37)) .none aoi aoj aok am0 ag5 aol),anu⟩)
  (Z0:PySem.W.codeIn K ag5 "_law_blanks"=true)
  (Q8:PySem.W.keepIn K (.ref lM)=true)
  (a16:PySem.W.nsIn K mainGlobals "_law_flat"=some (some (.ref j7)))
  (l16:K.lookup j7=some ⟨aom,am1,.func (PySem.W.fnOf "_law_flat" "_law_flat" (bh (top 38)) (aW (top 38)) (aG (top 38)) .none aon aoo aop am2 ag6 aoq),anv⟩)
  (Z1:PySem.W.codeIn K ag6 "_law_flat"=true)
  (NK:PySem.W.keepIn K (.ref j7)=true)
  (a17:PySem.W.nsIn K mainGlobals "_law_word"=some (some (.ref lN)))
  (l17:K.lookup lN=some ⟨aor,am3,.func (PySem.W.fnOf "_law_word" "_law_word" (bh (top 39)) (aW (top 39)) (aG (top 39)) .none aos aot aou am4 ag7 aov),anw⟩)
  (Z2:PySem.W.codeIn K ag7 "_law_word"=true)
  (Q9:PySem.W.keepIn K (.ref lN)=true)
  (a18:PySem.W.nsIn K mainGlobals "_law_read"=some (some (.ref lO)))
  (l18:K.lookup lO=some ⟨aow,am5,.func (PySem.W.fnOf "_law_read" "_law_read" (bh (top 40)) (aW (top 40)) (aG (top 40)) .none aox aoy aoz am6 ag8 aoA),anx⟩)
  (Z4:PySem.W.codeIn K ag8 "_law_read"=true)
  (Q_:PySem.W.keepIn K (.ref lO)=true)
  (a19:PySem.W.nsIn K mainGlobals "_law_same"=some (some (.ref j8)))
  (l19:K.lookup j8=some ⟨aoB,am7,.func (PySem.W.fnOf "_law_same" "_law_same" (bh (top 41)) (aW (top 41)) (aG (top 41)) .none aoC aoD aoE am8 ag9 aoF),anz⟩)
  (Z5:PySem.W.codeIn K ag9 "_law_same"=true)
  (NP:PySem.W.keepIn K (.ref j8)=true)
  (a20:PySem.W.nsIn K mainGlobals "_law_kinds"=some (some (.ref ju)))
  (l20:K.lookup ju=some ⟨aoG,am9,.func (PySem.W.fnOf "_law_kinds" "_law_kinds" (bh (top 42)) (aW (top 42)) (aG (top 42)) .none aoH aoI aoJ am_ aha aoK),anA⟩)
  (Z6:PySem.W.codeIn K aha "_law_kinds"=true)
  (Nu:PySem.W.keepIn K (.ref ju)=true)
  (a21:PySem.W.nsIn K mainGlobals "_law_due_kinds"=some (some (.ref j9)))
  (l21:K.lookup j9=some ⟨aoL,ana,.func (PySem.W.fnOf "_law_due_kinds" "_law_due_kinds" (bh (top 43)) (aW (top 43)) (aG (top 43)) .none aoM aoN aoO anb ahb aoP),anB⟩)
  (Z7:PySem.W.codeIn K ahb "_law_due_kinds"=true)
  (NQ:PySem.W.keepIn K (.ref j9)=true)
  (a22:PySem.W.nsIn K mainGlobals "_law_asked"=some (some (.ref lQ)))
  (l22:K.lookup lQ=some ⟨aoQ,ane,.func (PySem.W.fnOf "_law_asked" "_law_asked" (bh (top 44)) (aW (top 44)) (aG (top 44)) .none aoR aoS aoT anf ahc aoU),anC⟩)
  (Z8:PySem.W.codeIn K ahc "_law_asked"=true)
  (Ra:PySem.W.keepIn K (.ref lQ)=true)
  (a23:PySem.W.nsIn K mainGlobals "_law_whole"=some (some (.ref j_)))
  (l23:K.lookup j_=some ⟨aoV,ang,.func (PySem.W.fnOf "_law_whole" "_law_whole" (bh (top 45)) (aW (top 45)) (aG (top 45)) .none aoW aoX aoY anh ahd aoZ),anD⟩)
  (Z9:PySem.W.codeIn K ahd "_law_whole"=true)
  (NT:PySem.W.keepIn K (.ref j_)=true)
  (a24:PySem.W.nsIn K mainGlobals "_law_made"=some (some (.ref lR)))
  (l24:K.lookup lR=some ⟨ao0,ani,.func (PySem.W.fnOf "_law_made" "_law_made" (bh (top 46)) (aW (top 46)) (aG (top 46)) .none ao1 ao2 ao3 anj ahe ao4),anE⟩)
  (Z_:PySem.W.codeIn K ahe "_law_made"=true)
  (Rb:PySem.W.keepIn K (.ref lR)=true)
  (a25:PySem.W.nsIn K mainGlobals "_law_right"=some (some (.ref lU)))
  (l25:K.lookup lU=some ⟨ao5,ank,.func (PySem.W.fnOf "_law_right" "_law_right" (bh (top 47)) (aW (top 47)) (aG (top 47)) .none ao6 ao7 ao8 anl ahf ao9),anF⟩)
  (aac:PySem.W.codeIn K ahf "_law_right"=true)
  (Rc:PySem.W.keepIn K (.ref lU)=true)
  (a26:PySem.W.nsIn K mainGlobals "law"=some (some (.ref jw)))
  (l26:K.lookup jw=some ⟨ao_,anm,.func (PySem.W.fnOf "law" "law" (bh (top 48)) (aW (top 48)) (aG (top 48)) .none ahg ahh ahi agZ ZP ahj),anG⟩)
  (aad:PySem.W.codeIn K ZP "law"=true)
  (Xo:PySem.W.keepIn K (.ref jw)=true)
  (aI:PySem.W.findIn K (.ref c1) "__init__"=some (some (.ref fI)))
  (lI:K.lookup fI=some ⟨ocI,odI,.func (PySem.W.fnOf "__init__" "RowError.__init__" (bh (inner 2 0)) (aW (inner 2 0)) (aG (inner 2 0)) .none kVI dcI pmI anI cdI ctI),slI⟩)
  (cI_:PySem.W.codeIn K cdI "RowError.__init__"=true)
  (kI:PySem.W.keepIn K (.ref fI)=true)
  (nI_:PySem.W.isFn K (.ref fI)=true)
  (iH:PySem.W.specialIn K (.builtin "object.__class__") "__get__"=some (some (.builtin "getset_descriptor.__get__")))
  (iT:PySem.W.takesIn K (.builtin "object.__class__")=some true)
  (Xu:PySem.W.keepIn K (.ref c1)=true)
  (aae:qO K c1=true)
  (Tz:uF K c1=true)
  (aaf:PySem.W.findIn K (.ref c1) "__setattr__"=some (some (.builtin "object.__setattr__")))
  (TF:PySem.W.findIn K (.ref c1) "row"=some none)
  (oZ:PySem.W.findIn K (.ref c1) "__getattribute__"=some (some (.builtin "BaseException.__getattribute__")))
  (o7:PySem.W.findIn K (.ref c1) "__getattr__"=some none)
  (o8:PySem.W.findIn K (.ref c1) "__class__"=some (some (.builtin "object.__class__")))
  (o9:PySem.W.mroIn K c1 (.type "object")=some true)
  (lY:PySem.W.mroIn K c1 (.type "BaseException")=some true)
  (Xv:PySem.W.keepIn K (.ref c2)=true)
  (aag:qO K c2=true)
  (TJ:uF K c2=true)
  (aah:PySem.W.findIn K (.ref c2) "__setattr__"=some (some (.builtin "object.__setattr__")))
  (TQ:PySem.W.findIn K (.ref c2) "row"=some none)
  (aai:PySem.W.findIn K (.ref c2) "__init__"=some (some (.ref fI)))
  (o_:PySem.W.findIn K (.ref c2) "__getattribute__"=some (some (.builtin "BaseException.__getattribute__")))
  (pA:PySem.W.findIn K (.ref c2) "__getattr__"=some none)
  (pB:PySem.W.findIn K (.ref c2) "__class__"=some (some (.builtin "object.__class__")))
  (pC:PySem.W.mroIn K c2 (.type "object")=some true)
  (pD:PySem.W.mroIn K c2 (.type "BaseException")=some true)
  (NZ:PySem.W.keepIn K (.ref c3)=true)
  (aaj:qO K c3=true)
  (TV:uF K c3=true)
  (aak:PySem.W.findIn K (.ref c3) "__setattr__"=some (some (.builtin "object.__setattr__")))
  (TX:PySem.W.findIn K (.ref c3) "row"=some none)
  (aal:PySem.W.findIn K (.ref c3) "__init__"=some (some (.ref fI)))
  (pF:PySem.W.findIn K (.ref c3) "__getattribute__"=some (some (.builtin "BaseException.__getattribute__")))
  (pG:PySem.W.findIn K (.ref c3) "__getattr__"=some none)
  (pH:PySem.W.findIn K (.ref c3) "__class__"=some (some (.builtin "object.__class__")))
  (pI:PySem.W.mroIn K c3 (.type "object")=some true)
  (pJ:PySem.W.mroIn K c3 (.type "BaseException")=some true)
  (N5:PySem.W.keepIn K (.ref c4)=true)
  (aam:qO K c4=true)
  (TY:uF K c4=true)
  (aan:PySem.W.findIn K (.ref c4) "__setattr__"=some (some (.builtin "object.__setattr__")))
  (T3:PySem.W.findIn K (.ref c4) "row"=some none)
  (aao:PySem.W.findIn K (.ref c4) "__init__"=some (some (.ref fI)))
  (pK:PySem.W.findIn K (.ref c4) "__getattribute__"=some (some (.builtin "BaseException.__getattribute__")))
  (pL:PySem.W.findIn K (.ref c4) "__getattr__"=some none)
  (pN:PySem.W.findIn K (.ref c4) "__class__"=some (some (.builtin "object.__class__")))
  (pO:PySem.W.mroIn K c4 (.type "object")=some true)
  (pP:PySem.W.mroIn K c4 (.type "BaseException")=some true)
  (Xw:PySem.W.keepIn K (.ref c5)=true)
  (aap:qO K c5=true)
  (T4:uF K c5=true)
  (aaq:PySem.W.findIn K (.ref c5) "__setattr__"=some (some (.builtin "object.__setattr__")))
  (T5:PySem.W.findIn K (.ref c5) "row"=some none)
  (aar:PySem.W.findIn K (.ref c5) "__init__"=some (some (.ref fI)))
  (pQ:PySem.W.findIn K (.ref c5) "__getattribute__"=some (some (.builtin "BaseException.__getattribute__")))
  (pR:PySem.W.findIn K (.ref c5) "__getattr__"=some none)
  (pU:PySem.W.findIn K (.ref c5) "__class__"=some (some (.builtin "object.__class__")))
  (pW:PySem.W.mroIn K c5 (.type "object")=some true)
  (pX:PySem.W.mroIn K c5 (.type "BaseException")=some true)
  (Xx:PySem.W.keepIn K (.ref c6)=true)
  (aas:qO K c6=true)
  (T6:uF K c6=true)
  (aat:PySem.W.findIn K (.ref c6) "__setattr__"=some (some (.builtin "object.__setattr__")))
  (T7:PySem.W.findIn K (.ref c6) "row"=some none)
  (aau:PySem.W.findIn K (.ref c6) "__init__"=some (some (.ref fI)))
  (pY:PySem.W.findIn K (.ref c6) "__getattribute__"=some (some (.builtin "BaseException.__getattribute__")))
  (pZ:PySem.W.findIn K (.ref c6) "__getattr__"=some none)
  (p7:PySem.W.findIn K (.ref c6) "__class__"=some (some (.builtin "object.__class__")))
  (p8:PySem.W.mroIn K c6 (.type "object")=some true)
  (qb:PySem.W.mroIn K c6 (.type "BaseException")=some true)
  (T8:PySem.W.mroIn K c1 (.ref c9)=some false)
  (T9:PySem.W.mroIn K c2 (.ref c9)=some false)
  (T_:PySem.W.mroIn K c3 (.ref c9)=some false)
  (Ua:PySem.W.mroIn K c4 (.ref c9)=some false)
  (Ub:PySem.W.mroIn K c5 (.ref c9)=some false)
  (Uc:PySem.W.mroIn K c6 (.ref c9)=some false)
  (Oe:PySem.W.mroIn K c1 (.ref gM)=some false)
  (Og:PySem.W.mroIn K c2 (.ref gM)=some false)
  (Oh:PySem.W.mroIn K c3 (.ref gM)=some false)
  (Oi:PySem.W.mroIn K c4 (.ref gM)=some false)
  (Oj:PySem.W.mroIn K c5 (.ref gM)=some false)
  (Ol:PySem.W.mroIn K c6 (.ref gM)=some false)
  (Om:PySem.W.mroIn K c1 (.ref gO)=some false)
  (Oo:PySem.W.mroIn K c2 (.ref gO)=some false)
  (Oq:PySem.W.mroIn K c3 (.ref gO)=some false)
  (Ot:PySem.W.mroIn K c4 (.ref gO)=some false)
  (Ou:PySem.W.mroIn K c5 (.ref gO)=some false)
  (Ov:PySem.W.mroIn K c6 (.ref gO)=some false)
  (Ud:PySem.W.mroIn K c1 (.ref c7)=some false)
  (Ue:PySem.W.mroIn K c2 (.ref c7)=some false)
  (Ug:PySem.W.mroIn K c3 (.ref c7)=some false)
  (Uh:PySem.W.mroIn K c4 (.ref c7)=some false)
  (Ui:PySem.W.mroIn K c5 (.ref c7)=some false)
  (Uj:PySem.W.mroIn K c6 (.ref c7)=some false)
  (Uk:PySem.W.mroIn K c1 (.ref c8)=some false)
  (Ul:PySem.W.mroIn K c2 (.ref c8)=some false)
  (Um:PySem.W.mroIn K c3 (.ref c8)=some false)
  (Uo:PySem.W.mroIn K c4 (.ref c8)=some false)
  (Uq:PySem.W.mroIn K c5 (.ref c8)=some false)
  (Ur:PySem.W.mroIn K c6 (.ref c8)=some false)
  (Us:PySem.W.mroIn K c1 (.ref c6)=some false)
  (Ut:PySem.W.mroIn K c2 (.ref c6)=some false)
  (Uu:PySem.W.mroIn K c3 (.ref c6)=some false)
  (Uv:PySem.W.mroIn K c4 (.ref c6)=some false)
  (Uw:PySem.W.mroIn K c5 (.ref c6)=some false)
  (Ux:PySem.W.mroIn K c6 (.ref c6)=some true)
  (Uy:PySem.W.mroIn K c1 (.ref c1)=some true)
  (Uz:PySem.W.mroIn K c2 (.ref c1)=some true)
  (K6:PySem.W.mroIn K c3 (.ref c1)=some true)
  (K7:PySem.W.mroIn K c4 (.ref c1)=some true)
  (UG:PySem.W.mroIn K c5 (.ref c1)=some true)
  (UJ:PySem.W.mroIn K c6 (.ref c1)=some true)
  (UL:PySem.W.mroIn K c1 (.ref c0)=some true)
  (UW:PySem.W.mroIn K c2 (.ref c0)=some true)
  (U0:PySem.W.mroIn K c3 (.ref c0)=some true)
  (U3:PySem.W.mroIn K c4 (.ref c0)=some true)
  (U4:PySem.W.mroIn K c5 (.ref c0)=some true)
  (U5:PySem.W.mroIn K c6 (.ref c0)=some true)
  (U6:PySem.W.mroIn K c1 (.ref c2)=some false)
  (U7:PySem.W.mroIn K c2 (.ref c2)=some true)
  (U8:PySem.W.mroIn K c3 (.ref c2)=some false)
  (U9:PySem.W.mroIn K c4 (.ref c2)=some false)
  (U_:PySem.W.mroIn K c5 (.ref c2)=some false)
  (Va:PySem.W.mroIn K c6 (.ref c2)=some false)
  (Vb:PySem.W.mroIn K c1 (.ref c3)=some false)
  (Vc:PySem.W.mroIn K c2 (.ref c3)=some false)
  (Vd:PySem.W.mroIn K c3 (.ref c3)=some true)
  (Ve:PySem.W.mroIn K c4 (.ref c3)=some false)
  (Vf:PySem.W.mroIn K c5 (.ref c3)=some false)
  (Vg:PySem.W.mroIn K c6 (.ref c3)=some false)
  (Vh:PySem.W.mroIn K c1 (.ref c4)=some false)
  (Vi:PySem.W.mroIn K c2 (.ref c4)=some false)
  (Vj:PySem.W.mroIn K c3 (.ref c4)=some false)
  (Vk:PySem.W.mroIn K c4 (.ref c4)=some true)
  (Vl:PySem.W.mroIn K c5 (.ref c4)=some false)
  (Vm:PySem.W.mroIn K c6 (.ref c4)=some false)
  (Vn:PySem.W.mroIn K c1 (.ref c5)=some false)
  (Vo:PySem.W.mroIn K c2 (.ref c5)=some false)
  (Vp:PySem.W.mroIn K c3 (.ref c5)=some false)
  (Vq:PySem.W.mroIn K c4 (.ref c5)=some false)
  (Vr:PySem.W.mroIn K c5 (.ref c5)=some true)
  (Vs:PySem.W.mroIn K c6 (.ref c5)=some false)
  (J4:PySem.W.mroIn K c7 (.ref c7)=some true)
  (J5:PySem.W.typeIn K (.ref c7)=some (.type "type"))
  (J6:PySem.W.mroIn K c8 (.ref c8)=some true)
  (J7:PySem.W.typeIn K (.ref c8)=some (.type "type"))
  (Di:PySem.W.mroIn K gO (.ref gO)=some true)
  (Dj:PySem.W.typeIn K (.ref gO)=some (.type "type"))
  (J8:PySem.W.mroIn K c2 (.ref c2)=some true)
  (J9:PySem.W.typeIn K (.ref c2)=some (.type "type"))
  (J_:PySem.W.mroIn K c4 (.ref c4)=some true)
  (Ka:PySem.W.typeIn K (.ref c4)=some (.type "type"))
  (Kc:PySem.W.mroIn K c9 (.ref c9)=some true)
  (Ke:PySem.W.typeIn K (.ref c9)=some (.type "type"))
  (Fd:PySem.W.mroIn K c1 (.ref c1)=some true)
  (Fe:PySem.W.typeIn K (.ref c1)=some (.type "type"))
  (Kf:PySem.W.mroIn K c3 (.ref c3)=some true)
  (Kg:PySem.W.typeIn K (.ref c3)=some (.type "type"))
  (Kh:PySem.W.mroIn K c6 (.ref c6)=some true)
  (Kl:PySem.W.typeIn K (.ref c6)=some (.type "type"))
  (Dk:PySem.W.mroIn K gM (.ref gM)=some true)
  (Dl:PySem.W.typeIn K (.ref gM)=some (.type "type"))
  (Km:PySem.W.mroIn K c5 (.ref c5)=some true)
  (Ko:PySem.W.typeIn K (.ref c5)=some (.type "type"))
  (Kp:PySem.W.mroIn K c0 (.ref c0)=some true)
  (Kq:PySem.W.typeIn K (.ref c0)=some (.type "type"))
  (mO:PySem.W.mroIn K c1 (.type "ValueError")=some true)
  (mQ:PySem.W.mroIn K c2 (.type "ValueError")=some true)
  (mR:PySem.W.mroIn K c3 (.type "ValueError")=some true)
  (mU:PySem.W.mroIn K c4 (.type "ValueError")=some true)
  (mV:PySem.W.mroIn K c5 (.type "ValueError")=some true)
  (mW:PySem.W.mroIn K c6 (.type "ValueError")=some true)
  (rY:PySem.W.nsIn K mainGlobals "ValueError"=some none)
  (Ow:PySem.W.nsIn K mainGlobals "bool"=some none)
  (Vt:PySem.W.nsIn K mainGlobals "int"=some none)
  (rZ:PySem.W.nsIn K mainGlobals "isinstance"=some none)
  (Vu:PySem.W.nsIn K mainGlobals "len"=some none)
  (Ox:PySem.W.nsIn K mainGlobals "list"=some none)
  (Jp:PySem.W.nsIn K mainGlobals "range"=some none)
  (wX:PySem.W.nsIn K mainGlobals "reversed"=some none)
  (Vv:PySem.W.nsIn K mainGlobals "str"=some none)
  (Jq:PySem.W.nsIn K mainGlobals "tuple"=some none)
  :∃fd:FuncData,(∀(s:Shared) (v:Value),BindsTo s fd ⟨[v],[]⟩ [("script",v)])/\∀base:Heap,K.In base->base.Ns mainGlobals mg->aX l.prog w K mg base bO 52 fa fd ["script"] (@bA R0.nil K (Z.aD sb P 50) 26):=by
 letI:R0:=R0.nil;have e:=hfa.symm.trans (PySem.W.mg_of X G a26);cases e;have F0:=acy (st:=(top 21)) l0 c0_ k0;have B0:Binds K _ ["text","row"] []:=F0.binds XM λ_ _ _ _ _ _ us hl=>uV (show us.length=2 by simpa using hl) λ_ _=>⟨_,rfl,rfl⟩
 have D0:Binds K _ ["text","row"] [.int 0 dk0]:=F0.binds XM λ_ _ _ _ _ _ us hl=>qN (show us.length=1 by simpa using hl) λ_=>⟨_,rfl,rfl⟩
 have F1:=cu (st:=(top 22)) l1 c1_ k1;have B1:=F1.binds (ps:=["text"]) λ_ _ _ _ _ _ us hl=>qN hl λ_=>rfl;have F2:=cu (st:=(top 23)) l2 c2_ k2;have B2:=F2.binds (ps:=["text","place"]) λ_ _ _ _ _ _ us hl=>uV hl λ_ _=>rfl;have F3:=cu (st:=(top 24)) l3 c3_ k3;have B3:=F3.binds (ps:=["text","place"]) λ_ _ _ _ _ _ us hl=>uV hl λ_ _=>rfl;have F4:=cu (st:=(top 25)) l4 c4_ k4;have B4:=F4.binds (ps:=["word"]) λ_ _ _ _ _ _ us hl=>qN hl λ_=>rfl;have F5:=cu (st:=(top 26)) l5 c5_ k5;have B5:=F5.binds (ps:=["tokens"]) λ_ _ _ _ _ _ us hl=>qN hl λ_=>rfl;have F6:=cu (st:=(top 27)) l6 c6_ k6;have B6:=F6.binds (ps:=["begun","whole","joints"]) λ_ _ _ _ _ _ us hl=>by3 hl λ_ _ _=>rfl;have F7:=cu (st:=(top 29)) l7 c7_ k7;have B7:=F7.binds (ps:=["cell","count"]) λ_ _ _ _ _ _ us hl=>uV hl λ_ _=>rfl;have F8:=cu (st:=(top 30)) l8 c8_ k8;have B8:=F8.binds (ps:=["script","k"]) λ_ _ _ _ _ _ us hl=>uV hl λ_ _=>rfl;have F9:=cu (st:=(top 31)) l9 c9_ k9;have B9:=F9.binds (ps:=["number","size"]) λ_ _ _ _ _ _ us hl=>uV hl λ_ _=>rfl;have F10:=cu (st:=(top 32)) l10 ZQ k10;have B10:=F10.binds (ps:=["cell","size"]) λ_ _ _ _ _ _ us hl=>uV hl λ_ _=>rfl;have F11:=cu (st:=(top 33)) l11 ZR k11;have B11:=F11.binds (ps:=["drawn","names"]) λ_ _ _ _ _ _ us hl=>uV hl λ_ _=>rfl;have F12:=cu (st:=(top 34)) l12 ZV k12;have B12:=F12.binds (ps:=["text","drawn"]) λ_ _ _ _ _ _ us hl=>uV hl λ_ _=>rfl;have F13:=cu (st:=(top 35)) l13 ZW k13;have B13:=F13.binds (ps:=["text","drawn"]) λ_ _ _ _ _ _ us hl=>uV hl λ_ _=>rfl;have F14:=cu (st:=(top 36)) l14 ZX k14;have B14:=F14.binds (ps:=["text"]) λ_ _ _ _ _ _ us hl=>qN hl λ_=>rfl;have F15:=cu (st:=(top 37)) l15 Z0 Q8;have B15:=F15.binds (ps:=["tokens"]) λ_ _ _ _ _ _ us hl=>qN hl λ_=>rfl;have F16:=cu (st:=(top 38)) l16 Z1 NK;have B16:=F16.binds (ps:=["items"]) λ_ _ _ _ _ _ us hl=>qN hl λ_=>rfl;have F17:=cu (st:=(top 39)) l17 Z2 Q9;have B17:=F17.binds (ps:=["text"]) λ_ _ _ _ _ _ us hl=>qN hl λ_=>rfl;have F18:=cu (st:=(top 40)) l18 Z4 Q_;have B18:=F18.binds (ps:=["text"]) λ_ _ _ _ _ _ us hl=>qN hl λ_=>rfl;have F19:=cu (st:=(top 41)) l19 Z5 NP;have B19:=F19.binds (ps:=["found","due"]) λ_ _ _ _ _ _ us hl=>uV hl λ_ _=>rfl;have F20:=cu (st:=(top 42)) l20 Z6 Nu;have B20:=F20.binds (ps:=["e"]) λ_ _ _ _ _ _ us hl=>qN hl λ_=>rfl;have F21:=cu (st:=(top 43)) l21 Z7 NQ;have B21:=F21.binds (ps:=["kind"]) λ_ _ _ _ _ _ us hl=>qN hl λ_=>rfl;have F22:=cu (st:=(top 44)) l22 Z8 Ra;have B22:=F22.binds (ps:=["text","how","place"]) λ_ _ _ _ _ _ us hl=>by3 hl λ_ _ _=>rfl;have F23:=cu (st:=(top 45)) l23 Z9 NT;have B23:=F23.binds (ps:=["found"]) λ_ _ _ _ _ _ us hl=>qN hl λ_=>rfl;have F24:=cu (st:=(top 46)) l24 Z_ Rb;have B24:=F24.binds (ps:=["place"]) λ_ _ _ _ _ _ us hl=>qN hl λ_=>rfl;have F25:=cu (st:=(top 47)) l25 aac Rc;have B25:=F25.binds (ps:=["text","how","place"]) λ_ _ _ _ _ _ us hl=>by3 hl λ_ _ _=>rfl;have F26:=cu (st:=(top 48)) l26 aad Xo;have B26:=F26.binds (ps:=["script"]) λ_ _ _ _ _ _ us hl=>qN hl λ_=>rfl;have FI:=cu (st:=(inner 2 0)) lI cI_ kI;have BI:=FI.binds (ps:=["self","row"]) λ_ _ _ _ _ _ us hl=>uV hl λ_ _=>rfl;refine ⟨PySem.W.fnOf "law" "law" (bh (top 48)) (aW (top 48)) (aG (top 48)) .none ahg ahh ahi agZ ZP ahj,λs v=>.of_eq rfl,λbase _ _=>?_⟩;exact (fns (Pr:=l.prog) (w:=w) (base:=base) ⟨⟨_,F0⟩,B0,⟨_,D0,Io⟩,PySem.W.mg_of X G a0,k0,F1,B1,PySem.W.mg_of X G a1,k1,F2,B2,PySem.W.mg_of X G a2,k2,F3,B3,PySem.W.mg_of X G a3,k3,F4,B4,PySem.W.mg_of X G a4,k4,F5,B5,PySem.W.mg_of X G a5,k5,F6,B6,PySem.W.mg_of X G a6,k6,F7,B7,PySem.W.mg_of X G a7,k7,F8,B8,PySem.W.mg_of X G a8,k8,F9,B9,PySem.W.mg_of X G a9,k9,F10,B10,PySem.W.mg_of X G a10,k10,F11,B11,PySem.W.mg_of X G a11,k11,F12,B12,PySem.W.mg_of X G a12,k12,F13,B13,PySem.W.mg_of X G a13,k13,F14,B14,PySem.W.mg_of X G a14,k14,F15,B15,PySem.W.mg_of X G a15,Q8,F16,B16,PySem.W.mg_of X G a16,NK,F17,B17,PySem.W.mg_of X G a17,Q9,F18,B18,PySem.W.mg_of X G a18,Q_,F19,B19,PySem.W.mg_of X G a19,NP,F20,B20,PySem.W.mg_of X G a20,Nu,F21,B21,PySem.W.mg_of X G a21,NQ,F22,B22,PySem.W.mg_of X G a22,Ra,F23,B23,PySem.W.mg_of X G a23,NT,F24,B24,PySem.W.mg_of X G a24,Rb,F25,B25,PySem.W.mg_of X G a25,Rc,F26,B26,PySem.W.mg_of X G a26,Xo,n0,PySem.W.mg_of X G n0,n1,PySem.W.mg_of X G n1,n2,PySem.W.mg_of X G n2,n3,PySem.W.mg_of X G n3,n4,PySem.W.mg_of X G n4,n5,PySem.W.mg_of X G n5,n6,PySem.W.mg_of X G n6,n7,PySem.W.mg_of X G n7,n8,PySem.W.mg_of X G n8,n9,PySem.W.mg_of X G n9,n10,PySem.W.mg_of X G n10,Xr,PySem.W.mg_of X G Xr,FI,BI,nI_,Xu,⟨aae,Tz,aaf,TF,aI⟩,Xv,⟨aag,TJ,aah,TQ,aai⟩,NZ,⟨aaj,TV,aak,TX,aal⟩,N5,⟨aam,TY,aan,T3,aao⟩,Xw,⟨aap,T4,aaq,T5,aar⟩,Xx,⟨aas,T6,aat,T7,aau⟩,(bf n1 ⟨oZ,o7,o8,o9,lY⟩ (aH T8 Kc Ke) (bf n2 ⟨o_,pA,pB,pC,pD⟩ (aH T9 Kc Ke) (bf n3 ⟨pF,pG,pH,pI,pJ⟩ (aH T_ Kc Ke) (bf n4 ⟨pK,pL,pN,pO,pP⟩ (aH Ua Kc Ke) (bf n5 ⟨pQ,pR,pU,pW,pX⟩ (aH Ub Kc Ke) (bf n6 ⟨pY,pZ,p7,p8,qb⟩ (aH Uc Kc Ke) (d_ iH iT))))))),(bf n1 ⟨oZ,o7,o8,o9,lY⟩ (aH Oe Dk Dl) (bf n2 ⟨o_,pA,pB,pC,pD⟩ (aH Og Dk Dl) (bf n3 ⟨pF,pG,pH,pI,pJ⟩ (aH Oh Dk Dl) (bf n4 ⟨pK,pL,pN,pO,pP⟩ (aH Oi Dk Dl) (bf n5 ⟨pQ,pR,pU,pW,pX⟩ (aH Oj Dk Dl) (bf n6 ⟨pY,pZ,p7,p8,qb⟩ (aH Ol Dk Dl) (d_ iH iT))))))),(bf n1 ⟨oZ,o7,o8,o9,lY⟩ (aH Om Di Dj) (bf n2 ⟨o_,pA,pB,pC,pD⟩ (aH Oo Di Dj) (bf n3 ⟨pF,pG,pH,pI,pJ⟩ (aH Oq Di Dj) (bf n4 ⟨pK,pL,pN,pO,pP⟩ (aH Ot Di Dj) (bf n5 ⟨pQ,pR,pU,pW,pX⟩ (aH Ou Di Dj) (bf n6 ⟨pY,pZ,p7,p8,qb⟩ (aH Ov Di Dj) (d_ iH iT))))))),(bf n1 ⟨oZ,o7,o8,o9,lY⟩ (aH Ud J4 J5) (bf n2 ⟨o_,pA,pB,pC,pD⟩ (aH Ue J4 J5) (bf n3 ⟨pF,pG,pH,pI,pJ⟩ (aH Ug J4 J5) (bf n4 ⟨pK,pL,pN,pO,pP⟩ (aH Uh J4 J5) (bf n5 ⟨pQ,pR,pU,pW,pX⟩ (aH Ui J4 J5) (bf n6 ⟨pY,pZ,p7,p8,qb⟩ (aH Uj J4 J5) (d_ iH iT))))))),(bf n1 ⟨oZ,o7,o8,o9,lY⟩ (aH Uk J6 J7) (bf n2 ⟨o_,pA,pB,pC,pD⟩ (aH Ul J6 J7) (bf n3 ⟨pF,pG,pH,pI,pJ⟩ (aH Um J6 J7) (bf n4 ⟨pK,pL,pN,pO,pP⟩ (aH Uo J6 J7) (bf n5 ⟨pQ,pR,pU,pW,pX⟩ (aH Uq J6 J7) (bf n6 ⟨pY,pZ,p7,p8,qb⟩ (aH Ur J6 J7) (d_ iH iT))))))),(dw n6 ⟨pY,pZ,p7,p8,qb⟩ (aH Ux Kh Kl) (bf n1 ⟨oZ,o7,o8,o9,lY⟩ (aH Us Kh Kl) (bf n2 ⟨o_,pA,pB,pC,pD⟩ (aH Ut Kh Kl) (bf n3 ⟨pF,pG,pH,pI,pJ⟩ (aH Uu Kh Kl) (bf n4 ⟨pK,pL,pN,pO,pP⟩ (aH Uv Kh Kl) (bf n5 ⟨pQ,pR,pU,pW,pX⟩ (aH Uw Kh Kl) (d_ iH iT))))))),(dw n1 ⟨oZ,o7,o8,o9,lY⟩ (aH Uy Fd Fe) (dw n2 ⟨o_,pA,pB,pC,pD⟩ (aH Uz Fd Fe) (dw n3 ⟨pF,pG,pH,pI,pJ⟩ (aH K6 Fd Fe) (dw n4 ⟨pK,pL,pN,pO,pP⟩ (aH K7 Fd Fe) (dw n5 ⟨pQ,pR,pU,pW,pX⟩ (aH UG Fd Fe) (dw n6 ⟨pY,pZ,p7,p8,qb⟩ (aH UJ Fd Fe) (d_ iH iT))))))),(dw n1 ⟨oZ,o7,o8,o9,lY⟩ (aH UL Kp Kq) (dw n2 ⟨o_,pA,pB,pC,pD⟩ (aH UW Kp Kq) (dw n3 ⟨pF,pG,pH,pI,pJ⟩ (aH U0 Kp Kq) (dw n4 ⟨pK,pL,pN,pO,pP⟩ (aH U3 Kp Kq) (dw n5 ⟨pQ,pR,pU,pW,pX⟩ (aH U4 Kp Kq) (dw n6 ⟨pY,pZ,p7,p8,qb⟩ (aH U5 Kp Kq) (d_ iH iT))))))),(dw n2 ⟨o_,pA,pB,pC,pD⟩ (aH U7 J8 J9) (bf n1 ⟨oZ,o7,o8,o9,lY⟩ (aH U6 J8 J9) (bf n3 ⟨pF,pG,pH,pI,pJ⟩ (aH U8 J8 J9) (bf n4 ⟨pK,pL,pN,pO,pP⟩ (aH U9 J8 J9) (bf n5 ⟨pQ,pR,pU,pW,pX⟩ (aH U_ J8 J9) (bf n6 ⟨pY,pZ,p7,p8,qb⟩ (aH Va J8 J9) (d_ iH iT))))))),(dw n3 ⟨pF,pG,pH,pI,pJ⟩ (aH Vd Kf Kg) (bf n1 ⟨oZ,o7,o8,o9,lY⟩ (aH Vb Kf Kg) (bf n2 ⟨o_,pA,pB,pC,pD⟩ (aH Vc Kf Kg) (bf n4 ⟨pK,pL,pN,pO,pP⟩ (aH Ve Kf Kg) (bf n5 ⟨pQ,pR,pU,pW,pX⟩ (aH Vf Kf Kg) (bf n6 ⟨pY,pZ,p7,p8,qb⟩ (aH Vg Kf Kg) (d_ iH iT))))))),(dw n4 ⟨pK,pL,pN,pO,pP⟩ (aH Vk J_ Ka) (bf n1 ⟨oZ,o7,o8,o9,lY⟩ (aH Vh J_ Ka) (bf n2 ⟨o_,pA,pB,pC,pD⟩ (aH Vi J_ Ka) (bf n3 ⟨pF,pG,pH,pI,pJ⟩ (aH Vj J_ Ka) (bf n5 ⟨pQ,pR,pU,pW,pX⟩ (aH Vl J_ Ka) (bf n6 ⟨pY,pZ,p7,p8,qb⟩ (aH Vm J_ Ka) (d_ iH iT))))))),(dw n5 ⟨pQ,pR,pU,pW,pX⟩ (aH Vr Km Ko) (bf n1 ⟨oZ,o7,o8,o9,lY⟩ (aH Vn Km Ko) (bf n2 ⟨o_,pA,pB,pC,pD⟩ (aH Vo Km Ko) (bf n3 ⟨pF,pG,pH,pI,pJ⟩ (aH Vp Km Ko) (bf n4 ⟨pK,pL,pN,pO,pP⟩ (aH Vq Km Ko) (bf n6 ⟨pY,pZ,p7,p8,qb⟩ (aH Vs Km Ko) (d_ iH iT))))))),(dw n1 ⟨oZ,o7,o8,o9,lY⟩ (uU (by decide+kernel) mO) (dw n2 ⟨o_,pA,pB,pC,pD⟩ (uU (by decide+kernel) mQ) (dw n3 ⟨pF,pG,pH,pI,pJ⟩ (uU (by decide+kernel) mR) (dw n4 ⟨pK,pL,pN,pO,pP⟩ (uU (by decide+kernel) mU) (dw n5 ⟨pQ,pR,pU,pW,pX⟩ (uU (by decide+kernel) mV) (dw n6 ⟨pY,pZ,p7,p8,qb⟩ (uU (by decide+kernel) mW) (d_ iH iT))))))),(j4 n1 ⟨⟨oZ,o7,o8,o9,lY⟩,Tz,TF⟩ (j4 n2 ⟨⟨o_,pA,pB,pC,pD⟩,TJ,TQ⟩ (j4 n3 ⟨⟨pF,pG,pH,pI,pJ⟩,TV,TX⟩ (j4 n4 ⟨⟨pK,pL,pN,pO,pP⟩,TY,T3⟩ (j4 n5 ⟨⟨pQ,pR,pU,pW,pX⟩,T4,T5⟩ (j4 n6 ⟨⟨pY,pZ,p7,p8,qb⟩,T6,T7⟩ Zd)))))),(GR n3 (WD lY K6 Fd Fe) (GR n4 (WD lY K7 Fd Fe) WT)),(F0.afk XM λ_ _ _ _ _ _ _ _=>⟨_,rfl,rfl⟩),PySem.W.mg_none_of X G rY,PySem.W.mg_none_of X G Ow,PySem.W.mg_none_of X G Vt,PySem.W.mg_none_of X G rZ,PySem.W.mg_none_of X G Vu,PySem.W.mg_none_of X G Ox,PySem.W.mg_none_of X G Jp,PySem.W.mg_none_of X G wX,PySem.W.mg_none_of X G Vv,PySem.W.mg_none_of X G Jq,⟨_,PySem.W.mg_of X G oF,Io⟩,⟨_,PySem.W.mg_of X G Dd,(qy Df (Nat.le_of_ble_eq_true rfl) (.cons (cA (by decide+kernel) (by decide+kernel)) (.cons (cA (by decide+kernel) (by decide+kernel)) (.cons (cA (by decide+kernel) (by decide+kernel)) (.cons (cA (by decide+kernel) (by decide+kernel)) (.cons (cA (by decide+kernel) (by decide+kernel)) .nil))))))⟩,⟨_,PySem.W.mg_of X G wR,(cA (by decide+kernel) (by decide+kernel))⟩,⟨_,PySem.W.mg_of X G oG,(qy oH (Nat.le_of_ble_eq_true rfl) (.cons (cA (by decide+kernel) (by decide+kernel)) (.cons (cA (by decide+kernel) (by decide+kernel)) (.cons (cA (by decide+kernel) (by decide+kernel)) (.cons (cA (by decide+kernel) (by decide+kernel)) (.cons (cA (by decide+kernel) (by decide+kernel)) (.cons (cA (by decide+kernel) (by decide+kernel)) .nil)))))))⟩,⟨_,PySem.W.mg_of X G lV,Io⟩,⟨_,PySem.W.mg_of X G Dg,(qy Dh (Nat.le_of_ble_eq_true rfl) (.cons (cA (by decide+kernel) (by decide+kernel)) (.cons (cA (by decide+kernel) (by decide+kernel)) (.cons (cA (by decide+kernel) (by decide+kernel)) .nil))))⟩,⟨_,PySem.W.mg_of X G wU,afb [("and",zR,(.ref rN)),("or",zT,(.ref rO)),(")",zU,(.ref rQ))] wV rfl wW (show ([Str.ofString "and",Str.ofString "or",Str.ofString ")"]:List Str).Nodup by decide+kernel) (show ([Str.ofString "and",Str.ofString "or",Str.ofString ")"]:List Str)=(cL.map (λp=>(⟨p.1.toArray⟩:Str))) by decide+kernel) (.cons (qy rR (Nat.le_of_ble_eq_true rfl) (.cons (cA (by decide+kernel) (by decide+kernel)) (.cons (cA (by decide+kernel) (by decide+kernel)) .nil))) (.cons (qy rT (Nat.le_of_ble_eq_true rfl) (.cons (cA (by decide+kernel) (by decide+kernel)) (.cons (cA (by decide+kernel) (by decide+kernel)) (.cons (cA (by decide+kernel) (by decide+kernel)) .nil)))) (.cons (qy rW (Nat.le_of_ble_eq_true rfl) (.cons (cA (by decide+kernel) (by decide+kernel)) (.cons (cA (by decide+kernel) (by decide+kernel)) (.cons (cA (by decide+kernel) (by decide+kernel)) .nil)))) .nil)))⟩⟩ 50 R0.nil).jw
end gb
open PySem PySem.W PyProof.Rows
noncomputable def gb.QV:Program:=view PySem.Challenge.pw_wontbook_k02_read_by_hand ((List.range 49).filter λi=>!([0,13,21,28].contains i))
set_option Elab.async false
section
local macro_rules
 | `(tactic| o_head $H)=>`(tactic| skip)
set_option maxRecDepth 100000 in
theorem gb.dm (h:(OpenLaw.row PySem.Challenge.rw_wontbook_k02_read_by_hand).Holds):(OpenLaw.row PySem.Challenge.rw_wontbook_k02_read_by_hand).Holds:=by
 k_head
 exact h
end
noncomputable def gb.AL:List Nat:=[2,3,15,22,23,24,25,28,35,37,38,40,41,42,43,44,47,54,55,56,59,66,67,68,71,78,79,80,83,90,91,92,95,102,103,104,107,114,115,116,119,126,127,128,131,138,139,140,143,150,151,152,155,162,163,164,167,168,169,170,171,172,173,174,175,177,178,180,181,182,184,185,187,188,189,191,192,194,195,196,198,199,201,202,203,205,206,208,209,210,212,213,215,216,217,219,220,222,223,224,226,227,229,230,231,233,234,236,237,238,240,241,243,244,245,247,248,250,251,252,254,255,257,258,259,261,262,264,265,266,268,269,271,272,273,275,276,278,279,280,282,283,285,286,287,289,290,292,293,294,296,297,299,300,301,303,304,306,307,308,310,311,313,314,315,317,318,320,321,322,325,326,327,329,330,332,333,334,336,337,339,340,341,343,344,346,347,348,350,351,353,354,355,357,358,360,361]
set_option maxRecDepth 100000 in
theorem gb.gof:∀(w:World) (os:OsState),ZH.GoQ (OpenLaw.row PySem.Challenge.rw_wontbook_k02_read_by_hand).prog gb.QV [PySem.Str.ofString "TIGHTER",PySem.Str.ofString "read_sentence"] (OpenLaw.row PySem.Challenge.rw_wontbook_k02_read_by_hand).records 7470 gb.dm.heap_1 gb.AL (World.withFollow w "special-get-raises" false) os:=by
 intro w os;kernel_rfl
set_option maxRecDepth 100000 in
theorem gb.got:∀(w:World) (os:OsState),ZH.GoQ (OpenLaw.row PySem.Challenge.rw_wontbook_k02_read_by_hand).prog gb.QV [PySem.Str.ofString "TIGHTER",PySem.Str.ofString "read_sentence"] (OpenLaw.row PySem.Challenge.rw_wontbook_k02_read_by_hand).records 7470 gb.dm.heap_1 gb.AL (World.withFollow w "special-get-raises" true) os:=by
 intro w os;kernel_rfl
set_option maxRecDepth 100000 in
theorem gb.ws:OpenLaw.wellSaid PySem.Challenge.rw_wontbook_k02_read_by_hand=true:=(congrFun Fast.te9446332074065402090 _).trans (by kernel_rfl)
set_option maxRecDepth 100000 in
set_option maxHeartbeats 0 in
theorem PySem.Challenge.cw_wontbook_k02_read_by_hand_holds : PySem.Challenge.rw_wontbook_k02_read_by_hand.Holds := by
 w_on
 refine holds_law gb.ws λsaid=>?_;refine ZH.afV (q:=gb.QV) (loose:=[PySem.Str.ofString "TIGHTER",PySem.Str.ofString "read_sentence"]) (N:=7470) (K:=gb.dm.heap_1) (as:=gb.AL) (λ_=>by kernel_rfl) (byRow2 "special-get-raises" gb.gof gb.got) rfl rfl (λ_=>rfl) (by rfl) (by rfl) (by rfl) (by rfl) (by assumption) (by decide+kernel) ⟨rfl,rfl,rfl,rfl,rfl,by decide+kernel⟩ (by w_witness2) ?_
 k_fill
 refine ZS.afq (l:=PySem.Challenge.rw_wontbook_k02_read_by_hand) (kk:=52) (kd:=50) (i:=26) (sub:=gb.sb) (Pg:=gb.P) rfl rfl ⟨rfl,by decide,by decide⟩ (λw h Y=>PySem.W.kIn_of Y) (λns hl=>gb.agN ns hl) ?F
 case F=>
  intro w mg fa h KX G hmg;refine' gb.all_mk KX G hmg ?oF ?Dd ?Df ?wR ?oG ?oH ?lV ?Dg ?Dh ?wU ?wV ?rR ?rT ?rW ?wW ?n0 ?n1 ?n2 ?n3 ?n4 ?n5 ?n6 ?n7 ?n8 ?n9 ?n10 ?Xr ?a0 ?l0 ?XM ?c0_ ?k0 ?a1 ?l1 ?c1_ ?k1 ?a2 ?l2 ?c2_ ?k2 ?a3 ?l3 ?c3_ ?k3 ?a4 ?l4 ?c4_ ?k4 ?a5 ?l5 ?c5_ ?k5 ?a6 ?l6 ?c6_ ?k6 ?a7 ?l7 ?c7_ ?k7 ?a8 ?l8 ?c8_ ?k8 ?a9 ?l9 ?c9_ ?k9 ?a10 ?l10 ?ZQ ?k10 ?a11 ?l11 ?ZR ?k11 ?a12 ?l12 ?ZV ?k12 ?a13 ?l13 ?ZW ?k13 ?a14 ?l14 ?ZX ?k14 ?a15 ?l15 ?Z0 ?Q8 ?a16 ?l16 ?Z1 ?NK ?a17 ?l17 ?Z2 ?Q9 ?a18 ?l18 ?Z4 ?Q_ ?a19 ?l19 ?Z5 ?NP ?a20 ?l20 ?Z6 ?Nu ?a21 ?l21 ?Z7 ?NQ ?a22 ?l22 ?Z8 ?Ra ?a23 ?l23 ?Z9 ?NT ?a24 ?l24 ?Z_ ?Rb ?a25 ?l25 ?aac ?Rc ?a26 ?l26 ?aad ?Xo ?aI ?lI ?cI_ ?kI ?nI_ ?iH ?iT ?Xu ?aae ?Tz ?aaf ?TF ?oZ ?o7 ?o8 ?o9 ?lY ?Xv ?aag ?TJ ?aah ?TQ ?aai ?o_ ?pA ?pB ?pC ?pD ?NZ ?aaj ?TV ?aak ?TX ?aal ?pF ?pG ?pH ?pI ?pJ ?N5 ?aam ?TY ?aan ?T3 ?aao ?pK ?pL ?pN ?pO ?pP ?Xw ?aap ?T4 ?aaq ?T5 ?aar ?pQ ?pR ?pU ?pW ?pX ?Xx ?aas ?T6 ?aat ?T7 ?aau ?pY ?pZ ?p7 ?p8 ?qb ?T8 ?T9 ?T_ ?Ua ?Ub ?Uc ?Oe ?Og ?Oh ?Oi ?Oj ?Ol ?Om ?Oo ?Oq ?Ot ?Ou ?Ov ?Ud ?Ue ?Ug ?Uh ?Ui ?Uj ?Uk ?Ul ?Um ?Uo ?Uq ?Ur ?Us ?Ut ?Uu ?Uv ?Uw ?Ux ?Uy ?Uz ?K6 ?K7 ?UG ?UJ ?UL ?UW ?U0 ?U3 ?U4 ?U5 ?U6 ?U7 ?U8 ?U9 ?U_ ?Va ?Vb ?Vc ?Vd ?Ve ?Vf ?Vg ?Vh ?Vi ?Vj ?Vk ?Vl ?Vm ?Vn ?Vo ?Vp ?Vq ?Vr ?Vs ?J4 ?J5 ?J6 ?J7 ?Di ?Dj ?J8 ?J9 ?J_ ?Ka ?Kc ?Ke ?Fd ?Fe ?Kf ?Kg ?Kh ?Kl ?Dk ?Dl ?Km ?Ko ?Kp ?Kq ?mO ?mQ ?mR ?mU ?mV ?mW ?rY ?Ow ?Vt ?rZ ?Vu ?Ox ?Jp ?wX ?Vv ?Jq
  (case oF=>k_is)
  (case Dd=>k_is)
  (case Df=>k_is)
  (case wR=>k_is)
  (case oG=>k_is)
  (case oH=>k_is)
  (case lV=>k_is)
  (case Dg=>k_is)
  (case Dh=>k_is)
  (case wU=>k_is)
  (case wV=>k_is)
  (case rR=>k_is)
  (case rT=>k_is)
  (case rW=>k_is)
  (case wW=>rfl)
  (case n0=>k_is)
  (case n1=>k_is)
  (case n2=>k_is)
  (case n3=>k_is)
  (case n4=>k_is)
  (case n5=>k_is)
  (case n6=>k_is)
  (case n7=>k_is)
  (case n8=>k_is)
  (case n9=>k_is)
  (case n10=>k_is)
  (case Xr=>k_is)
  (case a0=>k_is)
  (case l0=>k_is)
  (case XM=>k_is)
  (case c0_=>k_is)
  (case k0=>k_is)
  (case a1=>k_is)
  (case l1=>k_is)
  (case c1_=>k_is)
  (case k1=>k_is)
  (case a2=>k_is)
  (case l2=>k_is)
  (case c2_=>k_is)
  (case k2=>k_is)
  (case a3=>k_is)
  (case l3=>k_is)
  (case c3_=>k_is)
  (case k3=>k_is)
  (case a4=>k_is)
  (case l4=>k_is)
  (case c4_=>k_is)
  (case k4=>k_is)
  (case a5=>k_is)
  (case l5=>k_is)
  (case c5_=>k_is)
  (case k5=>k_is)
  (case a6=>k_is)
  (case l6=>k_is)
  (case c6_=>k_is)
  (case k6=>k_is)
  (case a7=>k_is)
  (case l7=>k_is)
  (case c7_=>k_is)
  (case k7=>k_is)
  (case a8=>k_is)
  (case l8=>k_is)
  (case c8_=>k_is)
  (case k8=>k_is)
  (case a9=>k_is)
  (case l9=>k_is)
  (case c9_=>k_is)
  (case k9=>k_is)
  (case a10=>k_is)
  (case l10=>k_is)
  (case ZQ=>k_is)
  (case k10=>k_is)
  (case a11=>k_is)
  (case l11=>k_is)
  (case ZR=>k_is)
  (case k11=>k_is)
  (case a12=>k_is)
  (case l12=>k_is)
  (case ZV=>k_is)
  (case k12=>k_is)
  (case a13=>k_is)
  (case l13=>k_is)
  (case ZW=>k_is)
  (case k13=>k_is)
  (case a14=>k_is)
  (case l14=>k_is)
  (case ZX=>k_is)
  (case k14=>k_is)
  (case a15=>k_is)
  (case l15=>k_is)
  (case Z0=>k_is)
  (case Q8=>k_is)
  (case a16=>k_is)
  (case l16=>k_is)
  (case Z1=>k_is)
  (case NK=>k_is)
  (case a17=>k_is)
  (case l17=>k_is)
  (case Z2=>k_is)
  (case Q9=>k_is)
  (case a18=>k_is)
  (case l18=>k_is)
  (case Z4=>k_is)
  (case Q_=>k_is)
  (case a19=>k_is)
  (case l19=>k_is)
  (case Z5=>k_is)
  (case NP=>k_is)
  (case a20=>k_is)
  (case l20=>k_is)
  (case Z6=>k_is)
  (case Nu=>k_is)
  (case a21=>k_is)
  (case l21=>k_is)
  (case Z7=>k_is)
  (case NQ=>k_is)
  (case a22=>k_is)
  (case l22=>k_is)
  (case Z8=>k_is)
  (case Ra=>k_is)
  (case a23=>k_is)
  (case l23=>k_is)
  (case Z9=>k_is)
  (case NT=>k_is)
  (case a24=>k_is)
  (case l24=>k_is)
  (case Z_=>k_is)
  (case Rb=>k_is)
  (case a25=>k_is)
  (case l25=>k_is)
  (case aac=>k_is)
  (case Rc=>k_is)
  (case a26=>k_is)
  (case l26=>k_is)
  (case aad=>k_is)
  (case Xo=>k_is)
  (case aI=>k_is)
  (case lI=>k_is)
  (case cI_=>k_is)
  (case kI=>k_is)
  (case nI_=>k_is)
  (case iH=>k_is)
  (case iT=>k_is)
  (case Xu=>k_is)
  (case aae=>first | kernel_rfl | decide+kernel)
  (case Tz=>first | kernel_rfl | decide+kernel)
  (case aaf=>k_is)
  (case TF=>k_is)
  (case oZ=>k_is)
  (case o7=>k_is)
  (case o8=>k_is)
  (case o9=>k_is)
  (case lY=>k_is)
  (case Xv=>k_is)
  (case aag=>first | kernel_rfl | decide+kernel)
  (case TJ=>first | kernel_rfl | decide+kernel)
  (case aah=>k_is)
  (case TQ=>k_is)
  (case aai=>k_is)
  (case o_=>k_is)
  (case pA=>k_is)
  (case pB=>k_is)
  (case pC=>k_is)
  (case pD=>k_is)
  (case NZ=>k_is)
  (case aaj=>first | kernel_rfl | decide+kernel)
  (case TV=>first | kernel_rfl | decide+kernel)
  (case aak=>k_is)
  (case TX=>k_is)
  (case aal=>k_is)
  (case pF=>k_is)
  (case pG=>k_is)
  (case pH=>k_is)
  (case pI=>k_is)
  (case pJ=>k_is)
  (case N5=>k_is)
  (case aam=>first | kernel_rfl | decide+kernel)
  (case TY=>first | kernel_rfl | decide+kernel)
  (case aan=>k_is)
  (case T3=>k_is)
  (case aao=>k_is)
  (case pK=>k_is)
  (case pL=>k_is)
  (case pN=>k_is)
  (case pO=>k_is)
  (case pP=>k_is)
  (case Xw=>k_is)
  (case aap=>first | kernel_rfl | decide+kernel)
  (case T4=>first | kernel_rfl | decide+kernel)
  (case aaq=>k_is)
  (case T5=>k_is)
  (case aar=>k_is)
  (case pQ=>k_is)
  (case pR=>k_is)
  (case pU=>k_is)
  (case pW=>k_is)
  (case pX=>k_is)
  (case Xx=>k_is)
  (case aas=>first | kernel_rfl | decide+kernel)
  (case T6=>first | kernel_rfl | decide+kernel)
  (case aat=>k_is)
  (case T7=>k_is)
  (case aau=>k_is)
  (case pY=>k_is)
  (case pZ=>k_is)
  (case p7=>k_is)
  (case p8=>k_is)
  (case qb=>k_is)
  (case T8=>k_is)
  (case T9=>k_is)
  (case T_=>k_is)
  (case Ua=>k_is)
  (case Ub=>k_is)
  (case Uc=>k_is)
  (case Oe=>k_is)
  (case Og=>k_is)
  (case Oh=>k_is)
  (case Oi=>k_is)
  (case Oj=>k_is)
  (case Ol=>k_is)
  (case Om=>k_is)
  (case Oo=>k_is)
  (case Oq=>k_is)
  (case Ot=>k_is)
  (case Ou=>k_is)
  (case Ov=>k_is)
  (case Ud=>k_is)
  (case Ue=>k_is)
  (case Ug=>k_is)
  (case Uh=>k_is)
  (case Ui=>k_is)
  (case Uj=>k_is)
  (case Uk=>k_is)
  (case Ul=>k_is)
  (case Um=>k_is)
  (case Uo=>k_is)
  (case Uq=>k_is)
  (case Ur=>k_is)
  (case Us=>k_is)
  (case Ut=>k_is)
  (case Uu=>k_is)
  (case Uv=>k_is)
  (case Uw=>k_is)
  (case Ux=>k_is)
  (case Uy=>k_is)
  (case Uz=>k_is)
  (case K6=>k_is)
  (case K7=>k_is)
  (case UG=>k_is)
  (case UJ=>k_is)
  (case UL=>k_is)
  (case UW=>k_is)
  (case U0=>k_is)
  (case U3=>k_is)
  (case U4=>k_is)
  (case U5=>k_is)
  (case U6=>k_is)
  (case U7=>k_is)
  (case U8=>k_is)
  (case U9=>k_is)
  (case U_=>k_is)
  (case Va=>k_is)
  (case Vb=>k_is)
  (case Vc=>k_is)
  (case Vd=>k_is)
  (case Ve=>k_is)
  (case Vf=>k_is)
  (case Vg=>k_is)
  (case Vh=>k_is)
  (case Vi=>k_is)
  (case Vj=>k_is)
  (case Vk=>k_is)
  (case Vl=>k_is)
  (case Vm=>k_is)
  (case Vn=>k_is)
  (case Vo=>k_is)
  (case Vp=>k_is)
  (case Vq=>k_is)
  (case Vr=>k_is)
  (case Vs=>k_is)
  (case J4=>k_is)
  (case J5=>k_is)
  (case J6=>k_is)
  (case J7=>k_is)
  (case Di=>k_is)
  (case Dj=>k_is)
  (case J8=>k_is)
  (case J9=>k_is)
  (case J_=>k_is)
  (case Ka=>k_is)
  (case Kc=>k_is)
  (case Ke=>k_is)
  (case Fd=>k_is)
  (case Fe=>k_is)
  (case Kf=>k_is)
  (case Kg=>k_is)
  (case Kh=>k_is)
  (case Kl=>k_is)
  (case Dk=>k_is)
  (case Dl=>k_is)
  (case Km=>k_is)
  (case Ko=>k_is)
  (case Kp=>k_is)
  (case Kq=>k_is)
  (case mO=>k_is)
  (case mQ=>k_is)
  (case mR=>k_is)
  (case mU=>k_is)
  (case mV=>k_is)
  (case mW=>k_is)
  (case rY=>k_is)
  (case Ow=>k_is)
  (case Vt=>k_is)
  (case rZ=>k_is)
  (case Vu=>k_is)
  (case Ox=>k_is)
  (case Jp=>k_is)
  (case wX=>k_is)
  (case Vv=>k_is)
  (case Jq=>k_is)
