import PyProof.Rows.All
import Wide.All
import OpenK.AllK
import Wide.FinOn
import Lean
import PyProof.EqAt
import PyProof.EqKinds
import PyProof.TupleCall
import PySem.Challenge.RW_boardsight_k39_a_tree_of_one
set_option Elab.async false
set_option linter.all false
set_option maxRecDepth 100000
def xaa:=@List.length_map
def xab:=@List.getD_eq_getElem?_getD
def xac:=@List.getElem?_eq_getElem
def xad:=@Nat.le_refl
def xae:=@List.length_append
def xaf:=@List.size_toArray
def xag:=@List.getElem?_map
def xah:=@Nat.lt_of_lt_of_le
def xai:=@Bool.false_ne_true
def xaj:=@List.getElem?_eq_some_iff
def xak:=@Nat.mod_eq_of_lt
def xal:=@List.map_append
def xam:=@Nat.ne_of_lt
def xan:=@List.mem_cons_of_mem
def xao:=@List.length_cons
def xap:=@Classical.byContradiction
def xaq:=@List.mem_cons
def xar:=@Nat.zero_le
def xas:=@Int.mul_pos
def xat:=@Int.mul_eq_zero
def xau:=@List.filter_append
def xav:=@Nat.le_trans
def xaw:=@List.mem_of_getElem?
def xax:=@List.lookup_cons
def xay:=@List.length_take
def xaz:=@List.length_drop
def xaA:=@List.mem_append_right
def xaB:=@List.mem_singleton
def xaC:=@Nat.mod_lt
def xaD:=@Int.mul_nonneg
def xaE:=@List.getElem?_append_right
def xaF:=@List.filter_cons
def xaG:=@List.mem_map
def xaH:=@Option.map_eq_some_iff
def xaI:=@List.map_cons
def xaJ:=@List.mem_append
def xaK:=@List.range_succ
def xaL:=@List.getElem?_eq_none
def xaM:=@Bool.and_eq_true
def xaN:=@Int.mul_ediv_cancel'
def xaO:=@Nat.le_of_lt
def xaP:=@List.mem_cons_self
def xaQ:=@Int.mul_neg_of_pos_of_neg
def xaR:=@Int.ediv_mul_cancel
def xaS:=@Int.zero_mul
def xaT:=@List.take_length
def xaU:=@Int.mul_comm
def xaV:=@List.take_of_length_le
def xaW:=@Nat.lt_irrefl
def xaX:=@List.getElem?_append_left
def xaY:=@Int.mul_neg_of_neg_of_pos
def xaZ:=@List.length_replicate
def xa0:=@List.take_append_drop
def xa1:=@Nat.lt_of_le_of_lt
def xa2:=@Int.emod_lt_of_pos
def xa3:=@List.length_eq_zero_iff
def xa4:=@List.filter_cons_of_pos
def xa5:=@List.reverse_cons
def xa6:=@List.take_add_one
def xa7:=@Int.gcd_dvd_right
def xa8:=@Nat.add_mod_right
def xa9:=@List.length_reverse
def xba:=@Int.le_refl
def xbb:=@List.all_eq_true
def xbc:=@List.getElem_mem
def xbd:=@Int.gcd_dvd_left
def xbe:=@Int.dvd_trans
def xbf:=@Int.mul_zero
def xbg:=@Nat.mod_self
def xbh:=@List.mem_range
def xbi:=@Bool.and_eq_true_iff
def xbj:=@List.length_range
def xbk:=@Int.dvd_coe_gcd
def xbl:=@Int.emod_nonneg
def xbm:=@Int.pos_of_mul_pos_right
def xbn:=@Nat.not_lt_zero
def xbo:=@List.length_eq_one_iff
def xbp:=@Int.mul_one
def xbq:=@List.map_map
def xbr:=@List.mem_iff_getElem?
def xbs:=@Nat.lt_succ_of_lt
def xbt:=@List.mem_iff_getElem
def xbu:=@Int.natAbs_ediv_le_natAbs
def xbv:=@List.not_mem_nil
def xbw:=@List.filterMap_cons
def xbx:=@Option.isSome_iff_exists
def xby:=@Nat.zero_add
def xbz:=@Int.ediv_neg
def xbA:=@Bool.eq_iff_iff
def xbB:=@List.append_nil
def xbC:=@List.filter_cons_of_neg
def xbD:=@Int.fdiv_eq_ediv_of_dvd
def xbE:=@List.getElem?_set_self
def xbF:=@List.drop_of_length_le
def xbG:=@List.ext_getElem?
def xbH:=@List.flatMap_cons
def xbI:=@List.cons_eq_cons
def xbJ:=@List.drop_left
def xbK:=@List.take_left
def xbL:=@List.length_filter_le
def xbM:=@List.getElem?_reverse
def xbN:=@Int.natAbs_dvd_natAbs
def xbO:=@Int.le_of_lt
def xbP:=@List.mem_flatMap
def xbQ:=@List.mem_append_left
def xbR:=@List.getElem?_set_ne
def xbS:=@Nat.pow_le_pow_right
def xbT:=@List.mem_filter
def xbU:=@List.nodup_cons
def xbV:=@Nat.le_succ
def xbW:=@List.find?_cons
def xbX:=@Int.mul_add
def xbY:=@Int.neg_mul_neg
def xbZ:=@List.mem_filterMap
def xb0:=@Int.dvd_refl
def xb1:=@Nat.lt_or_gt_of_ne
def xb2:=@Int.natAbs_mul
def xb3:=@Int.natAbs_neg
def xb4:=@List.any_cons
def xb5:=@Int.mul_assoc
def xb6:=@List.map_drop
def xb7:=@List.map_take
def xb8:=@Int.neg_mul
namespace L2
open PySem PySem.Spec PyProof.Rows
abbrev Key:=Sum Int Str
def jgO:Key->Value->Bool
 | .inl k,v=>Value.isInt k v
 | .inr x,v=>Value.isStrOf x v
def keyH (w:World):Key->Int
 | .inl k=>hashInt k
 | .inr x=>hashStr w x
theorem jaS:∀{k:Key} {v:Value},jgO k v=true->(∃i t,k=Sum.inl i/\v=Value.int i t)\/(∃x t,k=Sum.inr x/\v=Value.str x t)
  | .inl i, v, h => by
    obtain⟨t,e⟩:=Value.isInt_shape (k:=i) (v:=v) h;exact .inl ⟨i,t,rfl,e⟩
  | .inr x, v, h => by
    obtain⟨t,e⟩:=Value.isStrOf_shape (x:=x) (v:=v) h;exact .inr ⟨x,t,rfl,e⟩
theorem jhn (i:Int) (t:Tok):jgO (.inl i) (.int i t)=true:=by simp [jgO,Value.isInt]
theorem jho (x:Str) (t:Tok):jgO (.inr x) (.str x t)=true:=by simp [jgO,Value.isStrOf]
theorem jmg (a b:Int):decide ((Sum.inl a:Key)=Sum.inl b)=(a==b):=by
 by_cases e:a=b
 ·subst e;simp
 ·have h:¬(Sum.inl a:Key)=Sum.inl b:=fun q=>e (Sum.inl.inj q);rw[decide_eq_false h];exact (beq_eq_false_iff_ne.mpr e).symm
theorem jmh (a b:Str):decide ((Sum.inr a:Key)=Sum.inr b)=decide (a=b):=by
 by_cases e:a=b
 ·subst e;simp
 ·have h:¬(Sum.inr a:Key)=Sum.inr b:=fun q=>e (Sum.inr.inj q);rw[decide_eq_false h,decide_eq_false e]
theorem jmi (a:Int) (b:Str):decide ((Sum.inl a:Key)=Sum.inr b)=false:=decide_eq_false (fun q=>nomatch q)
theorem jmj (a:Str) (b:Int):decide ((Sum.inr a:Key)=Sum.inl b)=false:=decide_eq_false (fun q=>nomatch q)
def jbb (prog:Program) (w:World):PySem.KeyKind prog w Key where
 is:=jgO
 hash:=keyH w
 inj:=fun v a b ha hb=>by
  rcases jaS ha with ⟨i,t,rfl,rfl⟩ | ⟨x,t,rfl,rfl⟩
  ·rcases jaS hb with ⟨j,u,rfl,e⟩ | ⟨y,u,rfl,e⟩
   ·injection e with e1 _;rw[e1]
   ·exact nomatch e
  ·rcases jaS hb with ⟨j,u,rfl,e⟩ | ⟨y,u,rfl,e⟩
   ·exact nomatch e
   ·injection e with e1 _;rw[e1]
 byValue:=fun k v h=>by
  rcases jaS h with ⟨i,t,rfl,rfl⟩ | ⟨x,t,rfl,rfl⟩<;>rfl
 pyHash:=fun hv h=>by
  rcases jaS hv with ⟨i,t,rfl,rfl⟩ | ⟨x,t,rfl,rfl⟩
  ·exact wpAny_pyHash_int h
  ·exact wpAny_pyHash_str h
 eqBool:=fun hu hv h=>by
  rcases jaS hu with ⟨i,t,rfl,rfl⟩ | ⟨x,t,rfl,rfl⟩
  ·rcases jaS hv with ⟨j,u,rfl,rfl⟩ | ⟨y,u,rfl,rfl⟩
   ·rw[jmg] at h;exact wpAny_eqBool_int h
   ·rw[jmi] at h;exact SeqAt.EqAt.int_str i t y u _ _ _ _ h
  ·rcases jaS hv with ⟨j,u,rfl,rfl⟩ | ⟨y,u,rfl,rfl⟩
   ·rw[jmj] at h;exact SeqAt.EqAt.str_int x t j u _ _ _ _ h
   ·rw[jmh] at h;exact wpAny_eqBool_str h
 «strs»:=fun k x t v h=>by
  rcases jaS h with ⟨i,u,rfl,e⟩ | ⟨y,u,rfl,e⟩
  ·exact nomatch e
  ·injection e with e1 _
   subst e1
   cases v<;>rfl
theorem jfI (prog:Program) (w:World) (i:Int) (t:Tok):(jbb prog w).is (.inl i) (.int i t)=true:=jhn i t
theorem jfJ (prog:Program) (w:World) (x:Str) (t:Tok):(jbb prog w).is (.inr x) (.str x t)=true:=jho x t
inductive V where
 | non | bl (b:Bool) | int (i:Int) | str (x:Str) | byt (b:Array UInt8) | flt (b:UInt64) | ref (a:Addr) | ty (n:String)
 deriving DecidableEq
def RelV:V->Value->Prop
 | .non,u=>u=Value.none
 | .bl b,u=>u=Value.bool b
 | .int i,u=>∃t,u=Value.int i t
 | .str x,u=>∃t,u=Value.str x t
 | .byt b,u=>∃t,u=Value.bytes b t
 | .flt b,u=>∃t,u=Value.float b t
 | .ref a,u=>u=Value.ref a
 | .ty n,u=>u=Value.type n
abbrev Vals:List V->List Value->Prop:=Paired RelV
theorem Vals.length {xs:List V} {us:List Value} (r:Vals xs us):xs.length=us.length:=Paired.length r
theorem Vals.get:∀{xs:List V} {us:List Value} {i:Nat} {x:V},Vals xs us->xs[i]?=some x->∃u,us[i]?=some u/\RelV x u
  | _,_,_,_,.nil,e=>by simp at e
  | _,_,0,_,.cons r _,e=>by simp at e;subst e;exact⟨_,rfl,r⟩
  | _, _, i + 1, x, .cons _ t, e => by
    obtain⟨u,h1,h2⟩:=Vals.get (i:=i) (x:=x) t (by simpa using e);exact⟨u,by simpa using h1,h2⟩
theorem Vals.set {x:V} {u:Value} (r:RelV x u):∀{xs:List V} {us:List Value} (i:Nat),Vals xs us->Vals (xs.set i x) (us.set i u)
 | _,_,_,.nil=>.nil
 | _,_,0,.cons _ t=>.cons r t
 | _,_,i+1,.cons q t=>.cons q (Vals.set r i t)
theorem Vals.append:∀{xs ys:List V} {us ws:List Value},Vals xs us->Vals ys ws->Vals (xs++ys) (us++ws)
 | _,_,_,_,.nil,s=>s
 | _,_,_,_,.cons r t,s=>.cons r (Vals.append t s)
theorem Vals.take:∀{xs:List V} {us:List Value} (n:Nat),Vals xs us->Vals (xs.take n) (us.take n)
 | _,_,0,_=>.nil
 | _,_,_+1,.nil=>.nil
 | _,_,n+1,.cons r t=>.cons r (Vals.take n t)
theorem Vals.drop:∀{xs:List V} {us:List Value} (n:Nat),Vals xs us->Vals (xs.drop n) (us.drop n)
 | _,_,0,r=>r
 | _,_,_+1,.nil=>.nil
 | _,_,n+1,.cons _ t=>Vals.drop n t
def RelO:Option V->Option Value->Prop
 | some v,some u=>RelV v u
 | none,none=>True
 | _,_=>False
def KV {κ:Type}:List (κ × V)->List (κ × Value)->Prop:=Paired fun (p:κ × V) (q:κ × Value)=>p.1=q.1/\RelV p.2 q.2
def kV:Key->V
 | .inl i=>.int i
 | .inr x=>.str x
inductive HO where
 | lst (xs:List V)
 | tup (xs:List V)
 | dK (kvs:List (Key × V)) | dT (kvs:List (List Key × V))
 | set (S:Int->Bool) (n:Nat)
 | ins (C dx:Addr) (fs:List (Str × V))
 | own (x:Addr)
 | xd (fs:List (Str × V))
 | met (f x:Addr)
 | rng (lo hi:Int)
 | frz (o:Obj) (u:HO)
 | tbl (ps:Array Value)
 | ext (φ:Heap->Prop)
abbrev Hp:=Addr->Option HO
def upd (H:Hp) (a:Addr) (o:HO):Hp:=fun b=>if b=a then some o else H b
theorem jaf {H:Hp} {a:Addr} {o:HO}:upd H a o a=some o:=by unfold upd;rw[if_pos rfl]
theorem jaA {H:Hp} {a b:Addr} {o:HO} (h:b≠a):upd H a o b=H b:=by unfold upd;rw[if_neg h]
theorem ne_of {H:Hp} {a b:Addr} {o u:HO} (h:H a=some o) (h':H b=some u) (d:o≠u):a≠b:=by
 intro e;subst e;rw[h] at h';exact d (Option.some.inj h')
theorem jaz {H:Hp} {a b:Addr} {o:HO} (h:H a=some o) (h':H b=none):a≠b:=by
 intro e;subst e;rw[h] at h';cases h'
section
variable (P:Program) (w:World)
def ObjOk (H:Hp) (h:Heap) (a:Addr):HO->Prop
 | .lst xs=>xs.length<=sizeLine/\∃(its:List Value) (n:Nat),Vals xs its/\h.get? a=some { cls:=.type "list",data:=.seq its.toArray n }
 | .tup xs=>xs.length<=sizeLine/\∃its:List Value,Vals xs its/\IsTup h a its.toArray
 | .dK kvs=>kvs.length<=sizeLine/\(a==sysModules)=false/\∃vs,KV kvs vs/\h.DictOf (jbb P w) a vs
 | .dT kvs=>kvs.length <= sizeLine /\ (a==sysModules)=false /\ ∃xs:List (List Key × Addr × Value),
   Paired (fun (p:List Key × V) (q:List Key × Addr × Value)=>p.1=q.1/\H q.2.1=some (.tup (p.1.map kV))/\RelV p.2 q.2.2) kvs xs /\
   ∃o es ep,h.get? a=some o/\o.ExactDict/\o.data=.dict es ep/\es.toList=xs.map (entryOfKey (tupleKind (jbb P w)))/\(xs.map (·.1)).Nodup
 | .set S n=>h.SetOf (intKind P w) a S n
 | .ins C dx fs=>H dx=some (.own a) /\ fs.length <= 1000 /\ dx≠a /\ h.get? a=some (PySem.W.instObj C dx) /\
   ∃mA,h.Ns1 dx mA/\(∀f,RelO (fs.lookup f) (mA f))/\PySem.Within mA (fs.map (·.1))
 | .own _=>∃o,h.get? a=some o
 | .xd fs=>∃mA,h.Ns1 a mA/\∀f,RelO (fs.lookup f) (mA f)
 | .rng lo hi=>∃t u v,h.get? a=some { cls:=.type "range",data:=.fields #[.int lo t,.int hi u,.int 1 v] }
 | .frz o u=>h.get? a=some o/\ObjOk H h a u
 | .tbl ps=>h.get? a=some { cls:=.none,data:=.fields ps }
 | .met f x=>h.get? a=some (PySem.W.methodObj (.ref f) (.ref x))
 | .ext φ=>φ h/\(∃o,h.get? a=some o)/\∀h1 h2:Heap,φ h1->(∀o,h1.get? a=some o->h2.get? a=some o)->φ h2
def HOk (H:Hp) (h:Heap):Prop:=∀a o,H a=some o->ObjOk P w H h a o
end
section
variable {P:Program} {w:World} {H H':Hp} {h h':Heap} {a:Addr} {o:HO}
theorem ObjOk.lt (x:ObjOk P w H h a o):a<h.objs.size:=by
 cases o with
 | lst xs=>obtain⟨_,_,_,_,e⟩:=x;exact Heap.lt_size e
 | tup xs=>obtain⟨_,_,_,p⟩:=x;exact p.lt
 | dK kvs=>obtain⟨_,_,_,_,o,_,_,e,_⟩:=x;exact Heap.lt_size e
 | dT kvs=>obtain⟨_,_,_,_,o,_,_,e,_⟩:=x;exact Heap.lt_size e
 | set S n=>obtain⟨o,_,_,_,e,_⟩:=x;exact Heap.lt_size e
 | ins C dx fs=>obtain⟨_,_,_,e,_⟩:=x;exact Heap.lt_size e
 | own y=>obtain⟨_,e⟩:=x;exact Heap.lt_size e
 | xd fs=>obtain⟨_,⟨_,_,_,e,_⟩,_⟩:=x;exact Heap.lt_size e
 | rng lo hi=>obtain⟨_,_,_,e⟩:=x;exact Heap.lt_size e
 | frz ob u=>obtain⟨e,_⟩:=x;exact Heap.lt_size e
 | tbl ps=>exact Heap.lt_size (show h.get? a=some _ from x)
 | met f y=>exact Heap.lt_size (show h.get? a=some _ from x)
 | ext φ=>obtain⟨_,⟨_,e⟩,_⟩:=x;exact Heap.lt_size e
theorem Paired.mapP {α β:Type} {F G:α->β->Prop}:∀{l₁:List α} {l₂:List β},Paired F l₁ l₂->(∀a b,F a b->G a b)->Paired G l₁ l₂
 | _,_,.nil,_=>.nil
 | _,_,.cons r t,f=>.cons (f _ _ r) (Paired.mapP t f)
theorem ObjOk.stay (x:ObjOk P w H h a o) (k:∀b u,(b=a\/H b=some (.own a))->h.get? b=some u->h'.get? b=some u)
    (ho:∀b,H b=some (.own a)->H' b=some (.own a)) (ht:∀b xs,H b=some (.tup xs)->H' b=some (.tup xs)):ObjOk P w H' h' a o:=by
  induction o with
  | lst xs=>obtain⟨z,its,n,r,e⟩:=x;exact⟨z,its,n,r,k _ _ (.inl rfl) e⟩
  | tup xs=>obtain⟨z,its,r,ob,e,c⟩:=x;exact⟨z,its,r,ob,k _ _ (.inl rfl) e,c⟩
  | dK kvs=>obtain⟨z,y,vs,r,ob,es,ep,e,c⟩:=x;exact⟨z,y,vs,r,ob,es,ep,k _ _ (.inl rfl) e,c⟩
  | dT kvs =>
    obtain⟨z,y,xs,r,ob,es,ep,e,c⟩:=x;exact⟨z,y,xs,Paired.mapP r fun p q z=>⟨z.1,ht _ _ z.2.1,z.2.2⟩,ob,es,ep,k _ _ (.inl rfl) e,c⟩
  | set S n=>obtain⟨ob,es,ep,t,e,c⟩:=x;exact⟨ob,es,ep,t,k _ _ (.inl rfl) e,c⟩
  | ins C dx fs =>
    obtain⟨d,z,ne,e,mA,⟨od,es,ep,e2,c⟩,r⟩:=x;exact⟨ho _ d,z,ne,k _ _ (.inl rfl) e,mA,⟨od,es,ep,k _ _ (.inr d) e2,c⟩,r⟩
  | own y=>obtain⟨ob,e⟩:=x;exact⟨ob,k _ _ (.inl rfl) e⟩
  | xd fs=>obtain⟨mA,⟨od,es,ep,e,c⟩,r⟩:=x;exact⟨mA,⟨od,es,ep,k _ _ (.inl rfl) e,c⟩,r⟩
  | rng lo hi=>obtain⟨t,u,v,e⟩:=x;exact⟨t,u,v,k _ _ (.inl rfl) e⟩
  | frz ob u ih=>obtain⟨e,q⟩:=x;exact⟨k _ _ (.inl rfl) e,ih q⟩
  | tbl ps =>
    have e:h.get? a=some { cls:=.none,data:=.fields ps }:=x;show h'.get? a=some { cls:=.none,data:=.fields ps };exact k a _ (.inl rfl) e
  | met f y =>
    have e:h.get? a=some (PySem.W.methodObj (.ref f) (.ref y)):=x;show h'.get? a=some (PySem.W.methodObj (.ref f) (.ref y));exact k a _ (.inl rfl) e
  | ext φ=>obtain⟨p,⟨o,e⟩,st⟩:=x;exact⟨st _ _ p fun o q=>k _ _ (.inl rfl) q,⟨o,k _ _ (.inl rfl) e⟩,st⟩
theorem HOk.lt (x:HOk P w H h) (e:H a=some o):a<h.objs.size:=(x a o e).lt
theorem HOk.fresh (x:HOk P w H h) (e:h.objs.size<=a):H a=none:=by
 cases q:H a with
 | none=>rfl
 | some u=>exact absurd (xah (x.lt q) e) (xaW _)
theorem HOk.kept (x:HOk P w H h) (k:∀b u,h.get? b=some u->h'.get? b=some u):HOk P w H h':=fun a o e =>
 (x a o e).stay (fun b u _ q=>k b u q) (fun _ q=>q) fun _ _ q=>q
theorem HOk.laid (x:HOk P w H h) (k:∀b u,h.get? b=some u->h'.get? b=some u) (hp:h.objs.size<=a) (new:ObjOk P w (upd H a o) h' a o):HOk P w (upd H a o) h':=fun b u e=>by
 have hn:=x.fresh hp;by_cases hb:b=a
 ·subst hb;rw[jaf] at e;cases e;exact new
 ·rw[jaA hb] at e;exact (x b u e).stay (fun c v _ q=>k c v q) (fun c q=>by rw[jaA (jaz q hn)];exact q) fun c xs q=>by rw[jaA (jaz q hn)];exact q
end
def Rd (H:Hp) (a:Addr) (u:HO):Prop:=H a=some u\/∃o,H a=some (.frz o u)
theorem Rd.of {H:Hp} {a:Addr} {u:HO} (h:H a=some u):Rd H a u:=.inl h
theorem Rd.ok {P:Program} {w:World} {H:Hp} {h:Heap} {a:Addr} {u:HO} (r:Rd H a u) (x:HOk P w H h):ObjOk P w H h a u:=by
 rcases r with r | ⟨o,r⟩
 ·exact x a u r
 ·obtain⟨_,q⟩:=x a _ r;exact q
def Mut:Option HO->Prop
 | some (.lst _)=>True
 | some (.dK _)=>True
 | some (.dT _)=>True
 | some (.set _ _)=>True
 | some (.ins _ _ _)=>True
 | some (.ext _)=>True
 | _=>False
section
variable {P:Program} {w:World} {H:Hp} {h h':Heap} {x e:Addr} {o':HO}
theorem HOk.write (ok:HOk P w H h) (mu:Mut (H x)) (he:e=x\/H e=some (.own x)) (k:∀b u,b≠e->h.get? b=some u->h'.get? b=some u) (heo:∃u,h'.get? e=some u)
  (new:ObjOk P w (upd H x o') h' x o'):HOk P w (upd H x o') h':=fun b u q=>by
 have nown:∀c y,H c=some (.own y)->c≠x:=fun c y r z=>by subst z;rw[r] at mu;exact mu
 have ntup:∀c xs,H c=some (.tup xs)->c≠x:=fun c xs r z=>by subst z;rw[r] at mu;exact mu
 by_cases hb:b=x
 ·subst hb;rw[jaf] at q;cases q;exact new
 ·rw[jaA hb] at q;by_cases hbe:b=e
  ·have q':H b=some (.own x):=by
    rcases he with z | z
    ·exact absurd (hbe.trans z) hb
    ·rw[hbe];exact z
   rw[q] at q';cases q';obtain⟨v,hv⟩:=heo;exact⟨v,by rw[hbe];exact hv⟩
  ·refine (ok b u q).stay (fun c v hc r=>k c v ?_ r) (fun c r=>by rw[jaA (nown c b r)];exact r) fun c xs r=>by rw[jaA (ntup c xs r)];exact r
   rcases hc with rfl | hc
   ·exact hbe
   ·rintro rfl;rcases he with z | z
    ·exact nown c b hc z
    ·rw[hc] at z;cases z;exact hb rfl
end
structure Un (fs ex:List Addr) (H H':Hp) (h h':Heap):Prop where
 keep:∀b o,h.get? b=some o->H b=none->b∉fs->b∉ex->h'.get? b=some o
 slot:∀b o,h.get? b=some o->H b=none->b∈fs->b∉ex->∃sl,h'.get? b=some { o with slots:=sl }
 free:∀b o,h.get? b=some o->H b=none->b∉ex->H' b=none
 there:∀b o,h.get? b=some o->b∉ex->∃o',h'.get? b=some o'
 tups:∀b xs,H b=some (.tup xs)->H' b=some (.tup xs)
 frzs:∀b o u,H b=some (.frz o u)->H' b=some (.frz o u)
 tbls:∀b ps,H b=some (.tbl ps)->∃more,H' b=some (.tbl (ps++more))
section
variable {fs fs' ex ex':List Addr} {H H1 H2:Hp} {h h1 h2 h':Heap} {a x e:Addr} {o:HO}
theorem Un.any (u:Un fs ex H H1 h h1) {b:Addr} {ob:Obj} (q:h.get? b=some ob) (n:H b=none) (hx:b∉ex):∃sl,h1.get? b=some { ob with slots:=sl }:=by
 by_cases hb:b∈fs
 ·exact u.slot b ob q n hb hx
 ·exact⟨ob.slots,u.keep b ob q n hb hx⟩
theorem Un.trans (a:Un fs ex H H1 h h1) (b:Un fs ex H1 H2 h1 h2):Un fs ex H H2 h h2 where
 keep:=fun c ob q n hc hx=>b.keep c ob (a.keep c ob q n hc hx) (a.free c ob q n hx) hc hx
 slot:=fun c ob q n hc hx=>by
  obtain⟨sl,e1⟩:=a.slot c ob q n hc hx;obtain⟨sl',e2⟩:=b.slot c _ e1 (a.free c ob q n hx) hc hx;exact⟨sl',e2⟩
 free:=fun c ob q n hx=>by
  obtain⟨o',e1⟩:=a.there c ob q hx;exact b.free c o' e1 (a.free c ob q n hx) hx
 there:=fun c ob q hx=>by
  obtain⟨o',e1⟩:=a.there c ob q hx;exact b.there c o' e1 hx
 tups:=fun c xs q=>b.tups c xs (a.tups c xs q)
 frzs:=fun c ob xs q=>b.frzs c ob xs (a.frzs c ob xs q)
 tbls:=fun c ps q=>by
  obtain⟨m1,e1⟩:=a.tbls c ps q;obtain⟨m2,e2⟩:=b.tbls c _ e1;exact⟨m1++m2,by rw[e2,Array.append_assoc]⟩
theorem Un.kept (k:∀b u,h.get? b=some u->h'.get? b=some u):Un fs ex H H h h' :=
 ⟨fun b ob q _ _ _=>k b ob q,fun b ob q _ _ _=>⟨ob.slots,k b ob q⟩,fun _ _ _ n _=>n,fun b ob q _=>⟨ob,k b ob q⟩,fun _ _ q=>q,fun _ _ _ q=>q,fun _ ps q=>⟨#[],by rw[q];simp⟩⟩
theorem Un.refl:Un fs ex H H h h:=Un.kept fun _ _ q=>q
theorem Un.laid (k:∀b u,h.get? b=some u->h'.get? b=some u) (hp:h.objs.size<=a) (hn:H a=none):Un fs ex H (upd H a o) h h' where
 keep:=fun b u q _ _ _=>k b u q
 slot:=fun b u q _ _ _=>⟨u.slots,k b u q⟩
 free:=fun b u q n _=>by rw[jaA (xam (xah (Heap.lt_size q) hp))];exact n
 there:=fun b u q _=>⟨u,k b u q⟩
 tups:=fun b xs q=>by rw[jaA (jaz q hn)];exact q
 frzs:=fun b u xs q=>by rw[jaA (jaz q hn)];exact q
 tbls:=fun b ps q=>⟨#[],by rw[jaA (jaz q hn),q];simp⟩
theorem Un.write (mu:Mut (H x)) (he:e=x\/H e=some (.own x)) (k:∀b u,b≠e->h.get? b=some u->h'.get? b=some u) (heo:∃u,h'.get? e=some u):Un fs ex H (upd H x o) h h':=by
 have hx:∀b,H b=none->b≠x:=fun b n z=>by subst z;rw[n] at mu;exact mu
 have hb:∀b,H b=none->b≠e:=fun b n z=>by
  subst z;rcases he with r | r
  ·exact hx b n r
  ·rw[n] at r;cases r
 have hm:∀b u,H b=some u->¬Mut (some u)->b≠x:=fun b u q nm z=>by subst z;rw[q] at mu;exact nm mu
 refine⟨fun b u q n _ _=>k b u (hb b n) q,fun b u q n _ _=>⟨u.slots,k b u (hb b n) q⟩,fun b u q n _=>by rw[jaA (hx b n)];exact n,fun b u q _=>?_,
  fun b xs q=>by rw[jaA (hm b _ q fun z=>z)];exact q,fun b u xs q=>by rw[jaA (hm b _ q fun z=>z)];exact q,fun b ps q=>⟨#[],by rw[jaA (hm b _ q fun z=>z),q];simp⟩⟩
 by_cases hbe:b=e
 ·subst hbe;exact heo
 ·exact⟨u,k b u hbe q⟩
theorem Un.mono (u:Un fs ex H H1 h h1) (hs:∀b∈fs,b∈fs') (hx:∀b∈ex,b∈ex'):Un fs' ex' H H1 h h1 :=
 ⟨fun b ob q n hb he=>u.keep b ob q n (fun z=>hb (hs b z)) fun z=>he (hx b z),fun _ _ q n _ he=>u.any q n fun z=>he (hx _ z),fun b ob q n he=>u.free b ob q n fun z=>he (hx b z),fun b ob q he=>u.there b ob q fun z=>he (hx b z),u.tups,u.frzs,u.tbls⟩
end
def trk (h:Heap) (H:Hp):List Addr:=(List.range h.objs.size).filter fun a=>(H a).isSome
def ji5 (h:Heap) (H:Hp):Heap:=PySem.W.hideAll h (trk h H)
theorem jhp (h:Heap) (H:Hp):(ji5 h H).objs.size=h.objs.size:=PySem.W.hideAll_size _ _
theorem ji6 {h:Heap} {H:Hp} {b:Addr} {o:Obj} (e:h.get? b=some o) (n:H b=none):(ji5 h H).get? b=some o :=
 PySem.W.hideAll_get _ e fun hm=>by
  have q:(H b).isSome=true:=(xbT.mp hm).2;rw[n] at q;simp at q
theorem jkN {h:Heap} {H:Hp} {b:Addr} {o:Obj} (e:(ji5 h H).get? b=some o):h.get? b=some o/\H b=none:=by
  have e':h.get? b=some o:=PySem.W.of_hideAll (trk h H) e;refine⟨e',?_⟩;cases q:H b with
  | none=>rfl
  | some x =>
    have hm:b∈trk h H:=xbT.mpr ⟨xbh.mpr (Heap.lt_size e'),by simp [q]⟩;have z:(ji5 h H).get? b=none:=PySem.W.hideAll_none (trk h H) hm;rw[z] at e;cases e
def jkO (g h:Heap) (L:Addr):List (Addr × Obj):=(List.range h.objs.size).filterMap fun a=>if a=L\/(g.get? a).isSome=true then none else (h.get? a).map fun o=>(a,o)
def rest (g h:Heap) (L d:Addr):List (Addr × Obj):=(jkO g h L).filter fun p=>decide (p.1≠d)
structure Mod (K:PySem.W.Frag) (mg:Str->Option Value) (base:Heap):Prop where
 kin:K.In base
 glob:base.Ns mainGlobals mg
 blt:∃mb,base.Ns builtinsNs mb/\∀x:Str,x≠"__name__"->mb x=bootBuiltins x
 nolimit:base.NoLimit
structure Cx where
 prog:Program
 w:World
 K:PySem.W.Frag
 mg:Str->Option Value
 base:Heap
 A:Around
 N:List Str
 s₀:Shared
 H₀:Hp
 env:Env
 outer:List Env
 stack:List Env
 ex:List Addr
 fn:Str->Bool
 calm:Bool
 pn:List (Addr × Obj)
 xe:Value->Shared->Prop
def frs (l:List Env):List Addr:=l.filterMap (·.frame)
abbrev Cx.fs (X:Cx):List Addr:=frs X.outer
def Vis (sc:Scope) (x:Str):Prop:=sc.names.lookup x=some .local\/sc.names.lookup x=some .cell\/sc.names.lookup x=some .free
def Loc (sc:Scope) (x:Str):Prop:=sc.names.lookup x=some .local\/sc.names.lookup x=some .cell
def Look (env:Env) (h:Heap) (m:Str->Option Value) (x:Str) (u:Value):Prop :=
 (env.kindOf x=some .local/\m x=some u)\/((env.kindOf x=some .cell\/env.kindOf x=some .free)/\∃c,env.cells.lookup x=some c/\h.IsCell c (some u))
structure Cx.Ok (X:Cx):Prop where
 mod:Mod X.K X.mg X.base
 kind:X.env.scope.kind=.function
 glob:X.env.globals=mainGlobals
 blt:X.env.builtins=builtinsNs
 above:X.s₀.heap.objs.size<=X.env.locals
 inj:∀x y c,X.env.cells.lookup x=some c->X.env.cells.lookup y=some c->x=y
 has:∀x,(X.env.kindOf x=some .cell\/X.env.kindOf x=some .free)->∃c,X.env.cells.lookup x=some c
 cab:∀x c,X.fn x=true->X.env.cells.lookup x=some c->X.s₀.heap.objs.size<=c
 hd:X.calm=true->X.A.handled=none
 frames:X.A.frames=some X.stack
 stk:X.stack=X.outer\/(X.stack=X.env::X.outer/\X.env.frame=some X.env.locals)
 exf:∀b∈X.ex,b≠X.env.locals/\∀x c,X.env.cells.lookup x=some c->c≠b
 bs:∀b o,X.base.get? b=some o->X.s₀.heap.get? b=some o/\X.H₀ b=none
 bsz:X.base.objs.size<=X.s₀.heap.objs.size
 noex:∀b o,X.base.get? b=some o->b∉X.ex
 exfs:∀b∈X.ex,b∉X.fs
 funs:X.s₀.heap.FunFrames X.base X.outer
 frf:∀b∈X.fs,X.H₀ b=none
structure Inv (X:Cx) (pins:List (Addr × Obj)) (σ:List (Option V)) (H:Hp) (s:Shared):Prop where
 ok:X.Ok
 os:s.os=X.s₀.os
 bare:AllBare s.gens
 base:Un X.fs X.ex X.H₀ H X.s₀.heap s.heap
 loc:∃m,s.heap.Ns X.env.locals m/\∀(i:Nat) (x:Str) (v:V),X.N[i]?=some x->σ[i]?=some (some v)->Vis X.env.scope x->∃u,RelV v u/\Look X.env s.heap m x u
 cell:∀x c,X.env.cells.lookup x=some c->∃v,s.heap.IsCell c v
 free:H X.env.locals=none
 freeC:∀x c,X.env.cells.lookup x=some c->H c=none
 pin:∀p∈X.pn++pins,s.heap.get? p.1=some p.2/\H p.1=none/\p.1≠X.env.locals/\p.1∉X.fs/\∀v,p.2.data≠.cell v
 hok:HOk X.prog X.w H s.heap
 len:σ.length=X.N.length
section
variable {X:Cx} {pins:List (Addr × Obj)} {σ:List (Option V)} {H H':Hp} {s:Shared} {h':Heap}
theorem Cx.Ok.nofr (ok:X.Ok) {b:Addr} {o:Obj} (e:X.base.get? b=some o):b∉X.fs:=fun hb=>by
 have:=(ok.funs.mem hb).1;rw[e] at this;cases this
theorem Inv.bs (I:Inv X pins σ H s):∀b o,X.base.get? b=some o->s.heap.get? b=some o/\H b=none:=fun b o e =>
 ⟨I.base.keep b o (I.ok.bs b o e).1 (I.ok.bs b o e).2 (I.ok.nofr e) (I.ok.noex b o e),I.base.free b o (I.ok.bs b o e).1 (I.ok.bs b o e).2 (I.ok.noex b o e)⟩
theorem Inv.bk (I:Inv X pins σ H s):∀b o,X.base.get? b=some o->s.heap.get? b=some o:=fun b o e=>(I.bs b o e).1
theorem Inv.mod (I:Inv X pins σ H s):Mod X.K X.mg X.base:=I.ok.mod
theorem Inv.kIn (I:Inv X pins σ H s):X.K.In s.heap:=I.ok.mod.kin.keeps I.bk
theorem Inv.nolimit (I:Inv X pins σ H s):s.heap.NoLimit:=I.ok.mod.nolimit.keeps I.bk
theorem Inv.fr (I:Inv X pins σ H s):∃m,Fr X.base X.env.locals s.heap m :=
 let ⟨m,hn,_⟩:=I.loc
 ⟨m,hn,I.bk,xav I.ok.bsz I.ok.above⟩
theorem Inv.lt (I:Inv X pins σ H s):X.env.locals<s.heap.objs.size:=let ⟨_,hn,_⟩:=I.loc;hn.lt
theorem Inv.sz (I:Inv X pins σ H s):X.s₀.heap.objs.size<=s.heap.objs.size:=xav I.ok.above (xaO I.lt)
theorem Inv.nofs (I:Inv X pins σ H s) {a:Addr} (h:s.heap.objs.size<=a):a∉X.fs:=fun hb=>by
 obtain⟨_,o,ho,_⟩:=I.ok.funs.mem hb;exact absurd (xah (Heap.lt_size ho) (xav I.sz h)) (xaW _)
theorem Inv.cne (I:Inv X pins σ H s):∀x c,X.env.cells.lookup x=some c->c≠X.env.locals:=fun x c e z=>by
 obtain⟨v,o,ho,hd⟩:=I.cell x c e;obtain⟨m,⟨o',es,ep,ho',hd',_⟩,_⟩:=I.loc;rw[z,ho'] at ho;cases ho;rw[hd'] at hd;cases hd
theorem Inv.funs (I:Inv X pins σ H s):s.heap.FunFrames X.base X.outer:=by
  have all:∀(l:List Env),(∀b∈frs l,b∈X.fs)->X.s₀.heap.FunFrames X.base l->s.heap.FunFrames X.base l:=by
    intro l;induction l with
    | nil=>intro _ _;trivial
    | cons env r ih =>
      intro hs hl;obtain⟨hk,⟨L,o,hf,hn,ho,hd⟩,hr⟩:=hl;have hL:L∈X.fs:=hs L (by unfold frs;rw[xbw,hf];exact xaP);obtain⟨sl,e⟩:=I.base.slot L o ho (I.ok.frf L hL) hL fun z=>I.ok.exfs L z hL;exact⟨hk,⟨L,_,hf,hn,e,hd⟩,ih (fun b hb=>hs b (by unfold frs;rw[xbw,hf];exact xan _ hb)) hr⟩
  exact all X.outer (fun _ hb=>hb) I.ok.funs
theorem Inv.stack (I:Inv X pins σ H s):s.heap.FunFrames X.base X.stack:=by
 rcases I.ok.stk with e | ⟨e,hf⟩
 ·rw[e];exact I.funs
 ·rw[e];obtain⟨m,hn,_⟩:=I.loc;refine .cons (by rw[I.ok.kind];decide) hf hn ?_ I.funs;exact Heap.get?_none_of_le (xav I.ok.bsz I.ok.above)
theorem Inv.stkSub (I:Inv X pins σ H s):∀b∈frs X.stack,b∈X.env.locals::X.fs:=fun b hb=>by
 rcases I.ok.stk with e | ⟨e,hf⟩
 ·rw[e] at hb;exact xan _ hb
 ·rw[e] at hb;unfold frs at hb;rw[xbw,hf] at hb;exact hb
theorem Inv.stkFree (I:Inv X pins σ H s):∀b∈frs X.stack,H b=none:=fun b hb=>by
 rcases xaq.mp (I.stkSub b hb) with e | hb
 ·rw[e];exact I.free
 ·obtain⟨_,o,ho,_⟩:=I.ok.funs.mem hb;exact I.base.free b o ho (I.ok.frf b hb) fun z=>I.ok.exfs b z hb
theorem Inv.step {g':Array GenState} {t':Nat} {d':Drawn} {ch:List Addr} (I:Inv X pins σ H s)
  (hch:∀b∈ch,(b∈X.ex\/X.s₀.heap.objs.size<=b)/\b≠X.env.locals/\(∀x c,X.env.cells.lookup x=some c->c≠b)/\∀p∈X.pn++pins,p.1≠b)
  (keep:∀b o,b≠X.env.locals->b∉X.fs->b∉ch->s.heap.get? b=some o->H b=none->h'.get? b=some o)
  (slot:∀b o,b≠X.env.locals->b∈X.fs->b∉ch->s.heap.get? b=some o->H b=none->∃sl,h'.get? b=some { o with slots:=sl }) (free:∀b o,b∉ch->s.heap.get? b=some o->H b=none->H' b=none)
  (there:∀b o,b∉ch->s.heap.get? b=some o->∃o',h'.get? b=some o')
  (tups:∀b xs,H b=some (.tup xs)->H' b=some (.tup xs)) (frzs:∀b o u,H b=some (.frz o u)->H' b=some (.frz o u)) (tbls:∀b ps,H b=some (.tbl ps)->∃more,H' b=some (.tbl (ps++more)))
  (ns:∀m,s.heap.Ns X.env.locals m->h'.Ns X.env.locals m) (hok:HOk X.prog X.w H' h') (hg:AllBare g') :
  Inv X pins σ H' { s with heap:=h',gens:=g',drawn:=d',toks:=t' }:=by
 have neL:∀b o,X.s₀.heap.get? b=some o->b≠X.env.locals:=fun b o e=>xam (xah (Heap.lt_size e) I.ok.above);have neC:∀b o,X.s₀.heap.get? b=some o->b∉X.ex->b∉ch:=fun b o e hx hb=>by
  rcases (hch b hb).1 with z | z
  ·exact hx z
  ·exact absurd (xah (Heap.lt_size e) z) (xaW _)
 have cellK:∀x c,X.env.cells.lookup x=some c->∀v,s.heap.IsCell c v->h'.IsCell c v:=fun x c e v ⟨o,ho,hd⟩=>by
  have nch:c∉ch:=fun z=>(hch c z).2.2.1 x c e rfl;by_cases hc:c∈X.fs
  ·obtain⟨sl,q⟩:=slot c o (I.cne x c e) hc nch ho (I.freeC x c e);exact⟨_,q,hd⟩
  ·exact⟨o,keep c o (I.cne x c e) hc nch ho (I.freeC x c e),hd⟩
 refine⟨I.ok,I.os,hg,⟨fun b o e n hb hx=>?_,fun b o e n hb hx=>?_,fun b o e n hx=>?_,fun b o e hx=>?_,fun b xs e=>tups b xs (I.base.tups b xs e),fun b o xs e=>frzs b o xs (I.base.frzs b o xs e),fun b ps e=>?_⟩,?_,fun x c e=>?_,?_,fun x c e=>?_,fun p hp=>?_,hok,I.len⟩
 ·exact keep b o (neL b o e) hb (neC b o e hx) (I.base.keep b o e n hb hx) (I.base.free b o e n hx)
 ·obtain⟨sl,e1⟩:=I.base.slot b o e n hb hx;obtain⟨sl',e2⟩:=slot b _ (neL b o e) hb (neC b o e hx) e1 (I.base.free b o e n hx);exact⟨sl',e2⟩
 ·obtain⟨o',e1⟩:=I.base.there b o e hx;exact free b o' (neC b o e hx) e1 (I.base.free b o e n hx)
 ·obtain⟨o',e1⟩:=I.base.there b o e hx;exact there b o' (neC b o e hx) e1
 ·obtain⟨m1,e1⟩:=I.base.tbls b ps e;obtain⟨m2,e2⟩:=tbls b _ e1;exact⟨m1++m2,by rw[e2,Array.append_assoc]⟩
 ·obtain⟨m,hn,hl⟩:=I.loc;refine⟨m,ns m hn,fun i x v e1 e2 e3=>?_⟩;obtain⟨u,r,l⟩:=hl i x v e1 e2 e3;refine⟨u,r,?_⟩;rcases l with l | ⟨k,c,e,z⟩
  ·exact .inl l
  ·exact .inr ⟨k,c,e,cellK x c e _ z⟩
 ·obtain⟨v,z⟩:=I.cell x c e;exact⟨v,cellK x c e v z⟩
 ·obtain⟨m,⟨o,_,_,ho,_⟩,_⟩:=I.loc;exact free _ o (fun z=>(hch _ z).2.1 rfl) ho I.free
 ·obtain⟨v,o,ho,hd⟩:=I.cell x c e;exact free c o (fun z=>(hch c z).2.2.1 x c e rfl) ho (I.freeC x c e)
 ·obtain⟨e,n,ne,nf,d⟩:=I.pin p hp;have nch:p.1∉ch:=fun z=>(hch p.1 z).2.2.2 p hp rfl;exact⟨keep p.1 p.2 ne nf nch e n,free p.1 p.2 nch e n,ne,nf,d⟩
theorem Inv.un {t':Nat} (I:Inv X pins σ H s) (u:Un X.fs [] H H' s.heap h') (hok:HOk X.prog X.w H' h'):Inv X pins σ H' { s with heap:=h',toks:=t' }:=by
 obtain⟨m,⟨o,es,ep,ho,r⟩,_⟩:=id I.loc;obtain⟨sl,hL⟩:=u.any ho I.free (by simp);exact I.step (g':=s.gens) (d':=s.drawn) (ch:=[]) (fun _ z=>nomatch z) (fun b o _ hb _ e n=>u.keep b o e n hb (by simp)) (fun b o _ hb _ e n=>u.slot b o e n hb (by simp)) (fun b o _ e n=>u.free b o e n (by simp)) (fun b o _ e=>u.there b o e (by simp)) u.tups u.frzs u.tbls (fun m' hm=>by
  obtain⟨o',es',ep',ho',r'⟩:=hm;rw[ho] at ho';cases ho';exact⟨_,es',ep',hL,r'⟩) hok I.bare
theorem Inv.call {g':Array GenState} {t':Nat} {d':Drawn} {ch:List Addr} (I:Inv X pins σ H s) (u:Un (frs X.stack) ch H H' s.heap h') (hok:HOk X.prog X.w H' h') (hg:AllBare g')
  (hch:∀b∈ch,(b∈X.ex\/X.s₀.heap.objs.size<=b)/\b≠X.env.locals/\(∀x c,X.env.cells.lookup x=some c->c≠b)/\∀p∈X.pn++pins,p.1≠b) :
  Inv X pins σ H' { s with heap:=h',gens:=g',drawn:=d',toks:=t' }:=by
 obtain⟨m,⟨o,es,ep,ho,r⟩,_⟩:=id I.loc;obtain⟨sl,hL⟩:=u.any ho I.free fun z=>(hch _ z).2.1 rfl;exact I.step (ch:=ch) hch (fun b o hL hb hc e n=>u.keep b o e n (fun z=>(xaq.mp (I.stkSub b z)).elim hL hb) hc) (fun b o _ _ hc e n=>u.any e n hc) (fun b o hc e n=>u.free b o e n hc) (fun b o hc e=>u.there b o e hc) u.tups u.frzs u.tbls (fun m' hm=>by
  obtain⟨o',es',ep',ho',r'⟩:=hm;rw[ho] at ho';cases ho';exact⟨_,es',ep',hL,r'⟩) hok hg
theorem Inv.turned {t':Nat} {it:Addr} (I:Inv X pins σ H s) (k:∀b o,b≠it->s.heap.get? b=some o->h'.get? b=some o) (hn:H it=none) (hL:it≠X.env.locals)
  (h1:it∈X.ex\/X.s₀.heap.objs.size<=it) (h2:∀x c,X.env.cells.lookup x=some c->c≠it) (h3:∀p∈X.pn++pins,p.1≠it):Inv X pins σ H { s with heap:=h',toks:=t' }:=by
 have nit:∀b u,H b=some u->b≠it:=fun b u e z=>by rw[z,hn] at e;cases e
 refine I.step (g':=s.gens) (d':=s.drawn) (ch:=[it]) (fun b hb=>?_) (fun b o _ _ hc e _=>k b o (fun z=>hc (by simp [z])) e) (fun b o _ _ hc e _=>⟨o.slots,k b o (fun z=>hc (by simp [z])) e⟩) (fun _ _ _ _ n=>n)
  (fun b o hc e=>⟨o,k b o (fun z=>hc (by simp [z])) e⟩) (fun _ _ e=>e) (fun _ _ _ e=>e) (fun b ps e=>⟨#[],by rw[e];simp⟩) (fun m hm=>?_) (fun b u e=>?_) I.bare
 ·have e:b=it:=by simpa using hb
  subst e;exact⟨h1,hL,h2,h3⟩
 ·obtain⟨o,es,ep,ho,r⟩:=hm;exact⟨o,es,ep,k _ o (Ne.symm hL) ho,r⟩
 ·refine (I.hok b u e).stay (fun c v hc q=>k c v ?_ q) (fun _ q=>q) fun _ _ q=>q;rcases hc with z | z
  ·rw[z];exact nit b u e
  ·exact nit c _ z
theorem Inv.tok (I:Inv X pins σ H s) (t:Nat):Inv X pins σ H { s with toks:=t }:=I.un (h':=s.heap) (t':=t) Un.refl I.hok
theorem Inv.kept {t':Nat} (I:Inv X pins σ H s) (k:∀b u,s.heap.get? b=some u->h'.get? b=some u):Inv X pins σ H { s with heap:=h',toks:=t' }:=I.un (Un.kept k) (I.hok.kept k)
theorem Inv.laid {a:Addr} {o:HO} {t':Nat} (I:Inv X pins σ H s) (k:∀b u,s.heap.get? b=some u->h'.get? b=some u) (hp:s.heap.objs.size<=a) (new:ObjOk X.prog X.w (upd H a o) h' a o) :
  Inv X pins σ (upd H a o) { s with heap:=h',toks:=t' }:=I.un (Un.laid k hp (I.hok.fresh hp)) (I.hok.laid k hp new)
theorem Inv.write {x e:Addr} {o:HO} {t':Nat} (I:Inv X pins σ H s) (mu:Mut (H x)) (he:e=x\/H e=some (.own x)) (k:∀b u,b≠e->s.heap.get? b=some u->h'.get? b=some u) (heo:∃u,h'.get? e=some u)
  (new:ObjOk X.prog X.w (upd H x o) h' x o):Inv X pins σ (upd H x o) { s with heap:=h',toks:=t' }:=I.un (Un.write mu he k heo) (I.hok.write mu he k heo new)
theorem Inv.pins_of {pins':List (Addr × Obj)} (I:Inv X pins σ H s) (h:∀p∈pins',s.heap.get? p.1=some p.2/\H p.1=none/\p.1≠X.env.locals/\p.1∉X.fs/\∀v,p.2.data≠.cell v):Inv X pins' σ H s :=
 ⟨I.ok,I.os,I.bare,I.base,I.loc,I.cell,I.free,I.freeC,fun p hp=>(xaJ.mp hp).elim (fun z=>I.pin p (xbQ _ z)) (h p),I.hok,I.len⟩
theorem jeF {N:List Str} (hN:N.Nodup) {i j:Nat} {x:Str} (a:N[i]?=some x) (b:N[j]?=some x):i=j:=by
 obtain⟨h1,e1⟩:=xaj.mp a;obtain⟨h2,e2⟩:=xaj.mp b;exact (List.getElem_inj hN).mp (e1.trans e2.symm)
theorem je8 {M:Model} {A:Around} {E:Value->Shared->Prop} {i:Nat} {x:Str} {v:V} {u:Value} {Q:Unit->Shared->Prop} (I:Inv X pins σ H s) (hN:X.N.Nodup) (hi:X.N[i]?=some x) (hx:Loc X.env.scope x) (r:RelV v u)
  (h:∀s',Inv X pins (σ.set i (some v)) H s'->(∃a,Heap.SameBut a s.heap s'.heap/\(a=X.env.locals\/X.env.cells.lookup x=some a))->Q () s') (hf:X.fn x=true\/X.env.scope.names.lookup x=some .local:=by first | exact .inl rfl | exact .inr rfl | assumption):wpAny M A (storeName X.env x u) Q E s:=by
 obtain⟨m,hn,hl⟩:=id I.loc;have hcls:(X.env.scope.kind==.class||(X.env.scope.kind==.module&&X.env.locals != X.env.globals))=false:=by rw[I.ok.kind];rfl
 have hiσ:i<σ.length:=by rw[I.len];exact (xaj.mp hi).1
 have cne:=I.cne;have tracked:∀{a:Addr} {h':Heap},(∃o,s.heap.get? a=some o/\H a=none)->Heap.SameBut a s.heap h'->HOk X.prog X.w H h':=fun {a h'} ha hs b ob e=>by
  obtain⟨_,_,hfree⟩:=ha;refine (I.hok b ob e).stay (fun c w' hc q=>(hs.2 c ?_).trans q) (fun _ q=>q) fun _ _ q=>q;rintro rfl;rcases hc with rfl | hc
  ·rw[hfree] at e;cases e
  ·rw[hfree] at hc;cases hc
 rcases hx with hk | hk
 ·refine wpAny_storeName_local hk hn (fun h' hn' hs=>?_) hcls;obtain⟨oL,_,_,hoL,_⟩:=id hn;refine h _ ⟨I.ok,I.os,I.bare,⟨fun b o e n hb hx=>?_,fun b o e n hb hx=>?_,I.base.free,fun b o e hx=>?_,I.base.tups,I.base.frzs,I.base.tbls⟩,⟨_,hn',fun j y v' e1 e2 e3=>?_⟩,fun y c e=>?_,I.free,I.freeC,fun p hp=>?_,tracked ⟨oL,hoL,I.free⟩ hs,by simpa using I.len⟩ ⟨_,hs,.inl rfl⟩
  ·exact (hs.2 b (xam (xah (Heap.lt_size e) I.ok.above))).trans (I.base.keep b o e n hb hx)
  ·obtain⟨sl,e1⟩:=I.base.slot b o e n hb hx;exact⟨sl,(hs.2 b (xam (xah (Heap.lt_size e) I.ok.above))).trans e1⟩
  ·obtain⟨o',e1⟩:=I.base.there b o e hx;exact⟨o',(hs.2 b (xam (xah (Heap.lt_size e) I.ok.above))).trans e1⟩
  ·by_cases hj:j=i
   ·subst hj;rw[hi] at e1;cases e1;rw[xbE hiσ] at e2;cases e2;exact⟨u,r,.inl ⟨hk,by simp⟩⟩
   ·rw[xbR (Ne.symm hj)] at e2;obtain⟨u',r',q⟩:=hl j y v' e1 e2 e3;refine⟨u',r',?_⟩;rcases q with ⟨k,e⟩ | ⟨k,c,e,z⟩
    ·refine .inl ⟨k,?_⟩;have:y≠x:=fun e=>hj (jeF hN e1 (e▸hi));simp [this,e]
    ·exact .inr ⟨k,c,e,z.sameBut hs (cne y c e)⟩
  ·obtain⟨w',z⟩:=I.cell y c e;exact⟨w',z.sameBut hs (cne y c e)⟩
  ·obtain⟨e,n,ne,nf,d⟩:=I.pin p hp;exact⟨(hs.2 p.1 ne).trans e,n,ne,nf,d⟩
 ·have hfn:X.fn x=true:=by
   rcases hf with z | z
   ·exact z
   ·rw[z] at hk;cases hk
  obtain⟨c,hc⟩:=I.ok.has x (.inl hk);obtain⟨w',z⟩:=I.cell x c hc;refine wpAny_storeName_cell I.ok.kind hk hc z (fun h' hc' hs=>?_);obtain⟨oc,hoc,hocd⟩:=id z;refine h { s with heap:=h' } ⟨I.ok,I.os,I.bare,⟨fun b o e n hb hx=>?_,fun b o e n hb hx=>?_,I.base.free,fun b o e hx=>?_,I.base.tups,I.base.frzs,I.base.tbls⟩,⟨m,hn.sameBut hs (Ne.symm (cne x c hc)),fun j y v' e1 e2 e3=>?_⟩,fun y c' e=>?_,I.free,I.freeC,fun p hp=>?_,tracked ⟨oc,hoc,I.freeC x c hc⟩ hs,by simpa using I.len⟩ ⟨c,hs,.inr hc⟩
  ·exact (hs.2 b (xam (xah (Heap.lt_size e) (I.ok.cab x c hfn hc)))).trans (I.base.keep b o e n hb hx)
  ·obtain⟨sl,e1⟩:=I.base.slot b o e n hb hx;exact⟨sl,(hs.2 b (xam (xah (Heap.lt_size e) (I.ok.cab x c hfn hc)))).trans e1⟩
  ·obtain⟨o',e1⟩:=I.base.there b o e hx;exact⟨o',(hs.2 b (xam (xah (Heap.lt_size e) (I.ok.cab x c hfn hc)))).trans e1⟩
  ·by_cases hj:j=i
   ·subst hj;rw[hi] at e1;cases e1;rw[xbE hiσ] at e2;cases e2;exact⟨u,r,.inr ⟨.inl hk,c,hc,hc'⟩⟩
   ·rw[xbR (Ne.symm hj)] at e2;obtain⟨u',r',q⟩:=hl j y v' e1 e2 e3;refine⟨u',r',?_⟩;rcases q with q | ⟨k,c',e,z'⟩
    ·exact .inl q
    ·refine .inr ⟨k,c',e,z'.sameBut hs ?_⟩;rintro rfl;exact hj (jeF hN e1 (I.ok.inj _ _ _ e hc▸hi))
  ·by_cases hcc:c'=c
   ·subst hcc;exact⟨_,hc'⟩
   ·obtain⟨w2,z2⟩:=I.cell y c' e;exact⟨w2,z2.sameBut hs hcc⟩
  ·obtain⟨e,n,ne,nf,d⟩:=I.pin p hp;refine⟨(hs.2 p.1 ?_).trans e,n,ne,nf,d⟩;intro q;rw[q,hoc] at e;have q':oc=p.2:=Option.some.inj e;exact d w' (by rw[<- q'];exact hocd)
theorem jcG {M:Model} {A:Around} {E:Value->Shared->Prop} {i:Nat} {x:Str} {v:V} {u:Value} {Q:Unit->Shared->Prop} (I:Inv X pins σ H s) (hN:X.N.Nodup) (hi:X.N[i]?=some x) (hx:Loc X.env.scope x) (r:RelV v u)
  (h:∀s',Inv X pins (σ.set i (some v)) H s'->Q () s') (hf:X.fn x=true\/X.env.scope.names.lookup x=some .local:=by first | exact .inl rfl | exact .inr rfl | assumption):wpAny M A (storeName X.env x u) Q E s :=
 je8 I hN hi hx r (fun s' I' _=>h s' I') hf
theorem Inv.call' {s':Shared} {ch:List Addr} (I:Inv X pins σ H s) (ho:s'.os=s.os) (u:Un (frs X.stack) ch H H' s.heap s'.heap) (hok:HOk X.prog X.w H' s'.heap) (hg:AllBare s'.gens)
  (hch:∀b∈ch,(b∈X.ex\/X.s₀.heap.objs.size<=b)/\b≠X.env.locals/\(∀x c,X.env.cells.lookup x=some c->c≠b)/\∀p∈X.pn++pins,p.1≠b):Inv X pins σ H' s':=by
 obtain⟨h',g',d',t',o'⟩:=s';have e:o'=s.os:=ho;subst e;exact I.call (g':=g') (t':=t') (d':=d') u hok hg hch
end
abbrev XK:=Value->Option Addr->Hp->Prop
abbrev St:=List (Option V)
abbrev VK:=V->Hp->Prop
abbrev TE:=St->Hp->VK->Prop
abbrev TT:=St->Hp->(Bool->Hp->Prop)->Prop
abbrev TA:=St->Hp->(List V->Hp->Prop)->Prop
structure Ends where
 nx:St->Hp->Prop
 rt:VK
 bk:St->Hp->Prop:=fun _ _=>False
 ct:St->Hp->Prop:=fun _ _=>False
abbrev TS:=Ends->St->Hp->Prop
def EP (X:Cx) (pins:List (Addr × Obj)) (σ:St) (Q:VK) (u:Value) (s':Shared):Prop:=∃v H',Inv X pins σ H' s'/\RelV v u/\Q v H'
def TP (X:Cx) (pins:List (Addr × Obj)) (σ:St) (Q:Bool->Hp->Prop) (b:Bool) (s':Shared):Prop:=∃H',Inv X pins σ H' s'/\Q b H'
def AP (X:Cx) (pins:List (Addr × Obj)) (σ:St) (Q:List V->Hp->Prop) (us:List Value) (s':Shared):Prop:=∃vs H',Inv X pins σ H' s'/\Vals vs us/\Q vs H'
def SP (X:Cx) (pins:List (Addr × Obj)) (D:Ends) (f:Flow) (s':Shared):Prop :=
 match f with
 | .next=>∃σ' H',Inv X pins σ' H' s'/\D.nx σ' H'
 | .brk=>∃σ' H',Inv X pins σ' H' s'/\D.bk σ' H'
 | .cont=>∃σ' H',Inv X pins σ' H' s'/\D.ct σ' H'
 | .ret u=>∃v σ' H',Inv X pins σ' H' s'/\RelV v u/\D.rt v H'
def PE (X:Cx) (e:Expr) (t:TE):Prop :=
 ∀(pins:List (Addr × Obj)) (s:Shared) (σ:St) (H:Hp) (Q:VK),Inv X pins σ H s->t σ H Q->wpAny (model X.prog X.w) X.A (eval e X.env) (EP X pins σ Q) X.xe s
def PT (X:Cx) (e:Expr) (t:TT):Prop :=
 ∀(pins:List (Addr × Obj)) (s:Shared) (σ:St) (H:Hp) (Q:Bool->Hp->Prop),Inv X pins σ H s->t σ H Q->wpAny (model X.prog X.w) X.A (isTrue e X.env (eval e X.env)) (TP X pins σ Q) X.xe s
def PW (X:Cx) (e:Expr) (t:TT):Prop :=
 ∀(whole:Sem Value) (pins:List (Addr × Obj)) (s:Shared) (σ:St) (H:Hp) (Q:Bool->Hp->Prop),Inv X pins σ H s->t σ H Q->wpAny (model X.prog X.w) X.A (isTrue e X.env whole) (TP X pins σ Q) X.xe s
theorem PW.pt {X:Cx} {e:Expr} {t:TT} (h:PW X e t):PT X e t:=h _
def PA (X:Cx) (es:List Expr) (t:TA):Prop :=
 ∀(pos:Pos) (pins:List (Addr × Obj)) (s:Shared) (σ:St) (H:Hp) (Q:List V->Hp->Prop),Inv X pins σ H s->t σ H Q->wpAny (model X.prog X.w) X.A (spliced (backTo pos (starEach es X.env))) (AP X pins σ Q) X.xe s
def PS (X:Cx) (st:Stmt) (t:TS):Prop :=
 ∀(pins:List (Addr × Obj)) (s:Shared) (σ:St) (H:Hp) (D:Ends),Inv X pins σ H s->t D σ H->wpAny (model X.prog X.w) X.A (exec st X.env) (SP X pins D) X.xe s
def PSs (X:Cx) (st:List Stmt) (t:TS):Prop :=
 ∀(pins:List (Addr × Obj)) (s:Shared) (σ:St) (H:Hp) (D:Ends),Inv X pins σ H s->t D σ H->wpAny (model X.prog X.w) X.A (execs st X.env) (SP X pins D) X.xe s
theorem thn {α:Type} {t:Sem α} {Q Q':α->Shared->Prop} {M:Model} {A:Around} {E:Value->Shared->Prop} {s:Shared} (h:wpAny M A t Q E s) (hQ:∀a s,Q a s->Q' a s):wpAny M A t Q' E s:=wpAny_mono h hQ fun _ _ x=>x
section
variable {X:Cx}
def jkP (i:Nat):TE:=fun σ H Q=>∃v,σ[i]?=some (some v)/\Q v H
def tC (v:V):TE:=fun _ H Q=>Q v H
theorem jmk {i:Nat} {x:Str} {pos:Pos} (hN:X.N[i]?=some x) (hv:Vis X.env.scope x) (hd:(x==("__debug__":Str))=false:=by decide) (hcd:(x==("__classdict__":Str))=false:=by decide):PE X (.Name x pos) (jkP i):=by
 intro pins s σ H Q I h;obtain⟨v,e,h⟩:=h;obtain⟨m,hn,hl⟩:=I.loc;obtain⟨u,r,l⟩:=hl i x v hN e hv;have fin:EP X pins σ Q u s:=⟨v,H,I,r,h⟩;rcases l with ⟨hk,hm⟩ | ⟨hk,c,hc,hcell⟩
 ·exact wpAny_Name (wpAny_loadName_local I.ok.kind hk hn hm fin) hd
 ·rcases hk with hk | hk
  ·exact wpAny_Name (wpAny_loadName_cell I.ok.kind hk hc hcell fin) hd
  ·exact wpAny_Name (wpAny_loadName_free I.ok.kind hk hc hcell fin hcd) hd
theorem jab {i j pos}:PE X (.Constant (.int i) j pos) (tC (.int i)):=fun _ _ _ H _ I h=>wpAny_Constant_int ⟨.int i,H,I.tok _,⟨_,rfl⟩,h⟩
theorem jc6 {b j pos}:PE X (.Constant (.bool b) j pos) (tC (.bl b)):=fun _ _ _ H _ I h=>Constant_bool ⟨.bl b,H,I,rfl,h⟩
theorem jaW {j pos}:PE X (.Constant .none j pos) (tC .non):=fun _ _ _ H _ I h=>Constant_none ⟨.non,H,I,rfl,h⟩
theorem jdJ {x j pos}:PE X (.Constant (.str x) j pos) (tC (.str x)):=fun _ _ _ H _ I h=>Calls.Constant_str ⟨.str x,H,I.tok _,⟨_,rfl⟩,h⟩
def Gl (X:Cx) (x:Str):Prop:=X.env.kindOf x=some .globalImplicit
theorem jdK {E:Value->Shared->Prop} {pins:List (Addr × Obj)} {s:Shared} {σ:St} {H:Hp} {x:Str} {u:Value} {pos:Pos} {Q:Value->Shared->Prop} (I:Inv X pins σ H s) (hg:Gl X x) (hm:X.mg x=some u) (h:Q u s)
  (hd:(x==("__debug__":Str))=false:=by decide):wpAny (model X.prog X.w) X.A (eval (.Name x pos) X.env) Q E s :=
 Calls.Name_function_global I.ok.kind hg (Calls.loadGlobal_global (by rw[I.ok.glob];exact I.mod.glob.keeps I.bk) hm h) hd
theorem jdv {E:Value->Shared->Prop} {pins:List (Addr × Obj)} {s:Shared} {σ:St} {H:Hp} {x:Str} {u:Value} {pos:Pos} {Q:Value->Shared->Prop} (I:Inv X pins σ H s) (hg:Gl X x) (hm:X.mg x=none) (hv:bootBuiltins x=some u) (h:Q u s)
  (hn:x≠"__name__":=by decide) (hd:(x==("__debug__":Str))=false:=by decide):wpAny (model X.prog X.w) X.A (eval (.Name x pos) X.env) Q E s:=by
 obtain⟨mb,h1,h2⟩:=I.mod.blt;exact Calls.Name_function_global I.ok.kind hg (Calls.loadGlobal_builtin (by rw[I.ok.glob];exact I.mod.glob.keeps I.bk) hm (by rw[I.ok.blt];exact h1.keeps I.bk) ((h2 x hn).trans hv) h) hd
theorem jdL {x:Str} {v:V} {u:Value} {pos:Pos} (hg:Gl X x) (hm:X.mg x=some u) (r:RelV v u) (hd:(x==("__debug__":Str))=false:=by decide):PE X (.Name x pos) (tC v) :=
 fun _ _ _ H _ I h=>jdK I hg hm ⟨v,H,I,r,h⟩ hd
theorem jch {x:Str} {v:V} {u:Value} {pos:Pos} (hg:Gl X x) (hm:X.mg x=none) (hv:bootBuiltins x=some u) (r:RelV v u) (hn:x≠"__name__":=by decide) (hd:(x==("__debug__":Str))=false:=by decide):PE X (.Name x pos) (tC v) :=
 fun _ _ _ H _ I h=>jdv I hg hm hv ⟨v,H,I,r,h⟩ hn hd
variable {a b:Expr} {ta tb:TE} {pos:Pos}
def tB (t:TE):TT:=fun σ H Q=>t σ H fun x H1=>∃c,x=.bl c/\Q c H1
theorem jbu {e:Expr} {t:TE} (h:PE X e t) (he:∀whole,isTrue e X.env whole=(do let v <- whole;standAt e.pos;holding [v] (truthy v)):=by intro _;rfl):PT X e (tB t):=by
 intro pins s σ H Q I hw;refine isTrue_plain (thn (h pins s σ H _ I hw) fun v s1 ⟨x,H1,I1,r1,q1⟩=>?_) (he _);obtain⟨d,rfl,q⟩:=q1;cases r1;exact wpAny_truthy_bool ⟨H1,I1,q⟩
variable {tA tB':TT} {rest:List Expr}
def jml (t u:TT):TT:=fun σ H Q=>t σ H fun c H1=>if c=true then u σ H1 Q else Q false H1
def tOr (t u:TT):TT:=fun σ H Q=>t σ H fun c H1=>if c=true then Q true H1 else u σ H1 Q
def jmm (t:TT):TT:=fun σ H Q=>t σ H fun c H1=>Q (!c) H1
theorem jfK (ha:PT X a tA):PW X (.BoolOp .And [a] pos) tA:=by
 intro wh pins s σ H Q I h;refine isTrue_and (thn (ha pins s σ H Q I h) fun c s1 e=>?_);cases c with
 | true=>exact isTrue_and_nil e
 | false=>exact e
theorem jc7 (ha:PT X a tA):PW X (.BoolOp .Or [a] pos) tA:=by
 intro wh pins s σ H Q I h;refine isTrue_or (thn (ha pins s σ H Q I h) fun c s1 e=>?_);cases c with
 | false=>exact isTrue_or_nil e
 | true=>exact e
theorem jf5 (ha:PT X a tA) (hb:PW X (.BoolOp .And (b::rest) pos) tB'):PW X (.BoolOp .And (a::b::rest) pos) (jml tA tB'):=by
 intro wh pins s σ H Q I h;refine isTrue_and (thn (ha pins s σ H _ I h) fun c s1 ⟨H1,I1,q1⟩=>?_);cases c with
 | true=>exact hb wh pins s1 σ H1 Q I1 q1
 | false=>exact⟨H1,I1,q1⟩
theorem jc8 (ha:PT X a tA) (hb:PW X (.BoolOp .Or (b::rest) pos) tB'):PW X (.BoolOp .Or (a::b::rest) pos) (tOr tA tB'):=by
 intro wh pins s σ H Q I h;refine isTrue_or (thn (ha pins s σ H _ I h) fun c s1 ⟨H1,I1,q1⟩=>?_);cases c with
 | true=>exact⟨H1,I1,q1⟩
 | false=>exact hb wh pins s1 σ H1 Q I1 q1
theorem jcL (ha:PT X a tA):PT X (.UnaryOp .Not a pos) (jmm tA):=by
 intro pins s σ H Q I h;exact isTrue_not (ha pins s σ H (fun c H1=>Q (!c) H1) I h)
def jhq (ta tb:TE):TE:=fun σ H Q=>ta σ H fun x H1=>∃c,x=.bl c/\if c=true then tb σ H1 Q else Q (.bl false) H1
def tOrV (ta tb:TE):TE:=fun σ H Q=>ta σ H fun x H1=>∃c,x=.bl c/\if c=true then Q (.bl true) H1 else tb σ H1 Q
def jhr (ta:TE):TE:=fun σ H Q=>ta σ H fun x H1=>∃c,x=.bl c/\Q (.bl (!c)) H1
theorem jf6 {op} {t:TE} (h:PE X a t):PE X (.BoolOp op [a] pos) t:=fun pins s σ H Q I hw=>BoolOp_one (h pins s σ H Q I hw)
theorem je9 (ha:PE X a ta) (hb:PE X (.BoolOp .And (b::rest) pos) tb):PE X (.BoolOp .And (a::b::rest) pos) (jhq ta tb):=by
 intro pins s σ H Q I h;refine BoolOp_and (thn (ha pins s σ H _ I h) fun v s1 ⟨x,H1,I1,r1,q1⟩=>?_);obtain⟨c,rfl,q1⟩:=q1;cases r1;refine wpAny_truthy_bool ?_;cases c with
 | true=>exact hb pins s1 σ H1 Q I1 q1
 | false=>exact⟨.bl false,H1,I1,rfl,q1⟩
theorem jmn (ha:PE X a ta):PE X (.UnaryOp .Not a pos) (jhr ta):=by
 intro pins s σ H Q I h;refine UnaryOp_ (thn (ha pins s σ H _ I h) fun v s1 ⟨x,H1,I1,r1,q1⟩=>?_);obtain⟨c,rfl,q1⟩:=q1;cases r1;exact not_of (wpAny_truthy_bool ⟨.bl (!c),H1,I1,rfl,q1⟩)
def tIf (t:TT) (ta tb:TE):TE:=fun σ H Q=>t σ H fun c H1=>if c=true then ta σ H1 Q else tb σ H1 Q
theorem jeG {c:Expr} (hc:PT X c tA) (ha:PE X a ta) (hb:PE X b tb):PE X (.IfExp c a b pos) (tIf tA ta tb):=by
 intro pins s σ H Q I h;refine wpAny_IfExp (thn (hc pins s σ H _ I h) fun d s1 ⟨H1,I1,q1⟩=>?_);cases d with
 | true=>exact ha pins s1 σ H1 Q I1 q1
 | false=>exact hb pins s1 σ H1 Q I1 q1
end
def SqL (K:PySem.W.Frag) (H:Hp) (a:Addr) (xs:List V):Prop :=
 Rd H a (.lst xs) \/
  ∃(o:Obj) (its:Array Value) (n:Nat),K.lookup a=some o/\o.cls=.type "list"/\o.dict=none/\o.data=.seq its n/\its.size<=sizeLine/\Vals xs its.toList
def SqT (K:PySem.W.Frag) (H:Hp) (a:Addr) (xs:List V):Prop :=
 Rd H a (.tup xs) \/
  ∃(o:Obj) (its:Array Value) (n:Nat),K.lookup a=some o/\o.cls=.type "tuple"/\o.data=.seq its n/\its.size<=sizeLine/\Vals xs its.toList
def absV:Value->Option V
 | .none=>some .non
 | .bool b=>some (.bl b)
 | .int i _=>some (.int i)
 | .str x _=>some (.str x)
 | .bytes b _=>some (.byt b)
 | .float b _=>some (.flt b)
 | .ref a=>some (.ref a)
 | .type n=>some (.ty n)
 | _=>none
theorem RelV.abs {x:V} {u:Value} (r:RelV x u):absV u=some x:=by
 cases x with
 | non=>cases r;rfl
 | bl _=>cases r;rfl
 | int _=>obtain⟨t,rfl⟩:=r;rfl
 | str _=>obtain⟨t,rfl⟩:=r;rfl
 | byt _=>obtain⟨t,rfl⟩:=r;rfl
 | flt _=>obtain⟨t,rfl⟩:=r;rfl
 | ref _=>cases r;rfl
 | ty _=>cases r;rfl
theorem RelV.inj {x y:V} {u:Value} (r:RelV x u) (q:RelV y u):x=y:=Option.some.inj (r.abs.symm.trans q.abs)
theorem Vals.inj:∀{xs ys:List V} {us:List Value},Vals xs us->Vals ys us->xs=ys
 | _,_,_,.nil,.nil=>rfl
 | _,_,_,.cons r t,.cons r' t'=>by rw[r.inj r',Vals.inj t t']
section
variable {X:Cx} {pins:List (Addr × Obj)} {σ:St} {H:Hp} {s:Shared} {a:Addr} {xs ys:List V}
theorem SqL.of {K:PySem.W.Frag} (h:H a=some (.lst xs)):SqL K H a xs:=.inl (.inl h)
theorem SqT.of {K:PySem.W.Frag} (h:H a=some (.tup xs)):SqT K H a xs:=.inl (.inl h)
theorem Inv.list (I:Inv X pins σ H s) (h:SqL X.K H a xs):∃its:List Value,Vals xs its/\PlainL s.heap a its.toArray/\xs.length<=sizeLine:=by
 rcases h with h | ⟨o,its,n,hk,hc,hd,hs,hz,r⟩
 ·obtain⟨z,its,n,r,e⟩:=h.ok I.hok;exact⟨its,r,⟨_,n,e,rfl,rfl,rfl⟩,z⟩
 ·refine⟨its.toList,r,⟨o,n,I.kIn a o hk,hc,hd,by simpa using hs⟩,?_⟩;have e:=r.length;simp only[Array.length_toList] at e;omega
theorem Inv.tuple (I:Inv X pins σ H s) (h:SqT X.K H a xs):∃its:List Value,Vals xs its/\IsTup s.heap a its.toArray/\xs.length<=sizeLine:=by
 rcases h with h | ⟨o,its,n,hk,hc,hs,hz,r⟩
 ·obtain⟨z,its,r,p⟩:=h.ok I.hok;exact⟨its,r,p,z⟩
 ·refine⟨its.toList,r,⟨o,I.kIn a o hk,hc,n,by simpa using hs⟩,?_⟩;have e:=r.length;simp only[Array.length_toList] at e;omega
theorem Inv.list_inj (I:Inv X pins σ H s) (h:SqL X.K H a xs) (h':SqL X.K H a ys):xs=ys:=by
 obtain⟨its,r,⟨o,n,e,_,_,d⟩,_⟩:=I.list h;obtain⟨its',r',⟨o',n',e',_,_,d'⟩,_⟩:=I.list h';rw[e] at e';cases e';rw[d] at d';injection d' with d1 _
 have:its=its':=by simpa using congrArg Array.toList d1
 subst this;exact r.inj r'
theorem Inv.tuple_inj (I:Inv X pins σ H s) (h:SqT X.K H a xs) (h':SqT X.K H a ys):xs=ys:=by
 obtain⟨its,r,⟨o,e,_,n,d⟩,_⟩:=I.tuple h;obtain⟨its',r',⟨o',e',_,n',d'⟩,_⟩:=I.tuple h';rw[e] at e';cases e';rw[d] at d';injection d' with d1 _
 have:its=its':=by simpa using congrArg Array.toList d1
 subst this;exact r.inj r'
end
abbrev Cx.wish (X:Cx) (E:Value->Shared->Prop):Cx:={ X with xe:=E }
abbrev Cx.nox (X:Cx):Cx:=X.wish fun _ _=>False
theorem Cx.Ok.wish {X:Cx} (ok:X.Ok) (E:Value->Shared->Prop):(X.wish E).Ok :=
 ⟨ok.mod,ok.kind,ok.glob,ok.blt,ok.above,ok.inj,ok.has,ok.cab,ok.hd,ok.frames,ok.stk,ok.exf,ok.bs,ok.bsz,ok.noex,ok.exfs,ok.funs,ok.frf⟩
theorem Cx.Ok.unwish {X:Cx} {E:Value->Shared->Prop} (ok:(X.wish E).Ok):X.Ok :=
 ⟨ok.mod,ok.kind,ok.glob,ok.blt,ok.above,ok.inj,ok.has,ok.cab,ok.hd,ok.frames,ok.stk,ok.exf,ok.bs,ok.bsz,ok.noex,ok.exfs,ok.funs,ok.frf⟩
section
variable {X:Cx} {pins:List (Addr × Obj)} {σ:St} {H:Hp} {s:Shared} {E:Value->Shared->Prop}
theorem Inv.wish (I:Inv X pins σ H s) (E:Value->Shared->Prop):Inv (X.wish E) pins σ H s:=⟨I.ok.wish E,I.os,I.bare,I.base,I.loc,I.cell,I.free,I.freeC,I.pin,I.hok,I.len⟩
theorem Inv.unwish (I:Inv (X.wish E) pins σ H s):Inv X pins σ H s:=⟨I.ok.unwish,I.os,I.bare,I.base,I.loc,I.cell,I.free,I.freeC,I.pin,I.hok,I.len⟩
theorem SP.unwish {D:Ends} {f:Flow} {s':Shared} (h:SP (X.wish E) pins D f s'):SP X pins D f s':=by
 cases f with
 | next=>obtain⟨σ',H',I,q⟩:=h;exact⟨σ',H',I.unwish,q⟩
 | brk=>obtain⟨σ',H',I,q⟩:=h;exact⟨σ',H',I.unwish,q⟩
 | cont=>obtain⟨σ',H',I,q⟩:=h;exact⟨σ',H',I.unwish,q⟩
 | ret u=>obtain⟨v,σ',H',I,r,q⟩:=h;exact⟨v,σ',H',I.unwish,r,q⟩
theorem PE.nox {e:Expr} {t:TE} (h:PE X.nox e t):PE X e t:=fun pins s σ H Q I hw =>
 wpAny_mono (h pins s σ H Q (I.wish _) hw) (fun _ _ ⟨v,H',I',r,q⟩=>⟨v,H',I'.unwish,r,q⟩) fun _ _ z=>False.elim z
theorem PT.nox {e:Expr} {t:TT} (h:PT X.nox e t):PT X e t:=fun pins s σ H Q I hw =>
 wpAny_mono (h pins s σ H Q (I.wish _) hw) (fun _ _ ⟨H',I',q⟩=>⟨H',I'.unwish,q⟩) fun _ _ z=>False.elim z
theorem PSs.nox {st:List Stmt} {t:TS} (h:PSs X.nox st t):PSs X st t:=fun pins s σ H D I hw =>
 wpAny_mono (h pins s σ H D (I.wish _) hw) (fun _ _ q=>q.unwish) fun _ _ z=>False.elim z
end
section
variable {X:Cx} {st:Stmt} {rest:List Stmt} {t u:TS} {e:Expr} {te:TE} {pos:Pos}
def jhs:TS:=fun D σ H=>D.nx σ H
def jl7 (t u:TS):TS:=fun D σ H=>t { D with nx:=u D } σ H
theorem jaw:PSs X [] jhs:=fun _ _ σ H _ I h=>wpAny_execs_nil ⟨σ,H,I,h⟩
theorem jag (h1:PS X st t) (h2:PSs X rest u):PSs X (st::rest) (jl7 t u):=by
  intro pins s σ H D I h;refine wpAny_execs_cons (thn (h1 pins s σ H { D with nx:=u D } I h) fun f s1 q=>?_);cases f with
  | next =>
    obtain⟨σ',H',I',q⟩:=q;exact h2 pins s1 σ' H' D I' q
  | ret v=>exact q
  | brk=>exact q
  | cont=>exact q
theorem jai (h1:PS X st t):PSs X [st] t:=by
 intro pins s σ H D I h;refine wpAny_execs_cons (thn (h1 pins s σ H D I h) fun f s1 q=>?_);cases f with
 | next=>exact wpAny_execs_nil q
 | ret v=>exact q
 | brk=>exact q
 | cont=>exact q
def jf7:TS:=fun D σ H=>D.bk σ H
def ji7:TS:=fun D σ H=>D.ct σ H
theorem Inv.quiet {pins:List (Addr × Obj)} {σ:St} {H:Hp} {s:Shared} (I:Inv X pins σ H s):interactive X.env=false:=by simp [interactive,I.ok.kind]
def jht (te:TE):TS:=fun D σ H=>te σ H fun _ H1=>D.nx σ H1
theorem jcU (he:PE X e te) (hs:swapsWith e none pos.line X.env=pure false:=by rfl):PS X (.Expr e pos) (jht te):=by
 intro pins s σ H D I h;exact wpAny_Expr_any (thn (he pins s σ H _ I h) fun v s1 ⟨x,H1,I1,r1,q1⟩=>⟨σ,H1,I1,q1⟩) I.quiet hs
def jmo (te:TE):TS:=fun D σ H=>te σ H D.rt
theorem jap (he:PE X e te):PS X (.Return (some e) pos) (jmo te):=by
 intro pins s σ H D I h;exact wpAny_Return_some (thn (he pins s σ H _ I h) fun v s1 ⟨x,H1,I1,r1,q1⟩=>⟨x,σ,H1,I1,r1,q1⟩)
def ji8:TS:=fun D _ H=>D.rt .non H
def jmp (c:TT) (t u:TS):TS:=fun D σ H=>c σ H fun b H1=>if b=true then t D σ H1 else u D σ H1
theorem jaQ {c:Expr} {a b:List Stmt} {tc:TT} (hc:PT X c tc) (ha:PSs X a t) (hb:PSs X b u):PS X (.If c a b pos) (jmp tc t u):=by
 intro pins s σ H D I h;refine wpAny_If (thn (hc pins s σ H _ I h) fun d s1 ⟨H1,I1,q1⟩=>?_);cases d with
 | true=>exact ha pins s1 σ H1 D I1 q1
 | false=>exact hb pins s1 σ H1 D I1 q1
def jmq:TS:=fun _ _ _=>False
theorem jbv {sts:List Stmt}:PSs X sts jmq:=fun _ _ _ _ _ _ h=>h.elim
end
abbrev TG:=V->St->Hp->(St->Hp->Prop)->Prop
abbrev TGs:=List V->St->Hp->(St->Hp->Prop)->Prop
def PG (X:Cx) (target:Expr) (t:TG):Prop :=
  ∀ (pins : List (Addr × Obj)) (s : Shared) (σ : St) (H : Hp) (v : V) (u : Value) (Q : St -> Hp -> Prop), Inv X pins σ H s -> RelV v u -> t v σ H Q ->
    wpAny (model X.prog X.w) X.A (assign target X.env u) (fun _ s'=>∃σ' H',Inv X pins σ' H' s'/\Q σ' H') X.xe s
def PGs (X:Cx) (ts:List Expr) (t:TGs):Prop :=
  ∀ (pins : List (Addr × Obj)) (s : Shared) (σ : St) (H : Hp) (vs : List V) (us : List Value) (Q : St -> Hp -> Prop), Inv X pins σ H s -> Vals vs us -> t vs σ H Q ->
    wpAny (model X.prog X.w) X.A (assignInOrder ((assignEach ts X.env).map (·.2)) us) (fun _ s'=>∃σ' H',Inv X pins σ' H' s'/\Q σ' H') X.xe s
abbrev TSet:=V->V->V->Hp->(Hp->Prop)->Prop
def PSet (X:Cx) (t:TSet):Prop :=
  ∀ (pins : List (Addr × Obj)) (s : Shared) (σ : St) (H : Hp) (o i v : V) (ov iv u : Value) (Q : Hp -> Prop), Inv X pins σ H s -> RelV o ov -> RelV i iv -> RelV v u -> t o i v H Q ->
    wpAny (model X.prog X.w) X.A (setItem ov iv u) (fun _ s'=>∃H',Inv X pins σ H' s'/\Q H') X.xe s
section
variable {X:Cx} {pos:Pos}
def jcg (i:Nat):TG:=fun v σ H Q=>Q (σ.set i (some v)) H
theorem jao {i:Nat} {x:Str} (hN:X.N.Nodup) (hi:X.N[i]?=some x) (hx:Loc X.env.scope x) (hf:X.fn x=true\/X.env.scope.names.lookup x=some .local:=by first | exact .inl rfl | exact .inr rfl | assumption):PG X (.Name x pos) (jcg i):=by
 intro pins s σ H v u Q I r h;exact wpAny_assign_Name (jcG I hN hi hx r (fun s' I'=>⟨_,H,I',h⟩) hf)
def jl8:TGs:=fun vs σ H Q=>vs=[]/\Q σ H
def jfL (t:TG) (u:TGs):TGs:=fun vs σ H Q=>∃v r,vs=v::r/\t v σ H fun σ' H'=>u r σ' H' Q
theorem jbw:PGs X [] jl8:=by
 intro pins s σ H vs us Q I r h;obtain⟨e,h⟩:=h;subst e;cases r;exact assignInOrder_nil ⟨σ,H,I,h⟩
theorem jaC {e:Expr} {es:List Expr} {t:TG} {u:TGs} (h1:PG X e t) (h2:PGs X es u)
    (hs:(assignEach (e::es) X.env).map (·.2)=assign e X.env::(assignEach es X.env).map (·.2):=by rfl):PGs X (e::es) (jfL t u):=by
  intro pins s σ H vs us Q I r h;obtain⟨v,vr,e1,h⟩:=h;subst e1;cases r with
  | cons r rr =>
    rw[hs];refine assignInOrder_cons (thn (h1 pins s σ H _ _ _ I r h) fun _ s1 ⟨σ1,H1,I1,q1⟩=>?_);exact h2 pins s1 σ1 H1 _ _ Q I1 rr q1
def jkQ (K:PySem.W.Frag) (n:Nat) (t:TGs):TG:=fun v σ H Q=>∃a xs,v=.ref a/\SqT K H a xs/\xs.length=n/\t xs σ H Q
theorem jcM {es:List Expr} {k:Nat} {t:TGs} {n:Nat} (hc:X.calm=true) (h:PGs X es t)
  (hn:(assignEach es X.env).length=n:=by rfl) (hst:(assignEach es X.env).findIdx? (·.1)=none:=by rfl):PG X (.Tuple es k pos) (jkQ X.K n t):=by
 intro pins s σ H v u Q I r hw;obtain⟨a,xs,e1,hq,hl,hw⟩:=hw;subst e1;cases r;obtain⟨its,rv,ht,hz⟩:=I.tuple hq;refine assign_Tuple_tuple (I.ok.hd hc) ht (by simp [hn,<- hl,rv.length]) hst fun h' hx=>?_;have I1:Inv X pins σ H { s with heap:=h' }:=I.kept (t':=s.toks) fun b o e=>hx b o (xam (Heap.lt_size e)) e;exact h pins _ σ H xs _ Q I1 (by simpa using rv) hw
def gSub (to ti:TE) (t:TSet):TG:=fun v σ H Q=>to σ H fun o H1=>ti σ H1 fun i H2=>t o i v H2 fun H3=>Q σ H3
theorem jj4 {o i:Expr} {to ti:TE} {t:TSet} (ho:PE X o to) (hi:PE X i ti) (hs:PSet X t)
  (ha:∀v,assign (.Subscript o i pos) X.env v=(do
   let ov <- holding [v] (eval o X.env)
   let iv <- holding [v,ov] (eval i X.env)
   standAt pos
   holding [v,ov,iv] (setItem ov iv v)
   release [v,ov,iv] []):=by intro _;rfl):PG X (.Subscript o i pos) (gSub to ti t):=by
 intro pins s σ H v u Q I r h;rw[ha];refine wpAny_bind (wpAny_holding (thn (ho pins s σ H _ I h) fun ov s1 ⟨x,H1,I1,r1,q1⟩=>?_));refine wpAny_bind (wpAny_holding (thn (hi pins s1 σ H1 _ I1 q1) fun iv s2 ⟨y,H2,I2,r2,q2⟩=>?_));refine wpAny_bind (wpAny_standAt (wpAny_bind (wpAny_holding (thn (hs pins s2 σ H2 x y v ov iv u _ I2 r1 r2 r q2) fun _ s3 ⟨H3,I3,q3⟩=>?_))));exact wpAny_release ⟨σ,H3,I3,q3⟩
def jj5 (te:TE) (g:TG):TS:=fun D σ H=>te σ H fun x H1=>g x σ H1 D.nx
theorem jcN {tg e:Expr} {te:TE} {g:TG} (he:PE X e te) (hg:PG X tg g) (hs:swapsWithSole [tg] e pos.line X.env=pure false:=by rfl) (hw:swappedStores [tg] e X.env=pure none:=by rfl)
  (h1:(assignEach [tg] X.env).map (·.2)=[assign tg X.env]:=by rfl):PS X (.Assign [tg] e pos) (jj5 te g):=by
 intro pins s σ H D I h;refine wpAny_Assign_stores (thn (he pins s σ H _ I h) fun v s1 ⟨x,H1,I1,r1,q1⟩=>?_) hs hw;rw[h1];exact thn (hg pins s1 σ H1 x v _ I1 r1 q1) fun _ s2 q=>q
theorem jat {i:Nat} {x:Str} {e:Expr} {te:TE} {pos':Pos} (hN:X.N.Nodup) (hi:X.N[i]?=some x) (hx:Loc X.env.scope x) (he:PE X e te) (hs:swapsWith e (some (.Name x pos')) pos.line X.env=pure false:=by rfl) (hf:X.fn x=true\/X.env.scope.names.lookup x=some .local:=by first | exact .inl rfl | exact .inr rfl | assumption) :
  PS X (.Assign [.Name x pos'] e pos) (jj5 te (jcg i)):=by
 intro pins s σ H D I h;refine wpAny_Assign_Name (thn (he pins s σ H _ I h) fun v s1 ⟨y,H1,I1,r1,q1⟩=>?_) hs;exact jcG I1 hN hi hx r1 (fun s2 I2=>⟨_,H1,I2,q1⟩) hf
def jmr (i j:Nat) (ta:TA):TS:=fun D σ H=>ta σ H fun vs H1=>∃v w,vs=[v,w]/\D.nx ((σ.set i (some v)).set j (some w)) H1
theorem jms {i j:Nat} {x y:Str} {a b:Expr} {ta:TA} {px py pt:Pos} {kt k2 pt2} (hc:X.calm=true) (hN:X.N.Nodup) (hi:X.N[i]?=some x) (hj:X.N[j]?=some y) (hij:i≠j)
    (hx:X.env.scope.names.lookup x=some .local) (hy:X.env.scope.names.lookup y=some .local) (ha:PA X [a,b] ta)
    (hw:swappedStores [.Tuple [.Name x px,.Name y py] kt pt] (.Tuple [a,b] k2 pt2) X.env=pure (some [x,y]))
    (hs:swapsWithSole [.Tuple [.Name x px,.Name y py] kt pt] (.Tuple [a,b] k2 pt2) pos.line X.env=pure false:=by rfl) :
    PS X (.Assign [.Tuple [.Name x px,.Name y py] kt pt] (.Tuple [a,b] k2 pt2) pos) (jmr i j ta):=by
  intro pins s σ H D I h;rw[exec_Assign_arm];refine wpAny_bind (wpAny_standAt ?_);rw[hs];refine wpAny_bind (wpAny_pure ?_);rw[if_neg (by decide)];refine wpAny_bind (Tuple_ (thn (ha _ pins s σ H _ I h) fun us s1 ⟨vs,H1,I1,r1,q1⟩=>?_));obtain⟨v,w,e1,q1⟩:=q1;subst e1;obtain⟨u1,u2,rfl,rv,rw'⟩:∃u1 u2,us=[u1,u2]/\RelV v u1/\RelV w u2:=by
    cases r1 with
    | cons p q =>
      cases q with
      | cons p' q' =>
        cases q';exact⟨_,_,rfl,p,p'⟩
  refine wpAny_newObj_type ?_ (by show 2<=sizeLine;decide);have I2:Inv X pins σ H1 { s1 with heap:=s1.heap.push { cls:=.type "tuple",data:=.seq [u1,u2].toArray } }:=I1.kept (t':=s1.toks) fun b o e=>Heap.get?_push_of_some _ e;rw[hw];refine wpAny_bind (wpAny_pure ?_);show wpAny (model X.prog X.w) X.A (do rule "assign.swapped-stores";let items <- unpackItems (.ref s1.heap.objs.size) 2 none;assignInOrder [fun v=>bindName X.env y v,fun v=>bindName X.env x v] items.reverse;pure Flow.next) _ _ _;refine wpAny_bind (wpAny_rule (wpAny_bind (unpackItems_tuple (items:=#[u1,u2]) (I.ok.hd hc) (IsTup.new s1.heap _) fun h' hx'=>?_)));have I3:=I2.kept (h':=h') (t':=s1.toks) fun b o e=>hx' b o (xam (Heap.lt_size e)) e;show wpAny _ _ (assignInOrder [fun v=>bindName X.env y v,fun v=>bindName X.env x v] [u2,u1] >>= fun _=>pure Flow.next) _ _ _;refine wpAny_bind (assignInOrder_cons (wpAny_bindName (jcG I3 hN hj (.inl hy) rw' (fun s2 I4=>?_) (.inr hy))));refine assignInOrder_cons (wpAny_bindName (jcG I4 hN hi (.inl hx) rv (fun s3 I5=>assignInOrder_nil (wpAny_pure ?_)) (.inr hx)));rw[List.set_comm _ _ (Ne.symm hij)] at I5;exact⟨_,H1,I5,q1⟩
def jmt (c:TT) (tb:TS):TS:=fun D σ H=>∃W:Nat->St->Hp->Prop,(∃m,W m σ H)/\∀m σ H,W m σ H ->
 c σ H fun b H1=>if b=true then ∃N:St->Hp->Prop,(∀σ' H',N σ' H'->∃m',m'<m/\W m' σ' H')/\tb { D with nx:=N,ct:=N,bk:=D.nx } σ H1 else D.nx σ H1
theorem jdG {c:Expr} {body:List Stmt} {tc:TT} {tb:TS} (hp:PassesOwn (model X.prog X.w) X.A X.env X.xe) (hc:PT X c tc) (hb:PSs X body tb):PS X (.While c body [] pos) (jmt tc tb):=by
  intro pins s σ H D I h;obtain⟨W,⟨m0,w0⟩,turn⟩:=h;refine wpAny_While (codeAny_whileLoop (fun n s'=>∃σ' H',Inv X pins σ' H' s'/\W n σ' H') ?_ m0 ⟨σ,H,I,w0⟩);rintro n s1 ⟨σ1,H1,I1,w1⟩;refine wpAny_passesOwn hp (thn (hc pins s1 σ1 H1 _ I1 (turn n σ1 H1 w1)) fun b s2 ⟨H2,I2,q2⟩=>?_);cases b with
  | true =>
    obtain⟨N,hN,q2⟩:=q2;rw[if_pos rfl];refine wpAny_passesOwn hp (thn (hb pins s2 σ1 H2 _ I2 q2) fun f s3 q3=>?_);cases f with
    | next =>
      obtain⟨σ3,H3,I3,n3⟩:=q3;obtain⟨m',hm,w3⟩:=hN σ3 H3 n3;exact⟨m',hm,σ3,H3,I3,w3⟩
    | cont =>
      obtain⟨σ3,H3,I3,n3⟩:=q3;obtain⟨m',hm,w3⟩:=hN σ3 H3 n3;exact⟨m',hm,σ3,H3,I3,w3⟩
    | brk=>exact q3
    | ret v=>exact q3
  | false =>
    rw[if_neg xai];exact wpAny_execs_nil ⟨σ1,H2,I2,q2⟩
end
structure It where
 go:Nat->Hp->Prop
 yld:Nat->Hp->V->Hp->Prop
 stop:Nat->Hp->Prop
def jfG (X:Cx) (pins:List (Addr × Obj)) (H:Hp) (b:Addr):Prop :=
 H b=none/\b≠X.env.locals/\b∉X.fs/\(b∈X.ex\/X.s₀.heap.objs.size<=b)/\(∀x c,X.env.cells.lookup x=some c->c≠b)/\∀p∈X.pn++pins,p.1≠b
theorem Inv.fpOk {X:Cx} {pins:List (Addr × Obj)} {σ:St} {H H':Hp} {s:Shared} {b:Addr} (I:Inv X pins σ H s) (hb:s.heap.objs.size<=b) (hn:H' b=none):jfG X pins H' b:=by
 refine⟨hn,Nat.ne_of_gt (xah I.lt hb),I.nofs hb,.inr (xav I.sz hb),fun x c e z=>?_,fun p hp z=>?_⟩
 ·obtain⟨v,q⟩:=I.cell x c e;exact absurd (xah q.lt (by rw[z];exact hb)) (xaW _)
 ·exact absurd (xah (Heap.lt_size (I.pin p hp).1) (by rw[z];exact hb)) (xaW _)
structure Turn (P:Program) (w:World) (K:PySem.W.Frag) (tg:Expr) (J:It) (fp:List Addr) (it:Addr) (tn:Nat->Heap->Prop):Prop where
 mem:it∈fp
 obj:∀i h,tn i h->∀b∈fp,∃o,h.get? b=some o/\∀v,o.data≠.cell v
 keep:∀i h h',tn i h->(∀b∈fp,∀o,h.get? b=some o->h'.get? b=some o)->tn i h'
 item:∀(X:Cx),X.prog=P->X.w=w->X.K=K->X.calm=true->∀(i:Nat) (pins:List (Addr × Obj)) (s:Shared) (σ:St) (H:Hp) (E:Value->Shared->Prop),Inv X pins σ H s->(∀b∈fp,jfG X pins H b)->tn i s.heap->J.go i H ->
  wpAny (model P w) X.A (pyNext (.ref it)) (fun r s1=>∃u,r=some u /\
   wpAny (model P w) X.A (letOwnedTupleGo tg (.ref it) u) (fun _ s2=>∃x H',Inv X pins σ H' s2/\RelV x u/\J.yld i H x H'/\tn (i+1) s2.heap/\∀b∈fp,H' b=none) E s1) E s
 done:∀(X:Cx),X.prog=P->X.w=w->X.K=K->X.calm=true->∀(i:Nat) (pins:List (Addr × Obj)) (s:Shared) (σ:St) (H:Hp) (E:Value->Shared->Prop),Inv X pins σ H s->(∀b∈fp,jfG X pins H b)->tn i s.heap->J.stop i H ->
  wpAny (model P w) X.A (pyNext (.ref it)) (fun r s1=>r=none/\Inv X pins σ H s1) E s
 self:∀(A:Around) (i:Nat) (s:Shared) (Q:Value->Shared->Prop) (E:Value->Shared->Prop),tn i s.heap->Q (.ref it) s->wpAny (model P w) A (pyIter (.ref it)) Q E s
abbrev TI:=St->Hp->(It->Hp->Prop)->Prop
def PIE (X:Cx) (pins:List (Addr × Obj)) (σ:St) (tg:Expr) (R:It->Hp->Prop) (itv:Value) (s2:Shared):Prop :=
 ∃(it:Addr) (fp:List Addr) (tn:Nat->Heap->Prop) (J:It) (H':Hp),itv=.ref it/\Inv X pins σ H' s2/\Turn X.prog X.w X.K tg J fp it tn/\tn 0 s2.heap/\(∀b∈fp,jfG X pins H' b)/\R J H'
def PI (X:Cx) (tg iter:Expr) (wi:TI):Prop :=
  ∀ (pins : List (Addr × Obj)) (s : Shared) (σ : St) (H : Hp) (R : It -> Hp -> Prop), Inv X pins σ H s -> wi σ H R ->
    wpAny (model X.prog X.w) X.A (eval iter X.env) (fun v s1=>wpAny (model X.prog X.w) X.A (pyIter v) (PIE X pins σ tg R) X.xe s1) X.xe s
theorem jkR {M:Model} {A:Around} {E:Value->Shared->Prop} {s:Shared} {tg:Expr} {it:Addr} {u:Value} {o:Obj} {n:String} {vs:Array Value} {Q:Unit->Shared->Prop} (ho:s.heap.get? it=some o) (hc:o.cls=.type n) (hd:o.data=.fields vs)
    (hn:["enumerate","zip","dict_itemiterator","dict_reverseitemiterator","odict_iterator","itertools.zip_longest","itertools.pairwise"].contains n=false) (hQ:Q () s):wpAny M A (letOwnedTupleGo tg (.ref it) u) Q E s:=by
  unfold letOwnedTupleGo;cases tg<;>first
    | exact wpAny_pure hQ
    | (cases u<;>first
        | exact wpAny_pure hQ
        | (refine wpAny_bind (wpAny_load ho ?_)
           rw[hc,hd];show wpAny M A (if (["enumerate","zip","dict_itemiterator","dict_reverseitemiterator","odict_iterator","itertools.zip_longest","itertools.pairwise"].contains n&&vs[0]?==some (rawInt _))=true then _ else _) Q E s;rw[if_neg (by intro h;rw[hn,Bool.false_and] at h;cases h)];exact wpAny_pure hQ))
def Itl (K:PySem.W.Frag) (a:Addr):It :=
 ⟨fun i H=>∃xs x,SqL K H a xs/\xs[i]?=some x,fun i H x H'=>H'=H/\∀xs,SqL K H a xs->xs[i]?=some x,fun i H=>∃xs,SqL K H a xs/\xs.length<=i⟩
def Itt (K:PySem.W.Frag) (a:Addr):It :=
 ⟨fun i H=>∃xs x,SqT K H a xs/\xs[i]?=some x,fun i H x H'=>H'=H/\∀xs,SqT K H a xs->xs[i]?=some x,fun i H=>∃xs,SqT K H a xs/\xs.length<=i⟩
def Itr (lo:Int) (n:Nat):It:=⟨fun i _=>i<n,fun i H x H'=>H'=H/\x=.int (lo+i),fun i _=>n<=i⟩
theorem jhu {P:Program} {w:World} {K:PySem.W.Frag} {tg:Expr} (a it:Addr):Turn P w K tg (Itl K a) [it] it (fun i h=>h.IsListIter it a i) where
 mem:=by simp
 obj:=fun i h st b hb=>by
  have e:b=it:=by simpa using hb
  subst e;obtain⟨o,e,c,d⟩:=st;exact⟨o,e,fun v z=>by rw[d] at z;cases z⟩
 keep:=fun i h h' st k=>st.at fun o e=>k it (by simp) o e
 item:=by
  intro X hP hw hK hc i pins s σ H E I hf st hg;subst hP hw hK;obtain⟨xs,x,hq,hx⟩:=hg;obtain⟨its,rv,p,hz⟩:=I.list hq;obtain⟨u,hu,ru⟩:=rv.get hx;obtain⟨f0,f1,f2,f3,f4,f5⟩:=hf it (by simp);refine wpAny_pyNext_list_item st p.isList (x:=u) (by simpa using hu) fun h' st' sb=>?_;have I1:Inv X pins σ H { s with heap:=h' }:=I.turned (t':=s.toks) (fun b o hb e=>(sb.2 b hb).trans e) f0 f1 f3 f4 f5;obtain⟨o,e,c,d⟩:=id st';exact⟨u,rfl,jkR (s:={ s with heap:=h' }) e c d (by decide) ⟨x,H,I1,ru,⟨rfl,fun ys hy=>by rw[I.list_inj hy hq];exact hx⟩,st',fun b hb=>(hf b hb).1⟩⟩
 done:=by
  intro X hP hw hK hc i pins s σ H E I hf st hg;subst hP hw hK;obtain⟨xs,hq,hx⟩:=hg;obtain⟨its,rv,p,hz⟩:=I.list hq;obtain⟨f0,f1,f2,f3,f4,f5⟩:=hf it (by simp);have hl:=rv.length;exact wpAny_pyNext_list_end (I.ok.hd hc) st p.isList (by simp;omega) fun h' eb=>⟨rfl,I.turned (t':=s.toks) (fun b o hb e=>eb b o hb e) f0 f1 f3 f4 f5⟩
 self:=fun _ _ _ _ _ st h=>wpAny_pyIter_listiter st h
theorem jgP {P:Program} {w:World} {K:PySem.W.Frag} {tg:Expr} (a it:Addr):Turn P w K tg (Itt K a) [it] it (fun i h=>h.IsTupleIter it a i) where
 mem:=by simp
 obj:=fun i h st b hb=>by
  have e:b=it:=by simpa using hb
  subst e;obtain⟨o,e,c,d⟩:=st;exact⟨o,e,fun v z=>by rw[d] at z;cases z⟩
 keep:=fun i h h' st k=>st.at fun o e=>k it (by simp) o e
 item:=by
  intro X hP hw hK hc i pins s σ H E I hf st hg;subst hP hw hK;obtain⟨xs,x,hq,hx⟩:=hg;obtain⟨its,rv,p,hz⟩:=I.tuple hq;obtain⟨u,hu,ru⟩:=rv.get hx;obtain⟨f0,f1,f2,f3,f4,f5⟩:=hf it (by simp);refine wpAny_pyNext_tuple_item st (show s.heap.IsTuple a its.toArray from p) (x:=u) (by simpa using hu) fun h' st' sb=>?_;have I1:Inv X pins σ H { s with heap:=h' }:=I.turned (t':=s.toks) (fun b o hb e=>(sb.2 b hb).trans e) f0 f1 f3 f4 f5;obtain⟨o,e,c,d⟩:=id st';exact⟨u,rfl,jkR (s:={ s with heap:=h' }) e c d (by decide) ⟨x,H,I1,ru,⟨rfl,fun ys hy=>by rw[I.tuple_inj hy hq];exact hx⟩,st',fun b hb=>(hf b hb).1⟩⟩
 done:=by
  intro X hP hw hK hc i pins s σ H E I hf st hg;subst hP hw hK;obtain⟨xs,hq,hx⟩:=hg;obtain⟨its,rv,p,hz⟩:=I.tuple hq;obtain⟨f0,f1,f2,f3,f4,f5⟩:=hf it (by simp);have hl:=rv.length;exact wpAny_pyNext_tuple_end (I.ok.hd hc) st (show s.heap.IsTuple a its.toArray from p) (by simp;omega) fun h' eb=>⟨rfl,I.turned (t':=s.toks) (fun b o hb e=>eb b o hb e) f0 f1 f3 f4 f5⟩
 self:=fun _ _ _ _ _ st h=>wpAny_pyIter_tupleiter st h
theorem jgQ {P:Program} {w:World} {K:PySem.W.Frag} {tg:Expr} (it:Addr) (lo:Int) (n:Nat):Turn P w K tg (Itr lo n) [it] it (fun i h=>IsRangeIter h it (lo+(i:Nat)*1) ((n:Int)-(i:Nat)) 1) where
 mem:=by simp
 obj:=fun i h st b hb=>by
  have e:b=it:=by simpa using hb
  subst e;exact⟨_,st,fun v z=>by
   have z':Data.fields _=Data.cell v:=z;cases z'⟩
 keep:=fun i h h' st k=>k it (by simp) _ st
 item:=by
  intro X hP hw hK hc i pins s σ H E I hf st hg;subst hP hw hK;obtain⟨f0,f1,f2,f3,f4,f5⟩:=hf it (by simp);have W:=Walks.range (prog:=X.prog) (w:=X.w) (I.ok.hd hc) it lo 1 n;refine W.item i s _ _ hg st fun v h' tk hv st' kk=>?_;obtain⟨t,rfl⟩:=hv;have I1:Inv X pins σ H { s with heap:=h',toks:=tk }:=I.turned (fun b o hb e=>kk b o (by simpa using hb) e) f0 f1 f3 f4 f5;refine⟨_,rfl,jkR (s:={ s with heap:=h',toks:=tk }) (n:="range_iterator") st' rfl rfl (by decide) ⟨.int (lo+i),H,I1,⟨t,?_⟩,⟨rfl,rfl⟩,st',fun b hb=>(hf b hb).1⟩⟩;rw[xbp]
 done:=by
  intro X hP hw hK hc i pins s σ H E I hf st hg;subst hP hw hK;obtain⟨f0,f1,f2,f3,f4,f5⟩:=hf it (by simp);exact wpAny_pyNext_range_end (I.ok.hd hc) st (by have:n<=i:=hg;omega) fun h' eb=>⟨rfl,I.turned (t':=s.toks) (fun b o hb e=>eb b o hb e) f0 f1 f3 f4 f5⟩
 self:=fun _ _ _ _ _ st h=>wpAny_pyIter_rangeiter st h
section
variable {X:Cx} {tg:Expr}
def ji9 (K:PySem.W.Frag) (tl:TE):TI:=fun σ H R=>tl σ H fun x H1=>∃a,x=.ref a/\(∃xs,SqL K H1 a xs)/\R (Itl K a) H1
def iTup (K:PySem.W.Frag) (tl:TE):TI:=fun σ H R=>tl σ H fun x H1=>∃a,x=.ref a/\(∃xs,SqT K H1 a xs)/\R (Itt K a) H1
theorem jbW {l:Expr} {tl:TE} (hl:PE X l tl):PI X tg l (ji9 X.K tl):=by
 intro pins s σ H R I h;refine thn (hl pins s σ H _ I h) fun v s1 ⟨x,H1,I1,r1,q1⟩=>?_;obtain⟨a,e,⟨xs,hq⟩,q⟩:=q1;subst e;cases r1;obtain⟨its,rv,p,hz⟩:=I1.list hq;refine wpAny_pyIter_list p.isList ?_;refine⟨s1.heap.objs.size,[s1.heap.objs.size],_,_,H1,rfl,I1.kept (t':=s1.toks) fun b o e=>Heap.get?_push_of_some _ e,jhu a _,⟨_,Heap.get?_push_size _ rfl,rfl,rfl⟩,fun b hb=>?_,q⟩;have e:b=s1.heap.objs.size:=by simpa using hb
 subst e;exact I1.fpOk (xad _) (I1.hok.fresh (xad _))
theorem jdM {l:Expr} {tl:TE} (hl:PE X l tl):PI X tg l (iTup X.K tl):=by
 intro pins s σ H R I h;refine thn (hl pins s σ H _ I h) fun v s1 ⟨x,H1,I1,r1,q1⟩=>?_;obtain⟨a,e,⟨xs,hq⟩,q⟩:=q1;subst e;cases r1;obtain⟨its,rv,p,hz⟩:=I1.tuple hq;refine wpAny_pyIter_tuple (show s1.heap.IsTuple a its.toArray from p) ?_;refine⟨s1.heap.objs.size,[s1.heap.objs.size],_,_,H1,rfl,I1.kept (t':=s1.toks) fun b o e=>Heap.get?_push_of_some _ e,jgP a _,⟨_,Heap.get?_push_size _ rfl,rfl,rfl⟩,fun b hb=>?_,q⟩;have e:b=s1.heap.objs.size:=by simpa using hb
 subst e;exact I1.fpOk (xad _) (I1.hok.fresh (xad _))
theorem jf8 {pins:List (Addr × Obj)} {σ:St} {H:Hp} {s:Shared} {R:It->Hp->Prop} {E:Value->Shared->Prop} {lo hi:Int} {t u v:Tok} {tk:Nat} (I:Inv X pins σ H s) (h1:-(2^62)<=lo) (h2:lo<2^62) (h3:-(2^62)<=hi) (h4:hi<2^62)
  (q:R (Itr lo (hi-lo).toNat) H):wpAny (model X.prog X.w) X.A (pyIter (.ref s.heap.objs.size)) (PIE X pins σ tg R) E { s with heap:=s.heap.push { cls:=.type "range",data:=.fields #[.int lo t,.int hi u,.int 1 v] },toks:=tk }:=by
 refine wpAny_pyIter_range (IsRange.new ..) (small_one h1 h2 h3 h4) ?_;have I1:Inv X pins σ H { s with heap:=s.heap.push { cls:=.type "range",data:=.fields #[.int lo t,.int hi u,.int 1 v] },toks:=tk }:=I.kept fun b o e=>Heap.get?_push_of_some _ e;refine⟨(s.heap.push { cls:=.type "range",data:=.fields #[.int lo t,.int hi u,.int 1 v] }).objs.size,[(s.heap.push { cls:=.type "range",data:=.fields #[.int lo t,.int hi u,.int 1 v] }).objs.size],_,_,H,rfl,
  I1.kept (t':=tk) fun b o e=>Heap.get?_push_of_some _ e,jgQ _ lo (hi-lo).toNat,?_,fun b hb=>?_,q⟩
 ·have e1:lo+((0:Nat):Int)*1=lo:=by simp
  have e2:(((hi-lo).toNat:Nat):Int)-((0:Nat):Int)=Builtin.Range.rangeSize lo hi 1:=by rw[rangeSize_one];split<;>omega
  show IsRangeIter _ _ (lo+((0:Nat):Int)*1) ((((hi-lo).toNat:Nat):Int)-((0:Nat):Int)) 1;rw[e1,e2];exact Heap.get?_push_size _ rfl
 ·have e:b=(s.heap.push { cls:=.type "range",data:=.fields #[.int lo t,.int hi u,.int 1 v] }).objs.size:=by simpa using hb
  subst e;exact I1.fpOk (xad _) (I1.hok.fresh (xad _))
def jkS (ta:TA):TI:=fun σ H R=>ta σ H fun vs H1=>∃j:Int,vs=[.int j]/\-(2^62)<=j/\j<2^62/\R (Itr 0 j.toNat) H1
def jkT (ta:TA):TI:=fun σ H R=>ta σ H fun vs H1=>∃i j:Int,vs=[.int i,.int j]/\(-(2^62)<=i/\i<2^62/\-(2^62)<=j/\j<2^62)/\R (Itr i (j-i).toNat) H1
theorem jaX {a:Expr} {ta:TA} {p pos:Pos} (hg:Gl X "range") (hm:X.mg "range"=none) (ha:PA X [a] ta) (hs:starEach [a] X.env=[(false,eval a X.env)]:=by rfl):PI X tg (.Call (.Name "range" p) [a] [] pos) (jkS ta):=by
  intro pins s σ H R I h;refine Call_ (jdv I hg hm boot_range (PyProof.Rows.callWith_type1 (thn (ha pos pins s σ H _ I h) fun us s1 ⟨vs,H1,I1,r1,q1⟩=>?_) hs rfl));obtain⟨j,e,q1,q2,q⟩:=q1;subst e;cases r1 with
  | cons r rr =>
    cases rr;obtain⟨t,rfl⟩:=r;exact call_range_1 (jf8 I1 (by omega) (by omega) q1 q2 (by simpa using q))
theorem jfa {a b:Expr} {ta:TA} {p pos:Pos} (hg:Gl X "range") (hm:X.mg "range"=none) (ha:PA X [a,b] ta) (hs:starEach [a,b] X.env=[(false,eval a X.env),(false,eval b X.env)]:=by rfl) (hs2:starEach [b] X.env=[(false,eval b X.env)]:=by rfl) :
    PI X tg (.Call (.Name "range" p) [a,b] [] pos) (jkT ta):=by
  intro pins s σ H R I h;refine Call_ (jdv I hg hm boot_range (PyProof.Rows.callWith_type1 (thn (ha pos pins s σ H _ I h) fun us s1 ⟨vs,H1,I1,r1,q1⟩=>?_) (by rw[hs,hs2]) (by rw[hs2];rfl)));obtain⟨i,j,e,⟨q1,q2,q3,q4⟩,q⟩:=q1;subst e;cases r1 with
  | cons r rr =>
    cases rr with
    | cons r' rr =>
      cases rr;obtain⟨t,rfl⟩:=r;obtain⟨t',rfl⟩:=r';exact call_range_2 (jf8 I1 q1 q2 q3 q4 q)
def jkU (wi:TI) (g:TG) (tb:TS):TS:=fun D σ H=>wi σ H fun J H1=>∃W:Nat->Nat->St->Hp->Prop,(∃m,W 0 m σ H1)/\∀i m σ H,W i m σ H ->
 (J.stop i H/\D.nx σ H)\/(J.go i H/\∃N:St->Hp->Prop,(∀σ' H',N σ' H'->∃m',m'<m/\W (i+1) m' σ' H')/\∀x H',J.yld i H x H'->g x σ H' fun σ2 H2=>tb { D with nx:=N,ct:=N,bk:=D.nx } σ2 H2)
def jfb (fp:List Addr) (h:Heap):List (Addr × Obj):=fp.filterMap fun b=>(h.get? b).map fun o=>(b,o)
theorem jcH {fp:List Addr} {h:Heap} {b:Addr} {o:Obj} (hb:b∈fp) (e:h.get? b=some o):(b,o)∈jfb fp h:=xbZ.mpr ⟨b,hb,by rw[e];rfl⟩
theorem jhv {fp:List Addr} {h:Heap} {p:Addr × Obj} (hp:p∈jfb fp h):p.1∈fp/\h.get? p.1=some p.2:=by
  obtain⟨b,hb,e⟩:=xbZ.mp hp;cases q:h.get? b with
  | none=>rw[q] at e;cases e
  | some o =>
    rw[q] at e;have e':(b,o)=p:=Option.some.inj e;subst e';exact⟨hb,q⟩
theorem Inv.pinned {pins:List (Addr × Obj)} {σ:St} {H:Hp} {s:Shared} {fp:List Addr} (I:Inv X pins σ H s) (hf:∀b∈fp,jfG X pins H b) (ho:∀b∈fp,∃o,s.heap.get? b=some o/\∀v,o.data≠.cell v):Inv X (pins++jfb fp s.heap) σ H s :=
 I.pins_of fun p hp=>(xaJ.mp hp).elim (fun z=>I.pin p (xaA _ z)) fun z=>by
  obtain⟨hb,e⟩:=jhv z;obtain⟨f0,f1,f2,_⟩:=hf p.1 hb;obtain⟨o,e',d⟩:=ho p.1 hb;rw[e] at e';cases e';exact⟨e,f0,f1,f2,d⟩
theorem Inv.unpinned {pins pl:List (Addr × Obj)} {σ:St} {H:Hp} {s:Shared} (I:Inv X (pins++pl) σ H s):Inv X pins σ H s:=I.pins_of fun p hp=>I.pin p (xaA _ (xbQ _ hp))
theorem jbx {iter:Expr} {body:List Stmt} {wi:TI} {g:TG} {tb:TS} {pos:Pos} (hp:PassesOwn (model X.prog X.w) X.A X.env X.xe) (hc:X.calm=true) (hi:PI X tg iter wi) (hg:PG X tg g) (hb:PSs X body tb)
  (hs:∀x,foldedSetIterable iter X.env x=pure x:=by intro _;rfl):PS X (.For tg iter body [] pos) (jkU wi g tb):=by
 intro pins s σ H D I h;refine wpAny_For (thn (hi pins s σ H _ I h) fun v s1 h1=>thn h1 fun itv s2 h2=>?_) hs;obtain⟨it,fp,tn,J,H2,e,I2,T,st2,f2,W,⟨m0,w0⟩,turn⟩:=h2;subst e;have stat:∀{H':Hp},(∀b∈fp,H' b=none)->∀b∈fp,jfG X pins H' b:=fun hn b hb=>⟨hn b hb,(f2 b hb).2⟩;refine codeAny_forLoop_any (fun n s'=>∃i σ' H',Inv X pins σ' H' s'/\tn i s'.heap/\(∀b∈fp,H' b=none)/\W i n σ' H') ?_ m0 ⟨0,σ,H2,I2,st2,fun b hb=>(f2 b hb).1,w0⟩;rintro n s3 ⟨i,σ3,H3,I3,st3,fr3,w3⟩;rcases turn i n σ3 H3 w3 with ⟨stop,qn⟩ | ⟨go,N,hN,step⟩
 ·refine wpAny_passesOwn hp (thn (T.done X rfl rfl rfl hc i pins s3 σ3 H3 X.xe I3 (stat fr3) st3 stop) fun r s4 ⟨hr,I4⟩=>?_);subst hr;exact wpAny_execs_nil ⟨σ3,H3,I4,qn⟩
 ·refine wpAny_passesOwn hp (thn (T.item X rfl rfl rfl hc i pins s3 σ3 H3 X.xe I3 (stat fr3) st3 go) fun r s4 ⟨u,hr,h4⟩=>?_);subst hr;refine wpAny_passesOwn hp (thn h4 fun _ s5 ⟨x,H5,I5,r5,y5,st5,fr5⟩=>?_);have I5':=I5.pinned (stat fr5) (T.obj _ _ st5);refine wpAny_passesOwn hp (thn (hg _ s5 σ3 H5 x u _ I5' r5 (step x H5 y5)) fun _ s6 ⟨σ6,H6,I6,q6⟩=>?_);refine wpAny_passesOwn hp (thn (hb _ s6 σ6 H6 _ I6 q6) fun f s7 q7=>?_);have again:∀{σ7:St} {H7:Hp},Inv X (pins++jfb fp s5.heap) σ7 H7 s7->N σ7 H7->∃m,m<n/\∃i σ' H',Inv X pins σ' H' s7/\tn i s7.heap/\(∀b∈fp,H' b=none)/\W i m σ' H':=fun {σ7 H7} I7 n7=>by
   obtain⟨m',hm,w7⟩:=hN σ7 H7 n7;refine⟨m',hm,i+1,σ7,H7,I7.unpinned,T.keep _ _ _ st5 fun b hb o e=>(I7.pin (b,o) (xaA _ (xaA _ (jcH hb e)))).1,fun b hb=>?_,w7⟩;obtain⟨o,e,d⟩:=T.obj _ _ st5 b hb;exact (I7.pin (b,o) (xaA _ (xaA _ (jcH hb e)))).2.1
  cases f with
  | next=>obtain⟨σ7,H7,I7,n7⟩:=q7;exact again I7 n7
  | cont=>obtain⟨σ7,H7,I7,n7⟩:=q7;exact again I7 n7
  | brk=>obtain⟨σ7,H7,I7,q7⟩:=q7;exact⟨σ7,H7,I7.unpinned,q7⟩
  | ret v=>obtain⟨x7,σ7,H7,I7,r7,q7⟩:=q7;exact⟨x7,σ7,H7,I7.unpinned,r7,q7⟩
end
theorem jbX {K:PySem.W.Frag} {a:Addr} {xs:List V} {g:TG} {tb:TS} {D:Ends} {σ:St} {H:Hp} (Pv:Nat->St->Hp->Prop) (h0:Pv 0 σ H) (hl:∀i σ H,i<=xs.length->Pv i σ H->SqL K H a xs)
    (hs:∀i x σ H,xs[i]?=some x->Pv i σ H->g x σ H fun σ2 H2=>tb { D with nx:=Pv (i+1),ct:=Pv (i+1),bk:=D.nx } σ2 H2) (hd:∀σ H,Pv xs.length σ H->D.nx σ H) :
    ∃ W : Nat -> Nat -> St -> Hp -> Prop, (∃ m, W 0 m σ H) /\ ∀ i m σ H, W i m σ H ->
      ((Itl K a).stop i H/\D.nx σ H)\/((Itl K a).go i H/\∃N:St->Hp->Prop,(∀σ' H',N σ' H'->∃m',m'<m/\W (i+1) m' σ' H')/\∀x H',(Itl K a).yld i H x H'->g x σ H' fun σ2 H2=>tb { D with nx:=N,ct:=N,bk:=D.nx } σ2 H2):=by
  refine⟨fun i m σ H=>m=xs.length-i/\i<=xs.length/\Pv i σ H,⟨xs.length,by simp,xar _,h0⟩,?_⟩;rintro i m σ H ⟨rfl,hi,p⟩;have q:=hl i σ H hi p;by_cases hlt:i<xs.length
  . refine .inr ⟨⟨xs,xs[i],q,by simp [hlt]⟩,Pv (i+1),fun σ' H' p'=>⟨xs.length-(i+1),by omega,rfl,hlt,p'⟩,fun x H' y=>?_⟩
    obtain⟨e,y⟩:=y;subst e;exact hs i x σ _ (y xs q) p
  . have e:i=xs.length:=by omega
    subst e;exact .inl ⟨⟨xs,q,xad _⟩,hd σ H p⟩
theorem jhw {K:PySem.W.Frag} {a:Addr} {xs:List V} {g:TG} {tb:TS} {D:Ends} {σ:St} {H:Hp} (Pv:Nat->St->Hp->Prop) (h0:Pv 0 σ H) (hl:∀i σ H,i<=xs.length->Pv i σ H->SqT K H a xs)
    (hs:∀i x σ H,xs[i]?=some x->Pv i σ H->g x σ H fun σ2 H2=>tb { D with nx:=Pv (i+1),ct:=Pv (i+1),bk:=D.nx } σ2 H2) (hd:∀σ H,Pv xs.length σ H->D.nx σ H) :
    ∃ W : Nat -> Nat -> St -> Hp -> Prop, (∃ m, W 0 m σ H) /\ ∀ i m σ H, W i m σ H ->
      ((Itt K a).stop i H/\D.nx σ H)\/((Itt K a).go i H/\∃N:St->Hp->Prop,(∀σ' H',N σ' H'->∃m',m'<m/\W (i+1) m' σ' H')/\∀x H',(Itt K a).yld i H x H'->g x σ H' fun σ2 H2=>tb { D with nx:=N,ct:=N,bk:=D.nx } σ2 H2):=by
  refine⟨fun i m σ H=>m=xs.length-i/\i<=xs.length/\Pv i σ H,⟨xs.length,by simp,xar _,h0⟩,?_⟩;rintro i m σ H ⟨rfl,hi,p⟩;have q:=hl i σ H hi p;by_cases hlt:i<xs.length
  . refine .inr ⟨⟨xs,xs[i],q,by simp [hlt]⟩,Pv (i+1),fun σ' H' p'=>⟨xs.length-(i+1),by omega,rfl,hlt,p'⟩,fun x H' y=>?_⟩
    obtain⟨e,y⟩:=y;subst e;exact hs i x σ _ (y xs q) p
  . have e:i=xs.length:=by omega
    subst e;exact .inl ⟨⟨xs,q,xad _⟩,hd σ H p⟩
theorem jbS {lo:Int} {n:Nat} {g:TG} {tb:TS} {D:Ends} {σ:St} {H:Hp} (Pv:Nat->St->Hp->Prop) (h0:Pv 0 σ H)
    (hs:∀i σ H,i<n->Pv i σ H->g (.int (lo+i)) σ H fun σ2 H2=>tb { D with nx:=Pv (i+1),ct:=Pv (i+1),bk:=D.nx } σ2 H2) (hd:∀σ H,Pv n σ H->D.nx σ H) :
    ∃ W : Nat -> Nat -> St -> Hp -> Prop, (∃ m, W 0 m σ H) /\ ∀ i m σ H, W i m σ H ->
      ((Itr lo n).stop i H/\D.nx σ H)\/((Itr lo n).go i H/\∃N:St->Hp->Prop,(∀σ' H',N σ' H'->∃m',m'<m/\W (i+1) m' σ' H')/\∀x H',(Itr lo n).yld i H x H'->g x σ H' fun σ2 H2=>tb { D with nx:=N,ct:=N,bk:=D.nx } σ2 H2):=by
  refine⟨fun i m σ H=>m=n-i/\i<=n/\Pv i σ H,⟨n,by simp,xar _,h0⟩,?_⟩;rintro i m σ H ⟨rfl,hi,p⟩;by_cases hlt:i<n
  . refine .inr ⟨hlt,Pv (i+1),fun σ' H' p'=>⟨n-(i+1),by omega,rfl,hlt,p'⟩,fun x H' y=>?_⟩
    obtain⟨e,y⟩:=y;subst e y;exact hs i σ _ hlt p
  . have e:i=n:=by omega
    subst e;exact .inl ⟨xad _,hd σ H p⟩
abbrev R2:=V->V->Hp->VK->Prop
def OpR (X:Cx) (f:Value->Value->Sem Value) (r:R2):Prop :=
  ∀ (pins : List (Addr × Obj)) (s : Shared) (σ : St) (H : Hp) (x y : V) (v u : Value) (Q : VK), Inv X pins σ H s -> RelV x v -> RelV y u -> r x y H Q ->
    wpAny (model X.prog X.w) X.A (f v u) (EP X pins σ Q) X.xe s
def UnR (X:Cx) (f:Value->Sem Value) (r:V->Hp->VK->Prop):Prop :=
  ∀ (pins : List (Addr × Obj)) (s : Shared) (σ : St) (H : Hp) (x : V) (v : Value) (Q : VK), Inv X pins σ H s -> RelV x v -> r x H Q ->
    wpAny (model X.prog X.w) X.A (f v) (EP X pins σ Q) X.xe s
def CallR (X:Cx) (f:Value) (r:List V->Hp->VK->Prop):Prop :=
  ∀ (pins : List (Addr × Obj)) (s : Shared) (σ : St) (H : Hp) (xs : List V) (us : List Value) (Q : VK), Inv X pins σ H s -> Vals xs us -> r xs H Q ->
    wpAny (model X.prog X.w) X.A (call f us) (EP X pins σ Q) X.xe s
def tOp (r:R2) (ta tb:TE):TE:=fun σ H Q=>ta σ H fun x H1=>tb σ H1 fun y H2=>r x y H2 Q
def tUn (r:V->Hp->VK->Prop) (ta:TE):TE:=fun σ H Q=>ta σ H fun x H1=>r x H1 Q
def rI (C:Int->Int->Prop) (g:Int->Int->V):R2:=fun x y H Q=>∃i j,x=.int i/\y=.int j/\C i j/\Q (g i j) H
def rI0 (g:Int->Int->V):R2:=fun x y H Q=>∃i j,x=.int i/\y=.int j/\Q (g i j) H
def rU (g:Int->V):V->Hp->VK->Prop:=fun x H Q=>∃i,x=.int i/\Q (g i) H
section
variable {X:Cx} {a b c:Expr} {ta tb tc:TE} {pos:Pos}
theorem binT (ha:PE X a ta) (hb:PE X b tb) {pins:List (Addr × Obj)} {s:Shared} {σ:St} {H:Hp} {R:V->V->Hp->Prop} (I:Inv X pins σ H s)
  (h:ta σ H fun x H1=>tb σ H1 fun y H2=>R x y H2) {Q:Value->Shared->Prop} {f:Value->Value->Sem Value}
  (hf:∀v u s2 x y H2,Inv X pins σ H2 s2->RelV x v->RelV y u->R x y H2->wpAny (model X.prog X.w) X.A (f v u) Q X.xe s2) :
  wpAny (model X.prog X.w) X.A (eval a X.env) (fun v s₁=>wpAny (model X.prog X.w) X.A (eval b X.env) (fun u s₂=>wpAny (model X.prog X.w) X.A (f v u) Q X.xe s₂) X.xe s₁) X.xe s:=by
 refine thn (ha pins s σ H _ I h) fun v s1 ⟨x,H1,I1,r1,q1⟩=>?_;refine thn (hb pins s1 σ H1 _ I1 q1) fun u s2 ⟨y,H2,I2,r2,q2⟩=>?_;exact hf v u s2 x y H2 I2 r1 r2 q2
theorem jar {op:Operator} {r:R2} (ho:OpR X (binaryOp op) r) (ha:PE X a ta) (hb:PE X b tb):PE X (.BinOp a op b pos) (tOp r ta tb):=by
 intro pins s σ H Q I h;exact wpAny_BinOp (binT ha hb I h fun v u s2 x y H2 I2 rx ry q=>ho pins s2 σ H2 x y v u Q I2 rx ry q)
theorem jdN {op:UnaryOp} {r:V->Hp->VK->Prop} (ho:UnR X (unaryOp op) r) (ha:PE X a ta):PE X (.UnaryOp op a pos) (tUn r ta):=by
 intro pins s σ H Q I h;exact UnaryOp_ (thn (ha pins s σ H _ I h) fun v s1 ⟨x,H1,I1,r1,q1⟩=>ho pins s1 σ H1 x v Q I1 r1 q1)
theorem opI {f:Value->Value->Sem Value} {C:Int->Int->Prop} {g:Int->Int->Int}
  (rule:∀(i j:Int) (t u:Tok) (s:Shared) (Q:Value->Shared->Prop) (E:Value->Shared->Prop),C i j->Q (.int (g i j) s.toks) { s with toks:=s.toks+1 }->wpAny (model X.prog X.w) X.A (f (.int i t) (.int j u)) Q E s) :
  OpR X f (rI C fun i j=>.int (g i j)):=by
 intro pins s σ H x y v u Q I rx ry h;obtain⟨i,j,rfl,rfl,hc,q⟩:=h;obtain⟨t,rfl⟩:=rx;obtain⟨t',rfl⟩:=ry;exact rule i j t t' s _ _ hc ⟨.int (g i j),H,I.tok _,⟨_,rfl⟩,q⟩
theorem opI0 {f:Value->Value->Sem Value} {g:Int->Int->Int}
  (rule:∀(i j:Int) (t u:Tok) (s:Shared) (Q:Value->Shared->Prop) (E:Value->Shared->Prop),Q (.int (g i j) s.toks) { s with toks:=s.toks+1 }->wpAny (model X.prog X.w) X.A (f (.int i t) (.int j u)) Q E s) :
  OpR X f (rI0 fun i j=>.int (g i j)):=by
 intro pins s σ H x y v u Q I rx ry h;obtain⟨i,j,rfl,rfl,q⟩:=h;obtain⟨t,rfl⟩:=rx;obtain⟨t',rfl⟩:=ry;exact rule i j t t' s _ _ ⟨.int (g i j),H,I.tok _,⟨_,rfl⟩,q⟩
theorem opB0 {f:Value->Value->Sem Value} {g:Int->Int->Bool}
  (rule:∀(i j:Int) (t u:Tok) (s:Shared) (Q:Value->Shared->Prop) (E:Value->Shared->Prop),Q (.bool (g i j)) s->wpAny (model X.prog X.w) X.A (f (.int i t) (.int j u)) Q E s) :
  OpR X f (rI0 fun i j=>.bl (g i j)):=by
 intro pins s σ H x y v u Q I rx ry h;obtain⟨i,j,rfl,rfl,q⟩:=h;obtain⟨t,rfl⟩:=rx;obtain⟨t',rfl⟩:=ry;exact rule i j t t' s _ _ ⟨.bl (g i j),H,I,rfl,q⟩
def CPow (i j:Int):Prop:=0<=j/\j<=1000000/\i.natAbs<2^64
theorem jbk:OpR X (binaryOp .Add) (rI0 fun i j=>.int (i+j)):=opI0 fun _ _ _ _ _ _ _ q=>add_int q
theorem jbh:OpR X (binaryOp .Sub) (rI0 fun i j=>.int (i-j)):=opI0 fun _ _ _ _ _ _ _ q=>sub_int q
theorem jci:OpR X (binaryOp .Mod) (rI (fun _ j=>0<j) fun i j=>.int (i % j)):=opI fun i j _ _ _ _ _ hc q=>by
 have h1:(0:Int)<j:=hc;exact mod_int' (by omega) (by rw[Int.fmod_eq_emod_of_nonneg i (by omega)];exact q)
theorem jhx:OpR X (binaryOp .Pow) (rI CPow fun i j=>.int (i^j.toNat)):=opI fun _ _ _ _ _ _ _ hc q=>pow_int_small hc.1 hc.2.1 hc.2.2 q
theorem unI {f:Value->Sem Value} {g:Int->Int}
  (rule:∀(i:Int) (t:Tok) (s:Shared) (Q:Value->Shared->Prop) (E:Value->Shared->Prop),Q (.int (g i) s.toks) { s with toks:=s.toks+1 }->wpAny (model X.prog X.w) X.A (f (.int i t)) Q E s) :
  UnR X f (rU fun i=>.int (g i)):=by
 intro pins s σ H x v Q I rx h;obtain⟨i,rfl,q⟩:=h;obtain⟨t,rfl⟩:=rx;exact rule i t s _ _ ⟨.int (g i),H,I.tok _,⟨_,rfl⟩,q⟩
theorem jcj:UnR X (unaryOp .USub) (rU fun i=>.int (-i)):=unI fun _ _ _ _ _ q=>neg_int q
end
def jl9:V->V->Bool
 | .non,.non=>true | .non,.int _=>true | .int _,.non=>true | .non,.bl _=>true | .bl _,.non=>true | .non,.str _=>true | .str _,.non=>true
 | .int _,.int _=>true | .bl _,.bl _=>true | .str _,.str _=>true | .byt _,.byt _=>true
 | .int _,.str _=>true | .str _,.int _=>true | .bl _,.str _=>true | .str _,.bl _=>true
 | _,_=>false
def rEq:R2:=fun x y H Q=>jl9 x y=true/\Q (.bl (decide (x=y))) H
def rNe:R2:=fun x y H Q=>jl9 x y=true/\Q (.bl (!decide (x=y))) H
theorem jhy {i j:Int}:decide (V.int i=V.int j)=(i==j):=by
 rw[xbA];simp
theorem jj6 {i j:Bool}:decide (V.bl i=V.bl j)=(i==j):=by
 rw[xbA];simp
theorem jhz {i j:Str}:decide (V.str i=V.str j)=(i==j):=by
 rw[xbA];simp
theorem jhA {i j:Array UInt8}:decide (V.byt i=V.byt j)=(i.toList==j.toList):=by
 rw[xbA];cases i;cases j;simp
section
variable {X:Cx} {a b c:Expr} {ta tb tc:TE} {pos:Pos}
theorem jaK {pins:List (Addr × Obj)} {σ:St} {H:Hp} {s:Shared} {Q:VK} {k k':Bool} (I:Inv X pins σ H s) (q:Q (.bl k) H) (e:k=k'):EP X pins σ Q (.bool k') s:=by
 subst e;exact⟨.bl k,H,I,rfl,q⟩
theorem jdF:OpR X (compareOp .Eq) rEq:=by
  intro pins s σ H x y v u Q I rx ry h;obtain⟨hs,q⟩:=h;cases x with
  | non =>
    cases rx;cases y with
    | non=>cases ry;exact PySem.EqNone.eq_none_none (jaK I q (by simp))
    | bl j=>cases ry;exact PySem.EqNone.eq_none_bool (jaK I q (by simp))
    | int j=>obtain⟨t',rfl⟩:=ry;exact PySem.EqNone.eq_none_int (jaK I q (by simp))
    | str j=>obtain⟨t',rfl⟩:=ry;exact PySem.EqNone.eq_none_str (jaK I q (by simp))
    | _=>exact absurd (show false=true from hs) xai
  | bl i =>
    cases rx;cases y with
    | non=>cases ry;exact PySem.EqNone.eq_bool_none (jaK I q (by simp))
    | bl j=>cases ry;exact eq_bool (jaK I q jj6)
    | str j=>obtain⟨t',rfl⟩:=ry;exact PySem.EqMixed.eq_bool_str (jaK I q (by simp))
    | _=>exact absurd (show false=true from hs) xai
  | int i =>
    obtain⟨t,rfl⟩:=rx;cases y with
    | non=>cases ry;exact PySem.EqNone.eq_int_none (jaK I q (by simp))
    | int j=>obtain⟨t',rfl⟩:=ry;exact eq_int (jaK I q jhy)
    | str j=>obtain⟨t',rfl⟩:=ry;exact PySem.EqMixed.eq_int_str (jaK I q (by simp))
    | _=>exact absurd (show false=true from hs) xai
  | str i =>
    obtain⟨t,rfl⟩:=rx;cases y with
    | non=>cases ry;exact PySem.EqNone.eq_str_none (jaK I q (by simp))
    | bl j=>cases ry;exact PySem.EqMixed.eq_str_bool (jaK I q (by simp))
    | int j=>obtain⟨t',rfl⟩:=ry;exact PySem.EqMixed.eq_str_int (jaK I q (by simp))
    | str j=>obtain⟨t',rfl⟩:=ry;exact eq_str (jaK I q jhz)
    | _=>exact absurd (show false=true from hs) xai
  | byt i =>
    obtain⟨t,rfl⟩:=rx;cases y with
    | byt j=>obtain⟨t',rfl⟩:=ry;exact PySem.W.eq_bytes (jaK I q jhA)
    | _=>exact absurd (show false=true from hs) xai
  | _=>cases y<;>exact absurd (show false=true from hs) xai
theorem jdO:OpR X (compareOp .NotEq) rNe:=by
  intro pins s σ H x y v u Q I rx ry h;obtain⟨hs,q⟩:=h;cases x with
  | non =>
    cases rx;cases y with
    | non=>cases ry;exact PySem.EqNone.ne_none_none (jaK I q (by simp))
    | bl j=>cases ry;exact PySem.EqNone.ne_none_bool (jaK I q (by simp))
    | int j=>obtain⟨t',rfl⟩:=ry;exact PySem.EqNone.ne_none_int (jaK I q (by simp))
    | str j=>obtain⟨t',rfl⟩:=ry;exact PySem.EqNone.ne_none_str (jaK I q (by simp))
    | _=>exact absurd (show false=true from hs) xai
  | bl i =>
    cases rx;cases y with
    | non=>cases ry;exact PySem.EqNone.ne_bool_none (jaK I q (by simp))
    | bl j=>cases ry;exact ne_bool (jaK I q (congrArg not jj6))
    | str j=>obtain⟨t',rfl⟩:=ry;exact PySem.EqMixed.ne_bool_str (jaK I q (by simp))
    | _=>exact absurd (show false=true from hs) xai
  | int i =>
    obtain⟨t,rfl⟩:=rx;cases y with
    | non=>cases ry;exact PySem.EqNone.ne_int_none (jaK I q (by simp))
    | int j=>obtain⟨t',rfl⟩:=ry;exact ne_int (jaK I q (congrArg not jhy))
    | str j=>obtain⟨t',rfl⟩:=ry;exact PySem.EqMixed.ne_int_str (jaK I q (by simp))
    | _=>exact absurd (show false=true from hs) xai
  | str i =>
    obtain⟨t,rfl⟩:=rx;cases y with
    | non=>cases ry;exact PySem.EqNone.ne_str_none (jaK I q (by simp))
    | bl j=>cases ry;exact PySem.EqMixed.ne_str_bool (jaK I q (by simp))
    | int j=>obtain⟨t',rfl⟩:=ry;exact PySem.EqMixed.ne_str_int (jaK I q (by simp))
    | str j=>obtain⟨t',rfl⟩:=ry;exact ne_str (jaK I q (congrArg not jhz))
    | _=>exact absurd (show false=true from hs) xai
  | byt i =>
    obtain⟨t,rfl⟩:=rx;cases y with
    | byt j=>obtain⟨t',rfl⟩:=ry;exact PySem.W.ne_bytes (jaK I q (congrArg not jhA))
    | _=>exact absurd (show false=true from hs) xai
  | _=>cases y<;>exact absurd (show false=true from hs) xai
theorem jgR:OpR X (compareOp .Lt) (rI0 fun i j=>.bl (decide (i<j))):=opB0 fun _ _ _ _ _ _ _ q=>lt_int q
theorem jfM:OpR X (compareOp .Gt) (rI0 fun i j=>.bl (decide (j<i))):=opB0 fun _ _ _ _ _ _ _ q=>gt_int q
theorem op_ge:OpR X (compareOp .GtE) (rI0 fun i j=>.bl (decide (j<=i))):=opB0 fun _ _ _ _ _ _ _ q=>ge_int q
theorem jdw:OpR X (compareOp .Is) (fun x y H Q=>y=.non/\Q (.bl (decide (x=.non))) H):=by
 intro pins s σ H x y v u Q I rx ry h;obtain⟨rfl,q⟩:=h;cases ry;refine is_none_gen (jaK I q ?_);cases x<;>first
  | (cases rx;rfl)
  | (obtain⟨t,rfl⟩:=rx;rfl)
theorem jfN:OpR X (compareOp .IsNot) (fun x y H Q=>y=.non/\Q (.bl (!decide (x=.non))) H):=by
 intro pins s σ H x y v u Q I rx ry h;obtain⟨rfl,q⟩:=h;cases ry;refine isnot_none_gen (jaK I q ?_);cases x<;>first
  | (cases rx;rfl)
  | (obtain⟨t,rfl⟩:=rx;rfl)
theorem OpR.or {f:Value->Value->Sem Value} {r r':R2} (h:OpR X f r) (h':OpR X f r'):OpR X f (fun x y H Q=>r x y H Q\/r' x y H Q):=by
 intro pins s σ H x y v u Q I rx ry q;rcases q with q | q
 ·exact h pins s σ H x y v u Q I rx ry q
 ·exact h' pins s σ H x y v u Q I rx ry q
theorem jay (b:Expr) {op:CmpOp} (h:op≠.In:=by decide) (h2:op≠.NotIn:=by decide):behindInMarks op b=false:=by
 have e1:(op==CmpOp.In)=false:=by cases op<;>first | rfl | exact absurd rfl h
 have e2:(op==CmpOp.NotIn)=false:=by cases op<;>first | rfl | exact absurd rfl h2
 cases b<;>simp [behindInMarks,e1,e2]
theorem jeH {op:CmpOp} {r:R2} (ho:OpR X (compareOp op) r) (ha:PE X a ta) (hb:PE X b tb) (hm:behindInMarks op b=false):PE X (.Compare a [op] [b] pos) (tOp r ta tb):=by
 intro pins s σ H Q I h;exact wpAny_Compare1 (binT ha hb I h fun v u s2 x y H2 I2 rx ry q=>ho pins s2 σ H2 x y v u Q I2 rx ry q) hm
def jhB (t:TE):TT:=fun σ H Q=>t σ H fun x H'=>∃k,x=.bl k/\Q k H'
theorem jaq {op:CmpOp} {r:R2} (ho:OpR X (compareOp op) r) (ha:PE X a ta) (hb:PE X b tb) (hm:behindInMarks op b=false):PT X (.Compare a [op] [b] pos) (jhB (tOp r ta tb)):=by
 intro pins s σ H Q I h;refine wpAny_isTrue_Compare1 (thn (ha pins s σ H _ I h) fun v s1 ⟨x,H1,I1,r1,q1⟩=>thn (hb pins s1 σ H1 _ I1 q1) fun u s2 ⟨y,H2,I2,r2,q2⟩ =>
  thn (ho pins s2 σ H2 x y v u _ I2 r1 r2 q2) fun c s3 ⟨z,H3,I3,r3,k,e,q3⟩=>?_) hm
 subst e;cases r3;exact wpAny_truthy_bool ⟨H3,I3,q3⟩
def jj7 (r r':R2) (ta tb tc:TE):TE:=fun σ H Q=>ta σ H fun x H1=>tb σ H1 fun y H2=>r x y H2 fun z H3=>∃k,z=.bl k /\
 (if k=true then tc σ H3 fun w' H4=>r' y w' H4 Q else Q (.bl false) H3)
theorem jf9:(sizeLine:Nat)<2^63:=by rw[sizeLine_eq];decide
theorem jfc {x:V} {us:List Value} (r:Vals [x] us):∃u,us=[u]/\RelV x u:=by
 cases r with
 | cons r1 r2=>cases r2;exact⟨_,rfl,r1⟩
theorem jja {x y:V} {us:List Value} (r:Vals [x,y] us):∃u w',us=[u,w']/\RelV x u/\RelV y w':=by
  cases r with
  | cons r1 r2 =>
    cases r2 with
    | cons r3 r4=>cases r4;exact⟨_,_,rfl,r1,r3⟩
theorem jcI:CallR X (.builtin "abs") (fun xs H Q=>∃i,xs=[.int i]/\Q (.int (if i<0 then -i else i)) H):=by
 intro pins s σ H xs us Q I r h;obtain⟨i,rfl,q⟩:=h;obtain⟨u,rfl,t,rfl⟩:=jfc r;exact call_abs_int fun u tk=>⟨.int (if i<0 then -i else i),H,I.tok _,⟨_,rfl⟩,q⟩
theorem jhC (hc:X.calm=true):CallR X (.builtin "max") (fun xs H Q=>∃i j,xs=[.int i,.int j]/\Q (.int (if j>i then j else i)) H):=by
 intro pins s σ H xs us Q I r h;obtain⟨i,j,rfl,q⟩:=h;obtain⟨u,w',rfl,⟨t,rfl⟩,⟨t',rfl⟩⟩:=jja r;refine max_two_ints (I.ok.hd hc) fun h' tk k=>⟨_,H,I.kept k,?_,q⟩;by_cases hj:j>i
 ·rw[if_pos hj,if_pos hj];exact⟨_,rfl⟩
 ·rw[if_neg hj,if_neg hj];exact⟨_,rfl⟩
theorem jhD (hc:X.calm=true):CallR X (.builtin "min") (fun xs H Q=>∃i j,xs=[.int i,.int j]/\Q (.int (if j<i then j else i)) H):=by
 intro pins s σ H xs us Q I r h;obtain⟨i,j,rfl,q⟩:=h;obtain⟨u,w',rfl,⟨t,rfl⟩,⟨t',rfl⟩⟩:=jja r;refine min_two_ints (I.ok.hd hc) fun h' tk k=>⟨_,H,I.kept k,?_,q⟩;by_cases hj:j<i
 ·rw[if_pos hj,if_pos hj];exact⟨_,rfl⟩
 ·rw[if_neg hj,if_neg hj];exact⟨_,rfl⟩
end
structure ObjM (h:Heap) (x dx C:Addr) (mA:Str->Option Value):Prop where
 obj:h.get? x=some (PySem.W.instObj C dx)
 ns:h.Ns1 dx mA
 ne:dx≠x
theorem jfd {h:Heap} {dx:Addr} {mA:Str->Option Value} (n:h.Ns1 dx mA):∃od,h.get? dx=some od/\∀name,PySem.W.lookIn name od=some (mA name):=by
 obtain⟨o,es,ep,ho,hd,hk,_,hm⟩:=n;refine⟨o,ho,fun name=>?_⟩;have e:=hm name;unfold nsFind findBy at e;rw[<- Array.find?_toList] at e;unfold PySem.W.lookIn;rw[hd];dsimp only;split
 ·rename_i y q
  rw[q] at e;exact congrArg some e
 ·rename_i q
  rw[q] at e;have a:es.toList.any (·.refKey)=false:=by
   rw[List.any_eq_false];intro y hy;obtain⟨z,t,hkey⟩:=hk y (Array.mem_toList_iff.mp hy);simp [DictEntry.refKey,hkey]
  have a':¬es.toList.any (·.refKey)=true:=by rw[a];exact xai
  rw[if_neg a'];exact congrArg some e
theorem ObjM.look {h:Heap} {x dx C:Addr} {mA:Str->Option Value} (I:ObjM h x dx C mA):∃od,PySem.W.InstAt h x (PySem.W.instObj C dx) C (some od)/\∀name,PySem.W.lookIn name od=some (mA name) :=
 let ⟨od,ho,hl⟩:=jfd I.ns
 ⟨od,⟨I.obj,rfl,rfl,ho⟩,hl⟩
theorem RelO.some_of {v:V} {o:Option Value} (r:RelO (some v) o):∃u,o=some u/\RelV v u:=by
 cases o with
 | none=>exact (show False from r).elim
 | some u=>exact⟨u,rfl,r⟩
theorem jhE {v:V} {u:Value} (r:RelV v u):PySem.W.handedIn u=true:=by
 cases v with
 | non=>cases (show u=Value.none from r);rfl
 | bl b=>cases (show u=Value.bool b from r);rfl
 | int i=>obtain⟨t,e⟩:=(show ∃t,u=Value.int i t from r);cases e;rfl
 | str x=>obtain⟨t,e⟩:=(show ∃t,u=Value.str x t from r);cases e;rfl
 | byt b=>obtain⟨t,e⟩:=(show ∃t,u=Value.bytes b t from r);cases e;rfl
 | flt b=>obtain⟨t,e⟩:=(show ∃t,u=Value.float b t from r);cases e;rfl
 | ref a=>cases (show u=Value.ref a from r);rfl
 | ty n=>cases (show u=Value.type n from r);rfl
section
variable {P:Program} {w:World} {H H':Hp} {h h':Heap} {a C dx:Addr} {fs fs':List (Str × V)}
theorem jkV (hok:HOk P w H h) (e:H a=some (.ins C dx fs)):∃mA,ObjM h a dx C mA/\(∀f,RelO (fs.lookup f) (mA f))/\PySem.Within mA (fs.map (·.1))/\fs.length<=1000/\H dx=some (.own a):=by
 obtain⟨d,z,ne,ob,mA,n,r,q⟩:=(show ObjOk P w H h a (.ins C dx fs) from hok a _ e);exact⟨mA,⟨ob,n,ne⟩,r,q,z,d⟩
end
structure Cls (K:PySem.W.Frag) (C:Addr):Prop where
 pg:PySem.W.plainGet K C Str.empty=true
 hd:PySem.W.hasDictIn K C=true
 po:PySem.W.plainOver K C=true
 sa:PySem.W.findIn K (.ref C) "__setattr__"=some (some (.builtin "object.__setattr__"))
theorem Cls.get {K:PySem.W.Frag} {C:Addr} (c:Cls K C) (f:Str):PySem.W.plainGet K C f=true:=c.pg
section
variable {X:Cx} {pins:List (Addr × Obj)} {σ:St} {H:Hp} {s:Shared} {a C dx:Addr} {fs:List (Str × V)} {f:Str} {v:V} {A:Around} {E:Value->Shared->Prop}
theorem Inv.made (I:Inv X pins σ H s):Inv X pins σ (upd (upd H s.heap.objs.size (.own (s.heap.objs.size+1))) (s.heap.objs.size+1) (.ins C s.heap.objs.size []))
  { s with heap:=(s.heap.push PySem.W.emptyDict).push (PySem.W.instObj C s.heap.objs.size) }:=by
 have e1:(s.heap.push PySem.W.emptyDict).get? s.heap.objs.size=some PySem.W.emptyDict:=Heap.get?_push_size s.heap rfl;have e2:((s.heap.push PySem.W.emptyDict).push (PySem.W.instObj C s.heap.objs.size)).get? (s.heap.objs.size+1)=some (PySem.W.instObj C s.heap.objs.size):=by
  have:=Heap.get?_push_size (s.heap.push PySem.W.emptyDict) (o:=PySem.W.instObj C s.heap.objs.size) rfl
  rwa [Heap.size_push] at this
 have e3:(s.heap.push PySem.W.emptyDict).Ns s.heap.objs.size (fun _=>none):=⟨PySem.W.emptyDict,#[],_,e1,rfl,(fun e he=>absurd he (by simp)),fun _=>rfl⟩;have I1:=I.laid (a:=s.heap.objs.size) (o:=.own (s.heap.objs.size+1)) (h':=s.heap.push PySem.W.emptyDict) (t':=s.toks) (fun b u q=>Heap.get?_push_of_some _ q) (xad _) ⟨_,e1⟩;refine I1.laid (a:=s.heap.objs.size+1) (o:=.ins C s.heap.objs.size []) (t':=s.toks) (fun b u q=>Heap.get?_push_of_some _ q) (Nat.le_of_eq (Heap.size_push _ _)) ?_;have ne:s.heap.objs.size≠s.heap.objs.size+1:=xam (Nat.lt_succ_self _);refine⟨by rw[jaA ne,jaf],xar _,ne,e2,fun _=>none,(Heap.Ns1.of_empty e3).at fun o q=>Heap.get?_push_of_some _ q,fun _=>True.intro,fun y hy=>absurd rfl hy⟩
theorem jkW {prog:Program} {w:World} {env:Env} {e:Expr} {f:Str} {pos:Pos} {s:Shared} {Q:Value->Shared->Prop} (hb:attributeBase e f env (eval e env)=eval e env)
  (h:wpAny (model prog w) A (eval e env) (fun o s₁=>wpAny (model prog w) A (getAttr o f true) Q E s₁) E s):wpAny (model prog w) A (eval (.Attribute e f pos) env) Q E s :=
 Attribute_any_ h (by rw[arm_eval_Attribute,hb])
end
section
variable {X:Cx} {pins:List (Addr × Obj)} {σ:St} {H:Hp} {s:Shared} {A:Around} {E:Value->Shared->Prop} {Q:Value->Shared->Prop} {c:Value} {b:Bool}
inductive TyOf (K:PySem.W.Frag) (H:Hp):V->Value->Prop where
 | non:TyOf K H .non (.type "NoneType")
 | bl (x:Bool):TyOf K H (.bl x) (.type "bool")
 | int (i:Int):TyOf K H (.int i) (.type "int")
 | str (x:Str):TyOf K H (.str x) (.type "str")
 | flt (x:UInt64):TyOf K H (.flt x) (.type "float")
 | lst {a:Addr} {xs:List V} (e:H a=some (.lst xs)):TyOf K H (.ref a) (.type "list")
 | frz {a:Addr} {o:Obj} {xs:List V} (e:H a=some (.frz o (.lst xs))):TyOf K H (.ref a) (.type "list")
 | tup {a:Addr} {xs:List V} (e:H a=some (.tup xs)):TyOf K H (.ref a) (.type "tuple")
 | dK {a:Addr} {kvs:List (Key × V)} (e:H a=some (.dK kvs)):TyOf K H (.ref a) (.type "dict")
 | dT {a:Addr} {kvs:List (List Key × V)} (e:H a=some (.dT kvs)):TyOf K H (.ref a) (.type "dict")
 | ins {a C dx:Addr} {fs:List (Str × V)} (e:H a=some (.ins C dx fs)) (cl:Cls K C) (ha:PySem.W.findIn K (.ref C) "__class__"=some (some (.builtin "object.__class__")))
   (hn:PySem.W.specialIn K (.builtin "object.__class__") "__get__"=some (some (.builtin "getset_descriptor.__get__"))) (htk:PySem.W.takesIn K (.builtin "object.__class__")=some true)
   (hm:PySem.W.mroIn K C (.type "object")=some true):TyOf K H (.ref a) (.ref C)
theorem jhF {x:V} {u t:Value} (I:Inv X pins σ H s) (rx:RelV x u) (ty:TyOf X.K H x t) (e:PySem.W.kitOne X.K t c=some b) (h:∀tk,Q (.bool b) { s with toks:=tk }) :
    wpAny (model X.prog X.w) A (call (.builtin "isinstance") [u,c]) Q E s:=by
  cases ty with
  | non=>cases (show u=Value.none from rx);exact PySem.W.kia_one PySem.W.kitx_none I.kIn True.intro e (fun z=>nomatch z) h
  | bl y=>cases (show u=Value.bool y from rx);exact PySem.W.kia_one PySem.W.kitx_bool I.kIn True.intro e (fun z=>nomatch z) h
  | int i=>obtain⟨t,q⟩:=(show ∃t,u=Value.int i t from rx);cases q;exact PySem.W.kia_one PySem.W.kitx_int I.kIn True.intro e (fun z=>nomatch z) h
  | str y=>obtain⟨t,q⟩:=(show ∃t,u=Value.str y t from rx);cases q;exact PySem.W.kia_one PySem.W.kitx_str I.kIn True.intro e (fun z=>nomatch z) h
  | flt y=>obtain⟨t,q⟩:=(show ∃t,u=Value.float y t from rx);cases q;exact PySem.W.kia_one PySem.W.kitx_float I.kIn True.intro e (fun z=>nomatch z) h
  | @lst a xs ea =>
    cases (show u=Value.ref a from rx);obtain⟨_,_,n,_,h1⟩:=(show ObjOk X.prog X.w H s.heap a (.lst xs) from I.hok a _ ea);exact PySem.W.kia_one PySem.W.kitx_list I.kIn ⟨_,h1,rfl⟩ e (fun z=>nomatch z) h
  | @frz a ob xs ea =>
    cases (show u=Value.ref a from rx);obtain⟨_,_,_,n,_,h1⟩:=(show ObjOk X.prog X.w H s.heap a (.frz ob (.lst xs)) from I.hok a _ ea);exact PySem.W.kia_one PySem.W.kitx_list I.kIn ⟨_,h1,rfl⟩ e (fun z=>nomatch z) h
  | @tup a xs ea =>
    cases (show u=Value.ref a from rx);obtain⟨_,_,_,p⟩:=(show ObjOk X.prog X.w H s.heap a (.tup xs) from I.hok a _ ea);obtain⟨o,h1,h2,_⟩:=p;exact PySem.W.kia_one PySem.W.kitx_tuple I.kIn ⟨o,h1,h2⟩ e (fun z=>nomatch z) h
  | @dK a kvs ea =>
    cases (show u=Value.ref a from rx);obtain⟨_,_,vs,_,p⟩:=(show ObjOk X.prog X.w H s.heap a (.dK kvs) from I.hok a _ ea);obtain⟨o,es,ep,h1,h2,_⟩:=p;exact PySem.W.kia_one PySem.W.kitx_dict I.kIn ⟨o,h1,h2.1⟩ e (fun z=>nomatch z) h
  | @dT a kvs ea =>
    cases (show u=Value.ref a from rx);obtain⟨_,_,xs,_,o,es,ep,h1,h2,_⟩:=(show ObjOk X.prog X.w H s.heap a (.dT kvs) from I.hok a _ ea);exact PySem.W.kia_one PySem.W.kitx_dict I.kIn ⟨o,h1,h2.1⟩ e (fun z=>nomatch z) h
  | @ins a C dx fs ea cl ha hn htk hm =>
    cases (show u=Value.ref a from rx);obtain⟨mA,O,_⟩:=jkV I.hok ea;obtain⟨od,J,_⟩:=O.look;exact PySem.W.kia_one (PySem.W.kitx_own (cl.get _) cl.hd ha hn htk hm) I.kIn J e (fun z=>nomatch z) h
end
structure Room (k:Nat) (A:Around):Prop where
 hd:A.handled=none
 dp:A.depth+3*k+5<recursionLimit
 un:A.units+16*k+200<cLine
theorem Room.mono {j k:Nat} {A:Around} (r:Room k A) (h:j<=k):Room j A:=⟨r.hd,by have:=r.dp;omega,by have:=r.un;omega⟩
theorem Room.m {j k:Nat} {A:Around} (r:Room k A) (h:j≤k:=by decide):Room j A:=r.mono h
theorem Room.deeper {k:Nat} {A:Around} (r:Room (k+1) A) (env:Env):Room k (A.deeper env) :=
 ⟨r.hd,by have:=r.dp;show A.depth+1+3*k+5<_;omega,by have:=r.un;show A.units+3+16*k+200<_;omega⟩
theorem Room.in1 {k:Nat} {A:Around} (r:Room (k+1) A):Room k A.in1 :=
 ⟨r.hd,by have:=r.dp;show A.depth+3*k+5<_;omega,by have:=r.un;show A.units+1+16*k+200<_;omega⟩
theorem jgS {A:Around} {C:Addr} {us:List Value} {kw:List (Str × Value)}:(A.under (.builtin "type.__call__" ⟨.ref C::us,kw⟩)).depth=A.depth+1:=by
 first | rfl | simp [Around.under,Code.weight,Code.isCreation,Code.isGuard,Code.isCaller,Code.frames,Code.isFrame,guardIds]
theorem jgT {A:Around} {C:Addr} {us:List Value} {kw:List (Str × Value)}:(A.under (.builtin "type.__call__" ⟨.ref C::us,kw⟩)).units=A.units+1:=by
 first | rfl | simp [Around.under,Code.cUnits,Code.frames,Code.isFrame]
theorem Room.make {k:Nat} {A:Around} (r:Room (k+1) A) (C:Addr) (us:List Value) (kw:List (Str × Value)):Room k (A.under (.builtin "type.__call__" ⟨.ref C::us,kw⟩)) :=
 ⟨r.hd,by have:=r.dp;rw[jgS];omega,by have:=r.un;rw[jgT];omega⟩
theorem Room.depth {k:Nat} {A:Around} (r:Room k A):A.depth<recursionLimit:=by have:=r.dp;omega
theorem Room.units {k:Nat} {A:Around} (r:Room k A):A.units+64<cLine:=by have:=r.un;omega
def jjb:TA:=fun _ H Q=>Q [] H
def jej (ta:TE) (tr:TA):TA:=fun σ H Q=>ta σ H fun x H1=>tr σ H1 fun xs H2=>Q (x::xs) H2
section
variable {X:Cx} {e:Expr} {es:List Expr} {te:TE} {t:TA} {pos:Pos}
theorem jac:PA X [] jjb:=fun _ _ _ _ H Q I h=>Calls.spliced_nil ⟨[],H,I,.nil,h⟩
theorem jaa (ha:PE X e te) (hr:PA X es t) (hs:starEach (e::es) X.env=(false,eval e X.env)::starEach es X.env:=by rfl):PA X (e::es) (jej te t):=by
 intro pos pins s σ H Q I h;rw[hs];show wpAny _ _ (spliced ((false,eval e X.env)::backTo pos (starEach es X.env))) _ _ s;refine Calls.spliced_cons (thn (ha pins s σ H _ I h) fun u s1 ⟨x,H1,I1,r1,q1⟩=>?_);exact thn (hr pos pins s1 σ H1 _ I1 q1) fun us s2 ⟨xs,H2,I2,r2,q2⟩=>⟨x::xs,H2,I2,.cons r1 r2,q2⟩
def jkX (t:TA):TE:=fun σ H Q=>t σ H fun xs H1=>xs.length<=sizeLine/\∀p,H1 p=none->Q (.ref p) (upd H1 p (.tup xs))
def jj8 (t:TA):TE:=fun σ H Q=>t σ H fun xs H1=>xs.length<=sizeLine/\∀p,H1 p=none->Q (.ref p) (upd H1 p (.lst xs))
theorem jaH {x1} (h:PA X es t):PE X (.Tuple es x1 pos) (jkX t):=by
 intro pins s σ H Q I hq;refine wpAny_Tuple_spliced (thn (h pos pins s σ H _ I hq) fun us s1 ⟨xs,H1,I1,r,z,q⟩=>⟨by rw[<- r.length];exact z,?_⟩);have hf:H1 s1.heap.objs.size=none:=I1.hok.fresh (xad _);refine⟨.ref s1.heap.objs.size,upd H1 s1.heap.objs.size (.tup xs),I1.laid (t':=s1.toks) (fun b u e=>Heap.get?_push_of_some _ e) (xad _) ?_,rfl,q _ hf⟩;exact⟨z,us,r,⟨_,Heap.get?_push_size _ rfl,rfl,_,rfl⟩⟩
theorem jaZ (h:PA X es t):PE X (.List es pos) (jj8 t):=by
 intro pins s σ H Q I hq;refine wpAny_List_spliced (thn (h pos pins s σ H _ I hq) fun us s1 ⟨xs,H1,I1,r,z,q⟩=>⟨by rw[<- r.length];exact z,?_⟩);have hf:H1 s1.heap.objs.size=none:=I1.hok.fresh (xad _);refine⟨.ref s1.heap.objs.size,upd H1 s1.heap.objs.size (.lst xs),I1.laid (t':=s1.toks) (fun b u e=>Heap.get?_push_of_some _ e) (xad _) ?_,rfl,q _ hf⟩;exact⟨z,us,0,r,Heap.get?_push_size _ rfl⟩
end
abbrev Sp:=List V->Hp->VK->XK->Prop
abbrev CXT:=List Env->Hp->Shared->XK->Value->Shared->Prop
structure Env0 (P:Program) (w:World) (K:PySem.W.Frag) (mg:Str->Option Value) (base:Heap) (A:Around) (outer:List Env) (s:Shared) (H:Hp):Prop where
 frames:A.frames=some outer
 mod:Mod K mg base
 bs:∀b o,base.get? b=some o->s.heap.get? b=some o/\H b=none
 bsz:base.objs.size<=s.heap.objs.size
 funs:s.heap.FunFrames base outer
 frf:∀b∈frs outer,H b=none
 hok:HOk P w H s.heap
 bare:AllBare s.gens
def CE (outer:List Env) (P:Program) (w:World) (H:Hp) (s:Shared) (Q:VK) (u:Value) (s':Shared):Prop :=
 ∃v H',s'.os=s.os/\AllBare s'.gens/\Un (frs outer) [] H H' s.heap s'.heap/\HOk P w H' s'.heap/\RelV v u/\Q v H'
def CR (CX:CXT) (outer:List Env) (P:Program) (w:World) (H:Hp) (s:Shared) (Q:VK) (E:XK) (r:Result) (s':Shared):Prop :=
 match r with
 | .ok (.ret u)=>CE outer P w H s Q u s'
 | .ok _=>False
 | .error e=>CX outer H s E e s'
structure FnOk (P:Program) (w:World) (K:PySem.W.Frag) (mg:Str->Option Value) (base:Heap) (CX:CXT) (k:Nat) (f:Addr) (fd:FuncData) (ps:List Str) (sp:Sp):Prop where
 len:∀vs H Q E,sp vs H Q E->vs.length=ps.length
 run:∀(A:Around) (outer:List Env) (s:Shared) (H:Hp) (args:Args) (us:List Value) (vs:List V) (Q:VK) (E:XK),Room k A->Env0 P w K mg base A outer s H->BindsTo s fd args (ps.zip us)->Vals vs us->sp vs H Q E ->
  codeAny (model P w) A (.call (.ref f) args) (CR CX outer P w H s Q E) s
theorem FnOk.mono {P:Program} {w:World} {K:PySem.W.Frag} {mg:Str->Option Value} {base:Heap} {CX:CXT} {j k:Nat} {f:Addr} {fd:FuncData} {ps:List Str} {sp:Sp} (F:FnOk P w K mg base CX j f fd ps sp) (h:j<=k) :
  FnOk P w K mg base CX k f fd ps sp:=⟨F.len,fun A outer s H args us vs Q E hr=>F.run A outer s H args us vs Q E (hr.mono h)⟩
theorem FnOk.imp {P:Program} {w:World} {K:PySem.W.Frag} {mg:Str->Option Value} {base:Heap} {CX:CXT} {k:Nat} {f:Addr} {fd:FuncData} {ps:List Str} {sp sp':Sp} (F:FnOk P w K mg base CX k f fd ps sp)
  (h:∀vs H Q E,sp' vs H Q E->sp vs H Q E):FnOk P w K mg base CX k f fd ps sp' :=
 ⟨fun vs H Q E q=>F.len vs H Q E (h _ _ _ _ q),fun A outer s H args us vs Q E hr he hb hv hs=>F.run A outer s H args us vs Q E hr he hb hv (h _ _ _ _ hs)⟩
theorem Env0.make {P:Program} {w:World} {K:PySem.W.Frag} {mg:Str->Option Value} {base:Heap} {A:Around} {outer:List Env} {s:Shared} {H:Hp} (e:Env0 P w K mg base A outer s H) (C:Addr) (us:List Value) (kw:List (Str × Value)) :
  Env0 P w K mg base (A.under (.builtin "type.__call__" ⟨.ref C::us,kw⟩)) outer s H:=⟨by first | exact e.frames | (simpa [Around.under,Code.envs,Code.isFrame,pushEnvs] using e.frames),e.mod,e.bs,e.bsz,e.funs,e.frf,e.hok,e.bare⟩
theorem Env0.in1 {P:Program} {w:World} {K:PySem.W.Frag} {mg:Str->Option Value} {base:Heap} {A:Around} {outer:List Env} {s:Shared} {H:Hp} (e:Env0 P w K mg base A outer s H) :
  Env0 P w K mg base A.in1 outer s H:=⟨e.frames,e.mod,e.bs,e.bsz,e.funs,e.frf,e.hok,e.bare⟩
section
variable {X:Cx} {pins:List (Addr × Obj)} {σ:St} {H:Hp} {s s':Shared}
theorem Inv.env0 (I:Inv X pins σ H s):Env0 X.prog X.w X.K X.mg X.base X.A X.stack s H :=
 ⟨I.ok.frames,I.ok.mod,I.bs,xav I.ok.bsz I.sz,I.stack,I.stkFree,I.hok,I.bare⟩
theorem Inv.after {Q:VK} {u:Value} (I:Inv X pins σ H s) (h:CE X.stack X.prog X.w H s Q u s'):EP X pins σ Q u s':=by
 obtain⟨v,H',os,bare,un,hok,r,q⟩:=h;obtain⟨hh,g,d,t,os'⟩:=s';obtain rfl:os'=s.os:=os;exact⟨v,H',I.call (h':=hh) (g':=g) (d':=d) (t':=t) (ch:=[]) un hok bare (fun b z=>absurd z (by simp)),r,q⟩
end
def jgU (sp:Sp) (dvs:List V) (E:XK) (t:TA):TE:=fun σ H Q=>t σ H fun vs H1=>sp (vs++dvs) H1 Q E
def Binds (K:PySem.W.Frag) (fd:FuncData) (ps:List Str) (ds:List Value):Prop :=
 ∀(s:Shared) (us:List Value),K.In s.heap->(us++ds).length=ps.length->BindsTo s fd ⟨us,[]⟩ (ps.zip (us++ds))
theorem Binds.all {K:PySem.W.Frag} {fd:FuncData} {ps:List Str} (h:∀us:List Value,us.length=ps.length->bindArgs fd ⟨us,[]⟩=pure (ps.zip us)):Binds K fd ps []:=fun s us _ hl=>by
 rw[xbB] at hl |-
 exact .of_eq (h us hl)
def jfe (CX:CXT) (X:Cx) (E:XK):Prop:=∀(pins:List (Addr × Obj)) (σ:St) (H:Hp) (s:Shared) (e:Value) (s':Shared),Inv X pins σ H s->CX X.stack H s E e s'->X.xe e s'
section
variable {X:Cx} {CX:CXT} {k:Nat} {f C:Addr} {fd:FuncData} {ps:List Str} {sp:Sp} {dvs:List V} {ds:List Value} {E:XK} {x m:Str} {p pos apos:Pos} {e o:Expr} {es:List Expr} {ta:TE} {t:TA}
theorem jmu {pins:List (Addr × Obj)} {σ:St} {H:Hp} {s:Shared} {Q:VK} {us:List Value} {vs:List V} (F:FnOk X.prog X.w X.K X.mg X.base CX k f fd ps sp) (hr:Room k X.A) (hb:Binds X.K fd ps ds) (hd:Vals dvs ds) (hx:jfe CX X E)
    (I:Inv X pins σ H s) (r:Vals vs us) (h:sp (vs++dvs) H Q E):wpAny (model X.prog X.w) X.A (call (.ref f) us) (EP X pins σ Q) X.xe s:=by
  have r2:Vals (vs++dvs) (us++ds):=r.append hd;have hl:(us++ds).length=ps.length:=by rw[<- r2.length];exact F.len _ _ _ _ h
  refine wpAny_call (codeAny_mono (F.run X.A X.stack s H ⟨us,[]⟩ (us++ds) (vs++dvs) Q E hr I.env0 (hb s us I.kIn hl) r2 h) fun r s' hq=>?_);cases r with
  | error e=>exact hx pins σ H s e s' I hq
  | ok fl =>
    cases fl with
    | ret u=>exact I.after hq
    | next=>exact False.elim hq
    | brk=>exact False.elim hq
    | cont=>exact False.elim hq
theorem jkY (F:FnOk X.prog X.w X.K X.mg X.base CX k f fd ps sp) (hr:Room k X.A) (hg:Gl X x) (hm:X.mg x=some (.ref f)) (hk:PySem.W.keepIn X.K (.ref f)=true) (hb:Binds X.K fd ps ds) (hd:Vals dvs ds) (hx:jfe CX X E)
  (ha:PA X (e::es) t) (hdb:(x==("__debug__":Str))=false:=by decide) (he:starEach (e::es) X.env=(false,eval e X.env)::starEach es X.env:=by rfl) (hpl:(backTo pos (starEach es X.env)).any (·.1)=false:=by rfl) :
  PE X (.Call (.Name x p) (e::es) [] pos) (jgU sp dvs E t):=by
 intro pins s σ H Q I h;refine wpAny_Call_Name_kw (jdK I hg hm ?_ hdb);refine PySem.W.callWith_K (h₀:=X.base) I.ok.mod.kin hk (thn (ha pos pins s σ H _ I h) fun us s1 ⟨vs,H1,I1,r,q⟩=>⟨I1.kIn,?_⟩) he hpl;exact jmu F hr hb hd hx I1 r q
structure Mk (K:PySem.W.Frag) (C f:Addr):Prop where
 makes:PySem.W.makesIn K C=true
 init:PySem.W.findIn K (.ref C) "__init__"=some (some (.ref f))
 fn:PySem.W.isFn K (.ref f)=true
 kp:PySem.W.keepIn K (.ref C)=true
end
section
variable {X:Cx} {CX:CXT} {k:Nat} {f C:Addr} {fd:FuncData} {ps ks:List Str} {sp:Sp} {E:XK} {x m:Str} {p pos apos kpos:Pos} {e o:Expr} {es:List Expr} {kws:List Keyword} {te ta:TE} {t tk:TA} {nm:Option Str}
structure KBinds (K:PySem.W.Frag) (fd:FuncData) (ps ks:List Str) (g:List Value->List Value->List Value) (gV:List V->List V->List V):Prop where
 to:∀(s:Shared) (us ws:List Value),K.In s.heap->(g us ws).length=ps.length->BindsTo s fd ⟨us,ks.zip ws⟩ (ps.zip (g us ws))
 rel:∀{vs:List V} {us:List Value} {zs:List V} {ws:List Value},Vals vs us->Vals zs ws->Vals (gV vs zs) (g us ws)
variable {g:List Value->List Value->List Value} {gV:List V->List V->List V}
end
structure FnScope (N P:List Str) (sc:Scope):Prop where
 kind:sc.kind=.function
 co:sc.isCoroutine=false
 gen:sc.isGenerator=false
 nd:N.Nodup
 pre:N.take P.length=P
 par:∀x∈P,sc.names.lookup x=some .local\/sc.names.lookup x=some .cell
 nofree:∀y∈sc.names,y.2≠.free
theorem jff {kindOf:Str->Option NameKind} {x:Str}:∀{binds:List (Str × Value)} {m:Str->Option Value},(∀v,(x,v)∉binds)->bindL kindOf binds m x=m x
  | [],_,_=>rfl
  | (n, v) :: r, m, h => by
    unfold bindL;rw[jff fun w hw=>h w (xan _ hw)];split
    . have:x≠n:=by rintro rfl; exact h v xaP
      simp [this]
    . rfl
theorem jfg {kindOf:Str->Option NameKind} {x:Str}:∀{binds:List (Str × Value)} {m:Str->Option Value},(∀v,(x,v)∉binds)->bindC kindOf binds m x=m x
  | [],_,_=>rfl
  | (n, v) :: r, m, h => by
    unfold bindC;rw[jfg fun w hw=>h w (xan _ hw)];split
    . rfl
    . have:x≠n:=by rintro rfl; exact h v xaP
      simp [this]
theorem jfh {kindOf:Str->Option NameKind} {x:Str} {v:Value}:∀{P:List Str} {vs:List Value} {i:Nat} {m:Str->Option Value},P.Nodup->P[i]?=some x->vs[i]?=some v->kindOf x=some .local ->
    bindL kindOf (P.zip vs) m x=some v
  | [],_,_,_,_,h,_,_=>by simp at h
  | _::_,[],_,_,_,_,h,_=>by simp at h
  | p :: P, w :: vs, 0, m, nd, h1, h2, hk => by
    simp at h1 h2;subst h1;subst h2;show bindL kindOf ((p,w)::P.zip vs) m p=_;unfold bindL;rw[jff fun v hv=>(xbU.mp nd).1 (List.of_mem_zip hv).1,if_pos hk];simp
  | p :: P, w :: vs, i + 1, m, nd, h1, h2, hk => by
    show bindL kindOf ((p,w)::P.zip vs) m x=_;unfold bindL;exact jfh (i:=i) (xbU.mp nd).2 (by simpa using h1) (by simpa using h2) hk
theorem jfi {kindOf:Str->Option NameKind} {x:Str} {v:Value}:∀{P:List Str} {vs:List Value} {i:Nat} {m:Str->Option Value},P.Nodup->P[i]?=some x->vs[i]?=some v->kindOf x≠some .local ->
    bindC kindOf (P.zip vs) m x=some v
  | [],_,_,_,_,h,_,_=>by simp at h
  | _::_,[],_,_,_,_,h,_=>by simp at h
  | p :: P, w :: vs, 0, m, nd, h1, h2, hk => by
    simp at h1 h2;subst h1;subst h2;show bindC kindOf ((p,w)::P.zip vs) m p=_;unfold bindC;rw[jfg fun v hv=>(xbU.mp nd).1 (List.of_mem_zip hv).1,if_neg hk];simp
  | p :: P, w :: vs, i + 1, m, nd, h1, h2, hk => by
    show bindC kindOf ((p,w)::P.zip vs) m x=_;unfold bindC;exact jfi (i:=i) (xbU.mp nd).2 (by simpa using h1) (by simpa using h2) hk
def jck (N:List Str) (vs:List V):St:=vs.map some++List.replicate (N.length-vs.length) none
def jga (CX:CXT) (P:Program) (w:World) (K:PySem.W.Frag) (mg:Str->Option Value) (base:Heap) (N:List Str) (qual:Str) (scope:Scope) (f:Addr) (cd:Value) (A:Around) (outer:List Env) (s:Shared) (H:Hp) (E:XK):Cx where
 prog:=P
 w:=w
 K:=K
 mg:=mg
 base:=base
 A:=A.deeper (envOfC qual scope s.heap.objs.size f cd)
 N:=N
 s₀:=s
 H₀:=H
 env:=envOfC qual scope s.heap.objs.size f cd
 outer:=outer
 stack:=envOfC qual scope s.heap.objs.size f cd::outer
 ex:=[]
 calm:=true
 fn:=fun _=>true
 pn:=[]
 xe:=fun e s'=>wpAny (model P w) (A.deeper (envOfC qual scope s.heap.objs.size f cd)) (leaving (envOfC qual scope s.heap.objs.size f cd) e) (fun _ s''=>CX outer H s E e s'') (fun e' s''=>CX outer H s E e' s'') s'
theorem jgb {sc:Scope} {n:Nat} {x:Str} (h:sc.names.lookup x=some .cell):∃c,(cellsFrom n sc.names []).lookup x=some c:=by
 have q:=PySem.W.cellsFrom_some sc.names n [] (.inl h);exact xbx.mp q
theorem jhG {CX:CXT} {P:Program} {w:World} {K:PySem.W.Frag} {mg:Str->Option Value} {base:Heap} {N ps:List Str} {qual:Str} {scope:Scope} {f:Addr} {cd:Value} {A:Around} {outer:List Env} {s s1:Shared} {H:Hp} {E:XK} {us:List Value} {vs:List V}
  (S:FnScope N ps scope) (hd:A.handled=none) (e0:Env0 P w K mg base A outer s H) (hl:vs.length=ps.length) (r:Vals vs us)
  (x:InCallC s s.heap.objs.size (bindL (envOfC qual scope s.heap.objs.size f cd).kindOf (ps.zip us) fun _=>none) (cellsFrom (s.heap.objs.size+1) scope.names []) (bindC (envOfC qual scope s.heap.objs.size f cd).kindOf (ps.zip us) fun _=>none) s1) :
  Inv (jga CX P w K mg base N qual scope f cd A outer s H E) [] (jck N vs) H s1:=by
 have hpl:ps.length<=N.length:=by have:=congrArg List.length S.pre;rw[xay] at this;omega
 obtain⟨h1,tk,rfl,hk⟩:=x.done;have noA:∀b:Addr,b∉(jga CX P w K mg base N qual scope f cd A outer s H E).ex:=fun b z=>absurd (show b∈([]:List Addr) from z) (by simp);refine⟨⟨e0.mod,S.kind,rfl,rfl,xad _,fun y z c h1 h2=>?_,fun y hy=>?_,fun y c _ h=>?_,fun _=>hd,Around.frames_deeper e0.frames,.inr ⟨rfl,rfl⟩,fun b z=>absurd z (noA b),e0.bs,e0.bsz,fun b _ _=>noA b,fun b z=>absurd z (noA b),e0.funs,e0.frf⟩,
  rfl,e0.bare,Un.kept hk,⟨_,x.toInCall.ns,fun i y v h1 h2 h3=>?_⟩,fun y c h=>⟨_,x.cell y c h⟩,e0.hok.fresh (xad _),fun y c h=>?_,fun p hp=>absurd (show p∈([]:List (Addr × Obj)) from hp) (by simp),e0.hok.kept hk,?_⟩
 ·exact name_of_addr x.apart (PySem.mem_of_lookup h1) (PySem.mem_of_lookup h2)
 ·have hy:scope.names.lookup y=some .cell\/scope.names.lookup y=some .free:=hy;rcases hy with hy | hy
  ·exact jgb hy
  ·exact absurd rfl (S.nofree _ (PySem.mem_of_lookup hy))
 ·exact xaO (x.above y c (PySem.mem_of_lookup h))
 ·have hi:i<vs.length:=by
   unfold jck at h2;by_cases hi:i<vs.length
   ·exact hi
   ·rw[xaE (by simpa using hi)] at h2;rw[List.getElem?_replicate] at h2;split at h2<;>cases h2
  have ha:vs[i]?=some v:=by
   unfold jck at h2;rw[xaX (by simpa using hi),xag] at h2;cases e:vs[i]? with
   | none=>rw[e] at h2;cases h2
   | some a=>rw[e] at h2;cases h2;rfl
  obtain⟨u,hu,rv⟩:=r.get ha;have hp:ps[i]?=some y:=by
   rw[<- S.pre,List.getElem?_take_of_lt (by omega)];exact h1
  have ndP:ps.Nodup:=by rw[<- S.pre];exact S.nd.sublist (List.take_sublist _ _)
  refine⟨u,rv,?_⟩;rcases S.par y (xaw hp) with k | k
  ·exact .inl ⟨k,jfh ndP hp hu k⟩
  ·obtain⟨c,e⟩:=jgb (n:=s.heap.objs.size+1) k;refine .inr ⟨.inl k,c,e,?_⟩;have q:=x.cell y c e;rw[jfi ndP hp hu (by show scope.names.lookup y≠_;rw[k];decide)] at q;exact q
 ·exact e0.hok.fresh (xaO (x.above y c (PySem.mem_of_lookup h)))
 ·unfold jck;show _=N.length;rw[xae,xaa,xaZ];omega
theorem jmv {CX:CXT} {P:Program} {w:World} {K:PySem.W.Frag} {mg:Str->Option Value} {base:Heap} {k:Nat} {f:Addr} {name qual:Str} {params:Arguments} {body:List Stmt} {scope:Scope} {dV kV doc pm cdv ct oc:Value} {an od:Option Addr}
    {osl:Array (Option Value)} {N ps:List Str} {sp:Sp} (lk:K.lookup f=some ⟨oc,od,.func (PySem.W.fnOf name qual params body scope dV kV doc pm an cdv ct),osl⟩) (hcd:PySem.W.codeIn K cdv qual=true) (S:FnScope N ps scope)
    (len:∀vs H Q E,sp vs H Q E->vs.length=ps.length)
    (hbody:∀(A:Around) (outer:List Env) (s:Shared) (H:Hp) (vs:List V) (Q:VK) (E:XK),Room k (A.deeper (envOfC qual scope s.heap.objs.size f cdv))->sp vs H Q E ->
      ∃t,PSs (jga CX P w K mg base N qual scope f cdv A outer s H E) body t/\t { nx:=fun _ H'=>Q .non H',rt:=Q } (jck N vs) H) :
    FnOk P w K mg base CX (k+1) f (PySem.W.fnOf name qual params body scope dV kV doc pm an cdv ct) ps sp:=by
  refine⟨len,fun A outer s H args us vs Q E hr e0 hb r hsp=>?_⟩;have hl:=len _ _ _ _ hsp;have KX:K.In s.heap:=e0.mod.kin.keeps fun b o e=>(e0.bs b o e).1;have lim:s.heap.NoLimit:=e0.mod.nolimit.keeps fun b o e=>(e0.bs b o e).1;have hkind:∀y∈ps.zip us,scope.names.lookup y.1=some .local\/(scope.names.lookup y.1=some .cell/\((cellsFrom (s.heap.objs.size+1) scope.names []).lookup y.1).isSome=true):=fun ⟨n,v⟩ hy=>by
    rcases S.par n (List.of_mem_zip hy).1 with q | q
    . exact .inl q
    . exact .inr ⟨q,PySem.W.cellsFrom_some _ _ _ (.inl q)⟩
  refine codeAny_call_function hr.depth (KX _ _ lk) rfl S.co S.gen rfl (PySem.W.codeRec_of KX hcd) (hb _ _ _ _ ?_);refine wpAny_newFunctionEnv_cells S.kind hkind fun env he s1 x=>?_;subst he;refine⟨lim.keeps x.toInCall.keep,codeAny_func ?_⟩;obtain⟨t,ht,hq⟩:=hbody A outer s H vs Q E (hr.deeper _) hsp;have I:Inv (jga CX P w K mg base N qual scope f cdv A outer s H E) [] (jck N vs) H s1:=jhG S hr.hd e0 hl r x;refine wpAny_mono (ht [] s1 (jck N vs) H _ I hq) (fun fl s' hs=>?_) fun e s' hs=>hs;have fin:∀{σ':St} {H':Hp} {v:V} {u:Value},Inv (jga CX P w K mg base N qual scope f cdv A outer s H E) [] σ' H' s'->RelV v u->Q v H'->CE outer P w H s Q u s' :=
    fun {σ' H' v u} J rv q=>⟨v,H',J.os,J.bare,J.base,J.hok,rv,q⟩
  cases fl with
  | ret u =>
    obtain⟨v,σ',H',J,rv,q⟩:=hs;exact fin J rv q
  | next =>
    obtain⟨σ',H',J,q⟩:=hs;exact fin (v:=V.non) (u:=Value.none) J rfl q
  | brk =>
    obtain⟨_,_,_,q⟩:=hs;exact False.elim q
  | cont =>
    obtain⟨_,_,_,q⟩:=hs;exact False.elim q
section
variable {X:Cx} {x:Str} {p pos:Pos} {e:Expr} {es:List Expr} {t:TA} {id T:String} {r:List V->Hp->VK->Prop}
def tCB (r:List V->Hp->VK->Prop) (t:TA):TE:=fun σ H Q=>t σ H fun vs H1=>r vs H1 Q
theorem jaB (hc:CallR X (.builtin id) r) (hg:Gl X x) (hm:X.mg x=none) (hv:bootBuiltins x=some (.builtin id)) (ha:PA X (e::es) t) (hn:x≠"__name__":=by decide) (hdb:(x==("__debug__":Str))=false:=by decide)
  (he:starEach (e::es) X.env=(false,eval e X.env)::starEach es X.env:=by rfl) (hpl:(backTo pos (starEach es X.env)).any (·.1)=false:=by rfl):PE X (.Call (.Name x p) (e::es) [] pos) (tCB r t):=by
 intro pins s σ H Q I h;refine wpAny_Call_Name_kw (jdv I hg hm hv ?_ hn hdb);exact PyProof.Rows.callWith_builtin1 (thn (ha pos pins s σ H _ I h) fun us s1 ⟨vs,H1,I1,r1,q1⟩=>hc pins s1 σ H1 vs us Q I1 r1 q1) he hpl
theorem jaJ (hc:CallR X (.type T) r) (hg:Gl X x) (hm:X.mg x=none) (hv:bootBuiltins x=some (.type T)) (ha:PA X (e::es) t) (hn:x≠"__name__":=by decide) (hdb:(x==("__debug__":Str))=false:=by decide)
  (he:starEach (e::es) X.env=(false,eval e X.env)::starEach es X.env:=by rfl) (hpl:(backTo pos (starEach es X.env)).any (·.1)=false:=by rfl):PE X (.Call (.Name x p) (e::es) [] pos) (tCB r t):=by
 intro pins s σ H Q I h;refine wpAny_Call_Name_kw (jdv I hg hm hv ?_ hn hdb);exact PyProof.Rows.callWith_type1 (thn (ha pos pins s σ H _ I h) fun us s1 ⟨vs,H1,I1,r1,q1⟩=>hc pins s1 σ H1 vs us Q I1 r1 q1) he hpl
end
end L2
namespace HT
open PySem PyProof.Rows
section
open PySem.SeqAt
open PySem.AutoSeq1 (wpAny_loadPart')
open PySem.MeetsSeq PySem.MeetsSeq2 PySem.MeetsSeq3
end
section
variable {prog:Program} {w:World} {A:Around} {E:Value->Shared->Prop} {s:Shared}
theorem cat_tup {t b:Addr} {vs ws:List Value} {Q:Value->Shared->Prop} (ht:IsTup s.heap t vs.toArray) (hb:IsTup s.heap b ws.toArray) (hv:vs≠[])
  (h1:ws=[]->Q (.ref t) s) (h2:ws≠[]->Q (.ref s.heap.objs.size) { s with heap:=s.heap.push { cls:=.type "tuple",data:=.seq (vs++ws).toArray } })
  (hsz:vs.length+ws.length<=sizeLine):wpAny (model prog w) A (binaryOp .Add (.ref t) (.ref b)) Q E s:=by
 obtain⟨⟨cls,dd,data,sl⟩,ho,hc,n,hd⟩:=id ht;obtain⟨⟨cls2,dd2,data2,sl2⟩,ho2,hc2,n2,hd2⟩:=id hb;simp only at hc hd hc2 hd2;subst hc hd hc2 hd2;have e:vs.toArray++ws.toArray=(vs++ws).toArray:=by simp
 by_cases hw:ws=[]
 ·exact concat_meets ⟨_,ho,rfl⟩ ⟨_,ho2,rfl⟩ noFill_tuple_add seq_tuple_add PySem.F.slot_tuple_add PySem.F.entry_tuple_add (PySem.F.args_tuple_add_2 _ _)
   (tuple_addW1 t b vs.toArray ws.toArray n n2 dd dd2 sl sl2 (by simpa using hv) (by simp [hw])) ⟨ho,ho2,h1 hw⟩
 ·refine concat_meets ⟨_,ho,rfl⟩ ⟨_,ho2,rfl⟩ noFill_tuple_add seq_tuple_add PySem.F.slot_tuple_add PySem.F.entry_tuple_add (PySem.F.args_tuple_add_2 _ _)
   (tuple_addW2 t b vs.toArray ws.toArray n n2 dd dd2 sl sl2 (by simpa using hv) (by simpa using hw) (by rw[xaf,xaf];exact hsz)) ⟨ho,ho2,?_⟩
  rw[e];exact h2 hw
def sIx (n d:Nat):Option Int->Nat
 | none=>d
 | some v=>if v<0 then (v+(n:Int)).toNat else min v.toNat n
theorem sIx_none (n d:Nat):sIx n d none=d:=rfl
theorem sIx_nat (n d k:Nat):sIx n d (some (k:Int))=min k n:=by
 show (if (k:Int)<0 then ((k:Int)+(n:Int)).toNat else min (k:Int).toNat n)=min k n;rw[if_neg (by omega),Int.toNat_natCast]
theorem jj9 (n d:Nat) (hd:d<=n) (o:Option Int):sIx n d o<=n:=by
  cases o with
  | none=>exact hd
  | some v =>
    show (if v<0 then (v+(n:Int)).toNat else min v.toNat n)<=n;by_cases hv:v<0
    . rw[if_pos hv];omega
    . rw[if_neg hv];exact Nat.min_le_right _ _
theorem jhH (v:Int) (n d:Nat):(if v<0 then max (v+(n:Int)) 0 else min v (n:Int))=((sIx n d (some v):Nat):Int):=by
 show (if v<0 then max (v+(n:Int)) 0 else min v (n:Int))=(((if v<0 then (v+(n:Int)).toNat else min v.toNat n):Nat):Int);by_cases hv:v<0
 ·simp only[if_pos hv];omega
 ·simp only[if_neg hv];omega
theorem jgV (lo hi:Option Int) (n:Nat):Builtin.Slice.sliceAdjust lo hi 1 (n:Int)=(((sIx n 0 lo:Nat):Int),((sIx n n hi:Nat):Int)):=by
 have h1:¬((1:Int)<0):=by omega
 unfold Builtin.Slice.sliceAdjust;simp only[h1,if_false];refine Prod.ext ?_ ?_
 ·cases lo with
  | none=>rfl
  | some v=>exact jhH v n 0
 ·cases hi with
  | none=>rfl
  | some v=>exact jhH v n n
theorem jgW (i j:Nat):Builtin.Slice.slicePlaces (i:Int) (j:Int) 1=j-i:=by
 unfold Builtin.Slice.slicePlaces;have h1:(1:Int)>0:=by omega
 simp only[h1,if_true,Int.ediv_one];split<;>omega
theorem jep {v:Value} {o:Option Int} {Q:Option Int->Shared->Prop} (p:IsPart v o) (h:Q o s):wpAny (model prog w) A (Builtin.Slice.slicePartIndex v) Q E s:=by
 cases p with
 | none=>exact slicePart_none h
 | int i t=>exact slicePart_int h
theorem jb9 {sl:Addr} {vl vu:Value} {lo hi:Option Int} {n:Nat} {Q:Int × Int × Nat->Shared->Prop} (hs:s.heap.IsSliceOf sl vl vu .none) (pl:IsPart vl lo) (pu:IsPart vu hi)
  (h:Q (((sIx n 0 lo:Nat):Int),1,sIx n n hi-sIx n 0 lo) s):wpAny (model prog w) A (Builtin.Slice.sliceApplied (.ref sl) (pure (n:Int))) Q E s:=by
 obtain⟨os,hos,hcs,hds⟩:=id hs;unfold Builtin.Slice.sliceApplied Builtin.Slice.sliceFields;refine wpAny_bind (wpAny_bind (wpAny_field hos hds (x:=vl) rfl (wpAny_bind (wpAny_field hos hds (x:=vu) rfl (wpAny_bind (wpAny_field hos hds (x:=.none) rfl (wpAny_pure ?_)))))));refine wpAny_bind (slicePart_none ?_);show wpAny _ _ (if ((1:Int)==0)=true then _ else _) _ _ s;rw[if_neg (by decide)];refine wpAny_bind (jep pl (wpAny_bind (jep pu (wpAny_bind (wpAny_pure ?_)))));show wpAny _ _ (match Builtin.Slice.sliceAdjust lo hi 1 (n:Int) with | (lo,hi)=>pure (lo,(1:Int),Builtin.Slice.slicePlaces lo hi 1)) _ _ s;rw[jgV lo hi n];show wpAny _ _ (pure (((sIx n 0 lo:Nat):Int),(1:Int),Builtin.Slice.slicePlaces ((sIx n 0 lo:Nat):Int) ((sIx n n hi:Nat):Int) 1)) _ _ s;rw[jgW];exact wpAny_pure h
theorem jjc (xs:Array Value) (i k:Nat):((List.range k).filterMap fun (m:Nat)=>xs[((i:Int)+(m:Int)*1).toNat]?).toArray=((xs.toList.drop i).take k).toArray:=by
 have e:(fun (m:Nat)=>xs[((i:Int)+(m:Int)*1).toNat]?)=fun m=>xs[i+m]?:=by
  funext m
  have:((i:Int)+(m:Int)*1).toNat=i+m:=by omega
  rw[this]
 rw[e];have:=pick_run xs i k;rw[List.filterMap_map] at this;have e2:((fun x=>xs[x]?)∘fun x=>i+x)=fun m=>xs[i+m]?:=rfl;rw[e2] at this;rw[this]
theorem getItem_tuple_cut {t sl:Addr} {items:Array Value} {vl vu:Value} {lo hi:Option Int} {Q:Value->Shared->Prop} (ht:IsTup s.heap t items) (hs:s.heap.IsSliceOf sl vl vu .none) (pl:IsPart vl lo) (pu:IsPart vu hi)
  (hw:¬(sIx items.size 0 lo=0/\sIx items.size items.size hi=items.size))
  (h:Q (.ref s.heap.objs.size) { s with heap:=s.heap.push { cls:=.type "tuple",data:=.seq ((items.toList.drop (sIx items.size 0 lo)).take (sIx items.size items.size hi-sIx items.size 0 lo)).toArray } })
  (hsz:items.size<=sizeLine):wpAny (model prog w) A (getItem (.ref t) (.ref sl)) Q E s:=by
 have htake:sizeOk (.seq ((items.toList.drop (sIx items.size 0 lo)).take (sIx items.size items.size hi-sIx items.size 0 lo)).toArray):=by
  show ((items.toList.drop (sIx items.size 0 lo)).take (sIx items.size items.size hi-sIx items.size 0 lo)).toArray.size<=sizeLine;rw[xaf,xay,xaz,Array.length_toList];omega
 have hj:sIx items.size items.size hi<=items.size:=jj9 _ _ (xad _) hi;obtain⟨os,hos,hcs,hds⟩:=id hs;have hTs:s.TypeIs (.ref sl) "slice":=⟨os,hos,hcs⟩;unfold getItem;try with_reducible refine wpAny_holding ?_
 first | refine wpAny_bind (wpAny_pure ?_) | skip
 refine wpAny_bind (wpAny_sequenceKey ht.typeIs (by decide) ?_);refine wpAny_bind (wpAny_callSpecial?_slot (name:=Str.ofString "__getitem__") ht.typeIs PyProof.Rows.slot_tuple_getitem
  (wpAny_call_entry PyProof.Rows.slot_tuple_getitem ht.typeIs entry_tuple_getitem ?_ (args_tuple_getitem _ _)))
 show wpAny _ _ (Builtin.Tuple.tupleItemsOf (.ref t) >>= _) _ _ s;refine wpAny_bind (tupleItemsOf_ ht ?_);refine wpAny_bind (wpAny_typeOf hTs ?_);rw[if_pos (by decide)];refine wpAny_bind (jb9 hs pl pu ?_);have hno:¬((((sIx items.size 0 lo:Nat):Int)==0&&(1:Int)==1&&(sIx items.size items.size hi-sIx items.size 0 lo)==items.size)=true):=by
  intro q;rw[xaM,xaM] at q;have q1:((sIx items.size 0 lo:Nat):Int)=0:=eq_of_beq q.1.1;have q2:sIx items.size items.size hi-sIx items.size 0 lo=items.size:=eq_of_beq q.2;exact hw ⟨by omega,by omega⟩
 show wpAny _ _ (if (((sIx items.size 0 lo:Nat):Int)==0&&(1:Int)==1&&(sIx items.size items.size hi-sIx items.size 0 lo)==items.size)=true then _ else _) _ _ s;rw[if_neg hno,jjc]
 first
  | exact wpAny_bind (m:=Builtin.Tuple.tupleExact _) (wpAny_newObj_type (wpAny_pure ⟨_,rfl,wpAny_pure h⟩) htake)
  | exact wpAny_bind (m:=Builtin.Tuple.tupleExact _) (wpAny_newObj_type (wpAny_bind (wpAny_pure (wpAny_pure ⟨_,rfl,wpAny_pure h⟩))) htake)
  | exact wpAny_bind (wpAny_bind (m:=Builtin.Tuple.tupleExact _) (wpAny_newObj_type (wpAny_pure (wpAny_pure ⟨_,rfl,wpAny_pure h⟩)) htake))
  | exact wpAny_bind (wpAny_bind (m:=Builtin.Tuple.tupleExact _) (wpAny_newObj_type (wpAny_pure ⟨_,rfl,wpAny_pure h⟩) htake))
end
end HT
namespace L2
open PySem PySem.Spec PyProof.Rows
abbrev TO:=St->Hp->(Option Int->Hp->Prop)->Prop
def PO (X:Cx) (e:Option Expr) (t:TO):Prop :=
  ∀ (pins : List (Addr × Obj)) (s : Shared) (σ : St) (H : Hp) (Q : Option Int -> Hp -> Prop), Inv X pins σ H s -> t σ H Q ->
    wpAny (model X.prog X.w) X.A (evalPart e X.env) (fun u s'=>∃o H',Inv X pins σ H' s'/\IsPart u o/\Q o H') X.xe s
def jdP:TO:=fun _ H Q=>Q none H
def jhI (t:TE):TO:=fun σ H Q=>t σ H fun x H1=>∃i,x=.int i/\Q (some i) H1
theorem jgX {ns:List Int}:∀{us:List Value},Vals (ns.map V.int) us->IntsAre us ns:=by
  induction ns with
  | nil=>intro us r;rw[List.map_nil] at r;cases r;exact .nil
  | cons n ns ih =>
    intro us r;rw[xaI] at r;cases r with
    | cons r1 r2 =>
      obtain⟨t,e⟩:=r1;subst e;exact .cons n t (ih r2)
section
variable {X:Cx} {e:Expr} {te:TE} {lo hi:Option Expr} {tl th:TO} {pos p2:Pos}
theorem jcV:PO X none jdP:=by
 intro pins s σ H Q I h;rw[evalPart_none];exact wpAny_pure ⟨none,H,I,.none,h⟩
theorem jbY (h:PE X e te):PO X (some e) (jhI te):=by
 intro pins s σ H Q I hw;rw[evalPart_some];refine thn (h pins s σ H _ I hw) fun u s1 ⟨x,H1,I1,r1,q1⟩=>?_;obtain⟨i,rfl,q⟩:=q1;obtain⟨t,rfl⟩:=r1;exact⟨some i,H1,I1,.int i t,q⟩
def SlR (X:Cx) (r:V->Option Int->Option Int->Hp->VK->Prop):Prop :=
  ∀ (pins : List (Addr × Obj)) (s : Shared) (σ : St) (H : Hp) (x : V) (v vl vu : Value) (lo hi : Option Int) (sl : Addr) (Q : VK), Inv X pins σ H s -> RelV x v -> s.heap.IsSliceOf sl vl vu .none -> IsPart vl lo -> IsPart vu hi -> r x lo hi H Q ->
    ∃T id,typeLookup (.type T) "__getitem__"=pure (some (.builtin id))/\s.TypeIs v T/\wpAny (model X.prog X.w) X.A (getItem v (.ref sl)) (EP X pins σ Q) X.xe s
theorem SlR.or {r r':V->Option Int->Option Int->Hp->VK->Prop} (h:SlR X r) (h':SlR X r'):SlR X (fun x lo hi H Q=>r x lo hi H Q\/r' x lo hi H Q):=by
 intro pins s σ H x v vl vu lo hi sl Q I rx hs pl pu q;rcases q with q | q
 ·exact h pins s σ H x v vl vu lo hi sl Q I rx hs pl pu q
 ·exact h' pins s σ H x v vl vu lo hi sl Q I rx hs pl pu q
def tSl (r:V->Option Int->Option Int->Hp->VK->Prop) (te:TE) (tl th:TO):TE:=fun σ H Q=>te σ H fun x H1=>tl σ H1 fun l H2=>th σ H2 fun u H3=>r x l u H3 Q
theorem jbG {r:V->Option Int->Option Int->Hp->VK->Prop} (hr:SlR X r) (he:PE X e te) (hl:PO X lo tl) (hu:PO X hi th):PE X (.Subscript e (.Slice lo hi none p2) pos) (tSl r te tl th):=by
 intro pins s σ H Q I h;refine Subscript_ (thn (he pins s σ H _ I h) fun v s1 ⟨x,H1,I1,r1,q1⟩=>?_);refine wpAny_Slice (thn (hl pins s1 σ H1 _ I1 q1) fun vl s2 ⟨l,H2,I2,pl,q2⟩=>thn (hu pins s2 σ H2 _ I2 q2) fun vu s3 ⟨u,H3,I3,pu,q3⟩=>?_);rw[evalPart_none];refine wpAny_pure ?_;have I4:Inv X pins σ H3 { s3 with heap:=s3.heap.push { cls:=.type "slice",data:=.fields #[vl,vu,.none] } }:=I3.kept (t':=s3.toks) fun b ob q=>Heap.get?_push_of_some _ q;obtain⟨T,id,hT,ht,hg⟩:=hr pins { s3 with heap:=s3.heap.push { cls:=.type "slice",data:=.fields #[vl,vu,.none] } } σ H3 x v vl vu l u s3.heap.objs.size Q I4 r1 (Heap.IsSliceOf.new ..) pl pu q3;show wpAny (model X.prog X.w) X.A (subscriptTail e (.Slice lo hi none p2) v (.ref s3.heap.objs.size)) (EP X pins σ Q) X.xe { s3 with heap:=s3.heap.push { cls:=.type "slice",data:=.fields #[vl,vu,.none] } };exact tail_any (ops:=[.ref s3.heap.objs.size,v]) ht hT hg (by with_unfolding_all rfl)
def jeq (xs:List V) (lo hi:Option Int):List V:=(xs.drop (HT.sIx xs.length 0 lo)).take (HT.sIx xs.length xs.length hi-HT.sIx xs.length 0 lo)
theorem jdQ (xs:List V) (lo hi:Option Int):(jeq xs lo hi).length<=xs.length:=by
 unfold jeq;rw[xay,xaz];omega
def rSlT (K:PySem.W.Frag):V->Option Int->Option Int->Hp->VK->Prop:=fun x lo hi H Q=>∃a xs,x=.ref a/\SqT K H a xs /\
 ¬(HT.sIx xs.length 0 lo=0/\HT.sIx xs.length xs.length hi=xs.length)/\∀p,H p=none->Q (.ref p) (upd H p (.tup (jeq xs lo hi)))
theorem jka:SlR X (rSlT X.K):=by
 intro pins s σ H x v vl vu lo hi sl Q I rx hs pl pu h;obtain⟨a,xs,rfl,hx,hw,q⟩:=h;cases rx;obtain⟨its,r,ht,hz⟩:=I.tuple hx;have hlen:its.toArray.size=xs.length:=by rw[xaf];exact r.length.symm
 refine⟨"tuple",_,PyProof.Rows.slot_tuple_getitem.lookup,ht.typeIs,?_⟩;refine HT.getItem_tuple_cut ht hs pl pu (by rw[hlen];exact hw) ?_ (by rw[hlen];exact hz);rw[hlen];refine⟨.ref s.heap.objs.size,_,I.laid (t':=s.toks) (o:=.tup (jeq xs lo hi)) (fun b ob q=>Heap.get?_push_of_some _ q) (xad _) ?_,rfl,q _ (I.hok.fresh (xad _))⟩;exact⟨xav (jdQ xs lo hi) hz,_,(r.drop (HT.sIx xs.length 0 lo)).take (HT.sIx xs.length xs.length hi-HT.sIx xs.length 0 lo),IsTup.new _ _⟩
def rCatT (K:PySem.W.Frag):R2:=fun x y H Q=>∃a b xs ys,x=.ref a/\y=.ref b/\SqT K H a xs/\SqT K H b ys/\xs≠[]/\xs.length+ys.length<=sizeLine /\
 (ys=[]->Q (.ref a) H)/\(ys≠[]->∀p,H p=none->Q (.ref p) (upd H p (.tup (xs++ys))))
theorem Vals.nil_iff {xs:List V} {us:List Value} (r:Vals xs us):us=[]↔xs=[]:=by
 cases r with
 | nil=>simp
 | cons _ _=>simp
theorem jhJ:OpR X (binaryOp .Add) (rCatT X.K):=by
 intro pins s σ H x y v u Q I rx ry h;obtain⟨a,b,xs,ys,rfl,rfl,ha,hb,hx,hz,q1,q2⟩:=h;cases rx;cases ry;obtain⟨its,r1,p1,_⟩:=I.tuple ha;obtain⟨its2,r2,p2,_⟩:=I.tuple hb;refine HT.cat_tup p1 p2 (fun z=>hx (r1.nil_iff.mp z)) (fun z=>⟨.ref a,H,I,rfl,q1 (r2.nil_iff.mp z)⟩) (fun z=>?_) (by rw[<- r1.length,<- r2.length];exact hz);refine⟨.ref s.heap.objs.size,_,I.laid (t':=s.toks) (o:=.tup (xs++ys)) (fun b ob q=>Heap.get?_push_of_some _ q) (xad _) ?_,rfl,q2 (fun w=>z (r2.nil_iff.mpr w)) _ (I.hok.fresh (xad _))⟩;exact⟨by rw[xae];exact hz,_,r1.append r2,IsTup.new _ _⟩
end
def ixN (n:Nat) (i:Int):Option Nat:=if 0<=i then (if i<n then some i.toNat else none) else if -(n:Int)<=i then some (i+n).toNat else none
def atI {α:Type} (xs:List α) (i:Int):Option α:=(ixN xs.length i).bind fun j=>xs[j]?
theorem jhK {n:Nat} {i:Int} {j:Nat} (h:ixN n i=some j):seqIndex? i n=some j/\j<n/\-(n:Int)<=i/\i<n:=by
 unfold ixN at h;by_cases h0:0<=i
 ·rw[if_pos h0] at h;by_cases h1:i<n
  ·rw[if_pos h1] at h;have e:i.toNat=j:=Option.some.inj h;exact⟨by rw[seqIndex_of h0 h1,e],by omega,by omega,h1⟩
  ·rw[if_neg h1] at h;cases h
 ·rw[if_neg h0] at h;by_cases h1:-(n:Int)<=i
  ·rw[if_pos h1] at h;have e:(i+n).toNat=j:=Option.some.inj h;exact⟨by rw[seqIndex_neg (by omega) h1,e],by omega,h1,by omega⟩
  ·rw[if_neg h1] at h;cases h
theorem jhL {α:Type} {xs:List α} {i:Int} {v:α} (h:atI xs i=some v):∃j,seqIndex? i xs.length=some j/\xs[j]?=some v/\j<xs.length/\-(xs.length:Int)<=i/\i<xs.length:=by
  unfold atI at h;cases e:ixN xs.length i with
  | none=>rw[e] at h;cases h
  | some j =>
    rw[e] at h;obtain⟨h1,h2,h3,h4⟩:=jhK e;exact⟨j,h1,h,h2,h3,h4⟩
theorem jaI {α:Type} {xs:List α} {j:Nat} {v:α} (h:xs[j]?=some v):atI xs (j:Int)=some v:=by
 have hj:j<xs.length:=(xaj.mp h).1;have e:ixN xs.length (j:Int)=some j:=by
  unfold ixN;rw[if_pos (by omega),if_pos (by omega)];simp
 unfold atI;rw[e];exact h
theorem jjd {α:Type} (xs:List α) (v:α):atI (xs++[v]) (-1)=some v:=by
 have hl:(xs++[v]).length=xs.length+1:=by simp
 have e:ixN (xs++[v]).length (-1)=some xs.length:=by
  unfold ixN;rw[hl,if_neg (by decide),if_pos (by omega)]
  congr 1
  omega
 unfold atI;rw[e];show (xs++[v])[xs.length]?=some v;simp
def jhM (b:Expr):Prop:=∀o i,subscripted b false o i=operate [o,i] (getItem o i)
def IxR (X:Cx) (r:R2):Prop :=
  ∀ (value slice : Expr) (pins : List (Addr × Obj)) (s : Shared) (σ : St) (H : Hp) (x y : V) (v u : Value) (Q : VK), Inv X pins σ H s -> RelV x v -> RelV y u -> r x y H Q ->
    subscripted slice false v u=operate [v,u] (getItem v u)->wpAny (model X.prog X.w) X.A (subscriptTail value slice v u) (EP X pins σ Q) X.xe s
def MtR (X:Cx) (id:String) (r:V->List V->Hp->VK->Prop):Prop :=
  ∀ (pins : List (Addr × Obj)) (s : Shared) (σ : St) (H : Hp) (x : V) (xs : List V) (v : Value) (us : List Value) (Q : VK), Inv X pins σ H s -> RelV x v -> Vals xs us -> r x xs H Q ->
    wpAny (model X.prog X.w) X.A (call (.builtin id) (v::us)) (EP X pins σ Q) X.xe s
section
variable {X:Cx} {a b:Expr} {ta tb:TE} {pos:Pos}
theorem IxR.or {r r':R2} (h:IxR X r) (h':IxR X r'):IxR X (fun x y H Q=>r x y H Q\/r' x y H Q):=by
 intro value slice pins s σ H x y v u Q I rx ry q hs;rcases q with q | q
 ·exact h value slice pins s σ H x y v u Q I rx ry q hs
 ·exact h' value slice pins s σ H x y v u Q I rx ry q hs
theorem MtR.or {id:String} {r r':V->List V->Hp->VK->Prop} (h:MtR X id r) (h':MtR X id r'):MtR X id (fun x xs H Q=>r x xs H Q\/r' x xs H Q):=by
 intro pins s σ H x xs v us Q I rx rs q;rcases q with q | q
 ·exact h pins s σ H x xs v us Q I rx rs q
 ·exact h' pins s σ H x xs v us Q I rx rs q
theorem jal {r:R2} (hr:IxR X r) (ha:PE X a ta) (hb:PE X b tb) (hs:jhM b:=by exact fun _ _=>rfl):PE X (.Subscript a b pos) (tOp r ta tb):=by
 intro pins s σ H Q I h;exact Subscript_ (binT ha hb I h fun v u s2 x y H2 I2 rx ry q=>hr a b pins s2 σ H2 x y v u Q I2 rx ry q (hs _ _))
def jma (K:PySem.W.Frag):R2:=fun x y H Q=>∃p xs i v,x=.ref p/\y=.int i/\SqL K H p xs/\atI xs i=some v/\Q v H
def ji3 (K:PySem.W.Frag):R2:=fun x y H Q=>∃p xs i v,x=.ref p/\y=.int i/\SqT K H p xs/\atI xs i=some v/\Q v H
theorem ix_list:IxR X (jma X.K):=by
 intro value slice pins s σ H x y v u Q I rx ry h hs;obtain⟨p,xs,i,z,rfl,rfl,hq,he,q⟩:=h;cases rx;obtain⟨t,rfl⟩:=ry;obtain⟨its,r,pl,hz⟩:=I.list hq;obtain⟨j,h1,h2,h3,h4,h5⟩:=jhL he;obtain⟨w,ew,rw'⟩:=r.get h2;have hl:=r.length;have hn:=jf9;have fin:EP X pins σ Q w s:=⟨z,H,I,rw',q⟩;by_cases h0:0<=i
 ·have hj:i.toNat=j:=by
   rw[seqIndex_of h0 h5] at h1;exact Option.some.inj h1
  exact item_listR pl.isList h0 (by omega) (by rw[hj];simpa using ew) fin hs
 ·have hj:(i+(its.toArray.size:Int)).toNat=j:=by
   rw[seqIndex_neg (by omega) h4] at h1;rw[xaf,<- hl];exact Option.some.inj h1
  exact subscriptTail_builtinR (x:=w) pl.isList.typeIs slot_list_getitem.lookup
   (wpAny_getItem_list_neg (Q:=fun r s'=>r=w/\EP X pins σ Q r s') pl.isList (by omega) (by rw[xaf]<;>omega) (by omega) (by rw[hj];simpa using ew) ⟨rfl,fin⟩) hs
theorem jan:IxR X (ji3 X.K):=by
 intro value slice pins s σ H x y v u Q I rx ry h hs;obtain⟨p,xs,i,z,rfl,rfl,hq,he,q⟩:=h;cases rx;obtain⟨t,rfl⟩:=ry;obtain⟨its,r,pl,hz⟩:=I.tuple hq;obtain⟨j,h1,h2,h3,h4,h5⟩:=jhL he;obtain⟨w,ew,rw'⟩:=r.get h2;have hl:=r.length;have hn:=jf9;have fin:EP X pins σ Q w s:=⟨z,H,I,rw',q⟩;exact subscriptTail_builtinR (x:=w) pl.typeIs slot_tuple_getitem.lookup
  (getItem_tuple (j:=j) (Q:=fun r s'=>r=w/\EP X pins σ Q r s') pl (by omega) (by omega) (by rw[xaf,<- hl];exact h1) (by simpa using ew) ⟨rfl,fin⟩) hs
theorem jgY (its:List Value) (n j:Nat) (u:Value):Obj.mapSeq (·.setIfInBounds j u) { cls:=.type "list",data:=.seq its.toArray n }={ cls:=.type "list",data:=.seq (its.set j u).toArray n }:=by
 simp [Obj.mapSeq]
theorem Inv.lst {pins:List (Addr × Obj)} {σ:St} {H:Hp} {s:Shared} {p:Addr} {xs:List V} (I:Inv X pins σ H s) (h:H p=some (.lst xs)) :
  ∃(its:List Value) (n:Nat),Vals xs its/\s.heap.get? p=some { cls:=.type "list",data:=.seq its.toArray n }/\xs.length<=sizeLine:=by
 obtain⟨z,its,n,r,e⟩:=I.hok p _ h;exact⟨its,n,r,e,z⟩
theorem Inv.lstUpd {pins:List (Addr × Obj)} {σ:St} {H:Hp} {s:Shared} {p:Addr} {xs ys:List V} {its its':List Value} {n n':Nat} {f:Obj->Obj} (I:Inv X pins σ H s) (h:H p=some (.lst xs))
  (ho:s.heap.get? p=some { cls:=.type "list",data:=.seq its.toArray n }) (hf:f { cls:=.type "list",data:=.seq its.toArray n }={ cls:=.type "list",data:=.seq its'.toArray n' }) (r:Vals ys its') (hz:ys.length<=sizeLine) (t:Nat) :
  Inv X pins σ (upd H p (.lst ys)) { s with heap:=s.heap.update p f,toks:=t }:=by
 have e:(s.heap.update p f).get? p=some { cls:=.type "list",data:=.seq its'.toArray n' }:=by
  rw[Heap.get?_update_self f ho (by rw[hf]<;>rfl),hf]
 refine I.write (x:=p) (e:=p) (by rw[h];trivial) (.inl rfl) (fun b u hb q=>(Heap.get?_update_other _ _ (Ne.symm hb)).trans q) ⟨_,e⟩ ?_;exact⟨hz,its',n',r,e⟩
def rSetL:V->V->V->Hp->(Hp->Prop)->Prop:=fun o i v H Q=>∃p xs k j,o=.ref p/\i=.int k/\H p=some (.lst xs)/\ixN xs.length k=some j/\Q (upd H p (.lst (xs.set j v)))
theorem jgc:PSet X rSetL:=by
 intro pins s σ H o i v ov iv u Q I ro ri rv h;obtain⟨p,xs,k,j,rfl,rfl,hp,hj,q⟩:=h;cases ro;obtain⟨t,rfl⟩:=ri;obtain⟨its,n,r,ho,hz⟩:=I.lst hp;obtain⟨h1,h2,h3,h4⟩:=jhK hj;have hl:=r.length;have hn:=jf9;have I':Inv X pins σ (upd H p (.lst (xs.set j v))) { s with heap:=s.heap.update p (Obj.mapSeq (·.setIfInBounds j u)) } :=
  I.lstUpd hp ho (jgY its n j u) (r.set rv j) (by rw[List.length_set];exact hz) s.toks
 by_cases h0:0<=k
 ·have hk:k.toNat=j:=by
   rw[seqIndex_of h0 h4] at h1;exact Option.some.inj h1
  exact PySem.W.ki_setAt ho h0 (by omega) (by rw[xaf,<- hl];exact h4) (by rw[hk];exact⟨_,I',q⟩)
 ·have hk:(k+(its.toArray.size:Int)).toNat=j:=by
   rw[seqIndex_neg (by omega) h3] at h1;rw[xaf,<- hl];exact Option.some.inj h1
  exact PySem.W.ki_setBack ho (by omega) (by rw[xaf,<- hl];exact h3) (by omega) (by rw[hk];exact⟨_,I',q⟩)
theorem jfj (lo hi:Option Int) (n:Nat):(sliceBounds lo hi none n).1=((HT.sIx n 0 lo:Nat):Int)/\(sliceBounds lo hi none n).2.1=((HT.sIx n n hi:Nat):Int)/\(sliceBounds lo hi none n).2.2=1:=by
  refine⟨?_,?_,rfl⟩
  . cases lo with
    | none=>simp [sliceBounds,HT.sIx]
    | some i =>
      simp only[sliceBounds,HT.sIx,Option.getD_none,show (1:Int)>0 by decide,if_true];by_cases h:i<0
      . simp only[h,if_true]<;>omega
      . simp only[h,if_false]<;>omega
  . cases hi with
    | none=>simp [sliceBounds,HT.sIx]
    | some i =>
      simp only[sliceBounds,HT.sIx,Option.getD_none,show (1:Int)>0 by decide,if_true];by_cases h:i<0
      . simp only[h,if_true]<;>omega
      . simp only[h,if_false]<;>omega
theorem jeI (its:List Value) (lo hi:Option Int):slicePick its.toArray lo hi none=((its.drop (HT.sIx its.length 0 lo)).take (HT.sIx its.length its.length hi-HT.sIx its.length 0 lo)).toArray:=by
 obtain⟨h1,h2,h3⟩:=jfj lo hi its.toArray.size;unfold slicePick;rw[h1,h2,h3];simp only[sliceRange_one,pick_run,xaf]<;>rfl
def rSlL (K:PySem.W.Frag):V->Option Int->Option Int->Hp->VK->Prop:=fun x lo hi H Q=>∃a xs,x=.ref a/\SqL K H a xs/\∀p,H p=none->Q (.ref p) (upd H p (.lst (jeq xs lo hi)))
theorem sl_list:SlR X (rSlL X.K):=by
 intro pins s σ H x v vl vu lo hi sl Q I rx hs pl pu h;obtain⟨a,xs,rfl,hx,q⟩:=h;cases rx;obtain⟨its,r,ht,hz⟩:=I.list hx;have hlen:=r.length;refine⟨"list",_,slot_list_getitem.lookup,ht.isList.typeIs,?_⟩;refine wpAny_getItem_list_slice ht.isList hs pl pu .none (by simp) ?_ (by rw[xaf]<;>omega);rw[jeI,<- hlen];refine⟨.ref s.heap.objs.size,_,I.laid (t':=s.toks) (o:=.lst (jeq xs lo hi)) (fun b ob q=>Heap.get?_push_of_some _ q) (xad _) ?_,rfl,q _ (I.hok.fresh (xad _))⟩;exact⟨xav (jdQ xs lo hi) hz,_,0,(r.drop (HT.sIx xs.length 0 lo)).take (HT.sIx xs.length xs.length hi-HT.sIx xs.length 0 lo),Heap.get?_push_size _ rfl⟩
def jeJ:V->Bool
 | .non=>true
 | .bl _=>true
 | .int _=>true
 | .str _=>true
 | _=>false
def eqV:V->V->Bool
 | .non,.non=>true
 | .bl a,.bl b=>a==b
 | .bl a,.int b=>(if a then 1 else 0)==b
 | .int a,.bl b=>a==(if b then 1 else 0)
 | .int a,.int b=>a==b
 | .str a,.str b=>a==b
 | _,_=>false
theorem jmw {A:Around} {s:Shared} {y x:V} {u v:Value} (ry:RelV y u) (rx:RelV x v) (fy:jeJ y=true) (fx:jeJ x=true):SeqAt.EqAt A s u v (eqV y x):=by
  cases y with
  | non =>
    cases ry;cases x with
    | non=>cases rx;exact SeqAt.EqAt.same _
    | bl b=>cases rx;exact SeqAt.EqAt.none_bool b
    | int b=>obtain⟨t,rfl⟩:=rx;exact SeqAt.EqAt.none_int b t
    | str b=>obtain⟨t,rfl⟩:=rx;exact SeqAt.EqAt.none_str b t
    | _=>exact absurd (show false=true from fx) xai
  | bl a =>
    cases ry;cases x with
    | non=>cases rx;exact SeqAt.EqAt.bool_none a
    | bl b=>cases rx;exact SeqAt.EqAt.bool_bool a b
    | int b=>obtain⟨t,rfl⟩:=rx;exact SeqAt.EqAt.bool_int a b t
    | str b=>obtain⟨t,rfl⟩:=rx;exact SeqAt.EqAt.bool_str a b t
    | _=>exact absurd (show false=true from fx) xai
  | int a =>
    obtain⟨t',rfl⟩:=ry;cases x with
    | non=>cases rx;exact SeqAt.EqAt.int_none a t'
    | bl b=>cases rx;exact SeqAt.EqAt.int_bool a t' b
    | int b=>obtain⟨t,rfl⟩:=rx;exact SeqAt.EqAt.int_int a t' b t
    | str b=>obtain⟨t,rfl⟩:=rx;exact SeqAt.EqAt.int_str a t' b t
    | _=>exact absurd (show false=true from fx) xai
  | str a =>
    obtain⟨t',rfl⟩:=ry;cases x with
    | non=>cases rx;exact SeqAt.EqAt.str_none a t'
    | bl b=>cases rx;exact SeqAt.EqAt.str_bool a t' b
    | int b=>obtain⟨t,rfl⟩:=rx;exact SeqAt.EqAt.str_int a t' b t
    | str b=>obtain⟨t,rfl⟩:=rx;exact SeqAt.EqAt.str_str a t' b t
    | _=>exact absurd (show false=true from fx) xai
  | _=>exact absurd (show false=true from fy) xai
def eqU (x:V) (u:Value):Bool:=match u with
 | .none=>eqV .non x
 | .bool b=>eqV (.bl b) x
 | .int i _=>eqV (.int i) x
 | .str z _=>eqV (.str z) x
 | _=>false
theorem jkb {x y:V} {u:Value} (r:RelV y u) (f:jeJ y=true):eqU x u=eqV y x:=by
 cases y with
 | non=>cases r;rfl
 | bl b=>cases r;rfl
 | int i=>obtain⟨t,rfl⟩:=r;rfl
 | str z=>obtain⟨t,rfl⟩:=r;rfl
 | _=>exact absurd (show false=true from f) xai
theorem jfO {x:V}:∀{xs:List V} {us:List Value},Vals xs us->xs.all jeJ=true->us.any (eqU x)=xs.any fun y=>eqV y x
  | _,_,.nil,_=>rfl
  | y :: xs, u :: us, .cons r t, f => by
    rw[List.all_cons,xaM] at f;rw[xb4,xb4,jkb r f.1,jfO t f.2]
theorem jeK {A:Around} {s:Shared} {x:V} {v:Value} (rx:RelV x v) (fx:jeJ x=true):∀{xs:List V} {us:List Value},Vals xs us->xs.all jeJ=true->∀u∈us,SeqAt.EqAt A s u v (eqU x u)
  | _,_,.nil,_=>fun u hu=>by cases hu
  | y :: xs, u :: us, .cons r t, f => fun u' hu => by
    rw[List.all_cons,xaM] at f;rcases xaq.mp hu with rfl | hu
    . rw[jkb r f.1];exact jmw r rx f.1 fx
    . exact jeK rx fx t f.2 u' hu
def inV (x:V) (xs:List V):Bool:=xs.any fun y=>eqV y x
def rIn (K:PySem.W.Frag) (neg:Bool):R2:=fun x y H Q=>∃p xs,y=.ref p/\(SqL K H p xs\/SqT K H p xs)/\jeJ x=true/\xs.all jeJ=true/\Q (.bl (if neg then !inV x xs else inV x xs)) H
theorem jhN:OpR X (compareOp .In) (rIn X.K false):=by
 intro pins s σ H x y v u Q I rx ry h;obtain⟨p,xs,rfl,hq,fx,fs,q⟩:=h;cases ry;rcases hq with hq | hq
 ·obtain⟨its,r,pl,hz⟩:=I.list hq;refine SeqAt.in_listAt (eqU x) pl.isList (fun w hw=>jeK rx fx r fs w (by simpa using hw)) ⟨.bl _,H,I,rfl,?_⟩;rw[show its.toArray.any (eqU x)=its.any (eqU x) by simp,jfO r fs];exact q
 ·obtain⟨its,r,pl,hz⟩:=I.tuple hq;refine SeqAt.in_tupleAt (eqU x) pl (fun w hw=>jeK rx fx r fs w (by simpa using hw)) ⟨.bl _,H,I,rfl,?_⟩;rw[show its.toArray.any (eqU x)=its.any (eqU x) by simp,jfO r fs];exact q
theorem jaL:CallR X (.builtin "len") (fun xs H Q=>∃p ys,xs=[.ref p]/\(SqL X.K H p ys\/SqT X.K H p ys)/\Q (.int ys.length) H):=by
 intro pins s σ H xs us Q I r h;obtain⟨p,ys,rfl,hq,q⟩:=h;obtain⟨u,rfl,rx⟩:=jfc r;cases rx;have hn:=jf9;rcases hq with hq | hq
 ·obtain⟨its,r',pl,hz⟩:=I.list hq;have hlen:=r'.length;exact Calls.call_len_list pl.isList (by simp only[xaf]<;>omega) ⟨.int ys.length,H,I.tok _,⟨s.toks+1,by rw[xaf,hlen]⟩,q⟩
 ·obtain⟨its,r',pl,hz⟩:=I.tuple hq;have hlen:=r'.length;exact len_tuple pl (by simp only[xaf]<;>omega) ⟨.int ys.length,H,I.tok _,⟨s.toks+1,by rw[xaf,hlen]⟩,q⟩
theorem CallR.or {f:Value} {r r':List V->Hp->VK->Prop} (h:CallR X f r) (h':CallR X f r'):CallR X f (fun xs H Q=>r xs H Q\/r' xs H Q):=by
 intro pins s σ H xs us Q I rs q;rcases q with q | q
 ·exact h pins s σ H xs us Q I rs q
 ·exact h' pins s σ H xs us Q I rs q
theorem jbi:CallR X (.type "list") (fun xs H Q=>∃p ys,xs=[.ref p]/\(SqL X.K H p ys\/SqT X.K H p ys)/\∀l,H l=none->Q (.ref l) (upd H l (.lst ys))):=by
 intro pins s σ H xs us Q I r h;obtain⟨p,ys,rfl,hq,q⟩:=h;obtain⟨u,rfl,rx⟩:=jfc r;cases rx;have fin:∀(its:List Value),Vals ys its->ys.length<=sizeLine->∀(h':Heap) (c':Nat),(∀b o',s.heap.get? b=some o'->h'.get? b=some o') ->
   h'.get? s.heap.objs.size=some { cls:=.type "list",dict:=none,data:=.seq its.toArray c',slots:=#[] }->EP X pins σ Q (.ref s.heap.objs.size) { s with heap:=h' }:=fun its r' hz h' c' kp e =>
  ⟨.ref s.heap.objs.size,_,I.laid (t':=s.toks) kp (xad _) (show ObjOk X.prog X.w _ h' _ (.lst ys) from ⟨hz,its,c',r',e⟩),rfl,q _ (I.hok.fresh (xad _))⟩
 rcases hq with hq | hq
 ·obtain⟨its,r',pl,hz⟩:=I.list hq;have hlen:=r'.length;obtain⟨o,ho,hc,n,hd⟩:=pl.isList;exact call_list_seq p (.inl rfl) ho hc hd (fun h' c' kp e=>fin its r' hz h' c' kp e) (by simp only[xaf]<;>omega)
 ·obtain⟨its,r',pl,hz⟩:=I.tuple hq;have hlen:=r'.length;obtain⟨o,ho,hc,n,hd⟩:=pl;exact call_list_seq p (.inr rfl) ho hc hd (fun h' c' kp e=>fin its r' hz h' c' kp e) (by simp only[xaf]<;>omega)
theorem jbl:CallR X (.type "tuple") (fun xs H Q=>∃p ys,xs=[.ref p]/\((SqL X.K H p ys/\∀l,H l=none->Q (.ref l) (upd H l (.tup ys)))\/(SqT X.K H p ys/\Q (.ref p) H))):=by
 intro pins s σ H xs us Q I r h;obtain⟨p,ys,rfl,h⟩:=h;obtain⟨u,rfl,rx⟩:=jfc r;cases rx;rcases h with ⟨hq,q⟩ | ⟨hq,q⟩
 ·obtain⟨its,r',pl,hz⟩:=I.list hq;have hlen:=r'.length;refine call_tuple_list pl.isList (fun h' kp=>?_) (by simp only[xaf]<;>omega);have I1:Inv X pins σ H { s with heap:=h' }:=I.kept (t':=s.toks) kp;have I2:Inv X pins σ (upd H h'.objs.size (.tup ys)) { s with heap:=h'.push { cls:=.type "tuple",data:=.seq its.toArray } } :=
   I1.laid (t':=s.toks) (fun b o e=>Heap.get?_push_of_some _ e) (xad _) (show ObjOk X.prog X.w _ _ _ (.tup ys) from ⟨hz,its,r',IsTup.new _ _⟩)
  exact⟨.ref h'.objs.size,_,I2,rfl,q _ (I1.hok.fresh (xad _))⟩
 ·obtain⟨its,r',pl,hz⟩:=I.tuple hq;exact call_tuple_same pl ⟨.ref p,H,I,rfl,q⟩
def tyV (K:PySem.W.Frag) (T:String) (x:V) (H:Hp):Prop:=match x with
 | .str _=>T="str"
 | .int _=>T="int"
 | .ref p=>(T="list" /\ ∃xs,SqL K H p xs) \/ (T="tuple" /\ ∃o,K.lookup p=some o /\ o.cls=.type "tuple" /\ o.dict=none) \/
   (T="dict"/\((∃kvs,H p=some (.dK kvs))\/∃kvs,H p=some (.dT kvs)))\/(T="set"/\∃S n,H p=some (.set S n))
 | _=>False
theorem jkc {pins:List (Addr × Obj)} {σ:St} {H:Hp} {s:Shared} {T:String} {x:V} {v:Value} (I:Inv X pins σ H s) (r:RelV x v) (ty:tyV X.K T x H) :
    s.TypeIs v T/\∀a,v=.ref a->∃ob,s.heap.get? a=some ob/\ob.dict=none:=by
  cases x with
  | str z =>
    obtain⟨t,rfl⟩:=r;cases (show T="str" from ty);exact⟨typeIs_str s z t,fun _ e=>nomatch e⟩
  | int i =>
    obtain⟨t,rfl⟩:=r;cases (show T="int" from ty);exact⟨typeIs_int s i t,fun _ e=>nomatch e⟩
  | ref p =>
    cases r;rcases ty with ⟨rfl,xs,hq⟩ | ⟨rfl,o,hk,hc,hd⟩ | ⟨rfl,hk⟩ | ⟨rfl,S,n,hk⟩
    . obtain⟨its,_,pl,_⟩:=I.list hq
      refine⟨pl.isList.typeIs,fun a e=>?_⟩;cases e;obtain⟨o,n,e,c,hd,_⟩:=pl;exact⟨o,e,hd⟩
    . refine⟨⟨o,I.kIn p o hk,hc⟩,fun a e=>?_⟩
      cases e;exact⟨o,I.kIn _ o hk,hd⟩
    . have z:∃o,s.heap.get? p=some o/\o.ExactDict:=by
        rcases hk with ⟨kvs,hk⟩ | ⟨kvs,hk⟩
        . obtain⟨_,_,_,_,o,_,_,e,ex,_⟩:=I.hok p _ hk
          exact⟨o,e,ex⟩
        . obtain⟨_,_,_,_,o,_,_,e,ex,_⟩:=I.hok p _ hk
          exact⟨o,e,ex⟩
      obtain⟨o,e,ex⟩:=z;refine⟨⟨o,e,ex.1⟩,fun a e2=>?_⟩;cases e2;exact⟨o,e,ex.2.1⟩
    . obtain⟨o,_,_,_,e,ex,_⟩:=I.hok p _ hk
      refine⟨⟨o,e,ex.1⟩,fun a e2=>?_⟩;cases e2;exact⟨o,e,ex.2.1⟩
  | _=>exact False.elim ty
def jmx (K:PySem.W.Frag) (T:String) (r:V->List V->Hp->VK->Prop) (to:TE):TE:=fun σ H Q=>to σ H fun x H1=>tyV K T x H1/\r x [] H1 Q
def tBM (K:PySem.W.Frag) (T:String) (r:V->List V->Hp->VK->Prop) (to:TE) (t:TA):TE:=fun σ H Q=>to σ H fun x H1=>tyV K T x H1/\t σ H1 fun xs H2=>r x xs H2 Q
variable {o e:Expr} {es:List Expr} {to:TE} {t:TA} {name:Str} {apos cpos:Pos} {T id:String} {r:V->List V->Hp->VK->Prop}
theorem jkd (pa:PlainAttrs T) (slot:Slot T name id) (hty:typeOf (.builtin id)=pure (.type "method_descriptor")) (hm:MtR X id r) (ho:PE X o to)
  (hbase:attributeBase o name X.env (eval o X.env)=eval o X.env:=by rfl) (hline:(apos.endLine==cpos.line)=true:=by rfl):PE X (.Call (.Attribute o name apos) [] [] cpos) (jmx X.K T r to):=by
 intro pins s σ H Q I h;refine wpAny_Call_method0_late hbase hline (thn (ho pins s σ H _ I h) fun v s1 ⟨x,H1,I1,r1,ty,q1⟩=>?_);obtain⟨h1,h2⟩:=jkc I1 r1 ty;exact⟨T,id,pa,slot,hty,h1,h2,Calls.callWith_builtin rfl (PySem.evalArgs_none (hm pins s1 σ H1 x [] v [] Q I1 r1 .nil q1))⟩
theorem jgZ (pa:PlainAttrs T) (slot:Slot T name id) (hty:typeOf (.builtin id)=pure (.type "method_descriptor")) (hm:MtR X id r) (ho:PE X o to) (ha:PA X (e::es) t)
  (hbase:attributeBase o name X.env (eval o X.env)=eval o X.env:=by rfl)
  (hfew:((backTo cpos (starEach (e::es) X.env)).all (fun x=>!x.1)&&(backToKw cpos (keywordEach [] X.env)).all (fun x=>x.1.isSome)
   && decide ((e::es).length+([]:List Keyword).length+(if ([]:List Keyword).isEmpty then 0 else 1)<30))=true:=by rfl)
  (hline:(apos.endLine==cpos.line)=true:=by rfl) (hs:starEach (e::es) X.env=(false,eval e X.env)::starEach es X.env:=by rfl) (hplain:(backTo cpos (starEach es X.env)).any (·.1)=false:=by rfl) :
  PE X (.Call (.Attribute o name apos) (e::es) [] cpos) (tBM X.K T r to t):=by
 intro pins s σ H Q I h;refine wpAny_Call_method_late hbase hfew hline rfl (thn (ho pins s σ H _ I h) fun v s1 ⟨x,H1,I1,r1,ty,q1⟩=>?_);obtain⟨h1,h2⟩:=jkc I1 r1 ty;refine⟨T,id,pa,slot,hty,h1,h2,?_⟩;have hA:=ha cpos pins s1 σ H1 _ I1 q1;rw[hs] at hA |-
 refine Calls.callWith_builtin (by show (false||(backTo cpos (starEach es X.env)).any (·.1))=false;rw[hplain]<;>rfl) (Calls.evalArgs_plain ?_);exact thn hA fun us s2 ⟨vs,H2,I2,r2,q2⟩=>hm pins s2 σ H2 x vs v us Q I2 r1 r2 q2
end
def MtM (X:Cx) (id:String) (r:V->List V->Hp->VK->Prop):Prop :=
  ∀ (pins : List (Addr × Obj)) (s : Shared) (σ : St) (H : Hp) (x : V) (xs : List V) (v : Value) (us : List Value) (Q : VK), Inv X pins σ H s -> RelV x v -> Vals xs us -> r x xs H Q ->
    wpAny (model X.prog X.w) X.A (call (.builtin id) (v::us)) (EP X pins σ Q) X.xe s
theorem Vals.one:∀{x:V} {us:List Value},Vals [x] us->∃u,us=[u]/\RelV x u
 | _,_,.cons r .nil=>⟨_,rfl,r⟩
theorem Vals.zero:∀{us:List Value},Vals [] us->us=[]
 | _,.nil=>rfl
theorem Vals.reverse {xs:List V} {us:List Value} (h:Vals xs us):Vals xs.reverse us.reverse:=by
 induction h with
 | nil=>exact .nil
 | cons r t ih=>rw[xa5,xa5];exact Vals.append ih (.cons r .nil)
section
variable {X:Cx} {pins:List (Addr × Obj)} {σ:St} {H:Hp} {s:Shared} {l b:Addr} {xs ys zs:List V}
theorem Inv.lset {its its':List Value} {n:Nat} {f:Array Value->Array Value} {t':Nat} (I:Inv X pins σ H s) (hH:H l=some (.lst xs))
  (e:s.heap.get? l=some { cls:=.type "list",data:=.seq its.toArray n }) (hf:f its.toArray=its'.toArray) (hv:Vals ys its') (hz:ys.length<=sizeLine) :
  Inv X pins σ (upd H l (.lst ys)) { s with heap:=s.heap.update l (Obj.mapSeq f),toks:=t' }:=by
 have q:=PySem.IsL.update e f;rw[hf] at q;refine I.write (x:=l) (e:=l) (by rw[hH];exact trivial) (.inl rfl) (fun b' u hb hu=>(Heap.get?_update_other s.heap (Obj.mapSeq f) (Ne.symm hb)).trans hu) ⟨_,q⟩ ?_;exact⟨hz,its',_,hv,q⟩
theorem Inv.lnew {its:List Value} {t':Nat} (I:Inv X pins σ H s) (hv:Vals ys its) (hz:ys.length<=sizeLine) :
  Inv X pins σ (upd H s.heap.objs.size (.lst ys)) { s with heap:=s.heap.push { cls:=.type "list",data:=.seq its.toArray },toks:=t' } :=
 I.laid (fun _ _ q=>Heap.get?_push_of_some _ q) (xad _) ⟨hz,its,0,hv,Heap.get?_push_size _ rfl⟩
theorem Inv.fresh (I:Inv X pins σ H s):H s.heap.objs.size=none:=I.hok.fresh (xad _)
theorem Inv.lstM (I:Inv X pins σ H s) (hH:H l=some (.lst xs)):xs.length<=sizeLine/\∃(its:List Value) (n:Nat),Vals xs its/\xs.length=its.length/\s.heap.get? l=some { cls:=.type "list",data:=.seq its.toArray n }:=by
 obtain⟨z,its,n,r,e⟩:=I.hok l _ hH;exact⟨z,its,n,r,r.length,e⟩
end
section
variable {X:Cx}
def jhO:V->List V->Hp->VK->Prop:=fun x vs H Q=>∃l xs y,x=.ref l/\vs=[y]/\H l=some (.lst xs)/\xs.length<sizeLine/\Q .non (upd H l (.lst (xs++[y])))
theorem jby:MtM X "list.append" jhO:=by
 intro pins s σ H x vs v us Q I rx rv h;obtain⟨l,xs,y,rfl,rfl,hH,hz,q⟩:=h;cases rx;obtain⟨u,rfl,ru⟩:=rv.one;obtain⟨z,its,n,r,hl,e⟩:=I.lstM hH;refine call_meets F.slot_list_append ⟨_,e,rfl⟩ F.entry_list_append (F.args_list_append_2 _ _) (PySem.list_append l its.toArray n u (by rw[xaf];omega)) ⟨e,?_⟩;refine⟨.non,_,I.lset (its':=its++[u]) hH e (by simp) (r.append (.cons ru .nil)) ?_,rfl,q⟩;rw[xae,List.length_singleton];omega
def jmy:V->List V->Hp->VK->Prop:=fun x vs H Q=>∃l xs,x=.ref l/\vs=[]/\H l=some (.lst xs)/\Q .non (upd H l (.lst []))
theorem jje:MtM X "list.clear" jmy:=by
 intro pins s σ H x vs v us Q I rx rv h;obtain⟨l,xs,rfl,rfl,hH,q⟩:=h;cases rx;have hus:=rv.zero;subst hus;obtain⟨z,its,n,r,hl,e⟩:=I.lstM hH;refine call_meets F.slot_list_clear ⟨_,e,rfl⟩ F.entry_list_clear (F.args_list_clear_1 _) (AutoSeq1.list_clear_list_0 l its.toArray n (by rw[xaf];omega)) ⟨e,?_⟩;exact⟨.non,_,I.lset (its':=[]) (ys:=[]) hH e rfl .nil (xar _),rfl,q⟩
def rCat:R2:=fun x y H Q=>∃l b xs zs,x=.ref l/\y=.ref b/\H l=some (.lst xs)/\H b=some (.lst zs)/\xs.length+zs.length<=sizeLine/\∀p,H p=none->Q (.ref p) (upd H p (.lst (xs++zs)))
theorem jca:OpR X (binaryOp .Add) rCat:=by
 intro pins s σ H x y v u Q I rx ry h;obtain⟨l,b,xs,zs,rfl,rfl,hH,hB,hz,q⟩:=h;cases rx;cases ry;obtain⟨z,its,n,r,hl,e⟩:=I.lstM hH;obtain⟨z2,its2,n2,r2,hl2,e2⟩:=I.lstM hB;refine PySem.P.add_list e e2 ?_ (by rw[xaf,xaf];omega);have ea:its.toArray++its2.toArray=(its++its2).toArray:=by simp
 rw[ea];exact⟨.ref _,_,I.lnew (t':=s.toks) (r.append r2) (by rw[xae];omega),rfl,q _ I.fresh⟩
end
end L2
namespace Att
open PySem PySem.W PySem.Calls PyProof.Rows
theorem jdR {P:Params} {h:Heap}:∀(ns:List Int) (vs:List Value),WellAll P h vs (ns.map WData.int)->IntsAre vs ns:=by
  intro ns;induction ns with
  | nil =>
    intro vs w;rw[List.map_nil] at w;cases w;exact .nil
  | cons n ns ih =>
    intro vs w;rw[xaI] at w;cases w with
    | cons a b =>
      cases a;exact .cons _ _ (ih _ b)
theorem jhP {l:OpenLaw} {n:Nat} (hn:l.most=some n) {P:Params} {h:Heap} {args:List WData} {vals:List Value}
    (hpre:l.row.toRowW.claim.pre args=true) (hwl:WellAll P h vals args) :
    ∃a vs ns,vals=[Value.ref a]/\args=[WData.list (ns.map WData.int)]/\h.get? a=some { cls:=.type "list",data:=.seq vs.toArray }/\IntsAre vs ns/\ns.length<=n:=by
  have hsh:WShape.hasAll [] args [.list .int]=true:=(pre_splitW hpre).1;have hc:l.pre.holds [] { args:=args }=true:=(pre_splitW hpre).2;obtain⟨d,r,rfl,h1,h2⟩:=hasAllW_cons hsh;obtain rfl:=hasAllW_nil h2;obtain⟨xs,rfl,h3⟩:=hasW_list h1;obtain⟨ns,rfl⟩:=items_int h3;have hlen:ns.length<=n:=by
    unfold OpenLaw.pre at hc;have h4:(WTm.not (.lt (.lit (.int (n:Int))) (.len (.arg 0)))).holds [] { args:=[.list (ns.map .int)] }=true:=by
      have h4:=(holds_andW hc).1;rw[hn] at h4;exact h4
    have h5:=condW_of h4 (w_not (w_lt w_lit (w_len_list (w_arg rfl))));rw[xaa] at h5;refine Nat.le_of_not_lt fun q=>?_;have q':(n:Int)<((ns.length:Nat):Int):=by omega
    first
      | (rw[decide_eq_true q'] at h5;exact absurd h5 (by decide))
      | (simp at h5;omega)
  cases hwl with
  | cons w1 w2 =>
    cases w2;cases w1 with
    | list ho hall=>exact⟨_,_,ns,rfl,rfl,ho,jdR ns _ hall,hlen⟩
theorem jhQ (l:OpenLaw) (args:List WData):l.row.toRowW.claim.post args (.bool true) args=true :=
 postW_of (r:=l.row.toRowW) (X:=(true==true))
  (show WShape.has [] (.bool true) .bool=true by first | rfl | decide | simp [WShape.has,WShape.arms,WShape.armsAll])
  (show (WTm.eq .res (.lit (.bool true))).value [] { args:=args,res:=some (.bool true),after:=args }=some (.bool (true==true)) from w_eq_bool (w_res rfl) w_lit) rfl
theorem attach_call {l:OpenLaw} {n:Nat} {q:Program} {loose:List Str} {XP:(Str->Option Value)->Heap->Prop} {YP:World->Heap->Prop} {d:DefRec}
  (hn:l.most=some n) (hdf:d.params.defaults=[])
  (call:∀(w:World) (s₀ s₁:Shared) (mg mb:Str->Option Value) (fa:Addr) (o:Obj) (pm cd doc:Value) (a:Addr) (vs:List Value) (ns:List Int),
   Ground q loose [] XP w s₀ mg mb s₁.heap->YP w s₁.heap ->
   s₁.heap.get? fa=some o->o.data=.func (docDef d.name d.params d.body d.scope pm cd doc)->s₁.heap.CodeRec cd d.name->mg d.name=some (.ref fa) ->
   s₁.heap.get? a=some { cls:=.type "list",data:=.seq vs.toArray }->IntsAre vs ns->ns.length<=n->s₁.gens=#[] ->
   codeAny (model l.prog w) callerA (.call (.ref fa) ⟨[.ref a],[]⟩) (fun r s'=>r=.ok (.ret (.bool true))/\OldK s₁.heap s'.heap/\s'.os=s₁.os/\AllBare s'.gens) s₁) :
  WalkO q loose XP YP l.row.toRowW d [] (fun f vs=>PySem.call f vs):=by
 intro w s₀ s₁ mg mb G Y fa o pm cd doc dV kV ho hd hcd hD hmg hg args vals as hpre hlay hrd hwl hlo;obtain rfl:dV=.none:=Dflts.none hD hdf;obtain rfl:kV=.none:=Dflts.noKw hD;obtain⟨a,vs,ns,rfl,rfl,hobj,hints,hlen⟩:=jhP hn hpre hwl;refine enter_call (codeAny_mono (call w s₀ s₁ mg mb fa o pm cd doc a vs ns G Y ho (fd_plain hd) hcd hmg hobj hints hlen hg) fun r s' hq=>?_);obtain⟨rfl,h2,h3,h4⟩:=hq;exact⟨.inl ⟨.bool true,.bool true,[],rfl,fun _=>rfl,.bool true,jhQ l _,fun _=>⟨List.Pairwise.nil,fun _ hm=>(nomatch hm)⟩⟩,h2,h3,h4⟩
end Att
namespace L2
open PySem PySem.Spec PyProof.Rows
theorem jfk:∀{vs:List Value} {ns:List Int},IntsAre vs ns->Vals (ns.map V.int) vs
 | _,_,.nil=>.nil
 | _,_,.cons n t h=>.cons ⟨t,rfl⟩ (jfk h)
def Only (H:Hp):Prop:=∀b,H b=none\/∃o xs,H b=some (.frz o (.lst xs))
theorem jjf {P:Program} {w:World} {K:PySem.W.Frag} {mg mb:Str->Option Value} {CX:CXT} {k:Nat} {fa a:Addr} {fd:FuncData} {x:Str} {sp:Sp} {s₁:Shared} {vs:List Value} {ns:List Int}
    (KX:K.In s₁.heap) (hns:s₁.heap.Ns mainGlobals mg) (hb:s₁.heap.Ns builtinsNs mb) (hbb:∀x:Str,x≠"__name__"->mb x=bootBuiltins x) (hlim:s₁.heap.NoLimit) (hg:s₁.gens=#[])
    (ha:s₁.heap.get? a=some { cls:=.type "list",data:=.seq vs.toArray }) (hi:IntsAre vs ns) (hl:ns.length<=sizeLine) (hr:Room k callerA)
    (F:∀base:Heap,K.In base->base.Ns mainGlobals mg->FnOk P w K mg base CX k fa fd [x] sp) (hbind:∀(s:Shared) (u:Value),BindsTo s fd ⟨[u],[]⟩ [(x,u)])
    (hsp:∀H:Hp,Only H->SqL K H a (ns.map V.int)->sp [.ref a] H (fun v _=>v=.bl true) fun _ _ _=>False)
    (hCX:∀H e s',CX [] H s₁ (fun _ _ _=>False) e s'->False) :
    codeAny (model P w) callerA (.call (.ref fa) ⟨[.ref a],[]⟩) (fun r s'=>r=.ok (.ret (.bool true))/\OldK s₁.heap s'.heap/\s'.os=s₁.os/\AllBare s'.gens) s₁:=by
  have rv:=jfk hi;have lenV:=hi.length;have core:∀H:Hp,Only H->SqL K H a (ns.map V.int)->HOk P w H s₁.heap->(∀b,H b≠none->b=a)->(H a≠none->K.lookup a=none) ->
      codeAny (model P w) callerA (.call (.ref fa) ⟨[.ref a],[]⟩) (fun r s'=>r=.ok (.ret (.bool true))/\OldK s₁.heap s'.heap/\s'.os=s₁.os/\AllBare s'.gens) s₁:=by
    intro H hO hS hok hA hK;have base_of:∀{b:Addr} {o:Obj},s₁.heap.get? b=some o->H b=none->(ji5 s₁.heap H).get? b=some o:=fun e n=>ji6 e n;have noA:∀{b:Addr} {o:Obj} {es:Array DictEntry} {ep:Nat},s₁.heap.get? b=some o->o.data=.dict es ep->H b=none:=fun {b o es ep} e d=>by
      cases q:H b with
      | none=>rfl
      | some u =>
        have e':b=a:=hA b (by rw[q];simp);subst e';rw[ha] at e;cases e;have d':Data.seq vs.toArray _=Data.dict es ep:=d;cases d'
    have nsK:∀{b:Addr} {m:Str->Option Value},s₁.heap.Ns b m->(ji5 s₁.heap H).Ns b m:=fun {b m} ⟨o,es,ep,e,d,r⟩=>⟨o,es,ep,base_of e (noA e d),d,r⟩;have hKb:K.In (ji5 s₁.heap H):=fun b o e=>base_of (KX b o e) (by
      cases q:H b with
      | none=>rfl
      | some u =>
        have e':b=a:=hA b (by rw[q];simp);subst e';rw[hK (by rw[q];simp)] at e;cases e)
    have hM:Mod K mg (ji5 s₁.heap H):=⟨hKb,nsK hns,⟨mb,nsK hb,hbb⟩,let ⟨mc,h1,h2⟩:=hlim;⟨mc,nsK h1,h2⟩⟩;have e0:Env0 P w K mg (ji5 s₁.heap H) callerA [] s₁ H:=⟨rfl,hM,fun b o e=>jkN e,Nat.le_of_eq (jhp _ _),trivial,fun b hb=>absurd (show b∈([]:List Addr) from hb) (by simp),hok,.of_eq hg⟩;refine codeAny_mono ((F _ hKb (nsK hns)).run callerA [] s₁ H ⟨[.ref a],[]⟩ [.ref a] [.ref a] _ _ hr e0 (hbind s₁ (.ref a)) (.cons rfl .nil) (hsp H hO hS)) fun r s' h=>?_;cases r with
    | error e=>exact (hCX H e s' h).elim
    | ok fl =>
      cases fl with
      | next=>exact False.elim h
      | brk=>exact False.elim h
      | cont=>exact False.elim h
      | ret u =>
        obtain⟨v,H',os,bare,un,hok',r',q⟩:=h;have q':v=.bl true:=q;subst q';obtain rfl:u=Value.bool true:=r';refine⟨rfl,OldK.of_keep fun b o e=>?_,os,bare⟩;cases q:H b with
        | none=>exact un.keep b o e q (by intro z;exact absurd (show b∈([]:List Addr) from z) (by simp)) (by simp)
        | some u =>
          rcases hO b with z | ⟨ob,xs,z⟩
          . rw[q] at z;cases z
          . have z2:=un.frzs b ob _ z
            obtain⟨e1,_⟩:=hok b _ z;obtain⟨e2,_⟩:=hok' b _ z2;rw[e] at e1;cases e1;exact e2
  cases hk:K.lookup a with
  | some o =>
    have e:=KX a o hk;rw[ha] at e;cases e;refine core (fun _=>none) (fun _=>.inl rfl) (.inr ⟨_,vs.toArray,_,hk,rfl,rfl,rfl,by rw[xaf,lenV];exact hl,by simpa using rv⟩) (fun b u z=>by have z':(none:Option HO)=some u:=z;cases z') (fun b z=>absurd rfl z) fun z=>absurd rfl z
  | none =>
    refine core (fun b=>if b=a then some (.frz { cls:=.type "list",data:=.seq vs.toArray } (.lst (ns.map V.int))) else none) (fun b=>?_) (.inl (.inr ⟨{ cls:=.type "list",data:=.seq vs.toArray },if_pos rfl⟩)) (fun b u z=>?_) (fun b z=>?_) fun _=>hk
    . by_cases hb:b=a
      . exact .inr ⟨_,_,if_pos hb⟩
      . exact .inl (if_neg hb)
    . by_cases hb:b=a
      . have z':=(if_pos hb).symm.trans z
        cases z';subst hb;exact⟨ha,by rw[xaa];exact hl,vs,_,rv,ha⟩
      . have z':=(if_neg hb).symm.trans z
        cases z'
    . by_cases hb:b=a
      . exact hb
      . exact absurd (if_neg hb) z
theorem jkZ {l:PySem.W.OpenLaw} {n k:Nat} {q:Program} {loose:List Str} {XP:(Str->Option Value)->Heap->Prop} {YP:World->Heap->Prop} {d:DefRec} {K:Params->PySem.W.Frag} {CX:World->CXT} {sp:World->Sp} {x:Str}
    (hn:l.most=some n) (hn2:n<=sizeLine) (hdf:d.params.defaults=[]) (hr:Room k callerA)
    (hY:∀(w:World) (h:Heap),YP w h->(K w.params).In h)
    (F:∀(w:World) (mg:Str->Option Value) (fa:Addr) (h:Heap),(K w.params).In h->h.Ns mainGlobals mg->mg d.name=some (.ref fa) ->
      ∃ fd : FuncData, (∀ (s : Shared) (u : Value), BindsTo s fd ⟨[u], []⟩ [(x, u)]) /\
        ∀base:Heap,(K w.params).In base->base.Ns mainGlobals mg->FnOk l.prog w (K w.params) mg base (CX w) k fa fd [x] (sp w))
    (hsp:∀(w:World) (H:Hp) (a:Addr) (ns:List Int),ns.length<=n->Only H->SqL (K w.params) H a (ns.map V.int)->sp w [.ref a] H (fun v _=>v=.bl true) fun _ _ _=>False)
    (hCX:∀(w:World) (H:Hp) (s:Shared) (e:Value) (s':Shared),CX w [] H s (fun _ _ _=>False) e s'->False) :
    PySem.W.WalkO q loose XP YP l.row.toRowW d [] (fun f vs=>PySem.call f vs):=by
  refine Att.attach_call hn hdf fun w s₀ s₁ mg mb fa o pm cd doc a vs ns G Y ho hd hcd hmg hobj hints hlen hg=>?_;have KX:=hY w _ Y;obtain⟨fd,hb,hF⟩:=F w mg fa _ KX G.T.g hmg;exact jjf KX G.T.g G.T.b G.T.builtins G.T.nolimit hg hobj hints (xav hlen hn2) hr hF hb (fun H hO hS=>hsp w H a ns hlen hO hS) fun H e s'=>hCX w H s₁ e s'
def jbc (s:Stmt):Arguments:=match s with
 | .FunctionDef _ a _ _ _ _ _ _ _ _=>a
 | _=>{ posonlyargs:=[],args:=[],vararg:=none,kwonlyargs:=[],kw_defaults:=[],kwarg:=none,defaults:=[] }
def jaT (s:Stmt):List Stmt:=match s with
 | .FunctionDef _ _ b _ _ _ _ _ _ _=>b
 | _=>[]
def jad (s:Stmt):Scope:=match s with
 | .FunctionDef _ _ _ _ _ _ sc _ _ _=>sc
 | _=>{ kind:=.function,names:=[],isGenerator:=false,isCoroutine:=false }
abbrev CX0:CXT:=fun _ _ _ _ _ _=>False
abbrev E0:XK:=fun _ _ _=>False
theorem jau {X:Cx}:jfe CX0 X E0:=fun _ _ _ _ _ _ _ h=>h.elim
theorem jhR {n:Nat} (h:n<=1000):n<sizeLine:=xa1 h (by decide)
section
variable {X:Cx}
theorem pv (i:Nat) {x:Str} {pos:Pos} (hN:X.N[i]?=some x:=by rfl) (hv:Vis X.env.scope x:=by first | exact Or.inl rfl | exact Or.inr (Or.inl rfl) | exact Or.inr (Or.inr rfl)) (hd:(x==("__debug__":Str))=false:=by decide)
  (hcd:(x==("__classdict__":Str))=false:=by decide):PE X (.Name x pos) (jkP i):=jmk hN hv hd hcd
end
theorem iteT {A B:Prop} (h:A):if true=true then A else B:=by
 rw[if_pos rfl];exact h
theorem jcK {c A B:Prop} [Decidable c] (h1:c->A) (h2:¬c->B):if c then A else B:=by
 by_cases h:c
 ·rw[if_pos h];exact h1 h
 ·rw[if_neg h];exact h2 h
def Same (H H':Hp):Prop:=∀b o,H b=some o->H' b=some o
theorem Same.refl (H:Hp):Same H H:=fun _ _ h=>h
theorem Same.trans {H H1 H2:Hp} (a:Same H H1) (b:Same H1 H2):Same H H2:=fun c o h=>b c o (a c o h)
theorem Same.free {H H':Hp} (e:Same H H') {l:Addr} (h:H' l=Option.none):H l=Option.none:=by
  cases q:H l with
  | none=>rfl
  | some o =>
    rw[e l o q] at h;cases h
theorem Same.seq {K:PySem.W.Frag} {H H':Hp} {a:Addr} {xs:List V} (e:Same H H') (h:SqL K H a xs):SqL K H' a xs:=by
 rcases h with (h | ⟨o,h⟩) | h
 ·exact .inl (.inl (e _ _ h))
 ·exact .inl (.inr ⟨o,e _ _ h⟩)
 ·exact .inr h
section
variable {prog:Program} {w:World} {A:Around} {R:Result->Shared->Prop} {s:Shared}
theorem jfl {elt target iter:Expr} {ifs:List Expr} {scope:Scope} {pos:Pos} {it acc:Value} {env:Env} (I:Nat->Shared->Prop)
    (turn:∀n s,I n s->wpAny (model prog w) A (pyNext it) (fun r s₁=>match r with
      | none=>R (.ok .next) s₁
      | some v=>wpAny (model prog w) A (letOwnedTupleGo target it v) (fun _ s₁'=>wpAny (model prog w) A (assign target env v) (fun _ s₂ =>
          wpAny (model prog w) A (forIn ifs true fun c r=>if r=true then do let ok <- isTrue c env (eval c env);pure (ForInStep.yield ok) else pure (ForInStep.yield r)) (fun ok s₃ =>
            if ok=true then wpAny (model prog w) A (eval elt env) (fun x s₄ =>
              wpAny (model prog w) A (call (.builtin "list.append") [acc,x]) (fun _ s₅=>∃m,m<n/\I m s₅) (notedBy (model prog w) A env fun e s'=>R (.error e) s') s₄) (notedBy (model prog w) A env fun e s'=>R (.error e) s') s₃
            else ∃m,m<n/\I m s₃) (notedBy (model prog w) A env fun e s'=>R (.error e) s') s₂) (notedBy (model prog w) A env fun e s'=>R (.error e) s') s₁') (notedBy (model prog w) A env fun e s'=>R (.error e) s') s₁) (notedBy (model prog w) A env fun e s'=>R (.error e) s') s)
    (n:Nat) (h:I n s) :
    codeAny (model prog w) A (.compLoop (.ListComp elt [⟨target,iter,ifs,0⟩] scope pos) 0 it acc env) R s:=by
  refine codeAny_loop rfl I (fun n s hI=>?_) n h;show wpAny _ A ((compTurn (.ListComp elt [⟨target,iter,ifs,0⟩] scope pos) 0 it acc env).onRaise (fun x=>do noteFrame x env;theTreesLotGoes x)) _ _ s;refine wpAny_noted ?_;rw[compTurn_list];refine wpAny_bind (wpAny_standAt (wpAny_bind (wpAny_mono (turn n s hI) (fun r s₁ h₁=>?_) fun _ _ h'=>h')));cases r with
  | none=>exact wpAny_pure h₁
  | some v =>
    refine wpAny_bind (wpAny_mono h₁ (fun _ s₁' h₁'=>?_) fun _ _ h'=>h');refine wpAny_bind (wpAny_mono h₁' (fun _ s₂ h₂=>wpAny_bind (wpAny_mono h₂ (fun ok s₃ h₃=>?_) fun _ _ h'=>h')) fun _ _ h'=>h');cases ok with
    | false=>exact wpAny_pure ⟨rfl,h₃⟩
    | true =>
      exact wpAny_bind (wpAny_bind (wpAny_mono h₃ (fun x s₄ h₄=>wpAny_bind (wpAny_mono h₄ (fun _ s₅ h₅=>wpAny_pure (wpAny_pure ⟨rfl,h₅⟩)) fun _ _ h'=>h')) fun _ _ h'=>h'))
end
theorem jdk {env:Env}:∀(names:List (Str × NameKind)) (cs:List (Str × Addr)),(∀y∈names,y.2=.free->∃c,env.cells.lookup y.1=some c) ->
    (∀y c,cs.lookup y=some c->env.cells.lookup y=some c) ->
    ∃cl:List (Str × Addr),(forIn (m:=Sem) names cs fun x r=>do
        if (x.2==NameKind.free)=true then do
          let a <- cellOf env x.1
          pure (ForInStep.yield ((x.1,a)::r))
        else pure (ForInStep.yield r))=pure cl/\(∀y c,cl.lookup y=some c->env.cells.lookup y=some c) /\
      (∀y,((y,NameKind.free)∈names\/∃c,cs.lookup y=some c)->∃c,cl.lookup y=some c)
  | [],cs,_,hc=>⟨cs,rfl,hc,fun y h=>h.elim (fun z=>nomatch z) id⟩
  | (n, k) :: r, cs, hn, hc => by
    by_cases hk:k=.free
    . subst hk
      obtain⟨c,e⟩:=hn (n,.free) xaP rfl;have hc':∀y d,((n,c)::cs).lookup y=some d->env.cells.lookup y=some d:=fun y d q=>by
        rw[xax] at q;cases z:y==n with
        | true =>
          rw[z] at q;have:=beq_iff_eq.mp z;subst this;cases q;exact e
        | false=>rw[z] at q;exact hc y d q
      obtain⟨cl,h1,h2,h3⟩:=jdk r ((n,c)::cs) (fun y hy=>hn y (xan _ hy)) hc';refine⟨cl,?_,h2,fun y hy=>h3 y ?_⟩
      . rw[List.forIn_cons]
        have ec:cellOf env n=pure c:=by unfold cellOf;rw[e]
        show ((if (NameKind.free==NameKind.free)=true then _ else _) >>= _)=_;rw[if_pos (by rfl)];show ((cellOf env n >>= _) >>= _)=_;rw[ec];exact h1
      . rcases hy with hy | ⟨d,hy⟩
        . rcases xaq.mp hy with z | z
          . cases z
            exact .inr ⟨c,by rw[xax,beq_self_eq_true]⟩
          . exact .inl z
        . refine .inr ?_
          rw[xax];cases z:y==n with
          | true=>exact⟨c,rfl⟩
          | false=>exact⟨d,hy⟩
    . obtain⟨cl,h1,h2,h3⟩:=jdk r cs (fun y hy=>hn y (xan _ hy)) hc
      refine⟨cl,?_,h2,fun y hy=>h3 y ?_⟩
      . rw[List.forIn_cons]
        have hb:(k==NameKind.free)=false:=by simpa using hk
        show ((if (k==NameKind.free)=true then _ else _) >>= _)=_;rw[if_neg (by rw[hb];decide)];exact h1
      . rcases hy with hy | hy
        . rcases xaq.mp hy with z | z
          . cases z;exact absurd rfl hk
          . exact .inl z
        . exact .inr hy
theorem jdl {env:Env} {scope:Scope} (hn:∀y∈scope.names,y.2=.free->∃c,env.cells.lookup y.1=some c) :
  ∃cl:List (Str × Addr),closureFor scope env=pure cl/\(∀y c,cl.lookup y=some c->env.cells.lookup y=some c)/\(∀y,(y,NameKind.free)∈scope.names->∃c,cl.lookup y=some c):=by
 obtain⟨cl,h1,h2,h3⟩:=jdk (env:=env) scope.names [] hn (fun y c q=>nomatch q);refine⟨cl,?_,h2,fun y hy=>h3 y (.inl hy)⟩;unfold closureFor;show (_ >>= fun cs=>pure cs)=_;have e:∀m:Sem (List (Str × Addr)),(m >>= fun cs=>pure cs)=m:=fun m=>bind_pure m;rw[e];exact h1
inductive Ixs (N:List Str) (sc cs:Scope):List Str->List Nat->Prop
 | nil:Ixs N sc cs [] []
 | cons {y r j q} (h1:N[j]?=some y) (h2:sc.names.lookup y=some .cell\/sc.names.lookup y=some .free) (h3:cs.names.lookup y=some .free) (t:Ixs N sc cs r q):Ixs N sc cs (y::r) (j::q)
structure CompScope (N:List Str) (sc:Scope) (N':List Str) (ix:List Nat) (x:Str) (r:List Str) (cs:Scope):Prop where
 eq:N'=x::r
 kind:cs.kind=.function
 hcell:∀y∈cs.names,y.2≠.cell
 hnames:∀y∈cs.names,y.2=.local->cs.names.lookup y.1=some .local
 hx:cs.names.lookup x=some .local
 nd:(x::r).Nodup
 fr:∀y∈cs.names,y.2=.free->sc.names.lookup y.1=some .cell\/sc.names.lookup y.1=some .free
 ixs:Ixs N sc cs r ix
def jaG (σ:St) (ix:List Nat):St:=ix.map fun j=>(σ[j]?).getD none
def jke (X:Cx) (N':List Str) (cs:Scope) (cl:List (Str × Addr)) (s3:Shared) (H3:Hp) (fp:List Addr):Cx :=
 { X with N:=N',s₀:=s3,H₀:=H3,env:=compEnvC cs cl s3.heap.objs.size X.env,outer:=X.stack,stack:=X.stack,ex:=fp,fn:=fun _=>false,pn:=[],xe:=fun _ _=>False }
theorem jdx {env:Env} {cs:Scope} (hcell:∀y∈cs.names,y.2≠.cell) {y:Str} {k:NameKind} (h:(relabel cs env).names.lookup y=some k) (hk:k=.cell\/k=.free):(y,NameKind.free)∈cs.names:=by
 have m:=PySem.mem_of_lookup h;obtain⟨⟨n,k0⟩,h1,h2⟩:=xaG.mp m;by_cases c:(k0==NameKind.free&&env.scope.kind==.function&&env.kindOf n==some .cell)=true
 ·have h2':(n,NameKind.cell)=(y,k):=by rw[<- h2];exact (if_pos c).symm
  cases h2';have:k0=.free:=by
   have z:=(xbi.mp (xbi.mp c).1).1;exact beq_iff_eq.mp z
  rw[this] at h1;exact h1
 ·have h2':(n,k0)=(y,k):=by rw[<- h2];exact (if_neg c).symm
  cases h2';rcases hk with rfl | rfl
  ·exact absurd rfl (hcell _ h1)
  ·exact h1
theorem jbd {env:Env}:∀{names:List (Str × NameKind)} {x:Str},names.lookup x=some .free ->
    (names.map fun (n,k)=>if (k==NameKind.free&&env.scope.kind==.function&&env.kindOf n==some .cell) then (n,NameKind.cell) else (n,k)).lookup x=some .cell \/
    (names.map fun (n,k)=>if (k==NameKind.free&&env.scope.kind==.function&&env.kindOf n==some .cell) then (n,NameKind.cell) else (n,k)).lookup x=some .free
  | [],_,h=>by simp at h
  | (n, k) :: r, x, h => by
    have ih:=@jbd env r x;rw[xaI];show List.lookup x ((if (k==NameKind.free&&env.scope.kind==.function&&env.kindOf n==some .cell)=true then (n,NameKind.cell) else (n,k))::_)=_\/List.lookup x ((if (k==NameKind.free&&env.scope.kind==.function&&env.kindOf n==some .cell)=true then (n,NameKind.cell) else (n,k))::_)=_;cases hx:x==n with
    | true =>
      simp only[xax,hx] at h;cases h;by_cases hc:(NameKind.free==NameKind.free&&env.scope.kind==.function&&env.kindOf n==some .cell)=true
      . rw[if_pos hc];exact .inl (by simp only[xax,hx])
      . rw[if_neg hc];exact .inr (by simp only[xax,hx])
    | false =>
      simp only[xax,hx] at h;by_cases hc:(k==NameKind.free&&env.scope.kind==.function&&env.kindOf n==some .cell)=true
      . rw[if_pos hc];simp only[xax,hx];exact ih h
      . rw[if_neg hc];simp only[xax,hx];exact ih h
theorem Ixs.get {N:List Str} {sc cs:Scope}:∀{r:List Str} {ix:List Nat},Ixs N sc cs r ix->∀{i:Nat} {y:Str},r[i]?=some y ->
    ∃j,ix[i]?=some j/\N[j]?=some y/\(sc.names.lookup y=some .cell\/sc.names.lookup y=some .free)/\cs.names.lookup y=some .free
  | _,_,.nil,i,y,h=>by simp at h
  | _,_,.cons h1 h2 h3 t,0,y,h=>by simp at h;subst h;exact⟨_,rfl,h1,h2,h3⟩
  | _, _, .cons h1 h2 h3 t, i + 1, y, h => by
    obtain⟨j,a,b⟩:=Ixs.get t (i:=i) (y:=y) (by simpa using h);exact⟨j,by simpa using a,b⟩
theorem Ixs.len {N:List Str} {sc cs:Scope}:∀{r:List Str} {ix:List Nat},Ixs N sc cs r ix->r.length=ix.length
 | _,_,.nil=>rfl
 | _,_,.cons _ _ _ t=>by rw[xao,xao,t.len]
section
variable {X:Cx} {pins:List (Addr × Obj)} {σ:St} {H:Hp} {s:Shared}
theorem Inv.compOk {N' r:List Str} {ix:List Nat} {x:Str} {cs:Scope} {cl:List (Str × Addr)} {fp:List Addr} (I:Inv X pins σ H s) (S:CompScope X.N X.env.scope N' ix x r cs)
  (h2:∀y c,cl.lookup y=some c->X.env.cells.lookup y=some c) (h3:∀y,(y,NameKind.free)∈cs.names->∃c,cl.lookup y=some c) (hf:∀b∈fp,jfG X pins H b) (hfp:∀b∈fp,b<s.heap.objs.size) :
  (jke X N' cs cl s H fp).Ok where
 mod:=I.ok.mod
 kind:=S.kind
 glob:=I.ok.glob
 blt:=I.ok.blt
 above:=xad _
 inj:=fun a b c ha hb=>I.ok.inj a b c (h2 a c ha) (h2 b c hb)
 has:=fun y hy=>h3 y (hy.elim (fun z=>jdx S.hcell z (.inl rfl)) fun z=>jdx S.hcell z (.inr rfl))
 cab:=fun _ _ z=>nomatch z
 hd:=I.ok.hd
 frames:=I.ok.frames
 stk:=.inl rfl
 exf:=fun b hb=>⟨xam (hfp b hb),fun y c e=>(hf b hb).2.2.2.2.1 y c (h2 y c e)⟩
 bs:=I.bs
 bsz:=xav I.ok.bsz I.sz
 noex:=fun b o e hb=>by
  rcases (hf b hb).2.2.2.1 with z | z
  ·exact I.ok.noex b o e z
  ·exact absurd (xah (Heap.lt_size e) (xav I.ok.bsz z)) (xaW _)
 exfs:=fun b hb hs=>by
  rcases xaq.mp (I.stkSub b hs) with z | z
  ·exact (hf b hb).2.1 z
  ·exact (hf b hb).2.2.1 z
 funs:=I.stack
 frf:=I.stkFree
theorem jdS {σ:St} {ix:List Nat} {i:Nat} {v:V} (h:(jaG σ ix)[i]?=some (some v)):∃j,ix[i]?=some j/\σ[j]?=some (some v):=by
  unfold jaG at h;rw[xag] at h;cases e:ix[i]? with
  | none=>rw[e] at h;cases h
  | some j =>
    rw[e] at h;refine⟨j,rfl,?_⟩;cases q:σ[j]? with
    | none =>
      have h':((σ[j]?).getD none)=some v:=by simpa using h
      rw[q] at h';cases h'
    | some o =>
      have h':((σ[j]?).getD none)=some v:=by simpa using h
      rw[q] at h';cases o with
      | none=>cases h'
      | some u=>cases h';rfl
theorem Inv.compStart {N' r:List Str} {ix:List Nat} {x:Str} {cs:Scope} {cl:List (Str × Addr)} {fp:List Addr} {h1:Heap} {tk:Nat} {m:Str->Option Value} (I:Inv X pins σ H s) (S:CompScope X.N X.env.scope N' ix x r cs)
    (h2:∀y c,cl.lookup y=some c->X.env.cells.lookup y=some c) (h3:∀y,(y,NameKind.free)∈cs.names->∃c,cl.lookup y=some c) (hf:∀b∈fp,jfG X pins H b) (hfp:∀b∈fp,b<s.heap.objs.size)
    (hn:h1.Ns s.heap.objs.size m) (hk:∀b o,s.heap.get? b=some o->h1.get? b=some o) :
    Inv (jke X N' cs cl s H fp) [] (none::jaG σ ix) H { s with heap:=h1,toks:=tk }:=by
  have ok:=I.compOk (N':=N') (fp:=fp) S h2 h3 hf hfp;obtain⟨mo,hno,hlo⟩:=id I.loc;refine⟨ok,rfl,I.bare,Un.kept hk,⟨m,hn,fun i y v e1 e2 e3=>?_⟩,fun y c e=>?_,I.hok.fresh (xad _),fun y c e=>I.freeC y c (h2 y c e),fun p hp=>absurd (show p∈([]:List (Addr × Obj)) from hp) (by simp),I.hok.kept hk,?_⟩
  . cases i with
    | zero=>cases e2
    | succ i =>
      have e1':r[i]?=some y:=by
        have:N'[i+1]?=some y:=e1;rw[S.eq] at this;simpa using this
      obtain⟨j,j1,j2,j3,j4⟩:=S.ixs.get e1';obtain⟨j',k1,k2⟩:=jdS (σ:=σ) (ix:=ix) (i:=i) (v:=v) (by simpa using e2);rw[j1] at k1;cases k1;obtain⟨u,ru,lk⟩:=hlo j y v j2 k2 (j3.elim (fun z=>.inr (.inl z)) fun z=>.inr (.inr z));refine⟨u,ru,?_⟩;obtain⟨c,hc⟩:=h3 y (PySem.mem_of_lookup j4);rcases lk with ⟨k,_⟩ | ⟨k,c',e',z⟩
      . have k':X.env.scope.names.lookup y=some .local:=k
        rcases j3 with q | q<;>(rw[q] at k';cases k')
      . rw[h2 y c hc] at e'
        cases e';refine .inr ⟨?_,c,hc,?_⟩
        . exact jbd (env:=X.env) j4
        . obtain⟨o,ho,hd⟩:=z
          exact⟨o,hk c o ho,hd⟩
  . obtain⟨v,o,ho,hd⟩:=I.cell y c (h2 y c e)
    exact⟨v,o,hk c o ho,hd⟩
  . show (none::jaG σ ix).length=N'.length
    rw[S.eq,xao,xao,S.ixs.len];unfold jaG;rw[xaa]
def PTs (X:Cx) (ifs:List Expr) (t:TT):Prop :=
  ∀ (E : Value -> Shared -> Prop) (pins : List (Addr × Obj)) (s : Shared) (σ : St) (H : Hp) (Q : Bool -> Hp -> Prop), (∀ e s', X.xe e s' -> E e s') -> Inv X pins σ H s -> t σ H Q ->
    wpAny (model X.prog X.w) X.A (forIn ifs true fun c r=>if r=true then do let ok <- isTrue c X.env (eval c X.env);pure (ForInStep.yield ok) else pure (ForInStep.yield r)) (TP X pins σ Q) E s
def jdm:TT:=fun _ H Q=>Q true H
theorem jbe {X:Cx}:PTs X [] jdm:=fun _ _ _ _ H _ _ I h=>wpAny_tests_nil ⟨H,I,h⟩
theorem jhS {X:Cx} {c:Expr} {t:TT} (h:PT X c t):PTs X [c] t:=fun _ pins s σ H Q hE I q=>wpAny_tests_one (wpAny_mono (h pins s σ H Q I q) (fun _ _ z=>z) hE)
def CompGo (J:It) (ρ:St) (g:TG) (tt:TT) (te:TE) (acc:Addr) (Z:Hp->Prop) (H1:Hp):Prop :=
  ∃ W : Nat -> Nat -> List V -> Hp -> Prop, (∃ m, W 0 m [] (upd H1 acc (.lst []))) /\ ∀ i m xs H, W i m xs H ->
    ((J.stop i H /\ Z H) \/ (J.go i H /\ ∃ (Nx : V -> Hp -> Prop) (Nn : Hp -> Prop), (∀ y H4, Nx y H4 -> H4 acc = some (.lst xs) /\ xs.length < sizeLine /\ ∃ m', m' < m /\ W (i + 1) m' (xs ++ [y]) (upd H4 acc (.lst (xs ++ [y])))) /\
      (∀H3,Nn H3->∃m',m'<m/\W (i+1) m' xs H3)/\∀v0 x H',J.yld i H x H'->g x (v0::ρ) H' fun σ2 H2=>(∃v,σ2=v::ρ)/\tt σ2 H2 fun b H3=>if b=true then te σ2 H3 Nx else Nn H3))
end
section
variable {X:Cx} {N' r:List Str} {ix:List Nat} {x:Str} {cs:Scope} {tg iter elt:Expr} {ifs:List Expr} {pos:Pos} {wi:TI} {g:TG} {tt:TT} {te:TE}
def jfm (wi:TI) (ix:List Nat) (g:TG) (tt:TT) (te:TE):TE:=fun σ H Q=>wi σ H fun J H1=>∀acc,H1 acc=none->CompGo J (jaG σ ix) g tt te acc (fun H'=>Q (.ref acc) H') H1
theorem CompScope.clos {sc:Scope} {N:List Str} (S:CompScope N sc N' ix x r cs) {env:Env} (he:env.scope=sc) (has:∀y,(env.kindOf y=some .cell\/env.kindOf y=some .free)->∃c,env.cells.lookup y=some c) :
  ∃cl:List (Str × Addr),closureFor cs env=pure cl/\(∀y c,cl.lookup y=some c->env.cells.lookup y=some c)/\(∀y,(y,NameKind.free)∈cs.names->∃c,cl.lookup y=some c) :=
 jdl fun y hy hk=>has y.1 (by
  subst he;exact S.fr y hy hk)
end
section
variable {ρ:St} {g:TG} {tt:TT} {te:TE} {acc:Addr} {Z:Hp->Prop} {H1:Hp}
theorem jer {lo:Int} {n:Nat} (Pv:Nat->List V->Hp->Prop) (h0:Pv 0 [] (upd H1 acc (.lst [])))
  (hs:∀i xs H,i<n->Pv i xs H->te (some (.int (lo+i))::ρ) H fun y H4=>H4 acc=some (.lst xs)/\xs.length<sizeLine/\Pv (i+1) (xs++[y]) (upd H4 acc (.lst (xs++[y]))))
  (hd:∀xs H,Pv n xs H->Z H):CompGo (Itr lo n) ρ (jcg 0) jdm te acc Z H1:=by
 refine⟨fun i m xs H=>Pv i xs H/\i<=n/\m=n-i,⟨n,h0,xar _,rfl⟩,?_⟩;rintro i m xs H ⟨hp,hi,rfl⟩;by_cases hlt:i<n
 ·refine .inr ⟨hlt,(fun y H4=>H4 acc=some (.lst xs)/\xs.length<sizeLine/\Pv (i+1) (xs++[y]) (upd H4 acc (.lst (xs++[y])))),fun _=>False,fun y H4 q=>⟨q.1,q.2.1,n-(i+1),by omega,q.2.2,hlt,rfl⟩,fun _ z=>z.elim,?_⟩;rintro v0 x H' ⟨rfl,rfl⟩;exact⟨⟨_,rfl⟩,by simp only[jdm,if_true];exact hs i xs H' hlt hp⟩
 ·have:i=n:=by omega
  subst this;exact .inl ⟨xad _,hd xs H hp⟩
theorem jgd {K:PySem.W.Frag} {a:Addr} {zs:List V} (Pv:Nat->List V->Hp->Prop) (h0:Pv 0 [] (upd H1 acc (.lst []))) (hl:∀i xs H,i<=zs.length->Pv i xs H->SqT K H a zs)
  (hs:∀i z xs H,zs[i]?=some z->Pv i xs H->te (some z::ρ) H fun y H4=>H4 acc=some (.lst xs)/\xs.length<sizeLine/\Pv (i+1) (xs++[y]) (upd H4 acc (.lst (xs++[y]))))
  (hd:∀xs H,Pv zs.length xs H->Z H):CompGo (Itt K a) ρ (jcg 0) jdm te acc Z H1:=by
 refine⟨fun i m xs H=>Pv i xs H/\i<=zs.length/\m=zs.length-i,⟨zs.length,h0,xar _,rfl⟩,?_⟩;rintro i m xs H ⟨hp,hi,rfl⟩;have sq:=hl i xs H hi hp;by_cases hlt:i<zs.length
 ·refine .inr ⟨⟨zs,zs[i],sq,xac hlt⟩,(fun y H4=>H4 acc=some (.lst xs)/\xs.length<sizeLine/\Pv (i+1) (xs++[y]) (upd H4 acc (.lst (xs++[y])))),fun _=>False,fun y H4 q=>⟨q.1,q.2.1,zs.length-(i+1),by omega,q.2.2,hlt,rfl⟩,fun _ z=>z.elim,?_⟩;rintro v0 x H' ⟨rfl,hx⟩;exact⟨⟨_,rfl⟩,by simp only[jdm,if_true];exact hs i x xs H' (hx zs sq) hp⟩
 ·have:i=zs.length:=by omega
  subst this;exact .inl ⟨⟨zs,sq,xad _⟩,hd xs H hp⟩
theorem jhT {K:PySem.W.Frag} {a:Addr} {zs:List V} (Pv:Nat->List V->Hp->Prop) (h0:Pv 0 [] (upd H1 acc (.lst []))) (hl:∀i xs H,i<=zs.length->Pv i xs H->SqL K H a zs)
  (hs:∀i z xs H,zs[i]?=some z->Pv i xs H->te (some z::ρ) H fun y H4=>H4 acc=some (.lst xs)/\xs.length<sizeLine/\Pv (i+1) (xs++[y]) (upd H4 acc (.lst (xs++[y]))))
  (hd:∀xs H,Pv zs.length xs H->Z H):CompGo (Itl K a) ρ (jcg 0) jdm te acc Z H1:=by
 refine⟨fun i m xs H=>Pv i xs H/\i<=zs.length/\m=zs.length-i,⟨zs.length,h0,xar _,rfl⟩,?_⟩;rintro i m xs H ⟨hp,hi,rfl⟩;have sq:=hl i xs H hi hp;by_cases hlt:i<zs.length
 ·refine .inr ⟨⟨zs,zs[i],sq,xac hlt⟩,(fun y H4=>H4 acc=some (.lst xs)/\xs.length<sizeLine/\Pv (i+1) (xs++[y]) (upd H4 acc (.lst (xs++[y])))),fun _=>False,fun y H4 q=>⟨q.1,q.2.1,zs.length-(i+1),by omega,q.2.2,hlt,rfl⟩,fun _ z=>z.elim,?_⟩;rintro v0 x H' ⟨rfl,hx⟩;exact⟨⟨_,rfl⟩,by simp only[jdm,if_true];exact hs i x xs H' (hx zs sq) hp⟩
 ·have:i=zs.length:=by omega
  subst this;exact .inl ⟨⟨zs,sq,xad _⟩,hd xs H hp⟩
end
end L2
namespace L2
open PySem PySem.Spec PyProof.Rows
section
variable {X:Cx}
theorem jdn {k:Int} {n:Nat} (h:k.natAbs<2^n):Builtin.Int.intBits k<=n:=by
 unfold Builtin.Int.intBits;split
 ·exact xar _
 ·rename_i h0
  have hk:k.natAbs≠0:=by
   intro z;apply h0;have:k=0:=Int.natAbs_eq_zero.mp z;subst this;rfl
  have:k.natAbs.log2<n:=(Nat.log2_lt hk).mpr h;omega
def Fit (i:Int):Prop:=i.natAbs<2^8000
theorem Fit.mul {i j:Int} (hi:Fit i) (hj:Fit j):IntMulOk i j:=by
 have h1:=jdn hi;have h2:=jdn hj;unfold IntMulOk;intro h;have h3:=(xbi.mp h).2;unfold Builtin.Int.intTooBig at h3;have h4:=of_decide_eq_true h3;have h5:(bitsLine:Int)=134217728:=by decide
 omega
theorem jax:OpR X (binaryOp .Mult) (rI (fun i j=>Fit i/\Fit j) fun i j=>.int (i*j)):=opI fun _ _ _ _ _ _ _ hc q=>mul_int q (hc.1.mul hc.2)
theorem Fit.log {i:Int} (h:Fit i):i.natAbs.log2<9000:=by
 by_cases h0:i.natAbs=0
 ·rw[h0];decide +kernel
 ·have:=(Nat.log2_lt h0).mpr h;omega
theorem jeL:OpR X (binaryOp .FloorDiv) (rI (fun _ j=>0<j/\Fit j) fun i j=>.int (i / j)):=opI fun i j _ _ _ _ _ hc q=>by
 have h1:(0:Int)<j:=hc.1;exact floordiv_int (by omega) (by rw[Int.fdiv_eq_ediv_of_nonneg i (by omega)];exact q) (.inl (PyProof.noPylong_of_log2 hc.2.log))
theorem Fit.of {i:Int} {n:Nat} (h:i.natAbs<2^n) (hn:n<=8000:=by decide):Fit i:=xah h (xbS (by decide) hn)
theorem jbf:CallR X (.builtin "isinstance") (fun xs H Q=>∃x c t b,xs=[x,.ty c]/\TyOf X.K H x t/\PySem.W.kitOne X.K t (.type c)=some b/\Q (.bl b) H):=by
 intro pins s σ H xs us Q I r h;obtain⟨x,c,t,b,rfl,ty,e,q⟩:=h;obtain⟨u,w',rfl,r1,r2⟩:=jja r;cases r2;exact jhF I r1 ty e fun tk=>⟨.bl b,H,I.tok tk,rfl,q⟩
mutual
inductive Rds (K:PySem.W.Frag) (H:Hp):V->PyData->Prop
 | non:Rds K H .non .none
 | bl (b:Bool):Rds K H (.bl b) (.bool b)
 | int (i:Int):Rds K H (.int i) (.int i)
 | str (x:Str):Rds K H (.str x) (.str x)
 | lst {a:Addr} {xs:List V} {ds:List PyData} (h:SqL K H a xs) (t:RdsAll K H xs ds):Rds K H (.ref a) (.list ds)
 | tup {a:Addr} {xs:List V} {ds:List PyData} (h:SqT K H a xs) (t:RdsAll K H xs ds):Rds K H (.ref a) (.tuple ds)
inductive RdsAll (K:PySem.W.Frag) (H:Hp):List V->List PyData->Prop
 | nil:RdsAll K H [] []
 | cons {v:V} {vs:List V} {d:PyData} {ds:List PyData} (h:Rds K H v d) (t:RdsAll K H vs ds):RdsAll K H (v::vs) (d::ds)
end
mutual
theorem Rds.reads {pins:List (Addr × Obj)} {σ:St} {H:Hp} {s:Shared} (I:Inv X pins σ H s):∀{x:V} {d:PyData} {u:Value},Rds X.K H x d->RelV x u->∃as,Reads s.heap u d as
  | _,_,_,.non,r=>by cases r;exact⟨_,.none⟩
  | _,_,_,.bl b,r=>by cases r;exact⟨_,.bool b⟩
  | _,_,_,.int i,r=>by obtain⟨t,rfl⟩:=r;exact⟨_,.int i t⟩
  | _,_,_,.str x,r=>by obtain⟨t,rfl⟩:=r;exact⟨_,.str x t⟩
  | _, _, _, .lst h t, r => by
    cases r;obtain⟨its,rv,pl,_⟩:=I.list h;obtain⟨o,ho,hc,n,hd⟩:=pl.isList;obtain⟨as,q⟩:=RdsAll.reads I t rv;exact⟨_,.list ho hc hd q⟩
  | _, _, _, .tup h t, r => by
    cases r;obtain⟨its,rv,pl,_⟩:=I.tuple h;obtain⟨o,ho,hc,n,hd⟩:=pl;obtain⟨as,q⟩:=RdsAll.reads I t rv;exact⟨_,.tuple ho hc hd q⟩
theorem RdsAll.reads {pins:List (Addr × Obj)} {σ:St} {H:Hp} {s:Shared} (I:Inv X pins σ H s):∀{xs:List V} {ds:List PyData} {us:List Value},RdsAll X.K H xs ds->Vals xs us->∃as,ReadsAll s.heap us ds as
  | _,_,_,.nil,r=>by cases r;exact⟨_,.nil⟩
  | _, _, _, .cons h t, r => by
    cases r with
    | cons r1 r2 =>
      obtain⟨as,q1⟩:=Rds.reads I h r1;obtain⟨bs,q2⟩:=RdsAll.reads I t r2;exact⟨_,.cons q1 q2⟩
end
theorem RdsAll.ints {K:PySem.W.Frag} {H:Hp}:∀ns:List Int,RdsAll K H (ns.map V.int) (ns.map PyData.int)
 | []=>.nil
 | n::r=>.cons (.int n) (RdsAll.ints r)
def jjg (K:PySem.W.Frag) (neg:Bool):R2:=fun x y H Q=>∃dx dy,Rds K H x dx/\Rds K H y dy/\SeqAt.shaped dx=true/\SeqAt.shaped dy=true/\Q (.bl (if neg then !PyData.eqv dx dy else PyData.eqv dx dy)) H
theorem jhU (hu:X.A.units+64<cLine):OpR X (compareOp .Eq) (jjg X.K false):=by
 intro pins s σ H x y v u Q I rx ry ⟨dx,dy,hx,hy,sx,sy,q⟩;obtain⟨as,ra⟩:=hx.reads I rx;obtain⟨bs,rb⟩:=hy.reads I ry;exact eq_dataH ra rb sx sy hu ⟨.bl _,H,I,rfl,q⟩
theorem jcO (hu:X.A.units+64<cLine):OpR X (compareOp .NotEq) (jjg X.K true):=by
 intro pins s σ H x y v u Q I rx ry ⟨dx,dy,hx,hy,sx,sy,q⟩;obtain⟨as,ra⟩:=hx.reads I rx;obtain⟨bs,rb⟩:=hy.reads I ry;exact ne_dataH ra rb sx sy hu ⟨.bl _,H,I,rfl,q⟩
theorem jbK (hc:X.calm=true):CallR X (.builtin "all") (fun xs H Q=>∃(a:Addr) (bs:List Bool),xs=[.ref a]/\SqL X.K H a (bs.map V.bl)/\Q (.bl (bs.all id)) H):=by
  intro pins s σ H xs us Q I r h;obtain⟨a,bs,rfl,hq,q⟩:=h;obtain⟨u,rfl,rx⟩:=jfc r;cases rx;obtain⟨its,rv,pl,hz⟩:=I.list hq;have hl:=pl.isList;have hlt:a<s.heap.objs.size:=by obtain⟨_,e,_⟩:=hl;exact Heap.lt_size e
  refine call_all_walk (wpAny_pyIter_list hl ?_);refine⟨_,[s.heap.objs.size,a],[s.heap.objs.size],_,_,_,fun i=>(bs[i]?).getD true,rfl,Walks.list (A:=X.A.in1) (I.ok.hd hc) _ a (xam hlt) its.toArray,⟨⟨_,Heap.get?_push_size _ rfl,rfl,rfl⟩,hl.push _⟩,?_,?_⟩
  . intro i v s' Q' E' hP hQ
    have hP':its[i]?=some v:=by simpa using hP
    have hb:∃b,bs[i]?=some b/\v=Value.bool b:=by
      cases e:bs[i]? with
      | none =>
        have l1:its.length=(bs.map V.bl).length:=rv.length.symm;rw[xaa] at l1;have l2:=List.getElem?_eq_none_iff.mp e;have l3:=(xaj.mp hP').1;omega
      | some b =>
        obtain⟨u,e1,e2⟩:=rv.get (i:=i) (x:=V.bl b) (by rw[xag,e];rfl);rw[e1] at hP';cases hP';exact⟨b,rfl,e2⟩
    obtain⟨b,eb,rfl⟩:=hb;have hQ2:Q' ((bs[i]?).getD true) s':=hQ;rw[eb] at hQ2;exact wpAny_truthy_bool hQ2
  . intro h' tk hk
    have kp:∀b o,s.heap.get? b=some o->h'.get? b=some o:=fun b o e=>hk b o (fun hm=>by
      rcases xaq.mp hm with e1 | hm
      . exact absurd (e1▸Heap.lt_size e) (xaW _)
      . cases hm) (Heap.get?_push_of_some _ e)
    refine⟨.bl _,H,I.kept kp,rfl,?_⟩;have l1:its.length=bs.length:=by rw[<- rv.length,xaa]
    have ea:(List.range its.toArray.size).all (fun i=>(bs[i]?).getD true)=bs.all id:=by
      rw[xaf,l1,xbA,xbb,xbb];constructor
      . intro h b hb
        obtain⟨i,hi,e⟩:=xbt.mp hb;have z:=h i (xbh.mpr hi);rw[xac hi,e] at z;exact z
      . intro h i hi
        have hi':=xbh.mp hi;rw[xac hi'];exact h _ (xbc hi')
    rw[ea];exact q
end
end L2
namespace L2
open PySem PySem.Spec PyProof.Rows
def Keep {α:Type} (Z:Heap->Prop):Sem α->Prop
 | .pure _=>True
 | .raise _=>True
 | .unsupported _=>True
 | .finish _=>True
 | .rule _ k=>Keep Z (k ())
 | .at _ k=>Keep Z (k ())
 | .load _ _ k=>∀o,Keep Z (k o)
 | .update a _ f k=>(∀h,Z h->Z (h.update a f))/\Keep Z (k ())
 | .alloc o k=>(∀h,Z h->Z (h.push o))/\∀a,Keep Z (k a)
 | .loadIfAlive _ k=>∀o,Keep Z (k o)
 | .point _ k=>Keep Z (k ())
 | .register _ _=>True
 | .fresh k=>∀t,Keep Z (k t)
 | .ask k=>∀x,Keep Z (k x)
 | .choose _ _ k=>∀n,Keep Z (k n)
 | .os _ _ k=>∀r,Keep Z (k r)
 | .call ..=>False
 | .handled _ k=>∀x,Keep Z (k x)
 | .newGen _ k=>∀n,Keep Z (k n)
 | .genState _ k=>∀x,Keep Z (k x)
 | .resume ..=>False
 | .yield ..=>True
 | .stack k=>∀l,Keep Z (k l)
 | .fork ..=>True
 | .thread k=>∀n,Keep Z (k n)
 | .await ..=>True
theorem Keep.bind {α β:Type} {Z:Heap->Prop} {t:Sem α} {g:α->Sem β} (h:Keep Z t) (k:∀a,Keep Z (g a)):Keep Z (t >>= g):=by
 show Keep Z (Sem.bind t g);induction t with
 | pure a=>exact k a
 | raise _=>trivial
 | unsupported _=>trivial
 | finish _=>trivial
 | rule _ _ ih=>exact ih () h
 | «at» _ _ ih=>exact ih () h
 | load _ _ _ ih=>exact fun o=>ih o (h o)
 | update _ _ _ _ ih=>exact⟨h.1,ih () h.2⟩
 | alloc _ _ ih=>exact⟨h.1,fun a=>ih a (h.2 a)⟩
 | loadIfAlive _ _ ih=>exact fun o=>ih o (h o)
 | point _ _ ih=>exact ih () h
 | register _ _ _=>trivial
 | fresh _ ih=>exact fun o=>ih o (h o)
 | ask _ ih=>exact fun o=>ih o (h o)
 | choose _ _ _ ih=>exact fun o=>ih o (h o)
 | os _ _ _ ih=>exact fun o=>ih o (h o)
 | call _ _ _ _ _ _=>exact h.elim
 | handled _ _ ih=>exact fun o=>ih o (h o)
 | newGen _ _ ih=>exact fun o=>ih o (h o)
 | genState _ _ ih=>exact fun o=>ih o (h o)
 | resume _ _ _ _ _=>exact h.elim
 | yield _ _ _ _ _=>trivial
 | stack _ ih=>exact fun o=>ih o (h o)
 | fork _ _ _=>trivial
 | thread _ ih=>exact fun o=>ih o (h o)
 | await _ _ _ _ _ _=>trivial
theorem Keep.wp {α:Type} {Z:Heap->Prop} {M:Model} {Γ:PySem.Ctx} {t:Sem α} (h:Keep Z t):∀{Q:α->Pos->Shared->Prop} {E:Value->Pos->Shared->Prop} {p:Pos} {s:Shared},Z s.heap->Sem.wp M Γ t Q E p s ->
  Sem.wp M Γ t (fun a p s'=>Q a p s'/\Z s'.heap) (fun e p s'=>E e p s'/\Z s'.heap) p s:=by
 induction t with
 | pure a=>intro Q E p s z q;rw[Sem.wp] at q |-;exact⟨q,z⟩
 | raise e=>intro Q E p s z q;rw[Sem.wp] at q |-;exact⟨q,z⟩
 | unsupported _=>intro Q E p s z q;rw[Sem.wp] at q;exact q.elim
 | finish _=>intro Q E p s z q;rw[Sem.wp] at q;exact q.elim
 | rule _ _ ih=>intro Q E p s z q;rw[Sem.wp] at q |-;exact ih () h z q
 | «at» _ _ ih=>intro Q E p s z q;rw[Sem.wp] at q |-;exact ih () h z q
 | load _ _ _ ih=>intro Q E p s z q;rw[Sem.wp] at q |-;obtain⟨o,ho,q⟩:=q;exact⟨o,ho,ih o (h o) z q⟩
 | update _ _ _ _ ih=>intro Q E p s z q;rw[Sem.wp] at q |-;exact⟨q.1,ih () h.2 (h.1 _ z) q.2⟩
 | alloc _ _ ih=>intro Q E p s z q;rw[Sem.wp] at q |-;exact ih _ (h.2 _) (h.1 _ z) q
 | loadIfAlive _ _ ih=>intro Q E p s z q;rw[Sem.wp] at q |-;exact ih _ (h _) z q
 | point _ _ ih=>intro Q E p s z q;rw[Sem.wp] at q |-;exact ih () h z q
 | register _ _ _=>intro Q E p s z q;rw[Sem.wp] at q;exact q.elim
 | fresh _ ih=>intro Q E p s z q;rw[Sem.wp] at q |-;exact ih _ (h _) z q
 | ask _ ih=>intro Q E p s z q;rw[Sem.wp] at q |-;exact ih _ (h _) z q
 | choose _ _ _ ih=>intro Q E p s z q;rw[Sem.wp] at q |-;exact⟨q.1,ih _ (h _) z q.2⟩
 | os _ _ _ ih=>intro Q E p s z q;rw[Sem.wp] at q |-;exact ih _ (h _) z q
 | call _ _ _ _ _ _=>exact h.elim
 | handled _ _ ih=>intro Q E p s z q;rw[Sem.wp] at q |-;exact ih _ (h _) z q
 | newGen _ _ ih=>intro Q E p s z q;rw[Sem.wp] at q |-;exact ih _ (h _) z q
 | genState _ _ ih=>intro Q E p s z q;rw[Sem.wp] at q |-;obtain⟨o,ho,q⟩:=q;exact⟨o,ho,ih _ (h _) z q⟩
 | resume _ _ _ _ _=>exact h.elim
 | yield _ _ _ _ _=>intro Q E p s z q;rw[Sem.wp] at q;exact q.elim
 | stack _ ih=>intro Q E p s z q;rw[Sem.wp] at q |-;exact ih _ (h _) z q
 | fork _ _ _=>intro Q E p s z q;rw[Sem.wp] at q;exact q.elim
 | thread _ ih=>intro Q E p s z q;rw[Sem.wp] at q |-;exact ih _ (h _) z q
 | await _ _ _ _ _ _=>intro Q E p s z q;rw[Sem.wp] at q;exact q.elim
theorem Keep.any {α:Type} {Z:Heap->Prop} {M:Model} {A:Around} {t:Sem α} {Q:α->Shared->Prop} {E:Value->Shared->Prop} {s:Shared} (h:Keep Z t) (z:Z s.heap) (q:wpAny M A t Q E s) :
  wpAny M A t (fun a s'=>Q a s'/\Z s'.heap) (fun e s'=>E e s'/\Z s'.heap) s:=fun Γ p hΓ=>h.wp z (q Γ p hΓ)
def DictAt (e dx:Addr) (h:Heap):Prop:=∃o,h.get? e=some o/\o.dict=some dx
theorem DictAt.push {e dx:Addr} {h:Heap} {o:Obj} (z:DictAt e dx h):DictAt e dx (h.push o):=by
 obtain⟨x,h1,h2⟩:=z;exact⟨x,Heap.get?_push_of_some _ h1,h2⟩
theorem DictAt.update {e dx a:Addr} {h:Heap} {f:Obj->Obj} (hd:∀o,(f o).dict=o.dict) (hf:∀o,o.isFreed=false->(f o).isFreed=false) (z:DictAt e dx h):DictAt e dx (h.update a f):=by
 obtain⟨x,h1,h2⟩:=z;by_cases c:a=e
 ·subst c;exact⟨f x,Heap.get?_update_self f h1 (hf x (Heap.get?_some_iff.mp h1).2),(hd x).trans h2⟩
 ·exact⟨x,(Heap.get?_update_other _ _ c).trans h1,h2⟩
theorem jhV (g:Array Value->Array Value) (o:Obj):(Obj.mapFields g o).dict=o.dict:=by
 obtain⟨c,d,dt,sl⟩:=o;cases dt<;>rfl
theorem jhW (g:Array Value->Array Value) (o:Obj) (h:o.isFreed=false):(Obj.mapFields g o).isFreed=false:=by
 obtain⟨c,d,dt,sl⟩:=o;cases dt<;>first | rfl | exact h
section
variable {e dx:Addr}
theorem jfP (v:Value):Keep (DictAt e dx) (fieldsOf v):=by
  unfold fieldsOf;cases v with
  | ref a =>
    refine fun o=>?_;show Keep _ (match o.data with | .fields vs=>_ | _=>_);cases o.data<;>trivial
  | _=>trivial
theorem jcJ (v:Value) (i:Nat):Keep (DictAt e dx) (field v i):=by
 refine Keep.bind (jfP v) fun vs=>?_;cases vs[i]?<;>trivial
theorem jbZ (v:Value) (i:Nat) (x:Value):Keep (DictAt e dx) (setField v i x):=by
  unfold setField;cases v with
  | ref a =>
    refine fun o=>?_;show Keep _ (match o.data with | .fields vs=>_ | _=>_);cases o.data with
    | fields vs =>
      show Keep _ (if i<vs.size then _ else _);split
      . exact⟨fun h z=>z.update (jhV _) (jhW _),trivial⟩
      . trivial
    | _=>trivial
  | _=>trivial
theorem jcW (v:Value) (f:Option Addr):Keep (DictAt e dx) (setFlight v f):=by
 refine Keep.bind (jcJ v 1) fun tb=>?_;split
 ·exact jbZ _ _ _
 ·trivial
theorem jek (T:String) (vs:List Value):Keep (DictAt e dx) (newFields T vs):=by
 unfold newFields newObj;have k:Keep (DictAt e dx) (newObjAsIs (.type T) (.fields vs.toArray)):=⟨fun h z=>z.push,fun a=>trivial⟩;show Keep (DictAt e dx) (if vs.toArray.size>sizeLine+2 then _ else newObjAsIs (.type T) (.fields vs.toArray));split
 ·trivial
 ·exact k
theorem jhX (env:Env) (b:Bool) (l:List Env):Keep (DictAt e dx) (keptBack env b l):=by
  cases l with
  | nil =>
    show Keep (DictAt e dx) (if (env.scope.isGenerator||env.scope.isCoroutine)=true then _ else _);split
    . trivial
    . refine Keep.bind (t:=underTheClaimsCaller) ?_ fun c=>trivial
      exact fun l=>trivial
  | cons x r=>trivial
theorem jfQ (env:Env) (l:List Env):Keep (DictAt e dx) (behindIsImport env l):=by
 unfold behindIsImport;split
 ·trivial
 ·split
  ·trivial
  ·exact Keep.bind (jcJ _ _) fun _=>trivial
theorem jes:∀l:List Env,Keep (DictAt e dx) (readyFrames l)
  | []=>trivial
  | env :: outer => by
    unfold readyFrames;cases env.frame with
    | none=>trivial
    | some f =>
      refine fun o=>?_;show Keep (DictAt e dx) (if (o.slots.getD 3 none).isSome=true then _ else _);split
      . trivial
      . refine Keep.bind (jfQ _ _) fun b=>Keep.bind (jhX _ _ _) fun c=>⟨fun h z=>z.update (fun o=>rfl) (fun o ho=>?_),jes outer⟩
        obtain⟨c',d',dt,sl⟩:=o;cases dt<;>first | rfl | exact ho
theorem jfn (env:Env):Keep (DictAt e dx) (PySem.frameOf env):=by
 unfold PySem.frameOf;refine Keep.bind (fun l=>trivial) fun l=>Keep.bind ?_ fun x=>?_
 ·unfold frameObject;cases l.dropWhile (·.frame != env.frame) with
  | nil=>trivial
  | cons x r=>exact Keep.bind (jes _) fun _=>trivial
 ·cases x<;>trivial
theorem jg0 (f:Addr) (b:Bool):Keep (DictAt e dx) (entryPlaceOf f b):=by
 refine fun acts=>?_;show Keep _ (match acts.find? _ with | some (_,pos)=>_ | none=>_);split<;>trivial
theorem jfo (v:Value) (env:Env):Keep (DictAt e dx) (noteFrame v env):=by
  unfold noteFrame;cases env.frame with
  | none=>trivial
  | some f =>
    refine Keep.bind (jcJ v 1) fun head=>?_;have last:Keep (DictAt e dx) (do setField v 1 (<- EntryCells.newEntry head (<- PySem.frameOf env) .none (rawInt f) .none (<- entryPlaceOf f (head != .none)))) :=
      Keep.bind (jfn env) fun a=>Keep.bind (jg0 _ _) fun pl=>Keep.bind (jek _ _) fun b=>jbZ _ _ _
    show Keep (DictAt e dx) (if (head != Value.none)=true then _ else _);split
    . refine Keep.bind (jcJ _ _) fun x=>?_
      split
      . trivial
      . exact Keep.bind (jbZ _ _ _) fun _=>last
    . exact last
theorem jfp (env:Env) (v:Value):Keep (DictAt e dx) (leaving env v):=Keep.bind (jfo v env) fun _=>jcW v none
end
def XOk (P:Program) (w:World):CXT:=fun outer H s E e s'=>∃(ea C:Addr) (a0:Value) (H':Hp) (B:Heap) (pd:Option Addr),e=.ref ea/\Heap.FlyingW B outer ea (.ref C) a0 s'.heap/\s'.os=s.os/\AllBare s'.gens /\
 Un (frs outer) [] H H' s.heap s'.heap/\HOk P w H' B/\(∀b o,s.heap.get? b=some o->H b=none->b∉frs outer->B.get? b=some o)/\(∀b o,s.heap.get? b=some o->b∉frs outer->∃o',B.get? b=some o')/\(∀dx,pd=some dx->DictAt ea dx s'.heap)/\E (.ref C) pd H'
structure Top1 (X:Cx):Prop where
 stk:X.stack=X.env::X.outer
 frm:X.env.frame=some X.env.locals
 ex:X.ex=[]
section
variable {X:Cx} {pins:List (Addr × Obj)} {σ:St} {H:Hp} {s:Shared}
theorem Top1.mem (T:Top1 X) {b:Addr}:b∈frs X.stack↔b=X.env.locals\/b∈X.fs:=by
 rw[T.stk];unfold frs;rw[xbw,T.frm];exact xaq
def XP (X:Cx) (pins:List (Addr × Obj)) (σ:St) (E:XK) (ex:Value) (s':Shared):Prop:=∃H1 s1,Inv X pins σ H1 s1/\XOk X.prog X.w X.stack H1 s1 E ex s'
abbrev TX:=St->Hp->VK->XK->Prop
def PX (X:Cx) (e:Expr) (t:TX):Prop :=
 ∀(pins:List (Addr × Obj)) (s:Shared) (σ:St) (H:Hp) (Q:VK) (E:XK),Inv X pins σ H s->t σ H Q E->wpAny (model X.prog X.w) X.A (eval e X.env) (EP X pins σ Q) (XP X pins σ E) s
theorem jk1 {k:Nat} {f:Addr} {fd:FuncData} {ps:List Str} {sp:Sp} {dvs:List V} {ds:List Value} {x:Str} {p pos:Pos} {e:Expr} {es:List Expr} {t:TA}
    (F:FnOk X.prog X.w X.K X.mg X.base (XOk X.prog X.w) k f fd ps sp) (hr:Room k X.A) (hg:Gl X x) (hm:X.mg x=some (.ref f)) (hk:PySem.W.keepIn X.K (.ref f)=true) (hb:Binds X.K fd ps ds) (hd:Vals dvs ds)
    (ha:PA X.nox (e::es) t) (hdb:(x==("__debug__":Str))=false:=by decide) (he:starEach (e::es) X.env=(false,eval e X.env)::starEach es X.env:=by rfl) (hpl:(backTo pos (starEach es X.env)).any (·.1)=false:=by rfl) :
    PX X (.Call (.Name x p) (e::es) [] pos) (fun σ H Q E=>t σ H fun vs H1=>sp (vs++dvs) H1 Q E):=by
  intro pins s σ H Q E I h;refine wpAny_Call_Name_kw (jdK I hg hm ?_ hdb);refine PySem.W.callWith_K (h₀:=X.base) I.ok.mod.kin hk (wpAny_mono (ha pos pins s σ H _ (I.wish _) h) (fun us s1 ⟨vs,H1,I1',r,q⟩=>?_) fun _ _ z=>z.elim) he hpl;have I1:Inv X pins σ H1 s1:=I1'.unwish;refine⟨I1.kIn,?_⟩;have r2:Vals (vs++dvs) (us++ds):=r.append hd;have hl:(us++ds).length=ps.length:=by rw[<- r2.length];exact F.len _ _ _ _ q
  refine wpAny_call (codeAny_mono (F.run X.A X.stack s1 H1 ⟨us,[]⟩ (us++ds) (vs++dvs) Q E hr I1.env0 (hb s1 us I1.kIn hl) r2 q) fun r s' hq=>?_);cases r with
  | error e=>exact⟨H1,s1,I1,hq⟩
  | ok fl =>
    cases fl with
    | ret u=>exact I1.after hq
    | next=>exact False.elim hq
    | brk=>exact False.elim hq
    | cont=>exact False.elim hq
abbrev TSX:=Ends->(St->XK)->St->Hp->Prop
def PSX (X:Cx) (st:List Stmt) (t:TSX):Prop :=
 ∀(pins:List (Addr × Obj)) (s:Shared) (σ:St) (H:Hp) (D:Ends) (E:St->XK),Inv X pins σ H s->t D E σ H->wpAny (model X.prog X.w) X.A (execs st X.env) (SP X pins D) (fun ex s'=>∃σ1,XP X pins σ1 (E σ1) ex s') s
theorem jk2 {i:Nat} {y:Str} {e:Expr} {t:TX} {py pos:Pos} (hN:X.N.Nodup) (hi:X.N[i]?=some y) (hx:Loc X.env.scope y) (he:PX X e t) (hs:swapsWith e (some (.Name y py)) pos.line X.env=pure false:=by rfl)
  (hf:X.fn y=true\/X.env.scope.names.lookup y=some .local:=by first | exact .inl rfl | exact .inr rfl | assumption) :
  PSX X [.Assign [.Name y py] e pos] (fun D E σ H=>t σ H (fun v H1=>D.nx (σ.set i (some v)) H1) (E σ)):=by
 intro pins s σ H D E I h;refine wpAny_execs_cons (wpAny_Assign_Name (wpAny_mono (he pins s σ H _ (E σ) I h) (fun u s1 ⟨v,H1,I1,r,q⟩=>?_) fun ex s' z=>⟨σ,z⟩) hs);exact jcG I1 hN hi hx r (fun s2 I2=>wpAny_execs_nil ⟨_,H1,I2,q⟩) hf
def Cx.caught (X:Cx) (e:Value):Cx:={ X with A:=X.A.mark (some e),calm:=false,xe:=fun _ _=>False }
theorem Inv.caught (I:Inv X pins σ H s) (e:Value) (hfr:(X.A.mark (some e)).frames=X.A.frames:=by rfl):Inv (X.caught e) pins σ H s :=
 ⟨⟨I.ok.mod,I.ok.kind,I.ok.glob,I.ok.blt,I.ok.above,I.ok.inj,I.ok.has,I.ok.cab,(fun z=>nomatch z),hfr.trans I.ok.frames,I.ok.stk,I.ok.exf,I.ok.bs,I.ok.bsz,I.ok.noex,I.ok.exfs,I.ok.funs,I.ok.frf⟩,I.os,I.bare,I.base,I.loc,I.cell,I.free,I.freeC,I.pin,I.hok,I.len⟩
theorem Inv.uncaught {e:Value} (ok:X.Ok) (I:Inv (X.caught e) pins σ H s):Inv X pins σ H s:=⟨ok,I.os,I.bare,I.base,I.loc,I.cell,I.free,I.freeC,I.pin,I.hok,I.len⟩
theorem SP.uncaught {e:Value} {D:Ends} {f:Flow} {s':Shared} (ok:X.Ok) (h:SP (X.caught e) pins D f s'):SP X pins D f s':=by
 cases f with
 | next=>obtain⟨a,b,I,q⟩:=h;exact⟨a,b,I.uncaught ok,q⟩
 | brk=>obtain⟨a,b,I,q⟩:=h;exact⟨a,b,I.uncaught ok,q⟩
 | cont=>obtain⟨a,b,I,q⟩:=h;exact⟨a,b,I.uncaught ok,q⟩
 | ret u=>obtain⟨v,a,b,I,r,q⟩:=h;exact⟨v,a,b,I.uncaught ok,r,q⟩
theorem Inv.landed {s':Shared} {H':Hp} {B h5:Heap} (T:Top1 X) (I:Inv X pins σ H s) (os:s'.os=s.os) (ba:AllBare s'.gens) (un:Un (frs X.stack) [] H H' s.heap s'.heap) (hk:HOk X.prog X.w H' B)
  (kb:∀b o,s.heap.get? b=some o->H b=none->b∉frs X.stack->B.get? b=some o) (tb:∀b o,s.heap.get? b=some o->b∉frs X.stack->∃o',B.get? b=some o')
  (st:B.StaysIn h5) (sm:s'.heap.UpToSlots h5) (ff:s'.heap.FunFrames B X.stack):Inv X pins σ H' { s' with heap:=h5 }:=by
 have n0:∀b:Addr,b∉([]:List Addr):=fun b z=>nomatch z;have slot:∀b,b∈frs X.stack->∀o,s'.heap.get? b=some o->∃sl,h5.get? b=some { o with slots:=sl }:=fun b hb o e=>by
  obtain⟨_,o2,e2,nf⟩:=ff.mem hb;rw[e] at e2;cases e2;exact sm b o e nf
 refine I.call' (s':={ s' with heap:=h5 }) (ch:=[]) os ⟨fun b o e n hb _=>st b o (kb b o e n hb),fun b o e n hb _=>?_,fun b o e n _=>un.free b o e n (n0 b),fun b o e _=>?_,un.tups,un.frzs,un.tbls⟩ (hk.kept st) ba fun b hb=>nomatch hb
 ·obtain⟨sl,e1⟩:=un.slot b o e n hb (n0 b);obtain⟨sl2,e2⟩:=slot b hb _ e1;exact⟨sl2,e2⟩
 ·by_cases hb:b∈frs X.stack
  ·obtain⟨o1,e1⟩:=un.there b o e (n0 b);obtain⟨sl,e2⟩:=slot b hb o1 e1;exact⟨_,e2⟩
  ·obtain⟨o1,e1⟩:=tb b o e hb;exact⟨o1,st b o1 e1⟩
end
section
variable {P:Program} {w:World} {K:PySem.W.Frag} {mg:Str->Option Value} {base:Heap}
abbrev cxX (P:Program) (w:World) (K:PySem.W.Frag) (mg:Str->Option Value) (base:Heap) (N:List Str) (qual:Str) (scope:Scope) (f:Addr) (cd:Value) (A:Around) (outer:List Env) (s:Shared) (H:Hp) (E:XK):Cx:=jga (XOk P w) P w K mg base N qual scope f cd A outer s H E
theorem jhY {N:List Str} {qual:Str} {scope:Scope} {f:Addr} {cd:Value} {A:Around} {outer:List Env} {s:Shared} {H:Hp} {E:XK} {CX:CXT}:Top1 (jga CX P w K mg base N qual scope f cd A outer s H E):=⟨rfl,rfl,rfl⟩
theorem jk3 {X:Cx} (T:Top1 X):Top1 X.nox:=⟨T.stk,T.frm,T.ex⟩
structure FunD (K:PySem.W.Frag) (x qual:Str) (st:Stmt) (f:Addr) (fd:FuncData) (dV:Value):Prop where
 ex:∃(oc:Value) (od:Option Addr) (kV doc pm:Value) (an:Option Addr) (cdv ct:Value) (osl:Array (Option Value)),
  fd=PySem.W.fnOf x qual (jbc st) (jaT st) (jad st) dV kV doc pm an cdv ct/\K.lookup f=some ⟨oc,od,.func fd,osl⟩/\PySem.W.codeIn K cdv qual=true
 kp:PySem.W.keepIn K (.ref f)=true
theorem FunD.okX {x qual:Str} {st:Stmt} {f:Addr} {fd:FuncData} {dV:Value} {N ps:List Str} {k:Nat} {sp:Sp} (F:FunD K x qual st f fd dV) (S:FnScope N ps (jad st)) (len:∀vs H Q E,sp vs H Q E->vs.length=ps.length)
  (hbody:∀(cdv:Value) (A:Around) (outer:List Env) (s:Shared) (H:Hp) (vs:List V) (Q:VK) (E:XK),Room k (A.deeper (envOfC qual (jad st) s.heap.objs.size f cdv))->sp vs H Q E ->
   ∃t,PSs (cxX P w K mg base N qual (jad st) f cdv A outer s H E) (jaT st) t/\t { nx:=fun _ H'=>Q .non H',rt:=Q } (jck N vs) H):FnOk P w K mg base (XOk P w) (k+1) f fd ps sp:=by
 obtain⟨oc,od,kV,doc,pm,an,cdv,ct,osl,rfl,lk,hcd⟩:=F.ex;exact jmv lk hcd S len fun A outer s H vs Q E hr hsp=>hbody cdv A outer s H vs Q E hr hsp
theorem FunD.ok {x qual:Str} {st:Stmt} {f:Addr} {fd:FuncData} {dV:Value} {N ps:List Str} {k:Nat} {sp:Sp} (F:FunD K x qual st f fd dV) (S:FnScope N ps (jad st)) (len:∀vs H Q E,sp vs H Q E->vs.length=ps.length)
  (hbody:∀(cdv:Value) (A:Around) (outer:List Env) (s:Shared) (H:Hp) (vs:List V) (Q:VK) (E:XK),Room k (A.deeper (envOfC qual (jad st) s.heap.objs.size f cdv))->sp vs H Q E ->
   ∃t,PSs (jga CX0 P w K mg base N qual (jad st) f cdv A outer s H E).nox (jaT st) t/\t { nx:=fun _ H'=>Q .non H',rt:=Q } (jck N vs) H):FnOk P w K mg base CX0 (k+1) f fd ps sp:=by
 obtain⟨oc,od,kV,doc,pm,an,cdv,ct,osl,rfl,lk,hcd⟩:=F.ex;refine jmv lk hcd S len fun A outer s H vs Q E hr hsp=>?_;obtain⟨t,h,q⟩:=hbody cdv A outer s H vs Q E hr hsp;exact⟨t,h.nox,q⟩
theorem jeM {x qual:Str} {st:Stmt} {f:Addr} {oc dV:Value} {od an:Option Addr} {osl:Array (Option Value)} {kV doc pm cdv ct:Value} (l:K.lookup f=some ⟨oc,od,.func (PySem.W.fnOf x qual (jbc st) (jaT st) (jad st) dV kV doc pm an cdv ct),osl⟩)
  (c:PySem.W.codeIn K cdv qual=true) (k:PySem.W.keepIn K (.ref f)=true):FunD K x qual st f (PySem.W.fnOf x qual (jbc st) (jaT st) (jad st) dV kV doc pm an cdv ct) dV:=⟨⟨oc,od,kV,doc,pm,an,cdv,ct,osl,rfl,l,c⟩,k⟩
end
def At (K:PySem.W.Frag) (mg:Str->Option Value) (x:Str) (st:Stmt) (ps:List Str) (dvs:List V):Prop :=
 ∃f fd dV ds,FunD K x x st f fd dV/\mg x=some (.ref f)/\Binds K fd ps ds/\Vals dvs ds
def jam (P:Program) (w:World) (K:PySem.W.Frag) (mg:Str->Option Value) (base:Heap) (CX:CXT) (k:Nat) (x:Str) (ps:List Str) (dvs:List V) (sp:Sp):Prop :=
 ∃f fd ds,FnOk P w K mg base CX k f fd ps sp/\mg x=some (.ref f)/\PySem.W.keepIn K (.ref f)=true/\Binds K fd ps ds/\Vals dvs ds
section
variable {P:Program} {w:World} {K:PySem.W.Frag} {mg:Str->Option Value} {base:Heap}
theorem At.ok {x:Str} {st:Stmt} {N ps:List Str} {dvs:List V} {k:Nat} {sp:Sp} (F:At K mg x st ps dvs) (S:FnScope N ps (jad st)) (len:∀vs H Q E,sp vs H Q E->vs.length=ps.length)
  (hbody:∀(f:Addr) (cdv:Value) (A:Around) (outer:List Env) (s:Shared) (H:Hp) (vs:List V) (Q:VK) (E:XK),Room k (A.deeper (envOfC x (jad st) s.heap.objs.size f cdv))->sp vs H Q E ->
   ∃t,PSs (jga CX0 P w K mg base N x (jad st) f cdv A outer s H E).nox (jaT st) t/\t { nx:=fun _ H'=>Q .non H',rt:=Q } (jck N vs) H):jam P w K mg base CX0 (k+1) x ps dvs sp:=by
 obtain⟨f,fd,dV,ds,F1,hm,hb,hd⟩:=F;exact⟨f,fd,ds,F1.ok S len (hbody f),hm,F1.kp,hb,hd⟩
theorem At.okX {x:Str} {st:Stmt} {N ps:List Str} {dvs:List V} {k:Nat} {sp:Sp} (F:At K mg x st ps dvs) (S:FnScope N ps (jad st)) (len:∀vs H Q E,sp vs H Q E->vs.length=ps.length)
  (hbody:∀(f:Addr) (cdv:Value) (A:Around) (outer:List Env) (s:Shared) (H:Hp) (vs:List V) (Q:VK) (E:XK),Room k (A.deeper (envOfC x (jad st) s.heap.objs.size f cdv))->sp vs H Q E ->
   ∃t,PSs (cxX P w K mg base N x (jad st) f cdv A outer s H E) (jaT st) t/\t { nx:=fun _ H'=>Q .non H',rt:=Q } (jck N vs) H):jam P w K mg base (XOk P w) (k+1) x ps dvs sp:=by
 obtain⟨f,fd,dV,ds,F1,hm,hb,hd⟩:=F;exact⟨f,fd,ds,F1.okX S len (hbody f),hm,F1.kp,hb,hd⟩
end
section
variable {X:Cx} {CX:CXT} {k:Nat} {ps:List Str} {sp:Sp} {dvs:List V} {E:XK} {x:Str} {p pos:Pos} {e:Expr} {es:List Expr} {t:TA}
theorem jah (D:jam X.prog X.w X.K X.mg X.base CX k x ps dvs sp) (hr:Room k X.A) (hg:Gl X x) (hx:jfe CX X E) (ha:PA X (e::es) t) (hdb:(x==("__debug__":Str))=false:=by decide)
  (he:starEach (e::es) X.env=(false,eval e X.env)::starEach es X.env:=by rfl) (hpl:(backTo pos (starEach es X.env)).any (·.1)=false:=by rfl):PE X (.Call (.Name x p) (e::es) [] pos) (jgU sp dvs E t):=by
 obtain⟨f,fd,ds,F,hm,hk,hb,hd⟩:=D;exact jkY F hr hg hm hk hb hd hx ha hdb he hpl
theorem jjh (D:jam X.prog X.w X.K X.mg X.base (XOk X.prog X.w) k x ps dvs sp) (hr:Room k X.A) (hg:Gl X x) (ha:PA X.nox (e::es) t) (hdb:(x==("__debug__":Str))=false:=by decide)
  (he:starEach (e::es) X.env=(false,eval e X.env)::starEach es X.env:=by rfl) (hpl:(backTo pos (starEach es X.env)).any (·.1)=false:=by rfl):PX X (.Call (.Name x p) (e::es) [] pos) (fun σ H Q E=>t σ H fun vs H1=>sp (vs++dvs) H1 Q E):=by
 obtain⟨f,fd,ds,F,hm,hk,hb,hd⟩:=D;exact jk1 F hr hg hm hk hb hd ha hdb he hpl
theorem ix_lt:IxR X (fun x y H Q=>jma X.K x y H Q\/ji3 X.K x y H Q):=ix_list.or jan
theorem jk4:MtR X "int.bit_length" (fun x xs H Q=>∃i,x=.int i/\xs=[]/\Q (.int (Builtin.Int.intBits i:Nat)) H):=by
 intro pins s σ H x xs v us Q I rx rv h;obtain⟨i,rfl,rfl,q⟩:=h;obtain⟨t,rfl⟩:=rx;cases rv;refine wpAny_call (codeAny_call_builtin F.slot_int_bit_length.plain F.entry_int_bit_length (F.slot_int_bit_length.check _ _ _ _ _ _ _ _ (typeIs_int s i t) (F.args_int_bit_length_1 _) (AutoIntG2.int_bit_length_int_0 i t _ _ _ (wants _ _) s ?_)));exact⟨.int _,H,I.tok _,⟨_,rfl⟩,q⟩
end
theorem jg1 {k:Nat} {A:Around} (hr:Room k A):A.units+64<cLine:=hr.units
theorem Same.tup {K:PySem.W.Frag} {H H':Hp} {a:Addr} {xs:List V} (e:Same H H') (h:SqT K H a xs):SqT K H' a xs:=by
 rcases h with (h | ⟨o,h⟩) | h
 ·exact .inl (.inl (e _ _ h))
 ·exact .inl (.inr ⟨o,e _ _ h⟩)
 ·exact .inr h
theorem Same.new {H:Hp} {p:Addr} (h:H p=none) (o:HO):Same H (upd H p o):=fun b u q=>by rw[jaA (jaz q h)];exact q
theorem at_mk {K:PySem.W.Frag} {h:Heap} {mg:Str->Option Value} {x:Str} {st:Stmt} {ps:List Str} {f:Addr} {oc kV doc pm cdv ct:Value} {od an:Option Addr} {osl:Array (Option Value)} (X:K.In h) (G:h.Ns mainGlobals mg)
  (hb:∀(kV doc pm:Value) (an:Option Addr) (cdv ct:Value) (us:List Value),us.length=ps.length->bindArgs (PySem.W.fnOf x x (jbc st) (jaT st) (jad st) .none kV doc pm an cdv ct) ⟨us,[]⟩=pure (ps.zip us))
  (a:PySem.W.nsIn K mainGlobals x=some (some (.ref f))) (l:K.lookup f=some ⟨oc,od,.func (PySem.W.fnOf x x (jbc st) (jaT st) (jad st) .none kV doc pm an cdv ct),osl⟩) (c:PySem.W.codeIn K cdv x=true) (k:PySem.W.keepIn K (.ref f)=true) :
  At K mg x st ps []:=⟨f,_,.none,[],jeM l c k,PySem.W.mg_of X G a,.all (hb kV doc pm an cdv ct),.nil⟩
theorem jge {K:PySem.W.Frag} {h:Heap} {mg:Str->Option Value} {x:Str} {st:Stmt} {ps:List Str} {f D:Addr} {oc kV doc pm cdv ct:Value} {od an:Option Addr} {osl:Array (Option Value)} {oD:Obj} {items:Array Value} {n:Nat} {dvs:List V} {ds:List Value} (X:K.In h) (G:h.Ns mainGlobals mg)
  (hb:∀(kV doc pm:Value) (an:Option Addr) (cdv ct:Value) (us:List Value),(us++ds).length=ps.length->∃kk,bindArgs (PySem.W.fnOf x x (jbc st) (jaT st) (jad st) (.ref D) kV doc pm an cdv ct) ⟨us,[]⟩=(seqItems? (.ref D) >>= kk)/\kk (some items)=pure (ps.zip (us++ds)))
  (a:PySem.W.nsIn K mainGlobals x=some (some (.ref f))) (l:K.lookup f=some ⟨oc,od,.func (PySem.W.fnOf x x (jbc st) (jaT st) (jad st) (.ref D) kV doc pm an cdv ct),osl⟩) (c:PySem.W.codeIn K cdv x=true) (k:PySem.W.keepIn K (.ref f)=true)
  (lD:K.lookup D=some oD) (hD:oD.data=.seq items n) (hv:Vals dvs ds):At K mg x st ps dvs :=
 ⟨f,_,.ref D,ds,jeM l c k,PySem.W.mg_of X G a,fun s us KX hl=>by
  obtain⟨kk,h1,h2⟩:=hb kV doc pm an cdv ct us hl;exact BindsTo.of_defaults rfl (KX _ _ lD) hD h1 h2,hv⟩
section
variable {X:Cx} {st:Stmt} {rest:List Stmt} {t u:TS}
def Rest (M:St->Hp->Prop) (u:TS) (D:Ends):Prop:=∀σ' H',M σ' H'->u D σ' H'
def jmb (M:St->Hp->Prop) (t u:TS):TS:=fun D σ H=>t { D with nx:=M } σ H/\Rest M u D
theorem ja2 (M:St->Hp->Prop) (h1:PS X st t) (h2:PSs X rest u):PSs X (st::rest) (jmb M t u):=by
  intro pins s σ H D I h;refine wpAny_execs_cons (thn (h1 pins s σ H { D with nx:=M } I h.1) fun f s1 q=>?_);cases f with
  | next =>
    obtain⟨σ',H',I',q⟩:=q;exact h2 pins s1 σ' H' D I' (h.2 σ' H' q)
  | ret v=>exact q
  | brk=>exact q
  | cont=>exact q
end
def Bd (n:Nat) (i:Int):Prop:=i.natAbs<2^n
theorem Bd.mul {n m:Nat} {i j:Int} (hi:Bd n i) (hj:Bd m j):Bd (n+m) (i*j):=by
 unfold Bd at *
 rw[xb2,Nat.pow_add];exact Nat.mul_lt_mul_of_lt_of_le hi (xaO hj) (Nat.two_pow_pos m)
theorem Bd.mono {n m:Nat} {i:Int} (hi:Bd n i) (h:n<=m:=by decide):Bd m i:=xah hi (xbS (by decide) h)
theorem Bd.add {n:Nat} {i j:Int} (hi:Bd n i) (hj:Bd n j):Bd (n+1) (i+j):=by
 unfold Bd at *
 rw[Nat.pow_succ];have:=Int.natAbs_add_le i j;omega
theorem Bd.sub {n:Nat} {i j:Int} (hi:Bd n i) (hj:Bd n j):Bd (n+1) (i-j):=by
 unfold Bd at *
 rw[Nat.pow_succ];have:=Int.natAbs_sub_le i j;omega
theorem Bd.neg {n:Nat} {i:Int} (hi:Bd n i):Bd n (-i):=by unfold Bd at *;rw[xb3];exact hi
theorem Bd.fit {n:Nat} {i:Int} (hi:Bd n i) (h:n<=8000:=by decide):Fit i:=xah hi (xbS (by decide) h)
theorem Bd.of {i:Int} (h1:-1606938044258990275541962092341162602522202993782792835301376<i) (h2:i<1606938044258990275541962092341162602522202993782792835301376):Bd 200 i:=by
 unfold Bd;have e:(2^200:Nat)=1606938044258990275541962092341162602522202993782792835301376:=by decide
 rw[e];omega
theorem Fit.o {i:Int} (h1:-1606938044258990275541962092341162602522202993782792835301376<i) (h2:i<1606938044258990275541962092341162602522202993782792835301376):Fit i:=(Bd.of h1 h2).fit
def gk {α:Type} (n m:Nat) (us ws:List α):List α:=if us.length=n/\ws.length=m then us++ws else []
def AtK (K:PySem.W.Frag) (mg:Str->Option Value) (x:Str) (st:Stmt) (ps ks:List Str) (n m:Nat):Prop :=
 ∃f fd dV,FunD K x x st f fd dV/\mg x=some (.ref f)/\KBinds K fd ps ks (gk n m) (gk n m)
def jmz (P:Program) (w:World) (K:PySem.W.Frag) (mg:Str->Option Value) (base:Heap) (CX:CXT) (k:Nat) (x:Str) (ps ks:List Str) (n m:Nat) (sp:Sp):Prop :=
 ∃f fd,FnOk P w K mg base CX k f fd ps sp/\mg x=some (.ref f)/\PySem.W.keepIn K (.ref f)=true/\KBinds K fd ps ks (gk n m) (gk n m)
section
variable {P:Program} {w:World} {K:PySem.W.Frag} {mg:Str->Option Value} {base:Heap}
theorem AtK.okX {x:Str} {st:Stmt} {N ps ks:List Str} {n m k:Nat} {sp:Sp} (F:AtK K mg x st ps ks n m) (S:FnScope N ps (jad st)) (len:∀vs H Q E,sp vs H Q E->vs.length=ps.length)
  (hbody:∀(f:Addr) (cdv:Value) (A:Around) (outer:List Env) (s:Shared) (H:Hp) (vs:List V) (Q:VK) (E:XK),Room k (A.deeper (envOfC x (jad st) s.heap.objs.size f cdv))->sp vs H Q E ->
   ∃t,PSs (cxX P w K mg base N x (jad st) f cdv A outer s H E) (jaT st) t/\t { nx:=fun _ H'=>Q .non H',rt:=Q } (jck N vs) H):jmz P w K mg base (XOk P w) (k+1) x ps ks n m sp:=by
 obtain⟨f,fd,dV,F1,hm,hb⟩:=F;exact⟨f,fd,F1.okX S len (hbody f),hm,F1.kp,hb⟩
end
theorem jaR {X:Cx} {K:PySem.W.Frag} (h:X.K=K):IxR X (ji3 K):=h▸jan
theorem jji {X:Cx} {K:PySem.W.Frag} (h:X.K=K):IxR X (jma K):=h▸ix_list
end L2
namespace L2
open PySem
theorem ixT {K:PySem.W.Frag} {H:Hp} {r:Addr} {xs:List V} {i:Int} {v:V} {Q:VK} (k:SqT K H r xs) (e:atI xs i=some v) (q:Q v H):ji3 K (.ref r) (.int i) H Q:=⟨r,xs,i,v,rfl,rfl,k,e,q⟩
theorem ixL {K:PySem.W.Frag} {H:Hp} {r:Addr} {xs:List V} {i:Int} {v:V} {Q:VK} (k:SqL K H r xs) (e:atI xs i=some v) (q:Q v H):jma K (.ref r) (.int i) H Q:=⟨r,xs,i,v,rfl,rfl,k,e,q⟩
def jk5 (J:It) (g:TG) (tb:TS) (D:Ends) (σ:St) (H1:Hp):Prop:=∃W:Nat->Nat->St->Hp->Prop,(∃m,W 0 m σ H1)/\∀i m σ H,W i m σ H ->
 (J.stop i H/\D.nx σ H)\/(J.go i H/\∃N:St->Hp->Prop,(∀σ' H',N σ' H'->∃m',m'<m/\W (i+1) m' σ' H')/\∀x H',J.yld i H x H'->g x σ H' fun σ2 H2=>tb { D with nx:=N,ct:=N,bk:=D.nx } σ2 H2)
section
variable {K:PySem.W.Frag} {ta:TA} {tl:TE} {g:TG} {tb:TS} {D:Ends} {σ:St} {H:Hp} {ix:List Nat} {tt:TT} {te:TE} {Q:VK}
theorem jhZ:jkU (jkS ta) g tb D σ H=ta σ H fun vs H1=>∃j:Int,vs=[.int j]/\-(2^62)<=j/\j<2^62/\jk5 (Itr 0 j.toNat) g tb D σ H1:=rfl
theorem jh0:jkU (jkT ta) g tb D σ H=ta σ H fun vs H1=>∃i j:Int,vs=[.int i,.int j]/\(-(2^62)<=i/\i<2^62/\-(2^62)<=j/\j<2^62)/\jk5 (Itr i (j-i).toNat) g tb D σ H1:=rfl
theorem jkf:jkU (ji9 K tl) g tb D σ H=tl σ H fun x H1=>∃a,x=.ref a/\(∃xs,SqL K H1 a xs)/\jk5 (Itl K a) g tb D σ H1:=rfl
theorem jkg:jkU (iTup K tl) g tb D σ H=tl σ H fun x H1=>∃a,x=.ref a/\(∃xs,SqT K H1 a xs)/\jk5 (Itt K a) g tb D σ H1:=rfl
theorem jgf:jfm (jkS ta) ix g tt te σ H Q=ta σ H fun vs H1=>∃j:Int,vs=[.int j]/\-(2^62)<=j/\j<2^62/\∀acc,H1 acc=none->CompGo (Itr 0 j.toNat) (jaG σ ix) g tt te acc (fun H'=>Q (.ref acc) H') H1:=rfl
theorem jgg:jfm (jkT ta) ix g tt te σ H Q=ta σ H fun vs H1=>∃i j:Int,vs=[.int i,.int j]/\(-(2^62)<=i/\i<2^62/\-(2^62)<=j/\j<2^62)/\∀acc,H1 acc=none->CompGo (Itr i (j-i).toNat) (jaG σ ix) g tt te acc (fun H'=>Q (.ref acc) H') H1:=rfl
theorem jh1:jfm (ji9 K tl) ix g tt te σ H Q=tl σ H fun x H1=>∃a,x=.ref a/\(∃xs,SqL K H1 a xs)/\∀acc,H1 acc=none->CompGo (Itl K a) (jaG σ ix) g tt te acc (fun H'=>Q (.ref acc) H') H1:=rfl
theorem jh2:jfm (iTup K tl) ix g tt te σ H Q=tl σ H fun x H1=>∃a,x=.ref a/\(∃xs,SqT K H1 a xs)/\∀acc,H1 acc=none->CompGo (Itt K a) (jaG σ ix) g tt te acc (fun H'=>Q (.ref acc) H') H1:=rfl
theorem FoR.lst {P:Prop} {a:Addr} {xs:List V} (k:SqL K H a xs) (h:P):(∃xs,SqL K H a xs)/\P:=⟨⟨xs,k⟩,h⟩
theorem FoR.tup {P:Prop} {a:Addr} {xs:List V} (k:SqT K H a xs) (h:P):(∃xs,SqT K H a xs)/\P:=⟨⟨xs,k⟩,h⟩
theorem FoR.len {P:List V->Prop} {a:Addr} {xs:List V} (k:SqL K H a xs) (h:P xs):∃x,(SqL K H a x\/SqT K H a x)/\P x:=⟨xs,.inl k,h⟩
theorem FoR.lenT {P:List V->Prop} {a:Addr} {xs:List V} (k:SqT K H a xs) (h:P xs):∃x,(SqL K H a x\/SqT K H a x)/\P x:=⟨xs,.inr k,h⟩
end
end L2
namespace L2
open PySem PySem.Spec PyProof.Rows
theorem Same.keepN {H H':Hp} {p:Addr} (h:Same H H') (n:H p=none) (o:HO):Same H (upd H' p o):=fun b u q=>by rw[jaA (jaz q n)];exact h b u q
theorem Same.noneN {H H':Hp} {p:Addr} (h:Same H H') (n:H' p=none):H p=none:=by
  cases e:H p with
  | none=>rfl
  | some o =>
    have z:=h _ _ e;rw[n] at z;cases z
theorem jaM {n:Nat} (h:n<1000):n<sizeLine:=xah h (by decide)
section
variable {ρ:St} {te:TE} {tt:TT} {acc:Addr} {Z:Hp->Prop} {H1:Hp}
theorem jfR {lo:Int} {n:Nat} (f:Nat->V) (hn:n<1000) (hacc:H1 acc=none)
  (hs:∀(i:Nat) (H3:Hp) (R:V->Hp->Prop),i<n->Same H1 H3->(∀H4,Same H3 H4->R (f i) H4)->te (some (.int (lo+i))::ρ) H3 R)
  (hd:∀H',Same H1 H'->H' acc=some (.lst ((List.range n).map f))->Z H'):CompGo (Itr lo n) ρ (jcg 0) jdm te acc Z H1:=by
 refine jer (fun i xs H=>Same H1 H/\H acc=some (.lst xs)/\xs=(List.range i).map f) ⟨Same.new hacc _,jaf,rfl⟩ ?_ ?_
 ·rintro i xs H hi ⟨g1,g2,rfl⟩;refine hs i H _ hi g1 fun H4 s4=>⟨s4 _ _ g2,jaM ?_,Same.keepN (g1.trans s4) hacc _,jaf,?_⟩
  ·rw[xaa,xbj];omega
  ·rw[xaK,xal];rfl
 ·rintro xs H ⟨g1,g2,rfl⟩;exact hd H g1 g2
theorem jk6 {lo:Int} {n:Nat} (f:Nat->V) (c:Nat->Bool) (hn:n<1000) (hacc:H1 acc=none)
  (ht:∀(i:Nat) (H3:Hp) (R:Bool->Hp->Prop),i<n->Same H1 H3->(∀H4,Same H3 H4->R (c i) H4)->tt (some (.int (lo+i))::ρ) H3 R)
  (hs:∀(i:Nat) (H3:Hp) (R:V->Hp->Prop),i<n->c i=true->Same H1 H3->(∀H4,Same H3 H4->R (f i) H4)->te (some (.int (lo+i))::ρ) H3 R)
  (hd:∀H',Same H1 H'->H' acc=some (.lst (((List.range n).filter c).map f))->Z H'):CompGo (Itr lo n) ρ (jcg 0) tt te acc Z H1:=by
 refine⟨fun i m xs H=>(Same H1 H/\H acc=some (.lst xs)/\xs=((List.range i).filter c).map f)/\i<=n/\m=n-i,⟨n,⟨Same.new hacc _,jaf,rfl⟩,xar _,rfl⟩,?_⟩;rintro i m xs H ⟨⟨g1,g2,rfl⟩,hi,rfl⟩;have hl:(((List.range i).filter c).map f).length<sizeLine:=jaM (by
  rw[xaa];have:=xbL c (List.range i);rw[xbj] at this;omega)
 by_cases hlt:i<n
 ·refine .inr ⟨hlt,(fun y H4=>y=f i/\c i=true/\Same H1 H4/\H4 acc=some (.lst (((List.range i).filter c).map f))),fun H3=>c i=false/\Same H1 H3/\H3 acc=some (.lst (((List.range i).filter c).map f)),?_,?_,?_⟩
  ·rintro y H4 ⟨rfl,ci,s4,a4⟩;refine⟨a4,hl,n-(i+1),by omega,⟨Same.keepN s4 hacc _,jaf,?_⟩,hlt,rfl⟩;rw[xaK,xau,xal,xaF,if_pos ci];rfl
  ·rintro H3 ⟨ci,s3,a3⟩;refine⟨n-(i+1),by omega,⟨s3,a3,?_⟩,hlt,rfl⟩;rw[xaK,xau,xal,xaF,if_neg (by rw[ci];decide)];simp
  ·rintro v0 x H' ⟨rfl,rfl⟩;refine⟨⟨_,rfl⟩,ht i H' _ hlt g1 fun H4 s4=>?_⟩;cases ci:c i with
   | true=>exact if_pos rfl▸hs i H4 _ hlt ci (g1.trans s4) fun H5 s5=>⟨rfl,rfl,g1.trans (s4.trans s5),s5 _ _ (s4 _ _ g2)⟩
   | false=>exact⟨rfl,g1.trans s4,s4 _ _ g2⟩
 ·have:i=n:=by omega
  subst this;exact .inl ⟨xad _,hd H g1 g2⟩
theorem jjj {K:PySem.W.Frag} {a:Addr} {zs:List V} (f:V->V) (hn:zs.length<1000) (hacc:H1 acc=none) (hz:SqT K H1 a zs)
  (hs:∀(z:V) (H3:Hp) (R:V->Hp->Prop),z∈zs->Same H1 H3->(∀H4,Same H3 H4->R (f z) H4)->te (some z::ρ) H3 R)
  (hd:∀H',Same H1 H'->H' acc=some (.lst (zs.map f))->Z H'):CompGo (Itt K a) ρ (jcg 0) jdm te acc Z H1:=by
 refine jgd (zs:=zs) (fun i xs H=>Same H1 H/\H acc=some (.lst xs)/\xs=(zs.take i).map f) ⟨Same.new hacc _,jaf,rfl⟩ (fun i xs H _ h=>h.1.tup hz) ?_ ?_
 ·rintro i z xs H hi ⟨g1,g2,rfl⟩;refine hs z H _ (xaw hi) g1 fun H4 s4=>⟨s4 _ _ g2,jaM ?_,Same.keepN (g1.trans s4) hacc _,jaf,?_⟩
  ·rw[xaa,xay];omega
  ·rw[xa6,hi,xal];rfl
 ·rintro xs H ⟨g1,g2,rfl⟩;rw[xaT] at g2;exact hd H g1 g2
theorem compL {K:PySem.W.Frag} {a:Addr} {zs:List V} (f:V->V) (hn:zs.length<1000) (hacc:H1 acc=none) (hz:SqL K H1 a zs)
  (hs:∀(z:V) (H3:Hp) (R:V->Hp->Prop),z∈zs->Same H1 H3->(∀H4,Same H3 H4->R (f z) H4)->te (some z::ρ) H3 R)
  (hd:∀H',Same H1 H'->H' acc=some (.lst (zs.map f))->Z H'):CompGo (Itl K a) ρ (jcg 0) jdm te acc Z H1:=by
 refine jhT (zs:=zs) (fun i xs H=>Same H1 H/\H acc=some (.lst xs)/\xs=(zs.take i).map f) ⟨Same.new hacc _,jaf,rfl⟩ (fun i xs H _ h=>h.1.seq hz) ?_ ?_
 ·rintro i z xs H hi ⟨g1,g2,rfl⟩;refine hs z H _ (xaw hi) g1 fun H4 s4=>⟨s4 _ _ g2,jaM ?_,Same.keepN (g1.trans s4) hacc _,jaf,?_⟩
  ·rw[xaa,xay];omega
  ·rw[xa6,hi,xal];rfl
 ·rintro xs H ⟨g1,g2,rfl⟩;rw[xaT] at g2;exact hd H g1 g2
end
section
variable {K:PySem.W.Frag} {H:Hp} {a b:Addr} {Q:VK}
theorem jh3 (ns:List Int):SeqAt.shaped (.tuple (ns.map PyData.int))=true:=by
 simp [SeqAt.shaped,PyData.canLay0,PyData.depth,PySem.W.ke_canLayAll0,PySem.W.ke_depthAll]
theorem jjk {x y:List Int} (h1:SqT K H a (x.map V.int)) (h2:SqT K H b (y.map V.int)) (q:Q (.bl (decide (x=y))) H):jjg K false (.ref a) (.ref b) H Q :=
 ⟨.tuple (x.map PyData.int),.tuple (y.map PyData.int),.tup h1 (RdsAll.ints _),.tup h2 (RdsAll.ints _),jh3 _,jh3 _,by
  have e:PyData.eqv (.tuple (x.map PyData.int)) (.tuple (y.map PyData.int))=decide (x=y):=PySem.W.ked_eqvAll x y;simp only[Bool.false_eq_true,if_false,e];exact q⟩
theorem jeN {x y:List Int} (h1:SqL K H a (x.map V.int)) (h2:SqL K H b (y.map V.int)) (q:Q (.bl (!decide (x=y))) H):jjg K true (.ref a) (.ref b) H Q :=
 ⟨.list (x.map PyData.int),.list (y.map PyData.int),.lst h1 (RdsAll.ints _),.lst h2 (RdsAll.ints _),PySem.W.ke_shaped_ints _,PySem.W.ke_shaped_ints _,by
  have e:PyData.eqv (.list (x.map PyData.int)) (.list (y.map PyData.int))=decide (x=y):=PySem.W.ked_eqvAll x y;simp only[if_true,e];exact q⟩
def jfH (nss:List (List Int)):List PyData:=nss.map fun ns=>.tuple (ns.map PyData.int)
theorem jgh:∀nss:List (List Int),PyData.canLayAll0 (jfH nss)=true/\PyData.depthAll (jfH nss)<=1
  | []=>⟨rfl,by decide⟩
  | ns :: r => by
    obtain⟨h1,h2⟩:=jgh r;have h1':PyData.canLayAll0 (r.map fun ns=>PyData.tuple (ns.map PyData.int))=true:=h1;have h2':PyData.depthAll (r.map fun ns=>PyData.tuple (ns.map PyData.int))<=1:=h2;constructor
    . simp [jfH,PyData.canLayAll0,PyData.canLay0,PySem.W.ke_canLayAll0,h1']
    . simp only[jfH,xaI,PyData.depthAll,PyData.depth,PySem.W.ke_depthAll]
      omega
theorem jgi:∀x y:List (List Int),PyData.eqvAll (jfH x) (jfH y)=decide (x=y)
  | [],[]=>by simp [jfH,PyData.eqvAll]
  | [],_::_=>by simp [jfH,PyData.eqvAll]
  | _::_,[]=>by simp [jfH,PyData.eqvAll]
  | a :: r, b :: t => by
    have ih:=jgi r t;have e:PyData.eqv (.tuple (a.map PyData.int)) (.tuple (b.map PyData.int))=decide (a=b):=PySem.W.ked_eqvAll a b;show (PyData.eqv (.tuple (a.map PyData.int)) (.tuple (b.map PyData.int))&&PyData.eqvAll (jfH r) (jfH t))=_;rw[ih,e];by_cases h:a=b<;>by_cases h':r=t<;>simp [h,h']
theorem FoR.app {X:Prop} {L:Addr} {ps:List V} {x:V} {R:VK} (h:H L=some (.lst ps)) (hl:ps.length<sizeLine) (q:R .non (upd H L (.lst (ps++[x])))):((∃xs,SqL K H L xs)\/X)/\jhO (.ref L) [x] H R :=
 ⟨.inl ⟨_,SqL.of h⟩,L,ps,x,rfl,rfl,h,hl,q⟩
end
theorem jjl {X:Cx} (hc:X.calm=true):CallR X (.builtin "sum") (fun xs H Q=>∃(a:Addr) (ns:List Int),xs=[.ref a]/\SqL X.K H a (ns.map V.int)/\Q (.int ns.sum) H):=by
 intro pins s σ H xs us Q I r h;obtain⟨a,ns,rfl,hq,q⟩:=h;obtain⟨u,rfl,rx⟩:=jfc r;cases rx;obtain⟨its,rv,pl,hz⟩:=I.list hq;have ha:=jgX rv;have hall:AllInts its.toArray:=ha.allInts;have hn:numsOf its=ns:=ha.numsOf;obtain⟨ps,e⟩:=hall.items;have hl:s.heap.IsList a (intItems ps):=by rw[<- e];exact pl.isList
 have en:ns=ps.toList.map (·.1):=by
  have z:=nums_intItems ps;rw[<- e] at z;rw[<- hn];exact z
 refine sum_intListG (I.ok.hd hc) hl fun h' tk t' hk=>?_;have es:preSum (numAt ps) ps.size=ns.sum:=by
  rw[preSum_eq,xaV (by simp),en]
 rw[es];exact⟨.int _,H,I.kept hk,⟨_,rfl⟩,q⟩
theorem FoR.tupOf {K:PySem.W.Frag} {H:Hp} {p:Addr} {ys:List V} {X:Prop} {R:Addr->Hp->Prop} (k:SqL K H p ys) (h:∀t H',Same H H'->H' t=some (.tup ys)->R t H'):∃ys,(SqL K H p ys/\∀l,H l=none->R l (upd H l (.tup ys)))\/(SqT K H p ys/\R p H) :=
 ⟨ys,.inl ⟨k,fun l hl=>h l _ (Same.new hl _) jaf⟩⟩
theorem jaE {es:List Expr} {k:Nat} {rest:List Expr} {pos:Pos} {env:Env}:starEach (.Tuple es k pos::rest) env=(false,eval (.Tuple es k pos) env)::starEach rest env:=by
 rw[starEach];intro e p h;cases h
theorem jaj {c:Const} {k:Nat} {rest:List Expr} {pos:Pos} {env:Env}:starEach (.Constant c k pos::rest) env=(false,eval (.Constant c k pos) env)::starEach rest env:=by
 rw[starEach];intro e p h;cases h
theorem jh4 {op:UnaryOp} {a:Expr} {rest:List Expr} {pos:Pos} {env:Env}:starEach (.UnaryOp op a pos::rest) env=(false,eval (.UnaryOp op a pos) env)::starEach rest env:=by
 rw[starEach];intro e p h;cases h
theorem jae {x:Str} {rest:List Expr} {pos:Pos} {env:Env}:starEach (.Name x pos::rest) env=(false,eval (.Name x pos) env)::starEach rest env:=by
 rw[starEach];intro e p h;cases h
theorem jaN {a:Expr} {es:List Expr} {ks:List Keyword} {rest:List Expr} {pos:Pos} {env:Env}:starEach (.Call a es ks pos::rest) env=(false,eval (.Call a es ks pos) env)::starEach rest env:=by
 rw[starEach];intro e p h;cases h
theorem jbm {a b:Expr} {op:Operator} {rest:List Expr} {pos:Pos} {env:Env}:starEach (.BinOp a op b pos::rest) env=(false,eval (.BinOp a op b pos) env)::starEach rest env:=by
 rw[starEach];intro e p h;cases h
theorem jas {a b:Expr} {rest:List Expr} {pos:Pos} {env:Env}:starEach (.Subscript a b pos::rest) env=(false,eval (.Subscript a b pos) env)::starEach rest env:=by
 rw[starEach];intro e p h;cases h
theorem jcl {es:List Expr} {rest:List Expr} {pos:Pos} {env:Env}:starEach (.List es pos::rest) env=(false,eval (.List es pos) env)::starEach rest env:=by
 rw[starEach];intro e p h;cases h
theorem jcP {a:Expr} {gs:List Comprehension} {sc:Scope} {rest:List Expr} {pos:Pos} {env:Env}:starEach (.ListComp a gs sc pos::rest) env=(false,eval (.ListComp a gs sc pos) env)::starEach rest env:=by
 rw[starEach];intro e p h;cases h
structure WE (X:Cx) (e:Expr) (t:TE):Prop where
 h:PE X e t
structure WA (X:Cx) (es:List Expr) (t:TA):Prop where
 h:PA X es t
structure WS (X:Cx) (st:Stmt) (t:TS):Prop where
 h:PS X st t
structure WSs (X:Cx) (st:List Stmt) (t:TS):Prop where
 h:PSs X st t
section
variable {X:Cx} {pos:Pos}
theorem jjm {st:Stmt} {rest:List Stmt} {t u:TS} (h1:WS X st t) (h2:WSs X rest u):WSs X (st::rest) (jl7 t u):=⟨jag h1.h h2.h⟩
theorem jcX {st:Stmt} {rest:List Stmt} {t u:TS} (M:St->Hp->Prop) (h1:WS X st t) (h2:WSs X rest u):WSs X (st::rest) (jmb M t u):=⟨ja2 M h1.h h2.h⟩
theorem jfq {tg e:Expr} {te:TE} {g:TG} (he:WE X e te) (hg:PG X tg g) (hs:swapsWithSole [tg] e pos.line X.env=pure false:=by rfl) (hw:swappedStores [tg] e X.env=pure none:=by rfl)
  (h1:(assignEach [tg] X.env).map (·.2)=[assign tg X.env]:=by rfl):WS X (.Assign [tg] e pos) (jj5 te g):=⟨jcN he.h hg hs hw h1⟩
theorem jmA {r:R2} {a b:Expr} {ta tb:TE} (hr:IxR X r) (ha:WE X a ta) (hb:PE X b tb) (hs:jhM b):WE X (.Subscript a b pos) (tOp r ta tb):=⟨jal hr ha.h hb hs⟩
theorem jcm {es:List Expr} {t:TA} (h:WA X es t):WE X (.List es pos) (jj8 t):=⟨jaZ h.h⟩
theorem ja0 {es:List Expr} {k:Nat} {t:TA} (h:WA X es t):WE X (.Tuple es k pos) (jkX t):=⟨jaH h.h⟩
theorem jaF:WA X [] jjb:=⟨jac⟩
theorem jak {e:Expr} {es:List Expr} {te:TE} {t:TA} (ha:WE X e te) (hr:WA X es t) (hs:starEach (e::es) X.env=(false,eval e X.env)::starEach es X.env):WA X (e::es) (jej te t):=⟨jaa ha.h hr.h hs⟩
end
section
variable {P:Program} {w:World} {K:PySem.W.Frag} {mg:Str->Option Value} {base:Heap}
theorem At.okW {x:Str} {st:Stmt} {N ps:List Str} {dvs:List V} {k:Nat} {sp:Sp} (F:At K mg x st ps dvs) (S:FnScope N ps (jad st)) (len:∀vs H Q E,sp vs H Q E->vs.length=ps.length)
  (hbody:∀(f:Addr) (cdv:Value) (A:Around) (outer:List Env) (s:Shared) (H:Hp) (vs:List V) (Q:VK) (E:XK),Room k (A.deeper (envOfC x (jad st) s.heap.objs.size f cdv))->sp vs H Q E ->
   ∃t,WSs (jga CX0 P w K mg base N x (jad st) f cdv A outer s H E).nox (jaT st) t/\t { nx:=fun _ H'=>Q .non H',rt:=Q } (jck N vs) H):jam P w K mg base CX0 (k+1) x ps dvs sp :=
 F.ok S len fun f cdv A outer s H vs Q E hr h=>let ⟨t,h1,h2⟩:=hbody f cdv A outer s H vs Q E hr h;⟨t,h1.h,h2⟩
end
section
variable {X:Cx}
theorem jjn:OpR X (binaryOp .FloorDiv) (rI (fun _ j=>j≠0/\Fit j) fun i j=>.int (i.fdiv j)):=opI fun i j _ _ _ _ _ hc q=>by
 exact floordiv_int hc.1 q (.inl (PyProof.noPylong_of_log2 hc.2.log))
end
section
variable {ρ:St} {te:TE} {tt:TT} {acc:Addr} {Z:Hp->Prop} {H1:Hp}
def SameT (H H':Hp):Prop:=∀a xs,H a=some (.tup xs)->H' a=some (.tup xs)
theorem Same.t {H H':Hp} (s:Same H H'):SameT H H':=fun a xs h=>s a _ h
theorem SameT.trans {H H' J:Hp} (s:SameT H H') (t:SameT H' J):SameT H J:=fun a xs h=>t a xs (s a xs h)
theorem SameT.refl (H:Hp):SameT H H:=fun _ _ h=>h
theorem SameT.upd {H:Hp} {a:Addr} {xs ys:List V} (h:H a=some (.lst xs)):SameT H (upd H a (.lst ys)):=fun b zs hb=>by
 have ne:b≠a:=fun e=>by
  subst e;rw[h] at hb;cases hb
 rw[jaA ne];exact hb
theorem jk7 {K:PySem.W.Frag} {a:Addr} {zs:List V} (f:Nat->V) (c:Nat->Bool) (hn:zs.length<1000) (hacc:H1 acc=none) (hz:SqL K H1 a zs)
  (ht:∀(i:Nat) (z:V) (H3:Hp) (R:Bool->Hp->Prop),zs[i]?=some z->Same H1 H3->(∀H4,Same H3 H4->R (c i) H4)->tt (some z::ρ) H3 R)
  (hs:∀(i:Nat) (z:V) (H3:Hp) (R:V->Hp->Prop),zs[i]?=some z->c i=true->Same H1 H3->(∀H4,Same H3 H4->R (f i) H4)->te (some z::ρ) H3 R)
  (hd:∀H',Same H1 H'->H' acc=some (.lst (((List.range zs.length).filter c).map f))->Z H'):CompGo (Itl K a) ρ (jcg 0) tt te acc Z H1:=by
 refine⟨fun i m xs H=>(Same H1 H/\H acc=some (.lst xs)/\xs=((List.range i).filter c).map f)/\i<=zs.length/\m=zs.length-i,⟨zs.length,⟨Same.new hacc _,jaf,rfl⟩,xar _,rfl⟩,?_⟩;rintro i m xs H ⟨⟨g1,g2,rfl⟩,hi,rfl⟩;have sq:=g1.seq hz;have hl:(((List.range i).filter c).map f).length<sizeLine:=jaM (by
  rw[xaa];have:=xbL c (List.range i);rw[xbj] at this;omega)
 by_cases hlt:i<zs.length
 ·have ez:zs[i]?=some zs[i]:=xac hlt;refine .inr ⟨⟨zs,zs[i],sq,ez⟩,(fun y H4=>y=f i/\c i=true/\Same H1 H4/\H4 acc=some (.lst (((List.range i).filter c).map f))),fun H3=>c i=false/\Same H1 H3/\H3 acc=some (.lst (((List.range i).filter c).map f)),?_,?_,?_⟩
  ·rintro y H4 ⟨rfl,ci,s4,a4⟩;refine⟨a4,hl,zs.length-(i+1),by omega,⟨Same.keepN s4 hacc _,jaf,?_⟩,hlt,rfl⟩;rw[xaK,xau,xal,xaF,if_pos ci];rfl
  ·rintro H3 ⟨ci,s3,a3⟩;refine⟨zs.length-(i+1),by omega,⟨s3,a3,?_⟩,hlt,rfl⟩;rw[xaK,xau,xal,xaF,if_neg (by rw[ci];decide)];simp
  ·rintro v0 x H' ⟨rfl,hx⟩;have ex:x=zs[i]:=by
    have z:=hx zs sq;rw[ez] at z;exact (Option.some.inj z).symm
   subst ex;refine⟨⟨_,rfl⟩,ht i _ H' _ ez g1 fun H4 s4=>?_⟩;cases ci:c i with
   | true=>exact if_pos rfl▸hs i _ H4 _ ez ci (g1.trans s4) fun H5 s5=>⟨rfl,rfl,g1.trans (s4.trans s5),s5 _ _ (s4 _ _ g2)⟩
   | false=>exact⟨rfl,g1.trans s4,s4 _ _ g2⟩
 ·have:i=zs.length:=by omega
  subst this;exact .inl ⟨⟨zs,sq,xad _⟩,hd H g1 g2⟩
end
section
variable {X:Cx} {tg:Expr}
def Asc (x:Str):Prop:=(x.cps.all fun c=>decide (c<128))=true
def Its (x:Str):It:=⟨fun i _=>i<x.cps.size,fun i H v H'=>H'=H/\∃c,x.cps[i]?=some c/\v=.str ⟨#[c]⟩,fun i _=>x.cps.size<=i⟩
def iStr (tl:TE):TI:=fun σ H R=>tl σ H fun v H1=>∃x,v=.str x/\Asc x/\R (Its x) H1
end
section
variable {tl:TE} {g:TG} {tb:TS} {D:Ends} {σ:St} {H:Hp} {ix:List Nat} {tt:TT} {te:TE} {Q:VK}
theorem jkh:jkU (iStr tl) g tb D σ H=tl σ H fun v H1=>∃x,v=.str x/\Asc x/\jk5 (Its x) g tb D σ H1:=rfl
theorem jh5:jfm (iStr tl) ix g tt te σ H Q=tl σ H fun v H1=>∃x,v=.str x/\Asc x/\∀acc,H1 acc=none->CompGo (Its x) (jaG σ ix) g tt te acc (fun H'=>Q (.ref acc) H') H1:=rfl
end
theorem jk8:typeLookup (.type "list_reverseiterator") "__len__"=pure none:=by with_unfolding_all rfl
theorem jjo:typeLookup (.type "list_reverseiterator") "__length_hint__"=pure (some (.builtin "list_reverseiterator.__length_hint__")):=by with_unfolding_all rfl
theorem jjp {M:Model} {A:Around} {E:Value->Shared->Prop} {s:Shared} {Q:Bool->Shared->Prop} {I l:Addr} {i:Int} (h:s.heap.IsRevIter I l i) (q:Q false s):wpAny M A (Builtin.List.listLengthHint (.ref I)) Q E s:=by
 obtain⟨o,ho,hc,hd⟩:=h;have ty:s.TypeIs (.ref I) "list_reverseiterator":=⟨o,ho,hc⟩;unfold Builtin.List.listLengthHint;refine wpAny_bind (wpAny_specialOf ty jk8 ?_);dsimp only;refine wpAny_ite_split (fun c=>absurd c (by decide)) fun _=>?_;refine wpAny_ite_split (fun c=>absurd c (by decide)) fun _=>?_;refine wpAny_bind (wpAny_specialOf ty jjo ?_);dsimp only;have sp:splitId "list_reverseiterator.__length_hint__"=some ("list_reverseiterator","__length_hint__"):=by decide +kernel
 rw[sp];dsimp only;refine wpAny_bind (wpAny_isInstance (b:=true) ty (by with_unfolding_all rfl) ?_);refine wpAny_ite_split (fun c=>absurd c (by decide)) fun _=>?_;refine wpAny_ite_split (fun c=>?_) fun c=>absurd c (by decide);refine wpAny_ite_split (fun c=>absurd c (by decide)) fun _=>?_;exact wpAny_pure q
theorem jg2 {prog:Program} {w:World} {A:Around} {s:Shared} {R:Result->Shared->Prop} {I l:Addr} {items:Array Value} (hh:A.handled=none) (hne:l≠I) (S:Addr) (res:Value) (c₀:Nat) (hI:s.heap.IsRevIter I l ((items.size:Int)-1)) (hl:s.heap.IsList l items) (hS:S≠I) (hSl:S≠l)
  (e:s.heap.get? S=some { cls:=.type "list",data:=.seq #[] c₀ }) (hz:items.size<=sizeLine)
  (q:∀(h':Heap) (tk:Nat) (acc':Array Value) (c':Nat),(∀b o,b≠S->b≠I->s.heap.get? b=some o->h'.get? b=some o)->h'.get? S=some { cls:=.type "list",data:=.seq acc' c' }->ItemsOf (fun i v=>items[items.size-1-i]?=some v) acc' items.size->R (.ok (.ret res)) { s with heap:=h',toks:=tk }) :
  wpAny (model prog w) A.in1 (Builtin.List.listExtendWith (.ref S) (.ref I) res)
   (fun fin s'=>match fin with | .done f=>R (.ok f) s' | .again c'=>c'.quiet=true/\codeAny (model prog w) A c' R s') (fun e s'=>R (.error e) s') s:=by
 obtain⟨o,ho,hc,hd⟩:=id hI;have ty:s.TypeIs (.ref I) "list_reverseiterator":=⟨o,ho,hc⟩;unfold Builtin.List.listExtendWith;refine wpAny_bind (wpAny_typeOf ty ?_);refine wpAny_ite_split (fun c=>?_) fun _=>?_
 ·exfalso;have e1:Builtin.List.listSameRef (.ref S) (.ref I)=false:=by
   simp [Builtin.List.listSameRef,hS]
  rw[e1] at c
  revert c
  decide
 refine wpAny_bind (wpAny_pyIter_revIter hI ?_);refine wpAny_bind (wpAny_holding (jjp hI ?_));refine wpAny_ite_split (fun c=>absurd c (by decide)) fun _=>?_;have W:=(Walks.listRev (prog:=prog) (w:=w) (A:=A.in1) hh I l hne items).toS;refine wpAny_pure ⟨plainId_quiet F.plain_extend_loop _,?_⟩;refine codeAny_extend_loopS W hz S (by simp [hS,hSl]) res items.size 0 s #[] c₀ rfl (xar _) ⟨xar _,by simpa using hI,hl⟩ e ⟨rfl,fun j v h=>by simp at h⟩ fun s' acc' c' mv e' it=>?_;have eq:=Moved.eq_with mv;rw[eq];exact q s'.heap s'.toks acc' c' (fun b o h1 h2 e=>mv.heap b o (by simp [h1,h2]) e) e' it
theorem jjq {prog:Program} {w:World} {A:Around} {s:Shared} {R:Result->Shared->Prop} {I l:Addr} {items:Array Value} (hh:A.handled=none) (hne:l≠I) (S:Addr) (hI:s.heap.IsRevIter I l ((items.size:Int)-1)) (hl:s.heap.IsList l items) (hS:S≠I) (hSl:S≠l)
  (e:s.heap.get? S=some { cls:=.type "list",data:=.seq #[] }) (hz:items.size<=sizeLine)
  (q:∀(h':Heap) (tk:Nat) (acc':Array Value) (c':Nat),(∀b o,b≠S->b≠I->s.heap.get? b=some o->h'.get? b=some o)->h'.get? S=some { cls:=.type "list",data:=.seq acc' c' }->ItemsOf (fun i v=>items[items.size-1-i]?=some v) acc' items.size->R (.ok (.ret .none)) { s with heap:=h',toks:=tk }) :
  wpAny (model prog w) A.in1 (Builtin.«list.__init__» { pos:=[.ref S,.ref I] })
   (fun fin s'=>match fin with | .done f=>R (.ok f) s' | .again c'=>c'.quiet=true/\codeAny (model prog w) A c' R s') (fun e s'=>R (.error e) s') s:=by
 unfold Builtin.«list.__init__»;dsimp only;refine wpAny_ite_split (fun c=>absurd c (by decide)) fun _=>?_;refine wpAny_ite_split (fun c=>absurd c (by simp)) fun _=>?_;refine wpAny_bind (wpAny_bind (wpAny_seqItems e rfl (wpAny_pure ?_)));refine wpAny_bind (wpAny_updateSeq e rfl ?_ (by simp) (by simp));refine wpAny_bind (wpAny_letGo ?_);have eS:=Heap.get?_update_self (Obj.mapSeq fun _=>(#[]:Array Value)) e rfl;have eO:∀b,b≠S->(s.heap.update S (Obj.mapSeq fun _=>(#[]:Array Value))).get? b=s.heap.get? b:=fun b hb=>Heap.get?_update_other s.heap _ (Ne.symm hb);obtain⟨o,ho,hc,hd⟩:=hI;obtain⟨o2,ho2,hc2,n2,hd2⟩:=hl;refine jg2 (s:={ s with heap:=s.heap.update S (Obj.mapSeq fun _=>(#[]:Array Value)) }) (items:=items) hh hne S .none _ ⟨o,(eO I (Ne.symm hS)).trans ho,hc,hd⟩ ⟨o2,(eO l (Ne.symm hSl)).trans ho2,hc2,n2,hd2⟩ hS hSl eS hz fun h' tk acc' c' k e' it=>?_;exact q h' tk acc' c' (fun b o h1 h2 hb=>k b o h1 h2 ((eO b h1).trans hb)) e' it
theorem jeO {prog:Program} {w:World} {A:Around} {E:Value->Shared->Prop} {s:Shared} {Q:Value->Shared->Prop} {I l:Addr} {items:Array Value} (hh:A.handled=none) (hne:l≠I) (hI:s.heap.IsRevIter I l ((items.size:Int)-1)) (hl:s.heap.IsList l items) (hz:items.size<=sizeLine)
  (q:∀(h':Heap) (tk:Nat) (acc':Array Value) (c':Nat),(∀b o,b≠I->s.heap.get? b=some o->h'.get? b=some o)->h'.get? s.heap.objs.size=some { cls:=.type "list",data:=.seq acc' c' }->ItemsOf (fun i v=>items[items.size-1-i]?=some v) acc' items.size->Q (.ref s.heap.objs.size) { s with heap:=h',toks:=tk }) :
  wpAny (model prog w) A (call (.type "list") [.ref I]) Q E s:=by
 obtain⟨o,ho,hc,hd⟩:=hI;obtain⟨o2,ho2,hc2,n2,hd2⟩:=hl;have n1:s.heap.objs.size≠I:=Ne.symm (xam (Heap.lt_size ho));have n2':s.heap.objs.size≠l:=Ne.symm (xam (Heap.lt_size ho2));refine callType_codes F.called_list (F.typeCall_list_1 _) F.entry_list_init (Q₁:=fun obj s₁=>obj=.ref s.heap.objs.size/\s₁={ s with heap:=s.heap.push { cls:=.type "list",data:=.seq #[] } }) (code_list_new _ ⟨rfl,rfl⟩) ?_;rintro obj s₁ ⟨rfl,rfl⟩;have eS:(s.heap.push { cls:=.type "list",data:=.seq #[] }).get? s.heap.objs.size=some { cls:=.type "list",data:=.seq #[] }:=Heap.get?_push_size _ rfl;refine⟨⟨_,eS,rfl⟩,F.args_list_init_2 _ _,?_⟩;refine jjq (A:=A.in1) (s:={ s with heap:=s.heap.push { cls:=.type "list",data:=.seq #[] } }) (items:=items) hh hne s.heap.objs.size ⟨o,Heap.get?_push_of_some _ ho,hc,hd⟩ ⟨o2,Heap.get?_push_of_some _ ho2,hc2,n2,hd2⟩ n1 n2' eS hz fun h' tk acc' c' k e' it=>?_;exact⟨rfl,q h' tk acc' c' (fun b o h1 hb=>k b o (xam (Heap.lt_size hb)) h1 (Heap.get?_push_of_some _ hb)) e' it⟩
theorem Vals.app {xs ys:List V} {us vs:List Value} (h:Vals xs us) (k:Vals ys vs):Vals (xs++ys) (us++vs):=by
 induction h with
 | nil=>exact k
 | cons r _ ih=>exact .cons r ih
theorem Vals.rev {xs:List V} {us:List Value} (h:Vals xs us):Vals xs.reverse us.reverse:=by
  induction h with
  | nil=>exact .nil
  | cons r _ ih =>
    rw[xa5,xa5];exact Vals.app ih (.cons r .nil)
theorem jh6 {items acc:Array Value} (h:ItemsOf (fun i v=>items[items.size-1-i]?=some v) acc items.size):acc.toList=items.toList.reverse:=by
 obtain⟨h1,h2⟩:=h;refine xbG fun i=>?_;by_cases hi:i<items.size
 ·have e:acc[i]?=some acc[i]:=Array.getElem?_eq_getElem (by omega);have z:=h2 i _ e;rw[xbM (by rw[Array.length_toList];exact hi),Array.length_toList,Array.getElem?_toList,Array.getElem?_toList,e,z]
 ·rw[xaL (by rw[Array.length_toList];omega),xaL (by rw[xa9,Array.length_toList];omega)]
section
variable {X:Cx} {e:Expr} {te:TE} {p p' pos pos':Pos}
def jeP (K:PySem.W.Frag) (te:TE):TE:=fun σ H Q=>te σ H fun x H1=>∃a ys,x=.ref a/\SqL K H1 a ys/\∀l,H1 l=none->Q (.ref l) (upd H1 l (.lst ys.reverse))
theorem jg3 (hc:X.calm=true) (hg:Gl X "list") (hm:X.mg "list"=none) (hg':Gl X "reversed") (hm':X.mg "reversed"=none) (he:PE X e te)
  (h1:starEach [e] X.env=[(false,eval e X.env)]:=by rfl) (h2:starEach [.Call (.Name "reversed" p') [e] [] pos'] X.env=[(false,eval (.Call (.Name "reversed" p') [e] [] pos') X.env)]:=by rfl) :
  PE X (.Call (.Name "list" p) [.Call (.Name "reversed" p') [e] [] pos'] [] pos) (jeP X.K te):=by
 intro pins s σ H Q I h;refine wpAny_Call_Name_kw (jdv I hg hm boot_list ?_);refine PyProof.Rows.callWith_type1 ?_ h2 rfl;rw[h2];show wpAny _ _ (spliced ((false,eval (.Call (.Name "reversed" p') [e] [] pos') X.env)::[])) _ _ s;refine Calls.spliced_cons ?_;refine wpAny_Call_Name_kw (jdv I hg' hm' boot_reversed ?_);refine PyProof.Rows.callWith_type1 ?_ h1 rfl;rw[h1];show wpAny _ _ (spliced ((false,eval e X.env)::[])) _ _ s;refine Calls.spliced_cons (thn (he pins s σ H _ I h) fun u s1 ⟨x,H1,I1,r1,q1⟩=>?_);obtain⟨a,ys,rfl,hq,q⟩:=q1;cases r1;obtain⟨its,rv,pl,hz⟩:=I1.list hq;have hlen:=rv.length;refine Calls.spliced_nil ?_;refine call_reversed_list pl.isList ?_;refine Calls.spliced_nil ?_;have hla:a<s1.heap.objs.size:=by
  obtain⟨o,ho,_⟩:=pl.isList;exact Heap.lt_size ho
 have hl':(s1.heap.push (revObj a ((its.toArray.size:Int)-1))).IsList a its.toArray:=by
  obtain⟨o,ho,hc',n,hd⟩:=pl.isList;exact⟨o,Heap.get?_push_of_some _ ho,hc',n,hd⟩
 refine jeO (I1.ok.hd hc) (xam hla) ⟨_,Heap.get?_push_size _ rfl,rfl,rfl⟩ hl' (by rw[xaf];omega) fun h' tk acc' c' k e' it=>?_;have er:=jh6 it;rw[List.toList_toArray] at er;have kp:∀(b:Addr) (o:Obj),s1.heap.get? b=some o->h'.get? b=some o:=fun b o hb=>k b o (xam (Heap.lt_size hb)) (Heap.get?_push_of_some _ hb);have sz:(s1.heap.push (revObj a ((its.toArray.size:Int)-1))).objs.size=s1.heap.objs.size+1:=by
  unfold Heap.push;exact Array.size_push ..
 have hle:s1.heap.objs.size<=(s1.heap.push (revObj a ((its.toArray.size:Int)-1))).objs.size:=by omega
 refine⟨.ref _,_,I1.laid (t':=tk) (o:=.lst ys.reverse) kp hle ?_,rfl,q _ (I1.hok.fresh hle)⟩;refine⟨by rw[xa9];exact hz,its.reverse,c',rv.rev,?_⟩;rw[e',<- er]
end
def jcY (J:It) (n:Nat) (ρ:St) (g:TG) (tt:TT) (te:TE) (acc:Addr) (Z:Hp->Prop) (H1:Hp):Prop :=
  ∃ W : Nat -> Nat -> List V -> Hp -> Prop, (∃ m, W 0 m [] (upd H1 acc (.lst []))) /\ ∀ i m xs H, W i m xs H ->
    ((J.stop i H /\ Z H) \/ (J.go i H /\ ∃ (Nx : V -> Hp -> Prop) (Nn : Hp -> Prop), (∀ y H4, Nx y H4 -> H4 acc = some (.lst xs) /\ xs.length < sizeLine /\ ∃ m', m' < m /\ W (i + 1) m' (xs ++ [y]) (upd H4 acc (.lst (xs ++ [y])))) /\
      (∀H3,Nn H3->∃m',m'<m/\W (i+1) m' xs H3)/\∀(v0:St) x H',v0.length=n->J.yld i H x H'->g x (v0++ρ) H' fun σ2 H2=>(∃v:St,v.length=n/\σ2=v++ρ)/\tt σ2 H2 fun b H3=>if b=true then te σ2 H3 Nx else Nn H3))
section
variable {X:Cx} {N' r xs0:List Str} {ix:List Nat} {cs:Scope} {tg iter elt:Expr} {ifs:List Expr} {pos:Pos} {wi:TI} {g:TG} {tt:TT} {te:TE}
def jki (wi:TI) (ix:List Nat) (n:Nat) (g:TG) (tt:TT) (te:TE):TE:=fun σ H Q=>wi σ H fun J H1=>∀acc,H1 acc=none->jcY J n (jaG σ ix) g tt te acc (fun H'=>Q (.ref acc) H') H1
end
section
variable {K:PySem.W.Frag} {ta:TA} {tl:TE} {ix:List Nat} {n:Nat} {g:TG} {tt:TT} {te:TE} {σ:St} {H:Hp} {Q:VK}
theorem jgj:jki (ji9 K tl) ix n g tt te σ H Q=tl σ H fun x H1=>∃a,x=.ref a/\(∃xs,SqL K H1 a xs)/\∀acc,H1 acc=none->jcY (Itl K a) n (jaG σ ix) g tt te acc (fun H'=>Q (.ref acc) H') H1:=rfl
end
theorem jb0 {X:Cx}:CallR X (.type "tuple") (fun xs H Q=>∃p ys,xs=[.ref p]/\SqL X.K H p ys/\∀l,H l=none->Q (.ref l) (upd H l (.tup ys))):=fun pins s σ H xs us Q I r ⟨p,ys,e,k,q⟩=>jbl pins s σ H xs us Q I r ⟨p,ys,e,.inl ⟨k,q⟩⟩
theorem jk9 {X:Cx} {K:PySem.W.Frag} {es:List Expr} {k:Nat} {t:TGs} {n:Nat} {pos:Pos} (hK:X.K=K) (hc:X.calm=true) (h:PGs X es t)
  (hn:(assignEach es X.env).length=n:=by rfl) (hst:(assignEach es X.env).findIdx? (·.1)=none:=by rfl):PG X (.Tuple es k pos) (jkQ K n t):=hK▸jcM hc h hn hst
def SameB (L:Addr) (H H':Hp):Prop:=∀b o,b≠L->H b=some o->H' b=some o
theorem SameB.refl (L:Addr) (H:Hp):SameB L H H:=fun _ _ _ h=>h
theorem SameB.trans {L:Addr} {H H' J:Hp} (s:SameB L H H') (t:SameB L H' J):SameB L H J:=fun b o n h=>t b o n (s b o n h)
theorem Same.b {L:Addr} {H H':Hp} (s:Same H H'):SameB L H H':=fun b o _ h=>s b o h
theorem SameB.acc {L acc:Addr} {H H':Hp} {o:HO} (s:SameB L H H') (h:H acc=none):SameB L H (upd H' acc o):=fun b u n q=>by rw[jaA (jaz q h)];exact s b u n q
theorem SameB.none {L b:Addr} {H H':Hp} (s:SameB L H H') (n:b≠L) (h:H' b=none):H b=none:=by
 cases e:H b with
 | none=>rfl
 | some o=>rw[s b o n e] at h;cases h
theorem SameB.set {L:Addr} {H:Hp} {o:HO}:SameB L H (upd H L o):=fun b u n h=>by rw[jaA n];exact h
end L2
namespace L2
open PySem PyProof.Rows PySem.Calls
end L2
namespace L2
open PySem PySem.Spec PyProof.Rows
section
variable {X:Cx} {tg:Expr}
def It3 (lo c:Int) (n:Nat):It:=⟨fun i _=>i<n,fun i H x H'=>H'=H/\x=.int (lo+i*c),fun i _=>n<=i⟩
def iRng3 (ta:TA):TI:=fun σ H R=>ta σ H fun vs H1=>∃i j c:Int,vs=[.int i,.int j,.int c]/\(-(2^30)<=i/\i<2^30/\-(2^30)<=j/\j<2^30/\1<=c/\c<2^30)/\R (It3 i c (Builtin.Range.rangeSize i j c).toNat) H1
end
end L2
namespace L2
section
variable {K:PySem.W.Frag} {tl:TE} {ta:TA} {ix:List Nat} {g:TG} {tt:TT} {te:TE} {σ:St} {H:Hp} {Q:VK}
theorem jgk:jfm (iRng3 ta) ix g tt te σ H Q=ta σ H fun vs H1=>∃i j c:Int,vs=[.int i,.int j,.int c]/\(-(2^30)<=i/\i<2^30/\-(2^30)<=j/\j<2^30/\1<=c/\c<2^30)/\∀acc,H1 acc=none->CompGo (It3 i c (PySem.Builtin.Range.rangeSize i j c).toNat) (jaG σ ix) g tt te acc (fun H'=>Q (.ref acc) H') H1:=rfl
end
end L2
namespace L2
open PySem PySem.Spec PyProof.Rows
theorem jeQ {M:Model} {A:Around} {E:Value->Shared->Prop} {s:Shared} {scope:Scope} {globals:Addr} {cl:List (Str × Addr)} {qual:Str} {env:Env} {Q:Env->Shared->Prop}
  (hQ:Q (newEnv scope s.heap.objs.size globals (cellsFrom (s.heap.objs.size+1) scope.names cl) qual none .none (some env) builtinsNs) { s with heap:=pushCells (s.heap.push { cls:=.type "dict",data:=.dict #[] }) scope.names }) :
  wpAny M A (newFunctionEnv scope globals cl [] qual none .none (some env)) Q E s:=by
 simp only[newFunctionEnv,Option.isSome_some,if_true];refine wpAny_bind (wpAny_alloc ?_);refine wpAny_bind (wpAny_layCells _ (fun name kind cells=>by cases hkc:kind==NameKind.cell<;>simp [hkc]) _ _ _ _ ?_);rw[show ({ s with heap:=s.heap.push { cls:=.type "dict",data:=.dict #[] } }:Shared).heap.objs.size=s.heap.objs.size+1 from Heap.size_push ..];rw[List.forIn_nil];exact wpAny_bind (wpAny_pure (wpAny_pure hQ))
structure CfOk (n:Nat) (cs:List (Str × Addr)):Prop where
 lt:∀y c,cs.lookup y=some c->c<n
 inj:∀x y c,cs.lookup x=some c->cs.lookup y=some c->x=y
theorem jla {n:Nat} {name:Str} {acc:List (Str × Addr)} (k:CfOk n acc):CfOk (n+1) ((name,n)::acc):=by
  refine⟨fun y c e=>?_,fun x y c e1 e2=>?_⟩
  . rw[xax] at e
    cases z:y==name with
    | true=>rw[z] at e;cases e;exact Nat.lt_succ_self _
    | false=>rw[z] at e;exact xbs (k.lt y c e)
  . rw[xax] at e1 e2
    cases z1:x==name with
    | true =>
      cases z2:y==name with
      | true=>exact (beq_iff_eq.mp z1).trans (beq_iff_eq.mp z2).symm
      | false =>
        rw[z1] at e1;rw[z2] at e2;cases e1;exact absurd (k.lt y _ e2) (xaW _)
    | false =>
      cases z2:y==name with
      | true =>
        rw[z1] at e1;rw[z2] at e2;cases e2;exact absurd (k.lt x _ e1) (xaW _)
      | false =>
        rw[z1] at e1;rw[z2] at e2;exact k.inj x y c e1 e2
theorem jlb:∀(names:List (Str × NameKind)) (h:Heap) (acc:List (Str × Addr)),CfOk h.objs.size acc->CfOk (pushCells h names).objs.size (cellsFrom h.objs.size names acc)
  | [],_,_,k=>k
  | (name, kind) :: r, h, acc, k => by
    unfold pushCells cellsFrom;split
    . have z:=jlb r (h.push { cls:=.type "cell",data:=.cell none }) ((name,h.objs.size)::acc) (by rw[Heap.size_push]; exact jla k)
      rwa [Heap.size_push] at z
    . exact jlb r h acc k
theorem jfS:∀(names:List (Str × NameKind)) (h:Heap) (acc:List (Str × Addr)) (y:Str) (c:Addr),(cellsFrom h.objs.size names acc).lookup y=some c ->
    acc.lookup y=some c\/((y,NameKind.cell)∈names/\h.objs.size<=c/\(pushCells h names).IsCell c none)
  | [],_,_,_,_,e=>.inl e
  | (name, kind) :: r, h, acc, y, c, e => by
    unfold pushCells;unfold cellsFrom at e;by_cases hk:(kind==NameKind.cell)=true
    . rw[if_pos hk] at e |-
      rw[<- Heap.size_push (h:=h) (o:={ cls:=.type "cell",data:=.cell none })] at e;rcases jfS r _ _ y c e with z | ⟨z1,z2,z3⟩
      . rw[xax] at z
        cases q:y==name with
        | true =>
          rw[q] at z;cases z;have e1:=beq_iff_eq.mp q;have e2:=beq_iff_eq.mp hk;subst e1;subst e2;refine .inr ⟨xaP,xad _,⟨_,pushCells_keeps r _ _ _ (Heap.get?_push_size _ rfl),rfl⟩⟩
        | false =>
          rw[q] at z;exact .inl z
      . rw[Heap.size_push] at z2
        exact .inr ⟨xan _ z1,by omega,z3⟩
    . rw[if_neg hk] at e |-
      rcases jfS r h acc y c e with z | ⟨z1,z2,z3⟩
      . exact .inl z
      . exact .inr ⟨xan _ z1,z2,z3⟩
theorem jfr:∀(names:List (Str × NameKind)) (n:Nat) (acc:List (Str × Addr)) (y:Str),(y,NameKind.cell)∉names->(cellsFrom n names acc).lookup y=acc.lookup y
  | [],_,_,_,_=>rfl
  | (name, kind) :: r, n, acc, y, hn => by
    unfold cellsFrom;have hr:(y,NameKind.cell)∉r:=fun z=>hn (xan _ z);by_cases hk:(kind==NameKind.cell)=true
    . rw[if_pos hk,jfr r _ _ y hr,xax]
      cases q:y==name with
      | true =>
        have e1:=beq_iff_eq.mp q;have e2:=beq_iff_eq.mp hk;subst e1;subst e2;exact absurd xaP hn
      | false=>rfl
    . rw[if_neg hk,jfr r _ _ y hr]
theorem jfs:∀(names:List (Str × NameKind)) (n:Nat) (acc:List (Str × Addr)) (y:Str),(y,NameKind.cell)∈names->∃c,(cellsFrom n names acc).lookup y=some c/\n<=c
  | (name, kind) :: r, n, acc, y, hy => by
    unfold cellsFrom;by_cases hr:(y,NameKind.cell)∈r
    . by_cases hk:(kind==NameKind.cell)=true
      . rw[if_pos hk]
        obtain⟨c,h1,h2⟩:=jfs r (n+1) ((name,n)::acc) y hr;exact⟨c,h1,by omega⟩
      . rw[if_neg hk]
        exact jfs r n acc y hr
    . rcases xaq.mp hy with z | z
      . cases z
        rw[if_pos (by rfl),jfr r _ _ _ hr,xax];exact⟨n,by rw[beq_self_eq_true],xad _⟩
      . exact absurd z hr
theorem jlc {names:List (Str × NameKind)} {n:Nat} {acc:List (Str × Addr)} {y:Str} (h:∃c,acc.lookup y=some c):∃c,(cellsFrom n names acc).lookup y=some c:=by
 by_cases hy:(y,NameKind.cell)∈names
 ·obtain⟨c,h1,_⟩:=jfs names n acc y hy;exact⟨c,h1⟩
 ·rw[jfr names n acc y hy];exact h
structure CompScopeC (N:List Str) (sc:Scope) (N':List Str) (ix:List Nat) (x:Str) (r:List Str) (cs:Scope):Prop where
 eq:N'=x::r
 kind:cs.kind=.function
 hown:∀y∈cs.names,y.2=.cell->cs.names.lookup y.1=some .cell
 hnames:∀y∈cs.names,y.2=.local->cs.names.lookup y.1=some .local
 nd:(x::r).Nodup
 fr:∀y∈cs.names,y.2=.free->sc.names.lookup y.1=some .cell\/sc.names.lookup y.1=some .free
 ixs:Ixs N sc cs r ix
def jaO (X:Cx) (N':List Str) (cs:Scope) (cl:List (Str × Addr)) (s3:Shared) (H3:Hp) (fp:List Addr):Cx :=
 { X with N:=N',s₀:=s3,H₀:=H3,env:=compEnvC cs (cellsFrom (s3.heap.objs.size+1) cs.names cl) s3.heap.objs.size X.env,outer:=X.stack,stack:=X.stack,ex:=fp,fn:=fun y=>cs.names.lookup y==some .cell,pn:=[],xe:=fun _ _=>False }
theorem jc9 {env:Env} {cs:Scope} {y:Str} {k:NameKind} (h:(relabel cs env).names.lookup y=some k) (hk:k=.cell\/k=.free):(y,NameKind.free)∈cs.names\/(y,NameKind.cell)∈cs.names:=by
 have m:=PySem.mem_of_lookup h;obtain⟨⟨n,k0⟩,h1,h2⟩:=xaG.mp m;by_cases c:(k0==NameKind.free&&env.scope.kind==.function&&env.kindOf n==some .cell)=true
 ·have h2':(n,NameKind.cell)=(y,k):=by rw[<- h2];exact (if_pos c).symm
  cases h2';have:k0=.free:=by
   have z:=(xbi.mp (xbi.mp c).1).1;exact beq_iff_eq.mp z
  rw[this] at h1;exact .inl h1
 ·have h2':(n,k0)=(y,k):=by rw[<- h2];exact (if_neg c).symm
  cases h2';rcases hk with rfl | rfl
  ·exact .inr h1
  ·exact .inl h1
section
variable {X:Cx} {pins:List (Addr × Obj)} {σ:St} {H:Hp} {s:Shared}
theorem Inv.cfs {cs:Scope} {cl:List (Str × Addr)} (I:Inv X pins σ H s) (h2:∀y c,cl.lookup y=some c->X.env.cells.lookup y=some c) :
  CfOk (pushCells (s.heap.push { cls:=.type "dict",data:=.dict #[] }) cs.names).objs.size (cellsFrom (s.heap.objs.size+1) cs.names cl) /\
  ∀y c,(cellsFrom (s.heap.objs.size+1) cs.names cl).lookup y=some c->X.env.cells.lookup y=some c\/((y,NameKind.cell)∈cs.names/\s.heap.objs.size+1<=c/\(pushCells (s.heap.push { cls:=.type "dict",data:=.dict #[] }) cs.names).IsCell c none):=by
 have e:s.heap.objs.size+1=(s.heap.push { cls:=.type "dict",data:=.dict #[] }).objs.size:=(Heap.size_push ..).symm;rw[e];refine⟨jlb _ _ _ ⟨fun y c q=>?_,fun a b c ha hb=>I.ok.inj a b c (h2 a c ha) (h2 b c hb)⟩,fun y c q=>?_⟩
 ·obtain⟨v,o,ho,_⟩:=I.cell y c (h2 y c q);rw[<- e];exact xbs (Heap.lt_size ho)
 ·rcases jfS _ _ _ y c q with z | z
  ·exact .inl (h2 y c z)
  ·exact .inr z
end
section
variable {X:Cx} {N' r:List Str} {ix:List Nat} {x:Str} {cs:Scope} {tg iter elt:Expr} {ifs:List Expr} {pos:Pos} {wi:TI} {g:TG} {tt:TT} {te:TE}
theorem CompScopeC.clos {sc:Scope} {N:List Str} (S:CompScopeC N sc N' ix x r cs) {env:Env} (he:env.scope=sc) (has:∀y,(env.kindOf y=some .cell\/env.kindOf y=some .free)->∃c,env.cells.lookup y=some c) :
  ∃cl:List (Str × Addr),closureFor cs env=pure cl/\(∀y c,cl.lookup y=some c->env.cells.lookup y=some c)/\(∀y,(y,NameKind.free)∈cs.names->∃c,cl.lookup y=some c) :=
 jdl fun y hy hk=>has y.1 (by
  subst he;exact S.fr y hy hk)
end
end L2
namespace L2
open PySem PyProof.Rows
end L2
namespace L2
open PySem PySem.Spec PyProof.Rows
section
variable {X:Cx} {pins:List (Addr × Obj)} {σ:St} {H:Hp} {s:Shared} {h':Heap}
theorem Inv.turnedL {t':Nat} {ch:List Addr} (I:Inv X pins σ H s) (k:∀b o,b∉ch->s.heap.get? b=some o->h'.get? b=some o) (hf:∀b∈ch,jfG X pins H b):Inv X pins σ H { s with heap:=h',toks:=t' }:=by
 have nit:∀b u,H b=some u->b∉ch:=fun b u e z=>by rw[(hf b z).1] at e;cases e
 refine I.step (g':=s.gens) (d':=s.drawn) (ch:=ch) (fun b hb=>⟨(hf b hb).2.2.2.1,(hf b hb).2.1,(hf b hb).2.2.2.2.1,(hf b hb).2.2.2.2.2⟩) (fun b o _ _ hc e _=>k b o hc e) (fun b o _ _ hc e _=>⟨o.slots,k b o hc e⟩) (fun _ _ _ _ n=>n)
  (fun b o hc e=>⟨o,k b o hc e⟩) (fun _ _ e=>e) (fun _ _ _ e=>e) (fun b ps e=>⟨#[],by rw[e];simp⟩) (fun m hm=>?_) (fun b u e=>?_) I.bare
 ·obtain⟨o,es,ep,ho,r⟩:=hm;exact⟨o,es,ep,k _ o (fun z=>(hf _ z).2.1 rfl) ho,r⟩
 ·refine (I.hok b u e).stay (fun c v hc q=>k c v ?_ q) (fun _ q=>q) fun _ _ q=>q;rcases hc with z | z
  ·rw[z];exact nit b u e
  ·exact nit c _ z
end
def Ite (K:PySem.W.Frag) (a:Addr):It :=
 ⟨fun i H=>∃xs x,SqL K H a xs/\xs[i]?=some x,fun i H x H'=>∃T v,x=.ref T/\H T=none/\H'=upd H T (.tup [.int i,v])/\∀xs,SqL K H a xs->xs[i]?=some v,fun i H=>∃xs,SqL K H a xs/\xs.length<=i⟩
theorem jh7 {P:Program} {w:World} {K:PySem.W.Frag} {elts:List Expr} {x1:Nat} {tpos:Pos} (a e it:Addr) (hei:e≠it):Turn P w K (.Tuple elts x1 tpos) (Ite K a) [e,it] e (fun i h=>(∃old,IsEnum h e it (i:Nat) old)/\h.IsListIter it a i) where
 mem:=by simp
 obj:=fun i h st b hb=>by
  obtain⟨⟨old,he⟩,o,e1,c,d⟩:=st;rcases xaq.mp hb with rfl | hb
  ·exact⟨_,he,fun v z=>by
    have z':Data.fields _=Data.cell v:=z;cases z'⟩
  ·have e2:b=it:=by simpa using hb
   subst e2;exact⟨o,e1,fun v z=>by rw[d] at z;cases z⟩
 keep:=fun i h h' st k=>by
  obtain⟨⟨old,he⟩,hi⟩:=st;exact⟨⟨old,k e (by simp) _ he⟩,hi.at fun o q=>k it (by simp) o q⟩
 item:=by
  intro X hP hw hK hc i pins s σ H E I hf st hg;subst hP hw hK;obtain⟨⟨old,he⟩,hit⟩:=st;obtain⟨xs,x,hq,hx⟩:=hg;obtain⟨its,rv,p,hz⟩:=I.list hq;obtain⟨u,hu,ru⟩:=rv.get hx;have heS:e<s.heap.objs.size:=Heap.lt_size he;have hiS:it<s.heap.objs.size:=by
   obtain⟨o,e1,_⟩:=id hit;exact Heap.lt_size e1
  refine wpAny_pyNext_enum_item he hit p.isList (x:=u) (by simpa using hu) hei fun h₁ heo hit₁ ht₁ hz₁ hk₁=>?_;refine⟨_,rfl,wpAny_letOwnedTupleGo_enum heo fun h₂ he₂ hs₂=>?_⟩;have fr:H s.heap.objs.size=none:=I.hok.fresh (xad _);have I1:Inv X pins σ (upd H s.heap.objs.size (.tup [.int i,x])) { s with heap:=s.heap.push { cls:=.type "tuple",data:=.seq #[.int i s.toks,u] } } :=
   I.laid (t':=s.toks) (fun b o q=>Heap.get?_push_of_some _ q) (xad _) ⟨(show 2<=sizeLine by decide),[.int i s.toks,u],.cons ⟨_,rfl⟩ (.cons ru .nil),⟨_,Heap.get?_push_size _ rfl,rfl,_,rfl⟩⟩
  have nT:∀b∈[e,it],b≠s.heap.objs.size:=fun b hb=>by
   rcases xaq.mp hb with rfl | hb
   ·exact xam heS
   ·have e2:b=it:=by simpa using hb
    rw[e2];exact xam hiS
  have hf1:∀b∈[e,it],jfG X pins (upd H s.heap.objs.size (.tup [.int i,x])) b:=fun b hb=>⟨by rw[jaA (nT b hb)];exact (hf b hb).1,(hf b hb).2⟩;have I2:Inv X pins σ (upd H s.heap.objs.size (.tup [.int i,x])) { s with heap:=h₂,toks:=s.toks+1 }:=Inv.turnedL (s:={ s with heap:=s.heap.push { cls:=.type "tuple",data:=.seq #[.int i s.toks,u] } }) (h':=h₂) (t':=s.toks+1) (ch:=[e,it]) I1 (fun b o hb q=>by
   have nb1:b≠e:=fun z=>hb (by simp [z]);have nb2:b≠it:=fun z=>hb (by simp [z]);refine hs₂.extBut b o nb1 ?_;have q2:(s.heap.push { cls:=.type "tuple",data:=.seq #[.int i s.toks,u] }).get? b=some o:=q;rcases Heap.get?_push_cases q2 with ⟨rfl,rfl⟩ | q'
   ·exact ht₁
   ·exact hk₁ b o nb1 nb2 q') hf1
  refine⟨.ref s.heap.objs.size,_,I2,rfl,(show (Ite X.K a).yld i H _ _ from ⟨_,x,rfl,fr,rfl,fun ys hy=>by rw[I.list_inj hy hq];exact hx⟩),⟨⟨u,?_⟩,hit₁.extBut hs₂.extBut (Ne.symm hei)⟩,fun b hb=>(hf1 b hb).1⟩;exact he₂
 done:=by
  intro X hP hw hK hc i pins s σ H E I hf st hg;subst hP hw hK;obtain⟨⟨old,he⟩,hit⟩:=st;obtain⟨xs,hq,hx⟩:=hg;obtain⟨its,rv,p,hz⟩:=I.list hq;have hl:=rv.length;exact wpAny_pyNext_enum_end (I.ok.hd hc) he hit p.isList (by simp;omega) fun h' eb=>⟨rfl,I.turnedL (ch:=[it]) (t':=s.toks) (fun b o hb q=>eb b o (fun z=>hb (by simp [z])) q) fun b hb=>hf b (by simp at hb;simp [hb])⟩
 self:=fun _ _ _ _ _ st h=>by
  obtain⟨⟨old,he⟩,_⟩:=st;exact wpAny_pyIter_enum he h
section
variable {X:Cx} {elts:List Expr} {x1:Nat} {tpos:Pos}
def jmB (K:PySem.W.Frag) (ta:TA):TI:=fun σ H R=>ta σ H fun vs H1=>∃a,vs=[.ref a]/\(∃xs,SqL K H1 a xs)/\R (Ite K a) H1
theorem jld {l:Expr} {ta:TA} {p pos:Pos} (hg:Gl X "enumerate") (hm:X.mg "enumerate"=none) (ha:PA X [l] ta) (hs:starEach [l] X.env=[(false,eval l X.env)]:=by rfl):PI X (.Tuple elts x1 tpos) (.Call (.Name "enumerate" p) [l] [] pos) (jmB X.K ta):=by
  intro pins s σ H R I h;refine Call_ (jdv I hg hm boot_enumerate (PyProof.Rows.callWith_type1 (thn (ha pos pins s σ H _ I h) fun us s1 ⟨vs,H1,I1,r1,q1⟩=>?_) hs rfl));obtain⟨a,e,⟨xs,hq⟩,q⟩:=q1;subst e;cases r1 with
  | cons r rr =>
    cases rr;cases r;obtain⟨its,rv,pl,hz⟩:=I1.list hq;refine call_enumerate_list pl.isList fun h' he hit hsz hk=>?_;refine wpAny_pyIter_enum he ?_;have I2:Inv X pins σ H1 { s1 with heap:=h' }:=I1.kept (t':=s1.toks) hk;refine⟨s1.heap.objs.size+1,[s1.heap.objs.size+1,s1.heap.objs.size],_,_,H1,rfl,I2,jh7 a _ _ (Nat.succ_ne_self _),⟨⟨_,he⟩,hit⟩,fun b hb=>?_,q⟩;rcases xaq.mp hb with rfl | hb
    . exact I1.fpOk (xbV _) (I1.hok.fresh (xbV _))
    . have e2:b=s1.heap.objs.size:=by simpa using hb
      subst e2;exact I1.fpOk (xad _) (I1.hok.fresh (xad _))
end
section
variable {K:PySem.W.Frag} {ta:TA} {tl:TE} {g:TG} {tb:TS} {D:Ends} {σ:St} {H:Hp}
theorem jkj:jkU (jmB K ta) g tb D σ H=ta σ H fun vs H1=>∃a,vs=[.ref a]/\(∃xs,SqL K H1 a xs)/\jk5 (Ite K a) g tb D σ H1:=rfl
theorem jjr {a:Addr} {xs:List V} (Pv:Nat->St->Hp->Prop) (h0:Pv 0 σ H) (hl:∀i σ H,i<=xs.length->Pv i σ H->SqL K H a xs)
  (hs:∀i x σ H T,xs[i]?=some x->Pv i σ H->H T=none->g (.ref T) σ (upd H T (.tup [.int i,x])) fun σ2 H2=>tb { D with nx:=Pv (i+1),ct:=Pv (i+1),bk:=D.nx } σ2 H2) (hd:∀σ H,Pv xs.length σ H->D.nx σ H) :
  jk5 (Ite K a) g tb D σ H:=by
 refine⟨fun i m σ H=>m=xs.length-i/\i<=xs.length/\Pv i σ H,⟨xs.length,by simp,xar _,h0⟩,?_⟩;rintro i m σ H ⟨rfl,hi,p⟩;have q:=hl i σ H hi p;by_cases h:i<xs.length
 ·refine .inr ⟨⟨xs,xs[i],q,xac h⟩,Pv (i+1),fun σ' H' z=>⟨xs.length-(i+1),by omega,rfl,by omega,z⟩,?_⟩;rintro x H' ⟨T,v,rfl,hT,rfl,hv⟩;have e:=hv xs q;exact hs i v σ H T e p hT
 ·have e:i=xs.length:=by omega
  subst e;exact .inl ⟨⟨xs,q,xad _⟩,hd σ H p⟩
end
structure XCls (K:PySem.W.Frag) (C:Addr):Prop where
 cls:(PySem.W.clsIn K C).isSome=true
 ga:PySem.W.findIn K (.ref C) "__getattribute__"=some (some (.builtin "BaseException.__getattribute__"))
 gh:PySem.W.findIn K (.ref C) "__getattr__"=some none
 be:PySem.W.subIn K (.ref C) (.type "BaseException")=some true
 ca:PySem.W.findIn K (.ref C) "__class__"=some (some (.builtin "object.__class__"))
 cg:PySem.W.specialIn K (.builtin "object.__class__") "__get__"=some (some (.builtin "getset_descriptor.__get__"))
 ct:PySem.W.takesIn K (.builtin "object.__class__")=some true
 ob:PySem.W.mroIn K C (.type "object")=some true
section
variable {prog:Program} {w:World} {A:Around} {E:Value->Shared->Prop} {K:PySem.W.Frag} {x C:Addr} {ox:Obj} {od:Option Obj} {s:Shared} {name:Str} {tk:Tok} {v:Value}
theorem jh8 {M:Model} {nameV:Value} {Q:Unit->Shared->Prop} (X:K.In s.heap) (Z:XCls K C) (I:PySem.W.InstAt s.heap x ox C od) (hq:Q () s) :
  wpAny M A (checkBuiltinCall "BaseException.__getattribute__" ⟨[.ref x,nameV],[]⟩) Q E s:=by
 have hk:builtinKind "BaseException.__getattribute__"=some .slot:=by decide +kernel
 have hsplit:splitId "BaseException.__getattribute__"=some ("BaseException","__getattribute__"):=by decide +kernel
 have ha:=F.args_bexc_ga (.ref x) nameV;have L0:=I.type (M:=M);have L1:=PySem.W.looks_subIn (M:=M) X Z.be;obtain⟨h,g,d,t,os⟩:=s;simp only[checkBuiltinCall,hk,hsplit];refine wpAny_bind ?_;unfold isInstance;refine wpAny_bind (L0.at (L1.at ?_))
 repeat (first | exact hq | wp_step)
theorem jmC {fill expr:Bool} {Q:Value->Shared->Prop} (X:K.In s.heap) (Z:XCls K C) (I:PySem.W.InstAt s.heap x ox C od) (hh:PySem.W.handedIn v=true)
  (hin:∀(A:Around) (Q:Fin->Shared->Prop) (E:Value->Shared->Prop),Q (.done (.ret v)) s->wpAny (model prog w) A (Builtin.«object.__getattribute__» ⟨[.ref x,.str name tk],[]⟩) Q E s) (hq:Q v s) :
  wpAny (model prog w) A (getAttrBy (.ref x) (.str name tk) fill expr) Q E s:=by
 have FB:=F.excAttr_ValueError;have f3:=FB.ga.bind (.ref x);have hx0:(expr&&onTheHeap (Value.builtin "BaseException.__getattribute__"))=false:=by cases expr<;>rfl
 have hx2:(Value.builtin "BaseException.__getattribute__"==Value.builtin "object.__getattribute__")=false:=by decide +kernel
 have hx1:(onTheHeap (Value.ref C)&&Value.builtin "BaseException.__getattribute__"==Value.builtin "object.__getattribute__")=false:=by rw[hx2];rfl
 have L0:=I.type (M:=model prog w);have L1:=PySem.W.looks_findIn (M:=model prog w) X Z.ga;have L2:=PySem.W.looks_findIn (M:=model prog w) X Z.gh;have hcall:∀(A:Around) (R:Result->Shared->Prop),R (.ok (.ret v)) s->codeAny (model prog w) A (.call (.builtin "BaseException.__getattribute__") ⟨[.ref x,.str name tk],[]⟩) R s:=fun A R hR =>
  codeAny_call_builtin FB.ga.plain F.entry_bexc_ga (jh8 X Z I (hin _ _ _ hR))
 have hho:=PySem.W.handedOut_of hh;obtain⟨h,g,d,t,os⟩:=s;unfold getAttrBy;refine wpAny_holding (wpAny_bind (L0.at (wpAny_bind (L1.at ?_))));show wpAny _ _ (if (onTheHeap (Value.ref C)&&Value.builtin "BaseException.__getattribute__"==Value.builtin "object.__getattribute__")=true then _ else _) _ _ _;rw[if_neg (by rw[hx1];exact xai)];unfold getAttrByItsOwn hookBefore;refine wpAny_bind ?_;show wpAny _ _ (typeLookup (.ref C) "__getattr__") _ _ _;refine L2.at ?_;refine wpAny_bind (wpAny_attempt (wpAny_holding ?_));unfold callGetattribute;rw[if_neg (by rw[hx0];exact xai)];unfold boundAndCalled;refine wpAny_bind (wpAny_of_eq f3 ?_);refine wpAny_call (hcall _ _ ?_);show wpAny _ _ (handedOut v) _ _ _;rw[hho];exact wpAny_pure hq
end
def jcb (C t:Addr) (d:Option Addr):Obj:={ cls:=.ref C,dict:=d,data:=.fields #[.ref t,.none,.none,.none,.bool false,.none] }
def ji4 (a C:Addr):HO:=.ext fun h=>∃o,h.get? a=some o/\∃t,o=jcb C t none
def jhm (a C dx:Addr):HO:=.ext fun h=>∃o,h.get? a=some o/\∃t,o=jcb C t (some dx)
section
variable {P:Program} {w:World} {H:Hp} {h h':Heap} {a:Addr} {o:HO}
theorem ObjOk.get (x:ObjOk P w H h a o):∃ob,h.get? a=some ob:=by
 cases o with
 | lst xs=>obtain⟨_,_,_,_,e⟩:=x;exact⟨_,e⟩
 | tup xs=>obtain⟨_,_,_,ob,e,_⟩:=x;exact⟨_,e⟩
 | dK kvs=>obtain⟨_,_,_,_,o,_,_,e,_⟩:=x;exact⟨_,e⟩
 | dT kvs=>obtain⟨_,_,_,_,o,_,_,e,_⟩:=x;exact⟨_,e⟩
 | set S n=>obtain⟨o,_,_,_,e,_⟩:=x;exact⟨_,e⟩
 | ins C dx fs=>obtain⟨_,_,_,e,_⟩:=x;exact⟨_,e⟩
 | own y=>exact x
 | xd fs=>obtain⟨_,⟨_,_,_,e,_⟩,_⟩:=x;exact⟨_,e⟩
 | rng lo hi=>obtain⟨_,_,_,e⟩:=x;exact⟨_,e⟩
 | frz ob u=>obtain⟨e,_⟩:=x;exact⟨_,e⟩
 | tbl ps=>exact⟨_,(show h.get? a=some _ from x)⟩
 | met f y=>exact⟨_,(show h.get? a=some _ from x)⟩
 | ext φ=>obtain⟨_,e,_⟩:=x;exact e
theorem HOk.freshN (x:HOk P w H h) (e:h.get? a=none):H a=none:=by
 cases q:H a with
 | none=>rfl
 | some u=>obtain⟨_,z⟩:=(x a u q).get;rw[e] at z;cases z
theorem HOk.laidN (x:HOk P w H h) (k:∀b u,h.get? b=some u->h'.get? b=some u) (hp:h.get? a=none) (new:ObjOk P w (upd H a o) h' a o):HOk P w (upd H a o) h':=fun b u e=>by
 have hn:=x.freshN hp;by_cases hb:b=a
 ·subst hb;rw[jaf] at e;cases e;exact new
 ·rw[jaA hb] at e;exact (x b u e).stay (fun c v _ q=>k c v q) (fun c q=>by rw[jaA (jaz q hn)];exact q) fun c xs q=>by rw[jaA (jaz q hn)];exact q
theorem Un.laidN {fs ex:List Addr} (k:∀b u,h.get? b=some u->h'.get? b=some u) (hp:h.get? a=none) (hn:H a=none):Un fs ex H (upd H a o) h h' where
 keep:=fun b u q _ _ _=>k b u q
 slot:=fun b u q _ _ _=>⟨u.slots,k b u q⟩
 free:=fun b u q n _=>by rw[jaA (fun z=>by rw[z,hp] at q;cases q)];exact n
 there:=fun b u q _=>⟨u,k b u q⟩
 tups:=fun b xs q=>by rw[jaA (jaz q hn)];exact q
 frzs:=fun b u xs q=>by rw[jaA (jaz q hn)];exact q
 tbls:=fun b ps q=>⟨#[],by rw[jaA (jaz q hn),q];simp⟩
end
section
variable {X:Cx} {pins:List (Addr × Obj)} {σ:St} {H:Hp} {s:Shared} {h':Heap} {C:Addr} {x:Str} {p pos:Pos} {e:Expr} {es:List Expr} {t:TA}
theorem Inv.laidN {a:Addr} {o:HO} {t':Nat} (I:Inv X pins σ H s) (k:∀b u,s.heap.get? b=some u->h'.get? b=some u) (hp:s.heap.get? a=none) (new:ObjOk X.prog X.w (upd H a o) h' a o) :
  Inv X pins σ (upd H a o) { s with heap:=h',toks:=t' }:=I.un (Un.laidN k hp (I.hok.freshN hp)) (I.hok.laidN k hp new)
theorem jh9 {P:Program} {w:World} {h:Heap} {a:Addr} {φ:Obj->Prop} {ob:Obj} (e:h.get? a=some ob) (q:φ ob):ObjOk P w H h a (.ext fun h=>∃o,h.get? a=some o/\φ o) :=
 ⟨⟨ob,e,q⟩,⟨ob,e⟩,fun h1 h2 ⟨o,e1,q1⟩ k=>⟨o,k o e1,q1⟩⟩
theorem Inv.madeX {ea:Addr} {vs:List Value} {t':Nat} (I:Inv X pins σ H s) (m:Heap.MadeExcOf s.heap h' ea (.ref C) vs):Inv X pins σ (upd H ea (ji4 ea C)) { s with heap:=h',toks:=t' }:=by
 obtain⟨tt,et,_,_⟩:=m.there;exact I.laidN m.keeps m.new (jh9 (φ:=fun o=>∃t,o=jcb C t none) et ⟨tt,rfl⟩)
end
def jcZ:List Value->Bool
 | [.type a,.type b,.type c,.type d]=>a=="ValueError"&&b=="Exception"&&c=="BaseException"&&d=="object"
 | .ref _::r=>jcZ r
 | _=>false
theorem jet (self:Value):∀{l:List Value},jcZ l=true->PySem.refuseLoop self "__setattr__" l=pure ()
  | [.type a, .type b, .type c, .type d], e => by
    unfold jcZ at e;simp only[xaM,beq_iff_eq] at e;obtain⟨⟨⟨rfl,rfl⟩,rfl⟩,rfl⟩:=e
    kernel_rfl
  | .ref c::r,e=>by rw[PySem.refuseLoop_ref];exact jet self (by first | exact e | (rcases r with _ | ⟨a,r⟩<;>first | exact e | cases e))
theorem jdT:∀{l:List Value},jcZ l=true->l.contains (.type "object")=true
  | [.type a, .type b, .type c, .type d], e => by
    unfold jcZ at e;simp only[xaM,beq_iff_eq] at e;obtain⟨⟨⟨rfl,rfl⟩,rfl⟩,rfl⟩:=e;decide +kernel
  | .ref c::r,e=>by rw[List.contains_cons,jdT (l:=r) (by first | exact e | (rcases r with _ | ⟨a,r⟩<;>first | exact e | cases e)),Bool.or_true]
structure XAttr (K:PySem.W.Frag) (C:Addr) (f:Str):Prop where
 sa:PySem.W.findIn K (.ref C) "__setattr__"=some (some (.builtin "object.__setattr__"))
 po:((PySem.W.clsIn K C).any fun cd=>jcZ cd.mro)=true
 hd:PySem.W.hasDictIn K C=true
 no:PySem.W.findIn K (.ref C) f=some none
section
open PySem.W PySem.Calls PySem.Builtin PySem.Builtin.ObjectAttr
variable {prog:Program} {w:World} {A:Around} {K:PySem.W.Frag} {x C:Addr} {ox:Obj} {od:Option Obj} {s:Shared} {name:Str} {tk:Tok} {v:Value} {R:Result->Shared->Prop}
theorem jle (X:K.In s.heap) (I:PySem.W.InstAt s.heap x ox C od) (Z:XAttr K C name)
  (h:∀b,wpAny (model prog w) A.in1 (storeInOwnDict (.ref x) (.ref C) (.str name tk) name v b)
   (fun fin s'=>match fin with | .done f=>R (.ok f) s' | .again c'=>c'.quiet=true/\codeAny (model prog w) A c' R s') (fun e s'=>R (.error e) s') s) :
  codeAny (model prog w) A (.call (.builtin "object.__setattr__") ⟨[.ref x,.str name tk,v],[]⟩) R s:=by
 have SF:=PySem.F.store_object;obtain⟨cd,hc,ho⟩:=any_some Z.po;have ne:cd.mro.isEmpty=false:=by cases q:cd.mro with | nil=>rw[q] at ho;cases ho | cons _ _=>rfl
 have sub:Looks (model prog w) s.heap (isInstance (.ref x) (.type "object")) true:=I.type.andThen (looks_mroIn X (by unfold mroIn;rw[hc,Option.bind_some,if_neg (by rw[ne];decide),jdT ho]));refine codeAny_call_builtin SF.slot.plain SF.entry (@check_slot (model prog w) _ _ s "object.__setattr__" "object" "__setattr__" (.ref x) [.str name tk,v] [] _ SF.kind SF.split sub (SF.args (.ref x) (.str name tk) v) ?_);have hm:Looks (model prog w) s.heap (mroOf (.ref C)) cd.mro:=(looks_clsIn X hc).andThen .now;have L3:Looks (model prog w) s.heap (storeTaker? none) none:=.now;rw[osa_eq,refuse_eq];refine wpAny_bind (wpAny_bind (I.type.here (wpAny_bind (hm.here ?_))));rw[jet _ ho];refine wpAny_pure (wpAny_bind (I.type.here (wpAny_bind ((looks_findIn X Z.no).here (wpAny_bind (L3.here ?_))))));exact h _
end
section
variable {X:Cx} {pins:List (Addr × Obj)} {σ:St} {H:Hp} {s:Shared} {a C dx:Addr} {f:Str} {A:Around} {E:Value->Shared->Prop}
theorem jfT {y:V} {u:Value} {Q:Unit->Shared->Prop} (I:Inv X pins σ H s) (e:H a=some (ji4 a C)) (Z:XAttr X.K C f) (ry:RelV y u)
  (h:∀dx s',H dx=none->Inv X pins σ (upd (upd H dx (.xd [(f,y)])) a (jhm a C dx)) s'->Q () s'):wpAny (model X.prog X.w) A (setAttr (.ref a) f u) Q E s:=by
 obtain⟨⟨o,hx,t,rfl⟩,_⟩:=(show ObjOk X.prog X.w H s.heap a (ji4 a C) from I.hok a _ e);have J:PySem.W.InstAt s.heap a (jcb C t none) C none:=⟨hx,rfl,rfl,trivial⟩;have XK:=I.kIn;refine PySem.W.set_plain XK J Z.sa (jle (s:={ s with toks:=s.toks+1 }) XK J Z fun b=>?_);obtain⟨cd,hc,hd'⟩:=PySem.W.any_some Z.hd;refine wpAny_bind (wpAny_pure (wpAny_bind (wpAny_bind (wpAny_loadPart hx (wpAny_bind (PySem.W.Looks.here (s:={ s with toks:=s.toks+1 }) (PySem.W.looks_clsIn XK hc) ?_))))));rw[hd'];have hx1:(s.heap.push { cls:=.type "dict",data:=.dict #[] }).get? a=some (jcb C t none):=Heap.get?_push_of_some _ hx;have ne:a≠s.heap.objs.size:=xam (Heap.lt_size hx);show wpAny _ _ (alloc { cls:=.type "dict",data:=.dict #[] } >>= fun d=>update a (fun o=>{ cls:=o.cls,dict:=some d,data:=o.data,slots:=o.slots }) >>= fun _=>dictMade (.ref C) a d) _ _ _;refine wpAny_bind (wpAny_alloc (wpAny_bind (wpAny_update (o:=jcb C t none) hx1 ?_)));refine wpAny_pure (a:=some s.heap.objs.size) (wpAny_bind (wpAny_pure (wpAny_bind ?_)));have hn0:((s.heap.push { cls:=.type "dict",data:=.dict #[] }).update a (fun o=>{ cls:=o.cls,dict:=some s.heap.objs.size,data:=o.data,slots:=o.slots })).Ns1 s.heap.objs.size (fun _=>none):=by
  refine Heap.Ns1.of_empty ⟨{ cls:=.type "dict",data:=.dict #[] },#[],_,?_,rfl,fun e he=>absurd he (by simp),fun _=>rfl⟩;rw[Heap.get?_update_other _ _ ne];exact Heap.get?_push_at rfl rfl
 refine wpAny_nsSet1 (s:={ s with heap:=(s.heap.push { cls:=.type "dict",data:=.dict #[] }).update a (fun o=>{ cls:=o.cls,dict:=some s.heap.objs.size,data:=o.data,slots:=o.slots }),toks:=s.toks+1 }) hn0 fun h' hn2 hs2=>?_;obtain⟨oD,esD,epD,hoD,hdD,hcD⟩:=hn2.count (PySem.Within.cons f u PySem.Within.nil);refine wpAny_bind (wpAny_lookBehind hoD (by rw[hdD];exact pastItsLine_dict (xav hcD (by rw[xao,sizeLine_eq];decide))) ?_);refine wpAny_pure ?_;have hnd:H s.heap.objs.size=none:=I.hok.fresh (xad _);refine h s.heap.objs.size _ hnd ?_;have ha':h'.get? a=some (jcb C t (some s.heap.objs.size)):=by
  rw[hs2.2 a ne];exact Heap.get?_update_self _ hx1 rfl
 have k:∀b v,b≠a->s.heap.get? b=some v->h'.get? b=some v:=fun b v hb q=>by
  rw[hs2.2 b (xam (Heap.lt_size q)),Heap.get?_update_other _ _ (Ne.symm hb)];exact Heap.get?_push_of_some _ q
 have nd:∀b v,H b=some v->b≠s.heap.objs.size:=fun b v q=>jaz q hnd;have na:∀b v,H b=some v->v≠ji4 a C->b≠a:=fun b v q z=>ne_of q e z;have up:∀b v,H b=some v->v≠ji4 a C->upd (upd H s.heap.objs.size (.xd [(f,y)])) a (jhm a C s.heap.objs.size) b=some v:=fun b v q z=>by
  rw[jaA (na b v q z),jaA (nd b v q)];exact q
 refine I.un (t':=s.toks+2) ⟨fun b v q n _ _=>k b v (fun z=>by rw[z,e] at n;cases n) q,fun b v q n _ _=>⟨v.slots,k b v (fun z=>by rw[z,e] at n;cases n) q⟩,fun b v q n _=>?_,fun b v q _=>?_,
  fun b xs q=>up b _ q (fun z=>nomatch z),fun b u xs q=>up b _ q (fun z=>nomatch z),fun b ps q=>⟨#[],by rw[up b _ q (fun z=>nomatch z)];simp⟩⟩ fun b v q=>?_
 ·rw[jaA (fun z=>by rw[z,e] at n;cases n),jaA (xam (Heap.lt_size q))];exact n
 ·by_cases hb:b=a
  ·rw[hb];exact⟨_,ha'⟩
  ·exact⟨v,k b v hb q⟩
 ·by_cases hb:b=a
  ·subst hb;rw[jaf] at q;cases q;exact jh9 (φ:=fun o=>∃t,o=jcb C t (some s.heap.objs.size)) ha' ⟨t,rfl⟩
  ·rw[jaA hb] at q;by_cases hb2:b=s.heap.objs.size
   ·subst hb2;rw[jaf] at q;cases q;refine⟨_,hn2,fun g=>?_⟩;by_cases hg:g=f
    ·subst hg;simp [List.lookup];exact ry
    ·rw[if_neg hg,xax,show (g==f)=false from beq_false_of_ne hg];exact trivial
   ·rw[jaA hb2] at q;refine (I.hok b v q).stay (fun c w hcc r=>k c w ?_ r) (fun c r=>up c _ r (fun z=>nomatch z)) fun c xs r=>up c _ r (fun z=>nomatch z);rcases hcc with z | z
    ·rw[z];exact hb
    ·exact na c _ z (fun z=>nomatch z)
end
section
variable {X:Cx} {o e value:Expr} {f:Str} {pos pos':Pos} {ta tv:TE}
def sFldX (K:PySem.W.Frag) (ta tv:TE) (f:Str):TS:=fun D σ H=>tv σ H fun y H1=>ta σ H1 fun x H2=>∃a C,x=.ref a/\H2 a=some (ji4 a C)/\XAttr K C f/\∀dx,H2 dx=none->D.nx σ (upd (upd H2 dx (.xd [(f,y)])) a (jhm a C dx))
theorem jlf (ha:PE X o ta) (hv:PE X value tv) (hs:swapsWith value (some (.Attribute o f pos')) pos.line X.env=pure false:=by rfl):PS X (.Assign [.Attribute o f pos'] value pos) (sFldX X.K ta tv f):=by
 intro pins s σ H D I h;refine plainObj_wpAny_Assign_Attribute (thn (hv pins s σ H _ I h) fun u s1 ⟨y,H1,I1,ry,q⟩=>thn (ha pins s1 σ H1 _ I1 q) fun ov s2 ⟨x,H2,I2,rx,a,C,ex,ea,n,q2⟩=>?_) hs;subst ex;obtain rfl:ov=Value.ref a:=rx;exact jfT I2 ea n ry fun dx s3 hd I3=>⟨σ,_,I3,q2 dx hd⟩
end
def jgl (K:PySem.W.Frag) (C:Addr) (bmB:List Value) (newId:String) (f:Addr):Bool:=match K.lookup C with
  | some ⟨.type "type", _, .cls cd, sl⟩ => (match cd.mro, sl.toList with
    | .ref C'::bm,[_,_,_,_,some (.builtin n),_]=>C'==C&&n==newId&&!cd.hasDel&&PySem.W.tailIn K bmB bm&&PySem.W.nsOkIn K cd.ns&&PySem.W.nsIn K cd.ns "__init__"==some (some (.ref f))
    | _,_=>false)
  | _=>false
structure ExcI (K:PySem.W.Frag) (C f:Addr) (B newId initId:String) (bmB:List Value):Prop where
 at_:jgl K C bmB newId f=true
 base:ExcBaseFacts B newId initId bmB
 fn:PySem.W.isFn K (.ref f)=true
 kp:PySem.W.keepIn K (.ref C)=true
section
variable {prog:Program} {w:World} {A:Around} {E:Value->Shared->Prop} {h:Heap} {g:Array GenState} {d:Drawn} {t:Nat} {os:OsState}
variable {nm q:Str} {C N:Addr} {bs bm bmB:List Value} {hdct:Bool} {sn:List Str} {sub:List Value} {ab:Bool} {col:Option Bool} {dd:Option Addr} {k0 k1 k2 k3 k5:Option Value} {B newId initId:String}
theorem jdU (F:ExcBaseFacts B newId initId bmB) (T:OwnTail h bmB bm) {mN:Str->Option Value} {rest:List Value} {fI:Addr} {oI:Obj} {Q:Fin->Shared->Prop}
  (hC:h.get? C=some (excClassObj nm q C N bs bm hdct sn sub ab col dd k0 k1 k2 k3 k5 newId)) (hn:h.Ns N mN) (hi:mN "__init__"=some (.ref fI))
  (hfI:h.get? fI=some oI) (hfc:oI.cls=.type "function")
  (hq:∀h' e,Heap.MadeExcOf h h' e (.ref C) rest ->
   wpAny (model prog w) A (call (.ref fI) (.ref e::rest)) (fun r s'=>r=.none/\Q (.done (.ret (.ref e))) s') E ⟨h',g,d,t,os⟩) (hrest:rest.length<=sizeLine) :
  wpAny (model prog w) A (Builtin.«type.__call__» ⟨.ref C::rest,[]⟩) Q E ⟨h,g,d,t,os⟩:=by
 repeat (first | with_reducible refine wpAny_loadPart_at hC ?_ | with_reducible refine wpAny_madeBy_exc hC ?_ | wp_step)
 refine codeAny_call_builtin_code (Code.quiet_builtin _ F.quiet) (wpAny_check_new_subT F T hC ?_);refine codeAny_exc_new_subT F T hC ?_ hrest;show wpAny _ _ _ _ _ _;have hC₁:=Heap.get?_push_of_some { cls:=.ref C,data:=.fields #[.ref h.objs.size,.none,.none,.none,.bool false,.none] }
  (Heap.get?_push_of_some { cls:=.type "tuple",data:=.seq rest.toArray } hC)
 have hfI₁:=Heap.get?_push_of_some { cls:=.ref C,data:=.fields #[.ref h.objs.size,.none,.none,.none,.bool false,.none] }
  (Heap.get?_push_of_some { cls:=.type "tuple",data:=.seq rest.toArray } hfI)
 have hn₁:((h.push { cls:=.type "tuple",data:=.seq rest.toArray }).push { cls:=.ref C,data:=.fields #[.ref h.objs.size,.none,.none,.none,.bool false,.none] }).Ns N mN :=
  let ⟨o,es,ep,e,r⟩:=hn;⟨o,es,ep,Heap.get?_push_of_some _ (Heap.get?_push_of_some _ e),r⟩
 have hget:((h.push { cls:=.type "tuple",data:=.seq rest.toArray }).push
   { cls:=.ref C,data:=.fields #[.ref h.objs.size,.none,.none,.none,.bool false,.none] }).get? (h.objs.size+1)=some
   { cls:=.ref C,data:=.fields #[.ref h.objs.size,.none,.none,.none,.bool false,.none] }:=by heap_get
 have hcC:(Value.ref C::bm).contains (.ref C)=true:=by simp
 have T₁:=T.keeps (h':=(h.push { cls:=.type "tuple",data:=.seq rest.toArray }).push { cls:=.ref C,data:=.fields #[.ref h.objs.size,.none,.none,.none,.bool false,.none] })
  fun b o e=>Heap.get?_push_of_some _ (Heap.get?_push_of_some _ e)
 unfold isInstance
 repeat (first | with_reducible refine wpAny_loadPart_at hget ?_ | (with_reducible refine wpAny_isSubtype_exc hC₁ ?_;rw[hcC]) | wp_step)
 show wpAny _ _ (typeLookup (.ref C) _) _ _ _;refine wpAny_typeLookup_tail hC₁ hn₁ T₁ F.mroIs F.init.lookup ?_;rw[hi];refine wpAny_holding (wpAny_bind ?_);unfold bindSpecial;refine wpAny_bind (wpAny_typeOf (T:="function") ⟨_,hfI₁,hfc⟩ ?_);rw[if_pos (by decide)];refine wpAny_pure (wpAny_bind (wpAny_mono (hq _ (h.objs.size+1) ⟨fun b o hb=>Heap.get?_push_of_some _ (Heap.get?_push_of_some _ hb),Heap.get?_none_of_le (xbV _),h.objs.size,hget,Heap.get?_none_of_le (xad _),?_⟩) (fun r s' hr=>?_) fun _ _ x=>x))
 ·exact Heap.get?_push_of_some _ (Heap.get?_push_at rfl rfl)
 ·obtain⟨rfl,hQ⟩:=hr
  wp_walk
  exact hQ
theorem jg4 (F:ExcBaseFacts B newId initId bmB) (T:OwnTail h bmB bm) {mN:Str->Option Value} {rest:List Value} {fI:Addr} {oI:Obj} {Q:Value->Shared->Prop}
  (hC:h.get? C=some (excClassObj nm q C N bs bm hdct sn sub ab col dd k0 k1 k2 k3 k5 newId)) (hn:h.Ns N mN) (hi:mN "__init__"=some (.ref fI))
  (hfI:h.get? fI=some oI) (hfc:oI.cls=.type "function")
  (hq:∀h' e,Heap.MadeExcOf h h' e (.ref C) rest ->
   wpAny (model prog w) (A.under (.builtin "type.__call__" ⟨.ref C::rest,[]⟩)) (call (.ref fI) (.ref e::rest)) (fun r s'=>r=.none/\Q (.ref e) s') E ⟨h',g,d,t,os⟩) (hrest:rest.length<=sizeLine) :
  wpAny (model prog w) A (call (.ref C) rest) Q E ⟨h,g,d,t,os⟩:=by
 have f1:=tc_lookup;have f2:=tc_bind (.ref C);have hT:(⟨h,g,d,t,os⟩:Shared).TypeIs (.ref C) "type":=⟨_,hC,rfl⟩;refine wpAny_call (codeAny_of_tree ?_);show wpAny _ _ (callAny (.ref C) _) _ _ _
 repeat (any_goals (first | assumption | with_reducible refine wpAny_loadPart_at hC ?_ | wp_step))
 refine⟨rfl,?_⟩;refine codeAny_call_builtin_at (Code.quiet_builtin _ (by decide +kernel)) entry_typeCall (wpAny_check_type_call_sub hC (jdU (hrest:=hrest) F T hC hn hi hfI hfc fun h' e hm=>?_));exact hq h' e hm
end
theorem jlg {K:PySem.W.Frag} {h:Heap} {N:Addr} {mg:Str->Option Value} {n:Str} {v:Value} (X:K.In h) (G:h.Ns N mg) (e:PySem.W.nsIn K N n=some (some v)):mg n=some v:=by
 obtain⟨o,es,ep,ho,hd,_,hf⟩:=G;unfold PySem.W.nsIn at e;split at e
 ·rename_i c d es' n' sl q
  have:=X _ _ q;rw[ho] at this;cases this;cases hd;split at e
  ·rename_i en he
   cases e;rw[<- hf];unfold nsFind findBy;rw[<- Array.find?_toList,he];rfl
  ·split at e<;>cases e
 ·cases e
theorem jgm {K:PySem.W.Frag} {h:Heap} {C f:Addr} {bmB:List Value} {newId:String} (X:K.In h) (q:jgl K C bmB newId f=true) :
  ∃bm N nm q bs hdct sn sub ab col dd k0 k1 k2 k3 k5 mN,h.get? C=some (excClassObj nm q C N bs bm hdct sn sub ab col dd k0 k1 k2 k3 k5 newId)/\h.Ns N mN/\mN "__init__"=some (.ref f)/\OwnTail h bmB bm:=by
 unfold jgl at q;split at q
 ·rename_i dd cd sl ho
  split at q
  ·rename_i C' bm k0 k1 k2 k3 n k5 hm hs
   simp only[xaM,beq_iff_eq,Bool.not_eq_true'] at q;obtain⟨⟨⟨⟨⟨rfl,rfl⟩,hdel⟩,ht⟩,hok⟩,hni⟩:=q;obtain⟨nm,bs,mro,ns,qn,hd,sn,sub,ab,col,del⟩:=cd;dsimp only at hm hdel hok hni;subst hm hdel;have hsl:sl=#[k0,k1,k2,k3,some (.builtin n),k5]:=by
    obtain⟨l⟩:=sl;simp only at hs;rw[hs]
   subst hsl;exact⟨bm,ns,nm,qn,bs,hd,sn,sub,ab,col,dd,k0,k1,k2,k3,k5,_,X _ _ ho,.of_isNs (PySem.W.isNs_of_in X hok),jlg X (.of_isNs (PySem.W.isNs_of_in X hok)) hni,PySem.W.tail_of_in X ht⟩
  ·cases q
 ·cases q
section
variable {X:Cx} {CX:CXT} {k:Nat} {f C:Addr} {fd:FuncData} {ps:List Str} {sp:Sp} {E:XK} {x:Str} {p pos:Pos} {e:Expr} {es:List Expr} {t:TA} {B newId initId:String} {bmB:List Value}
def jmD (C:Addr) (sp:Sp) (E:XK) (t:TA):TE:=fun σ H Q=>t σ H fun vs H1=>vs.length<=sizeLine/\∀q,H1 q=none->sp (.ref q::vs) (upd H1 q (ji4 q C)) (fun v H2=>v=.non/\Q (.ref q) H2) E
theorem jlh (O:ExcI X.K C f B newId initId bmB) (F:FnOk X.prog X.w X.K X.mg X.base CX k f fd ps sp) (hr:Room (k+1) X.A) (hg:Gl X x) (hm:X.mg x=some (.ref C)) (hb:Binds X.K fd ps []) (hx:jfe CX X E)
    (ha:PA X (e::es) t) (hdb:(x==("__debug__":Str))=false:=by decide) (he:starEach (e::es) X.env=(false,eval e X.env)::starEach es X.env:=by rfl) (hpl:(backTo pos (starEach es X.env)).any (·.1)=false:=by rfl) :
    PE X (.Call (.Name x p) (e::es) [] pos) (jmD C sp E t):=by
  intro pins s σ H Q I h;refine wpAny_Call_Name_kw (jdK I hg hm ?_ hdb);refine PySem.W.callWith_K (h₀:=X.base) I.ok.mod.kin O.kp (thn (ha pos pins s σ H _ I h) fun us s1 ⟨vs,H1,I1,r,hz,q⟩=>⟨I1.kIn,?_⟩) he hpl;obtain⟨bm,N,nm,qn,bs,hdct,sn,sub,ab,col,dd,k0,k1,k2,k3,k5,mN,hC,hN,hni,TL⟩:=jgm I1.kIn O.at_;obtain⟨oI,hoI,hcI⟩:=xaH.mp (show PySem.W.typeIn X.K (.ref f)=some (.type "function") from beq_iff_eq.mp O.fn);have hfI:=I1.kIn _ _ hoI;have hl:us.length<=sizeLine:=by rw[<- r.length];exact hz
  obtain⟨hh,g,d,tt,os⟩:=s1;refine jg4 (hrest:=hl) O.base TL hC hN hni hfI hcI fun h' ea m=>?_;have I2:=I1.madeX (t':=tt) m;have hq:=q ea (I1.hok.freshN m.new);have r2:Vals (V.ref ea::vs) (Value.ref ea::us):=.cons rfl r;have hl2:(Value.ref ea::us++[]).length=ps.length:=by
    rw[xbB,<- r2.length];exact F.len _ _ _ _ hq
  have hbb:=hb _ (Value.ref ea::us) I2.kIn hl2;rw[xbB] at hbb;refine wpAny_call (codeAny_mono (F.run _ X.stack _ _ ⟨Value.ref ea::us,[]⟩ (Value.ref ea::us) _ _ E (hr.make C us []) (I2.env0.make C us []) hbb r2 hq) fun r s' hq'=>?_);cases r with
  | error e=>exact hx pins σ _ _ e s' I2 hq'
  | ok fl =>
    cases fl with
    | ret u =>
      obtain⟨v,H',I3,rv,ev,q3⟩:=I2.after hq';subst ev;exact⟨rv,⟨V.ref ea,H',I3,rfl,q3⟩⟩
    | next=>exact False.elim hq'
    | brk=>exact False.elim hq'
    | cont=>exact False.elim hq'
end
theorem jmE {a:Expr} {f:Str} {rest:List Expr} {pos:Pos} {env:Env}:starEach (.Attribute a f pos::rest) env=(false,eval (.Attribute a f pos) env)::starEach rest env:=by rfl
theorem jdV:bootBuiltins "ValueError"=some (.type "ValueError"):=by decide +kernel
def TyAt (h:Heap) (x C:Addr):Prop:=∃ox,h.get? x=some ox/\ox.cls=.ref C
theorem TyAt.type {M:Model} {h:Heap} {x C:Addr} (I:TyAt h x C):PySem.W.Looks M h (typeOf (.ref x)) (.ref C):=by
 obtain⟨ox,e,c⟩:=I;exact c▸(PySem.W.Looks.ld e).andThen .now
section
open PySem.W PySem.Calls PySem.Builtin PySem.Builtin.ObjectAttr PySem.Builtin.Getset_descriptor
variable {prog:Program} {w:World} {A:Around} {E:Value->Shared->Prop} {K:PySem.W.Frag} {x C:Addr} {s:Shared} {name:Str} {tk:Tok} {v:Value}
theorem jg5 {R:Result->Shared->Prop} {tp:Value} (X:K.In s.heap) (I:TyAt s.heap x C) (hm:mroIn K C (.type "object")=some true)
  (h:R (.ok (.ret (.ref C))) s):codeAny (model prog w) A (.call (.builtin "getset_descriptor.__get__") ⟨[.builtin "object.__class__",.ref x,tp],[]⟩) R s:=by
 obtain⟨hh,g,dr,t,os⟩:=s;have L0:=I.type (M:=model prog w);have L1:=looks_mroIn (M:=model prog w) X hm;refine codeAny_call_builtin KF.slot_gs.plain KF.entry_gs (KF.slot_gs.check _ _ _ _ _ _ _ _ KF.type_class (KF.args_gs _ _ _) ?_);unfold Builtin.«getset_descriptor.__get__» descrGet;rw[dga_obj];refine wpAny_bind (wpAny_pure ?_);unfold descrGetter descrCheckInstance descrNameAndClass isInstance;simp only[KF.owner_class]
 repeat lk
 refine⟨Code.quiet_builtin _ (by decide +kernel),codeAny_builtin KF.entry_class ?_⟩;unfold Builtin.«object.__class__» shownTypeOf
 repeat lk
 exact h
theorem jg6 {M:Model} {h:Heap} (X:K.In h) (Z:XCls K C):Looks M h (find (.ref x) (.ref C) "__class__") (.bind (.builtin "getset_descriptor.__get__") (.builtin "object.__class__")):=by
 have L1:=looks_findIn (M:=M) X Z.ca;have L2:Looks M h (getOf (some (.builtin "object.__class__"))) (some (.builtin "getset_descriptor.__get__")):=looks_specialIn X Z.cg;have L3:=looks_takesIn (M:=M) X Z.ct;refine L1.andThen (L2.andThen ?_);exact (show Looks M h (dataDescriptor? (some (.builtin "object.__class__")) (some (.builtin "getset_descriptor.__get__"))) (some (.builtin "getset_descriptor.__get__",.builtin "object.__class__")) from L3.andThen .now).andThen (Looks.tag .now)
theorem jg7 {M:Model} {nameV:Value} {Q:Unit->Shared->Prop} (X:K.In s.heap) (Z:XCls K C) (I:TyAt s.heap x C) (hq:Q () s) :
  wpAny M A (checkBuiltinCall "BaseException.__getattribute__" ⟨[.ref x,nameV],[]⟩) Q E s:=by
 have hk:builtinKind "BaseException.__getattribute__"=some .slot:=by decide +kernel
 have hsplit:splitId "BaseException.__getattribute__"=some ("BaseException","__getattribute__"):=by decide +kernel
 have ha:=PySem.F.args_bexc_ga (.ref x) nameV;have L0:=I.type (M:=M);have L1:=PySem.W.looks_subIn (M:=M) X Z.be;obtain⟨h,g,d,t,os⟩:=s;simp only[checkBuiltinCall,hk,hsplit];refine wpAny_bind ?_;unfold isInstance;refine wpAny_bind (L0.at (L1.at ?_))
 repeat (first | exact hq | wp_step)
theorem jg8 {Q:Option Value->Shared->Prop} (X:K.In s.heap) (Z:XCls K C) (I:TyAt s.heap x C) (h:Q (some (.ref C)) { s with toks:=s.toks+1 }):wpAny (model prog w) A (getAttr? (.ref x) "__class__") Q E s:=by
 have FB:=PySem.F.excAttr_ValueError;have f3:=FB.ga.bind (.ref x);have hx2:(Value.builtin "BaseException.__getattribute__"==Value.builtin "object.__getattribute__")=false:=by decide +kernel
 have hx1:(onTheHeap (Value.ref C)&&Value.builtin "BaseException.__getattribute__"==Value.builtin "object.__getattribute__")=false:=by rw[hx2];rfl
 have L0:=I.type (M:=model prog w);have L1:=PySem.W.looks_findIn (M:=model prog w) X Z.ga;have L2:=PySem.W.looks_findIn (M:=model prog w) X Z.gh;have L3:=jg6 (M:=model prog w) (x:=x) X Z;obtain⟨hh,g,d,t,os⟩:=s;unfold getAttr? getAttrBy? getAttrBy;refine wpAny_bind (wpAny_mkText (wpAny_bind (wpAny_attempt (wpAny_holding (wpAny_bind (L0.at (wpAny_bind (L1.at ?_))))))));show wpAny _ _ (if (onTheHeap (Value.ref C)&&Value.builtin "BaseException.__getattribute__"==Value.builtin "object.__getattribute__")=true then _ else _) _ _ _;rw[if_neg (by rw[hx1];exact xai)];unfold getAttrByItsOwn hookBefore;refine wpAny_bind ?_;show wpAny _ _ (typeLookup (.ref C) "__getattr__") _ _ _;refine L2.at ?_;refine wpAny_bind (wpAny_attempt (wpAny_holding ?_));unfold callGetattribute;rw[if_neg (by exact xai)];unfold boundAndCalled;refine wpAny_bind (wpAny_of_eq f3 ?_);refine wpAny_call (codeAny_call_builtin FB.ga.plain PySem.F.entry_bexc_ga (jg7 (s:=⟨hh,g,d,t+1,os⟩) X Z I ?_));unfold Builtin.«object.__getattribute__»;refine wpAny_bind (wpAny_pure (wpAny_bind (wpAny_pure (wpAny_bind (L0.at (wpAny_bind (L3.at ?_)))))));show wpAny _ _ (holding [Value.builtin "object.__class__"] (call (.builtin "getset_descriptor.__get__") [.builtin "object.__class__",.ref x,.ref C]) >>= ret) _ _ _;exact wpAny_bind (wpAny_holding (wpAny_call (jg5 (s:=⟨hh,g,d,t+1,os⟩) X I Z.ob (wpAny_pure (wpAny_pure (wpAny_pure h))))))
theorem jli (Z:XCls K C):PySem.W.KitX K (.ref x) (.ref C) (fun h=>TyAt h x C) where
 ty:=fun _ _ _ I=>I.type
 it:=fun _ _ X _=>by
  obtain⟨cdD,hcD⟩:=xbx.mp Z.cls;unfold PySem.W.clsIn at hcD;split at hcD
  ·rename_i c' d' cd' sl' ho
   intro A' Q' E' s' k q;unfold isType loadHead;exact wpAny_bind (wpAny_loadPart (k _ _ (X _ _ ho)) (wpAny_pure q))
  ·cases hcD
 ne:=fun h tp dd its n sl X htp=>by
  obtain⟨cdD,hcD⟩:=xbx.mp Z.cls;refine Bool.eq_false_iff.mpr fun q=>?_;have e:C=tp:=Value.ref.inj (beq_iff_eq.mp q);subst e;unfold PySem.W.clsIn at hcD;split at hcD
  ·rename_i c' d' cd' sl' ho
   have z:=(X _ _ ho).symm.trans htp;cases z
  ·cases hcD
 ca:=fun X I k=>jg8 X Z I k
end
section
variable {X:Cx} {pins:List (Addr × Obj)} {σ:St} {H:Hp} {s:Shared} {a C:Addr}
theorem jft:∀{cs:List Addr} {its:List Value},Vals (cs.map V.ref) its->its=cs.map Value.ref
  | [],_,.nil=>rfl
  | c :: cs, _, .cons r t => by
    cases r;rw[xaI,jft t]
theorem Inv.track {o:HO} (I:Inv X pins σ H s) (hn:H a=none) (new:X.s₀.heap.get? a=none) (hl:a≠X.env.locals) (hc:∀x c,X.env.cells.lookup x=some c->c≠a) (hp:∀p∈X.pn++pins,p.1≠a)
  (ok:ObjOk X.prog X.w (upd H a o) s.heap a o):Inv X pins σ (upd H a o) s:=by
 have up:∀b u,H b=some u->upd H a o b=some u:=fun b u q=>by rw[jaA (jaz q hn)];exact q
 refine⟨I.ok,I.os,I.bare,⟨I.base.keep,I.base.slot,fun b v q n hx=>?_,I.base.there,fun b xs q=>up _ _ (I.base.tups b xs q),fun b u xs q=>up _ _ (I.base.frzs b u xs q),fun b ps q=>?_⟩,I.loc,I.cell,by rw[jaA (Ne.symm hl)];exact I.free,
  fun x c q=>by rw[jaA (hc x c q)];exact I.freeC x c q,fun p q=>?_,fun b u q=>?_,I.len⟩
 ·rw[jaA (fun z=>by rw[z,new] at q;cases q)];exact I.base.free b v q n hx
 ·obtain⟨m,z⟩:=I.base.tbls b ps q;exact⟨m,up _ _ z⟩
 ·obtain⟨h1,h2,h3⟩:=I.pin p q;exact⟨h1,by rw[jaA (hp p q)];exact h2,h3⟩
 ·by_cases hb:b=a
  ·subst hb;rw[jaf] at q;cases q;exact ok
  ·rw[jaA hb] at q;exact (I.hok b u q).stay (fun c v _ r=>r) (fun c r=>up _ _ r) fun c xs r=>up _ _ r
end
section
variable {X:Cx} {pins:List (Addr × Obj)} {σ:St} {H:Hp} {s:Shared}
theorem jeR {M:Model} {A:Around} {E:Value->Shared->Prop} {i:Nat} {n:Str} {pos:Pos} {Q:Unit->Shared->Prop} (I:Inv X pins σ H s) (hN:X.N.Nodup) (hi:X.N[i]?=some n) (hk:X.env.kindOf n=some .local)
  (h:∀s',Inv X pins (σ.set i none) H s'->Q () s'):wpAny M A (do bindName X.env n .none;unbindBehindTheSuite X.env n pos) Q E s:=by
 obtain⟨m,hn,hl⟩:=id I.loc;have hcls:(X.env.scope.kind==.class||(X.env.scope.kind==.module&&X.env.locals != X.env.globals))=false:=by rw[I.ok.kind];rfl
 have hiσ:i<σ.length:=by rw[I.len];exact (xaj.mp hi).1
 have cne:=I.cne;refine wpAny_nameGoes_keeps hk hn hcls fun h' v hn' hs=>?_;refine h _ ⟨I.ok,I.os,I.bare,⟨fun b o e n hb hx=>?_,fun b o e n hb hx=>?_,I.base.free,fun b o e hx=>?_,I.base.tups,I.base.frzs,I.base.tbls⟩,⟨_,hn',fun j y v' e1 e2 e3=>?_⟩,fun y c e=>?_,I.free,I.freeC,fun p hp=>?_,fun b u e=>?_,by simpa using I.len⟩
 ·exact (hs.2 b (xam (xah (Heap.lt_size e) I.ok.above))).trans (I.base.keep b o e n hb hx)
 ·obtain⟨sl,e1⟩:=I.base.slot b o e n hb hx;exact⟨sl,(hs.2 b (xam (xah (Heap.lt_size e) I.ok.above))).trans e1⟩
 ·obtain⟨o',e1⟩:=I.base.there b o e hx;exact⟨o',(hs.2 b (xam (xah (Heap.lt_size e) I.ok.above))).trans e1⟩
 ·by_cases hj:j=i
  ·subst hj;rw[xbE hiσ] at e2;cases e2
  ·rw[xbR (Ne.symm hj)] at e2;obtain⟨u',r',q⟩:=hl j y v' e1 e2 e3;refine⟨u',r',?_⟩;rcases q with ⟨k,e⟩ | ⟨k,c,e,z⟩
   ·refine .inl ⟨k,?_⟩;have:y≠n:=fun e=>hj (jeF hN e1 (e▸hi));simp [this,e]
   ·exact .inr ⟨k,c,e,z.sameBut hs (cne y c e)⟩
 ·obtain⟨w',z⟩:=I.cell y c e;exact⟨w',z.sameBut hs (cne y c e)⟩
 ·obtain⟨e,n,ne,nf,d⟩:=I.pin p hp;exact⟨(hs.2 p.1 ne).trans e,n,ne,nf,d⟩
 ·have nl:∀c v,H c=some v->c≠X.env.locals:=fun c v q z=>by rw[z,I.free] at q;cases q
  refine (I.hok b u e).stay (fun c v hc r=>(hs.2 c ?_).trans r) (fun _ q=>q) fun _ _ q=>q;rcases hc with z | z
  ·rw[z];exact nl b u e
  ·exact nl c _ z
end
def Ends.gone (D:Ends) (i:Nat):Ends:={ nx:=fun σ H=>D.nx (σ.set i none) H,bk:=fun σ H=>D.bk (σ.set i none) H,ct:=fun σ H=>D.ct (σ.set i none) H,rt:=D.rt }
def del (H:Hp) (q:Addr):Hp:=fun b=>if b=q then none else H b
theorem jdW {H:Hp} {q b:Addr} (n:b≠q):del H q b=H b:=if_neg n
theorem jgn {H:Hp} {q:Addr}:del H q q=none:=if_pos rfl
section
variable {prog:Program} {w:World} {A:Around} {E:Value->Shared->Prop} {env:Env}
variable {nm q:Str} {C N:Addr} {bs bm:List Value} {hdct:Bool} {sn:List Str} {sub:List Value} {ab:Bool} {col:Option Bool} {dd:Option Addr} {k0 k1 k2 k3 k5:Option Value} {newId:String}
theorem jmF {M:Model} {s:Shared} {x:Sem Value} {Q:Flow->Shared->Prop} (hb:bm.contains (.type "BaseException")=true) (hh:A.handled=none)
  (h:wpAny M A x (fun v s1=>∃e t dx,v=.ref e/\s1.heap.get? e=some (jcb C t (some dx))/\s1.heap.get? C=some (excClassObj nm q C N bs bm hdct sn sub ab col dd k0 k1 k2 k3 k5 newId)/\E (.ref e) s1) E s) :
  wpAny M A (raiseStmt env (some x) none) Q E s:=by
 have hc:(Value.ref C::bm).contains (.type "BaseException")=true:=by
  rw[List.contains_cons,hb];exact Bool.or_true _
 unfold raiseStmt;refine wpAny_bind (wpAny_mono h (fun v s1 z=>?_) fun _ _ y=>y);obtain⟨e,t,dx,rfl,he,hC,hE⟩:=z;obtain⟨hp,g,dr,tk,os⟩:=s1;unfold jcb at he
 repeat (first
  | wp_step
  | with_reducible refine wpAny_loadPart_at hC ?_
  | with_reducible refine wpAny_loadPart_at he ?_
  | (with_reducible refine wpAny_isSubtype_exc hC ?_;rw[hc]))
 exact wpAny_raiseNew_none hh hE
end
section
variable {X:Cx} {pins:List (Addr × Obj)} {σ:St} {H:Hp} {s:Shared} {q C dx:Addr}
theorem jia (I:Inv X pins σ H s) (e:H q=some (jhm q C dx)):∃t,s.heap.get? q=some (jcb C t (some dx)):=by
 obtain⟨⟨o,hx,t,rfl⟩,_⟩:=(show ObjOk X.prog X.w H s.heap q (jhm q C dx) from I.hok q _ e);exact⟨t,hx⟩
theorem Inv.hokD (I:Inv X pins σ H s) (e:H q=some (jhm q C dx)):HOk X.prog X.w (del H q) (PySem.W.hideAll s.heap (q::frs X.stack)):=fun a o z=>by
 have na:a≠q:=fun c=>by rw[c,jgn] at z;cases z
 rw[jdW na] at z;have own:∀{b:Addr},H b=some (.own a)->b≠q:=fun {b} hb c=>by rw[c,e] at hb;cases hb
 refine (I.hok a o z).stay (fun b u hb k=>PySem.W.hideAll_get _ k fun hm=>?_) (fun b k=>by rw[jdW (own k)];exact k) fun b xs k=>by
  rw[jdW (fun c=>by rw[c,e] at k;cases k)];exact k
 rcases xaq.mp hm with c | hm
 ·rcases hb with c' | hb
  ·exact na (c'▸c)
  ·exact own hb c
 ·have f:=I.stkFree b hm;rcases hb with rfl | hb
  ·rw[f] at z;cases z
  ·rw[f] at hb;cases hb
theorem jg9 {E:XK} {E':Value->Shared->Prop} (T:Top1 X) (I:Inv X pins σ H s) (h0:X.H₀ q=none) (e:H q=some (jhm q C dx)) (k:E (.ref C) (some dx) (del H q)) :
    wpAny (model X.prog X.w) X.A (leaving X.env (.ref q)) (fun _ s''=>XOk X.prog X.w X.outer X.H₀ X.s₀ E (.ref q) s'') E' s:=by
  obtain⟨t,hq⟩:=jia I e;have hfr:X.A.frames=some (X.env::X.outer):=by rw[<- T.stk];exact I.ok.frames
  have hst:=I.stack;have nx:∀b:Addr,b∉X.ex:=fun b z=>by rw[T.ex] at z;cases z
  have s0q:X.s₀.heap.get? q=none:=by
    cases z:X.s₀.heap.get? q with
    | none=>rfl
    | some o =>
      have:=I.base.free q o z h0 (nx q);rw[e] at this;cases this
  have qn:q∉frs X.stack:=fun hm=>by
    have:=I.stkFree q hm;rw[e] at this;cases this
  have hB:=PySem.W.funFrames_hide (as:=q::frs X.stack) hst (fun env he b hb=>xan _ (xbZ.mpr ⟨env,he,hb⟩));rw[T.stk] at hB;have out:∀b o,X.s₀.heap.get? b=some o->b∉X.fs->b∉q::frs X.stack:=fun b o z hb hm=>by
    rcases xaq.mp hm with c | hm
    . rw[c,s0q] at z;cases z
    . rcases T.mem.mp hm with c | c
      . exact absurd (xah (Heap.lt_size z) I.ok.above) (by rw[c];exact xaW _)
      . exact hb c
  have toB:∀b o,s.heap.get? b=some o->b∉q::frs X.stack->(PySem.W.hideAll s.heap (q::frs X.stack)).get? b=some o:=fun b o z hb=>PySem.W.hideAll_get _ z hb;have gone:(PySem.W.hideAll s.heap (q::frs X.stack)).get? q=none:=PySem.W.hideAll_none _ (.head _);have Dk:DictAt q dx s.heap:=⟨_,hq,rfl⟩;refine wpAny_mono (Keep.any (jfp (e:=q) (dx:=dx) X.env (.ref q)) Dk (wpAny_leaving_firstW (a0:=.ref t) (base:=PySem.W.hideAll s.heap (q::frs X.stack)) (E:=E') (Q:=fun _ s''=>∃h',s''={ s with heap:=h' }/\Heap.LeftW (PySem.W.hideAll s.heap (q::frs X.stack)) (X.env::X.outer) q (.ref C) (.ref t) s.heap h')
    hfr (by rw[T.stk];exact hB) T.frm hq (fun b o z=>PySem.W.of_hideAll _ z) gone rfl rfl rfl fun h' x=>⟨h',rfl,x⟩)) (fun _ s'' z=>?_) fun _ _ z=>z.1
  obtain⟨⟨h',rfl,x1,⟨_,_,x2⟩,x3,x4⟩,z⟩:=z;have slot:∀b,b∈frs X.stack->∀o,s.heap.get? b=some o->∃sl,h'.get? b=some { o with slots:=sl }:=fun b hb o z=>by
    obtain⟨_,o2,e2,nf⟩:=hst.mem hb;rw[z] at e2;cases e2;exact x4 b o z nf
  have ndl:∀{b:Addr} {o:HO},H b=some o->(∀h,o≠.ext h)->del H q b=some o:=fun {b o} hb ne=>by
    rw[jdW (fun c=>by rw[c,e] at hb;cases hb;exact ne _ rfl)];exact hb
  refine⟨q,C,.ref t,del H q,PySem.W.hideAll s.heap (q::frs X.stack),some dx,rfl,⟨x1,gone,x2,x3⟩,I.os,I.bare,⟨fun b o z n hb _=>?_,fun b o z n hb _=>?_,fun b o z n _=>?_,fun b o z _=>?_,fun b xs z=>ndl (I.base.tups b xs z) (fun _ c=>nomatch c),fun b o u z=>ndl (I.base.frzs b o u z) (fun _ c=>nomatch c),fun b ps z=>?_⟩,I.hokD e,fun b o z n hb=>?_,fun b o z hb=>?_,(fun dx' c=>by cases c;exact z),k⟩
  . exact x1 b o (toB b o (I.base.keep b o z n hb (nx b)) (out b o z hb))
  . obtain⟨sl,e1⟩:=I.base.slot b o z n hb (nx b)
    exact (slot b (T.mem.mpr (.inr hb)) _ e1).imp fun _ y=>y
  . by_cases c:b=q
    . rw[c];exact jgn
    . rw[jdW c];exact I.base.free b o z n (nx b)
  . obtain⟨o',e1⟩:=I.base.there b o z (nx b)
    have bq:b≠q:=fun c=>by rw[c,s0q] at z;cases z
    by_cases hb:b∈frs X.stack
    . obtain⟨sl,e2⟩:=slot b hb o' e1
      exact⟨_,e2⟩
    . exact⟨o',x1 b o' (toB b o' e1 (fun hm=>(xaq.mp hm).elim bq hb))⟩
  . obtain⟨more,y⟩:=I.base.tbls b ps z
    exact⟨more,ndl y (fun _ c=>nomatch c)⟩
  . exact toB b o (I.base.keep b o z n hb (nx b)) (out b o z hb)
  . obtain⟨o',e1⟩:=I.base.there b o z (nx b)
    exact⟨o',toB b o' e1 (out b o z hb)⟩
end
section
variable {X:Cx} {C f:Addr} {B newId initId:String} {bmB:List Value} {e:Expr} {te:TE} {pos:Pos} {R:Addr->Hp->Prop}
theorem jib (hc:X.calm=true) (O:ExcI X.K C f B newId initId bmB) (he:PE X e te) (hR:∀pins σ H s q dx,Inv X pins σ H s->X.H₀ q=none->H q=some (jhm q C dx)->R dx (del H q)->X.xe (.ref q) s) :
  PS X (.Raise (some e) none pos) (fun _ σ H=>te σ H fun v H2=>∃q dx,v=.ref q/\X.H₀ q=none/\H2 q=some (jhm q C dx)/\R dx (del H2 q)):=by
 intro pins s σ H D I h;obtain⟨bm,N,nm,qn,bs,hdct,sn,sub,ab,col,dd,k0,k1,k2,k3,k5,mN,hC,hN,hni,TL⟩:=jgm (h:=X.base) I.ok.mod.kin O.at_;rw[arm_exec_Raise];have main:wpAny (model X.prog X.w) X.A (eval e X.env) (fun v s1=>∃e t dx,v=.ref e/\s1.heap.get? e=some (jcb C t (some dx))/\s1.heap.get? C=some (excClassObj nm qn C N bs bm hdct sn sub ab col dd k0 k1 k2 k3 k5 newId)/\X.xe (.ref e) s1) X.xe s:=by
  refine wpAny_mono (he pins s σ H _ I h) (fun u s1 z=>?_) fun _ _ y=>y;obtain⟨v,H2,I2,rv,q,dx,ev,h0,eq,r⟩:=z;subst ev;cases (show u=Value.ref q from rv);obtain⟨t,ht⟩:=jia I2 eq;exact⟨q,t,dx,rfl,ht,I2.bk _ _ hC,hR pins σ H2 s1 q dx I2 h0 eq r⟩
 refine wpAny_bind (wpAny_standAt (jmF (C:=C) (nm:=nm) (q:=qn) (N:=N) (bs:=bs) (bm:=bm) (hdct:=hdct) (sn:=sn) (sub:=sub) (ab:=ab) (col:=col) (dd:=dd) (k0:=k0) (k1:=k1) (k2:=k2) (k3:=k3) (k5:=k5) (newId:=newId) (TL.hasType O.base.hasBase) (I.ok.hd hc) ?_));exact wpAny_bind (wpAny_mono main (fun v s1 z=>wpAny_bind (wpAny_standAt (wpAny_pure z))) fun _ _ y=>y)
end
theorem jjs {P:Program} {w:World} {K:PySem.W.Frag} {mg:Str->Option Value} {base:Heap} {N:List Str} {qual:Str} {scope:Scope} {f C:Addr} {cd:Value} {A:Around} {outer:List Env} {s:Shared} {H:Hp} {E:XK} :
    ∀ (pins : List (Addr × Obj)) (σ : St) (H1 : Hp) (s1 : Shared) (q dx : Addr), Inv (cxX P w K mg base N qual scope f cd A outer s H E) pins σ H1 s1 -> (cxX P w K mg base N qual scope f cd A outer s H E).H₀ q = none -> H1 q = some (jhm q C dx) -> E (.ref C) (some dx) (del H1 q) ->
      (cxX P w K mg base N qual scope f cd A outer s H E).xe (.ref q) s1 :=
  fun pins σ H1 s1 q dx I h0 e k=>jg9 (E':=fun e' s''=>XOk P w outer H s E e' s'') jhY I h0 e k
def jbs (a C dx:Addr):HO:=.ext fun h=>∃o,h.get? a=some o/\(o.cls=.ref C/\o.dict=some dx/\∃vs,o.data=.fields vs)
section
variable {X:Cx} {pins:List (Addr × Obj)} {σ:St} {H:Hp} {s:Shared} {a C dx:Addr} {f:Str} {A:Around} {E:Value->Shared->Prop}
theorem jdo (I:Inv X pins σ H s) (e:H a=some (jbs a C dx)):TyAt s.heap a C:=by
 obtain⟨⟨o,h1,h2,_⟩,_⟩:=(show ObjOk X.prog X.w H s.heap a (jbs a C dx) from I.hok a _ e);exact⟨o,h1,h2⟩
theorem jha {v:V} {b:Bool} {fs:List (Str × V)} {Q:Value->Shared->Prop} (I:Inv X pins σ H s) (e:H a=some (jbs a C dx)) (e2:H dx=some (.xd fs)) (ZC:XCls X.K C) (Z:XAttr X.K C f) (l:fs.lookup f=some v)
  (h:∀u s',Inv X pins σ H s'->RelV v u->Q u s'):wpAny (model X.prog X.w) A (getAttr (.ref a) f b) Q E s:=by
 obtain⟨⟨ox,hx,hxc,hxd,vs,hxv⟩,_⟩:=(show ObjOk X.prog X.w H s.heap a (jbs a C dx) from I.hok a _ e);obtain⟨mA,ns,r⟩:=(show ObjOk X.prog X.w H s.heap dx (.xd fs) from I.hok dx _ e2);obtain⟨u,hu,ru⟩:=RelO.some_of (v:=v) (o:=mA f) (by rw[<- l];exact r f);obtain⟨od,ho,hl⟩:=jfd ns;obtain⟨c0,d0,dt,sl⟩:=ox;simp only at hxc hxd hxv;subst hxc hxd hxv;have J:PySem.W.InstAt s.heap a ⟨.ref C,some dx,.fields vs,sl⟩ C (some od):=⟨hx,rfl,rfl,ho⟩;have hf:=PySem.W.findObj_own (od:=od) (v:=u) Z.hd Z.no rfl (by rw[hl,hu]);have XK:=I.kIn;have I1:=I.tok (s.toks+1);unfold getAttr;refine wpAny_bind (wpAny_mkText ?_);refine jmC (s:={ s with toks:=s.toks+1 }) XK ZC J (jhE ru) (fun A Q E hq=>?_) (h u _ I1 ru);have L0:=J.type (M:=model X.prog X.w);have L1:=PySem.W.looks_find (M:=model X.prog X.w) XK J hf;unfold Builtin.«object.__getattribute__»;exact wpAny_bind (wpAny_pure (wpAny_bind (wpAny_pure (wpAny_bind (PySem.W.Looks.here (s:={ s with toks:=s.toks+1 }) L0 (wpAny_bind (PySem.W.Looks.here (s:={ s with toks:=s.toks+1 }) L1 (wpAny_pure hq))))))))
end
section
variable {X:Cx} {e:Expr} {f:Str} {pos:Pos} {ta:TE}
def jlj (K:PySem.W.Frag) (ta:TE) (f:Str):TE:=fun σ H Q=>ta σ H fun x H1=>∃a C dx fs v,x=.ref a/\H1 a=some (jbs a C dx)/\H1 dx=some (.xd fs)/\XCls K C/\XAttr K C f/\fs.lookup f=some v/\Q v H1
theorem jlk {K:PySem.W.Frag} (hK:X.K=K) (he:PE X e ta) (hb:attributeBase e f X.env (eval e X.env)=eval e X.env:=by rfl):PE X (.Attribute e f pos) (jlj K ta f):=by
 subst hK;intro pins s σ H Q I h;refine jkW hb (thn (he pins s σ H _ I h) fun u s1 ⟨x,H1,I1,rx,a,C,dx,fs,v,ex,ea,ed,c,n,l,q⟩=>?_);subst ex;obtain rfl:u=Value.ref a:=rx;exact jha I1 ea ed c n l fun u' s2 I2 ru=>⟨v,H1,I2,ru,q⟩
end
section
variable {X:Cx}
theorem jic {c n:Str} {D₀:Addr} {i:Nat} {body:List Stmt} {b₀:Stmt} {suite:List Stmt} {tb:TSX} {th:TS} {np hpos pos:Pos} (T:Top1 X) (hg:Gl X c) (hm:X.mg c=some (.ref D₀)) (hN:X.N.Nodup) (hi:X.N[i]?=some n)
  (hkd:X.env.kindOf n=some .local) (hx:Loc X.env.scope n) (hb:PSX X body tb) (hs:∀e,PSs (X.caught e) (b₀::suite) th) (hdb:(c==("__debug__":Str))=false:=by decide)
  (hf:X.fn n=true\/X.env.scope.names.lookup n=some .local:=by first | exact .inl rfl | exact .inr rfl | assumption) :
  PS X (.Try body [.ExceptHandler (some (.Name c np)) (some n) (b₀::suite) hpos] [] [] pos) (fun D σ H=>tb D (fun σ1 cls pd H1=>∃C dx,cls=.ref C/\pd=some dx/\PySem.W.exmOne X.K (.ref C) (.ref D₀)=some true /\
   ∀ea,H1 ea=none->th (D.gone i) (σ1.set i (some (.ref ea))) (upd H1 ea (jbs ea C dx))) σ H):=by
 intro pins s σ H D I h;refine wpAny_Try_except (wpAny_mono (hb pins s σ H D _ I h) (fun f s1 q=>?_) fun ex s' ⟨σ1,H1,s1,I1,hx'⟩=>?_)
 ·cases f with
  | next=>exact wpAny_execs_nil q
  | brk=>exact q
  | cont=>exact q
  | ret u=>exact q
 ·obtain⟨ea,C',a0,H',Bh,pd,rfl,fl,os,ba,un,hk,kb,tbb,dk,C,dx,ec,ep,em,q⟩:=hx';cases ec;subst ep;have D0:=dk dx rfl;have hfr:X.A.frames=some (X.env::X.outer):=by rw[<- T.stk];exact I1.ok.frames
  have ff:=fl.2.2.1;have hB:Bh.get? ea=none:=fl.2.1;have dat:∀h l,Heap.FlyingW Bh l ea (.ref C') a0 h->∃oe vs,h.get? ea=some oe/\oe.cls=.ref C'/\oe.data=.fields vs:=fun h l z=>by
   obtain⟨_,_,_,oe,vs,_,_,_,he,hc,hd,_⟩:=z;exact⟨oe,vs,he,hc.1,hd⟩
  have nofr:ea∉frs X.stack:=fun hb=>by
   obtain⟨_,o,e1,nf⟩:=ff.mem hb;obtain⟨oe,vs,e2,_,hd⟩:=dat _ _ fl;rw[e1] at e2;cases e2;exact nf vs hd
  have s1n:s1.heap.get? ea=none:=by
   cases z:s1.heap.get? ea with
   | none=>rfl
   | some o=>obtain⟨o',e⟩:=tbb ea o z nofr;rw[hB] at e;cases e
  have nx:∀b:Addr,b∉X.ex:=fun b z=>by rw[T.ex] at z;cases z
  have s0n:X.s₀.heap.get? ea=none:=by
   cases z:X.s₀.heap.get? ea with
   | none=>rfl
   | some o=>obtain⟨o',e⟩:=I1.base.there ea o z (nx ea);rw[s1n] at e;cases e
  have hn:H' ea=none:=hk.freshN hB;rw[T.stk] at fl;refine wpAny_mono (Keep.any (jfo (e:=ea) (dx:=dx) (.ref ea) X.env) D0 (wpAny_looks_onW hfr T.frm fl (E:=X.xe) (Q:=fun _ s2=>∃h4,s2={ s' with heap:=h4 }/\Heap.HeldW Bh (X.env::X.outer) ea (.ref C') a0 X.env.locals h4/\s'.heap.UpToSlots h4) fun h4 x y=>⟨h4,rfl,x,y⟩)) (fun _ s2 z=>?_) fun _ _ z=>z.1;obtain⟨⟨h₄,rfl,held₄,sm₄⟩,D4⟩:=z;refine wpAny_mono (Keep.any (jcW (e:=ea) (dx:=dx) (.ref ea) none) D4 (wpAny_landsW held₄ (E:=X.xe) (Q:=fun _ s3=>∃h5,s3={ s' with heap:=h5 }/\Heap.FlyingW Bh (X.env::X.outer) ea (.ref C') a0 h5/\h₄.UpToSlots h5) fun h5 x y=>⟨h5,rfl,x,y⟩)) (fun _ s3 z=>?_) fun _ _ z=>z.1;obtain⟨⟨h₅,rfl,fl₅,sm₅'⟩,D5⟩:=z;have sm₅:=sm₄.trans sm₅';have I5:Inv X pins σ1 H' { s' with heap:=h₅ }:=I1.landed T os ba un hk kb tbb fl₅.1 sm₅ ff;obtain⟨ob,hob,hobc⟩:=fl₅.there;refine wpAny_handleBy_cons (codeAny_handlers_test (jdK (X:=X.caught (.ref ea)) (I5.caught (.ref ea)) hg hm ?_ hdb)) (by intro q;cases q);have LT:PySem.W.Looks (model X.prog X.w) h₅ (typeOf (.ref ea)) (.ref C'):=TyAt.type ⟨ob,hob,hobc⟩;refine PySem.W.Looks.here (s:={ s' with heap:=h₅ }) (PySem.W.exm_one I5.kIn LT em) ?_;refine codeAny_handlers_suite_as ?_;refine wpAny_mono (Keep.any (jcW (e:=ea) (dx:=dx) (.ref ea) none) D5 (lands_againW fl₅ (Q:=fun _ s6=>∃h6,s6={ s' with heap:=h6 }/\Heap.FlyingW Bh (X.env::X.outer) ea (.ref C') a0 h6/\h₅.UpToSlots h6) fun h6 x y=>⟨h6,rfl,x,y⟩)) (fun _ s6 z=>?_) fun _ _ z=>z.1;obtain⟨⟨h₆,rfl,fl₆,sm₆⟩,D6⟩:=z;have I6:Inv X pins σ1 H' { s' with heap:=h₆ }:=I1.landed T os ba un hk kb tbb fl₆.1 (sm₅.trans sm₆) ff;obtain⟨oe,vs,he,hec,hed⟩:=dat _ _ fl₆;obtain⟨o6,h61,h62⟩:=D6;rw[he] at h61;cases h61;have I7:Inv X pins σ1 (upd H' ea (jbs ea C' dx)) { s' with heap:=h₆ }:=I6.track hn s0n (fun z=>nofr (T.mem.mpr (.inl z))) (fun y c e z=>by
    obtain⟨v,o,e1,e2⟩:=I6.cell y c e;rw[z] at e1;rw[he] at e1;cases e1;rw[hed] at e2;cases e2) (fun p hp z=>by
    obtain⟨e1,_⟩:=I1.pin p hp;rw[z,s1n] at e1;cases e1) (jh9 (φ:=fun o=>o.cls=.ref C'/\o.dict=some dx/\∃vs,o.data=.fields vs) he ⟨hec,h62,vs,hed⟩)
  refine jcG (X:=X.caught (.ref ea)) (I7.caught (.ref ea)) hN hi hx (v:=.ref ea) rfl (fun s8 I8=>?_) hf;refine wpAny_mono (hs (.ref ea) pins s8 _ _ (D.gone i) I8 (q ea hn)) (fun f s9 q9=>?_) fun _ _ z=>z.elim;have q9:=SP.uncaught I6.ok q9;cases f with
  | next=>obtain⟨a,b,J,z⟩:=q9;exact jeR J hN hi hkd fun s' J'=>⟨_,b,J',z⟩
  | brk=>obtain⟨a,b,J,z⟩:=q9;exact jeR J hN hi hkd fun s' J'=>⟨_,b,J',z⟩
  | cont=>obtain⟨a,b,J,z⟩:=q9;exact jeR J hN hi hkd fun s' J'=>⟨_,b,J',z⟩
  | ret u=>obtain⟨v,a,b,J,r,z⟩:=q9;exact jeR J hN hi hkd fun s' J'=>⟨v,_,b,J',r,z⟩
theorem jb1 {K:PySem.W.Frag} (hK:X.K=K):CallR X (.builtin "isinstance") (fun xs H Q=>∃a C dx c b,xs=[.ref a,c]/\H a=some (jbs a C dx)/\XCls K C /\
    ((∃ D, c = .ref D /\ PySem.W.kitOne K (.ref C) (.ref D) = some b) \/ (∃ T, c = .ty T /\ PySem.W.kitOne K (.ref C) (.type T) = some b) \/
      ∃(tp:Addr) (cs:List Addr),c=.ref tp/\H tp=some (.tup (cs.map V.ref))/\PySem.W.kitAny K (.ref C) (cs.map Value.ref)=some b)/\Q (.bl b) H):=by
  subst hK;intro pins s σ H xs us Q I r h;obtain⟨a,C,dx,c,b,rfl,ie,Z,e,q⟩:=h;obtain⟨u,w',rfl,r1,r2⟩:=jja r;cases (show u=Value.ref a from r1);rcases e with ⟨D,rfl,e⟩ | ⟨T,rfl,e⟩ | ⟨tp,cs,rfl,et,e⟩
  . cases r2
    exact PySem.W.kia_one (jli Z) I.kIn (jdo I ie) e (fun z=>nomatch z) fun tk=>⟨.bl b,H,I.tok tk,rfl,q⟩
  . cases r2
    exact PySem.W.kia_one (jli Z) I.kIn (jdo I ie) e (fun z=>nomatch z) fun tk=>⟨.bl b,H,I.tok tk,rfl,q⟩
  . cases (show w'=Value.ref tp from r2)
    obtain⟨_,its,rv,⟨cl,dd,da,sl⟩,ho,hc,n,hd⟩:=(show ObjOk X.prog X.w H s.heap tp (.tup (cs.map V.ref)) from I.hok tp _ et);simp only at hc hd;subst hc hd;have ei:=jft rv;subst ei;exact PySem.W.kia_tup (jli Z) I.kIn (jdo I ie) ho e (fun z=>nomatch z) fun tk=>⟨.bl b,H,I.tok tk,rfl,q⟩
end
@[elab_as_elim] theorem jel {C:Hp->Prop} {H:Hp} {p:Addr} {o:HO} (hp:H p=none) (k:∀J,Same H J->J p=some o->C J):C (upd H p o):=k _ (Same.new hp o) jaf
section
variable {prog:Program} {w:World} {A:Around} {E:Value->Shared->Prop} {it:Addr} {fp wr:List Addr} {n:Nat} {P:Nat->Value->Prop} {St:Nat->Heap->Prop}
theorem drawW (W:Walks prog w A it fp wr n P St) (k:Nat):∀(i:Nat) (s:Shared) (Q:List Value->Shared->Prop),i+k<=n->St i s.heap ->
    (∀vs h tk,vs.length=k->(∀j v,vs[j]?=some v->P (i+j) v)->St (i+k) h->(∀b o,b∉wr->s.heap.get? b=some o->h.get? b=some o)->Q vs { s with heap:=h,toks:=tk })->wpAny (model prog w) A (draw (.ref it) k) Q E s:=by
  induction k with
  | zero=>exact fun i s Q _ st q=>wpAny_pure (q [] s.heap s.toks rfl (fun j v h=>by simp at h) st fun _ _ _ e=>e)
  | succ k ih =>
    intro i s Q le st q;refine wpAny_bind (W.item i s _ _ (by omega) st fun v h1 t1 pv st1 k1=>?_);refine wpAny_bind (wpAny_holding (ih (i+1) _ _ (by omega) st1 fun vs h2 t2 l2 p2 st2 k2=>wpAny_pure ?_));refine q (v::vs) h2 t2 (by simp [l2]) (fun j u hj=>?_) (by rw[show i+(k+1)=i+1+k by omega];exact st2) fun b o bw e=>k2 b o bw (k1 b o bw e);cases j with
    | zero=>cases hj;exact pv
    | succ j=>rw[show i+(j+1)=i+1+j by omega];exact p2 j u hj
theorem jmG {s:Shared} {l:Addr} {xs:List Value} {Q:List Value->Shared->Prop} (hh:A.handled=none) (hl:s.heap.IsList l xs.toArray)
  (q:∀h tk,(∀b o,s.heap.get? b=some o->h.get? b=some o)->Q xs { s with heap:=h,toks:=tk }):wpAny (model prog w) A (unpackItems (.ref l) xs.length none) Q E s:=by
 have lt:l<s.heap.objs.size:=by obtain⟨o,ho,_⟩:=hl;exact Heap.lt_size ho
 have W:=Walks.list (prog:=prog) (w:=w) hh s.heap.objs.size l (xam lt) xs.toArray;have old:∀{b:Addr} {o:Obj},s.heap.get? b=some o->b∉[s.heap.objs.size]:=fun x m=>xam (Heap.lt_size x) (xaB.mp m);unfold unpackItems notIterableAtAll;refine wpAny_bind (wpAny_bind (wpAny_specialOf hl.typeIs F.slot_list_iter.lookup (wpAny_pure ?_)));rw[if_neg (by decide)];refine wpAny_bind (wpAny_holding (wpAny_pyIter_list hl (wpAny_bind (wpAny_holding ?_))));refine drawW W xs.length 0 _ _ (by simp) ⟨⟨_,Heap.get?_push_size _ rfl,rfl,rfl⟩,hl.push _⟩ fun vs h1 t1 l1 p1 st1 k1=>?_;have ev:vs=xs:=by
  refine xbG fun j=>?_;by_cases c:j<vs.length
  ·have e:=p1 j vs[j] (xac c);rw[xac c,<- e];simp
  ·rw[xaL (by omega),xaL (by omega)]
 rw[if_neg (by omega)];refine wpAny_bind (wpAny_holding (W.done _ _ _ (by simpa using st1) fun h2 t2 k2=>?_));rw[if_neg (show ¬(none:Option Value).isSome=true by decide),ev];exact wpAny_pure (q h2 t2 fun b o x=>k2 b o (old x) (k1 b o (old x) (Heap.get?_push_of_some _ x)))
end
section
variable {X:Cx} {pos:Pos}
def gLst (K:PySem.W.Frag) (n:Nat) (t:TGs):TG:=fun v σ H Q=>∃a xs,v=.ref a/\SqL K H a xs/\xs.length=n/\t xs σ H Q
theorem jmH {es:List Expr} {k:Nat} {t:TGs} {n:Nat} (hc:X.calm=true) (h:PGs X es t)
  (hn:(assignEach es X.env).length=n:=by rfl) (hst:(assignEach es X.env).findIdx? (·.1)=none:=by rfl):PG X (.Tuple es k pos) (gLst X.K n t):=by
 intro pins s σ H v u Q I r ⟨a,xs,e1,hq,hl,hw⟩;subst e1;cases r;obtain⟨its,rv,ht,hz⟩:=I.list hq;have len:(assignEach es X.env).length=its.length:=by rw[hn,<- hl,rv.length]
 rw[assign_Tuple];unfold unpack;rw[len,hst];exact wpAny_bind (wpAny_standAt (wpAny_bind (wpAny_holding (jmG (I.ok.hd hc) ht.isList fun h' tk hx=>h pins _ σ H xs _ Q (I.kept hx) rv hw))))
end
section
open PySem.AutoSeq1 (wpAny_loadPart')
open PySem.MeetsSeq3 (plain_eq_loop entry_eq_loop)
end
structure CompScopeMC (N:List Str) (sc:Scope) (N':List Str) (ix:List Nat) (xs0:List Str) (r:List Str) (cs:Scope):Prop where
 eq:N'=xs0++r
 kind:cs.kind=.function
 hown:∀y∈cs.names,y.2=.cell->cs.names.lookup y.1=some .cell
 hnames:∀y∈cs.names,y.2=.local->cs.names.lookup y.1=some .local
 nd:(xs0++r).Nodup
 fr:∀y∈cs.names,y.2=.free->sc.names.lookup y.1=some .cell\/sc.names.lookup y.1=some .free
 ixs:Ixs N sc cs r ix
section
variable {X:Cx} {pins:List (Addr × Obj)} {σ:St} {H:Hp} {s:Shared}
theorem Inv.compOkMC {N' r:List Str} {ix:List Nat} {xs0:List Str} {cs:Scope} {cl:List (Str × Addr)} {fp:List Addr} (I:Inv X pins σ H s) (S:CompScopeMC X.N X.env.scope N' ix xs0 r cs)
  (h2:∀y c,cl.lookup y=some c->X.env.cells.lookup y=some c) (h3:∀y,(y,NameKind.free)∈cs.names->∃c,cl.lookup y=some c) (hf:∀b∈fp,jfG X pins H b) (hfp:∀b∈fp,b<s.heap.objs.size) :
  (jaO X N' cs cl s H fp).Ok where
 mod:=I.ok.mod
 kind:=S.kind
 glob:=I.ok.glob
 blt:=I.ok.blt
 above:=xad _
 inj:=(I.cfs (cs:=cs) h2).1.inj
 has:=fun y hy=>by
  rcases hy.elim (fun z=>jc9 z (.inl rfl)) fun z=>jc9 z (.inr rfl) with z | z
  ·exact jlc (h3 y z)
  ·obtain⟨c,h,_⟩:=jfs cs.names (s.heap.objs.size+1) cl y z;exact⟨c,h⟩
 cab:=fun y c hy e=>by
  have z:cs.names.lookup y=some .cell:=beq_iff_eq.mp hy;obtain⟨c',h,hl⟩:=jfs cs.names (s.heap.objs.size+1) cl y (PySem.mem_of_lookup z);have e':(cellsFrom (s.heap.objs.size+1) cs.names cl).lookup y=some c:=e;rw[h] at e';cases e';exact xav (xbV _) hl
 hd:=I.ok.hd
 frames:=I.ok.frames
 stk:=.inl rfl
 exf:=fun b hb=>⟨xam (hfp b hb),fun y c e=>by
  rcases (I.cfs (cs:=cs) h2).2 y c e with z | ⟨_,z,_⟩
  ·exact (hf b hb).2.2.2.2.1 y c z
  ·exact Nat.ne_of_gt (xah (xbs (hfp b hb)) z)⟩
 bs:=I.bs
 bsz:=xav I.ok.bsz I.sz
 noex:=fun b o e hb=>by
  rcases (hf b hb).2.2.2.1 with z | z
  ·exact I.ok.noex b o e z
  ·exact absurd (xah (Heap.lt_size e) (xav I.ok.bsz z)) (xaW _)
 exfs:=fun b hb hs=>by
  rcases xaq.mp (I.stkSub b hs) with z | z
  ·exact (hf b hb).2.1 z
  ·exact (hf b hb).2.2.1 z
 funs:=I.stack
 frf:=I.stkFree
theorem Inv.compStartMC {N' r:List Str} {ix:List Nat} {xs0:List Str} {cs:Scope} {cl:List (Str × Addr)} {fp:List Addr} (I:Inv X pins σ H s) (S:CompScopeMC X.N X.env.scope N' ix xs0 r cs)
  (h2:∀y c,cl.lookup y=some c->X.env.cells.lookup y=some c) (h3:∀y,(y,NameKind.free)∈cs.names->∃c,cl.lookup y=some c) (hf:∀b∈fp,jfG X pins H b) (hfp:∀b∈fp,b<s.heap.objs.size) :
  Inv (jaO X N' cs cl s H fp) [] (List.replicate xs0.length none++jaG σ ix) H { s with heap:=pushCells (s.heap.push { cls:=.type "dict",data:=.dict #[] }) cs.names }:=by
 have ok:=I.compOkMC (N':=N') (fp:=fp) S h2 h3 hf hfp;obtain⟨mo,hno,hlo⟩:=id I.loc;have hk:∀b o,s.heap.get? b=some o->(pushCells (s.heap.push { cls:=.type "dict",data:=.dict #[] }) cs.names).get? b=some o:=fun b o e=>pushCells_keeps _ _ _ _ (Heap.get?_push_of_some _ e);have cf:=(I.cfs (cs:=cs) h2).2;refine⟨ok,rfl,I.bare,Un.kept hk,⟨fun _=>none,(Heap.Ns.new s.heap (.type "dict")).keeps (pushCells_keeps _ _),fun i y v e1 e2 e3=>?_⟩,fun y c e=>?_,I.hok.fresh (xad _),fun y c e=>?_,fun p hp=>absurd (show p∈([]:List (Addr × Obj)) from hp) (by simp),I.hok.kept hk,?_⟩
 ·by_cases hi:i<xs0.length
  ·rw[xaX (by rw[xaZ];exact hi),List.getElem?_replicate,if_pos hi] at e2;cases e2
  ·have e1':r[i-xs0.length]?=some y:=by
    have:N'[i]?=some y:=e1;rw[S.eq,xaE (by omega)] at this;exact this
   have e2:(jaG σ ix)[i-xs0.length]?=some (some v):=by
    rw[xaE (by rw[xaZ];omega),xaZ] at e2;exact e2
   obtain⟨j,j1,j2,j3,j4⟩:=S.ixs.get e1';obtain⟨j',k1,k2⟩:=jdS (σ:=σ) (ix:=ix) (i:=i-xs0.length) (v:=v) e2;rw[j1] at k1;cases k1;obtain⟨u,ru,lk⟩:=hlo j y v j2 k2 (j3.elim (fun z=>.inr (.inl z)) fun z=>.inr (.inr z));refine⟨u,ru,?_⟩;obtain⟨c,hc⟩:=h3 y (PySem.mem_of_lookup j4);rcases lk with ⟨k,_⟩ | ⟨k,c',e',z⟩
   ·have k':X.env.scope.names.lookup y=some .local:=k;rcases j3 with q | q<;>(rw[q] at k';cases k')
   ·rw[h2 y c hc] at e';cases e';refine .inr ⟨?_,c,?_,?_⟩
    ·exact jbd (env:=X.env) j4
    ·have no:(y,NameKind.cell)∉cs.names:=fun q=>by
      have:=S.hown _ q rfl;rw[j4] at this;cases this
     show (cellsFrom (s.heap.objs.size+1) cs.names cl).lookup y=some c;rw[jfr _ _ _ y no];exact hc
    ·obtain⟨o,ho,hd⟩:=z;exact⟨o,hk c o ho,hd⟩
 ·rcases cf y c e with z | ⟨_,_,z⟩
  ·obtain⟨v,o,ho,hd⟩:=I.cell y c z;exact⟨v,o,hk c o ho,hd⟩
  ·exact⟨none,z⟩
 ·rcases cf y c e with z | ⟨_,z,_⟩
  ·exact I.freeC y c z
  ·exact I.hok.fresh (xav (xbV _) z)
 ·show (List.replicate xs0.length none++jaG σ ix).length=N'.length;rw[S.eq,xae,xae,xaZ,S.ixs.len];unfold jaG;rw[xaa]
theorem jc0 {N' r:List Str} {ix:List Nat} {xs0:List Str} {cs:Scope} {cl:List (Str × Addr)} {tg iter elt:Expr} {ifs:List Expr} {pos:Pos} {J:It} {fp:List Addr} {it:Addr} {tn:Nat->Heap->Prop} {g:TG} {tt:TT} {te:TE} {Z:Addr->Hp->Prop}
    {RR:Value->Addr->Result->Shared->Prop} {E:Value->Shared->Prop}
    (I:Inv X pins σ H s) (hc:X.calm=true) (S:CompScopeMC X.N X.env.scope N' ix xs0 r cs) (h2:∀y c,cl.lookup y=some c->X.env.cells.lookup y=some c) (h3:∀y,(y,NameKind.free)∈cs.names->∃c,cl.lookup y=some c)
    (T:Turn X.prog X.w X.K tg J fp it tn) (st:tn 0 s.heap) (hf:∀b∈fp,jfG X pins H b)
    (hg:∀s3 H3,PG (jaO X N' cs cl s3 H3 fp) tg g) (ht:∀s3 H3,PTs (jaO X N' cs cl s3 H3 fp) ifs tt) (he:∀s3 H3,PE (jaO X N' cs cl s3 H3 fp) elt te)
    (go:∀acc,H acc=none->jcY J xs0.length (jaG σ ix) g tt te acc (Z acc) H)
    (fin:∀acc C s' H' m,Inv X pins σ H' s'->jfG X pins H' C->s'.heap.Ns C m->Z acc H'->RR (.ref acc) C (.ok .next) s') :
    wpAny (model X.prog X.w) X.A (newList []) (fun acc s₃=>wpAny (model X.prog X.w) X.A (newFunctionEnv cs X.env.globals cl [] X.env.qual none .none (some X.env)) (fun cenv s₄ =>
      codeAny (model X.prog X.w) X.A (.compStart (.ListComp elt [⟨tg,iter,ifs,0⟩] cs pos) 0 (.ref it) acc { cenv with scope:=relabel cs X.env }) (RR acc cenv.locals) s₄) E s₃) E s:=by
  refine wpAny_newObj_type (jeQ ?_);dsimp only;have hfs:∀b∈fp,b<s.heap.objs.size:=fun b hb=>by
    obtain⟨o,e,_⟩:=T.obj _ _ st b hb;exact Heap.lt_size e
  have I3:Inv X pins σ (upd H s.heap.objs.size (.lst [])) { s with heap:=s.heap.push { cls:=.type "list",data:=.seq ([]:List Value).toArray } }:=I.lnew (its:=[]) (t':=s.toks) .nil (xar _);have nacc:H s.heap.objs.size=none:=I.fresh;have hf3:∀b∈fp,jfG X pins (upd H s.heap.objs.size (.lst [])) b:=fun b hb=>⟨by rw[jaA (xam (hfs b hb))];exact (hf b hb).1,(hf b hb).2⟩;have hfs3:∀b∈fp,b<(s.heap.push { cls:=.type "list",data:=.seq ([]:List Value).toArray }).objs.size:=fun b hb=>by
    rw[Heap.size_push];exact xbs (hfs b hb)
  generalize hs3:({ s with heap:=s.heap.push { cls:=.type "list",data:=.seq ([]:List Value).toArray } }:Shared)=s3 at I3;generalize hH3:upd H s.heap.objs.size (.lst [])=H3 at I3 hf3;have eh:s.heap.push { cls:=.type "list",data:=.seq ([]:List Value).toArray }=s3.heap:=by rw[<- hs3]
  rw[eh] at hfs3;have I4:Inv (jaO X N' cs cl s3 H3 fp) [] (List.replicate xs0.length none++jaG σ ix) H3 { s3 with heap:=pushCells (s3.heap.push { cls:=.type "dict",data:=.dict #[] }) cs.names } :=
    I3.compStartMC S h2 h3 hf3 hfs3
  have cf:=(I3.cfs (cs:=cs) h2).2;have kp2:∀b o,s.heap.get? b=some o->(pushCells (s3.heap.push { cls:=.type "dict",data:=.dict #[] }) cs.names).get? b=some o:=fun b o e=>pushCells_keeps _ _ _ _ (Heap.get?_push_of_some _ (by rw[<- eh];exact Heap.get?_push_of_some _ e));have st4:tn 0 (pushCells (s3.heap.push { cls:=.type "dict",data:=.dict #[] }) cs.names):=T.keep _ _ _ st fun b hb o e=>kp2 b o e;obtain⟨W,⟨m0,w0⟩,turn⟩:=go s.heap.objs.size nacc;rw[hH3] at w0;have stat:∀{H':Hp},(∀b∈fp,H' b=none)->∀b∈fp,jfG (jaO X N' cs cl s3 H3 fp) [] H' b:=fun hn b hb =>
    ⟨hn b hb,xam (hfs3 b hb),fun hs=>by
      rcases xaq.mp (I.stkSub b hs) with z | z
      . exact (hf b hb).2.1 z
      . exact (hf b hb).2.2.1 z,.inl hb,fun y c e=>by
        rcases cf y c e with z | ⟨_,z,_⟩
        . exact (hf b hb).2.2.2.2.1 y c z
        . exact Nat.ne_of_gt (xah (xbs (hfs3 b hb)) z),fun p hp=>absurd (show p∈([]:List (Addr × Obj)) from hp) (by simp)⟩
  have es:s3.heap.objs.size=s.heap.objs.size+1:=by rw[<- eh,Heap.size_push]
  have loop:codeAny (model X.prog X.w) X.A (.compLoop (.ListComp elt [⟨tg,iter,ifs,0⟩] cs pos) 0 (.ref it) (.ref s.heap.objs.size) (jaO X N' cs cl s3 H3 fp).env)
      (RR (.ref s.heap.objs.size) s3.heap.objs.size) { s3 with heap:=pushCells (s3.heap.push { cls:=.type "dict",data:=.dict #[] }) cs.names }:=by
    refine jfl (fun n s'=>∃i v0 H' xs,v0.length=xs0.length/\Inv (jaO X N' cs cl s3 H3 fp) [] (v0++jaG σ ix) H' s'/\tn i s'.heap/\(∀b∈fp,H' b=none)/\W i n xs H') ?_ m0
      ⟨0,List.replicate xs0.length none,H3,[],xaZ,I4,st4,fun b hb=>(hf3 b hb).1,w0⟩
    rintro n s5 ⟨i,v0,H5,xs,l5,I5,st5,fr5,w5⟩;rcases turn i n xs H5 w5 with ⟨stop,q⟩ | ⟨hgo,Nx,Nn,hNx,hNn,step⟩
    . refine thn (T.done (jaO X N' cs cl s3 H3 fp) rfl rfl rfl hc i [] s5 _ H5 _ I5 (stat fr5) st5 stop) fun r' s6 ⟨hr,I6⟩=>?_
      subst hr;have u:Un (frs X.stack) fp H H5 s.heap s6.heap:=by
        refine Un.trans (H1:=H3) (h1:=s3.heap) ?_ I6.base;rw[<- hH3,<- eh];exact Un.laid (fun _ _ q=>Heap.get?_push_of_some _ q) (xad _) nacc
      have e3:s3.os=s.os:=by rw[<- hs3]
      have os6:s6.os=s.os:=I6.os.trans e3;have J6:Inv X pins σ H5 s6:=I.call' os6 u I6.hok I6.bare fun b hb=>⟨(hf b hb).2.2.2.1,(hf b hb).2.1,(hf b hb).2.2.2.2.1,(hf b hb).2.2.2.2.2⟩;obtain⟨m6,n6,_⟩:=I6.loc;exact fin _ _ s6 H5 m6 J6 (I.fpOk (by rw[es];exact xbV _) I6.free) n6 q
    . refine thn (T.item (jaO X N' cs cl s3 H3 fp) rfl rfl rfl hc i [] s5 _ H5 _ I5 (stat fr5) st5 hgo) fun r' s6 ⟨u,hr,h6⟩=>?_
      subst hr;refine thn h6 fun _ s7 ⟨y,H7,I7,r7,y7,st7,fr7⟩=>?_;have I7':=I7.pinned (stat fr7) (T.obj _ _ st7);refine wpAny_mono (hg s3 H3 _ s7 _ H7 y u _ I7' r7 (step v0 y H7 l5 y7)) (fun _ s8 ⟨σ8,H8,I8,⟨v8,l8,e8⟩,q8⟩=>?_) fun _ _ z=>z.elim;subst e8;have back:∀{s9:Shared} {H9:Hp} {m':Nat} {xs':List V},Inv (jaO X N' cs cl s3 H3 fp) ([]++jfb fp s7.heap) (v8++jaG σ ix) H9 s9->m'<n->W (i+1) m' xs' H9 ->
          ∃m,m<n/\∃i v0 H' xs,v0.length=xs0.length/\Inv (jaO X N' cs cl s3 H3 fp) [] (v0++jaG σ ix) H' s9/\tn i s9.heap/\(∀b∈fp,H' b=none)/\W i m xs H':=fun {s9 H9 m' xs'} I9 hm w9 =>
        ⟨m',hm,i+1,v8,H9,xs',l8,I9.unpinned,T.keep _ _ _ st7 fun b hb o e=>(I9.pin (b,o) (xaA _ (xaA _ (jcH hb e)))).1,fun b hb=>by
          obtain⟨o,e,d⟩:=T.obj _ _ st7 b hb;exact (I9.pin (b,o) (xaA _ (xaA _ (jcH hb e)))).2.1,w9⟩
      refine thn (ht s3 H3 _ _ s8 _ H8 _ (fun _ _ z=>z.elim) I8 q8) fun b s9 ⟨H9,I9,q9⟩=>?_;cases b with
      | false =>
        rw[if_neg xai] at q9 |-
        obtain⟨m',hm,w9⟩:=hNn H9 q9;exact back I9 hm w9
      | true =>
        rw[if_pos rfl] at q9 |-
        refine wpAny_mono (he s3 H3 _ s9 _ H9 _ I9 q9) (fun u2 s10 ⟨y2,H10,I10,r10,q10⟩=>?_) fun _ _ z=>z.elim;obtain⟨a10,z10,m',hm,w10⟩:=hNx y2 H10 q10;refine wpAny_mono (jby (X:=jaO X N' cs cl s3 H3 fp) _ s10 _ H10 (.ref s.heap.objs.size) [y2] (.ref s.heap.objs.size) [u2] (fun _ H'=>H'=upd H10 s.heap.objs.size (.lst (xs++[y2]))) I10 rfl (.cons r10 .nil) ⟨_,xs,y2,rfl,rfl,a10,z10,rfl⟩) (fun _ s11 ⟨_,H11,I11,_,e11⟩=>?_) fun _ _ z=>z.elim;subst e11;exact back I11 hm w10
  subst hs3;exact codeAny_compStart_list loop (T.self X.A 0 _ _ _ st4 loop)
end
section
variable {X:Cx} {N' r xs0:List Str} {ix:List Nat} {cs:Scope} {tg iter elt:Expr} {ifs:List Expr} {pos:Pos} {wi:TI} {g:TG} {tt:TT} {te:TE}
theorem CompScopeMC.clos {sc:Scope} {N:List Str} (S:CompScopeMC N sc N' ix xs0 r cs) {env:Env} (he:env.scope=sc) (has:∀y,(env.kindOf y=some .cell\/env.kindOf y=some .free)->∃c,env.cells.lookup y=some c) :
  ∃cl:List (Str × Addr),closureFor cs env=pure cl/\(∀y c,cl.lookup y=some c->env.cells.lookup y=some c)/\(∀y,(y,NameKind.free)∈cs.names->∃c,cl.lookup y=some c) :=
 jdl fun y hy hk=>has y.1 (by
  subst he;exact S.fr y hy hk)
theorem jid (hc:X.calm=true) (S:CompScopeMC X.N X.env.scope N' ix xs0 r cs) (hi:PI X tg iter wi)
  (hg:∀cl s3 H3 fp,PG (jaO X N' cs cl s3 H3 fp) tg g) (ht:∀cl s3 H3 fp,PTs (jaO X N' cs cl s3 H3 fp) ifs tt) (he:∀cl s3 H3 fp,PE (jaO X N' cs cl s3 H3 fp) elt te)
  (hs:∀x,foldedSetIterable iter X.env x=pure x:=by intro _;rfl):PE X (.ListComp elt [⟨tg,iter,ifs,0⟩] cs pos) (jki wi ix xs0.length g tt te):=by
 intro pins s σ H Q I h;obtain⟨cl,c1,c2,c3⟩:=S.clos rfl I.ok.has;rw[eval_ListComp];refine wpAny_comprehension_free (use:=none) rfl hs c1 S.kind S.hnames (thn (hi pins s σ H _ I h) fun v s1 h1=>thn h1 fun itv s2 h2=>?_);obtain⟨it,fp,tn,J,H2,e,I2,T,st2,f2,R⟩:=h2;subst e;refine jc0 (RR:=fun acc C=>compPost (model X.prog X.w) X.A X.xe none (EP X pins σ Q) acc C) I2 hc S c2 c3 T st2 f2 (fun s3 H3=>hg cl s3 H3 fp) (fun s3 H3=>ht cl s3 H3 fp) (fun s3 H3=>he cl s3 H3 fp) R ?_;intro acc C s' H' m I' fC hn q;refine⟨m,hn,fun h' hb=>⟨.ref acc,H',?_,rfl,q⟩⟩;exact I'.turned (t':=s'.toks) (fun b o hne e=>(hb.2 b hne).trans e) fC.1 fC.2.1 fC.2.2.2.1 fC.2.2.2.2.1 fC.2.2.2.2.2
end
theorem CompScopeC.mc {N:List Str} {sc:Scope} {N':List Str} {ix:List Nat} {x:Str} {r:List Str} {cs:Scope} (S:CompScopeC N sc N' ix x r cs):CompScopeMC N sc N' ix [x] r cs:=⟨S.eq,S.kind,S.hown,S.hnames,S.nd,S.fr,S.ixs⟩
theorem CompGo.m1 {J:It} {ρ:St} {g:TG} {tt:TT} {te:TE} {acc:Addr} {Z:Hp->Prop} {H1:Hp} (h:CompGo J ρ g tt te acc Z H1):jcY J [("":Str)].length ρ g tt te acc Z H1:=by
 obtain⟨W,h0,hs⟩:=h;refine⟨W,h0,fun i m xs H w=>?_⟩;rcases hs i m xs H w with h | ⟨hg,Nx,Nn,h1,h2,step⟩
 ·exact .inl h
 ·refine .inr ⟨hg,Nx,Nn,h1,h2,fun v0 x H' l0 y=>?_⟩;obtain⟨a,rfl⟩:=xbo.mp l0;have e:(fun (σ2:St) (H2:Hp)=>(∃v,σ2=v::ρ)/\tt σ2 H2 fun b H3=>if b=true then te σ2 H3 Nx else Nn H3)=fun σ2 H2=>(∃v:St,v.length=[("":Str)].length/\σ2=v++ρ)/\tt σ2 H2 fun b H3=>if b=true then te σ2 H3 Nx else Nn H3:=by
   funext σ2 H2
   refine congrArg (·/\_) (propext ⟨fun ⟨v,e⟩=>⟨[v],rfl,e⟩,fun ⟨v,l,e⟩=>?_⟩);obtain⟨b,rfl⟩:=xbo.mp l;exact⟨b,e⟩
  have:=step a x H' y;rw[e] at this;exact this
section
variable {X:Cx} {N' r:List Str} {ix:List Nat} {x:Str} {cs:Scope} {tg iter elt:Expr} {ifs:List Expr} {pos:Pos} {wi:TI} {g:TG} {tt:TT} {te:TE}
theorem jba (hc:X.calm=true) (S:CompScopeC X.N X.env.scope N' ix x r cs) (hi:PI X tg iter wi)
  (hg:∀cl s3 H3 fp,PG (jaO X N' cs cl s3 H3 fp) tg g) (ht:∀cl s3 H3 fp,PTs (jaO X N' cs cl s3 H3 fp) ifs tt) (he:∀cl s3 H3 fp,PE (jaO X N' cs cl s3 H3 fp) elt te)
  (hs:∀x,foldedSetIterable iter X.env x=pure x:=by intro _;rfl):PE X (.ListComp elt [⟨tg,iter,ifs,0⟩] cs pos) (jfm wi ix g tt te):=by
 intro pins s σ H Q I h;obtain⟨cl,c1,c2,c3⟩:=S.mc.clos rfl I.ok.has;rw[eval_ListComp];refine wpAny_comprehension_free (use:=none) rfl hs c1 S.kind S.hnames (thn (hi pins s σ H _ I h) fun v s1 h1=>thn h1 fun itv s2 h2=>?_);obtain⟨it,fp,tn,J,H2,e,I2,T,st2,f2,R⟩:=h2;subst e;refine jc0 (RR:=fun acc C=>compPost (model X.prog X.w) X.A X.xe none (EP X pins σ Q) acc C) I2 hc S.mc c2 c3 T st2 f2 (fun s3 H3=>hg cl s3 H3 fp) (fun s3 H3=>ht cl s3 H3 fp) (fun s3 H3=>he cl s3 H3 fp) (fun acc h=>(R acc h).m1) ?_;intro acc C s' H' m I' fC hn q;refine⟨m,hn,fun h' hb=>⟨.ref acc,H',?_,rfl,q⟩⟩;exact I'.turned (t':=s'.toks) (fun b o hne e=>(hb.2 b hne).trans e) fC.1 fC.2.1 fC.2.2.2.1 fC.2.2.2.2.1 fC.2.2.2.2.2
theorem jb2 {i:Nat} {y:Str} {py spos:Pos} (hc:X.calm=true) (hN:X.N.Nodup) (hiN:X.N[i]?=some y) (hy:X.env.scope.names.lookup y=some .local) (S:CompScopeC X.N X.env.scope N' ix x r cs) (hi:PI X tg iter wi)
  (hg:∀cl s3 H3 fp,PG (jaO X N' cs cl s3 H3 fp) tg g) (ht:∀cl s3 H3 fp,PTs (jaO X N' cs cl s3 H3 fp) ifs tt) (he:∀cl s3 H3 fp,PE (jaO X N' cs cl s3 H3 fp) elt te)
  (hsw:swapsWith (.ListComp elt [⟨tg,iter,ifs,0⟩] cs pos) (some (.Name y py)) spos.line X.env=pure true:=by rfl)
  (hs:∀x,foldedSetIterable iter X.env x=pure x:=by intro _;rfl):PS X (.Assign [.Name y py] (.ListComp elt [⟨tg,iter,ifs,0⟩] cs pos) spos) (jj5 (jfm wi ix g tt te) (jcg i)):=by
 intro pins s σ H D I h;obtain⟨cl,c1,c2,c3⟩:=S.mc.clos rfl I.ok.has;rw[exec_Assign_Name_used _ _ _ _ hsw];refine wpAny_bind (wpAny_standAt (wpAny_bind ?_));show wpAny _ X.A (do let _ <- comprehension (.ListComp elt [⟨tg,iter,ifs,0⟩] cs pos) cs X.env _ (newList []) false (eval iter X.env) (some (assign (.Name y py) X.env))) _ _ s;refine wpAny_bind (wpAny_mono (wpAny_comprehension_free (use:=some (assign (.Name y py) X.env)) (Q:=fun _ s'=>SP X pins D .next s') rfl hs c1 S.kind S.hnames
  (thn (hi pins s σ H _ I h) fun v s1 h1=>thn h1 fun itv s2 h2=>?_)) (fun _ s' hq=>wpAny_pure (wpAny_pure hq)) fun _ _ e=>e)
 obtain⟨it,fp,tn,J,H2,e,I2,T,st2,f2,R⟩:=h2;subst e;refine jc0 (RR:=fun acc C=>compPost (model X.prog X.w) X.A X.xe (some (assign (.Name y py) X.env)) (fun _ s'=>SP X pins D .next s') acc C) I2 hc S.mc c2 c3 T st2 f2 (fun s3 H3=>hg cl s3 H3 fp) (fun s3 H3=>ht cl s3 H3 fp) (fun s3 H3=>he cl s3 H3 fp) (fun acc h=>(R acc h).m1) ?_;intro acc C s' H' m I' fC hn q;show wpAny _ X.A (assign (.Name y py) X.env (.ref acc)) _ _ _;refine wpAny_assign_Name (je8 (v:=.ref acc) I' hN hiN (.inl hy) rfl (fun s'' I'' ⟨a,hb,ha⟩=>?_) (.inr hy));have hCa:C≠a:=fun z=>by
  rcases ha with ha | ha
  ·exact fC.2.1 (z.trans ha)
  ·exact fC.2.2.2.2.1 y a ha z.symm
 refine⟨m,hn.sameBut hb hCa,fun h' hb'=>⟨_,H',?_,q⟩⟩;exact I''.turned (t':=s''.toks) (fun b o hne e=>(hb'.2 b hne).trans e) fC.1 fC.2.1 fC.2.2.2.1 fC.2.2.2.2.1 fC.2.2.2.2.2
end
structure RoomN (k:Nat) (A:Around):Prop where
 dp:A.depth+3*k+5<recursionLimit
 un:A.units+16*k+200<cLine
theorem RoomN.deeper {k:Nat} {A:Around} (r:RoomN (k+1) A) (env:Env):RoomN k (A.deeper env) :=
 ⟨by have:=r.dp;show A.depth+1+3*k+5<_;omega,by have:=r.un;show A.units+3+16*k+200<_;omega⟩
theorem RoomN.depth {k:Nat} {A:Around} (r:RoomN k A):A.depth<recursionLimit:=by have:=r.dp;omega
theorem Room.caught {j k:Nat} {A:Around} {e:Value} (r:Room k A) (h:j<=k):RoomN j (A.mark (some e)):=⟨by have:=r.dp;show A.depth+3*j+5<_;omega,by have:=r.un;show A.units+16*j+200<_;omega⟩
section
open PySem.AutoSeq1 (wpAny_loadPart')
open PySem.MeetsSeq3 (plain_eq_loop entry_eq_loop)
end
section
variable {X:Cx}
def rCatE (K:PySem.W.Frag):R2:=fun x y H Q=>∃a b xs ys,x=.ref a/\y=.ref b/\SqT K H a xs/\SqT K H b ys/\ys≠[]/\xs.length+ys.length<=sizeLine /\
 (xs=[]->Q (.ref b) H)/\(xs≠[]->∀p,H p=none->Q (.ref p) (upd H p (.tup (xs++ys))))
theorem jll:OpR X (binaryOp .Add) (rCatE X.K):=by
 intro pins s σ H x y v u Q I rx ry h;obtain⟨a,b,xs,ys,rfl,rfl,ha,hb,hy,hz,q1,q2⟩:=h;by_cases hx:xs=[]
 ·cases rx;cases ry;obtain⟨its,r1,p1,_⟩:=I.tuple ha;obtain⟨its2,r2,p2,_⟩:=I.tuple hb;have e0:its=[]:=r1.nil_iff.mpr hx;obtain⟨⟨cls,dd,data,sl⟩,ho,hc,n,hd⟩:=id p1;obtain⟨⟨cls2,dd2,data2,sl2⟩,ho2,hc2,n2,hd2⟩:=id p2;simp only at hc hd hc2 hd2;subst hc hd hc2 hd2;exact concat_meets ⟨_,ho,rfl⟩ ⟨_,ho2,rfl⟩ noFill_tuple_add seq_tuple_add PySem.F.slot_tuple_add PySem.F.entry_tuple_add (PySem.F.args_tuple_add_2 _ _)
   (tuple_addW0 a b its.toArray its2.toArray n n2 dd dd2 sl sl2 (by simp [e0])) ⟨ho,ho2,⟨.ref b,H,I,rfl,q1 hx⟩⟩
 ·exact jhJ pins s σ H _ _ v u Q I rx ry ⟨a,b,xs,ys,rfl,rfl,ha,hb,hx,hz,fun z=>absurd z hy,fun _=>q2 hx⟩
def gOr (g1 g2:TG):TG:=fun v σ H Q=>g1 v σ H Q\/g2 v σ H Q
theorem pg_or {tg:Expr} {g1 g2:TG} (h1:PG X tg g1) (h2:PG X tg g2):PG X tg (gOr g1 g2):=by
 intro pins s σ H v u Q I r h;rcases h with h | h
 ·exact h1 pins s σ H v u Q I r h
 ·exact h2 pins s σ H v u Q I r h
end
end L2
namespace HT
open PySem PyProof.Rows
section
variable {prog:Program} {w:World} {A:Around} {E:Value->Shared->Prop} {s:Shared}
theorem getItem_tuple_all {t sl:Addr} {items:Array Value} {vl vu:Value} {lo hi:Option Int} {Q:Value->Shared->Prop} (ht:IsTup s.heap t items) (hs:s.heap.IsSliceOf sl vl vu .none) (pl:IsPart vl lo) (pu:IsPart vu hi)
  (hw:sIx items.size 0 lo=0/\sIx items.size items.size hi=items.size)
  (h:Q (.ref t) s)
  (hsz:items.size<=sizeLine):wpAny (model prog w) A (getItem (.ref t) (.ref sl)) Q E s:=by
 have hj:sIx items.size items.size hi<=items.size:=jj9 _ _ (xad _) hi;obtain⟨os,hos,hcs,hds⟩:=id hs;have hTs:s.TypeIs (.ref sl) "slice":=⟨os,hos,hcs⟩;unfold getItem;try with_reducible refine wpAny_holding ?_
 first | refine wpAny_bind (wpAny_pure ?_) | skip
 refine wpAny_bind (wpAny_sequenceKey ht.typeIs (by decide) ?_);refine wpAny_bind (wpAny_callSpecial?_slot (name:=Str.ofString "__getitem__") ht.typeIs PyProof.Rows.slot_tuple_getitem
  (wpAny_call_entry PyProof.Rows.slot_tuple_getitem ht.typeIs entry_tuple_getitem ?_ (args_tuple_getitem _ _)))
 show wpAny _ _ (Builtin.Tuple.tupleItemsOf (.ref t) >>= _) _ _ s;refine wpAny_bind (tupleItemsOf_ ht ?_);refine wpAny_bind (wpAny_typeOf hTs ?_);rw[if_pos (by decide)];refine wpAny_bind (jb9 hs pl pu ?_);have hyes:((((sIx items.size 0 lo:Nat):Int)==0&&(1:Int)==1&&(sIx items.size items.size hi-sIx items.size 0 lo)==items.size)=true):=by
  rw[hw.1,hw.2,Nat.sub_zero];simp
 show wpAny _ _ (if (((sIx items.size 0 lo:Nat):Int)==0&&(1:Int)==1&&(sIx items.size items.size hi-sIx items.size 0 lo)==items.size)=true then _ else _) _ _ s;rw[if_pos hyes];unfold Builtin.Tuple.tupleIsExact;refine wpAny_bind (wpAny_bind (wpAny_typeOf ht.typeIs (wpAny_pure ?_)));rw[if_pos (by decide)]
 repeat (first | exact⟨_,rfl,wpAny_pure h⟩ | wp_step)
end
end HT
namespace L2
open PySem PySem.Spec PyProof.Rows
section
variable {X:Cx}
def jmI (K:PySem.W.Frag):V->Option Int->Option Int->Hp->VK->Prop:=fun x lo hi H Q=>∃a xs,x=.ref a/\SqT K H a xs/\(HT.sIx xs.length 0 lo=0/\HT.sIx xs.length xs.length hi=xs.length)/\Q (.ref a) H
theorem jlm:SlR X (jmI X.K):=by
 intro pins s σ H x v vl vu lo hi sl Q I rx hs pl pu h;obtain⟨a,xs,rfl,hx,hw,q⟩:=h;cases rx;obtain⟨its,r,ht,hz⟩:=I.tuple hx;have hlen:its.toArray.size=xs.length:=by rw[xaf];exact r.length.symm
 refine⟨"tuple",_,PyProof.Rows.slot_tuple_getitem.lookup,ht.typeIs,?_⟩;exact HT.getItem_tuple_all ht hs pl pu (by rw[hlen];exact hw) ⟨.ref a,H,I,rfl,q⟩ (by rw[hlen];exact hz)
theorem jmJ:SlR X (fun x l u H Q=>(rSlL X.K x l u H Q\/rSlT X.K x l u H Q)\/jmI X.K x l u H Q):=(sl_list.or jka).or jlm
end
section
variable {κ:Type} [DecidableEq κ]
def jkk (kvs:List (κ × V)) (k:κ):Option V:=(kvs.find? fun kv=>decide (kv.1=k)).map (·.2)
def jjt (kvs:List (κ × V)) (k:κ) (v:V):List (κ × V) :=
 if (kvs.any fun kv=>decide (kv.1=k))=true then kvs.map (fun kv=>if kv.1=k then (kv.1,v) else kv) else kvs++[(k,v)]
def jmK (kvs:List (κ × V)) (k:κ):List (κ × V):=kvs.filter fun kv=>decide (kv.1≠k)
theorem jgo {p:κ × V} {r:List (κ × V)} {k:κ} (e:p.1=k):jkk (p::r) k=some p.2:=by simp [jkk,xbW,e]
theorem jju {p:κ × V} {r:List (κ × V)} {k:κ} (e:¬p.1=k):jkk (p::r) k=jkk r k:=by simp [jkk,xbW,e]
theorem jfU (kvs:List (κ × V)) (k:κ) (v:V):(jjt kvs k v).length<=kvs.length+1:=by
 unfold jjt;split
 ·rw[xaa];omega
 ·rw[xae,xao,List.length_nil];omega
theorem RelO.getD {o:Option V} {u:Option Value} {d:V} {d':Value} (r:RelO o u) (rd:RelV d d'):RelV (o.getD d) (u.getD d'):=by
  cases o with
  | none => cases u with
    | none=>exact rd
    | some _=>exact (show False from r).elim
  | some _ => cases u with
    | none=>exact (show False from r).elim
    | some _=>exact r
theorem KV.val {kvs:List (κ × V)} {vs:List (κ × Value)} (r:KV kvs vs) (k:κ):RelO (jkk kvs k) (valueAt vs k):=by
  unfold KV at r;induction r with
  | nil=>exact True.intro
  | @cons p q ps qs h t ih =>
    obtain⟨h1,h2⟩:=h;by_cases e:p.1=k
    . have e':q.1=k:=h1.symm.trans e
      have b:valueAt (q::qs) k=some q.2:=by simp [valueAt,xbW,e']
      rw[jgo e,b];exact h2
    . have e':¬q.1=k:=fun z=>e (h1.trans z)
      have b:valueAt (q::qs) k=valueAt qs k:=by simp [valueAt,xbW,e']
      rw[jju e,b];exact ih
theorem KV.any {kvs:List (κ × V)} {vs:List (κ × Value)} (r:KV kvs vs) (k:κ):(kvs.any fun kv=>decide (kv.1=k))=vs.any fun kv=>decide (kv.1=k):=by
 unfold KV at r;induction r with
 | nil=>rfl
 | cons h t ih=>rw[xb4,xb4,ih,h.1]
theorem KV.repl {kvs:List (κ × V)} {vs:List (κ × Value)} (r:KV kvs vs) (k:κ) {y:V} {u:Value} (ry:RelV y u) :
    KV (kvs.map fun kv=>if kv.1=k then (kv.1,y) else kv) (vs.map fun kv=>if kv.1=k then (kv.1,u) else kv):=by
  unfold KV at r |-
  induction r with
  | nil=>exact .nil
  | @cons p q ps qs h t ih =>
    rw[xaI,xaI];refine .cons ?_ ih;obtain⟨h1,h2⟩:=h;by_cases e:p.1=k
    . rw[if_pos e,if_pos (h1.symm.trans e)];exact⟨h1,ry⟩
    . rw[if_neg e,if_neg (fun z=>e (h1.trans z))];exact⟨h1,h2⟩
theorem KV.put {kvs:List (κ × V)} {vs:List (κ × Value)} (r:KV kvs vs) (k:κ) {y:V} {u:Value} (ry:RelV y u):KV (jjt kvs k y) (stored vs k u):=by
 unfold jjt stored;rw[r.any k];by_cases e:(vs.any fun kv=>decide (kv.1=k))=true
 ·rw[if_pos e,if_pos e];exact r.repl k ry
 ·rw[if_neg e,if_neg e];exact Paired.snoc r ⟨rfl,ry⟩
theorem KV.drop {kvs:List (κ × V)} {vs:List (κ × Value)} (r:KV kvs vs) (k:κ):KV (jmK kvs k) (without vs k):=by
  unfold KV at r |-
  unfold jmK without;induction r with
  | nil=>exact .nil
  | @cons p q ps qs h t ih =>
    obtain⟨h1,h2⟩:=h;rw[xaF,xaF];by_cases e:p.1=k
    . have a:¬decide (p.1≠k)=true:=by simp [e]
      have b:¬decide (q.1≠k)=true:=by simp [h1.symm.trans e]
      rw[if_neg a,if_neg b];exact ih
    . have e':¬q.1=k:=fun z=>e (h1.trans z)
      have a:decide (p.1≠k)=true:=by simp [e]
      have b:decide (q.1≠k)=true:=by simp [e']
      rw[if_pos a,if_pos b];exact .cons ⟨h1,h2⟩ ih
theorem KV.keys {kvs:List (κ × V)} {vs:List (κ × Value)} (r:KV kvs vs):kvs.map (·.1)=vs.map (·.1):=by
 unfold KV at r;induction r with
 | nil=>rfl
 | cons h t ih=>rw[xaI,xaI,ih,h.1]
theorem KV.length {kvs:List (κ × V)} {vs:List (κ × Value)} (r:KV kvs vs):kvs.length=vs.length:=Paired.length r
end
theorem jmL {P:Program} {w:World} {k:Key} {u:Value} (r:RelV (kV k) u):(jbb P w).is k u=true:=by
 cases k with
 | inl i=>obtain⟨t,e⟩:=(show ∃t,u=Value.int i t from r);subst e;exact jfI P w i t
 | inr x=>obtain⟨t,e⟩:=(show ∃t,u=Value.str x t from r);subst e;exact jfJ P w x t
theorem jbT:entryFor table "dict.update.loop"=some Builtin.«dict.update.loop»:=entryFor_of_tree (id (Eq.refl (entriesT.find (code "dict.update.loop"))))
theorem ja6:plainId "dict.update.loop"=true:=by decide +kernel
def jgp (P:Program) (w:World) (h:Heap) (v:Value) (q:Key × Value):Prop:=∃(a:Addr) (o:Obj) (u:Value) (n:Nat),v=.ref a/\h.get? a=some o/\o.cls=.type "tuple"/\o.data=.seq #[u,q.2] n/\(jbb P w).is q.1 u=true
theorem jdp {prog:Program} {w:World} {A:Around} {R:Result->Shared->Prop} {I l S:Addr} {items:Array Value} (hh:A.in1.handled=none) (lI:l≠I) (SI:S≠I) (Sl:S≠l) (hz:items.size<=sizeLine) (res:Value):∀(k i:Nat) (s:Shared) (kvs qs:List (Key × Value)) (z:Int) (tok:Tok),items.size-i=k->i<=items.size->s.heap.IsListIter I l i->s.heap.IsList l items->s.heap.DictOf (jbb prog w) S kvs->kvs.length<=i->qs.length=items.size-i->(∀(j:Nat) (v:Value),items[i+j]?=some v->v≠.ref S/\v≠.ref I/\∃q,qs[j]?=some q/\jgp prog w s.heap v q) ->
    (∀(h':Heap) (tk:Nat),(∀b o,b≠S->b≠I->s.heap.get? b=some o->h'.get? b=some o)->h'.DictOf (jbb prog w) S (qs.foldl (fun acc q=>stored acc q.1 q.2) kvs)->R (.ok (.ret res)) { s with heap:=h',toks:=tk }) ->
    codeAny (model prog w) A (.builtin "dict.update.loop" { pos:=[.ref S,.ref I,.int z tok,res] }) R s:=by
  intro k;have W:=Walks.list (prog:=prog) (w:=w) (A:=A.in1) hh I l lI items;induction k with
  | zero =>
    intro i s kvs qs z tok hk hi hI hl hS hn hq hp q;obtain rfl:i=items.size:=by omega
    obtain rfl:qs=[]:=xa3.mp (by omega);refine codeAny_builtin jbT ?_;rw[Around.under_plainId ja6];unfold Builtin.«dict.update.loop»;refine wpAny_bind (W.done s _ _ ⟨hI,hl⟩ fun h' tk hm=>?_);show wpAny _ _ (Builtin.Dict.addKeywords S [] >>= fun _=>ret res) _ _ _;unfold Builtin.Dict.addKeywords;refine wpAny_bind (wpAny_bind ?_);rw[List.forIn_nil];exact wpAny_pure (wpAny_pure (wpAny_pure (q h' tk (fun b o _ hb e=>hm b o (by simpa using hb) e) (let ⟨o,es,ep,h1,r⟩:=hS;⟨o,es,ep,hm S o (by simpa using SI) h1,r⟩))))
  | succ k ih =>
    intro i s kvs qs z tok hk hi hI hl hS hn hq hp q;refine codeAny_builtin jbT ?_;rw[Around.under_plainId ja6];unfold Builtin.«dict.update.loop»;refine wpAny_bind (W.item i s _ _ (by omega) ⟨hI,hl⟩ fun v h' tk hv hst hm=>?_);obtain⟨vS,vI,q1,hq1,a,o,u,n,rfl,ho,hc,hd,hk'⟩:=hp 0 v hv;obtain⟨qs',rfl⟩:∃qs',qs=q1::qs':=by
      cases qs with
      | nil=>cases hq1
      | cons x xs=>cases hq1;exact⟨xs,rfl⟩
    have hS':h'.DictOf (jbb prog w) S kvs:=let ⟨o,es,ep,h1,r⟩:=hS;⟨o,es,ep,hm S o (by simpa using SI) h1,r⟩;have ha':h'.get? a=some o:=hm a o (by simpa using fun z=>vI (by rw[z])) ho;obtain⟨hst1,hst2⟩:=hst;refine wpAny_bind (wpAny_holding (wpAny_bind (wpAny_tryCatch ?_)));unfold Builtin.Dict.pairItems;refine wpAny_bind (wpAny_typeOf (T:="tuple") ⟨o,ha',hc⟩ ?_);rw[if_pos (by decide)];refine wpAny_bind (wpAny_seqItems ha' hd (wpAny_pure ?_));show wpAny _ _ (holding [u,q1.2] (dictSet S u q1.2)) _ _ _;refine wpAny_holding (wpAny_dictSet_pairs hk' hS' (fun h2 d2 sb=>?_) (by omega));have lst:=stored_length_le kvs q1.1 q1.2;rw[xao] at hq;have k2:∀b o,b≠S->b≠I->s.heap.get? b=some o->h2.get? b=some o:=fun b o h1 h2' e=>(sb.2 b h1).trans (hm b o (by simpa using h2') e);refine wpAny_pure ⟨plainId_quiet ja6 _,ih (i+1) { s with heap:=h2,toks:=tk+1 } (stored kvs q1.1 q1.2) qs' (z+1) _ (by omega) (by omega) ?_ ?_ d2 (by omega) (by omega) (fun j v hj=>?_) (fun h3 tk3 k3 d3=>?_)⟩
    . obtain⟨o',e1,e2⟩:=hst1
      exact⟨o',(sb.2 I (Ne.symm SI)).trans e1,e2⟩
    . obtain⟨o',e1,e2⟩:=hst2
      exact⟨o',(sb.2 l (Ne.symm Sl)).trans e1,e2⟩
    . obtain⟨h1,h2',q2,e1,a2,o2,u2,n2,rfl,p2,p3,p4,p5⟩:=hp (j+1) v (by rw[show i+(j+1)=i+1+j by omega]; exact hj)
      exact⟨h1,h2',q2,e1,a2,o2,u2,n2,rfl,k2 _ _ (fun z=>h1 (by rw[z])) (fun z=>h2' (by rw[z])) p2,p3,p4,p5⟩
    . exact q h3 tk3 (fun b o h1 h2' e=>k3 b o h1 h2' (k2 b o h1 h2' e)) d3
theorem jhb {prog:Program} {w:World} {A:Around} {E:Value->Shared->Prop} {s:Shared} {a:Addr} {o:Obj} {xs:Array Value} {n:Nat} {Q:Option Value->Shared->Prop} (ho:s.heap.get? a=some o) (hc:o.cls=.type "list") (hd:o.data=.seq xs n) (hn:o.dict=none) (hA:A.handled=none) (h:∀(h':Heap) (tk:Nat),(∀b u,s.heap.get? b=some u->h'.get? b=some u)->Q none { s with heap:=h',toks:=tk }):wpAny (model prog w) A (getAttr? (.ref a) "keys") Q E s:=by
 obtain⟨c,dct,dat,sl⟩:=o;subst hc hd hn;have hT:∀x,Shared.TypeIs { s with toks:=x } (.ref a) "list":=fun x=>⟨_,ho,rfl⟩;have f3:=F.slot_list_getattribute.lookup;have f4:=F.slot_list_getattribute.bind (.ref a);unfold getAttr?;refine wpAny_bind ?_;unfold mkText;refine wpAny_bind (wpAny_fresh' (wpAny_pure ?_));unfold getAttrBy?;refine wpAny_bind (wpAny_attempt ?_);unfold getAttrBy;refine wpAny_holding (wpAny_bind (wpAny_typeOf (T:="list") (hT _) ?_));refine wpAny_bind (wpAny_of_eq f3 ?_);refine wpAny_ite_false rfl ?_;unfold getAttrByItsOwn hookBefore;refine wpAny_bind (wpAny_ite_false rfl (wpAny_pure ?_));refine wpAny_bind (wpAny_attempt (wpAny_holding ?_));unfold callGetattribute;refine wpAny_ite_false rfl ?_;unfold boundAndCalled;refine wpAny_bind (wpAny_of_eq f4 ?_);refine call_meets F.slot_list_getattribute (hT _) am_entry_list_getattribute (F.args_list_getattribute_2 _ _) (meets_getattribute_miss_list a xs n sl "keys" _ rfl rfl) ⟨ho,hA,fun h' tk e hx=>?_⟩;obtain⟨t,u,he⟩:=hx.there;have hE:Shared.TypeIs { s with heap:=h',toks:=tk } (.ref e) "AttributeError":=⟨_,he,rfl⟩;show wpAny _ _ (getattributeRaised _ _ _ _ _ _ _) _ _ _;unfold getattributeRaised;refine wpAny_bind (wpAny_isInstance hE sub_AttributeError ?_);rw[if_pos rfl];unfold hookBehind;refine wpAny_bind (wpAny_ite_false rfl (wpAny_of_eq am_list_getattr_none ?_));unfold hookOrError attributeErrorLeaves;dsimp only;rw[if_pos (by decide)];refine wpAny_bind (wpAny_throw ?_);refine wpAny_bind (wpAny_isInstance hE sub_AttributeError ?_);rw[if_pos rfl];exact wpAny_pure (h h' tk hx.keeps)
theorem jhc {prog:Program} {w:World} {A:Around} {R:Result->Shared->Prop} {s:Shared} {l S:Addr} {o:Obj} {items:Array Value} {n:Nat} {qs:List (Key × Value)} (hh:A.handled=none) (hS:s.heap.DictOf (jbb prog w) S []) (ho:s.heap.get? l=some o) (hc:o.cls=.type "list") (hd:o.data=.seq items n) (hn:o.dict=none) (Sl:S≠l) (hz:items.size<=sizeLine) (hq:qs.length=items.size) (hp:∀(j:Nat) (v:Value),items[j]?=some v->v≠.ref S/\∃q,qs[j]?=some q/\jgp prog w s.heap v q)
  (q:∀(h':Heap) (tk:Nat),(∀b o,b≠S->s.heap.get? b=some o->h'.get? b=some o)->h'.DictOf (jbb prog w) S (qs.foldl (fun acc q=>stored acc q.1 q.2) [])->R (.ok (.ret .none)) { s with heap:=h',toks:=tk }) :
  wpAny (model prog w) A.in1 (Builtin.«dict.__init__» { pos:=[.ref S,.ref l] })
   (fun fin s'=>match fin with | .done f=>R (.ok f) s' | .again c'=>c'.quiet=true/\codeAny (model prog w) A c' R s') (fun e s'=>R (.error e) s') s:=by
 unfold Builtin.«dict.__init__»;refine wpAny_bind ?_;unfold Builtin.Dict.selfAndRest;refine wpAny_bind (wpAny_notOrdered_dict hS.typeIs ?_);show wpAny _ _ (Builtin.Dict.addrOf (Value.ref S) >>= fun d=>pure (d,[Value.ref l])) _ _ _;unfold Builtin.Dict.addrOf;refine wpAny_bind (wpAny_pure (wpAny_pure ?_));show wpAny _ _ (Builtin.Dict.updateFrom "dict.__init__" S (Value.ref l) [] Value.none) _ _ _;unfold Builtin.Dict.updateFrom;have hT:s.TypeIs (.ref l) "list":=⟨o,ho,hc⟩;refine wpAny_bind (wpAny_typeOf hT ?_);dsimp only;rw[if_pos (by decide)];refine wpAny_bind (jhb ho hc hd hn hh fun h1 tk1 k1=>?_);rw[if_pos (by rfl)];refine wpAny_bind (wpAny_rule ?_);have hl1:h1.IsList l items:=⟨o,k1 _ _ ho,hc,n,hd⟩;refine wpAny_bind (wpAny_pyIter_list (s:={ s with heap:=h1,toks:=tk1 }) hl1 ?_);have lt:∀{b:Addr} {u:Obj},h1.get? b=some u->b≠h1.objs.size:=fun e=>xam (Heap.lt_size e);obtain⟨oS,eS,pS,hS1,rS⟩:=hS;have lS:=lt (k1 _ _ hS1);have ll:=lt (k1 _ _ ho);have kp:∀b u,s.heap.get? b=some u->(h1.push { cls:=Value.type "list_iterator",data:=Data.fields #[Value.ref l,Value.int 0 0] }).get? b=some u:=fun b u e=>Heap.get?_push_of_some _ (k1 _ _ e);refine wpAny_pure ⟨plainId_quiet ja6 _,?_⟩;refine jdp (I:=h1.objs.size) (l:=l) (S:=S) (items:=items) hh ll lS Sl hz .none items.size 0 { s with heap:=h1.push { cls:=Value.type "list_iterator",data:=Data.fields #[Value.ref l,Value.int 0 0] },toks:=tk1 } [] qs 0 0 rfl (xar _) ⟨_,Heap.get?_push_size _ rfl,rfl,rfl⟩ ⟨o,kp _ _ ho,hc,n,hd⟩ ⟨oS,eS,pS,kp _ _ hS1,rS⟩ (xar _) hq (fun j v hj=>?_) fun h2 tk2 k2 d2=>?_
 ·obtain⟨h1',q1,hq1,a,o1,u,m,rfl,p1,p2,p3,p4⟩:=hp j v (by simpa using hj);exact⟨h1',(fun z=>by cases z;exact lt (k1 _ _ p1) rfl),q1,hq1,a,o1,u,m,rfl,kp _ _ p1,p2,p3,p4⟩
 ·exact q h2 tk2 (fun b u h1' e=>k2 b u h1' (lt (k1 _ _ e)) (kp _ _ e)) d2
theorem jem {prog:Program} {w:World} {A:Around} {E:Value->Shared->Prop} {s:Shared} {l:Addr} {o:Obj} {items:Array Value} {n:Nat} {qs:List (Key × Value)} {Q:Value->Shared->Prop} (hh:A.handled=none) (ho:s.heap.get? l=some o) (hc:o.cls=.type "list") (hd:o.data=.seq items n) (hn:o.dict=none) (hz:items.size<=sizeLine) (hq:qs.length=items.size) (hp:∀(j:Nat) (v:Value),items[j]?=some v->∃q,qs[j]?=some q/\jgp prog w s.heap v q)
  (q:∀(h':Heap) (tk:Nat),(∀b o,s.heap.get? b=some o->h'.get? b=some o)->h'.DictOf (jbb prog w) s.heap.objs.size (qs.foldl (fun acc q=>stored acc q.1 q.2) [])->Q (.ref s.heap.objs.size) { s with heap:=h',toks:=tk }) :
  wpAny (model prog w) A (call (.type "dict") [.ref l]) Q E s:=by
 refine callType_codes F.kt_called_dict (F.kt_typeCall_dict_1 _) F.entry_dict_init (Q₁:=fun obj s₁=>obj=.ref s.heap.objs.size/\s₁={ s with heap:=s.heap.push { cls:=.type "dict",data:=.dict #[] } }) (kt_code_dict_new _ ⟨rfl,rfl⟩) ?_;rintro obj s₁ ⟨rfl,rfl⟩;have hnew:(s.heap.push { cls:=.type "dict",data:=.dict #[] }).DictOf (jbb prog w) s.heap.objs.size []:=Heap.DictOf.new s.heap;have lt:∀{b:Addr} {u:Obj},s.heap.get? b=some u->b≠s.heap.objs.size:=fun e=>xam (Heap.lt_size e);refine⟨Heap.DictOf.typeIs (s:={ s with heap:=s.heap.push { cls:=.type "dict",data:=.dict #[] } }) hnew,F.args_dict_init_2 _ _,?_⟩;refine jhc (A:=A.in1) (s:={ s with heap:=s.heap.push { cls:=.type "dict",data:=.dict #[] } }) (items:=items) (qs:=qs) hh hnew (Heap.get?_push_of_some _ ho) hc hd hn (Ne.symm (lt ho)) hz hq (fun j v hj=>?_) fun h' tk k d=>?_
 ·obtain⟨q1,hq1,a,o1,u,m,rfl,p1,p2,p3,p4⟩:=hp j v hj;exact⟨(fun z=>by cases z;exact lt p1 rfl),q1,hq1,a,o1,u,m,rfl,Heap.get?_push_of_some _ p1,p2,p3,p4⟩
 ·exact⟨rfl,q h' tk (fun b o e=>k b o (lt e) (Heap.get?_push_of_some _ e)) d⟩
section
variable {X:Cx} {pos:Pos}
theorem jmM {pins:List (Addr × Obj)} {σ:St} {H:Hp} {s:Shared} {a:Addr} {kvs:List (Key × V)} (I:Inv X pins σ H s) (e:H a=some (.dK kvs)):kvs.length<=sizeLine/\(a==sysModules)=false/\∃vs,KV kvs vs/\s.heap.DictOf (jbb X.prog X.w) a vs:=I.hok a _ e
theorem Inv.big {pins:List (Addr × Obj)} {σ:St} {H:Hp} {s:Shared} (I:Inv X pins σ H s):sysModules<s.heap.objs.size:=by
 have h:mainGlobals<s.heap.objs.size:=(I.mod.glob.keeps I.bk).lt;exact Nat.lt_trans (by decide) h
def rIxD:R2:=fun x y H Q=>∃p kvs k v,x=.ref p/\y=kV k/\H p=some (.dK kvs)/\jkk kvs k=some v/\Q v H
theorem jln:IxR X rIxD:=by
 intro value slice pins s σ H x y v u Q I rx ry h hs;obtain⟨p,kvs,k,z,rfl,rfl,hp,he,q⟩:=h;cases rx;obtain⟨zl,hd,vs,rel,dd⟩:=jmM I hp;obtain⟨w',hw,rw'⟩:=RelO.some_of (v:=z) (o:=valueAt vs k) (by rw[<- he];exact rel.val k);exact subscriptTail_builtinR (x:=w') dd.typeIs F.slot_dict_getitem.lookup (wpAny_getItem_of (Q:=fun r s'=>r=w'/\EP X pins σ Q r s') (jmL ry) dd.mapOf hw ⟨rfl,z,H,I.tok _,rw',q⟩) hs
theorem kV_of {P:Program} {w:World} {k:Key} {v:Value} (h:(jbb P w).is k v=true):RelV (kV k) v:=by
 rcases jaS h with ⟨i,t,rfl,rfl⟩ | ⟨x,t,rfl,rfl⟩
 ·exact⟨t,rfl⟩
 ·exact⟨t,rfl⟩
theorem jgq:∀{xs:List V} {us:List Value},xs.length=us.length->(∀(i:Nat) (x:V) (u:Value),xs[i]?=some x->us[i]?=some u->RelV x u)->Vals xs us
 | [],[],_,_=>.nil
 | [],_::_,e,_=>by cases e
 | _::_,[],e,_=>by cases e
 | x::xs,u::us,e,h=>.cons (h 0 x u rfl rfl) (jgq (by simpa using e) fun i x u h1 h2=>h (i+1) x u h1 h2)
theorem jen (hc:X.calm=true):CallR X (.type "list") (fun xs H Q=>∃p kvs,xs=[.ref p]/\H p=some (.dK kvs)/\∀l,H l=none->Q (.ref l) (upd H l (.lst (kvs.map fun q=>kV q.1)))):=by
 intro pins s σ H xs us Q I r h;obtain⟨p,kvs,rfl,hp,q⟩:=h;obtain⟨u,rfl,rx⟩:=jfc r;cases rx;obtain⟨zl,hd,vs,rel,dd⟩:=jmM I hp;obtain⟨ep,da⟩:=dd.dictAt;have hl:=rel.length;refine PySem.W.kdl_call (PySem.W.kdl_dict hd) (I.ok.hd hc) da (by omega) fun h' tk acc' c' k e' it=>?_;obtain⟨z1,z2⟩:=it;refine⟨.ref _,_,I.laid (t':=tk) (o:=.lst (kvs.map fun q=>kV q.1)) k (xad _) ⟨by rw[xaa];exact zl,acc'.toList,c',jgq ((xaa _).trans (hl.trans (z1.symm.trans (Array.length_toList ..).symm))) fun i x u h1 h2=>?_,e'⟩,rfl,q _ (I.hok.fresh (xad _))⟩;rw[xag] at h1;obtain⟨q1,hq1,rfl⟩:=xaH.mp h1;obtain⟨k2,x2,e2,e3⟩:=z2 i u (by simpa using h2);have ek:kvs.map (·.1)=vs.map (·.1):=rel.keys;have ek2:(kvs.map (·.1))[i]?=(vs.map (·.1))[i]?:=by rw[ek]
 rw[xag,xag,hq1,e2] at ek2;have ek3:q1.1=k2:=by simpa using ek2
 rw[ek3];exact kV_of e3
theorem jgr {P:Program} {w:World} {H:Hp} {h:Heap} (ok:HOk P w H h):∀{rs:List Addr} {its:List Value} {ps:List (Key × V)},Vals (rs.map V.ref) its->rs.length=ps.length->(∀(i:Nat) (r:Addr) (q:Key × V),rs[i]?=some r->ps[i]?=some q->H r=some (.tup [kV q.1,q.2]))->∃qs:List (Key × Value),KV ps qs/\qs.length=its.length/\∀(j:Nat) (v:Value),its[j]?=some v->∃q,qs[j]?=some q/\jgp P w h v q
  | [], its, ps, r, l, _ => by
    cases r;obtain rfl:ps=[]:=xa3.mp l.symm;exact⟨[],.nil,rfl,fun j v z=>by cases z⟩
  | a::rs,its,[],r,l,_=>by cases l
  | a :: rs, its, q :: ps, r, l, hp => by
    cases r with
    | @cons x u xs us r1 r2 =>
      cases r1;obtain⟨qs,h1,h2,h3⟩:=jgr ok r2 (by simpa using l) fun i r q e1 e2=>hp (i+1) r q e1 e2;obtain⟨_,it2,rv,o,ho,hc,n,hd⟩:=(show ObjOk P w H h a (.tup [kV q.1,q.2]) from ok a _ (hp 0 a q rfl rfl))
      match it2,rv with
      | _, .cons (b := u1) k1 (.cons (b := u2) k2 .nil) =>
        refine⟨(q.1,u2)::qs,.cons ⟨rfl,k2⟩ h1,by rw[xao,xao,h2],fun j v z=>?_⟩;cases j with
        | zero=>cases z;exact⟨_,rfl,a,o,u1,n,rfl,ho,hc,hd,jmL k1⟩
        | succ j=>exact h3 j v z
def ofK (ps:List (Key × V)):List (Key × V):=ps.foldl (fun acc q=>jjt acc q.1 q.2) []
theorem jie:∀{ps:List (Key × V)} {qs:List (Key × Value)} {kvs:List (Key × V)} {vs:List (Key × Value)},KV ps qs->KV kvs vs->KV (ps.foldl (fun acc q=>jjt acc q.1 q.2) kvs) (qs.foldl (fun acc q=>stored acc q.1 q.2) vs)
  | _,_,_,_,.nil,k=>k
  | _, _, _, _, .cons (a := p) (b := q) h t, k => by
    obtain⟨h1,h2⟩:=h;rw[List.foldl_cons,List.foldl_cons];refine jie t ?_;rw[<- h1];exact KV.put k p.1 h2
theorem jgs:∀(ps kvs:List (Key × V)),(ps.foldl (fun acc q=>jjt acc q.1 q.2) kvs).length<=kvs.length+ps.length
  | [],kvs=>xad _
  | p :: ps, kvs => by
    have h1:=jgs ps (jjt kvs p.1 p.2);have h2:=jfU kvs p.1 p.2;rw[List.foldl_cons,xao];omega
theorem jdX (hc:X.calm=true):CallR X (.type "dict") (fun xs H Q=>∃(p:Addr) (rs:List Addr) (ps:List (Key × V)),xs=[.ref p]/\H p=some (.lst (rs.map V.ref))/\rs.length=ps.length/\(∀(i:Nat) (r:Addr) (q:Key × V),rs[i]?=some r->ps[i]?=some q->H r=some (.tup [kV q.1,q.2]))/\∀d,H d=none->Q (.ref d) (upd H d (.dK (ofK ps)))):=by
 intro pins s σ H xs us Q I r h;obtain⟨p,rs,ps,rfl,hp,hl,hq,q⟩:=h;obtain⟨u,rfl,rx⟩:=jfc r;cases rx;obtain⟨its,n,rv,ho,hz⟩:=I.lst hp;obtain⟨qs,kv,lq,pq⟩:=jgr I.hok rv hl hq;have li:=rv.length;rw[xaa] at li hz;refine jem (items:=its.toArray) (qs:=qs) (I.ok.hd hc) ho rfl rfl rfl (by rw[xaf];omega) (by rw[xaf];exact lq) (fun j v hj=>pq j v (by simpa using hj)) fun h' tk k d=>?_;have ll:=jgs ps [];refine⟨.ref _,_,I.laid (t':=tk) (o:=.dK (ofK ps)) k (xad _) ⟨?_,beq_eq_false_iff_ne.mpr (Ne.symm (xam I.big)),_,jie kv .nil,d⟩,rfl,q _ (I.hok.fresh (xad _))⟩;show (ps.foldl (fun acc q=>jjt acc q.1 q.2) []).length<=sizeLine;rw[List.length_nil] at ll;omega
end
end L2
set_option maxHeartbeats 2000000
namespace My
def G (d:Int) (ns:List Int):Int:=ns.foldl (fun d n=>((Int.gcd d n:Nat):Int)) d
abbrev gl (ns:List Int):Int:=G 0 ns
theorem jfu (d n:Int) (r:List Int):G d (n::r)=G (Int.gcd d n:Nat) r:=rfl
theorem jmN (d:Int) (l:List Int) (n:Int):G d (l++[n])=(Int.gcd (G d l) n:Nat):=by
 unfold G;rw[List.foldl_append];rfl
theorem jgt:∀(ns:List Int) (d:Int),0<=d->0<=G d ns
 | [],_,h=>h
 | n::r,d,_=>by rw[jfu];exact jgt r _ (by omega)
theorem ja7 (ns:List Int):0<=gl ns:=jgt ns 0 (by omega)
theorem jmO:∀(ns:List Int) (d:Int),G d ns ∣ d/\∀n∈ns,G d ns ∣ n
  | [],d=>⟨xb0 d,fun n h=>nomatch h⟩
  | m :: r, d => by
    obtain⟨h1,h2⟩:=jmO r (Int.gcd d m:Nat);rw[jfu];refine⟨xbe h1 (xbd ..),fun n hn=>?_⟩;rcases xaq.mp hn with rfl | hn
    . exact xbe h1 (xa7 ..)
    . exact h2 n hn
variable {ns:List Int}
theorem jaP {n:Int} (h:n∈ns):gl ns ∣ n:=(jmO ns 0).2 n h
theorem jmP:∀(ns:List Int) (d k:Int),k ∣ d->(∀n∈ns,k ∣ n)->k ∣ G d ns
  | [],_,_,h,_=>h
  | m :: r, d, k, h, hn => by
    rw[jfu];refine jmP r _ k ?_ fun n h'=>hn n (xan _ h');have h2:=hn m xaP;exact xbk h h2
variable {k a d x y A B:Int}
theorem jeu (h:∀n∈ns,k ∣ n):k ∣ gl ns:=jmP ns 0 k (Int.dvd_zero k) h
theorem jlo (h0:0<=k) (h:k ∣ 1):k=1:=by
 exact Int.eq_one_of_dvd_one h0 h
theorem jmQ (hg:gl ns≠0):gl (ns.map (· / gl ns))=1:=by
 have h0:=ja7 ns;refine jlo (ja7 _) ?_;have h1:∀n∈ns,gl (ns.map (· / gl ns))*gl ns ∣ n:=fun n hn=>by
  obtain⟨c,hc⟩:=jaP (ns:=ns.map (· / gl ns)) (xaG.mpr ⟨n,hn,rfl⟩);refine⟨c,?_⟩;have e:n=n / gl ns*gl ns:=(xaR (jaP hn)).symm;rw[e,hc,xb5,xaU c,<- xb5]
 obtain⟨c,hc⟩:=jeu h1;refine⟨c,?_⟩;have h2:gl ns*1=gl ns*(gl (ns.map (· / gl ns))*c):=by
  rw[xbp,<- xb5,xaU (gl ns) (gl (ns.map (· / gl ns)))];exact hc
 exact Int.eq_of_mul_eq_mul_left hg h2
theorem jmR:∀ns:List Int,G 1 ns=1
  | []=>rfl
  | n :: r => by
    rw[jfu];have:Int.gcd 1 n=1:=by simp
    rw[this];exact jmR r
theorem jjv (d:Int) (a b:List Int):G d (a++b)=G (G d a) b:=by
 unfold G;exact List.foldl_append
variable {n i f j:Nat}
theorem jeo (h:gl (ns.take i)=1):gl ns=1:=by
 have e:ns=ns.take i++ns.drop i:=(xa0 i ns).symm;rw[e];show G 0 _=1;rw[jjv];have h':G 0 (ns.take i)=1:=h;rw[h'];exact jmR _
theorem jfv {n:Int} (h:ns[i]?=some n):gl (ns.take (i+1))=(Int.gcd (gl (ns.take i)) n:Nat):=by
 rw[xa6,h];exact jmN 0 _ n
theorem jfV (ns:List Int):ns.map (· / 1)=ns:=by
 induction ns with
 | nil=>rfl
 | cons a r ih=>rw[xaI,ih,Int.ediv_one]
theorem jjw (a b:Int) (ha:0<=a):Int.gcd b (a % b)=Int.gcd a b:=by
 have h1:(a % b).natAbs=a.natAbs % b.natAbs:=Int.natAbs_emod_of_nonneg ha b;rw[Int.gcd_eq_natAbs_gcd_natAbs,Int.gcd_eq_natAbs_gcd_natAbs,h1];rw[Nat.gcd_comm,Nat.gcd_comm a.natAbs,<- Nat.gcd_rec]
theorem jlp (a b:Int):Int.gcd (if a<0 then -a else a) (if b<0 then -b else b)=Int.gcd a b:=by
 split<;>split<;>simp [Int.gcd_neg,Int.neg_gcd]
theorem jhd (a b:Int):Int.gcd (if b>a then b else a) (if b<a then b else a)=Int.gcd a b:=by
 split<;>split
 ·omega
 ·exact Int.gcd_comm b a
 ·rfl
 ·have:a=b:=by omega
  rw[this]
theorem parts {b:Int} (ha:a∈ns) (hb:b∈ns):(a / gl ns)*b=a*(b / gl ns):=by
 have e1:a=a / gl ns*gl ns:=(xaR (jaP ha)).symm;have e2:b=b / gl ns*gl ns:=(xaR (jaP hb)).symm
 conv=>lhs;rhs;rw[e2]
 conv=>rhs;lhs;rw[e1]
 rw[xb5,xaU (gl ns)]
theorem jdy {n:Int} (h:n∈ns) (hn:n≠0):0<gl ns:=by
 have h0:=ja7 ns;rcases Int.lt_or_eq_of_le h0 with h1 | h1
 ·exact h1
 ·obtain⟨c,hc⟩:=jaP h;rw[<- h1,xaS] at hc;exact absurd hc hn
end My
namespace My
theorem jdY {n g:Int} (h:g ∣ n) (hn:n≠0):n / g≠0:=fun z=>by
 have e:=xaR h;rw[z,xaS] at e;exact hn e.symm
end My
local macro_rules | `(tactic| walk_at "rjs") => `(tactic| simp only [L2.jck, L2.jl7, L2.jhs, L2.jj5, L2.jcg, L2.jkP, L2.tC, L2.tOp, L2.tUn, L2.jhB, L2.tB, L2.jmp, L2.jmo, L2.ji8, L2.jht, L2.jf7, L2.ji7, L2.jml, L2.tOr, L2.jmm, L2.jhq, L2.tOrV, L2.jhr, L2.jgU, L2.tCB, L2.jej, L2.jjb, L2.jkX, L2.jj8, L2.jmr, L2.jmx, L2.tBM, L2.tyV, L2.jmb, L2.gk, and_self, L2.tSl, L2.jdP, L2.jhI, L2.jkQ, L2.jfL, L2.jl8, L2.jga, and_assoc, L2.rI, L2.rI0, L2.rU, L2.rEq, L2.rNe, L2.jl9, List.map_cons, List.map_nil, List.length_cons, List.length_nil, List.replicate_succ, List.replicate_zero, List.cons_append, List.nil_append, List.append_nil, Nat.reduceSub, Nat.reduceAdd, Nat.sub_self, List.set_cons_zero, List.set_cons_succ, List.getElem?_cons_zero, List.getElem?_cons_succ, Option.some.injEq, exists_eq_left', exists_eq_left, L2.V.int.injEq, L2.V.bl.injEq, L2.V.ref.injEq, L2.V.ty.injEq, List.cons.injEq, exists_and_left, and_true, true_and, reduceCtorEq, false_and, and_false, exists_false, or_false, false_or, L2.jaG, Option.getD_some, Bool.true_eq_false, decide_eq_true_eq, Bool.not_eq_true', decide_eq_false_iff_not, decide_not, Bool.false_eq_true, if_true, if_false, ite_not])
local macro_rules | `(tactic| walk_at "rj") => `(tactic| first | ((dsimp only [L2.jck, L2.jl7, L2.jhs, L2.jj5, L2.jcg, L2.jkP, L2.tC, L2.tOp, L2.tUn, L2.jhB, L2.tB, L2.jmp, L2.jmo, L2.ji8, L2.jht, L2.jf7, L2.ji7, L2.jml, L2.tOr, L2.jmm, L2.jhq, L2.tOrV, L2.jhr, L2.jgU, L2.tCB, L2.jej, L2.jjb, L2.jkX, L2.jj8, L2.jmr, L2.jmx, L2.tBM, L2.tyV, L2.jmb, L2.gk, L2.tSl, L2.jdP, L2.jhI, L2.jkQ, L2.jfL, L2.jl8, L2.jga, L2.rI, L2.rI0, L2.rU, L2.rEq, L2.rNe, L2.jl9, L2.jaG, List.map_cons, List.map_nil, List.length_cons, List.length_nil, List.replicate_succ, List.replicate_zero, List.cons_append, List.nil_append, List.set_cons_zero, List.set_cons_succ, List.getElem?_cons_zero, List.getElem?_cons_succ, Option.getD_some, Nat.reduceSub, Nat.reduceAdd]); (try walk_at "rjs")) | walk_at "rjs")
local macro_rules | `(tactic| walk_at "go") => `(tactic| repeat (first | refine L2.ixT (by assumption) rfl ?_ | refine L2.ixL (by assumption) rfl ?_ | refine And.intro (by assumption) ?_ | walk_at "rj"))
local macro_rules | `(tactic| walk_at "ris") => `(tactic| simp only [L2.jck, L2.jl7, L2.jhs, L2.jj5, L2.jcg, L2.jkP, L2.tC, L2.tOp, L2.tUn, L2.jhB, L2.tB, L2.jmp, L2.jmo, L2.ji8, L2.jht, L2.jf7, L2.ji7, L2.jml, L2.tOr, L2.jmm, L2.jhq, L2.tOrV, L2.jhr, L2.jgU, L2.tCB, L2.jej, L2.jjb, L2.jkX, L2.jj8, L2.jmr, L2.jmx, L2.tBM, L2.tyV, L2.jmb, L2.gk, and_self, L2.tSl, L2.jdP, L2.jhI, L2.jkQ, L2.jfL, L2.jl8, L2.jga, and_assoc, L2.rI, L2.rI0, L2.rU, L2.rEq, L2.rNe, L2.jl9, List.map_cons, List.map_nil, List.length_cons, List.length_nil, List.replicate_succ, List.replicate_zero, List.cons_append, List.nil_append, List.append_nil, Nat.reduceSub, Nat.reduceAdd, Nat.sub_self, List.set_cons_zero, List.set_cons_succ, List.getElem?_cons_zero, List.getElem?_cons_succ, Option.some.injEq, exists_eq_left', exists_eq_left, L2.V.int.injEq, L2.V.bl.injEq, L2.V.ref.injEq, L2.V.ty.injEq, List.cons.injEq, exists_and_left, and_true, true_and, reduceCtorEq, false_and, and_false, exists_false, or_false, false_or, L2.jaG, Option.getD_some, Bool.true_eq_false, decide_eq_true_eq, Bool.not_eq_true', decide_eq_false_iff_not, decide_not, Bool.false_eq_true, if_true, if_false, ite_not, L2.jhZ, L2.jh0, L2.jkf, L2.jkg, L2.jgf, L2.jgg, L2.jh1, L2.jh2, L2.jkh, L2.jh5, L2.jj7, L2.V.str.injEq, L2.jgj, L2.jeP, L2.jgk, L2.jkj])
local macro_rules | `(tactic| walk_at "ri") => `(tactic| first | ((dsimp only [L2.jck, L2.jl7, L2.jhs, L2.jj5, L2.jcg, L2.jkP, L2.tC, L2.tOp, L2.tUn, L2.jhB, L2.tB, L2.jmp, L2.jmo, L2.ji8, L2.jht, L2.jf7, L2.ji7, L2.jml, L2.tOr, L2.jmm, L2.jhq, L2.tOrV, L2.jhr, L2.jgU, L2.tCB, L2.jej, L2.jjb, L2.jkX, L2.jj8, L2.jmr, L2.jmx, L2.tBM, L2.tyV, L2.jmb, L2.gk, L2.tSl, L2.jdP, L2.jhI, L2.jkQ, L2.jfL, L2.jl8, L2.jga, L2.rI, L2.rI0, L2.rU, L2.rEq, L2.rNe, L2.jl9, L2.jaG, L2.jhZ, L2.jh0, L2.jkf, L2.jkg, L2.jgf, L2.jgg, L2.jh1, L2.jh2, L2.jkh, L2.jh5, L2.jj7, L2.jgj, L2.jeP, L2.jgk, L2.jkj, List.map_cons, List.map_nil, List.length_cons, List.length_nil, List.replicate_succ, List.replicate_zero, List.cons_append, List.nil_append, List.set_cons_zero, List.set_cons_succ, List.getElem?_cons_zero, List.getElem?_cons_succ, Option.getD_some, Nat.reduceSub, Nat.reduceAdd]); (try walk_at "ris")) | walk_at "ris")
local macro_rules | `(tactic| walk_at "sd") => `(tactic| first | assumption | exact L2.Fit.o (by omega) (by omega) | (show L2.CPow _ _; exact ⟨by decide, by decide, by decide⟩) | decide)
local macro_rules | `(tactic| walk_at "gf") => `(tactic| repeat (first | ((with_reducible apply L2.ixT); assumption; rfl) | ((with_reducible apply L2.ixL); assumption; rfl) | ((with_reducible apply L2.FoR.lst); assumption) | ((with_reducible apply L2.FoR.tup); assumption) | ((with_reducible apply L2.FoR.len); assumption) | ((with_reducible apply L2.FoR.lenT); assumption) | ((with_reducible apply And.intro); (walk_at "sd")) | walk_at "ri"))
local macro_rules | `(tactic| walk_at "sc") => `(tactic| exact ⟨rfl, rfl, rfl, by decide +kernel, rfl, by decide +kernel, by decide +kernel⟩)
local macro_rules | `(tactic| walk_at "rd") => `(tactic| try walk_at "rj")
local macro_rules | `(tactic| walk_at "rf") => `(tactic| try walk_at "ri")
namespace My
open PySem L2 PyProof.Rows
def top (i:Nat):Stmt:=PySem.Challenge.pw_boardsight_k39_a_tree_of_one.main.body.getD i (.Pass ⟨0,0,0,0⟩)
abbrev jdZ:Stmt:=top 11
abbrev jbn:Stmt:=top 13
abbrev jaY:Stmt:=top 14
abbrev jd0:Stmt:=top 15
abbrev jb3:Stmt:=top 16
abbrev jbg:Stmt:=top 18
abbrev jbL:Stmt:=top 19
abbrev jcn:Stmt:=top 20
abbrev jdq:Stmt:=top 21
abbrev jd1:Stmt:=top 22
abbrev jco:Stmt:=top 24
abbrev ja8:Stmt:=top 25
abbrev jdr:Stmt:=top 26
abbrev jb4:Stmt:=top 27
abbrev jbz:Stmt:=top 28
abbrev jb5:Stmt:=top 29
abbrev jd2:Stmt:=top 30
abbrev jeS:Stmt:=top 34
abbrev jc1:Stmt:=top 36
abbrev jbM:Stmt:=top 37
abbrev jc2:Stmt:=top 38
abbrev jcp:Stmt:=top 39
abbrev jds:Stmt:=top 40
abbrev jeT:Stmt:=top 44
abbrev jbH:Stmt:=top 46
abbrev jdt:Stmt:=top 47
abbrev jbt:Stmt:=top 41
abbrev jbA:Stmt:=top 49
abbrev jbB:Stmt:=top 50
abbrev jbq:Stmt:=top 51
abbrev jbo:Stmt:=top 48
abbrev jbN:Stmt:=top 53
abbrev jcq:Stmt:=top 54
abbrev jc3:Stmt:=top 55
abbrev jbO:Stmt:=top 56
abbrev jbr:Stmt:=top 57
abbrev jbU:Stmt:=top 58
abbrev jaU:Stmt:=top 59
abbrev jc4:Stmt:=top 60
abbrev ja4:Stmt:=top 61
abbrev jdu:Stmt:=top 62
abbrev jb6:Stmt:=top 63
abbrev jbP:Stmt:=top 64
abbrev jaD:Stmt:=top 65
abbrev jcr:Stmt:=top 66
abbrev ja9:Stmt:=top 67
abbrev ja5:Stmt:=top 68
abbrev jaV:Stmt:=top 69
abbrev jbQ:Stmt:=top 70
abbrev jeU:Stmt:=top 71
def Small (i:Int):Prop:=i.natAbs<2^1990
theorem Small.neg {i:Int} (h:Small i):Small (-i):=by unfold Small at *;rw[xb3];exact h
theorem Small.ite {c:Prop} [Decidable c] {i j:Int} (h:Small i) (h':Small j):Small (if c then i else j):=by split<;>assumption
theorem Small.bd {i:Int} (h:Small i):Bd 1990 i:=h
theorem Small.of {i:Int} (h1:-1606938044258990275541962092341162602522202993782792835301376<i) (h2:i<1606938044258990275541962092341162602522202993782792835301376):Small i:=(Bd.of h1 h2).mono
theorem Small.div {i g:Int} (h:Small i):Small (i / g):=xa1 (xbu i g) h
variable {ns:List Int}
theorem jgu (h:∀n∈ns,Small n):Small (gl ns):=by
 by_cases c:∃n∈ns,n≠0
 ·obtain⟨n,hn,h0⟩:=c;have z:=xbN.mpr (jaP hn);exact xa1 (Nat.le_of_dvd (by omega) z) (h n hn)
 ·have z:(0:Int) ∣ gl ns:=jeu fun n hn=>by
   have:n=0:=xap fun q=>c ⟨n,hn,q⟩;rw[this];exact xb0 0
  rw[Int.zero_dvd.mp z];exact Nat.two_pow_pos _
variable {H H' J H1:Hp}
theorem Same.keep {p:Addr} {o:HO} (h:Same H H') (n:H p=none):Same H (upd H' p o):=fun b u q=>by rw[jaA (jaz q n)];exact h b u q
variable {n i f j:Nat}
theorem jgv {v:V} (h:(ns.map V.int)[i]?=some v):∃z,v=V.int z/\ns[i]?=some z:=by
 rw[xag] at h;cases e:ns[i]? with
 | none=>rw[e] at h;cases h
 | some z=>rw[e] at h;exact⟨z,(Option.some.inj h).symm,rfl⟩
def spGd:Sp:=fun vs H Q _=>∃a b:Int,vs=[.int a,.int b]/\Small a/\Small b/\Q (.int (Int.gcd a b:Nat)) H
def jjx:Sp:=fun vs H Q _=>∃(a:Addr) (ns:List Int),vs=[.ref a]/\H a=some (.tup (ns.map V.int))/\ns.length<=10/\(∀n∈ns,Small n)/\gl ns≠0 /\
 ∀(r:Addr) (H':Hp),Same H H'->H' r=some (.tup ((ns.map (· / gl ns)).map V.int))->Q (.ref r) H'
def jjy (K:PySem.W.Frag):Sp:=fun vs H Q _=>∃(a:Addr) (ns:List Int),vs=[.ref a]/\SqL K H a (ns.map V.int)/\ns.length<=63/\∀H',Q (.bl true) H'
structure Tx (K:PySem.W.Frag) (mg:Str->Option Value) (t1 t2:Tok):Prop where
 m_sum:mg "sum"=none
 m_dict:mg "dict"=none
 m_all:mg "all"=none
 m_isinstance:mg "isinstance"=none
 m_bool:mg "bool"=none
 m_int:mg "int"=none
 m_abs:mg "abs"=none
 m_max:mg "max"=none
 m_min:mg "min"=none
 m_len:mg "len"=none
 m_range:mg "range"=none
 m_tuple:mg "tuple"=none
 m_list:mg "list"=none
 m_reversed:mg "reversed"=none
 m_enumerate:mg "enumerate"=none
 m_SHORT_BITS:mg "SHORT_BITS"=some (.int 2000 t1)
 m_MOST_CORNERS:mg "MOST_CORNERS"=some (.int 8 t2)
theorem Tx.r_SHORT_BITS {K:PySem.W.Frag} {mg:Str->Option Value} {t1 t2:Tok} (_:Tx K mg t1 t2):RelV (.int 2000) (.int 2000 t1):=⟨_,rfl⟩
theorem Tx.r_MOST_CORNERS {K:PySem.W.Frag} {mg:Str->Option Value} {t1 t2:Tok} (_:Tx K mg t1 t2):RelV (.int 8) (.int 8 t2):=⟨_,rfl⟩
def low (ns:List Int):List Int:=ns.map (· / gl ns)
def Sm2 (i:Int):Prop:=i.natAbs<2^650
theorem Sm2.bd {i:Int} (h:Sm2 i):Bd 1990 i:=Bd.mono (n:=650) h
theorem Sm2.of {i:Int} (h1:-1606938044258990275541962092341162602522202993782792835301376<i) (h2:i<1606938044258990275541962092341162602522202993782792835301376):Sm2 i:=(Bd.of h1 h2).mono
theorem Sm2.div {i g:Int} (h:Sm2 i):Sm2 (i / g):=xa1 (xbu i g) h
structure Pt where
 x:Int
 y:Int
 z:Int
 w:Int
def Pt.sm (p:Pt):Prop:=Sm2 p.x/\Sm2 p.y/\Sm2 p.z/\Sm2 p.w
def Is4 (H:Hp) (r:Addr) (p:Pt):Prop:=H r=some (.tup [.int p.x,.int p.y,.int p.z,.int p.w])/\p.sm
variable {r L S fN SE:Addr}
variable {p:Pt}
theorem Is4.keep (h:Is4 H r p) (s:Same H H'):Is4 H' r p:=⟨s _ _ h.1,h.2⟩
theorem Is4.sq {K:PySem.W.Frag} (h:Is4 H r p):SqT K H r [.int p.x,.int p.y,.int p.z,.int p.w]:=SqT.of h.1
theorem Pt.sm.fx (h:p.sm):Fit p.x:=h.1.bd.fit
theorem Pt.sm.fy (h:p.sm):Fit p.y:=h.2.1.bd.fit
theorem Pt.sm.fz (h:p.sm):Fit p.z:=h.2.2.1.bd.fit
theorem Pt.sm.fw (h:p.sm):Fit p.w:=h.2.2.2.bd.fit
def wo (k:Int) (p:Pt):List Int:=if k=0 then [p.y,p.z,p.w] else if k=1 then [p.x,p.z,p.w] else if k=2 then [p.x,p.y,p.w] else [p.x,p.y,p.z]
def jbF (a b c x y z u v w:Int):Int:=(b*z-c*y)*u+(c*x-a*z)*v+(a*y-b*x)*w
def detL:List Int->List Int->List Int->Int
 | [a,b,c],[x,y,z],[u,v,w]=>jbF a b c x y z u v w
 | _,_,_=>0
def jav (k:Int) (p q r:Pt):Int:=detL (wo k p) (wo k q) (wo k r)
def inl (p q r:Pt):Bool:=decide (jav 0 p q r=0/\jav 1 p q r=0/\jav 2 p q r=0)
def Tup3 (H:Hp) (r:Addr) (a b c:Int):Prop:=H r=some (.tup [.int a,.int b,.int c])/\Sm2 a/\Sm2 b/\Sm2 c
def jif:Sp:=fun vs H Q _=>∃(r p:Addr) (a b c x y z:Int),vs=[.ref r,.ref p]/\Tup3 H r a b c/\Tup3 H p x y z /\
 ∀(t:Addr) (H':Hp),Same H H'->H' t=some (.tup [.int (b*z-c*y),.int (c*x-a*z),.int (a*y-b*x)])->Q (.ref t) H'
def jmS:Sp:=fun vs H Q _=>∃(r p s:Addr) (a b c x y z u v w:Int),vs=[.ref r,.ref p,.ref s]/\Tup3 H r a b c/\Tup3 H p x y z/\Tup3 H s u v w/\∀H':Hp,Same H H'->Q (.int (jbF a b c x y z u v w)) H'
def jfw:Sp:=fun vs H Q _=>∃(r:Addr) (k:Int) (p:Pt),vs=[.ref r,.int k]/\Is4 H r p/\0<=k/\k<=3/\∀(t:Addr) (H':Hp),Same H H'->H' t=some (.tup ((wo k p).map V.int))->Q (.ref t) H'
def jeV:Sp:=fun vs H Q _=>∃(r s t:Addr) (k:Int) (p q o:Pt),vs=[.ref r,.ref s,.ref t,.int k]/\Is4 H r p/\Is4 H s q/\Is4 H t o/\0<=k/\k<=3/\∀H':Hp,Same H H'->Q (.int (jav k p q o)) H'
def jkl:Sp:=fun vs H Q _=>∃(r s t:Addr) (p q o:Pt),vs=[.ref r,.ref s,.ref t]/\Is4 H r p/\Is4 H s q/\Is4 H t o/\∀H':Hp,Same H H'->Q (.bl (inl p q o)) H'
def jgw:Sp:=fun vs H Q _=>∃(r:Addr) (ns:List Int),vs=[.ref r]/\H r=some (.tup (ns.map V.int))/\ns.length<=10/\∀(t:Addr) (H':Hp),Same H H'->H' t=some (.tup ((ns.map fun n=>-n).map V.int))->Q (.ref t) H'
def plb (a b c:Int):Bool:=if a≠0 then decide (0<a) else if b≠0 then decide (0<b) else if c≠0 then decide (0<c) else false
def jig:Sp:=fun vs H Q _=>∃(r:Addr) (a b c d:Int),vs=[.ref r]/\H r=some (.tup [.int a,.int b,.int c,.int d])/\∀H':Hp,Same H H'->Q (.bl (plb a b c)) H'
def rgh (p o u:Pt):List Int:=[jav 0 p o u,-jav 1 p o u,jav 2 p o u,jav 3 p o u]
def jih:Sp:=fun vs H Q _=>∃(r e t:Addr) (p o u:Pt),vs=[.ref r,.ref e,.ref t]/\Is4 H r p/\Is4 H e o/\Is4 H t u/\∀(g:Addr) (H':Hp),Same H H'->H' g=some (.tup ((rgh p o u).map V.int))->Q (.ref g) H'
def pln (ns:List Int):List Int:=match low ns with
 | [a,b,c,d]=>if plb a b c=true then [a,b,c,d] else [-a,-b,-c,-d]
 | l=>l
def jbC (p o u:Pt):Prop:=jav 0 p o u=0/\jav 1 p o u=0/\jav 2 p o u=0
def hgt (a b c d:Int) (p:Pt):Int:=a*p.x+b*p.y+c*p.z-d*p.w
def sgn (n:Int):Int:=if n>0 then 1 else if n<0 then -1 else 0
def jii:Sp:=fun vs H Q _=>∃n:Int,vs=[.int n]/\Q (.int (sgn n)) H
def sf (x y z w x' y' z' w':Int):Bool:=if x*w'≠x'*w then decide (x*w'<x'*w) else if y*w'≠y'*w then decide (y*w'<y'*w) else if z*w'≠z'*w then decide (z*w'<z'*w) else false
def sfp (p o:Pt):Bool:=sf p.x p.y p.z p.w o.x o.y o.z o.w
def jij:Sp:=fun vs H Q _=>∃(r e:Addr) (p o:Pt),vs=[.ref r,.ref e]/\Is4 H r p/\Is4 H e o/\Q (.bl (sfp p o)) H
def jik:Sp:=fun vs H Q _=>∃a b c d:Int,vs=[.int a,.int b,.int c,.int d]/\Small a/\Small b/\Small c/\Small d/\¬(a=0/\b=0/\c=0)/\∀(r:Addr) (H':Hp),Same H H'->H' r=some (.tup ((low [a,b,c,d]).map V.int))->Q (.ref r) H'
def jd3:Sp:=fun vs H Q _=>∃(r e t:Addr) (p o u:Pt),vs=[.ref r,.ref e,.ref t]/\Is4 H r p/\Is4 H e o/\Is4 H t u/\¬jbC p o u/\∀(g:Addr) (H':Hp),Same H H'->H' g=some (.tup ((pln (rgh p o u)).map V.int))->Q (.ref g) H'
def spHt:Sp:=fun vs H Q _=>∃(r e:Addr) (a b c d:Int) (p:Pt),vs=[.ref r,.ref e]/\H r=some (.tup [.int a,.int b,.int c,.int d])/\Small a/\Small b/\Small c/\Small d/\Is4 H e p/\Q (.int (hgt a b c d p)) H
def jev:Sp:=fun vs H Q _=>∃(r e:Addr) (a b c d:Int) (p:Pt),vs=[.ref r,.ref e]/\H r=some (.tup [.int a,.int b,.int c,.int d])/\Small a/\Small b/\Small c/\Small d/\Is4 H e p/\Q (.int (sgn (hgt a b c d p))) H
inductive Sps (H:Hp):List Addr->List Pt->Prop
 | nil:Sps H [] []
 | cons {r:Addr} {p:Pt} {rs:List Addr} {ps:List Pt} (h:Is4 H r p) (t:Sps H rs ps):Sps H (r::rs) (p::ps)
variable {ps qs l:List Pt}
theorem Sps.keep {rs:List Addr} (h:Sps H rs ps) (s:SameT H H'):Sps H' rs ps:=by
 induction h with
 | nil=>exact .nil
 | cons h _ ih=>exact .cons ⟨s _ _ h.1,h.2⟩ ih
theorem Sps.len {rs:List Addr} (h:Sps H rs ps):rs.length=ps.length:=by
 induction h with
 | nil=>rfl
 | cons h _ ih=>rw[xao,xao,ih]
variable {rs':List Addr}
theorem Sps.app {rs:List Addr} {ps':List Pt} (h:Sps H rs ps) (k:Sps H rs' ps'):Sps H (rs++rs') (ps++ps'):=by
 induction h with
 | nil=>exact k
 | cons h _ ih=>exact .cons h ih
theorem Sps.rev {rs:List Addr} (h:Sps H rs ps):Sps H rs.reverse ps.reverse:=by
  induction h with
  | nil=>exact .nil
  | cons h _ ih =>
    rw[xa5,xa5];exact ih.app (.cons h .nil)
theorem Sps.drop {rs:List Addr} (h:Sps H rs ps):∀n,Sps H (rs.drop n) (ps.drop n):=by
  induction h with
  | nil=>intro n;rw[List.drop_nil,List.drop_nil];exact .nil
  | cons h k ih =>
    intro n;cases n with
    | zero=>exact .cons h k
    | succ n=>exact ih n
theorem Sps.take {rs:List Addr} (h:Sps H rs ps):∀n,Sps H (rs.take n) (ps.take n):=by
  induction h with
  | nil=>intro n;rw[List.take_nil,List.take_nil];exact .nil
  | cons h k ih =>
    intro n;cases n with
    | zero=>exact .nil
    | succ n=>exact .cons h (ih n)
def p0:Pt:=⟨0,0,0,0⟩
def pt (ps:List Pt) (i:Nat):Pt:=ps.getD i p0
def ad (rs:List Addr) (i:Nat):Addr:=rs.getD i 0
theorem Sps.get {rs:List Addr} (h:Sps H rs ps):∀{i:Nat},i<ps.length->(rs.map V.ref)[i]?=some (.ref (ad rs i))/\Is4 H (ad rs i) (pt ps i):=by
  induction h with
  | nil=>intro i hi;exact absurd hi (by simp)
  | cons h k ih =>
    intro i hi;cases i with
    | zero=>exact⟨rfl,h⟩
    | succ i=>exact ih (by simpa using hi)
theorem jda {α:Type} {xs:List α} {v:α} (hn:xs.length=n+1) (h:xs[n]?=some v):atI xs (-1)=some v:=by
 have e:xs=xs.take n++[v]:=by
  have z:=xa6 (l:=xs) (i:=n);rw[h,<- hn,xaT] at z;exact z
 rw[e];exact jjd _ _
variable {xs ys:List V}
theorem jgx :jeq xs (some (f:Int)) none=xs.drop f:=by
 unfold jeq;rw[HT.sIx_nat,HT.sIx_none];by_cases h:f<=xs.length
 ·rw[Nat.min_eq_left h,xaV (by rw[xaz];exact xad _)]
 ·rw[Nat.min_eq_right (by omega),xbF (xad _),xbF (by omega),List.take_nil]
theorem jdH :jeq xs none (some (f:Int))=xs.take f:=by
 unfold jeq;rw[HT.sIx_nat,HT.sIx_none];by_cases h:f<=xs.length
 ·rw[Nat.min_eq_left h];rfl
 ·rw[Nat.min_eq_right (by omega)];show xs.take (xs.length-0)=_;rw[Nat.sub_zero,xaT,xaV (by omega)]
def jil (ps:List Pt):Nat->Nat
 | 0=>0
 | i+1=>if sfp (pt ps (i+1)) (pt ps (jil ps i))=true then i+1 else jil ps i
theorem jeW (ps:List Pt):∀i,jil ps i<=i
  | 0=>xad _
  | i + 1 => by
    have:=jeW ps i;unfold jil;split<;>omega
def rot {α:Type} (f:Nat) (l:List α):List α:=l.drop f++l.take f
def turn {α:Type} (b:Bool) (l:List α):List α:=if b=true then l.take 1++(l.drop 1).reverse else l
def fF (ps:List Pt):Nat:=jil ps (ps.length-1)
def fB (ps:List Pt):Bool:=sfp (pt (rot (fF ps) ps) (ps.length-1)) (pt (rot (fF ps) ps) 1)
def frm {α:Type} (ps:List Pt) (l:List α):List α:=turn (fB ps) (rot (fF ps) l)
theorem Sps.rot {rs:List Addr} (h:Sps H rs ps) (f:Nat):Sps H (rot f rs) (rot f ps):=(h.drop f).app (h.take f)
theorem Sps.turn {rs:List Addr} (h:Sps H rs ps) (b:Bool):Sps H (turn b rs) (turn b ps):=by
 unfold My.turn;cases b
 ·exact h
 ·exact (h.take 1).app (h.drop 1).rev
theorem Sps.frm {rs:List Addr} (h:Sps H rs qs):Sps H (frm ps rs) (frm ps qs):=(h.rot _).turn _
def Cor (H:Hp) (l:Addr) (rs:List Addr) (ps:List Pt):Prop:=H l=some (.lst (rs.map V.ref))/\Sps H rs ps
theorem Cor.keep {l:Addr} {rs:List Addr} (h:Cor H l rs ps) (s:Same H H'):Cor H' l rs ps:=⟨s _ _ h.1,h.2.keep s.t⟩
def jgy:Sp:=fun vs H Q _=>∃(l:Addr) (rs:List Addr) (ps:List Pt),vs=[.ref l]/\Cor H l rs ps/\3<=ps.length/\ps.length<=17 /\
 ∀(t:Addr) (H':Hp),Same H H'->H' t=some (.tup ((frm ps rs).map V.ref))->Q (.ref t) H'
def jkm:Sp:=fun vs H Q _=>∃(r:Addr) (a b c d:Int),vs=[.ref r]/\H r=some (.tup [.int a,.int b,.int c,.int d])/\¬(a=0/\b=0/\c=0)/\∀k:Int,(k=0/\a≠0)\/(k=1/\a=0/\b≠0)\/(k=2/\a=0/\b=0/\c≠0)->Q (.int k) H
def jkn:Sp:=fun vs H Q _=>∃(g r e t:Addr) (k:Int) (p o u:Pt),vs=[.ref g,.ref t,.int k]/\H g=some (.tup [.ref r,.ref e])/\Is4 H r p/\Is4 H e o/\Is4 H t u/\0<=k/\k<=3/\∀H':Hp,Same H H'->Q (.int (sgn (jav k p o u))) H'
def Rnd (k:Int) (ps:List Pt):Prop:=∀i j,i<ps.length->1<=j->j<ps.length-1->sgn (jav k (pt ps ((i+(ps.length-1)) % ps.length)) (pt ps i) (pt ps ((i+j) % ps.length)))=sgn (jav k (pt ps 0) (pt ps 1) (pt ps 2))
def jmT:Sp:=fun vs H Q _=>∃(l:Addr) (k:Int) (rs:List Addr) (ps:List Pt),vs=[.ref l,.int k]/\Cor H l rs ps/\3<=ps.length/\ps.length<=8/\0<=k/\k<=2/\Rnd k ps/\∀H':Hp,Same H H'->Q (.bl true) H'
structure Brd (ps:List Pt):Prop where
 n3:3<=ps.length
 n8:ps.length<=8
 na:¬jbC (pt ps 0) (pt ps 1) (pt ps 2)
 flat:∀i,i<ps.length->hgt (jav 0 (pt ps 0) (pt ps 1) (pt ps 2)) (-jav 1 (pt ps 0) (pt ps 1) (pt ps 2)) (jav 2 (pt ps 0) (pt ps 1) (pt ps 2)) (jav 3 (pt ps 0) (pt ps 1) (pt ps 2)) (pt ps i)=0
 rnd:∀k:Int,0<=k->k<=2->jav k (pt ps 0) (pt ps 1) (pt ps 2)≠0->Rnd k ps
def jim:Sp:=fun vs H Q _=>∃(l:Addr) (rs:List Addr) (ps:List Pt),vs=[.ref l]/\Cor H l rs ps/\Brd ps/\∀(t:Addr) (H':Hp),Same H H'->H' t=some (.tup ((frm ps rs).map V.ref))->Q (.ref t) H'
section
variable {P:Program} {w:World} {K:PySem.W.Frag} {mg:Str->Option Value} {base:Heap} {t1 t2:Tok}
theorem jew:FnScope ["number"] ["number"] (jad jdZ):=by walk_at "sc"
theorem jbD:FnScope ["one","other","great","small","steps","rest"] ["one","other"] (jad jbn):=by walk_at "sc"
theorem jbI:FnScope ["numbers","divisor","number"] ["numbers"] (jad jaY):=by walk_at "sc"
theorem jex:FnScope ["one","other"] ["one","other"] (jad jd0):=by walk_at "sc"
theorem jcQ:FnScope ["one","other","third","arrow"] ["one","other","third"] (jad jb3):=by walk_at "sc"
theorem jdz:FnScope ["x","y","z","w"] ["x","y","z","w"] (jad jbg):=by walk_at "sc"
theorem jcs:FnScope ["one","other","k","mine","yours"] ["one","other"] (jad jbL):=by walk_at "sc"
theorem jey:FnScope ["spot","place"] ["spot","place"] (jad jcn):=by walk_at "sc"
theorem jd4:FnScope ["one","other","third","place"] ["one","other","third","place"] (jad jdq):=by walk_at "sc"
theorem jez:FnScope ["one","other","third","place"] ["one","other","third"] (jad jd1):=by walk_at "sc"
theorem jdb:FnScope ["a","b","c","d"] ["a","b","c","d"] (jad jco):=by walk_at "sc"
theorem jct:FnScope ["plane"] ["plane"] (jad ja8):=by walk_at "sc"
theorem jd5:FnScope ["plane","number"] ["plane"] (jad jdr):=by walk_at "sc"
theorem jcR:FnScope ["one","other","third"] ["one","other","third"] (jad jb4):=by walk_at "sc"
theorem jcc:FnScope ["one","other","third","rough","plane"] ["one","other","third"] (jad jbz):=by walk_at "sc"
theorem jcS:FnScope ["plane","spot"] ["plane","spot"] (jad jb5):=by walk_at "sc"
theorem jeA:FnScope ["plane","spot"] ["plane","spot"] (jad jd2):=by walk_at "sc"
theorem jfx:FnScope ["corners","first","k","ring"] ["corners"] (jad jeS):=by walk_at "sc"
theorem jdA:FnScope ["plane","axis"] ["plane"] (jad jc1):=by walk_at "sc"
theorem jcu:FnScope ["edge","spot","axis"] ["edge","spot","axis"] (jad jbM):=by walk_at "sc"
theorem jdB:FnScope ["corners","axis","turn","many","k","edge","ahead"] ["corners","axis"] (jad jc2):=by walk_at "sc"
theorem jdc:FnScope ["corners","plane","corner"] ["corners"] (jad jcp):=by walk_at "sc"
theorem jd6:FnScope ["board"] ["board"] (jad jds):=by walk_at "sc"
theorem jin:FnScope ["board","plane","sides","sided","below","above"] ["board","plane"] (jad jeT):=by walk_at "sc"
theorem jb7:FnScope ["tree","number","board","own","parts","below","above"] ["tree","number","board","own"] (jad jbH):=by walk_at "sc"
theorem jd7:FnScope ["tree","piece"] ["tree","piece"] (jad jdt):=by walk_at "sc"
theorem jbV:FnScope ["boards","spot","number","board"] ["boards","spot"] (jad jbt):=by walk_at "sc"
theorem jcv:FnScope ["tree"] ["tree"] (jad jbA):=by walk_at "sc"
theorem jcw:FnScope ["tree","spot","below","above"] ["tree","spot"] (jad jbB):=by walk_at "sc"
theorem jdd:FnScope ["tree","spot","pieces","place"] ["tree","spot"] (jad jbq):=by walk_at "sc"
theorem jeB:FnScope ["some","row","boards","numbers","tree","number"] ["some","row"] (jad jbo):=by walk_at "sc"
theorem jcx:FnScope ["script","k","cell"] ["script","k"] (jad jbN):=by walk_at "sc"
theorem jde:FnScope ["cell","left"] ["cell"] (jad jcq):=by walk_at "sc"
theorem jdC:FnScope ["state","many","found"] ["state","many"] (jad jc3):=by walk_at "sc"
theorem jcy:FnScope ["one","other"] ["one","other"] (jad jbO):=by walk_at "sc"
theorem jdf:FnScope ["state","span"] ["state","span"] (jad jbr):=by walk_at "sc"
theorem jd8:FnScope ["state","made","way","span","base","one","other","shape","across","place"] ["state","made"] (jad jbU):=by walk_at "sc"
theorem jcz:FnScope ["raw","base","one","other","shape","rows","found","i","j","place"] ["raw"] (jad jaU):=by walk_at "sc"
theorem jdD:FnScope ["cells","raws","some","used","cell","state","number"] ["cells"] (jad jc4):=by walk_at "sc"
theorem jcd:FnScope ["raw","i","j","base","one","other","shape","found"] ["raw","i","j"] (jad ja4):=by walk_at "sc"
theorem jd9:FnScope ["state","raws","raw","i","x","y","z"] ["state","raws"] (jad jdu):=by walk_at "sc"
theorem jcT:FnScope ["plane","spot","found"] ["plane","spot"] (jad jb6):=by walk_at "sc"
theorem jcA:FnScope ["one","other"] ["one","other"] (jad jbP):=by walk_at "sc"
theorem jdg:FnScope ["corners","a","b","c","one","other","upright","found","by"] ["corners"] (jad jaD):=by walk_at "sc"
theorem jdh:FnScope ["found"] ["found"] (jad jcr):=by walk_at "sc"
theorem jcB:FnScope ["found"] ["found"] (jad ja9):=by walk_at "sc"
theorem jce:FnScope ["found"] ["found"] (jad ja5):=by walk_at "sc"
theorem jbE:FnScope ["found"] ["found"] (jad jaV):=by walk_at "sc"
theorem jcC:FnScope ["tree","spot","error","told","e"] ["tree","spot"] (jad jbQ):=by walk_at "sc"
theorem jko:FnScope ["script","some","raws","number","board","plane","due","handed","row","tree","told","cell","spot","wanted","found"] ["script"] (jad jeU):=by walk_at "sc"
theorem ok_gd (T:Tx K mg t1 t2) (F:At K mg "greatest_divisor" jbn ["one","other"] []):jam P w K mg base CX0 1 "greatest_divisor" ["one","other"] [] spGd:=by
 refine F.ok jbD (fun vs H Q E h=>?_) (fun f cdv A outer s H vs Q E hr h=>?_)
 ·obtain⟨a,b,rfl,_⟩:=h;rfl
 obtain⟨a,b,rfl,ha,hb,q⟩:=h;have S:=jbD;refine⟨_,(jag (jat (i:=2) S.nd rfl (Or.inl rfl) (jaB (jhC rfl) rfl T.m_max boot_max (jaa (jaB jcI rfl T.m_abs boot_abs (jaa (pv 0) jac jae)) (jaa (jaB jcI rfl T.m_abs boot_abs (jaa (pv 1) jac jae)) jac jaN) jaN)))
  (jag (jat (i:=3) S.nd rfl (Or.inl rfl) (jaB (jhD rfl) rfl T.m_min boot_min (jaa (jaB jcI rfl T.m_abs boot_abs (jaa (pv 0) jac jae)) (jaa (jaB jcI rfl T.m_abs boot_abs (jaa (pv 1) jac jae)) jac jaN) jaN)))
  (jag (jdG PassesOwn.never (jaq jfM (jkd PySem.F.plainAttrs_int PySem.F.slot_int_bit_length PySem.F.type_int_bit_length jk4 (pv 3)) (jdL rfl T.m_SHORT_BITS T.r_SHORT_BITS) (jay _)) jbv)
  (jag (jdG PassesOwn.never (jaq jdO (pv 3) jab (jay _))
  (jag (jat (i:=5) S.nd rfl (Or.inl rfl) (jar jci (pv 2) (pv 3)))
  (jag (jat (i:=2) S.nd rfl (Or.inl rfl) (pv 3))
  (jai (jat (i:=3) S.nd rfl (Or.inl rfl) (pv 5))))))
  (jai (jap (pv 2))))))),?_⟩
 walk_at "rd";have hg:Int.gcd (if (if b<0 then -b else b)>(if a<0 then -a else a) then (if b<0 then -b else b) else (if a<0 then -a else a)) (if (if b<0 then -b else b)<(if a<0 then -a else a) then (if b<0 then -b else b) else (if a<0 then -a else a))=Int.gcd a b:=(jhd _ _).trans (jlp a b);have hM:0<=(if (if b<0 then -b else b)>(if a<0 then -a else a) then (if b<0 then -b else b) else (if a<0 then -a else a)):=by split<;>split<;>omega
 have hm:0<=(if (if b<0 then -b else b)<(if a<0 then -a else a) then (if b<0 then -b else b) else (if a<0 then -a else a)):=by split<;>split<;>omega
 have hs:Small (if (if b<0 then -b else b)<(if a<0 then -a else a) then (if b<0 then -b else b) else (if a<0 then -a else a)):=by
  exact Small.ite (Small.ite hb.neg hb) (Small.ite ha.neg ha)
 generalize (if (if b<0 then -b else b)>(if a<0 then -a else a) then (if b<0 then -b else b) else (if a<0 then -a else a))=M at hg hM |-
 generalize (if (if b<0 then -b else b)<(if a<0 then -a else a) then (if b<0 then -b else b) else (if a<0 then -a else a))=m at hg hm hs |-
 have hz:Builtin.Int.intBits m<=1990:=L2.jdn hs;refine⟨fun _ σ H1=>σ=[some (.int a),some (.int b),some (.int M),some (.int m),none,none]/\H1=H,⟨0,rfl,rfl⟩,?_⟩;rintro _ σ H1 ⟨rfl,rfl⟩;walk_at "rd";rw[if_neg (by omega)];refine⟨fun n σ H2=>H2=H1/\∃(x y:Int) (o:Option V),σ=[some (.int a),some (.int b),some (.int x),some (.int y),none,o]/\0<=x/\0<=y/\Int.gcd x y=Int.gcd a b/\n=y.toNat,⟨_,rfl,M,m,none,rfl,hM,hm,hg,rfl⟩,?_⟩;rintro n σ H2 ⟨rfl,x,y,o,rfl,hx,hy,hgg,rfl⟩;walk_at "rd";by_cases c:y=0
 ·subst c;rw[if_pos rfl];rw[<- hgg,Int.gcd_zero_right] at q;have e2:((x.natAbs:Nat):Int)=x:=by omega
  rw[e2] at q;exact q
 ·rw[if_neg c];have b1:=xbl x c;have b2:=xa2 x (show 0<y by omega);exact⟨fun σ' H'=>σ'=[some (V.int a),some (V.int b),some (V.int y),some (V.int (x % y)),none,some (V.int (x % y))]/\H'=H2,fun σ' H' ⟨h1,h2⟩=>⟨_,by omega,h2,y,x % y,_,h1,by omega,b1,(jjw x y hx).trans hgg,rfl⟩,by omega,rfl,rfl⟩
theorem jmU (T:Tx K mg t1 t2) (F:At K mg "in_lowest_terms" jaY ["numbers"] []) (dP:jam P w K mg base CX0 1 "greatest_divisor" ["one","other"] [] spGd):jam P w K mg base CX0 2 "in_lowest_terms" ["numbers"] [] jjx:=by
 refine F.ok jbI (fun vs H Q E h=>?_) (fun f cdv A outer s H vs Q E hr h=>?_)
 ·obtain⟨a,ns,rfl,_⟩:=h;rfl
 obtain⟨a,ns,rfl,ha,hl,hs,hg,q⟩:=h;have S:=jbI;refine⟨_,(jag (jat (i:=1) S.nd rfl (Or.inr rfl) jab)
  (jag (jbx PassesOwn.never rfl (jdM (pv 0)) (jao (i:=2) S.nd rfl (Or.inl rfl))
  (jag (jat (i:=1) S.nd rfl (Or.inr rfl) (jah dP hr.m rfl jau (jaa (pv 1) (jaa (pv 2) jac jae) jae)))
  (jai (jaQ (jaq jdF (pv 1) jab (jay _))
  (jai (jap (jaJ jbl rfl T.m_tuple boot_tuple (jaa (pv 0) jac jae))))
  jaw))))
  (jai (jap (jaJ jbl rfl T.m_tuple boot_tuple (jaa (jba rfl (N':=["number","divisor"]) (ix:=[1]) ⟨rfl,rfl,by decide +kernel,by decide +kernel,by decide +kernel,(show ∀y:Str × NameKind,y∈_->y.2=NameKind.free->(jad jaY).names.lookup y.1=some .cell\/(jad jaY).names.lookup y.1=some .free from by decide +kernel),(.cons rfl (.inl rfl) rfl .nil)⟩ (jdM (pv 0)) (fun _ _ _ _=>jao (i:=0) (show (["number","divisor"]:List Str).Nodup from by decide +kernel) rfl (Or.inl rfl)) (fun _ _ _ _=>jbe) (fun _ _ _ _=>(jar jeL (pv 0) (pv 1)))) jac jcP)))))),?_⟩
 walk_at "rd";refine⟨_,rfl,a,rfl,⟨_,SqT.of ha⟩,jhw (K:=K) (a:=a) (xs:=ns.map V.int) (fun i σ H2=>H2=H/\∃o:Option V,σ=[some (.ref a),some (.int (gl (ns.take i))),o]) ⟨rfl,none,rfl⟩ (fun i σ H2 _ ⟨h,_⟩=>by rw[h];exact SqT.of ha) ?_ ?_⟩
 ·rintro i v σ H2 hi ⟨rfl,o,rfl⟩;obtain⟨z,rfl,hz⟩:=jgv hi;walk_at "rd";refine⟨_,_,rfl,jgu fun n hn=>hs n (List.mem_of_mem_take hn),hs z (xaw hz),?_⟩;walk_at "rd";rw[<- jfv hz];refine jcK (fun c=>⟨_,.inr ⟨SqT.of ha,?_⟩⟩) fun c=>⟨rfl,_,rfl⟩;have g1:gl ns=1:=jeo c;refine q a H2 (Same.refl _) ?_;rw[g1,jfV];exact ha
 ·rintro σ H2 ⟨rfl,o,rfl⟩;walk_at "rd";have el:(ns.map V.int).length=ns.length:=xaa _;rw[el,xaT];have gp:0<gl ns:=by have:=ja7 ns;omega
  refine⟨_,rfl,a,rfl,⟨_,SqT.of ha⟩,fun acc hacc=>jgd (K:=K) (a:=a) (zs:=ns.map V.int) (fun i xs H3=>Same H2 H3/\H3 acc=some (.lst xs)/\xs=((ns.take i).map (· / gl ns)).map V.int) ⟨Same.new hacc _,jaf,rfl⟩ (fun i xs H3 _ h=>h.1.tup (SqT.of ha)) ?_ ?_⟩
  ·rintro i v xs H3 hi ⟨h1,h2,rfl⟩;obtain⟨z,rfl,hz⟩:=jgv hi;walk_at "rd";have li:=(xaj.mp hz).1;refine⟨gp,(jgu hs).bd.fit,h2,?_,Same.keep h1 hacc,jaf,?_⟩
   ·rw[xaa,xaa,xay];exact jhR (by omega)
   ·rw[xa6,hz,xal,xal];rfl
  ·rintro xs H3 ⟨h1,h2,rfl⟩;rw[el,xaT] at h2;exact⟨acc,rfl,_,.inl ⟨SqL.of h2,fun l hl=>q l _ (h1.trans (Same.new hl _)) jaf⟩⟩
theorem jhe (T:Tx K mg t1 t2) (F:At K mg "crossed" jd0 ["one","other"] []):jam P w K mg base CX0 1 "crossed" ["one","other"] [] jif:=by
 refine F.ok jex (fun vs H Q E h=>?_) (fun f cdv A outer s H vs Q E hr h=>?_)
 ·obtain⟨r,p,a,b,c,x,y,z,rfl,_⟩:=h;rfl
 obtain⟨r,p,a,b,c,x,y,z,rfl,⟨h1,sa,sb,sc⟩,⟨h2,sx,sy,sz⟩,q⟩:=h;have S:=jex;refine⟨_,(jai (jap (jaH (jaa (jar jbh (jar jax (jal jan (pv 0) jab) (jal jan (pv 1) jab)) (jar jax (jal jan (pv 0) jab) (jal jan (pv 1) jab))) (jaa (jar jbh (jar jax (jal jan (pv 0) jab) (jal jan (pv 1) jab)) (jar jax (jal jan (pv 0) jab) (jal jan (pv 1) jab))) (jaa (jar jbh (jar jax (jal jan (pv 0) jab) (jal jan (pv 1) jab)) (jar jax (jal jan (pv 0) jab) (jal jan (pv 1) jab))) jac jbm) jbm) jbm)))),?_⟩;have k1:SqT K H r [.int a,.int b,.int c]:=SqT.of h1;have k2:SqT K H p [.int x,.int y,.int z]:=SqT.of h2;have fa:=sa.bd.fit;have fb:=sb.bd.fit;have fc:=sc.bd.fit;have fx:=sx.bd.fit;have fy:=sy.bd.fit;have fz:=sz.bd.fit;walk_at "rf";walk_at "gf";intro t ht;exact q t _ (Same.new ht _) jaf
theorem jmV (T:Tx K mg t1 t2) (F:At K mg "determinant" jb3 ["one","other","third"] []) (Dm:jam P w K mg base CX0 1 "crossed" ["one","other"] [] jif):jam P w K mg base CX0 2 "determinant" ["one","other","third"] [] jmS:=by
 refine F.ok jcQ (fun vs H Q E h=>?_) (fun f cdv A outer s H vs Q E hr h=>?_)
 ·obtain⟨r,p,e,a,b,c,x,y,z,u,v,o,rfl,_⟩:=h;rfl
 obtain⟨r,p,e,a,b,c,x,y,z,u,v,o,rfl,h1,h2,h3,q⟩:=h;have S:=jcQ;refine⟨_,(jag (jat (i:=3) S.nd rfl (Or.inl rfl) (jah Dm hr.m rfl jau (jaa (pv 0) (jaa (pv 1) jac jae) jae)))
  (jai (jap (jar jbk (jar jbk (jar jax (jal jan (pv 3) jab) (jal jan (pv 2) jab)) (jar jax (jal jan (pv 3) jab) (jal jan (pv 2) jab))) (jar jax (jal jan (pv 3) jab) (jal jan (pv 2) jab)))))),?_⟩
 walk_at "rf";refine⟨r,p,a,b,c,x,y,z,rfl,h1,h2,fun t H1 s1 e1=>?_⟩;have k1:SqT K H1 t _:=SqT.of e1;have k2:SqT K H1 e [.int u,.int v,.int o]:=SqT.of (s1 _ _ h3.1);have fu:=h3.2.1.bd.fit;have fv:=h3.2.2.1.bd.fit;have fo:=h3.2.2.2.bd.fit;have ma:∀{i j k l:Int},Sm2 i->Sm2 j->Sm2 k->Sm2 l->Fit (i*j-k*l):=fun h1 h2 h3 h4=>Bd.fit (n:=1301) (Bd.sub (Bd.mul (n:=650) (m:=650) h1 h2) (Bd.mul (n:=650) (m:=650) h3 h4));have g1:=ma h1.2.2.1 h2.2.2.2 h1.2.2.2 h2.2.2.1;have g2:=ma h1.2.2.2 h2.2.1 h1.2.1 h2.2.2.2;have g3:=ma h1.2.1 h2.2.2.1 h1.2.2.1 h2.2.1;walk_at "gf";exact q _ s1
theorem jhf (T:Tx K mg t1 t2) (F:At K mg "without" jcn ["spot","place"] []):jam P w K mg base CX0 1 "without" ["spot","place"] [] jfw:=by
  refine F.ok jey (fun vs H Q E h=>?_) (fun f cdv A outer s H vs Q E hr h=>?_)
  . obtain⟨r,k,p,rfl,_⟩:=h
    rfl
  obtain⟨r,k,p,rfl,h1,k0,k3,q⟩:=h;have S:=jey;refine⟨_,(jai (jap (jaJ jbl rfl T.m_tuple boot_tuple (jaa (jba rfl (N':=["k","spot","place"]) (ix:=[0,1]) ⟨rfl,rfl,by decide +kernel,by decide +kernel,by decide +kernel,(show ∀y:Str × NameKind,y∈_->y.2=NameKind.free->(jad jcn).names.lookup y.1=some .cell\/(jad jcn).names.lookup y.1=some .free from by decide +kernel),(.cons rfl (.inl rfl) rfl (.cons rfl (.inl rfl) rfl .nil))⟩ (jaX rfl T.m_range (jaa jab jac jaj)) (fun _ _ _ _=>jao (i:=0) (show (["k","spot","place"]:List Str).Nodup from by decide +kernel) rfl (Or.inl rfl)) (fun _ _ _ _=>(jhS (jaq jdO (pv 0) (pv 2) (jay _)))) (fun _ _ _ _=>(jal (jaR (K:=K) rfl) (pv 1) (pv 0)))) jac jcP)))),?_⟩;have k_h1:=h1.sq (K:=K);have e:k=0\/k=1\/k=2\/k=3:=by omega
  walk_at "rf";walk_at "gf";intro acc hacc;refine jk6 (n:=4) (fun i=>.int (match i with | 0=>p.x | 1=>p.y | 2=>p.z | _=>p.w)) (fun i=>!decide ((i:Int)=k)) (by decide) hacc ?_ ?_ ?_
  . intro i H3 R hi s3 hR
    walk_at "rf";have z:=hR H3 (Same.refl _);rw[Int.zero_add];exact z
  . intro i H3 R hi ci s3 hR
    have k1:=s3.tup k_h1
    match i,hi with
    | 0, _ =>
      walk_at "rf";walk_at "gf";exact hR _ (Same.refl _)
    | 1, _ =>
      walk_at "rf";walk_at "gf";exact hR _ (Same.refl _)
    | 2, _ =>
      walk_at "rf";walk_at "gf";exact hR _ (Same.refl _)
    | 3, _ =>
      walk_at "rf";walk_at "gf";exact hR _ (Same.refl _)
  intro H1 s1 e1;refine FoR.tupOf (X:=True) (SqL.of e1) fun t H2 s2 e2=>q t H2 (s1.trans s2) ?_;rw[e2];rcases e with rfl | rfl | rfl | rfl<;>rfl
variable {k a d x y A B:Int}
theorem jio (hp:p.sm) (h:H r=some (.tup ((wo k p).map V.int))):∃a b c,wo k p=[a,b,c]/\Tup3 H r a b c:=by
 by_cases k0:k=0
 ·have e:wo k p=[p.y,p.z,p.w]:=if_pos k0;rw[e] at h;exact⟨_,_,_,e,h,hp.2.1,hp.2.2.1,hp.2.2.2⟩
 by_cases k1:k=1
 ·have e:wo k p=[p.x,p.z,p.w]:=by unfold wo;rw[if_neg k0,if_pos k1]
  rw[e] at h;exact⟨_,_,_,e,h,hp.1,hp.2.2.1,hp.2.2.2⟩
 by_cases k2:k=2
 ·have e:wo k p=[p.x,p.y,p.w]:=by unfold wo;rw[if_neg k0,if_neg k1,if_pos k2]
  rw[e] at h;exact⟨_,_,_,e,h,hp.1,hp.2.1,hp.2.2.2⟩
 have e:wo k p=[p.x,p.y,p.z]:=by unfold wo;rw[if_neg k0,if_neg k1,if_neg k2]
 rw[e] at h;exact⟨_,_,_,e,h,hp.1,hp.2.1,hp.2.2.1⟩
theorem Tup3.keep {b c:Int} (h:Tup3 H r a b c) (s:Same H H'):Tup3 H' r a b c:=⟨s _ _ h.1,h.2⟩
theorem jjz (T:Tx K mg t1 t2) (F:At K mg "minor_of" jdq ["one","other","third","place"] []) (dI:jam P w K mg base CX0 1 "without" ["spot","place"] [] jfw) (Da:jam P w K mg base CX0 2 "determinant" ["one","other","third"] [] jmS):jam P w K mg base CX0 3 "minor_of" ["one","other","third","place"] [] jeV:=by
 refine F.ok jd4 (fun vs H Q E h=>?_) (fun f cdv A outer s H vs Q E hr h=>?_)
 ·obtain⟨r,e,t,k,p,o,u,rfl,_⟩:=h;rfl
 obtain⟨r,e,t,k,p,o,u,rfl,h1,h2,h3,k0,k3,q⟩:=h;have S:=jd4;refine⟨_,(jai (jap (jah Da hr.m rfl jau (jaa (jah dI hr.m rfl jau (jaa (pv 0) (jaa (pv 3) jac jae) jae)) (jaa (jah dI hr.m rfl jau (jaa (pv 1) (jaa (pv 3) jac jae) jae)) (jaa (jah dI hr.m rfl jau (jaa (pv 2) (jaa (pv 3) jac jae) jae)) jac jaN) jaN) jaN)))),?_⟩;walk_at "rf";refine⟨r,k,p,rfl,h1,k0,k3,fun t1 H1 s1 e1=>?_⟩;refine⟨e,k,o,rfl,h2.keep s1,k0,k3,fun t2 H2 s2 e2=>?_⟩;refine⟨t,k,u,rfl,h3.keep (s1.trans s2),k0,k3,fun t3 H3 s3 e3=>?_⟩;obtain⟨a,b,c,w1,z1⟩:=jio h1.2 e1;obtain⟨a2,b2,c2,w2,z2⟩:=jio h2.2 e2;obtain⟨a3,b3,c3,w3,z3⟩:=jio h3.2 e3;have em:jav k p o u=jbF a b c a2 b2 c2 a3 b3 c3:=by
  unfold jav;rw[w1,w2,w3];rfl
 refine⟨t1,t2,t3,a,b,c,a2,b2,c2,a3,b3,c3,rfl,z1.keep (s2.trans s3),z2.keep s3,z3,fun H4 s4=>?_⟩;rw[<- em];exact q H4 (s1.trans (s2.trans (s3.trans s4)))
theorem jlq (T:Tx K mg t1 t2) (F:At K mg "in_line" jd1 ["one","other","third"] []) (dh:jam P w K mg base CX0 3 "minor_of" ["one","other","third","place"] [] jeV):jam P w K mg base CX0 4 "in_line" ["one","other","third"] [] jkl:=by
  refine F.ok jez (fun vs H Q E h=>?_) (fun f cdv A outer s H vs Q E hr h=>?_)
  . obtain⟨r,e,t,p,o,u,rfl,_⟩:=h
    rfl
  obtain⟨r,e,t,p,o,u,rfl,h1,h2,h3,q⟩:=h;have S:=jez;refine⟨_,(jag (jbx PassesOwn.never rfl (jaX rfl T.m_range (jaa jab jac jaj)) (jao (i:=3) S.nd rfl (Or.inl rfl))
    (jai (jaQ (jaq jdO (jah dh hr.m rfl jau (jaa (pv 0) (jaa (pv 1) (jaa (pv 2) (jaa (pv 3) jac jae) jae) jae) jae)) jab (jay _))
    (jai (jap jc6))
    jaw)))
    (jai (jap jc6))),?_⟩
  walk_at "rf";walk_at "gf";refine jbS (lo:=0) (n:=3) (fun i σ H2=>Same H H2/\∃o3:Option V,σ=[some (.ref r),some (.ref e),some (.ref t),o3]/\(1<=i->jav 0 p o u=0)/\(2<=i->jav 1 p o u=0)/\(3<=i->jav 2 p o u=0)) ⟨Same.refl _,none,rfl,by simp,by simp,by simp⟩ ?_ ?_
  . rintro i σ H2 hi ⟨s2,o3,rfl,e0,e1,e2⟩
    walk_at "rf";refine⟨r,e,t,_,p,o,u,rfl,h1.keep s2,h2.keep s2,h3.keep s2,by omega,by omega,fun H3 s3=>?_⟩;have ei:(0:Int)+(i:Int)=(i:Int):=Int.zero_add _;rw[ei]
    match i,hi with
    | 0, _ =>
      walk_at "rf";refine jcK (fun c=>⟨s2.trans s3,fun _=>c,fun h=>absurd h (by decide),fun h=>absurd h (by decide)⟩) fun c=>?_;have ef:inl p o u=false:=decide_eq_false fun z=>c z.1;exact ef▸q H3 (s2.trans s3)
    | 1, _ =>
      have d0:=e0 (by decide);walk_at "rf";refine jcK (fun c=>⟨s2.trans s3,fun _=>d0,fun _=>c,fun h=>absurd h (by decide)⟩) fun c=>?_;have ef:inl p o u=false:=decide_eq_false fun z=>c z.2.1;exact ef▸q H3 (s2.trans s3)
    | 2, _ =>
      have d0:=e0 (by decide);have d1:=e1 (by decide);walk_at "rf";refine jcK (fun c=>⟨s2.trans s3,fun _=>d0,fun _=>d1,fun _=>c⟩) fun c=>?_;have ef:inl p o u=false:=decide_eq_false fun z=>c z.2.2;exact ef▸q H3 (s2.trans s3)
  . rintro σ H2 ⟨s2,o3,rfl,e0,e1,e2⟩
    have ef:inl p o u=true:=decide_eq_true ⟨e0 (by decide),e1 (by decide),e2 (by decide)⟩;exact ef▸q H2 s2
theorem mem4 {b c:Int} (ha:Small a) (hb:Small b) (hc:Small c) (hd:Small d):∀n∈[a,b,c,d],Small n:=fun n hn=>by
 simp only[xaq,xbv,or_false] at hn;rcases hn with rfl | rfl | rfl | rfl<;>assumption
theorem gl4 {b c:Int} (h:¬(a=0/\b=0/\c=0)):0<gl [a,b,c,d]:=by
 by_cases c1:a=0
 ·by_cases c2:b=0
  ·exact jdy (n:=c) (by simp) fun z=>h ⟨c1,c2,z⟩
  ·exact jdy (n:=b) (by simp) c2
 ·exact jdy (n:=a) (by simp) c1
def vneg (v:V):V:=match v with | .int i=>.int (-i) | _=>v
theorem jjA (ns:List Int):(ns.map V.int).map vneg=(ns.map fun n=>-n).map V.int:=by
 rw[xbq,xbq];rfl
theorem jip (T:Tx K mg t1 t2) (F:At K mg "turned_about" ja8 ["plane"] []):jam P w K mg base CX0 1 "turned_about" ["plane"] [] jgw:=by
 refine F.ok jct (fun vs H Q E h=>?_) (fun f cdv A outer s H vs Q E hr h=>?_)
 ·obtain⟨r,ns,rfl,_⟩:=h;rfl
 obtain⟨r,ns,rfl,h1,hl,q⟩:=h;have S:=jct;refine⟨_,(jai (jap (jaJ jbl rfl T.m_tuple boot_tuple (jaa (jba rfl (N':=["number"]) (ix:=[]) ⟨rfl,rfl,by decide +kernel,by decide +kernel,by decide +kernel,(show ∀y:Str × NameKind,y∈_->y.2=NameKind.free->(jad ja8).names.lookup y.1=some .cell\/(jad ja8).names.lookup y.1=some .free from by decide +kernel),.nil⟩ (jdM (pv 0)) (fun _ _ _ _=>jao (i:=0) (show (["number"]:List Str).Nodup from by decide +kernel) rfl (Or.inl rfl)) (fun _ _ _ _=>jbe) (fun _ _ _ _=>(jdN jcj (pv 0)))) jac jcP)))),?_⟩;have k1:SqT K H r (ns.map V.int):=SqT.of h1;walk_at "rf";walk_at "gf";intro acc hacc;refine jjj vneg (by rw[xaa];omega) hacc k1 ?_ ?_
 ·intro z H3 R hz s3 hR;obtain⟨m,hm,rfl⟩:=xaG.mp hz;walk_at "rd";exact hR _ (Same.refl _)
 intro H1 s1 e1;rw[jjA] at e1;exact FoR.tupOf (X:=True) (SqL.of e1) fun t H2 s2 e2=>q t H2 (s1.trans s2) e2
theorem jlr (T:Tx K mg t1 t2) (F:At K mg "sign_of" jdZ ["number"] []):jam P w K mg base CX0 1 "sign_of" ["number"] [] jii:=by
 refine F.ok jew (fun vs H Q E h=>?_) (fun f cdv A outer s H vs Q E hr h=>?_)
 ·obtain⟨a,rfl,_⟩:=h;rfl
 obtain⟨n,rfl,q⟩:=h;have S:=jew;refine⟨_,(jag (jaQ (jaq jfM (pv 0) jab (jay _))
  (jai (jap jab))
  jaw)
  (jag (jaQ (jaq jgR (pv 0) jab (jay _))
  (jai (jap (jdN jcj jab)))
  jaw)
  (jai (jap jab)))),?_⟩
 unfold sgn at q;walk_at "rd";refine jcK (fun c=>?_) fun c=>jcK (fun c1=>?_) fun c1=>?_
 ·rw[if_pos c] at q;exact q
 ·rw[if_neg c,if_pos c1] at q;exact q
 ·rw[if_neg c,if_neg c1] at q;exact q
theorem jjB (T:Tx K mg t1 t2) (F:At K mg "is_plain" jdr ["plane"] []):jam P w K mg base CX0 1 "is_plain" ["plane"] [] jig:=by
  refine F.ok jd5 (fun vs H Q E h=>?_) (fun f cdv A outer s H vs Q E hr h=>?_)
  . obtain⟨r,a,b,c,d,rfl,_⟩:=h
    rfl
  obtain⟨r,a,b,c,d,rfl,h1,q⟩:=h;have S:=jd5;refine⟨_,(jag (jbx PassesOwn.never rfl (jdM (jbG jka (pv 0) jcV (jbY jab))) (jao (i:=1) S.nd rfl (Or.inl rfl))
    (jai (jaQ (jaq jdO (pv 1) jab (jay _))
    (jai (jap (jeH jfM (pv 1) jab (jay _))))
    jaw)))
    (jai (jap jc6))),?_⟩
  walk_at "rf";refine⟨r,_,rfl,SqT.of h1,(show ¬(HT.sIx 4 0 none=0/\HT.sIx 4 4 (some 3)=4) by decide),fun p hp=>?_⟩;have sp:=Same.new hp (.tup (jeq [.int a,.int b,.int c,.int d] none (some 3)));have ep:upd H p (.tup (jeq [.int a,.int b,.int c,.int d] none (some 3))) p=some (.tup ([a,b,c].map V.int)):=jaf;generalize upd H p (.tup (jeq [.int a,.int b,.int c,.int d] none (some 3)))=H1 at sp ep |-
  have kp:SqT K H1 p ([a,b,c].map V.int):=SqT.of ep;walk_at "gf";have q:=q H1 sp;unfold plb at q;refine jhw (K:=K) (a:=p) (xs:=[a,b,c].map V.int) (fun i σ H2=>H2=H1/\∃o1:Option V,σ=[some (.ref r),o1]/\(1<=i->a=0)/\(2<=i->b=0)/\(3<=i->c=0)) ⟨rfl,none,rfl,by simp,by simp,by simp⟩ (fun i σ H2 _ ⟨h,_⟩=>by rw[h];exact kp) ?_ ?_
  . rintro i v σ H2 hi ⟨rfl,o1,rfl,e0,e1,e2⟩
    match i,hi with
    | 0, hi =>
      cases hi;walk_at "rf";refine jcK (fun cc=>⟨fun _=>cc,fun h=>absurd h (by decide),fun h=>absurd h (by decide)⟩) fun cc=>?_;rw[if_pos cc] at q;exact q
    | 1, hi =>
      cases hi;have d0:=e0 (by decide);walk_at "rf";refine jcK (fun cc=>⟨fun _=>d0,fun _=>cc,fun h=>absurd h (by decide)⟩) fun cc=>?_;rw[if_neg (fun n=>n d0),if_pos cc] at q;exact q
    | 2, hi =>
      cases hi;have d0:=e0 (by decide);have d1:=e1 (by decide);walk_at "rf";refine jcK (fun cc=>⟨fun _=>d0,fun _=>d1,fun _=>cc⟩) fun cc=>?_;rw[if_neg (fun n=>n d0),if_neg (fun n=>n d1),if_pos cc] at q;exact q
  . rintro σ H2 ⟨rfl,o1,rfl,e0,e1,e2⟩
    rw[if_neg (fun n=>n (e0 (show 1<=3 by decide))),if_neg (fun n=>n (e1 (show 2<=3 by decide))),if_neg (fun n=>n (e2 (show 3<=3 by decide)))] at q;exact q
theorem jjC (T:Tx K mg t1 t2) (F:At K mg "rough_plane" jb4 ["one","other","third"] []) (dh:jam P w K mg base CX0 3 "minor_of" ["one","other","third","place"] [] jeV):jam P w K mg base CX0 4 "rough_plane" ["one","other","third"] [] jih:=by
 refine F.ok jcR (fun vs H Q E h=>?_) (fun f cdv A outer s H vs Q E hr h=>?_)
 ·obtain⟨r,e,t,p,o,u,rfl,_⟩:=h;rfl
 obtain⟨r,e,t,p,o,u,rfl,h1,h2,h3,q⟩:=h;have S:=jcR;refine⟨_,(jai (jap (jaH (jaa (jah dh hr.m rfl jau (jaa (pv 0) (jaa (pv 1) (jaa (pv 2) (jaa jab jac jaj) jae) jae) jae)) (jaa (jdN jcj (jah dh hr.m rfl jau (jaa (pv 0) (jaa (pv 1) (jaa (pv 2) (jaa jab jac jaj) jae) jae) jae))) (jaa (jah dh hr.m rfl jau (jaa (pv 0) (jaa (pv 1) (jaa (pv 2) (jaa jab jac jaj) jae) jae) jae)) (jaa (jah dh hr.m rfl jau (jaa (pv 0) (jaa (pv 1) (jaa (pv 2) (jaa jab jac jaj) jae) jae) jae)) jac jaN) jaN) jh4) jaN)))),?_⟩;walk_at "rf";refine⟨r,e,t,0,p,o,u,rfl,h1,h2,h3,by decide,by decide,fun H1 s1=>?_⟩;refine⟨r,e,t,1,p,o,u,rfl,h1.keep s1,h2.keep s1,h3.keep s1,by decide,by decide,fun H2 s2=>?_⟩;have s12:=s1.trans s2;walk_at "rf";refine⟨r,e,t,2,p,o,u,rfl,h1.keep s12,h2.keep s12,h3.keep s12,by decide,by decide,fun H3 s3=>?_⟩;have s13:=s12.trans s3;refine⟨r,e,t,3,p,o,u,rfl,h1.keep s13,h2.keep s13,h3.keep s13,by decide,by decide,fun H4 s4=>?_⟩;exact⟨by decide,fun g hg=>q g _ (s13.trans (s4.trans (Same.new hg _))) jaf⟩
theorem jgz {b c z u v w:Int} (ha:Sm2 a) (hb:Sm2 b) (hc:Sm2 c) (hx:Sm2 x) (hy:Sm2 y) (hz:Sm2 z) (hu:Sm2 u) (hv:Sm2 v) (hw:Sm2 w):Bd 1953 (jbF a b c x y z u v w):=by
 have m:∀{i j k l e:Int},Sm2 i->Sm2 j->Sm2 k->Sm2 l->Sm2 e->Bd 1951 ((i*j-k*l)*e):=fun h1 h2 h3 h4 h5=>Bd.mul (n:=1301) (m:=650) (Bd.sub (Bd.mul (n:=650) (m:=650) h1 h2) (Bd.mul (n:=650) (m:=650) h3 h4)) h5;exact Bd.add (Bd.add (m hb hz hc hy hu) (m hc hx ha hz hv)) (Bd.mono (n:=1951) (m ha hy hb hx hw))
theorem jgA {o u:Pt} (hp:p.sm) (ho:o.sm) (hu:u.sm):Small (jav 0 p o u)/\Small (jav 1 p o u)/\Small (jav 2 p o u)/\Small (jav 3 p o u):=by
 obtain⟨a,b,c,d⟩:=hp;obtain⟨a',b',c',d'⟩:=ho;obtain⟨a2,b2,c2,d2⟩:=hu;exact⟨Bd.mono (n:=1953) (jgz b c d b' c' d' b2 c2 d2),Bd.mono (n:=1953) (jgz a c d a' c' d' a2 c2 d2),Bd.mono (n:=1953) (jgz a b d a' b' d' a2 b2 d2),Bd.mono (n:=1953) (jgz a b c a' b' c' a2 b2 c2)⟩
theorem jjD (T:Tx K mg t1 t2) (F:At K mg "made_plane" jco ["a","b","c","d"] []) (dn:jam P w K mg base CX0 2 "in_lowest_terms" ["numbers"] [] jjx):jam P w K mg base CX0 3 "made_plane" ["a","b","c","d"] [] jik:=by
 refine F.ok jdb (fun vs H Q E h=>?_) (fun f cdv A outer s H vs Q E hr h=>?_)
 ·obtain⟨a,b,c,d,rfl,_⟩:=h;rfl
 obtain⟨a,b,c,d,rfl,sa,sb,sc,sd,nz,q⟩:=h;have S:=jdb;refine⟨_,(jag (jaQ (PW.pt (jf5 (jaq jdF (pv 0) jab (jay _)) (jf5 (jaq jdF (pv 1) jab (jay _)) (jfK (jaq jdF (pv 2) jab (jay _))))))
  jbv
  jaw)
  (jai (jap (jah dn hr.m rfl jau (jaa (jaH (jaa (pv 0) (jaa (pv 1) (jaa (pv 2) (jaa (pv 3) jac jae) jae) jae) jae)) jac jaE))))),?_⟩
 have fin:∀p,H p=none->jjx [.ref p] (upd H p (.tup [.int a,.int b,.int c,.int d])) Q (fun _ _ _=>False):=fun p hp =>
  ⟨p,[a,b,c,d],rfl,jaf,by simp,mem4 sa sb sc sd,by have:=gl4 (d:=d) nz;omega,fun r H' h1 h2=>q r H' ((Same.new hp _).trans h1) h2⟩
 walk_at "rf";by_cases c1:a=0
 ·rw[if_pos c1];by_cases c2:b=0
  ·rw[if_pos c2];by_cases c3:c=0
   ·exact absurd ⟨c1,c2,c3⟩ nz
   ·rw[if_neg c3];exact⟨by decide,fin⟩
  ·rw[if_neg c2];exact⟨by decide,fin⟩
 ·rw[if_neg c1];exact⟨by decide,fin⟩
theorem jhg (T:Tx K mg t1 t2) (F:At K mg "plane_through" jbz ["one","other","third"] []) (dX:jam P w K mg base CX0 4 "rough_plane" ["one","other","third"] [] jih) (Dc:jam P w K mg base CX0 3 "made_plane" ["a","b","c","d"] [] jik) (Dj:jam P w K mg base CX0 1 "is_plain" ["plane"] [] jig) (dU:jam P w K mg base CX0 1 "turned_about" ["plane"] [] jgw):jam P w K mg base CX0 5 "plane_through" ["one","other","third"] [] jd3:=by
  refine F.ok jcc (fun vs H Q E h=>?_) (fun f cdv A outer s H vs Q E hr h=>?_)
  . obtain⟨r,e,t,p,o,u,rfl,_⟩:=h
    rfl
  obtain⟨r,e,t,p,o,u,rfl,h1,h2,h3,na,q⟩:=h;have S:=jcc;refine⟨_,(jag (jat (i:=3) S.nd rfl (Or.inl rfl) (jah dX hr.m rfl jau (jaa (pv 0) (jaa (pv 1) (jaa (pv 2) jac jae) jae) jae)))
    (jag (jat (i:=4) S.nd rfl (Or.inl rfl) (jah Dc hr.m rfl jau (jaa (jal jan (pv 3) jab) (jaa (jal jan (pv 3) jab) (jaa (jal jan (pv 3) jab) (jaa (jal jan (pv 3) jab) jac jas) jas) jas) jas)))
    (jag (jaQ (jbu (jah Dj hr.m rfl jau (jaa (pv 4) jac jae)))
    (jai (jap (pv 4)))
    jaw)
    (jai (jap (jah dU hr.m rfl jau (jaa (pv 4) jac jae))))))),?_⟩
  obtain⟨m0,m1,m2,m3⟩:=jgA h1.2 h2.2 h3.2;walk_at "rf";refine⟨r,e,t,p,o,u,rfl,h1,h2,h3,fun g H1 s1 e1=>?_⟩;have kg:SqT K H1 g [.int (jav 0 p o u),.int (-jav 1 p o u),.int (jav 2 p o u),.int (jav 3 p o u)]:=SqT.of e1;walk_at "gf";refine⟨_,_,_,_,rfl,m0,m1.neg,m2,m3,fun z=>na ⟨z.1,by omega,z.2.2⟩,fun g2 H2 s2 e2=>?_⟩;have el:∃a b c d,low (rgh p o u)=[a,b,c,d]:=⟨_,_,_,_,rfl⟩;have e2':H2 g2=some (.tup ((low (rgh p o u)).map V.int)):=e2;obtain⟨a,b,c,d,el⟩:=el;unfold pln at q;rw[el] at q e2';walk_at "rf";refine⟨g2,a,b,c,d,rfl,e2',fun H3 s3=>?_⟩;have s13:=s1.trans (s2.trans s3);dsimp only at q;cases eb:plb a b c with
  | true =>
    rw[eb,if_pos rfl] at q;walk_at "rf";exact q g2 H3 s13 (s3 _ _ e2')
  | false =>
    rw[eb,if_neg (by decide)] at q;walk_at "rf";refine⟨g2,[a,b,c,d],rfl,s3 _ _ e2',by simp,fun g3 H4 s4 e4=>?_⟩;exact q g3 H4 (s13.trans s4) e4
theorem ok_ht (T:Tx K mg t1 t2) (F:At K mg "height_over" jb5 ["plane","spot"] []):jam P w K mg base CX0 1 "height_over" ["plane","spot"] [] spHt:=by
 refine F.ok jcS (fun vs H Q E h=>?_) (fun f cdv A outer s H vs Q E hr h=>?_)
 ·obtain⟨r,e,a,b,c,d,p,rfl,_⟩:=h;rfl
 obtain⟨r,e,a,b,c,d,p,rfl,h1,sa,sb,sc,sd,h2,q⟩:=h;have S:=jcS;refine⟨_,(jai (jap (jar jbh (jar jbk (jar jbk (jar jax (jal jan (pv 0) jab) (jal jan (pv 1) jab)) (jar jax (jal jan (pv 0) jab) (jal jan (pv 1) jab))) (jar jax (jal jan (pv 0) jab) (jal jan (pv 1) jab))) (jar jax (jal jan (pv 0) jab) (jal jan (pv 1) jab))))),?_⟩;have k1:SqT K H r [.int a,.int b,.int c,.int d]:=SqT.of h1;have f1:=sa.bd.fit;have f2:=sb.bd.fit;have f3:=sc.bd.fit;have f4:=sd.bd.fit;have k_h2:=h2.sq (K:=K);have g0:=h2.2.fx;have g1:=h2.2.fy;have g2:=h2.2.fz;have g3:=h2.2.fw;walk_at "rf";walk_at "gf";exact q
theorem jls (T:Tx K mg t1 t2) (F:At K mg "side_of" jd2 ["plane","spot"] []) (dG:jam P w K mg base CX0 1 "sign_of" ["number"] [] jii) (dZ:jam P w K mg base CX0 1 "height_over" ["plane","spot"] [] spHt):jam P w K mg base CX0 2 "side_of" ["plane","spot"] [] jev:=by
 refine F.ok jeA (fun vs H Q E h=>?_) (fun f cdv A outer s H vs Q E hr h=>?_)
 ·obtain⟨r,e,a,b,c,d,p,rfl,_⟩:=h;rfl
 obtain⟨r,e,a,b,c,d,p,rfl,h1,sa,sb,sc,sd,h2,q⟩:=h;have S:=jeA;refine⟨_,(jai (jap (jah dG hr.m rfl jau (jaa (jah dZ hr.m rfl jau (jaa (pv 0) (jaa (pv 1) jac jae) jae)) jac jaN)))),?_⟩;walk_at "rf";exact⟨r,e,a,b,c,d,p,rfl,h1,sa,sb,sc,sd,h2,_,rfl,q⟩
theorem jjE (T:Tx K mg t1 t2) (F:At K mg "stands_first" jbL ["one","other"] []):jam P w K mg base CX0 1 "stands_first" ["one","other"] [] jij:=by
  refine F.ok jcs (fun vs H Q E h=>?_) (fun f cdv A outer s H vs Q E hr h=>?_)
  . obtain⟨r,e,p,o,rfl,_⟩:=h
    rfl
  obtain⟨r,e,p,o,rfl,h1,h2,q⟩:=h;have S:=jcs;refine⟨_,(jag (jbx PassesOwn.never rfl (jaX rfl T.m_range (jaa jab jac jaj)) (jao (i:=2) S.nd rfl (Or.inl rfl))
    (jag (jat (i:=3) S.nd rfl (Or.inl rfl) (jar jax (jal jan (pv 0) (pv 2)) (jal jan (pv 1) jab)))
    (jag (jat (i:=4) S.nd rfl (Or.inl rfl) (jar jax (jal jan (pv 1) (pv 2)) (jal jan (pv 0) jab)))
    (jai (jaQ (jaq jdO (pv 3) (pv 4) (jay _))
    (jai (jap (jeH jgR (pv 3) (pv 4) (jay _))))
    jaw)))))
    (jai (jap jc6))),?_⟩
  have k_h1:=h1.sq (K:=K);have k_h2:=h2.sq (K:=K);have f0:=h1.2.fx;have f1:=h1.2.fy;have f2:=h1.2.fz;have f3:=h1.2.fw;have g0:=h2.2.fx;have g1:=h2.2.fy;have g2:=h2.2.fz;have g3:=h2.2.fw;unfold sfp at q;walk_at "rd";refine⟨3,rfl,by decide,by decide,jbS (lo:=0) (n:=3) (fun i σ H2=>H2=H/\∃(o0 o1 o2:Option V),σ=[some (.ref r),some (.ref e),o0,o1,o2]/\(1<=i->p.x*o.w=o.x*p.w)/\(2<=i->p.y*o.w=o.y*p.w)/\(3<=i->p.z*o.w=o.z*p.w)) ⟨rfl,none,none,none,rfl,by simp,by simp,by simp⟩ ?_ ?_⟩
  . rintro i σ H2 hi ⟨rfl,o0,o1,o2,rfl,e0,e1,e2⟩
    match i,hi with
    | 0, _ =>
      walk_at "rd";walk_at "go";refine jcK (fun c=>⟨fun _=>c,fun h=>absurd h (by decide),fun h=>absurd h (by decide)⟩) fun c=>?_;rw[sf,if_pos c] at q;exact q
    | 1, _ =>
      have d0:=e0 (by decide);walk_at "rd";walk_at "go";refine jcK (fun c=>⟨fun _=>d0,fun _=>c,fun h=>absurd h (by decide)⟩) fun c=>?_;rw[sf,if_neg (fun n=>n d0),if_pos c] at q;exact q
    | 2, _ =>
      have d0:=e0 (by decide);have d1:=e1 (by decide);walk_at "rd";walk_at "go";refine jcK (fun c=>⟨fun _=>d0,fun _=>d1,fun _=>c⟩) fun c=>?_;rw[sf,if_neg (fun n=>n d0),if_neg (fun n=>n d1),if_pos c] at q;exact q
  . rintro σ H2 ⟨rfl,o0,o1,o2,rfl,e0,e1,e2⟩
    rw[sf,if_neg (fun n=>n (e0 (by decide))),if_neg (fun n=>n (e1 (by decide))),if_neg (fun n=>n (e2 (by decide)))] at q;walk_at "rd";exact q
theorem jlt (T:Tx K mg t1 t2) (F:At K mg "flat_axis" jc1 ["plane"] []):jam P w K mg base CX0 1 "flat_axis" ["plane"] [] jkm:=by
  refine F.ok jdA (fun vs H Q E h=>?_) (fun f cdv A outer s H vs Q E hr h=>?_)
  . obtain⟨r,a,b,c,d,rfl,_⟩:=h
    rfl
  obtain⟨r,a,b,c,d,rfl,h1,nz,q⟩:=h;have S:=jdA;refine⟨_,(jag (jbx PassesOwn.never rfl (jaX rfl T.m_range (jaa jab jac jaj)) (jao (i:=1) S.nd rfl (Or.inl rfl))
    (jai (jaQ (jaq jdO (jal jan (pv 0) (pv 1)) jab (jay _))
    (jai (jap (pv 1)))
    jaw)))
    (jai (jap jaW))),?_⟩
  have k1:SqT K H r [.int a,.int b,.int c,.int d]:=SqT.of h1;walk_at "rf";walk_at "gf";refine jbS (lo:=0) (n:=3) (fun i σ H2=>H2=H/\∃o1:Option V,σ=[some (.ref r),o1]/\(1<=i->a=0)/\(2<=i->b=0)/\(3<=i->c=0)) ⟨rfl,none,rfl,by simp,by simp,by simp⟩ ?_ ?_
  . rintro i σ H2 hi ⟨rfl,o1,rfl,e0,e1,e2⟩
    match i,hi with
    | 0, _ =>
      walk_at "rf";walk_at "gf";refine jcK (fun cc=>⟨fun _=>cc,fun h=>absurd h (by decide),fun h=>absurd h (by decide)⟩) fun cc=>?_;exact q _ (.inl ⟨rfl,cc⟩)
    | 1, _ =>
      have d0:=e0 (by decide);walk_at "rf";walk_at "gf";refine jcK (fun cc=>⟨fun _=>d0,fun _=>cc,fun h=>absurd h (by decide)⟩) fun cc=>?_;exact q _ (.inr (.inl ⟨rfl,d0,cc⟩))
    | 2, _ =>
      have d0:=e0 (by decide);have d1:=e1 (by decide);walk_at "rf";walk_at "gf";refine jcK (fun cc=>⟨fun _=>d0,fun _=>d1,fun _=>cc⟩) fun cc=>?_;exact q _ (.inr (.inr ⟨rfl,d0,d1,cc⟩))
  . rintro σ H2 ⟨rfl,o1,rfl,e0,e1,e2⟩
    exact absurd ⟨e0 (by decide),e1 (by decide),e2 (by decide)⟩ nz
theorem jlu (T:Tx K mg t1 t2) (F:At K mg "side_of_edge" jbM ["edge","spot","axis"] []) (dG:jam P w K mg base CX0 1 "sign_of" ["number"] [] jii) (dh:jam P w K mg base CX0 3 "minor_of" ["one","other","third","place"] [] jeV):jam P w K mg base CX0 4 "side_of_edge" ["edge","spot","axis"] [] jkn:=by
 refine F.ok jcu (fun vs H Q E h=>?_) (fun f cdv A outer s H vs Q E hr h=>?_)
 ·obtain⟨g,r,e,t,k,p,o,u,rfl,_⟩:=h;rfl
 obtain⟨g,r,e,t,k,p,o,u,rfl,hg,h1,h2,h3,k0,k3,q⟩:=h;have S:=jcu;refine⟨_,(jai (jap (jah dG hr.m rfl jau (jaa (jah dh hr.m rfl jau (jaa (jal jan (pv 0) jab) (jaa (jal jan (pv 0) jab) (jaa (pv 1) (jaa (pv 2) jac jae) jae) jas) jas)) jac jaN)))),?_⟩;have kg:SqT K H g [.ref r,.ref e]:=SqT.of hg;walk_at "rf";walk_at "gf";refine⟨r,e,t,k,p,o,u,rfl,h1,h2,h3,k0,k3,fun H1 s1=>?_⟩;exact⟨_,rfl,q H1 s1⟩
def fM1 (H:Hp) (l:Addr) (ps:List Pt):L2.St->Hp->Prop:=fun σ H'=>∃o2:Option V,σ=[some (.ref l),some (.int (fF ps:Nat)),o2,none]/\H'=H
def fM2 (H:Hp) (l:Addr) (ps:List Pt) (rs:List Addr):L2.St->Hp->Prop:=fun σ H'=>∃(g:Addr) (o1 o2:Option V),σ=[some (.ref l),o1,o2,some (.ref g)]/\H' g=some (.lst ((rot (fF ps) rs).map V.ref))/\Same H H'
def fM3 (H:Hp) (ps:List Pt) (rs:List Addr):L2.St->Hp->Prop:=fun σ H'=>∃(g:Addr) (o0 o1 o2:Option V),σ=[o0,o1,o2,some (.ref g)]/\H' g=some (.lst ((frm ps rs).map V.ref))/\Same H H'
theorem jfW {α:Type} {l:List α} (h:f<=l.length):(rot f l).length=l.length:=by
 unfold rot;rw[xae,xaz,xay];omega
theorem jiq (T:Tx K mg t1 t2) (F:At K mg "formed" jeS ["corners"] []) (dN:jam P w K mg base CX0 1 "stands_first" ["one","other"] [] jij):jam P w K mg base CX0 2 "formed" ["corners"] [] jgy:=by
  refine F.ok jfx (fun vs H Q E h=>?_) (fun f cdv A outer s H vs Q E hr h=>?_)
  . obtain⟨l,rs,ps,rfl,_⟩:=h
    rfl
  obtain⟨l,rs,ps,rfl,hc,n3,n8,q⟩:=h;have S:=jfx;refine⟨_,(jag (jat (i:=1) S.nd rfl (Or.inl rfl) jab)
    (ja2 (fM1 H l ps) (jbx PassesOwn.never rfl (jfa rfl T.m_range (jaa jab (jaa (jaB jaL rfl T.m_len PySem.boot_len (jaa (pv 0) jac jae)) jac jaN) jaj)) (jao (i:=2) S.nd rfl (Or.inl rfl))
    (jai (jaQ (jbu (jah dN hr.m rfl jau (jaa (jal ix_list (pv 0) (pv 2)) (jaa (jal ix_list (pv 0) (pv 1)) jac jas) jas)))
    (jai (jat (i:=1) S.nd rfl (Or.inl rfl) (pv 2)))
    jaw)))
    (ja2 (fM2 H l ps rs) (jat (i:=3) S.nd rfl (Or.inl rfl) (jar jca (jaJ jbi rfl T.m_list boot_list (jaa (jbG sl_list (pv 0) (jbY (pv 1)) jcV) jac jas)) (jaJ jbi rfl T.m_list boot_list (jaa (jbG sl_list (pv 0) jcV (jbY (pv 1))) jac jas))))
    (ja2 (fM3 H ps rs) (jaQ (jbu (jah dN hr.m rfl jau (jaa (jal ix_list (pv 3) (jdN jcj jab)) (jaa (jal ix_list (pv 3) jab) jac jas) jas)))
    (jai (jat (i:=3) S.nd rfl (Or.inl rfl) (jar jca (jbG sl_list (pv 3) jcV (jbY jab)) (jg3 rfl rfl T.m_list rfl T.m_reversed (jbG sl_list (pv 3) (jbY jab) jcV)))))
    jaw)
    (jai (jap (jaJ jb0 rfl T.m_tuple boot_tuple (jaa (pv 3) jac jae)))))))),?_⟩
  have ln:=hc.2.len;have lm:(rs.map V.ref).length=ps.length:=by rw[xaa,ln]
  have kl:SqL K H l (rs.map V.ref):=SqL.of hc.1;walk_at "rf";refine⟨⟨_,.inl kl,by decide,by decide,by omega,by omega,?_⟩,?_⟩
  . refine jbS (lo:=1) (n:=_) (fun i σ H2=>H2=H /\ ∃o2:Option V,σ=[some (.ref l),some (.int (jil ps i:Nat)),o2,none]) ⟨rfl,none,rfl⟩ ?_ ?_
    . rintro i σ H2 hi ⟨rfl,o2,rfl⟩
      have hi2:i+1<ps.length:=by omega
      have al:=jeW ps i;obtain⟨g1,g2⟩:=hc.2.get hi2;obtain⟨g3,g4⟩:=hc.2.get (i:=jil ps i) (by omega);have e1:atI (rs.map V.ref) (1+(i:Int))=some (.ref (ad rs (i+1))):=by
        have z:(1+(i:Int))=((i+1:Nat):Int):=by omega
        rw[z];exact jaI g1
      walk_at "rf";refine ixL kl e1 ?_;refine ixL kl (jaI g3) ?_;refine⟨_,_,_,_,rfl,g2,g4,?_⟩;have ea:jil ps (i+1)=if sfp (pt ps (i+1)) (pt ps (jil ps i))=true then i+1 else jil ps i:=rfl;walk_at "rf";cases es:sfp (pt ps (i+1)) (pt ps (jil ps i)) with
      | true =>
        rw[es,if_pos rfl] at ea;rw[ea,if_pos rfl];exact⟨by omega,_,rfl⟩
      | false =>
        rw[es,if_neg (by decide)] at ea;rw[ea,if_neg (by decide)];exact⟨rfl,_,rfl⟩
    . rintro σ H2 ⟨rfl,o2,rfl⟩
      have e:(((List.map V.ref rs).length:Int)-1).toNat=ps.length-1:=by omega
      rw[e];exact⟨_,rfl,rfl⟩
  rintro σ1 H1 ⟨o2,rfl,rfl⟩;have fl:fF ps<ps.length:=by have:=jeW ps (ps.length-1);unfold fF;omega
  walk_at "rf";refine⟨⟨l,_,rfl,kl,fun a1 h1=>?_⟩,?_⟩
  . rw[jgx]
    refine jel h1 fun J1 s1 e1=>?_;refine⟨a1,rfl,_,.inl (SqL.of e1),fun a2 h2=>?_⟩;refine jel h2 fun J2 s2 e2=>?_;refine⟨l,_,rfl,(s1.trans s2).seq kl,fun a3 h3=>?_⟩;rw[jdH];refine jel h3 fun J3 s3 e3=>?_;refine⟨a3,rfl,_,.inl (SqL.of e3),fun a4 h4=>?_⟩;refine jel h4 fun J4 s4 e4=>?_;refine⟨a2,a4,_,_,rfl,rfl,s4 _ _ (s3 _ _ e2),e4,?_,fun a5 h5=>⟨a5,_,_,rfl,?_,s1.trans (s2.trans (s3.trans (s4.trans (Same.new h5 _))))⟩⟩
    . rw[xaz,xay]
      exact xav (show _<=1000 by omega) (by decide)
    . unfold rot
      rw[xal,xb6,xb7];exact jaf
  rintro σ2 H2 ⟨g,o1,o2,rfl,hg,s2⟩;have hr2:=(hc.2.keep s2.t).rot (fF ps);have rl:(rot (fF ps) ps).length=ps.length:=jfW (by omega);have rl2:((rot (fF ps) rs).map V.ref).length=ps.length:=by rw[xaa,jfW (by omega),ln]
  have kg:SqL K H2 g ((rot (fF ps) rs).map V.ref):=SqL.of hg;obtain⟨b1,b2⟩:=hr2.get (i:=ps.length-1) (by omega);obtain⟨b3,b4⟩:=hr2.get (i:=1) (by omega);have ef:∀{α:Type} (x:List α),frm ps x=turn (fB ps) (rot (fF ps) x):=fun _=>rfl;have eb:fB ps=sfp (pt (rot (fF ps) ps) (ps.length-1)) (pt (rot (fF ps) ps) 1):=rfl;walk_at "rf";refine⟨ixL kg (jda (n:=ps.length-1) (by omega) b1) (ixL kg (jaI (j:=1) b3) ?_),?_⟩
  . refine⟨_,_,_,_,rfl,b2,b4,?_⟩
    rw[<- eb];have ef:=ef rs;cases es:fB ps with
    | false =>
      rw[es] at ef;walk_at "rf";exact⟨g,_,_,_,rfl,by rw[ef];exact hg,s2⟩
    | true =>
      rw[es] at ef;have ef2:frm ps rs=(rot (fF ps) rs).take 1++((rot (fF ps) rs).drop 1).reverse:=ef;walk_at "rf";refine⟨g,_,rfl,kg,fun a1 h1=>?_⟩;have c1:jeq ((rot (fF ps) rs).map V.ref) none (some 1)=((rot (fF ps) rs).map V.ref).take 1:=jdH (f:=1);rw[c1];refine jel h1 fun J1 s3 e1=>?_;refine⟨g,_,rfl,s3.seq kg,fun a2 h2=>?_⟩;have c2:jeq ((rot (fF ps) rs).map V.ref) (some 1) none=((rot (fF ps) rs).map V.ref).drop 1:=jgx (f:=1);rw[c2];refine jel h2 fun J2 s4 e2=>?_;refine⟨a2,rfl,_,SqL.of e2,fun a3 h3=>?_⟩;refine jel h3 fun J3 s5 e3=>?_;refine⟨a1,a3,_,_,rfl,rfl,s5 _ _ (s4 _ _ e1),e3,?_,fun a4 h4=>⟨a4,_,_,_,rfl,?_,s2.trans (s3.trans (s4.trans (s5.trans (Same.new h4 _))))⟩⟩
      . rw[xa9,xaz,xay]
        exact xav (show _<=1000 by omega) (by decide)
      . rw[ef2,xal,xb7,List.map_reverse,xb6]
        exact jaf
  rintro σ3 H3 ⟨g,o0,o1,o2,rfl,hg,s3⟩;walk_at "rf";exact⟨_,SqL.of hg,fun t ht=>q t _ (s3.trans (Same.new ht _)) jaf⟩
theorem jjF {rs:List Addr} (h:Sps H rs ps) (hi:i<ps.length):atI (rs.map V.ref) ((i:Int)-1)=some (.ref (ad rs ((i+(ps.length-1)) % ps.length))):=by
  have lm:(rs.map V.ref).length=ps.length:=by rw[xaa,h.len]
  cases i with
  | zero =>
    have e:(0+(ps.length-1)) % ps.length=ps.length-1:=by rw[xby];exact xak (by omega)
    rw[e];have z:((0:Nat):Int)-1=-1:=rfl;rw[z];exact jda (n:=ps.length-1) (by omega) (h.get (i:=ps.length-1) (by omega)).1
  | succ i =>
    have e:(i+1+(ps.length-1)) % ps.length=i:=by
      have z:i+1+(ps.length-1)=i+ps.length:=by omega
      rw[z,xa8];exact xak (by omega)
    rw[e];have z:((i+1:Nat):Int)-1=(i:Int):=by omega
    rw[z];exact jaI (h.get (i:=i) (by omega)).1
theorem jmW (T:Tx K mg t1 t2) (F:At K mg "is_convex" jc2 ["corners","axis"] []) (dL:jam P w K mg base CX0 4 "side_of_edge" ["edge","spot","axis"] [] jkn):jam P w K mg base CX0 5 "is_convex" ["corners","axis"] [] jmT:=by
 refine F.ok jdB (fun vs H Q E h=>?_) (fun f cdv A outer s H vs Q E hr h=>?_)
 ·obtain⟨l,k,rs,ps,rfl,_⟩:=h;rfl
 obtain⟨l,k,rs,ps,rfl,hc,n3,n8,k0,k2,rnd,q⟩:=h;have S:=jdB;refine⟨_,(jag (jat (i:=2) S.nd rfl (Or.inl rfl) (jah dL hr.m rfl jau (jaa (jaH (jaa (jal ix_list (pv 0) jab) (jaa (jal ix_list (pv 0) jab) jac jas) jas)) (jaa (jal ix_list (pv 0) jab) (jaa (pv 1) jac jae) jas) jaE)))
  (jag (jat (i:=3) S.nd rfl (Or.inl rfl) (jaB jaL rfl T.m_len PySem.boot_len (jaa (pv 0) jac jae)))
  (jag (jbx PassesOwn.never rfl (jaX rfl T.m_range (jaa (pv 3) jac jae)) (jao (i:=4) S.nd rfl (Or.inl rfl))
  (jag (jat (i:=5) S.nd rfl (Or.inl rfl) (jaH (jaa (jal ix_list (pv 0) (jar jbh (pv 4) jab)) (jaa (jal ix_list (pv 0) (pv 4)) jac jas) jas)))
  (jai (jbx PassesOwn.never rfl (jfa rfl T.m_range (jaa jab (jaa (jar jbh (pv 3) jab) jac jbm) jaj)) (jao (i:=6) S.nd rfl (Or.inl rfl))
  (jai (jaQ (jaq jdO (jah dL hr.m rfl jau (jaa (pv 5) (jaa (jal ix_list (pv 0) (jar jci (jar jbk (pv 4) (pv 6)) (pv 3))) (jaa (pv 1) jac jae) jas) jae)) (pv 2) (jay _))
  (jai (jap jc6))
  jaw))))))
  (jai (jap jc6))))),?_⟩
 have ln:=hc.2.len;have lm:(rs.map V.ref).length=ps.length:=by rw[xaa,ln]
 have kl:SqL K H l (rs.map V.ref):=SqL.of hc.1;obtain⟨a1,a2⟩:=hc.2.get (i:=0) (by omega);obtain⟨a3,a4⟩:=hc.2.get (i:=1) (by omega);obtain⟨a5,a6⟩:=hc.2.get (i:=2) (by omega);walk_at "rf";refine ixL kl (jaI (j:=0) a1) (ixL kl (jaI (j:=1) a3) ⟨by decide,fun g hg=>?_⟩);refine jel hg fun H1 s1 e1=>?_;refine ixL (s1.seq kl) (jaI (j:=2) a5) ?_;refine⟨g,_,_,_,k,_,_,_,rfl,e1,a2.keep s1,a4.keep s1,a6.keep s1,k0,by omega,fun H2 s2=>?_⟩;have s12:=s1.trans s2;have kl2:=s12.seq kl;walk_at "rf";refine⟨_,.inl kl2,?_⟩;rw[lm];refine⟨by omega,by omega,?_⟩;refine jbS (lo:=0) (n:=_) (fun i σ H3=>Same H H3/\∃o4 o5 o6:Option V,σ=[some (.ref l),some (.int k),some (.int (sgn (jav k (pt ps 0) (pt ps 1) (pt ps 2)))),some (.int (ps.length:Nat)),o4,o5,o6]) ⟨s12,none,none,none,rfl⟩ ?_ ?_
 ·rintro i σ H3 hi ⟨s3,o4,o5,o6,rfl⟩;have hi2:i<ps.length:=by simpa using hi
  have kl3:=s3.seq kl;have sp3:=hc.2.keep s3.t;obtain⟨b1,b2⟩:=sp3.get hi2;have hm:(i+(ps.length-1)) % ps.length<ps.length:=xaC _ (by omega);obtain⟨b3,b4⟩:=sp3.get hm;have ep:=jjF sp3 hi2;have z0:(0:Int)+(i:Int)=(i:Int):=Int.zero_add _;rw[z0];walk_at "rf";refine ixL kl3 ep (ixL kl3 (jaI b1) ⟨by decide,fun g3 hg3=>?_⟩);refine jel hg3 fun H4 s4 e4=>?_;refine⟨by decide,by decide,by omega,by omega,?_⟩;refine jbS (lo:=1) (n:=_) (fun j σ H5=>Same H4 H5/\∃o6:Option V,σ=[some (.ref l),some (.int k),some (.int (sgn (jav k (pt ps 0) (pt ps 1) (pt ps 2)))),some (.int (ps.length:Nat)),some (.int (i:Int)),some (.ref g3),o6]) ⟨Same.refl _,_,rfl⟩ ?_ ?_
  ·rintro j σ H5 hj ⟨s5,o6,rfl⟩;have hj2:j+1<ps.length-1:=by omega
   have s35:=s4.trans s5;have s05:=s3.trans s35;have sp5:=hc.2.keep s05.t;have hm2:(i+(j+1)) % ps.length<ps.length:=xaC _ (by omega);obtain⟨c1,c2⟩:=sp5.get hm2;have ez:((i:Int)+(1+(j:Int))) % ((ps.length:Nat):Int)=(((i+(j+1)) % ps.length:Nat):Int):=by
    rw[Int.natCast_emod]
    congr 1
    omega
   walk_at "rf";rw[ez];refine⟨by omega,ixL (s05.seq kl) (jaI c1) ?_⟩;refine⟨g3,_,_,_,k,_,_,_,rfl,s5 _ _ e4,b4.keep s35,b2.keep s35,c2,k0,by omega,fun H6 s6=>?_⟩;rw[rnd i (j+1) hi2 (by omega) hj2];walk_at "rf";exact⟨s5.trans s6,_,rfl⟩
  ·rintro σ H5 ⟨s5,o6,rfl⟩;exact⟨s3.trans (s4.trans s5),_,_,_,rfl⟩
 ·rintro σ H3 ⟨s3,o4,o5,o6,rfl⟩;exact q _ s3
theorem jir {b c:Int} (h:¬(a=0/\b=0/\c=0)) (hp:plb a b c=false):plb (-a) (-b) (-c)=true:=by
 by_cases ha:a=0
 ·by_cases hb:b=0
  ·have hc:c≠0:=fun z=>h ⟨ha,hb,z⟩;simp [plb,ha,hb,hc] at hp |-
   omega
  ·simp [plb,ha,hb] at hp |-
   omega
 ·simp [plb,ha] at hp |-
  omega
theorem jkp (ns:List Int):gl (ns.map fun n=>-n)=gl ns:=by
 have d1:gl (ns.map fun n=>-n) ∣ gl ns:=jeu fun n hn=>Int.dvd_neg.mp (jaP (xaG.mpr ⟨n,hn,rfl⟩));have d2:gl ns ∣ gl (ns.map fun n=>-n):=jeu fun n hn=>by
  obtain⟨m,hm,rfl⟩:=xaG.mp hn;exact Int.dvd_neg.mpr (jaP hm)
 exact Int.dvd_antisymm (ja7 _) (ja7 _) d1 d2
theorem jfy {b c:Int} (h:¬(a=0/\b=0/\c=0)) (sa:Small a) (sb:Small b) (sc:Small c) (sd:Small d):∃x y z w:Int,pln [a,b,c,d]=[x,y,z,w]/\Small x/\Small y/\Small z/\Small w/\gl [x,y,z,w]=1/\plb x y z=true/\∀p:Pt,hgt a b c d p=0->hgt x y z w p=0:=by
  have gp:=gl4 (d:=d) h;have g1:gl (low [a,b,c,d])=1:=jmQ (ns:=[a,b,c,d]) (by omega);have nz:¬(a / gl [a,b,c,d]=0/\b / gl [a,b,c,d]=0/\c / gl [a,b,c,d]=0):=fun z=>by
    have g:∀{x:Int},x∈[a,b,c,d]->x / gl [a,b,c,d]=0->x=0:=fun hx z=>xap fun q=>jdY (jaP hx) q z;exact h ⟨g (by simp) z.1,g (by simp) z.2.1,g (by simp) z.2.2⟩
  have el:low [a,b,c,d]=[a / gl [a,b,c,d],b / gl [a,b,c,d],c / gl [a,b,c,d],d / gl [a,b,c,d]]:=rfl;have ea:=xaR (jaP (ns:=[a,b,c,d]) (n:=a) (by simp));have eb:=xaR (jaP (ns:=[a,b,c,d]) (n:=b) (by simp));have ec:=xaR (jaP (ns:=[a,b,c,d]) (n:=c) (by simp));have ed:=xaR (jaP (ns:=[a,b,c,d]) (n:=d) (by simp));have s1:=sa.div (g:=gl [a,b,c,d]);have s2:=sb.div (g:=gl [a,b,c,d]);have s3:=sc.div (g:=gl [a,b,c,d]);have s4:=sd.div (g:=gl [a,b,c,d]);unfold pln;rw[el] at g1 |-
  generalize gl [a,b,c,d]=g at gp g1 nz ea eb ec ed s1 s2 s3 s4 |-
  generalize a / g=x at g1 nz ea s1 |-
  generalize b / g=y at g1 nz eb s2 |-
  generalize c / g=z at g1 nz ec s3 |-
  generalize d / g=w at g1 ed s4 |-
  have hz:∀p:Pt,hgt a b c d p=0->hgt x y z w p=0:=fun p hp=>by
    have e:hgt x y z w p*g=0:=by
      rw[<- hp,<- ea,<- eb,<- ec,<- ed];unfold hgt;grind
    rcases xat.mp e with q | q
    . exact q
    . omega
  show ∃x' y' z' w':Int,(if plb x y z=true then [x,y,z,w] else [-x,-y,-z,-w])=[x',y',z',w']/\_;cases eb:plb x y z with
  | true=>exact⟨x,y,z,w,if_pos rfl,s1,s2,s3,s4,g1,eb,hz⟩
  | false =>
    refine⟨-x,-y,-z,-w,if_neg (by decide),s1.neg,s2.neg,s3.neg,s4.neg,?_,jir nz eb,fun p hp=>?_⟩
    . rw[<- g1]
      exact jkp [x,y,z,w]
    . have e:=hz p hp
      have e2:hgt (-x) (-y) (-z) (-w) p=-hgt x y z w p:=by
        unfold hgt;grind
      rw[e2,e];rfl
theorem jmX {b c z w:Int} (h:pln [a,b,c,d]=[x,y,z,w]):(x≠0->a≠0)/\(y≠0->b≠0)/\(z≠0->c≠0):=by
 have el:low [a,b,c,d]=[a / gl [a,b,c,d],b / gl [a,b,c,d],c / gl [a,b,c,d],d / gl [a,b,c,d]]:=rfl;unfold pln at h;rw[el] at h;generalize gl [a,b,c,d]=g at h;have h':(if plb (a / g) (b / g) (c / g)=true then [a / g,b / g,c / g,d / g] else [-(a / g),-(b / g),-(c / g),-(d / g)])=[x,y,z,w]:=h;have z0:∀{i:Int},i=0->i / g=0:=fun e=>by rw[e];exact Int.zero_ediv g
 split at h'
 ·simp only[List.cons.injEq,and_true] at h';obtain⟨e1,e2,e3,_⟩:=h';exact⟨fun q e=>q (by rw[<- e1];exact z0 e),fun q e=>q (by rw[<- e2];exact z0 e),fun q e=>q (by rw[<- e3];exact z0 e)⟩
 ·simp only[List.cons.injEq,and_true] at h';obtain⟨e1,e2,e3,_⟩:=h';exact⟨fun q e=>q (by rw[<- e1,z0 e];rfl),fun q e=>q (by rw[<- e2,z0 e];rfl),fun q e=>q (by rw[<- e3,z0 e];rfl)⟩
theorem jmY {z:Int} (h:plb x y z=true):¬(x=0/\y=0/\z=0):=fun e=>by
 simp [plb,e.1,e.2.1,e.2.2] at h
theorem sgn0:sgn 0=0:=rfl
theorem jmZ {o u:Pt} (h:¬jbC p o u):inl p o u=false:=decide_eq_false h
theorem jjG (T:Tx K mg t1 t2) (F:At K mg "made_board" jcp ["corners"] []) (Dn:jam P w K mg base CX0 4 "in_line" ["one","other","third"] [] jkl) (dA:jam P w K mg base CX0 5 "plane_through" ["one","other","third"] [] jd3) (de:jam P w K mg base CX0 2 "side_of" ["plane","spot"] [] jev) (Df:jam P w K mg base CX0 1 "flat_axis" ["plane"] [] jkm) (Dh:jam P w K mg base CX0 5 "is_convex" ["corners","axis"] [] jmT) (Do:jam P w K mg base CX0 2 "formed" ["corners"] [] jgy):jam P w K mg base CX0 6 "made_board" ["corners"] [] jim:=by
 refine F.ok jdc (fun vs H Q E h=>?_) (fun f cdv A outer s H vs Q E hr h=>?_)
 ·obtain⟨l,rs,ps,rfl,_⟩:=h;rfl
 obtain⟨l,rs,ps,rfl,hc,B,q⟩:=h;have S:=jdc;refine⟨_,(jag (jaQ (PW.pt (jc8 (jaq jgR (jaB jaL rfl T.m_len PySem.boot_len (jaa (pv 0) jac jae)) jab (jay _)) (jc7 (jaq jfM (jaB jaL rfl T.m_len PySem.boot_len (jaa (pv 0) jac jae)) (jdL rfl T.m_MOST_CORNERS T.r_MOST_CORNERS) (jay _)))))
  jbv
  jaw)
  (jag (jaQ (jbu (jah Dn hr.m rfl jau (jaa (jal ix_list (pv 0) jab) (jaa (jal ix_list (pv 0) jab) (jaa (jal ix_list (pv 0) jab) jac jas) jas) jas)))
  jbv
  jaw)
  (jag (jat (i:=1) S.nd rfl (Or.inl rfl) (jah dA hr.m rfl jau (jaa (jal ix_list (pv 0) jab) (jaa (jal ix_list (pv 0) jab) (jaa (jal ix_list (pv 0) jab) jac jas) jas) jas)))
  (jag (jbx PassesOwn.never rfl (jbW (pv 0)) (jao (i:=2) S.nd rfl (Or.inl rfl))
  (jai (jaQ (jaq jdO (jah de hr.m rfl jau (jaa (pv 1) (jaa (pv 2) jac jae) jae)) jab (jay _))
  jbv
  jaw)))
  (jag (jaQ (jcL (jbu (jah Dh hr.m rfl jau (jaa (pv 0) (jaa (jah Df hr.m rfl jau (jaa (pv 1) jac jae)) jac jaN) jae))))
  jbv
  jaw)
  (jai (jap (jah Do hr.m rfl jau (jaa (pv 0) jac jae))))))))),?_⟩
 have n3:=B.n3;have n8:=B.n8;have ln:=hc.2.len;have lm:(rs.map V.ref).length=ps.length:=by rw[xaa,ln]
 have kl:SqL K H l (rs.map V.ref):=SqL.of hc.1;obtain⟨a1,a2⟩:=hc.2.get (i:=0) (by omega);obtain⟨a3,a4⟩:=hc.2.get (i:=1) (by omega);obtain⟨a5,a6⟩:=hc.2.get (i:=2) (by omega);obtain⟨m0,m1,m2,m3⟩:=jgA a2.2 a4.2 a6.2;obtain⟨x,y,z,v,ep,sx,sy,sz,sv,g1',pb,hz⟩:=jfy (a:=jav 0 (pt ps 0) (pt ps 1) (pt ps 2)) (b:=-jav 1 (pt ps 0) (pt ps 1) (pt ps 2)) (c:=jav 2 (pt ps 0) (pt ps 1) (pt ps 2)) (d:=jav 3 (pt ps 0) (pt ps 1) (pt ps 2)) (fun z=>B.na ⟨z.1,by omega,z.2.2⟩) m0 m1.neg m2 m3;obtain⟨nx,ny,nz⟩:=jmX ep;have er:rgh (pt ps 0) (pt ps 1) (pt ps 2)=[jav 0 (pt ps 0) (pt ps 1) (pt ps 2),-jav 1 (pt ps 0) (pt ps 1) (pt ps 2),jav 2 (pt ps 0) (pt ps 1) (pt ps 2),jav 3 (pt ps 0) (pt ps 1) (pt ps 2)]:=rfl;walk_at "rf";refine⟨_,.inl kl,?_⟩;rw[lm,if_neg (by omega)];refine⟨_,.inl kl,?_⟩;rw[lm,if_neg (by omega)];refine ixL kl (jaI (j:=0) a1) (ixL kl (jaI (j:=1) a3) (ixL kl (jaI (j:=2) a5) ?_));refine⟨_,_,_,_,_,_,rfl,a2,a4,a6,fun H1 s1=>?_⟩;rw[jmZ B.na];have kl1:=s1.seq kl;walk_at "rf";refine ixL kl1 (jaI (j:=0) a1) (ixL kl1 (jaI (j:=1) a3) (ixL kl1 (jaI (j:=2) a5) ?_));refine⟨_,_,_,_,_,_,rfl,a2.keep s1,a4.keep s1,a6.keep s1,B.na,fun g H2 s2 e2=>?_⟩;rw[er,ep] at e2;have s12:=s1.trans s2;have kl2:=s12.seq kl;try walk_at "rf"
 refine⟨⟨_,kl2⟩,?_⟩;refine jbX (K:=K) (a:=l) (xs:=rs.map V.ref) (fun i σ H3=>H3=H2/\∃o2:Option V,σ=[some (.ref l),some (.ref g),o2]) ⟨rfl,none,rfl⟩ (fun i σ H3 _ ⟨h,_⟩=>by rw[h];exact kl2) ?_ ?_
 ·rintro i r σ H3 hi ⟨rfl,o2,rfl⟩;have hlt:i<ps.length:=by
   have:=(xaj.mp hi).1;omega
  obtain⟨b1,b2⟩:=(hc.2.keep s12.t).get hlt;rw[b1] at hi;cases hi;walk_at "rf";refine⟨g,_,x,y,z,v,_,rfl,e2,sx,sy,sz,sv,b2,?_⟩;rw[hz _ (B.flat i hlt)];walk_at "rf";rw[if_pos sgn0];exact⟨_,rfl⟩
 ·rintro σ H3 ⟨rfl,o2,rfl⟩;walk_at "rf";refine⟨g,x,y,z,v,rfl,e2,jmY pb,fun k hk=>?_⟩;have kk:0<=k/\k<=2/\jav k (pt ps 0) (pt ps 1) (pt ps 2)≠0:=by
   rcases hk with ⟨rfl,h⟩ | ⟨rfl,_,h⟩ | ⟨rfl,_,_,h⟩
   ·exact⟨by decide,by decide,nx h⟩
   ·exact⟨by decide,by decide,fun e=>ny h (by omega)⟩
   ·exact⟨by decide,by decide,nz h⟩
  refine⟨l,k,rs,ps,rfl,hc.keep s12,n3,n8,kk.1,kk.2.1,B.rnd k kk.1 kk.2.1 kk.2.2,fun H4 s4=>?_⟩;walk_at "rf";refine⟨l,rs,ps,rfl,hc.keep (s12.trans s4),n3,xav n8 (by decide),fun t H5 s5 e5=>?_⟩;exact q t H5 (s12.trans (s4.trans s5)) e5
def jea:Sp:=fun vs H Q _=>∃(t:Addr) (rs:List Addr) (ps:List Pt),vs=[.ref t]/\H t=some (.tup (rs.map V.ref))/\Sps H rs ps/\3<=ps.length/\¬jbC (pt ps 0) (pt ps 1) (pt ps 2)/\∀(g:Addr) (H':Hp),Same H H'->H' g=some (.tup ((pln (rgh (pt ps 0) (pt ps 1) (pt ps 2))).map V.int))->Q (.ref g) H'
theorem jhh (T:Tx K mg t1 t2) (F:At K mg "plane_of" jds ["board"] []) (dA:jam P w K mg base CX0 5 "plane_through" ["one","other","third"] [] jd3):jam P w K mg base CX0 6 "plane_of" ["board"] [] jea:=by
 refine F.ok jd6 (fun vs H Q E h=>?_) (fun f cdv A outer s H vs Q E hr h=>?_)
 ·obtain⟨t,rs,ps,rfl,_⟩:=h;rfl
 obtain⟨t,rs,ps,rfl,ht,hc,n3,na,q⟩:=h;have S:=jd6;refine⟨_,(jai (jap (jah dA hr.m rfl jau (jaa (jal jan (pv 0) jab) (jaa (jal jan (pv 0) jab) (jaa (jal jan (pv 0) jab) jac jas) jas) jas)))),?_⟩;have kt:SqT K H t (rs.map V.ref):=SqT.of ht;obtain⟨a1,a2⟩:=hc.get (i:=0) (by omega);obtain⟨a3,a4⟩:=hc.get (i:=1) (by omega);obtain⟨a5,a6⟩:=hc.get (i:=2) (by omega);walk_at "rf";refine ixT kt (jaI (j:=0) a1) (ixT kt (jaI (j:=1) a3) (ixT kt (jaI (j:=2) a5) ?_));exact⟨_,_,_,_,_,_,rfl,a2,a4,a6,na,q⟩
theorem jm0 {n:Int} (h:n<=0):sgn n<=0:=by
 unfold sgn;split
 ·omega
 ·split<;>omega
theorem sgn_p {n:Int} (h:0<n):sgn n=1:=by
 unfold sgn;rw[if_pos h]
theorem jcf {X:Cx} {K:PySem.W.Frag} (h:X.K=K):IxR X (fun x y H Q=>jma K x y H Q\/ji3 K x y H Q):=h▸ix_lt
variable {Q:VK}
theorem jgB {i:Int} {v:V} (k:SqL K H r xs\/SqT K H r xs) (e:atI xs i=some v) (q:Q v H):jma K (.ref r) (.int i) H Q\/ji3 K (.ref r) (.int i) H Q:=by
 rcases k with k | k
 ·exact .inl (ixL k e q)
 ·exact .inr (ixT k e q)
local macro_rules | `(tactic| walk_at "gl") => `(tactic| repeat (first | ((with_reducible apply L2.ixT); assumption; rfl) | ((with_reducible apply My.jgB); assumption; rfl) | ((with_reducible apply L2.ixL); assumption; rfl) | ((with_reducible apply And.intro); (walk_at "sd")) | walk_at "rf"))
structure Tri where
 x:Int
 y:Int
 z:Int
def Tri.bd (n:Nat) (v:Tri):Prop:=Bd n v.x/\Bd n v.y/\Bd n v.z
structure Sht where
 s:Tri
 w:Int
 c:Tri
 d:Tri
def Sht.u (S:Sht):Tri:=⟨S.c.y*S.d.z-S.c.z*S.d.y,S.c.z*S.d.x-S.c.x*S.d.z,S.c.x*S.d.y-S.c.y*S.d.x⟩
def Tri.nz (v:Tri):Prop:=¬(v.x=0/\v.y=0/\v.z=0)
def Box (H:Hp) (L:Addr):Prop:=∃m:Int,H L=some (.lst [.int m])
theorem SameB.t (s:SameB L H H') (h:Box H L):SameT H H':=fun b xs hb=>by
 by_cases e:b=L
 ·obtain⟨m,hm⟩:=h;rw[e,hm] at hb;cases hb
 ·exact s b _ e hb
def Ix (ix:List Nat):Prop:=3<=ix.length/\ix.length<=8/\ix.Pairwise (· < ·)/\∀i∈ix,i<8
def rX (S:Sht) (v:Tri):Int:=S.s.x*v.z+S.w*(v.x*S.c.x+v.y*S.d.x)
def rY (S:Sht) (v:Tri):Int:=S.s.y*v.z+S.w*(v.x*S.c.y+v.y*S.d.y)
def rZ (S:Sht) (v:Tri):Int:=S.s.z*v.z+S.w*(v.x*S.c.z+v.y*S.d.z)
def rW (S:Sht) (v:Tri):Int:=S.w*v.z
def rG (S:Sht) (v:Tri):Int:=gl [rX S v,rY S v,rZ S v,rW S v]
def spt (S:Sht) (v:Tri):Pt:=⟨rX S v / rG S v,rY S v / rG S v,rZ S v / rG S v,rW S v / rG S v⟩
def Tri.pl (v:Tri):Prop:=1<=v.z
theorem Bd.div {i g:Int} (h:Bd n i):Bd n (i / g):=xa1 (xbu i g) h
local macro_rules | `(tactic| walk_at "gl") => `(tactic| repeat (first | ((with_reducible apply L2.ixT); assumption; rfl) | ((with_reducible apply My.jgB); assumption; rfl) | ((with_reducible apply L2.ixL); assumption; rfl) | ((with_reducible apply And.intro); (walk_at "sd")) | walk_at "rf"))
def pl4 (p:Pt):List Int:=[p.x,p.y,p.z,p.w]
theorem Sps.rds {rs:List Addr} (h:Sps H rs ps):RdsAll K H (rs.map V.ref) (jfH (ps.map pl4)):=by
 induction h with
 | nil=>exact .nil
 | cons h _ ih=>exact .cons (.tup (SqT.of h.1) (RdsAll.ints (pl4 _))) ih
def jmc (ps:List Pt):PyData:=.tuple (jfH (ps.map pl4))
theorem jlv {b:Addr} {rs:List Addr} (hb:H b=some (.tup (rs.map V.ref))) (h:Sps H rs ps):Rds K H (.ref b) (jmc ps):=.tup (SqT.of hb) h.rds
theorem jlw (ps:List Pt):PyData.canLay0 (jmc ps)=true/\PyData.depth (jmc ps)<=2/\PyData.eqv (jmc ps) (jmc ps)=true:=by
 obtain⟨h1,h2⟩:=jgh (ps.map pl4);refine⟨h1,?_,?_⟩
 ·show PyData.depth (.tuple (jfH (ps.map pl4)))<=2;simp only[PyData.depth];omega
 ·show PyData.eqvAll (jfH (ps.map pl4)) (jfH (ps.map pl4))=true;rw[jgi,decide_eq_true rfl]
theorem jis {m h:Int} (hm:0<m) (hk:0<k) (e:d*m=h*k):d<0↔h<0:=by
 constructor
 ·intro hd;apply xap;intro n;have a:=xaY hd hm;have b:=xaD (show 0<=h by omega) (show 0<=k by omega);omega
 ·intro hh;apply xap;intro n;have a:=xaY hh hk;have b:=xaD (show 0<=d by omega) (show 0<=m by omega);omega
theorem jit {b:Int} {m:Int} (hk:0<k) (hm:0<m) (e:a*k=m*b):sgn a=sgn b:=by
 have e':a*k=b*m:=by rw[e];exact xaU ..
 have n:=jis hk hm e';have p:=jis (d:=-a) (h:=-b) hk hm (by rw[xb8,xb8,e']);unfold sgn;by_cases c:0<a
 ·rw[if_pos c,if_pos (show b>0 by omega)]
 ·rw[if_neg c,if_neg (show ¬b>0 by omega)];by_cases d:a<0
  ·rw[if_pos d,if_pos (by omega)]
  ·rw[if_neg d,if_neg (by omega)]
theorem jeb:∀(ns:List Int) (d k m:Int),k ∣ m*d->(∀n∈ns,k ∣ m*n)->k ∣ m*G d ns
  | [],_,_,_,h,_=>h
  | n :: r, d, k, m, h, hn => by
    rw[jfu];refine jeb r _ k m ?_ fun n' h'=>hn n' (xan _ h');have h1:=xbk h (hn n xaP);rw[Int.gcd_mul_left,Int.natCast_mul] at h1;exact xbe h1 (Int.mul_dvd_mul (Int.natAbs_dvd.mpr (xb0 m)) (xb0 _))
theorem jm1 (p o u:Pt):jav 0 p o u=jbF p.y p.z p.w o.y o.z o.w u.y u.z u.w:=rfl
theorem jm2 (p o u:Pt):jav 1 p o u=jbF p.x p.z p.w o.x o.z o.w u.x u.z u.w:=rfl
theorem jm3 (p o u:Pt):jav 2 p o u=jbF p.x p.y p.w o.x o.y o.w u.x u.y u.w:=rfl
theorem jm4 (p o u:Pt):jav 3 p o u=jbF p.x p.y p.z o.x o.y o.z u.x u.y u.z:=rfl
def dt (a b c:Tri):Int:=jbF a.x a.y a.z b.x b.y b.z c.x c.y c.z
theorem jdi {g1 g2 g3 b c z u v w:Int}:jbF (g1*a) (g1*b) (g1*c) (g2*x) (g2*y) (g2*z) (g3*u) (g3*v) (g3*w)=jbF a b c x y z u v w*(g1*g2*g3):=by
 unfold jbF;grind
theorem jbp (Z:Sht) (v:Tri):rG Z v*(spt Z v).x=rX Z v/\rG Z v*(spt Z v).y=rY Z v/\rG Z v*(spt Z v).z=rZ Z v/\rG Z v*(spt Z v).w=rW Z v :=
 ⟨xaN (jaP (by simp)),xaN (jaP (by simp)),xaN (jaP (by simp)),xaN (jaP (by simp))⟩
def w3 (Z:Sht):Int:=Z.w*Z.w*Z.w
def ud (Z:Sht):Int:=Z.u.x*Z.s.x+Z.u.y*Z.s.y+Z.u.z*Z.s.z
theorem jiu (Z:Sht) (a b c:Tri):jav 0 (spt Z a) (spt Z b) (spt Z c)*(rG Z a*rG Z b*rG Z c)=w3 Z*Z.u.x*dt a b c:=by
 obtain⟨a1,a2,a3,a4⟩:=jbp Z a;obtain⟨b1,b2,b3,b4⟩:=jbp Z b;obtain⟨c1,c2,c3,c4⟩:=jbp Z c;rw[jm1,<- jdi,a2,a3,a4,b2,b3,b4,c2,c3,c4];unfold w3 dt jbF rY rZ rW Sht.u;grind
theorem jiv (Z:Sht) (a b c:Tri):-jav 1 (spt Z a) (spt Z b) (spt Z c)*(rG Z a*rG Z b*rG Z c)=w3 Z*Z.u.y*dt a b c:=by
 obtain⟨a1,a2,a3,a4⟩:=jbp Z a;obtain⟨b1,b2,b3,b4⟩:=jbp Z b;obtain⟨c1,c2,c3,c4⟩:=jbp Z c;rw[xb8,jm2,<- jdi,a1,a3,a4,b1,b3,b4,c1,c3,c4];unfold w3 dt jbF rX rZ rW Sht.u;grind
theorem jiw (Z:Sht) (a b c:Tri):jav 2 (spt Z a) (spt Z b) (spt Z c)*(rG Z a*rG Z b*rG Z c)=w3 Z*Z.u.z*dt a b c:=by
 obtain⟨a1,a2,a3,a4⟩:=jbp Z a;obtain⟨b1,b2,b3,b4⟩:=jbp Z b;obtain⟨c1,c2,c3,c4⟩:=jbp Z c;rw[jm3,<- jdi,a1,a2,a4,b1,b2,b4,c1,c2,c4];unfold w3 dt jbF rX rY rW Sht.u;grind
theorem jm5 (Z:Sht) (a b c:Tri):jav 3 (spt Z a) (spt Z b) (spt Z c)*(rG Z a*rG Z b*rG Z c)=Z.w*Z.w*ud Z*dt a b c:=by
 obtain⟨a1,a2,a3,a4⟩:=jbp Z a;obtain⟨b1,b2,b3,b4⟩:=jbp Z b;obtain⟨c1,c2,c3,c4⟩:=jbp Z c;rw[jm4,<- jdi,a1,a2,a3,b1,b2,b3,c1,c2,c3];unfold ud dt jbF rX rY rZ Sht.u;grind
variable {Z:Sht}
variable {v:Tri}
theorem jdE (hw:1<=Z.w) (hv:v.pl):0<rG Z v:=by
 have W1:0<rW Z v:=xas (by omega) (show 0<v.z by have:1<=v.z:=hv;omega);exact jdy (n:=rW Z v) (by simp) (by omega)
theorem jjH (Z:Sht) (v:Tri):Z.w*Z.u.x*rX Z v+Z.w*Z.u.y*rY Z v+Z.w*Z.u.z*rZ Z v-ud Z*rW Z v=0:=by
 unfold ud rX rY rZ rW Sht.u;grind
theorem jjI {a b c:Tri} (hw:1<=Z.w) (ha:a.pl) (hb:b.pl) (hc:c.pl) (hv:v.pl):hgt (jav 0 (spt Z a) (spt Z b) (spt Z c)) (-jav 1 (spt Z a) (spt Z b) (spt Z c)) (jav 2 (spt Z a) (spt Z b) (spt Z c)) (jav 3 (spt Z a) (spt Z b) (spt Z c)) (spt Z v)=0:=by
 have p1:=jdE hw ha;have p2:=jdE hw hb;have p3:=jdE hw hc;have p4:=jdE hw hv;have gp:rG Z a*rG Z b*rG Z c*rG Z v≠0:=Int.ne_of_gt (xas (xas (xas p1 p2) p3) p4);refine (xat.mp ?_).resolve_right gp;obtain⟨v1,v2,v3,v4⟩:=jbp Z v;have e:hgt (jav 0 (spt Z a) (spt Z b) (spt Z c)) (-jav 1 (spt Z a) (spt Z b) (spt Z c)) (jav 2 (spt Z a) (spt Z b) (spt Z c)) (jav 3 (spt Z a) (spt Z b) (spt Z c)) (spt Z v)*(rG Z a*rG Z b*rG Z c*rG Z v) =
   (jav 0 (spt Z a) (spt Z b) (spt Z c)*(rG Z a*rG Z b*rG Z c))*(rG Z v*(spt Z v).x)+(-jav 1 (spt Z a) (spt Z b) (spt Z c)*(rG Z a*rG Z b*rG Z c))*(rG Z v*(spt Z v).y)+(jav 2 (spt Z a) (spt Z b) (spt Z c)*(rG Z a*rG Z b*rG Z c))*(rG Z v*(spt Z v).z)-(jav 3 (spt Z a) (spt Z b) (spt Z c)*(rG Z a*rG Z b*rG Z c))*(rG Z v*(spt Z v).w):=by
  unfold hgt;grind
 rw[e,jiu,jiv,jiw,jm5,v1,v2,v3,v4];have f:=jjH Z v;have e2:w3 Z*Z.u.x*dt a b c*rX Z v+w3 Z*Z.u.y*dt a b c*rY Z v+w3 Z*Z.u.z*dt a b c*rZ Z v-Z.w*Z.w*ud Z*dt a b c*rW Z v=Z.w*Z.w*dt a b c*(Z.w*Z.u.x*rX Z v+Z.w*Z.u.y*rY Z v+Z.w*Z.u.z*rZ Z v-ud Z*rW Z v):=by
  unfold w3;grind
 rw[e2,f,xbf]
theorem jkq (hw:1<=Z.w):0<w3 Z:=xas (xas (by omega) (by omega)) (by omega)
theorem jcD {a b c:Tri} (hw:1<=Z.w) (nz:Z.u.nz) (hd:dt a b c≠0):¬jbC (spt Z a) (spt Z b) (spt Z c):=fun ⟨h0,h1,h2⟩=>by
 have e0:=jiu Z a b c;have e1:=jiv Z a b c;have e2:=jiw Z a b c;rw[h0,xaS] at e0;rw[h1,Int.neg_zero,xaS] at e1;rw[h2,xaS] at e2;have w0:=jkq hw;have c:∀{i:Int},0=w3 Z*i*dt a b c->i=0:=fun {i} e=>by
  rcases xat.mp e.symm with q | q
  ·rcases xat.mp q with r | r
   ·omega
   ·exact r
  ·exact absurd q hd
 exact nz ⟨c e0,c e1,c e2⟩
def uk (Z:Sht) (k:Int):Int:=if k=0 then Z.u.x else if k=1 then -Z.u.y else Z.u.z
theorem jix {a b c:Tri} (hw:1<=Z.w) (ha:a.pl) (hb:b.pl) (hc:c.pl) (hd:0<dt a b c) (k0:0<=k) (k2:k<=2):sgn (jav k (spt Z a) (spt Z b) (spt Z c))=sgn (uk Z k):=by
 have gp:=xas (xas (jdE hw ha) (jdE hw hb)) (jdE hw hc);have wd:=xas (jkq hw) hd;have e:k=0\/k=1\/k=2:=by omega
 rcases e with rfl | rfl | rfl
 ·refine jit gp wd ?_;rw[jiu];show _=w3 Z*dt a b c*Z.u.x;grind
 ·refine jit gp wd ?_;have z:=jiv Z a b c;show _=w3 Z*dt a b c*-Z.u.y;grind
 ·refine jit gp wd ?_;rw[jiw];show _=w3 Z*dt a b c*Z.u.z;grind
theorem ix_lt {ix:List Nat} (h:Ix ix) {a:Nat} (ha:a<ix.length):ix.getD a 0<8:=by
 rw[xab,xac ha];exact h.2.2.2 _ (xbc ha)
theorem jkr (hk:0<k) (ns:List Int):gl (ns.map (k*·))=k*gl ns:=by
 refine Int.dvd_antisymm (ja7 _) (xaD (by omega) (ja7 _)) ?_ ?_
 ·exact jeb ns 0 _ k (by rw[xbf];exact Int.dvd_zero _) fun n hn=>jaP (xaG.mpr ⟨n,hn,rfl⟩)
 ·refine jeu fun n hn=>?_;obtain⟨m,hm,rfl⟩:=xaG.mp hn;exact Int.mul_dvd_mul (xb0 k) (jaP hm)
theorem jlx (hk:0<k) (ns:List Int):low (ns.map (k*·))=low ns:=by
 unfold low;rw[jkr hk,xbq];refine List.map_congr_left fun n _=>?_;exact Int.mul_ediv_mul_of_pos _ _ hk
theorem jm6 (hf:f<l.length) (hi:i<l.length):pt (rot f l) i=pt l ((f+i) % l.length):=by
 unfold pt rot;rw[xab,xab];by_cases c:f+i<l.length
 ·rw[xak c,xaX (by rw[xaz];omega),List.getElem?_drop]
 ·have e:(f+i) % l.length=f+i-l.length:=by
   rw[Nat.mod_eq_sub_mod (by omega)];exact xak (by omega)
  rw[e,xaE (by rw[xaz];omega),xaz,List.getElem?_take,if_pos (by omega)]
  congr 2
  omega
theorem jbJ (h:i<l.length):pt l i∈l:=by
 unfold pt;rw[xab,xac h];exact xbc h
theorem jks (h:p∈l):∃i,i<l.length/\pt l i=p:=by
 obtain⟨i,hi,e⟩:=xbt.mp h;refine⟨i,hi,?_⟩;unfold pt;rw[xab,xac hi];exact e
theorem jhi {g:Int} (hg:0<g) (e:g*x=y):(0<=y->0<=x)/\(0<y->0<x):=by
 constructor
 ·intro h;apply xap;intro n;have:=xaQ hg (show x<0 by omega);omega
 ·intro h;apply xap;intro n;have:=Int.mul_nonpos_of_nonneg_of_nonpos (show 0<=g by omega) (show x<=0 by omega);omega
theorem SameB.fresh {H3:Hp} (s0:Same H H3) (h:H L=none) (s:SameB L H3 H'):Same H H':=fun b o hb=>s b o (jaz hb h) (s0 b o hb)
theorem jm7 (hw:1<=Z.w) (hv:v.pl):1<=(spt Z v).w:=by
 have W1:0<rW Z v:=xas (by omega) (show 0<v.z by have:1<=v.z:=hv;omega);exact (jhi (jdE hw hv) (jbp Z v).2.2.2).2 W1
theorem Box.keep (h:Box H L) (s:Same H H'):Box H' L:=by
 obtain⟨m,h⟩:=h;exact⟨m,s _ _ h⟩
theorem jly (h:x.natAbs<=y.natAbs) (hy:Bd n y):Bd n x:=xa1 h hy
theorem jm8 {rs:List Addr} (h:i<rs.length):(rs.map V.ref)[i]?=some (.ref (ad rs i)):=by
 unfold ad;rw[xag,xab,xac h];rfl
def ab (n:Int):Int:=if n<0 then -n else n
theorem ix1:∀n,n<18->∀a,a<n->∀f,f<n->∀i,i<n->(a+(f+i) % n) % n=((a+f) % n+i) % n/\(a+(n-(f+i) % n)) % n=((a+(n-f)) % n+(n-i)) % n:=by decide +kernel
theorem ix2:∀n,n<18->∀a,a<n->∀i,i<n->(a+(n-i) % n) % n=(a+(n-i)) % n/\(a+(n-(n-i) % n)) % n=(a+i) % n:=by decide +kernel
theorem ix3:∀n,n<18->∀a,a<n->∀i,i<n->(a+(n-1-i)) % n=((a+(n-1)) % n+(n-i)) % n/\(a+(n-(n-1-i))) % n=((a+1) % n+i) % n:=by decide +kernel
theorem ix4:∀n,n<18->∀a,a<n->∀i,i<n->(a+(i+(n-a)) % n) % n=i/\(a+(n-(a+(n-i)) % n)) % n=i:=by decide +kernel
def Dih (ps qs:List Pt):Prop:=qs.length=ps.length/\∃a,a<ps.length/\((∀i,i<ps.length->pt qs i=pt ps ((a+i) % ps.length))\/(∀i,i<ps.length->pt qs i=pt ps ((a+(ps.length-i)) % ps.length)))
theorem Dih.refl (h:3<=ps.length):Dih ps ps:=⟨rfl,0,by omega,.inl fun i hi=>by rw[xby,xak hi]⟩
theorem Dih.rot (d:Dih ps qs) (n8:ps.length<=17) (hf:f<ps.length):Dih ps (rot f qs):=by
 obtain⟨hl,a,ha,d⟩:=d;have rp:∀i,i<ps.length->pt (My.rot f qs) i=pt qs ((f+i) % ps.length):=fun i hi=>by rw[jm6 (by omega) (by omega),hl]
 have m:∀i,(f+i) % ps.length<ps.length:=fun i=>xaC _ (by omega);refine⟨by rw[jfW (by omega),hl],?_⟩;rcases d with d | d
 ·refine⟨(a+f) % ps.length,xaC _ (by omega),.inl fun i hi=>?_⟩;rw[rp i hi,d _ (m i),(ix1 _ (by omega) a ha f hf i hi).1]
 ·refine⟨(a+(ps.length-f)) % ps.length,xaC _ (by omega),.inr fun i hi=>?_⟩;rw[rp i hi,d _ (m i),(ix1 _ (by omega) a ha f hf i hi).2]
theorem jlz (hi:i<l.length):pt (turn true l) i=pt l ((l.length-i) % l.length):=by
  match l,hi with
  | x :: r, hi =>
    have e:turn true (x::r)=x::r.reverse:=rfl;rw[e];cases i with
    | zero=>rw[Nat.sub_zero,xbg];rfl
    | succ j =>
      have hj:j<r.length:=by simpa using hi
      have e2:((x::r).length-(j+1)) % (x::r).length=r.length-1-j+1:=by
        rw[xao,xak (by omega)];omega
      rw[e2];unfold pt;rw[xab,xab,List.getElem?_cons_succ,List.getElem?_cons_succ,xbM hj]
theorem jjJ (b:Bool):(turn b l).length=l.length:=by
 unfold turn;cases b
 ·rfl
 ·rw[if_pos rfl,xae,xa9,xay,xaz];omega
theorem Dih.turn (d:Dih ps qs) (n8:ps.length<=17) (b:Bool):Dih ps (turn b qs):=by
  cases b with
  | false=>exact d
  | true =>
    obtain⟨hl,a,ha,d⟩:=d;refine⟨by rw[jjJ,hl],a,ha,?_⟩;have tp:∀i,i<ps.length->pt (My.turn true qs) i=pt qs ((ps.length-i) % ps.length):=fun i hi=>by rw[jlz (by omega),hl]
    have m:∀i,(ps.length-i) % ps.length<ps.length:=fun i=>xaC _ (by omega);rcases d with d | d
    . exact .inr fun i hi=>by rw[tp i hi,d _ (m i),(ix2 _ (by omega) a ha i hi).1]
    . exact .inl fun i hi=>by rw[tp i hi,d _ (m i),(ix2 _ (by omega) a ha i hi).2]
theorem jm9 (hi:i<l.length):pt l.reverse i=pt l (l.length-1-i):=by
 unfold pt;rw[xab,xab,xbM hi]
theorem Dih.rev (d:Dih ps qs) (n8:ps.length<=17):Dih ps qs.reverse:=by
 obtain⟨hl,a,ha,d⟩:=d;refine⟨by rw[xa9,hl],?_⟩;have tp:∀i,i<ps.length->pt qs.reverse i=pt qs (ps.length-1-i):=fun i hi=>by rw[jm9 (by omega),hl]
 rcases d with d | d
 ·exact⟨(a+(ps.length-1)) % ps.length,xaC _ (by omega),.inr fun i hi=>by rw[tp i hi,d _ (by omega),(ix3 _ (by omega) a ha i hi).1]⟩
 ·exact⟨(a+1) % ps.length,xaC _ (by omega),.inl fun i hi=>by rw[tp i hi,d _ (by omega),(ix3 _ (by omega) a ha i hi).2]⟩
theorem fF_lt (h:3<=ps.length):fF ps<ps.length:=by have:=jeW ps (ps.length-1);unfold fF;omega
theorem Dih.frm (d:Dih ps qs) (n3:3<=ps.length) (n8:ps.length<=17):Dih ps (frm qs qs) :=
 (d.rot n8 (by have:=fF_lt (ps:=qs) (by rw[d.1];exact n3);rw[d.1] at this;exact this)).turn n8 _
theorem Dih.mem (d:Dih ps qs) (n8:ps.length<=17) :p∈qs↔p∈ps:=by
 obtain⟨hl,a,ha,d⟩:=d;constructor
 ·intro h;obtain⟨i,hi,rfl⟩:=jks h;rcases d with d | d
  ·rw[d i (by omega)];exact jbJ (xaC _ (by omega))
  ·rw[d i (by omega)];exact jbJ (xaC _ (by omega))
 ·intro h;obtain⟨i,hi,rfl⟩:=jks h;rcases d with d | d
  ·have z:=d ((i+(ps.length-a)) % ps.length) (xaC _ (by omega));rw[(ix4 _ (by omega) a ha i hi).1] at z;rw[<- z];exact jbJ (by rw[hl];exact xaC _ (by omega))
  ·have z:=d ((a+(ps.length-i)) % ps.length) (xaC _ (by omega));rw[(ix4 _ (by omega) a ha i hi).2] at z;rw[<- z];exact jbJ (by rw[hl];exact xaC _ (by omega))
theorem jbj (h:3<=n):∃k,k<n/\j≠k/\i≠k:=by
 by_cases h0:i=0\/j=0
 ·by_cases h1:i=1\/j=1
  ·exact⟨2,by omega,by omega,by omega⟩
  ·exact⟨1,by omega,by omega,by omega⟩
 ·exact⟨0,by omega,by omega,by omega⟩
def sm (h:Nat->Int):Nat->Int
 | 0=>0
 | n+1=>sm h n+h n
def c2 (v v':Tri):Int:=v.x*v'.y-v.y*v'.x
def jna (r:Pt):Pt:=if r.w<0 then ⟨-r.x / gl [-r.x,-r.y,-r.z,-r.w],-r.y / gl [-r.x,-r.y,-r.z,-r.w],-r.z / gl [-r.x,-r.y,-r.z,-r.w],-r.w / gl [-r.x,-r.y,-r.z,-r.w]⟩ else ⟨r.x / gl [r.x,r.y,r.z,r.w],r.y / gl [r.x,r.y,r.z,r.w],r.z / gl [r.x,r.y,r.z,r.w],r.w / gl [r.x,r.y,r.z,r.w]⟩
def jjK:Sp:=fun vs H Q _=>∃r:Pt,vs=[.int r.x,.int r.y,.int r.z,.int r.w]/\r.sm/\r.w≠0/\∀(g:Addr) (H':Hp),Same H H'->Is4 H' g (jna r)->Q (.ref g) H'
theorem Sm2.neg {i:Int} (h:Sm2 i):Sm2 (-i):=by unfold Sm2 at *;rw[xb3];exact h
theorem Sm2.small {i:Int} (h:Sm2 i):Small i:=h.bd
theorem jnb (T:Tx K mg t1 t2) (F:At K mg "made_spot" jbg ["x","y","z","w"] []) (dn:jam P w K mg base CX0 2 "in_lowest_terms" ["numbers"] [] jjx):jam P w K mg base CX0 3 "made_spot" ["x","y","z","w"] [] jjK:=by
 refine F.ok jdz (fun vs H Q E h=>?_) (fun f cdv A outer s H vs Q E hr h=>?_)
 ·obtain⟨r,rfl,_⟩:=h;rfl
 obtain⟨⟨x,y,z,w⟩,rfl,⟨sx,sy,sz,sw⟩,w0,q⟩:=h;have S:=jdz;refine⟨_,(jag (jaQ (jaq jdF (pv 3) jab (jay _))
  jbv
  jaw)
  (jag (jaQ (jaq jgR (pv 3) jab (jay _))
  (jai (jap (jah dn hr.m rfl jau (jaa (jaH (jaa (jdN jcj (pv 0)) (jaa (jdN jcj (pv 1)) (jaa (jdN jcj (pv 2)) (jaa (jdN jcj (pv 3)) jac jh4) jh4) jh4) jh4)) jac jaE))))
  jaw)
  (jai (jap (jah dn hr.m rfl jau (jaa (jaH (jaa (pv 0) (jaa (pv 1) (jaa (pv 2) (jaa (pv 3) jac jae) jae) jae) jae)) jac jaE)))))),?_⟩
 walk_at "rf";have w0':¬w=0:=w0;rw[if_neg w0'];by_cases c:w<0
 ·rw[if_pos c];refine⟨by decide,fun p hp=>?_⟩;refine⟨p,[-x,-y,-z,-w],rfl,jaf,by simp,mem4 sx.neg.small sy.neg.small sz.neg.small sw.neg.small,?_,fun r H' h1 h2=>q r H' ((Same.new hp _).trans h1) ?_⟩
  ·have:=jdy (ns:=[-x,-y,-z,-w]) (n:=-w) (by simp) (by omega);omega
  ·have e:jna ⟨x,y,z,w⟩=_:=if_pos c;rw[e];exact⟨h2,sx.neg.div,sy.neg.div,sz.neg.div,sw.neg.div⟩
 ·rw[if_neg c];refine⟨by decide,fun p hp=>?_⟩;refine⟨p,[x,y,z,w],rfl,jaf,by simp,mem4 sx.small sy.small sz.small sw.small,?_,fun r H' h1 h2=>q r H' ((Same.new hp _).trans h1) ?_⟩
  ·have:=jdy (ns:=[x,y,z,w]) (n:=w) (by simp) (by omega);omega
  ·have e:jna ⟨x,y,z,w⟩=_:=if_neg c;rw[e];exact⟨h2,sx.div,sy.div,sz.div,sw.div⟩
def Pt.bd (n:Nat) (p:Pt):Prop:=Bd n p.x/\Bd n p.y/\Bd n p.z/\Bd n p.w
def Prs (H:Hp) (es:List Addr) (ds:List (Pt × Int)):Prop:=es.length=ds.length/\∀i,i<ds.length->∃r:Addr,H (ad es i)=some (.tup [.ref r,.int (ds.getD i (⟨0,0,0,0⟩,0)).2])/\Is4 H r (ds.getD i (⟨0,0,0,0⟩,0)).1
theorem SameB.tup {sd:Addr} (s:SameB sd H J) (h:H sd=some (.lst xs)) (k:H r=some (.tup ys)):J r=some (.tup ys):=s _ _ (fun e=>by rw[<- e,k] at h;cases h) k
variable {ds:List (Pt × Int)}
theorem Prs.keep {es:List Addr} (h:Prs H es ds) (s:Same H H'):Prs H' es ds:=⟨h.1,fun i hi=>by
 obtain⟨r,h1,h2⟩:=h.2 i hi;exact⟨r,s _ _ h1,h2.keep s⟩⟩
theorem Prs.snoc {sd p:Addr} {os:List Addr} {q:Pt} {s:Int} (h:Prs J os ds) (hsd:J sd=some (.lst xs)) (hp:J p=some (.tup [.ref r,.int s])) (hr:Is4 J r q):Prs (upd J sd (.lst ys)) (os++[p]) (ds++[(q,s)]):=by
 have ne:∀{a:Addr} {zs:List V},J a=some (.tup zs)->a≠sd:=fun h e=>by rw[e,hsd] at h;cases h
 refine⟨by rw[xae,xae,h.1];rfl,fun i hi=>?_⟩;rw[xae,List.length_singleton] at hi;by_cases c:i<ds.length
 ·obtain⟨r',h1,h2⟩:=h.2 i c;have e1:ad (os++[p]) i=ad os i:=by
   unfold ad;rw[xab,xab,xaX (by rw[h.1];exact c)]
  have e2:(ds++[(q,s)]).getD i (⟨0,0,0,0⟩,0)=ds.getD i (⟨0,0,0,0⟩,0):=by
   rw[xab,xab,xaX c]
  rw[e1,e2];exact⟨r',by rw[jaA (ne h1)];exact h1,by rw[jaA (ne h2.1)];exact h2.1,h2.2⟩
 ·have ei:i=ds.length:=by omega
  subst ei;have e1:ad (os++[p]) ds.length=p:=by
   unfold ad;rw[xab,xaE (by rw[h.1];exact xad _),h.1,Nat.sub_self];rfl
  have e2:(ds++[(q,s)]).getD ds.length (⟨0,0,0,0⟩,0)=(q,s):=by
   rw[xab,xaE (xad _),Nat.sub_self];rfl
  rw[e1,e2];exact⟨r,by rw[jaA (ne hp)];exact hp,by rw[jaA (ne hr.1)];exact hr.1,hr.2⟩
variable {ρ σ:L2.St}
variable {te:TE}
theorem jjL {a:Addr} {zs:List V} {g:TG} {tt:TT} {acc:Addr} {Z:Hp->Prop} (f:Nat->V) (c:Nat->Bool) (hn:zs.length<1000) (hacc:H1 acc=none) (hz:SqL K H1 a zs)
  (hs:∀(i:Nat) (z:V) (v0:L2.St) (H3:Hp) (Rt:V->Hp->Prop) (Rn:Hp->Prop),zs[i]?=some z->v0.length=n->Same H1 H3->(c i=true->∀H4,Same H3 H4->Rt (f i) H4)->(c i=false->∀H4,Same H3 H4->Rn H4)->g z (v0++ρ) H3 fun σ2 H2=>(∃v:L2.St,v.length=n/\σ2=v++ρ)/\tt σ2 H2 fun b H3=>if b=true then te σ2 H3 Rt else Rn H3)
  (hd:∀H',Same H1 H'->H' acc=some (.lst (((List.range zs.length).filter c).map f))->Z H'):jcY (Itl K a) n ρ g tt te acc Z H1:=by
 refine⟨fun i m xs H=>(Same H1 H/\H acc=some (.lst xs)/\xs=((List.range i).filter c).map f)/\i<=zs.length/\m=zs.length-i,⟨zs.length,⟨Same.new hacc _,jaf,rfl⟩,xar _,rfl⟩,?_⟩;rintro i m xs H ⟨⟨g1,g2,rfl⟩,hi,rfl⟩;have sq:=g1.seq hz;have hl:(((List.range i).filter c).map f).length<sizeLine:=jaM (by
  rw[xaa];have:=xbL c (List.range i);rw[xbj] at this;omega)
 by_cases hlt:i<zs.length
 ·have ez:zs[i]?=some zs[i]:=xac hlt;refine .inr ⟨⟨zs,zs[i],sq,ez⟩,(fun y H4=>y=f i/\c i=true/\Same H1 H4/\H4 acc=some (.lst (((List.range i).filter c).map f))),fun H3=>c i=false/\Same H1 H3/\H3 acc=some (.lst (((List.range i).filter c).map f)),?_,?_,?_⟩
  ·rintro y H4 ⟨rfl,ci,s4,a4⟩;refine⟨a4,hl,zs.length-(i+1),by omega,⟨Same.keepN s4 hacc _,jaf,?_⟩,hlt,rfl⟩;rw[xaK,xau,xal,xaF,if_pos ci];rfl
  ·rintro H3 ⟨ci,s3,a3⟩;refine⟨zs.length-(i+1),by omega,⟨s3,a3,?_⟩,hlt,rfl⟩;rw[xaK,xau,xal,xaF,if_neg (by rw[ci];decide)];simp
  ·rintro v0 x H' l0 ⟨rfl,hx⟩;have ex:x=zs[i]:=by
    have z:=hx zs sq;rw[ez] at z;exact (Option.some.inj z).symm
   subst ex;exact hs i _ v0 H' _ _ ez l0 g1 (fun ci H4 s4=>⟨rfl,ci,g1.trans s4,s4 _ _ g2⟩) (fun ci H4 s4=>⟨ci,g1.trans s4,s4 _ _ g2⟩)
 ·have e:i=zs.length:=by omega
  subst e;exact .inl ⟨⟨zs,sq,xad _⟩,hd _ g1 g2⟩
theorem jgC {H:Hp} {ds:List (Pt × Int)} {r:Nat->Addr} (c:Int->Bool):∀n,n<=ds.length->(∀i,i<ds.length->Is4 H (r i) (ds.getD i (⟨0,0,0,0⟩,0)).1)->Sps H (((List.range n).filter fun i=>c (ds.getD i (⟨0,0,0,0⟩,0)).2).map r) (((ds.take n).filter fun d=>c d.2).map (·.1))
  | 0, _, _ => by
    rw[List.take_zero];exact .nil
  | n + 1, hn, h => by
    have ih:=jgC c n (by omega) h;have eg:ds[n]?=some (ds.getD n (⟨0,0,0,0⟩,0)):=by
      rw[xab,xac (by omega)];rfl
    rw[xa6,eg,xaK,xau,xal,xau,xal];refine ih.app ?_;show Sps H ((List.filter _ [n]).map r) ((List.filter _ [ds.getD n (⟨0,0,0,0⟩,0)]).map (·.1));cases cc:c (ds.getD n (⟨0,0,0,0⟩,0)).2 with
    | true =>
      rw[xaF,if_pos cc,xaF,if_pos cc];exact .cons (h n (by omega)) .nil
    | false =>
      rw[xaF,if_neg (by rw[cc];decide),xaF,if_neg (by rw[cc];decide)];exact .nil
theorem kept {acc:Addr} {es:List Addr} {tt:TT} {Z:Hp->Prop} (c:Int->Bool) (e2:H1 L=some (.lst (es.map V.ref))) (hP:Prs H1 es ds) (hl:ds.length<=100) (hacc:H1 acc=none)
    (ht:∀(r:Addr) (s:Int) (H:Hp) (R:Bool->Hp->Prop),R (c s) H->tt [some (.ref r),some (.int s)] H R)
    (hd:∀(H':Hp) (rs:List Addr),Same H1 H'->H' acc=some (.lst (rs.map V.ref))->Sps H' rs ((ds.filter fun d=>c d.2).map (·.1))->Z H'):jcY (Itl K L) 2 [] (jkQ K 2 (jfL (jcg 0) (jfL (jcg 1) jl8))) tt (jkP 0) acc Z H1:=by
  obtain⟨r,hr⟩:∃r:Nat->Addr,∀i,i<ds.length->H1 (ad es i)=some (.tup [.ref (r i),.int (ds.getD i (⟨0,0,0,0⟩,0)).2])/\Is4 H1 (r i) (ds.getD i (⟨0,0,0,0⟩,0)).1:=⟨fun i=>if h:i<ds.length then (hP.2 i h).choose else 0,fun i hi=>by simp only[dif_pos hi];exact (hP.2 i hi).choose_spec⟩;refine jjL (fun i=>V.ref (r i)) (fun i=>c (ds.getD i (⟨0,0,0,0⟩,0)).2) (by rw[xaa,hP.1];omega) hacc (SqL.of e2) (fun i z v0 H3 Rt Rn hz l0 s3 ht' hn'=>?_) (fun H' s' e'=>?_)
  . have il:i < es.length:=by have:=(xaj.mp hz).1; rw[xaa] at this; exact this
    rw[jm8 il] at hz;cases hz;obtain⟨h1,h2⟩:=hr i (by rw[<- hP.1];exact il)
    match v0,l0 with
    | [u, v], _ =>
      refine⟨_,_,rfl,SqT.of (s3 _ _ h1),rfl,_,_,rfl,_,_,rfl,rfl,?_⟩;refine⟨⟨[some (V.ref (r i)),some (V.int (ds.getD i (⟨0,0,0,0⟩,0)).2)],rfl,rfl⟩,ht (r i) _ H3 _ ?_⟩;cases cc:c (ds.getD i (⟨0,0,0,0⟩,0)).2 with
      | true =>
        rw[if_pos rfl];exact⟨_,rfl,ht' cc H3 (Same.refl _)⟩
      | false =>
        rw[if_neg (by decide)];exact hn' cc H3 (Same.refl _)
  . rw[xaa,hP.1] at e'
    have sp:=jgC (H:=H') (r:=r) c ds.length (xad _) fun i hi=>(hr i hi).2.keep s';rw[xaT] at sp;exact hd H' _ s' (by rw[xbq];exact e') sp
inductive RR {α:Type}:List α->List α->Prop
 | refl (l:List α):RR l l
 | rot {l m:List α} (k:Nat) (h:RR l m):RR l (m.drop k++m.take k)
 | rev {l m:List α} (h:RR l m):RR l m.reverse
theorem RR.trans {α:Type} {l m n:List α} (h:RR l m) (k:RR m n):RR l n:=by
 induction k with
 | refl=>exact h
 | rot k _ ih=>exact .rot k ih
 | rev _ ih=>exact .rev ih
theorem RR.len {α:Type} {l m:List α} (h:RR l m):m.length=l.length:=by
 induction h with
 | refl=>rfl
 | rot k _ ih=>rw[xae,xaz,xay,<- ih];omega
 | rev _ ih=>rw[xa9,ih]
theorem RR.mem {α:Type} {l m:List α} (h:RR l m) {x:α}:x∈m↔x∈l:=by
  induction h with
  | refl=>exact Iff.rfl
  | @rot m k _ ih =>
    rw[<- ih,xaJ,Or.comm,<- xaJ,xa0]
  | rev _ ih=>rw[List.mem_reverse,ih]
theorem jeX {α:Type} (m:List α) {k:Nat} (h:m.length<=k):m.drop k++m.take k=m:=by
 rw[xbF h,xaV h,List.nil_append]
theorem jjM {α:Type} (m:List α) {k:Nat} (h:k<=m.length):(m.drop k++m.take k).drop (m.length-k)++(m.drop k++m.take k).take (m.length-k)=m:=by
 have ld:(m.drop k).length=m.length-k:=xaz;have e1:(m.drop k++m.take k).drop (m.length-k)=m.take k:=by rw[<- ld,xbJ]
 have e2:(m.drop k++m.take k).take (m.length-k)=m.drop k:=by rw[<- ld,xbK]
 rw[e1,e2,xa0]
theorem RR.symm {α:Type} {l m:List α} (h:RR l m):RR m l:=by
  induction h with
  | refl=>exact .refl _
  | @rot m k _ ih =>
    by_cases c:k<=m.length
    . have z:=RR.rot (l:=m.drop k++m.take k) (m.length-k) (.refl _)
      rw[jjM m c] at z;exact z.trans ih
    . rw[jeX m (by omega)]
      exact ih
  | @rev m _ ih =>
    have z:=RR.rev (l:=m.reverse) (.refl _);rw[List.reverse_reverse] at z;exact z.trans ih
theorem RR.fm {α β:Type} (f:α->Option β) {l m:List α} (h:RR l m):RR (l.filterMap f) (m.filterMap f):=by
  induction h with
  | refl=>exact .refl _
  | @rot m k _ ih =>
    have z:=RR.rot ((m.take k).filterMap f).length ih;have e:m.filterMap f=(m.take k).filterMap f++(m.drop k).filterMap f:=by rw[<- List.filterMap_append,xa0]
    rw[e,xbJ,xbK,<- List.filterMap_append] at z;exact z
  | @rev m _ ih =>
    rw[List.filterMap_reverse];exact .rev ih
theorem RR.map {α β:Type} (f:α->β) {l m:List α} (h:RR l m):RR (l.map f) (m.map f):=by
 induction h with
 | refl=>exact .refl _
 | rot k _ ih=>rw[xal,xb6,xb7];exact .rot k ih
 | rev _ ih=>rw[List.map_reverse];exact .rev ih
def nxt {α:Type}:List α->α->List (α × α)
 | [],_=>[]
 | [x],a=>[(x,a)]
 | x::y::r,a=>(x,y)::nxt (y::r) a
def prs {α:Type}:List α->List (α × α)
 | []=>[]
 | x::r=>nxt (x::r) x
theorem jeY {α:Type} (a:α):∀(l:List α) (y:α) (r:List α),nxt (l++y::r) a=nxt l y++nxt (y::r) a
  | [],y,r=>rfl
  | [x],y,r=>rfl
  | x :: x' :: l, y, r => by
    show (x,x')::nxt (x'::l++y::r) a=_;rw[jeY a (x'::l) y r];rfl
theorem jlA {α:Type} (m:List α) (k:Nat):prs (m.drop k++m.take k)=(prs m).drop k++(prs m).take k:=by
  by_cases c:k<m.length
  . match k with
    | 0=>simp
    | k + 1 =>
      match m,c with
      | x :: r, c =>
        have c:k<r.length:=by simpa using c
        have e:x::r=(x::r.take k)++r.drop k:=by rw[List.cons_append,xa0]
        cases e2:r.drop k with
        | nil=>have:=congrArg List.length e2;rw[xaz] at this;simp at this;omega
        | cons y s =>
          rw[e2] at e;have l1:(x::r.take k).length=k+1:=by rw[xao,xay];omega
          have ln:∀(l:List α) (a:α),(nxt l a).length=l.length:=fun l a=>by
            induction l with
            | nil=>rfl
            | cons z t ih => cases t with
              | nil=>rfl
              | cons z' t'=>show (nxt (z'::t') a).length+1=_;rw[ih];rfl
          have d1:(x::r).drop (k+1)=y::s:=by show r.drop k=_;exact e2
          have t1:(x::r).take (k+1)=x::r.take k:=rfl;rw[d1,t1];show nxt (y::s++x::r.take k) y=_;rw[jeY];have p:prs (x::r)=nxt (x::r.take k) y++nxt (y::s) x:=by
            show nxt (x::r) x=_;rw[e,jeY]
          have l2:(nxt (x::r.take k) y).length=k+1:=by rw[ln,l1]
          rw[p,<- l2,xbJ,xbK]
  . have lp:(prs m).length=m.length:=by
      have ln:∀(l:List α) (a:α),(nxt l a).length=l.length:=fun l a=>by
        induction l with
        | nil=>rfl
        | cons z t ih => cases t with
          | nil=>rfl
          | cons z' t'=>show (nxt (z'::t') a).length+1=_;rw[ih];rfl
      cases m with
      | nil=>rfl
      | cons x r=>exact ln _ _
    rw[jeX m (by omega),jeX (prs m) (by omega)]
def TT {α:Type} (l:List (α × α)):List (α ⊕ α × α):=l.flatMap fun e=>[.inl e.1,.inr e]
def op {α:Type}:List α->List (α × α)
 | []=>[]
 | [_]=>[]
 | x::y::r=>(x,y)::op (y::r)
theorem jkt {α:Type} (a:α):∀l:List α,nxt l a=op (l++[a])
  | []=>rfl
  | [x]=>rfl
  | x :: y :: r => by
    show (x,y)::nxt (y::r) a=(x,y)::op (y::r++[a]);rw[jkt a (y::r)]
def Tp (c:Nat->Tri) (n:Nat):Prop:=∀i j k,i<j->j<k->k<n->0<dt (c i) (c j) (c k)
theorem jeZ (a b c:Tri):dt a b c=dt b c a:=by
 unfold dt jbF;grind
theorem jcE (a b:Tri):dt a a b=0/\dt a b b=0/\dt a b a=0:=by
 unfold dt jbF;refine⟨?_,?_,?_⟩<;>grind
def je7 (a:Int) (p:Tri) (b:Int) (q:Tri):Tri:=⟨a*p.x+b*q.x,a*p.y+b*q.y,a*p.z+b*q.z⟩
theorem jfz (x y p q:Tri) (a b:Int):dt x y (je7 a p b q)=a*dt x y p+b*dt x y q:=by
 unfold je7 dt jbF;grind
theorem jiy (x y p q:Tri) (a b:Int):dt (je7 a p b q) x y=a*dt p x y+b*dt q x y:=by
 unfold je7 dt jbF;grind
theorem jfX (x y p q:Tri) (a b:Int):dt x (je7 a p b q) y=a*dt x p y+b*dt x q y:=by
 unfold je7 dt jbF;grind
theorem dt8 (p1 q1 p2 q2 p3 q3:Tri) (a1 b1 a2 b2 a3 b3:Int):dt (je7 a1 p1 b1 q1) (je7 a2 p2 b2 q2) (je7 a3 p3 b3 q3) =
  a1*(a2*(a3*dt p1 p2 p3)+a2*(b3*dt p1 p2 q3)+(b2*(a3*dt p1 q2 p3)+b2*(b3*dt p1 q2 q3)))+b1*(a2*(a3*dt q1 p2 p3)+a2*(b3*dt q1 p2 q3)+(b2*(a3*dt q1 q2 p3)+b2*(b3*dt q1 q2 q3))):=by
 rw[jiy,jfX,jfX,jfz,jfz,jfz,jfz];grind
def cw (c:Nat->Tri) (n k:Nat):Tri:=c (k % n)
theorem cw_lt {c:Nat->Tri} {k:Nat} (h:k<n):cw c n k=c k:=by unfold cw;rw[xak h]
theorem cw_n {c:Nat->Tri} :cw c n n=c 0:=by unfold cw;rw[xbg]
theorem D_p {c:Nat->Tri} {k:Nat} (h:Tp c n) (ij:i<j) (jk:j<k) (kn:k<=n) (w:¬(i=0/\k=n)):0<dt (cw c n i) (cw c n j) (cw c n k):=by
 rw[cw_lt (show i<n by omega),cw_lt (show j<n by omega)];by_cases e:k=n
 ·subst e;rw[cw_n,<- jeZ];exact h 0 i j (by omega) ij (by omega)
 ·rw[cw_lt (show k<n by omega)];exact h i j k ij jk (by omega)
theorem D_n {c:Nat->Tri} {k:Nat} (h:Tp c n) (ij:i<=j) (jk:j<=k) (kn:k<=n):0<=dt (cw c n i) (cw c n j) (cw c n k):=by
 by_cases e1:i=j
 ·subst e1;rw[(jcE _ _).1];exact xba _
 ·by_cases e2:j=k
  ·subst e2;rw[(jcE _ _).2.1];exact xba _
  ·by_cases w:i=0/\k=n
   ·obtain⟨rfl,rfl⟩:=w;have z:cw c k k=cw c k 0:=by unfold cw;rw[xbg,Nat.zero_mod]
    rw[z,(jcE _ _).2.2];exact xba _
   ·exact xbO (D_p h (by omega) (by omega) kn w)
theorem jcF {b c:Int} (ha:0<=a) (hb:0<=b) (hc:0<=c) (h:a=0\/b=0\/c=0\/0<=d):0<=a*(b*(c*d)):=by
 rcases h with rfl | rfl | rfl | h
 ·rw[xaS];exact xba _
 ·rw[xaS,xbf];exact xba _
 ·rw[xaS,xbf,xbf];exact xba _
 ·exact xaD ha (xaD hb (xaD hc h))
theorem jfA {b c:Int} (ha:0<a) (hb:0<b) (hc:0<c) (h:0<d):0<a*(b*(c*d)):=xas ha (xas hb (xas hc h))
structure On (c:Nat->Tri) (n:Nat) (i:Nat) (e:Bool) (v:Tri):Prop where
 lt:i<n
 is:∃a b:Int,v=je7 a (cw c n i) b (cw c n (i+1))/\0<a/\(e=false->b=0)/\(e=true->0<b)
theorem On.tri {c:Nat->Tri} {k:Nat} {e f g:Bool} {u w:Tri} (n3:3<=n) (h:Tp c n) (hu:On c n i e u) (hv:On c n j f v) (hw:On c n k g w)
  (ij:i<j\/(i=j/\e=false/\f=true)) (jk:j<k\/(j=k/\f=false/\g=true)) (b1:¬(i=j/\k=j+1/\e=false/\f=true/\g=false)) (b2:¬(i=0/\j=n-1/\k=n-1/\e=false/\f=false/\g=true)):0<dt u v w:=by
 obtain⟨hi,x1,y1,rfl,p1,z1,s1⟩:=hu;obtain⟨hj,x2,y2,rfl,p2,z2,s2⟩:=hv;obtain⟨hk,x3,y3,rfl,p3,z3,s3⟩:=hw;have q1:0<=y1:=by cases e with | false=>rw[z1 rfl];exact xba _ | true=>have:=s1 rfl;omega
 have q2:0<=y2:=by cases f with | false=>rw[z2 rfl];exact xba _ | true=>have:=s2 rfl;omega
 have q3:0<=y3:=by cases g with | false=>rw[z3 rfl];exact xba _ | true=>have:=s3 rfl;omega
 have N:∀{a b d:Nat},a<=b->b<=d->d<=n->0<=dt (cw c n a) (cw c n b) (cw c n d):=fun h1 h2 h3=>D_n h h1 h2 h3;have ij':i<j\/y1=0:=by
  rcases ij with r | ⟨r1,r2,r3⟩
  ·exact .inl r
  ·exact .inr (z1 r2)
 have ij0:i<=j:=ij.elim xaO fun r=>Nat.le_of_eq r.1;have jk':j<k\/y2=0:=by
  rcases jk with r | ⟨r1,r2,r3⟩
  ·exact .inl r
  ·exact .inr (z2 r2)
 have jk0:j<=k:=jk.elim xaO fun r=>Nat.le_of_eq r.1;rw[dt8];have t1:0<=x1*(x2*(x3*dt (cw c n i) (cw c n j) (cw c n k))):=jcF (by omega) (by omega) (by omega) (.inr (.inr (.inr (N ij0 jk0 (by omega)))));have t2:0<=x1*(x2*(y3*dt (cw c n i) (cw c n j) (cw c n (k+1)))):=jcF (by omega) (by omega) q3 (.inr (.inr (.inr (N ij0 (by omega) (by omega)))));have t3:0<=x1*(y2*(x3*dt (cw c n i) (cw c n (j+1)) (cw c n k))):=jcF (by omega) q2 (by omega) (by
  rcases jk' with r | r
  ·exact .inr (.inr (.inr (N (by omega) (by omega) (by omega))))
  ·exact .inr (.inl r))
 have t4:0<=x1*(y2*(y3*dt (cw c n i) (cw c n (j+1)) (cw c n (k+1)))):=jcF (by omega) q2 q3 (.inr (.inr (.inr (N (by omega) (by omega) (by omega)))));have t5:0<=y1*(x2*(x3*dt (cw c n (i+1)) (cw c n j) (cw c n k))):=jcF q1 (by omega) (by omega) (by
  rcases ij' with r | r
  ·exact .inr (.inr (.inr (N (by omega) (by omega) (by omega))))
  ·exact .inl r)
 have t6:0<=y1*(x2*(y3*dt (cw c n (i+1)) (cw c n j) (cw c n (k+1)))):=jcF q1 (by omega) q3 (by
  rcases ij' with r | r
  ·exact .inr (.inr (.inr (N (by omega) (by omega) (by omega))))
  ·exact .inl r)
 have t7:0<=y1*(y2*(x3*dt (cw c n (i+1)) (cw c n (j+1)) (cw c n k))):=jcF q1 q2 (by omega) (by
  rcases jk' with r | r
  ·exact .inr (.inr (.inr (N (by omega) (by omega) (by omega))))
  ·exact .inr (.inl r))
 have t8:0<=y1*(y2*(y3*dt (cw c n (i+1)) (cw c n (j+1)) (cw c n (k+1)))):=jcF q1 q2 q3 (.inr (.inr (.inr (N (by omega) (by omega) (by omega)))));have P:∀{a b d:Nat},a<b->b<d->d<=n->¬(a=0/\d=n)->0<dt (cw c n a) (cw c n b) (cw c n d):=fun h1 h2 h3 h4=>D_p h h1 h2 h3 h4;have S:0<x1*(x2*(x3*dt (cw c n i) (cw c n j) (cw c n k)))\/0<x1*(x2*(y3*dt (cw c n i) (cw c n j) (cw c n (k+1))))\/0<x1*(y2*(x3*dt (cw c n i) (cw c n (j+1)) (cw c n k)))\/0<x1*(y2*(y3*dt (cw c n i) (cw c n (j+1)) (cw c n (k+1))))\/0<y1*(x2*(y3*dt (cw c n (i+1)) (cw c n j) (cw c n (k+1)))):=by
  by_cases c1:i<j
  ·by_cases c2:j<k
   ·exact .inl (jfA p1 p2 p3 (P c1 c2 (by omega) (by omega)))
   ·obtain⟨r1,r2,r3⟩:=jk.resolve_left c2;by_cases c3:i=0/\k+1=n
    ·cases e with
     | false=>exact absurd ⟨c3.1,by omega,by omega,rfl,r2,r3⟩ b2
     | true=>exact .inr (.inr (.inr (.inr (jfA (s1 rfl) p2 (s3 r3) (P (by omega) (by omega) (by omega) (by omega))))))
    ·exact .inr (.inl (jfA p1 p2 (s3 r3) (P c1 (by omega) (by omega) c3)))
  ·obtain⟨r1,r2,r3⟩:=ij.resolve_left c1;have c2:j<k:=by
    rcases jk with r | ⟨_,r,_⟩
    ·exact r
    ·rw[r3] at r;cases r
   by_cases c4:j+1<k
   ·exact .inr (.inr (.inl (jfA p1 (s2 r3) p3 (P (by omega) c4 (by omega) (by omega)))))
   ·cases g with
    | false=>exact absurd ⟨r1,by omega,r2,r3,rfl⟩ b1
    | true=>exact .inr (.inr (.inr (.inl (jfA p1 (s2 r3) (s3 rfl) (P (by omega) (by omega) (by omega) (by omega))))))
 rw[xbX,xbX,xbX,xbX,xbX,xbX];omega
def kp (H:Nat->Int) (n p:Nat):Bool:=if p % 2=0 then decide (0<=H (p / 2)) else decide (H (p / 2)*H ((p / 2+1) % n)<0)
def xpt (c:Nat->Tri) (H:Nat->Int) (n i:Nat):Tri:=je7 (ab (H ((i+1) % n))) (c i) (ab (H i)) (c ((i+1) % n))
def el (c:Nat->Tri) (H:Nat->Int) (n p:Nat):Tri:=if p % 2=0 then c (p / 2) else xpt c H n (p / 2)
def clp (H:Nat->Int) (n:Nat):List Nat:=(List.range (2*n)).filter (kp H n)
def clip (c:Nat->Tri) (H:Nat->Int) (n i:Nat):Tri:=el c H n ((clp H n).getD i 0)
theorem jjN (p q:Tri):p=je7 1 p 0 q:=by
 unfold je7;simp
theorem jdj {b:Int} (h:a*b<0):a≠0/\b≠0/\¬(0<=a/\0<=b)/\¬(a<=0/\b<=0):=by
 refine⟨fun e=>?_,fun e=>?_,fun e=>?_,fun e=>?_⟩
 ·rw[e,xaS] at h;omega
 ·rw[e,xbf] at h;omega
 ·have:=xaD e.1 e.2;omega
 ·have:=Int.mul_nonneg_of_nonpos_of_nonpos e.1 e.2;omega
theorem jbR {n:Int} (h:n≠0):0<ab n:=by
 unfold ab;split<;>omega
theorem jlB {c:Nat->Tri} {H:Nat->Int} {p:Nat} (hp:p<2*n) (h:p % 2=0\/H (p / 2)*H ((p / 2+1) % n)<0):On c n (p / 2) (decide (p % 2=1)) (el c H n p):=by
 have hl:p / 2<n:=by omega
 refine⟨hl,?_⟩;unfold el;by_cases e:p % 2=0
 ·rw[if_pos e,decide_eq_false (by omega),cw_lt hl];exact⟨1,0,jjN _ _,by decide,(fun _=>rfl),(fun h=>by cases h)⟩
 ·rw[if_neg e,decide_eq_true (by omega),cw_lt hl];obtain⟨h1,h2,_,_⟩:=jdj (h.resolve_left e);exact⟨_,_,rfl,jbR h2,(fun h=>by cases h),fun _=>jbR h1⟩
theorem clp_mem {H:Nat->Int} {p:Nat}:p∈clp H n↔p<2*n/\kp H n p=true:=by
 unfold clp;rw[xbT,xbh]
theorem jeC (H:Nat->Int) (n:Nat):(clp H n).Pairwise (· < ·):=List.pairwise_lt_range.sublist List.filter_sublist
theorem je0 {l:List Nat} (h:i<l.length):l.getD i 0∈l:=by
 rw[xab,xac h];exact xbc h
theorem jiz {l:List Nat} (hs:l.Pairwise (· < ·)) (ij:i<j) (hj:j<l.length):l.getD i 0<l.getD j 0:=by
 have z:=List.pairwise_iff_getElem.mp hs i j (by omega) hj ij;rw[xab,xab,xac (by omega),xac hj];exact z
theorem jlC {H:Nat->Int} {p:Nat} (h:kp H n p=true):(p % 2=0/\0<=H (p / 2))\/(p % 2=1/\H (p / 2)*H ((p / 2+1) % n)<0):=by
 unfold kp at h;by_cases e:p % 2=0
 ·rw[if_pos e] at h;exact .inl ⟨e,of_decide_eq_true h⟩
 ·rw[if_neg e] at h;exact .inr ⟨by omega,of_decide_eq_true h⟩
theorem jlD {c:Nat->Tri} {H:Nat->Int} (n3:3<=n) (h:Tp c n):Tp (clip c H n) (clp H n).length:=by
 intro i j k ij jk kn;have m1:=clp_mem.mp (je0 (l:=clp H n) (i:=i) (by omega));have m2:=clp_mem.mp (je0 (l:=clp H n) (i:=j) (by omega));have m3:=clp_mem.mp (je0 (l:=clp H n) (i:=k) kn);have o1:=jiz (jeC H n) ij (by omega);have o2:=jiz (jeC H n) jk kn;unfold clip;generalize (clp H n).getD i 0=p at *
 generalize (clp H n).getD j 0=q at *
 generalize (clp H n).getD k 0=r at *
 have kp1:=jlC m1.2;have kp2:=jlC m2.2;have kp3:=jlC m3.2;have on1:=jlB (c:=c) (H:=H) m1.1 (by rcases kp1 with r | r;exact .inl r.1;exact .inr r.2);have on2:=jlB (c:=c) (H:=H) m2.1 (by rcases kp2 with r | r;exact .inl r.1;exact .inr r.2);have on3:=jlB (c:=c) (H:=H) m3.1 (by rcases kp3 with r | r;exact .inl r.1;exact .inr r.2);refine On.tri n3 h on1 on2 on3 ?_ ?_ ?_ ?_
 ·by_cases e:p / 2<q / 2
  ·exact .inl e
  ·exact .inr ⟨by omega,decide_eq_false (by omega),decide_eq_true (by omega)⟩
 ·by_cases e:q / 2<r / 2
  ·exact .inl e
  ·exact .inr ⟨by omega,decide_eq_false (by omega),decide_eq_true (by omega)⟩
 ·rintro⟨e1,e2,e3,e4,e5⟩;have f3:=of_decide_eq_false e3;have f4:=of_decide_eq_true e4;have f5:=of_decide_eq_false e5;rcases kp1 with a1 | a1
  ·rcases kp2 with a2 | a2
   ·omega
   ·rcases kp3 with a3 | a3
    ·have z:=(jdj a2.2).2.2.1;have em:(q / 2+1) % n=r / 2:=by rw[<- e2];exact xak (by omega)
     rw[em,<- e1] at z;exact z ⟨a1.2,a3.2⟩
    ·omega
  ·omega
 ·rintro⟨e1,e2,e3,e4,e5,e6⟩;have f4:=of_decide_eq_false e4;have f5:=of_decide_eq_false e5;have f6:=of_decide_eq_true e6;rcases kp1 with a1 | a1
  ·rcases kp2 with a2 | a2
   ·rcases kp3 with a3 | a3
    ·omega
    ·have z:=(jdj a3.2).2.2.1;have em:(r / 2+1) % n=0:=by rw[e3,show n-1+1=n by omega,xbg]
     rw[em,e3] at z;rw[e1] at a1;rw[e2] at a2;exact z ⟨a2.2,a1.2⟩
   ·omega
  ·omega
theorem jiA:∀{l:List Nat} {a b c:Nat},a∈l->b∈l->c∈l->a≠b->b≠c->a≠c->3<=l.length
  | [],_,_,_,h,_,_,_,_,_=>nomatch h
  | [x], a, b, c, h1, h2, h3, n1, n2, n3 => by
    simp at h1 h2;omega
  | [x, y], a, b, c, h1, h2, h3, n1, n2, n3 => by
    simp at h1 h2 h3;rcases h1 with rfl | rfl<;>rcases h2 with rfl | rfl<;>rcases h3 with rfl | rfl<;>first | exact absurd rfl n1 | exact absurd rfl n2 | exact absurd rfl n3
  | x :: y :: z :: l, _, _, _, _, _, _, _, _, _ => by
    simp
theorem jjO {H:Nat->Int} (n3:3<=n) (hi:i<n) (hp:0<H i):3<=(clp H n).length:=by
 have md:∀a,a % n<n:=fun a=>xaC _ (by omega);have ev:∀{k},k<n->0<=H k->2*k∈clp H n:=fun {k} hk h=>clp_mem.mpr ⟨by omega,by
  unfold kp;rw[if_pos (by omega),show 2*k / 2=k by omega];exact decide_eq_true h⟩
 have od:∀{k},k<n->H k*H ((k+1) % n)<0->2*k+1∈clp H n:=fun {k} hk h=>clp_mem.mpr ⟨by omega,by
  unfold kp;rw[if_neg (by omega),show (2*k+1) / 2=k by omega];exact decide_eq_true h⟩
 have A:=ev hi (by omega);have e1:(i+1) % n=if i+1=n then 0 else i+1:=by
  split
  ·rename_i e
   rw[e,xbg]
  ·exact xak (by omega)
 have e2:(i+(n-1)) % n=if i=0 then n-1 else i-1:=by
  split
  ·rename_i e
   rw[e,xby];exact xak (by omega)
  ·rw[show i+(n-1)=i-1+n by omega,xa8];exact xak (by omega)
 have e3:((i+(n-1)) % n+1) % n=i:=by
  rw[e2];split
  ·rename_i e
   rw[show n-1+1=n by omega,xbg,e]
  ·rw[show i-1+1=i by omega];exact xak hi
 have B:∃p,p∈clp H n/\(p=2*((i+1) % n)\/p=2*i+1):=by
  by_cases c:0<=H ((i+1) % n)
  ·exact⟨_,ev (md _) c,.inl rfl⟩
  ·exact⟨_,od hi (xaQ hp (by omega)),.inr rfl⟩
 have C:∃p,p∈clp H n/\(p=2*((i+(n-1)) % n)\/p=2*((i+(n-1)) % n)+1):=by
  by_cases c:0<=H ((i+(n-1)) % n)
  ·exact⟨_,ev (md _) c,.inl rfl⟩
  ·exact⟨_,od (md _) (by rw[e3];exact xaY (by omega) hp),.inr rfl⟩
 obtain⟨p,hp1,hp2⟩:=B;obtain⟨q,hq1,hq2⟩:=C;rw[e1] at hp2;rw[e2] at hq2;refine jiA A hp1 hq1 ?_ ?_ ?_<;>(split at hp2<;>split at hq2<;>omega)
def ja1 (A B C:Int) (v:Tri):Int:=A*v.x+B*v.y+C*v.z
theorem opp_iff {b:Int}:a*b<0↔(0<a/\b<0)\/(a<0/\0<b):=by
 constructor
 ·intro h;obtain⟨h1,h2,h3,h4⟩:=jdj h;omega
 ·rintro (⟨h1,h2⟩ | ⟨h1,h2⟩)
  ·exact xaQ h1 h2
  ·exact xaY h1 h2
def rs:List Rat->Rat
 | []=>0
 | x::l=>x+rs l
theorem jku:∀l m:List Rat,rs (l++m)=rs l+rs m
  | [],m=>by show rs m=0+rs m;grind
  | x :: l, m => by
    show x+rs (l++m)=x+rs l+rs m;rw[jku l m];grind
theorem jiB {α:Type} (a:α):∀l:List α,(nxt l a).length=l.length
  | []=>rfl
  | [_]=>rfl
  | x :: y :: r => by
    show (nxt (y::r) a).length+1=_;rw[jiB a (y::r)];rfl
theorem jiC {α:Type} (d a:α):∀(l:List α) (i:Nat),i<l.length->(nxt l a)[i]?=some (l.getD i d,if i+1<l.length then l.getD (i+1) d else a)
  | [],i,h=>by simp at h
  | [x], i, h => by
    have e:i=0:=by simpa using h
    subst e;rfl
  | x :: y :: r, 0, h => by
    show some (x,y)=_;rw[if_pos (by simp)];rfl
  | x :: y :: r, i + 1, h => by
    have h':i<(y::r).length:=by simpa using h
    show (nxt (y::r) a)[i]?=_;rw[jiC d a (y::r) i h'];have e:((i+1+1<(x::y::r).length)↔(i+1<(y::r).length)):=by simp
    simp only[e];rfl
theorem jec {α:Type} (l:List α):(prs l).length=l.length:=by
 cases l with
 | nil=>rfl
 | cons x r=>exact jiB x (x::r)
theorem jc5 {α:Type} (d:α) {l:List α} (h:i<l.length):(prs l)[i]?=some (l.getD i d,l.getD ((i+1) % l.length) d):=by
  cases l with
  | nil=>simp at h
  | cons x r =>
    show (nxt (x::r) x)[i]?=_;rw[jiC d x (x::r) i h];by_cases c:i+1<(x::r).length
    . rw[if_pos c,xak c]
    . rw[if_neg c,show i+1=(x::r).length by omega,xbg]
      rfl
theorem jnc {α:Type} (d:α) (l:List α):prs l=(List.range l.length).map fun i=>(l.getD i d,l.getD ((i+1) % l.length) d):=by
 refine xbG fun i=>?_;by_cases c:i<l.length
 ·rw[jc5 d c,xag,List.getElem?_range c];rfl
 ·rw[xaL (by rw[jec];omega),xaL (by rw[xaa,xbj];omega)]
theorem qnz {i:Int} (h:i≠0):(i:Rat)≠0:=fun e=>h (by exact_mod_cast e)
def t0:Tri:=⟨0,0,0⟩
def tr (vs:List Tri) (i:Nat):Tri:=vs.getD i t0
def TpL (vs:List Tri):Prop:=Tp (tr vs) vs.length
theorem jjP {c d:Nat->Tri} (h:Tp c n) (e:∀i,i<n->d i=c i):Tp d n:=fun i j k ij jk kn=>by
 rw[e i (by omega),e j (by omega),e k kn];exact h i j k ij jk kn
def Prp (u v:Tri):Prop:=∃k m:Int,0<k/\0<m/\k*u.x=m*v.x/\k*u.y=m*v.y/\k*u.z=m*v.z
theorem Prp.refl (u:Tri):Prp u u:=⟨1,1,by decide,by decide,rfl,rfl,rfl⟩
theorem Prp.symm {u:Tri} (h:Prp u v):Prp v u:=by
 obtain⟨k,m,h1,h2,e1,e2,e3⟩:=h;exact⟨m,k,h2,h1,e1.symm,e2.symm,e3.symm⟩
theorem Prp.z {u:Tri} (h:Prp u v) (hu:1<=u.z):1<=v.z:=by
 obtain⟨k,m,h1,h2,e1,e2,e3⟩:=h;have:=xas h1 (show 0<u.z by omega);rw[e3] at this;have:=xbm this (by omega);omega
theorem jnd {a b c a' b' c':Tri} (ha:Prp a a') (hb:Prp b b') (hc:Prp c c') (h:0<dt a b c):0<dt a' b' c':=by
 obtain⟨k1,m1,p1,q1,x1,y1,z1⟩:=ha;obtain⟨k2,m2,p2,q2,x2,y2,z2⟩:=hb;obtain⟨k3,m3,p3,q3,x3,y3,z3⟩:=hc;have e:k1*k2*k3*dt a b c=m1*m2*m3*dt a' b' c':=by
  have s:∀(g1 g2 g3:Int) (u v w:Tri),g1*g2*g3*dt u v w=dt ⟨g1*u.x,g1*u.y,g1*u.z⟩ ⟨g2*v.x,g2*v.y,g2*v.z⟩ ⟨g3*w.x,g3*w.y,g3*w.z⟩:=fun g1 g2 g3 u v w=>by
   unfold dt jbF;grind
  rw[s,s,x1,y1,z1,x2,y2,z2,x3,y3,z3]
 have h1:=xas (xas (xas p1 p2) p3) h;rw[e] at h1;exact xbm h1 (xas (xas q1 q2) q3)
inductive PL:List Tri->List Tri->Prop
 | nil:PL [] []
 | cons {u v:Tri} {us vs:List Tri} (h:Prp u v) (t:PL us vs):PL (u::us) (v::vs)
theorem PL.refl:∀l:List Tri,PL l l
 | []=>.nil
 | x::l=>.cons (Prp.refl x) (PL.refl l)
variable {us vs:List Tri}
theorem PL.len (h:PL us vs):us.length=vs.length:=by
 induction h with
 | nil=>rfl
 | cons _ _ ih=>rw[xao,xao,ih]
theorem PL.app {us' vs':List Tri} (h:PL us vs) (k:PL us' vs'):PL (us++us') (vs++vs'):=by
 induction h with
 | nil=>exact k
 | cons h _ ih=>exact .cons h ih
theorem PL.get (h:PL us vs):∀{i:Nat},i<us.length->Prp (tr us i) (tr vs i):=by
  induction h with
  | nil=>intro i hi;simp at hi
  | cons h _ ih =>
    intro i hi;cases i with
    | zero=>exact h
    | succ i=>exact ih (by simpa using hi)
theorem PL.tp (h:PL us vs) (t:TpL us):TpL vs:=fun i j k ij jk kn=>by
 have l:=h.len;exact jnd (h.get (by omega)) (h.get (by omega)) (h.get (by omega)) (t i j k ij jk (by omega))
theorem PL.fm {α:Type} {f g:α->List Tri}:∀{l:List α},(∀a∈l,PL (f a) (g a))->PL (l.flatMap f) (l.flatMap g)
  | [],_=>.nil
  | a :: l, h => by
    rw[xbH,xbH];exact (h a (by simp)).app (PL.fm fun b hb=>h b (xan _ hb))
def xp (h:Tri->Int) (a b:Tri):Tri:=je7 (ab (h b)) a (ab (h a)) b
def jfY (v:Tri):Tri:=⟨v.x / gl [v.x,v.y,v.z],v.y / gl [v.x,v.y,v.z],v.z / gl [v.x,v.y,v.z]⟩
theorem jjQ (hz:1<=v.z):Prp v (jfY v):=by
 have g0:0<gl [v.x,v.y,v.z]:=jdy (n:=v.z) (by simp) (by omega);have d:∀n∈[v.x,v.y,v.z],gl [v.x,v.y,v.z]*(n / gl [v.x,v.y,v.z])=n:=fun n hn=>xaN (jaP hn);refine⟨1,gl [v.x,v.y,v.z],by decide,g0,?_,?_,?_⟩
 ·rw[Int.one_mul];exact (d v.x (by simp)).symm
 ·rw[Int.one_mul];exact (d v.y (by simp)).symm
 ·rw[Int.one_mul];exact (d v.z (by simp)).symm
variable {h:Tri->Int}
theorem xp_z {a b:Tri} (ha:1<=a.z) (hb:1<=b.z) (o:h a*h b<0):1<=(xp h a b).z:=by
 obtain⟨h1,h2,_,_⟩:=jdj o;have p1:=jbR h1;have p2:=jbR h2;have q1:=xas p2 (show 0<a.z by omega);have q2:=xas p1 (show 0<b.z by omega);show 1<=ab (h b)*a.z+ab (h a)*b.z;omega
def upE (h:Tri->Int) (X:Tri->Tri->Tri) (e:Tri × Tri):List Tri:=(if 0<=h e.1 then [e.1] else [])++(if h e.1*h e.2<0 then [X e.1 e.2] else [])
def upL (h:Tri->Int) (X:Tri->Tri->Tri) (vs:List Tri):List Tri:=(prs vs).flatMap (upE h X)
theorem jgD {α:Type} (P:Nat->Bool) (g:Nat->α):∀m,((List.range (2*m)).filter P).map g=(List.range m).flatMap fun i=>(if P (2*i)=true then [g (2*i)] else [])++(if P (2*i+1)=true then [g (2*i+1)] else [])
  | 0=>rfl
  | m + 1 => by
    have ih:=jgD P g m;have s:∀x:Nat,([x].filter P).map g=if P x=true then [g x] else []:=fun x=>by
      cases h:P x with
      | true=>rw[xa4 h,if_pos rfl];rfl
      | false=>rw[xbC (by rw[h];decide),if_neg (by decide)];rfl
    rw[show 2*(m+1)=2*m+1+1 by omega,xaK,xaK,xaK (n:=m),xau,xau,xal,xal,ih,s,s,List.flatMap_append,List.append_assoc];simp
theorem jiD (h:Tri->Int) (vs:List Tri):upL h (xp h) vs=(clp (fun i=>h (tr vs i)) vs.length).map (el (tr vs) (fun i=>h (tr vs i)) vs.length):=by
 unfold upL clp;rw[jgD,jnc t0,List.flatMap_map]
 congr 1
 funext i
 have k0:kp (fun i=>h (tr vs i)) vs.length (2*i)=decide (0<=h (tr vs i)):=by
  unfold kp;rw[if_pos (by omega),show 2*i / 2=i by omega]
 have k1:kp (fun i=>h (tr vs i)) vs.length (2*i+1)=decide (h (tr vs i)*h (tr vs ((i+1) % vs.length))<0):=by
  unfold kp;rw[if_neg (by omega),show (2*i+1) / 2=i by omega]
 have e0:el (tr vs) (fun i=>h (tr vs i)) vs.length (2*i)=tr vs i:=by
  unfold el;rw[if_pos (by omega),show 2*i / 2=i by omega]
 have e1:el (tr vs) (fun i=>h (tr vs i)) vs.length (2*i+1)=xp h (tr vs i) (tr vs ((i+1) % vs.length)):=by
  unfold el;rw[if_neg (by omega),show (2*i+1) / 2=i by omega];rfl
 rw[k0,k1,e0,e1];simp only[decide_eq_true_eq];rfl
variable {X:Tri->Tri->Tri}
theorem jne (hX:∀a b,a∈vs->b∈vs->h a*h b<0->Prp (xp h a b) (X a b)):PL (upL h (xp h) vs) (upL h X vs):=by
 refine PL.fm fun e he=>?_;obtain⟨i,hi⟩:=xbr.mp he;have il:i<vs.length:=by have:=(xaj.mp hi).1;rw[jec] at this;exact this
 rw[jc5 t0 il] at hi;have hm:∀j,j<vs.length->vs.getD j t0∈vs:=fun j hj=>by
  rw[xab,xac hj];exact xbc hj
 have ee:=Option.some.inj hi;subst ee;refine PL.app (PL.refl _) ?_;by_cases o:h (vs.getD i t0)*h (vs.getD ((i+1) % vs.length) t0)<0
 ·simp only[if_pos o];exact .cons (hX _ _ (hm i il) (hm _ (xaC _ (by omega))) o) .nil
 ·simp only[if_neg o];exact .nil
theorem jnf (n3:3<=vs.length) (t:TpL vs):TpL (upL h (xp h) vs):=by
 have z:=jlD (c:=tr vs) (H:=fun i=>h (tr vs i)) n3 t;have l:(upL h (xp h) vs).length=(clp (fun i=>h (tr vs i)) vs.length).length:=by rw[jiD,xaa]
 unfold TpL;rw[l];refine jjP z fun i hi=>?_;rw[jiD];show ((clp (fun i=>h (tr vs i)) vs.length).map (el (tr vs) (fun i=>h (tr vs i)) vs.length)).getD i t0=el (tr vs) (fun i=>h (tr vs i)) vs.length ((clp (fun i=>h (tr vs i)) vs.length).getD i 0);rw[xab,xag,xac hi,xab,xac hi];rfl
theorem up_tp (hX:∀a b,a∈vs->b∈vs->h a*h b<0->Prp (xp h a b) (X a b)) (n3:3<=vs.length) (t:TpL vs):TpL (upL h X vs):=(jne hX).tp (jnf n3 t)
theorem jlE (hX:∀a b,a∈vs->b∈vs->h a*h b<0->Prp (xp h a b) (X a b)) (n3:3<=vs.length) (hi:i<vs.length) (hp:0<h (tr vs i)):3<=(upL h X vs).length:=by
 rw[<- (jne hX).len,jiD,xaa];exact jjO (H:=fun i=>h (tr vs i)) n3 hi hp
theorem jkv (hv:v∈upL h X vs):(v∈vs/\0<=h v)\/∃a b,a∈vs/\b∈vs/\h a*h b<0/\v=X a b:=by
 obtain⟨e,he,hv⟩:=xbP.mp hv;obtain⟨i,hi⟩:=xbr.mp he;have il:i<vs.length:=by have:=(xaj.mp hi).1;rw[jec] at this;exact this
 rw[jc5 t0 il] at hi;have hm:∀j,j<vs.length->vs.getD j t0∈vs:=fun j hj=>by
  rw[xab,xac hj];exact xbc hj
 have ee:=Option.some.inj hi;subst ee;rcases xaJ.mp hv with h1 | h1
 ·by_cases c:0<=h (vs.getD i t0)
  ·simp only[if_pos c,xaB] at h1;subst h1;exact .inl ⟨hm i il,c⟩
  ·simp only[if_neg c] at h1;cases h1
 ·by_cases c:h (vs.getD i t0)*h (vs.getD ((i+1) % vs.length) t0)<0
  ·simp only[if_pos c,xaB] at h1;exact .inr ⟨_,_,hm i il,hm _ (xaC _ (by omega)),c,h1⟩
  ·simp only[if_neg c] at h1;cases h1
def Adj {α:Type} (R:α->α->Prop):List α->Prop
 | []=>True
 | [_]=>True
 | a::b::l=>R a b/\Adj R (b::l)
theorem Adj.glue {α:Type} {R:α->α->Prop} {x:α}:∀{l m:List α},Adj R (l++[x])->Adj R (x::m)->Adj R (l++x::m)
 | [],_,_,k=>k
 | [a],_,h,k=>⟨h.1,k⟩
 | a::b::l,m,h,k=>⟨h.1,Adj.glue (l:=b::l) h.2 k⟩
theorem Adj.left {α:Type} {R:α->α->Prop} {x:α}:∀{l m:List α},Adj R (l++x::m)->Adj R (l++[x])
 | [],_,_=>trivial
 | [a],_,h=>⟨h.1,trivial⟩
 | a::b::l,m,h=>⟨h.1,Adj.left (l:=b::l) h.2⟩
theorem Adj.right {α:Type} {R:α->α->Prop} {x:α}:∀{l m:List α},Adj R (l++x::m)->Adj R (x::m)
 | [],_,h=>h
 | [a],_,h=>h.2
 | a::b::l,m,h=>Adj.right (l:=b::l) h.2
theorem Adj.get {α:Type} {R:α->α->Prop}:∀{l:List α},Adj R l->∀(i:Nat) (x y:α),l[i]?=some x->l[i+1]?=some y->R x y
  | [],_,i,x,y,h,_=>by simp at h
  | [a],_,i,x,y,_,h=>by simp at h
  | a :: b :: l, h, 0, x, y, h1, h2 => by
    cases h1;cases h2;exact h.1
  | a::b::l,h,i+1,x,y,h1,h2=>Adj.get (l:=b::l) h.2 i x y h1 h2
def ax (v:Tri):Rat:=(v.x:Rat) / (v.z:Rat)
def ay (v:Tri):Rat:=(v.y:Rat) / (v.z:Rat)
def c2q (a b:Tri):Rat:=ax a*ay b-ay a*ax b
theorem jng {a b:Tri} (h:Prp a b) (hz:1<=a.z):ax a=ax b/\ay a=ay b:=by
 have hz':=h.z hz;obtain⟨k,m,h1,h2,e1,e2,e3⟩:=h;have z1:=qnz (show a.z≠0 by omega);have z2:=qnz (show b.z≠0 by omega);have z3:=qnz (show k≠0 by omega);have z4:=qnz (show m≠0 by omega);have f1:(k:Rat)*(a.x:Rat)=(m:Rat)*(b.x:Rat):=by exact_mod_cast e1
 have f2:(k:Rat)*(a.y:Rat)=(m:Rat)*(b.y:Rat):=by exact_mod_cast e2
 have f3:(k:Rat)*(a.z:Rat)=(m:Rat)*(b.z:Rat):=by exact_mod_cast e3
 unfold ax ay;have cancel:∀x y:Rat,(k:Rat)*x=(m:Rat)*y->x / (a.z:Rat)=y / (b.z:Rat):=fun x y e=>by
  have e4:x=((m:Rat)*y) / (k:Rat):=by grind
  have e5:(a.z:Rat)=((m:Rat)*(b.z:Rat)) / (k:Rat):=by grind
  rw[e4,e5];grind
 exact⟨cancel _ _ f1,cancel _ _ f2⟩
theorem jeD {l:List Tri} (h:i<l.length):tr l i∈l:=by
 unfold tr;rw[xab,xac h];exact xbc h
theorem jgE {l:List Tri} (h:v∈l):∃i,i<l.length/\tr l i=v:=by
 obtain⟨i,hi,rfl⟩:=xbt.mp h;refine⟨i,hi,?_⟩;unfold tr;rw[xab,xac hi];rfl
theorem jlF {a b:Tri} (ha:1<=a.z) (hb:1<=b.z) (o:h a*h b<0) (hv:Prp (xp h a b) v):c2q a v+c2q v b=c2q a b:=by
 obtain⟨e1,e2⟩:=jng hv (xp_z ha hb o);obtain⟨h1,h2,_,_⟩:=jdj o;have p1:=jbR h1;have p2:=jbR h2;unfold c2q;rw[<- e1,<- e2];have q1:=xas p2 (show 0<a.z by omega);have q2:=xas p1 (show 0<b.z by omega);have z0:=qnz (show ab (h b)*a.z+ab (h a)*b.z≠0 by omega);have z1:=qnz (show a.z≠0 by omega);have z2:=qnz (show b.z≠0 by omega);have u:ax (xp h a b)*((ab (h b):Rat)*(a.z:Rat)+(ab (h a):Rat)*(b.z:Rat))=(ab (h b):Rat)*(a.z:Rat)*ax a+(ab (h a):Rat)*(b.z:Rat)*ax b:=by
  unfold ax xp je7
  push_cast at z0 |-
  grind
 have w:ay (xp h a b)*((ab (h b):Rat)*(a.z:Rat)+(ab (h a):Rat)*(b.z:Rat))=(ab (h b):Rat)*(a.z:Rat)*ay a+(ab (h a):Rat)*(b.z:Rat)*ay b:=by
  unfold ay xp je7
  push_cast at z0 |-
  grind
 push_cast at z0
 generalize ax (xp h a b)=X at *
 generalize ay (xp h a b)=Y at *
 generalize ax a=xa at *
 generalize ay a=ya at *
 generalize ax b=xb at *
 generalize ay b=yb at *
 generalize (ab (h b):Rat)*(a.z:Rat)=p at *
 generalize (ab (h a):Rat)*(b.z:Rat)=q at *
 have f:(xa*Y-ya*X+(X*yb-Y*xb))*(p+q)=(xa*yb-ya*xb)*(p+q):=by grind
 grind
def agE (h:Tri->Int) (X:Tri->Tri->Tri) (e:Tri × Tri):List Tri:=e.1::(if h e.1*h e.2<0 then [X e.1 e.2] else [])
def agL (h:Tri->Int) (X:Tri->Tri->Tri) (vs:List Tri):List Tri:=(prs vs).flatMap (agE h X)
theorem jiE {h:Tri->Int} {X:Tri->Tri->Tri} (k:Tri->Bool) (g:Tri × Tri->List Tri):∀{l:List (Tri × Tri)},(∀e∈l,(agE h X e).filter k=g e)->(l.flatMap (agE h X)).filter k=l.flatMap g
  | [],_=>rfl
  | e :: l, H => by
    rw[xbH,xbH,xau,H e (by simp),jiE k g fun a ha=>H a (xan _ ha)]
theorem je1 {e:Tri × Tri} (he:e∈prs vs):e.1∈vs/\e.2∈vs:=by
 obtain⟨i,hi⟩:=xbr.mp he;have il:i<vs.length:=by have:=(xaj.mp hi).1;rw[jec] at this;exact this
 rw[jc5 t0 il] at hi;have ee:=Option.some.inj hi;subst ee;exact⟨jeD il,jeD (xaC _ (by omega))⟩
theorem ag_up (hX:∀a b,a∈vs->b∈vs->h a*h b<0->h (X a b)=0):(agL h X vs).filter (fun p=>decide (0<=h p))=upL h X vs:=by
 refine jiE _ _ fun e he=>?_;obtain⟨m1,m2⟩:=je1 he;unfold agE upE;have x0:=hX _ _ m1 m2;by_cases o:h e.1*h e.2<0
 ·have x1:=x0 o;by_cases c:0<=h e.1<;>simp [o,c,x1]
 ·by_cases c:0<=h e.1<;>simp [o,c]
theorem jnh {S:Tri->Prop} (hz:∀v,S v->1<=v.z) (hX:∀a b,S a->S b->h a*h b<0->Prp (xp h a b) (X a b)/\h (X a b)=0) {a:Tri} (sa:S a):∀(r:List Tri) (x:Tri),S x->(∀v∈r,S v) ->
    ∃w,(nxt (x::r) a).flatMap (agE h X)=x::w/\Adj (fun x y=>¬(h x<0/\0<h y)/\¬(0<h x/\h y<0)) (x::w++[a])/\rs ((nxt (x::w) a).map fun e=>c2q e.1 e.2)=rs ((nxt (x::r) a).map fun e=>c2q e.1 e.2):=by
  have one:∀x y,S x->S y->Adj (fun x y=>¬(h x<0/\0<h y)/\¬(0<h x/\h y<0)) (agE h X (x,y)++[y])/\rs ((nxt (agE h X (x,y)) y).map fun e=>c2q e.1 e.2)=c2q x y:=fun x y sx sy=>by
    unfold agE;by_cases o:h x*h y<0
    . obtain⟨k1,k2⟩:=hX x y sx sy o
      simp only[if_pos o];refine⟨⟨⟨by omega,by omega⟩,⟨by omega,by omega⟩,trivial⟩,?_⟩;show c2q x (X x y)+(c2q (X x y) y+0)=_;have:=jlF (hz x sx) (hz y sy) o k1;grind
    . simp only[if_neg o]
      refine⟨⟨⟨fun z=>o (opp_iff.mpr (.inr z)),fun z=>o (opp_iff.mpr (.inl z))⟩,trivial⟩,?_⟩;show c2q x y+0=_;grind
  intro r;induction r with
  | nil =>
    intro x sx _;obtain⟨o1,o2⟩:=one x a sx sa;refine⟨if h x*h a<0 then [X x a] else [],?_,o1,?_⟩
    . show agE h X (x,a)++[]=_
      rw[xbB];rfl
    . show _=c2q x a+0
      exact o2.trans (by grind)
  | cons y r ih =>
    intro x sx sr;obtain⟨w,e1,e2,e3⟩:=ih y (sr y (by simp)) fun v hv=>sr v (xan _ hv);obtain⟨o1,o2⟩:=one x y sx (sr y (by simp));refine⟨(if h x*h y<0 then [X x y] else [])++y::w,?_,?_,?_⟩
    . show agE h X (x,y)++(nxt (y::r) a).flatMap (agE h X)=_
      rw[e1];rfl
    . have g:=Adj.glue (l:=agE h X (x,y)) (x:=y) (m:=w++[a]) o1 e2
      have e:x::((if h x*h y<0 then [X x y] else [])++y::w)++[a]=agE h X (x,y)++y::(w++[a]):=by
        unfold agE;simp
      rw[e];exact g
    . have e:x::((if h x*h y < 0 then [X x y] else [])++y::w)=agE h X (x,y)++y::w:=rfl
      rw[e,jeY,xal,jku,o2,e3];rfl
theorem jiF {C m:Int} {u:Tri} (e1:k*u.x=m*v.x) (e2:k*u.y=m*v.y) (e3:k*u.z=m*v.z):k*ja1 A B C u=m*ja1 A B C v:=by
 unfold ja1;grind
theorem je2 {C:Int} {u:Tri} (h:Prp u v) (z:ja1 A B C u=0):ja1 A B C v=0:=by
 obtain⟨k,m,k0,m0,e1,e2,e3⟩:=h;have e:=jiF (A:=A) (B:=B) (C:=C) e1 e2 e3;rw[z,xbf] at e;rcases xat.mp e.symm with r | r
 ·omega
 ·exact r
def lnA (Z:Sht) (x y z:Int):Int:=Z.w*(x*Z.c.x+y*Z.c.y+z*Z.c.z)
def lnB (Z:Sht) (x y z:Int):Int:=Z.w*(x*Z.d.x+y*Z.d.y+z*Z.d.z)
def lnC (Z:Sht) (x y z v:Int):Int:=x*Z.s.x+y*Z.s.y+z*Z.s.z-v*Z.w
def hL (Z:Sht) (x y z v:Int):Tri->Int:=ja1 (lnA Z x y z) (lnB Z x y z) (lnC Z x y z v)
theorem RR.dih {m:List Pt} (h:RR l m) (n3:3<=l.length) (n9:l.length<=17):Dih l m:=by
  induction h with
  | refl=>exact Dih.refl n3
  | @rot m k h ih =>
    by_cases c:k<l.length
    . exact ih.rot n9 c
    . rw[jeX m (by have:=h.len; omega)]
      exact ih
  | rev _ ih=>exact ih.rev n9
theorem jni (l:List Pt) (qs:List Pt):RR l (frm qs l):=by
  have t:∀(b:Bool) (m:List Pt),RR m (turn b m):=fun b m=>by
    unfold turn;by_cases c:b=true
    . rw[if_pos c]
      cases m with
      | nil=>exact .refl _
      | cons x r =>
        have z:=RR.rot (l:=x::r) r.reverse.length (.rev (.refl _));rw[xa5,xbJ,xbK] at z;exact z
    . rw[if_neg c]
      exact .refl _
  unfold frm;exact (RR.rot (fF qs) (.refl l)).trans (t _ _)
theorem jjR {c:Nat->Tri} {k:Nat} (h:Tp c n) (hi:i<n) (hj:j<n) (hk:k<n) (ij:i≠j) (jk:j≠k) (ik:i≠k):dt (c i) (c j) (c k)≠0:=by
 have s1:∀a b d:Tri,dt a b d=-dt b a d:=fun a b d=>by unfold dt jbF;grind
 have s2:∀a b d:Tri,dt a b d=-dt a d b:=fun a b d=>by unfold dt jbF;grind
 have P:∀{i j k:Nat},i<n->j<n->k<n->i<j->j<k->0<dt (c i) (c j) (c k):=fun _ _ h3 h4 h5=>h _ _ _ h4 h5 h3;rcases xb1 ij with a | a<;>rcases xb1 jk with b | b<;>rcases xb1 ik with d | d
 ·have:=P hi hj hk a b;omega
 ·omega
 ·have:=P hi hk hj d b;have:=s2 (c i) (c j) (c k);omega
 ·have:=P hk hi hj d a;have e1:=s2 (c i) (c j) (c k);have e2:=s1 (c i) (c k) (c j);omega
 ·have:=P hj hi hk a d;have:=s1 (c i) (c j) (c k);omega
 ·have:=P hj hk hi b d;have e1:=s1 (c i) (c j) (c k);have e2:=s2 (c j) (c i) (c k);omega
 ·omega
 ·have:=P hk hj hi b a;have e1:=s1 (c i) (c j) (c k);have e2:=s2 (c j) (c i) (c k);have e3:=s1 (c j) (c k) (c i);omega
theorem ja3 (h:i<us.length):pt (us.map (spt Z)) i=spt Z (tr us i):=by
 unfold pt tr;rw[xab,xag,xac h,xab,xac h];rfl
def bt (h:Tri->Int) (a b:Tri):Tri:=jfY (xp h a b)
theorem je3 {m:Nat} (h:v.bd n) (e:n<=m:=by decide):v.bd m:=⟨Bd.mono h.1 e,Bd.mono h.2.1 e,Bd.mono h.2.2 e⟩
open Classical in
noncomputable def UP (h:Tri->Int) (vs:List Tri):List Tri:=if ∃v∈vs,0<h v then upL h (bt h) vs else []
theorem jkw {a b:Tri} (ha:1<=a.z) (hb:1<=b.z) (o:h a*h b<0):Prp (xp h a b) (bt h a b):=jjQ (xp_z ha hb o)
theorem jkx (hp:∃v∈vs,0<h v):UP h vs=upL h (bt h) vs:=by
 unfold UP;exact if_pos hp
theorem jfZ {C:Int} {a b:Tri} (o:ja1 A B C a*ja1 A B C b<0):ja1 A B C (xp (ja1 A B C) a b)=0:=by
 have e:ja1 A B C (xp (ja1 A B C) a b)=ab (ja1 A B C b)*ja1 A B C a+ab (ja1 A B C a)*ja1 A B C b:=by
  unfold xp je7;generalize ab (ja1 A B C b)=p;generalize ab (ja1 A B C a)=q;unfold ja1;grind
 rw[e];unfold ab;rcases opp_iff.mp o with ⟨p1,p2⟩ | ⟨p1,p2⟩
 ·rw[if_pos p2,if_neg (by omega)];grind
 ·rw[if_neg (by omega),if_pos p1];grind
def InR (vs:List Tri) (p:Tri):Prop:=∀e∈prs vs,0<=dt e.1 e.2 p
structure Rng (vs:List Tri):Prop where
 n3:3<=vs.length
 tp:TpL vs
 hz:∀v∈vs,1<=v.z
theorem jiG {e:Tri × Tri} (he:e∈prs vs):∃i,i<vs.length/\e=(tr vs i,tr vs ((i+1) % vs.length)):=by
 obtain⟨i,hi⟩:=xbr.mp he;have il:i<vs.length:=by have:=(xaj.mp hi).1;rw[jec] at this;exact this
 rw[jc5 t0 il] at hi;exact⟨i,il,(Option.some.inj hi).symm⟩
theorem jky (hi:i<vs.length):(tr vs i,tr vs ((i+1) % vs.length))∈prs vs:=xaw (jc5 t0 hi)
theorem jdI {c:Nat->Tri} {k:Nat} (h:Tp c n) (n3:3<=n) (hi:i<n) (hk:k<n) (k1:k≠i) (k2:k≠(i+1) % n):0<dt (c i) (c ((i+1) % n)) (c k):=by
 by_cases w:i+1<n
 ·rw[xak w] at k2 |-
  by_cases q:k<i
  ·rw[<- jeZ];exact h k i (i+1) q (by omega) w
  ·exact h i (i+1) k (by omega) (by omega) hk
 ·have e:i+1=n:=by omega
  rw[e,xbg] at k2 |-
  rw[jeZ];exact h 0 k i (by omega) (by omega) hi
theorem jlG {c:Nat->Tri} {k:Nat} (h:Tp c n) (n3:3<=n) (hi:i<n) (hk:k<n):0<=dt (c i) (c ((i+1) % n)) (c k):=by
 by_cases k1:k=i
 ·rw[k1,(jcE _ _).2.2];exact xba _
 ·by_cases k2:k=(i+1) % n
  ·rw[k2,(jcE _ _).2.1];exact xba _
  ·exact xbO (jdI h n3 hi hk k1 k2)
theorem Rng.own (R:Rng vs) (hv:v∈vs):InR vs v:=fun e he=>by
 obtain⟨i,hi,rfl⟩:=jiG he;obtain⟨k,hk,rfl⟩:=jgE hv;exact jlG R.tp R.n3 hi hk
theorem jkz (a b c p:Tri):dt a b c*p.x=dt p b c*a.x+dt a p c*b.x+dt a b p*c.x/\dt a b c*p.y=dt p b c*a.y+dt a p c*b.y+dt a b p*c.y/\dt a b c*p.z=dt p b c*a.z+dt a p c*b.z+dt a b p*c.z:=by
 unfold dt jbF;refine⟨?_,?_,?_⟩<;>grind
theorem jjS (A B C:Int) (a b c p:Tri):dt a b c*ja1 A B C p=dt p b c*ja1 A B C a+dt a p c*ja1 A B C b+dt a b p*ja1 A B C c:=by
 obtain⟨e1,e2,e3⟩:=jkz a b c p;have e:dt a b c*ja1 A B C p=A*(dt a b c*p.x)+B*(dt a b c*p.y)+C*(dt a b c*p.z):=by unfold ja1;grind
 rw[e,e1,e2,e3];unfold ja1;grind
theorem jgF {g:Nat->Int}:∀m:Nat,0<=g 1->g (m+2)<=0->∃j,1<=j/\j<=m+1/\0<=g j/\g (j+1)<=0
  | 0,h1,h2=>⟨1,by omega,by omega,h1,h2⟩
  | m + 1, h1, h2 => by
    by_cases c:0<=g (m+2)
    . exact⟨m+2,by omega,by omega,c,h2⟩
    . obtain⟨j,a,b,c1,c2⟩:=jgF m h1 (by omega)
      exact⟨j,a,by omega,c1,c2⟩
theorem hull (R:Rng vs) {p:Tri} (hp:InR vs p) (pz:1<=p.z):∃(a b c:Tri) (α β γ D:Int),a∈vs/\b∈vs/\c∈vs/\0<D/\0<=α/\0<=β/\0<=γ/\(0<α\/0<β\/0<γ)/\(D*p.x=α*a.x+β*b.x+γ*c.x/\D*p.y=α*a.y+β*b.y+γ*c.y/\D*p.z=α*a.z+β*b.z+γ*c.z)/\∀A B C:Int,D*ja1 A B C p=α*ja1 A B C a+β*ja1 A B C b+γ*ja1 A B C c:=by
 have n3:=R.n3;have m:∀i,i % vs.length<vs.length:=fun i=>xaC _ (by omega);have E:∀i,i<vs.length->0<=dt (tr vs i) (tr vs ((i+1) % vs.length)) p:=fun i hi=>hp _ (jky hi);have g1:0<=dt (tr vs 0) (tr vs 1) p:=by
  have:=E 0 (by omega);rw[xby,xak (by omega)] at this;exact this
 have g2:dt (tr vs 0) (tr vs (vs.length-3+2)) p<=0:=by
  have:=E (vs.length-1) (by omega);rw[show vs.length-1+1=vs.length by omega,xbg] at this;rw[show vs.length-3+2=vs.length-1 by omega];have sw:dt (tr vs 0) (tr vs (vs.length-1)) p=-dt (tr vs (vs.length-1)) (tr vs 0) p:=by unfold dt jbF;grind
  omega
 obtain⟨j,j1,j2,h1,h2⟩:=jgF (g:=fun j=>dt (tr vs 0) (tr vs j) p) (vs.length-3) g1 g2;have jl:j+1<vs.length:=by omega
 have h3:=E j (by omega);rw[xak jl] at h3;have D:=R.tp 0 j (j+1) (by omega) (by omega) jl;have s1:dt p (tr vs j) (tr vs (j+1))=dt (tr vs j) (tr vs (j+1)) p:=jeZ _ _ _;have s2:dt (tr vs 0) p (tr vs (j+1))=-dt (tr vs 0) (tr vs (j+1)) p:=by unfold dt jbF;grind
 have cr:=jkz (tr vs 0) (tr vs j) (tr vs (j+1)) p;refine⟨tr vs 0,tr vs j,tr vs (j+1),dt p (tr vs j) (tr vs (j+1)),dt (tr vs 0) p (tr vs (j+1)),dt (tr vs 0) (tr vs j) p,dt (tr vs 0) (tr vs j) (tr vs (j+1)),jeD (by omega),jeD (by omega),jeD jl,D,by omega,by omega,h1,?_,cr,fun A B C=>jjS A B C _ _ _ _⟩;apply xap;intro n;have a0:dt p (tr vs j) (tr vs (j+1))=0:=by omega
 have b0:dt (tr vs 0) p (tr vs (j+1))=0:=by omega
 have c0:dt (tr vs 0) (tr vs j) p=0:=by
  have:0<=dt (tr vs 0) (tr vs j) p:=h1;omega
 have e:=cr.2.2;rw[a0,b0,c0] at e;have:=xas D (show 0<p.z by omega);omega
theorem jiH (R:Rng vs) {p:Tri} (hp:InR vs p) (pz:1<=p.z) {C:Int} (h:∀v∈vs,0<=ja1 A B C v):0<=ja1 A B C p:=by
 obtain⟨a,b,c,α,β,γ,D,ha,hb,hc,D0,a0,b0,c0,_,_,e⟩:=hull R hp pz;have e:=e A B C;have h1:=xaD a0 (h a ha);have h2:=xaD b0 (h b hb);have h3:=xaD c0 (h c hc);rcases Int.lt_or_le (ja1 A B C p) 0 with q | q
 ·have:=xaQ D0 q;omega
 ·exact q
theorem jgG (a b p:Tri):dt a b p=ja1 (a.y*b.z-a.z*b.y) (a.z*b.x-a.x*b.z) (a.x*b.y-a.y*b.x) p:=rfl
theorem jfB (hi:i<n):((i+(n-1)) % n+1) % n=i:=by
 by_cases c:i=0
 ·subst c;rw[xby,xak (show n-1<n by omega),show n-1+1=n by omega,xbg]
 ·rw[show i+(n-1)=i-1+n by omega,xa8,xak (show i-1<n by omega),show i-1+1=i by omega,xak hi]
theorem Prp.trans {u w:Tri} (h:Prp u v) (k:Prp v w):Prp u w:=by
 obtain⟨a,b,a0,b0,e1,e2,e3⟩:=h;obtain⟨c,d,c0,d0,f1,f2,f3⟩:=k;refine⟨c*a,b*d,xas c0 a0,xas b0 d0,?_,?_,?_⟩
 ·grind
 ·grind
 ·grind
def OnE (vs:List Tri) (a b:Tri):Prop:=∃e∈prs vs,∃k m:Int,0<k/\0<m/\∀q:Tri,k*dt a b q=m*dt e.1 e.2 q
def Nb (h:Tri->Int) (vs:List Tri) (a b:Tri):Prop:=OnE vs a b\/(h a=0/\h b=0)
theorem Adj.mono {α:Type} {R S:α->α->Prop} (i:∀a b,R a b->S a b):∀{l:List α},Adj R l->Adj S l
 | [],_=>trivial
 | [_],_=>trivial
 | _::b::l,h=>⟨i _ _ h.1,Adj.mono i (l:=b::l) h.2⟩
theorem jjT {α:Type} {h:α->Int} {P:α->α->Prop} (l:List α):∀x:α,(0<=h x->Adj (fun x y=>¬(h x<0/\0<h y)/\¬(0<h x/\h y<0)) (x::l)->Adj P (x::l)->Adj (fun a b=>P a b\/(h a=0/\h b=0)) (x::l.filter fun p=>decide (0<=h p))) /\
    (∀y:α,h x=0->h y<0->Adj (fun x y=>¬(h x<0/\0<h y)/\¬(0<h x/\h y<0)) (y::l)->Adj P (y::l)->Adj (fun a b=>P a b\/(h a=0/\h b=0)) (x::l.filter fun p=>decide (0<=h p))):=by
  induction l with
  | nil=>exact fun x=>⟨fun _ _ _=>trivial,fun _ _ _ _ _=>trivial⟩
  | cons z l ih =>
    intro x;refine⟨fun hx c p=>?_,fun y hx hy c p=>?_⟩
    . by_cases hz:0 <= h z
      . rw[xa4 (by exact decide_eq_true hz)]
        exact⟨.inl p.1,(ih z).1 hz c.2 p.2⟩
      . rw[xbC (by simpa using hz)]
        have:=c.1;exact (ih x).2 z (by omega) (by omega) c.2 p.2
    . by_cases hz:0 <= h z
      . rw[xa4 (by exact decide_eq_true hz)]
        have:=c.1;exact⟨.inr ⟨hx,by omega⟩,(ih z).1 hz c.2 p.2⟩
      . rw[xbC (by simpa using hz)]
        exact (ih x).2 z hx (by omega) c.2 p.2
theorem jkA {α:Type} {R:α->α->Prop}:∀{l:List α},Adj R l->∀e∈op l,R e.1 e.2
  | [],_,e,he=>by cases he
  | [_],_,e,he=>by cases he
  | a :: b :: l, h, e, he => by
    rcases xaq.mp (show e∈(a,b)::op (b::l) from he) with q | q
    . rw[q];exact h.1
    . exact jkA (l:=b::l) h.2 e q
theorem jnj {α:Type} (x:α) (r:List α):prs (x::r)=op (x::r++[x]):=jkt x (x::r)
theorem jnk (hX:∀a b,a∈vs->b∈vs->h a*h b<0->Prp (xp h a b) (X a b)):∀(r:List Tri) (x a:Tri),x∈vs->a∈vs->(∀v∈r,v∈vs)->(∀e∈nxt (x::r) a,e∈prs vs)->∃w,(nxt (x::r) a).flatMap (agE h X)=x::w/\Adj (OnE vs) (x::w++[a]):=by
  have one:∀x y,x∈vs->y∈vs->(x,y)∈prs vs->Adj (OnE vs) (agE h X (x,y)++[y]):=fun x y hx hy he=>by
    unfold agE;by_cases o:h x*h y<0
    . obtain⟨k,m,k0,m0,e1,e2,e3⟩:=hX x y hx hy o
      obtain⟨n1,n2,_,_⟩:=jdj o;have p1:=jbR n1;have p2:=jbR n2;simp only[if_pos o];have lin:∀(a b:Tri),(∀q:Tri,m*dt a (X x y) q=k*dt a (xp h x y) q)/\∀q:Tri,m*dt (X x y) b q=k*dt (xp h x y) b q:=fun a b=>by
        generalize X x y=v at *
        generalize xp h x y=u at *
        refine⟨fun q=>?_,fun q=>?_⟩
        . have:∀(c:Int) (u:Tri),c*dt a u q=dt a ⟨c*u.x,c*u.y,c*u.z⟩ q:=fun c u=>by unfold dt jbF; grind
          rw[this,this,e1,e2,e3]
        . have:∀(c:Int) (u:Tri),c*dt u b q=dt ⟨c*u.x,c*u.y,c*u.z⟩ b q:=fun c u=>by unfold dt jbF; grind
          rw[this,this,e1,e2,e3]
      have f1:∀q,dt x (xp h x y) q=ab (h x)*dt x y q:=fun q=>by
        unfold xp;rw[jfX,(jcE x q).1];grind
      have f2:∀q,dt (xp h x y) y q=ab (h y)*dt x y q:=fun q=>by
        unfold xp;rw[jiy,(jcE y q).1];grind
      refine⟨⟨(x,y),he,m,k*ab (h x),m0,xas k0 p1,fun q=>by rw[(lin x y).1 q,f1 q];grind⟩,⟨(x,y),he,m,k*ab (h y),m0,xas k0 p2,fun q=>by rw[(lin x y).2 q,f2 q];grind⟩,trivial⟩
    . simp only[if_neg o]
      exact⟨⟨(x,y),he,1,1,by decide,by decide,fun _=>rfl⟩,trivial⟩
  intro r;induction r with
  | nil =>
    intro x a hx ha _ he;refine⟨if h x*h a<0 then [X x a] else [],?_,one x a hx ha (he _ (by simp [nxt]))⟩;show agE h X (x,a)++[]=_;rw[xbB];rfl
  | cons y r ih =>
    intro x a hx ha hr he;obtain⟨w,e1,e2⟩:=ih y a (hr y (by simp)) ha (fun v hv=>hr v (xan _ hv)) fun e h'=>he e (by simp [nxt,h']);refine⟨(if h x*h y<0 then [X x y] else [])++y::w,?_,?_⟩
    . show agE h X (x,y)++(nxt (y::r) a).flatMap (agE h X)=_
      rw[e1];rfl
    . have g:=Adj.glue (l:=agE h X (x,y)) (x:=y) (m:=w++[a]) (one x y hx (hr y (by simp)) (he _ (by simp [nxt]))) e2
      have e:x::((if h x*h y<0 then [X x y] else [])++y::w)++[a]=agE h X (x,y)++y::(w++[a]):=by
        unfold agE;simp
      rw[e];exact g
theorem prs_rot_mem {α:Type} {l m:List α} {e:α × α}:e∈prs (l++m)↔e∈prs (m++l):=by
 have z:=jlA (l++m) l.length;rw[xbJ,xbK] at z;rw[z,xaJ,Or.comm,<- xaJ,xa0]
theorem jnl {C:Int} (hz:∀v∈vs,1<=v.z) (hX:∀a b,a∈vs->b∈vs->ja1 A B C a*ja1 A B C b<0->Prp (xp (ja1 A B C) a b) (X a b)) (up:∃v∈vs,0<ja1 A B C v):∀e∈prs (upL (ja1 A B C) X vs),Nb (ja1 A B C) vs e.1 e.2:=by
  have x0:=fun a b ha hb o=>je2 (hX a b ha hb o) (jfZ (A:=A) (B:=B) (C:=C) o);obtain⟨u,hu,pu⟩:=up;rw[<- ag_up x0]
  match vs,hz,hX,x0,hu with
  | x :: r, hz, hX, x0, hu =>
    obtain⟨w,e1,e2,_⟩:=jnh (h:=ja1 A B C) (X:=X) (S:=fun v=>v∈x::r) hz (fun a b ha hb o=>⟨hX a b ha hb o,x0 a b ha hb o⟩) (a:=x) (by simp) r x (by simp) fun v hv=>xan _ hv;obtain⟨w',e1',e3⟩:=jnk (h:=ja1 A B C) hX r x x (by simp) (by simp) (fun v hv=>xan _ hv) fun e he=>he;have ww:w'=w:=by
      have:=e1'.symm.trans e1;injection this
    subst ww;have eA:agL (ja1 A B C) X (x::r)=x::w':=e1;have um:u∈x::w':=by
      rw[<- eA];obtain⟨i,hi,rfl⟩:=jgE hu;refine xbP.mpr ⟨_,xaw (jc5 t0 hi),?_⟩;exact xaP
    obtain⟨l1,l2,el⟩:=List.append_of_mem um;rw[eA,el];have rotA:∀{R:Tri->Tri->Prop},Adj R (x::w'++[x])->Adj R (u::(l2++l1)++[u]):=fun {R} c=>by
      have c1:Adj R (l1++u::(l2++[x])):=by
        have e2:x::w'++[x]=l1++u::(l2++[x]):=by rw[el];simp
        rw[<- e2];exact c
      cases l1 with
      | nil =>
        have:x=u:=by injection el
        subst this;simpa using c1
      | cons x' l1 =>
        have:x=x':=by injection el
        subst this;have g:=Adj.glue (l:=u::l2) (x:=x) (m:=l1++[u]) c1.right c1.left;simpa using g
    have a1:=rotA e2;have a2:=rotA e3;have a1':Adj (fun x y=>¬(ja1 A B C x<0/\0<ja1 A B C y)/\¬(0<ja1 A B C x/\ja1 A B C y<0)) (u::((l2++l1)++[u])):=a1;have a2':Adj (OnE (x::r)) (u::((l2++l1)++[u])):=a2;have f:=(jjT (h:=ja1 A B C) (P:=OnE (x::r)) ((l2++l1)++[u]) u).1 (by omega) a1' a2';rw[xau,xa4 (by exact decide_eq_true (show 0<=ja1 A B C u by omega)),List.filter_nil] at f;intro e he;have he':e∈prs (u::(l2++l1).filter fun p=>decide (0<=ja1 A B C p)):=by
      rw[xau,xa4 (by exact decide_eq_true (show 0<=ja1 A B C u by omega))] at he;have z:=prs_rot_mem.mp he;rw[xau];exact z
    rw[jnj] at he';exact jkA f e he'
theorem jfC {C:Int} {a b:Tri} (ha:ja1 A B C a=0) (hb:ja1 A B C b=0) (q u:Tri):dt a b q*ja1 A B C u=ja1 A B C q*dt a b u:=by
 unfold ja1 at *
 unfold dt jbF;grind
theorem jhj {C:Int} (R:Rng vs) (hX:∀a b,a∈vs->b∈vs->ja1 A B C a*ja1 A B C b<0->Prp (xp (ja1 A B C) a b) (X a b)) (up:∃v∈vs,0<ja1 A B C v):Rng (upL (ja1 A B C) X vs)/\∀p:Tri,1<=p.z->(InR (upL (ja1 A B C) X vs) p↔InR vs p/\0<=ja1 A B C p):=by
 have N:=jnl R.hz hX up;have x0:=fun a b ha hb o=>je2 (hX a b ha hb o) (jfZ (A:=A) (B:=B) (C:=C) o);have R2:Rng (upL (ja1 A B C) X vs):=by
  obtain⟨u,hu,pu⟩:=up;obtain⟨i,hi,rfl⟩:=jgE hu;refine⟨jlE hX R.n3 hi pu,up_tp hX R.n3 R.tp,fun v hv=>?_⟩;rcases jkv hv with ⟨h,_⟩ | ⟨a,b,ha,hb,o,rfl⟩
  ·exact R.hz v h
  ·exact (hX a b ha hb o).z (xp_z (R.hz a ha) (R.hz b hb) o)
 have inn:∀v∈upL (ja1 A B C) X vs,InR vs v/\0<=ja1 A B C v:=fun v hv=>by
  rcases jkv hv with ⟨h,h0⟩ | ⟨a,b,ha,hb,o,rfl⟩
  ·exact⟨R.own h,h0⟩
  ·refine⟨fun e he=>?_,by rw[x0 a b ha hb o];exact xba _⟩;obtain⟨k,m,k0,m0,e1,e2,e3⟩:=hX a b ha hb o;obtain⟨n1,n2,_,_⟩:=jdj o;have p1:=jbR n1;have p2:=jbR n2;have f1:=R.own ha e he;have f2:=R.own hb e he;have f3:dt e.1 e.2 (xp (ja1 A B C) a b)=ab (ja1 A B C b)*dt e.1 e.2 a+ab (ja1 A B C a)*dt e.1 e.2 b:=by unfold xp;exact jfz ..
   have f4:m*dt e.1 e.2 (X a b)=k*dt e.1 e.2 (xp (ja1 A B C) a b):=by
    rw[jgG,jgG];exact (jiF e1 e2 e3).symm
   have g1:=xaD (xbO p2) f1;have g2:=xaD (xbO p1) f2;have g3:=xaD (xbO k0) (show 0<=dt e.1 e.2 (xp (ja1 A B C) a b) by omega);rw[<- f4] at g3;rcases Int.lt_or_le (dt e.1 e.2 (X a b)) 0 with q | q
   ·have:=xaQ m0 q;omega
   ·exact q
 refine⟨R2,fun p pz=>⟨fun hp=>⟨fun e he=>?_,?_⟩,fun ⟨hp,h0⟩ e he=>?_⟩⟩
 ·rw[jgG];exact jiH R2 hp pz fun v hv=>by rw[<- jgG];exact (inn v hv).1 e he
 ·exact jiH R2 hp pz fun v hv=>(inn v hv).2
 ·rcases N e he with ⟨e',he',k,m,k0,m0,eq⟩ | ⟨z1,z2⟩
  ·have g:=xaD (xbO m0) (hp e' he');rw[<- eq p] at g;rcases Int.lt_or_le (dt e.1 e.2 p) 0 with q | q
   ·have:=xaQ k0 q;omega
   ·exact q
  ·obtain⟨u,hu,pu⟩:=up;have um:u∈upL (ja1 A B C) X vs:=by
    obtain⟨i,hi,rfl⟩:=jgE hu;refine xbP.mpr ⟨_,jky hi,?_⟩;unfold upE;rw[if_pos (by show 0<=ja1 A B C (tr vs i);omega)];exact xbQ _ (by simp)
   have l:=jfC z1 z2 p u;have g:=xaD h0 (R2.own um e he);rw[<- l] at g;rcases Int.lt_or_le (dt e.1 e.2 p) 0 with q | q
   ·have:=xaY q pu;omega
   ·exact q
structure Ln where
 A:Int
 B:Int
 C:Int
def hf (l:Ln):Tri->Int:=ja1 l.A l.B l.C
theorem jiI {l:Ln} (R:Rng vs) (up:∃v∈vs,0<hf l v):Rng (UP (hf l) vs)/\∀p:Tri,1<=p.z->(InR (UP (hf l) vs) p↔InR vs p/\0<=hf l p):=by
 rw[jkx up];exact jhj R (fun a b ha hb o=>jkw (R.hz a ha) (R.hz b hb) o) up
theorem Rng.ne (R:Rng us):us≠[]:=fun e=>by have:=R.n3;rw[e] at this;simp at this
theorem jlH (hv:v∈upL h X vs):(v∈vs/\0<=h v)\/∃e∈prs vs,h e.1*h e.2<0/\v=X e.1 e.2:=by
 obtain⟨e,he,hv⟩:=xbP.mp hv;unfold upE at hv;rcases xaJ.mp hv with h1 | h1
 ·by_cases c:0<=h e.1
  ·rw[if_pos c,xaB] at h1;subst h1;exact .inl ⟨(je1 he).1,c⟩
  ·rw[if_neg c] at h1;cases h1
 ·by_cases c:h e.1*h e.2<0
  ·rw[if_pos c,xaB] at h1;exact .inr ⟨e,he,c,h1⟩
  ·rw[if_neg c] at h1;cases h1
structure BI (b:Nat) (vs:List Tri):Prop where
 ed:∀e∈prs vs,∃l:Ln,Bd b l.A/\Bd b l.B/\Bd b l.C/\hf l e.1=0/\hf l e.2=0/\∃q,hf l q≠0
 vb:∀v∈vs,v.bd (b+b+1)
theorem jiJ (hz:1<=v.z):gl [(jfY v).x,(jfY v).y,(jfY v).z]=1:=by
 have g0:0<gl [v.x,v.y,v.z]:=jdy (n:=v.z) (by simp) (by omega);have d:∀n∈[v.x,v.y,v.z],gl [v.x,v.y,v.z]*(n / gl [v.x,v.y,v.z])=n:=fun n hn=>xaN (jaP hn);have e:=jkr g0 [(jfY v).x,(jfY v).y,(jfY v).z];have e2:[(jfY v).x,(jfY v).y,(jfY v).z].map (gl [v.x,v.y,v.z]*·)=[v.x,v.y,v.z]:=by
  simp only[xaI,List.map_nil,jfY];rw[d v.x (by simp),d v.y (by simp),d v.z (by simp)]
 rw[e2] at e;have:gl [v.x,v.y,v.z]*(gl [(jfY v).x,(jfY v).y,(jfY v).z]-1)=0:=by rw[Int.mul_sub];omega
 rcases xat.mp this with q | q<;>omega
theorem prim3 {z b c:Int} (g:gl [x,y,z]=1) (n:¬(a=0/\b=0/\c=0)) (h1:a*y=b*x) (h2:b*z=c*y) (h3:a*z=c*x):x.natAbs<=a.natAbs/\y.natAbs<=b.natAbs/\z.natAbs<=c.natAbs:=by
 have dv:∀{k m:Int},k ∣ m*x->k ∣ m*y->k ∣ m*z->k ∣ m:=fun {k m} d1 d2 d3=>by
  have:=jeb [x,y,z] 0 k m (by rw[xbf];exact Int.dvd_zero k) (fun q hq=>by
   simp only[xaq,xbv,or_false] at hq;rcases hq with rfl | rfl | rfl
   ·exact d1
   ·exact d2
   ·exact d3)
  have e:m*G 0 [x,y,z]=m:=by
   show m*gl [x,y,z]=m;rw[g,xbp]
  rw[e] at this;exact this
 have le:∀{k m:Int},k ∣ m->(m=0->k=0)->k.natAbs<=m.natAbs:=fun {k m} d z=>by
  by_cases m0:m=0
  ·rw[z m0,m0];exact xad _
  ·exact Nat.le_of_dvd (by omega) (xbN.mpr d)
 have kz:∀{p q:Int},p≠0->p*q=0->q=0:=fun hp h=>(xat.mp h).resolve_left hp;refine⟨le (dv ⟨a,by rw[xaU]⟩ ⟨b,by rw[h1,xaU]⟩ ⟨c,by rw[h3,xaU]⟩) fun e=>?_,le (dv ⟨a,by rw[<- h1,xaU]⟩ ⟨b,by rw[xaU]⟩ ⟨c,by rw[h2,xaU]⟩) fun e=>?_,le (dv ⟨a,by rw[<- h3,xaU]⟩ ⟨b,by rw[<- h2,xaU]⟩ ⟨c,by rw[xaU]⟩) fun e=>?_⟩
 ·subst e;rw[xaS] at h1 h3;by_cases b0:b=0
  ·exact kz (show c≠0 from fun q=>n ⟨rfl,b0,q⟩) h3.symm
  ·exact kz b0 h1.symm
 ·subst e;rw[xaS] at h1 h2;by_cases a0:a=0
  ·exact kz (show c≠0 from fun q=>n ⟨a0,rfl,q⟩) h2.symm
  ·exact kz a0 h1
 ·subst e;rw[xaS] at h2 h3;by_cases a0:a=0
  ·exact kz (show b≠0 from fun q=>n ⟨a0,q,rfl⟩) h2
  ·exact kz a0 h3
theorem BI.up {b:Nat} {l:Ln} (R:Rng vs) (I:BI b vs) (lA:Bd b l.A) (lB:Bd b l.B) (lC:Bd b l.C) (up:∃v∈vs,0<hf l v):BI b (UP (hf l) vs):=by
 rw[jkx up];have hX:∀a b,a∈vs->b∈vs->hf l a*hf l b<0->Prp (xp (hf l) a b) (bt (hf l) a b):=fun a b ha hb o=>jkw (R.hz a ha) (R.hz b hb) o;have N:=jnl (A:=l.A) (B:=l.B) (C:=l.C) R.hz hX up;refine⟨fun e he=>?_,fun v hv=>?_⟩
 ·rcases N e he with ⟨e',he',k,m,k0,m0,eq⟩ | ⟨z1,z2⟩
  ·obtain⟨l',b1,b2,b3,q1,q2,nz⟩:=I.ed e' he';obtain⟨i,hi,rfl⟩:=jiG he';have n3:=R.n3;obtain⟨j,hj,j1,j2⟩:=jbj (n:=vs.length) (i:=i) (j:=(i+1) % vs.length) n3;have pos:=jdI R.tp n3 hi hj (Ne.symm j2) (Ne.symm j1);have on:∀a:Tri,dt e.1 e.2 a=0->hf l' a=0:=fun a ha=>by
    have h1:=eq a;rw[ha,xbf] at h1;have h2:=(xat.mp h1.symm).resolve_left (by omega);have h3:=jfC q1 q2 a (tr vs j);simp only at h2 h3;rw[h2,xaS] at h3;exact (xat.mp h3.symm).resolve_right (by omega)
   exact⟨l',b1,b2,b3,on _ (jcE _ _).2.2,on _ (jcE _ _).2.1,nz⟩
  ·obtain⟨u,_,pu⟩:=up;exact⟨l,lA,lB,lC,z1,z2,u,by omega⟩
 ·rcases jlH hv with ⟨h,_⟩ | ⟨e,he,o,rfl⟩
  ·exact I.vb v h
  ·obtain⟨l',b1,b2,b3,q1,q2,⟨q,nz⟩⟩:=I.ed e he;obtain⟨m1,m2⟩:=je1 he;have xz:=xp_z (h:=hf l) (R.hz _ m1) (R.hz _ m2) o;have p:=hX _ _ m1 m2 o;have r1:hf l (bt (hf l) e.1 e.2)=0:=je2 p (jfZ o);have r2:hf l' (bt (hf l) e.1 e.2)=0:=je2 p (by
    unfold xp je7;have:ja1 l'.A l'.B l'.C e.1=0:=q1;have:ja1 l'.A l'.B l'.C e.2=0:=q2;generalize ab (hf l e.2)=s at *
    generalize ab (hf l e.1)=t at *
    unfold ja1 at *
    grind)
   have g:=jiJ xz;have ne:¬(l'.B*l.C-l'.C*l.B=0/\l'.C*l.A-l'.A*l.C=0/\l'.A*l.B-l'.B*l.A=0):=fun ⟨z1,z2,z3⟩=>by
    have k1:hf l e.1*hf l' q=hf l' e.1*hf l q:=by
     unfold hf ja1;grind
    rw[q1,xaS] at k1;rcases xat.mp k1 with w | w
    ·exact (jdj o).1 w
    ·exact nz w
   change ja1 _ _ _ _=0 at r1 r2;have gg:gl [(bt (hf l) e.1 e.2).x,(bt (hf l) e.1 e.2).y,(bt (hf l) e.1 e.2).z]=1:=g;generalize bt (hf l) e.1 e.2=w at r1 r2 gg |-
   unfold ja1 at r1 r2;obtain⟨c1,c2,c3⟩:=prim3 gg ne (by grind) (by grind) (by grind);have cb:∀{i j k m:Int},Bd b i->Bd b j->Bd b k->Bd b m->Bd (b+b+1) (i*j-k*m):=fun h1 h2 h3 h4=>Bd.sub (Bd.mul h1 h2) (Bd.mul h3 h4);exact⟨jly c1 (cb b2 lC b3 lB),jly c2 (cb b3 lA b1 lC),jly c3 (cb b1 lB b2 lA)⟩
structure VF (vs:List Tri):Prop where
 rg:Rng vs
 bi:BI 110 vs
theorem VF.up {l:Ln} (F:VF vs) (lA:Bd 110 l.A) (lB:Bd 110 l.B) (lC:Bd 110 l.C) (up:∃v∈vs,0<hf l v):VF (UP (hf l) vs):=⟨(jiI F.rg up).1,F.bi.up F.rg lA lB lC up⟩
theorem VF.six (R:Rng vs) (b:∀v∈vs,v.bd 6):VF vs:=by
 refine⟨R,fun e he=>?_,fun v hv=>je3 (b v hv)⟩;obtain⟨m1,m2⟩:=je1 he;obtain⟨i,hi,rfl⟩:=jiG he;have n3:=R.n3;obtain⟨j,hj,j1,j2⟩:=jbj (n:=vs.length) (i:=i) (j:=(i+1) % vs.length) n3;have pos:=jdI R.tp n3 hi hj (Ne.symm j2) (Ne.symm j1);have b1:=b _ m1;have b2:=b _ m2;simp only at b1 b2 pos |-
 generalize tr vs i=a at *
 generalize tr vs ((i+1) % vs.length)=c at *
 have cb:∀{i j k m:Int},Bd 6 i->Bd 6 j->Bd 6 k->Bd 6 m->Bd 110 (i*j-k*m):=fun h1 h2 h3 h4=>Bd.mono (n:=13) (Bd.sub (n:=12) (Bd.mul h1 h2) (Bd.mul h3 h4));refine⟨⟨a.y*c.z-a.z*c.y,a.z*c.x-a.x*c.z,a.x*c.y-a.y*c.x⟩,cb b1.2.1 b2.2.2 b1.2.2 b2.2.1,cb b1.2.2 b2.1 b1.1 b2.2.2,cb b1.1 b2.2.1 b1.2.1 b2.1,(jcE a c).2.2,(jcE a c).2.1,tr vs j,?_⟩;have:hf ⟨a.y*c.z-a.z*c.y,a.z*c.x-a.x*c.z,a.x*c.y-a.y*c.x⟩ (tr vs j)=dt a c (tr vs j):=rfl;omega
def lnOf (Z:Sht) (p:Pt):Ln:=⟨lnA Z p.x p.y p.z,lnB Z p.x p.y p.z,lnC Z p.x p.y p.z p.w⟩
def PlOk (Z:Sht) (p:Pt):Prop:=p.bd 100/\Bd 110 (lnOf Z p).A/\Bd 110 (lnOf Z p).B/\Bd 110 (lnOf Z p).C
theorem jjU (hw:1<=Z.w) (nz:Z.u.nz) (R:Rng vs) (n8:vs.length<=8):Brd (vs.map (spt Z)):=by
 have ln:(vs.map (spt Z)).length=vs.length:=xaa _;have n3:=R.n3;have pl:∀a,a<vs.length->(tr vs a).pl:=fun a ha=>R.hz _ (jeD ha);have d012:=R.tp 0 1 2 (by decide) (by decide) (by omega);refine⟨by omega,by omega,?_,?_,?_⟩
 ·rw[ja3 (by omega),ja3 (by omega),ja3 (by omega)];exact jcD hw nz (by omega)
 ·intro i hi;rw[ja3 (by omega),ja3 (by omega),ja3 (by omega),ja3 (by omega)];exact jjI hw (pl _ (by omega)) (pl _ (by omega)) (pl _ (by omega)) (pl _ (by omega))
 ·intro k k0 k2 _ i j hi j1 jn;rw[ln] at hi jn |-
  have m1:(i+(vs.length-1)) % vs.length<vs.length:=xaC _ (by omega);have m2:(i+j) % vs.length<vs.length:=xaC _ (by omega);rw[ja3 m1,ja3 hi,ja3 m2,ja3 (by omega),ja3 (by omega),ja3 (by omega)];have pos:=jdI (i:=(i+(vs.length-1)) % vs.length) (k:=(i+j) % vs.length) R.tp n3 m1 m2 (by
   by_cases c:i+j<vs.length
   ·rw[xak c];by_cases d:i=0
    ·subst d;rw[xby,xby,xak (by omega)];omega
    ·rw[show i+(vs.length-1)=i-1+vs.length by omega,xa8,xak (by omega)];omega
   ·rw[show i+j=i+j-vs.length+vs.length by omega,xa8,xak (by omega),show i+(vs.length-1)=i-1+vs.length by omega,xa8,xak (by omega)];omega) (by
   rw[jfB hi];by_cases c:i+j<vs.length
   ·rw[xak c];omega
   ·rw[show i+j=i+j-vs.length+vs.length by omega,xa8,xak (by omega)];omega)
  rw[jfB hi] at pos;rw[jix hw (pl _ m1) (pl _ hi) (pl _ m2) pos k0 k2,jix hw (pl _ (by omega)) (pl _ (by omega)) (pl _ (by omega)) d012 k0 k2]
theorem jnm:∀n,n<10->3<=n->∀a,a<n->(a+0) % n≠(a+1) % n/\(a+1) % n≠(a+2) % n/\(a+0) % n≠(a+2) % n:=by decide +kernel
theorem jnn:∀n,n<10->3<=n->∀a,a<n->(a+(n-0)) % n≠(a+(n-1)) % n/\(a+(n-1)) % n≠(a+(n-2)) % n/\(a+(n-0)) % n≠(a+(n-2)) % n:=by decide +kernel
theorem jiK (hw:1<=Z.w) (nz:Z.u.nz) (R:Rng us) (n9:us.length<=9) (r:RR (us.map (spt Z)) ps):¬jbC (pt ps 0) (pt ps 1) (pt ps 2):=by
 have ln:(us.map (spt Z)).length=us.length:=xaa _;have n3:=R.n3;obtain⟨hl,a,ha,d⟩:=r.dih (by omega) (by omega);rw[ln] at ha d;have i1:=jnm us.length (by omega) n3 a ha;have i2:=jnn us.length (by omega) n3 a ha;have md:∀i,i % us.length<us.length:=fun i=>xaC _ (by omega);rcases d with d | d
 ·rw[d 0 (by omega),d 1 (by omega),d 2 (by omega),ja3 (md _),ja3 (md _),ja3 (md _)];exact jcD hw nz (jjR R.tp (md _) (md _) (md _) i1.1 i1.2.1 i1.2.2)
 ·rw[d 0 (by omega),d 1 (by omega),d 2 (by omega),ja3 (md _),ja3 (md _),ja3 (md _)];exact jcD hw nz (jjR R.tp (md _) (md _) (md _) i2.1 i2.2.1 i2.2.2)
theorem jiL {f:Tri->Tri} (h:i<vs.length):tr (vs.map f) i=f (tr vs i):=by
 unfold tr;rw[xab,xag,xab,xac h];rfl
theorem Rng.mp {f:Tri->Tri} (R:Rng vs) (k0:0<k) (hd:∀a b c,dt (f a) (f b) (f c)=k*dt a b c) (hz:∀v,1<=v.z->1<=(f v).z):Rng (vs.map f):=by
 refine⟨by rw[xaa];exact R.n3,?_,fun v hv=>?_⟩
 ·intro a b c h1 h2 h3;rw[xaa] at h3;rw[jiL (by omega),jiL (by omega),jiL h3,hd];exact xas k0 (R.tp a b c h1 h2 h3)
 ·obtain⟨u,hu,rfl⟩:=xaG.mp hv;exact hz u (R.hz u hu)
theorem jiM {b c:Int} (hp:plb a b c=true):plb (-a) (-b) (-c)=false:=by
 by_cases ha:a=0
 ·by_cases hb:b=0
  ·by_cases hc:c=0
   ·simp [plb,ha,hb,hc] at hp
   ·simp [plb,ha,hb,hc] at hp |-
    omega
  ·simp [plb,ha,hb] at hp |-
   omega
 ·simp [plb,ha] at hp |-
  omega
theorem jlI (ns:List Int):low (ns.map fun n=>-n)=(low ns).map fun n=>-n:=by
 unfold low;rw[jkp,xbq,xbq];refine List.map_congr_left fun n hn=>?_;show -n / gl ns=-(n / gl ns);exact Int.neg_ediv_of_dvd (jaP hn)
theorem jlJ {b c:Int} (h:¬(a=0/\b=0/\c=0)):pln [-a,-b,-c,-d]=pln [a,b,c,d]:=by
  have gp:=gl4 (d:=d) h;have e:low [-a,-b,-c,-d]=(low [a,b,c,d]).map fun n=>-n:=jlI [a,b,c,d];have nz:¬(a / gl [a,b,c,d]=0/\b / gl [a,b,c,d]=0/\c / gl [a,b,c,d]=0):=fun z=>by
    have g:∀{x:Int},x∈[a,b,c,d]->x / gl [a,b,c,d]=0->x=0:=fun hx z=>xap fun q=>jdY (jaP hx) q z;exact h ⟨g (by simp) z.1,g (by simp) z.2.1,g (by simp) z.2.2⟩
  unfold pln;rw[e];have el:low [a,b,c,d]=[a / gl [a,b,c,d],b / gl [a,b,c,d],c / gl [a,b,c,d],d / gl [a,b,c,d]]:=rfl;rw[el];generalize a / gl [a,b,c,d]=x at nz;generalize b / gl [a,b,c,d]=y at nz;generalize c / gl [a,b,c,d]=z at nz;generalize d / gl [a,b,c,d]=w;show (if plb (-x) (-y) (-z)=true then [-x,-y,-z,-w] else [- -x,- -y,- -z,- -w])=(if plb x y z=true then [x,y,z,w] else [-x,-y,-z,-w]);cases eb:plb x y z with
  | true =>
    rw[jiM eb,if_neg (by decide),if_pos rfl];simp
  | false =>
    rw[jir nz eb,if_pos rfl,if_neg (by decide)]
theorem jlK {b c:Int} (hk:k≠0) (h:¬(a=0/\b=0/\c=0)):pln [k*a,k*b,k*c,k*d]=pln [a,b,c,d]:=by
 have pos:∀{k:Int},0<k->pln [k*a,k*b,k*c,k*d]=pln [a,b,c,d]:=fun {k} hk=>by
  have e:low [k*a,k*b,k*c,k*d]=low [a,b,c,d]:=jlx hk [a,b,c,d];unfold pln;rw[e]
 rcases Int.lt_or_gt_of_ne hk with n | p
 ·have e:pln [k*a,k*b,k*c,k*d]=pln [-k*a,-k*b,-k*c,-k*d]:=by
   have nz:¬(-k*a=0/\-k*b=0/\-k*c=0):=fun z=>by
    have f:∀{i:Int},-k*i=0->i=0:=fun e=>(xat.mp e).resolve_left (by omega);exact h ⟨f z.1,f z.2.1,f z.2.2⟩
   have z:=jlJ (d:=-k*d) nz;rw[<- z];simp only[xb8,Int.neg_neg]
  rw[e];exact pos (by omega)
 ·exact pos p
theorem jlL (a b:Int):Int.gcd b (a % b)=Int.gcd a b:=by
 have h1:((Int.gcd b (a % b):Nat):Int) ∣ (Int.gcd a b:Nat):=xbk (by
  have z:((Int.gcd b (a % b):Nat):Int) ∣ b*(a / b)+a % b:=Int.dvd_add (xbe (xbd ..) (Int.dvd_mul_right _ _)) (xa7 ..);rw[Int.mul_ediv_add_emod] at z;exact z) (xbd ..)
 have h2:((Int.gcd a b:Nat):Int) ∣ (Int.gcd b (a % b):Nat):=xbk (xa7 ..) (by
  rw[Int.emod_def];exact Int.dvd_sub (xbd ..) (xbe (xa7 ..) (Int.dvd_mul_right _ _)))
 exact Nat.dvd_antisymm (Int.natCast_dvd_natCast.mp h1) (Int.natCast_dvd_natCast.mp h2)
theorem gcd4 (x y z w:Int):((Int.gcd (Int.gcd x y:Nat) (Int.gcd z w:Nat):Nat):Int)=gl [x,y,z,w]:=by
 have p1:((Int.gcd (Int.gcd x y:Nat) (Int.gcd z w:Nat):Nat):Int) ∣ (Int.gcd x y:Nat):=xbd ..;have p2:((Int.gcd (Int.gcd x y:Nat) (Int.gcd z w:Nat):Nat):Int) ∣ (Int.gcd z w:Nat):=xa7 ..;have d:((Int.gcd (Int.gcd x y:Nat) (Int.gcd z w:Nat):Nat):Int) ∣ gl [x,y,z,w]:=jeu fun n hn=>by
  simp only[xaq,xbv,or_false] at hn;rcases hn with rfl | rfl | rfl | rfl
  ·exact xbe p1 (xbd ..)
  ·exact xbe p1 (xa7 ..)
  ·exact xbe p2 (xbd ..)
  ·exact xbe p2 (xa7 ..)
 have d':gl [x,y,z,w] ∣ ((Int.gcd (Int.gcd x y:Nat) (Int.gcd z w:Nat):Nat):Int):=xbk (xbk (jaP (by simp)) (jaP (by simp))) (xbk (jaP (by simp)) (jaP (by simp)));exact Int.dvd_antisymm (by omega) (ja7 _) d d'
def Mk (σ:L2.St) (te:TE) (φ:V->Hp->Prop):Prop:=∀H R,(∀v H',Same H H'->φ v H'->R v H')->te σ H R
def MkA (σ:L2.St) (ta:TA) (φ:List V->Hp->Prop):Prop:=∀H R,(∀v H',Same H H'->φ v H'->R v H')->ta σ H R
inductive PrP (H:Hp):List Addr->List (Int × Int)->Prop
 | nil:PrP H [] []
 | cons {r:Addr} {p:Int × Int} {rs:List Addr} {ps:List (Int × Int)}:H r=some (.tup [.int p.1,.int p.2])->PrP H rs ps->PrP H (r::rs) (p::ps)
theorem PrP.len {rs:List Addr} {ps:List (Int × Int)} (h:PrP H rs ps):rs.length=ps.length:=by
 induction h with
 | nil=>rfl
 | cons _ _ ih=>rw[xao,xao,ih]
theorem PrP.keep {rs:List Addr} {ps:List (Int × Int)} (h:PrP H rs ps) (s:SameT H H'):PrP H' rs ps:=by
 induction h with
 | nil=>exact .nil
 | cons e _ ih=>exact .cons (s _ _ e) ih
def IsP (p:Int × Int) (v:V) (H:Hp):Prop:=∃r,v=.ref r/\H r=some (.tup [.int p.1,.int p.2])
def RowA (ps:List (Int × Int)) (vs:List V) (H:Hp):Prop:=∃rs:List Addr,vs=rs.map V.ref/\PrP H rs ps
def IsL (ps:List (Int × Int)) (v:V) (H:Hp):Prop:=∃(l:Addr) (rs:List Addr),v=.ref l/\H l=some (.lst (rs.map V.ref))/\PrP H rs ps
def TabA:List (List (Int × Int))->List V->Hp->Prop
 | [],vs,_=>vs=[]
 | ps::pss,vs,H=>∃v ws,vs=v::ws/\IsL ps v H/\TabA pss ws H
theorem IsL.keep {ps:List (Int × Int)} {v:V} (h:IsL ps v H) (s:Same H H'):IsL ps v H':=by
 obtain⟨l,rs,rfl,h1,h2⟩:=h;exact⟨l,rs,rfl,s _ _ h1,h2.keep s.t⟩
theorem TabA.len:∀{pss:List (List (Int × Int))} {vs:List V} {H:Hp},TabA pss vs H->vs.length=pss.length
 | [],_,_,h=>by cases h;rfl
 | _::_,_,_,⟨_,_,e,_,h⟩=>by rw[e,xao,xao,h.len]
theorem TabA.keep:∀{pss:List (List (Int × Int))} {vs:List V} {H H':Hp},TabA pss vs H->Same H H'->TabA pss vs H'
 | [],_,_,_,h,_=>h
 | _::_,_,_,_,⟨v,ws,e,h1,h⟩,s=>⟨v,ws,e,h1.keep s,h.keep s⟩
theorem TabA.get:∀{pss:List (List (Int × Int))} {vs:List V} {H:Hp} {i:Nat},TabA pss vs H->i<pss.length->∃v,vs[i]?=some v/\IsL (pss.getD i []) v H
  | _::_,_,_,0,⟨v,ws,e,h1,_⟩,_=>⟨v,by rw[e];rfl,h1⟩
  | _ :: _, _, _, i + 1, ⟨v, ws, e, _, h⟩, hi => by
    obtain⟨u,h1,h2⟩:=h.get (i:=i) (Nat.lt_of_succ_lt_succ hi);exact⟨u,by rw[e];exact h1,h2⟩
def MkI (σ:L2.St) (te:TE) (a:Int):Prop:=∀H R,R (.int a) H->te σ H R
theorem jmd :MkI σ (tC (.int a)) a:=fun _ _ h=>h
theorem je4 :MkA σ jjb (RowA []):=fun H R q=>q _ _ (fun _ _ z=>z) ⟨[],rfl,.nil⟩
variable {ta:TA}
theorem jed {p:Int × Int} {ps:List (Int × Int)} (h:Mk σ te (IsP p)) (k:MkA σ ta (RowA ps)):MkA σ (jej te ta) (RowA (p::ps)):=fun H R q=>h H _ fun v H1 s1 ⟨r,e,hr⟩=>k H1 _ fun ws H2 s2 ⟨rs,e',hs⟩=>q _ _ (s1.trans s2) ⟨r::rs,by rw[e,e'];rfl,.cons (s2 _ _ hr) hs⟩
theorem jiN {ps:List (Int × Int)} (k:MkA σ ta (RowA ps)) (hl:ps.length<1000):Mk σ (jj8 ta) (IsL ps):=fun H R q=>k H _ fun vs H1 s1 ⟨rs,e,hs⟩=>by
 subst e;exact⟨xaO (jaM (by rw[xaa,hs.len];exact hl)),fun p hp=>q _ _ (s1.trans (Same.new hp _)) ⟨p,rs,rfl,jaf,hs.keep (Same.new hp _).t⟩⟩
theorem je5 :MkA σ jjb (TabA []):=fun H R q=>q _ _ (fun _ _ z=>z) rfl
theorem jee {ps:List (Int × Int)} {pss:List (List (Int × Int))} (h:Mk σ te (IsL ps)) (k:MkA σ ta (TabA pss)):MkA σ (jej te ta) (TabA (ps::pss)):=fun H R q=>h H _ fun v H1 s1 hv=>k H1 _ fun ws H2 s2 hs=>q _ _ (s1.trans s2) ⟨v,ws,rfl,hv.keep s2,hs⟩
theorem jiO {pss:List (List (Int × Int))} (k:MkA σ ta (TabA pss)) (hl:pss.length<1000):Mk σ (jj8 ta) (fun v H=>∃(l:Addr) (vs:List V),v=.ref l/\H l=some (.lst vs)/\TabA pss vs H):=fun H R q=>k H _ fun vs H1 s1 hs =>
 ⟨xaO (jaM (by rw[hs.len];exact hl)),fun p hp=>q _ _ (s1.trans (Same.new hp _)) ⟨p,vs,rfl,jaf,hs.keep (Same.new hp _)⟩⟩
theorem jf0 {ta tb:TE} {b:Int} (ha:MkI σ ta a) (hb:MkI σ tb b):Mk σ (jkX (jej ta (jej tb jjb))) (IsP (a,b)):=fun H R q =>
 ha _ _ (hb _ _ ⟨xaO (jaM (show 2<1000 by decide)),fun p hp=>q _ _ (Same.new hp _) ⟨p,rfl,jaf⟩⟩)
section
variable {α β:Type} {R R':α->β->Prop}
inductive All2 {α β:Type} (R:α->β->Prop):List α->List β->Prop
 | nil:All2 R [] []
 | cons {a:α} {b:β} {as:List α} {bs:List β} (h:R a b) (t:All2 R as bs):All2 R (a::as) (b::bs)
theorem All2.len {as:List α} {bs:List β} (h:All2 R as bs):as.length=bs.length:=by
 induction h with
 | nil=>rfl
 | cons _ _ ih=>rw[xao,xao,ih]
theorem All2.mono {as:List α} {bs:List β} (h:All2 R as bs) (f:∀a b,R a b->R' a b):All2 R' as bs:=by
 induction h with
 | nil=>exact .nil
 | cons h _ ih=>exact .cons (f _ _ h) ih
theorem All2.app {as as':List α} {bs bs':List β} (h:All2 R as bs) (h':All2 R as' bs'):All2 R (as++as') (bs++bs'):=by
 induction h with
 | nil=>exact h'
 | cons h _ ih=>exact .cons h ih
theorem All2.get {as:List α} {bs:List β} (h:All2 R as bs):∀{i:Nat} {b:β},bs[i]?=some b->∃a,as[i]?=some a/\R a b:=by
  induction h with
  | nil=>intro i b e;cases e
  | cons h _ ih =>
    intro i b e;cases i with
    | zero=>cases e;exact⟨_,rfl,h⟩
    | succ i=>exact ih e
theorem All2.getA {as:List α} {bs:List β} (h:All2 R as bs):∀{i:Nat} {a:α},as[i]?=some a->∃b,bs[i]?=some b/\R a b:=by
  induction h with
  | nil=>intro i b e;cases e
  | cons h _ ih =>
    intro i b e;cases i with
    | zero=>cases e;exact⟨_,rfl,h⟩
    | succ i=>exact ih e
end
theorem jlM {a:Addr} {zs:List V} {g:TG} {acc:Addr} {Z:Hp->Prop} (f:Nat->V) (hn:zs.length<1000) (hacc:H1 acc=none) (hz:SqL K H1 a zs)
  (hs:∀(i:Nat) (z:V) (v0:L2.St) (H3:Hp) (R:V->Hp->Prop),zs[i]?=some z->v0.length=n->Same H1 H3->(∀H4,Same H3 H4->R (f i) H4)->g z (v0++ρ) H3 fun σ2 H2=>(∃v:L2.St,v.length=n/\σ2=v++ρ)/\te σ2 H2 R)
  (hd:∀H',Same H1 H'->H' acc=some (.lst ((List.range zs.length).map f))->Z H')
  (mono:∀z σ H (A B:L2.St->Hp->Prop),(∀σ' H',A σ' H'->B σ' H')->g z σ H A->g z σ H B):jcY (Itl K a) n ρ g jdm te acc Z H1:=by
 refine⟨fun i m xs H=>(Same H1 H/\H acc=some (.lst xs)/\xs=(List.range i).map f)/\i<=zs.length/\m=zs.length-i,⟨zs.length,⟨Same.new hacc _,jaf,rfl⟩,xar _,rfl⟩,?_⟩;rintro i m xs H ⟨⟨g1,g2,rfl⟩,hi,rfl⟩;have sq:=g1.seq hz;by_cases hlt:i<zs.length
 ·have ez:zs[i]?=some zs[i]:=xac hlt;refine .inr ⟨⟨zs,zs[i],sq,ez⟩,(fun y H4=>y=f i/\Same H1 H4/\H4 acc=some (.lst ((List.range i).map f))),fun _=>False,?_,fun _ z=>z.elim,?_⟩
  ·rintro y H4 ⟨rfl,s4,a4⟩;refine⟨a4,jaM (by simp;omega),zs.length-(i+1),by omega,⟨Same.keepN s4 hacc _,jaf,?_⟩,hlt,rfl⟩;rw[xaK,xal];rfl
  ·rintro v0 x H' l0 ⟨rfl,hx⟩;have ex:x=zs[i]:=by
    have z:=hx zs sq;rw[ez] at z;exact (Option.some.inj z).symm
   subst ex;refine mono _ _ _ _ _ (fun σ' H'' h=>?_) (hs i _ v0 H' (fun y H4=>y=f i/\Same H1 H4/\H4 acc=some (.lst ((List.range i).map f))) ez l0 g1 fun H4 s4=>⟨rfl,g1.trans s4,s4 _ _ g2⟩);refine⟨h.1,?_⟩;simp only[jdm,if_true];exact h.2
 ·have e:i=zs.length:=by omega
  subst e;exact .inl ⟨⟨zs,sq,xad _⟩,hd _ g1 g2⟩
def Sta (H:Hp) (L:Addr):Prop:=∃a b:Int,H L=some (.lst [.int a,.int b])/\0<=b/\b<2147483647
theorem Sta.keep (h:Sta H L) (s:Same H H'):Sta H' L:=by
 obtain⟨a,b,h1,h2⟩:=h;exact⟨a,b,s _ _ h1,h2⟩
theorem Sta.ne {b:Addr} (h:Sta H L) (n:H b=none):b≠L:=fun e=>by
 obtain⟨_,_,h1,_⟩:=h;rw[e,h1] at n;cases n
theorem Sta.tup {b:Addr} (h:Sta H L) (n:H b=some (.tup xs)):b≠L:=fun e=>by
 obtain⟨_,_,h1,_⟩:=h;rw[e,h1] at n;cases n
theorem Sta.t (h:Sta H L) (s:SameB L H H'):SameT H H':=fun b xs hb=>s b _ (h.tup hb) hb
def jno:Sp:=fun vs H Q _=>∃(L:Addr) (n:Int),vs=[.ref L,.int n]/\Sta H L/\0<n/\n<2^60/\∀(H':Hp) (d:Int),SameB L H H'->Sta H' L->0<=d->d<n->Q (.int d) H'
theorem ok_nx (T:Tx K mg t1 t2) (F:At K mg "_law_next" jc3 ["state","many"] []):jam P w K mg base CX0 1 "_law_next" ["state","many"] [] jno:=by
 refine F.ok jdC (fun vs H Q E h=>?_) (fun f cdv A outer s H vs Q E hr h=>?_)
 ·obtain⟨L,n,rfl,_⟩:=h;rfl
 obtain⟨L,n,rfl,⟨a,b,hL,b0,b1⟩,n0,n60,q⟩:=h;have S:=jdC;refine⟨_,(jag (jaQ (jaq jfM (jal ix_list (pv 0) jab) jab (jay _))
  (jag (jat (i:=2) S.nd rfl (Or.inl rfl) (jar jci (jal ix_list (pv 0) jab) (pv 1)))
  (jag (jcN (jar jeL (jal ix_list (pv 0) jab) (pv 1)) (jj4 (pv 0) jab jgc))
  (jai (jap (pv 2)))))
  jaw)
  (jag (jcN (jar jci (jar jbk (jar jax (jal ix_list (pv 0) jab) jab) jab) jab) (jj4 (pv 0) jab jgc))
  (jai (jap (jar jci (jar jeL (jar jci (jar jax (jal ix_list (pv 0) jab) (jal ix_list (pv 0) jab)) jab) jab) (pv 1)))))),?_⟩
 have k1:SqL K H L [.int a,.int b]:=SqL.of hL;have fn:Fit n:=Bd.fit (n:=61) (by unfold Bd;omega);have fb:Fit b:=Bd.fit (n:=61) (by unfold Bd;omega);have fm:Fit (69621:Int):=Bd.fit (n:=61) (by unfold Bd;omega);have fp:Fit (2147483629:Int):=Bd.fit (n:=61) (by unfold Bd;omega);walk_at "rf";walk_at "gf";refine jcK (fun c=>?_) fun c=>?_
 ·refine ixL k1 rfl ⟨a,rfl,n0,ixL k1 rfl ⟨a,rfl,n0,fn,?_⟩⟩;unfold gSub;walk_at "rf";exact⟨L,_,0,0,rfl,rfl,hL,rfl,q _ _ SameB.set ⟨a / n,b,jaf,b0,b1⟩ (xbl _ (by omega)) (xa2 _ n0)⟩
 ·refine ixL k1 rfl ⟨b,rfl,fb,fm,by decide,?_⟩;have g0:=xbl (b*69621+40692) (show (2147483647:Int)≠0 by decide);have g1:=xa2 (b*69621+40692) (show (0:Int)<2147483647 by decide);unfold gSub;walk_at "rf";refine⟨L,_,1,1,rfl,rfl,hL,rfl,?_⟩;generalize (b*69621+40692) % 2147483647=b' at g0 g1;have e1:upd H L (.lst ([V.int a,V.int b].set 1 (V.int b'))) L=some (.lst [.int a,.int b']):=jaf;have sB:SameB L H (upd H L (.lst ([V.int a,V.int b].set 1 (V.int b')))):=SameB.set;generalize upd H L (.lst ([V.int a,V.int b].set 1 (V.int b')))=H1 at e1 sB;have k2:SqL K H1 L [.int a,.int b']:=SqL.of e1;have fb':Fit b':=Bd.fit (n:=61) (by unfold Bd;omega);have f8:Fit (8:Int):=Bd.fit (n:=61) (by unfold Bd;omega);exact ixL k2 rfl (ixL k2 rfl ⟨b',rfl,b',rfl,fb',fb',by decide,by decide,f8,n0,q _ _ sB ⟨a,b',e1,g0,g1⟩ (xbl _ (by omega)) (xa2 _ n0)⟩)
def jlN:Sp:=fun vs H Q _=>∃c:Int,vs=[.int c]/\∀(L:Addr) (H':Hp),H L=none->Same H H'->Sta H' L->Q (.ref L) H'
theorem jnp (T:Tx K mg t1 t2) (F:At K mg "_law_state" jcq ["cell"] []):jam P w K mg base CX0 1 "_law_state" ["cell"] [] jlN:=by
 refine F.ok jde (fun vs H Q E h=>?_) (fun f cdv A outer s H vs Q E hr h=>?_)
 ·obtain⟨c,rfl,_⟩:=h;rfl
 obtain⟨c,rfl,q⟩:=h;have S:=jde;refine⟨_,(jag (jat (i:=1) S.nd rfl (Or.inl rfl) jab)
  (jag (jaQ (jaq op_ge (pv 0) (jar jhx jab jab) (jay _))
  (jai (jat (i:=1) S.nd rfl (Or.inl rfl) (pv 0)))
  jaw)
  (jai (jap (jaZ (jaa (pv 1) (jaa (jar jci (jar jax (jar jbk (jar jci (pv 0) jab) jab) jab) jab) jac jbm) jae)))))),?_⟩
 have e18:(10:Int)^Int.toNat 18=1000000000000000000:=by decide
 walk_at "rf";have m0:=xbl c (show (2147483629:Int)≠0 by decide);have m1:=xa2 c (show (0:Int)<2147483629 by decide);have f1:Fit (c % 2147483629+11):=Bd.fit (n:=61) (by unfold Bd;omega);have f2:Fit (48271:Int):=Bd.fit (n:=61) (by unfold Bd;omega);have g0:=xbl ((c % 2147483629+11)*48271) (show (2147483647:Int)≠0 by decide);have g1:=xa2 ((c % 2147483629+11)*48271) (show (0:Int)<2147483647 by decide);refine⟨⟨by decide,by decide,by decide⟩,jcK (fun _=>?_) fun _=>?_⟩<;>exact⟨by decide,f1,f2,by decide,by decide,fun p hp=>q p _ hp (Same.new hp _) ⟨_,_,jaf,g0,g1⟩⟩
def jkB (K:PySem.W.Frag):Sp:=fun vs H Q _=>∃(a:Addr) (ns:List Int) (k:Nat),vs=[.ref a,.int (k:Nat)]/\SqL K H a (ns.map V.int)/\ns.length<=63/\k<64/\∀(i:Int) (H':Hp),Same H H'->Q (.int i) H'
theorem jlO (T:Tx K mg t1 t2) (F:At K mg "_law_cell_at" jbN ["script","k"] []):jam P w K mg base CX0 1 "_law_cell_at" ["script","k"] [] (jkB K):=by
 refine F.ok jcx (fun vs H Q E h=>?_) (fun f cdv A outer s H vs Q E hr h=>?_)
 ·obtain⟨a,ns,k,rfl,_⟩:=h;rfl
 obtain⟨a,ns,k,rfl,k1,n63,k64,q⟩:=h;have S:=jcx;refine⟨_,(jag (jaQ (jaq jgR (pv 1) (jaB jaL rfl T.m_len PySem.boot_len (jaa (pv 0) jac jae)) (jay _))
  (jai (jap (jal ix_list (pv 0) (pv 1))))
  jaw)
  (jag (jat (i:=2) S.nd rfl (Or.inl rfl) jab)
  (jag (jaQ (jaq (jcO (jg1 hr)) (pv 0) (jaZ jac) (jay _))
  (jai (jat (i:=2) S.nd rfl (Or.inl rfl) (jar jci (jal ix_list (pv 0) (jar jci (pv 1) (jaB jaL rfl T.m_len PySem.boot_len (jaa (pv 0) jac jae)))) jab)))
  jaw)
  (jai (jap (jar jbk (jar jbk (pv 2) (jar jax jab (pv 1))) jab)))))),?_⟩
 have ln:(ns.map V.int).length=ns.length:=xaa _;walk_at "rf";walk_at "gf";have fk:Fit (k:Int):=Bd.fit (n:=61) (by unfold Bd;omega);have fc:Fit (104729:Int):=Bd.fit (n:=61) (by unfold Bd;omega);refine jcK (fun c=>?_) fun c=>?_
 ·rw[ln] at c;have hk:k<ns.length:=by omega
  exact ixL k1 (v:=.int ns[k]) (jaI (by rw[xag,xac hk];rfl)) (q _ _ (Same.refl _))
 ·refine⟨by decide,fun p hp=>?_⟩;refine jel hp fun H1 s1 e1=>?_;have k2:=s1.seq k1;refine jeN (x:=ns) (y:=[]) k2 (SqL.of e1) ⟨_,rfl,?_⟩;refine jcK (fun c1=>?_) fun c1=>⟨fc,fk,q _ _ s1⟩;have n0:0<ns.length:=by
   cases ns with
   | nil=>exact absurd c1 (by decide)
   | cons _ _=>exact Nat.succ_pos _
  refine⟨_,.inl k2,by rw[ln];omega,?_⟩;rw[ln];have hm:k % ns.length<ns.length:=xaC _ n0;have em:(k:Int) % (ns.length:Int)=((k % ns.length:Nat):Int):=(Int.natCast_emod ..).symm;rw[em];exact ixL k2 (v:=.int ns[k % ns.length]) (jaI (by rw[xag,xac hm];rfl)) ⟨_,rfl,by decide,fc,fk,q _ _ s1⟩
def Lt3 (K:PySem.W.Frag) (H:Hp) (a:Addr) (u:Tri):Prop:=SqL K H a [.int u.x,.int u.y,.int u.z]\/SqT K H a [.int u.x,.int u.y,.int u.z]
def upr (u v:Tri):Tri:=⟨u.y*v.z-u.z*v.y,u.z*v.x-u.x*v.z,u.x*v.y-u.y*v.x⟩
def jlP (K:PySem.W.Frag):Sp:=fun vs H Q _=>∃(a b:Addr) (u v:Tri),vs=[.ref a,.ref b]/\Lt3 K H a u/\Lt3 K H b v/\u.bd 900/\v.bd 900/\∀(g:Addr) (H':Hp),H g=none->Same H H'->H' g=some (.tup [.int (upr u v).x,.int (upr u v).y,.int (upr u v).z])->Q (.ref g) H'
theorem jnq (T:Tx K mg t1 t2) (F:At K mg "_law_upright" jbO ["one","other"] []):jam P w K mg base CX0 1 "_law_upright" ["one","other"] [] (jlP K):=by
 refine F.ok jcy (fun vs H Q E h=>?_) (fun f cdv A outer s H vs Q E hr h=>?_)
 ·obtain⟨a,b,u,v,rfl,_⟩:=h;rfl
 obtain⟨a,b,u,v,rfl,k1,k2,⟨u1,u2,u3⟩,⟨v1,v2,v3⟩,q⟩:=h;have S:=jcy;refine⟨_,(jai (jap (jaH (jaa (jar jbh (jar jax (jal (jcf (K:=K) rfl) (pv 0) jab) (jal (jcf (K:=K) rfl) (pv 1) jab)) (jar jax (jal (jcf (K:=K) rfl) (pv 0) jab) (jal (jcf (K:=K) rfl) (pv 1) jab))) (jaa (jar jbh (jar jax (jal (jcf (K:=K) rfl) (pv 0) jab) (jal (jcf (K:=K) rfl) (pv 1) jab)) (jar jax (jal (jcf (K:=K) rfl) (pv 0) jab) (jal (jcf (K:=K) rfl) (pv 1) jab))) (jaa (jar jbh (jar jax (jal (jcf (K:=K) rfl) (pv 0) jab) (jal (jcf (K:=K) rfl) (pv 1) jab)) (jar jax (jal (jcf (K:=K) rfl) (pv 0) jab) (jal (jcf (K:=K) rfl) (pv 1) jab))) jac jbm) jbm) jbm)))),?_⟩;have f1:Fit u.x:=u1.fit;have f2:Fit u.y:=u2.fit;have f3:Fit u.z:=u3.fit;have g1:Fit v.x:=v1.fit;have g2:Fit v.y:=v2.fit;have g3:Fit v.z:=v3.fit;have i0:∀w:Tri,atI [V.int w.x,V.int w.y,V.int w.z] 0=some (V.int w.x):=fun _=>rfl;have i1:∀w:Tri,atI [V.int w.x,V.int w.y,V.int w.z] 1=some (V.int w.y):=fun _=>rfl;have i2:∀w:Tri,atI [V.int w.x,V.int w.y,V.int w.z] 2=some (V.int w.z):=fun _=>rfl;unfold Lt3 at k1 k2;walk_at "rf";exact jgB k1 (i1 u) (jgB k2 (i2 v) ⟨_,rfl,_,rfl,f2,g3,jgB k1 (i2 u) (jgB k2 (i1 v) ⟨_,rfl,_,rfl,f3,g2,jgB k1 (i2 u) (jgB k2 (i0 v) ⟨_,rfl,_,rfl,f3,g1,jgB k1 (i0 u) (jgB k2 (i2 v) ⟨_,rfl,_,rfl,f1,g3,jgB k1 (i0 u) (jgB k2 (i1 v) ⟨_,rfl,_,rfl,f1,g2,jgB k1 (i1 u) (jgB k2 (i0 v) ⟨_,rfl,_,rfl,f2,g1,by decide,fun p hp=>q p _ hp (Same.new hp _) jaf⟩)⟩)⟩)⟩)⟩)⟩)
theorem jnr {P:Int->Prop} (l:ys.length=3) (h:∀y∈ys,∃d:Int,y=.int d/\P d):∃a b c:Int,ys=[.int a,.int b,.int c]/\P a/\P b/\P c:=by
  match ys,l with
  | [x, y, z], _ =>
    obtain⟨a,rfl,ha⟩:=h x (by simp);obtain⟨b,rfl,hb⟩:=h y (by simp);obtain⟨c,rfl,hc⟩:=h z (by simp);exact⟨a,b,c,rfl,ha,hb,hc⟩
theorem jns {acc:Addr} {Z:Hp->Prop} {lo:Int} (p:V->Prop) (hn:n<1000) (hacc:H1 acc=none) (b0:Sta H1 L)
  (hs:∀(i:Nat) (H3:Hp) (R:V->Hp->Prop),i<n->SameB L H1 H3->Sta H3 L->(∀y H4,SameB L H3 H4->Sta H4 L->p y->R y H4)->te (some (.int (lo+i))::ρ) H3 R)
  (hd:∀ys H',SameB L H1 H'->Sta H' L->H' acc=some (.lst ys)->ys.length=n->(∀y∈ys,p y)->Z H'):CompGo (Itr lo n) ρ (jcg 0) jdm te acc Z H1:=by
 have ne:=b0.ne hacc;have up:∀{H:Hp} {xs:List V},Sta H L->Sta (upd H acc (.lst xs)) L:=fun {H xs} ⟨a,b,h1,h2⟩=>⟨a,b,by rw[jaA (Ne.symm ne)];exact h1,h2⟩;refine jer (fun i xs H=>SameB L H1 H/\Sta H L/\H acc=some (.lst xs)/\xs.length=i/\∀y∈xs,p y) ⟨(Same.new hacc _).b,up b0,jaf,rfl,fun y h=>nomatch h⟩ ?_ ?_
 ·rintro i xs H hi ⟨g1,gb,g2,hl,hp⟩;refine hs i H _ hi g1 gb fun y H4 s4 b4 py=>⟨s4 _ _ ne g2,jaM (by omega),SameB.acc (g1.trans s4) hacc,up b4,jaf,?_,fun z hz=>?_⟩
  ·rw[xae,hl];rfl
  ·rcases xaJ.mp hz with hz | hz
   ·exact hp z hz
   ·rw[xaB.mp hz];exact py
 ·rintro xs H ⟨g1,gb,g2,hl,hp⟩;exact hd xs H g1 gb g2 hl hp
def jlQ:Sp:=fun vs H Q _=>∃(L:Addr) (n:Int),vs=[.ref L,.int n]/\Sta H L/\0<=n/\n<=1000001/\∀(t:Addr) (H':Hp) (v:Tri),H t=none->SameB L H H'->Sta H' L->H' t=some (.tup [.int v.x,.int v.y,.int v.z])->(v.x.natAbs<=n.natAbs/\v.y.natAbs<=n.natAbs/\v.z.natAbs<=n.natAbs)->Q (.ref t) H'
theorem jnt (T:Tx K mg t1 t2) (F:At K mg "_law_arrow" jbr ["state","span"] []) (db:jam P w K mg base CX0 1 "_law_next" ["state","many"] [] jno):jam P w K mg base CX0 2 "_law_arrow" ["state","span"] [] jlQ:=by
 refine F.ok jdf (fun vs H Q E h=>?_) (fun f cdv A outer s H vs Q E hr h=>?_)
 ·obtain⟨L,n,rfl,_⟩:=h;rfl
 obtain⟨L,n,rfl,hL,n0,n1,q⟩:=h;have S:=jdf;refine⟨_,(jai (jap (jaJ jb0 rfl T.m_tuple boot_tuple (jaa (jba rfl (N':=["k","state","span"]) (ix:=[0,1]) ⟨rfl,rfl,by decide +kernel,by decide +kernel,by decide +kernel,(show ∀y:Str × NameKind,y∈_->y.2=NameKind.free->(jad jbr).names.lookup y.1=some .cell\/(jad jbr).names.lookup y.1=some .free from by decide +kernel),(.cons rfl (.inl rfl) rfl (.cons rfl (.inl rfl) rfl .nil))⟩ (jaX rfl T.m_range (jaa jab jac jaj)) (fun _ _ _ _=>jao (i:=0) (show (["k","state","span"]:List Str).Nodup from by decide +kernel) rfl (Or.inl rfl)) (fun _ _ _ _=>jbe) (fun _ _ _ _=>(jar jbh (jah db hr.m rfl jau (jaa (pv 1) (jaa (jar jbk (jar jax jab (pv 2)) jab) jac jbm) jae)) (pv 2)))) jac jcP)))),?_⟩;walk_at "rf";refine⟨by decide,by decide,fun acc hacc=>jns (L:=L) (n:=3) (fun y=>∃d:Int,y=.int d/\d.natAbs<=n.natAbs) (by decide) hacc hL (fun i H3 R hi s3 b3 hR=>?_) fun ys H1 s1 b1 e1 l1 p1=>?_⟩
 ·walk_at "rf";refine⟨.o (by decide) (by decide),.o (by omega) (by omega),L,_,rfl,b3,by omega,by omega,fun H4 d s4 b4 d0 d1=>⟨_,rfl,hR _ _ s4 b4 ⟨_,rfl,by omega⟩⟩⟩
 obtain⟨x,y,z,rfl,hx,hy,hz⟩:=jnr l1 p1;exact⟨_,SqL.of e1,fun l hl=>q l _ ⟨x,y,z⟩ (s1.none (b1.ne hl) hl) (s1.trans (Same.new hl _).b) (b1.keep (Same.new hl _)) jaf ⟨hx,hy,hz⟩⟩
structure RawB (n:Nat) (Z:Sht):Prop where
 w1:1<=Z.w
 w3:Z.w<=3
 sx:Z.s.x.natAbs<=2097152+n*8388608
 sy:Z.s.y.natAbs<=2097152+n*8388608
 sz:Z.s.z.natAbs<=2097152+n*8388608
 c:Z.c.x.natAbs<=1000000/\Z.c.y.natAbs<=1000000/\Z.c.z.natAbs<=1000000
 d:Z.d.x.natAbs<=1000000/\Z.d.y.natAbs<=1000000/\Z.d.z.natAbs<=1000000
theorem jkC (h:v.x.natAbs<=1000000/\v.y.natAbs<=1000000/\v.z.natAbs<=1000000) (l:20<=n):v.bd n :=
 ⟨Bd.mono (n:=20) (by unfold Bd;omega) l,Bd.mono (n:=20) (by unfold Bd;omega) l,Bd.mono (n:=20) (by unfold Bd;omega) l⟩
structure RawOk (n:Nat) (Z:Sht):Prop where
 b:RawB n Z
 nz:Z.u.nz
theorem RawB.mono {m:Nat} (h:RawB n Z) (l:n<=m):RawB m Z :=
 ⟨h.w1,h.w3,xav h.sx (by omega),xav h.sy (by omega),xav h.sz (by omega),h.c,h.d⟩
theorem RawOk.mono {m:Nat} (h:RawOk n Z) (l:n<=m):RawOk m Z:=⟨h.b.mono l,h.nz⟩
def Bas (H:Hp) (b c d:Addr) (Z:Sht):Prop:=H b=some (.tup [.int Z.s.x,.int Z.s.y,.int Z.s.z,.int Z.w])/\H c=some (.tup [.int Z.c.x,.int Z.c.y,.int Z.c.z])/\H d=some (.tup [.int Z.d.x,.int Z.d.y,.int Z.d.z])
theorem Bas.keep {b c d:Addr} (h:Bas H b c d Z) (s:SameT H H'):Bas H' b c d Z:=⟨s _ _ h.1,s _ _ h.2.1,s _ _ h.2.2⟩
def rM1 (H:Hp) (L M:Addr):L2.St->Hp->Prop:=fun σ H'=>∃way:Int,σ=[some (.ref L),some (.ref M),some (.int way),none,none,none,none,none,none,none]/\0<=way/\way<8/\SameB L H H'/\Sta H' L
def rM2 (H:Hp) (L M:Addr):L2.St->Hp->Prop:=fun σ H'=>∃way sp:Int,σ=[some (.ref L),some (.ref M),some (.int way),some (.int sp),none,none,none,none,none,none]/\0<=way/\way<8/\3<=sp/\sp<=1000000/\SameB L H H'/\Sta H' L
def rM3 (H:Hp) (L M:Addr):L2.St->Hp->Prop:=fun σ H'=>∃(way sp w:Int) (b:Addr) (v:Tri),σ=[some (.ref L),some (.ref M),some (.int way),some (.int sp),some (.ref b),none,none,none,none,none]/\0<=way/\way<8/\3<=sp/\sp<=1000000/\H' b=some (.tup [.int v.x,.int v.y,.int v.z,.int w])/\1<=w/\w<=3/\v.x.natAbs<=1000001/\v.y.natAbs<=1000001/\v.z.natAbs<=1000001/\SameB L H H'/\Sta H' L
def rM5 (H:Hp) (L M:Addr):L2.St->Hp->Prop:=fun σ H'=>∃(way:Int) (b c d:Addr) (Z:Sht) (o3:Option V),σ=[some (.ref L),some (.ref M),some (.int way),o3,some (.ref b),some (.ref c),some (.ref d),none,none,none]/\0<=way/\way<8/\Bas H' b c d Z/\RawB 0 Z/\SameB L H H'/\Sta H' L
def rM6 (H:Hp) (L M:Addr):L2.St->Hp->Prop:=fun σ H'=>∃(way:Int) (b c d:Addr) (Z:Sht) (o3:Option V),σ=[some (.ref L),some (.ref M),some (.int way),o3,some (.ref b),some (.ref c),some (.ref d),none,none,none]/\0<=way/\way<8/\Bas H' b c d Z/\RawOk 0 Z/\SameB L H H'/\Sta H' L
def rM7 (H:Hp) (L M:Addr) (n:Nat):L2.St->Hp->Prop:=fun σ H'=>∃(b c d:Addr) (Z:Sht) (o2 o3 o7 o8 o9:Option V),σ=[some (.ref L),some (.ref M),o2,o3,some (.ref b),some (.ref c),some (.ref d),o7,o8,o9]/\Bas H' b c d Z/\RawOk (n+1) Z/\SameB L H H'/\Sta H' L
def RawAt (H:Hp) (t:Addr) (Z:Sht) (sh:Nat):Prop:=∃b c d:Addr,H t=some (.tup [.ref b,.ref c,.ref d,.int (sh:Nat)])/\H b=some (.tup [.int Z.s.x,.int Z.s.y,.int Z.s.z,.int Z.w])/\H c=some (.tup [.int Z.c.x,.int Z.c.y,.int Z.c.z])/\H d=some (.tup [.int Z.d.x,.int Z.d.y,.int Z.d.z])/\sh<6
theorem RawAt.keep {t:Addr} {sh:Nat} (h:RawAt H t Z sh) (s:SameT H H'):RawAt H' t Z sh:=by
 obtain⟨b,c,d,h1,h2,h3,h4,h5⟩:=h;exact⟨b,c,d,s _ _ h1,s _ _ h2,s _ _ h3,s _ _ h4,h5⟩
def RwAt (n:Nat) (H:Hp) (t:Addr) (z:Sht × Nat):Prop:=RawAt H t z.1 z.2/\RawOk n z.1
theorem RwAt.keep {t:Addr} {z:Sht × Nat} (h:RwAt n H t z) (s:SameT H H'):RwAt n H' t z:=⟨h.1.keep s,h.2⟩
theorem RwAt.rds {t:Addr} {z:Sht × Nat} (h:RwAt n H t z):Rds K H (.ref t) (.tuple [.tuple [.int z.1.s.x,.int z.1.s.y,.int z.1.s.z,.int z.1.w],.tuple [.int z.1.c.x,.int z.1.c.y,.int z.1.c.z],.tuple [.int z.1.d.x,.int z.1.d.y,.int z.1.d.z],.int (z.2:Nat)]):=by
 obtain⟨⟨b,c,d,h1,h2,h3,h4,_⟩,_⟩:=h;exact .tup (SqT.of h1) (.cons (.tup (SqT.of h2) (RdsAll.ints [_,_,_,_])) (.cons (.tup (SqT.of h3) (RdsAll.ints [_,_,_])) (.cons (.tup (SqT.of h4) (RdsAll.ints [_,_,_])) (.cons (.int _) .nil))))
def rwD (z:Sht × Nat):PyData:=.tuple [.tuple [.int z.1.s.x,.int z.1.s.y,.int z.1.s.z,.int z.1.w],.tuple [.int z.1.c.x,.int z.1.c.y,.int z.1.c.z],.tuple [.int z.1.d.x,.int z.1.d.y,.int z.1.d.z],.int (z.2:Nat)]
theorem jjV {rs:List Addr} {zs:List (Sht × Nat)} (h:All2 (RwAt n H) rs zs):RdsAll K H (rs.map V.ref) (zs.map rwD):=by
 induction h with
 | nil=>exact .nil
 | cons h _ ih=>exact .cons h.rds ih
theorem jlR (zs:List (Sht × Nat)):PyData.canLayAll0 (zs.map rwD)=true/\PyData.depthAll (zs.map rwD)<=2:=by
  induction zs with
  | nil=>exact⟨rfl,by decide⟩
  | cons z zs ih =>
    obtain⟨a,b⟩:=ih;refine⟨?_,?_⟩
    . rw[xaI]
      simp [PyData.canLayAll0,a,rwD,PyData.canLay0]
    . rw[xaI]
      simp [PyData.depthAll,rwD,PyData.depth];omega
theorem jnu (zs:List (Sht × Nat)):SeqAt.shaped (.list (zs.map rwD))=true:=by
 obtain⟨a,b⟩:=jlR zs;unfold SeqAt.shaped;simp [PyData.canLay0,a,PyData.depth];omega
theorem jgH {M p:Addr} {rs:List Addr} {zs:List (Sht × Nat)} (hM:H M=some (.lst (rs.map V.ref))) (h:All2 (RwAt n H) rs zs) (hp:H p=some (.lst [])) (q:Q (.bl (!decide (rs=[]))) H):jjg K true (.ref M) (.ref p) H Q:=by
 refine⟨_,.list [],.lst (SqL.of hM) (jjV h),.lst (SqL.of hp) .nil,jnu zs,by decide,?_⟩;have e:PyData.eqv (.list (zs.map rwD)) (.list [])=decide (rs=[]):=by
  cases h with
  | nil=>rfl
  | cons _ _=>rfl
 rw[e];exact q
def jnv:Sp:=fun vs H Q _=>∃(L M:Addr) (n:Nat) (rs:List Addr) (zs:List (Sht × Nat)),vs=[.ref L,.ref M]/\Sta H L/\M≠L/\H M=some (.lst (rs.map V.ref))/\All2 (RwAt n H) rs zs/\n<=8/\rs.length<900/\∀(t:Addr) (H':Hp) (z:Sht × Nat),SameB L H H'->Sta H' L->RwAt (n+1) H' t z->Q (.ref t) H'
theorem jlS {X:Cx} {o:Operator} {r:R2} {a b:Expr} {ta tb:TE} {pos:Pos} (h:OpR X (binaryOp o) r) (ha:WE X a ta) (hb:WE X b tb):WE X (.BinOp a o b pos) (tOp r ta tb):=⟨jar h ha.h hb.h⟩
def cmp (v:Tri) (k:Nat):Int:=if k=0 then v.x else if k=1 then v.y else v.z
theorem jme (v:Tri) {k:Nat} (h:k<3):atI [V.int v.x,V.int v.y,V.int v.z] (0+(k:Int))=some (.int (cmp v k)):=by
 match k,h with
 | 0,_=>rfl
 | 1,_=>rfl
 | 2,_=>rfl
theorem jmf (v:Tri) (u:Int) {k:Nat} (h:k<3):atI [V.int v.x,V.int v.y,V.int v.z,V.int u] (0+(k:Int))=some (.int (cmp v k)):=by
 match k,h with
 | 0,_=>rfl
 | 1,_=>rfl
 | 2,_=>rfl
theorem jef (h:v.x.natAbs<=n/\v.y.natAbs<=n/\v.z.natAbs<=n) (k:Nat):(cmp v k).natAbs<=n:=by
 unfold cmp;split
 ·exact h.1
 ·split
  ·exact h.2.1
  ·exact h.2.2
theorem jlT {c w:Int} (hx:x.natAbs<=2) (hc:c.natAbs<=1000000) (hw:w.natAbs<=3):(a+x*c*w).natAbs<=a.natAbs+6000000:=by
 have h1:=Nat.mul_le_mul hx hc;rw[<- xb2] at h1;have h2:=Nat.mul_le_mul h1 hw;rw[<- xb2] at h2;omega
theorem jfD {α β:Type} {R:α->β->Prop} {as:List α} {bs:List β} (h:All2 R as bs) (n:as≠[]):∃a b k,as.length=k+1/\as[k]?=some a/\R a b:=by
  cases e:as.length with
  | zero=>exact absurd (xa3.mp e) n
  | succ k =>
    have ha:as[k]?=some as[k]:=xac (by omega);obtain⟨b,_,r⟩:=h.getA ha;exact⟨_,b,k,rfl,ha,r⟩
theorem upr_u (Z:Sht):upr Z.c Z.d=Z.u:=rfl
theorem jnw (T:Tx K mg t1 t2) (F:At K mg "_law_raw" jbU ["state","made"] []) (db:jam P w K mg base CX0 1 "_law_next" ["state","many"] [] jno) (dl:jam P w K mg base CX0 2 "_law_arrow" ["state","span"] [] jlQ) (dC:jam P w K mg base CX0 1 "_law_upright" ["one","other"] [] (jlP K)):jam P w K mg base CX0 3 "_law_raw" ["state","made"] [] jnv:=by
 refine F.okW jd8 (fun vs H Q E h=>?_) (fun f cdv A outer s H vs Q E hr h=>?_)
 ·obtain⟨L,M,n,rs,zs,rfl,_⟩:=h;rfl
 obtain⟨L,M,n,rs,zs,rfl,hL,nM,hM,hz,n8,l9,q⟩:=h;have S:=jd8;refine⟨_,(jjm ⟨(jat (i:=2) S.nd rfl (Or.inl rfl) (jah db hr.m rfl jau (jaa (pv 0) (jaa jab jac jaj) jae)))⟩
  (jcX (rM1 H L M) ⟨(jaQ (PW.pt (jf5 (jaq jdF (pv 2) jab (jay _)) (jfK (jaq (jcO (jg1 hr)) (pv 1) (jaZ jac) (jay _)))))
  (jai (jap (jal ix_list (pv 1) (jdN jcj jab))))
  jaw)⟩
  (jcX (rM2 H L M) (jfq (jmA ix_list (jcm (jak ⟨jab⟩ (jak ⟨jab⟩ (jak ⟨jab⟩ (jak ⟨(jar jhx jab jab)⟩ jaF jbm) jaj) jaj) jaj)) (jah db hr.m rfl jau (jaa (pv 0) (jaa jab jac jaj) jae)) (fun _ _=>rfl)) (jao (i:=3) S.nd rfl (Or.inl rfl)))
  (jcX (rM3 H L M) (jfq (jlS jhJ ⟨(jah dl hr.m rfl jau (jaa (pv 0) (jaa (jar jbk (pv 3) jab) jac jbm) jae))⟩ (ja0 (jak (jmA ix_list (jcm (jak ⟨jab⟩ (jak ⟨jab⟩ (jak ⟨jab⟩ (jak ⟨jab⟩ jaF jaj) jaj) jaj) jaj)) (jah db hr.m rfl jau (jaa (pv 0) (jaa jab jac jaj) jae)) (fun _ _=>rfl)) jaF jas))) (jao (i:=4) S.nd rfl (Or.inr rfl)))
  ⟨(jag (jat (i:=5) S.nd rfl (Or.inr rfl) (jah dl hr.m rfl jau (jaa (pv 0) (jaa (pv 3) jac jae) jae)))
  (ja2 (rM5 H L M) (jat (i:=6) S.nd rfl (Or.inl rfl) (jah dl hr.m rfl jau (jaa (pv 0) (jaa (pv 3) jac jae) jae)))
  (ja2 (rM6 H L M) (jaQ (jaq (jhU (jg1 hr)) (jah dC hr.m rfl jau (jaa (pv 5) (jaa (pv 6) jac jae) jae)) (jaH (jaa jab (jaa jab (jaa jab jac jaj) jaj) jaj)) (jay _))
  (jag (jat (i:=5) S.nd rfl (Or.inr rfl) (jaH (jaa jab (jaa jab (jaa (pv 2) jac jae) jaj) jaj)))
  (jai (jat (i:=6) S.nd rfl (Or.inl rfl) (jaH (jaa jab (jaa jab (jaa jab jac jaj) jaj) jaj)))))
  jaw)
  (ja2 (rM7 H L M n) (jaQ (PW.pt (jf5 (jaq jdF (pv 2) jab (jay _)) (jfK (jaq (jcO (jg1 hr)) (pv 1) (jaZ jac) (jay _)))))
  (jag (jcN (jal ix_list (pv 1) (jdN jcj jab)) (jcM rfl (jaC (jao (i:=4) S.nd rfl (Or.inr rfl)) (jaC (jao (i:=5) S.nd rfl (Or.inr rfl)) (jaC (jao (i:=6) S.nd rfl (Or.inl rfl)) (jaC (jao (i:=7) S.nd rfl (Or.inl rfl)) jbw))))))
  (jag (jat (i:=8) S.nd rfl (Or.inr rfl) (jar jbh (jah db hr.m rfl jau (jaa (pv 0) (jaa jab jac jaj) jae)) jab))
  (jag (jb2 (i:=9) rfl S.nd rfl rfl (N':=["k","base","across","one"]) (ix:=[4,8,5]) ⟨rfl,rfl,by decide +kernel,by decide +kernel,by decide +kernel,(show ∀y:Str × NameKind,y∈_->y.2=NameKind.free->(jad jbU).names.lookup y.1=some .cell\/(jad jbU).names.lookup y.1=some .free from by decide +kernel),(.cons rfl (.inl rfl) rfl (.cons rfl (.inl rfl) rfl (.cons rfl (.inl rfl) rfl .nil)))⟩ (jaX rfl T.m_range (jaa jab jac jaj)) (fun _ _ _ _=>jao (i:=0) (show (["k","base","across","one"]:List Str).Nodup from by decide +kernel) rfl (Or.inl rfl)) (fun _ _ _ _=>jbe) (fun _ _ _ _=>(jar jbk (jal (jaR (K:=K) rfl) (pv 1) (pv 0)) (jar jax (jar jax (pv 2) (jal (jaR (K:=K) rfl) (pv 3) (pv 0))) (jal (jaR (K:=K) rfl) (pv 1) jab)))))
  (jai (jat (i:=4) S.nd rfl (Or.inr rfl) (jaJ jb0 rfl T.m_tuple boot_tuple (jaa (jar jca (pv 9) (jaZ (jaa (jal jan (pv 4) jab) jac jas))) jac jbm)))))))
  jaw)
  (jai (jap (jaH (jaa (pv 4) (jaa (pv 5) (jaa (pv 6) (jaa (jah db hr.m rfl jau (jaa (pv 0) (jaa jab jac jaj) jae)) jac jaN) jae) jae) jae))))))))⟩)))),?_⟩
 walk_at "rf";refine⟨L,8,rfl,hL,by decide,by decide,fun H1 way s1 b1 w0 w8=>?_⟩;have zk:∀{H':Hp},SameB L H H'->All2 (RwAt n H') rs zs:=fun s=>hz.mono fun _ _ h=>h.keep (hL.t s);refine⟨rfl,jcK (fun _=>?_) fun _=>⟨way,rfl,w0,w8,s1,b1⟩,?_⟩
 ·refine⟨by decide,fun p hp=>?_⟩;have s2:=Same.new hp (.lst []);refine jgH (s2 _ _ (s1 _ _ nM hM)) (zk (s1.trans s2.b)) jaf ⟨_,rfl,jcK (fun c=>?_) fun _=>⟨way,rfl,w0,w8,s1.trans s2.b,b1.keep s2⟩⟩;obtain⟨r,z,k,lk,hr',hz'⟩:=jfD (zk (s1.trans s2.b)) (by
   rintro rfl;exact absurd c (by decide))
  exact ixL (SqL.of (s2 _ _ (s1 _ _ nM hM))) (jda (n:=k) (v:=.ref r) (by rw[xaa];exact lk) (by rw[xag,hr'];rfl)) (q r _ z (s1.trans s2.b) (b1.keep s2) ⟨hz'.1,hz'.2.mono (by omega)⟩)
 rintro σ1 H1 ⟨way,rfl,w0,w8,s1,b1⟩;walk_at "rf";refine⟨⟨by decide,by decide,by decide⟩,by decide,fun p hp=>?_,?_⟩
 ·refine jel hp fun H2 s2 e2=>?_;refine⟨L,4,rfl,b1.keep s2,by decide,by decide,fun H3 d s3 b3 d0 d4=>?_⟩;have e3:=s3 _ _ (b1.ne hp) e2;have s13:=s1.trans (s2.b.trans s3);have:d=0\/d=1\/d=2\/d=3:=by omega
  rcases this with rfl | rfl | rfl | rfl<;>exact ixL (SqL.of e3) rfl ⟨way,_,rfl,w0,w8,by decide,by decide,s13,b3⟩
 rintro σ2 H2 ⟨way,sp,rfl,w0,w8,sp0,sp1,s2,b2⟩;walk_at "rf";refine⟨⟨L,_,rfl,b2,by omega,by omega,fun t H3 v nt s3 b3 et hv=>⟨by decide,fun p hp=>?_⟩⟩,?_⟩
 ·refine jel hp fun H4 j1 e1=>?_;have b4:=b3.keep j1;refine⟨L,4,rfl,b4,by decide,by decide,fun H5 d s5 b5 d0 d4=>?_⟩;have e5:=s5 _ _ (b3.ne hp) e1;have t5:=s5 _ _ (b4.tup (j1 _ _ et)) (j1 _ _ et);obtain⟨u,eu,u1,u3⟩:∃u:Int,atI [V.int 1,V.int 1,V.int 2,V.int 3] d=some (.int u)/\1<=u/\u<=3:=by
   have:d=0\/d=1\/d=2\/d=3:=by omega
   rcases this with rfl | rfl | rfl | rfl
   ·exact⟨1,rfl,by decide,by decide⟩
   ·exact⟨1,rfl,by decide,by decide⟩
   ·exact⟨2,rfl,by decide,by decide⟩
   ·exact⟨3,rfl,by decide,by decide⟩
  have s25:=s2.trans (s3.trans (j1.b.trans s5));refine ixL (SqL.of e5) eu ⟨by decide,fun p2 hp2=>?_⟩;have j2:=Same.new hp2 (.tup [.int u]);refine⟨t,p2,_,_,rfl,rfl,SqT.of (j2 _ _ t5),SqT.of jaf,(fun z=>nomatch z),xaO (jaM (show 4<1000 by decide)),(fun z=>nomatch z),fun _ p3 hp3=>?_⟩;have j3:=j2.trans (Same.new hp3 (.tup ([.int v.x,.int v.y,.int v.z]++[.int u])));exact⟨way,sp,u,p3,v,rfl,w0,w8,sp0,sp1,jaf,u1,u3,by omega,by omega,by omega,s25.trans j3.b,b5.keep j3⟩
 rintro σ3 H3 ⟨way,sp,u,b,v,rfl,w0,w8,sp0,sp1,hb,u1,u3,v1,v2,v3,s3,b3⟩;walk_at "rf";refine⟨L,_,rfl,b3,by omega,by omega,fun c H4 x nc s4 b4 ec hx=>⟨⟨L,_,rfl,b4,by omega,by omega,fun d H5 y nd s5 b5 ed hy=>?_⟩,?_⟩⟩
 ·have c5:=s5 _ _ (b4.tup ec) ec;have b':=s5 _ _ (b4.tup (s4 _ _ (b3.tup hb) hb)) (s4 _ _ (b3.tup hb) hb);exact⟨way,b,c,d,⟨v,u,x,y⟩,_,rfl,w0,w8,⟨b',c5,ed⟩,⟨u1,u3,by show v.x.natAbs<=_;omega,by show v.y.natAbs<=_;omega,by show v.z.natAbs<=_;omega,by show x.x.natAbs<=_/\x.y.natAbs<=_/\x.z.natAbs<=_;omega,by show y.x.natAbs<=_/\y.y.natAbs<=_/\y.z.natAbs<=_;omega⟩,s3.trans (s4.trans s5),b5⟩
 rintro σ5 H5 ⟨way,b,c,d,Z,o3,rfl,w0,w8,hB,rB,s5,b5⟩;walk_at "rf";refine⟨⟨c,d,Z.c,Z.d,rfl,.inr (SqT.of hB.2.1),.inr (SqT.of hB.2.2),jkC rB.c (by decide),jkC rB.d (by decide),fun g H6 ng s6 eg=>⟨by decide,fun p hp=>?_⟩⟩,?_⟩
 ·refine jel hp fun H7 j1 e1=>?_;have s7:=s5.trans (s6.b.trans j1.b);have b7:=(b5.keep s6).keep j1;have hB7:=hB.keep (s6.t.trans j1.t);refine jjk (x:=[(upr Z.c Z.d).x,(upr Z.c Z.d).y,(upr Z.c Z.d).z]) (y:=[0,0,0]) (SqT.of (j1 _ _ eg)) (SqT.of e1) ⟨_,rfl,jcK (fun _=>?_) fun c=>?_⟩
  ·refine⟨by decide,fun p1 hp1=>⟨by decide,fun p2 hp2=>?_⟩⟩;have j2:=Same.new hp1 (.tup [.int 1,.int 0,.int way]);have j3:=Same.new hp2 (.tup [.int 0,.int 1,.int 1]);refine⟨way,b,p1,p2,⟨Z.s,Z.w,⟨1,0,way⟩,⟨0,1,1⟩⟩,o3,rfl,w0,w8,⟨j3 _ _ (j2 _ _ hB7.1),j3 _ _ jaf,jaf⟩,⟨⟨rB.w1,rB.w3,rB.sx,rB.sy,rB.sz,⟨show (1:Int).natAbs<=_ by decide,show (0:Int).natAbs<=_ by decide,show way.natAbs<=_ by omega⟩,⟨show (0:Int).natAbs<=_ by decide,show (1:Int).natAbs<=_ by decide,show (1:Int).natAbs<=_ by decide⟩⟩,fun z=>absurd z.2.2 (by show ¬((1:Int)*1-0*0=0);decide)⟩,s7.trans (j2.b.trans j3.b),(b7.keep j2).keep j3⟩
  ·refine⟨way,b,_,_,Z,o3,rfl,w0,w8,hB7,⟨rB,fun z=>c ?_⟩,s7,b7⟩;rw[upr_u];obtain⟨z1,z2,z3⟩:=z;rw[z1,z2,z3];exact decide_eq_true rfl
 rintro σ6 H6 ⟨way,b,c,d,Z,o3,rfl,w0,w8,hB,rB,s6,b6⟩;walk_at "rf";refine⟨jcK (fun _=>?_) fun _=>⟨b,c,d,Z,_,_,_,_,_,rfl,hB,rB.mono (by omega),s6,b6⟩,?_⟩
 ·refine⟨by decide,fun p hp=>?_⟩;have s2:=Same.new hp (.lst []);refine jgH (s2 _ _ (s6 _ _ nM hM)) (zk (s6.trans s2.b)) jaf ⟨_,rfl,jcK (fun c=>?_) fun _=>⟨b,c,d,Z,_,_,_,_,_,rfl,hB.keep s2.t,rB.mono (by omega),s6.trans s2.b,b6.keep s2⟩⟩;obtain⟨r,⟨Z',sh⟩,k,lk,hr',⟨b',c',d',q1,q2,q3,q4,q5⟩,rB'⟩:=jfD (zk (s6.trans s2.b)) (by
   rintro rfl;exact absurd c (by decide))
  refine ixL (SqL.of (s2 _ _ (s6 _ _ nM hM))) (jda (n:=k) (v:=.ref r) (by rw[xaa];exact lk) (by rw[xag,hr'];rfl)) ?_;refine⟨r,rfl,_,SqT.of q1,rfl,_,_,rfl,_,_,rfl,_,_,rfl,_,_,rfl,rfl,L,5,rfl,b6.keep s2,by decide,by decide,fun H7 x s3 b7 x0 x5=>⟨x,rfl,by decide,by decide,fun acc hacc=>?_⟩⟩;change RawOk n Z' at rB';have B':Bas H7 b' c' d' Z':=Bas.keep ⟨q2,q3,q4⟩ ((b6.keep s2).t s3);have s67:=s6.trans (s2.b.trans s3);refine jfR (n:=3) (fun k=>.int (cmp Z'.s k+(x-2)*cmp Z'.c k*Z'.w)) (by decide) hacc (fun k H8 R hk s8 hR=>?_) fun H8 s8 e8=>?_
  ·have b8:=s8 _ _ B'.1;have c8:=s8 _ _ B'.2.1;have hc:=jef rB'.b.c k;have fx:Fit (x-2):=Bd.fit (n:=61) (by unfold Bd;omega);have fc:Fit (cmp Z'.c k):=Bd.fit (n:=61) (by unfold Bd;omega);have fw:Fit Z'.w:=Bd.fit (n:=61) (by have:=rB'.b.w1;have:=rB'.b.w3;unfold Bd;omega);have fp:Fit ((x-2)*cmp Z'.c k):=Bd.fit (n:=200) (Bd.mono (Bd.mul (n:=61) (m:=61) (by unfold Bd;omega) (by unfold Bd;omega)));walk_at "rf";exact ixT (SqT.of b8) (jmf Z'.s _ hk) (ixT (SqT.of c8) (jme Z'.c hk) ⟨_,rfl,fx,fc,ixT (SqT.of b8) (i:=3) rfl ⟨_,rfl,fp,fw,_,rfl,hR _ (Same.refl _)⟩⟩)
  ·have b8:=s8 _ _ B'.1;walk_at "rf";refine ixT (SqT.of b8) (i:=3) rfl ⟨by decide,fun p2 hp2=>?_⟩;have j2:=Same.new hp2 (.lst [.int Z'.w]);refine⟨acc,p2,_,_,rfl,rfl,j2 _ _ e8,jaf,xaO (jaM (show 3+1<1000 by decide)),fun p3 hp3=>?_⟩;refine⟨p3,rfl,_,SqL.of jaf,fun p4 hp4=>?_⟩;have s84:=(s8.trans j2).trans ((Same.new hp3 (.lst ((List.map (fun k=>V.int (cmp Z'.s k+(x-2)*cmp Z'.c k*Z'.w)) (List.range 3))++[.int Z'.w]))).trans (Same.new hp4 (.tup ((List.map (fun k=>V.int (cmp Z'.s k+(x-2)*cmp Z'.c k*Z'.w)) (List.range 3))++[.int Z'.w]))));have hx:(x-2).natAbs<=2:=by omega
   have hw:Z'.w.natAbs<=3:=by have:=rB'.b.w1;have:=rB'.b.w3;omega
   have e0:=jlT (a:=cmp Z'.s 0) hx (jef rB'.b.c 0) hw;have e1:=jlT (a:=cmp Z'.s 1) hx (jef rB'.b.c 1) hw;have e2:=jlT (a:=cmp Z'.s 2) hx (jef rB'.b.c 2) hw;have t0:=rB'.b.sx;have t1:=rB'.b.sy;have t2:=rB'.b.sz;change _<=Z'.s.x.natAbs+_ at e0;change _<=Z'.s.y.natAbs+_ at e1;change _<=Z'.s.z.natAbs+_ at e2;exact⟨p4,c',d',⟨⟨cmp Z'.s 0+(x-2)*cmp Z'.c 0*Z'.w,cmp Z'.s 1+(x-2)*cmp Z'.c 1*Z'.w,cmp Z'.s 2+(x-2)*cmp Z'.c 2*Z'.w⟩,Z'.w,Z'.c,Z'.d⟩,_,_,_,_,_,rfl,⟨jaf,s84 _ _ B'.2.1,s84 _ _ B'.2.2⟩,⟨⟨rB'.b.w1,rB'.b.w3,by show (cmp Z'.s 0+(x-2)*cmp Z'.c 0*Z'.w).natAbs<=_;omega,by show (cmp Z'.s 1+(x-2)*cmp Z'.c 1*Z'.w).natAbs<=_;omega,by show (cmp Z'.s 2+(x-2)*cmp Z'.c 2*Z'.w).natAbs<=_;omega,rB'.b.c,rB'.b.d⟩,rB'.nz⟩,s67.trans s84.b,b7.keep s84⟩
 rintro σ7 H7 ⟨b,c,d,Z,o2,o3,o7,o8,o9,rfl,hB,rB,s7,b7⟩;walk_at "rf";refine⟨L,6,rfl,b7,by decide,by decide,fun H8 x s8 b8 x0 x6=>⟨by decide,fun p hp=>?_⟩⟩;obtain⟨k,rfl⟩:=Int.eq_ofNat_of_zero_le x0;have hB8:=hB.keep (b7.t s8);have j:=Same.new hp (.tup [.ref b,.ref c,.ref d,.int (k:Nat)]);exact q p _ (Z,k) ((s7.trans s8).trans j.b) (b8.keep j) ⟨⟨b,c,d,jaf,j _ _ hB8.1,j _ _ hB8.2.1,j _ _ hB8.2.2,by omega⟩,rB⟩
def shp6:List (List (Int × Int)):=[[(0,0),(2,0),(0,2)],[(0,0),(3,1),(1,3)],[(0,0),(2,0),(2,2),(0,2)],[(0,0),(3,0),(2,1),(0,1)],[(0,0),(2,0),(3,1),(1,3),(0,1)],[(1,0),(2,0),(3,1),(3,2),(2,3),(0,1)]]
def plT (p:Int × Int):Tri:=⟨p.1-1,p.2-1,1⟩
def shp (i:Nat):List Tri:=(shp6.getD i []).map plT
def cM0 (H:Hp) (t b c d:Addr) (sh:Nat):L2.St->Hp->Prop:=fun σ H'=>σ=[some (.ref t),some (.ref b),some (.ref c),some (.ref d),some (.int (sh:Nat)),none,none,none,none,none]/\Same H H'
def cMr (H:Hp) (t b c d:Addr) (sh m:Nat):L2.St->Hp->Prop:=fun σ H'=>∃(g:Addr) (vs:List V),σ=[some (.ref t),some (.ref b),some (.ref c),some (.ref d),some (.int (sh:Nat)),some (.ref g),none,none,none,none]/\H' g=some (.lst vs)/\TabA (shp6.take m) vs H'/\Same H H'
theorem TabA.app:∀{pss qss:List (List (Int × Int))} {vs ws:List V} {H:Hp},TabA pss vs H->TabA qss ws H->TabA (pss++qss) (vs++ws) H
 | [],_,_,_,_,h,k=>by cases h;exact k
 | _::_,_,_,_,_,⟨v,ws,e,h1,h⟩,k=>by rw[e];exact⟨v,_,rfl,h1,h.app k⟩
theorem jfE {b:Int} {m:Nat} (ha:a.natAbs<=m) (hb:b.natAbs<=n):(a*b).natAbs<=m*n:=by
 rw[xb2];exact Nat.mul_le_mul ha hb
def rwc (Z:Sht) (v:Tri) (k:Nat):Int:=if k=0 then rX Z v else if k=1 then rY Z v else rZ Z v
theorem jnx {u:Int × Int} {k:Nat} (h:k<3):cmp Z.s k+Z.w*((u.1-1)*cmp Z.c k+(u.2-1)*cmp Z.d k)=rwc Z (plT u) k:=by
 match k,h with
 | 0,_=>show Z.s.x+_=Z.s.x*1+_;rw[xbp];rfl
 | 1,_=>show Z.s.y+_=Z.s.y*1+_;rw[xbp];rfl
 | 2,_=>show Z.s.z+_=Z.s.z*1+_;rw[xbp];rfl
theorem jiP (h:v.z=1):rW Z v=Z.w:=by unfold rW;rw[h,xbp]
theorem jlU (hw:1<=Z.w) (hv:1<=v.z):jna ⟨rX Z v,rY Z v,rZ Z v,rW Z v⟩=spt Z v:=by
 have W1:0<rW Z v:=xas (by omega) (by omega);unfold jna;rw[if_neg (by show ¬rW Z v<0;omega)];rfl
theorem jiQ {s w p q c:Int} (hs:s.natAbs<=2097152+n*8388608) (n9:n<=9) (hw:w.natAbs<=3) (hp:p.natAbs<=2) (hq:q.natAbs<=2) (hc:c.natAbs<=1000000) (hd:d.natAbs<=1000000):Bd 27 (s*1+w*(p*c+q*d)):=by
 have l1:=jfE hp hc;have l2:=jfE hq hd;have l3:=jfE hw (show (p*c+q*d).natAbs<=4000000 by omega);rw[xbp];unfold Bd;omega
theorem jkD (h:RawB n Z) (n9:n<=9) (h1:v.x.natAbs<=2) (h2:v.y.natAbs<=2) (h3:v.z=1):Bd 27 (rX Z v)/\Bd 27 (rY Z v)/\Bd 27 (rZ Z v)/\Bd 27 (rW Z v):=by
 have hw:Z.w.natAbs<=3:=by have:=h.w1;have:=h.w3;omega
 unfold rX rY rZ rW;rw[h3];refine⟨jiQ h.sx n9 hw h1 h2 h.c.1 h.d.1,jiQ h.sy n9 hw h1 h2 h.c.2.1 h.d.2.1,jiQ h.sz n9 hw h1 h2 h.c.2.2 h.d.2.2,?_⟩;rw[xbp];unfold Bd;omega
theorem PrP.ix {rs:List Addr} {ps:List (Int × Int)} (h:PrP H rs ps):∀{i:Nat} {r:Addr},rs[i]?=some r->∃p,ps[i]?=some p/\H r=some (.tup [.int p.1,.int p.2]):=by
  induction h with
  | nil=>intro i r z;cases z
  | cons h _ ih =>
    intro i r z;cases i with
    | zero=>cases z;exact⟨_,rfl,h⟩
    | succ i=>exact ih z
theorem jjW:∀i,i<6->∀p∈shp6.getD i [],0<=p.1/\p.1<=3/\0<=p.2/\p.2<=3:=by decide +kernel
theorem jjX:∀i,i<6->3<=(shp6.getD i []).length/\(shp6.getD i []).length<=6:=by decide +kernel
def jkE:Sp:=fun vs H Q _=>∃(t:Addr) (n:Nat) (z:Sht × Nat),vs=[.ref t]/\RwAt n H t z/\n<=9/\∀(l:Addr) (H':Hp) (rs:List Addr),H l=none->Same H H'->Cor H' l rs ((shp z.2).map (spt z.1))->Q (.ref l) H'
theorem jlV (T:Tx K mg t1 t2) (F:At K mg "_law_corners" jaU ["raw"] []) (dm:jam P w K mg base CX0 3 "made_spot" ["x","y","z","w"] [] jjK):jam P w K mg base CX0 4 "_law_corners" ["raw"] [] jkE:=by
 refine F.okW jcz (fun vs H Q E h=>?_) (fun f cdv A outer s H vs Q E hr h=>?_)
 ·obtain⟨t,n,z,rfl,_⟩:=h;rfl
 obtain⟨t,n,⟨Z,sh⟩,rfl,⟨⟨b,c,d,h1,h2,h3,h4,h6⟩,ok⟩,n9,q⟩:=h;have S:=jcz;refine⟨_,(jcX (cM0 H t b c d sh) ⟨(jcN (pv 0) (jcM rfl (jaC (jao (i:=1) S.nd rfl (Or.inr rfl)) (jaC (jao (i:=2) S.nd rfl (Or.inr rfl)) (jaC (jao (i:=3) S.nd rfl (Or.inr rfl)) (jaC (jao (i:=4) S.nd rfl (Or.inl rfl)) jbw))))))⟩
  (jcX (cMr H t b c d sh 3) (jfq (jcm (jak (jcm (jak (ja0 (jak ⟨jab⟩ (jak ⟨jab⟩ jaF jaj) jaj)) (jak (ja0 (jak ⟨jab⟩ (jak ⟨jab⟩ jaF jaj) jaj)) (jak (ja0 (jak ⟨jab⟩ (jak ⟨jab⟩ jaF jaj) jaj)) jaF jaE) jaE) jaE)) (jak (jcm (jak (ja0 (jak ⟨jab⟩ (jak ⟨jab⟩ jaF jaj) jaj)) (jak (ja0 (jak ⟨jab⟩ (jak ⟨jab⟩ jaF jaj) jaj)) (jak (ja0 (jak ⟨jab⟩ (jak ⟨jab⟩ jaF jaj) jaj)) jaF jaE) jaE) jaE)) (jak (jcm (jak (ja0 (jak ⟨jab⟩ (jak ⟨jab⟩ jaF jaj) jaj)) (jak (ja0 (jak ⟨jab⟩ (jak ⟨jab⟩ jaF jaj) jaj)) (jak (ja0 (jak ⟨jab⟩ (jak ⟨jab⟩ jaF jaj) jaj)) (jak (ja0 (jak ⟨jab⟩ (jak ⟨jab⟩ jaF jaj) jaj)) jaF jaE) jaE) jaE) jaE)) jaF jcl) jcl) jcl)) (jao (i:=5) S.nd rfl (Or.inl rfl)))
  (jcX (cMr H t b c d sh 5) (jfq (jlS jca ⟨(pv 5)⟩ (jcm (jak (jcm (jak (ja0 (jak ⟨jab⟩ (jak ⟨jab⟩ jaF jaj) jaj)) (jak (ja0 (jak ⟨jab⟩ (jak ⟨jab⟩ jaF jaj) jaj)) (jak (ja0 (jak ⟨jab⟩ (jak ⟨jab⟩ jaF jaj) jaj)) (jak (ja0 (jak ⟨jab⟩ (jak ⟨jab⟩ jaF jaj) jaj)) jaF jaE) jaE) jaE) jaE)) (jak (jcm (jak (ja0 (jak ⟨jab⟩ (jak ⟨jab⟩ jaF jaj) jaj)) (jak (ja0 (jak ⟨jab⟩ (jak ⟨jab⟩ jaF jaj) jaj)) (jak (ja0 (jak ⟨jab⟩ (jak ⟨jab⟩ jaF jaj) jaj)) (jak (ja0 (jak ⟨jab⟩ (jak ⟨jab⟩ jaF jaj) jaj)) (jak (ja0 (jak ⟨jab⟩ (jak ⟨jab⟩ jaF jaj) jaj)) jaF jaE) jaE) jaE) jaE) jaE)) jaF jcl) jcl))) (jao (i:=5) S.nd rfl (Or.inl rfl)))
  (jcX (cMr H t b c d sh 6) (jfq (jlS jca ⟨(pv 5)⟩ (jcm (jak (jcm (jak (ja0 (jak ⟨jab⟩ (jak ⟨jab⟩ jaF jaj) jaj)) (jak (ja0 (jak ⟨jab⟩ (jak ⟨jab⟩ jaF jaj) jaj)) (jak (ja0 (jak ⟨jab⟩ (jak ⟨jab⟩ jaF jaj) jaj)) (jak (ja0 (jak ⟨jab⟩ (jak ⟨jab⟩ jaF jaj) jaj)) (jak (ja0 (jak ⟨jab⟩ (jak ⟨jab⟩ jaF jaj) jaj)) (jak (ja0 (jak ⟨jab⟩ (jak ⟨jab⟩ jaF jaj) jaj)) jaF jaE) jaE) jaE) jaE) jaE) jaE)) jaF jcl))) (jao (i:=5) S.nd rfl (Or.inl rfl)))
  ⟨(jag (jat (i:=6) S.nd rfl (Or.inl rfl) (jaZ jac))
  (jag (jbx PassesOwn.never rfl (jbW (jal ix_list (pv 5) (pv 4))) (jcM rfl (jaC (jao (i:=7) S.nd rfl (Or.inr rfl)) (jaC (jao (i:=8) S.nd rfl (Or.inr rfl)) jbw)))
  (jag (jat (i:=9) S.nd rfl (Or.inr rfl) (jba rfl (N':=["k","i","one","j","other"]) (ix:=[7,2,8,3]) ⟨rfl,rfl,by decide +kernel,by decide +kernel,by decide +kernel,(show ∀y:Str × NameKind,y∈_->y.2=NameKind.free->(jad jaU).names.lookup y.1=some .cell\/(jad jaU).names.lookup y.1=some .free from by decide +kernel),(.cons rfl (.inl rfl) rfl (.cons rfl (.inl rfl) rfl (.cons rfl (.inl rfl) rfl (.cons rfl (.inl rfl) rfl .nil))))⟩ (jaX rfl T.m_range (jaa jab jac jaj)) (fun _ _ _ _=>jao (i:=0) (show (["k","i","one","j","other"]:List Str).Nodup from by decide +kernel) rfl (Or.inl rfl)) (fun _ _ _ _=>jbe) (fun _ _ _ _=>(jar jbk (jar jax (jar jbh (pv 1) jab) (jal (jaR (K:=K) rfl) (pv 2) (pv 0))) (jar jax (jar jbh (pv 3) jab) (jal (jaR (K:=K) rfl) (pv 4) (pv 0)))))))
  (jag (jat (i:=9) S.nd rfl (Or.inr rfl) (jba rfl (N':=["k","base","place"]) (ix:=[1,9]) ⟨rfl,rfl,by decide +kernel,by decide +kernel,by decide +kernel,(show ∀y:Str × NameKind,y∈_->y.2=NameKind.free->(jad jaU).names.lookup y.1=some .cell\/(jad jaU).names.lookup y.1=some .free from by decide +kernel),(.cons rfl (.inl rfl) rfl (.cons rfl (.inl rfl) rfl .nil))⟩ (jaX rfl T.m_range (jaa jab jac jaj)) (fun _ _ _ _=>jao (i:=0) (show (["k","base","place"]:List Str).Nodup from by decide +kernel) rfl (Or.inl rfl)) (fun _ _ _ _=>jbe) (fun _ _ _ _=>(jar jbk (jal (jaR (K:=K) rfl) (pv 1) (pv 0)) (jar jax (jal (jaR (K:=K) rfl) (pv 1) jab) (jal (jji (K:=K) rfl) (pv 2) (pv 0)))))))
  (jai (jcU (jgZ PySem.F.plainAttrs_list PySem.F.slot_list_append PySem.F.type_list_append jby (pv 6) (jaa (jah dm hr.m rfl jau (jaa (jal ix_list (pv 9) jab) (jaa (jal ix_list (pv 9) jab) (jaa (jal ix_list (pv 9) jab) (jaa (jal jan (pv 1) jab) jac jas) jas) jas) jas)) jac jaN)))))))
  (jai (jap (pv 6)))))⟩)))),?_⟩
 have k1:SqT K H t [.ref b,.ref c,.ref d,.int (sh:Nat)]:=SqT.of h1;refine⟨?_,?_⟩
 ·walk_at "rf";exact⟨_,k1,rfl,_,_,rfl,_,_,rfl,_,_,rfl,_,_,rfl,rfl,rfl,Same.refl _⟩
 rintro σ0 H0 ⟨rfl,s0⟩;refine⟨?_,?_⟩
 ·refine jiO (pss:=shp6.take 3) ?_ (by decide) _ _ fun v J2 s2 hv=>?_
  ·show MkA _ _ (TabA [[(0,0),(2,0),(0,2)],[(0,0),(3,1),(1,3)],[(0,0),(2,0),(2,2),(0,2)]])
   repeat first
    | exact je5
    | refine jee (jiN ?_ (by decide)) ?_
    | exact je4
    | refine jed (jf0 jmd jmd) ?_
  obtain⟨g,vs,rfl,hg,hT⟩:=hv;exact⟨g,vs,rfl,hg,hT,s0.trans s2⟩
 rintro σ1 H1 ⟨g,vs,rfl,hg,hT,s1⟩;refine⟨⟨_,rfl,?_⟩,?_⟩
 ·refine jiO (pss:=(shp6.drop 3).take 2) ?_ (by decide) _ _ fun v J2 s2 hv=>?_
  ·show MkA _ _ (TabA [[(0,0),(3,0),(2,1),(0,1)],[(0,0),(2,0),(3,1),(1,3),(0,1)]])
   repeat first
    | exact je5
    | refine jee (jiN ?_ (by decide)) ?_
    | exact je4
    | refine jed (jf0 jmd jmd) ?_
  obtain⟨g2,ws,rfl,hg2,hT2⟩:=hv;have l1:=hT.len;have l2:=hT2.len;refine⟨g,g2,vs,ws,rfl,rfl,s2 _ _ hg,hg2,xaO (jaM (by rw[l1,l2];decide)),fun p hp=>?_⟩;have j:=Same.new hp (.lst (vs++ws));exact⟨p,_,rfl,jaf,((hT.keep s2).app hT2).keep j,s1.trans (s2.trans j)⟩
 rintro σ2 H2 ⟨g,vs,rfl,hg,hT,s2⟩;refine⟨⟨_,rfl,?_⟩,?_⟩
 ·refine jiO (pss:=shp6.drop 5) ?_ (by decide) _ _ fun v J2 s3 hv=>?_
  ·show MkA _ _ (TabA [[(1,0),(2,0),(3,1),(3,2),(2,3),(0,1)]])
   repeat first
    | exact je5
    | refine jee (jiN ?_ (by decide)) ?_
    | exact je4
    | refine jed (jf0 jmd jmd) ?_
  obtain⟨g2,ws,rfl,hg2,hT2⟩:=hv;have l1:=hT.len;have l2:=hT2.len;refine⟨g,g2,vs,ws,rfl,rfl,s3 _ _ hg,hg2,xaO (jaM (by rw[l1,l2];decide)),fun p hp=>?_⟩;have j:=Same.new hp (.lst (vs++ws));exact⟨p,_,rfl,jaf,((hT.keep s3).app hT2).keep j,s2.trans (s3.trans j)⟩
 rintro σ3 H3 ⟨g,vs,rfl,hg,hT,s3⟩;walk_at "rf";refine⟨by decide,fun p hp=>?_⟩;refine jel hp fun H4 s4 ep=>?_;obtain⟨v,ev,l,es,rfl,hl,hP⟩:=hT.get (i:=sh) (by show sh<6;exact h6);change PrP H3 es (shp6.getD sh []) at hP;have lim:=jjW sh h6;have len:=jjX sh h6;have es':shp sh=(shp6.getD sh []).map plT:=rfl;rw[es'] at q;generalize shp6.getD sh []=qs at hP lim len q;have lP:=hP.len;refine ixL (SqL.of (s4 _ _ hg)) (v:=.ref l) (jaI ev) ⟨l,rfl,⟨_,SqL.of (s4 _ _ hl)⟩,?_⟩;have b3:=s3 _ _ h2;have c3:=s3 _ _ h3;have d3:=s3 _ _ h4;refine jbX (K:=K) (a:=l) (xs:=es.map V.ref) (fun i σ Hh=>∃(o7 o8 o9:Option V) (rs:List Addr),σ=[some (V.ref t),some (V.ref b),some (V.ref c),some (V.ref d),some (V.int (sh:Nat)),some (V.ref g),some (V.ref p),o7,o8,o9]/\Same H3 Hh/\Hh p=some (.lst (rs.map V.ref))/\Sps Hh rs ((qs.take i).map fun u=>spt Z (plT u))) ⟨_,_,_,[],rfl,s4,ep,.nil⟩ (fun i σ Hh _ ⟨_,_,_,_,_,sx,_⟩=>sx.seq (SqL.of hl)) ?_ ?_
 ·rintro i x σ Hh hi ⟨o7,o8,o9,rs,rfl,sx,kp,ks⟩;rw[xag] at hi;obtain⟨r,hr',rfl⟩:=xaH.mp hi;obtain⟨u,hu,er⟩:=hP.ix hr';obtain⟨m1,m2,m3,m4⟩:=lim u (xaw hu);walk_at "rf";refine⟨_,SqT.of (sx _ _ er),rfl,_,_,rfl,_,_,rfl,rfl,by decide,by decide,fun acc hacc=>?_⟩;have F1:Fit (u.1-1):=Bd.fit (n:=61) (by unfold Bd;omega);have F2:Fit (u.2-1):=Bd.fit (n:=61) (by unfold Bd;omega);have b4:=sx _ _ b3;have c4:=sx _ _ c3;have d4:=sx _ _ d3;have fz:∀{v:Tri} {k:Nat},(v.x.natAbs<=1000000/\v.y.natAbs<=1000000/\v.z.natAbs<=1000000)->Fit (cmp v k):=fun {v k} h=>Bd.fit (n:=61) (by have:=jef h k;unfold Bd;omega);have okb:RawB n Z:=ok.b;refine jfR (n:=3) (fun k=>.int ((u.1-1)*cmp Z.c k+(u.2-1)*cmp Z.d k)) (by decide) hacc (fun k H5 R hk s5 hR=>?_) fun H5 s5 e5=>?_
  ·walk_at "rf";exact ixT (SqT.of (s5 _ _ c4)) (jme Z.c hk) ⟨_,rfl,F1,fz okb.c,ixT (SqT.of (s5 _ _ d4)) (jme Z.d hk) ⟨_,rfl,F2,fz okb.d,hR _ (Same.refl _)⟩⟩
  walk_at "rf";refine⟨by decide,by decide,fun acc2 hacc2=>jfR (n:=3) (fun k=>.int (rwc Z (plT u) k)) (by decide) hacc2 (fun k H6 R hk s6 hR=>?_) fun H6 s6 e6=>?_⟩
  ·have ea:atI (List.map (fun k=>V.int ((u.1-1)*cmp Z.c k+(u.2-1)*cmp Z.d k)) (List.range 3)) (0+(k:Int))=some (.int ((u.1-1)*cmp Z.c k+(u.2-1)*cmp Z.d k)):=by
    match k,hk with
    | 0,_=>rfl
    | 1,_=>rfl
    | 2,_=>rfl
   have l1:=jfE (show (u.1-1).natAbs<=2 by omega) (jef okb.c k);have l2:=jfE (show (u.2-1).natAbs<=2 by omega) (jef okb.d k);have ff:Fit ((u.1-1)*cmp Z.c k+(u.2-1)*cmp Z.d k):=Bd.fit (n:=61) (by unfold Bd;omega);have fw:Fit Z.w:=Bd.fit (n:=61) (by have:=okb.w1;have:=okb.w3;unfold Bd;omega);have b6:=s6 _ _ (s5 _ _ b4);walk_at "rf";refine ixT (SqT.of b6) (jmf Z.s Z.w hk) (ixT (SqT.of b6) (i:=3) rfl (ixL (SqL.of (s6 _ _ e5)) ea ⟨_,rfl,_,rfl,fw,ff,_,rfl,?_⟩));have z:=hR _ (Same.refl _);rw[<- jnx (u:=u) hk] at z;exact z
  have b6:=s6 _ _ (s5 _ _ b4);have s56:=s5.trans s6;obtain⟨B1,B2,B3,B4⟩:=jkD (v:=plT u) okb n9 (show (u.1-1).natAbs<=2 by omega) (show (u.2-1).natAbs<=2 by omega) rfl;refine⟨.inl ⟨_,SqL.of (s56 _ _ kp)⟩,ixL (SqL.of e6) (i:=0) rfl (ixL (SqL.of e6) (i:=1) rfl (ixL (SqL.of e6) (i:=2) rfl (ixT (SqT.of b6) (i:=3) rfl ?_)))⟩;refine⟨⟨rX Z (plT u),rY Z (plT u),rZ Z (plT u),rW Z (plT u)⟩,by rw[jiP (show (plT u).z=1 from rfl)];rfl,⟨Bd.mono B1,Bd.mono B2,Bd.mono B3,Bd.mono B4⟩,by rw[jiP (show (plT u).z=1 from rfl)];have:=okb.w1;show Z.w≠0;omega,fun g2 H8 s8 h8=>?_⟩;rw[jlU okb.w1 (show (1:Int)<=1 by decide)] at h8;have s58:=s56.trans s8;have sm:=SameT.upd (ys:=List.map V.ref rs++[V.ref g2]) (s58 _ _ kp);refine⟨p,_,_,rfl,rfl,s58 _ _ kp,jaM (by rw[xaa,ks.len,xaa,xay];omega),Same.keepN (sx.trans s58) hp _,rs++[g2],by rw[jaf,xal];rfl,?_⟩;rw[xa6,hu,xal];exact ((ks.keep s58.t).keep sm).app (.cons ⟨sm _ _ h8.1,h8.2⟩ .nil)
 ·rintro σ Hh ⟨o7,o8,o9,rs,rfl,sx,kp,ks⟩;walk_at "rf";rw[xaV (by rw[xaa];omega)] at ks;exact q p _ rs (s3.noneN hp) (s3.trans sx) ⟨kp,by rw[xbq];exact ks⟩
inductive Tr
 | nil
 | nd (p:Pt) (here:List (Int × List Pt)) (b a:Tr)
def Tr.ht:Tr->Nat
 | .nil=>0
 | .nd _ _ b a=>max b.ht a.ht+1
def Tr.pcs:Tr->List (Int × List Pt)
 | .nil=>[]
 | .nd _ h b a=>h++b.pcs++a.pcs
def PlG (p:Pt):Prop:=(Bd 66 p.x/\Bd 66 p.y/\Bd 66 p.z)/\Bd 94 p.w
theorem PlG.neg (h:PlG p):PlG ⟨-p.x,-p.y,-p.z,-p.w⟩:=by
 obtain⟨⟨h1,h2,h3⟩,h4⟩:=h;refine⟨⟨?_,?_,?_⟩,?_⟩<;>(unfold Bd at *;rw[xb3];assumption)
structure SZ (Z:Sht):Prop where
 hw:1<=Z.w
 nz:Z.u.nz
 sp:∀v:Tri,v.bd 221->(spt Z v).bd 252
 ln:∀p:Pt,PlG p->PlOk Z p
def PcOk (ps:List Pt):Prop:=∃(Z:Sht) (vs:List Tri),SZ Z/\VF vs/\vs.length<=16/\RR (vs.map (spt Z)) ps
def Tr.Good (c:Nat):Tr->Prop
 | .nil=>True
 | .nd p h b a=>PlG p/\((∀x∈h,PcOk x.2)/\h.length<=c)/\b.Good c/\a.Good c
theorem Tr.Good.mono {c d:Nat} (l:c<=d):∀{T:Tr},T.Good c->T.Good d
 | .nil,_=>trivial
 | .nd _ _ _ _,⟨h1,⟨h2,h3⟩,h4,h5⟩=>⟨h1,⟨h2,xav h3 l⟩,h4.mono l,h5.mono l⟩
def BoAt (H:Hp) (t:Addr) (b:List Pt):Prop:=∃rs,H t=some (.tup (rs.map V.ref))/\Sps H rs b
theorem BoAt.keep {t:Addr} {b:List Pt} (h:BoAt H t b) (s:SameT H H'):BoAt H' t b:=by
 obtain⟨rs,e,q⟩:=h;exact⟨rs,s _ _ e,q.keep s⟩
def PcAt (H:Hp) (r:Addr) (x:Int × List Pt):Prop:=∃t,H r=some (.tup [.int x.1,.ref t])/\BoAt H t x.2
theorem PcAt.keep {x:Int × List Pt} (h:PcAt H r x) (s:SameT H H'):PcAt H' r x:=by
 obtain⟨t,e,q⟩:=h;exact⟨t,s _ _ e,q.keep s⟩
inductive TrAt (H:Hp):V->Tr->Prop
 | nil:TrAt H .non .nil
 | nd {t g h:Addr} {rs:List Addr} {vb va:V} {p:Pt} {here:List (Int × List Pt)} {b a:Tr}:H t=some (.tup [.ref g,.ref h,vb,va])->Is4 H g p->H h=some (.tup (rs.map V.ref))->All2 (PcAt H) rs here->TrAt H vb b->TrAt H va a->TrAt H (.ref t) (.nd p here b a)
theorem TrAt.keep {v:V} {T:Tr} (h:TrAt H v T) (s:SameT H H'):TrAt H' v T:=by
 induction h with
 | nil=>exact .nil
 | nd h1 h2 h3 h4 _ _ i5 i6=>exact .nd (s _ _ h1) ⟨s _ _ h2.1,h2.2⟩ (s _ _ h3) (h4.mono fun _ _ h=>h.keep s) i5 i6
theorem jiR (hZ:SZ Z) (F:VF vs) (l:vs.length<=16) (r:RR (vs.map (spt Z)) ps):PcOk ps:=⟨Z,vs,hZ,F,l,r⟩
theorem jfF {A B C:Nat} {b c z u v w:Int} (ha:Bd A a) (hb:Bd B b) (hc:Bd C c) (hx:Bd A x) (hy:Bd B y) (hz:Bd C z) (hu:Bd A u) (hv:Bd B v) (hw:Bd C w):Bd (A+B+C+3) (jbF a b c x y z u v w):=by
 unfold jbF;have e1:=Bd.mono (m:=A+B+C+1) (Bd.mul (Bd.sub (Bd.mul hb hz) (Bd.mono (Bd.mul hc hy) (m:=B+C) (by omega))) hu) (by omega);have e2:=Bd.mono (m:=A+B+C+1) (Bd.mul (Bd.sub (Bd.mul hc hx) (Bd.mono (Bd.mul ha hz) (m:=C+A) (by omega))) hv) (by omega);have e3:=Bd.mono (m:=A+B+C+2) (Bd.mul (Bd.sub (Bd.mul ha hy) (Bd.mono (Bd.mul hb hx) (m:=A+B) (by omega))) hw) (by omega);exact Bd.add (Bd.add e1 e2) e3
def Cn (p:Pt):Prop:=(Bd 28 p.x/\Bd 28 p.y/\Bd 28 p.z)/\Bd 2 p.w/\1<=p.w
theorem jiS {a b c:Pt} (ha:Cn a) (hb:Cn b) (hc:Cn c):∃p:Pt,pln (rgh a b c)=[p.x,p.y,p.z,p.w]/\PlG p:=by
 obtain⟨⟨a1,a2,a3⟩,a4,_⟩:=ha;obtain⟨⟨b1,b2,b3⟩,b4,_⟩:=hb;obtain⟨⟨c1,c2,c3⟩,c4,_⟩:=hc;have m0:Bd 66 (jav 0 a b c):=by show Bd 66 (jbF a.y a.z a.w b.y b.z b.w c.y c.z c.w);exact Bd.mono (jfF a2 a3 a4 b2 b3 b4 c2 c3 c4)
 have m1:Bd 66 (-jav 1 a b c):=by show Bd 66 (-jbF a.x a.z a.w b.x b.z b.w c.x c.z c.w);exact (Bd.mono (jfF a1 a3 a4 b1 b3 b4 c1 c3 c4)).neg
 have m2:Bd 66 (jav 2 a b c):=by show Bd 66 (jbF a.x a.y a.w b.x b.y b.w c.x c.y c.w);exact Bd.mono (jfF a1 a2 a4 b1 b2 b4 c1 c2 c4)
 have m3:Bd 94 (jav 3 a b c):=by show Bd 94 (jbF a.x a.y a.z b.x b.y b.z c.x c.y c.z);exact Bd.mono (jfF a1 a2 a3 b1 b2 b3 c1 c2 c3)
 unfold rgh;generalize jav 0 a b c=x at m0;generalize -jav 1 a b c=y at m1;generalize jav 2 a b c=z at m2;generalize jav 3 a b c=v at m3;have e:pln [x,y,z,v]=if plb (x / gl [x,y,z,v]) (y / gl [x,y,z,v]) (z / gl [x,y,z,v])=true then [x / gl [x,y,z,v],y / gl [x,y,z,v],z / gl [x,y,z,v],v / gl [x,y,z,v]] else [-(x / gl [x,y,z,v]),-(y / gl [x,y,z,v]),-(z / gl [x,y,z,v]),-(v / gl [x,y,z,v])]:=rfl;rw[e];by_cases h:plb (x / gl [x,y,z,v]) (y / gl [x,y,z,v]) (z / gl [x,y,z,v])=true
 ·rw[if_pos h];exact⟨⟨_,_,_,_⟩,rfl,⟨Bd.div m0,Bd.div m1,Bd.div m2⟩,Bd.div m3⟩
 ·rw[if_neg h];exact⟨⟨_,_,_,_⟩,rfl,⟨Bd.neg (Bd.div m0),Bd.neg (Bd.div m1),Bd.neg (Bd.div m2)⟩,Bd.neg (Bd.div m3)⟩
theorem PlG.sm (h:PlG p):p.sm:=⟨Bd.mono h.1.1,Bd.mono h.1.2.1,Bd.mono h.1.2.2,Bd.mono h.2⟩
def OB (ps:List Pt):Prop:=(∃(Z:Sht) (ws:List Tri),SZ Z/\VF ws/\ws.length<=6/\RR (ws.map (spt Z)) ps)/\∀p∈ps,Cn p
def chkR (vs:List Tri):Bool:=((List.range vs.length).all fun i=>(List.range vs.length).all fun j=>(List.range vs.length).all fun k=>!(decide (i<j)&&decide (j<k))||decide (0<dt (tr vs i) (tr vs j) (tr vs k)))&&vs.all fun v=>decide (1<=v.z)
theorem jiT (h:chkR vs=true):TpL vs/\∀v∈vs,1<=v.z:=by
 unfold chkR at h;rw[xaM] at h;obtain⟨h1,h2⟩:=h;refine⟨fun i j k ij jk kn=>?_,fun v hv=>of_decide_eq_true (xbb.mp h2 v hv)⟩;have z:=xbb.mp (xbb.mp (xbb.mp h1 i (xbh.mpr (by omega))) j (xbh.mpr (by omega))) k (xbh.mpr kn);rw[decide_eq_true ij,decide_eq_true jk] at z;exact of_decide_eq_true z
theorem jiU:∀i,i<6->chkR (shp i)=true:=by decide +kernel
theorem jiV:∀i,i<6->∀v∈shp i,(v.x.natAbs<=2/\v.y.natAbs<=2)/\v.z=1:=by decide +kernel
theorem jlW:∀i,i<6->3<=(shp i).length/\(shp i).length<=6:=by decide +kernel
theorem jiW (h:i<6):Rng (shp i):=⟨(jlW i h).1,(jiT (jiU i h)).1,(jiT (jiU i h)).2⟩
theorem jny (h:i<6):VF (shp i):=VF.six (jiW h) fun v hv=>by
 obtain⟨⟨h1,h2⟩,h3⟩:=jiV i h v hv;refine⟨?_,?_,?_⟩<;>(unfold Bd;omega)
theorem RawB.bds (h:RawB n Z) (n9:n<=9):(Bd 27 Z.s.x/\Bd 27 Z.s.y/\Bd 27 Z.s.z)/\Bd 2 Z.w/\(Bd 20 Z.c.x/\Bd 20 Z.c.y/\Bd 20 Z.c.z)/\Bd 20 Z.d.x/\Bd 20 Z.d.y/\Bd 20 Z.d.z:=by
 have h1:=h.sx;have h2:=h.sy;have h3:=h.sz;have h4:=h.w1;have h5:=h.w3;have h6:=h.c;have h7:=h.d;unfold Bd;omega
theorem sz_of (h:RawOk n Z) (n9:n<=9):SZ Z:=by
 obtain⟨⟨s1,s2,s3⟩,hw,⟨c1,c2,c3⟩,d1,d2,d3⟩:=h.b.bds n9;refine⟨h.b.w1,h.nz,fun v ⟨v1,v2,v3⟩=>?_,fun p ⟨⟨p1,p2,p3⟩,p4⟩=>?_⟩
 ·have one:∀{s c d:Int},Bd 27 s->Bd 20 c->Bd 20 d->Bd 252 (s*v.z+Z.w*(v.x*c+v.y*d)):=fun hs hc hd =>
   Bd.mono (Bd.add (n:=248) (Bd.mono (Bd.mul hs v3)) (Bd.mono (Bd.mul hw (Bd.add (n:=241) (Bd.mul v1 hc) (Bd.mul v2 hd)))))
  exact⟨Bd.div (one s1 c1 d1),Bd.div (one s2 c2 d2),Bd.div (one s3 c3 d3),Bd.div (Bd.mono (Bd.mul hw v3))⟩
 ·have one:∀{c d e:Int},Bd 20 c->Bd 20 d->Bd 20 e->Bd 110 (Z.w*(p.x*c+p.y*d+p.z*e)):=fun hc hd he =>
   Bd.mono (Bd.mul hw (Bd.add (n:=87) (Bd.add (n:=86) (Bd.mul p1 hc) (Bd.mul p2 hd)) (Bd.mono (Bd.mul p3 he))))
  refine⟨⟨Bd.mono p1,Bd.mono p2,Bd.mono p3,Bd.mono p4⟩,one c1 c2 c3,one d1 d2 d3,?_⟩;exact Bd.mono (Bd.sub (n:=96) (Bd.mono (Bd.add (n:=94) (Bd.add (n:=93) (Bd.mul p1 s1) (Bd.mul p2 s2)) (Bd.mono (Bd.mul p3 s3)))) (Bd.mul p4 hw))
theorem cn_of (h:RawOk n Z) (n9:n<=9) (hi:i<6):∀v∈shp i,Cn (spt Z v):=fun v hv=>by
 obtain⟨⟨h1,h2⟩,h3⟩:=jiV i hi v hv;obtain⟨B1,B2,B3,B4⟩:=jkD h.b n9 h1 h2 h3;refine⟨⟨Bd.mono (Bd.div B1),Bd.mono (Bd.div B2),Bd.mono (Bd.div B3)⟩,?_,jm7 h.b.w1 (show 1<=v.z by omega)⟩;show Bd 2 (rW Z v / rG Z v);rw[jiP h3];exact Bd.div (h.b.bds n9).2.1
theorem ob_of (h:RawOk n Z) (n9:n<=9) (hi:i<6) (r:RR ((shp i).map (spt Z)) ps):OB ps:=by
 refine⟨⟨Z,shp i,sz_of h n9,jny hi,(jlW i hi).2,r⟩,fun p hp=>?_⟩;obtain⟨v,hv,e⟩:=xaG.mp (r.mem.mp hp);rw[<- e];exact cn_of h n9 hi v hv
def jkF (m:Nat) (H:Hp) (S:Addr) (xs:List (Int × List Pt)):Prop:=∃rs,H S=some (.lst (rs.map V.ref))/\All2 (PcAt H) rs xs/\(∀x∈xs,OB x.2)/\xs.length=m
def RawsAt (m:Nat) (H:Hp) (R:Addr):Prop:=∃(rs:List Addr) (zs:List (Sht × Nat)),H R=some (.lst (rs.map V.ref))/\All2 (RwAt 8 H) rs zs/\zs.length=m
theorem jgI:∀us:List Int,∃M:Int,∀u∈us,u<M
  | []=>⟨0,fun _ z=>nomatch z⟩
  | u :: us => by
    obtain⟨M,h⟩:=jgI us;refine⟨max M (u+1),fun v hv=>?_⟩;rcases xaq.mp hv with rfl | hv
    . omega
    . have:=h v hv
      omega
theorem jjY (xs:List Int):(xs.map V.int).all jeJ=true:=by
 rw[xbb];intro v hv;obtain⟨x,_,rfl⟩:=xaG.mp hv;rfl
theorem jlX (x:Int) (xs:List Int):inV (.int x) (xs.map V.int)=decide (x∈xs):=by
 unfold inV;rw[List.any_map];have e:(xs.any ((fun z=>eqV z (.int x))∘V.int))=xs.any fun z=>z==x:=rfl;rw[e];by_cases c:x∈xs
 ·rw[decide_eq_true c,List.any_eq_true];exact⟨x,c,beq_self_eq_true x⟩
 ·rw[decide_eq_false c,List.any_eq_false];intro z hz e;exact c (by rw[<- eq_of_beq e];exact hz)
def jkG (K:PySem.W.Frag):Sp:=fun vs H Q _=>∃(a:Addr) (cs:List Int),vs=[.ref a]/\SqL K H a (cs.map V.int)/\cs.length<=5/\∀(t S R:Addr) (H':Hp) (xs:List (Int × List Pt)),Same H H'->H S=none->H R=none->H' t=some (.tup [.ref S,.ref R])->jkF cs.length H' S xs->RawsAt cs.length H' R->Q (.ref t) H'
theorem jlY (T:Tx K mg t1 t2) (F:At K mg "_law_some" jc4 ["cells"] []) (dE:jam P w K mg base CX0 1 "_law_state" ["cell"] [] jlN) (Dl:jam P w K mg base CX0 3 "_law_raw" ["state","made"] [] jnv) (db:jam P w K mg base CX0 1 "_law_next" ["state","many"] [] jno) (dS:jam P w K mg base CX0 4 "_law_corners" ["raw"] [] jkE) (De:jam P w K mg base CX0 6 "made_board" ["corners"] [] jim):jam P w K mg base CX0 7 "_law_some" ["cells"] [] (jkG K):=by
 refine F.ok jdD (fun vs H Q E h=>?_) (fun f cdv A outer s H vs Q E hr h=>?_)
 ·obtain⟨a,cs,rfl,_⟩:=h;rfl
 obtain⟨a,cs,rfl,k1,l5,q⟩:=h;have S:=jdD;refine⟨_,(jag (jat (i:=1) S.nd rfl (Or.inl rfl) (jaZ jac))
  (jag (jat (i:=2) S.nd rfl (Or.inl rfl) (jaZ jac))
  (jag (jat (i:=3) S.nd rfl (Or.inl rfl) (jaZ jac))
  (jag (jbx PassesOwn.never rfl (jbW (pv 0)) (jao (i:=4) S.nd rfl (Or.inl rfl))
  (jag (jat (i:=5) S.nd rfl (Or.inl rfl) (jah dE hr.m rfl jau (jaa (pv 4) jac jae)))
  (jag (jcU (jgZ PySem.F.plainAttrs_list PySem.F.slot_list_append PySem.F.type_list_append jby (pv 1) (jaa (jah Dl hr.m rfl jau (jaa (pv 5) (jaa (pv 1) jac jae) jae)) jac jaN)))
  (jag (jat (i:=6) S.nd rfl (Or.inl rfl) (jar jbh (jah db hr.m rfl jau (jaa (pv 5) (jaa (jal ix_list (jaZ (jaa jab (jaa jab (jaa jab jac jaj) jaj) jaj)) (jah db hr.m rfl jau (jaa (pv 5) (jaa jab jac jaj) jae))) jac jas) jae)) jab))
  (jag (jdG PassesOwn.never (jaq jhN (pv 6) (pv 3) rfl)
  (jai (jat (i:=6) S.nd rfl (Or.inl rfl) (jar jbk (pv 6) jab))))
  (jag (jcU (jgZ PySem.F.plainAttrs_list PySem.F.slot_list_append PySem.F.type_list_append jby (pv 3) (jaa (pv 6) jac jae)))
  (jai (jcU (jgZ PySem.F.plainAttrs_list PySem.F.slot_list_append PySem.F.type_list_append jby (pv 2) (jaa (jaH (jaa (pv 6) (jaa (jah De hr.m rfl jau (jaa (jah dS hr.m rfl jau (jaa (jal ix_list (pv 1) (jdN jcj jab)) jac jas)) jac jaN)) jac jaN) jae)) jac jaE))))))))))
  (jai (jap (jaH (jaa (pv 2) (jaa (pv 1) jac jae) jae)))))))),?_⟩
 walk_at "rf";refine⟨by decide,fun R hR=>⟨by decide,fun S hS=>⟨by decide,fun U hU=>?_⟩⟩⟩;have j1:=Same.new hR (.lst []);have j2:=Same.new hS (.lst []);have j3:=Same.new hU (.lst []);have RS:R≠S:=jaz (show upd H R (.lst []) R=some (.lst []) from jaf) hS;have RU:R≠U:=jaz (j2 _ _ (show upd H R (.lst []) R=some (.lst []) from jaf)) hU;have SU:S≠U:=jaz (show upd (upd H R (.lst [])) S (.lst []) S=some (.lst []) from jaf) hU;have eR0:=j3 _ _ (j2 _ _ (show upd H R (.lst []) R=some (.lst []) from jaf));have eS0:=j3 _ _ (show upd (upd H R (.lst [])) S (.lst []) S=some (.lst []) from jaf);have eU0:upd (upd (upd H R (.lst [])) S (.lst [])) U (.lst []) U=some (.lst []):=jaf;have hS0:=j1.noneN hS;have hU0:=j1.noneN (j2.noneN hU);have s0:=j1.trans (j2.trans j3);generalize upd (upd (upd H R (.lst [])) S (.lst [])) U (.lst [])=H0 at eR0 eS0 eU0 s0 |-
 clear j1 j2 j3 hS hU;refine⟨⟨_,s0.seq k1⟩,jbX (K:=K) (a:=a) (xs:=cs.map V.int) (fun i σ Hh=>∃(o4 o5 o6:Option V) (rs:List Addr) (zs:List (Sht × Nat)) (ps:List Addr) (xs:List (Int × List Pt)) (us:List Int),σ=[some (.ref a),some (.ref R),some (.ref S),some (.ref U),o4,o5,o6]/\Same H Hh/\(Hh R=some (.lst (rs.map V.ref))/\All2 (RwAt i Hh) rs zs/\zs.length=i)/\(Hh S=some (.lst (ps.map V.ref))/\All2 (PcAt Hh) ps xs/\(∀x∈xs,OB x.2)/\xs.length=i)/\Hh U=some (.lst (us.map V.int))/\us.length=i) ⟨_,_,_,[],[],[],[],[],rfl,s0,⟨eR0,.nil,rfl⟩,⟨eS0,.nil,(fun _ z=>nomatch z),rfl⟩,eU0,rfl⟩ (fun i σ Hh _ ⟨_,_,_,_,_,_,_,_,_,sx,_⟩=>sx.seq k1) ?_ ?_⟩
 ·rintro i v σ Hh hi ⟨o4,o5,o6,rs,zs,ps,xs,us,rfl,sx,⟨eR,aR,lz⟩,⟨eS,aS,ob,lx⟩,eU,lu⟩;obtain⟨c,rfl,hc⟩:=jgv hi;have il:i<cs.length:=(xaj.mp hc).1;have lrs:=aR.len;have lps:=aS.len;walk_at "rf";refine⟨c,rfl,fun L H1 nL s1 b1=>?_⟩;have RL:R≠L:=jaz eR nL;have SL:S≠L:=jaz eS nL;have UL:U≠L:=jaz eU nL;refine⟨.inl ⟨_,SqL.of (s1 _ _ eR)⟩,L,R,i,rs,zs,rfl,b1,RL,s1 _ _ eR,aR.mono fun _ _ h=>h.keep s1.t,by omega,by omega,fun t H2 z s2 b2 hz=>?_⟩;have R2:=s2 _ _ RL (s1 _ _ eR);have S2:=s2 _ _ SL (s1 _ _ eS);have U2:=s2 _ _ UL (s1 _ _ eU);have t2:SameT Hh H2:=s1.t.trans (b1.t s2);have x2:Same H H2:=fun b o e=>s2 b o (fun z=>by rw[z] at e;rw[sx _ _ e] at nL;cases nL) (s1 _ _ (sx _ _ e));refine⟨R,_,_,rfl,rfl,R2,jaM (by rw[xaa];omega),?_⟩;have nR:H R=none:=hR;have nLH:H L=none:=sx.noneN nL;have tu:=SameT.upd (ys:=rs.map V.ref++[V.ref t]) R2;have aR3:All2 (RwAt (i+1) (upd H2 R (.lst (rs.map V.ref++[V.ref t])))) (rs++[t]) (zs++[z]):=(aR.mono fun _ _ h=>(RwAt.keep (n:=i+1) ⟨h.1,h.2.mono (by omega)⟩ (t2.trans tu))).app (.cons (hz.keep tu) .nil);have aS3:All2 (PcAt (upd H2 R (.lst (rs.map V.ref++[V.ref t])))) ps xs:=aS.mono fun _ _ h=>h.keep (t2.trans tu);have R3:upd H2 R (.lst (rs.map V.ref++[V.ref t])) R=some (.lst ((rs++[t]).map V.ref)):=by rw[jaf,xal];rfl
  have S3:upd H2 R (.lst (rs.map V.ref++[V.ref t])) S=some (.lst (ps.map V.ref)):=by rw[jaA (Ne.symm RS)];exact S2
  have U3:upd H2 R (.lst (rs.map V.ref++[V.ref t])) U=some (.lst (us.map V.int)):=by rw[jaA (Ne.symm RU)];exact U2
  have x3:Same H (upd H2 R (.lst (rs.map V.ref++[V.ref t]))):=Same.keepN x2 nR _;have b3:Sta (upd H2 R (.lst (rs.map V.ref++[V.ref t]))) L:=by
   obtain⟨p,q,h1,h2⟩:=b2;exact⟨p,q,by rw[jaA (Ne.symm RL)];exact h1,h2⟩
  have hz3:=hz.keep tu;have e3:(rs++[t]).length=i+1:=by rw[xae,lrs,lz];rfl
  have e3':(rs++[t])[i]?=some t:=by rw[xaE (by omega)];rw[show i-rs.length=0 by omega];rfl
  have e4:(zs++[z]).length=i+1:=by rw[xae,lz];rfl
  generalize upd H2 R (.lst (rs.map V.ref++[V.ref t]))=H3 at tu aR3 aS3 R3 S3 U3 x3 b3 hz3 |-
  generalize rs++[t]=rs' at aR3 R3 e3 e3';generalize zs++[z]=zs' at aR3 e4;clear tu t2 R2 S2 U2 x2 s2 b2 s1 b1 eR aR eS aS eU hz;refine⟨by decide,fun p hp=>?_⟩;refine jel hp fun H4 j ep=>?_;refine⟨L,3,rfl,b3.keep j,by decide,by decide,fun H5 d s5 b5 d0 d3=>?_⟩;obtain⟨m,em,m1,m2⟩:∃m:Int,atI [V.int 9,V.int 9,V.int 2000001] d=some (.int m)/\0<m/\m<2^60:=by
   have:d=0\/d=1\/d=2:=by omega
   rcases this with rfl | rfl | rfl
   ·exact⟨9,rfl,by decide,by decide⟩
   ·exact⟨9,rfl,by decide,by decide⟩
   ·exact⟨2000001,rfl,by decide,by decide⟩
  refine ixL (SqL.of (s5 _ _ (b3.ne hp) ep)) em ⟨L,m,rfl,b5,m1,m2,fun H6 k s6 b6 k0 km=>⟨k,rfl,?_⟩⟩;have s36:SameB L H3 H6:=j.b.trans (s5.trans s6);have t36:SameT H3 H6:=b3.t s36;have R6:=s36 _ _ RL R3;have S6:=s36 _ _ SL S3;have U6:=s36 _ _ UL U3;have x6:Same H H6:=fun b o e=>s36 b o (jaz e nLH) (x3 _ _ e);have aR6:=aR3.mono fun _ _ h=>RwAt.keep h t36;have aS6:=aS3.mono fun _ _ h=>PcAt.keep h t36;have hz6:=hz3.keep t36;clear s36 t36 s6 s5 j ep R3 S3 U3 x3 aR3 aS3 hz3;obtain⟨M,hM⟩:=jgI us;generalize k-4=a0;refine⟨fun n σ Hk=>Hk=H6/\∃y:Int,σ=[some (.ref a),some (.ref R),some (.ref S),some (.ref U),some (.int c),some (.ref L),some (.int y)]/\n=(M-y).toNat,⟨_,rfl,a0,rfl,rfl⟩,?_⟩;rintro n σ Hk ⟨rfl,y,rfl,rfl⟩;walk_at "rf";refine⟨U,_,rfl,.inl (SqL.of U6),rfl,jjY us,?_⟩;rw[jlX];refine⟨_,rfl,jcK (fun cc=>?_) fun cc=>?_⟩
  ·rw[if_neg (by decide)] at cc;have yu:y∈us:=of_decide_eq_true cc;exact⟨fun σ' H'=>σ'=[some (.ref a),some (.ref R),some (.ref S),some (.ref U),some (.int c),some (.ref L),some (.int (y+1))]/\H'=Hk,fun σ' H' ⟨h1,h2⟩=>⟨(M-(y+1)).toNat,by have:=hM y yu;omega,h2,y+1,h1,rfl⟩,rfl,rfl⟩
  refine⟨.inl ⟨_,SqL.of U6⟩,U,_,_,rfl,rfl,U6,jaM (by rw[xaa];omega),?_⟩;have tu:=SameT.upd (ys:=us.map V.int++[V.int y]) U6;have R7:upd Hk U (.lst (us.map V.int++[V.int y])) R=some (.lst (rs'.map V.ref)):=by rw[jaA RU];exact R6
  have S7:upd Hk U (.lst (us.map V.int++[V.int y])) S=some (.lst (ps.map V.ref)):=by rw[jaA SU];exact S6
  have U7:upd Hk U (.lst (us.map V.int++[V.int y])) U=some (.lst ((us++[y]).map V.int)):=by rw[jaf,xal];rfl
  have x7:Same H (upd Hk U (.lst (us.map V.int++[V.int y]))):=Same.keepN x6 hU0 _;have aR7:=aR6.mono fun _ _ h=>RwAt.keep h tu;have aS7:=aS6.mono fun _ _ h=>PcAt.keep h tu;have hz7:=hz6.keep tu;generalize upd Hk U (.lst (us.map V.int++[V.int y]))=H7 at tu R7 S7 U7 x7 aR7 aS7 hz7 |-
  refine⟨.inl ⟨_,SqL.of S7⟩,ixL (SqL.of R7) (jda (n:=i) (v:=.ref t) (by rw[xaa];exact e3) (by rw[xag,e3'];rfl)) ?_⟩;have h6:z.2<6:=by
   obtain⟨⟨_,_,_,_,_,_,_,h⟩,_⟩:=hz7;exact h
  refine⟨t,i+1,z,rfl,hz7,by omega,fun l H8 ws nl s8 hc8=>?_⟩;refine⟨l,ws,_,rfl,hc8,jjU hz7.2.b.w1 hz7.2.nz (jiW h6) (by have:=(jlW z.2 h6).2;omega),fun bt H9 s9 e9=>⟨by decide,fun p hp=>?_⟩⟩;have j:=Same.new hp (.tup [.int y,.ref bt]);have s710:=(s8.trans s9).trans j;have ep:upd H9 p (.tup [.int y,.ref bt]) p=some (.tup [.int y,.ref bt]):=jaf;have ebt:=j _ _ e9;have sbt:=Sps.frm (ps:=(shp z.2).map (spt z.1)) ((hc8.2.keep s9.t).keep j.t);generalize upd H9 p (.tup [.int y,.ref bt])=H10 at j s710 ep ebt sbt |-
  have S10:=s710 _ _ S7;have tu2:=SameT.upd (ys:=ps.map V.ref++[V.ref p]) S10;refine⟨S,_,_,rfl,rfl,S10,jaM (by rw[xaa];omega),Same.keepN (x7.trans s710) hS0 _,rs',by rw[jaA RS];exact s710 _ _ R7,zs',aR7.mono fun _ _ h=>RwAt.keep h (s710.t.trans tu2),e4,ps++[p],by rw[jaf,xal];rfl,xs++[(y,frm ((shp z.2).map (spt z.1)) ((shp z.2).map (spt z.1)))],(aS7.mono fun _ _ h=>PcAt.keep h (s710.t.trans tu2)).app (.cons (PcAt.keep ⟨bt,ep,_,ebt,sbt⟩ tu2) .nil),fun x hx=>?_,by rw[xae,lx];rfl,us++[y],by rw[jaA (Ne.symm SU)];exact s710 _ _ U7,by rw[xae,lu];rfl⟩;rcases xaJ.mp hx with hx | hx
  ·exact ob x hx
  ·rw[xaB.mp hx];exact ob_of hz7.2 (by omega) h6 (jni _ _)
 ·rintro σ Hh ⟨o4,o5,o6,rs,zs,ps,xs,us,rfl,sx,⟨eR,aR,lz⟩,⟨eS,aS,ob,lx⟩,eU,lu⟩;rw[xaa] at aR lz lx;walk_at "rf";refine⟨by decide,fun p hp=>?_⟩;have j:=Same.new hp (.tup [.ref S,.ref R]);exact q p S R _ xs (sx.trans j) hS0 hR jaf ⟨ps,j _ _ eS,aS.mono fun _ _ h=>h.keep j.t,ob,lx⟩ ⟨rs,zs,j _ _ eR,aR.mono fun _ _ h=>RwAt.keep ⟨h.1,h.2.mono (by omega)⟩ j.t,lz⟩
def pcD (x:Int × List Pt):PyData:=.tuple [.int x.1,jmc x.2]
theorem PcAt.rds {x:Int × List Pt} (h:PcAt H r x):Rds K H (.ref r) (pcD x):=by
 obtain⟨t,e,rs,e1,e2⟩:=h;exact .tup (SqT.of e) (.cons (.int _) (.cons (jlv e1 e2) .nil))
theorem jeg {rs:List Addr} {xs:List (Int × List Pt)} (h:All2 (PcAt H) rs xs):RdsAll K H (rs.map V.ref) (xs.map pcD):=by
 induction h with
 | nil=>exact .nil
 | cons h _ ih=>exact .cons h.rds ih
theorem jf1 (xs:List (Int × List Pt)):PyData.canLayAll0 (xs.map pcD)=true/\PyData.depthAll (xs.map pcD)<=3:=by
  induction xs with
  | nil=>exact⟨rfl,by decide⟩
  | cons x xs ih =>
    obtain⟨a,b⟩:=ih;obtain⟨l1,l2,_⟩:=jlw x.2;refine⟨?_,?_⟩
    . rw[xaI]
      simp [PyData.canLayAll0,a,pcD,PyData.canLay0,l1]
    . rw[xaI]
      simp [PyData.depthAll,pcD,PyData.depth];omega
def jnz:Sp:=fun vs H Q _=>∃x y:Int,vs=[.int x,.int y]/\Q (.int (Int.gcd x y:Nat)) H
theorem jnA (T:Tx K mg t1 t2) (F:At K mg "_law_divisor" jbP ["one","other"] []):jam P w K mg base CX0 1 "_law_divisor" ["one","other"] [] jnz:=by
 refine F.ok jcA (fun vs H Q E h=>?_) (fun f cdv A outer s H vs Q E hr h=>?_)
 ·obtain⟨x,y,rfl,_⟩:=h;rfl
 obtain⟨x,y,rfl,q⟩:=h;have S:=jcA;refine⟨_,(jag (jat (i:=0) S.nd rfl (Or.inl rfl) (jaB jcI rfl T.m_abs boot_abs (jaa (pv 0) jac jae)))
  (jag (jat (i:=1) S.nd rfl (Or.inl rfl) (jaB jcI rfl T.m_abs boot_abs (jaa (pv 1) jac jae)))
  (jag (jdG PassesOwn.never (jaq jfM (pv 1) jab (jay _))
  (jai (jms (i:=0) (j:=1) rfl S.nd rfl rfl (by decide) rfl rfl (jaa (pv 1) (jaa (jar jci (pv 0) (pv 1)) jac jbm) jae) rfl)))
  (jai (jap (pv 0)))))),?_⟩
 walk_at "rf";refine⟨fun n σ H3=>H3=H/\∃(a b:Int),σ=[some (.int a),some (.int b)]/\0<=a/\0<=b/\Int.gcd a b=Int.gcd x y/\n=b.natAbs,⟨_,rfl,_,_,rfl,by split<;>omega,by split<;>omega,?_,rfl⟩,?_⟩
 ·split<;>split<;>simp [Int.neg_gcd,Int.gcd_neg]
 rintro n σ H3 ⟨rfl,a,b,rfl,a0,b0,hg,rfl⟩;walk_at "rf";refine jcK (fun c=>?_) fun c=>?_
 ·have m0:=xbl a (show b≠0 by omega);have m1:=xa2 a c;exact⟨fun σ' H'=>σ'=[some (.int b),some (.int (a % b))]/\H'=H3,fun σ' H' ⟨h1,h2⟩=>⟨(a % b).natAbs,by omega,h2,b,a % b,h1,b0,m0,(jlL a b).trans hg,rfl⟩,c,rfl,rfl⟩
 ·have e:b=0:=by omega
  subst e;rw[Int.gcd_zero_right] at hg;rw[show a=((Int.gcd x y:Nat):Int) by omega];exact q
theorem jiX {rs:List Addr} (h:Sps H rs ps) (n:3<=ps.length):∃a b c:Addr,(rs.map V.ref).take 3=[.ref a,.ref b,.ref c]/\Is4 H a (pt ps 0)/\Is4 H b (pt ps 1)/\Is4 H c (pt ps 2):=by
  cases h with
  | nil=>exact absurd n (by decide)
  | cons h1 h => cases h with
    | nil=>exact absurd n (show ¬3<=1 by decide)
    | cons h2 h => cases h with
      | nil=>exact absurd n (show ¬3<=2 by decide)
      | cons h3 h=>exact⟨_,_,_,rfl,h1,h2,h3⟩
theorem jeh (h:v.bd n) (k:Nat):Bd n (cmp v k):=by
 unfold cmp;split
 ·exact h.1
 ·split
  ·exact h.2.1
  ·exact h.2.2
def dfr (B A:Pt):Tri:=⟨B.x*A.w-A.x*B.w,B.y*A.w-A.y*B.w,B.z*A.w-A.z*B.w⟩
def nup (ps:List Pt):Tri:=upr (dfr (pt ps 1) (pt ps 0)) (dfr (pt ps 2) (pt ps 0))
def fo4 (ps:List Pt):List Int:=[(nup ps).x*(pt ps 0).w,(nup ps).y*(pt ps 0).w,(nup ps).z*(pt ps 0).w,(nup ps).x*(pt ps 0).x+((nup ps).y*(pt ps 0).y+((nup ps).z*(pt ps 0).z+0))]
theorem jkH (A B C:Pt):(upr (dfr B A) (dfr C A)).x=A.w*jav 0 A B C/\(upr (dfr B A) (dfr C A)).y=-(A.w*jav 1 A B C)/\(upr (dfr B A) (dfr C A)).z=A.w*jav 2 A B C:=by
 have h0:jav 0 A B C=jbF A.y A.z A.w B.y B.z B.w C.y C.z C.w:=rfl;have h1:jav 1 A B C=jbF A.x A.z A.w B.x B.z B.w C.x C.z C.w:=rfl;have h2:jav 2 A B C=jbF A.x A.y A.w B.x B.y B.w C.x C.y C.w:=rfl;rw[h0,h1,h2];unfold upr dfr jbF;simp only;refine⟨?_,?_,?_⟩<;>grind
def Cg (p:Pt):Prop:=p.bd 252/\1<=p.w
theorem jgJ {A B:Pt} (ha:Cg A) (hb:Cg B):(dfr B A).bd 505:=by
 obtain⟨⟨a1,a2,a3,a4⟩,_⟩:=ha;obtain⟨⟨b1,b2,b3,b4⟩,_⟩:=hb;exact⟨Bd.sub (n:=504) (Bd.mul b1 a4) (Bd.mul a1 b4),Bd.sub (n:=504) (Bd.mul b2 a4) (Bd.mul a2 b4),Bd.sub (n:=504) (Bd.mul b3 a4) (Bd.mul a3 b4)⟩
theorem jnB {u:Tri} (hu:u.bd 505) (hv:v.bd 505):(upr u v).bd 1011:=by
 obtain⟨a1,a2,a3⟩:=hu;obtain⟨b1,b2,b3⟩:=hv;exact⟨Bd.sub (n:=1010) (Bd.mul a2 b3) (Bd.mul a3 b2),Bd.sub (n:=1010) (Bd.mul a3 b1) (Bd.mul a1 b3),Bd.sub (n:=1010) (Bd.mul a1 b2) (Bd.mul a2 b1)⟩
def LP (ps:List Pt) (x y z v:Int):Prop:=∃g:Int,g≠0/\g*x=(nup ps).x*(pt ps 0).w/\g*y=(nup ps).y*(pt ps 0).w/\g*z=(nup ps).z*(pt ps 0).w/\g*v=(nup ps).x*(pt ps 0).x+((nup ps).y*(pt ps 0).y+((nup ps).z*(pt ps 0).z+0))
def Abc (H:Hp) (ra rb rc:Addr) (ps:List Pt):Prop:=Is4 H ra (pt ps 0)/\Is4 H rb (pt ps 1)/\Is4 H rc (pt ps 2)
theorem Abc.keep {ra rb rc:Addr} (h:Abc H ra rb rc ps) (s:Same H H'):Abc H' ra rb rc ps:=⟨h.1.keep s,h.2.1.keep s,h.2.2.keep s⟩
def pl0 (H:Hp) (l:Addr) (ps:List Pt):L2.St->Hp->Prop:=fun σ H'=>∃ra rb rc:Addr,σ=[some (.ref l),some (.ref ra),some (.ref rb),some (.ref rc),none,none,none,none,none]/\Abc H' ra rb rc ps/\Same H H'
def pl2 (K:PySem.W.Frag) (H:Hp) (l:Addr) (ps:List Pt):L2.St->Hp->Prop:=fun σ H'=>∃ra rb rc g1 g2:Addr,σ=[some (.ref l),some (.ref ra),some (.ref rb),some (.ref rc),some (.ref g1),some (.ref g2),none,none,none]/\Abc H' ra rb rc ps/\Lt3 K H' g1 (dfr (pt ps 1) (pt ps 0))/\Lt3 K H' g2 (dfr (pt ps 2) (pt ps 0))/\Same H H'
def pl3 (H:Hp) (l:Addr) (ps:List Pt):L2.St->Hp->Prop:=fun σ H'=>∃(ra rb rc g3:Addr) (o4 o5:Option V),σ=[some (.ref l),some (.ref ra),some (.ref rb),some (.ref rc),o4,o5,some (.ref g3),none,none]/\Abc H' ra rb rc ps/\H' g3=some (.tup [.int (nup ps).x,.int (nup ps).y,.int (nup ps).z])/\Same H H'
def pl4c (H:Hp) (l:Addr) (ps:List Pt):L2.St->Hp->Prop:=fun σ H'=>∃(ra rb rc g3 fl:Addr) (o4 o5:Option V),σ=[some (.ref l),some (.ref ra),some (.ref rb),some (.ref rc),o4,o5,some (.ref g3),some (.ref fl),none]/\Abc H' ra rb rc ps/\H' g3=some (.tup [.int (nup ps).x,.int (nup ps).y,.int (nup ps).z])/\H fl=none/\H' fl=some (.lst (((fo4 ps).take 3).map V.int))/\Same H H'
def pl5 (H:Hp) (l:Addr) (ps:List Pt):L2.St->Hp->Prop:=fun σ H'=>∃(fl:Addr) (o1 o2 o3 o4 o5 o6:Option V),σ=[some (.ref l),o1,o2,o3,o4,o5,o6,some (.ref fl),none]/\H' fl=some (.lst ((fo4 ps).map V.int))/\Same H H'
def pl6 (H:Hp) (l:Addr) (ps:List Pt):L2.St->Hp->Prop:=fun σ H'=>∃(fl:Addr) (o1 o2 o3 o4 o5 o6:Option V),σ=[some (.ref l),o1,o2,o3,o4,o5,o6,some (.ref fl),some (.int (gl (fo4 ps)))]/\H' fl=some (.lst ((fo4 ps).map V.int))/\Same H H'
def Fst (ps:List Pt) (j:Nat):Prop:=j<3/\(∀i,i<j->(fo4 ps).getD i 0=0)/\(fo4 ps).getD j 0≠0
def pl7 (H:Hp) (l:Addr) (ps:List Pt):L2.St->Hp->Prop:=fun σ H'=>∃(fl:Addr) (g:Int) (o1 o2 o3 o4 o5 o6:Option V),σ=[some (.ref l),o1,o2,o3,o4,o5,o6,some (.ref fl),some (.int g)]/\(∃j,Fst ps j/\((0<=(fo4 ps).getD j 0/\g=gl (fo4 ps))\/((fo4 ps).getD j 0<0/\g=-gl (fo4 ps))))/\H' fl=some (.lst ((fo4 ps).map V.int))/\Same H H'
theorem fil3 {p:Nat->Bool} {js:List Nat} (h:(List.range 3).filter p=j::js):j<3/\p j=true/\∀i,i<j->p i=false:=by
 have e:List.range 3=[0,1,2]:=rfl;rw[e] at h;cases h0:p 0<;>cases h1:p 1<;>cases h2:p 2<;>simp [List.filter,h0,h1,h2] at h<;>obtain⟨rfl,_⟩:=h<;>refine⟨by decide,by assumption,fun i hi=>?_⟩<;>(have:i=0\/i=1:=by omega)<;>rcases this with rfl | rfl<;>first | assumption | omega
theorem jgK {rb ra:Addr} {B A:Pt} {k:Nat} {R:V->Hp->Prop} (hb:Is4 H rb B) (ha:Is4 H ra A) (cB:Cg B) (cA:Cg A) (hk:k<3) (q:R (.int (cmp (dfr B A) k)) H):ji3 K (V.ref rb) (V.int (0+(k:Int))) H fun x H1=>ji3 K (V.ref ra) (V.int 3) H1 fun y H2=>∃i,x=V.int i/\∃x,y=V.int x/\Fit i/\Fit x/\ji3 K (V.ref ra) (V.int (0+(k:Int))) H2 fun x_1 H1=>ji3 K (V.ref rb) (V.int 3) H1 fun y H2=>∃i_1,x_1=V.int i_1/\∃x_2,y=V.int x_2/\Fit i_1/\Fit x_2/\R (V.int (i*x-i_1*x_2)) H2:=by
 have e:cmp (dfr B A) k=cmp ⟨B.x,B.y,B.z⟩ k*A.w-cmp ⟨A.x,A.y,A.z⟩ k*B.w:=by
  match k,hk with
  | 0,_=>rfl
  | 1,_=>rfl
  | 2,_=>rfl
 rw[e] at q;have f1:Fit (cmp ⟨B.x,B.y,B.z⟩ k):=(jeh (v:=⟨B.x,B.y,B.z⟩) ⟨cB.1.1,cB.1.2.1,cB.1.2.2.1⟩ k).fit;have f2:Fit (cmp ⟨A.x,A.y,A.z⟩ k):=(jeh (v:=⟨A.x,A.y,A.z⟩) ⟨cA.1.1,cA.1.2.1,cA.1.2.2.1⟩ k).fit;exact ixT hb.sq (jmf ⟨B.x,B.y,B.z⟩ B.w hk) (ixT ha.sq (i:=3) rfl ⟨_,rfl,_,rfl,f1,cA.1.2.2.2.fit,ixT ha.sq (jmf ⟨A.x,A.y,A.z⟩ A.w hk) (ixT hb.sq (i:=3) rfl ⟨_,rfl,_,rfl,f2,cB.1.2.2.2.fit,q⟩)⟩)
theorem jnC {k:Nat} {z:V} (h:(((fo4 ps).take 3).map V.int)[k]?=some z):z=.int ((fo4 ps).getD k 0)/\k<3:=by
 match k,h with
 | 0,h=>cases h;exact⟨rfl,by decide⟩
 | 1,h=>cases h;exact⟨rfl,by decide⟩
 | 2,h=>cases h;exact⟨rfl,by decide⟩
theorem fo_bd (cA:Cg (pt ps 0)) (bn:(nup ps).bd 1011):Bd 1266 ((fo4 ps).getD 0 0)/\Bd 1266 ((fo4 ps).getD 1 0)/\Bd 1266 ((fo4 ps).getD 2 0)/\Bd 1266 ((fo4 ps).getD 3 0):=by
 obtain⟨n1,n2,n3⟩:=bn;obtain⟨⟨a1,a2,a3,a4⟩,_⟩:=cA;refine⟨Bd.mono (Bd.mul n1 a4),Bd.mono (Bd.mul n2 a4),Bd.mono (Bd.mul n3 a4),?_⟩;exact Bd.add (n:=1265) (Bd.mono (Bd.mul n1 a1)) (Bd.add (n:=1264) (Bd.mono (Bd.mul n2 a2)) (Bd.add (n:=1263) (Bd.mul n3 a3) (by unfold Bd;decide)))
theorem jei {g:Int} (d:g ∣ x) (h:0<x/\0<g\/x<0/\g<0):0<x / g:=by
 obtain⟨k,rfl⟩:=d;have g0:g≠0:=by omega
 rw[Int.mul_ediv_cancel_left _ g0];rcases h with ⟨h1,h2⟩ | ⟨h1,h2⟩
 ·exact xbm h1 h2
 ·have h3:0<(-g)*k:=by rw[xb8];omega
  exact xbm h3 (by omega)
theorem jiY {g:Int} (F:Fst ps j) (hd:∀i∈fo4 ps,g ∣ i) (h:0<(fo4 ps).getD j 0/\0<g\/(fo4 ps).getD j 0<0/\g<0):plb ((fo4 ps).getD 0 0 / g) ((fo4 ps).getD 1 0 / g) ((fo4 ps).getD 2 0 / g)=true:=by
  obtain⟨j3,z,_⟩:=F;unfold plb
  match j,j3,z,h with
  | 0, _, _, h =>
    have p:=jei (hd _ (.head _)) h;change 0<(fo4 ps).getD 0 0 / g at p;rw[if_pos (by omega),decide_eq_true p]
  | 1, _, z, h =>
    have p:=jei (hd _ (.tail _ (.head _))) h;change 0<(fo4 ps).getD 1 0 / g at p;rw[z 0 (by decide),Int.zero_ediv,if_neg (by omega),if_pos (by omega),decide_eq_true p]
  | 2, _, z, h =>
    have p:=jei (hd _ (.tail _ (.tail _ (.head _)))) h;change 0<(fo4 ps).getD 2 0 / g at p;rw[z 0 (by decide),z 1 (by decide),Int.zero_ediv,if_neg (by omega),if_neg (by omega),if_pos (by omega),decide_eq_true p]
theorem jnD (aw:1<=(pt ps 0).w) (na:¬jbC (pt ps 0) (pt ps 1) (pt ps 2)):pln (fo4 ps)=pln (rgh (pt ps 0) (pt ps 1) (pt ps 2)):=by
 obtain⟨m0,m1,m2⟩:=jkH (pt ps 0) (pt ps 1) (pt ps 2);have e:fo4 ps=[(pt ps 0).w*(pt ps 0).w*jav 0 (pt ps 0) (pt ps 1) (pt ps 2),(pt ps 0).w*(pt ps 0).w*-jav 1 (pt ps 0) (pt ps 1) (pt ps 2),(pt ps 0).w*(pt ps 0).w*jav 2 (pt ps 0) (pt ps 1) (pt ps 2),(pt ps 0).w*(pt ps 0).w*jav 3 (pt ps 0) (pt ps 1) (pt ps 2)]:=by
  unfold fo4 nup;rw[m0,m1,m2];have h0:jav 0 (pt ps 0) (pt ps 1) (pt ps 2)=jbF (pt ps 0).y (pt ps 0).z (pt ps 0).w (pt ps 1).y (pt ps 1).z (pt ps 1).w (pt ps 2).y (pt ps 2).z (pt ps 2).w:=rfl;have h1:jav 1 (pt ps 0) (pt ps 1) (pt ps 2)=jbF (pt ps 0).x (pt ps 0).z (pt ps 0).w (pt ps 1).x (pt ps 1).z (pt ps 1).w (pt ps 2).x (pt ps 2).z (pt ps 2).w:=rfl;have h2:jav 2 (pt ps 0) (pt ps 1) (pt ps 2)=jbF (pt ps 0).x (pt ps 0).y (pt ps 0).w (pt ps 1).x (pt ps 1).y (pt ps 1).w (pt ps 2).x (pt ps 2).y (pt ps 2).w:=rfl;have h3:jav 3 (pt ps 0) (pt ps 1) (pt ps 2)=jbF (pt ps 0).x (pt ps 0).y (pt ps 0).z (pt ps 1).x (pt ps 1).y (pt ps 1).z (pt ps 2).x (pt ps 2).y (pt ps 2).z:=rfl;rw[h0,h1,h2,h3];unfold jbF;generalize pt ps 0=A;generalize pt ps 1=B;generalize pt ps 2=C;refine xbI.mpr ⟨by grind,xbI.mpr ⟨by grind,xbI.mpr ⟨by grind,xbI.mpr ⟨by grind,rfl⟩⟩⟩⟩
 rw[e];unfold rgh;refine jlK (Int.mul_ne_zero (by omega) (by omega)) fun z=>na ⟨z.1,by omega,z.2.2⟩
theorem jiZ {g:Int} (cA:Cg (pt ps 0)) (na:¬jbC (pt ps 0) (pt ps 1) (pt ps 2)) (F:Fst ps j) (sg:(0<=(fo4 ps).getD j 0/\g=gl (fo4 ps))\/((fo4 ps).getD j 0<0/\g=-gl (fo4 ps))):[((nup ps).x*(pt ps 0).w).fdiv g,((nup ps).y*(pt ps 0).w).fdiv g,((nup ps).z*(pt ps 0).w).fdiv g,((nup ps).x*(pt ps 0).x+((nup ps).y*(pt ps 0).y+((nup ps).z*(pt ps 0).z+0))).fdiv g]=pln (rgh (pt ps 0) (pt ps 1) (pt ps 2)):=by
 rw[<- jnD cA.2 na];have hG:∀i∈fo4 ps,gl (fo4 ps) ∣ i:=fun i hi=>jaP hi;have hg:∀i∈fo4 ps,g ∣ i:=fun i hi=>by
  rcases sg with ⟨_,rfl⟩ | ⟨_,rfl⟩
  ·exact hG i hi
  ·exact Int.neg_dvd.mpr (hG i hi)
 have mj:(fo4 ps).getD j 0∈fo4 ps:=by
  match j,F.1 with
  | 0,_=>exact .head _
  | 1,_=>exact .tail _ (.head _)
  | 2,_=>exact .tail _ (.tail _ (.head _))
 have G0:0<gl (fo4 ps):=by
  have nn:=ja7 (fo4 ps);rcases Int.lt_or_eq_of_le nn with h | h
  ·exact h
  ·have:=hG _ mj;rw[<- h] at this;exact absurd (Int.zero_dvd.mp this) F.2.2
 have nz:=F.2.2;have e:∀i∈fo4 ps,i.fdiv g=i / g:=fun i hi=>xbD (hg i hi);have pb:=jiY F hg (by omega);have a0:((nup ps).x*(pt ps 0).w).fdiv g=(fo4 ps).getD 0 0 / g:=e _ (.head _);have a1:((nup ps).y*(pt ps 0).w).fdiv g=(fo4 ps).getD 1 0 / g:=e _ (.tail _ (.head _));have a2:((nup ps).z*(pt ps 0).w).fdiv g=(fo4 ps).getD 2 0 / g:=e _ (.tail _ (.tail _ (.head _)));have a3:((nup ps).x*(pt ps 0).x+((nup ps).y*(pt ps 0).y+((nup ps).z*(pt ps 0).z+0))).fdiv g=(fo4 ps).getD 3 0 / g:=e _ (.tail _ (.tail _ (.tail _ (.head _))));rw[a0,a1,a2,a3];have ep:pln (fo4 ps)=if plb ((fo4 ps).getD 0 0 / gl (fo4 ps)) ((fo4 ps).getD 1 0 / gl (fo4 ps)) ((fo4 ps).getD 2 0 / gl (fo4 ps))=true then [(fo4 ps).getD 0 0 / gl (fo4 ps),(fo4 ps).getD 1 0 / gl (fo4 ps),(fo4 ps).getD 2 0 / gl (fo4 ps),(fo4 ps).getD 3 0 / gl (fo4 ps)] else [-((fo4 ps).getD 0 0 / gl (fo4 ps)),-((fo4 ps).getD 1 0 / gl (fo4 ps)),-((fo4 ps).getD 2 0 / gl (fo4 ps)),-((fo4 ps).getD 3 0 / gl (fo4 ps))]:=rfl;rw[ep];rcases sg with ⟨h1,rfl⟩ | ⟨h1,rfl⟩
 ·rw[if_pos pb]
 ·rw[xbz,xbz,xbz] at pb;have pn:=jiM pb;rw[Int.neg_neg,Int.neg_neg,Int.neg_neg] at pn;rw[if_neg (by rw[pn];decide),xbz,xbz,xbz,xbz]
def jnE:Sp:=fun vs H Q _=>∃(l:Addr) (rs:List Addr) (ps:List Pt),vs=[.ref l]/\(H l=some (.lst (rs.map V.ref))\/H l=some (.tup (rs.map V.ref)))/\Sps H rs ps/\3<=ps.length/\(∀p∈ps,Cg p)/\¬jbC (pt ps 0) (pt ps 1) (pt ps 2)/\∀(t:Addr) (H':Hp) (x y z v:Int),Same H H'->H' t=some (.tup [.int x,.int y,.int z,.int v])->LP ps x y z v->[x,y,z,v]=pln (rgh (pt ps 0) (pt ps 1) (pt ps 2))->Q (.ref t) H'
theorem jnF (T:Tx K mg t1 t2) (F:At K mg "_law_plane" jaD ["corners"] []) (dC:jam P w K mg base CX0 1 "_law_upright" ["one","other"] [] (jlP K)) (dB:jam P w K mg base CX0 1 "_law_divisor" ["one","other"] [] jnz):jam P w K mg base CX0 2 "_law_plane" ["corners"] [] jnE:=by
  refine F.ok jdg (fun vs H Q E h=>?_) (fun f cdv A outer s H vs Q E hr h=>?_)
  . obtain⟨l,rs,ps,rfl,_⟩:=h
    rfl
  obtain⟨l,rs,ps,rfl,hl,hs,n3,hc,na,q⟩:=h;have S:=jdg;refine⟨_,(ja2 (pl0 H l ps) (jcN (jbG jmJ (pv 0) jcV (jbY jab)) (pg_or (jmH rfl (jaC (jao (i:=1) S.nd rfl (Or.inr rfl)) (jaC (jao (i:=2) S.nd rfl (Or.inr rfl)) (jaC (jao (i:=3) S.nd rfl (Or.inr rfl)) jbw)))) (jcM rfl (jaC (jao (i:=1) S.nd rfl (Or.inr rfl)) (jaC (jao (i:=2) S.nd rfl (Or.inr rfl)) (jaC (jao (i:=3) S.nd rfl (Or.inr rfl)) jbw))))))
    (jag (jb2 (i:=4) rfl S.nd rfl rfl (N':=["k","b","a"]) (ix:=[2,1]) ⟨rfl,rfl,by decide +kernel,by decide +kernel,by decide +kernel,(show ∀y:Str × NameKind,y∈_->y.2=NameKind.free->(jad jaD).names.lookup y.1=some .cell\/(jad jaD).names.lookup y.1=some .free from by decide +kernel),(.cons rfl (.inl rfl) rfl (.cons rfl (.inl rfl) rfl .nil))⟩ (jaX rfl T.m_range (jaa jab jac jaj)) (fun _ _ _ _=>jao (i:=0) (show (["k","b","a"]:List Str).Nodup from by decide +kernel) rfl (Or.inl rfl)) (fun _ _ _ _=>jbe) (fun _ _ _ _=>(jar jbh (jar jax (jal (jaR (K:=K) rfl) (pv 1) (pv 0)) (jal (jaR (K:=K) rfl) (pv 2) jab)) (jar jax (jal (jaR (K:=K) rfl) (pv 2) (pv 0)) (jal (jaR (K:=K) rfl) (pv 1) jab)))))
    (ja2 (pl2 K H l ps) (jb2 (i:=5) rfl S.nd rfl rfl (N':=["k","c","a"]) (ix:=[3,1]) ⟨rfl,rfl,by decide +kernel,by decide +kernel,by decide +kernel,(show ∀y:Str × NameKind,y∈_->y.2=NameKind.free->(jad jaD).names.lookup y.1=some .cell\/(jad jaD).names.lookup y.1=some .free from by decide +kernel),(.cons rfl (.inl rfl) rfl (.cons rfl (.inl rfl) rfl .nil))⟩ (jaX rfl T.m_range (jaa jab jac jaj)) (fun _ _ _ _=>jao (i:=0) (show (["k","c","a"]:List Str).Nodup from by decide +kernel) rfl (Or.inl rfl)) (fun _ _ _ _=>jbe) (fun _ _ _ _=>(jar jbh (jar jax (jal (jaR (K:=K) rfl) (pv 1) (pv 0)) (jal (jaR (K:=K) rfl) (pv 2) jab)) (jar jax (jal (jaR (K:=K) rfl) (pv 2) (pv 0)) (jal (jaR (K:=K) rfl) (pv 1) jab)))))
    (ja2 (pl3 H l ps) (jat (i:=6) S.nd rfl (Or.inr rfl) (jah dC hr.m rfl jau (jaa (pv 4) (jaa (pv 5) jac jae) jae)))
    (ja2 (pl4c H l ps) (jat (i:=7) S.nd rfl (Or.inl rfl) (jaZ (jaa (jar jax (jal jan (pv 6) jab) (jal jan (pv 1) jab)) (jaa (jar jax (jal jan (pv 6) jab) (jal jan (pv 1) jab)) (jaa (jar jax (jal jan (pv 6) jab) (jal jan (pv 1) jab)) jac jbm) jbm) jbm)))
    (ja2 (pl5 H l ps) (jcU (jgZ PySem.F.plainAttrs_list PySem.F.slot_list_append PySem.F.type_list_append jby (pv 7) (jaa (jaB (jjl rfl) rfl T.m_sum boot_sum (jaa (jba rfl (N':=["k","upright","a"]) (ix:=[6,1]) ⟨rfl,rfl,by decide +kernel,by decide +kernel,by decide +kernel,(show ∀y:Str × NameKind,y∈_->y.2=NameKind.free->(jad jaD).names.lookup y.1=some .cell\/(jad jaD).names.lookup y.1=some .free from by decide +kernel),(.cons rfl (.inl rfl) rfl (.cons rfl (.inl rfl) rfl .nil))⟩ (jaX rfl T.m_range (jaa jab jac jaj)) (fun _ _ _ _=>jao (i:=0) (show (["k","upright","a"]:List Str).Nodup from by decide +kernel) rfl (Or.inl rfl)) (fun _ _ _ _=>jbe) (fun _ _ _ _=>(jar jax (jal (jaR (K:=K) rfl) (pv 1) (pv 0)) (jal (jaR (K:=K) rfl) (pv 2) (pv 0))))) jac jcP)) jac jaN)))
    (ja2 (pl6 H l ps) (jat (i:=8) S.nd rfl (Or.inr rfl) (jah dB hr.m rfl jau (jaa (jah dB hr.m rfl jau (jaa (jal ix_list (pv 7) jab) (jaa (jal ix_list (pv 7) jab) jac jas) jas)) (jaa (jah dB hr.m rfl jau (jaa (jal ix_list (pv 7) jab) (jaa (jal ix_list (pv 7) jab) jac jas) jas)) jac jaN) jaN)))
    (ja2 (pl7 H l ps) (jaQ (jaq jgR (jal ix_list (jba rfl (N':=["number"]) (ix:=[]) ⟨rfl,rfl,by decide +kernel,by decide +kernel,by decide +kernel,(show ∀y:Str × NameKind,y∈_->y.2=NameKind.free->(jad jaD).names.lookup y.1=some .cell\/(jad jaD).names.lookup y.1=some .free from by decide +kernel),.nil⟩ (jbW (jbG sl_list (pv 7) jcV (jbY jab))) (fun _ _ _ _=>jao (i:=0) (show (["number"]:List Str).Nodup from by decide +kernel) rfl (Or.inl rfl)) (fun _ _ _ _=>(jhS (jaq jdO (pv 0) jab (jay _)))) (fun _ _ _ _=>(pv 0))) jab) jab (jay _))
    (jai (jat (i:=8) S.nd rfl (Or.inr rfl) (jar jbh jab (pv 8))))
    jaw)
    (jai (jap (jaJ jb0 rfl T.m_tuple boot_tuple (jaa (jba rfl (N':=["number","by"]) (ix:=[8]) ⟨rfl,rfl,by decide +kernel,by decide +kernel,by decide +kernel,(show ∀y:Str × NameKind,y∈_->y.2=NameKind.free->(jad jaD).names.lookup y.1=some .cell\/(jad jaD).names.lookup y.1=some .free from by decide +kernel),(.cons rfl (.inl rfl) rfl .nil)⟩ (jbW (pv 7)) (fun _ _ _ _=>jao (i:=0) (show (["number","by"]:List Str).Nodup from by decide +kernel) rfl (Or.inl rfl)) (fun _ _ _ _=>jbe) (fun _ _ _ _=>(jar jjn (pv 0) (pv 1)))) jac jcP)))))))))))),?_⟩
  have cA:=hc _ (jbJ (i:=0) (by omega));have cB:=hc _ (jbJ (i:=1) (by omega));have cC:=hc _ (jbJ (i:=2) (by omega));have lrs:=hs.len;walk_at "rf";refine⟨?_,?_⟩
  . obtain⟨ra,rb,rc,er,h1,h2,h3⟩:=jiX hs n3
    have ec:jeq (rs.map V.ref) none (some 3)=[.ref ra,.ref rb,.ref rc]:=by
      have z:jeq (rs.map V.ref) none (some 3)=(rs.map V.ref).take 3:=jdH (f:=3);rw[z,er]
    have fin:∀{J:Hp},Same H J->pl0 H l ps [some (.ref l),some (.ref ra),some (.ref rb),some (.ref rc),none,none,none,none,none] J:=fun j=>⟨ra,rb,rc,rfl,⟨h1.keep j,h2.keep j,h3.keep j⟩,j⟩;rcases hl with hl | hl
    . refine .inl (.inl ⟨l,_,rfl,SqL.of hl,fun p hp=>?_⟩)
      rw[ec];exact .inl ⟨p,_,rfl,SqL.of jaf,rfl,_,_,rfl,_,_,rfl,_,_,rfl,rfl,fin (Same.new hp _)⟩
    . by_cases k3:3 < ps.length
      . refine .inl (.inr ⟨l,_,rfl,SqT.of hl,?_,fun p hp=>?_⟩)
        . have z:HT.sIx (rs.map V.ref).length (rs.map V.ref).length (some 3)=min 3 (rs.map V.ref).length:=HT.sIx_nat _ _ 3
          rw[z,xaa];omega
        . rw[ec]
          exact .inr ⟨p,_,rfl,SqT.of jaf,rfl,_,_,rfl,_,_,rfl,_,_,rfl,rfl,fin (Same.new hp _)⟩
      . have z:HT.sIx (rs.map V.ref).length (rs.map V.ref).length (some 3)=min 3 (rs.map V.ref).length:=HT.sIx_nat _ _ 3
        have e3:rs.map V.ref=[.ref ra,.ref rb,.ref rc]:=by rw[<- er,xaV (by rw[xaa];omega)]
        refine .inr ⟨l,_,rfl,SqT.of hl,⟨rfl,?_⟩,?_⟩
        . rw[z,xaa]
          omega
        . rw[e3] at hl
          exact .inr ⟨l,_,rfl,SqT.of hl,rfl,_,_,rfl,_,_,rfl,_,_,rfl,rfl,fin (Same.refl _)⟩
  rintro σ0 H0 ⟨ra,rb,rc,rfl,hA,s0⟩;walk_at "rf";refine⟨by decide,by decide,fun g1 hg1=>jfR (n:=3) (fun k=>.int (cmp (dfr (pt ps 1) (pt ps 0)) k)) (by decide) hg1 (fun k H3 R hk s3 hR=>?_) fun H1 s1 e1=>⟨by decide,by decide,fun g2 hg2=>jfR (n:=3) (fun k=>.int (cmp (dfr (pt ps 2) (pt ps 0)) k)) (by decide) hg2 (fun k H3 R hk s3 hR=>?_) fun H2 s2 e2=>?_,?_⟩⟩
  . walk_at "rf"
    exact jgK (hA.2.1.keep s3) (hA.1.keep s3) cB cA hk (hR _ (Same.refl _))
  . walk_at "rf"
    exact jgK (hA.2.2.keep (s1.trans s3)) (hA.1.keep (s1.trans s3)) cC cA hk (hR _ (Same.refl _))
  . exact⟨ra,rb,rc,g1,g2,rfl,hA.keep (s1.trans s2),.inl (SqL.of (s2 _ _ e1)),.inl (SqL.of e2),s0.trans (s1.trans s2)⟩
  rintro σ2 H2 ⟨ra,rb,rc,g1,g2,rfl,hA,l1,l2,s2⟩;walk_at "rf";refine⟨⟨g1,g2,_,_,rfl,l1,l2,je3 (jgJ cA cB),je3 (jgJ cA cC),fun g3 H3 n3' s3 e3=>⟨ra,rb,rc,g3,_,_,rfl,hA.keep s3,e3,s2.trans s3⟩⟩,?_⟩;have bn:(nup ps).bd 1011:=jnB (jgJ cA cB) (jgJ cA cC);have fx:Fit (nup ps).x:=bn.1.fit;have fy:Fit (nup ps).y:=bn.2.1.fit;have fz:Fit (nup ps).z:=bn.2.2.fit;have fw:Fit (pt ps 0).w:=cA.1.2.2.2.fit;rintro σ3 H3 ⟨ra,rb,rc,g3,o4,o5,rfl,hA,e3,s3⟩;walk_at "rf";refine⟨?_,?_⟩
  . have kn:=SqT.of (K:=K) e3
    have ka:=hA.1.sq (K:=K);refine ixT kn (i:=0) rfl (ixT ka (i:=3) rfl ⟨_,rfl,_,rfl,fx,fw,ixT kn (i:=1) rfl (ixT ka (i:=3) rfl ⟨_,rfl,_,rfl,fy,fw,ixT kn (i:=2) rfl (ixT ka (i:=3) rfl ⟨_,rfl,_,rfl,fz,fw,by decide,fun p hp=>?_⟩)⟩)⟩);have j:=Same.new hp (.lst [.int ((nup ps).x*(pt ps 0).w),.int ((nup ps).y*(pt ps 0).w),.int ((nup ps).z*(pt ps 0).w)]);exact⟨ra,rb,rc,g3,p,o4,o5,rfl,hA.keep j,j _ _ e3,s3.noneN hp,jaf,s3.trans j⟩
  rintro σ4 H4 ⟨ra,rb,rc,g3,fl,o4,o5,rfl,hA,e3,nf,ef,s4⟩;walk_at "rf";refine⟨.inl ⟨_,SqL.of ef⟩,by decide,by decide,fun acc hacc=>jfR (n:=3) (fun k=>.int (cmp (nup ps) k*cmp ⟨(pt ps 0).x,(pt ps 0).y,(pt ps 0).z⟩ k)) (by decide) hacc (fun k H5 R hk s5 hR=>?_) fun H5 s5 e5=>?_,?_⟩
  . have fn:Fit (cmp (nup ps) k):=(jeh bn k).fit
    have fa:Fit (cmp ⟨(pt ps 0).x,(pt ps 0).y,(pt ps 0).z⟩ k):=(jeh (v:=⟨(pt ps 0).x,(pt ps 0).y,(pt ps 0).z⟩) ⟨cA.1.1,cA.1.2.1,cA.1.2.2.1⟩ k).fit;walk_at "rf";exact ixT (SqT.of (s5 _ _ e3)) (jme (nup ps) hk) (ixT (hA.1.keep s5).sq (jmf ⟨(pt ps 0).x,(pt ps 0).y,(pt ps 0).z⟩ (pt ps 0).w hk) ⟨_,rfl,_,rfl,fn,fa,hR _ (Same.refl _)⟩)
  . refine⟨[_,_,_],SqL.of e5,fl,_,_,rfl,rfl,s5 _ _ ef,jaM (show 3 < 1000 by decide),?_⟩
    refine⟨fl,_,_,_,_,_,_,rfl,jaf,Same.keepN (s4.trans s5) nf _⟩
  rintro σ5 H5 ⟨fl,o1,o2,o3,o4,o5,o6,rfl,ef,s5⟩;walk_at "rf";have kf:=SqL.of (K:=K) ef;refine⟨ixL kf (i:=0) rfl (ixL kf (i:=1) rfl ⟨_,_,rfl,ixL kf (i:=2) rfl (ixL kf (i:=3) rfl ⟨_,_,rfl,_,_,rfl,?_⟩)⟩),?_⟩
  . refine⟨fl,o1,o2,o3,o4,o5,o6,?_,ef,s5⟩
    rw[gcd4];rfl
  rintro σ6 H6 ⟨fl,o1,o2,o3,o4,o5,o6,rfl,ef,s6⟩;walk_at "rf";obtain⟨k0,hk0,nk0⟩:∃k,k<3/\(fo4 ps).getD k 0≠0:=by
    obtain⟨m0,m1,m2⟩:=jkH (pt ps 0) (pt ps 1) (pt ps 2);have aw:=cA.2;have nw:(pt ps 0).w≠0:=by omega
    refine xap fun z=>na ?_;have z0:(nup ps).x*(pt ps 0).w=0:=xap fun h=>z ⟨0,by decide,h⟩;have z1:(nup ps).y*(pt ps 0).w=0:=xap fun h=>z ⟨1,by decide,h⟩;have z2:(nup ps).z*(pt ps 0).w=0:=xap fun h=>z ⟨2,by decide,h⟩;have y0:=(xat.mp z0).resolve_right nw;have y1:=(xat.mp z1).resolve_right nw;have y2:=(xat.mp z2).resolve_right nw;change (upr _ _).x=0 at y0;change (upr _ _).y=0 at y1;change (upr _ _).z=0 at y2;rw[m0] at y0;rw[m1] at y1;rw[m2] at y2;exact⟨(xat.mp y0).resolve_left nw,(xat.mp (show (pt ps 0).w*jav 1 (pt ps 0) (pt ps 1) (pt ps 2)=0 by omega)).resolve_left nw,(xat.mp y2).resolve_left nw⟩
  have kf6:=SqL.of (K:=K) ef;refine⟨?_,?_⟩
  . refine⟨fl,_,rfl,kf6,fun p hp=>?_⟩
    have ec:jeq ((fo4 ps).map V.int) none (some 3)=((fo4 ps).take 3).map V.int:=(jdH (f:=3)).trans rfl;rw[ec];have j:=Same.new hp (.lst (((fo4 ps).take 3).map V.int));have ep:upd H6 p (.lst (((fo4 ps).take 3).map V.int)) p=some (.lst (((fo4 ps).take 3).map V.int)):=jaf;have ef':=j _ _ ef;have s7:=s6.trans j;generalize upd H6 p (.lst (((fo4 ps).take 3).map V.int))=H7 at ep ef' s7 |-
    refine⟨p,rfl,⟨_,SqL.of ep⟩,fun acc hacc=>jk7 (zs:=((fo4 ps).take 3).map V.int) (fun k=>.int ((fo4 ps).getD k 0)) (fun k=>!decide ((fo4 ps).getD k 0=0)) (by show 3<1000;decide) hacc (SqL.of ep) (fun k z H8 R hz s8 hR=>?_) (fun k z H8 R hz hc' s8 hR=>?_) fun H8 s8 e8=>?_⟩
    . obtain⟨rfl,_⟩:=jnC hz
      walk_at "rf";exact hR _ (Same.refl _)
    . obtain⟨rfl,_⟩:=jnC hz
      walk_at "rf";exact hR _ (Same.refl _)
    . have mem:k0∈(List.range (((fo4 ps).take 3).map V.int).length).filter fun k=>!decide ((fo4 ps).getD k 0=0):=xbT.mpr ⟨xbh.mpr hk0,by rw[decide_eq_false nk0]; rfl⟩
      have ff':∀j js,(List.range (((fo4 ps).take 3).map V.int).length).filter (fun k=>!decide ((fo4 ps).getD k 0=0))=j::js->j<3/\(!decide ((fo4 ps).getD j 0=0))=true/\∀i,i<j->(!decide ((fo4 ps).getD i 0=0))=false:=fun j js h=>fil3 (p:=fun k=>!decide ((fo4 ps).getD k 0=0)) h;generalize (List.range (((fo4 ps).take 3).map V.int).length).filter (fun k=>!decide ((fo4 ps).getD k 0=0))=js at mem e8 ff';cases js with
      | nil=>cases mem
      | cons j0 js =>
        have ff:=ff' j0 js rfl;have F1:Fst ps j0:=⟨ff.1,(fun i hi=>by simpa using ff.2.2 i hi),by simpa using ff.2.1⟩;refine ixL (SqL.of e8) (i:=0) (v:=.int ((fo4 ps).getD j0 0)) (jaI (j:=0) rfl) ⟨_,rfl,jcK (fun c=>?_) fun c=>?_⟩
        . exact⟨fl,_,o1,o2,o3,o4,o5,o6,rfl,⟨j0,F1,.inr ⟨c,by omega⟩⟩,s8 _ _ ef',s7.trans s8⟩
        . exact⟨fl,_,o1,o2,o3,o4,o5,o6,rfl,⟨j0,F1,.inl ⟨by omega,rfl⟩⟩,s8 _ _ ef',s7.trans s8⟩
  rintro σ7 H7 ⟨fl,g,o1,o2,o3,o4,o5,o6,rfl,⟨j1,F1,sg⟩,ef,s7⟩;have eg:g=gl (fo4 ps)\/g=-gl (fo4 ps):=sg.elim (fun h=>.inl h.2) fun h=>.inr h.2;walk_at "rf";obtain⟨bf0,bf1,bf2,bf3⟩:=fo_bd cA bn;have hG:∀i∈fo4 ps,g ∣ i:=fun i hi=>by
    rcases eg with rfl | rfl
    . exact jaP hi
    . exact Int.neg_dvd.mpr (jaP hi)
  have mk:(fo4 ps).getD k0 0∈fo4 ps:=by
    match k0,hk0 with
    | 0,_=>exact .head _
    | 1,_=>exact .tail _ (.head _)
    | 2,_=>exact .tail _ (.tail _ (.head _))
  have bk:Bd 1266 ((fo4 ps).getD k0 0):=by
    match k0,hk0 with
    | 0,_=>exact bf0
    | 1,_=>exact bf1
    | 2,_=>exact bf2
  have g0:g≠0:=fun e=>nk0 (by have:=hG _ mk;rw[e] at this;exact Int.zero_dvd.mp this);have fg:Fit g:=Bd.fit (n:=1266) (xa1 (Nat.le_of_dvd (Int.natAbs_pos.mpr nk0) (xbN.mpr (hG _ mk))) bk);have qd:∀{n:Nat} {i:Int},i∈fo4 ps->Bd n i->Bd n (i.fdiv g):=fun {n i} hi hb=>by
    rw[xbD (hG i hi)];exact Bd.div hb
  refine⟨⟨_,SqL.of ef⟩,fun acc hacc=>compL (fun v=>match v with | .int i=>.int (i.fdiv g) | v=>v) (by show 4<1000;decide) hacc (SqL.of ef) (fun z H8 R hz s8 hR=>?_) fun H8 s8 e8=>?_⟩
  . obtain⟨i,hi,rfl⟩:=xaG.mp hz
    walk_at "rf";exact⟨g0,fg,hR _ (Same.refl _)⟩
  . refine⟨_,SqL.of e8,fun t ht=>?_⟩
    have j:=Same.new ht (.tup (((fo4 ps).map V.int).map fun v=>match v with | .int i=>.int (i.fdiv g) | v=>v));have mu:∀{i:Int},i∈fo4 ps->g*i.fdiv g=i:=fun {i} hi=>by
      rw[xbD (hG i hi)];exact xaN (hG i hi)
    exact q t _ _ _ _ _ (s7.trans (s8.trans j)) jaf ⟨g,g0,mu (.head _),mu (.tail _ (.head _)),mu (.tail _ (.tail _ (.head _))),mu (.tail _ (.tail _ (.tail _ (.head _))))⟩ (jiZ cA na F1 sg)
theorem cg_of (h:Cn p):Cg p:=⟨⟨Bd.mono h.1.1,Bd.mono h.1.2.1,Bd.mono h.1.2.2,Bd.mono h.2.1⟩,h.2.2⟩
def spHg:Sp:=fun vs H Q _=>∃(r e:Addr) (a b c d:Int) (p:Pt),vs=[.ref r,.ref e]/\H r=some (.tup [.int a,.int b,.int c,.int d])/\(Fit a/\Fit b/\Fit c/\Fit d)/\Is4 H e p/\Q (.int (hgt a b c d p)) H
theorem ok_hg (T:Tx K mg t1 t2) (F:At K mg "_law_height" jb6 ["plane","spot"] []):jam P w K mg base CX0 1 "_law_height" ["plane","spot"] [] spHg:=by
 refine F.ok jcT (fun vs H Q E h=>?_) (fun f cdv A outer s H vs Q E hr h=>?_)
 ·obtain⟨_,_,_,_,_,_,_,rfl,_⟩:=h;rfl
 obtain⟨r,e,a,b,c,d,p,rfl,er,⟨fa,fb,fc,fd⟩,he,q⟩:=h;have S:=jcT;refine⟨_,(jag (jat (i:=2) S.nd rfl (Or.inl rfl) (jar jbk (jar jax (jal jan (pv 0) jab) (jal jan (pv 1) jab)) (jar jax (jal jan (pv 0) jab) (jal jan (pv 1) jab))))
  (jai (jap (jar jbh (jar jbk (pv 2) (jar jax (jal jan (pv 0) jab) (jal jan (pv 1) jab))) (jar jax (jal jan (pv 0) jab) (jal jan (pv 1) jab)))))),?_⟩
 have k1:SqT K H r [.int a,.int b,.int c,.int d]:=SqT.of er;have k2:=he.sq (K:=K);have f1:Fit p.x:=(Bd.mono he.2.1:Bd 650 p.x).fit;have f2:Fit p.y:=(Bd.mono he.2.2.1:Bd 650 p.y).fit;have f3:Fit p.z:=(Bd.mono he.2.2.2.1:Bd 650 p.z).fit;have f4:Fit p.w:=(Bd.mono he.2.2.2.2:Bd 650 p.w).fit;walk_at "rf";walk_at "gf";exact q
def jhk (n:Nat):Sp:=fun vs H Q _=>∃(v:V) (T:Tr) (c:Nat),vs=[v]/\TrAt H v T/\T.ht<n/\T.Good c/\c<900/\T.pcs.length<=800/\∀(l:Addr) (H':Hp) (rs:List Addr),H l=none->Same H H'->H' l=some (.lst (rs.map V.ref))->All2 (PcAt H') rs T.pcs->Q (.ref l) H'
theorem jeE {l1 l2:Addr} {rs1 rs2:List Addr} (e1:H l1=some (.lst (rs1.map V.ref))) (e2:H l2=some (.lst (rs2.map V.ref))) (h:rs1.length+rs2.length<1000) (q:∀(p:Addr) (H':Hp),H p=none->Same H H'->H' p=some (.lst ((rs1++rs2).map V.ref))->Q (.ref p) H'):rCat (.ref l1) (.ref l2) H Q :=
 ⟨l1,l2,rs1.map V.ref,rs2.map V.ref,rfl,rfl,e1,e2,xaO (jaM (show (rs1.map V.ref).length+(rs2.map V.ref).length<1000 by rw[xaa,xaa];exact h)),fun p hp=>q p _ hp (Same.new hp _) (by rw[xal];exact jaf)⟩
theorem All2.keepP {rs:List Addr} {xs:List (Int × List Pt)} (h:All2 (PcAt H) rs xs) (s:SameT H H'):All2 (PcAt H') rs xs:=h.mono fun _ _ k=>PcAt.keep k s
theorem jjZ (T:Tx K mg t1 t2) (F:At K mg "pieces_of" jbA ["tree"] []) (dg:jam P w K mg base CX0 (7+n) "pieces_of" ["tree"] [] (jhk n)):jam P w K mg base CX0 (7+n+1) "pieces_of" ["tree"] [] (jhk (n+1)):=by
  refine F.ok jcv (fun vs H Q E h=>?_) (fun f cdv Ar outer s H vs Q E hr h=>?_)
  . obtain⟨v,T,c,rfl,_⟩:=h
    rfl
  obtain⟨v,Tt,c,rfl,hT,hn,hG,c9,l8,q⟩:=h;have S:=jcv;refine⟨_,(jag (jaQ (jaq jdw (pv 0) jaW (jay _))
    (jai (jap (jaZ jac)))
    jaw)
    (jai (jap (jar jca (jar jca (jaJ jbi rfl T.m_list boot_list (jaa (jal jan (pv 0) jab) jac jas)) (jah dg (hr.mono (by omega)) rfl jau (jaa (jal jan (pv 0) jab) jac jas))) (jah dg (hr.mono (by omega)) rfl jau (jaa (jal jan (pv 0) jab) jac jas)))))),?_⟩
  walk_at "rf";cases hT with
  | nil =>
    rw[if_pos rfl];exact⟨xar _,fun p hp=>q p _ [] hp (Same.new hp _) jaf .nil⟩
  | nd et hg eh ah hb ha =>
    rename_i t g h rs vb va pl here b a
    rw[if_neg (by intro z;cases z)];obtain⟨_,_,gb,ga⟩:=hG;have hl:here.length+b.pcs.length+a.pcs.length<=800:=by
      have z:(here++b.pcs++a.pcs).length<=800:=l8;rw[xae,xae] at z;exact z
    have hh:b.ht<n/\a.ht<n:=by
      have z:max b.ht a.ht+1<n+1:=hn;omega
    have kt:=SqT.of (K:=K) et;refine ixT kt (i:=1) rfl ⟨_,rfl,_,.inr (SqT.of eh),fun l1 n1=>?_⟩;refine jel n1 fun H1 j1 e1=>?_;refine ixT (SqT.of (j1 _ _ et)) (i:=2) rfl ⟨_,b,c,rfl,hb.keep j1.t,hh.1,gb,c9,by omega,fun l2 H2 rs2 n2 s2 e2 a2=>?_⟩;have q1:=ah.len;have q2:=a2.len;refine jeE (s2 _ _ e1) e2 (by omega) fun l3 H3 n3 s3 e3=>?_;have s13:=j1.trans (s2.trans s3);refine ixT (SqT.of (s13 _ _ et)) (i:=3) rfl ⟨_,a,c,rfl,ha.keep s13.t,hh.2,ga,c9,by omega,fun l4 H4 rs4 n4 s4 e4 a4=>?_⟩;have q4:=a4.len;refine jeE (s4 _ _ e3) e4 (by rw[xae];omega) fun l5 H5 n5 s5 e5=>?_;have s45:=s4.trans s5;exact q l5 H5 _ ((s13.trans s4).noneN n5) (s13.trans s45) e5 (((ah.keepP (s13.trans s45).t).app (a2.keepP (s3.trans s45).t)).app (a4.keepP s5.t))
def Tr.ord (o:Pt):Tr->List (Int × List Pt)
 | .nil=>[]
 | .nd p h b a=>if 0<hgt p.x p.y p.z p.w o then b.ord o++h++a.ord o else a.ord o++h++b.ord o
def jnG (n:Nat):Sp:=fun vs H Q _=>∃(v:V) (e:Addr) (T:Tr) (o:Pt) (c:Nat),vs=[v,.ref e]/\TrAt H v T/\Is4 H e o/\T.ht<n/\T.Good c/\c<900/\T.pcs.length<=800/\∀(l:Addr) (H':Hp) (rs:List Addr),H l=none->Same H H'->H' l=some (.lst (rs.map V.ref))->All2 (PcAt H') rs (T.ord o)->Q (.ref l) H'
theorem Tr.ord_len (o:Pt):∀T:Tr,(T.ord o).length=T.pcs.length
  | .nil=>rfl
  | .nd p h b a => by
    have h1:=b.ord_len o;have h2:=a.ord_len o;show (if 0<hgt p.x p.y p.z p.w o then b.ord o++h++a.ord o else a.ord o++h++b.ord o).length=(h++b.pcs++a.pcs).length;split<;>(simp only[xae];omega)
theorem sgn_iff {n:Int}:0<sgn n↔0<n:=⟨fun h=>xap fun z=>by have:=jm0 (n:=n) (by omega);omega,fun h=>by rw[sgn_p h];decide⟩
theorem jlZ (T:Tx K mg t1 t2) (F:At K mg "told_from" jbB ["tree","spot"] []) (de:jam P w K mg base CX0 2 "side_of" ["plane","spot"] [] jev) (dz:jam P w K mg base CX0 (7+n) "told_from" ["tree","spot"] [] (jnG n)):jam P w K mg base CX0 (7+n+1) "told_from" ["tree","spot"] [] (jnG (n+1)):=by
  refine F.ok jcw (fun vs H Q E h=>?_) (fun f cdv Ar outer s H vs Q E hr h=>?_)
  . obtain⟨v,e,T,o,c,rfl,_⟩:=h
    rfl
  obtain⟨v,e,Tt,o,c,rfl,hT,he,hn,hG,c9,l8,q⟩:=h;have S:=jcw;refine⟨_,(jag (jaQ (jaq jdw (pv 0) jaW (jay _))
    (jai (jap (jaZ jac)))
    jaw)
    (jag (jat (i:=2) S.nd rfl (Or.inl rfl) (jah dz (hr.mono (by omega)) rfl jau (jaa (jal jan (pv 0) jab) (jaa (pv 1) jac jae) jas)))
    (jag (jat (i:=3) S.nd rfl (Or.inl rfl) (jah dz (hr.mono (by omega)) rfl jau (jaa (jal jan (pv 0) jab) (jaa (pv 1) jac jae) jas)))
    (jag (jaQ (jaq jfM (jah de (hr.mono (by omega)) rfl jau (jaa (jal jan (pv 0) jab) (jaa (pv 1) jac jae) jas)) jab (jay _))
    (jai (jap (jar jca (jar jca (pv 2) (jaJ jbi rfl T.m_list boot_list (jaa (jal jan (pv 0) jab) jac jas))) (pv 3))))
    jaw)
    (jai (jap (jar jca (jar jca (pv 3) (jaJ jbi rfl T.m_list boot_list (jaa (jal jan (pv 0) jab) jac jas))) (pv 2)))))))),?_⟩
  walk_at "rf";cases hT with
  | nil =>
    rw[if_pos rfl];exact⟨xar _,fun p hp=>q p _ [] hp (Same.new hp _) jaf .nil⟩
  | nd et hg eh ah hb ha =>
    rename_i t g h rs vb va pl here b a
    rw[if_neg (by intro z;cases z)];obtain⟨gp,_,gb,ga⟩:=hG;have hl:here.length+b.pcs.length+a.pcs.length<=800:=by
      have z:(here++b.pcs++a.pcs).length<=800:=l8;rw[xae,xae] at z;exact z
    have hh:b.ht<n/\a.ht<n:=by
      have z:max b.ht a.ht+1<n+1:=hn;omega
    refine ixT (SqT.of et) (i:=2) rfl ⟨_,e,b,o,c,rfl,hb,he,hh.1,gb,c9,by omega,fun l1 H1 rs1 n1 s1 e1 a1=>?_⟩;refine ixT (SqT.of (s1 _ _ et)) (i:=3) rfl ⟨_,e,a,o,c,rfl,ha.keep s1.t,he.keep s1,hh.2,ga,c9,by omega,fun l2 H2 rs2 n2 s2 e2 a2=>?_⟩;have s12:=s1.trans s2;have f1:=s2 _ _ e1;have b1:=a1.keepP s2.t;have q0:=ah.len;have q1:=b1.len;have q2:=a2.len;rw[Tr.ord_len] at q1 q2;refine ixT (SqT.of (s12 _ _ et)) (i:=0) rfl ⟨g,e,pl.x,pl.y,pl.z,pl.w,o,rfl,(hg.keep s12).1,(Bd.mono gp.1.1:Bd 1990 pl.x),(Bd.mono gp.1.2.1:Bd 1990 pl.y),(Bd.mono gp.1.2.2:Bd 1990 pl.z),(Bd.mono gp.2:Bd 1990 pl.w),he.keep s12,_,rfl,?_⟩;change ∀(l:Addr) (H':Hp) (rs:List Addr),H l=none->Same H H'->H' l=some (.lst (rs.map V.ref))->All2 (PcAt H') rs (if 0<hgt pl.x pl.y pl.z pl.w o then b.ord o++here++a.ord o else a.ord o++here++b.ord o)->Q (.ref l) H' at q;have st:∀{l3:Addr},H2 l3=none->Same H2 (upd H2 l3 (.lst (rs.map V.ref)))/\upd H2 l3 (.lst (rs.map V.ref)) l3=some (.lst (rs.map V.ref)):=fun h=>⟨Same.new h _,jaf⟩;by_cases hp:0<hgt pl.x pl.y pl.z pl.w o
    . simp only[if_pos hp] at q
      rw[if_pos (sgn_iff.mpr hp)];refine ixT (SqT.of (s12 _ _ et)) (i:=1) rfl ⟨_,rfl,_,.inr (SqT.of (s12 _ _ eh)),fun l3 n3=>?_⟩;obtain⟨j3,e3⟩:=st n3;generalize upd H2 l3 (.lst (rs.map V.ref))=H3 at j3 e3 |-
      refine jeE (j3 _ _ f1) e3 (by omega) fun l4 H4 n4 s4 e4=>jeE e4 ((j3.trans s4) _ _ e2) (by rw[xae];omega) fun l5 H5 n5 s5 e5=>?_;have s35:=j3.trans (s4.trans s5);exact q l5 H5 _ ((s12.trans (j3.trans s4)).noneN n5) (s12.trans s35) e5 (((b1.keepP s35.t).app (ah.keepP (s12.trans s35).t)).app (a2.keepP s35.t))
    . simp only[if_neg hp] at q
      rw[if_neg (fun z=>hp (sgn_iff.mp z))];refine ixT (SqT.of (s12 _ _ et)) (i:=1) rfl ⟨_,rfl,_,.inr (SqT.of (s12 _ _ eh)),fun l3 n3=>?_⟩;obtain⟨j3,e3⟩:=st n3;generalize upd H2 l3 (.lst (rs.map V.ref))=H3 at j3 e3 |-
      refine jeE (j3 _ _ e2) e3 (by omega) fun l4 H4 n4 s4 e4=>jeE e4 ((j3.trans s4) _ _ f1) (by rw[xae];omega) fun l5 H5 n5 s5 e5=>?_;have s35:=j3.trans (s4.trans s5);exact q l5 H5 _ ((s12.trans (j3.trans s4)).noneN n5) (s12.trans s35) e5 (((a2.keepP s35.t).app (ah.keepP (s12.trans s35).t)).app (b1.keepP s35.t))
theorem ji0 (T:Tx K mg t1 t2) (F:At K mg "pieces_of" jbA ["tree"] []):∀n:Nat,jam P w K mg base CX0 (7+n) "pieces_of" ["tree"] [] (jhk n)
 | 0=>F.ok (k:=6) jcv (fun vs H Q E ⟨_,_,_,_,_,z,_⟩=>absurd z (xbn _)) fun f cdv Ar outer s H vs Q E hr ⟨_,_,_,_,_,z,_⟩=>absurd z (xbn _)
 | n+1=>jjZ T F (ji0 T F n)
theorem jnH (T:Tx K mg t1 t2) (F:At K mg "pieces_of" jbA ["tree"] []):jam P w K mg base CX0 16 "pieces_of" ["tree"] [] (jhk 9):=by
 exact ji0 T F 9
theorem jkI (T:Tx K mg t1 t2) (F:At K mg "told_from" jbB ["tree","spot"] []) (de:jam P w K mg base CX0 2 "side_of" ["plane","spot"] [] jev):∀n:Nat,jam P w K mg base CX0 (7+n) "told_from" ["tree","spot"] [] (jnG n)
 | 0=>F.ok (k:=6) jcw (fun vs H Q E ⟨_,_,_,_,_,_,_,_,z,_⟩=>absurd z (xbn _)) fun f cdv Ar outer s H vs Q E hr ⟨_,_,_,_,_,_,_,_,z,_⟩=>absurd z (xbn _)
 | n+1=>jlZ T F de (jkI T F de n)
theorem ok_tf (T:Tx K mg t1 t2) (F:At K mg "told_from" jbB ["tree","spot"] []) (de:jam P w K mg base CX0 2 "side_of" ["plane","spot"] [] jev):jam P w K mg base CX0 16 "told_from" ["tree","spot"] [] (jnG 9):=by
 exact jkI T F de 9
theorem ix17a:∀n,n<18->3<=n->∀a,a<n->(a+0) % n≠(a+1) % n/\(a+1) % n≠(a+2) % n/\(a+0) % n≠(a+2) % n:=by decide +kernel
theorem ix17b:∀n,n<18->3<=n->∀a,a<n->(a+(n-0)) % n≠(a+(n-1)) % n/\(a+(n-1)) % n≠(a+(n-2)) % n/\(a+(n-0)) % n≠(a+(n-2)) % n:=by decide +kernel
theorem jj0 (hw:1<=Z.w) (nz:Z.u.nz) (R:Rng us) (n9:us.length<=17) (r:RR (us.map (spt Z)) ps):¬jbC (pt ps 0) (pt ps 1) (pt ps 2):=by
 have ln:(us.map (spt Z)).length=us.length:=xaa _;have n3:=R.n3;obtain⟨hl,a,ha,d⟩:=r.dih (by omega) (by omega);rw[ln] at ha d;have i1:=ix17a us.length (by omega) n3 a ha;have i2:=ix17b us.length (by omega) n3 a ha;have md:∀i,i % us.length<us.length:=fun i=>xaC _ (by omega);rcases d with d | d
 ·rw[d 0 (by omega),d 1 (by omega),d 2 (by omega),ja3 (md _),ja3 (md _),ja3 (md _)];exact jcD hw nz (jjR R.tp (md _) (md _) (md _) i1.1 i1.2.1 i1.2.2)
 ·rw[d 0 (by omega),d 1 (by omega),d 2 (by omega),ja3 (md _),ja3 (md _),ja3 (md _)];exact jcD hw nz (jjR R.tp (md _) (md _) (md _) i2.1 i2.2.1 i2.2.2)
structure PcG (ps:List Pt):Prop where
 n3:3<=ps.length
 cg:∀p∈ps,Cg p
 na:¬jbC (pt ps 0) (pt ps 1) (pt ps 2)
theorem PcOk.g (h:PcOk ps):PcG ps:=by
 obtain⟨Z,vs,hZ,hF,l16,r⟩:=h;refine⟨by rw[r.len,xaa];exact hF.rg.n3,fun p hp=>?_,jj0 hZ.hw hZ.nz hF.rg (by omega) r⟩;obtain⟨v,hv,e⟩:=xaG.mp (r.mem.mp hp);rw[<- e];exact⟨hZ.sp v (hF.bi.vb v hv),jm7 hZ.hw (hF.rg.hz v hv)⟩
theorem PcG.c (h:PcG ps) (hi:i<3):Cg (pt ps i):=h.cg _ (jbJ (by have:=h.n3;omega))
def hz (ps:List Pt) (o:Pt):Int:=hgt (jav 0 (pt ps 0) (pt ps 1) (pt ps 2)) (-jav 1 (pt ps 0) (pt ps 1) (pt ps 2)) (jav 2 (pt ps 0) (pt ps 1) (pt ps 2)) (jav 3 (pt ps 0) (pt ps 1) (pt ps 2)) o
theorem jl0 {b c:Int} (h:¬(a=0/\b=0/\c=0)):∃x y z w g:Int,pln [a,b,c,d]=[x,y,z,w]/\g≠0/\g*x=a/\g*y=b/\g*z=c/\g*w=d:=by
 have gp:=gl4 (d:=d) h;have mu:∀{i:Int},i∈[a,b,c,d]->gl [a,b,c,d]*(i / gl [a,b,c,d])=i:=fun hi=>xaN (jaP hi);have ma:=mu (i:=a) (by simp);have mb:=mu (i:=b) (by simp);have mc:=mu (i:=c) (by simp);have md:=mu (i:=d) (by simp);have e:pln [a,b,c,d]=if plb (a / gl [a,b,c,d]) (b / gl [a,b,c,d]) (c / gl [a,b,c,d])=true then [a / gl [a,b,c,d],b / gl [a,b,c,d],c / gl [a,b,c,d],d / gl [a,b,c,d]] else [-(a / gl [a,b,c,d]),-(b / gl [a,b,c,d]),-(c / gl [a,b,c,d]),-(d / gl [a,b,c,d])]:=rfl;rw[e];generalize gl [a,b,c,d]=g at *
 by_cases k:plb (a / g) (b / g) (c / g)=true
 ·rw[if_pos k];exact⟨_,_,_,_,g,rfl,by omega,ma,mb,mc,md⟩
 ·rw[if_neg k];exact⟨_,_,_,_,-g,rfl,by omega,by rw[xbY];exact ma,by rw[xbY];exact mb,by rw[xbY];exact mc,by rw[xbY];exact md⟩
theorem jl1 {g z w b c:Int} (e1:g*x=a) (e2:g*y=b) (e3:g*z=c) (e4:g*w=d) (p:Pt):hgt a b c d p=g*hgt x y z w p:=by
 rw[<- e1,<- e2,<- e3,<- e4];unfold hgt;grind
theorem zero_mul {g:Int} (g0:g≠0) (e:y=g*x):x=0↔y=0:=⟨fun h=>by rw[e,h,xbf],fun h=>(xat.mp (show g*x=0 by omega)).resolve_left g0⟩
theorem jnI (h:PcG ps):∃x y z v:Int,pln (rgh (pt ps 0) (pt ps 1) (pt ps 2))=[x,y,z,v]/\Small x/\Small y/\Small z/\Small v/\∀o,hgt x y z v o=0↔hz ps o=0:=by
 obtain⟨⟨a1,a2,a3,a4⟩,_⟩:=h.c (i:=0) (by decide);obtain⟨⟨b1,b2,b3,b4⟩,_⟩:=h.c (i:=1) (by decide);obtain⟨⟨c1,c2,c3,c4⟩,_⟩:=h.c (i:=2) (by decide);have na:=h.na;unfold hz;have m0:Small (jav 0 (pt ps 0) (pt ps 1) (pt ps 2)):=Bd.mono (n:=759) (jfF (A:=252) (B:=252) (C:=252) a2 a3 a4 b2 b3 b4 c2 c3 c4);have m1:Small (-jav 1 (pt ps 0) (pt ps 1) (pt ps 2)):=Small.neg (Bd.mono (n:=759) (jfF (A:=252) (B:=252) (C:=252) a1 a3 a4 b1 b3 b4 c1 c3 c4));have m2:Small (jav 2 (pt ps 0) (pt ps 1) (pt ps 2)):=Bd.mono (n:=759) (jfF (A:=252) (B:=252) (C:=252) a1 a2 a4 b1 b2 b4 c1 c2 c4);have m3:Small (jav 3 (pt ps 0) (pt ps 1) (pt ps 2)):=Bd.mono (n:=759) (jfF (A:=252) (B:=252) (C:=252) a1 a2 a3 b1 b2 b3 c1 c2 c3);have nz:¬(jav 0 (pt ps 0) (pt ps 1) (pt ps 2)=0/\-jav 1 (pt ps 0) (pt ps 1) (pt ps 2)=0/\jav 2 (pt ps 0) (pt ps 1) (pt ps 2)=0):=fun ⟨z0,z1,z2⟩=>na ⟨z0,by omega,z2⟩;unfold rgh;obtain⟨x,y,z,v,e,s1,s2,s3,s4,_⟩:=jfy nz m0 m1 m2 m3;obtain⟨x',y',z',v',g,e',g0,i1,i2,i3,i4⟩:=jl0 (d:=jav 3 (pt ps 0) (pt ps 1) (pt ps 2)) nz;rw[e] at e';cases e';exact⟨x,y,z,v,e,s1,s2,s3,s4,fun o=>zero_mul g0 (jl1 i1 i2 i3 i4 o)⟩
theorem jnJ {n:Int} (h:n≠0):¬sgn n=0:=by
 unfold sgn;split
 ·decide
 ·split
  ·decide
  ·omega
def jnK:Sp:=fun vs H Q _=>∃(l e:Addr) (ts:List Addr) (pss:List (List Pt)) (o:Pt),vs=[.ref l,.ref e]/\H l=some (.lst (ts.map V.ref))/\All2 (BoAt H) ts pss/\(∀ps∈pss,PcG ps)/\Is4 H e o/\((∀ps∈pss,hz ps o≠0)->∀H',Same H H'->Q .non H')/\∀(k:Nat) (ps:List Pt),pss[k]?=some ps->hz ps o=0->(∀(j:Nat) (qs:List Pt),j<k->pss[j]?=some qs->hz qs o≠0)->∀H',Same H H'->Q (.int k) H'
theorem jnL (T:Tx K mg t1 t2) (F:At K mg "first_not_free" jbt ["boards","spot"] []) (dF:jam P w K mg base CX0 6 "plane_of" ["board"] [] jea) (de:jam P w K mg base CX0 2 "side_of" ["plane","spot"] [] jev):jam P w K mg base CX0 7 "first_not_free" ["boards","spot"] [] jnK:=by
 refine F.ok jbV (fun vs H Q E h=>?_) (fun f cdv A outer s H vs Q E hr h=>?_)
 ·obtain⟨_,_,_,_,_,rfl,_⟩:=h;rfl
 obtain⟨l,e,ts,pss,o,rfl,hl,hb,br,he,q0,q1⟩:=h;have S:=jbV;refine⟨_,(jag (jbx PassesOwn.never rfl (jld rfl T.m_enumerate (jaa (pv 0) jac jae)) (jcM rfl (jaC (jao (i:=2) S.nd rfl (Or.inl rfl)) (jaC (jao (i:=3) S.nd rfl (Or.inl rfl)) jbw)))
  (jai (jaQ (jaq jdF (jah de hr.m rfl jau (jaa (jah dF hr.m rfl jau (jaa (pv 3) jac jae)) (jaa (pv 1) jac jae) jaN)) jab (jay _))
  (jai (jap (pv 2)))
  jaw)))
  (jai (jap jaW))),?_⟩
 walk_at "rf";refine⟨⟨_,SqL.of hl⟩,jjr (K:=K) (a:=l) (xs:=ts.map V.ref) (fun i σ J=>Same H J/\(∀(j:Nat) (qs:List Pt),j<i->pss[j]?=some qs->hz qs o≠0)/\∃(o3 o4:Option V),σ=[some (.ref l),some (.ref e),o3,o4]) ⟨fun _ _ h=>h,fun _ _ h=>absurd h (xbn _),none,none,rfl⟩ (fun i σ J _ h=>SqL.of (h.1 _ _ hl)) ?_ ?_⟩
 ·rintro i x σ J T' hx ⟨sJ,nz,o3,o4,rfl⟩ hT;rw[xag] at hx;obtain⟨r,hr',rfl⟩:=xaH.mp hx;obtain⟨ps,ep,rs,hc1,hc2⟩:=hb.getA hr';have G:=br ps (xaw ep);refine jel hT fun J1 uT eT=>?_;have s2:=sJ.trans uT;walk_at "rf";refine⟨_,SqT.of eT,rfl,_,_,rfl,_,_,rfl,rfl,?_⟩;obtain⟨x,y,z,v,pe,m1,m2,m3,m4,zz⟩:=jnI G;refine⟨r,rs,ps,rfl,s2 _ _ hc1,hc2.keep s2.t,G.n3,G.na,fun g J2 s3 eg=>?_⟩;rw[pe] at eg;refine⟨g,e,x,y,z,v,o,rfl,eg,m1,m2,m3,m4,he.keep (s2.trans s3),?_⟩;try walk_at "rf"
  by_cases c:hgt x y z v o=0
  ·rw[if_pos (show sgn (hgt x y z v o)=0 by rw[c];rfl)];exact q1 i _ ep ((zz o).mp c) nz _ (s2.trans s3)
  ·rw[if_neg (jnJ c)];refine⟨s2.trans s3,fun j qs hj hq=>?_,_,rfl⟩;rcases Nat.lt_or_ge j i with d | d
   ·exact nz j qs d hq
   ·obtain rfl:j=i:=by omega
    rw[ep] at hq;cases hq;exact fun z=>c ((zz o).mpr z)
 ·rintro σ J ⟨sJ,nz,o3,o4,rfl⟩;walk_at "rf";refine q0 (fun ps hp=>?_) _ sJ;obtain⟨i,hi,rfl⟩:=xbt.mp hp;exact nz i _ (by rw[xaa,hb.len];exact hi) (xac hi)
def inner:Stmt->Stmt
 | .ClassDef (body:=b) ..=>b.getD 0 (.Pass ⟨0,0,0,0⟩)
 | s=>s
abbrev ji1:Stmt:=top 7
abbrev jb8:Stmt:=inner ji1
theorem jgL:FnScope ["self","board"] ["self","board"] (jad jb8):=by walk_at "sc"
structure Tc (K:PySem.W.Frag) (mg:Str->Option Value) (t1 t2:Tok) (cs:Nat->Addr) (S fN C:Addr):Prop extends Tx K mg t1 t2 where
 m_ValueError:mg "ValueError"=none
 m_SightError:mg "SightError"=some (.ref S)
 m_NotFree:mg "NotFree"=some (.ref C)
 m_NoName:mg "NoName"=some (.ref (cs 0))
 m_TooMany:mg "TooMany"=some (.ref (cs 1))
 o_NotFree:ExcI K C fN "ValueError" "ValueError.__new__" "ValueError.__init__" [.type "ValueError",.type "Exception",.type "BaseException",.type "object"]
 xc:XCls K C
 xa:XAttr K C "board"
 em:PySem.W.exmOne K (.ref C) (.ref S)=some true
 kF:PySem.W.kitOne K (.ref C) (.ref C)=some true
 kV:PySem.W.kitOne K (.ref C) (.type "ValueError")=some true
 kO:PySem.W.kitAny K (.ref C) (((List.range 2).map cs).map Value.ref)=some false
variable {cs:Nat->Addr}
theorem Tc.r_NotFree {C:Addr} (_:Tc K mg t1 t2 cs S fN C):RelV (.ref C) (.ref C):=rfl
theorem Tc.r_NoName {C:Addr} (_:Tc K mg t1 t2 cs S fN C):RelV (.ref (cs 0)) (.ref (cs 0)):=rfl
theorem Tc.r_TooMany {C:Addr} (_:Tc K mg t1 t2 cs S fN C):RelV (.ref (cs 1)) (.ref (cs 1)):=rfl
def jkJ (f:Str) (C:Addr):Sp:=fun vs H Q _=>∃(a:Addr) (n:Int),vs=[.ref a,.int n]/\H a=some (ji4 a C)/\∀dx,H dx=none->Q .non (upd (upd H dx (.xd [(f,.int n)])) a (jhm a C dx))
theorem jj1 {fd:FuncData} {C:Addr} (T:Tc K mg t1 t2 cs SE fN C) (F:FunD K "__init__" "NotFree.__init__" jb8 fN fd .none):FnOk P w K mg base CX0 1 fN fd ["self","board"] (jkJ "board" C):=by
 refine F.ok jgL (fun vs H Q E h=>?_) (fun cdv A outer s H vs Q E hr h=>?_)
 ·obtain⟨a,n,rfl,_⟩:=h;rfl
 obtain⟨a,n,rfl,ha,q⟩:=h;have S:=jgL;refine⟨_,jai (jlf (pv 0) (pv 1)),?_⟩;exact⟨_,rfl,_,rfl,a,C,rfl,ha,T.xa,fun dx hd=>q dx hd⟩
def NE (H:Hp) (E:XK) (C:Addr) (k:Int):Prop:=∀dx H',Same H H'->H' dx=some (.xd [("board",.int k)])->E (.ref C) (some dx) H'
theorem NE.keep {E:XK} {C:Addr} (h:NE H E C k) (s:Same H H1):NE H1 E C k:=fun dx H' s' e=>h dx H' (s.trans s') e
theorem NE.go {E:XK} {C q dx:Addr} (h:NE H E C k) (s1:Same H H1) (hq:H1 q=none) (hd:upd H1 q (ji4 q C) dx=none):E (.ref C) (some dx) (del (upd (upd (upd H1 q (ji4 q C)) dx (.xd [("board",.int k)])) q (jhm q C dx)) q):=by
 have dq:dx≠q:=fun c=>by rw[c,jaf] at hd;cases hd
 have hd1:H1 dx=none:=by rw[jaA dq] at hd;exact hd
 refine h dx _ (fun c o hc=>?_) ?_
 ·have h1:=s1 c o hc;have cq:c≠q:=fun z=>by rw[z,hq] at h1;cases h1
  have cd:c≠dx:=fun z=>by rw[z,hd1] at h1;cases h1
  rw[jdW cq,jaA cq,jaA cd,jaA cq];exact h1
 ·rw[jdW dq,jaA dq];exact jaf
theorem ji2 {rs:List Addr} {xs:List (Int × List Pt)} (h:All2 (PcAt H) rs xs):∃ts:List Addr,All2 (BoAt H) ts (xs.map (·.2))/\ts.length=rs.length/\∀(i:Nat) (r:Addr),rs[i]?=some r->∃(k:Int) (t:Addr),H r=some (.tup [.int k,.ref t])/\ts[i]?=some t:=by
  induction h with
  | nil=>exact⟨[],.nil,rfl,fun i r z=>by cases z⟩
  | cons h _ ih =>
    obtain⟨t,e,b⟩:=h;obtain⟨ts,i1,i2,i3⟩:=ih;refine⟨t::ts,.cons b i1,congrArg (·+1) i2,fun i r z=>?_⟩;cases i with
    | zero=>cases z;exact⟨_,t,e,rfl⟩
    | succ i=>exact i3 i r z
theorem jhl {α:Type} (d:α):∀xs:List α,(List.range xs.length).map (fun i=>xs.getD i d)=xs:=fun xs=>by
 apply xbG;intro i;rw[xag];by_cases h:i<xs.length
 ·rw[List.getElem?_range h,xac h];show some (xs.getD i d)=_;rw[xab,xac h];rfl
 ·rw[xaL (by rw[xbj];omega),xaL (by omega)];rfl
def jnM (C:Addr):Sp:=fun vs H Q E=>∃(v:V) (e:Addr) (T:Tr) (o:Pt) (c:Nat),vs=[v,.ref e]/\TrAt H v T/\Is4 H e o/\T.ht<9/\T.Good c/\c<900/\T.pcs.length<=800/\(∀x∈T.pcs,PcG x.2)/\(∀(k:Nat) (x:Int × List Pt),T.pcs[k]?=some x->hz x.2 o=0->(∀(j:Nat) (y:Int × List Pt),j<k->T.pcs[j]?=some y->hz y.2 o≠0)->NE H E C x.1)/\((∀x∈T.pcs,hz x.2 o≠0)->∀(l:Addr) (H':Hp) (rs:List Addr),H l=none->Same H H'->H' l=some (.lst (rs.map V.ref))->All2 (PcAt H') rs (T.ord o)->Q (.ref l) H')
theorem jnN {C:Addr} {fdN:FuncData} (T:Tc K mg t1 t2 cs SE fN C) (F_NotFree:FnOk P w K mg base CX0 1 fN fdN ["self","board"] (jkJ "board" C)) (b_NotFree:Binds K fdN ["self","board"] []) (F:At K mg "painted_by" jbq ["tree","spot"] []) (dg:jam P w K mg base CX0 16 "pieces_of" ["tree"] [] (jhk 9)) (dQ:jam P w K mg base CX0 7 "first_not_free" ["boards","spot"] [] jnK) (dz:jam P w K mg base CX0 16 "told_from" ["tree","spot"] [] (jnG 9)):jam P w K mg base (XOk P w) 17 "painted_by" ["tree","spot"] [] (jnM C):=by
  refine F.okX jdd (fun vs H Q E h=>?_) (fun f cdv A outer s H vs Q E hr h=>?_)
  . obtain⟨_,_,_,_,_,rfl,_⟩:=h
    rfl
  obtain⟨v,e,Tt,o,c,rfl,hT,he,h9,hG,c9,l8,gP,qk,q⟩:=h;have S:=jdd;refine⟨_,(jag (jat (i:=2) S.nd rfl (Or.inl rfl) (jah dg hr.m rfl jau (jaa (pv 0) jac jae)))
    (jag (jat (i:=3) S.nd rfl (Or.inl rfl) (jah dQ hr.m rfl jau (jaa (jid rfl (N':=["number","board"]) (ix:=[]) (xs0:=["number","board"]) ⟨rfl,rfl,by decide +kernel,by decide +kernel,by decide +kernel,(show ∀y:Str × NameKind,y∈_->y.2=NameKind.free->(jad jbq).names.lookup y.1=some .cell\/(jad jbq).names.lookup y.1=some .free from by decide +kernel),.nil⟩ (jbW (pv 2)) (fun _ _ _ _=>jk9 (K:=K) (n:=2) rfl rfl (jaC (jao (i:=0) (show (["number","board"]:List Str).Nodup from by decide +kernel) rfl (Or.inl rfl)) (jaC (jao (i:=1) (show (["number","board"]:List Str).Nodup from by decide +kernel) rfl (Or.inl rfl)) jbw))) (fun _ _ _ _=>jbe) (fun _ _ _ _=>(pv 1))) (jaa (pv 1) jac jae) jcP)))
    (jag (jaQ (jaq jfN (pv 3) jaW (jay _))
    (jai (jib rfl T.o_NotFree (jlh T.o_NotFree F_NotFree hr.m rfl T.m_NotFree b_NotFree jau (jaa (jal jan (jal ix_list (pv 2) (pv 3)) jab) jac jas)) jjs))
    jaw)
    (jai (jap (jah dz hr.m rfl jau (jaa (pv 0) (jaa (pv 1) jac jae) jae))))))),?_⟩
  walk_at "rf";refine⟨v,Tt,c,rfl,hT,h9,hG,c9,l8,fun l1 H1 rs n1 s1 e1 a1=>⟨l1,rfl,⟨_,SqL.of e1⟩,fun acc hacc=>?_⟩⟩;obtain⟨ts,t1',t2',t3'⟩:=ji2 a1;have lrs:=a1.len;refine jlM (fun i=>(ts.map V.ref).getD i .non) (by rw[xaa];omega) hacc (SqL.of e1) (fun i z v0 H3 R hz l0 s3 hR=>?_) (fun H2 s2 e2=>?_) (fun z σ H A B hAB ⟨a,xs,e,hq,hl,v0,r0,e0,v1,r1,e1,e2,k⟩=>⟨a,xs,e,hq,hl,v0,r0,e0,v1,r1,e1,e2,hAB _ _ k⟩)
  . rw[xag] at hz
    obtain⟨r,hr',rfl⟩:=xaH.mp hz;obtain⟨k,t,er,et⟩:=t3' i r hr';have ef:(ts.map V.ref).getD i .non=.ref t:=by rw[xab,xag,et];rfl
    rw[ef] at hR
    match v0,l0 with
    | [u0, u1], _ =>
      refine⟨r,_,rfl,SqT.of (s3 _ _ er),rfl,_,_,rfl,_,_,rfl,rfl,⟨[some (.int k),some (.ref t)],rfl,rfl⟩,?_⟩;walk_at "rf";exact hR _ (Same.refl _)
  have el:(List.range (rs.map V.ref).length).map (fun i=>(ts.map V.ref).getD i .non)=ts.map V.ref:=by
    rw[xaa,<- t2',<- xaa (as:=ts) V.ref];exact jhl V.non _
  rw[el] at e2;have s12:=s1.trans s2;have he2:=he.keep s12;refine⟨acc,e,ts,Tt.pcs.map (·.2),o,rfl,e2,t1'.mono fun _ _ h=>BoAt.keep h s2.t,fun ps hp=>?_,he2,fun nz H3 s3=>?_,fun k ps hk z nz H3 s3=>?_⟩
  . obtain⟨x,hx,rfl⟩:=xaG.mp hp
    exact gP x hx
  . have s13:=s12.trans s3
    refine jcK (fun _=>?_) fun h=>absurd rfl h;exact⟨v,e,Tt,o,c,rfl,hT.keep s13.t,he.keep s13,h9,hG,c9,l8,fun l H' rs' n' s' e' a'=>q (fun x hx=>nz _ (xaG.mpr ⟨x,hx,rfl⟩)) l H' rs' (s13.noneN n') (s13.trans s') e' a'⟩
  . have s13:=s12.trans s3
    rw[xag] at hk;obtain⟨x,hx,rfl⟩:=xaH.mp hk;have dk:=qk k x hx z fun j y hj hy=>nz j _ hj (by rw[xag,hy];rfl);obtain⟨r,hr',t,er,_⟩:=a1.get hx;have er3:=(s2.trans s3) _ _ er;have e13:=(s2.trans s3) _ _ e1;refine jcK (fun h=>by cases h) fun _=>?_;simp only[L2.jmD];try walk_at "rf"
    have ek:(rs.map V.ref)[k]?=some (.ref r):=by rw[xag,hr'];rfl
    refine ixL (SqL.of e13) (i:=(k:Int)) (jaI (j:=k) ek) (ixT (SqT.of er3) (i:=0) rfl ⟨by decide,fun p hp=>⟨p,x.1,rfl,jaf,fun dx hd=>⟨rfl,s13.noneN hp,dx,jaf,dk.go s13 hp hd⟩⟩⟩)
def jf2:Sp:=fun vs H Q _=>∃(v:V) (e:Addr) (T:Tr) (o:Pt) (c:Nat),vs=[v,.ref e]/\TrAt H v T/\Is4 H e o/\T.ht<9/\T.Good c/\c<900/\T.pcs.length<=800/\(∀x∈T.pcs,PcG x.2)/\(∀(k:Nat) (x:Int × List Pt),T.pcs[k]?=some x->hz x.2 o=0->(∀(j:Nat) (y:Int × List Pt),j<k->T.pcs[j]?=some y->hz y.2 o≠0)->∀(t:Addr) (H':Hp),Same H H'->H' t=some (.tup [.str "refused",.int x.1])->Q (.ref t) H')/\((∀x∈T.pcs,hz x.2 o≠0)->∀(t l:Addr) (H':Hp) (rs:List Addr),H l=none->Same H H'->H' t=some (.tup [.str "told",.ref l])->H' l=some (.lst (rs.map V.ref))->All2 (PcAt H') rs (T.ord o)->Q (.ref t) H')
theorem jj2 {C:Addr} (T:Tc K mg t1 t2 cs SE fN C) (F:At K mg "_law_painted" jbQ ["tree","spot"] []) (Dd:jam P w K mg base (XOk P w) 17 "painted_by" ["tree","spot"] [] (jnM C)):jam P w K mg base CX0 18 "_law_painted" ["tree","spot"] [] jf2:=by
 refine F.ok jcC (fun vs H Q E h=>?_) (fun f cdv A outer s H vs Q E hr h=>?_)
 ·obtain⟨_,_,_,_,_,rfl,_⟩:=h;rfl
 obtain⟨v,e,Tt,o,c,rfl,hT,he,h9,hG,c9,l8,gP,qr,qt⟩:=h;have S:=jcC;refine⟨_,(jag (jat (i:=2) S.nd rfl (Or.inl rfl) jaW)
  (jag (jat (i:=3) S.nd rfl (Or.inl rfl) jaW)
  (jag (jic (i:=4) (jk3 jhY) rfl T.m_SightError S.nd rfl rfl (Or.inl rfl) (jk2 (i:=3) S.nd rfl (Or.inl rfl) (jjh Dd hr.m rfl (jaa (pv 0) (jaa (pv 1) jac jae) jae))) (fun _=>(jai (jat (i:=2) S.nd rfl (Or.inl rfl) (pv 4)))))
  (jag (jaQ (jaq jdw (pv 2) jaW (jay _))
  (jai (jap (jaH (jaa jdJ (jaa (pv 3) jac jae) jaj))))
  jaw)
  (jag (jaQ (PW.pt (jc8 (jcL (jbu (jaB (jb1 (K:=K) rfl) rfl T.m_isinstance boot_isinstance (jaa (pv 2) (jaa (jdL rfl T.m_NotFree T.r_NotFree) jac jae) jae)))) (jc8 (jcL (jbu (jaB (jb1 (K:=K) rfl) rfl T.m_isinstance boot_isinstance (jaa (pv 2) (jaa (jch (v:=.ty "ValueError") rfl T.m_ValueError jdV rfl) jac jae) jae)))) (jc7 (jbu (jaB (jb1 (K:=K) rfl) rfl T.m_isinstance boot_isinstance (jaa (pv 2) (jaa (jaH (jaa (jdL rfl T.m_NoName T.r_NoName) (jaa (jdL rfl T.m_TooMany T.r_TooMany) jac jae) jae)) jac jaE) jae)))))))
  (jai (jap (jaH (jaa jdJ (jaa jaW jac jaj) jaj))))
  jaw)
  (jai (jap (jaH (jaa jdJ (jaa (jlk (K:=K) rfl (pv 2)) jac jmE) jaj))))))))),?_⟩
 walk_at "rf";refine⟨v,e,Tt,o,c,rfl,hT,he,h9,hG,c9,l8,gP,fun k x hx z0 hj dx H1 s1 ed=>⟨C,rfl,dx,rfl,T.em,fun ea hea=>?_⟩,fun nz l H1 rs n1 s1 e1 a1=>?_⟩
 ·simp only[L2.jlj,L2.Ends.gone];try walk_at "rf"
  have se:=Same.new hea (jbs ea C dx);have ee:upd H1 ea (jbs ea C dx) ea=some (jbs ea C dx):=jaf;generalize upd H1 ea (jbs ea C dx)=H2 at se ee |-
  refine⟨C,dx,ee,T.xc,true,.inl T.kF,?_⟩;rw[if_neg (by decide)];refine⟨C,dx,ee,T.xc,true,T.kV,?_⟩;rw[if_neg (by decide)];refine⟨by decide,fun tp ht=>?_⟩;refine jel ht fun H3 sj et=>?_;refine⟨C,dx,sj _ _ ee,T.xc,false,.inr ⟨[cs 0,cs 1],et,T.kO⟩,?_⟩;rw[if_neg (by decide)];simp only[L2.jlj];try walk_at "rf"
  refine⟨C,dx,sj _ _ ee,_,(se.trans sj) _ _ ed,T.xc,T.xa,_,rfl,?_⟩;exact⟨by decide,fun p hp=>qr k x hx z0 hj p _ (s1.trans (se.trans (sj.trans (Same.new hp _)))) jaf⟩
 ·refine⟨by decide,fun p hp=>?_⟩;have j:=Same.new hp (.tup [.str "told",.ref l]);exact qt nz p l _ rs n1 (s1.trans j) jaf (j _ _ e1) (a1.keepP j.t)
def jnO:Sp:=fun vs H Q _=>∃(t:Addr) (z:Sht × Nat) (i j:Int),vs=[.ref t,.int i,.int j]/\RwAt 8 H t z/\i.natAbs<=4/\j.natAbs<=4/\∀(g:Addr) (H':Hp) (o:Pt),Same H H'->Is4 H' g o->Q (.ref g) H'
theorem jnP (T:Tx K mg t1 t2) (F:At K mg "_law_on_plane" ja4 ["raw","i","j"] []) (dm:jam P w K mg base CX0 3 "made_spot" ["x","y","z","w"] [] jjK):jam P w K mg base CX0 4 "_law_on_plane" ["raw","i","j"] [] jnO:=by
 refine F.ok jcd (fun vs H Q E h=>?_) (fun f cdv A outer s H vs Q E hr h=>?_)
 ·obtain⟨_,_,_,_,rfl,_⟩:=h;rfl
 obtain⟨t,z,i,j,rfl,hz,bi,bj,q⟩:=h;have S:=jcd;refine⟨_,(jag (jcN (pv 0) (jcM rfl (jaC (jao (i:=3) S.nd rfl (Or.inr rfl)) (jaC (jao (i:=4) S.nd rfl (Or.inr rfl)) (jaC (jao (i:=5) S.nd rfl (Or.inr rfl)) (jaC (jao (i:=6) S.nd rfl (Or.inl rfl)) jbw))))))
  (jag (jb2 (i:=7) rfl S.nd rfl rfl (N':=["k","base","i","one","j","other"]) (ix:=[3,1,4,2,5]) ⟨rfl,rfl,by decide +kernel,by decide +kernel,by decide +kernel,(show ∀y:Str × NameKind,y∈_->y.2=NameKind.free->(jad ja4).names.lookup y.1=some .cell\/(jad ja4).names.lookup y.1=some .free from by decide +kernel),(.cons rfl (.inl rfl) rfl (.cons rfl (.inl rfl) rfl (.cons rfl (.inl rfl) rfl (.cons rfl (.inl rfl) rfl (.cons rfl (.inl rfl) rfl .nil)))))⟩ (jaX rfl T.m_range (jaa jab jac jaj)) (fun _ _ _ _=>jao (i:=0) (show (["k","base","i","one","j","other"]:List Str).Nodup from by decide +kernel) rfl (Or.inl rfl)) (fun _ _ _ _=>jbe) (fun _ _ _ _=>(jar jbk (jal (jaR (K:=K) rfl) (pv 1) (pv 0)) (jar jax (jal (jaR (K:=K) rfl) (pv 1) jab) (jar jbk (jar jax (pv 2) (jal (jaR (K:=K) rfl) (pv 3) (pv 0))) (jar jax (pv 4) (jal (jaR (K:=K) rfl) (pv 5) (pv 0))))))))
  (jai (jap (jah dm hr.m rfl jau (jaa (jal ix_list (pv 7) jab) (jaa (jal ix_list (pv 7) jab) (jaa (jal ix_list (pv 7) jab) (jaa (jal jan (pv 3) jab) jac jas) jas) jas) jas)))))),?_⟩
 obtain⟨⟨b,c,d,h1,h2,h3,h4,_⟩,hz2⟩:=hz;walk_at "rf";refine⟨_,SqT.of h1,rfl,_,_,rfl,_,_,rfl,_,_,rfl,_,_,rfl,rfl,by decide,by decide,fun acc hacc=>?_⟩;have B:=hz2.b.bds (by decide);have bi':Bd 3 i:=by unfold Bd;omega
 have bj':Bd 3 j:=by unfold Bd;omega
 have bs:∀k,Bd 27 (cmp ⟨z.1.s.x,z.1.s.y,z.1.s.z⟩ k):=fun k=>jeh (v:=⟨z.1.s.x,z.1.s.y,z.1.s.z⟩) B.1 k;have bc:∀k,Bd 20 (cmp ⟨z.1.c.x,z.1.c.y,z.1.c.z⟩ k):=fun k=>jeh (v:=⟨z.1.c.x,z.1.c.y,z.1.c.z⟩) B.2.2.1 k;have bd:∀k,Bd 20 (cmp ⟨z.1.d.x,z.1.d.y,z.1.d.z⟩ k):=fun k=>jeh (v:=⟨z.1.d.x,z.1.d.y,z.1.d.z⟩) B.2.2.2 k;have ij:∀k,Bd 24 (i*cmp ⟨z.1.c.x,z.1.c.y,z.1.c.z⟩ k+j*cmp ⟨z.1.d.x,z.1.d.y,z.1.d.z⟩ k):=fun k=>Bd.add (n:=23) (Bd.mul bi' (bc k)) (Bd.mul bj' (bd k));have sm:∀k,Bd 650 (cmp ⟨z.1.s.x,z.1.s.y,z.1.s.z⟩ k+z.1.w*(i*cmp ⟨z.1.c.x,z.1.c.y,z.1.c.z⟩ k+j*cmp ⟨z.1.d.x,z.1.d.y,z.1.d.z⟩ k)):=fun k=>Bd.mono (Bd.add (n:=27) (bs k) (Bd.mono (Bd.mul B.2.1 (ij k))));refine jfR (n:=3) (fun k=>.int (cmp ⟨z.1.s.x,z.1.s.y,z.1.s.z⟩ k+z.1.w*(i*cmp ⟨z.1.c.x,z.1.c.y,z.1.c.z⟩ k+j*cmp ⟨z.1.d.x,z.1.d.y,z.1.d.z⟩ k))) (by decide) hacc (fun k H3 R hk s3 hR=>?_) fun H2 s2 e2=>?_
 ·walk_at "rf";refine ixT (SqT.of (s3 _ _ h2)) (jmf ⟨z.1.s.x,z.1.s.y,z.1.s.z⟩ z.1.w hk) (ixT (SqT.of (s3 _ _ h2)) (i:=3) rfl (ixT (SqT.of (s3 _ _ h3)) (jme ⟨z.1.c.x,z.1.c.y,z.1.c.z⟩ hk) ?_));exact⟨_,rfl,bi'.fit,(bc k).fit,ixT (SqT.of (s3 _ _ h4)) (jme ⟨z.1.d.x,z.1.d.y,z.1.d.z⟩ hk) ⟨_,rfl,bj'.fit,(bd k).fit,_,rfl,B.2.1.fit,(ij k).fit,_,rfl,hR _ (Same.refl _)⟩⟩
 ·refine ixL (SqL.of e2) (i:=0) rfl (ixL (SqL.of e2) (i:=1) rfl (ixL (SqL.of e2) (i:=2) rfl (ixT (SqT.of (s2 _ _ h2)) (i:=3) rfl ?_)));refine⟨⟨_,_,_,_⟩,rfl,?_,?_,fun g H' s' hg=>q g H' _ (s2.trans s') hg⟩
  ·exact⟨sm 0,sm 1,sm 2,(Bd.mono B.2.1:Bd 650 z.1.w)⟩
  ·have:=hz2.b.w1;show z.1.w≠0;omega
def jnQ:Sp:=fun vs H Q _=>∃(L R:Addr) (rs:List Addr) (zs:List (Sht × Nat)),vs=[.ref L,.ref R]/\H R=some (.lst (rs.map V.ref))/\All2 (RwAt 8 H) rs zs/\rs≠[]/\rs.length<=9/\R≠L/\Sta H L/\∀(g:Addr) (H':Hp) (o:Pt),SameB L H H'->Is4 H' g o->Q (.ref g) H'
theorem jnR (T:Tx K mg t1 t2) (F:At K mg "_law_eye" jdu ["state","raws"] []) (db:jam P w K mg base CX0 1 "_law_next" ["state","many"] [] jno) (dl:jam P w K mg base CX0 2 "_law_arrow" ["state","span"] [] jlQ) (dR:jam P w K mg base CX0 4 "_law_on_plane" ["raw","i","j"] [] jnO) (dm:jam P w K mg base CX0 3 "made_spot" ["x","y","z","w"] [] jjK):jam P w K mg base CX0 5 "_law_eye" ["state","raws"] [] jnQ:=by
 refine F.ok jd9 (fun vs H Q E h=>?_) (fun f cdv A outer s H vs Q E hr h=>?_)
 ·obtain⟨_,_,_,_,rfl,_⟩:=h;rfl
 obtain⟨L,R,rs,zs,rfl,eR,aR,ne,l9,RL,b0,q⟩:=h;have S:=jd9;refine⟨_,(jag (jaQ (jaq jdF (jah db hr.m rfl jau (jaa (pv 0) (jaa jab jac jaj) jae)) jab (jay _))
  (jag (jat (i:=2) S.nd rfl (Or.inl rfl) (jal ix_list (pv 1) (jah db hr.m rfl jau (jaa (pv 0) (jaa (jaB jaL rfl T.m_len PySem.boot_len (jaa (pv 1) jac jae)) jac jaN) jae))))
  (jag (jat (i:=3) S.nd rfl (Or.inl rfl) (jar jbh (jah db hr.m rfl jau (jaa (pv 0) (jaa jab jac jaj) jae)) jab))
  (jai (jap (jah dR hr.m rfl jau (jaa (pv 2) (jaa (pv 3) (jaa (jar jbh (jah db hr.m rfl jau (jaa (pv 0) (jaa jab jac jaj) jae)) jab) jac jbm) jae) jae))))))
  jaw)
  (jag (jcN (jah dl hr.m rfl jau (jaa (pv 0) (jaa (jal ix_list (jaZ (jaa jab (jaa jab (jaa (jar jhx jab jab) jac jbm) jaj) jaj)) (jah db hr.m rfl jau (jaa (pv 0) (jaa jab jac jaj) jae))) jac jas) jae)) (jcM rfl (jaC (jao (i:=4) S.nd rfl (Or.inl rfl)) (jaC (jao (i:=5) S.nd rfl (Or.inl rfl)) (jaC (jao (i:=6) S.nd rfl (Or.inl rfl)) jbw)))))
  (jai (jap (jah dm hr.m rfl jau (jaa (pv 4) (jaa (pv 5) (jaa (pv 6) (jaa (jal ix_list (jaZ (jaa jab (jaa jab (jaa jab (jaa jab jac jaj) jaj) jaj) jaj)) (jah db hr.m rfl jau (jaa (pv 0) (jaa jab jac jaj) jae))) jac jas) jae) jae) jae)))))),?_⟩
 walk_at "rf";refine⟨L,4,rfl,b0,by decide,by decide,fun H1 d1 s1 b1 _ _=>⟨rfl,?_⟩⟩;have lz:=aR.len;have k1:=SqL.of (K:=K) (s1 _ _ RL eR);have rl:0<rs.length:=List.length_pos_iff.mpr ne;refine jcK (fun _=>⟨_,.inl k1,L,_,rfl,b1,by rw[xaa];omega,by rw[xaa];omega,fun H2 d2 s2 b2 p2 q2=>?_⟩) fun _=>?_
 ·rw[xaa] at q2;have k2:=s2 _ _ RL (s1 _ _ RL eR);obtain⟨n2,rfl⟩:∃n:Nat,d2=(n:Int):=⟨d2.toNat,by omega⟩;have l2:n2<rs.length:=by omega
  obtain⟨x,hx,rx⟩:=aR.getA (xac l2);have s12:=s1.trans s2;have rx2:=rx.keep (b0.t s12);refine ixL (SqL.of k2) (i:=(n2:Int)) (jaI (j:=n2) (by rw[xag,xac l2];rfl)) ⟨L,9,rfl,b2,by decide,by decide,fun H3 d3 s3 b3 p3 q3=>⟨_,rfl,L,9,rfl,b3,by decide,by decide,fun H4 d4 s4 b4 p4 q4=>⟨_,rfl,?_⟩⟩⟩;have s34:=s3.trans s4;exact⟨_,x,_,_,rfl,rx2.keep (b2.t s34),by omega,by omega,fun g H5 o s5 hg=>q g H5 o (s12.trans (s34.trans s5.b)) hg⟩
 ·refine⟨by unfold CPow;decide,by decide,fun p hp=>?_⟩;have nL:∀{J:Hp} {p:Addr},Sta J L->J p=none->p≠L:=fun b h z=>by
   obtain⟨_,_,h1,_⟩:=b;rw[z,h1] at h;cases h
  have pL:=nL b1 hp;refine jel hp fun H2 j1 e1=>?_;refine⟨L,3,rfl,b1.keep j1,by decide,by decide,fun H3 d3 s3 b3 p3 q3=>?_⟩;obtain⟨n3,rfl⟩:∃n:Nat,d3=(n:Int):=⟨d3.toNat,by omega⟩;obtain⟨a,ha,la,lb⟩:∃a:Int,[V.int 6,.int 20,.int (10^Int.toNat 6)][n3]?=some (.int a)/\0<=a/\a<=1000000:=by
   have:n3=0\/n3=1\/n3=2:=by omega
   rcases this with rfl | rfl | rfl
   ·exact⟨6,rfl,by decide,by decide⟩
   ·exact⟨20,rfl,by decide,by decide⟩
   ·exact⟨10^Int.toNat 6,rfl,by decide,by decide⟩
  refine ixL (SqL.of (s3 _ _ pL e1)) (i:=(n3:Int)) (jaI (j:=n3) ha) ⟨L,a,rfl,b3,la,by omega,fun t H4 v nt s4 b4 et ⟨v1,v2,v3⟩=>⟨t,rfl,_,SqT.of et,rfl,_,_,rfl,_,_,rfl,_,_,rfl,rfl,by decide,fun p2 hp2=>?_⟩⟩;have pL2:=nL b4 hp2;refine jel hp2 fun H5 j5 e5=>?_;refine⟨L,4,rfl,b4.keep j5,by decide,by decide,fun H6 d6 s6 b6 p6 q6=>?_⟩;obtain⟨n6,rfl⟩:∃n:Nat,d6=(n:Int):=⟨d6.toNat,by omega⟩;obtain⟨u,hu,lu,lv⟩:∃a:Int,[V.int 1,.int 1,.int 2,.int 7][n6]?=some (.int a)/\1<=a/\a<=7:=by
   have:n6=0\/n6=1\/n6=2\/n6=3:=by omega
   rcases this with rfl | rfl | rfl | rfl
   ·exact⟨1,rfl,by decide,by decide⟩
   ·exact⟨1,rfl,by decide,by decide⟩
   ·exact⟨2,rfl,by decide,by decide⟩
   ·exact⟨7,rfl,by decide,by decide⟩
  have s26:=s1.trans (j1.b.trans (s3.trans (s4.trans (j5.b.trans s6))));have sm:∀x:Int,x.natAbs<=a.natAbs->Bd 650 x:=fun x h=>Bd.mono (n:=20) (by unfold Bd;omega);refine ixL (SqL.of (s6 _ _ pL2 e5)) (i:=(n6:Int)) (jaI (j:=n6) hu) ⟨⟨v.x,v.y,v.z,u⟩,rfl,⟨sm _ v1,sm _ v2,sm _ v3,(Bd.mono (n:=3) (by unfold Bd;omega):Bd 650 u)⟩,by show u≠0;omega,fun g H' s' hg=>q g H' _ (s26.trans s'.b) hg⟩
theorem Tr.Good.pcs_ok {c:Nat}:∀{T:Tr},T.Good c->∀x∈T.pcs,PcOk x.2
  | .nil,_,_,hx=>nomatch hx
  | .nd p h b a, ⟨_, ⟨ho, _⟩, gb, ga⟩, x, hx => by
    have hx:x∈h++b.pcs++a.pcs:=hx;rcases xaJ.mp hx with hx | hx
    . rcases xaJ.mp hx with hx | hx
      . exact ho x hx
      . exact gb.pcs_ok x hx
    . exact ga.pcs_ok x hx
theorem Tr.Good.pcs_g {c:Nat} {T:Tr} (h:T.Good c):∀x∈T.pcs,PcG x.2:=fun x hx=>(h.pcs_ok x hx).g
def spWh:Sp:=fun vs H Q _=>∃n:Int,vs=[.int n]/\Q (.bl true) H
theorem ok_wh (T:Tx K mg t1 t2) (F:At K mg "_law_whole" jcr ["found"] []):jam P w K mg base CX0 1 "_law_whole" ["found"] [] spWh:=by
 refine F.ok jdh (fun vs H Q E h=>?_) (fun f cdv A outer s H vs Q E hr h=>?_)
 ·obtain⟨a,rfl,_⟩:=h;rfl
 obtain⟨n,rfl,q⟩:=h;have S:=jdh;refine⟨_,(jai (jap (je9 (jaB jbf rfl T.m_isinstance boot_isinstance (jaa (pv 0) (jaa (jch (v:=.ty "int") rfl T.m_int boot_int rfl) jac jae) jae)) (jf6 (jmn (jaB jbf rfl T.m_isinstance boot_isinstance (jaa (pv 0) (jaa (jch (v:=.ty "bool") rfl T.m_bool boot_bool rfl) jac jae) jae))))))),?_⟩;walk_at "rd";exact⟨_,.int n,_,rfl,iteT ⟨_,.int n,_,rfl,q⟩⟩
def jnS:Sp:=fun vs H Q _=>∃(r:Addr) (p:Pt),vs=[.ref r]/\Is4 H r p/\∀H',Same H H'->Q (.bl true) H'
theorem ok_is (T:Tx K mg t1 t2) (F:At K mg "_law_is_spot" ja9 ["found"] []) (dD:jam P w K mg base CX0 1 "_law_whole" ["found"] [] spWh):jam P w K mg base CX0 2 "_law_is_spot" ["found"] [] jnS:=by
 refine F.ok jcB (fun vs H Q E h=>?_) (fun f cdv A outer s H vs Q E hr h=>?_)
 ·obtain⟨r,p,rfl,_⟩:=h;rfl
 obtain⟨r,p,rfl,hp,q⟩:=h;have S:=jcB;refine⟨_,(jai (jap (je9 (jaB jbf rfl T.m_isinstance boot_isinstance (jaa (pv 0) (jaa (jch (v:=.ty "tuple") rfl T.m_tuple boot_tuple rfl) jac jae) jae)) (je9 (jeH jdF (jaB jaL rfl T.m_len PySem.boot_len (jaa (pv 0) jac jae)) jab (jay _)) (jf6 (jaB (jbK rfl) rfl T.m_all boot_all (jaa (jba rfl (N':=["one"]) (ix:=[]) ⟨rfl,rfl,by decide +kernel,by decide +kernel,by decide +kernel,(show ∀y:Str × NameKind,y∈_->y.2=NameKind.free->(jad ja9).names.lookup y.1=some .cell\/(jad ja9).names.lookup y.1=some .free from by decide +kernel),.nil⟩ (jdM (pv 0)) (fun _ _ _ _=>jao (i:=0) (show (["one"]:List Str).Nodup from by decide +kernel) rfl (Or.inl rfl)) (fun _ _ _ _=>jbe) (fun _ _ _ _=>(jah dD hr.m rfl jau (jaa (pv 0) jac jae)))) jac jcP))))))),?_⟩;have k4:SqT K H r [.int p.x,.int p.y,.int p.z,.int p.w]:=hp.sq;walk_at "rf";refine⟨_,.tup hp.1,_,rfl,?_⟩;rw[if_pos (by decide)];refine⟨_,.inr k4,?_⟩;rw[if_pos (show (((([V.int p.x,V.int p.y,V.int p.z,V.int p.w]:List V).length:Nat):Int))=4 from rfl)];refine⟨⟨_,k4⟩,fun acc hacc=>?_⟩;refine jjj (fun _=>.bl true) (by show 4<1000;decide) hacc k4 (fun z J R hz s3 hR=>?_) fun J j2 e2=>?_
 ·obtain⟨i,rfl⟩:∃i,z=V.int i:=by
   simp only[xaq,xbv,or_false] at hz;rcases hz with rfl | rfl | rfl | rfl<;>exact⟨_,rfl⟩
  walk_at "rf";exact⟨i,rfl,hR _ (Same.refl _)⟩
 ·exact⟨[true,true,true,true],SqL.of e2,q _ j2⟩
theorem jl2 {rs:List Addr} (h:Sps H rs ps) (m:r∈rs):∃p,Is4 H r p:=by
  induction h with
  | nil=>cases m
  | cons h _ ih =>
    rcases xaq.mp m with rfl | m
    . exact⟨_,h⟩
    . exact ih m
theorem jgM (xs:List V):(xs.map fun _=>V.bl true)=(xs.map fun _=>true).map V.bl:=by rw[xbq];rfl
theorem jgN (xs:List V):(xs.map fun _=>true).all id=true:=by
 induction xs with
 | nil=>rfl
 | cons _ _ ih=>exact ih
def spIP:Sp:=fun vs H Q _=>∃(r:Addr) (x:Int × List Pt),vs=[.ref r]/\PcAt H r x/\x.2.length<=100/\∀H',Same H H'->Q (.bl true) H'
theorem ok_ip (T:Tx K mg t1 t2) (F:At K mg "_law_is_piece" ja5 ["found"] []) (dD:jam P w K mg base CX0 1 "_law_whole" ["found"] [] spWh) (df:jam P w K mg base CX0 2 "_law_is_spot" ["found"] [] jnS):jam P w K mg base CX0 3 "_law_is_piece" ["found"] [] spIP:=by
 refine F.ok jce (fun vs H Q E h=>?_) (fun f cdv A outer s H vs Q E hr h=>?_)
 ·obtain⟨r,p,rfl,_⟩:=h;rfl
 obtain⟨r,⟨k,ps⟩,rfl,⟨b,e1,rs,e2,e3⟩,l100,q⟩:=h;have S:=jce;refine⟨_,(jag (jaQ (PW.pt (jc8 (jcL (jbu (jaB jbf rfl T.m_isinstance boot_isinstance (jaa (pv 0) (jaa (jch (v:=.ty "tuple") rfl T.m_tuple boot_tuple rfl) jac jae) jae)))) (jc8 (jaq jdO (jaB jaL rfl T.m_len PySem.boot_len (jaa (pv 0) jac jae)) jab (jay _)) (jc7 (jcL (jbu (jah dD hr.m rfl jau (jaa (jal jan (pv 0) jab) jac jas))))))))
  (jai (jap jc6))
  jaw)
  (jai (jap (je9 (jaB jbf rfl T.m_isinstance boot_isinstance (jaa (jal jan (pv 0) jab) (jaa (jch (v:=.ty "tuple") rfl T.m_tuple boot_tuple rfl) jac jae) jas)) (jf6 (jaB (jbK rfl) rfl T.m_all boot_all (jaa (jba rfl (N':=["one"]) (ix:=[]) ⟨rfl,rfl,by decide +kernel,by decide +kernel,by decide +kernel,(show ∀y:Str × NameKind,y∈_->y.2=NameKind.free->(jad ja5).names.lookup y.1=some .cell\/(jad ja5).names.lookup y.1=some .free from by decide +kernel),.nil⟩ (jdM (jal jan (pv 0) jab)) (fun _ _ _ _=>jao (i:=0) (show (["one"]:List Str).Nodup from by decide +kernel) rfl (Or.inl rfl)) (fun _ _ _ _=>jbe) (fun _ _ _ _=>(jah df hr.m rfl jau (jaa (pv 0) jac jae)))) jac jcP))))))),?_⟩
 have k1:SqT K H r [.int k,.ref b]:=SqT.of e1;walk_at "rf";have l100':ps.length<=100:=l100;have lrs:=e3.len;refine⟨_,.tup e1,_,rfl,?_⟩;rw[if_neg (by decide)];refine⟨_,.inr k1,?_⟩;rw[if_pos (show (((([V.int k,V.ref b]:List V).length:Nat):Int))=2 from rfl)];refine ixT k1 (i:=0) rfl ⟨k,rfl,_,rfl,?_⟩;rw[if_neg (by decide)];refine ixT k1 (i:=1) rfl ⟨_,.tup e2,_,rfl,?_⟩;rw[if_pos (by decide)];refine ixT k1 (i:=1) rfl ⟨b,rfl,⟨_,SqT.of e2⟩,fun acc hacc=>?_⟩;refine jjj (fun _=>.bl true) (by rw[xaa];show rs.length<1000;have:rs.length=ps.length:=lrs;omega) hacc (SqT.of e2) (fun z J R hz s3 hR=>?_) fun J j2 e4=>?_
 ·obtain⟨r',hr',rfl⟩:=xaG.mp hz;obtain⟨p,hp⟩:=jl2 e3 hr';walk_at "rf";exact⟨r',p,rfl,hp.keep s3,fun H' s'=>hR _ s'⟩
 ·refine⟨(rs.map V.ref).map fun _=>true,SqL.of (e4.trans (congrArg (fun l=>some (HO.lst l)) (jgM _))),?_⟩;rw[jgN];exact q _ j2
def jnT (n:Nat):Sp:=fun vs H Q _=>∃(v:V) (T:Tr) (c:Nat),vs=[v]/\TrAt H v T/\T.ht<n/\T.Good c/\c<900/\∀H',Same H H'->Q (.bl true) H'
theorem jl3 (T:Tx K mg t1 t2) (F:At K mg "_law_is_tree" jaV ["found"] []) (df:jam P w K mg base CX0 2 "_law_is_spot" ["found"] [] jnS) (dj:jam P w K mg base CX0 3 "_law_is_piece" ["found"] [] spIP) (du:jam P w K mg base CX0 (7+n) "_law_is_tree" ["found"] [] (jnT n)):jam P w K mg base CX0 (7+n+1) "_law_is_tree" ["found"] [] (jnT (n+1)):=by
 refine F.ok jbE (fun vs H Q E h=>?_) (fun f cdv Ar outer s H vs Q E hr h=>?_)
 ·obtain⟨v,T,c,rfl,_⟩:=h;rfl
 obtain⟨v,Tt,c,rfl,hT,hn,hG,c9,q⟩:=h;have S:=jbE;refine⟨_,(jag (jaQ (jaq jdw (pv 0) jaW (jay _))
  (jai (jap jc6))
  jaw)
  (jag (jaQ (PW.pt (jc8 (jcL (jbu (jaB jbf rfl T.m_isinstance boot_isinstance (jaa (pv 0) (jaa (jch (v:=.ty "tuple") rfl T.m_tuple boot_tuple rfl) jac jae) jae)))) (jc8 (jaq jdO (jaB jaL rfl T.m_len PySem.boot_len (jaa (pv 0) jac jae)) jab (jay _)) (jc7 (jcL (jbu (jah df (hr.mono (by omega)) rfl jau (jaa (jal jan (pv 0) jab) jac jas))))))))
  (jai (jap jc6))
  jaw)
  (jag (jaQ (PW.pt (jc8 (jcL (jbu (jaB jbf rfl T.m_isinstance boot_isinstance (jaa (jal jan (pv 0) jab) (jaa (jch (v:=.ty "tuple") rfl T.m_tuple boot_tuple rfl) jac jae) jas)))) (jc7 (jcL (jbu (jaB (jbK rfl) rfl T.m_all boot_all (jaa (jba rfl (N':=["one"]) (ix:=[]) ⟨rfl,rfl,by decide +kernel,by decide +kernel,by decide +kernel,(show ∀y:Str × NameKind,y∈_->y.2=NameKind.free->(jad jaV).names.lookup y.1=some .cell\/(jad jaV).names.lookup y.1=some .free from by decide +kernel),.nil⟩ (jdM (jal jan (pv 0) jab)) (fun _ _ _ _=>jao (i:=0) (show (["one"]:List Str).Nodup from by decide +kernel) rfl (Or.inl rfl)) (fun _ _ _ _=>jbe) (fun _ _ _ _=>(jah dj (hr.mono (by omega)) rfl jau (jaa (pv 0) jac jae)))) jac jcP)))))))
  (jai (jap jc6))
  jaw)
  (jai (jap (je9 (jah du (hr.mono (by omega)) rfl jau (jaa (jal jan (pv 0) jab) jac jas)) (jf6 (jah du (hr.mono (by omega)) rfl jau (jaa (jal jan (pv 0) jab) jac jas))))))))),?_⟩
 walk_at "rf";refine jcK (fun e=>?_) fun e=>?_
 ·exact q H (Same.refl _)
 cases hT with
 | nil=>exact absurd rfl e
 | @nd t g h rs vb va pl here B A h1 h2 h3 h4 h5 h6 =>
 obtain⟨g1,⟨g2,g3⟩,g4,g5⟩:=hG;have lh:=h4.len;have hh:max B.ht A.ht+1<n+1:=hn;have k1:SqT K H t [.ref g,.ref h,vb,va]:=SqT.of h1;refine⟨_,.tup h1,_,rfl,?_⟩;rw[if_neg (by decide)];refine⟨t,rfl,_,.inr k1,?_⟩;rw[if_pos (show (((([V.ref g,V.ref h,vb,va]:List V).length:Nat):Int))=4 from rfl)];refine ixT k1 (i:=0) rfl ⟨g,pl,rfl,h2,fun H1 s1=>⟨_,rfl,?_⟩⟩;rw[if_neg (by decide)];refine ixT (SqT.of (s1 _ _ h1)) (i:=1) rfl ⟨_,.tup (s1 _ _ h3),_,rfl,?_⟩;rw[if_neg (by decide)];refine ixT (SqT.of (s1 _ _ h1)) (i:=1) rfl ⟨h,rfl,⟨_,SqT.of (s1 _ _ h3)⟩,fun acc hacc=>?_⟩;refine jjj (fun _=>.bl true) (by rw[xaa];omega) hacc (SqT.of (s1 _ _ h3)) (fun z J R hz s3 hR=>?_) fun J j2 e4=>?_
 ·obtain⟨r',hr',rfl⟩:=xaG.mp hz;obtain⟨i,hi⟩:=List.getElem?_of_mem hr';obtain⟨x,hx,hp⟩:=h4.getA hi;obtain⟨Z,vs,_,_,l16,r16⟩:=g2 x (xaw hx);have lx:=r16.len;rw[xaa] at lx;walk_at "rf";exact⟨r',x,rfl,hp.keep (s1.trans s3).t,by omega,fun H' s'=>hR _ s'⟩
 ·refine⟨(rs.map V.ref).map fun _=>true,SqL.of (e4.trans (congrArg (fun l=>some (HO.lst l)) (jgM _))),?_⟩;rw[jgN,if_neg (by decide)];have s2:=s1.trans j2;refine ixT (SqT.of (s2 _ _ h1)) (i:=2) rfl ⟨vb,B,c,rfl,h5.keep s2.t,by omega,g4,c9,fun H5 s5=>⟨_,rfl,?_⟩⟩;rw[if_pos rfl];exact ixT (SqT.of ((s2.trans s5) _ _ h1)) (i:=3) rfl ⟨va,A,c,rfl,h6.keep (s2.trans s5).t,by omega,g5,c9,fun H6 s6=>q H6 (s2.trans (s5.trans s6))⟩
theorem jkK (T:Tx K mg t1 t2) (F:At K mg "_law_is_tree" jaV ["found"] []) (df:jam P w K mg base CX0 2 "_law_is_spot" ["found"] [] jnS) (dj:jam P w K mg base CX0 3 "_law_is_piece" ["found"] [] spIP):∀n:Nat,jam P w K mg base CX0 (7+n) "_law_is_tree" ["found"] [] (jnT n)
 | 0=>F.ok (k:=6) jbE (fun vs H Q E ⟨_,_,_,_,_,z,_⟩=>absurd z (xbn _)) fun f cdv Ar outer s H vs Q E hr ⟨_,_,_,_,_,z,_⟩=>absurd z (xbn _)
 | n+1=>jl3 T F df dj (jkK T F df dj n)
theorem ok_it (T:Tx K mg t1 t2) (F:At K mg "_law_is_tree" jaV ["found"] []) (df:jam P w K mg base CX0 2 "_law_is_spot" ["found"] [] jnS) (dj:jam P w K mg base CX0 3 "_law_is_piece" ["found"] [] spIP):jam P w K mg base CX0 16 "_law_is_tree" ["found"] [] (jnT 9):=by
 exact jkK T F df dj 9
theorem ifT' {b c:Bool}:(if true=true then b else c)=b:=rfl
def trD:Tr->PyData
 | .nil=>.none
 | .nd p h b a=>.tuple [.tuple [.int p.x,.int p.y,.int p.z,.int p.w],.tuple (h.map pcD),trD b,trD a]
theorem TrAt.rds {v:V} {T:Tr} (h:TrAt H v T):Rds K H v (trD T):=by
 induction h with
 | nil=>exact .non
 | nd h1 h2 h3 h4 _ _ i5 i6=>exact .tup (SqT.of h1) (.cons (.tup (SqT.of h2.1) (RdsAll.ints [_,_,_,_])) (.cons (.tup (SqT.of h3) (jeg h4)) (.cons i5 (.cons i6 .nil))))
theorem jf3:∀T:Tr,PyData.canLay0 (trD T)=true/\PyData.depth (trD T)<=5+T.ht
  | .nil=>⟨rfl,by show PyData.depth .none<=5;decide⟩
  | .nd p h b a => by
    obtain⟨b1,b2⟩:=jf3 b;obtain⟨a1,a2⟩:=jf3 a;obtain⟨h1,h2⟩:=jf1 h;have hh:(Tr.nd p h b a).ht=max b.ht a.ht+1:=rfl;refine⟨?_,?_⟩
    . simp [trD,PyData.canLay0,PyData.canLayAll0,h1,b1,a1]
    . rw[hh]
      simp [trD,PyData.depth,PyData.depthAll];omega
theorem jnU {u v:V} {T:Tr} (hu:TrAt H u T) (hv:TrAt H v T) (l:T.ht<=50) (q:Q (.bl false) H):jjg K true u v H Q:=by
 obtain⟨a,b⟩:=jf3 T;have sh:SeqAt.shaped (trD T)=true:=by
  unfold SeqAt.shaped;rw[a,decide_eq_true (by omega)];rfl
 refine⟨_,_,hu.rds,hv.rds,sh,sh,?_⟩;rw[ifT',SeqAt.eqv_refl _ (SeqAt.canLay_of_shaped sh)];exact q
def spNo:Sp:=fun _ _ _ _=>False
theorem jj3 (T:Tx K mg t1 t2) (F:At K mg "cut_by" jeT ["board","plane"] []):jam P w K mg base CX0 6 "cut_by" ["board","plane"] [] spNo:=by
 exact F.ok (k:=5) jin (fun _ _ _ _ h=>h.elim) fun _ _ _ _ _ _ _ _ _ _ h=>h.elim
def spGN:Sp:=fun vs H Q _=>∃(k:Int) (b o:Addr),vs=[.non,.int k,.ref b,.ref o]/\∀(p1 p2 p3:Addr) (H':Hp),Same H H'->H' p1=some (.tup [.int k,.ref b])->H' p2=some (.tup [.ref p1])->H' p3=some (.tup [.ref o,.ref p2,.non,.non])->Q (.ref p3) H'
theorem jl4 (T:Tx K mg t1 t2) (F:At K mg "grown_with" jbH ["tree","number","board","own"] []) (dJ:jam P w K mg base CX0 6 "cut_by" ["board","plane"] [] spNo) (dw:jam P w K mg base CX0 6 "grown_with" ["tree","number","board","own"] [] spNo):jam P w K mg base CX0 7 "grown_with" ["tree","number","board","own"] [] spGN:=by
 refine F.ok jb7 (fun vs H Q E h=>?_) (fun f cdv Ar outer s H vs Q E hr h=>?_)
 ·obtain⟨_,_,_,rfl,_⟩:=h;rfl
 obtain⟨k,b,o,rfl,q⟩:=h;have S:=jb7;refine⟨_,(jag (jaQ (jaq jdw (pv 0) jaW (jay _))
  (jai (jap (jaH (jaa (pv 3) (jaa (jaH (jaa (jaH (jaa (pv 1) (jaa (pv 2) jac jae) jae)) jac jaE)) (jaa jaW (jaa jaW jac jaj) jaj) jaE) jae))))
  jaw)
  (jag (jat (i:=4) S.nd rfl (Or.inl rfl) (jah dJ (hr.mono (by omega)) rfl jau (jaa (pv 2) (jaa (jal jan (pv 0) jab) jac jas) jae)))
  (jag (jaQ (jaq (jhU (jg1 hr)) (pv 4) (jaH (jaa jaW (jaa jaW jac jaj) jaj)) (jay _))
  (jai (jap (jaH (jaa (jal jan (pv 0) jab) (jaa (jar jll (jal jan (pv 0) jab) (jaH (jaa (jaH (jaa (pv 1) (jaa (pv 2) jac jae) jae)) jac jaE))) (jaa (jal jan (pv 0) jab) (jaa (jal jan (pv 0) jab) jac jas) jas) jbm) jas))))
  jaw)
  (jag (jat (i:=5) S.nd rfl (Or.inl rfl) (jeG (jaq jdw (jal jan (pv 4) jab) jaW (jay _)) (jal jan (pv 0) jab) (jah dw (hr.mono (by omega)) rfl jau (jaa (jal jan (pv 0) jab) (jaa (pv 1) (jaa (jal jan (pv 4) jab) (jaa (pv 3) jac jae) jas) jae) jas))))
  (jag (jat (i:=6) S.nd rfl (Or.inl rfl) (jeG (jaq jdw (jal jan (pv 4) jab) jaW (jay _)) (jal jan (pv 0) jab) (jah dw (hr.mono (by omega)) rfl jau (jaa (jal jan (pv 0) jab) (jaa (pv 1) (jaa (jal jan (pv 4) jab) (jaa (pv 3) jac jae) jas) jae) jas))))
  (jai (jap (jaH (jaa (jal jan (pv 0) jab) (jaa (jal jan (pv 0) jab) (jaa (pv 5) (jaa (pv 6) jac jae) jae) jas) jas))))))))),?_⟩
 walk_at "rf";refine⟨by decide,fun p1 h1=>⟨by decide,fun p2 h2=>⟨by decide,fun p3 h3=>?_⟩⟩⟩;have j1:=Same.new h1 (.tup [.int k,.ref b]);have j2:=Same.new h2 (.tup [.ref p1]);have j3:=Same.new h3 (.tup [.ref o,.ref p2,.non,.non]);exact q p1 p2 p3 _ (j1.trans (j2.trans j3)) (j3 _ _ (j2 _ _ jaf)) (j3 _ _ jaf) jaf
theorem ok_gn (T:Tx K mg t1 t2) (F:At K mg "grown_with" jbH ["tree","number","board","own"] []) (dJ:jam P w K mg base CX0 6 "cut_by" ["board","plane"] [] spNo):jam P w K mg base CX0 7 "grown_with" ["tree","number","board","own"] [] spGN:=by
 exact jl4 T F dJ (F.ok (k:=5) jb7 (fun _ _ _ _ h=>h.elim) fun _ _ _ _ _ _ _ _ _ _ h=>h.elim)
def plP (ps:List Pt):Pt:=match pln (rgh (pt ps 0) (pt ps 1) (pt ps 2)) with
 | [a,b,c,d]=>⟨a,b,c,d⟩
 | _=>⟨0,0,0,0⟩
theorem jkL {b c:Int} (h:pln (rgh (pt ps 0) (pt ps 1) (pt ps 2))=[a,b,c,d]):plP ps=⟨a,b,c,d⟩:=by
 unfold plP;rw[h]
def one (x:Int × List Pt):Tr:=.nd (plP x.2) [x] .nil .nil
def jnV:Sp:=fun vs H Q _=>∃(r:Addr) (x:Int × List Pt),vs=[.non,.ref r]/\PcAt H r x/\OB x.2/\∀(t:Addr) (H':Hp),Same H H'->TrAt H' (.ref t) (one x)->(one x).Good 1->Q (.ref t) H'
theorem ok_go (T:Tx K mg t1 t2) (F:At K mg "grown_by" jdt ["tree","piece"] []) (dF:jam P w K mg base CX0 6 "plane_of" ["board"] [] jea) (dw:jam P w K mg base CX0 7 "grown_with" ["tree","number","board","own"] [] spGN):jam P w K mg base CX0 8 "grown_by" ["tree","piece"] [] jnV:=by
 refine F.ok jd7 (fun vs H Q E h=>?_) (fun f cdv Ar outer s H vs Q E hr h=>?_)
 ·obtain⟨_,_,rfl,_⟩:=h;rfl
 obtain⟨r,⟨k,ps⟩,rfl,⟨b,e1,rs,e2,e3⟩,⟨⟨Z,ws,hZ,hF,l6,hr'⟩,hc⟩,q⟩:=h;have S:=jd7;refine⟨_,(jai (jap (jah dw hr.m rfl jau (jaa (pv 0) (jaa (jal jan (pv 1) jab) (jaa (jal jan (pv 1) jab) (jaa (jah dF hr.m rfl jau (jaa (jal jan (pv 1) jab) jac jas)) jac jaN) jas) jas) jae)))),?_⟩;have k1:SqT K H r [.int k,.ref b]:=SqT.of e1;have n3:3<=ps.length:=by rw[hr'.len,xaa];exact hF.rg.n3
 change ∀p∈ps,Cn p at hc;obtain⟨pl,ep,gp⟩:=jiS (hc _ (jbJ (i:=0) (by omega))) (hc _ (jbJ (i:=1) (by omega))) (hc _ (jbJ (i:=2) (by omega)));walk_at "rf";refine ixT k1 (i:=0) rfl (ixT k1 (i:=1) rfl (ixT k1 (i:=1) rfl ⟨b,rs,ps,rfl,e2,e3,n3,jiK hZ.hw hZ.nz hF.rg (by omega) hr',fun g H1 s1 eg=>?_⟩));rw[ep] at eg;have epl:plP ps=pl:=jkL ep;refine⟨k,b,g,rfl,fun p1 p2 p3 H2 s2 h1 h2 h3=>?_⟩;have s12:=s1.trans s2;have ho:Is4 H1 g pl:=⟨eg,gp.sm⟩;refine q p3 H2 s12 ?_ ⟨by show PlG (plP ps);rw[epl];exact gp,⟨fun x hx=>?_,xad _⟩,trivial,trivial⟩
 ·refine .nd (rs:=[p1]) h3 ?_ h2 (.cons ⟨b,h1,rs,s12 _ _ e2,e3.keep s12.t⟩ .nil) .nil .nil;show Is4 H2 g (plP ps);rw[epl];exact ho.keep s2
 ·rw[xaB.mp hx];exact jiR hZ hF (by omega) hr'
def ofx:List (Int × List Pt)->Tr
 | []=>.nil
 | x::_=>one x
def jnW:Sp:=fun vs H Q _=>∃(S:Addr) (v:V) (rs:List Addr) (xs:List (Int × List Pt)),vs=[.ref S,v]/\H S=some (.lst (rs.map V.ref))/\All2 (PcAt H) rs xs/\(∀x∈xs,OB x.2)/\xs.length<=1/\(v=.non\/∃R,v=.ref R/\H R=some (.lst (xs.map fun x=>V.int x.1)))/\∀(t:V) (H':Hp),Same H H'->TrAt H' t (ofx xs)->(ofx xs).Good 1->Q t H'
theorem jkM {ds:List V} (T:Tx K mg t1 t2) (F:At K mg "tree_of" jbo ["some","row"] ds) (di:jam P w K mg base CX0 8 "grown_by" ["tree","piece"] [] jnV):jam P w K mg base CX0 9 "tree_of" ["some","row"] ds jnW:=by
  refine F.ok jeB (fun vs H Q E h=>?_) (fun f cdv Ar outer s H vs Q E hr h=>?_)
  . obtain⟨_,_,_,_,rfl,_⟩:=h
    rfl
  obtain⟨S0,v,rs,xs,rfl,eS,aS,ob,l1,hv,q⟩:=h;have S:=jeB;refine⟨_,(jag (jat (i:=2) S.nd rfl (Or.inl rfl) (jaJ (jdX rfl) rfl T.m_dict boot_dict (jaa (pv 0) jac jae)))
    (jag (jat (i:=3) S.nd rfl (Or.inl rfl) (jeG (jaq jdw (pv 1) jaW (jay _)) (jaJ (jen rfl) rfl T.m_list boot_list (jaa (pv 2) jac jae)) (pv 1)))
    (jag (jat (i:=4) S.nd rfl (Or.inl rfl) jaW)
    (jag (jbx PassesOwn.never rfl (jbW (pv 3)) (jao (i:=5) S.nd rfl (Or.inl rfl))
    (jai (jat (i:=4) S.nd rfl (Or.inl rfl) (jah di hr.m rfl jau (jaa (pv 4) (jaa (jaH (jaa (pv 5) (jaa (jal jln (pv 2) (pv 5)) jac jas) jae)) jac jaE) jae)))))
    (jai (jap (pv 4))))))),?_⟩
  walk_at "rf";obtain⟨ps,lp,hp,eo,em,hps⟩:∃ps:List (Key × V),rs.length=ps.length/\(∀(i:Nat) (r:Addr) (q:Key × V),rs[i]?=some r->ps[i]?=some q->H r=some (.tup [kV q.1,q.2]))/\ofK ps=ps/\ps.map (fun q=>kV q.1)=xs.map (fun x=>V.int x.1)/\∀(i:Nat) (x:Int × List Pt),xs[i]?=some x->∃b,True/\BoAt H b x.2/\jkk ps (.inl x.1)=some (.ref b):=by
    match rs,xs,aS,l1 with
    | [],[],_,_=>exact⟨[],rfl,(fun _ _ _ z=>nomatch z),rfl,rfl,fun _ _ z=>nomatch z⟩
    | [r], [x], .cons h _, _ =>
      obtain⟨b,e,bo⟩:=h;refine⟨[(.inl x.1,.ref b)],rfl,fun i r' q' h1 h2=>?_,rfl,rfl,fun i x' h1=>?_⟩
      . cases i with
        | zero=>cases h1;cases h2;exact e
        | succ i=>cases h1
      . cases i with
        | zero=>cases h1;exact⟨b,trivial,bo,jgo rfl⟩
        | succ i=>cases h1
    | _::_::_,_::_::_,_,l1=>exact absurd l1 (by simp)
  refine⟨rs,eS,ps,lp,hp,fun d hd=>?_⟩;have jd:=Same.new hd (.dK (ofK ps));have ed0:upd H d (.dK (ofK ps)) d=some (.dK ps):=by rw[jaf,eo]
  generalize upd H d (.dK (ofK ps))=H1 at jd ed0 |-
  unfold L2.tIf;walk_at "rf";rcases hv with rfl | ⟨R,rfl,eR⟩
  . refine jcK (fun _=>?_) fun z=>absurd rfl z
    refine⟨ps,ed0,fun N hN=>?_⟩;have jN:=Same.new hN (.lst (ps.map fun q=>kV q.1));have eN:upd H1 N (.lst (ps.map fun q=>kV q.1)) N=some (.lst (xs.map fun x=>V.int x.1)):=by rw[jaf,em]
    have ed:=jN _ _ ed0;have sJ:=jd.trans jN;generalize upd H1 N (.lst (ps.map fun q=>kV q.1))=J at eN ed sJ |-
    refine⟨⟨_,SqL.of eN⟩,jbX (K:=K) (a:=N) (xs:=xs.map fun x=>V.int x.1) (fun i σ Hh=>∃(o5:Option V) (t:V),σ=[some (.ref S0),some .non,some (.ref d),some (.ref N),some t,o5]/\Same J Hh/\TrAt Hh t (ofx (xs.take i))/\(ofx (xs.take i)).Good 1) ⟨_,_,rfl,Same.refl _,.nil,trivial⟩ (fun i σ Hh _ ⟨_,_,_,sx,_⟩=>sx.seq (SqL.of eN)) ?_ ?_⟩
    . rintro i w σ Hh hi ⟨o5,t,rfl,sx,tT,gT⟩
      rw[xag] at hi;obtain⟨x,hx,rfl⟩:=xaH.mp hi;obtain⟨b,ex,bo,hget⟩:=hps i x hx;obtain rfl:i=0:=by
        have:=(xaj.mp hx).1;omega
      obtain rfl:xs=[x]:=by
        cases xs with
        | nil=>cases hx
        | cons y ys =>
          cases hx;obtain rfl:ys=[]:=xa3.mp (by simpa using l1);rfl
      cases tT;walk_at "rf";refine⟨d,ps,.inl x.1,.ref b,rfl,rfl,sx _ _ ed,hget,by decide,fun p hp=>?_⟩;have j:=Same.new hp (.tup [.int x.1,.ref b]);refine⟨p,x,rfl,⟨b,jaf,(bo.keep sJ.t).keep (sx.trans j).t⟩,ob x (.head _),fun t' H' s' tT' gT'=>⟨sx.trans (j.trans s'),tT',gT'⟩⟩
    . rintro σ Hh ⟨o5,t,rfl,sx,tT,gT⟩
      rw[xaa,xaT] at tT gT;walk_at "rf";exact q t Hh (sJ.trans sx) tT gT
  . refine jcK (fun z=>nomatch z) fun _=>?_
    have eN:=jd _ _ eR;have ed:=ed0;have sJ:=jd
    revert eN ed sJ
    generalize H1=J;generalize R=N;intro eN ed sJ;refine⟨N,rfl,⟨_,SqL.of eN⟩,jbX (K:=K) (a:=N) (xs:=xs.map fun x=>V.int x.1) (fun i σ Hh=>∃(o5:Option V) (t:V),σ=[some (.ref S0),some (.ref N),some (.ref d),some (.ref N),some t,o5]/\Same J Hh/\TrAt Hh t (ofx (xs.take i))/\(ofx (xs.take i)).Good 1) ⟨_,_,rfl,Same.refl _,.nil,trivial⟩ (fun i σ Hh _ ⟨_,_,_,sx,_⟩=>sx.seq (SqL.of eN)) ?_ ?_⟩
    . rintro i w σ Hh hi ⟨o5,t,rfl,sx,tT,gT⟩
      rw[xag] at hi;obtain⟨x,hx,rfl⟩:=xaH.mp hi;obtain⟨b,ex,bo,hget⟩:=hps i x hx;obtain rfl:i=0:=by
        have:=(xaj.mp hx).1;omega
      obtain rfl:xs=[x]:=by
        cases xs with
        | nil=>cases hx
        | cons y ys =>
          cases hx;obtain rfl:ys=[]:=xa3.mp (by simpa using l1);rfl
      cases tT;walk_at "rf";refine⟨d,ps,.inl x.1,.ref b,rfl,rfl,sx _ _ ed,hget,by decide,fun p hp=>?_⟩;have j:=Same.new hp (.tup [.int x.1,.ref b]);refine⟨p,x,rfl,⟨b,jaf,(bo.keep sJ.t).keep (sx.trans j).t⟩,ob x (.head _),fun t' H' s' tT' gT'=>⟨sx.trans (j.trans s'),tT',gT'⟩⟩
    . rintro σ Hh ⟨o5,t,rfl,sx,tT,gT⟩
      rw[xaa,xaT] at tT gT;walk_at "rf";exact q t Hh (sJ.trans sx) tT gT
theorem ok_to (T:Tx K mg t1 t2) (F:At K mg "tree_of" jbo ["some","row"] []) (di:jam P w K mg base CX0 8 "grown_by" ["tree","piece"] [] jnV):jam P w K mg base CX0 9 "tree_of" ["some","row"] [] jnW:=by
 exact jkM T F di
theorem jnX (T:Tx K mg t1 t2) (F:At K mg "tree_of" jbo ["some","row"] [.non]) (di:jam P w K mg base CX0 8 "grown_by" ["tree","piece"] [] jnV):jam P w K mg base CX0 9 "tree_of" ["some","row"] [.non] jnW:=by
 exact jkM T F di
theorem jl5 {t u:Addr} {n:Int} (h1:H t=some (.tup [.str "refused",.int n])) (h2:H u=some (.tup [.str "refused",.int n])) (q:Q (.bl false) H):jjg K true (.ref t) (.ref u) H Q:=by
 have sh:SeqAt.shaped (.tuple [.str "refused",.int n])=true:=by
  unfold SeqAt.shaped;simp [PyData.canLay0,PyData.canLayAll0,PyData.depth,PyData.depthAll];decide +kernel
 refine⟨_,_,.tup (SqT.of h1) (.cons (.str _) (.cons (.int _) .nil)),.tup (SqT.of h2) (.cons (.str _) (.cons (.int _) .nil)),sh,sh,?_⟩;rw[ifT',SeqAt.eqv_refl _ (SeqAt.canLay_of_shaped sh)];exact q
theorem je6 {t u l m:Addr} {rs:List Addr} {xs:List (Int × List Pt)} (h1:H t=some (.tup [.str "told",.ref l])) (e1:H l=some (.lst (rs.map V.ref))) (a1:All2 (PcAt H) rs xs) (h2:H u=some (.tup [.str "told",.ref m])) (e2:H m=some (.lst (rs'.map V.ref))) (a2:All2 (PcAt H) rs' xs) (q:Q (.bl false) H):jjg K true (.ref t) (.ref u) H Q:=by
 obtain⟨a,b⟩:=jf1 xs;have sh:SeqAt.shaped (.tuple [.str "told",.list (xs.map pcD)])=true:=by
  unfold SeqAt.shaped;simp [PyData.canLay0,PyData.canLayAll0,PyData.depth,PyData.depthAll,a];exact⟨by decide +kernel,by omega⟩
 refine⟨_,_,.tup (SqT.of h1) (.cons (.str _) (.cons (.lst (SqL.of e1) (jeg a1)) .nil)),.tup (SqT.of h2) (.cons (.str _) (.cons (.lst (SqL.of e2) (jeg a2)) .nil)),sh,sh,?_⟩;rw[ifT',SeqAt.eqv_refl _ (SeqAt.canLay_of_shaped sh)];exact q
theorem jf4 {n:Bool} {l m:Addr} {rs:List Addr} {xs:List (Int × List Pt)} (e1:H l=some (.lst (rs.map V.ref))) (a1:All2 (PcAt H) rs xs) (e2:H m=some (.lst (rs'.map V.ref))) (a2:All2 (PcAt H) rs' xs) (q:Q (.bl (!n)) H):jjg K n (.ref l) (.ref m) H Q:=by
 obtain⟨a,b⟩:=jf1 xs;have sh:SeqAt.shaped (.list (xs.map pcD))=true:=by
  unfold SeqAt.shaped;simp [PyData.canLay0,PyData.depth,a];omega
 refine⟨_,_,.lst (SqL.of e1) (jeg a1),.lst (SqL.of e2) (jeg a2),sh,sh,?_⟩;rw[SeqAt.eqv_refl _ (SeqAt.canLay_of_shaped sh)];cases n
 ·exact q
 ·exact q
theorem RawsAt.ks {m:Nat} (h:RawsAt m H S) (s:Same H H'):RawsAt m H' S:=by
 obtain⟨rs,zs,h1,h2,h3⟩:=h;exact⟨rs,zs,s _ _ h1,h2.mono fun _ _ h=>RwAt.keep h s.t,h3⟩
theorem Sta.nl {p:Addr} (b:Sta J L) (h:J p=none):p≠L:=fun z=>by
 obtain⟨u,v,h1,_⟩:=b;rw[z,h1] at h;cases h
theorem Sta.nl' {p:Addr} {rs:List Addr} (b:Sta J L) (h:J p=some (.lst (rs.map V.ref))):p≠L:=fun z=>by
 obtain⟨u,v,h1,_⟩:=b;rw[z,h1] at h;cases rs with
 | nil=>cases h
 | cons _ _=>cases h
structure B39 (H:Hp) (S R r b p d:Addr) (k:Int) (ps:List Pt):Prop where
 eS:H S=some (.lst [.ref r])
 er:H r=some (.tup [.int k,.ref b])
 hb:BoAt H b ps
 ob:OB ps
 hp:Is4 H p (plP ps)
 gp:PlG (plP ps)
 ep:pln (rgh (pt ps 0) (pt ps 1) (pt ps 2))=[(plP ps).x,(plP ps).y,(plP ps).z,(plP ps).w]
 hd:TrAt H (.ref d) (one (k,ps))
 gd:(one (k,ps)).Good 1
 hR:RawsAt 1 H R
theorem B39.keep {R b p d:Addr} (h:B39 H S R r b p d k ps) (s:Same H H'):B39 H' S R r b p d k ps :=
 ⟨s _ _ h.eS,s _ _ h.er,h.hb.keep s.t,h.ob,h.hp.keep s,h.gp,h.ep,h.hd.keep s.t,h.gd,h.hR.ks s⟩
theorem B39.pc {R b p d:Addr} (h:B39 H S R r b p d k ps):All2 (PcAt H) [r] [(k,ps)]:=.cons ⟨b,h.er,h.hb⟩ .nil
def lN0 (H:Hp) (a:Addr):L2.St->Hp->Prop:=fun σ H'=>∃(S R:Addr) (xs:List (Int × List Pt)),σ=[some (.ref a),some (.ref S),some (.ref R),none,none,none,none,none,none,none,none,none,none,none,none]/\Same H H'/\jkF 1 H' S xs/\RawsAt 1 H' R
def lN5 (H:Hp) (a:Addr):L2.St->Hp->Prop:=fun σ H'=>∃(S R r b p d h w:Addr) (k:Int) (ps:List Pt) (o9:Option V),σ=[some (.ref a),some (.ref S),some (.ref R),some (.int k),some (.ref b),some (.ref p),some (.ref d),some (.ref h),some (.ref w),o9,none,none,none,none,none]/\Same H H'/\B39 H' S R r b p d k ps/\H' h=some (.lst [.ref r])/\H' w=some (.lst [.int k])
def lN10 (H:Hp) (a:Addr):L2.St->Hp->Prop:=fun σ H'=>∃(S R r b p d:Addr) (k:Int) (ps:List Pt) (o7 o8 o9 o10:Option V),σ=[some (.ref a),some (.ref S),some (.ref R),some (.int k),some (.ref b),some (.ref p),some (.ref d),o7,o8,o9,o10,none,none,none,none]/\Same H H'/\B39 H' S R r b p d k ps
theorem jl6 (x:Int × List Pt) (o:Pt):(one x).ord o=[x]:=by
 show (if 0<hgt (plP x.2).x (plP x.2).y (plP x.2).z (plP x.2).w o then []++[x]++[] else []++[x]++[])=[x];split<;>rfl
theorem jnY {C:Addr} {e:Addr} {ed:FuncData} (T:Tc K mg t1 t2 cs SE fN C) (F:FunD K "law" "law" jeU e ed .none) (dW:jam P w K mg base CX0 1 "_law_cell_at" ["script","k"] [] (jkB K)) (dE:jam P w K mg base CX0 1 "_law_state" ["cell"] [] jlN) (Dg:jam P w K mg base CX0 7 "_law_some" ["cells"] [] (jkG K)) (Db:jam P w K mg base CX0 2 "_law_plane" ["corners"] [] jnE) (dH:jam P w K mg base CX0 9 "tree_of" ["some","row"] [] jnW) (dO:jam P w K mg base CX0 9 "tree_of" ["some","row"] [.non] jnW) (di:jam P w K mg base CX0 8 "grown_by" ["tree","piece"] [] jnV) (du:jam P w K mg base CX0 16 "_law_is_tree" ["found"] [] (jnT 9)) (dg:jam P w K mg base CX0 16 "pieces_of" ["tree"] [] (jhk 9)) (Di:jam P w K mg base CX0 5 "_law_eye" ["state","raws"] [] jnQ) (dY:jam P w K mg base CX0 1 "_law_height" ["plane","spot"] [] spHg) (dM:jam P w K mg base CX0 18 "_law_painted" ["tree","spot"] [] jf2):FnOk P w K mg base CX0 19 e ed ["script"] (jjy K):=by
 refine F.ok jko (fun vs H Q E h=>?_) (fun cdv A outer s H vs Q E hr h=>?_)
 ·obtain⟨a,ns,rfl,_⟩:=h;rfl
 obtain⟨a,ns,rfl,ha,hn,q⟩:=h;have S:=jko;refine⟨_,(ja2 (lN0 H a) (jcN (jah Dg hr.m rfl jau (jaa (jaZ (jaa (jah dW hr.m rfl jau (jaa (pv 0) (jaa jab jac jaj) jae)) jac jaN)) jac jcl)) (jcM rfl (jaC (jao (i:=1) S.nd rfl (Or.inl rfl)) (jaC (jao (i:=2) S.nd rfl (Or.inl rfl)) jbw))))
  (jag (jcN (jal ix_list (pv 1) jab) (jcM rfl (jaC (jao (i:=3) S.nd rfl (Or.inl rfl)) (jaC (jao (i:=4) S.nd rfl (Or.inl rfl)) jbw))))
  (jag (jat (i:=5) S.nd rfl (Or.inl rfl) (jah Db hr.m rfl jau (jaa (pv 4) jac jae)))
  (jag (jat (i:=6) S.nd rfl (Or.inl rfl) (jaH (jaa (pv 5) (jaa (jaH (jaa (jaH (jaa (pv 3) (jaa (pv 4) jac jae) jae)) jac jaE)) (jaa jaW (jaa jaW jac jaj) jaj) jaE) jae)))
  (jag (jat (i:=7) S.nd rfl (Or.inl rfl) (jaJ jbi rfl T.m_list boot_list (jaa (pv 1) jac jae)))
  (ja2 (lN5 H a) (jat (i:=8) S.nd rfl (Or.inl rfl) (jaZ (jaa (pv 3) jac jae)))
  (ja2 (lN5 H a) (jbx PassesOwn.never rfl (jbW (jaZ (jaa (jah dO hr.m rfl jau (jaa (pv 7) jac jae)) (jaa (jah dH hr.m rfl jau (jaa (pv 7) (jaa (pv 8) jac jae) jae)) (jaa (jah dH hr.m rfl jau (jaa (pv 7) (jaa jaW jac jaj) jae)) (jaa (jah di hr.m rfl jau (jaa jaW (jaa (jaH (jaa (pv 3) (jaa (pv 4) jac jae) jae)) jac jaE) jaj)) jac jaN) jaN) jaN) jaN))) (jao (i:=9) S.nd rfl (Or.inl rfl))
  (jai (jaQ (PW.pt (jc8 (jcL (jbu (jah du hr.m rfl jau (jaa (pv 9) jac jae)))) (jc7 (jaq (jcO (jg1 hr)) (pv 9) (pv 6) (jay _)))))
  (jai (jap jc6))
  jaw)))
  (ja2 (lN5 H a) (jaQ (PW.pt (jc8 (jaq (jcO (jg1 hr)) (pv 7) (pv 1) (jay _)) (jc8 (jaq (jcO (jg1 hr)) (pv 8) (jaZ (jaa (pv 3) jac jae)) (jay _)) (jc8 (jaq jfN (jah dO hr.m rfl jau (jaa (jaZ jac) jac jcl)) jaW (jay _)) (jc7 (jaq jfN (jah dH hr.m rfl jau (jaa (jaZ jac) (jaa (jaZ jac) jac jcl) jcl)) jaW (jay _)))))))
  (jai (jap jc6))
  jaw)
  (jag (jat (i:=10) S.nd rfl (Or.inl rfl) (jah dg hr.m rfl jau (jaa (pv 6) jac jae)))
  (jag (jaQ (PW.pt (jc8 (jaq (jcO (jg1 hr)) (pv 10) (pv 1) (jay _)) (jc7 (jaq (jcO (jg1 hr)) (jah dg hr.m rfl jau (jaa jaW jac jaj)) (jaZ jac) (jay _)))))
  (jai (jap jc6))
  jaw)
  (ja2 (lN10 H a) (jcU (jgZ PySem.F.plainAttrs_list PySem.F.slot_list_append PySem.F.type_list_append jby (pv 10) (jaa (jaH (jaa (pv 3) (jaa (pv 4) jac jae) jae)) jac jaE)))
  (jag (jbx PassesOwn.never rfl (jbW (jar jca (jbG sl_list (pv 0) (jbY jab) (jbY jab)) (jaZ (jaa jab jac jaj)))) (jao (i:=11) S.nd rfl (Or.inl rfl))
  (jag (jat (i:=12) S.nd rfl (Or.inl rfl) (jah Di hr.m rfl jau (jaa (jah dE hr.m rfl jau (jaa (pv 11) jac jae)) (jaa (pv 2) jac jae) jaN)))
  (jag (jat (i:=13) S.nd rfl (Or.inl rfl) (jaH (jaa jdJ (jaa (pv 1) jac jae) jaj)))
  (jag (jaQ (jaq jdF (jah dY hr.m rfl jau (jaa (pv 5) (jaa (pv 12) jac jae) jae)) jab (jay _))
  (jai (jat (i:=13) S.nd rfl (Or.inl rfl) (jaH (jaa jdJ (jaa (pv 3) jac jae) jaj))))
  jaw)
  (jag (jat (i:=14) S.nd rfl (Or.inl rfl) (jah dM hr.m rfl jau (jaa (pv 6) (jaa (pv 12) jac jae) jae)))
  (jag (jaQ (PW.pt (jc8 (jaq (jcO (jg1 hr)) (pv 14) (pv 13) (jay _)) (jc7 (jaq (jcO (jg1 hr)) (jah dM hr.m rfl jau (jaa jaW (jaa (pv 12) jac jae) jaj)) (jaH (jaa jdJ (jaa (jaZ jac) jac jcl) jaj)) (jay _)))))
  (jai (jap jc6))
  jaw)
  (jai (jaQ (jaq jdF (jal jan (pv 14) jab) jdJ (jay _))
  (jai (jcU (jkd PySem.F.plainAttrs_list PySem.F.slot_list_clear PySem.F.type_list_clear jje (jal jan (pv 14) jab))))
  jaw))))))))
  (jai (jap (jeH (jhU (jg1 hr)) (jah dg hr.m rfl jau (jaa (pv 6) jac jae)) (pv 1) (jay _)))))))))))))))),?_⟩
 walk_at "rf";refine⟨⟨a,ns,0,rfl,ha,hn,by decide,fun i H1 s1=>⟨by decide,fun p hp=>?_⟩⟩,?_⟩
 ·have j:=Same.new hp (.lst [.int i]);refine⟨p,[i],rfl,SqL.of jaf,by show 1<=5;decide,fun t S R H5 xs s5 nS nR et hS hR=>⟨t,rfl,_,SqT.of et,rfl,_,_,rfl,_,_,rfl,rfl,?_⟩⟩;exact⟨S,R,xs,rfl,s1.trans (j.trans s5),hS,hR⟩
 rintro σ0 H0 ⟨S0,R0,xs,rfl,s0,⟨rs,eS,aS,ob,lx⟩,hR⟩;obtain⟨r,rfl⟩:∃r,rs=[r]:=xbo.mp (aS.len.trans lx);obtain⟨⟨k,ps⟩,rfl⟩:∃x,xs=[x]:=xbo.mp lx;obtain⟨b,er,hb⟩:=(aS.getA (show [r][0]?=some r from rfl)).elim fun x h=>by
  obtain⟨h1,h2⟩:=h;cases h1;exact h2
 have ob:OB ps:=ob _ (.head _);have hb:BoAt H0 b ps:=hb;walk_at "rf";have e0:H0 S0=some (.lst [.ref r]):=eS;refine ixL (SqL.of e0) (i:=0) rfl ⟨r,rfl,_,SqT.of er,rfl,_,_,rfl,_,_,rfl,rfl,?_⟩;obtain⟨ts,b1,b2⟩:=id hb;obtain⟨⟨Z,ws,hZ,hF,l6,rr⟩,hC⟩:=id ob;have n3:3<=ps.length:=by
  have:=rr.len;rw[xaa] at this;have:=hF.rg.n3;omega
 obtain⟨pl,ep0,gp0⟩:=jiS (hC _ (jbJ (i:=0) (by omega))) (hC _ (jbJ (i:=1) (by omega))) (hC _ (jbJ (i:=2) (by omega)));have epl:plP ps=pl:=jkL ep0;refine⟨b,ts,ps,rfl,.inr b1,b2,n3,fun p hp=>cg_of (hC p hp),jiK hZ.hw hZ.nz hF.rg (by omega) rr,fun g H1 x y z v s1 eg lp ex=>?_⟩;obtain⟨x1,x2,x3,x4⟩:x=pl.x/\y=pl.y/\z=pl.z/\v=pl.w:=by
  have:=ex.trans ep0;simpa using this
 subst x1 x2 x3 x4;have hp:Is4 H1 g (plP ps):=by rw[epl];exact⟨eg,gp0.sm⟩
 refine⟨by decide,fun q1 h1=>⟨by decide,fun q2 h2=>⟨by decide,fun d hd=>?_⟩⟩⟩;have j1:=Same.new h1 (.tup [.int k,.ref b]);have j2:=Same.new h2 (.tup [.ref q1]);have j3:=Same.new hd (.tup [.ref g,.ref q2,.non,.non]);have f1:=j3 _ _ (j2 _ _ (show upd H1 q1 (.tup [.int k,.ref b]) q1=some (.tup [.int k,.ref b]) from jaf));have f2:=j3 _ _ (show upd (upd H1 q1 (.tup [.int k,.ref b])) q2 (.tup [.ref q1]) q2=some (.tup [.ref q1]) from jaf);have f3:upd (upd (upd H1 q1 (.tup [.int k,.ref b])) q2 (.tup [.ref q1])) d (.tup [.ref g,.ref q2,.non,.non]) d=some (.tup [.ref g,.ref q2,.non,.non]):=jaf;have sJ:=s1.trans (j1.trans (j2.trans j3));have hpJ:=hp.keep (j1.trans (j2.trans j3));generalize upd (upd (upd H1 q1 (.tup [.int k,.ref b])) q2 (.tup [.ref q1])) d (.tup [.ref g,.ref q2,.non,.non])=J at f1 f2 f3 sJ hpJ |-
 have B:B39 J S0 R0 r b g d k ps:=⟨sJ _ _ e0,sJ _ _ er,hb.keep sJ.t,ob,hpJ,by rw[epl];exact gp0,by rw[epl];exact ep0,.nd (rs:=[q1]) f3 hpJ f2 (.cons ⟨b,f1,hb.keep sJ.t⟩ .nil) .nil .nil,⟨by show PlG (plP ps);rw[epl];exact gp0,⟨fun x hx=>by rw[xaB.mp hx];exact jiR hZ hF (by omega) rr,xad _⟩,trivial,trivial⟩,hR.ks sJ⟩;refine⟨_,.inl (SqL.of B.eS),fun h hh=>⟨by decide,fun w hw=>?_,?_⟩⟩
 ·have j4:=Same.new hh (.lst [.ref r]);have j5:=Same.new hw (.lst [.int k]);exact⟨S0,R0,r,b,g,d,h,w,k,ps,none,rfl,s0.trans (sJ.trans (j4.trans j5)),B.keep (j4.trans j5),j5 _ _ jaf,jaf⟩
 clear B hpJ sJ f1 f2 f3 j1 j2 j3 hd h1 h2 hp lp ex eg s1 hR hb ob e0 er aS;rintro σ5 H5 ⟨S0,R0,r,b,g,d,h,w,k,ps,o9,rfl,s5,B,eh,ew⟩;walk_at "rf";have obs:∀x∈[(k,ps)],OB x.2:=fun x hx=>by rw[xaB.mp hx];exact B.ob
 refine⟨?_,?_⟩
 ·refine⟨h,.non,[r],[(k,ps)],rfl,eh,B.pc,obs,xad _,.inl rfl,fun t1 H6 s6 t6 _=>?_⟩;refine⟨h,.ref w,[r],[(k,ps)],rfl,s6 _ _ eh,(B.keep s6).pc,obs,xad _,.inr ⟨w,rfl,s6 _ _ ew⟩,fun t2 H7 s7 t7 _=>?_⟩;have s67:=s6.trans s7;refine⟨h,.non,[r],[(k,ps)],rfl,s67 _ _ eh,(B.keep s67).pc,obs,xad _,.inl rfl,fun t3 H8 s8 t8 _=>⟨by decide,fun p hp=>?_⟩⟩;have j8:=Same.new hp (.tup [.int k,.ref b]);have s68:=s67.trans (s8.trans j8);refine⟨p,(k,ps),rfl,⟨b,jaf,(B.keep s68).hb⟩,B.ob,fun t4 H9 s9 t9 _=>⟨by decide,fun l hl=>?_⟩⟩;have j9:=Same.new hl (.lst [t1,t2,t3,.ref t4]);have el:upd H9 l (.lst [t1,t2,t3,.ref t4]) l=some (.lst [t1,t2,t3,.ref t4]):=jaf;have sA:=s68.trans (s9.trans j9);have all:∀x∈[t1,t2,t3,V.ref t4],TrAt (upd H9 l (.lst [t1,t2,t3,.ref t4])) x (one (k,ps)):=fun x hx=>by
   simp only[xaq,xbv,or_false] at hx;rcases hx with rfl | rfl | rfl | rfl
   ·exact t6.keep (s7.trans (s8.trans (j8.trans (s9.trans j9)))).t
   ·exact t7.keep (s8.trans (j8.trans (s9.trans j9))).t
   ·exact t8.keep (j8.trans (s9.trans j9)).t
   ·exact t9.keep j9.t
  generalize upd H9 l (.lst [t1,t2,t3,.ref t4])=H10 at el sA all |-
  have B:=B.keep sA;have eh:=sA _ _ eh;have ew:=sA _ _ ew;have s5:=s5.trans sA;clear t6 t7 t8 t9 s6 s7 s8 s9 s67 s68 j8 j9 sA hp hl;refine⟨⟨_,SqL.of el⟩,jbX (K:=K) (a:=l) (xs:=[t1,t2,t3,.ref t4]) (fun i σ Hh=>∃o9:Option V,σ=[some (.ref a),some (.ref S0),some (.ref R0),some (.int k),some (.ref b),some (.ref g),some (.ref d),some (.ref h),some (.ref w),o9,none,none,none,none,none]/\Same H10 Hh) ⟨_,rfl,Same.refl _⟩ (fun i σ Hh _ ⟨_,_,sx⟩=>sx.seq (SqL.of el)) ?_ ?_⟩
  ·rintro i x σ Hh hi ⟨o9,rfl,sx⟩;have tx:=(all x (xaw hi)).keep sx.t;walk_at "rf";refine⟨x,one (k,ps),1,rfl,tx,by show 1<9;decide,B.gd,by decide,fun H' s'=>⟨true,rfl,?_⟩⟩;rw[if_neg (by decide)];refine jnU (tx.keep s'.t) ((B.keep (sx.trans s')).hd) (by show 1<=50;decide) ⟨_,rfl,?_⟩;rw[if_neg (by decide)];exact sx.trans s'
  ·rintro σ Hh ⟨o9,rfl,sx⟩;exact⟨S0,R0,r,b,g,d,h,w,k,ps,o9,rfl,s5.trans sx,B.keep sx,sx _ _ eh,sx _ _ ew⟩
 clear B eh ew s5 obs;rintro σ6 H6 ⟨S0,R0,r,b,g,d,h,w,k,ps,o9,rfl,s6,B,eh,ew⟩;walk_at "rf";refine⟨?_,?_⟩
 ·refine jf4 (rs:=[r]) (rs':=[r]) eh B.pc B.eS B.pc ⟨_,rfl,?_⟩;rw[if_neg (by decide)];refine⟨by decide,fun p hp=>?_⟩;have j:=Same.new hp (.lst [.int k]);refine jeN (x:=[k]) (y:=[k]) (SqL.of (j _ _ ew)) (SqL.of jaf) ⟨_,rfl,?_⟩;rw[if_neg (by rw[decide_eq_true rfl];decide)];refine⟨xar _,fun p2 hp2=>?_⟩;have j2:=Same.new hp2 (.lst []);refine⟨p2,.non,[],[],rfl,jaf,.nil,(fun _ z=>nomatch z),xar _,.inl rfl,fun t H8 s8 t8 _=>?_⟩;cases t8;rw[if_pos rfl];refine⟨xar _,fun p3 hp3=>⟨xar _,fun p4 hp4=>?_⟩⟩;have j3:=Same.new hp3 (.lst []);have j4:=Same.new hp4 (.lst []);refine⟨p3,.ref p4,[],[],rfl,j4 _ _ jaf,.nil,(fun _ z=>nomatch z),xar _,.inr ⟨p4,rfl,jaf⟩,fun t H9 s9 t9 _=>?_⟩;cases t9;rw[if_pos rfl];have sx:=j.trans (j2.trans (s8.trans (j3.trans (j4.trans s9))));exact⟨S0,R0,r,b,g,d,h,w,k,ps,o9,rfl,s6.trans sx,B.keep sx,sx _ _ eh,sx _ _ ew⟩
 clear B eh ew s6;rintro σ7 H7 ⟨S0,R0,r,b,g,d,h,w,k,ps,o9,rfl,s7,B,eh,ew⟩;walk_at "rf";refine⟨.ref d,one (k,ps),1,rfl,B.hd,by show 1<9;decide,B.gd,by decide,by show 1<=800;decide,fun l H8 rs n8 s8 el al=>?_⟩;have al:All2 (PcAt H8) rs [(k,ps)]:=al;refine jf4 el al (rs':=[r]) (B.keep s8).eS (B.keep s8).pc ⟨_,rfl,?_⟩;rw[if_neg (by decide)];refine⟨.non,.nil,0,rfl,.nil,by decide,trivial,by decide,xar _,fun l2 H9 rs2 n9 s9 el2 al2=>⟨xar _,fun p hp=>?_⟩⟩;cases al2;have j:=Same.new hp (.lst []);refine jeN (x:=[]) (y:=[]) (SqL.of (j _ _ el2)) (SqL.of jaf) ⟨_,rfl,?_⟩;rw[if_neg (by decide)];have s89:=s9.trans j;refine⟨.inl ⟨_,SqL.of (s89 _ _ el)⟩,by decide,fun p2 hp2=>?_,?_⟩
 ·have j2:=Same.new hp2 (.tup [.int k,.ref b]);have sx:=s8.trans (s89.trans j2);have lr:=al.len;refine⟨l,_,_,rfl,rfl,(s89.trans j2) _ _ el,jaM (by rw[xaa,lr];show 1<1000;decide),?_⟩;have sy:=Same.keepN sx n8 (.lst (rs.map V.ref++[.ref p2]));exact⟨S0,R0,r,b,g,d,k,ps,_,_,_,_,rfl,s7.trans sy,B.keep sy⟩
 clear B eh ew s7 s8 s89 j hp el2 el al n8 n9 s9;rintro σ10 H10 ⟨S0,R0,r,b,g,d,k,ps,o7,o8,o9,o10,rfl,s10,B⟩;walk_at "rf";obtain⟨ms,em,lm⟩:∃ms:List Int,jeq (ns.map V.int) (some 1) (some 63)=ms.map V.int/\ms.length<=63:=by
  unfold jeq;rw[<- xb6,<- xb7];exact⟨_,rfl,by rw[xay,xaz];omega⟩
 refine⟨a,_,rfl,s10.seq ha,fun p hp=>?_⟩;rw[em];refine jel hp fun J1 j1 e1=>?_;refine⟨by decide,fun p2 hp2=>?_⟩;have j2:=Same.new hp2 (.lst [.int 7919]);have e2:upd J1 p2 (.lst [.int 7919]) p2=some (.lst [.int 7919]):=jaf;have e1':=j2 _ _ e1;generalize upd J1 p2 (.lst [.int 7919])=J2 at j2 e2 e1' |-
 refine⟨p,p2,_,_,rfl,rfl,e1',e2,xaO (jaM (by rw[xaa];show ms.length+1<1000;omega)),fun l hl=>?_⟩;have j3:=Same.new hl (.lst (ms.map V.int++[.int 7919]));have el:upd J2 l (.lst (ms.map V.int++[.int 7919])) l=some (.lst ((ms++[7919]).map V.int)):=by rw[jaf,xal];rfl
 have B:=B.keep (j1.trans (j2.trans j3));generalize upd J2 l (.lst (ms.map V.int++[.int 7919]))=J at B el |-
 clear j1 e1 j2 e2 e1' j3 hp hp2 hl s10;obtain⟨rR,zR,eR,aR,lR⟩:=id B.hR;have lr:=aR.len;have gG:PcG ps:=B.gd.pcs_g (k,ps) (.head _);obtain⟨x0,y0,z0,v0,ez,_,_,_,_,hzz⟩:=jnI gG;obtain⟨q1,q2,q3,q4⟩:(plP ps).x=x0/\(plP ps).y=y0/\(plP ps).z=z0/\(plP ps).w=v0:=by
  have:=B.ep.symm.trans ez;simpa using this
 subst q1 q2 q3 q4;refine⟨l,rfl,⟨_,SqL.of el⟩,jbX (K:=K) (a:=l) (xs:=(ms++[7919]).map V.int) (fun i σ Hh=>∃(o11 o12 o13 o14:Option V),σ=[some (.ref a),some (.ref S0),some (.ref R0),some (.int k),some (.ref b),some (.ref g),some (.ref d),o7,o8,o9,o10,o11,o12,o13,o14]/\Same J Hh) ⟨_,_,_,_,rfl,Same.refl _⟩ (fun i σ Hh _ ⟨_,_,_,_,_,sx⟩=>sx.seq (SqL.of el)) ?_ ?_⟩
 ·rintro i w σ Hh hi ⟨o11,o12,o13,o14,rfl,sx⟩;obtain⟨n,rfl,hn'⟩:=jgv hi;walk_at "rf";refine⟨n,rfl,fun L2 H6 nL s6 b6=>?_⟩;have s06:=sx.trans s6;refine⟨L2,R0,rR,zR,rfl,s06 _ _ eR,aR.mono fun _ _ h=>RwAt.keep h s06.t,(fun z=>by rw[z] at lr;have:0=zR.length:=lr;omega),by omega,b6.nl' (s06 _ _ eR),b6,fun e H8 o s8 he=>?_⟩;have s68:Same Hh H8:=fun b o hb=>s8 b o (jaz hb nL) (s6 _ _ hb);have B:=B.keep (sx.trans s68);refine⟨by decide,fun p hp=>?_⟩;have j:=Same.new hp (.tup [.str "told",.ref S0]);have ep':upd H8 p (.tup [.str "told",.ref S0]) p=some (.tup [.str "told",.ref S0]):=jaf;have B:=B.keep j;have he:=he.keep j;have s69:=s68.trans j;generalize upd H8 p (.tup [.str "told",.ref S0])=H9 at ep' B he s69 |-
  obtain⟨⟨g1,g2,g3⟩,g4⟩:=B.gp;refine⟨g,e,_,_,_,_,o,rfl,B.hp.1,⟨(Bd.mono g1:Bd 650 _).fit,(Bd.mono g2:Bd 650 _).fit,(Bd.mono g3:Bd 650 _).fit,(Bd.mono g4:Bd 650 _).fit⟩,he,rfl,?_⟩;have pn:∀{J1:Hp} {Q':VK} {E':XK},Is4 J1 e o->(∀(t l:Addr) (J2:Hp),Same J1 J2->J2 t=some (.tup [.str "told",.ref l])->J2 l=some (.lst [])->Q' (.ref t) J2)->jf2 [.non,.ref e] J1 Q' E':=fun he q=>⟨.non,e,.nil,o,0,rfl,.nil,he,by decide,trivial,by decide,xar _,(fun _ z=>nomatch z),(fun k x z=>by cases z),fun _ t l J2 rs nl s et el al=>by cases al;exact q t l J2 s et el⟩;by_cases zz:hgt (plP ps).x (plP ps).y (plP ps).z (plP ps).w o=0
  ·have hz0:hz ps o=0:=(hzz o).mp zz;rw[if_pos (by rw[zz])];refine⟨by decide,fun p3 hp3=>?_⟩;have j3:=Same.new hp3 (.tup [.str "refused",.int k]);refine⟨.ref d,e,one (k,ps),o,1,rfl,(B.keep j3).hd,he.keep j3,by show 1<9;decide,B.gd,by decide,by show 1<=800;decide,B.gd.pcs_g,fun k' x hx z _ t H10 s10 et=>?_,fun nz=>absurd hz0 (nz (k,ps) (.head _))⟩;obtain rfl:x=(k,ps):=xaB.mp (xaw hx);refine jl5 et (s10 _ _ jaf) ⟨_,rfl,?_⟩;rw[if_neg (by decide)];have s3:=j3.trans s10;refine pn (he.keep s3) fun t2 l2 H11 s11 et2 el2=>⟨xar _,fun p4 hp4=>⟨by decide,fun p5 hp5=>?_⟩⟩;have j4:=Same.new hp4 (.lst []);have j5:=Same.new hp5 (.tup [.str "told",.ref p4]);refine je6 (rs:=[]) (rs':=[]) (xs:=[]) ((j4.trans j5) _ _ et2) ((j4.trans j5) _ _ el2) .nil jaf (j5 _ _ jaf) .nil ⟨_,rfl,?_⟩;rw[if_neg (by decide)];have s4:=s11.trans (j4.trans j5);refine ixT (SqT.of (s4 _ _ et)) (i:=0) rfl ⟨rfl,?_⟩;rw[if_neg (fun z=>by injection z with z;exact absurd z (by decide +kernel))];exact sx.trans (s69.trans (s3.trans s4))
  ·have hz0:hz ps o≠0:=fun h=>zz ((hzz o).mpr h);rw[if_neg (fun z=>zz (by injection z))];refine⟨.ref d,e,one (k,ps),o,1,rfl,B.hd,he,by show 1<9;decide,B.gd,by decide,by show 1<=800;decide,B.gd.pcs_g,fun k' x hx z=>?_,fun _ t l2 H10 rs2 n2 s10 et el2 al2=>?_⟩
   ·obtain rfl:x=(k,ps):=xaB.mp (xaw hx);exact absurd z hz0
   rw[jl6] at al2;have tl:t≠l2:=fun z=>by rw[z,el2] at et;cases et
   refine je6 et el2 al2 (rs':=[r]) (s10 _ _ ep') (B.keep s10).eS (B.keep s10).pc ⟨_,rfl,?_⟩;rw[if_neg (by decide)];refine pn (he.keep s10) fun t2 l3 H11 s11 et2 el3=>⟨xar _,fun p4 hp4=>⟨by decide,fun p5 hp5=>?_⟩⟩;have j4:=Same.new hp4 (.lst []);have j5:=Same.new hp5 (.tup [.str "told",.ref p4]);refine je6 (rs:=[]) (rs':=[]) (xs:=[]) ((j4.trans j5) _ _ et2) ((j4.trans j5) _ _ el3) .nil jaf (j5 _ _ jaf) .nil ⟨_,rfl,?_⟩;rw[if_neg (by decide)];have s4:=s11.trans (j4.trans j5);refine ixT (SqT.of (s4 _ _ et)) (i:=0) rfl ⟨rfl,?_⟩;rw[if_pos rfl];refine ixT (SqT.of (s4 _ _ et)) (i:=1) rfl ⟨.inl ⟨_,SqL.of (s4 _ _ el2)⟩,l2,_,rfl,rfl,s4 _ _ el2,?_⟩;exact sx.trans (s69.trans (Same.keepN (s10.trans s4) n2 _))
 ·rintro σ Hh ⟨o11,o12,o13,o14,rfl,sx⟩;walk_at "rf";have B:=B.keep sx;refine⟨.ref d,one (k,ps),1,rfl,B.hd,by show 1<9;decide,B.gd,by decide,by show 1<=800;decide,fun l H8 rs n8 s8 el al=>?_⟩;have al:All2 (PcAt H8) rs [(k,ps)]:=al;exact jf4 (n:=false) el al (rs':=[r]) (B.keep s8).eS (B.keep s8).pc (q H8)
end
def xcOk (K:PySem.W.Frag) (C:Addr):Bool:=(PySem.W.clsIn K C).isSome&&PySem.W.findIn K (.ref C) "__getattribute__"==some (some (.builtin "BaseException.__getattribute__"))&&PySem.W.findIn K (.ref C) "__getattr__"==some none
 && PySem.W.subIn K (.ref C) (.type "BaseException")==some true&&PySem.W.findIn K (.ref C) "__class__"==some (some (.builtin "object.__class__"))&&PySem.W.specialIn K (.builtin "object.__class__") "__get__"==some (some (.builtin "getset_descriptor.__get__"))
 && PySem.W.takesIn K (.builtin "object.__class__")==some true&&PySem.W.mroIn K C (.type "object")==some true
theorem xcOk.to {K:PySem.W.Frag} {C:Addr} (h:xcOk K C=true):XCls K C:=by
 unfold xcOk at h;simp only[xaM,beq_iff_eq] at h;obtain⟨⟨⟨⟨⟨⟨⟨h1,h2⟩,h3⟩,h4⟩,h5⟩,h6⟩,h7⟩,h8⟩:=h;exact⟨h1,h2,h3,h4,h5,h6,h7,h8⟩
def xaOk (K:PySem.W.Frag) (C:Addr) (f:Str):Bool:=PySem.W.findIn K (.ref C) "__setattr__"==some (some (.builtin "object.__setattr__"))&&((PySem.W.clsIn K C).any fun cd=>jcZ cd.mro)&&PySem.W.hasDictIn K C&&PySem.W.findIn K (.ref C) f==some none
theorem xaOk.to {K:PySem.W.Frag} {C:Addr} {f:Str} (h:xaOk K C f=true):XAttr K C f:=by
 unfold xaOk at h;simp only[xaM,beq_iff_eq] at h;obtain⟨⟨⟨h1,h2⟩,h3⟩,h4⟩:=h;exact⟨h1,h2,h3,h4⟩
def clsJ (K:PySem.W.Frag) (S C:Addr) (cs:List Addr):Bool:=xcOk K C&&PySem.W.keepIn K (.ref C)&&PySem.W.exmOne K (.ref C) (.ref S)==some true&&PySem.W.kitOne K (.ref C) (.ref C)==some true&&PySem.W.kitOne K (.ref C) (.type "ValueError")==some true&&PySem.W.kitAny K (.ref C) (cs.map Value.ref)==some false
theorem clsJ.to {K:PySem.W.Frag} {C:Addr} {cs:List Addr} (h:clsJ K S C cs=true):XCls K C/\PySem.W.keepIn K (.ref C)=true/\PySem.W.exmOne K (.ref C) (.ref S)=some true/\PySem.W.kitOne K (.ref C) (.ref C)=some true/\PySem.W.kitOne K (.ref C) (.type "ValueError")=some true/\PySem.W.kitAny K (.ref C) (cs.map Value.ref)=some false:=by
 unfold clsJ at h;simp only[xaM,beq_iff_eq] at h;obtain⟨⟨⟨⟨⟨h1,h2⟩,h3⟩,h4⟩,h5⟩,h6⟩:=h;exact⟨xcOk.to h1,h2,h3,h4,h5,h6⟩
@[elab_as_elim] theorem len1 {P:List Value->Prop} (us:List Value) (hl:us.length=1) (h:∀a,P [a]):P us:=by
  cases us with
  | nil=>exact absurd hl (by decide)
  | cons a r =>
    cases r with
    | nil=>exact h a
    | cons b r=>exact absurd (Nat.succ.inj hl) (Nat.succ_ne_zero _)
@[elab_as_elim] theorem len2 {P:List Value->Prop} (us:List Value) (hl:us.length=2) (h:∀a0 a1,P [a0,a1]):P us:=by
 cases us with
 | nil=>exact absurd hl (by decide)
 | cons a0 r=>exact len1 (P:=fun r=>P (a0::r)) r (Nat.succ.inj hl) fun a1=>h a0 a1
@[elab_as_elim] theorem len3 {P:List Value->Prop} (us:List Value) (hl:us.length=3) (h:∀a0 a1 a2,P [a0,a1,a2]):P us:=by
 cases us with
 | nil=>exact absurd hl (by decide)
 | cons a0 r=>exact len2 (P:=fun r=>P (a0::r)) r (Nat.succ.inj hl) fun a1 a2=>h a0 a1 a2
@[elab_as_elim] theorem len4 {P:List Value->Prop} (us:List Value) (hl:us.length=4) (h:∀a0 a1 a2 a3,P [a0,a1,a2,a3]):P us:=by
 cases us with
 | nil=>exact absurd hl (by decide)
 | cons a0 r=>exact len3 (P:=fun r=>P (a0::r)) r (Nat.succ.inj hl) fun a1 a2 a3=>h a0 a1 a2 a3
@[elab_as_elim] theorem len5 {P:List Value->Prop} (us:List Value) (hl:us.length=5) (h:∀a0 a1 a2 a3 a4,P [a0,a1,a2,a3,a4]):P us:=by
 cases us with
 | nil=>exact absurd hl (by decide)
 | cons a0 r=>exact len4 (P:=fun r=>P (a0::r)) r (Nat.succ.inj hl) fun a1 a2 a3 a4=>h a0 a1 a2 a3 a4
inductive AtK (K:PySem.W.Frag) (x:Str) (st:Stmt):Prop
 | mk (f:Addr) (oc kV dc pm cd ct:Value) (od an:Option Addr) (sl:Array (Option Value)) (a:PySem.W.nsIn K mainGlobals x=some (some (.ref f))) (l:K.lookup f=some ⟨oc,od,.func (PySem.W.fnOf x x (jbc st) (jaT st) (jad st) .none kV dc pm an cd ct),sl⟩) (c:PySem.W.codeIn K cd x=true) (k:PySem.W.keepIn K (.ref f)=true)
local macro_rules | `(tactic| walk_at "bn") => `(tactic| first | exact fun _ _ _ _ _ _ us hl => len1 us hl fun _ => rfl | exact fun _ _ _ _ _ _ us hl => len2 us hl fun _ _ => rfl | exact fun _ _ _ _ _ _ us hl => len3 us hl fun _ _ _ => rfl | exact fun _ _ _ _ _ _ us hl => len4 us hl fun _ _ _ _ => rfl | exact fun _ _ _ _ _ _ us hl => len5 us hl fun _ _ _ _ _ => rfl)
theorem AtK.go {K:PySem.W.Frag} {h:Heap} {mg:Str->Option Value} {x:Str} {st:Stmt} {ps:List Str} (H:AtK K x st) (X:K.In h) (G:h.Ns mainGlobals mg) (hb:∀(kV doc pm:Value) (an:Option Addr) (cdv ct:Value) (us:List Value),us.length=ps.length->bindArgs (PySem.W.fnOf x x (jbc st) (jaT st) (jad st) .none kV doc pm an cdv ct) ⟨us,[]⟩=pure (ps.zip us):=by walk_at "bn"):At K mg x st ps [] :=
 let ⟨_,_,_,_,_,_,_,_,_,_,a,l,c,k⟩:=H
 at_mk X G hb a l c k
theorem jnZ {l:PySem.W.OpenLaw} {w:World} {K:PySem.W.Frag} {h:Heap} {mg:Str->Option Value} {fa CR E0 E1 fF D fG E:Addr} {t1 t2:Tok} {tD:Tok} (X:K.In h) (G:h.Ns mainGlobals mg) (hfa:mg "law"=some (.ref fa))
  {f47:Addr} {odN anN odF anF odG anG od47 an47:Option Addr} {slN slF slG sl47:Array (Option Value)} {ocN kVN dcN pmN cdN ctN ocF kVF dcF pmF cdF ctF ocG kVG dcG pmG cdG ctG oc47 kV47 dc47 pm47 cd47 ct47:Value} {oD:Obj} {nD:Nat} {oE:Obj} {nE:Nat}
  (kSE:PySem.W.nsIn K mainGlobals "SightError"=some (some (.ref SE))) (kCR:PySem.W.nsIn K mainGlobals "NotFree"=some (some (.ref CR))) (kVE:PySem.W.nsIn K mainGlobals "ValueError"=some none)
  (kE0:PySem.W.nsIn K mainGlobals "NoName"=some (some (.ref E0)))
  (kE1:PySem.W.nsIn K mainGlobals "TooMany"=some (some (.ref E1)))
  (kIN:PySem.W.findIn K (.ref CR) "__init__"=some (some (.ref fN))) (lN:K.lookup fN=some ⟨ocN,odN,.func (PySem.W.fnOf "__init__" "NotFree.__init__" (jbc jb8) (jaT jb8) (jad jb8) .none kVN dcN pmN anN cdN ctN),slN⟩) (cN:PySem.W.codeIn K cdN "NotFree.__init__"=true) (kN:PySem.W.keepIn K (.ref fN)=true) (nN:PySem.W.isFn K (.ref fN)=true)
  (rCR:clsJ K SE CR [E0,E1]=true) (xCR:jgl K CR [.type "ValueError",.type "Exception",.type "BaseException",.type "object"] "ValueError.__new__" fN=true) (wCR:xaOk K CR "board"=true)
  (aS0:PySem.W.nsIn K mainGlobals "SHORT_BITS"=some (some (.int 2000 t1)))
  (aS1:PySem.W.nsIn K mainGlobals "MOST_CORNERS"=some (some (.int 8 t2)))
  (aF:PySem.W.nsIn K mainGlobals "made_spot"=some (some (.ref fF))) (lF:K.lookup fF=some ⟨ocF,odF,.func (PySem.W.fnOf "made_spot" "made_spot" (jbc jbg) (jaT jbg) (jad jbg) (.ref D) kVF dcF pmF anF cdF ctF),slF⟩) (cF:PySem.W.codeIn K cdF "made_spot"=true) (kF:PySem.W.keepIn K (.ref fF)=true) (lD:K.lookup D=some oD) (hD:oD.data=.seq #[.int 1 tD] nD)
  (aG:PySem.W.nsIn K mainGlobals "tree_of"=some (some (.ref fG))) (lG:K.lookup fG=some ⟨ocG,odG,.func (PySem.W.fnOf "tree_of" "tree_of" (jbc jbo) (jaT jbo) (jad jbo) (.ref E) kVG dcG pmG anG cdG ctG),slG⟩) (cG:PySem.W.codeIn K cdG "tree_of"=true) (kG:PySem.W.keepIn K (.ref fG)=true) (lE:K.lookup E=some oE) (hE:oE.data=.seq #[.none] nE)
  (a0:AtK K "_law_cell_at" jbN)
  (a1:AtK K "_law_state" jcq)
  (a2:AtK K "_law_next" jc3)
  (a3:AtK K "_law_arrow" jbr)
  (a4:AtK K "_law_upright" jbO)
  (a5:AtK K "_law_raw" jbU)
  (a6:AtK K "greatest_divisor" jbn)
  (a7:AtK K "in_lowest_terms" jaY)
  (a8:AtK K "_law_corners" jaU)
  (a9:AtK K "without" jcn)
  (a10:AtK K "crossed" jd0)
  (a11:AtK K "determinant" jb3)
  (a12:AtK K "minor_of" jdq)
  (a13:AtK K "in_line" jd1)
  (a14:AtK K "rough_plane" jb4)
  (a15:AtK K "made_plane" jco)
  (a16:AtK K "is_plain" jdr)
  (a17:AtK K "turned_about" ja8)
  (a18:AtK K "plane_through" jbz)
  (a19:AtK K "sign_of" jdZ)
  (a20:AtK K "height_over" jb5)
  (a21:AtK K "side_of" jd2)
  (a22:AtK K "flat_axis" jc1)
  (a23:AtK K "side_of_edge" jbM)
  (a24:AtK K "is_convex" jc2)
  (a25:AtK K "stands_first" jbL)
  (a26:AtK K "formed" jeS)
  (a27:AtK K "made_board" jcp)
  (a28:AtK K "_law_some" jc4)
  (a29:AtK K "_law_divisor" jbP)
  (a30:AtK K "_law_plane" jaD)
  (a31:AtK K "plane_of" jds)
  (a32:AtK K "cut_by" jeT)
  (a33:AtK K "grown_with" jbH)
  (a34:AtK K "grown_by" jdt)
  (a35:AtK K "_law_whole" jcr)
  (a36:AtK K "_law_is_spot" ja9)
  (a37:AtK K "_law_is_piece" ja5)
  (a38:AtK K "_law_is_tree" jaV)
  (a39:AtK K "pieces_of" jbA)
  (a40:AtK K "_law_on_plane" ja4)
  (a41:AtK K "_law_eye" jdu)
  (a42:AtK K "_law_height" jb6)
  (a43:AtK K "first_not_free" jbt)
  (a44:AtK K "told_from" jbB)
  (a45:AtK K "painted_by" jbq)
  (a46:AtK K "_law_painted" jbQ)
  (a47:PySem.W.nsIn K mainGlobals "law"=some (some (.ref f47))) (l47:K.lookup f47=some ⟨oc47,od47,.func (PySem.W.fnOf "law" "law" (jbc jeU) (jaT jeU) (jad jeU) .none kV47 dc47 pm47 an47 cd47 ct47),sl47⟩) (c47:PySem.W.codeIn K cd47 "law"=true) (k47:PySem.W.keepIn K (.ref f47)=true)
  (z0:PySem.W.nsIn K mainGlobals "sum"=some none) (z1:PySem.W.nsIn K mainGlobals "dict"=some none) (z2:PySem.W.nsIn K mainGlobals "all"=some none) (z3:PySem.W.nsIn K mainGlobals "isinstance"=some none) (z4:PySem.W.nsIn K mainGlobals "bool"=some none) (z5:PySem.W.nsIn K mainGlobals "int"=some none) (z6:PySem.W.nsIn K mainGlobals "abs"=some none) (z7:PySem.W.nsIn K mainGlobals "max"=some none) (z8:PySem.W.nsIn K mainGlobals "min"=some none) (z9:PySem.W.nsIn K mainGlobals "len"=some none) (z10:PySem.W.nsIn K mainGlobals "range"=some none) (z11:PySem.W.nsIn K mainGlobals "tuple"=some none) (z12:PySem.W.nsIn K mainGlobals "list"=some none) (z13:PySem.W.nsIn K mainGlobals "reversed"=some none) (z14:PySem.W.nsIn K mainGlobals "enumerate"=some none) :
  ∃fd:FuncData,(∀(s:Shared) (v:Value),BindsTo s fd ⟨[v],[]⟩ [("script",v)])/\∀base:Heap,K.In base->base.Ns mainGlobals mg->FnOk l.prog w K mg base CX0 19 fa fd ["script"] (jjy K):=by
 have e:=hfa.symm.trans (PySem.W.mg_of X G a47);cases e;have T:Tx K mg t1 t2:=⟨PySem.W.mg_none_of X G z0,PySem.W.mg_none_of X G z1,PySem.W.mg_none_of X G z2,PySem.W.mg_none_of X G z3,PySem.W.mg_none_of X G z4,PySem.W.mg_none_of X G z5,PySem.W.mg_none_of X G z6,PySem.W.mg_none_of X G z7,PySem.W.mg_none_of X G z8,PySem.W.mg_none_of X G z9,PySem.W.mg_none_of X G z10,PySem.W.mg_none_of X G z11,PySem.W.mg_none_of X G z12,PySem.W.mg_none_of X G z13,PySem.W.mg_none_of X G z14,PySem.W.mg_of X G aS0,PySem.W.mg_of X G aS1⟩;have RC:=clsJ.to rCR;have TC:Tc K mg t1 t2 (fun i=>[E0,E1].getD i 0) SE fN CR:={ toTx:=T,m_ValueError:=PySem.W.mg_none_of X G kVE,m_SightError:=PySem.W.mg_of X G kSE,m_NotFree:=PySem.W.mg_of X G kCR,m_NoName:=PySem.W.mg_of X G kE0,m_TooMany:=PySem.W.mg_of X G kE1,o_NotFree:=⟨xCR,PySem.F.excBase_ValueError,nN,RC.2.1⟩,xc:=RC.1,xa:=xaOk.to wCR,em:=RC.2.2.1,kF:=RC.2.2.2.1,kV:=RC.2.2.2.2.1,kO:=RC.2.2.2.2.2 };have FN:=jeM (st:=jb8) lN cN kN;have BN:Binds K (PySem.W.fnOf "__init__" "NotFree.__init__" (jbc jb8) (jaT jb8) (jad jb8) .none kVN dcN pmN anN cdN ctN) ["self","board"] []:=.all (fun us hl=>match us,hl with | [_,_],_=>rfl);have AF:At K mg "made_spot" jbg ["x","y","z","w"] []:=jge (ds:=[]) X G (fun _ _ _ _ _ _ us hl=>match us,hl with | [_,_,_,_],_=>⟨_,rfl,rfl⟩) aF lF cF kF lD hD .nil;have AF1:At K mg "made_spot" jbg ["x","y","z","w"] [.int 1]:=jge (ds:=[.int 1 tD]) X G (fun _ _ _ _ _ _ us hl=>by
  rw[xae] at hl;have hl2:us.length=3:=by simpa using hl
  match us,hl2 with
  | [u0,u1,u2],_=>exact⟨_,rfl,rfl⟩) aF lF cF kF lD hD (.cons ⟨_,rfl⟩ .nil)
 have AG:At K mg "tree_of" jbo ["some","row"] []:=jge (ds:=[]) X G (fun _ _ _ _ _ _ us hl=>match us,hl with | [_,_],_=>⟨_,rfl,rfl⟩) aG lG cG kG lE hE .nil;have AG1:At K mg "tree_of" jbo ["some","row"] [.non]:=jge (ds:=[.none]) X G (fun _ _ _ _ _ _ us hl=>by
  rw[xae] at hl;have hl2:us.length=1:=by simpa using hl
  match us,hl2 with
  | [u0],_=>exact⟨_,rfl,rfl⟩) aG lG cG kG lE hE (.cons rfl .nil)
 have FL:=jeM (st:=jeU) l47 c47 k47;refine⟨PySem.W.fnOf "law" "law" (jbc jeU) (jaT jeU) (jad jeU) .none kV47 dc47 pm47 an47 cd47 ct47,fun s v=>.of_eq rfl,fun base _ _=>?_⟩;have D0:=jlO (P:=l.prog) (w:=w) (base:=base) T (a0.go X G);have D1:=jnp (P:=l.prog) (w:=w) (base:=base) T (a1.go X G);have D2:=ok_nx (P:=l.prog) (w:=w) (base:=base) T (a2.go X G);have D3:=jnt (P:=l.prog) (w:=w) (base:=base) T (a3.go X G) D2;have D4:=jnq (P:=l.prog) (w:=w) (base:=base) T (a4.go X G);have D5:=jnw (P:=l.prog) (w:=w) (base:=base) T (a5.go X G) D2 D3 D4;have D6:=ok_gd (P:=l.prog) (w:=w) (base:=base) T (a6.go X G);have D7:=jmU (P:=l.prog) (w:=w) (base:=base) T (a7.go X G) D6;have D8:=jnb (P:=l.prog) (w:=w) (base:=base) T AF D7;have D9:=jlV (P:=l.prog) (w:=w) (base:=base) T (a8.go X G) D8;have D10:=jhf (P:=l.prog) (w:=w) (base:=base) T (a9.go X G);have D11:=jhe (P:=l.prog) (w:=w) (base:=base) T (a10.go X G);have D12:=jmV (P:=l.prog) (w:=w) (base:=base) T (a11.go X G) D11;have D13:=jjz (P:=l.prog) (w:=w) (base:=base) T (a12.go X G) D10 D12;have D14:=jlq (P:=l.prog) (w:=w) (base:=base) T (a13.go X G) D13;have D15:=jjC (P:=l.prog) (w:=w) (base:=base) T (a14.go X G) D13;have D16:=jjD (P:=l.prog) (w:=w) (base:=base) T (a15.go X G) D7;have D17:=jjB (P:=l.prog) (w:=w) (base:=base) T (a16.go X G);have D18:=jip (P:=l.prog) (w:=w) (base:=base) T (a17.go X G);have D19:=jhg (P:=l.prog) (w:=w) (base:=base) T (a18.go X G) D15 D16 D17 D18;have D20:=jlr (P:=l.prog) (w:=w) (base:=base) T (a19.go X G);have D21:=ok_ht (P:=l.prog) (w:=w) (base:=base) T (a20.go X G);have D22:=jls (P:=l.prog) (w:=w) (base:=base) T (a21.go X G) D20 D21;have D23:=jlt (P:=l.prog) (w:=w) (base:=base) T (a22.go X G);have D24:=jlu (P:=l.prog) (w:=w) (base:=base) T (a23.go X G) D20 D13;have D25:=jmW (P:=l.prog) (w:=w) (base:=base) T (a24.go X G) D24;have D26:=jjE (P:=l.prog) (w:=w) (base:=base) T (a25.go X G);have D27:=jiq (P:=l.prog) (w:=w) (base:=base) T (a26.go X G) D26;have D28:=jjG (P:=l.prog) (w:=w) (base:=base) T (a27.go X G) D14 D19 D22 D23 D25 D27;have D29:=jlY (P:=l.prog) (w:=w) (base:=base) T (a28.go X G) D1 D5 D2 D9 D28;have D30:=jnA (P:=l.prog) (w:=w) (base:=base) T (a29.go X G);have D31:=jnF (P:=l.prog) (w:=w) (base:=base) T (a30.go X G) D4 D30;have D32:=jhh (P:=l.prog) (w:=w) (base:=base) T (a31.go X G) D19;have D33:=jj3 (P:=l.prog) (w:=w) (base:=base) T (a32.go X G);have D34:=ok_gn (P:=l.prog) (w:=w) (base:=base) T (a33.go X G) D33;have D35:=ok_go (P:=l.prog) (w:=w) (base:=base) T (a34.go X G) D32 D34;have D36:=ok_to (P:=l.prog) (w:=w) (base:=base) T AG D35;have D37:=jnX (P:=l.prog) (w:=w) (base:=base) T AG1 D35;have D38:=ok_wh (P:=l.prog) (w:=w) (base:=base) T (a35.go X G);have D39:=ok_is (P:=l.prog) (w:=w) (base:=base) T (a36.go X G) D38;have D40:=ok_ip (P:=l.prog) (w:=w) (base:=base) T (a37.go X G) D38 D39;have D41:=ok_it (P:=l.prog) (w:=w) (base:=base) T (a38.go X G) D39 D40;have D42:=jnH (P:=l.prog) (w:=w) (base:=base) T (a39.go X G);have D43:=jnP (P:=l.prog) (w:=w) (base:=base) T (a40.go X G) D8;have D44:=jnR (P:=l.prog) (w:=w) (base:=base) T (a41.go X G) D2 D3 D43 D8;have D45:=ok_hg (P:=l.prog) (w:=w) (base:=base) T (a42.go X G);have D46:=jnL (P:=l.prog) (w:=w) (base:=base) T (a43.go X G) D32 D22;have D47:=ok_tf (P:=l.prog) (w:=w) (base:=base) T (a44.go X G) D22;have D48:=jnN (P:=l.prog) (w:=w) (base:=base) TC (jj1 TC FN) BN (a45.go X G) D42 D46 D47;have D49:=jj2 (P:=l.prog) (w:=w) (base:=base) TC (a46.go X G) D48;exact jnY TC FL D0 D1 D29 D31 D36 D37 D35 D41 D42 D44 D45 D49
theorem walk {l:PySem.W.OpenLaw} {q:Program} {loose:List Str} {XP:(Str->Option Value)->Heap->Prop} {YP:World->Heap->Prop} {d:DefRec} {K:Params->PySem.W.Frag} (hn:l.most=some 63) (hdf:d.params.defaults=[])
  (hY:∀(w:World) (h:Heap),YP w h->(K w.params).In h)
  (F:∀(w:World) (mg:Str->Option Value) (fa:Addr) (h:Heap),(K w.params).In h->h.Ns mainGlobals mg->mg d.name=some (.ref fa) ->
   ∃fd:FuncData,(∀(s:Shared) (u:Value),BindsTo s fd ⟨[u],[]⟩ [("script",u)])/\∀base:Heap,(K w.params).In base->base.Ns mainGlobals mg->FnOk l.prog w (K w.params) mg base CX0 19 fa fd ["script"] (jjy (K w.params))) :
  PySem.W.WalkO q loose XP YP l.row.toRowW d [] (fun f vs=>PySem.call f vs) :=
 L2.jkZ (n:=63) (k:=19) (x:="script") (CX:=fun _=>CX0) (sp:=fun w=>jjy (K w.params)) hn (by decide) hdf ⟨rfl,by decide,by decide⟩ hY F (fun _ _ a ns hl _ hS=>⟨a,ns,rfl,hS,hl,fun _=>rfl⟩) fun _ _ _ _ _ z=>z
end My
namespace PySem.W.Fast
def tw10031921461008035818:=0
def tw10060386001238480059:=0
def tw10121719926634057833:=0
def tw10148795669443361989:=0
def tw10177707794777284522:=0
def tw10243857536265434175:=0
def tw10329829963207964254:=0
def tw10591695815752965756:=0
def tw10601888889092893136:=0
def tw10706799684174147139:=0
def tw10727146291171415673:=0
def tw1082522654503323897:=0
def tw1093111883361716464:=0
def tw11064411725705245981:=0
def tw11120281659395616153:=0
def tw11621888955613015532:=0
def tw1185322278912499345:=0
def tw11945409224675603881:=0
def tw11962663408049116377:=0
def tw12012666470147053964:=0
def tw12017737501328548231:=0
def tw12263994324393946036:=0
def tw12322376258435394132:=0
def tw12712359875859392457:=0
def tw12821848739404673195:=0
def tw12926881402768469235:=0
def tw12930577240105789162:=0
def tw12931792259385141686:=0
def tw12989129069948321775:=0
def tw1316412055006523536:=0
def tw1318691823231287774:=0
def tw13381441040747793289:=0
def tw13392121307480148870:=0
def tw13425630224330932597:=0
def tw1347073016116432048:=0
def tw13579732046082490119:=0
def tw13638320690731240438:=0
def tw1364249361989378174:=0
def tw13716882736263118047:=0
def tw13859985975445395686:=0
def tw13965479867548625520:=0
def tw14038926748890073115:=0
def tw14137671660192987856:=0
def tw14330574089094447268:=0
def tw14380164431384576727:=0
def tw14467562976393872078:=0
def tw1468131984054862939:=0
def tw14731293484557128518:=0
def tw14777431217683882539:=0
def tw14930564183068281941:=0
def tw15012279163064135734:=0
def tw15074280261856999778:=0
def tw15079480630521754487:=0
def tw15375204850783467274:=0
def tw15590604239299705515:=0
def tw15761538200310706828:=0
def tw15808920758386564484:=0
def tw15810678958473853757:=0
def tw15903420146884193275:=0
def tw16090480246064248046:=0
def tw16111046791084395151:=0
def tw16243702911953472907:=0
def tw16288674246286095915:=0
def tw16295847209352504109:=0
def tw16479151452650615597:=0
def tw16552619361158888502:=0
def tw16739651520857305172:=0
def tw16839352615136643568:=0
def tw17074679684008836133:=0
def tw17107795755939372319:=0
def tw1725234900473699407:=0
def tw17316750909097234300:=0
def tw1760186458348361269:=0
def tw17909524127403525914:=0
def tw18079817975751012394:=0
def tw18101422844260363858:=0
def tw18183410424943844684:=0
def tw1821910049276303317:=0
def tw1832859715930536697:=0
def tw1886396827443550729:=0
def tw1986699890453634613:=0
def tw2004438233307284754:=0
def tw2028421991281731976:=0
def tw2179997812693649991:=0
def tw260474400374018466:=0
def tw2783700090184012181:=0
def tw2826092426268839017:=0
def tw3119898110531893103:=0
def tw3308614441571863095:=0
def tw3506200649901495460:=0
def tw3546786081264877589:=0
def tw3656176629267726436:=0
def tw3728792714427534564:=0
def tw3956794230001566186:=0
def tw4012952557911689566:=0
def tw4040664881395946324:=0
def tw4412436486903371586:=0
def tw4480274914468770886:=0
def tw4632738384249764725:=0
def tw4742446025192595811:=0
def tw486964597011428782:=0
def tw5058806200877653919:=0
def tw5093926451945784861:=0
def tw5110593758970884065:=0
def tw5112568902758718675:=0
def tw532613635904200948:=0
def tw5536920749779805573:=0
def tw5720571397922782430:=0
def tw5993356004665107182:=0
def tw6062183682485163372:=0
def tw6072262259467657119:=0
def tw6177615145191328721:=0
def tw6538218928839328586:=0
def tw6555433485564361442:=0
def tw6621595563653865214:=0
def tw6624878215343490297:=0
def tw6757968620576139686:=0
def tw6788245911456868147:=0
def tw6849313004793584322:=0
def tw7247356643282877855:=0
def tw7268235576239211975:=0
def tw7344300562554747518:=0
def tw7748966841179246594:=0
def tw7763348504181145020:=0
def tw7974907506341973893:=0
def tw8385601380804451300:=0
def tw8439955014343771225:=0
def tw8553171908814259916:=0
def tw8838355646297303325:=0
def tw9124898636262694441:=0
def tw9197139134922981225:=0
def tw9288624101084684586:=0
def tw9479858645998823375:=0
def tw9563305858966963863:=0
def tw9770647021134775484:=0
def tw9851229636799928906:=0
end PySem.W.Fast
open PySem PySem.W PyProof.Rows
set_option maxRecDepth 100000 in
set_option maxHeartbeats 0 in
theorem PySem.Challenge.cw_boardsight_k39_a_tree_of_one_holds : PySem.Challenge.rw_boardsight_k39_a_tree_of_one.Holds := by
  w_on;o_law;k_head;(case hw=>w_witness2)
  k_fill
  refine My.walk (l:=PySem.Challenge.rw_boardsight_k39_a_tree_of_one) rfl rfl (fun w h Y=>PySem.W.kIn_of Y) ?F
  case F =>
    intro w mg fa h KX G hmg
    refine' My.jnZ KX G hmg ?kSE ?kCR ?kVE ?kE0 ?kE1 ?kIN ?lN ?cN ?kN ?nN ?rCR ?xCR ?wCR ?aS0 ?aS1 ?aF ?lF ?cF ?kF ?lD ?hD ?aG ?lG ?cG ?kG ?lE ?hE ?a0 ?a1 ?a2 ?a3 ?a4 ?a5 ?a6 ?a7 ?a8 ?a9 ?a10 ?a11 ?a12 ?a13 ?a14 ?a15 ?a16 ?a17 ?a18 ?a19 ?a20 ?a21 ?a22 ?a23 ?a24 ?a25 ?a26 ?a27 ?a28 ?a29 ?a30 ?a31 ?a32 ?a33 ?a34 ?a35 ?a36 ?a37 ?a38 ?a39 ?a40 ?a41 ?a42 ?a43 ?a44 ?a45 ?a46 ?a47 ?l47 ?c47 ?k47 ?z0 ?z1 ?z2 ?z3 ?z4 ?z5 ?z6 ?z7 ?z8 ?z9 ?z10 ?z11 ?z12 ?z13 ?z14
    (case kSE=>k_is)
    (case kCR=>k_is)
    (case kVE=>k_is)
    (case kE0=>k_is)
    (case kE1=>k_is)
    (case kIN=>k_is)
    (case lN=>k_is)
    (case cN=>k_is)
    (case kN=>k_is)
    (case nN=>k_is)
    (case rCR=>first | kernel_rfl | k_is)
    (case xCR=>first | kernel_rfl | k_is)
    (case wCR=>first | kernel_rfl | k_is)
    (case aS0=>k_is)
    (case aS1=>k_is)
    (case aF=>k_is)
    (case lF=>k_is)
    (case cF=>k_is)
    (case kF=>k_is)
    (case lD=>k_is)
    (case hD=>first | rfl | k_is)
    (case aG=>k_is)
    (case lG=>k_is)
    (case cG=>k_is)
    (case kG=>k_is)
    (case lE=>k_is)
    (case hE=>first | rfl | k_is)
    (case a47=>k_is)
    (case l47=>k_is)
    (case c47=>k_is)
    (case k47=>k_is)
    (case z0=>k_is)
    (case z1=>k_is)
    (case z2=>k_is)
    (case z3=>k_is)
    (case z4=>k_is)
    (case z5=>k_is)
    (case z6=>k_is)
    (case z7=>k_is)
    (case z8=>k_is)
    (case z9=>k_is)
    (case z10=>k_is)
    (case z11=>k_is)
    (case z12=>k_is)
    (case z13=>k_is)
    (case z14=>k_is)
    all_goals (apply My.AtK.mk;k_is;k_is;k_is;k_is)
