import PyProof.Rows.All
import Wide.All
import OpenK.AllK
import Wide.FinOn
import Lean
import PyProof.EqAt
import PyProof.EqKinds
import PyProof.TupleCall
import PySem.Challenge.RW_boardsight_k25_free_or_refused
set_option Elab.async false
set_option linter.all false
set_option maxRecDepth 100000
def xaa:=@List.length_map
def xab:=@List.getD_eq_getElem?_getD
def xac:=@List.getElem?_eq_getElem
def xad:=@List.mem_cons_of_mem
def xae:=@List.getElem?_eq_some_iff
def xaf:=@Int.mul_pos
def xag:=@Int.mul_nonneg
def xah:=@List.mem_map
def xai:=@Int.mul_eq_zero
def xaj:=@Nat.le_refl
def xak:=@Nat.mod_eq_of_lt
def xal:=@List.length_append
def xam:=@List.mem_cons
def xan:=@Int.mul_neg_of_pos_of_neg
def xao:=@Nat.lt_of_lt_of_le
def xap:=@List.map_append
def xaq:=@Int.mul_zero
def xar:=@Int.le_of_lt
def xas:=@List.size_toArray
def xat:=@Bool.false_ne_true
def xau:=@Classical.byContradiction
def xav:=@List.getElem?_map
def xaw:=@List.length_cons
def xax:=@Nat.ne_of_lt
def xay:=@List.mem_append
def xaz:=@List.filter_append
def xaA:=@Nat.mod_lt
def xaB:=@List.length_drop
def xaC:=@List.mem_singleton
def xaD:=@List.mem_of_getElem?
def xaE:=@Int.mul_neg_of_neg_of_pos
def xaF:=@Int.mul_nonpos_of_nonneg_of_nonpos
def xaG:=@Int.lt_or_gt_of_ne
def xaH:=@List.getElem?_append_right
def xaI:=@Int.mul_comm
def xaJ:=@List.take_append_drop
def xaK:=@Int.zero_mul
def xaL:=@Int.lt_or_le
def xaM:=@List.reverse_cons
def xaN:=@List.mem_cons_self
def xaO:=@List.length_take
def xaP:=@List.lookup_cons
def xaQ:=@List.range_succ
def xaR:=@List.mem_append_right
def xaS:=@List.map_cons
def xaT:=@List.filter_cons_of_pos
def xaU:=@List.mem_range
def xaV:=@List.getElem?_append_left
def xaW:=@Int.le_refl
def xaX:=@Nat.le_trans
def xaY:=@Nat.zero_le
def xaZ:=@Int.mul_ne_zero
def xa0:=@Int.neg_eq_zero
def xa1:=@Int.natAbs_ediv_le_natAbs
def xa2:=@Nat.le_of_lt
def xa3:=@Int.ediv_mul_cancel
def xa4:=@Nat.mod_self
def xa5:=@List.getElem_mem
def xa6:=@List.filter_cons_of_neg
def xa7:=@Nat.lt_of_le_of_lt
def xa8:=@Nat.not_lt_zero
def xa9:=@List.length_replicate
def xba:=@List.length_range
def xbb:=@List.mem_filter
def xbc:=@Int.emod_nonneg
def xbd:=@Int.emod_lt_of_pos
def xbe:=@List.mem_iff_getElem
def xbf:=@Int.mul_ediv_cancel'
def xbg:=@List.replicate_succ
def xbh:=@List.length_reverse
def xbi:=@List.flatMap_cons
def xbj:=@Nat.lt_irrefl
def xbk:=@Bool.and_eq_true
def xbl:=@List.filter_cons
def xbm:=@List.mem_flatMap
def xbn:=@Nat.lt_succ_of_lt
def xbo:=@Int.gcd_dvd_right
def xbp:=@Nat.add_mod_right
def xbq:=@List.filterMap_cons
def xbr:=@List.take_of_length_le
def xbs:=@Int.mul_nonpos_of_nonpos_of_nonneg
def xbt:=@List.take_length
def xbu:=@Int.gcd_dvd_left
def xbv:=@Int.dvd_trans
def xbw:=@Nat.zero_add
def xbx:=@List.mem_iff_getElem?
def xby:=@Int.neg_mul
def xbz:=@Int.mul_pos_of_neg_of_neg
def xbA:=@Bool.and_eq_true_iff
def xbB:=@List.take_add_one
def xbC:=@Int.dvd_coe_gcd
def xbD:=@Int.lt_trichotomy
def xbE:=@Int.ne_of_gt
def xbF:=@List.map_take
def xbG:=@Int.one_mul
def xbH:=@Int.mul_neg
def xbI:=@Int.natAbs_neg
def xbJ:=@List.getElem?_eq_none
def xbK:=@Nat.lt_or_ge
def xbL:=@List.flatten_cons
def xbM:=@List.map_drop
def xbN:=@Classical.not_not
def xbO:=@List.mem_append_left
def xbP:=@List.mem_of_mem_take
def xbQ:=@List.drop_left
def xbR:=@List.take_left
def xbS:=@List.map_reverse
def xbT:=@List.flatMap_append
def xbU:=@Option.isSome_iff_exists
def xbV:=@Int.pos_of_mul_pos_right
def xbW:=@Int.mul_nonneg_of_nonpos_of_nonpos
def xbX:=@Bool.eq_iff_iff
def xbY:=@List.append_nil
def xbZ:=@Nat.lt_or_gt_of_ne
def xb0:=@List.getElem?_set_self
def xb1:=@List.drop_of_length_le
def xb2:=@Nat.lt_of_succ_lt_succ
def xb3:=@List.append_assoc
def xb4:=@Nat.le_succ
def xb5:=@List.length_singleton
def xb6:=@List.length_filter_le
def xb7:=@List.getElem?_reverse
def xb8:=@List.map_map
def xb9:=@List.all_eq_true
def xca:=@List.getElem?_set_ne
def xcb:=@Nat.pow_le_pow_right
def xcc:=@List.getElem?_of_mem
def xcd:=@List.mem_of_mem_drop
def xce:=@List.sum_cons
def xcf:=@List.nodup_cons
def xcg:=@List.length_pos_iff
def xch:=@List.map_congr_left
def xci:=@Int.mul_add
def xcj:=@List.mem_filterMap
def xck:=@List.map_nil
def xcl:=@Bool.false_eq_true
def xcm:=@Int.dvd_refl
def xcn:=@Int.zero_add
def xco:=@Int.toNat_natCast
namespace L2
open PySem PySem.Spec PyProof.Rows
abbrev Key:=Sum Int Str
def jnL:Key->Value->Bool
 | .inl k,v=>Value.isInt k v
 | .inr x,v=>Value.isStrOf x v
def keyH (w:World):Key->Int
 | .inl k=>hashInt k
 | .inr x=>hashStr w x
theorem jaU:∀{k:Key} {v:Value},jnL k v=true->(∃i t,k=Sum.inl i/\v=Value.int i t)\/(∃x t,k=Sum.inr x/\v=Value.str x t)
  | .inl i, v, h => by
    obtain⟨t,e⟩:=Value.isInt_shape (k:=i) (v:=v) h;exact .inl ⟨i,t,rfl,e⟩
  | .inr x, v, h => by
    obtain⟨t,e⟩:=Value.isStrOf_shape (x:=x) (v:=v) h;exact .inr ⟨x,t,rfl,e⟩
theorem jnM (a b:Int):decide ((Sum.inl a:Key)=Sum.inl b)=(a==b):=by
 by_cases e:a=b
 ·subst e;simp
 ·have h:¬(Sum.inl a:Key)=Sum.inl b:=fun q=>e (Sum.inl.inj q);rw[decide_eq_false h];exact (beq_eq_false_iff_ne.mpr e).symm
theorem jnN (a b:Str):decide ((Sum.inr a:Key)=Sum.inr b)=decide (a=b):=by
 by_cases e:a=b
 ·subst e;simp
 ·have h:¬(Sum.inr a:Key)=Sum.inr b:=fun q=>e (Sum.inr.inj q);rw[decide_eq_false h,decide_eq_false e]
theorem jnO (a:Int) (b:Str):decide ((Sum.inl a:Key)=Sum.inr b)=false:=decide_eq_false (fun q=>nomatch q)
theorem jnP (a:Str) (b:Int):decide ((Sum.inr a:Key)=Sum.inl b)=false:=decide_eq_false (fun q=>nomatch q)
def jiq (prog:Program) (w:World):PySem.KeyKind prog w Key where
 is:=jnL
 hash:=keyH w
 inj:=fun v a b ha hb=>by
  rcases jaU ha with ⟨i,t,rfl,rfl⟩ | ⟨x,t,rfl,rfl⟩
  ·rcases jaU hb with ⟨j,u,rfl,e⟩ | ⟨y,u,rfl,e⟩
   ·injection e with e1 _;rw[e1]
   ·exact nomatch e
  ·rcases jaU hb with ⟨j,u,rfl,e⟩ | ⟨y,u,rfl,e⟩
   ·exact nomatch e
   ·injection e with e1 _;rw[e1]
 byValue:=fun k v h=>by
  rcases jaU h with ⟨i,t,rfl,rfl⟩ | ⟨x,t,rfl,rfl⟩<;>rfl
 pyHash:=fun hv h=>by
  rcases jaU hv with ⟨i,t,rfl,rfl⟩ | ⟨x,t,rfl,rfl⟩
  ·exact wpAny_pyHash_int h
  ·exact wpAny_pyHash_str h
 eqBool:=fun hu hv h=>by
  rcases jaU hu with ⟨i,t,rfl,rfl⟩ | ⟨x,t,rfl,rfl⟩
  ·rcases jaU hv with ⟨j,u,rfl,rfl⟩ | ⟨y,u,rfl,rfl⟩
   ·rw[jnM] at h;exact wpAny_eqBool_int h
   ·rw[jnO] at h;exact SeqAt.EqAt.int_str i t y u _ _ _ _ h
  ·rcases jaU hv with ⟨j,u,rfl,rfl⟩ | ⟨y,u,rfl,rfl⟩
   ·rw[jnP] at h;exact SeqAt.EqAt.str_int x t j u _ _ _ _ h
   ·rw[jnN] at h;exact wpAny_eqBool_str h
 «strs»:=fun k x t v h=>by
  rcases jaU h with ⟨i,u,rfl,e⟩ | ⟨y,u,rfl,e⟩
  ·exact nomatch e
  ·injection e with e1 _
   subst e1
   cases v<;>rfl
inductive V where
 | non | bl (b:Bool) | int (i:Int) | str (x:Str) | byt (b:Array UInt8) | flt (b:UInt64) | ref (a:Addr) | ty (n:String)
 deriving DecidableEq
def RelV:V->Value->Prop
 | .non,u=>u=Value.none
 | .bl b,u=>u=Value.bool b
 | .int i,u=>∃t,u=Value.int i t
 | .str x,u=>∃t,u=Value.str x t
 | .byt b,u=>∃t,u=Value.bytes b t
 | .flt b,u=>∃t,u=Value.float b t
 | .ref a,u=>u=Value.ref a
 | .ty n,u=>u=Value.type n
abbrev Vals:List V->List Value->Prop:=Paired RelV
theorem Vals.length {xs:List V} {us:List Value} (r:Vals xs us):xs.length=us.length:=Paired.length r
theorem Vals.get:∀{xs:List V} {us:List Value} {i:Nat} {x:V},Vals xs us->xs[i]?=some x->∃u,us[i]?=some u/\RelV x u
  | _,_,_,_,.nil,e=>by simp at e
  | _,_,0,_,.cons r _,e=>by simp at e;subst e;exact⟨_,rfl,r⟩
  | _, _, i + 1, x, .cons _ t, e => by
    obtain⟨u,h1,h2⟩:=Vals.get (i:=i) (x:=x) t (by simpa using e);exact⟨u,by simpa using h1,h2⟩
theorem Vals.set {x:V} {u:Value} (r:RelV x u):∀{xs:List V} {us:List Value} (i:Nat),Vals xs us->Vals (xs.set i x) (us.set i u)
 | _,_,_,.nil=>.nil
 | _,_,0,.cons _ t=>.cons r t
 | _,_,i+1,.cons q t=>.cons q (Vals.set r i t)
theorem Vals.append:∀{xs ys:List V} {us ws:List Value},Vals xs us->Vals ys ws->Vals (xs++ys) (us++ws)
 | _,_,_,_,.nil,s=>s
 | _,_,_,_,.cons r t,s=>.cons r (Vals.append t s)
theorem Vals.take:∀{xs:List V} {us:List Value} (n:Nat),Vals xs us->Vals (xs.take n) (us.take n)
 | _,_,0,_=>.nil
 | _,_,_+1,.nil=>.nil
 | _,_,n+1,.cons r t=>.cons r (Vals.take n t)
theorem Vals.drop:∀{xs:List V} {us:List Value} (n:Nat),Vals xs us->Vals (xs.drop n) (us.drop n)
 | _,_,0,r=>r
 | _,_,_+1,.nil=>.nil
 | _,_,n+1,.cons _ t=>Vals.drop n t
def RelO:Option V->Option Value->Prop
 | some v,some u=>RelV v u
 | none,none=>True
 | _,_=>False
def KV {κ:Type}:List (κ × V)->List (κ × Value)->Prop:=Paired fun (p:κ × V) (q:κ × Value)=>p.1=q.1/\RelV p.2 q.2
def kV:Key->V
 | .inl i=>.int i
 | .inr x=>.str x
inductive HO where
 | lst (xs:List V)
 | tup (xs:List V)
 | dK (kvs:List (Key × V)) | dT (kvs:List (List Key × V))
 | set (S:Int->Bool) (n:Nat)
 | ins (C dx:Addr) (fs:List (Str × V))
 | own (x:Addr)
 | xd (fs:List (Str × V))
 | met (f x:Addr)
 | rng (lo hi:Int)
 | frz (o:Obj) (u:HO)
 | tbl (ps:Array Value)
 | ext (φ:Heap->Prop)
abbrev Hp:=Addr->Option HO
def upd (H:Hp) (a:Addr) (o:HO):Hp:=fun b=>if b=a then some o else H b
theorem jak {H:Hp} {a:Addr} {o:HO}:upd H a o a=some o:=by unfold upd;rw[if_pos rfl]
theorem jaw {H:Hp} {a b:Addr} {o:HO} (h:b≠a):upd H a o b=H b:=by unfold upd;rw[if_neg h]
theorem ne_of {H:Hp} {a b:Addr} {o u:HO} (h:H a=some o) (h':H b=some u) (d:o≠u):a≠b:=by
 intro e;subst e;rw[h] at h';exact d (Option.some.inj h')
theorem jaD {H:Hp} {a b:Addr} {o:HO} (h:H a=some o) (h':H b=none):a≠b:=by
 intro e;subst e;rw[h] at h';cases h'
section
variable (P:Program) (w:World)
def ObjOk (H:Hp) (h:Heap) (a:Addr):HO->Prop
 | .lst xs=>xs.length<=sizeLine/\∃(its:List Value) (n:Nat),Vals xs its/\h.get? a=some { cls:=.type "list",data:=.seq its.toArray n }
 | .tup xs=>xs.length<=sizeLine/\∃its:List Value,Vals xs its/\IsTup h a its.toArray
 | .dK kvs=>kvs.length<=sizeLine/\(a==sysModules)=false/\∃vs,KV kvs vs/\h.DictOf (jiq P w) a vs
 | .dT kvs=>kvs.length <= sizeLine /\ (a==sysModules)=false /\ ∃xs:List (List Key × Addr × Value),
   Paired (fun (p:List Key × V) (q:List Key × Addr × Value)=>p.1=q.1/\H q.2.1=some (.tup (p.1.map kV))/\RelV p.2 q.2.2) kvs xs /\
   ∃o es ep,h.get? a=some o/\o.ExactDict/\o.data=.dict es ep/\es.toList=xs.map (entryOfKey (tupleKind (jiq P w)))/\(xs.map (·.1)).Nodup
 | .set S n=>h.SetOf (intKind P w) a S n
 | .ins C dx fs=>H dx=some (.own a) /\ fs.length <= 1000 /\ dx≠a /\ h.get? a=some (PySem.W.instObj C dx) /\
   ∃mA,h.Ns1 dx mA/\(∀f,RelO (fs.lookup f) (mA f))/\PySem.Within mA (fs.map (·.1))
 | .own _=>∃o,h.get? a=some o
 | .xd fs=>∃mA,h.Ns1 a mA/\∀f,RelO (fs.lookup f) (mA f)
 | .rng lo hi=>∃t u v,h.get? a=some { cls:=.type "range",data:=.fields #[.int lo t,.int hi u,.int 1 v] }
 | .frz o u=>h.get? a=some o/\ObjOk H h a u
 | .tbl ps=>h.get? a=some { cls:=.none,data:=.fields ps }
 | .met f x=>h.get? a=some (PySem.W.methodObj (.ref f) (.ref x))
 | .ext φ=>φ h/\(∃o,h.get? a=some o)/\∀h1 h2:Heap,φ h1->(∀o,h1.get? a=some o->h2.get? a=some o)->φ h2
def HOk (H:Hp) (h:Heap):Prop:=∀a o,H a=some o->ObjOk P w H h a o
end
section
variable {P:Program} {w:World} {H H':Hp} {h h':Heap} {a:Addr} {o:HO}
theorem ObjOk.lt (x:ObjOk P w H h a o):a<h.objs.size:=by
 cases o with
 | lst xs=>obtain⟨_,_,_,_,e⟩:=x;exact Heap.lt_size e
 | tup xs=>obtain⟨_,_,_,p⟩:=x;exact p.lt
 | dK kvs=>obtain⟨_,_,_,_,o,_,_,e,_⟩:=x;exact Heap.lt_size e
 | dT kvs=>obtain⟨_,_,_,_,o,_,_,e,_⟩:=x;exact Heap.lt_size e
 | set S n=>obtain⟨o,_,_,_,e,_⟩:=x;exact Heap.lt_size e
 | ins C dx fs=>obtain⟨_,_,_,e,_⟩:=x;exact Heap.lt_size e
 | own y=>obtain⟨_,e⟩:=x;exact Heap.lt_size e
 | xd fs=>obtain⟨_,⟨_,_,_,e,_⟩,_⟩:=x;exact Heap.lt_size e
 | rng lo hi=>obtain⟨_,_,_,e⟩:=x;exact Heap.lt_size e
 | frz ob u=>obtain⟨e,_⟩:=x;exact Heap.lt_size e
 | tbl ps=>exact Heap.lt_size (show h.get? a=some _ from x)
 | met f y=>exact Heap.lt_size (show h.get? a=some _ from x)
 | ext φ=>obtain⟨_,⟨_,e⟩,_⟩:=x;exact Heap.lt_size e
theorem Paired.mapP {α β:Type} {F G:α->β->Prop}:∀{l₁:List α} {l₂:List β},Paired F l₁ l₂->(∀a b,F a b->G a b)->Paired G l₁ l₂
 | _,_,.nil,_=>.nil
 | _,_,.cons r t,f=>.cons (f _ _ r) (Paired.mapP t f)
theorem ObjOk.stay (x:ObjOk P w H h a o) (k:∀b u,(b=a\/H b=some (.own a))->h.get? b=some u->h'.get? b=some u)
    (ho:∀b,H b=some (.own a)->H' b=some (.own a)) (ht:∀b xs,H b=some (.tup xs)->H' b=some (.tup xs)):ObjOk P w H' h' a o:=by
  induction o with
  | lst xs=>obtain⟨z,its,n,r,e⟩:=x;exact⟨z,its,n,r,k _ _ (.inl rfl) e⟩
  | tup xs=>obtain⟨z,its,r,ob,e,c⟩:=x;exact⟨z,its,r,ob,k _ _ (.inl rfl) e,c⟩
  | dK kvs=>obtain⟨z,y,vs,r,ob,es,ep,e,c⟩:=x;exact⟨z,y,vs,r,ob,es,ep,k _ _ (.inl rfl) e,c⟩
  | dT kvs =>
    obtain⟨z,y,xs,r,ob,es,ep,e,c⟩:=x;exact⟨z,y,xs,Paired.mapP r fun p q z=>⟨z.1,ht _ _ z.2.1,z.2.2⟩,ob,es,ep,k _ _ (.inl rfl) e,c⟩
  | set S n=>obtain⟨ob,es,ep,t,e,c⟩:=x;exact⟨ob,es,ep,t,k _ _ (.inl rfl) e,c⟩
  | ins C dx fs =>
    obtain⟨d,z,ne,e,mA,⟨od,es,ep,e2,c⟩,r⟩:=x;exact⟨ho _ d,z,ne,k _ _ (.inl rfl) e,mA,⟨od,es,ep,k _ _ (.inr d) e2,c⟩,r⟩
  | own y=>obtain⟨ob,e⟩:=x;exact⟨ob,k _ _ (.inl rfl) e⟩
  | xd fs=>obtain⟨mA,⟨od,es,ep,e,c⟩,r⟩:=x;exact⟨mA,⟨od,es,ep,k _ _ (.inl rfl) e,c⟩,r⟩
  | rng lo hi=>obtain⟨t,u,v,e⟩:=x;exact⟨t,u,v,k _ _ (.inl rfl) e⟩
  | frz ob u ih=>obtain⟨e,q⟩:=x;exact⟨k _ _ (.inl rfl) e,ih q⟩
  | tbl ps =>
    have e:h.get? a=some { cls:=.none,data:=.fields ps }:=x;show h'.get? a=some { cls:=.none,data:=.fields ps };exact k a _ (.inl rfl) e
  | met f y =>
    have e:h.get? a=some (PySem.W.methodObj (.ref f) (.ref y)):=x;show h'.get? a=some (PySem.W.methodObj (.ref f) (.ref y));exact k a _ (.inl rfl) e
  | ext φ=>obtain⟨p,⟨o,e⟩,st⟩:=x;exact⟨st _ _ p fun o q=>k _ _ (.inl rfl) q,⟨o,k _ _ (.inl rfl) e⟩,st⟩
theorem HOk.lt (x:HOk P w H h) (e:H a=some o):a<h.objs.size:=(x a o e).lt
theorem HOk.fresh (x:HOk P w H h) (e:h.objs.size<=a):H a=none:=by
 cases q:H a with
 | none=>rfl
 | some u=>exact absurd (xao (x.lt q) e) (xbj _)
theorem HOk.kept (x:HOk P w H h) (k:∀b u,h.get? b=some u->h'.get? b=some u):HOk P w H h':=fun a o e =>
 (x a o e).stay (fun b u _ q=>k b u q) (fun _ q=>q) fun _ _ q=>q
theorem HOk.laid (x:HOk P w H h) (k:∀b u,h.get? b=some u->h'.get? b=some u) (hp:h.objs.size<=a) (new:ObjOk P w (upd H a o) h' a o):HOk P w (upd H a o) h':=fun b u e=>by
 have hn:=x.fresh hp;by_cases hb:b=a
 ·subst hb;rw[jak] at e;cases e;exact new
 ·rw[jaw hb] at e;exact (x b u e).stay (fun c v _ q=>k c v q) (fun c q=>by rw[jaw (jaD q hn)];exact q) fun c xs q=>by rw[jaw (jaD q hn)];exact q
end
def Rd (H:Hp) (a:Addr) (u:HO):Prop:=H a=some u\/∃o,H a=some (.frz o u)
theorem Rd.of {H:Hp} {a:Addr} {u:HO} (h:H a=some u):Rd H a u:=.inl h
theorem Rd.ok {P:Program} {w:World} {H:Hp} {h:Heap} {a:Addr} {u:HO} (r:Rd H a u) (x:HOk P w H h):ObjOk P w H h a u:=by
 rcases r with r | ⟨o,r⟩
 ·exact x a u r
 ·obtain⟨_,q⟩:=x a _ r;exact q
def Mut:Option HO->Prop
 | some (.lst _)=>True
 | some (.dK _)=>True
 | some (.dT _)=>True
 | some (.set _ _)=>True
 | some (.ins _ _ _)=>True
 | some (.ext _)=>True
 | _=>False
section
variable {P:Program} {w:World} {H:Hp} {h h':Heap} {x e:Addr} {o':HO}
theorem HOk.write (ok:HOk P w H h) (mu:Mut (H x)) (he:e=x\/H e=some (.own x)) (k:∀b u,b≠e->h.get? b=some u->h'.get? b=some u) (heo:∃u,h'.get? e=some u)
  (new:ObjOk P w (upd H x o') h' x o'):HOk P w (upd H x o') h':=fun b u q=>by
 have nown:∀c y,H c=some (.own y)->c≠x:=fun c y r z=>by subst z;rw[r] at mu;exact mu
 have ntup:∀c xs,H c=some (.tup xs)->c≠x:=fun c xs r z=>by subst z;rw[r] at mu;exact mu
 by_cases hb:b=x
 ·subst hb;rw[jak] at q;cases q;exact new
 ·rw[jaw hb] at q;by_cases hbe:b=e
  ·have q':H b=some (.own x):=by
    rcases he with z | z
    ·exact absurd (hbe.trans z) hb
    ·rw[hbe];exact z
   rw[q] at q';cases q';obtain⟨v,hv⟩:=heo;exact⟨v,by rw[hbe];exact hv⟩
  ·refine (ok b u q).stay (fun c v hc r=>k c v ?_ r) (fun c r=>by rw[jaw (nown c b r)];exact r) fun c xs r=>by rw[jaw (ntup c xs r)];exact r
   rcases hc with rfl | hc
   ·exact hbe
   ·rintro rfl;rcases he with z | z
    ·exact nown c b hc z
    ·rw[hc] at z;cases z;exact hb rfl
end
structure Un (fs ex:List Addr) (H H':Hp) (h h':Heap):Prop where
 keep:∀b o,h.get? b=some o->H b=none->b∉fs->b∉ex->h'.get? b=some o
 slot:∀b o,h.get? b=some o->H b=none->b∈fs->b∉ex->∃sl,h'.get? b=some { o with slots:=sl }
 free:∀b o,h.get? b=some o->H b=none->b∉ex->H' b=none
 there:∀b o,h.get? b=some o->b∉ex->∃o',h'.get? b=some o'
 tups:∀b xs,H b=some (.tup xs)->H' b=some (.tup xs)
 frzs:∀b o u,H b=some (.frz o u)->H' b=some (.frz o u)
 tbls:∀b ps,H b=some (.tbl ps)->∃more,H' b=some (.tbl (ps++more))
section
variable {fs fs' ex ex':List Addr} {H H1 H2:Hp} {h h1 h2 h':Heap} {a x e:Addr} {o:HO}
theorem Un.any (u:Un fs ex H H1 h h1) {b:Addr} {ob:Obj} (q:h.get? b=some ob) (n:H b=none) (hx:b∉ex):∃sl,h1.get? b=some { ob with slots:=sl }:=by
 by_cases hb:b∈fs
 ·exact u.slot b ob q n hb hx
 ·exact⟨ob.slots,u.keep b ob q n hb hx⟩
theorem Un.trans (a:Un fs ex H H1 h h1) (b:Un fs ex H1 H2 h1 h2):Un fs ex H H2 h h2 where
 keep:=fun c ob q n hc hx=>b.keep c ob (a.keep c ob q n hc hx) (a.free c ob q n hx) hc hx
 slot:=fun c ob q n hc hx=>by
  obtain⟨sl,e1⟩:=a.slot c ob q n hc hx;obtain⟨sl',e2⟩:=b.slot c _ e1 (a.free c ob q n hx) hc hx;exact⟨sl',e2⟩
 free:=fun c ob q n hx=>by
  obtain⟨o',e1⟩:=a.there c ob q hx;exact b.free c o' e1 (a.free c ob q n hx) hx
 there:=fun c ob q hx=>by
  obtain⟨o',e1⟩:=a.there c ob q hx;exact b.there c o' e1 hx
 tups:=fun c xs q=>b.tups c xs (a.tups c xs q)
 frzs:=fun c ob xs q=>b.frzs c ob xs (a.frzs c ob xs q)
 tbls:=fun c ps q=>by
  obtain⟨m1,e1⟩:=a.tbls c ps q;obtain⟨m2,e2⟩:=b.tbls c _ e1;exact⟨m1++m2,by rw[e2,Array.append_assoc]⟩
theorem Un.kept (k:∀b u,h.get? b=some u->h'.get? b=some u):Un fs ex H H h h' :=
 ⟨fun b ob q _ _ _=>k b ob q,fun b ob q _ _ _=>⟨ob.slots,k b ob q⟩,fun _ _ _ n _=>n,fun b ob q _=>⟨ob,k b ob q⟩,fun _ _ q=>q,fun _ _ _ q=>q,fun _ ps q=>⟨#[],by rw[q];simp⟩⟩
theorem Un.refl:Un fs ex H H h h:=Un.kept fun _ _ q=>q
theorem Un.laid (k:∀b u,h.get? b=some u->h'.get? b=some u) (hp:h.objs.size<=a) (hn:H a=none):Un fs ex H (upd H a o) h h' where
 keep:=fun b u q _ _ _=>k b u q
 slot:=fun b u q _ _ _=>⟨u.slots,k b u q⟩
 free:=fun b u q n _=>by rw[jaw (xax (xao (Heap.lt_size q) hp))];exact n
 there:=fun b u q _=>⟨u,k b u q⟩
 tups:=fun b xs q=>by rw[jaw (jaD q hn)];exact q
 frzs:=fun b u xs q=>by rw[jaw (jaD q hn)];exact q
 tbls:=fun b ps q=>⟨#[],by rw[jaw (jaD q hn),q];simp⟩
theorem Un.write (mu:Mut (H x)) (he:e=x\/H e=some (.own x)) (k:∀b u,b≠e->h.get? b=some u->h'.get? b=some u) (heo:∃u,h'.get? e=some u):Un fs ex H (upd H x o) h h':=by
 have hx:∀b,H b=none->b≠x:=fun b n z=>by subst z;rw[n] at mu;exact mu
 have hb:∀b,H b=none->b≠e:=fun b n z=>by
  subst z;rcases he with r | r
  ·exact hx b n r
  ·rw[n] at r;cases r
 have hm:∀b u,H b=some u->¬Mut (some u)->b≠x:=fun b u q nm z=>by subst z;rw[q] at mu;exact nm mu
 refine⟨fun b u q n _ _=>k b u (hb b n) q,fun b u q n _ _=>⟨u.slots,k b u (hb b n) q⟩,fun b u q n _=>by rw[jaw (hx b n)];exact n,fun b u q _=>?_,
  fun b xs q=>by rw[jaw (hm b _ q fun z=>z)];exact q,fun b u xs q=>by rw[jaw (hm b _ q fun z=>z)];exact q,fun b ps q=>⟨#[],by rw[jaw (hm b _ q fun z=>z),q];simp⟩⟩
 by_cases hbe:b=e
 ·subst hbe;exact heo
 ·exact⟨u,k b u hbe q⟩
theorem Un.mono (u:Un fs ex H H1 h h1) (hs:∀b∈fs,b∈fs') (hx:∀b∈ex,b∈ex'):Un fs' ex' H H1 h h1 :=
 ⟨fun b ob q n hb he=>u.keep b ob q n (fun z=>hb (hs b z)) fun z=>he (hx b z),fun _ _ q n _ he=>u.any q n fun z=>he (hx _ z),fun b ob q n he=>u.free b ob q n fun z=>he (hx b z),fun b ob q he=>u.there b ob q fun z=>he (hx b z),u.tups,u.frzs,u.tbls⟩
end
def trk (h:Heap) (H:Hp):List Addr:=(List.range h.objs.size).filter fun a=>(H a).isSome
def jkm (h:Heap) (H:Hp):Heap:=PySem.W.hideAll h (trk h H)
theorem jir (h:Heap) (H:Hp):(jkm h H).objs.size=h.objs.size:=PySem.W.hideAll_size _ _
theorem jkn {h:Heap} {H:Hp} {b:Addr} {o:Obj} (e:h.get? b=some o) (n:H b=none):(jkm h H).get? b=some o :=
 PySem.W.hideAll_get _ e fun hm=>by
  have q:(H b).isSome=true:=(xbb.mp hm).2;rw[n] at q;simp at q
theorem jmb {h:Heap} {H:Hp} {b:Addr} {o:Obj} (e:(jkm h H).get? b=some o):h.get? b=some o/\H b=none:=by
  have e':h.get? b=some o:=PySem.W.of_hideAll (trk h H) e;refine⟨e',?_⟩;cases q:H b with
  | none=>rfl
  | some x =>
    have hm:b∈trk h H:=xbb.mpr ⟨xaU.mpr (Heap.lt_size e'),by simp [q]⟩;have z:(jkm h H).get? b=none:=PySem.W.hideAll_none (trk h H) hm;rw[z] at e;cases e
def jmc (g h:Heap) (L:Addr):List (Addr × Obj):=(List.range h.objs.size).filterMap fun a=>if a=L\/(g.get? a).isSome=true then none else (h.get? a).map fun o=>(a,o)
def rest (g h:Heap) (L d:Addr):List (Addr × Obj):=(jmc g h L).filter fun p=>decide (p.1≠d)
structure Mod (K:PySem.W.Frag) (mg:Str->Option Value) (base:Heap):Prop where
 kin:K.In base
 glob:base.Ns mainGlobals mg
 blt:∃mb,base.Ns builtinsNs mb/\∀x:Str,x≠"__name__"->mb x=bootBuiltins x
 nolimit:base.NoLimit
structure Cx where
 prog:Program
 w:World
 K:PySem.W.Frag
 mg:Str->Option Value
 base:Heap
 A:Around
 N:List Str
 s₀:Shared
 H₀:Hp
 env:Env
 outer:List Env
 stack:List Env
 ex:List Addr
 fn:Str->Bool
 calm:Bool
 pn:List (Addr × Obj)
 xe:Value->Shared->Prop
def frs (l:List Env):List Addr:=l.filterMap (·.frame)
abbrev Cx.fs (X:Cx):List Addr:=frs X.outer
def Vis (sc:Scope) (x:Str):Prop:=sc.names.lookup x=some .local\/sc.names.lookup x=some .cell\/sc.names.lookup x=some .free
def Loc (sc:Scope) (x:Str):Prop:=sc.names.lookup x=some .local\/sc.names.lookup x=some .cell
def Look (env:Env) (h:Heap) (m:Str->Option Value) (x:Str) (u:Value):Prop :=
 (env.kindOf x=some .local/\m x=some u)\/((env.kindOf x=some .cell\/env.kindOf x=some .free)/\∃c,env.cells.lookup x=some c/\h.IsCell c (some u))
structure Cx.Ok (X:Cx):Prop where
 mod:Mod X.K X.mg X.base
 kind:X.env.scope.kind=.function
 glob:X.env.globals=mainGlobals
 blt:X.env.builtins=builtinsNs
 above:X.s₀.heap.objs.size<=X.env.locals
 inj:∀x y c,X.env.cells.lookup x=some c->X.env.cells.lookup y=some c->x=y
 has:∀x,(X.env.kindOf x=some .cell\/X.env.kindOf x=some .free)->∃c,X.env.cells.lookup x=some c
 cab:∀x c,X.fn x=true->X.env.cells.lookup x=some c->X.s₀.heap.objs.size<=c
 hd:X.calm=true->X.A.handled=none
 frames:X.A.frames=some X.stack
 stk:X.stack=X.outer\/(X.stack=X.env::X.outer/\X.env.frame=some X.env.locals)
 exf:∀b∈X.ex,b≠X.env.locals/\∀x c,X.env.cells.lookup x=some c->c≠b
 bs:∀b o,X.base.get? b=some o->X.s₀.heap.get? b=some o/\X.H₀ b=none
 bsz:X.base.objs.size<=X.s₀.heap.objs.size
 noex:∀b o,X.base.get? b=some o->b∉X.ex
 exfs:∀b∈X.ex,b∉X.fs
 funs:X.s₀.heap.FunFrames X.base X.outer
 frf:∀b∈X.fs,X.H₀ b=none
structure Inv (X:Cx) (pins:List (Addr × Obj)) (σ:List (Option V)) (H:Hp) (s:Shared):Prop where
 ok:X.Ok
 os:s.os=X.s₀.os
 bare:AllBare s.gens
 base:Un X.fs X.ex X.H₀ H X.s₀.heap s.heap
 loc:∃m,s.heap.Ns X.env.locals m/\∀(i:Nat) (x:Str) (v:V),X.N[i]?=some x->σ[i]?=some (some v)->Vis X.env.scope x->∃u,RelV v u/\Look X.env s.heap m x u
 cell:∀x c,X.env.cells.lookup x=some c->∃v,s.heap.IsCell c v
 free:H X.env.locals=none
 freeC:∀x c,X.env.cells.lookup x=some c->H c=none
 pin:∀p∈X.pn++pins,s.heap.get? p.1=some p.2/\H p.1=none/\p.1≠X.env.locals/\p.1∉X.fs/\∀v,p.2.data≠.cell v
 hok:HOk X.prog X.w H s.heap
 len:σ.length=X.N.length
section
variable {X:Cx} {pins:List (Addr × Obj)} {σ:List (Option V)} {H H':Hp} {s:Shared} {h':Heap}
theorem Cx.Ok.nofr (ok:X.Ok) {b:Addr} {o:Obj} (e:X.base.get? b=some o):b∉X.fs:=fun hb=>by
 have:=(ok.funs.mem hb).1;rw[e] at this;cases this
theorem Inv.bs (I:Inv X pins σ H s):∀b o,X.base.get? b=some o->s.heap.get? b=some o/\H b=none:=fun b o e =>
 ⟨I.base.keep b o (I.ok.bs b o e).1 (I.ok.bs b o e).2 (I.ok.nofr e) (I.ok.noex b o e),I.base.free b o (I.ok.bs b o e).1 (I.ok.bs b o e).2 (I.ok.noex b o e)⟩
theorem Inv.bk (I:Inv X pins σ H s):∀b o,X.base.get? b=some o->s.heap.get? b=some o:=fun b o e=>(I.bs b o e).1
theorem Inv.mod (I:Inv X pins σ H s):Mod X.K X.mg X.base:=I.ok.mod
theorem Inv.kIn (I:Inv X pins σ H s):X.K.In s.heap:=I.ok.mod.kin.keeps I.bk
theorem Inv.nolimit (I:Inv X pins σ H s):s.heap.NoLimit:=I.ok.mod.nolimit.keeps I.bk
theorem Inv.fr (I:Inv X pins σ H s):∃m,Fr X.base X.env.locals s.heap m :=
 let ⟨m,hn,_⟩:=I.loc
 ⟨m,hn,I.bk,xaX I.ok.bsz I.ok.above⟩
theorem Inv.lt (I:Inv X pins σ H s):X.env.locals<s.heap.objs.size:=let ⟨_,hn,_⟩:=I.loc;hn.lt
theorem Inv.sz (I:Inv X pins σ H s):X.s₀.heap.objs.size<=s.heap.objs.size:=xaX I.ok.above (xa2 I.lt)
theorem Inv.nofs (I:Inv X pins σ H s) {a:Addr} (h:s.heap.objs.size<=a):a∉X.fs:=fun hb=>by
 obtain⟨_,o,ho,_⟩:=I.ok.funs.mem hb;exact absurd (xao (Heap.lt_size ho) (xaX I.sz h)) (xbj _)
theorem Inv.cne (I:Inv X pins σ H s):∀x c,X.env.cells.lookup x=some c->c≠X.env.locals:=fun x c e z=>by
 obtain⟨v,o,ho,hd⟩:=I.cell x c e;obtain⟨m,⟨o',es,ep,ho',hd',_⟩,_⟩:=I.loc;rw[z,ho'] at ho;cases ho;rw[hd'] at hd;cases hd
theorem Inv.funs (I:Inv X pins σ H s):s.heap.FunFrames X.base X.outer:=by
  have all:∀(l:List Env),(∀b∈frs l,b∈X.fs)->X.s₀.heap.FunFrames X.base l->s.heap.FunFrames X.base l:=by
    intro l;induction l with
    | nil=>intro _ _;trivial
    | cons env r ih =>
      intro hs hl;obtain⟨hk,⟨L,o,hf,hn,ho,hd⟩,hr⟩:=hl;have hL:L∈X.fs:=hs L (by unfold frs;rw[xbq,hf];exact xaN);obtain⟨sl,e⟩:=I.base.slot L o ho (I.ok.frf L hL) hL fun z=>I.ok.exfs L z hL;exact⟨hk,⟨L,_,hf,hn,e,hd⟩,ih (fun b hb=>hs b (by unfold frs;rw[xbq,hf];exact xad _ hb)) hr⟩
  exact all X.outer (fun _ hb=>hb) I.ok.funs
theorem Inv.stack (I:Inv X pins σ H s):s.heap.FunFrames X.base X.stack:=by
 rcases I.ok.stk with e | ⟨e,hf⟩
 ·rw[e];exact I.funs
 ·rw[e];obtain⟨m,hn,_⟩:=I.loc;refine .cons (by rw[I.ok.kind];decide) hf hn ?_ I.funs;exact Heap.get?_none_of_le (xaX I.ok.bsz I.ok.above)
theorem Inv.stkSub (I:Inv X pins σ H s):∀b∈frs X.stack,b∈X.env.locals::X.fs:=fun b hb=>by
 rcases I.ok.stk with e | ⟨e,hf⟩
 ·rw[e] at hb;exact xad _ hb
 ·rw[e] at hb;unfold frs at hb;rw[xbq,hf] at hb;exact hb
theorem Inv.stkFree (I:Inv X pins σ H s):∀b∈frs X.stack,H b=none:=fun b hb=>by
 rcases xam.mp (I.stkSub b hb) with e | hb
 ·rw[e];exact I.free
 ·obtain⟨_,o,ho,_⟩:=I.ok.funs.mem hb;exact I.base.free b o ho (I.ok.frf b hb) fun z=>I.ok.exfs b z hb
theorem Inv.step {g':Array GenState} {t':Nat} {d':Drawn} {ch:List Addr} (I:Inv X pins σ H s)
  (hch:∀b∈ch,(b∈X.ex\/X.s₀.heap.objs.size<=b)/\b≠X.env.locals/\(∀x c,X.env.cells.lookup x=some c->c≠b)/\∀p∈X.pn++pins,p.1≠b)
  (keep:∀b o,b≠X.env.locals->b∉X.fs->b∉ch->s.heap.get? b=some o->H b=none->h'.get? b=some o)
  (slot:∀b o,b≠X.env.locals->b∈X.fs->b∉ch->s.heap.get? b=some o->H b=none->∃sl,h'.get? b=some { o with slots:=sl }) (free:∀b o,b∉ch->s.heap.get? b=some o->H b=none->H' b=none)
  (there:∀b o,b∉ch->s.heap.get? b=some o->∃o',h'.get? b=some o')
  (tups:∀b xs,H b=some (.tup xs)->H' b=some (.tup xs)) (frzs:∀b o u,H b=some (.frz o u)->H' b=some (.frz o u)) (tbls:∀b ps,H b=some (.tbl ps)->∃more,H' b=some (.tbl (ps++more)))
  (ns:∀m,s.heap.Ns X.env.locals m->h'.Ns X.env.locals m) (hok:HOk X.prog X.w H' h') (hg:AllBare g') :
  Inv X pins σ H' { s with heap:=h',gens:=g',drawn:=d',toks:=t' }:=by
 have neL:∀b o,X.s₀.heap.get? b=some o->b≠X.env.locals:=fun b o e=>xax (xao (Heap.lt_size e) I.ok.above);have neC:∀b o,X.s₀.heap.get? b=some o->b∉X.ex->b∉ch:=fun b o e hx hb=>by
  rcases (hch b hb).1 with z | z
  ·exact hx z
  ·exact absurd (xao (Heap.lt_size e) z) (xbj _)
 have cellK:∀x c,X.env.cells.lookup x=some c->∀v,s.heap.IsCell c v->h'.IsCell c v:=fun x c e v ⟨o,ho,hd⟩=>by
  have nch:c∉ch:=fun z=>(hch c z).2.2.1 x c e rfl;by_cases hc:c∈X.fs
  ·obtain⟨sl,q⟩:=slot c o (I.cne x c e) hc nch ho (I.freeC x c e);exact⟨_,q,hd⟩
  ·exact⟨o,keep c o (I.cne x c e) hc nch ho (I.freeC x c e),hd⟩
 refine⟨I.ok,I.os,hg,⟨fun b o e n hb hx=>?_,fun b o e n hb hx=>?_,fun b o e n hx=>?_,fun b o e hx=>?_,fun b xs e=>tups b xs (I.base.tups b xs e),fun b o xs e=>frzs b o xs (I.base.frzs b o xs e),fun b ps e=>?_⟩,?_,fun x c e=>?_,?_,fun x c e=>?_,fun p hp=>?_,hok,I.len⟩
 ·exact keep b o (neL b o e) hb (neC b o e hx) (I.base.keep b o e n hb hx) (I.base.free b o e n hx)
 ·obtain⟨sl,e1⟩:=I.base.slot b o e n hb hx;obtain⟨sl',e2⟩:=slot b _ (neL b o e) hb (neC b o e hx) e1 (I.base.free b o e n hx);exact⟨sl',e2⟩
 ·obtain⟨o',e1⟩:=I.base.there b o e hx;exact free b o' (neC b o e hx) e1 (I.base.free b o e n hx)
 ·obtain⟨o',e1⟩:=I.base.there b o e hx;exact there b o' (neC b o e hx) e1
 ·obtain⟨m1,e1⟩:=I.base.tbls b ps e;obtain⟨m2,e2⟩:=tbls b _ e1;exact⟨m1++m2,by rw[e2,Array.append_assoc]⟩
 ·obtain⟨m,hn,hl⟩:=I.loc;refine⟨m,ns m hn,fun i x v e1 e2 e3=>?_⟩;obtain⟨u,r,l⟩:=hl i x v e1 e2 e3;refine⟨u,r,?_⟩;rcases l with l | ⟨k,c,e,z⟩
  ·exact .inl l
  ·exact .inr ⟨k,c,e,cellK x c e _ z⟩
 ·obtain⟨v,z⟩:=I.cell x c e;exact⟨v,cellK x c e v z⟩
 ·obtain⟨m,⟨o,_,_,ho,_⟩,_⟩:=I.loc;exact free _ o (fun z=>(hch _ z).2.1 rfl) ho I.free
 ·obtain⟨v,o,ho,hd⟩:=I.cell x c e;exact free c o (fun z=>(hch c z).2.2.1 x c e rfl) ho (I.freeC x c e)
 ·obtain⟨e,n,ne,nf,d⟩:=I.pin p hp;have nch:p.1∉ch:=fun z=>(hch p.1 z).2.2.2 p hp rfl;exact⟨keep p.1 p.2 ne nf nch e n,free p.1 p.2 nch e n,ne,nf,d⟩
theorem Inv.un {t':Nat} (I:Inv X pins σ H s) (u:Un X.fs [] H H' s.heap h') (hok:HOk X.prog X.w H' h'):Inv X pins σ H' { s with heap:=h',toks:=t' }:=by
 obtain⟨m,⟨o,es,ep,ho,r⟩,_⟩:=id I.loc;obtain⟨sl,hL⟩:=u.any ho I.free (by simp);exact I.step (g':=s.gens) (d':=s.drawn) (ch:=[]) (fun _ z=>nomatch z) (fun b o _ hb _ e n=>u.keep b o e n hb (by simp)) (fun b o _ hb _ e n=>u.slot b o e n hb (by simp)) (fun b o _ e n=>u.free b o e n (by simp)) (fun b o _ e=>u.there b o e (by simp)) u.tups u.frzs u.tbls (fun m' hm=>by
  obtain⟨o',es',ep',ho',r'⟩:=hm;rw[ho] at ho';cases ho';exact⟨_,es',ep',hL,r'⟩) hok I.bare
theorem Inv.call {g':Array GenState} {t':Nat} {d':Drawn} {ch:List Addr} (I:Inv X pins σ H s) (u:Un (frs X.stack) ch H H' s.heap h') (hok:HOk X.prog X.w H' h') (hg:AllBare g')
  (hch:∀b∈ch,(b∈X.ex\/X.s₀.heap.objs.size<=b)/\b≠X.env.locals/\(∀x c,X.env.cells.lookup x=some c->c≠b)/\∀p∈X.pn++pins,p.1≠b) :
  Inv X pins σ H' { s with heap:=h',gens:=g',drawn:=d',toks:=t' }:=by
 obtain⟨m,⟨o,es,ep,ho,r⟩,_⟩:=id I.loc;obtain⟨sl,hL⟩:=u.any ho I.free fun z=>(hch _ z).2.1 rfl;exact I.step (ch:=ch) hch (fun b o hL hb hc e n=>u.keep b o e n (fun z=>(xam.mp (I.stkSub b z)).elim hL hb) hc) (fun b o _ _ hc e n=>u.any e n hc) (fun b o hc e n=>u.free b o e n hc) (fun b o hc e=>u.there b o e hc) u.tups u.frzs u.tbls (fun m' hm=>by
  obtain⟨o',es',ep',ho',r'⟩:=hm;rw[ho] at ho';cases ho';exact⟨_,es',ep',hL,r'⟩) hok hg
theorem Inv.turned {t':Nat} {it:Addr} (I:Inv X pins σ H s) (k:∀b o,b≠it->s.heap.get? b=some o->h'.get? b=some o) (hn:H it=none) (hL:it≠X.env.locals)
  (h1:it∈X.ex\/X.s₀.heap.objs.size<=it) (h2:∀x c,X.env.cells.lookup x=some c->c≠it) (h3:∀p∈X.pn++pins,p.1≠it):Inv X pins σ H { s with heap:=h',toks:=t' }:=by
 have nit:∀b u,H b=some u->b≠it:=fun b u e z=>by rw[z,hn] at e;cases e
 refine I.step (g':=s.gens) (d':=s.drawn) (ch:=[it]) (fun b hb=>?_) (fun b o _ _ hc e _=>k b o (fun z=>hc (by simp [z])) e) (fun b o _ _ hc e _=>⟨o.slots,k b o (fun z=>hc (by simp [z])) e⟩) (fun _ _ _ _ n=>n)
  (fun b o hc e=>⟨o,k b o (fun z=>hc (by simp [z])) e⟩) (fun _ _ e=>e) (fun _ _ _ e=>e) (fun b ps e=>⟨#[],by rw[e];simp⟩) (fun m hm=>?_) (fun b u e=>?_) I.bare
 ·have e:b=it:=by simpa using hb
  subst e;exact⟨h1,hL,h2,h3⟩
 ·obtain⟨o,es,ep,ho,r⟩:=hm;exact⟨o,es,ep,k _ o (Ne.symm hL) ho,r⟩
 ·refine (I.hok b u e).stay (fun c v hc q=>k c v ?_ q) (fun _ q=>q) fun _ _ q=>q;rcases hc with z | z
  ·rw[z];exact nit b u e
  ·exact nit c _ z
theorem Inv.tok (I:Inv X pins σ H s) (t:Nat):Inv X pins σ H { s with toks:=t }:=I.un (h':=s.heap) (t':=t) Un.refl I.hok
theorem Inv.kept {t':Nat} (I:Inv X pins σ H s) (k:∀b u,s.heap.get? b=some u->h'.get? b=some u):Inv X pins σ H { s with heap:=h',toks:=t' }:=I.un (Un.kept k) (I.hok.kept k)
theorem Inv.laid {a:Addr} {o:HO} {t':Nat} (I:Inv X pins σ H s) (k:∀b u,s.heap.get? b=some u->h'.get? b=some u) (hp:s.heap.objs.size<=a) (new:ObjOk X.prog X.w (upd H a o) h' a o) :
  Inv X pins σ (upd H a o) { s with heap:=h',toks:=t' }:=I.un (Un.laid k hp (I.hok.fresh hp)) (I.hok.laid k hp new)
theorem Inv.write {x e:Addr} {o:HO} {t':Nat} (I:Inv X pins σ H s) (mu:Mut (H x)) (he:e=x\/H e=some (.own x)) (k:∀b u,b≠e->s.heap.get? b=some u->h'.get? b=some u) (heo:∃u,h'.get? e=some u)
  (new:ObjOk X.prog X.w (upd H x o) h' x o):Inv X pins σ (upd H x o) { s with heap:=h',toks:=t' }:=I.un (Un.write mu he k heo) (I.hok.write mu he k heo new)
theorem Inv.pins_of {pins':List (Addr × Obj)} (I:Inv X pins σ H s) (h:∀p∈pins',s.heap.get? p.1=some p.2/\H p.1=none/\p.1≠X.env.locals/\p.1∉X.fs/\∀v,p.2.data≠.cell v):Inv X pins' σ H s :=
 ⟨I.ok,I.os,I.bare,I.base,I.loc,I.cell,I.free,I.freeC,fun p hp=>(xay.mp hp).elim (fun z=>I.pin p (xbO _ z)) (h p),I.hok,I.len⟩
theorem jfz {N:List Str} (hN:N.Nodup) {i j:Nat} {x:Str} (a:N[i]?=some x) (b:N[j]?=some x):i=j:=by
 obtain⟨h1,e1⟩:=xae.mp a;obtain⟨h2,e2⟩:=xae.mp b;exact (List.getElem_inj hN).mp (e1.trans e2.symm)
theorem jf5 {M:Model} {A:Around} {E:Value->Shared->Prop} {i:Nat} {x:Str} {v:V} {u:Value} {Q:Unit->Shared->Prop} (I:Inv X pins σ H s) (hN:X.N.Nodup) (hi:X.N[i]?=some x) (hx:Loc X.env.scope x) (r:RelV v u)
  (h:∀s',Inv X pins (σ.set i (some v)) H s'->(∃a,Heap.SameBut a s.heap s'.heap/\(a=X.env.locals\/X.env.cells.lookup x=some a))->Q () s') (hf:X.fn x=true\/X.env.scope.names.lookup x=some .local:=by first | exact .inl rfl | exact .inr rfl | assumption):wpAny M A (storeName X.env x u) Q E s:=by
 obtain⟨m,hn,hl⟩:=id I.loc;have hcls:(X.env.scope.kind==.class||(X.env.scope.kind==.module&&X.env.locals != X.env.globals))=false:=by rw[I.ok.kind];rfl
 have hiσ:i<σ.length:=by rw[I.len];exact (xae.mp hi).1
 have cne:=I.cne;have tracked:∀{a:Addr} {h':Heap},(∃o,s.heap.get? a=some o/\H a=none)->Heap.SameBut a s.heap h'->HOk X.prog X.w H h':=fun {a h'} ha hs b ob e=>by
  obtain⟨_,_,hfree⟩:=ha;refine (I.hok b ob e).stay (fun c w' hc q=>(hs.2 c ?_).trans q) (fun _ q=>q) fun _ _ q=>q;rintro rfl;rcases hc with rfl | hc
  ·rw[hfree] at e;cases e
  ·rw[hfree] at hc;cases hc
 rcases hx with hk | hk
 ·refine wpAny_storeName_local hk hn (fun h' hn' hs=>?_) hcls;obtain⟨oL,_,_,hoL,_⟩:=id hn;refine h _ ⟨I.ok,I.os,I.bare,⟨fun b o e n hb hx=>?_,fun b o e n hb hx=>?_,I.base.free,fun b o e hx=>?_,I.base.tups,I.base.frzs,I.base.tbls⟩,⟨_,hn',fun j y v' e1 e2 e3=>?_⟩,fun y c e=>?_,I.free,I.freeC,fun p hp=>?_,tracked ⟨oL,hoL,I.free⟩ hs,by simpa using I.len⟩ ⟨_,hs,.inl rfl⟩
  ·exact (hs.2 b (xax (xao (Heap.lt_size e) I.ok.above))).trans (I.base.keep b o e n hb hx)
  ·obtain⟨sl,e1⟩:=I.base.slot b o e n hb hx;exact⟨sl,(hs.2 b (xax (xao (Heap.lt_size e) I.ok.above))).trans e1⟩
  ·obtain⟨o',e1⟩:=I.base.there b o e hx;exact⟨o',(hs.2 b (xax (xao (Heap.lt_size e) I.ok.above))).trans e1⟩
  ·by_cases hj:j=i
   ·subst hj;rw[hi] at e1;cases e1;rw[xb0 hiσ] at e2;cases e2;exact⟨u,r,.inl ⟨hk,by simp⟩⟩
   ·rw[xca (Ne.symm hj)] at e2;obtain⟨u',r',q⟩:=hl j y v' e1 e2 e3;refine⟨u',r',?_⟩;rcases q with ⟨k,e⟩ | ⟨k,c,e,z⟩
    ·refine .inl ⟨k,?_⟩;have:y≠x:=fun e=>hj (jfz hN e1 (e▸hi));simp [this,e]
    ·exact .inr ⟨k,c,e,z.sameBut hs (cne y c e)⟩
  ·obtain⟨w',z⟩:=I.cell y c e;exact⟨w',z.sameBut hs (cne y c e)⟩
  ·obtain⟨e,n,ne,nf,d⟩:=I.pin p hp;exact⟨(hs.2 p.1 ne).trans e,n,ne,nf,d⟩
 ·have hfn:X.fn x=true:=by
   rcases hf with z | z
   ·exact z
   ·rw[z] at hk;cases hk
  obtain⟨c,hc⟩:=I.ok.has x (.inl hk);obtain⟨w',z⟩:=I.cell x c hc;refine wpAny_storeName_cell I.ok.kind hk hc z (fun h' hc' hs=>?_);obtain⟨oc,hoc,hocd⟩:=id z;refine h { s with heap:=h' } ⟨I.ok,I.os,I.bare,⟨fun b o e n hb hx=>?_,fun b o e n hb hx=>?_,I.base.free,fun b o e hx=>?_,I.base.tups,I.base.frzs,I.base.tbls⟩,⟨m,hn.sameBut hs (Ne.symm (cne x c hc)),fun j y v' e1 e2 e3=>?_⟩,fun y c' e=>?_,I.free,I.freeC,fun p hp=>?_,tracked ⟨oc,hoc,I.freeC x c hc⟩ hs,by simpa using I.len⟩ ⟨c,hs,.inr hc⟩
  ·exact (hs.2 b (xax (xao (Heap.lt_size e) (I.ok.cab x c hfn hc)))).trans (I.base.keep b o e n hb hx)
  ·obtain⟨sl,e1⟩:=I.base.slot b o e n hb hx;exact⟨sl,(hs.2 b (xax (xao (Heap.lt_size e) (I.ok.cab x c hfn hc)))).trans e1⟩
  ·obtain⟨o',e1⟩:=I.base.there b o e hx;exact⟨o',(hs.2 b (xax (xao (Heap.lt_size e) (I.ok.cab x c hfn hc)))).trans e1⟩
  ·by_cases hj:j=i
   ·subst hj;rw[hi] at e1;cases e1;rw[xb0 hiσ] at e2;cases e2;exact⟨u,r,.inr ⟨.inl hk,c,hc,hc'⟩⟩
   ·rw[xca (Ne.symm hj)] at e2;obtain⟨u',r',q⟩:=hl j y v' e1 e2 e3;refine⟨u',r',?_⟩;rcases q with q | ⟨k,c',e,z'⟩
    ·exact .inl q
    ·refine .inr ⟨k,c',e,z'.sameBut hs ?_⟩;rintro rfl;exact hj (jfz hN e1 (I.ok.inj _ _ _ e hc▸hi))
  ·by_cases hcc:c'=c
   ·subst hcc;exact⟨_,hc'⟩
   ·obtain⟨w2,z2⟩:=I.cell y c' e;exact⟨w2,z2.sameBut hs hcc⟩
  ·obtain⟨e,n,ne,nf,d⟩:=I.pin p hp;refine⟨(hs.2 p.1 ?_).trans e,n,ne,nf,d⟩;intro q;rw[q,hoc] at e;have q':oc=p.2:=Option.some.inj e;exact d w' (by rw[<- q'];exact hocd)
theorem jdr {M:Model} {A:Around} {E:Value->Shared->Prop} {i:Nat} {x:Str} {v:V} {u:Value} {Q:Unit->Shared->Prop} (I:Inv X pins σ H s) (hN:X.N.Nodup) (hi:X.N[i]?=some x) (hx:Loc X.env.scope x) (r:RelV v u)
  (h:∀s',Inv X pins (σ.set i (some v)) H s'->Q () s') (hf:X.fn x=true\/X.env.scope.names.lookup x=some .local:=by first | exact .inl rfl | exact .inr rfl | assumption):wpAny M A (storeName X.env x u) Q E s :=
 jf5 I hN hi hx r (fun s' I' _=>h s' I') hf
theorem Inv.call' {s':Shared} {ch:List Addr} (I:Inv X pins σ H s) (ho:s'.os=s.os) (u:Un (frs X.stack) ch H H' s.heap s'.heap) (hok:HOk X.prog X.w H' s'.heap) (hg:AllBare s'.gens)
  (hch:∀b∈ch,(b∈X.ex\/X.s₀.heap.objs.size<=b)/\b≠X.env.locals/\(∀x c,X.env.cells.lookup x=some c->c≠b)/\∀p∈X.pn++pins,p.1≠b):Inv X pins σ H' s':=by
 obtain⟨h',g',d',t',o'⟩:=s';have e:o'=s.os:=ho;subst e;exact I.call (g':=g') (t':=t') (d':=d') u hok hg hch
end
abbrev XK:=Value->Option Addr->Hp->Prop
abbrev St:=List (Option V)
abbrev VK:=V->Hp->Prop
abbrev TE:=St->Hp->VK->Prop
abbrev TT:=St->Hp->(Bool->Hp->Prop)->Prop
abbrev TA:=St->Hp->(List V->Hp->Prop)->Prop
structure Ends where
 nx:St->Hp->Prop
 rt:VK
 bk:St->Hp->Prop:=fun _ _=>False
 ct:St->Hp->Prop:=fun _ _=>False
abbrev TS:=Ends->St->Hp->Prop
def EP (X:Cx) (pins:List (Addr × Obj)) (σ:St) (Q:VK) (u:Value) (s':Shared):Prop:=∃v H',Inv X pins σ H' s'/\RelV v u/\Q v H'
def TP (X:Cx) (pins:List (Addr × Obj)) (σ:St) (Q:Bool->Hp->Prop) (b:Bool) (s':Shared):Prop:=∃H',Inv X pins σ H' s'/\Q b H'
def AP (X:Cx) (pins:List (Addr × Obj)) (σ:St) (Q:List V->Hp->Prop) (us:List Value) (s':Shared):Prop:=∃vs H',Inv X pins σ H' s'/\Vals vs us/\Q vs H'
def SP (X:Cx) (pins:List (Addr × Obj)) (D:Ends) (f:Flow) (s':Shared):Prop :=
 match f with
 | .next=>∃σ' H',Inv X pins σ' H' s'/\D.nx σ' H'
 | .brk=>∃σ' H',Inv X pins σ' H' s'/\D.bk σ' H'
 | .cont=>∃σ' H',Inv X pins σ' H' s'/\D.ct σ' H'
 | .ret u=>∃v σ' H',Inv X pins σ' H' s'/\RelV v u/\D.rt v H'
def PE (X:Cx) (e:Expr) (t:TE):Prop :=
 ∀(pins:List (Addr × Obj)) (s:Shared) (σ:St) (H:Hp) (Q:VK),Inv X pins σ H s->t σ H Q->wpAny (model X.prog X.w) X.A (eval e X.env) (EP X pins σ Q) X.xe s
def PT (X:Cx) (e:Expr) (t:TT):Prop :=
 ∀(pins:List (Addr × Obj)) (s:Shared) (σ:St) (H:Hp) (Q:Bool->Hp->Prop),Inv X pins σ H s->t σ H Q->wpAny (model X.prog X.w) X.A (isTrue e X.env (eval e X.env)) (TP X pins σ Q) X.xe s
def PW (X:Cx) (e:Expr) (t:TT):Prop :=
 ∀(whole:Sem Value) (pins:List (Addr × Obj)) (s:Shared) (σ:St) (H:Hp) (Q:Bool->Hp->Prop),Inv X pins σ H s->t σ H Q->wpAny (model X.prog X.w) X.A (isTrue e X.env whole) (TP X pins σ Q) X.xe s
theorem PW.pt {X:Cx} {e:Expr} {t:TT} (h:PW X e t):PT X e t:=h _
def PA (X:Cx) (es:List Expr) (t:TA):Prop :=
 ∀(pos:Pos) (pins:List (Addr × Obj)) (s:Shared) (σ:St) (H:Hp) (Q:List V->Hp->Prop),Inv X pins σ H s->t σ H Q->wpAny (model X.prog X.w) X.A (spliced (backTo pos (starEach es X.env))) (AP X pins σ Q) X.xe s
def PS (X:Cx) (st:Stmt) (t:TS):Prop :=
 ∀(pins:List (Addr × Obj)) (s:Shared) (σ:St) (H:Hp) (D:Ends),Inv X pins σ H s->t D σ H->wpAny (model X.prog X.w) X.A (exec st X.env) (SP X pins D) X.xe s
def PSs (X:Cx) (st:List Stmt) (t:TS):Prop :=
 ∀(pins:List (Addr × Obj)) (s:Shared) (σ:St) (H:Hp) (D:Ends),Inv X pins σ H s->t D σ H->wpAny (model X.prog X.w) X.A (execs st X.env) (SP X pins D) X.xe s
theorem thn {α:Type} {t:Sem α} {Q Q':α->Shared->Prop} {M:Model} {A:Around} {E:Value->Shared->Prop} {s:Shared} (h:wpAny M A t Q E s) (hQ:∀a s,Q a s->Q' a s):wpAny M A t Q' E s:=wpAny_mono h hQ fun _ _ x=>x
section
variable {X:Cx}
def jfc (i:Nat):TE:=fun σ H Q=>∃v,σ[i]?=some (some v)/\Q v H
def tC (v:V):TE:=fun _ H Q=>Q v H
theorem jnQ {i:Nat} {x:Str} {pos:Pos} (hN:X.N[i]?=some x) (hv:Vis X.env.scope x) (hd:(x==("__debug__":Str))=false:=by decide) (hcd:(x==("__classdict__":Str))=false:=by decide):PE X (.Name x pos) (jfc i):=by
 intro pins s σ H Q I h;obtain⟨v,e,h⟩:=h;obtain⟨m,hn,hl⟩:=I.loc;obtain⟨u,r,l⟩:=hl i x v hN e hv;have fin:EP X pins σ Q u s:=⟨v,H,I,r,h⟩;rcases l with ⟨hk,hm⟩ | ⟨hk,c,hc,hcell⟩
 ·exact wpAny_Name (wpAny_loadName_local I.ok.kind hk hn hm fin) hd
 ·rcases hk with hk | hk
  ·exact wpAny_Name (wpAny_loadName_cell I.ok.kind hk hc hcell fin) hd
  ·exact wpAny_Name (wpAny_loadName_free I.ok.kind hk hc hcell fin hcd) hd
theorem jab {i j pos}:PE X (.Constant (.int i) j pos) (tC (.int i)):=fun _ _ _ H _ I h=>wpAny_Constant_int ⟨.int i,H,I.tok _,⟨_,rfl⟩,h⟩
theorem jf6 {b j pos}:PE X (.Constant (.bool b) j pos) (tC (.bl b)):=fun _ _ _ H _ I h=>Constant_bool ⟨.bl b,H,I,rfl,h⟩
theorem jcm {j pos}:PE X (.Constant .none j pos) (tC .non):=fun _ _ _ H _ I h=>Constant_none ⟨.non,H,I,rfl,h⟩
theorem jd7 {x j pos}:PE X (.Constant (.str x) j pos) (tC (.str x)):=fun _ _ _ H _ I h=>Calls.Constant_str ⟨.str x,H,I.tok _,⟨_,rfl⟩,h⟩
def Gl (X:Cx) (x:Str):Prop:=X.env.kindOf x=some .globalImplicit
theorem jer {E:Value->Shared->Prop} {pins:List (Addr × Obj)} {s:Shared} {σ:St} {H:Hp} {x:Str} {u:Value} {pos:Pos} {Q:Value->Shared->Prop} (I:Inv X pins σ H s) (hg:Gl X x) (hm:X.mg x=some u) (h:Q u s)
  (hd:(x==("__debug__":Str))=false:=by decide):wpAny (model X.prog X.w) X.A (eval (.Name x pos) X.env) Q E s :=
 Calls.Name_function_global I.ok.kind hg (Calls.loadGlobal_global (by rw[I.ok.glob];exact I.mod.glob.keeps I.bk) hm h) hd
theorem jd8 {E:Value->Shared->Prop} {pins:List (Addr × Obj)} {s:Shared} {σ:St} {H:Hp} {x:Str} {u:Value} {pos:Pos} {Q:Value->Shared->Prop} (I:Inv X pins σ H s) (hg:Gl X x) (hm:X.mg x=none) (hv:bootBuiltins x=some u) (h:Q u s)
  (hn:x≠"__name__":=by decide) (hd:(x==("__debug__":Str))=false:=by decide):wpAny (model X.prog X.w) X.A (eval (.Name x pos) X.env) Q E s:=by
 obtain⟨mb,h1,h2⟩:=I.mod.blt;exact Calls.Name_function_global I.ok.kind hg (Calls.loadGlobal_builtin (by rw[I.ok.glob];exact I.mod.glob.keeps I.bk) hm (by rw[I.ok.blt];exact h1.keeps I.bk) ((h2 x hn).trans hv) h) hd
theorem jdK {x:Str} {v:V} {u:Value} {pos:Pos} (hg:Gl X x) (hm:X.mg x=some u) (r:RelV v u) (hd:(x==("__debug__":Str))=false:=by decide):PE X (.Name x pos) (tC v) :=
 fun _ _ _ H _ I h=>jer I hg hm ⟨v,H,I,r,h⟩ hd
theorem jgL {x:Str} {v:V} {u:Value} {pos:Pos} (hg:Gl X x) (hm:X.mg x=none) (hv:bootBuiltins x=some u) (r:RelV v u) (hn:x≠"__name__":=by decide) (hd:(x==("__debug__":Str))=false:=by decide):PE X (.Name x pos) (tC v) :=
 fun _ _ _ H _ I h=>jd8 I hg hm hv ⟨v,H,I,r,h⟩ hn hd
variable {a b:Expr} {ta tb:TE} {pos:Pos}
def tB (t:TE):TT:=fun σ H Q=>t σ H fun x H1=>∃c,x=.bl c/\Q c H1
theorem jb2 {e:Expr} {t:TE} (h:PE X e t) (he:∀whole,isTrue e X.env whole=(do let v <- whole;standAt e.pos;holding [v] (truthy v)):=by intro _;rfl):PT X e (tB t):=by
 intro pins s σ H Q I hw;refine isTrue_plain (thn (h pins s σ H _ I hw) fun v s1 ⟨x,H1,I1,r1,q1⟩=>?_) (he _);obtain⟨d,rfl,q⟩:=q1;cases r1;exact wpAny_truthy_bool ⟨H1,I1,q⟩
variable {tA tB':TT} {rest:List Expr}
def jnR (t u:TT):TT:=fun σ H Q=>t σ H fun c H1=>if c=true then u σ H1 Q else Q false H1
def tOr (t u:TT):TT:=fun σ H Q=>t σ H fun c H1=>if c=true then Q true H1 else u σ H1 Q
def jnS (t:TT):TT:=fun σ H Q=>t σ H fun c H1=>Q (!c) H1
theorem jis (ha:PT X a tA):PW X (.BoolOp .And [a] pos) tA:=by
 intro wh pins s σ H Q I h;refine isTrue_and (thn (ha pins s σ H Q I h) fun c s1 e=>?_);cases c with
 | true=>exact isTrue_and_nil e
 | false=>exact e
theorem jhn (ha:PT X a tA):PW X (.BoolOp .Or [a] pos) tA:=by
 intro wh pins s σ H Q I h;refine isTrue_or (thn (ha pins s σ H Q I h) fun c s1 e=>?_);cases c with
 | false=>exact isTrue_or_nil e
 | true=>exact e
theorem jit (ha:PT X a tA) (hb:PW X (.BoolOp .And (b::rest) pos) tB'):PW X (.BoolOp .And (a::b::rest) pos) (jnR tA tB'):=by
 intro wh pins s σ H Q I h;refine isTrue_and (thn (ha pins s σ H _ I h) fun c s1 ⟨H1,I1,q1⟩=>?_);cases c with
 | true=>exact hb wh pins s1 σ H1 Q I1 q1
 | false=>exact⟨H1,I1,q1⟩
theorem jgM (ha:PT X a tA) (hb:PW X (.BoolOp .Or (b::rest) pos) tB'):PW X (.BoolOp .Or (a::b::rest) pos) (tOr tA tB'):=by
 intro wh pins s σ H Q I h;refine isTrue_or (thn (ha pins s σ H _ I h) fun c s1 ⟨H1,I1,q1⟩=>?_);cases c with
 | true=>exact⟨H1,I1,q1⟩
 | false=>exact hb wh pins s1 σ H1 Q I1 q1
theorem jiu (ha:PT X a tA):PT X (.UnaryOp .Not a pos) (jnS tA):=by
 intro pins s σ H Q I h;exact isTrue_not (ha pins s σ H (fun c H1=>Q (!c) H1) I h)
def jiv (ta tb:TE):TE:=fun σ H Q=>ta σ H fun x H1=>∃c,x=.bl c/\if c=true then tb σ H1 Q else Q (.bl false) H1
def tOrV (ta tb:TE):TE:=fun σ H Q=>ta σ H fun x H1=>∃c,x=.bl c/\if c=true then Q (.bl true) H1 else tb σ H1 Q
def jko (ta:TE):TE:=fun σ H Q=>ta σ H fun x H1=>∃c,x=.bl c/\Q (.bl (!c)) H1
theorem jnT {op} {t:TE} (h:PE X a t):PE X (.BoolOp op [a] pos) t:=fun pins s σ H Q I hw=>BoolOp_one (h pins s σ H Q I hw)
theorem jnU (ha:PE X a ta) (hb:PE X (.BoolOp .And (b::rest) pos) tb):PE X (.BoolOp .And (a::b::rest) pos) (jiv ta tb):=by
 intro pins s σ H Q I h;refine BoolOp_and (thn (ha pins s σ H _ I h) fun v s1 ⟨x,H1,I1,r1,q1⟩=>?_);obtain⟨c,rfl,q1⟩:=q1;cases r1;refine wpAny_truthy_bool ?_;cases c with
 | true=>exact hb pins s1 σ H1 Q I1 q1
 | false=>exact⟨.bl false,H1,I1,rfl,q1⟩
end
def SqL (K:PySem.W.Frag) (H:Hp) (a:Addr) (xs:List V):Prop :=
 Rd H a (.lst xs) \/
  ∃(o:Obj) (its:Array Value) (n:Nat),K.lookup a=some o/\o.cls=.type "list"/\o.dict=none/\o.data=.seq its n/\its.size<=sizeLine/\Vals xs its.toList
def SqT (K:PySem.W.Frag) (H:Hp) (a:Addr) (xs:List V):Prop :=
 Rd H a (.tup xs) \/
  ∃(o:Obj) (its:Array Value) (n:Nat),K.lookup a=some o/\o.cls=.type "tuple"/\o.data=.seq its n/\its.size<=sizeLine/\Vals xs its.toList
def absV:Value->Option V
 | .none=>some .non
 | .bool b=>some (.bl b)
 | .int i _=>some (.int i)
 | .str x _=>some (.str x)
 | .bytes b _=>some (.byt b)
 | .float b _=>some (.flt b)
 | .ref a=>some (.ref a)
 | .type n=>some (.ty n)
 | _=>none
theorem RelV.abs {x:V} {u:Value} (r:RelV x u):absV u=some x:=by
 cases x with
 | non=>cases r;rfl
 | bl _=>cases r;rfl
 | int _=>obtain⟨t,rfl⟩:=r;rfl
 | str _=>obtain⟨t,rfl⟩:=r;rfl
 | byt _=>obtain⟨t,rfl⟩:=r;rfl
 | flt _=>obtain⟨t,rfl⟩:=r;rfl
 | ref _=>cases r;rfl
 | ty _=>cases r;rfl
theorem RelV.inj {x y:V} {u:Value} (r:RelV x u) (q:RelV y u):x=y:=Option.some.inj (r.abs.symm.trans q.abs)
theorem Vals.inj:∀{xs ys:List V} {us:List Value},Vals xs us->Vals ys us->xs=ys
 | _,_,_,.nil,.nil=>rfl
 | _,_,_,.cons r t,.cons r' t'=>by rw[r.inj r',Vals.inj t t']
section
variable {X:Cx} {pins:List (Addr × Obj)} {σ:St} {H:Hp} {s:Shared} {a:Addr} {xs ys:List V}
theorem SqL.of {K:PySem.W.Frag} (h:H a=some (.lst xs)):SqL K H a xs:=.inl (.inl h)
theorem SqT.of {K:PySem.W.Frag} (h:H a=some (.tup xs)):SqT K H a xs:=.inl (.inl h)
theorem Inv.list (I:Inv X pins σ H s) (h:SqL X.K H a xs):∃its:List Value,Vals xs its/\PlainL s.heap a its.toArray/\xs.length<=sizeLine:=by
 rcases h with h | ⟨o,its,n,hk,hc,hd,hs,hz,r⟩
 ·obtain⟨z,its,n,r,e⟩:=h.ok I.hok;exact⟨its,r,⟨_,n,e,rfl,rfl,rfl⟩,z⟩
 ·refine⟨its.toList,r,⟨o,n,I.kIn a o hk,hc,hd,by simpa using hs⟩,?_⟩;have e:=r.length;simp only[Array.length_toList] at e;omega
theorem Inv.tuple (I:Inv X pins σ H s) (h:SqT X.K H a xs):∃its:List Value,Vals xs its/\IsTup s.heap a its.toArray/\xs.length<=sizeLine:=by
 rcases h with h | ⟨o,its,n,hk,hc,hs,hz,r⟩
 ·obtain⟨z,its,r,p⟩:=h.ok I.hok;exact⟨its,r,p,z⟩
 ·refine⟨its.toList,r,⟨o,I.kIn a o hk,hc,n,by simpa using hs⟩,?_⟩;have e:=r.length;simp only[Array.length_toList] at e;omega
theorem Inv.list_inj (I:Inv X pins σ H s) (h:SqL X.K H a xs) (h':SqL X.K H a ys):xs=ys:=by
 obtain⟨its,r,⟨o,n,e,_,_,d⟩,_⟩:=I.list h;obtain⟨its',r',⟨o',n',e',_,_,d'⟩,_⟩:=I.list h';rw[e] at e';cases e';rw[d] at d';injection d' with d1 _
 have:its=its':=by simpa using congrArg Array.toList d1
 subst this;exact r.inj r'
theorem Inv.tuple_inj (I:Inv X pins σ H s) (h:SqT X.K H a xs) (h':SqT X.K H a ys):xs=ys:=by
 obtain⟨its,r,⟨o,e,_,n,d⟩,_⟩:=I.tuple h;obtain⟨its',r',⟨o',e',_,n',d'⟩,_⟩:=I.tuple h';rw[e] at e';cases e';rw[d] at d';injection d' with d1 _
 have:its=its':=by simpa using congrArg Array.toList d1
 subst this;exact r.inj r'
end
abbrev Cx.wish (X:Cx) (E:Value->Shared->Prop):Cx:={ X with xe:=E }
abbrev Cx.nox (X:Cx):Cx:=X.wish fun _ _=>False
theorem Cx.Ok.wish {X:Cx} (ok:X.Ok) (E:Value->Shared->Prop):(X.wish E).Ok :=
 ⟨ok.mod,ok.kind,ok.glob,ok.blt,ok.above,ok.inj,ok.has,ok.cab,ok.hd,ok.frames,ok.stk,ok.exf,ok.bs,ok.bsz,ok.noex,ok.exfs,ok.funs,ok.frf⟩
theorem Cx.Ok.unwish {X:Cx} {E:Value->Shared->Prop} (ok:(X.wish E).Ok):X.Ok :=
 ⟨ok.mod,ok.kind,ok.glob,ok.blt,ok.above,ok.inj,ok.has,ok.cab,ok.hd,ok.frames,ok.stk,ok.exf,ok.bs,ok.bsz,ok.noex,ok.exfs,ok.funs,ok.frf⟩
section
variable {X:Cx} {pins:List (Addr × Obj)} {σ:St} {H:Hp} {s:Shared} {E:Value->Shared->Prop}
theorem Inv.wish (I:Inv X pins σ H s) (E:Value->Shared->Prop):Inv (X.wish E) pins σ H s:=⟨I.ok.wish E,I.os,I.bare,I.base,I.loc,I.cell,I.free,I.freeC,I.pin,I.hok,I.len⟩
theorem Inv.unwish (I:Inv (X.wish E) pins σ H s):Inv X pins σ H s:=⟨I.ok.unwish,I.os,I.bare,I.base,I.loc,I.cell,I.free,I.freeC,I.pin,I.hok,I.len⟩
theorem SP.unwish {D:Ends} {f:Flow} {s':Shared} (h:SP (X.wish E) pins D f s'):SP X pins D f s':=by
 cases f with
 | next=>obtain⟨σ',H',I,q⟩:=h;exact⟨σ',H',I.unwish,q⟩
 | brk=>obtain⟨σ',H',I,q⟩:=h;exact⟨σ',H',I.unwish,q⟩
 | cont=>obtain⟨σ',H',I,q⟩:=h;exact⟨σ',H',I.unwish,q⟩
 | ret u=>obtain⟨v,σ',H',I,r,q⟩:=h;exact⟨v,σ',H',I.unwish,r,q⟩
theorem PE.nox {e:Expr} {t:TE} (h:PE X.nox e t):PE X e t:=fun pins s σ H Q I hw =>
 wpAny_mono (h pins s σ H Q (I.wish _) hw) (fun _ _ ⟨v,H',I',r,q⟩=>⟨v,H',I'.unwish,r,q⟩) fun _ _ z=>False.elim z
theorem PT.nox {e:Expr} {t:TT} (h:PT X.nox e t):PT X e t:=fun pins s σ H Q I hw =>
 wpAny_mono (h pins s σ H Q (I.wish _) hw) (fun _ _ ⟨H',I',q⟩=>⟨H',I'.unwish,q⟩) fun _ _ z=>False.elim z
theorem PSs.nox {st:List Stmt} {t:TS} (h:PSs X.nox st t):PSs X st t:=fun pins s σ H D I hw =>
 wpAny_mono (h pins s σ H D (I.wish _) hw) (fun _ _ q=>q.unwish) fun _ _ z=>False.elim z
end
section
variable {X:Cx} {st:Stmt} {rest:List Stmt} {t u:TS} {e:Expr} {te:TE} {pos:Pos}
def jgN:TS:=fun D σ H=>D.nx σ H
def jnV (t u:TS):TS:=fun D σ H=>t { D with nx:=u D } σ H
theorem jaz:PSs X [] jgN:=fun _ _ σ H _ I h=>wpAny_execs_nil ⟨σ,H,I,h⟩
theorem jag (h1:PS X st t) (h2:PSs X rest u):PSs X (st::rest) (jnV t u):=by
  intro pins s σ H D I h;refine wpAny_execs_cons (thn (h1 pins s σ H { D with nx:=u D } I h) fun f s1 q=>?_);cases f with
  | next =>
    obtain⟨σ',H',I',q⟩:=q;exact h2 pins s1 σ' H' D I' q
  | ret v=>exact q
  | brk=>exact q
  | cont=>exact q
theorem jah (h1:PS X st t):PSs X [st] t:=by
 intro pins s σ H D I h;refine wpAny_execs_cons (thn (h1 pins s σ H D I h) fun f s1 q=>?_);cases f with
 | next=>exact wpAny_execs_nil q
 | ret v=>exact q
 | brk=>exact q
 | cont=>exact q
def jho:TS:=fun D σ H=>D.bk σ H
def jiw:TS:=fun D σ H=>D.ct σ H
theorem jgO:PS X (.Continue pos) jiw:=fun _ _ σ H _ I h=>wpAny_Continue ⟨σ,H,I,h⟩
theorem Inv.quiet {pins:List (Addr × Obj)} {σ:St} {H:Hp} {s:Shared} (I:Inv X pins σ H s):interactive X.env=false:=by simp [interactive,I.ok.kind]
def jix (te:TE):TS:=fun D σ H=>te σ H fun _ H1=>D.nx σ H1
theorem jes (he:PE X e te) (hs:swapsWith e none pos.line X.env=pure false:=by rfl):PS X (.Expr e pos) (jix te):=by
 intro pins s σ H D I h;exact wpAny_Expr_any (thn (he pins s σ H _ I h) fun v s1 ⟨x,H1,I1,r1,q1⟩=>⟨σ,H1,I1,q1⟩) I.quiet hs
def jin (te:TE):TS:=fun D σ H=>te σ H D.rt
theorem jan (he:PE X e te):PS X (.Return (some e) pos) (jin te):=by
 intro pins s σ H D I h;exact wpAny_Return_some (thn (he pins s σ H _ I h) fun v s1 ⟨x,H1,I1,r1,q1⟩=>⟨x,σ,H1,I1,r1,q1⟩)
def jkp:TS:=fun D _ H=>D.rt .non H
def jmd (c:TT) (t u:TS):TS:=fun D σ H=>c σ H fun b H1=>if b=true then t D σ H1 else u D σ H1
theorem jaV {c:Expr} {a b:List Stmt} {tc:TT} (hc:PT X c tc) (ha:PSs X a t) (hb:PSs X b u):PS X (.If c a b pos) (jmd tc t u):=by
 intro pins s σ H D I h;refine wpAny_If (thn (hc pins s σ H _ I h) fun d s1 ⟨H1,I1,q1⟩=>?_);cases d with
 | true=>exact ha pins s1 σ H1 D I1 q1
 | false=>exact hb pins s1 σ H1 D I1 q1
def jnW:TS:=fun _ _ _=>False
theorem jet {sts:List Stmt}:PSs X sts jnW:=fun _ _ _ _ _ _ h=>h.elim
end
abbrev TG:=V->St->Hp->(St->Hp->Prop)->Prop
abbrev TGs:=List V->St->Hp->(St->Hp->Prop)->Prop
def PG (X:Cx) (target:Expr) (t:TG):Prop :=
  ∀ (pins : List (Addr × Obj)) (s : Shared) (σ : St) (H : Hp) (v : V) (u : Value) (Q : St -> Hp -> Prop), Inv X pins σ H s -> RelV v u -> t v σ H Q ->
    wpAny (model X.prog X.w) X.A (assign target X.env u) (fun _ s'=>∃σ' H',Inv X pins σ' H' s'/\Q σ' H') X.xe s
def PGs (X:Cx) (ts:List Expr) (t:TGs):Prop :=
  ∀ (pins : List (Addr × Obj)) (s : Shared) (σ : St) (H : Hp) (vs : List V) (us : List Value) (Q : St -> Hp -> Prop), Inv X pins σ H s -> Vals vs us -> t vs σ H Q ->
    wpAny (model X.prog X.w) X.A (assignInOrder ((assignEach ts X.env).map (·.2)) us) (fun _ s'=>∃σ' H',Inv X pins σ' H' s'/\Q σ' H') X.xe s
abbrev TSet:=V->V->V->Hp->(Hp->Prop)->Prop
def PSet (X:Cx) (t:TSet):Prop :=
  ∀ (pins : List (Addr × Obj)) (s : Shared) (σ : St) (H : Hp) (o i v : V) (ov iv u : Value) (Q : Hp -> Prop), Inv X pins σ H s -> RelV o ov -> RelV i iv -> RelV v u -> t o i v H Q ->
    wpAny (model X.prog X.w) X.A (setItem ov iv u) (fun _ s'=>∃H',Inv X pins σ H' s'/\Q H') X.xe s
section
variable {X:Cx} {pos:Pos}
def jbB (i:Nat):TG:=fun v σ H Q=>Q (σ.set i (some v)) H
theorem jas {i:Nat} {x:Str} (hN:X.N.Nodup) (hi:X.N[i]?=some x) (hx:Loc X.env.scope x) (hf:X.fn x=true\/X.env.scope.names.lookup x=some .local:=by first | exact .inl rfl | exact .inr rfl | assumption):PG X (.Name x pos) (jbB i):=by
 intro pins s σ H v u Q I r h;exact wpAny_assign_Name (jdr I hN hi hx r (fun s' I'=>⟨_,H,I',h⟩) hf)
def jnG:TGs:=fun vs σ H Q=>vs=[]/\Q σ H
def jgP (t:TG) (u:TGs):TGs:=fun vs σ H Q=>∃v r,vs=v::r/\t v σ H fun σ' H'=>u r σ' H' Q
theorem jeu:PGs X [] jnG:=by
 intro pins s σ H vs us Q I r h;obtain⟨e,h⟩:=h;subst e;cases r;exact assignInOrder_nil ⟨σ,H,I,h⟩
theorem jbq {e:Expr} {es:List Expr} {t:TG} {u:TGs} (h1:PG X e t) (h2:PGs X es u)
    (hs:(assignEach (e::es) X.env).map (·.2)=assign e X.env::(assignEach es X.env).map (·.2):=by rfl):PGs X (e::es) (jgP t u):=by
  intro pins s σ H vs us Q I r h;obtain⟨v,vr,e1,h⟩:=h;subst e1;cases r with
  | cons r rr =>
    rw[hs];refine assignInOrder_cons (thn (h1 pins s σ H _ _ _ I r h) fun _ s1 ⟨σ1,H1,I1,q1⟩=>?_);exact h2 pins s1 σ1 H1 _ _ Q I1 rr q1
def jme (K:PySem.W.Frag) (n:Nat) (t:TGs):TG:=fun v σ H Q=>∃a xs,v=.ref a/\SqT K H a xs/\xs.length=n/\t xs σ H Q
theorem jiy {es:List Expr} {k:Nat} {t:TGs} {n:Nat} (hc:X.calm=true) (h:PGs X es t)
  (hn:(assignEach es X.env).length=n:=by rfl) (hst:(assignEach es X.env).findIdx? (·.1)=none:=by rfl):PG X (.Tuple es k pos) (jme X.K n t):=by
 intro pins s σ H v u Q I r hw;obtain⟨a,xs,e1,hq,hl,hw⟩:=hw;subst e1;cases r;obtain⟨its,rv,ht,hz⟩:=I.tuple hq;refine assign_Tuple_tuple (I.ok.hd hc) ht (by simp [hn,<- hl,rv.length]) hst fun h' hx=>?_;have I1:Inv X pins σ H { s with heap:=h' }:=I.kept (t':=s.toks) fun b o e=>hx b o (xax (Heap.lt_size e)) e;exact h pins _ σ H xs _ Q I1 (by simpa using rv) hw
def gSub (to ti:TE) (t:TSet):TG:=fun v σ H Q=>to σ H fun o H1=>ti σ H1 fun i H2=>t o i v H2 fun H3=>Q σ H3
theorem jln {o i:Expr} {to ti:TE} {t:TSet} (ho:PE X o to) (hi:PE X i ti) (hs:PSet X t)
  (ha:∀v,assign (.Subscript o i pos) X.env v=(do
   let ov <- holding [v] (eval o X.env)
   let iv <- holding [v,ov] (eval i X.env)
   standAt pos
   holding [v,ov,iv] (setItem ov iv v)
   release [v,ov,iv] []):=by intro _;rfl):PG X (.Subscript o i pos) (gSub to ti t):=by
 intro pins s σ H v u Q I r h;rw[ha];refine wpAny_bind (wpAny_holding (thn (ho pins s σ H _ I h) fun ov s1 ⟨x,H1,I1,r1,q1⟩=>?_));refine wpAny_bind (wpAny_holding (thn (hi pins s1 σ H1 _ I1 q1) fun iv s2 ⟨y,H2,I2,r2,q2⟩=>?_));refine wpAny_bind (wpAny_standAt (wpAny_bind (wpAny_holding (thn (hs pins s2 σ H2 x y v ov iv u _ I2 r1 r2 r q2) fun _ s3 ⟨H3,I3,q3⟩=>?_))));exact wpAny_release ⟨σ,H3,I3,q3⟩
def jmf (te:TE) (g:TG):TS:=fun D σ H=>te σ H fun x H1=>g x σ H1 D.nx
theorem jiz {tg e:Expr} {te:TE} {g:TG} (he:PE X e te) (hg:PG X tg g) (hs:swapsWithSole [tg] e pos.line X.env=pure false:=by rfl) (hw:swappedStores [tg] e X.env=pure none:=by rfl)
  (h1:(assignEach [tg] X.env).map (·.2)=[assign tg X.env]:=by rfl):PS X (.Assign [tg] e pos) (jmf te g):=by
 intro pins s σ H D I h;refine wpAny_Assign_stores (thn (he pins s σ H _ I h) fun v s1 ⟨x,H1,I1,r1,q1⟩=>?_) hs hw;rw[h1];exact thn (hg pins s1 σ H1 x v _ I1 r1 q1) fun _ s2 q=>q
theorem jat {i:Nat} {x:Str} {e:Expr} {te:TE} {pos':Pos} (hN:X.N.Nodup) (hi:X.N[i]?=some x) (hx:Loc X.env.scope x) (he:PE X e te) (hs:swapsWith e (some (.Name x pos')) pos.line X.env=pure false:=by rfl) (hf:X.fn x=true\/X.env.scope.names.lookup x=some .local:=by first | exact .inl rfl | exact .inr rfl | assumption) :
  PS X (.Assign [.Name x pos'] e pos) (jmf te (jbB i)):=by
 intro pins s σ H D I h;refine wpAny_Assign_Name (thn (he pins s σ H _ I h) fun v s1 ⟨y,H1,I1,r1,q1⟩=>?_) hs;exact jdr I1 hN hi hx r1 (fun s2 I2=>⟨_,H1,I2,q1⟩) hf
def jnX (i j:Nat) (ta:TA):TS:=fun D σ H=>ta σ H fun vs H1=>∃v w,vs=[v,w]/\D.nx ((σ.set i (some v)).set j (some w)) H1
theorem jnY {i j:Nat} {x y:Str} {a b:Expr} {ta:TA} {px py pt:Pos} {kt k2 pt2} (hc:X.calm=true) (hN:X.N.Nodup) (hi:X.N[i]?=some x) (hj:X.N[j]?=some y) (hij:i≠j)
    (hx:X.env.scope.names.lookup x=some .local) (hy:X.env.scope.names.lookup y=some .local) (ha:PA X [a,b] ta)
    (hw:swappedStores [.Tuple [.Name x px,.Name y py] kt pt] (.Tuple [a,b] k2 pt2) X.env=pure (some [x,y]))
    (hs:swapsWithSole [.Tuple [.Name x px,.Name y py] kt pt] (.Tuple [a,b] k2 pt2) pos.line X.env=pure false:=by rfl) :
    PS X (.Assign [.Tuple [.Name x px,.Name y py] kt pt] (.Tuple [a,b] k2 pt2) pos) (jnX i j ta):=by
  intro pins s σ H D I h;rw[exec_Assign_arm];refine wpAny_bind (wpAny_standAt ?_);rw[hs];refine wpAny_bind (wpAny_pure ?_);rw[if_neg (by decide)];refine wpAny_bind (Tuple_ (thn (ha _ pins s σ H _ I h) fun us s1 ⟨vs,H1,I1,r1,q1⟩=>?_));obtain⟨v,w,e1,q1⟩:=q1;subst e1;obtain⟨u1,u2,rfl,rv,rw'⟩:∃u1 u2,us=[u1,u2]/\RelV v u1/\RelV w u2:=by
    cases r1 with
    | cons p q =>
      cases q with
      | cons p' q' =>
        cases q';exact⟨_,_,rfl,p,p'⟩
  refine wpAny_newObj_type ?_ (by show 2<=sizeLine;decide);have I2:Inv X pins σ H1 { s1 with heap:=s1.heap.push { cls:=.type "tuple",data:=.seq [u1,u2].toArray } }:=I1.kept (t':=s1.toks) fun b o e=>Heap.get?_push_of_some _ e;rw[hw];refine wpAny_bind (wpAny_pure ?_);show wpAny (model X.prog X.w) X.A (do rule "assign.swapped-stores";let items <- unpackItems (.ref s1.heap.objs.size) 2 none;assignInOrder [fun v=>bindName X.env y v,fun v=>bindName X.env x v] items.reverse;pure Flow.next) _ _ _;refine wpAny_bind (wpAny_rule (wpAny_bind (unpackItems_tuple (items:=#[u1,u2]) (I.ok.hd hc) (IsTup.new s1.heap _) fun h' hx'=>?_)));have I3:=I2.kept (h':=h') (t':=s1.toks) fun b o e=>hx' b o (xax (Heap.lt_size e)) e;show wpAny _ _ (assignInOrder [fun v=>bindName X.env y v,fun v=>bindName X.env x v] [u2,u1] >>= fun _=>pure Flow.next) _ _ _;refine wpAny_bind (assignInOrder_cons (wpAny_bindName (jdr I3 hN hj (.inl hy) rw' (fun s2 I4=>?_) (.inr hy))));refine assignInOrder_cons (wpAny_bindName (jdr I4 hN hi (.inl hx) rv (fun s3 I5=>assignInOrder_nil (wpAny_pure ?_)) (.inr hx)));rw[List.set_comm _ _ (Ne.symm hij)] at I5;exact⟨_,H1,I5,q1⟩
def jnZ (c:TT) (tb:TS):TS:=fun D σ H=>∃W:Nat->St->Hp->Prop,(∃m,W m σ H)/\∀m σ H,W m σ H ->
 c σ H fun b H1=>if b=true then ∃N:St->Hp->Prop,(∀σ' H',N σ' H'->∃m',m'<m/\W m' σ' H')/\tb { D with nx:=N,ct:=N,bk:=D.nx } σ H1 else D.nx σ H1
theorem jfA {c:Expr} {body:List Stmt} {tc:TT} {tb:TS} (hp:PassesOwn (model X.prog X.w) X.A X.env X.xe) (hc:PT X c tc) (hb:PSs X body tb):PS X (.While c body [] pos) (jnZ tc tb):=by
  intro pins s σ H D I h;obtain⟨W,⟨m0,w0⟩,turn⟩:=h;refine wpAny_While (codeAny_whileLoop (fun n s'=>∃σ' H',Inv X pins σ' H' s'/\W n σ' H') ?_ m0 ⟨σ,H,I,w0⟩);rintro n s1 ⟨σ1,H1,I1,w1⟩;refine wpAny_passesOwn hp (thn (hc pins s1 σ1 H1 _ I1 (turn n σ1 H1 w1)) fun b s2 ⟨H2,I2,q2⟩=>?_);cases b with
  | true =>
    obtain⟨N,hN,q2⟩:=q2;rw[if_pos rfl];refine wpAny_passesOwn hp (thn (hb pins s2 σ1 H2 _ I2 q2) fun f s3 q3=>?_);cases f with
    | next =>
      obtain⟨σ3,H3,I3,n3⟩:=q3;obtain⟨m',hm,w3⟩:=hN σ3 H3 n3;exact⟨m',hm,σ3,H3,I3,w3⟩
    | cont =>
      obtain⟨σ3,H3,I3,n3⟩:=q3;obtain⟨m',hm,w3⟩:=hN σ3 H3 n3;exact⟨m',hm,σ3,H3,I3,w3⟩
    | brk=>exact q3
    | ret v=>exact q3
  | false =>
    rw[if_neg xat];exact wpAny_execs_nil ⟨σ1,H2,I2,q2⟩
end
structure It where
 go:Nat->Hp->Prop
 yld:Nat->Hp->V->Hp->Prop
 stop:Nat->Hp->Prop
def jgJ (X:Cx) (pins:List (Addr × Obj)) (H:Hp) (b:Addr):Prop :=
 H b=none/\b≠X.env.locals/\b∉X.fs/\(b∈X.ex\/X.s₀.heap.objs.size<=b)/\(∀x c,X.env.cells.lookup x=some c->c≠b)/\∀p∈X.pn++pins,p.1≠b
theorem Inv.fpOk {X:Cx} {pins:List (Addr × Obj)} {σ:St} {H H':Hp} {s:Shared} {b:Addr} (I:Inv X pins σ H s) (hb:s.heap.objs.size<=b) (hn:H' b=none):jgJ X pins H' b:=by
 refine⟨hn,Nat.ne_of_gt (xao I.lt hb),I.nofs hb,.inr (xaX I.sz hb),fun x c e z=>?_,fun p hp z=>?_⟩
 ·obtain⟨v,q⟩:=I.cell x c e;exact absurd (xao q.lt (by rw[z];exact hb)) (xbj _)
 ·exact absurd (xao (Heap.lt_size (I.pin p hp).1) (by rw[z];exact hb)) (xbj _)
structure Turn (P:Program) (w:World) (K:PySem.W.Frag) (tg:Expr) (J:It) (fp:List Addr) (it:Addr) (tn:Nat->Heap->Prop):Prop where
 mem:it∈fp
 obj:∀i h,tn i h->∀b∈fp,∃o,h.get? b=some o/\∀v,o.data≠.cell v
 keep:∀i h h',tn i h->(∀b∈fp,∀o,h.get? b=some o->h'.get? b=some o)->tn i h'
 item:∀(X:Cx),X.prog=P->X.w=w->X.K=K->X.calm=true->∀(i:Nat) (pins:List (Addr × Obj)) (s:Shared) (σ:St) (H:Hp) (E:Value->Shared->Prop),Inv X pins σ H s->(∀b∈fp,jgJ X pins H b)->tn i s.heap->J.go i H ->
  wpAny (model P w) X.A (pyNext (.ref it)) (fun r s1=>∃u,r=some u /\
   wpAny (model P w) X.A (letOwnedTupleGo tg (.ref it) u) (fun _ s2=>∃x H',Inv X pins σ H' s2/\RelV x u/\J.yld i H x H'/\tn (i+1) s2.heap/\∀b∈fp,H' b=none) E s1) E s
 done:∀(X:Cx),X.prog=P->X.w=w->X.K=K->X.calm=true->∀(i:Nat) (pins:List (Addr × Obj)) (s:Shared) (σ:St) (H:Hp) (E:Value->Shared->Prop),Inv X pins σ H s->(∀b∈fp,jgJ X pins H b)->tn i s.heap->J.stop i H ->
  wpAny (model P w) X.A (pyNext (.ref it)) (fun r s1=>r=none/\Inv X pins σ H s1) E s
 self:∀(A:Around) (i:Nat) (s:Shared) (Q:Value->Shared->Prop) (E:Value->Shared->Prop),tn i s.heap->Q (.ref it) s->wpAny (model P w) A (pyIter (.ref it)) Q E s
abbrev TI:=St->Hp->(It->Hp->Prop)->Prop
def PIE (X:Cx) (pins:List (Addr × Obj)) (σ:St) (tg:Expr) (R:It->Hp->Prop) (itv:Value) (s2:Shared):Prop :=
 ∃(it:Addr) (fp:List Addr) (tn:Nat->Heap->Prop) (J:It) (H':Hp),itv=.ref it/\Inv X pins σ H' s2/\Turn X.prog X.w X.K tg J fp it tn/\tn 0 s2.heap/\(∀b∈fp,jgJ X pins H' b)/\R J H'
def PI (X:Cx) (tg iter:Expr) (wi:TI):Prop :=
  ∀ (pins : List (Addr × Obj)) (s : Shared) (σ : St) (H : Hp) (R : It -> Hp -> Prop), Inv X pins σ H s -> wi σ H R ->
    wpAny (model X.prog X.w) X.A (eval iter X.env) (fun v s1=>wpAny (model X.prog X.w) X.A (pyIter v) (PIE X pins σ tg R) X.xe s1) X.xe s
theorem jmg {M:Model} {A:Around} {E:Value->Shared->Prop} {s:Shared} {tg:Expr} {it:Addr} {u:Value} {o:Obj} {n:String} {vs:Array Value} {Q:Unit->Shared->Prop} (ho:s.heap.get? it=some o) (hc:o.cls=.type n) (hd:o.data=.fields vs)
    (hn:["enumerate","zip","dict_itemiterator","dict_reverseitemiterator","odict_iterator","itertools.zip_longest","itertools.pairwise"].contains n=false) (hQ:Q () s):wpAny M A (letOwnedTupleGo tg (.ref it) u) Q E s:=by
  unfold letOwnedTupleGo;cases tg<;>first
    | exact wpAny_pure hQ
    | (cases u<;>first
        | exact wpAny_pure hQ
        | (refine wpAny_bind (wpAny_load ho ?_)
           rw[hc,hd];show wpAny M A (if (["enumerate","zip","dict_itemiterator","dict_reverseitemiterator","odict_iterator","itertools.zip_longest","itertools.pairwise"].contains n&&vs[0]?==some (rawInt _))=true then _ else _) Q E s;rw[if_neg (by intro h;rw[hn,Bool.false_and] at h;cases h)];exact wpAny_pure hQ))
def Itl (K:PySem.W.Frag) (a:Addr):It :=
 ⟨fun i H=>∃xs x,SqL K H a xs/\xs[i]?=some x,fun i H x H'=>H'=H/\∀xs,SqL K H a xs->xs[i]?=some x,fun i H=>∃xs,SqL K H a xs/\xs.length<=i⟩
def Itt (K:PySem.W.Frag) (a:Addr):It :=
 ⟨fun i H=>∃xs x,SqT K H a xs/\xs[i]?=some x,fun i H x H'=>H'=H/\∀xs,SqT K H a xs->xs[i]?=some x,fun i H=>∃xs,SqT K H a xs/\xs.length<=i⟩
def Itr (lo:Int) (n:Nat):It:=⟨fun i _=>i<n,fun i H x H'=>H'=H/\x=.int (lo+i),fun i _=>n<=i⟩
theorem jf7 {P:Program} {w:World} {K:PySem.W.Frag} {tg:Expr} (a it:Addr):Turn P w K tg (Itl K a) [it] it (fun i h=>h.IsListIter it a i) where
 mem:=by simp
 obj:=fun i h st b hb=>by
  have e:b=it:=by simpa using hb
  subst e;obtain⟨o,e,c,d⟩:=st;exact⟨o,e,fun v z=>by rw[d] at z;cases z⟩
 keep:=fun i h h' st k=>st.at fun o e=>k it (by simp) o e
 item:=by
  intro X hP hw hK hc i pins s σ H E I hf st hg;subst hP hw hK;obtain⟨xs,x,hq,hx⟩:=hg;obtain⟨its,rv,p,hz⟩:=I.list hq;obtain⟨u,hu,ru⟩:=rv.get hx;obtain⟨f0,f1,f2,f3,f4,f5⟩:=hf it (by simp);refine wpAny_pyNext_list_item st p.isList (x:=u) (by simpa using hu) fun h' st' sb=>?_;have I1:Inv X pins σ H { s with heap:=h' }:=I.turned (t':=s.toks) (fun b o hb e=>(sb.2 b hb).trans e) f0 f1 f3 f4 f5;obtain⟨o,e,c,d⟩:=id st';exact⟨u,rfl,jmg (s:={ s with heap:=h' }) e c d (by decide) ⟨x,H,I1,ru,⟨rfl,fun ys hy=>by rw[I.list_inj hy hq];exact hx⟩,st',fun b hb=>(hf b hb).1⟩⟩
 done:=by
  intro X hP hw hK hc i pins s σ H E I hf st hg;subst hP hw hK;obtain⟨xs,hq,hx⟩:=hg;obtain⟨its,rv,p,hz⟩:=I.list hq;obtain⟨f0,f1,f2,f3,f4,f5⟩:=hf it (by simp);have hl:=rv.length;exact wpAny_pyNext_list_end (I.ok.hd hc) st p.isList (by simp;omega) fun h' eb=>⟨rfl,I.turned (t':=s.toks) (fun b o hb e=>eb b o hb e) f0 f1 f3 f4 f5⟩
 self:=fun _ _ _ _ _ st h=>wpAny_pyIter_listiter st h
theorem jfd {P:Program} {w:World} {K:PySem.W.Frag} {tg:Expr} (a it:Addr):Turn P w K tg (Itt K a) [it] it (fun i h=>h.IsTupleIter it a i) where
 mem:=by simp
 obj:=fun i h st b hb=>by
  have e:b=it:=by simpa using hb
  subst e;obtain⟨o,e,c,d⟩:=st;exact⟨o,e,fun v z=>by rw[d] at z;cases z⟩
 keep:=fun i h h' st k=>st.at fun o e=>k it (by simp) o e
 item:=by
  intro X hP hw hK hc i pins s σ H E I hf st hg;subst hP hw hK;obtain⟨xs,x,hq,hx⟩:=hg;obtain⟨its,rv,p,hz⟩:=I.tuple hq;obtain⟨u,hu,ru⟩:=rv.get hx;obtain⟨f0,f1,f2,f3,f4,f5⟩:=hf it (by simp);refine wpAny_pyNext_tuple_item st (show s.heap.IsTuple a its.toArray from p) (x:=u) (by simpa using hu) fun h' st' sb=>?_;have I1:Inv X pins σ H { s with heap:=h' }:=I.turned (t':=s.toks) (fun b o hb e=>(sb.2 b hb).trans e) f0 f1 f3 f4 f5;obtain⟨o,e,c,d⟩:=id st';exact⟨u,rfl,jmg (s:={ s with heap:=h' }) e c d (by decide) ⟨x,H,I1,ru,⟨rfl,fun ys hy=>by rw[I.tuple_inj hy hq];exact hx⟩,st',fun b hb=>(hf b hb).1⟩⟩
 done:=by
  intro X hP hw hK hc i pins s σ H E I hf st hg;subst hP hw hK;obtain⟨xs,hq,hx⟩:=hg;obtain⟨its,rv,p,hz⟩:=I.tuple hq;obtain⟨f0,f1,f2,f3,f4,f5⟩:=hf it (by simp);have hl:=rv.length;exact wpAny_pyNext_tuple_end (I.ok.hd hc) st (show s.heap.IsTuple a its.toArray from p) (by simp;omega) fun h' eb=>⟨rfl,I.turned (t':=s.toks) (fun b o hb e=>eb b o hb e) f0 f1 f3 f4 f5⟩
 self:=fun _ _ _ _ _ st h=>wpAny_pyIter_tupleiter st h
theorem jhX {P:Program} {w:World} {K:PySem.W.Frag} {tg:Expr} (it:Addr) (lo:Int) (n:Nat):Turn P w K tg (Itr lo n) [it] it (fun i h=>IsRangeIter h it (lo+(i:Nat)*1) ((n:Int)-(i:Nat)) 1) where
 mem:=by simp
 obj:=fun i h st b hb=>by
  have e:b=it:=by simpa using hb
  subst e;exact⟨_,st,fun v z=>by
   have z':Data.fields _=Data.cell v:=z;cases z'⟩
 keep:=fun i h h' st k=>k it (by simp) _ st
 item:=by
  intro X hP hw hK hc i pins s σ H E I hf st hg;subst hP hw hK;obtain⟨f0,f1,f2,f3,f4,f5⟩:=hf it (by simp);have W:=Walks.range (prog:=X.prog) (w:=X.w) (I.ok.hd hc) it lo 1 n;refine W.item i s _ _ hg st fun v h' tk hv st' kk=>?_;obtain⟨t,rfl⟩:=hv;have I1:Inv X pins σ H { s with heap:=h',toks:=tk }:=I.turned (fun b o hb e=>kk b o (by simpa using hb) e) f0 f1 f3 f4 f5;refine⟨_,rfl,jmg (s:={ s with heap:=h',toks:=tk }) (n:="range_iterator") st' rfl rfl (by decide) ⟨.int (lo+i),H,I1,⟨t,?_⟩,⟨rfl,rfl⟩,st',fun b hb=>(hf b hb).1⟩⟩;rw[Int.mul_one]
 done:=by
  intro X hP hw hK hc i pins s σ H E I hf st hg;subst hP hw hK;obtain⟨f0,f1,f2,f3,f4,f5⟩:=hf it (by simp);exact wpAny_pyNext_range_end (I.ok.hd hc) st (by have:n<=i:=hg;omega) fun h' eb=>⟨rfl,I.turned (t':=s.toks) (fun b o hb e=>eb b o hb e) f0 f1 f3 f4 f5⟩
 self:=fun _ _ _ _ _ st h=>wpAny_pyIter_rangeiter st h
section
variable {X:Cx} {tg:Expr}
def jkq (K:PySem.W.Frag) (tl:TE):TI:=fun σ H R=>tl σ H fun x H1=>∃a,x=.ref a/\(∃xs,SqL K H1 a xs)/\R (Itl K a) H1
def iTup (K:PySem.W.Frag) (tl:TE):TI:=fun σ H R=>tl σ H fun x H1=>∃a,x=.ref a/\(∃xs,SqT K H1 a xs)/\R (Itt K a) H1
theorem ja9 {l:Expr} {tl:TE} (hl:PE X l tl):PI X tg l (jkq X.K tl):=by
 intro pins s σ H R I h;refine thn (hl pins s σ H _ I h) fun v s1 ⟨x,H1,I1,r1,q1⟩=>?_;obtain⟨a,e,⟨xs,hq⟩,q⟩:=q1;subst e;cases r1;obtain⟨its,rv,p,hz⟩:=I1.list hq;refine wpAny_pyIter_list p.isList ?_;refine⟨s1.heap.objs.size,[s1.heap.objs.size],_,_,H1,rfl,I1.kept (t':=s1.toks) fun b o e=>Heap.get?_push_of_some _ e,jf7 a _,⟨_,Heap.get?_push_size _ rfl,rfl,rfl⟩,fun b hb=>?_,q⟩;have e:b=s1.heap.objs.size:=by simpa using hb
 subst e;exact I1.fpOk (xaj _) (I1.hok.fresh (xaj _))
theorem jc1 {l:Expr} {tl:TE} (hl:PE X l tl):PI X tg l (iTup X.K tl):=by
 intro pins s σ H R I h;refine thn (hl pins s σ H _ I h) fun v s1 ⟨x,H1,I1,r1,q1⟩=>?_;obtain⟨a,e,⟨xs,hq⟩,q⟩:=q1;subst e;cases r1;obtain⟨its,rv,p,hz⟩:=I1.tuple hq;refine wpAny_pyIter_tuple (show s1.heap.IsTuple a its.toArray from p) ?_;refine⟨s1.heap.objs.size,[s1.heap.objs.size],_,_,H1,rfl,I1.kept (t':=s1.toks) fun b o e=>Heap.get?_push_of_some _ e,jfd a _,⟨_,Heap.get?_push_size _ rfl,rfl,rfl⟩,fun b hb=>?_,q⟩;have e:b=s1.heap.objs.size:=by simpa using hb
 subst e;exact I1.fpOk (xaj _) (I1.hok.fresh (xaj _))
theorem jhp {pins:List (Addr × Obj)} {σ:St} {H:Hp} {s:Shared} {R:It->Hp->Prop} {E:Value->Shared->Prop} {lo hi:Int} {t u v:Tok} {tk:Nat} (I:Inv X pins σ H s) (h1:-(2^62)<=lo) (h2:lo<2^62) (h3:-(2^62)<=hi) (h4:hi<2^62)
  (q:R (Itr lo (hi-lo).toNat) H):wpAny (model X.prog X.w) X.A (pyIter (.ref s.heap.objs.size)) (PIE X pins σ tg R) E { s with heap:=s.heap.push { cls:=.type "range",data:=.fields #[.int lo t,.int hi u,.int 1 v] },toks:=tk }:=by
 refine wpAny_pyIter_range (IsRange.new ..) (small_one h1 h2 h3 h4) ?_;have I1:Inv X pins σ H { s with heap:=s.heap.push { cls:=.type "range",data:=.fields #[.int lo t,.int hi u,.int 1 v] },toks:=tk }:=I.kept fun b o e=>Heap.get?_push_of_some _ e;refine⟨(s.heap.push { cls:=.type "range",data:=.fields #[.int lo t,.int hi u,.int 1 v] }).objs.size,[(s.heap.push { cls:=.type "range",data:=.fields #[.int lo t,.int hi u,.int 1 v] }).objs.size],_,_,H,rfl,
  I1.kept (t':=tk) fun b o e=>Heap.get?_push_of_some _ e,jhX _ lo (hi-lo).toNat,?_,fun b hb=>?_,q⟩
 ·have e1:lo+((0:Nat):Int)*1=lo:=by simp
  have e2:(((hi-lo).toNat:Nat):Int)-((0:Nat):Int)=Builtin.Range.rangeSize lo hi 1:=by rw[rangeSize_one];split<;>omega
  show IsRangeIter _ _ (lo+((0:Nat):Int)*1) ((((hi-lo).toNat:Nat):Int)-((0:Nat):Int)) 1;rw[e1,e2];exact Heap.get?_push_size _ rfl
 ·have e:b=(s.heap.push { cls:=.type "range",data:=.fields #[.int lo t,.int hi u,.int 1 v] }).objs.size:=by simpa using hb
  subst e;exact I1.fpOk (xaj _) (I1.hok.fresh (xaj _))
def jmh (ta:TA):TI:=fun σ H R=>ta σ H fun vs H1=>∃j:Int,vs=[.int j]/\-(2^62)<=j/\j<2^62/\R (Itr 0 j.toNat) H1
def jmi (ta:TA):TI:=fun σ H R=>ta σ H fun vs H1=>∃i j:Int,vs=[.int i,.int j]/\(-(2^62)<=i/\i<2^62/\-(2^62)<=j/\j<2^62)/\R (Itr i (j-i).toNat) H1
theorem jaO {a:Expr} {ta:TA} {p pos:Pos} (hg:Gl X "range") (hm:X.mg "range"=none) (ha:PA X [a] ta) (hs:starEach [a] X.env=[(false,eval a X.env)]:=by rfl):PI X tg (.Call (.Name "range" p) [a] [] pos) (jmh ta):=by
  intro pins s σ H R I h;refine Call_ (jd8 I hg hm boot_range (PyProof.Rows.callWith_type1 (thn (ha pos pins s σ H _ I h) fun us s1 ⟨vs,H1,I1,r1,q1⟩=>?_) hs rfl));obtain⟨j,e,q1,q2,q⟩:=q1;subst e;cases r1 with
  | cons r rr =>
    cases rr;obtain⟨t,rfl⟩:=r;exact call_range_1 (jhp I1 (by omega) (by omega) q1 q2 (by simpa using q))
theorem jf8 {a b:Expr} {ta:TA} {p pos:Pos} (hg:Gl X "range") (hm:X.mg "range"=none) (ha:PA X [a,b] ta) (hs:starEach [a,b] X.env=[(false,eval a X.env),(false,eval b X.env)]:=by rfl) (hs2:starEach [b] X.env=[(false,eval b X.env)]:=by rfl) :
    PI X tg (.Call (.Name "range" p) [a,b] [] pos) (jmi ta):=by
  intro pins s σ H R I h;refine Call_ (jd8 I hg hm boot_range (PyProof.Rows.callWith_type1 (thn (ha pos pins s σ H _ I h) fun us s1 ⟨vs,H1,I1,r1,q1⟩=>?_) (by rw[hs,hs2]) (by rw[hs2];rfl)));obtain⟨i,j,e,⟨q1,q2,q3,q4⟩,q⟩:=q1;subst e;cases r1 with
  | cons r rr =>
    cases rr with
    | cons r' rr =>
      cases rr;obtain⟨t,rfl⟩:=r;obtain⟨t',rfl⟩:=r';exact call_range_2 (jhp I1 q1 q2 q3 q4 q)
def jlo (wi:TI) (g:TG) (tb:TS):TS:=fun D σ H=>wi σ H fun J H1=>∃W:Nat->Nat->St->Hp->Prop,(∃m,W 0 m σ H1)/\∀i m σ H,W i m σ H ->
 (J.stop i H/\D.nx σ H)\/(J.go i H/\∃N:St->Hp->Prop,(∀σ' H',N σ' H'->∃m',m'<m/\W (i+1) m' σ' H')/\∀x H',J.yld i H x H'->g x σ H' fun σ2 H2=>tb { D with nx:=N,ct:=N,bk:=D.nx } σ2 H2)
def jf9 (fp:List Addr) (h:Heap):List (Addr × Obj):=fp.filterMap fun b=>(h.get? b).map fun o=>(b,o)
theorem jcW {fp:List Addr} {h:Heap} {b:Addr} {o:Obj} (hb:b∈fp) (e:h.get? b=some o):(b,o)∈jf9 fp h:=xcj.mpr ⟨b,hb,by rw[e];rfl⟩
theorem jiA {fp:List Addr} {h:Heap} {p:Addr × Obj} (hp:p∈jf9 fp h):p.1∈fp/\h.get? p.1=some p.2:=by
  obtain⟨b,hb,e⟩:=xcj.mp hp;cases q:h.get? b with
  | none=>rw[q] at e;cases e
  | some o =>
    rw[q] at e;have e':(b,o)=p:=Option.some.inj e;subst e';exact⟨hb,q⟩
theorem Inv.pinned {pins:List (Addr × Obj)} {σ:St} {H:Hp} {s:Shared} {fp:List Addr} (I:Inv X pins σ H s) (hf:∀b∈fp,jgJ X pins H b) (ho:∀b∈fp,∃o,s.heap.get? b=some o/\∀v,o.data≠.cell v):Inv X (pins++jf9 fp s.heap) σ H s :=
 I.pins_of fun p hp=>(xay.mp hp).elim (fun z=>I.pin p (xaR _ z)) fun z=>by
  obtain⟨hb,e⟩:=jiA z;obtain⟨f0,f1,f2,_⟩:=hf p.1 hb;obtain⟨o,e',d⟩:=ho p.1 hb;rw[e] at e';cases e';exact⟨e,f0,f1,f2,d⟩
theorem Inv.unpinned {pins pl:List (Addr × Obj)} {σ:St} {H:Hp} {s:Shared} (I:Inv X (pins++pl) σ H s):Inv X pins σ H s:=I.pins_of fun p hp=>I.pin p (xaR _ (xbO _ hp))
theorem jbe {iter:Expr} {body:List Stmt} {wi:TI} {g:TG} {tb:TS} {pos:Pos} (hp:PassesOwn (model X.prog X.w) X.A X.env X.xe) (hc:X.calm=true) (hi:PI X tg iter wi) (hg:PG X tg g) (hb:PSs X body tb)
  (hs:∀x,foldedSetIterable iter X.env x=pure x:=by intro _;rfl):PS X (.For tg iter body [] pos) (jlo wi g tb):=by
 intro pins s σ H D I h;refine wpAny_For (thn (hi pins s σ H _ I h) fun v s1 h1=>thn h1 fun itv s2 h2=>?_) hs;obtain⟨it,fp,tn,J,H2,e,I2,T,st2,f2,W,⟨m0,w0⟩,turn⟩:=h2;subst e;have stat:∀{H':Hp},(∀b∈fp,H' b=none)->∀b∈fp,jgJ X pins H' b:=fun hn b hb=>⟨hn b hb,(f2 b hb).2⟩;refine codeAny_forLoop_any (fun n s'=>∃i σ' H',Inv X pins σ' H' s'/\tn i s'.heap/\(∀b∈fp,H' b=none)/\W i n σ' H') ?_ m0 ⟨0,σ,H2,I2,st2,fun b hb=>(f2 b hb).1,w0⟩;rintro n s3 ⟨i,σ3,H3,I3,st3,fr3,w3⟩;rcases turn i n σ3 H3 w3 with ⟨stop,qn⟩ | ⟨go,N,hN,step⟩
 ·refine wpAny_passesOwn hp (thn (T.done X rfl rfl rfl hc i pins s3 σ3 H3 X.xe I3 (stat fr3) st3 stop) fun r s4 ⟨hr,I4⟩=>?_);subst hr;exact wpAny_execs_nil ⟨σ3,H3,I4,qn⟩
 ·refine wpAny_passesOwn hp (thn (T.item X rfl rfl rfl hc i pins s3 σ3 H3 X.xe I3 (stat fr3) st3 go) fun r s4 ⟨u,hr,h4⟩=>?_);subst hr;refine wpAny_passesOwn hp (thn h4 fun _ s5 ⟨x,H5,I5,r5,y5,st5,fr5⟩=>?_);have I5':=I5.pinned (stat fr5) (T.obj _ _ st5);refine wpAny_passesOwn hp (thn (hg _ s5 σ3 H5 x u _ I5' r5 (step x H5 y5)) fun _ s6 ⟨σ6,H6,I6,q6⟩=>?_);refine wpAny_passesOwn hp (thn (hb _ s6 σ6 H6 _ I6 q6) fun f s7 q7=>?_);have again:∀{σ7:St} {H7:Hp},Inv X (pins++jf9 fp s5.heap) σ7 H7 s7->N σ7 H7->∃m,m<n/\∃i σ' H',Inv X pins σ' H' s7/\tn i s7.heap/\(∀b∈fp,H' b=none)/\W i m σ' H':=fun {σ7 H7} I7 n7=>by
   obtain⟨m',hm,w7⟩:=hN σ7 H7 n7;refine⟨m',hm,i+1,σ7,H7,I7.unpinned,T.keep _ _ _ st5 fun b hb o e=>(I7.pin (b,o) (xaR _ (xaR _ (jcW hb e)))).1,fun b hb=>?_,w7⟩;obtain⟨o,e,d⟩:=T.obj _ _ st5 b hb;exact (I7.pin (b,o) (xaR _ (xaR _ (jcW hb e)))).2.1
  cases f with
  | next=>obtain⟨σ7,H7,I7,n7⟩:=q7;exact again I7 n7
  | cont=>obtain⟨σ7,H7,I7,n7⟩:=q7;exact again I7 n7
  | brk=>obtain⟨σ7,H7,I7,q7⟩:=q7;exact⟨σ7,H7,I7.unpinned,q7⟩
  | ret v=>obtain⟨x7,σ7,H7,I7,r7,q7⟩:=q7;exact⟨x7,σ7,H7,I7.unpinned,r7,q7⟩
end
theorem jbC {K:PySem.W.Frag} {a:Addr} {xs:List V} {g:TG} {tb:TS} {D:Ends} {σ:St} {H:Hp} (Pv:Nat->St->Hp->Prop) (h0:Pv 0 σ H) (hl:∀i σ H,i<=xs.length->Pv i σ H->SqL K H a xs)
    (hs:∀i x σ H,xs[i]?=some x->Pv i σ H->g x σ H fun σ2 H2=>tb { D with nx:=Pv (i+1),ct:=Pv (i+1),bk:=D.nx } σ2 H2) (hd:∀σ H,Pv xs.length σ H->D.nx σ H) :
    ∃ W : Nat -> Nat -> St -> Hp -> Prop, (∃ m, W 0 m σ H) /\ ∀ i m σ H, W i m σ H ->
      ((Itl K a).stop i H/\D.nx σ H)\/((Itl K a).go i H/\∃N:St->Hp->Prop,(∀σ' H',N σ' H'->∃m',m'<m/\W (i+1) m' σ' H')/\∀x H',(Itl K a).yld i H x H'->g x σ H' fun σ2 H2=>tb { D with nx:=N,ct:=N,bk:=D.nx } σ2 H2):=by
  refine⟨fun i m σ H=>m=xs.length-i/\i<=xs.length/\Pv i σ H,⟨xs.length,by simp,xaY _,h0⟩,?_⟩;rintro i m σ H ⟨rfl,hi,p⟩;have q:=hl i σ H hi p;by_cases hlt:i<xs.length
  . refine .inr ⟨⟨xs,xs[i],q,by simp [hlt]⟩,Pv (i+1),fun σ' H' p'=>⟨xs.length-(i+1),by omega,rfl,hlt,p'⟩,fun x H' y=>?_⟩
    obtain⟨e,y⟩:=y;subst e;exact hs i x σ _ (y xs q) p
  . have e:i=xs.length:=by omega
    subst e;exact .inl ⟨⟨xs,q,xaj _⟩,hd σ H p⟩
theorem jdL {K:PySem.W.Frag} {a:Addr} {xs:List V} {g:TG} {tb:TS} {D:Ends} {σ:St} {H:Hp} (Pv:Nat->St->Hp->Prop) (h0:Pv 0 σ H) (hl:∀i σ H,i<=xs.length->Pv i σ H->SqT K H a xs)
    (hs:∀i x σ H,xs[i]?=some x->Pv i σ H->g x σ H fun σ2 H2=>tb { D with nx:=Pv (i+1),ct:=Pv (i+1),bk:=D.nx } σ2 H2) (hd:∀σ H,Pv xs.length σ H->D.nx σ H) :
    ∃ W : Nat -> Nat -> St -> Hp -> Prop, (∃ m, W 0 m σ H) /\ ∀ i m σ H, W i m σ H ->
      ((Itt K a).stop i H/\D.nx σ H)\/((Itt K a).go i H/\∃N:St->Hp->Prop,(∀σ' H',N σ' H'->∃m',m'<m/\W (i+1) m' σ' H')/\∀x H',(Itt K a).yld i H x H'->g x σ H' fun σ2 H2=>tb { D with nx:=N,ct:=N,bk:=D.nx } σ2 H2):=by
  refine⟨fun i m σ H=>m=xs.length-i/\i<=xs.length/\Pv i σ H,⟨xs.length,by simp,xaY _,h0⟩,?_⟩;rintro i m σ H ⟨rfl,hi,p⟩;have q:=hl i σ H hi p;by_cases hlt:i<xs.length
  . refine .inr ⟨⟨xs,xs[i],q,by simp [hlt]⟩,Pv (i+1),fun σ' H' p'=>⟨xs.length-(i+1),by omega,rfl,hlt,p'⟩,fun x H' y=>?_⟩
    obtain⟨e,y⟩:=y;subst e;exact hs i x σ _ (y xs q) p
  . have e:i=xs.length:=by omega
    subst e;exact .inl ⟨⟨xs,q,xaj _⟩,hd σ H p⟩
theorem jcy {lo:Int} {n:Nat} {g:TG} {tb:TS} {D:Ends} {σ:St} {H:Hp} (Pv:Nat->St->Hp->Prop) (h0:Pv 0 σ H)
    (hs:∀i σ H,i<n->Pv i σ H->g (.int (lo+i)) σ H fun σ2 H2=>tb { D with nx:=Pv (i+1),ct:=Pv (i+1),bk:=D.nx } σ2 H2) (hd:∀σ H,Pv n σ H->D.nx σ H) :
    ∃ W : Nat -> Nat -> St -> Hp -> Prop, (∃ m, W 0 m σ H) /\ ∀ i m σ H, W i m σ H ->
      ((Itr lo n).stop i H/\D.nx σ H)\/((Itr lo n).go i H/\∃N:St->Hp->Prop,(∀σ' H',N σ' H'->∃m',m'<m/\W (i+1) m' σ' H')/\∀x H',(Itr lo n).yld i H x H'->g x σ H' fun σ2 H2=>tb { D with nx:=N,ct:=N,bk:=D.nx } σ2 H2):=by
  refine⟨fun i m σ H=>m=n-i/\i<=n/\Pv i σ H,⟨n,by simp,xaY _,h0⟩,?_⟩;rintro i m σ H ⟨rfl,hi,p⟩;by_cases hlt:i<n
  . refine .inr ⟨hlt,Pv (i+1),fun σ' H' p'=>⟨n-(i+1),by omega,rfl,hlt,p'⟩,fun x H' y=>?_⟩
    obtain⟨e,y⟩:=y;subst e y;exact hs i σ _ hlt p
  . have e:i=n:=by omega
    subst e;exact .inl ⟨xaj _,hd σ H p⟩
abbrev R2:=V->V->Hp->VK->Prop
def OpR (X:Cx) (f:Value->Value->Sem Value) (r:R2):Prop :=
  ∀ (pins : List (Addr × Obj)) (s : Shared) (σ : St) (H : Hp) (x y : V) (v u : Value) (Q : VK), Inv X pins σ H s -> RelV x v -> RelV y u -> r x y H Q ->
    wpAny (model X.prog X.w) X.A (f v u) (EP X pins σ Q) X.xe s
def UnR (X:Cx) (f:Value->Sem Value) (r:V->Hp->VK->Prop):Prop :=
  ∀ (pins : List (Addr × Obj)) (s : Shared) (σ : St) (H : Hp) (x : V) (v : Value) (Q : VK), Inv X pins σ H s -> RelV x v -> r x H Q ->
    wpAny (model X.prog X.w) X.A (f v) (EP X pins σ Q) X.xe s
def CallR (X:Cx) (f:Value) (r:List V->Hp->VK->Prop):Prop :=
  ∀ (pins : List (Addr × Obj)) (s : Shared) (σ : St) (H : Hp) (xs : List V) (us : List Value) (Q : VK), Inv X pins σ H s -> Vals xs us -> r xs H Q ->
    wpAny (model X.prog X.w) X.A (call f us) (EP X pins σ Q) X.xe s
def tOp (r:R2) (ta tb:TE):TE:=fun σ H Q=>ta σ H fun x H1=>tb σ H1 fun y H2=>r x y H2 Q
def tUn (r:V->Hp->VK->Prop) (ta:TE):TE:=fun σ H Q=>ta σ H fun x H1=>r x H1 Q
def rI (C:Int->Int->Prop) (g:Int->Int->V):R2:=fun x y H Q=>∃i j,x=.int i/\y=.int j/\C i j/\Q (g i j) H
def rI0 (g:Int->Int->V):R2:=fun x y H Q=>∃i j,x=.int i/\y=.int j/\Q (g i j) H
def rU (g:Int->V):V->Hp->VK->Prop:=fun x H Q=>∃i,x=.int i/\Q (g i) H
section
variable {X:Cx} {a b c:Expr} {ta tb tc:TE} {pos:Pos}
theorem binT (ha:PE X a ta) (hb:PE X b tb) {pins:List (Addr × Obj)} {s:Shared} {σ:St} {H:Hp} {R:V->V->Hp->Prop} (I:Inv X pins σ H s)
  (h:ta σ H fun x H1=>tb σ H1 fun y H2=>R x y H2) {Q:Value->Shared->Prop} {f:Value->Value->Sem Value}
  (hf:∀v u s2 x y H2,Inv X pins σ H2 s2->RelV x v->RelV y u->R x y H2->wpAny (model X.prog X.w) X.A (f v u) Q X.xe s2) :
  wpAny (model X.prog X.w) X.A (eval a X.env) (fun v s₁=>wpAny (model X.prog X.w) X.A (eval b X.env) (fun u s₂=>wpAny (model X.prog X.w) X.A (f v u) Q X.xe s₂) X.xe s₁) X.xe s:=by
 refine thn (ha pins s σ H _ I h) fun v s1 ⟨x,H1,I1,r1,q1⟩=>?_;refine thn (hb pins s1 σ H1 _ I1 q1) fun u s2 ⟨y,H2,I2,r2,q2⟩=>?_;exact hf v u s2 x y H2 I2 r1 r2 q2
theorem jap {op:Operator} {r:R2} (ho:OpR X (binaryOp op) r) (ha:PE X a ta) (hb:PE X b tb):PE X (.BinOp a op b pos) (tOp r ta tb):=by
 intro pins s σ H Q I h;exact wpAny_BinOp (binT ha hb I h fun v u s2 x y H2 I2 rx ry q=>ho pins s2 σ H2 x y v u Q I2 rx ry q)
theorem jdM {op:UnaryOp} {r:V->Hp->VK->Prop} (ho:UnR X (unaryOp op) r) (ha:PE X a ta):PE X (.UnaryOp op a pos) (tUn r ta):=by
 intro pins s σ H Q I h;exact UnaryOp_ (thn (ha pins s σ H _ I h) fun v s1 ⟨x,H1,I1,r1,q1⟩=>ho pins s1 σ H1 x v Q I1 r1 q1)
theorem opI {f:Value->Value->Sem Value} {C:Int->Int->Prop} {g:Int->Int->Int}
  (rule:∀(i j:Int) (t u:Tok) (s:Shared) (Q:Value->Shared->Prop) (E:Value->Shared->Prop),C i j->Q (.int (g i j) s.toks) { s with toks:=s.toks+1 }->wpAny (model X.prog X.w) X.A (f (.int i t) (.int j u)) Q E s) :
  OpR X f (rI C fun i j=>.int (g i j)):=by
 intro pins s σ H x y v u Q I rx ry h;obtain⟨i,j,rfl,rfl,hc,q⟩:=h;obtain⟨t,rfl⟩:=rx;obtain⟨t',rfl⟩:=ry;exact rule i j t t' s _ _ hc ⟨.int (g i j),H,I.tok _,⟨_,rfl⟩,q⟩
theorem opI0 {f:Value->Value->Sem Value} {g:Int->Int->Int}
  (rule:∀(i j:Int) (t u:Tok) (s:Shared) (Q:Value->Shared->Prop) (E:Value->Shared->Prop),Q (.int (g i j) s.toks) { s with toks:=s.toks+1 }->wpAny (model X.prog X.w) X.A (f (.int i t) (.int j u)) Q E s) :
  OpR X f (rI0 fun i j=>.int (g i j)):=by
 intro pins s σ H x y v u Q I rx ry h;obtain⟨i,j,rfl,rfl,q⟩:=h;obtain⟨t,rfl⟩:=rx;obtain⟨t',rfl⟩:=ry;exact rule i j t t' s _ _ ⟨.int (g i j),H,I.tok _,⟨_,rfl⟩,q⟩
theorem opB0 {f:Value->Value->Sem Value} {g:Int->Int->Bool}
  (rule:∀(i j:Int) (t u:Tok) (s:Shared) (Q:Value->Shared->Prop) (E:Value->Shared->Prop),Q (.bool (g i j)) s->wpAny (model X.prog X.w) X.A (f (.int i t) (.int j u)) Q E s) :
  OpR X f (rI0 fun i j=>.bl (g i j)):=by
 intro pins s σ H x y v u Q I rx ry h;obtain⟨i,j,rfl,rfl,q⟩:=h;obtain⟨t,rfl⟩:=rx;obtain⟨t',rfl⟩:=ry;exact rule i j t t' s _ _ ⟨.bl (g i j),H,I,rfl,q⟩
def CPow (i j:Int):Prop:=0<=j/\j<=1000000/\i.natAbs<2^64
def CMul (i j:Int):Prop:=(-(2^64)<i/\i<2^64)\/(-(2^64)<j/\j<2^64)
theorem CMul.ok {i j:Int} (h:CMul i j):IntMulOk i j:=by
 rcases h with ⟨h1,h2⟩ | ⟨h1,h2⟩
 ·exact .of_left (intBits_le_64 h1 h2)
 ·exact .of_right (intBits_le_64 h1 h2)
theorem jbt:OpR X (binaryOp .Add) (rI0 fun i j=>.int (i+j)):=opI0 fun _ _ _ _ _ _ _ q=>add_int q
theorem jbf:OpR X (binaryOp .Sub) (rI0 fun i j=>.int (i-j)):=opI0 fun _ _ _ _ _ _ _ q=>sub_int q
theorem jlp:OpR X (binaryOp .Mult) (rI CMul fun i j=>.int (i*j)):=opI fun _ _ _ _ _ _ _ hc q=>mul_int q hc.ok
theorem jds:OpR X (binaryOp .Mod) (rI (fun _ j=>0<j) fun i j=>.int (i % j)):=opI fun i j _ _ _ _ _ hc q=>by
 have h1:(0:Int)<j:=hc;exact mod_int' (by omega) (by rw[Int.fmod_eq_emod_of_nonneg i (by omega)];exact q)
theorem jmj:OpR X (binaryOp .Mod) (rI (fun _ j=>j≠0) fun i j=>.int (i.fmod j)):=opI fun _ _ _ _ _ _ _ hc q=>mod_int' hc q
theorem jlq:OpR X (binaryOp .Pow) (rI CPow fun i j=>.int (i^j.toNat)):=opI fun _ _ _ _ _ _ _ hc q=>pow_int_small hc.1 hc.2.1 hc.2.2 q
theorem unI {f:Value->Sem Value} {g:Int->Int}
  (rule:∀(i:Int) (t:Tok) (s:Shared) (Q:Value->Shared->Prop) (E:Value->Shared->Prop),Q (.int (g i) s.toks) { s with toks:=s.toks+1 }->wpAny (model X.prog X.w) X.A (f (.int i t)) Q E s) :
  UnR X f (rU fun i=>.int (g i)):=by
 intro pins s σ H x v Q I rx h;obtain⟨i,rfl,q⟩:=h;obtain⟨t,rfl⟩:=rx;exact rule i t s _ _ ⟨.int (g i),H,I.tok _,⟨_,rfl⟩,q⟩
theorem jb3:UnR X (unaryOp .USub) (rU fun i=>.int (-i)):=unI fun _ _ _ _ _ q=>neg_int q
end
def jnH:V->V->Bool
 | .non,.non=>true | .non,.int _=>true | .int _,.non=>true | .non,.bl _=>true | .bl _,.non=>true | .non,.str _=>true | .str _,.non=>true
 | .int _,.int _=>true | .bl _,.bl _=>true | .str _,.str _=>true | .byt _,.byt _=>true
 | .int _,.str _=>true | .str _,.int _=>true | .bl _,.str _=>true | .str _,.bl _=>true
 | _,_=>false
def rEq:R2:=fun x y H Q=>jnH x y=true/\Q (.bl (decide (x=y))) H
def rNe:R2:=fun x y H Q=>jnH x y=true/\Q (.bl (!decide (x=y))) H
theorem jiB {i j:Int}:decide (V.int i=V.int j)=(i==j):=by
 rw[xbX];simp
theorem jlr {i j:Bool}:decide (V.bl i=V.bl j)=(i==j):=by
 rw[xbX];simp
theorem jiC {i j:Str}:decide (V.str i=V.str j)=(i==j):=by
 rw[xbX];simp
theorem jiD {i j:Array UInt8}:decide (V.byt i=V.byt j)=(i.toList==j.toList):=by
 rw[xbX];cases i;cases j;simp
section
variable {X:Cx} {a b c:Expr} {ta tb tc:TE} {pos:Pos}
theorem jaK {pins:List (Addr × Obj)} {σ:St} {H:Hp} {s:Shared} {Q:VK} {k k':Bool} (I:Inv X pins σ H s) (q:Q (.bl k) H) (e:k=k'):EP X pins σ Q (.bool k') s:=by
 subst e;exact⟨.bl k,H,I,rfl,q⟩
theorem jek:OpR X (compareOp .Eq) rEq:=by
  intro pins s σ H x y v u Q I rx ry h;obtain⟨hs,q⟩:=h;cases x with
  | non =>
    cases rx;cases y with
    | non=>cases ry;exact PySem.EqNone.eq_none_none (jaK I q (by simp))
    | bl j=>cases ry;exact PySem.EqNone.eq_none_bool (jaK I q (by simp))
    | int j=>obtain⟨t',rfl⟩:=ry;exact PySem.EqNone.eq_none_int (jaK I q (by simp))
    | str j=>obtain⟨t',rfl⟩:=ry;exact PySem.EqNone.eq_none_str (jaK I q (by simp))
    | _=>exact absurd (show false=true from hs) xat
  | bl i =>
    cases rx;cases y with
    | non=>cases ry;exact PySem.EqNone.eq_bool_none (jaK I q (by simp))
    | bl j=>cases ry;exact eq_bool (jaK I q jlr)
    | str j=>obtain⟨t',rfl⟩:=ry;exact PySem.EqMixed.eq_bool_str (jaK I q (by simp))
    | _=>exact absurd (show false=true from hs) xat
  | int i =>
    obtain⟨t,rfl⟩:=rx;cases y with
    | non=>cases ry;exact PySem.EqNone.eq_int_none (jaK I q (by simp))
    | int j=>obtain⟨t',rfl⟩:=ry;exact eq_int (jaK I q jiB)
    | str j=>obtain⟨t',rfl⟩:=ry;exact PySem.EqMixed.eq_int_str (jaK I q (by simp))
    | _=>exact absurd (show false=true from hs) xat
  | str i =>
    obtain⟨t,rfl⟩:=rx;cases y with
    | non=>cases ry;exact PySem.EqNone.eq_str_none (jaK I q (by simp))
    | bl j=>cases ry;exact PySem.EqMixed.eq_str_bool (jaK I q (by simp))
    | int j=>obtain⟨t',rfl⟩:=ry;exact PySem.EqMixed.eq_str_int (jaK I q (by simp))
    | str j=>obtain⟨t',rfl⟩:=ry;exact eq_str (jaK I q jiC)
    | _=>exact absurd (show false=true from hs) xat
  | byt i =>
    obtain⟨t,rfl⟩:=rx;cases y with
    | byt j=>obtain⟨t',rfl⟩:=ry;exact PySem.W.eq_bytes (jaK I q jiD)
    | _=>exact absurd (show false=true from hs) xat
  | _=>cases y<;>exact absurd (show false=true from hs) xat
theorem jgQ:OpR X (compareOp .NotEq) rNe:=by
  intro pins s σ H x y v u Q I rx ry h;obtain⟨hs,q⟩:=h;cases x with
  | non =>
    cases rx;cases y with
    | non=>cases ry;exact PySem.EqNone.ne_none_none (jaK I q (by simp))
    | bl j=>cases ry;exact PySem.EqNone.ne_none_bool (jaK I q (by simp))
    | int j=>obtain⟨t',rfl⟩:=ry;exact PySem.EqNone.ne_none_int (jaK I q (by simp))
    | str j=>obtain⟨t',rfl⟩:=ry;exact PySem.EqNone.ne_none_str (jaK I q (by simp))
    | _=>exact absurd (show false=true from hs) xat
  | bl i =>
    cases rx;cases y with
    | non=>cases ry;exact PySem.EqNone.ne_bool_none (jaK I q (by simp))
    | bl j=>cases ry;exact ne_bool (jaK I q (congrArg not jlr))
    | str j=>obtain⟨t',rfl⟩:=ry;exact PySem.EqMixed.ne_bool_str (jaK I q (by simp))
    | _=>exact absurd (show false=true from hs) xat
  | int i =>
    obtain⟨t,rfl⟩:=rx;cases y with
    | non=>cases ry;exact PySem.EqNone.ne_int_none (jaK I q (by simp))
    | int j=>obtain⟨t',rfl⟩:=ry;exact ne_int (jaK I q (congrArg not jiB))
    | str j=>obtain⟨t',rfl⟩:=ry;exact PySem.EqMixed.ne_int_str (jaK I q (by simp))
    | _=>exact absurd (show false=true from hs) xat
  | str i =>
    obtain⟨t,rfl⟩:=rx;cases y with
    | non=>cases ry;exact PySem.EqNone.ne_str_none (jaK I q (by simp))
    | bl j=>cases ry;exact PySem.EqMixed.ne_str_bool (jaK I q (by simp))
    | int j=>obtain⟨t',rfl⟩:=ry;exact PySem.EqMixed.ne_str_int (jaK I q (by simp))
    | str j=>obtain⟨t',rfl⟩:=ry;exact ne_str (jaK I q (congrArg not jiC))
    | _=>exact absurd (show false=true from hs) xat
  | byt i =>
    obtain⟨t,rfl⟩:=rx;cases y with
    | byt j=>obtain⟨t',rfl⟩:=ry;exact PySem.W.ne_bytes (jaK I q (congrArg not jiD))
    | _=>exact absurd (show false=true from hs) xat
  | _=>cases y<;>exact absurd (show false=true from hs) xat
theorem jgR:OpR X (compareOp .Lt) (rI0 fun i j=>.bl (decide (i<j))):=opB0 fun _ _ _ _ _ _ _ q=>lt_int q
theorem jmk:OpR X (compareOp .LtE) (rI0 fun i j=>.bl (decide (i<=j))):=opB0 fun _ _ _ _ _ _ _ q=>le_int q
theorem jkr:OpR X (compareOp .Gt) (rI0 fun i j=>.bl (decide (j<i))):=opB0 fun _ _ _ _ _ _ _ q=>gt_int q
theorem jml:OpR X (compareOp .GtE) (rI0 fun i j=>.bl (decide (j<=i))):=opB0 fun _ _ _ _ _ _ _ q=>ge_int q
theorem jiE:OpR X (compareOp .Is) (fun x y H Q=>y=.non/\Q (.bl (decide (x=.non))) H):=by
 intro pins s σ H x y v u Q I rx ry h;obtain⟨rfl,q⟩:=h;cases ry;refine is_none_gen (jaK I q ?_);cases x<;>first
  | (cases rx;rfl)
  | (obtain⟨t,rfl⟩:=rx;rfl)
theorem jiF:OpR X (compareOp .IsNot) (fun x y H Q=>y=.non/\Q (.bl (!decide (x=.non))) H):=by
 intro pins s σ H x y v u Q I rx ry h;obtain⟨rfl,q⟩:=h;cases ry;refine isnot_none_gen (jaK I q ?_);cases x<;>first
  | (cases rx;rfl)
  | (obtain⟨t,rfl⟩:=rx;rfl)
theorem OpR.or {f:Value->Value->Sem Value} {r r':R2} (h:OpR X f r) (h':OpR X f r'):OpR X f (fun x y H Q=>r x y H Q\/r' x y H Q):=by
 intro pins s σ H x y v u Q I rx ry q;rcases q with q | q
 ·exact h pins s σ H x y v u Q I rx ry q
 ·exact h' pins s σ H x y v u Q I rx ry q
theorem jaC (b:Expr) {op:CmpOp} (h:op≠.In:=by decide) (h2:op≠.NotIn:=by decide):behindInMarks op b=false:=by
 have e1:(op==CmpOp.In)=false:=by cases op<;>first | rfl | exact absurd rfl h
 have e2:(op==CmpOp.NotIn)=false:=by cases op<;>first | rfl | exact absurd rfl h2
 cases b<;>simp [behindInMarks,e1,e2]
theorem jdd {op:CmpOp} {r:R2} (ho:OpR X (compareOp op) r) (ha:PE X a ta) (hb:PE X b tb) (hm:behindInMarks op b=false):PE X (.Compare a [op] [b] pos) (tOp r ta tb):=by
 intro pins s σ H Q I h;exact wpAny_Compare1 (binT ha hb I h fun v u s2 x y H2 I2 rx ry q=>ho pins s2 σ H2 x y v u Q I2 rx ry q) hm
def jgS (t:TE):TT:=fun σ H Q=>t σ H fun x H'=>∃k,x=.bl k/\Q k H'
theorem jav {op:CmpOp} {r:R2} (ho:OpR X (compareOp op) r) (ha:PE X a ta) (hb:PE X b tb) (hm:behindInMarks op b=false):PT X (.Compare a [op] [b] pos) (jgS (tOp r ta tb)):=by
 intro pins s σ H Q I h;refine wpAny_isTrue_Compare1 (thn (ha pins s σ H _ I h) fun v s1 ⟨x,H1,I1,r1,q1⟩=>thn (hb pins s1 σ H1 _ I1 q1) fun u s2 ⟨y,H2,I2,r2,q2⟩ =>
  thn (ho pins s2 σ H2 x y v u _ I2 r1 r2 q2) fun c s3 ⟨z,H3,I3,r3,k,e,q3⟩=>?_) hm
 subst e;cases r3;exact wpAny_truthy_bool ⟨H3,I3,q3⟩
def jls (r r':R2) (ta tb tc:TE):TE:=fun σ H Q=>ta σ H fun x H1=>tb σ H1 fun y H2=>r x y H2 fun z H3=>∃k,z=.bl k /\
 (if k=true then tc σ H3 fun w' H4=>r' y w' H4 Q else Q (.bl false) H3)
theorem jhq:(sizeLine:Nat)<2^63:=by rw[sizeLine_eq];decide
theorem jfB {x:V} {us:List Value} (r:Vals [x] us):∃u,us=[u]/\RelV x u:=by
 cases r with
 | cons r1 r2=>cases r2;exact⟨_,rfl,r1⟩
theorem jks {x y:V} {us:List Value} (r:Vals [x,y] us):∃u w',us=[u,w']/\RelV x u/\RelV y w':=by
  cases r with
  | cons r1 r2 =>
    cases r2 with
    | cons r3 r4=>cases r4;exact⟨_,_,rfl,r1,r3⟩
theorem jdt:CallR X (.builtin "abs") (fun xs H Q=>∃i,xs=[.int i]/\Q (.int (if i<0 then -i else i)) H):=by
 intro pins s σ H xs us Q I r h;obtain⟨i,rfl,q⟩:=h;obtain⟨u,rfl,t,rfl⟩:=jfB r;exact call_abs_int fun u tk=>⟨.int (if i<0 then -i else i),H,I.tok _,⟨_,rfl⟩,q⟩
theorem jev (hc:X.calm=true):CallR X (.builtin "max") (fun xs H Q=>∃i j,xs=[.int i,.int j]/\Q (.int (if j>i then j else i)) H):=by
 intro pins s σ H xs us Q I r h;obtain⟨i,j,rfl,q⟩:=h;obtain⟨u,w',rfl,⟨t,rfl⟩,⟨t',rfl⟩⟩:=jks r;refine max_two_ints (I.ok.hd hc) fun h' tk k=>⟨_,H,I.kept k,?_,q⟩;by_cases hj:j>i
 ·rw[if_pos hj,if_pos hj];exact⟨_,rfl⟩
 ·rw[if_neg hj,if_neg hj];exact⟨_,rfl⟩
theorem jiG (hc:X.calm=true):CallR X (.builtin "min") (fun xs H Q=>∃i j,xs=[.int i,.int j]/\Q (.int (if j<i then j else i)) H):=by
 intro pins s σ H xs us Q I r h;obtain⟨i,j,rfl,q⟩:=h;obtain⟨u,w',rfl,⟨t,rfl⟩,⟨t',rfl⟩⟩:=jks r;refine min_two_ints (I.ok.hd hc) fun h' tk k=>⟨_,H,I.kept k,?_,q⟩;by_cases hj:j<i
 ·rw[if_pos hj,if_pos hj];exact⟨_,rfl⟩
 ·rw[if_neg hj,if_neg hj];exact⟨_,rfl⟩
end
structure ObjM (h:Heap) (x dx C:Addr) (mA:Str->Option Value):Prop where
 obj:h.get? x=some (PySem.W.instObj C dx)
 ns:h.Ns1 dx mA
 ne:dx≠x
theorem jga {h:Heap} {dx:Addr} {mA:Str->Option Value} (n:h.Ns1 dx mA):∃od,h.get? dx=some od/\∀name,PySem.W.lookIn name od=some (mA name):=by
 obtain⟨o,es,ep,ho,hd,hk,_,hm⟩:=n;refine⟨o,ho,fun name=>?_⟩;have e:=hm name;unfold nsFind findBy at e;rw[<- Array.find?_toList] at e;unfold PySem.W.lookIn;rw[hd];dsimp only;split
 ·rename_i y q
  rw[q] at e;exact congrArg some e
 ·rename_i q
  rw[q] at e;have a:es.toList.any (·.refKey)=false:=by
   rw[List.any_eq_false];intro y hy;obtain⟨z,t,hkey⟩:=hk y (Array.mem_toList_iff.mp hy);simp [DictEntry.refKey,hkey]
  have a':¬es.toList.any (·.refKey)=true:=by rw[a];exact xat
  rw[if_neg a'];exact congrArg some e
theorem ObjM.look {h:Heap} {x dx C:Addr} {mA:Str->Option Value} (I:ObjM h x dx C mA):∃od,PySem.W.InstAt h x (PySem.W.instObj C dx) C (some od)/\∀name,PySem.W.lookIn name od=some (mA name) :=
 let ⟨od,ho,hl⟩:=jga I.ns
 ⟨od,⟨I.obj,rfl,rfl,ho⟩,hl⟩
theorem RelO.some_of {v:V} {o:Option Value} (r:RelO (some v) o):∃u,o=some u/\RelV v u:=by
 cases o with
 | none=>exact (show False from r).elim
 | some u=>exact⟨u,rfl,r⟩
theorem jiH {v:V} {u:Value} (r:RelV v u):PySem.W.handedIn u=true:=by
 cases v with
 | non=>cases (show u=Value.none from r);rfl
 | bl b=>cases (show u=Value.bool b from r);rfl
 | int i=>obtain⟨t,e⟩:=(show ∃t,u=Value.int i t from r);cases e;rfl
 | str x=>obtain⟨t,e⟩:=(show ∃t,u=Value.str x t from r);cases e;rfl
 | byt b=>obtain⟨t,e⟩:=(show ∃t,u=Value.bytes b t from r);cases e;rfl
 | flt b=>obtain⟨t,e⟩:=(show ∃t,u=Value.float b t from r);cases e;rfl
 | ref a=>cases (show u=Value.ref a from r);rfl
 | ty n=>cases (show u=Value.type n from r);rfl
section
variable {P:Program} {w:World} {H H':Hp} {h h':Heap} {a C dx:Addr} {fs fs':List (Str × V)}
theorem jmm (hok:HOk P w H h) (e:H a=some (.ins C dx fs)):∃mA,ObjM h a dx C mA/\(∀f,RelO (fs.lookup f) (mA f))/\PySem.Within mA (fs.map (·.1))/\fs.length<=1000/\H dx=some (.own a):=by
 obtain⟨d,z,ne,ob,mA,n,r,q⟩:=(show ObjOk P w H h a (.ins C dx fs) from hok a _ e);exact⟨mA,⟨ob,n,ne⟩,r,q,z,d⟩
end
structure Cls (K:PySem.W.Frag) (C:Addr):Prop where
 pg:PySem.W.plainGet K C Str.empty=true
 hd:PySem.W.hasDictIn K C=true
 po:PySem.W.plainOver K C=true
 sa:PySem.W.findIn K (.ref C) "__setattr__"=some (some (.builtin "object.__setattr__"))
theorem Cls.get {K:PySem.W.Frag} {C:Addr} (c:Cls K C) (f:Str):PySem.W.plainGet K C f=true:=c.pg
section
variable {X:Cx} {pins:List (Addr × Obj)} {σ:St} {H:Hp} {s:Shared} {a C dx:Addr} {fs:List (Str × V)} {f:Str} {v:V} {A:Around} {E:Value->Shared->Prop}
theorem jmn {prog:Program} {w:World} {env:Env} {e:Expr} {f:Str} {pos:Pos} {s:Shared} {Q:Value->Shared->Prop} (hb:attributeBase e f env (eval e env)=eval e env)
  (h:wpAny (model prog w) A (eval e env) (fun o s₁=>wpAny (model prog w) A (getAttr o f true) Q E s₁) E s):wpAny (model prog w) A (eval (.Attribute e f pos) env) Q E s :=
 Attribute_any_ h (by rw[arm_eval_Attribute,hb])
end
section
variable {X:Cx} {pins:List (Addr × Obj)} {σ:St} {H:Hp} {s:Shared} {A:Around} {E:Value->Shared->Prop} {Q:Value->Shared->Prop} {c:Value} {b:Bool}
inductive TyOf (K:PySem.W.Frag) (H:Hp):V->Value->Prop where
 | non:TyOf K H .non (.type "NoneType")
 | bl (x:Bool):TyOf K H (.bl x) (.type "bool")
 | int (i:Int):TyOf K H (.int i) (.type "int")
 | str (x:Str):TyOf K H (.str x) (.type "str")
 | flt (x:UInt64):TyOf K H (.flt x) (.type "float")
 | lst {a:Addr} {xs:List V} (e:H a=some (.lst xs)):TyOf K H (.ref a) (.type "list")
 | frz {a:Addr} {o:Obj} {xs:List V} (e:H a=some (.frz o (.lst xs))):TyOf K H (.ref a) (.type "list")
 | tup {a:Addr} {xs:List V} (e:H a=some (.tup xs)):TyOf K H (.ref a) (.type "tuple")
 | dK {a:Addr} {kvs:List (Key × V)} (e:H a=some (.dK kvs)):TyOf K H (.ref a) (.type "dict")
 | dT {a:Addr} {kvs:List (List Key × V)} (e:H a=some (.dT kvs)):TyOf K H (.ref a) (.type "dict")
 | ins {a C dx:Addr} {fs:List (Str × V)} (e:H a=some (.ins C dx fs)) (cl:Cls K C) (ha:PySem.W.findIn K (.ref C) "__class__"=some (some (.builtin "object.__class__")))
   (hn:PySem.W.specialIn K (.builtin "object.__class__") "__get__"=some (some (.builtin "getset_descriptor.__get__"))) (htk:PySem.W.takesIn K (.builtin "object.__class__")=some true)
   (hm:PySem.W.mroIn K C (.type "object")=some true):TyOf K H (.ref a) (.ref C)
theorem jiI {x:V} {u t:Value} (I:Inv X pins σ H s) (rx:RelV x u) (ty:TyOf X.K H x t) (e:PySem.W.kitOne X.K t c=some b) (h:∀tk,Q (.bool b) { s with toks:=tk }) :
    wpAny (model X.prog X.w) A (call (.builtin "isinstance") [u,c]) Q E s:=by
  cases ty with
  | non=>cases (show u=Value.none from rx);exact PySem.W.kia_one PySem.W.kitx_none I.kIn True.intro e (fun z=>nomatch z) h
  | bl y=>cases (show u=Value.bool y from rx);exact PySem.W.kia_one PySem.W.kitx_bool I.kIn True.intro e (fun z=>nomatch z) h
  | int i=>obtain⟨t,q⟩:=(show ∃t,u=Value.int i t from rx);cases q;exact PySem.W.kia_one PySem.W.kitx_int I.kIn True.intro e (fun z=>nomatch z) h
  | str y=>obtain⟨t,q⟩:=(show ∃t,u=Value.str y t from rx);cases q;exact PySem.W.kia_one PySem.W.kitx_str I.kIn True.intro e (fun z=>nomatch z) h
  | flt y=>obtain⟨t,q⟩:=(show ∃t,u=Value.float y t from rx);cases q;exact PySem.W.kia_one PySem.W.kitx_float I.kIn True.intro e (fun z=>nomatch z) h
  | @lst a xs ea =>
    cases (show u=Value.ref a from rx);obtain⟨_,_,n,_,h1⟩:=(show ObjOk X.prog X.w H s.heap a (.lst xs) from I.hok a _ ea);exact PySem.W.kia_one PySem.W.kitx_list I.kIn ⟨_,h1,rfl⟩ e (fun z=>nomatch z) h
  | @frz a ob xs ea =>
    cases (show u=Value.ref a from rx);obtain⟨_,_,_,n,_,h1⟩:=(show ObjOk X.prog X.w H s.heap a (.frz ob (.lst xs)) from I.hok a _ ea);exact PySem.W.kia_one PySem.W.kitx_list I.kIn ⟨_,h1,rfl⟩ e (fun z=>nomatch z) h
  | @tup a xs ea =>
    cases (show u=Value.ref a from rx);obtain⟨_,_,_,p⟩:=(show ObjOk X.prog X.w H s.heap a (.tup xs) from I.hok a _ ea);obtain⟨o,h1,h2,_⟩:=p;exact PySem.W.kia_one PySem.W.kitx_tuple I.kIn ⟨o,h1,h2⟩ e (fun z=>nomatch z) h
  | @dK a kvs ea =>
    cases (show u=Value.ref a from rx);obtain⟨_,_,vs,_,p⟩:=(show ObjOk X.prog X.w H s.heap a (.dK kvs) from I.hok a _ ea);obtain⟨o,es,ep,h1,h2,_⟩:=p;exact PySem.W.kia_one PySem.W.kitx_dict I.kIn ⟨o,h1,h2.1⟩ e (fun z=>nomatch z) h
  | @dT a kvs ea =>
    cases (show u=Value.ref a from rx);obtain⟨_,_,xs,_,o,es,ep,h1,h2,_⟩:=(show ObjOk X.prog X.w H s.heap a (.dT kvs) from I.hok a _ ea);exact PySem.W.kia_one PySem.W.kitx_dict I.kIn ⟨o,h1,h2.1⟩ e (fun z=>nomatch z) h
  | @ins a C dx fs ea cl ha hn htk hm =>
    cases (show u=Value.ref a from rx);obtain⟨mA,O,_⟩:=jmm I.hok ea;obtain⟨od,J,_⟩:=O.look;exact PySem.W.kia_one (PySem.W.kitx_own (cl.get _) cl.hd ha hn htk hm) I.kIn J e (fun z=>nomatch z) h
end
structure Room (k:Nat) (A:Around):Prop where
 hd:A.handled=none
 dp:A.depth+3*k+5<recursionLimit
 un:A.units+16*k+200<cLine
theorem Room.mono {j k:Nat} {A:Around} (r:Room k A) (h:j<=k):Room j A:=⟨r.hd,by have:=r.dp;omega,by have:=r.un;omega⟩
theorem Room.m {j k:Nat} {A:Around} (r:Room k A) (h:j≤k:=by decide):Room j A:=r.mono h
theorem Room.deeper {k:Nat} {A:Around} (r:Room (k+1) A) (env:Env):Room k (A.deeper env) :=
 ⟨r.hd,by have:=r.dp;show A.depth+1+3*k+5<_;omega,by have:=r.un;show A.units+3+16*k+200<_;omega⟩
theorem Room.in1 {k:Nat} {A:Around} (r:Room (k+1) A):Room k A.in1 :=
 ⟨r.hd,by have:=r.dp;show A.depth+3*k+5<_;omega,by have:=r.un;show A.units+1+16*k+200<_;omega⟩
theorem jhY {A:Around} {C:Addr} {us:List Value} {kw:List (Str × Value)}:(A.under (.builtin "type.__call__" ⟨.ref C::us,kw⟩)).depth=A.depth+1:=by
 first | rfl | simp [Around.under,Code.weight,Code.isCreation,Code.isGuard,Code.isCaller,Code.frames,Code.isFrame,guardIds]
theorem jhZ {A:Around} {C:Addr} {us:List Value} {kw:List (Str × Value)}:(A.under (.builtin "type.__call__" ⟨.ref C::us,kw⟩)).units=A.units+1:=by
 first | rfl | simp [Around.under,Code.cUnits,Code.frames,Code.isFrame]
theorem Room.make {k:Nat} {A:Around} (r:Room (k+1) A) (C:Addr) (us:List Value) (kw:List (Str × Value)):Room k (A.under (.builtin "type.__call__" ⟨.ref C::us,kw⟩)) :=
 ⟨r.hd,by have:=r.dp;rw[jhY];omega,by have:=r.un;rw[jhZ];omega⟩
theorem Room.depth {k:Nat} {A:Around} (r:Room k A):A.depth<recursionLimit:=by have:=r.dp;omega
theorem Room.units {k:Nat} {A:Around} (r:Room k A):A.units+64<cLine:=by have:=r.un;omega
def jgT:TA:=fun _ H Q=>Q [] H
def jbQ (ta:TE) (tr:TA):TA:=fun σ H Q=>ta σ H fun x H1=>tr σ H1 fun xs H2=>Q (x::xs) H2
section
variable {X:Cx} {e:Expr} {es:List Expr} {te:TE} {t:TA} {pos:Pos}
theorem jac:PA X [] jgT:=fun _ _ _ _ H Q I h=>Calls.spliced_nil ⟨[],H,I,.nil,h⟩
theorem jaa (ha:PE X e te) (hr:PA X es t) (hs:starEach (e::es) X.env=(false,eval e X.env)::starEach es X.env:=by rfl):PA X (e::es) (jbQ te t):=by
 intro pos pins s σ H Q I h;rw[hs];show wpAny _ _ (spliced ((false,eval e X.env)::backTo pos (starEach es X.env))) _ _ s;refine Calls.spliced_cons (thn (ha pins s σ H _ I h) fun u s1 ⟨x,H1,I1,r1,q1⟩=>?_);exact thn (hr pos pins s1 σ H1 _ I1 q1) fun us s2 ⟨xs,H2,I2,r2,q2⟩=>⟨x::xs,H2,I2,.cons r1 r2,q2⟩
def jmo (t:TA):TE:=fun σ H Q=>t σ H fun xs H1=>xs.length<=sizeLine/\∀p,H1 p=none->Q (.ref p) (upd H1 p (.tup xs))
def jkt (t:TA):TE:=fun σ H Q=>t σ H fun xs H1=>xs.length<=sizeLine/\∀p,H1 p=none->Q (.ref p) (upd H1 p (.lst xs))
theorem ja1 {x1} (h:PA X es t):PE X (.Tuple es x1 pos) (jmo t):=by
 intro pins s σ H Q I hq;refine wpAny_Tuple_spliced (thn (h pos pins s σ H _ I hq) fun us s1 ⟨xs,H1,I1,r,z,q⟩=>⟨by rw[<- r.length];exact z,?_⟩);have hf:H1 s1.heap.objs.size=none:=I1.hok.fresh (xaj _);refine⟨.ref s1.heap.objs.size,upd H1 s1.heap.objs.size (.tup xs),I1.laid (t':=s1.toks) (fun b u e=>Heap.get?_push_of_some _ e) (xaj _) ?_,rfl,q _ hf⟩;exact⟨z,us,r,⟨_,Heap.get?_push_size _ rfl,rfl,_,rfl⟩⟩
theorem jaQ (h:PA X es t):PE X (.List es pos) (jkt t):=by
 intro pins s σ H Q I hq;refine wpAny_List_spliced (thn (h pos pins s σ H _ I hq) fun us s1 ⟨xs,H1,I1,r,z,q⟩=>⟨by rw[<- r.length];exact z,?_⟩);have hf:H1 s1.heap.objs.size=none:=I1.hok.fresh (xaj _);refine⟨.ref s1.heap.objs.size,upd H1 s1.heap.objs.size (.lst xs),I1.laid (t':=s1.toks) (fun b u e=>Heap.get?_push_of_some _ e) (xaj _) ?_,rfl,q _ hf⟩;exact⟨z,us,0,r,Heap.get?_push_size _ rfl⟩
end
abbrev Sp:=List V->Hp->VK->XK->Prop
abbrev CXT:=List Env->Hp->Shared->XK->Value->Shared->Prop
structure Env0 (P:Program) (w:World) (K:PySem.W.Frag) (mg:Str->Option Value) (base:Heap) (A:Around) (outer:List Env) (s:Shared) (H:Hp):Prop where
 frames:A.frames=some outer
 mod:Mod K mg base
 bs:∀b o,base.get? b=some o->s.heap.get? b=some o/\H b=none
 bsz:base.objs.size<=s.heap.objs.size
 funs:s.heap.FunFrames base outer
 frf:∀b∈frs outer,H b=none
 hok:HOk P w H s.heap
 bare:AllBare s.gens
def CE (outer:List Env) (P:Program) (w:World) (H:Hp) (s:Shared) (Q:VK) (u:Value) (s':Shared):Prop :=
 ∃v H',s'.os=s.os/\AllBare s'.gens/\Un (frs outer) [] H H' s.heap s'.heap/\HOk P w H' s'.heap/\RelV v u/\Q v H'
def CR (CX:CXT) (outer:List Env) (P:Program) (w:World) (H:Hp) (s:Shared) (Q:VK) (E:XK) (r:Result) (s':Shared):Prop :=
 match r with
 | .ok (.ret u)=>CE outer P w H s Q u s'
 | .ok _=>False
 | .error e=>CX outer H s E e s'
structure FnOk (P:Program) (w:World) (K:PySem.W.Frag) (mg:Str->Option Value) (base:Heap) (CX:CXT) (k:Nat) (f:Addr) (fd:FuncData) (ps:List Str) (sp:Sp):Prop where
 len:∀vs H Q E,sp vs H Q E->vs.length=ps.length
 run:∀(A:Around) (outer:List Env) (s:Shared) (H:Hp) (args:Args) (us:List Value) (vs:List V) (Q:VK) (E:XK),Room k A->Env0 P w K mg base A outer s H->BindsTo s fd args (ps.zip us)->Vals vs us->sp vs H Q E ->
  codeAny (model P w) A (.call (.ref f) args) (CR CX outer P w H s Q E) s
theorem FnOk.mono {P:Program} {w:World} {K:PySem.W.Frag} {mg:Str->Option Value} {base:Heap} {CX:CXT} {j k:Nat} {f:Addr} {fd:FuncData} {ps:List Str} {sp:Sp} (F:FnOk P w K mg base CX j f fd ps sp) (h:j<=k) :
  FnOk P w K mg base CX k f fd ps sp:=⟨F.len,fun A outer s H args us vs Q E hr=>F.run A outer s H args us vs Q E (hr.mono h)⟩
theorem FnOk.imp {P:Program} {w:World} {K:PySem.W.Frag} {mg:Str->Option Value} {base:Heap} {CX:CXT} {k:Nat} {f:Addr} {fd:FuncData} {ps:List Str} {sp sp':Sp} (F:FnOk P w K mg base CX k f fd ps sp)
  (h:∀vs H Q E,sp' vs H Q E->sp vs H Q E):FnOk P w K mg base CX k f fd ps sp' :=
 ⟨fun vs H Q E q=>F.len vs H Q E (h _ _ _ _ q),fun A outer s H args us vs Q E hr he hb hv hs=>F.run A outer s H args us vs Q E hr he hb hv (h _ _ _ _ hs)⟩
theorem Env0.make {P:Program} {w:World} {K:PySem.W.Frag} {mg:Str->Option Value} {base:Heap} {A:Around} {outer:List Env} {s:Shared} {H:Hp} (e:Env0 P w K mg base A outer s H) (C:Addr) (us:List Value) (kw:List (Str × Value)) :
  Env0 P w K mg base (A.under (.builtin "type.__call__" ⟨.ref C::us,kw⟩)) outer s H:=⟨by first | exact e.frames | (simpa [Around.under,Code.envs,Code.isFrame,pushEnvs] using e.frames),e.mod,e.bs,e.bsz,e.funs,e.frf,e.hok,e.bare⟩
theorem Env0.in1 {P:Program} {w:World} {K:PySem.W.Frag} {mg:Str->Option Value} {base:Heap} {A:Around} {outer:List Env} {s:Shared} {H:Hp} (e:Env0 P w K mg base A outer s H) :
  Env0 P w K mg base A.in1 outer s H:=⟨e.frames,e.mod,e.bs,e.bsz,e.funs,e.frf,e.hok,e.bare⟩
section
variable {X:Cx} {pins:List (Addr × Obj)} {σ:St} {H:Hp} {s s':Shared}
theorem Inv.env0 (I:Inv X pins σ H s):Env0 X.prog X.w X.K X.mg X.base X.A X.stack s H :=
 ⟨I.ok.frames,I.ok.mod,I.bs,xaX I.ok.bsz I.sz,I.stack,I.stkFree,I.hok,I.bare⟩
theorem Inv.after {Q:VK} {u:Value} (I:Inv X pins σ H s) (h:CE X.stack X.prog X.w H s Q u s'):EP X pins σ Q u s':=by
 obtain⟨v,H',os,bare,un,hok,r,q⟩:=h;obtain⟨hh,g,d,t,os'⟩:=s';obtain rfl:os'=s.os:=os;exact⟨v,H',I.call (h':=hh) (g':=g) (d':=d) (t':=t) (ch:=[]) un hok bare (fun b z=>absurd z (by simp)),r,q⟩
end
def jew (sp:Sp) (dvs:List V) (E:XK) (t:TA):TE:=fun σ H Q=>t σ H fun vs H1=>sp (vs++dvs) H1 Q E
def Binds (K:PySem.W.Frag) (fd:FuncData) (ps:List Str) (ds:List Value):Prop :=
 ∀(s:Shared) (us:List Value),K.In s.heap->(us++ds).length=ps.length->BindsTo s fd ⟨us,[]⟩ (ps.zip (us++ds))
theorem Binds.all {K:PySem.W.Frag} {fd:FuncData} {ps:List Str} (h:∀us:List Value,us.length=ps.length->bindArgs fd ⟨us,[]⟩=pure (ps.zip us)):Binds K fd ps []:=fun s us _ hl=>by
 rw[xbY] at hl |-
 exact .of_eq (h us hl)
def jfe (CX:CXT) (X:Cx) (E:XK):Prop:=∀(pins:List (Addr × Obj)) (σ:St) (H:Hp) (s:Shared) (e:Value) (s':Shared),Inv X pins σ H s->CX X.stack H s E e s'->X.xe e s'
section
variable {X:Cx} {CX:CXT} {k:Nat} {f C:Addr} {fd:FuncData} {ps:List Str} {sp:Sp} {dvs:List V} {ds:List Value} {E:XK} {x m:Str} {p pos apos:Pos} {e o:Expr} {es:List Expr} {ta:TE} {t:TA}
theorem jn0 {pins:List (Addr × Obj)} {σ:St} {H:Hp} {s:Shared} {Q:VK} {us:List Value} {vs:List V} (F:FnOk X.prog X.w X.K X.mg X.base CX k f fd ps sp) (hr:Room k X.A) (hb:Binds X.K fd ps ds) (hd:Vals dvs ds) (hx:jfe CX X E)
    (I:Inv X pins σ H s) (r:Vals vs us) (h:sp (vs++dvs) H Q E):wpAny (model X.prog X.w) X.A (call (.ref f) us) (EP X pins σ Q) X.xe s:=by
  have r2:Vals (vs++dvs) (us++ds):=r.append hd;have hl:(us++ds).length=ps.length:=by rw[<- r2.length];exact F.len _ _ _ _ h
  refine wpAny_call (codeAny_mono (F.run X.A X.stack s H ⟨us,[]⟩ (us++ds) (vs++dvs) Q E hr I.env0 (hb s us I.kIn hl) r2 h) fun r s' hq=>?_);cases r with
  | error e=>exact hx pins σ H s e s' I hq
  | ok fl =>
    cases fl with
    | ret u=>exact I.after hq
    | next=>exact False.elim hq
    | brk=>exact False.elim hq
    | cont=>exact False.elim hq
theorem jmp (F:FnOk X.prog X.w X.K X.mg X.base CX k f fd ps sp) (hr:Room k X.A) (hg:Gl X x) (hm:X.mg x=some (.ref f)) (hk:PySem.W.keepIn X.K (.ref f)=true) (hb:Binds X.K fd ps ds) (hd:Vals dvs ds) (hx:jfe CX X E)
  (ha:PA X (e::es) t) (hdb:(x==("__debug__":Str))=false:=by decide) (he:starEach (e::es) X.env=(false,eval e X.env)::starEach es X.env:=by rfl) (hpl:(backTo pos (starEach es X.env)).any (·.1)=false:=by rfl) :
  PE X (.Call (.Name x p) (e::es) [] pos) (jew sp dvs E t):=by
 intro pins s σ H Q I h;refine wpAny_Call_Name_kw (jer I hg hm ?_ hdb);refine PySem.W.callWith_K (h₀:=X.base) I.ok.mod.kin hk (thn (ha pos pins s σ H _ I h) fun us s1 ⟨vs,H1,I1,r,q⟩=>⟨I1.kIn,?_⟩) he hpl;exact jn0 F hr hb hd hx I1 r q
structure Mk (K:PySem.W.Frag) (C f:Addr):Prop where
 makes:PySem.W.makesIn K C=true
 init:PySem.W.findIn K (.ref C) "__init__"=some (some (.ref f))
 fn:PySem.W.isFn K (.ref f)=true
 kp:PySem.W.keepIn K (.ref C)=true
end
section
variable {X:Cx} {CX:CXT} {k:Nat} {f C:Addr} {fd:FuncData} {ps ks:List Str} {sp:Sp} {E:XK} {x m:Str} {p pos apos kpos:Pos} {e o:Expr} {es:List Expr} {kws:List Keyword} {te ta:TE} {t tk:TA} {nm:Option Str}
structure KBinds (K:PySem.W.Frag) (fd:FuncData) (ps ks:List Str) (g:List Value->List Value->List Value) (gV:List V->List V->List V):Prop where
 to:∀(s:Shared) (us ws:List Value),K.In s.heap->(g us ws).length=ps.length->BindsTo s fd ⟨us,ks.zip ws⟩ (ps.zip (g us ws))
 rel:∀{vs:List V} {us:List Value} {zs:List V} {ws:List Value},Vals vs us->Vals zs ws->Vals (gV vs zs) (g us ws)
variable {g:List Value->List Value->List Value} {gV:List V->List V->List V}
end
structure FnScope (N P:List Str) (sc:Scope):Prop where
 kind:sc.kind=.function
 co:sc.isCoroutine=false
 gen:sc.isGenerator=false
 nd:N.Nodup
 pre:N.take P.length=P
 par:∀x∈P,sc.names.lookup x=some .local\/sc.names.lookup x=some .cell
 nofree:∀y∈sc.names,y.2≠.free
theorem jgb {kindOf:Str->Option NameKind} {x:Str}:∀{binds:List (Str × Value)} {m:Str->Option Value},(∀v,(x,v)∉binds)->bindL kindOf binds m x=m x
  | [],_,_=>rfl
  | (n, v) :: r, m, h => by
    unfold bindL;rw[jgb fun w hw=>h w (xad _ hw)];split
    . have:x≠n:=by rintro rfl; exact h v xaN
      simp [this]
    . rfl
theorem jgc {kindOf:Str->Option NameKind} {x:Str}:∀{binds:List (Str × Value)} {m:Str->Option Value},(∀v,(x,v)∉binds)->bindC kindOf binds m x=m x
  | [],_,_=>rfl
  | (n, v) :: r, m, h => by
    unfold bindC;rw[jgc fun w hw=>h w (xad _ hw)];split
    . rfl
    . have:x≠n:=by rintro rfl; exact h v xaN
      simp [this]
theorem jgd {kindOf:Str->Option NameKind} {x:Str} {v:Value}:∀{P:List Str} {vs:List Value} {i:Nat} {m:Str->Option Value},P.Nodup->P[i]?=some x->vs[i]?=some v->kindOf x=some .local ->
    bindL kindOf (P.zip vs) m x=some v
  | [],_,_,_,_,h,_,_=>by simp at h
  | _::_,[],_,_,_,_,h,_=>by simp at h
  | p :: P, w :: vs, 0, m, nd, h1, h2, hk => by
    simp at h1 h2;subst h1;subst h2;show bindL kindOf ((p,w)::P.zip vs) m p=_;unfold bindL;rw[jgb fun v hv=>(xcf.mp nd).1 (List.of_mem_zip hv).1,if_pos hk];simp
  | p :: P, w :: vs, i + 1, m, nd, h1, h2, hk => by
    show bindL kindOf ((p,w)::P.zip vs) m x=_;unfold bindL;exact jgd (i:=i) (xcf.mp nd).2 (by simpa using h1) (by simpa using h2) hk
theorem jge {kindOf:Str->Option NameKind} {x:Str} {v:Value}:∀{P:List Str} {vs:List Value} {i:Nat} {m:Str->Option Value},P.Nodup->P[i]?=some x->vs[i]?=some v->kindOf x≠some .local ->
    bindC kindOf (P.zip vs) m x=some v
  | [],_,_,_,_,h,_,_=>by simp at h
  | _::_,[],_,_,_,_,h,_=>by simp at h
  | p :: P, w :: vs, 0, m, nd, h1, h2, hk => by
    simp at h1 h2;subst h1;subst h2;show bindC kindOf ((p,w)::P.zip vs) m p=_;unfold bindC;rw[jgc fun v hv=>(xcf.mp nd).1 (List.of_mem_zip hv).1,if_neg hk];simp
  | p :: P, w :: vs, i + 1, m, nd, h1, h2, hk => by
    show bindC kindOf ((p,w)::P.zip vs) m x=_;unfold bindC;exact jge (i:=i) (xcf.mp nd).2 (by simpa using h1) (by simpa using h2) hk
def start (N:List Str) (vs:List V):St:=vs.map some++List.replicate (N.length-vs.length) none
def jhr (CX:CXT) (P:Program) (w:World) (K:PySem.W.Frag) (mg:Str->Option Value) (base:Heap) (N:List Str) (qual:Str) (scope:Scope) (f:Addr) (cd:Value) (A:Around) (outer:List Env) (s:Shared) (H:Hp) (E:XK):Cx where
 prog:=P
 w:=w
 K:=K
 mg:=mg
 base:=base
 A:=A.deeper (envOfC qual scope s.heap.objs.size f cd)
 N:=N
 s₀:=s
 H₀:=H
 env:=envOfC qual scope s.heap.objs.size f cd
 outer:=outer
 stack:=envOfC qual scope s.heap.objs.size f cd::outer
 ex:=[]
 calm:=true
 fn:=fun _=>true
 pn:=[]
 xe:=fun e s'=>wpAny (model P w) (A.deeper (envOfC qual scope s.heap.objs.size f cd)) (leaving (envOfC qual scope s.heap.objs.size f cd) e) (fun _ s''=>CX outer H s E e s'') (fun e' s''=>CX outer H s E e' s'') s'
theorem jhs {sc:Scope} {n:Nat} {x:Str} (h:sc.names.lookup x=some .cell):∃c,(cellsFrom n sc.names []).lookup x=some c:=by
 have q:=PySem.W.cellsFrom_some sc.names n [] (.inl h);exact xbU.mp q
theorem jiJ {CX:CXT} {P:Program} {w:World} {K:PySem.W.Frag} {mg:Str->Option Value} {base:Heap} {N ps:List Str} {qual:Str} {scope:Scope} {f:Addr} {cd:Value} {A:Around} {outer:List Env} {s s1:Shared} {H:Hp} {E:XK} {us:List Value} {vs:List V}
  (S:FnScope N ps scope) (hd:A.handled=none) (e0:Env0 P w K mg base A outer s H) (hl:vs.length=ps.length) (r:Vals vs us)
  (x:InCallC s s.heap.objs.size (bindL (envOfC qual scope s.heap.objs.size f cd).kindOf (ps.zip us) fun _=>none) (cellsFrom (s.heap.objs.size+1) scope.names []) (bindC (envOfC qual scope s.heap.objs.size f cd).kindOf (ps.zip us) fun _=>none) s1) :
  Inv (jhr CX P w K mg base N qual scope f cd A outer s H E) [] (start N vs) H s1:=by
 have hpl:ps.length<=N.length:=by have:=congrArg List.length S.pre;rw[xaO] at this;omega
 obtain⟨h1,tk,rfl,hk⟩:=x.done;have noA:∀b:Addr,b∉(jhr CX P w K mg base N qual scope f cd A outer s H E).ex:=fun b z=>absurd (show b∈([]:List Addr) from z) (by simp);refine⟨⟨e0.mod,S.kind,rfl,rfl,xaj _,fun y z c h1 h2=>?_,fun y hy=>?_,fun y c _ h=>?_,fun _=>hd,Around.frames_deeper e0.frames,.inr ⟨rfl,rfl⟩,fun b z=>absurd z (noA b),e0.bs,e0.bsz,fun b _ _=>noA b,fun b z=>absurd z (noA b),e0.funs,e0.frf⟩,
  rfl,e0.bare,Un.kept hk,⟨_,x.toInCall.ns,fun i y v h1 h2 h3=>?_⟩,fun y c h=>⟨_,x.cell y c h⟩,e0.hok.fresh (xaj _),fun y c h=>?_,fun p hp=>absurd (show p∈([]:List (Addr × Obj)) from hp) (by simp),e0.hok.kept hk,?_⟩
 ·exact name_of_addr x.apart (PySem.mem_of_lookup h1) (PySem.mem_of_lookup h2)
 ·have hy:scope.names.lookup y=some .cell\/scope.names.lookup y=some .free:=hy;rcases hy with hy | hy
  ·exact jhs hy
  ·exact absurd rfl (S.nofree _ (PySem.mem_of_lookup hy))
 ·exact xa2 (x.above y c (PySem.mem_of_lookup h))
 ·have hi:i<vs.length:=by
   unfold start at h2;by_cases hi:i<vs.length
   ·exact hi
   ·rw[xaH (by simpa using hi)] at h2;rw[List.getElem?_replicate] at h2;split at h2<;>cases h2
  have ha:vs[i]?=some v:=by
   unfold start at h2;rw[xaV (by simpa using hi),xav] at h2;cases e:vs[i]? with
   | none=>rw[e] at h2;cases h2
   | some a=>rw[e] at h2;cases h2;rfl
  obtain⟨u,hu,rv⟩:=r.get ha;have hp:ps[i]?=some y:=by
   rw[<- S.pre,List.getElem?_take_of_lt (by omega)];exact h1
  have ndP:ps.Nodup:=by rw[<- S.pre];exact S.nd.sublist (List.take_sublist _ _)
  refine⟨u,rv,?_⟩;rcases S.par y (xaD hp) with k | k
  ·exact .inl ⟨k,jgd ndP hp hu k⟩
  ·obtain⟨c,e⟩:=jhs (n:=s.heap.objs.size+1) k;refine .inr ⟨.inl k,c,e,?_⟩;have q:=x.cell y c e;rw[jge ndP hp hu (by show scope.names.lookup y≠_;rw[k];decide)] at q;exact q
 ·exact e0.hok.fresh (xa2 (x.above y c (PySem.mem_of_lookup h)))
 ·unfold start;show _=N.length;rw[xal,xaa,xa9];omega
theorem jn1 {CX:CXT} {P:Program} {w:World} {K:PySem.W.Frag} {mg:Str->Option Value} {base:Heap} {k:Nat} {f:Addr} {name qual:Str} {params:Arguments} {body:List Stmt} {scope:Scope} {dV kV doc pm cdv ct oc:Value} {an od:Option Addr}
    {osl:Array (Option Value)} {N ps:List Str} {sp:Sp} (lk:K.lookup f=some ⟨oc,od,.func (PySem.W.fnOf name qual params body scope dV kV doc pm an cdv ct),osl⟩) (hcd:PySem.W.codeIn K cdv qual=true) (S:FnScope N ps scope)
    (len:∀vs H Q E,sp vs H Q E->vs.length=ps.length)
    (hbody:∀(A:Around) (outer:List Env) (s:Shared) (H:Hp) (vs:List V) (Q:VK) (E:XK),Room k (A.deeper (envOfC qual scope s.heap.objs.size f cdv))->sp vs H Q E ->
      ∃t,PSs (jhr CX P w K mg base N qual scope f cdv A outer s H E) body t/\t { nx:=fun _ H'=>Q .non H',rt:=Q } (start N vs) H) :
    FnOk P w K mg base CX (k+1) f (PySem.W.fnOf name qual params body scope dV kV doc pm an cdv ct) ps sp:=by
  refine⟨len,fun A outer s H args us vs Q E hr e0 hb r hsp=>?_⟩;have hl:=len _ _ _ _ hsp;have KX:K.In s.heap:=e0.mod.kin.keeps fun b o e=>(e0.bs b o e).1;have lim:s.heap.NoLimit:=e0.mod.nolimit.keeps fun b o e=>(e0.bs b o e).1;have hkind:∀y∈ps.zip us,scope.names.lookup y.1=some .local\/(scope.names.lookup y.1=some .cell/\((cellsFrom (s.heap.objs.size+1) scope.names []).lookup y.1).isSome=true):=fun ⟨n,v⟩ hy=>by
    rcases S.par n (List.of_mem_zip hy).1 with q | q
    . exact .inl q
    . exact .inr ⟨q,PySem.W.cellsFrom_some _ _ _ (.inl q)⟩
  refine codeAny_call_function hr.depth (KX _ _ lk) rfl S.co S.gen rfl (PySem.W.codeRec_of KX hcd) (hb _ _ _ _ ?_);refine wpAny_newFunctionEnv_cells S.kind hkind fun env he s1 x=>?_;subst he;refine⟨lim.keeps x.toInCall.keep,codeAny_func ?_⟩;obtain⟨t,ht,hq⟩:=hbody A outer s H vs Q E (hr.deeper _) hsp;have I:Inv (jhr CX P w K mg base N qual scope f cdv A outer s H E) [] (start N vs) H s1:=jiJ S hr.hd e0 hl r x;refine wpAny_mono (ht [] s1 (start N vs) H _ I hq) (fun fl s' hs=>?_) fun e s' hs=>hs;have fin:∀{σ':St} {H':Hp} {v:V} {u:Value},Inv (jhr CX P w K mg base N qual scope f cdv A outer s H E) [] σ' H' s'->RelV v u->Q v H'->CE outer P w H s Q u s' :=
    fun {σ' H' v u} J rv q=>⟨v,H',J.os,J.bare,J.base,J.hok,rv,q⟩
  cases fl with
  | ret u =>
    obtain⟨v,σ',H',J,rv,q⟩:=hs;exact fin J rv q
  | next =>
    obtain⟨σ',H',J,q⟩:=hs;exact fin (v:=V.non) (u:=Value.none) J rfl q
  | brk =>
    obtain⟨_,_,_,q⟩:=hs;exact False.elim q
  | cont =>
    obtain⟨_,_,_,q⟩:=hs;exact False.elim q
section
variable {X:Cx} {x:Str} {p pos:Pos} {e:Expr} {es:List Expr} {t:TA} {id T:String} {r:List V->Hp->VK->Prop}
def tCB (r:List V->Hp->VK->Prop) (t:TA):TE:=fun σ H Q=>t σ H fun vs H1=>r vs H1 Q
theorem jaB (hc:CallR X (.builtin id) r) (hg:Gl X x) (hm:X.mg x=none) (hv:bootBuiltins x=some (.builtin id)) (ha:PA X (e::es) t) (hn:x≠"__name__":=by decide) (hdb:(x==("__debug__":Str))=false:=by decide)
  (he:starEach (e::es) X.env=(false,eval e X.env)::starEach es X.env:=by rfl) (hpl:(backTo pos (starEach es X.env)).any (·.1)=false:=by rfl):PE X (.Call (.Name x p) (e::es) [] pos) (tCB r t):=by
 intro pins s σ H Q I h;refine wpAny_Call_Name_kw (jd8 I hg hm hv ?_ hn hdb);exact PyProof.Rows.callWith_builtin1 (thn (ha pos pins s σ H _ I h) fun us s1 ⟨vs,H1,I1,r1,q1⟩=>hc pins s1 σ H1 vs us Q I1 r1 q1) he hpl
theorem ja3 (hc:CallR X (.type T) r) (hg:Gl X x) (hm:X.mg x=none) (hv:bootBuiltins x=some (.type T)) (ha:PA X (e::es) t) (hn:x≠"__name__":=by decide) (hdb:(x==("__debug__":Str))=false:=by decide)
  (he:starEach (e::es) X.env=(false,eval e X.env)::starEach es X.env:=by rfl) (hpl:(backTo pos (starEach es X.env)).any (·.1)=false:=by rfl):PE X (.Call (.Name x p) (e::es) [] pos) (tCB r t):=by
 intro pins s σ H Q I h;refine wpAny_Call_Name_kw (jd8 I hg hm hv ?_ hn hdb);exact PyProof.Rows.callWith_type1 (thn (ha pos pins s σ H _ I h) fun us s1 ⟨vs,H1,I1,r1,q1⟩=>hc pins s1 σ H1 vs us Q I1 r1 q1) he hpl
end
end L2
namespace HT
open PySem PyProof.Rows
theorem eqAt_int (A:Around) (s:Shared) (a:Int) (t:Tok) (c:Int) (u:Tok):∃e,SeqAt.EqAt A s (.int a t) (.int c u) e/\(e=true↔a=c) :=
 ⟨(a==c),SeqAt.EqAt.int_int a t c u,by simp⟩
theorem rcLt_int (A:Around) (s:Shared) (a:Int) (t:Tok) (c:Int) (u:Tok) (prog:Program) (w:World) (E:Value->Shared->Prop) (Q:Value->Shared->Prop) (h:Q (.bool (decide (a<c))) s) :
  wpAny (model prog w) A (richCompare .Lt (.int a t) (.int c u)) Q E s :=
 (PyProof.Rows.lt_int h:wpAny (model prog w) A (compareOp .Lt (.int a t) (.int c u)) Q E s)
section
open PySem.SeqAt
open PySem.AutoSeq1 (wpAny_loadPart')
open PySem.MeetsSeq PySem.MeetsSeq2 PySem.MeetsSeq3
end
section
variable {prog:Program} {w:World} {A:Around} {E:Value->Shared->Prop} {s:Shared}
def sIx (n d:Nat):Option Int->Nat
 | none=>d
 | some v=>if v<0 then (v+(n:Int)).toNat else min v.toNat n
theorem sIx_none (n d:Nat):sIx n d none=d:=rfl
theorem sIx_nat (n d k:Nat):sIx n d (some (k:Int))=min k n:=by
 show (if (k:Int)<0 then ((k:Int)+(n:Int)).toNat else min (k:Int).toNat n)=min k n;rw[if_neg (by omega),xco]
theorem jn2 (n d:Nat) (hd:d<=n) (o:Option Int):sIx n d o<=n:=by
  cases o with
  | none=>exact hd
  | some v =>
    show (if v<0 then (v+(n:Int)).toNat else min v.toNat n)<=n;by_cases hv:v<0
    . rw[if_pos hv];omega
    . rw[if_neg hv];exact Nat.min_le_right _ _
theorem jiK (v:Int) (n d:Nat):(if v<0 then max (v+(n:Int)) 0 else min v (n:Int))=((sIx n d (some v):Nat):Int):=by
 show (if v<0 then max (v+(n:Int)) 0 else min v (n:Int))=(((if v<0 then (v+(n:Int)).toNat else min v.toNat n):Nat):Int);by_cases hv:v<0
 ·simp only[if_pos hv];omega
 ·simp only[if_neg hv];omega
theorem jh0 (lo hi:Option Int) (n:Nat):Builtin.Slice.sliceAdjust lo hi 1 (n:Int)=(((sIx n 0 lo:Nat):Int),((sIx n n hi:Nat):Int)):=by
 have h1:¬((1:Int)<0):=by omega
 unfold Builtin.Slice.sliceAdjust;simp only[h1,if_false];refine Prod.ext ?_ ?_
 ·cases lo with
  | none=>rfl
  | some v=>exact jiK v n 0
 ·cases hi with
  | none=>rfl
  | some v=>exact jiK v n n
theorem jh1 (i j:Nat):Builtin.Slice.slicePlaces (i:Int) (j:Int) 1=j-i:=by
 unfold Builtin.Slice.slicePlaces;have h1:(1:Int)>0:=by omega
 simp only[h1,if_true,Int.ediv_one];split<;>omega
theorem jff {v:Value} {o:Option Int} {Q:Option Int->Shared->Prop} (p:IsPart v o) (h:Q o s):wpAny (model prog w) A (Builtin.Slice.slicePartIndex v) Q E s:=by
 cases p with
 | none=>exact slicePart_none h
 | int i t=>exact slicePart_int h
theorem jel {sl:Addr} {vl vu:Value} {lo hi:Option Int} {n:Nat} {Q:Int × Int × Nat->Shared->Prop} (hs:s.heap.IsSliceOf sl vl vu .none) (pl:IsPart vl lo) (pu:IsPart vu hi)
  (h:Q (((sIx n 0 lo:Nat):Int),1,sIx n n hi-sIx n 0 lo) s):wpAny (model prog w) A (Builtin.Slice.sliceApplied (.ref sl) (pure (n:Int))) Q E s:=by
 obtain⟨os,hos,hcs,hds⟩:=id hs;unfold Builtin.Slice.sliceApplied Builtin.Slice.sliceFields;refine wpAny_bind (wpAny_bind (wpAny_field hos hds (x:=vl) rfl (wpAny_bind (wpAny_field hos hds (x:=vu) rfl (wpAny_bind (wpAny_field hos hds (x:=.none) rfl (wpAny_pure ?_)))))));refine wpAny_bind (slicePart_none ?_);show wpAny _ _ (if ((1:Int)==0)=true then _ else _) _ _ s;rw[if_neg (by decide)];refine wpAny_bind (jff pl (wpAny_bind (jff pu (wpAny_bind (wpAny_pure ?_)))));show wpAny _ _ (match Builtin.Slice.sliceAdjust lo hi 1 (n:Int) with | (lo,hi)=>pure (lo,(1:Int),Builtin.Slice.slicePlaces lo hi 1)) _ _ s;rw[jh0 lo hi n];show wpAny _ _ (pure (((sIx n 0 lo:Nat):Int),(1:Int),Builtin.Slice.slicePlaces ((sIx n 0 lo:Nat):Int) ((sIx n n hi:Nat):Int) 1)) _ _ s;rw[jh1];exact wpAny_pure h
theorem jku (xs:Array Value) (i k:Nat):((List.range k).filterMap fun (m:Nat)=>xs[((i:Int)+(m:Int)*1).toNat]?).toArray=((xs.toList.drop i).take k).toArray:=by
 have e:(fun (m:Nat)=>xs[((i:Int)+(m:Int)*1).toNat]?)=fun m=>xs[i+m]?:=by
  funext m
  have:((i:Int)+(m:Int)*1).toNat=i+m:=by omega
  rw[this]
 rw[e];have:=pick_run xs i k;rw[List.filterMap_map] at this;have e2:((fun x=>xs[x]?)∘fun x=>i+x)=fun m=>xs[i+m]?:=rfl;rw[e2] at this;rw[this]
theorem getItem_tuple_cut {t sl:Addr} {items:Array Value} {vl vu:Value} {lo hi:Option Int} {Q:Value->Shared->Prop} (ht:IsTup s.heap t items) (hs:s.heap.IsSliceOf sl vl vu .none) (pl:IsPart vl lo) (pu:IsPart vu hi)
  (hw:¬(sIx items.size 0 lo=0/\sIx items.size items.size hi=items.size))
  (h:Q (.ref s.heap.objs.size) { s with heap:=s.heap.push { cls:=.type "tuple",data:=.seq ((items.toList.drop (sIx items.size 0 lo)).take (sIx items.size items.size hi-sIx items.size 0 lo)).toArray } })
  (hsz:items.size<=sizeLine):wpAny (model prog w) A (getItem (.ref t) (.ref sl)) Q E s:=by
 have htake:sizeOk (.seq ((items.toList.drop (sIx items.size 0 lo)).take (sIx items.size items.size hi-sIx items.size 0 lo)).toArray):=by
  show ((items.toList.drop (sIx items.size 0 lo)).take (sIx items.size items.size hi-sIx items.size 0 lo)).toArray.size<=sizeLine;rw[xas,xaO,xaB,Array.length_toList];omega
 have hj:sIx items.size items.size hi<=items.size:=jn2 _ _ (xaj _) hi;obtain⟨os,hos,hcs,hds⟩:=id hs;have hTs:s.TypeIs (.ref sl) "slice":=⟨os,hos,hcs⟩;unfold getItem;try with_reducible refine wpAny_holding ?_
 first | refine wpAny_bind (wpAny_pure ?_) | skip
 refine wpAny_bind (wpAny_sequenceKey ht.typeIs (by decide) ?_);refine wpAny_bind (wpAny_callSpecial?_slot (name:=Str.ofString "__getitem__") ht.typeIs PyProof.Rows.slot_tuple_getitem
  (wpAny_call_entry PyProof.Rows.slot_tuple_getitem ht.typeIs entry_tuple_getitem ?_ (args_tuple_getitem _ _)))
 show wpAny _ _ (Builtin.Tuple.tupleItemsOf (.ref t) >>= _) _ _ s;refine wpAny_bind (tupleItemsOf_ ht ?_);refine wpAny_bind (wpAny_typeOf hTs ?_);rw[if_pos (by decide)];refine wpAny_bind (jel hs pl pu ?_);have hno:¬((((sIx items.size 0 lo:Nat):Int)==0&&(1:Int)==1&&(sIx items.size items.size hi-sIx items.size 0 lo)==items.size)=true):=by
  intro q;rw[xbk,xbk] at q;have q1:((sIx items.size 0 lo:Nat):Int)=0:=eq_of_beq q.1.1;have q2:sIx items.size items.size hi-sIx items.size 0 lo=items.size:=eq_of_beq q.2;exact hw ⟨by omega,by omega⟩
 show wpAny _ _ (if (((sIx items.size 0 lo:Nat):Int)==0&&(1:Int)==1&&(sIx items.size items.size hi-sIx items.size 0 lo)==items.size)=true then _ else _) _ _ s;rw[if_neg hno,jku]
 first
  | exact wpAny_bind (m:=Builtin.Tuple.tupleExact _) (wpAny_newObj_type (wpAny_pure ⟨_,rfl,wpAny_pure h⟩) htake)
  | exact wpAny_bind (m:=Builtin.Tuple.tupleExact _) (wpAny_newObj_type (wpAny_bind (wpAny_pure (wpAny_pure ⟨_,rfl,wpAny_pure h⟩))) htake)
  | exact wpAny_bind (wpAny_bind (m:=Builtin.Tuple.tupleExact _) (wpAny_newObj_type (wpAny_pure (wpAny_pure ⟨_,rfl,wpAny_pure h⟩)) htake))
  | exact wpAny_bind (wpAny_bind (m:=Builtin.Tuple.tupleExact _) (wpAny_newObj_type (wpAny_pure ⟨_,rfl,wpAny_pure h⟩) htake))
end
end HT
namespace L2
open PySem PySem.Spec PyProof.Rows
abbrev TO:=St->Hp->(Option Int->Hp->Prop)->Prop
def PO (X:Cx) (e:Option Expr) (t:TO):Prop :=
  ∀ (pins : List (Addr × Obj)) (s : Shared) (σ : St) (H : Hp) (Q : Option Int -> Hp -> Prop), Inv X pins σ H s -> t σ H Q ->
    wpAny (model X.prog X.w) X.A (evalPart e X.env) (fun u s'=>∃o H',Inv X pins σ H' s'/\IsPart u o/\Q o H') X.xe s
def jex:TO:=fun _ H Q=>Q none H
def jiL (t:TE):TO:=fun σ H Q=>t σ H fun x H1=>∃i,x=.int i/\Q (some i) H1
theorem jbD {ns:List Int}:∀{us:List Value},Vals (ns.map V.int) us->IntsAre us ns:=by
  induction ns with
  | nil=>intro us r;rw[xck] at r;cases r;exact .nil
  | cons n ns ih =>
    intro us r;rw[xaS] at r;cases r with
    | cons r1 r2 =>
      obtain⟨t,e⟩:=r1;subst e;exact .cons n t (ih r2)
section
variable {X:Cx} {e:Expr} {te:TE} {lo hi:Option Expr} {tl th:TO} {pos p2:Pos}
theorem jbE:PO X none jex:=by
 intro pins s σ H Q I h;rw[evalPart_none];exact wpAny_pure ⟨none,H,I,.none,h⟩
theorem jbF (h:PE X e te):PO X (some e) (jiL te):=by
 intro pins s σ H Q I hw;rw[evalPart_some];refine thn (h pins s σ H _ I hw) fun u s1 ⟨x,H1,I1,r1,q1⟩=>?_;obtain⟨i,rfl,q⟩:=q1;obtain⟨t,rfl⟩:=r1;exact⟨some i,H1,I1,.int i t,q⟩
def SlR (X:Cx) (r:V->Option Int->Option Int->Hp->VK->Prop):Prop :=
  ∀ (pins : List (Addr × Obj)) (s : Shared) (σ : St) (H : Hp) (x : V) (v vl vu : Value) (lo hi : Option Int) (sl : Addr) (Q : VK), Inv X pins σ H s -> RelV x v -> s.heap.IsSliceOf sl vl vu .none -> IsPart vl lo -> IsPart vu hi -> r x lo hi H Q ->
    ∃T id,typeLookup (.type T) "__getitem__"=pure (some (.builtin id))/\s.TypeIs v T/\wpAny (model X.prog X.w) X.A (getItem v (.ref sl)) (EP X pins σ Q) X.xe s
theorem SlR.or {r r':V->Option Int->Option Int->Hp->VK->Prop} (h:SlR X r) (h':SlR X r'):SlR X (fun x lo hi H Q=>r x lo hi H Q\/r' x lo hi H Q):=by
 intro pins s σ H x v vl vu lo hi sl Q I rx hs pl pu q;rcases q with q | q
 ·exact h pins s σ H x v vl vu lo hi sl Q I rx hs pl pu q
 ·exact h' pins s σ H x v vl vu lo hi sl Q I rx hs pl pu q
def tSl (r:V->Option Int->Option Int->Hp->VK->Prop) (te:TE) (tl th:TO):TE:=fun σ H Q=>te σ H fun x H1=>tl σ H1 fun l H2=>th σ H2 fun u H3=>r x l u H3 Q
theorem jbi {r:V->Option Int->Option Int->Hp->VK->Prop} (hr:SlR X r) (he:PE X e te) (hl:PO X lo tl) (hu:PO X hi th):PE X (.Subscript e (.Slice lo hi none p2) pos) (tSl r te tl th):=by
 intro pins s σ H Q I h;refine Subscript_ (thn (he pins s σ H _ I h) fun v s1 ⟨x,H1,I1,r1,q1⟩=>?_);refine wpAny_Slice (thn (hl pins s1 σ H1 _ I1 q1) fun vl s2 ⟨l,H2,I2,pl,q2⟩=>thn (hu pins s2 σ H2 _ I2 q2) fun vu s3 ⟨u,H3,I3,pu,q3⟩=>?_);rw[evalPart_none];refine wpAny_pure ?_;have I4:Inv X pins σ H3 { s3 with heap:=s3.heap.push { cls:=.type "slice",data:=.fields #[vl,vu,.none] } }:=I3.kept (t':=s3.toks) fun b ob q=>Heap.get?_push_of_some _ q;obtain⟨T,id,hT,ht,hg⟩:=hr pins { s3 with heap:=s3.heap.push { cls:=.type "slice",data:=.fields #[vl,vu,.none] } } σ H3 x v vl vu l u s3.heap.objs.size Q I4 r1 (Heap.IsSliceOf.new ..) pl pu q3;show wpAny (model X.prog X.w) X.A (subscriptTail e (.Slice lo hi none p2) v (.ref s3.heap.objs.size)) (EP X pins σ Q) X.xe { s3 with heap:=s3.heap.push { cls:=.type "slice",data:=.fields #[vl,vu,.none] } };exact tail_any (ops:=[.ref s3.heap.objs.size,v]) ht hT hg (by with_unfolding_all rfl)
def jgf (xs:List V) (lo hi:Option Int):List V:=(xs.drop (HT.sIx xs.length 0 lo)).take (HT.sIx xs.length xs.length hi-HT.sIx xs.length 0 lo)
theorem jey (xs:List V) (lo hi:Option Int):(jgf xs lo hi).length<=xs.length:=by
 unfold jgf;rw[xaO,xaB];omega
def rSlT (K:PySem.W.Frag):V->Option Int->Option Int->Hp->VK->Prop:=fun x lo hi H Q=>∃a xs,x=.ref a/\SqT K H a xs /\
 ¬(HT.sIx xs.length 0 lo=0/\HT.sIx xs.length xs.length hi=xs.length)/\∀p,H p=none->Q (.ref p) (upd H p (.tup (jgf xs lo hi)))
theorem jlt:SlR X (rSlT X.K):=by
 intro pins s σ H x v vl vu lo hi sl Q I rx hs pl pu h;obtain⟨a,xs,rfl,hx,hw,q⟩:=h;cases rx;obtain⟨its,r,ht,hz⟩:=I.tuple hx;have hlen:its.toArray.size=xs.length:=by rw[xas];exact r.length.symm
 refine⟨"tuple",_,PyProof.Rows.slot_tuple_getitem.lookup,ht.typeIs,?_⟩;refine HT.getItem_tuple_cut ht hs pl pu (by rw[hlen];exact hw) ?_ (by rw[hlen];exact hz);rw[hlen];refine⟨.ref s.heap.objs.size,_,I.laid (t':=s.toks) (o:=.tup (jgf xs lo hi)) (fun b ob q=>Heap.get?_push_of_some _ q) (xaj _) ?_,rfl,q _ (I.hok.fresh (xaj _))⟩;exact⟨xaX (jey xs lo hi) hz,_,(r.drop (HT.sIx xs.length 0 lo)).take (HT.sIx xs.length xs.length hi-HT.sIx xs.length 0 lo),IsTup.new _ _⟩
end
def ixN (n:Nat) (i:Int):Option Nat:=if 0<=i then (if i<n then some i.toNat else none) else if -(n:Int)<=i then some (i+n).toNat else none
def atI {α:Type} (xs:List α) (i:Int):Option α:=(ixN xs.length i).bind fun j=>xs[j]?
theorem jiM {n:Nat} {i:Int} {j:Nat} (h:ixN n i=some j):seqIndex? i n=some j/\j<n/\-(n:Int)<=i/\i<n:=by
 unfold ixN at h;by_cases h0:0<=i
 ·rw[if_pos h0] at h;by_cases h1:i<n
  ·rw[if_pos h1] at h;have e:i.toNat=j:=Option.some.inj h;exact⟨by rw[seqIndex_of h0 h1,e],by omega,by omega,h1⟩
  ·rw[if_neg h1] at h;cases h
 ·rw[if_neg h0] at h;by_cases h1:-(n:Int)<=i
  ·rw[if_pos h1] at h;have e:(i+n).toNat=j:=Option.some.inj h;exact⟨by rw[seqIndex_neg (by omega) h1,e],by omega,h1,by omega⟩
  ·rw[if_neg h1] at h;cases h
theorem jiN {α:Type} {xs:List α} {i:Int} {v:α} (h:atI xs i=some v):∃j,seqIndex? i xs.length=some j/\xs[j]?=some v/\j<xs.length/\-(xs.length:Int)<=i/\i<xs.length:=by
  unfold atI at h;cases e:ixN xs.length i with
  | none=>rw[e] at h;cases h
  | some j =>
    rw[e] at h;obtain⟨h1,h2,h3,h4⟩:=jiM e;exact⟨j,h1,h,h2,h3,h4⟩
theorem jaP {α:Type} {xs:List α} {j:Nat} {v:α} (h:xs[j]?=some v):atI xs (j:Int)=some v:=by
 have hj:j<xs.length:=(xae.mp h).1;have e:ixN xs.length (j:Int)=some j:=by
  unfold ixN;rw[if_pos (by omega),if_pos (by omega)];simp
 unfold atI;rw[e];exact h
theorem jkv {α:Type} (xs:List α) (v:α):atI (xs++[v]) (-1)=some v:=by
 have hl:(xs++[v]).length=xs.length+1:=by simp
 have e:ixN (xs++[v]).length (-1)=some xs.length:=by
  unfold ixN;rw[hl,if_neg (by decide),if_pos (by omega)]
  congr 1
  omega
 unfold atI;rw[e];show (xs++[v])[xs.length]?=some v;simp
def jiO (b:Expr):Prop:=∀o i,subscripted b false o i=operate [o,i] (getItem o i)
def IxR (X:Cx) (r:R2):Prop :=
  ∀ (value slice : Expr) (pins : List (Addr × Obj)) (s : Shared) (σ : St) (H : Hp) (x y : V) (v u : Value) (Q : VK), Inv X pins σ H s -> RelV x v -> RelV y u -> r x y H Q ->
    subscripted slice false v u=operate [v,u] (getItem v u)->wpAny (model X.prog X.w) X.A (subscriptTail value slice v u) (EP X pins σ Q) X.xe s
def MtR (X:Cx) (id:String) (r:V->List V->Hp->VK->Prop):Prop :=
  ∀ (pins : List (Addr × Obj)) (s : Shared) (σ : St) (H : Hp) (x : V) (xs : List V) (v : Value) (us : List Value) (Q : VK), Inv X pins σ H s -> RelV x v -> Vals xs us -> r x xs H Q ->
    wpAny (model X.prog X.w) X.A (call (.builtin id) (v::us)) (EP X pins σ Q) X.xe s
section
variable {X:Cx} {a b:Expr} {ta tb:TE} {pos:Pos}
theorem IxR.or {r r':R2} (h:IxR X r) (h':IxR X r'):IxR X (fun x y H Q=>r x y H Q\/r' x y H Q):=by
 intro value slice pins s σ H x y v u Q I rx ry q hs;rcases q with q | q
 ·exact h value slice pins s σ H x y v u Q I rx ry q hs
 ·exact h' value slice pins s σ H x y v u Q I rx ry q hs
theorem MtR.or {id:String} {r r':V->List V->Hp->VK->Prop} (h:MtR X id r) (h':MtR X id r'):MtR X id (fun x xs H Q=>r x xs H Q\/r' x xs H Q):=by
 intro pins s σ H x xs v us Q I rx rs q;rcases q with q | q
 ·exact h pins s σ H x xs v us Q I rx rs q
 ·exact h' pins s σ H x xs v us Q I rx rs q
theorem jam {r:R2} (hr:IxR X r) (ha:PE X a ta) (hb:PE X b tb) (hs:jiO b:=by exact fun _ _=>rfl):PE X (.Subscript a b pos) (tOp r ta tb):=by
 intro pins s σ H Q I h;exact Subscript_ (binT ha hb I h fun v u s2 x y H2 I2 rx ry q=>hr a b pins s2 σ H2 x y v u Q I2 rx ry q (hs _ _))
def jnI (K:PySem.W.Frag):R2:=fun x y H Q=>∃p xs i v,x=.ref p/\y=.int i/\SqL K H p xs/\atI xs i=some v/\Q v H
def jnJ (K:PySem.W.Frag):R2:=fun x y H Q=>∃p xs i v,x=.ref p/\y=.int i/\SqT K H p xs/\atI xs i=some v/\Q v H
theorem ix_list:IxR X (jnI X.K):=by
 intro value slice pins s σ H x y v u Q I rx ry h hs;obtain⟨p,xs,i,z,rfl,rfl,hq,he,q⟩:=h;cases rx;obtain⟨t,rfl⟩:=ry;obtain⟨its,r,pl,hz⟩:=I.list hq;obtain⟨j,h1,h2,h3,h4,h5⟩:=jiN he;obtain⟨w,ew,rw'⟩:=r.get h2;have hl:=r.length;have hn:=jhq;have fin:EP X pins σ Q w s:=⟨z,H,I,rw',q⟩;by_cases h0:0<=i
 ·have hj:i.toNat=j:=by
   rw[seqIndex_of h0 h5] at h1;exact Option.some.inj h1
  exact item_listR pl.isList h0 (by omega) (by rw[hj];simpa using ew) fin hs
 ·have hj:(i+(its.toArray.size:Int)).toNat=j:=by
   rw[seqIndex_neg (by omega) h4] at h1;rw[xas,<- hl];exact Option.some.inj h1
  exact subscriptTail_builtinR (x:=w) pl.isList.typeIs slot_list_getitem.lookup
   (wpAny_getItem_list_neg (Q:=fun r s'=>r=w/\EP X pins σ Q r s') pl.isList (by omega) (by rw[xas]<;>omega) (by omega) (by rw[hj];simpa using ew) ⟨rfl,fin⟩) hs
theorem jao:IxR X (jnJ X.K):=by
 intro value slice pins s σ H x y v u Q I rx ry h hs;obtain⟨p,xs,i,z,rfl,rfl,hq,he,q⟩:=h;cases rx;obtain⟨t,rfl⟩:=ry;obtain⟨its,r,pl,hz⟩:=I.tuple hq;obtain⟨j,h1,h2,h3,h4,h5⟩:=jiN he;obtain⟨w,ew,rw'⟩:=r.get h2;have hl:=r.length;have hn:=jhq;have fin:EP X pins σ Q w s:=⟨z,H,I,rw',q⟩;exact subscriptTail_builtinR (x:=w) pl.typeIs slot_tuple_getitem.lookup
  (getItem_tuple (j:=j) (Q:=fun r s'=>r=w/\EP X pins σ Q r s') pl (by omega) (by omega) (by rw[xas,<- hl];exact h1) (by simpa using ew) ⟨rfl,fin⟩) hs
theorem jh2 (its:List Value) (n j:Nat) (u:Value):Obj.mapSeq (·.setIfInBounds j u) { cls:=.type "list",data:=.seq its.toArray n }={ cls:=.type "list",data:=.seq (its.set j u).toArray n }:=by
 simp [Obj.mapSeq]
theorem Inv.lst {pins:List (Addr × Obj)} {σ:St} {H:Hp} {s:Shared} {p:Addr} {xs:List V} (I:Inv X pins σ H s) (h:H p=some (.lst xs)) :
  ∃(its:List Value) (n:Nat),Vals xs its/\s.heap.get? p=some { cls:=.type "list",data:=.seq its.toArray n }/\xs.length<=sizeLine:=by
 obtain⟨z,its,n,r,e⟩:=I.hok p _ h;exact⟨its,n,r,e,z⟩
theorem Inv.lstUpd {pins:List (Addr × Obj)} {σ:St} {H:Hp} {s:Shared} {p:Addr} {xs ys:List V} {its its':List Value} {n n':Nat} {f:Obj->Obj} (I:Inv X pins σ H s) (h:H p=some (.lst xs))
  (ho:s.heap.get? p=some { cls:=.type "list",data:=.seq its.toArray n }) (hf:f { cls:=.type "list",data:=.seq its.toArray n }={ cls:=.type "list",data:=.seq its'.toArray n' }) (r:Vals ys its') (hz:ys.length<=sizeLine) (t:Nat) :
  Inv X pins σ (upd H p (.lst ys)) { s with heap:=s.heap.update p f,toks:=t }:=by
 have e:(s.heap.update p f).get? p=some { cls:=.type "list",data:=.seq its'.toArray n' }:=by
  rw[Heap.get?_update_self f ho (by rw[hf]<;>rfl),hf]
 refine I.write (x:=p) (e:=p) (by rw[h];trivial) (.inl rfl) (fun b u hb q=>(Heap.get?_update_other _ _ (Ne.symm hb)).trans q) ⟨_,e⟩ ?_;exact⟨hz,its',n',r,e⟩
def rSetL:V->V->V->Hp->(Hp->Prop)->Prop:=fun o i v H Q=>∃p xs k j,o=.ref p/\i=.int k/\H p=some (.lst xs)/\ixN xs.length k=some j/\Q (upd H p (.lst (xs.set j v)))
theorem jht:PSet X rSetL:=by
 intro pins s σ H o i v ov iv u Q I ro ri rv h;obtain⟨p,xs,k,j,rfl,rfl,hp,hj,q⟩:=h;cases ro;obtain⟨t,rfl⟩:=ri;obtain⟨its,n,r,ho,hz⟩:=I.lst hp;obtain⟨h1,h2,h3,h4⟩:=jiM hj;have hl:=r.length;have hn:=jhq;have I':Inv X pins σ (upd H p (.lst (xs.set j v))) { s with heap:=s.heap.update p (Obj.mapSeq (·.setIfInBounds j u)) } :=
  I.lstUpd hp ho (jh2 its n j u) (r.set rv j) (by rw[List.length_set];exact hz) s.toks
 by_cases h0:0<=k
 ·have hk:k.toNat=j:=by
   rw[seqIndex_of h0 h4] at h1;exact Option.some.inj h1
  exact PySem.W.ki_setAt ho h0 (by omega) (by rw[xas,<- hl];exact h4) (by rw[hk];exact⟨_,I',q⟩)
 ·have hk:(k+(its.toArray.size:Int)).toNat=j:=by
   rw[seqIndex_neg (by omega) h3] at h1;rw[xas,<- hl];exact Option.some.inj h1
  exact PySem.W.ki_setBack ho (by omega) (by rw[xas,<- hl];exact h3) (by omega) (by rw[hk];exact⟨_,I',q⟩)
theorem jgg (lo hi:Option Int) (n:Nat):(sliceBounds lo hi none n).1=((HT.sIx n 0 lo:Nat):Int)/\(sliceBounds lo hi none n).2.1=((HT.sIx n n hi:Nat):Int)/\(sliceBounds lo hi none n).2.2=1:=by
  refine⟨?_,?_,rfl⟩
  . cases lo with
    | none=>simp [sliceBounds,HT.sIx]
    | some i =>
      simp only[sliceBounds,HT.sIx,Option.getD_none,show (1:Int)>0 by decide,if_true];by_cases h:i<0
      . simp only[h,if_true]<;>omega
      . simp only[h,if_false]<;>omega
  . cases hi with
    | none=>simp [sliceBounds,HT.sIx]
    | some i =>
      simp only[sliceBounds,HT.sIx,Option.getD_none,show (1:Int)>0 by decide,if_true];by_cases h:i<0
      . simp only[h,if_true]<;>omega
      . simp only[h,if_false]<;>omega
theorem jfC (its:List Value) (lo hi:Option Int):slicePick its.toArray lo hi none=((its.drop (HT.sIx its.length 0 lo)).take (HT.sIx its.length its.length hi-HT.sIx its.length 0 lo)).toArray:=by
 obtain⟨h1,h2,h3⟩:=jgg lo hi its.toArray.size;unfold slicePick;rw[h1,h2,h3];simp only[sliceRange_one,pick_run,xas]<;>rfl
def rSlL (K:PySem.W.Frag):V->Option Int->Option Int->Hp->VK->Prop:=fun x lo hi H Q=>∃a xs,x=.ref a/\SqL K H a xs/\∀p,H p=none->Q (.ref p) (upd H p (.lst (jgf xs lo hi)))
theorem jb9:SlR X (rSlL X.K):=by
 intro pins s σ H x v vl vu lo hi sl Q I rx hs pl pu h;obtain⟨a,xs,rfl,hx,q⟩:=h;cases rx;obtain⟨its,r,ht,hz⟩:=I.list hx;have hlen:=r.length;refine⟨"list",_,slot_list_getitem.lookup,ht.isList.typeIs,?_⟩;refine wpAny_getItem_list_slice ht.isList hs pl pu .none (by simp) ?_ (by rw[xas]<;>omega);rw[jfC,<- hlen];refine⟨.ref s.heap.objs.size,_,I.laid (t':=s.toks) (o:=.lst (jgf xs lo hi)) (fun b ob q=>Heap.get?_push_of_some _ q) (xaj _) ?_,rfl,q _ (I.hok.fresh (xaj _))⟩;exact⟨xaX (jey xs lo hi) hz,_,0,(r.drop (HT.sIx xs.length 0 lo)).take (HT.sIx xs.length xs.length hi-HT.sIx xs.length 0 lo),Heap.get?_push_size _ rfl⟩
theorem jbg:CallR X (.builtin "len") (fun xs H Q=>∃p ys,xs=[.ref p]/\(SqL X.K H p ys\/SqT X.K H p ys)/\Q (.int ys.length) H):=by
 intro pins s σ H xs us Q I r h;obtain⟨p,ys,rfl,hq,q⟩:=h;obtain⟨u,rfl,rx⟩:=jfB r;cases rx;have hn:=jhq;rcases hq with hq | hq
 ·obtain⟨its,r',pl,hz⟩:=I.list hq;have hlen:=r'.length;exact Calls.call_len_list pl.isList (by simp only[xas]<;>omega) ⟨.int ys.length,H,I.tok _,⟨s.toks+1,by rw[xas,hlen]⟩,q⟩
 ·obtain⟨its,r',pl,hz⟩:=I.tuple hq;have hlen:=r'.length;exact len_tuple pl (by simp only[xas]<;>omega) ⟨.int ys.length,H,I.tok _,⟨s.toks+1,by rw[xas,hlen]⟩,q⟩
theorem CallR.or {f:Value} {r r':List V->Hp->VK->Prop} (h:CallR X f r) (h':CallR X f r'):CallR X f (fun xs H Q=>r xs H Q\/r' xs H Q):=by
 intro pins s σ H xs us Q I rs q;rcases q with q | q
 ·exact h pins s σ H xs us Q I rs q
 ·exact h' pins s σ H xs us Q I rs q
theorem jbR:CallR X (.type "list") (fun xs H Q=>∃p ys,xs=[.ref p]/\(SqL X.K H p ys\/SqT X.K H p ys)/\∀l,H l=none->Q (.ref l) (upd H l (.lst ys))):=by
 intro pins s σ H xs us Q I r h;obtain⟨p,ys,rfl,hq,q⟩:=h;obtain⟨u,rfl,rx⟩:=jfB r;cases rx;have fin:∀(its:List Value),Vals ys its->ys.length<=sizeLine->∀(h':Heap) (c':Nat),(∀b o',s.heap.get? b=some o'->h'.get? b=some o') ->
   h'.get? s.heap.objs.size=some { cls:=.type "list",dict:=none,data:=.seq its.toArray c',slots:=#[] }->EP X pins σ Q (.ref s.heap.objs.size) { s with heap:=h' }:=fun its r' hz h' c' kp e =>
  ⟨.ref s.heap.objs.size,_,I.laid (t':=s.toks) kp (xaj _) (show ObjOk X.prog X.w _ h' _ (.lst ys) from ⟨hz,its,c',r',e⟩),rfl,q _ (I.hok.fresh (xaj _))⟩
 rcases hq with hq | hq
 ·obtain⟨its,r',pl,hz⟩:=I.list hq;have hlen:=r'.length;obtain⟨o,ho,hc,n,hd⟩:=pl.isList;exact call_list_seq p (.inl rfl) ho hc hd (fun h' c' kp e=>fin its r' hz h' c' kp e) (by simp only[xas]<;>omega)
 ·obtain⟨its,r',pl,hz⟩:=I.tuple hq;have hlen:=r'.length;obtain⟨o,ho,hc,n,hd⟩:=pl;exact call_list_seq p (.inr rfl) ho hc hd (fun h' c' kp e=>fin its r' hz h' c' kp e) (by simp only[xas]<;>omega)
theorem ja5:CallR X (.type "tuple") (fun xs H Q=>∃p ys,xs=[.ref p]/\((SqL X.K H p ys/\∀l,H l=none->Q (.ref l) (upd H l (.tup ys)))\/(SqT X.K H p ys/\Q (.ref p) H))):=by
 intro pins s σ H xs us Q I r h;obtain⟨p,ys,rfl,h⟩:=h;obtain⟨u,rfl,rx⟩:=jfB r;cases rx;rcases h with ⟨hq,q⟩ | ⟨hq,q⟩
 ·obtain⟨its,r',pl,hz⟩:=I.list hq;have hlen:=r'.length;refine call_tuple_list pl.isList (fun h' kp=>?_) (by simp only[xas]<;>omega);have I1:Inv X pins σ H { s with heap:=h' }:=I.kept (t':=s.toks) kp;have I2:Inv X pins σ (upd H h'.objs.size (.tup ys)) { s with heap:=h'.push { cls:=.type "tuple",data:=.seq its.toArray } } :=
   I1.laid (t':=s.toks) (fun b o e=>Heap.get?_push_of_some _ e) (xaj _) (show ObjOk X.prog X.w _ _ _ (.tup ys) from ⟨hz,its,r',IsTup.new _ _⟩)
  exact⟨.ref h'.objs.size,_,I2,rfl,q _ (I1.hok.fresh (xaj _))⟩
 ·obtain⟨its,r',pl,hz⟩:=I.tuple hq;exact call_tuple_same pl ⟨.ref p,H,I,rfl,q⟩
def tyV (K:PySem.W.Frag) (T:String) (x:V) (H:Hp):Prop:=match x with
 | .str _=>T="str"
 | .int _=>T="int"
 | .ref p=>(T="list" /\ ∃xs,SqL K H p xs) \/ (T="tuple" /\ ∃o,K.lookup p=some o /\ o.cls=.type "tuple" /\ o.dict=none) \/
   (T="dict"/\((∃kvs,H p=some (.dK kvs))\/∃kvs,H p=some (.dT kvs)))\/(T="set"/\∃S n,H p=some (.set S n))
 | _=>False
theorem jlu {pins:List (Addr × Obj)} {σ:St} {H:Hp} {s:Shared} {T:String} {x:V} {v:Value} (I:Inv X pins σ H s) (r:RelV x v) (ty:tyV X.K T x H) :
    s.TypeIs v T/\∀a,v=.ref a->∃ob,s.heap.get? a=some ob/\ob.dict=none:=by
  cases x with
  | str z =>
    obtain⟨t,rfl⟩:=r;cases (show T="str" from ty);exact⟨typeIs_str s z t,fun _ e=>nomatch e⟩
  | int i =>
    obtain⟨t,rfl⟩:=r;cases (show T="int" from ty);exact⟨typeIs_int s i t,fun _ e=>nomatch e⟩
  | ref p =>
    cases r;rcases ty with ⟨rfl,xs,hq⟩ | ⟨rfl,o,hk,hc,hd⟩ | ⟨rfl,hk⟩ | ⟨rfl,S,n,hk⟩
    . obtain⟨its,_,pl,_⟩:=I.list hq
      refine⟨pl.isList.typeIs,fun a e=>?_⟩;cases e;obtain⟨o,n,e,c,hd,_⟩:=pl;exact⟨o,e,hd⟩
    . refine⟨⟨o,I.kIn p o hk,hc⟩,fun a e=>?_⟩
      cases e;exact⟨o,I.kIn _ o hk,hd⟩
    . have z:∃o,s.heap.get? p=some o/\o.ExactDict:=by
        rcases hk with ⟨kvs,hk⟩ | ⟨kvs,hk⟩
        . obtain⟨_,_,_,_,o,_,_,e,ex,_⟩:=I.hok p _ hk
          exact⟨o,e,ex⟩
        . obtain⟨_,_,_,_,o,_,_,e,ex,_⟩:=I.hok p _ hk
          exact⟨o,e,ex⟩
      obtain⟨o,e,ex⟩:=z;refine⟨⟨o,e,ex.1⟩,fun a e2=>?_⟩;cases e2;exact⟨o,e,ex.2.1⟩
    . obtain⟨o,_,_,_,e,ex,_⟩:=I.hok p _ hk
      refine⟨⟨o,e,ex.1⟩,fun a e2=>?_⟩;cases e2;exact⟨o,e,ex.2.1⟩
  | _=>exact False.elim ty
def jn3 (K:PySem.W.Frag) (T:String) (r:V->List V->Hp->VK->Prop) (to:TE):TE:=fun σ H Q=>to σ H fun x H1=>tyV K T x H1/\r x [] H1 Q
def tBM (K:PySem.W.Frag) (T:String) (r:V->List V->Hp->VK->Prop) (to:TE) (t:TA):TE:=fun σ H Q=>to σ H fun x H1=>tyV K T x H1/\t σ H1 fun xs H2=>r x xs H2 Q
variable {o e:Expr} {es:List Expr} {to:TE} {t:TA} {name:Str} {apos cpos:Pos} {T id:String} {r:V->List V->Hp->VK->Prop}
theorem jn4 (pa:PlainAttrs T) (slot:Slot T name id) (hty:typeOf (.builtin id)=pure (.type "method_descriptor")) (hm:MtR X id r) (ho:PE X o to)
  (hbase:attributeBase o name X.env (eval o X.env)=eval o X.env:=by rfl) (hline:(apos.endLine==cpos.line)=true:=by rfl):PE X (.Call (.Attribute o name apos) [] [] cpos) (jn3 X.K T r to):=by
 intro pins s σ H Q I h;refine wpAny_Call_method0_late hbase hline (thn (ho pins s σ H _ I h) fun v s1 ⟨x,H1,I1,r1,ty,q1⟩=>?_);obtain⟨h1,h2⟩:=jlu I1 r1 ty;exact⟨T,id,pa,slot,hty,h1,h2,Calls.callWith_builtin rfl (PySem.evalArgs_none (hm pins s1 σ H1 x [] v [] Q I1 r1 .nil q1))⟩
theorem jmq (pa:PlainAttrs T) (slot:Slot T name id) (hty:typeOf (.builtin id)=pure (.type "method_descriptor")) (hm:MtR X id r) (ho:PE X o to) (ha:PA X (e::es) t)
  (hbase:attributeBase o name X.env (eval o X.env)=eval o X.env:=by rfl)
  (hfew:((backTo cpos (starEach (e::es) X.env)).all (fun x=>!x.1)&&(backToKw cpos (keywordEach [] X.env)).all (fun x=>x.1.isSome)
   && decide ((e::es).length+([]:List Keyword).length+(if ([]:List Keyword).isEmpty then 0 else 1)<30))=true:=by rfl)
  (hline:(apos.endLine==cpos.line)=true:=by rfl) (hs:starEach (e::es) X.env=(false,eval e X.env)::starEach es X.env:=by rfl) (hplain:(backTo cpos (starEach es X.env)).any (·.1)=false:=by rfl) :
  PE X (.Call (.Attribute o name apos) (e::es) [] cpos) (tBM X.K T r to t):=by
 intro pins s σ H Q I h;refine wpAny_Call_method_late hbase hfew hline rfl (thn (ho pins s σ H _ I h) fun v s1 ⟨x,H1,I1,r1,ty,q1⟩=>?_);obtain⟨h1,h2⟩:=jlu I1 r1 ty;refine⟨T,id,pa,slot,hty,h1,h2,?_⟩;have hA:=ha cpos pins s1 σ H1 _ I1 q1;rw[hs] at hA |-
 refine Calls.callWith_builtin (by show (false||(backTo cpos (starEach es X.env)).any (·.1))=false;rw[hplain]<;>rfl) (Calls.evalArgs_plain ?_);exact thn hA fun us s2 ⟨vs,H2,I2,r2,q2⟩=>hm pins s2 σ H2 x vs v us Q I2 r1 r2 q2
end
def MtM (X:Cx) (id:String) (r:V->List V->Hp->VK->Prop):Prop :=
  ∀ (pins : List (Addr × Obj)) (s : Shared) (σ : St) (H : Hp) (x : V) (xs : List V) (v : Value) (us : List Value) (Q : VK), Inv X pins σ H s -> RelV x v -> Vals xs us -> r x xs H Q ->
    wpAny (model X.prog X.w) X.A (call (.builtin id) (v::us)) (EP X pins σ Q) X.xe s
theorem Vals.one:∀{x:V} {us:List Value},Vals [x] us->∃u,us=[u]/\RelV x u
 | _,_,.cons r .nil=>⟨_,rfl,r⟩
theorem Vals.two:∀{x y:V} {us:List Value},Vals [x,y] us->∃u v,us=[u,v]/\RelV x u/\RelV y v
 | _,_,_,.cons r (.cons q .nil)=>⟨_,_,rfl,r,q⟩
theorem Vals.zero:∀{us:List Value},Vals [] us->us=[]
 | _,.nil=>rfl
theorem Vals.reverse {xs:List V} {us:List Value} (h:Vals xs us):Vals xs.reverse us.reverse:=by
 induction h with
 | nil=>exact .nil
 | cons r t ih=>rw[xaM,xaM];exact Vals.append ih (.cons r .nil)
theorem Vals.rep {xs:List V} {us:List Value} (h:Vals xs us):∀k:Nat,Vals (List.replicate k xs).flatten (List.replicate k us).flatten
  | 0=>.nil
  | k + 1 => by
    rw[xbg,xbg,xbL,xbL];exact Vals.append h (Vals.rep h k)
theorem jgh (its:List Value):∀(k:Nat) (acc:List Value),
    List.foldl (fun x1 x2=>x1++x2) acc.toArray (List.replicate k its.toArray)=(acc++(List.replicate k its).flatten).toArray
  | 0,acc=>by simp
  | k + 1, acc => by
    have e:acc.toArray++its.toArray=(acc++its).toArray:=by simp
    have e2:(acc++its)++(List.replicate k its).flatten=acc++(List.replicate (k+1) its).flatten:=by
      rw[xbg,xbL,xb3]
    rw[<- e2,<- jgh its k (acc++its),<- e,xbg,List.foldl_cons]
section
variable {X:Cx} {pins:List (Addr × Obj)} {σ:St} {H:Hp} {s:Shared} {l b:Addr} {xs ys zs:List V}
theorem Inv.lset {its its':List Value} {n:Nat} {f:Array Value->Array Value} {t':Nat} (I:Inv X pins σ H s) (hH:H l=some (.lst xs))
  (e:s.heap.get? l=some { cls:=.type "list",data:=.seq its.toArray n }) (hf:f its.toArray=its'.toArray) (hv:Vals ys its') (hz:ys.length<=sizeLine) :
  Inv X pins σ (upd H l (.lst ys)) { s with heap:=s.heap.update l (Obj.mapSeq f),toks:=t' }:=by
 have q:=PySem.IsL.update e f;rw[hf] at q;refine I.write (x:=l) (e:=l) (by rw[hH];exact trivial) (.inl rfl) (fun b' u hb hu=>(Heap.get?_update_other s.heap (Obj.mapSeq f) (Ne.symm hb)).trans hu) ⟨_,q⟩ ?_;exact⟨hz,its',_,hv,q⟩
theorem Inv.lnew {its:List Value} {t':Nat} (I:Inv X pins σ H s) (hv:Vals ys its) (hz:ys.length<=sizeLine) :
  Inv X pins σ (upd H s.heap.objs.size (.lst ys)) { s with heap:=s.heap.push { cls:=.type "list",data:=.seq its.toArray },toks:=t' } :=
 I.laid (fun _ _ q=>Heap.get?_push_of_some _ q) (xaj _) ⟨hz,its,0,hv,Heap.get?_push_size _ rfl⟩
theorem Inv.fresh (I:Inv X pins σ H s):H s.heap.objs.size=none:=I.hok.fresh (xaj _)
theorem Inv.lstM (I:Inv X pins σ H s) (hH:H l=some (.lst xs)):xs.length<=sizeLine/\∃(its:List Value) (n:Nat),Vals xs its/\xs.length=its.length/\s.heap.get? l=some { cls:=.type "list",data:=.seq its.toArray n }:=by
 obtain⟨z,its,n,r,e⟩:=I.hok l _ hH;exact⟨z,its,n,r,r.length,e⟩
theorem jkw {n:Nat} (h:n<=sizeLine):Builtin.List.listTooLong n=false:=by
 unfold Builtin.List.listTooLong;exact decide_eq_false (by omega)
end
section
variable {X:Cx}
def jiP:V->List V->Hp->VK->Prop:=fun x vs H Q=>∃l xs y,x=.ref l/\vs=[y]/\H l=some (.lst xs)/\xs.length<sizeLine/\Q .non (upd H l (.lst (xs++[y])))
theorem jez:MtM X "list.append" jiP:=by
 intro pins s σ H x vs v us Q I rx rv h;obtain⟨l,xs,y,rfl,rfl,hH,hz,q⟩:=h;cases rx;obtain⟨u,rfl,ru⟩:=rv.one;obtain⟨z,its,n,r,hl,e⟩:=I.lstM hH;refine call_meets F.slot_list_append ⟨_,e,rfl⟩ F.entry_list_append (F.args_list_append_2 _ _) (PySem.list_append l its.toArray n u (by rw[xas];omega)) ⟨e,?_⟩;refine⟨.non,_,I.lset (its':=its++[u]) hH e (by simp) (r.append (.cons ru .nil)) ?_,rfl,q⟩;rw[xal,xb5];omega
def rCat:R2:=fun x y H Q=>∃l b xs zs,x=.ref l/\y=.ref b/\H l=some (.lst xs)/\H b=some (.lst zs)/\xs.length+zs.length<=sizeLine/\∀p,H p=none->Q (.ref p) (upd H p (.lst (xs++zs)))
theorem jgi:OpR X (binaryOp .Add) rCat:=by
 intro pins s σ H x y v u Q I rx ry h;obtain⟨l,b,xs,zs,rfl,rfl,hH,hB,hz,q⟩:=h;cases rx;cases ry;obtain⟨z,its,n,r,hl,e⟩:=I.lstM hH;obtain⟨z2,its2,n2,r2,hl2,e2⟩:=I.lstM hB;refine PySem.P.add_list e e2 ?_ (by rw[xas,xas];omega);have ea:its.toArray++its2.toArray=(its++its2).toArray:=by simp
 rw[ea];exact⟨.ref _,_,I.lnew (t':=s.toks) (r.append r2) (by rw[xal];omega),rfl,q _ I.fresh⟩
def rRep:R2:=fun x y H Q=>∃l k xs,x=.ref l/\y=.int k/\H l=some (.lst xs)/\-(2^63)<=k/\k<2^63/\xs.length*k.toNat<=sizeLine /\
 ∀p,H p=none->Q (.ref p) (upd H p (.lst (List.replicate k.toNat xs).flatten))
theorem jmr {α:Type} (xs:List α) (k:Nat):(List.replicate k xs).flatten.length=k*xs.length:=by
 induction k with
 | zero=>simp
 | succ k ih=>rw[xbg,xbL,xal,ih,Nat.succ_mul,Nat.add_comm]
theorem jn5:OpR X (binaryOp .Mult) rRep:=by
 intro pins s σ H x y v u Q I rx ry h;obtain⟨l,k,xs,rfl,rfl,hH,h1,h2,hz,q⟩:=h;cases rx;obtain⟨t,rfl⟩:=ry;obtain⟨z,its,n,r,hl,e⟩:=I.lstM hH;have hlen:its.toArray.size*k.toNat<=sizeLine:=by rw[xas,<- hl];exact hz
 have hcap:¬its.toArray.size*k.toNat>(2^63-1) / 8:=by
  have:(sizeLine:Nat)<=(2^63-1) / 8:=by decide
  omega
 have hfit:¬(!Builtin.List.listFitsIndex k)=true:=by
  rw[fitsIndex_both h1 h2];exact xat
 have hlong:¬Builtin.List.listTooLong (its.toArray.size*k.toNat)=true:=by
  rw[jkw hlen];exact xat
 have hnew:List.foldl (fun x1 x2=>x1++x2) #[] (List.replicate (if its.toArray.isEmpty=true then 0 else k.toNat) its.toArray)=(List.replicate k.toNat its).flatten.toArray:=by
  have f0:∀m:Nat,List.foldl (fun x1 x2=>x1++x2) #[] (List.replicate m its.toArray)=(List.replicate m its).flatten.toArray:=fun m=>by
   have:=jgh its m [];rw[List.nil_append] at this;exact this
  rw[f0];cases its with
  | nil=>simp
  | cons a r'=>rw[if_neg (by simp)]
 refine wpAny_binaryOp_repeat_ref (T:="list") (U:="int") (by decide) ⟨_,e,rfl⟩ (fun s'=>typeIs_int s' k t) noFill_list_mul F.fills_int_mul F.slot_int_rmul repeat_list F.slot_int_index.lookup
  (call_meets F.slot_int_rmul (typeIs_int s k t) F.entry_int_rmul (F.args_int_rmul_2 _ _) (int___rmul___int_list k t l its.toArray n)
   ⟨e,rfl,⟨_,e,rfl⟩,call_meets F.slot_list_mul ⟨_,e,rfl⟩ F.entry_list_mul (F.args_list_mul_2 _ _) (AutoListH.list___mul___list_int_3 l its.toArray n k t hfit hcap hlong) ⟨e,?_⟩⟩)
 rw[hnew];exact⟨.ref _,_,I.lnew (t':=s.toks) (r.rep k.toNat) (by rw[jmr,Nat.mul_comm];exact hz),rfl,q _ I.fresh⟩
end
end L2
namespace Att
open PySem PySem.W PySem.Calls PyProof.Rows
theorem jeA {P:Params} {h:Heap}:∀(ns:List Int) (vs:List Value),WellAll P h vs (ns.map WData.int)->IntsAre vs ns:=by
  intro ns;induction ns with
  | nil =>
    intro vs w;rw[xck] at w;cases w;exact .nil
  | cons n ns ih =>
    intro vs w;rw[xaS] at w;cases w with
    | cons a b =>
      cases a;exact .cons _ _ (ih _ b)
theorem jiQ {l:OpenLaw} {n:Nat} (hn:l.most=some n) {P:Params} {h:Heap} {args:List WData} {vals:List Value}
    (hpre:l.row.toRowW.claim.pre args=true) (hwl:WellAll P h vals args) :
    ∃a vs ns,vals=[Value.ref a]/\args=[WData.list (ns.map WData.int)]/\h.get? a=some { cls:=.type "list",data:=.seq vs.toArray }/\IntsAre vs ns/\ns.length<=n:=by
  have hsh:WShape.hasAll [] args [.list .int]=true:=(pre_splitW hpre).1;have hc:l.pre.holds [] { args:=args }=true:=(pre_splitW hpre).2;obtain⟨d,r,rfl,h1,h2⟩:=hasAllW_cons hsh;obtain rfl:=hasAllW_nil h2;obtain⟨xs,rfl,h3⟩:=hasW_list h1;obtain⟨ns,rfl⟩:=items_int h3;have hlen:ns.length<=n:=by
    unfold OpenLaw.pre at hc;have h4:(WTm.not (.lt (.lit (.int (n:Int))) (.len (.arg 0)))).holds [] { args:=[.list (ns.map .int)] }=true:=by
      have h4:=(holds_andW hc).1;rw[hn] at h4;exact h4
    have h5:=condW_of h4 (w_not (w_lt w_lit (w_len_list (w_arg rfl))));rw[xaa] at h5;refine Nat.le_of_not_lt fun q=>?_;have q':(n:Int)<((ns.length:Nat):Int):=by omega
    first
      | (rw[decide_eq_true q'] at h5;exact absurd h5 (by decide))
      | (simp at h5;omega)
  cases hwl with
  | cons w1 w2 =>
    cases w2;cases w1 with
    | list ho hall=>exact⟨_,_,ns,rfl,rfl,ho,jeA ns _ hall,hlen⟩
theorem jiR (l:OpenLaw) (args:List WData):l.row.toRowW.claim.post args (.bool true) args=true :=
 postW_of (r:=l.row.toRowW) (X:=(true==true))
  (show WShape.has [] (.bool true) .bool=true by first | rfl | decide | simp [WShape.has,WShape.arms,WShape.armsAll])
  (show (WTm.eq .res (.lit (.bool true))).value [] { args:=args,res:=some (.bool true),after:=args }=some (.bool (true==true)) from w_eq_bool (w_res rfl) w_lit) rfl
theorem attach_call {l:OpenLaw} {n:Nat} {q:Program} {loose:List Str} {XP:(Str->Option Value)->Heap->Prop} {YP:World->Heap->Prop} {d:DefRec}
  (hn:l.most=some n) (hdf:d.params.defaults=[])
  (call:∀(w:World) (s₀ s₁:Shared) (mg mb:Str->Option Value) (fa:Addr) (o:Obj) (pm cd doc:Value) (a:Addr) (vs:List Value) (ns:List Int),
   Ground q loose [] XP w s₀ mg mb s₁.heap->YP w s₁.heap ->
   s₁.heap.get? fa=some o->o.data=.func (docDef d.name d.params d.body d.scope pm cd doc)->s₁.heap.CodeRec cd d.name->mg d.name=some (.ref fa) ->
   s₁.heap.get? a=some { cls:=.type "list",data:=.seq vs.toArray }->IntsAre vs ns->ns.length<=n->s₁.gens=#[] ->
   codeAny (model l.prog w) callerA (.call (.ref fa) ⟨[.ref a],[]⟩) (fun r s'=>r=.ok (.ret (.bool true))/\OldK s₁.heap s'.heap/\s'.os=s₁.os/\AllBare s'.gens) s₁) :
  WalkO q loose XP YP l.row.toRowW d [] (fun f vs=>PySem.call f vs):=by
 intro w s₀ s₁ mg mb G Y fa o pm cd doc dV kV ho hd hcd hD hmg hg args vals as hpre hlay hrd hwl hlo;obtain rfl:dV=.none:=Dflts.none hD hdf;obtain rfl:kV=.none:=Dflts.noKw hD;obtain⟨a,vs,ns,rfl,rfl,hobj,hints,hlen⟩:=jiQ hn hpre hwl;refine enter_call (codeAny_mono (call w s₀ s₁ mg mb fa o pm cd doc a vs ns G Y ho (fd_plain hd) hcd hmg hobj hints hlen hg) fun r s' hq=>?_);obtain⟨rfl,h2,h3,h4⟩:=hq;exact⟨.inl ⟨.bool true,.bool true,[],rfl,fun _=>rfl,.bool true,jiR l _,fun _=>⟨List.Pairwise.nil,fun _ hm=>(nomatch hm)⟩⟩,h2,h3,h4⟩
end Att
namespace L2
open PySem PySem.Spec PyProof.Rows
theorem jgj:∀{vs:List Value} {ns:List Int},IntsAre vs ns->Vals (ns.map V.int) vs
 | _,_,.nil=>.nil
 | _,_,.cons n t h=>.cons ⟨t,rfl⟩ (jgj h)
def Only (H:Hp):Prop:=∀b,H b=none\/∃o xs,H b=some (.frz o (.lst xs))
theorem jkx {P:Program} {w:World} {K:PySem.W.Frag} {mg mb:Str->Option Value} {CX:CXT} {k:Nat} {fa a:Addr} {fd:FuncData} {x:Str} {sp:Sp} {s₁:Shared} {vs:List Value} {ns:List Int}
    (KX:K.In s₁.heap) (hns:s₁.heap.Ns mainGlobals mg) (hb:s₁.heap.Ns builtinsNs mb) (hbb:∀x:Str,x≠"__name__"->mb x=bootBuiltins x) (hlim:s₁.heap.NoLimit) (hg:s₁.gens=#[])
    (ha:s₁.heap.get? a=some { cls:=.type "list",data:=.seq vs.toArray }) (hi:IntsAre vs ns) (hl:ns.length<=sizeLine) (hr:Room k callerA)
    (F:∀base:Heap,K.In base->base.Ns mainGlobals mg->FnOk P w K mg base CX k fa fd [x] sp) (hbind:∀(s:Shared) (u:Value),BindsTo s fd ⟨[u],[]⟩ [(x,u)])
    (hsp:∀H:Hp,Only H->SqL K H a (ns.map V.int)->sp [.ref a] H (fun v _=>v=.bl true) fun _ _ _=>False)
    (hCX:∀H e s',CX [] H s₁ (fun _ _ _=>False) e s'->False) :
    codeAny (model P w) callerA (.call (.ref fa) ⟨[.ref a],[]⟩) (fun r s'=>r=.ok (.ret (.bool true))/\OldK s₁.heap s'.heap/\s'.os=s₁.os/\AllBare s'.gens) s₁:=by
  have rv:=jgj hi;have lenV:=hi.length;have core:∀H:Hp,Only H->SqL K H a (ns.map V.int)->HOk P w H s₁.heap->(∀b,H b≠none->b=a)->(H a≠none->K.lookup a=none) ->
      codeAny (model P w) callerA (.call (.ref fa) ⟨[.ref a],[]⟩) (fun r s'=>r=.ok (.ret (.bool true))/\OldK s₁.heap s'.heap/\s'.os=s₁.os/\AllBare s'.gens) s₁:=by
    intro H hO hS hok hA hK;have base_of:∀{b:Addr} {o:Obj},s₁.heap.get? b=some o->H b=none->(jkm s₁.heap H).get? b=some o:=fun e n=>jkn e n;have noA:∀{b:Addr} {o:Obj} {es:Array DictEntry} {ep:Nat},s₁.heap.get? b=some o->o.data=.dict es ep->H b=none:=fun {b o es ep} e d=>by
      cases q:H b with
      | none=>rfl
      | some u =>
        have e':b=a:=hA b (by rw[q];simp);subst e';rw[ha] at e;cases e;have d':Data.seq vs.toArray _=Data.dict es ep:=d;cases d'
    have nsK:∀{b:Addr} {m:Str->Option Value},s₁.heap.Ns b m->(jkm s₁.heap H).Ns b m:=fun {b m} ⟨o,es,ep,e,d,r⟩=>⟨o,es,ep,base_of e (noA e d),d,r⟩;have hKb:K.In (jkm s₁.heap H):=fun b o e=>base_of (KX b o e) (by
      cases q:H b with
      | none=>rfl
      | some u =>
        have e':b=a:=hA b (by rw[q];simp);subst e';rw[hK (by rw[q];simp)] at e;cases e)
    have hM:Mod K mg (jkm s₁.heap H):=⟨hKb,nsK hns,⟨mb,nsK hb,hbb⟩,let ⟨mc,h1,h2⟩:=hlim;⟨mc,nsK h1,h2⟩⟩;have e0:Env0 P w K mg (jkm s₁.heap H) callerA [] s₁ H:=⟨rfl,hM,fun b o e=>jmb e,Nat.le_of_eq (jir _ _),trivial,fun b hb=>absurd (show b∈([]:List Addr) from hb) (by simp),hok,.of_eq hg⟩;refine codeAny_mono ((F _ hKb (nsK hns)).run callerA [] s₁ H ⟨[.ref a],[]⟩ [.ref a] [.ref a] _ _ hr e0 (hbind s₁ (.ref a)) (.cons rfl .nil) (hsp H hO hS)) fun r s' h=>?_;cases r with
    | error e=>exact (hCX H e s' h).elim
    | ok fl =>
      cases fl with
      | next=>exact False.elim h
      | brk=>exact False.elim h
      | cont=>exact False.elim h
      | ret u =>
        obtain⟨v,H',os,bare,un,hok',r',q⟩:=h;have q':v=.bl true:=q;subst q';obtain rfl:u=Value.bool true:=r';refine⟨rfl,OldK.of_keep fun b o e=>?_,os,bare⟩;cases q:H b with
        | none=>exact un.keep b o e q (by intro z;exact absurd (show b∈([]:List Addr) from z) (by simp)) (by simp)
        | some u =>
          rcases hO b with z | ⟨ob,xs,z⟩
          . rw[q] at z;cases z
          . have z2:=un.frzs b ob _ z
            obtain⟨e1,_⟩:=hok b _ z;obtain⟨e2,_⟩:=hok' b _ z2;rw[e] at e1;cases e1;exact e2
  cases hk:K.lookup a with
  | some o =>
    have e:=KX a o hk;rw[ha] at e;cases e;refine core (fun _=>none) (fun _=>.inl rfl) (.inr ⟨_,vs.toArray,_,hk,rfl,rfl,rfl,by rw[xas,lenV];exact hl,by simpa using rv⟩) (fun b u z=>by have z':(none:Option HO)=some u:=z;cases z') (fun b z=>absurd rfl z) fun z=>absurd rfl z
  | none =>
    refine core (fun b=>if b=a then some (.frz { cls:=.type "list",data:=.seq vs.toArray } (.lst (ns.map V.int))) else none) (fun b=>?_) (.inl (.inr ⟨{ cls:=.type "list",data:=.seq vs.toArray },if_pos rfl⟩)) (fun b u z=>?_) (fun b z=>?_) fun _=>hk
    . by_cases hb:b=a
      . exact .inr ⟨_,_,if_pos hb⟩
      . exact .inl (if_neg hb)
    . by_cases hb:b=a
      . have z':=(if_pos hb).symm.trans z
        cases z';subst hb;exact⟨ha,by rw[xaa];exact hl,vs,_,rv,ha⟩
      . have z':=(if_neg hb).symm.trans z
        cases z'
    . by_cases hb:b=a
      . exact hb
      . exact absurd (if_neg hb) z
theorem jms {l:PySem.W.OpenLaw} {n k:Nat} {q:Program} {loose:List Str} {XP:(Str->Option Value)->Heap->Prop} {YP:World->Heap->Prop} {d:DefRec} {K:Params->PySem.W.Frag} {CX:World->CXT} {sp:World->Sp} {x:Str}
    (hn:l.most=some n) (hn2:n<=sizeLine) (hdf:d.params.defaults=[]) (hr:Room k callerA)
    (hY:∀(w:World) (h:Heap),YP w h->(K w.params).In h)
    (F:∀(w:World) (mg:Str->Option Value) (fa:Addr) (h:Heap),(K w.params).In h->h.Ns mainGlobals mg->mg d.name=some (.ref fa) ->
      ∃ fd : FuncData, (∀ (s : Shared) (u : Value), BindsTo s fd ⟨[u], []⟩ [(x, u)]) /\
        ∀base:Heap,(K w.params).In base->base.Ns mainGlobals mg->FnOk l.prog w (K w.params) mg base (CX w) k fa fd [x] (sp w))
    (hsp:∀(w:World) (H:Hp) (a:Addr) (ns:List Int),ns.length<=n->Only H->SqL (K w.params) H a (ns.map V.int)->sp w [.ref a] H (fun v _=>v=.bl true) fun _ _ _=>False)
    (hCX:∀(w:World) (H:Hp) (s:Shared) (e:Value) (s':Shared),CX w [] H s (fun _ _ _=>False) e s'->False) :
    PySem.W.WalkO q loose XP YP l.row.toRowW d [] (fun f vs=>PySem.call f vs):=by
  refine Att.attach_call hn hdf fun w s₀ s₁ mg mb fa o pm cd doc a vs ns G Y ho hd hcd hmg hobj hints hlen hg=>?_;have KX:=hY w _ Y;obtain⟨fd,hb,hF⟩:=F w mg fa _ KX G.T.g hmg;exact jkx KX G.T.g G.T.b G.T.builtins G.T.nolimit hg hobj hints (xaX hlen hn2) hr hF hb (fun H hO hS=>hsp w H a ns hlen hO hS) fun H e s'=>hCX w H s₁ e s'
def jbj (s:Stmt):Arguments:=match s with
 | .FunctionDef _ a _ _ _ _ _ _ _ _=>a
 | _=>{ posonlyargs:=[],args:=[],vararg:=none,kwonlyargs:=[],kw_defaults:=[],kwarg:=none,defaults:=[] }
def jaS (s:Stmt):List Stmt:=match s with
 | .FunctionDef _ _ b _ _ _ _ _ _ _=>b
 | _=>[]
def jai (s:Stmt):Scope:=match s with
 | .FunctionDef _ _ _ _ _ _ sc _ _ _=>sc
 | _=>{ kind:=.function,names:=[],isGenerator:=false,isCoroutine:=false }
abbrev CX0:CXT:=fun _ _ _ _ _ _=>False
abbrev E0:XK:=fun _ _ _=>False
theorem jaq {X:Cx}:jfe CX0 X E0:=fun _ _ _ _ _ _ _ h=>h.elim
theorem jiS {n:Nat} (h:n<=1000):n<sizeLine:=xa7 h (by decide)
section
variable {X:Cx}
theorem pv (i:Nat) {x:Str} {pos:Pos} (hN:X.N[i]?=some x:=by rfl) (hv:Vis X.env.scope x:=by first | exact Or.inl rfl | exact Or.inr (Or.inl rfl) | exact Or.inr (Or.inr rfl)) (hd:(x==("__debug__":Str))=false:=by decide)
  (hcd:(x==("__classdict__":Str))=false:=by decide):PE X (.Name x pos) (jfc i):=jnQ hN hv hd hcd
end
theorem jiT {c A B:Prop} [Decidable c] (h1:c->A) (h2:¬c->B):if c then A else B:=by
 by_cases h:c
 ·rw[if_pos h];exact h1 h
 ·rw[if_neg h];exact h2 h
def Same (H H':Hp):Prop:=∀b o,H b=some o->H' b=some o
theorem Same.refl (H:Hp):Same H H:=fun _ _ h=>h
theorem Same.trans {H H1 H2:Hp} (a:Same H H1) (b:Same H1 H2):Same H H2:=fun c o h=>b c o (a c o h)
theorem Same.free {H H':Hp} (e:Same H H') {l:Addr} (h:H' l=Option.none):H l=Option.none:=by
  cases q:H l with
  | none=>rfl
  | some o =>
    rw[e l o q] at h;cases h
theorem Same.seq {K:PySem.W.Frag} {H H':Hp} {a:Addr} {xs:List V} (e:Same H H') (h:SqL K H a xs):SqL K H' a xs:=by
 rcases h with (h | ⟨o,h⟩) | h
 ·exact .inl (.inl (e _ _ h))
 ·exact .inl (.inr ⟨o,e _ _ h⟩)
 ·exact .inr h
section
variable {prog:Program} {w:World} {A:Around} {R:Result->Shared->Prop} {s:Shared}
theorem jgk {elt target iter:Expr} {ifs:List Expr} {scope:Scope} {pos:Pos} {it acc:Value} {env:Env} (I:Nat->Shared->Prop)
    (turn:∀n s,I n s->wpAny (model prog w) A (pyNext it) (fun r s₁=>match r with
      | none=>R (.ok .next) s₁
      | some v=>wpAny (model prog w) A (letOwnedTupleGo target it v) (fun _ s₁'=>wpAny (model prog w) A (assign target env v) (fun _ s₂ =>
          wpAny (model prog w) A (forIn ifs true fun c r=>if r=true then do let ok <- isTrue c env (eval c env);pure (ForInStep.yield ok) else pure (ForInStep.yield r)) (fun ok s₃ =>
            if ok=true then wpAny (model prog w) A (eval elt env) (fun x s₄ =>
              wpAny (model prog w) A (call (.builtin "list.append") [acc,x]) (fun _ s₅=>∃m,m<n/\I m s₅) (notedBy (model prog w) A env fun e s'=>R (.error e) s') s₄) (notedBy (model prog w) A env fun e s'=>R (.error e) s') s₃
            else ∃m,m<n/\I m s₃) (notedBy (model prog w) A env fun e s'=>R (.error e) s') s₂) (notedBy (model prog w) A env fun e s'=>R (.error e) s') s₁') (notedBy (model prog w) A env fun e s'=>R (.error e) s') s₁) (notedBy (model prog w) A env fun e s'=>R (.error e) s') s)
    (n:Nat) (h:I n s) :
    codeAny (model prog w) A (.compLoop (.ListComp elt [⟨target,iter,ifs,0⟩] scope pos) 0 it acc env) R s:=by
  refine codeAny_loop rfl I (fun n s hI=>?_) n h;show wpAny _ A ((compTurn (.ListComp elt [⟨target,iter,ifs,0⟩] scope pos) 0 it acc env).onRaise (fun x=>do noteFrame x env;theTreesLotGoes x)) _ _ s;refine wpAny_noted ?_;rw[compTurn_list];refine wpAny_bind (wpAny_standAt (wpAny_bind (wpAny_mono (turn n s hI) (fun r s₁ h₁=>?_) fun _ _ h'=>h')));cases r with
  | none=>exact wpAny_pure h₁
  | some v =>
    refine wpAny_bind (wpAny_mono h₁ (fun _ s₁' h₁'=>?_) fun _ _ h'=>h');refine wpAny_bind (wpAny_mono h₁' (fun _ s₂ h₂=>wpAny_bind (wpAny_mono h₂ (fun ok s₃ h₃=>?_) fun _ _ h'=>h')) fun _ _ h'=>h');cases ok with
    | false=>exact wpAny_pure ⟨rfl,h₃⟩
    | true =>
      exact wpAny_bind (wpAny_bind (wpAny_mono h₃ (fun x s₄ h₄=>wpAny_bind (wpAny_mono h₄ (fun _ s₅ h₅=>wpAny_pure (wpAny_pure ⟨rfl,h₅⟩)) fun _ _ h'=>h')) fun _ _ h'=>h'))
end
theorem jdN {env:Env}:∀(names:List (Str × NameKind)) (cs:List (Str × Addr)),(∀y∈names,y.2=.free->∃c,env.cells.lookup y.1=some c) ->
    (∀y c,cs.lookup y=some c->env.cells.lookup y=some c) ->
    ∃cl:List (Str × Addr),(forIn (m:=Sem) names cs fun x r=>do
        if (x.2==NameKind.free)=true then do
          let a <- cellOf env x.1
          pure (ForInStep.yield ((x.1,a)::r))
        else pure (ForInStep.yield r))=pure cl/\(∀y c,cl.lookup y=some c->env.cells.lookup y=some c) /\
      (∀y,((y,NameKind.free)∈names\/∃c,cs.lookup y=some c)->∃c,cl.lookup y=some c)
  | [],cs,_,hc=>⟨cs,rfl,hc,fun y h=>h.elim (fun z=>nomatch z) id⟩
  | (n, k) :: r, cs, hn, hc => by
    by_cases hk:k=.free
    . subst hk
      obtain⟨c,e⟩:=hn (n,.free) xaN rfl;have hc':∀y d,((n,c)::cs).lookup y=some d->env.cells.lookup y=some d:=fun y d q=>by
        rw[xaP] at q;cases z:y==n with
        | true =>
          rw[z] at q;have:=beq_iff_eq.mp z;subst this;cases q;exact e
        | false=>rw[z] at q;exact hc y d q
      obtain⟨cl,h1,h2,h3⟩:=jdN r ((n,c)::cs) (fun y hy=>hn y (xad _ hy)) hc';refine⟨cl,?_,h2,fun y hy=>h3 y ?_⟩
      . rw[List.forIn_cons]
        have ec:cellOf env n=pure c:=by unfold cellOf;rw[e]
        show ((if (NameKind.free==NameKind.free)=true then _ else _) >>= _)=_;rw[if_pos (by rfl)];show ((cellOf env n >>= _) >>= _)=_;rw[ec];exact h1
      . rcases hy with hy | ⟨d,hy⟩
        . rcases xam.mp hy with z | z
          . cases z
            exact .inr ⟨c,by rw[xaP,beq_self_eq_true]⟩
          . exact .inl z
        . refine .inr ?_
          rw[xaP];cases z:y==n with
          | true=>exact⟨c,rfl⟩
          | false=>exact⟨d,hy⟩
    . obtain⟨cl,h1,h2,h3⟩:=jdN r cs (fun y hy=>hn y (xad _ hy)) hc
      refine⟨cl,?_,h2,fun y hy=>h3 y ?_⟩
      . rw[List.forIn_cons]
        have hb:(k==NameKind.free)=false:=by simpa using hk
        show ((if (k==NameKind.free)=true then _ else _) >>= _)=_;rw[if_neg (by rw[hb];decide)];exact h1
      . rcases hy with hy | hy
        . rcases xam.mp hy with z | z
          . cases z;exact absurd rfl hk
          . exact .inl z
        . exact .inr hy
theorem jdO {env:Env} {scope:Scope} (hn:∀y∈scope.names,y.2=.free->∃c,env.cells.lookup y.1=some c) :
  ∃cl:List (Str × Addr),closureFor scope env=pure cl/\(∀y c,cl.lookup y=some c->env.cells.lookup y=some c)/\(∀y,(y,NameKind.free)∈scope.names->∃c,cl.lookup y=some c):=by
 obtain⟨cl,h1,h2,h3⟩:=jdN (env:=env) scope.names [] hn (fun y c q=>nomatch q);refine⟨cl,?_,h2,fun y hy=>h3 y (.inl hy)⟩;unfold closureFor;show (_ >>= fun cs=>pure cs)=_;have e:∀m:Sem (List (Str × Addr)),(m >>= fun cs=>pure cs)=m:=fun m=>bind_pure m;rw[e];exact h1
inductive Ixs (N:List Str) (sc cs:Scope):List Str->List Nat->Prop
 | nil:Ixs N sc cs [] []
 | cons {y r j q} (h1:N[j]?=some y) (h2:sc.names.lookup y=some .cell\/sc.names.lookup y=some .free) (h3:cs.names.lookup y=some .free) (t:Ixs N sc cs r q):Ixs N sc cs (y::r) (j::q)
structure CompScope (N:List Str) (sc:Scope) (N':List Str) (ix:List Nat) (x:Str) (r:List Str) (cs:Scope):Prop where
 eq:N'=x::r
 kind:cs.kind=.function
 hcell:∀y∈cs.names,y.2≠.cell
 hnames:∀y∈cs.names,y.2=.local->cs.names.lookup y.1=some .local
 hx:cs.names.lookup x=some .local
 nd:(x::r).Nodup
 fr:∀y∈cs.names,y.2=.free->sc.names.lookup y.1=some .cell\/sc.names.lookup y.1=some .free
 ixs:Ixs N sc cs r ix
def jaJ (σ:St) (ix:List Nat):St:=ix.map fun j=>(σ[j]?).getD none
def jlv (X:Cx) (N':List Str) (cs:Scope) (cl:List (Str × Addr)) (s3:Shared) (H3:Hp) (fp:List Addr):Cx :=
 { X with N:=N',s₀:=s3,H₀:=H3,env:=compEnvC cs cl s3.heap.objs.size X.env,outer:=X.stack,stack:=X.stack,ex:=fp,fn:=fun _=>false,pn:=[],xe:=fun _ _=>False }
theorem jd9 {env:Env} {cs:Scope} (hcell:∀y∈cs.names,y.2≠.cell) {y:Str} {k:NameKind} (h:(relabel cs env).names.lookup y=some k) (hk:k=.cell\/k=.free):(y,NameKind.free)∈cs.names:=by
 have m:=PySem.mem_of_lookup h;obtain⟨⟨n,k0⟩,h1,h2⟩:=xah.mp m;by_cases c:(k0==NameKind.free&&env.scope.kind==.function&&env.kindOf n==some .cell)=true
 ·have h2':(n,NameKind.cell)=(y,k):=by rw[<- h2];exact (if_pos c).symm
  cases h2';have:k0=.free:=by
   have z:=(xbA.mp (xbA.mp c).1).1;exact beq_iff_eq.mp z
  rw[this] at h1;exact h1
 ·have h2':(n,k0)=(y,k):=by rw[<- h2];exact (if_neg c).symm
  cases h2';rcases hk with rfl | rfl
  ·exact absurd rfl (hcell _ h1)
  ·exact h1
theorem jba {env:Env}:∀{names:List (Str × NameKind)} {x:Str},names.lookup x=some .free ->
    (names.map fun (n,k)=>if (k==NameKind.free&&env.scope.kind==.function&&env.kindOf n==some .cell) then (n,NameKind.cell) else (n,k)).lookup x=some .cell \/
    (names.map fun (n,k)=>if (k==NameKind.free&&env.scope.kind==.function&&env.kindOf n==some .cell) then (n,NameKind.cell) else (n,k)).lookup x=some .free
  | [],_,h=>by simp at h
  | (n, k) :: r, x, h => by
    have ih:=@jba env r x;rw[xaS];show List.lookup x ((if (k==NameKind.free&&env.scope.kind==.function&&env.kindOf n==some .cell)=true then (n,NameKind.cell) else (n,k))::_)=_\/List.lookup x ((if (k==NameKind.free&&env.scope.kind==.function&&env.kindOf n==some .cell)=true then (n,NameKind.cell) else (n,k))::_)=_;cases hx:x==n with
    | true =>
      simp only[xaP,hx] at h;cases h;by_cases hc:(NameKind.free==NameKind.free&&env.scope.kind==.function&&env.kindOf n==some .cell)=true
      . rw[if_pos hc];exact .inl (by simp only[xaP,hx])
      . rw[if_neg hc];exact .inr (by simp only[xaP,hx])
    | false =>
      simp only[xaP,hx] at h;by_cases hc:(k==NameKind.free&&env.scope.kind==.function&&env.kindOf n==some .cell)=true
      . rw[if_pos hc];simp only[xaP,hx];exact ih h
      . rw[if_neg hc];simp only[xaP,hx];exact ih h
theorem Ixs.get {N:List Str} {sc cs:Scope}:∀{r:List Str} {ix:List Nat},Ixs N sc cs r ix->∀{i:Nat} {y:Str},r[i]?=some y ->
    ∃j,ix[i]?=some j/\N[j]?=some y/\(sc.names.lookup y=some .cell\/sc.names.lookup y=some .free)/\cs.names.lookup y=some .free
  | _,_,.nil,i,y,h=>by simp at h
  | _,_,.cons h1 h2 h3 t,0,y,h=>by simp at h;subst h;exact⟨_,rfl,h1,h2,h3⟩
  | _, _, .cons h1 h2 h3 t, i + 1, y, h => by
    obtain⟨j,a,b⟩:=Ixs.get t (i:=i) (y:=y) (by simpa using h);exact⟨j,by simpa using a,b⟩
theorem Ixs.len {N:List Str} {sc cs:Scope}:∀{r:List Str} {ix:List Nat},Ixs N sc cs r ix->r.length=ix.length
 | _,_,.nil=>rfl
 | _,_,.cons _ _ _ t=>by rw[xaw,xaw,t.len]
section
variable {X:Cx} {pins:List (Addr × Obj)} {σ:St} {H:Hp} {s:Shared}
theorem Inv.compOk {N' r:List Str} {ix:List Nat} {x:Str} {cs:Scope} {cl:List (Str × Addr)} {fp:List Addr} (I:Inv X pins σ H s) (S:CompScope X.N X.env.scope N' ix x r cs)
  (h2:∀y c,cl.lookup y=some c->X.env.cells.lookup y=some c) (h3:∀y,(y,NameKind.free)∈cs.names->∃c,cl.lookup y=some c) (hf:∀b∈fp,jgJ X pins H b) (hfp:∀b∈fp,b<s.heap.objs.size) :
  (jlv X N' cs cl s H fp).Ok where
 mod:=I.ok.mod
 kind:=S.kind
 glob:=I.ok.glob
 blt:=I.ok.blt
 above:=xaj _
 inj:=fun a b c ha hb=>I.ok.inj a b c (h2 a c ha) (h2 b c hb)
 has:=fun y hy=>h3 y (hy.elim (fun z=>jd9 S.hcell z (.inl rfl)) fun z=>jd9 S.hcell z (.inr rfl))
 cab:=fun _ _ z=>nomatch z
 hd:=I.ok.hd
 frames:=I.ok.frames
 stk:=.inl rfl
 exf:=fun b hb=>⟨xax (hfp b hb),fun y c e=>(hf b hb).2.2.2.2.1 y c (h2 y c e)⟩
 bs:=I.bs
 bsz:=xaX I.ok.bsz I.sz
 noex:=fun b o e hb=>by
  rcases (hf b hb).2.2.2.1 with z | z
  ·exact I.ok.noex b o e z
  ·exact absurd (xao (Heap.lt_size e) (xaX I.ok.bsz z)) (xbj _)
 exfs:=fun b hb hs=>by
  rcases xam.mp (I.stkSub b hs) with z | z
  ·exact (hf b hb).2.1 z
  ·exact (hf b hb).2.2.1 z
 funs:=I.stack
 frf:=I.stkFree
theorem jeB {σ:St} {ix:List Nat} {i:Nat} {v:V} (h:(jaJ σ ix)[i]?=some (some v)):∃j,ix[i]?=some j/\σ[j]?=some (some v):=by
  unfold jaJ at h;rw[xav] at h;cases e:ix[i]? with
  | none=>rw[e] at h;cases h
  | some j =>
    rw[e] at h;refine⟨j,rfl,?_⟩;cases q:σ[j]? with
    | none =>
      have h':((σ[j]?).getD none)=some v:=by simpa using h
      rw[q] at h';cases h'
    | some o =>
      have h':((σ[j]?).getD none)=some v:=by simpa using h
      rw[q] at h';cases o with
      | none=>cases h'
      | some u=>cases h';rfl
theorem Inv.compStart {N' r:List Str} {ix:List Nat} {x:Str} {cs:Scope} {cl:List (Str × Addr)} {fp:List Addr} {h1:Heap} {tk:Nat} {m:Str->Option Value} (I:Inv X pins σ H s) (S:CompScope X.N X.env.scope N' ix x r cs)
    (h2:∀y c,cl.lookup y=some c->X.env.cells.lookup y=some c) (h3:∀y,(y,NameKind.free)∈cs.names->∃c,cl.lookup y=some c) (hf:∀b∈fp,jgJ X pins H b) (hfp:∀b∈fp,b<s.heap.objs.size)
    (hn:h1.Ns s.heap.objs.size m) (hk:∀b o,s.heap.get? b=some o->h1.get? b=some o) :
    Inv (jlv X N' cs cl s H fp) [] (none::jaJ σ ix) H { s with heap:=h1,toks:=tk }:=by
  have ok:=I.compOk (N':=N') (fp:=fp) S h2 h3 hf hfp;obtain⟨mo,hno,hlo⟩:=id I.loc;refine⟨ok,rfl,I.bare,Un.kept hk,⟨m,hn,fun i y v e1 e2 e3=>?_⟩,fun y c e=>?_,I.hok.fresh (xaj _),fun y c e=>I.freeC y c (h2 y c e),fun p hp=>absurd (show p∈([]:List (Addr × Obj)) from hp) (by simp),I.hok.kept hk,?_⟩
  . cases i with
    | zero=>cases e2
    | succ i =>
      have e1':r[i]?=some y:=by
        have:N'[i+1]?=some y:=e1;rw[S.eq] at this;simpa using this
      obtain⟨j,j1,j2,j3,j4⟩:=S.ixs.get e1';obtain⟨j',k1,k2⟩:=jeB (σ:=σ) (ix:=ix) (i:=i) (v:=v) (by simpa using e2);rw[j1] at k1;cases k1;obtain⟨u,ru,lk⟩:=hlo j y v j2 k2 (j3.elim (fun z=>.inr (.inl z)) fun z=>.inr (.inr z));refine⟨u,ru,?_⟩;obtain⟨c,hc⟩:=h3 y (PySem.mem_of_lookup j4);rcases lk with ⟨k,_⟩ | ⟨k,c',e',z⟩
      . have k':X.env.scope.names.lookup y=some .local:=k
        rcases j3 with q | q<;>(rw[q] at k';cases k')
      . rw[h2 y c hc] at e'
        cases e';refine .inr ⟨?_,c,hc,?_⟩
        . exact jba (env:=X.env) j4
        . obtain⟨o,ho,hd⟩:=z
          exact⟨o,hk c o ho,hd⟩
  . obtain⟨v,o,ho,hd⟩:=I.cell y c (h2 y c e)
    exact⟨v,o,hk c o ho,hd⟩
  . show (none::jaJ σ ix).length=N'.length
    rw[S.eq,xaw,xaw,S.ixs.len];unfold jaJ;rw[xaa]
def PTs (X:Cx) (ifs:List Expr) (t:TT):Prop :=
  ∀ (E : Value -> Shared -> Prop) (pins : List (Addr × Obj)) (s : Shared) (σ : St) (H : Hp) (Q : Bool -> Hp -> Prop), (∀ e s', X.xe e s' -> E e s') -> Inv X pins σ H s -> t σ H Q ->
    wpAny (model X.prog X.w) X.A (forIn ifs true fun c r=>if r=true then do let ok <- isTrue c X.env (eval c X.env);pure (ForInStep.yield ok) else pure (ForInStep.yield r)) (TP X pins σ Q) E s
def jcx:TT:=fun _ H Q=>Q true H
theorem jaW {X:Cx}:PTs X [] jcx:=fun _ _ _ _ H _ _ I h=>wpAny_tests_nil ⟨H,I,h⟩
theorem jfD {X:Cx} {c:Expr} {t:TT} (h:PT X c t):PTs X [c] t:=fun _ pins s σ H Q hE I q=>wpAny_tests_one (wpAny_mono (h pins s σ H Q I q) (fun _ _ z=>z) hE)
def CompGo (J:It) (ρ:St) (g:TG) (tt:TT) (te:TE) (acc:Addr) (Z:Hp->Prop) (H1:Hp):Prop :=
  ∃ W : Nat -> Nat -> List V -> Hp -> Prop, (∃ m, W 0 m [] (upd H1 acc (.lst []))) /\ ∀ i m xs H, W i m xs H ->
    ((J.stop i H /\ Z H) \/ (J.go i H /\ ∃ (Nx : V -> Hp -> Prop) (Nn : Hp -> Prop), (∀ y H4, Nx y H4 -> H4 acc = some (.lst xs) /\ xs.length < sizeLine /\ ∃ m', m' < m /\ W (i + 1) m' (xs ++ [y]) (upd H4 acc (.lst (xs ++ [y])))) /\
      (∀H3,Nn H3->∃m',m'<m/\W (i+1) m' xs H3)/\∀v0 x H',J.yld i H x H'->g x (v0::ρ) H' fun σ2 H2=>(∃v,σ2=v::ρ)/\tt σ2 H2 fun b H3=>if b=true then te σ2 H3 Nx else Nn H3))
end
section
variable {X:Cx} {N' r:List Str} {ix:List Nat} {x:Str} {cs:Scope} {tg iter elt:Expr} {ifs:List Expr} {pos:Pos} {wi:TI} {g:TG} {tt:TT} {te:TE}
def jgl (wi:TI) (ix:List Nat) (g:TG) (tt:TT) (te:TE):TE:=fun σ H Q=>wi σ H fun J H1=>∀acc,H1 acc=none->CompGo J (jaJ σ ix) g tt te acc (fun H'=>Q (.ref acc) H') H1
theorem CompScope.clos {sc:Scope} {N:List Str} (S:CompScope N sc N' ix x r cs) {env:Env} (he:env.scope=sc) (has:∀y,(env.kindOf y=some .cell\/env.kindOf y=some .free)->∃c,env.cells.lookup y=some c) :
  ∃cl:List (Str × Addr),closureFor cs env=pure cl/\(∀y c,cl.lookup y=some c->env.cells.lookup y=some c)/\(∀y,(y,NameKind.free)∈cs.names->∃c,cl.lookup y=some c) :=
 jdO fun y hy hk=>has y.1 (by
  subst he;exact S.fr y hy hk)
end
section
variable {ρ:St} {g:TG} {tt:TT} {te:TE} {acc:Addr} {Z:Hp->Prop} {H1:Hp}
theorem jdP {lo:Int} {n:Nat} (Pv:Nat->List V->Hp->Prop) (h0:Pv 0 [] (upd H1 acc (.lst [])))
  (hs:∀i xs H,i<n->Pv i xs H->te (some (.int (lo+i))::ρ) H fun y H4=>H4 acc=some (.lst xs)/\xs.length<sizeLine/\Pv (i+1) (xs++[y]) (upd H4 acc (.lst (xs++[y]))))
  (hd:∀xs H,Pv n xs H->Z H):CompGo (Itr lo n) ρ (jbB 0) jcx te acc Z H1:=by
 refine⟨fun i m xs H=>Pv i xs H/\i<=n/\m=n-i,⟨n,h0,xaY _,rfl⟩,?_⟩;rintro i m xs H ⟨hp,hi,rfl⟩;by_cases hlt:i<n
 ·refine .inr ⟨hlt,(fun y H4=>H4 acc=some (.lst xs)/\xs.length<sizeLine/\Pv (i+1) (xs++[y]) (upd H4 acc (.lst (xs++[y])))),fun _=>False,fun y H4 q=>⟨q.1,q.2.1,n-(i+1),by omega,q.2.2,hlt,rfl⟩,fun _ z=>z.elim,?_⟩;rintro v0 x H' ⟨rfl,rfl⟩;exact⟨⟨_,rfl⟩,by simp only[jcx,if_true];exact hs i xs H' hlt hp⟩
 ·have:i=n:=by omega
  subst this;exact .inl ⟨xaj _,hd xs H hp⟩
theorem jem {K:PySem.W.Frag} {a:Addr} {zs:List V} (Pv:Nat->List V->Hp->Prop) (h0:Pv 0 [] (upd H1 acc (.lst []))) (hl:∀i xs H,i<=zs.length->Pv i xs H->SqT K H a zs)
  (hs:∀i z xs H,zs[i]?=some z->Pv i xs H->te (some z::ρ) H fun y H4=>H4 acc=some (.lst xs)/\xs.length<sizeLine/\Pv (i+1) (xs++[y]) (upd H4 acc (.lst (xs++[y]))))
  (hd:∀xs H,Pv zs.length xs H->Z H):CompGo (Itt K a) ρ (jbB 0) jcx te acc Z H1:=by
 refine⟨fun i m xs H=>Pv i xs H/\i<=zs.length/\m=zs.length-i,⟨zs.length,h0,xaY _,rfl⟩,?_⟩;rintro i m xs H ⟨hp,hi,rfl⟩;have sq:=hl i xs H hi hp;by_cases hlt:i<zs.length
 ·refine .inr ⟨⟨zs,zs[i],sq,xac hlt⟩,(fun y H4=>H4 acc=some (.lst xs)/\xs.length<sizeLine/\Pv (i+1) (xs++[y]) (upd H4 acc (.lst (xs++[y])))),fun _=>False,fun y H4 q=>⟨q.1,q.2.1,zs.length-(i+1),by omega,q.2.2,hlt,rfl⟩,fun _ z=>z.elim,?_⟩;rintro v0 x H' ⟨rfl,hx⟩;exact⟨⟨_,rfl⟩,by simp only[jcx,if_true];exact hs i x xs H' (hx zs sq) hp⟩
 ·have:i=zs.length:=by omega
  subst this;exact .inl ⟨⟨zs,sq,xaj _⟩,hd xs H hp⟩
theorem jiU {K:PySem.W.Frag} {a:Addr} {zs:List V} (Pv:Nat->List V->Hp->Prop) (h0:Pv 0 [] (upd H1 acc (.lst []))) (hl:∀i xs H,i<=zs.length->Pv i xs H->SqL K H a zs)
  (hs:∀i z xs H,zs[i]?=some z->Pv i xs H->te (some z::ρ) H fun y H4=>H4 acc=some (.lst xs)/\xs.length<sizeLine/\Pv (i+1) (xs++[y]) (upd H4 acc (.lst (xs++[y]))))
  (hd:∀xs H,Pv zs.length xs H->Z H):CompGo (Itl K a) ρ (jbB 0) jcx te acc Z H1:=by
 refine⟨fun i m xs H=>Pv i xs H/\i<=zs.length/\m=zs.length-i,⟨zs.length,h0,xaY _,rfl⟩,?_⟩;rintro i m xs H ⟨hp,hi,rfl⟩;have sq:=hl i xs H hi hp;by_cases hlt:i<zs.length
 ·refine .inr ⟨⟨zs,zs[i],sq,xac hlt⟩,(fun y H4=>H4 acc=some (.lst xs)/\xs.length<sizeLine/\Pv (i+1) (xs++[y]) (upd H4 acc (.lst (xs++[y])))),fun _=>False,fun y H4 q=>⟨q.1,q.2.1,zs.length-(i+1),by omega,q.2.2,hlt,rfl⟩,fun _ z=>z.elim,?_⟩;rintro v0 x H' ⟨rfl,hx⟩;exact⟨⟨_,rfl⟩,by simp only[jcx,if_true];exact hs i x xs H' (hx zs sq) hp⟩
 ·have:i=zs.length:=by omega
  subst this;exact .inl ⟨⟨zs,sq,xaj _⟩,hd xs H hp⟩
end
end L2
namespace L2
open PySem PySem.Spec PyProof.Rows
section
variable {X:Cx}
theorem jdQ {k:Int} {n:Nat} (h:k.natAbs<2^n):Builtin.Int.intBits k<=n:=by
 unfold Builtin.Int.intBits;split
 ·exact xaY _
 ·rename_i h0
  have hk:k.natAbs≠0:=by
   intro z;apply h0;have:k=0:=Int.natAbs_eq_zero.mp z;subst this;rfl
  have:k.natAbs.log2<n:=(Nat.log2_lt hk).mpr h;omega
def Fit (i:Int):Prop:=i.natAbs<2^8000
theorem Fit.mul {i j:Int} (hi:Fit i) (hj:Fit j):IntMulOk i j:=by
 have h1:=jdQ hi;have h2:=jdQ hj;unfold IntMulOk;intro h;have h3:=(xbA.mp h).2;unfold Builtin.Int.intTooBig at h3;have h4:=of_decide_eq_true h3;have h5:(bitsLine:Int)=134217728:=by decide
 omega
theorem jar:OpR X (binaryOp .Mult) (rI (fun i j=>Fit i/\Fit j) fun i j=>.int (i*j)):=opI fun _ _ _ _ _ _ _ hc q=>mul_int q (hc.1.mul hc.2)
theorem Fit.log {i:Int} (h:Fit i):i.natAbs.log2<9000:=by
 by_cases h0:i.natAbs=0
 ·rw[h0];decide +kernel
 ·have:=(Nat.log2_lt h0).mpr h;omega
theorem jbr:OpR X (binaryOp .FloorDiv) (rI (fun _ j=>0<j/\Fit j) fun i j=>.int (i / j)):=opI fun i j _ _ _ _ _ hc q=>by
 have h1:(0:Int)<j:=hc.1;exact floordiv_int (by omega) (by rw[Int.fdiv_eq_ediv_of_nonneg i (by omega)];exact q) (.inl (PyProof.noPylong_of_log2 hc.2.log))
theorem Fit.of {i:Int} {n:Nat} (h:i.natAbs<2^n) (hn:n<=8000:=by decide):Fit i:=xao h (xcb (by decide) hn)
theorem jeC:CallR X (.builtin "isinstance") (fun xs H Q=>∃x c t b,xs=[x,.ty c]/\TyOf X.K H x t/\PySem.W.kitOne X.K t (.type c)=some b/\Q (.bl b) H):=by
 intro pins s σ H xs us Q I r h;obtain⟨x,c,t,b,rfl,ty,e,q⟩:=h;obtain⟨u,w',rfl,r1,r2⟩:=jks r;cases r2;exact jiI I r1 ty e fun tk=>⟨.bl b,H,I.tok tk,rfl,q⟩
mutual
inductive Rds (K:PySem.W.Frag) (H:Hp):V->PyData->Prop
 | non:Rds K H .non .none
 | bl (b:Bool):Rds K H (.bl b) (.bool b)
 | int (i:Int):Rds K H (.int i) (.int i)
 | str (x:Str):Rds K H (.str x) (.str x)
 | lst {a:Addr} {xs:List V} {ds:List PyData} (h:SqL K H a xs) (t:RdsAll K H xs ds):Rds K H (.ref a) (.list ds)
 | tup {a:Addr} {xs:List V} {ds:List PyData} (h:SqT K H a xs) (t:RdsAll K H xs ds):Rds K H (.ref a) (.tuple ds)
inductive RdsAll (K:PySem.W.Frag) (H:Hp):List V->List PyData->Prop
 | nil:RdsAll K H [] []
 | cons {v:V} {vs:List V} {d:PyData} {ds:List PyData} (h:Rds K H v d) (t:RdsAll K H vs ds):RdsAll K H (v::vs) (d::ds)
end
mutual
theorem Rds.reads {pins:List (Addr × Obj)} {σ:St} {H:Hp} {s:Shared} (I:Inv X pins σ H s):∀{x:V} {d:PyData} {u:Value},Rds X.K H x d->RelV x u->∃as,Reads s.heap u d as
  | _,_,_,.non,r=>by cases r;exact⟨_,.none⟩
  | _,_,_,.bl b,r=>by cases r;exact⟨_,.bool b⟩
  | _,_,_,.int i,r=>by obtain⟨t,rfl⟩:=r;exact⟨_,.int i t⟩
  | _,_,_,.str x,r=>by obtain⟨t,rfl⟩:=r;exact⟨_,.str x t⟩
  | _, _, _, .lst h t, r => by
    cases r;obtain⟨its,rv,pl,_⟩:=I.list h;obtain⟨o,ho,hc,n,hd⟩:=pl.isList;obtain⟨as,q⟩:=RdsAll.reads I t rv;exact⟨_,.list ho hc hd q⟩
  | _, _, _, .tup h t, r => by
    cases r;obtain⟨its,rv,pl,_⟩:=I.tuple h;obtain⟨o,ho,hc,n,hd⟩:=pl;obtain⟨as,q⟩:=RdsAll.reads I t rv;exact⟨_,.tuple ho hc hd q⟩
theorem RdsAll.reads {pins:List (Addr × Obj)} {σ:St} {H:Hp} {s:Shared} (I:Inv X pins σ H s):∀{xs:List V} {ds:List PyData} {us:List Value},RdsAll X.K H xs ds->Vals xs us->∃as,ReadsAll s.heap us ds as
  | _,_,_,.nil,r=>by cases r;exact⟨_,.nil⟩
  | _, _, _, .cons h t, r => by
    cases r with
    | cons r1 r2 =>
      obtain⟨as,q1⟩:=Rds.reads I h r1;obtain⟨bs,q2⟩:=RdsAll.reads I t r2;exact⟨_,.cons q1 q2⟩
end
theorem RdsAll.ints {K:PySem.W.Frag} {H:Hp}:∀ns:List Int,RdsAll K H (ns.map V.int) (ns.map PyData.int)
 | []=>.nil
 | n::r=>.cons (.int n) (RdsAll.ints r)
def jnK (K:PySem.W.Frag) (neg:Bool):R2:=fun x y H Q=>∃dx dy,Rds K H x dx/\Rds K H y dy/\SeqAt.shaped dx=true/\SeqAt.shaped dy=true/\Q (.bl (if neg then !PyData.eqv dx dy else PyData.eqv dx dy)) H
theorem jgm (hu:X.A.units+64<cLine):OpR X (compareOp .Eq) (jnK X.K false):=by
 intro pins s σ H x y v u Q I rx ry ⟨dx,dy,hx,hy,sx,sy,q⟩;obtain⟨as,ra⟩:=hx.reads I rx;obtain⟨bs,rb⟩:=hy.reads I ry;exact eq_dataH ra rb sx sy hu ⟨.bl _,H,I,rfl,q⟩
theorem jlw (hu:X.A.units+64<cLine):OpR X (compareOp .NotEq) (jnK X.K true):=by
 intro pins s σ H x y v u Q I rx ry ⟨dx,dy,hx,hy,sx,sy,q⟩;obtain⟨as,ra⟩:=hx.reads I rx;obtain⟨bs,rb⟩:=hy.reads I ry;exact ne_dataH ra rb sx sy hu ⟨.bl _,H,I,rfl,q⟩
end
end L2
namespace L2
open PySem PySem.Spec PyProof.Rows
def Keep {α:Type} (Z:Heap->Prop):Sem α->Prop
 | .pure _=>True
 | .raise _=>True
 | .unsupported _=>True
 | .finish _=>True
 | .rule _ k=>Keep Z (k ())
 | .at _ k=>Keep Z (k ())
 | .load _ _ k=>∀o,Keep Z (k o)
 | .update a _ f k=>(∀h,Z h->Z (h.update a f))/\Keep Z (k ())
 | .alloc o k=>(∀h,Z h->Z (h.push o))/\∀a,Keep Z (k a)
 | .loadIfAlive _ k=>∀o,Keep Z (k o)
 | .point _ k=>Keep Z (k ())
 | .register _ _=>True
 | .fresh k=>∀t,Keep Z (k t)
 | .ask k=>∀x,Keep Z (k x)
 | .choose _ _ k=>∀n,Keep Z (k n)
 | .os _ _ k=>∀r,Keep Z (k r)
 | .call ..=>False
 | .handled _ k=>∀x,Keep Z (k x)
 | .newGen _ k=>∀n,Keep Z (k n)
 | .genState _ k=>∀x,Keep Z (k x)
 | .resume ..=>False
 | .yield ..=>True
 | .stack k=>∀l,Keep Z (k l)
 | .fork ..=>True
 | .thread k=>∀n,Keep Z (k n)
 | .await ..=>True
theorem Keep.bind {α β:Type} {Z:Heap->Prop} {t:Sem α} {g:α->Sem β} (h:Keep Z t) (k:∀a,Keep Z (g a)):Keep Z (t >>= g):=by
 show Keep Z (Sem.bind t g);induction t with
 | pure a=>exact k a
 | raise _=>trivial
 | unsupported _=>trivial
 | finish _=>trivial
 | rule _ _ ih=>exact ih () h
 | «at» _ _ ih=>exact ih () h
 | load _ _ _ ih=>exact fun o=>ih o (h o)
 | update _ _ _ _ ih=>exact⟨h.1,ih () h.2⟩
 | alloc _ _ ih=>exact⟨h.1,fun a=>ih a (h.2 a)⟩
 | loadIfAlive _ _ ih=>exact fun o=>ih o (h o)
 | point _ _ ih=>exact ih () h
 | register _ _ _=>trivial
 | fresh _ ih=>exact fun o=>ih o (h o)
 | ask _ ih=>exact fun o=>ih o (h o)
 | choose _ _ _ ih=>exact fun o=>ih o (h o)
 | os _ _ _ ih=>exact fun o=>ih o (h o)
 | call _ _ _ _ _ _=>exact h.elim
 | handled _ _ ih=>exact fun o=>ih o (h o)
 | newGen _ _ ih=>exact fun o=>ih o (h o)
 | genState _ _ ih=>exact fun o=>ih o (h o)
 | resume _ _ _ _ _=>exact h.elim
 | yield _ _ _ _ _=>trivial
 | stack _ ih=>exact fun o=>ih o (h o)
 | fork _ _ _=>trivial
 | thread _ ih=>exact fun o=>ih o (h o)
 | await _ _ _ _ _ _=>trivial
theorem Keep.wp {α:Type} {Z:Heap->Prop} {M:Model} {Γ:PySem.Ctx} {t:Sem α} (h:Keep Z t):∀{Q:α->Pos->Shared->Prop} {E:Value->Pos->Shared->Prop} {p:Pos} {s:Shared},Z s.heap->Sem.wp M Γ t Q E p s ->
  Sem.wp M Γ t (fun a p s'=>Q a p s'/\Z s'.heap) (fun e p s'=>E e p s'/\Z s'.heap) p s:=by
 induction t with
 | pure a=>intro Q E p s z q;rw[Sem.wp] at q |-;exact⟨q,z⟩
 | raise e=>intro Q E p s z q;rw[Sem.wp] at q |-;exact⟨q,z⟩
 | unsupported _=>intro Q E p s z q;rw[Sem.wp] at q;exact q.elim
 | finish _=>intro Q E p s z q;rw[Sem.wp] at q;exact q.elim
 | rule _ _ ih=>intro Q E p s z q;rw[Sem.wp] at q |-;exact ih () h z q
 | «at» _ _ ih=>intro Q E p s z q;rw[Sem.wp] at q |-;exact ih () h z q
 | load _ _ _ ih=>intro Q E p s z q;rw[Sem.wp] at q |-;obtain⟨o,ho,q⟩:=q;exact⟨o,ho,ih o (h o) z q⟩
 | update _ _ _ _ ih=>intro Q E p s z q;rw[Sem.wp] at q |-;exact⟨q.1,ih () h.2 (h.1 _ z) q.2⟩
 | alloc _ _ ih=>intro Q E p s z q;rw[Sem.wp] at q |-;exact ih _ (h.2 _) (h.1 _ z) q
 | loadIfAlive _ _ ih=>intro Q E p s z q;rw[Sem.wp] at q |-;exact ih _ (h _) z q
 | point _ _ ih=>intro Q E p s z q;rw[Sem.wp] at q |-;exact ih () h z q
 | register _ _ _=>intro Q E p s z q;rw[Sem.wp] at q;exact q.elim
 | fresh _ ih=>intro Q E p s z q;rw[Sem.wp] at q |-;exact ih _ (h _) z q
 | ask _ ih=>intro Q E p s z q;rw[Sem.wp] at q |-;exact ih _ (h _) z q
 | choose _ _ _ ih=>intro Q E p s z q;rw[Sem.wp] at q |-;exact⟨q.1,ih _ (h _) z q.2⟩
 | os _ _ _ ih=>intro Q E p s z q;rw[Sem.wp] at q |-;exact ih _ (h _) z q
 | call _ _ _ _ _ _=>exact h.elim
 | handled _ _ ih=>intro Q E p s z q;rw[Sem.wp] at q |-;exact ih _ (h _) z q
 | newGen _ _ ih=>intro Q E p s z q;rw[Sem.wp] at q |-;exact ih _ (h _) z q
 | genState _ _ ih=>intro Q E p s z q;rw[Sem.wp] at q |-;obtain⟨o,ho,q⟩:=q;exact⟨o,ho,ih _ (h _) z q⟩
 | resume _ _ _ _ _=>exact h.elim
 | yield _ _ _ _ _=>intro Q E p s z q;rw[Sem.wp] at q;exact q.elim
 | stack _ ih=>intro Q E p s z q;rw[Sem.wp] at q |-;exact ih _ (h _) z q
 | fork _ _ _=>intro Q E p s z q;rw[Sem.wp] at q;exact q.elim
 | thread _ ih=>intro Q E p s z q;rw[Sem.wp] at q |-;exact ih _ (h _) z q
 | await _ _ _ _ _ _=>intro Q E p s z q;rw[Sem.wp] at q;exact q.elim
theorem Keep.any {α:Type} {Z:Heap->Prop} {M:Model} {A:Around} {t:Sem α} {Q:α->Shared->Prop} {E:Value->Shared->Prop} {s:Shared} (h:Keep Z t) (z:Z s.heap) (q:wpAny M A t Q E s) :
  wpAny M A t (fun a s'=>Q a s'/\Z s'.heap) (fun e s'=>E e s'/\Z s'.heap) s:=fun Γ p hΓ=>h.wp z (q Γ p hΓ)
def DictAt (e dx:Addr) (h:Heap):Prop:=∃o,h.get? e=some o/\o.dict=some dx
theorem DictAt.push {e dx:Addr} {h:Heap} {o:Obj} (z:DictAt e dx h):DictAt e dx (h.push o):=by
 obtain⟨x,h1,h2⟩:=z;exact⟨x,Heap.get?_push_of_some _ h1,h2⟩
theorem DictAt.update {e dx a:Addr} {h:Heap} {f:Obj->Obj} (hd:∀o,(f o).dict=o.dict) (hf:∀o,o.isFreed=false->(f o).isFreed=false) (z:DictAt e dx h):DictAt e dx (h.update a f):=by
 obtain⟨x,h1,h2⟩:=z;by_cases c:a=e
 ·subst c;exact⟨f x,Heap.get?_update_self f h1 (hf x (Heap.get?_some_iff.mp h1).2),(hd x).trans h2⟩
 ·exact⟨x,(Heap.get?_update_other _ _ c).trans h1,h2⟩
theorem jiV (g:Array Value->Array Value) (o:Obj):(Obj.mapFields g o).dict=o.dict:=by
 obtain⟨c,d,dt,sl⟩:=o;cases dt<;>rfl
theorem jiW (g:Array Value->Array Value) (o:Obj) (h:o.isFreed=false):(Obj.mapFields g o).isFreed=false:=by
 obtain⟨c,d,dt,sl⟩:=o;cases dt<;>first | rfl | exact h
section
variable {e dx:Addr}
theorem jgU (v:Value):Keep (DictAt e dx) (fieldsOf v):=by
  unfold fieldsOf;cases v with
  | ref a =>
    refine fun o=>?_;show Keep _ (match o.data with | .fields vs=>_ | _=>_);cases o.data<;>trivial
  | _=>trivial
theorem jcX (v:Value) (i:Nat):Keep (DictAt e dx) (field v i):=by
 refine Keep.bind (jgU v) fun vs=>?_;cases vs[i]?<;>trivial
theorem jca (v:Value) (i:Nat) (x:Value):Keep (DictAt e dx) (setField v i x):=by
  unfold setField;cases v with
  | ref a =>
    refine fun o=>?_;show Keep _ (match o.data with | .fields vs=>_ | _=>_);cases o.data with
    | fields vs =>
      show Keep _ (if i<vs.size then _ else _);split
      . exact⟨fun h z=>z.update (jiV _) (jiW _),trivial⟩
      . trivial
    | _=>trivial
  | _=>trivial
theorem jde (v:Value) (f:Option Addr):Keep (DictAt e dx) (setFlight v f):=by
 refine Keep.bind (jcX v 1) fun tb=>?_;split
 ·exact jca _ _ _
 ·trivial
theorem je8 (T:String) (vs:List Value):Keep (DictAt e dx) (newFields T vs):=by
 unfold newFields newObj;have k:Keep (DictAt e dx) (newObjAsIs (.type T) (.fields vs.toArray)):=⟨fun h z=>z.push,fun a=>trivial⟩;show Keep (DictAt e dx) (if vs.toArray.size>sizeLine+2 then _ else newObjAsIs (.type T) (.fields vs.toArray));split
 ·trivial
 ·exact k
theorem jiX (env:Env) (b:Bool) (l:List Env):Keep (DictAt e dx) (keptBack env b l):=by
  cases l with
  | nil =>
    show Keep (DictAt e dx) (if (env.scope.isGenerator||env.scope.isCoroutine)=true then _ else _);split
    . trivial
    . refine Keep.bind (t:=underTheClaimsCaller) ?_ fun c=>trivial
      exact fun l=>trivial
  | cons x r=>trivial
theorem jgV (env:Env) (l:List Env):Keep (DictAt e dx) (behindIsImport env l):=by
 unfold behindIsImport;split
 ·trivial
 ·split
  ·trivial
  ·exact Keep.bind (jcX _ _) fun _=>trivial
theorem jfg:∀l:List Env,Keep (DictAt e dx) (readyFrames l)
  | []=>trivial
  | env :: outer => by
    unfold readyFrames;cases env.frame with
    | none=>trivial
    | some f =>
      refine fun o=>?_;show Keep (DictAt e dx) (if (o.slots.getD 3 none).isSome=true then _ else _);split
      . trivial
      . refine Keep.bind (jgV _ _) fun b=>Keep.bind (jiX _ _ _) fun c=>⟨fun h z=>z.update (fun o=>rfl) (fun o ho=>?_),jfg outer⟩
        obtain⟨c',d',dt,sl⟩:=o;cases dt<;>first | rfl | exact ho
theorem jgn (env:Env):Keep (DictAt e dx) (PySem.frameOf env):=by
 unfold PySem.frameOf;refine Keep.bind (fun l=>trivial) fun l=>Keep.bind ?_ fun x=>?_
 ·unfold frameObject;cases l.dropWhile (·.frame != env.frame) with
  | nil=>trivial
  | cons x r=>exact Keep.bind (jfg _) fun _=>trivial
 ·cases x<;>trivial
theorem jh3 (f:Addr) (b:Bool):Keep (DictAt e dx) (entryPlaceOf f b):=by
 refine fun acts=>?_;show Keep _ (match acts.find? _ with | some (_,pos)=>_ | none=>_);split<;>trivial
theorem jgo (v:Value) (env:Env):Keep (DictAt e dx) (noteFrame v env):=by
  unfold noteFrame;cases env.frame with
  | none=>trivial
  | some f =>
    refine Keep.bind (jcX v 1) fun head=>?_;have last:Keep (DictAt e dx) (do setField v 1 (<- EntryCells.newEntry head (<- PySem.frameOf env) .none (rawInt f) .none (<- entryPlaceOf f (head != .none)))) :=
      Keep.bind (jgn env) fun a=>Keep.bind (jh3 _ _) fun pl=>Keep.bind (je8 _ _) fun b=>jca _ _ _
    show Keep (DictAt e dx) (if (head != Value.none)=true then _ else _);split
    . refine Keep.bind (jcX _ _) fun x=>?_
      split
      . trivial
      . exact Keep.bind (jca _ _ _) fun _=>last
    . exact last
theorem jea (env:Env) (v:Value):Keep (DictAt e dx) (leaving env v):=Keep.bind (jgo v env) fun _=>jde v none
end
def XOk (P:Program) (w:World):CXT:=fun outer H s E e s'=>∃(ea C:Addr) (a0:Value) (H':Hp) (B:Heap) (pd:Option Addr),e=.ref ea/\Heap.FlyingW B outer ea (.ref C) a0 s'.heap/\s'.os=s.os/\AllBare s'.gens /\
 Un (frs outer) [] H H' s.heap s'.heap/\HOk P w H' B/\(∀b o,s.heap.get? b=some o->H b=none->b∉frs outer->B.get? b=some o)/\(∀b o,s.heap.get? b=some o->b∉frs outer->∃o',B.get? b=some o')/\(∀dx,pd=some dx->DictAt ea dx s'.heap)/\E (.ref C) pd H'
structure Top1 (X:Cx):Prop where
 stk:X.stack=X.env::X.outer
 frm:X.env.frame=some X.env.locals
 ex:X.ex=[]
section
variable {X:Cx} {pins:List (Addr × Obj)} {σ:St} {H:Hp} {s:Shared}
theorem Top1.mem (T:Top1 X) {b:Addr}:b∈frs X.stack↔b=X.env.locals\/b∈X.fs:=by
 rw[T.stk];unfold frs;rw[xbq,T.frm];exact xam
theorem jky {E:XK} {E':Value->Shared->Prop} {e:Value} {s':Shared} (T:Top1 X) (I:Inv X pins σ H s) (h:XOk X.prog X.w X.stack H s E e s') :
    wpAny (model X.prog X.w) X.A (leaving X.env e) (fun _ s''=>XOk X.prog X.w X.outer X.H₀ X.s₀ E e s'') E' s':=by
  obtain⟨ea,C,a0,H',B,pd,rfl,fl,os,ba,un,hk,kb,tb,dk,q⟩:=h;have hfr:X.A.frames=some (X.env::X.outer):=by rw[<- T.stk];exact I.ok.frames
  have out:∀b o,X.s₀.heap.get? b=some o->b∉X.fs->b∉frs X.stack:=fun b o e hb hm=>by
    rcases T.mem.mp hm with z | z
    . exact absurd (xao (Heap.lt_size e) I.ok.above) (by rw[z];exact xbj _)
    . exact hb z
  have nx:∀b:Addr,b∉X.ex:=fun b z=>by rw[T.ex] at z;cases z
  have n0:∀b:Addr,b∉([]:List Addr):=fun b z=>nomatch z;have fl':=fl;rw[T.stk] at fl;have main:∀h',Heap.FlyingW B X.outer ea (.ref C) a0 h'->s'.heap.UpToSlots h'->(∀dx,pd=some dx->DictAt ea dx h')->XOk X.prog X.w X.outer X.H₀ X.s₀ E (.ref ea) { s' with heap:=h' }:=?_
  . cases pd with
    | none=>exact wpAny_leaves_onW hfr T.frm fl fun h' x1 x2=>main h' x1 x2 (fun _ z=>nomatch z)
    | some dx =>
      refine wpAny_mono (Keep.any (jea (e:=ea) (dx:=dx) X.env (.ref ea)) (dk dx rfl) (wpAny_leaves_onW hfr T.frm fl (Q:=fun _ s''=>∃h',s''={ s' with heap:=h' }/\Heap.FlyingW B X.outer ea (.ref C) a0 h'/\s'.heap.UpToSlots h') (E:=E') fun h' x1 x2=>⟨h',rfl,x1,x2⟩)) (fun _ s'' z=>?_) fun _ _ z=>z.1;obtain⟨⟨h',rfl,x1,x2⟩,z⟩:=z;exact main h' x1 x2 (fun dx' e=>by cases e;exact z)
  intro h' x1 x2 dk';have slot:∀b,b∈frs X.stack->∀o,s'.heap.get? b=some o->∃sl,h'.get? b=some { o with slots:=sl }:=fun b hb o e=>by
    obtain⟨_,o2,e2,nf⟩:=fl'.2.2.1.mem hb;rw[e] at e2;cases e2;exact x2 b o e nf
  refine⟨ea,C,a0,H',B,pd,rfl,x1,os.trans I.os,ba,⟨fun b o e n hb _=>?_,fun b o e n hb _=>?_,fun b o e n _=>?_,fun b o e _=>?_,fun b xs z=>un.tups b xs (I.base.tups b xs z),fun b o u z=>un.frzs b o u (I.base.frzs b o u z),fun b ps z=>?_⟩,hk,fun b o e n hb=>?_,fun b o e hb=>?_,dk',q⟩
  . exact x1.1 b o (kb b o (I.base.keep b o e n hb (nx b)) (I.base.free b o e n (nx b)) (out b o e hb))
  . obtain⟨sl,e1⟩:=I.base.slot b o e n hb (nx b)
    obtain⟨sl1,e2⟩:=un.slot b _ e1 (I.base.free b o e n (nx b)) (T.mem.mpr (.inr hb)) (n0 b);obtain⟨sl2,e3⟩:=slot b (T.mem.mpr (.inr hb)) _ e2;exact⟨sl2,e3⟩
  . obtain⟨o',e1⟩:=I.base.there b o e (nx b)
    exact un.free b o' e1 (I.base.free b o e n (nx b)) (n0 b)
  . obtain⟨o',e1⟩:=I.base.there b o e (nx b)
    by_cases hb:b∈frs X.stack
    . obtain⟨o2,e2⟩:=un.there b o' e1 (n0 b)
      obtain⟨sl,e3⟩:=slot b hb o2 e2;exact⟨_,e3⟩
    . obtain⟨o2,e2⟩:=tb b o' e1 hb
      exact⟨o2,x1.1 b o2 e2⟩
  . obtain⟨m1,z1⟩:=I.base.tbls b ps z
    obtain⟨m2,z2⟩:=un.tbls b _ z1;exact⟨m1++m2,by rw[z2,Array.append_assoc]⟩
  . exact kb b o (I.base.keep b o e n hb (nx b)) (I.base.free b o e n (nx b)) (out b o e hb)
  . obtain⟨o',e1⟩:=I.base.there b o e (nx b)
    exact tb b o' e1 (out b o e hb)
def XP (X:Cx) (pins:List (Addr × Obj)) (σ:St) (E:XK) (ex:Value) (s':Shared):Prop:=∃H1 s1,Inv X pins σ H1 s1/\XOk X.prog X.w X.stack H1 s1 E ex s'
abbrev TX:=St->Hp->VK->XK->Prop
def PX (X:Cx) (e:Expr) (t:TX):Prop :=
 ∀(pins:List (Addr × Obj)) (s:Shared) (σ:St) (H:Hp) (Q:VK) (E:XK),Inv X pins σ H s->t σ H Q E->wpAny (model X.prog X.w) X.A (eval e X.env) (EP X pins σ Q) (XP X pins σ E) s
theorem jmt {k:Nat} {f:Addr} {fd:FuncData} {ps:List Str} {sp:Sp} {dvs:List V} {ds:List Value} {x:Str} {p pos:Pos} {e:Expr} {es:List Expr} {t:TA}
    (F:FnOk X.prog X.w X.K X.mg X.base (XOk X.prog X.w) k f fd ps sp) (hr:Room k X.A) (hg:Gl X x) (hm:X.mg x=some (.ref f)) (hk:PySem.W.keepIn X.K (.ref f)=true) (hb:Binds X.K fd ps ds) (hd:Vals dvs ds)
    (ha:PA X.nox (e::es) t) (hdb:(x==("__debug__":Str))=false:=by decide) (he:starEach (e::es) X.env=(false,eval e X.env)::starEach es X.env:=by rfl) (hpl:(backTo pos (starEach es X.env)).any (·.1)=false:=by rfl) :
    PX X (.Call (.Name x p) (e::es) [] pos) (fun σ H Q E=>t σ H fun vs H1=>sp (vs++dvs) H1 Q E):=by
  intro pins s σ H Q E I h;refine wpAny_Call_Name_kw (jer I hg hm ?_ hdb);refine PySem.W.callWith_K (h₀:=X.base) I.ok.mod.kin hk (wpAny_mono (ha pos pins s σ H _ (I.wish _) h) (fun us s1 ⟨vs,H1,I1',r,q⟩=>?_) fun _ _ z=>z.elim) he hpl;have I1:Inv X pins σ H1 s1:=I1'.unwish;refine⟨I1.kIn,?_⟩;have r2:Vals (vs++dvs) (us++ds):=r.append hd;have hl:(us++ds).length=ps.length:=by rw[<- r2.length];exact F.len _ _ _ _ q
  refine wpAny_call (codeAny_mono (F.run X.A X.stack s1 H1 ⟨us,[]⟩ (us++ds) (vs++dvs) Q E hr I1.env0 (hb s1 us I1.kIn hl) r2 q) fun r s' hq=>?_);cases r with
  | error e=>exact⟨H1,s1,I1,hq⟩
  | ok fl =>
    cases fl with
    | ret u=>exact I1.after hq
    | next=>exact False.elim hq
    | brk=>exact False.elim hq
    | cont=>exact False.elim hq
abbrev TSX:=Ends->(St->XK)->St->Hp->Prop
def PSX (X:Cx) (st:List Stmt) (t:TSX):Prop :=
 ∀(pins:List (Addr × Obj)) (s:Shared) (σ:St) (H:Hp) (D:Ends) (E:St->XK),Inv X pins σ H s->t D E σ H->wpAny (model X.prog X.w) X.A (execs st X.env) (SP X pins D) (fun ex s'=>∃σ1,XP X pins σ1 (E σ1) ex s') s
def Cx.caught (X:Cx) (e:Value):Cx:={ X with A:=X.A.mark (some e),calm:=false,xe:=fun _ _=>False }
theorem Inv.caught (I:Inv X pins σ H s) (e:Value) (hfr:(X.A.mark (some e)).frames=X.A.frames:=by rfl):Inv (X.caught e) pins σ H s :=
 ⟨⟨I.ok.mod,I.ok.kind,I.ok.glob,I.ok.blt,I.ok.above,I.ok.inj,I.ok.has,I.ok.cab,(fun z=>nomatch z),hfr.trans I.ok.frames,I.ok.stk,I.ok.exf,I.ok.bs,I.ok.bsz,I.ok.noex,I.ok.exfs,I.ok.funs,I.ok.frf⟩,I.os,I.bare,I.base,I.loc,I.cell,I.free,I.freeC,I.pin,I.hok,I.len⟩
theorem Inv.uncaught {e:Value} (ok:X.Ok) (I:Inv (X.caught e) pins σ H s):Inv X pins σ H s:=⟨ok,I.os,I.bare,I.base,I.loc,I.cell,I.free,I.freeC,I.pin,I.hok,I.len⟩
theorem SP.uncaught {e:Value} {D:Ends} {f:Flow} {s':Shared} (ok:X.Ok) (h:SP (X.caught e) pins D f s'):SP X pins D f s':=by
 cases f with
 | next=>obtain⟨a,b,I,q⟩:=h;exact⟨a,b,I.uncaught ok,q⟩
 | brk=>obtain⟨a,b,I,q⟩:=h;exact⟨a,b,I.uncaught ok,q⟩
 | cont=>obtain⟨a,b,I,q⟩:=h;exact⟨a,b,I.uncaught ok,q⟩
 | ret u=>obtain⟨v,a,b,I,r,q⟩:=h;exact⟨v,a,b,I.uncaught ok,r,q⟩
theorem Inv.landed {s':Shared} {H':Hp} {B h5:Heap} (T:Top1 X) (I:Inv X pins σ H s) (os:s'.os=s.os) (ba:AllBare s'.gens) (un:Un (frs X.stack) [] H H' s.heap s'.heap) (hk:HOk X.prog X.w H' B)
  (kb:∀b o,s.heap.get? b=some o->H b=none->b∉frs X.stack->B.get? b=some o) (tb:∀b o,s.heap.get? b=some o->b∉frs X.stack->∃o',B.get? b=some o')
  (st:B.StaysIn h5) (sm:s'.heap.UpToSlots h5) (ff:s'.heap.FunFrames B X.stack):Inv X pins σ H' { s' with heap:=h5 }:=by
 have n0:∀b:Addr,b∉([]:List Addr):=fun b z=>nomatch z;have slot:∀b,b∈frs X.stack->∀o,s'.heap.get? b=some o->∃sl,h5.get? b=some { o with slots:=sl }:=fun b hb o e=>by
  obtain⟨_,o2,e2,nf⟩:=ff.mem hb;rw[e] at e2;cases e2;exact sm b o e nf
 refine I.call' (s':={ s' with heap:=h5 }) (ch:=[]) os ⟨fun b o e n hb _=>st b o (kb b o e n hb),fun b o e n hb _=>?_,fun b o e n _=>un.free b o e n (n0 b),fun b o e _=>?_,un.tups,un.frzs,un.tbls⟩ (hk.kept st) ba fun b hb=>nomatch hb
 ·obtain⟨sl,e1⟩:=un.slot b o e n hb (n0 b);obtain⟨sl2,e2⟩:=slot b hb _ e1;exact⟨sl2,e2⟩
 ·by_cases hb:b∈frs X.stack
  ·obtain⟨o1,e1⟩:=un.there b o e (n0 b);obtain⟨sl,e2⟩:=slot b hb o1 e1;exact⟨_,e2⟩
  ·obtain⟨o1,e1⟩:=tb b o e hb;exact⟨o1,st b o1 e1⟩
end
section
variable {P:Program} {w:World} {K:PySem.W.Frag} {mg:Str->Option Value} {base:Heap}
abbrev cxX (P:Program) (w:World) (K:PySem.W.Frag) (mg:Str->Option Value) (base:Heap) (N:List Str) (qual:Str) (scope:Scope) (f:Addr) (cd:Value) (A:Around) (outer:List Env) (s:Shared) (H:Hp) (E:XK):Cx:=jhr (XOk P w) P w K mg base N qual scope f cd A outer s H E
theorem jgW {N:List Str} {qual:Str} {scope:Scope} {f:Addr} {cd:Value} {A:Around} {outer:List Env} {s:Shared} {H:Hp} {E:XK} {CX:CXT}:Top1 (jhr CX P w K mg base N qual scope f cd A outer s H E):=⟨rfl,rfl,rfl⟩
theorem jmu {X:Cx} (T:Top1 X):Top1 X.nox:=⟨T.stk,T.frm,T.ex⟩
theorem jh4 {N:List Str} {qual:Str} {scope:Scope} {f:Addr} {cd:Value} {A:Around} {outer:List Env} {s:Shared} {H:Hp} {E:XK}:jfe (XOk P w) (cxX P w K mg base N qual scope f cd A outer s H E) E :=
 fun pins σ H1 s1 e s' I h=>jky (E':=fun e' s''=>XOk P w outer H s E e' s'') jgW I h
structure FunD (K:PySem.W.Frag) (x qual:Str) (st:Stmt) (f:Addr) (fd:FuncData) (dV:Value):Prop where
 ex:∃(oc:Value) (od:Option Addr) (kV doc pm:Value) (an:Option Addr) (cdv ct:Value) (osl:Array (Option Value)),
  fd=PySem.W.fnOf x qual (jbj st) (jaS st) (jai st) dV kV doc pm an cdv ct/\K.lookup f=some ⟨oc,od,.func fd,osl⟩/\PySem.W.codeIn K cdv qual=true
 kp:PySem.W.keepIn K (.ref f)=true
theorem FunD.okX {x qual:Str} {st:Stmt} {f:Addr} {fd:FuncData} {dV:Value} {N ps:List Str} {k:Nat} {sp:Sp} (F:FunD K x qual st f fd dV) (S:FnScope N ps (jai st)) (len:∀vs H Q E,sp vs H Q E->vs.length=ps.length)
  (hbody:∀(cdv:Value) (A:Around) (outer:List Env) (s:Shared) (H:Hp) (vs:List V) (Q:VK) (E:XK),Room k (A.deeper (envOfC qual (jai st) s.heap.objs.size f cdv))->sp vs H Q E ->
   ∃t,PSs (cxX P w K mg base N qual (jai st) f cdv A outer s H E) (jaS st) t/\t { nx:=fun _ H'=>Q .non H',rt:=Q } (start N vs) H):FnOk P w K mg base (XOk P w) (k+1) f fd ps sp:=by
 obtain⟨oc,od,kV,doc,pm,an,cdv,ct,osl,rfl,lk,hcd⟩:=F.ex;exact jn1 lk hcd S len fun A outer s H vs Q E hr hsp=>hbody cdv A outer s H vs Q E hr hsp
theorem FunD.ok {x qual:Str} {st:Stmt} {f:Addr} {fd:FuncData} {dV:Value} {N ps:List Str} {k:Nat} {sp:Sp} (F:FunD K x qual st f fd dV) (S:FnScope N ps (jai st)) (len:∀vs H Q E,sp vs H Q E->vs.length=ps.length)
  (hbody:∀(cdv:Value) (A:Around) (outer:List Env) (s:Shared) (H:Hp) (vs:List V) (Q:VK) (E:XK),Room k (A.deeper (envOfC qual (jai st) s.heap.objs.size f cdv))->sp vs H Q E ->
   ∃t,PSs (jhr CX0 P w K mg base N qual (jai st) f cdv A outer s H E).nox (jaS st) t/\t { nx:=fun _ H'=>Q .non H',rt:=Q } (start N vs) H):FnOk P w K mg base CX0 (k+1) f fd ps sp:=by
 obtain⟨oc,od,kV,doc,pm,an,cdv,ct,osl,rfl,lk,hcd⟩:=F.ex;refine jn1 lk hcd S len fun A outer s H vs Q E hr hsp=>?_;obtain⟨t,h,q⟩:=hbody cdv A outer s H vs Q E hr hsp;exact⟨t,h.nox,q⟩
theorem jfE {x qual:Str} {st:Stmt} {f:Addr} {oc dV:Value} {od an:Option Addr} {osl:Array (Option Value)} {kV doc pm cdv ct:Value} (l:K.lookup f=some ⟨oc,od,.func (PySem.W.fnOf x qual (jbj st) (jaS st) (jai st) dV kV doc pm an cdv ct),osl⟩)
  (c:PySem.W.codeIn K cdv qual=true) (k:PySem.W.keepIn K (.ref f)=true):FunD K x qual st f (PySem.W.fnOf x qual (jbj st) (jaS st) (jai st) dV kV doc pm an cdv ct) dV:=⟨⟨oc,od,kV,doc,pm,an,cdv,ct,osl,rfl,l,c⟩,k⟩
end
def At (K:PySem.W.Frag) (mg:Str->Option Value) (x:Str) (st:Stmt) (ps:List Str) (dvs:List V):Prop :=
 ∃f fd dV ds,FunD K x x st f fd dV/\mg x=some (.ref f)/\Binds K fd ps ds/\Vals dvs ds
def jal (P:Program) (w:World) (K:PySem.W.Frag) (mg:Str->Option Value) (base:Heap) (CX:CXT) (k:Nat) (x:Str) (ps:List Str) (dvs:List V) (sp:Sp):Prop :=
 ∃f fd ds,FnOk P w K mg base CX k f fd ps sp/\mg x=some (.ref f)/\PySem.W.keepIn K (.ref f)=true/\Binds K fd ps ds/\Vals dvs ds
section
variable {P:Program} {w:World} {K:PySem.W.Frag} {mg:Str->Option Value} {base:Heap}
theorem At.ok {x:Str} {st:Stmt} {N ps:List Str} {dvs:List V} {k:Nat} {sp:Sp} (F:At K mg x st ps dvs) (S:FnScope N ps (jai st)) (len:∀vs H Q E,sp vs H Q E->vs.length=ps.length)
  (hbody:∀(f:Addr) (cdv:Value) (A:Around) (outer:List Env) (s:Shared) (H:Hp) (vs:List V) (Q:VK) (E:XK),Room k (A.deeper (envOfC x (jai st) s.heap.objs.size f cdv))->sp vs H Q E ->
   ∃t,PSs (jhr CX0 P w K mg base N x (jai st) f cdv A outer s H E).nox (jaS st) t/\t { nx:=fun _ H'=>Q .non H',rt:=Q } (start N vs) H):jal P w K mg base CX0 (k+1) x ps dvs sp:=by
 obtain⟨f,fd,dV,ds,F1,hm,hb,hd⟩:=F;exact⟨f,fd,ds,F1.ok S len (hbody f),hm,F1.kp,hb,hd⟩
theorem At.okX {x:Str} {st:Stmt} {N ps:List Str} {dvs:List V} {k:Nat} {sp:Sp} (F:At K mg x st ps dvs) (S:FnScope N ps (jai st)) (len:∀vs H Q E,sp vs H Q E->vs.length=ps.length)
  (hbody:∀(f:Addr) (cdv:Value) (A:Around) (outer:List Env) (s:Shared) (H:Hp) (vs:List V) (Q:VK) (E:XK),Room k (A.deeper (envOfC x (jai st) s.heap.objs.size f cdv))->sp vs H Q E ->
   ∃t,PSs (cxX P w K mg base N x (jai st) f cdv A outer s H E) (jaS st) t/\t { nx:=fun _ H'=>Q .non H',rt:=Q } (start N vs) H):jal P w K mg base (XOk P w) (k+1) x ps dvs sp:=by
 obtain⟨f,fd,dV,ds,F1,hm,hb,hd⟩:=F;exact⟨f,fd,ds,F1.okX S len (hbody f),hm,F1.kp,hb,hd⟩
end
section
variable {X:Cx} {CX:CXT} {k:Nat} {ps:List Str} {sp:Sp} {dvs:List V} {E:XK} {x:Str} {p pos:Pos} {e:Expr} {es:List Expr} {t:TA}
theorem jae (D:jal X.prog X.w X.K X.mg X.base CX k x ps dvs sp) (hr:Room k X.A) (hg:Gl X x) (hx:jfe CX X E) (ha:PA X (e::es) t) (hdb:(x==("__debug__":Str))=false:=by decide)
  (he:starEach (e::es) X.env=(false,eval e X.env)::starEach es X.env:=by rfl) (hpl:(backTo pos (starEach es X.env)).any (·.1)=false:=by rfl):PE X (.Call (.Name x p) (e::es) [] pos) (jew sp dvs E t):=by
 obtain⟨f,fd,ds,F,hm,hk,hb,hd⟩:=D;exact jmp F hr hg hm hk hb hd hx ha hdb he hpl
theorem jkz (D:jal X.prog X.w X.K X.mg X.base (XOk X.prog X.w) k x ps dvs sp) (hr:Room k X.A) (hg:Gl X x) (ha:PA X.nox (e::es) t) (hdb:(x==("__debug__":Str))=false:=by decide)
  (he:starEach (e::es) X.env=(false,eval e X.env)::starEach es X.env:=by rfl) (hpl:(backTo pos (starEach es X.env)).any (·.1)=false:=by rfl):PX X (.Call (.Name x p) (e::es) [] pos) (fun σ H Q E=>t σ H fun vs H1=>sp (vs++dvs) H1 Q E):=by
 obtain⟨f,fd,ds,F,hm,hk,hb,hd⟩:=D;exact jmt F hr hg hm hk hb hd ha hdb he hpl
theorem ix_lt:IxR X (fun x y H Q=>jnI X.K x y H Q\/jnJ X.K x y H Q):=ix_list.or jao
theorem jmv:MtR X "int.bit_length" (fun x xs H Q=>∃i,x=.int i/\xs=[]/\Q (.int (Builtin.Int.intBits i:Nat)) H):=by
 intro pins s σ H x xs v us Q I rx rv h;obtain⟨i,rfl,rfl,q⟩:=h;obtain⟨t,rfl⟩:=rx;cases rv;refine wpAny_call (codeAny_call_builtin F.slot_int_bit_length.plain F.entry_int_bit_length (F.slot_int_bit_length.check _ _ _ _ _ _ _ _ (typeIs_int s i t) (F.args_int_bit_length_1 _) (AutoIntG2.int_bit_length_int_0 i t _ _ _ (wants _ _) s ?_)));exact⟨.int _,H,I.tok _,⟨_,rfl⟩,q⟩
end
theorem jki {k:Nat} {A:Around} (hr:Room k A):A.units+64<cLine:=hr.units
theorem Same.tup {K:PySem.W.Frag} {H H':Hp} {a:Addr} {xs:List V} (e:Same H H') (h:SqT K H a xs):SqT K H' a xs:=by
 rcases h with (h | ⟨o,h⟩) | h
 ·exact .inl (.inl (e _ _ h))
 ·exact .inl (.inr ⟨o,e _ _ h⟩)
 ·exact .inr h
theorem Same.new {H:Hp} {p:Addr} (h:H p=none) (o:HO):Same H (upd H p o):=fun b u q=>by rw[jaw (jaD q h)];exact q
theorem at_mk {K:PySem.W.Frag} {h:Heap} {mg:Str->Option Value} {x:Str} {st:Stmt} {ps:List Str} {f:Addr} {oc kV doc pm cdv ct:Value} {od an:Option Addr} {osl:Array (Option Value)} (X:K.In h) (G:h.Ns mainGlobals mg)
  (hb:∀(kV doc pm:Value) (an:Option Addr) (cdv ct:Value) (us:List Value),us.length=ps.length->bindArgs (PySem.W.fnOf x x (jbj st) (jaS st) (jai st) .none kV doc pm an cdv ct) ⟨us,[]⟩=pure (ps.zip us))
  (a:PySem.W.nsIn K mainGlobals x=some (some (.ref f))) (l:K.lookup f=some ⟨oc,od,.func (PySem.W.fnOf x x (jbj st) (jaS st) (jai st) .none kV doc pm an cdv ct),osl⟩) (c:PySem.W.codeIn K cdv x=true) (k:PySem.W.keepIn K (.ref f)=true) :
  At K mg x st ps []:=⟨f,_,.none,[],jfE l c k,PySem.W.mg_of X G a,.all (hb kV doc pm an cdv ct),.nil⟩
theorem jlx {K:PySem.W.Frag} {h:Heap} {mg:Str->Option Value} {x:Str} {st:Stmt} {ps:List Str} {f D:Addr} {oc kV doc pm cdv ct:Value} {od an:Option Addr} {osl:Array (Option Value)} {oD:Obj} {items:Array Value} {n:Nat} {dvs:List V} {ds:List Value} (X:K.In h) (G:h.Ns mainGlobals mg)
  (hb:∀(kV doc pm:Value) (an:Option Addr) (cdv ct:Value) (us:List Value),(us++ds).length=ps.length->∃kk,bindArgs (PySem.W.fnOf x x (jbj st) (jaS st) (jai st) (.ref D) kV doc pm an cdv ct) ⟨us,[]⟩=(seqItems? (.ref D) >>= kk)/\kk (some items)=pure (ps.zip (us++ds)))
  (a:PySem.W.nsIn K mainGlobals x=some (some (.ref f))) (l:K.lookup f=some ⟨oc,od,.func (PySem.W.fnOf x x (jbj st) (jaS st) (jai st) (.ref D) kV doc pm an cdv ct),osl⟩) (c:PySem.W.codeIn K cdv x=true) (k:PySem.W.keepIn K (.ref f)=true)
  (lD:K.lookup D=some oD) (hD:oD.data=.seq items n) (hv:Vals dvs ds):At K mg x st ps dvs :=
 ⟨f,_,.ref D,ds,jfE l c k,PySem.W.mg_of X G a,fun s us KX hl=>by
  obtain⟨kk,h1,h2⟩:=hb kV doc pm an cdv ct us hl;exact BindsTo.of_defaults rfl (KX _ _ lD) hD h1 h2,hv⟩
section
variable {X:Cx} {st:Stmt} {rest:List Stmt} {t u:TS}
def Rest (M:St->Hp->Prop) (u:TS) (D:Ends):Prop:=∀σ' H',M σ' H'->u D σ' H'
def jn6 (M:St->Hp->Prop) (t u:TS):TS:=fun D σ H=>t { D with nx:=M } σ H/\Rest M u D
theorem jeD (M:St->Hp->Prop) (h1:PS X st t) (h2:PSs X rest u):PSs X (st::rest) (jn6 M t u):=by
  intro pins s σ H D I h;refine wpAny_execs_cons (thn (h1 pins s σ H { D with nx:=M } I h.1) fun f s1 q=>?_);cases f with
  | next =>
    obtain⟨σ',H',I',q⟩:=q;exact h2 pins s1 σ' H' D I' (h.2 σ' H' q)
  | ret v=>exact q
  | brk=>exact q
  | cont=>exact q
end
def Bd (n:Nat) (i:Int):Prop:=i.natAbs<2^n
theorem Bd.mul {n m:Nat} {i j:Int} (hi:Bd n i) (hj:Bd m j):Bd (n+m) (i*j):=by
 unfold Bd at *
 rw[Int.natAbs_mul,Nat.pow_add];exact Nat.mul_lt_mul_of_lt_of_le hi (xa2 hj) (Nat.two_pow_pos m)
theorem Bd.mono {n m:Nat} {i:Int} (hi:Bd n i) (h:n<=m:=by decide):Bd m i:=xao hi (xcb (by decide) h)
theorem Bd.add {n:Nat} {i j:Int} (hi:Bd n i) (hj:Bd n j):Bd (n+1) (i+j):=by
 unfold Bd at *
 rw[Nat.pow_succ];have:=Int.natAbs_add_le i j;omega
theorem Bd.sub {n:Nat} {i j:Int} (hi:Bd n i) (hj:Bd n j):Bd (n+1) (i-j):=by
 unfold Bd at *
 rw[Nat.pow_succ];have:=Int.natAbs_sub_le i j;omega
theorem Bd.neg {n:Nat} {i:Int} (hi:Bd n i):Bd n (-i):=by unfold Bd at *;rw[xbI];exact hi
theorem Bd.fit {n:Nat} {i:Int} (hi:Bd n i) (h:n<=8000:=by decide):Fit i:=xao hi (xcb (by decide) h)
theorem Bd.of {i:Int} (h1:-1606938044258990275541962092341162602522202993782792835301376<i) (h2:i<1606938044258990275541962092341162602522202993782792835301376):Bd 200 i:=by
 unfold Bd;have e:(2^200:Nat)=1606938044258990275541962092341162602522202993782792835301376:=by decide
 rw[e];omega
theorem Fit.o {i:Int} (h1:-1606938044258990275541962092341162602522202993782792835301376<i) (h2:i<1606938044258990275541962092341162602522202993782792835301376):Fit i:=(Bd.of h1 h2).fit
def gk {α:Type} (n m:Nat) (us ws:List α):List α:=if us.length=n/\ws.length=m then us++ws else []
def AtK (K:PySem.W.Frag) (mg:Str->Option Value) (x:Str) (st:Stmt) (ps ks:List Str) (n m:Nat):Prop :=
 ∃f fd dV,FunD K x x st f fd dV/\mg x=some (.ref f)/\KBinds K fd ps ks (gk n m) (gk n m)
def jn7 (P:Program) (w:World) (K:PySem.W.Frag) (mg:Str->Option Value) (base:Heap) (CX:CXT) (k:Nat) (x:Str) (ps ks:List Str) (n m:Nat) (sp:Sp):Prop :=
 ∃f fd,FnOk P w K mg base CX k f fd ps sp/\mg x=some (.ref f)/\PySem.W.keepIn K (.ref f)=true/\KBinds K fd ps ks (gk n m) (gk n m)
section
variable {P:Program} {w:World} {K:PySem.W.Frag} {mg:Str->Option Value} {base:Heap}
theorem AtK.okX {x:Str} {st:Stmt} {N ps ks:List Str} {n m k:Nat} {sp:Sp} (F:AtK K mg x st ps ks n m) (S:FnScope N ps (jai st)) (len:∀vs H Q E,sp vs H Q E->vs.length=ps.length)
  (hbody:∀(f:Addr) (cdv:Value) (A:Around) (outer:List Env) (s:Shared) (H:Hp) (vs:List V) (Q:VK) (E:XK),Room k (A.deeper (envOfC x (jai st) s.heap.objs.size f cdv))->sp vs H Q E ->
   ∃t,PSs (cxX P w K mg base N x (jai st) f cdv A outer s H E) (jaS st) t/\t { nx:=fun _ H'=>Q .non H',rt:=Q } (start N vs) H):jn7 P w K mg base (XOk P w) (k+1) x ps ks n m sp:=by
 obtain⟨f,fd,dV,F1,hm,hb⟩:=F;exact⟨f,fd,F1.okX S len (hbody f),hm,F1.kp,hb⟩
end
theorem jaZ {X:Cx} {K:PySem.W.Frag} (h:X.K=K):IxR X (jnJ K):=h▸jao
theorem jcY {X:Cx} {K:PySem.W.Frag} (h:X.K=K):IxR X (jnI K):=h▸ix_list
theorem jgp {X:Cx} (hc:X.calm=true):CallR X (.builtin "max") (fun xs H Q=>∃(a:Addr) (ns:List Int),xs=[.ref a]/\SqL X.K H a (ns.map V.int)/\ns≠[]/\∀m:Int,m∈ns->(∀n∈ns,n<=m)->Q (.int m) H):=by
 intro pins s σ H xs us Q I r h;obtain⟨a,ns,rfl,hq,hne,q⟩:=h;obtain⟨u,rfl,rx⟩:=jfB r;cases rx;obtain⟨its,rv,pl,hz⟩:=I.list hq;have ha:=jbD rv;have hall:AllInts its.toArray:=ha.allInts;have hn:numsOf its=ns:=ha.numsOf;obtain⟨ps,e⟩:=hall.items;have hl:s.heap.IsList a (intItems ps):=by rw[<- e];exact pl.isList
 have en:ns=ps.toList.map (·.1):=by
  have z:=nums_intItems ps;rw[<- e] at z;rw[<- hn];exact z
 have hlen:ns.length=ps.size:=by rw[en,xaa,Array.length_toList]
 have hpos:0<ps.size:=by
  rw[<- hlen];exact xcg.mpr hne
 refine max_intList (I.ok.hd hc) hl hpos fun v h' tk hv hk=>?_;obtain⟨t,rfl⟩:=intItems_at hv;obtain⟨b1,b2⟩:=argBest_gt (numAt ps) (ps.size-1);have pick:∀i,i<ps.size->numAt ps i∈ns:=fun i hi=>by
  rw[en];refine xah.mpr ⟨ps[i],by simp,?_⟩;simp [numAt,hi]
 refine⟨.int _,H,I.kept hk,⟨_,rfl⟩,q _ (pick _ (by omega)) fun n hm=>?_⟩;rw[en] at hm;obtain⟨p,hp,rfl⟩:=xah.mp hm;obtain⟨i,hi,rfl⟩:=Array.mem_iff_getElem.mp (Array.mem_toList_iff.mp hp);have z:=b2 i (by omega);have ei:numAt ps i=ps[i].1:=by simp [numAt,hi]
 rw[ei] at z;exact z
end L2
namespace L2
open PySem
theorem ixT {K:PySem.W.Frag} {H:Hp} {r:Addr} {xs:List V} {i:Int} {v:V} {Q:VK} (k:SqT K H r xs) (e:atI xs i=some v) (q:Q v H):jnJ K (.ref r) (.int i) H Q:=⟨r,xs,i,v,rfl,rfl,k,e,q⟩
theorem ixL {K:PySem.W.Frag} {H:Hp} {r:Addr} {xs:List V} {i:Int} {v:V} {Q:VK} (k:SqL K H r xs) (e:atI xs i=some v) (q:Q v H):jnI K (.ref r) (.int i) H Q:=⟨r,xs,i,v,rfl,rfl,k,e,q⟩
def jkA (J:It) (g:TG) (tb:TS) (D:Ends) (σ:St) (H1:Hp):Prop:=∃W:Nat->Nat->St->Hp->Prop,(∃m,W 0 m σ H1)/\∀i m σ H,W i m σ H ->
 (J.stop i H/\D.nx σ H)\/(J.go i H/\∃N:St->Hp->Prop,(∀σ' H',N σ' H'->∃m',m'<m/\W (i+1) m' σ' H')/\∀x H',J.yld i H x H'->g x σ H' fun σ2 H2=>tb { D with nx:=N,ct:=N,bk:=D.nx } σ2 H2)
section
variable {K:PySem.W.Frag} {ta:TA} {tl:TE} {g:TG} {tb:TS} {D:Ends} {σ:St} {H:Hp} {ix:List Nat} {tt:TT} {te:TE} {Q:VK}
theorem jiY:jlo (jmh ta) g tb D σ H=ta σ H fun vs H1=>∃j:Int,vs=[.int j]/\-(2^62)<=j/\j<2^62/\jkA (Itr 0 j.toNat) g tb D σ H1:=rfl
theorem jiZ:jlo (jmi ta) g tb D σ H=ta σ H fun vs H1=>∃i j:Int,vs=[.int i,.int j]/\(-(2^62)<=i/\i<2^62/\-(2^62)<=j/\j<2^62)/\jkA (Itr i (j-i).toNat) g tb D σ H1:=rfl
theorem jly:jlo (jkq K tl) g tb D σ H=tl σ H fun x H1=>∃a,x=.ref a/\(∃xs,SqL K H1 a xs)/\jkA (Itl K a) g tb D σ H1:=rfl
theorem jlz:jlo (iTup K tl) g tb D σ H=tl σ H fun x H1=>∃a,x=.ref a/\(∃xs,SqT K H1 a xs)/\jkA (Itt K a) g tb D σ H1:=rfl
theorem jhu:jgl (jmh ta) ix g tt te σ H Q=ta σ H fun vs H1=>∃j:Int,vs=[.int j]/\-(2^62)<=j/\j<2^62/\∀acc,H1 acc=none->CompGo (Itr 0 j.toNat) (jaJ σ ix) g tt te acc (fun H'=>Q (.ref acc) H') H1:=rfl
theorem jhv:jgl (jmi ta) ix g tt te σ H Q=ta σ H fun vs H1=>∃i j:Int,vs=[.int i,.int j]/\(-(2^62)<=i/\i<2^62/\-(2^62)<=j/\j<2^62)/\∀acc,H1 acc=none->CompGo (Itr i (j-i).toNat) (jaJ σ ix) g tt te acc (fun H'=>Q (.ref acc) H') H1:=rfl
theorem ji0:jgl (jkq K tl) ix g tt te σ H Q=tl σ H fun x H1=>∃a,x=.ref a/\(∃xs,SqL K H1 a xs)/\∀acc,H1 acc=none->CompGo (Itl K a) (jaJ σ ix) g tt te acc (fun H'=>Q (.ref acc) H') H1:=rfl
theorem ji1:jgl (iTup K tl) ix g tt te σ H Q=tl σ H fun x H1=>∃a,x=.ref a/\(∃xs,SqT K H1 a xs)/\∀acc,H1 acc=none->CompGo (Itt K a) (jaJ σ ix) g tt te acc (fun H'=>Q (.ref acc) H') H1:=rfl
theorem FoR.lst {P:Prop} {a:Addr} {xs:List V} (k:SqL K H a xs) (h:P):(∃xs,SqL K H a xs)/\P:=⟨⟨xs,k⟩,h⟩
theorem FoR.tup {P:Prop} {a:Addr} {xs:List V} (k:SqT K H a xs) (h:P):(∃xs,SqT K H a xs)/\P:=⟨⟨xs,k⟩,h⟩
theorem FoR.len {P:List V->Prop} {a:Addr} {xs:List V} (k:SqL K H a xs) (h:P xs):∃x,(SqL K H a x\/SqT K H a x)/\P x:=⟨xs,.inl k,h⟩
theorem FoR.lenT {P:List V->Prop} {a:Addr} {xs:List V} (k:SqT K H a xs) (h:P xs):∃x,(SqL K H a x\/SqT K H a x)/\P x:=⟨xs,.inr k,h⟩
end
end L2
namespace L2
open PySem PySem.Spec PyProof.Rows
theorem Same.keepN {H H':Hp} {p:Addr} (h:Same H H') (n:H p=none) (o:HO):Same H (upd H' p o):=fun b u q=>by rw[jaw (jaD q n)];exact h b u q
theorem Same.noneN {H H':Hp} {p:Addr} (h:Same H H') (n:H' p=none):H p=none:=by
  cases e:H p with
  | none=>rfl
  | some o =>
    have z:=h _ _ e;rw[n] at z;cases z
theorem jaM {n:Nat} (h:n<1000):n<sizeLine:=xao h (by decide)
section
variable {ρ:St} {te:TE} {tt:TT} {acc:Addr} {Z:Hp->Prop} {H1:Hp}
theorem jh5 {lo:Int} {n:Nat} (f:Nat->V) (hn:n<1000) (hacc:H1 acc=none)
  (hs:∀(i:Nat) (H3:Hp) (R:V->Hp->Prop),i<n->Same H1 H3->(∀H4,Same H3 H4->R (f i) H4)->te (some (.int (lo+i))::ρ) H3 R)
  (hd:∀H',Same H1 H'->H' acc=some (.lst ((List.range n).map f))->Z H'):CompGo (Itr lo n) ρ (jbB 0) jcx te acc Z H1:=by
 refine jdP (fun i xs H=>Same H1 H/\H acc=some (.lst xs)/\xs=(List.range i).map f) ⟨Same.new hacc _,jak,rfl⟩ ?_ ?_
 ·rintro i xs H hi ⟨g1,g2,rfl⟩;refine hs i H _ hi g1 fun H4 s4=>⟨s4 _ _ g2,jaM ?_,Same.keepN (g1.trans s4) hacc _,jak,?_⟩
  ·rw[xaa,xba];omega
  ·rw[xaQ,xap];rfl
 ·rintro xs H ⟨g1,g2,rfl⟩;exact hd H g1 g2
theorem ji2 {lo:Int} {n:Nat} (f:Nat->V) (c:Nat->Bool) (hn:n<1000) (hacc:H1 acc=none)
  (ht:∀(i:Nat) (H3:Hp) (R:Bool->Hp->Prop),i<n->Same H1 H3->(∀H4,Same H3 H4->R (c i) H4)->tt (some (.int (lo+i))::ρ) H3 R)
  (hs:∀(i:Nat) (H3:Hp) (R:V->Hp->Prop),i<n->c i=true->Same H1 H3->(∀H4,Same H3 H4->R (f i) H4)->te (some (.int (lo+i))::ρ) H3 R)
  (hd:∀H',Same H1 H'->H' acc=some (.lst (((List.range n).filter c).map f))->Z H'):CompGo (Itr lo n) ρ (jbB 0) tt te acc Z H1:=by
 refine⟨fun i m xs H=>(Same H1 H/\H acc=some (.lst xs)/\xs=((List.range i).filter c).map f)/\i<=n/\m=n-i,⟨n,⟨Same.new hacc _,jak,rfl⟩,xaY _,rfl⟩,?_⟩;rintro i m xs H ⟨⟨g1,g2,rfl⟩,hi,rfl⟩;have hl:(((List.range i).filter c).map f).length<sizeLine:=jaM (by
  rw[xaa];have:=xb6 c (List.range i);rw[xba] at this;omega)
 by_cases hlt:i<n
 ·refine .inr ⟨hlt,(fun y H4=>y=f i/\c i=true/\Same H1 H4/\H4 acc=some (.lst (((List.range i).filter c).map f))),fun H3=>c i=false/\Same H1 H3/\H3 acc=some (.lst (((List.range i).filter c).map f)),?_,?_,?_⟩
  ·rintro y H4 ⟨rfl,ci,s4,a4⟩;refine⟨a4,hl,n-(i+1),by omega,⟨Same.keepN s4 hacc _,jak,?_⟩,hlt,rfl⟩;rw[xaQ,xaz,xap,xbl,if_pos ci];rfl
  ·rintro H3 ⟨ci,s3,a3⟩;refine⟨n-(i+1),by omega,⟨s3,a3,?_⟩,hlt,rfl⟩;rw[xaQ,xaz,xap,xbl,if_neg (by rw[ci];decide)];simp
  ·rintro v0 x H' ⟨rfl,rfl⟩;refine⟨⟨_,rfl⟩,ht i H' _ hlt g1 fun H4 s4=>?_⟩;cases ci:c i with
   | true=>exact if_pos rfl▸hs i H4 _ hlt ci (g1.trans s4) fun H5 s5=>⟨rfl,rfl,g1.trans (s4.trans s5),s5 _ _ (s4 _ _ g2)⟩
   | false=>exact⟨rfl,g1.trans s4,s4 _ _ g2⟩
 ·have:i=n:=by omega
  subst this;exact .inl ⟨xaj _,hd H g1 g2⟩
theorem compT {K:PySem.W.Frag} {a:Addr} {zs:List V} (f:V->V) (hn:zs.length<1000) (hacc:H1 acc=none) (hz:SqT K H1 a zs)
  (hs:∀(z:V) (H3:Hp) (R:V->Hp->Prop),z∈zs->Same H1 H3->(∀H4,Same H3 H4->R (f z) H4)->te (some z::ρ) H3 R)
  (hd:∀H',Same H1 H'->H' acc=some (.lst (zs.map f))->Z H'):CompGo (Itt K a) ρ (jbB 0) jcx te acc Z H1:=by
 refine jem (zs:=zs) (fun i xs H=>Same H1 H/\H acc=some (.lst xs)/\xs=(zs.take i).map f) ⟨Same.new hacc _,jak,rfl⟩ (fun i xs H _ h=>h.1.tup hz) ?_ ?_
 ·rintro i z xs H hi ⟨g1,g2,rfl⟩;refine hs z H _ (xaD hi) g1 fun H4 s4=>⟨s4 _ _ g2,jaM ?_,Same.keepN (g1.trans s4) hacc _,jak,?_⟩
  ·rw[xaa,xaO];omega
  ·rw[xbB,hi,xap];rfl
 ·rintro xs H ⟨g1,g2,rfl⟩;rw[xbt] at g2;exact hd H g1 g2
end
section
variable {K:PySem.W.Frag} {H:Hp} {a b:Addr} {Q:VK}
theorem ji3 (ns:List Int):SeqAt.shaped (.tuple (ns.map PyData.int))=true:=by
 simp [SeqAt.shaped,PyData.canLay0,PyData.depth,PySem.W.ke_canLayAll0,PySem.W.ke_depthAll]
theorem jkB {x y:List Int} (h1:SqT K H a (x.map V.int)) (h2:SqT K H b (y.map V.int)) (q:Q (.bl (decide (x=y))) H):jnK K false (.ref a) (.ref b) H Q :=
 ⟨.tuple (x.map PyData.int),.tuple (y.map PyData.int),.tup h1 (RdsAll.ints _),.tup h2 (RdsAll.ints _),ji3 _,ji3 _,by
  have e:PyData.eqv (.tuple (x.map PyData.int)) (.tuple (y.map PyData.int))=decide (x=y):=PySem.W.ked_eqvAll x y;simp only[xcl,if_false,e];exact q⟩
theorem jen {x y:List Int} (h1:SqL K H a (x.map V.int)) (h2:SqL K H b (y.map V.int)) (q:Q (.bl (decide (x=y))) H):jnK K false (.ref a) (.ref b) H Q :=
 ⟨.list (x.map PyData.int),.list (y.map PyData.int),.lst h1 (RdsAll.ints _),.lst h2 (RdsAll.ints _),PySem.W.ke_shaped_ints _,PySem.W.ke_shaped_ints _,by
  have e:PyData.eqv (.list (x.map PyData.int)) (.list (y.map PyData.int))=decide (x=y):=PySem.W.ked_eqvAll x y;simp only[xcl,if_false,e];exact q⟩
theorem jkC {x y:List Int} (h1:SqL K H a (x.map V.int)) (h2:SqL K H b (y.map V.int)) (q:Q (.bl (!decide (x=y))) H):jnK K true (.ref a) (.ref b) H Q :=
 ⟨.list (x.map PyData.int),.list (y.map PyData.int),.lst h1 (RdsAll.ints _),.lst h2 (RdsAll.ints _),PySem.W.ke_shaped_ints _,PySem.W.ke_shaped_ints _,by
  have e:PyData.eqv (.list (x.map PyData.int)) (.list (y.map PyData.int))=decide (x=y):=PySem.W.ked_eqvAll x y;simp only[if_true,e];exact q⟩
def jgK (nss:List (List Int)):List PyData:=nss.map fun ns=>.tuple (ns.map PyData.int)
theorem jhw:∀nss:List (List Int),PyData.canLayAll0 (jgK nss)=true/\PyData.depthAll (jgK nss)<=1
  | []=>⟨rfl,by decide⟩
  | ns :: r => by
    obtain⟨h1,h2⟩:=jhw r;have h1':PyData.canLayAll0 (r.map fun ns=>PyData.tuple (ns.map PyData.int))=true:=h1;have h2':PyData.depthAll (r.map fun ns=>PyData.tuple (ns.map PyData.int))<=1:=h2;constructor
    . simp [jgK,PyData.canLayAll0,PyData.canLay0,PySem.W.ke_canLayAll0,h1']
    . simp only[jgK,xaS,PyData.depthAll,PyData.depth,PySem.W.ke_depthAll]
      omega
theorem jhx:∀x y:List (List Int),PyData.eqvAll (jgK x) (jgK y)=decide (x=y)
  | [],[]=>by simp [jgK,PyData.eqvAll]
  | [],_::_=>by simp [jgK,PyData.eqvAll]
  | _::_,[]=>by simp [jgK,PyData.eqvAll]
  | a :: r, b :: t => by
    have ih:=jhx r t;have e:PyData.eqv (.tuple (a.map PyData.int)) (.tuple (b.map PyData.int))=decide (a=b):=PySem.W.ked_eqvAll a b;show (PyData.eqv (.tuple (a.map PyData.int)) (.tuple (b.map PyData.int))&&PyData.eqvAll (jgK r) (jgK t))=_;rw[ih,e];by_cases h:a=b<;>by_cases h':r=t<;>simp [h,h']
theorem FoR.app {X:Prop} {L:Addr} {ps:List V} {x:V} {R:VK} (h:H L=some (.lst ps)) (hl:ps.length<sizeLine) (q:R .non (upd H L (.lst (ps++[x])))):((∃xs,SqL K H L xs)\/X)/\jiP (.ref L) [x] H R :=
 ⟨.inl ⟨_,SqL.of h⟩,L,ps,x,rfl,rfl,h,hl,q⟩
end
theorem jkD {X:Cx} (hc:X.calm=true):CallR X (.builtin "sum") (fun xs H Q=>∃(a:Addr) (ns:List Int),xs=[.ref a]/\SqL X.K H a (ns.map V.int)/\Q (.int ns.sum) H):=by
 intro pins s σ H xs us Q I r h;obtain⟨a,ns,rfl,hq,q⟩:=h;obtain⟨u,rfl,rx⟩:=jfB r;cases rx;obtain⟨its,rv,pl,hz⟩:=I.list hq;have ha:=jbD rv;have hall:AllInts its.toArray:=ha.allInts;have hn:numsOf its=ns:=ha.numsOf;obtain⟨ps,e⟩:=hall.items;have hl:s.heap.IsList a (intItems ps):=by rw[<- e];exact pl.isList
 have en:ns=ps.toList.map (·.1):=by
  have z:=nums_intItems ps;rw[<- e] at z;rw[<- hn];exact z
 refine sum_intListG (I.ok.hd hc) hl fun h' tk t' hk=>?_;have es:preSum (numAt ps) ps.size=ns.sum:=by
  rw[preSum_eq,xbr (by simp),en]
 rw[es];exact⟨.int _,H,I.kept hk,⟨_,rfl⟩,q⟩
theorem jgq {X:Cx} (hc:X.calm=true):CallR X (.builtin "min") (fun xs H Q=>∃(a:Addr) (ns:List Int),xs=[.ref a]/\SqL X.K H a (ns.map V.int)/\ns≠[]/\∀m:Int,m∈ns->(∀n∈ns,m<=n)->Q (.int m) H):=by
 intro pins s σ H xs us Q I r h;obtain⟨a,ns,rfl,hq,hne,q⟩:=h;obtain⟨u,rfl,rx⟩:=jfB r;cases rx;obtain⟨its,rv,pl,hz⟩:=I.list hq;have ha:=jbD rv;have hall:AllInts its.toArray:=ha.allInts;have hn:numsOf its=ns:=ha.numsOf;obtain⟨ps,e⟩:=hall.items;have hl:s.heap.IsList a (intItems ps):=by rw[<- e];exact pl.isList
 have en:ns=ps.toList.map (·.1):=by
  have z:=nums_intItems ps;rw[<- e] at z;rw[<- hn];exact z
 have hlen:ns.length=ps.size:=by rw[en,xaa,Array.length_toList]
 have hpos:0<ps.size:=by
  rw[<- hlen];exact xcg.mpr hne
 refine min_intList (I.ok.hd hc) hl hpos fun v h' tk hv hk=>?_;obtain⟨t,rfl⟩:=intItems_at hv;obtain⟨b1,b2⟩:=argBest_lt (numAt ps) (ps.size-1);have pick:∀i,i<ps.size->numAt ps i∈ns:=fun i hi=>by
  rw[en];refine xah.mpr ⟨ps[i],by simp,?_⟩;simp [numAt,hi]
 refine⟨.int _,H,I.kept hk,⟨_,rfl⟩,q _ (pick _ (by omega)) fun n hm=>?_⟩;rw[en] at hm;obtain⟨p,hp,rfl⟩:=xah.mp hm;obtain⟨i,hi,rfl⟩:=Array.mem_iff_getElem.mp (Array.mem_toList_iff.mp hp);have z:=b2 i (by omega);have ei:numAt ps i=ps[i].1:=by simp [numAt,hi]
 rw[ei] at z;exact z
theorem FoR.tupOf {K:PySem.W.Frag} {H:Hp} {p:Addr} {ys:List V} {X:Prop} {R:Addr->Hp->Prop} (k:SqL K H p ys) (h:∀t H',Same H H'->H' t=some (.tup ys)->R t H'):∃ys,(SqL K H p ys/\∀l,H l=none->R l (upd H l (.tup ys)))\/(SqT K H p ys/\R p H) :=
 ⟨ys,.inl ⟨k,fun l hl=>h l _ (Same.new hl _) jak⟩⟩
theorem jaA {es:List Expr} {k:Nat} {rest:List Expr} {pos:Pos} {env:Env}:starEach (.Tuple es k pos::rest) env=(false,eval (.Tuple es k pos) env)::starEach rest env:=by
 rw[starEach];intro e p h;cases h
theorem jaj {c:Const} {k:Nat} {rest:List Expr} {pos:Pos} {env:Env}:starEach (.Constant c k pos::rest) env=(false,eval (.Constant c k pos) env)::starEach rest env:=by
 rw[starEach];intro e p h;cases h
theorem jfF {op:UnaryOp} {a:Expr} {rest:List Expr} {pos:Pos} {env:Env}:starEach (.UnaryOp op a pos::rest) env=(false,eval (.UnaryOp op a pos) env)::starEach rest env:=by
 rw[starEach];intro e p h;cases h
theorem jad {x:Str} {rest:List Expr} {pos:Pos} {env:Env}:starEach (.Name x pos::rest) env=(false,eval (.Name x pos) env)::starEach rest env:=by
 rw[starEach];intro e p h;cases h
theorem jaG {a:Expr} {es:List Expr} {ks:List Keyword} {rest:List Expr} {pos:Pos} {env:Env}:starEach (.Call a es ks pos::rest) env=(false,eval (.Call a es ks pos) env)::starEach rest env:=by
 rw[starEach];intro e p h;cases h
theorem ja2 {a b:Expr} {op:Operator} {rest:List Expr} {pos:Pos} {env:Env}:starEach (.BinOp a op b pos::rest) env=(false,eval (.BinOp a op b pos) env)::starEach rest env:=by
 rw[starEach];intro e p h;cases h
theorem jau {a b:Expr} {rest:List Expr} {pos:Pos} {env:Env}:starEach (.Subscript a b pos::rest) env=(false,eval (.Subscript a b pos) env)::starEach rest env:=by
 rw[starEach];intro e p h;cases h
theorem jbn {es:List Expr} {rest:List Expr} {pos:Pos} {env:Env}:starEach (.List es pos::rest) env=(false,eval (.List es pos) env)::starEach rest env:=by
 rw[starEach];intro e p h;cases h
theorem jdu {a:Expr} {gs:List Comprehension} {sc:Scope} {rest:List Expr} {pos:Pos} {env:Env}:starEach (.ListComp a gs sc pos::rest) env=(false,eval (.ListComp a gs sc pos) env)::starEach rest env:=by
 rw[starEach];intro e p h;cases h
structure WE (X:Cx) (e:Expr) (t:TE):Prop where
 h:PE X e t
structure WA (X:Cx) (es:List Expr) (t:TA):Prop where
 h:PA X es t
structure WS (X:Cx) (st:Stmt) (t:TS):Prop where
 h:PS X st t
structure WSs (X:Cx) (st:List Stmt) (t:TS):Prop where
 h:PSs X st t
section
variable {X:Cx} {pos:Pos}
theorem jmw {st:Stmt} {t:TS} (h:WS X st t):WSs X [st] t:=⟨jah h.h⟩
theorem jn8 {e:Expr} {te:TE} (he:WE X e te):WS X (.Return (some e) pos) (jin te):=⟨jan he.h⟩
theorem we_ix {r:R2} {a b:Expr} {ta tb:TE} (hr:IxR X r) (ha:WE X a ta) (hb:PE X b tb) (hs:jiO b):WE X (.Subscript a b pos) (tOp r ta tb):=⟨jam hr ha.h hb hs⟩
theorem jc2 {es:List Expr} {t:TA} (h:WA X es t):WE X (.List es pos) (jkt t):=⟨jaQ h.h⟩
theorem jaF {es:List Expr} {k:Nat} {t:TA} (h:WA X es t):WE X (.Tuple es k pos) (jmo t):=⟨ja1 h.h⟩
theorem jay:WA X [] jgT:=⟨jac⟩
theorem jaf {e:Expr} {es:List Expr} {te:TE} {t:TA} (ha:WE X e te) (hr:WA X es t) (hs:starEach (e::es) X.env=(false,eval e X.env)::starEach es X.env):WA X (e::es) (jbQ te t):=⟨jaa ha.h hr.h hs⟩
end
section
variable {P:Program} {w:World} {K:PySem.W.Frag} {mg:Str->Option Value} {base:Heap}
theorem At.okW {x:Str} {st:Stmt} {N ps:List Str} {dvs:List V} {k:Nat} {sp:Sp} (F:At K mg x st ps dvs) (S:FnScope N ps (jai st)) (len:∀vs H Q E,sp vs H Q E->vs.length=ps.length)
  (hbody:∀(f:Addr) (cdv:Value) (A:Around) (outer:List Env) (s:Shared) (H:Hp) (vs:List V) (Q:VK) (E:XK),Room k (A.deeper (envOfC x (jai st) s.heap.objs.size f cdv))->sp vs H Q E ->
   ∃t,WSs (jhr CX0 P w K mg base N x (jai st) f cdv A outer s H E).nox (jaS st) t/\t { nx:=fun _ H'=>Q .non H',rt:=Q } (start N vs) H):jal P w K mg base CX0 (k+1) x ps dvs sp :=
 F.ok S len fun f cdv A outer s H vs Q E hr h=>let ⟨t,h1,h2⟩:=hbody f cdv A outer s H vs Q E hr h;⟨t,h1.h,h2⟩
end
section
variable {ρ:St} {te:TE} {tt:TT} {acc:Addr} {Z:Hp->Prop} {H1:Hp}
def SameT (H H':Hp):Prop:=∀a xs,H a=some (.tup xs)->H' a=some (.tup xs)
theorem Same.t {H H':Hp} (s:Same H H'):SameT H H':=fun a xs h=>s a _ h
theorem SameT.trans {H H' J:Hp} (s:SameT H H') (t:SameT H' J):SameT H J:=fun a xs h=>t a xs (s a xs h)
theorem SameT.refl (H:Hp):SameT H H:=fun _ _ h=>h
theorem SameT.upd {H:Hp} {a:Addr} {xs ys:List V} (h:H a=some (.lst xs)):SameT H (upd H a (.lst ys)):=fun b zs hb=>by
 have ne:b≠a:=fun e=>by
  subst e;rw[h] at hb;cases hb
 rw[jaw ne];exact hb
def Stab (p:Nat->V->Hp->Prop):Prop:=∀i y H H',p i y H->SameT H H'->p i y H'
theorem jmx {p:Nat->V->Hp->Prop} {xs:List V} {y:V} {i:Nat} {H:Hp} (hl:xs.length=i) (hp:∀j z,xs[j]?=some z->p j z H) (py:p i y H):∀j z,(xs++[y])[j]?=some z->p j z H:=fun j z hz=>by
 by_cases cj:j<xs.length
 ·rw[xaV cj] at hz;exact hp j z hz
 ·have cj2:j<(xs++[y]).length:=(xae.mp hz).1;rw[xal] at cj2;have e:j=i:=by
   have:j<xs.length+1:=cj2;omega
  subst e;rw[xaH (by omega),hl,Nat.sub_self] at hz;cases hz;exact py
theorem jlA {lo:Int} {n:Nat} (p:Nat->V->Hp->Prop) (st:Stab p) (hn:n<1000) (hacc:H1 acc=none)
  (hs:∀(i:Nat) (H3:Hp) (R:V->Hp->Prop),i<n->Same H1 H3->(∀y H4,Same H3 H4->p i y H4->R y H4)->te (some (.int (lo+i))::ρ) H3 R)
  (hd:∀ys H',Same H1 H'->H' acc=some (.lst ys)->ys.length=n->(∀i y,ys[i]?=some y->p i y H')->Z H'):CompGo (Itr lo n) ρ (jbB 0) jcx te acc Z H1:=by
 refine jdP (fun i xs H=>Same H1 H/\H acc=some (.lst xs)/\xs.length=i/\∀j y,xs[j]?=some y->p j y H) ⟨Same.new hacc _,jak,rfl,fun j y h=>by simp at h⟩ ?_ ?_
 ·rintro i xs H hi ⟨g1,g2,hl,hp⟩;refine hs i H _ hi g1 fun y H4 s4 py=>⟨s4 _ _ g2,jaM (by omega),Same.keepN (g1.trans s4) hacc _,jak,?_,?_⟩
  ·rw[xal,hl];rfl
  ·have u:=SameT.upd (ys:=xs++[y]) (s4 _ _ g2);exact jmx hl (fun j z hz=>st _ _ _ _ (hp j z hz) (s4.t.trans u)) (st _ _ _ _ py u)
 ·rintro xs H ⟨g1,g2,hl,hp⟩;exact hd xs H g1 g2 hl hp
theorem jhy {K:PySem.W.Frag} {a:Addr} {zs:List V} (p:Nat->V->Hp->Prop) (st:Stab p) (hn:zs.length<1000) (hacc:H1 acc=none) (hz:SqL K H1 a zs)
  (hs:∀(i:Nat) (z:V) (H3:Hp) (R:V->Hp->Prop),zs[i]?=some z->Same H1 H3->(∀y H4,Same H3 H4->p i y H4->R y H4)->te (some z::ρ) H3 R)
  (hd:∀ys H',Same H1 H'->H' acc=some (.lst ys)->ys.length=zs.length->(∀i y,ys[i]?=some y->p i y H')->Z H'):CompGo (Itl K a) ρ (jbB 0) jcx te acc Z H1:=by
 refine jiU (zs:=zs) (fun i xs H=>Same H1 H/\H acc=some (.lst xs)/\xs.length=i/\∀j y,xs[j]?=some y->p j y H) ⟨Same.new hacc _,jak,rfl,fun j y h=>by simp at h⟩ (fun i xs H _ h=>h.1.seq hz) ?_ ?_
 ·rintro i z xs H hi ⟨g1,g2,hl,hp⟩;have hlt:=(xae.mp hi).1;refine hs i z H _ hi g1 fun y H4 s4 py=>⟨s4 _ _ g2,jaM (by omega),Same.keepN (g1.trans s4) hacc _,jak,?_,?_⟩
  ·rw[xal,hl];rfl
  ·have u:=SameT.upd (ys:=xs++[y]) (s4 _ _ g2);exact jmx hl (fun j z hz=>st _ _ _ _ (hp j z hz) (s4.t.trans u)) (st _ _ _ _ py u)
 ·rintro xs H ⟨g1,g2,hl,hp⟩;exact hd xs H g1 g2 hl hp
theorem jlB {K:PySem.W.Frag} {a:Addr} {zs:List V} (p:Nat->V->Hp->Prop) (st:Stab p) (hn:zs.length<1000) (hacc:H1 acc=none) (hz:SqT K H1 a zs)
  (hs:∀(i:Nat) (z:V) (H3:Hp) (R:V->Hp->Prop),zs[i]?=some z->Same H1 H3->(∀y H4,Same H3 H4->p i y H4->R y H4)->te (some z::ρ) H3 R)
  (hd:∀ys H',Same H1 H'->H' acc=some (.lst ys)->ys.length=zs.length->(∀i y,ys[i]?=some y->p i y H')->Z H'):CompGo (Itt K a) ρ (jbB 0) jcx te acc Z H1:=by
 refine jem (zs:=zs) (fun i xs H=>Same H1 H/\H acc=some (.lst xs)/\xs.length=i/\∀j y,xs[j]?=some y->p j y H) ⟨Same.new hacc _,jak,rfl,fun j y h=>by simp at h⟩ (fun i xs H _ h=>h.1.tup hz) ?_ ?_
 ·rintro i z xs H hi ⟨g1,g2,hl,hp⟩;have hlt:=(xae.mp hi).1;refine hs i z H _ hi g1 fun y H4 s4 py=>⟨s4 _ _ g2,jaM (by omega),Same.keepN (g1.trans s4) hacc _,jak,?_,?_⟩
  ·rw[xal,hl];rfl
  ·have u:=SameT.upd (ys:=xs++[y]) (s4 _ _ g2);exact jmx hl (fun j z hz=>st _ _ _ _ (hp j z hz) (s4.t.trans u)) (st _ _ _ _ py u)
 ·rintro xs H ⟨g1,g2,hl,hp⟩;exact hd xs H g1 g2 hl hp
end
section
variable {X:Cx} {tg:Expr}
def Asc (x:Str):Prop:=(x.cps.all fun c=>decide (c<128))=true
def Its (x:Str):It:=⟨fun i _=>i<x.cps.size,fun i H v H'=>H'=H/\∃c,x.cps[i]?=some c/\v=.str ⟨#[c]⟩,fun i _=>x.cps.size<=i⟩
def iStr (tl:TE):TI:=fun σ H R=>tl σ H fun v H1=>∃x,v=.str x/\Asc x/\R (Its x) H1
end
section
variable {tl:TE} {g:TG} {tb:TS} {D:Ends} {σ:St} {H:Hp} {ix:List Nat} {tt:TT} {te:TE} {Q:VK}
theorem jlC:jlo (iStr tl) g tb D σ H=tl σ H fun v H1=>∃x,v=.str x/\Asc x/\jkA (Its x) g tb D σ H1:=rfl
theorem ji4:jgl (iStr tl) ix g tt te σ H Q=tl σ H fun v H1=>∃x,v=.str x/\Asc x/\∀acc,H1 acc=none->CompGo (Its x) (jaJ σ ix) g tt te acc (fun H'=>Q (.ref acc) H') H1:=rfl
end
theorem jmy:typeLookup (.type "list_reverseiterator") "__len__"=pure none:=by with_unfolding_all rfl
theorem jkE:typeLookup (.type "list_reverseiterator") "__length_hint__"=pure (some (.builtin "list_reverseiterator.__length_hint__")):=by with_unfolding_all rfl
theorem jkF {M:Model} {A:Around} {E:Value->Shared->Prop} {s:Shared} {Q:Bool->Shared->Prop} {I l:Addr} {i:Int} (h:s.heap.IsRevIter I l i) (q:Q false s):wpAny M A (Builtin.List.listLengthHint (.ref I)) Q E s:=by
 obtain⟨o,ho,hc,hd⟩:=h;have ty:s.TypeIs (.ref I) "list_reverseiterator":=⟨o,ho,hc⟩;unfold Builtin.List.listLengthHint;refine wpAny_bind (wpAny_specialOf ty jmy ?_);dsimp only;refine wpAny_ite_split (fun c=>absurd c (by decide)) fun _=>?_;refine wpAny_ite_split (fun c=>absurd c (by decide)) fun _=>?_;refine wpAny_bind (wpAny_specialOf ty jkE ?_);dsimp only;have sp:splitId "list_reverseiterator.__length_hint__"=some ("list_reverseiterator","__length_hint__"):=by decide +kernel
 rw[sp];dsimp only;refine wpAny_bind (wpAny_isInstance (b:=true) ty (by with_unfolding_all rfl) ?_);refine wpAny_ite_split (fun c=>absurd c (by decide)) fun _=>?_;refine wpAny_ite_split (fun c=>?_) fun c=>absurd c (by decide);refine wpAny_ite_split (fun c=>absurd c (by decide)) fun _=>?_;exact wpAny_pure q
theorem jh6 {prog:Program} {w:World} {A:Around} {s:Shared} {R:Result->Shared->Prop} {I l:Addr} {items:Array Value} (hh:A.handled=none) (hne:l≠I) (S:Addr) (res:Value) (c₀:Nat) (hI:s.heap.IsRevIter I l ((items.size:Int)-1)) (hl:s.heap.IsList l items) (hS:S≠I) (hSl:S≠l)
  (e:s.heap.get? S=some { cls:=.type "list",data:=.seq #[] c₀ }) (hz:items.size<=sizeLine)
  (q:∀(h':Heap) (tk:Nat) (acc':Array Value) (c':Nat),(∀b o,b≠S->b≠I->s.heap.get? b=some o->h'.get? b=some o)->h'.get? S=some { cls:=.type "list",data:=.seq acc' c' }->ItemsOf (fun i v=>items[items.size-1-i]?=some v) acc' items.size->R (.ok (.ret res)) { s with heap:=h',toks:=tk }) :
  wpAny (model prog w) A.in1 (Builtin.List.listExtendWith (.ref S) (.ref I) res)
   (fun fin s'=>match fin with | .done f=>R (.ok f) s' | .again c'=>c'.quiet=true/\codeAny (model prog w) A c' R s') (fun e s'=>R (.error e) s') s:=by
 obtain⟨o,ho,hc,hd⟩:=id hI;have ty:s.TypeIs (.ref I) "list_reverseiterator":=⟨o,ho,hc⟩;unfold Builtin.List.listExtendWith;refine wpAny_bind (wpAny_typeOf ty ?_);refine wpAny_ite_split (fun c=>?_) fun _=>?_
 ·exfalso;have e1:Builtin.List.listSameRef (.ref S) (.ref I)=false:=by
   simp [Builtin.List.listSameRef,hS]
  rw[e1] at c
  revert c
  decide
 refine wpAny_bind (wpAny_pyIter_revIter hI ?_);refine wpAny_bind (wpAny_holding (jkF hI ?_));refine wpAny_ite_split (fun c=>absurd c (by decide)) fun _=>?_;have W:=(Walks.listRev (prog:=prog) (w:=w) (A:=A.in1) hh I l hne items).toS;refine wpAny_pure ⟨plainId_quiet F.plain_extend_loop _,?_⟩;refine codeAny_extend_loopS W hz S (by simp [hS,hSl]) res items.size 0 s #[] c₀ rfl (xaY _) ⟨xaY _,by simpa using hI,hl⟩ e ⟨rfl,fun j v h=>by simp at h⟩ fun s' acc' c' mv e' it=>?_;have eq:=Moved.eq_with mv;rw[eq];exact q s'.heap s'.toks acc' c' (fun b o h1 h2 e=>mv.heap b o (by simp [h1,h2]) e) e' it
theorem jkG {prog:Program} {w:World} {A:Around} {s:Shared} {R:Result->Shared->Prop} {I l:Addr} {items:Array Value} (hh:A.handled=none) (hne:l≠I) (S:Addr) (hI:s.heap.IsRevIter I l ((items.size:Int)-1)) (hl:s.heap.IsList l items) (hS:S≠I) (hSl:S≠l)
  (e:s.heap.get? S=some { cls:=.type "list",data:=.seq #[] }) (hz:items.size<=sizeLine)
  (q:∀(h':Heap) (tk:Nat) (acc':Array Value) (c':Nat),(∀b o,b≠S->b≠I->s.heap.get? b=some o->h'.get? b=some o)->h'.get? S=some { cls:=.type "list",data:=.seq acc' c' }->ItemsOf (fun i v=>items[items.size-1-i]?=some v) acc' items.size->R (.ok (.ret .none)) { s with heap:=h',toks:=tk }) :
  wpAny (model prog w) A.in1 (Builtin.«list.__init__» { pos:=[.ref S,.ref I] })
   (fun fin s'=>match fin with | .done f=>R (.ok f) s' | .again c'=>c'.quiet=true/\codeAny (model prog w) A c' R s') (fun e s'=>R (.error e) s') s:=by
 unfold Builtin.«list.__init__»;dsimp only;refine wpAny_ite_split (fun c=>absurd c (by decide)) fun _=>?_;refine wpAny_ite_split (fun c=>absurd c (by simp)) fun _=>?_;refine wpAny_bind (wpAny_bind (wpAny_seqItems e rfl (wpAny_pure ?_)));refine wpAny_bind (wpAny_updateSeq e rfl ?_ (by simp) (by simp));refine wpAny_bind (wpAny_letGo ?_);have eS:=Heap.get?_update_self (Obj.mapSeq fun _=>(#[]:Array Value)) e rfl;have eO:∀b,b≠S->(s.heap.update S (Obj.mapSeq fun _=>(#[]:Array Value))).get? b=s.heap.get? b:=fun b hb=>Heap.get?_update_other s.heap _ (Ne.symm hb);obtain⟨o,ho,hc,hd⟩:=hI;obtain⟨o2,ho2,hc2,n2,hd2⟩:=hl;refine jh6 (s:={ s with heap:=s.heap.update S (Obj.mapSeq fun _=>(#[]:Array Value)) }) (items:=items) hh hne S .none _ ⟨o,(eO I (Ne.symm hS)).trans ho,hc,hd⟩ ⟨o2,(eO l (Ne.symm hSl)).trans ho2,hc2,n2,hd2⟩ hS hSl eS hz fun h' tk acc' c' k e' it=>?_;exact q h' tk acc' c' (fun b o h1 h2 hb=>k b o h1 h2 ((eO b h1).trans hb)) e' it
theorem jfG {prog:Program} {w:World} {A:Around} {E:Value->Shared->Prop} {s:Shared} {Q:Value->Shared->Prop} {I l:Addr} {items:Array Value} (hh:A.handled=none) (hne:l≠I) (hI:s.heap.IsRevIter I l ((items.size:Int)-1)) (hl:s.heap.IsList l items) (hz:items.size<=sizeLine)
  (q:∀(h':Heap) (tk:Nat) (acc':Array Value) (c':Nat),(∀b o,b≠I->s.heap.get? b=some o->h'.get? b=some o)->h'.get? s.heap.objs.size=some { cls:=.type "list",data:=.seq acc' c' }->ItemsOf (fun i v=>items[items.size-1-i]?=some v) acc' items.size->Q (.ref s.heap.objs.size) { s with heap:=h',toks:=tk }) :
  wpAny (model prog w) A (call (.type "list") [.ref I]) Q E s:=by
 obtain⟨o,ho,hc,hd⟩:=hI;obtain⟨o2,ho2,hc2,n2,hd2⟩:=hl;have n1:s.heap.objs.size≠I:=Ne.symm (xax (Heap.lt_size ho));have n2':s.heap.objs.size≠l:=Ne.symm (xax (Heap.lt_size ho2));refine callType_codes F.called_list (F.typeCall_list_1 _) F.entry_list_init (Q₁:=fun obj s₁=>obj=.ref s.heap.objs.size/\s₁={ s with heap:=s.heap.push { cls:=.type "list",data:=.seq #[] } }) (code_list_new _ ⟨rfl,rfl⟩) ?_;rintro obj s₁ ⟨rfl,rfl⟩;have eS:(s.heap.push { cls:=.type "list",data:=.seq #[] }).get? s.heap.objs.size=some { cls:=.type "list",data:=.seq #[] }:=Heap.get?_push_size _ rfl;refine⟨⟨_,eS,rfl⟩,F.args_list_init_2 _ _,?_⟩;refine jkG (A:=A.in1) (s:={ s with heap:=s.heap.push { cls:=.type "list",data:=.seq #[] } }) (items:=items) hh hne s.heap.objs.size ⟨o,Heap.get?_push_of_some _ ho,hc,hd⟩ ⟨o2,Heap.get?_push_of_some _ ho2,hc2,n2,hd2⟩ n1 n2' eS hz fun h' tk acc' c' k e' it=>?_;exact⟨rfl,q h' tk acc' c' (fun b o h1 hb=>k b o (xax (Heap.lt_size hb)) h1 (Heap.get?_push_of_some _ hb)) e' it⟩
theorem Vals.app {xs ys:List V} {us vs:List Value} (h:Vals xs us) (k:Vals ys vs):Vals (xs++ys) (us++vs):=by
 induction h with
 | nil=>exact k
 | cons r _ ih=>exact .cons r ih
theorem Vals.rev {xs:List V} {us:List Value} (h:Vals xs us):Vals xs.reverse us.reverse:=by
  induction h with
  | nil=>exact .nil
  | cons r _ ih =>
    rw[xaM,xaM];exact Vals.app ih (.cons r .nil)
theorem ji5 {items acc:Array Value} (h:ItemsOf (fun i v=>items[items.size-1-i]?=some v) acc items.size):acc.toList=items.toList.reverse:=by
 obtain⟨h1,h2⟩:=h;refine List.ext_getElem? fun i=>?_;by_cases hi:i<items.size
 ·have e:acc[i]?=some acc[i]:=Array.getElem?_eq_getElem (by omega);have z:=h2 i _ e;rw[xb7 (by rw[Array.length_toList];exact hi),Array.length_toList,Array.getElem?_toList,Array.getElem?_toList,e,z]
 ·rw[xbJ (by rw[Array.length_toList];omega),xbJ (by rw[xbh,Array.length_toList];omega)]
section
variable {X:Cx} {e:Expr} {te:TE} {p p' pos pos':Pos}
def jfH (K:PySem.W.Frag) (te:TE):TE:=fun σ H Q=>te σ H fun x H1=>∃a ys,x=.ref a/\SqL K H1 a ys/\∀l,H1 l=none->Q (.ref l) (upd H1 l (.lst ys.reverse))
theorem jfh (hc:X.calm=true) (hg:Gl X "list") (hm:X.mg "list"=none) (hg':Gl X "reversed") (hm':X.mg "reversed"=none) (he:PE X e te)
  (h1:starEach [e] X.env=[(false,eval e X.env)]:=by rfl) (h2:starEach [.Call (.Name "reversed" p') [e] [] pos'] X.env=[(false,eval (.Call (.Name "reversed" p') [e] [] pos') X.env)]:=by rfl) :
  PE X (.Call (.Name "list" p) [.Call (.Name "reversed" p') [e] [] pos'] [] pos) (jfH X.K te):=by
 intro pins s σ H Q I h;refine wpAny_Call_Name_kw (jd8 I hg hm boot_list ?_);refine PyProof.Rows.callWith_type1 ?_ h2 rfl;rw[h2];show wpAny _ _ (spliced ((false,eval (.Call (.Name "reversed" p') [e] [] pos') X.env)::[])) _ _ s;refine Calls.spliced_cons ?_;refine wpAny_Call_Name_kw (jd8 I hg' hm' boot_reversed ?_);refine PyProof.Rows.callWith_type1 ?_ h1 rfl;rw[h1];show wpAny _ _ (spliced ((false,eval e X.env)::[])) _ _ s;refine Calls.spliced_cons (thn (he pins s σ H _ I h) fun u s1 ⟨x,H1,I1,r1,q1⟩=>?_);obtain⟨a,ys,rfl,hq,q⟩:=q1;cases r1;obtain⟨its,rv,pl,hz⟩:=I1.list hq;have hlen:=rv.length;refine Calls.spliced_nil ?_;refine call_reversed_list pl.isList ?_;refine Calls.spliced_nil ?_;have hla:a<s1.heap.objs.size:=by
  obtain⟨o,ho,_⟩:=pl.isList;exact Heap.lt_size ho
 have hl':(s1.heap.push (revObj a ((its.toArray.size:Int)-1))).IsList a its.toArray:=by
  obtain⟨o,ho,hc',n,hd⟩:=pl.isList;exact⟨o,Heap.get?_push_of_some _ ho,hc',n,hd⟩
 refine jfG (I1.ok.hd hc) (xax hla) ⟨_,Heap.get?_push_size _ rfl,rfl,rfl⟩ hl' (by rw[xas];omega) fun h' tk acc' c' k e' it=>?_;have er:=ji5 it;rw[List.toList_toArray] at er;have kp:∀(b:Addr) (o:Obj),s1.heap.get? b=some o->h'.get? b=some o:=fun b o hb=>k b o (xax (Heap.lt_size hb)) (Heap.get?_push_of_some _ hb);have sz:(s1.heap.push (revObj a ((its.toArray.size:Int)-1))).objs.size=s1.heap.objs.size+1:=by
  unfold Heap.push;exact Array.size_push ..
 have hle:s1.heap.objs.size<=(s1.heap.push (revObj a ((its.toArray.size:Int)-1))).objs.size:=by omega
 refine⟨.ref _,_,I1.laid (t':=tk) (o:=.lst ys.reverse) kp hle ?_,rfl,q _ (I1.hok.fresh hle)⟩;refine⟨by rw[xbh];exact hz,its.reverse,c',rv.rev,?_⟩;rw[e',<- er]
end
def jdf (J:It) (n:Nat) (ρ:St) (g:TG) (tt:TT) (te:TE) (acc:Addr) (Z:Hp->Prop) (H1:Hp):Prop :=
  ∃ W : Nat -> Nat -> List V -> Hp -> Prop, (∃ m, W 0 m [] (upd H1 acc (.lst []))) /\ ∀ i m xs H, W i m xs H ->
    ((J.stop i H /\ Z H) \/ (J.go i H /\ ∃ (Nx : V -> Hp -> Prop) (Nn : Hp -> Prop), (∀ y H4, Nx y H4 -> H4 acc = some (.lst xs) /\ xs.length < sizeLine /\ ∃ m', m' < m /\ W (i + 1) m' (xs ++ [y]) (upd H4 acc (.lst (xs ++ [y])))) /\
      (∀H3,Nn H3->∃m',m'<m/\W (i+1) m' xs H3)/\∀(v0:St) x H',v0.length=n->J.yld i H x H'->g x (v0++ρ) H' fun σ2 H2=>(∃v:St,v.length=n/\σ2=v++ρ)/\tt σ2 H2 fun b H3=>if b=true then te σ2 H3 Nx else Nn H3))
section
variable {X:Cx} {N' r xs0:List Str} {ix:List Nat} {cs:Scope} {tg iter elt:Expr} {ifs:List Expr} {pos:Pos} {wi:TI} {g:TG} {tt:TT} {te:TE}
def jlD (wi:TI) (ix:List Nat) (n:Nat) (g:TG) (tt:TT) (te:TE):TE:=fun σ H Q=>wi σ H fun J H1=>∀acc,H1 acc=none->jdf J n (jaJ σ ix) g tt te acc (fun H'=>Q (.ref acc) H') H1
end
section
variable {K:PySem.W.Frag} {ta:TA} {tl:TE} {ix:List Nat} {n:Nat} {g:TG} {tt:TT} {te:TE} {σ:St} {H:Hp} {Q:VK}
theorem jhz:jlD (jkq K tl) ix n g tt te σ H Q=tl σ H fun x H1=>∃a,x=.ref a/\(∃xs,SqL K H1 a xs)/\∀acc,H1 acc=none->jdf (Itl K a) n (jaJ σ ix) g tt te acc (fun H'=>Q (.ref acc) H') H1:=rfl
end
section
variable {X:Cx}
def rCatQ (K:PySem.W.Frag):R2:=fun x y H Q=>∃l b xs zs,x=.ref l/\y=.ref b/\SqL K H l xs/\SqL K H b zs/\xs.length+zs.length<=sizeLine/\∀p,H p=none->Q (.ref p) (upd H p (.lst (xs++zs)))
theorem jh7 {prog:Program} {w:World} {A:Around} {E:Value->Shared->Prop} {s:Shared} {l b:Addr} {vs ws:List Value} {Q:Value->Shared->Prop} (h1:s.heap.IsList l vs.toArray) (h2:s.heap.IsList b ws.toArray) (hz:vs.length+ws.length<=sizeLine)
  (q:Q (.ref s.heap.objs.size) { s with heap:=s.heap.push { cls:=.type "list",data:=.seq (vs++ws).toArray } }):wpAny (model prog w) A (binaryOp .Add (.ref l) (.ref b)) Q E s:=by
 obtain⟨⟨cl,dd,da,sl⟩,ho,hc,n,hd⟩:=id h1;obtain⟨⟨cl2,dd2,da2,sl2⟩,ho2,hc2,n2,hd2⟩:=id h2;simp only at hc hd hc2 hd2;subst hc hd hc2 hd2;have hz':vs.toArray.size+ws.toArray.size<=sizeLine:=by rw[xas,xas];exact hz
 refine concat_meets (T:="list") ⟨_,ho,rfl⟩ ⟨_,ho2,rfl⟩ noFill_list_add seq_list_add F.slot_list_add F.entry_list_add (F.args_list_add_2 _ _) (list_addW l b vs.toArray ws.toArray n n2 dd dd2 sl sl2 hz') ⟨ho,ho2,?_⟩;have ea:vs.toArray++ws.toArray=(vs++ws).toArray:=by simp
 rw[ea];exact q
theorem jgX:OpR X (binaryOp .Add) (rCatQ X.K):=by
 intro pins s σ H x y v u Q I rx ry h;obtain⟨l,b,xs,zs,rfl,rfl,hH,hB,hz,q⟩:=h;cases rx;cases ry;obtain⟨its,r,p,_⟩:=I.list hH;obtain⟨its2,r2,p2,_⟩:=I.list hB;have hl:=r.length;have hl2:=r2.length;refine jh7 p.isList p2.isList (by omega) ?_;exact⟨.ref _,_,I.lnew (t':=s.toks) (r.append r2) (by rw[xal];omega),rfl,q _ I.fresh⟩
end
theorem jeE {X:Cx}:CallR X (.type "tuple") (fun xs H Q=>∃p ys,xs=[.ref p]/\SqL X.K H p ys/\∀l,H l=none->Q (.ref l) (upd H l (.tup ys))):=fun pins s σ H xs us Q I r ⟨p,ys,e,k,q⟩=>ja5 pins s σ H xs us Q I r ⟨p,ys,e,.inl ⟨k,q⟩⟩
theorem jgY {X:Cx} {K:PySem.W.Frag} {es:List Expr} {k:Nat} {t:TGs} {n:Nat} {pos:Pos} (hK:X.K=K) (hc:X.calm=true) (h:PGs X es t)
  (hn:(assignEach es X.env).length=n:=by rfl) (hst:(assignEach es X.env).findIdx? (·.1)=none:=by rfl):PG X (.Tuple es k pos) (jme K n t):=hK▸jiy hc h hn hst
def SameB (L:Addr) (H H':Hp):Prop:=∀b o,b≠L->H b=some o->H' b=some o
theorem SameB.refl (L:Addr) (H:Hp):SameB L H H:=fun _ _ _ h=>h
theorem SameB.trans {L:Addr} {H H' J:Hp} (s:SameB L H H') (t:SameB L H' J):SameB L H J:=fun b o n h=>t b o n (s b o n h)
theorem Same.b {L:Addr} {H H':Hp} (s:Same H H'):SameB L H H':=fun b o _ h=>s b o h
theorem SameB.acc {L acc:Addr} {H H':Hp} {o:HO} (s:SameB L H H') (h:H acc=none):SameB L H (upd H' acc o):=fun b u n q=>by rw[jaw (jaD q h)];exact s b u n q
theorem SameB.box {L:Addr} {H H':Hp} {o:HO} (s:SameB L H H'):SameB L H (upd H' L o):=fun b u n q=>by rw[jaw n];exact s b u n q
theorem SameB.none {L b:Addr} {H H':Hp} (s:SameB L H H') (n:b≠L) (h:H' b=none):H b=none:=by
 cases e:H b with
 | none=>rfl
 | some o=>rw[s b o n e] at h;cases h
theorem SameB.set {L:Addr} {H:Hp} {o:HO}:SameB L H (upd H L o):=fun b u n h=>by rw[jaw n];exact h
end L2
namespace L2
open PySem PyProof.Rows PySem.Calls
end L2
namespace L2
open PySem PySem.Spec PyProof.Rows
section
variable {X:Cx} {tg:Expr}
def It3 (lo c:Int) (n:Nat):It:=⟨fun i _=>i<n,fun i H x H'=>H'=H/\x=.int (lo+i*c),fun i _=>n<=i⟩
def iRng3 (ta:TA):TI:=fun σ H R=>ta σ H fun vs H1=>∃i j c:Int,vs=[.int i,.int j,.int c]/\(-(2^30)<=i/\i<2^30/\-(2^30)<=j/\j<2^30/\1<=c/\c<2^30)/\R (It3 i c (Builtin.Range.rangeSize i j c).toNat) H1
end
end L2
namespace L2
section
variable {K:PySem.W.Frag} {tl:TE} {ta:TA} {ix:List Nat} {g:TG} {tt:TT} {te:TE} {σ:St} {H:Hp} {Q:VK}
theorem jhA:jgl (iRng3 ta) ix g tt te σ H Q=ta σ H fun vs H1=>∃i j c:Int,vs=[.int i,.int j,.int c]/\(-(2^30)<=i/\i<2^30/\-(2^30)<=j/\j<2^30/\1<=c/\c<2^30)/\∀acc,H1 acc=none->CompGo (It3 i c (PySem.Builtin.Range.rangeSize i j c).toNat) (jaJ σ ix) g tt te acc (fun H'=>Q (.ref acc) H') H1:=rfl
end
end L2
namespace L2
open PySem PySem.Spec PyProof.Rows
theorem jfI {M:Model} {A:Around} {E:Value->Shared->Prop} {s:Shared} {scope:Scope} {globals:Addr} {cl:List (Str × Addr)} {qual:Str} {env:Env} {Q:Env->Shared->Prop}
  (hQ:Q (newEnv scope s.heap.objs.size globals (cellsFrom (s.heap.objs.size+1) scope.names cl) qual none .none (some env) builtinsNs) { s with heap:=pushCells (s.heap.push { cls:=.type "dict",data:=.dict #[] }) scope.names }) :
  wpAny M A (newFunctionEnv scope globals cl [] qual none .none (some env)) Q E s:=by
 simp only[newFunctionEnv,Option.isSome_some,if_true];refine wpAny_bind (wpAny_alloc ?_);refine wpAny_bind (wpAny_layCells _ (fun name kind cells=>by cases hkc:kind==NameKind.cell<;>simp [hkc]) _ _ _ _ ?_);rw[show ({ s with heap:=s.heap.push { cls:=.type "dict",data:=.dict #[] } }:Shared).heap.objs.size=s.heap.objs.size+1 from Heap.size_push ..];rw[List.forIn_nil];exact wpAny_bind (wpAny_pure (wpAny_pure hQ))
structure CfOk (n:Nat) (cs:List (Str × Addr)):Prop where
 lt:∀y c,cs.lookup y=some c->c<n
 inj:∀x y c,cs.lookup x=some c->cs.lookup y=some c->x=y
theorem jmz {n:Nat} {name:Str} {acc:List (Str × Addr)} (k:CfOk n acc):CfOk (n+1) ((name,n)::acc):=by
  refine⟨fun y c e=>?_,fun x y c e1 e2=>?_⟩
  . rw[xaP] at e
    cases z:y==name with
    | true=>rw[z] at e;cases e;exact Nat.lt_succ_self _
    | false=>rw[z] at e;exact xbn (k.lt y c e)
  . rw[xaP] at e1 e2
    cases z1:x==name with
    | true =>
      cases z2:y==name with
      | true=>exact (beq_iff_eq.mp z1).trans (beq_iff_eq.mp z2).symm
      | false =>
        rw[z1] at e1;rw[z2] at e2;cases e1;exact absurd (k.lt y _ e2) (xbj _)
    | false =>
      cases z2:y==name with
      | true =>
        rw[z1] at e1;rw[z2] at e2;cases e2;exact absurd (k.lt x _ e1) (xbj _)
      | false =>
        rw[z1] at e1;rw[z2] at e2;exact k.inj x y c e1 e2
theorem jmA:∀(names:List (Str × NameKind)) (h:Heap) (acc:List (Str × Addr)),CfOk h.objs.size acc->CfOk (pushCells h names).objs.size (cellsFrom h.objs.size names acc)
  | [],_,_,k=>k
  | (name, kind) :: r, h, acc, k => by
    unfold pushCells cellsFrom;split
    . have z:=jmA r (h.push { cls:=.type "cell",data:=.cell none }) ((name,h.objs.size)::acc) (by rw[Heap.size_push]; exact jmz k)
      rwa [Heap.size_push] at z
    . exact jmA r h acc k
theorem jgZ:∀(names:List (Str × NameKind)) (h:Heap) (acc:List (Str × Addr)) (y:Str) (c:Addr),(cellsFrom h.objs.size names acc).lookup y=some c ->
    acc.lookup y=some c\/((y,NameKind.cell)∈names/\h.objs.size<=c/\(pushCells h names).IsCell c none)
  | [],_,_,_,_,e=>.inl e
  | (name, kind) :: r, h, acc, y, c, e => by
    unfold pushCells;unfold cellsFrom at e;by_cases hk:(kind==NameKind.cell)=true
    . rw[if_pos hk] at e |-
      rw[<- Heap.size_push (h:=h) (o:={ cls:=.type "cell",data:=.cell none })] at e;rcases jgZ r _ _ y c e with z | ⟨z1,z2,z3⟩
      . rw[xaP] at z
        cases q:y==name with
        | true =>
          rw[q] at z;cases z;have e1:=beq_iff_eq.mp q;have e2:=beq_iff_eq.mp hk;subst e1;subst e2;refine .inr ⟨xaN,xaj _,⟨_,pushCells_keeps r _ _ _ (Heap.get?_push_size _ rfl),rfl⟩⟩
        | false =>
          rw[q] at z;exact .inl z
      . rw[Heap.size_push] at z2
        exact .inr ⟨xad _ z1,by omega,z3⟩
    . rw[if_neg hk] at e |-
      rcases jgZ r h acc y c e with z | ⟨z1,z2,z3⟩
      . exact .inl z
      . exact .inr ⟨xad _ z1,z2,z3⟩
theorem jgr:∀(names:List (Str × NameKind)) (n:Nat) (acc:List (Str × Addr)) (y:Str),(y,NameKind.cell)∉names->(cellsFrom n names acc).lookup y=acc.lookup y
  | [],_,_,_,_=>rfl
  | (name, kind) :: r, n, acc, y, hn => by
    unfold cellsFrom;have hr:(y,NameKind.cell)∉r:=fun z=>hn (xad _ z);by_cases hk:(kind==NameKind.cell)=true
    . rw[if_pos hk,jgr r _ _ y hr,xaP]
      cases q:y==name with
      | true =>
        have e1:=beq_iff_eq.mp q;have e2:=beq_iff_eq.mp hk;subst e1;subst e2;exact absurd xaN hn
      | false=>rfl
    . rw[if_neg hk,jgr r _ _ y hr]
theorem jgs:∀(names:List (Str × NameKind)) (n:Nat) (acc:List (Str × Addr)) (y:Str),(y,NameKind.cell)∈names->∃c,(cellsFrom n names acc).lookup y=some c/\n<=c
  | (name, kind) :: r, n, acc, y, hy => by
    unfold cellsFrom;by_cases hr:(y,NameKind.cell)∈r
    . by_cases hk:(kind==NameKind.cell)=true
      . rw[if_pos hk]
        obtain⟨c,h1,h2⟩:=jgs r (n+1) ((name,n)::acc) y hr;exact⟨c,h1,by omega⟩
      . rw[if_neg hk]
        exact jgs r n acc y hr
    . rcases xam.mp hy with z | z
      . cases z
        rw[if_pos (by rfl),jgr r _ _ _ hr,xaP];exact⟨n,by rw[beq_self_eq_true],xaj _⟩
      . exact absurd z hr
theorem jmB {names:List (Str × NameKind)} {n:Nat} {acc:List (Str × Addr)} {y:Str} (h:∃c,acc.lookup y=some c):∃c,(cellsFrom n names acc).lookup y=some c:=by
 by_cases hy:(y,NameKind.cell)∈names
 ·obtain⟨c,h1,_⟩:=jgs names n acc y hy;exact⟨c,h1⟩
 ·rw[jgr names n acc y hy];exact h
theorem jmC {N:List Str} {sc cs:Scope}:∀{r:List Str} {ix:List Nat},Ixs N sc cs r ix->(∀y∈cs.names,y.2=.free->y.1∈r)->∀y∈cs.names,y.2=.free->sc.names.lookup y.1=some .cell\/sc.names.lookup y.1=some .free:=by
 intro r ix t h y hy hk;obtain⟨i,hi⟩:=xcc (h y hy hk);obtain⟨j,_,_,h2,_⟩:=t.get hi;exact h2
structure CompScopeC (N:List Str) (sc:Scope) (N':List Str) (ix:List Nat) (x:Str) (r:List Str) (cs:Scope):Prop where
 eq:N'=x::r
 kind:cs.kind=.function
 hown:∀y∈cs.names,y.2=.cell->cs.names.lookup y.1=some .cell
 hnames:∀y∈cs.names,y.2=.local->cs.names.lookup y.1=some .local
 nd:(x::r).Nodup
 fr:∀y∈cs.names,y.2=.free->sc.names.lookup y.1=some .cell\/sc.names.lookup y.1=some .free
 ixs:Ixs N sc cs r ix
theorem CompScope.nest {N:List Str} {sc:Scope} {N':List Str} {ix:List Nat} {x:Str} {r:List Str} {cs:Scope} (eq:N'=x::r) (kind:cs.kind=.function) (hcell:∀y∈cs.names,y.2≠.cell) (hnames:∀y∈cs.names,y.2=.local->cs.names.lookup y.1=some .local)
  (hx:cs.names.lookup x=some .local) (nd:(x::r).Nodup) (h:∀y∈cs.names,y.2=.free->y.1∈r) (ixs:Ixs N sc cs r ix):CompScope N sc N' ix x r cs:=⟨eq,kind,hcell,hnames,hx,nd,jmC ixs h,ixs⟩
theorem CompScopeC.nest {N:List Str} {sc:Scope} {N':List Str} {ix:List Nat} {x:Str} {r:List Str} {cs:Scope} (eq:N'=x::r) (kind:cs.kind=.function) (hown:∀y∈cs.names,y.2=.cell->cs.names.lookup y.1=some .cell) (hnames:∀y∈cs.names,y.2=.local->cs.names.lookup y.1=some .local)
  (nd:(x::r).Nodup) (h:∀y∈cs.names,y.2=.free->y.1∈r) (ixs:Ixs N sc cs r ix):CompScopeC N sc N' ix x r cs:=⟨eq,kind,hown,hnames,nd,jmC ixs h,ixs⟩
def jaN (X:Cx) (N':List Str) (cs:Scope) (cl:List (Str × Addr)) (s3:Shared) (H3:Hp) (fp:List Addr):Cx :=
 { X with N:=N',s₀:=s3,H₀:=H3,env:=compEnvC cs (cellsFrom (s3.heap.objs.size+1) cs.names cl) s3.heap.objs.size X.env,outer:=X.stack,stack:=X.stack,ex:=fp,fn:=fun y=>cs.names.lookup y==some .cell,pn:=[],xe:=fun _ _=>False }
theorem jdv {env:Env} {cs:Scope} {y:Str} {k:NameKind} (h:(relabel cs env).names.lookup y=some k) (hk:k=.cell\/k=.free):(y,NameKind.free)∈cs.names\/(y,NameKind.cell)∈cs.names:=by
 have m:=PySem.mem_of_lookup h;obtain⟨⟨n,k0⟩,h1,h2⟩:=xah.mp m;by_cases c:(k0==NameKind.free&&env.scope.kind==.function&&env.kindOf n==some .cell)=true
 ·have h2':(n,NameKind.cell)=(y,k):=by rw[<- h2];exact (if_pos c).symm
  cases h2';have:k0=.free:=by
   have z:=(xbA.mp (xbA.mp c).1).1;exact beq_iff_eq.mp z
  rw[this] at h1;exact .inl h1
 ·have h2':(n,k0)=(y,k):=by rw[<- h2];exact (if_neg c).symm
  cases h2';rcases hk with rfl | rfl
  ·exact .inr h1
  ·exact .inl h1
section
variable {X:Cx} {pins:List (Addr × Obj)} {σ:St} {H:Hp} {s:Shared}
theorem Inv.cfs {cs:Scope} {cl:List (Str × Addr)} (I:Inv X pins σ H s) (h2:∀y c,cl.lookup y=some c->X.env.cells.lookup y=some c) :
  CfOk (pushCells (s.heap.push { cls:=.type "dict",data:=.dict #[] }) cs.names).objs.size (cellsFrom (s.heap.objs.size+1) cs.names cl) /\
  ∀y c,(cellsFrom (s.heap.objs.size+1) cs.names cl).lookup y=some c->X.env.cells.lookup y=some c\/((y,NameKind.cell)∈cs.names/\s.heap.objs.size+1<=c/\(pushCells (s.heap.push { cls:=.type "dict",data:=.dict #[] }) cs.names).IsCell c none):=by
 have e:s.heap.objs.size+1=(s.heap.push { cls:=.type "dict",data:=.dict #[] }).objs.size:=(Heap.size_push ..).symm;rw[e];refine⟨jmA _ _ _ ⟨fun y c q=>?_,fun a b c ha hb=>I.ok.inj a b c (h2 a c ha) (h2 b c hb)⟩,fun y c q=>?_⟩
 ·obtain⟨v,o,ho,_⟩:=I.cell y c (h2 y c q);rw[<- e];exact xbn (Heap.lt_size ho)
 ·rcases jgZ _ _ _ y c q with z | z
  ·exact .inl (h2 y c z)
  ·exact .inr z
end
section
variable {X:Cx} {N' r:List Str} {ix:List Nat} {x:Str} {cs:Scope} {tg iter elt:Expr} {ifs:List Expr} {pos:Pos} {wi:TI} {g:TG} {tt:TT} {te:TE}
theorem CompScopeC.clos {sc:Scope} {N:List Str} (S:CompScopeC N sc N' ix x r cs) {env:Env} (he:env.scope=sc) (has:∀y,(env.kindOf y=some .cell\/env.kindOf y=some .free)->∃c,env.cells.lookup y=some c) :
  ∃cl:List (Str × Addr),closureFor cs env=pure cl/\(∀y c,cl.lookup y=some c->env.cells.lookup y=some c)/\(∀y,(y,NameKind.free)∈cs.names->∃c,cl.lookup y=some c) :=
 jdO fun y hy hk=>has y.1 (by
  subst he;exact S.fr y hy hk)
end
end L2
namespace L2
open PySem PyProof.Rows
section
variable {X:Cx} {K:PySem.W.Frag} {tg l:Expr} {tl:TE}
theorem jmD (h:X.K=K) (hl:PE X l tl):PI X tg l (iTup K tl):=h▸jc1 hl
theorem jgt (h:X.K=K) (hc:X.calm=true):CallR X (.builtin "sum") (fun xs H Q=>∃(a:Addr) (ns:List Int),xs=[.ref a]/\SqL K H a (ns.map V.int)/\Q (.int ns.sum) H):=h▸jkD hc
end
end L2
namespace L2
open PySem PySem.Spec PyProof.Rows
section
variable {X:Cx} {pins:List (Addr × Obj)} {σ:St} {H:Hp} {s:Shared} {h':Heap}
theorem Inv.turnedL {t':Nat} {ch:List Addr} (I:Inv X pins σ H s) (k:∀b o,b∉ch->s.heap.get? b=some o->h'.get? b=some o) (hf:∀b∈ch,jgJ X pins H b):Inv X pins σ H { s with heap:=h',toks:=t' }:=by
 have nit:∀b u,H b=some u->b∉ch:=fun b u e z=>by rw[(hf b z).1] at e;cases e
 refine I.step (g':=s.gens) (d':=s.drawn) (ch:=ch) (fun b hb=>⟨(hf b hb).2.2.2.1,(hf b hb).2.1,(hf b hb).2.2.2.2.1,(hf b hb).2.2.2.2.2⟩) (fun b o _ _ hc e _=>k b o hc e) (fun b o _ _ hc e _=>⟨o.slots,k b o hc e⟩) (fun _ _ _ _ n=>n)
  (fun b o hc e=>⟨o,k b o hc e⟩) (fun _ _ e=>e) (fun _ _ _ e=>e) (fun b ps e=>⟨#[],by rw[e];simp⟩) (fun m hm=>?_) (fun b u e=>?_) I.bare
 ·obtain⟨o,es,ep,ho,r⟩:=hm;exact⟨o,es,ep,k _ o (fun z=>(hf _ z).2.1 rfl) ho,r⟩
 ·refine (I.hok b u e).stay (fun c v hc q=>k c v ?_ q) (fun _ q=>q) fun _ _ q=>q;rcases hc with z | z
  ·rw[z];exact nit b u e
  ·exact nit c _ z
end
def Ite (K:PySem.W.Frag) (a:Addr):It :=
 ⟨fun i H=>∃xs x,SqL K H a xs/\xs[i]?=some x,fun i H x H'=>∃T v,x=.ref T/\H T=none/\H'=upd H T (.tup [.int i,v])/\∀xs,SqL K H a xs->xs[i]?=some v,fun i H=>∃xs,SqL K H a xs/\xs.length<=i⟩
theorem ji6 {P:Program} {w:World} {K:PySem.W.Frag} {elts:List Expr} {x1:Nat} {tpos:Pos} (a e it:Addr) (hei:e≠it):Turn P w K (.Tuple elts x1 tpos) (Ite K a) [e,it] e (fun i h=>(∃old,IsEnum h e it (i:Nat) old)/\h.IsListIter it a i) where
 mem:=by simp
 obj:=fun i h st b hb=>by
  obtain⟨⟨old,he⟩,o,e1,c,d⟩:=st;rcases xam.mp hb with rfl | hb
  ·exact⟨_,he,fun v z=>by
    have z':Data.fields _=Data.cell v:=z;cases z'⟩
  ·have e2:b=it:=by simpa using hb
   subst e2;exact⟨o,e1,fun v z=>by rw[d] at z;cases z⟩
 keep:=fun i h h' st k=>by
  obtain⟨⟨old,he⟩,hi⟩:=st;exact⟨⟨old,k e (by simp) _ he⟩,hi.at fun o q=>k it (by simp) o q⟩
 item:=by
  intro X hP hw hK hc i pins s σ H E I hf st hg;subst hP hw hK;obtain⟨⟨old,he⟩,hit⟩:=st;obtain⟨xs,x,hq,hx⟩:=hg;obtain⟨its,rv,p,hz⟩:=I.list hq;obtain⟨u,hu,ru⟩:=rv.get hx;have heS:e<s.heap.objs.size:=Heap.lt_size he;have hiS:it<s.heap.objs.size:=by
   obtain⟨o,e1,_⟩:=id hit;exact Heap.lt_size e1
  refine wpAny_pyNext_enum_item he hit p.isList (x:=u) (by simpa using hu) hei fun h₁ heo hit₁ ht₁ hz₁ hk₁=>?_;refine⟨_,rfl,wpAny_letOwnedTupleGo_enum heo fun h₂ he₂ hs₂=>?_⟩;have fr:H s.heap.objs.size=none:=I.hok.fresh (xaj _);have I1:Inv X pins σ (upd H s.heap.objs.size (.tup [.int i,x])) { s with heap:=s.heap.push { cls:=.type "tuple",data:=.seq #[.int i s.toks,u] } } :=
   I.laid (t':=s.toks) (fun b o q=>Heap.get?_push_of_some _ q) (xaj _) ⟨(show 2<=sizeLine by decide),[.int i s.toks,u],.cons ⟨_,rfl⟩ (.cons ru .nil),⟨_,Heap.get?_push_size _ rfl,rfl,_,rfl⟩⟩
  have nT:∀b∈[e,it],b≠s.heap.objs.size:=fun b hb=>by
   rcases xam.mp hb with rfl | hb
   ·exact xax heS
   ·have e2:b=it:=by simpa using hb
    rw[e2];exact xax hiS
  have hf1:∀b∈[e,it],jgJ X pins (upd H s.heap.objs.size (.tup [.int i,x])) b:=fun b hb=>⟨by rw[jaw (nT b hb)];exact (hf b hb).1,(hf b hb).2⟩;have I2:Inv X pins σ (upd H s.heap.objs.size (.tup [.int i,x])) { s with heap:=h₂,toks:=s.toks+1 }:=Inv.turnedL (s:={ s with heap:=s.heap.push { cls:=.type "tuple",data:=.seq #[.int i s.toks,u] } }) (h':=h₂) (t':=s.toks+1) (ch:=[e,it]) I1 (fun b o hb q=>by
   have nb1:b≠e:=fun z=>hb (by simp [z]);have nb2:b≠it:=fun z=>hb (by simp [z]);refine hs₂.extBut b o nb1 ?_;have q2:(s.heap.push { cls:=.type "tuple",data:=.seq #[.int i s.toks,u] }).get? b=some o:=q;rcases Heap.get?_push_cases q2 with ⟨rfl,rfl⟩ | q'
   ·exact ht₁
   ·exact hk₁ b o nb1 nb2 q') hf1
  refine⟨.ref s.heap.objs.size,_,I2,rfl,(show (Ite X.K a).yld i H _ _ from ⟨_,x,rfl,fr,rfl,fun ys hy=>by rw[I.list_inj hy hq];exact hx⟩),⟨⟨u,?_⟩,hit₁.extBut hs₂.extBut (Ne.symm hei)⟩,fun b hb=>(hf1 b hb).1⟩;exact he₂
 done:=by
  intro X hP hw hK hc i pins s σ H E I hf st hg;subst hP hw hK;obtain⟨⟨old,he⟩,hit⟩:=st;obtain⟨xs,hq,hx⟩:=hg;obtain⟨its,rv,p,hz⟩:=I.list hq;have hl:=rv.length;exact wpAny_pyNext_enum_end (I.ok.hd hc) he hit p.isList (by simp;omega) fun h' eb=>⟨rfl,I.turnedL (ch:=[it]) (t':=s.toks) (fun b o hb q=>eb b o (fun z=>hb (by simp [z])) q) fun b hb=>hf b (by simp at hb;simp [hb])⟩
 self:=fun _ _ _ _ _ st h=>by
  obtain⟨⟨old,he⟩,_⟩:=st;exact wpAny_pyIter_enum he h
section
variable {X:Cx} {elts:List Expr} {x1:Nat} {tpos:Pos}
def jn9 (K:PySem.W.Frag) (ta:TA):TI:=fun σ H R=>ta σ H fun vs H1=>∃a,vs=[.ref a]/\(∃xs,SqL K H1 a xs)/\R (Ite K a) H1
theorem jmE {l:Expr} {ta:TA} {p pos:Pos} (hg:Gl X "enumerate") (hm:X.mg "enumerate"=none) (ha:PA X [l] ta) (hs:starEach [l] X.env=[(false,eval l X.env)]:=by rfl):PI X (.Tuple elts x1 tpos) (.Call (.Name "enumerate" p) [l] [] pos) (jn9 X.K ta):=by
  intro pins s σ H R I h;refine Call_ (jd8 I hg hm boot_enumerate (PyProof.Rows.callWith_type1 (thn (ha pos pins s σ H _ I h) fun us s1 ⟨vs,H1,I1,r1,q1⟩=>?_) hs rfl));obtain⟨a,e,⟨xs,hq⟩,q⟩:=q1;subst e;cases r1 with
  | cons r rr =>
    cases rr;cases r;obtain⟨its,rv,pl,hz⟩:=I1.list hq;refine call_enumerate_list pl.isList fun h' he hit hsz hk=>?_;refine wpAny_pyIter_enum he ?_;have I2:Inv X pins σ H1 { s1 with heap:=h' }:=I1.kept (t':=s1.toks) hk;refine⟨s1.heap.objs.size+1,[s1.heap.objs.size+1,s1.heap.objs.size],_,_,H1,rfl,I2,ji6 a _ _ (Nat.succ_ne_self _),⟨⟨_,he⟩,hit⟩,fun b hb=>?_,q⟩;rcases xam.mp hb with rfl | hb
    . exact I1.fpOk (xb4 _) (I1.hok.fresh (xb4 _))
    . have e2:b=s1.heap.objs.size:=by simpa using hb
      subst e2;exact I1.fpOk (xaj _) (I1.hok.fresh (xaj _))
end
section
variable {K:PySem.W.Frag} {ta:TA} {tl:TE} {g:TG} {tb:TS} {D:Ends} {σ:St} {H:Hp}
theorem jlE:jlo (jn9 K ta) g tb D σ H=ta σ H fun vs H1=>∃a,vs=[.ref a]/\(∃xs,SqL K H1 a xs)/\jkA (Ite K a) g tb D σ H1:=rfl
theorem jkH {a:Addr} {xs:List V} (Pv:Nat->St->Hp->Prop) (h0:Pv 0 σ H) (hl:∀i σ H,i<=xs.length->Pv i σ H->SqL K H a xs)
  (hs:∀i x σ H T,xs[i]?=some x->Pv i σ H->H T=none->g (.ref T) σ (upd H T (.tup [.int i,x])) fun σ2 H2=>tb { D with nx:=Pv (i+1),ct:=Pv (i+1),bk:=D.nx } σ2 H2) (hd:∀σ H,Pv xs.length σ H->D.nx σ H) :
  jkA (Ite K a) g tb D σ H:=by
 refine⟨fun i m σ H=>m=xs.length-i/\i<=xs.length/\Pv i σ H,⟨xs.length,by simp,xaY _,h0⟩,?_⟩;rintro i m σ H ⟨rfl,hi,p⟩;have q:=hl i σ H hi p;by_cases h:i<xs.length
 ·refine .inr ⟨⟨xs,xs[i],q,xac h⟩,Pv (i+1),fun σ' H' z=>⟨xs.length-(i+1),by omega,rfl,by omega,z⟩,?_⟩;rintro x H' ⟨T,v,rfl,hT,rfl,hv⟩;have e:=hv xs q;exact hs i v σ H T e p hT
 ·have e:i=xs.length:=by omega
  subst e;exact .inl ⟨⟨xs,q,xaj _⟩,hd σ H p⟩
end
structure XCls (K:PySem.W.Frag) (C:Addr):Prop where
 cls:(PySem.W.clsIn K C).isSome=true
 ga:PySem.W.findIn K (.ref C) "__getattribute__"=some (some (.builtin "BaseException.__getattribute__"))
 gh:PySem.W.findIn K (.ref C) "__getattr__"=some none
 be:PySem.W.subIn K (.ref C) (.type "BaseException")=some true
 ca:PySem.W.findIn K (.ref C) "__class__"=some (some (.builtin "object.__class__"))
 cg:PySem.W.specialIn K (.builtin "object.__class__") "__get__"=some (some (.builtin "getset_descriptor.__get__"))
 ct:PySem.W.takesIn K (.builtin "object.__class__")=some true
 ob:PySem.W.mroIn K C (.type "object")=some true
section
variable {prog:Program} {w:World} {A:Around} {E:Value->Shared->Prop} {K:PySem.W.Frag} {x C:Addr} {ox:Obj} {od:Option Obj} {s:Shared} {name:Str} {tk:Tok} {v:Value}
theorem ji7 {M:Model} {nameV:Value} {Q:Unit->Shared->Prop} (X:K.In s.heap) (Z:XCls K C) (I:PySem.W.InstAt s.heap x ox C od) (hq:Q () s) :
  wpAny M A (checkBuiltinCall "BaseException.__getattribute__" ⟨[.ref x,nameV],[]⟩) Q E s:=by
 have hk:builtinKind "BaseException.__getattribute__"=some .slot:=by decide +kernel
 have hsplit:splitId "BaseException.__getattribute__"=some ("BaseException","__getattribute__"):=by decide +kernel
 have ha:=F.args_bexc_ga (.ref x) nameV;have L0:=I.type (M:=M);have L1:=PySem.W.looks_subIn (M:=M) X Z.be;obtain⟨h,g,d,t,os⟩:=s;simp only[checkBuiltinCall,hk,hsplit];refine wpAny_bind ?_;unfold isInstance;refine wpAny_bind (L0.at (L1.at ?_))
 repeat (first | exact hq | wp_step)
theorem joa {fill expr:Bool} {Q:Value->Shared->Prop} (X:K.In s.heap) (Z:XCls K C) (I:PySem.W.InstAt s.heap x ox C od) (hh:PySem.W.handedIn v=true)
  (hin:∀(A:Around) (Q:Fin->Shared->Prop) (E:Value->Shared->Prop),Q (.done (.ret v)) s->wpAny (model prog w) A (Builtin.«object.__getattribute__» ⟨[.ref x,.str name tk],[]⟩) Q E s) (hq:Q v s) :
  wpAny (model prog w) A (getAttrBy (.ref x) (.str name tk) fill expr) Q E s:=by
 have FB:=F.excAttr_ValueError;have f3:=FB.ga.bind (.ref x);have hx0:(expr&&onTheHeap (Value.builtin "BaseException.__getattribute__"))=false:=by cases expr<;>rfl
 have hx2:(Value.builtin "BaseException.__getattribute__"==Value.builtin "object.__getattribute__")=false:=by decide +kernel
 have hx1:(onTheHeap (Value.ref C)&&Value.builtin "BaseException.__getattribute__"==Value.builtin "object.__getattribute__")=false:=by rw[hx2];rfl
 have L0:=I.type (M:=model prog w);have L1:=PySem.W.looks_findIn (M:=model prog w) X Z.ga;have L2:=PySem.W.looks_findIn (M:=model prog w) X Z.gh;have hcall:∀(A:Around) (R:Result->Shared->Prop),R (.ok (.ret v)) s->codeAny (model prog w) A (.call (.builtin "BaseException.__getattribute__") ⟨[.ref x,.str name tk],[]⟩) R s:=fun A R hR =>
  codeAny_call_builtin FB.ga.plain F.entry_bexc_ga (ji7 X Z I (hin _ _ _ hR))
 have hho:=PySem.W.handedOut_of hh;obtain⟨h,g,d,t,os⟩:=s;unfold getAttrBy;refine wpAny_holding (wpAny_bind (L0.at (wpAny_bind (L1.at ?_))));show wpAny _ _ (if (onTheHeap (Value.ref C)&&Value.builtin "BaseException.__getattribute__"==Value.builtin "object.__getattribute__")=true then _ else _) _ _ _;rw[if_neg (by rw[hx1];exact xat)];unfold getAttrByItsOwn hookBefore;refine wpAny_bind ?_;show wpAny _ _ (typeLookup (.ref C) "__getattr__") _ _ _;refine L2.at ?_;refine wpAny_bind (wpAny_attempt (wpAny_holding ?_));unfold callGetattribute;rw[if_neg (by rw[hx0];exact xat)];unfold boundAndCalled;refine wpAny_bind (wpAny_of_eq f3 ?_);refine wpAny_call (hcall _ _ ?_);show wpAny _ _ (handedOut v) _ _ _;rw[hho];exact wpAny_pure hq
end
def jcn (C t:Addr) (d:Option Addr):Obj:={ cls:=.ref C,dict:=d,data:=.fields #[.ref t,.none,.none,.none,.bool false,.none] }
def jkj (a C:Addr):HO:=.ext fun h=>∃o,h.get? a=some o/\∃t,o=jcn C t none
def jio (a C dx:Addr):HO:=.ext fun h=>∃o,h.get? a=some o/\∃t,o=jcn C t (some dx)
section
variable {P:Program} {w:World} {H:Hp} {h h':Heap} {a:Addr} {o:HO}
theorem ObjOk.get (x:ObjOk P w H h a o):∃ob,h.get? a=some ob:=by
 cases o with
 | lst xs=>obtain⟨_,_,_,_,e⟩:=x;exact⟨_,e⟩
 | tup xs=>obtain⟨_,_,_,ob,e,_⟩:=x;exact⟨_,e⟩
 | dK kvs=>obtain⟨_,_,_,_,o,_,_,e,_⟩:=x;exact⟨_,e⟩
 | dT kvs=>obtain⟨_,_,_,_,o,_,_,e,_⟩:=x;exact⟨_,e⟩
 | set S n=>obtain⟨o,_,_,_,e,_⟩:=x;exact⟨_,e⟩
 | ins C dx fs=>obtain⟨_,_,_,e,_⟩:=x;exact⟨_,e⟩
 | own y=>exact x
 | xd fs=>obtain⟨_,⟨_,_,_,e,_⟩,_⟩:=x;exact⟨_,e⟩
 | rng lo hi=>obtain⟨_,_,_,e⟩:=x;exact⟨_,e⟩
 | frz ob u=>obtain⟨e,_⟩:=x;exact⟨_,e⟩
 | tbl ps=>exact⟨_,(show h.get? a=some _ from x)⟩
 | met f y=>exact⟨_,(show h.get? a=some _ from x)⟩
 | ext φ=>obtain⟨_,e,_⟩:=x;exact e
theorem HOk.freshN (x:HOk P w H h) (e:h.get? a=none):H a=none:=by
 cases q:H a with
 | none=>rfl
 | some u=>obtain⟨_,z⟩:=(x a u q).get;rw[e] at z;cases z
theorem HOk.laidN (x:HOk P w H h) (k:∀b u,h.get? b=some u->h'.get? b=some u) (hp:h.get? a=none) (new:ObjOk P w (upd H a o) h' a o):HOk P w (upd H a o) h':=fun b u e=>by
 have hn:=x.freshN hp;by_cases hb:b=a
 ·subst hb;rw[jak] at e;cases e;exact new
 ·rw[jaw hb] at e;exact (x b u e).stay (fun c v _ q=>k c v q) (fun c q=>by rw[jaw (jaD q hn)];exact q) fun c xs q=>by rw[jaw (jaD q hn)];exact q
theorem Un.laidN {fs ex:List Addr} (k:∀b u,h.get? b=some u->h'.get? b=some u) (hp:h.get? a=none) (hn:H a=none):Un fs ex H (upd H a o) h h' where
 keep:=fun b u q _ _ _=>k b u q
 slot:=fun b u q _ _ _=>⟨u.slots,k b u q⟩
 free:=fun b u q n _=>by rw[jaw (fun z=>by rw[z,hp] at q;cases q)];exact n
 there:=fun b u q _=>⟨u,k b u q⟩
 tups:=fun b xs q=>by rw[jaw (jaD q hn)];exact q
 frzs:=fun b u xs q=>by rw[jaw (jaD q hn)];exact q
 tbls:=fun b ps q=>⟨#[],by rw[jaw (jaD q hn),q];simp⟩
end
section
variable {X:Cx} {pins:List (Addr × Obj)} {σ:St} {H:Hp} {s:Shared} {h':Heap} {C:Addr} {x:Str} {p pos:Pos} {e:Expr} {es:List Expr} {t:TA}
theorem Inv.laidN {a:Addr} {o:HO} {t':Nat} (I:Inv X pins σ H s) (k:∀b u,s.heap.get? b=some u->h'.get? b=some u) (hp:s.heap.get? a=none) (new:ObjOk X.prog X.w (upd H a o) h' a o) :
  Inv X pins σ (upd H a o) { s with heap:=h',toks:=t' }:=I.un (Un.laidN k hp (I.hok.freshN hp)) (I.hok.laidN k hp new)
theorem ji8 {P:Program} {w:World} {h:Heap} {a:Addr} {φ:Obj->Prop} {ob:Obj} (e:h.get? a=some ob) (q:φ ob):ObjOk P w H h a (.ext fun h=>∃o,h.get? a=some o/\φ o) :=
 ⟨⟨ob,e,q⟩,⟨ob,e⟩,fun h1 h2 ⟨o,e1,q1⟩ k=>⟨o,k o e1,q1⟩⟩
theorem Inv.madeX {ea:Addr} {vs:List Value} {t':Nat} (I:Inv X pins σ H s) (m:Heap.MadeExcOf s.heap h' ea (.ref C) vs):Inv X pins σ (upd H ea (jkj ea C)) { s with heap:=h',toks:=t' }:=by
 obtain⟨tt,et,_,_⟩:=m.there;exact I.laidN m.keeps m.new (ji8 (φ:=fun o=>∃t,o=jcn C t none) et ⟨tt,rfl⟩)
end
def jdg:List Value->Bool
 | [.type a,.type b,.type c,.type d]=>a=="ValueError"&&b=="Exception"&&c=="BaseException"&&d=="object"
 | .ref _::r=>jdg r
 | _=>false
theorem jfi (self:Value):∀{l:List Value},jdg l=true->PySem.refuseLoop self "__setattr__" l=pure ()
  | [.type a, .type b, .type c, .type d], e => by
    unfold jdg at e;simp only[xbk,beq_iff_eq] at e;obtain⟨⟨⟨rfl,rfl⟩,rfl⟩,rfl⟩:=e
    kernel_rfl
  | .ref c::r,e=>by rw[PySem.refuseLoop_ref];exact jfi self (by first | exact e | (rcases r with _ | ⟨a,r⟩<;>first | exact e | cases e))
theorem jeF:∀{l:List Value},jdg l=true->l.contains (.type "object")=true
  | [.type a, .type b, .type c, .type d], e => by
    unfold jdg at e;simp only[xbk,beq_iff_eq] at e;obtain⟨⟨⟨rfl,rfl⟩,rfl⟩,rfl⟩:=e;decide +kernel
  | .ref c::r,e=>by rw[List.contains_cons,jeF (l:=r) (by first | exact e | (rcases r with _ | ⟨a,r⟩<;>first | exact e | cases e)),Bool.or_true]
structure XAttr (K:PySem.W.Frag) (C:Addr) (f:Str):Prop where
 sa:PySem.W.findIn K (.ref C) "__setattr__"=some (some (.builtin "object.__setattr__"))
 po:((PySem.W.clsIn K C).any fun cd=>jdg cd.mro)=true
 hd:PySem.W.hasDictIn K C=true
 no:PySem.W.findIn K (.ref C) f=some none
section
open PySem.W PySem.Calls PySem.Builtin PySem.Builtin.ObjectAttr
variable {prog:Program} {w:World} {A:Around} {K:PySem.W.Frag} {x C:Addr} {ox:Obj} {od:Option Obj} {s:Shared} {name:Str} {tk:Tok} {v:Value} {R:Result->Shared->Prop}
theorem jmF (X:K.In s.heap) (I:PySem.W.InstAt s.heap x ox C od) (Z:XAttr K C name)
  (h:∀b,wpAny (model prog w) A.in1 (storeInOwnDict (.ref x) (.ref C) (.str name tk) name v b)
   (fun fin s'=>match fin with | .done f=>R (.ok f) s' | .again c'=>c'.quiet=true/\codeAny (model prog w) A c' R s') (fun e s'=>R (.error e) s') s) :
  codeAny (model prog w) A (.call (.builtin "object.__setattr__") ⟨[.ref x,.str name tk,v],[]⟩) R s:=by
 have SF:=PySem.F.store_object;obtain⟨cd,hc,ho⟩:=any_some Z.po;have ne:cd.mro.isEmpty=false:=by cases q:cd.mro with | nil=>rw[q] at ho;cases ho | cons _ _=>rfl
 have sub:Looks (model prog w) s.heap (isInstance (.ref x) (.type "object")) true:=I.type.andThen (looks_mroIn X (by unfold mroIn;rw[hc,Option.bind_some,if_neg (by rw[ne];decide),jeF ho]));refine codeAny_call_builtin SF.slot.plain SF.entry (@check_slot (model prog w) _ _ s "object.__setattr__" "object" "__setattr__" (.ref x) [.str name tk,v] [] _ SF.kind SF.split sub (SF.args (.ref x) (.str name tk) v) ?_);have hm:Looks (model prog w) s.heap (mroOf (.ref C)) cd.mro:=(looks_clsIn X hc).andThen .now;have L3:Looks (model prog w) s.heap (storeTaker? none) none:=.now;rw[osa_eq,refuse_eq];refine wpAny_bind (wpAny_bind (I.type.here (wpAny_bind (hm.here ?_))));rw[jfi _ ho];refine wpAny_pure (wpAny_bind (I.type.here (wpAny_bind ((looks_findIn X Z.no).here (wpAny_bind (L3.here ?_))))));exact h _
end
section
variable {X:Cx} {pins:List (Addr × Obj)} {σ:St} {H:Hp} {s:Shared} {a C dx:Addr} {f:Str} {A:Around} {E:Value->Shared->Prop}
theorem jg0 {y:V} {u:Value} {Q:Unit->Shared->Prop} (I:Inv X pins σ H s) (e:H a=some (jkj a C)) (Z:XAttr X.K C f) (ry:RelV y u)
  (h:∀dx s',H dx=none->Inv X pins σ (upd (upd H dx (.xd [(f,y)])) a (jio a C dx)) s'->Q () s'):wpAny (model X.prog X.w) A (setAttr (.ref a) f u) Q E s:=by
 obtain⟨⟨o,hx,t,rfl⟩,_⟩:=(show ObjOk X.prog X.w H s.heap a (jkj a C) from I.hok a _ e);have J:PySem.W.InstAt s.heap a (jcn C t none) C none:=⟨hx,rfl,rfl,trivial⟩;have XK:=I.kIn;refine PySem.W.set_plain XK J Z.sa (jmF (s:={ s with toks:=s.toks+1 }) XK J Z fun b=>?_);obtain⟨cd,hc,hd'⟩:=PySem.W.any_some Z.hd;refine wpAny_bind (wpAny_pure (wpAny_bind (wpAny_bind (wpAny_loadPart hx (wpAny_bind (PySem.W.Looks.here (s:={ s with toks:=s.toks+1 }) (PySem.W.looks_clsIn XK hc) ?_))))));rw[hd'];have hx1:(s.heap.push { cls:=.type "dict",data:=.dict #[] }).get? a=some (jcn C t none):=Heap.get?_push_of_some _ hx;have ne:a≠s.heap.objs.size:=xax (Heap.lt_size hx);show wpAny _ _ (alloc { cls:=.type "dict",data:=.dict #[] } >>= fun d=>update a (fun o=>{ cls:=o.cls,dict:=some d,data:=o.data,slots:=o.slots }) >>= fun _=>dictMade (.ref C) a d) _ _ _;refine wpAny_bind (wpAny_alloc (wpAny_bind (wpAny_update (o:=jcn C t none) hx1 ?_)));refine wpAny_pure (a:=some s.heap.objs.size) (wpAny_bind (wpAny_pure (wpAny_bind ?_)));have hn0:((s.heap.push { cls:=.type "dict",data:=.dict #[] }).update a (fun o=>{ cls:=o.cls,dict:=some s.heap.objs.size,data:=o.data,slots:=o.slots })).Ns1 s.heap.objs.size (fun _=>none):=by
  refine Heap.Ns1.of_empty ⟨{ cls:=.type "dict",data:=.dict #[] },#[],_,?_,rfl,fun e he=>absurd he (by simp),fun _=>rfl⟩;rw[Heap.get?_update_other _ _ ne];exact Heap.get?_push_at rfl rfl
 refine wpAny_nsSet1 (s:={ s with heap:=(s.heap.push { cls:=.type "dict",data:=.dict #[] }).update a (fun o=>{ cls:=o.cls,dict:=some s.heap.objs.size,data:=o.data,slots:=o.slots }),toks:=s.toks+1 }) hn0 fun h' hn2 hs2=>?_;obtain⟨oD,esD,epD,hoD,hdD,hcD⟩:=hn2.count (PySem.Within.cons f u PySem.Within.nil);refine wpAny_bind (wpAny_lookBehind hoD (by rw[hdD];exact pastItsLine_dict (xaX hcD (by rw[xaw,sizeLine_eq];decide))) ?_);refine wpAny_pure ?_;have hnd:H s.heap.objs.size=none:=I.hok.fresh (xaj _);refine h s.heap.objs.size _ hnd ?_;have ha':h'.get? a=some (jcn C t (some s.heap.objs.size)):=by
  rw[hs2.2 a ne];exact Heap.get?_update_self _ hx1 rfl
 have k:∀b v,b≠a->s.heap.get? b=some v->h'.get? b=some v:=fun b v hb q=>by
  rw[hs2.2 b (xax (Heap.lt_size q)),Heap.get?_update_other _ _ (Ne.symm hb)];exact Heap.get?_push_of_some _ q
 have nd:∀b v,H b=some v->b≠s.heap.objs.size:=fun b v q=>jaD q hnd;have na:∀b v,H b=some v->v≠jkj a C->b≠a:=fun b v q z=>ne_of q e z;have up:∀b v,H b=some v->v≠jkj a C->upd (upd H s.heap.objs.size (.xd [(f,y)])) a (jio a C s.heap.objs.size) b=some v:=fun b v q z=>by
  rw[jaw (na b v q z),jaw (nd b v q)];exact q
 refine I.un (t':=s.toks+2) ⟨fun b v q n _ _=>k b v (fun z=>by rw[z,e] at n;cases n) q,fun b v q n _ _=>⟨v.slots,k b v (fun z=>by rw[z,e] at n;cases n) q⟩,fun b v q n _=>?_,fun b v q _=>?_,
  fun b xs q=>up b _ q (fun z=>nomatch z),fun b u xs q=>up b _ q (fun z=>nomatch z),fun b ps q=>⟨#[],by rw[up b _ q (fun z=>nomatch z)];simp⟩⟩ fun b v q=>?_
 ·rw[jaw (fun z=>by rw[z,e] at n;cases n),jaw (xax (Heap.lt_size q))];exact n
 ·by_cases hb:b=a
  ·rw[hb];exact⟨_,ha'⟩
  ·exact⟨v,k b v hb q⟩
 ·by_cases hb:b=a
  ·subst hb;rw[jak] at q;cases q;exact ji8 (φ:=fun o=>∃t,o=jcn C t (some s.heap.objs.size)) ha' ⟨t,rfl⟩
  ·rw[jaw hb] at q;by_cases hb2:b=s.heap.objs.size
   ·subst hb2;rw[jak] at q;cases q;refine⟨_,hn2,fun g=>?_⟩;by_cases hg:g=f
    ·subst hg;simp [List.lookup];exact ry
    ·rw[if_neg hg,xaP,show (g==f)=false from beq_false_of_ne hg];exact trivial
   ·rw[jaw hb2] at q;refine (I.hok b v q).stay (fun c w hcc r=>k c w ?_ r) (fun c r=>up c _ r (fun z=>nomatch z)) fun c xs r=>up c _ r (fun z=>nomatch z);rcases hcc with z | z
    ·rw[z];exact hb
    ·exact na c _ z (fun z=>nomatch z)
end
section
variable {X:Cx} {o e value:Expr} {f:Str} {pos pos':Pos} {ta tv:TE}
def sFldX (K:PySem.W.Frag) (ta tv:TE) (f:Str):TS:=fun D σ H=>tv σ H fun y H1=>ta σ H1 fun x H2=>∃a C,x=.ref a/\H2 a=some (jkj a C)/\XAttr K C f/\∀dx,H2 dx=none->D.nx σ (upd (upd H2 dx (.xd [(f,y)])) a (jio a C dx))
theorem jmG (ha:PE X o ta) (hv:PE X value tv) (hs:swapsWith value (some (.Attribute o f pos')) pos.line X.env=pure false:=by rfl):PS X (.Assign [.Attribute o f pos'] value pos) (sFldX X.K ta tv f):=by
 intro pins s σ H D I h;refine plainObj_wpAny_Assign_Attribute (thn (hv pins s σ H _ I h) fun u s1 ⟨y,H1,I1,ry,q⟩=>thn (ha pins s1 σ H1 _ I1 q) fun ov s2 ⟨x,H2,I2,rx,a,C,ex,ea,n,q2⟩=>?_) hs;subst ex;obtain rfl:ov=Value.ref a:=rx;exact jg0 I2 ea n ry fun dx s3 hd I3=>⟨σ,_,I3,q2 dx hd⟩
end
def jhB (K:PySem.W.Frag) (C:Addr) (bmB:List Value) (newId:String) (f:Addr):Bool:=match K.lookup C with
  | some ⟨.type "type", _, .cls cd, sl⟩ => (match cd.mro, sl.toList with
    | .ref C'::bm,[_,_,_,_,some (.builtin n),_]=>C'==C&&n==newId&&!cd.hasDel&&PySem.W.tailIn K bmB bm&&PySem.W.nsOkIn K cd.ns&&PySem.W.nsIn K cd.ns "__init__"==some (some (.ref f))
    | _,_=>false)
  | _=>false
structure ExcI (K:PySem.W.Frag) (C f:Addr) (B newId initId:String) (bmB:List Value):Prop where
 at_:jhB K C bmB newId f=true
 base:ExcBaseFacts B newId initId bmB
 fn:PySem.W.isFn K (.ref f)=true
 kp:PySem.W.keepIn K (.ref C)=true
section
variable {prog:Program} {w:World} {A:Around} {E:Value->Shared->Prop} {h:Heap} {g:Array GenState} {d:Drawn} {t:Nat} {os:OsState}
variable {nm q:Str} {C N:Addr} {bs bm bmB:List Value} {hdct:Bool} {sn:List Str} {sub:List Value} {ab:Bool} {col:Option Bool} {dd:Option Addr} {k0 k1 k2 k3 k5:Option Value} {B newId initId:String}
theorem jeG (F:ExcBaseFacts B newId initId bmB) (T:OwnTail h bmB bm) {mN:Str->Option Value} {rest:List Value} {fI:Addr} {oI:Obj} {Q:Fin->Shared->Prop}
  (hC:h.get? C=some (excClassObj nm q C N bs bm hdct sn sub ab col dd k0 k1 k2 k3 k5 newId)) (hn:h.Ns N mN) (hi:mN "__init__"=some (.ref fI))
  (hfI:h.get? fI=some oI) (hfc:oI.cls=.type "function")
  (hq:∀h' e,Heap.MadeExcOf h h' e (.ref C) rest ->
   wpAny (model prog w) A (call (.ref fI) (.ref e::rest)) (fun r s'=>r=.none/\Q (.done (.ret (.ref e))) s') E ⟨h',g,d,t,os⟩) (hrest:rest.length<=sizeLine) :
  wpAny (model prog w) A (Builtin.«type.__call__» ⟨.ref C::rest,[]⟩) Q E ⟨h,g,d,t,os⟩:=by
 repeat (first | with_reducible refine wpAny_loadPart_at hC ?_ | with_reducible refine wpAny_madeBy_exc hC ?_ | wp_step)
 refine codeAny_call_builtin_code (Code.quiet_builtin _ F.quiet) (wpAny_check_new_subT F T hC ?_);refine codeAny_exc_new_subT F T hC ?_ hrest;show wpAny _ _ _ _ _ _;have hC₁:=Heap.get?_push_of_some { cls:=.ref C,data:=.fields #[.ref h.objs.size,.none,.none,.none,.bool false,.none] }
  (Heap.get?_push_of_some { cls:=.type "tuple",data:=.seq rest.toArray } hC)
 have hfI₁:=Heap.get?_push_of_some { cls:=.ref C,data:=.fields #[.ref h.objs.size,.none,.none,.none,.bool false,.none] }
  (Heap.get?_push_of_some { cls:=.type "tuple",data:=.seq rest.toArray } hfI)
 have hn₁:((h.push { cls:=.type "tuple",data:=.seq rest.toArray }).push { cls:=.ref C,data:=.fields #[.ref h.objs.size,.none,.none,.none,.bool false,.none] }).Ns N mN :=
  let ⟨o,es,ep,e,r⟩:=hn;⟨o,es,ep,Heap.get?_push_of_some _ (Heap.get?_push_of_some _ e),r⟩
 have hget:((h.push { cls:=.type "tuple",data:=.seq rest.toArray }).push
   { cls:=.ref C,data:=.fields #[.ref h.objs.size,.none,.none,.none,.bool false,.none] }).get? (h.objs.size+1)=some
   { cls:=.ref C,data:=.fields #[.ref h.objs.size,.none,.none,.none,.bool false,.none] }:=by heap_get
 have hcC:(Value.ref C::bm).contains (.ref C)=true:=by simp
 have T₁:=T.keeps (h':=(h.push { cls:=.type "tuple",data:=.seq rest.toArray }).push { cls:=.ref C,data:=.fields #[.ref h.objs.size,.none,.none,.none,.bool false,.none] })
  fun b o e=>Heap.get?_push_of_some _ (Heap.get?_push_of_some _ e)
 unfold isInstance
 repeat (first | with_reducible refine wpAny_loadPart_at hget ?_ | (with_reducible refine wpAny_isSubtype_exc hC₁ ?_;rw[hcC]) | wp_step)
 show wpAny _ _ (typeLookup (.ref C) _) _ _ _;refine wpAny_typeLookup_tail hC₁ hn₁ T₁ F.mroIs F.init.lookup ?_;rw[hi];refine wpAny_holding (wpAny_bind ?_);unfold bindSpecial;refine wpAny_bind (wpAny_typeOf (T:="function") ⟨_,hfI₁,hfc⟩ ?_);rw[if_pos (by decide)];refine wpAny_pure (wpAny_bind (wpAny_mono (hq _ (h.objs.size+1) ⟨fun b o hb=>Heap.get?_push_of_some _ (Heap.get?_push_of_some _ hb),Heap.get?_none_of_le (xb4 _),h.objs.size,hget,Heap.get?_none_of_le (xaj _),?_⟩) (fun r s' hr=>?_) fun _ _ x=>x))
 ·exact Heap.get?_push_of_some _ (Heap.get?_push_at rfl rfl)
 ·obtain⟨rfl,hQ⟩:=hr
  wp_walk
  exact hQ
theorem jh8 (F:ExcBaseFacts B newId initId bmB) (T:OwnTail h bmB bm) {mN:Str->Option Value} {rest:List Value} {fI:Addr} {oI:Obj} {Q:Value->Shared->Prop}
  (hC:h.get? C=some (excClassObj nm q C N bs bm hdct sn sub ab col dd k0 k1 k2 k3 k5 newId)) (hn:h.Ns N mN) (hi:mN "__init__"=some (.ref fI))
  (hfI:h.get? fI=some oI) (hfc:oI.cls=.type "function")
  (hq:∀h' e,Heap.MadeExcOf h h' e (.ref C) rest ->
   wpAny (model prog w) (A.under (.builtin "type.__call__" ⟨.ref C::rest,[]⟩)) (call (.ref fI) (.ref e::rest)) (fun r s'=>r=.none/\Q (.ref e) s') E ⟨h',g,d,t,os⟩) (hrest:rest.length<=sizeLine) :
  wpAny (model prog w) A (call (.ref C) rest) Q E ⟨h,g,d,t,os⟩:=by
 have f1:=tc_lookup;have f2:=tc_bind (.ref C);have hT:(⟨h,g,d,t,os⟩:Shared).TypeIs (.ref C) "type":=⟨_,hC,rfl⟩;refine wpAny_call (codeAny_of_tree ?_);show wpAny _ _ (callAny (.ref C) _) _ _ _
 repeat (any_goals (first | assumption | with_reducible refine wpAny_loadPart_at hC ?_ | wp_step))
 refine⟨rfl,?_⟩;refine codeAny_call_builtin_at (Code.quiet_builtin _ (by decide +kernel)) entry_typeCall (wpAny_check_type_call_sub hC (jeG (hrest:=hrest) F T hC hn hi hfI hfc fun h' e hm=>?_));exact hq h' e hm
end
theorem jmH {K:PySem.W.Frag} {h:Heap} {N:Addr} {mg:Str->Option Value} {n:Str} {v:Value} (X:K.In h) (G:h.Ns N mg) (e:PySem.W.nsIn K N n=some (some v)):mg n=some v:=by
 obtain⟨o,es,ep,ho,hd,_,hf⟩:=G;unfold PySem.W.nsIn at e;split at e
 ·rename_i c d es' n' sl q
  have:=X _ _ q;rw[ho] at this;cases this;cases hd;split at e
  ·rename_i en he
   cases e;rw[<- hf];unfold nsFind findBy;rw[<- Array.find?_toList,he];rfl
  ·split at e<;>cases e
 ·cases e
theorem jhC {K:PySem.W.Frag} {h:Heap} {C f:Addr} {bmB:List Value} {newId:String} (X:K.In h) (q:jhB K C bmB newId f=true) :
  ∃bm N nm q bs hdct sn sub ab col dd k0 k1 k2 k3 k5 mN,h.get? C=some (excClassObj nm q C N bs bm hdct sn sub ab col dd k0 k1 k2 k3 k5 newId)/\h.Ns N mN/\mN "__init__"=some (.ref f)/\OwnTail h bmB bm:=by
 unfold jhB at q;split at q
 ·rename_i dd cd sl ho
  split at q
  ·rename_i C' bm k0 k1 k2 k3 n k5 hm hs
   simp only[xbk,beq_iff_eq,Bool.not_eq_true'] at q;obtain⟨⟨⟨⟨⟨rfl,rfl⟩,hdel⟩,ht⟩,hok⟩,hni⟩:=q;obtain⟨nm,bs,mro,ns,qn,hd,sn,sub,ab,col,del⟩:=cd;dsimp only at hm hdel hok hni;subst hm hdel;have hsl:sl=#[k0,k1,k2,k3,some (.builtin n),k5]:=by
    obtain⟨l⟩:=sl;simp only at hs;rw[hs]
   subst hsl;exact⟨bm,ns,nm,qn,bs,hd,sn,sub,ab,col,dd,k0,k1,k2,k3,k5,_,X _ _ ho,.of_isNs (PySem.W.isNs_of_in X hok),jmH X (.of_isNs (PySem.W.isNs_of_in X hok)) hni,PySem.W.tail_of_in X ht⟩
  ·cases q
 ·cases q
section
variable {X:Cx} {CX:CXT} {k:Nat} {f C:Addr} {fd:FuncData} {ps:List Str} {sp:Sp} {E:XK} {x:Str} {p pos:Pos} {e:Expr} {es:List Expr} {t:TA} {B newId initId:String} {bmB:List Value}
def job (C:Addr) (sp:Sp) (E:XK) (t:TA):TE:=fun σ H Q=>t σ H fun vs H1=>vs.length<=sizeLine/\∀q,H1 q=none->sp (.ref q::vs) (upd H1 q (jkj q C)) (fun v H2=>v=.non/\Q (.ref q) H2) E
theorem jmI (O:ExcI X.K C f B newId initId bmB) (F:FnOk X.prog X.w X.K X.mg X.base CX k f fd ps sp) (hr:Room (k+1) X.A) (hg:Gl X x) (hm:X.mg x=some (.ref C)) (hb:Binds X.K fd ps []) (hx:jfe CX X E)
    (ha:PA X (e::es) t) (hdb:(x==("__debug__":Str))=false:=by decide) (he:starEach (e::es) X.env=(false,eval e X.env)::starEach es X.env:=by rfl) (hpl:(backTo pos (starEach es X.env)).any (·.1)=false:=by rfl) :
    PE X (.Call (.Name x p) (e::es) [] pos) (job C sp E t):=by
  intro pins s σ H Q I h;refine wpAny_Call_Name_kw (jer I hg hm ?_ hdb);refine PySem.W.callWith_K (h₀:=X.base) I.ok.mod.kin O.kp (thn (ha pos pins s σ H _ I h) fun us s1 ⟨vs,H1,I1,r,hz,q⟩=>⟨I1.kIn,?_⟩) he hpl;obtain⟨bm,N,nm,qn,bs,hdct,sn,sub,ab,col,dd,k0,k1,k2,k3,k5,mN,hC,hN,hni,TL⟩:=jhC I1.kIn O.at_;obtain⟨oI,hoI,hcI⟩:=Option.map_eq_some_iff.mp (show PySem.W.typeIn X.K (.ref f)=some (.type "function") from beq_iff_eq.mp O.fn);have hfI:=I1.kIn _ _ hoI;have hl:us.length<=sizeLine:=by rw[<- r.length];exact hz
  obtain⟨hh,g,d,tt,os⟩:=s1;refine jh8 (hrest:=hl) O.base TL hC hN hni hfI hcI fun h' ea m=>?_;have I2:=I1.madeX (t':=tt) m;have hq:=q ea (I1.hok.freshN m.new);have r2:Vals (V.ref ea::vs) (Value.ref ea::us):=.cons rfl r;have hl2:(Value.ref ea::us++[]).length=ps.length:=by
    rw[xbY,<- r2.length];exact F.len _ _ _ _ hq
  have hbb:=hb _ (Value.ref ea::us) I2.kIn hl2;rw[xbY] at hbb;refine wpAny_call (codeAny_mono (F.run _ X.stack _ _ ⟨Value.ref ea::us,[]⟩ (Value.ref ea::us) _ _ E (hr.make C us []) (I2.env0.make C us []) hbb r2 hq) fun r s' hq'=>?_);cases r with
  | error e=>exact hx pins σ _ _ e s' I2 hq'
  | ok fl =>
    cases fl with
    | ret u =>
      obtain⟨v,H',I3,rv,ev,q3⟩:=I2.after hq';subst ev;exact⟨rv,⟨V.ref ea,H',I3,rfl,q3⟩⟩
    | next=>exact False.elim hq'
    | brk=>exact False.elim hq'
    | cont=>exact False.elim hq'
end
theorem jeH:bootBuiltins "ValueError"=some (.type "ValueError"):=by decide +kernel
def TyAt (h:Heap) (x C:Addr):Prop:=∃ox,h.get? x=some ox/\ox.cls=.ref C
theorem TyAt.type {M:Model} {h:Heap} {x C:Addr} (I:TyAt h x C):PySem.W.Looks M h (typeOf (.ref x)) (.ref C):=by
 obtain⟨ox,e,c⟩:=I;exact c▸(PySem.W.Looks.ld e).andThen .now
section
open PySem.W PySem.Calls PySem.Builtin PySem.Builtin.ObjectAttr PySem.Builtin.Getset_descriptor
variable {prog:Program} {w:World} {A:Around} {E:Value->Shared->Prop} {K:PySem.W.Frag} {x C:Addr} {s:Shared} {name:Str} {tk:Tok} {v:Value}
theorem jh9 {R:Result->Shared->Prop} {tp:Value} (X:K.In s.heap) (I:TyAt s.heap x C) (hm:mroIn K C (.type "object")=some true)
  (h:R (.ok (.ret (.ref C))) s):codeAny (model prog w) A (.call (.builtin "getset_descriptor.__get__") ⟨[.builtin "object.__class__",.ref x,tp],[]⟩) R s:=by
 obtain⟨hh,g,dr,t,os⟩:=s;have L0:=I.type (M:=model prog w);have L1:=looks_mroIn (M:=model prog w) X hm;refine codeAny_call_builtin KF.slot_gs.plain KF.entry_gs (KF.slot_gs.check _ _ _ _ _ _ _ _ KF.type_class (KF.args_gs _ _ _) ?_);unfold Builtin.«getset_descriptor.__get__» descrGet;rw[dga_obj];refine wpAny_bind (wpAny_pure ?_);unfold descrGetter descrCheckInstance descrNameAndClass isInstance;simp only[KF.owner_class]
 repeat lk
 refine⟨Code.quiet_builtin _ (by decide +kernel),codeAny_builtin KF.entry_class ?_⟩;unfold Builtin.«object.__class__» shownTypeOf
 repeat lk
 exact h
theorem jia {M:Model} {h:Heap} (X:K.In h) (Z:XCls K C):Looks M h (find (.ref x) (.ref C) "__class__") (.bind (.builtin "getset_descriptor.__get__") (.builtin "object.__class__")):=by
 have L1:=looks_findIn (M:=M) X Z.ca;have L2:Looks M h (getOf (some (.builtin "object.__class__"))) (some (.builtin "getset_descriptor.__get__")):=looks_specialIn X Z.cg;have L3:=looks_takesIn (M:=M) X Z.ct;refine L1.andThen (L2.andThen ?_);exact (show Looks M h (dataDescriptor? (some (.builtin "object.__class__")) (some (.builtin "getset_descriptor.__get__"))) (some (.builtin "getset_descriptor.__get__",.builtin "object.__class__")) from L3.andThen .now).andThen (Looks.tag .now)
theorem jib {M:Model} {nameV:Value} {Q:Unit->Shared->Prop} (X:K.In s.heap) (Z:XCls K C) (I:TyAt s.heap x C) (hq:Q () s) :
  wpAny M A (checkBuiltinCall "BaseException.__getattribute__" ⟨[.ref x,nameV],[]⟩) Q E s:=by
 have hk:builtinKind "BaseException.__getattribute__"=some .slot:=by decide +kernel
 have hsplit:splitId "BaseException.__getattribute__"=some ("BaseException","__getattribute__"):=by decide +kernel
 have ha:=PySem.F.args_bexc_ga (.ref x) nameV;have L0:=I.type (M:=M);have L1:=PySem.W.looks_subIn (M:=M) X Z.be;obtain⟨h,g,d,t,os⟩:=s;simp only[checkBuiltinCall,hk,hsplit];refine wpAny_bind ?_;unfold isInstance;refine wpAny_bind (L0.at (L1.at ?_))
 repeat (first | exact hq | wp_step)
theorem jic {Q:Option Value->Shared->Prop} (X:K.In s.heap) (Z:XCls K C) (I:TyAt s.heap x C) (h:Q (some (.ref C)) { s with toks:=s.toks+1 }):wpAny (model prog w) A (getAttr? (.ref x) "__class__") Q E s:=by
 have FB:=PySem.F.excAttr_ValueError;have f3:=FB.ga.bind (.ref x);have hx2:(Value.builtin "BaseException.__getattribute__"==Value.builtin "object.__getattribute__")=false:=by decide +kernel
 have hx1:(onTheHeap (Value.ref C)&&Value.builtin "BaseException.__getattribute__"==Value.builtin "object.__getattribute__")=false:=by rw[hx2];rfl
 have L0:=I.type (M:=model prog w);have L1:=PySem.W.looks_findIn (M:=model prog w) X Z.ga;have L2:=PySem.W.looks_findIn (M:=model prog w) X Z.gh;have L3:=jia (M:=model prog w) (x:=x) X Z;obtain⟨hh,g,d,t,os⟩:=s;unfold getAttr? getAttrBy? getAttrBy;refine wpAny_bind (wpAny_mkText (wpAny_bind (wpAny_attempt (wpAny_holding (wpAny_bind (L0.at (wpAny_bind (L1.at ?_))))))));show wpAny _ _ (if (onTheHeap (Value.ref C)&&Value.builtin "BaseException.__getattribute__"==Value.builtin "object.__getattribute__")=true then _ else _) _ _ _;rw[if_neg (by rw[hx1];exact xat)];unfold getAttrByItsOwn hookBefore;refine wpAny_bind ?_;show wpAny _ _ (typeLookup (.ref C) "__getattr__") _ _ _;refine L2.at ?_;refine wpAny_bind (wpAny_attempt (wpAny_holding ?_));unfold callGetattribute;rw[if_neg (by exact xat)];unfold boundAndCalled;refine wpAny_bind (wpAny_of_eq f3 ?_);refine wpAny_call (codeAny_call_builtin FB.ga.plain PySem.F.entry_bexc_ga (jib (s:=⟨hh,g,d,t+1,os⟩) X Z I ?_));unfold Builtin.«object.__getattribute__»;refine wpAny_bind (wpAny_pure (wpAny_bind (wpAny_pure (wpAny_bind (L0.at (wpAny_bind (L3.at ?_)))))));show wpAny _ _ (holding [Value.builtin "object.__class__"] (call (.builtin "getset_descriptor.__get__") [.builtin "object.__class__",.ref x,.ref C]) >>= ret) _ _ _;exact wpAny_bind (wpAny_holding (wpAny_call (jh9 (s:=⟨hh,g,d,t+1,os⟩) X I Z.ob (wpAny_pure (wpAny_pure (wpAny_pure h))))))
theorem jmJ (Z:XCls K C):PySem.W.KitX K (.ref x) (.ref C) (fun h=>TyAt h x C) where
 ty:=fun _ _ _ I=>I.type
 it:=fun _ _ X _=>by
  obtain⟨cdD,hcD⟩:=xbU.mp Z.cls;unfold PySem.W.clsIn at hcD;split at hcD
  ·rename_i c' d' cd' sl' ho
   intro A' Q' E' s' k q;unfold isType loadHead;exact wpAny_bind (wpAny_loadPart (k _ _ (X _ _ ho)) (wpAny_pure q))
  ·cases hcD
 ne:=fun h tp dd its n sl X htp=>by
  obtain⟨cdD,hcD⟩:=xbU.mp Z.cls;refine Bool.eq_false_iff.mpr fun q=>?_;have e:C=tp:=Value.ref.inj (beq_iff_eq.mp q);subst e;unfold PySem.W.clsIn at hcD;split at hcD
  ·rename_i c' d' cd' sl' ho
   have z:=(X _ _ ho).symm.trans htp;cases z
  ·cases hcD
 ca:=fun X I k=>jic X Z I k
end
section
variable {X:Cx} {pins:List (Addr × Obj)} {σ:St} {H:Hp} {s:Shared} {a C:Addr}
theorem jgu:∀{cs:List Addr} {its:List Value},Vals (cs.map V.ref) its->its=cs.map Value.ref
  | [],_,.nil=>rfl
  | c :: cs, _, .cons r t => by
    cases r;rw[xaS,jgu t]
theorem Inv.track {o:HO} (I:Inv X pins σ H s) (hn:H a=none) (new:X.s₀.heap.get? a=none) (hl:a≠X.env.locals) (hc:∀x c,X.env.cells.lookup x=some c->c≠a) (hp:∀p∈X.pn++pins,p.1≠a)
  (ok:ObjOk X.prog X.w (upd H a o) s.heap a o):Inv X pins σ (upd H a o) s:=by
 have up:∀b u,H b=some u->upd H a o b=some u:=fun b u q=>by rw[jaw (jaD q hn)];exact q
 refine⟨I.ok,I.os,I.bare,⟨I.base.keep,I.base.slot,fun b v q n hx=>?_,I.base.there,fun b xs q=>up _ _ (I.base.tups b xs q),fun b u xs q=>up _ _ (I.base.frzs b u xs q),fun b ps q=>?_⟩,I.loc,I.cell,by rw[jaw (Ne.symm hl)];exact I.free,
  fun x c q=>by rw[jaw (hc x c q)];exact I.freeC x c q,fun p q=>?_,fun b u q=>?_,I.len⟩
 ·rw[jaw (fun z=>by rw[z,new] at q;cases q)];exact I.base.free b v q n hx
 ·obtain⟨m,z⟩:=I.base.tbls b ps q;exact⟨m,up _ _ z⟩
 ·obtain⟨h1,h2,h3⟩:=I.pin p q;exact⟨h1,by rw[jaw (hp p q)];exact h2,h3⟩
 ·by_cases hb:b=a
  ·subst hb;rw[jak] at q;cases q;exact ok
  ·rw[jaw hb] at q;exact (I.hok b u q).stay (fun c v _ r=>r) (fun c r=>up _ _ r) fun c xs r=>up _ _ r
end
section
variable {X:Cx} {pins:List (Addr × Obj)} {σ:St} {H:Hp} {s:Shared}
theorem jfJ {M:Model} {A:Around} {E:Value->Shared->Prop} {i:Nat} {n:Str} {pos:Pos} {Q:Unit->Shared->Prop} (I:Inv X pins σ H s) (hN:X.N.Nodup) (hi:X.N[i]?=some n) (hk:X.env.kindOf n=some .local)
  (h:∀s',Inv X pins (σ.set i none) H s'->Q () s'):wpAny M A (do bindName X.env n .none;unbindBehindTheSuite X.env n pos) Q E s:=by
 obtain⟨m,hn,hl⟩:=id I.loc;have hcls:(X.env.scope.kind==.class||(X.env.scope.kind==.module&&X.env.locals != X.env.globals))=false:=by rw[I.ok.kind];rfl
 have hiσ:i<σ.length:=by rw[I.len];exact (xae.mp hi).1
 have cne:=I.cne;refine wpAny_nameGoes_keeps hk hn hcls fun h' v hn' hs=>?_;refine h _ ⟨I.ok,I.os,I.bare,⟨fun b o e n hb hx=>?_,fun b o e n hb hx=>?_,I.base.free,fun b o e hx=>?_,I.base.tups,I.base.frzs,I.base.tbls⟩,⟨_,hn',fun j y v' e1 e2 e3=>?_⟩,fun y c e=>?_,I.free,I.freeC,fun p hp=>?_,fun b u e=>?_,by simpa using I.len⟩
 ·exact (hs.2 b (xax (xao (Heap.lt_size e) I.ok.above))).trans (I.base.keep b o e n hb hx)
 ·obtain⟨sl,e1⟩:=I.base.slot b o e n hb hx;exact⟨sl,(hs.2 b (xax (xao (Heap.lt_size e) I.ok.above))).trans e1⟩
 ·obtain⟨o',e1⟩:=I.base.there b o e hx;exact⟨o',(hs.2 b (xax (xao (Heap.lt_size e) I.ok.above))).trans e1⟩
 ·by_cases hj:j=i
  ·subst hj;rw[xb0 hiσ] at e2;cases e2
  ·rw[xca (Ne.symm hj)] at e2;obtain⟨u',r',q⟩:=hl j y v' e1 e2 e3;refine⟨u',r',?_⟩;rcases q with ⟨k,e⟩ | ⟨k,c,e,z⟩
   ·refine .inl ⟨k,?_⟩;have:y≠n:=fun e=>hj (jfz hN e1 (e▸hi));simp [this,e]
   ·exact .inr ⟨k,c,e,z.sameBut hs (cne y c e)⟩
 ·obtain⟨w',z⟩:=I.cell y c e;exact⟨w',z.sameBut hs (cne y c e)⟩
 ·obtain⟨e,n,ne,nf,d⟩:=I.pin p hp;exact⟨(hs.2 p.1 ne).trans e,n,ne,nf,d⟩
 ·have nl:∀c v,H c=some v->c≠X.env.locals:=fun c v q z=>by rw[z,I.free] at q;cases q
  refine (I.hok b u e).stay (fun c v hc r=>(hs.2 c ?_).trans r) (fun _ q=>q) fun _ _ q=>q;rcases hc with z | z
  ·rw[z];exact nl b u e
  ·exact nl c _ z
end
def Ends.gone (D:Ends) (i:Nat):Ends:={ nx:=fun σ H=>D.nx (σ.set i none) H,bk:=fun σ H=>D.bk (σ.set i none) H,ct:=fun σ H=>D.ct (σ.set i none) H,rt:=D.rt }
section
variable {X:Cx}
theorem jkI {e:Expr} {t:TX} {pos:Pos} (he:PX X e t) (hs:swapsWith e none pos.line X.env=pure false:=by rfl) :
  PSX X [.Expr e pos] (fun D E σ H=>t σ H (fun _ H1=>D.nx σ H1) (E σ)):=by
 intro pins s σ H D E I h;refine wpAny_execs_cons (wpAny_Expr_any (wpAny_mono (he pins s σ H _ (E σ) I h) (fun u s1 ⟨v,H1,I1,r,q⟩=>?_) fun ex s' z=>⟨σ,z⟩) I.quiet hs);exact wpAny_execs_nil ⟨σ,H1,I1,q⟩
end
def del (H:Hp) (q:Addr):Hp:=fun b=>if b=q then none else H b
theorem jeI {H:Hp} {q b:Addr} (n:b≠q):del H q b=H b:=if_neg n
theorem jhD {H:Hp} {q:Addr}:del H q q=none:=if_pos rfl
section
variable {prog:Program} {w:World} {A:Around} {E:Value->Shared->Prop} {env:Env}
variable {nm q:Str} {C N:Addr} {bs bm:List Value} {hdct:Bool} {sn:List Str} {sub:List Value} {ab:Bool} {col:Option Bool} {dd:Option Addr} {k0 k1 k2 k3 k5:Option Value} {newId:String}
theorem joc {M:Model} {s:Shared} {x:Sem Value} {Q:Flow->Shared->Prop} (hb:bm.contains (.type "BaseException")=true) (hh:A.handled=none)
  (h:wpAny M A x (fun v s1=>∃e t dx,v=.ref e/\s1.heap.get? e=some (jcn C t (some dx))/\s1.heap.get? C=some (excClassObj nm q C N bs bm hdct sn sub ab col dd k0 k1 k2 k3 k5 newId)/\E (.ref e) s1) E s) :
  wpAny M A (raiseStmt env (some x) none) Q E s:=by
 have hc:(Value.ref C::bm).contains (.type "BaseException")=true:=by
  rw[List.contains_cons,hb];exact Bool.or_true _
 unfold raiseStmt;refine wpAny_bind (wpAny_mono h (fun v s1 z=>?_) fun _ _ y=>y);obtain⟨e,t,dx,rfl,he,hC,hE⟩:=z;obtain⟨hp,g,dr,tk,os⟩:=s1;unfold jcn at he
 repeat (first
  | wp_step
  | with_reducible refine wpAny_loadPart_at hC ?_
  | with_reducible refine wpAny_loadPart_at he ?_
  | (with_reducible refine wpAny_isSubtype_exc hC ?_;rw[hc]))
 exact wpAny_raiseNew_none hh hE
end
section
variable {X:Cx} {pins:List (Addr × Obj)} {σ:St} {H:Hp} {s:Shared} {q C dx:Addr}
theorem ji9 (I:Inv X pins σ H s) (e:H q=some (jio q C dx)):∃t,s.heap.get? q=some (jcn C t (some dx)):=by
 obtain⟨⟨o,hx,t,rfl⟩,_⟩:=(show ObjOk X.prog X.w H s.heap q (jio q C dx) from I.hok q _ e);exact⟨t,hx⟩
theorem Inv.hokD (I:Inv X pins σ H s) (e:H q=some (jio q C dx)):HOk X.prog X.w (del H q) (PySem.W.hideAll s.heap (q::frs X.stack)):=fun a o z=>by
 have na:a≠q:=fun c=>by rw[c,jhD] at z;cases z
 rw[jeI na] at z;have own:∀{b:Addr},H b=some (.own a)->b≠q:=fun {b} hb c=>by rw[c,e] at hb;cases hb
 refine (I.hok a o z).stay (fun b u hb k=>PySem.W.hideAll_get _ k fun hm=>?_) (fun b k=>by rw[jeI (own k)];exact k) fun b xs k=>by
  rw[jeI (fun c=>by rw[c,e] at k;cases k)];exact k
 rcases xam.mp hm with c | hm
 ·rcases hb with c' | hb
  ·exact na (c'▸c)
  ·exact own hb c
 ·have f:=I.stkFree b hm;rcases hb with rfl | hb
  ·rw[f] at z;cases z
  ·rw[f] at hb;cases hb
theorem jid {E:XK} {E':Value->Shared->Prop} (T:Top1 X) (I:Inv X pins σ H s) (h0:X.H₀ q=none) (e:H q=some (jio q C dx)) (k:E (.ref C) (some dx) (del H q)) :
    wpAny (model X.prog X.w) X.A (leaving X.env (.ref q)) (fun _ s''=>XOk X.prog X.w X.outer X.H₀ X.s₀ E (.ref q) s'') E' s:=by
  obtain⟨t,hq⟩:=ji9 I e;have hfr:X.A.frames=some (X.env::X.outer):=by rw[<- T.stk];exact I.ok.frames
  have hst:=I.stack;have nx:∀b:Addr,b∉X.ex:=fun b z=>by rw[T.ex] at z;cases z
  have s0q:X.s₀.heap.get? q=none:=by
    cases z:X.s₀.heap.get? q with
    | none=>rfl
    | some o =>
      have:=I.base.free q o z h0 (nx q);rw[e] at this;cases this
  have qn:q∉frs X.stack:=fun hm=>by
    have:=I.stkFree q hm;rw[e] at this;cases this
  have hB:=PySem.W.funFrames_hide (as:=q::frs X.stack) hst (fun env he b hb=>xad _ (xcj.mpr ⟨env,he,hb⟩));rw[T.stk] at hB;have out:∀b o,X.s₀.heap.get? b=some o->b∉X.fs->b∉q::frs X.stack:=fun b o z hb hm=>by
    rcases xam.mp hm with c | hm
    . rw[c,s0q] at z;cases z
    . rcases T.mem.mp hm with c | c
      . exact absurd (xao (Heap.lt_size z) I.ok.above) (by rw[c];exact xbj _)
      . exact hb c
  have toB:∀b o,s.heap.get? b=some o->b∉q::frs X.stack->(PySem.W.hideAll s.heap (q::frs X.stack)).get? b=some o:=fun b o z hb=>PySem.W.hideAll_get _ z hb;have gone:(PySem.W.hideAll s.heap (q::frs X.stack)).get? q=none:=PySem.W.hideAll_none _ (.head _);have Dk:DictAt q dx s.heap:=⟨_,hq,rfl⟩;refine wpAny_mono (Keep.any (jea (e:=q) (dx:=dx) X.env (.ref q)) Dk (wpAny_leaving_firstW (a0:=.ref t) (base:=PySem.W.hideAll s.heap (q::frs X.stack)) (E:=E') (Q:=fun _ s''=>∃h',s''={ s with heap:=h' }/\Heap.LeftW (PySem.W.hideAll s.heap (q::frs X.stack)) (X.env::X.outer) q (.ref C) (.ref t) s.heap h')
    hfr (by rw[T.stk];exact hB) T.frm hq (fun b o z=>PySem.W.of_hideAll _ z) gone rfl rfl rfl fun h' x=>⟨h',rfl,x⟩)) (fun _ s'' z=>?_) fun _ _ z=>z.1
  obtain⟨⟨h',rfl,x1,⟨_,_,x2⟩,x3,x4⟩,z⟩:=z;have slot:∀b,b∈frs X.stack->∀o,s.heap.get? b=some o->∃sl,h'.get? b=some { o with slots:=sl }:=fun b hb o z=>by
    obtain⟨_,o2,e2,nf⟩:=hst.mem hb;rw[z] at e2;cases e2;exact x4 b o z nf
  have ndl:∀{b:Addr} {o:HO},H b=some o->(∀h,o≠.ext h)->del H q b=some o:=fun {b o} hb ne=>by
    rw[jeI (fun c=>by rw[c,e] at hb;cases hb;exact ne _ rfl)];exact hb
  refine⟨q,C,.ref t,del H q,PySem.W.hideAll s.heap (q::frs X.stack),some dx,rfl,⟨x1,gone,x2,x3⟩,I.os,I.bare,⟨fun b o z n hb _=>?_,fun b o z n hb _=>?_,fun b o z n _=>?_,fun b o z _=>?_,fun b xs z=>ndl (I.base.tups b xs z) (fun _ c=>nomatch c),fun b o u z=>ndl (I.base.frzs b o u z) (fun _ c=>nomatch c),fun b ps z=>?_⟩,I.hokD e,fun b o z n hb=>?_,fun b o z hb=>?_,(fun dx' c=>by cases c;exact z),k⟩
  . exact x1 b o (toB b o (I.base.keep b o z n hb (nx b)) (out b o z hb))
  . obtain⟨sl,e1⟩:=I.base.slot b o z n hb (nx b)
    exact (slot b (T.mem.mpr (.inr hb)) _ e1).imp fun _ y=>y
  . by_cases c:b=q
    . rw[c];exact jhD
    . rw[jeI c];exact I.base.free b o z n (nx b)
  . obtain⟨o',e1⟩:=I.base.there b o z (nx b)
    have bq:b≠q:=fun c=>by rw[c,s0q] at z;cases z
    by_cases hb:b∈frs X.stack
    . obtain⟨sl,e2⟩:=slot b hb o' e1
      exact⟨_,e2⟩
    . exact⟨o',x1 b o' (toB b o' e1 (fun hm=>(xam.mp hm).elim bq hb))⟩
  . obtain⟨more,y⟩:=I.base.tbls b ps z
    exact⟨more,ndl y (fun _ c=>nomatch c)⟩
  . exact toB b o (I.base.keep b o z n hb (nx b)) (out b o z hb)
  . obtain⟨o',e1⟩:=I.base.there b o z (nx b)
    exact⟨o',toB b o' e1 (out b o z hb)⟩
end
section
variable {X:Cx} {C f:Addr} {B newId initId:String} {bmB:List Value} {e:Expr} {te:TE} {pos:Pos} {R:Addr->Hp->Prop}
theorem jja (hc:X.calm=true) (O:ExcI X.K C f B newId initId bmB) (he:PE X e te) (hR:∀pins σ H s q dx,Inv X pins σ H s->X.H₀ q=none->H q=some (jio q C dx)->R dx (del H q)->X.xe (.ref q) s) :
  PS X (.Raise (some e) none pos) (fun _ σ H=>te σ H fun v H2=>∃q dx,v=.ref q/\X.H₀ q=none/\H2 q=some (jio q C dx)/\R dx (del H2 q)):=by
 intro pins s σ H D I h;obtain⟨bm,N,nm,qn,bs,hdct,sn,sub,ab,col,dd,k0,k1,k2,k3,k5,mN,hC,hN,hni,TL⟩:=jhC (h:=X.base) I.ok.mod.kin O.at_;rw[arm_exec_Raise];have main:wpAny (model X.prog X.w) X.A (eval e X.env) (fun v s1=>∃e t dx,v=.ref e/\s1.heap.get? e=some (jcn C t (some dx))/\s1.heap.get? C=some (excClassObj nm qn C N bs bm hdct sn sub ab col dd k0 k1 k2 k3 k5 newId)/\X.xe (.ref e) s1) X.xe s:=by
  refine wpAny_mono (he pins s σ H _ I h) (fun u s1 z=>?_) fun _ _ y=>y;obtain⟨v,H2,I2,rv,q,dx,ev,h0,eq,r⟩:=z;subst ev;cases (show u=Value.ref q from rv);obtain⟨t,ht⟩:=ji9 I2 eq;exact⟨q,t,dx,rfl,ht,I2.bk _ _ hC,hR pins σ H2 s1 q dx I2 h0 eq r⟩
 refine wpAny_bind (wpAny_standAt (joc (C:=C) (nm:=nm) (q:=qn) (N:=N) (bs:=bs) (bm:=bm) (hdct:=hdct) (sn:=sn) (sub:=sub) (ab:=ab) (col:=col) (dd:=dd) (k0:=k0) (k1:=k1) (k2:=k2) (k3:=k3) (k5:=k5) (newId:=newId) (TL.hasType O.base.hasBase) (I.ok.hd hc) ?_));exact wpAny_bind (wpAny_mono main (fun v s1 z=>wpAny_bind (wpAny_standAt (wpAny_pure z))) fun _ _ y=>y)
end
theorem jkJ {P:Program} {w:World} {K:PySem.W.Frag} {mg:Str->Option Value} {base:Heap} {N:List Str} {qual:Str} {scope:Scope} {f C:Addr} {cd:Value} {A:Around} {outer:List Env} {s:Shared} {H:Hp} {E:XK} :
    ∀ (pins : List (Addr × Obj)) (σ : St) (H1 : Hp) (s1 : Shared) (q dx : Addr), Inv (cxX P w K mg base N qual scope f cd A outer s H E) pins σ H1 s1 -> (cxX P w K mg base N qual scope f cd A outer s H E).H₀ q = none -> H1 q = some (jio q C dx) -> E (.ref C) (some dx) (del H1 q) ->
      (cxX P w K mg base N qual scope f cd A outer s H E).xe (.ref q) s1 :=
  fun pins σ H1 s1 q dx I h0 e k=>jid (E':=fun e' s''=>XOk P w outer H s E e' s'') jgW I h0 e k
def jbv (a C dx:Addr):HO:=.ext fun h=>∃o,h.get? a=some o/\(o.cls=.ref C/\o.dict=some dx/\∃vs,o.data=.fields vs)
section
variable {X:Cx} {pins:List (Addr × Obj)} {σ:St} {H:Hp} {s:Shared} {a C dx:Addr} {f:Str} {A:Around} {E:Value->Shared->Prop}
theorem jdR (I:Inv X pins σ H s) (e:H a=some (jbv a C dx)):TyAt s.heap a C:=by
 obtain⟨⟨o,h1,h2,_⟩,_⟩:=(show ObjOk X.prog X.w H s.heap a (jbv a C dx) from I.hok a _ e);exact⟨o,h1,h2⟩
theorem jie {v:V} {b:Bool} {fs:List (Str × V)} {Q:Value->Shared->Prop} (I:Inv X pins σ H s) (e:H a=some (jbv a C dx)) (e2:H dx=some (.xd fs)) (ZC:XCls X.K C) (Z:XAttr X.K C f) (l:fs.lookup f=some v)
  (h:∀u s',Inv X pins σ H s'->RelV v u->Q u s'):wpAny (model X.prog X.w) A (getAttr (.ref a) f b) Q E s:=by
 obtain⟨⟨ox,hx,hxc,hxd,vs,hxv⟩,_⟩:=(show ObjOk X.prog X.w H s.heap a (jbv a C dx) from I.hok a _ e);obtain⟨mA,ns,r⟩:=(show ObjOk X.prog X.w H s.heap dx (.xd fs) from I.hok dx _ e2);obtain⟨u,hu,ru⟩:=RelO.some_of (v:=v) (o:=mA f) (by rw[<- l];exact r f);obtain⟨od,ho,hl⟩:=jga ns;obtain⟨c0,d0,dt,sl⟩:=ox;simp only at hxc hxd hxv;subst hxc hxd hxv;have J:PySem.W.InstAt s.heap a ⟨.ref C,some dx,.fields vs,sl⟩ C (some od):=⟨hx,rfl,rfl,ho⟩;have hf:=PySem.W.findObj_own (od:=od) (v:=u) Z.hd Z.no rfl (by rw[hl,hu]);have XK:=I.kIn;have I1:=I.tok (s.toks+1);unfold getAttr;refine wpAny_bind (wpAny_mkText ?_);refine joa (s:={ s with toks:=s.toks+1 }) XK ZC J (jiH ru) (fun A Q E hq=>?_) (h u _ I1 ru);have L0:=J.type (M:=model X.prog X.w);have L1:=PySem.W.looks_find (M:=model X.prog X.w) XK J hf;unfold Builtin.«object.__getattribute__»;exact wpAny_bind (wpAny_pure (wpAny_bind (wpAny_pure (wpAny_bind (PySem.W.Looks.here (s:={ s with toks:=s.toks+1 }) L0 (wpAny_bind (PySem.W.Looks.here (s:={ s with toks:=s.toks+1 }) L1 (wpAny_pure hq))))))))
end
section
variable {X:Cx} {e:Expr} {f:Str} {pos:Pos} {ta:TE}
def jmK (K:PySem.W.Frag) (ta:TE) (f:Str):TE:=fun σ H Q=>ta σ H fun x H1=>∃a C dx fs v,x=.ref a/\H1 a=some (jbv a C dx)/\H1 dx=some (.xd fs)/\XCls K C/\XAttr K C f/\fs.lookup f=some v/\Q v H1
theorem jmL {K:PySem.W.Frag} (hK:X.K=K) (he:PE X e ta) (hb:attributeBase e f X.env (eval e X.env)=eval e X.env:=by rfl):PE X (.Attribute e f pos) (jmK K ta f):=by
 subst hK;intro pins s σ H Q I h;refine jmn hb (thn (he pins s σ H _ I h) fun u s1 ⟨x,H1,I1,rx,a,C,dx,fs,v,ex,ea,ed,c,n,l,q⟩=>?_);subst ex;obtain rfl:u=Value.ref a:=rx;exact jie I1 ea ed c n l fun u' s2 I2 ru=>⟨v,H1,I2,ru,q⟩
end
section
variable {X:Cx}
theorem jjb {c n:Str} {D₀:Addr} {i:Nat} {body:List Stmt} {b₀:Stmt} {suite:List Stmt} {tb:TSX} {th:TS} {np hpos pos:Pos} (T:Top1 X) (hg:Gl X c) (hm:X.mg c=some (.ref D₀)) (hN:X.N.Nodup) (hi:X.N[i]?=some n)
  (hkd:X.env.kindOf n=some .local) (hx:Loc X.env.scope n) (hb:PSX X body tb) (hs:∀e,PSs (X.caught e) (b₀::suite) th) (hdb:(c==("__debug__":Str))=false:=by decide)
  (hf:X.fn n=true\/X.env.scope.names.lookup n=some .local:=by first | exact .inl rfl | exact .inr rfl | assumption) :
  PS X (.Try body [.ExceptHandler (some (.Name c np)) (some n) (b₀::suite) hpos] [] [] pos) (fun D σ H=>tb D (fun σ1 cls pd H1=>∃C dx,cls=.ref C/\pd=some dx/\PySem.W.exmOne X.K (.ref C) (.ref D₀)=some true /\
   ∀ea,H1 ea=none->th (D.gone i) (σ1.set i (some (.ref ea))) (upd H1 ea (jbv ea C dx))) σ H):=by
 intro pins s σ H D I h;refine wpAny_Try_except (wpAny_mono (hb pins s σ H D _ I h) (fun f s1 q=>?_) fun ex s' ⟨σ1,H1,s1,I1,hx'⟩=>?_)
 ·cases f with
  | next=>exact wpAny_execs_nil q
  | brk=>exact q
  | cont=>exact q
  | ret u=>exact q
 ·obtain⟨ea,C',a0,H',Bh,pd,rfl,fl,os,ba,un,hk,kb,tbb,dk,C,dx,ec,ep,em,q⟩:=hx';cases ec;subst ep;have D0:=dk dx rfl;have hfr:X.A.frames=some (X.env::X.outer):=by rw[<- T.stk];exact I1.ok.frames
  have ff:=fl.2.2.1;have hB:Bh.get? ea=none:=fl.2.1;have dat:∀h l,Heap.FlyingW Bh l ea (.ref C') a0 h->∃oe vs,h.get? ea=some oe/\oe.cls=.ref C'/\oe.data=.fields vs:=fun h l z=>by
   obtain⟨_,_,_,oe,vs,_,_,_,he,hc,hd,_⟩:=z;exact⟨oe,vs,he,hc.1,hd⟩
  have nofr:ea∉frs X.stack:=fun hb=>by
   obtain⟨_,o,e1,nf⟩:=ff.mem hb;obtain⟨oe,vs,e2,_,hd⟩:=dat _ _ fl;rw[e1] at e2;cases e2;exact nf vs hd
  have s1n:s1.heap.get? ea=none:=by
   cases z:s1.heap.get? ea with
   | none=>rfl
   | some o=>obtain⟨o',e⟩:=tbb ea o z nofr;rw[hB] at e;cases e
  have nx:∀b:Addr,b∉X.ex:=fun b z=>by rw[T.ex] at z;cases z
  have s0n:X.s₀.heap.get? ea=none:=by
   cases z:X.s₀.heap.get? ea with
   | none=>rfl
   | some o=>obtain⟨o',e⟩:=I1.base.there ea o z (nx ea);rw[s1n] at e;cases e
  have hn:H' ea=none:=hk.freshN hB;rw[T.stk] at fl;refine wpAny_mono (Keep.any (jgo (e:=ea) (dx:=dx) (.ref ea) X.env) D0 (wpAny_looks_onW hfr T.frm fl (E:=X.xe) (Q:=fun _ s2=>∃h4,s2={ s' with heap:=h4 }/\Heap.HeldW Bh (X.env::X.outer) ea (.ref C') a0 X.env.locals h4/\s'.heap.UpToSlots h4) fun h4 x y=>⟨h4,rfl,x,y⟩)) (fun _ s2 z=>?_) fun _ _ z=>z.1;obtain⟨⟨h₄,rfl,held₄,sm₄⟩,D4⟩:=z;refine wpAny_mono (Keep.any (jde (e:=ea) (dx:=dx) (.ref ea) none) D4 (wpAny_landsW held₄ (E:=X.xe) (Q:=fun _ s3=>∃h5,s3={ s' with heap:=h5 }/\Heap.FlyingW Bh (X.env::X.outer) ea (.ref C') a0 h5/\h₄.UpToSlots h5) fun h5 x y=>⟨h5,rfl,x,y⟩)) (fun _ s3 z=>?_) fun _ _ z=>z.1;obtain⟨⟨h₅,rfl,fl₅,sm₅'⟩,D5⟩:=z;have sm₅:=sm₄.trans sm₅';have I5:Inv X pins σ1 H' { s' with heap:=h₅ }:=I1.landed T os ba un hk kb tbb fl₅.1 sm₅ ff;obtain⟨ob,hob,hobc⟩:=fl₅.there;refine wpAny_handleBy_cons (codeAny_handlers_test (jer (X:=X.caught (.ref ea)) (I5.caught (.ref ea)) hg hm ?_ hdb)) (by intro q;cases q);have LT:PySem.W.Looks (model X.prog X.w) h₅ (typeOf (.ref ea)) (.ref C'):=TyAt.type ⟨ob,hob,hobc⟩;refine PySem.W.Looks.here (s:={ s' with heap:=h₅ }) (PySem.W.exm_one I5.kIn LT em) ?_;refine codeAny_handlers_suite_as ?_;refine wpAny_mono (Keep.any (jde (e:=ea) (dx:=dx) (.ref ea) none) D5 (lands_againW fl₅ (Q:=fun _ s6=>∃h6,s6={ s' with heap:=h6 }/\Heap.FlyingW Bh (X.env::X.outer) ea (.ref C') a0 h6/\h₅.UpToSlots h6) fun h6 x y=>⟨h6,rfl,x,y⟩)) (fun _ s6 z=>?_) fun _ _ z=>z.1;obtain⟨⟨h₆,rfl,fl₆,sm₆⟩,D6⟩:=z;have I6:Inv X pins σ1 H' { s' with heap:=h₆ }:=I1.landed T os ba un hk kb tbb fl₆.1 (sm₅.trans sm₆) ff;obtain⟨oe,vs,he,hec,hed⟩:=dat _ _ fl₆;obtain⟨o6,h61,h62⟩:=D6;rw[he] at h61;cases h61;have I7:Inv X pins σ1 (upd H' ea (jbv ea C' dx)) { s' with heap:=h₆ }:=I6.track hn s0n (fun z=>nofr (T.mem.mpr (.inl z))) (fun y c e z=>by
    obtain⟨v,o,e1,e2⟩:=I6.cell y c e;rw[z] at e1;rw[he] at e1;cases e1;rw[hed] at e2;cases e2) (fun p hp z=>by
    obtain⟨e1,_⟩:=I1.pin p hp;rw[z,s1n] at e1;cases e1) (ji8 (φ:=fun o=>o.cls=.ref C'/\o.dict=some dx/\∃vs,o.data=.fields vs) he ⟨hec,h62,vs,hed⟩)
  refine jdr (X:=X.caught (.ref ea)) (I7.caught (.ref ea)) hN hi hx (v:=.ref ea) rfl (fun s8 I8=>?_) hf;refine wpAny_mono (hs (.ref ea) pins s8 _ _ (D.gone i) I8 (q ea hn)) (fun f s9 q9=>?_) fun _ _ z=>z.elim;have q9:=SP.uncaught I6.ok q9;cases f with
  | next=>obtain⟨a,b,J,z⟩:=q9;exact jfJ J hN hi hkd fun s' J'=>⟨_,b,J',z⟩
  | brk=>obtain⟨a,b,J,z⟩:=q9;exact jfJ J hN hi hkd fun s' J'=>⟨_,b,J',z⟩
  | cont=>obtain⟨a,b,J,z⟩:=q9;exact jfJ J hN hi hkd fun s' J'=>⟨_,b,J',z⟩
  | ret u=>obtain⟨v,a,b,J,r,z⟩:=q9;exact jfJ J hN hi hkd fun s' J'=>⟨v,_,b,J',r,z⟩
theorem ja6 {K:PySem.W.Frag} (hK:X.K=K):CallR X (.builtin "isinstance") (fun xs H Q=>∃a C dx c b,xs=[.ref a,c]/\H a=some (jbv a C dx)/\XCls K C /\
    ((∃ D, c = .ref D /\ PySem.W.kitOne K (.ref C) (.ref D) = some b) \/ (∃ T, c = .ty T /\ PySem.W.kitOne K (.ref C) (.type T) = some b) \/
      ∃(tp:Addr) (cs:List Addr),c=.ref tp/\H tp=some (.tup (cs.map V.ref))/\PySem.W.kitAny K (.ref C) (cs.map Value.ref)=some b)/\Q (.bl b) H):=by
  subst hK;intro pins s σ H xs us Q I r h;obtain⟨a,C,dx,c,b,rfl,ie,Z,e,q⟩:=h;obtain⟨u,w',rfl,r1,r2⟩:=jks r;cases (show u=Value.ref a from r1);rcases e with ⟨D,rfl,e⟩ | ⟨T,rfl,e⟩ | ⟨tp,cs,rfl,et,e⟩
  . cases r2
    exact PySem.W.kia_one (jmJ Z) I.kIn (jdR I ie) e (fun z=>nomatch z) fun tk=>⟨.bl b,H,I.tok tk,rfl,q⟩
  . cases r2
    exact PySem.W.kia_one (jmJ Z) I.kIn (jdR I ie) e (fun z=>nomatch z) fun tk=>⟨.bl b,H,I.tok tk,rfl,q⟩
  . cases (show w'=Value.ref tp from r2)
    obtain⟨_,its,rv,⟨cl,dd,da,sl⟩,ho,hc,n,hd⟩:=(show ObjOk X.prog X.w H s.heap tp (.tup (cs.map V.ref)) from I.hok tp _ et);simp only at hc hd;subst hc hd;have ei:=jgu rv;subst ei;exact PySem.W.kia_tup (jmJ Z) I.kIn (jdR I ie) ho e (fun z=>nomatch z) fun tk=>⟨.bl b,H,I.tok tk,rfl,q⟩
end
@[elab_as_elim] theorem jb4 {C:Hp->Prop} {H:Hp} {p:Addr} {o:HO} (hp:H p=none) (k:∀J,Same H J->J p=some o->C J):C (upd H p o):=k _ (Same.new hp o) jak
theorem lt3 {i:Nat} (h:i<3):i=0\/i=1\/i=2:=by omega
section
variable {X:Cx}
def jjc (K:PySem.W.Frag):V->List V->Hp->VK->Prop:=fun x ys H Q=>∃(p:Addr) (xs:List V) (y:V) (dy:PyData),x=.ref p/\ys=[y]/\SqL K H p xs/\Rds K H y dy/\PyData.canLay0 dy=true/\dy.depth<=8/\PyData.eqv dy dy=true/\(∀v∈xs,∃d,Rds K H v d/\PyData.canLay0 d=true/\d.depth<=8)/\(∃v∈xs,Rds K H v dy)/\xs.length<1000/\∀j:Nat,j<xs.length->Q (.int j) H
theorem jjd (hu:X.A.units+64<cLine):MtR X "list.index" (jjc X.K):=by
 intro pins s σ H x xs v us Q I rx r h;obtain⟨p,zs,y,dy,rfl,rfl,hq,hdy,cy,dpy,ey,hs,⟨v0,hv0,hd0⟩,hn,q⟩:=h;cases (show v=Value.ref p from rx);obtain⟨u,rfl,r1⟩:=jfB r;obtain⟨its,rv,pl,hz⟩:=I.list hq;obtain⟨as,rdy⟩:=hdy.reads I r1;have hl:=rv.length;obtain⟨⟨cls,dd,data,sl⟩,ho,hc,n,hd⟩:=id pl.isList;simp only at hc hd;subst hc hd;have eqs:∀(A:Around),A.units<=X.A.units+8->∀w∈its,(∃b,SeqAt.EqAt A s w u b):=fun A hA w hw=>by
  obtain⟨i,hi⟩:=xcc hw;have hi2:i<zs.length:=by have:=(xae.mp hi).1;omega
  obtain⟨w',hw',rw'⟩:=rv.get (xac hi2);rw[hi] at hw';cases hw';obtain⟨d,hd,cd,dd⟩:=hs _ (xa5 hi2);obtain⟨bs,rd⟩:=hd.reads I rw';exact⟨_,SeqAt.eqAt_reads d dy _ s w u bs as rd rdy cd cy (by
   have:=Nat.min_le_left d.depth dy.depth;omega)⟩
 have hits:∀(A:Around),A.units<=X.A.units+8->∃w∈its,SeqAt.EqAt A s w u true:=fun A hA=>by
  obtain⟨i,hi2,e⟩:=xbe.mp hv0;obtain⟨w,hw,rw'⟩:=rv.get (xac hi2);rw[e] at rw';obtain⟨bs,rd⟩:=hd0.reads I rw';refine⟨w,xaD hw,?_⟩;have z:=SeqAt.eqAt_reads dy dy A s w u bs as rd rdy cy cy (by
   have:=Nat.min_le_left dy.depth dy.depth;omega)
  rw[ey] at z;exact z
 have u1:X.A.in1.units=X.A.units+1:=rfl;have dec:∀w,Decidable (SeqAt.EqAt X.A.in1 s w u true):=fun w=>Classical.propDecidable _
 let e:Value->Bool:=fun w=>decide (SeqAt.EqAt X.A.in1 s w u true)
 have he:∀w∈its,SeqAt.EqAt X.A.in1 s w u (e w):=fun w hw=>by
  obtain⟨b,hb⟩:=eqs X.A.in1 (by omega) w hw;by_cases c:SeqAt.EqAt X.A.in1 s w u true
  ·have:e w=true:=decide_eq_true c;rw[this];exact c
  ·have:e w=false:=decide_eq_false c;rw[this];cases b with
   | true=>exact (c hb).elim
   | false=>exact hb
 obtain⟨w0,hw0,hit0⟩:=hits X.A.in1 (by omega);have e0:e w0=true:=decide_eq_true hit0;have hj:its.findIdx e<its.length:=List.findIdx_lt_length_of_exists ⟨w0,hw0,e0⟩;refine call_meets F.slot_list_index ⟨_,ho,rfl⟩ F.entry_list_index (F.args_list_index_2 _ _) (SeqAt.list_indexAt p its.toArray n dd sl u e (its.findIdx e) (by simpa using hj) (by omega) ?_ ?_) ⟨ho,fun w hw=>he w (by simpa using hw),⟨.int _,H,I.tok _,⟨_,rfl⟩,q _ (by omega)⟩⟩
 ·simpa using List.findIdx_getElem (w:=hj)
 ·intro m hm hlt;have:=List.not_of_lt_findIdx hlt;simpa using this
end
section
variable {prog:Program} {w:World} {A:Around} {R:Result->Shared->Prop} {it Z:Addr} {fp wr:List Addr} {n:Nat} {P:Nat->Value->Prop} {St:Nat->Heap->Prop} {G:Heap->Prop}
def Stay (wr:List Addr) (Z:Addr) (h h':Heap):Prop:=∀b o,b∉wr->b≠Z->h.get? b=some o->h'.get? b=some o
theorem Stay.trans {h h' h'':Heap} (a:Stay wr Z h h') (b:Stay wr Z h' h''):Stay wr Z h h'':=fun c o x y e=>b c o x y (a c o x y e)
theorem Stay.set {h:Heap} {g:Obj->Obj}:Stay wr Z h (h.update Z g):=fun _ _ _ y e=>(Heap.get?_update_other _ _ (Ne.symm y)).trans e
def jod (v:Value) (c:Nat):Obj:={ cls:=.type "list",dict:=none,data:=.seq #[v,v] c,slots:=#[] }
structure MinUse (prog:Program) (w:World) (A:Around) (wr:List Addr) (Z:Addr) (P:Nat->Value->Prop) (G:Heap->Prop):Prop where
 keep:∀h h',G h->Stay wr Z h h'->G h'
 cmp:∀(u v:Value) (s:Shared) (Q:Value->Shared->Prop) (E:Value->Shared->Prop),(∃i,P i u)->(∃j,P j v)->G s.heap->(∀k:Bool,Q (.bool k) s)->wpAny (model prog w) A (richCompare .Lt u v) Q E s
theorem minW (W:Walks prog w A.in1 it fp wr n P St) (M:MinUse prog w A.in1 wr Z P G) (off:Z∉fp):∀(left:Nat) (s:Shared) (best:Value) (c:Nat),left<n->St (n-left) s.heap->(∃i,P i best)->G s.heap->s.heap.get? Z=some (jod best c) ->
    (∀v h tk,(∃i,P i v)->Stay wr Z s.heap h->R (.ok (.ret v)) { s with heap:=h,toks:=tk })->codeAny (model prog w) A (.builtin "min.loop" ⟨[.ref it,.none,.ref Z],[]⟩) R s:=by
  have zw:Z∉wr:=fun h=>off (W.sub _ h);have fr:∀{i:Nat} {h:Heap} {g:Obj->Obj},St i h->St i (h.update Z g):=fun {i h g} st=>W.frame _ _ _ st fun b bf o e=>(Heap.get?_update_other _ _ (fun x:Z=b=>off (x▸bf))).trans e;have word:(toString "min"++toString ".loop":String)="min.loop":=by decide
  intro left;induction left with
  | zero =>
    intro s best c _ st pb gs hZ q;refine codeAny_builtin F.entry_min_loop (Around.under_plainId F.plain_min_loop _▸?_);refine wpAny_bind (m:=seqItems? (.ref Z)) (wpAny_seqItems hZ rfl (wpAny_bind (m:=tryCatch (pyNext (.ref it)) _) (wpAny_tryCatch (W.done s _ _ st fun h1 t1 k1=>?_))));refine wpAny_bind (m:=updateSeq Z fun _=>#[]) (wpAny_updateSeq (k1 Z _ zw hZ) rfl (wpAny_bind (wpAny_letGo (wpAny_pure ?_))));exact q best _ t1 pb (Stay.trans (fun b o x _ e=>k1 b o x e) Stay.set)
  | succ left ih =>
    intro s best c lt st pb gs hZ q;have en:n-(left+1)+1=n-left:=by omega
    refine codeAny_builtin F.entry_min_loop (Around.under_plainId F.plain_min_loop _▸?_);refine wpAny_bind (m:=seqItems? (.ref Z)) (wpAny_seqItems hZ rfl (wpAny_bind (m:=tryCatch (pyNext (.ref it)) _) (wpAny_tryCatch (W.item (n-(left+1)) s _ _ (by omega) st fun v h1 t1 pv st1 k1=>?_))));have y1:Stay wr Z s.heap h1:=fun b o x _ e=>k1 b o x e;have g1:=M.keep _ _ gs y1;have z1:=k1 Z _ zw hZ;rw[en] at st1;refine wpAny_bind (m:=tryCatch (holding [v,v] (richCompare .Lt v best >>= _)) _) (wpAny_tryCatch (wpAny_holding (wpAny_bind (M.cmp v best _ _ _ ⟨_,pv⟩ pb g1 fun less=>?_))));refine wpAny_bind (wpAny_holding (wpAny_truthy_bool (wpAny_bind (wpAny_letGo (wpAny_pure ?_)))));cases less with
    | true =>
      simp only[if_true];refine wpAny_bind (wpAny_updateSeq z1 rfl (wpAny_bind (wpAny_letGo ?_)));rw[word];exact wpAny_pure ⟨plainId_quiet F.plain_min_loop _,ih _ v _ (by omega) (fr st1) ⟨_,pv⟩ (M.keep _ _ g1 Stay.set) (Heap.get?_update_self _ z1 rfl) fun u h2 t2 pu y2=>q u h2 t2 pu (y1.trans (Stay.set.trans y2))⟩
    | false =>
      simp only[if_false,xcl];refine wpAny_bind (wpAny_letGo ?_);rw[word];exact wpAny_pure ⟨plainId_quiet F.plain_min_loop _,ih _ best c (by omega) st1 pb g1 z1 fun u h2 t2 pu y2=>q u h2 t2 pu (y1.trans y2)⟩
theorem minOf {E:Value->Shared->Prop} {s:Shared} {l:Addr} {xs:Array Value} {Q:Value->Shared->Prop} (hh:A.handled=none) (hl:s.heap.IsList l xs) (hn:0<xs.size) (G:Heap->Prop) (gs:G s.heap)
  (keep:∀h h',G h->(∀b o,b<s.heap.objs.size->h.get? b=some o->h'.get? b=some o)->G h')
  (cmp:∀(u v:Value) (s:Shared) (Q:Value->Shared->Prop) (E:Value->Shared->Prop),u∈xs->v∈xs->G s.heap->(∀k:Bool,Q (.bool k) s)->wpAny (model prog w) A.in1 (richCompare .Lt u v) Q E s)
  (q:∀v h tk,v∈xs->(∀b o,s.heap.get? b=some o->h.get? b=some o)->Q v { s with heap:=h,toks:=tk }):wpAny (model prog w) A (call (.builtin "min") [.ref l]) Q E s:=by
 have lt:l<s.heap.objs.size:=by obtain⟨o,ho,_⟩:=hl;exact Heap.lt_size ho
 have word:(toString "min"++toString ".loop":String)="min.loop":=by decide
 have W:=Walks.list (prog:=prog) (w:=w) (A:=A.in1) hh s.heap.objs.size l (xax lt) xs;refine call_function_tree F.kind_min F.plain_min F.entry_min (F.args_min1 _) (wpAny_bind (m:=Builtin.Builtins.bindParams "min" ["key","default"] 0 ⟨[],[]⟩) (wpAny_of_eq (a:=[none,none]) rfl (wpAny_bind (wpAny_pure (wpAny_bind (wpAny_pyIter_list hl (wpAny_bind (wpAny_newObj_type ?_))))))));rw[word];obtain⟨h0,e0⟩:∃h0,h0=s.heap.push { cls:=.type "list_iterator",data:=.fields #[.ref l,.int 0 0] }:=⟨_,rfl⟩;obtain⟨h1,e1⟩:∃h1,h1=h0.push { cls:=.type "list",data:=.seq #[] }:=⟨_,rfl⟩;have z0:h0.objs.size=s.heap.objs.size+1:=by rw[e0];exact Heap.size_push ..
 have up:∀b o,s.heap.get? b=some o->h1.get? b=some o:=fun b o e=>by rw[e1];exact Heap.get?_push_of_some _ (by rw[e0];exact Heap.get?_push_of_some _ e)
 have far:∀{b:Nat},b<s.heap.objs.size->b∉[s.heap.objs.size]/\b≠h0.objs.size:=fun {b} hb=>⟨fun m=>xax hb (xaC.mp m),xax (Nat.lt_of_lt_of_eq (xbn hb) z0.symm)⟩;have off:h0.objs.size∉[s.heap.objs.size,l]:=fun m=>by
  rcases xam.mp m with e | e
  ·exact Nat.succ_ne_self _ (z0.symm.trans e)
  ·exact Nat.ne_of_gt (xbn lt) (z0.symm.trans (xaC.mp e))
 have M:MinUse prog w A.in1 [s.heap.objs.size] h0.objs.size (fun i v=>xs[i]?=some v) G:=⟨fun h h' g y=>keep h h' g fun b o hb e=>y b o (far hb).1 (far hb).2 e,fun u v s' Q' E' ⟨i,hi⟩ ⟨j,hj⟩ g q'=>cmp u v s' Q' E' (Array.mem_of_getElem? hi) (Array.mem_of_getElem? hj) g q'⟩;have cell:h1.get? h0.objs.size=some { cls:=.type "list",dict:=none,data:=.seq #[] 0,slots:=#[] }:=by rw[e1];exact Heap.get?_push_size _ rfl
 have st:h1.IsListIter s.heap.objs.size l 0/\h1.IsList l xs:=⟨⟨_,by rw[e1];exact Heap.get?_push_of_some _ (by rw[e0];exact Heap.get?_push_size _ rfl),rfl,rfl⟩,by rw[e1,e0];exact (hl.push _).push _⟩;have zw:h0.objs.size∉[s.heap.objs.size]:=fun m=>off (W.sub _ m);rw[<- e0,<- e1];refine wpAny_pure ⟨plainId_quiet F.plain_min_loop _,codeAny_builtin F.entry_min_loop (Around.under_plainId F.plain_min_loop _▸?_)⟩;refine wpAny_bind (m:=seqItems? (.ref h0.objs.size)) (wpAny_seqItems cell rfl (wpAny_bind (m:=tryCatch (pyNext (.ref s.heap.objs.size)) _) (wpAny_tryCatch (W.item 0 _ _ _ hn st fun v h2 t2 pv st2 k2=>?_))));have z2:=k2 _ _ zw cell;refine wpAny_bind (m:=updateSeq h0.objs.size fun _=>#[v,v]) (wpAny_updateSeq z2 rfl ?_);rw[word];have y2:Stay [s.heap.objs.size] h0.objs.size h1 h2:=fun b o x _ e=>k2 b o x e;refine wpAny_pure ⟨plainId_quiet F.plain_min_loop _,minW W M off (xs.size-1) _ v _ (by omega) ?_ ⟨_,pv⟩ (M.keep _ _ (M.keep _ _ (keep _ _ gs fun b o _ e=>up b o e) y2) Stay.set) (Heap.get?_update_self _ z2 rfl) fun u h3 t3 ⟨i,pu⟩ y3=>?_⟩
 ·rw[show xs.size-(xs.size-1)=0+1 by omega];exact W.frame _ _ _ st2 fun b bf o e=>(Heap.get?_update_other _ _ (fun x:h0.objs.size=b=>off (x▸bf))).trans e
 ·refine q u h3 t3 (Array.mem_of_getElem? pu) fun b o e=>?_;have f:=far (Heap.lt_size e);exact (y2.trans (Stay.set.trans y3)) b o f.1 f.2 (up b o e)
end
section
open PySem.AutoSeq1 (wpAny_loadPart')
open PySem.MeetsSeq3 (plain_eq_loop entry_eq_loop)
def jkK (xs:Array Value):Prop:=∀j (h:j<xs.size),∃a t,xs[j]=.int a t
def joe (dd:Option Addr) (sl:Array (Option Value)) (xs:Array Value) (n:Nat):Obj:={ cls:=.type "list",dict:=dd,data:=.seq xs n,slots:=sl }
theorem ltGo {l m:Addr} {xs ys:Array Value} {n1 n2:Nat} {d1 d2:Option Addr} {o1 o2:Array (Option Value)} (sz:xs.size=ys.size) (ix:jkK xs) (iy:jkK ys) (left:Nat):∀i:Nat,xs.size=i+left ->
    Meets (Builtin.«list.__eq__.loop» ⟨[.ref l,.ref m,rawInt i,rawInt 0],[]⟩) (fun _ R s=>s.heap.get? l=some (joe d1 o1 xs n1)/\s.heap.get? m=some (joe d2 o2 ys n2)/\∀k:Bool,R (.ok (.ret (.bool k))) s):=by
  induction left with
  | zero =>
    rintro i e prog w A R ⟨hp,g,d,tk,os⟩ ⟨a,b,q⟩
    wp_walk using wpAny_loadPart' a,wpAny_loadPart' b
    rw[show xs[((i:Nat):Int).toNat]?=none by simp;omega]
    wp_walk using wpAny_loadPart' a,wpAny_loadPart' b
    exact q _
  | succ left ih =>
    rintro i e prog w A R ⟨hp,g,d,tk,os⟩ ⟨a,b,q⟩;have lx:i<xs.size:=by omega
    have ly:i<ys.size:=by omega
    obtain⟨u,t,eu⟩:=ix i lx;obtain⟨v,t',ev⟩:=iy i ly;have e1:xs[((i:Nat):Int).toNat]?=some (.int u t):=by simp [lx,eu]
    have e2:ys[((i:Nat):Int).toNat]?=some (.int v t'):=by simp [ly,ev]
    wp_walk using wpAny_loadPart' a,wpAny_loadPart' b
    rw[e1,e2];obtain⟨k,hk,_⟩:=HT.eqAt_int A.in1 ⟨hp,g,d,tk,os⟩ u t v t';refine wpAny_bind (hk prog w _ _ ?_);cases k with
    | true =>
      wp_walk
      refine⟨plainId_quiet plain_eq_loop _,codeAny_builtin entry_eq_loop (Around.under_plainId plain_eq_loop _▸?_)⟩;rw[show ((i:Int)+1)=((i+1:Nat):Int) by omega];exact ih (i+1) (by omega) prog w A R _ ⟨a,b,q⟩
    | false =>
      wp_walk using wpAny_loadPart' a,wpAny_loadPart' b
      rw[e1,e2];have less:=HT.rcLt_int A.in1 ⟨hp,g,d,tk,os⟩ u t v t' prog w
      wp_walk using less
      exact q _
theorem ltLst {l m:Addr} {xs ys:Array Value} {n1 n2:Nat} {d1 d2:Option Addr} {o1 o2:Array (Option Value)} (sz:xs.size=ys.size) (ix:jkK xs) (iy:jkK ys) :
  Meets (Builtin.«list.__lt__» ⟨[.ref l,.ref m],[]⟩) (fun _ R s=>s.heap.get? l=some (joe d1 o1 xs n1)/\s.heap.get? m=some (joe d2 o2 ys n2)/\∀k:Bool,R (.ok (.ret (.bool k))) s):=by
 rintro prog w A R ⟨hp,g,d,tk,os⟩ ⟨a,b,q⟩;have sub:=AutoSeq1.sub_list_list;unfold joe at a b
 wp_walk using wpAny_loadPart' a,wpAny_loadPart' b
 exact⟨plainId_quiet plain_eq_loop _,codeAny_builtin entry_eq_loop (Around.under_plainId plain_eq_loop _▸ltGo sz ix iy xs.size 0 (by omega) prog w A R _ ⟨a,b,q⟩)⟩
theorem jje {prog:Program} {w:World} {A:Around} {E:Value->Shared->Prop} {s:Shared} {l m:Addr} {xs ys:Array Value} {Q:Value->Shared->Prop} (hl:s.heap.IsList l xs) (hm:s.heap.IsList m ys) (sz:xs.size=ys.size) (ix:jkK xs) (iy:jkK ys) (hu:A.units<cLine) (q:∀k:Bool,Q (.bool k) s):wpAny (model prog w) A (compareOp .Lt (.ref l) (.ref m)) Q E s:=by
 obtain⟨⟨c1,d1,a1,o1⟩,h1,e1,n,f1⟩:=id hl;obtain⟨⟨c2,d2,a2,o2⟩,h2,e2,k,f2⟩:=id hm;cases e1;cases e2;cases f1;cases f2;exact richCompare_meets_room (op:=.Lt) ⟨_,h1,rfl⟩ ⟨_,h2,rfl⟩ F.slot_list_lt F.entry_list_lt (F.args_list_lt_2 _ _) (ltLst sz ix iy) ⟨h1,h2,fun k=>⟨(fun x=>nomatch x),q k⟩⟩ hu
theorem jg1 {vs:List Value} {ns:List Int} (h:IntsAre vs ns):jkK vs.toArray:=by
  induction h with
  | nil=>exact fun j q=>absurd q (by simp)
  | cons a t _ ih =>
    intro j q;cases j with
    | zero=>exact⟨_,_,rfl⟩
    | succ j =>
      obtain⟨a',t',e⟩:=ih j (by simpa using q);exact⟨a',t',by simpa using e⟩
end
section
variable {X:Cx}
def rLtLQ (K:PySem.W.Frag):R2:=fun x y H Q=>∃(a b:Addr) (ns ms:List Int),x=.ref a/\y=.ref b/\SqL K H a (ns.map V.int)/\SqL K H b (ms.map V.int)/\ns.length=ms.length/\∀k,Q (.bl k) H
theorem jmM (hu:X.A.units<cLine):OpR X (compareOp .Lt) (rLtLQ X.K):=by
 rintro pins s σ H x y v u Q I rx ry ⟨a,b,ns,ms,rfl,rfl,ha,hb,hl,q⟩;cases rx;cases ry;obtain⟨xs,r1,p1,_⟩:=I.list ha;obtain⟨ys,r2,p2,_⟩:=I.list hb;have i1:IntsAre xs ns:=jbD r1;have i2:IntsAre ys ms:=jbD r2;have z1:=i1.length;have z2:=i2.length;exact jje p1.isList p2.isList (by simp;omega) (jg1 i1) (jg1 i2) hu fun k=>⟨.bl k,H,I,rfl,q k⟩
def jof (K:PySem.W.Frag):List V->Hp->VK->Prop:=fun ys H Q=>∃(a:Addr) (rs:List Addr) (m:Nat),ys=[.ref a]/\SqL K H a (rs.map V.ref)/\rs≠[]/\(∀r∈rs,∃ns:List Int,SqL K H r (ns.map V.int)/\ns.length=m)/\∀r∈rs,Q (.ref r) H
theorem jjf (hc:X.calm=true) (hu:X.A.units+64<cLine):CallR X (.builtin "min") (jof X.K):=by
 rintro pins s σ H ys us Q I r ⟨a,rs,m,rfl,hq,ne,hr,q⟩;obtain⟨u,rfl,rx⟩:=jfB r;cases rx;obtain⟨its,rv,pl,hz⟩:=I.list hq;have len:=rv.length;rw[xaa] at len;have ref:∀v∈its,∃r∈rs,v=.ref r:=fun v hv=>by
  obtain⟨i,hi⟩:=xcc hv;have i2:i<rs.length:=by have:=(xae.mp hi).1;omega
  obtain⟨w',e1,e2⟩:=rv.get (i:=i) (show (rs.map V.ref)[i]?=some (.ref rs[i]) by rw[xav,xac i2];rfl);rw[hi] at e1;cases e1;cases e2;exact⟨_,xa5 i2,rfl⟩
 have pos:0<its.toArray.size:=by
  have:=xcg.mpr ne;simp;omega
 have lists:∀r∈rs,∃xs:Array Value,s.heap.IsList r xs/\xs.size=m/\jkK xs:=fun r hr'=>by
  obtain⟨ns,h1,h2⟩:=hr r hr';obtain⟨is,r1,p1,_⟩:=I.list h1;have i1:IntsAre is ns:=jbD r1;exact⟨_,p1.isList,by have:=i1.length;simp;omega,jg1 i1⟩
 refine minOf (I.ok.hd hc) pl.isList pos (fun h=>∀r∈rs,∃xs:Array Value,h.IsList r xs/\xs.size=m/\jkK xs) lists (fun h h' g k r hr'=>?_) (fun u v s' Q' E' hi hj g q'=>?_) fun v h' tk hv hk=>?_
 ·obtain⟨xs,⟨o,ho,x3⟩,x2⟩:=g r hr';obtain⟨_,⟨o0,ho0,_⟩,_⟩:=lists r hr';exact⟨xs,⟨o,k r o (Heap.lt_size ho0) ho,x3⟩,x2⟩
 ·obtain⟨r1,m1,rfl⟩:=ref u (by simpa using hi);obtain⟨r2,m2,rfl⟩:=ref v (by simpa using hj);obtain⟨xs,x1,x2,x3⟩:=g r1 m1;obtain⟨ys,y1,y2,y3⟩:=g r2 m2;have hu':X.A.in1.units<cLine:=by
   have:X.A.in1.units=X.A.units+1:=rfl;omega
  exact jje x1 y1 (by omega) x3 y3 hu' q'
 ·obtain⟨r1,m1,rfl⟩:=ref v (by simpa using hv);exact⟨.ref r1,H,I.kept hk,rfl,q r1 m1⟩
end
structure CompScopeMC (N:List Str) (sc:Scope) (N':List Str) (ix:List Nat) (xs0:List Str) (r:List Str) (cs:Scope):Prop where
 eq:N'=xs0++r
 kind:cs.kind=.function
 hown:∀y∈cs.names,y.2=.cell->cs.names.lookup y.1=some .cell
 hnames:∀y∈cs.names,y.2=.local->cs.names.lookup y.1=some .local
 nd:(xs0++r).Nodup
 fr:∀y∈cs.names,y.2=.free->sc.names.lookup y.1=some .cell\/sc.names.lookup y.1=some .free
 ixs:Ixs N sc cs r ix
theorem CompScopeMC.nest {N:List Str} {sc:Scope} {N':List Str} {ix:List Nat} {xs0:List Str} {r:List Str} {cs:Scope} (eq:N'=xs0++r) (kind:cs.kind=.function) (hown:∀y∈cs.names,y.2=.cell→cs.names.lookup y.1=some .cell) (hnames:∀y∈cs.names,y.2=.local→cs.names.lookup y.1=some .local) (nd:(xs0++r).Nodup) (h:∀y∈cs.names,y.2=.free→y.1∈r) (ixs:Ixs N sc cs r ix):CompScopeMC N sc N' ix xs0 r cs:=⟨eq,kind,hown,hnames,nd,jmC ixs h,ixs⟩
section
variable {X:Cx} {pins:List (Addr × Obj)} {σ:St} {H:Hp} {s:Shared}
theorem Inv.compOkMC {N' r:List Str} {ix:List Nat} {xs0:List Str} {cs:Scope} {cl:List (Str × Addr)} {fp:List Addr} (I:Inv X pins σ H s) (S:CompScopeMC X.N X.env.scope N' ix xs0 r cs)
  (h2:∀y c,cl.lookup y=some c->X.env.cells.lookup y=some c) (h3:∀y,(y,NameKind.free)∈cs.names->∃c,cl.lookup y=some c) (hf:∀b∈fp,jgJ X pins H b) (hfp:∀b∈fp,b<s.heap.objs.size) :
  (jaN X N' cs cl s H fp).Ok where
 mod:=I.ok.mod
 kind:=S.kind
 glob:=I.ok.glob
 blt:=I.ok.blt
 above:=xaj _
 inj:=(I.cfs (cs:=cs) h2).1.inj
 has:=fun y hy=>by
  rcases hy.elim (fun z=>jdv z (.inl rfl)) fun z=>jdv z (.inr rfl) with z | z
  ·exact jmB (h3 y z)
  ·obtain⟨c,h,_⟩:=jgs cs.names (s.heap.objs.size+1) cl y z;exact⟨c,h⟩
 cab:=fun y c hy e=>by
  have z:cs.names.lookup y=some .cell:=beq_iff_eq.mp hy;obtain⟨c',h,hl⟩:=jgs cs.names (s.heap.objs.size+1) cl y (PySem.mem_of_lookup z);have e':(cellsFrom (s.heap.objs.size+1) cs.names cl).lookup y=some c:=e;rw[h] at e';cases e';exact xaX (xb4 _) hl
 hd:=I.ok.hd
 frames:=I.ok.frames
 stk:=.inl rfl
 exf:=fun b hb=>⟨xax (hfp b hb),fun y c e=>by
  rcases (I.cfs (cs:=cs) h2).2 y c e with z | ⟨_,z,_⟩
  ·exact (hf b hb).2.2.2.2.1 y c z
  ·exact Nat.ne_of_gt (xao (xbn (hfp b hb)) z)⟩
 bs:=I.bs
 bsz:=xaX I.ok.bsz I.sz
 noex:=fun b o e hb=>by
  rcases (hf b hb).2.2.2.1 with z | z
  ·exact I.ok.noex b o e z
  ·exact absurd (xao (Heap.lt_size e) (xaX I.ok.bsz z)) (xbj _)
 exfs:=fun b hb hs=>by
  rcases xam.mp (I.stkSub b hs) with z | z
  ·exact (hf b hb).2.1 z
  ·exact (hf b hb).2.2.1 z
 funs:=I.stack
 frf:=I.stkFree
theorem Inv.compStartMC {N' r:List Str} {ix:List Nat} {xs0:List Str} {cs:Scope} {cl:List (Str × Addr)} {fp:List Addr} (I:Inv X pins σ H s) (S:CompScopeMC X.N X.env.scope N' ix xs0 r cs)
  (h2:∀y c,cl.lookup y=some c->X.env.cells.lookup y=some c) (h3:∀y,(y,NameKind.free)∈cs.names->∃c,cl.lookup y=some c) (hf:∀b∈fp,jgJ X pins H b) (hfp:∀b∈fp,b<s.heap.objs.size) :
  Inv (jaN X N' cs cl s H fp) [] (List.replicate xs0.length none++jaJ σ ix) H { s with heap:=pushCells (s.heap.push { cls:=.type "dict",data:=.dict #[] }) cs.names }:=by
 have ok:=I.compOkMC (N':=N') (fp:=fp) S h2 h3 hf hfp;obtain⟨mo,hno,hlo⟩:=id I.loc;have hk:∀b o,s.heap.get? b=some o->(pushCells (s.heap.push { cls:=.type "dict",data:=.dict #[] }) cs.names).get? b=some o:=fun b o e=>pushCells_keeps _ _ _ _ (Heap.get?_push_of_some _ e);have cf:=(I.cfs (cs:=cs) h2).2;refine⟨ok,rfl,I.bare,Un.kept hk,⟨fun _=>none,(Heap.Ns.new s.heap (.type "dict")).keeps (pushCells_keeps _ _),fun i y v e1 e2 e3=>?_⟩,fun y c e=>?_,I.hok.fresh (xaj _),fun y c e=>?_,fun p hp=>absurd (show p∈([]:List (Addr × Obj)) from hp) (by simp),I.hok.kept hk,?_⟩
 ·by_cases hi:i<xs0.length
  ·rw[xaV (by rw[xa9];exact hi),List.getElem?_replicate,if_pos hi] at e2;cases e2
  ·have e1':r[i-xs0.length]?=some y:=by
    have:N'[i]?=some y:=e1;rw[S.eq,xaH (by omega)] at this;exact this
   have e2:(jaJ σ ix)[i-xs0.length]?=some (some v):=by
    rw[xaH (by rw[xa9];omega),xa9] at e2;exact e2
   obtain⟨j,j1,j2,j3,j4⟩:=S.ixs.get e1';obtain⟨j',k1,k2⟩:=jeB (σ:=σ) (ix:=ix) (i:=i-xs0.length) (v:=v) e2;rw[j1] at k1;cases k1;obtain⟨u,ru,lk⟩:=hlo j y v j2 k2 (j3.elim (fun z=>.inr (.inl z)) fun z=>.inr (.inr z));refine⟨u,ru,?_⟩;obtain⟨c,hc⟩:=h3 y (PySem.mem_of_lookup j4);rcases lk with ⟨k,_⟩ | ⟨k,c',e',z⟩
   ·have k':X.env.scope.names.lookup y=some .local:=k;rcases j3 with q | q<;>(rw[q] at k';cases k')
   ·rw[h2 y c hc] at e';cases e';refine .inr ⟨?_,c,?_,?_⟩
    ·exact jba (env:=X.env) j4
    ·have no:(y,NameKind.cell)∉cs.names:=fun q=>by
      have:=S.hown _ q rfl;rw[j4] at this;cases this
     show (cellsFrom (s.heap.objs.size+1) cs.names cl).lookup y=some c;rw[jgr _ _ _ y no];exact hc
    ·obtain⟨o,ho,hd⟩:=z;exact⟨o,hk c o ho,hd⟩
 ·rcases cf y c e with z | ⟨_,_,z⟩
  ·obtain⟨v,o,ho,hd⟩:=I.cell y c z;exact⟨v,o,hk c o ho,hd⟩
  ·exact⟨none,z⟩
 ·rcases cf y c e with z | ⟨_,z,_⟩
  ·exact I.freeC y c z
  ·exact I.hok.fresh (xaX (xb4 _) z)
 ·show (List.replicate xs0.length none++jaJ σ ix).length=N'.length;rw[S.eq,xal,xal,xa9,S.ixs.len];unfold jaJ;rw[xaa]
theorem jdh {N' r:List Str} {ix:List Nat} {xs0:List Str} {cs:Scope} {cl:List (Str × Addr)} {tg iter elt:Expr} {ifs:List Expr} {pos:Pos} {J:It} {fp:List Addr} {it:Addr} {tn:Nat->Heap->Prop} {g:TG} {tt:TT} {te:TE} {Z:Addr->Hp->Prop}
    {RR:Value->Addr->Result->Shared->Prop} {E:Value->Shared->Prop}
    (I:Inv X pins σ H s) (hc:X.calm=true) (S:CompScopeMC X.N X.env.scope N' ix xs0 r cs) (h2:∀y c,cl.lookup y=some c->X.env.cells.lookup y=some c) (h3:∀y,(y,NameKind.free)∈cs.names->∃c,cl.lookup y=some c)
    (T:Turn X.prog X.w X.K tg J fp it tn) (st:tn 0 s.heap) (hf:∀b∈fp,jgJ X pins H b)
    (hg:∀s3 H3,PG (jaN X N' cs cl s3 H3 fp) tg g) (ht:∀s3 H3,PTs (jaN X N' cs cl s3 H3 fp) ifs tt) (he:∀s3 H3,PE (jaN X N' cs cl s3 H3 fp) elt te)
    (go:∀acc,H acc=none->jdf J xs0.length (jaJ σ ix) g tt te acc (Z acc) H)
    (fin:∀acc C s' H' m,Inv X pins σ H' s'->jgJ X pins H' C->s'.heap.Ns C m->Z acc H'->RR (.ref acc) C (.ok .next) s') :
    wpAny (model X.prog X.w) X.A (newList []) (fun acc s₃=>wpAny (model X.prog X.w) X.A (newFunctionEnv cs X.env.globals cl [] X.env.qual none .none (some X.env)) (fun cenv s₄ =>
      codeAny (model X.prog X.w) X.A (.compStart (.ListComp elt [⟨tg,iter,ifs,0⟩] cs pos) 0 (.ref it) acc { cenv with scope:=relabel cs X.env }) (RR acc cenv.locals) s₄) E s₃) E s:=by
  refine wpAny_newObj_type (jfI ?_);dsimp only;have hfs:∀b∈fp,b<s.heap.objs.size:=fun b hb=>by
    obtain⟨o,e,_⟩:=T.obj _ _ st b hb;exact Heap.lt_size e
  have I3:Inv X pins σ (upd H s.heap.objs.size (.lst [])) { s with heap:=s.heap.push { cls:=.type "list",data:=.seq ([]:List Value).toArray } }:=I.lnew (its:=[]) (t':=s.toks) .nil (xaY _);have nacc:H s.heap.objs.size=none:=I.fresh;have hf3:∀b∈fp,jgJ X pins (upd H s.heap.objs.size (.lst [])) b:=fun b hb=>⟨by rw[jaw (xax (hfs b hb))];exact (hf b hb).1,(hf b hb).2⟩;have hfs3:∀b∈fp,b<(s.heap.push { cls:=.type "list",data:=.seq ([]:List Value).toArray }).objs.size:=fun b hb=>by
    rw[Heap.size_push];exact xbn (hfs b hb)
  generalize hs3:({ s with heap:=s.heap.push { cls:=.type "list",data:=.seq ([]:List Value).toArray } }:Shared)=s3 at I3;generalize hH3:upd H s.heap.objs.size (.lst [])=H3 at I3 hf3;have eh:s.heap.push { cls:=.type "list",data:=.seq ([]:List Value).toArray }=s3.heap:=by rw[<- hs3]
  rw[eh] at hfs3;have I4:Inv (jaN X N' cs cl s3 H3 fp) [] (List.replicate xs0.length none++jaJ σ ix) H3 { s3 with heap:=pushCells (s3.heap.push { cls:=.type "dict",data:=.dict #[] }) cs.names } :=
    I3.compStartMC S h2 h3 hf3 hfs3
  have cf:=(I3.cfs (cs:=cs) h2).2;have kp2:∀b o,s.heap.get? b=some o->(pushCells (s3.heap.push { cls:=.type "dict",data:=.dict #[] }) cs.names).get? b=some o:=fun b o e=>pushCells_keeps _ _ _ _ (Heap.get?_push_of_some _ (by rw[<- eh];exact Heap.get?_push_of_some _ e));have st4:tn 0 (pushCells (s3.heap.push { cls:=.type "dict",data:=.dict #[] }) cs.names):=T.keep _ _ _ st fun b hb o e=>kp2 b o e;obtain⟨W,⟨m0,w0⟩,turn⟩:=go s.heap.objs.size nacc;rw[hH3] at w0;have stat:∀{H':Hp},(∀b∈fp,H' b=none)->∀b∈fp,jgJ (jaN X N' cs cl s3 H3 fp) [] H' b:=fun hn b hb =>
    ⟨hn b hb,xax (hfs3 b hb),fun hs=>by
      rcases xam.mp (I.stkSub b hs) with z | z
      . exact (hf b hb).2.1 z
      . exact (hf b hb).2.2.1 z,.inl hb,fun y c e=>by
        rcases cf y c e with z | ⟨_,z,_⟩
        . exact (hf b hb).2.2.2.2.1 y c z
        . exact Nat.ne_of_gt (xao (xbn (hfs3 b hb)) z),fun p hp=>absurd (show p∈([]:List (Addr × Obj)) from hp) (by simp)⟩
  have es:s3.heap.objs.size=s.heap.objs.size+1:=by rw[<- eh,Heap.size_push]
  have loop:codeAny (model X.prog X.w) X.A (.compLoop (.ListComp elt [⟨tg,iter,ifs,0⟩] cs pos) 0 (.ref it) (.ref s.heap.objs.size) (jaN X N' cs cl s3 H3 fp).env)
      (RR (.ref s.heap.objs.size) s3.heap.objs.size) { s3 with heap:=pushCells (s3.heap.push { cls:=.type "dict",data:=.dict #[] }) cs.names }:=by
    refine jgk (fun n s'=>∃i v0 H' xs,v0.length=xs0.length/\Inv (jaN X N' cs cl s3 H3 fp) [] (v0++jaJ σ ix) H' s'/\tn i s'.heap/\(∀b∈fp,H' b=none)/\W i n xs H') ?_ m0
      ⟨0,List.replicate xs0.length none,H3,[],xa9,I4,st4,fun b hb=>(hf3 b hb).1,w0⟩
    rintro n s5 ⟨i,v0,H5,xs,l5,I5,st5,fr5,w5⟩;rcases turn i n xs H5 w5 with ⟨stop,q⟩ | ⟨hgo,Nx,Nn,hNx,hNn,step⟩
    . refine thn (T.done (jaN X N' cs cl s3 H3 fp) rfl rfl rfl hc i [] s5 _ H5 _ I5 (stat fr5) st5 stop) fun r' s6 ⟨hr,I6⟩=>?_
      subst hr;have u:Un (frs X.stack) fp H H5 s.heap s6.heap:=by
        refine Un.trans (H1:=H3) (h1:=s3.heap) ?_ I6.base;rw[<- hH3,<- eh];exact Un.laid (fun _ _ q=>Heap.get?_push_of_some _ q) (xaj _) nacc
      have e3:s3.os=s.os:=by rw[<- hs3]
      have os6:s6.os=s.os:=I6.os.trans e3;have J6:Inv X pins σ H5 s6:=I.call' os6 u I6.hok I6.bare fun b hb=>⟨(hf b hb).2.2.2.1,(hf b hb).2.1,(hf b hb).2.2.2.2.1,(hf b hb).2.2.2.2.2⟩;obtain⟨m6,n6,_⟩:=I6.loc;exact fin _ _ s6 H5 m6 J6 (I.fpOk (by rw[es];exact xb4 _) I6.free) n6 q
    . refine thn (T.item (jaN X N' cs cl s3 H3 fp) rfl rfl rfl hc i [] s5 _ H5 _ I5 (stat fr5) st5 hgo) fun r' s6 ⟨u,hr,h6⟩=>?_
      subst hr;refine thn h6 fun _ s7 ⟨y,H7,I7,r7,y7,st7,fr7⟩=>?_;have I7':=I7.pinned (stat fr7) (T.obj _ _ st7);refine wpAny_mono (hg s3 H3 _ s7 _ H7 y u _ I7' r7 (step v0 y H7 l5 y7)) (fun _ s8 ⟨σ8,H8,I8,⟨v8,l8,e8⟩,q8⟩=>?_) fun _ _ z=>z.elim;subst e8;have back:∀{s9:Shared} {H9:Hp} {m':Nat} {xs':List V},Inv (jaN X N' cs cl s3 H3 fp) ([]++jf9 fp s7.heap) (v8++jaJ σ ix) H9 s9->m'<n->W (i+1) m' xs' H9 ->
          ∃m,m<n/\∃i v0 H' xs,v0.length=xs0.length/\Inv (jaN X N' cs cl s3 H3 fp) [] (v0++jaJ σ ix) H' s9/\tn i s9.heap/\(∀b∈fp,H' b=none)/\W i m xs H':=fun {s9 H9 m' xs'} I9 hm w9 =>
        ⟨m',hm,i+1,v8,H9,xs',l8,I9.unpinned,T.keep _ _ _ st7 fun b hb o e=>(I9.pin (b,o) (xaR _ (xaR _ (jcW hb e)))).1,fun b hb=>by
          obtain⟨o,e,d⟩:=T.obj _ _ st7 b hb;exact (I9.pin (b,o) (xaR _ (xaR _ (jcW hb e)))).2.1,w9⟩
      refine thn (ht s3 H3 _ _ s8 _ H8 _ (fun _ _ z=>z.elim) I8 q8) fun b s9 ⟨H9,I9,q9⟩=>?_;cases b with
      | false =>
        rw[if_neg xat] at q9 |-
        obtain⟨m',hm,w9⟩:=hNn H9 q9;exact back I9 hm w9
      | true =>
        rw[if_pos rfl] at q9 |-
        refine wpAny_mono (he s3 H3 _ s9 _ H9 _ I9 q9) (fun u2 s10 ⟨y2,H10,I10,r10,q10⟩=>?_) fun _ _ z=>z.elim;obtain⟨a10,z10,m',hm,w10⟩:=hNx y2 H10 q10;refine wpAny_mono (jez (X:=jaN X N' cs cl s3 H3 fp) _ s10 _ H10 (.ref s.heap.objs.size) [y2] (.ref s.heap.objs.size) [u2] (fun _ H'=>H'=upd H10 s.heap.objs.size (.lst (xs++[y2]))) I10 rfl (.cons r10 .nil) ⟨_,xs,y2,rfl,rfl,a10,z10,rfl⟩) (fun _ s11 ⟨_,H11,I11,_,e11⟩=>?_) fun _ _ z=>z.elim;subst e11;exact back I11 hm w10
  subst hs3;exact codeAny_compStart_list loop (T.self X.A 0 _ _ _ st4 loop)
end
section
variable {X:Cx} {N' r xs0:List Str} {ix:List Nat} {cs:Scope} {tg iter elt:Expr} {ifs:List Expr} {pos:Pos} {wi:TI} {g:TG} {tt:TT} {te:TE}
theorem CompScopeMC.clos {sc:Scope} {N:List Str} (S:CompScopeMC N sc N' ix xs0 r cs) {env:Env} (he:env.scope=sc) (has:∀y,(env.kindOf y=some .cell\/env.kindOf y=some .free)->∃c,env.cells.lookup y=some c) :
  ∃cl:List (Str × Addr),closureFor cs env=pure cl/\(∀y c,cl.lookup y=some c->env.cells.lookup y=some c)/\(∀y,(y,NameKind.free)∈cs.names->∃c,cl.lookup y=some c) :=
 jdO fun y hy hk=>has y.1 (by
  subst he;exact S.fr y hy hk)
theorem jeJ (hc:X.calm=true) (S:CompScopeMC X.N X.env.scope N' ix xs0 r cs) (hi:PI X tg iter wi)
  (hg:∀cl s3 H3 fp,PG (jaN X N' cs cl s3 H3 fp) tg g) (ht:∀cl s3 H3 fp,PTs (jaN X N' cs cl s3 H3 fp) ifs tt) (he:∀cl s3 H3 fp,PE (jaN X N' cs cl s3 H3 fp) elt te)
  (hs:∀x,foldedSetIterable iter X.env x=pure x:=by intro _;rfl):PE X (.ListComp elt [⟨tg,iter,ifs,0⟩] cs pos) (jlD wi ix xs0.length g tt te):=by
 intro pins s σ H Q I h;obtain⟨cl,c1,c2,c3⟩:=S.clos rfl I.ok.has;rw[eval_ListComp];refine wpAny_comprehension_free (use:=none) rfl hs c1 S.kind S.hnames (thn (hi pins s σ H _ I h) fun v s1 h1=>thn h1 fun itv s2 h2=>?_);obtain⟨it,fp,tn,J,H2,e,I2,T,st2,f2,R⟩:=h2;subst e;refine jdh (RR:=fun acc C=>compPost (model X.prog X.w) X.A X.xe none (EP X pins σ Q) acc C) I2 hc S c2 c3 T st2 f2 (fun s3 H3=>hg cl s3 H3 fp) (fun s3 H3=>ht cl s3 H3 fp) (fun s3 H3=>he cl s3 H3 fp) R ?_;intro acc C s' H' m I' fC hn q;refine⟨m,hn,fun h' hb=>⟨.ref acc,H',?_,rfl,q⟩⟩;exact I'.turned (t':=s'.toks) (fun b o hne e=>(hb.2 b hne).trans e) fC.1 fC.2.1 fC.2.2.2.1 fC.2.2.2.2.1 fC.2.2.2.2.2
end
section
variable {X:Cx} {tg:Expr}
def iLT (K:PySem.W.Frag) (tl:TE):TI:=fun σ H R=>tl σ H fun x H1=>∃a,x=.ref a/\(((∃xs,SqL K H1 a xs)/\R (Itl K a) H1)\/((∃xs,SqT K H1 a xs)/\R (Itt K a) H1))
theorem pi_lt {l:Expr} {tl:TE} (hl:PE X l tl):PI X tg l (iLT X.K tl):=by
 intro pins s σ H R I h;refine thn (hl pins s σ H _ I h) fun v s1 ⟨x,H1,I1,r1,q1⟩=>?_;obtain⟨a,e,q1⟩:=q1;subst e;cases r1;rcases q1 with ⟨⟨xs,hq⟩,q⟩ | ⟨⟨xs,hq⟩,q⟩
 ·obtain⟨its,rv,p,hz⟩:=I1.list hq;refine wpAny_pyIter_list p.isList ?_;refine⟨s1.heap.objs.size,[s1.heap.objs.size],_,_,H1,rfl,I1.kept (t':=s1.toks) fun b o e=>Heap.get?_push_of_some _ e,jf7 a _,⟨_,Heap.get?_push_size _ rfl,rfl,rfl⟩,fun b hb=>?_,q⟩;have e:b=s1.heap.objs.size:=by simpa using hb
  subst e;exact I1.fpOk (xaj _) (I1.hok.fresh (xaj _))
 ·obtain⟨its,rv,p,hz⟩:=I1.tuple hq;refine wpAny_pyIter_tuple (show s1.heap.IsTuple a its.toArray from p) ?_;refine⟨s1.heap.objs.size,[s1.heap.objs.size],_,_,H1,rfl,I1.kept (t':=s1.toks) fun b o e=>Heap.get?_push_of_some _ e,jfd a _,⟨_,Heap.get?_push_size _ rfl,rfl,rfl⟩,fun b hb=>?_,q⟩;have e:b=s1.heap.objs.size:=by simpa using hb
  subst e;exact I1.fpOk (xaj _) (I1.hok.fresh (xaj _))
end
section
variable {K:PySem.W.Frag} {tl:TE} {g:TG} {tb:TS} {D:Ends} {σ:St} {H:Hp}
theorem jmN:jlo (iLT K tl) g tb D σ H=tl σ H fun x H1=>∃a,x=.ref a/\(((∃xs,SqL K H1 a xs)/\jkA (Itl K a) g tb D σ H1)\/((∃xs,SqT K H1 a xs)/\jkA (Itt K a) g tb D σ H1)):=rfl
end
theorem CompScopeC.mc {N:List Str} {sc:Scope} {N':List Str} {ix:List Nat} {x:Str} {r:List Str} {cs:Scope} (S:CompScopeC N sc N' ix x r cs):CompScopeMC N sc N' ix [x] r cs:=⟨S.eq,S.kind,S.hown,S.hnames,S.nd,S.fr,S.ixs⟩
theorem CompGo.m1 {J:It} {ρ:St} {g:TG} {tt:TT} {te:TE} {acc:Addr} {Z:Hp->Prop} {H1:Hp} (h:CompGo J ρ g tt te acc Z H1):jdf J [("":Str)].length ρ g tt te acc Z H1:=by
 obtain⟨W,h0,hs⟩:=h;refine⟨W,h0,fun i m xs H w=>?_⟩;rcases hs i m xs H w with h | ⟨hg,Nx,Nn,h1,h2,step⟩
 ·exact .inl h
 ·refine .inr ⟨hg,Nx,Nn,h1,h2,fun v0 x H' l0 y=>?_⟩;obtain⟨a,rfl⟩:=List.length_eq_one_iff.mp l0;have e:(fun (σ2:St) (H2:Hp)=>(∃v,σ2=v::ρ)/\tt σ2 H2 fun b H3=>if b=true then te σ2 H3 Nx else Nn H3)=fun σ2 H2=>(∃v:St,v.length=[("":Str)].length/\σ2=v++ρ)/\tt σ2 H2 fun b H3=>if b=true then te σ2 H3 Nx else Nn H3:=by
   funext σ2 H2
   refine congrArg (·/\_) (propext ⟨fun ⟨v,e⟩=>⟨[v],rfl,e⟩,fun ⟨v,l,e⟩=>?_⟩);obtain⟨b,rfl⟩:=List.length_eq_one_iff.mp l;exact⟨b,e⟩
  have:=step a x H' y;rw[e] at this;exact this
section
variable {X:Cx} {N' r:List Str} {ix:List Nat} {x:Str} {cs:Scope} {tg iter elt:Expr} {ifs:List Expr} {pos:Pos} {wi:TI} {g:TG} {tt:TT} {te:TE}
theorem jaX (hc:X.calm=true) (S:CompScopeC X.N X.env.scope N' ix x r cs) (hi:PI X tg iter wi)
  (hg:∀cl s3 H3 fp,PG (jaN X N' cs cl s3 H3 fp) tg g) (ht:∀cl s3 H3 fp,PTs (jaN X N' cs cl s3 H3 fp) ifs tt) (he:∀cl s3 H3 fp,PE (jaN X N' cs cl s3 H3 fp) elt te)
  (hs:∀x,foldedSetIterable iter X.env x=pure x:=by intro _;rfl):PE X (.ListComp elt [⟨tg,iter,ifs,0⟩] cs pos) (jgl wi ix g tt te):=by
 intro pins s σ H Q I h;obtain⟨cl,c1,c2,c3⟩:=S.mc.clos rfl I.ok.has;rw[eval_ListComp];refine wpAny_comprehension_free (use:=none) rfl hs c1 S.kind S.hnames (thn (hi pins s σ H _ I h) fun v s1 h1=>thn h1 fun itv s2 h2=>?_);obtain⟨it,fp,tn,J,H2,e,I2,T,st2,f2,R⟩:=h2;subst e;refine jdh (RR:=fun acc C=>compPost (model X.prog X.w) X.A X.xe none (EP X pins σ Q) acc C) I2 hc S.mc c2 c3 T st2 f2 (fun s3 H3=>hg cl s3 H3 fp) (fun s3 H3=>ht cl s3 H3 fp) (fun s3 H3=>he cl s3 H3 fp) (fun acc h=>(R acc h).m1) ?_;intro acc C s' H' m I' fC hn q;refine⟨m,hn,fun h' hb=>⟨.ref acc,H',?_,rfl,q⟩⟩;exact I'.turned (t':=s'.toks) (fun b o hne e=>(hb.2 b hne).trans e) fC.1 fC.2.1 fC.2.2.2.1 fC.2.2.2.2.1 fC.2.2.2.2.2
theorem jbG {i:Nat} {y:Str} {py spos:Pos} (hc:X.calm=true) (hN:X.N.Nodup) (hiN:X.N[i]?=some y) (hy:X.env.scope.names.lookup y=some .local) (S:CompScopeC X.N X.env.scope N' ix x r cs) (hi:PI X tg iter wi)
  (hg:∀cl s3 H3 fp,PG (jaN X N' cs cl s3 H3 fp) tg g) (ht:∀cl s3 H3 fp,PTs (jaN X N' cs cl s3 H3 fp) ifs tt) (he:∀cl s3 H3 fp,PE (jaN X N' cs cl s3 H3 fp) elt te)
  (hsw:swapsWith (.ListComp elt [⟨tg,iter,ifs,0⟩] cs pos) (some (.Name y py)) spos.line X.env=pure true:=by rfl)
  (hs:∀x,foldedSetIterable iter X.env x=pure x:=by intro _;rfl):PS X (.Assign [.Name y py] (.ListComp elt [⟨tg,iter,ifs,0⟩] cs pos) spos) (jmf (jgl wi ix g tt te) (jbB i)):=by
 intro pins s σ H D I h;obtain⟨cl,c1,c2,c3⟩:=S.mc.clos rfl I.ok.has;rw[exec_Assign_Name_used _ _ _ _ hsw];refine wpAny_bind (wpAny_standAt (wpAny_bind ?_));show wpAny _ X.A (do let _ <- comprehension (.ListComp elt [⟨tg,iter,ifs,0⟩] cs pos) cs X.env _ (newList []) false (eval iter X.env) (some (assign (.Name y py) X.env))) _ _ s;refine wpAny_bind (wpAny_mono (wpAny_comprehension_free (use:=some (assign (.Name y py) X.env)) (Q:=fun _ s'=>SP X pins D .next s') rfl hs c1 S.kind S.hnames
  (thn (hi pins s σ H _ I h) fun v s1 h1=>thn h1 fun itv s2 h2=>?_)) (fun _ s' hq=>wpAny_pure (wpAny_pure hq)) fun _ _ e=>e)
 obtain⟨it,fp,tn,J,H2,e,I2,T,st2,f2,R⟩:=h2;subst e;refine jdh (RR:=fun acc C=>compPost (model X.prog X.w) X.A X.xe (some (assign (.Name y py) X.env)) (fun _ s'=>SP X pins D .next s') acc C) I2 hc S.mc c2 c3 T st2 f2 (fun s3 H3=>hg cl s3 H3 fp) (fun s3 H3=>ht cl s3 H3 fp) (fun s3 H3=>he cl s3 H3 fp) (fun acc h=>(R acc h).m1) ?_;intro acc C s' H' m I' fC hn q;show wpAny _ X.A (assign (.Name y py) X.env (.ref acc)) _ _ _;refine wpAny_assign_Name (jf5 (v:=.ref acc) I' hN hiN (.inl hy) rfl (fun s'' I'' ⟨a,hb,ha⟩=>?_) (.inr hy));have hCa:C≠a:=fun z=>by
  rcases ha with ha | ha
  ·exact fC.2.1 (z.trans ha)
  ·exact fC.2.2.2.2.1 y a ha z.symm
 refine⟨m,hn.sameBut hb hCa,fun h' hb'=>⟨_,H',?_,q⟩⟩;exact I''.turned (t':=s''.toks) (fun b o hne e=>(hb'.2 b hne).trans e) fC.1 fC.2.1 fC.2.2.2.1 fC.2.2.2.2.1 fC.2.2.2.2.2
end
end L2
set_option maxHeartbeats 2000000
namespace My
def G (d:Int) (ns:List Int):Int:=ns.foldl (fun d n=>((Int.gcd d n:Nat):Int)) d
abbrev gl (ns:List Int):Int:=G 0 ns
theorem jgv (d n:Int) (r:List Int):G d (n::r)=G (Int.gcd d n:Nat) r:=rfl
theorem jog (d:Int) (l:List Int) (n:Int):G d (l++[n])=(Int.gcd (G d l) n:Nat):=by
 unfold G;rw[List.foldl_append];rfl
theorem jhE:∀(ns:List Int) (d:Int),0<=d->0<=G d ns
 | [],_,h=>h
 | n::r,d,_=>by rw[jgv];exact jhE r _ (by omega)
theorem jbk (ns:List Int):0<=gl ns:=jhE ns 0 (by omega)
theorem joh:∀(ns:List Int) (d:Int),G d ns ∣ d/\∀n∈ns,G d ns ∣ n
  | [],d=>⟨xcm d,fun n h=>nomatch h⟩
  | m :: r, d => by
    obtain⟨h1,h2⟩:=joh r (Int.gcd d m:Nat);rw[jgv];refine⟨xbv h1 (xbu ..),fun n hn=>?_⟩;rcases xam.mp hn with rfl | hn
    . exact xbv h1 (xbo ..)
    . exact h2 n hn
variable {ns:List Int}
theorem jaR {n:Int} (h:n∈ns):gl ns ∣ n:=(joh ns 0).2 n h
theorem joi:∀(ns:List Int) (d k:Int),k ∣ d->(∀n∈ns,k ∣ n)->k ∣ G d ns
  | [],_,_,h,_=>h
  | m :: r, d, k, h, hn => by
    rw[jgv];refine joi r _ k ?_ fun n h'=>hn n (xad _ h');have h2:=hn m xaN;exact xbC h h2
variable {k g a x y A B ε:Int}
theorem jfj (h:∀n∈ns,k ∣ n):k ∣ gl ns:=joi ns 0 k (Int.dvd_zero k) h
theorem jmO (h0:0<=k) (h:k ∣ 1):k=1:=by
 exact Int.eq_one_of_dvd_one h0 h
theorem jjg (hg:gl ns≠0):gl (ns.map (· / gl ns))=1:=by
 have h0:=jbk ns;refine jmO (jbk _) ?_;have h1:∀n∈ns,gl (ns.map (· / gl ns))*gl ns ∣ n:=fun n hn=>by
  obtain⟨c,hc⟩:=jaR (ns:=ns.map (· / gl ns)) (xah.mpr ⟨n,hn,rfl⟩);refine⟨c,?_⟩;have e:n=n / gl ns*gl ns:=(xa3 (jaR hn)).symm;rw[e,hc,Int.mul_assoc,xaI c,<- Int.mul_assoc]
 obtain⟨c,hc⟩:=jfj h1;refine⟨c,?_⟩;have h2:gl ns*1=gl ns*(gl (ns.map (· / gl ns))*c):=by
  rw[Int.mul_one,<- Int.mul_assoc,xaI (gl ns) (gl (ns.map (· / gl ns)))];exact hc
 exact Int.eq_of_mul_eq_mul_left hg h2
theorem joj:∀ns:List Int,G 1 ns=1
  | []=>rfl
  | n :: r => by
    rw[jgv];have:Int.gcd 1 n=1:=by simp
    rw[this];exact joj r
theorem jkL (d:Int) (a b:List Int):G d (a++b)=G (G d a) b:=by
 unfold G;exact List.foldl_append
variable {n i j:Nat}
theorem je9 (h:gl (ns.take i)=1):gl ns=1:=by
 have e:ns=ns.take i++ns.drop i:=(xaJ i ns).symm;rw[e];show G 0 _=1;rw[jkL];have h':G 0 (ns.take i)=1:=h;rw[h'];exact joj _
theorem jgw {n:Int} (h:ns[i]?=some n):gl (ns.take (i+1))=(Int.gcd (gl (ns.take i)) n:Nat):=by
 rw[xbB,h];exact jog 0 _ n
theorem jg2 (ns:List Int):ns.map (· / 1)=ns:=by
 induction ns with
 | nil=>rfl
 | cons a r ih=>rw[xaS,ih,Int.ediv_one]
theorem jkM (a b:Int) (ha:0<=a):Int.gcd b (a % b)=Int.gcd a b:=by
 have h1:(a % b).natAbs=a.natAbs % b.natAbs:=Int.natAbs_emod_of_nonneg ha b;rw[Int.gcd_eq_natAbs_gcd_natAbs,Int.gcd_eq_natAbs_gcd_natAbs,h1];rw[Nat.gcd_comm,Nat.gcd_comm a.natAbs,<- Nat.gcd_rec]
theorem jmP (a b:Int):Int.gcd (if a<0 then -a else a) (if b<0 then -b else b)=Int.gcd a b:=by
 split<;>split<;>simp [Int.gcd_neg,Int.neg_gcd]
theorem jif (a b:Int):Int.gcd (if b>a then b else a) (if b<a then b else a)=Int.gcd a b:=by
 split<;>split
 ·omega
 ·exact Int.gcd_comm b a
 ·rfl
 ·have:a=b:=by omega
  rw[this]
theorem jco {n:Int} (h:n∈ns) (hn:n≠0):0<gl ns:=by
 have h0:=jbk ns;rcases Int.lt_or_eq_of_le h0 with h1 | h1
 ·exact h1
 ·obtain⟨c,hc⟩:=jaR h;rw[<- h1,xaK] at hc;exact absurd hc hn
end My
namespace My
variable {k g a x y A B ε:Int}
theorem jg3 {n:Int} (h:g ∣ n) (hn:n≠0):n / g≠0:=fun z=>by
 have e:=xa3 h;rw[z,xaK] at e;exact hn e.symm
end My
local macro_rules | `(tactic| walk_at "cs") => `(tactic| exact .nest rfl rfl (by decide +kernel) (by decide +kernel) (by decide +kernel) (by decide +kernel) (by repeat (first | exact .nil | refine .cons rfl (.inl rfl) rfl ?_)))
local macro_rules | `(tactic| walk_at "ar") => `(tactic| (intro vs H Q E h; cases h; subst_vars; rfl))
local macro_rules | `(tactic| walk_at "rjs") => `(tactic| simp only [L2.start, L2.jnV, L2.jgN, L2.jmf, L2.jbB, L2.jfc, L2.tC, L2.tOp, L2.tUn, L2.jgS, L2.tB, L2.jmd, L2.jin, L2.jkp, L2.jix, L2.jho, L2.jiw, L2.jnR, L2.tOr, L2.jnS, L2.jiv, L2.tOrV, L2.jko, L2.jew, L2.tCB, L2.jbQ, L2.jgT, L2.jmo, L2.jkt, L2.jnX, L2.jn3, L2.tBM, L2.tyV, L2.jn6, L2.gk, and_self, L2.tSl, L2.jex, L2.jiL, L2.jme, L2.jgP, L2.jnG, L2.jhr, and_assoc, L2.rI, L2.rI0, L2.rU, L2.rEq, L2.rNe, L2.jnH, List.map_cons, List.map_nil, List.length_cons, List.length_nil, List.replicate_succ, List.replicate_zero, List.cons_append, List.nil_append, List.append_nil, Nat.reduceSub, Nat.reduceAdd, Nat.sub_self, List.set_cons_zero, List.set_cons_succ, List.getElem?_cons_zero, List.getElem?_cons_succ, Option.some.injEq, exists_eq_left', exists_eq_left, L2.V.int.injEq, L2.V.bl.injEq, L2.V.ref.injEq, L2.V.ty.injEq, List.cons.injEq, exists_and_left, and_true, true_and, reduceCtorEq, false_and, and_false, exists_false, or_false, false_or, L2.jaJ, Option.getD_some, Bool.true_eq_false, decide_eq_true_eq, Bool.not_eq_true', decide_eq_false_iff_not, decide_not, Bool.false_eq_true, if_true, if_false, ite_not])
local macro_rules | `(tactic| walk_at "rj") => `(tactic| first | ((dsimp only [L2.start, L2.jnV, L2.jgN, L2.jmf, L2.jbB, L2.jfc, L2.tC, L2.tOp, L2.tUn, L2.jgS, L2.tB, L2.jmd, L2.jin, L2.jkp, L2.jix, L2.jho, L2.jiw, L2.jnR, L2.tOr, L2.jnS, L2.jiv, L2.tOrV, L2.jko, L2.jew, L2.tCB, L2.jbQ, L2.jgT, L2.jmo, L2.jkt, L2.jnX, L2.jn3, L2.tBM, L2.tyV, L2.jn6, L2.gk, L2.tSl, L2.jex, L2.jiL, L2.jme, L2.jgP, L2.jnG, L2.jhr, L2.rI, L2.rI0, L2.rU, L2.rEq, L2.rNe, L2.jnH, L2.jaJ, List.map_cons, List.map_nil, List.length_cons, List.length_nil, List.replicate_succ, List.replicate_zero, List.cons_append, List.nil_append, List.set_cons_zero, List.set_cons_succ, List.getElem?_cons_zero, List.getElem?_cons_succ, Option.getD_some, Nat.reduceSub, Nat.reduceAdd]); (try walk_at "rjs")) | walk_at "rjs")
local macro_rules | `(tactic| walk_at "go") => `(tactic| repeat (first | refine L2.ixT (by assumption) rfl ?_ | refine L2.ixL (by assumption) rfl ?_ | refine And.intro (by assumption) ?_ | walk_at "rj"))
local macro_rules | `(tactic| walk_at "ris") => `(tactic| simp only [L2.start, L2.jnV, L2.jgN, L2.jmf, L2.jbB, L2.jfc, L2.tC, L2.tOp, L2.tUn, L2.jgS, L2.tB, L2.jmd, L2.jin, L2.jkp, L2.jix, L2.jho, L2.jiw, L2.jnR, L2.tOr, L2.jnS, L2.jiv, L2.tOrV, L2.jko, L2.jew, L2.tCB, L2.jbQ, L2.jgT, L2.jmo, L2.jkt, L2.jnX, L2.jn3, L2.tBM, L2.tyV, L2.jn6, L2.gk, and_self, L2.tSl, L2.jex, L2.jiL, L2.jme, L2.jgP, L2.jnG, L2.jhr, and_assoc, L2.rI, L2.rI0, L2.rU, L2.rEq, L2.rNe, L2.jnH, List.map_cons, List.map_nil, List.length_cons, List.length_nil, List.replicate_succ, List.replicate_zero, List.cons_append, List.nil_append, List.append_nil, Nat.reduceSub, Nat.reduceAdd, Nat.sub_self, List.set_cons_zero, List.set_cons_succ, List.getElem?_cons_zero, List.getElem?_cons_succ, Option.some.injEq, exists_eq_left', exists_eq_left, L2.V.int.injEq, L2.V.bl.injEq, L2.V.ref.injEq, L2.V.ty.injEq, List.cons.injEq, exists_and_left, and_true, true_and, reduceCtorEq, false_and, and_false, exists_false, or_false, false_or, L2.jaJ, Option.getD_some, Bool.true_eq_false, decide_eq_true_eq, Bool.not_eq_true', decide_eq_false_iff_not, decide_not, Bool.false_eq_true, if_true, if_false, ite_not, L2.jiY, L2.jiZ, L2.jly, L2.jlz, L2.jhu, L2.jhv, L2.ji0, L2.ji1, L2.jlC, L2.ji4, L2.jls, L2.V.str.injEq, L2.jhz, L2.jfH, L2.jhA, L2.jlE])
local macro_rules | `(tactic| walk_at "ri") => `(tactic| first | ((dsimp only [L2.start, L2.jnV, L2.jgN, L2.jmf, L2.jbB, L2.jfc, L2.tC, L2.tOp, L2.tUn, L2.jgS, L2.tB, L2.jmd, L2.jin, L2.jkp, L2.jix, L2.jho, L2.jiw, L2.jnR, L2.tOr, L2.jnS, L2.jiv, L2.tOrV, L2.jko, L2.jew, L2.tCB, L2.jbQ, L2.jgT, L2.jmo, L2.jkt, L2.jnX, L2.jn3, L2.tBM, L2.tyV, L2.jn6, L2.gk, L2.tSl, L2.jex, L2.jiL, L2.jme, L2.jgP, L2.jnG, L2.jhr, L2.rI, L2.rI0, L2.rU, L2.rEq, L2.rNe, L2.jnH, L2.jaJ, L2.jiY, L2.jiZ, L2.jly, L2.jlz, L2.jhu, L2.jhv, L2.ji0, L2.ji1, L2.jlC, L2.ji4, L2.jls, L2.jhz, L2.jfH, L2.jhA, L2.jlE, List.map_cons, List.map_nil, List.length_cons, List.length_nil, List.replicate_succ, List.replicate_zero, List.cons_append, List.nil_append, List.set_cons_zero, List.set_cons_succ, List.getElem?_cons_zero, List.getElem?_cons_succ, Option.getD_some, Nat.reduceSub, Nat.reduceAdd]); (try walk_at "ris")) | walk_at "ris")
local macro_rules | `(tactic| walk_at "sd") => `(tactic| first | assumption | exact L2.Fit.o (by omega) (by omega) | (show L2.CPow _ _; exact ⟨by decide, by decide, by decide⟩) | decide)
local macro_rules | `(tactic| walk_at "gf") => `(tactic| repeat (first | ((with_reducible apply L2.ixT); assumption; rfl) | ((with_reducible apply L2.ixL); assumption; rfl) | ((with_reducible apply L2.FoR.lst); assumption) | ((with_reducible apply L2.FoR.tup); assumption) | ((with_reducible apply L2.FoR.len); assumption) | ((with_reducible apply L2.FoR.lenT); assumption) | ((with_reducible apply And.intro); (walk_at "sd")) | walk_at "ri"))
local macro_rules | `(tactic| walk_at "sc") => `(tactic| exact ⟨rfl, rfl, rfl, by decide +kernel, rfl, by decide +kernel, by decide +kernel⟩)
local macro_rules | `(tactic| walk_at "rd") => `(tactic| try walk_at "rj")
local macro_rules | `(tactic| walk_at "rf") => `(tactic| try walk_at "ri")
namespace My
open PySem L2 PyProof.Rows
def top (i:Nat):Stmt:=PySem.Challenge.pw_boardsight_k25_free_or_refused.main.body.getD i (.Pass ⟨0,0,0,0⟩)
abbrev jeK:Stmt:=top 10
abbrev jbl:Stmt:=top 12
abbrev jbo:Stmt:=top 13
abbrev jeL:Stmt:=top 14
abbrev jcb:Stmt:=top 15
abbrev jbb:Stmt:=top 17
abbrev jbU:Stmt:=top 18
abbrev jbH:Stmt:=top 19
abbrev jeM:Stmt:=top 20
abbrev jdS:Stmt:=top 21
abbrev jcz:Stmt:=top 25
abbrev jbV:Stmt:=top 26
abbrev jdT:Stmt:=top 27
abbrev jcc:Stmt:=top 28
abbrev jbI:Stmt:=top 29
abbrev jcd:Stmt:=top 30
abbrev jeN:Stmt:=top 31
abbrev jfK:Stmt:=top 32
abbrev jfL:Stmt:=top 34
abbrev jdU:Stmt:=top 35
abbrev jdV:Stmt:=top 38
abbrev jbw:Stmt:=top 40
abbrev ja8:Stmt:=top 41
abbrev jcA:Stmt:=top 47
abbrev jcB:Stmt:=top 48
abbrev jdW:Stmt:=top 49
abbrev jbW:Stmt:=top 50
abbrev jce:Stmt:=top 43
abbrev jfM:Stmt:=top 44
abbrev jeO:Stmt:=top 45
abbrev jeP:Stmt:=top 52
abbrev jbx:Stmt:=top 53
abbrev jcC:Stmt:=top 54
abbrev jbJ:Stmt:=top 55
abbrev jdi:Stmt:=top 56
abbrev jcf:Stmt:=top 57
abbrev jbc:Stmt:=top 58
abbrev jbK:Stmt:=top 59
abbrev jbL:Stmt:=top 60
abbrev jdX:Stmt:=top 61
abbrev jcD:Stmt:=top 63
abbrev jcE:Stmt:=top 64
abbrev jdj:Stmt:=top 65
abbrev jdk:Stmt:=top 66
abbrev jcF:Stmt:=top 67
abbrev jcG:Stmt:=top 68
abbrev jdY:Stmt:=top 69
abbrev jcg:Stmt:=top 70
abbrev jcH:Stmt:=top 71
abbrev jdl:Stmt:=top 72
abbrev jbX:Stmt:=top 73
abbrev jdm:Stmt:=top 74
abbrev jch:Stmt:=top 75
abbrev jbY:Stmt:=top 76
abbrev jcI:Stmt:=top 77
abbrev jdZ:Stmt:=top 78
abbrev jdn:Stmt:=top 79
abbrev jd0:Stmt:=top 80
abbrev jbZ:Stmt:=top 81
abbrev jci:Stmt:=top 82
abbrev jdo:Stmt:=top 83
abbrev jcJ:Stmt:=top 84
abbrev jb0:Stmt:=top 85
abbrev jd1:Stmt:=top 86
abbrev jfN:Stmt:=top 87
def Small (i:Int):Prop:=i.natAbs<2^1990
theorem Small.neg {i:Int} (h:Small i):Small (-i):=by unfold Small at *;rw[xbI];exact h
theorem Small.ite {c:Prop} [Decidable c] {i j:Int} (h:Small i) (h':Small j):Small (if c then i else j):=by split<;>assumption
theorem Small.bd {i:Int} (h:Small i):Bd 1990 i:=h
theorem Small.of {i:Int} (h1:-1606938044258990275541962092341162602522202993782792835301376<i) (h2:i<1606938044258990275541962092341162602522202993782792835301376):Small i:=(Bd.of h1 h2).mono
variable {k g a x y A B ε:Int}
theorem Small.div {i:Int} (h:Small i):Small (i / g):=xa7 (xa1 i g) h
variable {ns:List Int}
theorem jhF (h:∀n∈ns,Small n):Small (gl ns):=by
 by_cases c:∃n∈ns,n≠0
 ·obtain⟨n,hn,h0⟩:=c;have z:=Int.natAbs_dvd_natAbs.mpr (jaR hn);exact xa7 (Nat.le_of_dvd (by omega) z) (h n hn)
 ·have z:(0:Int) ∣ gl ns:=jfj fun n hn=>by
   have:n=0:=xau fun q=>c ⟨n,hn,q⟩;rw[this];exact xcm 0
  rw[Int.zero_dvd.mp z];exact Nat.two_pow_pos _
variable {H H' J H1:Hp}
theorem Same.keep {p:Addr} {o:HO} (h:Same H H') (n:H p=none):Same H (upd H' p o):=fun b u q=>by rw[jaw (jaD q n)];exact h b u q
variable {n i j:Nat}
theorem jlF {v:V} (h:(ns.map V.int)[i]?=some v):∃z,v=V.int z/\ns[i]?=some z:=by
 rw[xav] at h;cases e:ns[i]? with
 | none=>rw[e] at h;cases h
 | some z=>rw[e] at h;exact⟨z,(Option.some.inj h).symm,rfl⟩
inductive spGdi (vs:List V) (H:Hp) (Q:VK):Prop
 | mk (a b:Int) (_:vs=[.int a,.int b]) (_:Small a) (_:Small b) (_:Q (.int (Int.gcd a b:Nat)) H)
def spGd:Sp:=fun vs H Q _=>spGdi vs H Q
inductive spLowi (vs:List V) (H:Hp) (Q:VK):Prop
 | mk (a:Addr) (ns:List Int) (_:vs=[.ref a]) (_:H a=some (.tup (ns.map V.int))) (_:ns.length<=10) (_:(∀n∈ns,Small n)) (_:gl ns≠0) (_:∀(r:Addr) (H':Hp),Same H H'->H' r=some (.tup ((ns.map (· / gl ns)).map V.int))->Q (.ref r) H')
def jkN:Sp:=fun vs H Q _=>spLowi vs H Q
inductive spLawi (K:PySem.W.Frag) (vs:List V) (H:Hp) (Q:VK):Prop
 | mk (a:Addr) (ns:List Int) (_:vs=[.ref a]) (_:SqL K H a (ns.map V.int)) (_:ns.length<=63) (_:∀H',Q (.bl true) H')
def jkO (K:PySem.W.Frag):Sp:=fun vs H Q _=>spLawi K vs H Q
structure Tx (K:PySem.W.Frag) (mg:Str->Option Value) (t1 t2:Tok):Prop where
 m_sum:mg "sum"=none
 m_isinstance:mg "isinstance"=none
 m_bool:mg "bool"=none
 m_abs:mg "abs"=none
 m_max:mg "max"=none
 m_min:mg "min"=none
 m_len:mg "len"=none
 m_range:mg "range"=none
 m_tuple:mg "tuple"=none
 m_list:mg "list"=none
 m_reversed:mg "reversed"=none
 m_enumerate:mg "enumerate"=none
 m_SHORT_BITS:mg "SHORT_BITS"=some (.int 2000 t1)
theorem Tx.r_SHORT_BITS {K:PySem.W.Frag} {mg:Str->Option Value} {t1 t2:Tok} (_:Tx K mg t1 t2):RelV (.int 2000) (.int 2000 t1):=⟨_,rfl⟩
def low (ns:List Int):List Int:=ns.map (· / gl ns)
def Sm2 (i:Int):Prop:=i.natAbs<2^650
theorem Sm2.bd {i:Int} (h:Sm2 i):Bd 1990 i:=Bd.mono (n:=650) h
theorem Sm2.of {i:Int} (h1:-1606938044258990275541962092341162602522202993782792835301376<i) (h2:i<1606938044258990275541962092341162602522202993782792835301376):Sm2 i:=(Bd.of h1 h2).mono
theorem Sm2.div {i:Int} (h:Sm2 i):Sm2 (i / g):=xa7 (xa1 i g) h
structure Pt where
 x:Int
 y:Int
 z:Int
 w:Int
def Pt.sm (p:Pt):Prop:=Sm2 p.x/\Sm2 p.y/\Sm2 p.z/\Sm2 p.w
def Is4 (H:Hp) (r:Addr) (p:Pt):Prop:=H r=some (.tup [.int p.x,.int p.y,.int p.z,.int p.w])/\p.sm
variable {p r f q s:Pt}
theorem Is4.keep {r:Addr} (h:Is4 H r p) (s:Same H H'):Is4 H' r p:=⟨s _ _ h.1,h.2⟩
theorem Is4.sq {K:PySem.W.Frag} {r:Addr} (h:Is4 H r p):SqT K H r [.int p.x,.int p.y,.int p.z,.int p.w]:=SqT.of h.1
theorem Pt.sm.fx (h:p.sm):Fit p.x:=h.1.bd.fit
theorem Pt.sm.fy (h:p.sm):Fit p.y:=h.2.1.bd.fit
theorem Pt.sm.fz (h:p.sm):Fit p.z:=h.2.2.1.bd.fit
theorem Pt.sm.fw (h:p.sm):Fit p.w:=h.2.2.2.bd.fit
def wo (k:Int) (p:Pt):List Int:=if k=0 then [p.y,p.z,p.w] else if k=1 then [p.x,p.z,p.w] else if k=2 then [p.x,p.y,p.w] else [p.x,p.y,p.z]
def jaY (a b c x y z u v w:Int):Int:=(b*z-c*y)*u+(c*x-a*z)*v+(a*y-b*x)*w
def detL:List Int->List Int->List Int->Int
 | [a,b,c],[x,y,z],[u,v,w]=>jaY a b c x y z u v w
 | _,_,_=>0
def jaL (k:Int) (p q r:Pt):Int:=detL (wo k p) (wo k q) (wo k r)
def inl (p q r:Pt):Bool:=decide (jaL 0 p q r=0/\jaL 1 p q r=0/\jaL 2 p q r=0)
def Tup3 (H:Hp) (r:Addr) (a b c:Int):Prop:=H r=some (.tup [.int a,.int b,.int c])/\Sm2 a/\Sm2 b/\Sm2 c
inductive spCrossi (vs:List V) (H:Hp) (Q:VK):Prop
 | mk (r p:Addr) (a b c x y z:Int) (_:vs=[.ref r,.ref p]) (_:Tup3 H r a b c) (_:Tup3 H p x y z) (_:∀(t:Addr) (H':Hp),Same H H'->H' t=some (.tup [.int (b*z-c*y),.int (c*x-a*z),.int (a*y-b*x)])->Q (.ref t) H')
def jjh:Sp:=fun vs H Q _=>spCrossi vs H Q
inductive spDeti (vs:List V) (H:Hp) (Q:VK):Prop
 | mk (r p s:Addr) (a b c x y z u v w:Int) (_:vs=[.ref r,.ref p,.ref s]) (_:Tup3 H r a b c) (_:Tup3 H p x y z) (_:Tup3 H s u v w) (_:∀H':Hp,Same H H'->Q (.int (jaY a b c x y z u v w)) H')
def jok:Sp:=fun vs H Q _=>spDeti vs H Q
inductive spWithouti (vs:List V) (H:Hp) (Q:VK):Prop
 | mk (r:Addr) (k:Int) (p:Pt) (_:vs=[.ref r,.int k]) (_:Is4 H r p) (_:0<=k) (_:k<=3) (_:∀(t:Addr) (H':Hp),Same H H'->H' t=some (.tup ((wo k p).map V.int))->Q (.ref t) H')
def jgx:Sp:=fun vs H Q _=>spWithouti vs H Q
inductive spMinori (vs:List V) (H:Hp) (Q:VK):Prop
 | mk (r s t:Addr) (k:Int) (p q o:Pt) (_:vs=[.ref r,.ref s,.ref t,.int k]) (_:Is4 H r p) (_:Is4 H s q) (_:Is4 H t o) (_:0<=k) (_:k<=3) (_:∀H':Hp,Same H H'->Q (.int (jaL k p q o)) H')
def jji:Sp:=fun vs H Q _=>spMinori vs H Q
inductive spTurnedi (vs:List V) (H:Hp) (Q:VK):Prop
 | mk (r:Addr) (ns:List Int) (_:vs=[.ref r]) (_:H r=some (.tup (ns.map V.int))) (_:ns.length<=10) (_:∀(t:Addr) (H':Hp),Same H H'->H' t=some (.tup ((ns.map fun n=>-n).map V.int))->Q (.ref t) H')
def jcZ:Sp:=fun vs H Q _=>spTurnedi vs H Q
def plb (a b c:Int):Bool:=if a≠0 then decide (0<a) else if b≠0 then decide (0<b) else if c≠0 then decide (0<c) else false
inductive spPlaini (vs:List V) (H:Hp) (Q:VK):Prop
 | mk (r:Addr) (a b c d:Int) (_:vs=[.ref r]) (_:H r=some (.tup [.int a,.int b,.int c,.int d])) (_:∀H':Hp,Same H H'->Q (.bl (plb a b c)) H')
def jjj:Sp:=fun vs H Q _=>spPlaini vs H Q
def rgh (p o u:Pt):List Int:=[jaL 0 p o u,-jaL 1 p o u,jaL 2 p o u,jaL 3 p o u]
inductive spRoughi (vs:List V) (H:Hp) (Q:VK):Prop
 | mk (r e t:Addr) (p o u:Pt) (_:vs=[.ref r,.ref e,.ref t]) (_:Is4 H r p) (_:Is4 H e o) (_:Is4 H t u) (_:∀(g:Addr) (H':Hp),Same H H'->H' g=some (.tup ((rgh p o u).map V.int))->Q (.ref g) H')
def jg4:Sp:=fun vs H Q _=>spRoughi vs H Q
def pln (ns:List Int):List Int:=match low ns with
 | [a,b,c,d]=>if plb a b c=true then [a,b,c,d] else [-a,-b,-c,-d]
 | l=>l
def jbp (p o u:Pt):Prop:=jaL 0 p o u=0/\jaL 1 p o u=0/\jaL 2 p o u=0
def hgt (a b c d:Int) (p:Pt):Int:=a*p.x+b*p.y+c*p.z-d*p.w
def sgn (n:Int):Int:=if n>0 then 1 else if n<0 then -1 else 0
inductive spSigni (vs:List V) (H:Hp) (Q:VK):Prop
 | mk (n:Int) (_:vs=[.int n]) (_:Q (.int (sgn n)) H)
def jlG:Sp:=fun vs H Q _=>spSigni vs H Q
def sf (x y z w x' y' z' w':Int):Bool:=if x*w'≠x'*w then decide (x*w'<x'*w) else if y*w'≠y'*w then decide (y*w'<y'*w) else if z*w'≠z'*w then decide (z*w'<z'*w) else false
def sfp (p o:Pt):Bool:=sf p.x p.y p.z p.w o.x o.y o.z o.w
inductive spFirsti (vs:List V) (H:Hp) (Q:VK):Prop
 | mk (r e:Addr) (p o:Pt) (_:vs=[.ref r,.ref e]) (_:Is4 H r p) (_:Is4 H e o) (_:Q (.bl (sfp p o)) H)
def jjk:Sp:=fun vs H Q _=>spFirsti vs H Q
inductive spPlanei (vs:List V) (H:Hp) (Q:VK):Prop
 | mk (a b c d:Int) (_:vs=[.int a,.int b,.int c,.int d]) (_:Small a) (_:Small b) (_:Small c) (_:Small d) (_:¬(a=0/\b=0/\c=0)) (_:∀(r:Addr) (H':Hp),Same H H'->H' r=some (.tup ((low [a,b,c,d]).map V.int))->Q (.ref r) H')
def jg5:Sp:=fun vs H Q _=>spPlanei vs H Q
inductive spThroughi (vs:List V) (H:Hp) (Q:VK):Prop
 | mk (r e t:Addr) (p o u:Pt) (_:vs=[.ref r,.ref e,.ref t]) (_:Is4 H r p) (_:Is4 H e o) (_:Is4 H t u) (_:¬jbp p o u) (_:∀(g:Addr) (H':Hp),Same H H'->H' g=some (.tup ((pln (rgh p o u)).map V.int))->Q (.ref g) H')
def jeQ:Sp:=fun vs H Q _=>spThroughi vs H Q
inductive spHti (vs:List V) (H:Hp) (Q:VK):Prop
 | mk (r e:Addr) (a b c d:Int) (p:Pt) (_:vs=[.ref r,.ref e]) (_:H r=some (.tup [.int a,.int b,.int c,.int d])) (_:Small a) (_:Small b) (_:Small c) (_:Small d) (_:Is4 H e p) (_:Q (.int (hgt a b c d p)) H)
def spHt:Sp:=fun vs H Q _=>spHti vs H Q
inductive spSidei (vs:List V) (H:Hp) (Q:VK):Prop
 | mk (r e:Addr) (a b c d:Int) (p:Pt) (_:vs=[.ref r,.ref e]) (_:H r=some (.tup [.int a,.int b,.int c,.int d])) (_:Small a) (_:Small b) (_:Small c) (_:Small d) (_:Is4 H e p) (_:Q (.int (sgn (hgt a b c d p))) H)
def jeb:Sp:=fun vs H Q _=>spSidei vs H Q
inductive Sps (H:Hp):List Addr->List Pt->Prop
 | nil:Sps H [] []
 | cons {r:Addr} {p:Pt} {rs:List Addr} {ps:List Pt} (h:Is4 H r p) (t:Sps H rs ps):Sps H (r::rs) (p::ps)
variable {ps qs:List Pt}
theorem Sps.keep {rs:List Addr} (h:Sps H rs ps) (s:SameT H H'):Sps H' rs ps:=by
 induction h with
 | nil=>exact .nil
 | cons h _ ih=>exact .cons ⟨s _ _ h.1,h.2⟩ ih
theorem Sps.len {rs:List Addr} (h:Sps H rs ps):rs.length=ps.length:=by
 induction h with
 | nil=>rfl
 | cons h _ ih=>rw[xaw,xaw,ih]
theorem Sps.app {rs rs':List Addr} {ps':List Pt} (h:Sps H rs ps) (k:Sps H rs' ps'):Sps H (rs++rs') (ps++ps'):=by
 induction h with
 | nil=>exact k
 | cons h _ ih=>exact .cons h ih
theorem Sps.rev {rs:List Addr} (h:Sps H rs ps):Sps H rs.reverse ps.reverse:=by
  induction h with
  | nil=>exact .nil
  | cons h _ ih =>
    rw[xaM,xaM];exact ih.app (.cons h .nil)
theorem Sps.drop {rs:List Addr} (h:Sps H rs ps):∀n,Sps H (rs.drop n) (ps.drop n):=by
  induction h with
  | nil=>intro n;rw[List.drop_nil,List.drop_nil];exact .nil
  | cons h k ih =>
    intro n;cases n with
    | zero=>exact .cons h k
    | succ n=>exact ih n
theorem Sps.take {rs:List Addr} (h:Sps H rs ps):∀n,Sps H (rs.take n) (ps.take n):=by
  induction h with
  | nil=>intro n;rw[List.take_nil,List.take_nil];exact .nil
  | cons h k ih =>
    intro n;cases n with
    | zero=>exact .nil
    | succ n=>exact .cons h (ih n)
def p0:Pt:=⟨0,0,0,0⟩
def pt (ps:List Pt) (i:Nat):Pt:=ps.getD i p0
def ad (rs:List Addr) (i:Nat):Addr:=rs.getD i 0
theorem Sps.get {rs:List Addr} (h:Sps H rs ps):∀{i:Nat},i<ps.length->(rs.map V.ref)[i]?=some (.ref (ad rs i))/\Is4 H (ad rs i) (pt ps i):=by
  induction h with
  | nil=>intro i hi;exact absurd hi (by simp)
  | cons h k ih =>
    intro i hi;cases i with
    | zero=>exact⟨rfl,h⟩
    | succ i=>exact ih (by simpa using hi)
theorem jfO {α:Type} {xs:List α} {v:α} (hn:xs.length=n+1) (h:xs[n]?=some v):atI xs (-1)=some v:=by
 have e:xs=xs.take n++[v]:=by
  have z:=xbB (l:=xs) (i:=n);rw[h,<- hn,xbt] at z;exact z
 rw[e];exact jkv _ _
variable {xs ys zs:List V}
theorem jeo {f:Nat}:jgf xs (some (f:Int)) none=xs.drop f:=by
 unfold jgf;rw[HT.sIx_nat,HT.sIx_none];by_cases h:f<=xs.length
 ·rw[Nat.min_eq_left h,xbr (by rw[xaB];exact xaj _)]
 ·rw[Nat.min_eq_right (by omega),xb1 (xaj _),xb1 (by omega),List.take_nil]
theorem jdw {f:Nat}:jgf xs none (some (f:Int))=xs.take f:=by
 unfold jgf;rw[HT.sIx_nat,HT.sIx_none];by_cases h:f<=xs.length
 ·rw[Nat.min_eq_left h];rfl
 ·rw[Nat.min_eq_right (by omega)];show xs.take (xs.length-0)=_;rw[Nat.sub_zero,xbt,xbr (by omega)]
def jjl (ps:List Pt):Nat->Nat
 | 0=>0
 | i+1=>if sfp (pt ps (i+1)) (pt ps (jjl ps i))=true then i+1 else jjl ps i
theorem jg6 (ps:List Pt):∀i,jjl ps i<=i
  | 0=>xaj _
  | i + 1 => by
    have:=jg6 ps i;unfold jjl;split<;>omega
def rot {α:Type} (f:Nat) (l:List α):List α:=l.drop f++l.take f
def turn {α:Type} (b:Bool) (l:List α):List α:=if b=true then l.take 1++(l.drop 1).reverse else l
def fF (ps:List Pt):Nat:=jjl ps (ps.length-1)
def fB (ps:List Pt):Bool:=sfp (pt (rot (fF ps) ps) (ps.length-1)) (pt (rot (fF ps) ps) 1)
def frm {α:Type} (ps:List Pt) (l:List α):List α:=turn (fB ps) (rot (fF ps) l)
theorem Sps.rot {rs:List Addr} (h:Sps H rs ps) (f:Nat):Sps H (rot f rs) (rot f ps):=(h.drop f).app (h.take f)
theorem Sps.turn {rs:List Addr} (h:Sps H rs ps) (b:Bool):Sps H (turn b rs) (turn b ps):=by
 unfold My.turn;cases b
 ·exact h
 ·exact (h.take 1).app (h.drop 1).rev
def Cor (H:Hp) (l:Addr) (rs:List Addr) (ps:List Pt):Prop:=H l=some (.lst (rs.map V.ref))/\Sps H rs ps
theorem Cor.keep {l:Addr} {rs:List Addr} (h:Cor H l rs ps) (s:Same H H'):Cor H' l rs ps:=⟨s _ _ h.1,h.2.keep s.t⟩
inductive spFormedi (vs:List V) (H:Hp) (Q:VK):Prop
 | mk (l:Addr) (rs:List Addr) (ps:List Pt) (_:vs=[.ref l]) (_:Cor H l rs ps) (_:3<=ps.length) (_:ps.length<=17) (_:∀(t:Addr) (H':Hp),Same H H'->H' t=some (.tup ((frm ps rs).map V.ref))->Q (.ref t) H')
def jhG:Sp:=fun vs H Q _=>spFormedi vs H Q
section
variable {P:Program} {w:World} {K:PySem.W.Frag} {mg:Str->Option Value} {base:Heap} {t1 t2:Tok}
theorem jfk:FnScope ["number"] ["number"] (jai jeK):=by walk_at "sc"
theorem jbM:FnScope ["one","other","great","small","steps","rest"] ["one","other"] (jai jbl):=by walk_at "sc"
theorem jbS:FnScope ["numbers","divisor","number"] ["numbers"] (jai jbo):=by walk_at "sc"
theorem jfl:FnScope ["one","other"] ["one","other"] (jai jeL):=by walk_at "sc"
theorem jc3:FnScope ["one","other","third","arrow"] ["one","other","third"] (jai jcb):=by walk_at "sc"
theorem jec:FnScope ["x","y","z","w"] ["x","y","z","w"] (jai jbb):=by walk_at "sc"
theorem jcK:FnScope ["one","other","k","mine","yours"] ["one","other"] (jai jbU):=by walk_at "sc"
theorem jcp:FnScope ["one","other"] ["one","other"] (jai jbH):=by walk_at "sc"
theorem jfm:FnScope ["spot","place"] ["spot","place"] (jai jeM):=by walk_at "sc"
theorem jeR:FnScope ["one","other","third","place"] ["one","other","third","place"] (jai jdS):=by walk_at "sc"
theorem jdx:FnScope ["a","b","c","d"] ["a","b","c","d"] (jai jcz):=by walk_at "sc"
theorem jcL:FnScope ["plane"] ["plane"] (jai jbV):=by walk_at "sc"
theorem jeS:FnScope ["plane","number"] ["plane"] (jai jdT):=by walk_at "sc"
theorem jc4:FnScope ["one","other","third"] ["one","other","third"] (jai jcc):=by walk_at "sc"
theorem jcq:FnScope ["one","other","third","rough","plane"] ["one","other","third"] (jai jbI):=by walk_at "sc"
theorem jc5:FnScope ["plane","spot"] ["plane","spot"] (jai jcd):=by walk_at "sc"
theorem jfn:FnScope ["plane","spot"] ["plane","spot"] (jai jeN):=by walk_at "sc"
theorem jgy:FnScope ["plane","one","other","mine","yours"] ["plane","one","other"] (jai jfK):=by walk_at "sc"
theorem jgz:FnScope ["corners","first","k","ring"] ["corners"] (jai jfL):=by walk_at "sc"
theorem jeT:FnScope ["board"] ["board"] (jai jdU):=by walk_at "sc"
theorem jeU:FnScope ["board"] ["board"] (jai jdV):=by walk_at "sc"
theorem jb5:FnScope ["boards","spot","number","board"] ["boards","spot"] (jai jbw):=by walk_at "sc"
theorem jbu:FnScope ["boards","spot","number"] ["boards","spot"] (jai ja8):=by walk_at "sc"
theorem jdy:FnScope ["plane","one","other","corner"] ["plane","one","other"] (jai jcA):=by walk_at "sc"
theorem jdz:FnScope ["plane","one","other","spot"] ["plane","one","other","spot"] (jai jcB):=by walk_at "sc"
theorem jg7:FnScope ["one","other","spot","near","far"] ["one","other","spot","near","far"] (jai jdW):=by walk_at "sc"
theorem jcM:FnScope ["one","other","spot","told"] ["one","other","spot","told"] (jai jbW):=by walk_at "sc"
theorem jc6:FnScope ["board","plane","sided","edge","before","side"] ["board","plane"] (jai jce):=by walk_at "sc"
theorem jgA:FnScope ["board","plane","sides","sided","below","above"] ["board","plane"] (jai jfM):=by walk_at "sc"
theorem jfo:FnScope ["board","planes","part","plane"] ["board","planes"] (jai jeO):=by walk_at "sc"
theorem jfp:FnScope ["boards","spot"] ["boards","spot"] (jai jeP):=by walk_at "sc"
theorem jb6:FnScope ["plane","spots","spot"] ["plane","spots"] (jai jbx):=by walk_at "sc"
theorem jdA:FnScope ["board","spot"] ["board","spot"] (jai jcC):=by walk_at "sc"
theorem jcr:FnScope ["board","spot"] ["board","spot"] (jai jbJ):=by walk_at "sc"
theorem jed:FnScope ["one","other","spot"] ["one","other","spot"] (jai jdi):=by walk_at "sc"
theorem jc7:FnScope ["board","sums"] ["board"] (jai jcf):=by walk_at "sc"
theorem jbz:FnScope ["one","other","spot","arrows","pyramid_edges","edge","arrow","rough","plane"] ["one","other","spot"] (jai jbc):=by walk_at "sc"
theorem jcs:FnScope ["one","other","spot","faces","own","plane"] ["one","other","spot","faces"] (jai jbK):=by walk_at "sc"
theorem jct:FnScope ["shown","other","spot","near"] ["shown","other","spot"] (jai jbL):=by walk_at "sc"
theorem jeV:FnScope ["one","other","spot","faces","shown","sight"] ["one","other","spot"] (jai jdX):=by walk_at "sc"
theorem jdB:FnScope ["script","many","slots","k"] ["script","many"] (jai jcD):=by walk_at "sc"
theorem jdC:FnScope ["cell","k","near","pot","turn"] ["cell","k"] (jai jcE):=by walk_at "sc"
theorem jee:FnScope ["purse","many","found"] ["purse","many"] (jai jdj):=by walk_at "sc"
theorem jef:FnScope ["number"] ["number"] (jai jdk):=by walk_at "sc"
theorem jdD:FnScope ["purse","wide"] ["purse","wide"] (jai jcF):=by walk_at "sc"
theorem jdE:FnScope ["one","other"] ["one","other"] (jai jcG):=by walk_at "sc"
theorem jeW:FnScope ["one","other"] ["one","other"] (jai jdY):=by walk_at "sc"
theorem jc8:FnScope ["one","other"] ["one"] (jai jcg):=by walk_at "sc"
theorem jdF:FnScope ["purse","wide","one","other"] ["purse","wide"] (jai jcH):=by walk_at "sc"
theorem jeg:FnScope ["number"] ["number"] (jai jdl):=by walk_at "sc"
theorem jcN:FnScope ["one","other"] ["one","other"] (jai jbX):=by walk_at "sc"
theorem jeh:FnScope ["numbers","w","by"] ["numbers","w"] (jai jdm):=by walk_at "sc"
theorem jc9:FnScope ["corners","w","at","around"] ["corners","w"] (jai jch):=by walk_at "sc"
theorem jcO:FnScope ["purse","wide","base","one","other"] ["purse","wide"] (jai jbY):=by walk_at "sc"
theorem jdG:FnScope ["purse","wide","w"] ["purse","wide"] (jai jcI):=by walk_at "sc"
theorem jeX:FnScope ["purse","wide"] ["purse","wide"] (jai jdZ):=by walk_at "sc"
theorem jei:FnScope ["board","purse","i","j","by","shares","tops"] ["board","purse"] (jai jdn):=by walk_at "sc"
theorem jeY:FnScope ["one","other"] ["one","other"] (jai jd0):=by walk_at "sc"
theorem jcP:FnScope ["board"] ["board"] (jai jbZ):=by walk_at "sc"
theorem jda:FnScope ["board","spot"] ["board","spot"] (jai jci):=by walk_at "sc"
theorem jej:FnScope ["boards","spot"] ["boards","spot"] (jai jdo):=by walk_at "sc"
theorem jdH:FnScope ["which","one","other","spot"] ["which","one","other","spot"] (jai jcJ):=by walk_at "sc"
theorem jcQ:FnScope ["which","one","other","spot","e"] ["which","one","other","spot"] (jai jb0):=by walk_at "sc"
theorem jeZ:FnScope ["one","other","spot","met"] ["one","other","spot"] (jai jd1):=by walk_at "sc"
theorem jlH:FnScope ["script","slots","head","wide","boards","spot","at","handed","found","one","other","due","which","told"] ["script"] (jai jfN):=by walk_at "sc"
theorem ok_gd (T:Tx K mg t1 t2) (F:At K mg "greatest_divisor" jbl ["one","other"] []):jal P w K mg base CX0 1 "greatest_divisor" ["one","other"] [] spGd:=by
 refine F.ok jbM (by walk_at "ar") (fun f cdv A outer s H vs Q E hr h=>?_);obtain⟨a,b,rfl,ha,hb,q⟩:=h;have S:=jbM;refine⟨_,(jag (jat (i:=2) S.nd rfl (Or.inl rfl) (jaB (jev rfl) rfl T.m_max boot_max (jaa (jaB jdt rfl T.m_abs boot_abs (jaa (pv 0) jac jad)) (jaa (jaB jdt rfl T.m_abs boot_abs (jaa (pv 1) jac jad)) jac jaG) jaG)))
  (jag (jat (i:=3) S.nd rfl (Or.inl rfl) (jaB (jiG rfl) rfl T.m_min boot_min (jaa (jaB jdt rfl T.m_abs boot_abs (jaa (pv 0) jac jad)) (jaa (jaB jdt rfl T.m_abs boot_abs (jaa (pv 1) jac jad)) jac jaG) jaG)))
  (jag (jfA PassesOwn.never (jav jkr (jn4 PySem.F.plainAttrs_int PySem.F.slot_int_bit_length PySem.F.type_int_bit_length jmv (pv 3)) (jdK rfl T.m_SHORT_BITS T.r_SHORT_BITS) (jaC _)) jet)
  (jag (jfA PassesOwn.never (jav jgQ (pv 3) jab (jaC _))
  (jag (jat (i:=5) S.nd rfl (Or.inl rfl) (jap jds (pv 2) (pv 3)))
  (jag (jat (i:=2) S.nd rfl (Or.inl rfl) (pv 3))
  (jah (jat (i:=3) S.nd rfl (Or.inl rfl) (pv 5))))))
  (jah (jan (pv 2))))))),?_⟩
 walk_at "rd";have hg:Int.gcd (if (if b<0 then -b else b)>(if a<0 then -a else a) then (if b<0 then -b else b) else (if a<0 then -a else a)) (if (if b<0 then -b else b)<(if a<0 then -a else a) then (if b<0 then -b else b) else (if a<0 then -a else a))=Int.gcd a b:=(jif _ _).trans (jmP a b);have hM:0<=(if (if b<0 then -b else b)>(if a<0 then -a else a) then (if b<0 then -b else b) else (if a<0 then -a else a)):=by split<;>split<;>omega
 have hm:0<=(if (if b<0 then -b else b)<(if a<0 then -a else a) then (if b<0 then -b else b) else (if a<0 then -a else a)):=by split<;>split<;>omega
 have hs:Small (if (if b<0 then -b else b)<(if a<0 then -a else a) then (if b<0 then -b else b) else (if a<0 then -a else a)):=by
  exact Small.ite (Small.ite hb.neg hb) (Small.ite ha.neg ha)
 generalize (if (if b<0 then -b else b)>(if a<0 then -a else a) then (if b<0 then -b else b) else (if a<0 then -a else a))=M at hg hM |-
 generalize (if (if b<0 then -b else b)<(if a<0 then -a else a) then (if b<0 then -b else b) else (if a<0 then -a else a))=m at hg hm hs |-
 have hz:Builtin.Int.intBits m<=1990:=L2.jdQ hs;refine⟨fun _ σ H1=>σ=[some (.int a),some (.int b),some (.int M),some (.int m),none,none]/\H1=H,⟨0,rfl,rfl⟩,?_⟩;rintro _ σ H1 ⟨rfl,rfl⟩;walk_at "rd";rw[if_neg (by omega)];refine⟨fun n σ H2=>H2=H1/\∃(x y:Int) (o:Option V),σ=[some (.int a),some (.int b),some (.int x),some (.int y),none,o]/\0<=x/\0<=y/\Int.gcd x y=Int.gcd a b/\n=y.toNat,⟨_,rfl,M,m,none,rfl,hM,hm,hg,rfl⟩,?_⟩;rintro n σ H2 ⟨rfl,x,y,o,rfl,hx,hy,hgg,rfl⟩;walk_at "rd";by_cases c:y=0
 ·subst c;rw[if_pos rfl];rw[<- hgg,Int.gcd_zero_right] at q;have e2:((x.natAbs:Nat):Int)=x:=by omega
  rw[e2] at q;exact q
 ·rw[if_neg c];have b1:=xbc x c;have b2:=xbd x (show 0<y by omega);exact⟨fun σ' H'=>σ'=[some (V.int a),some (V.int b),some (V.int y),some (V.int (x % y)),none,some (V.int (x % y))]/\H'=H2,fun σ' H' ⟨h1,h2⟩=>⟨_,by omega,h2,y,x % y,_,h1,by omega,b1,(jkM x y hx).trans hgg,rfl⟩,by omega,rfl,rfl⟩
theorem jol (T:Tx K mg t1 t2) (F:At K mg "in_lowest_terms" jbo ["numbers"] []) (Dd:jal P w K mg base CX0 1 "greatest_divisor" ["one","other"] [] spGd):jal P w K mg base CX0 2 "in_lowest_terms" ["numbers"] [] jkN:=by
 refine F.ok jbS (by walk_at "ar") (fun f cdv A outer s H vs Q E hr h=>?_);obtain⟨a,ns,rfl,ha,hl,hs,hg,q⟩:=h;have S:=jbS;refine⟨_,(jag (jat (i:=1) S.nd rfl (Or.inr rfl) jab)
  (jag (jbe PassesOwn.never rfl (jc1 (pv 0)) (jas (i:=2) S.nd rfl (Or.inl rfl))
  (jag (jat (i:=1) S.nd rfl (Or.inr rfl) (jae Dd hr.m rfl jaq (jaa (pv 1) (jaa (pv 2) jac jad) jad)))
  (jah (jaV (jav jek (pv 1) jab (jaC _))
  (jah (jan (ja3 ja5 rfl T.m_tuple boot_tuple (jaa (pv 0) jac jad))))
  jaz))))
  (jah (jan (ja3 ja5 rfl T.m_tuple boot_tuple (jaa (jaX rfl (N':=["number","divisor"]) (ix:=[1]) (by walk_at "cs") (jc1 (pv 0)) (fun _ _ _ _=>jas (i:=0) (show (["number","divisor"]:List Str).Nodup from by decide +kernel) rfl (Or.inl rfl)) (fun _ _ _ _=>jaW) (fun _ _ _ _=>(jap jbr (pv 0) (pv 1)))) jac jdu)))))),?_⟩
 walk_at "rd";refine⟨_,rfl,a,rfl,⟨_,SqT.of ha⟩,jdL (K:=K) (a:=a) (xs:=ns.map V.int) (fun i σ H2=>H2=H/\∃o:Option V,σ=[some (.ref a),some (.int (gl (ns.take i))),o]) ⟨rfl,none,rfl⟩ (fun i σ H2 _ ⟨h,_⟩=>by rw[h];exact SqT.of ha) ?_ ?_⟩
 ·rintro i v σ H2 hi ⟨rfl,o,rfl⟩;obtain⟨z,rfl,hz⟩:=jlF hi;walk_at "rd";refine⟨_,_,rfl,jhF fun n hn=>hs n (xbP hn),hs z (xaD hz),?_⟩;walk_at "rd";rw[<- jgw hz];refine jiT (fun c=>⟨_,.inr ⟨SqT.of ha,?_⟩⟩) fun c=>⟨rfl,_,rfl⟩;have g1:gl ns=1:=je9 c;refine q a H2 (Same.refl _) ?_;rw[g1,jg2];exact ha
 ·rintro σ H2 ⟨rfl,o,rfl⟩;walk_at "rd";have el:(ns.map V.int).length=ns.length:=xaa _;rw[el,xbt];have gp:0<gl ns:=by have:=jbk ns;omega
  refine⟨_,rfl,a,rfl,⟨_,SqT.of ha⟩,fun acc hacc=>jem (K:=K) (a:=a) (zs:=ns.map V.int) (fun i xs H3=>Same H2 H3/\H3 acc=some (.lst xs)/\xs=((ns.take i).map (· / gl ns)).map V.int) ⟨Same.new hacc _,jak,rfl⟩ (fun i xs H3 _ h=>h.1.tup (SqT.of ha)) ?_ ?_⟩
  ·rintro i v xs H3 hi ⟨h1,h2,rfl⟩;obtain⟨z,rfl,hz⟩:=jlF hi;walk_at "rd";have li:=(xae.mp hz).1;refine⟨gp,(jhF hs).bd.fit,h2,?_,Same.keep h1 hacc,jak,?_⟩
   ·rw[xaa,xaa,xaO];exact jiS (by omega)
   ·rw[xbB,hz,xap,xap];rfl
  ·rintro xs H3 ⟨h1,h2,rfl⟩;rw[el,xbt] at h2;exact⟨acc,rfl,_,.inl ⟨SqL.of h2,fun l hl=>q l _ (h1.trans (Same.new hl _)) jak⟩⟩
theorem jmQ (h:∀(i:Nat) (y:V),ys[i]?=some y->∃v:Int,y=V.int v):∃ms:List Int,ys=ms.map V.int:=by
  induction ys with
  | nil=>exact⟨[],rfl⟩
  | cons y r ih =>
    obtain⟨v,rfl⟩:=h 0 y rfl;obtain⟨ms,rfl⟩:=ih fun i z hz=>h (i+1) z hz;exact⟨v::ms,rfl⟩
theorem jig (T:Tx K mg t1 t2) (F:At K mg "crossed" jeL ["one","other"] []):jal P w K mg base CX0 1 "crossed" ["one","other"] [] jjh:=by
 refine F.ok jfl (by walk_at "ar") (fun f cdv A outer s H vs Q E hr h=>?_);obtain⟨r,p,a,b,c,x,y,z,rfl,⟨h1,sa,sb,sc⟩,⟨h2,sx,sy,sz⟩,q⟩:=h;have S:=jfl;refine⟨_,(jah (jan (ja1 (jaa (jap jbf (jap jar (jam jao (pv 0) jab) (jam jao (pv 1) jab)) (jap jar (jam jao (pv 0) jab) (jam jao (pv 1) jab))) (jaa (jap jbf (jap jar (jam jao (pv 0) jab) (jam jao (pv 1) jab)) (jap jar (jam jao (pv 0) jab) (jam jao (pv 1) jab))) (jaa (jap jbf (jap jar (jam jao (pv 0) jab) (jam jao (pv 1) jab)) (jap jar (jam jao (pv 0) jab) (jam jao (pv 1) jab))) jac ja2) ja2) ja2)))),?_⟩;have k1:SqT K H r [.int a,.int b,.int c]:=SqT.of h1;have k2:SqT K H p [.int x,.int y,.int z]:=SqT.of h2;have fa:=sa.bd.fit;have fb:=sb.bd.fit;have fc:=sc.bd.fit;have fx:=sx.bd.fit;have fy:=sy.bd.fit;have fz:=sz.bd.fit;walk_at "rf";walk_at "gf";intro t ht;exact q t _ (Same.new ht _) jak
theorem jom (T:Tx K mg t1 t2) (F:At K mg "determinant" jcb ["one","other","third"] []) (DJ:jal P w K mg base CX0 1 "crossed" ["one","other"] [] jjh):jal P w K mg base CX0 2 "determinant" ["one","other","third"] [] jok:=by
 refine F.ok jc3 (by walk_at "ar") (fun f cdv A outer s H vs Q E hr h=>?_);obtain⟨r,p,e,a,b,c,x,y,z,u,v,o,rfl,h1,h2,h3,q⟩:=h;have S:=jc3;refine⟨_,(jag (jat (i:=3) S.nd rfl (Or.inl rfl) (jae DJ hr.m rfl jaq (jaa (pv 0) (jaa (pv 1) jac jad) jad)))
  (jah (jan (jap jbt (jap jbt (jap jar (jam jao (pv 3) jab) (jam jao (pv 2) jab)) (jap jar (jam jao (pv 3) jab) (jam jao (pv 2) jab))) (jap jar (jam jao (pv 3) jab) (jam jao (pv 2) jab)))))),?_⟩
 walk_at "rf";refine⟨r,p,a,b,c,x,y,z,rfl,h1,h2,fun t H1 s1 e1=>?_⟩;have k1:SqT K H1 t _:=SqT.of e1;have k2:SqT K H1 e [.int u,.int v,.int o]:=SqT.of (s1 _ _ h3.1);have fu:=h3.2.1.bd.fit;have fv:=h3.2.2.1.bd.fit;have fo:=h3.2.2.2.bd.fit;have ma:∀{i j k l:Int},Sm2 i->Sm2 j->Sm2 k->Sm2 l->Fit (i*j-k*l):=fun h1 h2 h3 h4=>Bd.fit (n:=1301) (Bd.sub (Bd.mul (n:=650) (m:=650) h1 h2) (Bd.mul (n:=650) (m:=650) h3 h4));have g1:=ma h1.2.2.1 h2.2.2.2 h1.2.2.2 h2.2.2.1;have g2:=ma h1.2.2.2 h2.2.1 h1.2.1 h2.2.2.2;have g3:=ma h1.2.1 h2.2.2.1 h1.2.2.1 h2.2.1;walk_at "gf";exact q _ s1
theorem jih (T:Tx K mg t1 t2) (F:At K mg "without" jeM ["spot","place"] []):jal P w K mg base CX0 1 "without" ["spot","place"] [] jgx:=by
  refine F.ok jfm (by walk_at "ar") (fun f cdv A outer s H vs Q E hr h=>?_);obtain⟨r,k,p,rfl,h1,k0,k3,q⟩:=h;have S:=jfm;refine⟨_,(jah (jan (ja3 ja5 rfl T.m_tuple boot_tuple (jaa (jaX rfl (N':=["k","spot","place"]) (ix:=[0,1]) (by walk_at "cs") (jaO rfl T.m_range (jaa jab jac jaj)) (fun _ _ _ _=>jas (i:=0) (show (["k","spot","place"]:List Str).Nodup from by decide +kernel) rfl (Or.inl rfl)) (fun _ _ _ _=>(jfD (jav jgQ (pv 0) (pv 2) (jaC _)))) (fun _ _ _ _=>(jam (jaZ (K:=K) rfl) (pv 1) (pv 0)))) jac jdu)))),?_⟩;have k_h1:=h1.sq (K:=K);have e:k=0\/k=1\/k=2\/k=3:=by omega
  walk_at "rf";walk_at "gf";intro acc hacc;refine ji2 (n:=4) (fun i=>.int (match i with | 0=>p.x | 1=>p.y | 2=>p.z | _=>p.w)) (fun i=>!decide ((i:Int)=k)) (by decide) hacc ?_ ?_ ?_
  . intro i H3 R hi s3 hR
    walk_at "rf";have z:=hR H3 (Same.refl _);rw[xcn];exact z
  . intro i H3 R hi ci s3 hR
    have k1:=s3.tup k_h1
    match i,hi with
    | 0, _ =>
      walk_at "rf";walk_at "gf";exact hR _ (Same.refl _)
    | 1, _ =>
      walk_at "rf";walk_at "gf";exact hR _ (Same.refl _)
    | 2, _ =>
      walk_at "rf";walk_at "gf";exact hR _ (Same.refl _)
    | 3, _ =>
      walk_at "rf";walk_at "gf";exact hR _ (Same.refl _)
  intro H1 s1 e1;refine FoR.tupOf (X:=True) (SqL.of e1) fun t H2 s2 e2=>q t H2 (s1.trans s2) ?_;rw[e2];rcases e with rfl | rfl | rfl | rfl<;>rfl
theorem jjm {r:Addr} (hp:p.sm) (h:H r=some (.tup ((wo k p).map V.int))):∃a b c,wo k p=[a,b,c]/\Tup3 H r a b c:=by
 by_cases k0:k=0
 ·have e:wo k p=[p.y,p.z,p.w]:=if_pos k0;rw[e] at h;exact⟨_,_,_,e,h,hp.2.1,hp.2.2.1,hp.2.2.2⟩
 by_cases k1:k=1
 ·have e:wo k p=[p.x,p.z,p.w]:=by unfold wo;rw[if_neg k0,if_pos k1]
  rw[e] at h;exact⟨_,_,_,e,h,hp.1,hp.2.2.1,hp.2.2.2⟩
 by_cases k2:k=2
 ·have e:wo k p=[p.x,p.y,p.w]:=by unfold wo;rw[if_neg k0,if_neg k1,if_pos k2]
  rw[e] at h;exact⟨_,_,_,e,h,hp.1,hp.2.1,hp.2.2.2⟩
 have e:wo k p=[p.x,p.y,p.z]:=by unfold wo;rw[if_neg k0,if_neg k1,if_neg k2]
 rw[e] at h;exact⟨_,_,_,e,h,hp.1,hp.2.1,hp.2.2.1⟩
theorem Tup3.keep {r:Addr} {b c:Int} (h:Tup3 H r a b c) (s:Same H H'):Tup3 H' r a b c:=⟨s _ _ h.1,h.2⟩
theorem jkP (T:Tx K mg t1 t2) (F:At K mg "minor_of" jdS ["one","other","third","place"] []) (dW:jal P w K mg base CX0 1 "without" ["spot","place"] [] jgx) (Dm:jal P w K mg base CX0 2 "determinant" ["one","other","third"] [] jok):jal P w K mg base CX0 3 "minor_of" ["one","other","third","place"] [] jji:=by
 refine F.ok jeR (by walk_at "ar") (fun f cdv A outer s H vs Q E hr h=>?_);obtain⟨r,e,t,k,p,o,u,rfl,h1,h2,h3,k0,k3,q⟩:=h;have S:=jeR;refine⟨_,(jah (jan (jae Dm hr.m rfl jaq (jaa (jae dW hr.m rfl jaq (jaa (pv 0) (jaa (pv 3) jac jad) jad)) (jaa (jae dW hr.m rfl jaq (jaa (pv 1) (jaa (pv 3) jac jad) jad)) (jaa (jae dW hr.m rfl jaq (jaa (pv 2) (jaa (pv 3) jac jad) jad)) jac jaG) jaG) jaG)))),?_⟩;walk_at "rf";refine⟨r,k,p,rfl,h1,k0,k3,fun t1 H1 s1 e1=>?_⟩;refine⟨e,k,o,rfl,h2.keep s1,k0,k3,fun t2 H2 s2 e2=>?_⟩;refine⟨t,k,u,rfl,h3.keep (s1.trans s2),k0,k3,fun t3 H3 s3 e3=>?_⟩;obtain⟨a,b,c,w1,z1⟩:=jjm h1.2 e1;obtain⟨a2,b2,c2,w2,z2⟩:=jjm h2.2 e2;obtain⟨a3,b3,c3,w3,z3⟩:=jjm h3.2 e3;have em:jaL k p o u=jaY a b c a2 b2 c2 a3 b3 c3:=by
  unfold jaL;rw[w1,w2,w3];rfl
 refine⟨t1,t2,t3,a,b,c,a2,b2,c2,a3,b3,c3,rfl,z1.keep (s2.trans s3),z2.keep s3,z3,fun H4 s4=>?_⟩;rw[<- em];exact q H4 (s1.trans (s2.trans (s3.trans s4)))
theorem mem4 {b c d:Int} (ha:Small a) (hb:Small b) (hc:Small c) (hd:Small d):∀n∈[a,b,c,d],Small n:=fun n hn=>by
 simp only[xam,List.not_mem_nil,or_false] at hn;rcases hn with rfl | rfl | rfl | rfl<;>assumption
theorem gl4 {b c d:Int} (h:¬(a=0/\b=0/\c=0)):0<gl [a,b,c,d]:=by
 by_cases c1:a=0
 ·by_cases c2:b=0
  ·exact jco (n:=c) (by simp) fun z=>h ⟨c1,c2,z⟩
  ·exact jco (n:=b) (by simp) c2
 ·exact jco (n:=a) (by simp) c1
def vneg (v:V):V:=match v with | .int i=>.int (-i) | _=>v
theorem jkQ (ns:List Int):(ns.map V.int).map vneg=(ns.map fun n=>-n).map V.int:=by
 rw[xb8,xb8];rfl
theorem jjn (T:Tx K mg t1 t2) (F:At K mg "turned_about" jbV ["plane"] []):jal P w K mg base CX0 1 "turned_about" ["plane"] [] jcZ:=by
 refine F.ok jcL (by walk_at "ar") (fun f cdv A outer s H vs Q E hr h=>?_);obtain⟨r,ns,rfl,h1,hl,q⟩:=h;have S:=jcL;refine⟨_,(jah (jan (ja3 ja5 rfl T.m_tuple boot_tuple (jaa (jaX rfl (N':=["number"]) (ix:=[]) (by walk_at "cs") (jc1 (pv 0)) (fun _ _ _ _=>jas (i:=0) (show (["number"]:List Str).Nodup from by decide +kernel) rfl (Or.inl rfl)) (fun _ _ _ _=>jaW) (fun _ _ _ _=>(jdM jb3 (pv 0)))) jac jdu)))),?_⟩;have k1:SqT K H r (ns.map V.int):=SqT.of h1;walk_at "rf";walk_at "gf";intro acc hacc;refine compT vneg (by rw[xaa];omega) hacc k1 ?_ ?_
 ·intro z H3 R hz s3 hR;obtain⟨m,hm,rfl⟩:=xah.mp hz;walk_at "rd";exact hR _ (Same.refl _)
 intro H1 s1 e1;rw[jkQ] at e1;exact FoR.tupOf (X:=True) (SqL.of e1) fun t H2 s2 e2=>q t H2 (s1.trans s2) e2
theorem jmR (T:Tx K mg t1 t2) (F:At K mg "sign_of" jeK ["number"] []):jal P w K mg base CX0 1 "sign_of" ["number"] [] jlG:=by
 refine F.ok jfk (by walk_at "ar") (fun f cdv A outer s H vs Q E hr h=>?_);obtain⟨n,rfl,q⟩:=h;have S:=jfk;refine⟨_,(jag (jaV (jav jkr (pv 0) jab (jaC _))
  (jah (jan jab))
  jaz)
  (jag (jaV (jav jgR (pv 0) jab (jaC _))
  (jah (jan (jdM jb3 jab)))
  jaz)
  (jah (jan jab)))),?_⟩
 unfold sgn at q;walk_at "rd";refine jiT (fun c=>?_) fun c=>jiT (fun c1=>?_) fun c1=>?_
 ·rw[if_pos c] at q;exact q
 ·rw[if_neg c,if_pos c1] at q;exact q
 ·rw[if_neg c,if_neg c1] at q;exact q
theorem jkR (T:Tx K mg t1 t2) (F:At K mg "is_plain" jdT ["plane"] []):jal P w K mg base CX0 1 "is_plain" ["plane"] [] jjj:=by
  refine F.ok jeS (by walk_at "ar") (fun f cdv A outer s H vs Q E hr h=>?_);obtain⟨r,a,b,c,d,rfl,h1,q⟩:=h;have S:=jeS;refine⟨_,(jag (jbe PassesOwn.never rfl (jc1 (jbi jlt (pv 0) jbE (jbF jab))) (jas (i:=1) S.nd rfl (Or.inl rfl))
    (jah (jaV (jav jgQ (pv 1) jab (jaC _))
    (jah (jan (jdd jkr (pv 1) jab (jaC _))))
    jaz)))
    (jah (jan jf6))),?_⟩
  walk_at "rf";refine⟨r,_,rfl,SqT.of h1,(show ¬(HT.sIx 4 0 none=0/\HT.sIx 4 4 (some 3)=4) by decide),fun p hp=>?_⟩;have sp:=Same.new hp (.tup (jgf [.int a,.int b,.int c,.int d] none (some 3)));have ep:upd H p (.tup (jgf [.int a,.int b,.int c,.int d] none (some 3))) p=some (.tup ([a,b,c].map V.int)):=jak;generalize upd H p (.tup (jgf [.int a,.int b,.int c,.int d] none (some 3)))=H1 at sp ep |-
  have kp:SqT K H1 p ([a,b,c].map V.int):=SqT.of ep;walk_at "gf";have q:=q H1 sp;unfold plb at q;refine jdL (K:=K) (a:=p) (xs:=[a,b,c].map V.int) (fun i σ H2=>H2=H1/\∃o1:Option V,σ=[some (.ref r),o1]/\(1<=i->a=0)/\(2<=i->b=0)/\(3<=i->c=0)) ⟨rfl,none,rfl,by simp,by simp,by simp⟩ (fun i σ H2 _ ⟨h,_⟩=>by rw[h];exact kp) ?_ ?_
  . rintro i v σ H2 hi ⟨rfl,o1,rfl,e0,e1,e2⟩
    match i,hi with
    | 0, hi =>
      cases hi;walk_at "rf";refine jiT (fun cc=>⟨fun _=>cc,fun h=>absurd h (by decide),fun h=>absurd h (by decide)⟩) fun cc=>?_;rw[if_pos cc] at q;exact q
    | 1, hi =>
      cases hi;have d0:=e0 (by decide);walk_at "rf";refine jiT (fun cc=>⟨fun _=>d0,fun _=>cc,fun h=>absurd h (by decide)⟩) fun cc=>?_;rw[if_neg (fun n=>n d0),if_pos cc] at q;exact q
    | 2, hi =>
      cases hi;have d0:=e0 (by decide);have d1:=e1 (by decide);walk_at "rf";refine jiT (fun cc=>⟨fun _=>d0,fun _=>d1,fun _=>cc⟩) fun cc=>?_;rw[if_neg (fun n=>n d0),if_neg (fun n=>n d1),if_pos cc] at q;exact q
  . rintro σ H2 ⟨rfl,o1,rfl,e0,e1,e2⟩
    rw[if_neg (fun n=>n (e0 (show 1<=3 by decide))),if_neg (fun n=>n (e1 (show 2<=3 by decide))),if_neg (fun n=>n (e2 (show 3<=3 by decide)))] at q;exact q
theorem jkS (T:Tx K mg t1 t2) (F:At K mg "rough_plane" jcc ["one","other","third"] []) (dI:jal P w K mg base CX0 3 "minor_of" ["one","other","third","place"] [] jji):jal P w K mg base CX0 4 "rough_plane" ["one","other","third"] [] jg4:=by
 refine F.ok jc4 (by walk_at "ar") (fun f cdv A outer s H vs Q E hr h=>?_);obtain⟨r,e,t,p,o,u,rfl,h1,h2,h3,q⟩:=h;have S:=jc4;refine⟨_,(jah (jan (ja1 (jaa (jae dI hr.m rfl jaq (jaa (pv 0) (jaa (pv 1) (jaa (pv 2) (jaa jab jac jaj) jad) jad) jad)) (jaa (jdM jb3 (jae dI hr.m rfl jaq (jaa (pv 0) (jaa (pv 1) (jaa (pv 2) (jaa jab jac jaj) jad) jad) jad))) (jaa (jae dI hr.m rfl jaq (jaa (pv 0) (jaa (pv 1) (jaa (pv 2) (jaa jab jac jaj) jad) jad) jad)) (jaa (jae dI hr.m rfl jaq (jaa (pv 0) (jaa (pv 1) (jaa (pv 2) (jaa jab jac jaj) jad) jad) jad)) jac jaG) jaG) jfF) jaG)))),?_⟩;walk_at "rf";refine⟨r,e,t,0,p,o,u,rfl,h1,h2,h3,by decide,by decide,fun H1 s1=>?_⟩;refine⟨r,e,t,1,p,o,u,rfl,h1.keep s1,h2.keep s1,h3.keep s1,by decide,by decide,fun H2 s2=>?_⟩;have s12:=s1.trans s2;walk_at "rf";refine⟨r,e,t,2,p,o,u,rfl,h1.keep s12,h2.keep s12,h3.keep s12,by decide,by decide,fun H3 s3=>?_⟩;have s13:=s12.trans s3;refine⟨r,e,t,3,p,o,u,rfl,h1.keep s13,h2.keep s13,h3.keep s13,by decide,by decide,fun H4 s4=>?_⟩;exact⟨by decide,fun g hg=>q g _ (s13.trans (s4.trans (Same.new hg _))) jak⟩
theorem jhH {b c z u v w:Int} (ha:Sm2 a) (hb:Sm2 b) (hc:Sm2 c) (hx:Sm2 x) (hy:Sm2 y) (hz:Sm2 z) (hu:Sm2 u) (hv:Sm2 v) (hw:Sm2 w):Bd 1953 (jaY a b c x y z u v w):=by
 have m:∀{i j k l e:Int},Sm2 i->Sm2 j->Sm2 k->Sm2 l->Sm2 e->Bd 1951 ((i*j-k*l)*e):=fun h1 h2 h3 h4 h5=>Bd.mul (n:=1301) (m:=650) (Bd.sub (Bd.mul (n:=650) (m:=650) h1 h2) (Bd.mul (n:=650) (m:=650) h3 h4)) h5;exact Bd.add (Bd.add (m hb hz hc hy hu) (m hc hx ha hz hv)) (Bd.mono (n:=1951) (m ha hy hb hx hw))
theorem jkT {o u:Pt} (hp:p.sm) (ho:o.sm) (hu:u.sm):Small (jaL 0 p o u)/\Small (jaL 1 p o u)/\Small (jaL 2 p o u)/\Small (jaL 3 p o u):=by
 obtain⟨a,b,c,d⟩:=hp;obtain⟨a',b',c',d'⟩:=ho;obtain⟨a2,b2,c2,d2⟩:=hu;exact⟨Bd.mono (n:=1953) (jhH b c d b' c' d' b2 c2 d2),Bd.mono (n:=1953) (jhH a c d a' c' d' a2 c2 d2),Bd.mono (n:=1953) (jhH a b d a' b' d' a2 b2 d2),Bd.mono (n:=1953) (jhH a b c a' b' c' a2 b2 c2)⟩
theorem jkU (T:Tx K mg t1 t2) (F:At K mg "made_plane" jcz ["a","b","c","d"] []) (dD:jal P w K mg base CX0 2 "in_lowest_terms" ["numbers"] [] jkN):jal P w K mg base CX0 3 "made_plane" ["a","b","c","d"] [] jg5:=by
 refine F.ok jdx (by walk_at "ar") (fun f cdv A outer s H vs Q E hr h=>?_);obtain⟨a,b,c,d,rfl,sa,sb,sc,sd,nz,q⟩:=h;have S:=jdx;refine⟨_,(jag (jaV (PW.pt (jit (jav jek (pv 0) jab (jaC _)) (jit (jav jek (pv 1) jab (jaC _)) (jis (jav jek (pv 2) jab (jaC _))))))
  jet
  jaz)
  (jah (jan (jae dD hr.m rfl jaq (jaa (ja1 (jaa (pv 0) (jaa (pv 1) (jaa (pv 2) (jaa (pv 3) jac jad) jad) jad) jad)) jac jaA))))),?_⟩
 have fin:∀p,H p=none->jkN [.ref p] (upd H p (.tup [.int a,.int b,.int c,.int d])) Q (fun _ _ _=>False):=fun p hp =>
  ⟨p,[a,b,c,d],rfl,jak,by simp,mem4 sa sb sc sd,by have:=gl4 (d:=d) nz;omega,fun r H' h1 h2=>q r H' ((Same.new hp _).trans h1) h2⟩
 walk_at "rf";by_cases c1:a=0
 ·rw[if_pos c1];by_cases c2:b=0
  ·rw[if_pos c2];by_cases c3:c=0
   ·exact absurd ⟨c1,c2,c3⟩ nz
   ·rw[if_neg c3];exact⟨by decide,fin⟩
  ·rw[if_neg c2];exact⟨by decide,fin⟩
 ·rw[if_neg c1];exact⟨by decide,fin⟩
theorem jii (T:Tx K mg t1 t2) (F:At K mg "plane_through" jbI ["one","other","third"] []) (dQ:jal P w K mg base CX0 4 "rough_plane" ["one","other","third"] [] jg4) (dR:jal P w K mg base CX0 3 "made_plane" ["a","b","c","d"] [] jg5) (DC:jal P w K mg base CX0 1 "is_plain" ["plane"] [] jjj) (dg:jal P w K mg base CX0 1 "turned_about" ["plane"] [] jcZ):jal P w K mg base CX0 5 "plane_through" ["one","other","third"] [] jeQ:=by
  refine F.ok jcq (by walk_at "ar") (fun f cdv A outer s H vs Q E hr h=>?_);obtain⟨r,e,t,p,o,u,rfl,h1,h2,h3,na,q⟩:=h;have S:=jcq;refine⟨_,(jag (jat (i:=3) S.nd rfl (Or.inl rfl) (jae dQ hr.m rfl jaq (jaa (pv 0) (jaa (pv 1) (jaa (pv 2) jac jad) jad) jad)))
    (jag (jat (i:=4) S.nd rfl (Or.inl rfl) (jae dR hr.m rfl jaq (jaa (jam jao (pv 3) jab) (jaa (jam jao (pv 3) jab) (jaa (jam jao (pv 3) jab) (jaa (jam jao (pv 3) jab) jac jau) jau) jau) jau)))
    (jag (jaV (jb2 (jae DC hr.m rfl jaq (jaa (pv 4) jac jad)))
    (jah (jan (pv 4)))
    jaz)
    (jah (jan (jae dg hr.m rfl jaq (jaa (pv 4) jac jad))))))),?_⟩
  obtain⟨m0,m1,m2,m3⟩:=jkT h1.2 h2.2 h3.2;walk_at "rf";refine⟨r,e,t,p,o,u,rfl,h1,h2,h3,fun g H1 s1 e1=>?_⟩;have kg:SqT K H1 g [.int (jaL 0 p o u),.int (-jaL 1 p o u),.int (jaL 2 p o u),.int (jaL 3 p o u)]:=SqT.of e1;walk_at "gf";refine⟨_,_,_,_,rfl,m0,m1.neg,m2,m3,fun z=>na ⟨z.1,by omega,z.2.2⟩,fun g2 H2 s2 e2=>?_⟩;have el:∃a b c d,low (rgh p o u)=[a,b,c,d]:=⟨_,_,_,_,rfl⟩;have e2':H2 g2=some (.tup ((low (rgh p o u)).map V.int)):=e2;obtain⟨a,b,c,d,el⟩:=el;unfold pln at q;rw[el] at q e2';walk_at "rf";refine⟨g2,a,b,c,d,rfl,e2',fun H3 s3=>?_⟩;have s13:=s1.trans (s2.trans s3);dsimp only at q;cases eb:plb a b c with
  | true =>
    rw[eb,if_pos rfl] at q;walk_at "rf";exact q g2 H3 s13 (s3 _ _ e2')
  | false =>
    rw[eb,if_neg (by decide)] at q;walk_at "rf";refine⟨g2,[a,b,c,d],rfl,s3 _ _ e2',by simp,fun g3 H4 s4 e4=>?_⟩;exact q g3 H4 (s13.trans s4) e4
theorem ok_ht (T:Tx K mg t1 t2) (F:At K mg "height_over" jcd ["plane","spot"] []):jal P w K mg base CX0 1 "height_over" ["plane","spot"] [] spHt:=by
 refine F.ok jc5 (by walk_at "ar") (fun f cdv A outer s H vs Q E hr h=>?_);obtain⟨r,e,a,b,c,d,p,rfl,h1,sa,sb,sc,sd,h2,q⟩:=h;have S:=jc5;refine⟨_,(jah (jan (jap jbf (jap jbt (jap jbt (jap jar (jam jao (pv 0) jab) (jam jao (pv 1) jab)) (jap jar (jam jao (pv 0) jab) (jam jao (pv 1) jab))) (jap jar (jam jao (pv 0) jab) (jam jao (pv 1) jab))) (jap jar (jam jao (pv 0) jab) (jam jao (pv 1) jab))))),?_⟩;have k1:SqT K H r [.int a,.int b,.int c,.int d]:=SqT.of h1;have f1:=sa.bd.fit;have f2:=sb.bd.fit;have f3:=sc.bd.fit;have f4:=sd.bd.fit;have k_h2:=h2.sq (K:=K);have g0:=h2.2.fx;have g1:=h2.2.fy;have g2:=h2.2.fz;have g3:=h2.2.fw;walk_at "rf";walk_at "gf";exact q
theorem jmS (T:Tx K mg t1 t2) (F:At K mg "side_of" jeN ["plane","spot"] []) (DI:jal P w K mg base CX0 1 "sign_of" ["number"] [] jlG) (dF:jal P w K mg base CX0 1 "height_over" ["plane","spot"] [] spHt):jal P w K mg base CX0 2 "side_of" ["plane","spot"] [] jeb:=by
 refine F.ok jfn (by walk_at "ar") (fun f cdv A outer s H vs Q E hr h=>?_);obtain⟨r,e,a,b,c,d,p,rfl,h1,sa,sb,sc,sd,h2,q⟩:=h;have S:=jfn;refine⟨_,(jah (jan (jae DI hr.m rfl jaq (jaa (jae dF hr.m rfl jaq (jaa (pv 0) (jaa (pv 1) jac jad) jad)) jac jaG)))),?_⟩;walk_at "rf";exact⟨r,e,a,b,c,d,p,rfl,h1,sa,sb,sc,sd,h2,_,rfl,q⟩
theorem jkV (T:Tx K mg t1 t2) (F:At K mg "stands_first" jbU ["one","other"] []):jal P w K mg base CX0 1 "stands_first" ["one","other"] [] jjk:=by
  refine F.ok jcK (by walk_at "ar") (fun f cdv A outer s H vs Q E hr h=>?_);obtain⟨r,e,p,o,rfl,h1,h2,q⟩:=h;have S:=jcK;refine⟨_,(jag (jbe PassesOwn.never rfl (jaO rfl T.m_range (jaa jab jac jaj)) (jas (i:=2) S.nd rfl (Or.inl rfl))
    (jag (jat (i:=3) S.nd rfl (Or.inl rfl) (jap jar (jam jao (pv 0) (pv 2)) (jam jao (pv 1) jab)))
    (jag (jat (i:=4) S.nd rfl (Or.inl rfl) (jap jar (jam jao (pv 1) (pv 2)) (jam jao (pv 0) jab)))
    (jah (jaV (jav jgQ (pv 3) (pv 4) (jaC _))
    (jah (jan (jdd jgR (pv 3) (pv 4) (jaC _))))
    jaz)))))
    (jah (jan jf6))),?_⟩
  have k_h1:=h1.sq (K:=K);have k_h2:=h2.sq (K:=K);have f0:=h1.2.fx;have f1:=h1.2.fy;have f2:=h1.2.fz;have f3:=h1.2.fw;have g0:=h2.2.fx;have g1:=h2.2.fy;have g2:=h2.2.fz;have g3:=h2.2.fw;unfold sfp at q;walk_at "rd";refine⟨3,rfl,by decide,by decide,jcy (lo:=0) (n:=3) (fun i σ H2=>H2=H/\∃(o0 o1 o2:Option V),σ=[some (.ref r),some (.ref e),o0,o1,o2]/\(1<=i->p.x*o.w=o.x*p.w)/\(2<=i->p.y*o.w=o.y*p.w)/\(3<=i->p.z*o.w=o.z*p.w)) ⟨rfl,none,none,none,rfl,by simp,by simp,by simp⟩ ?_ ?_⟩
  . rintro i σ H2 hi ⟨rfl,o0,o1,o2,rfl,e0,e1,e2⟩
    match i,hi with
    | 0, _ =>
      walk_at "rd";walk_at "go";refine jiT (fun c=>⟨fun _=>c,fun h=>absurd h (by decide),fun h=>absurd h (by decide)⟩) fun c=>?_;rw[sf,if_pos c] at q;exact q
    | 1, _ =>
      have d0:=e0 (by decide);walk_at "rd";walk_at "go";refine jiT (fun c=>⟨fun _=>d0,fun _=>c,fun h=>absurd h (by decide)⟩) fun c=>?_;rw[sf,if_neg (fun n=>n d0),if_pos c] at q;exact q
    | 2, _ =>
      have d0:=e0 (by decide);have d1:=e1 (by decide);walk_at "rd";walk_at "go";refine jiT (fun c=>⟨fun _=>d0,fun _=>d1,fun _=>c⟩) fun c=>?_;rw[sf,if_neg (fun n=>n d0),if_neg (fun n=>n d1),if_pos c] at q;exact q
  . rintro σ H2 ⟨rfl,o0,o1,o2,rfl,e0,e1,e2⟩
    rw[sf,if_neg (fun n=>n (e0 (by decide))),if_neg (fun n=>n (e1 (by decide))),if_neg (fun n=>n (e2 (by decide)))] at q;walk_at "rd";exact q
def fM1 (H:Hp) (l:Addr) (ps:List Pt):L2.St->Hp->Prop:=fun σ H'=>∃o2:Option V,σ=[some (.ref l),some (.int (fF ps:Nat)),o2,none]/\H'=H
def fM2 (H:Hp) (l:Addr) (ps:List Pt) (rs:List Addr):L2.St->Hp->Prop:=fun σ H'=>∃(g:Addr) (o1 o2:Option V),σ=[some (.ref l),o1,o2,some (.ref g)]/\H' g=some (.lst ((rot (fF ps) rs).map V.ref))/\Same H H'
def fM3 (H:Hp) (ps:List Pt) (rs:List Addr):L2.St->Hp->Prop:=fun σ H'=>∃(g:Addr) (o0 o1 o2:Option V),σ=[o0,o1,o2,some (.ref g)]/\H' g=some (.lst ((frm ps rs).map V.ref))/\Same H H'
theorem jg8 {α:Type} {f:Nat} {l:List α} (h:f<=l.length):(rot f l).length=l.length:=by
 unfold rot;rw[xal,xaB,xaO];omega
theorem jjo (T:Tx K mg t1 t2) (F:At K mg "formed" jfL ["corners"] []) (dZ:jal P w K mg base CX0 1 "stands_first" ["one","other"] [] jjk):jal P w K mg base CX0 2 "formed" ["corners"] [] jhG:=by
  refine F.ok jgz (by walk_at "ar") (fun f cdv A outer s H vs Q E hr h=>?_);obtain⟨l,rs,ps,rfl,hc,n3,n8,q⟩:=h;have S:=jgz;refine⟨_,(jag (jat (i:=1) S.nd rfl (Or.inl rfl) jab)
    (jeD (fM1 H l ps) (jbe PassesOwn.never rfl (jf8 rfl T.m_range (jaa jab (jaa (jaB jbg rfl T.m_len PySem.boot_len (jaa (pv 0) jac jad)) jac jaG) jaj)) (jas (i:=2) S.nd rfl (Or.inl rfl))
    (jah (jaV (jb2 (jae dZ hr.m rfl jaq (jaa (jam ix_list (pv 0) (pv 2)) (jaa (jam ix_list (pv 0) (pv 1)) jac jau) jau)))
    (jah (jat (i:=1) S.nd rfl (Or.inl rfl) (pv 2)))
    jaz)))
    (jeD (fM2 H l ps rs) (jat (i:=3) S.nd rfl (Or.inl rfl) (jap jgi (ja3 jbR rfl T.m_list boot_list (jaa (jbi jb9 (pv 0) (jbF (pv 1)) jbE) jac jau)) (ja3 jbR rfl T.m_list boot_list (jaa (jbi jb9 (pv 0) jbE (jbF (pv 1))) jac jau))))
    (jeD (fM3 H ps rs) (jaV (jb2 (jae dZ hr.m rfl jaq (jaa (jam ix_list (pv 3) (jdM jb3 jab)) (jaa (jam ix_list (pv 3) jab) jac jau) jau)))
    (jah (jat (i:=3) S.nd rfl (Or.inl rfl) (jap jgi (jbi jb9 (pv 3) jbE (jbF jab)) (jfh rfl rfl T.m_list rfl T.m_reversed (jbi jb9 (pv 3) (jbF jab) jbE)))))
    jaz)
    (jah (jan (ja3 jeE rfl T.m_tuple boot_tuple (jaa (pv 3) jac jad)))))))),?_⟩
  have ln:=hc.2.len;have lm:(rs.map V.ref).length=ps.length:=by rw[xaa,ln]
  have kl:SqL K H l (rs.map V.ref):=SqL.of hc.1;walk_at "rf";refine⟨⟨_,.inl kl,by decide,by decide,by omega,by omega,?_⟩,?_⟩
  . refine jcy (lo:=1) (n:=_) (fun i σ H2=>H2=H /\ ∃o2:Option V,σ=[some (.ref l),some (.int (jjl ps i:Nat)),o2,none]) ⟨rfl,none,rfl⟩ ?_ ?_
    . rintro i σ H2 hi ⟨rfl,o2,rfl⟩
      have hi2:i+1<ps.length:=by omega
      have al:=jg6 ps i;obtain⟨g1,g2⟩:=hc.2.get hi2;obtain⟨g3,g4⟩:=hc.2.get (i:=jjl ps i) (by omega);have e1:atI (rs.map V.ref) (1+(i:Int))=some (.ref (ad rs (i+1))):=by
        have z:(1+(i:Int))=((i+1:Nat):Int):=by omega
        rw[z];exact jaP g1
      walk_at "rf";refine ixL kl e1 ?_;refine ixL kl (jaP g3) ?_;refine⟨_,_,_,_,rfl,g2,g4,?_⟩;have ea:jjl ps (i+1)=if sfp (pt ps (i+1)) (pt ps (jjl ps i))=true then i+1 else jjl ps i:=rfl;walk_at "rf";cases es:sfp (pt ps (i+1)) (pt ps (jjl ps i)) with
      | true =>
        rw[es,if_pos rfl] at ea;rw[ea,if_pos rfl];exact⟨by omega,_,rfl⟩
      | false =>
        rw[es,if_neg (by decide)] at ea;rw[ea,if_neg (by decide)];exact⟨rfl,_,rfl⟩
    . rintro σ H2 ⟨rfl,o2,rfl⟩
      have e:(((List.map V.ref rs).length:Int)-1).toNat=ps.length-1:=by omega
      rw[e];exact⟨_,rfl,rfl⟩
  rintro σ1 H1 ⟨o2,rfl,rfl⟩;have fl:fF ps<ps.length:=by have:=jg6 ps (ps.length-1);unfold fF;omega
  walk_at "rf";refine⟨⟨l,_,rfl,kl,fun a1 h1=>?_⟩,?_⟩
  . rw[jeo]
    refine jb4 h1 fun J1 s1 e1=>?_;refine⟨a1,rfl,_,.inl (SqL.of e1),fun a2 h2=>?_⟩;refine jb4 h2 fun J2 s2 e2=>?_;refine⟨l,_,rfl,(s1.trans s2).seq kl,fun a3 h3=>?_⟩;rw[jdw];refine jb4 h3 fun J3 s3 e3=>?_;refine⟨a3,rfl,_,.inl (SqL.of e3),fun a4 h4=>?_⟩;refine jb4 h4 fun J4 s4 e4=>?_;refine⟨a2,a4,_,_,rfl,rfl,s4 _ _ (s3 _ _ e2),e4,?_,fun a5 h5=>⟨a5,_,_,rfl,?_,s1.trans (s2.trans (s3.trans (s4.trans (Same.new h5 _))))⟩⟩
    . rw[xaB,xaO]
      exact xaX (show _<=1000 by omega) (by decide)
    . unfold rot
      rw[xap,xbM,xbF];exact jak
  rintro σ2 H2 ⟨g,o1,o2,rfl,hg,s2⟩;have hr2:=(hc.2.keep s2.t).rot (fF ps);have rl:(rot (fF ps) ps).length=ps.length:=jg8 (by omega);have rl2:((rot (fF ps) rs).map V.ref).length=ps.length:=by rw[xaa,jg8 (by omega),ln]
  have kg:SqL K H2 g ((rot (fF ps) rs).map V.ref):=SqL.of hg;obtain⟨b1,b2⟩:=hr2.get (i:=ps.length-1) (by omega);obtain⟨b3,b4⟩:=hr2.get (i:=1) (by omega);have ef:∀{α:Type} (x:List α),frm ps x=turn (fB ps) (rot (fF ps) x):=fun _=>rfl;have eb:fB ps=sfp (pt (rot (fF ps) ps) (ps.length-1)) (pt (rot (fF ps) ps) 1):=rfl;walk_at "rf";refine⟨ixL kg (jfO (n:=ps.length-1) (by omega) b1) (ixL kg (jaP (j:=1) b3) ?_),?_⟩
  . refine⟨_,_,_,_,rfl,b2,b4,?_⟩
    rw[<- eb];have ef:=ef rs;cases es:fB ps with
    | false =>
      rw[es] at ef;walk_at "rf";exact⟨g,_,_,_,rfl,by rw[ef];exact hg,s2⟩
    | true =>
      rw[es] at ef;have ef2:frm ps rs=(rot (fF ps) rs).take 1++((rot (fF ps) rs).drop 1).reverse:=ef;walk_at "rf";refine⟨g,_,rfl,kg,fun a1 h1=>?_⟩;have c1:jgf ((rot (fF ps) rs).map V.ref) none (some 1)=((rot (fF ps) rs).map V.ref).take 1:=jdw (f:=1);rw[c1];refine jb4 h1 fun J1 s3 e1=>?_;refine⟨g,_,rfl,s3.seq kg,fun a2 h2=>?_⟩;have c2:jgf ((rot (fF ps) rs).map V.ref) (some 1) none=((rot (fF ps) rs).map V.ref).drop 1:=jeo (f:=1);rw[c2];refine jb4 h2 fun J2 s4 e2=>?_;refine⟨a2,rfl,_,SqL.of e2,fun a3 h3=>?_⟩;refine jb4 h3 fun J3 s5 e3=>?_;refine⟨a1,a3,_,_,rfl,rfl,s5 _ _ (s4 _ _ e1),e3,?_,fun a4 h4=>⟨a4,_,_,_,rfl,?_,s2.trans (s3.trans (s4.trans (s5.trans (Same.new h4 _))))⟩⟩
      . rw[xbh,xaB,xaO]
        exact xaX (show _<=1000 by omega) (by decide)
      . rw[ef2,xap,xbF,xbS,xbM]
        exact jak
  rintro σ3 H3 ⟨g,o0,o1,o2,rfl,hg,s3⟩;walk_at "rf";exact⟨_,SqL.of hg,fun t ht=>q t _ (s3.trans (Same.new ht _)) jak⟩
theorem jon (ns:List Int):gl (ns.map fun n=>-n)=gl ns:=by
 have d1:gl (ns.map fun n=>-n) ∣ gl ns:=jfj fun n hn=>Int.dvd_neg.mp (jaR (xah.mpr ⟨n,hn,rfl⟩));have d2:gl ns ∣ gl (ns.map fun n=>-n):=jfj fun n hn=>by
  obtain⟨m,hm,rfl⟩:=xah.mp hn;exact Int.dvd_neg.mpr (jaR hm)
 exact Int.dvd_antisymm (jbk _) (jbk _) d1 d2
inductive spPlaneOfi (vs:List V) (H:Hp) (Q:VK):Prop
 | mk (t:Addr) (rs:List Addr) (ps:List Pt) (_:vs=[.ref t]) (_:H t=some (.tup (rs.map V.ref))) (_:Sps H rs ps) (_:3<=ps.length) (_:¬jbp (pt ps 0) (pt ps 1) (pt ps 2)) (_:∀(g:Addr) (H':Hp),Same H H'->H' g=some (.tup ((pln (rgh (pt ps 0) (pt ps 1) (pt ps 2))).map V.int))->Q (.ref g) H')
def jb7:Sp:=fun vs H Q _=>spPlaneOfi vs H Q
theorem jij (T:Tx K mg t1 t2) (F:At K mg "plane_of" jdV ["board"] []) (dM:jal P w K mg base CX0 5 "plane_through" ["one","other","third"] [] jeQ):jal P w K mg base CX0 6 "plane_of" ["board"] [] jb7:=by
 refine F.ok jeU (by walk_at "ar") (fun f cdv A outer s H vs Q E hr h=>?_);obtain⟨t,rs,ps,rfl,ht,hc,n3,na,q⟩:=h;have S:=jeU;refine⟨_,(jah (jan (jae dM hr.m rfl jaq (jaa (jam jao (pv 0) jab) (jaa (jam jao (pv 0) jab) (jaa (jam jao (pv 0) jab) jac jau) jau) jau)))),?_⟩;have kt:SqT K H t (rs.map V.ref):=SqT.of ht;obtain⟨a1,a2⟩:=hc.get (i:=0) (by omega);obtain⟨a3,a4⟩:=hc.get (i:=1) (by omega);obtain⟨a5,a6⟩:=hc.get (i:=2) (by omega);walk_at "rf";refine ixT kt (jaP (j:=0) a1) (ixT kt (jaP (j:=1) a3) (ixT kt (jaP (j:=2) a5) ?_));exact⟨_,_,_,_,_,_,rfl,a2,a4,a6,na,q⟩
theorem jlI {n:Int} (h:0<=n):0<=sgn n:=by
 unfold sgn;split
 ·decide
 ·split<;>omega
theorem joo {n:Int} (h:n<=0):sgn n<=0:=by
 unfold sgn;split
 ·omega
 ·split<;>omega
theorem jop {n:Int} (h:0<n):sgn n=1:=by
 unfold sgn;rw[if_pos h]
theorem jkW {n:Int} (h:n<0):sgn n=-1:=by
 unfold sgn;rw[if_neg (by omega),if_pos h]
theorem joq {n:Int} (h:n=0):sgn n=0:=by rw[h];rfl
theorem jfq {X:Cx} {K:PySem.W.Frag} (h:X.K=K):IxR X (fun x y H Q=>jnI K x y H Q\/jnJ K x y H Q):=h▸ix_lt
variable {Q:VK}
theorem jlJ {r:Addr} {i:Int} {v:V} (k:SqL K H r xs\/SqT K H r xs) (e:atI xs i=some v) (q:Q v H):jnI K (.ref r) (.int i) H Q\/jnJ K (.ref r) (.int i) H Q:=by
 rcases k with k | k
 ·exact .inl (ixL k e q)
 ·exact .inr (ixT k e q)
local macro_rules | `(tactic| walk_at "gl") => `(tactic| repeat (first | ((with_reducible apply L2.ixT); assumption; rfl) | ((with_reducible apply My.jlJ); assumption; rfl) | ((with_reducible apply L2.ixL); assumption; rfl) | ((with_reducible apply And.intro); (walk_at "sd")) | walk_at "rf"))
structure Tri where
 x:Int
 y:Int
 z:Int
def Tri.bd (n:Nat) (v:Tri):Prop:=Bd n v.x/\Bd n v.y/\Bd n v.z
structure Sht where
 s:Tri
 w:Int
 c:Tri
 d:Tri
def Sht.u (S:Sht):Tri:=⟨S.c.y*S.d.z-S.c.z*S.d.y,S.c.z*S.d.x-S.c.x*S.d.z,S.c.x*S.d.y-S.c.y*S.d.x⟩
def Tri.nz (v:Tri):Prop:=¬(v.x=0/\v.y=0/\v.z=0)
def Box (H:Hp) (L:Addr):Prop:=∃m:Int,H L=some (.lst [.int m])
variable {L sd S fN SE:Addr}
theorem SameB.t (s:SameB L H H') (h:Box H L):SameT H H':=fun b xs hb=>by
 by_cases e:b=L
 ·obtain⟨m,hm⟩:=h;rw[e,hm] at hb;cases hb
 ·exact s b _ e hb
def Ix (ix:List Nat):Prop:=3<=ix.length/\ix.length<=8/\ix.Pairwise (· < ·)/\∀i∈ix,i<8
def rX (S:Sht) (v:Tri):Int:=S.s.x*v.z+S.w*(v.x*S.c.x+v.y*S.d.x)
def rY (S:Sht) (v:Tri):Int:=S.s.y*v.z+S.w*(v.x*S.c.y+v.y*S.d.y)
def rZ (S:Sht) (v:Tri):Int:=S.s.z*v.z+S.w*(v.x*S.c.z+v.y*S.d.z)
def rW (S:Sht) (v:Tri):Int:=S.w*v.z
def rG (S:Sht) (v:Tri):Int:=gl [rX S v,rY S v,rZ S v,rW S v]
def spt (S:Sht) (v:Tri):Pt:=⟨rX S v / rG S v,rY S v / rG S v,rZ S v / rG S v,rW S v / rG S v⟩
def Tri.pl (v:Tri):Prop:=1<=v.z
theorem Bd.div {i:Int} (h:Bd n i):Bd n (i / g):=xa7 (xa1 i g) h
local macro_rules | `(tactic| walk_at "gl") => `(tactic| repeat (first | ((with_reducible apply L2.ixT); assumption; rfl) | ((with_reducible apply My.jlJ); assumption; rfl) | ((with_reducible apply L2.ixL); assumption; rfl) | ((with_reducible apply And.intro); (walk_at "sd")) | walk_at "rf"))
def pl4 (p:Pt):List Int:=[p.x,p.y,p.z,p.w]
theorem Sps.rds {rs:List Addr} (h:Sps H rs ps):RdsAll K H (rs.map V.ref) (jgK (ps.map pl4)):=by
 induction h with
 | nil=>exact .nil
 | cons h _ ih=>exact .cons (.tup (SqT.of h.1) (RdsAll.ints (pl4 _))) ih
def jjp (ps:List Pt):PyData:=.tuple (jgK (ps.map pl4))
theorem jmT {b:Addr} {rs:List Addr} (hb:H b=some (.tup (rs.map V.ref))) (h:Sps H rs ps):Rds K H (.ref b) (jjp ps):=.tup (SqT.of hb) h.rds
theorem jmU (ps:List Pt):PyData.canLay0 (jjp ps)=true/\PyData.depth (jjp ps)<=2/\PyData.eqv (jjp ps) (jjp ps)=true:=by
 obtain⟨h1,h2⟩:=jhw (ps.map pl4);refine⟨h1,?_,?_⟩
 ·show PyData.depth (.tuple (jgK (ps.map pl4)))<=2;simp only[PyData.depth];omega
 ·show PyData.eqvAll (jgK (ps.map pl4)) (jgK (ps.map pl4))=true;rw[jhx,decide_eq_true rfl]
theorem je0:∀(ns:List Int) (d k m:Int),k ∣ m*d->(∀n∈ns,k ∣ m*n)->k ∣ m*G d ns
  | [],_,_,_,h,_=>h
  | n :: r, d, k, m, h, hn => by
    rw[jgv];refine je0 r _ k m ?_ fun n' h'=>hn n' (xad _ h');have h1:=xbC h (hn n xaN);rw[Int.gcd_mul_left,Int.natCast_mul] at h1;exact xbv h1 (Int.mul_dvd_mul (Int.natAbs_dvd.mpr (xcm m)) (xcm _))
theorem jlK (p o u:Pt):jaL 0 p o u=jaY p.y p.z p.w o.y o.z o.w u.y u.z u.w:=rfl
theorem jlL (p o u:Pt):jaL 1 p o u=jaY p.x p.z p.w o.x o.z o.w u.x u.z u.w:=rfl
theorem jlM (p o u:Pt):jaL 2 p o u=jaY p.x p.y p.w o.x o.y o.w u.x u.y u.w:=rfl
theorem jor (p o u:Pt):jaL 3 p o u=jaY p.x p.y p.z o.x o.y o.z u.x u.y u.z:=rfl
def dt (a b c:Tri):Int:=jaY a.x a.y a.z b.x b.y b.z c.x c.y c.z
theorem jdI {g1 g2 g3 b c z u v w:Int}:jaY (g1*a) (g1*b) (g1*c) (g2*x) (g2*y) (g2*z) (g3*u) (g3*v) (g3*w)=jaY a b c x y z u v w*(g1*g2*g3):=by
 unfold jaY;grind
theorem ja0 (Z:Sht) (v:Tri):rG Z v*(spt Z v).x=rX Z v/\rG Z v*(spt Z v).y=rY Z v/\rG Z v*(spt Z v).z=rZ Z v/\rG Z v*(spt Z v).w=rW Z v :=
 ⟨xbf (jaR (by simp)),xbf (jaR (by simp)),xbf (jaR (by simp)),xbf (jaR (by simp))⟩
def w3 (Z:Sht):Int:=Z.w*Z.w*Z.w
def ud (Z:Sht):Int:=Z.u.x*Z.s.x+Z.u.y*Z.s.y+Z.u.z*Z.s.z
theorem jjq (Z:Sht) (a b c:Tri):jaL 0 (spt Z a) (spt Z b) (spt Z c)*(rG Z a*rG Z b*rG Z c)=w3 Z*Z.u.x*dt a b c:=by
 obtain⟨a1,a2,a3,a4⟩:=ja0 Z a;obtain⟨b1,b2,b3,b4⟩:=ja0 Z b;obtain⟨c1,c2,c3,c4⟩:=ja0 Z c;rw[jlK,<- jdI,a2,a3,a4,b2,b3,b4,c2,c3,c4];unfold w3 dt jaY rY rZ rW Sht.u;grind
theorem jjr (Z:Sht) (a b c:Tri):-jaL 1 (spt Z a) (spt Z b) (spt Z c)*(rG Z a*rG Z b*rG Z c)=w3 Z*Z.u.y*dt a b c:=by
 obtain⟨a1,a2,a3,a4⟩:=ja0 Z a;obtain⟨b1,b2,b3,b4⟩:=ja0 Z b;obtain⟨c1,c2,c3,c4⟩:=ja0 Z c;rw[xby,jlL,<- jdI,a1,a3,a4,b1,b3,b4,c1,c3,c4];unfold w3 dt jaY rX rZ rW Sht.u;grind
theorem jjs (Z:Sht) (a b c:Tri):jaL 2 (spt Z a) (spt Z b) (spt Z c)*(rG Z a*rG Z b*rG Z c)=w3 Z*Z.u.z*dt a b c:=by
 obtain⟨a1,a2,a3,a4⟩:=ja0 Z a;obtain⟨b1,b2,b3,b4⟩:=ja0 Z b;obtain⟨c1,c2,c3,c4⟩:=ja0 Z c;rw[jlM,<- jdI,a1,a2,a4,b1,b2,b4,c1,c2,c4];unfold w3 dt jaY rX rY rW Sht.u;grind
theorem jos (Z:Sht) (a b c:Tri):jaL 3 (spt Z a) (spt Z b) (spt Z c)*(rG Z a*rG Z b*rG Z c)=Z.w*Z.w*ud Z*dt a b c:=by
 obtain⟨a1,a2,a3,a4⟩:=ja0 Z a;obtain⟨b1,b2,b3,b4⟩:=ja0 Z b;obtain⟨c1,c2,c3,c4⟩:=ja0 Z c;rw[jor,<- jdI,a1,a2,a3,b1,b2,b3,c1,c2,c3];unfold ud dt jaY rX rY rZ Sht.u;grind
variable {Z Z1 Z2:Sht}
theorem ja7 {v:Tri} (hw:1<=Z.w) (hv:v.pl):0<rG Z v:=by
 have W1:0<rW Z v:=xaf (by omega) (show 0<v.z by have:1<=v.z:=hv;omega);exact jco (n:=rW Z v) (by simp) (by omega)
theorem jot (hw:1<=Z.w):0<w3 Z:=xaf (xaf (by omega) (by omega)) (by omega)
theorem je1 {a b c:Tri} (hw:1<=Z.w) (nz:Z.u.nz) (hd:dt a b c≠0):¬jbp (spt Z a) (spt Z b) (spt Z c):=fun ⟨h0,h1,h2⟩=>by
 have e0:=jjq Z a b c;have e1:=jjr Z a b c;have e2:=jjs Z a b c;rw[h0,xaK] at e0;rw[h1,Int.neg_zero,xaK] at e1;rw[h2,xaK] at e2;have w0:=jot hw;have c:∀{i:Int},0=w3 Z*i*dt a b c->i=0:=fun {i} e=>by
  rcases xai.mp e.symm with q | q
  ·rcases xai.mp q with r | r
   ·omega
   ·exact r
  ·exact absurd q hd
 exact nz ⟨c e0,c e1,c e2⟩
theorem ix_lt {ix:List Nat} (h:Ix ix) {a:Nat} (ha:a<ix.length):ix.getD a 0<8:=by
 rw[xab,xac ha];exact h.2.2.2 _ (xa5 ha)
theorem jjt (hk:0<k) (ns:List Int):gl (ns.map (k*·))=k*gl ns:=by
 refine Int.dvd_antisymm (jbk _) (xag (by omega) (jbk _)) ?_ ?_
 ·exact je0 ns 0 _ k (by rw[xaq];exact Int.dvd_zero _) fun n hn=>jaR (xah.mpr ⟨n,hn,rfl⟩)
 ·refine jfj fun n hn=>?_;obtain⟨m,hm,rfl⟩:=xah.mp hn;exact Int.mul_dvd_mul (xcm k) (jaR hm)
theorem jg9 (hk:0<k) (ns:List Int):low (ns.map (k*·))=low ns:=by
 unfold low;rw[jjt hk,xb8];refine xch fun n _=>?_;exact Int.mul_ediv_mul_of_pos _ _ hk
theorem jou {l:List Pt} {f:Nat} (hf:f<l.length) (hi:i<l.length):pt (rot f l) i=pt l ((f+i) % l.length):=by
 unfold pt rot;rw[xab,xab];by_cases c:f+i<l.length
 ·rw[xak c,xaV (by rw[xaB];omega),List.getElem?_drop]
 ·have e:(f+i) % l.length=f+i-l.length:=by
   rw[Nat.mod_eq_sub_mod (by omega)];exact xak (by omega)
  rw[e,xaH (by rw[xaB];omega),xaB,List.getElem?_take,if_pos (by omega)]
  congr 2
  omega
theorem jaI {l:List Pt} (h:i<l.length):pt l i∈l:=by
 unfold pt;rw[xab,xac h];exact xa5 h
theorem jb8 {l:List Pt} (h:p∈l):∃i,i<l.length/\pt l i=p:=by
 obtain⟨i,hi,e⟩:=xbe.mp h;refine⟨i,hi,?_⟩;unfold pt;rw[xab,xac hi];exact e
theorem jik (hg:0<g) (e:g*x=y):(0<=y->0<=x)/\(0<y->0<x):=by
 constructor
 ·intro h;apply xau;intro n;have:=xan hg (show x<0 by omega);omega
 ·intro h;apply xau;intro n;have:=xaF (show 0<=g by omega) (show x<=0 by omega);omega
theorem SameB.fresh {H3:Hp} (s0:Same H H3) (h:H L=none) (s:SameB L H3 H'):Same H H':=fun b o hb=>s b o (jaD hb h) (s0 b o hb)
theorem jgB {v:Tri} (hw:1<=Z.w) (hv:v.pl):1<=(spt Z v).w:=by
 have W1:0<rW Z v:=xaf (by omega) (show 0<v.z by have:1<=v.z:=hv;omega);exact (jik (ja7 hw hv) (ja0 Z v).2.2.2).2 W1
theorem Box.keep (h:Box H L) (s:Same H H'):Box H' L:=by
 obtain⟨m,h⟩:=h;exact⟨m,s _ _ h⟩
theorem jha (h:x.natAbs<=y.natAbs) (hy:Bd n y):Bd n x:=xa7 h hy
theorem jbm {rs:List Addr} (h:i<rs.length):(rs.map V.ref)[i]?=some (.ref (ad rs i)):=by
 unfold ad;rw[xav,xab,xac h];rfl
theorem jd2:∀{ys:List V},(∀(i:Nat) (y:V),ys[i]?=some y->∃e:Addr,y=.ref e)->∃es:List Addr,ys=es.map V.ref
  | [],_=>⟨[],rfl⟩
  | y :: ys, h => by
    obtain⟨e,rfl⟩:=h 0 y rfl;obtain⟨es,rfl⟩:=jd2 (ys:=ys) fun i y hy=>h (i+1) y hy;exact⟨e::es,rfl⟩
inductive spEdgesi (vs:List V) (H:Hp) (Q:VK):Prop
 | mk (b:Addr) (rs:List Addr) (_:vs=[.ref b]) (_:H b=some (.tup (rs.map V.ref))) (_:3<=rs.length) (_:rs.length<=17) (_:∀(L:Addr) (H':Hp) (es:List Addr),Same H H'->H' L=some (.lst (es.map V.ref))->es.length=rs.length->(∀i,i<rs.length->H' (ad es i)=some (.tup [.ref (ad rs ((i+(rs.length-1)) % rs.length)),.ref (ad rs i)]))->Q (.ref L) H')
def jfP:Sp:=fun vs H Q _=>spEdgesi vs H Q
theorem jkX (T:Tx K mg t1 t2) (F:At K mg "edges_of" jdU ["board"] []):jal P w K mg base CX0 1 "edges_of" ["board"] [] jfP:=by
 refine F.ok jeT (by walk_at "ar") (fun f cdv A outer s H vs Q E hr h=>?_);obtain⟨b,rs,rfl,hb,n3,n8,q⟩:=h;have S:=jeT;refine⟨_,(jah (jan (jaX rfl (N':=["k","board"]) (ix:=[0]) (by walk_at "cs") (jaO rfl T.m_range (jaa (jaB jbg rfl T.m_len PySem.boot_len (jaa (pv 0) jac jad)) jac jaG)) (fun _ _ _ _=>jas (i:=0) (show (["k","board"]:List Str).Nodup from by decide +kernel) rfl (Or.inl rfl)) (fun _ _ _ _=>jaW) (fun _ _ _ _=>(ja1 (jaa (jam (jaZ (K:=K) rfl) (pv 1) (jap jbf (pv 0) jab)) (jaa (jam (jaZ (K:=K) rfl) (pv 1) (pv 0)) jac jau) jau)))))),?_⟩;have lm:(rs.map V.ref).length=rs.length:=xaa _;have kb:SqT K H b (rs.map V.ref):=SqT.of hb;walk_at "rf";refine⟨_,.inr kb,by omega,by omega,fun acc hacc=>?_⟩;have e0:(((rs.map V.ref).length:Int)).toNat=rs.length:=by omega
 rw[e0];refine jlA (n:=rs.length) (fun i y H'=>∃e:Addr,y=.ref e/\H' e=some (.tup [.ref (ad rs ((i+(rs.length-1)) % rs.length)),.ref (ad rs i)])) (fun i y J J' ⟨e,h1,h2⟩ st=>⟨e,h1,st _ _ h2⟩) (by omega) hacc ?_ ?_
 ·intro i H3 R hi s4 hR;have kb3:=s4.tup kb;have g1:(rs.map V.ref)[i]?=some (.ref (ad rs i)):=jbm hi;have g2:atI (rs.map V.ref) (0+(i:Int)-1)=some (.ref (ad rs ((i+(rs.length-1)) % rs.length))):=by
   by_cases i0:i=0
   ·subst i0;have e1:(0+(rs.length-1)) % rs.length=rs.length-1:=by rw[xbw];exact xak (by omega)
    rw[e1];exact jfO (n:=rs.length-1) (by omega) (jbm (by omega))
   ·have e1:(i+(rs.length-1)) % rs.length=i-1:=by
     have z:i+(rs.length-1)=i-1+rs.length:=by omega
     rw[z,xbp];exact xak (by omega)
    have e2:(0+(i:Int)-1)=((i-1:Nat):Int):=by omega
    rw[e1,e2];exact jaP (jbm (by omega))
  walk_at "rf";refine ixT kb3 g2 ?_;refine ixT kb3 (by rw[xcn];exact jaP g1) ?_;exact⟨by decide,fun e he=>hR _ _ (Same.new he _) ⟨e,rfl,jak⟩⟩
 intro ys H3 s4 e4 l4 p4;obtain⟨es,rfl⟩:∃es:List Addr,ys=es.map V.ref:=jd2 fun i y hy=>let ⟨e,h1,_⟩:=p4 i y hy;⟨e,h1⟩;rw[xaa] at l4;refine q acc H3 es s4 e4 l4 fun i hi=>?_;obtain⟨e,h1,h2⟩:=p4 i _ (jbm (by omega));cases h1;exact h2
def ab (n:Int):Int:=if n<0 then -n else n
theorem ix1:∀n,n<18->∀a,a<n->∀f,f<n->∀i,i<n->(a+(f+i) % n) % n=((a+f) % n+i) % n/\(a+(n-(f+i) % n)) % n=((a+(n-f)) % n+(n-i)) % n:=by decide +kernel
theorem ix2:∀n,n<18->∀a,a<n->∀i,i<n->(a+(n-i) % n) % n=(a+(n-i)) % n/\(a+(n-(n-i) % n)) % n=(a+i) % n:=by decide +kernel
theorem ix3:∀n,n<18->∀a,a<n->∀i,i<n->(a+(n-1-i)) % n=((a+(n-1)) % n+(n-i)) % n/\(a+(n-(n-1-i))) % n=((a+1) % n+i) % n:=by decide +kernel
theorem ix4:∀n,n<18->∀a,a<n->∀i,i<n->(a+(i+(n-a)) % n) % n=i/\(a+(n-(a+(n-i)) % n)) % n=i:=by decide +kernel
def Dih (ps qs:List Pt):Prop:=qs.length=ps.length/\∃a,a<ps.length/\((∀i,i<ps.length->pt qs i=pt ps ((a+i) % ps.length))\/(∀i,i<ps.length->pt qs i=pt ps ((a+(ps.length-i)) % ps.length)))
theorem Dih.refl (h:3<=ps.length):Dih ps ps:=⟨rfl,0,by omega,.inl fun i hi=>by rw[xbw,xak hi]⟩
theorem Dih.rot (d:Dih ps qs) (n8:ps.length<=17) {f:Nat} (hf:f<ps.length):Dih ps (rot f qs):=by
 obtain⟨hl,a,ha,d⟩:=d;have rp:∀i,i<ps.length->pt (My.rot f qs) i=pt qs ((f+i) % ps.length):=fun i hi=>by rw[jou (by omega) (by omega),hl]
 have m:∀i,(f+i) % ps.length<ps.length:=fun i=>xaA _ (by omega);refine⟨by rw[jg8 (by omega),hl],?_⟩;rcases d with d | d
 ·refine⟨(a+f) % ps.length,xaA _ (by omega),.inl fun i hi=>?_⟩;rw[rp i hi,d _ (m i),(ix1 _ (by omega) a ha f hf i hi).1]
 ·refine⟨(a+(ps.length-f)) % ps.length,xaA _ (by omega),.inr fun i hi=>?_⟩;rw[rp i hi,d _ (m i),(ix1 _ (by omega) a ha f hf i hi).2]
theorem jmV {l:List Pt} (hi:i<l.length):pt (turn true l) i=pt l ((l.length-i) % l.length):=by
  match l,hi with
  | x :: r, hi =>
    have e:turn true (x::r)=x::r.reverse:=rfl;rw[e];cases i with
    | zero=>rw[Nat.sub_zero,xa4];rfl
    | succ j =>
      have hj:j<r.length:=by simpa using hi
      have e2:((x::r).length-(j+1)) % (x::r).length=r.length-1-j+1:=by
        rw[xaw,xak (by omega)];omega
      rw[e2];unfold pt;rw[xab,xab,List.getElem?_cons_succ,List.getElem?_cons_succ,xb7 hj]
theorem jkY {l:List Pt} (b:Bool):(turn b l).length=l.length:=by
 unfold turn;cases b
 ·rfl
 ·rw[if_pos rfl,xal,xbh,xaO,xaB];omega
theorem Dih.turn (d:Dih ps qs) (n8:ps.length<=17) (b:Bool):Dih ps (turn b qs):=by
  cases b with
  | false=>exact d
  | true =>
    obtain⟨hl,a,ha,d⟩:=d;refine⟨by rw[jkY,hl],a,ha,?_⟩;have tp:∀i,i<ps.length->pt (My.turn true qs) i=pt qs ((ps.length-i) % ps.length):=fun i hi=>by rw[jmV (by omega),hl]
    have m:∀i,(ps.length-i) % ps.length<ps.length:=fun i=>xaA _ (by omega);rcases d with d | d
    . exact .inr fun i hi=>by rw[tp i hi,d _ (m i),(ix2 _ (by omega) a ha i hi).1]
    . exact .inl fun i hi=>by rw[tp i hi,d _ (m i),(ix2 _ (by omega) a ha i hi).2]
theorem jov {l:List Pt} (hi:i<l.length):pt l.reverse i=pt l (l.length-1-i):=by
 unfold pt;rw[xab,xab,xb7 hi]
theorem Dih.rev (d:Dih ps qs) (n8:ps.length<=17):Dih ps qs.reverse:=by
 obtain⟨hl,a,ha,d⟩:=d;refine⟨by rw[xbh,hl],?_⟩;have tp:∀i,i<ps.length->pt qs.reverse i=pt qs (ps.length-1-i):=fun i hi=>by rw[jov (by omega),hl]
 rcases d with d | d
 ·exact⟨(a+(ps.length-1)) % ps.length,xaA _ (by omega),.inr fun i hi=>by rw[tp i hi,d _ (by omega),(ix3 _ (by omega) a ha i hi).1]⟩
 ·exact⟨(a+1) % ps.length,xaA _ (by omega),.inl fun i hi=>by rw[tp i hi,d _ (by omega),(ix3 _ (by omega) a ha i hi).2]⟩
theorem Dih.mem (d:Dih ps qs) (n8:ps.length<=17) :p∈qs↔p∈ps:=by
 obtain⟨hl,a,ha,d⟩:=d;constructor
 ·intro h;obtain⟨i,hi,rfl⟩:=jb8 h;rcases d with d | d
  ·rw[d i (by omega)];exact jaI (xaA _ (by omega))
  ·rw[d i (by omega)];exact jaI (xaA _ (by omega))
 ·intro h;obtain⟨i,hi,rfl⟩:=jb8 h;rcases d with d | d
  ·have z:=d ((i+(ps.length-a)) % ps.length) (xaA _ (by omega));rw[(ix4 _ (by omega) a ha i hi).1] at z;rw[<- z];exact jaI (by rw[hl];exact xaA _ (by omega))
  ·have z:=d ((a+(ps.length-i)) % ps.length) (xaA _ (by omega));rw[(ix4 _ (by omega) a ha i hi).2] at z;rw[<- z];exact jaI (by rw[hl];exact xaA _ (by omega))
theorem jow {b c u v w:Int} (hu:0<u) (hv:0<v) (hw:0<w) (h1:a*v<=b*u) (h2:b*w<=c*v):a*w<=c*u:=by
 have e1:=Int.mul_le_mul_of_nonneg_right h1 (show 0<=w by omega);have e2:=Int.mul_le_mul_of_nonneg_right h2 (show 0<=u by omega);refine Int.le_of_mul_le_mul_right (a:=v) ?_ hv;have z1:a*w*v=a*v*w:=by grind
 have z2:c*u*v=c*v*u:=by grind
 have z3:b*u*w=b*w*u:=by grind
 rw[z1,z2];omega
theorem par2 {b c d u v:Int} (hv:1<=v) (h1:a*v=b*u) (h2:c*v=d*u):a*d=c*b:=by
 refine Int.eq_of_mul_eq_mul_right (a:=v) (by omega) ?_;have e1:a*d*v=a*v*d:=by grind
 have e2:c*b*v=c*v*b:=by grind
 rw[e1,e2,h1,h2];grind
theorem jju {o:Pt} (u:Pt) (ho:1<=o.w) (h1:p.x*o.w=o.x*p.w) (h2:p.y*o.w=o.y*p.w) (h3:p.z*o.w=o.z*p.w):jbp p o u:=by
 have a1:=par2 ho h2 h3;have a2:=par2 ho h1 h3;have a3:=par2 ho h1 h2;refine⟨?_,?_,?_⟩
 ·rw[jlK];unfold jaY;grind
 ·rw[jlL];unfold jaY;grind
 ·rw[jlM];unfold jaY;grind
theorem jbh (h:3<=n):∃k,k<n/\j≠k/\i≠k:=by
 by_cases h0:i=0\/j=0
 ·by_cases h1:i=1\/j=1
  ·exact⟨2,by omega,by omega,by omega⟩
  ·exact⟨1,by omega,by omega,by omega⟩
 ·exact⟨0,by omega,by omega,by omega⟩
def sm (h:Nat->Int):Nat->Int
 | 0=>0
 | n+1=>sm h n+h n
def c2 (v v':Tri):Int:=v.x*v'.y-v.y*v'.x
def mi (p q:Pt):Int:=q.w / (Int.gcd p.w q.w:Nat)
def jbO (r:Pt):Pt:=if r.w<0 then ⟨-r.x / gl [-r.x,-r.y,-r.z,-r.w],-r.y / gl [-r.x,-r.y,-r.z,-r.w],-r.z / gl [-r.x,-r.y,-r.z,-r.w],-r.w / gl [-r.x,-r.y,-r.z,-r.w]⟩ else ⟨r.x / gl [r.x,r.y,r.z,r.w],r.y / gl [r.x,r.y,r.z,r.w],r.z / gl [r.x,r.y,r.z,r.w],r.w / gl [r.x,r.y,r.z,r.w]⟩
inductive spMSpi (vs:List V) (H:Hp) (Q:VK):Prop
 | mk (r:Pt) (_:vs=[.int r.x,.int r.y,.int r.z,.int r.w]) (_:(Small r.x/\Small r.y/\Small r.z/\Small r.w)) (_:(jbO r).sm) (_:r.w≠0) (_:∀(g:Addr) (H':Hp),Same H H'->Is4 H' g (jbO r)->Q (.ref g) H')
def jmW:Sp:=fun vs H Q _=>spMSpi vs H Q
theorem Sm2.neg {i:Int} (h:Sm2 i):Sm2 (-i):=by unfold Sm2 at *;rw[xbI];exact h
theorem Sm2.small {i:Int} (h:Sm2 i):Small i:=h.bd
theorem jox (T:Tx K mg t1 t2) (F:At K mg "made_spot" jbb ["x","y","z","w"] []) (dD:jal P w K mg base CX0 2 "in_lowest_terms" ["numbers"] [] jkN):jal P w K mg base CX0 3 "made_spot" ["x","y","z","w"] [] jmW:=by
 refine F.ok jec (by walk_at "ar") (fun f cdv A outer s H vs Q E hr h=>?_);obtain⟨⟨x,y,z,w⟩,rfl,⟨sx,sy,sz,sw⟩,sn,w0,q⟩:=h;have S:=jec;refine⟨_,(jag (jaV (jav jek (pv 3) jab (jaC _))
  jet
  jaz)
  (jag (jaV (jav jgR (pv 3) jab (jaC _))
  (jah (jan (jae dD hr.m rfl jaq (jaa (ja1 (jaa (jdM jb3 (pv 0)) (jaa (jdM jb3 (pv 1)) (jaa (jdM jb3 (pv 2)) (jaa (jdM jb3 (pv 3)) jac jfF) jfF) jfF) jfF)) jac jaA))))
  jaz)
  (jah (jan (jae dD hr.m rfl jaq (jaa (ja1 (jaa (pv 0) (jaa (pv 1) (jaa (pv 2) (jaa (pv 3) jac jad) jad) jad) jad)) jac jaA)))))),?_⟩
 walk_at "rf";have w0':¬w=0:=w0;rw[if_neg w0'];by_cases c:w<0
 ·rw[if_pos c];refine⟨by decide,fun p hp=>?_⟩;refine⟨p,[-x,-y,-z,-w],rfl,jak,by simp,mem4 (Small.neg sx) (Small.neg sy) (Small.neg sz) (Small.neg sw),?_,fun r H' h1 h2=>q r H' ((Same.new hp _).trans h1) ?_⟩
  ·have:=jco (ns:=[-x,-y,-z,-w]) (n:=-w) (by simp) (by omega);omega
  ·have e:jbO ⟨x,y,z,w⟩=_:=if_pos c;rw[e];rw[e] at sn;exact⟨h2,sn⟩
 ·rw[if_neg c];refine⟨by decide,fun p hp=>?_⟩;refine⟨p,[x,y,z,w],rfl,jak,by simp,mem4 sx sy sz sw,?_,fun r H' h1 h2=>q r H' ((Same.new hp _).trans h1) ?_⟩
  ·have:=jco (ns:=[x,y,z,w]) (n:=w) (by simp) (by omega);omega
  ·have e:jbO ⟨x,y,z,w⟩=_:=if_neg c;rw[e];rw[e] at sn;exact⟨h2,sn⟩
def Pt.bd (n:Nat) (p:Pt):Prop:=Bd n p.x/\Bd n p.y/\Bd n p.z/\Bd n p.w
theorem jfr {m:Nat} {z v:Int} (hx:Bd n x) (hy:Bd n y) (hz:Bd n z) (hv:Bd n v) (hp:p.bd m):Bd (n+m+2) (hgt x y z v p):=by
 unfold hgt;have a:=Bd.mul hx hp.1;have b:=Bd.mul hy hp.2.1;have c:=Bd.mul hz hp.2.2.1;have d:=Bd.mul hv hp.2.2.2;rw[Int.add_sub_assoc];exact Bd.add (Bd.add a b) (Bd.sub c d)
def jcR (x y z v:Int) (p o:Pt):Pt:=⟨hgt x y z v o*p.x-hgt x y z v p*o.x,hgt x y z v o*p.y-hgt x y z v p*o.y,hgt x y z v o*p.z-hgt x y z v p*o.z,hgt x y z v o*p.w-hgt x y z v p*o.w⟩
theorem jmX {m:Nat} {z v:Int} {o:Pt} (hx:Bd n x) (hy:Bd n y) (hz:Bd n z) (hv:Bd n v) (hp:p.bd m) (ho:o.bd m):(jcR x y z v p o).bd (n+m+2+m+1):=by
 have h1:=jfr hx hy hz hv hp;have h2:=jfr hx hy hz hv ho;exact⟨Bd.sub (Bd.mul h2 hp.1) (Bd.mul h1 ho.1),Bd.sub (Bd.mul h2 hp.2.1) (Bd.mul h1 ho.2.1),Bd.sub (Bd.mul h2 hp.2.2.1) (Bd.mul h1 ho.2.2.1),Bd.sub (Bd.mul h2 hp.2.2.2) (Bd.mul h1 ho.2.2.2)⟩
inductive spMeti (vs:List V) (H:Hp) (Q:VK):Prop
 | mk (n m:Nat) (g r e:Addr) (x y z v:Int) (p o:Pt) (_:vs=[.ref g,.ref r,.ref e]) (_:n+2*m+3<=1900) (_:H g=some (.tup [.int x,.int y,.int z,.int v])) (_:Bd n x) (_:Bd n y) (_:Bd n z) (_:Bd n v) (_:Is4 H r p) (_:Is4 H e o) (_:p.bd m) (_:o.bd m) (_:(jcR x y z v p o).w≠0) (_:(jbO (jcR x y z v p o)).sm) (_:∀(t:Addr) (H':Hp),Same H H'->Is4 H' t (jbO (jcR x y z v p o))->Q (.ref t) H')
def jmY:Sp:=fun vs H Q _=>spMeti vs H Q
theorem joy (T:Tx K mg t1 t2) (F:At K mg "met_at" jfK ["plane","one","other"] []) (dF:jal P w K mg base CX0 1 "height_over" ["plane","spot"] [] spHt) (dS:jal P w K mg base CX0 3 "made_spot" ["x","y","z","w"] [] jmW):jal P w K mg base CX0 4 "met_at" ["plane","one","other"] [] jmY:=by
 refine F.ok jgy (by walk_at "ar") (fun f cdv A outer s H vs Q E hr h=>?_);obtain⟨n,m,g,r,e,x,y,z,v,p,o,rfl,nm,hg,bx,by',bz,bv,hr',he,hp,ho,w0,sn,q⟩:=h;have S:=jgy;refine⟨_,(jag (jat (i:=3) S.nd rfl (Or.inl rfl) (jae dF hr.m rfl jaq (jaa (pv 0) (jaa (pv 2) jac jad) jad)))
  (jag (jat (i:=4) S.nd rfl (Or.inl rfl) (jae dF hr.m rfl jaq (jaa (pv 0) (jaa (pv 1) jac jad) jad)))
  (jah (jan (jae dS hr.m rfl jaq (jaa (jap jbf (jap jar (pv 3) (jam jao (pv 1) jab)) (jap jar (pv 4) (jam jao (pv 2) jab))) (jaa (jap jbf (jap jar (pv 3) (jam jao (pv 1) jab)) (jap jar (pv 4) (jam jao (pv 2) jab))) (jaa (jap jbf (jap jar (pv 3) (jam jao (pv 1) jab)) (jap jar (pv 4) (jam jao (pv 2) jab))) (jaa (jap jbf (jap jar (pv 3) (jam jao (pv 1) jab)) (jap jar (pv 4) (jam jao (pv 2) jab))) jac ja2) ja2) ja2) ja2)))))),?_⟩
 have kr:=hr'.sq (K:=K);have ke:=he.sq (K:=K);have sm:∀{i:Int},Bd n i->Small i:=fun h=>Bd.mono h (by omega);walk_at "rf";refine⟨g,e,x,y,z,v,o,rfl,hg,sm bx,sm by',sm bz,sm bv,he,?_⟩;refine⟨g,r,x,y,z,v,p,rfl,hg,sm bx,sm by',sm bz,sm bv,hr',?_⟩;have b1:=(jfr bx by' bz bv hp).fit (by omega);have b2:=(jfr bx by' bz bv ho).fit (by omega);have f1:=hp.1.fit (by omega);have f2:=hp.2.1.fit (by omega);have f3:=hp.2.2.1.fit (by omega);have f4:=hp.2.2.2.fit (by omega);have f5:=ho.1.fit (by omega);have f6:=ho.2.1.fit (by omega);have f7:=ho.2.2.1.fit (by omega);have f8:=ho.2.2.2.fit (by omega);try walk_at "rf"
 walk_at "gf";have rb:=jmX bx by' bz bv hp ho
 have s2:∀{i:Int},Bd (n+m+2+m+1) i->Small i:=fun h=>Bd.mono h (by omega);exact⟨jcR x y z v p o,rfl,⟨s2 rb.1,s2 rb.2.1,s2 rb.2.2.1,s2 rb.2.2.2⟩,sn,w0,q⟩
def jip (x y z v:Int) (p o:Pt):List (Pt × Int):=(if sgn (hgt x y z v p)*sgn (hgt x y z v o)<0 then [(jbO (jcR x y z v p o),0)] else [])++[(o,sgn (hgt x y z v o))]
def sdd (x y z v:Int) (ps:List Pt) (n:Nat):List (Pt × Int):=(List.range n).flatMap fun i=>jip x y z v (pt ps ((i+(ps.length-1)) % ps.length)) (pt ps i)
def Prs (H:Hp) (es:List Addr) (ds:List (Pt × Int)):Prop:=es.length=ds.length/\∀i,i<ds.length->∃r:Addr,H (ad es i)=some (.tup [.ref r,.int (ds.getD i (⟨0,0,0,0⟩,0)).2])/\Is4 H r (ds.getD i (⟨0,0,0,0⟩,0)).1
theorem jlN {z v:Int} {o:Pt} (hp:1<=p.w) (ho:1<=o.w) (h:sgn (hgt x y z v p)*sgn (hgt x y z v o)<0):(jcR x y z v p o).w≠0:=by
 show hgt x y z v o*p.w-hgt x y z v p*o.w≠0;generalize hgt x y z v o=a at *
 generalize hgt x y z v p=b at *
 unfold sgn at h;by_cases c1:b>0
 ·rw[if_pos c1] at h;by_cases c2:a>0
  ·rw[if_pos c2] at h;omega
  ·rw[if_neg c2] at h;by_cases c3:a<0
   ·have h1:=xaf c1 (show 0<o.w by omega);have h2:=xaf (show 0 < -a by omega) (show 0<p.w by omega);rw[xby] at h2;omega
   ·rw[if_neg c3] at h;omega
 ·rw[if_neg c1] at h;by_cases c3:b<0
  ·rw[if_pos c3] at h;by_cases c2:a>0
   ·have h1:=xaf (show 0 < -b by omega) (show 0<o.w by omega);have h2:=xaf c2 (show 0<p.w by omega);rw[xby] at h1;omega
   ·rw[if_neg c2] at h;by_cases c4:a<0
    ·rw[if_pos c4] at h;omega
    ·rw[if_neg c4] at h;omega
  ·rw[if_neg c3] at h;omega
inductive spSidedi (vs:List V) (H:Hp) (Q:VK):Prop
 | mk (n m:Nat) (b g:Addr) (rs:List Addr) (ps:List Pt) (x y z v:Int) (_:vs=[.ref b,.ref g]) (_:n+2*m+3<=1900) (_:H b=some (.tup (rs.map V.ref))) (_:Sps H rs ps) (_:3<=ps.length) (_:ps.length<=17) (_:(∀i,i<ps.length->(pt ps i).bd m/\1<=(pt ps i).w)) (_:H g=some (.tup [.int x,.int y,.int z,.int v])) (_:Bd n x) (_:Bd n y) (_:Bd n z) (_:Bd n v) (_:(∀i,i<ps.length->sgn (hgt x y z v (pt ps ((i+(ps.length-1)) % ps.length)))*sgn (hgt x y z v (pt ps i))<0->(jbO (jcR x y z v (pt ps ((i+(ps.length-1)) % ps.length)) (pt ps i))).sm)) (_:∀(L:Addr) (H':Hp) (es:List Addr),Same H H'->H' L=some (.lst (es.map V.ref))->Prs H' es (sdd x y z v ps ps.length)->Q (.ref L) H')
def jjv:Sp:=fun vs H Q _=>spSidedi vs H Q
theorem SameB.is4 {r:Addr} (s:SameB sd H J) (h:H sd=some (.lst xs)) (k:Is4 H r p):Is4 J r p:=⟨s _ _ (fun e=>by rw[<- e,k.1] at h;cases h) k.1,k.2⟩
theorem SameB.tup {r:Addr} (s:SameB sd H J) (h:H sd=some (.lst xs)) (k:H r=some (.tup ys)):J r=some (.tup ys):=s _ _ (fun e=>by rw[<- e,k] at h;cases h) k
theorem jjw (n:Int):Fit (sgn n):=by
 refine Bd.fit (n:=10) ?_;unfold sgn;split
 ·unfold Bd;decide
 ·split
  ·unfold Bd;decide
  ·unfold Bd;decide
variable {ds:List (Pt × Int)}
theorem Prs.keep {es:List Addr} (h:Prs H es ds) (s:Same H H'):Prs H' es ds:=⟨h.1,fun i hi=>by
 obtain⟨r,h1,h2⟩:=h.2 i hi;exact⟨r,s _ _ h1,h2.keep s⟩⟩
theorem Prs.snoc {p r:Addr} {os:List Addr} {s:Int} (h:Prs J os ds) (hsd:J sd=some (.lst xs)) (hp:J p=some (.tup [.ref r,.int s])) (hr:Is4 J r q):Prs (upd J sd (.lst ys)) (os++[p]) (ds++[(q,s)]):=by
 have ne:∀{a:Addr} {zs:List V},J a=some (.tup zs)->a≠sd:=fun h e=>by rw[e,hsd] at h;cases h
 refine⟨by rw[xal,xal,h.1];rfl,fun i hi=>?_⟩;rw[xal,xb5] at hi;by_cases c:i<ds.length
 ·obtain⟨r',h1,h2⟩:=h.2 i c;have e1:ad (os++[p]) i=ad os i:=by
   unfold ad;rw[xab,xab,xaV (by rw[h.1];exact c)]
  have e2:(ds++[(q,s)]).getD i (⟨0,0,0,0⟩,0)=ds.getD i (⟨0,0,0,0⟩,0):=by
   rw[xab,xab,xaV c]
  rw[e1,e2];exact⟨r',by rw[jaw (ne h1)];exact h1,by rw[jaw (ne h2.1)];exact h2.1,h2.2⟩
 ·have ei:i=ds.length:=by omega
  subst ei;have e1:ad (os++[p]) ds.length=p:=by
   unfold ad;rw[xab,xaH (by rw[h.1];exact xaj _),h.1,Nat.sub_self];rfl
  have e2:(ds++[(q,s)]).getD ds.length (⟨0,0,0,0⟩,0)=(q,s):=by
   rw[xab,xaH (xaj _),Nat.sub_self];rfl
  rw[e1,e2];exact⟨r,by rw[jaw (ne hp)];exact hp,by rw[jaw (ne hr.1)];exact hr.1,hr.2⟩
theorem jfQ (x y z v:Int) (ps:List Pt) (i:Nat):sdd x y z v ps (i+1)=sdd x y z v ps i++jip x y z v (pt ps ((i+(ps.length-1)) % ps.length)) (pt ps i):=by
 unfold sdd;rw[xaQ,xbT];simp
theorem jhb (x y z v:Int) (ps:List Pt):∀n,(sdd x y z v ps n).length<=2*n
  | 0=>xaj _
  | n + 1 => by
    have ih:=jhb x y z v ps n;rw[jfQ,xal];have:(jip x y z v (pt ps ((n+(ps.length-1)) % ps.length)) (pt ps n)).length<=2:=by
      unfold jip;split<;>simp
    omega
theorem jkZ (T:Tx K mg t1 t2) (F:At K mg "sided_round" jce ["board","plane"] []) (du:jal P w K mg base CX0 1 "edges_of" ["board"] [] jfP) (df:jal P w K mg base CX0 2 "side_of" ["plane","spot"] [] jeb) (dY:jal P w K mg base CX0 4 "met_at" ["plane","one","other"] [] jmY):jal P w K mg base CX0 5 "sided_round" ["board","plane"] [] jjv:=by
 refine F.ok jc6 (by walk_at "ar") (fun f cdv A outer s H vs Q E hr h=>?_);obtain⟨n,m,b,g,rs,ps,x,y,z,v,rfl,nm,hb,hs,n3,n9,lo,hg,bx,by',bz,bv,cs,q⟩:=h;have S:=jc6;refine⟨_,(jag (jat (i:=2) S.nd rfl (Or.inl rfl) (jaQ jac))
  (jag (jbe PassesOwn.never rfl (ja9 (jae du hr.m rfl jaq (jaa (pv 0) jac jad))) (jas (i:=3) S.nd rfl (Or.inl rfl))
  (jag (jat (i:=4) S.nd rfl (Or.inl rfl) (jae df hr.m rfl jaq (jaa (pv 1) (jaa (jam jao (pv 3) jab) jac jau) jad)))
  (jag (jat (i:=5) S.nd rfl (Or.inl rfl) (jae df hr.m rfl jaq (jaa (pv 1) (jaa (jam jao (pv 3) jab) jac jau) jad)))
  (jag (jaV (jav jgR (jap jar (pv 4) (pv 5)) jab (jaC _))
  (jah (jes (jmq PySem.F.plainAttrs_list PySem.F.slot_list_append PySem.F.type_list_append jez (pv 2) (jaa (ja1 (jaa (jae dY hr.m rfl jaq (jaa (pv 1) (jaa (jam jao (pv 3) jab) (jaa (jam jao (pv 3) jab) jac jau) jau) jad)) (jaa jab jac jaj) jaG)) jac jaA))))
  jaz)
  (jah (jes (jmq PySem.F.plainAttrs_list PySem.F.slot_list_append PySem.F.type_list_append jez (pv 2) (jaa (ja1 (jaa (jam jao (pv 3) jab) (jaa (pv 5) jac jad) jau)) jac jaA))))))))
  (jah (jan (pv 2))))),?_⟩
 have ln:=hs.len;have sm:∀{i:Int},Bd n i->Small i:=fun h=>Bd.mono h (by omega);walk_at "rf";refine⟨by decide,fun sd hsd=>?_⟩;refine jb4 hsd fun H1 s1 e1=>?_;refine⟨b,rs,rfl,s1 _ _ hb,by omega,by omega,fun L H2 es s2 e2 l2 p2=>?_⟩;try walk_at "rf"
 have e1':=s2 _ _ e1;have Lsd:L≠sd:=fun z=>by
  rw[z,e1'] at e2;injection e2 with e2
  injection e2 with e2
  have:=congrArg List.length e2;rw[xaa,l2,ln] at this;simp at this;omega
 have hs2:=(hs.keep s1.t).keep s2.t;refine⟨⟨_,SqL.of e2⟩,jbC (K:=K) (a:=L) (xs:=es.map V.ref) (fun i σ J=>SameB sd H2 J/\i<=ps.length/\∃(os:List Addr) (o3 o4 o5:Option V),σ=[some (.ref b),some (.ref g),some (.ref sd),o3,o4,o5]/\J sd=some (.lst (os.map V.ref))/\Prs J os (sdd x y z v ps i)) ⟨SameB.refl sd H2,xaY _,[],none,none,none,rfl,e1',rfl,fun i hi=>absurd hi (xa8 _)⟩ (fun i σ J hi hP=>SqL.of (hP.1 _ _ Lsd e2)) ?_ ?_⟩
 ·rintro i ev σ J hi ⟨sJ,li,os,o3,o4,o5,rfl,eJ,hP⟩;have il:i<es.length:=by have:=(xae.mp hi).1;rw[xaa] at this;exact this
  rw[jbm il] at hi;cases hi;have pi:=p2 i (by omega);rw[ln] at pi;have hm:(i+(ps.length-1)) % ps.length<ps.length:=xaA _ (by omega);have q0:=SameB.is4 sJ e1' (hs2.get hm).2;have q1:=SameB.is4 sJ e1' (hs2.get (i:=i) (by omega)).2;have kE:=SqT.of (K:=K) (SameB.tup sJ e1' pi);have kg:=SameB.tup sJ e1' (s2 _ _ (s1 _ _ hg));obtain⟨l0,w0⟩:=lo _ hm;obtain⟨l1,w1⟩:=lo i (by omega);try walk_at "rf"
  refine ixT kE (i:=0) rfl ⟨g,_,x,y,z,v,_,rfl,kg,sm bx,sm by',sm bz,sm bv,q0,?_⟩;refine ixT kE (i:=1) rfl ⟨g,_,x,y,z,v,_,rfl,kg,sm bx,sm by',sm bz,sm bv,q1,?_⟩;try walk_at "rf"
  refine⟨jjw _,jjw _,?_⟩;have dl:=jhb x y z v ps i;have ol:os.length<=34:=by rw[hP.1];omega
  by_cases c:sgn (hgt x y z v (pt ps ((i+(ps.length-1)) % ps.length)))*sgn (hgt x y z v (pt ps i))<0
  ·rw[if_pos c];refine⟨.inl ⟨_,SqL.of eJ⟩,ixT kE (i:=0) rfl (ixT kE (i:=1) rfl ⟨n,m,g,_,_,x,y,z,v,_,_,rfl,nm,kg,bx,by',bz,bv,q0,q1,l0,l1,jlN w0 w1 c,cs i (by omega) c,fun t J1 s3 e3=>⟨by decide,fun p hp=>?_⟩⟩)⟩;refine jb4 hp fun J2 s4 e4=>?_;have S4:=s3.trans s4;have eJ2:=S4 _ _ eJ;refine⟨sd,_,_,rfl,rfl,eJ2,jaM (by rw[xaa];omega),?_⟩;have P5:=(hP.keep S4).snoc (ys:=os.map V.ref++[V.ref p]) eJ2 e4 (e3.keep s4);have e5:upd J2 sd (.lst (os.map V.ref++[V.ref p])) sd=some (.lst ((os++[p]).map V.ref)):=by rw[xap];exact jak
   have s5:SameB sd J2 (upd J2 sd (.lst (os.map V.ref++[V.ref p]))):=fun b' o' nb hb'=>by rw[jaw nb];exact hb'
   generalize upd J2 sd (.lst (os.map V.ref++[V.ref p]))=J3 at P5 e5 s5 |-
   have S5:SameB sd J J3:=SameB.trans S4.b s5;have kE5:=SqT.of (K:=K) (SameB.tup S5 eJ (SameB.tup sJ e1' pi));have q15:=SameB.is4 S5 eJ q1;refine⟨.inl ⟨_,SqL.of e5⟩,ixT kE5 (i:=1) rfl ⟨by decide,fun p' hp'=>?_⟩⟩;refine jb4 hp' fun J4 s6 e6=>?_;have eJ4:=s6 _ _ e5;refine⟨sd,_,_,rfl,rfl,eJ4,jaM (by rw[xaa,xal,xb5];omega),?_⟩;have P7:=(P5.keep s6).snoc (ys:=(os++[p]).map V.ref++[V.ref p']) eJ4 e6 (q15.keep s6);refine⟨SameB.trans sJ (SameB.trans S5 (SameB.trans s6.b fun b' o' nb hb'=>by rw[jaw nb];exact hb')),by omega,os++[p]++[p'],by rw[jak];simp,?_⟩;have eS:sdd x y z v ps (i+1)=sdd x y z v ps i++[(jbO (jcR x y z v (pt ps ((i+(ps.length-1)) % ps.length)) (pt ps i)),0)]++[(pt ps i,sgn (hgt x y z v (pt ps i)))]:=by
    rw[jfQ];unfold jip;rw[if_pos c,xb3]
   rw[eS];exact P7
  ·rw[if_neg c];refine⟨.inl ⟨_,SqL.of eJ⟩,ixT kE (i:=1) rfl ⟨by decide,fun p' hp'=>?_⟩⟩;refine jb4 hp' fun J4 s6 e6=>?_;have eJ4:=s6 _ _ eJ;refine⟨sd,_,_,rfl,rfl,eJ4,jaM (by rw[xaa];omega),?_⟩;have P7:=(hP.keep s6).snoc (ys:=os.map V.ref++[V.ref p']) eJ4 e6 (q1.keep s6);refine⟨SameB.trans sJ (SameB.trans s6.b fun b' o' nb hb'=>by rw[jaw nb];exact hb'),by omega,os++[p'],by rw[xap];exact jak,?_⟩;have eS:sdd x y z v ps (i+1)=sdd x y z v ps i++[(pt ps i,sgn (hgt x y z v (pt ps i)))]:=by
    rw[jfQ];unfold jip;rw[if_neg c,List.nil_append]
   rw[eS];exact P7
 ·rintro σ J ⟨sJ,li,os,o3,o4,o5,rfl,eJ,hP⟩;have el:(es.map V.ref).length=ps.length:=by rw[xaa,l2,ln]
  rw[el] at hP;exact⟨_,rfl,q sd J os (SameB.fresh s1 hsd (s2.b.trans sJ)) eJ hP⟩
variable {ρ σ:L2.St}
variable {te:TE}
theorem jk1 {a:Addr} {g:TG} {tt:TT} {acc:Addr} {Z:Hp->Prop} (f:Nat->V) (c:Nat->Bool) (hn:zs.length<1000) (hacc:H1 acc=none) (hz:SqL K H1 a zs)
  (hs:∀(i:Nat) (z:V) (v0:L2.St) (H3:Hp) (Rt:V->Hp->Prop) (Rn:Hp->Prop),zs[i]?=some z->v0.length=n->Same H1 H3->(c i=true->∀H4,Same H3 H4->Rt (f i) H4)->(c i=false->∀H4,Same H3 H4->Rn H4)->g z (v0++ρ) H3 fun σ2 H2=>(∃v:L2.St,v.length=n/\σ2=v++ρ)/\tt σ2 H2 fun b H3=>if b=true then te σ2 H3 Rt else Rn H3)
  (hd:∀H',Same H1 H'->H' acc=some (.lst (((List.range zs.length).filter c).map f))->Z H'):jdf (Itl K a) n ρ g tt te acc Z H1:=by
 refine⟨fun i m xs H=>(Same H1 H/\H acc=some (.lst xs)/\xs=((List.range i).filter c).map f)/\i<=zs.length/\m=zs.length-i,⟨zs.length,⟨Same.new hacc _,jak,rfl⟩,xaY _,rfl⟩,?_⟩;rintro i m xs H ⟨⟨g1,g2,rfl⟩,hi,rfl⟩;have sq:=g1.seq hz;have hl:(((List.range i).filter c).map f).length<sizeLine:=jaM (by
  rw[xaa];have:=xb6 c (List.range i);rw[xba] at this;omega)
 by_cases hlt:i<zs.length
 ·have ez:zs[i]?=some zs[i]:=xac hlt;refine .inr ⟨⟨zs,zs[i],sq,ez⟩,(fun y H4=>y=f i/\c i=true/\Same H1 H4/\H4 acc=some (.lst (((List.range i).filter c).map f))),fun H3=>c i=false/\Same H1 H3/\H3 acc=some (.lst (((List.range i).filter c).map f)),?_,?_,?_⟩
  ·rintro y H4 ⟨rfl,ci,s4,a4⟩;refine⟨a4,hl,zs.length-(i+1),by omega,⟨Same.keepN s4 hacc _,jak,?_⟩,hlt,rfl⟩;rw[xaQ,xaz,xap,xbl,if_pos ci];rfl
  ·rintro H3 ⟨ci,s3,a3⟩;refine⟨zs.length-(i+1),by omega,⟨s3,a3,?_⟩,hlt,rfl⟩;rw[xaQ,xaz,xap,xbl,if_neg (by rw[ci];decide)];simp
  ·rintro v0 x H' l0 ⟨rfl,hx⟩;have ex:x=zs[i]:=by
    have z:=hx zs sq;rw[ez] at z;exact (Option.some.inj z).symm
   subst ex;exact hs i _ v0 H' _ _ ez l0 g1 (fun ci H4 s4=>⟨rfl,ci,g1.trans s4,s4 _ _ g2⟩) (fun ci H4 s4=>⟨ci,g1.trans s4,s4 _ _ g2⟩)
 ·have e:i=zs.length:=by omega
  subst e;exact .inl ⟨⟨zs,sq,xaj _⟩,hd _ g1 g2⟩
def kLo (ds:List (Pt × Int)):List Pt:=(ds.filter fun d=>decide (d.2<=0)).map (·.1)
def kHi (ds:List (Pt × Int)):List Pt:=(ds.filter fun d=>decide (0<=d.2)).map (·.1)
inductive spCutNi (vs:List V) (H:Hp) (Q:VK):Prop
 | mk (n m:Nat) (b g:Addr) (rs:List Addr) (ps:List Pt) (x y z v:Int) (_:vs=[.ref b,.ref g]) (_:n+2*m+3<=1900) (_:H b=some (.tup (rs.map V.ref))) (_:Sps H rs ps) (_:3<=ps.length) (_:ps.length<=17) (_:(∀i,i<ps.length->(pt ps i).bd m/\1<=(pt ps i).w)) (_:H g=some (.tup [.int x,.int y,.int z,.int v])) (_:Bd n x) (_:Bd n y) (_:Bd n z) (_:Bd n v) (_:(∀i,i<ps.length->sgn (hgt x y z v (pt ps ((i+(ps.length-1)) % ps.length)))*sgn (hgt x y z v (pt ps i))<0->(jbO (jcR x y z v (pt ps ((i+(ps.length-1)) % ps.length)) (pt ps i))).sm)) (_:((∀i,i<ps.length->hgt x y z v (pt ps i)=0)/\(∀(t:Addr) (H':Hp),Same H H'->H' t=some (.tup [.non,.non])->Q (.ref t) H')\/(∀i,i<ps.length->0<=hgt x y z v (pt ps i))/\(∃i,i<ps.length/\0<hgt x y z v (pt ps i))/\(∀(t:Addr) (H':Hp),Same H H'->H' t=some (.tup [.non,.ref b])->Q (.ref t) H')\/(∀i,i<ps.length->hgt x y z v (pt ps i)<=0)/\(∃i,i<ps.length/\hgt x y z v (pt ps i)<0)/\(∀(t:Addr) (H':Hp),Same H H'->H' t=some (.tup [.ref b,.non])->Q (.ref t) H')\/(∃i,i<ps.length/\0<hgt x y z v (pt ps i))/\(∃i,i<ps.length/\hgt x y z v (pt ps i)<0)/\3<=(kLo (sdd x y z v ps ps.length)).length/\(kLo (sdd x y z v ps ps.length)).length<=17/\3<=(kHi (sdd x y z v ps ps.length)).length/\(kHi (sdd x y z v ps ps.length)).length<=17/\(∀(t:Addr) (H':Hp) (l1 l2:Addr) (r1 r2:List Addr),Same H H'->H' t=some (.tup [.ref l1,.ref l2])->H' l1=some (.tup (r1.map V.ref))->Sps H' r1 (frm (kLo (sdd x y z v ps ps.length)) (kLo (sdd x y z v ps ps.length)))->H' l2=some (.tup (r2.map V.ref))->Sps H' r2 (frm (kHi (sdd x y z v ps ps.length)) (kHi (sdd x y z v ps ps.length)))->Q (.ref t) H')))
def jjx:Sp:=fun vs H Q _=>spCutNi vs H Q
theorem jhI {H:Hp} {ds:List (Pt × Int)} {r:Nat->Addr} (c:Int->Bool):∀n,n<=ds.length->(∀i,i<ds.length->Is4 H (r i) (ds.getD i (⟨0,0,0,0⟩,0)).1)->Sps H (((List.range n).filter fun i=>c (ds.getD i (⟨0,0,0,0⟩,0)).2).map r) (((ds.take n).filter fun d=>c d.2).map (·.1))
  | 0, _, _ => by
    rw[List.take_zero];exact .nil
  | n + 1, hn, h => by
    have ih:=jhI c n (by omega) h;have eg:ds[n]?=some (ds.getD n (⟨0,0,0,0⟩,0)):=by
      rw[xab,xac (by omega)];rfl
    rw[xbB,eg,xaQ,xaz,xap,xaz,xap];refine ih.app ?_;show Sps H ((List.filter _ [n]).map r) ((List.filter _ [ds.getD n (⟨0,0,0,0⟩,0)]).map (·.1));cases cc:c (ds.getD n (⟨0,0,0,0⟩,0)).2 with
    | true =>
      rw[xbl,if_pos cc,xbl,if_pos cc];exact .cons (h n (by omega)) .nil
    | false =>
      rw[xbl,if_neg (by rw[cc];decide),xbl,if_neg (by rw[cc];decide)];exact .nil
theorem kept {acc:Addr} {es:List Addr} {tt:TT} {Z:Hp->Prop} (c:Int->Bool) (e2:H1 L=some (.lst (es.map V.ref))) (hP:Prs H1 es ds) (hl:ds.length<=100) (hacc:H1 acc=none)
    (ht:∀(r:Addr) (s:Int) (H:Hp) (R:Bool->Hp->Prop),R (c s) H->tt [some (.ref r),some (.int s)] H R)
    (hd:∀(H':Hp) (rs:List Addr),Same H1 H'->H' acc=some (.lst (rs.map V.ref))->Sps H' rs ((ds.filter fun d=>c d.2).map (·.1))->Z H'):jdf (Itl K L) 2 [] (jme K 2 (jgP (jbB 0) (jgP (jbB 1) jnG))) tt (jfc 0) acc Z H1:=by
  obtain⟨r,hr⟩:∃r:Nat->Addr,∀i,i<ds.length->H1 (ad es i)=some (.tup [.ref (r i),.int (ds.getD i (⟨0,0,0,0⟩,0)).2])/\Is4 H1 (r i) (ds.getD i (⟨0,0,0,0⟩,0)).1:=⟨fun i=>if h:i<ds.length then (hP.2 i h).choose else 0,fun i hi=>by simp only[dif_pos hi];exact (hP.2 i hi).choose_spec⟩;refine jk1 (fun i=>V.ref (r i)) (fun i=>c (ds.getD i (⟨0,0,0,0⟩,0)).2) (by rw[xaa,hP.1];omega) hacc (SqL.of e2) (fun i z v0 H3 Rt Rn hz l0 s3 ht' hn'=>?_) (fun H' s' e'=>?_)
  . have il:i < es.length:=by have:=(xae.mp hz).1; rw[xaa] at this; exact this
    rw[jbm il] at hz;cases hz;obtain⟨h1,h2⟩:=hr i (by rw[<- hP.1];exact il)
    match v0,l0 with
    | [u, v], _ =>
      refine⟨_,_,rfl,SqT.of (s3 _ _ h1),rfl,_,_,rfl,_,_,rfl,rfl,?_⟩;refine⟨⟨[some (V.ref (r i)),some (V.int (ds.getD i (⟨0,0,0,0⟩,0)).2)],rfl,rfl⟩,ht (r i) _ H3 _ ?_⟩;cases cc:c (ds.getD i (⟨0,0,0,0⟩,0)).2 with
      | true =>
        rw[if_pos rfl];exact⟨_,rfl,ht' cc H3 (Same.refl _)⟩
      | false =>
        rw[if_neg (by decide)];exact hn' cc H3 (Same.refl _)
  . rw[xaa,hP.1] at e'
    have sp:=jhI (H:=H') (r:=r) c ds.length (xaj _) fun i hi=>(hr i hi).2.keep s';rw[xbt] at sp;exact hd H' _ s' (by rw[xb8];exact e') sp
theorem jmZ (T:Tx K mg t1 t2) (F:At K mg "cut_by" jfM ["board","plane"] []) (df:jal P w K mg base CX0 2 "side_of" ["plane","spot"] [] jeb) (Dq:jal P w K mg base CX0 5 "sided_round" ["board","plane"] [] jjv) (Db:jal P w K mg base CX0 2 "formed" ["corners"] [] jhG):jal P w K mg base CX0 6 "cut_by" ["board","plane"] [] jjx:=by
 refine F.ok jgA (by walk_at "ar") (fun f cdv A outer s H vs Q E hr h=>?_);obtain⟨n,m,b,g,rs,ps,x,y,z,v,rfl,nm,hb,hc,n3,n8,lo,hg,bx,by',bz,bv,cs,h⟩:=h;have sx:Small x:=Bd.mono bx (by omega);have sy:Small y:=Bd.mono by' (by omega)
 have sz:Small z:=Bd.mono bz (by omega);have sv:Small v:=Bd.mono bv (by omega);have S:=jgA;refine⟨_,(jag (jbG (i:=2) rfl S.nd rfl rfl (N':=["corner","plane"]) (ix:=[1]) (by walk_at "cs") (jc1 (pv 0)) (fun _ _ _ _=>jas (i:=0) (show (["corner","plane"]:List Str).Nodup from by decide +kernel) rfl (Or.inl rfl)) (fun _ _ _ _=>jaW) (fun _ _ _ _=>(jae df hr.m rfl jaq (jaa (pv 1) (jaa (pv 0) jac jad) jad))))
  (jag (jaV (PW.pt (jit (jav jek (jaB (jgq rfl) rfl T.m_min boot_min (jaa (pv 2) jac jad)) jab (jaC _)) (jis (jav jek (jaB (jgp rfl) rfl T.m_max boot_max (jaa (pv 2) jac jad)) jab (jaC _)))))
  (jah (jan (ja1 (jaa jcm (jaa jcm jac jaj) jaj))))
  jaz)
  (jag (jaV (jav jml (jaB (jgq rfl) rfl T.m_min boot_min (jaa (pv 2) jac jad)) jab (jaC _))
  (jah (jan (ja1 (jaa jcm (jaa (pv 0) jac jad) jaj))))
  jaz)
  (jag (jaV (jav jmk (jaB (jgp rfl) rfl T.m_max boot_max (jaa (pv 2) jac jad)) jab (jaC _))
  (jah (jan (ja1 (jaa (pv 0) (jaa jcm jac jaj) jad))))
  jaz)
  (jag (jat (i:=3) S.nd rfl (Or.inl rfl) (jae Dq hr.m rfl jaq (jaa (pv 0) (jaa (pv 1) jac jad) jad)))
  (jag (jat (i:=4) S.nd rfl (Or.inl rfl) (jae Db hr.m rfl jaq (jaa (jeJ rfl (N':=["spot","side"]) (ix:=[]) (xs0:=["spot","side"]) (by walk_at "cs") (ja9 (pv 3)) (fun _ _ _ _=>jgY (K:=K) (n:=2) rfl rfl (jbq (jas (i:=0) (show (["spot","side"]:List Str).Nodup from by decide +kernel) rfl (Or.inl rfl)) (jbq (jas (i:=1) (show (["spot","side"]:List Str).Nodup from by decide +kernel) rfl (Or.inl rfl)) jeu))) (fun _ _ _ _=>(jfD (jav jmk (pv 1) jab (jaC _)))) (fun _ _ _ _=>(pv 0))) jac jdu)))
  (jag (jat (i:=5) S.nd rfl (Or.inl rfl) (jae Db hr.m rfl jaq (jaa (jeJ rfl (N':=["spot","side"]) (ix:=[]) (xs0:=["spot","side"]) (by walk_at "cs") (ja9 (pv 3)) (fun _ _ _ _=>jgY (K:=K) (n:=2) rfl rfl (jbq (jas (i:=0) (show (["spot","side"]:List Str).Nodup from by decide +kernel) rfl (Or.inl rfl)) (jbq (jas (i:=1) (show (["spot","side"]:List Str).Nodup from by decide +kernel) rfl (Or.inl rfl)) jeu))) (fun _ _ _ _=>(jfD (jav jml (pv 1) jab (jaC _)))) (fun _ _ _ _=>(pv 0))) jac jdu)))
  (jah (jan (ja1 (jaa (pv 4) (jaa (pv 5) jac jad) jad))))))))))),?_⟩
 have ln:=hc.len;have lm:(rs.map V.ref).length=ps.length:=by rw[xaa,ln]
 have kb:SqT K H b (rs.map V.ref):=SqT.of hb;walk_at "rf";refine⟨⟨_,kb⟩,fun acc hacc=>?_⟩;refine jlB (zs:=rs.map V.ref) (fun i y' _=>y'=.int (sgn (hgt x y z v (pt ps i)))) (fun _ _ _ _ h _=>h) (by omega) hacc kb ?_ ?_
 ·intro i r H3 R hi s3 hR;have hlt:i<ps.length:=by have:=(xae.mp hi).1;omega
  obtain⟨b1,b2⟩:=(hc.keep s3.t).get hlt;rw[b1] at hi;cases hi;walk_at "rf";exact⟨g,_,x,y,z,v,_,rfl,s3 _ _ hg,sx,sy,sz,sv,b2,hR _ _ (Same.refl _) rfl⟩
 intro ys H1 s1 e1 l1 p1;obtain⟨ms,rfl⟩:=jmQ fun i y' hy=>⟨_,p1 i y' hy⟩;rw[xaa,lm] at l1;have gm:∀{i:Nat},i<ps.length->ms[i]?=some (sgn (hgt x y z v (pt ps i))):=fun {i} hi=>by
  have e:ms[i]?=some ms[i]:=xac (by omega);have q:=p1 i (.int ms[i]) (by rw[xav,e];rfl);injection q with q
  rw[e,q]
 have mem:∀{m:Int},m∈ms->∃i,i<ps.length/\m=sgn (hgt x y z v (pt ps i)):=fun {m} hm=>by
  obtain⟨i,hi,rfl⟩:=xbe.mp hm;have z:=gm (i:=i) (by omega);rw[xac hi] at z;exact⟨i,by omega,Option.some.inj z⟩
 have mem2:∀{i:Nat},i<ps.length->sgn (hgt x y z v (pt ps i))∈ms:=fun hi=>xaD (gm hi);have ne:ms≠[]:=fun e=>by rw[e] at l1;simp at l1;omega
 have k1:SqL K H1 acc (ms.map V.int):=SqL.of e1;try walk_at "rf"
 refine⟨_,k1,ne,fun mi hmi lmi=>?_⟩;obtain⟨i1,hi1,ei1⟩:=mem hmi;rcases h with ⟨h0,q⟩ | ⟨h0,⟨j,hj,jp⟩,q⟩ | ⟨h0,⟨j,hj,jp⟩,q⟩ | ⟨⟨k,hk,kp⟩,⟨j,hj,jp⟩,a3,a9,b3,b9,q⟩
 ·have z1:mi=0:=by rw[ei1,joq (h0 i1 hi1)]
  rw[if_pos z1];refine⟨_,k1,ne,fun ma hma lma=>?_⟩;obtain⟨i2,hi2,ei2⟩:=mem hma;have z2:ma=0:=by rw[ei2,joq (h0 i2 hi2)]
  rw[if_pos z2];exact⟨by decide,fun t ht=>q t _ (s1.trans (Same.new ht _)) jak⟩
 ·have z1:0<=mi:=by rw[ei1];exact jlI (h0 i1 hi1)
  have fin:2<=sizeLine/\∀p:Addr,H1 p=none->Q (.ref p) (upd H1 p (.tup [.non,.ref b])):=⟨by decide,fun t ht=>q t _ (s1.trans (Same.new ht _)) jak⟩;have nn:∀{m:Int},m∈ms->0<=m:=fun hm=>by
   obtain⟨i,hi,e⟩:=mem hm;rw[e];exact jlI (h0 i hi)
  by_cases z:mi=0
  ·rw[if_pos z];refine⟨_,k1,ne,fun ma hma lma=>?_⟩;have m1:=lma _ (mem2 hj);rw[jop jp] at m1;rw[if_neg (by omega)];refine⟨_,k1,ne,fun m2 hm2 lm2=>?_⟩;rw[if_pos (nn hm2)];exact fin
  ·rw[if_neg z];refine⟨_,k1,ne,fun m2 hm2 lm2=>?_⟩;rw[if_pos (nn hm2)];exact fin
 ·have m1:=lmi _ (mem2 hj);rw[jkW jp] at m1;rw[if_neg (by omega)];refine⟨_,k1,ne,fun m2 hm2 lm2=>?_⟩;have m3:=lm2 _ (mem2 hj);rw[jkW jp] at m3;rw[if_neg (by omega)];refine⟨_,k1,ne,fun ma hma lma=>?_⟩;obtain⟨i2,hi2,ei2⟩:=mem hma;have z2:ma<=0:=by rw[ei2];exact joo (h0 i2 hi2)
  rw[if_pos z2];exact⟨by decide,fun t ht=>q t _ (s1.trans (Same.new ht _)) jak⟩
 ·have m1:=lmi _ (mem2 hj);rw[jkW jp] at m1;rw[if_neg (by omega)];refine⟨_,k1,ne,fun m2 hm2 lm2=>?_⟩;have m3:=lm2 _ (mem2 hj);rw[jkW jp] at m3;rw[if_neg (by omega)];refine⟨_,k1,ne,fun ma hma lma=>?_⟩;have m4:=lma _ (mem2 hk);rw[jop kp] at m4;rw[if_neg (by omega)];refine⟨n,m,b,g,rs,ps,x,y,z,v,rfl,nm,s1 _ _ hb,hc.keep s1.t,n3,n8,lo,s1 _ _ hg,bx,by',bz,bv,cs,fun L H2 es s2 e2 hP=>?_⟩;have dl:=jhb x y z v ps ps.length;refine⟨L,rfl,⟨_,SqL.of e2⟩,fun acc hacc=>kept (fun s=>decide (s<=0)) e2 hP (by omega) hacc (fun r s H R h=>?_) fun H3 r1 s3 e3 p3=>?_⟩
  ·walk_at "rf";exact h
  refine⟨acc,r1,kLo (sdd x y z v ps ps.length),rfl,⟨e3,p3⟩,a3,a9,fun t1 H4 s4 e4=>?_⟩;have S4:=s3.trans s4;refine⟨L,rfl,⟨_,SqL.of (S4 _ _ e2)⟩,fun acc2 hacc2=>kept (fun s=>decide (0<=s)) (S4 _ _ e2) (hP.keep S4) (by omega) hacc2 (fun r s H R h=>?_) fun H5 r2 s5 e5 p5=>?_⟩
  ·walk_at "rf";exact h
  refine⟨acc2,r2,kHi (sdd x y z v ps ps.length),rfl,⟨e5,p5⟩,b3,b9,fun t2 H6 s6 e6=>⟨by decide,fun t ht=>?_⟩⟩;have s7:=Same.new ht (.tup [V.ref t1,V.ref t2]);have S6:=s4.trans (s5.trans (s6.trans s7));exact q t _ t1 t2 _ _ (s1.trans (s2.trans (S4.trans (s5.trans (s6.trans s7))))) jak ((s5.trans (s6.trans s7)) _ _ e4) (((p3.rot _).turn _).keep S6.t) (s7 _ _ e6) (((p5.rot _).turn _).keep (s6.trans s7).t)
inductive RR {α:Type}:List α->List α->Prop
 | refl (l:List α):RR l l
 | rot {l m:List α} (k:Nat) (h:RR l m):RR l (m.drop k++m.take k)
 | rev {l m:List α} (h:RR l m):RR l m.reverse
theorem RR.trans {α:Type} {l m n:List α} (h:RR l m) (k:RR m n):RR l n:=by
 induction k with
 | refl=>exact h
 | rot k _ ih=>exact .rot k ih
 | rev _ ih=>exact .rev ih
theorem RR.len {α:Type} {l m:List α} (h:RR l m):m.length=l.length:=by
 induction h with
 | refl=>rfl
 | rot k _ ih=>rw[xal,xaB,xaO,<- ih];omega
 | rev _ ih=>rw[xbh,ih]
theorem RR.mem {α:Type} {l m:List α} (h:RR l m) {x:α}:x∈m↔x∈l:=by
  induction h with
  | refl=>exact Iff.rfl
  | @rot m k _ ih =>
    rw[<- ih,xay,Or.comm,<- xay,xaJ]
  | rev _ ih=>rw[List.mem_reverse,ih]
theorem jfR {α:Type} (m:List α) {k:Nat} (h:m.length<=k):m.drop k++m.take k=m:=by
 rw[xb1 h,xbr h,List.nil_append]
theorem jk2 {α:Type} (m:List α) {k:Nat} (h:k<=m.length):(m.drop k++m.take k).drop (m.length-k)++(m.drop k++m.take k).take (m.length-k)=m:=by
 have ld:(m.drop k).length=m.length-k:=xaB;have e1:(m.drop k++m.take k).drop (m.length-k)=m.take k:=by rw[<- ld,xbQ]
 have e2:(m.drop k++m.take k).take (m.length-k)=m.drop k:=by rw[<- ld,xbR]
 rw[e1,e2,xaJ]
theorem RR.symm {α:Type} {l m:List α} (h:RR l m):RR m l:=by
  induction h with
  | refl=>exact .refl _
  | @rot m k _ ih =>
    by_cases c:k<=m.length
    . have z:=RR.rot (l:=m.drop k++m.take k) (m.length-k) (.refl _)
      rw[jk2 m c] at z;exact z.trans ih
    . rw[jfR m (by omega)]
      exact ih
  | @rev m _ ih =>
    have z:=RR.rev (l:=m.reverse) (.refl _);rw[List.reverse_reverse] at z;exact z.trans ih
theorem RR.fm {α β:Type} (f:α->Option β) {l m:List α} (h:RR l m):RR (l.filterMap f) (m.filterMap f):=by
  induction h with
  | refl=>exact .refl _
  | @rot m k _ ih =>
    have z:=RR.rot ((m.take k).filterMap f).length ih;have e:m.filterMap f=(m.take k).filterMap f++(m.drop k).filterMap f:=by rw[<- List.filterMap_append,xaJ]
    rw[e,xbQ,xbR,<- List.filterMap_append] at z;exact z
  | @rev m _ ih =>
    rw[List.filterMap_reverse];exact .rev ih
theorem RR.map {α β:Type} (f:α->β) {l m:List α} (h:RR l m):RR (l.map f) (m.map f):=by
 induction h with
 | refl=>exact .refl _
 | rot k _ ih=>rw[xap,xbM,xbF];exact .rot k ih
 | rev _ ih=>rw[xbS];exact .rev ih
def nxt {α:Type}:List α->α->List (α × α)
 | [],_=>[]
 | [x],a=>[(x,a)]
 | x::y::r,a=>(x,y)::nxt (y::r) a
def prs {α:Type}:List α->List (α × α)
 | []=>[]
 | x::r=>nxt (x::r) x
theorem jfS {α:Type} (a:α):∀(l:List α) (y:α) (r:List α),nxt (l++y::r) a=nxt l y++nxt (y::r) a
  | [],y,r=>rfl
  | [x],y,r=>rfl
  | x :: x' :: l, y, r => by
    show (x,x')::nxt (x'::l++y::r) a=_;rw[jfS a (x'::l) y r];rfl
theorem jdp {α:Type} (m:List α) (k:Nat):prs (m.drop k++m.take k)=(prs m).drop k++(prs m).take k:=by
  by_cases c:k<m.length
  . match k with
    | 0=>simp
    | k + 1 =>
      match m,c with
      | x :: r, c =>
        have c:k<r.length:=by simpa using c
        have e:x::r=(x::r.take k)++r.drop k:=by rw[List.cons_append,xaJ]
        cases e2:r.drop k with
        | nil=>have:=congrArg List.length e2;rw[xaB] at this;simp at this;omega
        | cons y s =>
          rw[e2] at e;have l1:(x::r.take k).length=k+1:=by rw[xaw,xaO];omega
          have ln:∀(l:List α) (a:α),(nxt l a).length=l.length:=fun l a=>by
            induction l with
            | nil=>rfl
            | cons z t ih => cases t with
              | nil=>rfl
              | cons z' t'=>show (nxt (z'::t') a).length+1=_;rw[ih];rfl
          have d1:(x::r).drop (k+1)=y::s:=by show r.drop k=_;exact e2
          have t1:(x::r).take (k+1)=x::r.take k:=rfl;rw[d1,t1];show nxt (y::s++x::r.take k) y=_;rw[jfS];have p:prs (x::r)=nxt (x::r.take k) y++nxt (y::s) x:=by
            show nxt (x::r) x=_;rw[e,jfS]
          have l2:(nxt (x::r.take k) y).length=k+1:=by rw[ln,l1]
          rw[p,<- l2,xbQ,xbR]
  . have lp:(prs m).length=m.length:=by
      have ln:∀(l:List α) (a:α),(nxt l a).length=l.length:=fun l a=>by
        induction l with
        | nil=>rfl
        | cons z t ih => cases t with
          | nil=>rfl
          | cons z' t'=>show (nxt (z'::t') a).length+1=_;rw[ih];rfl
      cases m with
      | nil=>rfl
      | cons x r=>exact ln _ _
    rw[jfR m (by omega),jfR (prs m) (by omega)]
def TT {α:Type} (l:List (α × α)):List (α ⊕ α × α):=l.flatMap fun e=>[.inl e.1,.inr e]
def TB {α:Type} (l:List (α × α)):List (α ⊕ α × α):=l.flatMap fun e=>[.inr e,.inl e.2]
def swE {α:Type} (e:α × α):α × α:=(e.2,e.1)
def swS {α:Type}:α ⊕ α × α->α ⊕ α × α
 | .inl x=>.inl x
 | .inr e=>.inr (swE e)
theorem jlO {α:Type} (l:List (α × α)) (k:Nat):TT (l.drop k++l.take k)=(TT l).drop (2*k)++(TT l).take (2*k):=by
  have h:∀(l:List (α × α)) (k:Nat),TT (l.drop k)=(TT l).drop (2*k)/\TT (l.take k)=(TT l).take (2*k):=fun l=>by
    induction l with
    | nil=>intro k;cases k<;>exact⟨rfl,rfl⟩
    | cons e r ih =>
      intro k;cases k with
      | zero=>exact⟨rfl,rfl⟩
      | succ k =>
        obtain⟨i1,i2⟩:=ih k;refine⟨i1,?_⟩;show .inl e.1::.inr e::TT (r.take k)=_;rw[i2];rfl
  show List.flatMap _ _=_;rw[xbT];exact congr (congrArg _ (h l k).1) (h l k).2
theorem jjy {α:Type} (a:α):∀(x:α) (r:List α),TT (nxt (x::r) a)++[.inl a]=.inl x::TB (nxt (x::r) a)
  | x,[]=>rfl
  | x, y :: r => by
    show .inl x::.inr (x,y)::(TT (nxt (y::r) a)++[.inl a])=_;rw[jjy a y r];rfl
theorem jlP {α:Type} (m:List α):RR (TT (prs m)) (TB (prs m)):=by
  cases m with
  | nil=>exact .refl _
  | cons x r =>
    have h:=jjy x x r;have z:=RR.rot (l:=TT (prs (x::r))) 1 (.refl _);cases e:TT (prs (x::r)) with
    | nil =>
      have e':TT (nxt (x::r) x)=[]:=e;rw[e'] at h;have:=List.tail_eq_of_cons_eq h;show RR [] (TB (nxt (x::r) x));rw[<- this];exact .refl _
    | cons s t =>
      have e':TT (nxt (x::r) x)=s::t:=e;rw[e'] at h;have h1:=List.head_eq_of_cons_eq h;have h2:t++[.inl x]=TB (nxt (x::r) x):=List.tail_eq_of_cons_eq h;rw[e] at z;show RR (s::t) (TB (nxt (x::r) x));rw[<- h2];have e3:(s::t).drop 1++(s::t).take 1=t++[s]:=rfl;subst h1;rw[e3] at z;exact z
theorem joz {α:Type} (R:List (α × α)):TT ((R.map swE).reverse)=((TB R).map swS).reverse:=by
  induction R with
  | nil=>rfl
  | cons e r ih =>
    show TT ((swE e::r.map swE).reverse)=_;rw[xaM];show List.flatMap _ _=_;rw[xbT];show TT ((r.map swE).reverse)++[.inl e.2,.inr (swE e)]=_;rw[ih];show _=(.inr (swE e)::.inl e.2::(TB r).map swS).reverse;rw[xaM,xaM,xb3];rfl
def op {α:Type}:List α->List (α × α)
 | []=>[]
 | [_]=>[]
 | x::y::r=>(x,y)::op (y::r)
theorem jhJ {α:Type} (a:α):∀l:List α,nxt l a=op (l++[a])
  | []=>rfl
  | [x]=>rfl
  | x :: y :: r => by
    show (x,y)::nxt (y::r) a=(x,y)::op (y::r++[a]);rw[jhJ a (y::r)]
theorem jhc {α:Type} (z a:α):∀l:List α,op (l++[z]++[a])=op (l++[z])++[(z,a)]
  | []=>rfl
  | [x]=>rfl
  | x :: y :: r => by
    show (x,y)::op (y::r++[z]++[a])=(x,y)::op (y::r++[z])++[(z,a)];rw[jhc z a (y::r)];rfl
theorem jlQ {α:Type}:∀l:List α,op l.reverse=((op l).map swE).reverse
  | []=>rfl
  | [x]=>rfl
  | x :: y :: r => by
    rw[xaM,xaM,jhc,<- xaM,jlQ (y::r)];show _=((swE (x,y))::(op (y::r)).map swE).reverse;rw[xaM];rfl
theorem jjz {α:Type} (l:List α):∃k,prs l.reverse=((((prs l).drop k++(prs l).take k)).map swE).reverse:=by
  rcases List.eq_nil_or_concat l with rfl | ⟨l',z,rfl⟩
  . exact⟨0,rfl⟩
  . have e1:(l'++[z]).reverse=z::l'.reverse:=by simp
    cases l' with
    | nil=>exact⟨0,rfl⟩
    | cons x r =>
      refine⟨(op (x::r++[z])).length,?_⟩;have p:prs (x::r++[z])=op (x::r++[z])++[(z,x)]:=by
        show nxt (x::r++[z]) x=_;rw[jhJ,jhc]
      have p2:prs (z::(x::r).reverse)=op ((z::(x::r++[z])).reverse):=by
        show nxt (z::(x::r).reverse) z=_;rw[jhJ]
        congr 1
        simp
      have e0:List.concat (x::r) z=x::r++[z]:=by simp
      rw[e0,e1,p2,p,jlQ,xbQ,xbR];rfl
theorem jm0 {α:Type} {β:Type} (f:α ⊕ α × α->Option β) (hf:∀s,f (swS s)=f s) {l m:List α} (h:RR l m):RR ((TT (prs l)).filterMap f) ((TT (prs m)).filterMap f):=by
  induction h with
  | refl=>exact .refl _
  | @rot m k _ ih =>
    rw[jdp,jlO];exact ih.trans ((RR.rot (2*k) (.refl _)).fm f)
  | @rev m _ ih =>
    obtain⟨k,e⟩:=jjz m;rw[e,<- jdp,joz];have e2:(((TB (prs (m.drop k++m.take k))).map swS).reverse).filterMap f=((TB (prs (m.drop k++m.take k))).filterMap f).reverse:=by
      rw[List.filterMap_reverse,List.filterMap_map]
      congr 2
      funext s
      exact hf s
    rw[e2];refine ih.trans (.rev ?_);refine RR.trans ?_ ((jlP (m.drop k++m.take k)).fm f);rw[jdp,jlO];exact (RR.rot (2*k) (.refl _)).fm f
def Tp (c:Nat->Tri) (n:Nat):Prop:=∀i j k,i<j->j<k->k<n->0<dt (c i) (c j) (c k)
theorem jb1 (a b c:Tri):dt a b c=dt b c a:=by
 unfold dt jaY;grind
theorem jcu (a b:Tri):dt a a b=0/\dt a b b=0/\dt a b a=0:=by
 unfold dt jaY;refine⟨?_,?_,?_⟩<;>grind
def jfT (a:Int) (p:Tri) (b:Int) (q:Tri):Tri:=⟨a*p.x+b*q.x,a*p.y+b*q.y,a*p.z+b*q.z⟩
theorem jgC (x y p q:Tri) (a b:Int):dt x y (jfT a p b q)=a*dt x y p+b*dt x y q:=by
 unfold jfT dt jaY;grind
theorem jjA (x y p q:Tri) (a b:Int):dt (jfT a p b q) x y=a*dt p x y+b*dt q x y:=by
 unfold jfT dt jaY;grind
theorem jhd (x y p q:Tri) (a b:Int):dt x (jfT a p b q) y=a*dt x p y+b*dt x q y:=by
 unfold jfT dt jaY;grind
theorem dt8 (p1 q1 p2 q2 p3 q3:Tri) (a1 b1 a2 b2 a3 b3:Int):dt (jfT a1 p1 b1 q1) (jfT a2 p2 b2 q2) (jfT a3 p3 b3 q3) =
  a1*(a2*(a3*dt p1 p2 p3)+a2*(b3*dt p1 p2 q3)+(b2*(a3*dt p1 q2 p3)+b2*(b3*dt p1 q2 q3)))+b1*(a2*(a3*dt q1 p2 p3)+a2*(b3*dt q1 p2 q3)+(b2*(a3*dt q1 q2 p3)+b2*(b3*dt q1 q2 q3))):=by
 rw[jjA,jhd,jhd,jgC,jgC,jgC,jgC];grind
def cw (c:Nat->Tri) (n k:Nat):Tri:=c (k % n)
theorem cw_lt {c:Nat->Tri} {k:Nat} (h:k<n):cw c n k=c k:=by unfold cw;rw[xak h]
theorem cw_n {c:Nat->Tri} :cw c n n=c 0:=by unfold cw;rw[xa4]
theorem D_p {c:Nat->Tri} {k:Nat} (h:Tp c n) (ij:i<j) (jk:j<k) (kn:k<=n) (w:¬(i=0/\k=n)):0<dt (cw c n i) (cw c n j) (cw c n k):=by
 rw[cw_lt (show i<n by omega),cw_lt (show j<n by omega)];by_cases e:k=n
 ·subst e;rw[cw_n,<- jb1];exact h 0 i j (by omega) ij (by omega)
 ·rw[cw_lt (show k<n by omega)];exact h i j k ij jk (by omega)
theorem D_n {c:Nat->Tri} {k:Nat} (h:Tp c n) (ij:i<=j) (jk:j<=k) (kn:k<=n):0<=dt (cw c n i) (cw c n j) (cw c n k):=by
 by_cases e1:i=j
 ·subst e1;rw[(jcu _ _).1];exact xaW _
 ·by_cases e2:j=k
  ·subst e2;rw[(jcu _ _).2.1];exact xaW _
  ·by_cases w:i=0/\k=n
   ·obtain⟨rfl,rfl⟩:=w;have z:cw c k k=cw c k 0:=by unfold cw;rw[xa4,Nat.zero_mod]
    rw[z,(jcu _ _).2.2];exact xaW _
   ·exact xar (D_p h (by omega) (by omega) kn w)
theorem jcS {b c d:Int} (ha:0<=a) (hb:0<=b) (hc:0<=c) (h:a=0\/b=0\/c=0\/0<=d):0<=a*(b*(c*d)):=by
 rcases h with rfl | rfl | rfl | h
 ·rw[xaK];exact xaW _
 ·rw[xaK,xaq];exact xaW _
 ·rw[xaK,xaq,xaq];exact xaW _
 ·exact xag ha (xag hb (xag hc h))
theorem jgD {b c d:Int} (ha:0<a) (hb:0<b) (hc:0<c) (h:0<d):0<a*(b*(c*d)):=xaf ha (xaf hb (xaf hc h))
structure On (c:Nat->Tri) (n:Nat) (i:Nat) (e:Bool) (v:Tri):Prop where
 lt:i<n
 is:∃a b:Int,v=jfT a (cw c n i) b (cw c n (i+1))/\0<a/\(e=false->b=0)/\(e=true->0<b)
theorem On.tri {c:Nat->Tri} {k:Nat} {e f g:Bool} {u v w:Tri} (n3:3<=n) (h:Tp c n) (hu:On c n i e u) (hv:On c n j f v) (hw:On c n k g w)
  (ij:i<j\/(i=j/\e=false/\f=true)) (jk:j<k\/(j=k/\f=false/\g=true)) (b1:¬(i=j/\k=j+1/\e=false/\f=true/\g=false)) (b2:¬(i=0/\j=n-1/\k=n-1/\e=false/\f=false/\g=true)):0<dt u v w:=by
 obtain⟨hi,x1,y1,rfl,p1,z1,s1⟩:=hu;obtain⟨hj,x2,y2,rfl,p2,z2,s2⟩:=hv;obtain⟨hk,x3,y3,rfl,p3,z3,s3⟩:=hw;have q1:0<=y1:=by cases e with | false=>rw[z1 rfl];exact xaW _ | true=>have:=s1 rfl;omega
 have q2:0<=y2:=by cases f with | false=>rw[z2 rfl];exact xaW _ | true=>have:=s2 rfl;omega
 have q3:0<=y3:=by cases g with | false=>rw[z3 rfl];exact xaW _ | true=>have:=s3 rfl;omega
 have N:∀{a b d:Nat},a<=b->b<=d->d<=n->0<=dt (cw c n a) (cw c n b) (cw c n d):=fun h1 h2 h3=>D_n h h1 h2 h3;have ij':i<j\/y1=0:=by
  rcases ij with r | ⟨r1,r2,r3⟩
  ·exact .inl r
  ·exact .inr (z1 r2)
 have ij0:i<=j:=ij.elim xa2 fun r=>Nat.le_of_eq r.1;have jk':j<k\/y2=0:=by
  rcases jk with r | ⟨r1,r2,r3⟩
  ·exact .inl r
  ·exact .inr (z2 r2)
 have jk0:j<=k:=jk.elim xa2 fun r=>Nat.le_of_eq r.1;rw[dt8];have t1:0<=x1*(x2*(x3*dt (cw c n i) (cw c n j) (cw c n k))):=jcS (by omega) (by omega) (by omega) (.inr (.inr (.inr (N ij0 jk0 (by omega)))));have t2:0<=x1*(x2*(y3*dt (cw c n i) (cw c n j) (cw c n (k+1)))):=jcS (by omega) (by omega) q3 (.inr (.inr (.inr (N ij0 (by omega) (by omega)))));have t3:0<=x1*(y2*(x3*dt (cw c n i) (cw c n (j+1)) (cw c n k))):=jcS (by omega) q2 (by omega) (by
  rcases jk' with r | r
  ·exact .inr (.inr (.inr (N (by omega) (by omega) (by omega))))
  ·exact .inr (.inl r))
 have t4:0<=x1*(y2*(y3*dt (cw c n i) (cw c n (j+1)) (cw c n (k+1)))):=jcS (by omega) q2 q3 (.inr (.inr (.inr (N (by omega) (by omega) (by omega)))));have t5:0<=y1*(x2*(x3*dt (cw c n (i+1)) (cw c n j) (cw c n k))):=jcS q1 (by omega) (by omega) (by
  rcases ij' with r | r
  ·exact .inr (.inr (.inr (N (by omega) (by omega) (by omega))))
  ·exact .inl r)
 have t6:0<=y1*(x2*(y3*dt (cw c n (i+1)) (cw c n j) (cw c n (k+1)))):=jcS q1 (by omega) q3 (by
  rcases ij' with r | r
  ·exact .inr (.inr (.inr (N (by omega) (by omega) (by omega))))
  ·exact .inl r)
 have t7:0<=y1*(y2*(x3*dt (cw c n (i+1)) (cw c n (j+1)) (cw c n k))):=jcS q1 q2 (by omega) (by
  rcases jk' with r | r
  ·exact .inr (.inr (.inr (N (by omega) (by omega) (by omega))))
  ·exact .inr (.inl r))
 have t8:0<=y1*(y2*(y3*dt (cw c n (i+1)) (cw c n (j+1)) (cw c n (k+1)))):=jcS q1 q2 q3 (.inr (.inr (.inr (N (by omega) (by omega) (by omega)))));have P:∀{a b d:Nat},a<b->b<d->d<=n->¬(a=0/\d=n)->0<dt (cw c n a) (cw c n b) (cw c n d):=fun h1 h2 h3 h4=>D_p h h1 h2 h3 h4;have S:0<x1*(x2*(x3*dt (cw c n i) (cw c n j) (cw c n k)))\/0<x1*(x2*(y3*dt (cw c n i) (cw c n j) (cw c n (k+1))))\/0<x1*(y2*(x3*dt (cw c n i) (cw c n (j+1)) (cw c n k)))\/0<x1*(y2*(y3*dt (cw c n i) (cw c n (j+1)) (cw c n (k+1))))\/0<y1*(x2*(y3*dt (cw c n (i+1)) (cw c n j) (cw c n (k+1)))):=by
  by_cases c1:i<j
  ·by_cases c2:j<k
   ·exact .inl (jgD p1 p2 p3 (P c1 c2 (by omega) (by omega)))
   ·obtain⟨r1,r2,r3⟩:=jk.resolve_left c2;by_cases c3:i=0/\k+1=n
    ·cases e with
     | false=>exact absurd ⟨c3.1,by omega,by omega,rfl,r2,r3⟩ b2
     | true=>exact .inr (.inr (.inr (.inr (jgD (s1 rfl) p2 (s3 r3) (P (by omega) (by omega) (by omega) (by omega))))))
    ·exact .inr (.inl (jgD p1 p2 (s3 r3) (P c1 (by omega) (by omega) c3)))
  ·obtain⟨r1,r2,r3⟩:=ij.resolve_left c1;have c2:j<k:=by
    rcases jk with r | ⟨_,r,_⟩
    ·exact r
    ·rw[r3] at r;cases r
   by_cases c4:j+1<k
   ·exact .inr (.inr (.inl (jgD p1 (s2 r3) p3 (P (by omega) c4 (by omega) (by omega)))))
   ·cases g with
    | false=>exact absurd ⟨r1,by omega,r2,r3,rfl⟩ b1
    | true=>exact .inr (.inr (.inr (.inl (jgD p1 (s2 r3) (s3 rfl) (P (by omega) (by omega) (by omega) (by omega))))))
 rw[xci,xci,xci,xci,xci,xci];omega
def kp (H:Nat->Int) (n p:Nat):Bool:=if p % 2=0 then decide (0<=H (p / 2)) else decide (H (p / 2)*H ((p / 2+1) % n)<0)
def xpt (c:Nat->Tri) (H:Nat->Int) (n i:Nat):Tri:=jfT (ab (H ((i+1) % n))) (c i) (ab (H i)) (c ((i+1) % n))
def el (c:Nat->Tri) (H:Nat->Int) (n p:Nat):Tri:=if p % 2=0 then c (p / 2) else xpt c H n (p / 2)
def clp (H:Nat->Int) (n:Nat):List Nat:=(List.range (2*n)).filter (kp H n)
def clip (c:Nat->Tri) (H:Nat->Int) (n i:Nat):Tri:=el c H n ((clp H n).getD i 0)
theorem jk3 (p q:Tri):p=jfT 1 p 0 q:=by
 unfold jfT;simp
theorem jdb {b:Int} (h:a*b<0):a≠0/\b≠0/\¬(0<=a/\0<=b)/\¬(a<=0/\b<=0):=by
 refine⟨fun e=>?_,fun e=>?_,fun e=>?_,fun e=>?_⟩
 ·rw[e,xaK] at h;omega
 ·rw[e,xaq] at h;omega
 ·have:=xag e.1 e.2;omega
 ·have:=xbW e.1 e.2;omega
theorem jby {n:Int} (h:n≠0):0<ab n:=by
 unfold ab;split<;>omega
theorem jm1 {c:Nat->Tri} {H:Nat->Int} {p:Nat} (hp:p<2*n) (h:p % 2=0\/H (p / 2)*H ((p / 2+1) % n)<0):On c n (p / 2) (decide (p % 2=1)) (el c H n p):=by
 have hl:p / 2<n:=by omega
 refine⟨hl,?_⟩;unfold el;by_cases e:p % 2=0
 ·rw[if_pos e,decide_eq_false (by omega),cw_lt hl];exact⟨1,0,jk3 _ _,by decide,(fun _=>rfl),(fun h=>by cases h)⟩
 ·rw[if_neg e,decide_eq_true (by omega),cw_lt hl];obtain⟨h1,h2,_,_⟩:=jdb (h.resolve_left e);exact⟨_,_,rfl,jby h2,(fun h=>by cases h),fun _=>jby h1⟩
theorem clp_mem {H:Nat->Int} {p:Nat}:p∈clp H n↔p<2*n/\kp H n p=true:=by
 unfold clp;rw[xbb,xaU]
theorem jfs (H:Nat->Int) (n:Nat):(clp H n).Pairwise (· < ·):=List.pairwise_lt_range.sublist List.filter_sublist
theorem jfU {l:List Nat} (h:i<l.length):l.getD i 0∈l:=by
 rw[xab,xac h];exact xa5 h
theorem jjB {l:List Nat} (hs:l.Pairwise (· < ·)) (ij:i<j) (hj:j<l.length):l.getD i 0<l.getD j 0:=by
 have z:=List.pairwise_iff_getElem.mp hs i j (by omega) hj ij;rw[xab,xab,xac (by omega),xac hj];exact z
theorem jm2 {H:Nat->Int} {p:Nat} (h:kp H n p=true):(p % 2=0/\0<=H (p / 2))\/(p % 2=1/\H (p / 2)*H ((p / 2+1) % n)<0):=by
 unfold kp at h;by_cases e:p % 2=0
 ·rw[if_pos e] at h;exact .inl ⟨e,of_decide_eq_true h⟩
 ·rw[if_neg e] at h;exact .inr ⟨by omega,of_decide_eq_true h⟩
theorem jm3 {c:Nat->Tri} {H:Nat->Int} (n3:3<=n) (h:Tp c n):Tp (clip c H n) (clp H n).length:=by
 intro i j k ij jk kn;have m1:=clp_mem.mp (jfU (l:=clp H n) (i:=i) (by omega));have m2:=clp_mem.mp (jfU (l:=clp H n) (i:=j) (by omega));have m3:=clp_mem.mp (jfU (l:=clp H n) (i:=k) kn);have o1:=jjB (jfs H n) ij (by omega);have o2:=jjB (jfs H n) jk kn;unfold clip;generalize (clp H n).getD i 0=p at *
 generalize (clp H n).getD j 0=q at *
 generalize (clp H n).getD k 0=r at *
 have kp1:=jm2 m1.2;have kp2:=jm2 m2.2;have kp3:=jm2 m3.2;have on1:=jm1 (c:=c) (H:=H) m1.1 (by rcases kp1 with r | r;exact .inl r.1;exact .inr r.2);have on2:=jm1 (c:=c) (H:=H) m2.1 (by rcases kp2 with r | r;exact .inl r.1;exact .inr r.2);have on3:=jm1 (c:=c) (H:=H) m3.1 (by rcases kp3 with r | r;exact .inl r.1;exact .inr r.2);refine On.tri n3 h on1 on2 on3 ?_ ?_ ?_ ?_
 ·by_cases e:p / 2<q / 2
  ·exact .inl e
  ·exact .inr ⟨by omega,decide_eq_false (by omega),decide_eq_true (by omega)⟩
 ·by_cases e:q / 2<r / 2
  ·exact .inl e
  ·exact .inr ⟨by omega,decide_eq_false (by omega),decide_eq_true (by omega)⟩
 ·rintro⟨e1,e2,e3,e4,e5⟩;have f3:=of_decide_eq_false e3;have f4:=of_decide_eq_true e4;have f5:=of_decide_eq_false e5;rcases kp1 with a1 | a1
  ·rcases kp2 with a2 | a2
   ·omega
   ·rcases kp3 with a3 | a3
    ·have z:=(jdb a2.2).2.2.1;have em:(q / 2+1) % n=r / 2:=by rw[<- e2];exact xak (by omega)
     rw[em,<- e1] at z;exact z ⟨a1.2,a3.2⟩
    ·omega
  ·omega
 ·rintro⟨e1,e2,e3,e4,e5,e6⟩;have f4:=of_decide_eq_false e4;have f5:=of_decide_eq_false e5;have f6:=of_decide_eq_true e6;rcases kp1 with a1 | a1
  ·rcases kp2 with a2 | a2
   ·rcases kp3 with a3 | a3
    ·omega
    ·have z:=(jdb a3.2).2.2.1;have em:(r / 2+1) % n=0:=by rw[e3,show n-1+1=n by omega,xa4]
     rw[em,e3] at z;rw[e1] at a1;rw[e2] at a2;exact z ⟨a2.2,a1.2⟩
   ·omega
  ·omega
theorem jjC:∀{l:List Nat} {a b c:Nat},a∈l->b∈l->c∈l->a≠b->b≠c->a≠c->3<=l.length
  | [],_,_,_,h,_,_,_,_,_=>nomatch h
  | [x], a, b, c, h1, h2, h3, n1, n2, n3 => by
    simp at h1 h2;omega
  | [x, y], a, b, c, h1, h2, h3, n1, n2, n3 => by
    simp at h1 h2 h3;rcases h1 with rfl | rfl<;>rcases h2 with rfl | rfl<;>rcases h3 with rfl | rfl<;>first | exact absurd rfl n1 | exact absurd rfl n2 | exact absurd rfl n3
  | x :: y :: z :: l, _, _, _, _, _, _, _, _, _ => by
    simp
theorem jk4 {H:Nat->Int} (n3:3<=n) (hi:i<n) (hp:0<H i):3<=(clp H n).length:=by
 have md:∀a,a % n<n:=fun a=>xaA _ (by omega);have ev:∀{k},k<n->0<=H k->2*k∈clp H n:=fun {k} hk h=>clp_mem.mpr ⟨by omega,by
  unfold kp;rw[if_pos (by omega),show 2*k / 2=k by omega];exact decide_eq_true h⟩
 have od:∀{k},k<n->H k*H ((k+1) % n)<0->2*k+1∈clp H n:=fun {k} hk h=>clp_mem.mpr ⟨by omega,by
  unfold kp;rw[if_neg (by omega),show (2*k+1) / 2=k by omega];exact decide_eq_true h⟩
 have A:=ev hi (by omega);have e1:(i+1) % n=if i+1=n then 0 else i+1:=by
  split
  ·rename_i e
   rw[e,xa4]
  ·exact xak (by omega)
 have e2:(i+(n-1)) % n=if i=0 then n-1 else i-1:=by
  split
  ·rename_i e
   rw[e,xbw];exact xak (by omega)
  ·rw[show i+(n-1)=i-1+n by omega,xbp];exact xak (by omega)
 have e3:((i+(n-1)) % n+1) % n=i:=by
  rw[e2];split
  ·rename_i e
   rw[show n-1+1=n by omega,xa4,e]
  ·rw[show i-1+1=i by omega];exact xak hi
 have B:∃p,p∈clp H n/\(p=2*((i+1) % n)\/p=2*i+1):=by
  by_cases c:0<=H ((i+1) % n)
  ·exact⟨_,ev (md _) c,.inl rfl⟩
  ·exact⟨_,od hi (xan hp (by omega)),.inr rfl⟩
 have C:∃p,p∈clp H n/\(p=2*((i+(n-1)) % n)\/p=2*((i+(n-1)) % n)+1):=by
  by_cases c:0<=H ((i+(n-1)) % n)
  ·exact⟨_,ev (md _) c,.inl rfl⟩
  ·exact⟨_,od (md _) (by rw[e3];exact xaE (by omega) hp),.inr rfl⟩
 obtain⟨p,hp1,hp2⟩:=B;obtain⟨q,hq1,hq2⟩:=C;rw[e1] at hp2;rw[e2] at hq2;refine jjC A hp1 hq1 ?_ ?_ ?_<;>(split at hp2<;>split at hq2<;>omega)
def jax (A B C:Int) (v:Tri):Int:=A*v.x+B*v.y+C*v.z
theorem jhe (A B C:Int) (a b c d:Tri):dt b c d*jax A B C a+dt d a b*jax A B C c=dt c d a*jax A B C b+dt a b c*jax A B C d:=by
 unfold dt jaY jax;grind
theorem joA {c:Nat->Tri} {k l:Nat} {C:Int} (h:Tp c n) (ij:i<j) (jk:j<k) (kl:k<l) (ln:l<n) :
  ¬(0<jax A B C (c i)/\jax A B C (c j)<0/\0<jax A B C (c k)/\jax A B C (c l)<0)/\¬(jax A B C (c i)<0/\0<jax A B C (c j)/\jax A B C (c k)<0/\0<jax A B C (c l)):=by
 have e:=jhe A B C (c i) (c j) (c k) (c l);have p1:=h j k l jk kl ln;have p2:0<dt (c l) (c i) (c j):=by rw[jb1];exact h i j l ij (by omega) ln
 have p3:0<dt (c k) (c l) (c i):=by rw[<- jb1];exact h i k l (by omega) kl ln
 have p4:=h i j k ij jk (by omega);constructor
 ·rintro⟨h1,h2,h3,h4⟩;have q1:=xaf p1 h1;have q2:=xaf p2 h3;have q3:=xan p3 h2;have q4:=xan p4 h4;omega
 ·rintro⟨h1,h2,h3,h4⟩;have q1:=xan p1 h1;have q2:=xan p2 h3;have q3:=xaf p3 h2;have q4:=xaf p4 h4;omega
theorem opp_iff {b:Int}:a*b<0↔(0<a/\b<0)\/(a<0/\0<b):=by
 constructor
 ·intro h;obtain⟨h1,h2,h3,h4⟩:=jdb h;omega
 ·rintro (⟨h1,h2⟩ | ⟨h1,h2⟩)
  ·exact xan h1 h2
  ·exact xaE h1 h2
theorem jjD {c:Nat->Tri} {k:Nat} {C:Int} (h:Tp c n) (ij:i<j) (jk:j<k) (kn:k<n)
  (h1:jax A B C (c i)*jax A B C (c ((i+1) % n))<0) (h2:jax A B C (c j)*jax A B C (c ((j+1) % n))<0) (h3:jax A B C (c k)*jax A B C (c ((k+1) % n))<0):False:=by
 have e1:(i+1) % n=i+1:=xak (by omega);have e2:(j+1) % n=j+1:=xak (by omega);rw[e1] at h1;rw[e2] at h2;have N:∀{a b d e:Nat},a<b->b<d->d<e->e<n->¬(0<jax A B C (c a)/\jax A B C (c b)<0/\0<jax A B C (c d)/\jax A B C (c e)<0)/\¬(jax A B C (c a)<0/\0<jax A B C (c b)/\jax A B C (c d)<0/\0<jax A B C (c e)):=fun q1 q2 q3 q4=>joA h q1 q2 q3 q4;have d1:i+1=j\/i+1<j:=by omega
 have d2:j+1=k\/j+1<k:=by omega
 by_cases w:k+1<n
 ·rw[xak w] at h3;rcases opp_iff.mp h1 with a1 | a1<;>rcases opp_iff.mp h2 with a2 | a2<;>rcases opp_iff.mp h3 with a3 | a3
  all_goals first
   | (have z:=N (a:=i) (b:=i+1) (d:=j) (e:=j+1) (by omega) (by rcases d1 with r | r;(subst r;omega);exact r) (by omega) (by omega);(first | exact z.1 ⟨a1.1,a1.2,a2.1,a2.2⟩ | exact z.2 ⟨a1.1,a1.2,a2.1,a2.2⟩))
   | (have z:=N (a:=j) (b:=j+1) (d:=k) (e:=k+1) (by omega) (by rcases d2 with r | r;(subst r;omega);exact r) (by omega) (by omega);(first | exact z.1 ⟨a2.1,a2.2,a3.1,a3.2⟩ | exact z.2 ⟨a2.1,a2.2,a3.1,a3.2⟩))
   | (have z:=N (a:=i) (b:=i+1) (d:=k) (e:=k+1) (by omega) (by omega) (by omega) (by omega);(first | exact z.1 ⟨a1.1,a1.2,a3.1,a3.2⟩ | exact z.2 ⟨a1.1,a1.2,a3.1,a3.2⟩))
 ·have ek:k=n-1:=by omega
  have e3:(k+1) % n=0:=by rw[show k+1=n by omega,xa4]
  rw[e3] at h3;rcases opp_iff.mp h1 with a1 | a1<;>rcases opp_iff.mp h2 with a2 | a2<;>rcases opp_iff.mp h3 with a3 | a3
  all_goals first
   | (have z:=N (a:=i) (b:=i+1) (d:=j) (e:=j+1) (by omega) (by rcases d1 with r | r;(subst r;omega);exact r) (by omega) (by omega);(first | exact z.1 ⟨a1.1,a1.2,a2.1,a2.2⟩ | exact z.2 ⟨a1.1,a1.2,a2.1,a2.2⟩))
   | (have z:=N (a:=0) (b:=j) (d:=j+1) (e:=k) (by omega) (by omega) (by rcases d2 with r | r;(subst r;omega);exact r) (by omega);(first | exact z.1 ⟨a3.2,a2.1,a2.2,a3.1⟩ | exact z.2 ⟨a3.2,a2.1,a2.2,a3.1⟩))
   | (have z:=N (a:=0) (b:=i) (d:=i+1) (e:=k) (by rcases Nat.eq_zero_or_pos i with r | r;(subst r;omega);exact r) (by omega) (by omega) (by omega);(first | exact z.1 ⟨a3.2,a1.1,a1.2,a3.1⟩ | exact z.2 ⟨a3.2,a1.1,a1.2,a3.1⟩))
theorem jft (P:Nat->Bool):∀m,((List.range (2*m)).filter P).length=((List.range m).filter fun i=>P (2*i)).length+((List.range m).filter fun i=>P (2*i+1)).length
  | 0=>rfl
  | m + 1 => by
    have ih:=jft P m;rw[show 2*(m+1)=2*m+1+1 by omega,xaQ,xaQ,xaQ (n:=m),xaz,xaz,xaz,xaz,xal,xal,xal,xal,ih];have s:∀(Q:Nat->Bool) (x:Nat),([x].filter Q).length=if Q x=true then 1 else 0:=fun Q x=>by
      cases h:Q x with
      | true=>rw[xaT h,if_pos rfl];rfl
      | false=>rw[xa6 (by rw[h];decide),if_neg (by decide)];rfl
    rw[s,s,s (fun i=>P (2*i)),s (fun i=>P (2*i+1))];omega
theorem jk5 {l:List Nat} (hs:l.Pairwise (· < ·)) (h:∀a b c,a∈l->b∈l->c∈l->a<b->b<c->False):l.length<=2:=by
  match l,hs,h with
  | [],_,_=>exact xaY _
  | [_],_,_=>show 1<=2;decide
  | [_,_],_,_=>show 2<=2;decide
  | x :: y :: z :: l, hs, h =>
    have q1:=List.pairwise_cons.mp hs;have q2:=List.pairwise_cons.mp q1.2;exact (h x y z (by simp) (by simp) (by simp) (q1.1 y (by simp)) (q2.1 z (by simp))).elim
theorem jjE {P:Nat->Bool} (hi:i<n) (h:P i=false):((List.range n).filter P).length<n:=by
 have z:((List.range n).filter P).length<(List.range n).length:=by
  refine List.length_filter_lt_length_iff_exists.mpr ⟨i,xaU.mpr hi,?_⟩;rw[h];decide
 rw[xba] at z;exact z
theorem jjF {c:Nat->Tri} {C:Int} (h:Tp c n):(clp (fun i=>jax A B C (c i)) n).length<=n+1:=by
 unfold clp;rw[jft];have ev:∀i,kp (fun i=>jax A B C (c i)) n (2*i)=decide (0<=jax A B C (c i)):=fun i=>by
  unfold kp;rw[if_pos (by omega),show 2*i / 2=i by omega]
 have od:∀i,kp (fun i=>jax A B C (c i)) n (2*i+1)=decide (jax A B C (c i)*jax A B C (c ((i+1) % n))<0):=fun i=>by
  unfold kp;rw[if_neg (by omega),show (2*i+1) / 2=i by omega]
 have l1:((List.range n).filter fun i=>kp (fun i=>jax A B C (c i)) n (2*i)).length<=n:=by
  have z:=xb6 (fun i=>kp (fun i=>jax A B C (c i)) n (2*i)) (List.range n);rw[xba] at z;exact z
 have l2:((List.range n).filter fun i=>kp (fun i=>jax A B C (c i)) n (2*i+1)).length<=2:=by
  refine jk5 (List.pairwise_lt_range.sublist List.filter_sublist) fun a b d ha hb hd ab bd=>?_;have ha:=xbb.mp ha;have hb:=xbb.mp hb;have hd:=xbb.mp hd;rw[od] at ha hb hd;exact jjD h ab bd (xaU.mp hd.1) (of_decide_eq_true ha.2) (of_decide_eq_true hb.2) (of_decide_eq_true hd.2)
 by_cases e:((List.range n).filter fun i=>kp (fun i=>jax A B C (c i)) n (2*i+1))=[]
 ·rw[e];show _+0<=n+1;omega
 ·obtain⟨x,hx⟩:=List.exists_mem_of_ne_nil _ e;have hx:=xbb.mp hx;rw[od] at hx;have hn:=xaU.mp hx.1;have z:=opp_iff.mp (of_decide_eq_true hx.2);have l3:((List.range n).filter fun i=>kp (fun i=>jax A B C (c i)) n (2*i)).length<n:=by
   rcases z with r | r
   ·exact jjE (xaA (x+1) (by omega)) (by rw[ev];exact decide_eq_false (by omega))
   ·exact jjE hn (by rw[ev];exact decide_eq_false (by omega))
  omega
def rs:List Rat->Rat
 | []=>0
 | x::l=>x+rs l
theorem jlR:∀l m:List Rat,rs (l++m)=rs l+rs m
  | [],m=>by show rs m=0+rs m;grind
  | x :: l, m => by
    show x+rs (l++m)=x+rs l+rs m;rw[jlR l m];grind
theorem jjG {α:Type} (a:α):∀l:List α,(nxt l a).length=l.length
  | []=>rfl
  | [_]=>rfl
  | x :: y :: r => by
    show (nxt (y::r) a).length+1=_;rw[jjG a (y::r)];rfl
theorem jjH {α:Type} (d a:α):∀(l:List α) (i:Nat),i<l.length->(nxt l a)[i]?=some (l.getD i d,if i+1<l.length then l.getD (i+1) d else a)
  | [],i,h=>by simp at h
  | [x], i, h => by
    have e:i=0:=by simpa using h
    subst e;rfl
  | x :: y :: r, 0, h => by
    show some (x,y)=_;rw[if_pos (by simp)];rfl
  | x :: y :: r, i + 1, h => by
    have h':i<(y::r).length:=by simpa using h
    show (nxt (y::r) a)[i]?=_;rw[jjH d a (y::r) i h'];have e:((i+1+1<(x::y::r).length)↔(i+1<(y::r).length)):=by simp
    simp only[e];rfl
theorem jd3 {α:Type} (l:List α):(prs l).length=l.length:=by
 cases l with
 | nil=>rfl
 | cons x r=>exact jjG x (x::r)
theorem jcT {α:Type} (d:α) {l:List α} (h:i<l.length):(prs l)[i]?=some (l.getD i d,l.getD ((i+1) % l.length) d):=by
  cases l with
  | nil=>simp at h
  | cons x r =>
    show (nxt (x::r) x)[i]?=_;rw[jjH d x (x::r) i h];by_cases c:i+1<(x::r).length
    . rw[if_pos c,xak c]
    . rw[if_neg c,show i+1=(x::r).length by omega,xa4]
      rfl
theorem jlS {α:Type} (d:α) (l:List α):prs l=(List.range l.length).map fun i=>(l.getD i d,l.getD ((i+1) % l.length) d):=by
 refine List.ext_getElem? fun i=>?_;by_cases c:i<l.length
 ·rw[jcT d c,xav,List.getElem?_range c];rfl
 ·rw[xbJ (by rw[jd3];omega),xbJ (by rw[xaa,xba];omega)]
theorem jlT {α:Type} (d:α) (l:List α):((List.range l.length).map fun i=>(l.getD ((i+(l.length-1)) % l.length) d,l.getD i d))=(prs l).drop (l.length-1)++(prs l).take (l.length-1):=by
  rw[<- jdp,jlS d];have hl:(l.drop (l.length-1)++l.take (l.length-1)).length=l.length:=by
    rw[xal,xaB,xaO];omega
  rw[hl];refine xch fun i hi=>?_;have hi:=xaU.mp hi;have G:∀j,j<l.length->(l.drop (l.length-1)++l.take (l.length-1)).getD j d=l.getD ((j+(l.length-1)) % l.length) d:=fun j hj=>by
    rw[xab,xab]
    congr 1
    cases j with
    | zero =>
      rw[xaV (by rw[xaB];omega),List.getElem?_drop,xbw,xak (by omega)];rfl
    | succ j =>
      rw[xaH (by rw[xaB];omega),xaB,List.getElem?_take,show j+1-(l.length-(l.length-1))=j by omega,if_pos (by omega),show j+1+(l.length-1)=j+l.length by omega,xbp,xak (by omega)]
  rw[G i hi,G _ (xaA _ (by omega))]
  congr 1
  by_cases c:i+1<l.length
  . rw[xak c,show i+1+(l.length-1)=i+l.length by omega,xbp,xak hi]
  . rw[show i+1=l.length by omega,xa4,xbw,xak (by omega),show i=l.length-1 by omega]
theorem jjI {α β:Type} (f:α->β) (a:α):∀l:List α,nxt (l.map f) (f a)=(nxt l a).map fun e=>(f e.1,f e.2)
  | []=>rfl
  | [_]=>rfl
  | x :: y :: r => by
    show (f x,f y)::nxt ((y::r).map f) (f a)=_;rw[jjI f a (y::r)];rfl
theorem jm4 {α β:Type} (f:α->β) (l:List α):prs (l.map f)=(prs l).map fun e=>(f e.1,f e.2):=by
 cases l with
 | nil=>rfl
 | cons x r=>exact jjI f x (x::r)
theorem qnz {i:Int} (h:i≠0):(i:Rat)≠0:=fun e=>h (by exact_mod_cast e)
def t0:Tri:=⟨0,0,0⟩
def tr (vs:List Tri) (i:Nat):Tri:=vs.getD i t0
def TpL (vs:List Tri):Prop:=Tp (tr vs) vs.length
theorem jk6 {c d:Nat->Tri} (h:Tp c n) (e:∀i,i<n->d i=c i):Tp d n:=fun i j k ij jk kn=>by
 rw[e i (by omega),e j (by omega),e k kn];exact h i j k ij jk kn
def Prp (u v:Tri):Prop:=∃k m:Int,0<k/\0<m/\k*u.x=m*v.x/\k*u.y=m*v.y/\k*u.z=m*v.z
theorem Prp.refl (u:Tri):Prp u u:=⟨1,1,by decide,by decide,rfl,rfl,rfl⟩
theorem Prp.symm {u v:Tri} (h:Prp u v):Prp v u:=by
 obtain⟨k,m,h1,h2,e1,e2,e3⟩:=h;exact⟨m,k,h2,h1,e1.symm,e2.symm,e3.symm⟩
theorem Prp.z {u v:Tri} (h:Prp u v) (hu:1<=u.z):1<=v.z:=by
 obtain⟨k,m,h1,h2,e1,e2,e3⟩:=h;have:=xaf h1 (show 0<u.z by omega);rw[e3] at this;have:=xbV this (by omega);omega
theorem joB {a b c a' b' c':Tri} (ha:Prp a a') (hb:Prp b b') (hc:Prp c c') (h:0<dt a b c):0<dt a' b' c':=by
 obtain⟨k1,m1,p1,q1,x1,y1,z1⟩:=ha;obtain⟨k2,m2,p2,q2,x2,y2,z2⟩:=hb;obtain⟨k3,m3,p3,q3,x3,y3,z3⟩:=hc;have e:k1*k2*k3*dt a b c=m1*m2*m3*dt a' b' c':=by
  have s:∀(g1 g2 g3:Int) (u v w:Tri),g1*g2*g3*dt u v w=dt ⟨g1*u.x,g1*u.y,g1*u.z⟩ ⟨g2*v.x,g2*v.y,g2*v.z⟩ ⟨g3*w.x,g3*w.y,g3*w.z⟩:=fun g1 g2 g3 u v w=>by
   unfold dt jaY;grind
  rw[s,s,x1,y1,z1,x2,y2,z2,x3,y3,z3]
 have h1:=xaf (xaf (xaf p1 p2) p3) h;rw[e] at h1;exact xbV h1 (xaf (xaf q1 q2) q3)
inductive PL:List Tri->List Tri->Prop
 | nil:PL [] []
 | cons {u v:Tri} {us vs:List Tri} (h:Prp u v) (t:PL us vs):PL (u::us) (v::vs)
theorem PL.refl:∀l:List Tri,PL l l
 | []=>.nil
 | x::l=>.cons (Prp.refl x) (PL.refl l)
variable {us vs ws:List Tri}
theorem PL.len (h:PL us vs):us.length=vs.length:=by
 induction h with
 | nil=>rfl
 | cons _ _ ih=>rw[xaw,xaw,ih]
theorem PL.app {us' vs':List Tri} (h:PL us vs) (k:PL us' vs'):PL (us++us') (vs++vs'):=by
 induction h with
 | nil=>exact k
 | cons h _ ih=>exact .cons h ih
theorem PL.get (h:PL us vs):∀{i:Nat},i<us.length->Prp (tr us i) (tr vs i):=by
  induction h with
  | nil=>intro i hi;simp at hi
  | cons h _ ih =>
    intro i hi;cases i with
    | zero=>exact h
    | succ i=>exact ih (by simpa using hi)
theorem PL.tp (h:PL us vs) (t:TpL us):TpL vs:=fun i j k ij jk kn=>by
 have l:=h.len;exact joB (h.get (by omega)) (h.get (by omega)) (h.get (by omega)) (t i j k ij jk (by omega))
theorem PL.fm {α:Type} {f g:α->List Tri}:∀{l:List α},(∀a∈l,PL (f a) (g a))->PL (l.flatMap f) (l.flatMap g)
  | [],_=>.nil
  | a :: l, h => by
    rw[xbi,xbi];exact (h a (by simp)).app (PL.fm fun b hb=>h b (xad _ hb))
def xp (h:Tri->Int) (a b:Tri):Tri:=jfT (ab (h b)) a (ab (h a)) b
def jhf (v:Tri):Tri:=⟨v.x / gl [v.x,v.y,v.z],v.y / gl [v.x,v.y,v.z],v.z / gl [v.x,v.y,v.z]⟩
theorem jk7 {v:Tri} (hz:1<=v.z):Prp v (jhf v):=by
 have g0:0<gl [v.x,v.y,v.z]:=jco (n:=v.z) (by simp) (by omega);have d:∀n∈[v.x,v.y,v.z],gl [v.x,v.y,v.z]*(n / gl [v.x,v.y,v.z])=n:=fun n hn=>xbf (jaR hn);refine⟨1,gl [v.x,v.y,v.z],by decide,g0,?_,?_,?_⟩
 ·rw[xbG];exact (d v.x (by simp)).symm
 ·rw[xbG];exact (d v.y (by simp)).symm
 ·rw[xbG];exact (d v.z (by simp)).symm
variable {h:Tri->Int}
theorem xp_z {a b:Tri} (ha:1<=a.z) (hb:1<=b.z) (o:h a*h b<0):1<=(xp h a b).z:=by
 obtain⟨h1,h2,_,_⟩:=jdb o;have p1:=jby h1;have p2:=jby h2;have q1:=xaf p2 (show 0<a.z by omega);have q2:=xaf p1 (show 0<b.z by omega);show 1<=ab (h b)*a.z+ab (h a)*b.z;omega
def upE (h:Tri->Int) (X:Tri->Tri->Tri) (e:Tri × Tri):List Tri:=(if 0<=h e.1 then [e.1] else [])++(if h e.1*h e.2<0 then [X e.1 e.2] else [])
def upL (h:Tri->Int) (X:Tri->Tri->Tri) (vs:List Tri):List Tri:=(prs vs).flatMap (upE h X)
theorem jhK {α:Type} (P:Nat->Bool) (g:Nat->α):∀m,((List.range (2*m)).filter P).map g=(List.range m).flatMap fun i=>(if P (2*i)=true then [g (2*i)] else [])++(if P (2*i+1)=true then [g (2*i+1)] else [])
  | 0=>rfl
  | m + 1 => by
    have ih:=jhK P g m;have s:∀x:Nat,([x].filter P).map g=if P x=true then [g x] else []:=fun x=>by
      cases h:P x with
      | true=>rw[xaT h,if_pos rfl];rfl
      | false=>rw[xa6 (by rw[h];decide),if_neg (by decide)];rfl
    rw[show 2*(m+1)=2*m+1+1 by omega,xaQ,xaQ,xaQ (n:=m),xaz,xaz,xap,xap,ih,s,s,xbT,xb3];simp
theorem jhL (h:Tri->Int) (vs:List Tri):upL h (xp h) vs=(clp (fun i=>h (tr vs i)) vs.length).map (el (tr vs) (fun i=>h (tr vs i)) vs.length):=by
 unfold upL clp;rw[jhK,jlS t0,List.flatMap_map]
 congr 1
 funext i
 have k0:kp (fun i=>h (tr vs i)) vs.length (2*i)=decide (0<=h (tr vs i)):=by
  unfold kp;rw[if_pos (by omega),show 2*i / 2=i by omega]
 have k1:kp (fun i=>h (tr vs i)) vs.length (2*i+1)=decide (h (tr vs i)*h (tr vs ((i+1) % vs.length))<0):=by
  unfold kp;rw[if_neg (by omega),show (2*i+1) / 2=i by omega]
 have e0:el (tr vs) (fun i=>h (tr vs i)) vs.length (2*i)=tr vs i:=by
  unfold el;rw[if_pos (by omega),show 2*i / 2=i by omega]
 have e1:el (tr vs) (fun i=>h (tr vs i)) vs.length (2*i+1)=xp h (tr vs i) (tr vs ((i+1) % vs.length)):=by
  unfold el;rw[if_neg (by omega),show (2*i+1) / 2=i by omega];rfl
 rw[k0,k1,e0,e1];simp only[decide_eq_true_eq];rfl
variable {X:Tri->Tri->Tri}
theorem jm5 (hX:∀a b,a∈vs->b∈vs->h a*h b<0->Prp (xp h a b) (X a b)):PL (upL h (xp h) vs) (upL h X vs):=by
 refine PL.fm fun e he=>?_;obtain⟨i,hi⟩:=xbx.mp he;have il:i<vs.length:=by have:=(xae.mp hi).1;rw[jd3] at this;exact this
 rw[jcT t0 il] at hi;have hm:∀j,j<vs.length->vs.getD j t0∈vs:=fun j hj=>by
  rw[xab,xac hj];exact xa5 hj
 have ee:=Option.some.inj hi;subst ee;refine PL.app (PL.refl _) ?_;by_cases o:h (vs.getD i t0)*h (vs.getD ((i+1) % vs.length) t0)<0
 ·simp only[if_pos o];exact .cons (hX _ _ (hm i il) (hm _ (xaA _ (by omega))) o) .nil
 ·simp only[if_neg o];exact .nil
theorem joC (n3:3<=vs.length) (t:TpL vs):TpL (upL h (xp h) vs):=by
 have z:=jm3 (c:=tr vs) (H:=fun i=>h (tr vs i)) n3 t;have l:(upL h (xp h) vs).length=(clp (fun i=>h (tr vs i)) vs.length).length:=by rw[jhL,xaa]
 unfold TpL;rw[l];refine jk6 z fun i hi=>?_;rw[jhL];show ((clp (fun i=>h (tr vs i)) vs.length).map (el (tr vs) (fun i=>h (tr vs i)) vs.length)).getD i t0=el (tr vs) (fun i=>h (tr vs i)) vs.length ((clp (fun i=>h (tr vs i)) vs.length).getD i 0);rw[xab,xav,xac hi,xab,xac hi];rfl
theorem up_tp (hX:∀a b,a∈vs->b∈vs->h a*h b<0->Prp (xp h a b) (X a b)) (n3:3<=vs.length) (t:TpL vs):TpL (upL h X vs):=(jm5 hX).tp (joC n3 t)
theorem jm6 (hX:∀a b,a∈vs->b∈vs->h a*h b<0->Prp (xp h a b) (X a b)) (n3:3<=vs.length) (hi:i<vs.length) (hp:0<h (tr vs i)):3<=(upL h X vs).length:=by
 rw[<- (jm5 hX).len,jhL,xaa];exact jk4 (H:=fun i=>h (tr vs i)) n3 hi hp
theorem jm7 {C:Int} (hX:∀a b,a∈vs->b∈vs->jax A B C a*jax A B C b<0->Prp (xp (jax A B C) a b) (X a b)) (t:TpL vs):(upL (jax A B C) X vs).length<=vs.length+1:=by
 rw[<- (jm5 hX).len,jhL,xaa];exact jjF t
theorem jlU {v:Tri} (hv:v∈upL h X vs):(v∈vs/\0<=h v)\/∃a b,a∈vs/\b∈vs/\h a*h b<0/\v=X a b:=by
 obtain⟨e,he,hv⟩:=xbm.mp hv;obtain⟨i,hi⟩:=xbx.mp he;have il:i<vs.length:=by have:=(xae.mp hi).1;rw[jd3] at this;exact this
 rw[jcT t0 il] at hi;have hm:∀j,j<vs.length->vs.getD j t0∈vs:=fun j hj=>by
  rw[xab,xac hj];exact xa5 hj
 have ee:=Option.some.inj hi;subst ee;rcases xay.mp hv with h1 | h1
 ·by_cases c:0<=h (vs.getD i t0)
  ·simp only[if_pos c,xaC] at h1;subst h1;exact .inl ⟨hm i il,c⟩
  ·simp only[if_neg c] at h1;cases h1
 ·by_cases c:h (vs.getD i t0)*h (vs.getD ((i+1) % vs.length) t0)<0
  ·simp only[if_pos c,xaC] at h1;exact .inr ⟨_,_,hm i il,hm _ (xaA _ (by omega)),c,h1⟩
  ·simp only[if_neg c] at h1;cases h1
def Adj {α:Type} (R:α->α->Prop):List α->Prop
 | []=>True
 | [_]=>True
 | a::b::l=>R a b/\Adj R (b::l)
theorem Adj.glue {α:Type} {R:α->α->Prop} {x:α}:∀{l m:List α},Adj R (l++[x])->Adj R (x::m)->Adj R (l++x::m)
 | [],_,_,k=>k
 | [a],_,h,k=>⟨h.1,k⟩
 | a::b::l,m,h,k=>⟨h.1,Adj.glue (l:=b::l) h.2 k⟩
theorem Adj.left {α:Type} {R:α->α->Prop} {x:α}:∀{l m:List α},Adj R (l++x::m)->Adj R (l++[x])
 | [],_,_=>trivial
 | [a],_,h=>⟨h.1,trivial⟩
 | a::b::l,m,h=>⟨h.1,Adj.left (l:=b::l) h.2⟩
theorem Adj.right {α:Type} {R:α->α->Prop} {x:α}:∀{l m:List α},Adj R (l++x::m)->Adj R (x::m)
 | [],_,h=>h
 | [a],_,h=>h.2
 | a::b::l,m,h=>Adj.right (l:=b::l) h.2
theorem Adj.get {α:Type} {R:α->α->Prop}:∀{l:List α},Adj R l->∀(i:Nat) (x y:α),l[i]?=some x->l[i+1]?=some y->R x y
  | [],_,i,x,y,h,_=>by simp at h
  | [a],_,i,x,y,_,h=>by simp at h
  | a :: b :: l, h, 0, x, y, h1, h2 => by
    cases h1;cases h2;exact h.1
  | a::b::l,h,i+1,x,y,h1,h2=>Adj.get (l:=b::l) h.2 i x y h1 h2
def ax (v:Tri):Rat:=(v.x:Rat) / (v.z:Rat)
def ay (v:Tri):Rat:=(v.y:Rat) / (v.z:Rat)
def c2q (a b:Tri):Rat:=ax a*ay b-ay a*ax b
theorem joD {a b:Tri} (h:Prp a b) (hz:1<=a.z):ax a=ax b/\ay a=ay b:=by
 have hz':=h.z hz;obtain⟨k,m,h1,h2,e1,e2,e3⟩:=h;have z1:=qnz (show a.z≠0 by omega);have z2:=qnz (show b.z≠0 by omega);have z3:=qnz (show k≠0 by omega);have z4:=qnz (show m≠0 by omega);have f1:(k:Rat)*(a.x:Rat)=(m:Rat)*(b.x:Rat):=by exact_mod_cast e1
 have f2:(k:Rat)*(a.y:Rat)=(m:Rat)*(b.y:Rat):=by exact_mod_cast e2
 have f3:(k:Rat)*(a.z:Rat)=(m:Rat)*(b.z:Rat):=by exact_mod_cast e3
 unfold ax ay;have cancel:∀x y:Rat,(k:Rat)*x=(m:Rat)*y->x / (a.z:Rat)=y / (b.z:Rat):=fun x y e=>by
  have e4:x=((m:Rat)*y) / (k:Rat):=by grind
  have e5:(a.z:Rat)=((m:Rat)*(b.z:Rat)) / (k:Rat):=by grind
  rw[e4,e5];grind
 exact⟨cancel _ _ f1,cancel _ _ f2⟩
theorem jaH {l:List Tri} (h:i<l.length):tr l i∈l:=by
 unfold tr;rw[xab,xac h];exact xa5 h
theorem jdJ {l:List Tri} {v:Tri} (h:v∈l):∃i,i<l.length/\tr l i=v:=by
 obtain⟨i,hi,rfl⟩:=xbe.mp h;refine⟨i,hi,?_⟩;unfold tr;rw[xab,xac hi];rfl
theorem jm8 {a b v:Tri} (ha:1<=a.z) (hb:1<=b.z) (o:h a*h b<0) (hv:Prp (xp h a b) v):c2q a v+c2q v b=c2q a b:=by
 obtain⟨e1,e2⟩:=joD hv (xp_z ha hb o);obtain⟨h1,h2,_,_⟩:=jdb o;have p1:=jby h1;have p2:=jby h2;unfold c2q;rw[<- e1,<- e2];have q1:=xaf p2 (show 0<a.z by omega);have q2:=xaf p1 (show 0<b.z by omega);have z0:=qnz (show ab (h b)*a.z+ab (h a)*b.z≠0 by omega);have z1:=qnz (show a.z≠0 by omega);have z2:=qnz (show b.z≠0 by omega);have u:ax (xp h a b)*((ab (h b):Rat)*(a.z:Rat)+(ab (h a):Rat)*(b.z:Rat))=(ab (h b):Rat)*(a.z:Rat)*ax a+(ab (h a):Rat)*(b.z:Rat)*ax b:=by
  unfold ax xp jfT
  push_cast at z0 |-
  grind
 have w:ay (xp h a b)*((ab (h b):Rat)*(a.z:Rat)+(ab (h a):Rat)*(b.z:Rat))=(ab (h b):Rat)*(a.z:Rat)*ay a+(ab (h a):Rat)*(b.z:Rat)*ay b:=by
  unfold ay xp jfT
  push_cast at z0 |-
  grind
 push_cast at z0
 generalize ax (xp h a b)=X at *
 generalize ay (xp h a b)=Y at *
 generalize ax a=xa at *
 generalize ay a=ya at *
 generalize ax b=xb at *
 generalize ay b=yb at *
 generalize (ab (h b):Rat)*(a.z:Rat)=p at *
 generalize (ab (h a):Rat)*(b.z:Rat)=q at *
 have f:(xa*Y-ya*X+(X*yb-Y*xb))*(p+q)=(xa*yb-ya*xb)*(p+q):=by grind
 grind
theorem jm9 {C:Int} {a b c u:Tri} (hu:jax A B C u≠0) (ha:jax A B C a=0) (hb:jax A B C b=0) (hc:jax A B C c=0):dt a b c=0:=by
 unfold jax at *
 have k1:A*dt a b c=0:=by unfold dt jaY;grind
 have k2:B*dt a b c=0:=by unfold dt jaY;grind
 have k3:C*dt a b c=0:=by unfold dt jaY;grind
 rcases xai.mp k1 with r1 | r1
 ·rcases xai.mp k2 with r2 | r2
  ·rcases xai.mp k3 with r3 | r3
   ·exact (hu (by rw[r1,r2,r3];grind)).elim
   ·exact r3
  ·exact r2
 ·exact r1
def agE (h:Tri->Int) (X:Tri->Tri->Tri) (e:Tri × Tri):List Tri:=e.1::(if h e.1*h e.2<0 then [X e.1 e.2] else [])
def agL (h:Tri->Int) (X:Tri->Tri->Tri) (vs:List Tri):List Tri:=(prs vs).flatMap (agE h X)
theorem jjJ {h:Tri->Int} {X:Tri->Tri->Tri} (k:Tri->Bool) (g:Tri × Tri->List Tri):∀{l:List (Tri × Tri)},(∀e∈l,(agE h X e).filter k=g e)->(l.flatMap (agE h X)).filter k=l.flatMap g
  | [],_=>rfl
  | e :: l, H => by
    rw[xbi,xbi,xaz,H e (by simp),jjJ k g fun a ha=>H a (xad _ ha)]
variable {e:Tri × Tri}
theorem jd4 (he:e∈prs vs):e.1∈vs/\e.2∈vs:=by
 obtain⟨i,hi⟩:=xbx.mp he;have il:i<vs.length:=by have:=(xae.mp hi).1;rw[jd3] at this;exact this
 rw[jcT t0 il] at hi;have ee:=Option.some.inj hi;subst ee;exact⟨jaH il,jaH (xaA _ (by omega))⟩
theorem ag_up (hX:∀a b,a∈vs->b∈vs->h a*h b<0->h (X a b)=0):(agL h X vs).filter (fun p=>decide (0<=h p))=upL h X vs:=by
 refine jjJ _ _ fun e he=>?_;obtain⟨m1,m2⟩:=jd4 he;unfold agE upE;have x0:=hX _ _ m1 m2;by_cases o:h e.1*h e.2<0
 ·have x1:=x0 o;by_cases c:0<=h e.1<;>simp [o,c,x1]
 ·by_cases c:0<=h e.1<;>simp [o,c]
theorem joE {S:Tri->Prop} (hz:∀v,S v->1<=v.z) (hX:∀a b,S a->S b->h a*h b<0->Prp (xp h a b) (X a b)/\h (X a b)=0) {a:Tri} (sa:S a):∀(r:List Tri) (x:Tri),S x->(∀v∈r,S v) ->
    ∃w,(nxt (x::r) a).flatMap (agE h X)=x::w/\Adj (fun x y=>¬(h x<0/\0<h y)/\¬(0<h x/\h y<0)) (x::w++[a])/\rs ((nxt (x::w) a).map fun e=>c2q e.1 e.2)=rs ((nxt (x::r) a).map fun e=>c2q e.1 e.2):=by
  have one:∀x y,S x->S y->Adj (fun x y=>¬(h x<0/\0<h y)/\¬(0<h x/\h y<0)) (agE h X (x,y)++[y])/\rs ((nxt (agE h X (x,y)) y).map fun e=>c2q e.1 e.2)=c2q x y:=fun x y sx sy=>by
    unfold agE;by_cases o:h x*h y<0
    . obtain⟨k1,k2⟩:=hX x y sx sy o
      simp only[if_pos o];refine⟨⟨⟨by omega,by omega⟩,⟨by omega,by omega⟩,trivial⟩,?_⟩;show c2q x (X x y)+(c2q (X x y) y+0)=_;have:=jm8 (hz x sx) (hz y sy) o k1;grind
    . simp only[if_neg o]
      refine⟨⟨⟨fun z=>o (opp_iff.mpr (.inr z)),fun z=>o (opp_iff.mpr (.inl z))⟩,trivial⟩,?_⟩;show c2q x y+0=_;grind
  intro r;induction r with
  | nil =>
    intro x sx _;obtain⟨o1,o2⟩:=one x a sx sa;refine⟨if h x*h a<0 then [X x a] else [],?_,o1,?_⟩
    . show agE h X (x,a)++[]=_
      rw[xbY];rfl
    . show _=c2q x a+0
      exact o2.trans (by grind)
  | cons y r ih =>
    intro x sx sr;obtain⟨w,e1,e2,e3⟩:=ih y (sr y (by simp)) fun v hv=>sr v (xad _ hv);obtain⟨o1,o2⟩:=one x y sx (sr y (by simp));refine⟨(if h x*h y<0 then [X x y] else [])++y::w,?_,?_,?_⟩
    . show agE h X (x,y)++(nxt (y::r) a).flatMap (agE h X)=_
      rw[e1];rfl
    . have g:=Adj.glue (l:=agE h X (x,y)) (x:=y) (m:=w++[a]) o1 e2
      have e:x::((if h x*h y<0 then [X x y] else [])++y::w)++[a]=agE h X (x,y)++y::(w++[a]):=by
        unfold agE;simp
      rw[e];exact g
    . have e:x::((if h x*h y < 0 then [X x y] else [])++y::w)=agE h X (x,y)++y::w:=rfl
      rw[e,jfS,xap,jlR,o2,e3];rfl
theorem jjK {C m:Int} {u v:Tri} (e1:k*u.x=m*v.x) (e2:k*u.y=m*v.y) (e3:k*u.z=m*v.z):k*jax A B C u=m*jax A B C v:=by
 unfold jax;grind
theorem jfV {C:Int} {u v:Tri} (h:Prp u v) (z:jax A B C u=0):jax A B C v=0:=by
 obtain⟨k,m,k0,m0,e1,e2,e3⟩:=h;have e:=jjK (A:=A) (B:=B) (C:=C) e1 e2 e3;rw[z,xaq] at e;rcases xai.mp e.symm with r | r
 ·omega
 ·exact r
theorem jep {α β:Type} {f g:α->List β}:∀{l:List α},(∀a∈l,f a=g a)->l.flatMap f=l.flatMap g
 | [],_=>rfl
 | a::l,h=>by rw[xbi,xbi,h a (by simp),jep fun b hb=>h b (xad _ hb)]
theorem jd5 {α β:Type} {f g:α->Option β}:∀{l:List α},(∀a∈l,f a=g a)->l.filterMap f=l.filterMap g
 | [],_=>rfl
 | a::l,h=>by rw[xbq,xbq,h a (by simp),jd5 fun b hb=>h b (xad _ hb)]
theorem jfW (h:pl4 p=pl4 q):p=q:=by
 unfold pl4 at h;injection h with h1 h
 injection h with h2 h
 injection h with h3 h
 injection h with h4 _
 cases p;cases q
 simp_all
def jk8 (Z:Sht) (v:Tri):List Int:=[rX Z v,rY Z v,rZ Z v,rW Z v]
theorem jhg (Z:Sht) (v:Tri):pl4 (spt Z v)=low (jk8 Z v):=rfl
theorem jna {u v:Tri} {m:Int} (e1:k*u.x=m*v.x) (e2:k*u.y=m*v.y) (e3:k*u.z=m*v.z):(jk8 Z u).map (k*·)=(jk8 Z v).map (m*·):=by
 unfold jk8 rX rY rZ rW;simp only[xaS,xck]
 congr 1
 ·grind
 ·congr 1
  ·grind
  ·congr 1
   ·grind
   ·congr 1
    grind
theorem jnb {u v:Tri} (h:Prp u v):spt Z u=spt Z v:=by
 obtain⟨k,m,k0,m0,e1,e2,e3⟩:=h;refine jfW ?_;rw[jhg,jhg,<- jg9 k0 (jk8 Z u),<- jg9 m0 (jk8 Z v),jna e1 e2 e3]
def lnA (Z:Sht) (x y z:Int):Int:=Z.w*(x*Z.c.x+y*Z.c.y+z*Z.c.z)
def lnB (Z:Sht) (x y z:Int):Int:=Z.w*(x*Z.d.x+y*Z.d.y+z*Z.d.z)
def lnC (Z:Sht) (x y z v:Int):Int:=x*Z.s.x+y*Z.s.y+z*Z.s.z-v*Z.w
def hL (Z:Sht) (x y z v:Int):Tri->Int:=jax (lnA Z x y z) (lnB Z x y z) (lnC Z x y z v)
theorem jfX (Z:Sht) (x y z v:Int) (a:Tri):rG Z a*hgt x y z v (spt Z a)=hL Z x y z v a:=by
 obtain⟨e1,e2,e3,e4⟩:=ja0 Z a;have e:rG Z a*hgt x y z v (spt Z a)=x*(rG Z a*(spt Z a).x)+y*(rG Z a*(spt Z a).y)+z*(rG Z a*(spt Z a).z)-v*(rG Z a*(spt Z a).w):=by
  unfold hgt;grind
 rw[e,e1,e2,e3,e4];unfold hL jax lnA lnB lnC rX rY rZ rW;grind
theorem jd6 {z v:Int} {a:Tri} (hw:1<=Z.w) (ha:1<=a.z):(0<hgt x y z v (spt Z a)↔0<hL Z x y z v a)/\(hgt x y z v (spt Z a)<0↔hL Z x y z v a<0):=by
 have g:=ja7 (Z:=Z) (v:=a) hw ha;rw[<- jfX];generalize hgt x y z v (spt Z a)=n;refine⟨⟨fun h=>xaf g h,fun h=>xbV h g⟩,⟨fun h=>xan g h,fun h=>?_⟩⟩;rcases xaL n 0 with q | q
 ·exact q
 ·have:=xag (xar g) q;omega
theorem jjL {z v:Int} {a b:Tri} (hw:1<=Z.w) (ha:1<=a.z) (hb:1<=b.z):hgt x y z v (spt Z a)*hgt x y z v (spt Z b)<0↔hL Z x y z v a*hL Z x y z v b<0:=by
 rw[opp_iff,opp_iff,(jd6 hw ha).1,(jd6 hw ha).2,(jd6 hw hb).1,(jd6 hw hb).2]
theorem sgn_opp {b:Int}:sgn a*sgn b<0↔a*b<0:=by
 rw[opp_iff,opp_iff];unfold sgn;rcases xbD a 0 with h | h | h<;>rcases xbD b 0 with k | k | k
 all_goals (simp only[gt_iff_lt];(repeat' split)<;>omega)
theorem jhh (hq:0<q.w) (h:pl4 r=(pl4 q).map (-1*·)):jbO r=jbO q:=by
 have e:r=⟨-q.x,-q.y,-q.z,-q.w⟩:=jfW (h.trans (by unfold pl4;simp));subst e;unfold jbO;rw[if_pos (show -q.w<0 by omega),if_neg (show ¬q.w<0 by omega)];simp only[Int.neg_neg]
theorem jnc (hq:0<q.w):pl4 (jbO q)=low (pl4 q):=by
 unfold jbO;rw[if_neg (show ¬q.w<0 by omega)];rfl
theorem jnd {z v:Int} {a b:Tri} (hw:1<=Z.w) (ha:1<=a.z) (hb:1<=b.z) (o:hL Z x y z v a*hL Z x y z v b<0):jbO (jcR x y z v (spt Z a) (spt Z b))=spt Z (xp (hL Z x y z v) a b):=by
 have o':=(jjL hw ha hb).mpr o;have ga:=ja7 (Z:=Z) (v:=a) hw ha;have gb:=ja7 (Z:=Z) (v:=b) hw hb;have wa:=jgB (Z:=Z) hw ha;have wb:=jgB (Z:=Z) hw hb;have la:=jfX Z x y z v a;have lb:=jfX Z x y z v b;obtain⟨a1,a2,a3,a4⟩:=ja0 Z a;obtain⟨b1,b2,b3,b4⟩:=ja0 Z b;obtain⟨n1,n2,_,_⟩:=jdb o';have q1:=jby n1;have q2:=jby n2;have abm:∀{g n:Int},0<g->ab (g*n)=g*ab n:=fun {g n} hg=>by
  unfold ab;by_cases c:n<0
  ·rw[if_pos c,if_pos (xan hg c)];grind
  ·rw[if_neg c,if_neg (by have:=xag (xar hg) (show 0<=n by omega);omega)]
 have ea:ab (hL Z x y z v a)=rG Z a*ab (hgt x y z v (spt Z a)):=by rw[<- la,abm ga]
 have eb:ab (hL Z x y z v b)=rG Z b*ab (hgt x y z v (spt Z b)):=by rw[<- lb,abm gb]
 let q:Pt:=⟨ab (hgt x y z v (spt Z b))*(spt Z a).x+ab (hgt x y z v (spt Z a))*(spt Z b).x,ab (hgt x y z v (spt Z b))*(spt Z a).y+ab (hgt x y z v (spt Z a))*(spt Z b).y,ab (hgt x y z v (spt Z b))*(spt Z a).z+ab (hgt x y z v (spt Z a))*(spt Z b).z,ab (hgt x y z v (spt Z b))*(spt Z a).w+ab (hgt x y z v (spt Z a))*(spt Z b).w⟩
 have qw:0<q.w:=by
  have h1:=xaf q2 (show 0<(spt Z a).w by omega);have h2:=xaf q1 (show 0<(spt Z b).w by omega);show 0<ab (hgt x y z v (spt Z b))*(spt Z a).w+ab (hgt x y z v (spt Z a))*(spt Z b).w;omega
 have raw:jk8 Z (xp (hL Z x y z v) a b)=(pl4 q).map (rG Z a*rG Z b*·):=by
  have lin:jk8 Z (xp (hL Z x y z v) a b)=[ab (hL Z x y z v b)*rX Z a+ab (hL Z x y z v a)*rX Z b,ab (hL Z x y z v b)*rY Z a+ab (hL Z x y z v a)*rY Z b,ab (hL Z x y z v b)*rZ Z a+ab (hL Z x y z v a)*rZ Z b,ab (hL Z x y z v b)*rW Z a+ab (hL Z x y z v a)*rW Z b]:=by
   unfold xp;generalize ab (hL Z x y z v b)=p;generalize ab (hL Z x y z v a)=r;unfold jk8 rX rY rZ rW jfT;simp only[List.cons.injEq,and_true];refine⟨?_,?_,?_,?_⟩<;>grind
  rw[lin,ea,eb,<- a1,<- a2,<- a3,<- a4,<- b1,<- b2,<- b3,<- b4];show _=[rG Z a*rG Z b*q.x,rG Z a*rG Z b*q.y,rG Z a*rG Z b*q.z,rG Z a*rG Z b*q.w];simp only[q,List.cons.injEq,and_true];refine⟨?_,?_,?_,?_⟩<;>grind
 have fin:jbO (jcR x y z v (spt Z a) (spt Z b))=jbO q:=by
  rcases opp_iff.mp o' with ⟨p1,p2⟩ | ⟨p1,p2⟩
  ·refine jhh qw ?_;have e1:ab (hgt x y z v (spt Z a))=hgt x y z v (spt Z a):=if_neg (by omega);have e2:ab (hgt x y z v (spt Z b))=-hgt x y z v (spt Z b):=if_pos p2;show _=[-1*q.x,-1*q.y,-1*q.z,-1*q.w];simp only[q];rw[e1,e2];unfold pl4 jcR;simp only[List.cons.injEq,and_true];refine⟨?_,?_,?_,?_⟩<;>grind
  ·congr 1
   have e1:ab (hgt x y z v (spt Z a))=-hgt x y z v (spt Z a):=if_pos p1;have e2:ab (hgt x y z v (spt Z b))=hgt x y z v (spt Z b):=if_neg (by omega);refine jfW ?_;show _=[q.x,q.y,q.z,q.w];simp only[q];rw[e1,e2];unfold pl4 jcR;simp only[List.cons.injEq,and_true];refine⟨?_,?_,?_,?_⟩<;>grind
 rw[fin];refine jfW ?_;rw[jnc qw,jhg,raw,jg9 (xaf ga gb)]
def fK (x y z v:Int):Pt ⊕ Pt × Pt->Option Pt
 | .inl p=>if 0<=hgt x y z v p then some p else none
 | .inr e=>if hgt x y z v e.1*hgt x y z v e.2<0 then some (jbO (jcR x y z v e.1 e.2)) else none
theorem joF {z v:Int} {o:Pt} (hp:1<=p.w) (ho:1<=o.w) (h:hgt x y z v p*hgt x y z v o<0):jbO (jcR x y z v o p)=jbO (jcR x y z v p o):=by
 have m:∀{p o:Pt},pl4 (jcR x y z v o p)=(pl4 (jcR x y z v p o)).map (-1*·):=fun {p o}=>by
  unfold pl4 jcR;simp only[xaS,xck,List.cons.injEq,and_true];refine⟨?_,?_,?_,?_⟩<;>grind
 rcases opp_iff.mp h with ⟨p1,p2⟩ | ⟨p1,p2⟩
 ·have h1:=xaE p2 (show 0<p.w by omega);have h2:=xaf p1 (show 0<o.w by omega);exact (jhh (show 0<hgt x y z v p*o.w-hgt x y z v o*p.w by omega) m).symm
 ·have h1:=xaf p2 (show 0<p.w by omega);have h2:=xaE p1 (show 0<o.w by omega);exact jhh (show 0<hgt x y z v o*p.w-hgt x y z v p*o.w by omega) m
theorem jjM (d e:List (Pt × Int)):kHi (d++e)=kHi d++kHi e:=by
 unfold kHi;rw[xaz,xap]
theorem jlV {α:Type} (g:α->List (Pt × Int)):∀l:List α,kHi (l.flatMap g)=l.flatMap fun a=>kHi (g a)
 | []=>rfl
 | a::l=>by rw[xbi,xbi,jjM,jlV g l]
theorem sgn_nn_iff {n:Int}:0<=sgn n↔0<=n:=by
 unfold sgn
 (repeat' split)<;>omega
theorem joG (x y z v:Int) (p o:Pt):kHi (jip x y z v p o)=[Sum.inr (p,o),Sum.inl o].filterMap (fK x y z v):=by
 unfold jip;rw[jjM];have e1:kHi (if sgn (hgt x y z v p)*sgn (hgt x y z v o)<0 then [(jbO (jcR x y z v p o),0)] else [])=if hgt x y z v p*hgt x y z v o<0 then [jbO (jcR x y z v p o)] else []:=by
  by_cases c:hgt x y z v p*hgt x y z v o<0
  ·rw[if_pos (sgn_opp.mpr c),if_pos c];rfl
  ·rw[if_neg (fun h=>c (sgn_opp.mp h)),if_neg c];rfl
 have e2:kHi [(o,sgn (hgt x y z v o))]=if 0<=hgt x y z v o then [o] else []:=by
  unfold kHi;by_cases c:0<=hgt x y z v o
  ·rw[if_pos c,xaT (by exact decide_eq_true (sgn_nn_iff.mpr c))];rfl
  ·rw[if_neg c,xa6 (by simp only[decide_eq_true_eq];exact fun h=>c (sgn_nn_iff.mp h))];rfl
 rw[e1,e2];by_cases c:hgt x y z v p*hgt x y z v o<0<;>by_cases d:0<=hgt x y z v o<;>simp [fK,c,d]
theorem joH (x y z v:Int) (ps:List Pt):kHi (sdd x y z v ps ps.length)=(TB (prs (ps.drop (ps.length-1)++ps.take (ps.length-1)))).filterMap (fK x y z v):=by
 unfold sdd;rw[jlV,jdp,<- jlT p0];unfold TB;rw[List.filterMap_flatMap,List.flatMap_map]
 congr 1
 funext i
 exact joG ..
theorem tt_up {z v:Int} (hw:1<=Z.w) (hz:∀u∈vs,1<=u.z) (hX:∀a b,a∈vs->b∈vs->hL Z x y z v a*hL Z x y z v b<0->Prp (xp (hL Z x y z v) a b) (X a b)) :
  (TT (prs (vs.map (spt Z)))).filterMap (fK x y z v)=(upL (hL Z x y z v) X vs).map (spt Z):=by
 unfold TT upL;rw[jm4,List.filterMap_flatMap,List.flatMap_map,List.map_flatMap];refine jep fun e he=>?_;obtain⟨m1,m2⟩:=jd4 he;have z1:=hz _ m1;have z2:=hz _ m2;have i1:(0<=hgt x y z v (spt Z e.1))↔0<=hL Z x y z v e.1:=by
  have:=(jd6 (x:=x) (y:=y) (z:=z) (v:=v) hw z1).2;omega
 have i2:=jjL (x:=x) (y:=y) (z:=z) (v:=v) hw z1 z2;have i3:hL Z x y z v e.1*hL Z x y z v e.2<0->jbO (jcR x y z v (spt Z e.1) (spt Z e.2))=spt Z (X e.1 e.2):=fun o=>(jnd hw z1 z2 o).trans (jnb (hX _ _ m1 m2 o));unfold upE;by_cases c:0<=hL Z x y z v e.1<;>by_cases d:hL Z x y z v e.1*hL Z x y z v e.2<0
 ·have:=i3 d;simp [fK,i1,i2,c,d,this]
 ·simp [fK,i1,i2,c,d]
 ·have:=i3 d;simp [fK,i1,i2,c,d,this]
 ·simp [fK,i1,i2,c,d]
theorem je2 {z v:Int} (hw:1<=Z.w) (hz:∀u∈vs,1<=u.z) (hX:∀a b,a∈vs->b∈vs->hL Z x y z v a*hL Z x y z v b<0->Prp (xp (hL Z x y z v) a b) (X a b)) (r:RR (vs.map (spt Z)) ps) :
    RR ((upL (hL Z x y z v) X vs).map (spt Z)) (kHi (sdd x y z v ps ps.length)):=by
  have wp:∀p∈ps,1<=p.w:=fun p hp=>by
    obtain⟨u,hu,rfl⟩:=xah.mp (r.mem.mp hp);exact jgB hw (hz u hu)
  let f':Pt ⊕ Pt × Pt->Option Pt:=fun s=>match s with
    | .inl p=>fK x y z v (.inl p)
    | .inr e=>if 1<=e.1.w/\1<=e.2.w then fK x y z v (.inr e) else none
  have sym:∀s,f' (swS s)=f' s:=fun s=>by
    cases s with
    | inl p=>rfl
    | inr e =>
      show (if 1<=e.2.w/\1<=e.1.w then fK x y z v (.inr (e.2,e.1)) else none)=if 1<=e.1.w/\1<=e.2.w then fK x y z v (.inr e) else none;by_cases c:1<=e.1.w/\1<=e.2.w
      . rw[if_pos c,if_pos ⟨c.2,c.1⟩]
        unfold fK;have cm:hgt x y z v e.2*hgt x y z v e.1=hgt x y z v e.1*hgt x y z v e.2:=xaI _ _;by_cases o:hgt x y z v e.1*hgt x y z v e.2<0
        . simp only[cm,if_pos o]
          rw[joF c.1 c.2 o]
        . simp only[cm,if_neg o]
      . rw[if_neg c,if_neg fun q=>c ⟨q.2,q.1⟩]
  have pm:∀{l:List Pt} {e:Pt × Pt},e∈prs l->e.1∈l/\e.2∈l:=fun {l e} he=>by
    obtain⟨i,hi⟩:=xbx.mp he;have il:i<l.length:=by have:=(xae.mp hi).1;rw[jd3] at this;exact this
    rw[jcT p0 il] at hi;have ee:=Option.some.inj hi;subst ee;exact⟨jaI il,jaI (xaA _ (by omega))⟩
  have same:∀{l:List Pt},(∀p∈l,1<=p.w)->∀s:Pt ⊕ Pt × Pt,(s∈TT (prs l)\/s∈TB (prs l))->f' s=fK x y z v s:=fun {l} hl s hs=>by
    cases s with
    | inl p=>rfl
    | inr e =>
      have he:e∈prs l:=by
        rcases hs with h | h
        . obtain⟨e',he',h⟩:=xbm.mp h
          simp at h;rw[h];exact he'
        . obtain⟨e',he',h⟩:=xbm.mp h
          simp at h;rw[h];exact he'
      obtain⟨m1,m2⟩:=pm he;exact if_pos ⟨hl _ m1,hl _ m2⟩
  have w0:∀p∈vs.map (spt Z),1<=p.w:=fun p hp=>wp p (r.mem.mpr hp);have r2:RR (vs.map (spt Z)) (ps.drop (ps.length-1)++ps.take (ps.length-1)):=.rot _ r;have t1:=jm0 f' sym r2;have t2:=(jlP (ps.drop (ps.length-1)++ps.take (ps.length-1))).fm f';have w2:∀p∈ps.drop (ps.length-1)++ps.take (ps.length-1),1<=p.w:=fun p hp=>wp p (by
    rcases xay.mp hp with h | h
    . exact xcd h
    . exact xbP h)
  have t3:=t1.trans t2;rw[jd5 fun s hs=>same w0 s (.inl hs),jd5 (g:=fK x y z v) (l:=TB _) fun s hs=>same w2 s (.inr hs)] at t3;rw[joH,<- tt_up hw hz hX];exact t3
theorem RR.dih {l m:List Pt} (h:RR l m) (n3:3<=l.length) (n9:l.length<=17):Dih l m:=by
  induction h with
  | refl=>exact Dih.refl n3
  | @rot m k h ih =>
    by_cases c:k<l.length
    . exact ih.rot n9 c
    . rw[jfR m (by have:=h.len; omega)]
      exact ih
  | rev _ ih=>exact ih.rev n9
theorem joI (l:List Pt) (qs:List Pt):RR l (frm qs l):=by
  have t:∀(b:Bool) (m:List Pt),RR m (turn b m):=fun b m=>by
    unfold turn;by_cases c:b=true
    . rw[if_pos c]
      cases m with
      | nil=>exact .refl _
      | cons x r =>
        have z:=RR.rot (l:=x::r) r.reverse.length (.rev (.refl _));rw[xaM,xbQ,xbR] at z;exact z
    . rw[if_neg c]
      exact .refl _
  unfold frm;exact (RR.rot (fF qs) (.refl l)).trans (t _ _)
theorem joJ (hq:q.w≠0):jbO ⟨-q.x,-q.y,-q.z,-q.w⟩=jbO q:=by
 unfold jbO;by_cases c:q.w<0
 ·rw[if_pos c,if_neg (show ¬-q.w<0 by omega)]
 ·rw[if_neg c,if_pos (show -q.w<0 by omega)];simp only[Int.neg_neg]
theorem jhM (x y z v:Int) (p:Pt):hgt (-x) (-y) (-z) (-v) p=-hgt x y z v p:=by
 unfold hgt;grind
theorem jlW (n:Int):sgn (-n)=-sgn n:=by
 unfold sgn
 (repeat' split)<;>omega
theorem joK {z v:Int} {o:Pt} (hp:1<=p.w) (ho:1<=o.w):jip (-x) (-y) (-z) (-v) p o=(jip x y z v p o).map fun d=>(d.1,-d.2):=by
 unfold jip;rw[jhM,jhM,jlW,jlW];have e:-sgn (hgt x y z v p)*-sgn (hgt x y z v o)=sgn (hgt x y z v p)*sgn (hgt x y z v o):=by grind
 rw[e];by_cases c:sgn (hgt x y z v p)*sgn (hgt x y z v o)<0
 ·have w:=jlN hp ho c;have e2:jcR (-x) (-y) (-z) (-v) p o=⟨-(jcR x y z v p o).x,-(jcR x y z v p o).y,-(jcR x y z v p o).z,-(jcR x y z v p o).w⟩:=by
   unfold jcR;simp only[jhM]
   congr 1<;>grind
  rw[if_pos c,if_pos c,e2,joJ w];rfl
 ·rw[if_neg c,if_neg c];rfl
theorem joL (l:List (Pt × Int)):kLo l=kHi (l.map fun d=>(d.1,-d.2)):=by
  unfold kLo kHi;induction l with
  | nil=>rfl
  | cons d l ih =>
    rw[xaS];by_cases c:d.2<=0
    . rw[xaT (by exact decide_eq_true c),xaT (by simp only[decide_eq_true_eq];omega),xaS,xaS,ih]
    . rw[xa6 (by simp only[decide_eq_true_eq];omega),xa6 (by simp only[decide_eq_true_eq];omega),ih]
theorem jne {z v:Int} (hp:∀p∈ps,1<=p.w):kLo (sdd x y z v ps ps.length)=kHi (sdd (-x) (-y) (-z) (-v) ps ps.length):=by
 rw[joL]
 congr 1
 unfold sdd;rw[List.map_flatMap];refine jep fun i hi=>?_;have hi:=xaU.mp hi;exact (joK (hp _ (jaI (xaA _ (by omega)))) (hp _ (jaI hi))).symm
theorem joM (Z:Sht) (x y z v:Int) (a:Tri):hL Z (-x) (-y) (-z) (-v) a=-hL Z x y z v a:=by
 unfold hL jax lnA lnB lnC;grind
theorem joN {c:Nat->Tri} {k:Nat} (h:Tp c n) (hi:i<n) (hj:j<n) (hk:k<n) (ij:i≠j) (jk:j≠k) (ik:i≠k):dt (c i) (c j) (c k)≠0:=by
 have s1:∀a b d:Tri,dt a b d=-dt b a d:=fun a b d=>by unfold dt jaY;grind
 have s2:∀a b d:Tri,dt a b d=-dt a d b:=fun a b d=>by unfold dt jaY;grind
 have P:∀{i j k:Nat},i<n->j<n->k<n->i<j->j<k->0<dt (c i) (c j) (c k):=fun _ _ h3 h4 h5=>h _ _ _ h4 h5 h3;rcases xbZ ij with a | a<;>rcases xbZ jk with b | b<;>rcases xbZ ik with d | d
 ·have:=P hi hj hk a b;omega
 ·omega
 ·have:=P hi hk hj d b;have:=s2 (c i) (c j) (c k);omega
 ·have:=P hk hi hj d a;have e1:=s2 (c i) (c j) (c k);have e2:=s1 (c i) (c k) (c j);omega
 ·have:=P hj hi hk a d;have:=s1 (c i) (c j) (c k);omega
 ·have:=P hj hk hi b d;have e1:=s1 (c i) (c j) (c k);have e2:=s2 (c j) (c i) (c k);omega
 ·omega
 ·have:=P hk hj hi b a;have e1:=s1 (c i) (c j) (c k);have e2:=s2 (c j) (c i) (c k);have e3:=s1 (c j) (c k) (c i);omega
theorem jbA (h:i<us.length):pt (us.map (spt Z)) i=spt Z (tr us i):=by
 unfold pt tr;rw[xab,xav,xac h,xab,xac h];rfl
theorem jjN {m:Nat} {b c z:Int} (ha:Bd n a) (hb:Bd n b) (hc:Bd n c) (hx:Bd m x) (hy:Bd m y) (hz:Bd m z):Bd (n+m+2) (a*x+b*y+c*z):=Bd.add (Bd.add (Bd.mul ha hx) (Bd.mul hb hy)) (Bd.mono (Bd.mul hc hz) (xb4 _))
def bt (h:Tri->Int) (a b:Tri):Tri:=jhf (xp h a b)
theorem joO {α:Type} {xs:List α} {i:Int} {v:α} (e:i=(j:Int)) (h:xs[j]?=some v):atI xs i=some v:=by
 subst e;exact jaP h
theorem jhN {v:Tri} {m:Nat} (h:v.bd n) (e:n<=m:=by decide):v.bd m:=⟨Bd.mono h.1 e,Bd.mono h.2.1 e,Bd.mono h.2.2 e⟩
open Classical in
noncomputable def UP (h:Tri->Int) (vs:List Tri):List Tri:=if ∃v∈vs,0<h v then upL h (bt h) vs else []
theorem jgE {a b:Tri} (ha:1<=a.z) (hb:1<=b.z) (o:h a*h b<0):Prp (xp h a b) (bt h a b):=jk7 (xp_z ha hb o)
theorem jlX (hh:∀v∈vs,0<=h v):upL h X vs=vs:=by
  unfold upL;have e:(prs vs).flatMap (upE h X)=(prs vs).flatMap fun e=>[e.1]:=jep fun e he=>by
    obtain⟨m1,m2⟩:=jd4 he;unfold upE;rw[if_pos (hh _ m1),if_neg (by have:=xag (hh _ m1) (hh _ m2);omega)];rfl
  rw[e];have g:∀(r:List Tri) (x a:Tri),(nxt (x::r) a).flatMap (fun e=>[e.1])=x::r:=fun r=>by
    induction r with
    | nil=>intro x a;rfl
    | cons y r ih =>
      intro x a;show x::(nxt (y::r) a).flatMap (fun e=>[e.1])=_;rw[ih]
  cases vs with
  | nil=>rfl
  | cons x r=>exact g r x x
theorem jcU (hp:∃v∈vs,0<h v):UP h vs=upL h (bt h) vs:=by
 unfold UP;exact if_pos hp
theorem je3 (hn:¬∃v∈vs,0<h v):UP h vs=[]:=by
 unfold UP;exact if_neg hn
theorem jhi {C:Int} {a b:Tri} (o:jax A B C a*jax A B C b<0):jax A B C (xp (jax A B C) a b)=0:=by
 have e:jax A B C (xp (jax A B C) a b)=ab (jax A B C b)*jax A B C a+ab (jax A B C a)*jax A B C b:=by
  unfold xp jfT;generalize ab (jax A B C b)=p;generalize ab (jax A B C a)=q;unfold jax;grind
 rw[e];unfold ab;rcases opp_iff.mp o with ⟨p1,p2⟩ | ⟨p1,p2⟩
 ·rw[if_pos p2,if_neg (by omega)];grind
 ·rw[if_neg (by omega),if_pos p1];grind
def InR (vs:List Tri) (p:Tri):Prop:=∀e∈prs vs,0<=dt e.1 e.2 p
structure Rng (vs:List Tri):Prop where
 n3:3<=vs.length
 tp:TpL vs
 hz:∀v∈vs,1<=v.z
theorem jcv (he:e∈prs vs):∃i,i<vs.length/\e=(tr vs i,tr vs ((i+1) % vs.length)):=by
 obtain⟨i,hi⟩:=xbx.mp he;have il:i<vs.length:=by have:=(xae.mp hi).1;rw[jd3] at this;exact this
 rw[jcT t0 il] at hi;exact⟨i,il,(Option.some.inj hi).symm⟩
theorem je4 (hi:i<vs.length):(tr vs i,tr vs ((i+1) % vs.length))∈prs vs:=xaD (jcT t0 hi)
theorem jbs {c:Nat->Tri} {k:Nat} (h:Tp c n) (n3:3<=n) (hi:i<n) (hk:k<n) (k1:k≠i) (k2:k≠(i+1) % n):0<dt (c i) (c ((i+1) % n)) (c k):=by
 by_cases w:i+1<n
 ·rw[xak w] at k2 |-
  by_cases q:k<i
  ·rw[<- jb1];exact h k i (i+1) q (by omega) w
  ·exact h i (i+1) k (by omega) (by omega) hk
 ·have e:i+1=n:=by omega
  rw[e,xa4] at k2 |-
  rw[jb1];exact h 0 k i (by omega) (by omega) hi
theorem jnf {c:Nat->Tri} {k:Nat} (h:Tp c n) (n3:3<=n) (hi:i<n) (hk:k<n):0<=dt (c i) (c ((i+1) % n)) (c k):=by
 by_cases k1:k=i
 ·rw[k1,(jcu _ _).2.2];exact xaW _
 ·by_cases k2:k=(i+1) % n
  ·rw[k2,(jcu _ _).2.1];exact xaW _
  ·exact xar (jbs h n3 hi hk k1 k2)
theorem Rng.own (R:Rng vs) {v:Tri} (hv:v∈vs):InR vs v:=fun e he=>by
 obtain⟨i,hi,rfl⟩:=jcv he;obtain⟨k,hk,rfl⟩:=jdJ hv;exact jnf R.tp R.n3 hi hk
theorem jjO (a b c p:Tri):dt a b c*p.x=dt p b c*a.x+dt a p c*b.x+dt a b p*c.x/\dt a b c*p.y=dt p b c*a.y+dt a p c*b.y+dt a b p*c.y/\dt a b c*p.z=dt p b c*a.z+dt a p c*b.z+dt a b p*c.z:=by
 unfold dt jaY;refine⟨?_,?_,?_⟩<;>grind
theorem jhO (A B C:Int) (a b c p:Tri):dt a b c*jax A B C p=dt p b c*jax A B C a+dt a p c*jax A B C b+dt a b p*jax A B C c:=by
 obtain⟨e1,e2,e3⟩:=jjO a b c p;have e:dt a b c*jax A B C p=A*(dt a b c*p.x)+B*(dt a b c*p.y)+C*(dt a b c*p.z):=by unfold jax;grind
 rw[e,e1,e2,e3];unfold jax;grind
theorem jfY {g:Nat->Int}:∀m:Nat,0<=g 1->g (m+2)<=0->∃j,1<=j/\j<=m+1/\0<=g j/\g (j+1)<=0
  | 0,h1,h2=>⟨1,by omega,by omega,h1,h2⟩
  | m + 1, h1, h2 => by
    by_cases c:0<=g (m+2)
    . exact⟨m+2,by omega,by omega,c,h2⟩
    . obtain⟨j,a,b,c1,c2⟩:=jfY m h1 (by omega)
      exact⟨j,a,by omega,c1,c2⟩
theorem hull (R:Rng vs) {p:Tri} (hp:InR vs p) (pz:1<=p.z):∃(a b c:Tri) (α β γ D:Int),a∈vs/\b∈vs/\c∈vs/\0<D/\0<=α/\0<=β/\0<=γ/\(0<α\/0<β\/0<γ)/\(D*p.x=α*a.x+β*b.x+γ*c.x/\D*p.y=α*a.y+β*b.y+γ*c.y/\D*p.z=α*a.z+β*b.z+γ*c.z)/\∀A B C:Int,D*jax A B C p=α*jax A B C a+β*jax A B C b+γ*jax A B C c:=by
 have n3:=R.n3;have m:∀i,i % vs.length<vs.length:=fun i=>xaA _ (by omega);have E:∀i,i<vs.length->0<=dt (tr vs i) (tr vs ((i+1) % vs.length)) p:=fun i hi=>hp _ (je4 hi);have g1:0<=dt (tr vs 0) (tr vs 1) p:=by
  have:=E 0 (by omega);rw[xbw,xak (by omega)] at this;exact this
 have g2:dt (tr vs 0) (tr vs (vs.length-3+2)) p<=0:=by
  have:=E (vs.length-1) (by omega);rw[show vs.length-1+1=vs.length by omega,xa4] at this;rw[show vs.length-3+2=vs.length-1 by omega];have sw:dt (tr vs 0) (tr vs (vs.length-1)) p=-dt (tr vs (vs.length-1)) (tr vs 0) p:=by unfold dt jaY;grind
  omega
 obtain⟨j,j1,j2,h1,h2⟩:=jfY (g:=fun j=>dt (tr vs 0) (tr vs j) p) (vs.length-3) g1 g2;have jl:j+1<vs.length:=by omega
 have h3:=E j (by omega);rw[xak jl] at h3;have D:=R.tp 0 j (j+1) (by omega) (by omega) jl;have s1:dt p (tr vs j) (tr vs (j+1))=dt (tr vs j) (tr vs (j+1)) p:=jb1 _ _ _;have s2:dt (tr vs 0) p (tr vs (j+1))=-dt (tr vs 0) (tr vs (j+1)) p:=by unfold dt jaY;grind
 have cr:=jjO (tr vs 0) (tr vs j) (tr vs (j+1)) p;refine⟨tr vs 0,tr vs j,tr vs (j+1),dt p (tr vs j) (tr vs (j+1)),dt (tr vs 0) p (tr vs (j+1)),dt (tr vs 0) (tr vs j) p,dt (tr vs 0) (tr vs j) (tr vs (j+1)),jaH (by omega),jaH (by omega),jaH jl,D,by omega,by omega,h1,?_,cr,fun A B C=>jhO A B C _ _ _ _⟩;apply xau;intro n;have a0:dt p (tr vs j) (tr vs (j+1))=0:=by omega
 have b0:dt (tr vs 0) p (tr vs (j+1))=0:=by omega
 have c0:dt (tr vs 0) (tr vs j) p=0:=by
  have:0<=dt (tr vs 0) (tr vs j) p:=h1;omega
 have e:=cr.2.2;rw[a0,b0,c0] at e;have:=xaf D (show 0<p.z by omega);omega
theorem jjP (R:Rng vs) {p:Tri} (hp:InR vs p) (pz:1<=p.z) {C:Int} (h:∀v∈vs,0<=jax A B C v):0<=jax A B C p:=by
 obtain⟨a,b,c,α,β,γ,D,ha,hb,hc,D0,a0,b0,c0,_,_,e⟩:=hull R hp pz;have e:=e A B C;have h1:=xag a0 (h a ha);have h2:=xag b0 (h b hb);have h3:=xag c0 (h c hc);rcases xaL (jax A B C p) 0 with q | q
 ·have:=xan D0 q;omega
 ·exact q
theorem jfu (a b p:Tri):dt a b p=jax (a.y*b.z-a.z*b.y) (a.z*b.x-a.x*b.z) (a.x*b.y-a.y*b.x) p:=rfl
theorem jgF (hi:i<n):((i+(n-1)) % n+1) % n=i:=by
 by_cases c:i=0
 ·subst c;rw[xbw,xak (show n-1<n by omega),show n-1+1=n by omega,xa4]
 ·rw[show i+(n-1)=i-1+n by omega,xbp,xak (show i-1<n by omega),show i-1+1=i by omega,xak hi]
theorem Rng.corner (R:Rng us) (hi:i<us.length):0<dt (tr us ((i+(us.length-1)) % us.length)) (tr us i) (tr us ((i+1) % us.length)):=by
 have n3:=R.n3;have hm:(i+(us.length-1)) % us.length<us.length:=xaA _ (by omega);have:=jbs (k:=(i+1) % us.length) R.tp n3 hm (xaA _ (by omega)) (by
  by_cases c:i=0
  ·subst c;rw[xbw,xbw,xak (by omega),xak (by omega)];omega
  ·by_cases d:i+1<us.length
   ·rw[show i+(us.length-1)=i-1+us.length by omega,xbp,xak d,xak (by omega)];omega
   ·rw[show i+(us.length-1)=i-1+us.length by omega,xbp,show i+1=us.length by omega,xa4,xak (by omega)];omega) (by
  rw[jgF hi];by_cases d:i+1<us.length
  ·rw[xak d];omega
  ·rw[show i+1=us.length by omega,xa4];omega)
 rw[jgF hi] at this;exact this
theorem Prp.trans {u v w:Tri} (h:Prp u v) (k:Prp v w):Prp u w:=by
 obtain⟨a,b,a0,b0,e1,e2,e3⟩:=h;obtain⟨c,d,c0,d0,f1,f2,f3⟩:=k;refine⟨c*a,b*d,xaf c0 a0,xaf b0 d0,?_,?_,?_⟩
 ·grind
 ·grind
 ·grind
def OnE (vs:List Tri) (a b:Tri):Prop:=∃e∈prs vs,∃k m:Int,0<k/\0<m/\∀q:Tri,k*dt a b q=m*dt e.1 e.2 q
def Nb (h:Tri->Int) (vs:List Tri) (a b:Tri):Prop:=OnE vs a b\/(h a=0/\h b=0)
theorem Adj.mono {α:Type} {R S:α->α->Prop} (i:∀a b,R a b->S a b):∀{l:List α},Adj R l->Adj S l
 | [],_=>trivial
 | [_],_=>trivial
 | _::b::l,h=>⟨i _ _ h.1,Adj.mono i (l:=b::l) h.2⟩
theorem jk9 {α:Type} {h:α->Int} {P:α->α->Prop} (l:List α):∀x:α,(0<=h x->Adj (fun x y=>¬(h x<0/\0<h y)/\¬(0<h x/\h y<0)) (x::l)->Adj P (x::l)->Adj (fun a b=>P a b\/(h a=0/\h b=0)) (x::l.filter fun p=>decide (0<=h p))) /\
    (∀y:α,h x=0->h y<0->Adj (fun x y=>¬(h x<0/\0<h y)/\¬(0<h x/\h y<0)) (y::l)->Adj P (y::l)->Adj (fun a b=>P a b\/(h a=0/\h b=0)) (x::l.filter fun p=>decide (0<=h p))):=by
  induction l with
  | nil=>exact fun x=>⟨fun _ _ _=>trivial,fun _ _ _ _ _=>trivial⟩
  | cons z l ih =>
    intro x;refine⟨fun hx c p=>?_,fun y hx hy c p=>?_⟩
    . by_cases hz:0 <= h z
      . rw[xaT (by exact decide_eq_true hz)]
        exact⟨.inl p.1,(ih z).1 hz c.2 p.2⟩
      . rw[xa6 (by simpa using hz)]
        have:=c.1;exact (ih x).2 z (by omega) (by omega) c.2 p.2
    . by_cases hz:0 <= h z
      . rw[xaT (by exact decide_eq_true hz)]
        have:=c.1;exact⟨.inr ⟨hx,by omega⟩,(ih z).1 hz c.2 p.2⟩
      . rw[xa6 (by simpa using hz)]
        exact (ih x).2 z hx (by omega) c.2 p.2
theorem jlY {α:Type} {R:α->α->Prop}:∀{l:List α},Adj R l->∀e∈op l,R e.1 e.2
  | [],_,e,he=>by cases he
  | [_],_,e,he=>by cases he
  | a :: b :: l, h, e, he => by
    rcases xam.mp (show e∈(a,b)::op (b::l) from he) with q | q
    . rw[q];exact h.1
    . exact jlY (l:=b::l) h.2 e q
theorem joP {α:Type} (x:α) (r:List α):prs (x::r)=op (x::r++[x]):=jhJ x (x::r)
theorem joQ (hX:∀a b,a∈vs->b∈vs->h a*h b<0->Prp (xp h a b) (X a b)):∀(r:List Tri) (x a:Tri),x∈vs->a∈vs->(∀v∈r,v∈vs)->(∀e∈nxt (x::r) a,e∈prs vs)->∃w,(nxt (x::r) a).flatMap (agE h X)=x::w/\Adj (OnE vs) (x::w++[a]):=by
  have one:∀x y,x∈vs->y∈vs->(x,y)∈prs vs->Adj (OnE vs) (agE h X (x,y)++[y]):=fun x y hx hy he=>by
    unfold agE;by_cases o:h x*h y<0
    . obtain⟨k,m,k0,m0,e1,e2,e3⟩:=hX x y hx hy o
      obtain⟨n1,n2,_,_⟩:=jdb o;have p1:=jby n1;have p2:=jby n2;simp only[if_pos o];have lin:∀(a b:Tri),(∀q:Tri,m*dt a (X x y) q=k*dt a (xp h x y) q)/\∀q:Tri,m*dt (X x y) b q=k*dt (xp h x y) b q:=fun a b=>by
        generalize X x y=v at *
        generalize xp h x y=u at *
        refine⟨fun q=>?_,fun q=>?_⟩
        . have:∀(c:Int) (u:Tri),c*dt a u q=dt a ⟨c*u.x,c*u.y,c*u.z⟩ q:=fun c u=>by unfold dt jaY; grind
          rw[this,this,e1,e2,e3]
        . have:∀(c:Int) (u:Tri),c*dt u b q=dt ⟨c*u.x,c*u.y,c*u.z⟩ b q:=fun c u=>by unfold dt jaY; grind
          rw[this,this,e1,e2,e3]
      have f1:∀q,dt x (xp h x y) q=ab (h x)*dt x y q:=fun q=>by
        unfold xp;rw[jhd,(jcu x q).1];grind
      have f2:∀q,dt (xp h x y) y q=ab (h y)*dt x y q:=fun q=>by
        unfold xp;rw[jjA,(jcu y q).1];grind
      refine⟨⟨(x,y),he,m,k*ab (h x),m0,xaf k0 p1,fun q=>by rw[(lin x y).1 q,f1 q];grind⟩,⟨(x,y),he,m,k*ab (h y),m0,xaf k0 p2,fun q=>by rw[(lin x y).2 q,f2 q];grind⟩,trivial⟩
    . simp only[if_neg o]
      exact⟨⟨(x,y),he,1,1,by decide,by decide,fun _=>rfl⟩,trivial⟩
  intro r;induction r with
  | nil =>
    intro x a hx ha _ he;refine⟨if h x*h a<0 then [X x a] else [],?_,one x a hx ha (he _ (by simp [nxt]))⟩;show agE h X (x,a)++[]=_;rw[xbY];rfl
  | cons y r ih =>
    intro x a hx ha hr he;obtain⟨w,e1,e2⟩:=ih y a (hr y (by simp)) ha (fun v hv=>hr v (xad _ hv)) fun e h'=>he e (by simp [nxt,h']);refine⟨(if h x*h y<0 then [X x y] else [])++y::w,?_,?_⟩
    . show agE h X (x,y)++(nxt (y::r) a).flatMap (agE h X)=_
      rw[e1];rfl
    . have g:=Adj.glue (l:=agE h X (x,y)) (x:=y) (m:=w++[a]) (one x y hx (hr y (by simp)) (he _ (by simp [nxt]))) e2
      have e:x::((if h x*h y<0 then [X x y] else [])++y::w)++[a]=agE h X (x,y)++y::(w++[a]):=by
        unfold agE;simp
      rw[e];exact g
theorem prs_rot_mem {α:Type} {l m:List α} {e:α × α}:e∈prs (l++m)↔e∈prs (m++l):=by
 have z:=jdp (l++m) l.length;rw[xbQ,xbR] at z;rw[z,xay,Or.comm,<- xay,xaJ]
theorem jng {C:Int} (hz:∀v∈vs,1<=v.z) (hX:∀a b,a∈vs->b∈vs->jax A B C a*jax A B C b<0->Prp (xp (jax A B C) a b) (X a b)) (up:∃v∈vs,0<jax A B C v):∀e∈prs (upL (jax A B C) X vs),Nb (jax A B C) vs e.1 e.2:=by
  have x0:=fun a b ha hb o=>jfV (hX a b ha hb o) (jhi (A:=A) (B:=B) (C:=C) o);obtain⟨u,hu,pu⟩:=up;rw[<- ag_up x0]
  match vs,hz,hX,x0,hu with
  | x :: r, hz, hX, x0, hu =>
    obtain⟨w,e1,e2,_⟩:=joE (h:=jax A B C) (X:=X) (S:=fun v=>v∈x::r) hz (fun a b ha hb o=>⟨hX a b ha hb o,x0 a b ha hb o⟩) (a:=x) (by simp) r x (by simp) fun v hv=>xad _ hv;obtain⟨w',e1',e3⟩:=joQ (h:=jax A B C) hX r x x (by simp) (by simp) (fun v hv=>xad _ hv) fun e he=>he;have ww:w'=w:=by
      have:=e1'.symm.trans e1;injection this
    subst ww;have eA:agL (jax A B C) X (x::r)=x::w':=e1;have um:u∈x::w':=by
      rw[<- eA];obtain⟨i,hi,rfl⟩:=jdJ hu;refine xbm.mpr ⟨_,xaD (jcT t0 hi),?_⟩;exact xaN
    obtain⟨l1,l2,el⟩:=List.append_of_mem um;rw[eA,el];have rotA:∀{R:Tri->Tri->Prop},Adj R (x::w'++[x])->Adj R (u::(l2++l1)++[u]):=fun {R} c=>by
      have c1:Adj R (l1++u::(l2++[x])):=by
        have e2:x::w'++[x]=l1++u::(l2++[x]):=by rw[el];simp
        rw[<- e2];exact c
      cases l1 with
      | nil =>
        have:x=u:=by injection el
        subst this;simpa using c1
      | cons x' l1 =>
        have:x=x':=by injection el
        subst this;have g:=Adj.glue (l:=u::l2) (x:=x) (m:=l1++[u]) c1.right c1.left;simpa using g
    have a1:=rotA e2;have a2:=rotA e3;have a1':Adj (fun x y=>¬(jax A B C x<0/\0<jax A B C y)/\¬(0<jax A B C x/\jax A B C y<0)) (u::((l2++l1)++[u])):=a1;have a2':Adj (OnE (x::r)) (u::((l2++l1)++[u])):=a2;have f:=(jk9 (h:=jax A B C) (P:=OnE (x::r)) ((l2++l1)++[u]) u).1 (by omega) a1' a2';rw[xaz,xaT (by exact decide_eq_true (show 0<=jax A B C u by omega)),List.filter_nil] at f;intro e he;have he':e∈prs (u::(l2++l1).filter fun p=>decide (0<=jax A B C p)):=by
      rw[xaz,xaT (by exact decide_eq_true (show 0<=jax A B C u by omega))] at he;have z:=prs_rot_mem.mp he;rw[xaz];exact z
    rw[joP] at he';exact jlY f e he'
theorem je5 {C:Int} {a b:Tri} (ha:jax A B C a=0) (hb:jax A B C b=0) (q u:Tri):dt a b q*jax A B C u=jax A B C q*dt a b u:=by
 unfold jax at *
 unfold dt jaY;grind
theorem jil {C:Int} (R:Rng vs) (hX:∀a b,a∈vs->b∈vs->jax A B C a*jax A B C b<0->Prp (xp (jax A B C) a b) (X a b)) (up:∃v∈vs,0<jax A B C v):Rng (upL (jax A B C) X vs)/\∀p:Tri,1<=p.z->(InR (upL (jax A B C) X vs) p↔InR vs p/\0<=jax A B C p):=by
 have N:=jng R.hz hX up;have x0:=fun a b ha hb o=>jfV (hX a b ha hb o) (jhi (A:=A) (B:=B) (C:=C) o);have R2:Rng (upL (jax A B C) X vs):=by
  obtain⟨u,hu,pu⟩:=up;obtain⟨i,hi,rfl⟩:=jdJ hu;refine⟨jm6 hX R.n3 hi pu,up_tp hX R.n3 R.tp,fun v hv=>?_⟩;rcases jlU hv with ⟨h,_⟩ | ⟨a,b,ha,hb,o,rfl⟩
  ·exact R.hz v h
  ·exact (hX a b ha hb o).z (xp_z (R.hz a ha) (R.hz b hb) o)
 have inn:∀v∈upL (jax A B C) X vs,InR vs v/\0<=jax A B C v:=fun v hv=>by
  rcases jlU hv with ⟨h,h0⟩ | ⟨a,b,ha,hb,o,rfl⟩
  ·exact⟨R.own h,h0⟩
  ·refine⟨fun e he=>?_,by rw[x0 a b ha hb o];exact xaW _⟩;obtain⟨k,m,k0,m0,e1,e2,e3⟩:=hX a b ha hb o;obtain⟨n1,n2,_,_⟩:=jdb o;have p1:=jby n1;have p2:=jby n2;have f1:=R.own ha e he;have f2:=R.own hb e he;have f3:dt e.1 e.2 (xp (jax A B C) a b)=ab (jax A B C b)*dt e.1 e.2 a+ab (jax A B C a)*dt e.1 e.2 b:=by unfold xp;exact jgC ..
   have f4:m*dt e.1 e.2 (X a b)=k*dt e.1 e.2 (xp (jax A B C) a b):=by
    rw[jfu,jfu];exact (jjK e1 e2 e3).symm
   have g1:=xag (xar p2) f1;have g2:=xag (xar p1) f2;have g3:=xag (xar k0) (show 0<=dt e.1 e.2 (xp (jax A B C) a b) by omega);rw[<- f4] at g3;rcases xaL (dt e.1 e.2 (X a b)) 0 with q | q
   ·have:=xan m0 q;omega
   ·exact q
 refine⟨R2,fun p pz=>⟨fun hp=>⟨fun e he=>?_,?_⟩,fun ⟨hp,h0⟩ e he=>?_⟩⟩
 ·rw[jfu];exact jjP R2 hp pz fun v hv=>by rw[<- jfu];exact (inn v hv).1 e he
 ·exact jjP R2 hp pz fun v hv=>(inn v hv).2
 ·rcases N e he with ⟨e',he',k,m,k0,m0,eq⟩ | ⟨z1,z2⟩
  ·have g:=xag (xar m0) (hp e' he');rw[<- eq p] at g;rcases xaL (dt e.1 e.2 p) 0 with q | q
   ·have:=xan k0 q;omega
   ·exact q
  ·obtain⟨u,hu,pu⟩:=up;have um:u∈upL (jax A B C) X vs:=by
    obtain⟨i,hi,rfl⟩:=jdJ hu;refine xbm.mpr ⟨_,je4 hi,?_⟩;unfold upE;rw[if_pos (by show 0<=jax A B C (tr vs i);omega)];exact xbO _ (by simp)
   have l:=je5 z1 z2 p u;have g:=xag h0 (R2.own um e he);rw[<- l] at g;rcases xaL (dt e.1 e.2 p) 0 with q | q
   ·have:=xaE q pu;omega
   ·exact q
structure Ln where
 A:Int
 B:Int
 C:Int
def hf (l:Ln):Tri->Int:=jax l.A l.B l.C
theorem joR (h:Tri->Int):UP h []=[]:=je3 fun ⟨_,hv,_⟩=>nomatch hv
noncomputable def KP:List Ln->List Tri->List Tri
 | [],vs=>vs
 | l::ls,vs=>KP ls (UP (hf l) vs)
theorem jgG:∀ls:List Ln,KP ls []=[]
 | []=>rfl
 | l::ls=>by show KP ls (UP (hf l) [])=[];rw[joR,jgG ls]
theorem jjQ:∀(ls ms:List Ln) (vs:List Tri),KP (ls++ms) vs=KP ms (KP ls vs)
 | [],_,_=>rfl
 | l::ls,ms,vs=>jjQ ls ms (UP (hf l) vs)
theorem jbN {l:Ln} (R:Rng vs) (up:∃v∈vs,0<hf l v):Rng (UP (hf l) vs)/\∀p:Tri,1<=p.z->(InR (UP (hf l) vs) p↔InR vs p/\0<=hf l p):=by
 rw[jcU up];exact jil R (fun a b ha hb o=>jgE (R.hz a ha) (R.hz b hb) o) up
theorem jnh:∀(ls:List Ln) {vs:List Tri},Rng vs->KP ls vs=[]\/(Rng (KP ls vs)/\(∀p:Tri,1<=p.z->(InR (KP ls vs) p↔InR vs p/\∀l∈ls,0<=hf l p))/\∀l∈ls,∃q,hf l q≠0)
  | [],vs,R=>.inr ⟨R,fun p _=>⟨fun h=>⟨h,fun _ hl=>nomatch hl⟩,fun h=>h.1⟩,fun _ hl=>nomatch hl⟩
  | l :: ls, vs, R => by
    by_cases up:∃v∈vs,0<hf l v
    . obtain⟨R2,e2⟩:=jbN R up
      rcases jnh ls R2 with h | ⟨h1,h2,h3⟩
      . exact .inl h
      . refine .inr ⟨h1,fun p pz=>?_,fun m hm=>?_⟩
        . show InR (KP ls (UP (hf l) vs)) p↔_
          rw[h2 p pz,e2 p pz];constructor
          . rintro⟨⟨a,b⟩,c⟩
            exact⟨a,fun m hm=>by
              rcases xam.mp hm with q | q
              . rw[q];exact b
              . exact c m q⟩
          . rintro⟨a,c⟩
            exact⟨⟨a,c l (by simp)⟩,fun m hm=>c m (xad _ hm)⟩
        . rcases xam.mp hm with q | q
          . obtain⟨v,_,hv⟩:=up
            exact⟨v,by rw[q];omega⟩
          . exact h3 m q
    . left
      show KP ls (UP (hf l) vs)=[];rw[je3 up,jgG]
def cen:List Tri->Tri
 | []=>⟨0,0,0⟩
 | v::l=>⟨v.x+(cen l).x,v.y+(cen l).y,v.z+(cen l).z⟩
theorem joS (A B C:Int) (v:Tri) (l:List Tri):jax A B C (cen (v::l))=jax A B C v+jax A B C (cen l):=by
 unfold jax;show A*(v.x+(cen l).x)+B*(v.y+(cen l).y)+C*(v.z+(cen l).z)=_;grind
theorem jjR {A B C:Int}:∀{l:List Tri},(∀v∈l,0<=jax A B C v)->0<=jax A B C (cen l)
  | [],_=>by unfold jax cen;simp
  | v :: l, h => by
    rw[joS];have h1:=h v (by simp);have h2:=jjR (l:=l) fun u hu=>h u (xad _ hu);omega
theorem jjS {A B C:Int}:∀{l:List Tri},(∀v∈l,0<=jax A B C v)->(∃v∈l,0<jax A B C v)->0<jax A B C (cen l)
  | [],_,⟨_,hv,_⟩=>nomatch hv
  | v :: l, h, ⟨u, hu, pu⟩ => by
    rw[joS];have h1:=h v (by simp);have h2:=jjR (l:=l) fun u hu=>h u (xad _ hu);rcases xam.mp hu with q | q
    . subst q;omega
    . have:=jjS (l:=l) (fun u hu=>h u (xad _ hu)) ⟨u,q,pu⟩
      omega
theorem joT:∀{l:List Tri},(∀v∈l,1<=v.z)->l≠[]->1<=(cen l).z
  | [],_,h=>(h rfl).elim
  | [v], h, _ => by
    have:=h v (by simp);show 1<=v.z+0;omega
  | v :: u :: l, h, _ => by
    have h1:=h v (by simp);have h2:=joT (l:=u::l) (fun w hw=>h w (xad _ hw)) (by simp);show 1<=v.z+(cen (u::l)).z;omega
theorem Rng.ne (R:Rng us):us≠[]:=fun e=>by have:=R.n3;rw[e] at this;simp at this
theorem Rng.cen (R:Rng us):1<=(cen us).z/\InR us (cen us)/\∀A B C:Int,(∀u∈us,0<=jax A B C u)->(∃q,jax A B C q≠0)->0<jax A B C (cen us):=by
 refine⟨joT R.hz R.ne,fun e he=>?_,fun A B C h ⟨q,hq⟩=>jjS h ?_⟩
 ·rw[jfu];exact jjR fun v hv=>by rw[<- jfu];exact R.own hv e he
 ·apply xau;intro n;have z:∀u∈us,jax A B C u=0:=fun u hu=>by
   have h1:=h u hu;have:¬0<jax A B C u:=fun p=>n ⟨u,hu,p⟩;omega
  have n3:=R.n3;have:=R.tp 0 1 2 (by omega) (by omega) (by omega);rw[jm9 hq (z _ (jaH (by omega))) (z _ (jaH (by omega))) (z _ (jaH (by omega)))] at this;omega
theorem jni {v:Tri} (hv:v∈upL h X vs):(v∈vs/\0<=h v)\/∃e∈prs vs,h e.1*h e.2<0/\v=X e.1 e.2:=by
 obtain⟨e,he,hv⟩:=xbm.mp hv;unfold upE at hv;rcases xay.mp hv with h1 | h1
 ·by_cases c:0<=h e.1
  ·rw[if_pos c,xaC] at h1;subst h1;exact .inl ⟨(jd4 he).1,c⟩
  ·rw[if_neg c] at h1;cases h1
 ·by_cases c:h e.1*h e.2<0
  ·rw[if_pos c,xaC] at h1;exact .inr ⟨e,he,c,h1⟩
  ·rw[if_neg c] at h1;cases h1
structure BI (b:Nat) (vs:List Tri):Prop where
 ed:∀e∈prs vs,∃l:Ln,Bd b l.A/\Bd b l.B/\Bd b l.C/\hf l e.1=0/\hf l e.2=0/\∃q,hf l q≠0
 vb:∀v∈vs,v.bd (b+b+1)
theorem jjT {v:Tri} (hz:1<=v.z):gl [(jhf v).x,(jhf v).y,(jhf v).z]=1:=by
 have g0:0<gl [v.x,v.y,v.z]:=jco (n:=v.z) (by simp) (by omega);have d:∀n∈[v.x,v.y,v.z],gl [v.x,v.y,v.z]*(n / gl [v.x,v.y,v.z])=n:=fun n hn=>xbf (jaR hn);have e:=jjt g0 [(jhf v).x,(jhf v).y,(jhf v).z];have e2:[(jhf v).x,(jhf v).y,(jhf v).z].map (gl [v.x,v.y,v.z]*·)=[v.x,v.y,v.z]:=by
  simp only[xaS,xck,jhf];rw[d v.x (by simp),d v.y (by simp),d v.z (by simp)]
 rw[e2] at e;have:gl [v.x,v.y,v.z]*(gl [(jhf v).x,(jhf v).y,(jhf v).z]-1)=0:=by rw[Int.mul_sub];omega
 rcases xai.mp this with q | q<;>omega
theorem prim3 {z b c:Int} (g:gl [x,y,z]=1) (n:¬(a=0/\b=0/\c=0)) (h1:a*y=b*x) (h2:b*z=c*y) (h3:a*z=c*x):x.natAbs<=a.natAbs/\y.natAbs<=b.natAbs/\z.natAbs<=c.natAbs:=by
 have dv:∀{k m:Int},k ∣ m*x->k ∣ m*y->k ∣ m*z->k ∣ m:=fun {k m} d1 d2 d3=>by
  have:=je0 [x,y,z] 0 k m (by rw[xaq];exact Int.dvd_zero k) (fun q hq=>by
   simp only[xam,List.not_mem_nil,or_false] at hq;rcases hq with rfl | rfl | rfl
   ·exact d1
   ·exact d2
   ·exact d3)
  have e:m*G 0 [x,y,z]=m:=by
   show m*gl [x,y,z]=m;rw[g,Int.mul_one]
  rw[e] at this;exact this
 have le:∀{k m:Int},k ∣ m->(m=0->k=0)->k.natAbs<=m.natAbs:=fun {k m} d z=>by
  by_cases m0:m=0
  ·rw[z m0,m0];exact xaj _
  ·exact Nat.le_of_dvd (by omega) (Int.natAbs_dvd_natAbs.mpr d)
 have kz:∀{p q:Int},p≠0->p*q=0->q=0:=fun hp h=>(xai.mp h).resolve_left hp;refine⟨le (dv ⟨a,by rw[xaI]⟩ ⟨b,by rw[h1,xaI]⟩ ⟨c,by rw[h3,xaI]⟩) fun e=>?_,le (dv ⟨a,by rw[<- h1,xaI]⟩ ⟨b,by rw[xaI]⟩ ⟨c,by rw[h2,xaI]⟩) fun e=>?_,le (dv ⟨a,by rw[<- h3,xaI]⟩ ⟨b,by rw[<- h2,xaI]⟩ ⟨c,by rw[xaI]⟩) fun e=>?_⟩
 ·subst e;rw[xaK] at h1 h3;by_cases b0:b=0
  ·exact kz (show c≠0 from fun q=>n ⟨rfl,b0,q⟩) h3.symm
  ·exact kz b0 h1.symm
 ·subst e;rw[xaK] at h1 h2;by_cases a0:a=0
  ·exact kz (show c≠0 from fun q=>n ⟨a0,rfl,q⟩) h2.symm
  ·exact kz a0 h1
 ·subst e;rw[xaK] at h2 h3;by_cases a0:a=0
  ·exact kz (show b≠0 from fun q=>n ⟨a0,q,rfl⟩) h2
  ·exact kz a0 h3
theorem BI.up {b:Nat} {l:Ln} (R:Rng vs) (I:BI b vs) (lA:Bd b l.A) (lB:Bd b l.B) (lC:Bd b l.C) (up:∃v∈vs,0<hf l v):BI b (UP (hf l) vs):=by
 rw[jcU up];have hX:∀a b,a∈vs->b∈vs->hf l a*hf l b<0->Prp (xp (hf l) a b) (bt (hf l) a b):=fun a b ha hb o=>jgE (R.hz a ha) (R.hz b hb) o;have N:=jng (A:=l.A) (B:=l.B) (C:=l.C) R.hz hX up;refine⟨fun e he=>?_,fun v hv=>?_⟩
 ·rcases N e he with ⟨e',he',k,m,k0,m0,eq⟩ | ⟨z1,z2⟩
  ·obtain⟨l',b1,b2,b3,q1,q2,nz⟩:=I.ed e' he';obtain⟨i,hi,rfl⟩:=jcv he';have n3:=R.n3;obtain⟨j,hj,j1,j2⟩:=jbh (n:=vs.length) (i:=i) (j:=(i+1) % vs.length) n3;have pos:=jbs R.tp n3 hi hj (Ne.symm j2) (Ne.symm j1);have on:∀a:Tri,dt e.1 e.2 a=0->hf l' a=0:=fun a ha=>by
    have h1:=eq a;rw[ha,xaq] at h1;have h2:=(xai.mp h1.symm).resolve_left (by omega);have h3:=je5 q1 q2 a (tr vs j);simp only at h2 h3;rw[h2,xaK] at h3;exact (xai.mp h3.symm).resolve_right (by omega)
   exact⟨l',b1,b2,b3,on _ (jcu _ _).2.2,on _ (jcu _ _).2.1,nz⟩
  ·obtain⟨u,_,pu⟩:=up;exact⟨l,lA,lB,lC,z1,z2,u,by omega⟩
 ·rcases jni hv with ⟨h,_⟩ | ⟨e,he,o,rfl⟩
  ·exact I.vb v h
  ·obtain⟨l',b1,b2,b3,q1,q2,⟨q,nz⟩⟩:=I.ed e he;obtain⟨m1,m2⟩:=jd4 he;have xz:=xp_z (h:=hf l) (R.hz _ m1) (R.hz _ m2) o;have p:=hX _ _ m1 m2 o;have r1:hf l (bt (hf l) e.1 e.2)=0:=jfV p (jhi o);have r2:hf l' (bt (hf l) e.1 e.2)=0:=jfV p (by
    unfold xp jfT;have:jax l'.A l'.B l'.C e.1=0:=q1;have:jax l'.A l'.B l'.C e.2=0:=q2;generalize ab (hf l e.2)=s at *
    generalize ab (hf l e.1)=t at *
    unfold jax at *
    grind)
   have g:=jjT xz;have ne:¬(l'.B*l.C-l'.C*l.B=0/\l'.C*l.A-l'.A*l.C=0/\l'.A*l.B-l'.B*l.A=0):=fun ⟨z1,z2,z3⟩=>by
    have k1:hf l e.1*hf l' q=hf l' e.1*hf l q:=by
     unfold hf jax;grind
    rw[q1,xaK] at k1;rcases xai.mp k1 with w | w
    ·exact (jdb o).1 w
    ·exact nz w
   change jax _ _ _ _=0 at r1 r2;have gg:gl [(bt (hf l) e.1 e.2).x,(bt (hf l) e.1 e.2).y,(bt (hf l) e.1 e.2).z]=1:=g;generalize bt (hf l) e.1 e.2=w at r1 r2 gg |-
   unfold jax at r1 r2;obtain⟨c1,c2,c3⟩:=prim3 gg ne (by grind) (by grind) (by grind);have cb:∀{i j k m:Int},Bd b i->Bd b j->Bd b k->Bd b m->Bd (b+b+1) (i*j-k*m):=fun h1 h2 h3 h4=>Bd.sub (Bd.mul h1 h2) (Bd.mul h3 h4);exact⟨jha c1 (cb b2 lC b3 lB),jha c2 (cb b3 lA b1 lC),jha c3 (cb b1 lB b2 lA)⟩
structure VF (vs:List Tri):Prop where
 rg:Rng vs
 bi:BI 145 vs
theorem jhP {l:Ln} (R:Rng vs):(UP (hf l) vs).length<=vs.length+1:=by
 by_cases up:∃v∈vs,0<hf l v
 ·rw[jcU up];exact jm7 (fun a b ha hb o=>jgE (R.hz a ha) (R.hz b hb) o) R.tp
 ·rw[je3 up];exact xaY _
theorem jlZ:∀(ls:List Ln) {vs:List Tri},Rng vs->(KP ls vs).length<=vs.length+ls.length
  | [],vs,_=>xaj _
  | l :: ls, vs, R => by
    show (KP ls (UP (hf l) vs)).length<=_;by_cases up:∃v∈vs,0<hf l v
    . have h1:=jlZ ls (jbN R up).1
      have h2:=jhP (l:=l) R;rw[xaw];omega
    . rw[je3 up,jgG]
      exact xaY _
theorem VF.up {l:Ln} (F:VF vs) (lA:Bd 145 l.A) (lB:Bd 145 l.B) (lC:Bd 145 l.C) (up:∃v∈vs,0<hf l v):VF (UP (hf l) vs):=⟨(jbN F.rg up).1,F.bi.up F.rg lA lB lC up⟩
theorem VF.six (R:Rng vs) (b:∀v∈vs,v.bd 6):VF vs:=by
 refine⟨R,fun e he=>?_,fun v hv=>jhN (b v hv)⟩;obtain⟨m1,m2⟩:=jd4 he;obtain⟨i,hi,rfl⟩:=jcv he;have n3:=R.n3;obtain⟨j,hj,j1,j2⟩:=jbh (n:=vs.length) (i:=i) (j:=(i+1) % vs.length) n3;have pos:=jbs R.tp n3 hi hj (Ne.symm j2) (Ne.symm j1);have b1:=b _ m1;have b2:=b _ m2;simp only at b1 b2 pos |-
 generalize tr vs i=a at *
 generalize tr vs ((i+1) % vs.length)=c at *
 have cb:∀{i j k m:Int},Bd 6 i->Bd 6 j->Bd 6 k->Bd 6 m->Bd 145 (i*j-k*m):=fun h1 h2 h3 h4=>Bd.mono (n:=13) (Bd.sub (n:=12) (Bd.mul h1 h2) (Bd.mul h3 h4));refine⟨⟨a.y*c.z-a.z*c.y,a.z*c.x-a.x*c.z,a.x*c.y-a.y*c.x⟩,cb b1.2.1 b2.2.2 b1.2.2 b2.2.1,cb b1.2.2 b2.1 b1.1 b2.2.2,cb b1.1 b2.2.1 b1.2.1 b2.1,(jcu a c).2.2,(jcu a c).2.1,tr vs j,?_⟩;have:hf ⟨a.y*c.z-a.z*c.y,a.z*c.x-a.x*c.z,a.x*c.y-a.y*c.x⟩ (tr vs j)=dt a c (tr vs j):=rfl;omega
def BdAt (H:Hp) (Z:Sht) (r:Addr) (us:List Tri):Prop:=∃(rs:List Addr) (ps:List Pt),H r=some (.tup (rs.map V.ref))/\Sps H rs ps/\RR (us.map (spt Z)) ps
theorem BdAt.keep {r:Addr} (h:BdAt H Z r us) (s:SameT H H'):BdAt H' Z r us :=
 let ⟨rs,ps,a,b,c⟩:=h
 ⟨rs,ps,s _ _ a,b.keep s,c⟩
def PtAt (H:Hp) (Z:Sht) (f:V) (us:List Tri):Prop:=(us=[]/\f=.non)\/(us≠[]/\∃r:Addr,f=.ref r/\BdAt H Z r us)
def jaT (Z:Sht) (p:Pt):Ln:=⟨lnA Z p.x p.y p.z,lnB Z p.x p.y p.z,lnC Z p.x p.y p.z p.w⟩
variable {E:XK}
theorem jla {b g:Addr} (F:VF vs) (hw:1<=Z.w) (nz:Z.u.nz) (n16:vs.length<=16) (sb:∀v:Tri,v.bd 291->(spt Z v).bd 322) (bp:p.bd 140) (bA:Bd 145 (jaT Z p).A) (bB:Bd 145 (jaT Z p).B) (bC:Bd 145 (jaT Z p).C)
  (hb:BdAt H Z b vs) (hg:Is4 H g p)
  (q:∀(t:Addr) (H':Hp) (f0 f1:V),Same H H'->H' t=some (.tup [f0,f1])->PtAt H' Z f1 (UP (hf (jaT Z p)) vs)->Q (.ref t) H'):jjx [.ref b,.ref g] H Q E:=by
 obtain⟨rs,ps,hb,hs,r⟩:=hb;have bs:∀u∈vs,(spt Z u).bd 322:=fun u hu=>sb u (F.bi.vb u hu);obtain⟨x,y,z,v⟩:=p;obtain⟨bx,by',bz,bv⟩:=bp;have ln:(vs.map (spt Z)).length=vs.length:=xaa _;have pl:ps.length=vs.length:=by rw[r.len,ln]
 have n3:=F.rg.n3;have mem:∀i,i<ps.length->∃u∈vs,pt ps i=spt Z u:=fun i hi=>by
  obtain⟨u,hu,e⟩:=xah.mp (r.mem.mp (jaI hi));exact⟨u,hu,e.symm⟩
 have mem':∀u∈vs,∃i,i<ps.length/\pt ps i=spt Z u:=fun u hu=>jb8 (r.mem.mpr (xah.mpr ⟨u,hu,rfl⟩));have hz:=F.rg.hz;have sg:=fun u (hu:u∈vs)=>jd6 (x:=x) (y:=y) (z:=z) (v:=v) (Z:=Z) (a:=u) hw (hz u hu);have wp:∀p∈ps,1<=p.w:=fun p hp=>by
  obtain⟨u,hu,e⟩:=xah.mp (r.mem.mp hp);rw[<- e];exact jgB hw (hz u hu)
 have hX:∀{x y z v:Int},∀a b,a∈vs->b∈vs->hL Z x y z v a*hL Z x y z v b<0->Prp (xp (hL Z x y z v) a b) (bt (hL Z x y z v) a b):=fun {x y z v} a b ha hb o=>jgE (hz a ha) (hz b hb) o;have eh:hf (jaT Z ⟨x,y,z,v⟩)=hL Z x y z v:=rfl;rw[eh] at q;have ne:vs≠[]:=F.rg.ne;refine⟨140,322,b,g,rs,ps,x,y,z,v,rfl,by decide,hb,hs,by omega,by omega,fun i hi=>?_,hg.1,bx,by',bz,bv,?_,?_⟩
 ·obtain⟨u,hu,e⟩:=mem i hi;rw[e];exact⟨bs u hu,jgB hw (hz u hu)⟩
 ·intro i hi c;have up:∃u∈vs,0<hf (jaT Z ⟨x,y,z,v⟩) u:=by
   have hm:(i+(ps.length-1)) % ps.length<ps.length:=xaA _ (by omega);obtain⟨u,hu,eu⟩:=mem i hi;obtain⟨u',hu',eu'⟩:=mem _ hm;rw[eu,eu'] at c;by_cases p:0<hL Z x y z v u
   ·exact⟨u,hu,p⟩
   ·refine⟨u',hu',xau fun p'=>?_⟩;have a1:¬0<hgt x y z v (spt Z u):=fun h=>p ((sg u hu).1.mp h);have a2:¬0<hgt x y z v (spt Z u'):=fun h=>p' ((sg u' hu').1.mp h);have z:∀{m:Int},¬0<m->sgn m=0\/sgn m=-1:=fun {m} h=>by
     unfold sgn;split
     ·exact absurd ‹_› h
     ·split
      ·exact .inr rfl
      ·exact .inl rfl
    rcases z a1 with z1 | z1<;>rcases z a2 with z2 | z2<;>rw[z1,z2] at c<;>exact absurd c (by decide)
  have R1:=je2 hw hz hX r (x:=x) (y:=y) (z:=z) (v:=v);obtain⟨u,hu,e⟩:=xah.mp (R1.mem.mp (xah.mpr ⟨(jbO (jcR x y z v (pt ps ((i+(ps.length-1)) % ps.length)) (pt ps i)),0),xbb.mpr ⟨xbm.mpr ⟨i,xaU.mpr hi,by unfold jip;rw[if_pos c];simp⟩,rfl⟩,rfl⟩));rw[show jbO (jcR x y z v (pt ps ((i+(ps.length-1)) % ps.length)) (pt ps i))=spt Z u from e.symm];have h:=sb u ((F.up bA bB bC up).bi.vb u (by rw[jcU up];exact hu));exact⟨Bd.mono h.1,Bd.mono h.2.1,Bd.mono h.2.2.1,Bd.mono h.2.2.2⟩
 by_cases up:∃u∈vs,0<hL Z x y z v u
 ·obtain⟨u,hu,pu⟩:=up;obtain⟨i,hi,ei⟩:=mem' u hu;by_cases dn:∃u∈vs,hL Z x y z v u<0
  ·obtain⟨d,hd,pd⟩:=dn;obtain⟨j,hj,ej⟩:=mem' d hd;have up':∃u∈vs,0<hf (jaT Z ⟨x,y,z,v⟩) u:=⟨u,hu,pu⟩;have dn':∃u∈vs,0<hf (jaT Z ⟨-x,-y,-z,-v⟩) u:=⟨d,hd,by
    show 0<hL Z (-x) (-y) (-z) (-v) d;rw[joM];omega⟩
   have F1:=(jbN F.rg up').1;have F2:=(jbN F.rg dn').1;have l3:=jhP (l:=jaT Z ⟨x,y,z,v⟩) F.rg;have l4:=jhP (l:=jaT Z ⟨-x,-y,-z,-v⟩) F.rg;have a1:=F1.n3;have a3:=F2.n3;have R1:=je2 hw hz hX r (x:=x) (y:=y) (z:=z) (v:=v);have R2:=je2 hw hz hX r (x:=-x) (y:=-y) (z:=-z) (v:=-v);rw[<- jne wp] at R2;have l1:=R1.len;have l2:=R2.len;rw[xaa] at l1 l2;rw[jcU up'] at F1 l3 a1;rw[jcU dn'] at F2 l4 a3;change Rng (upL (hL Z x y z v) (bt (hL Z x y z v)) vs) at F1;change (upL (hL Z x y z v) (bt (hL Z x y z v)) vs).length<=_ at l3;change 3<=(upL (hL Z x y z v) (bt (hL Z x y z v)) vs).length at a1;change (upL (hL Z (-x) (-y) (-z) (-v)) (bt (hL Z (-x) (-y) (-z) (-v))) vs).length<=_ at l4;change 3<=(upL (hL Z (-x) (-y) (-z) (-v)) (bt (hL Z (-x) (-y) (-z) (-v))) vs).length at a3;refine .inr (.inr (.inr ⟨⟨i,hi,by rw[ei];exact (sg u hu).1.mpr pu⟩,⟨j,hj,by rw[ej];exact (sg d hd).2.mpr pd⟩,by omega,by omega,by omega,by omega,fun t H' c1 c2 r1 r2 s' e1 e2 h2 e3 h3=>?_⟩));refine q t H' _ _ s' e1 (.inr ⟨?_,c2,rfl,r2,_,e3,h3,?_⟩)
   ·rw[jcU ⟨u,hu,pu⟩];exact F1.ne
   ·rw[jcU ⟨u,hu,pu⟩];exact R1.trans (joI _ _)
  ·refine .inr (.inl ⟨fun k hk=>?_,⟨i,hi,by rw[ei];exact (sg u hu).1.mpr pu⟩,fun t H' s' e'=>q t H' _ _ s' e' (.inr ⟨?_,b,rfl,rs,ps,s' _ _ hb,hs.keep s'.t,?_⟩)⟩)
   ·obtain⟨c,hc,e⟩:=mem k hk;rw[e];have:=(sg c hc).2;have:¬hL Z x y z v c<0:=fun h=>dn ⟨c,hc,h⟩;omega
   ·rw[jcU ⟨u,hu,pu⟩,jlX fun c hc=>by
     have:¬hL Z x y z v c<0:=fun h=>dn ⟨c,hc,h⟩;omega]
    exact ne
   ·rw[jcU ⟨u,hu,pu⟩,jlX fun c hc=>by
     have:¬hL Z x y z v c<0:=fun h=>dn ⟨c,hc,h⟩;omega]
    exact r
 ·have z0:UP (hL Z x y z v) vs=[]:=je3 up;by_cases dn:∃u∈vs,hL Z x y z v u<0
  ·obtain⟨d,hd,pd⟩:=dn;obtain⟨j,hj,ej⟩:=mem' d hd;refine .inr (.inr (.inl ⟨fun k hk=>?_,⟨j,hj,by rw[ej];exact (sg d hd).2.mpr pd⟩,fun t H' s' e'=>q t H' _ _ s' e' (.inl ⟨z0,rfl⟩)⟩));obtain⟨c,hc,e⟩:=mem k hk;rw[e];have:=(sg c hc).1;have:¬0<hL Z x y z v c:=fun h=>up ⟨c,hc,h⟩;omega
  ·refine .inl ⟨fun k hk=>?_,fun t H' s' e'=>q t H' _ _ s' e' (.inl ⟨z0,rfl⟩)⟩;obtain⟨c,hc,e⟩:=mem k hk;rw[e];have h1:=(sg c hc).1;have h2:=(sg c hc).2;have:¬0<hL Z x y z v c:=fun h=>up ⟨c,hc,h⟩;have:¬hL Z x y z v c<0:=fun h=>dn ⟨c,hc,h⟩;omega
def PlOk (Z:Sht) (p:Pt):Prop:=p.bd 140/\Bd 145 (jaT Z p).A/\Bd 145 (jaT Z p).B/\Bd 145 (jaT Z p).C
inductive spKepti (us:List V) (H:Hp) (Q:VK):Prop
 | mk (b l:Addr) (Z:Sht) (vs:List Tri) (rs:List Addr) (ps:List Pt) (_:us=[.ref b,.ref l]) (_:1<=Z.w) (_:Z.u.nz) (_:(∀v:Tri,v.bd 291->(spt Z v).bd 322)) (_:VF vs) (_:vs.length+ps.length<=17) (_:BdAt H Z b vs) (_:Cor H l rs ps) (_:(∀p∈ps,PlOk Z p)) (_:∀(f:V) (H':Hp),Same H H'->PtAt H' Z f (KP (ps.map (jaT Z)) vs)->Q f H')
def jjU:Sp:=fun us H Q _=>spKepti us H Q
theorem jnj (ls:List Ln) (l:Ln) (vs:List Tri):KP (ls++[l]) vs=UP (hf l) (KP ls vs):=jjQ ls [l] vs
theorem jnk (T:Tx K mg t1 t2) (F:At K mg "kept_by" jeO ["board","planes"] []) (DK:jal P w K mg base CX0 6 "cut_by" ["board","plane"] [] jjx):jal P w K mg base CX0 7 "kept_by" ["board","planes"] [] jjU:=by
 refine F.ok jfo (by walk_at "ar") (fun f cdv Ar outer s H vs Q E hr h=>?_);obtain⟨b,l,Z,vs,rs,ps,rfl,hw,nz,sb,Fv,n16,hb,⟨hl,hs⟩,ok,q⟩:=h;have S:=jfo;refine⟨_,(jag (jat (i:=2) S.nd rfl (Or.inl rfl) (pv 0))
  (jag (jbe PassesOwn.never rfl (ja9 (pv 1)) (jas (i:=3) S.nd rfl (Or.inl rfl))
  (jag (jat (i:=2) S.nd rfl (Or.inl rfl) (jam jao (jae DK hr.m rfl jaq (jaa (pv 2) (jaa (pv 3) jac jad) jad)) jab))
  (jah (jaV (jav jiE (pv 2) jcm (jaC _))
  (jah (jan jcm))
  jaz))))
  (jah (jan (pv 2))))),?_⟩
 have lm:(rs.map V.ref).length=ps.length:=by rw[xaa,hs.len]
 have kl:SqL K H l (rs.map V.ref):=SqL.of hl;walk_at "rf";refine⟨⟨_,kl⟩,jbC (K:=K) (a:=l) (xs:=rs.map V.ref) (fun i σ J=>Same H J/\i<=ps.length/\∃(r:Addr) (o3:Option V),σ=[some (.ref b),some (.ref l),some (.ref r),o3]/\BdAt J Z r (KP ((ps.take i).map (jaT Z)) vs)/\VF (KP ((ps.take i).map (jaT Z)) vs)/\(KP ((ps.take i).map (jaT Z)) vs).length<=vs.length+i) ⟨Same.refl _,xaY _,b,none,rfl,hb,Fv,xaj _⟩ (fun i σ J _ ⟨h,_⟩=>h.seq kl) ?_ ?_⟩
 ·rintro i v σ J hi ⟨sJ,_,r,o3,rfl,hB,F1,ln1⟩;have il:i<ps.length:=by have:=(xae.mp hi).1;omega
  obtain⟨b1,b2⟩:=hs.get il;rw[b1] at hi;cases hi;have ep:ps[i]?=some (pt ps i):=by
   unfold pt;rw[xab,xac il];rfl
  have pm:=jaI il;have eK:KP ((ps.take (i+1)).map (jaT Z)) vs=UP (hf (jaT Z (pt ps i))) (KP ((ps.take i).map (jaT Z)) vs):=by
   rw[xbB,ep,xap];exact jnj _ _ _
  have O:=ok _ pm;walk_at "rf";refine jla F1 hw nz (by omega) sb O.1 O.2.1 O.2.2.1 O.2.2.2 hB (b2.keep sJ) fun t J1 f0 f1 s1 e1 P1=>?_;rw[<- eK] at P1;refine ixT (SqT.of e1) rfl ?_;rcases P1 with ⟨z,rfl⟩ | ⟨z,r',rfl,hB'⟩
  ·rw[if_pos rfl];refine q _ _ (sJ.trans s1) (.inl ⟨?_,rfl⟩);have e:ps.map (jaT Z)=(ps.take (i+1)).map (jaT Z)++(ps.drop (i+1)).map (jaT Z):=by rw[<- xap,xaJ]
   rw[e,jjQ,z,jgG]
  ·rw[if_neg (by intro h;cases h)];have up:∃u∈KP ((ps.take i).map (jaT Z)) vs,0<hf (jaT Z (pt ps i)) u:=xau fun n=>z (by rw[eK,je3 n]);refine⟨sJ.trans s1,il,r',rfl,hB',?_,?_⟩
   ·rw[eK];exact F1.up O.2.1 O.2.2.1 O.2.2.2 up
   ·rw[eK];have:=jhP (l:=jaT Z (pt ps i)) F1.rg;omega
 ·rintro σ J ⟨sJ,_,r,o3,rfl,hB,F1,ln1⟩;walk_at "rf";rw[lm,xbt] at hB F1;exact q _ _ sJ (.inr ⟨F1.rg.ne,r,rfl,hB⟩)
theorem jlb {α:Type} {l m:List α} (h:RR l m):∃s:Bool,∀e:α × α,e∈prs m↔(if s=true then e else swE e)∈prs l:=by
  induction h with
  | refl=>exact⟨true,fun e=>Iff.rfl⟩
  | @rot m k _ ih =>
    obtain⟨s,h⟩:=ih;refine⟨s,fun e=>?_⟩;rw[jdp,xay,Or.comm,<- xay,xaJ];exact h e
  | @rev m _ ih =>
    obtain⟨s,h⟩:=ih;refine⟨!s,fun e=>?_⟩;obtain⟨k,ek⟩:=jjz m;rw[ek,List.mem_reverse,xah];have sw2:∀e:α × α,swE (swE e)=e:=fun e=>rfl;have e1:(∃a,a∈(prs m).drop k++(prs m).take k/\swE a=e)↔swE e∈prs m:=by
      constructor
      . rintro⟨a,ha,rfl⟩
        rw[xay,Or.comm,<- xay,xaJ] at ha;exact ha
      . intro ha
        refine⟨swE e,?_,sw2 e⟩;rw[xay,Or.comm,<- xay,xaJ];exact ha
    rw[e1,h];cases s<;>exact Iff.rfl
theorem edg_mem :e∈prs ws↔∃i,i<ws.length/\e=(tr ws ((i+(ws.length-1)) % ws.length),tr ws i):=by
 have h:e∈prs ws↔e∈(prs ws).drop (ws.length-1)++(prs ws).take (ws.length-1):=by rw[xay,Or.comm,<- xay,xaJ]
 rw[h,<- jlT t0,xah];constructor
 ·rintro⟨i,hi,rfl⟩;exact⟨i,xaU.mp hi,rfl⟩
 ·rintro⟨i,hi,rfl⟩;exact⟨i,xaU.mpr hi,rfl⟩
theorem joU:∀n,n<10->3<=n->∀a,a<n->(a+0) % n≠(a+1) % n/\(a+1) % n≠(a+2) % n/\(a+0) % n≠(a+2) % n:=by decide +kernel
theorem joV:∀n,n<10->3<=n->∀a,a<n->(a+(n-0)) % n≠(a+(n-1)) % n/\(a+(n-1)) % n≠(a+(n-2)) % n/\(a+(n-0)) % n≠(a+(n-2)) % n:=by decide +kernel
theorem jjV (hw:1<=Z.w) (nz:Z.u.nz) (R:Rng us) (n9:us.length<=9) (r:RR (us.map (spt Z)) ps):¬jbp (pt ps 0) (pt ps 1) (pt ps 2):=by
 have ln:(us.map (spt Z)).length=us.length:=xaa _;have n3:=R.n3;obtain⟨hl,a,ha,d⟩:=r.dih (by omega) (by omega);rw[ln] at ha d;have i1:=joU us.length (by omega) n3 a ha;have i2:=joV us.length (by omega) n3 a ha;have md:∀i,i % us.length<us.length:=fun i=>xaA _ (by omega);rcases d with d | d
 ·rw[d 0 (by omega),d 1 (by omega),d 2 (by omega),jbA (md _),jbA (md _),jbA (md _)];exact je1 hw nz (joN R.tp (md _) (md _) (md _) i1.1 i1.2.1 i1.2.2)
 ·rw[d 0 (by omega),d 1 (by omega),d 2 (by omega),jbA (md _),jbA (md _),jbA (md _)];exact je1 hw nz (joN R.tp (md _) (md _) (md _) i2.1 i2.2.1 i2.2.2)
theorem jfv {f:Tri->Tri} (h:i<vs.length):tr (vs.map f) i=f (tr vs i):=by
 unfold tr;rw[xab,xav,xab,xac h];rfl
theorem Rng.mp {f:Tri->Tri} (R:Rng vs) (k0:0<k) (hd:∀a b c,dt (f a) (f b) (f c)=k*dt a b c) (hz:∀v,1<=v.z->1<=(f v).z):Rng (vs.map f):=by
 refine⟨by rw[xaa];exact R.n3,?_,fun v hv=>?_⟩
 ·intro a b c h1 h2 h3;rw[xaa] at h3;rw[jfv (by omega),jfv (by omega),jfv h3,hd];exact xaf k0 (R.tp a b c h1 h2 h3)
 ·obtain⟨u,hu,rfl⟩:=xah.mp hv;exact hz u (R.hz u hu)
theorem PtAt.keep {f:V} (h:PtAt H Z f us) (s:SameT H H'):PtAt H' Z f us:=by
 rcases h with h | ⟨h1,r,h2,h3⟩
 ·exact .inl h
 ·exact .inr ⟨h1,r,h2,h3.keep s⟩
theorem jnl (a b:Int):Int.gcd b (a % b)=Int.gcd a b:=by
 have h1:((Int.gcd b (a % b):Nat):Int) ∣ (Int.gcd a b:Nat):=xbC (by
  have z:((Int.gcd b (a % b):Nat):Int) ∣ b*(a / b)+a % b:=Int.dvd_add (xbv (xbu ..) (Int.dvd_mul_right _ _)) (xbo ..);rw[Int.mul_ediv_add_emod] at z;exact z) (xbu ..)
 have h2:((Int.gcd a b:Nat):Int) ∣ (Int.gcd b (a % b):Nat):=xbC (xbo ..) (by
  rw[Int.emod_def];exact Int.dvd_sub (xbu ..) (xbv (xbo ..) (Int.dvd_mul_right _ _)))
 exact Nat.dvd_antisymm (Int.natCast_dvd_natCast.mp h1) (Int.natCast_dvd_natCast.mp h2)
theorem hull0 (R:Rng vs) {p:Tri} (hp:InR vs p):0<=p.z/\(p.z=0->p.x=0/\p.y=0):=by
 have n3:=R.n3;have E:∀i,i<vs.length->0<=dt (tr vs i) (tr vs ((i+1) % vs.length)) p:=fun i hi=>hp _ (je4 hi);have g1:0<=dt (tr vs 0) (tr vs 1) p:=by
  have:=E 0 (by omega);rw[xbw,xak (by omega)] at this;exact this
 have g2:dt (tr vs 0) (tr vs (vs.length-3+2)) p<=0:=by
  have:=E (vs.length-1) (by omega);rw[show vs.length-1+1=vs.length by omega,xa4] at this;rw[show vs.length-3+2=vs.length-1 by omega];have sw:dt (tr vs 0) (tr vs (vs.length-1)) p=-dt (tr vs (vs.length-1)) (tr vs 0) p:=by unfold dt jaY;grind
  omega
 obtain⟨j,j1,j2,h1,h2⟩:=jfY (g:=fun j=>dt (tr vs 0) (tr vs j) p) (vs.length-3) g1 g2;have jl:j+1<vs.length:=by omega
 have h3:=E j (by omega);rw[xak jl] at h3;have D:=R.tp 0 j (j+1) (by omega) (by omega) jl;have s1:dt p (tr vs j) (tr vs (j+1))=dt (tr vs j) (tr vs (j+1)) p:=jb1 _ _ _;have s2:dt (tr vs 0) p (tr vs (j+1))=-dt (tr vs 0) (tr vs (j+1)) p:=by unfold dt jaY;grind
 obtain⟨cx,cy,cz⟩:=jjO (tr vs 0) (tr vs j) (tr vs (j+1)) p;have h1:0<=dt (tr vs 0) (tr vs j) p:=h1;have h2:dt (tr vs 0) (tr vs (j+1)) p<=0:=h2;have z0:=R.hz _ (jaH (show 0<vs.length by omega));have z1:=R.hz _ (jaH (show j<vs.length by omega));have z2:=R.hz _ (jaH jl);rw[s1,s2] at cx cy cz;generalize dt (tr vs j) (tr vs (j+1)) p=α at *
 have b0:0<=-dt (tr vs 0) (tr vs (j+1)) p:=by omega
 generalize -dt (tr vs 0) (tr vs (j+1)) p=β at *
 generalize dt (tr vs 0) (tr vs j) p=γ at *
 generalize dt (tr vs 0) (tr vs j) (tr vs (j+1))=d at *
 have m1:=xag h3 (show 0<=(tr vs 0).z by omega);have m2:=xag b0 (show 0<=(tr vs j).z by omega);have m3:=xag h1 (show 0<=(tr vs (j+1)).z by omega);constructor
 ·rcases xaL p.z 0 with q | q
  ·have:=xan D q;omega
  ·exact q
 ·intro z;rw[z,xaq] at cz;have a0:α=0:=by
   have:α*(tr vs 0).z=0:=by omega
   rcases xai.mp this with h | h<;>omega
  have b0':β=0:=by
   have:β*(tr vs j).z=0:=by omega
   rcases xai.mp this with h | h<;>omega
  have c0:γ=0:=by
   have:γ*(tr vs (j+1)).z=0:=by omega
   rcases xai.mp this with h | h<;>omega
  rw[a0,b0',c0] at cx cy;constructor
  ·have:d*p.x=0:=by rw[cx];grind
   rcases xai.mp this with h | h<;>omega
  ·have:d*p.y=0:=by rw[cy];grind
   rcases xai.mp this with h | h<;>omega
theorem vert (A B C:Int) (a b c p:Tri):b.z*dt a b c*jax A B C p=(b.z*jax A B C c-c.z*jax A B C b)*dt a b p+(b.z*jax A B C a-a.z*jax A B C b)*dt b c p+dt a b c*jax A B C b*p.z:=by
 unfold jax dt jaY;grind
theorem jjW {f:Tri->Int}:∀{l:List Tri},l≠[]->(∀v∈l,1<=v.z)->∃b∈l,∀v∈l,f v*b.z<=f b*v.z
  | [],n,_=>(n rfl).elim
  | [x],_,_=>⟨x,by simp,fun v hv=>by rw[xaC.mp hv];exact xaW _⟩
  | x :: y :: r, _, hz => by
    obtain⟨b,hb,h⟩:=jjW (f:=f) (l:=y::r) (by simp) fun v hv=>hz v (xad _ hv);have zx:=hz x (by simp);have zb:=hz b (xad _ hb);rcases Int.le_total (f x*b.z) (f b*x.z) with c | c
    . refine⟨b,xad _ hb,fun v hv=>?_⟩
      rcases xam.mp hv with rfl | hv
      . exact c
      . exact h v hv
    . refine⟨x,by simp,fun v hv=>?_⟩
      rcases xam.mp hv with rfl | hv
      . exact xaW _
      . have zv:=hz v (xad _ hv)
        exact jow (show 0<v.z by omega) (show 0<b.z by omega) (show 0<x.z by omega) (h v hv) c
theorem jjX (R:Rng vs) {l:Ln} (h:∀v∈vs,hf l v<=0):∃e1∈prs vs,∃e2∈prs vs,∃k x y c:Int,0<k/\0<=x/\0<=y/\0<=c/\∀p:Tri,k*hf l p=-(x*dt e1.1 e1.2 p)-y*dt e2.1 e2.2 p-c*p.z:=by
 obtain⟨b,hb,mx⟩:=jjW (f:=hf l) R.ne R.hz;obtain⟨i,hi,rfl⟩:=jdJ hb;have n3:=R.n3;have hm:(i+(vs.length-1)) % vs.length<vs.length:=xaA _ (by omega);have hn:(i+1) % vs.length<vs.length:=xaA _ (by omega);have D:=R.corner hi;have zb:=R.hz _ (jaH hi);have m1:=mx _ (jaH hm);have m2:=mx _ (jaH hn);have hb0:=h _ (jaH hi);refine⟨_,edg_mem.mpr ⟨i,hi,rfl⟩,_,je4 hi,_,-((tr vs i).z*hf l (tr vs ((i+1) % vs.length))-(tr vs ((i+1) % vs.length)).z*hf l (tr vs i)),-((tr vs i).z*hf l (tr vs ((i+(vs.length-1)) % vs.length))-(tr vs ((i+(vs.length-1)) % vs.length)).z*hf l (tr vs i)),-(dt (tr vs ((i+(vs.length-1)) % vs.length)) (tr vs i) (tr vs ((i+1) % vs.length))*hf l (tr vs i)),xaf (show 0<(tr vs i).z by omega) D,?_,?_,?_,fun p=>?_⟩
 ·have:(tr vs i).z*hf l (tr vs ((i+1) % vs.length))<=(tr vs ((i+1) % vs.length)).z*hf l (tr vs i):=by
   rw[xaI,xaI (tr vs ((i+1) % vs.length)).z];exact m2
  omega
 ·have:(tr vs i).z*hf l (tr vs ((i+(vs.length-1)) % vs.length))<=(tr vs ((i+(vs.length-1)) % vs.length)).z*hf l (tr vs i):=by
   rw[xaI,xaI (tr vs ((i+(vs.length-1)) % vs.length)).z];exact m1
  omega
 ·have:=xag (xar D) (show 0<=-hf l (tr vs i) by omega);rw[xbH] at this;exact this
 ·have v:=vert l.A l.B l.C (tr vs ((i+(vs.length-1)) % vs.length)) (tr vs i) (tr vs ((i+1) % vs.length)) p;have e:∀u,jax l.A l.B l.C u=hf l u:=fun u=>rfl;simp only[e] at v;rw[v];grind
def Pos2 (g h:Tri->Int):Prop:=∃k m:Int,0<k/\0<m/\∀p,k*g p=m*h p
theorem Pos2.trans {f g:Tri->Int} (a:Pos2 f g) (b:Pos2 g h):Pos2 f h:=by
 obtain⟨k,m,k0,m0,e⟩:=a;obtain⟨k',m',k0',m0',e'⟩:=b;refine⟨k'*k,m*m',xaf k0' k0,xaf m0 m0',fun p=>?_⟩;have x1:k'*k*f p=k'*(k*f p):=by grind
 have x2:m*m'*h p=m*(m'*h p):=by grind
 rw[x1,x2,e,<- e'];grind
theorem Pos2.refl (f:Tri->Int):Pos2 f f:=⟨1,1,by decide,by decide,fun _=>rfl⟩
theorem Pos2.le {g:Tri->Int} (a:Pos2 g h) {p:Tri}:(h p<=0->g p<=0)/\(0<=h p->0<=g p)/\(0<h p->0<g p):=by
 obtain⟨k,m,k0,m0,e⟩:=a;have e:=e p;refine⟨fun q=>?_,fun q=>?_,fun q=>?_⟩
 ·rcases xaL 0 (g p) with c | c
  ·have h1:=xaf k0 c;have h2:=xag (xar m0) (show 0<=-h p by omega);rw[xbH] at h2;omega
  ·exact c
 ·rcases xaL (g p) 0 with c | c
  ·have h1:=xan k0 c;have h2:=xag (xar m0) q;omega
  ·exact c
 ·rcases xaL 0 (g p) with c | c
  ·exact c
  ·have h1:=xag (xar k0) (show 0<=-g p by omega);rw[xbH] at h1;have h2:=xaf m0 q;omega
def Src (vs:List Tri) (ls:List Ln) (g:Tri->Int):Prop:=(∃e∈prs vs,Pos2 g (dt e.1 e.2))\/∃l∈ls,Pos2 g (hf l)
theorem jlc {l:Ln} (R:Rng vs) (up:∃v∈vs,0<hf l v):∀e∈prs (UP (hf l) vs),Src vs [l] (dt e.1 e.2):=fun e he=>by
 obtain⟨R1,reg⟩:=jbN R up;have he0:=he;rw[jcU up] at he;rcases jng (A:=l.A) (B:=l.B) (C:=l.C) R.hz (fun a b ha hb o=>jgE (R.hz a ha) (R.hz b hb) o) up e he with ⟨e',he',k,m,k0,m0,q⟩ | ⟨z1,z2⟩
 ·exact .inl ⟨e',he',k,m,k0,m0,q⟩
 ·refine .inr ⟨l,by simp,?_⟩;obtain⟨i,hi,ee⟩:=jcv he0;have n3:=R1.n3;obtain⟨j,hj,j1,j2⟩:=jbh (n:=(UP (hf l) vs).length) (i:=i) (j:=(i+1) % (UP (hf l) vs).length) n3;have pos:=jbs R1.tp n3 hi hj (Ne.symm j2) (Ne.symm j1);have hu:=jaH hj;have h0:=((reg _ (R1.hz _ hu)).mp (R1.own hu)).2;have pos:0<dt e.1 e.2 (tr (UP (hf l) vs) j):=by rw[ee];exact pos
  generalize tr (UP (hf l) vs) j=u at *
  obtain⟨w,hw,pw⟩:=up;have lp:=je5 (A:=l.A) (B:=l.B) (C:=l.C) z1 z2;have hup:0<hf l u:=by
   have e1:dt e.1 e.2 u*hf l w=hf l u*dt e.1 e.2 w:=lp u w;have p1:=xaf pos pw;rcases xaL 0 (hf l u) with c | c
   ·exact c
   ·have:hf l u=0:=by omega
    rw[this,xaK] at e1;omega
  refine⟨hf l u,dt e.1 e.2 u,hup,pos,fun q=>?_⟩;have e1:dt e.1 e.2 q*hf l u=hf l q*dt e.1 e.2 u:=lp q u;rw[xaI,e1,xaI]
theorem Src.up {l:Ln} {ls:List Ln} {g:Tri->Int} (R:Rng vs) (up:∃v∈vs,0<hf l v) (h:Src (UP (hf l) vs) ls g):Src vs (l::ls) g:=by
 rcases h with ⟨e,he,p⟩ | ⟨l',hl',p⟩
 ·rcases jlc R up e he with ⟨e',he',p'⟩ | ⟨l',hl',p'⟩
  ·exact .inl ⟨e',he',p.trans p'⟩
  ·rw[xaC.mp hl'] at p';exact .inr ⟨l,by simp,p.trans p'⟩
 ·exact .inr ⟨l',xad _ hl',p⟩
theorem jjY:∀(ls:List Ln) {vs:List Tri},Rng vs->KP ls vs=[]->∃l∈ls,∃g1 g2:Tri->Int,Src vs ls g1/\Src vs ls g2/\∃k x y c:Int,0<k/\0<=x/\0<=y/\0<=c/\∀p:Tri,k*hf l p=-(x*g1 p)-y*g2 p-c*p.z
  | [],vs,R,z=>(R.ne z).elim
  | l :: ls, vs, R, z => by
    by_cases up:∃v∈vs,0<hf l v
    . obtain⟨l',hl',g1,g2,s1,s2,r⟩:=jjY ls (jbN R up).1 z
      exact⟨l',xad _ hl',g1,g2,s1.up R up,s2.up R up,r⟩
    . obtain⟨e1,h1,e2,h2,r⟩:=jjX R (l:=l) fun v hv=>by
        have:¬0<hf l v:=fun h=>up ⟨v,hv,h⟩;omega
      exact⟨l,by simp,_,_,.inl ⟨e1,h1,Pos2.refl _⟩,.inl ⟨e2,h2,Pos2.refl _⟩,r⟩
theorem jfZ {α:Type} {f g:α->Int}:∀{l:List α},l≠[]->(∀v∈l,1<=g v)->∃b∈l,∀v∈l,f v*g b<=f b*g v
  | [],n,_=>(n rfl).elim
  | [x],_,_=>⟨x,by simp,fun v hv=>by rw[xaC.mp hv];exact xaW _⟩
  | x :: y :: r, _, hz => by
    obtain⟨b,hb,h⟩:=jfZ (f:=f) (g:=g) (l:=y::r) (by simp) fun v hv=>hz v (xad _ hv);have zx:=hz x (by simp);have zb:=hz b (xad _ hb);rcases Int.le_total (f x*g b) (f b*g x) with c | c
    . refine⟨b,xad _ hb,fun v hv=>?_⟩
      rcases xam.mp hv with rfl | hv
      . exact c
      . exact h v hv
    . refine⟨x,by simp,fun v hv=>?_⟩
      rcases xam.mp hv with rfl | hv
      . exact xaW _
      . have zv:=hz v (xad _ hv)
        exact jow (show 0<g v by omega) (show 0<g b by omega) (show 0<g x by omega) (h v hv) c
def crz (p q:Tri):Tri:=⟨0,q.x*p.y-p.x*q.y,q.x*p.z-p.x*q.z⟩
theorem sil {l:List Tri} (hz:∀v∈l,1<=v.z) (dn:∃v∈l,v.x<0) (up:∃v∈l,0<=v.x):∃p∈l,∃q∈l,p.x<0/\0<=q.x/\∀r∈l,dt p q r<=0:=by
 have pz:∀{p q:Tri},p∈l->q∈l->p.x<0->0<=q.x->1<=(crz p q).z:=fun {p q} hp hq px qx=>by
  have a1:=xag qx (show 0<=p.z by have:=hz p hp;omega);have a2:=xaf (show 0 < -p.x by omega) (show 0<q.z by have:=hz q hq;omega);rw[xby] at a2;show 1<=q.x*p.z-p.x*q.z;omega
 obtain⟨d0,hd0,dx0⟩:=dn;obtain⟨u0,hu0,ux0⟩:=up;have dm:∀v,v∈l.filter (fun v=>decide (v.x<0))↔v∈l/\v.x<0:=fun v=>by rw[xbb,decide_eq_true_iff]
 have um:∀v,v∈l.filter (fun v=>decide (0<=v.x))↔v∈l/\0<=v.x:=fun v=>by rw[xbb,decide_eq_true_iff]
 generalize l.filter (fun v=>decide (v.x<0))=ds at dm;generalize l.filter (fun v=>decide (0<=v.x))=us at um;have pm:∀e:Tri × Tri,e∈ds.flatMap (fun p=>us.map fun q=>(p,q))↔e.1∈ds/\e.2∈us:=fun e=>by
  rw[xbm];constructor
  ·rintro⟨p,hp,h⟩;obtain⟨q,hq,rfl⟩:=xah.mp h;exact⟨hp,hq⟩
  ·intro h;exact⟨e.1,h.1,xah.mpr ⟨e.2,h.2,rfl⟩⟩
 generalize ds.flatMap (fun p=>us.map fun q=>(p,q))=ps at pm;obtain⟨e0,he0,mx⟩:=jfZ (f:=fun e:Tri × Tri=>(crz e.1 e.2).y) (g:=fun e=>(crz e.1 e.2).z) (l:=ps) (fun h=>by
  have:=(pm (d0,u0)).mpr ⟨(dm d0).mpr ⟨hd0,dx0⟩,(um u0).mpr ⟨hu0,ux0⟩⟩;rw[h] at this;cases this) fun e he=>by
   obtain⟨h1,h2⟩:=(pm e).mp he;obtain⟨a1,a2⟩:=(dm _).mp h1;obtain⟨b1,b2⟩:=(um _).mp h2;exact pz a1 b1 a2 b2
 obtain⟨h1,h2⟩:=(pm e0).mp he0;obtain⟨p0l,p0x⟩:=(dm _).mp h1;obtain⟨q0l,q0x⟩:=(um _).mp h2;have Zp:=pz p0l q0l p0x q0x;have mx':∀{p r:Tri},p∈l->p.x<0->r∈l->0<=r.x->(crz p r).y*(crz e0.1 e0.2).z<=(crz e0.1 e0.2).y*(crz p r).z:=fun {p r} hp px hr rx=>mx (p,r) ((pm _).mpr ⟨(dm _).mpr ⟨hp,px⟩,(um _).mpr ⟨hr,rx⟩⟩);have x0:(crz e0.1 e0.2).x=0:=rfl;have xc:∀g:Tri,dt g (crz e0.1 e0.2) (crz e0.1 e0.2)=0:=fun g=>(jcu g _).2.1;have xl:∀g h:Tri,dt g h (crz e0.1 e0.2)=e0.2.x*dt g h e0.1-e0.1.x*dt g h e0.2:=fun g h=>by
  unfold crz dt jaY;grind
 generalize crz e0.1 e0.2=X at *
 obtain⟨p,hp,mp⟩:=jfZ (f:=fun p:Tri=>p.y*X.z-p.z*X.y) (g:=fun p=>-p.x) (l:=ds) (fun h=>by rw[h] at h1;cases h1) fun v hv=>by
  have:=((dm v).mp hv).2;omega
 obtain⟨pl,px⟩:=(dm _).mp hp;have ex:∀r:Tri,dt p X r=-(p.x*(r.y*X.z-r.z*X.y))+r.x*(p.y*X.z-p.z*X.y):=fun r=>by
  unfold dt jaY;rw[x0];grind
 have all:∀r∈l,dt p X r<=0:=fun r hr=>by
  rcases xaL r.x 0 with c | c
  ·have h:(r.y*X.z-r.z*X.y)*-p.x<=(p.y*X.z-p.z*X.y)*-r.x:=mp r ((dm r).mpr ⟨hr,c⟩);rw[ex,xaI p.x,xaI r.x];rw[xbH,xbH] at h;omega
  ·have h:=mx' pl px hr c;have e:(crz p r).y*X.z-X.y*(crz p r).z=dt p X r:=by
    rw[ex];unfold crz;grind
   omega
 have q0:dt p X e0.2=0:=by
  have h:=xl p X;rw[xc] at h;have a1:=xag q0x (show 0<=-dt p X e0.1 by have:=all _ p0l;omega);have a2:=xag (show 0<=-e0.1.x by omega) (show 0<=-dt p X e0.2 by have:=all _ q0l;omega);rw[xbH] at a1;rw[xby,xbH] at a2;have z:e0.1.x*dt p X e0.2=0:=by omega
  rcases xai.mp z with c | c
  ·omega
  ·exact c
 refine⟨p,pl,e0.2,q0l,px,q0x,fun r hr=>?_⟩;have t1:0<dt p X ⟨0,1,0⟩:=by
  have:dt p X ⟨0,1,0⟩=-p.x*X.z:=by
   unfold dt jaY;rw[x0];simp;grind
  rw[this];exact xaf (by omega) (by omega)
 have t2:0<dt p e0.2 ⟨0,1,0⟩:=by
  have:dt p e0.2 ⟨0,1,0⟩=e0.2.x*p.z-p.x*e0.2.z:=by
   unfold dt jaY;simp;grind
  have:=pz pl q0l px q0x;unfold crz at this;simp only at this;omega
 have pk:dt p X r*dt p e0.2 ⟨0,1,0⟩-dt p X ⟨0,1,0⟩*dt p e0.2 r=dt p X e0.2*dt p r ⟨0,1,0⟩:=by
  unfold dt jaY;grind
 rw[q0,xaK] at pk;rcases xaL 0 (dt p e0.2 r) with c | c
 ·have h1:=xaf t1 c;have h2:=xag (show 0<=-dt p X r by have:=all r hr;omega) (xar t2);rw[xby] at h2;omega
 ·exact c
def jaE (Z:Sht) (q:Tri):Pt:=⟨rX Z q,rY Z q,rZ Z q,rW Z q⟩
def hgP (f p:Pt):Int:=hgt f.x f.y f.z f.w p
theorem jdc (Z:Sht) (f:Pt) (q:Tri):hf (jaT Z f) q=hgP f (jaE Z q):=by
 unfold hf jaT jax lnA lnB lnC hgP hgt jaE rX rY rZ rW;grind
structure Fcs (ps fs:List Pt):Prop where
 w:∀p∈ps,1<=p.w
 nn:∀f∈fs,∀p∈ps,0<=hgP f p
 pos:∀f∈fs,∃p∈ps,0<hgP f p
structure Own (Z:Sht) (N:Pt):Prop where
 on:∀q,hgP N (jaE Z q)=0
 only:∀G:Pt,(∀q,hgP G (jaE Z q)=0)->∃k m:Int,0<k/\∀p,k*hgP G p=m*hgP N p
def co (a:Int) (f:Pt) (b:Int) (g:Pt) (c:Int):Pt:=⟨a*f.x+b*g.x,a*f.y+b*g.y,a*f.z+b*g.z,a*f.w+b*g.w-c⟩
theorem jim (a:Int) (f:Pt) (b:Int) (g:Pt) (c:Int) (p:Pt):hgP (co a f b g c) p=a*hgP f p+b*hgP g p+c*p.w:=by
 unfold hgP co hgt;grind
def T3p (N E:Pt) (p:Pt):Tri:=⟨hgP N p,hgP E p,p.w⟩
theorem part3 {fs:List Pt} {N:Pt} (hw:1<=Z.w) (R:Rng vs) (F:Fcs ps fs) (O:Own Z N) (z:KP (fs.map (jaT Z)) vs=[]) :
  (∃f∈fs,∀v∈vs,hgP f (jaE Z v)<=0)\/(∀p∈ps,0<=hgP N p)\/(∀p∈ps,hgP N p<=0) \/
  ∃e∈prs vs,∃E:Pt,(∃t:Int,0<t/\∀q:Tri,hgP E (jaE Z q)=t*dt e.1 e.2 q)/\∃p∈ps,∃q∈ps,hgP N p<0/\0<=hgP N q/\(∀r∈ps,dt (T3p N E p) (T3p N E q) (T3p N E r)<=0)/\∀v∈vs,0<=dt (T3p N E p) (T3p N E q) (T3p N E (jaE Z v)):=by
 obtain⟨l,hl,g1,g2,s1,s2,k,x,y,c,k0,x0,y0,c0,eq⟩:=jjY _ R z;obtain⟨f,hf0,rfl⟩:=xah.mp hl;have wz:∀q:Tri,(jaE Z q).w=Z.w*q.z:=fun q=>rfl;have mixed:∀{a b c:Int} {g:Pt},0<a->0<=b->0<=c->g∈fs->∀p∈ps,0<=hgP (co a f b g c) p:=fun {a b c g} ha hb hc hg p hp=>by
  rw[jim];have h1:=xag (xar ha) (F.nn f hf0 p hp);have h2:=xag hb (F.nn g hg p hp);have h3:=xag hc (show 0<=p.w by have:=F.w p hp;omega);omega
 have own:∀{a:Int} {G:Pt},0<a->(∀p∈ps,a*hgP f p<=hgP G p)->(∀q:Tri,hgP G (jaE Z q)=0)->(∀p∈ps,0<=hgP N p)\/(∀p∈ps,hgP N p<=0):=fun {a G} ha hG h=>by
  obtain⟨k',m',k0',e⟩:=O.only _ h;have nn:∀p∈ps,0<=hgP G p:=fun p hp=>Int.le_trans (xag (xar ha) (F.nn f hf0 p hp)) (hG p hp);have go:∀p∈ps,0<=m'*hgP N p:=fun p hp=>by
   rw[<- e];exact xag (xar k0') (nn p hp)
  rcases xbD m' 0 with m0 | m0 | m0
  ·refine .inr fun p hp=>?_;have:=go p hp;rcases xaL 0 (hgP N p) with q | q
   ·have:=xaE m0 q;omega
   ·exact q
  ·exfalso;obtain⟨p,hp,pp⟩:=F.pos f hf0;have e:=e p;rw[m0,xaK] at e;have h1:=xaf ha pp;have h2:=hG p hp;rcases xai.mp e with q | q<;>omega
  ·refine .inl fun p hp=>?_;have:=go p hp;rcases xaL (hgP N p) 0 with q | q
   ·have:=xan m0 q;omega
   ·exact q
 have edge:∀{a b c t:Int} {g:Pt} {e:Tri × Tri},0<a->0<=b->0<=c->0<t->g∈fs->e∈prs vs->(∀q:Tri,hgP (co a f b g c) (jaE Z q)=-(t*dt e.1 e.2 q))->(∀p∈ps,0<=hgP N p)\/(∀p∈ps,hgP N p<=0)\/∃e∈prs vs,∃E:Pt,(∃t:Int,0<t/\∀q:Tri,hgP E (jaE Z q)=t*dt e.1 e.2 q)/\∃p∈ps,∃q∈ps,hgP N p<0/\0<=hgP N q/\(∀r∈ps,dt (T3p N E p) (T3p N E q) (T3p N E r)<=0)/\∀v∈vs,0<=dt (T3p N E p) (T3p N E q) (T3p N E (jaE Z v)):=fun {a b c t g e} ha hb hc ht hg he h=>by
  by_cases dn:∃p∈ps,hgP N p<0
  ·by_cases up:∃p∈ps,0<=hgP N p
   ·refine .inr (.inr ⟨e,he,⟨-(co a f b g c).x,-(co a f b g c).y,-(co a f b g c).z,-(co a f b g c).w⟩,?_⟩);have en:∀p,hgP ⟨-(co a f b g c).x,-(co a f b g c).y,-(co a f b g c).z,-(co a f b g c).w⟩ p=-hgP (co a f b g c) p:=fun p=>by
     unfold hgP hgt;grind
    have el:∀p∈ps,hgP ⟨-(co a f b g c).x,-(co a f b g c).y,-(co a f b g c).z,-(co a f b g c).w⟩ p<=0:=fun p hp=>by
     rw[en];have:=mixed ha hb hc hg p hp;omega
    have er:∀q,hgP ⟨-(co a f b g c).x,-(co a f b g c).y,-(co a f b g c).z,-(co a f b g c).w⟩ (jaE Z q)=t*dt e.1 e.2 q:=fun q=>by rw[en,h];omega
    generalize (⟨-(co a f b g c).x,-(co a f b g c).y,-(co a f b g c).z,-(co a f b g c).w⟩:Pt)=E at *
    refine⟨⟨t,ht,er⟩,?_⟩;obtain⟨d,hd,dx⟩:=dn;obtain⟨u,hu,ux⟩:=up;obtain⟨p',hp',q',hq',px,qx,al⟩:=sil (l:=ps.map (T3p N E)) (fun v hv=>by
     obtain⟨p,hp,rfl⟩:=xah.mp hv;exact F.w p hp) ⟨_,xah.mpr ⟨d,hd,rfl⟩,dx⟩ ⟨_,xah.mpr ⟨u,hu,rfl⟩,ux⟩
    obtain⟨p,hp,rfl⟩:=xah.mp hp';obtain⟨q,hq,rfl⟩:=xah.mp hq';have px:hgP N p<0:=px;have qx:0<=hgP N q:=qx;refine⟨p,hp,q,hq,px,qx,fun r hr=>al _ (xah.mpr ⟨r,hr,rfl⟩),fun v hv=>?_⟩;have ep:=el p hp;have eq':=el q hq;have ev:0<=hgP E (jaE Z v):=by
     rw[er];exact xag (xar ht) (R.own hv e he)
    have wv:0<=(jaE Z v).w:=by
     rw[wz];exact xag (by omega) (by have:=R.hz v hv;omega)
    have wp:=F.w p hp;have wq:=F.w q hq;have id:dt (T3p N E p) (T3p N E q) (T3p N E (jaE Z v))=hgP E (jaE Z v)*(p.w*hgP N q-hgP N p*q.w)+(jaE Z v).w*(hgP N p*hgP E q-hgP E p*hgP N q):=by
     unfold T3p dt jaY;rw[O.on];simp only;grind
    rw[id];have a1:=xag (show 0<=p.w by omega) qx;have a2:=xaf (show 0 < -hgP N p by omega) (show 0<q.w by omega);have a3:=xag (show 0<=-hgP N p by omega) (show 0<=-hgP E q by omega);have a4:=xag (show 0<=-hgP E p by omega) qx;rw[xby] at a2 a4;rw[xby,xbH] at a3;exact Int.add_nonneg (xag ev (by omega)) (xag wv (by omega))
   ·exact .inr (.inl fun p hp=>by
     have:¬0<=hgP N p:=fun h=>up ⟨p,hp,h⟩;omega)
  ·exact .inl fun p hp=>by
    have:¬hgP N p<0:=fun h=>dn ⟨p,hp,h⟩;omega
 have zw:0<Z.w:=by omega
 have ge:∀{a b c:Int} {g:Pt},0<=b->0<=c->g∈fs->∀p∈ps,a*hgP f p<=hgP (co a f b g c) p:=fun {a b c g} hb hc hg p hp=>by
  rw[jim];have h2:=xag hb (F.nn g hg p hp);have h3:=xag hc (show 0<=p.w by have:=F.w p hp;omega);omega
 have one:∀{g g':Tri->Int} {x y:Int},0<=x->0<=y->(∃e∈prs vs,Pos2 g (dt e.1 e.2))->(∃l∈fs.map (jaT Z),Pos2 g' (hf l))->(∀p:Tri,k*hf (jaT Z f) p=-(x*g p)-y*g' p-c*p.z)->(∀p∈ps,0<=hgP N p)\/(∀p∈ps,hgP N p<=0)\/∃e∈prs vs,∃E:Pt,(∃t:Int,0<t/\∀q:Tri,hgP E (jaE Z q)=t*dt e.1 e.2 q)/\∃p∈ps,∃q∈ps,hgP N p<0/\0<=hgP N q/\(∀r∈ps,dt (T3p N E p) (T3p N E q) (T3p N E r)<=0)/\∀v∈vs,0<=dt (T3p N E p) (T3p N E q) (T3p N E (jaE Z v)):=fun {g g' x y} x0 y0 ⟨e,he,k1,m1,k10,m10,q1⟩ ⟨l,hl,k2,m2,k20,m20,q2⟩ eq=>by
  obtain⟨f2,hf2,rfl⟩:=xah.mp hl;have kk:=xaf k10 k20;have ha:0<Z.w*(k1*k2)*k:=xaf (xaf zw kk) k0;have hb:0<=Z.w*k1*y*m2:=xag (xag (xag (by omega) (by omega)) y0) (by omega);have hc:0<=k1*k2*c:=xag (by omega) c0;have id:∀q:Tri,hgP (co (Z.w*(k1*k2)*k) f (Z.w*k1*y*m2) f2 (k1*k2*c)) (jaE Z q)=-((Z.w*k2*x*m1)*dt e.1 e.2 q):=fun q=>by
   rw[jim,<- jdc,<- jdc,wz];have e1:=eq q;have e2:=q1 q;have e3:=q2 q;have x1:Z.w*(k1*k2)*k*hf (jaT Z f) q=Z.w*(k1*k2)*(k*hf (jaT Z f) q):=by grind
   have x2:Z.w*k1*y*m2*hf (jaT Z f2) q=Z.w*k1*y*(m2*hf (jaT Z f2) q):=by grind
   have x3:Z.w*k2*x*m1*dt e.1 e.2 q=Z.w*k2*x*(m1*dt e.1 e.2 q):=by grind
   rw[x1,x2,x3,e1,<- e2,<- e3];grind
  rcases xaL 0 x with xp | xn
  ·exact edge ha hb hc (xaf (xaf (xaf zw k20) xp) m10) hf2 he id
  ·have xz:x=0:=by omega
   have:=own ha (ge hb hc hf2) fun q=>by rw[id,xz];grind
   rcases this with h | h
   ·exact .inl h
   ·exact .inr (.inl h)
 rcases s1 with v1 | l1
 ·rcases s2 with v2 | l2
  ·refine .inl ⟨f,hf0,fun v hv=>?_⟩;rw[<- jdc];obtain⟨e1,he1,p1⟩:=v1;obtain⟨e2,he2,p2⟩:=v2;have q:=eq v;have a1:=xag x0 ((p1.le (p:=v)).2.1 (R.own hv e1 he1));have a2:=xag y0 ((p2.le (p:=v)).2.1 (R.own hv e2 he2));have a3:=xag c0 (show 0<=v.z by have:=R.hz _ hv;omega);rcases xaL 0 (hf (jaT Z f) v) with h | h
   ·have:=xaf k0 h;omega
   ·exact h
  ·exact .inr (one x0 y0 v1 l2 eq)
 ·rcases s2 with v2 | l2
  ·exact .inr (one y0 x0 v2 l1 fun p=>by rw[eq p];omega)
  ·obtain⟨l1,hl1,k1,m1,k10,m10,q1⟩:=l1;obtain⟨l2,hl2,k2,m2,k20,m20,q2⟩:=l2;obtain⟨f1,hf1,rfl⟩:=xah.mp hl1;obtain⟨f2,hf2,rfl⟩:=xah.mp hl2;have kk:=xaf k10 k20;have ha:0<Z.w*(k1*k2)*k:=xaf (xaf zw kk) k0;have hb:0<=Z.w*k1*y*m2:=xag (xag (xag (by omega) (by omega)) y0) (by omega);have hb':0<=Z.w*k2*x*m1:=xag (xag (xag (by omega) (by omega)) x0) (by omega);have hc:0<=k1*k2*c:=xag (by omega) c0;have:=own (G:=co 1 (co (Z.w*(k1*k2)*k) f (Z.w*k1*y*m2) f2 (k1*k2*c)) (Z.w*k2*x*m1) f1 0) ha (fun p hp=>by
    rw[jim,xbG,xaK];have h1:=ge (a:=Z.w*(k1*k2)*k) hb hc hf2 p hp;have h2:=xag hb' (F.nn f1 hf1 p hp);omega) fun q=>by
     rw[jim,jim,<- jdc,<- jdc,<- jdc,wz];have e1:=eq q;have e2:=q1 q;have e3:=q2 q;have x1:Z.w*(k1*k2)*k*hf (jaT Z f) q=Z.w*(k1*k2)*(k*hf (jaT Z f) q):=by grind
     have x2:Z.w*k1*y*m2*hf (jaT Z f2) q=Z.w*k1*y*(m2*hf (jaT Z f2) q):=by grind
     have x3:Z.w*k2*x*m1*hf (jaT Z f1) q=Z.w*k2*x*(m1*hf (jaT Z f1) q):=by grind
     rw[x1,x2,x3,e1,<- e2,<- e3];grind
   rcases this with h | h
   ·exact .inr (.inl h)
   ·exact .inr (.inr (.inl h))
def rgQ (a b c:Pt):Pt:=⟨jaL 0 a b c,-jaL 1 a b c,jaL 2 a b c,jaL 3 a b c⟩
def kx (N E:Pt):Pt:=⟨N.y*E.z-N.z*E.y,N.z*E.x-N.x*E.z,N.x*E.y-N.y*E.x,0⟩
theorem jbT (a b c d:Pt):hgP (rgQ a b c) d=jaY a.y a.z a.w b.y b.z b.w c.y c.z c.w*d.x-jaY a.x a.z a.w b.x b.z b.w c.x c.z c.w*d.y+jaY a.x a.y a.w b.x b.y b.w c.x c.y c.w*d.z-jaY a.x a.y a.z b.x b.y b.z c.x c.y c.z*d.w:=by
 show jaL 0 a b c*d.x+-jaL 1 a b c*d.y+jaL 2 a b c*d.z-jaL 3 a b c*d.w=_;have e0:jaL 0 a b c=jaY a.y a.z a.w b.y b.z b.w c.y c.z c.w:=rfl;have e1:jaL 1 a b c=jaY a.x a.z a.w b.x b.z b.w c.x c.z c.w:=rfl;have e2:jaL 2 a b c=jaY a.x a.y a.w b.x b.y b.w c.x c.y c.w:=rfl;have e3:jaL 3 a b c=jaY a.x a.y a.z b.x b.y b.z c.x c.y c.z:=rfl;rw[e0,e1,e2,e3,xby];omega
theorem joW (N E p q P:Pt):dt (T3p N E p) (T3p N E q) (T3p N E P)=-hgP (rgQ p q (kx N E)) P:=by
 rw[jbT];unfold dt jaY T3p kx hgP hgt;simp only;grind
theorem jgH (p q D P:Pt) (k:Int):hgP (rgQ p q ⟨k*D.x,k*D.y,k*D.z,k*D.w⟩) P=k*hgP (rgQ p q D) P:=by
 rw[jbT,jbT];unfold jaY;simp only;grind
theorem cand {N E D:Pt} (dN:hgP N D=0) (dE:hgP E D=0) (dw:D.w=0) (dn:¬(D.x=0/\D.y=0/\D.z=0)) (nz:∃P,dt (T3p N E p) (T3p N E q) (T3p N E P)≠0):∃a b:Int,a≠0/\b≠0/\∀P,a*dt (T3p N E p) (T3p N E q) (T3p N E P)=b*hgP (rgQ p q D) P:=by
 have hN:N.x*D.x+N.y*D.y+N.z*D.z=0:=by
  unfold hgP hgt at dN;rw[dw] at dN;omega
 have hE:E.x*D.x+E.y*D.y+E.z*D.z=0:=by
  unfold hgP hgt at dE;rw[dw] at dE;omega
 have c1:(kx N E).x*D.y=(kx N E).y*D.x:=by
  unfold kx;simp only;grind
 have c2:(kx N E).y*D.z=(kx N E).z*D.y:=by
  unfold kx;simp only;grind
 have c3:(kx N E).z*D.x=(kx N E).x*D.z:=by
  unfold kx;simp only;grind
 have kw:(kx N E).w=0:=rfl;have go:∀{d k:Int},d≠0->(⟨d*(kx N E).x,d*(kx N E).y,d*(kx N E).z,d*(kx N E).w⟩:Pt)=⟨k*D.x,k*D.y,k*D.z,k*D.w⟩->∃a b:Int,a≠0/\b≠0/\∀P,a*dt (T3p N E p) (T3p N E q) (T3p N E P)=b*hgP (rgQ p q D) P:=fun {d k} d0 e=>by
  have id:∀P,d*dt (T3p N E p) (T3p N E q) (T3p N E P)=-k*hgP (rgQ p q D) P:=fun P=>by
   rw[joW,xbH,<- jgH,e,jgH,xby]
  refine⟨d,-k,d0,fun k0=>?_,id⟩;obtain⟨P,hP⟩:=nz;have:=id P;rw[k0,xaK] at this;rcases xai.mp this with h | h
  ·exact d0 h
  ·exact hP h
 by_cases x0:D.x=0
 ·by_cases y0:D.y=0
  ·refine go (d:=D.z) (k:=(kx N E).z) (fun z0=>dn ⟨x0,y0,z0⟩) ?_;rw[kw,dw]
   congr 1<;>grind
  ·refine go (d:=D.y) (k:=(kx N E).y) y0 ?_;rw[kw,dw]
   congr 1<;>grind
 ·refine go (d:=D.x) (k:=(kx N E).x) x0 ?_;rw[kw,dw]
  congr 1<;>grind
theorem two_zero (R:Rng vs) {C:Int} (h:∀v∈vs,0<=jax A B C v) (ij:i+1<j) (jl:j<vs.length) (nw:¬(i=0/\j=vs.length-1)) (hi:jax A B C (tr vs i)=0) (hj:jax A B C (tr vs j)=0):∀v∈vs,jax A B C v=0:=by
 have cell:∀{a b c d:Nat},a<b->b<c->c<d->d<vs.length->(0<dt (tr vs b) (tr vs c) (tr vs d)/\0<dt (tr vs d) (tr vs a) (tr vs b)/\0<dt (tr vs c) (tr vs d) (tr vs a)/\0<dt (tr vs a) (tr vs b) (tr vs c)):=fun {a b c d} ab bc cd dl=>by
  refine⟨R.tp b c d bc cd dl,?_,?_,R.tp a b c ab bc (by omega)⟩
  ·rw[jb1];exact R.tp a b d ab (by omega) dl
  ·rw[jb1,jb1];exact R.tp a c d (by omega) cd dl
 have nn:∀k,k<vs.length->0<=jax A B C (tr vs k):=fun k hk=>h _ (jaH hk);have pair:∀k m,i<k->k<j->m<vs.length->(m<i\/j<m)->jax A B C (tr vs k)=0/\jax A B C (tr vs m)=0:=fun k m ik kj ml mo=>by
  have hk:=nn k (by omega);have hm:=nn m ml;rcases mo with mi | jm
  ·obtain⟨d1,d2,d3,d4⟩:=cell mi ik kj jl;have e:=jhe A B C (tr vs m) (tr vs i) (tr vs k) (tr vs j);rw[hi,hj,xaq,xaq] at e;have a1:=xag (xar d1) hm;have a2:=xag (xar d2) hk;have z1:dt (tr vs i) (tr vs k) (tr vs j)*jax A B C (tr vs m)=0:=by omega
   have z2:dt (tr vs j) (tr vs m) (tr vs i)*jax A B C (tr vs k)=0:=by omega
   constructor
   ·rcases xai.mp z2 with q | q
    ·omega
    ·exact q
   ·rcases xai.mp z1 with q | q
    ·omega
    ·exact q
  ·obtain⟨d1,d2,d3,d4⟩:=cell ik kj jm ml;have e:=jhe A B C (tr vs i) (tr vs k) (tr vs j) (tr vs m);rw[hi,hj,xaq,xaq] at e;have a1:=xag (xar d3) hk;have a2:=xag (xar d4) hm;have z1:dt (tr vs j) (tr vs m) (tr vs i)*jax A B C (tr vs k)=0:=by omega
   have z2:dt (tr vs i) (tr vs k) (tr vs j)*jax A B C (tr vs m)=0:=by omega
   constructor
   ·rcases xai.mp z1 with q | q
    ·omega
    ·exact q
   ·rcases xai.mp z2 with q | q
    ·omega
    ·exact q
 obtain⟨m0,m0l,m0o⟩:∃m,m<vs.length/\(m<i\/j<m):=by
  by_cases c:0<i
  ·exact⟨0,by omega,.inl c⟩
  ·exact⟨vs.length-1,by omega,.inr (by
    have:j≠vs.length-1:=fun e=>nw ⟨by omega,e⟩;omega)⟩
 intro v hv;obtain⟨k,hk,rfl⟩:=jdJ hv;rcases Nat.lt_trichotomy k i with c | c | c
 ·exact (pair (i+1) k (by omega) ij hk (.inl c)).2
 ·rw[c];exact hi
 ·rcases Nat.lt_trichotomy k j with c2 | c2 | c2
  ·exact (pair k m0 c c2 m0l m0o).1
  ·rw[c2];exact hj
  ·exact (pair (i+1) k (by omega) ij hk (.inr c2)).2
def nP (Z:Sht):Pt:=⟨Z.w*Z.u.x,Z.w*Z.u.y,Z.w*Z.u.z,Z.u.x*Z.s.x+Z.u.y*Z.s.y+Z.u.z*Z.s.z⟩
theorem jf0 (Z:Sht) (q:Tri):hgP (nP Z) (jaE Z q)=0:=by
 unfold hgP nP hgt jaE rX rY rZ rW Sht.u;grind
theorem own0 (hw:1<=Z.w) (nz:Z.u.nz):Own Z (nP Z):=by
 refine⟨jf0 Z,fun G h=>?_⟩;have h1:Z.w*(G.x*Z.c.x+G.y*Z.c.y+G.z*Z.c.z)=0:=by
  have:=h ⟨1,0,0⟩;unfold hgP hgt jaE rX rY rZ rW at this;simp at this;grind
 have h2:Z.w*(G.x*Z.d.x+G.y*Z.d.y+G.z*Z.d.z)=0:=by
  have:=h ⟨0,1,0⟩;unfold hgP hgt jaE rX rY rZ rW at this;simp at this;grind
 have h3:G.x*Z.s.x+G.y*Z.s.y+G.z*Z.s.z=G.w*Z.w:=by
  have:=h ⟨0,0,1⟩;unfold hgP hgt jaE rX rY rZ rW at this;simp at this;omega
 have w0:Z.w≠0:=by omega
 have g1:=(xai.mp h1).resolve_left w0;have g2:=(xai.mp h2).resolve_left w0;have p1:G.x*Z.u.y=G.y*Z.u.x:=by
  unfold Sht.u;simp only;grind
 have p2:G.y*Z.u.z=G.z*Z.u.y:=by
  unfold Sht.u;simp only;grind
 have p3:G.z*Z.u.x=G.x*Z.u.z:=by
  unfold Sht.u;simp only;grind
 have uu:0<Z.u.x*Z.u.x+Z.u.y*Z.u.y+Z.u.z*Z.u.z:=by
  have sq:∀i:Int,0<=i*i/\(i≠0->0<i*i):=fun i=>by
   rcases xbD i 0 with c | c | c
   ·have:=xbz c c;omega
   ·rw[c];exact⟨by decide,fun n=>(n rfl).elim⟩
   ·have:=xaf c c;omega
  have a:=sq Z.u.x;have b:=sq Z.u.y;have c:=sq Z.u.z;by_cases x0:Z.u.x=0
  ·by_cases y0:Z.u.y=0
   ·have:=c.2 fun z0=>nz ⟨x0,y0,z0⟩;omega
   ·have:=b.2 y0;omega
  ·have:=a.2 x0;omega
 generalize hU:Z.u=U at *
 refine⟨Z.w*(U.x*U.x+U.y*U.y+U.z*U.z),G.x*U.x+G.y*U.y+G.z*U.z,xaf (by omega) uu,fun p=>?_⟩;have q1:(U.x*U.x+U.y*U.y+U.z*U.z)*G.x=(G.x*U.x+G.y*U.y+G.z*U.z)*U.x:=by grind
 have q2:(U.x*U.x+U.y*U.y+U.z*U.z)*G.y=(G.x*U.x+G.y*U.y+G.z*U.z)*U.y:=by grind
 have q3:(U.x*U.x+U.y*U.y+U.z*U.z)*G.z=(G.x*U.x+G.y*U.y+G.z*U.z)*U.z:=by grind
 unfold hgP nP hgt;rw[hU];simp only;generalize U.x*U.x+U.y*U.y+U.z*U.z=n at *
 generalize G.x*U.x+G.y*U.y+G.z*U.z=m at *
 have q4:n*(G.w*Z.w)=m*(U.x*Z.s.x+U.y*Z.s.y+U.z*Z.s.z):=by
  rw[<- h3];grind
 grind
theorem five (s A B C P:Pt):(hgP (rgQ s B C) P*A.x+hgP (rgQ s C A) P*B.x+hgP (rgQ s A B) P*C.x=hgP (rgQ A B C) P*s.x-hgP (rgQ A B C) s*P.x/\hgP (rgQ s B C) P*A.y+hgP (rgQ s C A) P*B.y+hgP (rgQ s A B) P*C.y=hgP (rgQ A B C) P*s.y-hgP (rgQ A B C) s*P.y) /\
  hgP (rgQ s B C) P*A.z+hgP (rgQ s C A) P*B.z+hgP (rgQ s A B) P*C.z=hgP (rgQ A B C) P*s.z-hgP (rgQ A B C) s*P.z/\hgP (rgQ s B C) P*A.w+hgP (rgQ s C A) P*B.w+hgP (rgQ s A B) P*C.w=hgP (rgQ A B C) P*s.w-hgP (rgQ A B C) s*P.w:=by
 simp only[jbT,jaY];refine⟨⟨?_,?_⟩,?_,?_⟩<;>grind
theorem jjZ (s A A' B P:Pt) (x y:Int):hgP (rgQ s ⟨x*A.x+y*A'.x,x*A.y+y*A'.y,x*A.z+y*A'.z,x*A.w+y*A'.w⟩ B) P=x*hgP (rgQ s A B) P+y*hgP (rgQ s A' B) P:=by
 simp only[jbT,jaY];grind
theorem jfa (s A B P:Pt):hgP (rgQ s B A) P=-hgP (rgQ s A B) P:=by
 simp only[jbT,jaY];grind
theorem jfb (s A B:Pt):hgP (rgQ s A B) s=0/\hgP (rgQ s A B) A=0/\hgP (rgQ s A B) B=0:=by
 simp only[jbT,jaY];refine⟨?_,?_,?_⟩<;>grind
def r1 (Z:Sht):Pt:=jaE Z ⟨1,0,0⟩
def r2 (Z:Sht):Pt:=jaE Z ⟨0,1,0⟩
def r3 (Z:Sht):Pt:=jaE Z ⟨0,0,1⟩
theorem jfw (Z:Sht) (a:Tri):jaE Z a=⟨a.x*(r1 Z).x+a.y*(r2 Z).x+a.z*(r3 Z).x,a.x*(r1 Z).y+a.y*(r2 Z).y+a.z*(r3 Z).y,a.x*(r1 Z).z+a.y*(r2 Z).z+a.z*(r3 Z).z,a.x*(r1 Z).w+a.y*(r2 Z).w+a.z*(r3 Z).w⟩:=by
 unfold r1 r2 r3 jaE rX rY rZ rW
 congr 1<;>grind
theorem jj0 (Z:Sht) (P:Pt):hgP (rgQ (r1 Z) (r2 Z) (r3 Z)) P=Z.w*Z.w*hgP (nP Z) P:=by
 simp only[jbT,jaY];unfold r1 r2 r3 jaE rX rY rZ rW hgP nP hgt Sht.u;grind
def prj (Z:Sht) (s P:Pt):Tri:=⟨hgP (rgQ s (r2 Z) (r3 Z)) P,hgP (rgQ s (r3 Z) (r1 Z)) P,hgP (rgQ s (r1 Z) (r2 Z)) P⟩
theorem jl0 (s A A' A'' B P:Pt) (x y z:Int):hgP (rgQ s ⟨x*A.x+y*A'.x+z*A''.x,x*A.y+y*A'.y+z*A''.y,x*A.z+y*A'.z+z*A''.z,x*A.w+y*A'.w+z*A''.w⟩ B) P=x*hgP (rgQ s A B) P+y*hgP (rgQ s A' B) P+z*hgP (rgQ s A'' B) P:=by
 have h1:=jjZ s ⟨x*A.x+y*A'.x,x*A.y+y*A'.y,x*A.z+y*A'.z,x*A.w+y*A'.w⟩ A'' B P 1 z;simp only[xbG] at h1;rw[h1,jjZ]
theorem jl1 (Z:Sht) (s P:Pt) (a b:Tri):dt a b (prj Z s P)=hgP (rgQ s (jaE Z a) (jaE Z b)) P:=by
 have lin:∀B,hgP (rgQ s (jaE Z a) B) P=a.x*hgP (rgQ s (r1 Z) B) P+a.y*hgP (rgQ s (r2 Z) B) P+a.z*hgP (rgQ s (r3 Z) B) P:=fun B=>by
  rw[jfw,jl0]
 have lin':∀A,hgP (rgQ s A (jaE Z b)) P=b.x*hgP (rgQ s A (r1 Z)) P+b.y*hgP (rgQ s A (r2 Z)) P+b.z*hgP (rgQ s A (r3 Z)) P:=fun A=>by
  rw[jfa,jfw,jl0,jfa s A,jfa s A (r2 Z),jfa s A (r3 Z)];grind
 have z1:∀A,hgP (rgQ s A A) P=0:=fun A=>by have:=jfa s A A P;omega
 rw[lin,lin',lin',lin',z1,z1,z1,jfa s (r1 Z) (r2 Z),jfa s (r2 Z) (r3 Z),jfa s (r3 Z) (r1 Z)];unfold prj dt jaY;simp only;grind
theorem jnm (Z:Sht) (s P:Pt) (g:Pt):hgP g (jaE Z (prj Z s P))=Z.w*Z.w*(hgP (nP Z) P*hgP g s-hgP (nP Z) s*hgP g P):=by
 have F:=five s (r1 Z) (r2 Z) (r3 Z) P;rw[jj0,jj0] at F;obtain⟨⟨e1,e2⟩,e3,e4⟩:=F;rw[jfw];unfold prj;simp only;rw[e1,e2,e3,e4];generalize hgP (nP Z) P=u;generalize hgP (nP Z) s=v;unfold hgP hgt;simp only;grind
def yy (Z:Sht) (s P:Pt) (ε:Int):Tri:=⟨-ε*(prj Z s P).x,-ε*(prj Z s P).y,-ε*(prj Z s P).z⟩
theorem joX (Z:Sht) (s P:Pt) (ε:Int) (a b:Tri):dt a b (yy Z s P ε)=-ε*hgP (rgQ s (jaE Z a) (jaE Z b)) P:=by
 rw[<- jl1];unfold yy dt jaY;simp only;grind
theorem joY (Z:Sht) (s P:Pt) (ε:Int) (g:Pt):hgP g (jaE Z (yy Z s P ε))=Z.w*Z.w*(ε*hgP (nP Z) s*hgP g P-ε*hgP (nP Z) P*hgP g s):=by
 have h:=jnm Z s P g;have e:hgP g (jaE Z (yy Z s P ε))=-ε*hgP g (jaE Z (prj Z s P)):=by
  unfold yy;rw[jfw,jfw];unfold hgP hgt;simp only;grind
 rw[e,h];grind
theorem hg_lc (f A B C:Pt) (x y z:Int):hgP f ⟨x*A.x+y*B.x+z*C.x,x*A.y+y*B.y+z*C.y,x*A.z+y*B.z+z*C.z,x*A.w+y*B.w+z*C.w⟩=x*hgP f A+y*hgP f B+z*hgP f C:=by
 unfold hgP hgt;simp only;grind
theorem jj1 (f:Pt) (Z:Sht) (c:Tri):hgP f (jaE Z c)=c.x*hgP f (r1 Z)+c.y*hgP f (r2 Z)+c.z*hgP f (r3 Z):=by rw[jfw,hg_lc]
theorem jgI (s A B C:Pt):hgP (rgQ s A B) C=-hgP (rgQ C A B) s/\hgP (rgQ A B C) s=hgP (rgQ B C A) s:=by
 simp only[jbT,jaY];refine⟨?_,?_⟩<;>grind
theorem je6 (Z:Sht) (s:Pt) (a b c:Tri):hgP (rgQ s (jaE Z a) (jaE Z b)) (jaE Z c)=-(Z.w*Z.w*hgP (nP Z) s*dt a b c):=by
 rw[<- jl1];have e1:=jj0 Z s;have e2:=(jgI s (r1 Z) (r2 Z) (r3 Z)).2;have e3:=(jgI s (r2 Z) (r3 Z) (r1 Z)).2;have c1:hgP (rgQ s (r2 Z) (r3 Z)) (jaE Z c)=-(Z.w*Z.w*hgP (nP Z) s*c.x):=by
  rw[jj1,(jfb s (r2 Z) (r3 Z)).2.1,(jfb s (r2 Z) (r3 Z)).2.2,(jgI s (r2 Z) (r3 Z) (r1 Z)).1,e1];grind
 have c2:hgP (rgQ s (r3 Z) (r1 Z)) (jaE Z c)=-(Z.w*Z.w*hgP (nP Z) s*c.y):=by
  rw[jj1,(jfb s (r3 Z) (r1 Z)).2.1,(jfb s (r3 Z) (r1 Z)).2.2,(jgI s (r3 Z) (r1 Z) (r2 Z)).1,<- e2,e1];grind
 have c3:hgP (rgQ s (r1 Z) (r2 Z)) (jaE Z c)=-(Z.w*Z.w*hgP (nP Z) s*c.z):=by
  rw[jj1,(jfb s (r1 Z) (r2 Z)).2.1,(jfb s (r1 Z) (r2 Z)).2.2,(jgI s (r1 Z) (r2 Z) (r3 Z)).1,<- e3,<- e2,e1];grind
 unfold prj dt jaY;simp only;rw[c1,c2,c3];grind
theorem yy_in {P:Pt} (S:Rng ws) (h:∀e∈prs ws,0 < -ε*hgP (rgQ s (jaE Z e.1) (jaE Z e.2)) P):InR ws (yy Z s P ε)/\1<=(yy Z s P ε).z:=by
 have hi:InR ws (yy Z s P ε):=fun e he=>by rw[joX];exact xar (h e he)
 refine⟨hi,?_⟩;obtain⟨z0,z1⟩:=hull0 S hi;rcases xaL 0 (yy Z s P ε).z with c | c
 ·exact c
 exfalso;have zz:(yy Z s P ε).z=0:=by omega
 obtain⟨x0,y0⟩:=z1 zz;have n3:=S.n3;have he:=je4 (vs:=ws) (i:=0) (by omega);have:=h _ he;rw[<- joX] at this;unfold dt jaY at this;rw[x0,y0,zz] at this;simp at this
theorem sg2 {m:Int} (hk:0<k) (hm:0<m) (e:k*x=m*y):(0<x↔0<y)/\(0<=x↔0<=y)/\(x<=0↔y<=0):=by
 have p:∀{a b:Int},0<a->0<b->0<a*b:=fun h1 h2=>xaf h1 h2;have n:∀{a b:Int},0<a->b<0->a*b<0:=fun h1 h2=>xan h1 h2;rcases xbD x 0 with hx | hx | hx<;>rcases xbD y 0 with hy | hy | hy
 ·omega
 ·have:=n hk hx;subst hy;rw[xaq] at e;omega
 ·have:=n hk hx;have:=p hm hy;omega
 ·have:=n hm hy;subst hx;rw[xaq] at e;omega
 ·omega
 ·have:=p hm hy;subst hx;rw[xaq] at e;omega
 ·have:=p hk hx;have:=n hm hy;omega
 ·have:=p hk hx;subst hy;rw[xaq] at e;omega
 ·omega
def PosP (f:Pt) (h:Pt->Int):Prop:=∃k m:Int,0<k/\0<m/\∀P,k*hgP f P=m*h P
theorem PosP.sg {h:Pt->Int} (a:PosP f h) (P:Pt):(0<hgP f P↔0<h P)/\(0<=hgP f P↔0<=h P)/\(hgP f P<=0↔h P<=0) :=
 let ⟨_,_,k0,m0,e⟩:=a
 sg2 k0 m0 (e P)
structure Pyr (Z:Sht) (s:Pt) (ws:List Tri) (ε:Int) (fs:List Pt):Prop where
 sg:0<ε*hgP (nP Z) s
 f0:∃f∈fs,PosP f fun P=>ε*hgP (nP Z) P
 fe:∀e∈prs ws,∃f∈fs,PosP f fun P=>-ε*hgP (rgQ s (jaE Z e.1) (jaE Z e.2)) P
 all:∀f∈fs,PosP f (fun P=>ε*hgP (nP Z) P)\/∃e∈prs ws,PosP f fun P=>-ε*hgP (rgQ s (jaE Z e.1) (jaE Z e.2)) P
theorem jj2 (p q D P:Pt):hgP (rgQ q p D) P=-hgP (rgQ p q D) P:=by
 simp only[jbT,jaY];grind
theorem jld {c b:Int} (c0:c≠0) (h1:c*a<=0) (h2:0<ε*a) (h3:0<=c*b):ε*b<=0:=by
 have a0:a≠0:=fun z=>by rw[z,xaq] at h2;omega
 rcases xaG c0 with c1 | c1
 ·have a1:0<a:=by
   rcases xaG a0 with q | q
   ·have:=xbz c1 q;omega
   ·exact q
  have e1:0<ε:=by
   rcases xaL 0 ε with q | q
   ·exact q
   ·have:=xbs q (xar a1);omega
  have b1:b<=0:=by
   rcases xaL 0 b with q | q
   ·have:=xaE c1 q;omega
   ·exact q
  exact xaF (xar e1) b1
 ·have a1:a<0:=by
   rcases xaG a0 with q | q
   ·exact q
   ·have:=xaf c1 q;omega
  have e1:ε<0:=by
   rcases xaL ε 0 with q | q
   ·exact q
   ·have:=xaF q (xar a1);omega
  have b1:0<=b:=by
   rcases xaL b 0 with q | q
   ·have:=xan c1 q;omega
   ·exact q
  exact xbs (xar e1) b1
theorem jj3 {g:Pt} (S:Rng ws) (h:∀w∈ws,hgP g (jaE Z w)=0) (q:Tri):hgP g (jaE Z q)=0:=by
 have n3:=S.n3;have d:=S.tp 0 1 2 (by omega) (by omega) (by omega);have h0:=h _ (jaH (i:=0) (l:=ws) (by omega));have h1:=h _ (jaH (i:=1) (l:=ws) (by omega));have h2:=h _ (jaH (i:=2) (l:=ws) (by omega));rw[<- jdc] at h0 h1 h2 |-
 have c:=jhO (jaT Z g).A (jaT Z g).B (jaT Z g).C (tr ws 0) (tr ws 1) (tr ws 2) q;unfold hf at h0 h1 h2 |-
 rw[h0,h1,h2] at c;simp only[xaq,Int.add_zero] at c;rcases xai.mp c with z | z
 ·omega
 ·exact z
def arr (A B:Pt):Pt:=⟨B.x*A.w-A.x*B.w,B.y*A.w-A.y*B.w,B.z*A.w-A.z*B.w,0⟩
theorem joZ (A B g:Pt):hgP g (arr A B)=A.w*hgP g B-B.w*hgP g A:=by
 unfold hgP arr hgt;simp only;grind
theorem jnn (a b:Tri):dt a b a=0/\dt a b b=0:=by
 unfold dt jaY;refine⟨?_,?_⟩<;>grind
structure Dir (Z:Sht) (e:Tri × Tri) (D:Pt):Prop where
 w0:D.w=0
 nz:¬(D.x=0/\D.y=0/\D.z=0)
 al:∃α β:Int,∀g,hgP g D=α*hgP g (jaE Z e.1)+β*hgP g (jaE Z e.2)
def PyE (Z:Sht) (s:Pt) (ws:List Tri) (p q:Pt):Prop:=(p=s/\∃c∈ws,q=jaE Z c)\/∃e∈prs ws,p=jaE Z e.1/\q=jaE Z e.2
def Cnd (Z1 Z2:Sht) (s:Pt) (vs ws:List Tri) (g:Pt) (τ:Int):Prop:=τ≠0/\(∀v∈vs,0<=τ*hgP g (jaE Z1 v))/\(∀r∈s::ws.map (jaE Z2),τ*hgP g r<=0)/\∃P,hgP g P≠0
theorem Pyr.fcs {fs:List Pt} (hw:1<=Z.w) (S:Rng ws) (Y:Pyr Z s ws ε fs) (sw:1<=s.w):Fcs (s::ws.map (jaE Z)) fs:=by
 have ww:0<Z.w*Z.w:=xaf (by omega) (by omega);have ew:=xaf ww Y.sg;have ce:∀a b c:Tri,-ε*hgP (rgQ s (jaE Z a) (jaE Z b)) (jaE Z c)=Z.w*Z.w*(ε*hgP (nP Z) s)*dt a b c:=fun a b c=>by
  rw[je6];grind
 refine⟨fun p hp=>?_,fun f hf p hp=>?_,fun f hf=>?_⟩
 ·rcases xam.mp hp with rfl | hp
  ·exact sw
  ·obtain⟨w,hw',rfl⟩:=xah.mp hp;show 1<=Z.w*w.z;have:=xaf (show 0<Z.w by omega) (show 0<w.z by have:=S.hz w hw';omega);omega
 ·rcases Y.all f hf with h | ⟨e,he,h⟩
  ·refine (h.sg p).2.1.mpr ?_;rcases xam.mp hp with rfl | hp
   ·exact xar Y.sg
   ·obtain⟨w,_,rfl⟩:=xah.mp hp;rw[jf0,xaq];exact xaW _
  ·refine (h.sg p).2.1.mpr ?_;rcases xam.mp hp with rfl | hp
   ·rw[(jfb _ _ _).1,xaq];exact xaW _
   ·obtain⟨w,hw',rfl⟩:=xah.mp hp;rw[ce];exact xag (xar ew) (S.own hw' e he)
 ·rcases Y.all f hf with h | ⟨e,he,h⟩
  ·exact⟨s,xaN,(h.sg s).1.mpr Y.sg⟩
  ·obtain⟨k,hk,rfl⟩:=jcv he;have n3:=S.n3;obtain⟨j,hj,j1,j2⟩:=jbh (n:=ws.length) (i:=k) (j:=(k+1) % ws.length) n3;refine⟨jaE Z (tr ws j),xad _ (xah.mpr ⟨_,jaH hj,rfl⟩),(h.sg _).1.mpr ?_⟩;rw[ce];exact xaf ew (jbs S.tp n3 hk hj (Ne.symm j2) (Ne.symm j1))
theorem jj4 {fs:List Pt} (hw1:1<=Z1.w) (nz1:Z1.u.nz) (hw2:1<=Z2.w) (nz2:Z2.u.nz) (R:Rng vs) (S:Rng ws) (Y:Pyr Z2 s ws ε fs) (sw:1<=s.w) (hD:∀e∈prs vs,∃D,Dir Z1 e D) (z:KP (fs.map (jaT Z1)) vs=[]) :
  (∃f∈fs,∀v∈vs,hgP f (jaE Z1 v)<=0)\/(∀p∈s::ws.map (jaE Z2),0<=hgP (nP Z1) p)\/(∀p∈s::ws.map (jaE Z2),hgP (nP Z1) p<=0) \/
  ∃e∈prs vs,∃p q:Pt,PyE Z2 s ws p q/\∀D,Dir Z1 e D->∃τ,Cnd Z1 Z2 s vs ws (rgQ p q D) τ:=by
 rcases part3 hw1 R (Y.fcs hw2 S sw) (own0 hw1 nz1) z with h | h | h | ⟨e,he,E,⟨t,t0,eE⟩,p,hp,q,hq,np,nq,al,av⟩
 ·exact .inl h
 ·exact .inr (.inl h)
 ·exact .inr (.inr (.inl h))
 have wp:=(Y.fcs hw2 S sw).w p hp;have wq:=(Y.fcs hw2 S sw).w q hq;have nzG:∃P,dt (T3p (nP Z1) E p) (T3p (nP Z1) E q) (T3p (nP Z1) E P)≠0:=by
  refine xau fun n=>?_;have z0:∀P,dt (T3p (nP Z1) E p) (T3p (nP Z1) E q) (T3p (nP Z1) E P)=0:=fun P=>xau fun c=>n ⟨P,c⟩;have id:∀v,dt (T3p (nP Z1) E p) (T3p (nP Z1) E q) (T3p (nP Z1) E (jaE Z1 v))=hgP E (jaE Z1 v)*(p.w*hgP (nP Z1) q-hgP (nP Z1) p*q.w)+(jaE Z1 v).w*(hgP (nP Z1) p*hgP E q-hgP E p*hgP (nP Z1) q):=fun v=>by
   unfold T3p dt jaY;rw[jf0];simp only;grind
  obtain⟨k,hk,rfl⟩:=jcv he;have n3:=R.n3;obtain⟨j,hj,j1,j2⟩:=jbh (n:=vs.length) (i:=k) (j:=(k+1) % vs.length) n3;have dj:=jbs R.tp n3 hk hj (Ne.symm j2) (Ne.symm j1);have a1:=id (tr vs k);rw[z0,eE,(jnn _ _).1,xaq,xaK,xcn] at a1;have wk:0<(jaE Z1 (tr vs k)).w:=xaf (show 0<Z1.w by omega) (show 0<(tr vs k).z by have:=R.hz _ (jaH hk);omega);have b0:=(xai.mp a1.symm).resolve_left (by omega);have a2:=id (tr vs j);rw[z0,eE,b0,xaq,Int.add_zero] at a2;have c1:=xaf t0 dj;have c2:=xag (show 0<=p.w by omega) nq;have c3:=xaE np (show 0<q.w by omega);have c4:=xaf c1 (show 0<p.w*hgP (nP Z1) q-hgP (nP Z1) p*q.w by omega);exact absurd a2.symm (xbE c4)
 have cd:∀D,Dir Z1 e D->∃τ,Cnd Z1 Z2 s vs ws (rgQ p q D) τ:=fun D d=>by
  obtain⟨α,β,ab⟩:=d.al;have dN:hgP (nP Z1) D=0:=by rw[ab,jf0,jf0];simp
  have dE:hgP E D=0:=by rw[ab,eE,eE,(jnn _ _).1,(jnn _ _).2];simp
  obtain⟨a,b,a0,b0,ee⟩:=cand dN dE d.w0 d.nz nzG;have te:∀P,a*b*hgP (rgQ p q D) P=a*a*dt (T3p (nP Z1) E p) (T3p (nP Z1) E q) (T3p (nP Z1) E P):=fun P=>by
   have:=ee P;grind
  have aa:0<a*a:=by
   rcases xaG a0 with c | c
   ·exact xbz c c
   ·exact xaf c c
  refine⟨a*b,xaZ a0 b0,fun v hv=>?_,fun r hr=>?_,?_⟩
  ·rw[te];exact xag (xar aa) (av v hv)
  ·rw[te];exact xaF (xar aa) (al r hr)
  ·obtain⟨P,hP⟩:=nzG;refine⟨P,fun z=>?_⟩;have:=te P;rw[z,xaq] at this;rcases xai.mp this.symm with c | c
   ·omega
   ·exact hP c
 have sw':∀{p q:Pt},(∀D,Dir Z1 e D->∃τ,Cnd Z1 Z2 s vs ws (rgQ p q D) τ)->∀D,Dir Z1 e D->∃τ,Cnd Z1 Z2 s vs ws (rgQ q p D) τ:=fun {p q} h D d=>by
  obtain⟨τ,t0,h1,h2,P,hP⟩:=h D d;have e:∀P,-τ*hgP (rgQ q p D) P=τ*hgP (rgQ p q D) P:=fun P=>by rw[jj2];grind
  exact⟨-τ,by omega,fun v hv=>by rw[e];exact h1 v hv,fun r hr=>by rw[e];exact h2 r hr,P,by rw[jj2];omega⟩
 rcases xam.mp hp with ps | hp'
 ·rcases xam.mp hq with qs | hq'
  ·rw[ps] at np;rw[qs] at nq;omega
  ·obtain⟨c,hc,rfl⟩:=xah.mp hq';exact .inr (.inr (.inr ⟨e,he,p,_,.inl ⟨ps,c,hc,rfl⟩,cd⟩))
 ·obtain⟨c,hc,rfl⟩:=xah.mp hp';rcases xam.mp hq with qs | hq'
  ·exact .inr (.inr (.inr ⟨e,he,q,_,.inl ⟨qs,c,hc,rfl⟩,sw' cd⟩))
  ·obtain⟨c',hc',rfl⟩:=xah.mp hq';by_cases n1:(c,c')∈prs ws
   ·exact .inr (.inr (.inr ⟨e,he,_,_,.inr ⟨_,n1,rfl,rfl⟩,cd⟩))
   by_cases n2:(c',c)∈prs ws
   ·exact .inr (.inr (.inr ⟨e,he,_,_,.inr ⟨_,n2,rfl,rfl⟩,sw' cd⟩))
   refine .inl ?_;obtain⟨D,d⟩:=hD e he;obtain⟨τ,t0,h1,h2,P,hP⟩:=cd D d;generalize hG:rgQ (jaE Z2 c) (jaE Z2 c') D=G at h1 h2 hP;have g1:hgP G (jaE Z2 c)=0:=by rw[<- hG];exact (jfb _ _ _).1
   have g2:hgP G (jaE Z2 c')=0:=by rw[<- hG];exact (jfb _ _ _).2.1
   have lin:∀q,jax (-(τ*(jaT Z2 G).A)) (-(τ*(jaT Z2 G).B)) (-(τ*(jaT Z2 G).C)) q=-(τ*hgP G (jaE Z2 q)):=fun q=>by
    rw[<- jdc];unfold hf jax;grind
   have nn:∀w∈ws,0<=jax (-(τ*(jaT Z2 G).A)) (-(τ*(jaT Z2 G).B)) (-(τ*(jaT Z2 G).C)) w:=fun w hw=>by
    rw[lin];have:=h2 _ (xad _ (xah.mpr ⟨w,hw,rfl⟩));omega
   obtain⟨i,hi,rfl⟩:=jdJ hc;obtain⟨j,hj,rfl⟩:=jdJ hc';have n3:=S.n3;have all0:∀w∈ws,jax (-(τ*(jaT Z2 G).A)) (-(τ*(jaT Z2 G).B)) (-(τ*(jaT Z2 G).C)) w=0:=by
    have za:jax (-(τ*(jaT Z2 G).A)) (-(τ*(jaT Z2 G).B)) (-(τ*(jaT Z2 G).C)) (tr ws i)=0:=by rw[lin,g1];simp
    have zb:jax (-(τ*(jaT Z2 G).A)) (-(τ*(jaT Z2 G).B)) (-(τ*(jaT Z2 G).C)) (tr ws j)=0:=by rw[lin,g2];simp
    have ij:i≠j:=fun z=>by
     rw[z] at np;omega
    have m1:(i+1) % ws.length≠j:=fun z=>n1 (by have:=je4 hi;rwa [z] at this);have m2:(j+1) % ws.length≠i:=fun z=>n2 (by have:=je4 hj;rwa [z] at this);have md:∀k,k<ws.length->(k+1) % ws.length=if k+1=ws.length then 0 else k+1:=fun k hk=>by
     split
     ·rename_i h;rw[h,xa4]
     ·exact xak (by omega)
    rw[md i hi] at m1;rw[md j hj] at m2;rcases xbZ ij with o | o
    ·exact two_zero S nn (i:=i) (j:=j) (by split at m1<;>omega) hj (fun ⟨x,y⟩=>by split at m2<;>omega) za zb
    ·exact two_zero S nn (i:=j) (j:=i) (by split at m2<;>omega) hi (fun ⟨x,y⟩=>by split at m1<;>omega) zb za
   have G0:∀w∈ws,hgP G (jaE Z2 w)=0:=fun w hw=>by
    have:=all0 w hw;rw[lin] at this;exact (xai.mp (show τ*hgP G (jaE Z2 w)=0 by omega)).resolve_left t0
   obtain⟨k,m,k0,ek⟩:=(own0 hw2 nz2).only G (jj3 S G0);have m0:m≠0:=fun z=>by
    have:=ek P;rw[z,xaK] at this;rcases xai.mp this with c | c
    ·omega
    ·exact hP c
   have ct:∀Q,τ*m*hgP (nP Z2) Q=k*(τ*hgP G Q):=fun Q=>by
    have:=ek Q;grind
   obtain⟨f,hf0,pf⟩:=Y.f0;refine⟨f,hf0,fun v hv=>(pf.sg _).2.2.mpr ?_⟩;refine jld (c:=τ*m) (a:=hgP (nP Z2) s) (xaZ t0 m0) ?_ Y.sg ?_
   ·rw[ct];exact xaF (xar k0) (h2 s xaN)
   ·rw[ct];exact xag (xar k0) (h1 v hv)
def Purs (H:Hp) (L:Addr):Prop:=∃r:Int,H L=some (.lst [.int r])/\0<=r
inductive spTakePi (vs:List V) (H:Hp) (Q:VK):Prop
 | mk (L:Addr) (n:Int) (_:vs=[.ref L,.int n]) (_:Purs H L) (_:0<n) (_:n<2^60) (_:∀(H':Hp) (d:Int),SameB L H H'->Purs H' L->0<=d->d<n->Q (.int d) H')
def jdq:Sp:=fun vs H Q _=>spTakePi vs H Q
theorem jle (T:Tx K mg t1 t2) (F:At K mg "_law_take" jdj ["purse","many"] []):jal P w K mg base CX0 1 "_law_take" ["purse","many"] [] jdq:=by
 refine F.ok jee (by walk_at "ar") (fun f cdv A outer s H vs Q E hr h=>?_);obtain⟨L,n,rfl,⟨r,hL,r0⟩,n0,n60,q⟩:=h;have S:=jee;refine⟨_,(jag (jat (i:=2) S.nd rfl (Or.inl rfl) (jap jds (jam ix_list (pv 0) jab) (pv 1)))
  (jag (jiz (jap jbr (jam ix_list (pv 0) jab) (pv 1)) (jln (pv 0) jab jht))
  (jah (jan (pv 2))))),?_⟩
 have k1:SqL K H L [.int r]:=SqL.of hL;have fn:Fit n:=Bd.fit (n:=61) (by unfold Bd;omega);have a1:=xbc r (show n≠0 by omega);have a2:=xbd r n0;have a3:0<=r / n:=Int.ediv_nonneg (by omega) (by omega);walk_at "rf";walk_at "gf";unfold gSub;walk_at "rf";exact⟨L,_,0,0,rfl,rfl,hL,rfl,q _ _ SameB.set ⟨r / n,jak,a3⟩ a1 a2⟩
theorem jno {b:Int} (h:b≠0):(a.fmod b).natAbs<b.natAbs:=by
 have h1:=xbc a h;have h2:=Int.emod_lt a h;have h3:=@Int.fmod_eq_emod a b;by_cases c:0<=b\/b ∣ a
 ·rw[if_pos c] at h3;omega
 ·rw[if_neg c] at h3;have:a % b≠0:=fun e=>c (.inr (Int.dvd_of_emod_eq_zero e));have:¬0<=b:=fun e=>c (.inl e);omega
theorem jlf (a b:Int):Int.gcd b (a.fmod b)=Int.gcd a b:=by
 have e:=@Int.fmod_eq_emod a b;have m:=jnl a b;by_cases c:0<=b\/b ∣ a
 ·rw[if_pos c] at e;rw[e,Int.add_zero,m]
 ·rw[if_neg c] at e;rw[e,<- m];exact Int.gcd_add_self_right _ _
inductive spDvAi (vs:List V) (H:Hp) (Q:VK):Prop
 | mk (x y:Int) (_:vs=[.int x,.int y]) (_:Q (.int (Int.gcd x y:Nat)) H)
def jo0:Sp:=fun vs H Q _=>spDvAi vs H Q
theorem jo1 (T:Tx K mg t1 t2) (F:At K mg "_law_divisor" jbX ["one","other"] []):jal P w K mg base CX0 1 "_law_divisor" ["one","other"] [] jo0:=by
 refine F.ok jcN (by walk_at "ar") (fun f cdv A outer s H vs Q E hr h=>?_);obtain⟨x,y,rfl,q⟩:=h;have S:=jcN;refine⟨_,(jag (jfA PassesOwn.never (jav jgQ (pv 1) jab (jaC _))
  (jah (jnY (i:=0) (j:=1) rfl S.nd rfl rfl (by decide) rfl rfl (jaa (pv 1) (jaa (jap jmj (pv 0) (pv 1)) jac ja2) jad) rfl)))
  (jah (jan (jaB jdt rfl T.m_abs boot_abs (jaa (pv 0) jac jad))))),?_⟩
 walk_at "rf";refine⟨fun n σ H3=>H3=H/\∃(a b:Int),σ=[some (.int a),some (.int b)]/\Int.gcd a b=Int.gcd x y/\n=b.natAbs,⟨_,rfl,x,y,rfl,rfl,rfl⟩,?_⟩;rintro n σ H3 ⟨rfl,a,b,rfl,hg,rfl⟩;walk_at "rf";by_cases c:b=0
 ·subst c;have e:(Int.gcd x y:Int)=(a.natAbs:Int):=by
   rw[<- hg,Int.gcd_zero_right]
  rw[if_pos rfl,show (if a<0 then -a else a)=((Int.gcd x y:Nat):Int) by rw[e];split<;>omega];exact q
 ·rw[if_neg c];exact⟨fun σ' H'=>σ'=[some (.int b),some (.int (a.fmod b))]/\H'=H3,fun σ' H' ⟨h1,h2⟩=>⟨(a.fmod b).natAbs,jno c,h2,b,a.fmod b,h1,(jlf a b).trans hg,rfl⟩,c,rfl,rfl⟩
theorem gcd4 (x y z w:Int):((Int.gcd (Int.gcd x y:Nat) (Int.gcd z w:Nat):Nat):Int)=gl [x,y,z,w]:=by
 have p1:((Int.gcd (Int.gcd x y:Nat) (Int.gcd z w:Nat):Nat):Int) ∣ (Int.gcd x y:Nat):=xbu ..;have p2:((Int.gcd (Int.gcd x y:Nat) (Int.gcd z w:Nat):Nat):Int) ∣ (Int.gcd z w:Nat):=xbo ..;have d:((Int.gcd (Int.gcd x y:Nat) (Int.gcd z w:Nat):Nat):Int) ∣ gl [x,y,z,w]:=jfj fun n hn=>by
  simp only[xam,List.not_mem_nil,or_false] at hn;rcases hn with rfl | rfl | rfl | rfl
  ·exact xbv p1 (xbu ..)
  ·exact xbv p1 (xbo ..)
  ·exact xbv p2 (xbu ..)
  ·exact xbv p2 (xbo ..)
 have d':gl [x,y,z,w] ∣ ((Int.gcd (Int.gcd x y:Nat) (Int.gcd z w:Nat):Nat):Int):=xbC (xbC (jaR (by simp)) (jaR (by simp))) (xbC (jaR (by simp)) (jaR (by simp)));exact Int.dvd_antisymm (by omega) (jbk _) d d'
inductive spSpAi (K:PySem.W.Frag) (vs:List V) (H:Hp) (Q:VK):Prop
 | mk (a:Addr) (x y z w:Int) (_:vs=[.ref a,.int w]) (_:SqL K H a [.int x,.int y,.int z]) (_:0<w) (_:Fit w) (_:∀(g:Addr) (H':Hp),Same H H'->H' g=some (.tup ((low [x,y,z,w]).map V.int))->Q (.ref g) H')
def jhj (K:PySem.W.Frag):Sp:=fun vs H Q _=>spSpAi K vs H Q
theorem jo2 (T:Tx K mg t1 t2) (F:At K mg "_law_spot" jdm ["numbers","w"] []) (dP:jal P w K mg base CX0 1 "_law_divisor" ["one","other"] [] jo0):jal P w K mg base CX0 2 "_law_spot" ["numbers","w"] [] (jhj K):=by
 refine F.ok jeh (by walk_at "ar") (fun f cdv A outer s H vs Q E hr h=>?_);obtain⟨a,x,y,z,v,rfl,k1,v0,fv,q⟩:=h;have S:=jeh;refine⟨_,(jag (jat (i:=2) S.nd rfl (Or.inl rfl) (jae dP hr.m rfl jaq (jaa (jae dP hr.m rfl jaq (jaa (jam ix_list (pv 0) jab) (jaa (jam ix_list (pv 0) jab) jac jau) jau)) (jaa (jae dP hr.m rfl jaq (jaa (jam ix_list (pv 0) jab) (jaa (pv 1) jac jad) jau)) jac jaG) jaG)))
  (jah (jan (ja1 (jaa (jap jbr (jam ix_list (pv 0) jab) (pv 2)) (jaa (jap jbr (jam ix_list (pv 0) jab) (pv 2)) (jaa (jap jbr (jam ix_list (pv 0) jab) (pv 2)) (jaa (jap jbr (pv 1) (pv 2)) jac ja2) ja2) ja2) ja2))))),?_⟩
 walk_at "rf";walk_at "gf";refine⟨x,y,rfl,?_⟩;refine ixL k1 (i:=2) rfl ⟨z,v,rfl,_,_,rfl,?_⟩;rw[gcd4];have gp:0<gl [x,y,z,v]:=jco (n:=v) (by simp) (by omega);have gv:gl [x,y,z,v]<=v:=Int.le_of_dvd v0 (jaR (by simp));have gf:Fit (gl [x,y,z,v]):=xa7 (show (gl [x,y,z,v]).natAbs<=v.natAbs by omega) fv;refine ixL k1 (i:=0) rfl ⟨_,rfl,_,rfl,gp,gf,ixL k1 (i:=1) rfl ⟨_,rfl,_,rfl,gp,gf,ixL k1 (i:=2) rfl ⟨_,rfl,_,rfl,gp,gf,_,rfl,gp,gf,by decide,fun p hp=>?_⟩⟩⟩;exact q p _ (Same.new hp _) jak
def L3 (K:PySem.W.Frag) (H:Hp) (a:Addr) (u:Tri):Prop:=SqL K H a [.int u.x,.int u.y,.int u.z]
inductive spCrAi (K:PySem.W.Frag) (vs:List V) (H:Hp) (Q:VK):Prop
 | mk (a b:Addr) (u v:Tri) (_:vs=[.ref a,.ref b]) (_:L3 K H a u) (_:L3 K H b v) (_:(Bd 700 u.x/\Bd 700 u.y/\Bd 700 u.z)) (_:(Bd 700 v.x/\Bd 700 v.y/\Bd 700 v.z)) (_:∀(g:Addr) (H':Hp),H g=none->Same H H'->H' g=some (.lst [.int (u.y*v.z-u.z*v.y),.int (u.z*v.x-u.x*v.z),.int (u.x*v.y-u.y*v.x)])->Q (.ref g) H')
def jj5 (K:PySem.W.Frag):Sp:=fun vs H Q _=>spCrAi K vs H Q
theorem jo3 (T:Tx K mg t1 t2) (F:At K mg "_law_cross" jcG ["one","other"] []):jal P w K mg base CX0 1 "_law_cross" ["one","other"] [] (jj5 K):=by
 refine F.ok jdE (by walk_at "ar") (fun f cdv A outer s H vs Q E hr h=>?_);obtain⟨a,b,u,v,rfl,k1,k2,⟨u1,u2,u3⟩,⟨v1,v2,v3⟩,q⟩:=h;have S:=jdE;refine⟨_,(jah (jan (jaQ (jaa (jap jbf (jap jar (jam ix_list (pv 0) jab) (jam ix_list (pv 1) jab)) (jap jar (jam ix_list (pv 0) jab) (jam ix_list (pv 1) jab))) (jaa (jap jbf (jap jar (jam ix_list (pv 0) jab) (jam ix_list (pv 1) jab)) (jap jar (jam ix_list (pv 0) jab) (jam ix_list (pv 1) jab))) (jaa (jap jbf (jap jar (jam ix_list (pv 0) jab) (jam ix_list (pv 1) jab)) (jap jar (jam ix_list (pv 0) jab) (jam ix_list (pv 1) jab))) jac ja2) ja2) ja2)))),?_⟩;unfold L3 at k1 k2;have f1:Fit u.x:=u1.fit;have f2:Fit u.y:=u2.fit;have f3:Fit u.z:=u3.fit;have g1:Fit v.x:=v1.fit;have g2:Fit v.y:=v2.fit;have g3:Fit v.z:=v3.fit;walk_at "rf";walk_at "gf";exact fun p hp=>q p _ hp (Same.new hp _) jak
def Dt3 (K:PySem.W.Frag) (H:Hp) (a:Addr) (u:Tri):Prop:=∃xs,(SqL K H a xs\/SqT K H a xs)/\atI xs 0=some (.int u.x)/\atI xs 1=some (.int u.y)/\atI xs 2=some (.int u.z)
theorem L3.d {K:PySem.W.Frag} {a:Addr} {u:Tri} (h:L3 K H a u):Dt3 K H a u:=⟨_,.inl h,rfl,rfl,rfl⟩
theorem Is4.d {K:PySem.W.Frag} {a:Addr} (h:Is4 H a p):Dt3 K H a ⟨p.x,p.y,p.z⟩:=⟨_,.inr h.sq,rfl,rfl,rfl⟩
inductive spDtAi (K:PySem.W.Frag) (vs:List V) (H:Hp) (Q:VK):Prop
 | mk (a b:Addr) (u v:Tri) (_:vs=[.ref a,.ref b]) (_:Dt3 K H a u) (_:Dt3 K H b v) (_:(Bd 1300 u.x/\Bd 1300 u.y/\Bd 1300 u.z)) (_:(Bd 1300 v.x/\Bd 1300 v.y/\Bd 1300 v.z)) (_:Q (.int (u.x*v.x+u.y*v.y+u.z*v.z)) H)
def jo4 (K:PySem.W.Frag):Sp:=fun vs H Q _=>spDtAi K vs H Q
theorem jo5 (T:Tx K mg t1 t2) (F:At K mg "_law_dot" jdY ["one","other"] []):jal P w K mg base CX0 1 "_law_dot" ["one","other"] [] (jo4 K):=by
 refine F.ok jeW (by walk_at "ar") (fun f cdv A outer s H vs Q E hr h=>?_);obtain⟨a,b,u,v,rfl,⟨xs,k1,x1,x2,x3⟩,⟨ys,k2,y1,y2,y3⟩,⟨u1,u2,u3⟩,⟨v1,v2,v3⟩,q⟩:=h;have S:=jeW;refine⟨_,(jah (jan (jap jbt (jap jbt (jap jar (jam (jfq (K:=K) rfl) (pv 0) jab) (jam (jfq (K:=K) rfl) (pv 1) jab)) (jap jar (jam (jfq (K:=K) rfl) (pv 0) jab) (jam (jfq (K:=K) rfl) (pv 1) jab))) (jap jar (jam (jfq (K:=K) rfl) (pv 0) jab) (jam (jfq (K:=K) rfl) (pv 1) jab))))),?_⟩;walk_at "rf";refine jlJ k1 x1 (jlJ k2 y1 ⟨_,rfl,_,rfl,u1.fit,v1.fit,jlJ k1 x2 (jlJ k2 y2 ⟨_,rfl,_,rfl,u2.fit,v2.fit,jlJ k1 x3 (jlJ k2 y3 ⟨_,rfl,_,rfl,u3.fit,v3.fit,q⟩)⟩)⟩)
theorem L3.rds {K:PySem.W.Frag} {a:Addr} {u:Tri} (h:L3 K H a u):Rds K H (.ref a) (.list [.int u.x,.int u.y,.int u.z]):=.lst h (.cons (.int _) (.cons (.int _) (.cons (.int _) .nil)))
def Cors (K:PySem.W.Frag) (H:Hp) (rs:List Addr) (us:List Tri):Prop:=rs.length=us.length/\∀i,i<rs.length->L3 K H (ad rs i) (tr us i)
theorem Cors.mem {K:PySem.W.Frag} {rs:List Addr} (h:Cors K H rs us) {r:Addr} (m:r∈rs):∃u,L3 K H r u:=by
 obtain⟨i,hi,e⟩:=xbe.mp m;have:=h.2 i hi;rw[show ad rs i=r by unfold ad;rw[xab,xac hi];exact e] at this;exact⟨_,this⟩
theorem minIx {K:PySem.W.Frag} {a:Addr} {rs:List Addr} (k1:SqL K H a (rs.map V.ref)) (c:Cors K H rs us) (n1:1<=rs.length) (n8:rs.length<=8) (q:∀j:Nat,j<rs.length->Q (.int j) H):jof K [.ref a] H fun x H1=>jjc K (.ref a) [x] H1 Q:=by
 refine⟨a,rs,3,rfl,k1,fun e=>by rw[e] at n1;exact absurd n1 (by decide),fun r m=>?_,fun r m=>?_⟩
 ·obtain⟨u,hu⟩:=c.mem m;exact⟨[u.x,u.y,u.z],hu,rfl⟩
 ·obtain⟨u,hu⟩:=c.mem m;refine⟨a,_,_,_,rfl,rfl,k1,hu.rds,rfl,by simp [PyData.depth,PyData.depthAll],?_,fun v hv=>?_,⟨_,List.mem_map_of_mem m,hu.rds⟩,?_,?_⟩
  ·simp [PyData.eqv,PyData.eqvAll]
  ·obtain⟨r',m',rfl⟩:=xah.mp hv;obtain⟨u',hu'⟩:=c.mem m';exact⟨_,hu'.rds,rfl,by simp [PyData.depth,PyData.depthAll]⟩
  ·rw[xaa];omega
  ·rw[xaa];exact q
theorem jnp {K:PySem.W.Frag} {b:Addr} {rs:List Addr} {v:Int} (k:SqL K H1 b (rs.map V.ref)) (c:Cors K H1 rs us) (n8:rs.length<=8) (v0:0<v) (fv:Fit v)
    (q:∀(g:Addr) (H':Hp) (gs:List Addr),Same H1 H'->H' g=some (.tup (gs.map V.ref))->gs.length=us.length->(∀i,i<gs.length->H' (ad gs i)=some (.tup ((low [(tr us i).x,(tr us i).y,(tr us i).z,v]).map V.int)))->Q (.ref g) H') (acc:Addr) (ha:H1 acc=none) :
    CompGo (Itl K b) [some (V.int v)] (jbB 0) jcx (jew (jhj K) [] E (jbQ (jfc 0) (jbQ (jfc 1) jgT))) acc (fun H'=>∃x,(SqL K H' acc x/\∀l:Addr,H' l=none->Q (V.ref l) (upd H' l (HO.tup x)))\/SqT K H' acc x/\Q (V.ref acc) H') H1:=by
  refine jhy (K:=K) (a:=b) (zs:=rs.map V.ref) (fun i y J=>∃r:Addr,y=.ref r/\J r=some (.tup ((low [(tr us i).x,(tr us i).y,(tr us i).z,v]).map V.int))) (fun i y J J' ⟨r,h1,h2⟩ st=>⟨r,h1,st _ _ h2⟩) (by rw[xaa];omega) ha k (fun i z H5 R hz s5 hR=>?_) fun ys J5 s5 e5 l5 p5=>?_
  . rw[xav] at hz
    cases e:rs[i]? with
    | none=>rw[e] at hz;cases hz
    | some r =>
      rw[e] at hz;cases hz;have hi:=(xae.mp e).1;have hc:=c.2 i hi;rw[show ad rs i=r by unfold ad;rw[xab,e];rfl] at hc;walk_at "rf";exact⟨r,_,_,_,v,rfl,s5.seq hc,v0,fv,fun g H6 s6 hg=>hR _ _ s6 ⟨g,rfl,hg⟩⟩
  . obtain⟨es,rfl⟩:∃es:List Addr,ys=es.map V.ref:=jd2 fun i y hy=>let ⟨r,h1,_⟩:=p5 i y hy; ⟨r,h1⟩
    rw[xaa,xaa] at l5;refine⟨_,.inl ⟨SqL.of e5,fun l hl=>q l _ es (s5.trans (Same.new hl _)) jak (l5.trans c.1) fun i hi=>?_⟩⟩;obtain⟨r,h1,h2⟩:=p5 i (.ref (ad es i)) (by rw[xav,xac hi];unfold ad;rw[xab,xac hi];rfl);cases h1;exact Same.new hl _ _ _ h2
def Prd (K:PySem.W.Frag) (H:Hp) (ps:List (Addr × Tri)):Prop:=∀p∈ps,L3 K H p.1 p.2
theorem Prd.cors {K:PySem.W.Frag} {ps:List (Addr × Tri)} (h:Prd K H ps):Cors K H (ps.map Prod.fst) (ps.map Prod.snd):=by
 refine⟨by rw[xaa,xaa],fun i hi=>?_⟩;rw[xaa] at hi;have e1:ad (ps.map Prod.fst) i=ps[i].1:=by unfold ad;rw[xab,xav,xac hi];rfl
 have e2:tr (ps.map Prod.snd) i=ps[i].2:=by unfold tr;rw[xab,xav,xac hi];rfl
 rw[e1,e2];exact h _ (xa5 hi)
theorem Prd.keep {K:PySem.W.Frag} {ps:List (Addr × Tri)} (h:Prd K H ps) (s:Same H H'):Prd K H' ps:=fun p m=>s.seq (h p m)
def spP (w:Int) (u:Tri):Pt:=⟨u.x / gl [u.x,u.y,u.z,w],u.y / gl [u.x,u.y,u.z,w],u.z / gl [u.x,u.y,u.z,w],w / gl [u.x,u.y,u.z,w]⟩
theorem jo6 {w:Int} {u:Tri} (h:u.bd n) (hw:Bd n w):(spP w u).bd n:=⟨Bd.div h.1,Bd.div h.2.1,Bd.div h.2.2,Bd.div hw⟩
theorem Pt.bd.sm' (h:p.bd n) (l:n<=650):p.sm:=⟨Bd.mono h.1 l,Bd.mono h.2.1 l,Bd.mono h.2.2.1 l,Bd.mono h.2.2.2 l⟩
inductive spFmAi (K:PySem.W.Frag) (vs:List V) (H:Hp) (Q:VK):Prop
 | mk (a:Addr) (ps:List (Addr × Tri)) (w:Int) (_:vs=[.ref a,.int w]) (_:SqL K H a ((ps.map Prod.fst).map V.ref)) (_:Prd K H ps) (_:(∀p∈ps,p.2.bd 600)) (_:3<=ps.length) (_:ps.length<=8) (_:0<w) (_:Bd 60 w) (_:∀(g:Addr) (H':Hp) (gs:List Addr) (us:List Tri),Same H H'->H' g=some (.tup (gs.map V.ref))->RR (ps.map Prod.snd) us->Sps H' gs (us.map (spP w))->Q (.ref g) H')
def jo7 (K:PySem.W.Frag):Sp:=fun vs H Q _=>spFmAi K vs H Q
theorem jl2 {H:Hp} {v:Int}:∀{gs:List Addr} {us:List Tri},gs.length=us.length->(∀u∈us,u.bd 600)->Bd 60 v->(∀i,i<gs.length->H (ad gs i)=some (.tup ((low [(tr us i).x,(tr us i).y,(tr us i).z,v]).map V.int)))->Sps H gs (us.map (spP v))
 | [],[],_,_,_,_=>.nil
 | g::gs,u::us,l,b,hv,h=>.cons ⟨h 0 (by simp),(jo6 (b u (by simp)) (Bd.mono hv)).sm' (by decide)⟩ (jl2 (Nat.succ.inj l) (fun x hx=>b x (xad _ hx)) hv fun i hi=>h (i+1) (Nat.succ_lt_succ hi))
theorem jo8 (T:Tx K mg t1 t2) (F:At K mg "_law_formed" jch ["corners","w"] []) (dC:jal P w K mg base CX0 2 "_law_spot" ["numbers","w"] [] (jhj K)):jal P w K mg base CX0 3 "_law_formed" ["corners","w"] [] (jo7 K):=by
  refine F.ok jc9 (by walk_at "ar") (fun f cdv A outer s H vs Q E hr h=>?_);obtain⟨a,ps,v,rfl,k1,hc,hb,n3,n8,v0,bv,q⟩:=h;have fv:Fit v:=bv.fit;have S:=jc9;refine⟨_,(jag (jat (i:=2) S.nd rfl (Or.inl rfl) (jmq PySem.F.plainAttrs_list PySem.F.slot_list_index PySem.F.type_list_index (jjd (jki hr)) (pv 0) (jaa (jaB (jjf rfl (jki hr)) rfl T.m_min boot_min (jaa (pv 0) jac jad)) jac jaG)))
    (jag (jat (i:=3) S.nd rfl (Or.inl rfl) (jap jgX (jbi jb9 (pv 0) (jbF (pv 2)) jbE) (jbi jb9 (pv 0) jbE (jbF (pv 2)))))
    (jag (jaV (jav (jmM (xa7 (Nat.le_add_right _ 64) (jki hr))) (jam ix_list (pv 3) (jdM jb3 jab)) (jam ix_list (pv 3) jab) (jaC _))
    (jah (jat (i:=3) S.nd rfl (Or.inl rfl) (jap jgX (jbi jb9 (pv 3) jbE (jbF jab)) (jfh rfl rfl T.m_list rfl T.m_reversed (jbi jb9 (pv 3) (jbF jab) jbE)))))
    jaz)
    (jah (jan (ja3 ja5 rfl T.m_tuple boot_tuple (jaa (jaX rfl (N':=["corner","w"]) (ix:=[1]) (by walk_at "cs") (ja9 (pv 3)) (fun _ _ _ _=>jas (i:=0) (show (["corner","w"]:List Str).Nodup from by decide +kernel) rfl (Or.inl rfl)) (fun _ _ _ _=>jaW) (fun _ _ _ _=>(jae dC hr.m rfl jaq (jaa (pv 0) (jaa (pv 1) jac jad) jad)))) jac jdu))))))),?_⟩
  walk_at "rf";refine⟨.inl ⟨_,k1⟩,minIx k1 hc.cors (by rw[xaa];omega) (by rw[xaa];omega) fun j hj=>⟨_,rfl,a,_,rfl,k1,fun p hp=>⟨_,rfl,a,_,rfl,(Same.new hp _).seq k1,fun p2 hp2=>?_⟩⟩⟩;rw[xaa] at hj;rw[jeo] at hp2 |-
  rw[jdw];have s1:=Same.new hp (.lst (((ps.map Prod.fst).map V.ref).drop j));have s2:=Same.new hp2 (.lst (((ps.map Prod.fst).map V.ref).take j));refine⟨p,p2,_,_,rfl,rfl,s2.seq (SqL.of jak),SqL.of jak,xa2 (jaM ?_),fun p3 hp3=>?_⟩
  . rw[xaB,xaO,xaa,xaa];omega
  have s3:=Same.new hp3 (.lst (((ps.map Prod.fst).map V.ref).drop j++((ps.map Prod.fst).map V.ref).take j));obtain⟨qs,eq⟩:∃qs,qs=ps.drop j++ps.take j:=⟨_,rfl⟩;have el:((ps.map Prod.fst).map V.ref).drop j++((ps.map Prod.fst).map V.ref).take j=(qs.map Prod.fst).map V.ref:=by rw[eq,xap,xap,xbM,xbM,xbF,xbF]
  rw[el] at s3 |-
  have s:=s1.trans (s2.trans s3);have ql:qs.length=ps.length:=by rw[eq,xal,xaB,xaO];omega
  have hq:Prd K H qs:=fun x m=>hc x ((xay.mp (eq▸m)).elim xcd xbP);have hbq:∀x∈qs,x.2.bd 600:=fun x m=>hb x ((xay.mp (eq▸m)).elim xcd xbP);have hu:RR (ps.map Prod.snd) (qs.map Prod.snd):=by
    rw[eq,xap,xbM,xbF];exact .rot j (.refl _)
  have hJ:=hq.keep s;have k3:SqL K (upd (upd (upd H p (.lst (((ps.map Prod.fst).map V.ref).drop j))) p2 (.lst (((ps.map Prod.fst).map V.ref).take j))) p3 (.lst ((qs.map Prod.fst).map V.ref))) p3 ((qs.map Prod.fst).map V.ref):=SqL.of jak;generalize upd (upd (upd H p _) p2 _) p3 _=J at s hJ k3 |-
  obtain⟨c0,c1,r,rfl⟩:∃c0 c1 r,qs=c0::c1::r:=by
    match qs,ql with
    | [],ql=>exact absurd ql (by simp;omega)
    | [_],ql=>exact absurd ql (by simp;omega)
    | a::b::r,_=>exact⟨a,b,r,rfl⟩
  have hn:r.length+1<(c0::c1::r).length:=by simp
  have fin:∀{b:Addr} {J':Hp} {ts:List (Addr × Tri)},Same J J'->SqL K J' b ((ts.map Prod.fst).map V.ref)->Prd K J' ts->ts.length<=8->(∀x∈ts,x.2.bd 600)->RR (ps.map Prod.snd) (ts.map Prod.snd)->∀(acc:Addr),J' acc=none->CompGo (Itl K b) [some (V.int v)] (jbB 0) jcx (jew (jhj K) [] E (jbQ (jfc 0) (jbQ (jfc 1) jgT))) acc (fun H'=>∃x,(SqL K H' acc x/\∀l:Addr,H' l=none->Q (V.ref l) (upd H' l (HO.tup x)))\/SqT K H' acc x/\Q (V.ref acc) H') J':=fun {b J' ts} sJ kb hT l8 bT rT acc hacc =>
    jnp kb hT.cors (by rw[xaa];exact l8) v0 fv (fun g H' gs s' e l h=>q g H' gs _ (s.trans (sJ.trans s')) e rT (jl2 l (fun u hu=>by
      obtain⟨x,hx,rfl⟩:=xah.mp hu;exact bT x hx) bv h)) acc hacc
  refine ixL k3 (v:=.ref ((c0::c1::r)[r.length+1]'hn).1) (jfO (n:=r.length+1) (by simp) (by rw[xav,xav,xac hn];rfl)) (ixL k3 (i:=((1:Nat):Int)) (v:=.ref c1.1) (jaP rfl) ?_);refine⟨_,_,[_,_,_],[_,_,_],rfl,rfl,hJ _ (xa5 hn),hJ c1 (by simp),rfl,fun k=>⟨k,rfl,?_⟩⟩;cases k with
  | false =>
    rw[if_neg (by decide)];exact⟨p3,rfl,⟨_,k3⟩,fin (fun _ _ h=>h) k3 hJ (by omega) hbq hu⟩
  | true =>
    rw[if_pos rfl];refine⟨p3,_,rfl,k3,fun p4 hp4=>⟨p3,_,rfl,(Same.new hp4 _).seq k3,fun p5 hp5=>⟨_,rfl,_,SqL.of jak,fun l hl=>?_⟩⟩⟩;rw[show jgf (List.map V.ref (List.map Prod.fst (c0::c1::r))) none (some 1)=[.ref c0.1] from jdw (f:=1)] at hp5 hl |-
    rw[show jgf (List.map V.ref (List.map Prod.fst (c0::c1::r))) (some 1) none=((c1::r).map Prod.fst).map V.ref from jeo (f:=1)] at hl |-
    have s4:=Same.new hp4 (.lst [.ref c0.1]);have s5:=Same.new hp5 (.lst (((c1::r).map Prod.fst).map V.ref));have s6:=Same.new hl (.lst (((c1::r).map Prod.fst).map V.ref).reverse);refine⟨p4,l,_,_,rfl,rfl,s6.seq (s5.seq (SqL.of jak)),SqL.of jak,xa2 (jaM ?_),fun p6 hp6=>?_⟩
    . rw[xbh,xaa,xaa]
      simp at ql |-
      omega
    have e6:[V.ref c0.1]++(((c1::r).map Prod.fst).map V.ref).reverse=((c0::(c1::r).reverse).map Prod.fst).map V.ref:=by
      rw[<- xbS,<- xbS];rfl
    rw[e6];have s7:=Same.new hp6 (.lst (((c0::(c1::r).reverse).map Prod.fst).map V.ref));have sa:=s4.trans (s5.trans (s6.trans s7));have mem:∀x∈c0::(c1::r).reverse,x∈c0::c1::r:=fun x hx=>by
      rcases xam.mp hx with h | h
      . exact h▸xaN
      . exact xad _ (List.mem_reverse.mp h)
    refine⟨p6,rfl,⟨_,SqL.of jak⟩,fin sa (SqL.of jak) (fun x hx=>sa.seq (hJ x (mem x hx))) (by simp at ql |-;omega) (fun x hx=>hbq x (mem x hx)) ?_⟩;refine hu.trans ?_;have z:=RR.rot (l:=(c0::c1::r).map Prod.snd) (r.length+1) (.rev (.refl _));have e7:(c0::(c1::r).reverse).map Prod.snd=(((c0::c1::r).map Prod.snd).reverse).drop (r.length+1)++(((c0::c1::r).map Prod.snd).reverse).take (r.length+1):=by
      have:((c0::c1::r).map Prod.snd).reverse=((c1::r).map Prod.snd).reverse++[c0.2]:=by simp
      rw[this,List.drop_append_of_le_length (by simp),List.take_append_of_le_length (by simp),List.drop_eq_nil_of_le (by simp),xbr (by simp)];simp
    rw[e7];exact z
inductive spSli (K:PySem.W.Frag) (vs:List V) (H:Hp) (Q:VK):Prop
 | mk (a:Addr) (ns:List Int) (m:Nat) (_:vs=[.ref a,.int (m:Int)]) (_:SqL K H a (ns.map V.int)) (_:ns.length<=63) (_:1<=m) (_:m<=60) (_:∀(L:Addr) (H':Hp) (ms:List Int),Same H H'->H' L=some (.lst (ms.map V.int))->ms.length=m->Q (.ref L) H')
def spSl (K:PySem.W.Frag):Sp:=fun vs H Q _=>spSli K vs H Q
theorem jj6 {K:PySem.W.Frag} {a:Addr} (h:SqL K H a xs) (s:SameB L H H') (n:H L=none):SqL K H' a xs:=(SameB.fresh (fun _ _ q=>q) n s).seq h
theorem ok_sl (T:Tx K mg t1 t2) (F:At K mg "_law_slots" jcD ["script","many"] []):jal P w K mg base CX0 1 "_law_slots" ["script","many"] [] (spSl K):=by
 refine F.ok jdB (by walk_at "ar") (fun f cdv A outer s H vs Q E hr h=>?_);obtain⟨a,ns,m,rfl,hS,h63,m1,m60,q⟩:=h;have S:=jdB;refine⟨_,(jag (jat (i:=2) S.nd rfl (Or.inl rfl) (jap jgX (ja3 jbR rfl T.m_list boot_list (jaa (jbi jb9 (pv 0) jbE (jbF (pv 1))) jac jau)) (jap jn5 (jaQ (jaa jab jac jaj)) (jaB (jev rfl) rfl T.m_max boot_max (jaa jab (jaa (jap jbf (pv 1) (jaB jbg rfl T.m_len PySem.boot_len (jaa (pv 0) jac jad))) jac ja2) jaj)))))
  (jag (jbe PassesOwn.never rfl (jf8 rfl T.m_range (jaa (pv 1) (jaa (jaB jbg rfl T.m_len PySem.boot_len (jaa (pv 0) jac jad)) jac jaG) jad)) (jas (i:=3) S.nd rfl (Or.inl rfl))
  (jah (jiz (jap jbt (jap jlp (jam ix_list (pv 2) (jap jds (pv 3) (pv 1))) jab) (jam ix_list (pv 0) (pv 3))) (jln (pv 2) (jap jds (pv 3) (pv 1)) jht))))
  (jah (jan (pv 2))))),?_⟩
 have el:(ns.map V.int).length=ns.length:=xaa _;walk_at "rf";refine⟨a,_,rfl,hS,fun p1 hp1=>?_⟩;rw[jdw,<- xbF];refine jb4 hp1 fun H1 s1 e1=>⟨p1,rfl,_,.inl (SqL.of e1),fun l hl=>⟨by decide,?_⟩⟩;refine jb4 hl fun H2 s2 e2 p hp=>?_;refine jb4 hp fun H3 s3 e3=>⟨_,.inl ((s1.trans (s2.trans s3)).seq hS),?_⟩;rw[el];refine⟨p,_,_,rfl,rfl,e3,by split<;>omega,by split<;>omega,xa2 (jaM (by simp;split<;>omega)),fun p4 hp4=>?_⟩;have rp:(List.replicate (if (m:Int)-ns.length>0 then (m:Int)-ns.length else 0).toNat [V.int 0]).flatten=(List.replicate (m-ns.length) (0:Int)).map V.int:=by
  rw[show (if (m:Int)-ns.length>0 then (m:Int)-ns.length else 0).toNat=m-ns.length by split<;>omega];generalize m-ns.length=k;induction k with
  | zero=>rfl
  | succ k ih=>rw[xbg,xbg,xbL,ih];rfl
 rw[rp];refine jb4 hp4 fun H4 s4 e4=>⟨l,p4,_,_,rfl,rfl,SqL.of (s4 _ _ (s3 _ _ e2)),SqL.of e4,xa2 (jaM (by simp;omega)),fun p5 hp5=>?_⟩;rw[<- xap];have n5:H p5=none:=Same.noneN (s1.trans (s2.trans (s3.trans s4))) hp5;refine jb4 hp5 fun H5 s5 e5=>⟨_,.inl ((s1.trans (s2.trans (s3.trans (s4.trans s5)))).seq hS),by omega,by omega,by omega,by omega,?_⟩;have s:=s1.trans (s2.trans (s3.trans (s4.trans s5)));refine jcy (fun i σ J=>SameB p5 H5 J/\∃(ms:List Int) (o:Option V),σ=[some (.ref a),some (.int (m:Int)),some (.ref p5),o]/\J p5=some (.lst (ms.map V.int))/\ms.length=m) ⟨SameB.refl _ _,_,none,rfl,e5,?_⟩ ?_ ?_
 ·rw[xal,xaO,xa9];omega
 ·rintro i σ J hi ⟨sJ,ms,o,rfl,eJ,lms⟩;have hsJ:SqL K J a (ns.map V.int):=jj6 hS (s.b.trans sJ) n5;have m0:=xbc ((m:Int)+i) (show (m:Int)≠0 by omega);have m1':=xbd ((m:Int)+i) (show (0:Int)<m by omega);obtain⟨j,ej⟩:=Int.eq_ofNat_of_zero_le m0;have hj:j<ms.length:=by omega
  have hi':m+i<ns.length:=by rw[el] at hi;omega
  walk_at "rf";refine⟨by omega,?_⟩;rw[ej];refine ixL (SqL.of eJ) (v:=.int ms[j]) (jaP (by rw[xav,xac hj];rfl)) ⟨_,rfl,.inr ⟨by decide,by decide⟩,?_⟩;refine ixL hsJ (v:=.int ns[m+i]) (joO (j:=m+i) (by omega) (by rw[xav,xac hi'];rfl)) ⟨_,rfl,?_⟩;unfold gSub;walk_at "rf";refine⟨by omega,p5,_,_,j,rfl,rfl,eJ,?_,sJ.box,ms.set j (ms[j]*1000003+ns[m+i]),?_,by rw[List.length_set];exact lms⟩
  ·rw[ej,xaa];unfold ixN;rw[if_pos (by omega),if_pos (by omega)];simp
  ·rw[jak,List.map_set]
 ·rintro σ J ⟨sJ,ms,o,rfl,eJ,lms⟩;walk_at "rf";exact q _ _ _ (SameB.fresh s n5 sJ) eJ lms
inductive spPui (vs:List V) (H:Hp) (Q:VK):Prop
 | mk (c k:Int) (_:vs=[.int c,.int k]) (_:0<=k) (_:k<=63) (_:∀(L:Addr) (H':Hp),H L=none->Same H H'->Purs H' L->Q (.ref L) H')
def spPu:Sp:=fun vs H Q _=>spPui vs H Q
theorem ok_pu (T:Tx K mg t1 t2) (F:At K mg "_law_purse" jcE ["cell","k"] []):jal P w K mg base CX0 1 "_law_purse" ["cell","k"] [] spPu:=by
 refine F.ok jdC (by walk_at "ar") (fun f cdv A outer s H vs Q E hr h=>?_);obtain⟨c,k,rfl,k0,k63,q⟩:=h;have S:=jdC;refine⟨_,(jag (jaV (jav jml (pv 0) (jap jlq jab jab) (jaC _))
  (jah (jan (jaQ (jaa (pv 0) jac jad))))
  jaz)
  (jag (jat (i:=2) S.nd rfl (Or.inl rfl) (jap jds (jap jar (jap jbt (jap jds (pv 0) jab) jab) (jap jbt (jap jar jab (pv 1)) jab)) jab))
  (jag (jat (i:=3) S.nd rfl (Or.inl rfl) jab)
  (jag (jbe PassesOwn.never rfl (jaO rfl T.m_range (jaa jab jac jaj)) (jas (i:=4) S.nd rfl (Or.inl rfl))
  (jag (jat (i:=2) S.nd rfl (Or.inl rfl) (jap jds (jap jbt (jap jbt (jap jar (jap jds (jap jar (pv 2) (pv 2)) jab) jab) (jap jar jab (pv 4))) (jap jar jab (pv 1))) jab))
  (jah (jat (i:=3) S.nd rfl (Or.inl rfl) (jap jbt (jap jlp (pv 3) jab) (pv 2))))))
  (jah (jan (jaQ (jaa (pv 3) jac jad)))))))),?_⟩
 walk_at "rf";refine⟨⟨by decide,by decide,by decide⟩,?_⟩;by_cases c0:(10:Int)^Int.toNat 18<=c
 ·rw[if_pos c0];have c1:(0:Int)<=c:=Int.le_trans (by decide) c0;exact⟨by decide,fun p hp=>q p _ hp (Same.new hp _) ⟨c,jak,c1⟩⟩
 ·rw[if_neg c0];have b1:=xbc c (show (998244353:Int)≠0 by decide);have b2:=xbd c (show (0:Int)<998244353 by decide);have d1:=xbc ((c % 998244353+1)*(2*k+3)) (show (998244353:Int)≠0 by decide);have d2:=xbd ((c % 998244353+1)*(2*k+3)) (show (0:Int)<998244353 by decide);have fk:Fit k:=Bd.fit (n:=10) (by unfold Bd;omega);refine⟨by decide,Bd.fit (n:=10) (by unfold Bd;decide),fk,Bd.fit (n:=40) (by unfold Bd;omega),Bd.fit (n:=40) (by unfold Bd;omega),by decide,by decide,by decide,?_⟩;refine jcy (fun i σ J=>J=H/\∃(near pot:Int) (o4:Option V),σ=[some (.int c),some (.int k),some (.int near),some (.int pot),o4]/\0<=near/\near<2147483629/\0<=pot) ⟨rfl,_,0,none,rfl,d1,by omega,by decide⟩ ?_ ?_
  ·rintro i σ J hi ⟨rfl,near,pot,o4,rfl,n0,n1,p0⟩;have hi8:i<8:=hi;have fn:Fit near:=Bd.fit (n:=40) (by unfold Bd;omega);have g1:=xbc (near*near) (show (998244341:Int)≠0 by decide);have g2:=xbd (near*near) (show (0:Int)<998244341 by decide);walk_at "rf";refine⟨fn,fn,by decide,Bd.fit (n:=40) (by unfold Bd;omega),Bd.fit (n:=40) (by unfold Bd;decide),Bd.fit (n:=40) (by unfold Bd;decide),Bd.fit (n:=40) (by unfold Bd;omega),Bd.fit (n:=40) (by unfold Bd;decide),fk,by decide,.inr ⟨by decide,by decide⟩,?_⟩;refine⟨xbc _ (by decide),xbd _ (by decide),?_⟩;have h1:=xbc (near*near % 998244341*69621+7907*(0+(i:Int))+31*k) (show (2147483629:Int)≠0 by decide);have h2:=xag p0 (show (0:Int)<=2147483629 by decide);omega
  ·rintro σ J ⟨rfl,near,pot,o4,rfl,n0,n1,p0⟩;walk_at "rf";exact⟨by decide,fun p hp=>q p _ hp (Same.new hp _) ⟨pot,jak,p0⟩⟩
inductive spWdi (vs:List V) (H:Hp) (Q:VK):Prop
 | mk (n:Int) (_:vs=[.int n]) (_:∀(v:Int) (H':Hp),(v=4\/v=9\/v=60\/v=1000000)->Same H H'->Q (.int v) H')
def spWd:Sp:=fun vs H Q _=>spWdi vs H Q
theorem ok_wd (T:Tx K mg t1 t2) (F:At K mg "_law_wide" jdk ["number"] []):jal P w K mg base CX0 1 "_law_wide" ["number"] [] spWd:=by
 refine F.ok jef (by walk_at "ar") (fun f cdv A outer s H vs Q E hr h=>?_);obtain⟨n,rfl,q⟩:=h;have S:=jef;refine⟨_,(jah (jan (jam ix_list (jaQ (jaa jab (jaa jab (jaa jab (jaa jab (jaa (jap jlq jab jab) jac ja2) jaj) jaj) jaj) jaj)) (jap jds (pv 0) jab)))),?_⟩;walk_at "rf";refine⟨⟨by decide,by decide,by decide⟩,by decide,fun p hp=>⟨by decide,?_⟩⟩;have m0:=xbc n (show (5:Int)≠0 by decide);have m4:=xbd n (show (0:Int)<5 by decide);have:n % 5=0\/n % 5=1\/n % 5=2\/n % 5=3\/n % 5=4:=by omega
 rcases this with e | e | e | e | e<;>rw[e]
 ·exact ixL (SqL.of jak) rfl (q 4 _ (by omega) (Same.new hp _))
 ·exact ixL (SqL.of jak) rfl (q 4 _ (by omega) (Same.new hp _))
 ·exact ixL (SqL.of jak) rfl (q 9 _ (by omega) (Same.new hp _))
 ·exact ixL (SqL.of jak) rfl (q 60 _ (by omega) (Same.new hp _))
 ·exact ixL (SqL.of jak) rfl (q _ _ (by decide) (Same.new hp _))
def Tri.le (n:Int) (u:Tri):Prop:=(-n<=u.x/\u.x<=n)/\(-n<=u.y/\u.y<=n)/\-n<=u.z/\u.z<=n
def A3 (H:Hp) (a:Addr) (u:Tri):Prop:=H a=some (.lst [.int u.x,.int u.y,.int u.z])
theorem A3.l3 {K:PySem.W.Frag} {a:Addr} {u:Tri} (h:A3 H a u):L3 K H a u:=SqL.of h
theorem Purs.keep (h:Purs H L) (s:Same H H'):Purs H' L :=
 let ⟨r,a,b⟩:=h
 ⟨r,s _ _ a,b⟩
theorem Purs.ne {p:Addr} (h:Purs H L) (n:H p=none):p≠L :=
 let ⟨_,a,_⟩:=h
 Ne.symm (jaD a n)
theorem jo9 {acc:Addr} {Z:Hp->Prop} {lo:Int} (p:V->Prop) (hn:n<1000) (hacc:H1 acc=none) (b0:Purs H1 L)
  (hs:∀(i:Nat) (H3:Hp) (R:V->Hp->Prop),i<n->SameB L H1 H3->Purs H3 L->(∀y H4,SameB L H3 H4->Purs H4 L->p y->R y H4)->te (some (.int (lo+i))::ρ) H3 R)
  (hd:∀ys H',SameB L H1 H'->Purs H' L->H' acc=some (.lst ys)->ys.length=n->(∀y∈ys,p y)->Z H'):CompGo (Itr lo n) ρ (jbB 0) jcx te acc Z H1:=by
 have ne:=b0.ne hacc;have up:∀{H:Hp} {xs:List V},Purs H L->Purs (upd H acc (.lst xs)) L:=fun {H xs} ⟨r,h1,h2⟩=>⟨r,by rw[jaw (Ne.symm ne)];exact h1,h2⟩;refine jdP (fun i xs H=>SameB L H1 H/\Purs H L/\H acc=some (.lst xs)/\xs.length=i/\∀y∈xs,p y) ⟨(Same.new hacc _).b,up b0,jak,rfl,fun y h=>nomatch h⟩ ?_ ?_
 ·rintro i xs H hi ⟨g1,gb,g2,hl,hp⟩;refine hs i H _ hi g1 gb fun y H4 s4 b4 py=>⟨s4 _ _ ne g2,jaM (by omega),(g1.trans s4).acc hacc,up b4,jak,?_,fun z hz=>?_⟩
  ·rw[xal,hl];rfl
  ·rcases xay.mp hz with hz | hz
   ·exact hp z hz
   ·rw[xaC.mp hz];exact py
 ·rintro xs H ⟨g1,gb,g2,hl,hp⟩;exact hd xs H g1 gb g2 hl hp
theorem ls3 {α:Type} {l:List α} (h:l.length=3):∃a b c,l=[a,b,c]:=by
 match l,h with
 | [a,b,c],_=>exact⟨a,b,c,rfl⟩
inductive spAri (vs:List V) (H:Hp) (Q:VK):Prop
 | mk (L:Addr) (d:Int) (_:vs=[.ref L,.int d]) (_:Purs H L) (_:1<=d) (_:d<=2000000) (_:∀(g:Addr) (H':Hp) (u:Tri),SameB L H H'->Purs H' L->H g=none->g≠L->A3 H' g u->u.le d->Q (.ref g) H')
def spAr:Sp:=fun vs H Q _=>spAri vs H Q
theorem ok_ar (T:Tx K mg t1 t2) (F:At K mg "_law_arrow" jcF ["purse","wide"] []) (de:jal P w K mg base CX0 1 "_law_take" ["purse","many"] [] jdq):jal P w K mg base CX0 2 "_law_arrow" ["purse","wide"] [] spAr:=by
 refine F.ok jdD (by walk_at "ar") (fun f cdv A outer s H vs Q E hr h=>?_);obtain⟨L,d,rfl,pL,d1,d2,q⟩:=h;have S:=jdD;refine⟨_,(jah (jan (jaX rfl (N':=["k","purse","wide"]) (ix:=[0,1]) (by walk_at "cs") (jaO rfl T.m_range (jaa jab jac jaj)) (fun _ _ _ _=>jas (i:=0) (show (["k","purse","wide"]:List Str).Nodup from by decide +kernel) rfl (Or.inl rfl)) (fun _ _ _ _=>jaW) (fun _ _ _ _=>(jap jbf (jae de hr.m rfl jaq (jaa (pv 1) (jaa (jap jbt (jap jar jab (pv 2)) jab) jac ja2) jad)) (pv 2)))))),?_⟩;walk_at "rf";refine⟨by decide,by decide,fun acc hacc=>?_⟩;refine jo9 (L:=L) (fun y=>∃z:Int,y=.int z/\-d<=z/\z<=d) (by decide) hacc pL (fun i H3 R hi s3 p3 hR=>?_) fun ys H' s' p' e' l' hy=>?_
 ·walk_at "rf";refine⟨Bd.fit (n:=10) (by unfold Bd;decide),Bd.fit (n:=40) (by unfold Bd;omega),L,_,rfl,p3,by omega,by omega,fun H4 z s4 p4 z0 z1=>?_⟩;exact⟨_,rfl,hR _ _ s4 p4 ⟨_,rfl,by omega,by omega⟩⟩
 ·obtain⟨a,b,c,rfl⟩:=ls3 l';obtain⟨x,rfl,x1,x2⟩:=hy a (by simp);obtain⟨y,rfl,y1,y2⟩:=hy b (by simp);obtain⟨z,rfl,z1,z2⟩:=hy c (by simp);exact q acc H' ⟨x,y,z⟩ s' p' hacc (pL.ne hacc) e' ⟨⟨x1,x2⟩,⟨y1,y2⟩,z1,z2⟩
def cr3 (u v:Tri):Tri:=⟨u.y*v.z-u.z*v.y,u.z*v.x-u.x*v.z,u.x*v.y-u.y*v.x⟩
theorem nzT {v:Tri} (h:v.nz):decide ([v.x,v.y,v.z]=[0,0,0])=false:=decide_eq_false fun z=>h (by simp at z;exact z)
theorem nzF {v:Tri} (h:v.x=0/\v.y=0/\v.z=0):decide ([v.x,v.y,v.z]=[0,0,0])=true:=decide_eq_true (by rw[h.1,h.2.1,h.2.2])
def un (i:Nat):Tri:=if i=0 then ⟨1,0,0⟩ else if i=1 then ⟨0,1,0⟩ else ⟨0,0,1⟩
theorem jpa (i:Nat):(un i).bd 60/\(un i).le 1:=by
 unfold un Tri.bd Tri.le Bd;split
 ·exact⟨⟨by decide,by decide,by decide⟩,by decide⟩
 ·split
  ·exact⟨⟨by decide,by decide,by decide⟩,by decide⟩
  ·exact⟨⟨by decide,by decide,by decide⟩,by decide⟩
inductive spUli (K:PySem.W.Frag) (vs:List V) (H:Hp) (Q:VK):Prop
 | mk (a:Addr) (u:Tri) (_:vs=[.ref a]) (_:L3 K H a u) (_:u.nz) (_:u.bd 60) (_:∀(g:Addr) (H':Hp) (v:Tri),Same H H'->H g=none->A3 H' g v->v.le 1->(cr3 u v).nz->Q (.ref g) H')
def spUl (K:PySem.W.Frag):Sp:=fun vs H Q _=>spUli K vs H Q
theorem Bd3.mono {u:Tri} {m:Nat} (h:u.bd n) (l:n<=m):Bd m u.x/\Bd m u.y/\Bd m u.z:=⟨Bd.mono h.1 l,Bd.mono h.2.1 l,Bd.mono h.2.2 l⟩
theorem ok_ul (T:Tx K mg t1 t2) (F:At K mg "_law_unlike" jcg ["one"] []) (dB:jal P w K mg base CX0 1 "_law_cross" ["one","other"] [] (jj5 K)):jal P w K mg base CX0 2 "_law_unlike" ["one"] [] (spUl K):=by
 refine F.ok jc8 (by walk_at "ar") (fun f cdv A outer s H vs Q E hr h=>?_);obtain⟨a,u,rfl,ka,nz,bu,q⟩:=h;have S:=jc8;refine⟨_,(jag (jbe PassesOwn.never rfl (ja9 (jaQ (jaa (jaQ (jaa jab (jaa jab (jaa jab jac jaj) jaj) jaj)) (jaa (jaQ (jaa jab (jaa jab (jaa jab jac jaj) jaj) jaj)) (jaa (jaQ (jaa jab (jaa jab (jaa jab jac jaj) jaj) jaj)) jac jbn) jbn) jbn))) (jas (i:=1) S.nd rfl (Or.inl rfl))
  (jah (jaV (jav (jlw (jki hr)) (jae dB hr.m rfl jaq (jaa (pv 0) (jaa (pv 1) jac jad) jad)) (jaQ (jaa jab (jaa jab (jaa jab jac jaj) jaj) jaj)) (jaC _))
  (jah (jan (pv 1)))
  jaz)))
  (jah (jan (pv 0)))),?_⟩
 walk_at "rf";refine⟨by decide,fun p0 h0=>⟨by decide,?_⟩⟩;refine jb4 h0 fun H0 s0 e0 p1 h1=>⟨by decide,?_⟩;refine jb4 h1 fun H1 s1 e1 p2 h2=>⟨by decide,?_⟩;refine jb4 h2 fun H2 s2 e2 p3 h3=>?_;refine jb4 h3 fun H3 s3 e3=>⟨⟨_,SqL.of e3⟩,?_⟩;have s:=s0.trans (s1.trans (s2.trans s3));have n1:H p1=none:=Same.noneN s0 h1;have n2:H p2=none:=Same.noneN (s0.trans s1) h2;refine jbC (K:=K) (a:=p3) (xs:=[.ref p0,.ref p1,.ref p2]) (fun i σ J=>Same H3 J/\∃o,σ=[some (.ref a),o]/\∀j,j<i->¬(cr3 u (un j)).nz) ⟨fun _ _ h=>h,none,rfl,fun _ h=>absurd h (xa8 _)⟩ (fun i σ J _ h=>SqL.of (h.1 _ _ e3)) ?_ ?_
 ·rintro i v σ J hi ⟨sJ,o,rfl,hz⟩;have st:∀(p:Addr),H p=none->A3 H3 p (un i)->jbB 1 (.ref p) [some (.ref a),o] J (fun σ2 H2=>jmd (jgS (tOp (jnK K true) (jew (jj5 K) [] E0 (jbQ (jfc 0) (jbQ (jfc 1) jgT))) (jkt (jbQ (tC (V.int 0)) (jbQ (tC (V.int 0)) (jbQ (tC (V.int 0)) jgT)))))) (jin (jfc 1)) jgN { nx:=fun σ J=>Same H3 J/\∃o,σ=[some (.ref a),o]/\∀j,j<i+1->¬(cr3 u (un j)).nz,rt:=Q,bk:=jin (jfc 0) { nx:=fun x H'=>Q V.non H',rt:=Q },ct:=fun σ J=>Same H3 J/\∃o,σ=[some (.ref a),o]/\∀j,j<i+1->¬(cr3 u (un j)).nz } σ2 H2):=fun p np ep=>by
   walk_at "rf";refine⟨a,p,u,un i,rfl,(s.trans sJ).seq ka,A3.l3 (sJ _ _ ep),Bd3.mono bu (by decide),Bd3.mono (jpa i).1 (by decide),fun g J2 hg s4 e4=>⟨by decide,fun p4 hp4=>?_⟩⟩;have s5:=Same.new hp4 (.lst [V.int 0,V.int 0,V.int 0]);refine jkC (x:=[(cr3 u (un i)).x,(cr3 u (un i)).y,(cr3 u (un i)).z]) (y:=[0,0,0]) (SqL.of (s5 _ _ e4)) (SqL.of jak) ⟨_,rfl,?_⟩;by_cases c:(cr3 u (un i)).nz
   ·rw[nzT c,if_pos (by decide)];exact q p _ _ (s.trans (sJ.trans (s4.trans s5))) np (s5 _ _ (s4 _ _ (sJ _ _ ep))) (jpa i).2 c
   ·have c':=xbN.mp c;rw[nzF c',if_neg (by decide)];refine⟨sJ.trans (s4.trans s5),fun j hj=>?_⟩;rcases xbK j i with o | o
    ·exact hz j o
    ·rw[show j=i by omega];exact c
  have hl:i<3:=(xae.mp hi).1;obtain rfl | rfl | rfl:=lt3 hl
  ·cases hi;exact st p0 h0 (s3 _ _ (s2 _ _ (s1 _ _ e0)))
  ·cases hi;exact st p1 n1 (s3 _ _ (s2 _ _ e1))
  ·cases hi;exact st p2 n2 (s3 _ _ e2)
 ·rintro σ J ⟨sJ,o,rfl,hz⟩;exfalso;have z0:=xbN.mp (hz 0 (show 0<3 by decide));have z1:=xbN.mp (hz 1 (show 1<3 by decide));unfold cr3 un at z0 z1;simp at z0 z1;exact nz ⟨by omega,by omega,by omega⟩
inductive spSii (vs:List V) (H:Hp) (Q:VK):Prop
 | mk (L:Addr) (d:Int) (_:vs=[.ref L,.int d]) (_:Purs H L) (_:1<=d) (_:d<=1000000) (_:∀(g a b:Addr) (H':Hp) (u v:Tri),SameB L H H'->Purs H' L->H' g=some (.tup [.ref a,.ref b])->a≠L->b≠L->A3 H' a u->A3 H' b v->u.le d->v.le d->(cr3 u v).nz->Q (.ref g) H')
def spSi:Sp:=fun vs H Q _=>spSii vs H Q
def siM (H:Hp) (L:Addr) (d:Int):L2.St->Hp->Prop:=fun σ J=>∃(a:Addr) (u:Tri),σ=[some (.ref L),some (.int d),some (.ref a),none]/\SameB L H J/\Purs J L/\a≠L/\A3 J a u/\u.le d/\u.nz
theorem jnq {u:Tri} {d:Int} (h:u.le d) (l:d<=2000000):u.bd 60:=by
 obtain⟨⟨a,b⟩,⟨c,e⟩,f,g⟩:=h;unfold Tri.bd Bd;omega
theorem ja4 {u:Tri} {d e:Int} (h:u.le d) (l:d<=e):u.le e:=by
 unfold Tri.le at *
 omega
theorem ok_si (T:Tx K mg t1 t2) (F:At K mg "_law_sides" jcH ["purse","wide"] []) (di:jal P w K mg base CX0 2 "_law_arrow" ["purse","wide"] [] spAr) (dB:jal P w K mg base CX0 1 "_law_cross" ["one","other"] [] (jj5 K)) (Dp:jal P w K mg base CX0 2 "_law_unlike" ["one"] [] (spUl K)):jal P w K mg base CX0 3 "_law_sides" ["purse","wide"] [] spSi:=by
 refine F.ok jdF (by walk_at "ar") (fun f cdv A outer s H vs Q E hr h=>?_);obtain⟨L,d,rfl,pL,d1,d2,q⟩:=h;have S:=jdF;refine⟨_,(jag (jat (i:=2) S.nd rfl (Or.inl rfl) (jae di hr.m rfl jaq (jaa (pv 0) (jaa (pv 1) jac jad) jad)))
  (jeD (siM H L d) (jaV (jav (jgm (jki hr)) (pv 2) (jaQ (jaa jab (jaa jab (jaa jab jac jaj) jaj) jaj)) (jaC _))
  (jah (jat (i:=2) S.nd rfl (Or.inl rfl) (jaQ (jaa jab (jaa jab (jaa jab jac jaj) jaj) jaj))))
  jaz)
  (jag (jat (i:=3) S.nd rfl (Or.inl rfl) (jae di hr.m rfl jaq (jaa (pv 0) (jaa (pv 1) jac jad) jad)))
  (jag (jaV (jav (jgm (jki hr)) (jae dB hr.m rfl jaq (jaa (pv 2) (jaa (pv 3) jac jad) jad)) (jaQ (jaa jab (jaa jab (jaa jab jac jaj) jaj) jaj)) (jaC _))
  (jah (jat (i:=3) S.nd rfl (Or.inl rfl) (jae Dp hr.m rfl jaq (jaa (pv 2) jac jad))))
  jaz)
  (jah (jan (ja1 (jaa (pv 2) (jaa (pv 3) jac jad) jad)))))))),?_⟩
 walk_at "rf";refine⟨L,d,rfl,pL,d1,by omega,fun g H1 u s1 p1 ng gL eg lu=>⟨by decide,fun p hp=>?_,?_⟩⟩
 ·have s2:=Same.new hp (.lst [V.int 0,V.int 0,V.int 0]);refine jen (x:=[u.x,u.y,u.z]) (y:=[0,0,0]) (SqL.of (s2 _ _ eg)) (SqL.of jak) ⟨_,rfl,?_⟩;by_cases c:u.nz
  ·rw[nzT c,if_neg (by decide)];exact⟨g,u,rfl,s1.trans s2.b,p1.keep s2,gL,s2 _ _ eg,lu,c⟩
  ·have c':=xbN.mp c;rw[nzF c',if_pos (by decide)];refine⟨by decide,fun p' hp'=>?_⟩;have s3:=Same.new hp' (.lst [V.int 1,V.int 0,V.int 0]);exact⟨p',⟨1,0,0⟩,rfl,s1.trans (s2.trans s3).b,p1.keep (s2.trans s3),(p1.keep s2).ne hp',jak,⟨⟨by show -d<=1;omega,by show 1<=d;omega⟩,⟨by show -d<=0;omega,by show 0<=d;omega⟩,by show -d<=0;omega,by show 0<=d;omega⟩,fun z=>absurd z.1 (by decide)⟩
 ·rintro σ J ⟨a,u,rfl,sJ,pJ,aL,ea,lu,nz⟩;walk_at "rf";refine⟨L,d,rfl,pJ,d1,by omega,fun b J1 v s1 p1 nb bL eb lv=>⟨a,b,u,v,rfl,A3.l3 (s1 _ _ aL ea),A3.l3 eb,Bd3.mono (jnq lu (by omega)) (by decide),Bd3.mono (jnq lv (by omega)) (by decide),fun c J2 nc s2 ec=>⟨by decide,fun p hp=>?_⟩⟩⟩;have s3:=Same.new hp (.lst [V.int 0,V.int 0,V.int 0]);have s23:=s2.trans s3;refine jen (x:=[(cr3 u v).x,(cr3 u v).y,(cr3 u v).z]) (y:=[0,0,0]) (SqL.of (s3 _ _ ec)) (SqL.of jak) ⟨_,rfl,?_⟩;have ea2:A3 (upd J2 p (.lst [V.int 0,V.int 0,V.int 0])) a u:=s23 _ _ (s1 _ _ aL ea);have p2:=p1.keep s23;by_cases c:(cr3 u v).nz
  ·rw[nzT c,if_neg (by decide)];refine⟨by decide,fun p' hp'=>?_⟩;have s4:=Same.new hp' (.tup [.ref a,.ref b]);exact q p' a b _ u v (sJ.trans (s1.trans (s23.trans s4).b)) (p2.keep s4) jak aL bL (s4 _ _ ea2) (s4 _ _ (s23 _ _ eb)) lu lv c
  ·have c':=xbN.mp c;rw[nzF c',if_pos (by decide)];refine⟨a,u,rfl,A3.l3 ea2,nz,jnq lu (by omega),fun g J4 v' s4 ng eg lg cg=>⟨by decide,fun p' hp'=>?_⟩⟩;have s5:=Same.new hp' (.tup [.ref a,.ref g]);exact q p' a g _ u v' (sJ.trans (s1.trans (s23.trans (s4.trans s5)).b)) (p2.keep (s4.trans s5)) jak aL (p2.ne ng) (s5 _ _ (s4 _ _ ea2)) (s5 _ _ eg) lu (ja4 lg (by omega)) cg
def rfs (ps:List (Addr × Tri)):List V:=(ps.map Prod.fst).map V.ref
theorem jlg (ps:List (Addr × Tri)) (p:Addr × Tri):rfs ps++[.ref p.1]=rfs (ps++[p]):=by
 unfold rfs;simp
def Acc3 (f:Nat->Tri) (H1:Hp) (acc:Addr) (i:Nat) (xs:List V) (H:Hp):Prop:=Same H1 H/\H acc=some (.lst xs)/\∃ps:List (Addr × Tri),xs=rfs ps/\ps.length=i/\ps.map Prod.snd=(List.range i).map f/\∀p∈ps,A3 H p.1 p.2/\p.1≠acc
theorem Acc3.start {f:Nat->Tri} {acc:Addr} (h:H1 acc=none):Acc3 f H1 acc 0 [] (upd H1 acc (.lst [])):=⟨Same.new h _,jak,[],rfl,rfl,rfl,fun _ z=>nomatch z⟩
theorem Acc3.step {f:Nat->Tri} {H4:Hp} {acc r:Addr} (ha:H1 acc=none) (h:Acc3 f H1 acc i xs H) (s4:Same H H4) (hr:H r=none) (e:A3 H4 r (f i)):H4 acc=some (.lst xs)/\Acc3 f H1 acc (i+1) (xs++[.ref r]) (upd H4 acc (.lst (xs++[.ref r]))):=by
 obtain⟨g1,g2,ps,rfl,hl,hm,hp⟩:=h;have ra:r≠acc:=Ne.symm (jaD g2 hr);refine⟨s4 _ _ g2,Same.keepN (g1.trans s4) ha _,jak,ps++[(r,f i)],jlg ps (r,f i),by rw[xal,hl];rfl,?_,fun p hp'=>?_⟩
 ·rw[xap,hm,xaQ,xap];rfl
 ·rcases xay.mp hp' with h | h
  ·obtain⟨h1,h2⟩:=hp p h;exact⟨by unfold A3;rw[jaw h2];exact s4 _ _ h1,h2⟩
  ·rw[xaC.mp h];exact⟨by unfold A3;rw[jaw ra];exact e,ra⟩
theorem jnr {a:Addr} {g:TG} {acc:Addr} {Z:Hp->Prop} (f:Nat->Tri) (hn:zs.length<1000) (hacc:H1 acc=none) (hz:SqL K H1 a zs)
  (hs:∀(i:Nat) (z:V) (v0:L2.St) (H3:Hp) (R:V->Hp->Prop),zs[i]?=some z->v0.length=n->Same H1 H3->(∀r H4,Same H3 H4->H3 r=none->A3 H4 r (f i)->R (.ref r) H4)->g z (v0++ρ) H3 fun σ2 H2=>(∃v:L2.St,v.length=n/\σ2=v++ρ)/\te σ2 H2 R)
  (hd:∀(ps:List (Addr × Tri)) H',Same H1 H'->H' acc=some (.lst (rfs ps))->ps.map Prod.snd=(List.range zs.length).map f->(∀p∈ps,A3 H' p.1 p.2)->Z H')
  (mono:∀z σ H (A B:L2.St->Hp->Prop),(∀σ' H',A σ' H'->B σ' H')->g z σ H A->g z σ H B):jdf (Itl K a) n ρ g jcx te acc Z H1:=by
 refine⟨fun i m xs H=>Acc3 f H1 acc i xs H/\i<=zs.length/\m=zs.length-i,⟨zs.length,.start hacc,xaY _,rfl⟩,?_⟩;rintro i m xs H ⟨A,hi,rfl⟩;have sq:=A.1.seq hz;have lx:xs.length=i:=by
  obtain⟨_,_,ps,rfl,hl,_⟩:=A;unfold rfs;rw[xaa,xaa,hl]
 by_cases hlt:i<zs.length
 ·have ez:zs[i]?=some zs[i]:=xac hlt;refine .inr ⟨⟨zs,zs[i],sq,ez⟩,(fun y H4=>∃r,y=.ref r/\Same H H4/\H r=none/\A3 H4 r (f i)),fun _=>False,?_,fun _ z=>z.elim,?_⟩
  ·rintro y H4 ⟨r,rfl,s4,nr,er⟩;obtain⟨h1,h2⟩:=A.step hacc s4 nr er;exact⟨h1,jaM (by omega),zs.length-(i+1),by omega,h2,hlt,rfl⟩
  ·rintro v0 x H' l0 ⟨rfl,hx⟩;have ex:x=zs[i]:=by
    have z:=hx zs sq;rw[ez] at z;exact (Option.some.inj z).symm
   subst ex;refine mono _ _ _ _ _ (fun σ' H'' h=>?_) (hs i _ v0 H' (fun y H4=>∃r,y=.ref r/\Same H' H4/\H' r=none/\A3 H4 r (f i)) ez l0 A.1 fun r H4 s4 nr er=>⟨r,rfl,s4,nr,er⟩);refine⟨h.1,?_⟩;simp only[jcx,if_true];exact h.2
 ·have:i=zs.length:=by omega
  subst this;obtain⟨g1,g2,ps,rfl,hl,hm,hp⟩:=A;exact .inl ⟨⟨zs,sq,xaj _⟩,hd ps H g1 g2 hm fun p h=>(hp p h).1⟩
def Mk (σ:L2.St) (te:TE) (φ:V->Hp->Prop):Prop:=∀H R,(∀v H',Same H H'->φ v H'->R v H')->te σ H R
def MkA (σ:L2.St) (ta:TA) (φ:List V->Hp->Prop):Prop:=∀H R,(∀v H',Same H H'->φ v H'->R v H')->ta σ H R
inductive PrI (H:Hp):List Addr->List (Int × Int)->Prop
 | nil:PrI H [] []
 | cons {r:Addr} {p:Int × Int} {rs:List Addr} {ps:List (Int × Int)}:H r=some (.tup [.int p.1,.int p.2])->PrI H rs ps->PrI H (r::rs) (p::ps)
theorem PrI.len {rs:List Addr} {ps:List (Int × Int)} (h:PrI H rs ps):rs.length=ps.length:=by
 induction h with
 | nil=>rfl
 | cons _ _ ih=>rw[xaw,xaw,ih]
theorem PrI.keep {rs:List Addr} {ps:List (Int × Int)} (h:PrI H rs ps) (s:SameT H H'):PrI H' rs ps:=by
 induction h with
 | nil=>exact .nil
 | cons e _ ih=>exact .cons (s _ _ e) ih
def IsP (p:Int × Int) (v:V) (H:Hp):Prop:=∃r,v=.ref r/\H r=some (.tup [.int p.1,.int p.2])
def RowA (ps:List (Int × Int)) (vs:List V) (H:Hp):Prop:=∃rs:List Addr,vs=rs.map V.ref/\PrI H rs ps
def IsL (ps:List (Int × Int)) (v:V) (H:Hp):Prop:=∃(l:Addr) (rs:List Addr),v=.ref l/\H l=some (.lst (rs.map V.ref))/\PrI H rs ps
def TabA:List (List (Int × Int))->List V->Hp->Prop
 | [],vs,_=>vs=[]
 | ps::pss,vs,H=>∃v ws,vs=v::ws/\IsL ps v H/\TabA pss ws H
theorem PrI.at :∀{rs:List Addr} {ps:List (Int × Int)},PrI H rs ps->∀{i:Nat},i<rs.length->∃p:Int × Int,(rs.map V.ref)[i]?=some (.ref (ad rs i))/\H (ad rs i)=some (.tup [.int p.1,.int p.2])/\tr (ps.map fun p=>(⟨p.1,p.2,1⟩:Tri)) i=⟨p.1,p.2,1⟩
  | _,_,.cons (p:=p) h _,0,_=>⟨p,rfl,h,rfl⟩
  | _, _, .cons _ t, i + 1, hi => by
    obtain⟨p,h1,h2,h3⟩:=t.at (xb2 hi);exact⟨p,h1,h2,h3⟩
theorem IsL.keep {ps:List (Int × Int)} {v:V} (h:IsL ps v H) (s:Same H H'):IsL ps v H':=by
 obtain⟨l,rs,rfl,h1,h2⟩:=h;exact⟨l,rs,rfl,s _ _ h1,h2.keep s.t⟩
theorem TabA.len:∀{pss:List (List (Int × Int))} {vs:List V} {H:Hp},TabA pss vs H->vs.length=pss.length
 | [],_,_,h=>by cases h;rfl
 | _::_,_,_,⟨_,_,e,_,h⟩=>by rw[e,xaw,xaw,h.len]
theorem TabA.keep:∀{pss:List (List (Int × Int))} {vs:List V} {H H':Hp},TabA pss vs H->Same H H'->TabA pss vs H'
 | [],_,_,_,h,_=>h
 | _::_,_,_,_,⟨v,ws,e,h1,h⟩,s=>⟨v,ws,e,h1.keep s,h.keep s⟩
theorem TabA.get:∀{pss:List (List (Int × Int))} {vs:List V} {H:Hp} {i:Nat},TabA pss vs H->i<pss.length->∃v,vs[i]?=some v/\IsL (pss.getD i []) v H
  | _::_,_,_,0,⟨v,ws,e,h1,_⟩,_=>⟨v,by rw[e];rfl,h1⟩
  | _ :: _, _, _, i + 1, ⟨v, ws, e, _, h⟩, hi => by
    obtain⟨u,h1,h2⟩:=h.get (i:=i) (xb2 hi);exact⟨u,by rw[e];exact h1,h2⟩
def MkI (σ:L2.St) (te:TE) (a:Int):Prop:=∀H R,R (.int a) H->te σ H R
theorem mk_c :MkI σ (tC (.int a)) a:=fun _ _ h=>h
theorem mk_u :MkI σ (tUn (rU fun i=>V.int (-i)) (tC (.int a))) (-a):=fun _ _ h=>⟨a,rfl,h⟩
theorem jns {ta tb:TE} {b:Int} (ha:MkI σ ta a) (hb:MkI σ tb b):Mk σ (jmo (jbQ ta (jbQ tb jgT))) (IsP (a,b)):=fun H R q =>
 ha _ _ (hb _ _ ⟨xa2 (jaM (show 2<1000 by decide)),fun p hp=>q _ _ (Same.new hp _) ⟨p,rfl,jak⟩⟩)
theorem jlh :MkA σ jgT (RowA []):=fun H R q=>q _ _ (fun _ _ z=>z) ⟨[],rfl,.nil⟩
variable {ta:TA}
theorem jj7 {p:Int × Int} {ps:List (Int × Int)} (h:Mk σ te (IsP p)) (k:MkA σ ta (RowA ps)):MkA σ (jbQ te ta) (RowA (p::ps)):=fun H R q=>h H _ fun v H1 s1 ⟨r,e,hr⟩=>k H1 _ fun ws H2 s2 ⟨rs,e',hs⟩=>q _ _ (s1.trans s2) ⟨r::rs,by rw[e,e'];rfl,.cons (s2 _ _ hr) hs⟩
theorem jpb {ps:List (Int × Int)} (k:MkA σ ta (RowA ps)) (hl:ps.length<1000):Mk σ (jkt ta) (IsL ps):=fun H R q=>k H _ fun vs H1 s1 ⟨rs,e,hs⟩=>by
 subst e;exact⟨xa2 (jaM (by rw[xaa,hs.len];exact hl)),fun p hp=>q _ _ (s1.trans (Same.new hp _)) ⟨p,rs,rfl,jak,hs.keep (Same.new hp _).t⟩⟩
theorem jli :MkA σ jgT (TabA []):=fun H R q=>q _ _ (fun _ _ z=>z) rfl
theorem jj8 {ps:List (Int × Int)} {pss:List (List (Int × Int))} (h:Mk σ te (IsL ps)) (k:MkA σ ta (TabA pss)):MkA σ (jbQ te ta) (TabA (ps::pss)):=fun H R q=>h H _ fun v H1 s1 hv=>k H1 _ fun ws H2 s2 hs=>q _ _ (s1.trans s2) ⟨v,ws,rfl,hv.keep s2,hs⟩
theorem jpc {pss:List (List (Int × Int))} (k:MkA σ ta (TabA pss)) (hl:pss.length<1000):Mk σ (jkt ta) (fun v H=>∃(l:Addr) (vs:List V),v=.ref l/\H l=some (.lst vs)/\TabA pss vs H):=fun H R q=>k H _ fun vs H1 s1 hs =>
 ⟨xa2 (jaM (by rw[hs.len];exact hl)),fun p hp=>q _ _ (s1.trans (Same.new hp _)) ⟨p,vs,rfl,jak,hs.keep (Same.new hp _)⟩⟩
theorem jpd {r:R2} {tb:TE} {D:Ends} (h:te σ H fun x H1=>tb σ H1 fun y H2=>r x y H2 D.rt):jin (tOp r te tb) D σ H:=h
def rowsT:List (List (Int × Int)):=[[(0,0),(2,0),(0,2)],[(0,0),(1,0),(0,3)],[(0,0),(2,0),(2,2),(0,2)],[(0,0),(3,0),(2,2),(0,1)],[(0,0),(2,0),(3,1),(2,3),(0,2)],[(1,0),(3,0),(4,2),(3,4),(1,4),(0,2)],[(-1,-1),(2,-1),(-1,2)],[(1,0),(3,0),(4,2),(4,3),(2,4),(0,3),(0,1)],[(1,0),(3,0),(4,1),(4,3),(3,4),(1,4),(0,3),(0,1)]]
inductive spRwi (vs:List V) (H:Hp) (Q:VK):Prop
 | mk (n:Nat) (_:vs=[.int (n:Int)]) (_:n<9) (_:∀(g:Addr) (H':Hp),Same H H'->IsL (rowsT.getD n []) (.ref g) H'->Q (.ref g) H')
def spRw:Sp:=fun vs H Q _=>spRwi vs H Q
theorem ok_rw (T:Tx K mg t1 t2) (F:At K mg "_law_rows" jdl ["number"] []):jal P w K mg base CX0 1 "_law_rows" ["number"] [] spRw:=by
 refine F.okW jeg (fun vs H Q E h=>?_) (fun f cdv A outer s H vs Q E hr h=>?_)
 ·obtain⟨c,rfl,_⟩:=h;rfl
 obtain⟨n,rfl,n9,q⟩:=h;have S:=jeg;refine⟨_,(jmw (jn8 (we_ix ix_list (jc2 (jaf (jc2 (jaf (jaF (jaf ⟨jab⟩ (jaf ⟨jab⟩ jay jaj) jaj)) (jaf (jaF (jaf ⟨jab⟩ (jaf ⟨jab⟩ jay jaj) jaj)) (jaf (jaF (jaf ⟨jab⟩ (jaf ⟨jab⟩ jay jaj) jaj)) jay jaA) jaA) jaA)) (jaf (jc2 (jaf (jaF (jaf ⟨jab⟩ (jaf ⟨jab⟩ jay jaj) jaj)) (jaf (jaF (jaf ⟨jab⟩ (jaf ⟨jab⟩ jay jaj) jaj)) (jaf (jaF (jaf ⟨jab⟩ (jaf ⟨jab⟩ jay jaj) jaj)) jay jaA) jaA) jaA)) (jaf (jc2 (jaf (jaF (jaf ⟨jab⟩ (jaf ⟨jab⟩ jay jaj) jaj)) (jaf (jaF (jaf ⟨jab⟩ (jaf ⟨jab⟩ jay jaj) jaj)) (jaf (jaF (jaf ⟨jab⟩ (jaf ⟨jab⟩ jay jaj) jaj)) (jaf (jaF (jaf ⟨jab⟩ (jaf ⟨jab⟩ jay jaj) jaj)) jay jaA) jaA) jaA) jaA)) (jaf (jc2 (jaf (jaF (jaf ⟨jab⟩ (jaf ⟨jab⟩ jay jaj) jaj)) (jaf (jaF (jaf ⟨jab⟩ (jaf ⟨jab⟩ jay jaj) jaj)) (jaf (jaF (jaf ⟨jab⟩ (jaf ⟨jab⟩ jay jaj) jaj)) (jaf (jaF (jaf ⟨jab⟩ (jaf ⟨jab⟩ jay jaj) jaj)) jay jaA) jaA) jaA) jaA)) (jaf (jc2 (jaf (jaF (jaf ⟨jab⟩ (jaf ⟨jab⟩ jay jaj) jaj)) (jaf (jaF (jaf ⟨jab⟩ (jaf ⟨jab⟩ jay jaj) jaj)) (jaf (jaF (jaf ⟨jab⟩ (jaf ⟨jab⟩ jay jaj) jaj)) (jaf (jaF (jaf ⟨jab⟩ (jaf ⟨jab⟩ jay jaj) jaj)) (jaf (jaF (jaf ⟨jab⟩ (jaf ⟨jab⟩ jay jaj) jaj)) jay jaA) jaA) jaA) jaA) jaA)) (jaf (jc2 (jaf (jaF (jaf ⟨jab⟩ (jaf ⟨jab⟩ jay jaj) jaj)) (jaf (jaF (jaf ⟨jab⟩ (jaf ⟨jab⟩ jay jaj) jaj)) (jaf (jaF (jaf ⟨jab⟩ (jaf ⟨jab⟩ jay jaj) jaj)) (jaf (jaF (jaf ⟨jab⟩ (jaf ⟨jab⟩ jay jaj) jaj)) (jaf (jaF (jaf ⟨jab⟩ (jaf ⟨jab⟩ jay jaj) jaj)) (jaf (jaF (jaf ⟨jab⟩ (jaf ⟨jab⟩ jay jaj) jaj)) jay jaA) jaA) jaA) jaA) jaA) jaA)) (jaf (jc2 (jaf (jaF (jaf ⟨(jdM jb3 jab)⟩ (jaf ⟨(jdM jb3 jab)⟩ jay jfF) jfF)) (jaf (jaF (jaf ⟨jab⟩ (jaf ⟨(jdM jb3 jab)⟩ jay jfF) jaj)) (jaf (jaF (jaf ⟨(jdM jb3 jab)⟩ (jaf ⟨jab⟩ jay jaj) jfF)) jay jaA) jaA) jaA)) (jaf (jc2 (jaf (jaF (jaf ⟨jab⟩ (jaf ⟨jab⟩ jay jaj) jaj)) (jaf (jaF (jaf ⟨jab⟩ (jaf ⟨jab⟩ jay jaj) jaj)) (jaf (jaF (jaf ⟨jab⟩ (jaf ⟨jab⟩ jay jaj) jaj)) (jaf (jaF (jaf ⟨jab⟩ (jaf ⟨jab⟩ jay jaj) jaj)) (jaf (jaF (jaf ⟨jab⟩ (jaf ⟨jab⟩ jay jaj) jaj)) (jaf (jaF (jaf ⟨jab⟩ (jaf ⟨jab⟩ jay jaj) jaj)) (jaf (jaF (jaf ⟨jab⟩ (jaf ⟨jab⟩ jay jaj) jaj)) jay jaA) jaA) jaA) jaA) jaA) jaA) jaA)) (jaf (jc2 (jaf (jaF (jaf ⟨jab⟩ (jaf ⟨jab⟩ jay jaj) jaj)) (jaf (jaF (jaf ⟨jab⟩ (jaf ⟨jab⟩ jay jaj) jaj)) (jaf (jaF (jaf ⟨jab⟩ (jaf ⟨jab⟩ jay jaj) jaj)) (jaf (jaF (jaf ⟨jab⟩ (jaf ⟨jab⟩ jay jaj) jaj)) (jaf (jaF (jaf ⟨jab⟩ (jaf ⟨jab⟩ jay jaj) jaj)) (jaf (jaF (jaf ⟨jab⟩ (jaf ⟨jab⟩ jay jaj) jaj)) (jaf (jaF (jaf ⟨jab⟩ (jaf ⟨jab⟩ jay jaj) jaj)) (jaf (jaF (jaf ⟨jab⟩ (jaf ⟨jab⟩ jay jaj) jaj)) jay jaA) jaA) jaA) jaA) jaA) jaA) jaA) jaA)) jay jbn) jbn) jbn) jbn) jbn) jbn) jbn) jbn) jbn)) (pv 0) (fun _ _=>rfl)))),?_⟩;refine jpd ?_;refine jpc (pss:=rowsT) ?_ (by decide) _ _ fun v J2 s2 hv=>?_
 ·unfold rowsT
  repeat first
   | exact jli
   | refine jj8 (jpb ?_ (by decide)) ?_
   | exact jlh
   | refine jj7 (jns (by first | exact mk_c | exact mk_u) (by first | exact mk_c | exact mk_u)) ?_
 obtain⟨l,vs,rfl,hl,hT⟩:=hv;obtain⟨v,e,l',rs,rfl,h1,h2⟩:=hT.get (i:=n) n9;exact⟨_,rfl,ixL (SqL.of hl) (v:=.ref l') (jaP e) (q l' J2 s2 ⟨l',rs,rfl,h1,h2⟩)⟩
def je7 (n:Nat):List Tri:=(rowsT.getD n []).map fun p=>⟨p.1,p.2,1⟩
theorem jeq:∀n,n<9->3<=(je7 n).length/\(je7 n).length<=8:=by decide +kernel
def tpB (vs:List Tri):Bool:=(List.range 8).all fun i=>(List.range 8).all fun j=>(List.range 8).all fun k=>!(decide (i<j)&&decide (j<k)&&decide (k<vs.length))||decide (0<dt (tr vs i) (tr vs j) (tr vs k))
theorem jpe (h:tpB vs=true) {k:Nat} (hi:i<8) (hj:j<8) (hk:k<8) (ij:i<j) (jk:j<k) (kl:k<vs.length):0<dt (tr vs i) (tr vs j) (tr vs k):=by
 unfold tpB at h;have h:=xb9.mp (xb9.mp (xb9.mp h i (xaU.mpr hi)) j (xaU.mpr hj)) k (xaU.mpr hk);simp [ij,jk,kl] at h;exact h
theorem jnt:∀n,n<9->tpB (je7 n)=true:=by decide +kernel
theorem jnu:∀n,n<9->∀i,i<8->(je7 n).length<=i\/((-4<=(tr (je7 n) i).x/\(tr (je7 n) i).x<=4)/\(-4<=(tr (je7 n) i).y/\(tr (je7 n) i).y<=4)/\(tr (je7 n) i).z=1):=by decide +kernel
theorem jhk (h:n<9) {v:Tri} (hv:v∈je7 n):(-4<=v.x/\v.x<=4)/\(-4<=v.y/\v.y<=4)/\v.z=1:=by
 obtain⟨i,hi,rfl⟩:=jdJ hv;exact (jnu n h i (by have:=(jeq n h).2;omega)).resolve_left (by omega)
theorem jlj (h:n<9):Rng (je7 n):=by
 obtain⟨a,b⟩:=jeq n h;refine⟨a,fun i j k ij jk kl=>jpe (jnt n h) (by omega) (by omega) (by omega) ij jk kl,fun v hv=>?_⟩;have:=(jhk h hv).2.2;omega
def tc (u:Tri) (k:Nat):Int:=if k=0 then u.x else if k=1 then u.y else u.z
theorem at3 {u:Tri} {k:Nat} (h:k<3):atI [V.int u.x,V.int u.y,V.int u.z] (0+(k:Int))=some (V.int (tc u k)):=by
 obtain rfl | rfl | rfl:=lt3 h<;>rfl
theorem jpf {u:Tri} {d:Int} (h:u.le d) (k:Nat):-d<=tc u k/\tc u k<=d:=by
 unfold tc;split
 ·exact h.1
 ·split
  ·exact h.2.1
  ·exact h.2.2
def crn (Z:Sht) (v:Tri):Tri:=⟨Z.s.x+v.x*Z.c.x+v.y*Z.d.x,Z.s.y+v.x*Z.c.y+v.y*Z.d.y,Z.s.z+v.x*Z.c.z+v.y*Z.d.z⟩
def CnL (K:PySem.W.Frag) (H:Hp) (g:Addr) (Z:Sht) (vs:List Tri):Prop:=∃ps:List (Addr × Tri),SqL K H g ((ps.map Prod.fst).map V.ref)/\Prd K H ps/\ps.map Prod.snd=vs.map (crn Z)
structure ShB (d:Int) (Z:Sht):Prop where
 s:Z.s.le d
 c:Z.c.le d
 d:Z.d.le d
 w:Z.w=1
 nz:Z.u.nz
inductive spCoi (K:PySem.W.Frag) (us:List V) (H:Hp) (Q:VK):Prop
 | mk (L:Addr) (d:Int) (_:us=[.ref L,.int d]) (_:Purs H L) (_:4<=d) (_:d<=1000000) (_:∀(g:Addr) (H':Hp) (Z:Sht) (n:Nat),SameB L H H'->Purs H' L->CnL K H' g Z (je7 n)->n<9->ShB d Z->Q (.ref g) H')
def spCo (K:PySem.W.Frag):Sp:=fun us H Q _=>spCoi K us H Q
theorem ok_co (T:Tx K mg t1 t2) (F:At K mg "_law_corners" jbY ["purse","wide"] []) (di:jal P w K mg base CX0 2 "_law_arrow" ["purse","wide"] [] spAr) (Ds:jal P w K mg base CX0 3 "_law_sides" ["purse","wide"] [] spSi) (de:jal P w K mg base CX0 1 "_law_take" ["purse","many"] [] jdq) (Dz:jal P w K mg base CX0 1 "_law_rows" ["number"] [] spRw):jal P w K mg base CX0 4 "_law_corners" ["purse","wide"] [] (spCo K):=by
 refine F.ok jcO (by walk_at "ar") (fun f cdv A outer s H vs Q E hr h=>?_);obtain⟨L,d,rfl,pL,d1,d2,q⟩:=h;have S:=jcO;refine⟨_,(jag (jat (i:=2) S.nd rfl (Or.inr rfl) (jae di hr.m rfl jaq (jaa (pv 0) (jaa (pv 1) jac jad) jad)))
  (jag (jiz (jae Ds hr.m rfl jaq (jaa (pv 0) (jaa (jaB (jev rfl) rfl T.m_max boot_max (jaa jab (jaa (jap jbr (pv 1) jab) jac ja2) jaj)) jac jaG) jad)) (jiy rfl (jbq (jas (i:=3) S.nd rfl (Or.inr rfl)) (jbq (jas (i:=4) S.nd rfl (Or.inr rfl)) jeu))))
  (jah (jan (jeJ rfl (N':=["i","j","base","one","other"]) (ix:=[2,3,4]) (xs0:=["i","j"]) (by walk_at "cs") (ja9 (jae Dz hr.m rfl jaq (jaa (jae de hr.m rfl jaq (jaa (pv 0) (jaa jab jac jaj) jad)) jac jaG))) (fun _ _ _ _=>jgY (K:=K) (n:=2) rfl rfl (jbq (jas (i:=0) (show (["i","j","base","one","other"]:List Str).Nodup from by decide +kernel) rfl (Or.inr rfl)) (jbq (jas (i:=1) (show (["i","j","base","one","other"]:List Str).Nodup from by decide +kernel) rfl (Or.inr rfl)) jeu))) (fun _ _ _ _=>jaW) (fun _ _ _ _=>(jaX rfl (N':=["k","base","i","one","j","other"]) (ix:=[2,0,3,1,4]) (CompScopeC.nest rfl rfl (by decide +kernel) (by decide +kernel) (by decide +kernel) (show ∀y:Str × NameKind,y∈_->y.2=NameKind.free->y.1∈(["base","i","one","j","other"]:List Str) from by decide +kernel) (.cons rfl (.inl rfl) rfl (.cons rfl (.inl rfl) rfl (.cons rfl (.inl rfl) rfl (.cons rfl (.inl rfl) rfl (.cons rfl (.inl rfl) rfl .nil)))))) (jaO rfl T.m_range (jaa jab jac jaj)) (fun _ _ _ _=>jas (i:=0) (show (["k","base","i","one","j","other"]:List Str).Nodup from by decide +kernel) rfl (Or.inl rfl)) (fun _ _ _ _=>jaW) (fun _ _ _ _=>(jap jbt (jap jbt (jam (jcY (K:=K) rfl) (pv 1) (pv 0)) (jap jar (pv 2) (jam (jcY (K:=K) rfl) (pv 3) (pv 0)))) (jap jar (pv 4) (jam (jcY (K:=K) rfl) (pv 5) (pv 0)))))))))))),?_⟩
 walk_at "rf";refine⟨L,d,rfl,pL,by omega,by omega,fun a H1 u s1 p1 na aL ea lu=>?_⟩;refine⟨by decide,Bd.fit (n:=10) (by unfold Bd;decide),L,_,rfl,p1,by split<;>omega,by split<;>omega,fun g b c H2 o oo s2 p2 eg bL cL eb ec lb lc nz=>?_⟩;refine⟨g,rfl,_,SqT.of eg,rfl,_,_,rfl,_,_,rfl,rfl,?_⟩;refine⟨L,9,rfl,p2,by decide,by decide,fun H3 k s3 p3 k0 k9=>?_⟩;obtain⟨n,rfl⟩:=Int.eq_ofNat_of_zero_le k0;have n9:n<9:=by omega
 refine⟨n,rfl,n9,fun l H4 s4 hl=>?_⟩;obtain⟨l',rs,e,hl',hp⟩:=hl;cases e;refine⟨l,rfl,⟨_,SqL.of hl'⟩,fun acc hacc=>?_⟩;have ea4:A3 H4 a u:=s4 _ _ (s3 _ _ aL (s2 _ _ aL ea));have eb4:A3 H4 b o:=s4 _ _ (s3 _ _ bL eb);have ec4:A3 H4 c oo:=s4 _ _ (s3 _ _ cL ec);have lr:rs.length=(rowsT.getD n []).length:=hp.len;have lv:(je7 n).length=rs.length:=by rw[lr];exact xaa _
 have l8:=(jeq n n9).2;have ld:(if d / 2>2 then d / 2 else 2)<=d:=by split<;>omega
 have hp4:=hp;refine jnr (fun i=>crn ⟨u,1,o,oo⟩ (tr (je7 n) i)) (by rw[xaa];omega) hacc (SqL.of hl') (fun i z v0 H5 R hz l0 s5 hR=>?_) (fun ps H5 s5 e5 pm py=>?_) ?_
 ·have hi:i<rs.length:=by have:=(xae.mp hz).1;rwa [xaa] at this
  obtain⟨pr,h1,h2,h3⟩:=hp.at hi;rw[h1] at hz;cases hz;obtain⟨v1,v2,rfl⟩:∃a b,v0=[a,b]:=match v0,l0 with | [a,b],_=>⟨a,b,rfl⟩
  have hv:=jhk n9 (jaH (show i<(je7 n).length by omega));have ev:tr (je7 n) i=⟨pr.1,pr.2,1⟩:=h3;walk_at "rf";refine⟨_,SqT.of (s5 _ _ h2),rfl,_,_,rfl,_,_,rfl,rfl,⟨[_,_],rfl,rfl⟩,by decide,by decide,fun acc' hacc'=>?_⟩;refine jh5 (n:=3) (fun k=>.int (tc (crn ⟨u,1,o,oo⟩ (tr (je7 n) i)) k)) (by decide) hacc' (fun k H6 R6 hk s6 hR6=>?_) (fun H6 s6 e6=>hR acc' H6 s6 hacc' e6);have s56:=s5.trans s6;have qa:=A3.l3 (K:=K) (s56 _ _ ea4);have qb:=A3.l3 (K:=K) (s56 _ _ eb4);have qc:=A3.l3 (K:=K) (s56 _ _ ec4);unfold L3 at qa qb qc;rw[ev] at hv;simp only at hv;have tb:=jpf (ja4 lb ld) k;have td:=jpf (ja4 lc ld) k;walk_at "rf";refine ixL qa (at3 hk) (ixL qb (at3 hk) ⟨_,rfl,Bd.fit (n:=10) (by unfold Bd;omega),Bd.fit (n:=40) (by unfold Bd;omega),_,rfl,ixL qc (at3 hk) ⟨_,rfl,Bd.fit (n:=10) (by unfold Bd;omega),Bd.fit (n:=40) (by unfold Bd;omega),?_⟩⟩);have:=hR6 _ (fun _ _ h=>h);rw[ev] at this;obtain rfl | rfl | rfl:=lt3 hk<;>exact this
 ·have e1:ps.map Prod.snd=(je7 n).map (crn ⟨u,1,o,oo⟩):=by
   rw[pm,xaa,<- lv];refine List.ext_getElem (by simp) fun j h1 h2=>?_;have hj:j<(je7 n).length:=by simpa using h1
   simp;rw[show (je7 n)[j]=tr (je7 n) j by unfold tr;rw[xab,xac hj];rfl]
  refine q acc H5 ⟨u,1,o,oo⟩ n (s1.trans (s2.trans (s3.trans (s4.b.trans s5.b)))) (p3.keep (s4.trans s5)) ⟨ps,SqL.of e5,fun p hp=>A3.l3 (py p hp),e1⟩ n9 ⟨lu,ja4 lb ld,ja4 lc ld,rfl,nz⟩
 ·intro z σ H A B hAB h;obtain⟨p,xs,h1,h2,h3,h4⟩:=h;refine⟨p,xs,h1,h2,h3,?_⟩;obtain⟨v,r,e1,v',r',e2,e3,h5⟩:=h4;exact⟨v,r,e1,v',r',e2,e3,hAB _ _ h5⟩
def jf4 (p o:Pt):Tri:=⟨o.x*p.w-p.x*o.w,o.y*p.w-p.y*o.w,o.z*p.w-p.z*o.w⟩
inductive spArmi (vs:List V) (H:Hp) (Q:VK):Prop
 | mk (a b:Addr) (p o:Pt) (_:vs=[.ref a,.ref b]) (_:Is4 H a p) (_:Is4 H b o) (_:∀(g:Addr) (H':Hp),Same H H'->H g=none->A3 H' g (jf4 p o)->Q (.ref g) H')
def jnv:Sp:=fun vs H Q _=>spArmi vs H Q
theorem jpg (T:Tx K mg t1 t2) (F:At K mg "_law_arm" jd0 ["one","other"] []):jal P w K mg base CX0 1 "_law_arm" ["one","other"] [] jnv:=by
 refine F.ok jeY (by walk_at "ar") (fun f cdv A outer s H vs Q E hr h=>?_);obtain⟨a,b,p,o,rfl,ha,hb,q⟩:=h;have S:=jeY;refine⟨_,(jah (jan (jaX rfl (N':=["k","other","one"]) (ix:=[1,0]) (by walk_at "cs") (jaO rfl T.m_range (jaa jab jac jaj)) (fun _ _ _ _=>jas (i:=0) (show (["k","other","one"]:List Str).Nodup from by decide +kernel) rfl (Or.inl rfl)) (fun _ _ _ _=>jaW) (fun _ _ _ _=>(jap jbf (jap jar (jam (jaZ (K:=K) rfl) (pv 1) (pv 0)) (jam (jaZ (K:=K) rfl) (pv 2) jab)) (jap jar (jam (jaZ (K:=K) rfl) (pv 2) (pv 0)) (jam (jaZ (K:=K) rfl) (pv 1) jab))))))),?_⟩;walk_at "rf";refine⟨by decide,by decide,fun acc hacc=>?_⟩;refine jh5 (n:=3) (fun k=>.int (tc (jf4 p o) k)) (by decide) hacc (fun k H6 R6 hk s6 hR6=>?_) (fun H6 s6 e6=>q acc H6 s6 hacc e6);have ka:=(ha.keep s6).sq (K:=K);have kb:=(hb.keep s6).sq (K:=K);have:=hR6 _ (fun _ _ h=>h);walk_at "rf";obtain rfl | rfl | rfl:=lt3 hk
 ·exact ixT kb rfl (ixT ka rfl ⟨_,rfl,_,rfl,hb.2.fx,ha.2.fw,ixT ka rfl (ixT kb rfl ⟨_,rfl,_,rfl,ha.2.fx,hb.2.fw,this⟩)⟩)
 ·exact ixT kb rfl (ixT ka rfl ⟨_,rfl,_,rfl,hb.2.fy,ha.2.fw,ixT ka rfl (ixT kb rfl ⟨_,rfl,_,rfl,ha.2.fy,hb.2.fw,this⟩)⟩)
 ·exact ixT kb rfl (ixT ka rfl ⟨_,rfl,_,rfl,hb.2.fz,ha.2.fw,ixT ka rfl (ixT kb rfl ⟨_,rfl,_,rfl,ha.2.fz,hb.2.fw,this⟩)⟩)
def BM (H:Hp) (b:Addr) (ps:List Pt):Prop:=∃rs:List Addr,H b=some (.tup (rs.map V.ref))/\Sps H rs ps
theorem BM.keep {b:Addr} (h:BM H b ps) (s:Same H H'):BM H' b ps :=
 let ⟨rs,a,c⟩:=h
 ⟨rs,s _ _ a,c.keep s.t⟩
theorem BM.at {b:Addr} (h:BM H b ps) (hi:i<ps.length):∃(rs:List Addr) (r:Addr),SqT K H b (rs.map V.ref)/\atI (rs.map V.ref) (i:Int)=some (.ref r)/\Is4 H r (pt ps i) :=
 let ⟨rs,a,c⟩:=h
 ⟨rs,_,SqT.of a,jaP (c.get hi).1,(c.get hi).2⟩
theorem jhQ {o:Pt} (hp:p.bd n) (ho:o.bd n):(jf4 p o).bd (n+n+1):=⟨Bd.sub (Bd.mul ho.1 hp.2.2.2) (Bd.mul hp.1 ho.2.2.2),Bd.sub (Bd.mul ho.2.1 hp.2.2.2) (Bd.mul hp.2.1 ho.2.2.2),Bd.sub (Bd.mul ho.2.2.1 hp.2.2.2) (Bd.mul hp.2.2.1 ho.2.2.2)⟩
theorem jnw {m:Nat} {o:Pt} (hp:p.bd n) (ho:o.bd m):(jf4 p o).bd (m+n+1):=⟨Bd.sub (Bd.mul ho.1 hp.2.2.2) (Bd.mono (n:=n+m) (Bd.mul hp.1 ho.2.2.2) (by omega)),Bd.sub (Bd.mul ho.2.1 hp.2.2.2) (Bd.mono (n:=n+m) (Bd.mul hp.2.1 ho.2.2.2) (by omega)),Bd.sub (Bd.mul ho.2.2.1 hp.2.2.2) (Bd.mono (n:=n+m) (Bd.mul hp.2.2.1 ho.2.2.2) (by omega))⟩
theorem cr_bd {m:Nat} {u v:Tri} (hu:u.bd n) (hv:v.bd m):(cr3 u v).bd (n+m+1):=⟨Bd.sub (Bd.mul hu.2.1 hv.2.2) (Bd.mul hu.2.2 hv.2.1),Bd.sub (Bd.mul hu.2.2 hv.1) (Bd.mul hu.1 hv.2.2),Bd.sub (Bd.mul hu.1 hv.2.1) (Bd.mul hu.2.1 hv.1)⟩
def upr (ps:List Pt):Tri:=cr3 (jf4 (pt ps 0) (pt ps 1)) (jf4 (pt ps 0) (pt ps 2))
inductive spUpri (vs:List V) (H:Hp) (Q:VK):Prop
 | mk (b:Addr) (ps:List Pt) (_:vs=[.ref b]) (_:BM H b ps) (_:3<=ps.length) (_:(∀p∈ps,p.bd 100)) (_:∀(g:Addr) (H':Hp),Same H H'->A3 H' g (upr ps)->Q (.ref g) H')
def jph:Sp:=fun vs H Q _=>spUpri vs H Q
theorem jpi (T:Tx K mg t1 t2) (F:At K mg "_law_upright" jbZ ["board"] []) (dH:jal P w K mg base CX0 1 "_law_arm" ["one","other"] [] jnv) (dB:jal P w K mg base CX0 1 "_law_cross" ["one","other"] [] (jj5 K)):jal P w K mg base CX0 2 "_law_upright" ["board"] [] jph:=by
 refine F.ok jcP (by walk_at "ar") (fun f cdv A outer s H vs Q E hr h=>?_);obtain⟨b,ps,rfl,hb,n3,bd,q⟩:=h;have S:=jcP;refine⟨_,(jah (jan (jae dB hr.m rfl jaq (jaa (jae dH hr.m rfl jaq (jaa (jam jao (pv 0) jab) (jaa (jam jao (pv 0) jab) jac jau) jau)) (jaa (jae dH hr.m rfl jaq (jaa (jam jao (pv 0) jab) (jaa (jam jao (pv 0) jab) jac jau) jau)) jac jaG) jaG)))),?_⟩;have b0:=bd _ (jaI (l:=ps) (i:=0) (by omega));have b1:=bd _ (jaI (l:=ps) (i:=1) (by omega));have b2:=bd _ (jaI (l:=ps) (i:=2) (by omega));obtain⟨rs0,r0,k0,e0,h0⟩:=hb.at (K:=K) (i:=0) (by omega);obtain⟨rs1,r1,k1,e1,h1⟩:=hb.at (K:=K) (i:=1) (by omega);walk_at "rf";refine ixT k0 e0 (ixT k1 e1 ⟨r0,r1,_,_,rfl,h0,h1,fun g H1 s1 ng eg=>?_⟩);obtain⟨rs2,r2,k2,e2,h2⟩:=(hb.keep s1).at (K:=K) (i:=0) (by omega);obtain⟨rs3,r3,k3,e3,h3⟩:=(hb.keep s1).at (K:=K) (i:=2) (by omega);refine ixT k2 e2 (ixT k3 e3 ⟨r2,r3,_,_,rfl,h2,h3,fun g2 H2 s2 ng2 eg2=>?_⟩);exact⟨g,g2,_,_,rfl,A3.l3 (s2 _ _ eg),A3.l3 eg2,Bd3.mono (jhQ b0 b1) (by decide),Bd3.mono (jhQ b0 b2) (by decide),fun g3 H3 n3 s3 e3=>q g3 H3 (s1.trans (s2.trans s3)) e3⟩
def dot3 (u v:Tri):Int:=u.x*v.x+u.y*v.y+u.z*v.z
def hov (ps:List Pt) (s:Pt):Int:=dot3 (upr ps) (jf4 (pt ps 0) s)
inductive spHovi (vs:List V) (H:Hp) (Q:VK):Prop
 | mk (b e:Addr) (ps:List Pt) (o:Pt) (_:vs=[.ref b,.ref e]) (_:BM H b ps) (_:Is4 H e o) (_:3<=ps.length) (_:(∀p∈ps,p.bd 100)) (_:o.bd 620) (_:∀H':Hp,Same H H'->Q (.int (hov ps o)) H')
def jpj:Sp:=fun vs H Q _=>spHovi vs H Q
theorem jpk (T:Tx K mg t1 t2) (F:At K mg "_law_height" jci ["board","spot"] []) (Dj:jal P w K mg base CX0 2 "_law_upright" ["board"] [] jph) (dH:jal P w K mg base CX0 1 "_law_arm" ["one","other"] [] jnv) (DH:jal P w K mg base CX0 1 "_law_dot" ["one","other"] [] (jo4 K)):jal P w K mg base CX0 3 "_law_height" ["board","spot"] [] jpj:=by
 refine F.ok jda (by walk_at "ar") (fun f cdv A outer s H vs Q E hr h=>?_);obtain⟨b,e,ps,o,rfl,hb,he,n3,bd,bo,q⟩:=h;have S:=jda;refine⟨_,(jah (jan (jae DH hr.m rfl jaq (jaa (jae Dj hr.m rfl jaq (jaa (pv 0) jac jad)) (jaa (jae dH hr.m rfl jaq (jaa (jam jao (pv 0) jab) (jaa (pv 1) jac jad) jau)) jac jaG) jaG)))),?_⟩;have b0:=bd _ (jaI (l:=ps) (i:=0) (by omega));have b1:=bd _ (jaI (l:=ps) (i:=1) (by omega));have b2:=bd _ (jaI (l:=ps) (i:=2) (by omega));walk_at "rf";refine⟨b,ps,rfl,hb,n3,bd,fun g H1 s1 eg=>?_⟩;obtain⟨rs0,r0,k0,e0,h0⟩:=(hb.keep s1).at (K:=K) (i:=0) (by omega);refine ixT k0 e0 ⟨r0,e,_,_,rfl,h0,he.keep s1,fun g2 H2 s2 ng2 eg2=>?_⟩;exact⟨g,g2,_,_,rfl,(A3.l3 (s2 _ _ eg)).d,(A3.l3 eg2).d,Bd3.mono (cr_bd (jhQ b0 b1) (jhQ b0 b2)) (by decide),Bd3.mono (jnw b0 bo) (by decide),q _ (s1.trans s2)⟩
theorem jpl {a:Addr} {acc:Addr} {Z:Hp->Prop} (f:Nat->Int) (hn:zs.length<1000) (hacc:H1 acc=none) (hz:SqT K H1 a zs)
  (hs:∀(i:Nat) (z:V) (H3:Hp) (R:V->Hp->Prop),zs[i]?=some z->Same H1 H3->(∀H4,Same H3 H4->R (.int (f i)) H4)->te (some z::ρ) H3 R)
  (hd:∀H',Same H1 H'->H' acc=some (.lst (((List.range zs.length).map f).map V.int))->Z H'):CompGo (Itt K a) ρ (jbB 0) jcx te acc Z H1:=by
 refine jem (K:=K) (a:=a) (zs:=zs) (fun i xs H=>Same H1 H/\H acc=some (.lst xs)/\xs=((List.range i).map f).map V.int/\i<=zs.length) ⟨Same.new hacc _,jak,rfl,xaY _⟩ (fun i xs H _ h=>h.1.tup hz) ?_ ?_
 ·rintro i z xs H hi ⟨g1,g2,rfl,li⟩;have hil:=(xae.mp hi).1;refine hs i z H _ hi g1 fun H4 s4=>⟨s4 _ _ g2,jaM (by rw[xaa,xaa,xba];omega),Same.keepN (g1.trans s4) hacc _,jak,?_,hil⟩;rw[xaQ,xap,xap];rfl
 ·rintro xs H ⟨g1,g2,rfl,_⟩;exact hd H g1 g2
theorem jcV {n:Int}:(0<=sgn n↔0<=n)/\(sgn n<=0↔n<=0):=by
 unfold sgn;refine⟨?_,?_⟩<;>split<;>(try split)<;>omega
def ptB (f:Pt) (ps qs:List Pt) (o:Pt):Bool:=decide (hgP f o<=0)&&(decide (∀c∈ps,0<=hgP f c)&&decide (∀c∈qs,hgP f c<=0))
def spNo:Sp:=fun _ _ _ _=>False
def jbP (f:Pt):Pt:=⟨-f.x,-f.y,-f.z,-f.w⟩
theorem jbd (f p:Pt):hgP (jbP f) p=-hgP f p:=jhM _ _ _ _ p
structure PlF (r f:Pt):Prop where
 ls:pln [r.x,r.y,r.z,r.w]=[f.x,f.y,f.z,f.w]
 g1:gl [f.x,f.y,f.z,f.w]=1
 nz:¬(f.x=0/\f.y=0/\f.z=0)
 le:(f.x.natAbs<=r.x.natAbs/\f.y.natAbs<=r.y.natAbs)/\f.z.natAbs<=r.z.natAbs/\f.w.natAbs<=r.w.natAbs
 sg:∃g σ:Int,0<g/\(σ=1\/σ=-1)/\∀P,g*hgP f P=σ*hgP r P
theorem jhl (f:Pt):gl [(jbP f).x,(jbP f).y,(jbP f).z,(jbP f).w]=gl [f.x,f.y,f.z,f.w]:=jon [f.x,f.y,f.z,f.w]
theorem plf (h:¬(r.x=0/\r.y=0/\r.z=0)):∃f,PlF r f:=by
  obtain⟨a,b,c,d⟩:=r;have h:¬(a=0/\b=0/\c=0):=h;have gp:=gl4 (d:=d) h;have g1:gl (low [a,b,c,d])=1:=jjg (ns:=[a,b,c,d]) (by omega);have el:low [a,b,c,d]=[a / gl [a,b,c,d],b / gl [a,b,c,d],c / gl [a,b,c,d],d / gl [a,b,c,d]]:=rfl;have nz:¬(a / gl [a,b,c,d]=0/\b / gl [a,b,c,d]=0/\c / gl [a,b,c,d]=0):=fun z=>by
    have g:∀{x:Int},x∈[a,b,c,d]->x / gl [a,b,c,d]=0->x=0:=fun hx z=>xau fun q=>jg3 (jaR hx) q z;exact h ⟨g (by simp) z.1,g (by simp) z.2.1,g (by simp) z.2.2⟩
  have ea:=xa3 (jaR (ns:=[a,b,c,d]) (n:=a) (by simp));have eb:=xa3 (jaR (ns:=[a,b,c,d]) (n:=b) (by simp));have ec:=xa3 (jaR (ns:=[a,b,c,d]) (n:=c) (by simp));have ed:=xa3 (jaR (ns:=[a,b,c,d]) (n:=d) (by simp));have l1:=xa1 a (gl [a,b,c,d]);have l2:=xa1 b (gl [a,b,c,d]);have l3:=xa1 c (gl [a,b,c,d]);have l4:=xa1 d (gl [a,b,c,d]);have ls:pln [a,b,c,d]=if plb (a / gl [a,b,c,d]) (b / gl [a,b,c,d]) (c / gl [a,b,c,d])=true then [a / gl [a,b,c,d],b / gl [a,b,c,d],c / gl [a,b,c,d],d / gl [a,b,c,d]] else [-(a / gl [a,b,c,d]),-(b / gl [a,b,c,d]),-(c / gl [a,b,c,d]),-(d / gl [a,b,c,d])]:=rfl;rw[el] at g1;generalize gl [a,b,c,d]=g at gp g1 nz ea eb ec ed l1 l2 l3 l4 ls;generalize a / g=x at g1 nz ea l1 ls;generalize b / g=y at g1 nz eb l2 ls;generalize c / g=z at g1 nz ec l3 ls;generalize d / g=w at g1 ed l4 ls;have hz:∀P:Pt,g*hgP ⟨x,y,z,w⟩ P=1*hgP ⟨a,b,c,d⟩ P:=fun P=>by
    unfold hgP hgt;simp only;rw[<- ea,<- eb,<- ec,<- ed];grind
  cases hb:plb x y z with
  | true =>
    rw[hb,if_pos rfl] at ls;exact⟨⟨x,y,z,w⟩,ls,g1,nz,⟨⟨l1,l2⟩,l3,l4⟩,g,1,gp,.inl rfl,hz⟩
  | false =>
    rw[hb,if_neg (by decide)] at ls;refine⟨jbP ⟨x,y,z,w⟩,ls,(jhl _).trans g1,fun ⟨h1,h2,h3⟩=>nz ⟨xa0.mp h1,xa0.mp h2,xa0.mp h3⟩,⟨⟨by show (-x).natAbs<=_;rw[xbI];exact l1,by show (-y).natAbs<=_;rw[xbI];exact l2⟩,by show (-z).natAbs<=_;rw[xbI];exact l3,by show (-w).natAbs<=_;rw[xbI];exact l4⟩,g,-1,gp,.inr rfl,fun P=>?_⟩;rw[jbd];have:=hz P;grind
def ttw (f:Pt) (ps:List Pt):Pt:=if ∀c∈ps,0<=hgP f c then f else jbP f
inductive spTti (K:PySem.W.Frag) (vs:List V) (H:Hp) (Q:VK):Prop
 | mk (g l:Addr) (rs:List Addr) (f:Pt) (ps:List Pt) (_:vs=[.ref g,.ref l]) (_:Is4 H g f) (_:(SqL K H l (rs.map V.ref)\/SqT K H l (rs.map V.ref))) (_:Sps H rs ps) (_:ps.length<=17) (_:∀(g':Addr) (H':Hp),Same H H'->Is4 H' g' (ttw f ps)->Q (.ref g') H')
def spTt (K:PySem.W.Frag):Sp:=fun vs H Q _=>spTti K vs H Q
theorem Is4.neg {g:Addr} (h:H g=some (.tup ([f.x,f.y,f.z,f.w].map fun n=>.int (-n)))) (s:f.sm):Is4 H g (jbP f):=⟨h,s.1.neg,s.2.1.neg,s.2.2.1.neg,s.2.2.2.neg⟩
theorem Pt.sm.small (h:p.sm):Small p.x/\Small p.y/\Small p.z/\Small p.w:=⟨h.1.small,h.2.1.small,h.2.2.1.small,h.2.2.2.small⟩
theorem ok_tt (T:Tx K mg t1 t2) (F:At K mg "turned_towards" jbx ["plane","spots"] []) (df:jal P w K mg base CX0 2 "side_of" ["plane","spot"] [] jeb) (dg:jal P w K mg base CX0 1 "turned_about" ["plane"] [] jcZ):jal P w K mg base CX0 3 "turned_towards" ["plane","spots"] [] (spTt K):=by
 refine F.ok jb6 (by walk_at "ar") (fun f cdv A outer s H vs Q E hr h=>?_);obtain⟨g,l,rs,f,ps,rfl,hg,hl,hs,n17,q⟩:=h;have S:=jb6;refine⟨_,(jag (jbe PassesOwn.never rfl (pi_lt (pv 1)) (jas (i:=2) S.nd rfl (Or.inl rfl))
  (jah (jaV (jav jgR (jae df hr.m rfl jaq (jaa (pv 0) (jaa (pv 2) jac jad) jad)) jab (jaC _))
  (jah (jan (jae dg hr.m rfl jaq (jaa (pv 0) jac jad))))
  jaz)))
  (jah (jan (pv 0)))),?_⟩
 walk_at "rf";simp only[L2.jmN];try walk_at "rf"
 have sm:=hg.2.small;have lr:=hs.len;have lm:(rs.map V.ref).length=ps.length:=by rw[xaa];exact lr
 have step:∀(i:Nat) (v:V) (σ:L2.St) (J:Hp),(rs.map V.ref)[i]?=some v->(J=H/\∃o,σ=[some (.ref g),some (.ref l),o]/\∀j,j<i->0<=hgP f (pt ps j))->jbB 2 v σ J fun σ2 H2=>jmd (jgS (tOp (rI0 fun i j=>V.bl (decide (i<j))) (jew jeb [] E0 (jbQ (jfc 0) (jbQ (jfc 2) jgT))) (tC (V.int 0)))) (jin (jew jcZ [] E0 (jbQ (jfc 0) jgT))) jgN { nx:=fun σ J=>J=H/\∃o,σ=[some (.ref g),some (.ref l),o]/\∀j,j<i+1->0<=hgP f (pt ps j),rt:=Q,bk:=jin (jfc 0) { nx:=fun x H'=>Q V.non H',rt:=Q },ct:=fun σ J=>J=H/\∃o,σ=[some (.ref g),some (.ref l),o]/\∀j,j<i+1->0<=hgP f (pt ps j) } σ2 H2:=by
  rintro i v σ J hi ⟨rfl,o,rfl,hz⟩;have il:i<ps.length:=by have:=(xae.mp hi).1;omega
  obtain⟨b1,b2⟩:=hs.get il;rw[b1] at hi;cases hi;walk_at "rf";refine⟨g,_,f.x,f.y,f.z,f.w,_,rfl,hg.1,sm.1,sm.2.1,sm.2.2.1,sm.2.2.2,b2,?_⟩;try walk_at "rf"
  by_cases c:sgn (hgt f.x f.y f.z f.w (pt ps i))<0
  ·rw[if_pos c];have nn:¬∀c∈ps,0<=hgP f c:=fun z=>by
    have:=(jcV (n:=hgP f (pt ps i))).1.mpr (z _ (jaI il));exact absurd c (by show ¬sgn (hgP f (pt ps i))<0;omega)
   refine⟨g,[f.x,f.y,f.z,f.w],rfl,hg.1,show 4<=10 by decide,fun t H' s' e'=>q t H' s' ?_⟩;unfold ttw;rw[if_neg nn];exact Is4.neg e' hg.2
  ·rw[if_neg c];intro j hj;rcases xbK j i with o | o
   ·exact hz j o
   ·rw[show j=i by omega];exact (jcV (n:=hgP f (pt ps i))).1.mp (by show 0<=sgn (hgt f.x f.y f.z f.w (pt ps i));omega)
 have fin:∀(σ:L2.St) (J:Hp),(J=H/\∃o,σ=[some (.ref g),some (.ref l),o]/\∀j,j<(rs.map V.ref).length->0<=hgP f (pt ps j))->jin (jfc 0) { nx:=fun x H'=>Q V.non H',rt:=Q } σ J:=by
  rintro σ J ⟨rfl,o,rfl,hz⟩;rw[lm] at hz;walk_at "rf";refine q g _ (fun _ _ h=>h) ?_;unfold ttw;rw[if_pos fun c hc=>by
   obtain⟨j,hj,rfl⟩:=jb8 hc;exact hz j hj]
  exact hg
 rcases hl with hl | hl
 ·exact .inl ⟨⟨_,hl⟩,jbC (K:=K) (a:=l) (xs:=rs.map V.ref) (fun i σ J=>J=H/\∃o,σ=[some (.ref g),some (.ref l),o]/\∀j,j<i->0<=hgP f (pt ps j)) ⟨rfl,none,rfl,fun _ h=>absurd h (xa8 _)⟩ (fun i σ J _ h=>h.1▸hl) step fin⟩
 ·exact .inr ⟨⟨_,hl⟩,jdL (K:=K) (a:=l) (xs:=rs.map V.ref) (fun i σ J=>J=H/\∃o,σ=[some (.ref g),some (.ref l),o]/\∀j,j<i->0<=hgP f (pt ps j)) ⟨rfl,none,rfl,fun _ h=>absurd h (xa8 _)⟩ (fun i σ J _ h=>h.1▸hl) step fin⟩
inductive spIbi (vs:List V) (H:Hp) (Q:VK):Prop
 | mk (g a b:Addr) (f:Pt) (ps qs:List Pt) (_:vs=[.ref g,.ref a,.ref b]) (_:Is4 H g f) (_:BM H a ps) (_:BM H b qs) (_:ps.length<=17) (_:qs.length<=17) (_:Q (.bl (decide (∀c∈ps,0<=hgP f c)&&decide (∀c∈qs,hgP f c<=0))) H)
def spIb:Sp:=fun vs H Q _=>spIbi vs H Q
theorem ok_ib (T:Tx K mg t1 t2) (F:At K mg "is_between" jcA ["plane","one","other"] []) (df:jal P w K mg base CX0 2 "side_of" ["plane","spot"] [] jeb):jal P w K mg base CX0 3 "is_between" ["plane","one","other"] [] spIb:=by
 refine F.ok jdy (by walk_at "ar") (fun f cdv A outer s H vs Q E hr h=>?_);obtain⟨g,a,b,f,ps,qs,rfl,hg,⟨rs,ha,hs⟩,⟨rs',hb,hs'⟩,n17,m17,q⟩:=h;have S:=jdy;refine⟨_,(jag (jbe PassesOwn.never rfl (jc1 (pv 1)) (jas (i:=3) S.nd rfl (Or.inl rfl))
  (jah (jaV (jav jgR (jae df hr.m rfl jaq (jaa (pv 0) (jaa (pv 3) jac jad) jad)) jab (jaC _))
  (jah (jan jf6))
  jaz)))
  (jag (jbe PassesOwn.never rfl (jc1 (pv 2)) (jas (i:=3) S.nd rfl (Or.inl rfl))
  (jah (jaV (jav jkr (jae df hr.m rfl jaq (jaa (pv 0) (jaa (pv 3) jac jad) jad)) jab (jaC _))
  (jah (jan jf6))
  jaz)))
  (jah (jan jf6)))),?_⟩
 have sm:=hg.2.small;have lr:=hs.len;have lr':=hs'.len;walk_at "rf";refine⟨⟨_,SqT.of ha⟩,jdL (K:=K) (a:=a) (xs:=rs.map V.ref) (fun i σ J=>J=H/\∃o,σ=[some (.ref g),some (.ref a),some (.ref b),o]/\∀j,j<i->0<=hgP f (pt ps j)) ⟨rfl,none,rfl,fun _ h=>absurd h (xa8 _)⟩ (fun i σ J _ h=>h.1▸SqT.of ha) ?_ ?_⟩
 ·rintro i v σ J hi ⟨rfl,o,rfl,hz⟩;have il:i<ps.length:=by have:=(xae.mp hi).1;rw[xaa] at this;omega
  obtain⟨b1,b2⟩:=hs.get il;rw[b1] at hi;cases hi;walk_at "rf";refine⟨g,_,f.x,f.y,f.z,f.w,_,rfl,hg.1,sm.1,sm.2.1,sm.2.2.1,sm.2.2.2,b2,?_⟩;walk_at "rf";by_cases c:sgn (hgt f.x f.y f.z f.w (pt ps i))<0
  ·rw[if_pos c];have nn:¬∀c∈ps,0<=hgP f c:=fun z=>by
    have:=(jcV (n:=hgP f (pt ps i))).1.mpr (z _ (jaI il));exact absurd c (by show ¬sgn (hgP f (pt ps i))<0;omega)
   rw[decide_eq_false nn] at q;exact q
  ·rw[if_neg c];intro j hj;rcases xbK j i with o | o
   ·exact hz j o
   ·rw[show j=i by omega];exact (jcV (n:=hgP f (pt ps i))).1.mp (by show 0<=sgn (hgt f.x f.y f.z f.w (pt ps i));omega)
 ·rintro σ J ⟨rfl,o,rfl,hz⟩;rw[xaa,lr] at hz;have all1:∀c∈ps,0<=hgP f c:=fun c hc=>by
   obtain⟨j,hj,rfl⟩:=jb8 hc;exact hz j hj
  rw[decide_eq_true all1,Bool.true_and] at q;walk_at "rf";refine⟨⟨_,SqT.of hb⟩,jdL (K:=K) (a:=b) (xs:=rs'.map V.ref) (fun i σ J'=>J'=J/\∃o,σ=[some (.ref g),some (.ref a),some (.ref b),o]/\∀j,j<i->hgP f (pt qs j)<=0) ⟨rfl,_,rfl,fun _ h=>absurd h (xa8 _)⟩ (fun i σ J _ h=>h.1▸SqT.of hb) ?_ ?_⟩
  ·rintro i v σ J' hi ⟨rfl,o,rfl,hz⟩;have il:i<qs.length:=by have:=(xae.mp hi).1;rw[xaa] at this;omega
   obtain⟨b1,b2⟩:=hs'.get il;rw[b1] at hi;cases hi;walk_at "rf";refine⟨g,_,f.x,f.y,f.z,f.w,_,rfl,hg.1,sm.1,sm.2.1,sm.2.2.1,sm.2.2.2,b2,?_⟩;walk_at "rf";by_cases c:0<sgn (hgt f.x f.y f.z f.w (pt qs i))
   ·rw[if_pos c];have nn:¬∀c∈qs,hgP f c<=0:=fun z=>by
     have:=(jcV (n:=hgP f (pt qs i))).2.mpr (z _ (jaI il));exact absurd c (by show ¬0<sgn (hgP f (pt qs i));omega)
    rw[decide_eq_false nn] at q;exact q
   ·rw[if_neg c];intro j hj;rcases xbK j i with o | o
    ·exact hz j o
    ·rw[show j=i by omega];exact (jcV (n:=hgP f (pt qs i))).2.mp (by show sgn (hgt f.x f.y f.z f.w (pt qs i))<=0;omega)
  ·rintro σ J' ⟨rfl,o,rfl,hz⟩;rw[xaa,lr'] at hz;have all2:∀c∈qs,hgP f c<=0:=fun c hc=>by
    obtain⟨j,hj,rfl⟩:=jb8 hc;exact hz j hj
   rw[decide_eq_true all2] at q;walk_at "rf";exact q
inductive spIpi (vs:List V) (H:Hp) (Q:VK):Prop
 | mk (g a b e:Addr) (f o:Pt) (ps qs:List Pt) (_:vs=[.ref g,.ref a,.ref b,.ref e]) (_:Is4 H g f) (_:BM H a ps) (_:BM H b qs) (_:Is4 H e o) (_:ps.length<=17) (_:qs.length<=17) (_:Q (.bl (ptB f ps qs o)) H)
def spIp:Sp:=fun vs H Q _=>spIpi vs H Q
theorem ok_ip (T:Tx K mg t1 t2) (F:At K mg "is_parting" jcB ["plane","one","other","spot"] []) (df:jal P w K mg base CX0 2 "side_of" ["plane","spot"] [] jeb) (Dt:jal P w K mg base CX0 3 "is_between" ["plane","one","other"] [] spIb):jal P w K mg base CX0 4 "is_parting" ["plane","one","other","spot"] [] spIp:=by
 refine F.ok jdz (by walk_at "ar") (fun f cdv A outer s H vs Q E hr h=>?_);obtain⟨g,a,b,e,f,o,ps,qs,rfl,hg,ha,hb,he,n17,m17,q⟩:=h;have S:=jdz;refine⟨_,(jah (jan (jnU (jdd jmk (jae df hr.m rfl jaq (jaa (pv 0) (jaa (pv 3) jac jad) jad)) jab (jaC _)) (jnT (jae Dt hr.m rfl jaq (jaa (pv 0) (jaa (pv 1) (jaa (pv 2) jac jad) jad) jad)))))),?_⟩;have sm:=hg.2.small;walk_at "rf";refine⟨g,e,f.x,f.y,f.z,f.w,o,rfl,hg.1,sm.1,sm.2.1,sm.2.2.1,sm.2.2.2,he,?_⟩;try walk_at "rf"
 have ee:hgt f.x f.y f.z f.w o=hgP f o:=rfl;rw[ee];unfold ptB at q;by_cases c:sgn (hgP f o)<=0
 ·rw[if_pos c];rw[decide_eq_true (jcV.2.mp c),Bool.true_and] at q;exact⟨g,a,b,f,ps,qs,rfl,hg,ha,hb,n17,m17,q⟩
 ·rw[if_neg c];rw[decide_eq_false (fun z=>c (jcV.2.mpr z))] at q;exact q
structure SpB (p:Pt):Prop where
 x:Bd 30 p.x
 y:Bd 30 p.y
 z:Bd 30 p.z
 w:Bd 4 p.w
 w1:1<=p.w
structure SpC (p:Pt):Prop where
 x:Bd 74 p.x
 y:Bd 74 p.y
 z:Bd 74 p.z
 w:Bd 43 p.w
 w1:1<=p.w
theorem SpB.c (h:SpB p):SpC p:=⟨Bd.mono h.x,Bd.mono h.y,Bd.mono h.z,Bd.mono h.w,h.w1⟩
theorem SpC.bd (h:SpC p):p.bd 75:=⟨Bd.mono h.x,Bd.mono h.y,Bd.mono h.z,Bd.mono h.w⟩
def PB (f:Pt):Prop:=(Bd 111 f.x/\Bd 111 f.y)/\Bd 111 f.z/\Bd 137 f.w
theorem PB.bd (h:PB f):f.bd 137:=⟨Bd.mono h.1.1,Bd.mono h.1.2,Bd.mono h.2.1,h.2.2⟩
theorem PB.sm (h:PB f):f.sm:=h.bd.sm' (by decide)
theorem PB.neg (h:PB f):PB (jbP f):=⟨⟨h.1.1.neg,h.1.2.neg⟩,h.2.1.neg,h.2.2.neg⟩
theorem SpB.bd (h:SpB p):p.bd 30:=⟨h.x,h.y,h.z,Bd.mono h.w⟩
theorem SpB.sm (h:SpB p):p.sm:=h.bd.sm' (by decide)
theorem jf1 {n1 n2 n3:Nat} {b c z u v w:Int} (h1:Bd n1 a) (h2:Bd n2 b) (h3:Bd n3 c) (h4:Bd n1 x) (h5:Bd n2 y) (h6:Bd n3 z) (h7:Bd n1 u) (h8:Bd n2 v) (h9:Bd n3 w):Bd (n1+n2+n3+3) (jaY a b c x y z u v w):=by
 unfold jaY;have e1:Bd (n1+n2+n3+1) ((b*z-c*y)*u):=Bd.mono (n:=(n2+n3+1)+n1) (Bd.mul (Bd.sub (Bd.mul h2 h6) (Bd.mono (n:=n3+n2) (Bd.mul h3 h5) (by omega))) h7) (by omega);have e2:Bd (n1+n2+n3+1) ((c*x-a*z)*v):=Bd.mono (n:=(n3+n1+1)+n2) (Bd.mul (Bd.sub (Bd.mul h3 h4) (Bd.mono (n:=n1+n3) (Bd.mul h1 h6) (by omega))) h8) (by omega);have e3:Bd (n1+n2+n3+1) ((a*y-b*x)*w):=Bd.mono (n:=(n1+n2+1)+n3) (Bd.mul (Bd.sub (Bd.mul h1 h5) (Bd.mono (n:=n2+n1) (Bd.mul h2 h4) (by omega))) h9) (by omega);exact Bd.mono (n:=n1+n2+n3+1+1+1) (Bd.add (Bd.add e1 e2) (Bd.mono e3 (by omega))) (by omega)
theorem jf2 {n1 n2 n3 m1 m2 m3 N:Nat} {b c z u v w:Int} (h1:Bd n1 a) (h2:Bd n2 b) (h3:Bd n3 c) (h4:Bd m1 x) (h5:Bd m2 y) (h6:Bd m3 z) (h7:Bd m1 u) (h8:Bd m2 v) (h9:Bd m3 w) (e1:n1+m2+m3<=N) (e2:n2+m1+m3<=N) (e3:n3+m1+m2<=N):Bd (N+3) (jaY a b c x y z u v w):=by
 unfold jaY;have f1:Bd (N+1) ((b*z-c*y)*u):=by
  rw[Int.sub_mul];exact Bd.sub (Bd.mono (Bd.mul (Bd.mul h2 h6) h7) (by omega)) (Bd.mono (Bd.mul (Bd.mul h3 h5) h7) (by omega))
 have f2:Bd (N+1) ((c*x-a*z)*v):=by
  rw[Int.sub_mul];exact Bd.sub (Bd.mono (Bd.mul (Bd.mul h3 h4) h8) (by omega)) (Bd.mono (Bd.mul (Bd.mul h1 h6) h8) (by omega))
 have f3:Bd (N+1) ((a*y-b*x)*w):=by
  rw[Int.sub_mul];exact Bd.sub (Bd.mono (Bd.mul (Bd.mul h1 h5) h9) (by omega)) (Bd.mono (Bd.mul (Bd.mul h2 h4) h9) (by omega))
 exact Bd.mono (n:=N+1+1+1) (Bd.add (Bd.add f1 f2) (Bd.mono f3 (by omega))) (by omega)
theorem jl3 (hp:SpC p) (hq:SpB q) (hr:SpB r):PB (rgQ p q r) :=
 ⟨⟨jf2 (N:=108) hp.y hp.z hp.w hq.y hq.z hq.w hr.y hr.z hr.w (by decide) (by decide) (by decide),Bd.neg (jf2 (N:=108) hp.x hp.z hp.w hq.x hq.z hq.w hr.x hr.z hr.w (by decide) (by decide) (by decide))⟩,jf2 (N:=108) hp.x hp.y hp.w hq.x hq.y hq.w hr.x hr.y hr.w (by decide) (by decide) (by decide),jf2 (N:=134) hp.x hp.y hp.z hq.x hq.y hq.z hr.x hr.y hr.z (by decide) (by decide) (by decide)⟩
theorem PlF.pb (h:PlF r f) (b:PB r):PB f:=⟨⟨jha h.le.1.1 b.1.1,jha h.le.1.2 b.1.2⟩,jha h.le.2.1 b.2.1,jha h.le.2.2 b.2.2⟩
theorem plf3 (h:¬jbp p q r):∃f,PlF (rgQ p q r) f:=plf fun ⟨a,b,c⟩=>h ⟨a,xa0.mp b,c⟩
theorem jcj {b:Addr} (hb:BM H b ps) (n3:3<=ps.length) (na:¬jbp (pt ps 0) (pt ps 1) (pt ps 2)) (bp:∀p∈ps,SpB p)
  (q:∀(g:Addr) (H':Hp) (f:Pt),Same H H'->PlF (rgQ (pt ps 0) (pt ps 1) (pt ps 2)) f->PB f->Is4 H' g f->Q (.ref g) H'):jb7 [.ref b] H Q E:=by
 obtain⟨rs,h1,h2⟩:=hb;obtain⟨f,hf⟩:=plf3 na;have pb:=hf.pb (jl3 (bp _ (jaI (i:=0) (by omega))).c (bp _ (jaI (i:=1) (by omega))) (bp _ (jaI (i:=2) (by omega))));refine⟨b,rs,ps,rfl,h1,h2,n3,na,fun g H' s' e'=>q g H' f s' hf pb ⟨?_,pb.sm⟩⟩;have:pln (rgh (pt ps 0) (pt ps 1) (pt ps 2))=[f.x,f.y,f.z,f.w]:=hf.ls;rw[this] at e';exact e'
structure Fre (ps:List Pt) (o:Pt):Prop where
 n3:3<=ps.length
 n8:ps.length<=8
 na:¬jbp (pt ps 0) (pt ps 1) (pt ps 2)
 bp:∀p∈ps,SpB p
 fr:hgP (rgQ (pt ps 0) (pt ps 1) (pt ps 2)) o≠0
theorem PlF.ne (h:PlF r f) {P:Pt} (n:hgP r P≠0):hgP f P≠0:=fun z=>by
 obtain⟨g,σ,g0,s1,e⟩:=h.sg;have:=e P;rw[z,xaq] at this;rcases xai.mp this.symm with q | q
 ·omega
 ·exact n q
theorem jpm {n:Int} (h:n≠0):sgn n≠0:=by
 unfold sgn;split
 ·decide
 ·split
  ·decide
  ·omega
theorem jpn (T:Tx K mg t1 t2) (F:At K mg "is_sight" jdW ["one","other","spot","near","far"] []):jal P w K mg base CX0 1 "is_sight" ["one","other","spot","near","far"] [] spNo:=by
 exact F.ok jg7 (fun _ _ _ _ h=>h.elim) fun _ _ _ _ _ _ _ _ _ _ h=>h.elim
def wrp (n i:Nat):Nat:=(i+(n-1)) % n
def SdF (s:Pt) (qs fs:List Pt):Prop:=fs.length=qs.length/\∀i,i<qs.length->∃f,PlF (rgQ s (pt qs (wrp qs.length i)) (pt qs i)) f/\pt fs i=ttw f qs
inductive spSfi (vs:List V) (H:Hp) (Q:VK):Prop
 | mk (b e:Addr) (qs:List Pt) (s:Pt) (_:vs=[.ref b,.ref e]) (_:BM H b qs) (_:Is4 H e s) (_:3<=qs.length) (_:qs.length<=8) (_:(∀q∈qs,SpB q)) (_:SpC s) (_:(∀i,i<qs.length->¬jbp s (pt qs (wrp qs.length i)) (pt qs i))) (_:∀(L:Addr) (H':Hp) (rs:List Addr) (fs:List Pt),Same H H'->Cor H' L rs fs->(∀f∈fs,PB f)->SdF s qs fs->Q (.ref L) H')
def spSf:Sp:=fun vs H Q _=>spSfi vs H Q
theorem jj9 {H:Hp}:∀(ys:List V) (p:Nat->Pt->Prop),(∀(i:Nat) (y:V),ys[i]?=some y->∃(r:Addr) (f:Pt),y=.ref r/\p i f/\Is4 H r f)->∃(rs:List Addr) (fs:List Pt),ys=rs.map V.ref/\Sps H rs fs/\fs.length=ys.length/\∀i,i<ys.length->p i (pt fs i)
  | [],p,_=>⟨[],[],rfl,.nil,rfl,fun i h=>absurd h (xa8 _)⟩
  | y :: ys, p, h => by
    obtain⟨r,f,rfl,pf,hf⟩:=h 0 y rfl;obtain⟨rs,fs,rfl,hs,hl,hp⟩:=jj9 ys (fun i=>p (i+1)) fun i y hy=>h (i+1) y hy;refine⟨r::rs,f::fs,rfl,.cons hf hs,by rw[xaw,xaw,hl],fun i hi=>?_⟩;cases i with
    | zero=>exact pf
    | succ i=>exact hp i (xb2 hi)
theorem jl4 (h:PB f):PB (ttw f ps):=by
 unfold ttw;split
 ·exact h
 ·exact h.neg
theorem ok_sf (T:Tx K mg t1 t2) (F:At K mg "side_faces" jcC ["board","spot"] []) (dJ:jal P w K mg base CX0 3 "turned_towards" ["plane","spots"] [] (spTt K)) (dM:jal P w K mg base CX0 5 "plane_through" ["one","other","third"] [] jeQ) (du:jal P w K mg base CX0 1 "edges_of" ["board"] [] jfP):jal P w K mg base CX0 6 "side_faces" ["board","spot"] [] spSf:=by
 refine F.ok jdA (by walk_at "ar") (fun f cdv A outer s H vs Q E hr h=>?_);obtain⟨b,e,qs,o,rfl,⟨rs,hb,hs⟩,he,n3,n8,bq,bo,na,q⟩:=h;have S:=jdA;refine⟨_,(jah (jan (jaX rfl (N':=["edge","spot","board"]) (ix:=[1,0]) (by walk_at "cs") (ja9 (jae du hr.m rfl jaq (jaa (pv 0) jac jad))) (fun _ _ _ _=>jas (i:=0) (show (["edge","spot","board"]:List Str).Nodup from by decide +kernel) rfl (Or.inl rfl)) (fun _ _ _ _=>jaW) (fun _ _ _ _=>(jae dJ hr.m rfl jaq (jaa (jae dM hr.m rfl jaq (jaa (pv 1) (jaa (jam (jaZ (K:=K) rfl) (pv 0) jab) (jaa (jam (jaZ (K:=K) rfl) (pv 0) jab) jac jau) jau) jad)) (jaa (pv 2) jac jad) jaG)))))),?_⟩;have lr:=hs.len;walk_at "rf";refine⟨b,rs,rfl,hb,by omega,by omega,fun L H1 es s1 e1 l1 p1=>⟨L,rfl,⟨_,SqL.of e1⟩,fun acc hacc=>?_⟩⟩;refine jhy (K:=K) (a:=L) (zs:=es.map V.ref) (fun i y J=>∃(r:Addr) (f:Pt),y=.ref r/\PlF (rgQ o (pt qs (wrp qs.length i)) (pt qs i)) f/\PB f/\Is4 J r (ttw f qs)) (fun i y J J' ⟨r,f,h1,h2,h3,h4⟩ st=>⟨r,f,h1,h2,h3,st _ _ h4.1,h4.2⟩) (by rw[xaa];omega) hacc (SqL.of e1) (fun i z H5 R hz s5 hR=>?_) fun ys J5 s5 e5 l5 p5=>?_
 ·have il:i<qs.length:=by have:=(xae.mp hz).1;rw[xaa] at this;omega
  rw[jbm (by omega)] at hz;cases hz;have pi:=p1 i (by omega);rw[lr] at pi;have hm:wrp qs.length i<qs.length:=xaA _ (by omega);have s15:=s1.trans s5;have q0:=((hs.keep s15.t).get hm).2;have q1:=((hs.keep s15.t).get il).2;have kE:SqT K H5 (ad es i) [.ref (ad rs (wrp qs.length i)),.ref (ad rs i)]:=SqT.of (s5 _ _ pi);obtain⟨f,hf⟩:=plf3 (na i il);have pb:=hf.pb (jl3 bo (bq _ (jaI hm)) (bq _ (jaI il)));walk_at "rf";refine ixT kE rfl (ixT kE rfl ⟨e,_,_,_,_,_,rfl,he.keep s15,q0,q1,na i il,fun g H6 s6 e6=>?_⟩);have e6':Is4 H6 g f:=⟨by
   have:pln (rgh o (pt qs (wrp qs.length i)) (pt qs i))=[f.x,f.y,f.z,f.w]:=hf.ls;rw[this] at e6;exact e6,pb.sm⟩
  have s16:=s15.trans s6;exact⟨g,b,rs,f,qs,rfl,e6',.inr (SqT.of (s16 _ _ hb)),hs.keep s16.t,by omega,fun g' H7 s7 h7=>hR _ _ (s6.trans s7) ⟨g',f,rfl,hf,pb,h7⟩⟩
 ·have le5:ys.length=qs.length:=by rw[l5,xaa];omega
  obtain⟨rs',fs,rfl,hfs,lf,hp⟩:=jj9 ys (fun i F=>∃f,PlF (rgQ o (pt qs (wrp qs.length i)) (pt qs i)) f/\PB f/\F=ttw f qs) fun i y hy=>by
   obtain⟨r,f,h1,h2,h3,h4⟩:=p5 i y hy;exact⟨r,_,h1,⟨f,h2,h3,rfl⟩,h4⟩
  refine q acc J5 rs' fs (s1.trans s5) ⟨e5,hfs⟩ (fun F hF=>?_) ⟨by omega,fun i hi=>?_⟩
  ·obtain⟨j,hj,rfl⟩:=jb8 hF;obtain⟨f,_,h3,h4⟩:=hp j (by omega);rw[h4];exact jl4 h3
  ·obtain⟨f,h2,_,h4⟩:=hp i (by omega);exact⟨f,h2,h4⟩
def PyF (s:Pt) (qs fs:List Pt):Prop:=∃(f0:Pt) (gs:List Pt),fs=ttw f0 [s]::gs/\PlF (rgQ (pt qs 0) (pt qs 1) (pt qs 2)) f0/\SdF s qs gs
inductive spPyi (vs:List V) (H:Hp) (Q:VK):Prop
 | mk (b e:Addr) (qs:List Pt) (s:Pt) (_:vs=[.ref b,.ref e]) (_:BM H b qs) (_:Is4 H e s) (_:Fre qs s) (_:SpC s) (_:(∀i,i<qs.length->¬jbp s (pt qs (wrp qs.length i)) (pt qs i))) (_:∀(L:Addr) (H':Hp) (rs:List Addr) (fs:List Pt),Same H H'->Cor H' L rs fs->(∀f∈fs,PB f)->PyF s qs fs->Q (.ref L) H')
def spPy:Sp:=fun vs H Q _=>spPyi vs H Q
theorem ok_py (T:Tx K mg t1 t2) (F:At K mg "pyramid_faces" jbJ ["board","spot"] []) (dJ:jal P w K mg base CX0 3 "turned_towards" ["plane","spots"] [] (spTt K)) (dh:jal P w K mg base CX0 6 "plane_of" ["board"] [] jb7) (Du:jal P w K mg base CX0 6 "side_faces" ["board","spot"] [] spSf):jal P w K mg base CX0 7 "pyramid_faces" ["board","spot"] [] spPy:=by
 refine F.ok jcr (by walk_at "ar") (fun f cdv A outer s H vs Q E hr h=>?_);obtain⟨b,e,qs,o,rfl,hb,he,fq,bo,na,q⟩:=h;have S:=jcr;refine⟨_,(jah (jan (jap jgi (jaQ (jaa (jae dJ hr.m rfl jaq (jaa (jae dh hr.m rfl jaq (jaa (pv 0) jac jad)) (jaa (jaQ (jaa (pv 1) jac jad)) jac jbn) jaG)) jac jaG)) (jae Du hr.m rfl jaq (jaa (pv 0) (jaa (pv 1) jac jad) jad))))),?_⟩;walk_at "rf";refine jcj hb fq.n3 fq.na fq.bp fun g H1 f s1 hf pb hg=>?_;try walk_at "rf"
 refine⟨by decide,fun p hp=>?_⟩;refine jb4 hp fun H2 s2 e2=>⟨g,p,[e],f,[o],rfl,hg.keep s2,.inl (SqL.of e2),.cons (he.keep (s1.trans s2)) .nil,show 1<=17 by decide,fun g' H3 s3 h3=>⟨by decide,fun p' hp'=>?_⟩⟩;refine jb4 hp' fun H4 s4 e4=>?_;have s14:=s1.trans (s2.trans (s3.trans s4));refine⟨b,e,qs,o,rfl,hb.keep s14,he.keep s14,fq.n3,fq.n8,fq.bp,bo,na,fun L H5 rs fs s5 c5 pf sf=>?_⟩;try walk_at "rf"
 have lc:=c5.2.len;have m8:=fq.n8;have l8:fs.length=qs.length:=sf.1;refine⟨p',L,_,_,rfl,rfl,s5 _ _ e4,c5.1,xa2 (jaM (by rw[xaa];simp;omega)),fun p6 hp6=>?_⟩;have s6:=Same.new hp6 (.lst ([V.ref g']++rs.map V.ref));refine q p6 _ (g'::rs) (ttw f [o]::fs) (s14.trans (s5.trans s6)) ⟨jak,.cons (h3.keep (s4.trans (s5.trans s6))) (c5.2.keep s6.t)⟩ (fun F hF=>?_) ⟨f,fs,rfl,hf,sf⟩;rcases xam.mp hF with rfl | h
 ·exact jl4 pb
 ·exact pf F h
inductive spArwi (vs:List V) (H:Hp) (Q:VK):Prop
 | mk (a b:Addr) (p o:Pt) (_:vs=[.ref a,.ref b]) (_:Is4 H a p) (_:Is4 H b o) (_:∀(g:Addr) (H':Hp),Same H H'->H' g=some (.tup [.int (jf4 p o).x,.int (jf4 p o).y,.int (jf4 p o).z])->Q (.ref g) H')
def jpo:Sp:=fun vs H Q _=>spArwi vs H Q
theorem jpp (T:Tx K mg t1 t2) (F:At K mg "arrow_between" jbH ["one","other"] []):jal P w K mg base CX0 1 "arrow_between" ["one","other"] [] jpo:=by
 refine F.ok jcp (by walk_at "ar") (fun f cdv A outer s H vs Q E hr h=>?_);obtain⟨a,b,p,o,rfl,ha,hb,q⟩:=h;have S:=jcp;refine⟨_,(jah (jan (ja3 jeE rfl T.m_tuple boot_tuple (jaa (jaX rfl (N':=["k","other","one"]) (ix:=[1,0]) (by walk_at "cs") (jaO rfl T.m_range (jaa jab jac jaj)) (fun _ _ _ _=>jas (i:=0) (show (["k","other","one"]:List Str).Nodup from by decide +kernel) rfl (Or.inl rfl)) (fun _ _ _ _=>jaW) (fun _ _ _ _=>(jap jbf (jap jar (jam (jaZ (K:=K) rfl) (pv 1) (pv 0)) (jam (jaZ (K:=K) rfl) (pv 2) jab)) (jap jar (jam (jaZ (K:=K) rfl) (pv 2) (pv 0)) (jam (jaZ (K:=K) rfl) (pv 1) jab))))) jac jdu)))),?_⟩;walk_at "rf";refine⟨by decide,by decide,fun acc hacc=>?_⟩;refine jh5 (n:=3) (fun k=>.int (tc (jf4 p o) k)) (by decide) hacc (fun k H6 R6 hk s6 hR6=>?_) (fun H6 s6 e6=>?_)
 ·have ka:=(ha.keep s6).sq (K:=K);have kb:=(hb.keep s6).sq (K:=K);have:=hR6 _ (fun _ _ h=>h);walk_at "rf";obtain rfl | rfl | rfl:=lt3 hk
  ·exact ixT kb rfl (ixT ka rfl ⟨_,rfl,_,rfl,hb.2.fx,ha.2.fw,ixT ka rfl (ixT kb rfl ⟨_,rfl,_,rfl,ha.2.fx,hb.2.fw,this⟩)⟩)
  ·exact ixT kb rfl (ixT ka rfl ⟨_,rfl,_,rfl,hb.2.fy,ha.2.fw,ixT ka rfl (ixT kb rfl ⟨_,rfl,_,rfl,ha.2.fy,hb.2.fw,this⟩)⟩)
  ·exact ixT kb rfl (ixT ka rfl ⟨_,rfl,_,rfl,hb.2.fz,ha.2.fw,ixT ka rfl (ixT kb rfl ⟨_,rfl,_,rfl,ha.2.fz,hb.2.fw,this⟩)⟩)
 ·exact⟨_,SqL.of e6,fun l hl=>q l _ (s6.trans (Same.new hl _)) jak⟩
def pyE (s:Pt) (qs:List Pt) (i:Nat):Pt × Pt:=if i<qs.length then (s,pt qs i) else (pt qs (wrp qs.length (i-qs.length)),pt qs (i-qs.length))
def rqh (s:Pt) (ps qs:List Pt) (i j:Nat):Pt:=rgQ (pyE s qs i).1 (pyE s qs i).2 (arr (pt ps (wrp ps.length j)) (pt ps j))
def CdB (r:Pt) (ps qs:List Pt) (s:Pt):Prop:=¬(r.x=0/\r.y=0/\r.z=0)/\(ptB r ps qs s=true\/ptB (jbP r) ps qs s=true)
structure Tol (f:Pt) (ps qs:List Pt) (s:Pt):Prop where
 g1:gl [f.x,f.y,f.z,f.w]=1
 nz:¬(f.x=0/\f.y=0/\f.z=0)
 pt:ptB f ps qs s=true
def PaeR (ps qs:List Pt) (s f:Pt):Prop:=∃i j:Nat,(∀i',i'<i->∀j,j<ps.length->¬CdB (rqh s ps qs i' j) ps qs s)/\(∀j',j'<j->¬CdB (rqh s ps qs i j') ps qs s)/\j<ps.length/\CdB (rqh s ps qs i j) ps qs s/\∃F,F=(if ptB (rqh s ps qs i j) ps qs s=true then rqh s ps qs i j else jbP (rqh s ps qs i j))/\low [F.x,F.y,F.z,F.w]=[f.x,f.y,f.z,f.w]
def jpq (fs:List Pt) (f0:Pt):List Pt:=fs.map jbP++[f0,jbP f0]
def PpR (ps qs fs:List Pt) (s f:Pt):Prop:=∃f0,PlF (rgQ (pt ps 0) (pt ps 1) (pt ps 2)) f0/\((∃i,i<(jpq fs f0).length/\f=pt (jpq fs f0) i/\ptB f ps qs s=true/\∀j,j<i->ptB (pt (jpq fs f0) j) ps qs s=false)\/((∀F∈jpq fs f0,ptB F ps qs s=false)/\PaeR ps qs s f))
theorem jpr {m:Int} (k0:0<k) (m0:0<m) (e:∀P,k*hgP f P=m*hgP r P) (ps qs:List Pt) (s:Pt):ptB f ps qs s=ptB r ps qs s:=by
 have h:=fun P=>sg2 k0 m0 (e P);unfold ptB;rw[decide_eq_decide.mpr (h s).2.2,decide_eq_decide.mpr (show (∀c∈ps,0<=hgP f c)↔∀c∈ps,0<=hgP r c from ⟨fun z c hc=>(h c).2.1.mp (z c hc),fun z c hc=>(h c).2.1.mpr (z c hc)⟩),decide_eq_decide.mpr (show (∀c∈qs,hgP f c<=0)↔∀c∈qs,hgP r c<=0 from ⟨fun z c hc=>(h c).2.2.mp (z c hc),fun z c hc=>(h c).2.2.mpr (z c hc)⟩)]
theorem jnx (nz:¬(r.x=0/\r.y=0/\r.z=0)) (sm:r.sm) (h:ptB r ps qs s=true):∃f:Pt,low [r.x,r.y,r.z,r.w]=[f.x,f.y,f.z,f.w]/\Tol f ps qs s/\f.sm:=by
 have gp:=gl4 (d:=r.w) nz;have g1:gl (low [r.x,r.y,r.z,r.w])=1:=jjg (ns:=[r.x,r.y,r.z,r.w]) (by omega);have d:∀{x:Int},x∈[r.x,r.y,r.z,r.w]->gl [r.x,r.y,r.z,r.w]*(x / gl [r.x,r.y,r.z,r.w])=x:=fun hx=>xbf (jaR hx);refine⟨⟨r.x / gl [r.x,r.y,r.z,r.w],r.y / gl [r.x,r.y,r.z,r.w],r.z / gl [r.x,r.y,r.z,r.w],r.w / gl [r.x,r.y,r.z,r.w]⟩,rfl,⟨g1,fun ⟨a,b,c⟩=>nz ⟨?_,?_,?_⟩,?_⟩,sm.1.div,sm.2.1.div,sm.2.2.1.div,sm.2.2.2.div⟩
 ·rw[<- d (x:=r.x) (by simp),show r.x / gl [r.x,r.y,r.z,r.w]=0 from a,xaq]
 ·rw[<- d (x:=r.y) (by simp),show r.y / gl [r.x,r.y,r.z,r.w]=0 from b,xaq]
 ·rw[<- d (x:=r.z) (by simp),show r.z / gl [r.x,r.y,r.z,r.w]=0 from c,xaq]
 ·rw[jpr (r:=r) gp (show (0:Int)<1 by decide) fun P=>?_]
  ·exact h
  ·have d1:=d (x:=r.x) (by simp);have d2:=d (x:=r.y) (by simp);have d3:=d (x:=r.z) (by simp);have d4:=d (x:=r.w) (by simp);generalize gl [r.x,r.y,r.z,r.w]=g at *
   unfold hgP hgt;simp only;grind
theorem jl5 {o:Pt} (hp:SpB p) (ho:SpB o):(Bd 36 (arr p o).x/\Bd 36 (arr p o).y)/\Bd 36 (arr p o).z/\Bd 4 (arr p o).w :=
 ⟨⟨Bd.mono (n:=30+4+1) (Bd.sub (Bd.mul ho.x hp.w) (Bd.mul hp.x ho.w)),Bd.mono (n:=30+4+1) (Bd.sub (Bd.mul ho.y hp.w) (Bd.mul hp.y ho.w))⟩,Bd.mono (n:=30+4+1) (Bd.sub (Bd.mul ho.z hp.w) (Bd.mul hp.z ho.w)),by show Bd 4 0;unfold Bd;decide⟩
theorem jps {o:Pt} (hp:SpB p) (ho:SpB o):(arr p o).sm:=let ⟨⟨a,b⟩,c,d⟩:=jl5 hp ho;⟨Bd.mono a,Bd.mono b,Bd.mono c,Bd.mono d⟩
theorem jpt {u v:Pt} (hp:SpC p) (hq:SpB q) (hu:SpB u) (hv:SpB v):(rgQ p q (arr u v)).sm:=by
 obtain⟨⟨a,b⟩,c,d⟩:=jl5 hu hv;have x1:Bd 74 p.x:=Bd.mono hp.x;have y1:Bd 74 p.y:=Bd.mono hp.y;have z1:Bd 74 p.z:=Bd.mono hp.z;have x2:Bd 74 q.x:=Bd.mono hq.x;have y2:Bd 74 q.y:=Bd.mono hq.y;have z2:Bd 74 q.z:=Bd.mono hq.z;have w2:Bd 43 q.w:=Bd.mono hq.w;have a':Bd 74 (arr u v).x:=Bd.mono a;have b':Bd 74 (arr u v).y:=Bd.mono b;have c':Bd 74 (arr u v).z:=Bd.mono c;have d':Bd 43 (arr u v).w:=Bd.mono d;exact⟨Bd.mono (n:=74+74+43+3) (jf1 y1 z1 hp.w y2 z2 w2 b' c' d'),Bd.neg (Bd.mono (n:=74+74+43+3) (jf1 x1 z1 hp.w x2 z2 w2 a' c' d')),Bd.mono (n:=74+74+43+3) (jf1 x1 y1 hp.w x2 y2 w2 a' b' d'),Bd.mono (n:=74+74+74+3) (jf1 x1 y1 z1 x2 y2 z2 a' b' c')⟩
inductive spPaei (vs:List V) (H:Hp) (Q:VK):Prop
 | mk (a b e:Addr) (ps qs:List Pt) (s:Pt) (_:vs=[.ref a,.ref b,.ref e]) (_:BM H a ps) (_:BM H b qs) (_:Is4 H e s) (_:Fre ps s) (_:Fre qs s) (_:SpC s) (_:(∃i j,i<2*qs.length/\j<ps.length/\CdB (rqh s ps qs i j) ps qs s)) (_:∀(g:Addr) (H':Hp) (f:Pt),Same H H'->Is4 H' g f->Tol f ps qs s->PaeR ps qs s f->Q (.ref g) H')
def jpu:Sp:=fun vs H Q _=>spPaei vs H Q
theorem jpv (T:Tx K mg t1 t2) (F:At K mg "plane_along_edges" jbc ["one","other","spot"] []) (Df:jal P w K mg base CX0 1 "arrow_between" ["one","other"] [] jpo) (du:jal P w K mg base CX0 1 "edges_of" ["board"] [] jfP) (dQ:jal P w K mg base CX0 4 "rough_plane" ["one","other","third"] [] jg4) (dg:jal P w K mg base CX0 1 "turned_about" ["plane"] [] jcZ) (dA:jal P w K mg base CX0 4 "is_parting" ["plane","one","other","spot"] [] spIp) (dR:jal P w K mg base CX0 3 "made_plane" ["a","b","c","d"] [] jg5):jal P w K mg base CX0 5 "plane_along_edges" ["one","other","spot"] [] jpu:=by
  refine F.ok jbz (by walk_at "ar") (fun f cdv A outer s H vs Q E hr h=>?_);obtain⟨a,b,e,ps,qs,o,rfl,ha,hb,he,fp,fq,bo,ex,q⟩:=h;have S:=jbz;refine⟨_,(jag (jbG (i:=3) rfl S.nd rfl rfl (N':=["edge"]) (ix:=[]) (by walk_at "cs") (ja9 (jae du hr.m rfl jaq (jaa (pv 0) jac jad))) (fun _ _ _ _=>jas (i:=0) (show (["edge"]:List Str).Nodup from by decide +kernel) rfl (Or.inl rfl)) (fun _ _ _ _=>jaW) (fun _ _ _ _=>(jae Df hr.m rfl jaq (jaa (jam (jaZ (K:=K) rfl) (pv 0) jab) (jaa (jam (jaZ (K:=K) rfl) (pv 0) jab) jac jau) jau))))
    (jag (jat (i:=4) S.nd rfl (Or.inl rfl) (jap jgi (jaX rfl (N':=["corner","spot"]) (ix:=[2]) (by walk_at "cs") (jc1 (pv 1)) (fun _ _ _ _=>jas (i:=0) (show (["corner","spot"]:List Str).Nodup from by decide +kernel) rfl (Or.inl rfl)) (fun _ _ _ _=>jaW) (fun _ _ _ _=>(ja1 (jaa (pv 1) (jaa (pv 0) jac jad) jad)))) (jae du hr.m rfl jaq (jaa (pv 1) jac jad))))
    (jag (jbe PassesOwn.never rfl (ja9 (pv 4)) (jas (i:=5) S.nd rfl (Or.inl rfl))
    (jah (jbe PassesOwn.never rfl (ja9 (pv 3)) (jas (i:=6) S.nd rfl (Or.inl rfl))
    (jag (jat (i:=7) S.nd rfl (Or.inl rfl) (jae dQ hr.m rfl jaq (jaa (jam jao (pv 5) jab) (jaa (jam jao (pv 5) jab) (jaa (ja1 (jaa (jam jao (pv 6) jab) (jaa (jam jao (pv 6) jab) (jaa (jam jao (pv 6) jab) (jaa jab jac jaj) jau) jau) jau)) jac jaA) jau) jau)))
    (jag (jaV (jav (jgm (jki hr)) (jbi jlt (pv 7) jbE (jbF jab)) (ja1 (jaa jab (jaa jab (jaa jab jac jaj) jaj) jaj)) (jaC _))
    (jah jgO)
    jaz)
    (jah (jbe PassesOwn.never rfl (jc1 (ja1 (jaa (pv 7) (jaa (jae dg hr.m rfl jaq (jaa (pv 7) jac jad)) jac jaG) jad))) (jas (i:=8) S.nd rfl (Or.inl rfl))
    (jah (jaV (jb2 (jae dA hr.m rfl jaq (jaa (pv 8) (jaa (pv 0) (jaa (pv 1) (jaa (pv 2) jac jad) jad) jad) jad)))
    (jah (jan (jae dR hr.m rfl jaq (jaa (jam jao (pv 8) jab) (jaa (jam jao (pv 8) jab) (jaa (jam jao (pv 8) jab) (jaa (jam jao (pv 8) jab) jac jau) jau) jau) jau))))
    jaz)))))))))
    (jah (jan jcm))))),?_⟩
  walk_at "rf";obtain⟨rs,ha1,ha2⟩:=id ha;obtain⟨rs',hb1,hb2⟩:=id hb;have lr:=ha2.len;have lr':=hb2.len;have n3:=fp.n3;have n8:=fp.n8;have m3:=fq.n3;have m8:=fq.n8;have wl:∀{n i:Nat},i<n->wrp n i<n:=fun h=>xaA _ (by omega);refine⟨a,rs,rfl,ha1,by omega,by omega,fun L H1 es s1 e1 l1 p1=>⟨L,rfl,⟨_,SqL.of e1⟩,fun acc hacc=>?_⟩⟩;refine jhy (K:=K) (a:=L) (zs:=es.map V.ref) (fun i y J=>∃r:Addr,y=.ref r/\J r=some (.tup [.int (jf4 (pt ps (wrp ps.length i)) (pt ps i)).x,.int (jf4 (pt ps (wrp ps.length i)) (pt ps i)).y,.int (jf4 (pt ps (wrp ps.length i)) (pt ps i)).z])) (fun i y J J' ⟨r,h1,h2⟩ st=>⟨r,h1,st _ _ h2⟩) (by rw[xaa];omega) hacc (SqL.of e1) (fun i z H5 R hz s5 hR=>?_) fun ys H2 s2 e2 l2 p2=>?_
  . have il:i < ps.length:=by have:=(xae.mp hz).1; rw[xaa] at this; omega
    rw[jbm (by omega)] at hz;cases hz;have pi:=p1 i (by omega);rw[lr] at pi;have s15:=s1.trans s5;have q0:=((ha2.keep s15.t).get (wl il)).2;have q1:=((ha2.keep s15.t).get il).2;have kE:SqT K H5 (ad es i) [.ref (ad rs (wrp ps.length i)),.ref (ad rs i)]:=SqT.of (s5 _ _ pi);walk_at "rf";exact ixT kE rfl (ixT kE rfl ⟨_,_,_,_,rfl,q0,q1,fun g H6 s6 e6=>hR _ _ s6 ⟨g,rfl,e6⟩⟩)
  obtain⟨as,rfl⟩:∃as:List Addr,ys=as.map V.ref:=jd2 fun i y hy=>let ⟨r,h1,_⟩:=p2 i y hy;⟨r,h1⟩;have la:as.length=ps.length:=by rw[xaa,xaa] at l2;omega
  have s02:=s1.trans s2;have pA:∀j,j<ps.length->H2 (ad as j)=some (.tup [.int (jf4 (pt ps (wrp ps.length j)) (pt ps j)).x,.int (jf4 (pt ps (wrp ps.length j)) (pt ps j)).y,.int (jf4 (pt ps (wrp ps.length j)) (pt ps j)).z]):=fun j hj=>by
    obtain⟨r,h1,h2⟩:=p2 j _ (jbm (by omega));cases h1;exact h2
  have kb:SqT K H2 b (rs'.map V.ref):=SqT.of (s02 _ _ hb1);refine⟨⟨_,kb⟩,fun acc2 hacc2=>?_⟩;refine jlB (K:=K) (a:=b) (zs:=rs'.map V.ref) (fun i y J=>∃r:Addr,y=.ref r/\J r=some (.tup [.ref e,.ref (ad rs' i)])) (fun i y J J' ⟨r,h1,h2⟩ st=>⟨r,h1,st _ _ h2⟩) (by rw[xaa];omega) hacc2 kb (fun i z H5 R hz s5 hR=>?_) fun ys H3 s3 e3 l3 p3=>?_
  . have il:i < rs'.length:=by have:=(xae.mp hz).1; rw[xaa] at this; omega
    rw[jbm il] at hz;cases hz;walk_at "rf";exact⟨by decide,fun p hp=>hR _ _ (Same.new hp _) ⟨p,rfl,jak⟩⟩
  obtain⟨bs,rfl⟩:∃bs:List Addr,ys=bs.map V.ref:=jd2 fun i y hy=>let ⟨r,h1,_⟩:=p3 i y hy;⟨r,h1⟩;have lb:bs.length=qs.length:=by rw[xaa,xaa] at l3;omega
  have pB:∀j,j<qs.length->H3 (ad bs j)=some (.tup [.ref e,.ref (ad rs' j)]):=fun j hj=>by
    obtain⟨r,h1,h2⟩:=p3 j _ (jbm (by omega));cases h1;exact h2
  have s03:=s02.trans s3;refine⟨b,rs',rfl,s03 _ _ hb1,by omega,by omega,fun L2 H4 es2 s4 e4 l4 p4=>?_⟩;refine⟨acc2,L2,_,_,rfl,rfl,s4 _ _ e3,e4,xa2 (jaM (by rw[xaa,xaa];omega)),fun PL hPL=>?_⟩;rw[<- xap];refine jb4 hPL fun J0 s5 e5=>⟨PL,rfl,⟨_,SqL.of e5⟩,?_⟩;have s05:=s03.trans (s4.trans s5);have s25:=s3.trans (s4.trans s5);have s35:=s4.trans s5;have hA0:J0 acc=some (.lst (as.map V.ref)):=s25 _ _ e2;have lbs:(bs++es2).length=2*qs.length:=by rw[xal];omega
  have pP:∀i,i<2*qs.length->∃r1 r2:Addr,J0 (ad (bs++es2) i)=some (.tup [.ref r1,.ref r2])/\Is4 J0 r1 (pyE o qs i).1/\Is4 J0 r2 (pyE o qs i).2/\SpC (pyE o qs i).1/\SpB (pyE o qs i).2:=fun i hi=>by
    unfold pyE;by_cases c:i<qs.length
    . rw[if_pos c]
      refine⟨e,ad rs' i,?_,he.keep s05,((hb2.keep s05.t).get c).2,bo,fq.bp _ (jaI c)⟩;rw[show ad (bs++es2) i=ad bs i by unfold ad;rw[xab,xab,xaV (by omega)]];exact s35 _ _ (pB i c)
    . rw[if_neg c]
      have c':i-qs.length<qs.length:=by omega
      refine⟨ad rs' (wrp qs.length (i-qs.length)),ad rs' (i-qs.length),?_,((hb2.keep s05.t).get (wl c')).2,((hb2.keep s05.t).get c').2,(fq.bp _ (jaI (wl c'))).c,fq.bp _ (jaI c')⟩;rw[show ad (bs++es2) i=ad es2 (i-qs.length) by unfold ad;rw[xab,xab,xaH (by omega),lb]];have:=p4 (i-qs.length) (by omega);rw[lr'] at this;exact s5 _ _ this
  refine jbC (K:=K) (a:=PL) (xs:=(bs++es2).map V.ref) (fun i σ J=>Same J0 J/\∃o5 o6 o7 o8:Option V,σ=[some (.ref a),some (.ref b),some (.ref e),some (.ref acc),some (.ref PL),o5,o6,o7,o8]/\∀i',i'<i->∀j,j<ps.length->¬CdB (rqh o ps qs i' j) ps qs o) ⟨Same.refl _,none,none,none,none,rfl,fun _ h=>absurd h (xa8 _)⟩ (fun i σ J _ h=>SqL.of (h.1 _ _ e5)) ?_ ?_
  . rintro i v σ J hi ⟨sJ,o5,o6,o7,o8,rfl,hz⟩
    have il:i<2*qs.length:=by have:=(xae.mp hi).1;rw[xaa] at this;omega
    rw[jbm (by omega)] at hi;cases hi;obtain⟨r1,r2,f1,f2,f3,f4,f5⟩:=pP i il;walk_at "rf";refine⟨⟨_,SqL.of (sJ _ _ hA0)⟩,jbC (K:=K) (a:=acc) (xs:=as.map V.ref) (fun j σ J'=>Same J0 J'/\∃o6 o7 o8:Option V,σ=[some (.ref a),some (.ref b),some (.ref e),some (.ref acc),some (.ref PL),some (.ref (ad (bs++es2) i)),o6,o7,o8]/\∀j',j'<j->¬CdB (rqh o ps qs i j') ps qs o) ⟨sJ,_,_,_,rfl,fun _ h=>absurd h (xa8 _)⟩ (fun i σ J _ h=>SqL.of (h.1 _ _ hA0)) ?_ ?_⟩
    . rintro j v σ J' hj ⟨sJ',o6',o7',o8',rfl,hz'⟩
      have jl:j<ps.length:=by have:=(xae.mp hj).1;rw[xaa] at this;omega
      rw[jbm (by omega)] at hj;cases hj;have kA:SqT K J' (ad as j) [.int (arr (pt ps (wrp ps.length j)) (pt ps j)).x,.int (arr (pt ps (wrp ps.length j)) (pt ps j)).y,.int (arr (pt ps (wrp ps.length j)) (pt ps j)).z]:=SqT.of ((s25.trans sJ') _ _ (pA j jl));have kE:SqT K J' (ad (bs++es2) i) [.ref r1,.ref r2]:=SqT.of (sJ' _ _ f1);walk_at "rf";refine ixT kE rfl (ixT kE rfl (ixT kA rfl (ixT kA rfl (ixT kA rfl ⟨by decide,fun p hp=>?_⟩))));refine jb4 hp fun J1 u1 d1=>?_;have sb1:=fp.bp _ (jaI (wl jl));have sb2:=fp.bp _ (jaI jl);refine⟨r1,r2,p,_,_,_,rfl,f2.keep (sJ'.trans u1),f3.keep (sJ'.trans u1),⟨d1,jps sb1 sb2⟩,fun g J2 u2 d2=>?_⟩;have rsm:=jpt f4 f5 sb1 sb2;have hg:Is4 J2 g (rqh o ps qs i j):=⟨d2,rsm⟩;have sj2:=sJ'.trans (u1.trans u2);have nxt:¬CdB (rqh o ps qs i j) ps qs o->∀j',j'<j+1->¬CdB (rqh o ps qs i j') ps qs o:=fun n j' h'=>by
        rcases xbK j' j with c | c
        . exact hz' j' c
        . rw[show j'=j by omega]
          exact n
      generalize erq:rqh o ps qs i j=r at hg nxt;refine⟨g,_,rfl,hg.sq,show ¬(HT.sIx 4 0 none=0/\HT.sIx 4 4 (some 3)=4) by decide,fun p1 hp1=>?_⟩;refine jb4 hp1 fun J3 u3 d3=>⟨by decide,fun p2 hp2=>?_⟩;refine jb4 hp2 fun J4 u4 d4=>?_;have sj4:=sj2.trans (u3.trans u4);refine jkB (x:=[r.x,r.y,r.z]) (y:=[0,0,0]) (SqT.of (u4 _ _ d3)) (SqT.of d4) ⟨_,rfl,?_⟩;by_cases c:r.x=0/\r.y=0/\r.z=0
      . rw[decide_eq_true (by rw[c.1,c.2.1,c.2.2]),if_pos rfl]
        exact⟨sj4,nxt fun h=>h.1 c⟩
      . rw[decide_eq_false (fun z=>c (by simp at z; exact z)),if_neg (by decide)]
        refine⟨g,[r.x,r.y,r.z,r.w],rfl,(hg.keep (u3.trans u4)).1,show 4<=10 by decide,fun g' J5 u5 d5=>⟨by decide,fun p3 hp3=>?_⟩⟩;have hg':Is4 J5 g' (jbP r):=Is4.neg d5 hg.2;have cn:¬((jbP r).x=0/\(jbP r).y=0/\(jbP r).z=0):=fun ⟨h1,h2,h3⟩=>c ⟨xa0.mp h1,xa0.mp h2,xa0.mp h3⟩;refine jb4 hp3 fun J6 u6 d6=>⟨⟨_,SqT.of d6⟩,jdL (K:=K) (a:=p3) (xs:=[.ref g,.ref g']) (fun k σ J7=>Same J6 J7/\∃o8:Option V,σ=[some (V.ref a),some (V.ref b),some (V.ref e),some (V.ref acc),some (V.ref PL),some (V.ref (ad (bs++es2) i)),some (V.ref (ad as j)),some (V.ref g),o8]/\(1<=k->ptB r ps qs o=false)/\(2<=k->ptB (jbP r) ps qs o=false)) ⟨Same.refl _,_,rfl,fun h=>absurd h (by decide),fun h=>absurd h (by decide)⟩ (fun i σ J _ h=>SqT.of (h.1 _ _ d6)) ?_ ?_⟩
        . rintro k v σ J7 hk ⟨s7,o8,rfl,b1,b2⟩
          obtain⟨gg,F,rfl,hF,nF,sel,nx⟩:∃(gg:Addr) (F:Pt),v=.ref gg/\Is4 J6 gg F/\¬(F.x=0/\F.y=0/\F.z=0)/\(ptB F ps qs o=true->CdB r ps qs o/\F=if ptB r ps qs o=true then r else jbP r)/\(ptB F ps qs o=false->(1<=k+1->ptB r ps qs o=false)/\(2<=k+1->ptB (jbP r) ps qs o=false)):=by
            have hl2:k<2:=(xae.mp hk).1;have k2:k=0\/k=1:=by omega
            rcases k2 with rfl | rfl
            . cases hk
              exact⟨g,r,rfl,hg.keep (u3.trans (u4.trans (u5.trans u6))),c,fun h=>⟨⟨c,.inl h⟩,by rw[if_pos h]⟩,fun h=>⟨fun _=>h,fun h=>absurd h (by decide)⟩⟩
            . cases hk
              exact⟨g',jbP r,rfl,hg'.keep u6,cn,fun h=>⟨⟨c,.inr h⟩,by rw[if_neg (by rw[b1 (by decide)];decide)]⟩,fun h=>⟨fun _=>b1 (by decide),fun _=>h⟩⟩
          have sA:=s05.trans (sj4.trans (u5.trans (u6.trans s7)));walk_at "rf";refine⟨gg,a,b,e,F,o,ps,qs,rfl,hF.keep s7,ha.keep sA,hb.keep sA,he.keep sA,by omega,by omega,?_⟩;refine⟨_,rfl,?_⟩;cases hB:ptB F ps qs o with
          | false =>
            rw[if_neg (by decide)];exact⟨s7,nx hB⟩
          | true =>
            rw[if_pos rfl];have kF:SqT K J7 gg [.int F.x,.int F.y,.int F.z,.int F.w]:=(hF.keep s7).sq;have smF:=hF.2.small;obtain⟨f,h1,h2,h3⟩:=jnx nF hF.2 hB;refine ixT kF rfl (ixT kF rfl (ixT kF rfl (ixT kF rfl ⟨F.x,F.y,F.z,F.w,rfl,smF.1,smF.2.1,smF.2.2.1,smF.2.2.2,nF,fun g8 J8 s8 e8=>?_⟩)));rw[h1] at e8;obtain⟨cdb,eF⟩:=sel hB;exact q g8 J8 f (sA.trans s8) ⟨e8,h3⟩ h2 ⟨i,j,hz,hz',jl,by rw[erq];exact cdb,F,by rw[erq];exact eF,h1⟩
        . rintro σ J7 ⟨s7,o8,rfl,b1,b2⟩
          exact⟨sj4.trans (u5.trans (u6.trans s7)),_,_,_,rfl,nxt fun h=>by
            rcases h.2 with h | h
            . rw[b1 (show 1<=2 by decide)] at h;cases h
            . rw[b2 (show 2<=2 by decide)] at h;cases h⟩
    . rintro σ J' ⟨sJ',o6',o7',o8',rfl,hz'⟩
      rw[xaa,la] at hz';exact⟨sJ',_,_,_,_,rfl,fun i' h'=>by
        rcases xbK i' i with c | c
        . exact hz i' c
        . rw[show i'=i by omega]
          exact hz'⟩
  . rintro σ J ⟨sJ,o5,o6,o7,o8,rfl,hz⟩
    exfalso;obtain⟨i,j,hi,hj,hc⟩:=ex;rw[xaa,lbs] at hz;exact hz i hi j hj hc
def Ex1 (ps qs fs:List Pt) (f0 s:Pt):Prop:=(∃f∈fs,ptB (jbP f) ps qs s=true)\/ptB f0 ps qs s=true\/ptB (jbP f0) ps qs s=true\/∃i j,i<2*qs.length/\j<ps.length/\CdB (rqh s ps qs i j) ps qs s
def FcG (fs:List Pt):Prop:=∀f∈fs,gl [f.x,f.y,f.z,f.w]=1/\¬(f.x=0/\f.y=0/\f.z=0)
inductive spPpi (vs:List V) (H:Hp) (Q:VK):Prop
 | mk (a b e l:Addr) (rs:List Addr) (ps qs fs:List Pt) (s:Pt) (_:vs=[.ref a,.ref b,.ref e,.ref l]) (_:BM H a ps) (_:BM H b qs) (_:Is4 H e s) (_:Fre ps s) (_:Fre qs s) (_:SpC s) (_:Cor H l rs fs) (_:fs.length<=9) (_:FcG fs) (_:(∀f0,PlF (rgQ (pt ps 0) (pt ps 1) (pt ps 2)) f0->Ex1 ps qs fs f0 s)) (_:∀(g:Addr) (H':Hp) (f:Pt),Same H H'->Is4 H' g f->Tol f ps qs s->PpR ps qs fs s f->Q (.ref g) H')
def spPp:Sp:=fun vs H Q _=>spPpi vs H Q
theorem ok_pp (T:Tx K mg t1 t2) (F:At K mg "parting_plane" jbK ["one","other","spot","faces"] []) (dh:jal P w K mg base CX0 6 "plane_of" ["board"] [] jb7) (dg:jal P w K mg base CX0 1 "turned_about" ["plane"] [] jcZ) (dA:jal P w K mg base CX0 4 "is_parting" ["plane","one","other","spot"] [] spIp) (Dc:jal P w K mg base CX0 5 "plane_along_edges" ["one","other","spot"] [] jpu):jal P w K mg base CX0 7 "parting_plane" ["one","other","spot","faces"] [] spPp:=by
  refine F.ok jcs (by walk_at "ar") (fun f cdv A outer s H vs Q E hr h=>?_);obtain⟨a,b,e,l,rs,ps,qs,fs,o,rfl,ha,hb,he,fp,fq,bo,⟨cl,cs⟩,l9,fg,ex,q⟩:=h;have S:=jcs;refine⟨_,(jag (jat (i:=4) S.nd rfl (Or.inl rfl) (jae dh hr.m rfl jaq (jaa (pv 0) jac jad)))
    (jag (jbe PassesOwn.never rfl (ja9 (jap jgi (jaX rfl (N':=["face"]) (ix:=[]) (by walk_at "cs") (ja9 (pv 3)) (fun _ _ _ _=>jas (i:=0) (show (["face"]:List Str).Nodup from by decide +kernel) rfl (Or.inl rfl)) (fun _ _ _ _=>jaW) (fun _ _ _ _=>(jae dg hr.m rfl jaq (jaa (pv 0) jac jad)))) (jaQ (jaa (pv 4) (jaa (jae dg hr.m rfl jaq (jaa (pv 4) jac jad)) jac jaG) jad)))) (jas (i:=5) S.nd rfl (Or.inl rfl))
    (jah (jaV (jb2 (jae dA hr.m rfl jaq (jaa (pv 5) (jaa (pv 0) (jaa (pv 1) (jaa (pv 2) jac jad) jad) jad) jad)))
    (jah (jan (pv 5)))
    jaz)))
    (jah (jan (jae Dc hr.m rfl jaq (jaa (pv 0) (jaa (pv 1) (jaa (pv 2) jac jad) jad) jad)))))),?_⟩
  walk_at "rf";refine jcj ha fp.n3 fp.na fp.bp fun g0 H1 f0 s1 hf0 pb0 h0=>?_;try walk_at "rf"
  have lc:=cs.len;have kl:SqL K H1 l (rs.map V.ref):=SqL.of (s1 _ _ cl);refine⟨⟨_,kl⟩,fun acc hacc=>?_⟩;refine jhy (K:=K) (a:=l) (zs:=rs.map V.ref) (fun i y J=>∃r:Addr,y=.ref r/\Is4 J r (jbP (pt fs i))) (fun i y J J' ⟨r,h1,h2⟩ st=>⟨r,h1,st _ _ h2.1,h2.2⟩) (by rw[xaa];omega) hacc kl (fun i z H5 R hz s5 hR=>?_) fun ys H2 s2 e2 l2 p2=>?_
  . have il:i < fs.length:=by have:=(xae.mp hz).1; rw[xaa] at this; omega
    obtain⟨b1,b2⟩:=(cs.keep (s1.trans s5).t).get il;rw[b1] at hz;cases hz;walk_at "rf";exact⟨_,[(pt fs i).x,(pt fs i).y,(pt fs i).z,(pt fs i).w],rfl,b2.1,show 4<=10 by decide,fun t H6 s6 e6=>hR _ _ s6 ⟨t,rfl,Is4.neg e6 b2.2⟩⟩
  obtain⟨as,gs,rfl,hgs,lg,pg⟩:=jj9 ys (fun i F=>F=jbP (pt fs i)) fun i y hy=>by
    obtain⟨r,h1,h2⟩:=p2 i y hy;exact⟨r,_,h1,rfl,h2⟩
  rw[xaa,xaa] at l2;rw[xaa] at lg;have h02:=h0.keep s2;refine⟨g0,[f0.x,f0.y,f0.z,f0.w],rfl,h02.1,show 4<=10 by decide,fun g1 H3 s3 d3=>⟨by decide,fun p hp=>?_⟩⟩;have h13:Is4 H3 g1 (jbP f0):=Is4.neg d3 h02.2;refine jb4 hp fun H4 s4 d4=>?_;refine⟨acc,p,_,_,rfl,rfl,s4 _ _ (s3 _ _ e2),d4,xa2 (jaM (by rw[xaa];simp;omega)),fun PL hPL=>?_⟩;rw[show as.map V.ref++[V.ref g0,V.ref g1]=(as++[g0,g1]).map V.ref by rw[xap];rfl];refine jb4 hPL fun J0 s5 d5=>⟨PL,rfl,⟨_,SqL.of d5⟩,?_⟩;have s35:=s3.trans (s4.trans s5);have s05:=s1.trans (s2.trans s35);have hS:Sps J0 (as++[g0,g1]) (gs++[f0,jbP f0]):=(hgs.keep s35.t).app (.cons (h02.keep s35) (.cons (h13.keep (s4.trans s5)) .nil));have fgc:∀F∈gs++[f0,jbP f0],gl [F.x,F.y,F.z,F.w]=1/\¬(F.x=0/\F.y=0/\F.z=0):=fun F hF=>by
    have neg:∀{f:Pt},(gl [f.x,f.y,f.z,f.w]=1/\¬(f.x=0/\f.y=0/\f.z=0))->gl [(jbP f).x,(jbP f).y,(jbP f).z,(jbP f).w]=1/\¬((jbP f).x=0/\(jbP f).y=0/\(jbP f).z=0):=fun {f} h=>⟨(jhl f).trans h.1,fun ⟨a,b,c⟩=>h.2 ⟨xa0.mp a,xa0.mp b,xa0.mp c⟩⟩;rcases xay.mp hF with h | h
    . obtain⟨j,hj,rfl⟩:=jb8 h
      rw[pg j (by rw[xaa];omega)];exact neg (fg _ (jaI (by omega)))
    . rcases xam.mp h with rfl | h
      . exact⟨hf0.g1,hf0.nz⟩
      . rw[xaC.mp h]
        exact neg ⟨hf0.g1,hf0.nz⟩
  have eL:gs=fs.map jbP:=by
    refine List.ext_getElem (by rw[xaa];omega) fun j h1 h2=>?_;have hj:j<fs.length:=by rw[xaa] at h2;exact h2
    have h:=pg j (by rw[xaa];omega);unfold pt at h;rw[xab,xab,xac h1,xac hj] at h;rw[List.getElem_map];exact h
  have eC:gs++[f0,jbP f0]=jpq fs f0:=by rw[eL];rfl
  have lall:(gs++[f0,jbP f0]).length=(as++[g0,g1]).length:=hS.len.symm;refine jbC (K:=K) (a:=PL) (xs:=(as++[g0,g1]).map V.ref) (fun i σ J=>Same J0 J/\∃o5:Option V,σ=[some (.ref a),some (.ref b),some (.ref e),some (.ref l),some (.ref g0),o5]/\∀j,j<i->ptB (pt (gs++[f0,jbP f0]) j) ps qs o=false) ⟨Same.refl _,none,rfl,fun _ h=>absurd h (xa8 _)⟩ (fun i σ J _ h=>SqL.of (h.1 _ _ d5)) ?_ ?_
  . rintro i v σ J hi ⟨sJ,o5,rfl,hz⟩
    have il:i<(gs++[f0,jbP f0]).length:=by have:=(xae.mp hi).1;rw[xaa] at this;omega
    obtain⟨b1,b2⟩:=(hS.keep sJ.t).get il;rw[b1] at hi;cases hi;have sA:=s05.trans sJ;have n8:=fp.n8;have m8:=fq.n8;walk_at "rf";refine⟨_,a,b,e,_,o,ps,qs,rfl,b2,ha.keep sA,hb.keep sA,he.keep sA,by omega,by omega,?_⟩;refine⟨_,rfl,?_⟩;cases hB:ptB (pt (gs++[f0,jbP f0]) i) ps qs o with
    | false =>
      rw[if_neg (by decide)];refine⟨sJ,fun j hj=>?_⟩;rcases xbK j i with c | c
      . exact hz j c
      . rw[show j=i by omega]
        exact hB
    | true =>
      rw[if_pos rfl];have:=fgc _ (jaI il);exact q _ _ _ sA b2 ⟨this.1,this.2,hB⟩ ⟨f0,hf0,.inl ⟨i,by rw[<- eC];exact il,by rw[<- eC],hB,fun j hj=>by rw[<- eC];exact hz j hj⟩⟩
  . rintro σ J ⟨sJ,o5,rfl,hz⟩
    rw[xaa,<- lall] at hz;have no:∀F∈gs++[f0,jbP f0],ptB F ps qs o=false:=fun F hF=>by
      obtain⟨j,hj,rfl⟩:=jb8 hF;exact hz j hj
    have sA:=s05.trans sJ;walk_at "rf";refine⟨a,b,e,ps,qs,o,rfl,ha.keep sA,hb.keep sA,he.keep sA,fp,fq,bo,?_,fun g H' f s' hg tf pr=>q g H' f (sA.trans s') hg tf ⟨f0,hf0,.inr ⟨by rw[<- eC];exact no,pr⟩⟩⟩;rcases ex f0 hf0 with ⟨f,hf,h⟩ | h | h | h
    . obtain⟨j,hj,rfl⟩:=jb8 hf
      have:=no (pt gs j) (xbO _ (jaI (by omega)));rw[pg j (by rw[xaa];omega),h] at this;cases this
    . rw[no f0 (by simp)] at h
      cases h
    . rw[no (jbP f0) (by simp)] at h
      cases h
    . exact h
theorem PyF.fg {fs:List Pt} (h:PyF s qs fs):FcG fs:=by
 have tw:∀{f:Pt} {l:List Pt} {r:Pt},PlF r f->gl [(ttw f l).x,(ttw f l).y,(ttw f l).z,(ttw f l).w]=1/\¬((ttw f l).x=0/\(ttw f l).y=0/\(ttw f l).z=0):=fun {f l r} h=>by
  unfold ttw;split
  ·exact⟨h.g1,h.nz⟩
  ·exact⟨(jhl f).trans h.g1,fun ⟨a,b,c⟩=>h.nz ⟨xa0.mp a,xa0.mp b,xa0.mp c⟩⟩
 obtain⟨f0,gs,rfl,h0,l,hs⟩:=h;intro f hf;rcases xam.mp hf with rfl | hf
 ·exact tw h0
 ·obtain⟨j,hj,rfl⟩:=jb8 hf;obtain⟨f,h1,h2⟩:=hs j (by omega);rw[h2];exact tw h1
theorem RR.inv {α β:Type} {f:α->β} {l:List α} {m:List β} (h:RR (l.map f) m):∃l',RR l l'/\m=l'.map f:=by
  generalize hl:l.map f=L at h;induction h with
  | refl=>exact⟨l,.refl _,hl.symm⟩
  | rot k h ih =>
    obtain⟨l',h1,rfl⟩:=ih;exact⟨l'.drop k++l'.take k,.rot k h1,by rw[xap,xbM,xbF]⟩
  | rev h ih =>
    obtain⟨l',h1,rfl⟩:=ih;exact⟨l'.reverse,.rev h1,xbS.symm⟩
structure Scn (Z:Sht) (vs:List Tri) (ps:List Pt) (s:Pt):Prop where
 hw:1<=Z.w
 nz:Z.u.nz
 R:Rng vs
 n8:vs.length<=8
 rr:RR (vs.map (spt Z)) ps
 bp:∀p∈ps,SpB p
 fr:hgP (nP Z) s≠0
theorem jka (Z:Sht) (v:Tri) (f:Pt):rG Z v*hgP f (spt Z v)=hgP f (jaE Z v):=by
 obtain⟨e1,e2,e3,e4⟩:=ja0 Z v;unfold hgP hgt jaE;simp only;rw[<- e1,<- e2,<- e3,<- e4];grind
theorem jhR {v:Tri} (hw:1<=Z.w) (hv:1<=v.z) (f:Pt):(0<hgP f (spt Z v)↔0<hgP f (jaE Z v))/\(0<=hgP f (spt Z v)↔0<=hgP f (jaE Z v))/\(hgP f (spt Z v)<=0↔hgP f (jaE Z v)<=0) :=
 sg2 (ja7 hw hv) (show (0:Int)<1 by decide) (by rw[jka,xbG])
theorem rg_sc (s A B P:Pt) (k m:Int):hgP (rgQ s ⟨k*A.x,k*A.y,k*A.z,k*A.w⟩ ⟨m*B.x,m*B.y,m*B.z,m*B.w⟩) P=k*m*hgP (rgQ s A B) P:=by
 simp only[jbT,jaY];grind
theorem jck (Z:Sht) (v:Tri):jaE Z v=⟨rG Z v*(spt Z v).x,rG Z v*(spt Z v).y,rG Z v*(spt Z v).z,rG Z v*(spt Z v).w⟩:=by
 obtain⟨e1,e2,e3,e4⟩:=ja0 Z v;rw[e1,e2,e3,e4];rfl
theorem jkb (Z:Sht) (s P:Pt) (a b:Tri):rG Z a*rG Z b*hgP (rgQ s (spt Z a) (spt Z b)) P=hgP (rgQ s (jaE Z a) (jaE Z b)) P:=by
 rw[jck Z a,jck Z b,rg_sc]
theorem jkc (Z:Sht) (a b c:Tri) (P:Pt):rG Z a*rG Z b*rG Z c*hgP (rgQ (spt Z a) (spt Z b) (spt Z c)) P=Z.w*Z.w*dt a b c*hgP (nP Z) P:=by
 have e0:=jjq Z a b c;have e1:=jjr Z a b c;have e2:=jjs Z a b c;have e3:=jos Z a b c;unfold hgP rgQ nP hgt;simp only;unfold w3 at e0 e1 e2;unfold ud at e3;generalize rG Z a*rG Z b*rG Z c=g at *
 generalize jaL 0 (spt Z a) (spt Z b) (spt Z c)=x0 at *
 generalize jaL 1 (spt Z a) (spt Z b) (spt Z c)=x1 at *
 generalize jaL 2 (spt Z a) (spt Z b) (spt Z c)=x2 at *
 generalize jaL 3 (spt Z a) (spt Z b) (spt Z c)=x3 at *
 grind
theorem Scn.ord (h:Scn Z vs ps s):∃us,RR vs us/\ps=us.map (spt Z)/\us.length=vs.length/\ps.length=vs.length:=by
 obtain⟨us,h1,h2⟩:=h.rr.inv;exact⟨us,h1,h2,h1.len,by rw[h2,xaa,h1.len]⟩
theorem Scn.mem (h:Scn Z vs ps s) :p∈ps↔∃v∈vs,p=spt Z v:=by
 rw[h.rr.mem,xah];exact⟨fun ⟨v,a,b⟩=>⟨v,a,b.symm⟩,fun ⟨v,a,b⟩=>⟨v,a,b.symm⟩⟩
theorem Scn.na (h:Scn Z vs ps s):¬jbp (pt ps 0) (pt ps 1) (pt ps 2):=jjV h.hw h.nz h.R (by have:=h.n8;omega) h.rr
theorem Scn.own (h:Scn Z vs ps s):∃k m:Int,0<k/\m≠0/\∀P,k*hgP (rgQ (pt ps 0) (pt ps 1) (pt ps 2)) P=m*hgP (nP Z) P:=by
 have na:=h.na;obtain⟨us,h1,h2,h3,h4⟩:=h.ord;have n3:=h.R.n3;have hz:∀i,i<us.length->1<=(tr us i).z:=fun i hi=>h.R.hz _ (h1.mem.mp (jaH hi));rw[h2,jbA (by omega),jbA (by omega),jbA (by omega)] at na |-
 have g:=xaf (xaf (ja7 (Z:=Z) (v:=tr us 0) h.hw (hz 0 (by omega))) (ja7 (Z:=Z) (v:=tr us 1) h.hw (hz 1 (by omega)))) (ja7 (Z:=Z) (v:=tr us 2) h.hw (hz 2 (by omega)));have d0:dt (tr us 0) (tr us 1) (tr us 2)≠0:=fun z=>by
  have e0:=jjq Z (tr us 0) (tr us 1) (tr us 2);have e1:=jjr Z (tr us 0) (tr us 1) (tr us 2);have e2:=jjs Z (tr us 0) (tr us 1) (tr us 2);rw[z,xaq] at e0 e1 e2;refine na ⟨(xai.mp e0).resolve_right (by omega),?_,(xai.mp e2).resolve_right (by omega)⟩;have:=(xai.mp e1).resolve_right (by omega);omega
 have ww:0<Z.w*Z.w:=xaf (by have:=h.hw;omega) (by have:=h.hw;omega);exact⟨_,_,g,xaZ (by omega) d0,fun P=>jkc Z _ _ _ P⟩
theorem Scn.fre (h:Scn Z vs ps s):Fre ps s:=by
 obtain⟨us,h1,h2,h3,h4⟩:=h.ord;have n3:=h.R.n3;have n8:=h.n8;refine⟨by omega,by omega,h.na,h.bp,fun z=>?_⟩;obtain⟨k,m,k0,m0,e⟩:=h.own;have:=e s;rw[z,xaq] at this;rcases xai.mp this.symm with q | q
 ·exact m0 q
 ·exact h.fr q
theorem Scn.edgeS (h:Scn Z vs ps s):∃(oe:Nat->Tri × Tri) (sg:Bool),(∀i,i<ps.length->oe i∈prs vs/\(if sg=true then pt ps (wrp ps.length i)=spt Z (oe i).1/\pt ps i=spt Z (oe i).2 else pt ps (wrp ps.length i)=spt Z (oe i).2/\pt ps i=spt Z (oe i).1))/\∀e∈prs vs,∃i,i<ps.length/\oe i=e:=by
  obtain⟨us,h1,h2,h3,h4⟩:=h.ord;obtain⟨sg,hsg⟩:=jlb h1;have n3:=h.R.n3;have lp:ps.length=us.length:=by omega
  rw[lp];have wl:∀{i:Nat},i<us.length->wrp us.length i<us.length:=fun h=>xaA _ (by omega);cases sg with
  | true =>
    refine⟨fun i=>(tr us (wrp us.length i),tr us i),true,fun i hi=>⟨(hsg _).mp (edg_mem.mpr ⟨i,hi,rfl⟩),?_⟩,fun e he=>?_⟩
    . rw[if_pos rfl,h2,jbA (wl hi),jbA hi]
      exact⟨rfl,rfl⟩
    . obtain⟨i,hi,e1⟩:=edg_mem.mp ((hsg e).mpr he)
      exact⟨i,hi,e1.symm⟩
  | false =>
    refine⟨fun i=>(tr us i,tr us (wrp us.length i)),false,fun i hi=>⟨(hsg (tr us (wrp us.length i),tr us i)).mp (edg_mem.mpr ⟨i,hi,rfl⟩),?_⟩,fun e he=>?_⟩
    . rw[if_neg (by decide),h2,jbA (wl hi),jbA hi]
      exact⟨rfl,rfl⟩
    . obtain⟨i,hi,e1⟩:=edg_mem.mp ((hsg (swE e)).mpr he)
      refine⟨i,hi,?_⟩;have:swE e=(tr us (wrp us.length i),tr us i):=e1;have h2:=congrArg swE this;exact h2.symm
theorem Scn.edge (h:Scn Z vs ps s):∃oe:Nat->Tri × Tri,(∀i,i<ps.length->oe i∈prs vs/\((pt ps (wrp ps.length i)=spt Z (oe i).1/\pt ps i=spt Z (oe i).2)\/(pt ps (wrp ps.length i)=spt Z (oe i).2/\pt ps i=spt Z (oe i).1)))/\∀e∈prs vs,∃i,i<ps.length/\oe i=e:=by
 obtain⟨oe,sg,a,c⟩:=h.edgeS;refine⟨oe,fun i hi=>⟨(a i hi).1,?_⟩,c⟩;have:=(a i hi).2;cases sg with
 | true=>exact .inl this
 | false=>exact .inr this
theorem jkd {F:Pt} {cs:List Pt} {h:Pt->Int} {m:Int} (hF:PlF r F) (k0:0<k) (m0:m≠0) (e:∀P,k*hgP r P=m*h P) (nn:∀c∈cs,0<=h c) (pos:∃c∈cs,0<h c):PosP (ttw F cs) h:=by
 obtain⟨g,σ,g0,s1,eg⟩:=hF.sg;have ee:∀P,g*k*hgP F P=σ*m*h P:=fun P=>by
  have h1:=eg P;have h2:=e P;grind
 have gk:=xaf g0 k0;have c0:σ*m≠0:=xaZ (by omega) m0;generalize σ*m=c at ee c0;rcases xaG c0 with c1 | c1
 ·have en:∀P,g*k*hgP (jbP F) P=-c*h P:=fun P=>by
   rw[jbd];have:=ee P;grind
  obtain⟨p,hp,pp⟩:=pos;have:¬∀c∈cs,0<=hgP F c:=fun z=>by
   have h1:=z p hp;have h2:=(sg2 gk (show 0 < -c by omega) (en p)).1.mpr pp;rw[jbd] at h2;omega
  unfold ttw;rw[if_neg this];exact⟨g*k,-c,gk,by omega,en⟩
 ·unfold ttw;rw[if_pos fun p hp=>(sg2 gk c1 (ee p)).2.1.mpr (nn p hp)];exact⟨g*k,c,gk,c1,ee⟩
theorem jl6 {fs:List Pt} (h:Scn Z ws qs s) (sw:1<=s.w) (py:PyF s qs fs):∃ε,Pyr Z s ws ε fs:=by
 obtain⟨ε,e1,es⟩:∃ε:Int,(ε=1\/ε=-1)/\0<ε*hgP (nP Z) s:=by
  rcases xaG h.fr with c | c
  ·exact⟨-1,.inr rfl,by omega⟩
  ·exact⟨1,.inl rfl,by omega⟩
 have ee:ε*ε=1:=by rcases e1 with rfl | rfl<;>rfl
 have ww:0<Z.w*Z.w:=xaf (by have:=h.hw;omega) (by have:=h.hw;omega);have ew:=xaf ww es;obtain⟨f0,gs,rfl,hf0,lg,sd⟩:=py;obtain⟨oe,o1,o2⟩:=h.edge;have n3:=h.R.n3;have p0:PosP (ttw f0 [s]) fun P=>ε*hgP (nP Z) P:=by
  obtain⟨k,m,k0,m0,e⟩:=h.own;refine jkd hf0 k0 (m:=m*ε) (xaZ m0 (by omega)) (fun P=>?_) (fun c hc=>?_) ⟨s,by simp,es⟩
  ·rw[e];grind
  ·rw[xaC.mp hc];exact xar es
 have ce:∀a b c:Tri,-ε*hgP (rgQ s (jaE Z a) (jaE Z b)) (jaE Z c)=Z.w*Z.w*(ε*hgP (nP Z) s)*dt a b c:=fun a b c=>by
  rw[je6];grind
 have pi:∀i,i<qs.length->PosP (pt gs i) fun P=>-ε*hgP (rgQ s (jaE Z (oe i).1) (jaE Z (oe i).2)) P:=fun i hi=>by
  obtain⟨f,hf,ef⟩:=sd i hi;obtain⟨om,oo⟩:=o1 i hi;rw[ef];obtain⟨k,hk,ek⟩:=jcv om;have m1:(oe i).1∈ws:=by rw[ek];exact jaH hk
  have m2:(oe i).2∈ws:=by rw[ek];exact jaH (xaA _ (by omega))
  have gg:=xaf (ja7 (Z:=Z) (v:=(oe i).1) h.hw (h.R.hz _ m1)) (ja7 (Z:=Z) (v:=(oe i).2) h.hw (h.R.hz _ m2));obtain⟨τ,t1,te⟩:∃τ:Int,(τ=1\/τ=-1)/\∀P,rG Z (oe i).1*rG Z (oe i).2*hgP (rgQ s (pt qs (wrp qs.length i)) (pt qs i)) P=τ*hgP (rgQ s (jaE Z (oe i).1) (jaE Z (oe i).2)) P:=by
   rcases oo with ⟨x,y⟩ | ⟨x,y⟩
   ·exact⟨1,.inl rfl,fun P=>by rw[x,y,jkb,xbG]⟩
   ·exact⟨-1,.inr rfl,fun P=>by
     rw[x,y,jfa,xbH,jkb];omega⟩
  refine jkd hf gg (m:=τ*-ε) (xaZ (by omega) (by omega)) (fun P=>?_) (fun c hc=>?_) ?_
  ·rw[te];generalize hgP (rgQ s (jaE Z (oe i).1) (jaE Z (oe i).2)) P=x;have:τ*-ε*(-ε*x)=τ*(ε*ε)*x:=by grind
   rw[this,ee];grind
  ·obtain⟨v,hv,rfl⟩:=h.mem.mp hc;have h1:=jka Z v (rgQ s (jaE Z (oe i).1) (jaE Z (oe i).2));have h2:rG Z v*(-ε*hgP (rgQ s (jaE Z (oe i).1) (jaE Z (oe i).2)) (spt Z v))=1*(Z.w*Z.w*(ε*hgP (nP Z) s)*dt (oe i).1 (oe i).2 v):=by
    rw[<- ce,<- h1];grind
   exact (sg2 (ja7 h.hw (h.R.hz v hv)) (by decide) h2).2.1.mpr (xag (xar ew) (h.R.own hv _ om))
  ·obtain⟨j,hj,j1,j2⟩:=jbh (n:=ws.length) (i:=k) (j:=(k+1) % ws.length) n3;have dj:=jbs h.R.tp n3 hk hj (Ne.symm j2) (Ne.symm j1);have hv:=jaH hj;refine⟨spt Z (tr ws j),h.mem.mpr ⟨_,hv,rfl⟩,?_⟩;have h1:=jka Z (tr ws j) (rgQ s (jaE Z (oe i).1) (jaE Z (oe i).2));have h2:rG Z (tr ws j)*(-ε*hgP (rgQ s (jaE Z (oe i).1) (jaE Z (oe i).2)) (spt Z (tr ws j)))=1*(Z.w*Z.w*(ε*hgP (nP Z) s)*dt (oe i).1 (oe i).2 (tr ws j)):=by
    rw[<- ce,<- h1];grind
   refine (sg2 (ja7 h.hw (h.R.hz _ hv)) (by decide) h2).1.mpr (xaf ew ?_);rw[ek];exact dj
 refine⟨ε,es,⟨_,xaN,p0⟩,fun e he=>?_,fun f hf=>?_⟩
 ·obtain⟨i,hi,rfl⟩:=o2 e he;exact⟨pt gs i,xad _ (jaI (by omega)),pi i hi⟩
 ·rcases xam.mp hf with rfl | hf
  ·exact .inl p0
  ·obtain⟨i,hi,rfl⟩:=jb8 hf;exact .inr ⟨oe i,(o1 i (by omega)).1,pi i (by omega)⟩
theorem Scn.na2 (h:Scn Z ws qs s) (sw:1<=s.w):∀i,i<qs.length->¬jbp s (pt qs (wrp qs.length i)) (pt qs i):=fun i hi ⟨z0,z1,z2⟩=>by
 obtain⟨oe,o1,o2⟩:=h.edge;obtain⟨om,oo⟩:=o1 i hi;obtain⟨k,hk,ek⟩:=jcv om;have n3:=h.R.n3;have ww:0<Z.w*Z.w:=xaf (by have:=h.hw;omega) (by have:=h.hw;omega);have f:∀P:Pt,hgP (rgQ s (pt qs (wrp qs.length i)) (pt qs i)) P=-((rgQ s (pt qs (wrp qs.length i)) (pt qs i)).w*P.w):=fun P=>by
  have e:hgP (rgQ s (pt qs (wrp qs.length i)) (pt qs i)) P=jaL 0 s (pt qs (wrp qs.length i)) (pt qs i)*P.x+-jaL 1 s (pt qs (wrp qs.length i)) (pt qs i)*P.y+jaL 2 s (pt qs (wrp qs.length i)) (pt qs i)*P.z-(rgQ s (pt qs (wrp qs.length i)) (pt qs i)).w*P.w:=rfl;rw[e,z0,z1,z2];omega
 have w0:(rgQ s (pt qs (wrp qs.length i)) (pt qs i)).w=0:=by
  have h1:=f s;rw[(jfb _ _ _).1] at h1;rcases xai.mp (show (rgQ s (pt qs (wrp qs.length i)) (pt qs i)).w*s.w=0 by omega) with q | q
  ·exact q
  ·omega
 obtain⟨j,hj,j1,j2⟩:=jbh (n:=ws.length) (i:=k) (j:=(k+1) % ws.length) n3;have dj:=jbs h.R.tp n3 hk hj (Ne.symm j2) (Ne.symm j1);have fz:hgP (rgQ s (pt qs (wrp qs.length i)) (pt qs i)) (jaE Z (tr ws j))=0:=by rw[f,w0];simp
 have rz:hgP (rgQ s (jaE Z (oe i).1) (jaE Z (oe i).2)) (jaE Z (tr ws j))=0:=by
  rw[<- jkb];rcases oo with ⟨x,y⟩ | ⟨x,y⟩
  ·rw[<- x,<- y,fz,xaq]
  ·rw[<- x,<- y,jfa,fz];simp
 rw[je6] at rz;have hd:dt (oe i).1 (oe i).2 (tr ws j)≠0:=by rw[ek];exact xbE dj
 have:=xaZ (xaZ (xbE ww) h.fr) hd;omega
theorem jfx {F:Pt} (h1:Scn Z1 vs ps s) (h2:Scn Z2 ws qs s) (a:hgP F s<=0) (b:∀v∈vs,0<=hgP F (jaE Z1 v)) (c:∀w∈ws,hgP F (jaE Z2 w)<=0):ptB F ps qs s=true:=by
 unfold ptB;rw[decide_eq_true a,decide_eq_true fun p hp=>?_,decide_eq_true fun p hp=>?_]
 ·rfl
 ·obtain⟨v,hv,rfl⟩:=h2.mem.mp hp;exact (jhR h2.hw (h2.R.hz v hv) F).2.2.mpr (c v hv)
 ·obtain⟨v,hv,rfl⟩:=h1.mem.mp hp;exact (jhR h1.hw (h1.R.hz v hv) F).2.1.mpr (b v hv)
theorem jny {g:Pt} {τ m:Int} (h1:Scn Z1 vs ps s) (h2:Scn Z2 ws qs s) (sw:1<=s.w) (c:Cnd Z1 Z2 s vs ws g τ) (k0:0<k) (m0:m≠0) (e:∀P,k*hgP r P=m*hgP g P):CdB r ps qs s:=by
 obtain⟨t0,c1,c2,P,hP⟩:=c;have tt:0<τ*τ:=by
  rcases xaG t0 with c | c
  ·exact xbz c c
  ·exact xaf c c
 have kt:=xaf k0 tt;have cc:=xaZ m0 t0;have ee:∀P,k*(τ*τ)*hgP r P=m*τ*(τ*hgP g P):=fun P=>by
  have:=e P;grind
 have part:∀{F:Pt} {d:Int},0<d->(∀P,k*(τ*τ)*hgP F P=d*(τ*hgP g P))->ptB F ps qs s=true:=fun {F d} d0 eF =>
  jfx h1 h2 ((sg2 kt d0 (eF s)).2.2.mpr (c2 s (by simp))) (fun v hv=>(sg2 kt d0 (eF _)).2.1.mpr (c1 v hv)) fun w hw=>(sg2 kt d0 (eF _)).2.2.mpr (c2 _ (xad _ (xah.mpr ⟨w,hw,rfl⟩)))
 generalize m*τ=d at ee cc;refine⟨fun ⟨x0,y0,z0⟩=>?_,?_⟩
 ·have f:∀P,hgP r P=-(r.w*P.w):=fun P=>by
   unfold hgP hgt;rw[x0,y0,z0];omega
  have w0:r.w≠0:=fun z=>by
   have h:=ee P;rw[f,z,xaK,Int.neg_zero,xaq] at h;rcases xai.mp h.symm with h | h
   ·exact cc h
   ·rcases xai.mp h with h | h
    ·exact t0 h
    ·exact hP h
  have n3:=h1.R.n3;have v0:=jaH (l:=vs) (i:=0) (by omega);have W:0<(jaE Z1 (tr vs 0)).w:=xaf (show 0<Z1.w by have:=h1.hw;omega) (show 0<(tr vs 0).z by have:=h1.R.hz _ v0;omega);have e1:=ee s;have e2:=ee (jaE Z1 (tr vs 0));rw[f] at e1 e2;have a1:=c2 s (by simp);have a2:=c1 _ v0;generalize τ*hgP g s=x at e1 a1;generalize τ*hgP g (jaE Z1 (tr vs 0))=y at e2 a2;generalize k*(τ*τ)=q at kt e1 e2;rcases xaG w0 with w1 | w1
  ·have p1:=xaf kt (show 0 < -(r.w*s.w) by have:=xaE w1 (show 0<s.w by omega);omega);have p2:=xaf kt (show 0 < -(r.w*(jaE Z1 (tr vs 0)).w) by have:=xaE w1 W;omega);rcases xaG cc with d1 | d1
   ·have:=xbs (xar d1) a2;omega
   ·have:=xaF (xar d1) a1;omega
  ·have p1:=xan kt (show -(r.w*s.w)<0 by have:=xaf w1 (show 0<s.w by omega);omega);have p2:=xan kt (show -(r.w*(jaE Z1 (tr vs 0)).w)<0 by have:=xaf w1 W;omega);rcases xaG cc with d1 | d1
   ·have:=xbW (xar d1) a1;omega
   ·have:=xag (xar d1) a2;omega
 ·rcases xaG cc with d1 | d1
  ·exact .inr (part (d:=-d) (by omega) fun P=>by
    rw[jbd];have:=ee P;grind)
  ·exact .inl (part d1 ee)
theorem jhm (Z:Sht) (a b:Tri):arr (jaE Z a) (jaE Z b)=⟨rG Z a*rG Z b*(arr (spt Z a) (spt Z b)).x,rG Z a*rG Z b*(arr (spt Z a) (spt Z b)).y,rG Z a*rG Z b*(arr (spt Z a) (spt Z b)).z,rG Z a*rG Z b*(arr (spt Z a) (spt Z b)).w⟩:=by
 rw[jck Z a,jck Z b];unfold arr;simp only
 congr 1<;>grind
theorem jpw (hw:1<=Z.w) (nz:Z.u.nz) (R:Rng vs) (he:e∈prs vs):¬((arr (spt Z e.1) (spt Z e.2)).x=0/\(arr (spt Z e.1) (spt Z e.2)).y=0/\(arr (spt Z e.1) (spt Z e.2)).z=0):=fun ⟨x0,y0,z0⟩=>by
 obtain⟨k,hk,rfl⟩:=jcv he;have n3:=R.n3;obtain⟨j,hj,j1,j2⟩:=jbh (n:=vs.length) (i:=k) (j:=(k+1) % vs.length) n3;have dj:=jbs R.tp n3 hk hj (Ne.symm j2) (Ne.symm j1);have hw2:=jgB (Z:=Z) hw (R.hz _ (jaH (xaA (k+1) (show 0<vs.length by omega))));unfold arr at x0 y0 z0;simp only at x0 y0 z0;exact je1 hw nz (xbE dj) (jju _ hw2 (by omega) (by omega) (by omega))
theorem jpx {fs:List Pt} {f0:Pt} (h1:Scn Z1 vs ps s) (h2:Scn Z2 ws qs s) (sw:1<=s.w) (py:PyF s qs fs) (z:KP (fs.map (jaT Z1)) vs=[]) (hf0:PlF (rgQ (pt ps 0) (pt ps 1) (pt ps 2)) f0):Ex1 ps qs fs f0 s:=by
 obtain⟨ε,Y⟩:=jl6 h2 sw py;have dir:∀e∈prs vs,Dir Z1 e (arr (jaE Z1 e.1) (jaE Z1 e.2)):=fun e he=>by
  refine⟨rfl,fun hz=>jpw h1.hw h1.nz h1.R he ?_,⟨-(jaE Z1 e.2).w,(jaE Z1 e.1).w,fun g=>by rw[joZ];grind⟩⟩;obtain⟨k,hk,rfl⟩:=jcv he;have gg:=xaf (ja7 (Z:=Z1) (v:=tr vs k) h1.hw (h1.R.hz _ (jaH hk))) (ja7 (Z:=Z1) (v:=tr vs ((k+1) % vs.length)) h1.hw (h1.R.hz _ (jaH (xaA _ (by omega)))));rw[jhm] at hz;exact⟨(xai.mp hz.1).resolve_left (xbE gg),(xai.mp hz.2.1).resolve_left (xbE gg),(xai.mp hz.2.2).resolve_left (xbE gg)⟩
 have fc:=Y.fcs h2.hw h2.R sw;rcases jj4 h1.hw h1.nz h2.hw h2.nz h1.R h2.R Y sw (fun e he=>⟨_,dir e he⟩) z with ⟨f,hf,h⟩ | h | h | ⟨e,he,p,q,pq,h⟩
 ·refine .inl ⟨f,hf,jfx h1 h2 ?_ (fun v hv=>?_) fun w hw=>?_⟩
  ·rw[jbd];have:=fc.nn f hf s (by simp);omega
  ·rw[jbd];have:=h v hv;omega
  ·rw[jbd];have:=fc.nn f hf _ (xad _ (xah.mpr ⟨w,hw,rfl⟩));omega
 ·obtain⟨k,m,k0,m0,e⟩:=h1.own;obtain⟨g,σ,g0,s1,eg⟩:=hf0.sg;have gk:=xaf g0 k0;have cc:σ*m≠0:=xaZ (by omega) m0;have ee:∀P,g*k*hgP f0 P=σ*m*hgP (nP Z1) P:=fun P=>by
   have h1:=eg P;have h2:=e P;grind
  generalize σ*m=c at cc ee;have en:∀P,g*k*hgP (jbP f0) P=-c*hgP (nP Z1) P:=fun P=>by
   rw[jbd];have:=ee P;grind
  rcases xaG cc with c1 | c1
  ·refine .inr (.inl (jfx h1 h2 ?_ (fun v hv=>?_) fun w hw=>?_))
   ·have:=(sg2 gk (show 0 < -c by omega) (en s)).2.1.mpr (h s (by simp));rw[jbd] at this;omega
   ·have:=(sg2 gk (show 0 < -c by omega) (en (jaE Z1 v))).2.2.mpr (by rw[jf0];exact xaW _);rw[jbd] at this;omega
   ·have:=(sg2 gk (show 0 < -c by omega) (en (jaE Z2 w))).2.1.mpr (h _ (xad _ (xah.mpr ⟨w,hw,rfl⟩)));rw[jbd] at this;omega
  ·refine .inr (.inr (.inl (jfx h1 h2 ?_ (fun v hv=>?_) fun w hw=>?_)))
   ·have:=(sg2 gk c1 (ee s)).2.1.mpr (h s (by simp));rw[jbd];omega
   ·have:=(sg2 gk c1 (ee (jaE Z1 v))).2.2.mpr (by rw[jf0];exact xaW _);rw[jbd];omega
   ·have:=(sg2 gk c1 (ee (jaE Z2 w))).2.1.mpr (h _ (xad _ (xah.mpr ⟨w,hw,rfl⟩)));rw[jbd];omega
 ·obtain⟨k,m,k0,m0,e⟩:=h1.own;obtain⟨g,σ,g0,s1,eg⟩:=hf0.sg;have gk:=xaf g0 k0;have cc:σ*m≠0:=xaZ (by omega) m0;have ee:∀P,g*k*hgP f0 P=σ*m*hgP (nP Z1) P:=fun P=>by
   have h1:=eg P;have h2:=e P;grind
  generalize σ*m=c at cc ee;have en:∀P,g*k*hgP (jbP f0) P=-c*hgP (nP Z1) P:=fun P=>by
   rw[jbd];have:=ee P;grind
  rcases xaG cc with c1 | c1
  ·refine .inr (.inr (.inl (jfx h1 h2 ?_ (fun v hv=>?_) fun w hw=>?_)))
   ·exact (sg2 gk (show 0 < -c by omega) (en s)).2.2.mpr (h s (by simp))
   ·exact (sg2 gk (show 0 < -c by omega) (en (jaE Z1 v))).2.1.mpr (by rw[jf0];exact xaW _)
   ·exact (sg2 gk (show 0 < -c by omega) (en (jaE Z2 w))).2.2.mpr (h _ (xad _ (xah.mpr ⟨w,hw,rfl⟩)))
  ·refine .inr (.inl (jfx h1 h2 ?_ (fun v hv=>?_) fun w hw=>?_))
   ·exact (sg2 gk c1 (ee s)).2.2.mpr (h s (by simp))
   ·exact (sg2 gk c1 (ee (jaE Z1 v))).2.1.mpr (by rw[jf0];exact xaW _)
   ·exact (sg2 gk c1 (ee (jaE Z2 w))).2.2.mpr (h _ (xad _ (xah.mpr ⟨w,hw,rfl⟩)))
 ·refine .inr (.inr (.inr ?_));obtain⟨τ,cn⟩:=h _ (dir e he);obtain⟨oe,o1,o2⟩:=h1.edge;obtain⟨j,hj,rfl⟩:=o2 e he;obtain⟨om,oo⟩:=o1 j hj;obtain⟨k,hk,ek⟩:=jcv om;have m1:(oe j).1∈vs:=by rw[ek];exact jaH hk
  have m2:(oe j).2∈vs:=by rw[ek];exact jaH (xaA _ (by omega))
  have gg:=xaf (ja7 (Z:=Z1) (v:=(oe j).1) h1.hw (h1.R.hz _ m1)) (ja7 (Z:=Z1) (v:=(oe j).2) h1.hw (h1.R.hz _ m2));obtain⟨d,d1,ed⟩:∃d:Int,(d=1\/d=-1)/\∀p q P,rG Z1 (oe j).1*rG Z1 (oe j).2*hgP (rgQ p q (arr (pt ps (wrp ps.length j)) (pt ps j))) P=d*hgP (rgQ p q (arr (jaE Z1 (oe j).1) (jaE Z1 (oe j).2))) P:=by
   rcases oo with ⟨x,y⟩ | ⟨x,y⟩
   ·refine⟨1,.inl rfl,fun p q P=>?_⟩;rw[x,y,jhm,jgH,xbG]
   ·refine⟨-1,.inr rfl,fun p q P=>?_⟩;rw[x,y,jhm,jgH];have:arr (spt Z1 (oe j).2) (spt Z1 (oe j).1)=⟨-1*(arr (spt Z1 (oe j).1) (spt Z1 (oe j).2)).x,-1*(arr (spt Z1 (oe j).1) (spt Z1 (oe j).2)).y,-1*(arr (spt Z1 (oe j).1) (spt Z1 (oe j).2)).z,-1*(arr (spt Z1 (oe j).1) (spt Z1 (oe j).2)).w⟩:=by
     unfold arr;simp only
     congr 1<;>grind
    rw[this,jgH];grind
  obtain⟨oe2,o3,o4⟩:=h2.edge;have lq:qs.length=ws.length:=(h2.ord).elim fun _ h=>h.2.2.2;obtain⟨i,hi,kk,mm,kk0,mm0,ei⟩:∃i,i<2*qs.length/\∃kk mm:Int,0<kk/\mm≠0/\∀D P,kk*hgP (rgQ (pyE s qs i).1 (pyE s qs i).2 D) P=mm*hgP (rgQ p q D) P:=by
   have sc1:∀(u v D P:Pt) (x y:Int),hgP (rgQ ⟨x*u.x,x*u.y,x*u.z,x*u.w⟩ ⟨y*v.x,y*v.y,y*v.z,y*v.w⟩ D) P=x*y*hgP (rgQ u v D) P:=fun u v D P x y=>by
    simp only[jbT,jaY];grind
   have sc2:∀(u v D P:Pt) (y:Int),hgP (rgQ u ⟨y*v.x,y*v.y,y*v.z,y*v.w⟩ D) P=y*hgP (rgQ u v D) P:=fun u v D P y=>by
    simp only[jbT,jaY];grind
   rcases pq with ⟨rfl,c,hc,rfl⟩ | ⟨e',he',rfl,rfl⟩
   ·obtain⟨i,hi,ei⟩:=jb8 (h2.mem.mpr ⟨c,hc,rfl⟩);refine⟨i,by omega,rG Z2 c,1,ja7 h2.hw (h2.R.hz c hc),by decide,fun D P=>?_⟩;unfold pyE;rw[if_pos hi];simp only;rw[ei,jck Z2 c,sc2,xbG]
   ·obtain⟨i,hi,rfl⟩:=o4 e' he';obtain⟨om2,oo2⟩:=o3 i hi;obtain⟨k2,hk2,ek2⟩:=jcv om2;have x1:(oe2 i).1∈ws:=by rw[ek2];exact jaH hk2
    have x2:(oe2 i).2∈ws:=by rw[ek2];exact jaH (xaA _ (by omega))
    have gg2:=xaf (ja7 (Z:=Z2) (v:=(oe2 i).1) h2.hw (h2.R.hz _ x1)) (ja7 (Z:=Z2) (v:=(oe2 i).2) h2.hw (h2.R.hz _ x2));have ey:pyE s qs (qs.length+i)=(pt qs (wrp qs.length i),pt qs i):=by
     unfold pyE;rw[if_neg (by omega),show qs.length+i-qs.length=i by omega]
    rcases oo2 with ⟨x,y⟩ | ⟨x,y⟩
    ·refine⟨qs.length+i,by omega,_,1,gg2,by decide,fun D P=>?_⟩;rw[ey];simp only;rw[x,y,jck Z2 (oe2 i).1,jck Z2 (oe2 i).2,sc1,xbG]
    ·refine⟨qs.length+i,by omega,_,-1,gg2,by decide,fun D P=>?_⟩;rw[ey];simp only;rw[x,y,jck Z2 (oe2 i).1,jck Z2 (oe2 i).2,sc1,jj2];grind
  refine⟨i,j,hi,hj,?_⟩;unfold rqh;refine jny h1 h2 sw cn (k:=kk*(rG Z1 (oe j).1*rG Z1 (oe j).2)) (m:=mm*d) (xaf kk0 gg) (xaZ mm0 (by omega)) fun P=>?_;have a1:=ei (arr (pt ps (wrp ps.length j)) (pt ps j)) P;have a2:=ed p q P;generalize rG Z1 (oe j).1*rG Z1 (oe j).2=G at a2;generalize hgP (rgQ (pyE s qs i).1 (pyE s qs i).2 (arr (pt ps (wrp ps.length j)) (pt ps j))) P=X at a1;generalize hgP (rgQ p q (arr (pt ps (wrp ps.length j)) (pt ps j))) P=Y at a1 a2;generalize hgP (rgQ p q (arr (jaE Z1 (oe j).1) (jaE Z1 (oe j).2))) P=W at a2;grind
theorem jl7 (ps:List Pt) (o:Pt):hov ps o=(pt ps 0).w*(pt ps 0).w*hgP (rgQ (pt ps 0) (pt ps 1) (pt ps 2)) o:=by
 unfold hov dot3 upr cr3 jf4;rw[jbT];unfold jaY;simp only;grind
structure ShL (Z:Sht):Prop where
 s:Z.s.le 310000000
 c:Z.c.le 20000000
 d:Z.d.le 20000000
 w:Z.w=1
 nz:Z.u.nz
theorem ShB.l {d:Int} (h:ShB d Z) (l:d<=1000000):ShL Z:=⟨ja4 h.s (by omega),ja4 h.c (by omega),ja4 h.d (by omega),h.w,h.nz⟩
theorem jcw {b:Int} (h1:-a<=x) (h2:x<=a) (h3:-b<=y) (h4:y<=b):-(a*b)<=x*y/\x*y<=a*b:=by
 have h:=Int.natAbs_mul x y;have k1:x.natAbs<=a.natAbs:=by omega
 have k2:y.natAbs<=b.natAbs:=by omega
 have k3:=Nat.mul_le_mul k1 k2;rw[<- h,<- Int.natAbs_mul] at k3;have:0<=a*b:=xag (by omega) (by omega);omega
theorem ShL.crn {v:Tri} (h:ShL Z) (x:-4<=v.x/\v.x<=4) (y:-4<=v.y/\v.y<=4):(crn Z v).le 480000000:=by
 obtain⟨⟨s1,s2⟩,⟨s3,s4⟩,s5,s6⟩:=h.s;obtain⟨⟨c1,c2⟩,⟨c3,c4⟩,c5,c6⟩:=h.c;obtain⟨⟨d1,d2⟩,⟨d3,d4⟩,d5,d6⟩:=h.d;have a1:=jcw x.1 x.2 c1 c2;have a2:=jcw x.1 x.2 c3 c4;have a3:=jcw x.1 x.2 c5 c6;have b1:=jcw y.1 y.2 d1 d2;have b2:=jcw y.1 y.2 d3 d4;have b3:=jcw y.1 y.2 d5 d6;exact⟨⟨by show _<=_+_;omega,by show _+_<=_;omega⟩,⟨by show _<=_+_;omega,by show _+_<=_;omega⟩,by show _<=_+_;omega,by show _+_<=_;omega⟩
structure RowG (vs:List Tri):Prop where
 R:Rng vs
 n8:vs.length<=8
 pl:∀{v:Tri},v∈vs->(-4<=v.x/\v.x<=4)/\(-4<=v.y/\v.y<=4)/\v.z=1
theorem jpy (h:n<9):RowG (je7 n):=⟨jlj h,(jeq n h).2,fun hv=>jhk h hv⟩
theorem RowG.vf (G:RowG vs):VF vs:=VF.six G.R fun v hv=>by
 have:=G.pl hv;unfold Tri.bd Bd;omega
theorem ShB.crn {d:Int} {v:Tri} (h:ShB d Z) (l:d<=1000000) (x:-4<=v.x/\v.x<=4) (y:-4<=v.y/\v.y<=4):(crn Z v).le 9000000:=by
 obtain⟨⟨s1,s2⟩,⟨s3,s4⟩,s5,s6⟩:=ja4 h.s l;obtain⟨⟨c1,c2⟩,⟨c3,c4⟩,c5,c6⟩:=ja4 h.c l;obtain⟨⟨d1,d2⟩,⟨d3,d4⟩,d5,d6⟩:=ja4 h.d l;have a1:=jcw x.1 x.2 c1 c2;have a2:=jcw x.1 x.2 c3 c4;have a3:=jcw x.1 x.2 c5 c6;have b1:=jcw y.1 y.2 d1 d2;have b2:=jcw y.1 y.2 d3 d4;have b3:=jcw y.1 y.2 d5 d6;exact⟨⟨by show _<=_+_;omega,by show _+_<=_;omega⟩,⟨by show _<=_+_;omega,by show _+_<=_;omega⟩,by show _<=_+_;omega,by show _+_<=_;omega⟩
theorem jpz {u:Tri} {d:Int} (h:u.le d) (l:d<=500000000):u.bd 60:=by
 obtain⟨⟨a,b⟩,⟨c,e⟩,f,g⟩:=h;unfold Tri.bd Bd;omega
def jc0:List Pt->Pt
 | []=>⟨0,0,0,0⟩
 | p::l=>⟨p.x+(jc0 l).x,p.y+(jc0 l).y,p.z+(jc0 l).z,p.w+(jc0 l).w⟩
theorem jke (f:Pt):∀l:List Pt,hgP f (jc0 l)=(l.map (hgP f)).sum
  | []=>by unfold jc0 hgP hgt;simp
  | p :: l => by
    have:=jke f l;rw[xaS,xce,<- this];show hgP f ⟨p.x+(jc0 l).x,p.y+(jc0 l).y,p.z+(jc0 l).z,p.w+(jc0 l).w⟩=_;generalize jc0 l=q;unfold hgP hgt;simp only;grind
def c4 (p:Pt) (k:Nat):Int:=if k=0 then p.x else if k=1 then p.y else if k=2 then p.z else p.w
theorem at4 {k:Nat} (h:k<4):atI [V.int p.x,V.int p.y,V.int p.z,V.int p.w] (0+(k:Int))=some (V.int (c4 p k)):=by
 have:k=0\/k=1\/k=2\/k=3:=by omega
 rcases this with rfl | rfl | rfl | rfl<;>rfl
theorem jl8 (l:List Pt) (k:Nat):(l.map fun p=>c4 p k).sum=c4 (jc0 l) k:=by
  induction l with
  | nil=>unfold jc0 c4;simp
  | cons p l ih =>
    rw[xaS,xce,ih];show _=c4 ⟨p.x+(jc0 l).x,p.y+(jc0 l).y,p.z+(jc0 l).z,p.w+(jc0 l).w⟩ k;generalize jc0 l=q;unfold c4;simp only;split
    . rfl
    . split
      . rfl
      . split<;>rfl
theorem jl9 :∀{l:List Pt},(∀p∈l,p.bd n)->∀m,l.length<=2^m->(jc0 l).bd (n+m+1):=by
  intro l h m hm;have one:∀(g:Pt->Int),(∀p∈l,Bd n (g p))->((l.map g).sum).natAbs<=l.length*2^n:=fun g hg=>by
    clear h hm;induction l with
    | nil=>simp
    | cons p l ih =>
      have h1:=ih fun q hq=>hg q (xad _ hq);have h2:=hg p (by simp);rw[xaS,xce,xaw,Nat.add_mul,Nat.one_mul];unfold Bd at h2;omega
  have fin:∀{x:Int},x.natAbs<=l.length*2^n->Bd (n+m+1) x:=fun {x} hx=>by
    unfold Bd;have:l.length*2^n<=2^m*2^n:=Nat.mul_le_mul_right _ hm;rw[<- Nat.pow_add] at this;refine xa7 (xaX hx this) (Nat.pow_lt_pow_right (by decide) (by omega))
  have e:∀k,(l.map fun p=>c4 p k).sum=c4 (jc0 l) k:=jl8 l;exact⟨fin (by have:=one (fun p=>c4 p 0) (fun p hp=>(h p hp).1);rw[e] at this;exact this),fin (by have:=one (fun p=>c4 p 1) (fun p hp=>(h p hp).2.1);rw[e] at this;exact this),fin (by have:=one (fun p=>c4 p 2) (fun p hp=>(h p hp).2.2.1);rw[e] at this;exact this),fin (by have:=one (fun p=>c4 p 3) (fun p hp=>(h p hp).2.2.2);rw[e] at this;exact this)⟩
theorem jkf:∀{l:List Pt},(∀p∈l,1<=p.w)->l≠[]->1<=(jc0 l).w
  | [p],h,_=>by have:=h p (by simp);show 1<=p.w+0;omega
  | p :: q :: l, h, _ => by
    have h1:=h p (by simp);have h2:=jkf (l:=q::l) (fun x hx=>h x (xad _ hx)) (by simp);show 1<=p.w+(jc0 (q::l)).w;omega
theorem jhS (h:r.bd n):(jbO r).bd n:=by
 unfold jbO;split
 ·exact⟨Bd.div h.1.neg,Bd.div h.2.1.neg,Bd.div h.2.2.1.neg,Bd.div h.2.2.2.neg⟩
 ·exact⟨Bd.div h.1,Bd.div h.2.1,Bd.div h.2.2.1,Bd.div h.2.2.2⟩
inductive spSwi (vs:List V) (H:Hp) (Q:VK):Prop
 | mk (b:Addr) (ps:List Pt) (_:vs=[.ref b]) (_:BM H b ps) (_:1<=ps.length) (_:ps.length<=17) (_:(∀p∈ps,p.bd 322/\1<=p.w)) (_:∀(g:Addr) (H':Hp),Same H H'->Is4 H' g (jbO (jc0 ps))->Q (.ref g) H')
def spSw:Sp:=fun vs H Q _=>spSwi vs H Q
theorem ok_sw (T:Tx K mg t1 t2) (F:At K mg "spot_within" jcf ["board"] []) (dS:jal P w K mg base CX0 3 "made_spot" ["x","y","z","w"] [] jmW):jal P w K mg base CX0 4 "spot_within" ["board"] [] spSw:=by
 refine F.ok jc7 (by walk_at "ar") (fun f cdv A outer s H vs Q E hr h=>?_);obtain⟨b,ps,rfl,⟨rs,hb,hs⟩,n1,n17,bp,q⟩:=h;have S:=jc7;refine⟨_,(jag (jbG (i:=1) rfl S.nd rfl rfl (N':=["k","board"]) (ix:=[0]) (by walk_at "cs") (jaO rfl T.m_range (jaa jab jac jaj)) (fun _ _ _ _=>jas (i:=0) (show (["k","board"]:List Str).Nodup from by decide +kernel) rfl (Or.inr rfl)) (fun _ _ _ _=>jaW) (fun _ _ _ _=>(jaB (jgt (K:=K) rfl rfl) rfl T.m_sum boot_sum (jaa (jaX rfl (N':=["corner","k"]) (ix:=[0]) (CompScopeC.nest rfl rfl (by decide +kernel) (by decide +kernel) (by decide +kernel) (show ∀y:Str × NameKind,y∈_->y.2=NameKind.free->y.1∈(["k"]:List Str) from by decide +kernel) (.cons rfl (.inl rfl) rfl .nil)) (jmD (K:=K) rfl (pv 1)) (fun _ _ _ _=>jas (i:=0) (show (["corner","k"]:List Str).Nodup from by decide +kernel) rfl (Or.inl rfl)) (fun _ _ _ _=>jaW) (fun _ _ _ _=>(jam (jaZ (K:=K) rfl) (pv 0) (pv 1)))) jac jdu))))
  (jah (jan (jae dS hr.m rfl jaq (jaa (jam ix_list (pv 1) jab) (jaa (jam ix_list (pv 1) jab) (jaa (jam ix_list (pv 1) jab) (jaa (jam ix_list (pv 1) jab) jac jau) jau) jau) jau))))),?_⟩
 have lr:=hs.len;have rng:∀g:Pt->Int,(List.range ps.length).map (fun i=>g (pt ps i))=ps.map g:=fun g=>by
  refine List.ext_getElem (by simp) fun j h1 h2=>?_;have hj:j<ps.length:=by simpa using h1
  simp;unfold pt;rw[xab,xac hj];rfl
 have sb0:=jl9 (fun p hp=>(bp p hp).1) 5 (by omega);have w1:1<=(jc0 ps).w:=jkf (fun p hp=>(bp p hp).2) fun z=>by rw[z] at n1;exact absurd n1 (by decide)
 walk_at "rf";refine⟨by decide,by decide,fun acc hacc=>?_⟩;refine jh5 (n:=4) (fun k=>.int (c4 (jc0 ps) k)) (by decide) hacc (fun k H3 R hk s3 hR=>?_) (fun H' s' e'=>?_)
 ·walk_at "rf";refine⟨⟨_,SqT.of (s3 _ _ hb)⟩,fun acc2 hacc2=>?_⟩;refine jpl (fun i=>c4 (pt ps i) k) (by rw[xaa];omega) hacc2 (SqT.of (s3 _ _ hb)) (fun i z H4 R4 hz s4 hR4=>?_) (fun H4 s4 e4=>?_)
  ·have il:i<ps.length:=by have:=(xae.mp hz).1;rw[xaa] at this;omega
   obtain⟨b1,b2⟩:=(hs.keep (s3.trans s4).t).get il;rw[b1] at hz;cases hz;walk_at "rf";exact ixT b2.sq (at4 hk) (hR4 _ (Same.refl _))
  ·rw[xaa,lr,rng fun p=>c4 p k] at e4;refine⟨ps.map fun p=>c4 p k,?_⟩;refine⟨SqL.of e4,?_⟩;rw[jl8];exact hR _ s4
 ·have kS:SqL K H' acc [.int (jc0 ps).x,.int (jc0 ps).y,.int (jc0 ps).z,.int (jc0 ps).w]:=SqL.of e';try walk_at "rf"
  exact ixL kS rfl (ixL kS rfl (ixL kS rfl (ixL kS rfl ⟨jc0 ps,rfl,⟨Bd.mono sb0.1,Bd.mono sb0.2.1,Bd.mono sb0.2.2.1,Bd.mono sb0.2.2.2⟩,(jhS sb0).sm' (by decide),by omega,fun g H2 s2 hg=>q g H2 (s'.trans s2) hg⟩)))
def jf3 (ps:List Pt):Pt:=jbO (jc0 ps)
def farP (f s:Pt) (ps:List Pt):Pt:=jbO (jcR f.x f.y f.z f.w s (jf3 ps))
theorem jhT {m1 m2:Nat} {z v:Int} {o:Pt} (hx:Bd n x) (hy:Bd n y) (hz:Bd n z) (hv:Bd n v) (hp:p.bd m1) (ho:o.bd m2):(jcR x y z v p o).bd (n+m1+m2+3):=by
 have h1:=jfr hx hy hz hv hp;have h2:=jfr hx hy hz hv ho;have t:∀{i j:Int},Bd m1 i->Bd m2 j->Bd (n+m1+m2+2+1) (hgt x y z v o*i-hgt x y z v p*j):=fun hi hj=>Bd.sub (Bd.mono (Bd.mul h2 hi) (by omega)) (Bd.mono (Bd.mul h1 hj) (by omega));exact⟨t hp.1 ho.1,t hp.2.1 ho.2.1,t hp.2.2.1 ho.2.2.1,t hp.2.2.2 ho.2.2.2⟩
inductive spSti (vs:List V) (H:Hp) (Q:VK):Prop
 | mk (a b e:Addr) (ps qs:List Pt) (s:Pt) (_:vs=[.ref a,.ref b,.ref e]) (_:BM H a ps) (_:1<=ps.length) (_:ps.length<=17) (_:(∀p∈ps,p.bd 322/\1<=p.w)) (_:BM H b qs) (_:Fre qs s) (_:Is4 H e s) (_:SpC s) (_:(∀f,PlF (rgQ (pt qs 0) (pt qs 1) (pt qs 2)) f->(jcR f.x f.y f.z f.w s (jf3 ps)).w≠0)) (_:∀(t gn gf:Addr) (H':Hp) (f:Pt),Same H H'->H' t=some (.tup [.ref gn,.ref gf])->PlF (rgQ (pt qs 0) (pt qs 1) (pt qs 2)) f->Is4 H' gn (jf3 ps)->Is4 H' gf (farP f s ps)->(jf3 ps).bd 328->(farP f s ps).bd 620->Q (.ref t) H')
def spSt:Sp:=fun vs H Q _=>spSti vs H Q
theorem ok_st (T:Tx K mg t1 t2) (F:At K mg "sight_through" jbL ["shown","other","spot"] []) (Do:jal P w K mg base CX0 4 "spot_within" ["board"] [] spSw) (dh:jal P w K mg base CX0 6 "plane_of" ["board"] [] jb7) (dY:jal P w K mg base CX0 4 "met_at" ["plane","one","other"] [] jmY):jal P w K mg base CX0 7 "sight_through" ["shown","other","spot"] [] spSt:=by
 refine F.ok jct (by walk_at "ar") (fun f cdv A outer s H vs Q E hr h=>?_);obtain⟨a,b,e,ps,qs,o,rfl,ha,n1,n17,bp,hb,fq,he,bo,mw,q⟩:=h;have S:=jct;refine⟨_,(jag (jat (i:=3) S.nd rfl (Or.inl rfl) (jae Do hr.m rfl jaq (jaa (pv 0) jac jad)))
  (jah (jan (ja1 (jaa (pv 3) (jaa (jae dY hr.m rfl jaq (jaa (jae dh hr.m rfl jaq (jaa (pv 1) jac jad)) (jaa (pv 2) (jaa (pv 3) jac jad) jad) jaG)) jac jaG) jad))))),?_⟩
 have bs:=jhS (jl9 (fun p hp=>(bp p hp).1) 5 (by omega));walk_at "rf";refine⟨a,ps,rfl,ha,n1,n17,bp,fun g H1 s1 hg=>?_⟩;try walk_at "rf"
 refine jcj (hb.keep s1) fq.n3 fq.na fq.bp fun gp H2 f s2 hf pb hp=>?_;refine⟨137,328,gp,e,g,f.x,f.y,f.z,f.w,o,jf3 ps,rfl,by decide,hp.1,pb.bd.1,pb.bd.2.1,pb.bd.2.2.1,pb.bd.2.2.2,he.keep (s1.trans s2),hg.keep s2,⟨Bd.mono bo.bd.1,Bd.mono bo.bd.2.1,Bd.mono bo.bd.2.2.1,Bd.mono bo.bd.2.2.2⟩,bs,mw f hf,(jhS (jhT pb.bd.1 pb.bd.2.1 pb.bd.2.2.1 pb.bd.2.2.2 bo.bd bs)).sm' (by decide),fun gf H3 s3 hf3=>?_⟩;refine⟨by decide,fun t ht=>?_⟩;have s4:=Same.new ht (.tup [.ref g,.ref gf]);exact q t g gf _ f (s1.trans (s2.trans (s3.trans s4))) jak hf (hg.keep (s2.trans (s3.trans s4))) (hf3.keep s4) bs ((fun h=>⟨Bd.mono h.1,Bd.mono h.2.1,Bd.mono h.2.2.1,Bd.mono h.2.2.2⟩:(farP f o ps).bd 543->(farP f o ps).bd 620) (jhS (jhT pb.bd.1 pb.bd.2.1 pb.bd.2.2.1 pb.bd.2.2.2 bo.bd bs)))
theorem VF.kp:∀(ls:List Ln) {vs:List Tri},VF vs->(∀l∈ls,Bd 145 l.A/\Bd 145 l.B/\Bd 145 l.C)->KP ls vs≠[]->VF (KP ls vs)
  | [],_,F,_,_=>F
  | l :: ls, vs, F, h, n => by
    have hl:=h l (by simp);have up:∃v∈vs,0<hf l v:=xau fun q=>n (by
      show KP ls (UP (hf l) vs)=[];rw[je3 q,jgG])
    exact VF.kp ls (F.up hl.1 hl.2.1 hl.2.2 up) (fun m hm=>h m (xad _ hm)) n
theorem jlk (k0:0<k) (h:0<k*x):0<x:=by
 rcases xaL 0 x with c | c
 ·exact c
 ·have:=xaF (xar k0) c;omega
theorem jhU (h:1<=r.w):∃k:Int,0<k/\∀g,k*hgP g (jbO r)=hgP g r:=by
 have dv:∀{x:Int},x∈[r.x,r.y,r.z,r.w]->x / gl [r.x,r.y,r.z,r.w]*gl [r.x,r.y,r.z,r.w]=x:=fun hx=>xa3 (jaR hx);have e1:=dv (x:=r.x) (by simp);have e2:=dv (x:=r.y) (by simp);have e3:=dv (x:=r.z) (by simp);have e4:=dv (x:=r.w) (by simp);have g0:0<gl [r.x,r.y,r.z,r.w]:=jco (n:=r.w) (by simp) (by omega);refine⟨gl [r.x,r.y,r.z,r.w],g0,fun g=>?_⟩;unfold jbO;rw[if_neg (by omega)];generalize gl [r.x,r.y,r.z,r.w]=k at *
 unfold hgP hgt;simp only;generalize r.x / k=a at *
 generalize r.y / k=b at *
 generalize r.z / k=c at *
 generalize r.w / k=d at *
 rw[<- e1,<- e2,<- e3,<- e4];grind
theorem jkg {α:Type} {g:α->Int}:∀{l:List α},(∀x∈l,0<=g x)->(∃x∈l,0<g x)->0<(l.map g).sum
  | [],_,⟨_,h,_⟩=>nomatch h
  | x :: l, h, e => by
    have nn:∀{l:List α},(∀x∈l,0<=g x)->0<=(l.map g).sum:=fun {l} h=>by
      induction l with
      | nil=>simp
      | cons y l ih =>
        have h1:=h y (by simp);have h2:=ih fun z hz=>h z (xad _ hz);rw[xaS,xce];omega
    rw[xaS,xce];have h1:=h x (by simp);have h2:=nn fun z hz=>h z (xad _ hz);obtain⟨y,hy,p⟩:=e;rcases xam.mp hy with rfl | hy
    . omega
    . have:=jkg (fun z hz=>h z (xad _ hz)) ⟨y,hy,p⟩
      omega
theorem jhV {fs cs:List Pt} (h1:Scn Z1 vs ps s) (nz:KP (fs.map (jaT Z1)) vs≠[]) (rc:RR ((KP (fs.map (jaT Z1)) vs).map (spt Z1)) cs):1<=(jc0 cs).w/\∀f,(∀u∈KP (fs.map (jaT Z1)) vs,0<=hf (jaT Z1 f) u)->(∃q:Tri,hf (jaT Z1 f) q≠0)->0<hgP f (jf3 cs):=by
 rcases jnh (fs.map (jaT Z1)) h1.R with z | ⟨U,reg,ln⟩
 ·exact absurd z nz
 generalize KP (fs.map (jaT Z1)) vs=us at *
 have cm:∀{c:Pt},c∈cs↔∃u∈us,c=spt Z1 u:=fun {c}=>by
  rw[rc.mem,xah];exact⟨fun ⟨u,a,b⟩=>⟨u,a,b.symm⟩,fun ⟨u,a,b⟩=>⟨u,a,b.symm⟩⟩
 have cw:∀c∈cs,1<=c.w:=fun c hc=>by
  obtain⟨u,hu,rfl⟩:=cm.mp hc;exact jgB h1.hw (U.hz u hu)
 have ne:cs≠[]:=fun z=>by
  have n3:=U.n3;have:=cm.mpr ⟨_,jaH (l:=us) (i:=0) (by omega),rfl⟩;rw[z] at this;cases this
 have w1:=jkf cw ne;refine⟨w1,fun f nn ⟨q,hq⟩=>?_⟩;obtain⟨k,k0,ek⟩:=jhU w1;obtain⟨cz,_,cp⟩:=U.cen;have c0:=cp _ _ _ nn ⟨q,hq⟩;have ex:∃u∈us,0<hf (jaT Z1 f) u:=xau fun no=>by
  have:=cp (-(jaT Z1 f).A) (-(jaT Z1 f).B) (-(jaT Z1 f).C) (fun u hu=>by
   have:¬0<hf (jaT Z1 f) u:=fun p=>no ⟨u,hu,p⟩;unfold hf at this;unfold jax at *
   grind) ⟨q,fun z=>hq (by
    unfold hf;unfold jax at *
    grind)⟩
  unfold jax at this c0;grind
 have:=jkg (g:=hgP f) (l:=cs) (fun c hc=>by
  obtain⟨u,hu,rfl⟩:=cm.mp hc;exact (jhR h1.hw (U.hz u hu) f).2.1.mpr (by rw[<- jdc];exact nn u hu)) (by
  obtain⟨u,hu,p⟩:=ex;exact⟨_,cm.mpr ⟨u,hu,rfl⟩,(jhR h1.hw (U.hz u hu) f).1.mpr (by rw[<- jdc];exact p)⟩)
 rw[<- jke,<- ek f] at this;exact jlk k0 this
theorem jnz {fs cs:List Pt} (h1:Scn Z1 vs ps s) (nz:KP (fs.map (jaT Z1)) vs≠[]) (rc:RR ((KP (fs.map (jaT Z1)) vs).map (spt Z1)) cs):1<=(jc0 cs).w/\∀f∈fs,0<hgP f (jf3 cs):=by
 rcases jnh (fs.map (jaT Z1)) h1.R with z | ⟨U,reg,ln⟩
 ·exact absurd z nz
 ·exact⟨(jhV h1 nz rc).1,fun f hf0=>(jhV h1 nz rc).2 f (fun u hu=>((reg u (U.hz u hu)).mp (U.own hu)).2 _ (xah.mpr ⟨f,hf0,rfl⟩)) (ln _ (xah.mpr ⟨f,hf0,rfl⟩))⟩
theorem met_w {fs cs:List Pt} (h1:Scn Z1 vs ps s) (h2:Scn Z2 ws qs s) (sw:1<=s.w) (py:PyF s qs fs) (nz:KP (fs.map (jaT Z1)) vs≠[]) (rc:RR ((KP (fs.map (jaT Z1)) vs).map (spt Z1)) cs) (hf0:PlF (rgQ (pt qs 0) (pt qs 1) (pt qs 2)) f):(jcR f.x f.y f.z f.w s (jf3 cs)).w≠0:=by
 obtain⟨ε,Y⟩:=jl6 h2 sw py;obtain⟨_,nf⟩:=jnz h1 nz rc;generalize jf3 cs=N at *
 have yin:=yy_in (Z:=Z2) (s:=s) (P:=N) (ε:=ε) h2.R fun e he=>by
  obtain⟨F,hF,a⟩:=Y.fe e he;exact (a.sg N).1.mp (nf F hF)
 have yr:=joY Z2 s N ε ⟨0,0,0,-1⟩;have gw:∀X:Pt,hgP ⟨0,0,0,-1⟩ X=X.w:=fun X=>by
  unfold hgP hgt;simp only;omega
 rw[gw,gw,gw] at yr;have rw0:0<(jaE Z2 (yy Z2 s N ε)).w:=xaf (show 0<Z2.w by have:=h2.hw;omega) (show 0<(yy Z2 s N ε).z by omega);obtain⟨k,m,k0,m0,e⟩:=h2.own;obtain⟨g,σ,g0,s1,eg⟩:=hf0.sg;intro z;have z:hgP f N*s.w-hgP f s*N.w=0:=z;have eN:k*g*hgP f N=σ*m*hgP (nP Z2) N:=by
  have:=eg N;have:=e N;grind
 have es:k*g*hgP f s=σ*m*hgP (nP Z2) s:=by
  have:=eg s;have:=e s;grind
 have sm:σ*m≠0:=xaZ (by omega) m0;have q:σ*m*(hgP (nP Z2) N*s.w-hgP (nP Z2) s*N.w)=0:=by
  have:σ*m*(hgP (nP Z2) N*s.w-hgP (nP Z2) s*N.w)=k*g*(hgP f N*s.w-hgP f s*N.w):=by grind
  rw[this,z,xaq]
 rcases xai.mp q with q | q
 ·exact sm q
 ·have:ε*hgP (nP Z2) s*N.w-ε*hgP (nP Z2) N*s.w=0:=by
   have:ε*hgP (nP Z2) s*N.w-ε*hgP (nP Z2) N*s.w=-ε*(hgP (nP Z2) N*s.w-hgP (nP Z2) s*N.w):=by grind
   rw[this,q,xaq]
  rw[this,xaq] at yr;omega
inductive spEyi (vs:List V) (H:Hp) (Q:VK):Prop
 | mk (L:Addr) (d:Int) (_:vs=[.ref L,.int d]) (_:Purs H L) (_:4<=d) (_:d<=1000000) (_:∀(g:Addr) (H':Hp) (p:Pt),SameB L H H'->Purs H' L->Is4 H' g p->SpB p->p.bd 21->gl [p.x,p.y,p.z,p.w]=1->Q (.ref g) H')
def spEy:Sp:=fun vs H Q _=>spEyi vs H Q
theorem ok_ey (T:Tx K mg t1 t2) (F:At K mg "_law_eye" jdZ ["purse","wide"] []) (dC:jal P w K mg base CX0 2 "_law_spot" ["numbers","w"] [] (jhj K)) (di:jal P w K mg base CX0 2 "_law_arrow" ["purse","wide"] [] spAr) (de:jal P w K mg base CX0 1 "_law_take" ["purse","many"] [] jdq):jal P w K mg base CX0 3 "_law_eye" ["purse","wide"] [] spEy:=by
 refine F.ok jeX (by walk_at "ar") (fun f cdv A outer s H vs Q E hr h=>?_);obtain⟨L,d,rfl,pu,d4,d6,q⟩:=h;have S:=jeX;refine⟨_,(jah (jan (jae dC hr.m rfl jaq (jaa (jae di hr.m rfl jaq (jaa (pv 0) (jaa (jap jar jab (pv 1)) jac ja2) jad)) (jaa (jam ix_list (jaQ (jaa jab (jaa jab (jaa jab (jaa jab jac jaj) jaj) jaj) jaj)) (jae de hr.m rfl jaq (jaa (pv 0) (jaa jab jac jaj) jad))) jac jau) jaG)))),?_⟩;walk_at "rf";refine⟨Bd.fit (n:=10) (by unfold Bd;decide),Bd.fit (n:=30) (by unfold Bd;omega),L,2*d,rfl,pu,by omega,by omega,fun g H1 u s1 p1 n1 gL e1 ul=>⟨by decide,fun p hp=>?_⟩⟩;have s2:=Same.new hp (.lst [V.int 1,V.int 1,V.int 2,V.int 7]);obtain⟨r,hL,r0⟩:=p1;have pL:p≠L:=fun z=>by rw[z,hL] at hp;cases hp
 refine⟨L,4,rfl,⟨r,s2 _ _ hL,r0⟩,by decide,by decide,fun H2 t s3 p3 t0 t4=>?_⟩;have kp:SqL K H2 p [V.int 1,V.int 1,V.int 2,V.int 7]:=SqL.of (s3 _ _ pL jak);have s13:SameB L H H2:=s1.trans (s2.b.trans s3);have eg:A3 H2 g u:=s3 _ _ gL (s2 _ _ e1);have go:∀w:Int,1<=w->w<=7->jhj K [V.ref g,V.int w] H2 Q E0:=fun w w1 w7=>by
  obtain⟨b1,b2,b3⟩:=ul;have g0:0<gl [u.x,u.y,u.z,w]:=jco (n:=w) (by simp) (by omega);have e4:=xa3 (jaR (ns:=[u.x,u.y,u.z,w]) (n:=w) (by simp));have sb:SpB ⟨u.x / gl [u.x,u.y,u.z,w],u.y / gl [u.x,u.y,u.z,w],u.z / gl [u.x,u.y,u.z,w],w / gl [u.x,u.y,u.z,w]⟩:=by
   refine⟨Bd.div (by unfold Bd;omega),Bd.div (by unfold Bd;omega),Bd.div (by unfold Bd;omega),Bd.div (by unfold Bd;omega),?_⟩;show 1<=w / gl [u.x,u.y,u.z,w];generalize gl [u.x,u.y,u.z,w]=k at *
   have:0<w / k:=jlk g0 (by rw[xaI,e4];omega);omega
  refine⟨g,u.x,u.y,u.z,w,rfl,A3.l3 eg,by omega,Bd.fit (n:=10) (by unfold Bd;omega),fun g4 H4 s4 e5=>q g4 H4 (spP w u) (s13.trans s4.b) ?_ ⟨e5,sb.sm⟩ sb ⟨Bd.div (by unfold Bd;omega),Bd.div (by unfold Bd;omega),Bd.div (by unfold Bd;omega),Bd.div (by unfold Bd;omega)⟩ (jjg (ns:=[u.x,u.y,u.z,w]) (by omega))⟩;obtain⟨r3,h3,r30⟩:=p3;exact⟨r3,s4 _ _ h3,r30⟩
 have t3:t=0\/t=1\/t=2\/t=3:=by omega
 rcases t3 with rfl | rfl | rfl | rfl
 ·exact ixL kp rfl (go 1 (by decide) (by decide))
 ·exact ixL kp rfl (go 1 (by decide) (by decide))
 ·exact ixL kp rfl (go 2 (by decide) (by decide))
 ·exact ixL kp rfl (go 7 (by decide) (by decide))
structure ShM (Z:Sht):Prop where
 s:Z.s.le 300000000
 c:Z.c.le 20000000
 d:Z.d.le 20000000
 w:Z.w=1
 nz:Z.u.nz
theorem ShB.m {d:Int} (h:ShB d Z) (l:d<=1000000):ShM Z:=⟨ja4 h.s (by omega),ja4 h.c (by omega),ja4 h.d (by omega),h.w,h.nz⟩
theorem ShM.l (h:ShM Z):ShL Z:=⟨ja4 h.s (by omega),h.c,h.d,h.w,h.nz⟩
def mvS (Z:Sht) (t:Tri):Sht:=⟨⟨Z.s.x+t.x,Z.s.y+t.y,Z.s.z+t.z⟩,Z.w,Z.c,Z.d⟩
theorem ShB.mv {d:Int} {t:Tri} (h:ShB d Z) (l:d<=1000000) (b:t.le 200000000):ShM (mvS Z t):=by
 refine⟨?_,ja4 h.c (by omega),ja4 h.d (by omega),h.w,h.nz⟩;obtain⟨⟨a1,a2⟩,⟨a3,a4⟩,a5,a6⟩:=h.s;obtain⟨⟨b1,b2⟩,⟨b3,b4⟩,b5,b6⟩:=b;unfold Tri.le mvS;simp only;omega
def wS (w:Int) (Z:Sht):Sht:=⟨Z.s,w,Z.c,Z.d⟩
def wV (w:Int) (v:Tri):Tri:=⟨v.x,v.y,w⟩
theorem jpA {v:Tri} {w:Int} (w1:1<=w):spP w (crn Z v)=spt (wS w Z) (wV w v):=by
 have e1:rX (wS w Z) (wV w v)=w*(crn Z v).x:=by unfold rX crn wS wV;simp only;grind
 have e2:rY (wS w Z) (wV w v)=w*(crn Z v).y:=by unfold rY crn wS wV;simp only;grind
 have e3:rZ (wS w Z) (wV w v)=w*(crn Z v).z:=by unfold rZ crn wS wV;simp only;grind
 have e4:rW (wS w Z) (wV w v)=w*w:=rfl;have g:gl [w*(crn Z v).x,w*(crn Z v).y,w*(crn Z v).z,w*w]=w*gl [(crn Z v).x,(crn Z v).y,(crn Z v).z,w]:=jjt (k:=w) (by omega) [(crn Z v).x,(crn Z v).y,(crn Z v).z,w];unfold spP spt rG;rw[e1,e2,e3,e4,g]
 congr 1<;>exact (Int.mul_ediv_mul_of_pos _ _ (by omega)).symm
theorem jpB {u:Tri} {w:Int} (w1:1<=w) (w3:w<=3) (h:u.le 480000000):SpB (spP w u):=by
 obtain⟨⟨a,b⟩,⟨c,d⟩,e,f⟩:=h;have g0:0<gl [u.x,u.y,u.z,w]:=jco (n:=w) (by simp) (by omega);have e4:=xa3 (jaR (ns:=[u.x,u.y,u.z,w]) (n:=w) (by simp));refine⟨Bd.div (by unfold Bd;omega),Bd.div (by unfold Bd;omega),Bd.div (by unfold Bd;omega),Bd.div (by unfold Bd;omega),?_⟩;show 1<=w / gl [u.x,u.y,u.z,w];generalize gl [u.x,u.y,u.z,w]=k at *
 have:0<w / k:=jlk g0 (by rw[xaI,e4];omega);omega
structure Sce (w:Int) (Z:Sht) (vs us:List Tri):Prop where
 w1:1<=w
 w3:w<=3
 M:ShM Z
 G:RowG vs
 rr:RR (vs.map (crn Z)) us
theorem Sce.R {w:Int} (h:Sce w Z vs us):Rng (vs.map (wV w)):=by
 refine⟨by rw[xaa];exact h.G.R.n3,fun i j k ij jk kl=>?_,fun v hv=>?_⟩
 ·rw[xaa] at kl;rw[jfv (by omega),jfv (by omega),jfv (by omega)];have p:=h.G.R.tp i j k ij jk kl;have z1:=(h.G.pl (jaH (l:=vs) (i:=i) (by omega))).2.2;have z2:=(h.G.pl (jaH (l:=vs) (i:=j) (by omega))).2.2;have z3:=(h.G.pl (jaH (l:=vs) (i:=k) (by omega))).2.2;have w1:=h.w1;generalize tr vs i=a at *
  generalize tr vs j=b at *
  generalize tr vs k=c at *
  have e:dt (wV w a) (wV w b) (wV w c)=w*dt a b c:=by
   unfold dt jaY wV;simp only;rw[z1,z2,z3];grind
  rw[e];exact xaf (by omega) p
 ·obtain⟨u,_,rfl⟩:=xah.mp hv;exact h.w1
theorem Sce.bp {w:Int} (h:Sce w Z vs us):∀p∈us.map (spP w),SpB p:=fun p hp=>by
 obtain⟨u,hu,rfl⟩:=xah.mp hp;obtain⟨v,hv,rfl⟩:=xah.mp (h.rr.mem.mp hu);exact jpB h.w1 h.w3 (h.M.l.crn (h.G.pl hv).1 (h.G.pl hv).2.1)
theorem Sce.rs {w:Int} (h:Sce w Z vs us):RR ((vs.map (wV w)).map (spt (wS w Z))) (us.map (spP w)):=by
 have r:=h.rr.map (spP w);rw[xb8] at r |-
 rw[show vs.map (spt (wS w Z)∘wV w)=vs.map (spP w∘crn Z) from xch fun v _=>(jpA h.w1).symm];exact r
theorem Sce.len {w:Int} (h:Sce w Z vs us):3<=(us.map (spP w)).length/\(us.map (spP w)).length<=8:=by
 have:=h.rr.len;have:=h.G.R.n3;have:=h.G.n8;rw[xaa] at *
 omega
theorem Sce.scn {w:Int} (h:Sce w Z vs us) (fr:hov (us.map (spP w)) s≠0):Scn (wS w Z) (vs.map (wV w)) (us.map (spP w)) s:=by
 have R:=h.R;have rs:=h.rs;have hw:1<=(wS w Z).w:=h.w1;refine⟨hw,h.M.nz,R,by rw[xaa];exact h.G.n8,rs,h.bp,?_⟩;intro z;obtain⟨ws,h1,h2⟩:=rs.inv;have n3:=R.n3;have lw:=h1.len;have e:=jkc (wS w Z) (tr ws 0) (tr ws 1) (tr ws 2) s;rw[z,xaq] at e;have hz:∀i,i<ws.length->1<=(tr ws i).z:=fun i hi=>R.hz _ (h1.mem.mp (jaH hi));have g:=xaf (xaf (ja7 (Z:=wS w Z) (v:=tr ws 0) hw (hz 0 (by omega))) (ja7 (Z:=wS w Z) (v:=tr ws 1) hw (hz 1 (by omega)))) (ja7 (Z:=wS w Z) (v:=tr ws 2) hw (hz 2 (by omega)));have e0:=(xai.mp e).resolve_left (xbE g);refine fr ?_;rw[jl7,h2,jbA (by omega),jbA (by omega),jbA (by omega),e0,xaq]
theorem Sce.vf {w:Int} (h:Sce w Z vs us):VF (vs.map (wV w)):=VF.six h.R fun v hv=>by
 obtain⟨u,hu,rfl⟩:=xah.mp hv;have:=h.G.pl hu;have:=h.w1;have:=h.w3;unfold wV Tri.bd Bd;simp only;omega
theorem jfy {u:Tri} {m:Int} (h:u.le m) (l:m.natAbs<2^n):u.bd n:=by
 obtain⟨⟨a,b⟩,⟨c,d⟩,e,f⟩:=h;unfold Tri.bd Bd;omega
theorem Bdw3 {w:Int} (w1:1<=w) (w3:w<=3):Bd 2 w:=by unfold Bd;omega
theorem Sce.sp {w:Int} (h:Sce w Z vs us):∀v:Tri,v.bd 291->(spt (wS w Z) v).bd 322:=fun v b=>by
 have bs:=jfy (n:=29) h.M.s (by decide);have bc:=jfy (n:=25) h.M.c (by decide);have bd':=jfy (n:=25) h.M.d (by decide);have bw:=Bdw3 h.w1 h.w3;have t:∀{a c d:Int},Bd 29 a->Bd 25 c->Bd 25 d->Bd 322 (a*v.z+w*(v.x*c+v.y*d)):=fun {a c d} h1 h2 h3=>Bd.mono (n:=320+1) (Bd.add (Bd.mono (n:=29+291) (Bd.mul h1 b.2.2)) (Bd.mono (n:=2+(316+1)) (Bd.mul bw (Bd.add (Bd.mul b.1 h2) (Bd.mul b.2.1 h3)))));refine⟨Bd.div (t bs.1 bc.1 bd'.1),Bd.div (t bs.2.1 bc.2.1 bd'.2.1),Bd.div (t bs.2.2 bc.2.2 bd'.2.2),Bd.div ?_⟩;exact Bd.mono (n:=2+291) (Bd.mul bw b.2.2)
theorem Sce.ok {w:Int} (h:Sce w Z vs us):∀f,PB f->PlOk (wS w Z) f:=fun f pb=>by
 have bs:=jfy (n:=29) h.M.s (by decide);have bc:=jfy (n:=25) h.M.c (by decide);have bd':=jfy (n:=25) h.M.d (by decide);have bw:=Bdw3 h.w1 h.w3;refine⟨⟨Bd.mono pb.bd.1,Bd.mono pb.bd.2.1,Bd.mono pb.bd.2.2.1,Bd.mono pb.bd.2.2.2⟩,?_,?_,?_⟩
 ·show Bd 145 (lnA (wS w Z) f.x f.y f.z);unfold lnA;exact Bd.mono (n:=2+(111+25+2)) (Bd.mul bw (jjN pb.1.1 pb.1.2 pb.2.1 bc.1 bc.2.1 bc.2.2))
 ·show Bd 145 (lnB (wS w Z) f.x f.y f.z);unfold lnB;exact Bd.mono (n:=2+(111+25+2)) (Bd.mul bw (jjN pb.1.1 pb.1.2 pb.2.1 bd'.1 bd'.2.1 bd'.2.2))
 ·show Bd 145 (lnC (wS w Z) f.x f.y f.z f.w);unfold lnC;exact Bd.mono (n:=142+1) (Bd.sub (jjN pb.1.1 pb.1.2 pb.2.1 bs.1 bs.2.1 bs.2.2) (Bd.mono (n:=137+2) (Bd.mul pb.2.2 bw)))
def inner:Stmt->Stmt
 | .ClassDef (body:=b) ..=>b.getD 0 (.Pass ⟨0,0,0,0⟩)
 | s=>s
abbrev jkh:Stmt:=top 5
abbrev jcl:Stmt:=inner jkh
theorem jhW:FnScope ["self","board"] ["self","board"] (jai jcl):=by walk_at "sc"
structure Tc (K:PySem.W.Frag) (mg:Str->Option Value) (t1 t2:Tok) (cs:Nat->Addr) (S fN C:Addr):Prop extends Tx K mg t1 t2 where
 m_ValueError:mg "ValueError"=none
 m_SightError:mg "SightError"=some (.ref S)
 m_NotFree:mg "NotFree"=some (.ref C)
 m_NoBoard:mg "NoBoard"=some (.ref (cs 0))
 m_NoPlane:mg "NoPlane"=some (.ref (cs 1))
 m_NoSpot:mg "NoSpot"=some (.ref (cs 2))
 m_NoText:mg "NoText"=some (.ref (cs 3))
 o_NotFree:ExcI K C fN "ValueError" "ValueError.__new__" "ValueError.__init__" [.type "ValueError",.type "Exception",.type "BaseException",.type "object"]
 xc:XCls K C
 xa:XAttr K C "board"
 em:PySem.W.exmOne K (.ref C) (.ref S)=some true
 kF:PySem.W.kitOne K (.ref C) (.ref C)=some true
 kV:PySem.W.kitOne K (.ref C) (.type "ValueError")=some true
 kO:∀c∈(List.range 4).map cs,PySem.W.kitOne K (.ref C) (.ref c)=some false
variable {cs:Nat->Addr}
theorem Tc.r_NotFree {C:Addr} (_:Tc K mg t1 t2 cs S fN C):RelV (.ref C) (.ref C):=rfl
theorem Tc.r_NoBoard {C:Addr} (_:Tc K mg t1 t2 cs S fN C):RelV (.ref (cs 0)) (.ref (cs 0)):=rfl
theorem Tc.r_NoPlane {C:Addr} (_:Tc K mg t1 t2 cs S fN C):RelV (.ref (cs 1)) (.ref (cs 1)):=rfl
theorem Tc.r_NoSpot {C:Addr} (_:Tc K mg t1 t2 cs S fN C):RelV (.ref (cs 2)) (.ref (cs 2)):=rfl
theorem Tc.r_NoText {C:Addr} (_:Tc K mg t1 t2 cs S fN C):RelV (.ref (cs 3)) (.ref (cs 3)):=rfl
def jma (f:Str) (C:Addr):Sp:=fun vs H Q _=>∃(a:Addr) (n:Int),vs=[.ref a,.int n]/\H a=some (jkj a C)/\∀dx,H dx=none->Q .non (upd (upd H dx (.xd [(f,.int n)])) a (jio a C dx))
theorem jll {fd:FuncData} {C:Addr} (T:Tc K mg t1 t2 cs SE fN C) (F:FunD K "__init__" "NotFree.__init__" jcl fN fd .none):FnOk P w K mg base CX0 1 fN fd ["self","board"] (jma "board" C):=by
 refine F.ok jhW (fun vs H Q E h=>?_) (fun cdv A outer s H vs Q E hr h=>?_)
 ·obtain⟨a,n,rfl,_⟩:=h;rfl
 obtain⟨a,n,rfl,ha,q⟩:=h;have S:=jhW;refine⟨_,jah (jmG (pv 0) (pv 1)),?_⟩;exact⟨_,rfl,_,rfl,a,C,rfl,ha,T.xa,fun dx hd=>q dx hd⟩
def NE (H:Hp) (E:XK) (C:Addr) (k:Int):Prop:=∀dx H',Same H H'->H' dx=some (.xd [("board",.int k)])->E (.ref C) (some dx) H'
theorem NE.keep {C:Addr} (h:NE H E C k) (s:Same H H1):NE H1 E C k:=fun dx H' s' e=>h dx H' (s.trans s') e
theorem NE.go {C q dx:Addr} (h:NE H E C k) (s1:Same H H1) (hq:H1 q=none) (hd:upd H1 q (jkj q C) dx=none):E (.ref C) (some dx) (del (upd (upd (upd H1 q (jkj q C)) dx (.xd [("board",.int k)])) q (jio q C dx)) q):=by
 have dq:dx≠q:=fun c=>by rw[c,jak] at hd;cases hd
 have hd1:H1 dx=none:=by rw[jaw dq] at hd;exact hd
 refine h dx _ (fun c o hc=>?_) ?_
 ·have h1:=s1 c o hc;have cq:c≠q:=fun z=>by rw[z,hq] at h1;cases h1
  have cd:c≠dx:=fun z=>by rw[z,hd1] at h1;cases h1
  rw[jeI cq,jaw cq,jaw cd,jaw cq];exact h1
 ·rw[jeI dq,jaw dq];exact jak
def DrB (ps:List Pt):Prop:=∃(w:Int) (Z:Sht) (vs us:List Tri),Sce w Z vs us/\ps=us.map (spP w)
theorem Sce.na {w:Int} (h:Sce w Z vs us):¬jbp (pt (us.map (spP w)) 0) (pt (us.map (spP w)) 1) (pt (us.map (spP w)) 2):=jjV (Z:=wS w Z) h.w1 h.M.nz h.R (by rw[xaa];have:=h.G.n8;omega) h.rs
theorem hov_z {o:Pt} (w0:1<=(pt ps 0).w):hov ps o=0↔hgP (rgQ (pt ps 0) (pt ps 1) (pt ps 2)) o=0:=by
 rw[jl7];constructor
 ·intro h;exact (xai.mp h).resolve_left (xbE (xaf (by omega) (by omega)))
 ·intro h;rw[h,xaq]
theorem PlF.zz (h:PlF r f) {P:Pt}:hgP f P=0↔hgP r P=0:=by
 constructor
 ·intro z;exact xau fun n=>h.ne n z
 ·intro z;obtain⟨g,σ,g0,s1,e⟩:=h.sg;have:=e P;rw[z,xaq] at this;exact (xai.mp this).resolve_left (by omega)
def BL (H:Hp) (bs:List Addr) (pss:List (List Pt)):Prop:=bs.length=pss.length/\∀(i:Nat) (ps:List Pt),pss[i]?=some ps->BM H (ad bs i) ps
variable {pss:List (List Pt)}
theorem BL.keep {bs:List Addr} (h:BL H bs pss) (s:Same H H'):BL H' bs pss:=⟨h.1,fun i ps hi=>(h.2 i ps hi).keep s⟩
inductive spFnfi (vs:List V) (H:Hp) (Q:VK):Prop
 | mk (l e:Addr) (bs:List Addr) (pss:List (List Pt)) (o:Pt) (_:vs=[.ref l,.ref e]) (_:H l=some (.lst (bs.map V.ref))) (_:BL H bs pss) (_:(∀ps∈pss,DrB ps)) (_:Is4 H e o) (_:((∀ps∈pss,hov ps o≠0)->∀H',Same H H'->Q .non H')) (_:∀(k:Nat) (ps:List Pt),pss[k]?=some ps->hov ps o=0->(∀(j:Nat) (qs:List Pt),j<k->pss[j]?=some qs->hov qs o≠0)->∀H',Same H H'->Q (.int k) H')
def jnA:Sp:=fun vs H Q _=>spFnfi vs H Q
theorem jpC (T:Tx K mg t1 t2) (F:At K mg "first_not_free" jbw ["boards","spot"] []) (dh:jal P w K mg base CX0 6 "plane_of" ["board"] [] jb7) (df:jal P w K mg base CX0 2 "side_of" ["plane","spot"] [] jeb):jal P w K mg base CX0 7 "first_not_free" ["boards","spot"] [] jnA:=by
 refine F.ok jb5 (by walk_at "ar") (fun f cdv A outer s H vs Q E hr h=>?_);obtain⟨l,e,bs,pss,o,rfl,hl,hb,br,he,q0,q1⟩:=h;have S:=jb5;refine⟨_,(jag (jbe PassesOwn.never rfl (jmE rfl T.m_enumerate (jaa (pv 0) jac jad)) (jiy rfl (jbq (jas (i:=2) S.nd rfl (Or.inl rfl)) (jbq (jas (i:=3) S.nd rfl (Or.inl rfl)) jeu)))
  (jah (jaV (jav jek (jae df hr.m rfl jaq (jaa (jae dh hr.m rfl jaq (jaa (pv 3) jac jad)) (jaa (pv 1) jac jad) jaG)) jab (jaC _))
  (jah (jan (pv 2)))
  jaz)))
  (jah (jan jcm))),?_⟩
 walk_at "rf";refine⟨⟨_,SqL.of hl⟩,jkH (K:=K) (a:=l) (xs:=bs.map V.ref) (fun i σ J=>Same H J/\(∀(j:Nat) (qs:List Pt),j<i->pss[j]?=some qs->hov qs o≠0)/\∃(o3 o4:Option V),σ=[some (.ref l),some (.ref e),o3,o4]) ⟨fun _ _ h=>h,fun _ _ h=>absurd h (xa8 _),none,none,rfl⟩ (fun i σ J _ h=>SqL.of (h.1 _ _ hl)) ?_ ?_⟩
 ·rintro i x σ J T' hx ⟨sJ,nz,o3,o4,rfl⟩ hT;have il:i<bs.length:=by have:=(xae.mp hx).1;rw[xaa] at this;exact this
  rw[jbm il] at hx;cases hx;have ip:i<pss.length:=by have:=hb.1;omega
  obtain⟨ps,ep⟩:∃ps,pss[i]?=some ps:=⟨_,xac ip⟩;obtain⟨w,Z,vs,us,sc,rfl⟩:=br ps (xaD ep);have hc:=hb.2 i _ ep;have n3:=sc.len.1;refine jb4 hT fun J1 uT eT=>?_;have s2:=sJ.trans uT;walk_at "rf";refine⟨_,SqT.of eT,rfl,_,_,rfl,_,_,rfl,rfl,?_⟩;refine jcj (hc.keep s2) n3 sc.na sc.bp fun g J2 f s3 hf pb hg=>?_;have sm:=hg.2.small;have w0:=(sc.bp _ (jaI (l:=us.map (spP w)) (i:=0) (by omega))).w1;refine⟨g,e,f.x,f.y,f.z,f.w,o,rfl,hg.1,sm.1,sm.2.1,sm.2.2.1,sm.2.2.2,he.keep (s2.trans s3),?_⟩;try walk_at "rf"
  have zz:hgt f.x f.y f.z f.w o=0↔hov (us.map (spP w)) o=0:=hf.zz.trans (hov_z w0).symm;by_cases c:hgt f.x f.y f.z f.w o=0
  ·rw[if_pos (show sgn (hgt f.x f.y f.z f.w o)=0 by rw[c];rfl)];exact q1 i _ ep (zz.mp c) nz _ (s2.trans s3)
  ·rw[if_neg (show ¬sgn (hgt f.x f.y f.z f.w o)=0 from jpm c)];refine⟨s2.trans s3,fun j qs hj hq=>?_,_,rfl⟩;rcases xbK j i with d | d
   ·exact nz j qs d hq
   ·obtain rfl:j=i:=by omega
    rw[ep] at hq;cases hq;exact fun z=>c (zz.mpr z)
 ·rintro σ J ⟨sJ,nz,o3,o4,rfl⟩;walk_at "rf";refine q0 (fun ps hp=>?_) _ sJ;obtain⟨i,hi,rfl⟩:=xbe.mp hp;exact nz i _ (by rw[xaa,hb.1];exact hi) (xac hi)
def DueK (ps qs:List Pt) (o:Pt) (k:Int):Prop:=(k=0/\hov ps o=0)\/(k=1/\hov ps o≠0/\hov qs o=0)
theorem BL.two {a b:Addr} (ha:BM H a ps) (hb:BM H b qs):BL H [a,b] [ps,qs]:=⟨rfl,fun i us h=>by
 match i,h with
 | 0,h=>cases h;exact ha
 | 1,h=>cases h;exact hb⟩
def jlm (C:Addr):Sp:=fun vs H Q E=>∃(l e a b:Addr) (ps qs:List Pt) (o:Pt),vs=[.ref l,.ref e]/\H l=some (.lst [.ref a,.ref b])/\BM H a ps/\BM H b qs/\DrB ps/\DrB qs/\Is4 H e o/\(∀k,DueK ps qs o k->NE H E C k)/\(hov ps o≠0->hov qs o≠0->∀H',Same H H'->Q .non H')
theorem jpD {C:Addr} {fdN:FuncData} (T:Tc K mg t1 t2 cs SE fN C) (F_NotFree:FnOk P w K mg base CX0 1 fN fdN ["self","board"] (jma "board" C)) (b_NotFree:Binds K fdN ["self","board"] []) (F:At K mg "refuse_unless_free" ja8 ["boards","spot"] []) (dL:jal P w K mg base CX0 7 "first_not_free" ["boards","spot"] [] jnA):jal P w K mg base (XOk P w) 8 "refuse_unless_free" ["boards","spot"] [] (jlm C):=by
 refine F.okX jbu (fun vs H Q E h=>?_) (fun f cdv A outer s H vs Q E hr h=>?_)
 ·obtain⟨_,_,_,_,_,_,_,rfl,_⟩:=h;rfl
 obtain⟨l,e,a,b,ps,qs,o,rfl,hl,ha,hb,bp,bq,he,qk,q⟩:=h;have S:=jbu;refine⟨_,(jag (jat (i:=2) S.nd rfl (Or.inl rfl) (jae dL hr.m rfl jaq (jaa (pv 0) (jaa (pv 1) jac jad) jad)))
  (jah (jaV (jav jiF (pv 2) jcm (jaC _))
  (jah (jja rfl T.o_NotFree (jmI T.o_NotFree F_NotFree hr.m rfl T.m_NotFree b_NotFree jaq (jaa (pv 2) jac jad)) jkJ))
  jaz))),?_⟩
 try walk_at "rf"
 refine⟨l,e,[a,b],[ps,qs],o,rfl,hl,.two ha hb,fun us h=>?_,he,fun nz H1 s1=>?_,fun k us hk z nz H1 s1=>?_⟩
 ·rcases xam.mp h with rfl | h
  ·exact bp
  ·rw[xaC.mp h];exact bq
 ·exact jiT (fun _=>q (nz ps (by simp)) (nz qs (by simp)) _ s1) fun h=>absurd rfl h
 ·have dk:DueK ps qs o k:=by
   match k,hk with
   | 0,hk=>cases hk;exact .inl ⟨rfl,z⟩
   | 1,hk=>cases hk;exact .inr ⟨rfl,nz 0 _ (by decide) rfl,z⟩
  refine jiT (fun h=>by cases h) fun _=>?_;simp only[L2.job];try walk_at "rf"
  exact⟨by decide,fun p hp=>⟨p,k,rfl,jak,fun dx hd=>⟨rfl,s1.noneN hp,dx,jak,(qk k dk).go s1 hp hd⟩⟩⟩
inductive AskP (C:Addr) (H:Hp) (Q:VK) (E:XK) (a b e:Addr):Prop
 | mk (w1 w2:Int) (Z1 Z2:Sht) (vs1 vs2 us1 us2:List Tri) (o:Pt) (ha:BM H a (us1.map (spP w1))) (hb:BM H b (us2.map (spP w2))) (he:Is4 H e o) (bo:SpC o) (C1:Sce w1 Z1 vs1 us1) (C2:Sce w2 Z2 vs2 us2) (qk:∀k,DueK (us1.map (spP w1)) (us2.map (spP w2)) o k->NE H E C k) (q:hov (us1.map (spP w1)) o≠0->hov (us2.map (spP w2)) o≠0->∀v H',Same H H'->Q v H')
def spDh (C:Addr):Sp:=fun us H Q E=>∃(a b e:Addr),us=[.ref a,.ref b,.ref e]/\AskP C H Q E a b e
def spSo (C:Addr):Sp:=spDh C
theorem ok_dh {C:Addr} (T:Tc K mg t1 t2 cs SE fN C) (F:At K mg "does_hide" jdi ["one","other","spot"] []) (dz:jal P w K mg base (XOk P w) 8 "refuse_unless_free" ["boards","spot"] [] (jlm C)) (dX:jal P w K mg base CX0 7 "kept_by" ["board","planes"] [] jjU) (dO:jal P w K mg base CX0 7 "pyramid_faces" ["board","spot"] [] spPy):jal P w K mg base (XOk P w) 9 "does_hide" ["one","other","spot"] [] (spDh C):=by
 refine F.okX jed (fun vs H Q E h=>?_) (fun f cdv A outer s H vs Q E hr h=>?_)
 ·obtain⟨_,_,_,rfl,_⟩:=h;rfl
 obtain⟨a,b,e,rfl,⟨w1,w2,Z1,Z2,vs1,vs2,us1,us2,o,ha,hb,he,bo,C1,C2,qk,q⟩⟩:=h;have S:=jed;refine⟨_,(jag (jes (jae dz hr.m rfl jh4 (jaa (jaQ (jaa (pv 0) (jaa (pv 1) jac jad) jad)) (jaa (pv 2) jac jad) jbn)))
  (jah (jan (jdd jiF (jae dX hr.m rfl jaq (jaa (pv 0) (jaa (jae dO hr.m rfl jaq (jaa (pv 1) (jaa (pv 2) jac jad) jad)) jac jaG) jad)) jcm (jaC _))))),?_⟩
 walk_at "rf";refine⟨by decide,fun p hp=>?_⟩;refine jb4 hp fun H1 s1 e1=>⟨p,e,a,b,_,_,o,rfl,e1,ha.keep s1,hb.keep s1,⟨_,_,_,_,C1,rfl⟩,⟨_,_,_,_,C2,rfl⟩,he.keep s1,fun k dk=>(qk k dk).keep s1,fun f1 f2 H2 s2=>?_⟩;have h1:=C1.scn f1;have h2:=C2.scn f2;have sb:=C1.sp;have vf:=C1.vf;have ok:=C1.ok;have q9:=q f1 f2;clear C1 C2 qk q f1 f2;generalize wS w1 Z1=Z1 at *
 generalize wS w2 Z2=Z2 at *
 generalize vs1.map (wV w1)=vs at *
 generalize vs2.map (wV w2)=ws at *
 generalize us1.map (spP w1)=ps at *
 generalize us2.map (spP w2)=qs at *
 have fp:=h1.fre;have fq:=h2.fre;have ow:=bo.w1;have na:=h2.na2 ow;have s12:=s1.trans s2;refine⟨b,e,qs,o,rfl,hb.keep s12,he.keep s12,fq,bo,na,fun L H3 rs fs s3 c3 pf py=>?_⟩;have s13:=s12.trans s3;obtain⟨rsa,ha1,ha2⟩:=ha.keep s13;have lv:=h1.rr.len;rw[xaa] at lv;have n8:=fp.n8;have m8:=fq.n8;have lf:fs.length=qs.length+1:=by
  obtain⟨f0,gs,rfl,_,sf⟩:=py;rw[xaw,sf.1]
 refine⟨a,L,Z1,vs,rs,fs,rfl,h1.hw,h1.nz,sb,vf,by omega,⟨rsa,ps,ha1,ha2,h1.rr⟩,c3,fun f hf=>ok f (pf f hf),fun f H4 s4 P4=>?_⟩;rcases P4 with ⟨z,rfl⟩ | ⟨ne,r,rfl,_⟩
 ·exact q9 _ _ (s13.trans s4)
 ·exact q9 _ _ (s13.trans s4)
theorem ok_so {C:Addr} (T:Tc K mg t1 t2 cs SE fN C) (F:At K mg "sight_of" jdX ["one","other","spot"] []) (dz:jal P w K mg base (XOk P w) 8 "refuse_unless_free" ["boards","spot"] [] (jlm C)) (dO:jal P w K mg base CX0 7 "pyramid_faces" ["board","spot"] [] spPy) (dX:jal P w K mg base CX0 7 "kept_by" ["board","planes"] [] jjU) (De:jal P w K mg base CX0 7 "parting_plane" ["one","other","spot","faces"] [] spPp) (Dg:jal P w K mg base CX0 7 "sight_through" ["shown","other","spot"] [] spSt):jal P w K mg base (XOk P w) 9 "sight_of" ["one","other","spot"] [] (spSo C):=by
 refine F.okX jeV (fun vs H Q E h=>?_) (fun f cdv A outer s H vs Q E hr h=>?_)
 ·obtain⟨_,_,_,rfl,_⟩:=h;rfl
 obtain⟨a,b,e,rfl,⟨w1,w2,Z1,Z2,vs1,vs2,us1,us2,o,ha,hb,he,bo,C1,C2,qk,q⟩⟩:=h;have S:=jeV;refine⟨_,(jag (jes (jae dz hr.m rfl jh4 (jaa (jaQ (jaa (pv 0) (jaa (pv 1) jac jad) jad)) (jaa (pv 2) jac jad) jbn)))
  (jag (jat (i:=3) S.nd rfl (Or.inl rfl) (jae dO hr.m rfl jaq (jaa (pv 1) (jaa (pv 2) jac jad) jad)))
  (jag (jat (i:=4) S.nd rfl (Or.inl rfl) (jae dX hr.m rfl jaq (jaa (pv 0) (jaa (pv 3) jac jad) jad)))
  (jag (jaV (jav jiE (pv 4) jcm (jaC _))
  (jah (jan (ja1 (jaa jd7 (jaa (jae De hr.m rfl jaq (jaa (pv 0) (jaa (pv 1) (jaa (pv 2) (jaa (pv 3) jac jad) jad) jad) jad)) jac jaG) jaj))))
  jaz)
  (jag (jat (i:=5) S.nd rfl (Or.inl rfl) (jae Dg hr.m rfl jaq (jaa (pv 4) (jaa (pv 1) (jaa (pv 2) jac jad) jad) jad)))
  (jah (jan (ja1 (jaa jd7 (jaa (jam jao (pv 5) jab) (jaa (jam jao (pv 5) jab) jac jau) jau) jaj))))))))),?_⟩
 walk_at "rf";refine⟨by decide,fun p hp=>?_⟩;refine jb4 hp fun H1 s1 e1=>⟨p,e,a,b,_,_,o,rfl,e1,ha.keep s1,hb.keep s1,⟨_,_,_,_,C1,rfl⟩,⟨_,_,_,_,C2,rfl⟩,he.keep s1,fun k dk=>(qk k dk).keep s1,fun f1 f2 H2 s2=>?_⟩;have h1:=C1.scn f1;have h2:=C2.scn f2;have sb:=C1.sp;have vf:=C1.vf;have ok:=C1.ok;have q9:=q f1 f2;clear C1 C2 qk q f1 f2;generalize wS w1 Z1=Z1 at *
 generalize wS w2 Z2=Z2 at *
 generalize vs1.map (wV w1)=vs at *
 generalize vs2.map (wV w2)=ws at *
 generalize us1.map (spP w1)=ps at *
 generalize us2.map (spP w2)=qs at *
 have fp:=h1.fre;have fq:=h2.fre;have ow:=bo.w1;have na:=h2.na2 ow;have s12:=s1.trans s2;refine⟨b,e,qs,o,rfl,hb.keep s12,he.keep s12,fq,bo,na,fun L H3 rs fs s3 c3 pf py=>?_⟩;have s13:=s12.trans s3;obtain⟨rsa,ha1,ha2⟩:=ha.keep s13;have lv:=h1.rr.len;rw[xaa] at lv;have n8:=fp.n8;have m8:=fq.n8;have lf:fs.length=qs.length+1:=by
  obtain⟨f0,gs,rfl,_,sf⟩:=py;rw[xaw,sf.1]
 refine⟨a,L,Z1,vs,rs,fs,rfl,h1.hw,h1.nz,sb,vf,by omega,⟨rsa,ps,ha1,ha2,h1.rr⟩,c3,fun f hf=>ok f (pf f hf),fun f H4 s4 P4=>?_⟩;have s14:=s13.trans s4;rcases P4 with ⟨z,rfl⟩ | ⟨ne,r,rfl,rk,ks,k1,k2,k3⟩
 ·refine⟨a,b,e,L,rs,ps,qs,fs,o,rfl,ha.keep s14,hb.keep s14,he.keep s14,fp,fq,bo,c3.keep s4,by omega,py.fg,fun f0 hf0=>jpx h1 h2 ow py z hf0,fun g H5 f s5 hg tf pr=>⟨by decide,fun p6 hp6=>?_⟩⟩;have s6:=Same.new hp6 (.tup [.str "parted",.ref g]);exact q9 _ _ (s14.trans (s5.trans s6))
 ·have vk:=vf.kp (fs.map (jaT Z1)) (fun l hl=>by
   obtain⟨F,hF,rfl⟩:=xah.mp hl;exact (ok F (pf F hF)).2) ne
  have kl:=jlZ (fs.map (jaT Z1)) vf.rg;rw[xaa] at kl;have l3:=k3.len;rw[xaa] at l3;have n3:=vk.rg.n3;try walk_at "rf"
  refine⟨r,b,e,ks,qs,o,rfl,⟨rk,k1,k2⟩,by omega,by omega,fun c hc=>?_,hb.keep s14,fq,he.keep s14,bo,fun f0 hf0=>met_w h1 h2 ow py ne k3 hf0,fun t gn gf H5 f s5 ht hf5 hn hg nb fb=>?_⟩
  ·obtain⟨u,hu,rfl⟩:=xah.mp (k3.mem.mp hc);exact⟨sb u (vk.bi.2 u hu),jgB h1.hw (vk.rg.hz u hu)⟩
  ·have kt:=SqT.of (K:=K) ht;try walk_at "rf"
   refine ixT kt rfl (ixT kt rfl ⟨by decide,fun p6 hp6=>?_⟩);have s6:=Same.new hp6 (.tup [.str "hides",.ref gn,.ref gf]);exact q9 _ _ (s14.trans (s5.trans s6))
def spJu (C:Addr):Sp:=fun us H Q E=>∃(a b e t g:Addr) (f:Pt),us=[.ref a,.ref b,.ref e,.ref t]/\H t=some (.tup [.str "parted",.ref g])/\Is4 H g f/\AskP C H Q E a b e
theorem ok_ju {C:Addr} (T:Tc K mg t1 t2 cs SE fN C) (F:At K mg "sight_judged" jbW ["one","other","spot","told"] []) (dz:jal P w K mg base (XOk P w) 8 "refuse_unless_free" ["boards","spot"] [] (jlm C)) (DD:jal P w K mg base CX0 1 "is_sight" ["one","other","spot","near","far"] [] spNo) (dA:jal P w K mg base CX0 4 "is_parting" ["plane","one","other","spot"] [] spIp):jal P w K mg base (XOk P w) 9 "sight_judged" ["one","other","spot","told"] [] (spJu C):=by
 refine F.okX jcM (fun vs H Q E h=>?_) (fun f cdv A outer s H vs Q E hr h=>?_)
 ·obtain⟨_,_,_,_,_,_,rfl,_⟩:=h;rfl
 obtain⟨a,b,e,t,g,f,rfl,ht,hg,⟨w1,w2,Z1,Z2,vs1,vs2,us1,us2,o,ha,hb,he,bo,C1,C2,qk,q⟩⟩:=h;have S:=jcM;refine⟨_,(jag (jes (jae dz hr.m rfl jh4 (jaa (jaQ (jaa (pv 0) (jaa (pv 1) jac jad) jad)) (jaa (pv 2) jac jad) jbn)))
  (jag (jaV (jav jek (jam jao (pv 3) jab) jd7 (jaC _))
  (jah (jan (jae DD hr.m rfl jaq (jaa (pv 0) (jaa (pv 1) (jaa (pv 2) (jaa (jam jao (pv 3) jab) (jaa (jam jao (pv 3) jab) jac jau) jau) jad) jad) jad))))
  jaz)
  (jah (jan (jae dA hr.m rfl jaq (jaa (jam jao (pv 3) jab) (jaa (pv 0) (jaa (pv 1) (jaa (pv 2) jac jad) jad) jad) jau)))))),?_⟩
 walk_at "rf";refine⟨by decide,fun p hp=>?_⟩;refine jb4 hp fun H1 s1 e1=>⟨p,e,a,b,_,_,o,rfl,e1,ha.keep s1,hb.keep s1,⟨_,_,_,_,C1,rfl⟩,⟨_,_,_,_,C2,rfl⟩,he.keep s1,fun k dk=>(qk k dk).keep s1,fun f1 f2 H2 s2=>?_⟩;have s12:=s1.trans s2;have kt:SqT K H2 t [.str "parted",.ref g]:=SqT.of (s12 _ _ ht);refine ixT kt rfl ⟨rfl,?_⟩;rw[if_neg (fun h=>by injection h with h;exact absurd h (by decide))];have l1:=C1.len;have l2:=C2.len;exact ixT kt rfl ⟨g,a,b,e,f,o,_,_,rfl,hg.keep s12,ha.keep s12,hb.keep s12,he.keep s12,by omega,by omega,q f1 f2 _ _ s12⟩
inductive spIfi (vs:List V) (H:Hp) (Q:VK):Prop
 | mk (l e:Addr) (bs:List Addr) (pss:List (List Pt)) (o:Pt) (_:vs=[.ref l,.ref e]) (_:H l=some (.lst (bs.map V.ref))) (_:BL H bs pss) (_:(∀ps∈pss,DrB ps)) (_:Is4 H e o) (_:∀(H':Hp) (r:Bool),Same H H'->(r=true↔∀ps∈pss,hov ps o≠0)->Q (.bl r) H')
def spIf:Sp:=fun vs H Q _=>spIfi vs H Q
theorem ok_if (T:Tx K mg t1 t2) (F:At K mg "is_free" jeP ["boards","spot"] []) (dL:jal P w K mg base CX0 7 "first_not_free" ["boards","spot"] [] jnA):jal P w K mg base CX0 8 "is_free" ["boards","spot"] [] spIf:=by
 refine F.ok jfp (by walk_at "ar") (fun f cdv A outer s H vs Q E hr h=>?_);obtain⟨l,e,bs,pss,o,rfl,hl,hb,br,he,q⟩:=h;have S:=jfp;refine⟨_,(jah (jan (jdd jiE (jae dL hr.m rfl jaq (jaa (pv 0) (jaa (pv 1) jac jad) jad)) jcm (jaC _)))),?_⟩;walk_at "rf";refine⟨l,e,bs,pss,o,rfl,hl,hb,br,he,fun nz H1 s1=>?_,fun k ps hk z nz H1 s1=>?_⟩
 ·exact q _ true s1 ⟨fun _=>nz,fun _=>rfl⟩
 ·exact q _ false s1 ⟨fun h=>(nomatch h),fun h=>absurd z (h ps (xaD hk))⟩
def jpE (C:Addr):Sp:=fun us H Q E=>∃(n:Int) (a b e:Addr),us=[.int n,.ref a,.ref b,.ref e]/\AskP C H Q E a b e
theorem AskP.keep {C:Addr} {a b e:Addr} (h:AskP C H Q E a b e) (s:Same H H1):AskP C H1 Q E a b e:=by
 obtain⟨w1,w2,Z1,Z2,vs1,vs2,us1,us2,o,ha,hb,he,bo,C1,C2,qk,q⟩:=h;exact⟨w1,w2,Z1,Z2,vs1,vs2,us1,us2,o,ha.keep s,hb.keep s,he.keep s,bo,C1,C2,fun k dk=>(qk k dk).keep s,fun f1 f2 v H' s'=>q f1 f2 v H' (s.trans s')⟩
theorem jpF {C:Addr} (T:Tc K mg t1 t2 cs SE fN C) (F:At K mg "_law_asked" jcJ ["which","one","other","spot"] []) (Dy:jal P w K mg base (XOk P w) 9 "does_hide" ["one","other","spot"] [] (spDh C)) (DG:jal P w K mg base (XOk P w) 9 "sight_of" ["one","other","spot"] [] (spSo C)) (Di:jal P w K mg base (XOk P w) 9 "sight_judged" ["one","other","spot","told"] [] (spJu C)):jal P w K mg base (XOk P w) 10 "_law_asked" ["which","one","other","spot"] [] (jpE C):=by
 refine F.okX jdH (fun vs H Q E h=>?_) (fun f cdv A outer s H vs Q E hr h=>?_)
 ·obtain⟨_,_,_,_,rfl,_⟩:=h;rfl
 obtain⟨n,a,b,e,rfl,h⟩:=h;have S:=jdH;refine⟨_,(jag (jaV (jav jek (pv 0) jab (jaC _))
  (jah (jan (jae Dy hr.m rfl jh4 (jaa (pv 1) (jaa (pv 2) (jaa (pv 3) jac jad) jad) jad))))
  jaz)
  (jag (jaV (jav jek (pv 0) jab (jaC _))
  (jah (jan (jae DG hr.m rfl jh4 (jaa (pv 1) (jaa (pv 2) (jaa (pv 3) jac jad) jad) jad))))
  jaz)
  (jah (jan (jae Di hr.m rfl jh4 (jaa (pv 1) (jaa (pv 2) (jaa (pv 3) (jaa (ja1 (jaa jd7 (jaa (ja1 (jaa jab (jaa jab (jaa jab (jaa jab jac jaj) jaj) jaj) jaj)) jac jaA) jaj)) jac jaA) jad) jad) jad)))))),?_⟩
 walk_at "rf";by_cases c0:n=0
 ·rw[if_pos c0];exact⟨a,b,e,rfl,h⟩
 rw[if_neg c0];by_cases c1:n=1
 ·rw[if_pos c1];exact⟨a,b,e,rfl,h⟩
 rw[if_neg c1];refine⟨by decide,fun p hp=>?_⟩;refine jb4 hp fun H1 s1 e1=>⟨by decide,fun t ht=>?_⟩;refine jb4 ht fun H2 s2 e2=>?_;exact⟨a,b,e,t,p,⟨1,0,0,0⟩,rfl,e2,⟨s2 _ _ e1,by unfold Pt.sm Sm2;decide⟩,h.keep (s1.trans s2)⟩
def jkk (ps qs:List Pt) (o:Pt):V:=if hov ps o=0 then .int 0 else if hov qs o=0 then .int 1 else .str "none"
theorem DueK.v {o:Pt} (h:DueK ps qs o k):jkk ps qs o=.int k:=by
 unfold jkk;rcases h with ⟨rfl,z⟩ | ⟨rfl,n,z⟩
 ·rw[if_pos z]
 ·rw[if_neg n,if_pos z]
inductive spRfdi (us:List V) (H:Hp) (Q:VK):Prop
 | mk (n:Int) (a b e:Addr) (w1 w2:Int) (Z1 Z2:Sht) (vs1 vs2 us1 us2:List Tri) (o:Pt) (_:us=[.int n,.ref a,.ref b,.ref e]) (_:BM H a (us1.map (spP w1))) (_:BM H b (us2.map (spP w2))) (_:Is4 H e o) (_:SpC o) (_:Sce w1 Z1 vs1 us1) (_:Sce w2 Z2 vs2 us2) (_:∀H',Same H H'->Q (jkk (us1.map (spP w1)) (us2.map (spP w2)) o) H')
def jpG:Sp:=fun us H Q _=>spRfdi us H Q
theorem jpH {C:Addr} (T:Tc K mg t1 t2 cs SE fN C) (F:At K mg "_law_refused" jb0 ["which","one","other","spot"] []) (Dw:jal P w K mg base (XOk P w) 10 "_law_asked" ["which","one","other","spot"] [] (jpE C)):jal P w K mg base CX0 11 "_law_refused" ["which","one","other","spot"] [] jpG:=by
 refine F.ok jcQ (by walk_at "ar") (fun f cdv A outer s H vs Q E hr h=>?_);obtain⟨n,a,b,e,w1,w2,Z1,Z2,vs1,vs2,us1,us2,o,rfl,ha,hb,he,bo,C1,C2,q⟩:=h;have S:=jcQ;refine⟨_,(jag (jjb (i:=4) (jmu jgW) rfl T.m_SightError S.nd rfl rfl (Or.inl rfl) (jkI (jkz Dw hr.m rfl (jaa (pv 0) (jaa (pv 1) (jaa (pv 2) (jaa (pv 3) jac jad) jad) jad) jad))) (fun _=>(jag (jaV (PW.pt (jgM (jiu (jb2 (jaB (ja6 (K:=K) rfl) rfl T.m_isinstance boot_isinstance (jaa (pv 4) (jaa (jdK rfl T.m_NotFree T.r_NotFree) jac jad) jad)))) (jhn (jiu (jb2 (jaB (ja6 (K:=K) rfl) rfl T.m_isinstance boot_isinstance (jaa (pv 4) (jaa (jgL (v:=.ty "ValueError") rfl T.m_ValueError jeH rfl) jac jad) jad)))))))
  (jah (jan jd7))
  jaz)
  (jag (jaV (PW.pt (jgM (jb2 (jaB (ja6 (K:=K) rfl) rfl T.m_isinstance boot_isinstance (jaa (pv 4) (jaa (jdK rfl T.m_NoBoard T.r_NoBoard) jac jad) jad))) (jgM (jb2 (jaB (ja6 (K:=K) rfl) rfl T.m_isinstance boot_isinstance (jaa (pv 4) (jaa (jdK rfl T.m_NoPlane T.r_NoPlane) jac jad) jad))) (jgM (jb2 (jaB (ja6 (K:=K) rfl) rfl T.m_isinstance boot_isinstance (jaa (pv 4) (jaa (jdK rfl T.m_NoSpot T.r_NoSpot) jac jad) jad))) (jhn (jb2 (jaB (ja6 (K:=K) rfl) rfl T.m_isinstance boot_isinstance (jaa (pv 4) (jaa (jdK rfl T.m_NoText T.r_NoText) jac jad) jad))))))))
  (jah (jan jd7))
  jaz)
  (jah (jan (jmL (K:=K) rfl (pv 4))))))))
  (jah (jan jd7))),?_⟩
 try walk_at "rf"
 refine⟨n,a,b,e,rfl,⟨w1,w2,Z1,Z2,vs1,vs2,us1,us2,o,ha,hb,he,bo,C1,C2,fun k dk dx H1 s1 ed=>⟨C,rfl,dx,rfl,T.em,fun ea hea=>?_⟩,fun f1 f2 v H1 s1=>?_⟩⟩
 ·simp only[L2.jmK,L2.Ends.gone];try walk_at "rf"
  have se:=Same.new hea (jbv ea C dx);have ee:upd H1 ea (jbv ea C dx) ea=some (jbv ea C dx):=jak;generalize upd H1 ea (jbv ea C dx)=H2 at se ee |-
  refine⟨C,dx,ee,T.xc,true,.inl T.kF,?_⟩;rw[if_neg (by decide)];refine⟨C,dx,ee,T.xc,true,T.kV,?_⟩;rw[if_neg (by decide)];refine⟨C,dx,ee,T.xc,false,.inl (T.kO _ (xah.mpr ⟨0,by decide,rfl⟩)),?_⟩;rw[if_neg (by decide)];refine⟨C,dx,ee,T.xc,false,.inl (T.kO _ (xah.mpr ⟨1,by decide,rfl⟩)),?_⟩;rw[if_neg (by decide)];refine⟨C,dx,ee,T.xc,false,.inl (T.kO _ (xah.mpr ⟨2,by decide,rfl⟩)),?_⟩;rw[if_neg (by decide)];refine⟨C,dx,ee,T.xc,false,.inl (T.kO _ (xah.mpr ⟨3,by decide,rfl⟩)),?_⟩;rw[if_neg (by decide)];try simp only[L2.jmK]
  try walk_at "rf"
  refine⟨C,dx,ee,_,se _ _ ed,T.xc,T.xa,_,rfl,?_⟩;have q:=q _ (s1.trans se);rw[dk.v] at q;exact q
 ·have q:=q _ s1;unfold jkk at q;rw[if_neg f1,if_neg f2] at q;exact q
def frs (o:Pt) (pss:List (List Pt)):List Int:=((List.range pss.length).filter fun i=>decide (hov (pss.getD i []) o=0)).map fun i:Nat=>(0+(i:Int))
theorem frs_nil {o:Pt} :frs o pss=[]↔∀ps∈pss,hov ps o≠0:=by
 unfold frs;rw[List.map_eq_nil_iff,List.filter_eq_nil_iff];constructor
 ·intro h ps hp z;obtain⟨i,hi,rfl⟩:=xbe.mp hp;refine h i (xaU.mpr hi) (decide_eq_true ?_);rw[xab,xac hi];exact z
 ·intro h i hi z;have il:=xaU.mp hi;have z':=of_decide_eq_true z;rw[xab,xac il] at z';exact h _ (xa5 il) z'
inductive spFrLi (vs:List V) (H:Hp) (Q:VK):Prop
 | mk (l e:Addr) (bs:List Addr) (pss:List (List Pt)) (o:Pt) (_:vs=[.ref l,.ref e]) (_:H l=some (.lst (bs.map V.ref))) (_:BL H bs pss) (_:pss.length<=4) (_:(∀ps∈pss,3<=ps.length/\∀p∈ps,p.bd 100)) (_:Is4 H e o) (_:o.bd 620) (_:∀(g:Addr) (H':Hp),Same H H'->H' g=some (.lst ((frs o pss).map V.int))->Q (.ref g) H')
def jnB:Sp:=fun vs H Q _=>spFrLi vs H Q
theorem ok_fr (T:Tx K mg t1 t2) (F:At K mg "_law_free" jdo ["boards","spot"] []) (Dn:jal P w K mg base CX0 3 "_law_height" ["board","spot"] [] jpj):jal P w K mg base CX0 4 "_law_free" ["boards","spot"] [] jnB:=by
 refine F.ok jej (by walk_at "ar") (fun f cdv A outer s H vs Q E hr h=>?_);obtain⟨l,e,bs,pss,o,rfl,hl,hb,n4,bp,he,bo,q⟩:=h;have S:=jej;refine⟨_,(jah (jan (jaX rfl (N':=["k","boards","spot"]) (ix:=[0,1]) (by walk_at "cs") (jaO rfl T.m_range (jaa (jaB jbg rfl T.m_len PySem.boot_len (jaa (pv 0) jac jad)) jac jaG)) (fun _ _ _ _=>jas (i:=0) (show (["k","boards","spot"]:List Str).Nodup from by decide +kernel) rfl (Or.inl rfl)) (fun _ _ _ _=>(jfD (jav jek (jae Dn hr.m rfl jaq (jaa (jam (jcY (K:=K) rfl) (pv 1) (pv 0)) (jaa (pv 2) jac jad) jau)) jab (jaC _)))) (fun _ _ _ _=>(pv 0))))),?_⟩;walk_at "rf";have lb:=hb.1;have ln:(((bs.map V.ref).length:Nat):Int)=(pss.length:Int):=by rw[xaa,lb]
 refine⟨_,.inl (SqL.of hl),by rw[ln];omega,by rw[ln];omega,fun acc hacc=>?_⟩;rw[ln,xco];refine ji2 (n:=pss.length) (fun i=>.int (0+(i:Int))) (fun i=>decide (hov (pss.getD i []) o=0)) (by omega) hacc (fun i H3 R hi s3 hR=>?_) (fun i H3 R hi _ s3 hR=>⟨_,rfl,hR _ (fun _ _ h=>h)⟩) (fun H' s' e'=>?_)
 ·have kl:SqL K H3 l (bs.map V.ref):=SqL.of (s3 _ _ hl);have ei:pss[i]?=some (pss.getD i []):=by rw[xab,xac hi];rfl
  obtain⟨m3,bq⟩:=bp _ (xaD ei);walk_at "rf";refine ixL kl (v:=.ref (ad bs i)) (by rw[xcn];exact jaP (jbm (by omega))) ⟨_,e,_,o,rfl,(hb.2 i _ ei).keep s3,he.keep s3,m3,bq,bo,fun H4 s4=>?_⟩;have:=hR _ s4;walk_at "rf";exact this
 ·exact q acc H' s' (by rw[e'];unfold frs;rw[xb8];rfl)
theorem jnC (o:Pt) (ps qs:List Pt):frs o [ps,qs]=(if hov ps o=0 then [0] else [])++(if hov qs o=0 then [1] else []):=by
 unfold frs;by_cases z1:hov ps o=0<;>by_cases z2:hov qs o=0<;>simp [xaQ,z1,z2]
inductive spDuei (us:List V) (H:Hp) (Q:VK):Prop
 | mk (a b e:Addr) (ps qs:List Pt) (o:Pt) (_:us=[.ref a,.ref b,.ref e]) (_:BM H a ps) (_:BM H b qs) (_:Is4 H e o) (_:o.bd 620) (_:(3<=ps.length/\∀p∈ps,p.bd 100)) (_:(3<=qs.length/\∀p∈qs,p.bd 100)) (_:∀H',Same H H'->Q (jkk ps qs o) H')
def jpI:Sp:=fun us H Q _=>spDuei us H Q
theorem jpJ (T:Tx K mg t1 t2) (F:At K mg "_law_due" jd1 ["one","other","spot"] []) (dU:jal P w K mg base CX0 4 "_law_free" ["boards","spot"] [] jnB):jal P w K mg base CX0 5 "_law_due" ["one","other","spot"] [] jpI:=by
 refine F.ok jeZ (by walk_at "ar") (fun f cdv A outer s H vs Q E hr h=>?_);obtain⟨a,b,e,ps,qs,o,rfl,ha,hb,he,bo,b1,b2,q⟩:=h;have S:=jeZ;refine⟨_,(jag (jat (i:=3) S.nd rfl (Or.inl rfl) (jae dU hr.m rfl jaq (jaa (jaQ (jaa (pv 0) (jaa (pv 1) jac jad) jad)) (jaa (pv 2) jac jad) jbn)))
  (jag (jaV (jav (jgm (jki hr)) (pv 3) (jaQ jac) (jaC _))
  (jah (jan jd7))
  jaz)
  (jah (jan (jam ix_list (pv 3) jab))))),?_⟩
 walk_at "rf";refine⟨by decide,fun p hp=>?_⟩;refine jb4 hp fun H1 s1 e1=>⟨p,e,[a,b],[ps,qs],o,rfl,e1,(BL.two ha hb).keep s1,show 2<=4 by decide,fun us h=>?_,he.keep s1,bo,fun g H2 s2 e2=>⟨by decide,fun pz hpz=>?_⟩⟩
 ·rcases xam.mp h with rfl | h
  ·exact b1
  ·rw[xaC.mp h];exact b2
 refine jb4 hpz fun H3 s3 e3=>?_;have s13:=s1.trans (s2.trans s3);have q:=q _ s13;have e2:=s3 _ _ e2;rw[jnC] at e2;unfold jkk at q;refine jen (x:=_) (y:=[]) (SqL.of e2) (SqL.of e3) ⟨_,rfl,?_⟩;by_cases z1:hov ps o=0
 ·rw[if_pos z1] at q;rw[if_pos z1] at e2 |-
  rw[decide_eq_false (by simp),if_neg (by decide)];exact ixL (SqL.of e2) (v:=.int 0) (jaP (j:=0) rfl) q
 ·rw[if_neg z1] at q;rw[if_neg z1] at e2 |-
  by_cases z2:hov qs o=0
  ·rw[if_pos z2] at q;rw[if_pos z2] at e2 |-
   rw[decide_eq_false (by simp),if_neg (by decide)];exact ixL (SqL.of e2) rfl q
  ·rw[if_neg z2] at q;rw[if_neg z2] at e2 |-
   rw[decide_eq_true (by rfl),if_pos rfl];exact q
inductive spLbdi (us:List V) (H:Hp) (Q:VK):Prop
 | mk (L:Addr) (wd:Int) (_:us=[.ref L,.int wd]) (_:Purs H L) (_:4<=wd) (_:wd<=1000000) (_:∀(g:Addr) (H':Hp) (ps:List Pt),SameB L H H'->BM H' g ps->DrB ps->Q (.ref g) H')
def jpK:Sp:=fun us H Q _=>spLbdi us H Q
theorem CnL.le {g:Addr} (h:CnL K H g Z vs) (G:RowG vs) (M:ShM Z):∃ps:List (Addr × Tri),SqL K H g ((ps.map Prod.fst).map V.ref)/\Prd K H ps/\ps.map Prod.snd=vs.map (crn Z)/\(∀p∈ps,p.2.bd 600)/\ps.length=vs.length:=by
 obtain⟨ps,a,b,c⟩:=h;have l:ps.length=vs.length:=by have:=congrArg List.length c;rwa [xaa,xaa] at this
 refine⟨ps,a,b,c,fun p hp=>?_,l⟩;have:p.2∈ps.map Prod.snd:=xah.mpr ⟨p,hp,rfl⟩;rw[c] at this;obtain⟨v,hv,e⟩:=xah.mp this;rw[<- e];exact jhN (jpz (M.l.crn (G.pl hv).1 (G.pl hv).2.1) (by decide)) (by decide)
theorem jpL (T:Tx K mg t1 t2) (F:At K mg "_law_board" jcI ["purse","wide"] []) (de:jal P w K mg base CX0 1 "_law_take" ["purse","many"] [] jdq) (Dh:jal P w K mg base CX0 4 "_law_corners" ["purse","wide"] [] (spCo K)) (Dr:jal P w K mg base CX0 3 "_law_formed" ["corners","w"] [] (jo7 K)):jal P w K mg base CX0 5 "_law_board" ["purse","wide"] [] jpK:=by
 refine F.ok jdG (by walk_at "ar") (fun f cdv A outer s H vs Q E hr h=>?_);obtain⟨L,wd,rfl,pu,wd4,wd6,q⟩:=h;have S:=jdG;refine⟨_,(jag (jat (i:=2) S.nd rfl (Or.inl rfl) (jam ix_list (jaQ (jaa jab (jaa jab (jaa jab (jaa jab (jaa jab jac jaj) jaj) jaj) jaj) jaj)) (jae de hr.m rfl jaq (jaa (pv 0) (jaa jab jac jaj) jad))))
  (jah (jan (jae Dr hr.m rfl jaq (jaa (jae Dh hr.m rfl jaq (jaa (pv 0) (jaa (pv 1) jac jad) jad)) (jaa (pv 2) jac jad) jaG))))),?_⟩
 walk_at "rf";refine⟨by decide,fun p hp=>?_⟩;have s2:=Same.new hp (.lst [V.int 1,V.int 1,V.int 1,V.int 2,V.int 3]);obtain⟨r,hL,r0⟩:=pu;have pL:p≠L:=fun z=>by rw[z,hL] at hp;cases hp
 refine⟨L,5,rfl,⟨r,s2 _ _ hL,r0⟩,by decide,by decide,fun H2 t s3 p3 t0 t5=>?_⟩;have kp:SqL K H2 p [V.int 1,V.int 1,V.int 1,V.int 2,V.int 3]:=SqL.of (s3 _ _ pL jak);have s13:SameB L H H2:=s2.b.trans s3;obtain⟨w,w1,w3,kw⟩:∃w:Int,1<=w/\w<=3/\atI [V.int 1,V.int 1,V.int 1,V.int 2,V.int 3] t=some (.int w):=by
  have t3:t=0\/t=1\/t=2\/t=3\/t=4:=by omega
  rcases t3 with rfl | rfl | rfl | rfl | rfl
  ·exact⟨1,by decide,by decide,rfl⟩
  ·exact⟨1,by decide,by decide,rfl⟩
  ·exact⟨1,by decide,by decide,rfl⟩
  ·exact⟨2,by decide,by decide,rfl⟩
  ·exact⟨3,by decide,by decide,rfl⟩
 refine ixL kp kw ⟨L,wd,rfl,p3,wd4,wd6,fun c1 H6 Z1 n1 s6 p6 k1 n19 B1=>?_⟩;have G1:=jpy n19;have M1:=B1.m wd6;have x13:=G1.R.n3;have x18:=G1.n8;obtain⟨ps1,a1,a2,a3,a4,a5⟩:=k1.le G1 M1;refine⟨c1,ps1,w,rfl,a1,a2,a4,by omega,by omega,by omega,by unfold Bd;omega,fun A1 H8 gs1 us1 s8 e8 rr1 sp1=>?_⟩;rw[a3] at rr1;exact q A1 H8 _ (s13.trans (s6.trans s8.b)) ⟨gs1,e8,sp1⟩ ⟨w,Z1,_,us1,⟨w1,w3,M1,G1,rr1⟩,rfl⟩
theorem SqL.sb {a:Addr} (h:SqL K H a xs) (n:Purs H L) (ne:xs.length≠1) (s:SameB L H H'):SqL K H' a xs:=by
 obtain⟨r,hL,_⟩:=n;rcases h with (h | ⟨o,h⟩) | h
 ·refine .inl (.inl (s _ _ (fun z=>?_) h));rw[z,hL] at h;injection h with h
  injection h with h
  exact ne (by rw[<- h];rfl)
 ·refine .inl (.inr ⟨o,s _ _ (fun z=>?_) h⟩);rw[z,hL] at h;cases h
 ·exact .inr h
theorem BM.sb {b:Addr} (h:BM H b ps) (n:Purs H L) (s:SameB L H H'):BM H' b ps:=by
 obtain⟨r,hL,_⟩:=n;obtain⟨rs,h1,h2⟩:=h;exact⟨rs,s _ _ (fun z=>by rw[z,hL] at h1;cases h1) h1,h2.keep (fun x ys hx=>s _ _ (fun z=>by rw[z,hL] at hx;cases hx) hx)⟩
theorem jnD (h:r.w≠0):1<=(jbO r).w/\∃k:Int,k≠0/\∀g,k*hgP g (jbO r)=hgP g r:=by
 have wp:∀{q:Pt},1<=q.w->1<=(jbO q).w:=fun {q} h=>by
  obtain⟨k,k0,ek⟩:=jhU h;have h':=ek ⟨0,0,0,-1⟩;unfold hgP hgt at h';simp only at h';have:0<(jbO q).w:=jlk k0 (by
   have:k*(jbO q).w=q.w:=by grind
   omega)
  omega
 rcases xaG h with c | c
 ·have e:jbO r=jbO ⟨-r.x,-r.y,-r.z,-r.w⟩:=by
   unfold jbO;rw[if_pos c,if_neg (show ¬(-r.w)<0 by omega)]
  obtain⟨k,k0,ek⟩:=jhU (r:=⟨-r.x,-r.y,-r.z,-r.w⟩) (show 1<=-r.w by omega);rw[e];refine⟨wp (show 1<=-r.w by omega),-k,by omega,fun g=>?_⟩;have:=ek g;have n:hgP g ⟨-r.x,-r.y,-r.z,-r.w⟩=-hgP g r:=by
   unfold hgP hgt;simp only;grind
  rw[n] at this;rw[xby,this,Int.neg_neg]
 ·obtain⟨k,k0,ek⟩:=jhU (show 1<=r.w by omega);exact⟨wp (by omega),k,by omega,ek⟩
inductive spFlti (vs:List V) (H:Hp) (Q:VK):Prop
 | mk (b L:Addr) (ps:List Pt) (_:vs=[.ref b,.ref L]) (_:BM H b ps) (_:Purs H L) (_:3<=ps.length) (_:(∀p∈ps,SpB p/\p.w<=3)) (_:∀(g:Addr) (H':Hp) (N:Pt),SameB L H H'->Is4 H' g N->SpC N->Q (.ref g) H')
def jpM:Sp:=fun vs H Q _=>spFlti vs H Q
theorem jpN (T:Tx K mg t1 t2) (F:At K mg "_law_flat" jdn ["board","purse"] []) (de:jal P w K mg base CX0 1 "_law_take" ["purse","many"] [] jdq) (dC:jal P w K mg base CX0 2 "_law_spot" ["numbers","w"] [] (jhj K)):jal P w K mg base CX0 3 "_law_flat" ["board","purse"] [] jpM:=by
 refine F.ok jei (by walk_at "ar") (fun f cdv A outer s H vs Q E hr h=>?_);obtain⟨b,L,ps,rfl,hb,pu,n3,bp,q⟩:=h;have S:=jei;have bw:∀p∈ps,(p.bd 30/\1<=p.w)/\p.w<=3:=fun p hp=>⟨⟨(bp p hp).1.bd,(bp p hp).1.w1⟩,(bp p hp).2⟩;refine⟨_,(jag (jat (i:=2) S.nd rfl (Or.inl rfl) (jap jbf (jae de hr.m rfl jaq (jaa (pv 1) (jaa jab jac jaj) jad)) jab))
  (jag (jat (i:=3) S.nd rfl (Or.inl rfl) (jap jbf (jae de hr.m rfl jaq (jaa (pv 1) (jaa jab jac jaj) jad)) jab))
  (jag (jat (i:=4) S.nd rfl (Or.inl rfl) (jap jar (jap jar (jam jao (jam jao (pv 0) jab) jab) (jam jao (jam jao (pv 0) jab) jab)) (jam jao (jam jao (pv 0) jab) jab)))
  (jag (jat (i:=5) S.nd rfl (Or.inr rfl) (jaQ (jaa (jap jar (jap jbf (jap jbf jab (pv 2)) (pv 3)) (jap jbr (pv 4) (jam jao (jam jao (pv 0) jab) jab))) (jaa (jap jar (pv 2) (jap jbr (pv 4) (jam jao (jam jao (pv 0) jab) jab))) (jaa (jap jar (pv 3) (jap jbr (pv 4) (jam jao (jam jao (pv 0) jab) jab))) jac ja2) ja2) ja2)))
  (jag (jbG (i:=6) rfl S.nd rfl rfl (N':=["k","shares","board"]) (ix:=[5,0]) (by walk_at "cs") (jaO rfl T.m_range (jaa jab jac jaj)) (fun _ _ _ _=>jas (i:=0) (show (["k","shares","board"]:List Str).Nodup from by decide +kernel) rfl (Or.inr rfl)) (fun _ _ _ _=>jaW) (fun _ _ _ _=>(jaB (jgt (K:=K) rfl rfl) rfl T.m_sum boot_sum (jaa (jaX rfl (N':=["n","shares","board","k"]) (ix:=[1,2,0]) (CompScopeC.nest rfl rfl (by decide +kernel) (by decide +kernel) (by decide +kernel) (show ∀y:Str × NameKind,y∈_->y.2=NameKind.free->y.1∈(["shares","board","k"]:List Str) from by decide +kernel) (.cons rfl (.inl rfl) rfl (.cons rfl (.inl rfl) rfl (.cons rfl (.inl rfl) rfl .nil)))) (jaO rfl T.m_range (jaa jab jac jaj)) (fun _ _ _ _=>jas (i:=0) (show (["n","shares","board","k"]:List Str).Nodup from by decide +kernel) rfl (Or.inl rfl)) (fun _ _ _ _=>jaW) (fun _ _ _ _=>(jap jar (jam (jcY (K:=K) rfl) (pv 1) (pv 0)) (jam (jaZ (K:=K) rfl) (jam (jaZ (K:=K) rfl) (pv 2) (pv 0)) (pv 3))))) jac jdu))))
  (jah (jan (jae dC hr.m rfl jaq (jaa (pv 6) (jaa (pv 4) jac jad) jad))))))))),?_⟩
 walk_at "rf";refine⟨L,13,rfl,pu,by decide,by decide,fun H1 i s1 p1 i0 i13=>⟨i,rfl,L,13,rfl,p1,by decide,by decide,fun H2 j s2 p2 j0 j13=>⟨j,rfl,?_⟩⟩⟩;have s12:=s1.trans s2;obtain⟨rs,h1,h2⟩:=hb.sb pu s12;have lr:=h2.len;have kb:SqT K H2 b (rs.map V.ref):=SqT.of h1;have x0:atI (rs.map V.ref) 0=some (.ref (ad rs 0)):=jaP (j:=0) (h2.get (i:=0) (by omega)).1;have x1:atI (rs.map V.ref) 1=some (.ref (ad rs 1)):=jaP (j:=1) (h2.get (i:=1) (by omega)).1;have x2:atI (rs.map V.ref) 2=some (.ref (ad rs 2)):=jaP (j:=2) (h2.get (i:=2) (by omega)).1;have y0:=(h2.get (i:=0) (by omega)).2;have y1:=(h2.get (i:=1) (by omega)).2;have y2:=(h2.get (i:=2) (by omega)).2;obtain⟨⟨b0,w0⟩,u0⟩:=bw _ (jaI (l:=ps) (i:=0) (by omega));obtain⟨⟨b1,w1⟩,u1⟩:=bw _ (jaI (l:=ps) (i:=1) (by omega));obtain⟨⟨b2,w2⟩,u2⟩:=bw _ (jaI (l:=ps) (i:=2) (by omega));have v0:atI [V.int (pt ps 0).x,V.int (pt ps 0).y,V.int (pt ps 0).z,V.int (pt ps 0).w] 3=some (.int (pt ps 0).w):=rfl;have v1:atI [V.int (pt ps 1).x,V.int (pt ps 1).y,V.int (pt ps 1).z,V.int (pt ps 1).w] 3=some (.int (pt ps 1).w):=rfl;have v2:atI [V.int (pt ps 2).x,V.int (pt ps 2).y,V.int (pt ps 2).z,V.int (pt ps 2).w] 3=some (.int (pt ps 2).w):=rfl;have m3:∀{x y:Int} {n:Int},1<=x->x<=n->1<=y->y<=3->1<=x*y/\x*y<=n*3:=fun {x y n} a b c d=>⟨by have:=xaf (show 0<x by omega) (show 0<y by omega);omega,Int.mul_le_mul b d (by omega) (by omega)⟩;obtain⟨q1,q2⟩:=m3 w0 u0 w1 u1;obtain⟨q3,q4⟩:=m3 q1 q2 w2 u2;have fw0:Fit (pt ps 0).w:=Bd.fit (n:=10) (by unfold Bd;omega);have fw1:Fit (pt ps 1).w:=Bd.fit (n:=10) (by unfold Bd;omega);have fw2:Fit (pt ps 2).w:=Bd.fit (n:=10) (by unfold Bd;omega);have f11:Fit ((pt ps 0).w*(pt ps 1).w):=Bd.fit (n:=10) (by unfold Bd;omega);have dq:∀{x:Int},1<=x->∃y,(pt ps 0).w*(pt ps 1).w*(pt ps 2).w / x=y/\0<=y/\y<=27:=fun {x} hx=>⟨_,rfl,Int.ediv_nonneg (by omega) (by omega),Int.le_trans (Int.ediv_le_self _ (by omega)) (by omega)⟩;obtain⟨y0',ey0,yl0,yh0⟩:=dq w0;obtain⟨y1',ey1,yl1,yh1⟩:=dq w1;obtain⟨y2',ey2,yl2,yh2⟩:=dq w2;have fq:∀{y:Int},0<=y->y<=27->Fit y:=fun a b=>Bd.fit (n:=10) (by unfold Bd;omega);have fa:Fit (1-(i-6)-(j-6)):=Bd.fit (n:=10) (by unfold Bd;omega);have fi:Fit (i-6):=Bd.fit (n:=10) (by unfold Bd;omega);have fj:Fit (j-6):=Bd.fit (n:=10) (by unfold Bd;omega);refine ixT kb x0 (ixT y0.sq v0 (ixT kb x1 (ixT y1.sq v1 ⟨_,rfl,_,rfl,fw0,fw1,ixT kb x2 (ixT y2.sq v2 ⟨_,rfl,f11,fw2,ixT kb x0 (ixT y0.sq v0 ⟨_,rfl,by omega,fw0,fa,by rw[ey0];exact fq yl0 yh0,ixT kb x1 (ixT y1.sq v1 ⟨_,rfl,by omega,fw1,fi,by rw[ey1];exact fq yl1 yh1,ixT kb x2 (ixT y2.sq v2 ⟨_,rfl,by omega,fw2,fj,by rw[ey2];exact fq yl2 yh2,?_⟩)⟩)⟩)⟩)⟩)));rw[ey0,ey1,ey2];have mb:∀{x y:Int},Bd 5 x->0<=y->y<=27->Bd 10 (x*y):=fun {x y} h a b=>Bd.mul (n:=5) (m:=5) h (by unfold Bd;omega);have bA:Bd 10 ((1-(i-6)-(j-6))*y0'):=mb (by unfold Bd;omega) yl0 yh0;have bB:Bd 10 ((i-6)*y1'):=mb (by unfold Bd;omega) yl1 yh1;have bC:Bd 10 ((j-6)*y2'):=mb (by unfold Bd;omega) yl2 yh2;have fa:=bA.fit;have fi:=bB.fit;have fj:=bC.fit;generalize (1-(i-6)-(j-6))*y0'=a at *
 generalize (i-6)*y1'=b' at *
 generalize (j-6)*y2'=c at *
 refine⟨by decide,fun p hp=>?_⟩;refine jb4 hp fun H3 s3 e3=>⟨by decide,by decide,fun acc hacc=>?_⟩;have cb:∀{Y:Pt} {k:Nat},k<3->Y.bd 30->Bd 30 (c4 Y k):=fun {Y k} hk h=>by obtain rfl | rfl | rfl:=lt3 hk<;>first | exact h.1 | exact h.2.1 | exact h.2.2.1
 refine jh5 (n:=3) (fun k=>.int (a*c4 (pt ps 0) k+(b'*c4 (pt ps 1) k+(c*c4 (pt ps 2) k+0)))) (by decide) hacc (fun k H4 R hk s4 hR=>?_) (fun H4 s4 e4=>?_)
 ·walk_at "rf";refine⟨by decide,by decide,fun ac2 hac2=>?_⟩;refine jh5 (n:=3) (fun n=>.int ((if n=0 then a else if n=1 then b' else c)*c4 (pt ps n) k)) (by decide) hac2 (fun n H5 R5 hn s5 hR5=>?_) (fun H5 s5 e5=>?_)
  ·have:=hR5 _ (fun _ _ h=>h);have z5:=s3.trans (s4.trans s5);have kp:SqL K H5 p [.int a,.int b',.int c]:=SqL.of ((s4.trans s5) _ _ e3);have kb5:SqT K H5 b (rs.map V.ref):=SqT.of (z5 _ _ h1);have yn:=((h2.keep z5.t).get (i:=n) (by omega)).2;have xn:atI (rs.map V.ref) (0+(n:Int))=some (.ref (ad rs n)):=by rw[xcn];exact jaP (h2.get (i:=n) (by omega)).1
   have bn:=(bw _ (jaI (l:=ps) (i:=n) (by omega))).1.1;walk_at "rf";obtain rfl | rfl | rfl:=lt3 hn
   ·exact ixL kp rfl (ixT kb5 xn (ixT yn.sq (at4 (by omega)) ⟨_,rfl,_,rfl,fa,(cb hk bn).fit,this⟩))
   ·exact ixL kp rfl (ixT kb5 xn (ixT yn.sq (at4 (by omega)) ⟨_,rfl,_,rfl,fi,(cb hk bn).fit,this⟩))
   ·exact ixL kp rfl (ixT kb5 xn (ixT yn.sq (at4 (by omega)) ⟨_,rfl,_,rfl,fj,(cb hk bn).fit,this⟩))
  ·exact⟨[a*c4 (pt ps 0) k,b'*c4 (pt ps 1) k,c*c4 (pt ps 2) k],SqL.of e5,hR _ s5⟩
 ·have tb:∀k,k<3->Bd 44 (a*c4 (pt ps 0) k+(b'*c4 (pt ps 1) k+(c*c4 (pt ps 2) k+0))):=fun k hk=>by
   rw[Int.add_zero];exact Bd.mono (n:=42+1) (Bd.add (Bd.mono (n:=10+30) (Bd.mul bA (cb hk b0))) (Bd.mono (n:=41) (Bd.add (Bd.mul bB (cb hk b1)) (Bd.mul bC (cb hk b2)))))
  have t0:=tb 0 (by decide);have t1:=tb 1 (by decide);have t2:=tb 2 (by decide);have k4:SqL K H4 acc [.int (a*c4 (pt ps 0) 0+(b'*c4 (pt ps 1) 0+(c*c4 (pt ps 2) 0+0))),.int (a*c4 (pt ps 0) 1+(b'*c4 (pt ps 1) 1+(c*c4 (pt ps 2) 1+0))),.int (a*c4 (pt ps 0) 2+(b'*c4 (pt ps 1) 2+(c*c4 (pt ps 2) 2+0)))]:=SqL.of e4;generalize a*c4 (pt ps 0) 0+(b'*c4 (pt ps 1) 0+(c*c4 (pt ps 2) 0+0))=X at *
  generalize a*c4 (pt ps 0) 1+(b'*c4 (pt ps 1) 1+(c*c4 (pt ps 2) 1+0))=Y at *
  generalize a*c4 (pt ps 0) 2+(b'*c4 (pt ps 1) 2+(c*c4 (pt ps 2) 2+0))=W at *
  have bY:Bd 10 ((pt ps 0).w*(pt ps 1).w*(pt ps 2).w):=by unfold Bd;omega
  generalize (pt ps 0).w*(pt ps 1).w*(pt ps 2).w=B at *
  have wn:=(jnD (r:=⟨X,Y,W,B⟩) (show B≠0 by omega)).1;have en:jbO ⟨X,Y,W,B⟩=spP B ⟨X,Y,W⟩:=by
   unfold jbO;rw[if_neg (show ¬B<0 by omega)];rfl
  rw[en] at wn;have sc:SpC (spP B ⟨X,Y,W⟩):=⟨Bd.div (Bd.mono t0),Bd.div (Bd.mono t1),Bd.div (Bd.mono t2),Bd.div (Bd.mono bY),wn⟩;exact⟨acc,X,Y,W,B,rfl,k4,by omega,bY.fit,fun g H5 s5 e5=>q g H5 (spP B ⟨X,Y,W⟩) (s12.trans (s3.trans (s4.trans s5)).b) ⟨e5,sc.bd.sm' (by decide)⟩ sc⟩
theorem jpO {X:Cx}:OpR X (compareOp .Is) (fun x y H Q=>∃c d,x=.bl c/\y=.bl d/\Q (.bl (c==d)) H):=by
 intro pins s σ H x y v u Q I rx ry h;obtain⟨c,d,rfl,rfl,q⟩:=h;cases rx;cases ry;exact is_bool (jaK I q rfl)
def jkl (pss:List (List Pt)):PyData:=.list (pss.map jjp)
theorem jnE (pss:List (List Pt)):PyData.canLayAll0 (pss.map jjp)=true/\PyData.depthAll (pss.map jjp)<=2/\PyData.eqvAll (pss.map jjp) (pss.map jjp)=true:=by
  induction pss with
  | nil=>exact⟨rfl,xaY _,rfl⟩
  | cons ps l ih =>
    obtain⟨h1,h2,h3⟩:=jmU ps;obtain⟨i1,i2,i3⟩:=ih;rw[xaS];simp only[PyData.canLayAll0,PyData.depthAll,PyData.eqvAll];exact⟨by rw[h1,i1];rfl,by omega,by rw[h3,i3];rfl⟩
theorem jpP (pss:List (List Pt)):SeqAt.shaped (jkl pss)=true/\PyData.eqv (jkl pss) (jkl pss)=true:=by
 obtain⟨h1,h2,h3⟩:=jnE pss;refine⟨?_,h3⟩;show (PyData.canLay0 (jkl pss)&&decide ((jkl pss).depth<=64))=true;rw[show PyData.canLay0 (jkl pss)=true from h1,decide_eq_true (show (jkl pss).depth<=64 by unfold jkl;simp only[PyData.depth];omega)];rfl
theorem BL.rds {H:Hp}:∀{pss:List (List Pt)} {bs:List Addr},BL H bs pss->RdsAll K H (bs.map V.ref) (pss.map jjp)
  | [],[],_=>.nil
  | [],b::bs,h=>absurd h.1 (by simp)
  | ps::l,[],h=>absurd h.1 (by simp)
  | ps :: l, b :: bs, h => by
    obtain⟨rs,h1,h2⟩:=h.2 0 ps rfl;exact .cons (jmT h1 h2) (BL.rds ⟨Nat.succ.inj h.1,fun i qs e=>h.2 (i+1) qs e⟩)
theorem jnF (ps qs:List Pt) (o:Pt):(∃k:Int,jkk ps qs o=.int k)\/jkk ps qs o=.str "none":=by
 unfold jkk;split
 ·exact .inl ⟨_,rfl⟩
 ·split
  ·exact .inl ⟨_,rfl⟩
  ·exact .inr rfl
theorem bl_ex {bs:List Addr} (h:∀i,i<bs.length->∃ps,BM H (ad bs i) ps/\DrB ps):∃pss,BL H bs pss/\∀ps∈pss,DrB ps:=by
 obtain⟨f,hf⟩:∃f:Nat->List Pt,∀i,i<bs.length->BM H (ad bs i) (f i)/\DrB (f i):=⟨fun i=>if hi:i<bs.length then (h i hi).choose else [],fun i hi=>by simp only[dif_pos hi];exact (h i hi).choose_spec⟩;refine⟨(List.range bs.length).map f,⟨by rw[xaa,xba],fun i ps e=>?_⟩,fun ps hp=>?_⟩
 ·have il:i<bs.length:=by have:=(xae.mp e).1;rw[xaa,xba] at this;exact this
  rw[xav,List.getElem?_range il] at e;cases e;exact (hf i il).1
 ·obtain⟨i,hi,rfl⟩:=xah.mp hp;exact (hf i (xaU.mp hi)).2
theorem Is4.sb {b:Addr} (h:Is4 H b p) (n:Purs H L) (s:SameB L H H'):Is4 H' b p:=by
 obtain⟨r,hL,_⟩:=n;exact⟨s _ _ (fun z=>by have:=h.1;rw[z,hL] at this;cases this) h.1,h.2⟩
theorem BL.sb {bs:List Addr} (h:BL H bs pss) (n:Purs H L) (s:SameB L H H'):BL H' bs pss:=⟨h.1,fun i ps hi=>(h.2 i ps hi).sb n s⟩
inductive lqM (σ:L2.St) (J:Hp):Prop
 | mk (a ss L l e:Addr) (wd n:Int) (bs:List Addr) (pss:List (List Pt)) (o:Pt) (h:σ=[some (.ref a),some (.ref ss),some (.ref L),some (.int wd),some (.ref l),some (.ref e),some (.int n),none,none,none,none,none,none,none]) (hl:J l=some (.lst (bs.map V.ref))) (hb:BL J bs pss) (br:∀ps∈pss,DrB ps) (n4:pss.length<=4) (he:Is4 J e o) (bo:SpC o)
theorem DrB.w3 (h:DrB ps):(3<=ps.length/\ps.length<=8)/\∀p∈ps,SpB p/\p.w<=3:=by
 obtain⟨w,Z,vs,us,sc,rfl⟩:=h;refine⟨sc.len,fun p hp=>⟨sc.bp p hp,?_⟩⟩;obtain⟨u,hu,rfl⟩:=xah.mp hp;show w / gl [u.x,u.y,u.z,w]<=3;have:=Int.ediv_le_self (a:=w) (gl [u.x,u.y,u.z,w]) (by have:=sc.w1;omega);have:=sc.w3;omega
theorem jpQ {C:Addr} {e:Addr} {ed:FuncData} (T:Tc K mg t1 t2 cs SE fN C) (F:FunD K "law" "law" jfN e ed .none) (Dx:jal P w K mg base CX0 1 "_law_slots" ["script","many"] [] (spSl K)) (dG:jal P w K mg base CX0 1 "_law_purse" ["cell","k"] [] spPu) (de:jal P w K mg base CX0 1 "_law_take" ["purse","many"] [] jdq) (DA:jal P w K mg base CX0 1 "_law_wide" ["number"] [] spWd) (Dv:jal P w K mg base CX0 5 "_law_board" ["purse","wide"] [] jpK) (DF:jal P w K mg base CX0 3 "_law_eye" ["purse","wide"] [] spEy) (DB:jal P w K mg base CX0 3 "_law_flat" ["board","purse"] [] jpM) (Da:jal P w K mg base CX0 8 "is_free" ["boards","spot"] [] spIf) (dU:jal P w K mg base CX0 4 "_law_free" ["boards","spot"] [] jnB) (DE:jal P w K mg base CX0 5 "_law_due" ["one","other","spot"] [] jpI) (Dl:jal P w K mg base CX0 11 "_law_refused" ["which","one","other","spot"] [] jpG):FnOk P w K mg base CX0 12 e ed ["script"] (jkO K):=by
 refine F.ok jlH (by walk_at "ar") (fun cdv A outer s H vs Q E hr h=>?_);obtain⟨a,ns,rfl,hS,h63,q⟩:=h;have S:=jlH;refine⟨_,(jag (jat (i:=1) S.nd rfl (Or.inr rfl) (jae Dx hr.m rfl jaq (jaa (pv 0) (jaa jab jac jaj) jad)))
  (jag (jat (i:=2) S.nd rfl (Or.inl rfl) (jae dG hr.m rfl jaq (jaa (jam ix_list (pv 1) jab) (jaa jab jac jaj) jau)))
  (jag (jat (i:=3) S.nd rfl (Or.inr rfl) (jae DA hr.m rfl jaq (jaa (jae de hr.m rfl jaq (jaa (pv 2) (jaa jab jac jaj) jad)) jac jaG)))
  (jag (jbG (i:=4) rfl S.nd rfl rfl (N':=["k","slots","wide"]) (ix:=[1,3]) (by walk_at "cs") (jaO rfl T.m_range (jaa (jae de hr.m rfl jaq (jaa (pv 2) (jaa jab jac jaj) jad)) jac jaG)) (fun _ _ _ _=>jas (i:=0) (show (["k","slots","wide"]:List Str).Nodup from by decide +kernel) rfl (Or.inl rfl)) (fun _ _ _ _=>jaW) (fun _ _ _ _=>(jae Dv hr.m rfl jaq (jaa (jae dG hr.m rfl jaq (jaa (jam (jcY (K:=K) rfl) (pv 1) (jap jbt jab (pv 0))) (jaa (jap jbt jab (pv 0)) jac ja2) jau)) (jaa (pv 2) jac jad) jaG))))
  (jag (jat (i:=5) S.nd rfl (Or.inl rfl) (jae DF hr.m rfl jaq (jaa (jae dG hr.m rfl jaq (jaa (jam ix_list (pv 1) jab) (jaa jab jac jaj) jau)) (jaa (pv 3) jac jad) jaG)))
  (jag (jat (i:=6) S.nd rfl (Or.inl rfl) (jae de hr.m rfl jaq (jaa (pv 2) (jaa jab jac jaj) jad)))
  (jeD lqM (jaV (jav jgR (pv 6) (jaB jbg rfl T.m_len PySem.boot_len (jaa (pv 4) jac jad)) (jaC _))
  (jah (jat (i:=5) S.nd rfl (Or.inl rfl) (jae DB hr.m rfl jaq (jaa (jam ix_list (pv 4) (pv 6)) (jaa (jae dG hr.m rfl jaq (jaa (jam ix_list (pv 1) jab) (jaa jab jac jaj) jau)) jac jaG) jau))))
  jaz)
  (jag (jat (i:=7) S.nd rfl (Or.inl rfl) (ja3 jbR rfl T.m_list boot_list (jaa (pv 4) jac jad)))
  (jag (jat (i:=8) S.nd rfl (Or.inl rfl) (jae Da hr.m rfl jaq (jaa (pv 7) (jaa (pv 5) jac jad) jad)))
  (jag (jaV (PW.pt (jgM (jiu (jb2 (jaB jeC rfl T.m_isinstance boot_isinstance (jaa (pv 8) (jaa (jgL (v:=.ty "bool") rfl T.m_bool boot_bool rfl) jac jad) jad)))) (jgM (jav jgQ (pv 8) (jdd (jgm (jki hr)) (jae dU hr.m rfl jaq (jaa (pv 4) (jaa (pv 5) jac jad) jad)) (jaQ jac) (jaC _)) (jaC _)) (jhn (jav (jlw (jki hr)) (pv 7) (pv 4) (jaC _))))))
  (jah (jan jf6))
  jaz)
  (jag (jbe PassesOwn.never rfl (ja9 (pv 4)) (jas (i:=9) S.nd rfl (Or.inl rfl))
  (jah (jbe PassesOwn.never rfl (ja9 (pv 4)) (jas (i:=10) S.nd rfl (Or.inl rfl))
  (jag (jat (i:=11) S.nd rfl (Or.inl rfl) (jae DE hr.m rfl jaq (jaa (pv 9) (jaa (pv 10) (jaa (pv 5) jac jad) jad) jad)))
  (jah (jbe PassesOwn.never rfl (jaO rfl T.m_range (jaa jab jac jaj)) (jas (i:=12) S.nd rfl (Or.inl rfl))
  (jag (jat (i:=13) S.nd rfl (Or.inl rfl) (jae Dl hr.m rfl jaq (jaa (pv 12) (jaa (pv 9) (jaa (pv 10) (jaa (pv 5) jac jad) jad) jad) jad)))
  (jah (jaV (PW.pt (jgM (jav jgQ (pv 13) (pv 11) (jaC _)) (jhn (jb2 (jaB jeC rfl T.m_isinstance boot_isinstance (jaa (pv 13) (jaa (jgL (v:=.ty "bool") rfl T.m_bool boot_bool rfl) jac jad) jad))))))
  (jah (jan jf6))
  jaz)))))))))
  (jah (jan (jdd jpO (jae Da hr.m rfl jaq (jaa (jaQ jac) (jaa (pv 5) jac jad) jbn)) jf6 (jaC _))))))))))))))),?_⟩
 walk_at "rf";refine⟨a,ns,7,rfl,hS,h63,by decide,by decide,fun ss H1 ms s1 e1 l1=>?_⟩;have kS:∀{J:Hp},Same H1 J->SqL K J ss (ms.map V.int):=fun h=>SqL.of (h _ _ e1);have at_:∀i:Nat,i<7->∃m:Int,atI (ms.map V.int) (i:Int)=some (.int m):=fun i hi=>⟨ms[i]'(by omega),jaP (by rw[xav,xac (by omega)];rfl)⟩;obtain⟨m0,g0⟩:=at_ 0 (by decide);obtain⟨m5,g5⟩:=at_ 5 (by decide);obtain⟨m6,g6⟩:=at_ 6 (by decide);refine ixL (kS (Same.refl _)) g0 ⟨m0,0,rfl,by decide,by decide,fun L H2 nL s2 pL=>⟨L,5,rfl,pL,by decide,by decide,fun H3 d s3 p3 d0 d5=>⟨d,rfl,fun wd H4 hwd s4=>?_⟩⟩⟩;have z4:=(SameB.fresh s2 nL s3).trans s4;have p4:=p3.keep s4;have wd4:4<=wd:=by omega
 have wd6:wd<=1000000:=by omega
 refine⟨L,5,rfl,p4,by decide,by decide,fun H5 j s5 p5 j0 j5=>⟨j,rfl,by omega,by omega,fun acc hacc=>?_⟩⟩;have z5:Same H1 H5:=SameB.fresh z4 nL s5;obtain⟨n,rfl⟩:∃n:Nat,j=n:=⟨j.toNat,by omega⟩;rw[xco];have aL:acc≠L:=fun z=>by
  obtain⟨r,hL,_⟩:=p5;rw[z,hL] at hacc;cases hacc
 refine jlA (n:=n) (fun i y J=>∃(r:Addr) (ps:List Pt),y=.ref r/\BM J r ps/\DrB ps) (fun i y J J' ⟨r,ps,h1,⟨rs,h2,h3⟩,h4⟩ st=>⟨r,ps,h1,⟨rs,st _ _ h2,h3.keep st⟩,h4⟩) (by omega) hacc (fun i J R hi sJ hR=>?_) (fun ys H6 s6 e6 l6 p6=>?_)
 ·obtain⟨m,gm⟩:=at_ (1+i) (by omega);rw[show ((1+i:Nat):Int)=1+(0+(i:Int)) by omega] at gm;walk_at "rf";exact ixL (kS (z5.trans sJ)) gm ⟨m,1+(0+(i:Int)),rfl,by omega,by omega,fun Lk J1 nLk u1 pLk=>⟨Lk,wd,rfl,pLk,wd4,wd6,fun g J2 ps u2 hb db=>hR _ _ (SameB.fresh u1 nLk u2) ⟨g,ps,rfl,hb,db⟩⟩⟩
 obtain⟨bs,rfl⟩:∃bs:List Addr,ys=bs.map V.ref:=jd2 fun i y hy=>let ⟨r,_,h1,_⟩:=p6 i y hy;⟨r,h1⟩;rw[xaa] at l6;obtain⟨pss,hb,br⟩:=bl_ex (H:=H6) (bs:=bs) fun i hi=>by
  obtain⟨r,ps,h1,h2,h3⟩:=p6 i _ (jbm hi);cases h1;exact⟨ps,h2,h3⟩
 have n4:pss.length<=4:=by have:=hb.1;omega
 have z6:=z5.trans s6;have p6':=p5.keep s6;refine ixL (kS z6) g5 ⟨m5,5,rfl,by decide,by decide,fun L5 H7 nL5 s7 pL5=>⟨L5,wd,rfl,pL5,wd4,wd6,fun gE H8 o s8 p8 hE bE b21 gE1=>?_⟩⟩;have y8:=SameB.fresh s7 nL5 s8;refine⟨L,8,rfl,p6'.keep y8,by decide,by decide,fun H9 n9 s9 p9 n90 n98=>⟨?_,?_⟩⟩
 ·have z8:=z6.trans y8;have k9:Same H1 H9:=SameB.fresh z8 nL s9;have e9:H9 acc=some (.lst (bs.map V.ref)):=s9 _ _ aL (y8 _ _ e6);have b9:BL H9 bs pss:=(hb.keep y8).sb (p6'.keep y8) s9;have E9:Is4 H9 gE o:=hE.sb (p6'.keep y8) s9;refine⟨_,.inl (SqL.of e9),n9,rfl,?_⟩;by_cases c:n9<(((bs.map V.ref).length:Nat):Int)
  ·rw[if_pos c];obtain⟨i,rfl⟩:∃i:Nat,n9=i:=⟨n9.toNat,by omega⟩;have il:i<bs.length:=by rw[xaa] at c;omega
   obtain⟨ps,ep⟩:∃ps,pss[i]?=some ps:=⟨_,xac (by have:=b9.1;omega)⟩;have bi:=b9.2 i ps ep;obtain⟨w3,w4⟩:=(br ps (xaD ep)).w3;refine ixL (SqL.of e9) (v:=.ref (ad bs i)) (jaP (jbm il)) (ixL (kS k9) g6 ⟨m6,6,rfl,by decide,by decide,fun L6 H10 nL6 s10 pL6=>⟨ad bs i,L6,ps,rfl,bi.keep s10,pL6,w3.1,w4,fun gF H11 N s11 hN bN=>?_⟩⟩);have y11:=SameB.fresh s10 nL6 s11;exact⟨a,ss,L,acc,gF,wd,i,bs,pss,N,rfl,y11 _ _ e9,b9.keep y11,br,n4,hN,bN⟩
  ·rw[if_neg c];exact⟨a,ss,L,acc,gE,wd,n9,bs,pss,o,rfl,e9,b9,br,n4,E9,bE.c⟩
 clear kS at_ z4 z5 z6;rintro σ J0 ⟨a,ss,L,l,e,wd,n,bs,pss,o,rfl,hl,hb,br,n4,he,bo⟩;walk_at "rf";refine⟨_,.inl (SqL.of hl),fun l1 hl1=>?_⟩;refine jb4 hl1 fun J1 s1 e1=>⟨l1,e,bs,pss,o,rfl,e1,hb.keep s1,br,he.keep s1,fun J2 r s2 hr=>⟨_,.bl r,_,rfl,?_⟩⟩;try rw[if_neg (by decide)]
 have s12:=s1.trans s2;have b620:o.bd 620:=⟨Bd.mono bo.bd.1,Bd.mono bo.bd.2.1,Bd.mono bo.bd.2.2.1,Bd.mono bo.bd.2.2.2⟩;have bq:∀ps∈pss,3<=ps.length/\∀p∈ps,p.bd 100:=fun ps hp=>⟨(br ps hp).w3.1.1,fun p h=>let b:=((br ps hp).w3.2 p h).1;⟨Bd.mono b.x,Bd.mono b.y,Bd.mono b.z,Bd.mono b.w⟩⟩;refine⟨l,e,bs,pss,o,rfl,s12 _ _ hl,hb.keep s12,n4,bq,he.keep s12,b620,fun g J3 s3 e3=>⟨by decide,fun p hp=>?_⟩⟩;refine jb4 hp fun J4 s4 e4=>?_;refine jen (x:=frs o pss) (y:=[]) (SqL.of (s4 _ _ e3)) (SqL.of e4) ?_;have er:r=decide (frs o pss=[]):=xbX.mpr (hr.trans (frs_nil.symm.trans decide_eq_true_iff.symm));rw[<- er];refine⟨rfl,?_⟩;rw[if_pos rfl];have s14:=s12.trans (s3.trans s4);obtain⟨o1,o2⟩:=jpP pss;refine⟨jkl pss,jkl pss,.lst (SqL.of ((s2.trans (s3.trans s4)) _ _ e1)) (hb.keep s14).rds,.lst (SqL.of (s14 _ _ hl)) (hb.keep s14).rds,o1,o1,?_⟩;rw[o2];refine⟨false,rfl,?_⟩;rw[if_neg (by decide)];have kl:∀{J:Hp},Same J4 J->SqL K J l (bs.map V.ref):=fun h=>SqL.of ((s14.trans h) _ _ hl);refine⟨⟨_,kl (Same.refl _)⟩,jbC (K:=K) (a:=l) (xs:=bs.map V.ref) (fun i σ J=>Same J4 J/\∃o9 o10 o11 o12 o13:Option V,σ=[some (V.ref a),some (V.ref ss),some (V.ref L),some (V.int wd),some (V.ref l),some (V.ref e),some (V.int n),some (V.ref l1),some (V.bl r),o9,o10,o11,o12,o13]) ⟨Same.refl _,_,_,_,_,_,rfl⟩ (fun i σ J _ h=>kl h.1) ?_ ?_⟩
 ·rintro i v σ J hi ⟨sJ,o9,o10,o11,o12,o13,rfl⟩;have il:i<bs.length:=by have:=(xae.mp hi).1;rw[xaa] at this;exact this
  rw[jbm il] at hi;cases hi;obtain⟨ps,ep⟩:∃ps,pss[i]?=some ps:=⟨_,xac (by have:=hb.1;omega)⟩;have mp:=xaD ep;have hp1:=hb.2 i ps ep;walk_at "rf";refine⟨⟨_,kl sJ⟩,jbC (K:=K) (a:=l) (xs:=bs.map V.ref) (fun j σ J'=>Same J4 J'/\∃o10 o11 o12 o13:Option V,σ=[some (V.ref a),some (V.ref ss),some (V.ref L),some (V.int wd),some (V.ref l),some (V.ref e),some (V.int n),some (V.ref l1),some (V.bl r),some (V.ref (ad bs i)),o10,o11,o12,o13]) ⟨sJ,_,_,_,_,rfl⟩ (fun i σ J _ h=>kl h.1) ?_ ?_⟩
  ·rintro j v σ J' hj ⟨sJ',o10',o11',o12',o13',rfl⟩;have jl:j<bs.length:=by have:=(xae.mp hj).1;rw[xaa] at this;exact this
   rw[jbm jl] at hj;cases hj;obtain⟨qs,eq⟩:∃qs,pss[j]?=some qs:=⟨_,xac (by have:=hb.1;omega)⟩;have mq:=xaD eq;have hq1:=hb.2 j qs eq;have s0:=s14.trans sJ';walk_at "rf";refine⟨_,_,e,ps,qs,o,rfl,hp1.keep s0,hq1.keep s0,he.keep s0,b620,bq ps mp,bq qs mq,fun J5 s5=>⟨by decide,by decide,?_⟩⟩;refine jcy (fun i' σ J6=>Same J5 J6/\∃o12 o13:Option V,σ=[some (V.ref a),some (V.ref ss),some (V.ref L),some (V.int wd),some (V.ref l),some (V.ref e),some (V.int n),some (V.ref l1),some (V.bl r),some (V.ref (ad bs i)),some (V.ref (ad bs j)),some (jkk ps qs o),o12,o13]) ⟨Same.refl _,_,_,rfl⟩ ?_ ?_
   ·rintro k σ J6 hk ⟨s6,o12,o13,rfl⟩;obtain⟨w1,Z1,vs1,us1,c1,rfl⟩:=br ps mp;obtain⟨w2,Z2,vs2,us2,c2,rfl⟩:=br qs mq;have s06:=s0.trans (s5.trans s6);walk_at "rf";refine⟨_,_,_,e,w1,w2,Z1,Z2,vs1,vs2,us1,us2,o,rfl,hp1.keep s06,hq1.keep s06,he.keep s06,bo,c1,c2,fun J7 s7=>?_⟩;rcases jnF (us1.map (spP w1)) (us2.map (spP w2)) o with ⟨kk,ek⟩ | ek<;>rw[ek]
    ·refine⟨rfl,?_⟩;rw[if_pos rfl];refine⟨_,.int kk,_,rfl,?_⟩;try rw[if_neg (by decide)]
     exact⟨s6.trans s7,_,rfl⟩
    ·refine⟨rfl,?_⟩;rw[if_pos rfl];refine⟨_,.str _,_,rfl,?_⟩;try rw[if_neg (by decide)]
     exact⟨s6.trans s7,_,rfl⟩
   ·rintro σ J6 ⟨s6,o12,o13,rfl⟩;exact⟨sJ'.trans (s5.trans s6),_,_,_,_,rfl⟩
  ·rintro σ J' ⟨sJ',o10',o11',o12',o13',rfl⟩;exact⟨sJ',_,_,_,_,_,rfl⟩
 ·rintro σ J ⟨sJ,o9,o10,o11,o12,o13,rfl⟩;walk_at "rf";refine⟨by decide,fun p' hp'=>?_⟩;refine jb4 hp' fun J7 s7 e7=>⟨p',e,[],[],o,rfl,e7,⟨rfl,fun i ps h=>by simp at h⟩,fun ps h=>(nomatch h),he.keep (s14.trans (sJ.trans s7)),fun J8 r' s8 hr'=>?_⟩;rw[hr'.mpr fun ps h=>(nomatch h)];exact⟨true,rfl,q _⟩
end
def xcOk (K:PySem.W.Frag) (C:Addr):Bool:=(PySem.W.clsIn K C).isSome&&PySem.W.findIn K (.ref C) "__getattribute__"==some (some (.builtin "BaseException.__getattribute__"))&&PySem.W.findIn K (.ref C) "__getattr__"==some none
 && PySem.W.subIn K (.ref C) (.type "BaseException")==some true&&PySem.W.findIn K (.ref C) "__class__"==some (some (.builtin "object.__class__"))&&PySem.W.specialIn K (.builtin "object.__class__") "__get__"==some (some (.builtin "getset_descriptor.__get__"))
 && PySem.W.takesIn K (.builtin "object.__class__")==some true&&PySem.W.mroIn K C (.type "object")==some true
theorem xcOk.to {K:PySem.W.Frag} {C:Addr} (h:xcOk K C=true):XCls K C:=by
 unfold xcOk at h;simp only[xbk,beq_iff_eq] at h;obtain⟨⟨⟨⟨⟨⟨⟨h1,h2⟩,h3⟩,h4⟩,h5⟩,h6⟩,h7⟩,h8⟩:=h;exact⟨h1,h2,h3,h4,h5,h6,h7,h8⟩
def xaOk (K:PySem.W.Frag) (C:Addr) (f:Str):Bool:=PySem.W.findIn K (.ref C) "__setattr__"==some (some (.builtin "object.__setattr__"))&&((PySem.W.clsIn K C).any fun cd=>jdg cd.mro)&&PySem.W.hasDictIn K C&&PySem.W.findIn K (.ref C) f==some none
theorem xaOk.to {K:PySem.W.Frag} {C:Addr} {f:Str} (h:xaOk K C f=true):XAttr K C f:=by
 unfold xaOk at h;simp only[xbk,beq_iff_eq] at h;obtain⟨⟨⟨h1,h2⟩,h3⟩,h4⟩:=h;exact⟨h1,h2,h3,h4⟩
def clsJ (K:PySem.W.Frag) (S C:Addr) (cs:List Addr):Bool:=xcOk K C&&PySem.W.keepIn K (.ref C)&&PySem.W.exmOne K (.ref C) (.ref S)==some true&&PySem.W.kitOne K (.ref C) (.ref C)==some true&&PySem.W.kitOne K (.ref C) (.type "ValueError")==some true&&cs.all (fun c=>PySem.W.kitOne K (.ref C) (.ref c)==some false)
variable {L sd S fN SE:Addr}
theorem clsJ.to {K:PySem.W.Frag} {C:Addr} {cs:List Addr} (h:clsJ K S C cs=true):XCls K C/\PySem.W.keepIn K (.ref C)=true/\PySem.W.exmOne K (.ref C) (.ref S)=some true/\PySem.W.kitOne K (.ref C) (.ref C)=some true/\PySem.W.kitOne K (.ref C) (.type "ValueError")=some true/\∀c∈cs,PySem.W.kitOne K (.ref C) (.ref c)=some false:=by
 unfold clsJ at h;simp only[xbk,beq_iff_eq] at h;obtain⟨⟨⟨⟨⟨h1,h2⟩,h3⟩,h4⟩,h5⟩,h6⟩:=h;exact⟨xcOk.to h1,h2,h3,h4,h5,fun c hc=>by have:=xb9.mp h6 c hc;simpa using this⟩
@[elab_as_elim] theorem len1 {P:List Value->Prop} (us:List Value) (hl:us.length=1) (h:∀a,P [a]):P us:=by
  cases us with
  | nil=>exact absurd hl (by decide)
  | cons a r =>
    cases r with
    | nil=>exact h a
    | cons b r=>exact absurd (Nat.succ.inj hl) (Nat.succ_ne_zero _)
@[elab_as_elim] theorem len2 {P:List Value->Prop} (us:List Value) (hl:us.length=2) (h:∀a0 a1,P [a0,a1]):P us:=by
 cases us with
 | nil=>exact absurd hl (by decide)
 | cons a0 r=>exact len1 (P:=fun r=>P (a0::r)) r (Nat.succ.inj hl) fun a1=>h a0 a1
@[elab_as_elim] theorem len3 {P:List Value->Prop} (us:List Value) (hl:us.length=3) (h:∀a0 a1 a2,P [a0,a1,a2]):P us:=by
 cases us with
 | nil=>exact absurd hl (by decide)
 | cons a0 r=>exact len2 (P:=fun r=>P (a0::r)) r (Nat.succ.inj hl) fun a1 a2=>h a0 a1 a2
@[elab_as_elim] theorem len4 {P:List Value->Prop} (us:List Value) (hl:us.length=4) (h:∀a0 a1 a2 a3,P [a0,a1,a2,a3]):P us:=by
 cases us with
 | nil=>exact absurd hl (by decide)
 | cons a0 r=>exact len3 (P:=fun r=>P (a0::r)) r (Nat.succ.inj hl) fun a1 a2 a3=>h a0 a1 a2 a3
@[elab_as_elim] theorem len5 {P:List Value->Prop} (us:List Value) (hl:us.length=5) (h:∀a0 a1 a2 a3 a4,P [a0,a1,a2,a3,a4]):P us:=by
 cases us with
 | nil=>exact absurd hl (by decide)
 | cons a0 r=>exact len4 (P:=fun r=>P (a0::r)) r (Nat.succ.inj hl) fun a1 a2 a3 a4=>h a0 a1 a2 a3 a4
inductive AtK (K:PySem.W.Frag) (x:Str) (st:Stmt):Prop
 | mk (f:Addr) (oc kV dc pm cd ct:Value) (od an:Option Addr) (sl:Array (Option Value)) (a:PySem.W.nsIn K mainGlobals x=some (some (.ref f))) (l:K.lookup f=some ⟨oc,od,.func (PySem.W.fnOf x x (jbj st) (jaS st) (jai st) .none kV dc pm an cd ct),sl⟩) (c:PySem.W.codeIn K cd x=true) (k:PySem.W.keepIn K (.ref f)=true)
local macro_rules | `(tactic| walk_at "bn") => `(tactic| first | exact fun _ _ _ _ _ _ us hl => len1 us hl fun _ => rfl | exact fun _ _ _ _ _ _ us hl => len2 us hl fun _ _ => rfl | exact fun _ _ _ _ _ _ us hl => len3 us hl fun _ _ _ => rfl | exact fun _ _ _ _ _ _ us hl => len4 us hl fun _ _ _ _ => rfl | exact fun _ _ _ _ _ _ us hl => len5 us hl fun _ _ _ _ _ => rfl)
theorem AtK.go {K:PySem.W.Frag} {h:Heap} {mg:Str->Option Value} {x:Str} {st:Stmt} {ps:List Str} (H:AtK K x st) (X:K.In h) (G:h.Ns mainGlobals mg) (hb:∀(kV doc pm:Value) (an:Option Addr) (cdv ct:Value) (us:List Value),us.length=ps.length->bindArgs (PySem.W.fnOf x x (jbj st) (jaS st) (jai st) .none kV doc pm an cdv ct) ⟨us,[]⟩=pure (ps.zip us):=by walk_at "bn"):At K mg x st ps [] :=
 let ⟨_,_,_,_,_,_,_,_,_,_,a,l,c,k⟩:=H
 at_mk X G hb a l c k
theorem jpR {l:PySem.W.OpenLaw} {w:World} {K:PySem.W.Frag} {h:Heap} {mg:Str->Option Value} {fa CR E0 E1 E2 E3 fF D:Addr} {t1:Tok} {tD:Tok} (X:K.In h) (G:h.Ns mainGlobals mg) (hfa:mg "law"=some (.ref fa))
  {f63:Addr} {odN anN odF anF od63 an63:Option Addr} {slN slF sl63:Array (Option Value)} {ocN kVN dcN pmN cdN ctN ocF kVF dcF pmF cdF ctF oc63 kV63 dc63 pm63 cd63 ct63:Value} {oD:Obj} {nD:Nat}
  (kSE:PySem.W.nsIn K mainGlobals "SightError"=some (some (.ref SE))) (kCR:PySem.W.nsIn K mainGlobals "NotFree"=some (some (.ref CR))) (kVE:PySem.W.nsIn K mainGlobals "ValueError"=some none)
  (kE0:PySem.W.nsIn K mainGlobals "NoBoard"=some (some (.ref E0)))
  (kE1:PySem.W.nsIn K mainGlobals "NoPlane"=some (some (.ref E1)))
  (kE2:PySem.W.nsIn K mainGlobals "NoSpot"=some (some (.ref E2)))
  (kE3:PySem.W.nsIn K mainGlobals "NoText"=some (some (.ref E3)))
  (kIN:PySem.W.findIn K (.ref CR) "__init__"=some (some (.ref fN))) (lN:K.lookup fN=some ⟨ocN,odN,.func (PySem.W.fnOf "__init__" "NotFree.__init__" (jbj jcl) (jaS jcl) (jai jcl) .none kVN dcN pmN anN cdN ctN),slN⟩) (cN:PySem.W.codeIn K cdN "NotFree.__init__"=true) (kN:PySem.W.keepIn K (.ref fN)=true) (nN:PySem.W.isFn K (.ref fN)=true)
  (rCR:clsJ K SE CR [E0,E1,E2,E3]=true) (xCR:jhB K CR [.type "ValueError",.type "Exception",.type "BaseException",.type "object"] "ValueError.__new__" fN=true) (wCR:xaOk K CR "board"=true)
  (aS0:PySem.W.nsIn K mainGlobals "SHORT_BITS"=some (some (.int 2000 t1)))
  (aF:PySem.W.nsIn K mainGlobals "made_spot"=some (some (.ref fF))) (lF:K.lookup fF=some ⟨ocF,odF,.func (PySem.W.fnOf "made_spot" "made_spot" (jbj jbb) (jaS jbb) (jai jbb) (.ref D) kVF dcF pmF anF cdF ctF),slF⟩) (cF:PySem.W.codeIn K cdF "made_spot"=true) (kF:PySem.W.keepIn K (.ref fF)=true) (lD:K.lookup D=some oD) (hD:oD.data=.seq #[.int 1 tD] nD)
  (a0:AtK K "_law_slots" jcD)
  (a1:AtK K "_law_purse" jcE)
  (a2:AtK K "_law_take" jdj)
  (a3:AtK K "_law_wide" jdk)
  (a4:AtK K "_law_arrow" jcF)
  (a5:AtK K "_law_cross" jcG)
  (a6:AtK K "_law_unlike" jcg)
  (a7:AtK K "_law_sides" jcH)
  (a8:AtK K "_law_rows" jdl)
  (a9:AtK K "_law_corners" jbY)
  (a10:AtK K "_law_divisor" jbX)
  (a11:AtK K "_law_spot" jdm)
  (a12:AtK K "_law_formed" jch)
  (a13:AtK K "_law_board" jcI)
  (a14:AtK K "_law_eye" jdZ)
  (a15:AtK K "_law_flat" jdn)
  (a16:AtK K "without" jeM)
  (a17:AtK K "crossed" jeL)
  (a18:AtK K "determinant" jcb)
  (a19:AtK K "minor_of" jdS)
  (a20:AtK K "rough_plane" jcc)
  (a21:AtK K "greatest_divisor" jbl)
  (a22:AtK K "in_lowest_terms" jbo)
  (a23:AtK K "made_plane" jcz)
  (a24:AtK K "is_plain" jdT)
  (a25:AtK K "turned_about" jbV)
  (a26:AtK K "plane_through" jbI)
  (a27:AtK K "plane_of" jdV)
  (a28:AtK K "sign_of" jeK)
  (a29:AtK K "height_over" jcd)
  (a30:AtK K "side_of" jeN)
  (a31:AtK K "first_not_free" jbw)
  (a32:AtK K "is_free" jeP)
  (a33:AtK K "_law_arm" jd0)
  (a34:AtK K "_law_upright" jbZ)
  (a35:AtK K "_law_dot" jdY)
  (a36:AtK K "_law_height" jci)
  (a37:AtK K "_law_free" jdo)
  (a38:AtK K "_law_due" jd1)
  (a39:AtK K "refuse_unless_free" ja8)
  (a40:AtK K "edges_of" jdU)
  (a41:AtK K "met_at" jfK)
  (a42:AtK K "sided_round" jce)
  (a43:AtK K "stands_first" jbU)
  (a44:AtK K "formed" jfL)
  (a45:AtK K "cut_by" jfM)
  (a46:AtK K "kept_by" jeO)
  (a47:AtK K "turned_towards" jbx)
  (a48:AtK K "side_faces" jcC)
  (a49:AtK K "pyramid_faces" jbJ)
  (a50:AtK K "does_hide" jdi)
  (a51:AtK K "is_between" jcA)
  (a52:AtK K "is_parting" jcB)
  (a53:AtK K "arrow_between" jbH)
  (a54:AtK K "plane_along_edges" jbc)
  (a55:AtK K "parting_plane" jbK)
  (a56:AtK K "spot_within" jcf)
  (a57:AtK K "sight_through" jbL)
  (a58:AtK K "sight_of" jdX)
  (a59:AtK K "is_sight" jdW)
  (a60:AtK K "sight_judged" jbW)
  (a61:AtK K "_law_asked" jcJ)
  (a62:AtK K "_law_refused" jb0)
  (a63:PySem.W.nsIn K mainGlobals "law"=some (some (.ref f63))) (l63:K.lookup f63=some ⟨oc63,od63,.func (PySem.W.fnOf "law" "law" (jbj jfN) (jaS jfN) (jai jfN) .none kV63 dc63 pm63 an63 cd63 ct63),sl63⟩) (c63:PySem.W.codeIn K cd63 "law"=true) (k63:PySem.W.keepIn K (.ref f63)=true)
  (z0:PySem.W.nsIn K mainGlobals "sum"=some none) (z1:PySem.W.nsIn K mainGlobals "isinstance"=some none) (z2:PySem.W.nsIn K mainGlobals "bool"=some none) (z3:PySem.W.nsIn K mainGlobals "abs"=some none) (z4:PySem.W.nsIn K mainGlobals "max"=some none) (z5:PySem.W.nsIn K mainGlobals "min"=some none) (z6:PySem.W.nsIn K mainGlobals "len"=some none) (z7:PySem.W.nsIn K mainGlobals "range"=some none) (z8:PySem.W.nsIn K mainGlobals "tuple"=some none) (z9:PySem.W.nsIn K mainGlobals "list"=some none) (z10:PySem.W.nsIn K mainGlobals "reversed"=some none) (z11:PySem.W.nsIn K mainGlobals "enumerate"=some none) :
  ∃fd:FuncData,(∀(s:Shared) (v:Value),BindsTo s fd ⟨[v],[]⟩ [("script",v)])/\∀base:Heap,K.In base->base.Ns mainGlobals mg->FnOk l.prog w K mg base CX0 12 fa fd ["script"] (jkO K):=by
 have e:=hfa.symm.trans (PySem.W.mg_of X G a63);cases e;have T:Tx K mg t1 t1:=⟨PySem.W.mg_none_of X G z0,PySem.W.mg_none_of X G z1,PySem.W.mg_none_of X G z2,PySem.W.mg_none_of X G z3,PySem.W.mg_none_of X G z4,PySem.W.mg_none_of X G z5,PySem.W.mg_none_of X G z6,PySem.W.mg_none_of X G z7,PySem.W.mg_none_of X G z8,PySem.W.mg_none_of X G z9,PySem.W.mg_none_of X G z10,PySem.W.mg_none_of X G z11,PySem.W.mg_of X G aS0⟩;have RC:=clsJ.to rCR;have TC:Tc K mg t1 t1 (fun i=>[E0,E1,E2,E3].getD i 0) SE fN CR:={ toTx:=T,m_ValueError:=PySem.W.mg_none_of X G kVE,m_SightError:=PySem.W.mg_of X G kSE,m_NotFree:=PySem.W.mg_of X G kCR,m_NoBoard:=PySem.W.mg_of X G kE0,m_NoPlane:=PySem.W.mg_of X G kE1,m_NoSpot:=PySem.W.mg_of X G kE2,m_NoText:=PySem.W.mg_of X G kE3,o_NotFree:=⟨xCR,PySem.F.excBase_ValueError,nN,RC.2.1⟩,xc:=RC.1,xa:=xaOk.to wCR,em:=RC.2.2.1,kF:=RC.2.2.2.1,kV:=RC.2.2.2.2.1,kO:=RC.2.2.2.2.2 };have FN:=jfE (st:=jcl) lN cN kN;have BN:Binds K (PySem.W.fnOf "__init__" "NotFree.__init__" (jbj jcl) (jaS jcl) (jai jcl) .none kVN dcN pmN anN cdN ctN) ["self","board"] []:=.all (fun us hl=>match us,hl with | [_,_],_=>rfl);have AF:At K mg "made_spot" jbb ["x","y","z","w"] []:=jlx (ds:=[]) X G (fun _ _ _ _ _ _ us hl=>match us,hl with | [_,_,_,_],_=>⟨_,rfl,rfl⟩) aF lF cF kF lD hD .nil;have AF1:At K mg "made_spot" jbb ["x","y","z","w"] [.int 1]:=jlx (ds:=[.int 1 tD]) X G (fun _ _ _ _ _ _ us hl=>by
  rw[xal] at hl;have hl2:us.length=3:=by simpa using hl
  match us,hl2 with
  | [u0,u1,u2],_=>exact⟨_,rfl,rfl⟩) aF lF cF kF lD hD (.cons ⟨_,rfl⟩ .nil)
 have FL:=jfE (st:=jfN) l63 c63 k63;refine⟨PySem.W.fnOf "law" "law" (jbj jfN) (jaS jfN) (jai jfN) .none kV63 dc63 pm63 an63 cd63 ct63,fun s v=>.of_eq rfl,fun base _ _=>?_⟩;have D0:=ok_sl (P:=l.prog) (w:=w) (base:=base) T (a0.go X G);have D1:=ok_pu (P:=l.prog) (w:=w) (base:=base) T (a1.go X G);have D2:=jle (P:=l.prog) (w:=w) (base:=base) T (a2.go X G);have D3:=ok_wd (P:=l.prog) (w:=w) (base:=base) T (a3.go X G);have D4:=ok_ar (P:=l.prog) (w:=w) (base:=base) T (a4.go X G) D2;have D5:=jo3 (P:=l.prog) (w:=w) (base:=base) T (a5.go X G);have D6:=ok_ul (P:=l.prog) (w:=w) (base:=base) T (a6.go X G) D5;have D7:=ok_si (P:=l.prog) (w:=w) (base:=base) T (a7.go X G) D4 D5 D6;have D8:=ok_rw (P:=l.prog) (w:=w) (base:=base) T (a8.go X G);have D9:=ok_co (P:=l.prog) (w:=w) (base:=base) T (a9.go X G) D4 D7 D2 D8;have D10:=jo1 (P:=l.prog) (w:=w) (base:=base) T (a10.go X G);have D11:=jo2 (P:=l.prog) (w:=w) (base:=base) T (a11.go X G) D10;have D12:=jo8 (P:=l.prog) (w:=w) (base:=base) T (a12.go X G) D11;have D13:=jpL (P:=l.prog) (w:=w) (base:=base) T (a13.go X G) D2 D9 D12;have D14:=ok_ey (P:=l.prog) (w:=w) (base:=base) T (a14.go X G) D11 D4 D2;have D15:=jpN (P:=l.prog) (w:=w) (base:=base) T (a15.go X G) D2 D11;have D16:=jih (P:=l.prog) (w:=w) (base:=base) T (a16.go X G);have D17:=jig (P:=l.prog) (w:=w) (base:=base) T (a17.go X G);have D18:=jom (P:=l.prog) (w:=w) (base:=base) T (a18.go X G) D17;have D19:=jkP (P:=l.prog) (w:=w) (base:=base) T (a19.go X G) D16 D18;have D20:=jkS (P:=l.prog) (w:=w) (base:=base) T (a20.go X G) D19;have D21:=ok_gd (P:=l.prog) (w:=w) (base:=base) T (a21.go X G);have D22:=jol (P:=l.prog) (w:=w) (base:=base) T (a22.go X G) D21;have D23:=jkU (P:=l.prog) (w:=w) (base:=base) T (a23.go X G) D22;have D24:=jkR (P:=l.prog) (w:=w) (base:=base) T (a24.go X G);have D25:=jjn (P:=l.prog) (w:=w) (base:=base) T (a25.go X G);have D26:=jii (P:=l.prog) (w:=w) (base:=base) T (a26.go X G) D20 D23 D24 D25;have D27:=jij (P:=l.prog) (w:=w) (base:=base) T (a27.go X G) D26;have D28:=jmR (P:=l.prog) (w:=w) (base:=base) T (a28.go X G);have D29:=ok_ht (P:=l.prog) (w:=w) (base:=base) T (a29.go X G);have D30:=jmS (P:=l.prog) (w:=w) (base:=base) T (a30.go X G) D28 D29;have D31:=jpC (P:=l.prog) (w:=w) (base:=base) T (a31.go X G) D27 D30;have D32:=ok_if (P:=l.prog) (w:=w) (base:=base) T (a32.go X G) D31;have D33:=jpg (P:=l.prog) (w:=w) (base:=base) T (a33.go X G);have D34:=jpi (P:=l.prog) (w:=w) (base:=base) T (a34.go X G) D33 D5;have D35:=jo5 (P:=l.prog) (w:=w) (base:=base) T (a35.go X G);have D36:=jpk (P:=l.prog) (w:=w) (base:=base) T (a36.go X G) D34 D33 D35;have D37:=ok_fr (P:=l.prog) (w:=w) (base:=base) T (a37.go X G) D36;have D38:=jpJ (P:=l.prog) (w:=w) (base:=base) T (a38.go X G) D37;have D39:=jpD (P:=l.prog) (w:=w) (base:=base) TC (jll TC FN) BN (a39.go X G) D31;have D40:=jkX (P:=l.prog) (w:=w) (base:=base) T (a40.go X G);have D41:=jox (P:=l.prog) (w:=w) (base:=base) T AF D22;have D42:=joy (P:=l.prog) (w:=w) (base:=base) T (a41.go X G) D29 D41;have D43:=jkZ (P:=l.prog) (w:=w) (base:=base) T (a42.go X G) D40 D30 D42;have D44:=jkV (P:=l.prog) (w:=w) (base:=base) T (a43.go X G);have D45:=jjo (P:=l.prog) (w:=w) (base:=base) T (a44.go X G) D44;have D46:=jmZ (P:=l.prog) (w:=w) (base:=base) T (a45.go X G) D30 D43 D45;have D47:=jnk (P:=l.prog) (w:=w) (base:=base) T (a46.go X G) D46;have D48:=ok_tt (P:=l.prog) (w:=w) (base:=base) T (a47.go X G) D30 D25;have D49:=ok_sf (P:=l.prog) (w:=w) (base:=base) T (a48.go X G) D48 D26 D40;have D50:=ok_py (P:=l.prog) (w:=w) (base:=base) T (a49.go X G) D48 D27 D49;have D51:=ok_dh (P:=l.prog) (w:=w) (base:=base) TC (a50.go X G) D39 D47 D50;have D52:=ok_ib (P:=l.prog) (w:=w) (base:=base) T (a51.go X G) D30;have D53:=ok_ip (P:=l.prog) (w:=w) (base:=base) T (a52.go X G) D30 D52;have D54:=jpp (P:=l.prog) (w:=w) (base:=base) T (a53.go X G);have D55:=jpv (P:=l.prog) (w:=w) (base:=base) T (a54.go X G) D54 D40 D20 D25 D53 D23;have D56:=ok_pp (P:=l.prog) (w:=w) (base:=base) T (a55.go X G) D27 D25 D53 D55;have D57:=ok_sw (P:=l.prog) (w:=w) (base:=base) T (a56.go X G) D41;have D58:=ok_st (P:=l.prog) (w:=w) (base:=base) T (a57.go X G) D57 D27 D42;have D59:=ok_so (P:=l.prog) (w:=w) (base:=base) TC (a58.go X G) D39 D50 D47 D56 D58;have D60:=jpn (P:=l.prog) (w:=w) (base:=base) T (a59.go X G);have D61:=ok_ju (P:=l.prog) (w:=w) (base:=base) TC (a60.go X G) D39 D60 D53;have D62:=jpF (P:=l.prog) (w:=w) (base:=base) TC (a61.go X G) D51 D59 D61;have D63:=jpH (P:=l.prog) (w:=w) (base:=base) TC (a62.go X G) D62;exact jpQ TC FL D0 D1 D2 D3 D13 D14 D15 D32 D37 D38 D63
theorem walk {l:PySem.W.OpenLaw} {q:Program} {loose:List Str} {XP:(Str->Option Value)->Heap->Prop} {YP:World->Heap->Prop} {d:DefRec} {K:Params->PySem.W.Frag} (hn:l.most=some 63) (hdf:d.params.defaults=[])
  (hY:∀(w:World) (h:Heap),YP w h->(K w.params).In h)
  (F:∀(w:World) (mg:Str->Option Value) (fa:Addr) (h:Heap),(K w.params).In h->h.Ns mainGlobals mg->mg d.name=some (.ref fa) ->
   ∃fd:FuncData,(∀(s:Shared) (u:Value),BindsTo s fd ⟨[u],[]⟩ [("script",u)])/\∀base:Heap,(K w.params).In base->base.Ns mainGlobals mg->FnOk l.prog w (K w.params) mg base CX0 12 fa fd ["script"] (jkO (K w.params))) :
  PySem.W.WalkO q loose XP YP l.row.toRowW d [] (fun f vs=>PySem.call f vs) :=
 L2.jms (n:=63) (k:=12) (x:="script") (CX:=fun _=>CX0) (sp:=fun w=>jkO (K w.params)) hn (by decide) hdf ⟨rfl,by decide,by decide⟩ hY F (fun _ _ a ns hl _ hS=>⟨a,ns,rfl,hS,hl,fun _=>rfl⟩) fun _ _ _ _ _ z=>z
end My
namespace PySem.W.Fast
def tw10028847333956290257:=0
def tw10059744522913674378:=0
def tw10074871725079475818:=0
def tw10224314076067941482:=0
def tw10255496416952347961:=0
def tw10314888340533173539:=0
def tw10367992325836198429:=0
def tw10403285522155943515:=0
def tw10497091679904583833:=0
def tw10514705555575372193:=0
def tw105727768037377509:=0
def tw10703567026532729623:=0
def tw1072944059518359498:=0
def tw10840601315881429948:=0
def tw10937286571347882338:=0
def tw10966192327827451262:=0
def tw11006282206857260384:=0
def tw11032447297428505736:=0
def tw11059064708479034019:=0
def tw11117353746343335757:=0
def tw11128528635822505729:=0
def tw11163617287607772646:=0
def tw11235673666200939268:=0
def tw11256438747593067736:=0
def tw11412402176697078692:=0
def tw1150391085199923824:=0
def tw11511937806204858716:=0
def tw11571829386091819442:=0
def tw11580918192044676361:=0
def tw11755484695446173495:=0
def tw11761126577661670692:=0
def tw11809602360106312830:=0
def tw11941107820374668535:=0
def tw11947091720264900209:=0
def tw11948592130775177624:=0
def tw11965353669246894997:=0
def tw11980921908691795335:=0
def tw11987547801415353759:=0
def tw12015707440502868557:=0
def tw12046984306222366604:=0
def tw12067544948205438508:=0
def tw12079858902250971741:=0
def tw12138693602837789142:=0
def tw12242662653278966390:=0
def tw12351378643004677122:=0
def tw12411037355645256802:=0
def tw12422007413381267890:=0
def tw12500265883289832106:=0
def tw12679966374347263707:=0
def tw12695289281024421135:=0
def tw12757462054126843610:=0
def tw12815950250782207846:=0
def tw12854222318951594011:=0
def tw12926521389824130674:=0
def tw12927004308108124785:=0
def tw12966738481676602688:=0
def tw12979243793083480221:=0
def tw13189051310520531457:=0
def tw13296713260891402502:=0
def tw13320038356721201590:=0
def tw13345971562247111103:=0
def tw13356516116994586860:=0
def tw13387656481736612792:=0
def tw1338791977206183556:=0
def tw13390543432644163933:=0
def tw13428952921699536030:=0
def tw1345758315978993400:=0
def tw13465326987328178750:=0
def tw13539303959130629085:=0
def tw13561871917058283282:=0
def tw13595692242055808433:=0
def tw13603963580562308681:=0
def tw13738088790394209505:=0
def tw13746964975991506143:=0
def tw1377983654844970855:=0
def tw13804656092473525009:=0
def tw13870671060150681717:=0
def tw13880620111097233697:=0
def tw13904953647683254026:=0
def tw13907668289810265149:=0
def tw13918206598217907456:=0
def tw13998378885823243586:=0
def tw14026339761281314913:=0
def tw14032317254065272644:=0
def tw1410275361873648305:=0
def tw14114596377195808101:=0
def tw14150802828923576751:=0
def tw14220679196033654537:=0
def tw14281992343321974558:=0
def tw14294555585134628453:=0
def tw143322994292981269:=0
def tw14361085553980254381:=0
def tw14417871002999622309:=0
def tw1446651206106068665:=0
def tw14469510131885125772:=0
def tw14570140683939749712:=0
def tw14583768253321281752:=0
def tw14603011759982361309:=0
def tw14617220136225393586:=0
def tw14632059360855771948:=0
def tw14768154187844119436:=0
def tw14873904835650890019:=0
def tw14902575511219956144:=0
def tw14992875325419874926:=0
def tw15035174305288942987:=0
def tw15074915034309731790:=0
def tw15082651910177731094:=0
def tw15120482049726517409:=0
def tw15167503564921392281:=0
def tw15192337191324224291:=0
def tw15304989306478154278:=0
def tw15356652495287028675:=0
def tw15362468107852769556:=0
def tw15398594614342435317:=0
def tw15458171855846284469:=0
def tw15489563731279766487:=0
def tw15509631090212100496:=0
def tw1556146266373436565:=0
def tw15596237046825716837:=0
def tw15599411722945403482:=0
def tw15618450148782448928:=0
def tw15618659131686119379:=0
def tw1567280900995588252:=0
def tw15678076133560797212:=0
def tw15725150329922759924:=0
def tw15831159992396785986:=0
def tw15841390735228742516:=0
def tw15848143222127733007:=0
def tw15851366324639209191:=0
def tw1589299585877585490:=0
def tw15910865513114470878:=0
def tw1599120053451506559:=0
def tw16011475406625771770:=0
def tw16021202902778751858:=0
def tw16042218988630994363:=0
def tw16062021330853487953:=0
def tw16110690929750016641:=0
def tw16117244108336578042:=0
def tw1614885810781899448:=0
def tw16218807442649286355:=0
def tw16227631137467802943:=0
def tw16296905138127044802:=0
def tw16311460696135261976:=0
def tw1634076978002160789:=0
def tw16405700124906236225:=0
def tw1649538039416608784:=0
def tw1652627861216680169:=0
def tw16537654328744550267:=0
def tw16645369905215654666:=0
def tw16667380259166875620:=0
def tw16782247473523161797:=0
def tw1680892219176882584:=0
def tw16813589710199464901:=0
def tw1685124210557173289:=0
def tw16860171822741793207:=0
def tw16972137502075743480:=0
def tw17000964803655500148:=0
def tw17043086475966434925:=0
def tw17079405105388855536:=0
def tw17116995980974036769:=0
def tw17223896198521072091:=0
def tw17236949284815006558:=0
def tw17252378132145605805:=0
def tw17277558025431090622:=0
def tw17279934206159661996:=0
def tw17343388218994046432:=0
def tw17389709108012768277:=0
def tw17414141204549318539:=0
def tw17434615643359078756:=0
def tw17477818051359232289:=0
def tw17499440244629043880:=0
def tw17540019357394092198:=0
def tw17591942131830890311:=0
def tw17669776624584305681:=0
def tw17755862609917909860:=0
def tw17779642507401903661:=0
def tw18045415843082962429:=0
def tw18052135395071071873:=0
def tw18126276290775495771:=0
def tw18281161829207069516:=0
def tw18293875682347365364:=0
def tw18298090552579091288:=0
def tw18316738873327063763:=0
def tw18413918323070420225:=0
def tw1857878850416004830:=0
def tw1903414291305505041:=0
def tw1944464292473923866:=0
def tw1945966261143161010:=0
def tw2047738815416179266:=0
def tw2051528252095909927:=0
def tw2080060977892665930:=0
def tw2085644849674335689:=0
def tw2241121400174432574:=0
def tw2272203544059780604:=0
def tw2277454285150582655:=0
def tw2297286098485666135:=0
def tw2310532829109436668:=0
def tw2372659888170110585:=0
def tw2442249480031111941:=0
def tw2456424310207525224:=0
def tw2491085963215987000:=0
def tw2511936108215671717:=0
def tw2559159045845832086:=0
def tw2582721993758292304:=0
def tw2810702814033594920:=0
def tw2850717575957215783:=0
def tw2851701063105009458:=0
def tw288150058931688228:=0
def tw2902763724560291312:=0
def tw2920688796177472508:=0
def tw295332998207612925:=0
def tw3037118882156015180:=0
def tw3062627096840584061:=0
def tw3143764540713531411:=0
def tw3215306615781867231:=0
def tw3230139693469974649:=0
def tw3395950326487360437:=0
def tw3427789800915625038:=0
def tw3553760933179041608:=0
def tw3585479992363012330:=0
def tw3592451790883880392:=0
def tw3632486716381431572:=0
def tw3745535737193604763:=0
def tw3846734700674355039:=0
def tw3960185960569198471:=0
def tw4308732491760719630:=0
def tw4320876388012636375:=0
def tw4322143389154937521:=0
def tw4377016245547522109:=0
def tw4390999355509003467:=0
def tw4401330434911383090:=0
def tw4409919943938360984:=0
def tw4413133686860712912:=0
def tw4431351516427117277:=0
def tw4443518012836707692:=0
def tw4539826124128883514:=0
def tw4594137120212158485:=0
def tw4600331595855480077:=0
def tw4620279681287665312:=0
def tw4715754359954929912:=0
def tw4759844140177927260:=0
def tw4761551537856271240:=0
def tw4764407042006820945:=0
def tw4844254917158537358:=0
def tw4858155924849200469:=0
def tw486364630147132276:=0
def tw4981832774858727234:=0
def tw4984420772559449929:=0
def tw4990522647069468508:=0
def tw5036569459274079151:=0
def tw5075379276150966037:=0
def tw5078492967537183763:=0
def tw5117680617482133633:=0
def tw5125059901079090971:=0
def tw5170459308415643634:=0
def tw5222028469842237859:=0
def tw5329449305064619949:=0
def tw5374085043609081930:=0
def tw5385736980771109689:=0
def tw5415787839250892125:=0
def tw542062218101383083:=0
def tw5450060404716756929:=0
def tw5517522511430553312:=0
def tw5521652631178078541:=0
def tw5666437697485029208:=0
def tw5686650096006108154:=0
def tw581186518229749300:=0
def tw5840156950277690961:=0
def tw5860706092168426228:=0
def tw5891676757111165697:=0
def tw5924603456334898788:=0
def tw5934770901020804189:=0
def tw6010595400174734493:=0
def tw6091206719402776069:=0
def tw60981088936585159:=0
def tw6118020501468023913:=0
def tw6218843884668065240:=0
def tw6221130662435175662:=0
def tw6269392735113159217:=0
def tw6326291331214773475:=0
def tw6332715554000254860:=0
def tw637588748450367066:=0
def tw6378084912106837407:=0
def tw6442879660549938964:=0
def tw6460663197102394985:=0
def tw6474593462575602722:=0
def tw6502121424356743671:=0
def tw6547485268657792873:=0
def tw6561230455121502164:=0
def tw6742465939033597950:=0
def tw6745614328343453612:=0
def tw6761279109536511451:=0
def tw677141020603821302:=0
def tw6827190504212392948:=0
def tw6827579152129681395:=0
def tw6898896039506923910:=0
def tw6920958363838370188:=0
def tw6946483351193765913:=0
def tw7055085820138992492:=0
def tw7143874753586167264:=0
def tw716024737669017293:=0
def tw7320174980360591223:=0
def tw741187885247347181:=0
def tw7422372678466043729:=0
def tw7475614128245450326:=0
def tw7476830923294365803:=0
def tw7503963680635370825:=0
def tw752771865221871720:=0
def tw7610449595423422922:=0
def tw7650067285547343685:=0
def tw7676593758157923063:=0
def tw7677300927563106620:=0
def tw7703933765683301290:=0
def tw7726831005151641729:=0
def tw7773974009471573188:=0
def tw7792123854631132791:=0
def tw7903819173222406348:=0
def tw7954154294442835980:=0
def tw799929478737460222:=0
def tw802899369097209092:=0
def tw8041612893626745532:=0
def tw8048031461855107650:=0
def tw8148095767635573599:=0
def tw8237404876162571829:=0
def tw8238272526747220535:=0
def tw8246493187590439009:=0
def tw8253605517191998350:=0
def tw8319842039253348183:=0
def tw8339775461798632859:=0
def tw8366582440633314455:=0
def tw8400238128602262223:=0
def tw8449846094038054659:=0
def tw8461665108073745492:=0
def tw8601036525269325431:=0
def tw8601805030517910957:=0
def tw8898091850869592370:=0
def tw8902942524324336367:=0
def tw8906673432024299198:=0
def tw9066015040278011388:=0
def tw9107686557994127920:=0
def tw9193630884316374075:=0
def tw9225161229206905363:=0
def tw9243652198859529553:=0
def tw9271729394786164868:=0
def tw9323961548929689885:=0
def tw9341120535202580850:=0
def tw9393781225458721227:=0
def tw9419544898318595524:=0
def tw9456502829771086147:=0
def tw9471109828593310550:=0
def tw9492374798880234056:=0
def tw94943410545871028:=0
def tw9539069555673021427:=0
def tw9540135341966760999:=0
def tw9604039247911748285:=0
def tw9785502736112022764:=0
def tw9815572168019299916:=0
def tw9823274286917723193:=0
def tw9904812428084853720:=0
def tw9910951037118991217:=0
def tw9925180904540884380:=0
def tw993599158679688407:=0
def tw9937717639041231306:=0
def tw9941471872195840982:=0
def tw9948209589776937729:=0
def tw9948988726845735387:=0
end PySem.W.Fast
open PySem PySem.W PyProof.Rows
set_option maxRecDepth 100000 in
set_option maxHeartbeats 0 in
theorem PySem.Challenge.cw_boardsight_k25_free_or_refused_holds : PySem.Challenge.rw_boardsight_k25_free_or_refused.Holds := by
  w_on;o_law;k_head;(case hw=>w_witness2)
  k_fill
  refine My.walk (l:=PySem.Challenge.rw_boardsight_k25_free_or_refused) rfl rfl (fun w h Y=>PySem.W.kIn_of Y) ?F
  case F =>
    intro w mg fa h KX G hmg
    refine' My.jpR KX G hmg ?kSE ?kCR ?kVE ?kE0 ?kE1 ?kE2 ?kE3 ?kIN ?lN ?cN ?kN ?nN ?rCR ?xCR ?wCR ?aS0 ?aF ?lF ?cF ?kF ?lD ?hD ?a0 ?a1 ?a2 ?a3 ?a4 ?a5 ?a6 ?a7 ?a8 ?a9 ?a10 ?a11 ?a12 ?a13 ?a14 ?a15 ?a16 ?a17 ?a18 ?a19 ?a20 ?a21 ?a22 ?a23 ?a24 ?a25 ?a26 ?a27 ?a28 ?a29 ?a30 ?a31 ?a32 ?a33 ?a34 ?a35 ?a36 ?a37 ?a38 ?a39 ?a40 ?a41 ?a42 ?a43 ?a44 ?a45 ?a46 ?a47 ?a48 ?a49 ?a50 ?a51 ?a52 ?a53 ?a54 ?a55 ?a56 ?a57 ?a58 ?a59 ?a60 ?a61 ?a62 ?a63 ?l63 ?c63 ?k63 ?z0 ?z1 ?z2 ?z3 ?z4 ?z5 ?z6 ?z7 ?z8 ?z9 ?z10 ?z11
    (case kSE=>k_is)
    (case kCR=>k_is)
    (case kVE=>k_is)
    (case kE0=>k_is)
    (case kE1=>k_is)
    (case kE2=>k_is)
    (case kE3=>k_is)
    (case kIN=>k_is)
    (case lN=>k_is)
    (case cN=>k_is)
    (case kN=>k_is)
    (case nN=>k_is)
    (case rCR=>first | kernel_rfl | k_is)
    (case xCR=>first | kernel_rfl | k_is)
    (case wCR=>first | kernel_rfl | k_is)
    (case aS0=>k_is)
    (case aF=>k_is)
    (case lF=>k_is)
    (case cF=>k_is)
    (case kF=>k_is)
    (case lD=>k_is)
    (case hD=>first | rfl | k_is)
    (case a63=>k_is)
    (case l63=>k_is)
    (case c63=>k_is)
    (case k63=>k_is)
    (case z0=>k_is)
    (case z1=>k_is)
    (case z2=>k_is)
    (case z3=>k_is)
    (case z4=>k_is)
    (case z5=>k_is)
    (case z6=>k_is)
    (case z7=>k_is)
    (case z8=>k_is)
    (case z9=>k_is)
    (case z10=>k_is)
    (case z11=>k_is)
    all_goals (apply My.AtK.mk;k_is;k_is;k_is;k_is)
