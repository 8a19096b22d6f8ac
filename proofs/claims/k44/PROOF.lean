import PyProof.Rows.All
import Wide.All
import OpenK.AllK
import Wide.FinOn
import Lean
import PyProof.EqAt
import PyProof.EqKinds
import PyProof.TupleCall
import PySem.Challenge.RW_boardsight_k44_trees_judged
set_option Elab.async false
set_option linter.all false
set_option maxRecDepth 100000
local macro_rules | `(tactic| omega) => `(tactic| first | assumption | with_reducible rfl | exact Nat.le_of_lt (by assumption) | exact Int.le_of_lt (by assumption) | lia | omega (config := {}))
def xaa:=@List.length_map
def xab:=@List.getD_eq_getElem?_getD
def xac:=@List.getElem?_eq_getElem
def xad:=@List.length_append
def xae:=@List.getElem?_map
def xaf:=@List.map_append
def xag:=@Nat.le_refl
def xah:=@List.length_take
def xai:=@Nat.mod_eq_of_lt
def xaj:=@List.getElem?_eq_some_iff
def xak:=@List.size_toArray
def xal:=@Classical.byContradiction
def xam:=@List.length_drop
def xan:=@Int.mul_pos
def xao:=@List.mem_map
def xap:=@Nat.lt_of_lt_of_le
def xaq:=@List.filter_append
def xar:=@List.mem_singleton
def xas:=@List.mem_append
def xat:=@List.mem_cons_of_mem
def xau:=@List.getElem?_append_right
def xav:=@Nat.le_trans
def xaw:=@Bool.false_ne_true
def xax:=@Int.mul_eq_zero
def xay:=@List.filterMap_cons
def xaz:=@List.mem_append_right
def xaA:=@List.length_cons
def xaB:=@Int.mul_neg_of_pos_of_neg
def xaC:=@List.mem_of_getElem?
def xaD:=@List.getElem?_append_left
def xaE:=@List.length_eq_zero_iff
def xaF:=@List.mem_range
def xaG:=@List.mem_cons
def xaH:=@List.map_cons
def xaI:=@List.filter_cons
def xaJ:=@Int.mul_nonneg
def xaK:=@Nat.not_lt_zero
def xaL:=@Nat.ne_of_lt
def xaM:=@List.reverse_cons
def xaN:=@List.length_reverse
def xaO:=@Nat.zero_le
def xaP:=@List.append_nil
def xaQ:=@Nat.le_of_lt
def xaR:=@Nat.mod_lt
def xaS:=@Option.map_eq_some_iff
def xaT:=@List.lookup_cons
def xaU:=@List.range_succ
def xaV:=@List.getElem?_eq_none
def xaW:=@List.filter_cons_of_pos
def xaX:=@List.take_of_length_le
def xaY:=@List.mem_append_left
def xaZ:=@List.take_add_one
def xa0:=@List.mem_cons_self
def xa1:=@List.take_append_drop
def xa2:=@List.mem_filter
def xa3:=@List.nodup_cons
def xa4:=@List.take_length
def xa5:=@List.getElem_mem
def xa6:=@Int.mul_neg_of_neg_of_pos
def xa7:=@List.filterMap_append
def xa8:=@List.mem_map_of_mem
def xa9:=@List.length_range
def xba:=@Nat.add_mod_right
def xbb:=@List.filter_cons_of_neg
def xbc:=@List.mem_of_mem_take
def xbd:=@Int.mul_ediv_cancel'
def xbe:=@Int.emod_lt_of_pos
def xbf:=@Nat.min_eq_left
def xbg:=@Nat.lt_irrefl
def xbh:=@Int.ediv_mul_cancel
def xbi:=@Int.mul_comm
def xbj:=@Int.zero_mul
def xbk:=@Int.mul_zero
def xbl:=@Nat.lt_of_le_of_lt
def xbm:=@Int.le_refl
def xbn:=@Int.eq_ofNat_of_zero_le
def xbo:=@List.mem_iff_getElem
def xbp:=@List.map_map
def xbq:=@Nat.mod_self
def xbr:=@List.flatMap_cons
def xbs:=@List.map_drop
def xbt:=@List.map_take
def xbu:=@List.length_replicate
def xbv:=@List.length_filter_le
def xbw:=@Int.emod_nonneg
def xbx:=@Int.mul_le_mul_of_nonneg_right
def xby:=@List.mem_filterMap
def xbz:=@Int.pos_of_mul_pos_right
def xbA:=@Nat.pow_le_pow_right
def xbB:=@List.mem_of_mem_drop
def xbC:=@Int.gcd_dvd_right
def xbD:=@List.append_assoc
def xbE:=@Bool.and_eq_true
def xbF:=@List.mem_flatMap
def xbG:=@Int.gcd_dvd_left
def xbH:=@List.not_mem_nil
def xbI:=@List.getElem?_drop
def xbJ:=@Int.dvd_trans
def xbK:=@Nat.zero_add
def xbL:=@List.mem_iff_getElem?
def xbM:=@List.exists_mem_of_ne_nil
def xbN:=@Bool.and_eq_true_iff
def xbO:=@Nat.lt_succ_of_lt
def xbP:=@Int.dvd_coe_gcd
def xbQ:=@List.eraseIdx_eq_take_drop_succ
def xbR:=@List.length_filterMap_le
def xbS:=@Int.le_of_lt
def xbT:=@List.map_congr_left
def xbU:=@List.all_eq_true
def xbV:=@List.append_eq_nil_iff
def xbW:=@List.pairwise_cons
def xbX:=@List.getElem?_take
def xbY:=@Int.mul_one
def xbZ:=@List.getElem?_reverse
def xb0:=@Int.ediv_neg
def xb1:=@Int.zero_sub
def xb2:=@List.ext_getElem?
def xb3:=@Int.natAbs_ediv_le_natAbs
def xb4:=@List.drop_left
def xb5:=@List.take_left
def xb6:=@Nat.le_succ
def xb7:=@List.getElem?_range
def xb8:=@List.flatMap_append
def xb9:=@List.getElem?_cons_succ
def xca:=@List.nil_append
def xcb:=@Int.fdiv_eq_ediv_of_dvd
def xcc:=@List.filterMap_reverse
def xcd:=@List.drop_of_length_le
def xce:=@List.foldl_append
def xcf:=@Int.neg_mul
def xcg:=@List.cons_eq_cons
def xch:=@List.nodup_nil
def xci:=@List.length_singleton
def xcj:=@Int.natAbs_dvd_natAbs
def xck:=@List.map_reverse
def xcl:=@Bool.eq_iff_iff
def xcm:=@Int.mul_add
def xcn:=@List.filter_sublist
def xco:=@Int.neg_neg
def xcp:=@Int.neg_mul_neg
def xcq:=@List.filterMap_map
def xcr:=@List.map_nil
def xcs:=@Nat.sub_self
def xct:=@Int.dvd_refl
def xcu:=@Int.zero_add
def xcv:=@Int.lt_or_le
def xcw:=@Nat.lt_or_gt_of_ne
def xcx:=@Int.natAbs_mul
def xcy:=@Int.natAbs_neg
def xcz:=@Nat.mul_le_mul
def xcA:=@List.any_cons
def xcB:=@Int.mul_assoc
def xcC:=@List.perm_nil
namespace L2
open PySem PySem.Spec PyProof.Rows
abbrev Key:=Sum Int Str
def joh:Key->Value->Bool
 | .inl k,v=>Value.isInt k v
 | .inr x,v=>Value.isStrOf x v
def keyH (w:World):Key->Int
 | .inl k=>hashInt k
 | .inr x=>hashStr w x
theorem ja4:∀{k:Key} {v:Value},joh k v=true->(∃i t,k=Sum.inl i/\v=Value.int i t)\/(∃x t,k=Sum.inr x/\v=Value.str x t)
  | .inl i, v, h => by
    obtain⟨t,e⟩:=Value.isInt_shape (k:=i) (v:=v) h;exact .inl ⟨i,t,rfl,e⟩
  | .inr x, v, h => by
    obtain⟨t,e⟩:=Value.isStrOf_shape (x:=x) (v:=v) h;exact .inr ⟨x,t,rfl,e⟩
theorem joi (a b:Int):decide ((Sum.inl a:Key)=Sum.inl b)=(a==b):=by
 by_cases e:a=b
 ·subst e;simp
 ·have h:¬(Sum.inl a:Key)=Sum.inl b:=fun q=>e (Sum.inl.inj q);rw[decide_eq_false h];exact (beq_eq_false_iff_ne.mpr e).symm
theorem joj (a b:Str):decide ((Sum.inr a:Key)=Sum.inr b)=decide (a=b):=by
 by_cases e:a=b
 ·subst e;simp
 ·have h:¬(Sum.inr a:Key)=Sum.inr b:=fun q=>e (Sum.inr.inj q);rw[decide_eq_false h,decide_eq_false e]
theorem jok (a:Int) (b:Str):decide ((Sum.inl a:Key)=Sum.inr b)=false:=decide_eq_false (fun q=>nomatch q)
theorem jol (a:Str) (b:Int):decide ((Sum.inr a:Key)=Sum.inl b)=false:=decide_eq_false (fun q=>nomatch q)
def jh4 (prog:Program) (w:World):PySem.KeyKind prog w Key where
 is:=joh
 hash:=keyH w
 inj:=fun v a b ha hb=>by
  rcases ja4 ha with ⟨i,t,rfl,rfl⟩ | ⟨x,t,rfl,rfl⟩
  ·rcases ja4 hb with ⟨j,u,rfl,e⟩ | ⟨y,u,rfl,e⟩
   ·injection e with e1 _;rw[e1]
   ·exact nomatch e
  ·rcases ja4 hb with ⟨j,u,rfl,e⟩ | ⟨y,u,rfl,e⟩
   ·exact nomatch e
   ·injection e with e1 _;rw[e1]
 byValue:=fun k v h=>by
  rcases ja4 h with ⟨i,t,rfl,rfl⟩ | ⟨x,t,rfl,rfl⟩<;>rfl
 pyHash:=fun hv h=>by
  rcases ja4 hv with ⟨i,t,rfl,rfl⟩ | ⟨x,t,rfl,rfl⟩
  ·exact wpAny_pyHash_int h
  ·exact wpAny_pyHash_str h
 eqBool:=fun hu hv h=>by
  rcases ja4 hu with ⟨i,t,rfl,rfl⟩ | ⟨x,t,rfl,rfl⟩
  ·rcases ja4 hv with ⟨j,u,rfl,rfl⟩ | ⟨y,u,rfl,rfl⟩
   ·rw[joi] at h;exact wpAny_eqBool_int h
   ·rw[jok] at h;exact SeqAt.EqAt.int_str i t y u _ _ _ _ h
  ·rcases ja4 hv with ⟨j,u,rfl,rfl⟩ | ⟨y,u,rfl,rfl⟩
   ·rw[jol] at h;exact SeqAt.EqAt.str_int x t j u _ _ _ _ h
   ·rw[joj] at h;exact wpAny_eqBool_str h
 «strs»:=fun k x t v h=>by
  rcases ja4 h with ⟨i,u,rfl,e⟩ | ⟨y,u,rfl,e⟩
  ·exact nomatch e
  ·injection e with e1 _
   subst e1
   cases v<;>rfl
inductive V where
 | non | bl (b:Bool) | int (i:Int) | str (x:Str) | byt (b:Array UInt8) | flt (b:UInt64) | ref (a:Addr) | ty (n:String)
 deriving DecidableEq
def RelV:V->Value->Prop
 | .non,u=>u=Value.none
 | .bl b,u=>u=Value.bool b
 | .int i,u=>∃t,u=Value.int i t
 | .str x,u=>∃t,u=Value.str x t
 | .byt b,u=>∃t,u=Value.bytes b t
 | .flt b,u=>∃t,u=Value.float b t
 | .ref a,u=>u=Value.ref a
 | .ty n,u=>u=Value.type n
abbrev Vals:List V->List Value->Prop:=Paired RelV
theorem Vals.length {xs:List V} {us:List Value} (r:Vals xs us):xs.length=us.length:=Paired.length r
theorem Vals.get:∀{xs:List V} {us:List Value} {i:Nat} {x:V},Vals xs us->xs[i]?=some x->∃u,us[i]?=some u/\RelV x u
  | _,_,_,_,.nil,e=>by simp at e
  | _,_,0,_,.cons r _,e=>by simp at e;subst e;exact⟨_,rfl,r⟩
  | _, _, i + 1, x, .cons _ t, e => by
    obtain⟨u,h1,h2⟩:=Vals.get (i:=i) (x:=x) t (by simpa using e);exact⟨u,by simpa using h1,h2⟩
theorem Vals.set {x:V} {u:Value} (r:RelV x u):∀{xs:List V} {us:List Value} (i:Nat),Vals xs us->Vals (xs.set i x) (us.set i u)
 | _,_,_,.nil=>.nil
 | _,_,0,.cons _ t=>.cons r t
 | _,_,i+1,.cons q t=>.cons q (Vals.set r i t)
theorem Vals.append:∀{xs ys:List V} {us ws:List Value},Vals xs us->Vals ys ws->Vals (xs++ys) (us++ws)
 | _,_,_,_,.nil,s=>s
 | _,_,_,_,.cons r t,s=>.cons r (Vals.append t s)
theorem Vals.take:∀{xs:List V} {us:List Value} (n:Nat),Vals xs us->Vals (xs.take n) (us.take n)
 | _,_,0,_=>.nil
 | _,_,_+1,.nil=>.nil
 | _,_,n+1,.cons r t=>.cons r (Vals.take n t)
theorem Vals.drop:∀{xs:List V} {us:List Value} (n:Nat),Vals xs us->Vals (xs.drop n) (us.drop n)
 | _,_,0,r=>r
 | _,_,_+1,.nil=>.nil
 | _,_,n+1,.cons _ t=>Vals.drop n t
def RelO:Option V->Option Value->Prop
 | some v,some u=>RelV v u
 | none,none=>True
 | _,_=>False
def KV {κ:Type}:List (κ × V)->List (κ × Value)->Prop:=Paired fun (p:κ × V) (q:κ × Value)=>p.1=q.1/\RelV p.2 q.2
def kV:Key->V
 | .inl i=>.int i
 | .inr x=>.str x
inductive HO where
 | lst (xs:List V)
 | tup (xs:List V)
 | dK (kvs:List (Key × V)) | dT (kvs:List (List Key × V))
 | set (S:Int->Bool) (n:Nat)
 | ins (C dx:Addr) (fs:List (Str × V))
 | own (x:Addr)
 | xd (fs:List (Str × V))
 | met (f x:Addr)
 | rng (lo hi:Int)
 | frz (o:Obj) (u:HO)
 | tbl (ps:Array Value)
 | ext (φ:Heap->Prop)
abbrev Hp:=Addr->Option HO
def upd (H:Hp) (a:Addr) (o:HO):Hp:=fun b=>if b=a then some o else H b
theorem jac {H:Hp} {a:Addr} {o:HO}:upd H a o a=some o:=by unfold upd;rw[if_pos rfl]
theorem jaz {H:Hp} {a b:Addr} {o:HO} (h:b≠a):upd H a o b=H b:=by unfold upd;rw[if_neg h]
theorem jar {H:Hp} {a b:Addr} {o:HO} (h:H a=some o) (h':H b=none):a≠b:=by
 intro e;subst e;rw[h] at h';cases h'
section
variable (P:Program) (w:World)
def ObjOk (H:Hp) (h:Heap) (a:Addr):HO->Prop
 | .lst xs=>xs.length<=sizeLine/\∃(its:List Value) (n:Nat),Vals xs its/\h.get? a=some { cls:=.type "list",data:=.seq its.toArray n }
 | .tup xs=>xs.length<=sizeLine/\∃its:List Value,Vals xs its/\IsTup h a its.toArray
 | .dK kvs=>kvs.length<=sizeLine/\(a==sysModules)=false/\∃vs,KV kvs vs/\h.DictOf (jh4 P w) a vs
 | .dT kvs=>kvs.length <= sizeLine /\ (a==sysModules)=false /\ ∃xs:List (List Key × Addr × Value),
   Paired (fun (p:List Key × V) (q:List Key × Addr × Value)=>p.1=q.1/\H q.2.1=some (.tup (p.1.map kV))/\RelV p.2 q.2.2) kvs xs /\
   ∃o es ep,h.get? a=some o/\o.ExactDict/\o.data=.dict es ep/\es.toList=xs.map (entryOfKey (tupleKind (jh4 P w)))/\(xs.map (·.1)).Nodup
 | .set S n=>h.SetOf (intKind P w) a S n
 | .ins C dx fs=>H dx=some (.own a) /\ fs.length <= 1000 /\ dx≠a /\ h.get? a=some (PySem.W.instObj C dx) /\
   ∃mA,h.Ns1 dx mA/\(∀f,RelO (fs.lookup f) (mA f))/\PySem.Within mA (fs.map (·.1))
 | .own _=>∃o,h.get? a=some o
 | .xd fs=>∃mA,h.Ns1 a mA/\∀f,RelO (fs.lookup f) (mA f)
 | .rng lo hi=>∃t u v,h.get? a=some { cls:=.type "range",data:=.fields #[.int lo t,.int hi u,.int 1 v] }
 | .frz o u=>h.get? a=some o/\ObjOk H h a u
 | .tbl ps=>h.get? a=some { cls:=.none,data:=.fields ps }
 | .met f x=>h.get? a=some (PySem.W.methodObj (.ref f) (.ref x))
 | .ext φ=>φ h/\(∃o,h.get? a=some o)/\∀h1 h2:Heap,φ h1->(∀o,h1.get? a=some o->h2.get? a=some o)->φ h2
def HOk (H:Hp) (h:Heap):Prop:=∀a o,H a=some o->ObjOk P w H h a o
end
section
variable {P:Program} {w:World} {H H':Hp} {h h':Heap} {a:Addr} {o:HO}
theorem ObjOk.lt (x:ObjOk P w H h a o):a<h.objs.size:=by
 cases o with
 | lst xs=>obtain⟨_,_,_,_,e⟩:=x;exact Heap.lt_size e
 | tup xs=>obtain⟨_,_,_,p⟩:=x;exact p.lt
 | dK kvs=>obtain⟨_,_,_,_,o,_,_,e,_⟩:=x;exact Heap.lt_size e
 | dT kvs=>obtain⟨_,_,_,_,o,_,_,e,_⟩:=x;exact Heap.lt_size e
 | set S n=>obtain⟨o,_,_,_,e,_⟩:=x;exact Heap.lt_size e
 | ins C dx fs=>obtain⟨_,_,_,e,_⟩:=x;exact Heap.lt_size e
 | own y=>obtain⟨_,e⟩:=x;exact Heap.lt_size e
 | xd fs=>obtain⟨_,⟨_,_,_,e,_⟩,_⟩:=x;exact Heap.lt_size e
 | rng lo hi=>obtain⟨_,_,_,e⟩:=x;exact Heap.lt_size e
 | frz ob u=>obtain⟨e,_⟩:=x;exact Heap.lt_size e
 | tbl ps=>exact Heap.lt_size (show h.get? a=some _ from x)
 | met f y=>exact Heap.lt_size (show h.get? a=some _ from x)
 | ext φ=>obtain⟨_,⟨_,e⟩,_⟩:=x;exact Heap.lt_size e
theorem Paired.mapP {α β:Type} {F G:α->β->Prop}:∀{l₁:List α} {l₂:List β},Paired F l₁ l₂->(∀a b,F a b->G a b)->Paired G l₁ l₂
 | _,_,.nil,_=>.nil
 | _,_,.cons r t,f=>.cons (f _ _ r) (Paired.mapP t f)
theorem ObjOk.stay (x:ObjOk P w H h a o) (k:∀b u,(b=a\/H b=some (.own a))->h.get? b=some u->h'.get? b=some u)
    (ho:∀b,H b=some (.own a)->H' b=some (.own a)) (ht:∀b xs,H b=some (.tup xs)->H' b=some (.tup xs)):ObjOk P w H' h' a o:=by
  induction o with
  | lst xs=>obtain⟨z,its,n,r,e⟩:=x;exact⟨z,its,n,r,k _ _ (.inl rfl) e⟩
  | tup xs=>obtain⟨z,its,r,ob,e,c⟩:=x;exact⟨z,its,r,ob,k _ _ (.inl rfl) e,c⟩
  | dK kvs=>obtain⟨z,y,vs,r,ob,es,ep,e,c⟩:=x;exact⟨z,y,vs,r,ob,es,ep,k _ _ (.inl rfl) e,c⟩
  | dT kvs =>
    obtain⟨z,y,xs,r,ob,es,ep,e,c⟩:=x;exact⟨z,y,xs,Paired.mapP r fun p q z=>⟨z.1,ht _ _ z.2.1,z.2.2⟩,ob,es,ep,k _ _ (.inl rfl) e,c⟩
  | set S n=>obtain⟨ob,es,ep,t,e,c⟩:=x;exact⟨ob,es,ep,t,k _ _ (.inl rfl) e,c⟩
  | ins C dx fs =>
    obtain⟨d,z,ne,e,mA,⟨od,es,ep,e2,c⟩,r⟩:=x;exact⟨ho _ d,z,ne,k _ _ (.inl rfl) e,mA,⟨od,es,ep,k _ _ (.inr d) e2,c⟩,r⟩
  | own y=>obtain⟨ob,e⟩:=x;exact⟨ob,k _ _ (.inl rfl) e⟩
  | xd fs=>obtain⟨mA,⟨od,es,ep,e,c⟩,r⟩:=x;exact⟨mA,⟨od,es,ep,k _ _ (.inl rfl) e,c⟩,r⟩
  | rng lo hi=>obtain⟨t,u,v,e⟩:=x;exact⟨t,u,v,k _ _ (.inl rfl) e⟩
  | frz ob u ih=>obtain⟨e,q⟩:=x;exact⟨k _ _ (.inl rfl) e,ih q⟩
  | tbl ps =>
    have e:h.get? a=some { cls:=.none,data:=.fields ps }:=x;show h'.get? a=some { cls:=.none,data:=.fields ps };exact k a _ (.inl rfl) e
  | met f y =>
    have e:h.get? a=some (PySem.W.methodObj (.ref f) (.ref y)):=x;show h'.get? a=some (PySem.W.methodObj (.ref f) (.ref y));exact k a _ (.inl rfl) e
  | ext φ=>obtain⟨p,⟨o,e⟩,st⟩:=x;exact⟨st _ _ p fun o q=>k _ _ (.inl rfl) q,⟨o,k _ _ (.inl rfl) e⟩,st⟩
theorem HOk.lt (x:HOk P w H h) (e:H a=some o):a<h.objs.size:=(x a o e).lt
theorem HOk.fresh (x:HOk P w H h) (e:h.objs.size<=a):H a=none:=by
 cases q:H a with
 | none=>rfl
 | some u=>exact absurd (xap (x.lt q) e) (xbg _)
theorem HOk.kept (x:HOk P w H h) (k:∀b u,h.get? b=some u->h'.get? b=some u):HOk P w H h':=fun a o e =>
 (x a o e).stay (fun b u _ q=>k b u q) (fun _ q=>q) fun _ _ q=>q
theorem HOk.laid (x:HOk P w H h) (k:∀b u,h.get? b=some u->h'.get? b=some u) (hp:h.objs.size<=a) (new:ObjOk P w (upd H a o) h' a o):HOk P w (upd H a o) h':=fun b u e=>by
 have hn:=x.fresh hp;by_cases hb:b=a
 ·subst hb;rw[jac] at e;cases e;exact new
 ·rw[jaz hb] at e;exact (x b u e).stay (fun c v _ q=>k c v q) (fun c q=>by rw[jaz (jar q hn)];exact q) fun c xs q=>by rw[jaz (jar q hn)];exact q
end
def Rd (H:Hp) (a:Addr) (u:HO):Prop:=H a=some u\/∃o,H a=some (.frz o u)
theorem Rd.of {H:Hp} {a:Addr} {u:HO} (h:H a=some u):Rd H a u:=.inl h
theorem Rd.ok {P:Program} {w:World} {H:Hp} {h:Heap} {a:Addr} {u:HO} (r:Rd H a u) (x:HOk P w H h):ObjOk P w H h a u:=by
 rcases r with r | ⟨o,r⟩
 ·exact x a u r
 ·obtain⟨_,q⟩:=x a _ r;exact q
def Mut:Option HO->Prop
 | some (.lst _)=>True
 | some (.dK _)=>True
 | some (.dT _)=>True
 | some (.set _ _)=>True
 | some (.ins _ _ _)=>True
 | some (.ext _)=>True
 | _=>False
section
variable {P:Program} {w:World} {H:Hp} {h h':Heap} {x e:Addr} {o':HO}
theorem HOk.write (ok:HOk P w H h) (mu:Mut (H x)) (he:e=x\/H e=some (.own x)) (k:∀b u,b≠e->h.get? b=some u->h'.get? b=some u) (heo:∃u,h'.get? e=some u)
  (new:ObjOk P w (upd H x o') h' x o'):HOk P w (upd H x o') h':=fun b u q=>by
 have nown:∀c y,H c=some (.own y)->c≠x:=fun c y r z=>by subst z;rw[r] at mu;exact mu
 have ntup:∀c xs,H c=some (.tup xs)->c≠x:=fun c xs r z=>by subst z;rw[r] at mu;exact mu
 by_cases hb:b=x
 ·subst hb;rw[jac] at q;cases q;exact new
 ·rw[jaz hb] at q;by_cases hbe:b=e
  ·have q':H b=some (.own x):=by
    rcases he with z | z
    ·exact absurd (hbe.trans z) hb
    ·rw[hbe];exact z
   rw[q] at q';cases q';obtain⟨v,hv⟩:=heo;exact⟨v,by rw[hbe];exact hv⟩
  ·refine (ok b u q).stay (fun c v hc r=>k c v ?_ r) (fun c r=>by rw[jaz (nown c b r)];exact r) fun c xs r=>by rw[jaz (ntup c xs r)];exact r
   rcases hc with rfl | hc
   ·exact hbe
   ·rintro rfl;rcases he with z | z
    ·exact nown c b hc z
    ·rw[hc] at z;cases z;exact hb rfl
end
structure Un (fs ex:List Addr) (H H':Hp) (h h':Heap):Prop where
 keep:∀b o,h.get? b=some o->H b=none->b∉fs->b∉ex->h'.get? b=some o
 slot:∀b o,h.get? b=some o->H b=none->b∈fs->b∉ex->∃sl,h'.get? b=some { o with slots:=sl }
 free:∀b o,h.get? b=some o->H b=none->b∉ex->H' b=none
 there:∀b o,h.get? b=some o->b∉ex->∃o',h'.get? b=some o'
 tups:∀b xs,H b=some (.tup xs)->H' b=some (.tup xs)
 frzs:∀b o u,H b=some (.frz o u)->H' b=some (.frz o u)
 tbls:∀b ps,H b=some (.tbl ps)->∃more,H' b=some (.tbl (ps++more))
section
variable {fs fs' ex ex':List Addr} {H H1 H2:Hp} {h h1 h2 h':Heap} {a x e:Addr} {o:HO}
theorem Un.any (u:Un fs ex H H1 h h1) {b:Addr} {ob:Obj} (q:h.get? b=some ob) (n:H b=none) (hx:b∉ex):∃sl,h1.get? b=some { ob with slots:=sl }:=by
 by_cases hb:b∈fs
 ·exact u.slot b ob q n hb hx
 ·exact⟨ob.slots,u.keep b ob q n hb hx⟩
theorem Un.trans (a:Un fs ex H H1 h h1) (b:Un fs ex H1 H2 h1 h2):Un fs ex H H2 h h2 where
 keep:=fun c ob q n hc hx=>b.keep c ob (a.keep c ob q n hc hx) (a.free c ob q n hx) hc hx
 slot:=fun c ob q n hc hx=>by
  obtain⟨sl,e1⟩:=a.slot c ob q n hc hx;obtain⟨sl',e2⟩:=b.slot c _ e1 (a.free c ob q n hx) hc hx;exact⟨sl',e2⟩
 free:=fun c ob q n hx=>by
  obtain⟨o',e1⟩:=a.there c ob q hx;exact b.free c o' e1 (a.free c ob q n hx) hx
 there:=fun c ob q hx=>by
  obtain⟨o',e1⟩:=a.there c ob q hx;exact b.there c o' e1 hx
 tups:=fun c xs q=>b.tups c xs (a.tups c xs q)
 frzs:=fun c ob xs q=>b.frzs c ob xs (a.frzs c ob xs q)
 tbls:=fun c ps q=>by
  obtain⟨m1,e1⟩:=a.tbls c ps q;obtain⟨m2,e2⟩:=b.tbls c _ e1;exact⟨m1++m2,by rw[e2,Array.append_assoc]⟩
theorem Un.kept (k:∀b u,h.get? b=some u->h'.get? b=some u):Un fs ex H H h h' :=
 ⟨fun b ob q _ _ _=>k b ob q,fun b ob q _ _ _=>⟨ob.slots,k b ob q⟩,fun _ _ _ n _=>n,fun b ob q _=>⟨ob,k b ob q⟩,fun _ _ q=>q,fun _ _ _ q=>q,fun _ ps q=>⟨#[],by rw[q];simp⟩⟩
theorem Un.refl:Un fs ex H H h h:=Un.kept fun _ _ q=>q
theorem Un.laid (k:∀b u,h.get? b=some u->h'.get? b=some u) (hp:h.objs.size<=a) (hn:H a=none):Un fs ex H (upd H a o) h h' where
 keep:=fun b u q _ _ _=>k b u q
 slot:=fun b u q _ _ _=>⟨u.slots,k b u q⟩
 free:=fun b u q n _=>by rw[jaz (xaL (xap (Heap.lt_size q) hp))];exact n
 there:=fun b u q _=>⟨u,k b u q⟩
 tups:=fun b xs q=>by rw[jaz (jar q hn)];exact q
 frzs:=fun b u xs q=>by rw[jaz (jar q hn)];exact q
 tbls:=fun b ps q=>⟨#[],by rw[jaz (jar q hn),q];simp⟩
theorem Un.write (mu:Mut (H x)) (he:e=x\/H e=some (.own x)) (k:∀b u,b≠e->h.get? b=some u->h'.get? b=some u) (heo:∃u,h'.get? e=some u):Un fs ex H (upd H x o) h h':=by
 have hx:∀b,H b=none->b≠x:=fun b n z=>by subst z;rw[n] at mu;exact mu
 have hb:∀b,H b=none->b≠e:=fun b n z=>by
  subst z;rcases he with r | r
  ·exact hx b n r
  ·rw[n] at r;cases r
 have hm:∀b u,H b=some u->¬Mut (some u)->b≠x:=fun b u q nm z=>by subst z;rw[q] at mu;exact nm mu
 refine⟨fun b u q n _ _=>k b u (hb b n) q,fun b u q n _ _=>⟨u.slots,k b u (hb b n) q⟩,fun b u q n _=>by rw[jaz (hx b n)];exact n,fun b u q _=>?_,
  fun b xs q=>by rw[jaz (hm b _ q fun z=>z)];exact q,fun b u xs q=>by rw[jaz (hm b _ q fun z=>z)];exact q,fun b ps q=>⟨#[],by rw[jaz (hm b _ q fun z=>z),q];simp⟩⟩
 by_cases hbe:b=e
 ·subst hbe;exact heo
 ·exact⟨u,k b u hbe q⟩
theorem Un.mono (u:Un fs ex H H1 h h1) (hs:∀b∈fs,b∈fs') (hx:∀b∈ex,b∈ex'):Un fs' ex' H H1 h h1 :=
 ⟨fun b ob q n hb he=>u.keep b ob q n (fun z=>hb (hs b z)) fun z=>he (hx b z),fun _ _ q n _ he=>u.any q n fun z=>he (hx _ z),fun b ob q n he=>u.free b ob q n fun z=>he (hx b z),fun b ob q he=>u.there b ob q fun z=>he (hx b z),u.tups,u.frzs,u.tbls⟩
end
def trk (h:Heap) (H:Hp):List Addr:=(List.range h.objs.size).filter fun a=>(H a).isSome
def jkl (h:Heap) (H:Hp):Heap:=PySem.W.hideAll h (trk h H)
theorem jh5 (h:Heap) (H:Hp):(jkl h H).objs.size=h.objs.size:=PySem.W.hideAll_size _ _
theorem jkm {h:Heap} {H:Hp} {b:Addr} {o:Obj} (e:h.get? b=some o) (n:H b=none):(jkl h H).get? b=some o :=
 PySem.W.hideAll_get _ e fun hm=>by
  have q:(H b).isSome=true:=(xa2.mp hm).2;rw[n] at q;simp at q
theorem jmC {h:Heap} {H:Hp} {b:Addr} {o:Obj} (e:(jkl h H).get? b=some o):h.get? b=some o/\H b=none:=by
  have e':h.get? b=some o:=PySem.W.of_hideAll (trk h H) e;refine⟨e',?_⟩;cases q:H b with
  | none=>rfl
  | some x =>
    have hm:b∈trk h H:=xa2.mpr ⟨xaF.mpr (Heap.lt_size e'),by simp [q]⟩;have z:(jkl h H).get? b=none:=PySem.W.hideAll_none (trk h H) hm;rw[z] at e;cases e
def jmD (g h:Heap) (L:Addr):List (Addr × Obj):=(List.range h.objs.size).filterMap fun a=>if a=L\/(g.get? a).isSome=true then none else (h.get? a).map fun o=>(a,o)
def jbD (g h:Heap) (L d:Addr):List (Addr × Obj):=(jmD g h L).filter fun p=>decide (p.1≠d)
structure Mod (K:PySem.W.Frag) (mg:Str->Option Value) (base:Heap):Prop where
 kin:K.In base
 glob:base.Ns mainGlobals mg
 blt:∃mb,base.Ns builtinsNs mb/\∀x:Str,x≠"__name__"->mb x=bootBuiltins x
 nolimit:base.NoLimit
structure Cx where
 prog:Program
 w:World
 K:PySem.W.Frag
 mg:Str->Option Value
 base:Heap
 A:Around
 N:List Str
 s₀:Shared
 H₀:Hp
 env:Env
 outer:List Env
 stack:List Env
 ex:List Addr
 fn:Str->Bool
 calm:Bool
 pn:List (Addr × Obj)
 xe:Value->Shared->Prop
def frs (l:List Env):List Addr:=l.filterMap (·.frame)
abbrev Cx.fs (X:Cx):List Addr:=frs X.outer
def Vis (sc:Scope) (x:Str):Prop:=sc.names.lookup x=some .local\/sc.names.lookup x=some .cell\/sc.names.lookup x=some .free
def Loc (sc:Scope) (x:Str):Prop:=sc.names.lookup x=some .local\/sc.names.lookup x=some .cell
def Look (env:Env) (h:Heap) (m:Str->Option Value) (x:Str) (u:Value):Prop :=
 (env.kindOf x=some .local/\m x=some u)\/((env.kindOf x=some .cell\/env.kindOf x=some .free)/\∃c,env.cells.lookup x=some c/\h.IsCell c (some u))
structure Cx.Ok (X:Cx):Prop where
 mod:Mod X.K X.mg X.base
 kind:X.env.scope.kind=.function
 glob:X.env.globals=mainGlobals
 blt:X.env.builtins=builtinsNs
 above:X.s₀.heap.objs.size<=X.env.locals
 inj:∀x y c,X.env.cells.lookup x=some c->X.env.cells.lookup y=some c->x=y
 has:∀x,(X.env.kindOf x=some .cell\/X.env.kindOf x=some .free)->∃c,X.env.cells.lookup x=some c
 cab:∀x c,X.fn x=true->X.env.cells.lookup x=some c->X.s₀.heap.objs.size<=c
 hd:X.calm=true->X.A.handled=none
 frames:X.A.frames=some X.stack
 stk:X.stack=X.outer\/(X.stack=X.env::X.outer/\X.env.frame=some X.env.locals)
 exf:∀b∈X.ex,b≠X.env.locals/\∀x c,X.env.cells.lookup x=some c->c≠b
 bs:∀b o,X.base.get? b=some o->X.s₀.heap.get? b=some o/\X.H₀ b=none
 bsz:X.base.objs.size<=X.s₀.heap.objs.size
 noex:∀b o,X.base.get? b=some o->b∉X.ex
 exfs:∀b∈X.ex,b∉X.fs
 funs:X.s₀.heap.FunFrames X.base X.outer
 frf:∀b∈X.fs,X.H₀ b=none
structure Inv (X:Cx) (pins:List (Addr × Obj)) (σ:List (Option V)) (H:Hp) (s:Shared):Prop where
 ok:X.Ok
 os:s.os=X.s₀.os
 bare:AllBare s.gens
 base:Un X.fs X.ex X.H₀ H X.s₀.heap s.heap
 loc:∃m,s.heap.Ns X.env.locals m/\∀(i:Nat) (x:Str) (v:V),X.N[i]?=some x->σ[i]?=some (some v)->Vis X.env.scope x->∃u,RelV v u/\Look X.env s.heap m x u
 cell:∀x c,X.env.cells.lookup x=some c->∃v,s.heap.IsCell c v
 free:H X.env.locals=none
 freeC:∀x c,X.env.cells.lookup x=some c->H c=none
 pin:∀p∈X.pn++pins,s.heap.get? p.1=some p.2/\H p.1=none/\p.1≠X.env.locals/\p.1∉X.fs/\∀v,p.2.data≠.cell v
 hok:HOk X.prog X.w H s.heap
 len:σ.length=X.N.length
section
variable {X:Cx} {pins:List (Addr × Obj)} {σ:List (Option V)} {H H':Hp} {s:Shared} {h':Heap}
theorem Cx.Ok.nofr (ok:X.Ok) {b:Addr} {o:Obj} (e:X.base.get? b=some o):b∉X.fs:=fun hb=>by
 have:=(ok.funs.mem hb).1;rw[e] at this;cases this
theorem Inv.bs (I:Inv X pins σ H s):∀b o,X.base.get? b=some o->s.heap.get? b=some o/\H b=none:=fun b o e =>
 ⟨I.base.keep b o (I.ok.bs b o e).1 (I.ok.bs b o e).2 (I.ok.nofr e) (I.ok.noex b o e),I.base.free b o (I.ok.bs b o e).1 (I.ok.bs b o e).2 (I.ok.noex b o e)⟩
theorem Inv.bk (I:Inv X pins σ H s):∀b o,X.base.get? b=some o->s.heap.get? b=some o:=fun b o e=>(I.bs b o e).1
theorem Inv.mod (I:Inv X pins σ H s):Mod X.K X.mg X.base:=I.ok.mod
theorem Inv.kIn (I:Inv X pins σ H s):X.K.In s.heap:=I.ok.mod.kin.keeps I.bk
theorem Inv.nolimit (I:Inv X pins σ H s):s.heap.NoLimit:=I.ok.mod.nolimit.keeps I.bk
theorem Inv.fr (I:Inv X pins σ H s):∃m,Fr X.base X.env.locals s.heap m :=
 let ⟨m,hn,_⟩:=I.loc
 ⟨m,hn,I.bk,xav I.ok.bsz I.ok.above⟩
theorem Inv.lt (I:Inv X pins σ H s):X.env.locals<s.heap.objs.size:=let ⟨_,hn,_⟩:=I.loc;hn.lt
theorem Inv.sz (I:Inv X pins σ H s):X.s₀.heap.objs.size<=s.heap.objs.size:=xav I.ok.above (xaQ I.lt)
theorem Inv.nofs (I:Inv X pins σ H s) {a:Addr} (h:s.heap.objs.size<=a):a∉X.fs:=fun hb=>by
 obtain⟨_,o,ho,_⟩:=I.ok.funs.mem hb;exact absurd (xap (Heap.lt_size ho) (xav I.sz h)) (xbg _)
theorem Inv.cne (I:Inv X pins σ H s):∀x c,X.env.cells.lookup x=some c->c≠X.env.locals:=fun x c e z=>by
 obtain⟨v,o,ho,hd⟩:=I.cell x c e;obtain⟨m,⟨o',es,ep,ho',hd',_⟩,_⟩:=I.loc;rw[z,ho'] at ho;cases ho;rw[hd'] at hd;cases hd
theorem Inv.funs (I:Inv X pins σ H s):s.heap.FunFrames X.base X.outer:=by
  have all:∀(l:List Env),(∀b∈frs l,b∈X.fs)->X.s₀.heap.FunFrames X.base l->s.heap.FunFrames X.base l:=by
    intro l;induction l with
    | nil=>intro _ _;trivial
    | cons env r ih =>
      intro hs hl;obtain⟨hk,⟨L,o,hf,hn,ho,hd⟩,hr⟩:=hl;have hL:L∈X.fs:=hs L (by unfold frs;rw[xay,hf];exact xa0);obtain⟨sl,e⟩:=I.base.slot L o ho (I.ok.frf L hL) hL fun z=>I.ok.exfs L z hL;exact⟨hk,⟨L,_,hf,hn,e,hd⟩,ih (fun b hb=>hs b (by unfold frs;rw[xay,hf];exact xat _ hb)) hr⟩
  exact all X.outer (fun _ hb=>hb) I.ok.funs
theorem Inv.stack (I:Inv X pins σ H s):s.heap.FunFrames X.base X.stack:=by
 rcases I.ok.stk with e | ⟨e,hf⟩
 ·rw[e];exact I.funs
 ·rw[e];obtain⟨m,hn,_⟩:=I.loc;refine .cons (by rw[I.ok.kind];decide) hf hn ?_ I.funs;exact Heap.get?_none_of_le (xav I.ok.bsz I.ok.above)
theorem Inv.stkSub (I:Inv X pins σ H s):∀b∈frs X.stack,b∈X.env.locals::X.fs:=fun b hb=>by
 rcases I.ok.stk with e | ⟨e,hf⟩
 ·rw[e] at hb;exact xat _ hb
 ·rw[e] at hb;unfold frs at hb;rw[xay,hf] at hb;exact hb
theorem Inv.stkFree (I:Inv X pins σ H s):∀b∈frs X.stack,H b=none:=fun b hb=>by
 rcases xaG.mp (I.stkSub b hb) with e | hb
 ·rw[e];exact I.free
 ·obtain⟨_,o,ho,_⟩:=I.ok.funs.mem hb;exact I.base.free b o ho (I.ok.frf b hb) fun z=>I.ok.exfs b z hb
theorem Inv.step {g':Array GenState} {t':Nat} {d':Drawn} {ch:List Addr} (I:Inv X pins σ H s)
  (hch:∀b∈ch,(b∈X.ex\/X.s₀.heap.objs.size<=b)/\b≠X.env.locals/\(∀x c,X.env.cells.lookup x=some c->c≠b)/\∀p∈X.pn++pins,p.1≠b)
  (keep:∀b o,b≠X.env.locals->b∉X.fs->b∉ch->s.heap.get? b=some o->H b=none->h'.get? b=some o)
  (slot:∀b o,b≠X.env.locals->b∈X.fs->b∉ch->s.heap.get? b=some o->H b=none->∃sl,h'.get? b=some { o with slots:=sl }) (free:∀b o,b∉ch->s.heap.get? b=some o->H b=none->H' b=none)
  (there:∀b o,b∉ch->s.heap.get? b=some o->∃o',h'.get? b=some o')
  (tups:∀b xs,H b=some (.tup xs)->H' b=some (.tup xs)) (frzs:∀b o u,H b=some (.frz o u)->H' b=some (.frz o u)) (tbls:∀b ps,H b=some (.tbl ps)->∃more,H' b=some (.tbl (ps++more)))
  (ns:∀m,s.heap.Ns X.env.locals m->h'.Ns X.env.locals m) (hok:HOk X.prog X.w H' h') (hg:AllBare g') :
  Inv X pins σ H' { s with heap:=h',gens:=g',drawn:=d',toks:=t' }:=by
 have neL:∀b o,X.s₀.heap.get? b=some o->b≠X.env.locals:=fun b o e=>xaL (xap (Heap.lt_size e) I.ok.above);have neC:∀b o,X.s₀.heap.get? b=some o->b∉X.ex->b∉ch:=fun b o e hx hb=>by
  rcases (hch b hb).1 with z | z
  ·exact hx z
  ·exact absurd (xap (Heap.lt_size e) z) (xbg _)
 have cellK:∀x c,X.env.cells.lookup x=some c->∀v,s.heap.IsCell c v->h'.IsCell c v:=fun x c e v ⟨o,ho,hd⟩=>by
  have nch:c∉ch:=fun z=>(hch c z).2.2.1 x c e rfl;by_cases hc:c∈X.fs
  ·obtain⟨sl,q⟩:=slot c o (I.cne x c e) hc nch ho (I.freeC x c e);exact⟨_,q,hd⟩
  ·exact⟨o,keep c o (I.cne x c e) hc nch ho (I.freeC x c e),hd⟩
 refine⟨I.ok,I.os,hg,⟨fun b o e n hb hx=>?_,fun b o e n hb hx=>?_,fun b o e n hx=>?_,fun b o e hx=>?_,fun b xs e=>tups b xs (I.base.tups b xs e),fun b o xs e=>frzs b o xs (I.base.frzs b o xs e),fun b ps e=>?_⟩,?_,fun x c e=>?_,?_,fun x c e=>?_,fun p hp=>?_,hok,I.len⟩
 ·exact keep b o (neL b o e) hb (neC b o e hx) (I.base.keep b o e n hb hx) (I.base.free b o e n hx)
 ·obtain⟨sl,e1⟩:=I.base.slot b o e n hb hx;obtain⟨sl',e2⟩:=slot b _ (neL b o e) hb (neC b o e hx) e1 (I.base.free b o e n hx);exact⟨sl',e2⟩
 ·obtain⟨o',e1⟩:=I.base.there b o e hx;exact free b o' (neC b o e hx) e1 (I.base.free b o e n hx)
 ·obtain⟨o',e1⟩:=I.base.there b o e hx;exact there b o' (neC b o e hx) e1
 ·obtain⟨m1,e1⟩:=I.base.tbls b ps e;obtain⟨m2,e2⟩:=tbls b _ e1;exact⟨m1++m2,by rw[e2,Array.append_assoc]⟩
 ·obtain⟨m,hn,hl⟩:=I.loc;refine⟨m,ns m hn,fun i x v e1 e2 e3=>?_⟩;obtain⟨u,r,l⟩:=hl i x v e1 e2 e3;refine⟨u,r,?_⟩;rcases l with l | ⟨k,c,e,z⟩
  ·exact .inl l
  ·exact .inr ⟨k,c,e,cellK x c e _ z⟩
 ·obtain⟨v,z⟩:=I.cell x c e;exact⟨v,cellK x c e v z⟩
 ·obtain⟨m,⟨o,_,_,ho,_⟩,_⟩:=I.loc;exact free _ o (fun z=>(hch _ z).2.1 rfl) ho I.free
 ·obtain⟨v,o,ho,hd⟩:=I.cell x c e;exact free c o (fun z=>(hch c z).2.2.1 x c e rfl) ho (I.freeC x c e)
 ·obtain⟨e,n,ne,nf,d⟩:=I.pin p hp;have nch:p.1∉ch:=fun z=>(hch p.1 z).2.2.2 p hp rfl;exact⟨keep p.1 p.2 ne nf nch e n,free p.1 p.2 nch e n,ne,nf,d⟩
theorem Inv.un {t':Nat} (I:Inv X pins σ H s) (u:Un X.fs [] H H' s.heap h') (hok:HOk X.prog X.w H' h'):Inv X pins σ H' { s with heap:=h',toks:=t' }:=by
 obtain⟨m,⟨o,es,ep,ho,r⟩,_⟩:=id I.loc;obtain⟨sl,hL⟩:=u.any ho I.free (by simp);exact I.step (g':=s.gens) (d':=s.drawn) (ch:=[]) (fun _ z=>nomatch z) (fun b o _ hb _ e n=>u.keep b o e n hb (by simp)) (fun b o _ hb _ e n=>u.slot b o e n hb (by simp)) (fun b o _ e n=>u.free b o e n (by simp)) (fun b o _ e=>u.there b o e (by simp)) u.tups u.frzs u.tbls (fun m' hm=>by
  obtain⟨o',es',ep',ho',r'⟩:=hm;rw[ho] at ho';cases ho';exact⟨_,es',ep',hL,r'⟩) hok I.bare
theorem Inv.call {g':Array GenState} {t':Nat} {d':Drawn} {ch:List Addr} (I:Inv X pins σ H s) (u:Un (frs X.stack) ch H H' s.heap h') (hok:HOk X.prog X.w H' h') (hg:AllBare g')
  (hch:∀b∈ch,(b∈X.ex\/X.s₀.heap.objs.size<=b)/\b≠X.env.locals/\(∀x c,X.env.cells.lookup x=some c->c≠b)/\∀p∈X.pn++pins,p.1≠b) :
  Inv X pins σ H' { s with heap:=h',gens:=g',drawn:=d',toks:=t' }:=by
 obtain⟨m,⟨o,es,ep,ho,r⟩,_⟩:=id I.loc;obtain⟨sl,hL⟩:=u.any ho I.free fun z=>(hch _ z).2.1 rfl;exact I.step (ch:=ch) hch (fun b o hL hb hc e n=>u.keep b o e n (fun z=>(xaG.mp (I.stkSub b z)).elim hL hb) hc) (fun b o _ _ hc e n=>u.any e n hc) (fun b o hc e n=>u.free b o e n hc) (fun b o hc e=>u.there b o e hc) u.tups u.frzs u.tbls (fun m' hm=>by
  obtain⟨o',es',ep',ho',r'⟩:=hm;rw[ho] at ho';cases ho';exact⟨_,es',ep',hL,r'⟩) hok hg
theorem Inv.turned {t':Nat} {it:Addr} (I:Inv X pins σ H s) (k:∀b o,b≠it->s.heap.get? b=some o->h'.get? b=some o) (hn:H it=none) (hL:it≠X.env.locals)
  (h1:it∈X.ex\/X.s₀.heap.objs.size<=it) (h2:∀x c,X.env.cells.lookup x=some c->c≠it) (h3:∀p∈X.pn++pins,p.1≠it):Inv X pins σ H { s with heap:=h',toks:=t' }:=by
 have nit:∀b u,H b=some u->b≠it:=fun b u e z=>by rw[z,hn] at e;cases e
 refine I.step (g':=s.gens) (d':=s.drawn) (ch:=[it]) (fun b hb=>?_) (fun b o _ _ hc e _=>k b o (fun z=>hc (by simp [z])) e) (fun b o _ _ hc e _=>⟨o.slots,k b o (fun z=>hc (by simp [z])) e⟩) (fun _ _ _ _ n=>n)
  (fun b o hc e=>⟨o,k b o (fun z=>hc (by simp [z])) e⟩) (fun _ _ e=>e) (fun _ _ _ e=>e) (fun b ps e=>⟨#[],by rw[e];simp⟩) (fun m hm=>?_) (fun b u e=>?_) I.bare
 ·have e:b=it:=by simpa using hb
  subst e;exact⟨h1,hL,h2,h3⟩
 ·obtain⟨o,es,ep,ho,r⟩:=hm;exact⟨o,es,ep,k _ o (Ne.symm hL) ho,r⟩
 ·refine (I.hok b u e).stay (fun c v hc q=>k c v ?_ q) (fun _ q=>q) fun _ _ q=>q;rcases hc with z | z
  ·rw[z];exact nit b u e
  ·exact nit c _ z
theorem Inv.tok (I:Inv X pins σ H s) (t:Nat):Inv X pins σ H { s with toks:=t }:=I.un (h':=s.heap) (t':=t) Un.refl I.hok
theorem Inv.kept {t':Nat} (I:Inv X pins σ H s) (k:∀b u,s.heap.get? b=some u->h'.get? b=some u):Inv X pins σ H { s with heap:=h',toks:=t' }:=I.un (Un.kept k) (I.hok.kept k)
theorem Inv.laid {a:Addr} {o:HO} {t':Nat} (I:Inv X pins σ H s) (k:∀b u,s.heap.get? b=some u->h'.get? b=some u) (hp:s.heap.objs.size<=a) (new:ObjOk X.prog X.w (upd H a o) h' a o) :
  Inv X pins σ (upd H a o) { s with heap:=h',toks:=t' }:=I.un (Un.laid k hp (I.hok.fresh hp)) (I.hok.laid k hp new)
theorem Inv.write {x e:Addr} {o:HO} {t':Nat} (I:Inv X pins σ H s) (mu:Mut (H x)) (he:e=x\/H e=some (.own x)) (k:∀b u,b≠e->s.heap.get? b=some u->h'.get? b=some u) (heo:∃u,h'.get? e=some u)
  (new:ObjOk X.prog X.w (upd H x o) h' x o):Inv X pins σ (upd H x o) { s with heap:=h',toks:=t' }:=I.un (Un.write mu he k heo) (I.hok.write mu he k heo new)
theorem Inv.pins_of {pins':List (Addr × Obj)} (I:Inv X pins σ H s) (h:∀p∈pins',s.heap.get? p.1=some p.2/\H p.1=none/\p.1≠X.env.locals/\p.1∉X.fs/\∀v,p.2.data≠.cell v):Inv X pins' σ H s :=
 ⟨I.ok,I.os,I.bare,I.base,I.loc,I.cell,I.free,I.freeC,fun p hp=>(xas.mp hp).elim (fun z=>I.pin p (xaY _ z)) (h p),I.hok,I.len⟩
theorem jgL {N:List Str} (hN:N.Nodup) {i j:Nat} {x:Str} (a:N[i]?=some x) (b:N[j]?=some x):i=j:=by
 obtain⟨h1,e1⟩:=xaj.mp a;obtain⟨h2,e2⟩:=xaj.mp b;exact (List.getElem_inj hN).mp (e1.trans e2.symm)
theorem jfB {M:Model} {A:Around} {E:Value->Shared->Prop} {i:Nat} {x:Str} {v:V} {u:Value} {Q:Unit->Shared->Prop} (I:Inv X pins σ H s) (hN:X.N.Nodup) (hi:X.N[i]?=some x) (hx:Loc X.env.scope x) (r:RelV v u)
  (h:∀s',Inv X pins (σ.set i (some v)) H s'->(∃a,Heap.SameBut a s.heap s'.heap/\(a=X.env.locals\/X.env.cells.lookup x=some a))->Q () s') (hf:X.fn x=true\/X.env.scope.names.lookup x=some .local:=by first | exact .inl rfl | exact .inr rfl | assumption):wpAny M A (storeName X.env x u) Q E s:=by
 obtain⟨m,hn,hl⟩:=id I.loc;have hcls:(X.env.scope.kind==.class||(X.env.scope.kind==.module&&X.env.locals != X.env.globals))=false:=by rw[I.ok.kind];rfl
 have hiσ:i<σ.length:=by rw[I.len];exact (xaj.mp hi).1
 have cne:=I.cne;have tracked:∀{a:Addr} {h':Heap},(∃o,s.heap.get? a=some o/\H a=none)->Heap.SameBut a s.heap h'->HOk X.prog X.w H h':=fun {a h'} ha hs b ob e=>by
  obtain⟨_,_,hfree⟩:=ha;refine (I.hok b ob e).stay (fun c w' hc q=>(hs.2 c ?_).trans q) (fun _ q=>q) fun _ _ q=>q;rintro rfl;rcases hc with rfl | hc
  ·rw[hfree] at e;cases e
  ·rw[hfree] at hc;cases hc
 rcases hx with hk | hk
 ·refine wpAny_storeName_local hk hn (fun h' hn' hs=>?_) hcls;obtain⟨oL,_,_,hoL,_⟩:=id hn;refine h _ ⟨I.ok,I.os,I.bare,⟨fun b o e n hb hx=>?_,fun b o e n hb hx=>?_,I.base.free,fun b o e hx=>?_,I.base.tups,I.base.frzs,I.base.tbls⟩,⟨_,hn',fun j y v' e1 e2 e3=>?_⟩,fun y c e=>?_,I.free,I.freeC,fun p hp=>?_,tracked ⟨oL,hoL,I.free⟩ hs,by simpa using I.len⟩ ⟨_,hs,.inl rfl⟩
  ·exact (hs.2 b (xaL (xap (Heap.lt_size e) I.ok.above))).trans (I.base.keep b o e n hb hx)
  ·obtain⟨sl,e1⟩:=I.base.slot b o e n hb hx;exact⟨sl,(hs.2 b (xaL (xap (Heap.lt_size e) I.ok.above))).trans e1⟩
  ·obtain⟨o',e1⟩:=I.base.there b o e hx;exact⟨o',(hs.2 b (xaL (xap (Heap.lt_size e) I.ok.above))).trans e1⟩
  ·by_cases hj:j=i
   ·subst hj;rw[hi] at e1;cases e1;rw[List.getElem?_set_self hiσ] at e2;cases e2;exact⟨u,r,.inl ⟨hk,by simp⟩⟩
   ·rw[List.getElem?_set_ne (Ne.symm hj)] at e2;obtain⟨u',r',q⟩:=hl j y v' e1 e2 e3;refine⟨u',r',?_⟩;rcases q with ⟨k,e⟩ | ⟨k,c,e,z⟩
    ·refine .inl ⟨k,?_⟩;have:y≠x:=fun e=>hj (jgL hN e1 (e▸hi));simp [this,e]
    ·exact .inr ⟨k,c,e,z.sameBut hs (cne y c e)⟩
  ·obtain⟨w',z⟩:=I.cell y c e;exact⟨w',z.sameBut hs (cne y c e)⟩
  ·obtain⟨e,n,ne,nf,d⟩:=I.pin p hp;exact⟨(hs.2 p.1 ne).trans e,n,ne,nf,d⟩
 ·have hfn:X.fn x=true:=by
   rcases hf with z | z
   ·exact z
   ·rw[z] at hk;cases hk
  obtain⟨c,hc⟩:=I.ok.has x (.inl hk);obtain⟨w',z⟩:=I.cell x c hc;refine wpAny_storeName_cell I.ok.kind hk hc z (fun h' hc' hs=>?_);obtain⟨oc,hoc,hocd⟩:=id z;refine h { s with heap:=h' } ⟨I.ok,I.os,I.bare,⟨fun b o e n hb hx=>?_,fun b o e n hb hx=>?_,I.base.free,fun b o e hx=>?_,I.base.tups,I.base.frzs,I.base.tbls⟩,⟨m,hn.sameBut hs (Ne.symm (cne x c hc)),fun j y v' e1 e2 e3=>?_⟩,fun y c' e=>?_,I.free,I.freeC,fun p hp=>?_,tracked ⟨oc,hoc,I.freeC x c hc⟩ hs,by simpa using I.len⟩ ⟨c,hs,.inr hc⟩
  ·exact (hs.2 b (xaL (xap (Heap.lt_size e) (I.ok.cab x c hfn hc)))).trans (I.base.keep b o e n hb hx)
  ·obtain⟨sl,e1⟩:=I.base.slot b o e n hb hx;exact⟨sl,(hs.2 b (xaL (xap (Heap.lt_size e) (I.ok.cab x c hfn hc)))).trans e1⟩
  ·obtain⟨o',e1⟩:=I.base.there b o e hx;exact⟨o',(hs.2 b (xaL (xap (Heap.lt_size e) (I.ok.cab x c hfn hc)))).trans e1⟩
  ·by_cases hj:j=i
   ·subst hj;rw[hi] at e1;cases e1;rw[List.getElem?_set_self hiσ] at e2;cases e2;exact⟨u,r,.inr ⟨.inl hk,c,hc,hc'⟩⟩
   ·rw[List.getElem?_set_ne (Ne.symm hj)] at e2;obtain⟨u',r',q⟩:=hl j y v' e1 e2 e3;refine⟨u',r',?_⟩;rcases q with q | ⟨k,c',e,z'⟩
    ·exact .inl q
    ·refine .inr ⟨k,c',e,z'.sameBut hs ?_⟩;rintro rfl;exact hj (jgL hN e1 (I.ok.inj _ _ _ e hc▸hi))
  ·by_cases hcc:c'=c
   ·subst hcc;exact⟨_,hc'⟩
   ·obtain⟨w2,z2⟩:=I.cell y c' e;exact⟨w2,z2.sameBut hs hcc⟩
  ·obtain⟨e,n,ne,nf,d⟩:=I.pin p hp;refine⟨(hs.2 p.1 ?_).trans e,n,ne,nf,d⟩;intro q;rw[q,hoc] at e;have q':oc=p.2:=Option.some.inj e;exact d w' (by rw[<- q'];exact hocd)
theorem jdV {M:Model} {A:Around} {E:Value->Shared->Prop} {i:Nat} {x:Str} {v:V} {u:Value} {Q:Unit->Shared->Prop} (I:Inv X pins σ H s) (hN:X.N.Nodup) (hi:X.N[i]?=some x) (hx:Loc X.env.scope x) (r:RelV v u)
  (h:∀s',Inv X pins (σ.set i (some v)) H s'->Q () s') (hf:X.fn x=true\/X.env.scope.names.lookup x=some .local:=by first | exact .inl rfl | exact .inr rfl | assumption):wpAny M A (storeName X.env x u) Q E s :=
 jfB I hN hi hx r (fun s' I' _=>h s' I') hf
theorem Inv.call' {s':Shared} {ch:List Addr} (I:Inv X pins σ H s) (ho:s'.os=s.os) (u:Un (frs X.stack) ch H H' s.heap s'.heap) (hok:HOk X.prog X.w H' s'.heap) (hg:AllBare s'.gens)
  (hch:∀b∈ch,(b∈X.ex\/X.s₀.heap.objs.size<=b)/\b≠X.env.locals/\(∀x c,X.env.cells.lookup x=some c->c≠b)/\∀p∈X.pn++pins,p.1≠b):Inv X pins σ H' s':=by
 obtain⟨h',g',d',t',o'⟩:=s';have e:o'=s.os:=ho;subst e;exact I.call (g':=g') (t':=t') (d':=d') u hok hg hch
end
abbrev XK:=Value->Option Addr->Hp->Prop
abbrev St:=List (Option V)
abbrev VK:=V->Hp->Prop
abbrev TE:=St->Hp->VK->Prop
abbrev TT:=St->Hp->(Bool->Hp->Prop)->Prop
abbrev TA:=St->Hp->(List V->Hp->Prop)->Prop
structure Ends where
 nx:St->Hp->Prop
 rt:VK
 bk:St->Hp->Prop:=fun _ _=>False
 ct:St->Hp->Prop:=fun _ _=>False
abbrev TS:=Ends->St->Hp->Prop
def EP (X:Cx) (pins:List (Addr × Obj)) (σ:St) (Q:VK) (u:Value) (s':Shared):Prop:=∃v H',Inv X pins σ H' s'/\RelV v u/\Q v H'
def TP (X:Cx) (pins:List (Addr × Obj)) (σ:St) (Q:Bool->Hp->Prop) (b:Bool) (s':Shared):Prop:=∃H',Inv X pins σ H' s'/\Q b H'
def AP (X:Cx) (pins:List (Addr × Obj)) (σ:St) (Q:List V->Hp->Prop) (us:List Value) (s':Shared):Prop:=∃vs H',Inv X pins σ H' s'/\Vals vs us/\Q vs H'
def SP (X:Cx) (pins:List (Addr × Obj)) (D:Ends) (f:Flow) (s':Shared):Prop :=
 match f with
 | .next=>∃σ' H',Inv X pins σ' H' s'/\D.nx σ' H'
 | .brk=>∃σ' H',Inv X pins σ' H' s'/\D.bk σ' H'
 | .cont=>∃σ' H',Inv X pins σ' H' s'/\D.ct σ' H'
 | .ret u=>∃v σ' H',Inv X pins σ' H' s'/\RelV v u/\D.rt v H'
def PE (X:Cx) (e:Expr) (t:TE):Prop :=
 ∀(pins:List (Addr × Obj)) (s:Shared) (σ:St) (H:Hp) (Q:VK),Inv X pins σ H s->t σ H Q->wpAny (model X.prog X.w) X.A (eval e X.env) (EP X pins σ Q) X.xe s
def PT (X:Cx) (e:Expr) (t:TT):Prop :=
 ∀(pins:List (Addr × Obj)) (s:Shared) (σ:St) (H:Hp) (Q:Bool->Hp->Prop),Inv X pins σ H s->t σ H Q->wpAny (model X.prog X.w) X.A (isTrue e X.env (eval e X.env)) (TP X pins σ Q) X.xe s
def PW (X:Cx) (e:Expr) (t:TT):Prop :=
 ∀(whole:Sem Value) (pins:List (Addr × Obj)) (s:Shared) (σ:St) (H:Hp) (Q:Bool->Hp->Prop),Inv X pins σ H s->t σ H Q->wpAny (model X.prog X.w) X.A (isTrue e X.env whole) (TP X pins σ Q) X.xe s
theorem PW.pt {X:Cx} {e:Expr} {t:TT} (h:PW X e t):PT X e t:=h _
def PA (X:Cx) (es:List Expr) (t:TA):Prop :=
 ∀(pos:Pos) (pins:List (Addr × Obj)) (s:Shared) (σ:St) (H:Hp) (Q:List V->Hp->Prop),Inv X pins σ H s->t σ H Q->wpAny (model X.prog X.w) X.A (spliced (backTo pos (starEach es X.env))) (AP X pins σ Q) X.xe s
def PS (X:Cx) (st:Stmt) (t:TS):Prop :=
 ∀(pins:List (Addr × Obj)) (s:Shared) (σ:St) (H:Hp) (D:Ends),Inv X pins σ H s->t D σ H->wpAny (model X.prog X.w) X.A (exec st X.env) (SP X pins D) X.xe s
def PSs (X:Cx) (st:List Stmt) (t:TS):Prop :=
 ∀(pins:List (Addr × Obj)) (s:Shared) (σ:St) (H:Hp) (D:Ends),Inv X pins σ H s->t D σ H->wpAny (model X.prog X.w) X.A (execs st X.env) (SP X pins D) X.xe s
theorem thn {α:Type} {t:Sem α} {Q Q':α->Shared->Prop} {M:Model} {A:Around} {E:Value->Shared->Prop} {s:Shared} (h:wpAny M A t Q E s) (hQ:∀a s,Q a s->Q' a s):wpAny M A t Q' E s:=wpAny_mono h hQ fun _ _ x=>x
section
variable {X:Cx}
def jkn (i:Nat):TE:=fun σ H Q=>∃v,σ[i]?=some (some v)/\Q v H
def tC (v:V):TE:=fun _ H Q=>Q v H
theorem jom {i:Nat} {x:Str} {pos:Pos} (hN:X.N[i]?=some x) (hv:Vis X.env.scope x) (hd:(x==("__debug__":Str))=false:=by decide) (hcd:(x==("__classdict__":Str))=false:=by decide):PE X (.Name x pos) (jkn i):=by
 intro pins s σ H Q I h;obtain⟨v,e,h⟩:=h;obtain⟨m,hn,hl⟩:=I.loc;obtain⟨u,r,l⟩:=hl i x v hN e hv;have fin:EP X pins σ Q u s:=⟨v,H,I,r,h⟩;rcases l with ⟨hk,hm⟩ | ⟨hk,c,hc,hcell⟩
 ·exact wpAny_Name (wpAny_loadName_local I.ok.kind hk hn hm fin) hd
 ·rcases hk with hk | hk
  ·exact wpAny_Name (wpAny_loadName_cell I.ok.kind hk hc hcell fin) hd
  ·exact wpAny_Name (wpAny_loadName_free I.ok.kind hk hc hcell fin hcd) hd
theorem jab {i j pos}:PE X (.Constant (.int i) j pos) (tC (.int i)):=fun _ _ _ H _ I h=>wpAny_Constant_int ⟨.int i,H,I.tok _,⟨_,rfl⟩,h⟩
theorem jcp {b j pos}:PE X (.Constant (.bool b) j pos) (tC (.bl b)):=fun _ _ _ H _ I h=>Constant_bool ⟨.bl b,H,I,rfl,h⟩
theorem jaO {j pos}:PE X (.Constant .none j pos) (tC .non):=fun _ _ _ H _ I h=>Constant_none ⟨.non,H,I,rfl,h⟩
def Gl (X:Cx) (x:Str):Prop:=X.env.kindOf x=some .globalImplicit
theorem jh6 {E:Value->Shared->Prop} {pins:List (Addr × Obj)} {s:Shared} {σ:St} {H:Hp} {x:Str} {u:Value} {pos:Pos} {Q:Value->Shared->Prop} (I:Inv X pins σ H s) (hg:Gl X x) (hm:X.mg x=some u) (h:Q u s)
  (hd:(x==("__debug__":Str))=false:=by decide):wpAny (model X.prog X.w) X.A (eval (.Name x pos) X.env) Q E s :=
 Calls.Name_function_global I.ok.kind hg (Calls.loadGlobal_global (by rw[I.ok.glob];exact I.mod.glob.keeps I.bk) hm h) hd
theorem jeC {E:Value->Shared->Prop} {pins:List (Addr × Obj)} {s:Shared} {σ:St} {H:Hp} {x:Str} {u:Value} {pos:Pos} {Q:Value->Shared->Prop} (I:Inv X pins σ H s) (hg:Gl X x) (hm:X.mg x=none) (hv:bootBuiltins x=some u) (h:Q u s)
  (hn:x≠"__name__":=by decide) (hd:(x==("__debug__":Str))=false:=by decide):wpAny (model X.prog X.w) X.A (eval (.Name x pos) X.env) Q E s:=by
 obtain⟨mb,h1,h2⟩:=I.mod.blt;exact Calls.Name_function_global I.ok.kind hg (Calls.loadGlobal_builtin (by rw[I.ok.glob];exact I.mod.glob.keeps I.bk) hm (by rw[I.ok.blt];exact h1.keeps I.bk) ((h2 x hn).trans hv) h) hd
theorem jh7 {x:Str} {v:V} {u:Value} {pos:Pos} (hg:Gl X x) (hm:X.mg x=some u) (r:RelV v u) (hd:(x==("__debug__":Str))=false:=by decide):PE X (.Name x pos) (tC v) :=
 fun _ _ _ H _ I h=>jh6 I hg hm ⟨v,H,I,r,h⟩ hd
variable {a b:Expr} {ta tb:TE} {pos:Pos}
def tB (t:TE):TT:=fun σ H Q=>t σ H fun x H1=>∃c,x=.bl c/\Q c H1
theorem jeD {e:Expr} {t:TE} (h:PE X e t) (he:∀whole,isTrue e X.env whole=(do let v <- whole;standAt e.pos;holding [v] (truthy v)):=by intro _;rfl):PT X e (tB t):=by
 intro pins s σ H Q I hw;refine isTrue_plain (thn (h pins s σ H _ I hw) fun v s1 ⟨x,H1,I1,r1,q1⟩=>?_) (he _);obtain⟨d,rfl,q⟩:=q1;cases r1;exact wpAny_truthy_bool ⟨H1,I1,q⟩
variable {tA tB':TT} {jbD:List Expr}
def jon (t u:TT):TT:=fun σ H Q=>t σ H fun c H1=>if c=true then u σ H1 Q else Q false H1
def tOr (t u:TT):TT:=fun σ H Q=>t σ H fun c H1=>if c=true then Q true H1 else u σ H1 Q
def joo (t:TT):TT:=fun σ H Q=>t σ H fun c H1=>Q (!c) H1
theorem jeX (ha:PT X a tA):PW X (.BoolOp .And [a] pos) tA:=by
 intro wh pins s σ H Q I h;refine isTrue_and (thn (ha pins s σ H Q I h) fun c s1 e=>?_);cases c with
 | true=>exact isTrue_and_nil e
 | false=>exact e
theorem jgM (ha:PT X a tA):PW X (.BoolOp .Or [a] pos) tA:=by
 intro wh pins s σ H Q I h;refine isTrue_or (thn (ha pins s σ H Q I h) fun c s1 e=>?_);cases c with
 | false=>exact isTrue_or_nil e
 | true=>exact e
theorem jfC (ha:PT X a tA) (hb:PW X (.BoolOp .And (b::jbD) pos) tB'):PW X (.BoolOp .And (a::b::jbD) pos) (jon tA tB'):=by
 intro wh pins s σ H Q I h;refine isTrue_and (thn (ha pins s σ H _ I h) fun c s1 ⟨H1,I1,q1⟩=>?_);cases c with
 | true=>exact hb wh pins s1 σ H1 Q I1 q1
 | false=>exact⟨H1,I1,q1⟩
theorem jko (ha:PT X a tA) (hb:PW X (.BoolOp .Or (b::jbD) pos) tB'):PW X (.BoolOp .Or (a::b::jbD) pos) (tOr tA tB'):=by
 intro wh pins s σ H Q I h;refine isTrue_or (thn (ha pins s σ H _ I h) fun c s1 ⟨H1,I1,q1⟩=>?_);cases c with
 | true=>exact⟨H1,I1,q1⟩
 | false=>exact hb wh pins s1 σ H1 Q I1 q1
theorem jop (ha:PT X a tA):PT X (.UnaryOp .Not a pos) (joo tA):=by
 intro pins s σ H Q I h;exact isTrue_not (ha pins s σ H (fun c H1=>Q (!c) H1) I h)
def jh8 (ta tb:TE):TE:=fun σ H Q=>ta σ H fun x H1=>∃c,x=.bl c/\if c=true then tb σ H1 Q else Q (.bl false) H1
def tOrV (ta tb:TE):TE:=fun σ H Q=>ta σ H fun x H1=>∃c,x=.bl c/\if c=true then Q (.bl true) H1 else tb σ H1 Q
def jkp (ta:TE):TE:=fun σ H Q=>ta σ H fun x H1=>∃c,x=.bl c/\Q (.bl (!c)) H1
theorem jlt {op} {t:TE} (h:PE X a t):PE X (.BoolOp op [a] pos) t:=fun pins s σ H Q I hw=>BoolOp_one (h pins s σ H Q I hw)
theorem jlu (ha:PE X a ta) (hb:PE X (.BoolOp .And (b::jbD) pos) tb):PE X (.BoolOp .And (a::b::jbD) pos) (jh8 ta tb):=by
 intro pins s σ H Q I h;refine BoolOp_and (thn (ha pins s σ H _ I h) fun v s1 ⟨x,H1,I1,r1,q1⟩=>?_);obtain⟨c,rfl,q1⟩:=q1;cases r1;refine wpAny_truthy_bool ?_;cases c with
 | true=>exact hb pins s1 σ H1 Q I1 q1
 | false=>exact⟨.bl false,H1,I1,rfl,q1⟩
def tIf (t:TT) (ta tb:TE):TE:=fun σ H Q=>t σ H fun c H1=>if c=true then ta σ H1 Q else tb σ H1 Q
theorem jgN {c:Expr} (hc:PT X c tA) (ha:PE X a ta) (hb:PE X b tb):PE X (.IfExp c a b pos) (tIf tA ta tb):=by
 intro pins s σ H Q I h;refine wpAny_IfExp (thn (hc pins s σ H _ I h) fun d s1 ⟨H1,I1,q1⟩=>?_);cases d with
 | true=>exact ha pins s1 σ H1 Q I1 q1
 | false=>exact hb pins s1 σ H1 Q I1 q1
end
def SqL (K:PySem.W.Frag) (H:Hp) (a:Addr) (xs:List V):Prop :=
 Rd H a (.lst xs) \/
  ∃(o:Obj) (its:Array Value) (n:Nat),K.lookup a=some o/\o.cls=.type "list"/\o.dict=none/\o.data=.seq its n/\its.size<=sizeLine/\Vals xs its.toList
def SqT (K:PySem.W.Frag) (H:Hp) (a:Addr) (xs:List V):Prop :=
 Rd H a (.tup xs) \/
  ∃(o:Obj) (its:Array Value) (n:Nat),K.lookup a=some o/\o.cls=.type "tuple"/\o.data=.seq its n/\its.size<=sizeLine/\Vals xs its.toList
def absV:Value->Option V
 | .none=>some .non
 | .bool b=>some (.bl b)
 | .int i _=>some (.int i)
 | .str x _=>some (.str x)
 | .bytes b _=>some (.byt b)
 | .float b _=>some (.flt b)
 | .ref a=>some (.ref a)
 | .type n=>some (.ty n)
 | _=>none
theorem RelV.abs {x:V} {u:Value} (r:RelV x u):absV u=some x:=by
 cases x with
 | non=>cases r;rfl
 | bl _=>cases r;rfl
 | int _=>obtain⟨t,rfl⟩:=r;rfl
 | str _=>obtain⟨t,rfl⟩:=r;rfl
 | byt _=>obtain⟨t,rfl⟩:=r;rfl
 | flt _=>obtain⟨t,rfl⟩:=r;rfl
 | ref _=>cases r;rfl
 | ty _=>cases r;rfl
theorem RelV.inj {x y:V} {u:Value} (r:RelV x u) (q:RelV y u):x=y:=Option.some.inj (r.abs.symm.trans q.abs)
theorem Vals.inj:∀{xs ys:List V} {us:List Value},Vals xs us->Vals ys us->xs=ys
 | _,_,_,.nil,.nil=>rfl
 | _,_,_,.cons r t,.cons r' t'=>by rw[r.inj r',Vals.inj t t']
section
variable {X:Cx} {pins:List (Addr × Obj)} {σ:St} {H:Hp} {s:Shared} {a:Addr} {xs ys:List V}
theorem SqL.of {K:PySem.W.Frag} (h:H a=some (.lst xs)):SqL K H a xs:=.inl (.inl h)
theorem SqT.of {K:PySem.W.Frag} (h:H a=some (.tup xs)):SqT K H a xs:=.inl (.inl h)
theorem Inv.list (I:Inv X pins σ H s) (h:SqL X.K H a xs):∃its:List Value,Vals xs its/\PlainL s.heap a its.toArray/\xs.length<=sizeLine:=by
 rcases h with h | ⟨o,its,n,hk,hc,hd,hs,hz,r⟩
 ·obtain⟨z,its,n,r,e⟩:=h.ok I.hok;exact⟨its,r,⟨_,n,e,rfl,rfl,rfl⟩,z⟩
 ·refine⟨its.toList,r,⟨o,n,I.kIn a o hk,hc,hd,by simpa using hs⟩,?_⟩;have e:=r.length;simp only[Array.length_toList] at e;omega
theorem Inv.tuple (I:Inv X pins σ H s) (h:SqT X.K H a xs):∃its:List Value,Vals xs its/\IsTup s.heap a its.toArray/\xs.length<=sizeLine:=by
 rcases h with h | ⟨o,its,n,hk,hc,hs,hz,r⟩
 ·obtain⟨z,its,r,p⟩:=h.ok I.hok;exact⟨its,r,p,z⟩
 ·refine⟨its.toList,r,⟨o,I.kIn a o hk,hc,n,by simpa using hs⟩,?_⟩;have e:=r.length;simp only[Array.length_toList] at e;omega
theorem Inv.list_inj (I:Inv X pins σ H s) (h:SqL X.K H a xs) (h':SqL X.K H a ys):xs=ys:=by
 obtain⟨its,r,⟨o,n,e,_,_,d⟩,_⟩:=I.list h;obtain⟨its',r',⟨o',n',e',_,_,d'⟩,_⟩:=I.list h';rw[e] at e';cases e';rw[d] at d';injection d' with d1 _
 have:its=its':=by simpa using congrArg Array.toList d1
 subst this;exact r.inj r'
theorem Inv.tuple_inj (I:Inv X pins σ H s) (h:SqT X.K H a xs) (h':SqT X.K H a ys):xs=ys:=by
 obtain⟨its,r,⟨o,e,_,n,d⟩,_⟩:=I.tuple h;obtain⟨its',r',⟨o',e',_,n',d'⟩,_⟩:=I.tuple h';rw[e] at e';cases e';rw[d] at d';injection d' with d1 _
 have:its=its':=by simpa using congrArg Array.toList d1
 subst this;exact r.inj r'
end
abbrev Cx.wish (X:Cx) (E:Value->Shared->Prop):Cx:={ X with xe:=E }
abbrev Cx.nox (X:Cx):Cx:=X.wish fun _ _=>False
theorem Cx.Ok.wish {X:Cx} (ok:X.Ok) (E:Value->Shared->Prop):(X.wish E).Ok :=
 ⟨ok.mod,ok.kind,ok.glob,ok.blt,ok.above,ok.inj,ok.has,ok.cab,ok.hd,ok.frames,ok.stk,ok.exf,ok.bs,ok.bsz,ok.noex,ok.exfs,ok.funs,ok.frf⟩
theorem Cx.Ok.unwish {X:Cx} {E:Value->Shared->Prop} (ok:(X.wish E).Ok):X.Ok :=
 ⟨ok.mod,ok.kind,ok.glob,ok.blt,ok.above,ok.inj,ok.has,ok.cab,ok.hd,ok.frames,ok.stk,ok.exf,ok.bs,ok.bsz,ok.noex,ok.exfs,ok.funs,ok.frf⟩
section
variable {X:Cx} {pins:List (Addr × Obj)} {σ:St} {H:Hp} {s:Shared} {E:Value->Shared->Prop}
theorem Inv.wish (I:Inv X pins σ H s) (E:Value->Shared->Prop):Inv (X.wish E) pins σ H s:=⟨I.ok.wish E,I.os,I.bare,I.base,I.loc,I.cell,I.free,I.freeC,I.pin,I.hok,I.len⟩
theorem Inv.unwish (I:Inv (X.wish E) pins σ H s):Inv X pins σ H s:=⟨I.ok.unwish,I.os,I.bare,I.base,I.loc,I.cell,I.free,I.freeC,I.pin,I.hok,I.len⟩
theorem SP.unwish {D:Ends} {f:Flow} {s':Shared} (h:SP (X.wish E) pins D f s'):SP X pins D f s':=by
 cases f with
 | next=>obtain⟨σ',H',I,q⟩:=h;exact⟨σ',H',I.unwish,q⟩
 | brk=>obtain⟨σ',H',I,q⟩:=h;exact⟨σ',H',I.unwish,q⟩
 | cont=>obtain⟨σ',H',I,q⟩:=h;exact⟨σ',H',I.unwish,q⟩
 | ret u=>obtain⟨v,σ',H',I,r,q⟩:=h;exact⟨v,σ',H',I.unwish,r,q⟩
theorem PE.nox {e:Expr} {t:TE} (h:PE X.nox e t):PE X e t:=fun pins s σ H Q I hw =>
 wpAny_mono (h pins s σ H Q (I.wish _) hw) (fun _ _ ⟨v,H',I',r,q⟩=>⟨v,H',I'.unwish,r,q⟩) fun _ _ z=>False.elim z
theorem PT.nox {e:Expr} {t:TT} (h:PT X.nox e t):PT X e t:=fun pins s σ H Q I hw =>
 wpAny_mono (h pins s σ H Q (I.wish _) hw) (fun _ _ ⟨H',I',q⟩=>⟨H',I'.unwish,q⟩) fun _ _ z=>False.elim z
theorem PSs.nox {st:List Stmt} {t:TS} (h:PSs X.nox st t):PSs X st t:=fun pins s σ H D I hw =>
 wpAny_mono (h pins s σ H D (I.wish _) hw) (fun _ _ q=>q.unwish) fun _ _ z=>False.elim z
end
section
variable {X:Cx} {st:Stmt} {jbD:List Stmt} {t u:TS} {e:Expr} {te:TE} {pos:Pos}
def jh9:TS:=fun D σ H=>D.nx σ H
def joa (t u:TS):TS:=fun D σ H=>t { D with nx:=u D } σ H
theorem jaw:PSs X [] jh9:=fun _ _ σ H _ I h=>wpAny_execs_nil ⟨σ,H,I,h⟩
theorem jaf (h1:PS X st t) (h2:PSs X jbD u):PSs X (st::jbD) (joa t u):=by
  intro pins s σ H D I h;refine wpAny_execs_cons (thn (h1 pins s σ H { D with nx:=u D } I h) fun f s1 q=>?_);cases f with
  | next =>
    obtain⟨σ',H',I',q⟩:=q;exact h2 pins s1 σ' H' D I' q
  | ret v=>exact q
  | brk=>exact q
  | cont=>exact q
theorem jai (h1:PS X st t):PSs X [st] t:=by
 intro pins s σ H D I h;refine wpAny_execs_cons (thn (h1 pins s σ H D I h) fun f s1 q=>?_);cases f with
 | next=>exact wpAny_execs_nil q
 | ret v=>exact q
 | brk=>exact q
 | cont=>exact q
def jgO:TS:=fun D σ H=>D.bk σ H
def jkq:TS:=fun D σ H=>D.ct σ H
theorem Inv.quiet {pins:List (Addr × Obj)} {σ:St} {H:Hp} {s:Shared} (I:Inv X pins σ H s):interactive X.env=false:=by simp [interactive,I.ok.kind]
def jia (te:TE):TS:=fun D σ H=>te σ H fun _ H1=>D.nx σ H1
theorem jbc (he:PE X e te) (hs:swapsWith e none pos.line X.env=pure false:=by rfl):PS X (.Expr e pos) (jia te):=by
 intro pins s σ H D I h;exact wpAny_Expr_any (thn (he pins s σ H _ I h) fun v s1 ⟨x,H1,I1,r1,q1⟩=>⟨σ,H1,I1,q1⟩) I.quiet hs
def joq (te:TE):TS:=fun D σ H=>te σ H D.rt
theorem jas (he:PE X e te):PS X (.Return (some e) pos) (joq te):=by
 intro pins s σ H D I h;exact wpAny_Return_some (thn (he pins s σ H _ I h) fun v s1 ⟨x,H1,I1,r1,q1⟩=>⟨x,σ,H1,I1,r1,q1⟩)
def jkr:TS:=fun D _ H=>D.rt .non H
def jor (c:TT) (t u:TS):TS:=fun D σ H=>c σ H fun b H1=>if b=true then t D σ H1 else u D σ H1
theorem jaL {c:Expr} {a b:List Stmt} {tc:TT} (hc:PT X c tc) (ha:PSs X a t) (hb:PSs X b u):PS X (.If c a b pos) (jor tc t u):=by
 intro pins s σ H D I h;refine wpAny_If (thn (hc pins s σ H _ I h) fun d s1 ⟨H1,I1,q1⟩=>?_);cases d with
 | true=>exact ha pins s1 σ H1 D I1 q1
 | false=>exact hb pins s1 σ H1 D I1 q1
def jos:TS:=fun _ _ _=>False
theorem jbG {sts:List Stmt}:PSs X sts jos:=fun _ _ _ _ _ _ h=>h.elim
end
abbrev TG:=V->St->Hp->(St->Hp->Prop)->Prop
abbrev TGs:=List V->St->Hp->(St->Hp->Prop)->Prop
def PG (X:Cx) (target:Expr) (t:TG):Prop :=
  ∀ (pins : List (Addr × Obj)) (s : Shared) (σ : St) (H : Hp) (v : V) (u : Value) (Q : St -> Hp -> Prop), Inv X pins σ H s -> RelV v u -> t v σ H Q ->
    wpAny (model X.prog X.w) X.A (assign target X.env u) (fun _ s'=>∃σ' H',Inv X pins σ' H' s'/\Q σ' H') X.xe s
def PGs (X:Cx) (ts:List Expr) (t:TGs):Prop :=
  ∀ (pins : List (Addr × Obj)) (s : Shared) (σ : St) (H : Hp) (vs : List V) (us : List Value) (Q : St -> Hp -> Prop), Inv X pins σ H s -> Vals vs us -> t vs σ H Q ->
    wpAny (model X.prog X.w) X.A (assignInOrder ((assignEach ts X.env).map (·.2)) us) (fun _ s'=>∃σ' H',Inv X pins σ' H' s'/\Q σ' H') X.xe s
abbrev TSet:=V->V->V->Hp->(Hp->Prop)->Prop
def PSet (X:Cx) (t:TSet):Prop :=
  ∀ (pins : List (Addr × Obj)) (s : Shared) (σ : St) (H : Hp) (o i v : V) (ov iv u : Value) (Q : Hp -> Prop), Inv X pins σ H s -> RelV o ov -> RelV i iv -> RelV v u -> t o i v H Q ->
    wpAny (model X.prog X.w) X.A (setItem ov iv u) (fun _ s'=>∃H',Inv X pins σ H' s'/\Q H') X.xe s
section
variable {X:Cx} {pos:Pos}
def jbU (i:Nat):TG:=fun v σ H Q=>Q (σ.set i (some v)) H
theorem jan {i:Nat} {x:Str} (hN:X.N.Nodup) (hi:X.N[i]?=some x) (hx:Loc X.env.scope x) (hf:X.fn x=true\/X.env.scope.names.lookup x=some .local:=by first | exact .inl rfl | exact .inr rfl | assumption):PG X (.Name x pos) (jbU i):=by
 intro pins s σ H v u Q I r h;exact wpAny_assign_Name (jdV I hN hi hx r (fun s' I'=>⟨_,H,I',h⟩) hf)
def job:TGs:=fun vs σ H Q=>vs=[]/\Q σ H
def jgj (t:TG) (u:TGs):TGs:=fun vs σ H Q=>∃v r,vs=v::r/\t v σ H fun σ' H'=>u r σ' H' Q
theorem jbj:PGs X [] job:=by
 intro pins s σ H vs us Q I r h;obtain⟨e,h⟩:=h;subst e;cases r;exact assignInOrder_nil ⟨σ,H,I,h⟩
theorem jay {e:Expr} {es:List Expr} {t:TG} {u:TGs} (h1:PG X e t) (h2:PGs X es u)
    (hs:(assignEach (e::es) X.env).map (·.2)=assign e X.env::(assignEach es X.env).map (·.2):=by rfl):PGs X (e::es) (jgj t u):=by
  intro pins s σ H vs us Q I r h;obtain⟨v,vr,e1,h⟩:=h;subst e1;cases r with
  | cons r rr =>
    rw[hs];refine assignInOrder_cons (thn (h1 pins s σ H _ _ _ I r h) fun _ s1 ⟨σ1,H1,I1,q1⟩=>?_);exact h2 pins s1 σ1 H1 _ _ Q I1 rr q1
def jmE (K:PySem.W.Frag) (n:Nat) (t:TGs):TG:=fun v σ H Q=>∃a xs,v=.ref a/\SqT K H a xs/\xs.length=n/\t xs σ H Q
theorem jck {es:List Expr} {k:Nat} {t:TGs} {n:Nat} (hc:X.calm=true) (h:PGs X es t)
  (hn:(assignEach es X.env).length=n:=by rfl) (hst:(assignEach es X.env).findIdx? (·.1)=none:=by rfl):PG X (.Tuple es k pos) (jmE X.K n t):=by
 intro pins s σ H v u Q I r hw;obtain⟨a,xs,e1,hq,hl,hw⟩:=hw;subst e1;cases r;obtain⟨its,rv,ht,hz⟩:=I.tuple hq;refine assign_Tuple_tuple (I.ok.hd hc) ht (by simp [hn,<- hl,rv.length]) hst fun h' hx=>?_;have I1:Inv X pins σ H { s with heap:=h' }:=I.kept (t':=s.toks) fun b o e=>hx b o (xaL (Heap.lt_size e)) e;exact h pins _ σ H xs _ Q I1 (by simpa using rv) hw
def joc (to ti:TE) (t:TSet):TG:=fun v σ H Q=>to σ H fun o H1=>ti σ H1 fun i H2=>t o i v H2 fun H3=>Q σ H3
theorem jgP {o i:Expr} {to ti:TE} {t:TSet} (ho:PE X o to) (hi:PE X i ti) (hs:PSet X t)
  (ha:∀v,assign (.Subscript o i pos) X.env v=(do
   let ov <- holding [v] (eval o X.env)
   let iv <- holding [v,ov] (eval i X.env)
   standAt pos
   holding [v,ov,iv] (setItem ov iv v)
   release [v,ov,iv] []):=by intro _;rfl):PG X (.Subscript o i pos) (joc to ti t):=by
 intro pins s σ H v u Q I r h;rw[ha];refine wpAny_bind (wpAny_holding (thn (ho pins s σ H _ I h) fun ov s1 ⟨x,H1,I1,r1,q1⟩=>?_));refine wpAny_bind (wpAny_holding (thn (hi pins s1 σ H1 _ I1 q1) fun iv s2 ⟨y,H2,I2,r2,q2⟩=>?_));refine wpAny_bind (wpAny_standAt (wpAny_bind (wpAny_holding (thn (hs pins s2 σ H2 x y v ov iv u _ I2 r1 r2 r q2) fun _ s3 ⟨H3,I3,q3⟩=>?_))));exact wpAny_release ⟨σ,H3,I3,q3⟩
def jlv (te:TE) (g:TG):TS:=fun D σ H=>te σ H fun x H1=>g x σ H1 D.nx
theorem jbQ {tg e:Expr} {te:TE} {g:TG} (he:PE X e te) (hg:PG X tg g) (hs:swapsWithSole [tg] e pos.line X.env=pure false:=by rfl) (hw:swappedStores [tg] e X.env=pure none:=by rfl)
  (h1:(assignEach [tg] X.env).map (·.2)=[assign tg X.env]:=by rfl):PS X (.Assign [tg] e pos) (jlv te g):=by
 intro pins s σ H D I h;refine wpAny_Assign_stores (thn (he pins s σ H _ I h) fun v s1 ⟨x,H1,I1,r1,q1⟩=>?_) hs hw;rw[h1];exact thn (hg pins s1 σ H1 x v _ I1 r1 q1) fun _ s2 q=>q
theorem jat {i:Nat} {x:Str} {e:Expr} {te:TE} {pos':Pos} (hN:X.N.Nodup) (hi:X.N[i]?=some x) (hx:Loc X.env.scope x) (he:PE X e te) (hs:swapsWith e (some (.Name x pos')) pos.line X.env=pure false:=by rfl) (hf:X.fn x=true\/X.env.scope.names.lookup x=some .local:=by first | exact .inl rfl | exact .inr rfl | assumption) :
  PS X (.Assign [.Name x pos'] e pos) (jlv te (jbU i)):=by
 intro pins s σ H D I h;refine wpAny_Assign_Name (thn (he pins s σ H _ I h) fun v s1 ⟨y,H1,I1,r1,q1⟩=>?_) hs;exact jdV I1 hN hi hx r1 (fun s2 I2=>⟨_,H1,I2,q1⟩) hf
def jot (i j:Nat) (ta:TA):TS:=fun D σ H=>ta σ H fun vs H1=>∃v w,vs=[v,w]/\D.nx ((σ.set i (some v)).set j (some w)) H1
theorem jou {i j:Nat} {x y:Str} {a b:Expr} {ta:TA} {px py pt:Pos} {kt k2 pt2} (hc:X.calm=true) (hN:X.N.Nodup) (hi:X.N[i]?=some x) (hj:X.N[j]?=some y) (hij:i≠j)
    (hx:X.env.scope.names.lookup x=some .local) (hy:X.env.scope.names.lookup y=some .local) (ha:PA X [a,b] ta)
    (hw:swappedStores [.Tuple [.Name x px,.Name y py] kt pt] (.Tuple [a,b] k2 pt2) X.env=pure (some [x,y]))
    (hs:swapsWithSole [.Tuple [.Name x px,.Name y py] kt pt] (.Tuple [a,b] k2 pt2) pos.line X.env=pure false:=by rfl) :
    PS X (.Assign [.Tuple [.Name x px,.Name y py] kt pt] (.Tuple [a,b] k2 pt2) pos) (jot i j ta):=by
  intro pins s σ H D I h;rw[exec_Assign_arm];refine wpAny_bind (wpAny_standAt ?_);rw[hs];refine wpAny_bind (wpAny_pure ?_);rw[if_neg (by decide)];refine wpAny_bind (Tuple_ (thn (ha _ pins s σ H _ I h) fun us s1 ⟨vs,H1,I1,r1,q1⟩=>?_));obtain⟨v,w,e1,q1⟩:=q1;subst e1;obtain⟨u1,u2,rfl,rv,rw'⟩:∃u1 u2,us=[u1,u2]/\RelV v u1/\RelV w u2:=by
    cases r1 with
    | cons p q =>
      cases q with
      | cons p' q' =>
        cases q';exact⟨_,_,rfl,p,p'⟩
  refine wpAny_newObj_type ?_ (by show 2<=sizeLine;decide);have I2:Inv X pins σ H1 { s1 with heap:=s1.heap.push { cls:=.type "tuple",data:=.seq [u1,u2].toArray } }:=I1.kept (t':=s1.toks) fun b o e=>Heap.get?_push_of_some _ e;rw[hw];refine wpAny_bind (wpAny_pure ?_);show wpAny (model X.prog X.w) X.A (do rule "assign.swapped-stores";let items <- unpackItems (.ref s1.heap.objs.size) 2 none;assignInOrder [fun v=>bindName X.env y v,fun v=>bindName X.env x v] items.reverse;pure Flow.next) _ _ _;refine wpAny_bind (wpAny_rule (wpAny_bind (unpackItems_tuple (items:=#[u1,u2]) (I.ok.hd hc) (IsTup.new s1.heap _) fun h' hx'=>?_)));have I3:=I2.kept (h':=h') (t':=s1.toks) fun b o e=>hx' b o (xaL (Heap.lt_size e)) e;show wpAny _ _ (assignInOrder [fun v=>bindName X.env y v,fun v=>bindName X.env x v] [u2,u1] >>= fun _=>pure Flow.next) _ _ _;refine wpAny_bind (assignInOrder_cons (wpAny_bindName (jdV I3 hN hj (.inl hy) rw' (fun s2 I4=>?_) (.inr hy))));refine assignInOrder_cons (wpAny_bindName (jdV I4 hN hi (.inl hx) rv (fun s3 I5=>assignInOrder_nil (wpAny_pure ?_)) (.inr hx)));rw[List.set_comm _ _ (Ne.symm hij)] at I5;exact⟨_,H1,I5,q1⟩
def jov (c:TT) (tb:TS):TS:=fun D σ H=>∃W:Nat->St->Hp->Prop,(∃m,W m σ H)/\∀m σ H,W m σ H ->
 c σ H fun b H1=>if b=true then ∃N:St->Hp->Prop,(∀σ' H',N σ' H'->∃m',m'<m/\W m' σ' H')/\tb { D with nx:=N,ct:=N,bk:=D.nx } σ H1 else D.nx σ H1
theorem jc7 {c:Expr} {body:List Stmt} {tc:TT} {tb:TS} (hp:PassesOwn (model X.prog X.w) X.A X.env X.xe) (hc:PT X c tc) (hb:PSs X body tb):PS X (.While c body [] pos) (jov tc tb):=by
  intro pins s σ H D I h;obtain⟨W,⟨m0,w0⟩,turn⟩:=h;refine wpAny_While (codeAny_whileLoop (fun n s'=>∃σ' H',Inv X pins σ' H' s'/\W n σ' H') ?_ m0 ⟨σ,H,I,w0⟩);rintro n s1 ⟨σ1,H1,I1,w1⟩;refine wpAny_passesOwn hp (thn (hc pins s1 σ1 H1 _ I1 (turn n σ1 H1 w1)) fun b s2 ⟨H2,I2,q2⟩=>?_);cases b with
  | true =>
    obtain⟨N,hN,q2⟩:=q2;rw[if_pos rfl];refine wpAny_passesOwn hp (thn (hb pins s2 σ1 H2 _ I2 q2) fun f s3 q3=>?_);cases f with
    | next =>
      obtain⟨σ3,H3,I3,n3⟩:=q3;obtain⟨m',hm,w3⟩:=hN σ3 H3 n3;exact⟨m',hm,σ3,H3,I3,w3⟩
    | cont =>
      obtain⟨σ3,H3,I3,n3⟩:=q3;obtain⟨m',hm,w3⟩:=hN σ3 H3 n3;exact⟨m',hm,σ3,H3,I3,w3⟩
    | brk=>exact q3
    | ret v=>exact q3
  | false =>
    rw[if_neg xaw];exact wpAny_execs_nil ⟨σ1,H2,I2,q2⟩
end
structure It where
 go:Nat->Hp->Prop
 yld:Nat->Hp->V->Hp->Prop
 stop:Nat->Hp->Prop
def jgQ (X:Cx) (pins:List (Addr × Obj)) (H:Hp) (b:Addr):Prop :=
 H b=none/\b≠X.env.locals/\b∉X.fs/\(b∈X.ex\/X.s₀.heap.objs.size<=b)/\(∀x c,X.env.cells.lookup x=some c->c≠b)/\∀p∈X.pn++pins,p.1≠b
theorem Inv.fpOk {X:Cx} {pins:List (Addr × Obj)} {σ:St} {H H':Hp} {s:Shared} {b:Addr} (I:Inv X pins σ H s) (hb:s.heap.objs.size<=b) (hn:H' b=none):jgQ X pins H' b:=by
 refine⟨hn,Nat.ne_of_gt (xap I.lt hb),I.nofs hb,.inr (xav I.sz hb),fun x c e z=>?_,fun p hp z=>?_⟩
 ·obtain⟨v,q⟩:=I.cell x c e;exact absurd (xap q.lt (by rw[z];exact hb)) (xbg _)
 ·exact absurd (xap (Heap.lt_size (I.pin p hp).1) (by rw[z];exact hb)) (xbg _)
structure Turn (P:Program) (w:World) (K:PySem.W.Frag) (tg:Expr) (J:It) (fp:List Addr) (it:Addr) (tn:Nat->Heap->Prop):Prop where
 mem:it∈fp
 obj:∀i h,tn i h->∀b∈fp,∃o,h.get? b=some o/\∀v,o.data≠.cell v
 keep:∀i h h',tn i h->(∀b∈fp,∀o,h.get? b=some o->h'.get? b=some o)->tn i h'
 item:∀(X:Cx),X.prog=P->X.w=w->X.K=K->X.calm=true->∀(i:Nat) (pins:List (Addr × Obj)) (s:Shared) (σ:St) (H:Hp) (E:Value->Shared->Prop),Inv X pins σ H s->(∀b∈fp,jgQ X pins H b)->tn i s.heap->J.go i H ->
  wpAny (model P w) X.A (pyNext (.ref it)) (fun r s1=>∃u,r=some u /\
   wpAny (model P w) X.A (letOwnedTupleGo tg (.ref it) u) (fun _ s2=>∃x H',Inv X pins σ H' s2/\RelV x u/\J.yld i H x H'/\tn (i+1) s2.heap/\∀b∈fp,H' b=none) E s1) E s
 done:∀(X:Cx),X.prog=P->X.w=w->X.K=K->X.calm=true->∀(i:Nat) (pins:List (Addr × Obj)) (s:Shared) (σ:St) (H:Hp) (E:Value->Shared->Prop),Inv X pins σ H s->(∀b∈fp,jgQ X pins H b)->tn i s.heap->J.stop i H ->
  wpAny (model P w) X.A (pyNext (.ref it)) (fun r s1=>r=none/\Inv X pins σ H s1) E s
 self:∀(A:Around) (i:Nat) (s:Shared) (Q:Value->Shared->Prop) (E:Value->Shared->Prop),tn i s.heap->Q (.ref it) s->wpAny (model P w) A (pyIter (.ref it)) Q E s
abbrev TI:=St->Hp->(It->Hp->Prop)->Prop
def PIE (X:Cx) (pins:List (Addr × Obj)) (σ:St) (tg:Expr) (R:It->Hp->Prop) (itv:Value) (s2:Shared):Prop :=
 ∃(it:Addr) (fp:List Addr) (tn:Nat->Heap->Prop) (J:It) (H':Hp),itv=.ref it/\Inv X pins σ H' s2/\Turn X.prog X.w X.K tg J fp it tn/\tn 0 s2.heap/\(∀b∈fp,jgQ X pins H' b)/\R J H'
def PI (X:Cx) (tg iter:Expr) (wi:TI):Prop :=
  ∀ (pins : List (Addr × Obj)) (s : Shared) (σ : St) (H : Hp) (R : It -> Hp -> Prop), Inv X pins σ H s -> wi σ H R ->
    wpAny (model X.prog X.w) X.A (eval iter X.env) (fun v s1=>wpAny (model X.prog X.w) X.A (pyIter v) (PIE X pins σ tg R) X.xe s1) X.xe s
theorem jmF {M:Model} {A:Around} {E:Value->Shared->Prop} {s:Shared} {tg:Expr} {it:Addr} {u:Value} {o:Obj} {n:String} {vs:Array Value} {Q:Unit->Shared->Prop} (ho:s.heap.get? it=some o) (hc:o.cls=.type n) (hd:o.data=.fields vs)
    (hn:["enumerate","zip","dict_itemiterator","dict_reverseitemiterator","odict_iterator","itertools.zip_longest","itertools.pairwise"].contains n=false) (hQ:Q () s):wpAny M A (letOwnedTupleGo tg (.ref it) u) Q E s:=by
  unfold letOwnedTupleGo;cases tg<;>first
    | exact wpAny_pure hQ
    | (cases u<;>first
        | exact wpAny_pure hQ
        | (refine wpAny_bind (wpAny_load ho ?_)
           rw[hc,hd];show wpAny M A (if (["enumerate","zip","dict_itemiterator","dict_reverseitemiterator","odict_iterator","itertools.zip_longest","itertools.pairwise"].contains n&&vs[0]?==some (rawInt _))=true then _ else _) Q E s;rw[if_neg (by intro h;rw[hn,Bool.false_and] at h;cases h)];exact wpAny_pure hQ))
def Itl (K:PySem.W.Frag) (a:Addr):It :=
 ⟨fun i H=>∃xs x,SqL K H a xs/\xs[i]?=some x,fun i H x H'=>H'=H/\∀xs,SqL K H a xs->xs[i]?=some x,fun i H=>∃xs,SqL K H a xs/\xs.length<=i⟩
def Itt (K:PySem.W.Frag) (a:Addr):It :=
 ⟨fun i H=>∃xs x,SqT K H a xs/\xs[i]?=some x,fun i H x H'=>H'=H/\∀xs,SqT K H a xs->xs[i]?=some x,fun i H=>∃xs,SqT K H a xs/\xs.length<=i⟩
def Itr (lo:Int) (n:Nat):It:=⟨fun i _=>i<n,fun i H x H'=>H'=H/\x=.int (lo+i),fun i _=>n<=i⟩
theorem jib {P:Program} {w:World} {K:PySem.W.Frag} {tg:Expr} (a it:Addr):Turn P w K tg (Itl K a) [it] it (fun i h=>h.IsListIter it a i) where
 mem:=by simp
 obj:=fun i h st b hb=>by
  have e:b=it:=by simpa using hb
  subst e;obtain⟨o,e,c,d⟩:=st;exact⟨o,e,fun v z=>by rw[d] at z;cases z⟩
 keep:=fun i h h' st k=>st.at fun o e=>k it (by simp) o e
 item:=by
  intro X hP hw hK hc i pins s σ H E I hf st hg;subst hP hw hK;obtain⟨xs,x,hq,hx⟩:=hg;obtain⟨its,rv,p,hz⟩:=I.list hq;obtain⟨u,hu,ru⟩:=rv.get hx;obtain⟨f0,f1,f2,f3,f4,f5⟩:=hf it (by simp);refine wpAny_pyNext_list_item st p.isList (x:=u) (by simpa using hu) fun h' st' sb=>?_;have I1:Inv X pins σ H { s with heap:=h' }:=I.turned (t':=s.toks) (fun b o hb e=>(sb.2 b hb).trans e) f0 f1 f3 f4 f5;obtain⟨o,e,c,d⟩:=id st';exact⟨u,rfl,jmF (s:={ s with heap:=h' }) e c d (by decide) ⟨x,H,I1,ru,⟨rfl,fun ys hy=>by rw[I.list_inj hy hq];exact hx⟩,st',fun b hb=>(hf b hb).1⟩⟩
 done:=by
  intro X hP hw hK hc i pins s σ H E I hf st hg;subst hP hw hK;obtain⟨xs,hq,hx⟩:=hg;obtain⟨its,rv,p,hz⟩:=I.list hq;obtain⟨f0,f1,f2,f3,f4,f5⟩:=hf it (by simp);have hl:=rv.length;exact wpAny_pyNext_list_end (I.ok.hd hc) st p.isList (by simp;omega) fun h' eb=>⟨rfl,I.turned (t':=s.toks) (fun b o hb e=>eb b o hb e) f0 f1 f3 f4 f5⟩
 self:=fun _ _ _ _ _ st h=>wpAny_pyIter_listiter st h
theorem jhH {P:Program} {w:World} {K:PySem.W.Frag} {tg:Expr} (a it:Addr):Turn P w K tg (Itt K a) [it] it (fun i h=>h.IsTupleIter it a i) where
 mem:=by simp
 obj:=fun i h st b hb=>by
  have e:b=it:=by simpa using hb
  subst e;obtain⟨o,e,c,d⟩:=st;exact⟨o,e,fun v z=>by rw[d] at z;cases z⟩
 keep:=fun i h h' st k=>st.at fun o e=>k it (by simp) o e
 item:=by
  intro X hP hw hK hc i pins s σ H E I hf st hg;subst hP hw hK;obtain⟨xs,x,hq,hx⟩:=hg;obtain⟨its,rv,p,hz⟩:=I.tuple hq;obtain⟨u,hu,ru⟩:=rv.get hx;obtain⟨f0,f1,f2,f3,f4,f5⟩:=hf it (by simp);refine wpAny_pyNext_tuple_item st (show s.heap.IsTuple a its.toArray from p) (x:=u) (by simpa using hu) fun h' st' sb=>?_;have I1:Inv X pins σ H { s with heap:=h' }:=I.turned (t':=s.toks) (fun b o hb e=>(sb.2 b hb).trans e) f0 f1 f3 f4 f5;obtain⟨o,e,c,d⟩:=id st';exact⟨u,rfl,jmF (s:={ s with heap:=h' }) e c d (by decide) ⟨x,H,I1,ru,⟨rfl,fun ys hy=>by rw[I.tuple_inj hy hq];exact hx⟩,st',fun b hb=>(hf b hb).1⟩⟩
 done:=by
  intro X hP hw hK hc i pins s σ H E I hf st hg;subst hP hw hK;obtain⟨xs,hq,hx⟩:=hg;obtain⟨its,rv,p,hz⟩:=I.tuple hq;obtain⟨f0,f1,f2,f3,f4,f5⟩:=hf it (by simp);have hl:=rv.length;exact wpAny_pyNext_tuple_end (I.ok.hd hc) st (show s.heap.IsTuple a its.toArray from p) (by simp;omega) fun h' eb=>⟨rfl,I.turned (t':=s.toks) (fun b o hb e=>eb b o hb e) f0 f1 f3 f4 f5⟩
 self:=fun _ _ _ _ _ st h=>wpAny_pyIter_tupleiter st h
theorem jhI {P:Program} {w:World} {K:PySem.W.Frag} {tg:Expr} (it:Addr) (lo:Int) (n:Nat):Turn P w K tg (Itr lo n) [it] it (fun i h=>IsRangeIter h it (lo+(i:Nat)*1) ((n:Int)-(i:Nat)) 1) where
 mem:=by simp
 obj:=fun i h st b hb=>by
  have e:b=it:=by simpa using hb
  subst e;exact⟨_,st,fun v z=>by
   have z':Data.fields _=Data.cell v:=z;cases z'⟩
 keep:=fun i h h' st k=>k it (by simp) _ st
 item:=by
  intro X hP hw hK hc i pins s σ H E I hf st hg;subst hP hw hK;obtain⟨f0,f1,f2,f3,f4,f5⟩:=hf it (by simp);have W:=Walks.range (prog:=X.prog) (w:=X.w) (I.ok.hd hc) it lo 1 n;refine W.item i s _ _ hg st fun v h' tk hv st' kk=>?_;obtain⟨t,rfl⟩:=hv;have I1:Inv X pins σ H { s with heap:=h',toks:=tk }:=I.turned (fun b o hb e=>kk b o (by simpa using hb) e) f0 f1 f3 f4 f5;refine⟨_,rfl,jmF (s:={ s with heap:=h',toks:=tk }) (n:="range_iterator") st' rfl rfl (by decide) ⟨.int (lo+i),H,I1,⟨t,?_⟩,⟨rfl,rfl⟩,st',fun b hb=>(hf b hb).1⟩⟩;rw[xbY]
 done:=by
  intro X hP hw hK hc i pins s σ H E I hf st hg;subst hP hw hK;obtain⟨f0,f1,f2,f3,f4,f5⟩:=hf it (by simp);exact wpAny_pyNext_range_end (I.ok.hd hc) st (by have:n<=i:=hg;omega) fun h' eb=>⟨rfl,I.turned (t':=s.toks) (fun b o hb e=>eb b o hb e) f0 f1 f3 f4 f5⟩
 self:=fun _ _ _ _ _ st h=>wpAny_pyIter_rangeiter st h
section
variable {X:Cx} {tg:Expr}
def jks (K:PySem.W.Frag) (tl:TE):TI:=fun σ H R=>tl σ H fun x H1=>∃a,x=.ref a/\(∃xs,SqL K H1 a xs)/\R (Itl K a) H1
def iTup (K:PySem.W.Frag) (tl:TE):TI:=fun σ H R=>tl σ H fun x H1=>∃a,x=.ref a/\(∃xs,SqT K H1 a xs)/\R (Itt K a) H1
theorem jbk {l:Expr} {tl:TE} (hl:PE X l tl):PI X tg l (jks X.K tl):=by
 intro pins s σ H R I h;refine thn (hl pins s σ H _ I h) fun v s1 ⟨x,H1,I1,r1,q1⟩=>?_;obtain⟨a,e,⟨xs,hq⟩,q⟩:=q1;subst e;cases r1;obtain⟨its,rv,p,hz⟩:=I1.list hq;refine wpAny_pyIter_list p.isList ?_;refine⟨s1.heap.objs.size,[s1.heap.objs.size],_,_,H1,rfl,I1.kept (t':=s1.toks) fun b o e=>Heap.get?_push_of_some _ e,jib a _,⟨_,Heap.get?_push_size _ rfl,rfl,rfl⟩,fun b hb=>?_,q⟩;have e:b=s1.heap.objs.size:=by simpa using hb
 subst e;exact I1.fpOk (xag _) (I1.hok.fresh (xag _))
theorem jdJ {l:Expr} {tl:TE} (hl:PE X l tl):PI X tg l (iTup X.K tl):=by
 intro pins s σ H R I h;refine thn (hl pins s σ H _ I h) fun v s1 ⟨x,H1,I1,r1,q1⟩=>?_;obtain⟨a,e,⟨xs,hq⟩,q⟩:=q1;subst e;cases r1;obtain⟨its,rv,p,hz⟩:=I1.tuple hq;refine wpAny_pyIter_tuple (show s1.heap.IsTuple a its.toArray from p) ?_;refine⟨s1.heap.objs.size,[s1.heap.objs.size],_,_,H1,rfl,I1.kept (t':=s1.toks) fun b o e=>Heap.get?_push_of_some _ e,jhH a _,⟨_,Heap.get?_push_size _ rfl,rfl,rfl⟩,fun b hb=>?_,q⟩;have e:b=s1.heap.objs.size:=by simpa using hb
 subst e;exact I1.fpOk (xag _) (I1.hok.fresh (xag _))
theorem jgR {pins:List (Addr × Obj)} {σ:St} {H:Hp} {s:Shared} {R:It->Hp->Prop} {E:Value->Shared->Prop} {lo hi:Int} {t u v:Tok} {tk:Nat} (I:Inv X pins σ H s) (h1:-(2^62)<=lo) (h2:lo<2^62) (h3:-(2^62)<=hi) (h4:hi<2^62)
  (q:R (Itr lo (hi-lo).toNat) H):wpAny (model X.prog X.w) X.A (pyIter (.ref s.heap.objs.size)) (PIE X pins σ tg R) E { s with heap:=s.heap.push { cls:=.type "range",data:=.fields #[.int lo t,.int hi u,.int 1 v] },toks:=tk }:=by
 refine wpAny_pyIter_range (IsRange.new ..) (small_one h1 h2 h3 h4) ?_;have I1:Inv X pins σ H { s with heap:=s.heap.push { cls:=.type "range",data:=.fields #[.int lo t,.int hi u,.int 1 v] },toks:=tk }:=I.kept fun b o e=>Heap.get?_push_of_some _ e;refine⟨(s.heap.push { cls:=.type "range",data:=.fields #[.int lo t,.int hi u,.int 1 v] }).objs.size,[(s.heap.push { cls:=.type "range",data:=.fields #[.int lo t,.int hi u,.int 1 v] }).objs.size],_,_,H,rfl,
  I1.kept (t':=tk) fun b o e=>Heap.get?_push_of_some _ e,jhI _ lo (hi-lo).toNat,?_,fun b hb=>?_,q⟩
 ·have e1:lo+((0:Nat):Int)*1=lo:=by simp
  have e2:(((hi-lo).toNat:Nat):Int)-((0:Nat):Int)=Builtin.Range.rangeSize lo hi 1:=by rw[rangeSize_one];split<;>omega
  show IsRangeIter _ _ (lo+((0:Nat):Int)*1) ((((hi-lo).toNat:Nat):Int)-((0:Nat):Int)) 1;rw[e1,e2];exact Heap.get?_push_size _ rfl
 ·have e:b=(s.heap.push { cls:=.type "range",data:=.fields #[.int lo t,.int hi u,.int 1 v] }).objs.size:=by simpa using hb
  subst e;exact I1.fpOk (xag _) (I1.hok.fresh (xag _))
def jmG (ta:TA):TI:=fun σ H R=>ta σ H fun vs H1=>∃j:Int,vs=[.int j]/\-(2^62)<=j/\j<2^62/\R (Itr 0 j.toNat) H1
def jmH (ta:TA):TI:=fun σ H R=>ta σ H fun vs H1=>∃i j:Int,vs=[.int i,.int j]/\(-(2^62)<=i/\i<2^62/\-(2^62)<=j/\j<2^62)/\R (Itr i (j-i).toNat) H1
theorem jaV {a:Expr} {ta:TA} {p pos:Pos} (hg:Gl X "range") (hm:X.mg "range"=none) (ha:PA X [a] ta) (hs:starEach [a] X.env=[(false,eval a X.env)]:=by rfl):PI X tg (.Call (.Name "range" p) [a] [] pos) (jmG ta):=by
  intro pins s σ H R I h;refine Call_ (jeC I hg hm boot_range (PyProof.Rows.callWith_type1 (thn (ha pos pins s σ H _ I h) fun us s1 ⟨vs,H1,I1,r1,q1⟩=>?_) hs rfl));obtain⟨j,e,q1,q2,q⟩:=q1;subst e;cases r1 with
  | cons r rr =>
    cases rr;obtain⟨t,rfl⟩:=r;exact call_range_1 (jgR I1 (by omega) (by omega) q1 q2 (by simpa using q))
theorem jd2 {a b:Expr} {ta:TA} {p pos:Pos} (hg:Gl X "range") (hm:X.mg "range"=none) (ha:PA X [a,b] ta) (hs:starEach [a,b] X.env=[(false,eval a X.env),(false,eval b X.env)]:=by rfl) (hs2:starEach [b] X.env=[(false,eval b X.env)]:=by rfl) :
    PI X tg (.Call (.Name "range" p) [a,b] [] pos) (jmH ta):=by
  intro pins s σ H R I h;refine Call_ (jeC I hg hm boot_range (PyProof.Rows.callWith_type1 (thn (ha pos pins s σ H _ I h) fun us s1 ⟨vs,H1,I1,r1,q1⟩=>?_) (by rw[hs,hs2]) (by rw[hs2];rfl)));obtain⟨i,j,e,⟨q1,q2,q3,q4⟩,q⟩:=q1;subst e;cases r1 with
  | cons r rr =>
    cases rr with
    | cons r' rr =>
      cases rr;obtain⟨t,rfl⟩:=r;obtain⟨t',rfl⟩:=r';exact call_range_2 (jgR I1 q1 q2 q3 q4 q)
def jmI (wi:TI) (g:TG) (tb:TS):TS:=fun D σ H=>wi σ H fun J H1=>∃W:Nat->Nat->St->Hp->Prop,(∃m,W 0 m σ H1)/\∀i m σ H,W i m σ H ->
 (J.stop i H/\D.nx σ H)\/(J.go i H/\∃N:St->Hp->Prop,(∀σ' H',N σ' H'->∃m',m'<m/\W (i+1) m' σ' H')/\∀x H',J.yld i H x H'->g x σ H' fun σ2 H2=>tb { D with nx:=N,ct:=N,bk:=D.nx } σ2 H2)
def jfD (fp:List Addr) (h:Heap):List (Addr × Obj):=fp.filterMap fun b=>(h.get? b).map fun o=>(b,o)
theorem jcN {fp:List Addr} {h:Heap} {b:Addr} {o:Obj} (hb:b∈fp) (e:h.get? b=some o):(b,o)∈jfD fp h:=xby.mpr ⟨b,hb,by rw[e];rfl⟩
theorem jic {fp:List Addr} {h:Heap} {p:Addr × Obj} (hp:p∈jfD fp h):p.1∈fp/\h.get? p.1=some p.2:=by
  obtain⟨b,hb,e⟩:=xby.mp hp;cases q:h.get? b with
  | none=>rw[q] at e;cases e
  | some o =>
    rw[q] at e;have e':(b,o)=p:=Option.some.inj e;subst e';exact⟨hb,q⟩
theorem Inv.pinned {pins:List (Addr × Obj)} {σ:St} {H:Hp} {s:Shared} {fp:List Addr} (I:Inv X pins σ H s) (hf:∀b∈fp,jgQ X pins H b) (ho:∀b∈fp,∃o,s.heap.get? b=some o/\∀v,o.data≠.cell v):Inv X (pins++jfD fp s.heap) σ H s :=
 I.pins_of fun p hp=>(xas.mp hp).elim (fun z=>I.pin p (xaz _ z)) fun z=>by
  obtain⟨hb,e⟩:=jic z;obtain⟨f0,f1,f2,_⟩:=hf p.1 hb;obtain⟨o,e',d⟩:=ho p.1 hb;rw[e] at e';cases e';exact⟨e,f0,f1,f2,d⟩
theorem Inv.unpinned {pins pl:List (Addr × Obj)} {σ:St} {H:Hp} {s:Shared} (I:Inv X (pins++pl) σ H s):Inv X pins σ H s:=I.pins_of fun p hp=>I.pin p (xaz _ (xaY _ hp))
theorem jbp {iter:Expr} {body:List Stmt} {wi:TI} {g:TG} {tb:TS} {pos:Pos} (hp:PassesOwn (model X.prog X.w) X.A X.env X.xe) (hc:X.calm=true) (hi:PI X tg iter wi) (hg:PG X tg g) (hb:PSs X body tb)
  (hs:∀x,foldedSetIterable iter X.env x=pure x:=by intro _;rfl):PS X (.For tg iter body [] pos) (jmI wi g tb):=by
 intro pins s σ H D I h;refine wpAny_For (thn (hi pins s σ H _ I h) fun v s1 h1=>thn h1 fun itv s2 h2=>?_) hs;obtain⟨it,fp,tn,J,H2,e,I2,T,st2,f2,W,⟨m0,w0⟩,turn⟩:=h2;subst e;have stat:∀{H':Hp},(∀b∈fp,H' b=none)->∀b∈fp,jgQ X pins H' b:=fun hn b hb=>⟨hn b hb,(f2 b hb).2⟩;refine codeAny_forLoop_any (fun n s'=>∃i σ' H',Inv X pins σ' H' s'/\tn i s'.heap/\(∀b∈fp,H' b=none)/\W i n σ' H') ?_ m0 ⟨0,σ,H2,I2,st2,fun b hb=>(f2 b hb).1,w0⟩;rintro n s3 ⟨i,σ3,H3,I3,st3,fr3,w3⟩;rcases turn i n σ3 H3 w3 with ⟨stop,qn⟩ | ⟨go,N,hN,step⟩
 ·refine wpAny_passesOwn hp (thn (T.done X rfl rfl rfl hc i pins s3 σ3 H3 X.xe I3 (stat fr3) st3 stop) fun r s4 ⟨hr,I4⟩=>?_);subst hr;exact wpAny_execs_nil ⟨σ3,H3,I4,qn⟩
 ·refine wpAny_passesOwn hp (thn (T.item X rfl rfl rfl hc i pins s3 σ3 H3 X.xe I3 (stat fr3) st3 go) fun r s4 ⟨u,hr,h4⟩=>?_);subst hr;refine wpAny_passesOwn hp (thn h4 fun _ s5 ⟨x,H5,I5,r5,y5,st5,fr5⟩=>?_);have I5':=I5.pinned (stat fr5) (T.obj _ _ st5);refine wpAny_passesOwn hp (thn (hg _ s5 σ3 H5 x u _ I5' r5 (step x H5 y5)) fun _ s6 ⟨σ6,H6,I6,q6⟩=>?_);refine wpAny_passesOwn hp (thn (hb _ s6 σ6 H6 _ I6 q6) fun f s7 q7=>?_);have again:∀{σ7:St} {H7:Hp},Inv X (pins++jfD fp s5.heap) σ7 H7 s7->N σ7 H7->∃m,m<n/\∃i σ' H',Inv X pins σ' H' s7/\tn i s7.heap/\(∀b∈fp,H' b=none)/\W i m σ' H':=fun {σ7 H7} I7 n7=>by
   obtain⟨m',hm,w7⟩:=hN σ7 H7 n7;refine⟨m',hm,i+1,σ7,H7,I7.unpinned,T.keep _ _ _ st5 fun b hb o e=>(I7.pin (b,o) (xaz _ (xaz _ (jcN hb e)))).1,fun b hb=>?_,w7⟩;obtain⟨o,e,d⟩:=T.obj _ _ st5 b hb;exact (I7.pin (b,o) (xaz _ (xaz _ (jcN hb e)))).2.1
  cases f with
  | next=>obtain⟨σ7,H7,I7,n7⟩:=q7;exact again I7 n7
  | cont=>obtain⟨σ7,H7,I7,n7⟩:=q7;exact again I7 n7
  | brk=>obtain⟨σ7,H7,I7,q7⟩:=q7;exact⟨σ7,H7,I7.unpinned,q7⟩
  | ret v=>obtain⟨x7,σ7,H7,I7,r7,q7⟩:=q7;exact⟨x7,σ7,H7,I7.unpinned,r7,q7⟩
end
theorem jbw {K:PySem.W.Frag} {a:Addr} {xs:List V} {g:TG} {tb:TS} {D:Ends} {σ:St} {H:Hp} (Pv:Nat->St->Hp->Prop) (h0:Pv 0 σ H) (hl:∀i σ H,i<=xs.length->Pv i σ H->SqL K H a xs)
    (hs:∀i x σ H,xs[i]?=some x->Pv i σ H->g x σ H fun σ2 H2=>tb { D with nx:=Pv (i+1),ct:=Pv (i+1),bk:=D.nx } σ2 H2) (hd:∀σ H,Pv xs.length σ H->D.nx σ H) :
    ∃ W : Nat -> Nat -> St -> Hp -> Prop, (∃ m, W 0 m σ H) /\ ∀ i m σ H, W i m σ H ->
      ((Itl K a).stop i H/\D.nx σ H)\/((Itl K a).go i H/\∃N:St->Hp->Prop,(∀σ' H',N σ' H'->∃m',m'<m/\W (i+1) m' σ' H')/\∀x H',(Itl K a).yld i H x H'->g x σ H' fun σ2 H2=>tb { D with nx:=N,ct:=N,bk:=D.nx } σ2 H2):=by
  refine⟨fun i m σ H=>m=xs.length-i/\i<=xs.length/\Pv i σ H,⟨xs.length,by simp,xaO _,h0⟩,?_⟩;rintro i m σ H ⟨rfl,hi,p⟩;have q:=hl i σ H hi p;by_cases hlt:i<xs.length
  . refine .inr ⟨⟨xs,xs[i],q,by simp [hlt]⟩,Pv (i+1),fun σ' H' p'=>⟨xs.length-(i+1),by omega,rfl,hlt,p'⟩,fun x H' y=>?_⟩
    obtain⟨e,y⟩:=y;subst e;exact hs i x σ _ (y xs q) p
  . have e:i=xs.length:=by omega
    subst e;exact .inl ⟨⟨xs,q,xag _⟩,hd σ H p⟩
theorem jgk {K:PySem.W.Frag} {a:Addr} {xs:List V} {g:TG} {tb:TS} {D:Ends} {σ:St} {H:Hp} (Pv:Nat->St->Hp->Prop) (h0:Pv 0 σ H) (hl:∀i σ H,i<=xs.length->Pv i σ H->SqT K H a xs)
    (hs:∀i x σ H,xs[i]?=some x->Pv i σ H->g x σ H fun σ2 H2=>tb { D with nx:=Pv (i+1),ct:=Pv (i+1),bk:=D.nx } σ2 H2) (hd:∀σ H,Pv xs.length σ H->D.nx σ H) :
    ∃ W : Nat -> Nat -> St -> Hp -> Prop, (∃ m, W 0 m σ H) /\ ∀ i m σ H, W i m σ H ->
      ((Itt K a).stop i H/\D.nx σ H)\/((Itt K a).go i H/\∃N:St->Hp->Prop,(∀σ' H',N σ' H'->∃m',m'<m/\W (i+1) m' σ' H')/\∀x H',(Itt K a).yld i H x H'->g x σ H' fun σ2 H2=>tb { D with nx:=N,ct:=N,bk:=D.nx } σ2 H2):=by
  refine⟨fun i m σ H=>m=xs.length-i/\i<=xs.length/\Pv i σ H,⟨xs.length,by simp,xaO _,h0⟩,?_⟩;rintro i m σ H ⟨rfl,hi,p⟩;have q:=hl i σ H hi p;by_cases hlt:i<xs.length
  . refine .inr ⟨⟨xs,xs[i],q,by simp [hlt]⟩,Pv (i+1),fun σ' H' p'=>⟨xs.length-(i+1),by omega,rfl,hlt,p'⟩,fun x H' y=>?_⟩
    obtain⟨e,y⟩:=y;subst e;exact hs i x σ _ (y xs q) p
  . have e:i=xs.length:=by omega
    subst e;exact .inl ⟨⟨xs,q,xag _⟩,hd σ H p⟩
theorem jbH {lo:Int} {n:Nat} {g:TG} {tb:TS} {D:Ends} {σ:St} {H:Hp} (Pv:Nat->St->Hp->Prop) (h0:Pv 0 σ H)
    (hs:∀i σ H,i<n->Pv i σ H->g (.int (lo+i)) σ H fun σ2 H2=>tb { D with nx:=Pv (i+1),ct:=Pv (i+1),bk:=D.nx } σ2 H2) (hd:∀σ H,Pv n σ H->D.nx σ H) :
    ∃ W : Nat -> Nat -> St -> Hp -> Prop, (∃ m, W 0 m σ H) /\ ∀ i m σ H, W i m σ H ->
      ((Itr lo n).stop i H/\D.nx σ H)\/((Itr lo n).go i H/\∃N:St->Hp->Prop,(∀σ' H',N σ' H'->∃m',m'<m/\W (i+1) m' σ' H')/\∀x H',(Itr lo n).yld i H x H'->g x σ H' fun σ2 H2=>tb { D with nx:=N,ct:=N,bk:=D.nx } σ2 H2):=by
  refine⟨fun i m σ H=>m=n-i/\i<=n/\Pv i σ H,⟨n,by simp,xaO _,h0⟩,?_⟩;rintro i m σ H ⟨rfl,hi,p⟩;by_cases hlt:i<n
  . refine .inr ⟨hlt,Pv (i+1),fun σ' H' p'=>⟨n-(i+1),by omega,rfl,hlt,p'⟩,fun x H' y=>?_⟩
    obtain⟨e,y⟩:=y;subst e y;exact hs i σ _ hlt p
  . have e:i=n:=by omega
    subst e;exact .inl ⟨xag _,hd σ H p⟩
abbrev R2:=V->V->Hp->VK->Prop
def OpR (X:Cx) (f:Value->Value->Sem Value) (r:R2):Prop :=
  ∀ (pins : List (Addr × Obj)) (s : Shared) (σ : St) (H : Hp) (x y : V) (v u : Value) (Q : VK), Inv X pins σ H s -> RelV x v -> RelV y u -> r x y H Q ->
    wpAny (model X.prog X.w) X.A (f v u) (EP X pins σ Q) X.xe s
def UnR (X:Cx) (f:Value->Sem Value) (r:V->Hp->VK->Prop):Prop :=
  ∀ (pins : List (Addr × Obj)) (s : Shared) (σ : St) (H : Hp) (x : V) (v : Value) (Q : VK), Inv X pins σ H s -> RelV x v -> r x H Q ->
    wpAny (model X.prog X.w) X.A (f v) (EP X pins σ Q) X.xe s
def CallR (X:Cx) (f:Value) (r:List V->Hp->VK->Prop):Prop :=
  ∀ (pins : List (Addr × Obj)) (s : Shared) (σ : St) (H : Hp) (xs : List V) (us : List Value) (Q : VK), Inv X pins σ H s -> Vals xs us -> r xs H Q ->
    wpAny (model X.prog X.w) X.A (call f us) (EP X pins σ Q) X.xe s
def tOp (r:R2) (ta tb:TE):TE:=fun σ H Q=>ta σ H fun x H1=>tb σ H1 fun y H2=>r x y H2 Q
def tUn (r:V->Hp->VK->Prop) (ta:TE):TE:=fun σ H Q=>ta σ H fun x H1=>r x H1 Q
def rI (C:Int->Int->Prop) (g:Int->Int->V):R2:=fun x y H Q=>∃i j,x=.int i/\y=.int j/\C i j/\Q (g i j) H
def rI0 (g:Int->Int->V):R2:=fun x y H Q=>∃i j,x=.int i/\y=.int j/\Q (g i j) H
def rU (g:Int->V):V->Hp->VK->Prop:=fun x H Q=>∃i,x=.int i/\Q (g i) H
section
variable {X:Cx} {a b c:Expr} {ta tb tc:TE} {pos:Pos}
theorem binT (ha:PE X a ta) (hb:PE X b tb) {pins:List (Addr × Obj)} {s:Shared} {σ:St} {H:Hp} {R:V->V->Hp->Prop} (I:Inv X pins σ H s)
  (h:ta σ H fun x H1=>tb σ H1 fun y H2=>R x y H2) {Q:Value->Shared->Prop} {f:Value->Value->Sem Value}
  (hf:∀v u s2 x y H2,Inv X pins σ H2 s2->RelV x v->RelV y u->R x y H2->wpAny (model X.prog X.w) X.A (f v u) Q X.xe s2) :
  wpAny (model X.prog X.w) X.A (eval a X.env) (fun v s₁=>wpAny (model X.prog X.w) X.A (eval b X.env) (fun u s₂=>wpAny (model X.prog X.w) X.A (f v u) Q X.xe s₂) X.xe s₁) X.xe s:=by
 refine thn (ha pins s σ H _ I h) fun v s1 ⟨x,H1,I1,r1,q1⟩=>?_;refine thn (hb pins s1 σ H1 _ I1 q1) fun u s2 ⟨y,H2,I2,r2,q2⟩=>?_;exact hf v u s2 x y H2 I2 r1 r2 q2
theorem jau {op:Operator} {r:R2} (ho:OpR X (binaryOp op) r) (ha:PE X a ta) (hb:PE X b tb):PE X (.BinOp a op b pos) (tOp r ta tb):=by
 intro pins s σ H Q I h;exact wpAny_BinOp (binT ha hb I h fun v u s2 x y H2 I2 rx ry q=>ho pins s2 σ H2 x y v u Q I2 rx ry q)
theorem jdq {op:UnaryOp} {r:V->Hp->VK->Prop} (ho:UnR X (unaryOp op) r) (ha:PE X a ta):PE X (.UnaryOp op a pos) (tUn r ta):=by
 intro pins s σ H Q I h;exact UnaryOp_ (thn (ha pins s σ H _ I h) fun v s1 ⟨x,H1,I1,r1,q1⟩=>ho pins s1 σ H1 x v Q I1 r1 q1)
theorem opI {f:Value->Value->Sem Value} {C:Int->Int->Prop} {g:Int->Int->Int}
  (rule:∀(i j:Int) (t u:Tok) (s:Shared) (Q:Value->Shared->Prop) (E:Value->Shared->Prop),C i j->Q (.int (g i j) s.toks) { s with toks:=s.toks+1 }->wpAny (model X.prog X.w) X.A (f (.int i t) (.int j u)) Q E s) :
  OpR X f (rI C fun i j=>.int (g i j)):=by
 intro pins s σ H x y v u Q I rx ry h;obtain⟨i,j,rfl,rfl,hc,q⟩:=h;obtain⟨t,rfl⟩:=rx;obtain⟨t',rfl⟩:=ry;exact rule i j t t' s _ _ hc ⟨.int (g i j),H,I.tok _,⟨_,rfl⟩,q⟩
theorem opI0 {f:Value->Value->Sem Value} {g:Int->Int->Int}
  (rule:∀(i j:Int) (t u:Tok) (s:Shared) (Q:Value->Shared->Prop) (E:Value->Shared->Prop),Q (.int (g i j) s.toks) { s with toks:=s.toks+1 }->wpAny (model X.prog X.w) X.A (f (.int i t) (.int j u)) Q E s) :
  OpR X f (rI0 fun i j=>.int (g i j)):=by
 intro pins s σ H x y v u Q I rx ry h;obtain⟨i,j,rfl,rfl,q⟩:=h;obtain⟨t,rfl⟩:=rx;obtain⟨t',rfl⟩:=ry;exact rule i j t t' s _ _ ⟨.int (g i j),H,I.tok _,⟨_,rfl⟩,q⟩
theorem opB0 {f:Value->Value->Sem Value} {g:Int->Int->Bool}
  (rule:∀(i j:Int) (t u:Tok) (s:Shared) (Q:Value->Shared->Prop) (E:Value->Shared->Prop),Q (.bool (g i j)) s->wpAny (model X.prog X.w) X.A (f (.int i t) (.int j u)) Q E s) :
  OpR X f (rI0 fun i j=>.bl (g i j)):=by
 intro pins s σ H x y v u Q I rx ry h;obtain⟨i,j,rfl,rfl,q⟩:=h;obtain⟨t,rfl⟩:=rx;obtain⟨t',rfl⟩:=ry;exact rule i j t t' s _ _ ⟨.bl (g i j),H,I,rfl,q⟩
def CPow (i j:Int):Prop:=0<=j/\j<=1000000/\i.natAbs<2^64
theorem jbf:OpR X (binaryOp .Add) (rI0 fun i j=>.int (i+j)):=opI0 fun _ _ _ _ _ _ _ q=>add_int q
theorem ja6:OpR X (binaryOp .Sub) (rI0 fun i j=>.int (i-j)):=opI0 fun _ _ _ _ _ _ _ q=>sub_int q
theorem jbR:OpR X (binaryOp .Mod) (rI (fun _ j=>0<j) fun i j=>.int (i % j)):=opI fun i j _ _ _ _ _ hc q=>by
 have h1:(0:Int)<j:=hc;exact mod_int' (by omega) (by rw[Int.fmod_eq_emod_of_nonneg i (by omega)];exact q)
theorem jgS:OpR X (binaryOp .Pow) (rI CPow fun i j=>.int (i^j.toNat)):=opI fun _ _ _ _ _ _ _ hc q=>pow_int_small hc.1 hc.2.1 hc.2.2 q
theorem unI {f:Value->Sem Value} {g:Int->Int}
  (rule:∀(i:Int) (t:Tok) (s:Shared) (Q:Value->Shared->Prop) (E:Value->Shared->Prop),Q (.int (g i) s.toks) { s with toks:=s.toks+1 }->wpAny (model X.prog X.w) X.A (f (.int i t)) Q E s) :
  UnR X f (rU fun i=>.int (g i)):=by
 intro pins s σ H x v Q I rx h;obtain⟨i,rfl,q⟩:=h;obtain⟨t,rfl⟩:=rx;exact rule i t s _ _ ⟨.int (g i),H,I.tok _,⟨_,rfl⟩,q⟩
theorem jb6:UnR X (unaryOp .USub) (rU fun i=>.int (-i)):=unI fun _ _ _ _ _ q=>neg_int q
end
def jod:V->V->Bool
 | .non,.non=>true | .non,.int _=>true | .int _,.non=>true | .non,.bl _=>true | .bl _,.non=>true | .non,.str _=>true | .str _,.non=>true
 | .int _,.int _=>true | .bl _,.bl _=>true | .str _,.str _=>true | .byt _,.byt _=>true
 | .int _,.str _=>true | .str _,.int _=>true | .bl _,.str _=>true | .str _,.bl _=>true
 | _,_=>false
def rEq:R2:=fun x y H Q=>jod x y=true/\Q (.bl (decide (x=y))) H
def rNe:R2:=fun x y H Q=>jod x y=true/\Q (.bl (!decide (x=y))) H
theorem jid {i j:Int}:decide (V.int i=V.int j)=(i==j):=by
 rw[xcl];simp
theorem jlw {i j:Bool}:decide (V.bl i=V.bl j)=(i==j):=by
 rw[xcl];simp
theorem jie {i j:Str}:decide (V.str i=V.str j)=(i==j):=by
 rw[xcl];simp
theorem jif {i j:Array UInt8}:decide (V.byt i=V.byt j)=(i.toList==j.toList):=by
 rw[xcl];cases i;cases j;simp
section
variable {X:Cx} {a b c:Expr} {ta tb tc:TE} {pos:Pos}
theorem jaS {pins:List (Addr × Obj)} {σ:St} {H:Hp} {s:Shared} {Q:VK} {k k':Bool} (I:Inv X pins σ H s) (q:Q (.bl k) H) (e:k=k'):EP X pins σ Q (.bool k') s:=by
 subst e;exact⟨.bl k,H,I,rfl,q⟩
theorem jdr:OpR X (compareOp .Eq) rEq:=by
  intro pins s σ H x y v u Q I rx ry h;obtain⟨hs,q⟩:=h;cases x with
  | non =>
    cases rx;cases y with
    | non=>cases ry;exact PySem.EqNone.eq_none_none (jaS I q (by simp))
    | bl j=>cases ry;exact PySem.EqNone.eq_none_bool (jaS I q (by simp))
    | int j=>obtain⟨t',rfl⟩:=ry;exact PySem.EqNone.eq_none_int (jaS I q (by simp))
    | str j=>obtain⟨t',rfl⟩:=ry;exact PySem.EqNone.eq_none_str (jaS I q (by simp))
    | _=>exact absurd (show false=true from hs) xaw
  | bl i =>
    cases rx;cases y with
    | non=>cases ry;exact PySem.EqNone.eq_bool_none (jaS I q (by simp))
    | bl j=>cases ry;exact eq_bool (jaS I q jlw)
    | str j=>obtain⟨t',rfl⟩:=ry;exact PySem.EqMixed.eq_bool_str (jaS I q (by simp))
    | _=>exact absurd (show false=true from hs) xaw
  | int i =>
    obtain⟨t,rfl⟩:=rx;cases y with
    | non=>cases ry;exact PySem.EqNone.eq_int_none (jaS I q (by simp))
    | int j=>obtain⟨t',rfl⟩:=ry;exact eq_int (jaS I q jid)
    | str j=>obtain⟨t',rfl⟩:=ry;exact PySem.EqMixed.eq_int_str (jaS I q (by simp))
    | _=>exact absurd (show false=true from hs) xaw
  | str i =>
    obtain⟨t,rfl⟩:=rx;cases y with
    | non=>cases ry;exact PySem.EqNone.eq_str_none (jaS I q (by simp))
    | bl j=>cases ry;exact PySem.EqMixed.eq_str_bool (jaS I q (by simp))
    | int j=>obtain⟨t',rfl⟩:=ry;exact PySem.EqMixed.eq_str_int (jaS I q (by simp))
    | str j=>obtain⟨t',rfl⟩:=ry;exact eq_str (jaS I q jie)
    | _=>exact absurd (show false=true from hs) xaw
  | byt i =>
    obtain⟨t,rfl⟩:=rx;cases y with
    | byt j=>obtain⟨t',rfl⟩:=ry;exact PySem.W.eq_bytes (jaS I q jif)
    | _=>exact absurd (show false=true from hs) xaw
  | _=>cases y<;>exact absurd (show false=true from hs) xaw
theorem jeY:OpR X (compareOp .NotEq) rNe:=by
  intro pins s σ H x y v u Q I rx ry h;obtain⟨hs,q⟩:=h;cases x with
  | non =>
    cases rx;cases y with
    | non=>cases ry;exact PySem.EqNone.ne_none_none (jaS I q (by simp))
    | bl j=>cases ry;exact PySem.EqNone.ne_none_bool (jaS I q (by simp))
    | int j=>obtain⟨t',rfl⟩:=ry;exact PySem.EqNone.ne_none_int (jaS I q (by simp))
    | str j=>obtain⟨t',rfl⟩:=ry;exact PySem.EqNone.ne_none_str (jaS I q (by simp))
    | _=>exact absurd (show false=true from hs) xaw
  | bl i =>
    cases rx;cases y with
    | non=>cases ry;exact PySem.EqNone.ne_bool_none (jaS I q (by simp))
    | bl j=>cases ry;exact ne_bool (jaS I q (congrArg not jlw))
    | str j=>obtain⟨t',rfl⟩:=ry;exact PySem.EqMixed.ne_bool_str (jaS I q (by simp))
    | _=>exact absurd (show false=true from hs) xaw
  | int i =>
    obtain⟨t,rfl⟩:=rx;cases y with
    | non=>cases ry;exact PySem.EqNone.ne_int_none (jaS I q (by simp))
    | int j=>obtain⟨t',rfl⟩:=ry;exact ne_int (jaS I q (congrArg not jid))
    | str j=>obtain⟨t',rfl⟩:=ry;exact PySem.EqMixed.ne_int_str (jaS I q (by simp))
    | _=>exact absurd (show false=true from hs) xaw
  | str i =>
    obtain⟨t,rfl⟩:=rx;cases y with
    | non=>cases ry;exact PySem.EqNone.ne_str_none (jaS I q (by simp))
    | bl j=>cases ry;exact PySem.EqMixed.ne_str_bool (jaS I q (by simp))
    | int j=>obtain⟨t',rfl⟩:=ry;exact PySem.EqMixed.ne_str_int (jaS I q (by simp))
    | str j=>obtain⟨t',rfl⟩:=ry;exact ne_str (jaS I q (congrArg not jie))
    | _=>exact absurd (show false=true from hs) xaw
  | byt i =>
    obtain⟨t,rfl⟩:=rx;cases y with
    | byt j=>obtain⟨t',rfl⟩:=ry;exact PySem.W.ne_bytes (jaS I q (congrArg not jif))
    | _=>exact absurd (show false=true from hs) xaw
  | _=>cases y<;>exact absurd (show false=true from hs) xaw
theorem jgl:OpR X (compareOp .Lt) (rI0 fun i j=>.bl (decide (i<j))):=opB0 fun _ _ _ _ _ _ _ q=>lt_int q
theorem jow:OpR X (compareOp .LtE) (rI0 fun i j=>.bl (decide (i<=j))):=opB0 fun _ _ _ _ _ _ _ q=>le_int q
theorem jgm:OpR X (compareOp .Gt) (rI0 fun i j=>.bl (decide (j<i))):=opB0 fun _ _ _ _ _ _ _ q=>gt_int q
theorem jmJ:OpR X (compareOp .GtE) (rI0 fun i j=>.bl (decide (j<=i))):=opB0 fun _ _ _ _ _ _ _ q=>ge_int q
theorem jc8:OpR X (compareOp .Is) (fun x y H Q=>y=.non/\Q (.bl (decide (x=.non))) H):=by
 intro pins s σ H x y v u Q I rx ry h;obtain⟨rfl,q⟩:=h;cases ry;refine is_none_gen (jaS I q ?_);cases x<;>first
  | (cases rx;rfl)
  | (obtain⟨t,rfl⟩:=rx;rfl)
theorem jd3:OpR X (compareOp .IsNot) (fun x y H Q=>y=.non/\Q (.bl (!decide (x=.non))) H):=by
 intro pins s σ H x y v u Q I rx ry h;obtain⟨rfl,q⟩:=h;cases ry;refine isnot_none_gen (jaS I q ?_);cases x<;>first
  | (cases rx;rfl)
  | (obtain⟨t,rfl⟩:=rx;rfl)
theorem OpR.or {f:Value->Value->Sem Value} {r r':R2} (h:OpR X f r) (h':OpR X f r'):OpR X f (fun x y H Q=>r x y H Q\/r' x y H Q):=by
 intro pins s σ H x y v u Q I rx ry q;rcases q with q | q
 ·exact h pins s σ H x y v u Q I rx ry q
 ·exact h' pins s σ H x y v u Q I rx ry q
theorem jax (b:Expr) {op:CmpOp} (h:op≠.In:=by decide) (h2:op≠.NotIn:=by decide):behindInMarks op b=false:=by
 have e1:(op==CmpOp.In)=false:=by cases op<;>first | rfl | exact absurd rfl h
 have e2:(op==CmpOp.NotIn)=false:=by cases op<;>first | rfl | exact absurd rfl h2
 cases b<;>simp [behindInMarks,e1,e2]
theorem jd4 {op:CmpOp} {r:R2} (ho:OpR X (compareOp op) r) (ha:PE X a ta) (hb:PE X b tb) (hm:behindInMarks op b=false):PE X (.Compare a [op] [b] pos) (tOp r ta tb):=by
 intro pins s σ H Q I h;exact wpAny_Compare1 (binT ha hb I h fun v u s2 x y H2 I2 rx ry q=>ho pins s2 σ H2 x y v u Q I2 rx ry q) hm
def jig (t:TE):TT:=fun σ H Q=>t σ H fun x H'=>∃k,x=.bl k/\Q k H'
theorem jaq {op:CmpOp} {r:R2} (ho:OpR X (compareOp op) r) (ha:PE X a ta) (hb:PE X b tb) (hm:behindInMarks op b=false):PT X (.Compare a [op] [b] pos) (jig (tOp r ta tb)):=by
 intro pins s σ H Q I h;refine wpAny_isTrue_Compare1 (thn (ha pins s σ H _ I h) fun v s1 ⟨x,H1,I1,r1,q1⟩=>thn (hb pins s1 σ H1 _ I1 q1) fun u s2 ⟨y,H2,I2,r2,q2⟩ =>
  thn (ho pins s2 σ H2 x y v u _ I2 r1 r2 q2) fun c s3 ⟨z,H3,I3,r3,k,e,q3⟩=>?_) hm
 subst e;cases r3;exact wpAny_truthy_bool ⟨H3,I3,q3⟩
def jlx (r r':R2) (ta tb tc:TE):TE:=fun σ H Q=>ta σ H fun x H1=>tb σ H1 fun y H2=>r x y H2 fun z H3=>∃k,z=.bl k /\
 (if k=true then tc σ H3 fun w' H4=>r' y w' H4 Q else Q (.bl false) H3)
theorem jgT:(sizeLine:Nat)<2^63:=by rw[sizeLine_eq];decide
theorem jfE {x:V} {us:List Value} (r:Vals [x] us):∃u,us=[u]/\RelV x u:=by
 cases r with
 | cons r1 r2=>cases r2;exact⟨_,rfl,r1⟩
theorem jox {x y:V} {us:List Value} (r:Vals [x,y] us):∃u w',us=[u,w']/\RelV x u/\RelV y w':=by
  cases r with
  | cons r1 r2 =>
    cases r2 with
    | cons r3 r4=>cases r4;exact⟨_,_,rfl,r1,r3⟩
theorem jcO:CallR X (.builtin "abs") (fun xs H Q=>∃i,xs=[.int i]/\Q (.int (if i<0 then -i else i)) H):=by
 intro pins s σ H xs us Q I r h;obtain⟨i,rfl,q⟩:=h;obtain⟨u,rfl,t,rfl⟩:=jfE r;exact call_abs_int fun u tk=>⟨.int (if i<0 then -i else i),H,I.tok _,⟨_,rfl⟩,q⟩
theorem jih (hc:X.calm=true):CallR X (.builtin "max") (fun xs H Q=>∃i j,xs=[.int i,.int j]/\Q (.int (if j>i then j else i)) H):=by
 intro pins s σ H xs us Q I r h;obtain⟨i,j,rfl,q⟩:=h;obtain⟨u,w',rfl,⟨t,rfl⟩,⟨t',rfl⟩⟩:=jox r;refine max_two_ints (I.ok.hd hc) fun h' tk k=>⟨_,H,I.kept k,?_,q⟩;by_cases hj:j>i
 ·rw[if_pos hj,if_pos hj];exact⟨_,rfl⟩
 ·rw[if_neg hj,if_neg hj];exact⟨_,rfl⟩
theorem jii (hc:X.calm=true):CallR X (.builtin "min") (fun xs H Q=>∃i j,xs=[.int i,.int j]/\Q (.int (if j<i then j else i)) H):=by
 intro pins s σ H xs us Q I r h;obtain⟨i,j,rfl,q⟩:=h;obtain⟨u,w',rfl,⟨t,rfl⟩,⟨t',rfl⟩⟩:=jox r;refine min_two_ints (I.ok.hd hc) fun h' tk k=>⟨_,H,I.kept k,?_,q⟩;by_cases hj:j<i
 ·rw[if_pos hj,if_pos hj];exact⟨_,rfl⟩
 ·rw[if_neg hj,if_neg hj];exact⟨_,rfl⟩
end
section
variable {X:Cx} {pins:List (Addr × Obj)} {σ:St} {H:Hp} {s:Shared} {a C dx:Addr} {fs:List (Str × V)} {f:Str} {v:V} {A:Around} {E:Value->Shared->Prop}
theorem Inv.made (I:Inv X pins σ H s):Inv X pins σ (upd (upd H s.heap.objs.size (.own (s.heap.objs.size+1))) (s.heap.objs.size+1) (.ins C s.heap.objs.size []))
  { s with heap:=(s.heap.push PySem.W.emptyDict).push (PySem.W.instObj C s.heap.objs.size) }:=by
 have e1:(s.heap.push PySem.W.emptyDict).get? s.heap.objs.size=some PySem.W.emptyDict:=Heap.get?_push_size s.heap rfl;have e2:((s.heap.push PySem.W.emptyDict).push (PySem.W.instObj C s.heap.objs.size)).get? (s.heap.objs.size+1)=some (PySem.W.instObj C s.heap.objs.size):=by
  have:=Heap.get?_push_size (s.heap.push PySem.W.emptyDict) (o:=PySem.W.instObj C s.heap.objs.size) rfl
  rwa [Heap.size_push] at this
 have e3:(s.heap.push PySem.W.emptyDict).Ns s.heap.objs.size (fun _=>none):=⟨PySem.W.emptyDict,#[],_,e1,rfl,(fun e he=>absurd he (by simp)),fun _=>rfl⟩;have I1:=I.laid (a:=s.heap.objs.size) (o:=.own (s.heap.objs.size+1)) (h':=s.heap.push PySem.W.emptyDict) (t':=s.toks) (fun b u q=>Heap.get?_push_of_some _ q) (xag _) ⟨_,e1⟩;refine I1.laid (a:=s.heap.objs.size+1) (o:=.ins C s.heap.objs.size []) (t':=s.toks) (fun b u q=>Heap.get?_push_of_some _ q) (Nat.le_of_eq (Heap.size_push _ _)) ?_;have ne:s.heap.objs.size≠s.heap.objs.size+1:=xaL (Nat.lt_succ_self _);refine⟨by rw[jaz ne,jac],xaO _,ne,e2,fun _=>none,(Heap.Ns1.of_empty e3).at fun o q=>Heap.get?_push_of_some _ q,fun _=>True.intro,fun y hy=>absurd rfl hy⟩
end
structure Room (k:Nat) (A:Around):Prop where
 hd:A.handled=none
 dp:A.depth+3*k+5<recursionLimit
 un:A.units+16*k+200<cLine
theorem Room.mono {j k:Nat} {A:Around} (r:Room k A) (h:j<=k):Room j A:=⟨r.hd,by have:=r.dp;omega,by have:=r.un;omega⟩
theorem Room.m {j k:Nat} {A:Around} (r:Room k A) (h:j≤k:=by decide):Room j A:=r.mono h
theorem Room.deeper {k:Nat} {A:Around} (r:Room (k+1) A) (env:Env):Room k (A.deeper env) :=
 ⟨r.hd,by have:=r.dp;show A.depth+1+3*k+5<_;omega,by have:=r.un;show A.units+3+16*k+200<_;omega⟩
theorem Room.in1 {k:Nat} {A:Around} (r:Room (k+1) A):Room k A.in1 :=
 ⟨r.hd,by have:=r.dp;show A.depth+3*k+5<_;omega,by have:=r.un;show A.units+1+16*k+200<_;omega⟩
theorem Room.depth {k:Nat} {A:Around} (r:Room k A):A.depth<recursionLimit:=by have:=r.dp;omega
theorem Room.units {k:Nat} {A:Around} (r:Room k A):A.units+64<cLine:=by have:=r.un;omega
def jkt:TA:=fun _ H Q=>Q [] H
def jez (ta:TE) (tr:TA):TA:=fun σ H Q=>ta σ H fun x H1=>tr σ H1 fun xs H2=>Q (x::xs) H2
section
variable {X:Cx} {e:Expr} {es:List Expr} {te:TE} {t:TA} {pos:Pos}
theorem jad:PA X [] jkt:=fun _ _ _ _ H Q I h=>Calls.spliced_nil ⟨[],H,I,.nil,h⟩
theorem jaa (ha:PE X e te) (hr:PA X es t) (hs:starEach (e::es) X.env=(false,eval e X.env)::starEach es X.env:=by rfl):PA X (e::es) (jez te t):=by
 intro pos pins s σ H Q I h;rw[hs];show wpAny _ _ (spliced ((false,eval e X.env)::backTo pos (starEach es X.env))) _ _ s;refine Calls.spliced_cons (thn (ha pins s σ H _ I h) fun u s1 ⟨x,H1,I1,r1,q1⟩=>?_);exact thn (hr pos pins s1 σ H1 _ I1 q1) fun us s2 ⟨xs,H2,I2,r2,q2⟩=>⟨x::xs,H2,I2,.cons r1 r2,q2⟩
def jmK (t:TA):TE:=fun σ H Q=>t σ H fun xs H1=>xs.length<=sizeLine/\∀p,H1 p=none->Q (.ref p) (upd H1 p (.tup xs))
def jly (t:TA):TE:=fun σ H Q=>t σ H fun xs H1=>xs.length<=sizeLine/\∀p,H1 p=none->Q (.ref p) (upd H1 p (.lst xs))
theorem jaB {x1} (h:PA X es t):PE X (.Tuple es x1 pos) (jmK t):=by
 intro pins s σ H Q I hq;refine wpAny_Tuple_spliced (thn (h pos pins s σ H _ I hq) fun us s1 ⟨xs,H1,I1,r,z,q⟩=>⟨by rw[<- r.length];exact z,?_⟩);have hf:H1 s1.heap.objs.size=none:=I1.hok.fresh (xag _);refine⟨.ref s1.heap.objs.size,upd H1 s1.heap.objs.size (.tup xs),I1.laid (t':=s1.toks) (fun b u e=>Heap.get?_push_of_some _ e) (xag _) ?_,rfl,q _ hf⟩;exact⟨z,us,r,⟨_,Heap.get?_push_size _ rfl,rfl,_,rfl⟩⟩
theorem jaM (h:PA X es t):PE X (.List es pos) (jly t):=by
 intro pins s σ H Q I hq;refine wpAny_List_spliced (thn (h pos pins s σ H _ I hq) fun us s1 ⟨xs,H1,I1,r,z,q⟩=>⟨by rw[<- r.length];exact z,?_⟩);have hf:H1 s1.heap.objs.size=none:=I1.hok.fresh (xag _);refine⟨.ref s1.heap.objs.size,upd H1 s1.heap.objs.size (.lst xs),I1.laid (t':=s1.toks) (fun b u e=>Heap.get?_push_of_some _ e) (xag _) ?_,rfl,q _ hf⟩;exact⟨z,us,0,r,Heap.get?_push_size _ rfl⟩
end
abbrev Sp:=List V->Hp->VK->XK->Prop
abbrev CXT:=List Env->Hp->Shared->XK->Value->Shared->Prop
structure Env0 (P:Program) (w:World) (K:PySem.W.Frag) (mg:Str->Option Value) (base:Heap) (A:Around) (outer:List Env) (s:Shared) (H:Hp):Prop where
 frames:A.frames=some outer
 mod:Mod K mg base
 bs:∀b o,base.get? b=some o->s.heap.get? b=some o/\H b=none
 bsz:base.objs.size<=s.heap.objs.size
 funs:s.heap.FunFrames base outer
 frf:∀b∈frs outer,H b=none
 hok:HOk P w H s.heap
 bare:AllBare s.gens
def CE (outer:List Env) (P:Program) (w:World) (H:Hp) (s:Shared) (Q:VK) (u:Value) (s':Shared):Prop :=
 ∃v H',s'.os=s.os/\AllBare s'.gens/\Un (frs outer) [] H H' s.heap s'.heap/\HOk P w H' s'.heap/\RelV v u/\Q v H'
def CR (CX:CXT) (outer:List Env) (P:Program) (w:World) (H:Hp) (s:Shared) (Q:VK) (E:XK) (r:Result) (s':Shared):Prop :=
 match r with
 | .ok (.ret u)=>CE outer P w H s Q u s'
 | .ok _=>False
 | .error e=>CX outer H s E e s'
structure FnOk (P:Program) (w:World) (K:PySem.W.Frag) (mg:Str->Option Value) (base:Heap) (CX:CXT) (k:Nat) (f:Addr) (fd:FuncData) (ps:List Str) (sp:Sp):Prop where
 len:∀vs H Q E,sp vs H Q E->vs.length=ps.length
 run:∀(A:Around) (outer:List Env) (s:Shared) (H:Hp) (args:Args) (us:List Value) (vs:List V) (Q:VK) (E:XK),Room k A->Env0 P w K mg base A outer s H->BindsTo s fd args (ps.zip us)->Vals vs us->sp vs H Q E ->
  codeAny (model P w) A (.call (.ref f) args) (CR CX outer P w H s Q E) s
theorem FnOk.mono {P:Program} {w:World} {K:PySem.W.Frag} {mg:Str->Option Value} {base:Heap} {CX:CXT} {j k:Nat} {f:Addr} {fd:FuncData} {ps:List Str} {sp:Sp} (F:FnOk P w K mg base CX j f fd ps sp) (h:j<=k) :
  FnOk P w K mg base CX k f fd ps sp:=⟨F.len,fun A outer s H args us vs Q E hr=>F.run A outer s H args us vs Q E (hr.mono h)⟩
theorem Env0.in1 {P:Program} {w:World} {K:PySem.W.Frag} {mg:Str->Option Value} {base:Heap} {A:Around} {outer:List Env} {s:Shared} {H:Hp} (e:Env0 P w K mg base A outer s H) :
  Env0 P w K mg base A.in1 outer s H:=⟨e.frames,e.mod,e.bs,e.bsz,e.funs,e.frf,e.hok,e.bare⟩
section
variable {X:Cx} {pins:List (Addr × Obj)} {σ:St} {H:Hp} {s s':Shared}
theorem Inv.env0 (I:Inv X pins σ H s):Env0 X.prog X.w X.K X.mg X.base X.A X.stack s H :=
 ⟨I.ok.frames,I.ok.mod,I.bs,xav I.ok.bsz I.sz,I.stack,I.stkFree,I.hok,I.bare⟩
theorem Inv.after {Q:VK} {u:Value} (I:Inv X pins σ H s) (h:CE X.stack X.prog X.w H s Q u s'):EP X pins σ Q u s':=by
 obtain⟨v,H',os,bare,un,hok,r,q⟩:=h;obtain⟨hh,g,d,t,os'⟩:=s';obtain rfl:os'=s.os:=os;exact⟨v,H',I.call (h':=hh) (g':=g) (d':=d) (t':=t) (ch:=[]) un hok bare (fun b z=>absurd z (by simp)),r,q⟩
end
def jhJ (sp:Sp) (dvs:List V) (E:XK) (t:TA):TE:=fun σ H Q=>t σ H fun vs H1=>sp (vs++dvs) H1 Q E
def Binds (K:PySem.W.Frag) (fd:FuncData) (ps:List Str) (ds:List Value):Prop :=
 ∀(s:Shared) (us:List Value),K.In s.heap->(us++ds).length=ps.length->BindsTo s fd ⟨us,[]⟩ (ps.zip (us++ds))
theorem Binds.all {K:PySem.W.Frag} {fd:FuncData} {ps:List Str} (h:∀us:List Value,us.length=ps.length->bindArgs fd ⟨us,[]⟩=pure (ps.zip us)):Binds K fd ps []:=fun s us _ hl=>by
 rw[xaP] at hl |-
 exact .of_eq (h us hl)
def jgU (CX:CXT) (X:Cx) (E:XK):Prop:=∀(pins:List (Addr × Obj)) (σ:St) (H:Hp) (s:Shared) (e:Value) (s':Shared),Inv X pins σ H s->CX X.stack H s E e s'->X.xe e s'
section
variable {X:Cx} {CX:CXT} {k:Nat} {f C:Addr} {fd:FuncData} {ps:List Str} {sp:Sp} {dvs:List V} {ds:List Value} {E:XK} {x m:Str} {p pos apos:Pos} {e o:Expr} {es:List Expr} {ta:TE} {t:TA}
theorem joy {pins:List (Addr × Obj)} {σ:St} {H:Hp} {s:Shared} {Q:VK} {us:List Value} {vs:List V} (F:FnOk X.prog X.w X.K X.mg X.base CX k f fd ps sp) (hr:Room k X.A) (hb:Binds X.K fd ps ds) (hd:Vals dvs ds) (hx:jgU CX X E)
    (I:Inv X pins σ H s) (r:Vals vs us) (h:sp (vs++dvs) H Q E):wpAny (model X.prog X.w) X.A (call (.ref f) us) (EP X pins σ Q) X.xe s:=by
  have r2:Vals (vs++dvs) (us++ds):=r.append hd;have hl:(us++ds).length=ps.length:=by rw[<- r2.length];exact F.len _ _ _ _ h
  refine wpAny_call (codeAny_mono (F.run X.A X.stack s H ⟨us,[]⟩ (us++ds) (vs++dvs) Q E hr I.env0 (hb s us I.kIn hl) r2 h) fun r s' hq=>?_);cases r with
  | error e=>exact hx pins σ H s e s' I hq
  | ok fl =>
    cases fl with
    | ret u=>exact I.after hq
    | next=>exact False.elim hq
    | brk=>exact False.elim hq
    | cont=>exact False.elim hq
theorem jmL (F:FnOk X.prog X.w X.K X.mg X.base CX k f fd ps sp) (hr:Room k X.A) (hg:Gl X x) (hm:X.mg x=some (.ref f)) (hk:PySem.W.keepIn X.K (.ref f)=true) (hb:Binds X.K fd ps ds) (hd:Vals dvs ds) (hx:jgU CX X E)
  (ha:PA X (e::es) t) (hdb:(x==("__debug__":Str))=false:=by decide) (he:starEach (e::es) X.env=(false,eval e X.env)::starEach es X.env:=by rfl) (hpl:(backTo pos (starEach es X.env)).any (·.1)=false:=by rfl) :
  PE X (.Call (.Name x p) (e::es) [] pos) (jhJ sp dvs E t):=by
 intro pins s σ H Q I h;refine wpAny_Call_Name_kw (jh6 I hg hm ?_ hdb);refine PySem.W.callWith_K (h₀:=X.base) I.ok.mod.kin hk (thn (ha pos pins s σ H _ I h) fun us s1 ⟨vs,H1,I1,r,q⟩=>⟨I1.kIn,?_⟩) he hpl;exact joy F hr hb hd hx I1 r q
structure Mk (K:PySem.W.Frag) (C f:Addr):Prop where
 makes:PySem.W.makesIn K C=true
 init:PySem.W.findIn K (.ref C) "__init__"=some (some (.ref f))
 fn:PySem.W.isFn K (.ref f)=true
 kp:PySem.W.keepIn K (.ref C)=true
end
section
variable {X:Cx} {CX:CXT} {k:Nat} {f C:Addr} {fd:FuncData} {ps ks:List Str} {sp:Sp} {E:XK} {x m:Str} {p pos apos kpos:Pos} {e o:Expr} {es:List Expr} {kws:List Keyword} {te ta:TE} {t tk:TA} {nm:Option Str}
structure KBinds (K:PySem.W.Frag) (fd:FuncData) (ps ks:List Str) (g:List Value->List Value->List Value) (gV:List V->List V->List V):Prop where
 to:∀(s:Shared) (us ws:List Value),K.In s.heap->(g us ws).length=ps.length->BindsTo s fd ⟨us,ks.zip ws⟩ (ps.zip (g us ws))
 rel:∀{vs:List V} {us:List Value} {zs:List V} {ws:List Value},Vals vs us->Vals zs ws->Vals (gV vs zs) (g us ws)
variable {g:List Value->List Value->List Value} {gV:List V->List V->List V}
end
structure FnScope (N P:List Str) (sc:Scope):Prop where
 kind:sc.kind=.function
 co:sc.isCoroutine=false
 gen:sc.isGenerator=false
 nd:N.Nodup
 pre:N.take P.length=P
 par:∀x∈P,sc.names.lookup x=some .local\/sc.names.lookup x=some .cell
 nofree:∀y∈sc.names,y.2≠.free
theorem jfF {kindOf:Str->Option NameKind} {x:Str}:∀{binds:List (Str × Value)} {m:Str->Option Value},(∀v,(x,v)∉binds)->bindL kindOf binds m x=m x
  | [],_,_=>rfl
  | (n, v) :: r, m, h => by
    unfold bindL;rw[jfF fun w hw=>h w (xat _ hw)];split
    . have:x≠n:=by rintro rfl; exact h v xa0
      simp [this]
    . rfl
theorem jfG {kindOf:Str->Option NameKind} {x:Str}:∀{binds:List (Str × Value)} {m:Str->Option Value},(∀v,(x,v)∉binds)->bindC kindOf binds m x=m x
  | [],_,_=>rfl
  | (n, v) :: r, m, h => by
    unfold bindC;rw[jfG fun w hw=>h w (xat _ hw)];split
    . rfl
    . have:x≠n:=by rintro rfl; exact h v xa0
      simp [this]
theorem jfH {kindOf:Str->Option NameKind} {x:Str} {v:Value}:∀{P:List Str} {vs:List Value} {i:Nat} {m:Str->Option Value},P.Nodup->P[i]?=some x->vs[i]?=some v->kindOf x=some .local ->
    bindL kindOf (P.zip vs) m x=some v
  | [],_,_,_,_,h,_,_=>by simp at h
  | _::_,[],_,_,_,_,h,_=>by simp at h
  | p :: P, w :: vs, 0, m, nd, h1, h2, hk => by
    simp at h1 h2;subst h1;subst h2;show bindL kindOf ((p,w)::P.zip vs) m p=_;unfold bindL;rw[jfF fun v hv=>(xa3.mp nd).1 (List.of_mem_zip hv).1,if_pos hk];simp
  | p :: P, w :: vs, i + 1, m, nd, h1, h2, hk => by
    show bindL kindOf ((p,w)::P.zip vs) m x=_;unfold bindL;exact jfH (i:=i) (xa3.mp nd).2 (by simpa using h1) (by simpa using h2) hk
theorem jfI {kindOf:Str->Option NameKind} {x:Str} {v:Value}:∀{P:List Str} {vs:List Value} {i:Nat} {m:Str->Option Value},P.Nodup->P[i]?=some x->vs[i]?=some v->kindOf x≠some .local ->
    bindC kindOf (P.zip vs) m x=some v
  | [],_,_,_,_,h,_,_=>by simp at h
  | _::_,[],_,_,_,_,h,_=>by simp at h
  | p :: P, w :: vs, 0, m, nd, h1, h2, hk => by
    simp at h1 h2;subst h1;subst h2;show bindC kindOf ((p,w)::P.zip vs) m p=_;unfold bindC;rw[jfG fun v hv=>(xa3.mp nd).1 (List.of_mem_zip hv).1,if_neg hk];simp
  | p :: P, w :: vs, i + 1, m, nd, h1, h2, hk => by
    show bindC kindOf ((p,w)::P.zip vs) m x=_;unfold bindC;exact jfI (i:=i) (xa3.mp nd).2 (by simpa using h1) (by simpa using h2) hk
def jc9 (N:List Str) (vs:List V):St:=vs.map some++List.replicate (N.length-vs.length) none
def jh2 (CX:CXT) (P:Program) (w:World) (K:PySem.W.Frag) (mg:Str->Option Value) (base:Heap) (N:List Str) (qual:Str) (scope:Scope) (f:Addr) (cd:Value) (A:Around) (outer:List Env) (s:Shared) (H:Hp) (E:XK):Cx where
 prog:=P
 w:=w
 K:=K
 mg:=mg
 base:=base
 A:=A.deeper (envOfC qual scope s.heap.objs.size f cd)
 N:=N
 s₀:=s
 H₀:=H
 env:=envOfC qual scope s.heap.objs.size f cd
 outer:=outer
 stack:=envOfC qual scope s.heap.objs.size f cd::outer
 ex:=[]
 calm:=true
 fn:=fun _=>true
 pn:=[]
 xe:=fun e s'=>wpAny (model P w) (A.deeper (envOfC qual scope s.heap.objs.size f cd)) (leaving (envOfC qual scope s.heap.objs.size f cd) e) (fun _ s''=>CX outer H s E e s'') (fun e' s''=>CX outer H s E e' s'') s'
theorem jgV {sc:Scope} {n:Nat} {x:Str} (h:sc.names.lookup x=some .cell):∃c,(cellsFrom n sc.names []).lookup x=some c:=by
 have q:=PySem.W.cellsFrom_some sc.names n [] (.inl h);exact Option.isSome_iff_exists.mp q
theorem jij {CX:CXT} {P:Program} {w:World} {K:PySem.W.Frag} {mg:Str->Option Value} {base:Heap} {N ps:List Str} {qual:Str} {scope:Scope} {f:Addr} {cd:Value} {A:Around} {outer:List Env} {s s1:Shared} {H:Hp} {E:XK} {us:List Value} {vs:List V}
  (S:FnScope N ps scope) (hd:A.handled=none) (e0:Env0 P w K mg base A outer s H) (hl:vs.length=ps.length) (r:Vals vs us)
  (x:InCallC s s.heap.objs.size (bindL (envOfC qual scope s.heap.objs.size f cd).kindOf (ps.zip us) fun _=>none) (cellsFrom (s.heap.objs.size+1) scope.names []) (bindC (envOfC qual scope s.heap.objs.size f cd).kindOf (ps.zip us) fun _=>none) s1) :
  Inv (jh2 CX P w K mg base N qual scope f cd A outer s H E) [] (jc9 N vs) H s1:=by
 have hpl:ps.length<=N.length:=by have:=congrArg List.length S.pre;rw[xah] at this;omega
 obtain⟨h1,tk,rfl,hk⟩:=x.done;have noA:∀b:Addr,b∉(jh2 CX P w K mg base N qual scope f cd A outer s H E).ex:=fun b z=>absurd (show b∈([]:List Addr) from z) (by simp);refine⟨⟨e0.mod,S.kind,rfl,rfl,xag _,fun y z c h1 h2=>?_,fun y hy=>?_,fun y c _ h=>?_,fun _=>hd,Around.frames_deeper e0.frames,.inr ⟨rfl,rfl⟩,fun b z=>absurd z (noA b),e0.bs,e0.bsz,fun b _ _=>noA b,fun b z=>absurd z (noA b),e0.funs,e0.frf⟩,
  rfl,e0.bare,Un.kept hk,⟨_,x.toInCall.ns,fun i y v h1 h2 h3=>?_⟩,fun y c h=>⟨_,x.cell y c h⟩,e0.hok.fresh (xag _),fun y c h=>?_,fun p hp=>absurd (show p∈([]:List (Addr × Obj)) from hp) (by simp),e0.hok.kept hk,?_⟩
 ·exact name_of_addr x.apart (PySem.mem_of_lookup h1) (PySem.mem_of_lookup h2)
 ·have hy:scope.names.lookup y=some .cell\/scope.names.lookup y=some .free:=hy;rcases hy with hy | hy
  ·exact jgV hy
  ·exact absurd rfl (S.nofree _ (PySem.mem_of_lookup hy))
 ·exact xaQ (x.above y c (PySem.mem_of_lookup h))
 ·have hi:i<vs.length:=by
   unfold jc9 at h2;by_cases hi:i<vs.length
   ·exact hi
   ·rw[xau (by simpa using hi)] at h2;rw[List.getElem?_replicate] at h2;split at h2<;>cases h2
  have ha:vs[i]?=some v:=by
   unfold jc9 at h2;rw[xaD (by simpa using hi),xae] at h2;cases e:vs[i]? with
   | none=>rw[e] at h2;cases h2
   | some a=>rw[e] at h2;cases h2;rfl
  obtain⟨u,hu,rv⟩:=r.get ha;have hp:ps[i]?=some y:=by
   rw[<- S.pre,List.getElem?_take_of_lt (by omega)];exact h1
  have ndP:ps.Nodup:=by rw[<- S.pre];exact S.nd.sublist (List.take_sublist _ _)
  refine⟨u,rv,?_⟩;rcases S.par y (xaC hp) with k | k
  ·exact .inl ⟨k,jfH ndP hp hu k⟩
  ·obtain⟨c,e⟩:=jgV (n:=s.heap.objs.size+1) k;refine .inr ⟨.inl k,c,e,?_⟩;have q:=x.cell y c e;rw[jfI ndP hp hu (by show scope.names.lookup y≠_;rw[k];decide)] at q;exact q
 ·exact e0.hok.fresh (xaQ (x.above y c (PySem.mem_of_lookup h)))
 ·unfold jc9;show _=N.length;rw[xad,xaa,xbu];omega
theorem fn_of {CX:CXT} {P:Program} {w:World} {K:PySem.W.Frag} {mg:Str->Option Value} {base:Heap} {k:Nat} {f:Addr} {name qual:Str} {params:Arguments} {body:List Stmt} {scope:Scope} {dV kV doc pm cdv ct oc:Value} {an od:Option Addr}
    {osl:Array (Option Value)} {N ps:List Str} {sp:Sp} (lk:K.lookup f=some ⟨oc,od,.func (PySem.W.fnOf name qual params body scope dV kV doc pm an cdv ct),osl⟩) (hcd:PySem.W.codeIn K cdv qual=true) (S:FnScope N ps scope)
    (len:∀vs H Q E,sp vs H Q E->vs.length=ps.length)
    (hbody:∀(A:Around) (outer:List Env) (s:Shared) (H:Hp) (vs:List V) (Q:VK) (E:XK),Room k (A.deeper (envOfC qual scope s.heap.objs.size f cdv))->sp vs H Q E ->
      ∃t,PSs (jh2 CX P w K mg base N qual scope f cdv A outer s H E) body t/\t { nx:=fun _ H'=>Q .non H',rt:=Q } (jc9 N vs) H) :
    FnOk P w K mg base CX (k+1) f (PySem.W.fnOf name qual params body scope dV kV doc pm an cdv ct) ps sp:=by
  refine⟨len,fun A outer s H args us vs Q E hr e0 hb r hsp=>?_⟩;have hl:=len _ _ _ _ hsp;have KX:K.In s.heap:=e0.mod.kin.keeps fun b o e=>(e0.bs b o e).1;have lim:s.heap.NoLimit:=e0.mod.nolimit.keeps fun b o e=>(e0.bs b o e).1;have hkind:∀y∈ps.zip us,scope.names.lookup y.1=some .local\/(scope.names.lookup y.1=some .cell/\((cellsFrom (s.heap.objs.size+1) scope.names []).lookup y.1).isSome=true):=fun ⟨n,v⟩ hy=>by
    rcases S.par n (List.of_mem_zip hy).1 with q | q
    . exact .inl q
    . exact .inr ⟨q,PySem.W.cellsFrom_some _ _ _ (.inl q)⟩
  refine codeAny_call_function hr.depth (KX _ _ lk) rfl S.co S.gen rfl (PySem.W.codeRec_of KX hcd) (hb _ _ _ _ ?_);refine wpAny_newFunctionEnv_cells S.kind hkind fun env he s1 x=>?_;subst he;refine⟨lim.keeps x.toInCall.keep,codeAny_func ?_⟩;obtain⟨t,ht,hq⟩:=hbody A outer s H vs Q E (hr.deeper _) hsp;have I:Inv (jh2 CX P w K mg base N qual scope f cdv A outer s H E) [] (jc9 N vs) H s1:=jij S hr.hd e0 hl r x;refine wpAny_mono (ht [] s1 (jc9 N vs) H _ I hq) (fun fl s' hs=>?_) fun e s' hs=>hs;have fin:∀{σ':St} {H':Hp} {v:V} {u:Value},Inv (jh2 CX P w K mg base N qual scope f cdv A outer s H E) [] σ' H' s'->RelV v u->Q v H'->CE outer P w H s Q u s' :=
    fun {σ' H' v u} J rv q=>⟨v,H',J.os,J.bare,J.base,J.hok,rv,q⟩
  cases fl with
  | ret u =>
    obtain⟨v,σ',H',J,rv,q⟩:=hs;exact fin J rv q
  | next =>
    obtain⟨σ',H',J,q⟩:=hs;exact fin (v:=V.non) (u:=Value.none) J rfl q
  | brk =>
    obtain⟨_,_,_,q⟩:=hs;exact False.elim q
  | cont =>
    obtain⟨_,_,_,q⟩:=hs;exact False.elim q
section
variable {X:Cx} {x:Str} {p pos:Pos} {e:Expr} {es:List Expr} {t:TA} {id T:String} {r:List V->Hp->VK->Prop}
def tCB (r:List V->Hp->VK->Prop) (t:TA):TE:=fun σ H Q=>t σ H fun vs H1=>r vs H1 Q
theorem jaG (hc:CallR X (.builtin id) r) (hg:Gl X x) (hm:X.mg x=none) (hv:bootBuiltins x=some (.builtin id)) (ha:PA X (e::es) t) (hn:x≠"__name__":=by decide) (hdb:(x==("__debug__":Str))=false:=by decide)
  (he:starEach (e::es) X.env=(false,eval e X.env)::starEach es X.env:=by rfl) (hpl:(backTo pos (starEach es X.env)).any (·.1)=false:=by rfl):PE X (.Call (.Name x p) (e::es) [] pos) (tCB r t):=by
 intro pins s σ H Q I h;refine wpAny_Call_Name_kw (jeC I hg hm hv ?_ hn hdb);exact PyProof.Rows.callWith_builtin1 (thn (ha pos pins s σ H _ I h) fun us s1 ⟨vs,H1,I1,r1,q1⟩=>hc pins s1 σ H1 vs us Q I1 r1 q1) he hpl
theorem jaU (hc:CallR X (.type T) r) (hg:Gl X x) (hm:X.mg x=none) (hv:bootBuiltins x=some (.type T)) (ha:PA X (e::es) t) (hn:x≠"__name__":=by decide) (hdb:(x==("__debug__":Str))=false:=by decide)
  (he:starEach (e::es) X.env=(false,eval e X.env)::starEach es X.env:=by rfl) (hpl:(backTo pos (starEach es X.env)).any (·.1)=false:=by rfl):PE X (.Call (.Name x p) (e::es) [] pos) (tCB r t):=by
 intro pins s σ H Q I h;refine wpAny_Call_Name_kw (jeC I hg hm hv ?_ hn hdb);exact PyProof.Rows.callWith_type1 (thn (ha pos pins s σ H _ I h) fun us s1 ⟨vs,H1,I1,r1,q1⟩=>hc pins s1 σ H1 vs us Q I1 r1 q1) he hpl
end
end L2
namespace HT
open PySem PyProof.Rows
section
open PySem.SeqAt
open PySem.AutoSeq1 (wpAny_loadPart')
open PySem.MeetsSeq PySem.MeetsSeq2 PySem.MeetsSeq3
end
section
variable {prog:Program} {w:World} {A:Around} {E:Value->Shared->Prop} {s:Shared}
theorem cat_tup {t b:Addr} {vs ws:List Value} {Q:Value->Shared->Prop} (ht:IsTup s.heap t vs.toArray) (hb:IsTup s.heap b ws.toArray) (hv:vs≠[])
  (h1:ws=[]->Q (.ref t) s) (h2:ws≠[]->Q (.ref s.heap.objs.size) { s with heap:=s.heap.push { cls:=.type "tuple",data:=.seq (vs++ws).toArray } })
  (hsz:vs.length+ws.length<=sizeLine):wpAny (model prog w) A (binaryOp .Add (.ref t) (.ref b)) Q E s:=by
 obtain⟨⟨cls,dd,data,sl⟩,ho,hc,n,hd⟩:=id ht;obtain⟨⟨cls2,dd2,data2,sl2⟩,ho2,hc2,n2,hd2⟩:=id hb;simp only at hc hd hc2 hd2;subst hc hd hc2 hd2;have e:vs.toArray++ws.toArray=(vs++ws).toArray:=by simp
 by_cases hw:ws=[]
 ·exact concat_meets ⟨_,ho,rfl⟩ ⟨_,ho2,rfl⟩ noFill_tuple_add seq_tuple_add PySem.F.slot_tuple_add PySem.F.entry_tuple_add (PySem.F.args_tuple_add_2 _ _)
   (tuple_addW1 t b vs.toArray ws.toArray n n2 dd dd2 sl sl2 (by simpa using hv) (by simp [hw])) ⟨ho,ho2,h1 hw⟩
 ·refine concat_meets ⟨_,ho,rfl⟩ ⟨_,ho2,rfl⟩ noFill_tuple_add seq_tuple_add PySem.F.slot_tuple_add PySem.F.entry_tuple_add (PySem.F.args_tuple_add_2 _ _)
   (tuple_addW2 t b vs.toArray ws.toArray n n2 dd dd2 sl sl2 (by simpa using hv) (by simpa using hw) (by rw[xak,xak];exact hsz)) ⟨ho,ho2,?_⟩
  rw[e];exact h2 hw
def sIx (n d:Nat):Option Int->Nat
 | none=>d
 | some v=>if v<0 then (v+(n:Int)).toNat else min v.toNat n
theorem sIx_none (n d:Nat):sIx n d none=d:=rfl
theorem sIx_nat (n d k:Nat):sIx n d (some (k:Int))=min k n:=by
 show (if (k:Int)<0 then ((k:Int)+(n:Int)).toNat else min (k:Int).toNat n)=min k n;rw[if_neg (by omega),Int.toNat_natCast]
theorem jlz (n d:Nat) (hd:d<=n) (o:Option Int):sIx n d o<=n:=by
  cases o with
  | none=>exact hd
  | some v =>
    show (if v<0 then (v+(n:Int)).toNat else min v.toNat n)<=n;by_cases hv:v<0
    . rw[if_pos hv];omega
    . rw[if_neg hv];exact Nat.min_le_right _ _
theorem jik (v:Int) (n d:Nat):(if v<0 then max (v+(n:Int)) 0 else min v (n:Int))=((sIx n d (some v):Nat):Int):=by
 show (if v<0 then max (v+(n:Int)) 0 else min v (n:Int))=(((if v<0 then (v+(n:Int)).toNat else min v.toNat n):Nat):Int);by_cases hv:v<0
 ·simp only[if_pos hv];omega
 ·simp only[if_neg hv];omega
theorem jhK (lo hi:Option Int) (n:Nat):Builtin.Slice.sliceAdjust lo hi 1 (n:Int)=(((sIx n 0 lo:Nat):Int),((sIx n n hi:Nat):Int)):=by
 have h1:¬((1:Int)<0):=by omega
 unfold Builtin.Slice.sliceAdjust;simp only[h1,if_false];refine Prod.ext ?_ ?_
 ·cases lo with
  | none=>rfl
  | some v=>exact jik v n 0
 ·cases hi with
  | none=>rfl
  | some v=>exact jik v n n
theorem jhL (i j:Nat):Builtin.Slice.slicePlaces (i:Int) (j:Int) 1=j-i:=by
 unfold Builtin.Slice.slicePlaces;have h1:(1:Int)>0:=by omega
 simp only[h1,if_true,Int.ediv_one];split<;>omega
theorem jeE {v:Value} {o:Option Int} {Q:Option Int->Shared->Prop} (p:IsPart v o) (h:Q o s):wpAny (model prog w) A (Builtin.Slice.slicePartIndex v) Q E s:=by
 cases p with
 | none=>exact slicePart_none h
 | int i t=>exact slicePart_int h
theorem jcl {sl:Addr} {vl vu:Value} {lo hi:Option Int} {n:Nat} {Q:Int × Int × Nat->Shared->Prop} (hs:s.heap.IsSliceOf sl vl vu .none) (pl:IsPart vl lo) (pu:IsPart vu hi)
  (h:Q (((sIx n 0 lo:Nat):Int),1,sIx n n hi-sIx n 0 lo) s):wpAny (model prog w) A (Builtin.Slice.sliceApplied (.ref sl) (pure (n:Int))) Q E s:=by
 obtain⟨os,hos,hcs,hds⟩:=id hs;unfold Builtin.Slice.sliceApplied Builtin.Slice.sliceFields;refine wpAny_bind (wpAny_bind (wpAny_field hos hds (x:=vl) rfl (wpAny_bind (wpAny_field hos hds (x:=vu) rfl (wpAny_bind (wpAny_field hos hds (x:=.none) rfl (wpAny_pure ?_)))))));refine wpAny_bind (slicePart_none ?_);show wpAny _ _ (if ((1:Int)==0)=true then _ else _) _ _ s;rw[if_neg (by decide)];refine wpAny_bind (jeE pl (wpAny_bind (jeE pu (wpAny_bind (wpAny_pure ?_)))));show wpAny _ _ (match Builtin.Slice.sliceAdjust lo hi 1 (n:Int) with | (lo,hi)=>pure (lo,(1:Int),Builtin.Slice.slicePlaces lo hi 1)) _ _ s;rw[jhK lo hi n];show wpAny _ _ (pure (((sIx n 0 lo:Nat):Int),(1:Int),Builtin.Slice.slicePlaces ((sIx n 0 lo:Nat):Int) ((sIx n n hi:Nat):Int) 1)) _ _ s;rw[jhL];exact wpAny_pure h
theorem jku (xs:Array Value) (i k:Nat):((List.range k).filterMap fun (m:Nat)=>xs[((i:Int)+(m:Int)*1).toNat]?).toArray=((xs.toList.drop i).take k).toArray:=by
 have e:(fun (m:Nat)=>xs[((i:Int)+(m:Int)*1).toNat]?)=fun m=>xs[i+m]?:=by
  funext m
  have:((i:Int)+(m:Int)*1).toNat=i+m:=by omega
  rw[this]
 rw[e];have:=pick_run xs i k;rw[xcq] at this;have e2:((fun x=>xs[x]?)∘fun x=>i+x)=fun m=>xs[i+m]?:=rfl;rw[e2] at this;rw[this]
theorem getItem_tuple_cut {t sl:Addr} {items:Array Value} {vl vu:Value} {lo hi:Option Int} {Q:Value->Shared->Prop} (ht:IsTup s.heap t items) (hs:s.heap.IsSliceOf sl vl vu .none) (pl:IsPart vl lo) (pu:IsPart vu hi)
  (hw:¬(sIx items.size 0 lo=0/\sIx items.size items.size hi=items.size))
  (h:Q (.ref s.heap.objs.size) { s with heap:=s.heap.push { cls:=.type "tuple",data:=.seq ((items.toList.drop (sIx items.size 0 lo)).take (sIx items.size items.size hi-sIx items.size 0 lo)).toArray } })
  (hsz:items.size<=sizeLine):wpAny (model prog w) A (getItem (.ref t) (.ref sl)) Q E s:=by
 have htake:sizeOk (.seq ((items.toList.drop (sIx items.size 0 lo)).take (sIx items.size items.size hi-sIx items.size 0 lo)).toArray):=by
  show ((items.toList.drop (sIx items.size 0 lo)).take (sIx items.size items.size hi-sIx items.size 0 lo)).toArray.size<=sizeLine;rw[xak,xah,xam,Array.length_toList];omega
 have hj:sIx items.size items.size hi<=items.size:=jlz _ _ (xag _) hi;obtain⟨os,hos,hcs,hds⟩:=id hs;have hTs:s.TypeIs (.ref sl) "slice":=⟨os,hos,hcs⟩;unfold getItem;try with_reducible refine wpAny_holding ?_
 first | refine wpAny_bind (wpAny_pure ?_) | skip
 refine wpAny_bind (wpAny_sequenceKey ht.typeIs (by decide) ?_);refine wpAny_bind (wpAny_callSpecial?_slot (name:=Str.ofString "__getitem__") ht.typeIs PyProof.Rows.slot_tuple_getitem
  (wpAny_call_entry PyProof.Rows.slot_tuple_getitem ht.typeIs entry_tuple_getitem ?_ (args_tuple_getitem _ _)))
 show wpAny _ _ (Builtin.Tuple.tupleItemsOf (.ref t) >>= _) _ _ s;refine wpAny_bind (tupleItemsOf_ ht ?_);refine wpAny_bind (wpAny_typeOf hTs ?_);rw[if_pos (by decide)];refine wpAny_bind (jcl hs pl pu ?_);have hno:¬((((sIx items.size 0 lo:Nat):Int)==0&&(1:Int)==1&&(sIx items.size items.size hi-sIx items.size 0 lo)==items.size)=true):=by
  intro q;rw[xbE,xbE] at q;have q1:((sIx items.size 0 lo:Nat):Int)=0:=eq_of_beq q.1.1;have q2:sIx items.size items.size hi-sIx items.size 0 lo=items.size:=eq_of_beq q.2;exact hw ⟨by omega,by omega⟩
 show wpAny _ _ (if (((sIx items.size 0 lo:Nat):Int)==0&&(1:Int)==1&&(sIx items.size items.size hi-sIx items.size 0 lo)==items.size)=true then _ else _) _ _ s;rw[if_neg hno,jku]
 first
  | exact wpAny_bind (m:=Builtin.Tuple.tupleExact _) (wpAny_newObj_type (wpAny_pure ⟨_,rfl,wpAny_pure h⟩) htake)
  | exact wpAny_bind (m:=Builtin.Tuple.tupleExact _) (wpAny_newObj_type (wpAny_bind (wpAny_pure (wpAny_pure ⟨_,rfl,wpAny_pure h⟩))) htake)
  | exact wpAny_bind (wpAny_bind (m:=Builtin.Tuple.tupleExact _) (wpAny_newObj_type (wpAny_pure (wpAny_pure ⟨_,rfl,wpAny_pure h⟩)) htake))
  | exact wpAny_bind (wpAny_bind (m:=Builtin.Tuple.tupleExact _) (wpAny_newObj_type (wpAny_pure ⟨_,rfl,wpAny_pure h⟩) htake))
end
end HT
namespace L2
open PySem PySem.Spec PyProof.Rows
abbrev TO:=St->Hp->(Option Int->Hp->Prop)->Prop
def PO (X:Cx) (e:Option Expr) (t:TO):Prop :=
  ∀ (pins : List (Addr × Obj)) (s : Shared) (σ : St) (H : Hp) (Q : Option Int -> Hp -> Prop), Inv X pins σ H s -> t σ H Q ->
    wpAny (model X.prog X.w) X.A (evalPart e X.env) (fun u s'=>∃o H',Inv X pins σ H' s'/\IsPart u o/\Q o H') X.xe s
def jd5:TO:=fun _ H Q=>Q none H
def jil (t:TE):TO:=fun σ H Q=>t σ H fun x H1=>∃i,x=.int i/\Q (some i) H1
theorem jds {ns:List Int}:∀{us:List Value},Vals (ns.map V.int) us->IntsAre us ns:=by
  induction ns with
  | nil=>intro us r;rw[xcr] at r;cases r;exact .nil
  | cons n ns ih =>
    intro us r;rw[xaH] at r;cases r with
    | cons r1 r2 =>
      obtain⟨t,e⟩:=r1;subst e;exact .cons n t (ih r2)
section
variable {X:Cx} {e:Expr} {te:TE} {lo hi:Option Expr} {tl th:TO} {pos p2:Pos}
theorem jbl:PO X none jd5:=by
 intro pins s σ H Q I h;rw[evalPart_none];exact wpAny_pure ⟨none,H,I,.none,h⟩
theorem ja5 (h:PE X e te):PO X (some e) (jil te):=by
 intro pins s σ H Q I hw;rw[evalPart_some];refine thn (h pins s σ H _ I hw) fun u s1 ⟨x,H1,I1,r1,q1⟩=>?_;obtain⟨i,rfl,q⟩:=q1;obtain⟨t,rfl⟩:=r1;exact⟨some i,H1,I1,.int i t,q⟩
def SlR (X:Cx) (r:V->Option Int->Option Int->Hp->VK->Prop):Prop :=
  ∀ (pins : List (Addr × Obj)) (s : Shared) (σ : St) (H : Hp) (x : V) (v vl vu : Value) (lo hi : Option Int) (sl : Addr) (Q : VK), Inv X pins σ H s -> RelV x v -> s.heap.IsSliceOf sl vl vu .none -> IsPart vl lo -> IsPart vu hi -> r x lo hi H Q ->
    ∃T id,typeLookup (.type T) "__getitem__"=pure (some (.builtin id))/\s.TypeIs v T/\wpAny (model X.prog X.w) X.A (getItem v (.ref sl)) (EP X pins σ Q) X.xe s
theorem SlR.or {r r':V->Option Int->Option Int->Hp->VK->Prop} (h:SlR X r) (h':SlR X r'):SlR X (fun x lo hi H Q=>r x lo hi H Q\/r' x lo hi H Q):=by
 intro pins s σ H x v vl vu lo hi sl Q I rx hs pl pu q;rcases q with q | q
 ·exact h pins s σ H x v vl vu lo hi sl Q I rx hs pl pu q
 ·exact h' pins s σ H x v vl vu lo hi sl Q I rx hs pl pu q
def tSl (r:V->Option Int->Option Int->Hp->VK->Prop) (te:TE) (tl th:TO):TE:=fun σ H Q=>te σ H fun x H1=>tl σ H1 fun l H2=>th σ H2 fun u H3=>r x l u H3 Q
theorem jaY {r:V->Option Int->Option Int->Hp->VK->Prop} (hr:SlR X r) (he:PE X e te) (hl:PO X lo tl) (hu:PO X hi th):PE X (.Subscript e (.Slice lo hi none p2) pos) (tSl r te tl th):=by
 intro pins s σ H Q I h;refine Subscript_ (thn (he pins s σ H _ I h) fun v s1 ⟨x,H1,I1,r1,q1⟩=>?_);refine wpAny_Slice (thn (hl pins s1 σ H1 _ I1 q1) fun vl s2 ⟨l,H2,I2,pl,q2⟩=>thn (hu pins s2 σ H2 _ I2 q2) fun vu s3 ⟨u,H3,I3,pu,q3⟩=>?_);rw[evalPart_none];refine wpAny_pure ?_;have I4:Inv X pins σ H3 { s3 with heap:=s3.heap.push { cls:=.type "slice",data:=.fields #[vl,vu,.none] } }:=I3.kept (t':=s3.toks) fun b ob q=>Heap.get?_push_of_some _ q;obtain⟨T,id,hT,ht,hg⟩:=hr pins { s3 with heap:=s3.heap.push { cls:=.type "slice",data:=.fields #[vl,vu,.none] } } σ H3 x v vl vu l u s3.heap.objs.size Q I4 r1 (Heap.IsSliceOf.new ..) pl pu q3;show wpAny (model X.prog X.w) X.A (subscriptTail e (.Slice lo hi none p2) v (.ref s3.heap.objs.size)) (EP X pins σ Q) X.xe { s3 with heap:=s3.heap.push { cls:=.type "slice",data:=.fields #[vl,vu,.none] } };exact tail_any (ops:=[.ref s3.heap.objs.size,v]) ht hT hg (by with_unfolding_all rfl)
def jb5 (xs:List V) (lo hi:Option Int):List V:=(xs.drop (HT.sIx xs.length 0 lo)).take (HT.sIx xs.length xs.length hi-HT.sIx xs.length 0 lo)
theorem jd6 (xs:List V) (lo hi:Option Int):(jb5 xs lo hi).length<=xs.length:=by
 unfold jb5;rw[xah,xam];omega
def rSlT (K:PySem.W.Frag):V->Option Int->Option Int->Hp->VK->Prop:=fun x lo hi H Q=>∃a xs,x=.ref a/\SqT K H a xs /\
 ¬(HT.sIx xs.length 0 lo=0/\HT.sIx xs.length xs.length hi=xs.length)/\∀p,H p=none->Q (.ref p) (upd H p (.tup (jb5 xs lo hi)))
theorem jfJ:SlR X (rSlT X.K):=by
 intro pins s σ H x v vl vu lo hi sl Q I rx hs pl pu h;obtain⟨a,xs,rfl,hx,hw,q⟩:=h;cases rx;obtain⟨its,r,ht,hz⟩:=I.tuple hx;have hlen:its.toArray.size=xs.length:=by rw[xak];exact r.length.symm
 refine⟨"tuple",_,PyProof.Rows.slot_tuple_getitem.lookup,ht.typeIs,?_⟩;refine HT.getItem_tuple_cut ht hs pl pu (by rw[hlen];exact hw) ?_ (by rw[hlen];exact hz);rw[hlen];refine⟨.ref s.heap.objs.size,_,I.laid (t':=s.toks) (o:=.tup (jb5 xs lo hi)) (fun b ob q=>Heap.get?_push_of_some _ q) (xag _) ?_,rfl,q _ (I.hok.fresh (xag _))⟩;exact⟨xav (jd6 xs lo hi) hz,_,(r.drop (HT.sIx xs.length 0 lo)).take (HT.sIx xs.length xs.length hi-HT.sIx xs.length 0 lo),IsTup.new _ _⟩
def rCatT (K:PySem.W.Frag):R2:=fun x y H Q=>∃a b xs ys,x=.ref a/\y=.ref b/\SqT K H a xs/\SqT K H b ys/\xs≠[]/\xs.length+ys.length<=sizeLine /\
 (ys=[]->Q (.ref a) H)/\(ys≠[]->∀p,H p=none->Q (.ref p) (upd H p (.tup (xs++ys))))
theorem Vals.nil_iff {xs:List V} {us:List Value} (r:Vals xs us):us=[]↔xs=[]:=by
 cases r with
 | nil=>simp
 | cons _ _=>simp
theorem jeZ:OpR X (binaryOp .Add) (rCatT X.K):=by
 intro pins s σ H x y v u Q I rx ry h;obtain⟨a,b,xs,ys,rfl,rfl,ha,hb,hx,hz,q1,q2⟩:=h;cases rx;cases ry;obtain⟨its,r1,p1,_⟩:=I.tuple ha;obtain⟨its2,r2,p2,_⟩:=I.tuple hb;refine HT.cat_tup p1 p2 (fun z=>hx (r1.nil_iff.mp z)) (fun z=>⟨.ref a,H,I,rfl,q1 (r2.nil_iff.mp z)⟩) (fun z=>?_) (by rw[<- r1.length,<- r2.length];exact hz);refine⟨.ref s.heap.objs.size,_,I.laid (t':=s.toks) (o:=.tup (xs++ys)) (fun b ob q=>Heap.get?_push_of_some _ q) (xag _) ?_,rfl,q2 (fun w=>z (r2.nil_iff.mpr w)) _ (I.hok.fresh (xag _))⟩;exact⟨by rw[xad];exact hz,_,r1.append r2,IsTup.new _ _⟩
end
def ixN (n:Nat) (i:Int):Option Nat:=if 0<=i then (if i<n then some i.toNat else none) else if -(n:Int)<=i then some (i+n).toNat else none
def atI {α:Type} (xs:List α) (i:Int):Option α:=(ixN xs.length i).bind fun j=>xs[j]?
theorem jgn {n:Nat} {i:Int} {j:Nat} (h:ixN n i=some j):seqIndex? i n=some j/\j<n/\-(n:Int)<=i/\i<n:=by
 unfold ixN at h;by_cases h0:0<=i
 ·rw[if_pos h0] at h;by_cases h1:i<n
  ·rw[if_pos h1] at h;have e:i.toNat=j:=Option.some.inj h;exact⟨by rw[seqIndex_of h0 h1,e],by omega,by omega,h1⟩
  ·rw[if_neg h1] at h;cases h
 ·rw[if_neg h0] at h;by_cases h1:-(n:Int)<=i
  ·rw[if_pos h1] at h;have e:(i+n).toNat=j:=Option.some.inj h;exact⟨by rw[seqIndex_neg (by omega) h1,e],by omega,h1,by omega⟩
  ·rw[if_neg h1] at h;cases h
theorem jim {α:Type} {xs:List α} {i:Int} {v:α} (h:atI xs i=some v):∃j,seqIndex? i xs.length=some j/\xs[j]?=some v/\j<xs.length/\-(xs.length:Int)<=i/\i<xs.length:=by
  unfold atI at h;cases e:ixN xs.length i with
  | none=>rw[e] at h;cases h
  | some j =>
    rw[e] at h;obtain⟨h1,h2,h3,h4⟩:=jgn e;exact⟨j,h1,h,h2,h3,h4⟩
theorem jaK {α:Type} {xs:List α} {j:Nat} {v:α} (h:xs[j]?=some v):atI xs (j:Int)=some v:=by
 have hj:j<xs.length:=(xaj.mp h).1;have e:ixN xs.length (j:Int)=some j:=by
  unfold ixN;rw[if_pos (by omega),if_pos (by omega)];simp
 unfold atI;rw[e];exact h
theorem jkv {α:Type} (xs:List α) (v:α):atI (xs++[v]) (-1)=some v:=by
 have hl:(xs++[v]).length=xs.length+1:=by simp
 have e:ixN (xs++[v]).length (-1)=some xs.length:=by
  unfold ixN;rw[hl,if_neg (by decide),if_pos (by omega)]
  congr 1
  omega
 unfold atI;rw[e];show (xs++[v])[xs.length]?=some v;simp
def jin (b:Expr):Prop:=∀o i,subscripted b false o i=operate [o,i] (getItem o i)
def IxR (X:Cx) (r:R2):Prop :=
  ∀ (value slice : Expr) (pins : List (Addr × Obj)) (s : Shared) (σ : St) (H : Hp) (x y : V) (v u : Value) (Q : VK), Inv X pins σ H s -> RelV x v -> RelV y u -> r x y H Q ->
    subscripted slice false v u=operate [v,u] (getItem v u)->wpAny (model X.prog X.w) X.A (subscriptTail value slice v u) (EP X pins σ Q) X.xe s
def MtR (X:Cx) (id:String) (r:V->List V->Hp->VK->Prop):Prop :=
  ∀ (pins : List (Addr × Obj)) (s : Shared) (σ : St) (H : Hp) (x : V) (xs : List V) (v : Value) (us : List Value) (Q : VK), Inv X pins σ H s -> RelV x v -> Vals xs us -> r x xs H Q ->
    wpAny (model X.prog X.w) X.A (call (.builtin id) (v::us)) (EP X pins σ Q) X.xe s
section
variable {X:Cx} {a b:Expr} {ta tb:TE} {pos:Pos}
theorem IxR.or {r r':R2} (h:IxR X r) (h':IxR X r'):IxR X (fun x y H Q=>r x y H Q\/r' x y H Q):=by
 intro value slice pins s σ H x y v u Q I rx ry q hs;rcases q with q | q
 ·exact h value slice pins s σ H x y v u Q I rx ry q hs
 ·exact h' value slice pins s σ H x y v u Q I rx ry q hs
theorem MtR.or {id:String} {r r':V->List V->Hp->VK->Prop} (h:MtR X id r) (h':MtR X id r'):MtR X id (fun x xs H Q=>r x xs H Q\/r' x xs H Q):=by
 intro pins s σ H x xs v us Q I rx rs q;rcases q with q | q
 ·exact h pins s σ H x xs v us Q I rx rs q
 ·exact h' pins s σ H x xs v us Q I rx rs q
theorem jak {r:R2} (hr:IxR X r) (ha:PE X a ta) (hb:PE X b tb) (hs:jin b:=by exact fun _ _=>rfl):PE X (.Subscript a b pos) (tOp r ta tb):=by
 intro pins s σ H Q I h;exact Subscript_ (binT ha hb I h fun v u s2 x y H2 I2 rx ry q=>hr a b pins s2 σ H2 x y v u Q I2 rx ry q (hs _ _))
def jlA (K:PySem.W.Frag):R2:=fun x y H Q=>∃p xs i v,x=.ref p/\y=.int i/\SqL K H p xs/\atI xs i=some v/\Q v H
def jd7 (K:PySem.W.Frag):R2:=fun x y H Q=>∃p xs i v,x=.ref p/\y=.int i/\SqT K H p xs/\atI xs i=some v/\Q v H
theorem ix_list:IxR X (jlA X.K):=by
 intro value slice pins s σ H x y v u Q I rx ry h hs;obtain⟨p,xs,i,z,rfl,rfl,hq,he,q⟩:=h;cases rx;obtain⟨t,rfl⟩:=ry;obtain⟨its,r,pl,hz⟩:=I.list hq;obtain⟨j,h1,h2,h3,h4,h5⟩:=jim he;obtain⟨w,ew,rw'⟩:=r.get h2;have hl:=r.length;have hn:=jgT;have fin:EP X pins σ Q w s:=⟨z,H,I,rw',q⟩;by_cases h0:0<=i
 ·have hj:i.toNat=j:=by
   rw[seqIndex_of h0 h5] at h1;exact Option.some.inj h1
  exact item_listR pl.isList h0 (by omega) (by rw[hj];simpa using ew) fin hs
 ·have hj:(i+(its.toArray.size:Int)).toNat=j:=by
   rw[seqIndex_neg (by omega) h4] at h1;rw[xak,<- hl];exact Option.some.inj h1
  exact subscriptTail_builtinR (x:=w) pl.isList.typeIs slot_list_getitem.lookup
   (wpAny_getItem_list_neg (Q:=fun r s'=>r=w/\EP X pins σ Q r s') pl.isList (by omega) (by rw[xak]<;>omega) (by omega) (by rw[hj];simpa using ew) ⟨rfl,fin⟩) hs
theorem jam:IxR X (jd7 X.K):=by
 intro value slice pins s σ H x y v u Q I rx ry h hs;obtain⟨p,xs,i,z,rfl,rfl,hq,he,q⟩:=h;cases rx;obtain⟨t,rfl⟩:=ry;obtain⟨its,r,pl,hz⟩:=I.tuple hq;obtain⟨j,h1,h2,h3,h4,h5⟩:=jim he;obtain⟨w,ew,rw'⟩:=r.get h2;have hl:=r.length;have hn:=jgT;have fin:EP X pins σ Q w s:=⟨z,H,I,rw',q⟩;exact subscriptTail_builtinR (x:=w) pl.typeIs slot_tuple_getitem.lookup
  (getItem_tuple (j:=j) (Q:=fun r s'=>r=w/\EP X pins σ Q r s') pl (by omega) (by omega) (by rw[xak,<- hl];exact h1) (by simpa using ew) ⟨rfl,fin⟩) hs
theorem jhM (its:List Value) (n j:Nat) (u:Value):Obj.mapSeq (·.setIfInBounds j u) { cls:=.type "list",data:=.seq its.toArray n }={ cls:=.type "list",data:=.seq (its.set j u).toArray n }:=by
 simp [Obj.mapSeq]
theorem Inv.lst {pins:List (Addr × Obj)} {σ:St} {H:Hp} {s:Shared} {p:Addr} {xs:List V} (I:Inv X pins σ H s) (h:H p=some (.lst xs)) :
  ∃(its:List Value) (n:Nat),Vals xs its/\s.heap.get? p=some { cls:=.type "list",data:=.seq its.toArray n }/\xs.length<=sizeLine:=by
 obtain⟨z,its,n,r,e⟩:=I.hok p _ h;exact⟨its,n,r,e,z⟩
theorem Inv.lstUpd {pins:List (Addr × Obj)} {σ:St} {H:Hp} {s:Shared} {p:Addr} {xs ys:List V} {its its':List Value} {n n':Nat} {f:Obj->Obj} (I:Inv X pins σ H s) (h:H p=some (.lst xs))
  (ho:s.heap.get? p=some { cls:=.type "list",data:=.seq its.toArray n }) (hf:f { cls:=.type "list",data:=.seq its.toArray n }={ cls:=.type "list",data:=.seq its'.toArray n' }) (r:Vals ys its') (hz:ys.length<=sizeLine) (t:Nat) :
  Inv X pins σ (upd H p (.lst ys)) { s with heap:=s.heap.update p f,toks:=t }:=by
 have e:(s.heap.update p f).get? p=some { cls:=.type "list",data:=.seq its'.toArray n' }:=by
  rw[Heap.get?_update_self f ho (by rw[hf]<;>rfl),hf]
 refine I.write (x:=p) (e:=p) (by rw[h];trivial) (.inl rfl) (fun b u hb q=>(Heap.get?_update_other _ _ (Ne.symm hb)).trans q) ⟨_,e⟩ ?_;exact⟨hz,its',n',r,e⟩
def jmM:V->V->V->Hp->(Hp->Prop)->Prop:=fun o i v H Q=>∃p xs k j,o=.ref p/\i=.int k/\H p=some (.lst xs)/\ixN xs.length k=some j/\Q (upd H p (.lst (xs.set j v)))
theorem jdW:PSet X jmM:=by
 intro pins s σ H o i v ov iv u Q I ro ri rv h;obtain⟨p,xs,k,j,rfl,rfl,hp,hj,q⟩:=h;cases ro;obtain⟨t,rfl⟩:=ri;obtain⟨its,n,r,ho,hz⟩:=I.lst hp;obtain⟨h1,h2,h3,h4⟩:=jgn hj;have hl:=r.length;have hn:=jgT;have I':Inv X pins σ (upd H p (.lst (xs.set j v))) { s with heap:=s.heap.update p (Obj.mapSeq (·.setIfInBounds j u)) } :=
  I.lstUpd hp ho (jhM its n j u) (r.set rv j) (by rw[List.length_set];exact hz) s.toks
 by_cases h0:0<=k
 ·have hk:k.toNat=j:=by
   rw[seqIndex_of h0 h4] at h1;exact Option.some.inj h1
  exact PySem.W.ki_setAt ho h0 (by omega) (by rw[xak,<- hl];exact h4) (by rw[hk];exact⟨_,I',q⟩)
 ·have hk:(k+(its.toArray.size:Int)).toNat=j:=by
   rw[seqIndex_neg (by omega) h3] at h1;rw[xak,<- hl];exact Option.some.inj h1
  exact PySem.W.ki_setBack ho (by omega) (by rw[xak,<- hl];exact h3) (by omega) (by rw[hk];exact⟨_,I',q⟩)
theorem jfK (lo hi:Option Int) (n:Nat):(sliceBounds lo hi none n).1=((HT.sIx n 0 lo:Nat):Int)/\(sliceBounds lo hi none n).2.1=((HT.sIx n n hi:Nat):Int)/\(sliceBounds lo hi none n).2.2=1:=by
  refine⟨?_,?_,rfl⟩
  . cases lo with
    | none=>simp [sliceBounds,HT.sIx]
    | some i =>
      simp only[sliceBounds,HT.sIx,Option.getD_none,show (1:Int)>0 by decide,if_true];by_cases h:i<0
      . simp only[h,if_true]<;>omega
      . simp only[h,if_false]<;>omega
  . cases hi with
    | none=>simp [sliceBounds,HT.sIx]
    | some i =>
      simp only[sliceBounds,HT.sIx,Option.getD_none,show (1:Int)>0 by decide,if_true];by_cases h:i<0
      . simp only[h,if_true]<;>omega
      . simp only[h,if_false]<;>omega
theorem je0 (its:List Value) (lo hi:Option Int):slicePick its.toArray lo hi none=((its.drop (HT.sIx its.length 0 lo)).take (HT.sIx its.length its.length hi-HT.sIx its.length 0 lo)).toArray:=by
 obtain⟨h1,h2,h3⟩:=jfK lo hi its.toArray.size;unfold slicePick;rw[h1,h2,h3];simp only[sliceRange_one,pick_run,xak]<;>rfl
def rSlL (K:PySem.W.Frag):V->Option Int->Option Int->Hp->VK->Prop:=fun x lo hi H Q=>∃a xs,x=.ref a/\SqL K H a xs/\∀p,H p=none->Q (.ref p) (upd H p (.lst (jb5 xs lo hi)))
theorem sl_list:SlR X (rSlL X.K):=by
 intro pins s σ H x v vl vu lo hi sl Q I rx hs pl pu h;obtain⟨a,xs,rfl,hx,q⟩:=h;cases rx;obtain⟨its,r,ht,hz⟩:=I.list hx;have hlen:=r.length;refine⟨"list",_,slot_list_getitem.lookup,ht.isList.typeIs,?_⟩;refine wpAny_getItem_list_slice ht.isList hs pl pu .none (by simp) ?_ (by rw[xak]<;>omega);rw[je0,<- hlen];refine⟨.ref s.heap.objs.size,_,I.laid (t':=s.toks) (o:=.lst (jb5 xs lo hi)) (fun b ob q=>Heap.get?_push_of_some _ q) (xag _) ?_,rfl,q _ (I.hok.fresh (xag _))⟩;exact⟨xav (jd6 xs lo hi) hz,_,0,(r.drop (HT.sIx xs.length 0 lo)).take (HT.sIx xs.length xs.length hi-HT.sIx xs.length 0 lo),Heap.get?_push_size _ rfl⟩
def je1:V->Bool
 | .non=>true
 | .bl _=>true
 | .int _=>true
 | .str _=>true
 | _=>false
def eqV:V->V->Bool
 | .non,.non=>true
 | .bl a,.bl b=>a==b
 | .bl a,.int b=>(if a then 1 else 0)==b
 | .int a,.bl b=>a==(if b then 1 else 0)
 | .int a,.int b=>a==b
 | .str a,.str b=>a==b
 | _,_=>false
theorem joz {A:Around} {s:Shared} {y x:V} {u v:Value} (ry:RelV y u) (rx:RelV x v) (fy:je1 y=true) (fx:je1 x=true):SeqAt.EqAt A s u v (eqV y x):=by
  cases y with
  | non =>
    cases ry;cases x with
    | non=>cases rx;exact SeqAt.EqAt.same _
    | bl b=>cases rx;exact SeqAt.EqAt.none_bool b
    | int b=>obtain⟨t,rfl⟩:=rx;exact SeqAt.EqAt.none_int b t
    | str b=>obtain⟨t,rfl⟩:=rx;exact SeqAt.EqAt.none_str b t
    | _=>exact absurd (show false=true from fx) xaw
  | bl a =>
    cases ry;cases x with
    | non=>cases rx;exact SeqAt.EqAt.bool_none a
    | bl b=>cases rx;exact SeqAt.EqAt.bool_bool a b
    | int b=>obtain⟨t,rfl⟩:=rx;exact SeqAt.EqAt.bool_int a b t
    | str b=>obtain⟨t,rfl⟩:=rx;exact SeqAt.EqAt.bool_str a b t
    | _=>exact absurd (show false=true from fx) xaw
  | int a =>
    obtain⟨t',rfl⟩:=ry;cases x with
    | non=>cases rx;exact SeqAt.EqAt.int_none a t'
    | bl b=>cases rx;exact SeqAt.EqAt.int_bool a t' b
    | int b=>obtain⟨t,rfl⟩:=rx;exact SeqAt.EqAt.int_int a t' b t
    | str b=>obtain⟨t,rfl⟩:=rx;exact SeqAt.EqAt.int_str a t' b t
    | _=>exact absurd (show false=true from fx) xaw
  | str a =>
    obtain⟨t',rfl⟩:=ry;cases x with
    | non=>cases rx;exact SeqAt.EqAt.str_none a t'
    | bl b=>cases rx;exact SeqAt.EqAt.str_bool a t' b
    | int b=>obtain⟨t,rfl⟩:=rx;exact SeqAt.EqAt.str_int a t' b t
    | str b=>obtain⟨t,rfl⟩:=rx;exact SeqAt.EqAt.str_str a t' b t
    | _=>exact absurd (show false=true from fx) xaw
  | _=>exact absurd (show false=true from fy) xaw
def eqU (x:V) (u:Value):Bool:=match u with
 | .none=>eqV .non x
 | .bool b=>eqV (.bl b) x
 | .int i _=>eqV (.int i) x
 | .str z _=>eqV (.str z) x
 | _=>false
theorem jlB {x y:V} {u:Value} (r:RelV y u) (f:je1 y=true):eqU x u=eqV y x:=by
 cases y with
 | non=>cases r;rfl
 | bl b=>cases r;rfl
 | int i=>obtain⟨t,rfl⟩:=r;rfl
 | str z=>obtain⟨t,rfl⟩:=r;rfl
 | _=>exact absurd (show false=true from f) xaw
theorem jgo {x:V}:∀{xs:List V} {us:List Value},Vals xs us->xs.all je1=true->us.any (eqU x)=xs.any fun y=>eqV y x
  | _,_,.nil,_=>rfl
  | y :: xs, u :: us, .cons r t, f => by
    rw[List.all_cons,xbE] at f;rw[xcA,xcA,jlB r f.1,jgo t f.2]
theorem je2 {A:Around} {s:Shared} {x:V} {v:Value} (rx:RelV x v) (fx:je1 x=true):∀{xs:List V} {us:List Value},Vals xs us->xs.all je1=true->∀u∈us,SeqAt.EqAt A s u v (eqU x u)
  | _,_,.nil,_=>fun u hu=>by cases hu
  | y :: xs, u :: us, .cons r t, f => fun u' hu => by
    rw[List.all_cons,xbE] at f;rcases xaG.mp hu with rfl | hu
    . rw[jlB r f.1];exact joz r rx f.1 fx
    . exact je2 rx fx t f.2 u' hu
def inV (x:V) (xs:List V):Bool:=xs.any fun y=>eqV y x
def rIn (K:PySem.W.Frag) (neg:Bool):R2:=fun x y H Q=>∃p xs,y=.ref p/\(SqL K H p xs\/SqT K H p xs)/\je1 x=true/\xs.all je1=true/\Q (.bl (if neg then !inV x xs else inV x xs)) H
theorem jio:OpR X (compareOp .In) (rIn X.K false):=by
 intro pins s σ H x y v u Q I rx ry h;obtain⟨p,xs,rfl,hq,fx,fs,q⟩:=h;cases ry;rcases hq with hq | hq
 ·obtain⟨its,r,pl,hz⟩:=I.list hq;refine SeqAt.in_listAt (eqU x) pl.isList (fun w hw=>je2 rx fx r fs w (by simpa using hw)) ⟨.bl _,H,I,rfl,?_⟩;rw[show its.toArray.any (eqU x)=its.any (eqU x) by simp,jgo r fs];exact q
 ·obtain⟨its,r,pl,hz⟩:=I.tuple hq;refine SeqAt.in_tupleAt (eqU x) pl (fun w hw=>je2 rx fx r fs w (by simpa using hw)) ⟨.bl _,H,I,rfl,?_⟩;rw[show its.toArray.any (eqU x)=its.any (eqU x) by simp,jgo r fs];exact q
theorem jaI:CallR X (.builtin "len") (fun xs H Q=>∃p ys,xs=[.ref p]/\(SqL X.K H p ys\/SqT X.K H p ys)/\Q (.int ys.length) H):=by
 intro pins s σ H xs us Q I r h;obtain⟨p,ys,rfl,hq,q⟩:=h;obtain⟨u,rfl,rx⟩:=jfE r;cases rx;have hn:=jgT;rcases hq with hq | hq
 ·obtain⟨its,r',pl,hz⟩:=I.list hq;have hlen:=r'.length;exact Calls.call_len_list pl.isList (by simp only[xak]<;>omega) ⟨.int ys.length,H,I.tok _,⟨s.toks+1,by rw[xak,hlen]⟩,q⟩
 ·obtain⟨its,r',pl,hz⟩:=I.tuple hq;have hlen:=r'.length;exact len_tuple pl (by simp only[xak]<;>omega) ⟨.int ys.length,H,I.tok _,⟨s.toks+1,by rw[xak,hlen]⟩,q⟩
theorem CallR.or {f:Value} {r r':List V->Hp->VK->Prop} (h:CallR X f r) (h':CallR X f r'):CallR X f (fun xs H Q=>r xs H Q\/r' xs H Q):=by
 intro pins s σ H xs us Q I rs q;rcases q with q | q
 ·exact h pins s σ H xs us Q I rs q
 ·exact h' pins s σ H xs us Q I rs q
theorem jbx:CallR X (.type "list") (fun xs H Q=>∃p ys,xs=[.ref p]/\(SqL X.K H p ys\/SqT X.K H p ys)/\∀l,H l=none->Q (.ref l) (upd H l (.lst ys))):=by
 intro pins s σ H xs us Q I r h;obtain⟨p,ys,rfl,hq,q⟩:=h;obtain⟨u,rfl,rx⟩:=jfE r;cases rx;have fin:∀(its:List Value),Vals ys its->ys.length<=sizeLine->∀(h':Heap) (c':Nat),(∀b o',s.heap.get? b=some o'->h'.get? b=some o') ->
   h'.get? s.heap.objs.size=some { cls:=.type "list",dict:=none,data:=.seq its.toArray c',slots:=#[] }->EP X pins σ Q (.ref s.heap.objs.size) { s with heap:=h' }:=fun its r' hz h' c' kp e =>
  ⟨.ref s.heap.objs.size,_,I.laid (t':=s.toks) kp (xag _) (show ObjOk X.prog X.w _ h' _ (.lst ys) from ⟨hz,its,c',r',e⟩),rfl,q _ (I.hok.fresh (xag _))⟩
 rcases hq with hq | hq
 ·obtain⟨its,r',pl,hz⟩:=I.list hq;have hlen:=r'.length;obtain⟨o,ho,hc,n,hd⟩:=pl.isList;exact call_list_seq p (.inl rfl) ho hc hd (fun h' c' kp e=>fin its r' hz h' c' kp e) (by simp only[xak]<;>omega)
 ·obtain⟨its,r',pl,hz⟩:=I.tuple hq;have hlen:=r'.length;obtain⟨o,ho,hc,n,hd⟩:=pl;exact call_list_seq p (.inr rfl) ho hc hd (fun h' c' kp e=>fin its r' hz h' c' kp e) (by simp only[xak]<;>omega)
theorem jaZ:CallR X (.type "tuple") (fun xs H Q=>∃p ys,xs=[.ref p]/\((SqL X.K H p ys/\∀l,H l=none->Q (.ref l) (upd H l (.tup ys)))\/(SqT X.K H p ys/\Q (.ref p) H))):=by
 intro pins s σ H xs us Q I r h;obtain⟨p,ys,rfl,h⟩:=h;obtain⟨u,rfl,rx⟩:=jfE r;cases rx;rcases h with ⟨hq,q⟩ | ⟨hq,q⟩
 ·obtain⟨its,r',pl,hz⟩:=I.list hq;have hlen:=r'.length;refine call_tuple_list pl.isList (fun h' kp=>?_) (by simp only[xak]<;>omega);have I1:Inv X pins σ H { s with heap:=h' }:=I.kept (t':=s.toks) kp;have I2:Inv X pins σ (upd H h'.objs.size (.tup ys)) { s with heap:=h'.push { cls:=.type "tuple",data:=.seq its.toArray } } :=
   I1.laid (t':=s.toks) (fun b o e=>Heap.get?_push_of_some _ e) (xag _) (show ObjOk X.prog X.w _ _ _ (.tup ys) from ⟨hz,its,r',IsTup.new _ _⟩)
  exact⟨.ref h'.objs.size,_,I2,rfl,q _ (I1.hok.fresh (xag _))⟩
 ·obtain⟨its,r',pl,hz⟩:=I.tuple hq;exact call_tuple_same pl ⟨.ref p,H,I,rfl,q⟩
def tyV (K:PySem.W.Frag) (T:String) (x:V) (H:Hp):Prop:=match x with
 | .str _=>T="str"
 | .int _=>T="int"
 | .ref p=>(T="list" /\ ∃xs,SqL K H p xs) \/ (T="tuple" /\ ∃o,K.lookup p=some o /\ o.cls=.type "tuple" /\ o.dict=none) \/
   (T="dict"/\((∃kvs,H p=some (.dK kvs))\/∃kvs,H p=some (.dT kvs)))\/(T="set"/\∃S n,H p=some (.set S n))
 | _=>False
theorem jlC {pins:List (Addr × Obj)} {σ:St} {H:Hp} {s:Shared} {T:String} {x:V} {v:Value} (I:Inv X pins σ H s) (r:RelV x v) (ty:tyV X.K T x H) :
    s.TypeIs v T/\∀a,v=.ref a->∃ob,s.heap.get? a=some ob/\ob.dict=none:=by
  cases x with
  | str z =>
    obtain⟨t,rfl⟩:=r;cases (show T="str" from ty);exact⟨typeIs_str s z t,fun _ e=>nomatch e⟩
  | int i =>
    obtain⟨t,rfl⟩:=r;cases (show T="int" from ty);exact⟨typeIs_int s i t,fun _ e=>nomatch e⟩
  | ref p =>
    cases r;rcases ty with ⟨rfl,xs,hq⟩ | ⟨rfl,o,hk,hc,hd⟩ | ⟨rfl,hk⟩ | ⟨rfl,S,n,hk⟩
    . obtain⟨its,_,pl,_⟩:=I.list hq
      refine⟨pl.isList.typeIs,fun a e=>?_⟩;cases e;obtain⟨o,n,e,c,hd,_⟩:=pl;exact⟨o,e,hd⟩
    . refine⟨⟨o,I.kIn p o hk,hc⟩,fun a e=>?_⟩
      cases e;exact⟨o,I.kIn _ o hk,hd⟩
    . have z:∃o,s.heap.get? p=some o/\o.ExactDict:=by
        rcases hk with ⟨kvs,hk⟩ | ⟨kvs,hk⟩
        . obtain⟨_,_,_,_,o,_,_,e,ex,_⟩:=I.hok p _ hk
          exact⟨o,e,ex⟩
        . obtain⟨_,_,_,_,o,_,_,e,ex,_⟩:=I.hok p _ hk
          exact⟨o,e,ex⟩
      obtain⟨o,e,ex⟩:=z;refine⟨⟨o,e,ex.1⟩,fun a e2=>?_⟩;cases e2;exact⟨o,e,ex.2.1⟩
    . obtain⟨o,_,_,_,e,ex,_⟩:=I.hok p _ hk
      refine⟨⟨o,e,ex.1⟩,fun a e2=>?_⟩;cases e2;exact⟨o,e,ex.2.1⟩
  | _=>exact False.elim ty
def joA (K:PySem.W.Frag) (T:String) (r:V->List V->Hp->VK->Prop) (to:TE):TE:=fun σ H Q=>to σ H fun x H1=>tyV K T x H1/\r x [] H1 Q
def tBM (K:PySem.W.Frag) (T:String) (r:V->List V->Hp->VK->Prop) (to:TE) (t:TA):TE:=fun σ H Q=>to σ H fun x H1=>tyV K T x H1/\t σ H1 fun xs H2=>r x xs H2 Q
variable {o e:Expr} {es:List Expr} {to:TE} {t:TA} {name:Str} {apos cpos:Pos} {T id:String} {r:V->List V->Hp->VK->Prop}
theorem joB (pa:PlainAttrs T) (slot:Slot T name id) (hty:typeOf (.builtin id)=pure (.type "method_descriptor")) (hm:MtR X id r) (ho:PE X o to)
  (hbase:attributeBase o name X.env (eval o X.env)=eval o X.env:=by rfl) (hline:(apos.endLine==cpos.line)=true:=by rfl):PE X (.Call (.Attribute o name apos) [] [] cpos) (joA X.K T r to):=by
 intro pins s σ H Q I h;refine wpAny_Call_method0_late hbase hline (thn (ho pins s σ H _ I h) fun v s1 ⟨x,H1,I1,r1,ty,q1⟩=>?_);obtain⟨h1,h2⟩:=jlC I1 r1 ty;exact⟨T,id,pa,slot,hty,h1,h2,Calls.callWith_builtin rfl (PySem.evalArgs_none (hm pins s1 σ H1 x [] v [] Q I1 r1 .nil q1))⟩
theorem jcq (pa:PlainAttrs T) (slot:Slot T name id) (hty:typeOf (.builtin id)=pure (.type "method_descriptor")) (hm:MtR X id r) (ho:PE X o to) (ha:PA X (e::es) t)
  (hbase:attributeBase o name X.env (eval o X.env)=eval o X.env:=by rfl)
  (hfew:((backTo cpos (starEach (e::es) X.env)).all (fun x=>!x.1)&&(backToKw cpos (keywordEach [] X.env)).all (fun x=>x.1.isSome)
   && decide ((e::es).length+([]:List Keyword).length+(if ([]:List Keyword).isEmpty then 0 else 1)<30))=true:=by rfl)
  (hline:(apos.endLine==cpos.line)=true:=by rfl) (hs:starEach (e::es) X.env=(false,eval e X.env)::starEach es X.env:=by rfl) (hplain:(backTo cpos (starEach es X.env)).any (·.1)=false:=by rfl) :
  PE X (.Call (.Attribute o name apos) (e::es) [] cpos) (tBM X.K T r to t):=by
 intro pins s σ H Q I h;refine wpAny_Call_method_late hbase hfew hline rfl (thn (ho pins s σ H _ I h) fun v s1 ⟨x,H1,I1,r1,ty,q1⟩=>?_);obtain⟨h1,h2⟩:=jlC I1 r1 ty;refine⟨T,id,pa,slot,hty,h1,h2,?_⟩;have hA:=ha cpos pins s1 σ H1 _ I1 q1;rw[hs] at hA |-
 refine Calls.callWith_builtin (by show (false||(backTo cpos (starEach es X.env)).any (·.1))=false;rw[hplain]<;>rfl) (Calls.evalArgs_plain ?_);exact thn hA fun us s2 ⟨vs,H2,I2,r2,q2⟩=>hm pins s2 σ H2 x vs v us Q I2 r1 r2 q2
end
def MtM (X:Cx) (id:String) (r:V->List V->Hp->VK->Prop):Prop :=
  ∀ (pins : List (Addr × Obj)) (s : Shared) (σ : St) (H : Hp) (x : V) (xs : List V) (v : Value) (us : List Value) (Q : VK), Inv X pins σ H s -> RelV x v -> Vals xs us -> r x xs H Q ->
    wpAny (model X.prog X.w) X.A (call (.builtin id) (v::us)) (EP X pins σ Q) X.xe s
theorem Vals.one:∀{x:V} {us:List Value},Vals [x] us->∃u,us=[u]/\RelV x u
 | _,_,.cons r .nil=>⟨_,rfl,r⟩
theorem Vals.two:∀{x y:V} {us:List Value},Vals [x,y] us->∃u v,us=[u,v]/\RelV x u/\RelV y v
 | _,_,_,.cons r (.cons q .nil)=>⟨_,_,rfl,r,q⟩
theorem Vals.zero:∀{us:List Value},Vals [] us->us=[]
 | _,.nil=>rfl
theorem Vals.eraseIdx:∀{xs:List V} {us:List Value} (i:Nat),Vals xs us->Vals (xs.eraseIdx i) (us.eraseIdx i)
 | _,_,_,.nil=>.nil
 | _,_,0,.cons _ t=>t
 | _,_,i+1,.cons r t=>.cons r (Vals.eraseIdx i t)
theorem Vals.reverse {xs:List V} {us:List Value} (h:Vals xs us):Vals xs.reverse us.reverse:=by
 induction h with
 | nil=>exact .nil
 | cons r t ih=>rw[xaM,xaM];exact Vals.append ih (.cons r .nil)
theorem jfL {α:Type}:∀(l:List α) (i:Nat),(l.eraseIdx i).length<=l.length
 | [],_=>xag _
 | _::_,0=>xb6 _
 | _::r,i+1=>Nat.succ_le_succ (jfL r i)
section
variable {X:Cx} {pins:List (Addr × Obj)} {σ:St} {H:Hp} {s:Shared} {l b:Addr} {xs ys zs:List V}
theorem Inv.lset {its its':List Value} {n:Nat} {f:Array Value->Array Value} {t':Nat} (I:Inv X pins σ H s) (hH:H l=some (.lst xs))
  (e:s.heap.get? l=some { cls:=.type "list",data:=.seq its.toArray n }) (hf:f its.toArray=its'.toArray) (hv:Vals ys its') (hz:ys.length<=sizeLine) :
  Inv X pins σ (upd H l (.lst ys)) { s with heap:=s.heap.update l (Obj.mapSeq f),toks:=t' }:=by
 have q:=PySem.IsL.update e f;rw[hf] at q;refine I.write (x:=l) (e:=l) (by rw[hH];exact trivial) (.inl rfl) (fun b' u hb hu=>(Heap.get?_update_other s.heap (Obj.mapSeq f) (Ne.symm hb)).trans hu) ⟨_,q⟩ ?_;exact⟨hz,its',_,hv,q⟩
theorem Inv.lnew {its:List Value} {t':Nat} (I:Inv X pins σ H s) (hv:Vals ys its) (hz:ys.length<=sizeLine) :
  Inv X pins σ (upd H s.heap.objs.size (.lst ys)) { s with heap:=s.heap.push { cls:=.type "list",data:=.seq its.toArray },toks:=t' } :=
 I.laid (fun _ _ q=>Heap.get?_push_of_some _ q) (xag _) ⟨hz,its,0,hv,Heap.get?_push_size _ rfl⟩
theorem Inv.fresh (I:Inv X pins σ H s):H s.heap.objs.size=none:=I.hok.fresh (xag _)
theorem Inv.lstM (I:Inv X pins σ H s) (hH:H l=some (.lst xs)):xs.length<=sizeLine/\∃(its:List Value) (n:Nat),Vals xs its/\xs.length=its.length/\s.heap.get? l=some { cls:=.type "list",data:=.seq its.toArray n }:=by
 obtain⟨z,its,n,r,e⟩:=I.hok l _ hH;exact⟨z,its,n,r,r.length,e⟩
end
section
variable {X:Cx}
def jgp:V->List V->Hp->VK->Prop:=fun x vs H Q=>∃l xs y,x=.ref l/\vs=[y]/\H l=some (.lst xs)/\xs.length<sizeLine/\Q .non (upd H l (.lst (xs++[y])))
theorem jaR:MtM X "list.append" jgp:=by
 intro pins s σ H x vs v us Q I rx rv h;obtain⟨l,xs,y,rfl,rfl,hH,hz,q⟩:=h;cases rx;obtain⟨u,rfl,ru⟩:=rv.one;obtain⟨z,its,n,r,hl,e⟩:=I.lstM hH;refine call_meets F.slot_list_append ⟨_,e,rfl⟩ F.entry_list_append (F.args_list_append_2 _ _) (PySem.list_append l its.toArray n u (by rw[xak];omega)) ⟨e,?_⟩;refine⟨.non,_,I.lset (its':=its++[u]) hH e (by simp) (r.append (.cons ru .nil)) ?_,rfl,q⟩;rw[xad,xci];omega
def joC:V->List V->Hp->VK->Prop:=fun x vs H Q=>∃l xs i k y,x=.ref l/\vs=[.int i]/\H l=some (.lst xs)/\-(2^63)<=i/\i<2^63/\seqIndex? i xs.length=some k/\xs[k]?=some y/\Q y (upd H l (.lst (xs.eraseIdx k)))
theorem jkw:MtM X "list.pop" joC:=by
 intro pins s σ H x vs v us Q I rx rv h;obtain⟨l,xs,i,k,y,rfl,rfl,hH,h1,h2,hk,hy,q⟩:=h;cases rx;obtain⟨u,rfl,ru⟩:=rv.one;obtain⟨t,rfl⟩:=ru;obtain⟨z,its,n,r,hl,e⟩:=I.lstM hH;obtain⟨w,hw,rw'⟩:=r.get hy;refine call_meets F.slot_list_pop ⟨_,e,rfl⟩ F.entry_list_pop (F.args_list_pop_2 _ _)
  (MeetsSeq.list_pop_at l its.toArray n i t k w (fitsIndex_both h1 h2) (by rw[xak,<- hl];exact hk) (by rw[<- Array.getElem?_toList];exact hw) (by rw[xak];omega)) ⟨e,?_⟩
 refine⟨y,_,I.lset (its':=its.eraseIdx k) hH e ?_ (r.eraseIdx k) ?_,rw',q⟩
 ·show its.toArray.eraseIdxIfInBounds k=(its.eraseIdx k).toArray;rw[List.eraseIdxIfInBounds_toArray]
 ·have:=jfL xs k;omega
def rCat:R2:=fun x y H Q=>∃l b xs zs,x=.ref l/\y=.ref b/\H l=some (.lst xs)/\H b=some (.lst zs)/\xs.length+zs.length<=sizeLine/\∀p,H p=none->Q (.ref p) (upd H p (.lst (xs++zs)))
theorem jb7:OpR X (binaryOp .Add) rCat:=by
 intro pins s σ H x y v u Q I rx ry h;obtain⟨l,b,xs,zs,rfl,rfl,hH,hB,hz,q⟩:=h;cases rx;cases ry;obtain⟨z,its,n,r,hl,e⟩:=I.lstM hH;obtain⟨z2,its2,n2,r2,hl2,e2⟩:=I.lstM hB;refine PySem.P.add_list e e2 ?_ (by rw[xak,xak];omega);have ea:its.toArray++its2.toArray=(its++its2).toArray:=by simp
 rw[ea];exact⟨.ref _,_,I.lnew (t':=s.toks) (r.append r2) (by rw[xad];omega),rfl,q _ I.fresh⟩
end
end L2
namespace Att
open PySem PySem.W PySem.Calls PyProof.Rows
theorem jd8 {P:Params} {h:Heap}:∀(ns:List Int) (vs:List Value),WellAll P h vs (ns.map WData.int)->IntsAre vs ns:=by
  intro ns;induction ns with
  | nil =>
    intro vs w;rw[xcr] at w;cases w;exact .nil
  | cons n ns ih =>
    intro vs w;rw[xaH] at w;cases w with
    | cons a b =>
      cases a;exact .cons _ _ (ih _ b)
theorem jip {l:OpenLaw} {n:Nat} (hn:l.most=some n) {P:Params} {h:Heap} {args:List WData} {vals:List Value}
    (hpre:l.row.toRowW.claim.pre args=true) (hwl:WellAll P h vals args) :
    ∃a vs ns,vals=[Value.ref a]/\args=[WData.list (ns.map WData.int)]/\h.get? a=some { cls:=.type "list",data:=.seq vs.toArray }/\IntsAre vs ns/\ns.length<=n:=by
  have hsh:WShape.hasAll [] args [.list .int]=true:=(pre_splitW hpre).1;have hc:l.pre.holds [] { args:=args }=true:=(pre_splitW hpre).2;obtain⟨d,r,rfl,h1,h2⟩:=hasAllW_cons hsh;obtain rfl:=hasAllW_nil h2;obtain⟨xs,rfl,h3⟩:=hasW_list h1;obtain⟨ns,rfl⟩:=items_int h3;have hlen:ns.length<=n:=by
    unfold OpenLaw.pre at hc;have h4:(WTm.not (.lt (.lit (.int (n:Int))) (.len (.arg 0)))).holds [] { args:=[.list (ns.map .int)] }=true:=by
      have h4:=(holds_andW hc).1;rw[hn] at h4;exact h4
    have h5:=condW_of h4 (w_not (w_lt w_lit (w_len_list (w_arg rfl))));rw[xaa] at h5;refine Nat.le_of_not_lt fun q=>?_;have q':(n:Int)<((ns.length:Nat):Int):=by omega
    first
      | (rw[decide_eq_true q'] at h5;exact absurd h5 (by decide))
      | (simp at h5;omega)
  cases hwl with
  | cons w1 w2 =>
    cases w2;cases w1 with
    | list ho hall=>exact⟨_,_,ns,rfl,rfl,ho,jd8 ns _ hall,hlen⟩
theorem jiq (l:OpenLaw) (args:List WData):l.row.toRowW.claim.post args (.bool true) args=true :=
 postW_of (r:=l.row.toRowW) (X:=(true==true))
  (show WShape.has [] (.bool true) .bool=true by first | rfl | decide | simp [WShape.has,WShape.arms,WShape.armsAll])
  (show (WTm.eq .res (.lit (.bool true))).value [] { args:=args,res:=some (.bool true),after:=args }=some (.bool (true==true)) from w_eq_bool (w_res rfl) w_lit) rfl
theorem attach_call {l:OpenLaw} {n:Nat} {q:Program} {loose:List Str} {XP:(Str->Option Value)->Heap->Prop} {YP:World->Heap->Prop} {d:DefRec}
  (hn:l.most=some n) (hdf:d.params.defaults=[])
  (call:∀(w:World) (s₀ s₁:Shared) (mg mb:Str->Option Value) (fa:Addr) (o:Obj) (pm cd doc:Value) (a:Addr) (vs:List Value) (ns:List Int),
   Ground q loose [] XP w s₀ mg mb s₁.heap->YP w s₁.heap ->
   s₁.heap.get? fa=some o->o.data=.func (docDef d.name d.params d.body d.scope pm cd doc)->s₁.heap.CodeRec cd d.name->mg d.name=some (.ref fa) ->
   s₁.heap.get? a=some { cls:=.type "list",data:=.seq vs.toArray }->IntsAre vs ns->ns.length<=n->s₁.gens=#[] ->
   codeAny (model l.prog w) callerA (.call (.ref fa) ⟨[.ref a],[]⟩) (fun r s'=>r=.ok (.ret (.bool true))/\OldK s₁.heap s'.heap/\s'.os=s₁.os/\AllBare s'.gens) s₁) :
  WalkO q loose XP YP l.row.toRowW d [] (fun f vs=>PySem.call f vs):=by
 intro w s₀ s₁ mg mb G Y fa o pm cd doc dV kV ho hd hcd hD hmg hg args vals as hpre hlay hrd hwl hlo;obtain rfl:dV=.none:=Dflts.none hD hdf;obtain rfl:kV=.none:=Dflts.noKw hD;obtain⟨a,vs,ns,rfl,rfl,hobj,hints,hlen⟩:=jip hn hpre hwl;refine enter_call (codeAny_mono (call w s₀ s₁ mg mb fa o pm cd doc a vs ns G Y ho (fd_plain hd) hcd hmg hobj hints hlen hg) fun r s' hq=>?_);obtain⟨rfl,h2,h3,h4⟩:=hq;exact⟨.inl ⟨.bool true,.bool true,[],rfl,fun _=>rfl,.bool true,jiq l _,fun _=>⟨List.Pairwise.nil,fun _ hm=>(nomatch hm)⟩⟩,h2,h3,h4⟩
section
variable {prog:Program} {w:World} {A:Around} {E:Value->Shared->Prop} {s:Shared} {K:Frag}
def noObjs (h:Heap):Heap:={ h with objs:=#[] }
theorem noObjs_get (h:Heap) (b:Addr):(noObjs h).get? b=none:=by
 cases e:(noObjs h).get? b with
 | none=>rfl
 | some o=>exact absurd (Heap.lt_size e) (xaK _)
def ledger (h:Heap) (L d:Addr):List (Addr × Obj):=(List.range h.objs.size).filterMap fun a=>if a=L\/a=d then none else (h.get? a).map fun o=>(a,o)
theorem mem_ledger {h:Heap} {L d a:Addr} {o:Obj}:(a,o)∈ledger h L d↔a≠L/\a≠d/\h.get? a=some o:=by
 unfold ledger;rw[xby];constructor
 ·rintro⟨b,_,e⟩;split at e
  ·cases e
  ·rename_i hb
   obtain⟨o',ho,e'⟩:=xaS.mp e;cases e';exact⟨fun q=>hb (.inl q),fun q=>hb (.inr q),ho⟩
 ·rintro⟨n1,n2,ho⟩;refine⟨a,xaF.mpr (Heap.lt_size ho),?_⟩;rw[if_neg (show ¬(a=L\/a=d) from fun q=>q.elim n1 n2),ho]<;>rfl
theorem fr_all {h:Heap} {L:Addr} {m:Str->Option Value} (n:h.Ns L m):Fr (noObjs h) L h m :=
 ⟨n,fun b o e=>(by rw[noObjs_get] at e;cases e),xaO _⟩
end
end Att
namespace L2
open PySem PySem.Spec PyProof.Rows
theorem jfM:∀{vs:List Value} {ns:List Int},IntsAre vs ns->Vals (ns.map V.int) vs
 | _,_,.nil=>.nil
 | _,_,.cons n t h=>.cons ⟨t,rfl⟩ (jfM h)
def Only (H:Hp):Prop:=∀b,H b=none\/∃o xs,H b=some (.frz o (.lst xs))
theorem jkx {P:Program} {w:World} {K:PySem.W.Frag} {mg mb:Str->Option Value} {CX:CXT} {k:Nat} {fa a:Addr} {fd:FuncData} {x:Str} {sp:Sp} {s₁:Shared} {vs:List Value} {ns:List Int}
    (KX:K.In s₁.heap) (hns:s₁.heap.Ns mainGlobals mg) (hb:s₁.heap.Ns builtinsNs mb) (hbb:∀x:Str,x≠"__name__"->mb x=bootBuiltins x) (hlim:s₁.heap.NoLimit) (hg:s₁.gens=#[])
    (ha:s₁.heap.get? a=some { cls:=.type "list",data:=.seq vs.toArray }) (hi:IntsAre vs ns) (hl:ns.length<=sizeLine) (hr:Room k callerA)
    (F:∀base:Heap,K.In base->base.Ns mainGlobals mg->FnOk P w K mg base CX k fa fd [x] sp) (hbind:∀(s:Shared) (u:Value),BindsTo s fd ⟨[u],[]⟩ [(x,u)])
    (hsp:∀H:Hp,Only H->SqL K H a (ns.map V.int)->sp [.ref a] H (fun v _=>v=.bl true) fun _ _ _=>False)
    (hCX:∀H e s',CX [] H s₁ (fun _ _ _=>False) e s'->False) :
    codeAny (model P w) callerA (.call (.ref fa) ⟨[.ref a],[]⟩) (fun r s'=>r=.ok (.ret (.bool true))/\OldK s₁.heap s'.heap/\s'.os=s₁.os/\AllBare s'.gens) s₁:=by
  have rv:=jfM hi;have lenV:=hi.length;have core:∀H:Hp,Only H->SqL K H a (ns.map V.int)->HOk P w H s₁.heap->(∀b,H b≠none->b=a)->(H a≠none->K.lookup a=none) ->
      codeAny (model P w) callerA (.call (.ref fa) ⟨[.ref a],[]⟩) (fun r s'=>r=.ok (.ret (.bool true))/\OldK s₁.heap s'.heap/\s'.os=s₁.os/\AllBare s'.gens) s₁:=by
    intro H hO hS hok hA hK;have base_of:∀{b:Addr} {o:Obj},s₁.heap.get? b=some o->H b=none->(jkl s₁.heap H).get? b=some o:=fun e n=>jkm e n;have noA:∀{b:Addr} {o:Obj} {es:Array DictEntry} {ep:Nat},s₁.heap.get? b=some o->o.data=.dict es ep->H b=none:=fun {b o es ep} e d=>by
      cases q:H b with
      | none=>rfl
      | some u =>
        have e':b=a:=hA b (by rw[q];simp);subst e';rw[ha] at e;cases e;have d':Data.seq vs.toArray _=Data.dict es ep:=d;cases d'
    have nsK:∀{b:Addr} {m:Str->Option Value},s₁.heap.Ns b m->(jkl s₁.heap H).Ns b m:=fun {b m} ⟨o,es,ep,e,d,r⟩=>⟨o,es,ep,base_of e (noA e d),d,r⟩;have hKb:K.In (jkl s₁.heap H):=fun b o e=>base_of (KX b o e) (by
      cases q:H b with
      | none=>rfl
      | some u =>
        have e':b=a:=hA b (by rw[q];simp);subst e';rw[hK (by rw[q];simp)] at e;cases e)
    have hM:Mod K mg (jkl s₁.heap H):=⟨hKb,nsK hns,⟨mb,nsK hb,hbb⟩,let ⟨mc,h1,h2⟩:=hlim;⟨mc,nsK h1,h2⟩⟩;have e0:Env0 P w K mg (jkl s₁.heap H) callerA [] s₁ H:=⟨rfl,hM,fun b o e=>jmC e,Nat.le_of_eq (jh5 _ _),trivial,fun b hb=>absurd (show b∈([]:List Addr) from hb) (by simp),hok,.of_eq hg⟩;refine codeAny_mono ((F _ hKb (nsK hns)).run callerA [] s₁ H ⟨[.ref a],[]⟩ [.ref a] [.ref a] _ _ hr e0 (hbind s₁ (.ref a)) (.cons rfl .nil) (hsp H hO hS)) fun r s' h=>?_;cases r with
    | error e=>exact (hCX H e s' h).elim
    | ok fl =>
      cases fl with
      | next=>exact False.elim h
      | brk=>exact False.elim h
      | cont=>exact False.elim h
      | ret u =>
        obtain⟨v,H',os,bare,un,hok',r',q⟩:=h;have q':v=.bl true:=q;subst q';obtain rfl:u=Value.bool true:=r';refine⟨rfl,OldK.of_keep fun b o e=>?_,os,bare⟩;cases q:H b with
        | none=>exact un.keep b o e q (by intro z;exact absurd (show b∈([]:List Addr) from z) (by simp)) (by simp)
        | some u =>
          rcases hO b with z | ⟨ob,xs,z⟩
          . rw[q] at z;cases z
          . have z2:=un.frzs b ob _ z
            obtain⟨e1,_⟩:=hok b _ z;obtain⟨e2,_⟩:=hok' b _ z2;rw[e] at e1;cases e1;exact e2
  cases hk:K.lookup a with
  | some o =>
    have e:=KX a o hk;rw[ha] at e;cases e;refine core (fun _=>none) (fun _=>.inl rfl) (.inr ⟨_,vs.toArray,_,hk,rfl,rfl,rfl,by rw[xak,lenV];exact hl,by simpa using rv⟩) (fun b u z=>by have z':(none:Option HO)=some u:=z;cases z') (fun b z=>absurd rfl z) fun z=>absurd rfl z
  | none =>
    refine core (fun b=>if b=a then some (.frz { cls:=.type "list",data:=.seq vs.toArray } (.lst (ns.map V.int))) else none) (fun b=>?_) (.inl (.inr ⟨{ cls:=.type "list",data:=.seq vs.toArray },if_pos rfl⟩)) (fun b u z=>?_) (fun b z=>?_) fun _=>hk
    . by_cases hb:b=a
      . exact .inr ⟨_,_,if_pos hb⟩
      . exact .inl (if_neg hb)
    . by_cases hb:b=a
      . have z':=(if_pos hb).symm.trans z
        cases z';subst hb;exact⟨ha,by rw[xaa];exact hl,vs,_,rv,ha⟩
      . have z':=(if_neg hb).symm.trans z
        cases z'
    . by_cases hb:b=a
      . exact hb
      . exact absurd (if_neg hb) z
theorem jmN {l:PySem.W.OpenLaw} {n k:Nat} {q:Program} {loose:List Str} {XP:(Str->Option Value)->Heap->Prop} {YP:World->Heap->Prop} {d:DefRec} {K:Params->PySem.W.Frag} {CX:World->CXT} {sp:World->Sp} {x:Str}
    (hn:l.most=some n) (hn2:n<=sizeLine) (hdf:d.params.defaults=[]) (hr:Room k callerA)
    (hY:∀(w:World) (h:Heap),YP w h->(K w.params).In h)
    (F:∀(w:World) (mg:Str->Option Value) (fa:Addr) (h:Heap),(K w.params).In h->h.Ns mainGlobals mg->mg d.name=some (.ref fa) ->
      ∃ fd : FuncData, (∀ (s : Shared) (u : Value), BindsTo s fd ⟨[u], []⟩ [(x, u)]) /\
        ∀base:Heap,(K w.params).In base->base.Ns mainGlobals mg->FnOk l.prog w (K w.params) mg base (CX w) k fa fd [x] (sp w))
    (hsp:∀(w:World) (H:Hp) (a:Addr) (ns:List Int),ns.length<=n->Only H->SqL (K w.params) H a (ns.map V.int)->sp w [.ref a] H (fun v _=>v=.bl true) fun _ _ _=>False)
    (hCX:∀(w:World) (H:Hp) (s:Shared) (e:Value) (s':Shared),CX w [] H s (fun _ _ _=>False) e s'->False) :
    PySem.W.WalkO q loose XP YP l.row.toRowW d [] (fun f vs=>PySem.call f vs):=by
  refine Att.attach_call hn hdf fun w s₀ s₁ mg mb fa o pm cd doc a vs ns G Y ho hd hcd hmg hobj hints hlen hg=>?_;have KX:=hY w _ Y;obtain⟨fd,hb,hF⟩:=F w mg fa _ KX G.T.g hmg;exact jkx KX G.T.g G.T.b G.T.builtins G.T.nolimit hg hobj hints (xav hlen hn2) hr hF hb (fun H hO hS=>hsp w H a ns hlen hO hS) fun H e s'=>hCX w H s₁ e s'
def jbA (s:Stmt):Arguments:=match s with
 | .FunctionDef _ a _ _ _ _ _ _ _ _=>a
 | _=>{ posonlyargs:=[],args:=[],vararg:=none,kwonlyargs:=[],kw_defaults:=[],kwarg:=none,defaults:=[] }
def jbm (s:Stmt):List Stmt:=match s with
 | .FunctionDef _ _ b _ _ _ _ _ _ _=>b
 | _=>[]
def jah (s:Stmt):Scope:=match s with
 | .FunctionDef _ _ _ _ _ _ sc _ _ _=>sc
 | _=>{ kind:=.function,names:=[],isGenerator:=false,isCoroutine:=false }
abbrev CX0:CXT:=fun _ _ _ _ _ _=>False
abbrev E0:XK:=fun _ _ _=>False
theorem jav {X:Cx}:jgU CX0 X E0:=fun _ _ _ _ _ _ _ h=>h.elim
theorem jir {n:Nat} (h:n<=1000):n<sizeLine:=xbl h (by decide)
section
variable {X:Cx}
theorem pv (i:Nat) {x:Str} {pos:Pos} (hN:X.N[i]?=some x:=by rfl) (hv:Vis X.env.scope x:=by first | exact Or.inl rfl | exact Or.inr (Or.inl rfl) | exact Or.inr (Or.inr rfl)) (hd:(x==("__debug__":Str))=false:=by decide)
  (hcd:(x==("__classdict__":Str))=false:=by decide):PE X (.Name x pos) (jkn i):=jom hN hv hd hcd
end
theorem jbP {c A B:Prop} [Decidable c] (h1:c->A) (h2:¬c->B):if c then A else B:=by
 by_cases h:c
 ·rw[if_pos h];exact h1 h
 ·rw[if_neg h];exact h2 h
def Same (H H':Hp):Prop:=∀b o,H b=some o->H' b=some o
theorem Same.refl (H:Hp):Same H H:=fun _ _ h=>h
theorem Same.trans {H H1 H2:Hp} (a:Same H H1) (b:Same H1 H2):Same H H2:=fun c o h=>b c o (a c o h)
theorem Same.free {H H':Hp} (e:Same H H') {l:Addr} (h:H' l=Option.none):H l=Option.none:=by
  cases q:H l with
  | none=>rfl
  | some o =>
    rw[e l o q] at h;cases h
theorem Same.seq {K:PySem.W.Frag} {H H':Hp} {a:Addr} {xs:List V} (e:Same H H') (h:SqL K H a xs):SqL K H' a xs:=by
 rcases h with (h | ⟨o,h⟩) | h
 ·exact .inl (.inl (e _ _ h))
 ·exact .inl (.inr ⟨o,e _ _ h⟩)
 ·exact .inr h
section
variable {prog:Program} {w:World} {A:Around} {R:Result->Shared->Prop} {s:Shared}
theorem jfN {elt target iter:Expr} {ifs:List Expr} {scope:Scope} {pos:Pos} {it acc:Value} {env:Env} (I:Nat->Shared->Prop)
    (turn:∀n s,I n s->wpAny (model prog w) A (pyNext it) (fun r s₁=>match r with
      | none=>R (.ok .next) s₁
      | some v=>wpAny (model prog w) A (letOwnedTupleGo target it v) (fun _ s₁'=>wpAny (model prog w) A (assign target env v) (fun _ s₂ =>
          wpAny (model prog w) A (forIn ifs true fun c r=>if r=true then do let ok <- isTrue c env (eval c env);pure (ForInStep.yield ok) else pure (ForInStep.yield r)) (fun ok s₃ =>
            if ok=true then wpAny (model prog w) A (eval elt env) (fun x s₄ =>
              wpAny (model prog w) A (call (.builtin "list.append") [acc,x]) (fun _ s₅=>∃m,m<n/\I m s₅) (notedBy (model prog w) A env fun e s'=>R (.error e) s') s₄) (notedBy (model prog w) A env fun e s'=>R (.error e) s') s₃
            else ∃m,m<n/\I m s₃) (notedBy (model prog w) A env fun e s'=>R (.error e) s') s₂) (notedBy (model prog w) A env fun e s'=>R (.error e) s') s₁') (notedBy (model prog w) A env fun e s'=>R (.error e) s') s₁) (notedBy (model prog w) A env fun e s'=>R (.error e) s') s)
    (n:Nat) (h:I n s) :
    codeAny (model prog w) A (.compLoop (.ListComp elt [⟨target,iter,ifs,0⟩] scope pos) 0 it acc env) R s:=by
  refine codeAny_loop rfl I (fun n s hI=>?_) n h;show wpAny _ A ((compTurn (.ListComp elt [⟨target,iter,ifs,0⟩] scope pos) 0 it acc env).onRaise (fun x=>do noteFrame x env;theTreesLotGoes x)) _ _ s;refine wpAny_noted ?_;rw[compTurn_list];refine wpAny_bind (wpAny_standAt (wpAny_bind (wpAny_mono (turn n s hI) (fun r s₁ h₁=>?_) fun _ _ h'=>h')));cases r with
  | none=>exact wpAny_pure h₁
  | some v =>
    refine wpAny_bind (wpAny_mono h₁ (fun _ s₁' h₁'=>?_) fun _ _ h'=>h');refine wpAny_bind (wpAny_mono h₁' (fun _ s₂ h₂=>wpAny_bind (wpAny_mono h₂ (fun ok s₃ h₃=>?_) fun _ _ h'=>h')) fun _ _ h'=>h');cases ok with
    | false=>exact wpAny_pure ⟨rfl,h₃⟩
    | true =>
      exact wpAny_bind (wpAny_bind (wpAny_mono h₃ (fun x s₄ h₄=>wpAny_bind (wpAny_mono h₄ (fun _ s₅ h₅=>wpAny_pure (wpAny_pure ⟨rfl,h₅⟩)) fun _ _ h'=>h')) fun _ _ h'=>h'))
end
theorem jdt {env:Env}:∀(names:List (Str × NameKind)) (cs:List (Str × Addr)),(∀y∈names,y.2=.free->∃c,env.cells.lookup y.1=some c) ->
    (∀y c,cs.lookup y=some c->env.cells.lookup y=some c) ->
    ∃cl:List (Str × Addr),(forIn (m:=Sem) names cs fun x r=>do
        if (x.2==NameKind.free)=true then do
          let a <- cellOf env x.1
          pure (ForInStep.yield ((x.1,a)::r))
        else pure (ForInStep.yield r))=pure cl/\(∀y c,cl.lookup y=some c->env.cells.lookup y=some c) /\
      (∀y,((y,NameKind.free)∈names\/∃c,cs.lookup y=some c)->∃c,cl.lookup y=some c)
  | [],cs,_,hc=>⟨cs,rfl,hc,fun y h=>h.elim (fun z=>nomatch z) id⟩
  | (n, k) :: r, cs, hn, hc => by
    by_cases hk:k=.free
    . subst hk
      obtain⟨c,e⟩:=hn (n,.free) xa0 rfl;have hc':∀y d,((n,c)::cs).lookup y=some d->env.cells.lookup y=some d:=fun y d q=>by
        rw[xaT] at q;cases z:y==n with
        | true =>
          rw[z] at q;have:=beq_iff_eq.mp z;subst this;cases q;exact e
        | false=>rw[z] at q;exact hc y d q
      obtain⟨cl,h1,h2,h3⟩:=jdt r ((n,c)::cs) (fun y hy=>hn y (xat _ hy)) hc';refine⟨cl,?_,h2,fun y hy=>h3 y ?_⟩
      . rw[List.forIn_cons]
        have ec:cellOf env n=pure c:=by unfold cellOf;rw[e]
        show ((if (NameKind.free==NameKind.free)=true then _ else _) >>= _)=_;rw[if_pos (by rfl)];show ((cellOf env n >>= _) >>= _)=_;rw[ec];exact h1
      . rcases hy with hy | ⟨d,hy⟩
        . rcases xaG.mp hy with z | z
          . cases z
            exact .inr ⟨c,by rw[xaT,beq_self_eq_true]⟩
          . exact .inl z
        . refine .inr ?_
          rw[xaT];cases z:y==n with
          | true=>exact⟨c,rfl⟩
          | false=>exact⟨d,hy⟩
    . obtain⟨cl,h1,h2,h3⟩:=jdt r cs (fun y hy=>hn y (xat _ hy)) hc
      refine⟨cl,?_,h2,fun y hy=>h3 y ?_⟩
      . rw[List.forIn_cons]
        have hb:(k==NameKind.free)=false:=by simpa using hk
        show ((if (k==NameKind.free)=true then _ else _) >>= _)=_;rw[if_neg (by rw[hb];decide)];exact h1
      . rcases hy with hy | hy
        . rcases xaG.mp hy with z | z
          . cases z;exact absurd rfl hk
          . exact .inl z
        . exact .inr hy
theorem jdu {env:Env} {scope:Scope} (hn:∀y∈scope.names,y.2=.free->∃c,env.cells.lookup y.1=some c) :
  ∃cl:List (Str × Addr),closureFor scope env=pure cl/\(∀y c,cl.lookup y=some c->env.cells.lookup y=some c)/\(∀y,(y,NameKind.free)∈scope.names->∃c,cl.lookup y=some c):=by
 obtain⟨cl,h1,h2,h3⟩:=jdt (env:=env) scope.names [] hn (fun y c q=>nomatch q);refine⟨cl,?_,h2,fun y hy=>h3 y (.inl hy)⟩;unfold closureFor;show (_ >>= fun cs=>pure cs)=_;have e:∀m:Sem (List (Str × Addr)),(m >>= fun cs=>pure cs)=m:=fun m=>bind_pure m;rw[e];exact h1
inductive Ixs (N:List Str) (sc cs:Scope):List Str->List Nat->Prop
 | nil:Ixs N sc cs [] []
 | cons {y r j q} (h1:N[j]?=some y) (h2:sc.names.lookup y=some .cell\/sc.names.lookup y=some .free) (h3:cs.names.lookup y=some .free) (t:Ixs N sc cs r q):Ixs N sc cs (y::r) (j::q)
structure CompScope (N:List Str) (sc:Scope) (N':List Str) (ix:List Nat) (x:Str) (r:List Str) (cs:Scope):Prop where
 eq:N'=x::r
 kind:cs.kind=.function
 hcell:∀y∈cs.names,y.2≠.cell
 hnames:∀y∈cs.names,y.2=.local->cs.names.lookup y.1=some .local
 hx:cs.names.lookup x=some .local
 nd:(x::r).Nodup
 fr:∀y∈cs.names,y.2=.free->sc.names.lookup y.1=some .cell\/sc.names.lookup y.1=some .free
 ixs:Ixs N sc cs r ix
def jaQ (σ:St) (ix:List Nat):St:=ix.map fun j=>(σ[j]?).getD none
def jlD (X:Cx) (N':List Str) (cs:Scope) (cl:List (Str × Addr)) (s3:Shared) (H3:Hp) (fp:List Addr):Cx :=
 { X with N:=N',s₀:=s3,H₀:=H3,env:=compEnvC cs cl s3.heap.objs.size X.env,outer:=X.stack,stack:=X.stack,ex:=fp,fn:=fun _=>false,pn:=[],xe:=fun _ _=>False }
theorem jdK {env:Env} {cs:Scope} (hcell:∀y∈cs.names,y.2≠.cell) {y:Str} {k:NameKind} (h:(relabel cs env).names.lookup y=some k) (hk:k=.cell\/k=.free):(y,NameKind.free)∈cs.names:=by
 have m:=PySem.mem_of_lookup h;obtain⟨⟨n,k0⟩,h1,h2⟩:=xao.mp m;by_cases c:(k0==NameKind.free&&env.scope.kind==.function&&env.kindOf n==some .cell)=true
 ·have h2':(n,NameKind.cell)=(y,k):=by rw[<- h2];exact (if_pos c).symm
  cases h2';have:k0=.free:=by
   have z:=(xbN.mp (xbN.mp c).1).1;exact beq_iff_eq.mp z
  rw[this] at h1;exact h1
 ·have h2':(n,k0)=(y,k):=by rw[<- h2];exact (if_neg c).symm
  cases h2';rcases hk with rfl | rfl
  ·exact absurd rfl (hcell _ h1)
  ·exact h1
theorem jbn {env:Env}:∀{names:List (Str × NameKind)} {x:Str},names.lookup x=some .free ->
    (names.map fun (n,k)=>if (k==NameKind.free&&env.scope.kind==.function&&env.kindOf n==some .cell) then (n,NameKind.cell) else (n,k)).lookup x=some .cell \/
    (names.map fun (n,k)=>if (k==NameKind.free&&env.scope.kind==.function&&env.kindOf n==some .cell) then (n,NameKind.cell) else (n,k)).lookup x=some .free
  | [],_,h=>by simp at h
  | (n, k) :: r, x, h => by
    have ih:=@jbn env r x;rw[xaH];show List.lookup x ((if (k==NameKind.free&&env.scope.kind==.function&&env.kindOf n==some .cell)=true then (n,NameKind.cell) else (n,k))::_)=_\/List.lookup x ((if (k==NameKind.free&&env.scope.kind==.function&&env.kindOf n==some .cell)=true then (n,NameKind.cell) else (n,k))::_)=_;cases hx:x==n with
    | true =>
      simp only[xaT,hx] at h;cases h;by_cases hc:(NameKind.free==NameKind.free&&env.scope.kind==.function&&env.kindOf n==some .cell)=true
      . rw[if_pos hc];exact .inl (by simp only[xaT,hx])
      . rw[if_neg hc];exact .inr (by simp only[xaT,hx])
    | false =>
      simp only[xaT,hx] at h;by_cases hc:(k==NameKind.free&&env.scope.kind==.function&&env.kindOf n==some .cell)=true
      . rw[if_pos hc];simp only[xaT,hx];exact ih h
      . rw[if_neg hc];simp only[xaT,hx];exact ih h
theorem Ixs.get {N:List Str} {sc cs:Scope}:∀{r:List Str} {ix:List Nat},Ixs N sc cs r ix->∀{i:Nat} {y:Str},r[i]?=some y ->
    ∃j,ix[i]?=some j/\N[j]?=some y/\(sc.names.lookup y=some .cell\/sc.names.lookup y=some .free)/\cs.names.lookup y=some .free
  | _,_,.nil,i,y,h=>by simp at h
  | _,_,.cons h1 h2 h3 t,0,y,h=>by simp at h;subst h;exact⟨_,rfl,h1,h2,h3⟩
  | _, _, .cons h1 h2 h3 t, i + 1, y, h => by
    obtain⟨j,a,b⟩:=Ixs.get t (i:=i) (y:=y) (by simpa using h);exact⟨j,by simpa using a,b⟩
theorem Ixs.len {N:List Str} {sc cs:Scope}:∀{r:List Str} {ix:List Nat},Ixs N sc cs r ix->r.length=ix.length
 | _,_,.nil=>rfl
 | _,_,.cons _ _ _ t=>by rw[xaA,xaA,t.len]
section
variable {X:Cx} {pins:List (Addr × Obj)} {σ:St} {H:Hp} {s:Shared}
theorem Inv.compOk {N' r:List Str} {ix:List Nat} {x:Str} {cs:Scope} {cl:List (Str × Addr)} {fp:List Addr} (I:Inv X pins σ H s) (S:CompScope X.N X.env.scope N' ix x r cs)
  (h2:∀y c,cl.lookup y=some c->X.env.cells.lookup y=some c) (h3:∀y,(y,NameKind.free)∈cs.names->∃c,cl.lookup y=some c) (hf:∀b∈fp,jgQ X pins H b) (hfp:∀b∈fp,b<s.heap.objs.size) :
  (jlD X N' cs cl s H fp).Ok where
 mod:=I.ok.mod
 kind:=S.kind
 glob:=I.ok.glob
 blt:=I.ok.blt
 above:=xag _
 inj:=fun a b c ha hb=>I.ok.inj a b c (h2 a c ha) (h2 b c hb)
 has:=fun y hy=>h3 y (hy.elim (fun z=>jdK S.hcell z (.inl rfl)) fun z=>jdK S.hcell z (.inr rfl))
 cab:=fun _ _ z=>nomatch z
 hd:=I.ok.hd
 frames:=I.ok.frames
 stk:=.inl rfl
 exf:=fun b hb=>⟨xaL (hfp b hb),fun y c e=>(hf b hb).2.2.2.2.1 y c (h2 y c e)⟩
 bs:=I.bs
 bsz:=xav I.ok.bsz I.sz
 noex:=fun b o e hb=>by
  rcases (hf b hb).2.2.2.1 with z | z
  ·exact I.ok.noex b o e z
  ·exact absurd (xap (Heap.lt_size e) (xav I.ok.bsz z)) (xbg _)
 exfs:=fun b hb hs=>by
  rcases xaG.mp (I.stkSub b hs) with z | z
  ·exact (hf b hb).2.1 z
  ·exact (hf b hb).2.2.1 z
 funs:=I.stack
 frf:=I.stkFree
theorem jd9 {σ:St} {ix:List Nat} {i:Nat} {v:V} (h:(jaQ σ ix)[i]?=some (some v)):∃j,ix[i]?=some j/\σ[j]?=some (some v):=by
  unfold jaQ at h;rw[xae] at h;cases e:ix[i]? with
  | none=>rw[e] at h;cases h
  | some j =>
    rw[e] at h;refine⟨j,rfl,?_⟩;cases q:σ[j]? with
    | none =>
      have h':((σ[j]?).getD none)=some v:=by simpa using h
      rw[q] at h';cases h'
    | some o =>
      have h':((σ[j]?).getD none)=some v:=by simpa using h
      rw[q] at h';cases o with
      | none=>cases h'
      | some u=>cases h';rfl
theorem Inv.compStart {N' r:List Str} {ix:List Nat} {x:Str} {cs:Scope} {cl:List (Str × Addr)} {fp:List Addr} {h1:Heap} {tk:Nat} {m:Str->Option Value} (I:Inv X pins σ H s) (S:CompScope X.N X.env.scope N' ix x r cs)
    (h2:∀y c,cl.lookup y=some c->X.env.cells.lookup y=some c) (h3:∀y,(y,NameKind.free)∈cs.names->∃c,cl.lookup y=some c) (hf:∀b∈fp,jgQ X pins H b) (hfp:∀b∈fp,b<s.heap.objs.size)
    (hn:h1.Ns s.heap.objs.size m) (hk:∀b o,s.heap.get? b=some o->h1.get? b=some o) :
    Inv (jlD X N' cs cl s H fp) [] (none::jaQ σ ix) H { s with heap:=h1,toks:=tk }:=by
  have ok:=I.compOk (N':=N') (fp:=fp) S h2 h3 hf hfp;obtain⟨mo,hno,hlo⟩:=id I.loc;refine⟨ok,rfl,I.bare,Un.kept hk,⟨m,hn,fun i y v e1 e2 e3=>?_⟩,fun y c e=>?_,I.hok.fresh (xag _),fun y c e=>I.freeC y c (h2 y c e),fun p hp=>absurd (show p∈([]:List (Addr × Obj)) from hp) (by simp),I.hok.kept hk,?_⟩
  . cases i with
    | zero=>cases e2
    | succ i =>
      have e1':r[i]?=some y:=by
        have:N'[i+1]?=some y:=e1;rw[S.eq] at this;simpa using this
      obtain⟨j,j1,j2,j3,j4⟩:=S.ixs.get e1';obtain⟨j',k1,k2⟩:=jd9 (σ:=σ) (ix:=ix) (i:=i) (v:=v) (by simpa using e2);rw[j1] at k1;cases k1;obtain⟨u,ru,lk⟩:=hlo j y v j2 k2 (j3.elim (fun z=>.inr (.inl z)) fun z=>.inr (.inr z));refine⟨u,ru,?_⟩;obtain⟨c,hc⟩:=h3 y (PySem.mem_of_lookup j4);rcases lk with ⟨k,_⟩ | ⟨k,c',e',z⟩
      . have k':X.env.scope.names.lookup y=some .local:=k
        rcases j3 with q | q<;>(rw[q] at k';cases k')
      . rw[h2 y c hc] at e'
        cases e';refine .inr ⟨?_,c,hc,?_⟩
        . exact jbn (env:=X.env) j4
        . obtain⟨o,ho,hd⟩:=z
          exact⟨o,hk c o ho,hd⟩
  . obtain⟨v,o,ho,hd⟩:=I.cell y c (h2 y c e)
    exact⟨v,o,hk c o ho,hd⟩
  . show (none::jaQ σ ix).length=N'.length
    rw[S.eq,xaA,xaA,S.ixs.len];unfold jaQ;rw[xaa]
def PTs (X:Cx) (ifs:List Expr) (t:TT):Prop :=
  ∀ (E : Value -> Shared -> Prop) (pins : List (Addr × Obj)) (s : Shared) (σ : St) (H : Hp) (Q : Bool -> Hp -> Prop), (∀ e s', X.xe e s' -> E e s') -> Inv X pins σ H s -> t σ H Q ->
    wpAny (model X.prog X.w) X.A (forIn ifs true fun c r=>if r=true then do let ok <- isTrue c X.env (eval c X.env);pure (ForInStep.yield ok) else pure (ForInStep.yield r)) (TP X pins σ Q) E s
def jda:TT:=fun _ H Q=>Q true H
theorem jbd {X:Cx}:PTs X [] jda:=fun _ _ _ _ H _ _ I h=>wpAny_tests_nil ⟨H,I,h⟩
theorem jea {X:Cx} {c:Expr} {t:TT} (h:PT X c t):PTs X [c] t:=fun _ pins s σ H Q hE I q=>wpAny_tests_one (wpAny_mono (h pins s σ H Q I q) (fun _ _ z=>z) hE)
def CompGo (J:It) (ρ:St) (g:TG) (tt:TT) (te:TE) (acc:Addr) (Z:Hp->Prop) (H1:Hp):Prop :=
  ∃ W : Nat -> Nat -> List V -> Hp -> Prop, (∃ m, W 0 m [] (upd H1 acc (.lst []))) /\ ∀ i m xs H, W i m xs H ->
    ((J.stop i H /\ Z H) \/ (J.go i H /\ ∃ (Nx : V -> Hp -> Prop) (Nn : Hp -> Prop), (∀ y H4, Nx y H4 -> H4 acc = some (.lst xs) /\ xs.length < sizeLine /\ ∃ m', m' < m /\ W (i + 1) m' (xs ++ [y]) (upd H4 acc (.lst (xs ++ [y])))) /\
      (∀H3,Nn H3->∃m',m'<m/\W (i+1) m' xs H3)/\∀v0 x H',J.yld i H x H'->g x (v0::ρ) H' fun σ2 H2=>(∃v,σ2=v::ρ)/\tt σ2 H2 fun b H3=>if b=true then te σ2 H3 Nx else Nn H3))
end
section
variable {X:Cx} {N' r:List Str} {ix:List Nat} {x:Str} {cs:Scope} {tg iter elt:Expr} {ifs:List Expr} {pos:Pos} {wi:TI} {g:TG} {tt:TT} {te:TE}
def jfO (wi:TI) (ix:List Nat) (g:TG) (tt:TT) (te:TE):TE:=fun σ H Q=>wi σ H fun J H1=>∀acc,H1 acc=none->CompGo J (jaQ σ ix) g tt te acc (fun H'=>Q (.ref acc) H') H1
theorem CompScope.clos {sc:Scope} {N:List Str} (S:CompScope N sc N' ix x r cs) {env:Env} (he:env.scope=sc) (has:∀y,(env.kindOf y=some .cell\/env.kindOf y=some .free)->∃c,env.cells.lookup y=some c) :
  ∃cl:List (Str × Addr),closureFor cs env=pure cl/\(∀y c,cl.lookup y=some c->env.cells.lookup y=some c)/\(∀y,(y,NameKind.free)∈cs.names->∃c,cl.lookup y=some c) :=
 jdu fun y hy hk=>has y.1 (by
  subst he;exact S.fr y hy hk)
end
section
variable {ρ:St} {g:TG} {tt:TT} {te:TE} {acc:Addr} {Z:Hp->Prop} {H1:Hp}
theorem jcP {lo:Int} {n:Nat} (Pv:Nat->List V->Hp->Prop) (h0:Pv 0 [] (upd H1 acc (.lst [])))
  (hs:∀i xs H,i<n->Pv i xs H->te (some (.int (lo+i))::ρ) H fun y H4=>H4 acc=some (.lst xs)/\xs.length<sizeLine/\Pv (i+1) (xs++[y]) (upd H4 acc (.lst (xs++[y]))))
  (hd:∀xs H,Pv n xs H->Z H):CompGo (Itr lo n) ρ (jbU 0) jda te acc Z H1:=by
 refine⟨fun i m xs H=>Pv i xs H/\i<=n/\m=n-i,⟨n,h0,xaO _,rfl⟩,?_⟩;rintro i m xs H ⟨hp,hi,rfl⟩;by_cases hlt:i<n
 ·refine .inr ⟨hlt,(fun y H4=>H4 acc=some (.lst xs)/\xs.length<sizeLine/\Pv (i+1) (xs++[y]) (upd H4 acc (.lst (xs++[y])))),fun _=>False,fun y H4 q=>⟨q.1,q.2.1,n-(i+1),by omega,q.2.2,hlt,rfl⟩,fun _ z=>z.elim,?_⟩;rintro v0 x H' ⟨rfl,rfl⟩;exact⟨⟨_,rfl⟩,by simp only[jda,if_true];exact hs i xs H' hlt hp⟩
 ·have:i=n:=by omega
  subst this;exact .inl ⟨xag _,hd xs H hp⟩
theorem je3 {K:PySem.W.Frag} {a:Addr} {zs:List V} (Pv:Nat->List V->Hp->Prop) (h0:Pv 0 [] (upd H1 acc (.lst []))) (hl:∀i xs H,i<=zs.length->Pv i xs H->SqT K H a zs)
  (hs:∀i z xs H,zs[i]?=some z->Pv i xs H->te (some z::ρ) H fun y H4=>H4 acc=some (.lst xs)/\xs.length<sizeLine/\Pv (i+1) (xs++[y]) (upd H4 acc (.lst (xs++[y]))))
  (hd:∀xs H,Pv zs.length xs H->Z H):CompGo (Itt K a) ρ (jbU 0) jda te acc Z H1:=by
 refine⟨fun i m xs H=>Pv i xs H/\i<=zs.length/\m=zs.length-i,⟨zs.length,h0,xaO _,rfl⟩,?_⟩;rintro i m xs H ⟨hp,hi,rfl⟩;have sq:=hl i xs H hi hp;by_cases hlt:i<zs.length
 ·refine .inr ⟨⟨zs,zs[i],sq,xac hlt⟩,(fun y H4=>H4 acc=some (.lst xs)/\xs.length<sizeLine/\Pv (i+1) (xs++[y]) (upd H4 acc (.lst (xs++[y])))),fun _=>False,fun y H4 q=>⟨q.1,q.2.1,zs.length-(i+1),by omega,q.2.2,hlt,rfl⟩,fun _ z=>z.elim,?_⟩;rintro v0 x H' ⟨rfl,hx⟩;exact⟨⟨_,rfl⟩,by simp only[jda,if_true];exact hs i x xs H' (hx zs sq) hp⟩
 ·have:i=zs.length:=by omega
  subst this;exact .inl ⟨⟨zs,sq,xag _⟩,hd xs H hp⟩
theorem jis {K:PySem.W.Frag} {a:Addr} {zs:List V} (Pv:Nat->List V->Hp->Prop) (h0:Pv 0 [] (upd H1 acc (.lst []))) (hl:∀i xs H,i<=zs.length->Pv i xs H->SqL K H a zs)
  (hs:∀i z xs H,zs[i]?=some z->Pv i xs H->te (some z::ρ) H fun y H4=>H4 acc=some (.lst xs)/\xs.length<sizeLine/\Pv (i+1) (xs++[y]) (upd H4 acc (.lst (xs++[y]))))
  (hd:∀xs H,Pv zs.length xs H->Z H):CompGo (Itl K a) ρ (jbU 0) jda te acc Z H1:=by
 refine⟨fun i m xs H=>Pv i xs H/\i<=zs.length/\m=zs.length-i,⟨zs.length,h0,xaO _,rfl⟩,?_⟩;rintro i m xs H ⟨hp,hi,rfl⟩;have sq:=hl i xs H hi hp;by_cases hlt:i<zs.length
 ·refine .inr ⟨⟨zs,zs[i],sq,xac hlt⟩,(fun y H4=>H4 acc=some (.lst xs)/\xs.length<sizeLine/\Pv (i+1) (xs++[y]) (upd H4 acc (.lst (xs++[y])))),fun _=>False,fun y H4 q=>⟨q.1,q.2.1,zs.length-(i+1),by omega,q.2.2,hlt,rfl⟩,fun _ z=>z.elim,?_⟩;rintro v0 x H' ⟨rfl,hx⟩;exact⟨⟨_,rfl⟩,by simp only[jda,if_true];exact hs i x xs H' (hx zs sq) hp⟩
 ·have:i=zs.length:=by omega
  subst this;exact .inl ⟨⟨zs,sq,xag _⟩,hd xs H hp⟩
end
end L2
namespace L2
open PySem PySem.Spec PyProof.Rows
section
variable {X:Cx}
theorem jdv {k:Int} {n:Nat} (h:k.natAbs<2^n):Builtin.Int.intBits k<=n:=by
 unfold Builtin.Int.intBits;split
 ·exact xaO _
 ·rename_i h0
  have hk:k.natAbs≠0:=by
   intro z;apply h0;have:k=0:=Int.natAbs_eq_zero.mp z;subst this;rfl
  have:k.natAbs.log2<n:=(Nat.log2_lt hk).mpr h;omega
def Fit (i:Int):Prop:=i.natAbs<2^8000
theorem Fit.mul {i j:Int} (hi:Fit i) (hj:Fit j):IntMulOk i j:=by
 have h1:=jdv hi;have h2:=jdv hj;unfold IntMulOk;intro h;have h3:=(xbN.mp h).2;unfold Builtin.Int.intTooBig at h3;have h4:=of_decide_eq_true h3;have h5:(bitsLine:Int)=134217728:=by decide
 omega
theorem jaA:OpR X (binaryOp .Mult) (rI (fun i j=>Fit i/\Fit j) fun i j=>.int (i*j)):=opI fun _ _ _ _ _ _ _ hc q=>mul_int q (hc.1.mul hc.2)
theorem Fit.log {i:Int} (h:Fit i):i.natAbs.log2<9000:=by
 by_cases h0:i.natAbs=0
 ·rw[h0];decide +kernel
 ·have:=(Nat.log2_lt h0).mpr h;omega
theorem je4:OpR X (binaryOp .FloorDiv) (rI (fun _ j=>0<j/\Fit j) fun i j=>.int (i / j)):=opI fun i j _ _ _ _ _ hc q=>by
 have h1:(0:Int)<j:=hc.1;exact floordiv_int (by omega) (by rw[Int.fdiv_eq_ediv_of_nonneg i (by omega)];exact q) (.inl (PyProof.noPylong_of_log2 hc.2.log))
theorem Fit.of {i:Int} {n:Nat} (h:i.natAbs<2^n) (hn:n<=8000:=by decide):Fit i:=xap h (xbA (by decide) hn)
mutual
inductive Rds (K:PySem.W.Frag) (H:Hp):V->PyData->Prop
 | non:Rds K H .non .none
 | bl (b:Bool):Rds K H (.bl b) (.bool b)
 | int (i:Int):Rds K H (.int i) (.int i)
 | str (x:Str):Rds K H (.str x) (.str x)
 | lst {a:Addr} {xs:List V} {ds:List PyData} (h:SqL K H a xs) (t:RdsAll K H xs ds):Rds K H (.ref a) (.list ds)
 | tup {a:Addr} {xs:List V} {ds:List PyData} (h:SqT K H a xs) (t:RdsAll K H xs ds):Rds K H (.ref a) (.tuple ds)
inductive RdsAll (K:PySem.W.Frag) (H:Hp):List V->List PyData->Prop
 | nil:RdsAll K H [] []
 | cons {v:V} {vs:List V} {d:PyData} {ds:List PyData} (h:Rds K H v d) (t:RdsAll K H vs ds):RdsAll K H (v::vs) (d::ds)
end
mutual
theorem Rds.reads {pins:List (Addr × Obj)} {σ:St} {H:Hp} {s:Shared} (I:Inv X pins σ H s):∀{x:V} {d:PyData} {u:Value},Rds X.K H x d->RelV x u->∃as,Reads s.heap u d as
  | _,_,_,.non,r=>by cases r;exact⟨_,.none⟩
  | _,_,_,.bl b,r=>by cases r;exact⟨_,.bool b⟩
  | _,_,_,.int i,r=>by obtain⟨t,rfl⟩:=r;exact⟨_,.int i t⟩
  | _,_,_,.str x,r=>by obtain⟨t,rfl⟩:=r;exact⟨_,.str x t⟩
  | _, _, _, .lst h t, r => by
    cases r;obtain⟨its,rv,pl,_⟩:=I.list h;obtain⟨o,ho,hc,n,hd⟩:=pl.isList;obtain⟨as,q⟩:=RdsAll.reads I t rv;exact⟨_,.list ho hc hd q⟩
  | _, _, _, .tup h t, r => by
    cases r;obtain⟨its,rv,pl,_⟩:=I.tuple h;obtain⟨o,ho,hc,n,hd⟩:=pl;obtain⟨as,q⟩:=RdsAll.reads I t rv;exact⟨_,.tuple ho hc hd q⟩
theorem RdsAll.reads {pins:List (Addr × Obj)} {σ:St} {H:Hp} {s:Shared} (I:Inv X pins σ H s):∀{xs:List V} {ds:List PyData} {us:List Value},RdsAll X.K H xs ds->Vals xs us->∃as,ReadsAll s.heap us ds as
  | _,_,_,.nil,r=>by cases r;exact⟨_,.nil⟩
  | _, _, _, .cons h t, r => by
    cases r with
    | cons r1 r2 =>
      obtain⟨as,q1⟩:=Rds.reads I h r1;obtain⟨bs,q2⟩:=RdsAll.reads I t r2;exact⟨_,.cons q1 q2⟩
end
theorem RdsAll.ints {K:PySem.W.Frag} {H:Hp}:∀ns:List Int,RdsAll K H (ns.map V.int) (ns.map PyData.int)
 | []=>.nil
 | n::r=>.cons (.int n) (RdsAll.ints r)
def jit (K:PySem.W.Frag) (neg:Bool):R2:=fun x y H Q=>∃dx dy,Rds K H x dx/\Rds K H y dy/\SeqAt.shaped dx=true/\SeqAt.shaped dy=true/\Q (.bl (if neg then !PyData.eqv dx dy else PyData.eqv dx dy)) H
theorem jiu (hu:X.A.units+64<cLine):OpR X (compareOp .Eq) (jit X.K false):=by
 intro pins s σ H x y v u Q I rx ry ⟨dx,dy,hx,hy,sx,sy,q⟩;obtain⟨as,ra⟩:=hx.reads I rx;obtain⟨bs,rb⟩:=hy.reads I ry;exact eq_dataH ra rb sx sy hu ⟨.bl _,H,I,rfl,q⟩
theorem jcm (hu:X.A.units+64<cLine):OpR X (compareOp .NotEq) (jit X.K true):=by
 intro pins s σ H x y v u Q I rx ry ⟨dx,dy,hx,hy,sx,sy,q⟩;obtain⟨as,ra⟩:=hx.reads I rx;obtain⟨bs,rb⟩:=hy.reads I ry;exact ne_dataH ra rb sx sy hu ⟨.bl _,H,I,rfl,q⟩
end
end L2
namespace L2
open PySem PySem.Spec PyProof.Rows
def DictAt (e dx:Addr) (h:Heap):Prop:=∃o,h.get? e=some o/\o.dict=some dx
theorem DictAt.push {e dx:Addr} {h:Heap} {o:Obj} (z:DictAt e dx h):DictAt e dx (h.push o):=by
 obtain⟨x,h1,h2⟩:=z;exact⟨x,Heap.get?_push_of_some _ h1,h2⟩
theorem DictAt.update {e dx a:Addr} {h:Heap} {f:Obj->Obj} (hd:∀o,(f o).dict=o.dict) (hf:∀o,o.isFreed=false->(f o).isFreed=false) (z:DictAt e dx h):DictAt e dx (h.update a f):=by
 obtain⟨x,h1,h2⟩:=z;by_cases c:a=e
 ·subst c;exact⟨f x,Heap.get?_update_self f h1 (hf x (Heap.get?_some_iff.mp h1).2),(hd x).trans h2⟩
 ·exact⟨x,(Heap.get?_update_other _ _ c).trans h1,h2⟩
def XOk (P:Program) (w:World):CXT:=fun outer H s E e s'=>∃(ea C:Addr) (a0:Value) (H':Hp) (B:Heap) (pd:Option Addr),e=.ref ea/\Heap.FlyingW B outer ea (.ref C) a0 s'.heap/\s'.os=s.os/\AllBare s'.gens /\
 Un (frs outer) [] H H' s.heap s'.heap/\HOk P w H' B/\(∀b o,s.heap.get? b=some o->H b=none->b∉frs outer->B.get? b=some o)/\(∀b o,s.heap.get? b=some o->b∉frs outer->∃o',B.get? b=some o')/\(∀dx,pd=some dx->DictAt ea dx s'.heap)/\E (.ref C) pd H'
section
variable {X:Cx} {pins:List (Addr × Obj)} {σ:St} {H:Hp} {s:Shared}
def XP (X:Cx) (pins:List (Addr × Obj)) (σ:St) (E:XK) (ex:Value) (s':Shared):Prop:=∃H1 s1,Inv X pins σ H1 s1/\XOk X.prog X.w X.stack H1 s1 E ex s'
end
section
variable {P:Program} {w:World} {K:PySem.W.Frag} {mg:Str->Option Value} {base:Heap}
structure FunD (K:PySem.W.Frag) (x qual:Str) (st:Stmt) (f:Addr) (fd:FuncData) (dV:Value):Prop where
 ex:∃(oc:Value) (od:Option Addr) (kV doc pm:Value) (an:Option Addr) (cdv ct:Value) (osl:Array (Option Value)),
  fd=PySem.W.fnOf x qual (jbA st) (jbm st) (jah st) dV kV doc pm an cdv ct/\K.lookup f=some ⟨oc,od,.func fd,osl⟩/\PySem.W.codeIn K cdv qual=true
 kp:PySem.W.keepIn K (.ref f)=true
theorem FunD.ok {x qual:Str} {st:Stmt} {f:Addr} {fd:FuncData} {dV:Value} {N ps:List Str} {k:Nat} {sp:Sp} (F:FunD K x qual st f fd dV) (S:FnScope N ps (jah st)) (len:∀vs H Q E,sp vs H Q E->vs.length=ps.length)
  (hbody:∀(cdv:Value) (A:Around) (outer:List Env) (s:Shared) (H:Hp) (vs:List V) (Q:VK) (E:XK),Room k (A.deeper (envOfC qual (jah st) s.heap.objs.size f cdv))->sp vs H Q E ->
   ∃t,PSs (jh2 CX0 P w K mg base N qual (jah st) f cdv A outer s H E).nox (jbm st) t/\t { nx:=fun _ H'=>Q .non H',rt:=Q } (jc9 N vs) H):FnOk P w K mg base CX0 (k+1) f fd ps sp:=by
 obtain⟨oc,od,kV,doc,pm,an,cdv,ct,osl,rfl,lk,hcd⟩:=F.ex;refine fn_of lk hcd S len fun A outer s H vs Q E hr hsp=>?_;obtain⟨t,h,q⟩:=hbody cdv A outer s H vs Q E hr hsp;exact⟨t,h.nox,q⟩
theorem jgq {x qual:Str} {st:Stmt} {f:Addr} {oc dV:Value} {od an:Option Addr} {osl:Array (Option Value)} {kV doc pm cdv ct:Value} (l:K.lookup f=some ⟨oc,od,.func (PySem.W.fnOf x qual (jbA st) (jbm st) (jah st) dV kV doc pm an cdv ct),osl⟩)
  (c:PySem.W.codeIn K cdv qual=true) (k:PySem.W.keepIn K (.ref f)=true):FunD K x qual st f (PySem.W.fnOf x qual (jbA st) (jbm st) (jah st) dV kV doc pm an cdv ct) dV:=⟨⟨oc,od,kV,doc,pm,an,cdv,ct,osl,rfl,l,c⟩,k⟩
end
def At (K:PySem.W.Frag) (mg:Str->Option Value) (x:Str) (st:Stmt) (ps:List Str) (dvs:List V):Prop :=
 ∃f fd dV ds,FunD K x x st f fd dV/\mg x=some (.ref f)/\Binds K fd ps ds/\Vals dvs ds
def jao (P:Program) (w:World) (K:PySem.W.Frag) (mg:Str->Option Value) (base:Heap) (CX:CXT) (k:Nat) (x:Str) (ps:List Str) (dvs:List V) (sp:Sp):Prop :=
 ∃f fd ds,FnOk P w K mg base CX k f fd ps sp/\mg x=some (.ref f)/\PySem.W.keepIn K (.ref f)=true/\Binds K fd ps ds/\Vals dvs ds
section
variable {P:Program} {w:World} {K:PySem.W.Frag} {mg:Str->Option Value} {base:Heap}
theorem At.ok {x:Str} {st:Stmt} {N ps:List Str} {dvs:List V} {k:Nat} {sp:Sp} (F:At K mg x st ps dvs) (S:FnScope N ps (jah st)) (len:∀vs H Q E,sp vs H Q E->vs.length=ps.length)
  (hbody:∀(f:Addr) (cdv:Value) (A:Around) (outer:List Env) (s:Shared) (H:Hp) (vs:List V) (Q:VK) (E:XK),Room k (A.deeper (envOfC x (jah st) s.heap.objs.size f cdv))->sp vs H Q E ->
   ∃t,PSs (jh2 CX0 P w K mg base N x (jah st) f cdv A outer s H E).nox (jbm st) t/\t { nx:=fun _ H'=>Q .non H',rt:=Q } (jc9 N vs) H):jao P w K mg base CX0 (k+1) x ps dvs sp:=by
 obtain⟨f,fd,dV,ds,F1,hm,hb,hd⟩:=F;exact⟨f,fd,ds,F1.ok S len (hbody f),hm,F1.kp,hb,hd⟩
end
section
variable {X:Cx} {CX:CXT} {k:Nat} {ps:List Str} {sp:Sp} {dvs:List V} {E:XK} {x:Str} {p pos:Pos} {e:Expr} {es:List Expr} {t:TA}
theorem jag (D:jao X.prog X.w X.K X.mg X.base CX k x ps dvs sp) (hr:Room k X.A) (hg:Gl X x) (hx:jgU CX X E) (ha:PA X (e::es) t) (hdb:(x==("__debug__":Str))=false:=by decide)
  (he:starEach (e::es) X.env=(false,eval e X.env)::starEach es X.env:=by rfl) (hpl:(backTo pos (starEach es X.env)).any (·.1)=false:=by rfl):PE X (.Call (.Name x p) (e::es) [] pos) (jhJ sp dvs E t):=by
 obtain⟨f,fd,ds,F,hm,hk,hb,hd⟩:=D;exact jmL F hr hg hm hk hb hd hx ha hdb he hpl
theorem ix_lt:IxR X (fun x y H Q=>jlA X.K x y H Q\/jd7 X.K x y H Q):=ix_list.or jam
theorem jmO:MtR X "int.bit_length" (fun x xs H Q=>∃i,x=.int i/\xs=[]/\Q (.int (Builtin.Int.intBits i:Nat)) H):=by
 intro pins s σ H x xs v us Q I rx rv h;obtain⟨i,rfl,rfl,q⟩:=h;obtain⟨t,rfl⟩:=rx;cases rv;refine wpAny_call (codeAny_call_builtin F.slot_int_bit_length.plain F.entry_int_bit_length (F.slot_int_bit_length.check _ _ _ _ _ _ _ _ (typeIs_int s i t) (F.args_int_bit_length_1 _) (AutoIntG2.int_bit_length_int_0 i t _ _ _ (wants _ _) s ?_)));exact⟨.int _,H,I.tok _,⟨_,rfl⟩,q⟩
end
theorem jgi {k:Nat} {A:Around} (hr:Room k A):A.units+64<cLine:=hr.units
theorem Same.tup {K:PySem.W.Frag} {H H':Hp} {a:Addr} {xs:List V} (e:Same H H') (h:SqT K H a xs):SqT K H' a xs:=by
 rcases h with (h | ⟨o,h⟩) | h
 ·exact .inl (.inl (e _ _ h))
 ·exact .inl (.inr ⟨o,e _ _ h⟩)
 ·exact .inr h
theorem Same.new {H:Hp} {p:Addr} (h:H p=none) (o:HO):Same H (upd H p o):=fun b u q=>by rw[jaz (jar q h)];exact q
theorem at_mk {K:PySem.W.Frag} {h:Heap} {mg:Str->Option Value} {x:Str} {st:Stmt} {ps:List Str} {f:Addr} {oc kV doc pm cdv ct:Value} {od an:Option Addr} {osl:Array (Option Value)} (X:K.In h) (G:h.Ns mainGlobals mg)
  (hb:∀(kV doc pm:Value) (an:Option Addr) (cdv ct:Value) (us:List Value),us.length=ps.length->bindArgs (PySem.W.fnOf x x (jbA st) (jbm st) (jah st) .none kV doc pm an cdv ct) ⟨us,[]⟩=pure (ps.zip us))
  (a:PySem.W.nsIn K mainGlobals x=some (some (.ref f))) (l:K.lookup f=some ⟨oc,od,.func (PySem.W.fnOf x x (jbA st) (jbm st) (jah st) .none kV doc pm an cdv ct),osl⟩) (c:PySem.W.codeIn K cdv x=true) (k:PySem.W.keepIn K (.ref f)=true) :
  At K mg x st ps []:=⟨f,_,.none,[],jgq l c k,PySem.W.mg_of X G a,.all (hb kV doc pm an cdv ct),.nil⟩
theorem jlE {K:PySem.W.Frag} {h:Heap} {mg:Str->Option Value} {x:Str} {st:Stmt} {ps:List Str} {f D:Addr} {oc kV doc pm cdv ct:Value} {od an:Option Addr} {osl:Array (Option Value)} {oD:Obj} {items:Array Value} {n:Nat} {dvs:List V} {ds:List Value} (X:K.In h) (G:h.Ns mainGlobals mg)
  (hb:∀(kV doc pm:Value) (an:Option Addr) (cdv ct:Value) (us:List Value),(us++ds).length=ps.length->∃kk,bindArgs (PySem.W.fnOf x x (jbA st) (jbm st) (jah st) (.ref D) kV doc pm an cdv ct) ⟨us,[]⟩=(seqItems? (.ref D) >>= kk)/\kk (some items)=pure (ps.zip (us++ds)))
  (a:PySem.W.nsIn K mainGlobals x=some (some (.ref f))) (l:K.lookup f=some ⟨oc,od,.func (PySem.W.fnOf x x (jbA st) (jbm st) (jah st) (.ref D) kV doc pm an cdv ct),osl⟩) (c:PySem.W.codeIn K cdv x=true) (k:PySem.W.keepIn K (.ref f)=true)
  (lD:K.lookup D=some oD) (hD:oD.data=.seq items n) (hv:Vals dvs ds):At K mg x st ps dvs :=
 ⟨f,_,.ref D,ds,jgq l c k,PySem.W.mg_of X G a,fun s us KX hl=>by
  obtain⟨kk,h1,h2⟩:=hb kV doc pm an cdv ct us hl;exact BindsTo.of_defaults rfl (KX _ _ lD) hD h1 h2,hv⟩
section
variable {X:Cx} {st:Stmt} {jbD:List Stmt} {t u:TS}
def Rest (M:St->Hp->Prop) (u:TS) (D:Ends):Prop:=∀σ' H',M σ' H'->u D σ' H'
def joe (M:St->Hp->Prop) (t u:TS):TS:=fun D σ H=>t { D with nx:=M } σ H/\Rest M u D
theorem jaN (M:St->Hp->Prop) (h1:PS X st t) (h2:PSs X jbD u):PSs X (st::jbD) (joe M t u):=by
  intro pins s σ H D I h;refine wpAny_execs_cons (thn (h1 pins s σ H { D with nx:=M } I h.1) fun f s1 q=>?_);cases f with
  | next =>
    obtain⟨σ',H',I',q⟩:=q;exact h2 pins s1 σ' H' D I' (h.2 σ' H' q)
  | ret v=>exact q
  | brk=>exact q
  | cont=>exact q
end
def Bd (n:Nat) (i:Int):Prop:=i.natAbs<2^n
theorem Bd.mul {n m:Nat} {i j:Int} (hi:Bd n i) (hj:Bd m j):Bd (n+m) (i*j):=by
 unfold Bd at *
 rw[xcx,Nat.pow_add];exact Nat.mul_lt_mul_of_lt_of_le hi (xaQ hj) (Nat.two_pow_pos m)
theorem Bd.mono {n m:Nat} {i:Int} (hi:Bd n i) (h:n<=m:=by decide):Bd m i:=xap hi (xbA (by decide) h)
theorem Bd.add {n:Nat} {i j:Int} (hi:Bd n i) (hj:Bd n j):Bd (n+1) (i+j):=by
 unfold Bd at *
 rw[Nat.pow_succ];have:=Int.natAbs_add_le i j;omega
theorem Bd.sub {n:Nat} {i j:Int} (hi:Bd n i) (hj:Bd n j):Bd (n+1) (i-j):=by
 unfold Bd at *
 rw[Nat.pow_succ];have:=Int.natAbs_sub_le i j;omega
theorem Bd.neg {n:Nat} {i:Int} (hi:Bd n i):Bd n (-i):=by unfold Bd at *;rw[xcy];exact hi
theorem Bd.fit {n:Nat} {i:Int} (hi:Bd n i) (h:n<=8000:=by decide):Fit i:=xap hi (xbA (by decide) h)
theorem Bd.of {i:Int} (h1:-1606938044258990275541962092341162602522202993782792835301376<i) (h2:i<1606938044258990275541962092341162602522202993782792835301376):Bd 200 i:=by
 unfold Bd;have e:(2^200:Nat)=1606938044258990275541962092341162602522202993782792835301376:=by decide
 rw[e];omega
theorem Fit.o {i:Int} (h1:-1606938044258990275541962092341162602522202993782792835301376<i) (h2:i<1606938044258990275541962092341162602522202993782792835301376):Fit i:=(Bd.of h1 h2).fit
def gk {α:Type} (n m:Nat) (us ws:List α):List α:=if us.length=n/\ws.length=m then us++ws else []
def AtK (K:PySem.W.Frag) (mg:Str->Option Value) (x:Str) (st:Stmt) (ps ks:List Str) (n m:Nat):Prop :=
 ∃f fd dV,FunD K x x st f fd dV/\mg x=some (.ref f)/\KBinds K fd ps ks (gk n m) (gk n m)
theorem ja0 {X:Cx} {K:PySem.W.Frag} (h:X.K=K):IxR X (jd7 K):=h▸jam
theorem jgW {X:Cx} {K:PySem.W.Frag} (h:X.K=K):IxR X (jlA K):=h▸ix_list
theorem jfP {X:Cx} (hc:X.calm=true):CallR X (.builtin "max") (fun xs H Q=>∃(a:Addr) (ns:List Int),xs=[.ref a]/\SqL X.K H a (ns.map V.int)/\ns≠[]/\∀m:Int,m∈ns->(∀n∈ns,n<=m)->Q (.int m) H):=by
 intro pins s σ H xs us Q I r h;obtain⟨a,ns,rfl,hq,hne,q⟩:=h;obtain⟨u,rfl,rx⟩:=jfE r;cases rx;obtain⟨its,rv,pl,hz⟩:=I.list hq;have ha:=jds rv;have hall:AllInts its.toArray:=ha.allInts;have hn:numsOf its=ns:=ha.numsOf;obtain⟨ps,e⟩:=hall.items;have hl:s.heap.IsList a (intItems ps):=by rw[<- e];exact pl.isList
 have en:ns=ps.toList.map (·.1):=by
  have z:=nums_intItems ps;rw[<- e] at z;rw[<- hn];exact z
 have hlen:ns.length=ps.size:=by rw[en,xaa,Array.length_toList]
 have hpos:0<ps.size:=by
  rw[<- hlen];exact List.length_pos_iff.mpr hne
 refine max_intList (I.ok.hd hc) hl hpos fun v h' tk hv hk=>?_;obtain⟨t,rfl⟩:=intItems_at hv;obtain⟨b1,b2⟩:=argBest_gt (numAt ps) (ps.size-1);have pick:∀i,i<ps.size->numAt ps i∈ns:=fun i hi=>by
  rw[en];refine xao.mpr ⟨ps[i],by simp,?_⟩;simp [numAt,hi]
 refine⟨.int _,H,I.kept hk,⟨_,rfl⟩,q _ (pick _ (by omega)) fun n hm=>?_⟩;rw[en] at hm;obtain⟨p,hp,rfl⟩:=xao.mp hm;obtain⟨i,hi,rfl⟩:=Array.mem_iff_getElem.mp (Array.mem_toList_iff.mp hp);have z:=b2 i (by omega);have ei:numAt ps i=ps[i].1:=by simp [numAt,hi]
 rw[ei] at z;exact z
end L2
namespace L2
open PySem
theorem ixT {K:PySem.W.Frag} {H:Hp} {r:Addr} {xs:List V} {i:Int} {v:V} {Q:VK} (k:SqT K H r xs) (e:atI xs i=some v) (q:Q v H):jd7 K (.ref r) (.int i) H Q:=⟨r,xs,i,v,rfl,rfl,k,e,q⟩
theorem ixL {K:PySem.W.Frag} {H:Hp} {r:Addr} {xs:List V} {i:Int} {v:V} {Q:VK} (k:SqL K H r xs) (e:atI xs i=some v) (q:Q v H):jlA K (.ref r) (.int i) H Q:=⟨r,xs,i,v,rfl,rfl,k,e,q⟩
def jof (J:It) (g:TG) (tb:TS) (D:Ends) (σ:St) (H1:Hp):Prop:=∃W:Nat->Nat->St->Hp->Prop,(∃m,W 0 m σ H1)/\∀i m σ H,W i m σ H ->
 (J.stop i H/\D.nx σ H)\/(J.go i H/\∃N:St->Hp->Prop,(∀σ' H',N σ' H'->∃m',m'<m/\W (i+1) m' σ' H')/\∀x H',J.yld i H x H'->g x σ H' fun σ2 H2=>tb { D with nx:=N,ct:=N,bk:=D.nx } σ2 H2)
section
variable {K:PySem.W.Frag} {ta:TA} {tl:TE} {g:TG} {tb:TS} {D:Ends} {σ:St} {H:Hp} {ix:List Nat} {tt:TT} {te:TE} {Q:VK}
theorem jiv:jmI (jmG ta) g tb D σ H=ta σ H fun vs H1=>∃j:Int,vs=[.int j]/\-(2^62)<=j/\j<2^62/\jof (Itr 0 j.toNat) g tb D σ H1:=rfl
theorem jiw:jmI (jmH ta) g tb D σ H=ta σ H fun vs H1=>∃i j:Int,vs=[.int i,.int j]/\(-(2^62)<=i/\i<2^62/\-(2^62)<=j/\j<2^62)/\jof (Itr i (j-i).toNat) g tb D σ H1:=rfl
theorem jlF:jmI (jks K tl) g tb D σ H=tl σ H fun x H1=>∃a,x=.ref a/\(∃xs,SqL K H1 a xs)/\jof (Itl K a) g tb D σ H1:=rfl
theorem jlG:jmI (iTup K tl) g tb D σ H=tl σ H fun x H1=>∃a,x=.ref a/\(∃xs,SqT K H1 a xs)/\jof (Itt K a) g tb D σ H1:=rfl
theorem jgX:jfO (jmG ta) ix g tt te σ H Q=ta σ H fun vs H1=>∃j:Int,vs=[.int j]/\-(2^62)<=j/\j<2^62/\∀acc,H1 acc=none->CompGo (Itr 0 j.toNat) (jaQ σ ix) g tt te acc (fun H'=>Q (.ref acc) H') H1:=rfl
theorem jgY:jfO (jmH ta) ix g tt te σ H Q=ta σ H fun vs H1=>∃i j:Int,vs=[.int i,.int j]/\(-(2^62)<=i/\i<2^62/\-(2^62)<=j/\j<2^62)/\∀acc,H1 acc=none->CompGo (Itr i (j-i).toNat) (jaQ σ ix) g tt te acc (fun H'=>Q (.ref acc) H') H1:=rfl
theorem jix:jfO (jks K tl) ix g tt te σ H Q=tl σ H fun x H1=>∃a,x=.ref a/\(∃xs,SqL K H1 a xs)/\∀acc,H1 acc=none->CompGo (Itl K a) (jaQ σ ix) g tt te acc (fun H'=>Q (.ref acc) H') H1:=rfl
theorem jiy:jfO (iTup K tl) ix g tt te σ H Q=tl σ H fun x H1=>∃a,x=.ref a/\(∃xs,SqT K H1 a xs)/\∀acc,H1 acc=none->CompGo (Itt K a) (jaQ σ ix) g tt te acc (fun H'=>Q (.ref acc) H') H1:=rfl
theorem FoR.lst {P:Prop} {a:Addr} {xs:List V} (k:SqL K H a xs) (h:P):(∃xs,SqL K H a xs)/\P:=⟨⟨xs,k⟩,h⟩
theorem FoR.tup {P:Prop} {a:Addr} {xs:List V} (k:SqT K H a xs) (h:P):(∃xs,SqT K H a xs)/\P:=⟨⟨xs,k⟩,h⟩
theorem FoR.len {P:List V->Prop} {a:Addr} {xs:List V} (k:SqL K H a xs) (h:P xs):∃x,(SqL K H a x\/SqT K H a x)/\P x:=⟨xs,.inl k,h⟩
theorem FoR.lenT {P:List V->Prop} {a:Addr} {xs:List V} (k:SqT K H a xs) (h:P xs):∃x,(SqL K H a x\/SqT K H a x)/\P x:=⟨xs,.inr k,h⟩
end
end L2
namespace L2
open PySem PySem.Spec PyProof.Rows
theorem Same.keepN {H H':Hp} {p:Addr} (h:Same H H') (n:H p=none) (o:HO):Same H (upd H' p o):=fun b u q=>by rw[jaz (jar q n)];exact h b u q
theorem Same.noneN {H H':Hp} {p:Addr} (h:Same H H') (n:H' p=none):H p=none:=by
  cases e:H p with
  | none=>rfl
  | some o =>
    have z:=h _ _ e;rw[n] at z;cases z
theorem jaD {n:Nat} (h:n<1000):n<sizeLine:=xap h (by decide)
section
variable {ρ:St} {te:TE} {tt:TT} {acc:Addr} {Z:Hp->Prop} {H1:Hp}
theorem jhN {lo:Int} {n:Nat} (f:Nat->V) (hn:n<1000) (hacc:H1 acc=none)
  (hs:∀(i:Nat) (H3:Hp) (R:V->Hp->Prop),i<n->Same H1 H3->(∀H4,Same H3 H4->R (f i) H4)->te (some (.int (lo+i))::ρ) H3 R)
  (hd:∀H',Same H1 H'->H' acc=some (.lst ((List.range n).map f))->Z H'):CompGo (Itr lo n) ρ (jbU 0) jda te acc Z H1:=by
 refine jcP (fun i xs H=>Same H1 H/\H acc=some (.lst xs)/\xs=(List.range i).map f) ⟨Same.new hacc _,jac,rfl⟩ ?_ ?_
 ·rintro i xs H hi ⟨g1,g2,rfl⟩;refine hs i H _ hi g1 fun H4 s4=>⟨s4 _ _ g2,jaD ?_,Same.keepN (g1.trans s4) hacc _,jac,?_⟩
  ·rw[xaa,xa9];omega
  ·rw[xaU,xaf];rfl
 ·rintro xs H ⟨g1,g2,rfl⟩;exact hd H g1 g2
theorem jmP {lo:Int} {n:Nat} (f:Nat->V) (c:Nat->Bool) (hn:n<1000) (hacc:H1 acc=none)
  (ht:∀(i:Nat) (H3:Hp) (R:Bool->Hp->Prop),i<n->Same H1 H3->(∀H4,Same H3 H4->R (c i) H4)->tt (some (.int (lo+i))::ρ) H3 R)
  (hs:∀(i:Nat) (H3:Hp) (R:V->Hp->Prop),i<n->c i=true->Same H1 H3->(∀H4,Same H3 H4->R (f i) H4)->te (some (.int (lo+i))::ρ) H3 R)
  (hd:∀H',Same H1 H'->H' acc=some (.lst (((List.range n).filter c).map f))->Z H'):CompGo (Itr lo n) ρ (jbU 0) tt te acc Z H1:=by
 refine⟨fun i m xs H=>(Same H1 H/\H acc=some (.lst xs)/\xs=((List.range i).filter c).map f)/\i<=n/\m=n-i,⟨n,⟨Same.new hacc _,jac,rfl⟩,xaO _,rfl⟩,?_⟩;rintro i m xs H ⟨⟨g1,g2,rfl⟩,hi,rfl⟩;have hl:(((List.range i).filter c).map f).length<sizeLine:=jaD (by
  rw[xaa];have:=xbv c (List.range i);rw[xa9] at this;omega)
 by_cases hlt:i<n
 ·refine .inr ⟨hlt,(fun y H4=>y=f i/\c i=true/\Same H1 H4/\H4 acc=some (.lst (((List.range i).filter c).map f))),fun H3=>c i=false/\Same H1 H3/\H3 acc=some (.lst (((List.range i).filter c).map f)),?_,?_,?_⟩
  ·rintro y H4 ⟨rfl,ci,s4,a4⟩;refine⟨a4,hl,n-(i+1),by omega,⟨Same.keepN s4 hacc _,jac,?_⟩,hlt,rfl⟩;rw[xaU,xaq,xaf,xaI,if_pos ci];rfl
  ·rintro H3 ⟨ci,s3,a3⟩;refine⟨n-(i+1),by omega,⟨s3,a3,?_⟩,hlt,rfl⟩;rw[xaU,xaq,xaf,xaI,if_neg (by rw[ci];decide)];simp
  ·rintro v0 x H' ⟨rfl,rfl⟩;refine⟨⟨_,rfl⟩,ht i H' _ hlt g1 fun H4 s4=>?_⟩;cases ci:c i with
   | true=>exact if_pos rfl▸hs i H4 _ hlt ci (g1.trans s4) fun H5 s5=>⟨rfl,rfl,g1.trans (s4.trans s5),s5 _ _ (s4 _ _ g2)⟩
   | false=>exact⟨rfl,g1.trans s4,s4 _ _ g2⟩
 ·have:i=n:=by omega
  subst this;exact .inl ⟨xag _,hd H g1 g2⟩
theorem joD {lo:Int} {n:Nat} (p:Nat->V->Prop) (hn:n<1000) (hacc:H1 acc=none)
  (hs:∀(i:Nat) (H3:Hp) (R:V->Hp->Prop),i<n->Same H1 H3->(∀y H4,Same H3 H4->p i y->R y H4)->te (some (.int (lo+i))::ρ) H3 R)
  (hd:∀ys H',Same H1 H'->H' acc=some (.lst ys)->ys.length=n->(∀i y,ys[i]?=some y->p i y)->Z H'):CompGo (Itr lo n) ρ (jbU 0) jda te acc Z H1:=by
 refine jcP (fun i xs H=>Same H1 H/\H acc=some (.lst xs)/\xs.length=i/\∀j y,xs[j]?=some y->p j y) ⟨Same.new hacc _,jac,rfl,fun j y h=>by simp at h⟩ ?_ ?_
 ·rintro i xs H hi ⟨g1,g2,hl,hp⟩;refine hs i H _ hi g1 fun y H4 s4 py=>⟨s4 _ _ g2,jaD (by omega),Same.keepN (g1.trans s4) hacc _,jac,?_,fun j z hz=>?_⟩
  ·rw[xad,hl];rfl
  ·by_cases cj:j<xs.length
   ·rw[xaD cj] at hz;exact hp j z hz
   ·have cj2:j<(xs++[y]).length:=(xaj.mp hz).1;rw[xad] at cj2;have e:j=i:=by
     have:j<xs.length+1:=cj2;omega
    subst e;rw[xau (by omega),hl,xcs] at hz;cases hz;exact py
 ·rintro xs H ⟨g1,g2,hl,hp⟩;exact hd xs H g1 g2 hl hp
theorem jmQ {K:PySem.W.Frag} {a:Addr} {zs:List V} (f:V->V) (hn:zs.length<1000) (hacc:H1 acc=none) (hz:SqT K H1 a zs)
  (hs:∀(z:V) (H3:Hp) (R:V->Hp->Prop),z∈zs->Same H1 H3->(∀H4,Same H3 H4->R (f z) H4)->te (some z::ρ) H3 R)
  (hd:∀H',Same H1 H'->H' acc=some (.lst (zs.map f))->Z H'):CompGo (Itt K a) ρ (jbU 0) jda te acc Z H1:=by
 refine je3 (zs:=zs) (fun i xs H=>Same H1 H/\H acc=some (.lst xs)/\xs=(zs.take i).map f) ⟨Same.new hacc _,jac,rfl⟩ (fun i xs H _ h=>h.1.tup hz) ?_ ?_
 ·rintro i z xs H hi ⟨g1,g2,rfl⟩;refine hs z H _ (xaC hi) g1 fun H4 s4=>⟨s4 _ _ g2,jaD ?_,Same.keepN (g1.trans s4) hacc _,jac,?_⟩
  ·rw[xaa,xah];omega
  ·rw[xaZ,hi,xaf];rfl
 ·rintro xs H ⟨g1,g2,rfl⟩;rw[xa4] at g2;exact hd H g1 g2
theorem compL {K:PySem.W.Frag} {a:Addr} {zs:List V} (f:V->V) (hn:zs.length<1000) (hacc:H1 acc=none) (hz:SqL K H1 a zs)
  (hs:∀(z:V) (H3:Hp) (R:V->Hp->Prop),z∈zs->Same H1 H3->(∀H4,Same H3 H4->R (f z) H4)->te (some z::ρ) H3 R)
  (hd:∀H',Same H1 H'->H' acc=some (.lst (zs.map f))->Z H'):CompGo (Itl K a) ρ (jbU 0) jda te acc Z H1:=by
 refine jis (zs:=zs) (fun i xs H=>Same H1 H/\H acc=some (.lst xs)/\xs=(zs.take i).map f) ⟨Same.new hacc _,jac,rfl⟩ (fun i xs H _ h=>h.1.seq hz) ?_ ?_
 ·rintro i z xs H hi ⟨g1,g2,rfl⟩;refine hs z H _ (xaC hi) g1 fun H4 s4=>⟨s4 _ _ g2,jaD ?_,Same.keepN (g1.trans s4) hacc _,jac,?_⟩
  ·rw[xaa,xah];omega
  ·rw[xaZ,hi,xaf];rfl
 ·rintro xs H ⟨g1,g2,rfl⟩;rw[xa4] at g2;exact hd H g1 g2
end
section
variable {K:PySem.W.Frag} {H:Hp} {a b:Addr} {Q:VK}
theorem jiz (ns:List Int):SeqAt.shaped (.tuple (ns.map PyData.int))=true:=by
 simp [SeqAt.shaped,PyData.canLay0,PyData.depth,PySem.W.ke_canLayAll0,PySem.W.ke_depthAll]
theorem jky {x y:List Int} (h1:SqT K H a (x.map V.int)) (h2:SqT K H b (y.map V.int)) (q:Q (.bl (decide (x=y))) H):jit K false (.ref a) (.ref b) H Q :=
 ⟨.tuple (x.map PyData.int),.tuple (y.map PyData.int),.tup h1 (RdsAll.ints _),.tup h2 (RdsAll.ints _),jiz _,jiz _,by
  have e:PyData.eqv (.tuple (x.map PyData.int)) (.tuple (y.map PyData.int))=decide (x=y):=PySem.W.ked_eqvAll x y;simp only[Bool.false_eq_true,if_false,e];exact q⟩
theorem jkz {x y:List Int} (h1:SqL K H a (x.map V.int)) (h2:SqL K H b (y.map V.int)) (q:Q (.bl (!decide (x=y))) H):jit K true (.ref a) (.ref b) H Q :=
 ⟨.list (x.map PyData.int),.list (y.map PyData.int),.lst h1 (RdsAll.ints _),.lst h2 (RdsAll.ints _),PySem.W.ke_shaped_ints _,PySem.W.ke_shaped_ints _,by
  have e:PyData.eqv (.list (x.map PyData.int)) (.list (y.map PyData.int))=decide (x=y):=PySem.W.ked_eqvAll x y;simp only[if_true,e];exact q⟩
def jeF (nss:List (List Int)):List PyData:=nss.map fun ns=>.tuple (ns.map PyData.int)
theorem jgZ:∀nss:List (List Int),PyData.canLayAll0 (jeF nss)=true/\PyData.depthAll (jeF nss)<=1
  | []=>⟨rfl,by decide⟩
  | ns :: r => by
    obtain⟨h1,h2⟩:=jgZ r;have h1':PyData.canLayAll0 (r.map fun ns=>PyData.tuple (ns.map PyData.int))=true:=h1;have h2':PyData.depthAll (r.map fun ns=>PyData.tuple (ns.map PyData.int))<=1:=h2;constructor
    . simp [jeF,PyData.canLayAll0,PyData.canLay0,PySem.W.ke_canLayAll0,h1']
    . simp only[jeF,xaH,PyData.depthAll,PyData.depth,PySem.W.ke_depthAll]
      omega
theorem jdX:∀x y:List (List Int),PyData.eqvAll (jeF x) (jeF y)=decide (x=y)
  | [],[]=>by simp [jeF,PyData.eqvAll]
  | [],_::_=>by simp [jeF,PyData.eqvAll]
  | _::_,[]=>by simp [jeF,PyData.eqvAll]
  | a :: r, b :: t => by
    have ih:=jdX r t;have e:PyData.eqv (.tuple (a.map PyData.int)) (.tuple (b.map PyData.int))=decide (a=b):=PySem.W.ked_eqvAll a b;show (PyData.eqv (.tuple (a.map PyData.int)) (.tuple (b.map PyData.int))&&PyData.eqvAll (jeF r) (jeF t))=_;rw[ih,e];by_cases h:a=b<;>by_cases h':r=t<;>simp [h,h']
theorem FoR.app {X:Prop} {L:Addr} {ps:List V} {x:V} {R:VK} (h:H L=some (.lst ps)) (hl:ps.length<sizeLine) (q:R .non (upd H L (.lst (ps++[x])))):((∃xs,SqL K H L xs)\/X)/\jgp (.ref L) [x] H R :=
 ⟨.inl ⟨_,SqL.of h⟩,L,ps,x,rfl,rfl,h,hl,q⟩
end
theorem jkA {X:Cx} (hc:X.calm=true):CallR X (.builtin "sum") (fun xs H Q=>∃(a:Addr) (ns:List Int),xs=[.ref a]/\SqL X.K H a (ns.map V.int)/\Q (.int ns.sum) H):=by
 intro pins s σ H xs us Q I r h;obtain⟨a,ns,rfl,hq,q⟩:=h;obtain⟨u,rfl,rx⟩:=jfE r;cases rx;obtain⟨its,rv,pl,hz⟩:=I.list hq;have ha:=jds rv;have hall:AllInts its.toArray:=ha.allInts;have hn:numsOf its=ns:=ha.numsOf;obtain⟨ps,e⟩:=hall.items;have hl:s.heap.IsList a (intItems ps):=by rw[<- e];exact pl.isList
 have en:ns=ps.toList.map (·.1):=by
  have z:=nums_intItems ps;rw[<- e] at z;rw[<- hn];exact z
 refine sum_intListG (I.ok.hd hc) hl fun h' tk t' hk=>?_;have es:preSum (numAt ps) ps.size=ns.sum:=by
  rw[preSum_eq,xaX (by simp),en]
 rw[es];exact⟨.int _,H,I.kept hk,⟨_,rfl⟩,q⟩
theorem jfQ {X:Cx} (hc:X.calm=true):CallR X (.builtin "min") (fun xs H Q=>∃(a:Addr) (ns:List Int),xs=[.ref a]/\SqL X.K H a (ns.map V.int)/\ns≠[]/\∀m:Int,m∈ns->(∀n∈ns,m<=n)->Q (.int m) H):=by
 intro pins s σ H xs us Q I r h;obtain⟨a,ns,rfl,hq,hne,q⟩:=h;obtain⟨u,rfl,rx⟩:=jfE r;cases rx;obtain⟨its,rv,pl,hz⟩:=I.list hq;have ha:=jds rv;have hall:AllInts its.toArray:=ha.allInts;have hn:numsOf its=ns:=ha.numsOf;obtain⟨ps,e⟩:=hall.items;have hl:s.heap.IsList a (intItems ps):=by rw[<- e];exact pl.isList
 have en:ns=ps.toList.map (·.1):=by
  have z:=nums_intItems ps;rw[<- e] at z;rw[<- hn];exact z
 have hlen:ns.length=ps.size:=by rw[en,xaa,Array.length_toList]
 have hpos:0<ps.size:=by
  rw[<- hlen];exact List.length_pos_iff.mpr hne
 refine min_intList (I.ok.hd hc) hl hpos fun v h' tk hv hk=>?_;obtain⟨t,rfl⟩:=intItems_at hv;obtain⟨b1,b2⟩:=argBest_lt (numAt ps) (ps.size-1);have pick:∀i,i<ps.size->numAt ps i∈ns:=fun i hi=>by
  rw[en];refine xao.mpr ⟨ps[i],by simp,?_⟩;simp [numAt,hi]
 refine⟨.int _,H,I.kept hk,⟨_,rfl⟩,q _ (pick _ (by omega)) fun n hm=>?_⟩;rw[en] at hm;obtain⟨p,hp,rfl⟩:=xao.mp hm;obtain⟨i,hi,rfl⟩:=Array.mem_iff_getElem.mp (Array.mem_toList_iff.mp hp);have z:=b2 i (by omega);have ei:numAt ps i=ps[i].1:=by simp [numAt,hi]
 rw[ei] at z;exact z
theorem FoR.tupOf {K:PySem.W.Frag} {H:Hp} {p:Addr} {ys:List V} {X:Prop} {R:Addr->Hp->Prop} (k:SqL K H p ys) (h:∀t H',Same H H'->H' t=some (.tup ys)->R t H'):∃ys,(SqL K H p ys/\∀l,H l=none->R l (upd H l (.tup ys)))\/(SqT K H p ys/\R p H) :=
 ⟨ys,.inl ⟨k,fun l hl=>h l _ (Same.new hl _) jac⟩⟩
theorem jaE {es:List Expr} {k:Nat} {jbD:List Expr} {pos:Pos} {env:Env}:starEach (.Tuple es k pos::jbD) env=(false,eval (.Tuple es k pos) env)::starEach jbD env:=by
 rw[starEach];intro e p h;cases h
theorem jaj {c:Const} {k:Nat} {jbD:List Expr} {pos:Pos} {env:Env}:starEach (.Constant c k pos::jbD) env=(false,eval (.Constant c k pos) env)::starEach jbD env:=by
 rw[starEach];intro e p h;cases h
theorem jhO {op:UnaryOp} {a:Expr} {jbD:List Expr} {pos:Pos} {env:Env}:starEach (.UnaryOp op a pos::jbD) env=(false,eval (.UnaryOp op a pos) env)::starEach jbD env:=by
 rw[starEach];intro e p h;cases h
theorem jae {x:Str} {jbD:List Expr} {pos:Pos} {env:Env}:starEach (.Name x pos::jbD) env=(false,eval (.Name x pos) env)::starEach jbD env:=by
 rw[starEach];intro e p h;cases h
theorem jaF {a:Expr} {es:List Expr} {ks:List Keyword} {jbD:List Expr} {pos:Pos} {env:Env}:starEach (.Call a es ks pos::jbD) env=(false,eval (.Call a es ks pos) env)::starEach jbD env:=by
 rw[starEach];intro e p h;cases h
theorem ja7 {a b:Expr} {op:Operator} {jbD:List Expr} {pos:Pos} {env:Env}:starEach (.BinOp a op b pos::jbD) env=(false,eval (.BinOp a op b pos) env)::starEach jbD env:=by
 rw[starEach];intro e p h;cases h
theorem jap {a b:Expr} {jbD:List Expr} {pos:Pos} {env:Env}:starEach (.Subscript a b pos::jbD) env=(false,eval (.Subscript a b pos) env)::starEach jbD env:=by
 rw[starEach];intro e p h;cases h
theorem jbS {es:List Expr} {jbD:List Expr} {pos:Pos} {env:Env}:starEach (.List es pos::jbD) env=(false,eval (.List es pos) env)::starEach jbD env:=by
 rw[starEach];intro e p h;cases h
theorem jcS {a:Expr} {gs:List Comprehension} {sc:Scope} {jbD:List Expr} {pos:Pos} {env:Env}:starEach (.ListComp a gs sc pos::jbD) env=(false,eval (.ListComp a gs sc pos) env)::starEach jbD env:=by
 rw[starEach];intro e p h;cases h
structure WE (X:Cx) (e:Expr) (t:TE):Prop where
 h:PE X e t
structure WA (X:Cx) (es:List Expr) (t:TA):Prop where
 h:PA X es t
structure WS (X:Cx) (st:Stmt) (t:TS):Prop where
 h:PS X st t
structure WSs (X:Cx) (st:List Stmt) (t:TS):Prop where
 h:PSs X st t
section
variable {X:Cx} {pos:Pos}
theorem jkB {st:Stmt} {jbD:List Stmt} {t u:TS} (h1:WS X st t) (h2:WSs X jbD u):WSs X (st::jbD) (joa t u):=⟨jaf h1.h h2.h⟩
theorem jc1 {st:Stmt} {jbD:List Stmt} {t u:TS} (M:St->Hp->Prop) (h1:WS X st t) (h2:WSs X jbD u):WSs X (st::jbD) (joe M t u):=⟨jaN M h1.h h2.h⟩
theorem jfR {tg e:Expr} {te:TE} {g:TG} (he:WE X e te) (hg:PG X tg g) (hs:swapsWithSole [tg] e pos.line X.env=pure false:=by rfl) (hw:swappedStores [tg] e X.env=pure none:=by rfl)
  (h1:(assignEach [tg] X.env).map (·.2)=[assign tg X.env]:=by rfl):WS X (.Assign [tg] e pos) (jlv te g):=⟨jbQ he.h hg hs hw h1⟩
theorem joE {r:R2} {a b:Expr} {ta tb:TE} (hr:IxR X r) (ha:WE X a ta) (hb:PE X b tb) (hs:jin b):WE X (.Subscript a b pos) (tOp r ta tb):=⟨jak hr ha.h hb hs⟩
theorem jcr {es:List Expr} {t:TA} (h:WA X es t):WE X (.List es pos) (jly t):=⟨jaM h.h⟩
theorem ja3 {es:List Expr} {k:Nat} {t:TA} (h:WA X es t):WE X (.Tuple es k pos) (jmK t):=⟨jaB h.h⟩
theorem jaP:WA X [] jkt:=⟨jad⟩
theorem jal {e:Expr} {es:List Expr} {te:TE} {t:TA} (ha:WE X e te) (hr:WA X es t) (hs:starEach (e::es) X.env=(false,eval e X.env)::starEach es X.env):WA X (e::es) (jez te t):=⟨jaa ha.h hr.h hs⟩
end
section
variable {P:Program} {w:World} {K:PySem.W.Frag} {mg:Str->Option Value} {base:Heap}
theorem At.okW {x:Str} {st:Stmt} {N ps:List Str} {dvs:List V} {k:Nat} {sp:Sp} (F:At K mg x st ps dvs) (S:FnScope N ps (jah st)) (len:∀vs H Q E,sp vs H Q E->vs.length=ps.length)
  (hbody:∀(f:Addr) (cdv:Value) (A:Around) (outer:List Env) (s:Shared) (H:Hp) (vs:List V) (Q:VK) (E:XK),Room k (A.deeper (envOfC x (jah st) s.heap.objs.size f cdv))->sp vs H Q E ->
   ∃t,WSs (jh2 CX0 P w K mg base N x (jah st) f cdv A outer s H E).nox (jbm st) t/\t { nx:=fun _ H'=>Q .non H',rt:=Q } (jc9 N vs) H):jao P w K mg base CX0 (k+1) x ps dvs sp :=
 F.ok S len fun f cdv A outer s H vs Q E hr h=>let ⟨t,h1,h2⟩:=hbody f cdv A outer s H vs Q E hr h;⟨t,h1.h,h2⟩
end
section
variable {X:Cx}
theorem jkC:OpR X (binaryOp .FloorDiv) (rI (fun _ j=>j≠0/\Fit j) fun i j=>.int (i.fdiv j)):=opI fun i j _ _ _ _ _ hc q=>by
 exact floordiv_int hc.1 q (.inl (PyProof.noPylong_of_log2 hc.2.log))
theorem jmR {K:PySem.W.Frag} (h:X.K=K) (hu:X.A.units+64<cLine):OpR X (compareOp .NotEq) (jit K true):=h▸jcm hu
end
section
variable {ρ:St} {te:TE} {tt:TT} {acc:Addr} {Z:Hp->Prop} {H1:Hp}
def SameT (H H':Hp):Prop:=∀a xs,H a=some (.tup xs)->H' a=some (.tup xs)
theorem Same.t {H H':Hp} (s:Same H H'):SameT H H':=fun a xs h=>s a _ h
theorem SameT.trans {H H' J:Hp} (s:SameT H H') (t:SameT H' J):SameT H J:=fun a xs h=>t a xs (s a xs h)
theorem SameT.refl (H:Hp):SameT H H:=fun _ _ h=>h
theorem SameT.upd {H:Hp} {a:Addr} {xs ys:List V} (h:H a=some (.lst xs)):SameT H (upd H a (.lst ys)):=fun b zs hb=>by
 have ne:b≠a:=fun e=>by
  subst e;rw[h] at hb;cases hb
 rw[jaz ne];exact hb
def Stab (p:Nat->V->Hp->Prop):Prop:=∀i y H H',p i y H->SameT H H'->p i y H'
theorem joF {p:Nat->V->Hp->Prop} {xs:List V} {y:V} {i:Nat} {H:Hp} (hl:xs.length=i) (hp:∀j z,xs[j]?=some z->p j z H) (py:p i y H):∀j z,(xs++[y])[j]?=some z->p j z H:=fun j z hz=>by
 by_cases cj:j<xs.length
 ·rw[xaD cj] at hz;exact hp j z hz
 ·have cj2:j<(xs++[y]).length:=(xaj.mp hz).1;rw[xad] at cj2;have e:j=i:=by
   have:j<xs.length+1:=cj2;omega
  subst e;rw[xau (by omega),hl,xcs] at hz;cases hz;exact py
theorem jlH {lo:Int} {n:Nat} (p:Nat->V->Hp->Prop) (st:Stab p) (hn:n<1000) (hacc:H1 acc=none)
  (hs:∀(i:Nat) (H3:Hp) (R:V->Hp->Prop),i<n->Same H1 H3->(∀y H4,Same H3 H4->p i y H4->R y H4)->te (some (.int (lo+i))::ρ) H3 R)
  (hd:∀ys H',Same H1 H'->H' acc=some (.lst ys)->ys.length=n->(∀i y,ys[i]?=some y->p i y H')->Z H'):CompGo (Itr lo n) ρ (jbU 0) jda te acc Z H1:=by
 refine jcP (fun i xs H=>Same H1 H/\H acc=some (.lst xs)/\xs.length=i/\∀j y,xs[j]?=some y->p j y H) ⟨Same.new hacc _,jac,rfl,fun j y h=>by simp at h⟩ ?_ ?_
 ·rintro i xs H hi ⟨g1,g2,hl,hp⟩;refine hs i H _ hi g1 fun y H4 s4 py=>⟨s4 _ _ g2,jaD (by omega),Same.keepN (g1.trans s4) hacc _,jac,?_,?_⟩
  ·rw[xad,hl];rfl
  ·have u:=SameT.upd (ys:=xs++[y]) (s4 _ _ g2);exact joF hl (fun j z hz=>st _ _ _ _ (hp j z hz) (s4.t.trans u)) (st _ _ _ _ py u)
 ·rintro xs H ⟨g1,g2,hl,hp⟩;exact hd xs H g1 g2 hl hp
theorem joG {K:PySem.W.Frag} {a:Addr} {zs:List V} (p:Nat->V->Hp->Prop) (st:Stab p) (hn:zs.length<1000) (hacc:H1 acc=none) (hz:SqT K H1 a zs)
  (hs:∀(i:Nat) (z:V) (H3:Hp) (R:V->Hp->Prop),zs[i]?=some z->Same H1 H3->(∀y H4,Same H3 H4->p i y H4->R y H4)->te (some z::ρ) H3 R)
  (hd:∀ys H',Same H1 H'->H' acc=some (.lst ys)->ys.length=zs.length->(∀i y,ys[i]?=some y->p i y H')->Z H'):CompGo (Itt K a) ρ (jbU 0) jda te acc Z H1:=by
 refine je3 (zs:=zs) (fun i xs H=>Same H1 H/\H acc=some (.lst xs)/\xs.length=i/\∀j y,xs[j]?=some y->p j y H) ⟨Same.new hacc _,jac,rfl,fun j y h=>by simp at h⟩ (fun i xs H _ h=>h.1.tup hz) ?_ ?_
 ·rintro i z xs H hi ⟨g1,g2,hl,hp⟩;have hlt:=(xaj.mp hi).1;refine hs i z H _ hi g1 fun y H4 s4 py=>⟨s4 _ _ g2,jaD (by omega),Same.keepN (g1.trans s4) hacc _,jac,?_,?_⟩
  ·rw[xad,hl];rfl
  ·have u:=SameT.upd (ys:=xs++[y]) (s4 _ _ g2);exact joF hl (fun j z hz=>st _ _ _ _ (hp j z hz) (s4.t.trans u)) (st _ _ _ _ py u)
 ·rintro xs H ⟨g1,g2,hl,hp⟩;exact hd xs H g1 g2 hl hp
theorem jmS {K:PySem.W.Frag} {a:Addr} {zs:List V} (f:Nat->V) (c:Nat->Bool) (hn:zs.length<1000) (hacc:H1 acc=none) (hz:SqL K H1 a zs)
  (ht:∀(i:Nat) (z:V) (H3:Hp) (R:Bool->Hp->Prop),zs[i]?=some z->Same H1 H3->(∀H4,Same H3 H4->R (c i) H4)->tt (some z::ρ) H3 R)
  (hs:∀(i:Nat) (z:V) (H3:Hp) (R:V->Hp->Prop),zs[i]?=some z->c i=true->Same H1 H3->(∀H4,Same H3 H4->R (f i) H4)->te (some z::ρ) H3 R)
  (hd:∀H',Same H1 H'->H' acc=some (.lst (((List.range zs.length).filter c).map f))->Z H'):CompGo (Itl K a) ρ (jbU 0) tt te acc Z H1:=by
 refine⟨fun i m xs H=>(Same H1 H/\H acc=some (.lst xs)/\xs=((List.range i).filter c).map f)/\i<=zs.length/\m=zs.length-i,⟨zs.length,⟨Same.new hacc _,jac,rfl⟩,xaO _,rfl⟩,?_⟩;rintro i m xs H ⟨⟨g1,g2,rfl⟩,hi,rfl⟩;have sq:=g1.seq hz;have hl:(((List.range i).filter c).map f).length<sizeLine:=jaD (by
  rw[xaa];have:=xbv c (List.range i);rw[xa9] at this;omega)
 by_cases hlt:i<zs.length
 ·have ez:zs[i]?=some zs[i]:=xac hlt;refine .inr ⟨⟨zs,zs[i],sq,ez⟩,(fun y H4=>y=f i/\c i=true/\Same H1 H4/\H4 acc=some (.lst (((List.range i).filter c).map f))),fun H3=>c i=false/\Same H1 H3/\H3 acc=some (.lst (((List.range i).filter c).map f)),?_,?_,?_⟩
  ·rintro y H4 ⟨rfl,ci,s4,a4⟩;refine⟨a4,hl,zs.length-(i+1),by omega,⟨Same.keepN s4 hacc _,jac,?_⟩,hlt,rfl⟩;rw[xaU,xaq,xaf,xaI,if_pos ci];rfl
  ·rintro H3 ⟨ci,s3,a3⟩;refine⟨zs.length-(i+1),by omega,⟨s3,a3,?_⟩,hlt,rfl⟩;rw[xaU,xaq,xaf,xaI,if_neg (by rw[ci];decide)];simp
  ·rintro v0 x H' ⟨rfl,hx⟩;have ex:x=zs[i]:=by
    have z:=hx zs sq;rw[ez] at z;exact (Option.some.inj z).symm
   subst ex;refine⟨⟨_,rfl⟩,ht i _ H' _ ez g1 fun H4 s4=>?_⟩;cases ci:c i with
   | true=>exact if_pos rfl▸hs i _ H4 _ ez ci (g1.trans s4) fun H5 s5=>⟨rfl,rfl,g1.trans (s4.trans s5),s5 _ _ (s4 _ _ g2)⟩
   | false=>exact⟨rfl,g1.trans s4,s4 _ _ g2⟩
 ·have:i=zs.length:=by omega
  subst this;exact .inl ⟨⟨zs,sq,xag _⟩,hd H g1 g2⟩
end
section
variable {X:Cx} {tg:Expr}
def Asc (x:Str):Prop:=(x.cps.all fun c=>decide (c<128))=true
def Its (x:Str):It:=⟨fun i _=>i<x.cps.size,fun i H v H'=>H'=H/\∃c,x.cps[i]?=some c/\v=.str ⟨#[c]⟩,fun i _=>x.cps.size<=i⟩
def iStr (tl:TE):TI:=fun σ H R=>tl σ H fun v H1=>∃x,v=.str x/\Asc x/\R (Its x) H1
theorem jdb:OpR X (compareOp .IsNot) (fun x y H Q=>∃c d,x=.bl c/\y=.bl d/\Q (.bl (c != d)) H):=by
 intro pins s σ H x y v u Q I rx ry h;obtain⟨c,d,rfl,rfl,q⟩:=h;cases rx;cases ry;exact isnot_bool (jaS I q rfl)
end
section
variable {tl:TE} {g:TG} {tb:TS} {D:Ends} {σ:St} {H:Hp} {ix:List Nat} {tt:TT} {te:TE} {Q:VK}
theorem jlI:jmI (iStr tl) g tb D σ H=tl σ H fun v H1=>∃x,v=.str x/\Asc x/\jof (Its x) g tb D σ H1:=rfl
theorem jiA:jfO (iStr tl) ix g tt te σ H Q=tl σ H fun v H1=>∃x,v=.str x/\Asc x/\∀acc,H1 acc=none->CompGo (Its x) (jaQ σ ix) g tt te acc (fun H'=>Q (.ref acc) H') H1:=rfl
end
theorem jmT:typeLookup (.type "list_reverseiterator") "__len__"=pure none:=by with_unfolding_all rfl
theorem jkD:typeLookup (.type "list_reverseiterator") "__length_hint__"=pure (some (.builtin "list_reverseiterator.__length_hint__")):=by with_unfolding_all rfl
theorem jkE {M:Model} {A:Around} {E:Value->Shared->Prop} {s:Shared} {Q:Bool->Shared->Prop} {I l:Addr} {i:Int} (h:s.heap.IsRevIter I l i) (q:Q false s):wpAny M A (Builtin.List.listLengthHint (.ref I)) Q E s:=by
 obtain⟨o,ho,hc,hd⟩:=h;have ty:s.TypeIs (.ref I) "list_reverseiterator":=⟨o,ho,hc⟩;unfold Builtin.List.listLengthHint;refine wpAny_bind (wpAny_specialOf ty jmT ?_);dsimp only;refine wpAny_ite_split (fun c=>absurd c (by decide)) fun _=>?_;refine wpAny_ite_split (fun c=>absurd c (by decide)) fun _=>?_;refine wpAny_bind (wpAny_specialOf ty jkD ?_);dsimp only;have sp:splitId "list_reverseiterator.__length_hint__"=some ("list_reverseiterator","__length_hint__"):=by decide +kernel
 rw[sp];dsimp only;refine wpAny_bind (wpAny_isInstance (b:=true) ty (by with_unfolding_all rfl) ?_);refine wpAny_ite_split (fun c=>absurd c (by decide)) fun _=>?_;refine wpAny_ite_split (fun c=>?_) fun c=>absurd c (by decide);refine wpAny_ite_split (fun c=>absurd c (by decide)) fun _=>?_;exact wpAny_pure q
theorem jhP {prog:Program} {w:World} {A:Around} {s:Shared} {R:Result->Shared->Prop} {I l:Addr} {items:Array Value} (hh:A.handled=none) (hne:l≠I) (S:Addr) (res:Value) (c₀:Nat) (hI:s.heap.IsRevIter I l ((items.size:Int)-1)) (hl:s.heap.IsList l items) (hS:S≠I) (hSl:S≠l)
  (e:s.heap.get? S=some { cls:=.type "list",data:=.seq #[] c₀ }) (hz:items.size<=sizeLine)
  (q:∀(h':Heap) (tk:Nat) (acc':Array Value) (c':Nat),(∀b o,b≠S->b≠I->s.heap.get? b=some o->h'.get? b=some o)->h'.get? S=some { cls:=.type "list",data:=.seq acc' c' }->ItemsOf (fun i v=>items[items.size-1-i]?=some v) acc' items.size->R (.ok (.ret res)) { s with heap:=h',toks:=tk }) :
  wpAny (model prog w) A.in1 (Builtin.List.listExtendWith (.ref S) (.ref I) res)
   (fun fin s'=>match fin with | .done f=>R (.ok f) s' | .again c'=>c'.quiet=true/\codeAny (model prog w) A c' R s') (fun e s'=>R (.error e) s') s:=by
 obtain⟨o,ho,hc,hd⟩:=id hI;have ty:s.TypeIs (.ref I) "list_reverseiterator":=⟨o,ho,hc⟩;unfold Builtin.List.listExtendWith;refine wpAny_bind (wpAny_typeOf ty ?_);refine wpAny_ite_split (fun c=>?_) fun _=>?_
 ·exfalso;have e1:Builtin.List.listSameRef (.ref S) (.ref I)=false:=by
   simp [Builtin.List.listSameRef,hS]
  rw[e1] at c
  revert c
  decide
 refine wpAny_bind (wpAny_pyIter_revIter hI ?_);refine wpAny_bind (wpAny_holding (jkE hI ?_));refine wpAny_ite_split (fun c=>absurd c (by decide)) fun _=>?_;have W:=(Walks.listRev (prog:=prog) (w:=w) (A:=A.in1) hh I l hne items).toS;refine wpAny_pure ⟨plainId_quiet F.plain_extend_loop _,?_⟩;refine codeAny_extend_loopS W hz S (by simp [hS,hSl]) res items.size 0 s #[] c₀ rfl (xaO _) ⟨xaO _,by simpa using hI,hl⟩ e ⟨rfl,fun j v h=>by simp at h⟩ fun s' acc' c' mv e' it=>?_;have eq:=Moved.eq_with mv;rw[eq];exact q s'.heap s'.toks acc' c' (fun b o h1 h2 e=>mv.heap b o (by simp [h1,h2]) e) e' it
theorem jkF {prog:Program} {w:World} {A:Around} {s:Shared} {R:Result->Shared->Prop} {I l:Addr} {items:Array Value} (hh:A.handled=none) (hne:l≠I) (S:Addr) (hI:s.heap.IsRevIter I l ((items.size:Int)-1)) (hl:s.heap.IsList l items) (hS:S≠I) (hSl:S≠l)
  (e:s.heap.get? S=some { cls:=.type "list",data:=.seq #[] }) (hz:items.size<=sizeLine)
  (q:∀(h':Heap) (tk:Nat) (acc':Array Value) (c':Nat),(∀b o,b≠S->b≠I->s.heap.get? b=some o->h'.get? b=some o)->h'.get? S=some { cls:=.type "list",data:=.seq acc' c' }->ItemsOf (fun i v=>items[items.size-1-i]?=some v) acc' items.size->R (.ok (.ret .none)) { s with heap:=h',toks:=tk }) :
  wpAny (model prog w) A.in1 (Builtin.«list.__init__» { pos:=[.ref S,.ref I] })
   (fun fin s'=>match fin with | .done f=>R (.ok f) s' | .again c'=>c'.quiet=true/\codeAny (model prog w) A c' R s') (fun e s'=>R (.error e) s') s:=by
 unfold Builtin.«list.__init__»;dsimp only;refine wpAny_ite_split (fun c=>absurd c (by decide)) fun _=>?_;refine wpAny_ite_split (fun c=>absurd c (by simp)) fun _=>?_;refine wpAny_bind (wpAny_bind (wpAny_seqItems e rfl (wpAny_pure ?_)));refine wpAny_bind (wpAny_updateSeq e rfl ?_ (by simp) (by simp));refine wpAny_bind (wpAny_letGo ?_);have eS:=Heap.get?_update_self (Obj.mapSeq fun _=>(#[]:Array Value)) e rfl;have eO:∀b,b≠S->(s.heap.update S (Obj.mapSeq fun _=>(#[]:Array Value))).get? b=s.heap.get? b:=fun b hb=>Heap.get?_update_other s.heap _ (Ne.symm hb);obtain⟨o,ho,hc,hd⟩:=hI;obtain⟨o2,ho2,hc2,n2,hd2⟩:=hl;refine jhP (s:={ s with heap:=s.heap.update S (Obj.mapSeq fun _=>(#[]:Array Value)) }) (items:=items) hh hne S .none _ ⟨o,(eO I (Ne.symm hS)).trans ho,hc,hd⟩ ⟨o2,(eO l (Ne.symm hSl)).trans ho2,hc2,n2,hd2⟩ hS hSl eS hz fun h' tk acc' c' k e' it=>?_;exact q h' tk acc' c' (fun b o h1 h2 hb=>k b o h1 h2 ((eO b h1).trans hb)) e' it
theorem je5 {prog:Program} {w:World} {A:Around} {E:Value->Shared->Prop} {s:Shared} {Q:Value->Shared->Prop} {I l:Addr} {items:Array Value} (hh:A.handled=none) (hne:l≠I) (hI:s.heap.IsRevIter I l ((items.size:Int)-1)) (hl:s.heap.IsList l items) (hz:items.size<=sizeLine)
  (q:∀(h':Heap) (tk:Nat) (acc':Array Value) (c':Nat),(∀b o,b≠I->s.heap.get? b=some o->h'.get? b=some o)->h'.get? s.heap.objs.size=some { cls:=.type "list",data:=.seq acc' c' }->ItemsOf (fun i v=>items[items.size-1-i]?=some v) acc' items.size->Q (.ref s.heap.objs.size) { s with heap:=h',toks:=tk }) :
  wpAny (model prog w) A (call (.type "list") [.ref I]) Q E s:=by
 obtain⟨o,ho,hc,hd⟩:=hI;obtain⟨o2,ho2,hc2,n2,hd2⟩:=hl;have n1:s.heap.objs.size≠I:=Ne.symm (xaL (Heap.lt_size ho));have n2':s.heap.objs.size≠l:=Ne.symm (xaL (Heap.lt_size ho2));refine callType_codes F.called_list (F.typeCall_list_1 _) F.entry_list_init (Q₁:=fun obj s₁=>obj=.ref s.heap.objs.size/\s₁={ s with heap:=s.heap.push { cls:=.type "list",data:=.seq #[] } }) (code_list_new _ ⟨rfl,rfl⟩) ?_;rintro obj s₁ ⟨rfl,rfl⟩;have eS:(s.heap.push { cls:=.type "list",data:=.seq #[] }).get? s.heap.objs.size=some { cls:=.type "list",data:=.seq #[] }:=Heap.get?_push_size _ rfl;refine⟨⟨_,eS,rfl⟩,F.args_list_init_2 _ _,?_⟩;refine jkF (A:=A.in1) (s:={ s with heap:=s.heap.push { cls:=.type "list",data:=.seq #[] } }) (items:=items) hh hne s.heap.objs.size ⟨o,Heap.get?_push_of_some _ ho,hc,hd⟩ ⟨o2,Heap.get?_push_of_some _ ho2,hc2,n2,hd2⟩ n1 n2' eS hz fun h' tk acc' c' k e' it=>?_;exact⟨rfl,q h' tk acc' c' (fun b o h1 hb=>k b o (xaL (Heap.lt_size hb)) h1 (Heap.get?_push_of_some _ hb)) e' it⟩
theorem Vals.app {xs ys:List V} {us vs:List Value} (h:Vals xs us) (k:Vals ys vs):Vals (xs++ys) (us++vs):=by
 induction h with
 | nil=>exact k
 | cons r _ ih=>exact .cons r ih
theorem Vals.rev {xs:List V} {us:List Value} (h:Vals xs us):Vals xs.reverse us.reverse:=by
  induction h with
  | nil=>exact .nil
  | cons r _ ih =>
    rw[xaM,xaM];exact Vals.app ih (.cons r .nil)
theorem jiB {items acc:Array Value} (h:ItemsOf (fun i v=>items[items.size-1-i]?=some v) acc items.size):acc.toList=items.toList.reverse:=by
 obtain⟨h1,h2⟩:=h;refine xb2 fun i=>?_;by_cases hi:i<items.size
 ·have e:acc[i]?=some acc[i]:=Array.getElem?_eq_getElem (by omega);have z:=h2 i _ e;rw[xbZ (by rw[Array.length_toList];exact hi),Array.length_toList,Array.getElem?_toList,Array.getElem?_toList,e,z]
 ·rw[xaV (by rw[Array.length_toList];omega),xaV (by rw[xaN,Array.length_toList];omega)]
section
variable {X:Cx} {e:Expr} {te:TE} {p p' pos pos':Pos}
def je6 (K:PySem.W.Frag) (te:TE):TE:=fun σ H Q=>te σ H fun x H1=>∃a ys,x=.ref a/\SqL K H1 a ys/\∀l,H1 l=none->Q (.ref l) (upd H1 l (.lst ys.reverse))
theorem jhQ (hc:X.calm=true) (hg:Gl X "list") (hm:X.mg "list"=none) (hg':Gl X "reversed") (hm':X.mg "reversed"=none) (he:PE X e te)
  (h1:starEach [e] X.env=[(false,eval e X.env)]:=by rfl) (h2:starEach [.Call (.Name "reversed" p') [e] [] pos'] X.env=[(false,eval (.Call (.Name "reversed" p') [e] [] pos') X.env)]:=by rfl) :
  PE X (.Call (.Name "list" p) [.Call (.Name "reversed" p') [e] [] pos'] [] pos) (je6 X.K te):=by
 intro pins s σ H Q I h;refine wpAny_Call_Name_kw (jeC I hg hm boot_list ?_);refine PyProof.Rows.callWith_type1 ?_ h2 rfl;rw[h2];show wpAny _ _ (spliced ((false,eval (.Call (.Name "reversed" p') [e] [] pos') X.env)::[])) _ _ s;refine Calls.spliced_cons ?_;refine wpAny_Call_Name_kw (jeC I hg' hm' boot_reversed ?_);refine PyProof.Rows.callWith_type1 ?_ h1 rfl;rw[h1];show wpAny _ _ (spliced ((false,eval e X.env)::[])) _ _ s;refine Calls.spliced_cons (thn (he pins s σ H _ I h) fun u s1 ⟨x,H1,I1,r1,q1⟩=>?_);obtain⟨a,ys,rfl,hq,q⟩:=q1;cases r1;obtain⟨its,rv,pl,hz⟩:=I1.list hq;have hlen:=rv.length;refine Calls.spliced_nil ?_;refine call_reversed_list pl.isList ?_;refine Calls.spliced_nil ?_;have hla:a<s1.heap.objs.size:=by
  obtain⟨o,ho,_⟩:=pl.isList;exact Heap.lt_size ho
 have hl':(s1.heap.push (revObj a ((its.toArray.size:Int)-1))).IsList a its.toArray:=by
  obtain⟨o,ho,hc',n,hd⟩:=pl.isList;exact⟨o,Heap.get?_push_of_some _ ho,hc',n,hd⟩
 refine je5 (I1.ok.hd hc) (xaL hla) ⟨_,Heap.get?_push_size _ rfl,rfl,rfl⟩ hl' (by rw[xak];omega) fun h' tk acc' c' k e' it=>?_;have er:=jiB it;rw[List.toList_toArray] at er;have kp:∀(b:Addr) (o:Obj),s1.heap.get? b=some o->h'.get? b=some o:=fun b o hb=>k b o (xaL (Heap.lt_size hb)) (Heap.get?_push_of_some _ hb);have sz:(s1.heap.push (revObj a ((its.toArray.size:Int)-1))).objs.size=s1.heap.objs.size+1:=by
  unfold Heap.push;exact Array.size_push ..
 have hle:s1.heap.objs.size<=(s1.heap.push (revObj a ((its.toArray.size:Int)-1))).objs.size:=by omega
 refine⟨.ref _,_,I1.laid (t':=tk) (o:=.lst ys.reverse) kp hle ?_,rfl,q _ (I1.hok.fresh hle)⟩;refine⟨by rw[xaN];exact hz,its.reverse,c',rv.rev,?_⟩;rw[e',<- er]
end
def jdw (J:It) (n:Nat) (ρ:St) (g:TG) (tt:TT) (te:TE) (acc:Addr) (Z:Hp->Prop) (H1:Hp):Prop :=
  ∃ W : Nat -> Nat -> List V -> Hp -> Prop, (∃ m, W 0 m [] (upd H1 acc (.lst []))) /\ ∀ i m xs H, W i m xs H ->
    ((J.stop i H /\ Z H) \/ (J.go i H /\ ∃ (Nx : V -> Hp -> Prop) (Nn : Hp -> Prop), (∀ y H4, Nx y H4 -> H4 acc = some (.lst xs) /\ xs.length < sizeLine /\ ∃ m', m' < m /\ W (i + 1) m' (xs ++ [y]) (upd H4 acc (.lst (xs ++ [y])))) /\
      (∀H3,Nn H3->∃m',m'<m/\W (i+1) m' xs H3)/\∀(v0:St) x H',v0.length=n->J.yld i H x H'->g x (v0++ρ) H' fun σ2 H2=>(∃v:St,v.length=n/\σ2=v++ρ)/\tt σ2 H2 fun b H3=>if b=true then te σ2 H3 Nx else Nn H3))
section
variable {X:Cx} {N' r xs0:List Str} {ix:List Nat} {cs:Scope} {tg iter elt:Expr} {ifs:List Expr} {pos:Pos} {wi:TI} {g:TG} {tt:TT} {te:TE}
def jlJ (wi:TI) (ix:List Nat) (n:Nat) (g:TG) (tt:TT) (te:TE):TE:=fun σ H Q=>wi σ H fun J H1=>∀acc,H1 acc=none->jdw J n (jaQ σ ix) g tt te acc (fun H'=>Q (.ref acc) H') H1
end
section
variable {K:PySem.W.Frag} {ta:TA} {tl:TE} {ix:List Nat} {n:Nat} {g:TG} {tt:TT} {te:TE} {σ:St} {H:Hp} {Q:VK}
theorem jg0:jlJ (jks K tl) ix n g tt te σ H Q=tl σ H fun x H1=>∃a,x=.ref a/\(∃xs,SqL K H1 a xs)/\∀acc,H1 acc=none->jdw (Itl K a) n (jaQ σ ix) g tt te acc (fun H'=>Q (.ref acc) H') H1:=rfl
end
theorem jcc {X:Cx}:CallR X (.type "tuple") (fun xs H Q=>∃p ys,xs=[.ref p]/\SqL X.K H p ys/\∀l,H l=none->Q (.ref l) (upd H l (.tup ys))):=fun pins s σ H xs us Q I r ⟨p,ys,e,k,q⟩=>jaZ pins s σ H xs us Q I r ⟨p,ys,e,.inl ⟨k,q⟩⟩
theorem jgr {X:Cx} {K:PySem.W.Frag} {es:List Expr} {k:Nat} {t:TGs} {n:Nat} {pos:Pos} (hK:X.K=K) (hc:X.calm=true) (h:PGs X es t)
  (hn:(assignEach es X.env).length=n:=by rfl) (hst:(assignEach es X.env).findIdx? (·.1)=none:=by rfl):PG X (.Tuple es k pos) (jmE K n t):=hK▸jck hc h hn hst
def SameB (L:Addr) (H H':Hp):Prop:=∀b o,b≠L->H b=some o->H' b=some o
theorem SameB.refl (L:Addr) (H:Hp):SameB L H H:=fun _ _ _ h=>h
theorem SameB.trans {L:Addr} {H H' J:Hp} (s:SameB L H H') (t:SameB L H' J):SameB L H J:=fun b o n h=>t b o n (s b o n h)
theorem Same.b {L:Addr} {H H':Hp} (s:Same H H'):SameB L H H':=fun b o _ h=>s b o h
theorem SameB.acc {L acc:Addr} {H H':Hp} {o:HO} (s:SameB L H H') (h:H acc=none):SameB L H (upd H' acc o):=fun b u n q=>by rw[jaz (jar q h)];exact s b u n q
theorem SameB.box {L:Addr} {H H':Hp} {o:HO} (s:SameB L H H'):SameB L H (upd H' L o):=fun b u n q=>by rw[jaz n];exact s b u n q
theorem SameB.none {L b:Addr} {H H':Hp} (s:SameB L H H') (n:b≠L) (h:H' b=none):H b=none:=by
 cases e:H b with
 | none=>rfl
 | some o=>rw[s b o n e] at h;cases h
theorem SameB.set {L:Addr} {H:Hp} {o:HO}:SameB L H (upd H L o):=fun b u n h=>by rw[jaz n];exact h
end L2
namespace L2
open PySem PyProof.Rows PySem.Calls
end L2
namespace L2
open PySem PySem.Spec PyProof.Rows
section
variable {X:Cx} {tg:Expr}
def It3 (lo c:Int) (n:Nat):It:=⟨fun i _=>i<n,fun i H x H'=>H'=H/\x=.int (lo+i*c),fun i _=>n<=i⟩
def iRng3 (ta:TA):TI:=fun σ H R=>ta σ H fun vs H1=>∃i j c:Int,vs=[.int i,.int j,.int c]/\(-(2^30)<=i/\i<2^30/\-(2^30)<=j/\j<2^30/\1<=c/\c<2^30)/\R (It3 i c (Builtin.Range.rangeSize i j c).toNat) H1
end
end L2
namespace L2
section
variable {K:PySem.W.Frag} {tl:TE} {ta:TA} {ix:List Nat} {g:TG} {tt:TT} {te:TE} {σ:St} {H:Hp} {Q:VK}
theorem jg1:jfO (iRng3 ta) ix g tt te σ H Q=ta σ H fun vs H1=>∃i j c:Int,vs=[.int i,.int j,.int c]/\(-(2^30)<=i/\i<2^30/\-(2^30)<=j/\j<2^30/\1<=c/\c<2^30)/\∀acc,H1 acc=none->CompGo (It3 i c (PySem.Builtin.Range.rangeSize i j c).toNat) (jaQ σ ix) g tt te acc (fun H'=>Q (.ref acc) H') H1:=rfl
end
end L2
namespace L2
open PySem PySem.Spec PyProof.Rows
theorem je7 {M:Model} {A:Around} {E:Value->Shared->Prop} {s:Shared} {scope:Scope} {globals:Addr} {cl:List (Str × Addr)} {qual:Str} {env:Env} {Q:Env->Shared->Prop}
  (hQ:Q (newEnv scope s.heap.objs.size globals (cellsFrom (s.heap.objs.size+1) scope.names cl) qual none .none (some env) builtinsNs) { s with heap:=pushCells (s.heap.push { cls:=.type "dict",data:=.dict #[] }) scope.names }) :
  wpAny M A (newFunctionEnv scope globals cl [] qual none .none (some env)) Q E s:=by
 simp only[newFunctionEnv,Option.isSome_some,if_true];refine wpAny_bind (wpAny_alloc ?_);refine wpAny_bind (wpAny_layCells _ (fun name kind cells=>by cases hkc:kind==NameKind.cell<;>simp [hkc]) _ _ _ _ ?_);rw[show ({ s with heap:=s.heap.push { cls:=.type "dict",data:=.dict #[] } }:Shared).heap.objs.size=s.heap.objs.size+1 from Heap.size_push ..];rw[List.forIn_nil];exact wpAny_bind (wpAny_pure (wpAny_pure hQ))
structure CfOk (n:Nat) (cs:List (Str × Addr)):Prop where
 lt:∀y c,cs.lookup y=some c->c<n
 inj:∀x y c,cs.lookup x=some c->cs.lookup y=some c->x=y
theorem jmU {n:Nat} {name:Str} {acc:List (Str × Addr)} (k:CfOk n acc):CfOk (n+1) ((name,n)::acc):=by
  refine⟨fun y c e=>?_,fun x y c e1 e2=>?_⟩
  . rw[xaT] at e
    cases z:y==name with
    | true=>rw[z] at e;cases e;exact Nat.lt_succ_self _
    | false=>rw[z] at e;exact xbO (k.lt y c e)
  . rw[xaT] at e1 e2
    cases z1:x==name with
    | true =>
      cases z2:y==name with
      | true=>exact (beq_iff_eq.mp z1).trans (beq_iff_eq.mp z2).symm
      | false =>
        rw[z1] at e1;rw[z2] at e2;cases e1;exact absurd (k.lt y _ e2) (xbg _)
    | false =>
      cases z2:y==name with
      | true =>
        rw[z1] at e1;rw[z2] at e2;cases e2;exact absurd (k.lt x _ e1) (xbg _)
      | false =>
        rw[z1] at e1;rw[z2] at e2;exact k.inj x y c e1 e2
theorem jmV:∀(names:List (Str × NameKind)) (h:Heap) (acc:List (Str × Addr)),CfOk h.objs.size acc->CfOk (pushCells h names).objs.size (cellsFrom h.objs.size names acc)
  | [],_,_,k=>k
  | (name, kind) :: r, h, acc, k => by
    unfold pushCells cellsFrom;split
    . have z:=jmV r (h.push { cls:=.type "cell",data:=.cell none }) ((name,h.objs.size)::acc) (by rw[Heap.size_push]; exact jmU k)
      rwa [Heap.size_push] at z
    . exact jmV r h acc k
theorem jgs:∀(names:List (Str × NameKind)) (h:Heap) (acc:List (Str × Addr)) (y:Str) (c:Addr),(cellsFrom h.objs.size names acc).lookup y=some c ->
    acc.lookup y=some c\/((y,NameKind.cell)∈names/\h.objs.size<=c/\(pushCells h names).IsCell c none)
  | [],_,_,_,_,e=>.inl e
  | (name, kind) :: r, h, acc, y, c, e => by
    unfold pushCells;unfold cellsFrom at e;by_cases hk:(kind==NameKind.cell)=true
    . rw[if_pos hk] at e |-
      rw[<- Heap.size_push (h:=h) (o:={ cls:=.type "cell",data:=.cell none })] at e;rcases jgs r _ _ y c e with z | ⟨z1,z2,z3⟩
      . rw[xaT] at z
        cases q:y==name with
        | true =>
          rw[q] at z;cases z;have e1:=beq_iff_eq.mp q;have e2:=beq_iff_eq.mp hk;subst e1;subst e2;refine .inr ⟨xa0,xag _,⟨_,pushCells_keeps r _ _ _ (Heap.get?_push_size _ rfl),rfl⟩⟩
        | false =>
          rw[q] at z;exact .inl z
      . rw[Heap.size_push] at z2
        exact .inr ⟨xat _ z1,by omega,z3⟩
    . rw[if_neg hk] at e |-
      rcases jgs r h acc y c e with z | ⟨z1,z2,z3⟩
      . exact .inl z
      . exact .inr ⟨xat _ z1,z2,z3⟩
theorem jfS:∀(names:List (Str × NameKind)) (n:Nat) (acc:List (Str × Addr)) (y:Str),(y,NameKind.cell)∉names->(cellsFrom n names acc).lookup y=acc.lookup y
  | [],_,_,_,_=>rfl
  | (name, kind) :: r, n, acc, y, hn => by
    unfold cellsFrom;have hr:(y,NameKind.cell)∉r:=fun z=>hn (xat _ z);by_cases hk:(kind==NameKind.cell)=true
    . rw[if_pos hk,jfS r _ _ y hr,xaT]
      cases q:y==name with
      | true =>
        have e1:=beq_iff_eq.mp q;have e2:=beq_iff_eq.mp hk;subst e1;subst e2;exact absurd xa0 hn
      | false=>rfl
    . rw[if_neg hk,jfS r _ _ y hr]
theorem jfT:∀(names:List (Str × NameKind)) (n:Nat) (acc:List (Str × Addr)) (y:Str),(y,NameKind.cell)∈names->∃c,(cellsFrom n names acc).lookup y=some c/\n<=c
  | (name, kind) :: r, n, acc, y, hy => by
    unfold cellsFrom;by_cases hr:(y,NameKind.cell)∈r
    . by_cases hk:(kind==NameKind.cell)=true
      . rw[if_pos hk]
        obtain⟨c,h1,h2⟩:=jfT r (n+1) ((name,n)::acc) y hr;exact⟨c,h1,by omega⟩
      . rw[if_neg hk]
        exact jfT r n acc y hr
    . rcases xaG.mp hy with z | z
      . cases z
        rw[if_pos (by rfl),jfS r _ _ _ hr,xaT];exact⟨n,by rw[beq_self_eq_true],xag _⟩
      . exact absurd z hr
theorem jmW {names:List (Str × NameKind)} {n:Nat} {acc:List (Str × Addr)} {y:Str} (h:∃c,acc.lookup y=some c):∃c,(cellsFrom n names acc).lookup y=some c:=by
 by_cases hy:(y,NameKind.cell)∈names
 ·obtain⟨c,h1,_⟩:=jfT names n acc y hy;exact⟨c,h1⟩
 ·rw[jfS names n acc y hy];exact h
structure CompScopeC (N:List Str) (sc:Scope) (N':List Str) (ix:List Nat) (x:Str) (r:List Str) (cs:Scope):Prop where
 eq:N'=x::r
 kind:cs.kind=.function
 hown:∀y∈cs.names,y.2=.cell->cs.names.lookup y.1=some .cell
 hnames:∀y∈cs.names,y.2=.local->cs.names.lookup y.1=some .local
 nd:(x::r).Nodup
 fr:∀y∈cs.names,y.2=.free->sc.names.lookup y.1=some .cell\/sc.names.lookup y.1=some .free
 ixs:Ixs N sc cs r ix
def jaW (X:Cx) (N':List Str) (cs:Scope) (cl:List (Str × Addr)) (s3:Shared) (H3:Hp) (fp:List Addr):Cx :=
 { X with N:=N',s₀:=s3,H₀:=H3,env:=compEnvC cs (cellsFrom (s3.heap.objs.size+1) cs.names cl) s3.heap.objs.size X.env,outer:=X.stack,stack:=X.stack,ex:=fp,fn:=fun y=>cs.names.lookup y==some .cell,pn:=[],xe:=fun _ _=>False }
theorem jdc {env:Env} {cs:Scope} {y:Str} {k:NameKind} (h:(relabel cs env).names.lookup y=some k) (hk:k=.cell\/k=.free):(y,NameKind.free)∈cs.names\/(y,NameKind.cell)∈cs.names:=by
 have m:=PySem.mem_of_lookup h;obtain⟨⟨n,k0⟩,h1,h2⟩:=xao.mp m;by_cases c:(k0==NameKind.free&&env.scope.kind==.function&&env.kindOf n==some .cell)=true
 ·have h2':(n,NameKind.cell)=(y,k):=by rw[<- h2];exact (if_pos c).symm
  cases h2';have:k0=.free:=by
   have z:=(xbN.mp (xbN.mp c).1).1;exact beq_iff_eq.mp z
  rw[this] at h1;exact .inl h1
 ·have h2':(n,k0)=(y,k):=by rw[<- h2];exact (if_neg c).symm
  cases h2';rcases hk with rfl | rfl
  ·exact .inr h1
  ·exact .inl h1
section
variable {X:Cx} {pins:List (Addr × Obj)} {σ:St} {H:Hp} {s:Shared}
theorem Inv.cfs {cs:Scope} {cl:List (Str × Addr)} (I:Inv X pins σ H s) (h2:∀y c,cl.lookup y=some c->X.env.cells.lookup y=some c) :
  CfOk (pushCells (s.heap.push { cls:=.type "dict",data:=.dict #[] }) cs.names).objs.size (cellsFrom (s.heap.objs.size+1) cs.names cl) /\
  ∀y c,(cellsFrom (s.heap.objs.size+1) cs.names cl).lookup y=some c->X.env.cells.lookup y=some c\/((y,NameKind.cell)∈cs.names/\s.heap.objs.size+1<=c/\(pushCells (s.heap.push { cls:=.type "dict",data:=.dict #[] }) cs.names).IsCell c none):=by
 have e:s.heap.objs.size+1=(s.heap.push { cls:=.type "dict",data:=.dict #[] }).objs.size:=(Heap.size_push ..).symm;rw[e];refine⟨jmV _ _ _ ⟨fun y c q=>?_,fun a b c ha hb=>I.ok.inj a b c (h2 a c ha) (h2 b c hb)⟩,fun y c q=>?_⟩
 ·obtain⟨v,o,ho,_⟩:=I.cell y c (h2 y c q);rw[<- e];exact xbO (Heap.lt_size ho)
 ·rcases jgs _ _ _ y c q with z | z
  ·exact .inl (h2 y c z)
  ·exact .inr z
end
section
variable {X:Cx} {N' r:List Str} {ix:List Nat} {x:Str} {cs:Scope} {tg iter elt:Expr} {ifs:List Expr} {pos:Pos} {wi:TI} {g:TG} {tt:TT} {te:TE}
theorem CompScopeC.clos {sc:Scope} {N:List Str} (S:CompScopeC N sc N' ix x r cs) {env:Env} (he:env.scope=sc) (has:∀y,(env.kindOf y=some .cell\/env.kindOf y=some .free)->∃c,env.cells.lookup y=some c) :
  ∃cl:List (Str × Addr),closureFor cs env=pure cl/\(∀y c,cl.lookup y=some c->env.cells.lookup y=some c)/\(∀y,(y,NameKind.free)∈cs.names->∃c,cl.lookup y=some c) :=
 jdu fun y hy hk=>has y.1 (by
  subst he;exact S.fr y hy hk)
end
end L2
namespace L2
open PySem PyProof.Rows
end L2
namespace L2
open PySem PySem.Spec PyProof.Rows
def Ite (K:PySem.W.Frag) (a:Addr):It :=
 ⟨fun i H=>∃xs x,SqL K H a xs/\xs[i]?=some x,fun i H x H'=>∃T v,x=.ref T/\H T=none/\H'=upd H T (.tup [.int i,v])/\∀xs,SqL K H a xs->xs[i]?=some v,fun i H=>∃xs,SqL K H a xs/\xs.length<=i⟩
section
variable {X:Cx} {elts:List Expr} {x1:Nat} {tpos:Pos}
def iEnum (K:PySem.W.Frag) (ta:TA):TI:=fun σ H R=>ta σ H fun vs H1=>∃a,vs=[.ref a]/\(∃xs,SqL K H1 a xs)/\R (Ite K a) H1
end
section
variable {K:PySem.W.Frag} {ta:TA} {tl:TE} {g:TG} {tb:TS} {D:Ends} {σ:St} {H:Hp}
theorem jlK:jmI (iEnum K ta) g tb D σ H=ta σ H fun vs H1=>∃a,vs=[.ref a]/\(∃xs,SqL K H1 a xs)/\jof (Ite K a) g tb D σ H1:=rfl
end
section
variable {P:Program} {w:World} {H:Hp} {h h':Heap} {a:Addr} {o:HO}
theorem ObjOk.get (x:ObjOk P w H h a o):∃ob,h.get? a=some ob:=by
 cases o with
 | lst xs=>obtain⟨_,_,_,_,e⟩:=x;exact⟨_,e⟩
 | tup xs=>obtain⟨_,_,_,ob,e,_⟩:=x;exact⟨_,e⟩
 | dK kvs=>obtain⟨_,_,_,_,o,_,_,e,_⟩:=x;exact⟨_,e⟩
 | dT kvs=>obtain⟨_,_,_,_,o,_,_,e,_⟩:=x;exact⟨_,e⟩
 | set S n=>obtain⟨o,_,_,_,e,_⟩:=x;exact⟨_,e⟩
 | ins C dx fs=>obtain⟨_,_,_,e,_⟩:=x;exact⟨_,e⟩
 | own y=>exact x
 | xd fs=>obtain⟨_,⟨_,_,_,e,_⟩,_⟩:=x;exact⟨_,e⟩
 | rng lo hi=>obtain⟨_,_,_,e⟩:=x;exact⟨_,e⟩
 | frz ob u=>obtain⟨e,_⟩:=x;exact⟨_,e⟩
 | tbl ps=>exact⟨_,(show h.get? a=some _ from x)⟩
 | met f y=>exact⟨_,(show h.get? a=some _ from x)⟩
 | ext φ=>obtain⟨_,e,_⟩:=x;exact e
end
section
open PySem.W PySem.Calls PySem.Builtin PySem.Builtin.ObjectAttr
variable {prog:Program} {w:World} {A:Around} {K:PySem.W.Frag} {x C:Addr} {ox:Obj} {od:Option Obj} {s:Shared} {name:Str} {tk:Tok} {v:Value} {R:Result->Shared->Prop}
end
section
open PySem.W PySem.Calls PySem.Builtin PySem.Builtin.ObjectAttr PySem.Builtin.Getset_descriptor
variable {prog:Program} {w:World} {A:Around} {E:Value->Shared->Prop} {K:PySem.W.Frag} {x C:Addr} {s:Shared} {name:Str} {tk:Tok} {v:Value}
end
section
variable {X:Cx} {pins:List (Addr × Obj)} {σ:St} {H:Hp} {s:Shared} {a C:Addr}
theorem jeb:∀{cs:List Addr} {its:List Value},Vals (cs.map V.ref) its->its=cs.map Value.ref
  | [],_,.nil=>rfl
  | c :: cs, _, .cons r t => by
    cases r;rw[xaH,jeb t]
end
@[elab_as_elim] theorem jeA {C:Hp->Prop} {H:Hp} {p:Addr} {o:HO} (hp:H p=none) (k:∀J,Same H J->J p=some o->C J):C (upd H p o):=k _ (Same.new hp o) jac
section
variable {prog:Program} {w:World} {A:Around} {E:Value->Shared->Prop} {it:Addr} {fp wr:List Addr} {n:Nat} {P:Nat->Value->Prop} {St:Nat->Heap->Prop}
theorem drawW (W:Walks prog w A it fp wr n P St) (k:Nat):∀(i:Nat) (s:Shared) (Q:List Value->Shared->Prop),i+k<=n->St i s.heap ->
    (∀vs h tk,vs.length=k->(∀j v,vs[j]?=some v->P (i+j) v)->St (i+k) h->(∀b o,b∉wr->s.heap.get? b=some o->h.get? b=some o)->Q vs { s with heap:=h,toks:=tk })->wpAny (model prog w) A (draw (.ref it) k) Q E s:=by
  induction k with
  | zero=>exact fun i s Q _ st q=>wpAny_pure (q [] s.heap s.toks rfl (fun j v h=>by simp at h) st fun _ _ _ e=>e)
  | succ k ih =>
    intro i s Q le st q;refine wpAny_bind (W.item i s _ _ (by omega) st fun v h1 t1 pv st1 k1=>?_);refine wpAny_bind (wpAny_holding (ih (i+1) _ _ (by omega) st1 fun vs h2 t2 l2 p2 st2 k2=>wpAny_pure ?_));refine q (v::vs) h2 t2 (by simp [l2]) (fun j u hj=>?_) (by rw[show i+(k+1)=i+1+k by omega];exact st2) fun b o bw e=>k2 b o bw (k1 b o bw e);cases j with
    | zero=>cases hj;exact pv
    | succ j=>rw[show i+(j+1)=i+1+j by omega];exact p2 j u hj
theorem joH {s:Shared} {l:Addr} {xs:List Value} {Q:List Value->Shared->Prop} (hh:A.handled=none) (hl:s.heap.IsList l xs.toArray)
  (q:∀h tk,(∀b o,s.heap.get? b=some o->h.get? b=some o)->Q xs { s with heap:=h,toks:=tk }):wpAny (model prog w) A (unpackItems (.ref l) xs.length none) Q E s:=by
 have lt:l<s.heap.objs.size:=by obtain⟨o,ho,_⟩:=hl;exact Heap.lt_size ho
 have W:=Walks.list (prog:=prog) (w:=w) hh s.heap.objs.size l (xaL lt) xs.toArray;have old:∀{b:Addr} {o:Obj},s.heap.get? b=some o->b∉[s.heap.objs.size]:=fun x m=>xaL (Heap.lt_size x) (xar.mp m);unfold unpackItems notIterableAtAll;refine wpAny_bind (wpAny_bind (wpAny_specialOf hl.typeIs F.slot_list_iter.lookup (wpAny_pure ?_)));rw[if_neg (by decide)];refine wpAny_bind (wpAny_holding (wpAny_pyIter_list hl (wpAny_bind (wpAny_holding ?_))));refine drawW W xs.length 0 _ _ (by simp) ⟨⟨_,Heap.get?_push_size _ rfl,rfl,rfl⟩,hl.push _⟩ fun vs h1 t1 l1 p1 st1 k1=>?_;have ev:vs=xs:=by
  refine xb2 fun j=>?_;by_cases c:j<vs.length
  ·have e:=p1 j vs[j] (xac c);rw[xac c,<- e];simp
  ·rw[xaV (by omega),xaV (by omega)]
 rw[if_neg (by omega)];refine wpAny_bind (wpAny_holding (W.done _ _ _ (by simpa using st1) fun h2 t2 k2=>?_));rw[if_neg (show ¬(none:Option Value).isSome=true by decide),ev];exact wpAny_pure (q h2 t2 fun b o x=>k2 b o (old x) (k1 b o (old x) (Heap.get?_push_of_some _ x)))
end
section
variable {X:Cx} {pos:Pos}
def gLst (K:PySem.W.Frag) (n:Nat) (t:TGs):TG:=fun v σ H Q=>∃a xs,v=.ref a/\SqL K H a xs/\xs.length=n/\t xs σ H Q
theorem joI {es:List Expr} {k:Nat} {t:TGs} {n:Nat} (hc:X.calm=true) (h:PGs X es t)
  (hn:(assignEach es X.env).length=n:=by rfl) (hst:(assignEach es X.env).findIdx? (·.1)=none:=by rfl):PG X (.Tuple es k pos) (gLst X.K n t):=by
 intro pins s σ H v u Q I r ⟨a,xs,e1,hq,hl,hw⟩;subst e1;cases r;obtain⟨its,rv,ht,hz⟩:=I.list hq;have len:(assignEach es X.env).length=its.length:=by rw[hn,<- hl,rv.length]
 rw[assign_Tuple];unfold unpack;rw[len,hst];exact wpAny_bind (wpAny_standAt (wpAny_bind (wpAny_holding (joH (I.ok.hd hc) ht.isList fun h' tk hx=>h pins _ σ H xs _ Q (I.kept hx) rv hw))))
end
section
open PySem.AutoSeq1 (wpAny_loadPart')
open PySem.MeetsSeq3 (plain_eq_loop entry_eq_loop)
end
structure CompScopeMC (N:List Str) (sc:Scope) (N':List Str) (ix:List Nat) (xs0:List Str) (r:List Str) (cs:Scope):Prop where
 eq:N'=xs0++r
 kind:cs.kind=.function
 hown:∀y∈cs.names,y.2=.cell->cs.names.lookup y.1=some .cell
 hnames:∀y∈cs.names,y.2=.local->cs.names.lookup y.1=some .local
 nd:(xs0++r).Nodup
 fr:∀y∈cs.names,y.2=.free->sc.names.lookup y.1=some .cell\/sc.names.lookup y.1=some .free
 ixs:Ixs N sc cs r ix
section
variable {X:Cx} {pins:List (Addr × Obj)} {σ:St} {H:Hp} {s:Shared}
theorem Inv.compOkMC {N' r:List Str} {ix:List Nat} {xs0:List Str} {cs:Scope} {cl:List (Str × Addr)} {fp:List Addr} (I:Inv X pins σ H s) (S:CompScopeMC X.N X.env.scope N' ix xs0 r cs)
  (h2:∀y c,cl.lookup y=some c->X.env.cells.lookup y=some c) (h3:∀y,(y,NameKind.free)∈cs.names->∃c,cl.lookup y=some c) (hf:∀b∈fp,jgQ X pins H b) (hfp:∀b∈fp,b<s.heap.objs.size) :
  (jaW X N' cs cl s H fp).Ok where
 mod:=I.ok.mod
 kind:=S.kind
 glob:=I.ok.glob
 blt:=I.ok.blt
 above:=xag _
 inj:=(I.cfs (cs:=cs) h2).1.inj
 has:=fun y hy=>by
  rcases hy.elim (fun z=>jdc z (.inl rfl)) fun z=>jdc z (.inr rfl) with z | z
  ·exact jmW (h3 y z)
  ·obtain⟨c,h,_⟩:=jfT cs.names (s.heap.objs.size+1) cl y z;exact⟨c,h⟩
 cab:=fun y c hy e=>by
  have z:cs.names.lookup y=some .cell:=beq_iff_eq.mp hy;obtain⟨c',h,hl⟩:=jfT cs.names (s.heap.objs.size+1) cl y (PySem.mem_of_lookup z);have e':(cellsFrom (s.heap.objs.size+1) cs.names cl).lookup y=some c:=e;rw[h] at e';cases e';exact xav (xb6 _) hl
 hd:=I.ok.hd
 frames:=I.ok.frames
 stk:=.inl rfl
 exf:=fun b hb=>⟨xaL (hfp b hb),fun y c e=>by
  rcases (I.cfs (cs:=cs) h2).2 y c e with z | ⟨_,z,_⟩
  ·exact (hf b hb).2.2.2.2.1 y c z
  ·exact Nat.ne_of_gt (xap (xbO (hfp b hb)) z)⟩
 bs:=I.bs
 bsz:=xav I.ok.bsz I.sz
 noex:=fun b o e hb=>by
  rcases (hf b hb).2.2.2.1 with z | z
  ·exact I.ok.noex b o e z
  ·exact absurd (xap (Heap.lt_size e) (xav I.ok.bsz z)) (xbg _)
 exfs:=fun b hb hs=>by
  rcases xaG.mp (I.stkSub b hs) with z | z
  ·exact (hf b hb).2.1 z
  ·exact (hf b hb).2.2.1 z
 funs:=I.stack
 frf:=I.stkFree
theorem Inv.compStartMC {N' r:List Str} {ix:List Nat} {xs0:List Str} {cs:Scope} {cl:List (Str × Addr)} {fp:List Addr} (I:Inv X pins σ H s) (S:CompScopeMC X.N X.env.scope N' ix xs0 r cs)
  (h2:∀y c,cl.lookup y=some c->X.env.cells.lookup y=some c) (h3:∀y,(y,NameKind.free)∈cs.names->∃c,cl.lookup y=some c) (hf:∀b∈fp,jgQ X pins H b) (hfp:∀b∈fp,b<s.heap.objs.size) :
  Inv (jaW X N' cs cl s H fp) [] (List.replicate xs0.length none++jaQ σ ix) H { s with heap:=pushCells (s.heap.push { cls:=.type "dict",data:=.dict #[] }) cs.names }:=by
 have ok:=I.compOkMC (N':=N') (fp:=fp) S h2 h3 hf hfp;obtain⟨mo,hno,hlo⟩:=id I.loc;have hk:∀b o,s.heap.get? b=some o->(pushCells (s.heap.push { cls:=.type "dict",data:=.dict #[] }) cs.names).get? b=some o:=fun b o e=>pushCells_keeps _ _ _ _ (Heap.get?_push_of_some _ e);have cf:=(I.cfs (cs:=cs) h2).2;refine⟨ok,rfl,I.bare,Un.kept hk,⟨fun _=>none,(Heap.Ns.new s.heap (.type "dict")).keeps (pushCells_keeps _ _),fun i y v e1 e2 e3=>?_⟩,fun y c e=>?_,I.hok.fresh (xag _),fun y c e=>?_,fun p hp=>absurd (show p∈([]:List (Addr × Obj)) from hp) (by simp),I.hok.kept hk,?_⟩
 ·by_cases hi:i<xs0.length
  ·rw[xaD (by rw[xbu];exact hi),List.getElem?_replicate,if_pos hi] at e2;cases e2
  ·have e1':r[i-xs0.length]?=some y:=by
    have:N'[i]?=some y:=e1;rw[S.eq,xau (by omega)] at this;exact this
   have e2:(jaQ σ ix)[i-xs0.length]?=some (some v):=by
    rw[xau (by rw[xbu];omega),xbu] at e2;exact e2
   obtain⟨j,j1,j2,j3,j4⟩:=S.ixs.get e1';obtain⟨j',k1,k2⟩:=jd9 (σ:=σ) (ix:=ix) (i:=i-xs0.length) (v:=v) e2;rw[j1] at k1;cases k1;obtain⟨u,ru,lk⟩:=hlo j y v j2 k2 (j3.elim (fun z=>.inr (.inl z)) fun z=>.inr (.inr z));refine⟨u,ru,?_⟩;obtain⟨c,hc⟩:=h3 y (PySem.mem_of_lookup j4);rcases lk with ⟨k,_⟩ | ⟨k,c',e',z⟩
   ·have k':X.env.scope.names.lookup y=some .local:=k;rcases j3 with q | q<;>(rw[q] at k';cases k')
   ·rw[h2 y c hc] at e';cases e';refine .inr ⟨?_,c,?_,?_⟩
    ·exact jbn (env:=X.env) j4
    ·have no:(y,NameKind.cell)∉cs.names:=fun q=>by
      have:=S.hown _ q rfl;rw[j4] at this;cases this
     show (cellsFrom (s.heap.objs.size+1) cs.names cl).lookup y=some c;rw[jfS _ _ _ y no];exact hc
    ·obtain⟨o,ho,hd⟩:=z;exact⟨o,hk c o ho,hd⟩
 ·rcases cf y c e with z | ⟨_,_,z⟩
  ·obtain⟨v,o,ho,hd⟩:=I.cell y c z;exact⟨v,o,hk c o ho,hd⟩
  ·exact⟨none,z⟩
 ·rcases cf y c e with z | ⟨_,z,_⟩
  ·exact I.freeC y c z
  ·exact I.hok.fresh (xav (xb6 _) z)
 ·show (List.replicate xs0.length none++jaQ σ ix).length=N'.length;rw[S.eq,xad,xad,xbu,S.ixs.len];unfold jaQ;rw[xaa]
theorem jc2 {N' r:List Str} {ix:List Nat} {xs0:List Str} {cs:Scope} {cl:List (Str × Addr)} {tg iter elt:Expr} {ifs:List Expr} {pos:Pos} {J:It} {fp:List Addr} {it:Addr} {tn:Nat->Heap->Prop} {g:TG} {tt:TT} {te:TE} {Z:Addr->Hp->Prop}
    {RR:Value->Addr->Result->Shared->Prop} {E:Value->Shared->Prop}
    (I:Inv X pins σ H s) (hc:X.calm=true) (S:CompScopeMC X.N X.env.scope N' ix xs0 r cs) (h2:∀y c,cl.lookup y=some c->X.env.cells.lookup y=some c) (h3:∀y,(y,NameKind.free)∈cs.names->∃c,cl.lookup y=some c)
    (T:Turn X.prog X.w X.K tg J fp it tn) (st:tn 0 s.heap) (hf:∀b∈fp,jgQ X pins H b)
    (hg:∀s3 H3,PG (jaW X N' cs cl s3 H3 fp) tg g) (ht:∀s3 H3,PTs (jaW X N' cs cl s3 H3 fp) ifs tt) (he:∀s3 H3,PE (jaW X N' cs cl s3 H3 fp) elt te)
    (go:∀acc,H acc=none->jdw J xs0.length (jaQ σ ix) g tt te acc (Z acc) H)
    (fin:∀acc C s' H' m,Inv X pins σ H' s'->jgQ X pins H' C->s'.heap.Ns C m->Z acc H'->RR (.ref acc) C (.ok .next) s') :
    wpAny (model X.prog X.w) X.A (newList []) (fun acc s₃=>wpAny (model X.prog X.w) X.A (newFunctionEnv cs X.env.globals cl [] X.env.qual none .none (some X.env)) (fun cenv s₄ =>
      codeAny (model X.prog X.w) X.A (.compStart (.ListComp elt [⟨tg,iter,ifs,0⟩] cs pos) 0 (.ref it) acc { cenv with scope:=relabel cs X.env }) (RR acc cenv.locals) s₄) E s₃) E s:=by
  refine wpAny_newObj_type (je7 ?_);dsimp only;have hfs:∀b∈fp,b<s.heap.objs.size:=fun b hb=>by
    obtain⟨o,e,_⟩:=T.obj _ _ st b hb;exact Heap.lt_size e
  have I3:Inv X pins σ (upd H s.heap.objs.size (.lst [])) { s with heap:=s.heap.push { cls:=.type "list",data:=.seq ([]:List Value).toArray } }:=I.lnew (its:=[]) (t':=s.toks) .nil (xaO _);have nacc:H s.heap.objs.size=none:=I.fresh;have hf3:∀b∈fp,jgQ X pins (upd H s.heap.objs.size (.lst [])) b:=fun b hb=>⟨by rw[jaz (xaL (hfs b hb))];exact (hf b hb).1,(hf b hb).2⟩;have hfs3:∀b∈fp,b<(s.heap.push { cls:=.type "list",data:=.seq ([]:List Value).toArray }).objs.size:=fun b hb=>by
    rw[Heap.size_push];exact xbO (hfs b hb)
  generalize hs3:({ s with heap:=s.heap.push { cls:=.type "list",data:=.seq ([]:List Value).toArray } }:Shared)=s3 at I3;generalize hH3:upd H s.heap.objs.size (.lst [])=H3 at I3 hf3;have eh:s.heap.push { cls:=.type "list",data:=.seq ([]:List Value).toArray }=s3.heap:=by rw[<- hs3]
  rw[eh] at hfs3;have I4:Inv (jaW X N' cs cl s3 H3 fp) [] (List.replicate xs0.length none++jaQ σ ix) H3 { s3 with heap:=pushCells (s3.heap.push { cls:=.type "dict",data:=.dict #[] }) cs.names } :=
    I3.compStartMC S h2 h3 hf3 hfs3
  have cf:=(I3.cfs (cs:=cs) h2).2;have kp2:∀b o,s.heap.get? b=some o->(pushCells (s3.heap.push { cls:=.type "dict",data:=.dict #[] }) cs.names).get? b=some o:=fun b o e=>pushCells_keeps _ _ _ _ (Heap.get?_push_of_some _ (by rw[<- eh];exact Heap.get?_push_of_some _ e));have st4:tn 0 (pushCells (s3.heap.push { cls:=.type "dict",data:=.dict #[] }) cs.names):=T.keep _ _ _ st fun b hb o e=>kp2 b o e;obtain⟨W,⟨m0,w0⟩,turn⟩:=go s.heap.objs.size nacc;rw[hH3] at w0;have stat:∀{H':Hp},(∀b∈fp,H' b=none)->∀b∈fp,jgQ (jaW X N' cs cl s3 H3 fp) [] H' b:=fun hn b hb =>
    ⟨hn b hb,xaL (hfs3 b hb),fun hs=>by
      rcases xaG.mp (I.stkSub b hs) with z | z
      . exact (hf b hb).2.1 z
      . exact (hf b hb).2.2.1 z,.inl hb,fun y c e=>by
        rcases cf y c e with z | ⟨_,z,_⟩
        . exact (hf b hb).2.2.2.2.1 y c z
        . exact Nat.ne_of_gt (xap (xbO (hfs3 b hb)) z),fun p hp=>absurd (show p∈([]:List (Addr × Obj)) from hp) (by simp)⟩
  have es:s3.heap.objs.size=s.heap.objs.size+1:=by rw[<- eh,Heap.size_push]
  have loop:codeAny (model X.prog X.w) X.A (.compLoop (.ListComp elt [⟨tg,iter,ifs,0⟩] cs pos) 0 (.ref it) (.ref s.heap.objs.size) (jaW X N' cs cl s3 H3 fp).env)
      (RR (.ref s.heap.objs.size) s3.heap.objs.size) { s3 with heap:=pushCells (s3.heap.push { cls:=.type "dict",data:=.dict #[] }) cs.names }:=by
    refine jfN (fun n s'=>∃i v0 H' xs,v0.length=xs0.length/\Inv (jaW X N' cs cl s3 H3 fp) [] (v0++jaQ σ ix) H' s'/\tn i s'.heap/\(∀b∈fp,H' b=none)/\W i n xs H') ?_ m0
      ⟨0,List.replicate xs0.length none,H3,[],xbu,I4,st4,fun b hb=>(hf3 b hb).1,w0⟩
    rintro n s5 ⟨i,v0,H5,xs,l5,I5,st5,fr5,w5⟩;rcases turn i n xs H5 w5 with ⟨stop,q⟩ | ⟨hgo,Nx,Nn,hNx,hNn,step⟩
    . refine thn (T.done (jaW X N' cs cl s3 H3 fp) rfl rfl rfl hc i [] s5 _ H5 _ I5 (stat fr5) st5 stop) fun r' s6 ⟨hr,I6⟩=>?_
      subst hr;have u:Un (frs X.stack) fp H H5 s.heap s6.heap:=by
        refine Un.trans (H1:=H3) (h1:=s3.heap) ?_ I6.base;rw[<- hH3,<- eh];exact Un.laid (fun _ _ q=>Heap.get?_push_of_some _ q) (xag _) nacc
      have e3:s3.os=s.os:=by rw[<- hs3]
      have os6:s6.os=s.os:=I6.os.trans e3;have J6:Inv X pins σ H5 s6:=I.call' os6 u I6.hok I6.bare fun b hb=>⟨(hf b hb).2.2.2.1,(hf b hb).2.1,(hf b hb).2.2.2.2.1,(hf b hb).2.2.2.2.2⟩;obtain⟨m6,n6,_⟩:=I6.loc;exact fin _ _ s6 H5 m6 J6 (I.fpOk (by rw[es];exact xb6 _) I6.free) n6 q
    . refine thn (T.item (jaW X N' cs cl s3 H3 fp) rfl rfl rfl hc i [] s5 _ H5 _ I5 (stat fr5) st5 hgo) fun r' s6 ⟨u,hr,h6⟩=>?_
      subst hr;refine thn h6 fun _ s7 ⟨y,H7,I7,r7,y7,st7,fr7⟩=>?_;have I7':=I7.pinned (stat fr7) (T.obj _ _ st7);refine wpAny_mono (hg s3 H3 _ s7 _ H7 y u _ I7' r7 (step v0 y H7 l5 y7)) (fun _ s8 ⟨σ8,H8,I8,⟨v8,l8,e8⟩,q8⟩=>?_) fun _ _ z=>z.elim;subst e8;have back:∀{s9:Shared} {H9:Hp} {m':Nat} {xs':List V},Inv (jaW X N' cs cl s3 H3 fp) ([]++jfD fp s7.heap) (v8++jaQ σ ix) H9 s9->m'<n->W (i+1) m' xs' H9 ->
          ∃m,m<n/\∃i v0 H' xs,v0.length=xs0.length/\Inv (jaW X N' cs cl s3 H3 fp) [] (v0++jaQ σ ix) H' s9/\tn i s9.heap/\(∀b∈fp,H' b=none)/\W i m xs H':=fun {s9 H9 m' xs'} I9 hm w9 =>
        ⟨m',hm,i+1,v8,H9,xs',l8,I9.unpinned,T.keep _ _ _ st7 fun b hb o e=>(I9.pin (b,o) (xaz _ (xaz _ (jcN hb e)))).1,fun b hb=>by
          obtain⟨o,e,d⟩:=T.obj _ _ st7 b hb;exact (I9.pin (b,o) (xaz _ (xaz _ (jcN hb e)))).2.1,w9⟩
      refine thn (ht s3 H3 _ _ s8 _ H8 _ (fun _ _ z=>z.elim) I8 q8) fun b s9 ⟨H9,I9,q9⟩=>?_;cases b with
      | false =>
        rw[if_neg xaw] at q9 |-
        obtain⟨m',hm,w9⟩:=hNn H9 q9;exact back I9 hm w9
      | true =>
        rw[if_pos rfl] at q9 |-
        refine wpAny_mono (he s3 H3 _ s9 _ H9 _ I9 q9) (fun u2 s10 ⟨y2,H10,I10,r10,q10⟩=>?_) fun _ _ z=>z.elim;obtain⟨a10,z10,m',hm,w10⟩:=hNx y2 H10 q10;refine wpAny_mono (jaR (X:=jaW X N' cs cl s3 H3 fp) _ s10 _ H10 (.ref s.heap.objs.size) [y2] (.ref s.heap.objs.size) [u2] (fun _ H'=>H'=upd H10 s.heap.objs.size (.lst (xs++[y2]))) I10 rfl (.cons r10 .nil) ⟨_,xs,y2,rfl,rfl,a10,z10,rfl⟩) (fun _ s11 ⟨_,H11,I11,_,e11⟩=>?_) fun _ _ z=>z.elim;subst e11;exact back I11 hm w10
  subst hs3;exact codeAny_compStart_list loop (T.self X.A 0 _ _ _ st4 loop)
end
section
variable {X:Cx} {N' r xs0:List Str} {ix:List Nat} {cs:Scope} {tg iter elt:Expr} {ifs:List Expr} {pos:Pos} {wi:TI} {g:TG} {tt:TT} {te:TE}
theorem CompScopeMC.clos {sc:Scope} {N:List Str} (S:CompScopeMC N sc N' ix xs0 r cs) {env:Env} (he:env.scope=sc) (has:∀y,(env.kindOf y=some .cell\/env.kindOf y=some .free)->∃c,env.cells.lookup y=some c) :
  ∃cl:List (Str × Addr),closureFor cs env=pure cl/\(∀y c,cl.lookup y=some c->env.cells.lookup y=some c)/\(∀y,(y,NameKind.free)∈cs.names->∃c,cl.lookup y=some c) :=
 jdu fun y hy hk=>has y.1 (by
  subst he;exact S.fr y hy hk)
theorem jec (hc:X.calm=true) (S:CompScopeMC X.N X.env.scope N' ix xs0 r cs) (hi:PI X tg iter wi)
  (hg:∀cl s3 H3 fp,PG (jaW X N' cs cl s3 H3 fp) tg g) (ht:∀cl s3 H3 fp,PTs (jaW X N' cs cl s3 H3 fp) ifs tt) (he:∀cl s3 H3 fp,PE (jaW X N' cs cl s3 H3 fp) elt te)
  (hs:∀x,foldedSetIterable iter X.env x=pure x:=by intro _;rfl):PE X (.ListComp elt [⟨tg,iter,ifs,0⟩] cs pos) (jlJ wi ix xs0.length g tt te):=by
 intro pins s σ H Q I h;obtain⟨cl,c1,c2,c3⟩:=S.clos rfl I.ok.has;rw[eval_ListComp];refine wpAny_comprehension_free (use:=none) rfl hs c1 S.kind S.hnames (thn (hi pins s σ H _ I h) fun v s1 h1=>thn h1 fun itv s2 h2=>?_);obtain⟨it,fp,tn,J,H2,e,I2,T,st2,f2,R⟩:=h2;subst e;refine jc2 (RR:=fun acc C=>compPost (model X.prog X.w) X.A X.xe none (EP X pins σ Q) acc C) I2 hc S c2 c3 T st2 f2 (fun s3 H3=>hg cl s3 H3 fp) (fun s3 H3=>ht cl s3 H3 fp) (fun s3 H3=>he cl s3 H3 fp) R ?_;intro acc C s' H' m I' fC hn q;refine⟨m,hn,fun h' hb=>⟨.ref acc,H',?_,rfl,q⟩⟩;exact I'.turned (t':=s'.toks) (fun b o hne e=>(hb.2 b hne).trans e) fC.1 fC.2.1 fC.2.2.2.1 fC.2.2.2.2.1 fC.2.2.2.2.2
end
theorem CompScopeC.mc {N:List Str} {sc:Scope} {N':List Str} {ix:List Nat} {x:Str} {r:List Str} {cs:Scope} (S:CompScopeC N sc N' ix x r cs):CompScopeMC N sc N' ix [x] r cs:=⟨S.eq,S.kind,S.hown,S.hnames,S.nd,S.fr,S.ixs⟩
theorem CompGo.m1 {J:It} {ρ:St} {g:TG} {tt:TT} {te:TE} {acc:Addr} {Z:Hp->Prop} {H1:Hp} (h:CompGo J ρ g tt te acc Z H1):jdw J [("":Str)].length ρ g tt te acc Z H1:=by
 obtain⟨W,h0,hs⟩:=h;refine⟨W,h0,fun i m xs H w=>?_⟩;rcases hs i m xs H w with h | ⟨hg,Nx,Nn,h1,h2,step⟩
 ·exact .inl h
 ·refine .inr ⟨hg,Nx,Nn,h1,h2,fun v0 x H' l0 y=>?_⟩;obtain⟨a,rfl⟩:=List.length_eq_one_iff.mp l0;have e:(fun (σ2:St) (H2:Hp)=>(∃v,σ2=v::ρ)/\tt σ2 H2 fun b H3=>if b=true then te σ2 H3 Nx else Nn H3)=fun σ2 H2=>(∃v:St,v.length=[("":Str)].length/\σ2=v++ρ)/\tt σ2 H2 fun b H3=>if b=true then te σ2 H3 Nx else Nn H3:=by
   funext σ2 H2
   refine congrArg (·/\_) (propext ⟨fun ⟨v,e⟩=>⟨[v],rfl,e⟩,fun ⟨v,l,e⟩=>?_⟩);obtain⟨b,rfl⟩:=List.length_eq_one_iff.mp l;exact⟨b,e⟩
  have:=step a x H' y;rw[e] at this;exact this
section
variable {X:Cx} {N' r:List Str} {ix:List Nat} {x:Str} {cs:Scope} {tg iter elt:Expr} {ifs:List Expr} {pos:Pos} {wi:TI} {g:TG} {tt:TT} {te:TE}
theorem jbb (hc:X.calm=true) (S:CompScopeC X.N X.env.scope N' ix x r cs) (hi:PI X tg iter wi)
  (hg:∀cl s3 H3 fp,PG (jaW X N' cs cl s3 H3 fp) tg g) (ht:∀cl s3 H3 fp,PTs (jaW X N' cs cl s3 H3 fp) ifs tt) (he:∀cl s3 H3 fp,PE (jaW X N' cs cl s3 H3 fp) elt te)
  (hs:∀x,foldedSetIterable iter X.env x=pure x:=by intro _;rfl):PE X (.ListComp elt [⟨tg,iter,ifs,0⟩] cs pos) (jfO wi ix g tt te):=by
 intro pins s σ H Q I h;obtain⟨cl,c1,c2,c3⟩:=S.mc.clos rfl I.ok.has;rw[eval_ListComp];refine wpAny_comprehension_free (use:=none) rfl hs c1 S.kind S.hnames (thn (hi pins s σ H _ I h) fun v s1 h1=>thn h1 fun itv s2 h2=>?_);obtain⟨it,fp,tn,J,H2,e,I2,T,st2,f2,R⟩:=h2;subst e;refine jc2 (RR:=fun acc C=>compPost (model X.prog X.w) X.A X.xe none (EP X pins σ Q) acc C) I2 hc S.mc c2 c3 T st2 f2 (fun s3 H3=>hg cl s3 H3 fp) (fun s3 H3=>ht cl s3 H3 fp) (fun s3 H3=>he cl s3 H3 fp) (fun acc h=>(R acc h).m1) ?_;intro acc C s' H' m I' fC hn q;refine⟨m,hn,fun h' hb=>⟨.ref acc,H',?_,rfl,q⟩⟩;exact I'.turned (t':=s'.toks) (fun b o hne e=>(hb.2 b hne).trans e) fC.1 fC.2.1 fC.2.2.2.1 fC.2.2.2.2.1 fC.2.2.2.2.2
theorem jbI {i:Nat} {y:Str} {py spos:Pos} (hc:X.calm=true) (hN:X.N.Nodup) (hiN:X.N[i]?=some y) (hy:X.env.scope.names.lookup y=some .local) (S:CompScopeC X.N X.env.scope N' ix x r cs) (hi:PI X tg iter wi)
  (hg:∀cl s3 H3 fp,PG (jaW X N' cs cl s3 H3 fp) tg g) (ht:∀cl s3 H3 fp,PTs (jaW X N' cs cl s3 H3 fp) ifs tt) (he:∀cl s3 H3 fp,PE (jaW X N' cs cl s3 H3 fp) elt te)
  (hsw:swapsWith (.ListComp elt [⟨tg,iter,ifs,0⟩] cs pos) (some (.Name y py)) spos.line X.env=pure true:=by rfl)
  (hs:∀x,foldedSetIterable iter X.env x=pure x:=by intro _;rfl):PS X (.Assign [.Name y py] (.ListComp elt [⟨tg,iter,ifs,0⟩] cs pos) spos) (jlv (jfO wi ix g tt te) (jbU i)):=by
 intro pins s σ H D I h;obtain⟨cl,c1,c2,c3⟩:=S.mc.clos rfl I.ok.has;rw[exec_Assign_Name_used _ _ _ _ hsw];refine wpAny_bind (wpAny_standAt (wpAny_bind ?_));show wpAny _ X.A (do let _ <- comprehension (.ListComp elt [⟨tg,iter,ifs,0⟩] cs pos) cs X.env _ (newList []) false (eval iter X.env) (some (assign (.Name y py) X.env))) _ _ s;refine wpAny_bind (wpAny_mono (wpAny_comprehension_free (use:=some (assign (.Name y py) X.env)) (Q:=fun _ s'=>SP X pins D .next s') rfl hs c1 S.kind S.hnames
  (thn (hi pins s σ H _ I h) fun v s1 h1=>thn h1 fun itv s2 h2=>?_)) (fun _ s' hq=>wpAny_pure (wpAny_pure hq)) fun _ _ e=>e)
 obtain⟨it,fp,tn,J,H2,e,I2,T,st2,f2,R⟩:=h2;subst e;refine jc2 (RR:=fun acc C=>compPost (model X.prog X.w) X.A X.xe (some (assign (.Name y py) X.env)) (fun _ s'=>SP X pins D .next s') acc C) I2 hc S.mc c2 c3 T st2 f2 (fun s3 H3=>hg cl s3 H3 fp) (fun s3 H3=>ht cl s3 H3 fp) (fun s3 H3=>he cl s3 H3 fp) (fun acc h=>(R acc h).m1) ?_;intro acc C s' H' m I' fC hn q;show wpAny _ X.A (assign (.Name y py) X.env (.ref acc)) _ _ _;refine wpAny_assign_Name (jfB (v:=.ref acc) I' hN hiN (.inl hy) rfl (fun s'' I'' ⟨a,hb,ha⟩=>?_) (.inr hy));have hCa:C≠a:=fun z=>by
  rcases ha with ha | ha
  ·exact fC.2.1 (z.trans ha)
  ·exact fC.2.2.2.2.1 y a ha z.symm
 refine⟨m,hn.sameBut hb hCa,fun h' hb'=>⟨_,H',?_,q⟩⟩;exact I''.turned (t':=s''.toks) (fun b o hne e=>(hb'.2 b hne).trans e) fC.1 fC.2.1 fC.2.2.2.1 fC.2.2.2.2.1 fC.2.2.2.2.2
end
section
variable {X:Cx} {k:Nat} {ps:List Str} {sp:Sp} {x:Str} {p pos:Pos} {e:Expr} {es:List Expr} {t:TA}
def joJ (M:St->Hp->St->Hp->Prop) (t u:TS):TS:=fun D σ H=>t { D with nx:=M σ H } σ H/\∀σ' H',M σ H σ' H'->u D σ' H'
theorem jkG {st:Stmt} {jbD:List Stmt} {t u:TS} (M:St->Hp->St->Hp->Prop) (h1:PS X st t) (h2:PSs X jbD u):PSs X (st::jbD) (joJ M t u):=by
  intro pins s σ H D I h;refine wpAny_execs_cons (thn (h1 pins s σ H { D with nx:=M σ H } I h.1) fun f s1 q=>?_);cases f with
  | next =>
    obtain⟨σ',H',I',q⟩:=q;exact h2 pins s1 σ' H' D I' (h.2 σ' H' q)
  | ret v=>exact q
  | brk=>exact q
  | cont=>exact q
end
section
open PySem.AutoSeq1 (wpAny_loadPart')
open PySem.MeetsSeq3 (plain_eq_loop entry_eq_loop)
end
section
variable {X:Cx}
def rCatE (K:PySem.W.Frag):R2:=fun x y H Q=>∃a b xs ys,x=.ref a/\y=.ref b/\SqT K H a xs/\SqT K H b ys/\ys≠[]/\xs.length+ys.length<=sizeLine /\
 (xs=[]->Q (.ref b) H)/\(xs≠[]->∀p,H p=none->Q (.ref p) (upd H p (.tup (xs++ys))))
theorem jmX:OpR X (binaryOp .Add) (rCatE X.K):=by
 intro pins s σ H x y v u Q I rx ry h;obtain⟨a,b,xs,ys,rfl,rfl,ha,hb,hy,hz,q1,q2⟩:=h;by_cases hx:xs=[]
 ·cases rx;cases ry;obtain⟨its,r1,p1,_⟩:=I.tuple ha;obtain⟨its2,r2,p2,_⟩:=I.tuple hb;have e0:its=[]:=r1.nil_iff.mpr hx;obtain⟨⟨cls,dd,data,sl⟩,ho,hc,n,hd⟩:=id p1;obtain⟨⟨cls2,dd2,data2,sl2⟩,ho2,hc2,n2,hd2⟩:=id p2;simp only at hc hd hc2 hd2;subst hc hd hc2 hd2;exact concat_meets ⟨_,ho,rfl⟩ ⟨_,ho2,rfl⟩ noFill_tuple_add seq_tuple_add PySem.F.slot_tuple_add PySem.F.entry_tuple_add (PySem.F.args_tuple_add_2 _ _)
   (tuple_addW0 a b its.toArray its2.toArray n n2 dd dd2 sl sl2 (by simp [e0])) ⟨ho,ho2,⟨.ref b,H,I,rfl,q1 hx⟩⟩
 ·exact jeZ pins s σ H _ _ v u Q I rx ry ⟨a,b,xs,ys,rfl,rfl,ha,hb,hx,hz,fun z=>absurd z hy,fun _=>q2 hx⟩
def gOr (g1 g2:TG):TG:=fun v σ H Q=>g1 v σ H Q\/g2 v σ H Q
theorem pg_or {tg:Expr} {g1 g2:TG} (h1:PG X tg g1) (h2:PG X tg g2):PG X tg (gOr g1 g2):=by
 intro pins s σ H v u Q I r h;rcases h with h | h
 ·exact h1 pins s σ H v u Q I r h
 ·exact h2 pins s σ H v u Q I r h
end
end L2
namespace HT
open PySem PyProof.Rows
section
variable {prog:Program} {w:World} {A:Around} {E:Value->Shared->Prop} {s:Shared}
theorem getItem_tuple_all {t sl:Addr} {items:Array Value} {vl vu:Value} {lo hi:Option Int} {Q:Value->Shared->Prop} (ht:IsTup s.heap t items) (hs:s.heap.IsSliceOf sl vl vu .none) (pl:IsPart vl lo) (pu:IsPart vu hi)
  (hw:sIx items.size 0 lo=0/\sIx items.size items.size hi=items.size)
  (h:Q (.ref t) s)
  (hsz:items.size<=sizeLine):wpAny (model prog w) A (getItem (.ref t) (.ref sl)) Q E s:=by
 have hj:sIx items.size items.size hi<=items.size:=jlz _ _ (xag _) hi;obtain⟨os,hos,hcs,hds⟩:=id hs;have hTs:s.TypeIs (.ref sl) "slice":=⟨os,hos,hcs⟩;unfold getItem;try with_reducible refine wpAny_holding ?_
 first | refine wpAny_bind (wpAny_pure ?_) | skip
 refine wpAny_bind (wpAny_sequenceKey ht.typeIs (by decide) ?_);refine wpAny_bind (wpAny_callSpecial?_slot (name:=Str.ofString "__getitem__") ht.typeIs PyProof.Rows.slot_tuple_getitem
  (wpAny_call_entry PyProof.Rows.slot_tuple_getitem ht.typeIs entry_tuple_getitem ?_ (args_tuple_getitem _ _)))
 show wpAny _ _ (Builtin.Tuple.tupleItemsOf (.ref t) >>= _) _ _ s;refine wpAny_bind (tupleItemsOf_ ht ?_);refine wpAny_bind (wpAny_typeOf hTs ?_);rw[if_pos (by decide)];refine wpAny_bind (jcl hs pl pu ?_);have hyes:((((sIx items.size 0 lo:Nat):Int)==0&&(1:Int)==1&&(sIx items.size items.size hi-sIx items.size 0 lo)==items.size)=true):=by
  rw[hw.1,hw.2,Nat.sub_zero];simp
 show wpAny _ _ (if (((sIx items.size 0 lo:Nat):Int)==0&&(1:Int)==1&&(sIx items.size items.size hi-sIx items.size 0 lo)==items.size)=true then _ else _) _ _ s;rw[if_pos hyes];unfold Builtin.Tuple.tupleIsExact;refine wpAny_bind (wpAny_bind (wpAny_typeOf ht.typeIs (wpAny_pure ?_)));rw[if_pos (by decide)]
 repeat (first | exact⟨_,rfl,wpAny_pure h⟩ | wp_step)
end
end HT
namespace L2
open PySem PySem.Spec PyProof.Rows
section
variable {X:Cx}
def joK (K:PySem.W.Frag):V->Option Int->Option Int->Hp->VK->Prop:=fun x lo hi H Q=>∃a xs,x=.ref a/\SqT K H a xs/\(HT.sIx xs.length 0 lo=0/\HT.sIx xs.length xs.length hi=xs.length)/\Q (.ref a) H
theorem jmY:SlR X (joK X.K):=by
 intro pins s σ H x v vl vu lo hi sl Q I rx hs pl pu h;obtain⟨a,xs,rfl,hx,hw,q⟩:=h;cases rx;obtain⟨its,r,ht,hz⟩:=I.tuple hx;have hlen:its.toArray.size=xs.length:=by rw[xak];exact r.length.symm
 refine⟨"tuple",_,PyProof.Rows.slot_tuple_getitem.lookup,ht.typeIs,?_⟩;exact HT.getItem_tuple_all ht hs pl pu (by rw[hlen];exact hw) ⟨.ref a,H,I,rfl,q⟩ (by rw[hlen];exact hz)
theorem joL:SlR X (fun x l u H Q=>(rSlL X.K x l u H Q\/rSlT X.K x l u H Q)\/joK X.K x l u H Q):=(sl_list.or jfJ).or jmY
end
section
variable {κ:Type} [DecidableEq κ]
def joM (kvs:List (κ × V)) (k:κ):List (κ × V):=kvs.filter fun kv=>decide (kv.1≠k)
theorem RelO.getD {o:Option V} {u:Option Value} {d:V} {d':Value} (r:RelO o u) (rd:RelV d d'):RelV (o.getD d) (u.getD d'):=by
  cases o with
  | none => cases u with
    | none=>exact rd
    | some _=>exact (show False from r).elim
  | some _ => cases u with
    | none=>exact (show False from r).elim
    | some _=>exact r
theorem KV.any {kvs:List (κ × V)} {vs:List (κ × Value)} (r:KV kvs vs) (k:κ):(kvs.any fun kv=>decide (kv.1=k))=vs.any fun kv=>decide (kv.1=k):=by
 unfold KV at r;induction r with
 | nil=>rfl
 | cons h t ih=>rw[xcA,xcA,ih,h.1]
theorem KV.drop {kvs:List (κ × V)} {vs:List (κ × Value)} (r:KV kvs vs) (k:κ):KV (joM kvs k) (without vs k):=by
  unfold KV at r |-
  unfold joM without;induction r with
  | nil=>exact .nil
  | @cons p q ps qs h t ih =>
    obtain⟨h1,h2⟩:=h;rw[xaI,xaI];by_cases e:p.1=k
    . have a:¬decide (p.1≠k)=true:=by simp [e]
      have b:¬decide (q.1≠k)=true:=by simp [h1.symm.trans e]
      rw[if_neg a,if_neg b];exact ih
    . have e':¬q.1=k:=fun z=>e (h1.trans z)
      have a:decide (p.1≠k)=true:=by simp [e]
      have b:decide (q.1≠k)=true:=by simp [e']
      rw[if_pos a,if_pos b];exact .cons ⟨h1,h2⟩ ih
theorem KV.length {kvs:List (κ × V)} {vs:List (κ × Value)} (r:KV kvs vs):kvs.length=vs.length:=Paired.length r
end
end L2
namespace L2
open PySem PySem.Spec PyProof.Rows
def kev {α:Type} (n:Nat) (lt:Nat->Nat->Bool):PySem.W.KasT α->Option α
 | .ret a=>some a
 | .ask i j f=>if i<n/\j<n/\i≠j then kev n lt (f (lt i j)) else none
theorem jlL {α:Type} {n:Nat} {lt:Nat->Nat->Bool} {cmp:Nat->Nat->(Bool->Shared->Prop)->Shared->Prop} {P:Shared->Prop} (hc:∀i j C s,i<n->j<n->i≠j->P s->(∀s',P s'->C (lt i j) s')->cmp i j C s):∀(t:PySem.W.KasT α) (a:α) (Q:α->Shared->Prop) (s:Shared),kev n lt t=some a->P s->(∀s',P s'->Q a s')->PySem.W.KasT.kasWp cmp t Q s
  | .ret b, a, Q, s, e, hs, hq => by
    have e:some b=some a:=e;cases e;exact hq s hs
  | .ask i j f, a, Q, s, e, hs, hq => by
    have e:(if i<n/\j<n/\i≠j then kev n lt (f (lt i j)) else none)=some a:=e;by_cases c:i<n/\j<n/\i≠j
    . rw[if_pos c] at e
      exact hc i j _ s c.1 c.2.1 c.2.2 hs fun s' hs'=>jlL hc (f (lt i j)) a Q s' e hs' hq
    . rw[if_neg c] at e
      cases e
theorem jfU {α:Type} {n:Nat} {lt lt':Nat->Nat->Bool} (h:∀i j,i<n->j<n->lt i j=lt' i j):∀t:PySem.W.KasT α,kev n lt t=kev n lt' t
  | .ret _=>rfl
  | .ask i j f => by
    show (if i<n/\j<n/\i≠j then kev n lt (f (lt i j)) else none)=if i<n/\j<n/\i≠j then kev n lt' (f (lt' i j)) else none;by_cases c:i<n/\j<n/\i≠j
    . rw[if_pos c,if_pos c,h i j c.1 c.2.1]
      exact jfU h _
    . rw[if_neg c,if_neg c]
def rows (n:Nat):Nat->List (List Nat)
 | 0=>[[]]
 | k+1=>(List.range n).flatMap fun x=>(rows n k).map (x::·)
theorem jg2 {n:Nat}:∀{k:Nat} {r:List Nat},r.length=k->(∀x∈r,x<n)->r∈rows n k
  | 0, r, h, _ => by
    rw[xaE.mp h];exact .head _
  | k + 1, r, h, hx => by
    cases r with
    | nil=>cases h
    | cons x r =>
      exact xbF.mpr ⟨x,xaF.mpr (hx x (.head _)),xao.mpr ⟨r,jg2 (by simpa using h) fun y hy=>hx y (.tail _ hy),rfl⟩⟩
def srt (r:List Nat):List Nat->Bool
 | x::y::l=>decide (r.getD x 0<=r.getD y 0)&&srt r (y::l)
 | _=>true
def chkS (n:Nat) (r:List Nat):Bool :=
 match kev n (fun i j=>decide (r.getD i 0<r.getD j 0)) (PySem.W.kas_sort n) with
 | some p=>p.toList.isPerm (List.range n)&&srt r p.toList
 | none=>false
set_option maxRecDepth 100000 in
theorem jmZ:∀n,n<=5->((rows n n).all fun r=>chkS n r)=true:=by decide +kernel
theorem jlM {r:List Nat}:∀{l:List Nat},srt r l=true->l.Pairwise fun x y=>r.getD x 0<=r.getD y 0
  | [],_=>.nil
  | [x],_=>.cons (fun _ h=>nomatch h) .nil
  | x :: y :: l, h => by
    have h:(decide (r.getD x 0<=r.getD y 0)&&srt r (y::l))=true:=h;rw[xbE] at h;have ih:=jlM h.2;have h1:=of_decide_eq_true h.1;refine .cons (fun z hz=>?_) ih;rcases xaG.mp hz with rfl | hz
    . exact h1
    . exact xav h1 ((xbW.mp ih).1 z hz)
theorem je8 {p q:Nat->Bool}:∀{l:List Nat},(∀x∈l,p x=true->q x=true)->(∃x∈l,q x=true/\p x=false)->l.countP p<l.countP q
  | [],_,⟨_,h,_⟩=>nomatch h
  | y :: l, h, ⟨x, hx, hq, hp⟩ => by
    have le:l.countP p<=l.countP q:=List.countP_mono_left fun x hx=>h x (.tail _ hx);rw[List.countP_cons,List.countP_cons];rcases xaG.mp hx with rfl | hx
    . rw[hq,hp,if_pos rfl,if_neg (by decide)]
      omega
    . have lt:=je8 (fun x hx=>h x (.tail _ hx)) ⟨x,hx,hq,hp⟩
      by_cases c:p y=true
      . rw[if_pos c,if_pos (h y (.head _) c)]
        omega
      . rw[if_neg c]
        omega
def rk (ks:List Int) (i:Nat):Nat:=(List.range ks.length).countP fun j=>decide (ks.getD j 0<ks.getD i 0)
theorem jlN {ks:List Int} {i j:Nat} (hi:i<ks.length):rk ks i<rk ks j↔ks.getD i 0<ks.getD j 0:=by
 constructor
 ·intro h;refine Int.not_le.mp fun z=>?_;have:rk ks j<=rk ks i:=List.countP_mono_left fun x _ hx=>decide_eq_true (Int.lt_of_lt_of_le (of_decide_eq_true hx) z);omega
 ·intro h;exact je8 (fun x _ hx=>decide_eq_true (Int.lt_trans (of_decide_eq_true hx) h)) ⟨i,xaF.mpr hi,decide_eq_true h,decide_eq_false (Int.lt_irrefl _)⟩
theorem rk_lt {ks:List Int} {i:Nat} (hi:i<ks.length):rk ks i<ks.length:=by
 have z:rk ks i<(List.range ks.length).countP fun _=>true:=je8 (fun _ _ _=>rfl) ⟨i,xaF.mpr hi,rfl,decide_eq_false (Int.lt_irrefl _)⟩;rw[List.countP_true,xa9] at z;exact z
theorem jiC (ks:List Int) (n5:ks.length<=5):∃p:Array Nat,kev ks.length (fun i j=>decide (ks.getD i 0<ks.getD j 0)) (PySem.W.kas_sort ks.length)=some p/\p.toList.Perm (List.range ks.length)/\p.toList.Pairwise fun i j=>ks.getD i 0<=ks.getD j 0:=by
  have gr:∀i,i<ks.length->((List.range ks.length).map (rk ks)).getD i 0=rk ks i:=fun i hi=>by
    rw[xab,xae,xb7 hi];rfl
  have h:=xbU.mp (jmZ ks.length n5) ((List.range ks.length).map (rk ks)) (jg2 (by rw[xaa,xa9]) fun x hx=>by
    obtain⟨i,hi,rfl⟩:=xao.mp hx;exact rk_lt (xaF.mp hi))
  unfold chkS at h;rw[jfU (lt':=fun i j=>decide (ks.getD i 0<ks.getD j 0)) (fun i j hi hj=>by
    rw[gr i hi,gr j hj];exact decide_eq_decide.mpr (jlN hi))] at h
  cases e:kev ks.length (fun i j=>decide (ks.getD i 0<ks.getD j 0)) (PySem.W.kas_sort ks.length) with
  | none=>rw[e] at h;cases h
  | some p =>
    rw[e] at h;have h:(p.toList.isPerm (List.range ks.length)&&srt ((List.range ks.length).map (rk ks)) p.toList)=true:=h;rw[xbE,List.isPerm_iff] at h;refine⟨p,rfl,h.1,?_⟩;refine List.Pairwise.imp_of_mem (fun {i j} hi hj q=>?_) (jlM h.2);have li:=xaF.mp (h.1.mem_iff.mp hi);have lj:=xaF.mp (h.1.mem_iff.mp hj);rw[gr i li,gr j lj] at q;refine Int.not_lt.mp fun z=>?_;have:=(jlN lj).mpr z;omega
theorem jiD {P:Program} {w:World} {H:Hp} {h:Heap} (ok:HOk P w H h):∀{rs:List Addr} {ks:List Int},rs.length=ks.length->(∀(i:Nat) (r:Addr) (k:Int),rs[i]?=some r->ks[i]?=some k->∃tl,H r=some (.tup (.int k::tl)))->∃fs:List Value,fs.length=ks.length/\PySem.W.KatTups h (rs.map Value.ref) fs/\(∀v∈fs,∃k t,v=.int k t)/\∀(i:Nat) (r:Addr) (k:Int),rs[i]?=some r->ks[i]?=some k->∃o xs n t,h.get? r=some o/\o.data=.seq xs n/\∃tl,xs.toList=.int k t::tl
  | [],[],_,_=>⟨[],rfl,True.intro,(fun _ z=>nomatch z),fun _ _ _ z=>nomatch z⟩
  | [],_::_,l,_=>by cases l
  | _::_,[],l,_=>by cases l
  | a :: rs, k :: ks, l, hp => by
    obtain⟨fs,f1,f2,f3,f4⟩:=jiD ok (rs:=rs) (ks:=ks) (by simpa using l) fun i r k e1 e2=>hp (i+1) r k e1 e2;obtain⟨tl,et⟩:=hp 0 a k rfl rfl;obtain⟨_,its,rv,o,ho,hc,n,hd⟩:=(show ObjOk P w H h a (.tup (.int k::tl)) from ok a _ et);cases rv with
    | @cons x u xs us r1 r2 =>
      obtain⟨t,rfl⟩:=r1;refine⟨.int k t::fs,by rw[xaA,xaA,f1],⟨⟨a,o,_,n,rfl,ho,hc,hd,by simp⟩,f2⟩,fun v hv=>?_,fun i r k' e1 e2=>?_⟩
      . rcases xaG.mp hv with rfl | hv
        . exact⟨k,t,rfl⟩
        . exact f3 v hv
      . cases i with
        | zero=>cases e1;cases e2;exact⟨o,_,n,t,ho,hd,us,rfl⟩
        | succ i=>exact f4 i r k' e1 e2
theorem jkH {prog:Program} {w:World} {A:Around} {E:Value->Shared->Prop} {s:Shared} {x y:Int} {t u:Tok} {Q:Bool->Shared->Prop} (h:Q (decide (x<y)) s):wpAny (model prog w) A (oneLt' true (.int x t) (.int y u)) Q E s:=PySem.W.kat_lt_int h
theorem jcs:∀(rs:List Addr),Vals (rs.map V.ref) (rs.map Value.ref)
 | []=>.nil
 | _::rs=>.cons rfl (jcs rs)
end L2
set_option maxHeartbeats 2000000
namespace L2
open PySem PySem.Spec PyProof.Rows
def Rise (xs:Array Nat):Prop:=∀i j,i<j->j<xs.size->xs.getD i 0<xs.getD j 0
theorem jiE {xs:Array Nat} {j:Nat} (R:Rise xs):∀(f lo hi:Nat),hi-lo<=f->lo<=hi->hi<=xs.size->(∀i,i<lo->xs.getD i 0<j)->(∀i,hi<=i->i<xs.size->j<=xs.getD i 0)->∃p,SetTable.below.go xs j f lo hi=p/\p<=xs.size/\(∀i,i<p->xs.getD i 0<j)/\∀i,p<=i->i<xs.size->j<=xs.getD i 0
  | 0,lo,hi,h,l,hs,h1,h2=>⟨lo,rfl,by omega,h1,fun i h3 h4=>h2 i (by omega) h4⟩
  | f + 1, lo, hi, h, l, hs, h1, h2 => by
    unfold SetTable.below.go;by_cases c:lo<hi
    . rw[if_pos c]
      dsimp only;have m1:lo<=(lo+hi) / 2:=by omega
      have m2:(lo+hi) / 2<hi:=by omega
      have gm:xs.getD ((lo+hi) / 2) j=xs.getD ((lo+hi) / 2) 0:=by
        rw[Array.getD_eq_getD_getElem?,Array.getD_eq_getD_getElem?,Array.getElem?_eq_getElem (show (lo+hi) / 2<xs.size by omega)];rfl
      rw[gm];by_cases d:xs.getD ((lo+hi) / 2) 0<j
      . rw[if_pos d]
        refine jiE R f _ hi (by omega) (by omega) hs (fun i h3=>?_) h2;rcases Nat.lt_or_ge i ((lo+hi) / 2) with z | z
        . exact Nat.lt_trans (R i _ z (by omega)) d
        . rw[show i=(lo+hi) / 2 by omega];exact d
      . rw[if_neg d]
        refine jiE R f lo _ (by omega) (by omega) (by omega) h1 (fun i h3 h4=>?_);rcases Nat.lt_or_ge ((lo+hi) / 2) i with z | z
        . have:=R _ i z h4;omega
        . rw[show i=(lo+hi) / 2 by omega];omega
    . rw[if_neg c]
      exact⟨lo,rfl,by omega,h1,fun i h3 h4=>h2 i (by omega) h4⟩
theorem blw {xs:Array Nat} {j:Nat} (R:Rise xs):SetTable.below xs j<=xs.size/\(∀i,i<SetTable.below xs j->xs.getD i 0<j)/\∀i,SetTable.below xs j<=i->i<xs.size->j<=xs.getD i 0:=by
 obtain⟨p,e,h⟩:=jiE (j:=j) R xs.size 0 xs.size (by omega) (xaO _) (xag _) (fun i h=>absurd h (xaK _)) fun i h1 h2=>absurd h2 (by omega);unfold SetTable.below;rw[e];exact h
theorem jg3 {xs:Array Nat} {p x:Nat} (h:p<=xs.size) (i:Nat):(SetTable.insertAt xs p x).getD i 0=if i<p then xs.getD i 0 else if i=p then x else xs.getD (i-1) 0:=by
 have l:=SetTable.toList_insertAt xs p x;rw[Array.getD_eq_getD_getElem?,<- Array.getElem?_toList,l];by_cases c:i<p
 ·rw[if_pos c,xaD (by rw[xah,Array.length_toList];omega),List.getElem?_take_of_lt c,Array.getElem?_toList,Array.getD_eq_getD_getElem?]
 ·rw[if_neg c,xau (by rw[xah];omega),xah,Array.length_toList,xbf h];by_cases d:i=p
  ·rw[if_pos d,d,xcs];rfl
  ·rw[if_neg d,show i-p=(i-1-p)+1 by omega,xb9,xbI,show p+(i-1-p)=i-1 by omega,Array.getElem?_toList,Array.getD_eq_getD_getElem?]
theorem jkI {α:Type} {xs:Array α} {p:Nat} {x:α}:(SetTable.insertAt xs p x).size=xs.size+1:=by
 have h:=(SetTable.insertAt_perm xs p x).length_eq;rw[Array.length_toList,Array.length_toList,Array.size_push] at h;exact h
theorem Rise.ins {xs:Array Nat} {x:Nat} (R:Rise xs) (n:xs[SetTable.below xs x]?≠some x):Rise (SetTable.insertAt xs (SetTable.below xs x) x):=by
 obtain⟨b1,b2,b3⟩:=blw (j:=x) R;have b4:∀i,SetTable.below xs x<=i->i<xs.size->x<xs.getD i 0:=fun i h1 h2=>by
  have h3:=b3 i h1 h2;have h5:SetTable.below xs x<xs.size:=by omega
  have h4:xs.getD (SetTable.below xs x) 0≠x:=fun e=>n (by
   rw[Array.getElem?_eq_getElem h5];rw[Array.getD_eq_getD_getElem?,Array.getElem?_eq_getElem h5] at e;exact congrArg some e)
  have h6:=b3 _ (xag _) h5;rcases Nat.lt_or_ge (SetTable.below xs x) i with z | z
  ·have:=R _ i z h2;omega
  ·rw[show i=SetTable.below xs x by omega];omega
 intro i j ij hj;rw[jkI] at hj;rw[jg3 b1,jg3 b1];by_cases c1:i<SetTable.below xs x
 ·rw[if_pos c1];by_cases c2:j<SetTable.below xs x
  ·rw[if_pos c2];exact R i j ij (by omega)
  ·rw[if_neg c2];by_cases c3:j=SetTable.below xs x
   ·rw[if_pos c3];exact b2 i c1
   ·rw[if_neg c3];exact R i (j-1) (by omega) (by omega)
 ·rw[if_neg c1,if_neg (show ¬j<SetTable.below xs x by omega),if_neg (show ¬j=SetTable.below xs x by omega)];by_cases c3:i=SetTable.below xs x
  ·rw[if_pos c3];exact b4 (j-1) (by omega) (by omega)
  ·rw[if_neg c3];exact R (i-1) (j-1) (by omega) (by omega)
structure Tb (bt:Bool) (t:SetTable):Prop where
 led:t.led=!bt
 dum:t.dummies=#[]
 rise:Rise t.place
theorem Tb.fresh {bt:Bool}:Tb bt (SetTable.fresh 0 0 !bt):=⟨rfl,rfl,fun i j _ h=>absurd h (xaK _)⟩
end L2
set_option maxHeartbeats 2000000
namespace L2
open PySem PySem.Spec PyProof.Rows
theorem jgt {prog:Program} {w:World} {A:Around} {E:Value->Shared->Prop} {s:Shared} {b:Addr} {Q:Bool->Shared->Prop} (h:Q true s):wpAny (model prog w) A (eqBool (.ref b) (.ref b)) Q E s:=by
 unfold eqBool;refine wpAny_holding ?_;rw[if_pos (beq_self_eq_true (Value.ref b))];exact wpAny_bind (wpAny_rule (wpAny_pure h))
section
variable {prog:Program} {w:World} {A:Around} {E:Value->Shared->Prop} {s:Shared} {l:Addr} {T:String} {o:Obj} {n:Nat} {vs:List Value} {Q:Value->Shared->Prop}
theorem jeG (hT:T="list"\/T="tuple") (ho:s.heap.get? l=some o) (hc:o.cls=.type T) (hd:o.data=.seq vs.toArray n) (h64:vs.length<64)
  (h:∀g:Heap,(∀c u,s.heap.get? c=some u->g.get? c=some u)->wpAny (model prog w) A.in1.in1 (Builtin.«list.sort» ⟨[.ref g.objs.size],[]⟩) (fun f u=>∃v,f=.done (.ret v)/\Q (.ref g.objs.size) u) (fun _ _=>False) { s with heap:=g.push (seqObj "list" vs.toArray 0) }) :
  wpAny (model prog w) A (call (.builtin "sorted") [.ref l]) Q E s :=
 Calls.call_function_entry kind_sorted plain_sorted entry_sorted (args_sorted1 _) <| by
  have z:vs.length<=sizeLine:=by rw[sizeLine_eq];omega
  unfold Builtin.«sorted»;refine wpAny_bind (m:=checkCount _ _ _ _) <| wpAny_pure <| wpAny_bind <| PySem.wpAny_collect_seq l hT ho hc hd (fun g kg=>?_) (by rw[xak];exact z)
  show wpAny _ _ (newList vs >>= _) _ _ _;refine wpAny_bind <| wpAny_newList (wpAny_bind <| wpAny_holding <| wpAny_call_entry slot_list_sort ⟨_,Heap.get?_push_size g rfl,rfl⟩ entry_list_sort ?_ (args_list_sort _)) z
  refine wpAny_mono (h g kg) (fun f u hf=>?_) fun _ _ x=>x.elim;obtain⟨v,rfl,hq⟩:=hf;exact⟨_,rfl,wpAny_pure ⟨_,rfl,hq⟩⟩
theorem jhR {a:Addr} {P:Fin->Shared->Prop} (at0:s.heap.get? a=some (seqObj "list" vs.toArray n)) (short:vs.length<2) (h:P (.done (.ret .none)) { s with heap:=sortedHeap s.heap a vs vs.toArray }):wpAny (model prog w) A (Builtin.«list.sort» ⟨[.ref a],[]⟩) P E s:=by
 have lt:=Heap.lt_size at0;have z:vs.length<=sizeLine:=by rw[sizeLine_eq];omega
 have two:vs.toArray.size<2:=by simpa using short
 obtain⟨k,at1⟩:∃k,(s.heap.update a (Obj.mapSeq fun _=>#[])).get? a=some (seqObj "list" #[] k):=⟨_,get?_update_seq at0 _⟩;have at2:=Heap.get?_push_of_some (seqObj "list" #[] 0) (Heap.get?_push_of_some (seqObj "tuple" vs.toArray 0) at1);rw[list_sort_plain];refine wpAny_bind <| listItems_at at0 rfl <| wpAny_bind <| listUpdate_at at0 rfl <| wpAny_bind <| seqEpoch_at at1 rfl <| wpAny_bind <| wpAny_newTuple (wpAny_bind <| wpAny_newList <| wpAny_holding ?_) z
 rw[if_pos two,if_pos two];refine wpAny_bind <| wpAny_pure ?_
 dsimp only;rw[StateT.run_pure];refine wpAny_bind <| wpAny_pure ?_
 have snd:(arrOf (SortSt.mk' general' (vs.toArray.zip vs.toArray) #[] 7 none)).map (·.2)=vs.toArray:=Array.toList_inj.mp (by
  show ((vs.toArray.zip vs.toArray).map (·.2)).toList=_;simp only[Array.toList_map,Array.toList_zip];exact List.map_snd_zip (xag _))
 dsimp only;rw[snd];refine wpAny_bind <| seqEpoch_at at2 rfl <| wpAny_bind <| listUpdate_at at2 rfl ?_ (hsz2:=by rw[xak];omega)
 rw[show (k != k)=false from bne_self_eq_false k];exact wpAny_pure h
theorem jhS (hT:T="list"\/T="tuple") (ho:s.heap.get? l=some o) (hc:o.cls=.type T) (hd:o.data=.seq vs.toArray n) (h2:vs.length<2)
  (h:∀(D:Addr) (h':Heap) (e:Nat),(∀o,s.heap.get? D≠some o)->(∀b o,s.heap.get? b=some o->h'.get? b=some o)->h'.get? D=some (seqObj "list" vs.toArray e)->Q (.ref D) { s with heap:=h' }):wpAny (model prog w) A (call (.builtin "sorted") [.ref l]) Q E s :=
 jeG hT ho hc hd (by omega) fun g kg=>jhR (n:=0) (Heap.get?_push_size g rfl) h2 <| by
  obtain⟨e,he⟩:=sortedHeap_at (vs:=vs) (out:=vs.toArray) (n:=0) (Heap.get?_push_size g (o:=seqObj "list" vs.toArray 0) rfl);refine⟨_,rfl,h _ _ e (fun u hu=>xbg _ (Heap.lt_size (kg _ _ hu))) (fun b u hu=>?_) he⟩;have hb:=kg b u hu;have lt:=Heap.lt_size hb;rw[sortedHeap_old (xaL lt) (by rw[size_push'];exact xbO lt)];exact Heap.get?_push_of_some _ hb
theorem jgu {h₀:Heap} {L:Addr} {m:Str->Option Value} {news:List (Addr × Obj)} (F:Fr h₀ L s.heap m) (N:News h₀ L s.heap news) (hT:T="list"\/T="tuple") (ho:s.heap.get? l=some o) (hc:o.cls=.type T) (hd:o.data=.seq vs.toArray n) (h2:2<=vs.length) (h64:vs.length<64)
  (hs:∀D k h',Fr h₀ L h' m->News h₀ L h' ((D,seqObj "list" #[] k)::news)->(∀q∈news,q.1<D)->wpAny (model prog w) A.in1.in1 (keyKind' vs.toArray) (fun κ u=>PySem.W.KasT.kasWp (PySem.W.kas_ask prog w A.in1.in1 κ vs) (PySem.W.kas_sort vs.length) (fun p u'=>PySem.W.KasFin h₀ L m D k (p.toList.map fun i=>vs.getD i Value.none) (fun u3=>Q (.ref D) u3) u') u) (fun _ _=>False) { s with heap:=h' }) :
  wpAny (model prog w) A (call (.builtin "sorted") [.ref l]) Q E s :=
 jeG hT ho hc hd h64 fun g kg=>by
  have Fg:=F.kept kg;have kp:∀c u,s.heap.get? c=some u->(g.push (seqObj "list" vs.toArray 0)).get? c=some u:=fun c u e=>Heap.get?_push_of_some _ (kg c u e);have under:∀q∈news,q.1<g.objs.size:=fun q hq=>Heap.lt_size (kg _ _ (N q hq).1);refine PySem.W.kat_list_sort (s:={ s with heap:=g.push (seqObj "list" vs.toArray 0) }) (F.kept kp) (N.grown kp) (Heap.get?_push_size g rfl) (Nat.ne_of_gt Fg.ns.lt) (Heap.get?_none_of_le (xav Fg.above (xaQ Fg.ns.lt))) (fun q hq=>xaL (under q hq)) h2 h64 fun k g' F' N'=>?_;refine wpAny_mono (hs _ k g' F' N' under) (fun κ u hk=>?_) fun _ _ x=>x;rw[PySem.W.kat_ask_eq rfl] at hk |-
  exact PySem.W.kas_wp_mono hk fun p u' hu=>hu.mono fun u3 hq=>⟨_,rfl,hq⟩
end
section
variable {X:Cx}
def joN:List V->Hp->VK->Prop:=fun xs H Q=>∃(p:Addr) (rs:List Addr) (ks:List Int),xs=[.ref p]/\(H p=some (.lst (rs.map V.ref))\/H p=some (.tup (rs.map V.ref)))/\rs.length=ks.length/\rs.length<=5/\(∀i j,i<ks.length->j<ks.length->ks.getD i 0=ks.getD j 0->rs.getD i 0=rs.getD j 0)/\(∀(i:Nat) (r:Addr) (k:Int),rs[i]?=some r->ks[i]?=some k->∃b,H r=some (.tup [.int k,.ref b]))/\∀(l:Addr) (is:List Nat),H l=none->is.Perm (List.range ks.length)->(is.Pairwise fun i j=>ks.getD i 0<=ks.getD j 0)->Q (.ref l) (upd H l (.lst (is.map fun i=>V.ref (rs.getD i 0))))
theorem jkJ {P:Program} {w:World} {H:Hp} {h:Heap} (ok:HOk P w H h) {rs:List Addr} {ks:List Int} (hp:∀(i:Nat) (r:Addr) (k:Int),rs[i]?=some r->ks[i]?=some k->∃b,H r=some (.tup [.int k,.ref b])):∀(i:Nat) (r:Addr) (k:Int),rs[i]?=some r->ks[i]?=some k->∃o xs n t b,h.get? r=some o/\o.data=.seq xs n/\xs.toList=[.int k t,.ref b]:=fun i r k e1 e2=>by
  obtain⟨b,et⟩:=hp i r k e1 e2;obtain⟨_,its,rv,o,ho,hc,n,hd⟩:=(show ObjOk P w H h r (.tup [.int k,.ref b]) from ok r _ et);cases rv with
  | @cons x u xs us r1 r2 =>
    obtain⟨t,rfl⟩:=r1;cases r2 with
    | @cons x2 u2 xs2 us2 r3 r4 =>
      cases r3;cases r4;exact⟨o,_,n,t,b,ho,hd,by simp⟩
theorem jeH:CallR X (.builtin "sorted") joN:=by
  intro pins s σ H xs us Q I r h;obtain⟨p,rs,ks,rfl,hp,hl,n5,nd,ht,q⟩:=h;obtain⟨u,rfl,rx⟩:=jfE r;cases rx;obtain⟨T,o,n,hT,ho,hc,hd⟩:∃(T:String) (o:Obj) (n:Nat),(T="list"\/T="tuple")/\s.heap.get? p=some o/\o.cls=.type T/\o.data=.seq (rs.map Value.ref).toArray n:=by
    rcases hp with hp | hp
    . obtain⟨its,n,rv,ho,hz⟩:=I.lst hp
      obtain rfl:its=rs.map Value.ref:=jeb rv;exact⟨"list",_,n,.inl rfl,ho,rfl,rfl⟩
    . obtain⟨_,its,rv,o,ho,hc,n,hd⟩:=(show ObjOk _ _ H s.heap p (.tup (rs.map V.ref)) from I.hok p _ hp)
      obtain rfl:its=rs.map Value.ref:=jeb rv;exact⟨"tuple",o,n,.inr rfl,ho,hc,hd⟩
  have hz:(rs.map V.ref).length<=sizeLine:=by rw[xaa,sizeLine_eq];omega
  by_cases n2:rs.length<2
  . refine jhS hT ho hc hd (by rw[xaa]; exact n2) fun D h' e le kk ge=>?_
    have hn:H D=none:=by
      cases e':H D with
      | none=>rfl
      | some u =>
        obtain⟨o',ho'⟩:=(I.hok D u e').get;exact absurd ho' (le o')
    have er:((List.range ks.length).map fun i=>V.ref (rs.getD i 0))=rs.map V.ref:=by
      apply xb2;intro i;rw[xae,xae];by_cases c:i<rs.length
      . rw[xb7 (by omega),xac c]
        show some (V.ref (rs.getD i 0))=some (V.ref rs[i]);rw[xab,xac c];rfl
      . rw[xaV (by simp; omega),xaV (by omega)]
        rfl
    have Q':=q D (List.range ks.length) hn .rfl (by
      have:ks.length<2:=by omega
      match ks,this with
      | [],_=>exact .nil
      | [_],_=>exact List.pairwise_singleton _ _)
    rw[er] at Q';refine⟨.ref D,_,?_,rfl,Q'⟩;show Inv X pins σ _ { s with heap:=h',gens:=s.gens,drawn:=s.drawn,toks:=s.toks };refine I.step (s:=s) (h':=h') (H':=upd H D (.lst (rs.map V.ref))) (g':=s.gens) (d':=s.drawn) (t':=s.toks) (ch:=[]) (fun _ z=>nomatch z) (fun b o _ _ _ e _=>kk b o e) (fun b o _ _ _ e _=>⟨o.slots,kk b o e⟩) (fun b o _ e n=>?_) (fun b o _ e=>⟨o,kk b o e⟩) (fun b xs e=>?_) (fun b o u e=>?_) (fun b ps e=>⟨#[],?_⟩) (fun m' hm=>?_) ?_ I.bare
    . have nb:b≠D:=fun z=>le o (by rw[<- z]; exact e)
      rw[jaz nb];exact n
    . rw[jaz (jar e hn)];exact e
    . rw[jaz (jar e hn)];exact e
    . rw[jaz (jar e hn),Array.append_empty];exact e
    . obtain⟨oL,a1,a2,hL,a3⟩:=hm
      exact⟨oL,a1,a2,kk _ _ hL,a3⟩
    . intro b u e'
      by_cases hb:b=D
      . subst hb
        rw[jac] at e';cases e';exact⟨hz,_,e,jcs _,ge⟩
      . rw[jaz hb] at e'
        exact (I.hok b u e').stay (fun d v hd g=>kk d v g) (fun d g=>by rw[jaz (jar g hn)];exact g) fun d xs g=>by rw[jaz (jar g hn)];exact g
  have n2:2<=rs.length:=by omega
  obtain⟨m,hn,_⟩:=id I.loc;obtain⟨fs,f1,f2,f3,_⟩:=jiD I.hok hl fun i r k e1 e2=>let ⟨b,h⟩:=ht i r k e1 e2;⟨_,h⟩;have f4:=jkJ I.hok ht;have N0:News (Att.noObjs s.heap) X.env.locals s.heap (Att.ledger s.heap X.env.locals X.env.locals):=fun ⟨b,o⟩ hb=>by
    obtain⟨n1,_,e⟩:=Att.mem_ledger.mp hb;exact⟨e,n1,Att.noObjs_get _ _⟩
  have lv:(rs.map Value.ref).length=ks.length:=by rw[xaa];exact hl
  refine jgu (Att.fr_all hn) N0 hT ho hc hd (by rw[xaa];exact n2) (by rw[xaa];omega) fun D e1 h' F' N' dlt=>?_;have kp:∀b o,b≠X.env.locals->s.heap.get? b=some o->h'.get? b=some o:=fun b o n1 e=>(N' (b,o) (.tail _ (Att.mem_ledger.mpr ⟨n1,n1,e⟩))).1;have rl:∀r∈rs,r≠X.env.locals:=fun r hr e=>by
    obtain⟨i,hi,hri⟩:=xbo.mp hr;obtain⟨tl,et⟩:=ht i r (ks[i]'(by omega)) (by rw[xac hi,hri]) (xac _);rw[e,I.free] at et;cases et
  have kt':PySem.W.KatTups h' (rs.map Value.ref) fs:=by
    have z:∀{rs:List Addr} {fs:List Value},(∀r∈rs,r≠X.env.locals)->PySem.W.KatTups s.heap (rs.map Value.ref) fs->PySem.W.KatTups h' (rs.map Value.ref) fs:=by
      intro rs;induction rs with
      | nil => intro fs _ k; cases fs with
        | nil=>exact True.intro
        | cons _ _=>exact k.elim
      | cons r rs ih => intro fs hr k; cases fs with
        | nil=>exact k.elim
        | cons f fs =>
          obtain⟨⟨a,o,xs,n,h1,h2,h3⟩,k2⟩:=k;cases h1;exact⟨⟨r,o,xs,n,rfl,kp _ _ (hr r (.head _)) h2,h3⟩,ih (fun x hx=>hr x (.tail _ hx)) k2⟩
    exact z rl f2
  refine PySem.W.kat_kind (T:=.type "int") kt' (by omega) (fun v hv=>?_) rfl ?_
  . obtain⟨k,t,rfl⟩:=f3 v hv
    exact fun A Q E s _ hq=>wpAny_typeOf (T:="int") (show Shared.TypeIs s (.int k t) "int" from rfl) hq
  obtain⟨pm,ev,pr,pw⟩:=jiC ks (by omega);rw[lv];refine jlL (P:=fun s1=>s1={ s with heap:=h' }) (fun i j C s1 hi hj ij hs1 hC=>?_) _ _ _ _ ev rfl fun s1 hs1=>?_
  . subst hs1
    have gi:rs[i]?=some (rs[i]'(by omega)):=xac _;have gj:rs[j]?=some (rs[j]'(by omega)):=xac _;obtain⟨oi,xi,ni,ti,bi,a1,a2,a3⟩:=f4 i _ _ gi (xac hi);obtain⟨oj,xj,nj,tj,bj,b1,b2,b3⟩:=f4 j _ _ gj (xac hj);have ei:(rs.map Value.ref).getD i Value.none=.ref (rs[i]'(by omega)):=by rw[xab,xae,gi];rfl
    have ej:(rs.map Value.ref).getD j Value.none=.ref (rs[j]'(by omega)):=by rw[xab,xae,gj];rfl
    have ki:ks.getD i 0=ks[i]:=by rw[xab,xac hi];rfl
    have kj:ks.getD j 0=ks[j]:=by rw[xab,xac hj];rfl
    have hC:=hC _ rfl;have nd:=nd i j hi hj;rw[ki,kj] at hC nd;unfold PySem.W.kas_ask;rw[ei,ej];refine PySem.W.kat_lt (kp _ _ (rl _ (xa5 _)) a1) a2 (kp _ _ (rl _ (xa5 _)) b1) b2 ?_;rw[a3,b3];show wpAny _ _ (eqBool _ _) _ _ _;refine wpAny_eqBool_int ?_;by_cases c:ks[i]=ks[j]
    . have er:rs[i]'(by omega)=rs[j]'(by omega):=by
        have:=nd c;rw[xab,gi,xab,gj] at this;exact this
      have eb:xi=xj/\bi=bj:=by
        rw[er] at a1;rw[a1] at b1;cases b1;rw[a2] at b2;cases b2;rw[a3] at b3;have e4:=(List.cons.inj (List.cons.inj b3).2).1;injection e4 with e4
        exact⟨rfl,e4⟩
      obtain⟨ex,eb⟩:=eb;subst ex;subst eb;rw[c,decide_eq_false (Int.lt_irrefl _)] at hC;rw[c,beq_self_eq_true,if_pos rfl];show wpAny _ _ (eqBool _ _) _ _ _;refine jgt ?_;rw[if_pos rfl];show C (decide (xi.size<xi.size)) _;rw[decide_eq_false (xbg _)];exact hC
    . have ne:(ks[i]==ks[j])=false:=beq_eq_false_iff_ne.mpr c
      rw[ne,if_neg (by decide)];exact jkH hC
  . subst hs1
    have HD:H D=none:=by
      cases e:H D with
      | none=>rfl
      | some u =>
        obtain⟨o,ho'⟩:=(I.hok D u e).get;have nD:D≠X.env.locals:=fun z=>by rw[z,I.free] at e;cases e
        exact absurd (dlt (D,o) (Att.mem_ledger.mpr ⟨nD,nD,ho'⟩)) (xbg _)
    obtain⟨_,nL,_⟩:=N' _ (.head _);have hD:∀o,s.heap.get? D≠some o:=fun o e=>absurd (dlt (D,o) (Att.mem_ledger.mpr ⟨nL,nL,e⟩)) (xbg _);refine PySem.W.KasFin.intro F' N' (.head fun p hp=>xaL (dlt p hp)) fun h'' c F'' N''=>?_;have kp2:∀b o,b≠X.env.locals->s.heap.get? b=some o->h''.get? b=some o:=fun b o n1 e=>(N'' (b,o) (.tail _ (Att.mem_ledger.mpr ⟨n1,n1,e⟩))).1;have gD:=(N'' _ (.head _)).1;have eo:pm.toList.map (fun i=>(rs.map Value.ref).getD i Value.none)=(pm.toList.map fun i=>rs.getD i 0).map Value.ref:=by
      rw[xbp];refine xbT fun i hi=>?_;have li:i<rs.length:=by rw[hl];exact xaF.mp (pr.mem_iff.mp hi)
      show (rs.map Value.ref).getD i Value.none=Value.ref (rs.getD i 0);rw[xab,xae,xab,xac li];rfl
    have ev':pm.toList.map (fun i=>V.ref (rs.getD i 0))=(pm.toList.map fun i=>rs.getD i 0).map V.ref:=by rw[xbp];rfl
    have Q':=q D pm.toList HD pr pw;refine⟨.ref D,_,?_,rfl,Q'⟩;show Inv X pins σ _ { s with heap:=h'',gens:=s.gens,drawn:=s.drawn,toks:=s.toks };refine I.step (s:=s) (h':=h'') (H':=upd H D (.lst (pm.toList.map fun i=>V.ref (rs.getD i 0)))) (g':=s.gens) (d':=s.drawn) (t':=s.toks) (ch:=[]) (fun _ z=>nomatch z) (fun b o n1 _ _ e _=>kp2 b o n1 e) (fun b o n1 _ _ e _=>⟨o.slots,kp2 b o n1 e⟩) (fun b o _ e n=>?_) (fun b o _ e=>?_) (fun b xs e=>?_) (fun b o u e=>?_) (fun b ps e=>⟨#[],?_⟩) (fun m' hm=>?_) ?_ I.bare
    . have nb:b≠D:=fun z=>hD o (by rw[<- z]; exact e)
      rw[jaz nb];exact n
    . by_cases z:b=X.env.locals
      . obtain⟨o',_,_,g,_⟩:=F''.ns
        exact⟨o',z▸g⟩
      . exact⟨o,kp2 b o z e⟩
    . rw[jaz (jar e HD)];exact e
    . rw[jaz (jar e HD)];exact e
    . rw[jaz (jar e HD),Array.append_empty];exact e
    . have:m'=m:=funext fun x=>hm.agree hn x
      rw[this];exact F''.ns
    . intro b u e
      by_cases hb:b=D
      . subst hb
        rw[jac] at e;cases e;rw[ev',eo] at *
        exact⟨by simp only[xaa];exact xav (by rw[pr.length_eq,xa9,xaa];omega) hz,_,c,jcs _,gD⟩
      . rw[jaz hb] at e
        exact (I.hok b u e).stay (fun d v hd g=>kp2 d v (fun z=>by
          rcases hd with hd | hd
          . rw[<- hd,z,I.free] at e;cases e
          . rw[z,I.free] at hd;cases hd) g) (fun d g=>by rw[jaz (jar g HD)];exact g) fun d xs g=>by rw[jaz (jar g HD)];exact g
end
end L2
namespace HT
open PySem PyProof.Rows
section
variable {prog:Program} {w:World} {A:Around} {E:Value->Shared->Prop} {s:Shared}
theorem jdT {sl:Addr} {u:Tok} {n:Nat} {Q:Int × Int × Nat->Shared->Prop} (hs:s.heap.IsSliceOf sl .none .none (.int (-1) u)) (h:Q ((n:Int)-1,-1,n) s):wpAny (model prog w) A (Builtin.Slice.sliceApplied (.ref sl) (pure (n:Int))) Q E s:=by
 obtain⟨os,hos,hcs,hds⟩:=id hs;unfold Builtin.Slice.sliceApplied Builtin.Slice.sliceFields;refine wpAny_bind (wpAny_bind (wpAny_field hos hds (x:=.none) rfl (wpAny_bind (wpAny_field hos hds (x:=.none) rfl (wpAny_bind (wpAny_field hos hds (x:=.int (-1) u) rfl (wpAny_pure ?_)))))));refine wpAny_bind (slicePart_int ?_);show wpAny _ _ (if ((-1:Int)==0)=true then _ else _) _ _ s;rw[if_neg (by decide)];refine wpAny_bind (slicePart_none (wpAny_bind (slicePart_none (wpAny_bind (wpAny_pure ?_)))));show wpAny _ _ (match Builtin.Slice.sliceAdjust none none (-1) (n:Int) with | (lo,hi)=>pure (lo,(-1:Int),Builtin.Slice.slicePlaces lo hi (-1))) _ _ s;have e:Builtin.Slice.sliceAdjust none none (-1) (n:Int)=((n:Int)-1,-1):=by
  simp [Builtin.Slice.sliceAdjust]
 rw[e];have e2:Builtin.Slice.slicePlaces ((n:Int)-1) (-1) (-1)=n:=by
  unfold Builtin.Slice.slicePlaces;rw[if_neg (by decide)];by_cases c:n=0
  ·subst c;decide
  ·rw[if_pos (by omega),show (-(-1:Int))=1 from rfl,Int.ediv_one];omega
 show wpAny _ _ (pure ((n:Int)-1,(-1:Int),Builtin.Slice.slicePlaces ((n:Int)-1) (-1) (-1))) _ _ s;rw[e2];exact wpAny_pure h
theorem getItem_tuple_rev {t sl:Addr} {items:Array Value} {u:Tok} {Q:Value->Shared->Prop} (ht:IsTup s.heap t items) (hs:s.heap.IsSliceOf sl .none .none (.int (-1) u))
  (h:Q (.ref s.heap.objs.size) { s with heap:=s.heap.push { cls:=.type "tuple",data:=.seq items.toList.reverse.toArray } }) (hsz:items.size<=sizeLine):wpAny (model prog w) A (getItem (.ref t) (.ref sl)) Q E s:=by
 have htake:sizeOk (.seq items.toList.reverse.toArray):=by
  show items.toList.reverse.toArray.size<=sizeLine;rw[xak,xaN,Array.length_toList];omega
 obtain⟨os,hos,hcs,hds⟩:=id hs;have hTs:s.TypeIs (.ref sl) "slice":=⟨os,hos,hcs⟩;unfold getItem;try with_reducible refine wpAny_holding ?_
 first | refine wpAny_bind (wpAny_pure ?_) | skip
 refine wpAny_bind (wpAny_sequenceKey ht.typeIs (by decide) ?_);refine wpAny_bind (wpAny_callSpecial?_slot (name:=Str.ofString "__getitem__") ht.typeIs PyProof.Rows.slot_tuple_getitem
  (wpAny_call_entry PyProof.Rows.slot_tuple_getitem ht.typeIs entry_tuple_getitem ?_ (args_tuple_getitem _ _)))
 show wpAny _ _ (Builtin.Tuple.tupleItemsOf (.ref t) >>= _) _ _ s;refine wpAny_bind (tupleItemsOf_ ht ?_);refine wpAny_bind (wpAny_typeOf hTs ?_);rw[if_pos (by decide)];refine wpAny_bind (jdT hs ?_);show wpAny _ _ (if (((items.size:Int)-1)==0&&(-1:Int)==1&&items.size==items.size)=true then _ else _) _ _ s;have hno:¬((((items.size:Int)-1)==0&&(-1:Int)==1&&items.size==items.size)=true):=by simp
 have hp:((List.range items.size).filterMap fun (k:Nat)=>items[((items.size:Int)-1+(k:Int)*-1).toNat]?).toArray=items.toList.reverse.toArray:=by
  have e:(fun (k:Nat)=>items[((items.size:Int)-1+(k:Int)*-1).toNat]?)=fun k=>items[items.size-1-k]?:=by
   funext k
   rw[show ((items.size:Int)-1+(k:Int)*-1).toNat=items.size-1-k by omega]
  rw[e,<- PySem.W.krv_all items,<- xcc,<- PySem.W.krv_range,xcq];rfl
 rw[if_neg hno,hp]
 first
  | exact wpAny_bind (m:=Builtin.Tuple.tupleExact _) (wpAny_newObj_type (wpAny_pure ⟨_,rfl,wpAny_pure h⟩) htake)
  | exact wpAny_bind (m:=Builtin.Tuple.tupleExact _) (wpAny_newObj_type (wpAny_bind (wpAny_pure (wpAny_pure ⟨_,rfl,wpAny_pure h⟩))) htake)
  | exact wpAny_bind (wpAny_bind (m:=Builtin.Tuple.tupleExact _) (wpAny_newObj_type (wpAny_pure (wpAny_pure ⟨_,rfl,wpAny_pure h⟩)) htake))
  | exact wpAny_bind (wpAny_bind (m:=Builtin.Tuple.tupleExact _) (wpAny_newObj_type (wpAny_pure ⟨_,rfl,wpAny_pure h⟩) htake))
end
end HT
namespace L2
open PySem PyProof.Rows PySem.Calls
section
variable {X:Cx} {e st:Expr} {te ts:TE} {pos p2:Pos}
def jm0 (K:PySem.W.Frag) (te ts:TE):TE:=fun σ H Q=>te σ H fun x H1=>ts σ H1 fun k H2=>k=.int (-1)/\∃a xs,x=.ref a/\SqT K H2 a xs/\∀p,H2 p=none->Q (.ref p) (upd H2 p (.tup xs.reverse))
theorem jfV (he:PE X e te) (hs:PE X st ts):PE X (.Subscript e (.Slice none none (some st) p2) pos) (jm0 X.K te ts):=by
 intro pins s σ H Q I h;refine Subscript_ (thn (he pins s σ H _ I h) fun v s1 ⟨x,H1,I1,r1,q1⟩=>?_);refine wpAny_Slice ?_;rw[evalPart_none];refine wpAny_pure (wpAny_pure ?_);rw[evalPart_some];refine thn (hs pins s1 σ H1 _ I1 q1) fun u s2 ⟨k,H2,I2,r2,q2⟩=>?_;obtain⟨rfl,a,xs,rfl,hx,q⟩:=q2;obtain⟨t,rfl⟩:=r2;cases r1;have I4:Inv X pins σ H2 { s2 with heap:=s2.heap.push { cls:=.type "slice",data:=.fields #[.none,.none,.int (-1) t] } }:=I2.kept (t':=s2.toks) fun b ob q=>Heap.get?_push_of_some _ q;obtain⟨its,r,ht,hz⟩:=I4.tuple hx;have hlen:=r.length;show wpAny (model X.prog X.w) X.A (subscriptTail e (.Slice none none (some st) p2) (.ref a) (.ref s2.heap.objs.size)) (EP X pins σ Q) X.xe { s2 with heap:=s2.heap.push { cls:=.type "slice",data:=.fields #[.none,.none,.int (-1) t] } };refine tail_any (ops:=[.ref a,.ref s2.heap.objs.size]) ht.typeIs PyProof.Rows.slot_tuple_getitem.lookup ?_ (by with_unfolding_all rfl);refine HT.getItem_tuple_rev ht (Heap.IsSliceOf.new ..) ?_ (by rw[xak]<;>omega);refine⟨.ref _,_,I4.laid (t':=s2.toks) (o:=.tup xs.reverse) (fun b ob q=>Heap.get?_push_of_some _ q) (xag _) ?_,rfl,q _ (I4.hok.fresh (xag _))⟩;exact⟨by rw[xaN];exact hz,_,r.reverse,IsTup.new _ _⟩
end
end L2
namespace L2
open PySem PySem.Spec PyProof.Rows
section
variable {X:Cx}
theorem jfW {K:PySem.W.Frag} {H:Hp}:∀ns:List Int,RdsAll K H (ns.map V.int) (ns.map PyData.int)
 | []=>.nil
 | n::ns=>.cons (.int n) (jfW ns)
theorem jfX:∀ns:List Int,PyData.canLayAll0 (ns.map PyData.int)=true/\PyData.depthAll (ns.map PyData.int)<=1
  | []=>⟨rfl,by decide⟩
  | n :: ns => by
    obtain⟨a,b⟩:=jfX ns;refine⟨?_,?_⟩
    . rw[xaH]
      simp [PyData.canLayAll0,a,PyData.canLay0]
    . rw[xaH]
      simp [PyData.depthAll,PyData.depth];omega
def rInT2 (K:PySem.W.Frag):R2:=fun x y H Q=>∃(t p a b:Addr) (ns ms1 ms2:List Int),x=.ref t/\y=.ref p/\SqT K H t (ns.map V.int)/\SqL K H p [.ref a,.ref b]/\a≠b/\SqT K H a (ms1.map V.int)/\SqT K H b (ms2.map V.int)/\Q (.bl (decide (ms1=ns)||decide (ms2=ns))) H
theorem jm1 (hu:X.A.units+64<cLine):OpR X (compareOp .In) (rInT2 X.K):=by
 intro pins s σ H x y v u Q I rx ry h;obtain⟨t,p,a,b,ns,ms1,ms2,rfl,rfl,ht,hp,nab,ha,hb,q⟩:=h;obtain⟨its,r,pl,hz⟩:=I.list hp;have rd:∀{t:Addr} {ns:List Int},SqT X.K H t (ns.map V.int)->Rds X.K H (.ref t) (.tuple (ns.map PyData.int)):=fun h=>.tup h (jfW _);have ly:∀ns:List Int,PyData.canLay0 (.tuple (ns.map PyData.int))=true/\PyData.depth (.tuple (ns.map PyData.int))<=2:=fun ns=>by
  obtain⟨h1,h2⟩:=jfX ns;exact⟨h1,by simp [PyData.depth];omega⟩
 obtain⟨as,rdx⟩:=(rd ht).reads I rx;cases rx;cases ry;cases r with
 | @cons _ w1 _ _ e1 r =>
 cases r with
 | @cons _ w2 _ _ e2 r =>
 cases r;obtain⟨as1,rd1⟩:=(rd ha).reads I e1;obtain⟨as2,rd2⟩:=(rd hb).reads I e2;cases e1;cases e2;have un:X.A.in1.units=X.A.units+1:=rfl;have eq:∀ms:List Int,PyData.eqv (.tuple (ms.map PyData.int)) (.tuple (ns.map PyData.int))=decide (ms=ns):=fun ms=>PySem.W.ked_eqvAll ms ns;refine SeqAt.in_listAt (fun w=>if w==.ref a then decide (ms1=ns) else decide (ms2=ns)) pl.isList (fun w hw=>?_) ⟨.bl _,H,I,?_,q⟩
 ·have hw:w=.ref a\/w=.ref b:=by simpa using hw
  rcases hw with rfl | rfl
  ·show SeqAt.EqAt X.A.in1 s (.ref a) (.ref t) (if ((Value.ref a)==.ref a)=true then decide (ms1=ns) else decide (ms2=ns));rw[if_pos (beq_self_eq_true (Value.ref a)),<- eq ms1];exact SeqAt.eqAt_reads _ _ _ s _ _ as1 as rd1 rdx (ly _).1 (ly _).1 (by
    have:=Nat.min_le_left (PyData.depth (.tuple (ms1.map PyData.int))) (PyData.depth (.tuple (ns.map PyData.int)));have:=(ly ms1).2;omega)
  ·have nb:¬((Value.ref b==Value.ref a)=true):=fun z=>nab (by have:=eq_of_beq z;injection this with this;exact this.symm);show SeqAt.EqAt X.A.in1 s (.ref b) (.ref t) (if ((Value.ref b)==.ref a)=true then decide (ms1=ns) else decide (ms2=ns));rw[if_neg nb,<- eq ms2];exact SeqAt.eqAt_reads _ _ _ s _ _ as2 as rd2 rdx (ly _).1 (ly _).1 (by
    have:=Nat.min_le_left (PyData.depth (.tuple (ms2.map PyData.int))) (PyData.depth (.tuple (ns.map PyData.int)));have:=(ly ms2).2;omega)
 ·have nb:(Value.ref b==Value.ref a)=false:=Bool.eq_false_iff.mpr fun z=>nab (by have:=eq_of_beq z;injection this with this;exact this.symm);show Value.bool _=Value.bool _
  congr 1
  simp [nab.symm]
end
end L2
set_option maxHeartbeats 2000000
namespace My
def G (d:Int) (ns:List Int):Int:=ns.foldl (fun d n=>((Int.gcd d n:Nat):Int)) d
abbrev gl (ns:List Int):Int:=G 0 ns
theorem G_nil (d:Int):G d []=d:=rfl
theorem jeI (d n:Int) (r:List Int):G d (n::r)=G (Int.gcd d n:Nat) r:=rfl
theorem joO (d:Int) (l:List Int) (n:Int):G d (l++[n])=(Int.gcd (G d l) n:Nat):=by
 unfold G;rw[xce];rfl
theorem jg4:∀(ns:List Int) (d:Int),0<=d->0<=G d ns
 | [],_,h=>h
 | n::r,d,_=>by rw[jeI];exact jg4 r _ (by omega)
theorem jbg (ns:List Int):0<=gl ns:=jg4 ns 0 (by omega)
theorem joP:∀(ns:List Int) (d:Int),G d ns ∣ d/\∀n∈ns,G d ns ∣ n
  | [],d=>⟨xct d,fun n h=>nomatch h⟩
  | m :: r, d => by
    obtain⟨h1,h2⟩:=joP r (Int.gcd d m:Nat);rw[jeI];refine⟨xbJ h1 (xbG ..),fun n hn=>?_⟩;rcases xaG.mp hn with rfl | hn
    . exact xbJ h1 (xbC ..)
    . exact h2 n hn
variable {ns:List Int}
theorem jaX {n:Int} (h:n∈ns):gl ns ∣ n:=(joP ns 0).2 n h
theorem joQ:∀(ns:List Int) (d k:Int),k ∣ d->(∀n∈ns,k ∣ n)->k ∣ G d ns
  | [],_,_,h,_=>h
  | m :: r, d, k, h, hn => by
    rw[jeI];refine joQ r _ k ?_ fun n h'=>hn n (xat _ h');have h2:=hn m xa0;exact xbP h h2
theorem jeJ {k:Int} (h:∀n∈ns,k ∣ n):k ∣ gl ns:=joQ ns 0 k (Int.dvd_zero k) h
theorem jm2 {k:Int} (h0:0<=k) (h:k ∣ 1):k=1:=by
 exact Int.eq_one_of_dvd_one h0 h
theorem joR (hg:gl ns≠0):gl (ns.map (· / gl ns))=1:=by
 have h0:=jbg ns;refine jm2 (jbg _) ?_;have h1:∀n∈ns,gl (ns.map (· / gl ns))*gl ns ∣ n:=fun n hn=>by
  obtain⟨c,hc⟩:=jaX (ns:=ns.map (· / gl ns)) (xao.mpr ⟨n,hn,rfl⟩);refine⟨c,?_⟩;have e:n=n / gl ns*gl ns:=(xbh (jaX hn)).symm;rw[e,hc,xcB,xbi c,<- xcB]
 obtain⟨c,hc⟩:=jeJ h1;refine⟨c,?_⟩;have h2:gl ns*1=gl ns*(gl (ns.map (· / gl ns))*c):=by
  rw[xbY,<- xcB,xbi (gl ns) (gl (ns.map (· / gl ns)))];exact hc
 exact Int.eq_of_mul_eq_mul_left hg h2
theorem joS:∀ns:List Int,G 1 ns=1
  | []=>rfl
  | n :: r => by
    rw[jeI];have:Int.gcd 1 n=1:=by simp
    rw[this];exact joS r
theorem jkK (d:Int) (a b:List Int):G d (a++b)=G (G d a) b:=by
 unfold G;exact xce
variable {n k i f j:Nat}
theorem jeB (h:gl (ns.take i)=1):gl ns=1:=by
 have e:ns=ns.take i++ns.drop i:=(xa1 i ns).symm;rw[e];show G 0 _=1;rw[jkK];have h':G 0 (ns.take i)=1:=h;rw[h'];exact joS _
theorem jfY {n:Int} (h:ns[i]?=some n):gl (ns.take (i+1))=(Int.gcd (gl (ns.take i)) n:Nat):=by
 rw[xaZ,h];exact joO 0 _ n
theorem jgv (ns:List Int):ns.map (· / 1)=ns:=by
 induction ns with
 | nil=>rfl
 | cons a r ih=>rw[xaH,ih,Int.ediv_one]
theorem jkL (a b:Int) (ha:0<=a):Int.gcd b (a % b)=Int.gcd a b:=by
 have h1:(a % b).natAbs=a.natAbs % b.natAbs:=Int.natAbs_emod_of_nonneg ha b;rw[Int.gcd_eq_natAbs_gcd_natAbs,Int.gcd_eq_natAbs_gcd_natAbs,h1];rw[Nat.gcd_comm,Nat.gcd_comm a.natAbs,<- Nat.gcd_rec]
theorem jm3 (a b:Int):Int.gcd (if a<0 then -a else a) (if b<0 then -b else b)=Int.gcd a b:=by
 split<;>split<;>simp [Int.gcd_neg,Int.neg_gcd]
theorem jhT (a b:Int):Int.gcd (if b>a then b else a) (if b<a then b else a)=Int.gcd a b:=by
 split<;>split
 ·omega
 ·exact Int.gcd_comm b a
 ·rfl
 ·have:a=b:=by omega
  rw[this]
variable {a g c d x y A B way:Int}
theorem joT {b:Int} (ha:a∈ns) (hb:b∈ns):(a / gl ns)*b=a*(b / gl ns):=by
 have e1:a=a / gl ns*gl ns:=(xbh (jaX ha)).symm;have e2:b=b / gl ns*gl ns:=(xbh (jaX hb)).symm
 conv=>lhs;rhs;rw[e2]
 conv=>rhs;lhs;rw[e1]
 rw[xcB,xbi (gl ns)]
theorem jdL {n:Int} (h:n∈ns) (hn:n≠0):0<gl ns:=by
 have h0:=jbg ns;rcases Int.lt_or_eq_of_le h0 with h1 | h1
 ·exact h1
 ·obtain⟨c,hc⟩:=jaX h;rw[<- h1,xbj] at hc;exact absurd hc hn
end My
namespace My
variable {a g c d x y A B way:Int}
theorem jed {n:Int} (h:g ∣ n) (hn:n≠0):n / g≠0:=fun z=>by
 have e:=xbh h;rw[z,xbj] at e;exact hn e.symm
end My
local macro_rules | `(tactic| walk_at "ar") => `(tactic| (intro vs H Q E h; first | (cases h; subst_vars; rfl) | ((repeat (rcases h with ⟨_, h⟩)); subst_vars; rfl)))
local macro_rules | `(tactic| walk_at "rjs") => `(tactic| simp only [L2.jc9, L2.joa, L2.jh9, L2.jlv, L2.jbU, L2.jkn, L2.tC, L2.tOp, L2.tUn, L2.jig, L2.tB, L2.jor, L2.joq, L2.jkr, L2.jia, L2.jgO, L2.jkq, L2.jon, L2.tOr, L2.joo, L2.jh8, L2.tOrV, L2.jkp, L2.jhJ, L2.tCB, L2.jez, L2.jkt, L2.jmK, L2.jly, L2.jot, L2.joA, L2.tBM, L2.tyV, L2.joe, L2.gk, and_self, L2.tSl, L2.jd5, L2.jil, L2.jmE, L2.jgj, L2.job, L2.jh2, and_assoc, L2.rI, L2.rI0, L2.rU, L2.rEq, L2.rNe, L2.jod, List.map_cons, List.map_nil, List.length_cons, List.length_nil, List.replicate_succ, List.replicate_zero, List.cons_append, List.nil_append, List.append_nil, Nat.reduceSub, Nat.reduceAdd, Nat.sub_self, List.set_cons_zero, List.set_cons_succ, List.getElem?_cons_zero, List.getElem?_cons_succ, Option.some.injEq, exists_eq_left', exists_eq_left, L2.V.int.injEq, L2.V.bl.injEq, L2.V.ref.injEq, L2.V.ty.injEq, List.cons.injEq, exists_and_left, and_true, true_and, reduceCtorEq, false_and, and_false, exists_false, or_false, false_or, L2.jaQ, Option.getD_some, Bool.true_eq_false, decide_eq_true_eq, Bool.not_eq_true', decide_eq_false_iff_not, decide_not, Bool.false_eq_true, if_true, if_false, ite_not])
local macro_rules | `(tactic| walk_at "rj") => `(tactic| first | ((dsimp only [L2.jc9, L2.joa, L2.jh9, L2.jlv, L2.jbU, L2.jkn, L2.tC, L2.tOp, L2.tUn, L2.jig, L2.tB, L2.jor, L2.joq, L2.jkr, L2.jia, L2.jgO, L2.jkq, L2.jon, L2.tOr, L2.joo, L2.jh8, L2.tOrV, L2.jkp, L2.jhJ, L2.tCB, L2.jez, L2.jkt, L2.jmK, L2.jly, L2.jot, L2.joA, L2.tBM, L2.tyV, L2.joe, L2.gk, L2.tSl, L2.jd5, L2.jil, L2.jmE, L2.jgj, L2.job, L2.jh2, L2.rI, L2.rI0, L2.rU, L2.rEq, L2.rNe, L2.jod, L2.jaQ, List.map_cons, List.map_nil, List.length_cons, List.length_nil, List.replicate_succ, List.replicate_zero, List.cons_append, List.nil_append, List.set_cons_zero, List.set_cons_succ, List.getElem?_cons_zero, List.getElem?_cons_succ, Option.getD_some, Nat.reduceSub, Nat.reduceAdd]); (try walk_at "rjs")) | walk_at "rjs")
local macro_rules | `(tactic| walk_at "go") => `(tactic| repeat (first | refine L2.ixT (by assumption) rfl ?_ | refine L2.ixL (by assumption) rfl ?_ | refine And.intro (by assumption) ?_ | walk_at "rj"))
local macro_rules | `(tactic| walk_at "ris") => `(tactic| simp only [L2.jc9, L2.joa, L2.jh9, L2.jlv, L2.jbU, L2.jkn, L2.tC, L2.tOp, L2.tUn, L2.jig, L2.tB, L2.jor, L2.joq, L2.jkr, L2.jia, L2.jgO, L2.jkq, L2.jon, L2.tOr, L2.joo, L2.jh8, L2.tOrV, L2.jkp, L2.jhJ, L2.tCB, L2.jez, L2.jkt, L2.jmK, L2.jly, L2.jot, L2.joA, L2.tBM, L2.tyV, L2.joe, L2.gk, and_self, L2.tSl, L2.jd5, L2.jil, L2.jmE, L2.jgj, L2.job, L2.jh2, and_assoc, L2.rI, L2.rI0, L2.rU, L2.rEq, L2.rNe, L2.jod, List.map_cons, List.map_nil, List.length_cons, List.length_nil, List.replicate_succ, List.replicate_zero, List.cons_append, List.nil_append, List.append_nil, Nat.reduceSub, Nat.reduceAdd, Nat.sub_self, List.set_cons_zero, List.set_cons_succ, List.getElem?_cons_zero, List.getElem?_cons_succ, Option.some.injEq, exists_eq_left', exists_eq_left, L2.V.int.injEq, L2.V.bl.injEq, L2.V.ref.injEq, L2.V.ty.injEq, List.cons.injEq, exists_and_left, and_true, true_and, reduceCtorEq, false_and, and_false, exists_false, or_false, false_or, L2.jaQ, Option.getD_some, Bool.true_eq_false, decide_eq_true_eq, Bool.not_eq_true', decide_eq_false_iff_not, decide_not, Bool.false_eq_true, if_true, if_false, ite_not, L2.jiv, L2.jiw, L2.jlF, L2.jlG, L2.jgX, L2.jgY, L2.jix, L2.jiy, L2.jlI, L2.jiA, L2.jlx, L2.V.str.injEq, L2.jg0, L2.je6, L2.jg1, L2.jlK])
local macro_rules | `(tactic| walk_at "ri") => `(tactic| first | ((dsimp only [L2.jc9, L2.joa, L2.jh9, L2.jlv, L2.jbU, L2.jkn, L2.tC, L2.tOp, L2.tUn, L2.jig, L2.tB, L2.jor, L2.joq, L2.jkr, L2.jia, L2.jgO, L2.jkq, L2.jon, L2.tOr, L2.joo, L2.jh8, L2.tOrV, L2.jkp, L2.jhJ, L2.tCB, L2.jez, L2.jkt, L2.jmK, L2.jly, L2.jot, L2.joA, L2.tBM, L2.tyV, L2.joe, L2.gk, L2.tSl, L2.jd5, L2.jil, L2.jmE, L2.jgj, L2.job, L2.jh2, L2.rI, L2.rI0, L2.rU, L2.rEq, L2.rNe, L2.jod, L2.jaQ, L2.jiv, L2.jiw, L2.jlF, L2.jlG, L2.jgX, L2.jgY, L2.jix, L2.jiy, L2.jlI, L2.jiA, L2.jlx, L2.jg0, L2.je6, L2.jg1, L2.jlK, List.map_cons, List.map_nil, List.length_cons, List.length_nil, List.replicate_succ, List.replicate_zero, List.cons_append, List.nil_append, List.set_cons_zero, List.set_cons_succ, List.getElem?_cons_zero, List.getElem?_cons_succ, Option.getD_some, Nat.reduceSub, Nat.reduceAdd]); (try walk_at "ris")) | walk_at "ris")
local macro_rules | `(tactic| walk_at "sd") => `(tactic| first | assumption | exact L2.Fit.o (by omega) (by omega) | (show L2.CPow _ _; exact ⟨by decide, by decide, by decide⟩) | decide)
local macro_rules | `(tactic| walk_at "gf") => `(tactic| repeat (first | ((with_reducible apply L2.ixT); assumption; rfl) | ((with_reducible apply L2.ixL); assumption; rfl) | ((with_reducible apply L2.FoR.lst); assumption) | ((with_reducible apply L2.FoR.tup); assumption) | ((with_reducible apply L2.FoR.len); assumption) | ((with_reducible apply L2.FoR.lenT); assumption) | ((with_reducible apply And.intro); (walk_at "sd")) | walk_at "ri"))
local macro_rules | `(tactic| walk_at "sc") => `(tactic| exact ⟨rfl, rfl, rfl, by decide +kernel, rfl, by decide +kernel, by decide +kernel⟩)
local macro_rules | `(tactic| walk_at "rd") => `(tactic| try walk_at "rj")
local macro_rules | `(tactic| walk_at "rf") => `(tactic| try walk_at "ri")
namespace My
open PySem L2 PyProof.Rows
def top (i:Nat):Stmt:=PySem.Challenge.pw_boardsight_k44_trees_judged.main.body.getD i (.Pass ⟨0,0,0,0⟩)
abbrev jee:Stmt:=top 8
abbrev jbq:Stmt:=top 10
abbrev ja2:Stmt:=top 11
abbrev jef:Stmt:=top 12
abbrev jcd:Stmt:=top 13
abbrev jbo:Stmt:=top 15
abbrev jbV:Stmt:=top 16
abbrev jct:Stmt:=top 17
abbrev jdx:Stmt:=top 18
abbrev jeg:Stmt:=top 19
abbrev jcu:Stmt:=top 21
abbrev jbh:Stmt:=top 22
abbrev jdy:Stmt:=top 23
abbrev jce:Stmt:=top 24
abbrev jbJ:Stmt:=top 25
abbrev jcf:Stmt:=top 26
abbrev jeh:Stmt:=top 27
abbrev je9:Stmt:=top 28
abbrev jfa:Stmt:=top 31
abbrev jb8:Stmt:=top 32
abbrev jc3:Stmt:=top 33
abbrev jbW:Stmt:=top 34
abbrev jc4:Stmt:=top 35
abbrev jcv:Stmt:=top 36
abbrev jdz:Stmt:=top 37
abbrev jcg:Stmt:=top 39
abbrev jbF:Stmt:=top 40
abbrev jby:Stmt:=top 45
abbrev jdA:Stmt:=top 46
abbrev jdB:Stmt:=top 42
abbrev jbr:Stmt:=top 43
abbrev jbX:Stmt:=top 48
abbrev jbs:Stmt:=top 49
abbrev jcw:Stmt:=top 50
abbrev jc5:Stmt:=top 51
abbrev jbY:Stmt:=top 52
abbrev jbz:Stmt:=top 53
abbrev jb9:Stmt:=top 54
abbrev ja1:Stmt:=top 55
abbrev jc6:Stmt:=top 56
abbrev jch:Stmt:=top 57
abbrev jbZ:Stmt:=top 58
abbrev jaJ:Stmt:=top 59
abbrev jbK:Stmt:=top 61
abbrev jbt:Stmt:=top 60
abbrev jaT:Stmt:=top 62
abbrev jbu:Stmt:=top 63
abbrev jbL:Stmt:=top 64
abbrev jcx:Stmt:=top 65
abbrev jb0:Stmt:=top 66
abbrev jbM:Stmt:=top 67
abbrev ja8:Stmt:=top 68
abbrev jfb:Stmt:=top 69
def Small (i:Int):Prop:=i.natAbs<2^1990
theorem Small.neg {i:Int} (h:Small i):Small (-i):=by unfold Small at *;rw[xcy];exact h
theorem Small.ite {c:Prop} [Decidable c] {i j:Int} (h:Small i) (h':Small j):Small (if c then i else j):=by split<;>assumption
theorem Small.bd {i:Int} (h:Small i):Bd 1990 i:=h
theorem Small.of {i:Int} (h1:-1606938044258990275541962092341162602522202993782792835301376<i) (h2:i<1606938044258990275541962092341162602522202993782792835301376):Small i:=(Bd.of h1 h2).mono
variable {a g c d x y A B way:Int}
theorem Small.div {i:Int} (h:Small i):Small (i / g):=xbl (xb3 i g) h
variable {ns:List Int}
theorem jg5 (h:∀n∈ns,Small n):Small (gl ns):=by
 by_cases c:∃n∈ns,n≠0
 ·obtain⟨n,hn,h0⟩:=c;have z:=xcj.mpr (jaX hn);exact xbl (Nat.le_of_dvd (by omega) z) (h n hn)
 ·have z:(0:Int) ∣ gl ns:=jeJ fun n hn=>by
   have:n=0:=xal fun q=>c ⟨n,hn,q⟩;rw[this];exact xct 0
  rw[Int.zero_dvd.mp z];exact Nat.two_pow_pos _
variable {H H' H1 Hh:Hp}
theorem Same.keep {p:Addr} {o:HO} (h:Same H H') (n:H p=none):Same H (upd H' p o):=fun b u q=>by rw[jaz (jar q n)];exact h b u q
variable {n k i f j:Nat}
theorem jiF {v:V} (h:(ns.map V.int)[i]?=some v):∃z,v=V.int z/\ns[i]?=some z:=by
 rw[xae] at h;cases e:ns[i]? with
 | none=>rw[e] at h;cases h
 | some z=>rw[e] at h;exact⟨z,(Option.some.inj h).symm,rfl⟩
inductive spGdi (vs:List V) (H:Hp) (Q:VK):Prop
 | mk (a b:Int) (_:vs=[.int a,.int b]) (_:Small a) (_:Small b) (_:Q (.int (Int.gcd a b:Nat)) H)
def spGd:Sp:=fun vs H Q _=>spGdi vs H Q
inductive spLowi (vs:List V) (H:Hp) (Q:VK):Prop
 | mk (a:Addr) (ns:List Int) (_:vs=[.ref a]) (_:H a=some (.tup (ns.map V.int))) (_:ns.length<=10) (_:(∀n∈ns,Small n)) (_:gl ns≠0) (_:∀(r:Addr) (H':Hp),Same H H'->H' r=some (.tup ((ns.map (· / gl ns)).map V.int))->Q (.ref r) H')
def jkM:Sp:=fun vs H Q _=>spLowi vs H Q
inductive spLawi (K:PySem.W.Frag) (vs:List V) (H:Hp) (Q:VK):Prop
 | mk (a:Addr) (ns:List Int) (_:vs=[.ref a]) (_:SqL K H a (ns.map V.int)) (_:ns.length<=63) (_:∀H',Q (.bl true) H')
def jkN (K:PySem.W.Frag):Sp:=fun vs H Q _=>spLawi K vs H Q
structure Tx (K:PySem.W.Frag) (mg:Str->Option Value) (t1 t2:Tok):Prop where
 m_sum:mg "sum"=none
 m_sorted:mg "sorted"=none
 m_abs:mg "abs"=none
 m_max:mg "max"=none
 m_min:mg "min"=none
 m_len:mg "len"=none
 m_range:mg "range"=none
 m_tuple:mg "tuple"=none
 m_list:mg "list"=none
 m_reversed:mg "reversed"=none
 m_SHORT_BITS:mg "SHORT_BITS"=some (.int 2000 t1)
 m_MOST_CORNERS:mg "MOST_CORNERS"=some (.int 8 t2)
theorem Tx.r_SHORT_BITS {K:PySem.W.Frag} {mg:Str->Option Value} {t1 t2:Tok} (_:Tx K mg t1 t2):RelV (.int 2000) (.int 2000 t1):=⟨_,rfl⟩
theorem Tx.r_MOST_CORNERS {K:PySem.W.Frag} {mg:Str->Option Value} {t1 t2:Tok} (_:Tx K mg t1 t2):RelV (.int 8) (.int 8 t2):=⟨_,rfl⟩
def low (ns:List Int):List Int:=ns.map (· / gl ns)
def Sm2 (i:Int):Prop:=i.natAbs<2^650
theorem Sm2.bd {i:Int} (h:Sm2 i):Bd 1990 i:=Bd.mono (n:=650) h
theorem Sm2.of {i:Int} (h1:-1606938044258990275541962092341162602522202993782792835301376<i) (h2:i<1606938044258990275541962092341162602522202993782792835301376):Sm2 i:=(Bd.of h1 h2).mono
theorem Sm2.div {i:Int} (h:Sm2 i):Sm2 (i / g):=xbl (xb3 i g) h
structure Pt where
 x:Int
 y:Int
 z:Int
 w:Int
def Pt.sm (p:Pt):Prop:=Sm2 p.x/\Sm2 p.y/\Sm2 p.z/\Sm2 p.w
def Is4 (H:Hp) (r:Addr) (p:Pt):Prop:=H r=some (.tup [.int p.x,.int p.y,.int p.z,.int p.w])/\p.sm
variable {r L sd S M La Lb Lc D:Addr}
variable {p q:Pt}
theorem Is4.keep (h:Is4 H r p) (s:Same H H'):Is4 H' r p:=⟨s _ _ h.1,h.2⟩
theorem Is4.sq {K:PySem.W.Frag} (h:Is4 H r p):SqT K H r [.int p.x,.int p.y,.int p.z,.int p.w]:=SqT.of h.1
theorem Pt.sm.fx (h:p.sm):Fit p.x:=h.1.bd.fit
theorem Pt.sm.fy (h:p.sm):Fit p.y:=h.2.1.bd.fit
theorem Pt.sm.fz (h:p.sm):Fit p.z:=h.2.2.1.bd.fit
theorem Pt.sm.fw (h:p.sm):Fit p.w:=h.2.2.2.bd.fit
def wo (k:Int) (p:Pt):List Int:=if k=0 then [p.y,p.z,p.w] else if k=1 then [p.x,p.z,p.w] else if k=2 then [p.x,p.y,p.w] else [p.x,p.y,p.z]
def jbE (a b c x y z u v w:Int):Int:=(b*z-c*y)*u+(c*x-a*z)*v+(a*y-b*x)*w
def detL:List Int->List Int->List Int->Int
 | [a,b,c],[x,y,z],[u,v,w]=>jbE a b c x y z u v w
 | _,_,_=>0
def jaC (k:Int) (p q r:Pt):Int:=detL (wo k p) (wo k q) (wo k r)
def inl (p q r:Pt):Bool:=decide (jaC 0 p q r=0/\jaC 1 p q r=0/\jaC 2 p q r=0)
def Tup3 (H:Hp) (r:Addr) (a b c:Int):Prop:=H r=some (.tup [.int a,.int b,.int c])/\Sm2 a/\Sm2 b/\Sm2 c
inductive spCrossi (vs:List V) (H:Hp) (Q:VK):Prop
 | mk (r p:Addr) (a b c x y z:Int) (_:vs=[.ref r,.ref p]) (_:Tup3 H r a b c) (_:Tup3 H p x y z) (_:∀(t:Addr) (H':Hp),Same H H'->H' t=some (.tup [.int (b*z-c*y),.int (c*x-a*z),.int (a*y-b*x)])->Q (.ref t) H')
def jiG:Sp:=fun vs H Q _=>spCrossi vs H Q
inductive spDeti (vs:List V) (H:Hp) (Q:VK):Prop
 | mk (r p s:Addr) (a b c x y z u v w:Int) (_:vs=[.ref r,.ref p,.ref s]) (_:Tup3 H r a b c) (_:Tup3 H p x y z) (_:Tup3 H s u v w) (_:∀H':Hp,Same H H'->Q (.int (jbE a b c x y z u v w)) H')
def joU:Sp:=fun vs H Q _=>spDeti vs H Q
inductive spWithouti (vs:List V) (H:Hp) (Q:VK):Prop
 | mk (r:Addr) (k:Int) (p:Pt) (_:vs=[.ref r,.int k]) (_:Is4 H r p) (_:0<=k) (_:k<=3) (_:∀(t:Addr) (H':Hp),Same H H'->H' t=some (.tup ((wo k p).map V.int))->Q (.ref t) H')
def jfZ:Sp:=fun vs H Q _=>spWithouti vs H Q
inductive spMinori (vs:List V) (H:Hp) (Q:VK):Prop
 | mk (r s t:Addr) (k:Int) (p q o:Pt) (_:vs=[.ref r,.ref s,.ref t,.int k]) (_:Is4 H r p) (_:Is4 H s q) (_:Is4 H t o) (_:0<=k) (_:k<=3) (_:∀H':Hp,Same H H'->Q (.int (jaC k p q o)) H')
def jfc:Sp:=fun vs H Q _=>spMinori vs H Q
inductive spLinei (vs:List V) (H:Hp) (Q:VK):Prop
 | mk (r s t:Addr) (p q o:Pt) (_:vs=[.ref r,.ref s,.ref t]) (_:Is4 H r p) (_:Is4 H s q) (_:Is4 H t o) (_:∀H':Hp,Same H H'->Q (.bl (inl p q o)) H')
def jlO:Sp:=fun vs H Q _=>spLinei vs H Q
inductive spTurnedi (vs:List V) (H:Hp) (Q:VK):Prop
 | mk (r:Addr) (ns:List Int) (_:vs=[.ref r]) (_:H r=some (.tup (ns.map V.int))) (_:ns.length<=10) (_:∀(t:Addr) (H':Hp),Same H H'->H' t=some (.tup ((ns.map fun n=>-n).map V.int))->Q (.ref t) H')
def jg6:Sp:=fun vs H Q _=>spTurnedi vs H Q
def plb (a b c:Int):Bool:=if a≠0 then decide (0<a) else if b≠0 then decide (0<b) else if c≠0 then decide (0<c) else false
inductive spPlaini (vs:List V) (H:Hp) (Q:VK):Prop
 | mk (r:Addr) (a b c d:Int) (_:vs=[.ref r]) (_:H r=some (.tup [.int a,.int b,.int c,.int d])) (_:∀H':Hp,Same H H'->Q (.bl (plb a b c)) H')
def jiH:Sp:=fun vs H Q _=>spPlaini vs H Q
def rgh (p o u:Pt):List Int:=[jaC 0 p o u,-jaC 1 p o u,jaC 2 p o u,jaC 3 p o u]
inductive spRoughi (vs:List V) (H:Hp) (Q:VK):Prop
 | mk (r e t:Addr) (p o u:Pt) (_:vs=[.ref r,.ref e,.ref t]) (_:Is4 H r p) (_:Is4 H e o) (_:Is4 H t u) (_:∀(g:Addr) (H':Hp),Same H H'->H' g=some (.tup ((rgh p o u).map V.int))->Q (.ref g) H')
def jiI:Sp:=fun vs H Q _=>spRoughi vs H Q
def pln (ns:List Int):List Int:=match low ns with
 | [a,b,c,d]=>if plb a b c=true then [a,b,c,d] else [-a,-b,-c,-d]
 | l=>l
def jbB (p o u:Pt):Prop:=jaC 0 p o u=0/\jaC 1 p o u=0/\jaC 2 p o u=0
def hgt (a b c d:Int) (p:Pt):Int:=a*p.x+b*p.y+c*p.z-d*p.w
def sgn (n:Int):Int:=if n>0 then 1 else if n<0 then -1 else 0
inductive spSigni (vs:List V) (H:Hp) (Q:VK):Prop
 | mk (n:Int) (_:vs=[.int n]) (_:Q (.int (sgn n)) H)
def jiJ:Sp:=fun vs H Q _=>spSigni vs H Q
def sf (x y z w x' y' z' w':Int):Bool:=if x*w'≠x'*w then decide (x*w'<x'*w) else if y*w'≠y'*w then decide (y*w'<y'*w) else if z*w'≠z'*w then decide (z*w'<z'*w) else false
def sfp (p o:Pt):Bool:=sf p.x p.y p.z p.w o.x o.y o.z o.w
inductive spFirsti (vs:List V) (H:Hp) (Q:VK):Prop
 | mk (r e:Addr) (p o:Pt) (_:vs=[.ref r,.ref e]) (_:Is4 H r p) (_:Is4 H e o) (_:Q (.bl (sfp p o)) H)
def jiK:Sp:=fun vs H Q _=>spFirsti vs H Q
inductive spPlanei (vs:List V) (H:Hp) (Q:VK):Prop
 | mk (a b c d:Int) (_:vs=[.int a,.int b,.int c,.int d]) (_:Small a) (_:Small b) (_:Small c) (_:Small d) (_:¬(a=0/\b=0/\c=0)) (_:∀(r:Addr) (H':Hp),Same H H'->H' r=some (.tup ((low [a,b,c,d]).map V.int))->Q (.ref r) H')
def jiL:Sp:=fun vs H Q _=>spPlanei vs H Q
inductive spThroughi (vs:List V) (H:Hp) (Q:VK):Prop
 | mk (r e t:Addr) (p o u:Pt) (_:vs=[.ref r,.ref e,.ref t]) (_:Is4 H r p) (_:Is4 H e o) (_:Is4 H t u) (_:¬jbB p o u) (_:∀(g:Addr) (H':Hp),Same H H'->H' g=some (.tup ((pln (rgh p o u)).map V.int))->Q (.ref g) H')
def jei:Sp:=fun vs H Q _=>spThroughi vs H Q
inductive spHti (vs:List V) (H:Hp) (Q:VK):Prop
 | mk (r e:Addr) (a b c d:Int) (p:Pt) (_:vs=[.ref r,.ref e]) (_:H r=some (.tup [.int a,.int b,.int c,.int d])) (_:Small a) (_:Small b) (_:Small c) (_:Small d) (_:Is4 H e p) (_:Q (.int (hgt a b c d p)) H)
def spHt:Sp:=fun vs H Q _=>spHti vs H Q
inductive spSidei (vs:List V) (H:Hp) (Q:VK):Prop
 | mk (r e:Addr) (a b c d:Int) (p:Pt) (_:vs=[.ref r,.ref e]) (_:H r=some (.tup [.int a,.int b,.int c,.int d])) (_:Small a) (_:Small b) (_:Small c) (_:Small d) (_:Is4 H e p) (_:Q (.int (sgn (hgt a b c d p))) H)
def jg7:Sp:=fun vs H Q _=>spSidei vs H Q
inductive Sps (H:Hp):List Addr->List Pt->Prop
 | nil:Sps H [] []
 | cons {r:Addr} {p:Pt} {rs:List Addr} {ps:List Pt} (h:Is4 H r p) (t:Sps H rs ps):Sps H (r::rs) (p::ps)
variable {ps qs l:List Pt}
theorem Sps.keep {rs:List Addr} (h:Sps H rs ps) (s:SameT H H'):Sps H' rs ps:=by
 induction h with
 | nil=>exact .nil
 | cons h _ ih=>exact .cons ⟨s _ _ h.1,h.2⟩ ih
theorem Sps.len {rs:List Addr} (h:Sps H rs ps):rs.length=ps.length:=by
 induction h with
 | nil=>rfl
 | cons h _ ih=>rw[xaA,xaA,ih]
theorem Sps.app {rs rs':List Addr} {ps':List Pt} (h:Sps H rs ps) (k:Sps H rs' ps'):Sps H (rs++rs') (ps++ps'):=by
 induction h with
 | nil=>exact k
 | cons h _ ih=>exact .cons h ih
theorem Sps.rev {rs:List Addr} (h:Sps H rs ps):Sps H rs.reverse ps.reverse:=by
  induction h with
  | nil=>exact .nil
  | cons h _ ih =>
    rw[xaM,xaM];exact ih.app (.cons h .nil)
theorem Sps.drop {rs:List Addr} (h:Sps H rs ps):∀n,Sps H (rs.drop n) (ps.drop n):=by
  induction h with
  | nil=>intro n;rw[List.drop_nil,List.drop_nil];exact .nil
  | cons h k ih =>
    intro n;cases n with
    | zero=>exact .cons h k
    | succ n=>exact ih n
theorem Sps.take {rs:List Addr} (h:Sps H rs ps):∀n,Sps H (rs.take n) (ps.take n):=by
  induction h with
  | nil=>intro n;rw[List.take_nil,List.take_nil];exact .nil
  | cons h k ih =>
    intro n;cases n with
    | zero=>exact .nil
    | succ n=>exact .cons h (ih n)
def p0:Pt:=⟨0,0,0,0⟩
def pt (ps:List Pt) (i:Nat):Pt:=ps.getD i p0
def ad (rs:List Addr) (i:Nat):Addr:=rs.getD i 0
theorem Sps.get {rs:List Addr} (h:Sps H rs ps):∀{i:Nat},i<ps.length->(rs.map V.ref)[i]?=some (.ref (ad rs i))/\Is4 H (ad rs i) (pt ps i):=by
  induction h with
  | nil=>intro i hi;exact absurd hi (by simp)
  | cons h k ih =>
    intro i hi;cases i with
    | zero=>exact⟨rfl,h⟩
    | succ i=>exact ih (by simpa using hi)
theorem jcQ {α:Type} {xs:List α} {v:α} (hn:xs.length=n+1) (h:xs[n]?=some v):atI xs (-1)=some v:=by
 have e:xs=xs.take n++[v]:=by
  have z:=xaZ (l:=xs) (i:=n);rw[h,<- hn,xa4] at z;exact z
 rw[e];exact jkv _ _
variable {xs ys:List V}
theorem jg8 :jb5 xs (some (f:Int)) none=xs.drop f:=by
 unfold jb5;rw[HT.sIx_nat,HT.sIx_none];by_cases h:f<=xs.length
 ·rw[xbf h,xaX (by rw[xam];exact xag _)]
 ·rw[Nat.min_eq_right (by omega),xcd (xag _),xcd (by omega),List.take_nil]
theorem jdY :jb5 xs none (some (f:Int))=xs.take f:=by
 unfold jb5;rw[HT.sIx_nat,HT.sIx_none];by_cases h:f<=xs.length
 ·rw[xbf h];rfl
 ·rw[Nat.min_eq_right (by omega)];show xs.take (xs.length-0)=_;rw[Nat.sub_zero,xa4,xaX (by omega)]
def jg9 (ps:List Pt):Nat->Nat
 | 0=>0
 | i+1=>if sfp (pt ps (i+1)) (pt ps (jg9 ps i))=true then i+1 else jg9 ps i
theorem jej (ps:List Pt):∀i,jg9 ps i<=i
  | 0=>xag _
  | i + 1 => by
    have:=jej ps i;unfold jg9;split<;>omega
def rot {α:Type} (f:Nat) (l:List α):List α:=l.drop f++l.take f
def turn {α:Type} (b:Bool) (l:List α):List α:=if b=true then l.take 1++(l.drop 1).reverse else l
def fF (ps:List Pt):Nat:=jg9 ps (ps.length-1)
def fB (ps:List Pt):Bool:=sfp (pt (rot (fF ps) ps) (ps.length-1)) (pt (rot (fF ps) ps) 1)
def frm {α:Type} (ps:List Pt) (l:List α):List α:=turn (fB ps) (rot (fF ps) l)
theorem Sps.rot {rs:List Addr} (h:Sps H rs ps) (f:Nat):Sps H (rot f rs) (rot f ps):=(h.drop f).app (h.take f)
theorem Sps.turn {rs:List Addr} (h:Sps H rs ps) (b:Bool):Sps H (turn b rs) (turn b ps):=by
 unfold My.turn;cases b
 ·exact h
 ·exact (h.take 1).app (h.drop 1).rev
theorem Sps.frm {rs:List Addr} (h:Sps H rs qs):Sps H (frm ps rs) (frm ps qs):=(h.rot _).turn _
def Cor (H:Hp) (l:Addr) (rs:List Addr) (ps:List Pt):Prop:=H l=some (.lst (rs.map V.ref))/\Sps H rs ps
theorem Cor.keep {l:Addr} {rs:List Addr} (h:Cor H l rs ps) (s:Same H H'):Cor H' l rs ps:=⟨s _ _ h.1,h.2.keep s.t⟩
inductive spFormedi (vs:List V) (H:Hp) (Q:VK):Prop
 | mk (l:Addr) (rs:List Addr) (ps:List Pt) (_:vs=[.ref l]) (_:Cor H l rs ps) (_:3<=ps.length) (_:ps.length<=17) (_:∀(t:Addr) (H':Hp),Same H H'->H' t=some (.tup ((frm ps rs).map V.ref))->Q (.ref t) H')
def jfd:Sp:=fun vs H Q _=>spFormedi vs H Q
inductive spAxisi (vs:List V) (H:Hp) (Q:VK):Prop
 | mk (r:Addr) (a b c d:Int) (_:vs=[.ref r]) (_:H r=some (.tup [.int a,.int b,.int c,.int d])) (_:¬(a=0/\b=0/\c=0)) (_:∀k:Int,(k=0/\a≠0)\/(k=1/\a=0/\b≠0)\/(k=2/\a=0/\b=0/\c≠0)->Q (.int k) H)
def jlP:Sp:=fun vs H Q _=>spAxisi vs H Q
inductive spEdgei (vs:List V) (H:Hp) (Q:VK):Prop
 | mk (g r e t:Addr) (k:Int) (p o u:Pt) (_:vs=[.ref g,.ref t,.int k]) (_:H g=some (.tup [.ref r,.ref e])) (_:Is4 H r p) (_:Is4 H e o) (_:Is4 H t u) (_:0<=k) (_:k<=3) (_:∀H':Hp,Same H H'->Q (.int (sgn (jaC k p o u))) H')
def jlQ:Sp:=fun vs H Q _=>spEdgei vs H Q
def Rnd (k:Int) (ps:List Pt):Prop:=∀i j,i<ps.length->1<=j->j<ps.length-1->sgn (jaC k (pt ps ((i+(ps.length-1)) % ps.length)) (pt ps i) (pt ps ((i+j) % ps.length)))=sgn (jaC k (pt ps 0) (pt ps 1) (pt ps 2))
inductive spCvxi (vs:List V) (H:Hp) (Q:VK):Prop
 | mk (l:Addr) (k:Int) (rs:List Addr) (ps:List Pt) (_:vs=[.ref l,.int k]) (_:Cor H l rs ps) (_:3<=ps.length) (_:ps.length<=8) (_:0<=k) (_:k<=2) (_:Rnd k ps) (_:∀H':Hp,Same H H'->Q (.bl true) H')
def joV:Sp:=fun vs H Q _=>spCvxi vs H Q
structure Brd (ps:List Pt):Prop where
 n3:3<=ps.length
 n8:ps.length<=8
 na:¬jbB (pt ps 0) (pt ps 1) (pt ps 2)
 flat:∀i,i<ps.length->hgt (jaC 0 (pt ps 0) (pt ps 1) (pt ps 2)) (-jaC 1 (pt ps 0) (pt ps 1) (pt ps 2)) (jaC 2 (pt ps 0) (pt ps 1) (pt ps 2)) (jaC 3 (pt ps 0) (pt ps 1) (pt ps 2)) (pt ps i)=0
 rnd:∀k:Int,0<=k->k<=2->jaC k (pt ps 0) (pt ps 1) (pt ps 2)≠0->Rnd k ps
inductive spBoardi (vs:List V) (H:Hp) (Q:VK):Prop
 | mk (l:Addr) (rs:List Addr) (ps:List Pt) (_:vs=[.ref l]) (_:Cor H l rs ps) (_:Brd ps) (_:∀(t:Addr) (H':Hp),Same H H'->H' t=some (.tup ((frm ps rs).map V.ref))->Q (.ref t) H')
def jiM:Sp:=fun vs H Q _=>spBoardi vs H Q
section
variable {P:Program} {w:World} {K:PySem.W.Frag} {mg:Str->Option Value} {base:Heap} {t1 t2:Tok}
theorem jeK:FnScope ["number"] ["number"] (jah jee):=by walk_at "sc"
theorem jbN:FnScope ["one","other","great","small","steps","rest"] ["one","other"] (jah jbq):=by walk_at "sc"
theorem jbT:FnScope ["numbers","divisor","number"] ["numbers"] (jah ja2):=by walk_at "sc"
theorem jeL:FnScope ["one","other"] ["one","other"] (jah jef):=by walk_at "sc"
theorem jcT:FnScope ["one","other","third","arrow"] ["one","other","third"] (jah jcd):=by walk_at "sc"
theorem jdM:FnScope ["x","y","z","w"] ["x","y","z","w"] (jah jbo):=by walk_at "sc"
theorem jcy:FnScope ["one","other","k","mine","yours"] ["one","other"] (jah jbV):=by walk_at "sc"
theorem jeM:FnScope ["spot","place"] ["spot","place"] (jah jct):=by walk_at "sc"
theorem jek:FnScope ["one","other","third","place"] ["one","other","third","place"] (jah jdx):=by walk_at "sc"
theorem jeN:FnScope ["one","other","third","place"] ["one","other","third"] (jah jeg):=by walk_at "sc"
theorem jdd:FnScope ["a","b","c","d"] ["a","b","c","d"] (jah jcu):=by walk_at "sc"
theorem jcz:FnScope ["plane"] ["plane"] (jah jbh):=by walk_at "sc"
theorem jel:FnScope ["plane","number"] ["plane"] (jah jdy):=by walk_at "sc"
theorem jcU:FnScope ["one","other","third"] ["one","other","third"] (jah jce):=by walk_at "sc"
theorem jcn:FnScope ["one","other","third","rough","plane"] ["one","other","third"] (jah jbJ):=by walk_at "sc"
theorem jcV:FnScope ["plane","spot"] ["plane","spot"] (jah jcf):=by walk_at "sc"
theorem jeO:FnScope ["plane","spot"] ["plane","spot"] (jah jeh):=by walk_at "sc"
theorem jf0:FnScope ["plane","one","other","mine","yours"] ["plane","one","other"] (jah je9):=by walk_at "sc"
theorem jf1:FnScope ["corners","first","k","ring"] ["corners"] (jah jfa):=by walk_at "sc"
theorem jem:FnScope ["board"] ["board"] (jah jb8):=by walk_at "sc"
theorem jdN:FnScope ["plane","axis"] ["plane"] (jah jc3):=by walk_at "sc"
theorem jcA:FnScope ["edge","spot","axis"] ["edge","spot","axis"] (jah jbW):=by walk_at "sc"
theorem jdO:FnScope ["corners","axis","turn","many","k","edge","ahead"] ["corners","axis"] (jah jc4):=by walk_at "sc"
theorem jde:FnScope ["corners","plane","corner"] ["corners"] (jah jcv):=by walk_at "sc"
theorem jen:FnScope ["board"] ["board"] (jah jdz):=by walk_at "sc"
theorem jcW:FnScope ["board","plane","sided","edge","before","side"] ["board","plane"] (jah jcg):=by walk_at "sc"
theorem jf2:FnScope ["board","plane","sides","sided","below","above"] ["board","plane"] (jah jbF):=by walk_at "sc"
theorem jci:FnScope ["tree","number","board","own","parts","below","above"] ["tree","number","board","own"] (jah jby):=by walk_at "sc"
theorem jeo:FnScope ["tree","piece"] ["tree","piece"] (jah jdA):=by walk_at "sc"
theorem jep:FnScope ["pieces","plane","here","below","above","number","board","parts"] ["pieces","plane"] (jah jdB):=by walk_at "sc"
theorem jb1:FnScope ["some","tree","split"] ["some","tree"] (jah jbr):=by walk_at "sc"
theorem jcB:FnScope ["script","k","cell"] ["script","k"] (jah jbX):=by walk_at "sc"
theorem jcX:FnScope ["script","many","cells","k","at"] ["script","many"] (jah jbs):=by walk_at "sc"
theorem jdf:FnScope ["cell","left"] ["cell"] (jah jcw):=by walk_at "sc"
theorem jdP:FnScope ["state","many","found"] ["state","many"] (jah jc5):=by walk_at "sc"
theorem jcC:FnScope ["one","other"] ["one","other"] (jah jbY):=by walk_at "sc"
theorem jdg:FnScope ["state","span"] ["state","span"] (jah jbz):=by walk_at "sc"
theorem jeq:FnScope ["state","made","way","span","base","one","other","shape","across","place"] ["state","made"] (jah jb9):=by walk_at "sc"
theorem jcD:FnScope ["raw","base","one","other","shape","rows","found","i","j","place"] ["raw"] (jah ja1):=by walk_at "sc"
theorem jdQ:FnScope ["cells","raws","some","used","cell","state","number"] ["cells"] (jah jc6):=by walk_at "sc"
theorem jcY:FnScope ["some","state","left","found"] ["some","state"] (jah jch):=by walk_at "sc"
theorem jcE:FnScope ["one","other"] ["one","other"] (jah jbZ):=by walk_at "sc"
theorem jdh:FnScope ["corners","a","b","c","one","other","upright","found","by"] ["corners"] (jah jaJ):=by walk_at "sc"
theorem jdR:FnScope ["raws","state","tree","raw","plane"] ["raws","state"] (jah jbK):=by walk_at "sc"
theorem jb2:FnScope ["tree"] ["tree"] (jah jbt):=by walk_at "sc"
theorem jbv:FnScope ["tree","about","plane","here","below","above","turned"] ["tree","about"] (jah jaT):=by walk_at "sc"
theorem jb3:FnScope ["tree","left","way","other","plane","here","below","above","made","piece","number","board"] ["tree","left","way","other"] (jah jbu):=by walk_at "sc"
theorem jcF:FnScope ["tree","plane","here","below","above","low","high"] ["tree"] (jah jbL):=by walk_at "sc"
theorem jdi:FnScope ["tree"] ["tree"] (jah jcx):=by walk_at "sc"
theorem jcG:FnScope ["tree","plane","here","below","above"] ["tree"] (jah jb0):=by walk_at "sc"
theorem jcH:FnScope ["tree","plane","state"] ["tree","plane","state"] (jah jbM):=by walk_at "sc"
theorem jdj:FnScope ["tree","state","found","pieces","at","other"] ["tree","state"] (jah ja8):=by walk_at "sc"
theorem jlR:FnScope ["script","cells","state","some","raws","bare","tree","piece","handed","plane","right","wrong","at","more"] ["script"] (jah jfb):=by walk_at "sc"
theorem ok_gd (T:Tx K mg t1 t2) (F:At K mg "greatest_divisor" jbq ["one","other"] []):jao P w K mg base CX0 1 "greatest_divisor" ["one","other"] [] spGd:=by
 refine F.ok jbN (by walk_at "ar") (fun f cdv A outer s H vs Q E hr h=>?_);obtain⟨a,b,rfl,ha,hb,q⟩:=h;have S:=jbN;refine⟨_,(jaf (jat (i:=2) S.nd rfl (Or.inl rfl) (jaG (jih rfl) rfl T.m_max boot_max (jaa (jaG jcO rfl T.m_abs boot_abs (jaa (pv 0) jad jae)) (jaa (jaG jcO rfl T.m_abs boot_abs (jaa (pv 1) jad jae)) jad jaF) jaF)))
  (jaf (jat (i:=3) S.nd rfl (Or.inl rfl) (jaG (jii rfl) rfl T.m_min boot_min (jaa (jaG jcO rfl T.m_abs boot_abs (jaa (pv 0) jad jae)) (jaa (jaG jcO rfl T.m_abs boot_abs (jaa (pv 1) jad jae)) jad jaF) jaF)))
  (jaf (jc7 PassesOwn.never (jaq jgm (joB PySem.F.plainAttrs_int PySem.F.slot_int_bit_length PySem.F.type_int_bit_length jmO (pv 3)) (jh7 rfl T.m_SHORT_BITS T.r_SHORT_BITS) (jax _)) jbG)
  (jaf (jc7 PassesOwn.never (jaq jeY (pv 3) jab (jax _))
  (jaf (jat (i:=5) S.nd rfl (Or.inl rfl) (jau jbR (pv 2) (pv 3)))
  (jaf (jat (i:=2) S.nd rfl (Or.inl rfl) (pv 3))
  (jai (jat (i:=3) S.nd rfl (Or.inl rfl) (pv 5))))))
  (jai (jas (pv 2))))))),?_⟩
 walk_at "rd";have hg:Int.gcd (if (if b<0 then -b else b)>(if a<0 then -a else a) then (if b<0 then -b else b) else (if a<0 then -a else a)) (if (if b<0 then -b else b)<(if a<0 then -a else a) then (if b<0 then -b else b) else (if a<0 then -a else a))=Int.gcd a b:=(jhT _ _).trans (jm3 a b);have hM:0<=(if (if b<0 then -b else b)>(if a<0 then -a else a) then (if b<0 then -b else b) else (if a<0 then -a else a)):=by split<;>split<;>omega
 have hm:0<=(if (if b<0 then -b else b)<(if a<0 then -a else a) then (if b<0 then -b else b) else (if a<0 then -a else a)):=by split<;>split<;>omega
 have hs:Small (if (if b<0 then -b else b)<(if a<0 then -a else a) then (if b<0 then -b else b) else (if a<0 then -a else a)):=by
  exact Small.ite (Small.ite hb.neg hb) (Small.ite ha.neg ha)
 generalize (if (if b<0 then -b else b)>(if a<0 then -a else a) then (if b<0 then -b else b) else (if a<0 then -a else a))=M at hg hM |-
 generalize (if (if b<0 then -b else b)<(if a<0 then -a else a) then (if b<0 then -b else b) else (if a<0 then -a else a))=m at hg hm hs |-
 have hz:Builtin.Int.intBits m<=1990:=L2.jdv hs;refine⟨fun _ σ H1=>σ=[some (.int a),some (.int b),some (.int M),some (.int m),none,none]/\H1=H,⟨0,rfl,rfl⟩,?_⟩;rintro _ σ H1 ⟨rfl,rfl⟩;walk_at "rd";rw[if_neg (by omega)];refine⟨fun n σ H2=>H2=H1/\∃(x y:Int) (o:Option V),σ=[some (.int a),some (.int b),some (.int x),some (.int y),none,o]/\0<=x/\0<=y/\Int.gcd x y=Int.gcd a b/\n=y.toNat,⟨_,rfl,M,m,none,rfl,hM,hm,hg,rfl⟩,?_⟩;rintro n σ H2 ⟨rfl,x,y,o,rfl,hx,hy,hgg,rfl⟩;walk_at "rd";by_cases c:y=0
 ·subst c;rw[if_pos rfl];rw[<- hgg,Int.gcd_zero_right] at q;have e2:((x.natAbs:Nat):Int)=x:=by omega
  rw[e2] at q;exact q
 ·rw[if_neg c];have b1:=xbw x c;have b2:=xbe x (show 0<y by omega);exact⟨fun σ' H'=>σ'=[some (V.int a),some (V.int b),some (V.int y),some (V.int (x % y)),none,some (V.int (x % y))]/\H'=H2,fun σ' H' ⟨h1,h2⟩=>⟨_,by omega,h2,y,x % y,_,h1,by omega,b1,(jkL x y hx).trans hgg,rfl⟩,by omega,rfl,rfl⟩
theorem joW (T:Tx K mg t1 t2) (F:At K mg "in_lowest_terms" ja2 ["numbers"] []) (dQ:jao P w K mg base CX0 1 "greatest_divisor" ["one","other"] [] spGd):jao P w K mg base CX0 2 "in_lowest_terms" ["numbers"] [] jkM:=by
 refine F.ok jbT (by walk_at "ar") (fun f cdv A outer s H vs Q E hr h=>?_);obtain⟨a,ns,rfl,ha,hl,hs,hg,q⟩:=h;have S:=jbT;refine⟨_,(jaf (jat (i:=1) S.nd rfl (Or.inr rfl) jab)
  (jaf (jbp PassesOwn.never rfl (jdJ (pv 0)) (jan (i:=2) S.nd rfl (Or.inl rfl))
  (jaf (jat (i:=1) S.nd rfl (Or.inr rfl) (jag dQ hr.m rfl jav (jaa (pv 1) (jaa (pv 2) jad jae) jae)))
  (jai (jaL (jaq jdr (pv 1) jab (jax _))
  (jai (jas (jaU jaZ rfl T.m_tuple boot_tuple (jaa (pv 0) jad jae))))
  jaw))))
  (jai (jas (jaU jaZ rfl T.m_tuple boot_tuple (jaa (jbb rfl (N':=["number","divisor"]) (ix:=[1]) ⟨rfl,rfl,by decide +kernel,by decide +kernel,by decide +kernel,(show ∀y:Str × NameKind,y∈_->y.2=NameKind.free->(jah ja2).names.lookup y.1=some .cell\/(jah ja2).names.lookup y.1=some .free from by decide +kernel),(.cons rfl (.inl rfl) rfl .nil)⟩ (jdJ (pv 0)) (fun _ _ _ _=>jan (i:=0) (show (["number","divisor"]:List Str).Nodup from by decide +kernel) rfl (Or.inl rfl)) (fun _ _ _ _=>jbd) (fun _ _ _ _=>(jau je4 (pv 0) (pv 1)))) jad jcS)))))),?_⟩
 walk_at "rd";refine⟨_,rfl,a,rfl,⟨_,SqT.of ha⟩,jgk (K:=K) (a:=a) (xs:=ns.map V.int) (fun i σ H2=>H2=H/\∃o:Option V,σ=[some (.ref a),some (.int (gl (ns.take i))),o]) ⟨rfl,none,rfl⟩ (fun i σ H2 _ ⟨h,_⟩=>by rw[h];exact SqT.of ha) ?_ ?_⟩
 ·rintro i v σ H2 hi ⟨rfl,o,rfl⟩;obtain⟨z,rfl,hz⟩:=jiF hi;walk_at "rd";refine⟨_,_,rfl,jg5 fun n hn=>hs n (xbc hn),hs z (xaC hz),?_⟩;walk_at "rd";rw[<- jfY hz];refine jbP (fun c=>⟨_,.inr ⟨SqT.of ha,?_⟩⟩) fun c=>⟨rfl,_,rfl⟩;have g1:gl ns=1:=jeB c;refine q a H2 (Same.refl _) ?_;rw[g1,jgv];exact ha
 ·rintro σ H2 ⟨rfl,o,rfl⟩;walk_at "rd";have el:(ns.map V.int).length=ns.length:=xaa _;rw[el,xa4];have gp:0<gl ns:=by have:=jbg ns;omega
  refine⟨_,rfl,a,rfl,⟨_,SqT.of ha⟩,fun acc hacc=>je3 (K:=K) (a:=a) (zs:=ns.map V.int) (fun i xs H3=>Same H2 H3/\H3 acc=some (.lst xs)/\xs=((ns.take i).map (· / gl ns)).map V.int) ⟨Same.new hacc _,jac,rfl⟩ (fun i xs H3 _ h=>h.1.tup (SqT.of ha)) ?_ ?_⟩
  ·rintro i v xs H3 hi ⟨h1,h2,rfl⟩;obtain⟨z,rfl,hz⟩:=jiF hi;walk_at "rd";have li:=(xaj.mp hz).1;refine⟨gp,(jg5 hs).bd.fit,h2,?_,Same.keep h1 hacc,jac,?_⟩
   ·rw[xaa,xaa,xah];exact jir (by omega)
   ·rw[xaZ,hz,xaf,xaf];rfl
  ·rintro xs H3 ⟨h1,h2,rfl⟩;rw[el,xa4] at h2;exact⟨acc,rfl,_,.inl ⟨SqL.of h2,fun l hl=>q l _ (h1.trans (Same.new hl _)) jac⟩⟩
theorem jiN (h:∀(i:Nat) (y:V),ys[i]?=some y->∃v:Int,y=V.int v):∃ms:List Int,ys=ms.map V.int:=by
  induction ys with
  | nil=>exact⟨[],rfl⟩
  | cons y r ih =>
    obtain⟨v,rfl⟩:=h 0 y rfl;obtain⟨ms,rfl⟩:=ih fun i z hz=>h (i+1) z hz;exact⟨v::ms,rfl⟩
theorem jhU (T:Tx K mg t1 t2) (F:At K mg "crossed" jef ["one","other"] []):jao P w K mg base CX0 1 "crossed" ["one","other"] [] jiG:=by
 refine F.ok jeL (by walk_at "ar") (fun f cdv A outer s H vs Q E hr h=>?_);obtain⟨r,p,a,b,c,x,y,z,rfl,⟨h1,sa,sb,sc⟩,⟨h2,sx,sy,sz⟩,q⟩:=h;have S:=jeL;refine⟨_,(jai (jas (jaB (jaa (jau ja6 (jau jaA (jak jam (pv 0) jab) (jak jam (pv 1) jab)) (jau jaA (jak jam (pv 0) jab) (jak jam (pv 1) jab))) (jaa (jau ja6 (jau jaA (jak jam (pv 0) jab) (jak jam (pv 1) jab)) (jau jaA (jak jam (pv 0) jab) (jak jam (pv 1) jab))) (jaa (jau ja6 (jau jaA (jak jam (pv 0) jab) (jak jam (pv 1) jab)) (jau jaA (jak jam (pv 0) jab) (jak jam (pv 1) jab))) jad ja7) ja7) ja7)))),?_⟩;have k1:SqT K H r [.int a,.int b,.int c]:=SqT.of h1;have k2:SqT K H p [.int x,.int y,.int z]:=SqT.of h2;have fa:=sa.bd.fit;have fb:=sb.bd.fit;have fc:=sc.bd.fit;have fx:=sx.bd.fit;have fy:=sy.bd.fit;have fz:=sz.bd.fit;walk_at "rf";walk_at "gf";intro t ht;exact q t _ (Same.new ht _) jac
theorem joX (T:Tx K mg t1 t2) (F:At K mg "determinant" jcd ["one","other","third"] []) (Do:jao P w K mg base CX0 1 "crossed" ["one","other"] [] jiG):jao P w K mg base CX0 2 "determinant" ["one","other","third"] [] joU:=by
 refine F.ok jcT (by walk_at "ar") (fun f cdv A outer s H vs Q E hr h=>?_);obtain⟨r,p,e,a,b,c,x,y,z,u,v,o,rfl,h1,h2,h3,q⟩:=h;have S:=jcT;refine⟨_,(jaf (jat (i:=3) S.nd rfl (Or.inl rfl) (jag Do hr.m rfl jav (jaa (pv 0) (jaa (pv 1) jad jae) jae)))
  (jai (jas (jau jbf (jau jbf (jau jaA (jak jam (pv 3) jab) (jak jam (pv 2) jab)) (jau jaA (jak jam (pv 3) jab) (jak jam (pv 2) jab))) (jau jaA (jak jam (pv 3) jab) (jak jam (pv 2) jab)))))),?_⟩
 walk_at "rf";refine⟨r,p,a,b,c,x,y,z,rfl,h1,h2,fun t H1 s1 e1=>?_⟩;have k1:SqT K H1 t _:=SqT.of e1;have k2:SqT K H1 e [.int u,.int v,.int o]:=SqT.of (s1 _ _ h3.1);have fu:=h3.2.1.bd.fit;have fv:=h3.2.2.1.bd.fit;have fo:=h3.2.2.2.bd.fit;have ma:∀{i j k l:Int},Sm2 i->Sm2 j->Sm2 k->Sm2 l->Fit (i*j-k*l):=fun h1 h2 h3 h4=>Bd.fit (n:=1301) (Bd.sub (Bd.mul (n:=650) (m:=650) h1 h2) (Bd.mul (n:=650) (m:=650) h3 h4));have g1:=ma h1.2.2.1 h2.2.2.2 h1.2.2.2 h2.2.2.1;have g2:=ma h1.2.2.2 h2.2.1 h1.2.1 h2.2.2.2;have g3:=ma h1.2.1 h2.2.2.1 h1.2.2.1 h2.2.1;walk_at "gf";exact q _ s1
theorem jhV (T:Tx K mg t1 t2) (F:At K mg "without" jct ["spot","place"] []):jao P w K mg base CX0 1 "without" ["spot","place"] [] jfZ:=by
  refine F.ok jeM (by walk_at "ar") (fun f cdv A outer s H vs Q E hr h=>?_);obtain⟨r,k,p,rfl,h1,k0,k3,q⟩:=h;have S:=jeM;refine⟨_,(jai (jas (jaU jaZ rfl T.m_tuple boot_tuple (jaa (jbb rfl (N':=["k","spot","place"]) (ix:=[0,1]) ⟨rfl,rfl,by decide +kernel,by decide +kernel,by decide +kernel,(show ∀y:Str × NameKind,y∈_->y.2=NameKind.free->(jah jct).names.lookup y.1=some .cell\/(jah jct).names.lookup y.1=some .free from by decide +kernel),(.cons rfl (.inl rfl) rfl (.cons rfl (.inl rfl) rfl .nil))⟩ (jaV rfl T.m_range (jaa jab jad jaj)) (fun _ _ _ _=>jan (i:=0) (show (["k","spot","place"]:List Str).Nodup from by decide +kernel) rfl (Or.inl rfl)) (fun _ _ _ _=>(jea (jaq jeY (pv 0) (pv 2) (jax _)))) (fun _ _ _ _=>(jak (ja0 (K:=K) rfl) (pv 1) (pv 0)))) jad jcS)))),?_⟩;have k_h1:=h1.sq (K:=K);have e:k=0\/k=1\/k=2\/k=3:=by omega
  walk_at "rf";walk_at "gf";intro acc hacc;refine jmP (n:=4) (fun i=>.int (match i with | 0=>p.x | 1=>p.y | 2=>p.z | _=>p.w)) (fun i=>!decide ((i:Int)=k)) (by decide) hacc ?_ ?_ ?_
  . intro i H3 R hi s3 hR
    walk_at "rf";have z:=hR H3 (Same.refl _);rw[xcu];exact z
  . intro i H3 R hi ci s3 hR
    have k1:=s3.tup k_h1
    match i,hi with
    | 0, _ =>
      walk_at "rf";walk_at "gf";exact hR _ (Same.refl _)
    | 1, _ =>
      walk_at "rf";walk_at "gf";exact hR _ (Same.refl _)
    | 2, _ =>
      walk_at "rf";walk_at "gf";exact hR _ (Same.refl _)
    | 3, _ =>
      walk_at "rf";walk_at "gf";exact hR _ (Same.refl _)
  intro H1 s1 e1;refine FoR.tupOf (X:=True) (SqL.of e1) fun t H2 s2 e2=>q t H2 (s1.trans s2) ?_;rw[e2];rcases e with rfl | rfl | rfl | rfl<;>rfl
theorem jiO {k:Int} (hp:p.sm) (h:H r=some (.tup ((wo k p).map V.int))):∃a b c,wo k p=[a,b,c]/\Tup3 H r a b c:=by
 by_cases k0:k=0
 ·have e:wo k p=[p.y,p.z,p.w]:=if_pos k0;rw[e] at h;exact⟨_,_,_,e,h,hp.2.1,hp.2.2.1,hp.2.2.2⟩
 by_cases k1:k=1
 ·have e:wo k p=[p.x,p.z,p.w]:=by unfold wo;rw[if_neg k0,if_pos k1]
  rw[e] at h;exact⟨_,_,_,e,h,hp.1,hp.2.2.1,hp.2.2.2⟩
 by_cases k2:k=2
 ·have e:wo k p=[p.x,p.y,p.w]:=by unfold wo;rw[if_neg k0,if_neg k1,if_pos k2]
  rw[e] at h;exact⟨_,_,_,e,h,hp.1,hp.2.1,hp.2.2.2⟩
 have e:wo k p=[p.x,p.y,p.z]:=by unfold wo;rw[if_neg k0,if_neg k1,if_neg k2]
 rw[e] at h;exact⟨_,_,_,e,h,hp.1,hp.2.1,hp.2.2.1⟩
theorem Tup3.keep {b:Int} (h:Tup3 H r a b c) (s:Same H H'):Tup3 H' r a b c:=⟨s _ _ h.1,h.2⟩
theorem jkO (T:Tx K mg t1 t2) (F:At K mg "minor_of" jdx ["one","other","third","place"] []) (dM:jao P w K mg base CX0 1 "without" ["spot","place"] [] jfZ) (Da:jao P w K mg base CX0 2 "determinant" ["one","other","third"] [] joU):jao P w K mg base CX0 3 "minor_of" ["one","other","third","place"] [] jfc:=by
 refine F.ok jek (by walk_at "ar") (fun f cdv A outer s H vs Q E hr h=>?_);obtain⟨r,e,t,k,p,o,u,rfl,h1,h2,h3,k0,k3,q⟩:=h;have S:=jek;refine⟨_,(jai (jas (jag Da hr.m rfl jav (jaa (jag dM hr.m rfl jav (jaa (pv 0) (jaa (pv 3) jad jae) jae)) (jaa (jag dM hr.m rfl jav (jaa (pv 1) (jaa (pv 3) jad jae) jae)) (jaa (jag dM hr.m rfl jav (jaa (pv 2) (jaa (pv 3) jad jae) jae)) jad jaF) jaF) jaF)))),?_⟩;walk_at "rf";refine⟨r,k,p,rfl,h1,k0,k3,fun t1 H1 s1 e1=>?_⟩;refine⟨e,k,o,rfl,h2.keep s1,k0,k3,fun t2 H2 s2 e2=>?_⟩;refine⟨t,k,u,rfl,h3.keep (s1.trans s2),k0,k3,fun t3 H3 s3 e3=>?_⟩;obtain⟨a,b,c,w1,z1⟩:=jiO h1.2 e1;obtain⟨a2,b2,c2,w2,z2⟩:=jiO h2.2 e2;obtain⟨a3,b3,c3,w3,z3⟩:=jiO h3.2 e3;have em:jaC k p o u=jbE a b c a2 b2 c2 a3 b3 c3:=by
  unfold jaC;rw[w1,w2,w3];rfl
 refine⟨t1,t2,t3,a,b,c,a2,b2,c2,a3,b3,c3,rfl,z1.keep (s2.trans s3),z2.keep s3,z3,fun H4 s4=>?_⟩;rw[<- em];exact q H4 (s1.trans (s2.trans (s3.trans s4)))
theorem jm4 (T:Tx K mg t1 t2) (F:At K mg "in_line" jeg ["one","other","third"] []) (df:jao P w K mg base CX0 3 "minor_of" ["one","other","third","place"] [] jfc):jao P w K mg base CX0 4 "in_line" ["one","other","third"] [] jlO:=by
  refine F.ok jeN (by walk_at "ar") (fun f cdv A outer s H vs Q E hr h=>?_);obtain⟨r,e,t,p,o,u,rfl,h1,h2,h3,q⟩:=h;have S:=jeN;refine⟨_,(jaf (jbp PassesOwn.never rfl (jaV rfl T.m_range (jaa jab jad jaj)) (jan (i:=3) S.nd rfl (Or.inl rfl))
    (jai (jaL (jaq jeY (jag df hr.m rfl jav (jaa (pv 0) (jaa (pv 1) (jaa (pv 2) (jaa (pv 3) jad jae) jae) jae) jae)) jab (jax _))
    (jai (jas jcp))
    jaw)))
    (jai (jas jcp))),?_⟩
  walk_at "rf";walk_at "gf";refine jbH (lo:=0) (n:=3) (fun i σ H2=>Same H H2/\∃o3:Option V,σ=[some (.ref r),some (.ref e),some (.ref t),o3]/\(1<=i->jaC 0 p o u=0)/\(2<=i->jaC 1 p o u=0)/\(3<=i->jaC 2 p o u=0)) ⟨Same.refl _,none,rfl,by simp,by simp,by simp⟩ ?_ ?_
  . rintro i σ H2 hi ⟨s2,o3,rfl,e0,e1,e2⟩
    walk_at "rf";refine⟨r,e,t,_,p,o,u,rfl,h1.keep s2,h2.keep s2,h3.keep s2,by omega,by omega,fun H3 s3=>?_⟩;have ei:(0:Int)+(i:Int)=(i:Int):=xcu _;rw[ei]
    match i,hi with
    | 0, _ =>
      walk_at "rf";refine jbP (fun c=>⟨s2.trans s3,fun _=>c,fun h=>absurd h (by decide),fun h=>absurd h (by decide)⟩) fun c=>?_;have ef:inl p o u=false:=decide_eq_false fun z=>c z.1;exact ef▸q H3 (s2.trans s3)
    | 1, _ =>
      have d0:=e0 (by decide);walk_at "rf";refine jbP (fun c=>⟨s2.trans s3,fun _=>d0,fun _=>c,fun h=>absurd h (by decide)⟩) fun c=>?_;have ef:inl p o u=false:=decide_eq_false fun z=>c z.2.1;exact ef▸q H3 (s2.trans s3)
    | 2, _ =>
      have d0:=e0 (by decide);have d1:=e1 (by decide);walk_at "rf";refine jbP (fun c=>⟨s2.trans s3,fun _=>d0,fun _=>d1,fun _=>c⟩) fun c=>?_;have ef:inl p o u=false:=decide_eq_false fun z=>c z.2.2;exact ef▸q H3 (s2.trans s3)
  . rintro σ H2 ⟨s2,o3,rfl,e0,e1,e2⟩
    have ef:inl p o u=true:=decide_eq_true ⟨e0 (by decide),e1 (by decide),e2 (by decide)⟩;exact ef▸q H2 s2
theorem mem4 {b:Int} (ha:Small a) (hb:Small b) (hc:Small c) (hd:Small d):∀n∈[a,b,c,d],Small n:=fun n hn=>by
 simp only[xaG,xbH,or_false] at hn;rcases hn with rfl | rfl | rfl | rfl<;>assumption
theorem gl4 {b:Int} (h:¬(a=0/\b=0/\c=0)):0<gl [a,b,c,d]:=by
 by_cases c1:a=0
 ·by_cases c2:b=0
  ·exact jdL (n:=c) (by simp) fun z=>h ⟨c1,c2,z⟩
  ·exact jdL (n:=b) (by simp) c2
 ·exact jdL (n:=a) (by simp) c1
def vneg (v:V):V:=match v with | .int i=>.int (-i) | _=>v
theorem jkP (ns:List Int):(ns.map V.int).map vneg=(ns.map fun n=>-n).map V.int:=by
 rw[xbp,xbp];rfl
theorem jiP (T:Tx K mg t1 t2) (F:At K mg "turned_about" jbh ["plane"] []):jao P w K mg base CX0 1 "turned_about" ["plane"] [] jg6:=by
 refine F.ok jcz (by walk_at "ar") (fun f cdv A outer s H vs Q E hr h=>?_);obtain⟨r,ns,rfl,h1,hl,q⟩:=h;have S:=jcz;refine⟨_,(jai (jas (jaU jaZ rfl T.m_tuple boot_tuple (jaa (jbb rfl (N':=["number"]) (ix:=[]) ⟨rfl,rfl,by decide +kernel,by decide +kernel,by decide +kernel,(show ∀y:Str × NameKind,y∈_->y.2=NameKind.free->(jah jbh).names.lookup y.1=some .cell\/(jah jbh).names.lookup y.1=some .free from by decide +kernel),.nil⟩ (jdJ (pv 0)) (fun _ _ _ _=>jan (i:=0) (show (["number"]:List Str).Nodup from by decide +kernel) rfl (Or.inl rfl)) (fun _ _ _ _=>jbd) (fun _ _ _ _=>(jdq jb6 (pv 0)))) jad jcS)))),?_⟩;have k1:SqT K H r (ns.map V.int):=SqT.of h1;walk_at "rf";walk_at "gf";intro acc hacc;refine jmQ vneg (by rw[xaa];omega) hacc k1 ?_ ?_
 ·intro z H3 R hz s3 hR;obtain⟨m,hm,rfl⟩:=xao.mp hz;walk_at "rd";exact hR _ (Same.refl _)
 intro H1 s1 e1;rw[jkP] at e1;exact FoR.tupOf (X:=True) (SqL.of e1) fun t H2 s2 e2=>q t H2 (s1.trans s2) e2
theorem jm5 (T:Tx K mg t1 t2) (F:At K mg "sign_of" jee ["number"] []):jao P w K mg base CX0 1 "sign_of" ["number"] [] jiJ:=by
 refine F.ok jeK (by walk_at "ar") (fun f cdv A outer s H vs Q E hr h=>?_);obtain⟨n,rfl,q⟩:=h;have S:=jeK;refine⟨_,(jaf (jaL (jaq jgm (pv 0) jab (jax _))
  (jai (jas jab))
  jaw)
  (jaf (jaL (jaq jgl (pv 0) jab (jax _))
  (jai (jas (jdq jb6 jab)))
  jaw)
  (jai (jas jab)))),?_⟩
 unfold sgn at q;walk_at "rd";refine jbP (fun c=>?_) fun c=>jbP (fun c1=>?_) fun c1=>?_
 ·rw[if_pos c] at q;exact q
 ·rw[if_neg c,if_pos c1] at q;exact q
 ·rw[if_neg c,if_neg c1] at q;exact q
theorem jkQ (T:Tx K mg t1 t2) (F:At K mg "is_plain" jdy ["plane"] []):jao P w K mg base CX0 1 "is_plain" ["plane"] [] jiH:=by
  refine F.ok jel (by walk_at "ar") (fun f cdv A outer s H vs Q E hr h=>?_);obtain⟨r,a,b,c,d,rfl,h1,q⟩:=h;have S:=jel;refine⟨_,(jaf (jbp PassesOwn.never rfl (jdJ (jaY jfJ (pv 0) jbl (ja5 jab))) (jan (i:=1) S.nd rfl (Or.inl rfl))
    (jai (jaL (jaq jeY (pv 1) jab (jax _))
    (jai (jas (jd4 jgm (pv 1) jab (jax _))))
    jaw)))
    (jai (jas jcp))),?_⟩
  walk_at "rf";refine⟨r,_,rfl,SqT.of h1,(show ¬(HT.sIx 4 0 none=0/\HT.sIx 4 4 (some 3)=4) by decide),fun p hp=>?_⟩;have sp:=Same.new hp (.tup (jb5 [.int a,.int b,.int c,.int d] none (some 3)));have ep:upd H p (.tup (jb5 [.int a,.int b,.int c,.int d] none (some 3))) p=some (.tup ([a,b,c].map V.int)):=jac;generalize upd H p (.tup (jb5 [.int a,.int b,.int c,.int d] none (some 3)))=H1 at sp ep |-
  have kp:SqT K H1 p ([a,b,c].map V.int):=SqT.of ep;walk_at "gf";have q:=q H1 sp;unfold plb at q;refine jgk (K:=K) (a:=p) (xs:=[a,b,c].map V.int) (fun i σ H2=>H2=H1/\∃o1:Option V,σ=[some (.ref r),o1]/\(1<=i->a=0)/\(2<=i->b=0)/\(3<=i->c=0)) ⟨rfl,none,rfl,by simp,by simp,by simp⟩ (fun i σ H2 _ ⟨h,_⟩=>by rw[h];exact kp) ?_ ?_
  . rintro i v σ H2 hi ⟨rfl,o1,rfl,e0,e1,e2⟩
    match i,hi with
    | 0, hi =>
      cases hi;walk_at "rf";refine jbP (fun cc=>⟨fun _=>cc,fun h=>absurd h (by decide),fun h=>absurd h (by decide)⟩) fun cc=>?_;rw[if_pos cc] at q;exact q
    | 1, hi =>
      cases hi;have d0:=e0 (by decide);walk_at "rf";refine jbP (fun cc=>⟨fun _=>d0,fun _=>cc,fun h=>absurd h (by decide)⟩) fun cc=>?_;rw[if_neg (fun n=>n d0),if_pos cc] at q;exact q
    | 2, hi =>
      cases hi;have d0:=e0 (by decide);have d1:=e1 (by decide);walk_at "rf";refine jbP (fun cc=>⟨fun _=>d0,fun _=>d1,fun _=>cc⟩) fun cc=>?_;rw[if_neg (fun n=>n d0),if_neg (fun n=>n d1),if_pos cc] at q;exact q
  . rintro σ H2 ⟨rfl,o1,rfl,e0,e1,e2⟩
    rw[if_neg (fun n=>n (e0 (show 1<=3 by decide))),if_neg (fun n=>n (e1 (show 2<=3 by decide))),if_neg (fun n=>n (e2 (show 3<=3 by decide)))] at q;exact q
theorem jkR (T:Tx K mg t1 t2) (F:At K mg "rough_plane" jce ["one","other","third"] []) (df:jao P w K mg base CX0 3 "minor_of" ["one","other","third","place"] [] jfc):jao P w K mg base CX0 4 "rough_plane" ["one","other","third"] [] jiI:=by
 refine F.ok jcU (by walk_at "ar") (fun f cdv A outer s H vs Q E hr h=>?_);obtain⟨r,e,t,p,o,u,rfl,h1,h2,h3,q⟩:=h;have S:=jcU;refine⟨_,(jai (jas (jaB (jaa (jag df hr.m rfl jav (jaa (pv 0) (jaa (pv 1) (jaa (pv 2) (jaa jab jad jaj) jae) jae) jae)) (jaa (jdq jb6 (jag df hr.m rfl jav (jaa (pv 0) (jaa (pv 1) (jaa (pv 2) (jaa jab jad jaj) jae) jae) jae))) (jaa (jag df hr.m rfl jav (jaa (pv 0) (jaa (pv 1) (jaa (pv 2) (jaa jab jad jaj) jae) jae) jae)) (jaa (jag df hr.m rfl jav (jaa (pv 0) (jaa (pv 1) (jaa (pv 2) (jaa jab jad jaj) jae) jae) jae)) jad jaF) jaF) jhO) jaF)))),?_⟩;walk_at "rf";refine⟨r,e,t,0,p,o,u,rfl,h1,h2,h3,by decide,by decide,fun H1 s1=>?_⟩;refine⟨r,e,t,1,p,o,u,rfl,h1.keep s1,h2.keep s1,h3.keep s1,by decide,by decide,fun H2 s2=>?_⟩;have s12:=s1.trans s2;walk_at "rf";refine⟨r,e,t,2,p,o,u,rfl,h1.keep s12,h2.keep s12,h3.keep s12,by decide,by decide,fun H3 s3=>?_⟩;have s13:=s12.trans s3;refine⟨r,e,t,3,p,o,u,rfl,h1.keep s13,h2.keep s13,h3.keep s13,by decide,by decide,fun H4 s4=>?_⟩;exact⟨by decide,fun g hg=>q g _ (s13.trans (s4.trans (Same.new hg _))) jac⟩
theorem jha {b z u v w:Int} (ha:Sm2 a) (hb:Sm2 b) (hc:Sm2 c) (hx:Sm2 x) (hy:Sm2 y) (hz:Sm2 z) (hu:Sm2 u) (hv:Sm2 v) (hw:Sm2 w):Bd 1953 (jbE a b c x y z u v w):=by
 have m:∀{i j k l e:Int},Sm2 i->Sm2 j->Sm2 k->Sm2 l->Sm2 e->Bd 1951 ((i*j-k*l)*e):=fun h1 h2 h3 h4 h5=>Bd.mul (n:=1301) (m:=650) (Bd.sub (Bd.mul (n:=650) (m:=650) h1 h2) (Bd.mul (n:=650) (m:=650) h3 h4)) h5;exact Bd.add (Bd.add (m hb hz hc hy hu) (m hc hx ha hz hv)) (Bd.mono (n:=1951) (m ha hy hb hx hw))
theorem jhb {o u:Pt} (hp:p.sm) (ho:o.sm) (hu:u.sm):Small (jaC 0 p o u)/\Small (jaC 1 p o u)/\Small (jaC 2 p o u)/\Small (jaC 3 p o u):=by
 obtain⟨a,b,c,d⟩:=hp;obtain⟨a',b',c',d'⟩:=ho;obtain⟨a2,b2,c2,d2⟩:=hu;exact⟨Bd.mono (n:=1953) (jha b c d b' c' d' b2 c2 d2),Bd.mono (n:=1953) (jha a c d a' c' d' a2 c2 d2),Bd.mono (n:=1953) (jha a b d a' b' d' a2 b2 d2),Bd.mono (n:=1953) (jha a b c a' b' c' a2 b2 c2)⟩
theorem jkS (T:Tx K mg t1 t2) (F:At K mg "made_plane" jcu ["a","b","c","d"] []) (dw:jao P w K mg base CX0 2 "in_lowest_terms" ["numbers"] [] jkM):jao P w K mg base CX0 3 "made_plane" ["a","b","c","d"] [] jiL:=by
 refine F.ok jdd (by walk_at "ar") (fun f cdv A outer s H vs Q E hr h=>?_);obtain⟨a,b,c,d,rfl,sa,sb,sc,sd,nz,q⟩:=h;have S:=jdd;refine⟨_,(jaf (jaL (PW.pt (jfC (jaq jdr (pv 0) jab (jax _)) (jfC (jaq jdr (pv 1) jab (jax _)) (jeX (jaq jdr (pv 2) jab (jax _))))))
  jbG
  jaw)
  (jai (jas (jag dw hr.m rfl jav (jaa (jaB (jaa (pv 0) (jaa (pv 1) (jaa (pv 2) (jaa (pv 3) jad jae) jae) jae) jae)) jad jaE))))),?_⟩
 have fin:∀p,H p=none->jkM [.ref p] (upd H p (.tup [.int a,.int b,.int c,.int d])) Q (fun _ _ _=>False):=fun p hp =>
  ⟨p,[a,b,c,d],rfl,jac,by simp,mem4 sa sb sc sd,by have:=gl4 (d:=d) nz;omega,fun r H' h1 h2=>q r H' ((Same.new hp _).trans h1) h2⟩
 walk_at "rf";by_cases c1:a=0
 ·rw[if_pos c1];by_cases c2:b=0
  ·rw[if_pos c2];by_cases c3:c=0
   ·exact absurd ⟨c1,c2,c3⟩ nz
   ·rw[if_neg c3];exact⟨by decide,fin⟩
  ·rw[if_neg c2];exact⟨by decide,fin⟩
 ·rw[if_neg c1];exact⟨by decide,fin⟩
theorem jhW (T:Tx K mg t1 t2) (F:At K mg "plane_through" jbJ ["one","other","third"] []) (dY:jao P w K mg base CX0 4 "rough_plane" ["one","other","third"] [] jiI) (Dc:jao P w K mg base CX0 3 "made_plane" ["a","b","c","d"] [] jiL) (Dl:jao P w K mg base CX0 1 "is_plain" ["plane"] [] jiH) (dU:jao P w K mg base CX0 1 "turned_about" ["plane"] [] jg6):jao P w K mg base CX0 5 "plane_through" ["one","other","third"] [] jei:=by
  refine F.ok jcn (by walk_at "ar") (fun f cdv A outer s H vs Q E hr h=>?_);obtain⟨r,e,t,p,o,u,rfl,h1,h2,h3,na,q⟩:=h;have S:=jcn;refine⟨_,(jaf (jat (i:=3) S.nd rfl (Or.inl rfl) (jag dY hr.m rfl jav (jaa (pv 0) (jaa (pv 1) (jaa (pv 2) jad jae) jae) jae)))
    (jaf (jat (i:=4) S.nd rfl (Or.inl rfl) (jag Dc hr.m rfl jav (jaa (jak jam (pv 3) jab) (jaa (jak jam (pv 3) jab) (jaa (jak jam (pv 3) jab) (jaa (jak jam (pv 3) jab) jad jap) jap) jap) jap)))
    (jaf (jaL (jeD (jag Dl hr.m rfl jav (jaa (pv 4) jad jae)))
    (jai (jas (pv 4)))
    jaw)
    (jai (jas (jag dU hr.m rfl jav (jaa (pv 4) jad jae))))))),?_⟩
  obtain⟨m0,m1,m2,m3⟩:=jhb h1.2 h2.2 h3.2;walk_at "rf";refine⟨r,e,t,p,o,u,rfl,h1,h2,h3,fun g H1 s1 e1=>?_⟩;have kg:SqT K H1 g [.int (jaC 0 p o u),.int (-jaC 1 p o u),.int (jaC 2 p o u),.int (jaC 3 p o u)]:=SqT.of e1;walk_at "gf";refine⟨_,_,_,_,rfl,m0,m1.neg,m2,m3,fun z=>na ⟨z.1,by omega,z.2.2⟩,fun g2 H2 s2 e2=>?_⟩;have el:∃a b c d,low (rgh p o u)=[a,b,c,d]:=⟨_,_,_,_,rfl⟩;have e2':H2 g2=some (.tup ((low (rgh p o u)).map V.int)):=e2;obtain⟨a,b,c,d,el⟩:=el;unfold pln at q;rw[el] at q e2';walk_at "rf";refine⟨g2,a,b,c,d,rfl,e2',fun H3 s3=>?_⟩;have s13:=s1.trans (s2.trans s3);dsimp only at q;cases eb:plb a b c with
  | true =>
    rw[eb,if_pos rfl] at q;walk_at "rf";exact q g2 H3 s13 (s3 _ _ e2')
  | false =>
    rw[eb,if_neg (by decide)] at q;walk_at "rf";refine⟨g2,[a,b,c,d],rfl,s3 _ _ e2',by simp,fun g3 H4 s4 e4=>?_⟩;exact q g3 H4 (s13.trans s4) e4
theorem ok_ht (T:Tx K mg t1 t2) (F:At K mg "height_over" jcf ["plane","spot"] []):jao P w K mg base CX0 1 "height_over" ["plane","spot"] [] spHt:=by
 refine F.ok jcV (by walk_at "ar") (fun f cdv A outer s H vs Q E hr h=>?_);obtain⟨r,e,a,b,c,d,p,rfl,h1,sa,sb,sc,sd,h2,q⟩:=h;have S:=jcV;refine⟨_,(jai (jas (jau ja6 (jau jbf (jau jbf (jau jaA (jak jam (pv 0) jab) (jak jam (pv 1) jab)) (jau jaA (jak jam (pv 0) jab) (jak jam (pv 1) jab))) (jau jaA (jak jam (pv 0) jab) (jak jam (pv 1) jab))) (jau jaA (jak jam (pv 0) jab) (jak jam (pv 1) jab))))),?_⟩;have k1:SqT K H r [.int a,.int b,.int c,.int d]:=SqT.of h1;have f1:=sa.bd.fit;have f2:=sb.bd.fit;have f3:=sc.bd.fit;have f4:=sd.bd.fit;have k_h2:=h2.sq (K:=K);have g0:=h2.2.fx;have g1:=h2.2.fy;have g2:=h2.2.fz;have g3:=h2.2.fw;walk_at "rf";walk_at "gf";exact q
theorem jm6 (T:Tx K mg t1 t2) (F:At K mg "side_of" jeh ["plane","spot"] []) (dL:jao P w K mg base CX0 1 "sign_of" ["number"] [] jiJ) (dz:jao P w K mg base CX0 1 "height_over" ["plane","spot"] [] spHt):jao P w K mg base CX0 2 "side_of" ["plane","spot"] [] jg7:=by
 refine F.ok jeO (by walk_at "ar") (fun f cdv A outer s H vs Q E hr h=>?_);obtain⟨r,e,a,b,c,d,p,rfl,h1,sa,sb,sc,sd,h2,q⟩:=h;have S:=jeO;refine⟨_,(jai (jas (jag dL hr.m rfl jav (jaa (jag dz hr.m rfl jav (jaa (pv 0) (jaa (pv 1) jad jae) jae)) jad jaF)))),?_⟩;walk_at "rf";exact⟨r,e,a,b,c,d,p,rfl,h1,sa,sb,sc,sd,h2,_,rfl,q⟩
theorem jkT (T:Tx K mg t1 t2) (F:At K mg "stands_first" jbV ["one","other"] []):jao P w K mg base CX0 1 "stands_first" ["one","other"] [] jiK:=by
  refine F.ok jcy (by walk_at "ar") (fun f cdv A outer s H vs Q E hr h=>?_);obtain⟨r,e,p,o,rfl,h1,h2,q⟩:=h;have S:=jcy;refine⟨_,(jaf (jbp PassesOwn.never rfl (jaV rfl T.m_range (jaa jab jad jaj)) (jan (i:=2) S.nd rfl (Or.inl rfl))
    (jaf (jat (i:=3) S.nd rfl (Or.inl rfl) (jau jaA (jak jam (pv 0) (pv 2)) (jak jam (pv 1) jab)))
    (jaf (jat (i:=4) S.nd rfl (Or.inl rfl) (jau jaA (jak jam (pv 1) (pv 2)) (jak jam (pv 0) jab)))
    (jai (jaL (jaq jeY (pv 3) (pv 4) (jax _))
    (jai (jas (jd4 jgl (pv 3) (pv 4) (jax _))))
    jaw)))))
    (jai (jas jcp))),?_⟩
  have k_h1:=h1.sq (K:=K);have k_h2:=h2.sq (K:=K);have f0:=h1.2.fx;have f1:=h1.2.fy;have f2:=h1.2.fz;have f3:=h1.2.fw;have g0:=h2.2.fx;have g1:=h2.2.fy;have g2:=h2.2.fz;have g3:=h2.2.fw;unfold sfp at q;walk_at "rd";refine⟨3,rfl,by decide,by decide,jbH (lo:=0) (n:=3) (fun i σ H2=>H2=H/\∃(o0 o1 o2:Option V),σ=[some (.ref r),some (.ref e),o0,o1,o2]/\(1<=i->p.x*o.w=o.x*p.w)/\(2<=i->p.y*o.w=o.y*p.w)/\(3<=i->p.z*o.w=o.z*p.w)) ⟨rfl,none,none,none,rfl,by simp,by simp,by simp⟩ ?_ ?_⟩
  . rintro i σ H2 hi ⟨rfl,o0,o1,o2,rfl,e0,e1,e2⟩
    match i,hi with
    | 0, _ =>
      walk_at "rd";walk_at "go";refine jbP (fun c=>⟨fun _=>c,fun h=>absurd h (by decide),fun h=>absurd h (by decide)⟩) fun c=>?_;rw[sf,if_pos c] at q;exact q
    | 1, _ =>
      have d0:=e0 (by decide);walk_at "rd";walk_at "go";refine jbP (fun c=>⟨fun _=>d0,fun _=>c,fun h=>absurd h (by decide)⟩) fun c=>?_;rw[sf,if_neg (fun n=>n d0),if_pos c] at q;exact q
    | 2, _ =>
      have d0:=e0 (by decide);have d1:=e1 (by decide);walk_at "rd";walk_at "go";refine jbP (fun c=>⟨fun _=>d0,fun _=>d1,fun _=>c⟩) fun c=>?_;rw[sf,if_neg (fun n=>n d0),if_neg (fun n=>n d1),if_pos c] at q;exact q
  . rintro σ H2 ⟨rfl,o0,o1,o2,rfl,e0,e1,e2⟩
    rw[sf,if_neg (fun n=>n (e0 (by decide))),if_neg (fun n=>n (e1 (by decide))),if_neg (fun n=>n (e2 (by decide)))] at q;walk_at "rd";exact q
theorem jm7 (T:Tx K mg t1 t2) (F:At K mg "flat_axis" jc3 ["plane"] []):jao P w K mg base CX0 1 "flat_axis" ["plane"] [] jlP:=by
  refine F.ok jdN (by walk_at "ar") (fun f cdv A outer s H vs Q E hr h=>?_);obtain⟨r,a,b,c,d,rfl,h1,nz,q⟩:=h;have S:=jdN;refine⟨_,(jaf (jbp PassesOwn.never rfl (jaV rfl T.m_range (jaa jab jad jaj)) (jan (i:=1) S.nd rfl (Or.inl rfl))
    (jai (jaL (jaq jeY (jak jam (pv 0) (pv 1)) jab (jax _))
    (jai (jas (pv 1)))
    jaw)))
    (jai (jas jaO))),?_⟩
  have k1:SqT K H r [.int a,.int b,.int c,.int d]:=SqT.of h1;walk_at "rf";walk_at "gf";refine jbH (lo:=0) (n:=3) (fun i σ H2=>H2=H/\∃o1:Option V,σ=[some (.ref r),o1]/\(1<=i->a=0)/\(2<=i->b=0)/\(3<=i->c=0)) ⟨rfl,none,rfl,by simp,by simp,by simp⟩ ?_ ?_
  . rintro i σ H2 hi ⟨rfl,o1,rfl,e0,e1,e2⟩
    match i,hi with
    | 0, _ =>
      walk_at "rf";walk_at "gf";refine jbP (fun cc=>⟨fun _=>cc,fun h=>absurd h (by decide),fun h=>absurd h (by decide)⟩) fun cc=>?_;exact q _ (.inl ⟨rfl,cc⟩)
    | 1, _ =>
      have d0:=e0 (by decide);walk_at "rf";walk_at "gf";refine jbP (fun cc=>⟨fun _=>d0,fun _=>cc,fun h=>absurd h (by decide)⟩) fun cc=>?_;exact q _ (.inr (.inl ⟨rfl,d0,cc⟩))
    | 2, _ =>
      have d0:=e0 (by decide);have d1:=e1 (by decide);walk_at "rf";walk_at "gf";refine jbP (fun cc=>⟨fun _=>d0,fun _=>d1,fun _=>cc⟩) fun cc=>?_;exact q _ (.inr (.inr ⟨rfl,d0,d1,cc⟩))
  . rintro σ H2 ⟨rfl,o1,rfl,e0,e1,e2⟩
    exact absurd ⟨e0 (by decide),e1 (by decide),e2 (by decide)⟩ nz
theorem jm8 (T:Tx K mg t1 t2) (F:At K mg "side_of_edge" jbW ["edge","spot","axis"] []) (dL:jao P w K mg base CX0 1 "sign_of" ["number"] [] jiJ) (df:jao P w K mg base CX0 3 "minor_of" ["one","other","third","place"] [] jfc):jao P w K mg base CX0 4 "side_of_edge" ["edge","spot","axis"] [] jlQ:=by
 refine F.ok jcA (by walk_at "ar") (fun f cdv A outer s H vs Q E hr h=>?_);obtain⟨g,r,e,t,k,p,o,u,rfl,hg,h1,h2,h3,k0,k3,q⟩:=h;have S:=jcA;refine⟨_,(jai (jas (jag dL hr.m rfl jav (jaa (jag df hr.m rfl jav (jaa (jak jam (pv 0) jab) (jaa (jak jam (pv 0) jab) (jaa (pv 1) (jaa (pv 2) jad jae) jae) jap) jap)) jad jaF)))),?_⟩;have kg:SqT K H g [.ref r,.ref e]:=SqT.of hg;walk_at "rf";walk_at "gf";refine⟨r,e,t,k,p,o,u,rfl,h1,h2,h3,k0,k3,fun H1 s1=>?_⟩;exact⟨_,rfl,q H1 s1⟩
def fM1 (H:Hp) (l:Addr) (ps:List Pt):L2.St->Hp->Prop:=fun σ H'=>∃o2:Option V,σ=[some (.ref l),some (.int (fF ps:Nat)),o2,none]/\H'=H
def fM2 (H:Hp) (l:Addr) (ps:List Pt) (rs:List Addr):L2.St->Hp->Prop:=fun σ H'=>∃(g:Addr) (o1 o2:Option V),σ=[some (.ref l),o1,o2,some (.ref g)]/\H' g=some (.lst ((rot (fF ps) rs).map V.ref))/\Same H H'
def fM3 (H:Hp) (ps:List Pt) (rs:List Addr):L2.St->Hp->Prop:=fun σ H'=>∃(g:Addr) (o0 o1 o2:Option V),σ=[o0,o1,o2,some (.ref g)]/\H' g=some (.lst ((frm ps rs).map V.ref))/\Same H H'
theorem jfe {α:Type} {l:List α} (h:f<=l.length):(rot f l).length=l.length:=by
 unfold rot;rw[xad,xam,xah];omega
theorem jiQ (T:Tx K mg t1 t2) (F:At K mg "formed" jfa ["corners"] []) (dO:jao P w K mg base CX0 1 "stands_first" ["one","other"] [] jiK):jao P w K mg base CX0 2 "formed" ["corners"] [] jfd:=by
  refine F.ok jf1 (by walk_at "ar") (fun f cdv A outer s H vs Q E hr h=>?_);obtain⟨l,rs,ps,rfl,hc,n3,n8,q⟩:=h;have S:=jf1;refine⟨_,(jaf (jat (i:=1) S.nd rfl (Or.inl rfl) jab)
    (jaN (fM1 H l ps) (jbp PassesOwn.never rfl (jd2 rfl T.m_range (jaa jab (jaa (jaG jaI rfl T.m_len PySem.boot_len (jaa (pv 0) jad jae)) jad jaF) jaj)) (jan (i:=2) S.nd rfl (Or.inl rfl))
    (jai (jaL (jeD (jag dO hr.m rfl jav (jaa (jak ix_list (pv 0) (pv 2)) (jaa (jak ix_list (pv 0) (pv 1)) jad jap) jap)))
    (jai (jat (i:=1) S.nd rfl (Or.inl rfl) (pv 2)))
    jaw)))
    (jaN (fM2 H l ps rs) (jat (i:=3) S.nd rfl (Or.inl rfl) (jau jb7 (jaU jbx rfl T.m_list boot_list (jaa (jaY sl_list (pv 0) (ja5 (pv 1)) jbl) jad jap)) (jaU jbx rfl T.m_list boot_list (jaa (jaY sl_list (pv 0) jbl (ja5 (pv 1))) jad jap))))
    (jaN (fM3 H ps rs) (jaL (jeD (jag dO hr.m rfl jav (jaa (jak ix_list (pv 3) (jdq jb6 jab)) (jaa (jak ix_list (pv 3) jab) jad jap) jap)))
    (jai (jat (i:=3) S.nd rfl (Or.inl rfl) (jau jb7 (jaY sl_list (pv 3) jbl (ja5 jab)) (jhQ rfl rfl T.m_list rfl T.m_reversed (jaY sl_list (pv 3) (ja5 jab) jbl)))))
    jaw)
    (jai (jas (jaU jcc rfl T.m_tuple boot_tuple (jaa (pv 3) jad jae)))))))),?_⟩
  have ln:=hc.2.len;have lm:(rs.map V.ref).length=ps.length:=by rw[xaa,ln]
  have kl:SqL K H l (rs.map V.ref):=SqL.of hc.1;walk_at "rf";refine⟨⟨_,.inl kl,by decide,by decide,by omega,by omega,?_⟩,?_⟩
  . refine jbH (lo:=1) (n:=_) (fun i σ H2=>H2=H /\ ∃o2:Option V,σ=[some (.ref l),some (.int (jg9 ps i:Nat)),o2,none]) ⟨rfl,none,rfl⟩ ?_ ?_
    . rintro i σ H2 hi ⟨rfl,o2,rfl⟩
      have hi2:i+1<ps.length:=by omega
      have al:=jej ps i;obtain⟨g1,g2⟩:=hc.2.get hi2;obtain⟨g3,g4⟩:=hc.2.get (i:=jg9 ps i) (by omega);have e1:atI (rs.map V.ref) (1+(i:Int))=some (.ref (ad rs (i+1))):=by
        have z:(1+(i:Int))=((i+1:Nat):Int):=by omega
        rw[z];exact jaK g1
      walk_at "rf";refine ixL kl e1 ?_;refine ixL kl (jaK g3) ?_;refine⟨_,_,_,_,rfl,g2,g4,?_⟩;have ea:jg9 ps (i+1)=if sfp (pt ps (i+1)) (pt ps (jg9 ps i))=true then i+1 else jg9 ps i:=rfl;walk_at "rf";cases es:sfp (pt ps (i+1)) (pt ps (jg9 ps i)) with
      | true =>
        rw[es,if_pos rfl] at ea;rw[ea,if_pos rfl];exact⟨by omega,_,rfl⟩
      | false =>
        rw[es,if_neg (by decide)] at ea;rw[ea,if_neg (by decide)];exact⟨rfl,_,rfl⟩
    . rintro σ H2 ⟨rfl,o2,rfl⟩
      have e:(((List.map V.ref rs).length:Int)-1).toNat=ps.length-1:=by omega
      rw[e];exact⟨_,rfl,rfl⟩
  rintro σ1 H1 ⟨o2,rfl,rfl⟩;have fl:fF ps<ps.length:=by have:=jej ps (ps.length-1);unfold fF;omega
  walk_at "rf";refine⟨⟨l,_,rfl,kl,fun a1 h1=>?_⟩,?_⟩
  . rw[jg8]
    refine jeA h1 fun J1 s1 e1=>?_;refine⟨a1,rfl,_,.inl (SqL.of e1),fun a2 h2=>?_⟩;refine jeA h2 fun J2 s2 e2=>?_;refine⟨l,_,rfl,(s1.trans s2).seq kl,fun a3 h3=>?_⟩;rw[jdY];refine jeA h3 fun J3 s3 e3=>?_;refine⟨a3,rfl,_,.inl (SqL.of e3),fun a4 h4=>?_⟩;refine jeA h4 fun J4 s4 e4=>?_;refine⟨a2,a4,_,_,rfl,rfl,s4 _ _ (s3 _ _ e2),e4,?_,fun a5 h5=>⟨a5,_,_,rfl,?_,s1.trans (s2.trans (s3.trans (s4.trans (Same.new h5 _))))⟩⟩
    . rw[xam,xah]
      exact xav (show _<=1000 by omega) (by decide)
    . unfold rot
      rw[xaf,xbs,xbt];exact jac
  rintro σ2 H2 ⟨g,o1,o2,rfl,hg,s2⟩;have hr2:=(hc.2.keep s2.t).rot (fF ps);have rl:(rot (fF ps) ps).length=ps.length:=jfe (by omega);have rl2:((rot (fF ps) rs).map V.ref).length=ps.length:=by rw[xaa,jfe (by omega),ln]
  have kg:SqL K H2 g ((rot (fF ps) rs).map V.ref):=SqL.of hg;obtain⟨b1,b2⟩:=hr2.get (i:=ps.length-1) (by omega);obtain⟨b3,b4⟩:=hr2.get (i:=1) (by omega);have ef:∀{α:Type} (x:List α),frm ps x=turn (fB ps) (rot (fF ps) x):=fun _=>rfl;have eb:fB ps=sfp (pt (rot (fF ps) ps) (ps.length-1)) (pt (rot (fF ps) ps) 1):=rfl;walk_at "rf";refine⟨ixL kg (jcQ (n:=ps.length-1) (by omega) b1) (ixL kg (jaK (j:=1) b3) ?_),?_⟩
  . refine⟨_,_,_,_,rfl,b2,b4,?_⟩
    rw[<- eb];have ef:=ef rs;cases es:fB ps with
    | false =>
      rw[es] at ef;walk_at "rf";exact⟨g,_,_,_,rfl,by rw[ef];exact hg,s2⟩
    | true =>
      rw[es] at ef;have ef2:frm ps rs=(rot (fF ps) rs).take 1++((rot (fF ps) rs).drop 1).reverse:=ef;walk_at "rf";refine⟨g,_,rfl,kg,fun a1 h1=>?_⟩;have c1:jb5 ((rot (fF ps) rs).map V.ref) none (some 1)=((rot (fF ps) rs).map V.ref).take 1:=jdY (f:=1);rw[c1];refine jeA h1 fun J1 s3 e1=>?_;refine⟨g,_,rfl,s3.seq kg,fun a2 h2=>?_⟩;have c2:jb5 ((rot (fF ps) rs).map V.ref) (some 1) none=((rot (fF ps) rs).map V.ref).drop 1:=jg8 (f:=1);rw[c2];refine jeA h2 fun J2 s4 e2=>?_;refine⟨a2,rfl,_,SqL.of e2,fun a3 h3=>?_⟩;refine jeA h3 fun J3 s5 e3=>?_;refine⟨a1,a3,_,_,rfl,rfl,s5 _ _ (s4 _ _ e1),e3,?_,fun a4 h4=>⟨a4,_,_,_,rfl,?_,s2.trans (s3.trans (s4.trans (s5.trans (Same.new h4 _))))⟩⟩
      . rw[xaN,xam,xah]
        exact xav (show _<=1000 by omega) (by decide)
      . rw[ef2,xaf,xbt,xck,xbs]
        exact jac
  rintro σ3 H3 ⟨g,o0,o1,o2,rfl,hg,s3⟩;walk_at "rf";exact⟨_,SqL.of hg,fun t ht=>q t _ (s3.trans (Same.new ht _)) jac⟩
theorem jkU {rs:List Addr} (h:Sps H rs ps) (hi:i<ps.length):atI (rs.map V.ref) ((i:Int)-1)=some (.ref (ad rs ((i+(ps.length-1)) % ps.length))):=by
  have lm:(rs.map V.ref).length=ps.length:=by rw[xaa,h.len]
  cases i with
  | zero =>
    have e:(0+(ps.length-1)) % ps.length=ps.length-1:=by rw[xbK];exact xai (by omega)
    rw[e];have z:((0:Nat):Int)-1=-1:=rfl;rw[z];exact jcQ (n:=ps.length-1) (by omega) (h.get (i:=ps.length-1) (by omega)).1
  | succ i =>
    have e:(i+1+(ps.length-1)) % ps.length=i:=by
      have z:i+1+(ps.length-1)=i+ps.length:=by omega
      rw[z,xba];exact xai (by omega)
    rw[e];have z:((i+1:Nat):Int)-1=(i:Int):=by omega
    rw[z];exact jaK (h.get (i:=i) (by omega)).1
theorem joY (T:Tx K mg t1 t2) (F:At K mg "is_convex" jc4 ["corners","axis"] []) (dN:jao P w K mg base CX0 4 "side_of_edge" ["edge","spot","axis"] [] jlQ):jao P w K mg base CX0 5 "is_convex" ["corners","axis"] [] joV:=by
 refine F.ok jdO (by walk_at "ar") (fun f cdv A outer s H vs Q E hr h=>?_);obtain⟨l,k,rs,ps,rfl,hc,n3,n8,k0,k2,rnd,q⟩:=h;have S:=jdO;refine⟨_,(jaf (jat (i:=2) S.nd rfl (Or.inl rfl) (jag dN hr.m rfl jav (jaa (jaB (jaa (jak ix_list (pv 0) jab) (jaa (jak ix_list (pv 0) jab) jad jap) jap)) (jaa (jak ix_list (pv 0) jab) (jaa (pv 1) jad jae) jap) jaE)))
  (jaf (jat (i:=3) S.nd rfl (Or.inl rfl) (jaG jaI rfl T.m_len PySem.boot_len (jaa (pv 0) jad jae)))
  (jaf (jbp PassesOwn.never rfl (jaV rfl T.m_range (jaa (pv 3) jad jae)) (jan (i:=4) S.nd rfl (Or.inl rfl))
  (jaf (jat (i:=5) S.nd rfl (Or.inl rfl) (jaB (jaa (jak ix_list (pv 0) (jau ja6 (pv 4) jab)) (jaa (jak ix_list (pv 0) (pv 4)) jad jap) jap)))
  (jai (jbp PassesOwn.never rfl (jd2 rfl T.m_range (jaa jab (jaa (jau ja6 (pv 3) jab) jad ja7) jaj)) (jan (i:=6) S.nd rfl (Or.inl rfl))
  (jai (jaL (jaq jeY (jag dN hr.m rfl jav (jaa (pv 5) (jaa (jak ix_list (pv 0) (jau jbR (jau jbf (pv 4) (pv 6)) (pv 3))) (jaa (pv 1) jad jae) jap) jae)) (pv 2) (jax _))
  (jai (jas jcp))
  jaw))))))
  (jai (jas jcp))))),?_⟩
 have ln:=hc.2.len;have lm:(rs.map V.ref).length=ps.length:=by rw[xaa,ln]
 have kl:SqL K H l (rs.map V.ref):=SqL.of hc.1;obtain⟨a1,a2⟩:=hc.2.get (i:=0) (by omega);obtain⟨a3,a4⟩:=hc.2.get (i:=1) (by omega);obtain⟨a5,a6⟩:=hc.2.get (i:=2) (by omega);walk_at "rf";refine ixL kl (jaK (j:=0) a1) (ixL kl (jaK (j:=1) a3) ⟨by decide,fun g hg=>?_⟩);refine jeA hg fun H1 s1 e1=>?_;refine ixL (s1.seq kl) (jaK (j:=2) a5) ?_;refine⟨g,_,_,_,k,_,_,_,rfl,e1,a2.keep s1,a4.keep s1,a6.keep s1,k0,by omega,fun H2 s2=>?_⟩;have s12:=s1.trans s2;have kl2:=s12.seq kl;walk_at "rf";refine⟨_,.inl kl2,?_⟩;rw[lm];refine⟨by omega,by omega (config:={}),?_⟩;refine jbH (lo:=0) (n:=_) (fun i σ H3=>Same H H3/\∃o4 o5 o6:Option V,σ=[some (.ref l),some (.int k),some (.int (sgn (jaC k (pt ps 0) (pt ps 1) (pt ps 2)))),some (.int (ps.length:Nat)),o4,o5,o6]) ⟨s12,none,none,none,rfl⟩ ?_ ?_
 ·rintro i σ H3 hi ⟨s3,o4,o5,o6,rfl⟩;have hi2:i<ps.length:=by simpa using hi
  have kl3:=s3.seq kl;have sp3:=hc.2.keep s3.t;obtain⟨b1,b2⟩:=sp3.get hi2;have hm:(i+(ps.length-1)) % ps.length<ps.length:=xaR _ (by omega);obtain⟨b3,b4⟩:=sp3.get hm;have ep:=jkU sp3 hi2;have z0:(0:Int)+(i:Int)=(i:Int):=xcu _;rw[z0];walk_at "rf";refine ixL kl3 ep (ixL kl3 (jaK b1) ⟨by decide,fun g3 hg3=>?_⟩);refine jeA hg3 fun H4 s4 e4=>?_;refine⟨by decide,by decide,by omega,by omega,?_⟩;refine jbH (lo:=1) (n:=_) (fun j σ H5=>Same H4 H5/\∃o6:Option V,σ=[some (.ref l),some (.int k),some (.int (sgn (jaC k (pt ps 0) (pt ps 1) (pt ps 2)))),some (.int (ps.length:Nat)),some (.int (i:Int)),some (.ref g3),o6]) ⟨Same.refl _,_,rfl⟩ ?_ ?_
  ·rintro j σ H5 hj ⟨s5,o6,rfl⟩;have hj2:j+1<ps.length-1:=by omega
   have s35:=s4.trans s5;have s05:=s3.trans s35;have sp5:=hc.2.keep s05.t;have hm2:(i+(j+1)) % ps.length<ps.length:=xaR _ (by omega);obtain⟨c1,c2⟩:=sp5.get hm2;have ez:((i:Int)+(1+(j:Int))) % ((ps.length:Nat):Int)=(((i+(j+1)) % ps.length:Nat):Int):=by
    rw[Int.natCast_emod]
    congr 1
    omega
   walk_at "rf";rw[ez];refine⟨by omega,ixL (s05.seq kl) (jaK c1) ?_⟩;refine⟨g3,_,_,_,k,_,_,_,rfl,s5 _ _ e4,b4.keep s35,b2.keep s35,c2,k0,by omega,fun H6 s6=>?_⟩;rw[rnd i (j+1) hi2 (by omega) hj2];walk_at "rf";exact⟨s5.trans s6,_,rfl⟩
  ·rintro σ H5 ⟨s5,o6,rfl⟩;exact⟨s3.trans (s4.trans s5),_,_,_,rfl⟩
 ·rintro σ H3 ⟨s3,o4,o5,o6,rfl⟩;exact q _ s3
theorem jiR {b:Int} (h:¬(a=0/\b=0/\c=0)) (hp:plb a b c=false):plb (-a) (-b) (-c)=true:=by
 by_cases ha:a=0
 ·by_cases hb:b=0
  ·have hc:c≠0:=fun z=>h ⟨ha,hb,z⟩;simp [plb,ha,hb,hc] at hp |-
   omega
  ·simp [plb,ha,hb] at hp |-
   omega
 ·simp [plb,ha] at hp |-
  omega
theorem jlS (ns:List Int):gl (ns.map fun n=>-n)=gl ns:=by
 have d1:gl (ns.map fun n=>-n) ∣ gl ns:=jeJ fun n hn=>Int.dvd_neg.mp (jaX (xao.mpr ⟨n,hn,rfl⟩));have d2:gl ns ∣ gl (ns.map fun n=>-n):=jeJ fun n hn=>by
  obtain⟨m,hm,rfl⟩:=xao.mp hn;exact Int.dvd_neg.mpr (jaX hm)
 exact Int.dvd_antisymm (jbg _) (jbg _) d1 d2
theorem jiS {b:Int} (h:¬(a=0/\b=0/\c=0)) (sa:Small a) (sb:Small b) (sc:Small c) (sd:Small d):∃x y z w:Int,pln [a,b,c,d]=[x,y,z,w]/\Small x/\Small y/\Small z/\Small w/\gl [x,y,z,w]=1/\plb x y z=true/\∀p:Pt,hgt a b c d p=0->hgt x y z w p=0:=by
  have gp:=gl4 (d:=d) h;have g1:gl (low [a,b,c,d])=1:=joR (ns:=[a,b,c,d]) (by omega);have nz:¬(a / gl [a,b,c,d]=0/\b / gl [a,b,c,d]=0/\c / gl [a,b,c,d]=0):=fun z=>by
    have g:∀{x:Int},x∈[a,b,c,d]->x / gl [a,b,c,d]=0->x=0:=fun hx z=>xal fun q=>jed (jaX hx) q z;exact h ⟨g (by simp) z.1,g (by simp) z.2.1,g (by simp) z.2.2⟩
  have el:low [a,b,c,d]=[a / gl [a,b,c,d],b / gl [a,b,c,d],c / gl [a,b,c,d],d / gl [a,b,c,d]]:=rfl;have ea:=xbh (jaX (ns:=[a,b,c,d]) (n:=a) (by simp));have eb:=xbh (jaX (ns:=[a,b,c,d]) (n:=b) (by simp));have ec:=xbh (jaX (ns:=[a,b,c,d]) (n:=c) (by simp));have ed:=xbh (jaX (ns:=[a,b,c,d]) (n:=d) (by simp));have s1:=sa.div (g:=gl [a,b,c,d]);have s2:=sb.div (g:=gl [a,b,c,d]);have s3:=sc.div (g:=gl [a,b,c,d]);have s4:=sd.div (g:=gl [a,b,c,d]);unfold pln;rw[el] at g1 |-
  generalize gl [a,b,c,d]=g at gp g1 nz ea eb ec ed s1 s2 s3 s4 |-
  generalize a / g=x at g1 nz ea s1 |-
  generalize b / g=y at g1 nz eb s2 |-
  generalize c / g=z at g1 nz ec s3 |-
  generalize d / g=w at g1 ed s4 |-
  have hz:∀p:Pt,hgt a b c d p=0->hgt x y z w p=0:=fun p hp=>by
    have e:hgt x y z w p*g=0:=by
      rw[<- hp,<- ea,<- eb,<- ec,<- ed];unfold hgt;grind
    rcases xax.mp e with q | q
    . exact q
    . omega
  show ∃x' y' z' w':Int,(if plb x y z=true then [x,y,z,w] else [-x,-y,-z,-w])=[x',y',z',w']/\_;cases eb:plb x y z with
  | true=>exact⟨x,y,z,w,if_pos rfl,s1,s2,s3,s4,g1,eb,hz⟩
  | false =>
    refine⟨-x,-y,-z,-w,if_neg (by decide),s1.neg,s2.neg,s3.neg,s4.neg,?_,jiR nz eb,fun p hp=>?_⟩
    . rw[<- g1]
      exact jlS [x,y,z,w]
    . have e:=hz p hp
      have e2:hgt (-x) (-y) (-z) (-w) p=-hgt x y z w p:=by
        unfold hgt;grind
      rw[e2,e];rfl
theorem joZ {b z w:Int} (h:pln [a,b,c,d]=[x,y,z,w]):(x≠0->a≠0)/\(y≠0->b≠0)/\(z≠0->c≠0):=by
 have el:low [a,b,c,d]=[a / gl [a,b,c,d],b / gl [a,b,c,d],c / gl [a,b,c,d],d / gl [a,b,c,d]]:=rfl;unfold pln at h;rw[el] at h;generalize gl [a,b,c,d]=g at h;have h':(if plb (a / g) (b / g) (c / g)=true then [a / g,b / g,c / g,d / g] else [-(a / g),-(b / g),-(c / g),-(d / g)])=[x,y,z,w]:=h;have z0:∀{i:Int},i=0->i / g=0:=fun e=>by rw[e];exact Int.zero_ediv g
 split at h'
 ·simp only[List.cons.injEq,and_true] at h';obtain⟨e1,e2,e3,_⟩:=h';exact⟨fun q e=>q (by rw[<- e1];exact z0 e),fun q e=>q (by rw[<- e2];exact z0 e),fun q e=>q (by rw[<- e3];exact z0 e)⟩
 ·simp only[List.cons.injEq,and_true] at h';obtain⟨e1,e2,e3,_⟩:=h';exact⟨fun q e=>q (by rw[<- e1,z0 e];rfl),fun q e=>q (by rw[<- e2,z0 e];rfl),fun q e=>q (by rw[<- e3,z0 e];rfl)⟩
theorem jo0 {z:Int} (h:plb x y z=true):¬(x=0/\y=0/\z=0):=fun e=>by
 simp [plb,e.1,e.2.1,e.2.2] at h
theorem sgn0:sgn 0=0:=rfl
theorem jo1 {o u:Pt} (h:¬jbB p o u):inl p o u=false:=decide_eq_false h
theorem jkV (T:Tx K mg t1 t2) (F:At K mg "made_board" jcv ["corners"] []) (Dn:jao P w K mg base CX0 4 "in_line" ["one","other","third"] [] jlO) (dD:jao P w K mg base CX0 5 "plane_through" ["one","other","third"] [] jei) (dj:jao P w K mg base CX0 2 "side_of" ["plane","spot"] [] jg7) (Dg:jao P w K mg base CX0 1 "flat_axis" ["plane"] [] jlP) (Df:jao P w K mg base CX0 5 "is_convex" ["corners","axis"] [] joV) (dC:jao P w K mg base CX0 2 "formed" ["corners"] [] jfd):jao P w K mg base CX0 6 "made_board" ["corners"] [] jiM:=by
 refine F.ok jde (by walk_at "ar") (fun f cdv A outer s H vs Q E hr h=>?_);obtain⟨l,rs,ps,rfl,hc,B,q⟩:=h;have S:=jde;refine⟨_,(jaf (jaL (PW.pt (jko (jaq jgl (jaG jaI rfl T.m_len PySem.boot_len (jaa (pv 0) jad jae)) jab (jax _)) (jgM (jaq jgm (jaG jaI rfl T.m_len PySem.boot_len (jaa (pv 0) jad jae)) (jh7 rfl T.m_MOST_CORNERS T.r_MOST_CORNERS) (jax _)))))
  jbG
  jaw)
  (jaf (jaL (jeD (jag Dn hr.m rfl jav (jaa (jak ix_list (pv 0) jab) (jaa (jak ix_list (pv 0) jab) (jaa (jak ix_list (pv 0) jab) jad jap) jap) jap)))
  jbG
  jaw)
  (jaf (jat (i:=1) S.nd rfl (Or.inl rfl) (jag dD hr.m rfl jav (jaa (jak ix_list (pv 0) jab) (jaa (jak ix_list (pv 0) jab) (jaa (jak ix_list (pv 0) jab) jad jap) jap) jap)))
  (jaf (jbp PassesOwn.never rfl (jbk (pv 0)) (jan (i:=2) S.nd rfl (Or.inl rfl))
  (jai (jaL (jaq jeY (jag dj hr.m rfl jav (jaa (pv 1) (jaa (pv 2) jad jae) jae)) jab (jax _))
  jbG
  jaw)))
  (jaf (jaL (jop (jeD (jag Df hr.m rfl jav (jaa (pv 0) (jaa (jag Dg hr.m rfl jav (jaa (pv 1) jad jae)) jad jaF) jae))))
  jbG
  jaw)
  (jai (jas (jag dC hr.m rfl jav (jaa (pv 0) jad jae))))))))),?_⟩
 have n3:=B.n3;have n8:=B.n8;have ln:=hc.2.len;have lm:(rs.map V.ref).length=ps.length:=by rw[xaa,ln]
 have kl:SqL K H l (rs.map V.ref):=SqL.of hc.1;obtain⟨a1,a2⟩:=hc.2.get (i:=0) (by omega);obtain⟨a3,a4⟩:=hc.2.get (i:=1) (by omega);obtain⟨a5,a6⟩:=hc.2.get (i:=2) (by omega);obtain⟨m0,m1,m2,m3⟩:=jhb a2.2 a4.2 a6.2;obtain⟨x,y,z,v,ep,sx,sy,sz,sv,g1',pb,hz⟩:=jiS (a:=jaC 0 (pt ps 0) (pt ps 1) (pt ps 2)) (b:=-jaC 1 (pt ps 0) (pt ps 1) (pt ps 2)) (c:=jaC 2 (pt ps 0) (pt ps 1) (pt ps 2)) (d:=jaC 3 (pt ps 0) (pt ps 1) (pt ps 2)) (fun z=>B.na ⟨z.1,by omega,z.2.2⟩) m0 m1.neg m2 m3;obtain⟨nx,ny,nz⟩:=joZ ep;have er:rgh (pt ps 0) (pt ps 1) (pt ps 2)=[jaC 0 (pt ps 0) (pt ps 1) (pt ps 2),-jaC 1 (pt ps 0) (pt ps 1) (pt ps 2),jaC 2 (pt ps 0) (pt ps 1) (pt ps 2),jaC 3 (pt ps 0) (pt ps 1) (pt ps 2)]:=rfl;walk_at "rf";refine⟨_,.inl kl,?_⟩;rw[lm,if_neg (by omega)];refine⟨_,.inl kl,?_⟩;rw[lm,if_neg (by omega)];refine ixL kl (jaK (j:=0) a1) (ixL kl (jaK (j:=1) a3) (ixL kl (jaK (j:=2) a5) ?_));refine⟨_,_,_,_,_,_,rfl,a2,a4,a6,fun H1 s1=>?_⟩;rw[jo1 B.na];have kl1:=s1.seq kl;walk_at "rf";refine ixL kl1 (jaK (j:=0) a1) (ixL kl1 (jaK (j:=1) a3) (ixL kl1 (jaK (j:=2) a5) ?_));refine⟨_,_,_,_,_,_,rfl,a2.keep s1,a4.keep s1,a6.keep s1,B.na,fun g H2 s2 e2=>?_⟩;rw[er,ep] at e2;have s12:=s1.trans s2;have kl2:=s12.seq kl;try walk_at "rf"
 refine⟨⟨_,kl2⟩,?_⟩;refine jbw (K:=K) (a:=l) (xs:=rs.map V.ref) (fun i σ H3=>H3=H2/\∃o2:Option V,σ=[some (.ref l),some (.ref g),o2]) ⟨rfl,none,rfl⟩ (fun i σ H3 _ ⟨h,_⟩=>by rw[h];exact kl2) ?_ ?_
 ·rintro i r σ H3 hi ⟨rfl,o2,rfl⟩;have hlt:i<ps.length:=by
   have:=(xaj.mp hi).1;omega
  obtain⟨b1,b2⟩:=(hc.2.keep s12.t).get hlt;rw[b1] at hi;cases hi;walk_at "rf";refine⟨g,_,x,y,z,v,_,rfl,e2,sx,sy,sz,sv,b2,?_⟩;rw[hz _ (B.flat i hlt)];walk_at "rf";rw[if_pos sgn0];exact⟨_,rfl⟩
 ·rintro σ H3 ⟨rfl,o2,rfl⟩;walk_at "rf";refine⟨g,x,y,z,v,rfl,e2,jo0 pb,fun k hk=>?_⟩;have kk:0<=k/\k<=2/\jaC k (pt ps 0) (pt ps 1) (pt ps 2)≠0:=by
   rcases hk with ⟨rfl,h⟩ | ⟨rfl,_,h⟩ | ⟨rfl,_,_,h⟩
   ·exact⟨by decide,by decide,nx h⟩
   ·exact⟨by decide,by decide,fun e=>ny h (by omega)⟩
   ·exact⟨by decide,by decide,nz h⟩
  refine⟨l,k,rs,ps,rfl,hc.keep s12,n3,n8,kk.1,kk.2.1,B.rnd k kk.1 kk.2.1 kk.2.2,fun H4 s4=>?_⟩;walk_at "rf";refine⟨l,rs,ps,rfl,hc.keep (s12.trans s4),n3,xav n8 (by decide),fun t H5 s5 e5=>?_⟩;exact q t H5 (s12.trans (s4.trans s5)) e5
inductive spPlaneOfi (vs:List V) (H:Hp) (Q:VK):Prop
 | mk (t:Addr) (rs:List Addr) (ps:List Pt) (_:vs=[.ref t]) (_:H t=some (.tup (rs.map V.ref))) (_:Sps H rs ps) (_:3<=ps.length) (_:¬jbB (pt ps 0) (pt ps 1) (pt ps 2)) (_:∀(g:Addr) (H':Hp),Same H H'->H' g=some (.tup ((pln (rgh (pt ps 0) (pt ps 1) (pt ps 2))).map V.int))->Q (.ref g) H')
def jf3:Sp:=fun vs H Q _=>spPlaneOfi vs H Q
theorem jhX (T:Tx K mg t1 t2) (F:At K mg "plane_of" jdz ["board"] []) (dD:jao P w K mg base CX0 5 "plane_through" ["one","other","third"] [] jei):jao P w K mg base CX0 6 "plane_of" ["board"] [] jf3:=by
 refine F.ok jen (by walk_at "ar") (fun f cdv A outer s H vs Q E hr h=>?_);obtain⟨t,rs,ps,rfl,ht,hc,n3,na,q⟩:=h;have S:=jen;refine⟨_,(jai (jas (jag dD hr.m rfl jav (jaa (jak jam (pv 0) jab) (jaa (jak jam (pv 0) jab) (jaa (jak jam (pv 0) jab) jad jap) jap) jap)))),?_⟩;have kt:SqT K H t (rs.map V.ref):=SqT.of ht;obtain⟨a1,a2⟩:=hc.get (i:=0) (by omega);obtain⟨a3,a4⟩:=hc.get (i:=1) (by omega);obtain⟨a5,a6⟩:=hc.get (i:=2) (by omega);walk_at "rf";refine ixT kt (jaK (j:=0) a1) (ixT kt (jaK (j:=1) a3) (ixT kt (jaK (j:=2) a5) ?_));exact⟨_,_,_,_,_,_,rfl,a2,a4,a6,na,q⟩
theorem jlT {n:Int} (h:0<=n):0<=sgn n:=by
 unfold sgn;split
 ·decide
 ·split<;>omega
theorem jo2 {n:Int} (h:n<=0):sgn n<=0:=by
 unfold sgn;split
 ·omega
 ·split<;>omega
theorem jo3 {n:Int} (h:0<n):sgn n=1:=by
 unfold sgn;rw[if_pos h]
theorem jkW {n:Int} (h:n<0):sgn n=-1:=by
 unfold sgn;rw[if_neg (by omega),if_pos h]
theorem jo4 {n:Int} (h:n=0):sgn n=0:=by rw[h];rfl
theorem jco {X:Cx} {K:PySem.W.Frag} (h:X.K=K):IxR X (fun x y H Q=>jlA K x y H Q\/jd7 K x y H Q):=h▸ix_lt
variable {Q:VK}
theorem jhc {i:Int} {v:V} (k:SqL K H r xs\/SqT K H r xs) (e:atI xs i=some v) (q:Q v H):jlA K (.ref r) (.int i) H Q\/jd7 K (.ref r) (.int i) H Q:=by
 rcases k with k | k
 ·exact .inl (ixL k e q)
 ·exact .inr (ixT k e q)
local macro_rules | `(tactic| walk_at "gl") => `(tactic| repeat (first | ((with_reducible apply L2.ixT); assumption; rfl) | ((with_reducible apply My.jhc); assumption; rfl) | ((with_reducible apply L2.ixL); assumption; rfl) | ((with_reducible apply And.intro); (walk_at "sd")) | walk_at "rf"))
structure Tri where
 x:Int
 y:Int
 z:Int
def Tri.bd (n:Nat) (v:Tri):Prop:=Bd n v.x/\Bd n v.y/\Bd n v.z
structure Sht where
 s:Tri
 w:Int
 c:Tri
 d:Tri
def Sht.u (S:Sht):Tri:=⟨S.c.y*S.d.z-S.c.z*S.d.y,S.c.z*S.d.x-S.c.x*S.d.z,S.c.x*S.d.y-S.c.y*S.d.x⟩
def Tri.nz (v:Tri):Prop:=¬(v.x=0/\v.y=0/\v.z=0)
def Box (H:Hp) (L:Addr):Prop:=∃m:Int,H L=some (.lst [.int m])
theorem SameB.t (s:SameB L H H') (h:Box H L):SameT H H':=fun b xs hb=>by
 by_cases e:b=L
 ·obtain⟨m,hm⟩:=h;rw[e,hm] at hb;cases hb
 ·exact s b _ e hb
def Ix (ix:List Nat):Prop:=3<=ix.length/\ix.length<=8/\ix.Pairwise (· < ·)/\∀i∈ix,i<8
def rX (S:Sht) (v:Tri):Int:=S.s.x*v.z+S.w*(v.x*S.c.x+v.y*S.d.x)
def rY (S:Sht) (v:Tri):Int:=S.s.y*v.z+S.w*(v.x*S.c.y+v.y*S.d.y)
def rZ (S:Sht) (v:Tri):Int:=S.s.z*v.z+S.w*(v.x*S.c.z+v.y*S.d.z)
def rW (S:Sht) (v:Tri):Int:=S.w*v.z
def rG (S:Sht) (v:Tri):Int:=gl [rX S v,rY S v,rZ S v,rW S v]
def spt (S:Sht) (v:Tri):Pt:=⟨rX S v / rG S v,rY S v / rG S v,rZ S v / rG S v,rW S v / rG S v⟩
def Tri.pl (v:Tri):Prop:=1<=v.z
theorem Bd.div {i:Int} (h:Bd n i):Bd n (i / g):=xbl (xb3 i g) h
local macro_rules | `(tactic| walk_at "gl") => `(tactic| repeat (first | ((with_reducible apply L2.ixT); assumption; rfl) | ((with_reducible apply My.jhc); assumption; rfl) | ((with_reducible apply L2.ixL); assumption; rfl) | ((with_reducible apply And.intro); (walk_at "sd")) | walk_at "rf"))
def pl4 (p:Pt):List Int:=[p.x,p.y,p.z,p.w]
theorem Sps.rds {rs:List Addr} (h:Sps H rs ps):RdsAll K H (rs.map V.ref) (jeF (ps.map pl4)):=by
 induction h with
 | nil=>exact .nil
 | cons h _ ih=>exact .cons (.tup (SqT.of h.1) (RdsAll.ints (pl4 _))) ih
def jh3 (ps:List Pt):PyData:=.tuple (jeF (ps.map pl4))
theorem jff {b:Addr} {rs:List Addr} (hb:H b=some (.tup (rs.map V.ref))) (h:Sps H rs ps):Rds K H (.ref b) (jh3 ps):=.tup (SqT.of hb) h.rds
theorem jgw (ps:List Pt):PyData.canLay0 (jh3 ps)=true/\PyData.depth (jh3 ps)<=2/\PyData.eqv (jh3 ps) (jh3 ps)=true:=by
 obtain⟨h1,h2⟩:=jgZ (ps.map pl4);refine⟨h1,?_,?_⟩
 ·show PyData.depth (.tuple (jeF (ps.map pl4)))<=2;simp only[PyData.depth];omega
 ·show PyData.eqvAll (jeF (ps.map pl4)) (jeF (ps.map pl4))=true;rw[jdX,decide_eq_true rfl]
theorem jiT {m h k:Int} (hm:0<m) (hk:0<k) (e:d*m=h*k):d<0↔h<0:=by
 constructor
 ·intro hd;apply xal;intro n;have a:=xa6 hd hm;have b:=xaJ (show 0<=h by omega) (show 0<=k by omega);omega
 ·intro hh;apply xal;intro n;have a:=xa6 hh hk;have b:=xaJ (show 0<=d by omega) (show 0<=m by omega);omega
theorem jiU {b k:Int} {m:Int} (hk:0<k) (hm:0<m) (e:a*k=m*b):sgn a=sgn b:=by
 have e':a*k=b*m:=by rw[e];exact xbi ..
 have n:=jiT hk hm e';have p:=jiT (d:=-a) (h:=-b) hk hm (by rw[xcf,xcf,e']);unfold sgn;by_cases c:0<a
 ·rw[if_pos c,if_pos (show b>0 by omega)]
 ·rw[if_neg c,if_neg (show ¬b>0 by omega)];by_cases d:a<0
  ·rw[if_pos d,if_pos (by omega)]
  ·rw[if_neg d,if_neg (by omega)]
theorem jer:∀(ns:List Int) (d k m:Int),k ∣ m*d->(∀n∈ns,k ∣ m*n)->k ∣ m*G d ns
  | [],_,_,_,h,_=>h
  | n :: r, d, k, m, h, hn => by
    rw[jeI];refine jer r _ k m ?_ fun n' h'=>hn n' (xat _ h');have h1:=xbP h (hn n xa0);rw[Int.gcd_mul_left,Int.natCast_mul] at h1;exact xbJ h1 (Int.mul_dvd_mul (Int.natAbs_dvd.mpr (xct m)) (xct _))
theorem jlU (p o u:Pt):jaC 0 p o u=jbE p.y p.z p.w o.y o.z o.w u.y u.z u.w:=rfl
theorem jlV (p o u:Pt):jaC 1 p o u=jbE p.x p.z p.w o.x o.z o.w u.x u.z u.w:=rfl
theorem jlW (p o u:Pt):jaC 2 p o u=jbE p.x p.y p.w o.x o.y o.w u.x u.y u.w:=rfl
theorem jo5 (p o u:Pt):jaC 3 p o u=jbE p.x p.y p.z o.x o.y o.z u.x u.y u.z:=rfl
def dt (a b c:Tri):Int:=jbE a.x a.y a.z b.x b.y b.z c.x c.y c.z
theorem jdk {g1 g2 g3 b z u v w:Int}:jbE (g1*a) (g1*b) (g1*c) (g2*x) (g2*y) (g2*z) (g3*u) (g3*v) (g3*w)=jbE a b c x y z u v w*(g1*g2*g3):=by
 unfold jbE;grind
theorem ja9 (Z:Sht) (v:Tri):rG Z v*(spt Z v).x=rX Z v/\rG Z v*(spt Z v).y=rY Z v/\rG Z v*(spt Z v).z=rZ Z v/\rG Z v*(spt Z v).w=rW Z v :=
 ⟨xbd (jaX (by simp)),xbd (jaX (by simp)),xbd (jaX (by simp)),xbd (jaX (by simp))⟩
def w3 (Z:Sht):Int:=Z.w*Z.w*Z.w
def ud (Z:Sht):Int:=Z.u.x*Z.s.x+Z.u.y*Z.s.y+Z.u.z*Z.s.z
theorem jiV (Z:Sht) (a b c:Tri):jaC 0 (spt Z a) (spt Z b) (spt Z c)*(rG Z a*rG Z b*rG Z c)=w3 Z*Z.u.x*dt a b c:=by
 obtain⟨a1,a2,a3,a4⟩:=ja9 Z a;obtain⟨b1,b2,b3,b4⟩:=ja9 Z b;obtain⟨c1,c2,c3,c4⟩:=ja9 Z c;rw[jlU,<- jdk,a2,a3,a4,b2,b3,b4,c2,c3,c4];unfold w3 dt jbE rY rZ rW Sht.u;grind
theorem jiW (Z:Sht) (a b c:Tri):-jaC 1 (spt Z a) (spt Z b) (spt Z c)*(rG Z a*rG Z b*rG Z c)=w3 Z*Z.u.y*dt a b c:=by
 obtain⟨a1,a2,a3,a4⟩:=ja9 Z a;obtain⟨b1,b2,b3,b4⟩:=ja9 Z b;obtain⟨c1,c2,c3,c4⟩:=ja9 Z c;rw[xcf,jlV,<- jdk,a1,a3,a4,b1,b3,b4,c1,c3,c4];unfold w3 dt jbE rX rZ rW Sht.u;grind
theorem jiX (Z:Sht) (a b c:Tri):jaC 2 (spt Z a) (spt Z b) (spt Z c)*(rG Z a*rG Z b*rG Z c)=w3 Z*Z.u.z*dt a b c:=by
 obtain⟨a1,a2,a3,a4⟩:=ja9 Z a;obtain⟨b1,b2,b3,b4⟩:=ja9 Z b;obtain⟨c1,c2,c3,c4⟩:=ja9 Z c;rw[jlW,<- jdk,a1,a2,a4,b1,b2,b4,c1,c2,c4];unfold w3 dt jbE rX rY rW Sht.u;grind
theorem jo6 (Z:Sht) (a b c:Tri):jaC 3 (spt Z a) (spt Z b) (spt Z c)*(rG Z a*rG Z b*rG Z c)=Z.w*Z.w*ud Z*dt a b c:=by
 obtain⟨a1,a2,a3,a4⟩:=ja9 Z a;obtain⟨b1,b2,b3,b4⟩:=ja9 Z b;obtain⟨c1,c2,c3,c4⟩:=ja9 Z c;rw[jo5,<- jdk,a1,a2,a3,b1,b2,b3,c1,c2,c3];unfold ud dt jbE rX rY rZ Sht.u;grind
variable {Z:Sht}
variable {v:Tri}
theorem jcI (hw:1<=Z.w) (hv:v.pl):0<rG Z v:=by
 have W1:0<rW Z v:=xan (by omega) (show 0<v.z by have:1<=v.z:=hv;omega);exact jdL (n:=rW Z v) (by simp) (by omega)
theorem jkX (Z:Sht) (v:Tri):Z.w*Z.u.x*rX Z v+Z.w*Z.u.y*rY Z v+Z.w*Z.u.z*rZ Z v-ud Z*rW Z v=0:=by
 unfold ud rX rY rZ rW Sht.u;grind
theorem jkY {a b c:Tri} (hw:1<=Z.w) (ha:a.pl) (hb:b.pl) (hc:c.pl) (hv:v.pl):hgt (jaC 0 (spt Z a) (spt Z b) (spt Z c)) (-jaC 1 (spt Z a) (spt Z b) (spt Z c)) (jaC 2 (spt Z a) (spt Z b) (spt Z c)) (jaC 3 (spt Z a) (spt Z b) (spt Z c)) (spt Z v)=0:=by
 have p1:=jcI hw ha;have p2:=jcI hw hb;have p3:=jcI hw hc;have p4:=jcI hw hv;have gp:rG Z a*rG Z b*rG Z c*rG Z v≠0:=Int.ne_of_gt (xan (xan (xan p1 p2) p3) p4);refine (xax.mp ?_).resolve_right gp;obtain⟨v1,v2,v3,v4⟩:=ja9 Z v;have e:hgt (jaC 0 (spt Z a) (spt Z b) (spt Z c)) (-jaC 1 (spt Z a) (spt Z b) (spt Z c)) (jaC 2 (spt Z a) (spt Z b) (spt Z c)) (jaC 3 (spt Z a) (spt Z b) (spt Z c)) (spt Z v)*(rG Z a*rG Z b*rG Z c*rG Z v) =
   (jaC 0 (spt Z a) (spt Z b) (spt Z c)*(rG Z a*rG Z b*rG Z c))*(rG Z v*(spt Z v).x)+(-jaC 1 (spt Z a) (spt Z b) (spt Z c)*(rG Z a*rG Z b*rG Z c))*(rG Z v*(spt Z v).y)+(jaC 2 (spt Z a) (spt Z b) (spt Z c)*(rG Z a*rG Z b*rG Z c))*(rG Z v*(spt Z v).z)-(jaC 3 (spt Z a) (spt Z b) (spt Z c)*(rG Z a*rG Z b*rG Z c))*(rG Z v*(spt Z v).w):=by
  unfold hgt;grind
 rw[e,jiV,jiW,jiX,jo6,v1,v2,v3,v4];have f:=jkX Z v;have e2:w3 Z*Z.u.x*dt a b c*rX Z v+w3 Z*Z.u.y*dt a b c*rY Z v+w3 Z*Z.u.z*dt a b c*rZ Z v-Z.w*Z.w*ud Z*dt a b c*rW Z v=Z.w*Z.w*dt a b c*(Z.w*Z.u.x*rX Z v+Z.w*Z.u.y*rY Z v+Z.w*Z.u.z*rZ Z v-ud Z*rW Z v):=by
  unfold w3;grind
 rw[e2,f,xbk]
theorem jlX (hw:1<=Z.w):0<w3 Z:=xan (xan (by omega) (by omega)) (by omega)
theorem jdl {a b c:Tri} (hw:1<=Z.w) (nz:Z.u.nz) (hd:dt a b c≠0):¬jbB (spt Z a) (spt Z b) (spt Z c):=fun ⟨h0,h1,h2⟩=>by
 have e0:=jiV Z a b c;have e1:=jiW Z a b c;have e2:=jiX Z a b c;rw[h0,xbj] at e0;rw[h1,Int.neg_zero,xbj] at e1;rw[h2,xbj] at e2;have w0:=jlX hw;have c:∀{i:Int},0=w3 Z*i*dt a b c->i=0:=fun {i} e=>by
  rcases xax.mp e.symm with q | q
  ·rcases xax.mp q with r | r
   ·omega
   ·exact r
  ·exact absurd q hd
 exact nz ⟨c e0,c e1,c e2⟩
def uk (Z:Sht) (k:Int):Int:=if k=0 then Z.u.x else if k=1 then -Z.u.y else Z.u.z
theorem jiY {a b c:Tri} {k:Int} (hw:1<=Z.w) (ha:a.pl) (hb:b.pl) (hc:c.pl) (hd:0<dt a b c) (k0:0<=k) (k2:k<=2):sgn (jaC k (spt Z a) (spt Z b) (spt Z c))=sgn (uk Z k):=by
 have gp:=xan (xan (jcI hw ha) (jcI hw hb)) (jcI hw hc);have wd:=xan (jlX hw) hd;have e:k=0\/k=1\/k=2:=by omega
 rcases e with rfl | rfl | rfl
 ·refine jiU gp wd ?_;rw[jiV];show _=w3 Z*dt a b c*Z.u.x;grind
 ·refine jiU gp wd ?_;have z:=jiW Z a b c;show _=w3 Z*dt a b c*-Z.u.y;grind
 ·refine jiU gp wd ?_;rw[jiX];show _=w3 Z*dt a b c*Z.u.z;grind
theorem ix_lt {ix:List Nat} (h:Ix ix) {a:Nat} (ha:a<ix.length):ix.getD a 0<8:=by
 rw[xab,xac ha];exact h.2.2.2 _ (xa5 ha)
theorem jlY {k:Int} (hk:0<k) (ns:List Int):gl (ns.map (k*·))=k*gl ns:=by
 refine Int.dvd_antisymm (jbg _) (xaJ (by omega) (jbg _)) ?_ ?_
 ·exact jer ns 0 _ k (by rw[xbk];exact Int.dvd_zero _) fun n hn=>jaX (xao.mpr ⟨n,hn,rfl⟩)
 ·refine jeJ fun n hn=>?_;obtain⟨m,hm,rfl⟩:=xao.mp hn;exact Int.mul_dvd_mul (xct k) (jaX hm)
theorem jfg {k:Int} (hk:0<k) (ns:List Int):low (ns.map (k*·))=low ns:=by
 unfold low;rw[jlY hk,xbp];refine xbT fun n _=>?_;exact Int.mul_ediv_mul_of_pos _ _ hk
theorem jlZ (hf:f<l.length) (hi:i<l.length):pt (rot f l) i=pt l ((f+i) % l.length):=by
 unfold pt rot;rw[xab,xab];by_cases c:f+i<l.length
 ·rw[xai c,xaD (by rw[xam];omega),xbI]
 ·have e:(f+i) % l.length=f+i-l.length:=by
   rw[Nat.mod_eq_sub_mod (by omega)];exact xai (by omega)
  rw[e,xau (by rw[xam];omega),xam,xbX,if_pos (by omega)]
  congr 2
  omega
theorem jba (h:i<l.length):pt l i∈l:=by
 unfold pt;rw[xab,xac h];exact xa5 h
theorem jhd (h:p∈l):∃i,i<l.length/\pt l i=p:=by
 obtain⟨i,hi,e⟩:=xbo.mp h;refine⟨i,hi,?_⟩;unfold pt;rw[xab,xac hi];exact e
theorem jhY (hg:0<g) (e:g*x=y):(0<=y->0<=x)/\(0<y->0<x):=by
 constructor
 ·intro h;apply xal;intro n;have:=xaB hg (show x<0 by omega);omega
 ·intro h;apply xal;intro n;have:=Int.mul_nonpos_of_nonneg_of_nonpos (show 0<=g by omega) (show x<=0 by omega);omega
theorem SameB.fresh {H3:Hp} (s0:Same H H3) (h:H L=none) (s:SameB L H3 H'):Same H H':=fun b o hb=>s b o (jar hb h) (s0 b o hb)
theorem jf4 (hw:1<=Z.w) (hv:v.pl):1<=(spt Z v).w:=by
 have W1:0<rW Z v:=xan (by omega) (show 0<v.z by have:1<=v.z:=hv;omega);exact (jhY (jcI hw hv) (ja9 Z v).2.2.2).2 W1
theorem Box.keep (h:Box H L) (s:Same H H'):Box H' L:=by
 obtain⟨m,h⟩:=h;exact⟨m,s _ _ h⟩
theorem jm9 (h:x.natAbs<=y.natAbs) (hy:Bd n y):Bd n x:=xbl h hy
theorem jeP {rs:List Addr} (h:i<rs.length):(rs.map V.ref)[i]?=some (.ref (ad rs i)):=by
 unfold ad;rw[xae,xab,xac h];rfl
theorem jiZ:∀{ys:List V},(∀(i:Nat) (y:V),ys[i]?=some y->∃e:Addr,y=.ref e)->∃es:List Addr,ys=es.map V.ref
  | [],_=>⟨[],rfl⟩
  | y :: ys, h => by
    obtain⟨e,rfl⟩:=h 0 y rfl;obtain⟨es,rfl⟩:=jiZ (ys:=ys) fun i y hy=>h (i+1) y hy;exact⟨e::es,rfl⟩
inductive spEdgesi (vs:List V) (H:Hp) (Q:VK):Prop
 | mk (b:Addr) (rs:List Addr) (_:vs=[.ref b]) (_:H b=some (.tup (rs.map V.ref))) (_:3<=rs.length) (_:rs.length<=17) (_:∀(L:Addr) (H':Hp) (es:List Addr),Same H H'->H' L=some (.lst (es.map V.ref))->es.length=rs.length->(∀i,i<rs.length->H' (ad es i)=some (.tup [.ref (ad rs ((i+(rs.length-1)) % rs.length)),.ref (ad rs i)]))->Q (.ref L) H')
def ji0:Sp:=fun vs H Q _=>spEdgesi vs H Q
theorem jkZ (T:Tx K mg t1 t2) (F:At K mg "edges_of" jb8 ["board"] []):jao P w K mg base CX0 1 "edges_of" ["board"] [] ji0:=by
 refine F.ok jem (by walk_at "ar") (fun f cdv A outer s H vs Q E hr h=>?_);obtain⟨b,rs,rfl,hb,n3,n8,q⟩:=h;have S:=jem;refine⟨_,(jai (jas (jbb rfl (N':=["k","board"]) (ix:=[0]) ⟨rfl,rfl,by decide +kernel,by decide +kernel,by decide +kernel,(show ∀y:Str × NameKind,y∈_->y.2=NameKind.free->(jah jb8).names.lookup y.1=some .cell\/(jah jb8).names.lookup y.1=some .free from by decide +kernel),(.cons rfl (.inl rfl) rfl .nil)⟩ (jaV rfl T.m_range (jaa (jaG jaI rfl T.m_len PySem.boot_len (jaa (pv 0) jad jae)) jad jaF)) (fun _ _ _ _=>jan (i:=0) (show (["k","board"]:List Str).Nodup from by decide +kernel) rfl (Or.inl rfl)) (fun _ _ _ _=>jbd) (fun _ _ _ _=>(jaB (jaa (jak (ja0 (K:=K) rfl) (pv 1) (jau ja6 (pv 0) jab)) (jaa (jak (ja0 (K:=K) rfl) (pv 1) (pv 0)) jad jap) jap)))))),?_⟩;have lm:(rs.map V.ref).length=rs.length:=xaa _;have kb:SqT K H b (rs.map V.ref):=SqT.of hb;walk_at "rf";refine⟨_,.inr kb,by omega,by omega,fun acc hacc=>?_⟩;have e0:(((rs.map V.ref).length:Int)).toNat=rs.length:=by omega
 rw[e0];refine jlH (n:=rs.length) (fun i y H'=>∃e:Addr,y=.ref e/\H' e=some (.tup [.ref (ad rs ((i+(rs.length-1)) % rs.length)),.ref (ad rs i)])) (fun i y J J' ⟨e,h1,h2⟩ st=>⟨e,h1,st _ _ h2⟩) (by omega) hacc ?_ ?_
 ·intro i H3 R hi s4 hR;have kb3:=s4.tup kb;have g1:(rs.map V.ref)[i]?=some (.ref (ad rs i)):=jeP hi;have g2:atI (rs.map V.ref) (0+(i:Int)-1)=some (.ref (ad rs ((i+(rs.length-1)) % rs.length))):=by
   by_cases i0:i=0
   ·subst i0;have e1:(0+(rs.length-1)) % rs.length=rs.length-1:=by rw[xbK];exact xai (by omega)
    rw[e1];exact jcQ (n:=rs.length-1) (by omega) (jeP (by omega))
   ·have e1:(i+(rs.length-1)) % rs.length=i-1:=by
     have z:i+(rs.length-1)=i-1+rs.length:=by omega
     rw[z,xba];exact xai (by omega)
    have e2:(0+(i:Int)-1)=((i-1:Nat):Int):=by omega
    rw[e1,e2];exact jaK (jeP (by omega))
  walk_at "rf";refine ixT kb3 g2 ?_;refine ixT kb3 (by rw[xcu];exact jaK g1) ?_;exact⟨by decide,fun e he=>hR _ _ (Same.new he _) ⟨e,rfl,jac⟩⟩
 intro ys H3 s4 e4 l4 p4;obtain⟨es,rfl⟩:∃es:List Addr,ys=es.map V.ref:=jiZ fun i y hy=>let ⟨e,h1,_⟩:=p4 i y hy;⟨e,h1⟩;rw[xaa] at l4;refine q acc H3 es s4 e4 l4 fun i hi=>?_;obtain⟨e,h1,h2⟩:=p4 i _ (jeP (by omega));cases h1;exact h2
def ab (n:Int):Int:=if n<0 then -n else n
theorem ji1 (p:Pt):sfp p p=false:=by
 unfold sfp sf;rw[if_neg (fun n=>n rfl),if_neg (fun n=>n rfl),if_neg (fun n=>n rfl)]
theorem ix1:∀n,n<18->∀a,a<n->∀f,f<n->∀i,i<n->(a+(f+i) % n) % n=((a+f) % n+i) % n/\(a+(n-(f+i) % n)) % n=((a+(n-f)) % n+(n-i)) % n:=by decide +kernel
theorem ix2:∀n,n<18->∀a,a<n->∀i,i<n->(a+(n-i) % n) % n=(a+(n-i)) % n/\(a+(n-(n-i) % n)) % n=(a+i) % n:=by decide +kernel
theorem ix3:∀n,n<18->∀a,a<n->∀i,i<n->(a+(n-1-i)) % n=((a+(n-1)) % n+(n-i)) % n/\(a+(n-(n-1-i))) % n=((a+1) % n+i) % n:=by decide +kernel
theorem ix4:∀n,n<18->∀a,a<n->∀i,i<n->(a+(i+(n-a)) % n) % n=i/\(a+(n-(a+(n-i)) % n)) % n=i:=by decide +kernel
theorem ix7:∀n,n<18->3<=n->∀a,a<n->(a+1) % n≠(a+(n-1)) % n/\(a+0) % n=a/\(a+(n-0)) % n=a:=by decide +kernel
def Dih (ps qs:List Pt):Prop:=qs.length=ps.length/\∃a,a<ps.length/\((∀i,i<ps.length->pt qs i=pt ps ((a+i) % ps.length))\/(∀i,i<ps.length->pt qs i=pt ps ((a+(ps.length-i)) % ps.length)))
theorem Dih.refl (h:3<=ps.length):Dih ps ps:=⟨rfl,0,by omega,.inl fun i hi=>by rw[xbK,xai hi]⟩
theorem Dih.rot (d:Dih ps qs) (n8:ps.length<=17) (hf:f<ps.length):Dih ps (rot f qs):=by
 obtain⟨hl,a,ha,d⟩:=d;have rp:∀i,i<ps.length->pt (My.rot f qs) i=pt qs ((f+i) % ps.length):=fun i hi=>by rw[jlZ (by omega) (by omega),hl]
 have m:∀i,(f+i) % ps.length<ps.length:=fun i=>xaR _ (by omega);refine⟨by rw[jfe (by omega),hl],?_⟩;rcases d with d | d
 ·refine⟨(a+f) % ps.length,xaR _ (by omega),.inl fun i hi=>?_⟩;rw[rp i hi,d _ (m i),(ix1 _ (by omega) a ha f hf i hi).1]
 ·refine⟨(a+(ps.length-f)) % ps.length,xaR _ (by omega),.inr fun i hi=>?_⟩;rw[rp i hi,d _ (m i),(ix1 _ (by omega) a ha f hf i hi).2]
theorem jfh (hi:i<l.length):pt (turn true l) i=pt l ((l.length-i) % l.length):=by
  match l,hi with
  | x :: r, hi =>
    have e:turn true (x::r)=x::r.reverse:=rfl;rw[e];cases i with
    | zero=>rw[Nat.sub_zero,xbq];rfl
    | succ j =>
      have hj:j<r.length:=by simpa using hi
      have e2:((x::r).length-(j+1)) % (x::r).length=r.length-1-j+1:=by
        rw[xaA,xai (by omega)];omega
      rw[e2];unfold pt;rw[xab,xab,xb9,xb9,xbZ hj]
theorem jk1 (b:Bool):(turn b l).length=l.length:=by
 unfold turn;cases b
 ·rfl
 ·rw[if_pos rfl,xad,xaN,xah,xam];omega
theorem Dih.turn (d:Dih ps qs) (n8:ps.length<=17) (b:Bool):Dih ps (turn b qs):=by
  cases b with
  | false=>exact d
  | true =>
    obtain⟨hl,a,ha,d⟩:=d;refine⟨by rw[jk1,hl],a,ha,?_⟩;have tp:∀i,i<ps.length->pt (My.turn true qs) i=pt qs ((ps.length-i) % ps.length):=fun i hi=>by rw[jfh (by omega),hl]
    have m:∀i,(ps.length-i) % ps.length<ps.length:=fun i=>xaR _ (by omega);rcases d with d | d
    . exact .inr fun i hi=>by rw[tp i hi,d _ (m i),(ix2 _ (by omega) a ha i hi).1]
    . exact .inl fun i hi=>by rw[tp i hi,d _ (m i),(ix2 _ (by omega) a ha i hi).2]
theorem jo7 (hi:i<l.length):pt l.reverse i=pt l (l.length-1-i):=by
 unfold pt;rw[xab,xab,xbZ hi]
theorem Dih.rev (d:Dih ps qs) (n8:ps.length<=17):Dih ps qs.reverse:=by
 obtain⟨hl,a,ha,d⟩:=d;refine⟨by rw[xaN,hl],?_⟩;have tp:∀i,i<ps.length->pt qs.reverse i=pt qs (ps.length-1-i):=fun i hi=>by rw[jo7 (by omega),hl]
 rcases d with d | d
 ·exact⟨(a+(ps.length-1)) % ps.length,xaR _ (by omega),.inr fun i hi=>by rw[tp i hi,d _ (by omega),(ix3 _ (by omega) a ha i hi).1]⟩
 ·exact⟨(a+1) % ps.length,xaR _ (by omega),.inl fun i hi=>by rw[tp i hi,d _ (by omega),(ix3 _ (by omega) a ha i hi).2]⟩
theorem jo8 (h:3<=ps.length):fF ps<ps.length:=by have:=jej ps (ps.length-1);unfold fF;omega
theorem Dih.frm (d:Dih ps qs) (n3:3<=ps.length) (n8:ps.length<=17):Dih ps (frm qs qs) :=
 (d.rot n8 (by have:=jo8 (ps:=qs) (by rw[d.1];exact n3);rw[d.1] at this;exact this)).turn n8 _
structure Tot (ps:List Pt):Prop where
 tr:∀p q r,p∈ps->q∈ps->r∈ps->sfp p q=true->sfp q r=true->sfp p r=true
 ne:∀i j,i<ps.length->j<ps.length->i≠j->sfp (pt ps i) (pt ps j)=true\/sfp (pt ps j) (pt ps i)=true
theorem Dih.mem (d:Dih ps qs) (n8:ps.length<=17) :p∈qs↔p∈ps:=by
 obtain⟨hl,a,ha,d⟩:=d;constructor
 ·intro h;obtain⟨i,hi,rfl⟩:=jhd h;rcases d with d | d
  ·rw[d i (by omega)];exact jba (xaR _ (by omega))
  ·rw[d i (by omega)];exact jba (xaR _ (by omega))
 ·intro h;obtain⟨i,hi,rfl⟩:=jhd h;rcases d with d | d
  ·have z:=d ((i+(ps.length-a)) % ps.length) (xaR _ (by omega));rw[(ix4 _ (by omega) a ha i hi).1] at z;rw[<- z];exact jba (by rw[hl];exact xaR _ (by omega))
  ·have z:=d ((a+(ps.length-i)) % ps.length) (xaR _ (by omega));rw[(ix4 _ (by omega) a ha i hi).2] at z;rw[<- z];exact jba (by rw[hl];exact xaR _ (by omega))
theorem jhe {ps qs:List Pt} (T:Tot ps) (hq:∀p,p∈qs->p∈ps):∀n,n<qs.length->∀i,i<=n->sfp (pt qs i) (pt qs (jg9 qs n))=false
  | 0, hn, i, hi => by
    have e:i=0:=by omega
    subst e;exact ji1 _
  | n + 1, hn, i, hi => by
    have ih:=jhe T hq n (by omega);have al:=jej qs n;unfold jg9;cases c:sfp (pt qs (n+1)) (pt qs (jg9 qs n)) with
    | true =>
      rw[if_pos rfl];by_cases e:i=n+1
      . rw[e]
        exact ji1 _
      . cases z:sfp (pt qs i) (pt qs (n+1)) with
        | false=>rfl
        | true =>
          have t:=T.tr _ _ _ (hq _ (jba (by omega))) (hq _ (jba (by omega))) (hq _ (jba (by omega))) z c;rw[ih i (by omega)] at t;cases t
    | false =>
      rw[if_neg (by decide)];by_cases e:i=n+1
      . rw[e]
        exact c
      . exact ih i (by omega)
theorem jl0 {m:List Pt} (hl:l.length=n) (hm:m.length=n) (h:∀i,i<n->pt l i=pt m i):l=m:=by
 refine List.ext_getElem (by rw[hl,hm]) fun i h1 h2=>?_;have z:=h i (by omega);unfold pt at z;rw[xab,xab,xac h1,xac h2] at z;exact z
theorem jl1 (T:Tot ps) (d:Dih ps qs) (n3:3<=ps.length) (n8:ps.length<=17):(∀p,p∈ps->sfp p (pt (frm qs qs) 0)=false)/\sfp (pt (frm qs qs) (ps.length-1)) (pt (frm qs qs) 1)=false:=by
  have hl:=d.1;have fl:=jo8 (ps:=qs) (by omega);have rl:(rot (fF qs) qs).length=ps.length:=by rw[jfe (by omega),hl]
  have dr:=d.rot n8 (f:=fF qs) (by omega);have h0:pt (rot (fF qs) qs) 0=pt qs (fF qs):=by rw[jlZ fl (by omega),Nat.add_zero,xai fl]
  have mn:∀p,p∈ps->sfp p (pt (rot (fF qs) qs) 0)=false:=fun p hp=>by
    rw[h0];obtain⟨i,hi,rfl⟩:=jhd ((d.mem n8).mpr hp);exact jhe T (fun p h=>(d.mem n8).mp h) (qs.length-1) (by omega) i (by omega)
  have eb:fB qs=sfp (pt (rot (fF qs) qs) (ps.length-1)) (pt (rot (fF qs) qs) 1):=by unfold fB;rw[hl]
  unfold frm;cases c:fB qs with
  | false=>exact⟨mn,eb.symm.trans c⟩
  | true =>
    have t0:pt (turn true (rot (fF qs) qs)) 0=pt (rot (fF qs) qs) 0:=by rw[jfh (by omega),Nat.sub_zero,xbq]
    have t1':pt (turn true (rot (fF qs) qs)) 1=pt (rot (fF qs) qs) (ps.length-1):=by rw[jfh (by omega),rl,xai (by omega)]
    have t2':pt (turn true (rot (fF qs) qs)) (ps.length-1)=pt (rot (fF qs) qs) 1:=by
      rw[jfh (by omega),rl,xai (by omega)]
      congr 1
      omega
    rw[t0,t1',t2'];refine⟨mn,?_⟩;rw[eb] at c;cases z:sfp (pt (rot (fF qs) qs) 1) (pt (rot (fF qs) qs) (ps.length-1)) with
    | false=>rfl
    | true =>
      have m:∀i,i<ps.length->pt (rot (fF qs) qs) i∈ps:=fun i hi=>(dr.mem n8).mp (jba (by omega));have t:=T.tr _ _ _ (m _ (by omega)) (m _ (by omega)) (m _ (by omega)) z c;rw[ji1] at t;cases t
theorem jk2 {us:List Pt} (T:Tot ps) (n3:3<=ps.length) (n8:ps.length<=17) (d1:Dih ps qs) (d2:Dih ps us) (m1:∀p,p∈ps->sfp p (pt qs 0)=false) (m2:∀p,p∈ps->sfp p (pt us 0)=false) (l1:sfp (pt qs (ps.length-1)) (pt qs 1)=false) (l2:sfp (pt us (ps.length-1)) (pt us 1)=false):qs=us:=by
 obtain⟨hl,a,ha,d1⟩:=d1;obtain⟨hl',b,hb,d2⟩:=d2;have h0:pt qs 0=pt ps a:=by
  rcases d1 with d | d
  ·rw[d 0 (by omega),(ix7 _ (by omega) n3 a ha).2.1]
  ·rw[d 0 (by omega),(ix7 _ (by omega) n3 a ha).2.2]
 have h0':pt us 0=pt ps b:=by
  rcases d2 with d | d
  ·rw[d 0 (by omega),(ix7 _ (by omega) n3 b hb).2.1]
  ·rw[d 0 (by omega),(ix7 _ (by omega) n3 b hb).2.2]
 have ab:a=b:=by
  apply xal;intro n;rw[h0] at m1;rw[h0'] at m2;rcases T.ne a b ha hb n with z | z
  ·rw[m2 _ (jba ha)] at z;cases z
  ·rw[m1 _ (jba hb)] at z;cases z
 subst ab;have e7:=(ix7 _ (by omega) n3 a ha).1;have m:∀i,(a+i) % ps.length<ps.length:=fun i=>xaR _ (by omega);have sub:ps.length-(ps.length-1)=1:=by omega
 rcases d1 with d | d<;>rcases d2 with d' | d'
 ·exact jl0 hl hl' fun i hi=>by rw[d i hi,d' i hi]
 ·rw[d _ (by omega),d _ (by omega)] at l1;rw[d' _ (by omega),d' _ (by omega),sub] at l2;rcases T.ne _ _ (m 1) (m (ps.length-1)) e7 with z | z
  ·rw[l2] at z;cases z
  ·rw[l1] at z;cases z
 ·rw[d _ (by omega),d _ (by omega),sub] at l1;rw[d' _ (by omega),d' _ (by omega)] at l2;rcases T.ne _ _ (m 1) (m (ps.length-1)) e7 with z | z
  ·rw[l1] at z;cases z
  ·rw[l2] at z;cases z
 ·exact jl0 hl hl' fun i hi=>by rw[d i hi,d' i hi]
theorem jna (T:Tot ps) (n3:3<=ps.length) (n8:ps.length<=17) (d:Dih ps qs):frm qs qs=frm ps ps:=by
 obtain⟨a1,a2⟩:=jl1 T d n3 n8;obtain⟨b1,b2⟩:=jl1 T (Dih.refl n3) n3 n8;exact jk2 T n3 n8 (d.frm n3 n8) ((Dih.refl n3).frm n3 n8) a1 b1 a2 b2
theorem jk3 {b u v w:Int} (hu:0<u) (hv:0<v) (hw:0<w) (h1:a*v<=b*u) (h2:b*w<=c*v):a*w<=c*u:=by
 have e1:=xbx h1 (show 0<=w by omega);have e2:=xbx h2 (show 0<=u by omega);refine Int.le_of_mul_le_mul_right (a:=v) ?_ hv;have z1:a*w*v=a*v*w:=by grind
 have z2:c*u*v=c*v*u:=by grind
 have z3:b*u*w=b*w*u:=by grind
 rw[z1,z2];omega
theorem lt_tr {b u v w:Int} (hu:0<u) (hv:0<v) (hw:0<w) (h1:a*v<=b*u) (h2:b*w<=c*v) (h:a*v<b*u\/b*w<c*v):a*w<c*u:=by
 refine Int.lt_iff_le_and_ne.mpr ⟨jk3 hu hv hw h1 h2,fun e=>?_⟩;rcases h with h | h
 ·have z:=jk3 (a:=c) (b:=a) (c:=b) hv hu hv;have e1:=Int.mul_lt_mul_of_pos_right h hw;have e2:=xbx h2 (show 0<=u by omega);have z1:a*v*w=a*w*v:=by grind
  have z3:b*u*w=b*w*u:=by grind
  have z2:c*v*u=c*u*v:=by grind
  rw[z1,z3] at e1;rw[z2,<- e] at e2;omega
 ·have e1:=xbx h1 (show 0<=w by omega);have e2:=Int.mul_lt_mul_of_pos_right h hu;have z1:a*v*w=a*w*v:=by grind
  have z3:b*u*w=b*w*u:=by grind
  have z2:c*v*u=c*u*v:=by grind
  rw[z1,z3] at e1;rw[z2,<- e] at e2;omega
theorem ji2 (p o:Pt):sfp p o=true↔p.x*o.w<o.x*p.w\/(p.x*o.w=o.x*p.w/\(p.y*o.w<o.y*p.w\/(p.y*o.w=o.y*p.w/\p.z*o.w<o.z*p.w))):=by
 unfold sfp sf;generalize p.x*o.w=a;generalize o.x*p.w=a';generalize p.y*o.w=b;generalize o.y*p.w=b';generalize p.z*o.w=c;generalize o.z*p.w=c';by_cases h1:a=a'
 ·rw[if_neg (fun n=>n h1)];by_cases h2:b=b'
  ·rw[if_neg (fun n=>n h2)];by_cases h3:c=c'
   ·rw[if_neg (fun n=>n h3)];constructor
    ·intro h;cases h
    ·intro h;omega
   ·rw[if_pos h3,decide_eq_true_iff];omega
  ·rw[if_pos h2,decide_eq_true_iff];omega
 ·rw[if_pos h1,decide_eq_true_iff];omega
theorem sf_tr {r:Pt} (hp:1<=p.w) (hq:1<=q.w) (hr:1<=r.w) (h1:sfp p q=true) (h2:sfp q r=true):sfp p r=true:=by
 rw[ji2] at h1 h2 |-
 have L:∀{a b c:Int},a*q.w<=b*p.w->b*r.w<=c*q.w->(a*q.w<b*p.w\/b*r.w<c*q.w)->a*r.w<c*p.w:=fun x y z=>lt_tr (by omega) (by omega) (by omega) x y z;have E:∀{a b c:Int},a*q.w=b*p.w->b*r.w=c*q.w->a*r.w=c*p.w:=fun {a b c} x y=>Int.le_antisymm (jk3 (by omega) (by omega) (by omega) (Int.le_of_eq x) (Int.le_of_eq y)) (jk3 (u:=r.w) (v:=q.w) (w:=p.w) (by omega) (by omega) (by omega) (Int.le_of_eq y.symm) (Int.le_of_eq x.symm));rcases h1 with h1 | ⟨e1,h1⟩
 ·rcases h2 with h2 | ⟨e2,h2⟩
  ·exact .inl (L (by omega) (by omega) (.inl h1))
  ·exact .inl (L (by omega) (by omega) (.inl h1))
 ·rcases h2 with h2 | ⟨e2,h2⟩
  ·exact .inl (L (by omega) (by omega) (.inr h2))
  ·refine .inr ⟨E e1 e2,?_⟩;rcases h1 with h1 | ⟨f1,h1⟩
   ·rcases h2 with h2 | ⟨f2,h2⟩
    ·exact .inl (L (by omega) (by omega) (.inl h1))
    ·exact .inl (L (by omega) (by omega) (.inl h1))
   ·rcases h2 with h2 | ⟨f2,h2⟩
    ·exact .inl (L (by omega) (by omega) (.inr h2))
    ·exact .inr ⟨E f1 f2,L (by omega) (by omega) (.inl h1)⟩
theorem par2 {b u v:Int} (hv:1<=v) (h1:a*v=b*u) (h2:c*v=d*u):a*d=c*b:=by
 refine Int.eq_of_mul_eq_mul_right (a:=v) (by omega) ?_;have e1:a*d*v=a*v*d:=by grind
 have e2:c*b*v=c*v*b:=by grind
 rw[e1,e2,h1,h2];grind
theorem ji3 {o:Pt} (u:Pt) (ho:1<=o.w) (h1:p.x*o.w=o.x*p.w) (h2:p.y*o.w=o.y*p.w) (h3:p.z*o.w=o.z*p.w):jbB p o u:=by
 have a1:=par2 ho h2 h3;have a2:=par2 ho h1 h3;have a3:=par2 ho h1 h2;refine⟨?_,?_,?_⟩
 ·rw[jlU];unfold jbE;grind
 ·rw[jlV];unfold jbE;grind
 ·rw[jlW];unfold jbE;grind
theorem jbe (h:3<=n):∃k,k<n/\j≠k/\i≠k:=by
 by_cases h0:i=0\/j=0
 ·by_cases h1:i=1\/j=1
  ·exact⟨2,by omega,by omega,by omega⟩
  ·exact⟨1,by omega,by omega,by omega⟩
 ·exact⟨0,by omega,by omega,by omega⟩
def sm (h:Nat->Int):Nat->Int
 | 0=>0
 | n+1=>sm h n+h n
def c2 (v v':Tri):Int:=v.x*v'.y-v.y*v'.x
def mi (p q:Pt):Int:=q.w / (Int.gcd p.w q.w:Nat)
def jdU (r:Pt):Pt:=if r.w<0 then ⟨-r.x / gl [-r.x,-r.y,-r.z,-r.w],-r.y / gl [-r.x,-r.y,-r.z,-r.w],-r.z / gl [-r.x,-r.y,-r.z,-r.w],-r.w / gl [-r.x,-r.y,-r.z,-r.w]⟩ else ⟨r.x / gl [r.x,r.y,r.z,r.w],r.y / gl [r.x,r.y,r.z,r.w],r.z / gl [r.x,r.y,r.z,r.w],r.w / gl [r.x,r.y,r.z,r.w]⟩
inductive spMSpi (vs:List V) (H:Hp) (Q:VK):Prop
 | mk (r:Pt) (_:vs=[.int r.x,.int r.y,.int r.z,.int r.w]) (_:r.sm) (_:r.w≠0) (_:∀(g:Addr) (H':Hp),Same H H'->Is4 H' g (jdU r)->Q (.ref g) H')
def jnb:Sp:=fun vs H Q _=>spMSpi vs H Q
theorem Sm2.neg {i:Int} (h:Sm2 i):Sm2 (-i):=by unfold Sm2 at *;rw[xcy];exact h
theorem Sm2.small {i:Int} (h:Sm2 i):Small i:=h.bd
theorem jo9 (T:Tx K mg t1 t2) (F:At K mg "made_spot" jbo ["x","y","z","w"] []) (dw:jao P w K mg base CX0 2 "in_lowest_terms" ["numbers"] [] jkM):jao P w K mg base CX0 3 "made_spot" ["x","y","z","w"] [] jnb:=by
 refine F.ok jdM (by walk_at "ar") (fun f cdv A outer s H vs Q E hr h=>?_);obtain⟨⟨x,y,z,w⟩,rfl,⟨sx,sy,sz,sw⟩,w0,q⟩:=h;have S:=jdM;refine⟨_,(jaf (jaL (jaq jdr (pv 3) jab (jax _))
  jbG
  jaw)
  (jaf (jaL (jaq jgl (pv 3) jab (jax _))
  (jai (jas (jag dw hr.m rfl jav (jaa (jaB (jaa (jdq jb6 (pv 0)) (jaa (jdq jb6 (pv 1)) (jaa (jdq jb6 (pv 2)) (jaa (jdq jb6 (pv 3)) jad jhO) jhO) jhO) jhO)) jad jaE))))
  jaw)
  (jai (jas (jag dw hr.m rfl jav (jaa (jaB (jaa (pv 0) (jaa (pv 1) (jaa (pv 2) (jaa (pv 3) jad jae) jae) jae) jae)) jad jaE)))))),?_⟩
 walk_at "rf";have w0':¬w=0:=w0;rw[if_neg w0'];by_cases c:w<0
 ·rw[if_pos c];refine⟨by decide,fun p hp=>?_⟩;refine⟨p,[-x,-y,-z,-w],rfl,jac,by simp,mem4 sx.neg.small sy.neg.small sz.neg.small sw.neg.small,?_,fun r H' h1 h2=>q r H' ((Same.new hp _).trans h1) ?_⟩
  ·have:=jdL (ns:=[-x,-y,-z,-w]) (n:=-w) (by simp) (by omega);omega
  ·have e:jdU ⟨x,y,z,w⟩=_:=if_pos c;rw[e];exact⟨h2,sx.neg.div,sy.neg.div,sz.neg.div,sw.neg.div⟩
 ·rw[if_neg c];refine⟨by decide,fun p hp=>?_⟩;refine⟨p,[x,y,z,w],rfl,jac,by simp,mem4 sx.small sy.small sz.small sw.small,?_,fun r H' h1 h2=>q r H' ((Same.new hp _).trans h1) ?_⟩
  ·have:=jdL (ns:=[x,y,z,w]) (n:=w) (by simp) (by omega);omega
  ·have e:jdU ⟨x,y,z,w⟩=_:=if_neg c;rw[e];exact⟨h2,sx.div,sy.div,sz.div,sw.div⟩
def Pt.bd (n:Nat) (p:Pt):Prop:=Bd n p.x/\Bd n p.y/\Bd n p.z/\Bd n p.w
theorem jhf {m:Nat} {z v:Int} (hx:Bd n x) (hy:Bd n y) (hz:Bd n z) (hv:Bd n v) (hp:p.bd m):Bd (n+m+2) (hgt x y z v p):=by
 unfold hgt;have a:=Bd.mul hx hp.1;have b:=Bd.mul hy hp.2.1;have c:=Bd.mul hz hp.2.2.1;have d:=Bd.mul hv hp.2.2.2;rw[Int.add_sub_assoc];exact Bd.add (Bd.add a b) (Bd.sub c d)
def jdS (x y z v:Int) (p o:Pt):Pt:=⟨hgt x y z v o*p.x-hgt x y z v p*o.x,hgt x y z v o*p.y-hgt x y z v p*o.y,hgt x y z v o*p.z-hgt x y z v p*o.z,hgt x y z v o*p.w-hgt x y z v p*o.w⟩
theorem jnc {m:Nat} {z v:Int} {o:Pt} (hx:Bd n x) (hy:Bd n y) (hz:Bd n z) (hv:Bd n v) (hp:p.bd m) (ho:o.bd m):(jdS x y z v p o).bd (n+m+2+m+1):=by
 have h1:=jhf hx hy hz hv hp;have h2:=jhf hx hy hz hv ho;exact⟨Bd.sub (Bd.mul h2 hp.1) (Bd.mul h1 ho.1),Bd.sub (Bd.mul h2 hp.2.1) (Bd.mul h1 ho.2.1),Bd.sub (Bd.mul h2 hp.2.2.1) (Bd.mul h1 ho.2.2.1),Bd.sub (Bd.mul h2 hp.2.2.2) (Bd.mul h1 ho.2.2.2)⟩
inductive spMeti (vs:List V) (H:Hp) (Q:VK):Prop
 | mk (n m:Nat) (g r e:Addr) (x y z v:Int) (p o:Pt) (_:vs=[.ref g,.ref r,.ref e]) (_:n+2*m+3<=650) (_:H g=some (.tup [.int x,.int y,.int z,.int v])) (_:Bd n x) (_:Bd n y) (_:Bd n z) (_:Bd n v) (_:Is4 H r p) (_:Is4 H e o) (_:p.bd m) (_:o.bd m) (_:(jdS x y z v p o).w≠0) (_:∀(t:Addr) (H':Hp),Same H H'->Is4 H' t (jdU (jdS x y z v p o))->Q (.ref t) H')
def jpa:Sp:=fun vs H Q _=>spMeti vs H Q
theorem jpb (T:Tx K mg t1 t2) (F:At K mg "met_at" je9 ["plane","one","other"] []) (dz:jao P w K mg base CX0 1 "height_over" ["plane","spot"] [] spHt) (dJ:jao P w K mg base CX0 3 "made_spot" ["x","y","z","w"] [] jnb):jao P w K mg base CX0 4 "met_at" ["plane","one","other"] [] jpa:=by
 refine F.ok jf0 (by walk_at "ar") (fun f cdv A outer s H vs Q E hr h=>?_);obtain⟨n,m,g,r,e,x,y,z,v,p,o,rfl,nm,hg,bx,by',bz,bv,hr',he,hp,ho,w0,q⟩:=h;have S:=jf0;refine⟨_,(jaf (jat (i:=3) S.nd rfl (Or.inl rfl) (jag dz hr.m rfl jav (jaa (pv 0) (jaa (pv 2) jad jae) jae)))
  (jaf (jat (i:=4) S.nd rfl (Or.inl rfl) (jag dz hr.m rfl jav (jaa (pv 0) (jaa (pv 1) jad jae) jae)))
  (jai (jas (jag dJ hr.m rfl jav (jaa (jau ja6 (jau jaA (pv 3) (jak jam (pv 1) jab)) (jau jaA (pv 4) (jak jam (pv 2) jab))) (jaa (jau ja6 (jau jaA (pv 3) (jak jam (pv 1) jab)) (jau jaA (pv 4) (jak jam (pv 2) jab))) (jaa (jau ja6 (jau jaA (pv 3) (jak jam (pv 1) jab)) (jau jaA (pv 4) (jak jam (pv 2) jab))) (jaa (jau ja6 (jau jaA (pv 3) (jak jam (pv 1) jab)) (jau jaA (pv 4) (jak jam (pv 2) jab))) jad ja7) ja7) ja7) ja7)))))),?_⟩
 have kr:=hr'.sq (K:=K);have ke:=he.sq (K:=K);have sm:∀{i:Int},Bd n i->Small i:=fun h=>Bd.mono h (by omega);walk_at "rf";refine⟨g,e,x,y,z,v,o,rfl,hg,sm bx,sm by',sm bz,sm bv,he,?_⟩;refine⟨g,r,x,y,z,v,p,rfl,hg,sm bx,sm by',sm bz,sm bv,hr',?_⟩;have b1:=(jhf bx by' bz bv hp).fit (by omega);have b2:=(jhf bx by' bz bv ho).fit (by omega);have f1:=hp.1.fit (by omega);have f2:=hp.2.1.fit (by omega);have f3:=hp.2.2.1.fit (by omega);have f4:=hp.2.2.2.fit (by omega);have f5:=ho.1.fit (by omega);have f6:=ho.2.1.fit (by omega);have f7:=ho.2.2.1.fit (by omega);have f8:=ho.2.2.2.fit (by omega);try walk_at "rf"
 walk_at "gf";have rb:=jnc bx by' bz bv hp ho
 have s2:∀{i:Int},Bd (n+m+2+m+1) i->Sm2 i:=fun h=>Bd.mono h (by omega);exact⟨jdS x y z v p o,rfl,⟨s2 rb.1,s2 rb.2.1,s2 rb.2.2.1,s2 rb.2.2.2⟩,w0,q⟩
def ji4 (x y z v:Int) (p o:Pt):List (Pt × Int):=(if sgn (hgt x y z v p)*sgn (hgt x y z v o)<0 then [(jdU (jdS x y z v p o),0)] else [])++[(o,sgn (hgt x y z v o))]
def sdd (x y z v:Int) (ps:List Pt) (n:Nat):List (Pt × Int):=(List.range n).flatMap fun i=>ji4 x y z v (pt ps ((i+(ps.length-1)) % ps.length)) (pt ps i)
def Prs (H:Hp) (es:List Addr) (ds:List (Pt × Int)):Prop:=es.length=ds.length/\∀i,i<ds.length->∃r:Addr,H (ad es i)=some (.tup [.ref r,.int (ds.getD i (⟨0,0,0,0⟩,0)).2])/\Is4 H r (ds.getD i (⟨0,0,0,0⟩,0)).1
theorem jl2 {z v:Int} {o:Pt} (hp:1<=p.w) (ho:1<=o.w) (h:sgn (hgt x y z v p)*sgn (hgt x y z v o)<0):(jdS x y z v p o).w≠0:=by
 show hgt x y z v o*p.w-hgt x y z v p*o.w≠0;generalize hgt x y z v o=a at *
 generalize hgt x y z v p=b at *
 unfold sgn at h;by_cases c1:b>0
 ·rw[if_pos c1] at h;by_cases c2:a>0
  ·rw[if_pos c2] at h;omega
  ·rw[if_neg c2] at h;by_cases c3:a<0
   ·have h1:=xan c1 (show 0<o.w by omega);have h2:=xan (show 0 < -a by omega) (show 0<p.w by omega);rw[xcf] at h2;omega
   ·rw[if_neg c3] at h;omega
 ·rw[if_neg c1] at h;by_cases c3:b<0
  ·rw[if_pos c3] at h;by_cases c2:a>0
   ·have h1:=xan (show 0 < -b by omega) (show 0<o.w by omega);have h2:=xan c2 (show 0<p.w by omega);rw[xcf] at h1;omega
   ·rw[if_neg c2] at h;by_cases c4:a<0
    ·rw[if_pos c4] at h;omega
    ·rw[if_neg c4] at h;omega
  ·rw[if_neg c3] at h;omega
inductive spSidedi (vs:List V) (H:Hp) (Q:VK):Prop
 | mk (n m:Nat) (b g:Addr) (rs:List Addr) (ps:List Pt) (x y z v:Int) (_:vs=[.ref b,.ref g]) (_:n+2*m+3<=650) (_:H b=some (.tup (rs.map V.ref))) (_:Sps H rs ps) (_:3<=ps.length) (_:ps.length<=17) (_:(∀i,i<ps.length->(pt ps i).bd m/\1<=(pt ps i).w)) (_:H g=some (.tup [.int x,.int y,.int z,.int v])) (_:Bd n x) (_:Bd n y) (_:Bd n z) (_:Bd n v) (_:∀(L:Addr) (H':Hp) (es:List Addr),Same H H'->H' L=some (.lst (es.map V.ref))->Prs H' es (sdd x y z v ps ps.length)->Q (.ref L) H')
def ji5:Sp:=fun vs H Q _=>spSidedi vs H Q
theorem SameB.is4 {J:Hp} (s:SameB sd H J) (h:H sd=some (.lst xs)) (k:Is4 H r p):Is4 J r p:=⟨s _ _ (fun e=>by rw[<- e,k.1] at h;cases h) k.1,k.2⟩
theorem SameB.tup {J:Hp} (s:SameB sd H J) (h:H sd=some (.lst xs)) (k:H r=some (.tup ys)):J r=some (.tup ys):=s _ _ (fun e=>by rw[<- e,k] at h;cases h) k
theorem ji6 (n:Int):Fit (sgn n):=by
 refine Bd.fit (n:=10) ?_;unfold sgn;split
 ·unfold Bd;decide
 ·split
  ·unfold Bd;decide
  ·unfold Bd;decide
variable {ds:List (Pt × Int)}
theorem Prs.keep {es:List Addr} (h:Prs H es ds) (s:Same H H'):Prs H' es ds:=⟨h.1,fun i hi=>by
 obtain⟨r,h1,h2⟩:=h.2 i hi;exact⟨r,s _ _ h1,h2.keep s⟩⟩
theorem Prs.snoc {J:Hp} {p:Addr} {os:List Addr} {s:Int} (h:Prs J os ds) (hsd:J sd=some (.lst xs)) (hp:J p=some (.tup [.ref r,.int s])) (hr:Is4 J r q):Prs (upd J sd (.lst ys)) (os++[p]) (ds++[(q,s)]):=by
 have ne:∀{a:Addr} {zs:List V},J a=some (.tup zs)->a≠sd:=fun h e=>by rw[e,hsd] at h;cases h
 refine⟨by rw[xad,xad,h.1];rfl,fun i hi=>?_⟩;rw[xad,xci] at hi;by_cases c:i<ds.length
 ·obtain⟨r',h1,h2⟩:=h.2 i c;have e1:ad (os++[p]) i=ad os i:=by
   unfold ad;rw[xab,xab,xaD (by rw[h.1];exact c)]
  have e2:(ds++[(q,s)]).getD i (⟨0,0,0,0⟩,0)=ds.getD i (⟨0,0,0,0⟩,0):=by
   rw[xab,xab,xaD c]
  rw[e1,e2];exact⟨r',by rw[jaz (ne h1)];exact h1,by rw[jaz (ne h2.1)];exact h2.1,h2.2⟩
 ·have ei:i=ds.length:=by omega
  subst ei;have e1:ad (os++[p]) ds.length=p:=by
   unfold ad;rw[xab,xau (by rw[h.1];exact xag _),h.1,xcs];rfl
  have e2:(ds++[(q,s)]).getD ds.length (⟨0,0,0,0⟩,0)=(q,s):=by
   rw[xab,xau (xag _),xcs];rfl
  rw[e1,e2];exact⟨r,by rw[jaz (ne hp)];exact hp,by rw[jaz (ne hr.1)];exact hr.1,hr.2⟩
theorem jfi (x y z v:Int) (ps:List Pt) (i:Nat):sdd x y z v ps (i+1)=sdd x y z v ps i++ji4 x y z v (pt ps ((i+(ps.length-1)) % ps.length)) (pt ps i):=by
 unfold sdd;rw[xaU,xb8];simp
theorem jgx (x y z v:Int) (ps:List Pt):∀n,(sdd x y z v ps n).length<=2*n
  | 0=>xag _
  | n + 1 => by
    have ih:=jgx x y z v ps n;rw[jfi,xad];have:(ji4 x y z v (pt ps ((n+(ps.length-1)) % ps.length)) (pt ps n)).length<=2:=by
      unfold ji4;split<;>simp
    omega
theorem jk4 (T:Tx K mg t1 t2) (F:At K mg "sided_round" jcg ["board","plane"] []) (Dj:jao P w K mg base CX0 1 "edges_of" ["board"] [] ji0) (dj:jao P w K mg base CX0 2 "side_of" ["plane","spot"] [] jg7) (Dp:jao P w K mg base CX0 4 "met_at" ["plane","one","other"] [] jpa):jao P w K mg base CX0 5 "sided_round" ["board","plane"] [] ji5:=by
 refine F.ok jcW (by walk_at "ar") (fun f cdv A outer s H vs Q E hr h=>?_);obtain⟨n,m,b,g,rs,ps,x,y,z,v,rfl,nm,hb,hs,n3,n9,lo,hg,bx,by',bz,bv,q⟩:=h;have S:=jcW;refine⟨_,(jaf (jat (i:=2) S.nd rfl (Or.inl rfl) (jaM jad))
  (jaf (jbp PassesOwn.never rfl (jbk (jag Dj hr.m rfl jav (jaa (pv 0) jad jae))) (jan (i:=3) S.nd rfl (Or.inl rfl))
  (jaf (jat (i:=4) S.nd rfl (Or.inl rfl) (jag dj hr.m rfl jav (jaa (pv 1) (jaa (jak jam (pv 3) jab) jad jap) jae)))
  (jaf (jat (i:=5) S.nd rfl (Or.inl rfl) (jag dj hr.m rfl jav (jaa (pv 1) (jaa (jak jam (pv 3) jab) jad jap) jae)))
  (jaf (jaL (jaq jgl (jau jaA (pv 4) (pv 5)) jab (jax _))
  (jai (jbc (jcq PySem.F.plainAttrs_list PySem.F.slot_list_append PySem.F.type_list_append jaR (pv 2) (jaa (jaB (jaa (jag Dp hr.m rfl jav (jaa (pv 1) (jaa (jak jam (pv 3) jab) (jaa (jak jam (pv 3) jab) jad jap) jap) jae)) (jaa jab jad jaj) jaF)) jad jaE))))
  jaw)
  (jai (jbc (jcq PySem.F.plainAttrs_list PySem.F.slot_list_append PySem.F.type_list_append jaR (pv 2) (jaa (jaB (jaa (jak jam (pv 3) jab) (jaa (pv 5) jad jae) jap)) jad jaE))))))))
  (jai (jas (pv 2))))),?_⟩
 have ln:=hs.len;have sm:∀{i:Int},Bd n i->Small i:=fun h=>Bd.mono h (by omega);walk_at "rf";refine⟨by decide,fun sd hsd=>?_⟩;refine jeA hsd fun H1 s1 e1=>?_;refine⟨b,rs,rfl,s1 _ _ hb,by omega,by omega,fun L H2 es s2 e2 l2 p2=>?_⟩;try walk_at "rf"
 have e1':=s2 _ _ e1;have Lsd:L≠sd:=fun z=>by
  rw[z,e1'] at e2;injection e2 with e2
  injection e2 with e2
  have:=congrArg List.length e2;rw[xaa,l2,ln] at this;simp at this;omega
 have hs2:=(hs.keep s1.t).keep s2.t;refine⟨⟨_,SqL.of e2⟩,jbw (K:=K) (a:=L) (xs:=es.map V.ref) (fun i σ J=>SameB sd H2 J/\i<=ps.length/\∃(os:List Addr) (o3 o4 o5:Option V),σ=[some (.ref b),some (.ref g),some (.ref sd),o3,o4,o5]/\J sd=some (.lst (os.map V.ref))/\Prs J os (sdd x y z v ps i)) ⟨SameB.refl sd H2,xaO _,[],none,none,none,rfl,e1',rfl,fun i hi=>absurd hi (xaK _)⟩ (fun i σ J hi hP=>SqL.of (hP.1 _ _ Lsd e2)) ?_ ?_⟩
 ·rintro i ev σ J hi ⟨sJ,li,os,o3,o4,o5,rfl,eJ,hP⟩;have il:i<es.length:=by have:=(xaj.mp hi).1;rw[xaa] at this;exact this
  rw[jeP il] at hi;cases hi;have pi:=p2 i (by omega);rw[ln] at pi;have hm:(i+(ps.length-1)) % ps.length<ps.length:=xaR _ (by omega);have q0:=SameB.is4 sJ e1' (hs2.get hm).2;have q1:=SameB.is4 sJ e1' (hs2.get (i:=i) (by omega)).2;have kE:=SqT.of (K:=K) (SameB.tup sJ e1' pi);have kg:=SameB.tup sJ e1' (s2 _ _ (s1 _ _ hg));obtain⟨l0,w0⟩:=lo _ hm;obtain⟨l1,w1⟩:=lo i (by omega);try walk_at "rf"
  refine ixT kE (i:=0) rfl ⟨g,_,x,y,z,v,_,rfl,kg,sm bx,sm by',sm bz,sm bv,q0,?_⟩;refine ixT kE (i:=1) rfl ⟨g,_,x,y,z,v,_,rfl,kg,sm bx,sm by',sm bz,sm bv,q1,?_⟩;try walk_at "rf"
  refine⟨ji6 _,ji6 _,?_⟩;have dl:=jgx x y z v ps i;have ol:os.length<=34:=by rw[hP.1];omega
  by_cases c:sgn (hgt x y z v (pt ps ((i+(ps.length-1)) % ps.length)))*sgn (hgt x y z v (pt ps i))<0
  ·rw[if_pos c];refine⟨.inl ⟨_,SqL.of eJ⟩,ixT kE (i:=0) rfl (ixT kE (i:=1) rfl ⟨n,m,g,_,_,x,y,z,v,_,_,rfl,nm,kg,bx,by',bz,bv,q0,q1,l0,l1,jl2 w0 w1 c,fun t J1 s3 e3=>⟨by decide,fun p hp=>?_⟩⟩)⟩;refine jeA hp fun J2 s4 e4=>?_;have S4:=s3.trans s4;have eJ2:=S4 _ _ eJ;refine⟨sd,_,_,rfl,rfl,eJ2,jaD (by rw[xaa];omega),?_⟩;have P5:=(hP.keep S4).snoc (ys:=os.map V.ref++[V.ref p]) eJ2 e4 (e3.keep s4);have e5:upd J2 sd (.lst (os.map V.ref++[V.ref p])) sd=some (.lst ((os++[p]).map V.ref)):=by rw[xaf];exact jac
   have s5:SameB sd J2 (upd J2 sd (.lst (os.map V.ref++[V.ref p]))):=fun b' o' nb hb'=>by rw[jaz nb];exact hb'
   generalize upd J2 sd (.lst (os.map V.ref++[V.ref p]))=J3 at P5 e5 s5 |-
   have S5:SameB sd J J3:=SameB.trans S4.b s5;have kE5:=SqT.of (K:=K) (SameB.tup S5 eJ (SameB.tup sJ e1' pi));have q15:=SameB.is4 S5 eJ q1;refine⟨.inl ⟨_,SqL.of e5⟩,ixT kE5 (i:=1) rfl ⟨by decide,fun p' hp'=>?_⟩⟩;refine jeA hp' fun J4 s6 e6=>?_;have eJ4:=s6 _ _ e5;refine⟨sd,_,_,rfl,rfl,eJ4,jaD (by rw[xaa,xad,xci];omega),?_⟩;have P7:=(P5.keep s6).snoc (ys:=(os++[p]).map V.ref++[V.ref p']) eJ4 e6 (q15.keep s6);refine⟨SameB.trans sJ (SameB.trans S5 (SameB.trans s6.b fun b' o' nb hb'=>by rw[jaz nb];exact hb')),by omega,os++[p]++[p'],by rw[jac];simp,?_⟩;have eS:sdd x y z v ps (i+1)=sdd x y z v ps i++[(jdU (jdS x y z v (pt ps ((i+(ps.length-1)) % ps.length)) (pt ps i)),0)]++[(pt ps i,sgn (hgt x y z v (pt ps i)))]:=by
    rw[jfi];unfold ji4;rw[if_pos c,xbD]
   rw[eS];exact P7
  ·rw[if_neg c];refine⟨.inl ⟨_,SqL.of eJ⟩,ixT kE (i:=1) rfl ⟨by decide,fun p' hp'=>?_⟩⟩;refine jeA hp' fun J4 s6 e6=>?_;have eJ4:=s6 _ _ eJ;refine⟨sd,_,_,rfl,rfl,eJ4,jaD (by rw[xaa];omega),?_⟩;have P7:=(hP.keep s6).snoc (ys:=os.map V.ref++[V.ref p']) eJ4 e6 (q1.keep s6);refine⟨SameB.trans sJ (SameB.trans s6.b fun b' o' nb hb'=>by rw[jaz nb];exact hb'),by omega,os++[p'],by rw[xaf];exact jac,?_⟩;have eS:sdd x y z v ps (i+1)=sdd x y z v ps i++[(pt ps i,sgn (hgt x y z v (pt ps i)))]:=by
    rw[jfi];unfold ji4;rw[if_neg c,xca]
   rw[eS];exact P7
 ·rintro σ J ⟨sJ,li,os,o3,o4,o5,rfl,eJ,hP⟩;have el:(es.map V.ref).length=ps.length:=by rw[xaa,l2,ln]
  rw[el] at hP;exact⟨_,rfl,q sd J os (SameB.fresh s1 hsd (s2.b.trans sJ)) eJ hP⟩
variable {te:TE}
theorem jhg {a:Addr} {zs:List V} {ρ:L2.St} {g:TG} {tt:TT} {acc:Addr} {Z:Hp->Prop} (f:Nat->V) (c:Nat->Bool) (hn:zs.length<1000) (hacc:H1 acc=none) (hz:SqL K H1 a zs)
  (hs:∀(i:Nat) (z:V) (v0:L2.St) (H3:Hp) (Rt:V->Hp->Prop) (Rn:Hp->Prop),zs[i]?=some z->v0.length=n->Same H1 H3->(c i=true->∀H4,Same H3 H4->Rt (f i) H4)->(c i=false->∀H4,Same H3 H4->Rn H4)->g z (v0++ρ) H3 fun σ2 H2=>(∃v:L2.St,v.length=n/\σ2=v++ρ)/\tt σ2 H2 fun b H3=>if b=true then te σ2 H3 Rt else Rn H3)
  (hd:∀H',Same H1 H'->H' acc=some (.lst (((List.range zs.length).filter c).map f))->Z H'):jdw (Itl K a) n ρ g tt te acc Z H1:=by
 refine⟨fun i m xs H=>(Same H1 H/\H acc=some (.lst xs)/\xs=((List.range i).filter c).map f)/\i<=zs.length/\m=zs.length-i,⟨zs.length,⟨Same.new hacc _,jac,rfl⟩,xaO _,rfl⟩,?_⟩;rintro i m xs H ⟨⟨g1,g2,rfl⟩,hi,rfl⟩;have sq:=g1.seq hz;have hl:(((List.range i).filter c).map f).length<sizeLine:=jaD (by
  rw[xaa];have:=xbv c (List.range i);rw[xa9] at this;omega)
 by_cases hlt:i<zs.length
 ·have ez:zs[i]?=some zs[i]:=xac hlt;refine .inr ⟨⟨zs,zs[i],sq,ez⟩,(fun y H4=>y=f i/\c i=true/\Same H1 H4/\H4 acc=some (.lst (((List.range i).filter c).map f))),fun H3=>c i=false/\Same H1 H3/\H3 acc=some (.lst (((List.range i).filter c).map f)),?_,?_,?_⟩
  ·rintro y H4 ⟨rfl,ci,s4,a4⟩;refine⟨a4,hl,zs.length-(i+1),by omega,⟨Same.keepN s4 hacc _,jac,?_⟩,hlt,rfl⟩;rw[xaU,xaq,xaf,xaI,if_pos ci];rfl
  ·rintro H3 ⟨ci,s3,a3⟩;refine⟨zs.length-(i+1),by omega,⟨s3,a3,?_⟩,hlt,rfl⟩;rw[xaU,xaq,xaf,xaI,if_neg (by rw[ci];decide)];simp
  ·rintro v0 x H' l0 ⟨rfl,hx⟩;have ex:x=zs[i]:=by
    have z:=hx zs sq;rw[ez] at z;exact (Option.some.inj z).symm
   subst ex;exact hs i _ v0 H' _ _ ez l0 g1 (fun ci H4 s4=>⟨rfl,ci,g1.trans s4,s4 _ _ g2⟩) (fun ci H4 s4=>⟨ci,g1.trans s4,s4 _ _ g2⟩)
 ·have e:i=zs.length:=by omega
  subst e;exact .inl ⟨⟨zs,sq,xag _⟩,hd _ g1 g2⟩
def kLo (ds:List (Pt × Int)):List Pt:=(ds.filter fun d=>decide (d.2<=0)).map (·.1)
def kHi (ds:List (Pt × Int)):List Pt:=(ds.filter fun d=>decide (0<=d.2)).map (·.1)
inductive spCutNi (vs:List V) (H:Hp) (Q:VK):Prop
 | mk (n m:Nat) (b g:Addr) (rs:List Addr) (ps:List Pt) (x y z v:Int) (_:vs=[.ref b,.ref g]) (_:n+2*m+3<=650) (_:H b=some (.tup (rs.map V.ref))) (_:Sps H rs ps) (_:3<=ps.length) (_:ps.length<=17) (_:(∀i,i<ps.length->(pt ps i).bd m/\1<=(pt ps i).w)) (_:H g=some (.tup [.int x,.int y,.int z,.int v])) (_:Bd n x) (_:Bd n y) (_:Bd n z) (_:Bd n v) (_:((∀i,i<ps.length->hgt x y z v (pt ps i)=0)/\(∀(t:Addr) (H':Hp),Same H H'->H' t=some (.tup [.non,.non])->Q (.ref t) H')\/(∀i,i<ps.length->0<=hgt x y z v (pt ps i))/\(∃i,i<ps.length/\0<hgt x y z v (pt ps i))/\(∀(t:Addr) (H':Hp),Same H H'->H' t=some (.tup [.non,.ref b])->Q (.ref t) H')\/(∀i,i<ps.length->hgt x y z v (pt ps i)<=0)/\(∃i,i<ps.length/\hgt x y z v (pt ps i)<0)/\(∀(t:Addr) (H':Hp),Same H H'->H' t=some (.tup [.ref b,.non])->Q (.ref t) H')\/(∃i,i<ps.length/\0<hgt x y z v (pt ps i))/\(∃i,i<ps.length/\hgt x y z v (pt ps i)<0)/\3<=(kLo (sdd x y z v ps ps.length)).length/\(kLo (sdd x y z v ps ps.length)).length<=17/\3<=(kHi (sdd x y z v ps ps.length)).length/\(kHi (sdd x y z v ps ps.length)).length<=17/\(∀(t:Addr) (H':Hp) (l1 l2:Addr) (r1 r2:List Addr),Same H H'->H' t=some (.tup [.ref l1,.ref l2])->H' l1=some (.tup (r1.map V.ref))->Sps H' r1 (frm (kLo (sdd x y z v ps ps.length)) (kLo (sdd x y z v ps ps.length)))->H' l2=some (.tup (r2.map V.ref))->Sps H' r2 (frm (kHi (sdd x y z v ps ps.length)) (kHi (sdd x y z v ps ps.length)))->Q (.ref t) H')))
def jeQ:Sp:=fun vs H Q _=>spCutNi vs H Q
theorem jhh {H:Hp} {ds:List (Pt × Int)} {r:Nat->Addr} (c:Int->Bool):∀n,n<=ds.length->(∀i,i<ds.length->Is4 H (r i) (ds.getD i (⟨0,0,0,0⟩,0)).1)->Sps H (((List.range n).filter fun i=>c (ds.getD i (⟨0,0,0,0⟩,0)).2).map r) (((ds.take n).filter fun d=>c d.2).map (·.1))
  | 0, _, _ => by
    rw[List.take_zero];exact .nil
  | n + 1, hn, h => by
    have ih:=jhh c n (by omega) h;have eg:ds[n]?=some (ds.getD n (⟨0,0,0,0⟩,0)):=by
      rw[xab,xac (by omega)];rfl
    rw[xaZ,eg,xaU,xaq,xaf,xaq,xaf];refine ih.app ?_;show Sps H ((List.filter _ [n]).map r) ((List.filter _ [ds.getD n (⟨0,0,0,0⟩,0)]).map (·.1));cases cc:c (ds.getD n (⟨0,0,0,0⟩,0)).2 with
    | true =>
      rw[xaI,if_pos cc,xaI,if_pos cc];exact .cons (h n (by omega)) .nil
    | false =>
      rw[xaI,if_neg (by rw[cc];decide),xaI,if_neg (by rw[cc];decide)];exact .nil
theorem kept {acc:Addr} {es:List Addr} {tt:TT} {Z:Hp->Prop} (c:Int->Bool) (e2:H1 L=some (.lst (es.map V.ref))) (hP:Prs H1 es ds) (hl:ds.length<=100) (hacc:H1 acc=none)
    (ht:∀(r:Addr) (s:Int) (H:Hp) (R:Bool->Hp->Prop),R (c s) H->tt [some (.ref r),some (.int s)] H R)
    (hd:∀(H':Hp) (rs:List Addr),Same H1 H'->H' acc=some (.lst (rs.map V.ref))->Sps H' rs ((ds.filter fun d=>c d.2).map (·.1))->Z H'):jdw (Itl K L) 2 [] (jmE K 2 (jgj (jbU 0) (jgj (jbU 1) job))) tt (jkn 0) acc Z H1:=by
  obtain⟨r,hr⟩:∃r:Nat->Addr,∀i,i<ds.length->H1 (ad es i)=some (.tup [.ref (r i),.int (ds.getD i (⟨0,0,0,0⟩,0)).2])/\Is4 H1 (r i) (ds.getD i (⟨0,0,0,0⟩,0)).1:=⟨fun i=>if h:i<ds.length then (hP.2 i h).choose else 0,fun i hi=>by simp only[dif_pos hi];exact (hP.2 i hi).choose_spec⟩;refine jhg (fun i=>V.ref (r i)) (fun i=>c (ds.getD i (⟨0,0,0,0⟩,0)).2) (by rw[xaa,hP.1];omega) hacc (SqL.of e2) (fun i z v0 H3 Rt Rn hz l0 s3 ht' hn'=>?_) (fun H' s' e'=>?_)
  . have il:i < es.length:=by have:=(xaj.mp hz).1; rw[xaa] at this; exact this
    rw[jeP il] at hz;cases hz;obtain⟨h1,h2⟩:=hr i (by rw[<- hP.1];exact il)
    match v0,l0 with
    | [u, v], _ =>
      refine⟨_,_,rfl,SqT.of (s3 _ _ h1),rfl,_,_,rfl,_,_,rfl,rfl,?_⟩;refine⟨⟨[some (V.ref (r i)),some (V.int (ds.getD i (⟨0,0,0,0⟩,0)).2)],rfl,rfl⟩,ht (r i) _ H3 _ ?_⟩;cases cc:c (ds.getD i (⟨0,0,0,0⟩,0)).2 with
      | true =>
        rw[if_pos rfl];exact⟨_,rfl,ht' cc H3 (Same.refl _)⟩
      | false =>
        rw[if_neg (by decide)];exact hn' cc H3 (Same.refl _)
  . rw[xaa,hP.1] at e'
    have sp:=jhh (H:=H') (r:=r) c ds.length (xag _) fun i hi=>(hr i hi).2.keep s';rw[xa4] at sp;exact hd H' _ s' (by rw[xbp];exact e') sp
theorem jnd (T:Tx K mg t1 t2) (F:At K mg "cut_by" jbF ["board","plane"] []) (dj:jao P w K mg base CX0 2 "side_of" ["plane","spot"] [] jg7) (dX:jao P w K mg base CX0 5 "sided_round" ["board","plane"] [] ji5) (dC:jao P w K mg base CX0 2 "formed" ["corners"] [] jfd):jao P w K mg base CX0 6 "cut_by" ["board","plane"] [] jeQ:=by
 refine F.ok jf2 (by walk_at "ar") (fun f cdv A outer s H vs Q E hr h=>?_);obtain⟨n,m,b,g,rs,ps,x,y,z,v,rfl,nm,hb,hc,n3,n8,lo,hg,bx,by',bz,bv,h⟩:=h;have sx:Small x:=Bd.mono bx (by omega);have sy:Small y:=Bd.mono by' (by omega)
 have sz:Small z:=Bd.mono bz (by omega);have sv:Small v:=Bd.mono bv (by omega);have S:=jf2;refine⟨_,(jaf (jbI (i:=2) rfl S.nd rfl rfl (N':=["corner","plane"]) (ix:=[1]) ⟨rfl,rfl,by decide +kernel,by decide +kernel,by decide +kernel,(show ∀y:Str × NameKind,y∈_->y.2=NameKind.free->(jah jbF).names.lookup y.1=some .cell\/(jah jbF).names.lookup y.1=some .free from by decide +kernel),(.cons rfl (.inl rfl) rfl .nil)⟩ (jdJ (pv 0)) (fun _ _ _ _=>jan (i:=0) (show (["corner","plane"]:List Str).Nodup from by decide +kernel) rfl (Or.inl rfl)) (fun _ _ _ _=>jbd) (fun _ _ _ _=>(jag dj hr.m rfl jav (jaa (pv 1) (jaa (pv 0) jad jae) jae))))
  (jaf (jaL (PW.pt (jfC (jaq jdr (jaG (jfQ rfl) rfl T.m_min boot_min (jaa (pv 2) jad jae)) jab (jax _)) (jeX (jaq jdr (jaG (jfP rfl) rfl T.m_max boot_max (jaa (pv 2) jad jae)) jab (jax _)))))
  (jai (jas (jaB (jaa jaO (jaa jaO jad jaj) jaj))))
  jaw)
  (jaf (jaL (jaq jmJ (jaG (jfQ rfl) rfl T.m_min boot_min (jaa (pv 2) jad jae)) jab (jax _))
  (jai (jas (jaB (jaa jaO (jaa (pv 0) jad jae) jaj))))
  jaw)
  (jaf (jaL (jaq jow (jaG (jfP rfl) rfl T.m_max boot_max (jaa (pv 2) jad jae)) jab (jax _))
  (jai (jas (jaB (jaa (pv 0) (jaa jaO jad jaj) jae))))
  jaw)
  (jaf (jat (i:=3) S.nd rfl (Or.inl rfl) (jag dX hr.m rfl jav (jaa (pv 0) (jaa (pv 1) jad jae) jae)))
  (jaf (jat (i:=4) S.nd rfl (Or.inl rfl) (jag dC hr.m rfl jav (jaa (jec rfl (N':=["spot","side"]) (ix:=[]) (xs0:=["spot","side"]) ⟨rfl,rfl,by decide +kernel,by decide +kernel,by decide +kernel,(show ∀y:Str × NameKind,y∈_->y.2=NameKind.free->(jah jbF).names.lookup y.1=some .cell\/(jah jbF).names.lookup y.1=some .free from by decide +kernel),.nil⟩ (jbk (pv 3)) (fun _ _ _ _=>jgr (K:=K) (n:=2) rfl rfl (jay (jan (i:=0) (show (["spot","side"]:List Str).Nodup from by decide +kernel) rfl (Or.inl rfl)) (jay (jan (i:=1) (show (["spot","side"]:List Str).Nodup from by decide +kernel) rfl (Or.inl rfl)) jbj))) (fun _ _ _ _=>(jea (jaq jow (pv 1) jab (jax _)))) (fun _ _ _ _=>(pv 0))) jad jcS)))
  (jaf (jat (i:=5) S.nd rfl (Or.inl rfl) (jag dC hr.m rfl jav (jaa (jec rfl (N':=["spot","side"]) (ix:=[]) (xs0:=["spot","side"]) ⟨rfl,rfl,by decide +kernel,by decide +kernel,by decide +kernel,(show ∀y:Str × NameKind,y∈_->y.2=NameKind.free->(jah jbF).names.lookup y.1=some .cell\/(jah jbF).names.lookup y.1=some .free from by decide +kernel),.nil⟩ (jbk (pv 3)) (fun _ _ _ _=>jgr (K:=K) (n:=2) rfl rfl (jay (jan (i:=0) (show (["spot","side"]:List Str).Nodup from by decide +kernel) rfl (Or.inl rfl)) (jay (jan (i:=1) (show (["spot","side"]:List Str).Nodup from by decide +kernel) rfl (Or.inl rfl)) jbj))) (fun _ _ _ _=>(jea (jaq jmJ (pv 1) jab (jax _)))) (fun _ _ _ _=>(pv 0))) jad jcS)))
  (jai (jas (jaB (jaa (pv 4) (jaa (pv 5) jad jae) jae))))))))))),?_⟩
 have ln:=hc.len;have lm:(rs.map V.ref).length=ps.length:=by rw[xaa,ln]
 have kb:SqT K H b (rs.map V.ref):=SqT.of hb;walk_at "rf";refine⟨⟨_,kb⟩,fun acc hacc=>?_⟩;refine joG (zs:=rs.map V.ref) (fun i y' _=>y'=.int (sgn (hgt x y z v (pt ps i)))) (fun _ _ _ _ h _=>h) (by omega) hacc kb ?_ ?_
 ·intro i r H3 R hi s3 hR;have hlt:i<ps.length:=by have:=(xaj.mp hi).1;omega
  obtain⟨b1,b2⟩:=(hc.keep s3.t).get hlt;rw[b1] at hi;cases hi;walk_at "rf";exact⟨g,_,x,y,z,v,_,rfl,s3 _ _ hg,sx,sy,sz,sv,b2,hR _ _ (Same.refl _) rfl⟩
 intro ys H1 s1 e1 l1 p1;obtain⟨ms,rfl⟩:=jiN fun i y' hy=>⟨_,p1 i y' hy⟩;rw[xaa,lm] at l1;have gm:∀{i:Nat},i<ps.length->ms[i]?=some (sgn (hgt x y z v (pt ps i))):=fun {i} hi=>by
  have e:ms[i]?=some ms[i]:=xac (by omega);have q:=p1 i (.int ms[i]) (by rw[xae,e];rfl);injection q with q
  rw[e,q]
 have mem:∀{m:Int},m∈ms->∃i,i<ps.length/\m=sgn (hgt x y z v (pt ps i)):=fun {m} hm=>by
  obtain⟨i,hi,rfl⟩:=xbo.mp hm;have z:=gm (i:=i) (by omega);rw[xac hi] at z;exact⟨i,by omega,Option.some.inj z⟩
 have mem2:∀{i:Nat},i<ps.length->sgn (hgt x y z v (pt ps i))∈ms:=fun hi=>xaC (gm hi);have ne:ms≠[]:=fun e=>by rw[e] at l1;simp at l1;omega
 have k1:SqL K H1 acc (ms.map V.int):=SqL.of e1;try walk_at "rf"
 refine⟨_,k1,ne,fun mi hmi lmi=>?_⟩;obtain⟨i1,hi1,ei1⟩:=mem hmi;rcases h with ⟨h0,q⟩ | ⟨h0,⟨j,hj,jp⟩,q⟩ | ⟨h0,⟨j,hj,jp⟩,q⟩ | ⟨⟨k,hk,kp⟩,⟨j,hj,jp⟩,a3,a9,b3,b9,q⟩
 ·have z1:mi=0:=by rw[ei1,jo4 (h0 i1 hi1)]
  rw[if_pos z1];refine⟨_,k1,ne,fun ma hma lma=>?_⟩;obtain⟨i2,hi2,ei2⟩:=mem hma;have z2:ma=0:=by rw[ei2,jo4 (h0 i2 hi2)]
  rw[if_pos z2];exact⟨by decide,fun t ht=>q t _ (s1.trans (Same.new ht _)) jac⟩
 ·have z1:0<=mi:=by rw[ei1];exact jlT (h0 i1 hi1)
  have fin:2<=sizeLine/\∀p:Addr,H1 p=none->Q (.ref p) (upd H1 p (.tup [.non,.ref b])):=⟨by decide,fun t ht=>q t _ (s1.trans (Same.new ht _)) jac⟩;have nn:∀{m:Int},m∈ms->0<=m:=fun hm=>by
   obtain⟨i,hi,e⟩:=mem hm;rw[e];exact jlT (h0 i hi)
  by_cases z:mi=0
  ·rw[if_pos z];refine⟨_,k1,ne,fun ma hma lma=>?_⟩;have m1:=lma _ (mem2 hj);rw[jo3 jp] at m1;rw[if_neg (by omega)];refine⟨_,k1,ne,fun m2 hm2 lm2=>?_⟩;rw[if_pos (nn hm2)];exact fin
  ·rw[if_neg z];refine⟨_,k1,ne,fun m2 hm2 lm2=>?_⟩;rw[if_pos (nn hm2)];exact fin
 ·have m1:=lmi _ (mem2 hj);rw[jkW jp] at m1;rw[if_neg (by omega)];refine⟨_,k1,ne,fun m2 hm2 lm2=>?_⟩;have m3:=lm2 _ (mem2 hj);rw[jkW jp] at m3;rw[if_neg (by omega)];refine⟨_,k1,ne,fun ma hma lma=>?_⟩;obtain⟨i2,hi2,ei2⟩:=mem hma;have z2:ma<=0:=by rw[ei2];exact jo2 (h0 i2 hi2)
  rw[if_pos z2];exact⟨by decide,fun t ht=>q t _ (s1.trans (Same.new ht _)) jac⟩
 ·have m1:=lmi _ (mem2 hj);rw[jkW jp] at m1;rw[if_neg (by omega)];refine⟨_,k1,ne,fun m2 hm2 lm2=>?_⟩;have m3:=lm2 _ (mem2 hj);rw[jkW jp] at m3;rw[if_neg (by omega)];refine⟨_,k1,ne,fun ma hma lma=>?_⟩;have m4:=lma _ (mem2 hk);rw[jo3 kp] at m4;rw[if_neg (by omega)];refine⟨n,m,b,g,rs,ps,x,y,z,v,rfl,nm,s1 _ _ hb,hc.keep s1.t,n3,n8,lo,s1 _ _ hg,bx,by',bz,bv,fun L H2 es s2 e2 hP=>?_⟩;have dl:=jgx x y z v ps ps.length;refine⟨L,rfl,⟨_,SqL.of e2⟩,fun acc hacc=>kept (fun s=>decide (s<=0)) e2 hP (by omega) hacc (fun r s H R h=>?_) fun H3 r1 s3 e3 p3=>?_⟩
  ·walk_at "rf";exact h
  refine⟨acc,r1,kLo (sdd x y z v ps ps.length),rfl,⟨e3,p3⟩,a3,a9,fun t1 H4 s4 e4=>?_⟩;have S4:=s3.trans s4;refine⟨L,rfl,⟨_,SqL.of (S4 _ _ e2)⟩,fun acc2 hacc2=>kept (fun s=>decide (0<=s)) (S4 _ _ e2) (hP.keep S4) (by omega) hacc2 (fun r s H R h=>?_) fun H5 r2 s5 e5 p5=>?_⟩
  ·walk_at "rf";exact h
  refine⟨acc2,r2,kHi (sdd x y z v ps ps.length),rfl,⟨e5,p5⟩,b3,b9,fun t2 H6 s6 e6=>⟨by decide,fun t ht=>?_⟩⟩;have s7:=Same.new ht (.tup [V.ref t1,V.ref t2]);have S6:=s4.trans (s5.trans (s6.trans s7));exact q t _ t1 t2 _ _ (s1.trans (s2.trans (S4.trans (s5.trans (s6.trans s7))))) jac ((s5.trans (s6.trans s7)) _ _ e4) (((p3.rot _).turn _).keep S6.t) (s7 _ _ e6) (((p5.rot _).turn _).keep (s6.trans s7).t)
inductive RR {α:Type}:List α->List α->Prop
 | refl (l:List α):RR l l
 | rot {l m:List α} (k:Nat) (h:RR l m):RR l (m.drop k++m.take k)
 | rev {l m:List α} (h:RR l m):RR l m.reverse
theorem RR.trans {α:Type} {l m n:List α} (h:RR l m) (k:RR m n):RR l n:=by
 induction k with
 | refl=>exact h
 | rot k _ ih=>exact .rot k ih
 | rev _ ih=>exact .rev ih
theorem RR.len {α:Type} {l m:List α} (h:RR l m):m.length=l.length:=by
 induction h with
 | refl=>rfl
 | rot k _ ih=>rw[xad,xam,xah,<- ih];omega
 | rev _ ih=>rw[xaN,ih]
theorem RR.mem {α:Type} {l m:List α} (h:RR l m) {x:α}:x∈m↔x∈l:=by
  induction h with
  | refl=>exact Iff.rfl
  | @rot m k _ ih =>
    rw[<- ih,xas,Or.comm,<- xas,xa1]
  | rev _ ih=>rw[List.mem_reverse,ih]
theorem jfj {α:Type} (m:List α) (h:m.length<=k):m.drop k++m.take k=m:=by
 rw[xcd h,xaX h,xca]
theorem jk5 {α:Type} (m:List α) (h:k<=m.length):(m.drop k++m.take k).drop (m.length-k)++(m.drop k++m.take k).take (m.length-k)=m:=by
 have ld:(m.drop k).length=m.length-k:=xam;have e1:(m.drop k++m.take k).drop (m.length-k)=m.take k:=by rw[<- ld,xb4]
 have e2:(m.drop k++m.take k).take (m.length-k)=m.drop k:=by rw[<- ld,xb5]
 rw[e1,e2,xa1]
theorem RR.symm {α:Type} {l m:List α} (h:RR l m):RR m l:=by
  induction h with
  | refl=>exact .refl _
  | @rot m k _ ih =>
    by_cases c:k<=m.length
    . have z:=RR.rot (l:=m.drop k++m.take k) (m.length-k) (.refl _)
      rw[jk5 m c] at z;exact z.trans ih
    . rw[jfj m (by omega)]
      exact ih
  | @rev m _ ih =>
    have z:=RR.rev (l:=m.reverse) (.refl _);rw[List.reverse_reverse] at z;exact z.trans ih
theorem RR.fm {α β:Type} (f:α->Option β) {l m:List α} (h:RR l m):RR (l.filterMap f) (m.filterMap f):=by
  induction h with
  | refl=>exact .refl _
  | @rot m k _ ih =>
    have z:=RR.rot ((m.take k).filterMap f).length ih;have e:m.filterMap f=(m.take k).filterMap f++(m.drop k).filterMap f:=by rw[<- xa7,xa1]
    rw[e,xb4,xb5,<- xa7] at z;exact z
  | @rev m _ ih =>
    rw[xcc];exact .rev ih
theorem RR.map {α β:Type} (f:α->β) {l m:List α} (h:RR l m):RR (l.map f) (m.map f):=by
 induction h with
 | refl=>exact .refl _
 | rot k _ ih=>rw[xaf,xbs,xbt];exact .rot k ih
 | rev _ ih=>rw[xck];exact .rev ih
def nxt {α:Type}:List α->α->List (α × α)
 | [],_=>[]
 | [x],a=>[(x,a)]
 | x::y::r,a=>(x,y)::nxt (y::r) a
def prs {α:Type}:List α->List (α × α)
 | []=>[]
 | x::r=>nxt (x::r) x
theorem jfk {α:Type} (a:α):∀(l:List α) (y:α) (r:List α),nxt (l++y::r) a=nxt l y++nxt (y::r) a
  | [],y,r=>rfl
  | [x],y,r=>rfl
  | x :: x' :: l, y, r => by
    show (x,x')::nxt (x'::l++y::r) a=_;rw[jfk a (x'::l) y r];rfl
theorem jdC {α:Type} (m:List α) (k:Nat):prs (m.drop k++m.take k)=(prs m).drop k++(prs m).take k:=by
  by_cases c:k<m.length
  . match k with
    | 0=>simp
    | k + 1 =>
      match m,c with
      | x :: r, c =>
        have c:k<r.length:=by simpa using c
        have e:x::r=(x::r.take k)++r.drop k:=by rw[List.cons_append,xa1]
        cases e2:r.drop k with
        | nil=>have:=congrArg List.length e2;rw[xam] at this;simp at this;omega
        | cons y s =>
          rw[e2] at e;have l1:(x::r.take k).length=k+1:=by rw[xaA,xah];omega
          have ln:∀(l:List α) (a:α),(nxt l a).length=l.length:=fun l a=>by
            induction l with
            | nil=>rfl
            | cons z t ih => cases t with
              | nil=>rfl
              | cons z' t'=>show (nxt (z'::t') a).length+1=_;rw[ih];rfl
          have d1:(x::r).drop (k+1)=y::s:=by show r.drop k=_;exact e2
          have t1:(x::r).take (k+1)=x::r.take k:=rfl;rw[d1,t1];show nxt (y::s++x::r.take k) y=_;rw[jfk];have p:prs (x::r)=nxt (x::r.take k) y++nxt (y::s) x:=by
            show nxt (x::r) x=_;rw[e,jfk]
          have l2:(nxt (x::r.take k) y).length=k+1:=by rw[ln,l1]
          rw[p,<- l2,xb4,xb5]
  . have lp:(prs m).length=m.length:=by
      have ln:∀(l:List α) (a:α),(nxt l a).length=l.length:=fun l a=>by
        induction l with
        | nil=>rfl
        | cons z t ih => cases t with
          | nil=>rfl
          | cons z' t'=>show (nxt (z'::t') a).length+1=_;rw[ih];rfl
      cases m with
      | nil=>rfl
      | cons x r=>exact ln _ _
    rw[jfj m (by omega),jfj (prs m) (by omega)]
def TT {α:Type} (l:List (α × α)):List (α ⊕ α × α):=l.flatMap fun e=>[.inl e.1,.inr e]
def TB {α:Type} (l:List (α × α)):List (α ⊕ α × α):=l.flatMap fun e=>[.inr e,.inl e.2]
def swE {α:Type} (e:α × α):α × α:=(e.2,e.1)
def swS {α:Type}:α ⊕ α × α->α ⊕ α × α
 | .inl x=>.inl x
 | .inr e=>.inr (swE e)
theorem jl3 {α:Type} (l:List (α × α)) (k:Nat):TT (l.drop k++l.take k)=(TT l).drop (2*k)++(TT l).take (2*k):=by
  have h:∀(l:List (α × α)) (k:Nat),TT (l.drop k)=(TT l).drop (2*k)/\TT (l.take k)=(TT l).take (2*k):=fun l=>by
    induction l with
    | nil=>intro k;cases k<;>exact⟨rfl,rfl⟩
    | cons e r ih =>
      intro k;cases k with
      | zero=>exact⟨rfl,rfl⟩
      | succ k =>
        obtain⟨i1,i2⟩:=ih k;refine⟨i1,?_⟩;show .inl e.1::.inr e::TT (r.take k)=_;rw[i2];rfl
  show List.flatMap _ _=_;rw[xb8];exact congr (congrArg _ (h l k).1) (h l k).2
theorem ji7 {α:Type} (a:α):∀(x:α) (r:List α),TT (nxt (x::r) a)++[.inl a]=.inl x::TB (nxt (x::r) a)
  | x,[]=>rfl
  | x, y :: r => by
    show .inl x::.inr (x,y)::(TT (nxt (y::r) a)++[.inl a])=_;rw[ji7 a y r];rfl
theorem jl4 {α:Type} (m:List α):RR (TT (prs m)) (TB (prs m)):=by
  cases m with
  | nil=>exact .refl _
  | cons x r =>
    have h:=ji7 x x r;have z:=RR.rot (l:=TT (prs (x::r))) 1 (.refl _);cases e:TT (prs (x::r)) with
    | nil =>
      have e':TT (nxt (x::r) x)=[]:=e;rw[e'] at h;have:=List.tail_eq_of_cons_eq h;show RR [] (TB (nxt (x::r) x));rw[<- this];exact .refl _
    | cons s t =>
      have e':TT (nxt (x::r) x)=s::t:=e;rw[e'] at h;have h1:=List.head_eq_of_cons_eq h;have h2:t++[.inl x]=TB (nxt (x::r) x):=List.tail_eq_of_cons_eq h;rw[e] at z;show RR (s::t) (TB (nxt (x::r) x));rw[<- h2];have e3:(s::t).drop 1++(s::t).take 1=t++[s]:=rfl;subst h1;rw[e3] at z;exact z
theorem jpc {α:Type} (R:List (α × α)):TT ((R.map swE).reverse)=((TB R).map swS).reverse:=by
  induction R with
  | nil=>rfl
  | cons e r ih =>
    show TT ((swE e::r.map swE).reverse)=_;rw[xaM];show List.flatMap _ _=_;rw[xb8];show TT ((r.map swE).reverse)++[.inl e.2,.inr (swE e)]=_;rw[ih];show _=(.inr (swE e)::.inl e.2::(TB r).map swS).reverse;rw[xaM,xaM,xbD];rfl
def op {α:Type}:List α->List (α × α)
 | []=>[]
 | [_]=>[]
 | x::y::r=>(x,y)::op (y::r)
theorem jhi {α:Type} (a:α):∀l:List α,nxt l a=op (l++[a])
  | []=>rfl
  | [x]=>rfl
  | x :: y :: r => by
    show (x,y)::nxt (y::r) a=(x,y)::op (y::r++[a]);rw[jhi a (y::r)]
theorem jgy {α:Type} (z a:α):∀l:List α,op (l++[z]++[a])=op (l++[z])++[(z,a)]
  | []=>rfl
  | [x]=>rfl
  | x :: y :: r => by
    show (x,y)::op (y::r++[z]++[a])=(x,y)::op (y::r++[z])++[(z,a)];rw[jgy z a (y::r)];rfl
theorem jl5 {α:Type}:∀l:List α,op l.reverse=((op l).map swE).reverse
  | []=>rfl
  | [x]=>rfl
  | x :: y :: r => by
    rw[xaM,xaM,jgy,<- xaM,jl5 (y::r)];show _=((swE (x,y))::(op (y::r)).map swE).reverse;rw[xaM];rfl
theorem jne {α:Type} (l:List α):∃k,prs l.reverse=((((prs l).drop k++(prs l).take k)).map swE).reverse:=by
  rcases List.eq_nil_or_concat l with rfl | ⟨l',z,rfl⟩
  . exact⟨0,rfl⟩
  . have e1:(l'++[z]).reverse=z::l'.reverse:=by simp
    cases l' with
    | nil=>exact⟨0,rfl⟩
    | cons x r =>
      refine⟨(op (x::r++[z])).length,?_⟩;have p:prs (x::r++[z])=op (x::r++[z])++[(z,x)]:=by
        show nxt (x::r++[z]) x=_;rw[jhi,jgy]
      have p2:prs (z::(x::r).reverse)=op ((z::(x::r++[z])).reverse):=by
        show nxt (z::(x::r).reverse) z=_;rw[jhi]
        congr 1
        simp
      have e0:List.concat (x::r) z=x::r++[z]:=by simp
      rw[e0,e1,p2,p,jl5,xb4,xb5];rfl
theorem jnf {α:Type} {β:Type} (f:α ⊕ α × α->Option β) (hf:∀s,f (swS s)=f s) {l m:List α} (h:RR l m):RR ((TT (prs l)).filterMap f) ((TT (prs m)).filterMap f):=by
  induction h with
  | refl=>exact .refl _
  | @rot m k _ ih =>
    rw[jdC,jl3];exact ih.trans ((RR.rot (2*k) (.refl _)).fm f)
  | @rev m _ ih =>
    obtain⟨k,e⟩:=jne m;rw[e,<- jdC,jpc];have e2:(((TB (prs (m.drop k++m.take k))).map swS).reverse).filterMap f=((TB (prs (m.drop k++m.take k))).filterMap f).reverse:=by
      rw[xcc,xcq]
      congr 2
      funext s
      exact hf s
    rw[e2];refine ih.trans (.rev ?_);refine RR.trans ?_ ((jl4 (m.drop k++m.take k)).fm f);rw[jdC,jl3];exact (RR.rot (2*k) (.refl _)).fm f
def Tp (c:Nat->Tri) (n:Nat):Prop:=∀i j k,i<j->j<k->k<n->0<dt (c i) (c j) (c k)
theorem jcJ (a b c:Tri):dt a b c=dt b c a:=by
 unfold dt jbE;grind
theorem jcK (a b:Tri):dt a a b=0/\dt a b b=0/\dt a b a=0:=by
 unfold dt jbE;refine⟨?_,?_,?_⟩<;>grind
def jeR (a:Int) (p:Tri) (b:Int) (q:Tri):Tri:=⟨a*p.x+b*q.x,a*p.y+b*q.y,a*p.z+b*q.z⟩
theorem jf5 (x y p q:Tri) (a b:Int):dt x y (jeR a p b q)=a*dt x y p+b*dt x y q:=by
 unfold jeR dt jbE;grind
theorem ji8 (x y p q:Tri) (a b:Int):dt (jeR a p b q) x y=a*dt p x y+b*dt q x y:=by
 unfold jeR dt jbE;grind
theorem jgz (x y p q:Tri) (a b:Int):dt x (jeR a p b q) y=a*dt x p y+b*dt x q y:=by
 unfold jeR dt jbE;grind
theorem dt8 (p1 q1 p2 q2 p3 q3:Tri) (a1 b1 a2 b2 a3 b3:Int):dt (jeR a1 p1 b1 q1) (jeR a2 p2 b2 q2) (jeR a3 p3 b3 q3) =
  a1*(a2*(a3*dt p1 p2 p3)+a2*(b3*dt p1 p2 q3)+(b2*(a3*dt p1 q2 p3)+b2*(b3*dt p1 q2 q3)))+b1*(a2*(a3*dt q1 p2 p3)+a2*(b3*dt q1 p2 q3)+(b2*(a3*dt q1 q2 p3)+b2*(b3*dt q1 q2 q3))):=by
 rw[ji8,jgz,jgz,jf5,jf5,jf5,jf5];grind
def cw (c:Nat->Tri) (n k:Nat):Tri:=c (k % n)
theorem cw_lt {c:Nat->Tri} (h:k<n):cw c n k=c k:=by unfold cw;rw[xai h]
theorem cw_n {c:Nat->Tri} :cw c n n=c 0:=by unfold cw;rw[xbq]
theorem D_p {c:Nat->Tri} (h:Tp c n) (ij:i<j) (jk:j<k) (kn:k<=n) (w:¬(i=0/\k=n)):0<dt (cw c n i) (cw c n j) (cw c n k):=by
 rw[cw_lt (show i<n by omega),cw_lt (show j<n by omega)];by_cases e:k=n
 ·subst e;rw[cw_n,<- jcJ];exact h 0 i j (by omega) ij (by omega)
 ·rw[cw_lt (show k<n by omega)];exact h i j k ij jk (by omega)
theorem D_n {c:Nat->Tri} (h:Tp c n) (ij:i<=j) (jk:j<=k) (kn:k<=n):0<=dt (cw c n i) (cw c n j) (cw c n k):=by
 by_cases e1:i=j
 ·subst e1;rw[(jcK _ _).1];exact xbm _
 ·by_cases e2:j=k
  ·subst e2;rw[(jcK _ _).2.1];exact xbm _
  ·by_cases w:i=0/\k=n
   ·obtain⟨rfl,rfl⟩:=w;have z:cw c k k=cw c k 0:=by unfold cw;rw[xbq,Nat.zero_mod]
    rw[z,(jcK _ _).2.2];exact xbm _
   ·exact xbS (D_p h (by omega) (by omega) kn w)
theorem jcL {b:Int} (ha:0<=a) (hb:0<=b) (hc:0<=c) (h:a=0\/b=0\/c=0\/0<=d):0<=a*(b*(c*d)):=by
 rcases h with rfl | rfl | rfl | h
 ·rw[xbj];exact xbm _
 ·rw[xbj,xbk];exact xbm _
 ·rw[xbj,xbk,xbk];exact xbm _
 ·exact xaJ ha (xaJ hb (xaJ hc h))
theorem jf6 {b:Int} (ha:0<a) (hb:0<b) (hc:0<c) (h:0<d):0<a*(b*(c*d)):=xan ha (xan hb (xan hc h))
structure On (c:Nat->Tri) (n:Nat) (i:Nat) (e:Bool) (v:Tri):Prop where
 lt:i<n
 is:∃a b:Int,v=jeR a (cw c n i) b (cw c n (i+1))/\0<a/\(e=false->b=0)/\(e=true->0<b)
theorem On.tri {c:Nat->Tri} {e f g:Bool} {u w:Tri} (n3:3<=n) (h:Tp c n) (hu:On c n i e u) (hv:On c n j f v) (hw:On c n k g w)
  (ij:i<j\/(i=j/\e=false/\f=true)) (jk:j<k\/(j=k/\f=false/\g=true)) (b1:¬(i=j/\k=j+1/\e=false/\f=true/\g=false)) (b2:¬(i=0/\j=n-1/\k=n-1/\e=false/\f=false/\g=true)):0<dt u v w:=by
 obtain⟨hi,x1,y1,rfl,p1,z1,s1⟩:=hu;obtain⟨hj,x2,y2,rfl,p2,z2,s2⟩:=hv;obtain⟨hk,x3,y3,rfl,p3,z3,s3⟩:=hw;have q1:0<=y1:=by cases e with | false=>rw[z1 rfl];exact xbm _ | true=>have:=s1 rfl;omega
 have q2:0<=y2:=by cases f with | false=>rw[z2 rfl];exact xbm _ | true=>have:=s2 rfl;omega
 have q3:0<=y3:=by cases g with | false=>rw[z3 rfl];exact xbm _ | true=>have:=s3 rfl;omega
 have N:∀{a b d:Nat},a<=b->b<=d->d<=n->0<=dt (cw c n a) (cw c n b) (cw c n d):=fun h1 h2 h3=>D_n h h1 h2 h3;have ij':i<j\/y1=0:=by
  rcases ij with r | ⟨r1,r2,r3⟩
  ·exact .inl r
  ·exact .inr (z1 r2)
 have ij0:i<=j:=ij.elim xaQ fun r=>Nat.le_of_eq r.1;have jk':j<k\/y2=0:=by
  rcases jk with r | ⟨r1,r2,r3⟩
  ·exact .inl r
  ·exact .inr (z2 r2)
 have jk0:j<=k:=jk.elim xaQ fun r=>Nat.le_of_eq r.1;rw[dt8];have t1:0<=x1*(x2*(x3*dt (cw c n i) (cw c n j) (cw c n k))):=jcL (by omega) (by omega) (by omega) (.inr (.inr (.inr (N ij0 jk0 (by omega)))));have t2:0<=x1*(x2*(y3*dt (cw c n i) (cw c n j) (cw c n (k+1)))):=jcL (by omega) (by omega) q3 (.inr (.inr (.inr (N ij0 (by omega) (by omega)))));have t3:0<=x1*(y2*(x3*dt (cw c n i) (cw c n (j+1)) (cw c n k))):=jcL (by omega) q2 (by omega) (by
  rcases jk' with r | r
  ·exact .inr (.inr (.inr (N (by omega) (by omega) (by omega))))
  ·exact .inr (.inl r))
 have t4:0<=x1*(y2*(y3*dt (cw c n i) (cw c n (j+1)) (cw c n (k+1)))):=jcL (by omega) q2 q3 (.inr (.inr (.inr (N (by omega) (by omega) (by omega)))));have t5:0<=y1*(x2*(x3*dt (cw c n (i+1)) (cw c n j) (cw c n k))):=jcL q1 (by omega) (by omega) (by
  rcases ij' with r | r
  ·exact .inr (.inr (.inr (N (by omega) (by omega) (by omega))))
  ·exact .inl r)
 have t6:0<=y1*(x2*(y3*dt (cw c n (i+1)) (cw c n j) (cw c n (k+1)))):=jcL q1 (by omega) q3 (by
  rcases ij' with r | r
  ·exact .inr (.inr (.inr (N (by omega) (by omega) (by omega))))
  ·exact .inl r)
 have t7:0<=y1*(y2*(x3*dt (cw c n (i+1)) (cw c n (j+1)) (cw c n k))):=jcL q1 q2 (by omega) (by
  rcases jk' with r | r
  ·exact .inr (.inr (.inr (N (by omega) (by omega) (by omega))))
  ·exact .inr (.inl r))
 have t8:0<=y1*(y2*(y3*dt (cw c n (i+1)) (cw c n (j+1)) (cw c n (k+1)))):=jcL q1 q2 q3 (.inr (.inr (.inr (N (by omega) (by omega) (by omega)))));have P:∀{a b d:Nat},a<b->b<d->d<=n->¬(a=0/\d=n)->0<dt (cw c n a) (cw c n b) (cw c n d):=fun h1 h2 h3 h4=>D_p h h1 h2 h3 h4;have S:0<x1*(x2*(x3*dt (cw c n i) (cw c n j) (cw c n k)))\/0<x1*(x2*(y3*dt (cw c n i) (cw c n j) (cw c n (k+1))))\/0<x1*(y2*(x3*dt (cw c n i) (cw c n (j+1)) (cw c n k)))\/0<x1*(y2*(y3*dt (cw c n i) (cw c n (j+1)) (cw c n (k+1))))\/0<y1*(x2*(y3*dt (cw c n (i+1)) (cw c n j) (cw c n (k+1)))):=by
  by_cases c1:i<j
  ·by_cases c2:j<k
   ·exact .inl (jf6 p1 p2 p3 (P c1 c2 (by omega) (by omega)))
   ·obtain⟨r1,r2,r3⟩:=jk.resolve_left c2;by_cases c3:i=0/\k+1=n
    ·cases e with
     | false=>exact absurd ⟨c3.1,by omega,by omega,rfl,r2,r3⟩ b2
     | true=>exact .inr (.inr (.inr (.inr (jf6 (s1 rfl) p2 (s3 r3) (P (by omega) (by omega) (by omega) (by omega))))))
    ·exact .inr (.inl (jf6 p1 p2 (s3 r3) (P c1 (by omega) (by omega) c3)))
  ·obtain⟨r1,r2,r3⟩:=ij.resolve_left c1;have c2:j<k:=by
    rcases jk with r | ⟨_,r,_⟩
    ·exact r
    ·rw[r3] at r;cases r
   by_cases c4:j+1<k
   ·exact .inr (.inr (.inl (jf6 p1 (s2 r3) p3 (P (by omega) c4 (by omega) (by omega)))))
   ·cases g with
    | false=>exact absurd ⟨r1,by omega,r2,r3,rfl⟩ b1
    | true=>exact .inr (.inr (.inr (.inl (jf6 p1 (s2 r3) (s3 rfl) (P (by omega) (by omega) (by omega) (by omega))))))
 rw[xcm,xcm,xcm,xcm,xcm,xcm];omega
def kp (H:Nat->Int) (n p:Nat):Bool:=if p % 2=0 then decide (0<=H (p / 2)) else decide (H (p / 2)*H ((p / 2+1) % n)<0)
def xpt (c:Nat->Tri) (H:Nat->Int) (n i:Nat):Tri:=jeR (ab (H ((i+1) % n))) (c i) (ab (H i)) (c ((i+1) % n))
def el (c:Nat->Tri) (H:Nat->Int) (n p:Nat):Tri:=if p % 2=0 then c (p / 2) else xpt c H n (p / 2)
def clp (H:Nat->Int) (n:Nat):List Nat:=(List.range (2*n)).filter (kp H n)
def clip (c:Nat->Tri) (H:Nat->Int) (n i:Nat):Tri:=el c H n ((clp H n).getD i 0)
theorem jk6 (p q:Tri):p=jeR 1 p 0 q:=by
 unfold jeR;simp
theorem jcZ {b:Int} (h:a*b<0):a≠0/\b≠0/\¬(0<=a/\0<=b)/\¬(a<=0/\b<=0):=by
 refine⟨fun e=>?_,fun e=>?_,fun e=>?_,fun e=>?_⟩
 ·rw[e,xbj] at h;omega
 ·rw[e,xbk] at h;omega
 ·have:=xaJ e.1 e.2;omega
 ·have:=Int.mul_nonneg_of_nonpos_of_nonpos e.1 e.2;omega
theorem jbC {n:Int} (h:n≠0):0<ab n:=by
 unfold ab;split<;>omega
theorem jng {c:Nat->Tri} {H:Nat->Int} {p:Nat} (hp:p<2*n) (h:p % 2=0\/H (p / 2)*H ((p / 2+1) % n)<0):On c n (p / 2) (decide (p % 2=1)) (el c H n p):=by
 have hl:p / 2<n:=by omega
 refine⟨hl,?_⟩;unfold el;by_cases e:p % 2=0
 ·rw[if_pos e,decide_eq_false (by omega),cw_lt hl];exact⟨1,0,jk6 _ _,by decide,(fun _=>rfl),(fun h=>by cases h)⟩
 ·rw[if_neg e,decide_eq_true (by omega),cw_lt hl];obtain⟨h1,h2,_,_⟩:=jcZ (h.resolve_left e);exact⟨_,_,rfl,jbC h2,(fun h=>by cases h),fun _=>jbC h1⟩
theorem clp_mem {H:Nat->Int} {p:Nat}:p∈clp H n↔p<2*n/\kp H n p=true:=by
 unfold clp;rw[xa2,xaF]
theorem jeS (H:Nat->Int) (n:Nat):(clp H n).Pairwise (· < ·):=List.pairwise_lt_range.sublist xcn
theorem jfl {l:List Nat} (h:i<l.length):l.getD i 0∈l:=by
 rw[xab,xac h];exact xa5 h
theorem ji9 {l:List Nat} (hs:l.Pairwise (· < ·)) (ij:i<j) (hj:j<l.length):l.getD i 0<l.getD j 0:=by
 have z:=List.pairwise_iff_getElem.mp hs i j (by omega) hj ij;rw[xab,xab,xac (by omega),xac hj];exact z
theorem jnh {H:Nat->Int} {p:Nat} (h:kp H n p=true):(p % 2=0/\0<=H (p / 2))\/(p % 2=1/\H (p / 2)*H ((p / 2+1) % n)<0):=by
 unfold kp at h;by_cases e:p % 2=0
 ·rw[if_pos e] at h;exact .inl ⟨e,of_decide_eq_true h⟩
 ·rw[if_neg e] at h;exact .inr ⟨by omega,of_decide_eq_true h⟩
theorem jni {c:Nat->Tri} {H:Nat->Int} (n3:3<=n) (h:Tp c n):Tp (clip c H n) (clp H n).length:=by
 intro i j k ij jk kn;have m1:=clp_mem.mp (jfl (l:=clp H n) (i:=i) (by omega));have m2:=clp_mem.mp (jfl (l:=clp H n) (i:=j) (by omega));have m3:=clp_mem.mp (jfl (l:=clp H n) (i:=k) kn);have o1:=ji9 (jeS H n) ij (by omega);have o2:=ji9 (jeS H n) jk kn;unfold clip;generalize (clp H n).getD i 0=p at *
 generalize (clp H n).getD j 0=q at *
 generalize (clp H n).getD k 0=r at *
 have kp1:=jnh m1.2;have kp2:=jnh m2.2;have kp3:=jnh m3.2;have on1:=jng (c:=c) (H:=H) m1.1 (by rcases kp1 with r | r;exact .inl r.1;exact .inr r.2);have on2:=jng (c:=c) (H:=H) m2.1 (by rcases kp2 with r | r;exact .inl r.1;exact .inr r.2);have on3:=jng (c:=c) (H:=H) m3.1 (by rcases kp3 with r | r;exact .inl r.1;exact .inr r.2);refine On.tri n3 h on1 on2 on3 ?_ ?_ ?_ ?_
 ·by_cases e:p / 2<q / 2
  ·exact .inl e
  ·exact .inr ⟨by omega,decide_eq_false (by omega),decide_eq_true (by omega)⟩
 ·by_cases e:q / 2<r / 2
  ·exact .inl e
  ·exact .inr ⟨by omega,decide_eq_false (by omega),decide_eq_true (by omega)⟩
 ·rintro⟨e1,e2,e3,e4,e5⟩;have f3:=of_decide_eq_false e3;have f4:=of_decide_eq_true e4;have f5:=of_decide_eq_false e5;rcases kp1 with a1 | a1
  ·rcases kp2 with a2 | a2
   ·omega
   ·rcases kp3 with a3 | a3
    ·have z:=(jcZ a2.2).2.2.1;have em:(q / 2+1) % n=r / 2:=by rw[<- e2];exact xai (by omega)
     rw[em,<- e1] at z;exact z ⟨a1.2,a3.2⟩
    ·omega
  ·omega
 ·rintro⟨e1,e2,e3,e4,e5,e6⟩;have f4:=of_decide_eq_false e4;have f5:=of_decide_eq_false e5;have f6:=of_decide_eq_true e6;rcases kp1 with a1 | a1
  ·rcases kp2 with a2 | a2
   ·rcases kp3 with a3 | a3
    ·omega
    ·have z:=(jcZ a3.2).2.2.1;have em:(r / 2+1) % n=0:=by rw[e3,show n-1+1=n by omega,xbq]
     rw[em,e3] at z;rw[e1] at a1;rw[e2] at a2;exact z ⟨a2.2,a1.2⟩
   ·omega
  ·omega
theorem jja:∀{l:List Nat} {a b c:Nat},a∈l->b∈l->c∈l->a≠b->b≠c->a≠c->3<=l.length
  | [],_,_,_,h,_,_,_,_,_=>nomatch h
  | [x], a, b, c, h1, h2, h3, n1, n2, n3 => by
    simp at h1 h2;omega
  | [x, y], a, b, c, h1, h2, h3, n1, n2, n3 => by
    simp at h1 h2 h3;rcases h1 with rfl | rfl<;>rcases h2 with rfl | rfl<;>rcases h3 with rfl | rfl<;>first | exact absurd rfl n1 | exact absurd rfl n2 | exact absurd rfl n3
  | x :: y :: z :: l, _, _, _, _, _, _, _, _, _ => by
    simp
theorem jk7 {H:Nat->Int} (n3:3<=n) (hi:i<n) (hp:0<H i):3<=(clp H n).length:=by
 have md:∀a,a % n<n:=fun a=>xaR _ (by omega);have ev:∀{k},k<n->0<=H k->2*k∈clp H n:=fun {k} hk h=>clp_mem.mpr ⟨by omega,by
  unfold kp;rw[if_pos (by omega),show 2*k / 2=k by omega];exact decide_eq_true h⟩
 have od:∀{k},k<n->H k*H ((k+1) % n)<0->2*k+1∈clp H n:=fun {k} hk h=>clp_mem.mpr ⟨by omega,by
  unfold kp;rw[if_neg (by omega),show (2*k+1) / 2=k by omega];exact decide_eq_true h⟩
 have A:=ev hi (by omega);have e1:(i+1) % n=if i+1=n then 0 else i+1:=by
  split
  ·rename_i e
   rw[e,xbq]
  ·exact xai (by omega)
 have e2:(i+(n-1)) % n=if i=0 then n-1 else i-1:=by
  split
  ·rename_i e
   rw[e,xbK];exact xai (by omega)
  ·rw[show i+(n-1)=i-1+n by omega,xba];exact xai (by omega)
 have e3:((i+(n-1)) % n+1) % n=i:=by
  rw[e2];split
  ·rename_i e
   rw[show n-1+1=n by omega,xbq,e]
  ·rw[show i-1+1=i by omega];exact xai hi
 have B:∃p,p∈clp H n/\(p=2*((i+1) % n)\/p=2*i+1):=by
  by_cases c:0<=H ((i+1) % n)
  ·exact⟨_,ev (md _) c,.inl rfl⟩
  ·exact⟨_,od hi (xaB hp (by omega)),.inr rfl⟩
 have C:∃p,p∈clp H n/\(p=2*((i+(n-1)) % n)\/p=2*((i+(n-1)) % n)+1):=by
  by_cases c:0<=H ((i+(n-1)) % n)
  ·exact⟨_,ev (md _) c,.inl rfl⟩
  ·exact⟨_,od (md _) (by rw[e3];exact xa6 (by omega) hp),.inr rfl⟩
 obtain⟨p,hp1,hp2⟩:=B;obtain⟨q,hq1,hq2⟩:=C;rw[e1] at hp2;rw[e2] at hq2;refine jja A hp1 hq1 ?_ ?_ ?_<;>(split at hp2<;>split at hq2<;>omega)
def jaH (A B C:Int) (v:Tri):Int:=A*v.x+B*v.y+C*v.z
theorem jnj (A B C:Int) (a b c d:Tri):dt b c d*jaH A B C a+dt d a b*jaH A B C c=dt c d a*jaH A B C b+dt a b c*jaH A B C d:=by
 unfold dt jbE jaH;grind
theorem jpd {c:Nat->Tri} {l:Nat} {C:Int} (h:Tp c n) (ij:i<j) (jk:j<k) (kl:k<l) (ln:l<n) :
  ¬(0<jaH A B C (c i)/\jaH A B C (c j)<0/\0<jaH A B C (c k)/\jaH A B C (c l)<0)/\¬(jaH A B C (c i)<0/\0<jaH A B C (c j)/\jaH A B C (c k)<0/\0<jaH A B C (c l)):=by
 have e:=jnj A B C (c i) (c j) (c k) (c l);have p1:=h j k l jk kl ln;have p2:0<dt (c l) (c i) (c j):=by rw[jcJ];exact h i j l ij (by omega) ln
 have p3:0<dt (c k) (c l) (c i):=by rw[<- jcJ];exact h i k l (by omega) kl ln
 have p4:=h i j k ij jk (by omega);constructor
 ·rintro⟨h1,h2,h3,h4⟩;have q1:=xan p1 h1;have q2:=xan p2 h3;have q3:=xaB p3 h2;have q4:=xaB p4 h4;omega
 ·rintro⟨h1,h2,h3,h4⟩;have q1:=xaB p1 h1;have q2:=xaB p2 h3;have q3:=xan p3 h2;have q4:=xan p4 h4;omega
theorem opp_iff {b:Int}:a*b<0↔(0<a/\b<0)\/(a<0/\0<b):=by
 constructor
 ·intro h;obtain⟨h1,h2,h3,h4⟩:=jcZ h;omega
 ·rintro (⟨h1,h2⟩ | ⟨h1,h2⟩)
  ·exact xaB h1 h2
  ·exact xa6 h1 h2
theorem jjb {c:Nat->Tri} {C:Int} (h:Tp c n) (ij:i<j) (jk:j<k) (kn:k<n)
  (h1:jaH A B C (c i)*jaH A B C (c ((i+1) % n))<0) (h2:jaH A B C (c j)*jaH A B C (c ((j+1) % n))<0) (h3:jaH A B C (c k)*jaH A B C (c ((k+1) % n))<0):False:=by
 have e1:(i+1) % n=i+1:=xai (by omega);have e2:(j+1) % n=j+1:=xai (by omega);rw[e1] at h1;rw[e2] at h2;have N:∀{a b d e:Nat},a<b->b<d->d<e->e<n->¬(0<jaH A B C (c a)/\jaH A B C (c b)<0/\0<jaH A B C (c d)/\jaH A B C (c e)<0)/\¬(jaH A B C (c a)<0/\0<jaH A B C (c b)/\jaH A B C (c d)<0/\0<jaH A B C (c e)):=fun q1 q2 q3 q4=>jpd h q1 q2 q3 q4;have d1:i+1=j\/i+1<j:=by omega
 have d2:j+1=k\/j+1<k:=by omega
 by_cases w:k+1<n
 ·rw[xai w] at h3;rcases opp_iff.mp h1 with a1 | a1<;>rcases opp_iff.mp h2 with a2 | a2<;>rcases opp_iff.mp h3 with a3 | a3
  all_goals first
   | (have z:=N (a:=i) (b:=i+1) (d:=j) (e:=j+1) (by omega) (by rcases d1 with r | r;(subst r;omega);exact r) (by omega) (by omega);(first | exact z.1 ⟨a1.1,a1.2,a2.1,a2.2⟩ | exact z.2 ⟨a1.1,a1.2,a2.1,a2.2⟩))
   | (have z:=N (a:=j) (b:=j+1) (d:=k) (e:=k+1) (by omega) (by rcases d2 with r | r;(subst r;omega);exact r) (by omega) (by omega);(first | exact z.1 ⟨a2.1,a2.2,a3.1,a3.2⟩ | exact z.2 ⟨a2.1,a2.2,a3.1,a3.2⟩))
   | (have z:=N (a:=i) (b:=i+1) (d:=k) (e:=k+1) (by omega) (by omega) (by omega) (by omega);(first | exact z.1 ⟨a1.1,a1.2,a3.1,a3.2⟩ | exact z.2 ⟨a1.1,a1.2,a3.1,a3.2⟩))
 ·have ek:k=n-1:=by omega
  have e3:(k+1) % n=0:=by rw[show k+1=n by omega,xbq]
  rw[e3] at h3;rcases opp_iff.mp h1 with a1 | a1<;>rcases opp_iff.mp h2 with a2 | a2<;>rcases opp_iff.mp h3 with a3 | a3
  all_goals first
   | (have z:=N (a:=i) (b:=i+1) (d:=j) (e:=j+1) (by omega) (by rcases d1 with r | r;(subst r;omega);exact r) (by omega) (by omega);(first | exact z.1 ⟨a1.1,a1.2,a2.1,a2.2⟩ | exact z.2 ⟨a1.1,a1.2,a2.1,a2.2⟩))
   | (have z:=N (a:=0) (b:=j) (d:=j+1) (e:=k) (by omega) (by omega) (by rcases d2 with r | r;(subst r;omega);exact r) (by omega);(first | exact z.1 ⟨a3.2,a2.1,a2.2,a3.1⟩ | exact z.2 ⟨a3.2,a2.1,a2.2,a3.1⟩))
   | (have z:=N (a:=0) (b:=i) (d:=i+1) (e:=k) (by rcases Nat.eq_zero_or_pos i with r | r;(subst r;omega);exact r) (by omega) (by omega) (by omega);(first | exact z.1 ⟨a3.2,a1.1,a1.2,a3.1⟩ | exact z.2 ⟨a3.2,a1.1,a1.2,a3.1⟩))
theorem jeT (P:Nat->Bool):∀m,((List.range (2*m)).filter P).length=((List.range m).filter fun i=>P (2*i)).length+((List.range m).filter fun i=>P (2*i+1)).length
  | 0=>rfl
  | m + 1 => by
    have ih:=jeT P m;rw[show 2*(m+1)=2*m+1+1 by omega,xaU,xaU,xaU (n:=m),xaq,xaq,xaq,xaq,xad,xad,xad,xad,ih];have s:∀(Q:Nat->Bool) (x:Nat),([x].filter Q).length=if Q x=true then 1 else 0:=fun Q x=>by
      cases h:Q x with
      | true=>rw[xaW h,if_pos rfl];rfl
      | false=>rw[xbb (by rw[h];decide),if_neg (by decide)];rfl
    rw[s,s,s (fun i=>P (2*i)),s (fun i=>P (2*i+1))];omega
theorem jk8 {l:List Nat} (hs:l.Pairwise (· < ·)) (h:∀a b c,a∈l->b∈l->c∈l->a<b->b<c->False):l.length<=2:=by
  match l,hs,h with
  | [],_,_=>exact xaO _
  | [_],_,_=>show 1<=2;decide
  | [_,_],_,_=>show 2<=2;decide
  | x :: y :: z :: l, hs, h =>
    have q1:=xbW.mp hs;have q2:=xbW.mp q1.2;exact (h x y z (by simp) (by simp) (by simp) (q1.1 y (by simp)) (q2.1 z (by simp))).elim
theorem jjc {P:Nat->Bool} (hi:i<n) (h:P i=false):((List.range n).filter P).length<n:=by
 have z:((List.range n).filter P).length<(List.range n).length:=by
  refine List.length_filter_lt_length_iff_exists.mpr ⟨i,xaF.mpr hi,?_⟩;rw[h];decide
 rw[xa9] at z;exact z
theorem jjd {c:Nat->Tri} {C:Int} (h:Tp c n):(clp (fun i=>jaH A B C (c i)) n).length<=n+1:=by
 unfold clp;rw[jeT];have ev:∀i,kp (fun i=>jaH A B C (c i)) n (2*i)=decide (0<=jaH A B C (c i)):=fun i=>by
  unfold kp;rw[if_pos (by omega),show 2*i / 2=i by omega]
 have od:∀i,kp (fun i=>jaH A B C (c i)) n (2*i+1)=decide (jaH A B C (c i)*jaH A B C (c ((i+1) % n))<0):=fun i=>by
  unfold kp;rw[if_neg (by omega),show (2*i+1) / 2=i by omega]
 have l1:((List.range n).filter fun i=>kp (fun i=>jaH A B C (c i)) n (2*i)).length<=n:=by
  have z:=xbv (fun i=>kp (fun i=>jaH A B C (c i)) n (2*i)) (List.range n);rw[xa9] at z;exact z
 have l2:((List.range n).filter fun i=>kp (fun i=>jaH A B C (c i)) n (2*i+1)).length<=2:=by
  refine jk8 (List.pairwise_lt_range.sublist xcn) fun a b d ha hb hd ab bd=>?_;have ha:=xa2.mp ha;have hb:=xa2.mp hb;have hd:=xa2.mp hd;rw[od] at ha hb hd;exact jjb h ab bd (xaF.mp hd.1) (of_decide_eq_true ha.2) (of_decide_eq_true hb.2) (of_decide_eq_true hd.2)
 by_cases e:((List.range n).filter fun i=>kp (fun i=>jaH A B C (c i)) n (2*i+1))=[]
 ·rw[e];show _+0<=n+1;omega
 ·obtain⟨x,hx⟩:=xbM _ e;have hx:=xa2.mp hx;rw[od] at hx;have hn:=xaF.mp hx.1;have z:=opp_iff.mp (of_decide_eq_true hx.2);have l3:((List.range n).filter fun i=>kp (fun i=>jaH A B C (c i)) n (2*i)).length<n:=by
   rcases z with r | r
   ·exact jjc (xaR (x+1) (by omega)) (by rw[ev];exact decide_eq_false (by omega))
   ·exact jjc hn (by rw[ev];exact decide_eq_false (by omega))
  omega
def rs:List Rat->Rat
 | []=>0
 | x::l=>x+rs l
theorem jl6:∀l m:List Rat,rs (l++m)=rs l+rs m
  | [],m=>by show rs m=0+rs m;grind
  | x :: l, m => by
    show x+rs (l++m)=x+rs l+rs m;rw[jl6 l m];grind
theorem jje {α:Type} (a:α):∀l:List α,(nxt l a).length=l.length
  | []=>rfl
  | [_]=>rfl
  | x :: y :: r => by
    show (nxt (y::r) a).length+1=_;rw[jje a (y::r)];rfl
theorem jjf {α:Type} (d a:α):∀(l:List α) (i:Nat),i<l.length->(nxt l a)[i]?=some (l.getD i d,if i+1<l.length then l.getD (i+1) d else a)
  | [],i,h=>by simp at h
  | [x], i, h => by
    have e:i=0:=by simpa using h
    subst e;rfl
  | x :: y :: r, 0, h => by
    show some (x,y)=_;rw[if_pos (by simp)];rfl
  | x :: y :: r, i + 1, h => by
    have h':i<(y::r).length:=by simpa using h
    show (nxt (y::r) a)[i]?=_;rw[jjf d a (y::r) i h'];have e:((i+1+1<(x::y::r).length)↔(i+1<(y::r).length)):=by simp
    simp only[e];rfl
theorem jdD {α:Type} (l:List α):(prs l).length=l.length:=by
 cases l with
 | nil=>rfl
 | cons x r=>exact jje x (x::r)
theorem jcM {α:Type} (d:α) {l:List α} (h:i<l.length):(prs l)[i]?=some (l.getD i d,l.getD ((i+1) % l.length) d):=by
  cases l with
  | nil=>simp at h
  | cons x r =>
    show (nxt (x::r) x)[i]?=_;rw[jjf d x (x::r) i h];by_cases c:i+1<(x::r).length
    . rw[if_pos c,xai c]
    . rw[if_neg c,show i+1=(x::r).length by omega,xbq]
      rfl
theorem jl7 {α:Type} (d:α) (l:List α):prs l=(List.range l.length).map fun i=>(l.getD i d,l.getD ((i+1) % l.length) d):=by
 refine xb2 fun i=>?_;by_cases c:i<l.length
 ·rw[jcM d c,xae,xb7 c];rfl
 ·rw[xaV (by rw[jdD];omega),xaV (by rw[xaa,xa9];omega)]
theorem jpe {α:Type} (d:α) (l:List α):((List.range l.length).map fun i=>(l.getD ((i+(l.length-1)) % l.length) d,l.getD i d))=(prs l).drop (l.length-1)++(prs l).take (l.length-1):=by
  rw[<- jdC,jl7 d];have hl:(l.drop (l.length-1)++l.take (l.length-1)).length=l.length:=by
    rw[xad,xam,xah];omega
  rw[hl];refine xbT fun i hi=>?_;have hi:=xaF.mp hi;have G:∀j,j<l.length->(l.drop (l.length-1)++l.take (l.length-1)).getD j d=l.getD ((j+(l.length-1)) % l.length) d:=fun j hj=>by
    rw[xab,xab]
    congr 1
    cases j with
    | zero =>
      rw[xaD (by rw[xam];omega),xbI,xbK,xai (by omega)];rfl
    | succ j =>
      rw[xau (by rw[xam];omega),xam,xbX,show j+1-(l.length-(l.length-1))=j by omega,if_pos (by omega),show j+1+(l.length-1)=j+l.length by omega,xba,xai (by omega)]
  rw[G i hi,G _ (xaR _ (by omega))]
  congr 1
  by_cases c:i+1<l.length
  . rw[xai c,show i+1+(l.length-1)=i+l.length by omega,xba,xai hi]
  . rw[show i+1=l.length by omega,xbq,xbK,xai (by omega),show i=l.length-1 by omega]
theorem jjg {α β:Type} (f:α->β) (a:α):∀l:List α,nxt (l.map f) (f a)=(nxt l a).map fun e=>(f e.1,f e.2)
  | []=>rfl
  | [_]=>rfl
  | x :: y :: r => by
    show (f x,f y)::nxt ((y::r).map f) (f a)=_;rw[jjg f a (y::r)];rfl
theorem jnk {α β:Type} (f:α->β) (l:List α):prs (l.map f)=(prs l).map fun e=>(f e.1,f e.2):=by
 cases l with
 | nil=>rfl
 | cons x r=>exact jjg f x (x::r)
theorem qnz {i:Int} (h:i≠0):(i:Rat)≠0:=fun e=>h (by exact_mod_cast e)
def t0:Tri:=⟨0,0,0⟩
def tr (vs:List Tri) (i:Nat):Tri:=vs.getD i t0
def TpL (vs:List Tri):Prop:=Tp (tr vs) vs.length
theorem jk9 {c d:Nat->Tri} (h:Tp c n) (e:∀i,i<n->d i=c i):Tp d n:=fun i j k ij jk kn=>by
 rw[e i (by omega),e j (by omega),e k kn];exact h i j k ij jk kn
def Prp (u v:Tri):Prop:=∃k m:Int,0<k/\0<m/\k*u.x=m*v.x/\k*u.y=m*v.y/\k*u.z=m*v.z
theorem Prp.refl (u:Tri):Prp u u:=⟨1,1,by decide,by decide,rfl,rfl,rfl⟩
theorem Prp.symm {u:Tri} (h:Prp u v):Prp v u:=by
 obtain⟨k,m,h1,h2,e1,e2,e3⟩:=h;exact⟨m,k,h2,h1,e1.symm,e2.symm,e3.symm⟩
theorem Prp.z {u:Tri} (h:Prp u v) (hu:1<=u.z):1<=v.z:=by
 obtain⟨k,m,h1,h2,e1,e2,e3⟩:=h;have:=xan h1 (show 0<u.z by omega);rw[e3] at this;have:=xbz this (by omega);omega
theorem jpf {a b c a' b' c':Tri} (ha:Prp a a') (hb:Prp b b') (hc:Prp c c') (h:0<dt a b c):0<dt a' b' c':=by
 obtain⟨k1,m1,p1,q1,x1,y1,z1⟩:=ha;obtain⟨k2,m2,p2,q2,x2,y2,z2⟩:=hb;obtain⟨k3,m3,p3,q3,x3,y3,z3⟩:=hc;have e:k1*k2*k3*dt a b c=m1*m2*m3*dt a' b' c':=by
  have s:∀(g1 g2 g3:Int) (u v w:Tri),g1*g2*g3*dt u v w=dt ⟨g1*u.x,g1*u.y,g1*u.z⟩ ⟨g2*v.x,g2*v.y,g2*v.z⟩ ⟨g3*w.x,g3*w.y,g3*w.z⟩:=fun g1 g2 g3 u v w=>by
   unfold dt jbE;grind
  rw[s,s,x1,y1,z1,x2,y2,z2,x3,y3,z3]
 have h1:=xan (xan (xan p1 p2) p3) h;rw[e] at h1;exact xbz h1 (xan (xan q1 q2) q3)
inductive PL:List Tri->List Tri->Prop
 | nil:PL [] []
 | cons {u v:Tri} {us vs:List Tri} (h:Prp u v) (t:PL us vs):PL (u::us) (v::vs)
theorem PL.refl:∀l:List Tri,PL l l
 | []=>.nil
 | x::l=>.cons (Prp.refl x) (PL.refl l)
variable {us vs ws:List Tri}
theorem PL.len (h:PL us vs):us.length=vs.length:=by
 induction h with
 | nil=>rfl
 | cons _ _ ih=>rw[xaA,xaA,ih]
theorem PL.app {us' vs':List Tri} (h:PL us vs) (k:PL us' vs'):PL (us++us') (vs++vs'):=by
 induction h with
 | nil=>exact k
 | cons h _ ih=>exact .cons h ih
theorem PL.get (h:PL us vs):∀{i:Nat},i<us.length->Prp (tr us i) (tr vs i):=by
  induction h with
  | nil=>intro i hi;simp at hi
  | cons h _ ih =>
    intro i hi;cases i with
    | zero=>exact h
    | succ i=>exact ih (by simpa using hi)
theorem PL.tp (h:PL us vs) (t:TpL us):TpL vs:=fun i j k ij jk kn=>by
 have l:=h.len;exact jpf (h.get (by omega)) (h.get (by omega)) (h.get (by omega)) (t i j k ij jk (by omega))
theorem PL.fm {α:Type} {f g:α->List Tri}:∀{l:List α},(∀a∈l,PL (f a) (g a))->PL (l.flatMap f) (l.flatMap g)
  | [],_=>.nil
  | a :: l, h => by
    rw[xbr,xbr];exact (h a (by simp)).app (PL.fm fun b hb=>h b (xat _ hb))
def xp (h:Tri->Int) (a b:Tri):Tri:=jeR (ab (h b)) a (ab (h a)) b
def jgA (v:Tri):Tri:=⟨v.x / gl [v.x,v.y,v.z],v.y / gl [v.x,v.y,v.z],v.z / gl [v.x,v.y,v.z]⟩
theorem jla (hz:1<=v.z):Prp v (jgA v):=by
 have g0:0<gl [v.x,v.y,v.z]:=jdL (n:=v.z) (by simp) (by omega);have d:∀n∈[v.x,v.y,v.z],gl [v.x,v.y,v.z]*(n / gl [v.x,v.y,v.z])=n:=fun n hn=>xbd (jaX hn);refine⟨1,gl [v.x,v.y,v.z],by decide,g0,?_,?_,?_⟩
 ·rw[Int.one_mul];exact (d v.x (by simp)).symm
 ·rw[Int.one_mul];exact (d v.y (by simp)).symm
 ·rw[Int.one_mul];exact (d v.z (by simp)).symm
variable {h:Tri->Int}
theorem xp_z {a b:Tri} (ha:1<=a.z) (hb:1<=b.z) (o:h a*h b<0):1<=(xp h a b).z:=by
 obtain⟨h1,h2,_,_⟩:=jcZ o;have p1:=jbC h1;have p2:=jbC h2;have q1:=xan p2 (show 0<a.z by omega);have q2:=xan p1 (show 0<b.z by omega);show 1<=ab (h b)*a.z+ab (h a)*b.z;omega
def upE (h:Tri->Int) (X:Tri->Tri->Tri) (e:Tri × Tri):List Tri:=(if 0<=h e.1 then [e.1] else [])++(if h e.1*h e.2<0 then [X e.1 e.2] else [])
def upL (h:Tri->Int) (X:Tri->Tri->Tri) (vs:List Tri):List Tri:=(prs vs).flatMap (upE h X)
theorem jhj {α:Type} (P:Nat->Bool) (g:Nat->α):∀m,((List.range (2*m)).filter P).map g=(List.range m).flatMap fun i=>(if P (2*i)=true then [g (2*i)] else [])++(if P (2*i+1)=true then [g (2*i+1)] else [])
  | 0=>rfl
  | m + 1 => by
    have ih:=jhj P g m;have s:∀x:Nat,([x].filter P).map g=if P x=true then [g x] else []:=fun x=>by
      cases h:P x with
      | true=>rw[xaW h,if_pos rfl];rfl
      | false=>rw[xbb (by rw[h];decide),if_neg (by decide)];rfl
    rw[show 2*(m+1)=2*m+1+1 by omega,xaU,xaU,xaU (n:=m),xaq,xaq,xaf,xaf,ih,s,s,xb8,xbD];simp
theorem jhk (h:Tri->Int) (vs:List Tri):upL h (xp h) vs=(clp (fun i=>h (tr vs i)) vs.length).map (el (tr vs) (fun i=>h (tr vs i)) vs.length):=by
 unfold upL clp;rw[jhj,jl7 t0,List.flatMap_map]
 congr 1
 funext i
 have k0:kp (fun i=>h (tr vs i)) vs.length (2*i)=decide (0<=h (tr vs i)):=by
  unfold kp;rw[if_pos (by omega),show 2*i / 2=i by omega]
 have k1:kp (fun i=>h (tr vs i)) vs.length (2*i+1)=decide (h (tr vs i)*h (tr vs ((i+1) % vs.length))<0):=by
  unfold kp;rw[if_neg (by omega),show (2*i+1) / 2=i by omega]
 have e0:el (tr vs) (fun i=>h (tr vs i)) vs.length (2*i)=tr vs i:=by
  unfold el;rw[if_pos (by omega),show 2*i / 2=i by omega]
 have e1:el (tr vs) (fun i=>h (tr vs i)) vs.length (2*i+1)=xp h (tr vs i) (tr vs ((i+1) % vs.length)):=by
  unfold el;rw[if_neg (by omega),show (2*i+1) / 2=i by omega];rfl
 rw[k0,k1,e0,e1];simp only[decide_eq_true_eq];rfl
variable {X:Tri->Tri->Tri}
theorem jnl (hX:∀a b,a∈vs->b∈vs->h a*h b<0->Prp (xp h a b) (X a b)):PL (upL h (xp h) vs) (upL h X vs):=by
 refine PL.fm fun e he=>?_;obtain⟨i,hi⟩:=xbL.mp he;have il:i<vs.length:=by have:=(xaj.mp hi).1;rw[jdD] at this;exact this
 rw[jcM t0 il] at hi;have hm:∀j,j<vs.length->vs.getD j t0∈vs:=fun j hj=>by
  rw[xab,xac hj];exact xa5 hj
 have ee:=Option.some.inj hi;subst ee;refine PL.app (PL.refl _) ?_;by_cases o:h (vs.getD i t0)*h (vs.getD ((i+1) % vs.length) t0)<0
 ·simp only[if_pos o];exact .cons (hX _ _ (hm i il) (hm _ (xaR _ (by omega))) o) .nil
 ·simp only[if_neg o];exact .nil
theorem jpg (n3:3<=vs.length) (t:TpL vs):TpL (upL h (xp h) vs):=by
 have z:=jni (c:=tr vs) (H:=fun i=>h (tr vs i)) n3 t;have l:(upL h (xp h) vs).length=(clp (fun i=>h (tr vs i)) vs.length).length:=by rw[jhk,xaa]
 unfold TpL;rw[l];refine jk9 z fun i hi=>?_;rw[jhk];show ((clp (fun i=>h (tr vs i)) vs.length).map (el (tr vs) (fun i=>h (tr vs i)) vs.length)).getD i t0=el (tr vs) (fun i=>h (tr vs i)) vs.length ((clp (fun i=>h (tr vs i)) vs.length).getD i 0);rw[xab,xae,xac hi,xab,xac hi];rfl
theorem up_tp (hX:∀a b,a∈vs->b∈vs->h a*h b<0->Prp (xp h a b) (X a b)) (n3:3<=vs.length) (t:TpL vs):TpL (upL h X vs):=(jnl hX).tp (jpg n3 t)
theorem jnm (hX:∀a b,a∈vs->b∈vs->h a*h b<0->Prp (xp h a b) (X a b)) (n3:3<=vs.length) (hi:i<vs.length) (hp:0<h (tr vs i)):3<=(upL h X vs).length:=by
 rw[<- (jnl hX).len,jhk,xaa];exact jk7 (H:=fun i=>h (tr vs i)) n3 hi hp
theorem jnn {C:Int} (hX:∀a b,a∈vs->b∈vs->jaH A B C a*jaH A B C b<0->Prp (xp (jaH A B C) a b) (X a b)) (t:TpL vs):(upL (jaH A B C) X vs).length<=vs.length+1:=by
 rw[<- (jnl hX).len,jhk,xaa];exact jjd t
theorem jhl (hv:v∈upL h X vs):(v∈vs/\0<=h v)\/∃a b,a∈vs/\b∈vs/\h a*h b<0/\v=X a b:=by
 obtain⟨e,he,hv⟩:=xbF.mp hv;obtain⟨i,hi⟩:=xbL.mp he;have il:i<vs.length:=by have:=(xaj.mp hi).1;rw[jdD] at this;exact this
 rw[jcM t0 il] at hi;have hm:∀j,j<vs.length->vs.getD j t0∈vs:=fun j hj=>by
  rw[xab,xac hj];exact xa5 hj
 have ee:=Option.some.inj hi;subst ee;rcases xas.mp hv with h1 | h1
 ·by_cases c:0<=h (vs.getD i t0)
  ·simp only[if_pos c,xar] at h1;subst h1;exact .inl ⟨hm i il,c⟩
  ·simp only[if_neg c] at h1;cases h1
 ·by_cases c:h (vs.getD i t0)*h (vs.getD ((i+1) % vs.length) t0)<0
  ·simp only[if_pos c,xar] at h1;exact .inr ⟨_,_,hm i il,hm _ (xaR _ (by omega)),c,h1⟩
  ·simp only[if_neg c] at h1;cases h1
def Adj {α:Type} (R:α->α->Prop):List α->Prop
 | []=>True
 | [_]=>True
 | a::b::l=>R a b/\Adj R (b::l)
theorem Adj.glue {α:Type} {R:α->α->Prop} {x:α}:∀{l m:List α},Adj R (l++[x])->Adj R (x::m)->Adj R (l++x::m)
 | [],_,_,k=>k
 | [a],_,h,k=>⟨h.1,k⟩
 | a::b::l,m,h,k=>⟨h.1,Adj.glue (l:=b::l) h.2 k⟩
theorem Adj.left {α:Type} {R:α->α->Prop} {x:α}:∀{l m:List α},Adj R (l++x::m)->Adj R (l++[x])
 | [],_,_=>trivial
 | [a],_,h=>⟨h.1,trivial⟩
 | a::b::l,m,h=>⟨h.1,Adj.left (l:=b::l) h.2⟩
theorem Adj.right {α:Type} {R:α->α->Prop} {x:α}:∀{l m:List α},Adj R (l++x::m)->Adj R (x::m)
 | [],_,h=>h
 | [a],_,h=>h.2
 | a::b::l,m,h=>Adj.right (l:=b::l) h.2
theorem Adj.get {α:Type} {R:α->α->Prop}:∀{l:List α},Adj R l->∀(i:Nat) (x y:α),l[i]?=some x->l[i+1]?=some y->R x y
  | [],_,i,x,y,h,_=>by simp at h
  | [a],_,i,x,y,_,h=>by simp at h
  | a :: b :: l, h, 0, x, y, h1, h2 => by
    cases h1;cases h2;exact h.1
  | a::b::l,h,i+1,x,y,h1,h2=>Adj.get (l:=b::l) h.2 i x y h1 h2
def ax (v:Tri):Rat:=(v.x:Rat) / (v.z:Rat)
def ay (v:Tri):Rat:=(v.y:Rat) / (v.z:Rat)
def c2q (a b:Tri):Rat:=ax a*ay b-ay a*ax b
theorem jph {a b:Tri} (h:Prp a b) (hz:1<=a.z):ax a=ax b/\ay a=ay b:=by
 have hz':=h.z hz;obtain⟨k,m,h1,h2,e1,e2,e3⟩:=h;have z1:=qnz (show a.z≠0 by omega);have z2:=qnz (show b.z≠0 by omega);have z3:=qnz (show k≠0 by omega);have z4:=qnz (show m≠0 by omega);have f1:(k:Rat)*(a.x:Rat)=(m:Rat)*(b.x:Rat):=by exact_mod_cast e1
 have f2:(k:Rat)*(a.y:Rat)=(m:Rat)*(b.y:Rat):=by exact_mod_cast e2
 have f3:(k:Rat)*(a.z:Rat)=(m:Rat)*(b.z:Rat):=by exact_mod_cast e3
 unfold ax ay;have cancel:∀x y:Rat,(k:Rat)*x=(m:Rat)*y->x / (a.z:Rat)=y / (b.z:Rat):=fun x y e=>by
  have e4:x=((m:Rat)*y) / (k:Rat):=by grind
  have e5:(a.z:Rat)=((m:Rat)*(b.z:Rat)) / (k:Rat):=by grind
  rw[e4,e5];grind
 exact⟨cancel _ _ f1,cancel _ _ f2⟩
theorem jdm {l:List Tri} (h:i<l.length):tr l i∈l:=by
 unfold tr;rw[xab,xac h];exact xa5 h
theorem jhm {l:List Tri} (h:v∈l):∃i,i<l.length/\tr l i=v:=by
 obtain⟨i,hi,rfl⟩:=xbo.mp h;refine⟨i,hi,?_⟩;unfold tr;rw[xab,xac hi];rfl
theorem jno {a b:Tri} (ha:1<=a.z) (hb:1<=b.z) (o:h a*h b<0) (hv:Prp (xp h a b) v):c2q a v+c2q v b=c2q a b:=by
 obtain⟨e1,e2⟩:=jph hv (xp_z ha hb o);obtain⟨h1,h2,_,_⟩:=jcZ o;have p1:=jbC h1;have p2:=jbC h2;unfold c2q;rw[<- e1,<- e2];have q1:=xan p2 (show 0<a.z by omega);have q2:=xan p1 (show 0<b.z by omega);have z0:=qnz (show ab (h b)*a.z+ab (h a)*b.z≠0 by omega);have z1:=qnz (show a.z≠0 by omega);have z2:=qnz (show b.z≠0 by omega);have u:ax (xp h a b)*((ab (h b):Rat)*(a.z:Rat)+(ab (h a):Rat)*(b.z:Rat))=(ab (h b):Rat)*(a.z:Rat)*ax a+(ab (h a):Rat)*(b.z:Rat)*ax b:=by
  unfold ax xp jeR
  push_cast at z0 |-
  grind
 have w:ay (xp h a b)*((ab (h b):Rat)*(a.z:Rat)+(ab (h a):Rat)*(b.z:Rat))=(ab (h b):Rat)*(a.z:Rat)*ay a+(ab (h a):Rat)*(b.z:Rat)*ay b:=by
  unfold ay xp jeR
  push_cast at z0 |-
  grind
 push_cast at z0
 generalize ax (xp h a b)=X at *
 generalize ay (xp h a b)=Y at *
 generalize ax a=xa at *
 generalize ay a=ya at *
 generalize ax b=xb at *
 generalize ay b=yb at *
 generalize (ab (h b):Rat)*(a.z:Rat)=p at *
 generalize (ab (h a):Rat)*(b.z:Rat)=q at *
 have f:(xa*Y-ya*X+(X*yb-Y*xb))*(p+q)=(xa*yb-ya*xb)*(p+q):=by grind
 grind
def agE (h:Tri->Int) (X:Tri->Tri->Tri) (e:Tri × Tri):List Tri:=e.1::(if h e.1*h e.2<0 then [X e.1 e.2] else [])
def agL (h:Tri->Int) (X:Tri->Tri->Tri) (vs:List Tri):List Tri:=(prs vs).flatMap (agE h X)
theorem jjh {h:Tri->Int} {X:Tri->Tri->Tri} (k:Tri->Bool) (g:Tri × Tri->List Tri):∀{l:List (Tri × Tri)},(∀e∈l,(agE h X e).filter k=g e)->(l.flatMap (agE h X)).filter k=l.flatMap g
  | [],_=>rfl
  | e :: l, H => by
    rw[xbr,xbr,xaq,H e (by simp),jjh k g fun a ha=>H a (xat _ ha)]
theorem jdE {e:Tri × Tri} (he:e∈prs vs):e.1∈vs/\e.2∈vs:=by
 obtain⟨i,hi⟩:=xbL.mp he;have il:i<vs.length:=by have:=(xaj.mp hi).1;rw[jdD] at this;exact this
 rw[jcM t0 il] at hi;have ee:=Option.some.inj hi;subst ee;exact⟨jdm il,jdm (xaR _ (by omega))⟩
theorem ag_up (hX:∀a b,a∈vs->b∈vs->h a*h b<0->h (X a b)=0):(agL h X vs).filter (fun p=>decide (0<=h p))=upL h X vs:=by
 refine jjh _ _ fun e he=>?_;obtain⟨m1,m2⟩:=jdE he;unfold agE upE;have x0:=hX _ _ m1 m2;by_cases o:h e.1*h e.2<0
 ·have x1:=x0 o;by_cases c:0<=h e.1<;>simp [o,c,x1]
 ·by_cases c:0<=h e.1<;>simp [o,c]
theorem jpi {S:Tri->Prop} (hz:∀v,S v->1<=v.z) (hX:∀a b,S a->S b->h a*h b<0->Prp (xp h a b) (X a b)/\h (X a b)=0) {a:Tri} (sa:S a):∀(r:List Tri) (x:Tri),S x->(∀v∈r,S v) ->
    ∃w,(nxt (x::r) a).flatMap (agE h X)=x::w/\Adj (fun x y=>¬(h x<0/\0<h y)/\¬(0<h x/\h y<0)) (x::w++[a])/\rs ((nxt (x::w) a).map fun e=>c2q e.1 e.2)=rs ((nxt (x::r) a).map fun e=>c2q e.1 e.2):=by
  have one:∀x y,S x->S y->Adj (fun x y=>¬(h x<0/\0<h y)/\¬(0<h x/\h y<0)) (agE h X (x,y)++[y])/\rs ((nxt (agE h X (x,y)) y).map fun e=>c2q e.1 e.2)=c2q x y:=fun x y sx sy=>by
    unfold agE;by_cases o:h x*h y<0
    . obtain⟨k1,k2⟩:=hX x y sx sy o
      simp only[if_pos o];refine⟨⟨⟨by omega,by omega⟩,⟨by omega,by omega⟩,trivial⟩,?_⟩;show c2q x (X x y)+(c2q (X x y) y+0)=_;have:=jno (hz x sx) (hz y sy) o k1;grind
    . simp only[if_neg o]
      refine⟨⟨⟨fun z=>o (opp_iff.mpr (.inr z)),fun z=>o (opp_iff.mpr (.inl z))⟩,trivial⟩,?_⟩;show c2q x y+0=_;grind
  intro r;induction r with
  | nil =>
    intro x sx _;obtain⟨o1,o2⟩:=one x a sx sa;refine⟨if h x*h a<0 then [X x a] else [],?_,o1,?_⟩
    . show agE h X (x,a)++[]=_
      rw[xaP];rfl
    . show _=c2q x a+0
      exact o2.trans (by grind)
  | cons y r ih =>
    intro x sx sr;obtain⟨w,e1,e2,e3⟩:=ih y (sr y (by simp)) fun v hv=>sr v (xat _ hv);obtain⟨o1,o2⟩:=one x y sx (sr y (by simp));refine⟨(if h x*h y<0 then [X x y] else [])++y::w,?_,?_,?_⟩
    . show agE h X (x,y)++(nxt (y::r) a).flatMap (agE h X)=_
      rw[e1];rfl
    . have g:=Adj.glue (l:=agE h X (x,y)) (x:=y) (m:=w++[a]) o1 e2
      have e:x::((if h x*h y<0 then [X x y] else [])++y::w)++[a]=agE h X (x,y)++y::(w++[a]):=by
        unfold agE;simp
      rw[e];exact g
    . have e:x::((if h x*h y < 0 then [X x y] else [])++y::w)=agE h X (x,y)++y::w:=rfl
      rw[e,jfk,xaf,jl6,o2,e3];rfl
theorem jgB {C k m:Int} {u:Tri} (e1:k*u.x=m*v.x) (e2:k*u.y=m*v.y) (e3:k*u.z=m*v.z):k*jaH A B C u=m*jaH A B C v:=by
 unfold jaH;grind
theorem jfm {C:Int} {u:Tri} (h:Prp u v) (z:jaH A B C u=0):jaH A B C v=0:=by
 obtain⟨k,m,k0,m0,e1,e2,e3⟩:=h;have e:=jgB (A:=A) (B:=B) (C:=C) e1 e2 e3;rw[z,xbk] at e;rcases xax.mp e.symm with r | r
 ·omega
 ·exact r
theorem jdZ {α β:Type} {f g:α->List β}:∀{l:List α},(∀a∈l,f a=g a)->l.flatMap f=l.flatMap g
 | [],_=>rfl
 | a::l,h=>by rw[xbr,xbr,h a (by simp),jdZ fun b hb=>h b (xat _ hb)]
theorem jdF {α β:Type} {f g:α->Option β}:∀{l:List α},(∀a∈l,f a=g a)->l.filterMap f=l.filterMap g
 | [],_=>rfl
 | a::l,h=>by rw[xay,xay,h a (by simp),jdF fun b hb=>h b (xat _ hb)]
theorem jdG (h:pl4 p=pl4 q):p=q:=by
 unfold pl4 at h;injection h with h1 h
 injection h with h2 h
 injection h with h3 h
 injection h with h4 _
 cases p;cases q
 simp_all
def jlb (Z:Sht) (v:Tri):List Int:=[rX Z v,rY Z v,rZ Z v,rW Z v]
theorem jgC (Z:Sht) (v:Tri):pl4 (spt Z v)=low (jlb Z v):=rfl
theorem jnp {u:Tri} {k m:Int} (e1:k*u.x=m*v.x) (e2:k*u.y=m*v.y) (e3:k*u.z=m*v.z):(jlb Z u).map (k*·)=(jlb Z v).map (m*·):=by
 unfold jlb rX rY rZ rW;simp only[xaH,xcr]
 congr 1
 ·grind
 ·congr 1
  ·grind
  ·congr 1
   ·grind
   ·congr 1
    grind
theorem jnq {u:Tri} (h:Prp u v):spt Z u=spt Z v:=by
 obtain⟨k,m,k0,m0,e1,e2,e3⟩:=h;refine jdG ?_;rw[jgC,jgC,<- jfg k0 (jlb Z u),<- jfg m0 (jlb Z v),jnp e1 e2 e3]
def lnA (Z:Sht) (x y z:Int):Int:=Z.w*(x*Z.c.x+y*Z.c.y+z*Z.c.z)
def lnB (Z:Sht) (x y z:Int):Int:=Z.w*(x*Z.d.x+y*Z.d.y+z*Z.d.z)
def lnC (Z:Sht) (x y z v:Int):Int:=x*Z.s.x+y*Z.s.y+z*Z.s.z-v*Z.w
def hL (Z:Sht) (x y z v:Int):Tri->Int:=jaH (lnA Z x y z) (lnB Z x y z) (lnC Z x y z v)
theorem jfn (Z:Sht) (x y z v:Int) (a:Tri):rG Z a*hgt x y z v (spt Z a)=hL Z x y z v a:=by
 obtain⟨e1,e2,e3,e4⟩:=ja9 Z a;have e:rG Z a*hgt x y z v (spt Z a)=x*(rG Z a*(spt Z a).x)+y*(rG Z a*(spt Z a).y)+z*(rG Z a*(spt Z a).z)-v*(rG Z a*(spt Z a).w):=by
  unfold hgt;grind
 rw[e,e1,e2,e3,e4];unfold hL jaH lnA lnB lnC rX rY rZ rW;grind
theorem jb4 {z v:Int} {a:Tri} (hw:1<=Z.w) (ha:1<=a.z):(0<hgt x y z v (spt Z a)↔0<hL Z x y z v a)/\(hgt x y z v (spt Z a)<0↔hL Z x y z v a<0):=by
 have g:=jcI (Z:=Z) (v:=a) hw ha;rw[<- jfn];generalize hgt x y z v (spt Z a)=n;refine⟨⟨fun h=>xan g h,fun h=>xbz h g⟩,⟨fun h=>xaB g h,fun h=>?_⟩⟩;rcases xcv n 0 with q | q
 ·exact q
 ·have:=xaJ (xbS g) q;omega
theorem jji {z v:Int} {a b:Tri} (hw:1<=Z.w) (ha:1<=a.z) (hb:1<=b.z):hgt x y z v (spt Z a)*hgt x y z v (spt Z b)<0↔hL Z x y z v a*hL Z x y z v b<0:=by
 rw[opp_iff,opp_iff,(jb4 hw ha).1,(jb4 hw ha).2,(jb4 hw hb).1,(jb4 hw hb).2]
theorem sgn_opp {b:Int}:sgn a*sgn b<0↔a*b<0:=by
 rw[opp_iff,opp_iff];unfold sgn;rcases Int.lt_trichotomy a 0 with h | h | h<;>rcases Int.lt_trichotomy b 0 with k | k | k
 all_goals (simp only[gt_iff_lt];(repeat' split)<;>omega)
theorem jgD {r:Pt} (hq:0<q.w) (h:pl4 r=(pl4 q).map (-1*·)):jdU r=jdU q:=by
 have e:r=⟨-q.x,-q.y,-q.z,-q.w⟩:=jdG (h.trans (by unfold pl4;simp));subst e;unfold jdU;rw[if_pos (show -q.w<0 by omega),if_neg (show ¬q.w<0 by omega)];simp only[xco]
theorem jnr (hq:0<q.w):pl4 (jdU q)=low (pl4 q):=by
 unfold jdU;rw[if_neg (show ¬q.w<0 by omega)];rfl
theorem jns {z v:Int} {a b:Tri} (hw:1<=Z.w) (ha:1<=a.z) (hb:1<=b.z) (o:hL Z x y z v a*hL Z x y z v b<0):jdU (jdS x y z v (spt Z a) (spt Z b))=spt Z (xp (hL Z x y z v) a b):=by
 have o':=(jji hw ha hb).mpr o;have ga:=jcI (Z:=Z) (v:=a) hw ha;have gb:=jcI (Z:=Z) (v:=b) hw hb;have wa:=jf4 (Z:=Z) hw ha;have wb:=jf4 (Z:=Z) hw hb;have la:=jfn Z x y z v a;have lb:=jfn Z x y z v b;obtain⟨a1,a2,a3,a4⟩:=ja9 Z a;obtain⟨b1,b2,b3,b4⟩:=ja9 Z b;obtain⟨n1,n2,_,_⟩:=jcZ o';have q1:=jbC n1;have q2:=jbC n2;have abm:∀{g n:Int},0<g->ab (g*n)=g*ab n:=fun {g n} hg=>by
  unfold ab;by_cases c:n<0
  ·rw[if_pos c,if_pos (xaB hg c)];grind
  ·rw[if_neg c,if_neg (by have:=xaJ (xbS hg) (show 0<=n by omega);omega)]
 have ea:ab (hL Z x y z v a)=rG Z a*ab (hgt x y z v (spt Z a)):=by rw[<- la,abm ga]
 have eb:ab (hL Z x y z v b)=rG Z b*ab (hgt x y z v (spt Z b)):=by rw[<- lb,abm gb]
 let q:Pt:=⟨ab (hgt x y z v (spt Z b))*(spt Z a).x+ab (hgt x y z v (spt Z a))*(spt Z b).x,ab (hgt x y z v (spt Z b))*(spt Z a).y+ab (hgt x y z v (spt Z a))*(spt Z b).y,ab (hgt x y z v (spt Z b))*(spt Z a).z+ab (hgt x y z v (spt Z a))*(spt Z b).z,ab (hgt x y z v (spt Z b))*(spt Z a).w+ab (hgt x y z v (spt Z a))*(spt Z b).w⟩
 have qw:0<q.w:=by
  have h1:=xan q2 (show 0<(spt Z a).w by omega);have h2:=xan q1 (show 0<(spt Z b).w by omega);show 0<ab (hgt x y z v (spt Z b))*(spt Z a).w+ab (hgt x y z v (spt Z a))*(spt Z b).w;omega
 have raw:jlb Z (xp (hL Z x y z v) a b)=(pl4 q).map (rG Z a*rG Z b*·):=by
  have lin:jlb Z (xp (hL Z x y z v) a b)=[ab (hL Z x y z v b)*rX Z a+ab (hL Z x y z v a)*rX Z b,ab (hL Z x y z v b)*rY Z a+ab (hL Z x y z v a)*rY Z b,ab (hL Z x y z v b)*rZ Z a+ab (hL Z x y z v a)*rZ Z b,ab (hL Z x y z v b)*rW Z a+ab (hL Z x y z v a)*rW Z b]:=by
   unfold xp;generalize ab (hL Z x y z v b)=p;generalize ab (hL Z x y z v a)=r;unfold jlb rX rY rZ rW jeR;simp only[List.cons.injEq,and_true];refine⟨?_,?_,?_,?_⟩<;>grind
  rw[lin,ea,eb,<- a1,<- a2,<- a3,<- a4,<- b1,<- b2,<- b3,<- b4];show _=[rG Z a*rG Z b*q.x,rG Z a*rG Z b*q.y,rG Z a*rG Z b*q.z,rG Z a*rG Z b*q.w];simp only[q,List.cons.injEq,and_true];refine⟨?_,?_,?_,?_⟩<;>grind
 have fin:jdU (jdS x y z v (spt Z a) (spt Z b))=jdU q:=by
  rcases opp_iff.mp o' with ⟨p1,p2⟩ | ⟨p1,p2⟩
  ·refine jgD qw ?_;have e1:ab (hgt x y z v (spt Z a))=hgt x y z v (spt Z a):=if_neg (by omega);have e2:ab (hgt x y z v (spt Z b))=-hgt x y z v (spt Z b):=if_pos p2;show _=[-1*q.x,-1*q.y,-1*q.z,-1*q.w];simp only[q];rw[e1,e2];unfold pl4 jdS;simp only[List.cons.injEq,and_true];refine⟨?_,?_,?_,?_⟩<;>grind
  ·congr 1
   have e1:ab (hgt x y z v (spt Z a))=-hgt x y z v (spt Z a):=if_pos p1;have e2:ab (hgt x y z v (spt Z b))=hgt x y z v (spt Z b):=if_neg (by omega);refine jdG ?_;show _=[q.x,q.y,q.z,q.w];simp only[q];rw[e1,e2];unfold pl4 jdS;simp only[List.cons.injEq,and_true];refine⟨?_,?_,?_,?_⟩<;>grind
 rw[fin];refine jdG ?_;rw[jnr qw,jgC,raw,jfg (xan ga gb)]
def fK (x y z v:Int):Pt ⊕ Pt × Pt->Option Pt
 | .inl p=>if 0<=hgt x y z v p then some p else none
 | .inr e=>if hgt x y z v e.1*hgt x y z v e.2<0 then some (jdU (jdS x y z v e.1 e.2)) else none
theorem jpj {z v:Int} {o:Pt} (hp:1<=p.w) (ho:1<=o.w) (h:hgt x y z v p*hgt x y z v o<0):jdU (jdS x y z v o p)=jdU (jdS x y z v p o):=by
 have m:∀{p o:Pt},pl4 (jdS x y z v o p)=(pl4 (jdS x y z v p o)).map (-1*·):=fun {p o}=>by
  unfold pl4 jdS;simp only[xaH,xcr,List.cons.injEq,and_true];refine⟨?_,?_,?_,?_⟩<;>grind
 rcases opp_iff.mp h with ⟨p1,p2⟩ | ⟨p1,p2⟩
 ·have h1:=xa6 p2 (show 0<p.w by omega);have h2:=xan p1 (show 0<o.w by omega);exact (jgD (show 0<hgt x y z v p*o.w-hgt x y z v o*p.w by omega) m).symm
 ·have h1:=xan p2 (show 0<p.w by omega);have h2:=xa6 p1 (show 0<o.w by omega);exact jgD (show 0<hgt x y z v o*p.w-hgt x y z v p*o.w by omega) m
theorem jjj (d e:List (Pt × Int)):kHi (d++e)=kHi d++kHi e:=by
 unfold kHi;rw[xaq,xaf]
theorem jl8 {α:Type} (g:α->List (Pt × Int)):∀l:List α,kHi (l.flatMap g)=l.flatMap fun a=>kHi (g a)
 | []=>rfl
 | a::l=>by rw[xbr,xbr,jjj,jl8 g l]
theorem sgn_nn_iff {n:Int}:0<=sgn n↔0<=n:=by
 unfold sgn
 (repeat' split)<;>omega
theorem jpk (x y z v:Int) (p o:Pt):kHi (ji4 x y z v p o)=[Sum.inr (p,o),Sum.inl o].filterMap (fK x y z v):=by
 unfold ji4;rw[jjj];have e1:kHi (if sgn (hgt x y z v p)*sgn (hgt x y z v o)<0 then [(jdU (jdS x y z v p o),0)] else [])=if hgt x y z v p*hgt x y z v o<0 then [jdU (jdS x y z v p o)] else []:=by
  by_cases c:hgt x y z v p*hgt x y z v o<0
  ·rw[if_pos (sgn_opp.mpr c),if_pos c];rfl
  ·rw[if_neg (fun h=>c (sgn_opp.mp h)),if_neg c];rfl
 have e2:kHi [(o,sgn (hgt x y z v o))]=if 0<=hgt x y z v o then [o] else []:=by
  unfold kHi;by_cases c:0<=hgt x y z v o
  ·rw[if_pos c,xaW (by exact decide_eq_true (sgn_nn_iff.mpr c))];rfl
  ·rw[if_neg c,xbb (by simp only[decide_eq_true_eq];exact fun h=>c (sgn_nn_iff.mp h))];rfl
 rw[e1,e2];by_cases c:hgt x y z v p*hgt x y z v o<0<;>by_cases d:0<=hgt x y z v o<;>simp [fK,c,d]
theorem jpl (x y z v:Int) (ps:List Pt):kHi (sdd x y z v ps ps.length)=(TB (prs (ps.drop (ps.length-1)++ps.take (ps.length-1)))).filterMap (fK x y z v):=by
 unfold sdd;rw[jl8,jdC,<- jpe p0];unfold TB;rw[List.filterMap_flatMap,List.flatMap_map]
 congr 1
 funext i
 exact jpk ..
theorem tt_up {z v:Int} (hw:1<=Z.w) (hz:∀u∈vs,1<=u.z) (hX:∀a b,a∈vs->b∈vs->hL Z x y z v a*hL Z x y z v b<0->Prp (xp (hL Z x y z v) a b) (X a b)) :
  (TT (prs (vs.map (spt Z)))).filterMap (fK x y z v)=(upL (hL Z x y z v) X vs).map (spt Z):=by
 unfold TT upL;rw[jnk,List.filterMap_flatMap,List.flatMap_map,List.map_flatMap];refine jdZ fun e he=>?_;obtain⟨m1,m2⟩:=jdE he;have z1:=hz _ m1;have z2:=hz _ m2;have i1:(0<=hgt x y z v (spt Z e.1))↔0<=hL Z x y z v e.1:=by
  have:=(jb4 (x:=x) (y:=y) (z:=z) (v:=v) hw z1).2;omega
 have i2:=jji (x:=x) (y:=y) (z:=z) (v:=v) hw z1 z2;have i3:hL Z x y z v e.1*hL Z x y z v e.2<0->jdU (jdS x y z v (spt Z e.1) (spt Z e.2))=spt Z (X e.1 e.2):=fun o=>(jns hw z1 z2 o).trans (jnq (hX _ _ m1 m2 o));unfold upE;by_cases c:0<=hL Z x y z v e.1<;>by_cases d:hL Z x y z v e.1*hL Z x y z v e.2<0
 ·have:=i3 d;simp [fK,i1,i2,c,d,this]
 ·simp [fK,i1,i2,c,d]
 ·have:=i3 d;simp [fK,i1,i2,c,d,this]
 ·simp [fK,i1,i2,c,d]
theorem jf7 {z v:Int} (hw:1<=Z.w) (hz:∀u∈vs,1<=u.z) (hX:∀a b,a∈vs->b∈vs->hL Z x y z v a*hL Z x y z v b<0->Prp (xp (hL Z x y z v) a b) (X a b)) (r:RR (vs.map (spt Z)) ps) :
    RR ((upL (hL Z x y z v) X vs).map (spt Z)) (kHi (sdd x y z v ps ps.length)):=by
  have wp:∀p∈ps,1<=p.w:=fun p hp=>by
    obtain⟨u,hu,rfl⟩:=xao.mp (r.mem.mp hp);exact jf4 hw (hz u hu)
  let f':Pt ⊕ Pt × Pt->Option Pt:=fun s=>match s with
    | .inl p=>fK x y z v (.inl p)
    | .inr e=>if 1<=e.1.w/\1<=e.2.w then fK x y z v (.inr e) else none
  have sym:∀s,f' (swS s)=f' s:=fun s=>by
    cases s with
    | inl p=>rfl
    | inr e =>
      show (if 1<=e.2.w/\1<=e.1.w then fK x y z v (.inr (e.2,e.1)) else none)=if 1<=e.1.w/\1<=e.2.w then fK x y z v (.inr e) else none;by_cases c:1<=e.1.w/\1<=e.2.w
      . rw[if_pos c,if_pos ⟨c.2,c.1⟩]
        unfold fK;have cm:hgt x y z v e.2*hgt x y z v e.1=hgt x y z v e.1*hgt x y z v e.2:=xbi _ _;by_cases o:hgt x y z v e.1*hgt x y z v e.2<0
        . simp only[cm,if_pos o]
          rw[jpj c.1 c.2 o]
        . simp only[cm,if_neg o]
      . rw[if_neg c,if_neg fun q=>c ⟨q.2,q.1⟩]
  have pm:∀{l:List Pt} {e:Pt × Pt},e∈prs l->e.1∈l/\e.2∈l:=fun {l e} he=>by
    obtain⟨i,hi⟩:=xbL.mp he;have il:i<l.length:=by have:=(xaj.mp hi).1;rw[jdD] at this;exact this
    rw[jcM p0 il] at hi;have ee:=Option.some.inj hi;subst ee;exact⟨jba il,jba (xaR _ (by omega))⟩
  have same:∀{l:List Pt},(∀p∈l,1<=p.w)->∀s:Pt ⊕ Pt × Pt,(s∈TT (prs l)\/s∈TB (prs l))->f' s=fK x y z v s:=fun {l} hl s hs=>by
    cases s with
    | inl p=>rfl
    | inr e =>
      have he:e∈prs l:=by
        rcases hs with h | h
        . obtain⟨e',he',h⟩:=xbF.mp h
          simp at h;rw[h];exact he'
        . obtain⟨e',he',h⟩:=xbF.mp h
          simp at h;rw[h];exact he'
      obtain⟨m1,m2⟩:=pm he;exact if_pos ⟨hl _ m1,hl _ m2⟩
  have w0:∀p∈vs.map (spt Z),1<=p.w:=fun p hp=>wp p (r.mem.mpr hp);have r2:RR (vs.map (spt Z)) (ps.drop (ps.length-1)++ps.take (ps.length-1)):=.rot _ r;have t1:=jnf f' sym r2;have t2:=(jl4 (ps.drop (ps.length-1)++ps.take (ps.length-1))).fm f';have w2:∀p∈ps.drop (ps.length-1)++ps.take (ps.length-1),1<=p.w:=fun p hp=>wp p (by
    rcases xas.mp hp with h | h
    . exact xbB h
    . exact xbc h)
  have t3:=t1.trans t2;rw[jdF fun s hs=>same w0 s (.inl hs),jdF (g:=fK x y z v) (l:=TB _) fun s hs=>same w2 s (.inr hs)] at t3;rw[jpl,<- tt_up hw hz hX];exact t3
theorem RR.dih {m:List Pt} (h:RR l m) (n3:3<=l.length) (n9:l.length<=17):Dih l m:=by
  induction h with
  | refl=>exact Dih.refl n3
  | @rot m k h ih =>
    by_cases c:k<l.length
    . exact ih.rot n9 c
    . rw[jfj m (by have:=h.len; omega)]
      exact ih
  | rev _ ih=>exact ih.rev n9
theorem jes (l:List Pt) (qs:List Pt):RR l (frm qs l):=by
  have t:∀(b:Bool) (m:List Pt),RR m (turn b m):=fun b m=>by
    unfold turn;by_cases c:b=true
    . rw[if_pos c]
      cases m with
      | nil=>exact .refl _
      | cons x r =>
        have z:=RR.rot (l:=x::r) r.reverse.length (.rev (.refl _));rw[xaM,xb4,xb5] at z;exact z
    . rw[if_neg c]
      exact .refl _
  unfold frm;exact (RR.rot (fF qs) (.refl l)).trans (t _ _)
theorem jpm (hq:q.w≠0):jdU ⟨-q.x,-q.y,-q.z,-q.w⟩=jdU q:=by
 unfold jdU;by_cases c:q.w<0
 ·rw[if_pos c,if_neg (show ¬-q.w<0 by omega)]
 ·rw[if_neg c,if_pos (show -q.w<0 by omega)];simp only[xco]
theorem jjk (x y z v:Int) (p:Pt):hgt (-x) (-y) (-z) (-v) p=-hgt x y z v p:=by
 unfold hgt;grind
theorem jl9 (n:Int):sgn (-n)=-sgn n:=by
 unfold sgn
 (repeat' split)<;>omega
theorem jpn {z v:Int} {o:Pt} (hp:1<=p.w) (ho:1<=o.w):ji4 (-x) (-y) (-z) (-v) p o=(ji4 x y z v p o).map fun d=>(d.1,-d.2):=by
 unfold ji4;rw[jjk,jjk,jl9,jl9];have e:-sgn (hgt x y z v p)*-sgn (hgt x y z v o)=sgn (hgt x y z v p)*sgn (hgt x y z v o):=by grind
 rw[e];by_cases c:sgn (hgt x y z v p)*sgn (hgt x y z v o)<0
 ·have w:=jl2 hp ho c;have e2:jdS (-x) (-y) (-z) (-v) p o=⟨-(jdS x y z v p o).x,-(jdS x y z v p o).y,-(jdS x y z v p o).z,-(jdS x y z v p o).w⟩:=by
   unfold jdS;simp only[jjk]
   congr 1<;>grind
  rw[if_pos c,if_pos c,e2,jpm w];rfl
 ·rw[if_neg c,if_neg c];rfl
theorem jpo (l:List (Pt × Int)):kLo l=kHi (l.map fun d=>(d.1,-d.2)):=by
  unfold kLo kHi;induction l with
  | nil=>rfl
  | cons d l ih =>
    rw[xaH];by_cases c:d.2<=0
    . rw[xaW (by exact decide_eq_true c),xaW (by simp only[decide_eq_true_eq];omega),xaH,xaH,ih]
    . rw[xbb (by simp only[decide_eq_true_eq];omega),xbb (by simp only[decide_eq_true_eq];omega),ih]
theorem jnt {z v:Int} (hp:∀p∈ps,1<=p.w):kLo (sdd x y z v ps ps.length)=kHi (sdd (-x) (-y) (-z) (-v) ps ps.length):=by
 rw[jpo]
 congr 1
 unfold sdd;rw[List.map_flatMap];refine jdZ fun i hi=>?_;have hi:=xaF.mp hi;exact (jpn (hp _ (jba (xaR _ (by omega)))) (hp _ (jba hi))).symm
theorem jjl (Z:Sht) (x y z v:Int) (a:Tri):hL Z (-x) (-y) (-z) (-v) a=-hL Z x y z v a:=by
 unfold hL jaH lnA lnB lnC;grind
theorem jnu {c:Nat->Tri} (h:Tp c n) (hi:i<n) (hj:j<n) (hk:k<n) (ij:i≠j) (jk:j≠k) (ik:i≠k):dt (c i) (c j) (c k)≠0:=by
 have s1:∀a b d:Tri,dt a b d=-dt b a d:=fun a b d=>by unfold dt jbE;grind
 have s2:∀a b d:Tri,dt a b d=-dt a d b:=fun a b d=>by unfold dt jbE;grind
 have P:∀{i j k:Nat},i<n->j<n->k<n->i<j->j<k->0<dt (c i) (c j) (c k):=fun _ _ h3 h4 h5=>h _ _ _ h4 h5 h3;rcases xcw ij with a | a<;>rcases xcw jk with b | b<;>rcases xcw ik with d | d
 ·have:=P hi hj hk a b;omega
 ·omega
 ·have:=P hi hk hj d b;have:=s2 (c i) (c j) (c k);omega
 ·have:=P hk hi hj d a;have e1:=s2 (c i) (c j) (c k);have e2:=s1 (c i) (c k) (c j);omega
 ·have:=P hj hi hk a d;have:=s1 (c i) (c j) (c k);omega
 ·have:=P hj hk hi b d;have e1:=s1 (c i) (c j) (c k);have e2:=s2 (c j) (c i) (c k);omega
 ·omega
 ·have:=P hk hj hi b a;have e1:=s1 (c i) (c j) (c k);have e2:=s2 (c j) (c i) (c k);have e3:=s1 (c j) (c k) (c i);omega
theorem jbi (h:i<us.length):pt (us.map (spt Z)) i=spt Z (tr us i):=by
 unfold pt tr;rw[xab,xae,xac h,xab,xac h];rfl
theorem jlc (hw:1<=Z.w) (nz:Z.u.nz) (n3:3<=us.length) (t:TpL us) (hz:∀u∈us,1<=u.z):Tot (us.map (spt Z)):=by
 have ln:(us.map (spt Z)).length=us.length:=xaa _;have W:∀p,p∈us.map (spt Z)->1<=p.w:=fun p hp=>by
  obtain⟨u,hu,rfl⟩:=xao.mp hp;exact jf4 hw (hz u hu)
 refine⟨fun p q r hp hq hr h1 h2=>sf_tr (W p hp) (W q hq) (W r hr) h1 h2,fun i j hi hj ij=>?_⟩;rw[ln] at hi hj;obtain⟨k,hk,jk,ik⟩:=jbe (i:=i) (j:=j) n3;have na:=jdl hw nz (jnu t hi hj hk ij jk ik);rw[jbi hi,jbi hj];apply xal;intro n;rw[not_or,ji2,ji2] at n;refine na (ji3 _ (jf4 hw (hz _ (jdm hj))) ?_ ?_ ?_)
 all_goals
  generalize (spt Z (tr us i)).x*(spt Z (tr us j)).w=a at *
  generalize (spt Z (tr us j)).x*(spt Z (tr us i)).w=a' at *
  generalize (spt Z (tr us i)).y*(spt Z (tr us j)).w=b at *
  generalize (spt Z (tr us j)).y*(spt Z (tr us i)).w=b' at *
  generalize (spt Z (tr us i)).z*(spt Z (tr us j)).w=c at *
  generalize (spt Z (tr us j)).z*(spt Z (tr us i)).w=c' at *
  omega
theorem jpp {m:List Pt} (T:Tot l) (n3:3<=l.length) (n9:l.length<=17) (h:RR l m):frm m m=frm l l:=jna T n3 n9 (h.dih n3 n9)
def bt (h:Tri->Int) (a b:Tri):Tri:=jgA (xp h a b)
theorem jfo {m:Nat} (h:v.bd n) (e:n<=m:=by decide):v.bd m:=⟨Bd.mono h.1 e,Bd.mono h.2.1 e,Bd.mono h.2.2 e⟩
open Classical in
noncomputable def UP (h:Tri->Int) (vs:List Tri):List Tri:=if ∃v∈vs,0<h v then upL h (bt h) vs else []
theorem jeU {a b:Tri} (ha:1<=a.z) (hb:1<=b.z) (o:h a*h b<0):Prp (xp h a b) (bt h a b):=jla (xp_z ha hb o)
theorem jhn (hh:∀v∈vs,0<=h v):upL h X vs=vs:=by
  unfold upL;have e:(prs vs).flatMap (upE h X)=(prs vs).flatMap fun e=>[e.1]:=jdZ fun e he=>by
    obtain⟨m1,m2⟩:=jdE he;unfold upE;rw[if_pos (hh _ m1),if_neg (by have:=xaJ (hh _ m1) (hh _ m2);omega)];rfl
  rw[e];have g:∀(r:List Tri) (x a:Tri),(nxt (x::r) a).flatMap (fun e=>[e.1])=x::r:=fun r=>by
    induction r with
    | nil=>intro x a;rfl
    | cons y r ih =>
      intro x a;show x::(nxt (y::r) a).flatMap (fun e=>[e.1])=_;rw[ih]
  cases vs with
  | nil=>rfl
  | cons x r=>exact g r x x
theorem jbO (hp:∃v∈vs,0<h v):UP h vs=upL h (bt h) vs:=by
 unfold UP;exact if_pos hp
theorem jc0 (hn:¬∃v∈vs,0<h v):UP h vs=[]:=by
 unfold UP;exact if_neg hn
theorem jfp {C:Int} {a b:Tri} (o:jaH A B C a*jaH A B C b<0):jaH A B C (xp (jaH A B C) a b)=0:=by
 have e:jaH A B C (xp (jaH A B C) a b)=ab (jaH A B C b)*jaH A B C a+ab (jaH A B C a)*jaH A B C b:=by
  unfold xp jeR;generalize ab (jaH A B C b)=p;generalize ab (jaH A B C a)=q;unfold jaH;grind
 rw[e];unfold ab;rcases opp_iff.mp o with ⟨p1,p2⟩ | ⟨p1,p2⟩
 ·rw[if_pos p2,if_neg (by omega)];grind
 ·rw[if_neg (by omega),if_pos p1];grind
def InR (vs:List Tri) (p:Tri):Prop:=∀e∈prs vs,0<=dt e.1 e.2 p
structure Rng (vs:List Tri):Prop where
 n3:3<=vs.length
 tp:TpL vs
 hz:∀v∈vs,1<=v.z
theorem jjm {e:Tri × Tri} (he:e∈prs vs):∃i,i<vs.length/\e=(tr vs i,tr vs ((i+1) % vs.length)):=by
 obtain⟨i,hi⟩:=xbL.mp he;have il:i<vs.length:=by have:=(xaj.mp hi).1;rw[jdD] at this;exact this
 rw[jcM t0 il] at hi;exact⟨i,il,(Option.some.inj hi).symm⟩
theorem jma (hi:i<vs.length):(tr vs i,tr vs ((i+1) % vs.length))∈prs vs:=xaC (jcM t0 hi)
theorem jd0 {c:Nat->Tri} (h:Tp c n) (n3:3<=n) (hi:i<n) (hk:k<n) (k1:k≠i) (k2:k≠(i+1) % n):0<dt (c i) (c ((i+1) % n)) (c k):=by
 by_cases w:i+1<n
 ·rw[xai w] at k2 |-
  by_cases q:k<i
  ·rw[<- jcJ];exact h k i (i+1) q (by omega) w
  ·exact h i (i+1) k (by omega) (by omega) hk
 ·have e:i+1=n:=by omega
  rw[e,xbq] at k2 |-
  rw[jcJ];exact h 0 k i (by omega) (by omega) hi
theorem jnv {c:Nat->Tri} (h:Tp c n) (n3:3<=n) (hi:i<n) (hk:k<n):0<=dt (c i) (c ((i+1) % n)) (c k):=by
 by_cases k1:k=i
 ·rw[k1,(jcK _ _).2.2];exact xbm _
 ·by_cases k2:k=(i+1) % n
  ·rw[k2,(jcK _ _).2.1];exact xbm _
  ·exact xbS (jd0 h n3 hi hk k1 k2)
theorem Rng.own (R:Rng vs) (hv:v∈vs):InR vs v:=fun e he=>by
 obtain⟨i,hi,rfl⟩:=jjm he;obtain⟨k,hk,rfl⟩:=jhm hv;exact jnv R.tp R.n3 hi hk
theorem jjn (a b c p:Tri):dt a b c*p.x=dt p b c*a.x+dt a p c*b.x+dt a b p*c.x/\dt a b c*p.y=dt p b c*a.y+dt a p c*b.y+dt a b p*c.y/\dt a b c*p.z=dt p b c*a.z+dt a p c*b.z+dt a b p*c.z:=by
 unfold dt jbE;refine⟨?_,?_,?_⟩<;>grind
theorem jld (A B C:Int) (a b c p:Tri):dt a b c*jaH A B C p=dt p b c*jaH A B C a+dt a p c*jaH A B C b+dt a b p*jaH A B C c:=by
 obtain⟨e1,e2,e3⟩:=jjn a b c p;have e:dt a b c*jaH A B C p=A*(dt a b c*p.x)+B*(dt a b c*p.y)+C*(dt a b c*p.z):=by unfold jaH;grind
 rw[e,e1,e2,e3];unfold jaH;grind
theorem jho {g:Nat->Int}:∀m:Nat,0<=g 1->g (m+2)<=0->∃j,1<=j/\j<=m+1/\0<=g j/\g (j+1)<=0
  | 0,h1,h2=>⟨1,by omega,by omega,h1,h2⟩
  | m + 1, h1, h2 => by
    by_cases c:0<=g (m+2)
    . exact⟨m+2,by omega,by omega,c,h2⟩
    . obtain⟨j,a,b,c1,c2⟩:=jho m h1 (by omega)
      exact⟨j,a,by omega,c1,c2⟩
theorem hull (R:Rng vs) {p:Tri} (hp:InR vs p) (pz:1<=p.z):∃(a b c:Tri) (α β γ D:Int),a∈vs/\b∈vs/\c∈vs/\0<D/\0<=α/\0<=β/\0<=γ/\(0<α\/0<β\/0<γ)/\(D*p.x=α*a.x+β*b.x+γ*c.x/\D*p.y=α*a.y+β*b.y+γ*c.y/\D*p.z=α*a.z+β*b.z+γ*c.z)/\∀A B C:Int,D*jaH A B C p=α*jaH A B C a+β*jaH A B C b+γ*jaH A B C c:=by
 have n3:=R.n3;have m:∀i,i % vs.length<vs.length:=fun i=>xaR _ (by omega);have E:∀i,i<vs.length->0<=dt (tr vs i) (tr vs ((i+1) % vs.length)) p:=fun i hi=>hp _ (jma hi);have g1:0<=dt (tr vs 0) (tr vs 1) p:=by
  have:=E 0 (by omega);rw[xbK,xai (by omega)] at this;exact this
 have g2:dt (tr vs 0) (tr vs (vs.length-3+2)) p<=0:=by
  have:=E (vs.length-1) (by omega);rw[show vs.length-1+1=vs.length by omega,xbq] at this;rw[show vs.length-3+2=vs.length-1 by omega];have sw:dt (tr vs 0) (tr vs (vs.length-1)) p=-dt (tr vs (vs.length-1)) (tr vs 0) p:=by unfold dt jbE;grind
  omega
 obtain⟨j,j1,j2,h1,h2⟩:=jho (g:=fun j=>dt (tr vs 0) (tr vs j) p) (vs.length-3) g1 g2;have jl:j+1<vs.length:=by omega
 have h3:=E j (by omega);rw[xai jl] at h3;have D:=R.tp 0 j (j+1) (by omega) (by omega) jl;have s1:dt p (tr vs j) (tr vs (j+1))=dt (tr vs j) (tr vs (j+1)) p:=jcJ _ _ _;have s2:dt (tr vs 0) p (tr vs (j+1))=-dt (tr vs 0) (tr vs (j+1)) p:=by unfold dt jbE;grind
 have cr:=jjn (tr vs 0) (tr vs j) (tr vs (j+1)) p;refine⟨tr vs 0,tr vs j,tr vs (j+1),dt p (tr vs j) (tr vs (j+1)),dt (tr vs 0) p (tr vs (j+1)),dt (tr vs 0) (tr vs j) p,dt (tr vs 0) (tr vs j) (tr vs (j+1)),jdm (by omega),jdm (by omega),jdm jl,D,by omega,by omega,h1,?_,cr,fun A B C=>jld A B C _ _ _ _⟩;apply xal;intro n;have a0:dt p (tr vs j) (tr vs (j+1))=0:=by omega
 have b0:dt (tr vs 0) p (tr vs (j+1))=0:=by omega
 have c0:dt (tr vs 0) (tr vs j) p=0:=by
  have:0<=dt (tr vs 0) (tr vs j) p:=h1;omega
 have e:=cr.2.2;rw[a0,b0,c0] at e;have:=xan D (show 0<p.z by omega);omega
theorem jjo (R:Rng vs) {p:Tri} (hp:InR vs p) (pz:1<=p.z) {C:Int} (h:∀v∈vs,0<=jaH A B C v):0<=jaH A B C p:=by
 obtain⟨a,b,c,α,β,γ,D,ha,hb,hc,D0,a0,b0,c0,_,_,e⟩:=hull R hp pz;have e:=e A B C;have h1:=xaJ a0 (h a ha);have h2:=xaJ b0 (h b hb);have h3:=xaJ c0 (h c hc);rcases xcv (jaH A B C p) 0 with q | q
 ·have:=xaB D0 q;omega
 ·exact q
theorem jhp (a b p:Tri):dt a b p=jaH (a.y*b.z-a.z*b.y) (a.z*b.x-a.x*b.z) (a.x*b.y-a.y*b.x) p:=rfl
theorem jf8 (hi:i<n):((i+(n-1)) % n+1) % n=i:=by
 by_cases c:i=0
 ·subst c;rw[xbK,xai (show n-1<n by omega),show n-1+1=n by omega,xbq]
 ·rw[show i+(n-1)=i-1+n by omega,xba,xai (show i-1<n by omega),show i-1+1=i by omega,xai hi]
theorem Prp.trans {u w:Tri} (h:Prp u v) (k:Prp v w):Prp u w:=by
 obtain⟨a,b,a0,b0,e1,e2,e3⟩:=h;obtain⟨c,d,c0,d0,f1,f2,f3⟩:=k;refine⟨c*a,b*d,xan c0 a0,xan b0 d0,?_,?_,?_⟩
 ·grind
 ·grind
 ·grind
def OnE (vs:List Tri) (a b:Tri):Prop:=∃e∈prs vs,∃k m:Int,0<k/\0<m/\∀q:Tri,k*dt a b q=m*dt e.1 e.2 q
def Nb (h:Tri->Int) (vs:List Tri) (a b:Tri):Prop:=OnE vs a b\/(h a=0/\h b=0)
theorem Adj.mono {α:Type} {R S:α->α->Prop} (i:∀a b,R a b->S a b):∀{l:List α},Adj R l->Adj S l
 | [],_=>trivial
 | [_],_=>trivial
 | _::b::l,h=>⟨i _ _ h.1,Adj.mono i (l:=b::l) h.2⟩
theorem jle {α:Type} {h:α->Int} {P:α->α->Prop} (l:List α):∀x:α,(0<=h x->Adj (fun x y=>¬(h x<0/\0<h y)/\¬(0<h x/\h y<0)) (x::l)->Adj P (x::l)->Adj (fun a b=>P a b\/(h a=0/\h b=0)) (x::l.filter fun p=>decide (0<=h p))) /\
    (∀y:α,h x=0->h y<0->Adj (fun x y=>¬(h x<0/\0<h y)/\¬(0<h x/\h y<0)) (y::l)->Adj P (y::l)->Adj (fun a b=>P a b\/(h a=0/\h b=0)) (x::l.filter fun p=>decide (0<=h p))):=by
  induction l with
  | nil=>exact fun x=>⟨fun _ _ _=>trivial,fun _ _ _ _ _=>trivial⟩
  | cons z l ih =>
    intro x;refine⟨fun hx c p=>?_,fun y hx hy c p=>?_⟩
    . by_cases hz:0 <= h z
      . rw[xaW (by exact decide_eq_true hz)]
        exact⟨.inl p.1,(ih z).1 hz c.2 p.2⟩
      . rw[xbb (by simpa using hz)]
        have:=c.1;exact (ih x).2 z (by omega) (by omega) c.2 p.2
    . by_cases hz:0 <= h z
      . rw[xaW (by exact decide_eq_true hz)]
        have:=c.1;exact⟨.inr ⟨hx,by omega⟩,(ih z).1 hz c.2 p.2⟩
      . rw[xbb (by simpa using hz)]
        exact (ih x).2 z hx (by omega) c.2 p.2
theorem jmb {α:Type} {R:α->α->Prop}:∀{l:List α},Adj R l->∀e∈op l,R e.1 e.2
  | [],_,e,he=>by cases he
  | [_],_,e,he=>by cases he
  | a :: b :: l, h, e, he => by
    rcases xaG.mp (show e∈(a,b)::op (b::l) from he) with q | q
    . rw[q];exact h.1
    . exact jmb (l:=b::l) h.2 e q
theorem jpq {α:Type} (x:α) (r:List α):prs (x::r)=op (x::r++[x]):=jhi x (x::r)
theorem jpr (hX:∀a b,a∈vs->b∈vs->h a*h b<0->Prp (xp h a b) (X a b)):∀(r:List Tri) (x a:Tri),x∈vs->a∈vs->(∀v∈r,v∈vs)->(∀e∈nxt (x::r) a,e∈prs vs)->∃w,(nxt (x::r) a).flatMap (agE h X)=x::w/\Adj (OnE vs) (x::w++[a]):=by
  have one:∀x y,x∈vs->y∈vs->(x,y)∈prs vs->Adj (OnE vs) (agE h X (x,y)++[y]):=fun x y hx hy he=>by
    unfold agE;by_cases o:h x*h y<0
    . obtain⟨k,m,k0,m0,e1,e2,e3⟩:=hX x y hx hy o
      obtain⟨n1,n2,_,_⟩:=jcZ o;have p1:=jbC n1;have p2:=jbC n2;simp only[if_pos o];have lin:∀(a b:Tri),(∀q:Tri,m*dt a (X x y) q=k*dt a (xp h x y) q)/\∀q:Tri,m*dt (X x y) b q=k*dt (xp h x y) b q:=fun a b=>by
        generalize X x y=v at *
        generalize xp h x y=u at *
        refine⟨fun q=>?_,fun q=>?_⟩
        . have:∀(c:Int) (u:Tri),c*dt a u q=dt a ⟨c*u.x,c*u.y,c*u.z⟩ q:=fun c u=>by unfold dt jbE; grind
          rw[this,this,e1,e2,e3]
        . have:∀(c:Int) (u:Tri),c*dt u b q=dt ⟨c*u.x,c*u.y,c*u.z⟩ b q:=fun c u=>by unfold dt jbE; grind
          rw[this,this,e1,e2,e3]
      have f1:∀q,dt x (xp h x y) q=ab (h x)*dt x y q:=fun q=>by
        unfold xp;rw[jgz,(jcK x q).1];grind
      have f2:∀q,dt (xp h x y) y q=ab (h y)*dt x y q:=fun q=>by
        unfold xp;rw[ji8,(jcK y q).1];grind
      refine⟨⟨(x,y),he,m,k*ab (h x),m0,xan k0 p1,fun q=>by rw[(lin x y).1 q,f1 q];grind⟩,⟨(x,y),he,m,k*ab (h y),m0,xan k0 p2,fun q=>by rw[(lin x y).2 q,f2 q];grind⟩,trivial⟩
    . simp only[if_neg o]
      exact⟨⟨(x,y),he,1,1,by decide,by decide,fun _=>rfl⟩,trivial⟩
  intro r;induction r with
  | nil =>
    intro x a hx ha _ he;refine⟨if h x*h a<0 then [X x a] else [],?_,one x a hx ha (he _ (by simp [nxt]))⟩;show agE h X (x,a)++[]=_;rw[xaP];rfl
  | cons y r ih =>
    intro x a hx ha hr he;obtain⟨w,e1,e2⟩:=ih y a (hr y (by simp)) ha (fun v hv=>hr v (xat _ hv)) fun e h'=>he e (by simp [nxt,h']);refine⟨(if h x*h y<0 then [X x y] else [])++y::w,?_,?_⟩
    . show agE h X (x,y)++(nxt (y::r) a).flatMap (agE h X)=_
      rw[e1];rfl
    . have g:=Adj.glue (l:=agE h X (x,y)) (x:=y) (m:=w++[a]) (one x y hx (hr y (by simp)) (he _ (by simp [nxt]))) e2
      have e:x::((if h x*h y<0 then [X x y] else [])++y::w)++[a]=agE h X (x,y)++y::(w++[a]):=by
        unfold agE;simp
      rw[e];exact g
theorem prs_rot_mem {α:Type} {l m:List α} {e:α × α}:e∈prs (l++m)↔e∈prs (m++l):=by
 have z:=jdC (l++m) l.length;rw[xb4,xb5] at z;rw[z,xas,Or.comm,<- xas,xa1]
theorem jps {C:Int} (hz:∀v∈vs,1<=v.z) (hX:∀a b,a∈vs->b∈vs->jaH A B C a*jaH A B C b<0->Prp (xp (jaH A B C) a b) (X a b)) (up:∃v∈vs,0<jaH A B C v):∀e∈prs (upL (jaH A B C) X vs),Nb (jaH A B C) vs e.1 e.2:=by
  have x0:=fun a b ha hb o=>jfm (hX a b ha hb o) (jfp (A:=A) (B:=B) (C:=C) o);obtain⟨u,hu,pu⟩:=up;rw[<- ag_up x0]
  match vs,hz,hX,x0,hu with
  | x :: r, hz, hX, x0, hu =>
    obtain⟨w,e1,e2,_⟩:=jpi (h:=jaH A B C) (X:=X) (S:=fun v=>v∈x::r) hz (fun a b ha hb o=>⟨hX a b ha hb o,x0 a b ha hb o⟩) (a:=x) (by simp) r x (by simp) fun v hv=>xat _ hv;obtain⟨w',e1',e3⟩:=jpr (h:=jaH A B C) hX r x x (by simp) (by simp) (fun v hv=>xat _ hv) fun e he=>he;have ww:w'=w:=by
      have:=e1'.symm.trans e1;injection this
    subst ww;have eA:agL (jaH A B C) X (x::r)=x::w':=e1;have um:u∈x::w':=by
      rw[<- eA];obtain⟨i,hi,rfl⟩:=jhm hu;refine xbF.mpr ⟨_,xaC (jcM t0 hi),?_⟩;exact xa0
    obtain⟨l1,l2,el⟩:=List.append_of_mem um;rw[eA,el];have rotA:∀{R:Tri->Tri->Prop},Adj R (x::w'++[x])->Adj R (u::(l2++l1)++[u]):=fun {R} c=>by
      have c1:Adj R (l1++u::(l2++[x])):=by
        have e2:x::w'++[x]=l1++u::(l2++[x]):=by rw[el];simp
        rw[<- e2];exact c
      cases l1 with
      | nil =>
        have:x=u:=by injection el
        subst this;simpa using c1
      | cons x' l1 =>
        have:x=x':=by injection el
        subst this;have g:=Adj.glue (l:=u::l2) (x:=x) (m:=l1++[u]) c1.right c1.left;simpa using g
    have a1:=rotA e2;have a2:=rotA e3;have a1':Adj (fun x y=>¬(jaH A B C x<0/\0<jaH A B C y)/\¬(0<jaH A B C x/\jaH A B C y<0)) (u::((l2++l1)++[u])):=a1;have a2':Adj (OnE (x::r)) (u::((l2++l1)++[u])):=a2;have f:=(jle (h:=jaH A B C) (P:=OnE (x::r)) ((l2++l1)++[u]) u).1 (by omega) a1' a2';rw[xaq,xaW (by exact decide_eq_true (show 0<=jaH A B C u by omega)),List.filter_nil] at f;intro e he;have he':e∈prs (u::(l2++l1).filter fun p=>decide (0<=jaH A B C p)):=by
      rw[xaq,xaW (by exact decide_eq_true (show 0<=jaH A B C u by omega))] at he;have z:=prs_rot_mem.mp he;rw[xaq];exact z
    rw[jpq] at he';exact jmb f e he'
theorem jf9 {C:Int} {a b:Tri} (ha:jaH A B C a=0) (hb:jaH A B C b=0) (q u:Tri):dt a b q*jaH A B C u=jaH A B C q*dt a b u:=by
 unfold jaH at *
 unfold dt jbE;grind
theorem jhZ {C:Int} (R:Rng vs) (hX:∀a b,a∈vs->b∈vs->jaH A B C a*jaH A B C b<0->Prp (xp (jaH A B C) a b) (X a b)) (up:∃v∈vs,0<jaH A B C v):Rng (upL (jaH A B C) X vs)/\∀p:Tri,1<=p.z->(InR (upL (jaH A B C) X vs) p↔InR vs p/\0<=jaH A B C p):=by
 have N:=jps R.hz hX up;have x0:=fun a b ha hb o=>jfm (hX a b ha hb o) (jfp (A:=A) (B:=B) (C:=C) o);have R2:Rng (upL (jaH A B C) X vs):=by
  obtain⟨u,hu,pu⟩:=up;obtain⟨i,hi,rfl⟩:=jhm hu;refine⟨jnm hX R.n3 hi pu,up_tp hX R.n3 R.tp,fun v hv=>?_⟩;rcases jhl hv with ⟨h,_⟩ | ⟨a,b,ha,hb,o,rfl⟩
  ·exact R.hz v h
  ·exact (hX a b ha hb o).z (xp_z (R.hz a ha) (R.hz b hb) o)
 have inn:∀v∈upL (jaH A B C) X vs,InR vs v/\0<=jaH A B C v:=fun v hv=>by
  rcases jhl hv with ⟨h,h0⟩ | ⟨a,b,ha,hb,o,rfl⟩
  ·exact⟨R.own h,h0⟩
  ·refine⟨fun e he=>?_,by rw[x0 a b ha hb o];exact xbm _⟩;obtain⟨k,m,k0,m0,e1,e2,e3⟩:=hX a b ha hb o;obtain⟨n1,n2,_,_⟩:=jcZ o;have p1:=jbC n1;have p2:=jbC n2;have f1:=R.own ha e he;have f2:=R.own hb e he;have f3:dt e.1 e.2 (xp (jaH A B C) a b)=ab (jaH A B C b)*dt e.1 e.2 a+ab (jaH A B C a)*dt e.1 e.2 b:=by unfold xp;exact jf5 ..
   have f4:m*dt e.1 e.2 (X a b)=k*dt e.1 e.2 (xp (jaH A B C) a b):=by
    rw[jhp,jhp];exact (jgB e1 e2 e3).symm
   have g1:=xaJ (xbS p2) f1;have g2:=xaJ (xbS p1) f2;have g3:=xaJ (xbS k0) (show 0<=dt e.1 e.2 (xp (jaH A B C) a b) by omega);rw[<- f4] at g3;rcases xcv (dt e.1 e.2 (X a b)) 0 with q | q
   ·have:=xaB m0 q;omega
   ·exact q
 refine⟨R2,fun p pz=>⟨fun hp=>⟨fun e he=>?_,?_⟩,fun ⟨hp,h0⟩ e he=>?_⟩⟩
 ·rw[jhp];exact jjo R2 hp pz fun v hv=>by rw[<- jhp];exact (inn v hv).1 e he
 ·exact jjo R2 hp pz fun v hv=>(inn v hv).2
 ·rcases N e he with ⟨e',he',k,m,k0,m0,eq⟩ | ⟨z1,z2⟩
  ·have g:=xaJ (xbS m0) (hp e' he');rw[<- eq p] at g;rcases xcv (dt e.1 e.2 p) 0 with q | q
   ·have:=xaB k0 q;omega
   ·exact q
  ·obtain⟨u,hu,pu⟩:=up;have um:u∈upL (jaH A B C) X vs:=by
    obtain⟨i,hi,rfl⟩:=jhm hu;refine xbF.mpr ⟨_,jma hi,?_⟩;unfold upE;rw[if_pos (by show 0<=jaH A B C (tr vs i);omega)];exact xaY _ (by simp)
   have l:=jf9 z1 z2 p u;have g:=xaJ h0 (R2.own um e he);rw[<- l] at g;rcases xcv (dt e.1 e.2 p) 0 with q | q
   ·have:=xa6 q pu;omega
   ·exact q
structure Ln where
 A:Int
 B:Int
 C:Int
def hf (l:Ln):Tri->Int:=jaH l.A l.B l.C
theorem jca {l:Ln} (R:Rng vs) (up:∃v∈vs,0<hf l v):Rng (UP (hf l) vs)/\∀p:Tri,1<=p.z->(InR (UP (hf l) vs) p↔InR vs p/\0<=hf l p):=by
 rw[jbO up];exact jhZ R (fun a b ha hb o=>jeU (R.hz a ha) (R.hz b hb) o) up
theorem Rng.ne (R:Rng us):us≠[]:=fun e=>by have:=R.n3;rw[e] at this;simp at this
theorem jnw (hv:v∈upL h X vs):(v∈vs/\0<=h v)\/∃e∈prs vs,h e.1*h e.2<0/\v=X e.1 e.2:=by
 obtain⟨e,he,hv⟩:=xbF.mp hv;unfold upE at hv;rcases xas.mp hv with h1 | h1
 ·by_cases c:0<=h e.1
  ·rw[if_pos c,xar] at h1;subst h1;exact .inl ⟨(jdE he).1,c⟩
  ·rw[if_neg c] at h1;cases h1
 ·by_cases c:h e.1*h e.2<0
  ·rw[if_pos c,xar] at h1;exact .inr ⟨e,he,c,h1⟩
  ·rw[if_neg c] at h1;cases h1
structure BI (b:Nat) (vs:List Tri):Prop where
 ed:∀e∈prs vs,∃l:Ln,Bd b l.A/\Bd b l.B/\Bd b l.C/\hf l e.1=0/\hf l e.2=0/\∃q,hf l q≠0
 vb:∀v∈vs,v.bd (b+b+1)
theorem jjp (hz:1<=v.z):gl [(jgA v).x,(jgA v).y,(jgA v).z]=1:=by
 have g0:0<gl [v.x,v.y,v.z]:=jdL (n:=v.z) (by simp) (by omega);have d:∀n∈[v.x,v.y,v.z],gl [v.x,v.y,v.z]*(n / gl [v.x,v.y,v.z])=n:=fun n hn=>xbd (jaX hn);have e:=jlY g0 [(jgA v).x,(jgA v).y,(jgA v).z];have e2:[(jgA v).x,(jgA v).y,(jgA v).z].map (gl [v.x,v.y,v.z]*·)=[v.x,v.y,v.z]:=by
  simp only[xaH,xcr,jgA];rw[d v.x (by simp),d v.y (by simp),d v.z (by simp)]
 rw[e2] at e;have:gl [v.x,v.y,v.z]*(gl [(jgA v).x,(jgA v).y,(jgA v).z]-1)=0:=by rw[Int.mul_sub];omega
 rcases xax.mp this with q | q<;>omega
theorem prim3 {z b:Int} (g:gl [x,y,z]=1) (n:¬(a=0/\b=0/\c=0)) (h1:a*y=b*x) (h2:b*z=c*y) (h3:a*z=c*x):x.natAbs<=a.natAbs/\y.natAbs<=b.natAbs/\z.natAbs<=c.natAbs:=by
 have dv:∀{k m:Int},k ∣ m*x->k ∣ m*y->k ∣ m*z->k ∣ m:=fun {k m} d1 d2 d3=>by
  have:=jer [x,y,z] 0 k m (by rw[xbk];exact Int.dvd_zero k) (fun q hq=>by
   simp only[xaG,xbH,or_false] at hq;rcases hq with rfl | rfl | rfl
   ·exact d1
   ·exact d2
   ·exact d3)
  have e:m*G 0 [x,y,z]=m:=by
   show m*gl [x,y,z]=m;rw[g,xbY]
  rw[e] at this;exact this
 have le:∀{k m:Int},k ∣ m->(m=0->k=0)->k.natAbs<=m.natAbs:=fun {k m} d z=>by
  by_cases m0:m=0
  ·rw[z m0,m0];exact xag _
  ·exact Nat.le_of_dvd (by omega) (xcj.mpr d)
 have kz:∀{p q:Int},p≠0->p*q=0->q=0:=fun hp h=>(xax.mp h).resolve_left hp;refine⟨le (dv ⟨a,by rw[xbi]⟩ ⟨b,by rw[h1,xbi]⟩ ⟨c,by rw[h3,xbi]⟩) fun e=>?_,le (dv ⟨a,by rw[<- h1,xbi]⟩ ⟨b,by rw[xbi]⟩ ⟨c,by rw[h2,xbi]⟩) fun e=>?_,le (dv ⟨a,by rw[<- h3,xbi]⟩ ⟨b,by rw[<- h2,xbi]⟩ ⟨c,by rw[xbi]⟩) fun e=>?_⟩
 ·subst e;rw[xbj] at h1 h3;by_cases b0:b=0
  ·exact kz (show c≠0 from fun q=>n ⟨rfl,b0,q⟩) h3.symm
  ·exact kz b0 h1.symm
 ·subst e;rw[xbj] at h1 h2;by_cases a0:a=0
  ·exact kz (show c≠0 from fun q=>n ⟨a0,rfl,q⟩) h2.symm
  ·exact kz a0 h1
 ·subst e;rw[xbj] at h2 h3;by_cases a0:a=0
  ·exact kz (show b≠0 from fun q=>n ⟨a0,q,rfl⟩) h2
  ·exact kz a0 h3
theorem BI.up {b:Nat} {l:Ln} (R:Rng vs) (I:BI b vs) (lA:Bd b l.A) (lB:Bd b l.B) (lC:Bd b l.C) (up:∃v∈vs,0<hf l v):BI b (UP (hf l) vs):=by
 rw[jbO up];have hX:∀a b,a∈vs->b∈vs->hf l a*hf l b<0->Prp (xp (hf l) a b) (bt (hf l) a b):=fun a b ha hb o=>jeU (R.hz a ha) (R.hz b hb) o;have N:=jps (A:=l.A) (B:=l.B) (C:=l.C) R.hz hX up;refine⟨fun e he=>?_,fun v hv=>?_⟩
 ·rcases N e he with ⟨e',he',k,m,k0,m0,eq⟩ | ⟨z1,z2⟩
  ·obtain⟨l',b1,b2,b3,q1,q2,nz⟩:=I.ed e' he';obtain⟨i,hi,rfl⟩:=jjm he';have n3:=R.n3;obtain⟨j,hj,j1,j2⟩:=jbe (n:=vs.length) (i:=i) (j:=(i+1) % vs.length) n3;have pos:=jd0 R.tp n3 hi hj (Ne.symm j2) (Ne.symm j1);have on:∀a:Tri,dt e.1 e.2 a=0->hf l' a=0:=fun a ha=>by
    have h1:=eq a;rw[ha,xbk] at h1;have h2:=(xax.mp h1.symm).resolve_left (by omega);have h3:=jf9 q1 q2 a (tr vs j);simp only at h2 h3;rw[h2,xbj] at h3;exact (xax.mp h3.symm).resolve_right (by omega)
   exact⟨l',b1,b2,b3,on _ (jcK _ _).2.2,on _ (jcK _ _).2.1,nz⟩
  ·obtain⟨u,_,pu⟩:=up;exact⟨l,lA,lB,lC,z1,z2,u,by omega⟩
 ·rcases jnw hv with ⟨h,_⟩ | ⟨e,he,o,rfl⟩
  ·exact I.vb v h
  ·obtain⟨l',b1,b2,b3,q1,q2,⟨q,nz⟩⟩:=I.ed e he;obtain⟨m1,m2⟩:=jdE he;have xz:=xp_z (h:=hf l) (R.hz _ m1) (R.hz _ m2) o;have p:=hX _ _ m1 m2 o;have r1:hf l (bt (hf l) e.1 e.2)=0:=jfm p (jfp o);have r2:hf l' (bt (hf l) e.1 e.2)=0:=jfm p (by
    unfold xp jeR;have:jaH l'.A l'.B l'.C e.1=0:=q1;have:jaH l'.A l'.B l'.C e.2=0:=q2;generalize ab (hf l e.2)=s at *
    generalize ab (hf l e.1)=t at *
    unfold jaH at *
    grind)
   have g:=jjp xz;have ne:¬(l'.B*l.C-l'.C*l.B=0/\l'.C*l.A-l'.A*l.C=0/\l'.A*l.B-l'.B*l.A=0):=fun ⟨z1,z2,z3⟩=>by
    have k1:hf l e.1*hf l' q=hf l' e.1*hf l q:=by
     unfold hf jaH;grind
    rw[q1,xbj] at k1;rcases xax.mp k1 with w | w
    ·exact (jcZ o).1 w
    ·exact nz w
   change jaH _ _ _ _=0 at r1 r2;have gg:gl [(bt (hf l) e.1 e.2).x,(bt (hf l) e.1 e.2).y,(bt (hf l) e.1 e.2).z]=1:=g;generalize bt (hf l) e.1 e.2=w at r1 r2 gg |-
   unfold jaH at r1 r2;obtain⟨c1,c2,c3⟩:=prim3 gg ne (by grind) (by grind) (by grind);have cb:∀{i j k m:Int},Bd b i->Bd b j->Bd b k->Bd b m->Bd (b+b+1) (i*j-k*m):=fun h1 h2 h3 h4=>Bd.sub (Bd.mul h1 h2) (Bd.mul h3 h4);exact⟨jm9 c1 (cb b2 lC b3 lB),jm9 c2 (cb b3 lA b1 lC),jm9 c3 (cb b1 lB b2 lA)⟩
structure VF (vs:List Tri):Prop where
 rg:Rng vs
 bi:BI 110 vs
theorem jhq {l:Ln} (R:Rng vs):(UP (hf l) vs).length<=vs.length+1:=by
 by_cases up:∃v∈vs,0<hf l v
 ·rw[jbO up];exact jnn (fun a b ha hb o=>jeU (R.hz a ha) (R.hz b hb) o) R.tp
 ·rw[jc0 up];exact xaO _
theorem VF.up {l:Ln} (F:VF vs) (lA:Bd 110 l.A) (lB:Bd 110 l.B) (lC:Bd 110 l.C) (up:∃v∈vs,0<hf l v):VF (UP (hf l) vs):=⟨(jca F.rg up).1,F.bi.up F.rg lA lB lC up⟩
theorem VF.six (R:Rng vs) (b:∀v∈vs,v.bd 6):VF vs:=by
 refine⟨R,fun e he=>?_,fun v hv=>jfo (b v hv)⟩;obtain⟨m1,m2⟩:=jdE he;obtain⟨i,hi,rfl⟩:=jjm he;have n3:=R.n3;obtain⟨j,hj,j1,j2⟩:=jbe (n:=vs.length) (i:=i) (j:=(i+1) % vs.length) n3;have pos:=jd0 R.tp n3 hi hj (Ne.symm j2) (Ne.symm j1);have b1:=b _ m1;have b2:=b _ m2;simp only at b1 b2 pos |-
 generalize tr vs i=a at *
 generalize tr vs ((i+1) % vs.length)=c at *
 have cb:∀{i j k m:Int},Bd 6 i->Bd 6 j->Bd 6 k->Bd 6 m->Bd 110 (i*j-k*m):=fun h1 h2 h3 h4=>Bd.mono (n:=13) (Bd.sub (n:=12) (Bd.mul h1 h2) (Bd.mul h3 h4));refine⟨⟨a.y*c.z-a.z*c.y,a.z*c.x-a.x*c.z,a.x*c.y-a.y*c.x⟩,cb b1.2.1 b2.2.2 b1.2.2 b2.2.1,cb b1.2.2 b2.1 b1.1 b2.2.2,cb b1.1 b2.2.1 b1.2.1 b2.1,(jcK a c).2.2,(jcK a c).2.1,tr vs j,?_⟩;have:hf ⟨a.y*c.z-a.z*c.y,a.z*c.x-a.x*c.z,a.x*c.y-a.y*c.x⟩ (tr vs j)=dt a c (tr vs j):=rfl;omega
def BdAt (H:Hp) (Z:Sht) (r:Addr) (us:List Tri):Prop:=∃rs:List Addr,H r=some (.tup (rs.map V.ref))/\Sps H rs (frm (us.map (spt Z)) (us.map (spt Z)))
theorem BdAt.keep (h:BdAt H Z r us) (s:SameT H H'):BdAt H' Z r us:=by
 obtain⟨rs,h1,h2⟩:=h;exact⟨rs,s _ _ h1,h2.keep s⟩
def PtAt (H:Hp) (Z:Sht) (f:V) (us:List Tri):Prop:=(us=[]/\f=.non)\/(us≠[]/\∃r:Addr,f=.ref r/\BdAt H Z r us)
def jcj (Z:Sht) (p:Pt):Ln:=⟨lnA Z p.x p.y p.z,lnB Z p.x p.y p.z,lnC Z p.x p.y p.z p.w⟩
theorem jhr {K:List Pt} (R:Rng us) (n17:us.length<=17) (hw:1<=Z.w) (nz:Z.u.nz) (r:RR (us.map (spt Z)) K):frm K K=frm (us.map (spt Z)) (us.map (spt Z)):=by
 have ln:(us.map (spt Z)).length=us.length:=xaa _;have n3:=R.n3;exact jpp (jlc hw nz R.n3 R.tp R.hz) (by omega) (by omega) r
theorem jhs {E:XK} {b g:Addr} (F:VF vs) (hw:1<=Z.w) (nz:Z.u.nz) (n16:vs.length<=16) (bs:∀u∈vs,(spt Z u).bd 252) (bp:p.bd 100) (bA:Bd 110 (jcj Z p).A) (bB:Bd 110 (jcj Z p).B) (bC:Bd 110 (jcj Z p).C)
  (hb:BdAt H Z b vs) (hg:Is4 H g p)
  (q:∀(t:Addr) (H':Hp) (f0 f1:V),Same H H'->H' t=some (.tup [f0,f1])->PtAt H' Z f0 (UP (hf (jcj Z ⟨-p.x,-p.y,-p.z,-p.w⟩)) vs)->PtAt H' Z f1 (UP (hf (jcj Z p)) vs)->Q (.ref t) H'):jeQ [.ref b,.ref g] H Q E:=by
 obtain⟨rs,hb,hs⟩:=hb;obtain⟨x,y,z,v⟩:=p;obtain⟨bx,by',bz,bv⟩:=bp;have r:RR (vs.map (spt Z)) (frm (vs.map (spt Z)) (vs.map (spt Z))):=jes _ _;have hs0:=hs;generalize ep:frm (vs.map (spt Z)) (vs.map (spt Z))=ps at r hs;have ln:(vs.map (spt Z)).length=vs.length:=xaa _;have pl:ps.length=vs.length:=by rw[r.len,ln]
 have n3:=F.rg.n3;have mem:∀i,i<ps.length->∃u∈vs,pt ps i=spt Z u:=fun i hi=>by
  obtain⟨u,hu,e⟩:=xao.mp (r.mem.mp (jba hi));exact⟨u,hu,e.symm⟩
 have mem':∀u∈vs,∃i,i<ps.length/\pt ps i=spt Z u:=fun u hu=>jhd (r.mem.mpr (xao.mpr ⟨u,hu,rfl⟩));have hz:=F.rg.hz;have sg:=fun u (hu:u∈vs)=>jb4 (x:=x) (y:=y) (z:=z) (v:=v) (Z:=Z) (a:=u) hw (hz u hu);have wp:∀p∈ps,1<=p.w:=fun p hp=>by
  obtain⟨u,hu,e⟩:=xao.mp (r.mem.mp hp);rw[<- e];exact jf4 hw (hz u hu)
 have hX:∀{x y z v:Int},∀a b,a∈vs->b∈vs->hL Z x y z v a*hL Z x y z v b<0->Prp (xp (hL Z x y z v) a b) (bt (hL Z x y z v) a b):=fun {x y z v} a b ha hb o=>jeU (hz a ha) (hz b hb) o;have eh:hf (jcj Z ⟨x,y,z,v⟩)=hL Z x y z v:=rfl;have eh':hf (jcj Z ⟨-x,-y,-z,-v⟩)=hL Z (-x) (-y) (-z) (-v):=rfl;rw[eh'] at q;change ∀(t:Addr) (H':Hp) (f0 f1:V),Same H H'->H' t=some (.tup [f0,f1])->PtAt H' Z f0 (UP (hL Z (-x) (-y) (-z) (-v)) vs)->PtAt H' Z f1 (UP (hL Z x y z v) vs)->Q (.ref t) H' at q;have ng:∀u,hL Z (-x) (-y) (-z) (-v) u=-hL Z x y z v u:=fun u=>jjl ..;have ne:vs≠[]:=F.rg.ne;refine⟨100,252,b,g,rs,ps,x,y,z,v,rfl,by decide,hb,hs,by omega,by omega,fun i hi=>?_,hg.1,bx,by',bz,bv,?_⟩
 ·obtain⟨u,hu,e⟩:=mem i hi;rw[e];exact⟨bs u hu,jf4 hw (hz u hu)⟩
 by_cases up:∃u∈vs,0<hL Z x y z v u
 ·obtain⟨u,hu,pu⟩:=up;obtain⟨i,hi,ei⟩:=mem' u hu;by_cases dn:∃u∈vs,hL Z x y z v u<0
  ·obtain⟨d,hd,pd⟩:=dn;obtain⟨j,hj,ej⟩:=mem' d hd;have up':∃u∈vs,0<hf (jcj Z ⟨x,y,z,v⟩) u:=⟨u,hu,pu⟩;have dn':∃u∈vs,0<hf (jcj Z ⟨-x,-y,-z,-v⟩) u:=⟨d,hd,by
    show 0<hL Z (-x) (-y) (-z) (-v) d;rw[jjl];omega⟩
   have F1:=(jca F.rg up').1;have F2:=(jca F.rg dn').1;have l3:=jhq (l:=jcj Z ⟨x,y,z,v⟩) F.rg;have l4:=jhq (l:=jcj Z ⟨-x,-y,-z,-v⟩) F.rg;have a1:=F1.n3;have a3:=F2.n3;have R1:=jf7 hw hz hX r (x:=x) (y:=y) (z:=z) (v:=v);have R2:=jf7 hw hz hX r (x:=-x) (y:=-y) (z:=-z) (v:=-v);rw[<- jnt wp] at R2;have l1:=R1.len;have l2:=R2.len;rw[xaa] at l1 l2;rw[jbO up'] at F1 l3 a1;rw[jbO dn'] at F2 l4 a3;change Rng (upL (hL Z x y z v) (bt (hL Z x y z v)) vs) at F1;change (upL (hL Z x y z v) (bt (hL Z x y z v)) vs).length<=_ at l3;change 3<=(upL (hL Z x y z v) (bt (hL Z x y z v)) vs).length at a1;change (upL (hL Z (-x) (-y) (-z) (-v)) (bt (hL Z (-x) (-y) (-z) (-v))) vs).length<=_ at l4;change 3<=(upL (hL Z (-x) (-y) (-z) (-v)) (bt (hL Z (-x) (-y) (-z) (-v))) vs).length at a3;refine .inr (.inr (.inr ⟨⟨i,hi,by rw[ei];exact (sg u hu).1.mpr pu⟩,⟨j,hj,by rw[ej];exact (sg d hd).2.mpr pd⟩,by omega,by omega,by omega,by omega,fun t H' c1 c2 r1 r2 s' e1 e2 h2 e3 h3=>?_⟩));refine q t H' _ _ s' e1 (.inr ⟨?_,c1,rfl,r1,e2,?_⟩) (.inr ⟨?_,c2,rfl,r2,e3,?_⟩)
   ·rw[jbO (show ∃u∈vs,0<hL Z (-x) (-y) (-z) (-v) u from dn')];exact F2.ne
   ·rw[jbO (show ∃u∈vs,0<hL Z (-x) (-y) (-z) (-v) u from dn'),<- jhr (show Rng (upL (hL Z (-x) (-y) (-z) (-v)) (bt (hL Z (-x) (-y) (-z) (-v))) vs) from F2) (by omega) hw nz R2];exact h2
   ·rw[jbO ⟨u,hu,pu⟩];exact F1.ne
   ·rw[jbO ⟨u,hu,pu⟩,<- jhr F1 (by omega) hw nz R1];exact h3
  ·refine .inr (.inl ⟨fun k hk=>?_,⟨i,hi,by rw[ei];exact (sg u hu).1.mpr pu⟩,fun t H' s' e'=>q t H' _ _ s' e' (.inl ⟨jc0 fun ⟨c,hc,h⟩=>dn ⟨c,hc,by rw[ng] at h;omega⟩,rfl⟩) (.inr ⟨?_,b,rfl,rs,s' _ _ hb,?_⟩)⟩)
   ·obtain⟨c,hc,e⟩:=mem k hk;rw[e];have:=(sg c hc).2;have:¬hL Z x y z v c<0:=fun h=>dn ⟨c,hc,h⟩;omega
   ·rw[jbO ⟨u,hu,pu⟩,jhn fun c hc=>by
     have:¬hL Z x y z v c<0:=fun h=>dn ⟨c,hc,h⟩;omega]
    exact ne
   ·rw[jbO ⟨u,hu,pu⟩,jhn fun c hc=>by
     have:¬hL Z x y z v c<0:=fun h=>dn ⟨c,hc,h⟩;omega]
    exact hs0.keep s'.t
 ·have z0:UP (hL Z x y z v) vs=[]:=jc0 up;by_cases dn:∃u∈vs,hL Z x y z v u<0
  ·obtain⟨d,hd,pd⟩:=dn;obtain⟨j,hj,ej⟩:=mem' d hd;refine .inr (.inr (.inl ⟨fun k hk=>?_,⟨j,hj,by rw[ej];exact (sg d hd).2.mpr pd⟩,fun t H' s' e'=>q t H' _ _ s' e' (.inr ⟨?_,b,rfl,rs,s' _ _ hb,?_⟩) (.inl ⟨z0,rfl⟩)⟩));rotate_left
   ·rw[jbO ⟨d,hd,by rw[ng];omega⟩,jhn fun c hc=>by
     have:¬0<hL Z x y z v c:=fun h=>up ⟨c,hc,h⟩;rw[ng];omega]
    exact ne
   ·rw[jbO ⟨d,hd,by rw[ng];omega⟩,jhn fun c hc=>by
     have:¬0<hL Z x y z v c:=fun h=>up ⟨c,hc,h⟩;rw[ng];omega]
    exact hs0.keep s'.t
   obtain⟨c,hc,e⟩:=mem k hk;rw[e];have:=(sg c hc).1;have:¬0<hL Z x y z v c:=fun h=>up ⟨c,hc,h⟩;omega
  ·refine .inl ⟨fun k hk=>?_,fun t H' s' e'=>q t H' _ _ s' e' (.inl ⟨jc0 fun ⟨c,hc,h⟩=>dn ⟨c,hc,by rw[ng] at h;omega⟩,rfl⟩) (.inl ⟨z0,rfl⟩)⟩;obtain⟨c,hc,e⟩:=mem k hk;rw[e];have h1:=(sg c hc).1;have h2:=(sg c hc).2;have:¬0<hL Z x y z v c:=fun h=>up ⟨c,hc,h⟩;have:¬hL Z x y z v c<0:=fun h=>dn ⟨c,hc,h⟩;omega
def PlOk (Z:Sht) (p:Pt):Prop:=p.bd 100/\Bd 110 (jcj Z p).A/\Bd 110 (jcj Z p).B/\Bd 110 (jcj Z p).C
theorem jht (hw:1<=Z.w) (nz:Z.u.nz) (R:Rng vs) (n8:vs.length<=8):Brd (vs.map (spt Z)):=by
 have ln:(vs.map (spt Z)).length=vs.length:=xaa _;have n3:=R.n3;have pl:∀a,a<vs.length->(tr vs a).pl:=fun a ha=>R.hz _ (jdm ha);have d012:=R.tp 0 1 2 (by decide) (by decide) (by omega);refine⟨by omega,by omega,?_,?_,?_⟩
 ·rw[jbi (by omega),jbi (by omega),jbi (by omega)];exact jdl hw nz (by omega)
 ·intro i hi;rw[jbi (by omega),jbi (by omega),jbi (by omega),jbi (by omega)];exact jkY hw (pl _ (by omega)) (pl _ (by omega)) (pl _ (by omega)) (pl _ (by omega))
 ·intro k k0 k2 _ i j hi j1 jn;rw[ln] at hi jn |-
  have m1:(i+(vs.length-1)) % vs.length<vs.length:=xaR _ (by omega);have m2:(i+j) % vs.length<vs.length:=xaR _ (by omega);rw[jbi m1,jbi hi,jbi m2,jbi (by omega),jbi (by omega),jbi (by omega)];have pos:=jd0 (i:=(i+(vs.length-1)) % vs.length) (k:=(i+j) % vs.length) R.tp n3 m1 m2 (by
   by_cases c:i+j<vs.length
   ·rw[xai c];by_cases d:i=0
    ·subst d;rw[xbK,xbK,xai (by omega)];omega
    ·rw[show i+(vs.length-1)=i-1+vs.length by omega,xba,xai (by omega)];omega
   ·rw[show i+j=i+j-vs.length+vs.length by omega,xba,xai (by omega),show i+(vs.length-1)=i-1+vs.length by omega,xba,xai (by omega)];omega) (by
   rw[jf8 hi];by_cases c:i+j<vs.length
   ·rw[xai c];omega
   ·rw[show i+j=i+j-vs.length+vs.length by omega,xba,xai (by omega)];omega)
  rw[jf8 hi] at pos;rw[jiY hw (pl _ m1) (pl _ hi) (pl _ m2) pos k0 k2,jiY hw (pl _ (by omega)) (pl _ (by omega)) (pl _ (by omega)) d012 k0 k2]
theorem jpt:∀n,n<10->3<=n->∀a,a<n->(a+0) % n≠(a+1) % n/\(a+1) % n≠(a+2) % n/\(a+0) % n≠(a+2) % n:=by decide +kernel
theorem jpu:∀n,n<10->3<=n->∀a,a<n->(a+(n-0)) % n≠(a+(n-1)) % n/\(a+(n-1)) % n≠(a+(n-2)) % n/\(a+(n-0)) % n≠(a+(n-2)) % n:=by decide +kernel
theorem jgE (hw:1<=Z.w) (nz:Z.u.nz) (R:Rng us) (n9:us.length<=9) (r:RR (us.map (spt Z)) ps):¬jbB (pt ps 0) (pt ps 1) (pt ps 2):=by
 have ln:(us.map (spt Z)).length=us.length:=xaa _;have n3:=R.n3;obtain⟨hl,a,ha,d⟩:=r.dih (by omega) (by omega);rw[ln] at ha d;have i1:=jpt us.length (by omega) n3 a ha;have i2:=jpu us.length (by omega) n3 a ha;have md:∀i,i % us.length<us.length:=fun i=>xaR _ (by omega);rcases d with d | d
 ·rw[d 0 (by omega),d 1 (by omega),d 2 (by omega),jbi (md _),jbi (md _),jbi (md _)];exact jdl hw nz (jnu R.tp (md _) (md _) (md _) i1.1 i1.2.1 i1.2.2)
 ·rw[d 0 (by omega),d 1 (by omega),d 2 (by omega),jbi (md _),jbi (md _),jbi (md _)];exact jdl hw nz (jnu R.tp (md _) (md _) (md _) i2.1 i2.2.1 i2.2.2)
theorem jeV {f:Tri->Tri} (h:i<vs.length):tr (vs.map f) i=f (tr vs i):=by
 unfold tr;rw[xab,xae,xab,xac h];rfl
theorem Rng.mp {f:Tri->Tri} {k:Int} (R:Rng vs) (k0:0<k) (hd:∀a b c,dt (f a) (f b) (f c)=k*dt a b c) (hz:∀v,1<=v.z->1<=(f v).z):Rng (vs.map f):=by
 refine⟨by rw[xaa];exact R.n3,?_,fun v hv=>?_⟩
 ·intro a b c h1 h2 h3;rw[xaa] at h3;rw[jeV (by omega),jeV (by omega),jeV h3,hd];exact xan k0 (R.tp a b c h1 h2 h3)
 ·obtain⟨u,hu,rfl⟩:=xao.mp hv;exact hz u (R.hz u hu)
theorem PtAt.keep {f:V} (h:PtAt H Z f us) (s:SameT H H'):PtAt H' Z f us:=by
 rcases h with h | ⟨h1,r,h2,h3⟩
 ·exact .inl h
 ·exact .inr ⟨h1,r,h2,h3.keep s⟩
theorem jjq {b:Int} (hp:plb a b c=true):plb (-a) (-b) (-c)=false:=by
 by_cases ha:a=0
 ·by_cases hb:b=0
  ·by_cases hc:c=0
   ·simp [plb,ha,hb,hc] at hp
   ·simp [plb,ha,hb,hc] at hp |-
    omega
  ·simp [plb,ha,hb] at hp |-
   omega
 ·simp [plb,ha] at hp |-
  omega
theorem jnx (ns:List Int):low (ns.map fun n=>-n)=(low ns).map fun n=>-n:=by
 unfold low;rw[jlS,xbp,xbp];refine xbT fun n hn=>?_;show -n / gl ns=-(n / gl ns);exact Int.neg_ediv_of_dvd (jaX hn)
theorem jny {b:Int} (h:¬(a=0/\b=0/\c=0)):pln [-a,-b,-c,-d]=pln [a,b,c,d]:=by
  have gp:=gl4 (d:=d) h;have e:low [-a,-b,-c,-d]=(low [a,b,c,d]).map fun n=>-n:=jnx [a,b,c,d];have nz:¬(a / gl [a,b,c,d]=0/\b / gl [a,b,c,d]=0/\c / gl [a,b,c,d]=0):=fun z=>by
    have g:∀{x:Int},x∈[a,b,c,d]->x / gl [a,b,c,d]=0->x=0:=fun hx z=>xal fun q=>jed (jaX hx) q z;exact h ⟨g (by simp) z.1,g (by simp) z.2.1,g (by simp) z.2.2⟩
  unfold pln;rw[e];have el:low [a,b,c,d]=[a / gl [a,b,c,d],b / gl [a,b,c,d],c / gl [a,b,c,d],d / gl [a,b,c,d]]:=rfl;rw[el];generalize a / gl [a,b,c,d]=x at nz;generalize b / gl [a,b,c,d]=y at nz;generalize c / gl [a,b,c,d]=z at nz;generalize d / gl [a,b,c,d]=w;show (if plb (-x) (-y) (-z)=true then [-x,-y,-z,-w] else [- -x,- -y,- -z,- -w])=(if plb x y z=true then [x,y,z,w] else [-x,-y,-z,-w]);cases eb:plb x y z with
  | true =>
    rw[jjq eb,if_neg (by decide),if_pos rfl];simp
  | false =>
    rw[jiR nz eb,if_pos rfl,if_neg (by decide)]
theorem jnz {k b:Int} (hk:k≠0) (h:¬(a=0/\b=0/\c=0)):pln [k*a,k*b,k*c,k*d]=pln [a,b,c,d]:=by
 have pos:∀{k:Int},0<k->pln [k*a,k*b,k*c,k*d]=pln [a,b,c,d]:=fun {k} hk=>by
  have e:low [k*a,k*b,k*c,k*d]=low [a,b,c,d]:=jfg hk [a,b,c,d];unfold pln;rw[e]
 rcases Int.lt_or_gt_of_ne hk with n | p
 ·have e:pln [k*a,k*b,k*c,k*d]=pln [-k*a,-k*b,-k*c,-k*d]:=by
   have nz:¬(-k*a=0/\-k*b=0/\-k*c=0):=fun z=>by
    have f:∀{i:Int},-k*i=0->i=0:=fun e=>(xax.mp e).resolve_left (by omega);exact h ⟨f z.1,f z.2.1,f z.2.2⟩
   have z:=jny (d:=-k*d) nz;rw[<- z];simp only[xcf,xco]
  rw[e];exact pos (by omega)
 ·exact pos p
theorem jnA (a b:Int):Int.gcd b (a % b)=Int.gcd a b:=by
 have h1:((Int.gcd b (a % b):Nat):Int) ∣ (Int.gcd a b:Nat):=xbP (by
  have z:((Int.gcd b (a % b):Nat):Int) ∣ b*(a / b)+a % b:=Int.dvd_add (xbJ (xbG ..) (Int.dvd_mul_right _ _)) (xbC ..);rw[Int.mul_ediv_add_emod] at z;exact z) (xbG ..)
 have h2:((Int.gcd a b:Nat):Int) ∣ (Int.gcd b (a % b):Nat):=xbP (xbC ..) (by
  rw[Int.emod_def];exact Int.dvd_sub (xbG ..) (xbJ (xbC ..) (Int.dvd_mul_right _ _)))
 exact Nat.dvd_antisymm (Int.natCast_dvd_natCast.mp h1) (Int.natCast_dvd_natCast.mp h2)
theorem gcd4 (x y z w:Int):((Int.gcd (Int.gcd x y:Nat) (Int.gcd z w:Nat):Nat):Int)=gl [x,y,z,w]:=by
 have p1:((Int.gcd (Int.gcd x y:Nat) (Int.gcd z w:Nat):Nat):Int) ∣ (Int.gcd x y:Nat):=xbG ..;have p2:((Int.gcd (Int.gcd x y:Nat) (Int.gcd z w:Nat):Nat):Int) ∣ (Int.gcd z w:Nat):=xbC ..;have d:((Int.gcd (Int.gcd x y:Nat) (Int.gcd z w:Nat):Nat):Int) ∣ gl [x,y,z,w]:=jeJ fun n hn=>by
  simp only[xaG,xbH,or_false] at hn;rcases hn with rfl | rfl | rfl | rfl
  ·exact xbJ p1 (xbG ..)
  ·exact xbJ p1 (xbC ..)
  ·exact xbJ p2 (xbG ..)
  ·exact xbJ p2 (xbC ..)
 have d':gl [x,y,z,w] ∣ ((Int.gcd (Int.gcd x y:Nat) (Int.gcd z w:Nat):Nat):Int):=xbP (xbP (jaX (by simp)) (jaX (by simp))) (xbP (jaX (by simp)) (jaX (by simp)));exact Int.dvd_antisymm (by omega) (jbg _) d d'
def Mk (σ:L2.St) (te:TE) (φ:V->Hp->Prop):Prop:=∀H R,(∀v H',Same H H'->φ v H'->R v H')->te σ H R
def MkA (σ:L2.St) (ta:TA) (φ:List V->Hp->Prop):Prop:=∀H R,(∀v H',Same H H'->φ v H'->R v H')->ta σ H R
inductive PrP (H:Hp):List Addr->List (Int × Int)->Prop
 | nil:PrP H [] []
 | cons {r:Addr} {p:Int × Int} {rs:List Addr} {ps:List (Int × Int)}:H r=some (.tup [.int p.1,.int p.2])->PrP H rs ps->PrP H (r::rs) (p::ps)
theorem PrP.len {rs:List Addr} {ps:List (Int × Int)} (h:PrP H rs ps):rs.length=ps.length:=by
 induction h with
 | nil=>rfl
 | cons _ _ ih=>rw[xaA,xaA,ih]
theorem PrP.keep {rs:List Addr} {ps:List (Int × Int)} (h:PrP H rs ps) (s:SameT H H'):PrP H' rs ps:=by
 induction h with
 | nil=>exact .nil
 | cons e _ ih=>exact .cons (s _ _ e) ih
def IsP (p:Int × Int) (v:V) (H:Hp):Prop:=∃r,v=.ref r/\H r=some (.tup [.int p.1,.int p.2])
def RowA (ps:List (Int × Int)) (vs:List V) (H:Hp):Prop:=∃rs:List Addr,vs=rs.map V.ref/\PrP H rs ps
def IsL (ps:List (Int × Int)) (v:V) (H:Hp):Prop:=∃(l:Addr) (rs:List Addr),v=.ref l/\H l=some (.lst (rs.map V.ref))/\PrP H rs ps
def TabA:List (List (Int × Int))->List V->Hp->Prop
 | [],vs,_=>vs=[]
 | ps::pss,vs,H=>∃v ws,vs=v::ws/\IsL ps v H/\TabA pss ws H
theorem IsL.keep {ps:List (Int × Int)} {v:V} (h:IsL ps v H) (s:Same H H'):IsL ps v H':=by
 obtain⟨l,rs,rfl,h1,h2⟩:=h;exact⟨l,rs,rfl,s _ _ h1,h2.keep s.t⟩
theorem TabA.len:∀{pss:List (List (Int × Int))} {vs:List V} {H:Hp},TabA pss vs H->vs.length=pss.length
 | [],_,_,h=>by cases h;rfl
 | _::_,_,_,⟨_,_,e,_,h⟩=>by rw[e,xaA,xaA,h.len]
theorem TabA.keep:∀{pss:List (List (Int × Int))} {vs:List V} {H H':Hp},TabA pss vs H->Same H H'->TabA pss vs H'
 | [],_,_,_,h,_=>h
 | _::_,_,_,_,⟨v,ws,e,h1,h⟩,s=>⟨v,ws,e,h1.keep s,h.keep s⟩
theorem TabA.get:∀{pss:List (List (Int × Int))} {vs:List V} {H:Hp} {i:Nat},TabA pss vs H->i<pss.length->∃v,vs[i]?=some v/\IsL (pss.getD i []) v H
  | _::_,_,_,0,⟨v,ws,e,h1,_⟩,_=>⟨v,by rw[e];rfl,h1⟩
  | _ :: _, _, _, i + 1, ⟨v, ws, e, _, h⟩, hi => by
    obtain⟨u,h1,h2⟩:=h.get (i:=i) (Nat.lt_of_succ_lt_succ hi);exact⟨u,by rw[e];exact h1,h2⟩
def MkI (σ:L2.St) (te:TE) (a:Int):Prop:=∀H R,R (.int a) H->te σ H R
variable {σ:L2.St}
theorem jog :MkI σ (tC (.int a)) a:=fun _ _ h=>h
theorem jfq :MkA σ jkt (RowA []):=fun H R q=>q _ _ (fun _ _ z=>z) ⟨[],rfl,.nil⟩
variable {ta:TA}
theorem jet {p:Int × Int} {ps:List (Int × Int)} (h:Mk σ te (IsP p)) (k:MkA σ ta (RowA ps)):MkA σ (jez te ta) (RowA (p::ps)):=fun H R q=>h H _ fun v H1 s1 ⟨r,e,hr⟩=>k H1 _ fun ws H2 s2 ⟨rs,e',hs⟩=>q _ _ (s1.trans s2) ⟨r::rs,by rw[e,e'];rfl,.cons (s2 _ _ hr) hs⟩
theorem jjr {ps:List (Int × Int)} (k:MkA σ ta (RowA ps)) (hl:ps.length<1000):Mk σ (jly ta) (IsL ps):=fun H R q=>k H _ fun vs H1 s1 ⟨rs,e,hs⟩=>by
 subst e;exact⟨xaQ (jaD (by rw[xaa,hs.len];exact hl)),fun p hp=>q _ _ (s1.trans (Same.new hp _)) ⟨p,rs,rfl,jac,hs.keep (Same.new hp _).t⟩⟩
theorem jfr :MkA σ jkt (TabA []):=fun H R q=>q _ _ (fun _ _ z=>z) rfl
theorem jeu {ps:List (Int × Int)} {pss:List (List (Int × Int))} (h:Mk σ te (IsL ps)) (k:MkA σ ta (TabA pss)):MkA σ (jez te ta) (TabA (ps::pss)):=fun H R q=>h H _ fun v H1 s1 hv=>k H1 _ fun ws H2 s2 hs=>q _ _ (s1.trans s2) ⟨v,ws,rfl,hv.keep s2,hs⟩
theorem jjs {pss:List (List (Int × Int))} (k:MkA σ ta (TabA pss)) (hl:pss.length<1000):Mk σ (jly ta) (fun v H=>∃(l:Addr) (vs:List V),v=.ref l/\H l=some (.lst vs)/\TabA pss vs H):=fun H R q=>k H _ fun vs H1 s1 hs =>
 ⟨xaQ (jaD (by rw[hs.len];exact hl)),fun p hp=>q _ _ (s1.trans (Same.new hp _)) ⟨p,vs,rfl,jac,hs.keep (Same.new hp _)⟩⟩
theorem jgF {ta tb:TE} {b:Int} (ha:MkI σ ta a) (hb:MkI σ tb b):Mk σ (jmK (jez ta (jez tb jkt))) (IsP (a,b)):=fun H R q =>
 ha _ _ (hb _ _ ⟨xaQ (jaD (show 2<1000 by decide)),fun p hp=>q _ _ (Same.new hp _) ⟨p,rfl,jac⟩⟩)
section
variable {α β:Type} {R R':α->β->Prop}
inductive All2 {α β:Type} (R:α->β->Prop):List α->List β->Prop
 | nil:All2 R [] []
 | cons {a:α} {b:β} {as:List α} {bs:List β} (h:R a b) (t:All2 R as bs):All2 R (a::as) (b::bs)
theorem All2.len {as:List α} {bs:List β} (h:All2 R as bs):as.length=bs.length:=by
 induction h with
 | nil=>rfl
 | cons _ _ ih=>rw[xaA,xaA,ih]
theorem All2.mono {as:List α} {bs:List β} (h:All2 R as bs) (f:∀a b,R a b->R' a b):All2 R' as bs:=by
 induction h with
 | nil=>exact .nil
 | cons h _ ih=>exact .cons (f _ _ h) ih
theorem All2.app {as as':List α} {bs bs':List β} (h:All2 R as bs) (h':All2 R as' bs'):All2 R (as++as') (bs++bs'):=by
 induction h with
 | nil=>exact h'
 | cons h _ ih=>exact .cons h ih
theorem All2.get {as:List α} {bs:List β} (h:All2 R as bs):∀{i:Nat} {b:β},bs[i]?=some b->∃a,as[i]?=some a/\R a b:=by
  induction h with
  | nil=>intro i b e;cases e
  | cons h _ ih =>
    intro i b e;cases i with
    | zero=>cases e;exact⟨_,rfl,h⟩
    | succ i=>exact ih e
theorem All2.getA {as:List α} {bs:List β} (h:All2 R as bs):∀{i:Nat} {a:α},as[i]?=some a->∃b,bs[i]?=some b/\R a b:=by
  induction h with
  | nil=>intro i b e;cases e
  | cons h _ ih =>
    intro i b e;cases i with
    | zero=>cases e;exact⟨_,rfl,h⟩
    | succ i=>exact ih e
theorem jev {α β:Type} {R:α->β->Prop}:∀{as:List α} {bs:List β},as.length=bs.length->(∀(i:Nat) (a:α),as[i]?=some a->∃b,bs[i]?=some b/\R a b)->All2 R as bs
  | [],[],_,_=>.nil
  | a :: as, b :: bs, hl, h => by
    refine .cons ?_ (jev (Nat.succ.inj hl) fun i a' e=>h (i+1) a' e);obtain⟨b',e,r⟩:=h 0 a rfl;cases e;exact r
  | [],_::_,hl,_=>nomatch hl
  | _::_,[],hl,_=>nomatch hl
end
theorem jjt (h:j<n):ixN n (j:Int)=some j:=by
 unfold ixN;rw[if_pos (by omega),if_pos (by omega)];simp
def Sta (H:Hp) (L:Addr):Prop:=∃a b:Int,H L=some (.lst [.int a,.int b])/\0<=b/\b<2147483647
theorem Sta.keep (h:Sta H L) (s:Same H H'):Sta H' L:=by
 obtain⟨a,b,h1,h2⟩:=h;exact⟨a,b,s _ _ h1,h2⟩
theorem Sta.ne {b:Addr} (h:Sta H L) (n:H b=none):b≠L:=fun e=>by
 obtain⟨_,_,h1,_⟩:=h;rw[e,h1] at n;cases n
theorem Sta.tup {b:Addr} (h:Sta H L) (n:H b=some (.tup xs)):b≠L:=fun e=>by
 obtain⟨_,_,h1,_⟩:=h;rw[e,h1] at n;cases n
theorem Sta.t (h:Sta H L) (s:SameB L H H'):SameT H H':=fun b xs hb=>s b _ (h.tup hb) hb
inductive spNxi (vs:List V) (H:Hp) (Q:VK):Prop
 | mk (L:Addr) (n:Int) (_:vs=[.ref L,.int n]) (_:Sta H L) (_:0<n) (_:n<2^60) (_:∀(H':Hp) (d:Int),SameB L H H'->Sta H' L->0<=d->d<n->Q (.int d) H')
def jju:Sp:=fun vs H Q _=>spNxi vs H Q
theorem ok_nx (T:Tx K mg t1 t2) (F:At K mg "_law_next" jc5 ["state","many"] []):jao P w K mg base CX0 1 "_law_next" ["state","many"] [] jju:=by
 refine F.ok jdP (by walk_at "ar") (fun f cdv A outer s H vs Q E hr h=>?_);obtain⟨L,n,rfl,⟨a,b,hL,b0,b1⟩,n0,n60,q⟩:=h;have S:=jdP;refine⟨_,(jaf (jaL (jaq jgm (jak ix_list (pv 0) jab) jab (jax _))
  (jaf (jat (i:=2) S.nd rfl (Or.inl rfl) (jau jbR (jak ix_list (pv 0) jab) (pv 1)))
  (jaf (jbQ (jau je4 (jak ix_list (pv 0) jab) (pv 1)) (jgP (pv 0) jab jdW))
  (jai (jas (pv 2)))))
  jaw)
  (jaf (jbQ (jau jbR (jau jbf (jau jaA (jak ix_list (pv 0) jab) jab) jab) jab) (jgP (pv 0) jab jdW))
  (jai (jas (jau jbR (jau je4 (jau jbR (jau jaA (jak ix_list (pv 0) jab) (jak ix_list (pv 0) jab)) jab) jab) (pv 1)))))),?_⟩
 have k1:SqL K H L [.int a,.int b]:=SqL.of hL;have fn:Fit n:=Bd.fit (n:=61) (by unfold Bd;omega);have fb:Fit b:=Bd.fit (n:=61) (by unfold Bd;omega);have fm:Fit (69621:Int):=Bd.fit (n:=61) (by unfold Bd;omega);have fp:Fit (2147483629:Int):=Bd.fit (n:=61) (by unfold Bd;omega);walk_at "rf";walk_at "gf";refine jbP (fun c=>?_) fun c=>?_
 ·refine ixL k1 rfl ⟨a,rfl,n0,ixL k1 rfl ⟨a,rfl,n0,fn,?_⟩⟩;unfold joc;walk_at "rf";exact⟨L,_,0,0,rfl,rfl,hL,rfl,q _ _ SameB.set ⟨a / n,b,jac,b0,b1⟩ (xbw _ (by omega)) (xbe _ n0)⟩
 ·refine ixL k1 rfl ⟨b,rfl,fb,fm,by decide,?_⟩;have g0:=xbw (b*69621+40692) (show (2147483647:Int)≠0 by decide);have g1:=xbe (b*69621+40692) (show (0:Int)<2147483647 by decide);unfold joc;walk_at "rf";refine⟨L,_,1,1,rfl,rfl,hL,rfl,?_⟩;generalize (b*69621+40692) % 2147483647=b' at g0 g1;have e1:upd H L (.lst ([V.int a,V.int b].set 1 (V.int b'))) L=some (.lst [.int a,.int b']):=jac;have sB:SameB L H (upd H L (.lst ([V.int a,V.int b].set 1 (V.int b')))):=SameB.set;generalize upd H L (.lst ([V.int a,V.int b].set 1 (V.int b')))=H1 at e1 sB;have k2:SqL K H1 L [.int a,.int b']:=SqL.of e1;have fb':Fit b':=Bd.fit (n:=61) (by unfold Bd;omega);have f8:Fit (8:Int):=Bd.fit (n:=61) (by unfold Bd;omega);exact ixL k2 rfl (ixL k2 rfl ⟨b',rfl,b',rfl,fb',fb',by decide,by decide,f8,n0,q _ _ sB ⟨a,b',e1,g0,g1⟩ (xbw _ (by omega)) (xbe _ n0)⟩)
inductive spStti (vs:List V) (H:Hp) (Q:VK):Prop
 | mk (c:Int) (_:vs=[.int c]) (_:∀(L:Addr) (H':Hp),H L=none->Same H H'->Sta H' L->Q (.ref L) H')
def jnB:Sp:=fun vs H Q _=>spStti vs H Q
theorem jpv (T:Tx K mg t1 t2) (F:At K mg "_law_state" jcw ["cell"] []):jao P w K mg base CX0 1 "_law_state" ["cell"] [] jnB:=by
 refine F.ok jdf (by walk_at "ar") (fun f cdv A outer s H vs Q E hr h=>?_);obtain⟨c,rfl,q⟩:=h;have S:=jdf;refine⟨_,(jaf (jat (i:=1) S.nd rfl (Or.inl rfl) jab)
  (jaf (jaL (jaq jmJ (pv 0) (jau jgS jab jab) (jax _))
  (jai (jat (i:=1) S.nd rfl (Or.inl rfl) (pv 0)))
  jaw)
  (jai (jas (jaM (jaa (pv 1) (jaa (jau jbR (jau jaA (jau jbf (jau jbR (pv 0) jab) jab) jab) jab) jad ja7) jae)))))),?_⟩
 have e18:(10:Int)^Int.toNat 18=1000000000000000000:=by decide
 walk_at "rf";have m0:=xbw c (show (2147483629:Int)≠0 by decide);have m1:=xbe c (show (0:Int)<2147483629 by decide);have f1:Fit (c % 2147483629+11):=Bd.fit (n:=61) (by unfold Bd;omega);have f2:Fit (48271:Int):=Bd.fit (n:=61) (by unfold Bd;omega);have g0:=xbw ((c % 2147483629+11)*48271) (show (2147483647:Int)≠0 by decide);have g1:=xbe ((c % 2147483629+11)*48271) (show (0:Int)<2147483647 by decide);refine⟨⟨by decide,by decide,by decide⟩,jbP (fun _=>?_) fun _=>?_⟩<;>exact⟨by decide,f1,f2,by decide,by decide,fun p hp=>q p _ hp (Same.new hp _) ⟨_,_,jac,g0,g1⟩⟩
inductive spCelli (K:PySem.W.Frag) (vs:List V) (H:Hp) (Q:VK):Prop
 | mk (a:Addr) (ns:List Int) (k:Nat) (_:vs=[.ref a,.int (k:Nat)]) (_:SqL K H a (ns.map V.int)) (_:ns.length<=63) (_:k<64) (_:∀(i:Int) (H':Hp),Same H H'->Q (.int i) H')
def jmc (K:PySem.W.Frag):Sp:=fun vs H Q _=>spCelli K vs H Q
theorem jnC (T:Tx K mg t1 t2) (F:At K mg "_law_cell_at" jbX ["script","k"] []):jao P w K mg base CX0 1 "_law_cell_at" ["script","k"] [] (jmc K):=by
 refine F.ok jcB (by walk_at "ar") (fun f cdv A outer s H vs Q E hr h=>?_);obtain⟨a,ns,k,rfl,k1,n63,k64,q⟩:=h;have S:=jcB;refine⟨_,(jaf (jaL (jaq jgl (pv 1) (jaG jaI rfl T.m_len PySem.boot_len (jaa (pv 0) jad jae)) (jax _))
  (jai (jas (jak ix_list (pv 0) (pv 1))))
  jaw)
  (jaf (jat (i:=2) S.nd rfl (Or.inl rfl) jab)
  (jaf (jaL (jaq (jcm (jgi hr)) (pv 0) (jaM jad) (jax _))
  (jai (jat (i:=2) S.nd rfl (Or.inl rfl) (jau jbR (jak ix_list (pv 0) (jau jbR (pv 1) (jaG jaI rfl T.m_len PySem.boot_len (jaa (pv 0) jad jae)))) jab)))
  jaw)
  (jai (jas (jau jbf (jau jbf (pv 2) (jau jaA jab (pv 1))) jab)))))),?_⟩
 have ln:(ns.map V.int).length=ns.length:=xaa _;walk_at "rf";walk_at "gf";have fk:Fit (k:Int):=Bd.fit (n:=61) (by unfold Bd;omega);have fc:Fit (104729:Int):=Bd.fit (n:=61) (by unfold Bd;omega);refine jbP (fun c=>?_) fun c=>?_
 ·rw[ln] at c;have hk:k<ns.length:=by omega
  exact ixL k1 (v:=.int ns[k]) (jaK (by rw[xae,xac hk];rfl)) (q _ _ (Same.refl _))
 ·refine⟨by decide,fun p hp=>?_⟩;refine jeA hp fun H1 s1 e1=>?_;have k2:=s1.seq k1;refine jkz (x:=ns) (y:=[]) k2 (SqL.of e1) ⟨_,rfl,?_⟩;refine jbP (fun c1=>?_) fun c1=>⟨fc,fk,q _ _ s1⟩;have n0:0<ns.length:=by
   cases ns with
   | nil=>exact absurd c1 (by decide)
   | cons _ _=>exact Nat.succ_pos _
  refine⟨_,.inl k2,by rw[ln];omega,?_⟩;rw[ln];have hm:k % ns.length<ns.length:=xaR _ n0;have em:(k:Int) % (ns.length:Int)=((k % ns.length:Nat):Int):=(Int.natCast_emod ..).symm;rw[em];exact ixL k2 (v:=.int ns[k % ns.length]) (jaK (by rw[xae,xac hm];rfl)) ⟨_,rfl,by decide,fc,fk,q _ _ s1⟩
inductive spFoldi (K:PySem.W.Frag) (vs:List V) (H:Hp) (Q:VK):Prop
 | mk (a:Addr) (ns:List Int) (m:Nat) (_:vs=[.ref a,.int (m:Nat)]) (_:SqL K H a (ns.map V.int)) (_:ns.length<=63) (_:1<=m) (_:m<64) (_:∀(l:Addr) (H':Hp) (cs:List Int),H l=none->Same H H'->H' l=some (.lst (cs.map V.int))->cs.length=m->Q (.ref l) H')
def jmd (K:PySem.W.Frag):Sp:=fun vs H Q _=>spFoldi K vs H Q
theorem jnD (T:Tx K mg t1 t2) (F:At K mg "_law_folded" jbs ["script","many"] []) (dR:jao P w K mg base CX0 1 "_law_cell_at" ["script","k"] [] (jmc K)):jao P w K mg base CX0 2 "_law_folded" ["script","many"] [] (jmd K):=by
 refine F.ok jcX (by walk_at "ar") (fun f cdv A outer s H vs Q E hr h=>?_);obtain⟨a,ns,m,rfl,k1,n63,m1,m64,q⟩:=h;have S:=jcX;refine⟨_,(jaf (jbI (i:=2) rfl S.nd rfl rfl (N':=["k","script"]) (ix:=[0]) ⟨rfl,rfl,by decide +kernel,by decide +kernel,by decide +kernel,(show ∀y:Str × NameKind,y∈_->y.2=NameKind.free->(jah jbs).names.lookup y.1=some .cell\/(jah jbs).names.lookup y.1=some .free from by decide +kernel),(.cons rfl (.inl rfl) rfl .nil)⟩ (jaV rfl T.m_range (jaa (pv 1) jad jae)) (fun _ _ _ _=>jan (i:=0) (show (["k","script"]:List Str).Nodup from by decide +kernel) rfl (Or.inl rfl)) (fun _ _ _ _=>jbd) (fun _ _ _ _=>(jag dR hr.m rfl jav (jaa (pv 1) (jaa (pv 0) jad jae) jae))))
  (jaf (jbp PassesOwn.never rfl (jd2 rfl T.m_range (jaa (pv 1) (jaa (jaG jaI rfl T.m_len PySem.boot_len (jaa (pv 0) jad jae)) jad jaF) jae)) (jan (i:=3) S.nd rfl (Or.inl rfl))
  (jaf (jat (i:=4) S.nd rfl (Or.inl rfl) (jau jbR (pv 3) (pv 1)))
  (jai (jbQ (jau jbR (jau jbf (jau jaA (jau jbR (jak ix_list (pv 2) (pv 4)) (jau jgS jab jab)) jab) (jak ix_list (pv 0) (pv 3))) (jau jbf (jau jgS jab jab) jab)) (jgP (pv 2) (pv 4) jdW)))))
  (jai (jas (pv 2))))),?_⟩
 have ln:(ns.map V.int).length=ns.length:=xaa _;walk_at "rf";refine⟨by omega,by omega,fun acc hacc=>?_⟩;rw[Int.toNat_natCast];refine joD (fun _ y=>∃d:Int,y=.int d) (by omega) hacc (fun i H3 R hi s3 hR=>?_) fun ys H1 s1 e1 l1 p1=>?_
 ·walk_at "rf";exact⟨a,ns,i,by rw[xcu],s3.seq k1,n63,by omega,fun d H4 s4=>hR _ _ s4 ⟨d,rfl⟩⟩
 obtain⟨cs,rfl⟩:=jiN p1;rw[xaa] at l1;have k2:=s1.seq k1;refine⟨_,.inl k2,by omega,by omega,by rw[ln];omega,by rw[ln];omega,?_⟩;rw[ln];refine jbH (lo:=(m:Int)) (fun i σ Hh=>∃(ds:List Int) (o3 o4:Option V),σ=[some (.ref a),some (.int (m:Nat)),some (.ref acc),o3,o4]/\Same H Hh/\Hh acc=some (.lst (ds.map V.int))/\ds.length=m) ⟨cs,_,_,rfl,s1,e1,l1⟩ ?_ ?_
 ·rintro i σ Hh hi ⟨ds,o3,o4,rfl,sB,e2,l2⟩;have k3:SqL K Hh a (ns.map V.int):=sB.seq k1;have g0:=xbw ((m:Int)+i) (show (m:Int)≠0 by omega);have g1:=xbe ((m:Int)+i) (show (0:Int)<m by omega);obtain⟨j,ej⟩:=xbn g0;have hj:j<ds.length:=by omega
  have hk:m+i<ns.length:=by omega
  walk_at "rf";rw[ej];have p0:(0:Int)<10^Int.toNat 60:=by decide +kernel
  have p1:(10:Int)^Int.toNat 60<2^200:=by decide +kernel
  refine⟨by omega,ixL (SqL.of e2) (v:=.int ds[j]) (jaK (by rw[xae,xac hj];rfl)) ?_⟩;have d0:=xbw ds[j] (show (10:Int)^Int.toNat 60≠0 by omega);have d1:=xbe ds[j] p0;refine⟨⟨by decide,by decide,by decide⟩,_,rfl,p0,Bd.fit (n:=200) (by unfold Bd;omega),Bd.fit (n:=61) (by unfold Bd;omega),ixL k3 (v:=.int ns[m+i]) (by rw[show (m:Int)+i=((m+i:Nat):Int) by omega];exact jaK (by rw[xae,xac hk];rfl)) ⟨_,rfl,⟨by decide,by decide,by decide⟩,by omega,?_⟩⟩;unfold joc;walk_at "rf";refine⟨acc,_,(j:Int),j,rfl,rfl,e2,jjt (by rw[xaa];exact hj),Same.keepN sB hacc _,ds.set j ((ds[j] % 10^Int.toNat 60*48271+ns[m+i]) % (10^Int.toNat 60+7)),?_,by rw[List.length_set];exact l2⟩;rw[jac,List.map_set]
 ·rintro σ Hh ⟨ds,o3,o4,rfl,sB,e2,l2⟩;exact⟨_,rfl,q acc _ ds hacc sB e2 l2⟩
def Lt3 (K:PySem.W.Frag) (H:Hp) (a:Addr) (u:Tri):Prop:=SqL K H a [.int u.x,.int u.y,.int u.z]\/SqT K H a [.int u.x,.int u.y,.int u.z]
def upr (u v:Tri):Tri:=⟨u.y*v.z-u.z*v.y,u.z*v.x-u.x*v.z,u.x*v.y-u.y*v.x⟩
inductive spUpri (K:PySem.W.Frag) (vs:List V) (H:Hp) (Q:VK):Prop
 | mk (a b:Addr) (u v:Tri) (_:vs=[.ref a,.ref b]) (_:Lt3 K H a u) (_:Lt3 K H b v) (_:u.bd 900) (_:v.bd 900) (_:∀(g:Addr) (H':Hp),H g=none->Same H H'->H' g=some (.tup [.int (upr u v).x,.int (upr u v).y,.int (upr u v).z])->Q (.ref g) H')
def jnE (K:PySem.W.Frag):Sp:=fun vs H Q _=>spUpri K vs H Q
theorem jpw (T:Tx K mg t1 t2) (F:At K mg "_law_upright" jbY ["one","other"] []):jao P w K mg base CX0 1 "_law_upright" ["one","other"] [] (jnE K):=by
 refine F.ok jcC (by walk_at "ar") (fun f cdv A outer s H vs Q E hr h=>?_);obtain⟨a,b,u,v,rfl,k1,k2,⟨u1,u2,u3⟩,⟨v1,v2,v3⟩,q⟩:=h;have S:=jcC;refine⟨_,(jai (jas (jaB (jaa (jau ja6 (jau jaA (jak (jco (K:=K) rfl) (pv 0) jab) (jak (jco (K:=K) rfl) (pv 1) jab)) (jau jaA (jak (jco (K:=K) rfl) (pv 0) jab) (jak (jco (K:=K) rfl) (pv 1) jab))) (jaa (jau ja6 (jau jaA (jak (jco (K:=K) rfl) (pv 0) jab) (jak (jco (K:=K) rfl) (pv 1) jab)) (jau jaA (jak (jco (K:=K) rfl) (pv 0) jab) (jak (jco (K:=K) rfl) (pv 1) jab))) (jaa (jau ja6 (jau jaA (jak (jco (K:=K) rfl) (pv 0) jab) (jak (jco (K:=K) rfl) (pv 1) jab)) (jau jaA (jak (jco (K:=K) rfl) (pv 0) jab) (jak (jco (K:=K) rfl) (pv 1) jab))) jad ja7) ja7) ja7)))),?_⟩;have f1:Fit u.x:=u1.fit;have f2:Fit u.y:=u2.fit;have f3:Fit u.z:=u3.fit;have g1:Fit v.x:=v1.fit;have g2:Fit v.y:=v2.fit;have g3:Fit v.z:=v3.fit;have i0:∀w:Tri,atI [V.int w.x,V.int w.y,V.int w.z] 0=some (V.int w.x):=fun _=>rfl;have i1:∀w:Tri,atI [V.int w.x,V.int w.y,V.int w.z] 1=some (V.int w.y):=fun _=>rfl;have i2:∀w:Tri,atI [V.int w.x,V.int w.y,V.int w.z] 2=some (V.int w.z):=fun _=>rfl;unfold Lt3 at k1 k2;walk_at "rf";exact jhc k1 (i1 u) (jhc k2 (i2 v) ⟨_,rfl,_,rfl,f2,g3,jhc k1 (i2 u) (jhc k2 (i1 v) ⟨_,rfl,_,rfl,f3,g2,jhc k1 (i2 u) (jhc k2 (i0 v) ⟨_,rfl,_,rfl,f3,g1,jhc k1 (i0 u) (jhc k2 (i2 v) ⟨_,rfl,_,rfl,f1,g3,jhc k1 (i0 u) (jhc k2 (i1 v) ⟨_,rfl,_,rfl,f1,g2,jhc k1 (i1 u) (jhc k2 (i0 v) ⟨_,rfl,_,rfl,f2,g1,by decide,fun p hp=>q p _ hp (Same.new hp _) jac⟩)⟩)⟩)⟩)⟩)⟩)
theorem jpx {P:Int->Prop} (l:ys.length=3) (h:∀y∈ys,∃d:Int,y=.int d/\P d):∃a b c:Int,ys=[.int a,.int b,.int c]/\P a/\P b/\P c:=by
  match ys,l with
  | [x, y, z], _ =>
    obtain⟨a,rfl,ha⟩:=h x (by simp);obtain⟨b,rfl,hb⟩:=h y (by simp);obtain⟨c,rfl,hc⟩:=h z (by simp);exact⟨a,b,c,rfl,ha,hb,hc⟩
theorem jpy {acc:Addr} {ρ:L2.St} {Z:Hp->Prop} {lo:Int} (p:V->Prop) (hn:n<1000) (hacc:H1 acc=none) (b0:Sta H1 L)
  (hs:∀(i:Nat) (H3:Hp) (R:V->Hp->Prop),i<n->SameB L H1 H3->Sta H3 L->(∀y H4,SameB L H3 H4->Sta H4 L->p y->R y H4)->te (some (.int (lo+i))::ρ) H3 R)
  (hd:∀ys H',SameB L H1 H'->Sta H' L->H' acc=some (.lst ys)->ys.length=n->(∀y∈ys,p y)->Z H'):CompGo (Itr lo n) ρ (jbU 0) jda te acc Z H1:=by
 have ne:=b0.ne hacc;have up:∀{H:Hp} {xs:List V},Sta H L->Sta (upd H acc (.lst xs)) L:=fun {H xs} ⟨a,b,h1,h2⟩=>⟨a,b,by rw[jaz (Ne.symm ne)];exact h1,h2⟩;refine jcP (fun i xs H=>SameB L H1 H/\Sta H L/\H acc=some (.lst xs)/\xs.length=i/\∀y∈xs,p y) ⟨(Same.new hacc _).b,up b0,jac,rfl,fun y h=>nomatch h⟩ ?_ ?_
 ·rintro i xs H hi ⟨g1,gb,g2,hl,hp⟩;refine hs i H _ hi g1 gb fun y H4 s4 b4 py=>⟨s4 _ _ ne g2,jaD (by omega),SameB.acc (g1.trans s4) hacc,up b4,jac,?_,fun z hz=>?_⟩
  ·rw[xad,hl];rfl
  ·rcases xas.mp hz with hz | hz
   ·exact hp z hz
   ·rw[xar.mp hz];exact py
 ·rintro xs H ⟨g1,gb,g2,hl,hp⟩;exact hd xs H g1 gb g2 hl hp
inductive spArri (vs:List V) (H:Hp) (Q:VK):Prop
 | mk (L:Addr) (n:Int) (_:vs=[.ref L,.int n]) (_:Sta H L) (_:0<=n) (_:n<=1000001) (_:∀(t:Addr) (H':Hp) (v:Tri),H t=none->SameB L H H'->Sta H' L->H' t=some (.tup [.int v.x,.int v.y,.int v.z])->(v.x.natAbs<=n.natAbs/\v.y.natAbs<=n.natAbs/\v.z.natAbs<=n.natAbs)->Q (.ref t) H')
def jpz:Sp:=fun vs H Q _=>spArri vs H Q
theorem jpA (T:Tx K mg t1 t2) (F:At K mg "_law_arrow" jbz ["state","span"] []) (da:jao P w K mg base CX0 1 "_law_next" ["state","many"] [] jju):jao P w K mg base CX0 2 "_law_arrow" ["state","span"] [] jpz:=by
 refine F.ok jdg (by walk_at "ar") (fun f cdv A outer s H vs Q E hr h=>?_);obtain⟨L,n,rfl,hL,n0,n1,q⟩:=h;have S:=jdg;refine⟨_,(jai (jas (jaU jcc rfl T.m_tuple boot_tuple (jaa (jbb rfl (N':=["k","state","span"]) (ix:=[0,1]) ⟨rfl,rfl,by decide +kernel,by decide +kernel,by decide +kernel,(show ∀y:Str × NameKind,y∈_->y.2=NameKind.free->(jah jbz).names.lookup y.1=some .cell\/(jah jbz).names.lookup y.1=some .free from by decide +kernel),(.cons rfl (.inl rfl) rfl (.cons rfl (.inl rfl) rfl .nil))⟩ (jaV rfl T.m_range (jaa jab jad jaj)) (fun _ _ _ _=>jan (i:=0) (show (["k","state","span"]:List Str).Nodup from by decide +kernel) rfl (Or.inl rfl)) (fun _ _ _ _=>jbd) (fun _ _ _ _=>(jau ja6 (jag da hr.m rfl jav (jaa (pv 1) (jaa (jau jbf (jau jaA jab (pv 2)) jab) jad ja7) jae)) (pv 2)))) jad jcS)))),?_⟩;walk_at "rf";refine⟨by decide,by decide,fun acc hacc=>jpy (L:=L) (n:=3) (fun y=>∃d:Int,y=.int d/\d.natAbs<=n.natAbs) (by decide) hacc hL (fun i H3 R hi s3 b3 hR=>?_) fun ys H1 s1 b1 e1 l1 p1=>?_⟩
 ·walk_at "rf";refine⟨.o (by decide) (by decide),.o (by omega) (by omega),L,_,rfl,b3,by omega,by omega,fun H4 d s4 b4 d0 d1=>⟨_,rfl,hR _ _ s4 b4 ⟨_,rfl,by omega⟩⟩⟩
 obtain⟨x,y,z,rfl,hx,hy,hz⟩:=jpx l1 p1;exact⟨_,SqL.of e1,fun l hl=>q l _ ⟨x,y,z⟩ (s1.none (b1.ne hl) hl) (s1.trans (Same.new hl _).b) (b1.keep (Same.new hl _)) jac ⟨hx,hy,hz⟩⟩
structure RawB (n:Nat) (Z:Sht):Prop where
 w1:1<=Z.w
 w3:Z.w<=3
 sx:Z.s.x.natAbs<=2097152+n*8388608
 sy:Z.s.y.natAbs<=2097152+n*8388608
 sz:Z.s.z.natAbs<=2097152+n*8388608
 c:Z.c.x.natAbs<=1000000/\Z.c.y.natAbs<=1000000/\Z.c.z.natAbs<=1000000
 d:Z.d.x.natAbs<=1000000/\Z.d.y.natAbs<=1000000/\Z.d.z.natAbs<=1000000
theorem jme (h:v.x.natAbs<=1000000/\v.y.natAbs<=1000000/\v.z.natAbs<=1000000) (l:20<=n):v.bd n :=
 ⟨Bd.mono (n:=20) (by unfold Bd;omega) l,Bd.mono (n:=20) (by unfold Bd;omega) l,Bd.mono (n:=20) (by unfold Bd;omega) l⟩
structure RawOk (n:Nat) (Z:Sht):Prop where
 b:RawB n Z
 nz:Z.u.nz
theorem RawB.mono {m:Nat} (h:RawB n Z) (l:n<=m):RawB m Z :=
 ⟨h.w1,h.w3,xav h.sx (by omega),xav h.sy (by omega),xav h.sz (by omega),h.c,h.d⟩
theorem RawOk.mono {m:Nat} (h:RawOk n Z) (l:n<=m):RawOk m Z:=⟨h.b.mono l,h.nz⟩
def Bas (H:Hp) (b c d:Addr) (Z:Sht):Prop:=H b=some (.tup [.int Z.s.x,.int Z.s.y,.int Z.s.z,.int Z.w])/\H c=some (.tup [.int Z.c.x,.int Z.c.y,.int Z.c.z])/\H d=some (.tup [.int Z.d.x,.int Z.d.y,.int Z.d.z])
theorem Bas.keep {b c d:Addr} (h:Bas H b c d Z) (s:SameT H H'):Bas H' b c d Z:=⟨s _ _ h.1,s _ _ h.2.1,s _ _ h.2.2⟩
def rM1 (H:Hp) (L M:Addr):L2.St->Hp->Prop:=fun σ H'=>∃way:Int,σ=[some (.ref L),some (.ref M),some (.int way),none,none,none,none,none,none,none]/\0<=way/\way<8/\SameB L H H'/\Sta H' L
def rM2 (H:Hp) (L M:Addr):L2.St->Hp->Prop:=fun σ H'=>∃way sp:Int,σ=[some (.ref L),some (.ref M),some (.int way),some (.int sp),none,none,none,none,none,none]/\0<=way/\way<8/\3<=sp/\sp<=1000000/\SameB L H H'/\Sta H' L
def rM3 (H:Hp) (L M:Addr):L2.St->Hp->Prop:=fun σ H'=>∃(way sp w:Int) (b:Addr) (v:Tri),σ=[some (.ref L),some (.ref M),some (.int way),some (.int sp),some (.ref b),none,none,none,none,none]/\0<=way/\way<8/\3<=sp/\sp<=1000000/\H' b=some (.tup [.int v.x,.int v.y,.int v.z,.int w])/\1<=w/\w<=3/\v.x.natAbs<=1000001/\v.y.natAbs<=1000001/\v.z.natAbs<=1000001/\SameB L H H'/\Sta H' L
def rM5 (H:Hp) (L M:Addr):L2.St->Hp->Prop:=fun σ H'=>∃(way:Int) (b c d:Addr) (Z:Sht) (o3:Option V),σ=[some (.ref L),some (.ref M),some (.int way),o3,some (.ref b),some (.ref c),some (.ref d),none,none,none]/\0<=way/\way<8/\Bas H' b c d Z/\RawB 0 Z/\SameB L H H'/\Sta H' L
def rM6 (H:Hp) (L M:Addr):L2.St->Hp->Prop:=fun σ H'=>∃(way:Int) (b c d:Addr) (Z:Sht) (o3:Option V),σ=[some (.ref L),some (.ref M),some (.int way),o3,some (.ref b),some (.ref c),some (.ref d),none,none,none]/\0<=way/\way<8/\Bas H' b c d Z/\RawOk 0 Z/\SameB L H H'/\Sta H' L
def rM7 (H:Hp) (L M:Addr) (n:Nat):L2.St->Hp->Prop:=fun σ H'=>∃(b c d:Addr) (Z:Sht) (o2 o3 o7 o8 o9:Option V),σ=[some (.ref L),some (.ref M),o2,o3,some (.ref b),some (.ref c),some (.ref d),o7,o8,o9]/\Bas H' b c d Z/\RawOk (n+1) Z/\SameB L H H'/\Sta H' L
def RawAt (H:Hp) (t:Addr) (Z:Sht) (sh:Nat):Prop:=∃b c d:Addr,H t=some (.tup [.ref b,.ref c,.ref d,.int (sh:Nat)])/\H b=some (.tup [.int Z.s.x,.int Z.s.y,.int Z.s.z,.int Z.w])/\H c=some (.tup [.int Z.c.x,.int Z.c.y,.int Z.c.z])/\H d=some (.tup [.int Z.d.x,.int Z.d.y,.int Z.d.z])/\sh<6
theorem RawAt.keep {t:Addr} {sh:Nat} (h:RawAt H t Z sh) (s:SameT H H'):RawAt H' t Z sh:=by
 obtain⟨b,c,d,h1,h2,h3,h4,h5⟩:=h;exact⟨b,c,d,s _ _ h1,s _ _ h2,s _ _ h3,s _ _ h4,h5⟩
def RwAt (n:Nat) (H:Hp) (t:Addr) (z:Sht × Nat):Prop:=RawAt H t z.1 z.2/\RawOk n z.1
theorem RwAt.keep {t:Addr} {z:Sht × Nat} (h:RwAt n H t z) (s:SameT H H'):RwAt n H' t z:=⟨h.1.keep s,h.2⟩
theorem RwAt.rds {t:Addr} {z:Sht × Nat} (h:RwAt n H t z):Rds K H (.ref t) (.tuple [.tuple [.int z.1.s.x,.int z.1.s.y,.int z.1.s.z,.int z.1.w],.tuple [.int z.1.c.x,.int z.1.c.y,.int z.1.c.z],.tuple [.int z.1.d.x,.int z.1.d.y,.int z.1.d.z],.int (z.2:Nat)]):=by
 obtain⟨⟨b,c,d,h1,h2,h3,h4,_⟩,_⟩:=h;exact .tup (SqT.of h1) (.cons (.tup (SqT.of h2) (RdsAll.ints [_,_,_,_])) (.cons (.tup (SqT.of h3) (RdsAll.ints [_,_,_])) (.cons (.tup (SqT.of h4) (RdsAll.ints [_,_,_])) (.cons (.int _) .nil))))
def rwD (z:Sht × Nat):PyData:=.tuple [.tuple [.int z.1.s.x,.int z.1.s.y,.int z.1.s.z,.int z.1.w],.tuple [.int z.1.c.x,.int z.1.c.y,.int z.1.c.z],.tuple [.int z.1.d.x,.int z.1.d.y,.int z.1.d.z],.int (z.2:Nat)]
theorem jlf {rs:List Addr} {zs:List (Sht × Nat)} (h:All2 (RwAt n H) rs zs):RdsAll K H (rs.map V.ref) (zs.map rwD):=by
 induction h with
 | nil=>exact .nil
 | cons h _ ih=>exact .cons h.rds ih
theorem jnF (zs:List (Sht × Nat)):PyData.canLayAll0 (zs.map rwD)=true/\PyData.depthAll (zs.map rwD)<=2:=by
  induction zs with
  | nil=>exact⟨rfl,by decide⟩
  | cons z zs ih =>
    obtain⟨a,b⟩:=ih;refine⟨?_,?_⟩
    . rw[xaH]
      simp [PyData.canLayAll0,a,rwD,PyData.canLay0]
    . rw[xaH]
      simp [PyData.depthAll,rwD,PyData.depth];omega
theorem jpB (zs:List (Sht × Nat)):SeqAt.shaped (.list (zs.map rwD))=true:=by
 obtain⟨a,b⟩:=jnF zs;unfold SeqAt.shaped;simp [PyData.canLay0,a,PyData.depth];omega
theorem jhu {p:Addr} {rs:List Addr} {zs:List (Sht × Nat)} (hM:H M=some (.lst (rs.map V.ref))) (h:All2 (RwAt n H) rs zs) (hp:H p=some (.lst [])) (q:Q (.bl (!decide (rs=[]))) H):jit K true (.ref M) (.ref p) H Q:=by
 refine⟨_,.list [],.lst (SqL.of hM) (jlf h),.lst (SqL.of hp) .nil,jpB zs,by decide,?_⟩;have e:PyData.eqv (.list (zs.map rwD)) (.list [])=decide (rs=[]):=by
  cases h with
  | nil=>rfl
  | cons _ _=>rfl
 rw[e];exact q
inductive spRawi (vs:List V) (H:Hp) (Q:VK):Prop
 | mk (L M:Addr) (n:Nat) (rs:List Addr) (zs:List (Sht × Nat)) (_:vs=[.ref L,.ref M]) (_:Sta H L) (_:M≠L) (_:H M=some (.lst (rs.map V.ref))) (_:All2 (RwAt n H) rs zs) (_:n<=8) (_:rs.length<900) (_:∀(t:Addr) (H':Hp) (z:Sht × Nat),SameB L H H'->Sta H' L->RwAt (n+1) H' t z->Q (.ref t) H')
def jpC:Sp:=fun vs H Q _=>spRawi vs H Q
theorem jnG {X:Cx} {o:Operator} {r:R2} {a b:Expr} {ta tb:TE} {pos:Pos} (h:OpR X (binaryOp o) r) (ha:WE X a ta) (hb:WE X b tb):WE X (.BinOp a o b pos) (tOp r ta tb):=⟨jau h ha.h hb.h⟩
def cmp (v:Tri) (k:Nat):Int:=if k=0 then v.x else if k=1 then v.y else v.z
theorem cmp3 (v:Tri) (h:k<3):atI [V.int v.x,V.int v.y,V.int v.z] (0+(k:Int))=some (.int (cmp v k)):=by
 match k,h with
 | 0,_=>rfl
 | 1,_=>rfl
 | 2,_=>rfl
theorem jpD (v:Tri) (u:Int) (h:k<3):atI [V.int v.x,V.int v.y,V.int v.z,V.int u] (0+(k:Int))=some (.int (cmp v k)):=by
 match k,h with
 | 0,_=>rfl
 | 1,_=>rfl
 | 2,_=>rfl
theorem jew (h:v.x.natAbs<=n/\v.y.natAbs<=n/\v.z.natAbs<=n) (k:Nat):(cmp v k).natAbs<=n:=by
 unfold cmp;split
 ·exact h.1
 ·split
  ·exact h.2.1
  ·exact h.2.2
theorem jnH {w:Int} (hx:x.natAbs<=2) (hc:c.natAbs<=1000000) (hw:w.natAbs<=3):(a+x*c*w).natAbs<=a.natAbs+6000000:=by
 have h1:=xcz hx hc;rw[<- xcx] at h1;have h2:=xcz h1 hw;rw[<- xcx] at h2;omega
theorem jga {α β:Type} {R:α->β->Prop} {as:List α} {bs:List β} (h:All2 R as bs) (n:as≠[]):∃a b k,as.length=k+1/\as[k]?=some a/\R a b:=by
  cases e:as.length with
  | zero=>exact absurd (xaE.mp e) n
  | succ k =>
    have ha:as[k]?=some as[k]:=xac (by omega);obtain⟨b,_,r⟩:=h.getA ha;exact⟨_,b,k,rfl,ha,r⟩
theorem upr_u (Z:Sht):upr Z.c Z.d=Z.u:=rfl
theorem jpE (T:Tx K mg t1 t2) (F:At K mg "_law_raw" jb9 ["state","made"] []) (da:jao P w K mg base CX0 1 "_law_next" ["state","many"] [] jju) (dG:jao P w K mg base CX0 2 "_law_arrow" ["state","span"] [] jpz) (dF:jao P w K mg base CX0 1 "_law_upright" ["one","other"] [] (jnE K)):jao P w K mg base CX0 3 "_law_raw" ["state","made"] [] jpC:=by
 refine F.okW jeq (fun vs H Q E h=>?_) (fun f cdv A outer s H vs Q E hr h=>?_)
 ·obtain⟨L,M,n,rs,zs,rfl,_⟩:=h;rfl
 obtain⟨L,M,n,rs,zs,rfl,hL,nM,hM,hz,n8,l9,q⟩:=h;have S:=jeq;refine⟨_,(jkB ⟨(jat (i:=2) S.nd rfl (Or.inl rfl) (jag da hr.m rfl jav (jaa (pv 0) (jaa jab jad jaj) jae)))⟩
  (jc1 (rM1 H L M) ⟨(jaL (PW.pt (jfC (jaq jdr (pv 2) jab (jax _)) (jeX (jaq (jcm (jgi hr)) (pv 1) (jaM jad) (jax _)))))
  (jai (jas (jak ix_list (pv 1) (jdq jb6 jab))))
  jaw)⟩
  (jc1 (rM2 H L M) (jfR (joE ix_list (jcr (jal ⟨jab⟩ (jal ⟨jab⟩ (jal ⟨jab⟩ (jal ⟨(jau jgS jab jab)⟩ jaP ja7) jaj) jaj) jaj)) (jag da hr.m rfl jav (jaa (pv 0) (jaa jab jad jaj) jae)) (fun _ _=>rfl)) (jan (i:=3) S.nd rfl (Or.inl rfl)))
  (jc1 (rM3 H L M) (jfR (jnG jeZ ⟨(jag dG hr.m rfl jav (jaa (pv 0) (jaa (jau jbf (pv 3) jab) jad ja7) jae))⟩ (ja3 (jal (joE ix_list (jcr (jal ⟨jab⟩ (jal ⟨jab⟩ (jal ⟨jab⟩ (jal ⟨jab⟩ jaP jaj) jaj) jaj) jaj)) (jag da hr.m rfl jav (jaa (pv 0) (jaa jab jad jaj) jae)) (fun _ _=>rfl)) jaP jap))) (jan (i:=4) S.nd rfl (Or.inr rfl)))
  ⟨(jaf (jat (i:=5) S.nd rfl (Or.inr rfl) (jag dG hr.m rfl jav (jaa (pv 0) (jaa (pv 3) jad jae) jae)))
  (jaN (rM5 H L M) (jat (i:=6) S.nd rfl (Or.inl rfl) (jag dG hr.m rfl jav (jaa (pv 0) (jaa (pv 3) jad jae) jae)))
  (jaN (rM6 H L M) (jaL (jaq (jiu (jgi hr)) (jag dF hr.m rfl jav (jaa (pv 5) (jaa (pv 6) jad jae) jae)) (jaB (jaa jab (jaa jab (jaa jab jad jaj) jaj) jaj)) (jax _))
  (jaf (jat (i:=5) S.nd rfl (Or.inr rfl) (jaB (jaa jab (jaa jab (jaa (pv 2) jad jae) jaj) jaj)))
  (jai (jat (i:=6) S.nd rfl (Or.inl rfl) (jaB (jaa jab (jaa jab (jaa jab jad jaj) jaj) jaj)))))
  jaw)
  (jaN (rM7 H L M n) (jaL (PW.pt (jfC (jaq jdr (pv 2) jab (jax _)) (jeX (jaq (jcm (jgi hr)) (pv 1) (jaM jad) (jax _)))))
  (jaf (jbQ (jak ix_list (pv 1) (jdq jb6 jab)) (jck rfl (jay (jan (i:=4) S.nd rfl (Or.inr rfl)) (jay (jan (i:=5) S.nd rfl (Or.inr rfl)) (jay (jan (i:=6) S.nd rfl (Or.inl rfl)) (jay (jan (i:=7) S.nd rfl (Or.inl rfl)) jbj))))))
  (jaf (jat (i:=8) S.nd rfl (Or.inr rfl) (jau ja6 (jag da hr.m rfl jav (jaa (pv 0) (jaa jab jad jaj) jae)) jab))
  (jaf (jbI (i:=9) rfl S.nd rfl rfl (N':=["k","base","across","one"]) (ix:=[4,8,5]) ⟨rfl,rfl,by decide +kernel,by decide +kernel,by decide +kernel,(show ∀y:Str × NameKind,y∈_->y.2=NameKind.free->(jah jb9).names.lookup y.1=some .cell\/(jah jb9).names.lookup y.1=some .free from by decide +kernel),(.cons rfl (.inl rfl) rfl (.cons rfl (.inl rfl) rfl (.cons rfl (.inl rfl) rfl .nil)))⟩ (jaV rfl T.m_range (jaa jab jad jaj)) (fun _ _ _ _=>jan (i:=0) (show (["k","base","across","one"]:List Str).Nodup from by decide +kernel) rfl (Or.inl rfl)) (fun _ _ _ _=>jbd) (fun _ _ _ _=>(jau jbf (jak (ja0 (K:=K) rfl) (pv 1) (pv 0)) (jau jaA (jau jaA (pv 2) (jak (ja0 (K:=K) rfl) (pv 3) (pv 0))) (jak (ja0 (K:=K) rfl) (pv 1) jab)))))
  (jai (jat (i:=4) S.nd rfl (Or.inr rfl) (jaU jcc rfl T.m_tuple boot_tuple (jaa (jau jb7 (pv 9) (jaM (jaa (jak jam (pv 4) jab) jad jap))) jad ja7)))))))
  jaw)
  (jai (jas (jaB (jaa (pv 4) (jaa (pv 5) (jaa (pv 6) (jaa (jag da hr.m rfl jav (jaa (pv 0) (jaa jab jad jaj) jae)) jad jaF) jae) jae) jae))))))))⟩)))),?_⟩
 walk_at "rf";refine⟨L,8,rfl,hL,by decide,by decide,fun H1 way s1 b1 w0 w8=>?_⟩;have zk:∀{H':Hp},SameB L H H'->All2 (RwAt n H') rs zs:=fun s=>hz.mono fun _ _ h=>h.keep (hL.t s);refine⟨rfl,jbP (fun _=>?_) fun _=>⟨way,rfl,w0,w8,s1,b1⟩,?_⟩
 ·refine⟨by decide,fun p hp=>?_⟩;have s2:=Same.new hp (.lst []);refine jhu (s2 _ _ (s1 _ _ nM hM)) (zk (s1.trans s2.b)) jac ⟨_,rfl,jbP (fun c=>?_) fun _=>⟨way,rfl,w0,w8,s1.trans s2.b,b1.keep s2⟩⟩;obtain⟨r,z,k,lk,hr',hz'⟩:=jga (zk (s1.trans s2.b)) (by
   rintro rfl;exact absurd c (by decide))
  exact ixL (SqL.of (s2 _ _ (s1 _ _ nM hM))) (jcQ (n:=k) (v:=.ref r) (by rw[xaa];exact lk) (by rw[xae,hr'];rfl)) (q r _ z (s1.trans s2.b) (b1.keep s2) ⟨hz'.1,hz'.2.mono (by omega)⟩)
 rintro σ1 H1 ⟨way,rfl,w0,w8,s1,b1⟩;walk_at "rf";refine⟨⟨by decide,by decide,by decide⟩,by decide,fun p hp=>?_,?_⟩
 ·refine jeA hp fun H2 s2 e2=>?_;refine⟨L,4,rfl,b1.keep s2,by decide,by decide,fun H3 d s3 b3 d0 d4=>?_⟩;have e3:=s3 _ _ (b1.ne hp) e2;have s13:=s1.trans (s2.b.trans s3);have:d=0\/d=1\/d=2\/d=3:=by omega
  rcases this with rfl | rfl | rfl | rfl<;>exact ixL (SqL.of e3) rfl ⟨way,_,rfl,w0,w8,by decide,by decide,s13,b3⟩
 rintro σ2 H2 ⟨way,sp,rfl,w0,w8,sp0,sp1,s2,b2⟩;walk_at "rf";refine⟨⟨L,_,rfl,b2,by omega,by omega,fun t H3 v nt s3 b3 et hv=>⟨by decide,fun p hp=>?_⟩⟩,?_⟩
 ·refine jeA hp fun H4 j1 e1=>?_;have b4:=b3.keep j1;refine⟨L,4,rfl,b4,by decide,by decide,fun H5 d s5 b5 d0 d4=>?_⟩;have e5:=s5 _ _ (b3.ne hp) e1;have t5:=s5 _ _ (b4.tup (j1 _ _ et)) (j1 _ _ et);obtain⟨u,eu,u1,u3⟩:∃u:Int,atI [V.int 1,V.int 1,V.int 2,V.int 3] d=some (.int u)/\1<=u/\u<=3:=by
   have:d=0\/d=1\/d=2\/d=3:=by omega
   rcases this with rfl | rfl | rfl | rfl
   ·exact⟨1,rfl,by decide,by decide⟩
   ·exact⟨1,rfl,by decide,by decide⟩
   ·exact⟨2,rfl,by decide,by decide⟩
   ·exact⟨3,rfl,by decide,by decide⟩
  have s25:=s2.trans (s3.trans (j1.b.trans s5));refine ixL (SqL.of e5) eu ⟨by decide,fun p2 hp2=>?_⟩;have j2:=Same.new hp2 (.tup [.int u]);refine⟨t,p2,_,_,rfl,rfl,SqT.of (j2 _ _ t5),SqT.of jac,(fun z=>nomatch z),xaQ (jaD (show 4<1000 by decide)),(fun z=>nomatch z),fun _ p3 hp3=>?_⟩;have j3:=j2.trans (Same.new hp3 (.tup ([.int v.x,.int v.y,.int v.z]++[.int u])));exact⟨way,sp,u,p3,v,rfl,w0,w8,sp0,sp1,jac,u1,u3,by omega,by omega,by omega,s25.trans j3.b,b5.keep j3⟩
 rintro σ3 H3 ⟨way,sp,u,b,v,rfl,w0,w8,sp0,sp1,hb,u1,u3,v1,v2,v3,s3,b3⟩;walk_at "rf";refine⟨L,_,rfl,b3,by omega,by omega,fun c H4 x nc s4 b4 ec hx=>⟨⟨L,_,rfl,b4,by omega,by omega,fun d H5 y nd s5 b5 ed hy=>?_⟩,?_⟩⟩
 ·have c5:=s5 _ _ (b4.tup ec) ec;have b':=s5 _ _ (b4.tup (s4 _ _ (b3.tup hb) hb)) (s4 _ _ (b3.tup hb) hb);exact⟨way,b,c,d,⟨v,u,x,y⟩,_,rfl,w0,w8,⟨b',c5,ed⟩,⟨u1,u3,by show v.x.natAbs<=_;omega,by show v.y.natAbs<=_;omega,by show v.z.natAbs<=_;omega,by show x.x.natAbs<=_/\x.y.natAbs<=_/\x.z.natAbs<=_;omega,by show y.x.natAbs<=_/\y.y.natAbs<=_/\y.z.natAbs<=_;omega⟩,s3.trans (s4.trans s5),b5⟩
 rintro σ5 H5 ⟨way,b,c,d,Z,o3,rfl,w0,w8,hB,rB,s5,b5⟩;walk_at "rf";refine⟨⟨c,d,Z.c,Z.d,rfl,.inr (SqT.of hB.2.1),.inr (SqT.of hB.2.2),jme rB.c (by decide),jme rB.d (by decide),fun g H6 ng s6 eg=>⟨by decide,fun p hp=>?_⟩⟩,?_⟩
 ·refine jeA hp fun H7 j1 e1=>?_;have s7:=s5.trans (s6.b.trans j1.b);have b7:=(b5.keep s6).keep j1;have hB7:=hB.keep (s6.t.trans j1.t);refine jky (x:=[(upr Z.c Z.d).x,(upr Z.c Z.d).y,(upr Z.c Z.d).z]) (y:=[0,0,0]) (SqT.of (j1 _ _ eg)) (SqT.of e1) ⟨_,rfl,jbP (fun _=>?_) fun c=>?_⟩
  ·refine⟨by decide,fun p1 hp1=>⟨by decide,fun p2 hp2=>?_⟩⟩;have j2:=Same.new hp1 (.tup [.int 1,.int 0,.int way]);have j3:=Same.new hp2 (.tup [.int 0,.int 1,.int 1]);refine⟨way,b,p1,p2,⟨Z.s,Z.w,⟨1,0,way⟩,⟨0,1,1⟩⟩,o3,rfl,w0,w8,⟨j3 _ _ (j2 _ _ hB7.1),j3 _ _ jac,jac⟩,⟨⟨rB.w1,rB.w3,rB.sx,rB.sy,rB.sz,⟨show (1:Int).natAbs<=_ by decide,show (0:Int).natAbs<=_ by decide,show way.natAbs<=_ by omega⟩,⟨show (0:Int).natAbs<=_ by decide,show (1:Int).natAbs<=_ by decide,show (1:Int).natAbs<=_ by decide⟩⟩,fun z=>absurd z.2.2 (by show ¬((1:Int)*1-0*0=0);decide)⟩,s7.trans (j2.b.trans j3.b),(b7.keep j2).keep j3⟩
  ·refine⟨way,b,_,_,Z,o3,rfl,w0,w8,hB7,⟨rB,fun z=>c ?_⟩,s7,b7⟩;rw[upr_u];obtain⟨z1,z2,z3⟩:=z;rw[z1,z2,z3];exact decide_eq_true rfl
 rintro σ6 H6 ⟨way,b,c,d,Z,o3,rfl,w0,w8,hB,rB,s6,b6⟩;walk_at "rf";refine⟨jbP (fun _=>?_) fun _=>⟨b,c,d,Z,_,_,_,_,_,rfl,hB,rB.mono (by omega),s6,b6⟩,?_⟩
 ·refine⟨by decide,fun p hp=>?_⟩;have s2:=Same.new hp (.lst []);refine jhu (s2 _ _ (s6 _ _ nM hM)) (zk (s6.trans s2.b)) jac ⟨_,rfl,jbP (fun c=>?_) fun _=>⟨b,c,d,Z,_,_,_,_,_,rfl,hB.keep s2.t,rB.mono (by omega),s6.trans s2.b,b6.keep s2⟩⟩;obtain⟨r,⟨Z',sh⟩,k,lk,hr',⟨b',c',d',q1,q2,q3,q4,q5⟩,rB'⟩:=jga (zk (s6.trans s2.b)) (by
   rintro rfl;exact absurd c (by decide))
  refine ixL (SqL.of (s2 _ _ (s6 _ _ nM hM))) (jcQ (n:=k) (v:=.ref r) (by rw[xaa];exact lk) (by rw[xae,hr'];rfl)) ?_;refine⟨r,rfl,_,SqT.of q1,rfl,_,_,rfl,_,_,rfl,_,_,rfl,_,_,rfl,rfl,L,5,rfl,b6.keep s2,by decide,by decide,fun H7 x s3 b7 x0 x5=>⟨x,rfl,by decide,by decide,fun acc hacc=>?_⟩⟩;change RawOk n Z' at rB';have B':Bas H7 b' c' d' Z':=Bas.keep ⟨q2,q3,q4⟩ ((b6.keep s2).t s3);have s67:=s6.trans (s2.b.trans s3);refine jhN (n:=3) (fun k=>.int (cmp Z'.s k+(x-2)*cmp Z'.c k*Z'.w)) (by decide) hacc (fun k H8 R hk s8 hR=>?_) fun H8 s8 e8=>?_
  ·have b8:=s8 _ _ B'.1;have c8:=s8 _ _ B'.2.1;have hc:=jew rB'.b.c k;have fx:Fit (x-2):=Bd.fit (n:=61) (by unfold Bd;omega);have fc:Fit (cmp Z'.c k):=Bd.fit (n:=61) (by unfold Bd;omega);have fw:Fit Z'.w:=Bd.fit (n:=61) (by have:=rB'.b.w1;have:=rB'.b.w3;unfold Bd;omega);have fp:Fit ((x-2)*cmp Z'.c k):=Bd.fit (n:=200) (Bd.mono (Bd.mul (n:=61) (m:=61) (by unfold Bd;omega) (by unfold Bd;omega)));walk_at "rf";exact ixT (SqT.of b8) (jpD Z'.s _ hk) (ixT (SqT.of c8) (cmp3 Z'.c hk) ⟨_,rfl,fx,fc,ixT (SqT.of b8) (i:=3) rfl ⟨_,rfl,fp,fw,_,rfl,hR _ (Same.refl _)⟩⟩)
  ·have b8:=s8 _ _ B'.1;walk_at "rf";refine ixT (SqT.of b8) (i:=3) rfl ⟨by decide,fun p2 hp2=>?_⟩;have j2:=Same.new hp2 (.lst [.int Z'.w]);refine⟨acc,p2,_,_,rfl,rfl,j2 _ _ e8,jac,xaQ (jaD (show 3+1<1000 by decide)),fun p3 hp3=>?_⟩;refine⟨p3,rfl,_,SqL.of jac,fun p4 hp4=>?_⟩;have s84:=(s8.trans j2).trans ((Same.new hp3 (.lst ((List.map (fun k=>V.int (cmp Z'.s k+(x-2)*cmp Z'.c k*Z'.w)) (List.range 3))++[.int Z'.w]))).trans (Same.new hp4 (.tup ((List.map (fun k=>V.int (cmp Z'.s k+(x-2)*cmp Z'.c k*Z'.w)) (List.range 3))++[.int Z'.w]))));have hx:(x-2).natAbs<=2:=by omega
   have hw:Z'.w.natAbs<=3:=by have:=rB'.b.w1;have:=rB'.b.w3;omega
   have e0:=jnH (a:=cmp Z'.s 0) hx (jew rB'.b.c 0) hw;have e1:=jnH (a:=cmp Z'.s 1) hx (jew rB'.b.c 1) hw;have e2:=jnH (a:=cmp Z'.s 2) hx (jew rB'.b.c 2) hw;have t0:=rB'.b.sx;have t1:=rB'.b.sy;have t2:=rB'.b.sz;change _<=Z'.s.x.natAbs+_ at e0;change _<=Z'.s.y.natAbs+_ at e1;change _<=Z'.s.z.natAbs+_ at e2;exact⟨p4,c',d',⟨⟨cmp Z'.s 0+(x-2)*cmp Z'.c 0*Z'.w,cmp Z'.s 1+(x-2)*cmp Z'.c 1*Z'.w,cmp Z'.s 2+(x-2)*cmp Z'.c 2*Z'.w⟩,Z'.w,Z'.c,Z'.d⟩,_,_,_,_,_,rfl,⟨jac,s84 _ _ B'.2.1,s84 _ _ B'.2.2⟩,⟨⟨rB'.b.w1,rB'.b.w3,by show (cmp Z'.s 0+(x-2)*cmp Z'.c 0*Z'.w).natAbs<=_;omega,by show (cmp Z'.s 1+(x-2)*cmp Z'.c 1*Z'.w).natAbs<=_;omega,by show (cmp Z'.s 2+(x-2)*cmp Z'.c 2*Z'.w).natAbs<=_;omega,rB'.b.c,rB'.b.d⟩,rB'.nz⟩,s67.trans s84.b,b7.keep s84⟩
 rintro σ7 H7 ⟨b,c,d,Z,o2,o3,o7,o8,o9,rfl,hB,rB,s7,b7⟩;walk_at "rf";refine⟨L,6,rfl,b7,by decide,by decide,fun H8 x s8 b8 x0 x6=>⟨by decide,fun p hp=>?_⟩⟩;obtain⟨k,rfl⟩:=xbn x0;have hB8:=hB.keep (b7.t s8);have j:=Same.new hp (.tup [.ref b,.ref c,.ref d,.int (k:Nat)]);exact q p _ (Z,k) ((s7.trans s8).trans j.b) (b8.keep j) ⟨⟨b,c,d,jac,j _ _ hB8.1,j _ _ hB8.2.1,j _ _ hB8.2.2,by omega⟩,rB⟩
def shp6:List (List (Int × Int)):=[[(0,0),(2,0),(0,2)],[(0,0),(3,1),(1,3)],[(0,0),(2,0),(2,2),(0,2)],[(0,0),(3,0),(2,1),(0,1)],[(0,0),(2,0),(3,1),(1,3),(0,1)],[(1,0),(2,0),(3,1),(3,2),(2,3),(0,1)]]
def plT (p:Int × Int):Tri:=⟨p.1-1,p.2-1,1⟩
def shp (i:Nat):List Tri:=(shp6.getD i []).map plT
def cM0 (H:Hp) (t b c d:Addr) (sh:Nat):L2.St->Hp->Prop:=fun σ H'=>σ=[some (.ref t),some (.ref b),some (.ref c),some (.ref d),some (.int (sh:Nat)),none,none,none,none,none]/\Same H H'
def cMr (H:Hp) (t b c d:Addr) (sh m:Nat):L2.St->Hp->Prop:=fun σ H'=>∃(g:Addr) (vs:List V),σ=[some (.ref t),some (.ref b),some (.ref c),some (.ref d),some (.int (sh:Nat)),some (.ref g),none,none,none,none]/\H' g=some (.lst vs)/\TabA (shp6.take m) vs H'/\Same H H'
theorem TabA.app:∀{pss qss:List (List (Int × Int))} {vs ws:List V} {H:Hp},TabA pss vs H->TabA qss ws H->TabA (pss++qss) (vs++ws) H
 | [],_,_,_,_,h,k=>by cases h;exact k
 | _::_,_,_,_,_,⟨v,ws,e,h1,h⟩,k=>by rw[e];exact⟨v,_,rfl,h1,h.app k⟩
theorem jgb {b:Int} {m:Nat} (ha:a.natAbs<=m) (hb:b.natAbs<=n):(a*b).natAbs<=m*n:=by
 rw[xcx];exact xcz ha hb
def rwc (Z:Sht) (v:Tri) (k:Nat):Int:=if k=0 then rX Z v else if k=1 then rY Z v else rZ Z v
theorem jpF {u:Int × Int} (h:k<3):cmp Z.s k+Z.w*((u.1-1)*cmp Z.c k+(u.2-1)*cmp Z.d k)=rwc Z (plT u) k:=by
 match k,h with
 | 0,_=>show Z.s.x+_=Z.s.x*1+_;rw[xbY];rfl
 | 1,_=>show Z.s.y+_=Z.s.y*1+_;rw[xbY];rfl
 | 2,_=>show Z.s.z+_=Z.s.z*1+_;rw[xbY];rfl
theorem jjv (h:v.z=1):rW Z v=Z.w:=by unfold rW;rw[h,xbY]
theorem jnI (hw:1<=Z.w) (hv:1<=v.z):jdU ⟨rX Z v,rY Z v,rZ Z v,rW Z v⟩=spt Z v:=by
 have W1:0<rW Z v:=xan (by omega) (by omega);unfold jdU;rw[if_neg (by show ¬rW Z v<0;omega)];rfl
theorem jjw {s w p q:Int} (hs:s.natAbs<=2097152+n*8388608) (n9:n<=9) (hw:w.natAbs<=3) (hp:p.natAbs<=2) (hq:q.natAbs<=2) (hc:c.natAbs<=1000000) (hd:d.natAbs<=1000000):Bd 27 (s*1+w*(p*c+q*d)):=by
 have l1:=jgb hp hc;have l2:=jgb hq hd;have l3:=jgb hw (show (p*c+q*d).natAbs<=4000000 by omega);rw[xbY];unfold Bd;omega
theorem jmf (h:RawB n Z) (n9:n<=9) (h1:v.x.natAbs<=2) (h2:v.y.natAbs<=2) (h3:v.z=1):Bd 27 (rX Z v)/\Bd 27 (rY Z v)/\Bd 27 (rZ Z v)/\Bd 27 (rW Z v):=by
 have hw:Z.w.natAbs<=3:=by have:=h.w1;have:=h.w3;omega
 unfold rX rY rZ rW;rw[h3];refine⟨jjw h.sx n9 hw h1 h2 h.c.1 h.d.1,jjw h.sy n9 hw h1 h2 h.c.2.1 h.d.2.1,jjw h.sz n9 hw h1 h2 h.c.2.2 h.d.2.2,?_⟩;rw[xbY];unfold Bd;omega
theorem PrP.ix {rs:List Addr} {ps:List (Int × Int)} (h:PrP H rs ps):∀{i:Nat} {r:Addr},rs[i]?=some r->∃p,ps[i]?=some p/\H r=some (.tup [.int p.1,.int p.2]):=by
  induction h with
  | nil=>intro i r z;cases z
  | cons h _ ih =>
    intro i r z;cases i with
    | zero=>cases z;exact⟨_,rfl,h⟩
    | succ i=>exact ih z
theorem jlg:∀i,i<6->∀p∈shp6.getD i [],0<=p.1/\p.1<=3/\0<=p.2/\p.2<=3:=by decide +kernel
theorem jlh:∀i,i<6->3<=(shp6.getD i []).length/\(shp6.getD i []).length<=6:=by decide +kernel
inductive spCorni (vs:List V) (H:Hp) (Q:VK):Prop
 | mk (t:Addr) (n:Nat) (z:Sht × Nat) (_:vs=[.ref t]) (_:RwAt n H t z) (_:n<=9) (_:∀(l:Addr) (H':Hp) (rs:List Addr),H l=none->Same H H'->Cor H' l rs ((shp z.2).map (spt z.1))->Q (.ref l) H')
def jhv:Sp:=fun vs H Q _=>spCorni vs H Q
theorem jnJ (T:Tx K mg t1 t2) (F:At K mg "_law_corners" ja1 ["raw"] []) (dJ:jao P w K mg base CX0 3 "made_spot" ["x","y","z","w"] [] jnb):jao P w K mg base CX0 4 "_law_corners" ["raw"] [] jhv:=by
 refine F.okW jcD (fun vs H Q E h=>?_) (fun f cdv A outer s H vs Q E hr h=>?_)
 ·obtain⟨t,n,z,rfl,_⟩:=h;rfl
 obtain⟨t,n,⟨Z,sh⟩,rfl,⟨⟨b,c,d,h1,h2,h3,h4,h6⟩,ok⟩,n9,q⟩:=h;have S:=jcD;refine⟨_,(jc1 (cM0 H t b c d sh) ⟨(jbQ (pv 0) (jck rfl (jay (jan (i:=1) S.nd rfl (Or.inr rfl)) (jay (jan (i:=2) S.nd rfl (Or.inr rfl)) (jay (jan (i:=3) S.nd rfl (Or.inr rfl)) (jay (jan (i:=4) S.nd rfl (Or.inl rfl)) jbj))))))⟩
  (jc1 (cMr H t b c d sh 3) (jfR (jcr (jal (jcr (jal (ja3 (jal ⟨jab⟩ (jal ⟨jab⟩ jaP jaj) jaj)) (jal (ja3 (jal ⟨jab⟩ (jal ⟨jab⟩ jaP jaj) jaj)) (jal (ja3 (jal ⟨jab⟩ (jal ⟨jab⟩ jaP jaj) jaj)) jaP jaE) jaE) jaE)) (jal (jcr (jal (ja3 (jal ⟨jab⟩ (jal ⟨jab⟩ jaP jaj) jaj)) (jal (ja3 (jal ⟨jab⟩ (jal ⟨jab⟩ jaP jaj) jaj)) (jal (ja3 (jal ⟨jab⟩ (jal ⟨jab⟩ jaP jaj) jaj)) jaP jaE) jaE) jaE)) (jal (jcr (jal (ja3 (jal ⟨jab⟩ (jal ⟨jab⟩ jaP jaj) jaj)) (jal (ja3 (jal ⟨jab⟩ (jal ⟨jab⟩ jaP jaj) jaj)) (jal (ja3 (jal ⟨jab⟩ (jal ⟨jab⟩ jaP jaj) jaj)) (jal (ja3 (jal ⟨jab⟩ (jal ⟨jab⟩ jaP jaj) jaj)) jaP jaE) jaE) jaE) jaE)) jaP jbS) jbS) jbS)) (jan (i:=5) S.nd rfl (Or.inl rfl)))
  (jc1 (cMr H t b c d sh 5) (jfR (jnG jb7 ⟨(pv 5)⟩ (jcr (jal (jcr (jal (ja3 (jal ⟨jab⟩ (jal ⟨jab⟩ jaP jaj) jaj)) (jal (ja3 (jal ⟨jab⟩ (jal ⟨jab⟩ jaP jaj) jaj)) (jal (ja3 (jal ⟨jab⟩ (jal ⟨jab⟩ jaP jaj) jaj)) (jal (ja3 (jal ⟨jab⟩ (jal ⟨jab⟩ jaP jaj) jaj)) jaP jaE) jaE) jaE) jaE)) (jal (jcr (jal (ja3 (jal ⟨jab⟩ (jal ⟨jab⟩ jaP jaj) jaj)) (jal (ja3 (jal ⟨jab⟩ (jal ⟨jab⟩ jaP jaj) jaj)) (jal (ja3 (jal ⟨jab⟩ (jal ⟨jab⟩ jaP jaj) jaj)) (jal (ja3 (jal ⟨jab⟩ (jal ⟨jab⟩ jaP jaj) jaj)) (jal (ja3 (jal ⟨jab⟩ (jal ⟨jab⟩ jaP jaj) jaj)) jaP jaE) jaE) jaE) jaE) jaE)) jaP jbS) jbS))) (jan (i:=5) S.nd rfl (Or.inl rfl)))
  (jc1 (cMr H t b c d sh 6) (jfR (jnG jb7 ⟨(pv 5)⟩ (jcr (jal (jcr (jal (ja3 (jal ⟨jab⟩ (jal ⟨jab⟩ jaP jaj) jaj)) (jal (ja3 (jal ⟨jab⟩ (jal ⟨jab⟩ jaP jaj) jaj)) (jal (ja3 (jal ⟨jab⟩ (jal ⟨jab⟩ jaP jaj) jaj)) (jal (ja3 (jal ⟨jab⟩ (jal ⟨jab⟩ jaP jaj) jaj)) (jal (ja3 (jal ⟨jab⟩ (jal ⟨jab⟩ jaP jaj) jaj)) (jal (ja3 (jal ⟨jab⟩ (jal ⟨jab⟩ jaP jaj) jaj)) jaP jaE) jaE) jaE) jaE) jaE) jaE)) jaP jbS))) (jan (i:=5) S.nd rfl (Or.inl rfl)))
  ⟨(jaf (jat (i:=6) S.nd rfl (Or.inl rfl) (jaM jad))
  (jaf (jbp PassesOwn.never rfl (jbk (jak ix_list (pv 5) (pv 4))) (jck rfl (jay (jan (i:=7) S.nd rfl (Or.inr rfl)) (jay (jan (i:=8) S.nd rfl (Or.inr rfl)) jbj)))
  (jaf (jat (i:=9) S.nd rfl (Or.inr rfl) (jbb rfl (N':=["k","i","one","j","other"]) (ix:=[7,2,8,3]) ⟨rfl,rfl,by decide +kernel,by decide +kernel,by decide +kernel,(show ∀y:Str × NameKind,y∈_->y.2=NameKind.free->(jah ja1).names.lookup y.1=some .cell\/(jah ja1).names.lookup y.1=some .free from by decide +kernel),(.cons rfl (.inl rfl) rfl (.cons rfl (.inl rfl) rfl (.cons rfl (.inl rfl) rfl (.cons rfl (.inl rfl) rfl .nil))))⟩ (jaV rfl T.m_range (jaa jab jad jaj)) (fun _ _ _ _=>jan (i:=0) (show (["k","i","one","j","other"]:List Str).Nodup from by decide +kernel) rfl (Or.inl rfl)) (fun _ _ _ _=>jbd) (fun _ _ _ _=>(jau jbf (jau jaA (jau ja6 (pv 1) jab) (jak (ja0 (K:=K) rfl) (pv 2) (pv 0))) (jau jaA (jau ja6 (pv 3) jab) (jak (ja0 (K:=K) rfl) (pv 4) (pv 0)))))))
  (jaf (jat (i:=9) S.nd rfl (Or.inr rfl) (jbb rfl (N':=["k","base","place"]) (ix:=[1,9]) ⟨rfl,rfl,by decide +kernel,by decide +kernel,by decide +kernel,(show ∀y:Str × NameKind,y∈_->y.2=NameKind.free->(jah ja1).names.lookup y.1=some .cell\/(jah ja1).names.lookup y.1=some .free from by decide +kernel),(.cons rfl (.inl rfl) rfl (.cons rfl (.inl rfl) rfl .nil))⟩ (jaV rfl T.m_range (jaa jab jad jaj)) (fun _ _ _ _=>jan (i:=0) (show (["k","base","place"]:List Str).Nodup from by decide +kernel) rfl (Or.inl rfl)) (fun _ _ _ _=>jbd) (fun _ _ _ _=>(jau jbf (jak (ja0 (K:=K) rfl) (pv 1) (pv 0)) (jau jaA (jak (ja0 (K:=K) rfl) (pv 1) jab) (jak (jgW (K:=K) rfl) (pv 2) (pv 0)))))))
  (jai (jbc (jcq PySem.F.plainAttrs_list PySem.F.slot_list_append PySem.F.type_list_append jaR (pv 6) (jaa (jag dJ hr.m rfl jav (jaa (jak ix_list (pv 9) jab) (jaa (jak ix_list (pv 9) jab) (jaa (jak ix_list (pv 9) jab) (jaa (jak jam (pv 1) jab) jad jap) jap) jap) jap)) jad jaF)))))))
  (jai (jas (pv 6)))))⟩)))),?_⟩
 have k1:SqT K H t [.ref b,.ref c,.ref d,.int (sh:Nat)]:=SqT.of h1;refine⟨?_,?_⟩
 ·walk_at "rf";exact⟨_,k1,rfl,_,_,rfl,_,_,rfl,_,_,rfl,_,_,rfl,rfl,rfl,Same.refl _⟩
 rintro σ0 H0 ⟨rfl,s0⟩;refine⟨?_,?_⟩
 ·refine jjs (pss:=shp6.take 3) ?_ (by decide) _ _ fun v J2 s2 hv=>?_
  ·show MkA _ _ (TabA [[(0,0),(2,0),(0,2)],[(0,0),(3,1),(1,3)],[(0,0),(2,0),(2,2),(0,2)]])
   repeat first
    | exact jfr
    | refine jeu (jjr ?_ (by decide)) ?_
    | exact jfq
    | refine jet (jgF jog jog) ?_
  obtain⟨g,vs,rfl,hg,hT⟩:=hv;exact⟨g,vs,rfl,hg,hT,s0.trans s2⟩
 rintro σ1 H1 ⟨g,vs,rfl,hg,hT,s1⟩;refine⟨⟨_,rfl,?_⟩,?_⟩
 ·refine jjs (pss:=(shp6.drop 3).take 2) ?_ (by decide) _ _ fun v J2 s2 hv=>?_
  ·show MkA _ _ (TabA [[(0,0),(3,0),(2,1),(0,1)],[(0,0),(2,0),(3,1),(1,3),(0,1)]])
   repeat first
    | exact jfr
    | refine jeu (jjr ?_ (by decide)) ?_
    | exact jfq
    | refine jet (jgF jog jog) ?_
  obtain⟨g2,ws,rfl,hg2,hT2⟩:=hv;have l1:=hT.len;have l2:=hT2.len;refine⟨g,g2,vs,ws,rfl,rfl,s2 _ _ hg,hg2,xaQ (jaD (by rw[l1,l2];decide)),fun p hp=>?_⟩;have j:=Same.new hp (.lst (vs++ws));exact⟨p,_,rfl,jac,((hT.keep s2).app hT2).keep j,s1.trans (s2.trans j)⟩
 rintro σ2 H2 ⟨g,vs,rfl,hg,hT,s2⟩;refine⟨⟨_,rfl,?_⟩,?_⟩
 ·refine jjs (pss:=shp6.drop 5) ?_ (by decide) _ _ fun v J2 s3 hv=>?_
  ·show MkA _ _ (TabA [[(1,0),(2,0),(3,1),(3,2),(2,3),(0,1)]])
   repeat first
    | exact jfr
    | refine jeu (jjr ?_ (by decide)) ?_
    | exact jfq
    | refine jet (jgF jog jog) ?_
  obtain⟨g2,ws,rfl,hg2,hT2⟩:=hv;have l1:=hT.len;have l2:=hT2.len;refine⟨g,g2,vs,ws,rfl,rfl,s3 _ _ hg,hg2,xaQ (jaD (by rw[l1,l2];decide)),fun p hp=>?_⟩;have j:=Same.new hp (.lst (vs++ws));exact⟨p,_,rfl,jac,((hT.keep s3).app hT2).keep j,s2.trans (s3.trans j)⟩
 rintro σ3 H3 ⟨g,vs,rfl,hg,hT,s3⟩;walk_at "rf";refine⟨by decide,fun p hp=>?_⟩;refine jeA hp fun H4 s4 ep=>?_;obtain⟨v,ev,l,es,rfl,hl,hP⟩:=hT.get (i:=sh) (by show sh<6;exact h6);change PrP H3 es (shp6.getD sh []) at hP;have lim:=jlg sh h6;have len:=jlh sh h6;have es':shp sh=(shp6.getD sh []).map plT:=rfl;rw[es'] at q;generalize shp6.getD sh []=qs at hP lim len q;have lP:=hP.len;refine ixL (SqL.of (s4 _ _ hg)) (v:=.ref l) (jaK ev) ⟨l,rfl,⟨_,SqL.of (s4 _ _ hl)⟩,?_⟩;have b3:=s3 _ _ h2;have c3:=s3 _ _ h3;have d3:=s3 _ _ h4;refine jbw (K:=K) (a:=l) (xs:=es.map V.ref) (fun i σ Hh=>∃(o7 o8 o9:Option V) (rs:List Addr),σ=[some (V.ref t),some (V.ref b),some (V.ref c),some (V.ref d),some (V.int (sh:Nat)),some (V.ref g),some (V.ref p),o7,o8,o9]/\Same H3 Hh/\Hh p=some (.lst (rs.map V.ref))/\Sps Hh rs ((qs.take i).map fun u=>spt Z (plT u))) ⟨_,_,_,[],rfl,s4,ep,.nil⟩ (fun i σ Hh _ ⟨_,_,_,_,_,sx,_⟩=>sx.seq (SqL.of hl)) ?_ ?_
 ·rintro i x σ Hh hi ⟨o7,o8,o9,rs,rfl,sx,kp,ks⟩;rw[xae] at hi;obtain⟨r,hr',rfl⟩:=xaS.mp hi;obtain⟨u,hu,er⟩:=hP.ix hr';obtain⟨m1,m2,m3,m4⟩:=lim u (xaC hu);walk_at "rf";refine⟨_,SqT.of (sx _ _ er),rfl,_,_,rfl,_,_,rfl,rfl,by decide,by decide,fun acc hacc=>?_⟩;have F1:Fit (u.1-1):=Bd.fit (n:=61) (by unfold Bd;omega);have F2:Fit (u.2-1):=Bd.fit (n:=61) (by unfold Bd;omega);have b4:=sx _ _ b3;have c4:=sx _ _ c3;have d4:=sx _ _ d3;have fz:∀{v:Tri} {k:Nat},(v.x.natAbs<=1000000/\v.y.natAbs<=1000000/\v.z.natAbs<=1000000)->Fit (cmp v k):=fun {v k} h=>Bd.fit (n:=61) (by have:=jew h k;unfold Bd;omega);have okb:RawB n Z:=ok.b;refine jhN (n:=3) (fun k=>.int ((u.1-1)*cmp Z.c k+(u.2-1)*cmp Z.d k)) (by decide) hacc (fun k H5 R hk s5 hR=>?_) fun H5 s5 e5=>?_
  ·walk_at "rf";exact ixT (SqT.of (s5 _ _ c4)) (cmp3 Z.c hk) ⟨_,rfl,F1,fz okb.c,ixT (SqT.of (s5 _ _ d4)) (cmp3 Z.d hk) ⟨_,rfl,F2,fz okb.d,hR _ (Same.refl _)⟩⟩
  walk_at "rf";refine⟨by decide,by decide,fun acc2 hacc2=>jhN (n:=3) (fun k=>.int (rwc Z (plT u) k)) (by decide) hacc2 (fun k H6 R hk s6 hR=>?_) fun H6 s6 e6=>?_⟩
  ·have ea:atI (List.map (fun k=>V.int ((u.1-1)*cmp Z.c k+(u.2-1)*cmp Z.d k)) (List.range 3)) (0+(k:Int))=some (.int ((u.1-1)*cmp Z.c k+(u.2-1)*cmp Z.d k)):=by
    match k,hk with
    | 0,_=>rfl
    | 1,_=>rfl
    | 2,_=>rfl
   have l1:=jgb (show (u.1-1).natAbs<=2 by omega) (jew okb.c k);have l2:=jgb (show (u.2-1).natAbs<=2 by omega) (jew okb.d k);have ff:Fit ((u.1-1)*cmp Z.c k+(u.2-1)*cmp Z.d k):=Bd.fit (n:=61) (by unfold Bd;omega);have fw:Fit Z.w:=Bd.fit (n:=61) (by have:=okb.w1;have:=okb.w3;unfold Bd;omega);have b6:=s6 _ _ (s5 _ _ b4);walk_at "rf";refine ixT (SqT.of b6) (jpD Z.s Z.w hk) (ixT (SqT.of b6) (i:=3) rfl (ixL (SqL.of (s6 _ _ e5)) ea ⟨_,rfl,_,rfl,fw,ff,_,rfl,?_⟩));have z:=hR _ (Same.refl _);rw[<- jpF (u:=u) hk] at z;exact z
  have b6:=s6 _ _ (s5 _ _ b4);have s56:=s5.trans s6;obtain⟨B1,B2,B3,B4⟩:=jmf (v:=plT u) okb n9 (show (u.1-1).natAbs<=2 by omega) (show (u.2-1).natAbs<=2 by omega) rfl;refine⟨.inl ⟨_,SqL.of (s56 _ _ kp)⟩,ixL (SqL.of e6) (i:=0) rfl (ixL (SqL.of e6) (i:=1) rfl (ixL (SqL.of e6) (i:=2) rfl (ixT (SqT.of b6) (i:=3) rfl ?_)))⟩;refine⟨⟨rX Z (plT u),rY Z (plT u),rZ Z (plT u),rW Z (plT u)⟩,by rw[jjv (show (plT u).z=1 from rfl)];rfl,⟨Bd.mono B1,Bd.mono B2,Bd.mono B3,Bd.mono B4⟩,by rw[jjv (show (plT u).z=1 from rfl)];have:=okb.w1;show Z.w≠0;omega,fun g2 H8 s8 h8=>?_⟩;rw[jnI okb.w1 (show (1:Int)<=1 by decide)] at h8;have s58:=s56.trans s8;have sm:=SameT.upd (ys:=List.map V.ref rs++[V.ref g2]) (s58 _ _ kp);refine⟨p,_,_,rfl,rfl,s58 _ _ kp,jaD (by rw[xaa,ks.len,xaa,xah];omega),Same.keepN (sx.trans s58) hp _,rs++[g2],by rw[jac,xaf];rfl,?_⟩;rw[xaZ,hu,xaf];exact ((ks.keep s58.t).keep sm).app (.cons ⟨sm _ _ h8.1,h8.2⟩ .nil)
 ·rintro σ Hh ⟨o7,o8,o9,rs,rfl,sx,kp,ks⟩;walk_at "rf";rw[xaX (by rw[xaa];omega)] at ks;exact q p _ rs (s3.noneN hp) (s3.trans sx) ⟨kp,by rw[xbp];exact ks⟩
inductive Tr
 | nil
 | nd (p:Pt) (here:List (Int × List Pt)) (b a:Tr)
def Tr.ht:Tr->Nat
 | .nil=>0
 | .nd _ _ b a=>max b.ht a.ht+1
def Tr.pcs:Tr->List (Int × List Pt)
 | .nil=>[]
 | .nd _ h b a=>h++b.pcs++a.pcs
def PlG (p:Pt):Prop:=(Bd 66 p.x/\Bd 66 p.y/\Bd 66 p.z)/\Bd 94 p.w
theorem PlG.neg (h:PlG p):PlG ⟨-p.x,-p.y,-p.z,-p.w⟩:=by
 obtain⟨⟨h1,h2,h3⟩,h4⟩:=h;refine⟨⟨?_,?_,?_⟩,?_⟩<;>(unfold Bd at *;rw[xcy];assumption)
structure SZ (Z:Sht):Prop where
 hw:1<=Z.w
 nz:Z.u.nz
 sp:∀v:Tri,v.bd 221->(spt Z v).bd 252
 ln:∀p:Pt,PlG p->PlOk Z p
def jjx (ps:List Pt):Prop:=∃(Z:Sht) (vs:List Tri),SZ Z/\VF vs/\vs.length<=16/\RR (vs.map (spt Z)) ps
def Tr.Good (c:Nat):Tr->Prop
 | .nil=>True
 | .nd p h b a=>PlG p/\((∀x∈h,jjx x.2)/\h.length<=c)/\b.Good c/\a.Good c
theorem Tr.Good.mono {c d:Nat} (l:c<=d):∀{T:Tr},T.Good c->T.Good d
 | .nil,_=>trivial
 | .nd _ _ _ _,⟨h1,⟨h2,h3⟩,h4,h5⟩=>⟨h1,⟨h2,xav h3 l⟩,h4.mono l,h5.mono l⟩
def BoAt (H:Hp) (t:Addr) (b:List Pt):Prop:=∃rs,H t=some (.tup (rs.map V.ref))/\Sps H rs b
theorem BoAt.keep {t:Addr} {b:List Pt} (h:BoAt H t b) (s:SameT H H'):BoAt H' t b:=by
 obtain⟨rs,e,q⟩:=h;exact⟨rs,s _ _ e,q.keep s⟩
def PcAt (H:Hp) (r:Addr) (x:Int × List Pt):Prop:=∃t,H r=some (.tup [.int x.1,.ref t])/\BoAt H t x.2
theorem PcAt.keep {x:Int × List Pt} (h:PcAt H r x) (s:SameT H H'):PcAt H' r x:=by
 obtain⟨t,e,q⟩:=h;exact⟨t,s _ _ e,q.keep s⟩
inductive TrAt (H:Hp):V->Tr->Prop
 | nil:TrAt H .non .nil
 | nd {t g h:Addr} {rs:List Addr} {vb va:V} {p:Pt} {here:List (Int × List Pt)} {b a:Tr}:H t=some (.tup [.ref g,.ref h,vb,va])->Is4 H g p->H h=some (.tup (rs.map V.ref))->All2 (PcAt H) rs here->TrAt H vb b->TrAt H va a->TrAt H (.ref t) (.nd p here b a)
theorem TrAt.keep {v:V} {T:Tr} (h:TrAt H v T) (s:SameT H H'):TrAt H' v T:=by
 induction h with
 | nil=>exact .nil
 | nd h1 h2 h3 h4 _ _ i5 i6=>exact .nd (s _ _ h1) ⟨s _ _ h2.1,h2.2⟩ (s _ _ h3) (h4.mono fun _ _ h=>h.keep s) i5 i6
theorem jpG {f:V} (h:PtAt H Z f us):∃D,Rds K H f D/\PyData.canLay0 D=true/\PyData.depth D<=10/\PyData.eqv D .none=decide (us=[]):=by
 rcases h with ⟨rfl,rfl⟩ | ⟨ne,r,rfl,rs,h1,h2⟩
 ·exact⟨.none,.non,rfl,by decide,rfl⟩
 ·obtain⟨l1,l2,_⟩:=jgw (frm (us.map (spt Z)) (us.map (spt Z)));exact⟨jh3 _,jff h1 h2,l1,by omega,by rw[decide_eq_false ne];rfl⟩
theorem jjy {t:Addr} {f0 f1:V} {p:Addr} (e:H t=some (.tup [f0,f1])) (h0:PtAt H Z f0 us) (h1:PtAt H Z f1 ws) (hp:H p=some (.tup [.non,.non])) (q:Q (.bl (decide (us=[]/\ws=[]))) H):jit K false (.ref t) (.ref p) H Q:=by
 obtain⟨D0,r0,l0,d0,e0⟩:=jpG (K:=K) h0;obtain⟨D1,r1,l1,d1,e1⟩:=jpG (K:=K) h1;refine⟨.tuple [D0,D1],.tuple [.none,.none],.tup (SqT.of e) (.cons r0 (.cons r1 .nil)),.tup (SqT.of hp) (.cons .non (.cons .non .nil)),?_,by decide,?_⟩
 ·unfold SeqAt.shaped;simp [PyData.canLay0,PyData.canLayAll0,PyData.depth,PyData.depthAll,l0,l1];omega
 ·have z:PyData.eqv (.tuple [D0,D1]) (.tuple [.none,.none])=decide (us=[]/\ws=[]):=by
   simp [PyData.eqv,PyData.eqvAll,e0,e1]
  rw[if_neg (by decide),z];exact q
theorem jgG (n:UP h vs≠[]):∃v∈vs,0<h v:=xal fun z=>n (jc0 z)
theorem jjz (hZ:SZ Z) (F:VF vs) (l:vs.length<=16) (r:RR (vs.map (spt Z)) ps):jjx ps:=⟨Z,vs,hZ,F,l,r⟩
noncomputable section
def rgs (Z:Sht) (ws:List Tri):List Pt:=frm (ws.map (spt Z)) (ws.map (spt Z))
def dnX (Z:Sht) (p:Pt) (ws:List Tri):List Tri:=UP (hf (jcj Z ⟨-p.x,-p.y,-p.z,-p.w⟩)) ws
def upX (Z:Sht) (p:Pt) (ws:List Tri):List Tri:=UP (hf (jcj Z p)) ws
def grw (Z:Sht) (k:Int) (o:Pt):Tr->List Tri->Tr
 | .nil,ws=>.nd o [(k,rgs Z ws)] .nil .nil
 | .nd p h b a,ws=>if dnX Z p ws=[]/\upX Z p ws=[] then .nd p (h++[(k,rgs Z ws)]) b a else .nd p h (if dnX Z p ws=[] then b else grw Z k o b (dnX Z p ws)) (if upX Z p ws=[] then a else grw Z k o a (upX Z p ws))
end
variable {Z:Sht}
variable {us vs ws:List Tri}
theorem jh0 (hZ:SZ Z) (hp:PlG p) (F:VF ws) (n:upX Z p ws≠[]):VF (upX Z p ws) :=
 F.up (hZ.ln _ hp).2.1 (hZ.ln _ hp).2.2.1 (hZ.ln _ hp).2.2.2 (jgG n)
theorem jjA (hZ:SZ Z) (hp:PlG p) (F:VF ws) (n:dnX Z p ws≠[]):VF (dnX Z p ws) :=
 F.up (hZ.ln _ hp.neg).2.1 (hZ.ln _ hp.neg).2.2.1 (hZ.ln _ hp.neg).2.2.2 (jgG n)
theorem jjB (F:VF ws):(upX Z p ws).length<=ws.length+1:=jhq (l:=jcj Z p) F.rg
theorem jjC (F:VF ws):(dnX Z p ws).length<=ws.length+1:=jhq (l:=jcj Z ⟨-p.x,-p.y,-p.z,-p.w⟩) F.rg
theorem jjD (Z:Sht) (k:Int) (o:Pt):∀(T:Tr) (ws:List Tri),(grw Z k o T ws).ht<=T.ht+1
  | .nil,ws=>xag _
  | .nd p h b a, ws => by
    have hb:=jjD Z k o b (dnX Z p ws);have ha:=jjD Z k o a (upX Z p ws);have e0:(Tr.nd p h b a).ht=max b.ht a.ht+1:=rfl;unfold grw;rw[e0];split
    . show max b.ht a.ht+1 <= _
      omega
    . show max (Tr.ht (if _ then _ else _)) (Tr.ht (if _ then _ else _))+1 <= _
      split<;>split<;>omega
theorem jfs {Z:Sht} {k:Int} {o:Pt} {c:Nat} (hZ:SZ Z) (ho:PlG o):∀{T:Tr} {ws:List Tri},T.Good c->VF ws->ws.length+T.ht<=16->(grw Z k o T ws).Good (c+1)
  | .nil,ws,_,F,l=>⟨ho,⟨fun x hx=>by rw[xar.mp hx];exact jjz hZ F (by omega) (jes _ _),by show 1<=c+1;omega⟩,trivial,trivial⟩
  | .nd p h b a, ws, ⟨g1, ⟨g2, g3⟩, g4, g5⟩, F, l => by
    have l':ws.length+(max b.ht a.ht+1)<=16:=l;unfold grw;split
    . refine⟨g1,⟨fun x hx=>?_,by rw[xad]; show h.length+1 <= c+1; omega⟩,g4.mono (by omega),g5.mono (by omega)⟩
      rcases xas.mp hx with hx | hx
      . exact g2 x hx
      . rw[xar.mp hx]
        exact jjz hZ F (by omega) (jes _ _)
    . refine⟨g1,⟨g2,by omega⟩,?_,?_⟩
      . split
        . exact g4.mono (by omega)
        . rename_i n
          exact jfs hZ ho g4 (jjA hZ g1 F n) (by have:=jjC (Z:=Z) (p:=p) F;omega)
      . split
        . exact g5.mono (by omega)
        . rename_i n
          exact jfs hZ ho g5 (jh0 hZ g1 F n) (by have:=jjB (Z:=Z) (p:=p) F;omega)
theorem jft {k:Int} {o:Pt} {h:List (Int × List Pt)} {b a:Tr} (e:dnX Z p ws=[]/\upX Z p ws=[]):grw Z k o (.nd p h b a) ws=.nd p (h++[(k,rgs Z ws)]) b a:=by
 have z:grw Z k o (.nd p h b a) ws=if dnX Z p ws=[]/\upX Z p ws=[] then .nd p (h++[(k,rgs Z ws)]) b a else .nd p h (if dnX Z p ws=[] then b else grw Z k o b (dnX Z p ws)) (if upX Z p ws=[] then a else grw Z k o a (upX Z p ws)):=by rw[grw]
 rw[z,if_pos e]
theorem jfu {k:Int} {o:Pt} {h:List (Int × List Pt)} {b a:Tr} (e:¬(dnX Z p ws=[]/\upX Z p ws=[])):grw Z k o (.nd p h b a) ws=.nd p h (if dnX Z p ws=[] then b else grw Z k o b (dnX Z p ws)) (if upX Z p ws=[] then a else grw Z k o a (upX Z p ws)):=by
 have z:grw Z k o (.nd p h b a) ws=if dnX Z p ws=[]/\upX Z p ws=[] then .nd p (h++[(k,rgs Z ws)]) b a else .nd p h (if dnX Z p ws=[] then b else grw Z k o b (dnX Z p ws)) (if upX Z p ws=[] then a else grw Z k o a (upX Z p ws)):=by rw[grw]
 rw[z,if_neg e]
def jnK (n:Nat):Sp:=fun vs H Q _=>∃(v:V) (k:Int) (b o:Addr) (T:Tr) (p:Pt) (Z:Sht) (ws:List Tri) (c:Nat),vs=[v,.int k,.ref b,.ref o]/\TrAt H v T/\T.ht<n/\T.Good c/\c<900/\Is4 H o p/\PlG p/\SZ Z/\VF ws/\ws.length+T.ht<=16/\BdAt H Z b ws/\∀(t:Addr) (H':Hp),Same H H'->TrAt H' (.ref t) (grw Z k p T ws)->Q (.ref t) H'
theorem jjE {f sv:V} {S:Tr} {k:Int} {o:Addr} {c:Nat} {R:VK} {E:XK} (hP:PtAt H Z f us) (hS:TrAt H sv S) (hn:S.ht<n) (hG:S.Good c) (c9:c<900) (ho:Is4 H o p) (hp:PlG p) (hZ:SZ Z) (hF:us≠[]->VF us) (l16:us.length+S.ht<=16)
  (q:∀(v':V) (H':Hp),Same H H'->TrAt H' v' (if us=[] then S else grw Z k p S us)->R v' H'):if f=.non then R sv H else jnK n [sv,.int k,f,.ref o] H R E:=by
 rcases hP with ⟨rfl,rfl⟩ | ⟨ne,r,rfl,hb⟩
 ·rw[if_pos rfl];exact q sv H (Same.refl _) (by rw[if_pos rfl];exact hS)
 ·rw[if_neg (fun z=>nomatch z)];exact⟨sv,k,r,o,S,p,Z,us,c,rfl,hS,hn,hG,c9,ho,hp,hZ,hF ne,l16,hb,fun t H' s' t'=>q _ H' s' (by rw[if_neg ne];exact t')⟩
theorem jnL (T:Tx K mg t1 t2) (F:At K mg "grown_with" jby ["tree","number","board","own"] []) (dg:jao P w K mg base CX0 6 "cut_by" ["board","plane"] [] jeQ) (dA:jao P w K mg base CX0 (7+n) "grown_with" ["tree","number","board","own"] [] (jnK n)):jao P w K mg base CX0 (7+n+1) "grown_with" ["tree","number","board","own"] [] (jnK (n+1)):=by
 refine F.ok jci (by walk_at "ar") (fun f cdv Ar outer s H vs Q E hr h=>?_);obtain⟨v,k,b,o,Tt,p,Z,ws,c,rfl,hT,hn,hG,c9,ho,hp,hZ,hF,l16,hb,q⟩:=h;have S:=jci;refine⟨_,(jaf (jaL (jaq jc8 (pv 0) jaO (jax _))
  (jai (jas (jaB (jaa (pv 3) (jaa (jaB (jaa (jaB (jaa (pv 1) (jaa (pv 2) jad jae) jae)) jad jaE)) (jaa jaO (jaa jaO jad jaj) jaj) jaE) jae))))
  jaw)
  (jaf (jat (i:=4) S.nd rfl (Or.inl rfl) (jag dg (hr.mono (by omega)) rfl jav (jaa (pv 2) (jaa (jak jam (pv 0) jab) jad jap) jae)))
  (jaf (jaL (jaq (jiu (jgi hr)) (pv 4) (jaB (jaa jaO (jaa jaO jad jaj) jaj)) (jax _))
  (jai (jas (jaB (jaa (jak jam (pv 0) jab) (jaa (jau jmX (jak jam (pv 0) jab) (jaB (jaa (jaB (jaa (pv 1) (jaa (pv 2) jad jae) jae)) jad jaE))) (jaa (jak jam (pv 0) jab) (jaa (jak jam (pv 0) jab) jad jap) jap) ja7) jap))))
  jaw)
  (jaf (jat (i:=5) S.nd rfl (Or.inl rfl) (jgN (jaq jc8 (jak jam (pv 4) jab) jaO (jax _)) (jak jam (pv 0) jab) (jag dA (hr.mono (by omega)) rfl jav (jaa (jak jam (pv 0) jab) (jaa (pv 1) (jaa (jak jam (pv 4) jab) (jaa (pv 3) jad jae) jap) jae) jap))))
  (jaf (jat (i:=6) S.nd rfl (Or.inl rfl) (jgN (jaq jc8 (jak jam (pv 4) jab) jaO (jax _)) (jak jam (pv 0) jab) (jag dA (hr.mono (by omega)) rfl jav (jaa (jak jam (pv 0) jab) (jaa (pv 1) (jaa (jak jam (pv 4) jab) (jaa (pv 3) jad jae) jap) jae) jap))))
  (jai (jas (jaB (jaa (jak jam (pv 0) jab) (jaa (jak jam (pv 0) jab) (jaa (pv 5) (jaa (pv 6) jad jae) jae) jap) jap))))))))),?_⟩
 walk_at "rf";refine jbP (fun e=>?_) fun e=>?_
 ·subst e;cases hT;obtain⟨rs,hb1,hb2⟩:=hb;refine⟨by decide,fun p1 h1=>⟨by decide,fun p2 h2=>⟨by decide,fun p3 h3=>?_⟩⟩⟩;have j1:=Same.new h1 (.tup [.int k,.ref b]);have j2:=Same.new h2 (.tup [.ref p1]);have j3:=Same.new h3 (.tup [.ref o,.ref p2,.non,.non]);have jj:=j1.trans (j2.trans j3);exact q p3 _ jj (.nd (rs:=[p1]) jac (ho.keep jj) (j3 _ _ jac) (.cons ⟨b,j3 _ _ (j2 _ _ jac),rs,jj _ _ hb1,hb2.keep jj.t⟩ .nil) .nil .nil)
 cases hT with
 | nil=>exact absurd rfl e
 | @nd t g h rs vb va pl here B A h1 h2 h3 h4 h5 h6 =>
 obtain⟨g1,⟨g2,g3⟩,g4,g5⟩:=hG;have O:=hZ.ln _ g1;have hh:max B.ht A.ht+1<n+1:=hn;have l16':ws.length+(max B.ht A.ht+1)<=16:=l16;refine ixT (SqT.of h1) (i:=0) rfl ?_;refine jhs hF hZ.hw hZ.nz (by omega) (fun u hu=>hZ.sp u (hF.bi.vb u hu)) O.1 O.2.1 O.2.2.1 O.2.2.2 hb h2 fun t' H1 f0 f1 s1 e1 P0 P1=>?_;change PtAt H1 Z f0 (dnX Z pl ws) at P0;change PtAt H1 Z f1 (upX Z pl ws) at P1;refine⟨by decide,fun p1 hp1=>?_⟩;have j1:=Same.new hp1 (.tup [.non,.non]);have s01:=s1.trans j1;refine jjy (j1 _ _ e1) (P0.keep j1.t) (P1.keep j1.t) jac ⟨_,rfl,jbP (fun cc=>?_) fun cc=>?_⟩
 ·have k1:SqT K (upd H1 p1 (.tup [.non,.non])) t [.ref g,.ref h,vb,va]:=SqT.of (s01 _ _ h1);refine ixT k1 (i:=0) rfl (ixT k1 (i:=1) rfl ⟨by decide,fun p2 hp2=>⟨by decide,fun p3 hp3=>?_⟩⟩);have j2:=Same.new hp2 (.tup [.int k,.ref b]);have j3:=Same.new hp3 (.tup [.ref p2]);have s03:=s01.trans (j2.trans j3);obtain⟨rb,hb1,hb2⟩:=hb;have lh:=h4.len;have cc':dnX Z pl ws=[]/\upX Z pl ws=[]:=of_decide_eq_true cc;rw[jft cc'] at q;have fin:∀(x3 p4:Addr) (J:Hp),Same H J->(∃rs',J x3=some (.tup (rs'.map V.ref))/\All2 (PcAt J) rs' (here++[(k,rgs Z ws)]))->J p4=none->Q (.ref p4) (upd J p4 (.tup [.ref g,.ref x3,vb,va])):=fun x3 p4 J sJ ⟨rs',a1,a2⟩ n4=>by
   have j4:=Same.new n4 (.tup [.ref g,.ref x3,vb,va]);have sJ4:=sJ.trans j4;exact q p4 _ sJ4 (.nd jac (h2.keep sJ4) (j4 _ _ a1) (a2.mono fun _ _ h=>h.keep j4.t) (h5.keep sJ4.t) (h6.keep sJ4.t))
  have pcN:∀{J:Hp},Same (upd (upd (upd H1 p1 (.tup [.non,.non])) p2 (.tup [.int k,.ref b])) p3 (.tup [.ref p2])) J->PcAt J p2 (k,rgs Z ws):=fun j=>⟨b,j _ _ (j3 _ _ jac),rb,j _ _ (s03 _ _ hb1),(hb2.keep s03.t).keep j.t⟩;refine⟨h,p3,_,_,rfl,rfl,SqT.of (s03 _ _ h3),SqT.of jac,(fun z=>nomatch z),xaQ (jaD (by rw[xaa];show rs.length+1<1000;omega)),fun z=>?_,fun z p4 hp4=>?_⟩
  ·have k3:=SqT.of (K:=K) (s03 _ _ h1);have e0:rs=[]:=List.map_eq_nil_iff.mp z;have e1:here=[]:=xaE.mp (by rw[<- lh,e0];rfl);refine ixT k3 (i:=2) rfl (ixT k3 (i:=3) rfl ⟨by decide,fun p5 hp5=>fin p3 p5 _ s03 ⟨[p2],jac,?_⟩ hp5⟩);rw[e1];exact .cons (pcN (Same.refl _)) .nil
  ·have j4:=Same.new hp4 (.tup (rs.map V.ref++[.ref p2]));have k4:=SqT.of (K:=K) ((s03.trans j4) _ _ h1);exact ixT k4 (i:=2) rfl (ixT k4 (i:=3) rfl ⟨by decide,fun p5 hp5=>fin p4 p5 _ (s03.trans j4) ⟨rs++[p2],by rw[jac,xaf];rfl,(h4.mono fun _ _ h=>h.keep (s03.trans j4).t).app (.cons (pcN j4) .nil)⟩ hp5⟩)
 ·unfold L2.tIf;walk_at "rf";generalize upd H1 p1 (.tup [.non,.non])=J at s01 j1;have vfU:upX Z pl ws≠[]->VF (upX Z pl ws):=jh0 hZ g1 hF;have vfD:dnX Z pl ws≠[]->VF (dnX Z pl ws):=jjA hZ g1 hF;have lU:=jjB (Z:=Z) (p:=pl) hF;have lD:=jjC (Z:=Z) (p:=pl) hF;have P0':=P0.keep j1.t;have P1':=P1.keep j1.t;have cc':¬(dnX Z pl ws=[]/\upX Z pl ws=[]):=fun z=>by rw[decide_eq_true z] at cc;exact cc rfl
  rw[jfu cc'] at q;have e1':=j1 _ _ e1;have jbe:∀(vb' va':V) (H':Hp) (B' A':Tr),Same J H'->TrAt H' vb' B'->TrAt H' va' A'->B'=(if dnX Z pl ws=[] then B else grw Z k p B (dnX Z pl ws))->A'=(if upX Z pl ws=[] then A else grw Z k p A (upX Z pl ws))->(jd7 K (V.ref t) (V.int 0) H' fun x_3 H1=>jd7 K (V.ref t) (V.int 1) H1 fun x_4 H1=>4<=sizeLine/\∀(p:Addr),H1 p=none->Q (V.ref p) (upd H1 p (HO.tup [x_3,x_4,vb',va']))):=fun vb' va' H' B' A' sJ tB tA eB eA=>by
   subst eB eA;have sH:=s01.trans sJ;have k3:=SqT.of (K:=K) (sH _ _ h1);refine ixT k3 (i:=0) rfl (ixT k3 (i:=1) rfl ⟨by decide,fun p hp=>?_⟩);have j:=Same.new hp (.tup [.ref g,.ref h,vb',va']);exact q p _ (sH.trans j) (.nd jac (h2.keep (sH.trans j)) ((sH.trans j) _ _ h3) (h4.mono fun _ _ h=>h.keep (sH.trans j).t) (tB.keep j.t) (tA.keep j.t))
  have second:∀(x:V) (H':Hp) (B':Tr),Same J H'->TrAt H' x B'->B'=(if dnX Z pl ws=[] then B else grw Z k p B (dnX Z pl ws))->(jd7 K (V.ref t') (V.int 1) H' fun x_1 H1=>if x_1=V.non then jd7 K (V.ref t) (V.int 3) H1 fun x_2 H1=>jd7 K (V.ref t) (V.int 0) H1 fun x_3 H1=>jd7 K (V.ref t) (V.int 1) H1 fun x_4 H1=>4<=sizeLine/\∀(p:Addr),H1 p=none->Q (V.ref p) (upd H1 p (HO.tup [x_3,x_4,x,x_2])) else jd7 K (V.ref t) (V.int 3) H1 fun x_2 H1=>jd7 K (V.ref t') (V.int 1) H1 fun x_3 H1=>jnK n [x_2,V.int k,x_3,V.ref o] H1 (fun x_4 H1=>jd7 K (V.ref t) (V.int 0) H1 fun x_5 H1=>jd7 K (V.ref t) (V.int 1) H1 fun x_6 H1=>4<=sizeLine/\∀(p:Addr),H1 p=none->Q (V.ref p) (upd H1 p (HO.tup [x_5,x_6,x,x_4]))) E0):=fun x H' B' sJ tB eB=>by
   have sH:=s01.trans sJ;have kt:=SqT.of (K:=K) (sH _ _ h1);have kp:=SqT.of (K:=K) (sJ _ _ e1');have sd:=jjE (n:=n) (E:=E0) (k:=k) (P1'.keep sJ.t) (h6.keep sH.t) (by omega) g5 c9 (ho.keep sH) hp hZ vfU (by omega) fun v' H'' s' t'=>jbe x v' H'' B' _ (sJ.trans s') (tB.keep s'.t) t' eB rfl;refine ixT kp (i:=1) rfl (jbP (fun z=>ixT kt (i:=3) rfl ?_) fun z=>ixT kt (i:=3) rfl (ixT kp (i:=1) rfl ?_))
   ·rw[if_pos z] at sd;exact sd
   ·rw[if_neg z] at sd;exact sd
  have kt:=SqT.of (K:=K) (s01 _ _ h1);have kp:=SqT.of (K:=K) e1';have sd:=jjE (n:=n) (E:=E0) (k:=k) P0' (h5.keep s01.t) (by omega) g4 c9 (ho.keep s01) hp hZ vfD (by omega) fun v' H'' s' t'=>second v' H'' _ s' t' rfl;refine ixT kp (i:=0) rfl (jbP (fun z=>ixT kt (i:=2) rfl ?_) fun z=>ixT kt (i:=2) rfl (ixT kp (i:=0) rfl ?_))
  ·rw[if_pos z] at sd;exact sd
  ·rw[if_neg z] at sd;exact sd
theorem jmg (T:Tx K mg t1 t2) (F:At K mg "grown_with" jby ["tree","number","board","own"] []) (dg:jao P w K mg base CX0 6 "cut_by" ["board","plane"] [] jeQ):∀n:Nat,jao P w K mg base CX0 (7+n) "grown_with" ["tree","number","board","own"] [] (jnK n)
 | 0=>F.ok (k:=6) jci (fun vs H Q E ⟨_,_,_,_,_,_,_,_,_,_,_,z,_⟩=>absurd z (xaK _)) fun f cdv Ar outer s H vs Q E hr ⟨_,_,_,_,_,_,_,_,_,_,_,z,_⟩=>absurd z (xaK _)
 | n+1=>jnL T F dg (jmg T F dg n)
theorem ok_gx (T:Tx K mg t1 t2) (F:At K mg "grown_with" jby ["tree","number","board","own"] []) (dg:jao P w K mg base CX0 6 "cut_by" ["board","plane"] [] jeQ):jao P w K mg base CX0 16 "grown_with" ["tree","number","board","own"] [] (jnK 9):=by
 exact jmg T F dg 9
theorem jli {A B C:Nat} {b z u v w:Int} (ha:Bd A a) (hb:Bd B b) (hc:Bd C c) (hx:Bd A x) (hy:Bd B y) (hz:Bd C z) (hu:Bd A u) (hv:Bd B v) (hw:Bd C w):Bd (A+B+C+3) (jbE a b c x y z u v w):=by
 unfold jbE;have e1:=Bd.mono (m:=A+B+C+1) (Bd.mul (Bd.sub (Bd.mul hb hz) (Bd.mono (Bd.mul hc hy) (m:=B+C) (by omega))) hu) (by omega);have e2:=Bd.mono (m:=A+B+C+1) (Bd.mul (Bd.sub (Bd.mul hc hx) (Bd.mono (Bd.mul ha hz) (m:=C+A) (by omega))) hv) (by omega);have e3:=Bd.mono (m:=A+B+C+2) (Bd.mul (Bd.sub (Bd.mul ha hy) (Bd.mono (Bd.mul hb hx) (m:=A+B) (by omega))) hw) (by omega);exact Bd.add (Bd.add e1 e2) e3
def Cn (p:Pt):Prop:=(Bd 28 p.x/\Bd 28 p.y/\Bd 28 p.z)/\Bd 2 p.w/\1<=p.w
theorem jgH {a b c:Pt} (ha:Cn a) (hb:Cn b) (hc:Cn c):∃p:Pt,pln (rgh a b c)=[p.x,p.y,p.z,p.w]/\PlG p:=by
 obtain⟨⟨a1,a2,a3⟩,a4,_⟩:=ha;obtain⟨⟨b1,b2,b3⟩,b4,_⟩:=hb;obtain⟨⟨c1,c2,c3⟩,c4,_⟩:=hc;have m0:Bd 66 (jaC 0 a b c):=by show Bd 66 (jbE a.y a.z a.w b.y b.z b.w c.y c.z c.w);exact Bd.mono (jli a2 a3 a4 b2 b3 b4 c2 c3 c4)
 have m1:Bd 66 (-jaC 1 a b c):=by show Bd 66 (-jbE a.x a.z a.w b.x b.z b.w c.x c.z c.w);exact (Bd.mono (jli a1 a3 a4 b1 b3 b4 c1 c3 c4)).neg
 have m2:Bd 66 (jaC 2 a b c):=by show Bd 66 (jbE a.x a.y a.w b.x b.y b.w c.x c.y c.w);exact Bd.mono (jli a1 a2 a4 b1 b2 b4 c1 c2 c4)
 have m3:Bd 94 (jaC 3 a b c):=by show Bd 94 (jbE a.x a.y a.z b.x b.y b.z c.x c.y c.z);exact Bd.mono (jli a1 a2 a3 b1 b2 b3 c1 c2 c3)
 unfold rgh;generalize jaC 0 a b c=x at m0;generalize -jaC 1 a b c=y at m1;generalize jaC 2 a b c=z at m2;generalize jaC 3 a b c=v at m3;have e:pln [x,y,z,v]=if plb (x / gl [x,y,z,v]) (y / gl [x,y,z,v]) (z / gl [x,y,z,v])=true then [x / gl [x,y,z,v],y / gl [x,y,z,v],z / gl [x,y,z,v],v / gl [x,y,z,v]] else [-(x / gl [x,y,z,v]),-(y / gl [x,y,z,v]),-(z / gl [x,y,z,v]),-(v / gl [x,y,z,v])]:=rfl;rw[e];by_cases h:plb (x / gl [x,y,z,v]) (y / gl [x,y,z,v]) (z / gl [x,y,z,v])=true
 ·rw[if_pos h];exact⟨⟨_,_,_,_⟩,rfl,⟨Bd.div m0,Bd.div m1,Bd.div m2⟩,Bd.div m3⟩
 ·rw[if_neg h];exact⟨⟨_,_,_,_⟩,rfl,⟨Bd.neg (Bd.div m0),Bd.neg (Bd.div m1),Bd.neg (Bd.div m2)⟩,Bd.neg (Bd.div m3)⟩
theorem PlG.sm (h:PlG p):p.sm:=⟨Bd.mono h.1.1,Bd.mono h.1.2.1,Bd.mono h.1.2.2,Bd.mono h.2⟩
def OB (ps:List Pt):Prop:=(∃(Z:Sht) (ws:List Tri),SZ Z/\VF ws/\ws.length<=6/\ps=frm (ws.map (spt Z)) (ws.map (spt Z)))/\∀p∈ps,Cn p
def chkR (vs:List Tri):Bool:=((List.range vs.length).all fun i=>(List.range vs.length).all fun j=>(List.range vs.length).all fun k=>!(decide (i<j)&&decide (j<k))||decide (0<dt (tr vs i) (tr vs j) (tr vs k)))&&vs.all fun v=>decide (1<=v.z)
theorem jjF (h:chkR vs=true):TpL vs/\∀v∈vs,1<=v.z:=by
 unfold chkR at h;rw[xbE] at h;obtain⟨h1,h2⟩:=h;refine⟨fun i j k ij jk kn=>?_,fun v hv=>of_decide_eq_true (xbU.mp h2 v hv)⟩;have z:=xbU.mp (xbU.mp (xbU.mp h1 i (xaF.mpr (by omega))) j (xaF.mpr (by omega))) k (xaF.mpr kn);rw[decide_eq_true ij,decide_eq_true jk] at z;exact of_decide_eq_true z
theorem jjG:∀i,i<6->chkR (shp i)=true:=by decide +kernel
theorem jjH:∀i,i<6->∀v∈shp i,(v.x.natAbs<=2/\v.y.natAbs<=2)/\v.z=1:=by decide +kernel
theorem jgI:∀i,i<6->3<=(shp i).length/\(shp i).length<=6:=by decide +kernel
theorem jfv (h:i<6):Rng (shp i):=⟨(jgI i h).1,(jjF (jjG i h)).1,(jjF (jjG i h)).2⟩
theorem jpH (h:i<6):VF (shp i):=VF.six (jfv h) fun v hv=>by
 obtain⟨⟨h1,h2⟩,h3⟩:=jjH i h v hv;refine⟨?_,?_,?_⟩<;>(unfold Bd;omega)
theorem RawB.bds (h:RawB n Z) (n9:n<=9):(Bd 27 Z.s.x/\Bd 27 Z.s.y/\Bd 27 Z.s.z)/\Bd 2 Z.w/\(Bd 20 Z.c.x/\Bd 20 Z.c.y/\Bd 20 Z.c.z)/\Bd 20 Z.d.x/\Bd 20 Z.d.y/\Bd 20 Z.d.z:=by
 have h1:=h.sx;have h2:=h.sy;have h3:=h.sz;have h4:=h.w1;have h5:=h.w3;have h6:=h.c;have h7:=h.d;unfold Bd;omega
theorem sz_of (h:RawOk n Z) (n9:n<=9):SZ Z:=by
 obtain⟨⟨s1,s2,s3⟩,hw,⟨c1,c2,c3⟩,d1,d2,d3⟩:=h.b.bds n9;refine⟨h.b.w1,h.nz,fun v ⟨v1,v2,v3⟩=>?_,fun p ⟨⟨p1,p2,p3⟩,p4⟩=>?_⟩
 ·have one:∀{s c d:Int},Bd 27 s->Bd 20 c->Bd 20 d->Bd 252 (s*v.z+Z.w*(v.x*c+v.y*d)):=fun hs hc hd =>
   Bd.mono (Bd.add (n:=248) (Bd.mono (Bd.mul hs v3)) (Bd.mono (Bd.mul hw (Bd.add (n:=241) (Bd.mul v1 hc) (Bd.mul v2 hd)))))
  exact⟨Bd.div (one s1 c1 d1),Bd.div (one s2 c2 d2),Bd.div (one s3 c3 d3),Bd.div (Bd.mono (Bd.mul hw v3))⟩
 ·have one:∀{c d e:Int},Bd 20 c->Bd 20 d->Bd 20 e->Bd 110 (Z.w*(p.x*c+p.y*d+p.z*e)):=fun hc hd he =>
   Bd.mono (Bd.mul hw (Bd.add (n:=87) (Bd.add (n:=86) (Bd.mul p1 hc) (Bd.mul p2 hd)) (Bd.mono (Bd.mul p3 he))))
  refine⟨⟨Bd.mono p1,Bd.mono p2,Bd.mono p3,Bd.mono p4⟩,one c1 c2 c3,one d1 d2 d3,?_⟩;exact Bd.mono (Bd.sub (n:=96) (Bd.mono (Bd.add (n:=94) (Bd.add (n:=93) (Bd.mul p1 s1) (Bd.mul p2 s2)) (Bd.mono (Bd.mul p3 s3)))) (Bd.mul p4 hw))
theorem jjI (h:RawOk n Z) (n9:n<=9) (hi:i<6):∀v∈shp i,Cn (spt Z v):=fun v hv=>by
 obtain⟨⟨h1,h2⟩,h3⟩:=jjH i hi v hv;obtain⟨B1,B2,B3,B4⟩:=jmf h.b n9 h1 h2 h3;refine⟨⟨Bd.mono (Bd.div B1),Bd.mono (Bd.div B2),Bd.mono (Bd.div B3)⟩,?_,jf4 h.b.w1 (show 1<=v.z by omega)⟩;show Bd 2 (rW Z v / rG Z v);rw[jjv h3];exact Bd.div (h.b.bds n9).2.1
theorem ob_of (h:RawOk n Z) (n9:n<=9) (hi:i<6) (r:ps=frm ((shp i).map (spt Z)) ((shp i).map (spt Z))):OB ps:=by
 refine⟨⟨Z,shp i,sz_of h n9,jpH hi,(jgI i hi).2,r⟩,fun p hp=>?_⟩;obtain⟨v,hv,e⟩:=xao.mp ((jes _ _).mem.mp (show p∈frm ((shp i).map (spt Z)) ((shp i).map (spt Z)) by rw[<- r];exact hp));rw[<- e];exact jjI h n9 hi v hv
def SomeAt (m:Nat) (H:Hp) (S:Addr) (xs:List (Int × List Pt)):Prop:=∃rs,H S=some (.lst (rs.map V.ref))/\All2 (PcAt H) rs xs/\(∀x∈xs,OB x.2)/\xs.length=m/\(xs.map (·.1)).Nodup/\∀x∈xs,-4<=x.1/\x.1<=2000010
def jgc (m:Nat) (H:Hp) (R:Addr):Prop:=∃(rs:List Addr) (zs:List (Sht × Nat)),H R=some (.lst (rs.map V.ref))/\All2 (RwAt 8 H) rs zs/\zs.length=m
theorem jhw:∀us:List Int,∃M:Int,∀u∈us,u<M
  | []=>⟨0,fun _ z=>nomatch z⟩
  | u :: us => by
    obtain⟨M,h⟩:=jhw us;refine⟨max M (u+1),fun v hv=>?_⟩;rcases xaG.mp hv with rfl | hv
    . omega
    . have:=h v hv
      omega
theorem jlj (xs:List Int):(xs.map V.int).all je1=true:=by
 rw[xbU];intro v hv;obtain⟨x,_,rfl⟩:=xao.mp hv;rfl
theorem jnM (x:Int) (xs:List Int):inV (.int x) (xs.map V.int)=decide (x∈xs):=by
 unfold inV;rw[List.any_map];have e:(xs.any ((fun z=>eqV z (.int x))∘V.int))=xs.any fun z=>z==x:=rfl;rw[e];by_cases c:x∈xs
 ·rw[decide_eq_true c,List.any_eq_true];exact⟨x,c,beq_self_eq_true x⟩
 ·rw[decide_eq_false c,List.any_eq_false];intro z hz e;exact c (by rw[<- eq_of_beq e];exact hz)
inductive spSomei (K:PySem.W.Frag) (vs:List V) (H:Hp) (Q:VK):Prop
 | mk (a:Addr) (cs:List Int) (_:vs=[.ref a]) (_:SqL K H a (cs.map V.int)) (_:cs.length<=5) (_:∀(t S R:Addr) (H':Hp) (xs:List (Int × List Pt)),Same H H'->H S=none->H R=none->H' t=some (.tup [.ref S,.ref R])->SomeAt cs.length H' S xs->jgc cs.length H' R->Q (.ref t) H')
def jmh (K:PySem.W.Frag):Sp:=fun vs H Q _=>spSomei K vs H Q
theorem jnN (T:Tx K mg t1 t2) (F:At K mg "_law_some" jc6 ["cells"] []) (dI:jao P w K mg base CX0 1 "_law_state" ["cell"] [] jnB) (Dm:jao P w K mg base CX0 3 "_law_raw" ["state","made"] [] jpC) (da:jao P w K mg base CX0 1 "_law_next" ["state","many"] [] jju) (dk:jao P w K mg base CX0 4 "_law_corners" ["raw"] [] jhv) (Db:jao P w K mg base CX0 6 "made_board" ["corners"] [] jiM):jao P w K mg base CX0 7 "_law_some" ["cells"] [] (jmh K):=by
 refine F.ok jdQ (by walk_at "ar") (fun f cdv A outer s H vs Q E hr h=>?_);obtain⟨a,cs,rfl,k1,l5,q⟩:=h;have S:=jdQ;refine⟨_,(jaf (jat (i:=1) S.nd rfl (Or.inl rfl) (jaM jad))
  (jaf (jat (i:=2) S.nd rfl (Or.inl rfl) (jaM jad))
  (jaf (jat (i:=3) S.nd rfl (Or.inl rfl) (jaM jad))
  (jaf (jbp PassesOwn.never rfl (jbk (pv 0)) (jan (i:=4) S.nd rfl (Or.inl rfl))
  (jaf (jat (i:=5) S.nd rfl (Or.inl rfl) (jag dI hr.m rfl jav (jaa (pv 4) jad jae)))
  (jaf (jbc (jcq PySem.F.plainAttrs_list PySem.F.slot_list_append PySem.F.type_list_append jaR (pv 1) (jaa (jag Dm hr.m rfl jav (jaa (pv 5) (jaa (pv 1) jad jae) jae)) jad jaF)))
  (jaf (jat (i:=6) S.nd rfl (Or.inl rfl) (jau ja6 (jag da hr.m rfl jav (jaa (pv 5) (jaa (jak ix_list (jaM (jaa jab (jaa jab (jaa jab jad jaj) jaj) jaj)) (jag da hr.m rfl jav (jaa (pv 5) (jaa jab jad jaj) jae))) jad jap) jae)) jab))
  (jaf (jc7 PassesOwn.never (jaq jio (pv 6) (pv 3) rfl)
  (jai (jat (i:=6) S.nd rfl (Or.inl rfl) (jau jbf (pv 6) jab))))
  (jaf (jbc (jcq PySem.F.plainAttrs_list PySem.F.slot_list_append PySem.F.type_list_append jaR (pv 3) (jaa (pv 6) jad jae)))
  (jai (jbc (jcq PySem.F.plainAttrs_list PySem.F.slot_list_append PySem.F.type_list_append jaR (pv 2) (jaa (jaB (jaa (pv 6) (jaa (jag Db hr.m rfl jav (jaa (jag dk hr.m rfl jav (jaa (jak ix_list (pv 1) (jdq jb6 jab)) jad jap)) jad jaF)) jad jaF) jae)) jad jaE))))))))))
  (jai (jas (jaB (jaa (pv 2) (jaa (pv 1) jad jae) jae)))))))),?_⟩
 walk_at "rf";refine⟨by decide,fun R hR=>⟨by decide,fun S hS=>⟨by decide,fun U hU=>?_⟩⟩⟩;have j1:=Same.new hR (.lst []);have j2:=Same.new hS (.lst []);have j3:=Same.new hU (.lst []);have RS:R≠S:=jar (show upd H R (.lst []) R=some (.lst []) from jac) hS;have RU:R≠U:=jar (j2 _ _ (show upd H R (.lst []) R=some (.lst []) from jac)) hU;have SU:S≠U:=jar (show upd (upd H R (.lst [])) S (.lst []) S=some (.lst []) from jac) hU;have eR0:=j3 _ _ (j2 _ _ (show upd H R (.lst []) R=some (.lst []) from jac));have eS0:=j3 _ _ (show upd (upd H R (.lst [])) S (.lst []) S=some (.lst []) from jac);have eU0:upd (upd (upd H R (.lst [])) S (.lst [])) U (.lst []) U=some (.lst []):=jac;have hS0:=j1.noneN hS;have hU0:=j1.noneN (j2.noneN hU);have s0:=j1.trans (j2.trans j3);generalize upd (upd (upd H R (.lst [])) S (.lst [])) U (.lst [])=H0 at eR0 eS0 eU0 s0 |-
 clear j1 j2 j3 hS hU;refine⟨⟨_,s0.seq k1⟩,jbw (K:=K) (a:=a) (xs:=cs.map V.int) (fun i σ Hh=>∃(o4 o5 o6:Option V) (rs:List Addr) (zs:List (Sht × Nat)) (ps:List Addr) (xs:List (Int × List Pt)) (us:List Int),σ=[some (.ref a),some (.ref R),some (.ref S),some (.ref U),o4,o5,o6]/\Same H Hh/\(Hh R=some (.lst (rs.map V.ref))/\All2 (RwAt i Hh) rs zs/\zs.length=i)/\(Hh S=some (.lst (ps.map V.ref))/\All2 (PcAt Hh) ps xs/\(∀x∈xs,OB x.2)/\xs.length=i)/\Hh U=some (.lst (us.map V.int))/\us.length=i/\us=xs.map (·.1)/\us.Nodup/\∀u∈us,-4<=u/\u<2000000+(i:Int)) ⟨_,_,_,[],[],[],[],[],rfl,s0,⟨eR0,.nil,rfl⟩,⟨eS0,.nil,(fun _ z=>nomatch z),rfl⟩,eU0,rfl,rfl,xch,fun _ z=>nomatch z⟩ (fun i σ Hh _ ⟨_,_,_,_,_,_,_,_,_,sx,_⟩=>sx.seq k1) ?_ ?_⟩
 ·rintro i v σ Hh hi ⟨o4,o5,o6,rs,zs,ps,xs,us,rfl,sx,⟨eR,aR,lz⟩,⟨eS,aS,ob,lx⟩,eU,lu,eus,nd,nb⟩;obtain⟨c,rfl,hc⟩:=jiF hi;have il:i<cs.length:=(xaj.mp hc).1;have lrs:=aR.len;have lps:=aS.len;walk_at "rf";refine⟨c,rfl,fun L H1 nL s1 b1=>?_⟩;have RL:R≠L:=jar eR nL;have SL:S≠L:=jar eS nL;have UL:U≠L:=jar eU nL;refine⟨.inl ⟨_,SqL.of (s1 _ _ eR)⟩,L,R,i,rs,zs,rfl,b1,RL,s1 _ _ eR,aR.mono fun _ _ h=>h.keep s1.t,by omega,by omega,fun t H2 z s2 b2 hz=>?_⟩;have R2:=s2 _ _ RL (s1 _ _ eR);have S2:=s2 _ _ SL (s1 _ _ eS);have U2:=s2 _ _ UL (s1 _ _ eU);have t2:SameT Hh H2:=s1.t.trans (b1.t s2);have x2:Same H H2:=fun b o e=>s2 b o (fun z=>by rw[z] at e;rw[sx _ _ e] at nL;cases nL) (s1 _ _ (sx _ _ e));refine⟨R,_,_,rfl,rfl,R2,jaD (by rw[xaa];omega),?_⟩;have nR:H R=none:=hR;have nLH:H L=none:=sx.noneN nL;have tu:=SameT.upd (ys:=rs.map V.ref++[V.ref t]) R2;have aR3:All2 (RwAt (i+1) (upd H2 R (.lst (rs.map V.ref++[V.ref t])))) (rs++[t]) (zs++[z]):=(aR.mono fun _ _ h=>(RwAt.keep (n:=i+1) ⟨h.1,h.2.mono (by omega)⟩ (t2.trans tu))).app (.cons (hz.keep tu) .nil);have aS3:All2 (PcAt (upd H2 R (.lst (rs.map V.ref++[V.ref t])))) ps xs:=aS.mono fun _ _ h=>h.keep (t2.trans tu);have R3:upd H2 R (.lst (rs.map V.ref++[V.ref t])) R=some (.lst ((rs++[t]).map V.ref)):=by rw[jac,xaf];rfl
  have S3:upd H2 R (.lst (rs.map V.ref++[V.ref t])) S=some (.lst (ps.map V.ref)):=by rw[jaz (Ne.symm RS)];exact S2
  have U3:upd H2 R (.lst (rs.map V.ref++[V.ref t])) U=some (.lst (us.map V.int)):=by rw[jaz (Ne.symm RU)];exact U2
  have x3:Same H (upd H2 R (.lst (rs.map V.ref++[V.ref t]))):=Same.keepN x2 nR _;have b3:Sta (upd H2 R (.lst (rs.map V.ref++[V.ref t]))) L:=by
   obtain⟨p,q,h1,h2⟩:=b2;exact⟨p,q,by rw[jaz (Ne.symm RL)];exact h1,h2⟩
  have hz3:=hz.keep tu;have e3:(rs++[t]).length=i+1:=by rw[xad,lrs,lz];rfl
  have e3':(rs++[t])[i]?=some t:=by rw[xau (by omega)];rw[show i-rs.length=0 by omega];rfl
  have e4:(zs++[z]).length=i+1:=by rw[xad,lz];rfl
  generalize upd H2 R (.lst (rs.map V.ref++[V.ref t]))=H3 at tu aR3 aS3 R3 S3 U3 x3 b3 hz3 |-
  generalize rs++[t]=rs' at aR3 R3 e3 e3';generalize zs++[z]=zs' at aR3 e4;clear tu t2 R2 S2 U2 x2 s2 b2 s1 b1 eR aR eS aS eU hz;refine⟨by decide,fun p hp=>?_⟩;refine jeA hp fun H4 j ep=>?_;refine⟨L,3,rfl,b3.keep j,by decide,by decide,fun H5 d s5 b5 d0 d3=>?_⟩;obtain⟨m,em,m1,m2,m3⟩:∃m:Int,atI [V.int 9,V.int 9,V.int 2000001] d=some (.int m)/\0<m/\m<2^60/\m<=2000001:=by
   have:d=0\/d=1\/d=2:=by omega
   rcases this with rfl | rfl | rfl
   ·exact⟨9,rfl,by decide,by decide,by decide⟩
   ·exact⟨9,rfl,by decide,by decide,by decide⟩
   ·exact⟨2000001,rfl,by decide,by decide,by decide⟩
  refine ixL (SqL.of (s5 _ _ (b3.ne hp) ep)) em ⟨L,m,rfl,b5,m1,m2,fun H6 k s6 b6 k0 km=>⟨k,rfl,?_⟩⟩;have s36:SameB L H3 H6:=j.b.trans (s5.trans s6);have t36:SameT H3 H6:=b3.t s36;have R6:=s36 _ _ RL R3;have S6:=s36 _ _ SL S3;have U6:=s36 _ _ UL U3;have x6:Same H H6:=fun b o e=>s36 b o (jar e nLH) (x3 _ _ e);have aR6:=aR3.mono fun _ _ h=>RwAt.keep h t36;have aS6:=aS3.mono fun _ _ h=>PcAt.keep h t36;have hz6:=hz3.keep t36;clear s36 t36 s6 s5 j ep R3 S3 U3 x3 aR3 aS3 hz3;obtain⟨M,hM⟩:=jhw us;have ha0:-4<=k-4/\k-4<=2000000+(i:Int):=by omega
  generalize k-4=a0 at ha0 |-
  refine⟨fun n σ Hk=>Hk=H6/\∃y:Int,σ=[some (.ref a),some (.ref R),some (.ref S),some (.ref U),some (.int c),some (.ref L),some (.int y)]/\n=(M-y).toNat/\-4<=y/\y<=2000000+(i:Int),⟨_,rfl,a0,rfl,rfl,ha0⟩,?_⟩;rintro n σ Hk ⟨rfl,y,rfl,rfl,y1,y2⟩;walk_at "rf";refine⟨U,_,rfl,.inl (SqL.of U6),rfl,jlj us,?_⟩;rw[jnM];refine⟨_,rfl,jbP (fun cc=>?_) fun cc=>?_⟩
  ·rw[if_neg (by decide)] at cc;have yu:y∈us:=of_decide_eq_true cc;exact⟨fun σ' H'=>σ'=[some (.ref a),some (.ref R),some (.ref S),some (.ref U),some (.int c),some (.ref L),some (.int (y+1))]/\H'=Hk,fun σ' H' ⟨h1,h2⟩=>⟨(M-(y+1)).toNat,by have:=hM y yu;omega,h2,y+1,h1,rfl,by omega,by have:=(nb y yu).2;omega⟩,rfl,rfl⟩
  rw[if_neg (by decide)] at cc;have yn:y∉us:=fun h=>cc (decide_eq_true h);refine⟨.inl ⟨_,SqL.of U6⟩,U,_,_,rfl,rfl,U6,jaD (by rw[xaa];omega),?_⟩;have tu:=SameT.upd (ys:=us.map V.int++[V.int y]) U6;have R7:upd Hk U (.lst (us.map V.int++[V.int y])) R=some (.lst (rs'.map V.ref)):=by rw[jaz RU];exact R6
  have S7:upd Hk U (.lst (us.map V.int++[V.int y])) S=some (.lst (ps.map V.ref)):=by rw[jaz SU];exact S6
  have U7:upd Hk U (.lst (us.map V.int++[V.int y])) U=some (.lst ((us++[y]).map V.int)):=by rw[jac,xaf];rfl
  have x7:Same H (upd Hk U (.lst (us.map V.int++[V.int y]))):=Same.keepN x6 hU0 _;have aR7:=aR6.mono fun _ _ h=>RwAt.keep h tu;have aS7:=aS6.mono fun _ _ h=>PcAt.keep h tu;have hz7:=hz6.keep tu;generalize upd Hk U (.lst (us.map V.int++[V.int y]))=H7 at tu R7 S7 U7 x7 aR7 aS7 hz7 |-
  refine⟨.inl ⟨_,SqL.of S7⟩,ixL (SqL.of R7) (jcQ (n:=i) (v:=.ref t) (by rw[xaa];exact e3) (by rw[xae,e3'];rfl)) ?_⟩;have h6:z.2<6:=by
   obtain⟨⟨_,_,_,_,_,_,_,h⟩,_⟩:=hz7;exact h
  refine⟨t,i+1,z,rfl,hz7,by omega,fun l H8 ws nl s8 hc8=>?_⟩;refine⟨l,ws,_,rfl,hc8,jht hz7.2.b.w1 hz7.2.nz (jfv h6) (by have:=(jgI z.2 h6).2;omega),fun bt H9 s9 e9=>⟨by decide,fun p hp=>?_⟩⟩;have j:=Same.new hp (.tup [.int y,.ref bt]);have s710:=(s8.trans s9).trans j;have ep:upd H9 p (.tup [.int y,.ref bt]) p=some (.tup [.int y,.ref bt]):=jac;have ebt:=j _ _ e9;have sbt:=Sps.frm (ps:=(shp z.2).map (spt z.1)) ((hc8.2.keep s9.t).keep j.t);generalize upd H9 p (.tup [.int y,.ref bt])=H10 at j s710 ep ebt sbt |-
  have S10:=s710 _ _ S7;have tu2:=SameT.upd (ys:=ps.map V.ref++[V.ref p]) S10;refine⟨S,_,_,rfl,rfl,S10,jaD (by rw[xaa];omega),Same.keepN (x7.trans s710) hS0 _,rs',by rw[jaz RS];exact s710 _ _ R7,zs',aR7.mono fun _ _ h=>RwAt.keep h (s710.t.trans tu2),e4,ps++[p],by rw[jac,xaf];rfl,xs++[(y,frm ((shp z.2).map (spt z.1)) ((shp z.2).map (spt z.1)))],(aS7.mono fun _ _ h=>PcAt.keep h (s710.t.trans tu2)).app (.cons (PcAt.keep ⟨bt,ep,_,ebt,sbt⟩ tu2) .nil),fun x hx=>?_,by rw[xad,lx];rfl,us++[y],by rw[jaz (Ne.symm SU)];exact s710 _ _ U7,by rw[xad,lu];rfl,by rw[xaf,<- eus];rfl,List.nodup_append.mpr ⟨nd,by simp,fun a ha b hb e=>yn (by rw[<- xar.mp hb,<- e];exact ha)⟩,fun u hu=>(xas.mp hu).elim (fun h=>⟨(nb u h).1,by have:=(nb u h).2;omega⟩) fun h=>by rw[xar.mp h];exact⟨y1,by omega⟩⟩;rcases xas.mp hx with hx | hx
  ·exact ob x hx
  ·rw[xar.mp hx];exact ob_of hz7.2 (by omega) h6 rfl
 ·rintro σ Hh ⟨o4,o5,o6,rs,zs,ps,xs,us,rfl,sx,⟨eR,aR,lz⟩,⟨eS,aS,ob,lx⟩,eU,lu,eus,nd,nb⟩;rw[xaa] at aR lz lx;walk_at "rf";refine⟨by decide,fun p hp=>?_⟩;have j:=Same.new hp (.tup [.ref S,.ref R]);exact q p S R _ xs (sx.trans j) hS0 hR jac ⟨ps,j _ _ eS,aS.mono fun _ _ h=>h.keep j.t,ob,lx,by rw[<- eus];exact nd,fun x hx=>by
   have:=nb x.1 (by rw[eus];exact xa8 hx);rw[xaa] at this;omega⟩ ⟨rs,zs,j _ _ eR,aR.mono fun _ _ h=>RwAt.keep ⟨h.1,h.2.mono (by omega)⟩ j.t,lz⟩
def pcD (x:Int × List Pt):PyData:=.tuple [.int x.1,jh3 x.2]
theorem PcAt.rds {x:Int × List Pt} (h:PcAt H r x):Rds K H (.ref r) (pcD x):=by
 obtain⟨t,e,rs,e1,e2⟩:=h;exact .tup (SqT.of e) (.cons (.int _) (.cons (jff e1 e2) .nil))
theorem jfw {rs:List Addr} {xs:List (Int × List Pt)} (h:All2 (PcAt H) rs xs):RdsAll K H (rs.map V.ref) (xs.map pcD):=by
 induction h with
 | nil=>exact .nil
 | cons h _ ih=>exact .cons h.rds ih
theorem jgJ (xs:List (Int × List Pt)):PyData.canLayAll0 (xs.map pcD)=true/\PyData.depthAll (xs.map pcD)<=3:=by
  induction xs with
  | nil=>exact⟨rfl,by decide⟩
  | cons x xs ih =>
    obtain⟨a,b⟩:=ih;obtain⟨l1,l2,_⟩:=jgw x.2;refine⟨?_,?_⟩
    . rw[xaH]
      simp [PyData.canLayAll0,a,pcD,PyData.canLay0,l1]
    . rw[xaH]
      simp [PyData.depthAll,pcD,PyData.depth];omega
theorem jjJ {α β:Type} {R:α->β->Prop}:∀{as:List α},(∀a∈as,∃b,R a b)->∃bs,All2 R as bs
  | [],_=>⟨[],.nil⟩
  | a :: as, h => by
    obtain⟨b,hb⟩:=h a (.head _);obtain⟨bs,hbs⟩:=jjJ (as:=as) fun c hc=>h c (.tail _ hc);exact⟨b::bs,.cons hb hbs⟩
variable {Q:VK}
theorem jfx {p:Addr} {rs:List Addr} {xs:List (Int × List Pt)} (hM:H M=some (.lst (rs.map V.ref))) (h:All2 (PcAt H) rs xs) (hp:H p=some (.lst [])) (q:Q (.bl (!decide (rs=[]))) H):jit K true (.ref M) (.ref p) H Q:=by
 obtain⟨a,b⟩:=jgJ xs;refine⟨.list (xs.map pcD),.list [],.lst (SqL.of hM) (jfw h),.lst (SqL.of hp) .nil,?_,by decide,?_⟩
 ·unfold SeqAt.shaped;simp [PyData.canLay0,a,PyData.depth];omega
 have e:PyData.eqv (.list (xs.map pcD)) (.list [])=decide (rs=[]):=by
  cases h with
  | nil=>rfl
  | cons _ _=>rfl
 rw[e];exact q
inductive spDv2i (vs:List V) (H:Hp) (Q:VK):Prop
 | mk (x y:Int) (_:vs=[.int x,.int y]) (_:Q (.int (Int.gcd x y:Nat)) H)
def jpI:Sp:=fun vs H Q _=>spDv2i vs H Q
theorem jpJ (T:Tx K mg t1 t2) (F:At K mg "_law_divisor" jbZ ["one","other"] []):jao P w K mg base CX0 1 "_law_divisor" ["one","other"] [] jpI:=by
 refine F.ok jcE (by walk_at "ar") (fun f cdv A outer s H vs Q E hr h=>?_);obtain⟨x,y,rfl,q⟩:=h;have S:=jcE;refine⟨_,(jaf (jat (i:=0) S.nd rfl (Or.inl rfl) (jaG jcO rfl T.m_abs boot_abs (jaa (pv 0) jad jae)))
  (jaf (jat (i:=1) S.nd rfl (Or.inl rfl) (jaG jcO rfl T.m_abs boot_abs (jaa (pv 1) jad jae)))
  (jaf (jc7 PassesOwn.never (jaq jgm (pv 1) jab (jax _))
  (jai (jou (i:=0) (j:=1) rfl S.nd rfl rfl (by decide) rfl rfl (jaa (pv 1) (jaa (jau jbR (pv 0) (pv 1)) jad ja7) jae) rfl)))
  (jai (jas (pv 0)))))),?_⟩
 walk_at "rf";refine⟨fun n σ H3=>H3=H/\∃(a b:Int),σ=[some (.int a),some (.int b)]/\0<=a/\0<=b/\Int.gcd a b=Int.gcd x y/\n=b.natAbs,⟨_,rfl,_,_,rfl,by split<;>omega,by split<;>omega,?_,rfl⟩,?_⟩
 ·split<;>split<;>simp [Int.neg_gcd,Int.gcd_neg]
 rintro n σ H3 ⟨rfl,a,b,rfl,a0,b0,hg,rfl⟩;walk_at "rf";refine jbP (fun c=>?_) fun c=>?_
 ·have m0:=xbw a (show b≠0 by omega);have m1:=xbe a c;exact⟨fun σ' H'=>σ'=[some (.int b),some (.int (a % b))]/\H'=H3,fun σ' H' ⟨h1,h2⟩=>⟨(a % b).natAbs,by omega,h2,b,a % b,h1,b0,m0,(jnA a b).trans hg,rfl⟩,c,rfl,rfl⟩
 ·have e:b=0:=by omega
  subst e;rw[Int.gcd_zero_right] at hg;rw[show a=((Int.gcd x y:Nat):Int) by omega];exact q
theorem jjK {rs:List Addr} (h:Sps H rs ps) (n:3<=ps.length):∃a b c:Addr,(rs.map V.ref).take 3=[.ref a,.ref b,.ref c]/\Is4 H a (pt ps 0)/\Is4 H b (pt ps 1)/\Is4 H c (pt ps 2):=by
  cases h with
  | nil=>exact absurd n (by decide)
  | cons h1 h => cases h with
    | nil=>exact absurd n (show ¬3<=1 by decide)
    | cons h2 h => cases h with
      | nil=>exact absurd n (show ¬3<=2 by decide)
      | cons h3 h=>exact⟨_,_,_,rfl,h1,h2,h3⟩
variable {v:Tri}
theorem jhx (h:v.bd n) (k:Nat):Bd n (cmp v k):=by
 unfold cmp;split
 ·exact h.1
 ·split
  ·exact h.2.1
  ·exact h.2.2
def dfr (B A:Pt):Tri:=⟨B.x*A.w-A.x*B.w,B.y*A.w-A.y*B.w,B.z*A.w-A.z*B.w⟩
def nup (ps:List Pt):Tri:=upr (dfr (pt ps 1) (pt ps 0)) (dfr (pt ps 2) (pt ps 0))
def fo4 (ps:List Pt):List Int:=[(nup ps).x*(pt ps 0).w,(nup ps).y*(pt ps 0).w,(nup ps).z*(pt ps 0).w,(nup ps).x*(pt ps 0).x+((nup ps).y*(pt ps 0).y+((nup ps).z*(pt ps 0).z+0))]
theorem jmi (A B C:Pt):(upr (dfr B A) (dfr C A)).x=A.w*jaC 0 A B C/\(upr (dfr B A) (dfr C A)).y=-(A.w*jaC 1 A B C)/\(upr (dfr B A) (dfr C A)).z=A.w*jaC 2 A B C:=by
 have h0:jaC 0 A B C=jbE A.y A.z A.w B.y B.z B.w C.y C.z C.w:=rfl;have h1:jaC 1 A B C=jbE A.x A.z A.w B.x B.z B.w C.x C.z C.w:=rfl;have h2:jaC 2 A B C=jbE A.x A.y A.w B.x B.y B.w C.x C.y C.w:=rfl;rw[h0,h1,h2];unfold upr dfr jbE;simp only;refine⟨?_,?_,?_⟩<;>grind
def Cg (p:Pt):Prop:=p.bd 252/\1<=p.w
theorem jhy {A B:Pt} (ha:Cg A) (hb:Cg B):(dfr B A).bd 505:=by
 obtain⟨⟨a1,a2,a3,a4⟩,_⟩:=ha;obtain⟨⟨b1,b2,b3,b4⟩,_⟩:=hb;exact⟨Bd.sub (n:=504) (Bd.mul b1 a4) (Bd.mul a1 b4),Bd.sub (n:=504) (Bd.mul b2 a4) (Bd.mul a2 b4),Bd.sub (n:=504) (Bd.mul b3 a4) (Bd.mul a3 b4)⟩
theorem jpK {u:Tri} (hu:u.bd 505) (hv:v.bd 505):(upr u v).bd 1011:=by
 obtain⟨a1,a2,a3⟩:=hu;obtain⟨b1,b2,b3⟩:=hv;exact⟨Bd.sub (n:=1010) (Bd.mul a2 b3) (Bd.mul a3 b2),Bd.sub (n:=1010) (Bd.mul a3 b1) (Bd.mul a1 b3),Bd.sub (n:=1010) (Bd.mul a1 b2) (Bd.mul a2 b1)⟩
def LP (ps:List Pt) (x y z v:Int):Prop:=∃g:Int,g≠0/\g*x=(nup ps).x*(pt ps 0).w/\g*y=(nup ps).y*(pt ps 0).w/\g*z=(nup ps).z*(pt ps 0).w/\g*v=(nup ps).x*(pt ps 0).x+((nup ps).y*(pt ps 0).y+((nup ps).z*(pt ps 0).z+0))
def Abc (H:Hp) (ra rb rc:Addr) (ps:List Pt):Prop:=Is4 H ra (pt ps 0)/\Is4 H rb (pt ps 1)/\Is4 H rc (pt ps 2)
theorem Abc.keep {ra rb rc:Addr} (h:Abc H ra rb rc ps) (s:Same H H'):Abc H' ra rb rc ps:=⟨h.1.keep s,h.2.1.keep s,h.2.2.keep s⟩
def pl0 (H:Hp) (l:Addr) (ps:List Pt):L2.St->Hp->Prop:=fun σ H'=>∃ra rb rc:Addr,σ=[some (.ref l),some (.ref ra),some (.ref rb),some (.ref rc),none,none,none,none,none]/\Abc H' ra rb rc ps/\Same H H'
def pl2 (K:PySem.W.Frag) (H:Hp) (l:Addr) (ps:List Pt):L2.St->Hp->Prop:=fun σ H'=>∃ra rb rc g1 g2:Addr,σ=[some (.ref l),some (.ref ra),some (.ref rb),some (.ref rc),some (.ref g1),some (.ref g2),none,none,none]/\Abc H' ra rb rc ps/\Lt3 K H' g1 (dfr (pt ps 1) (pt ps 0))/\Lt3 K H' g2 (dfr (pt ps 2) (pt ps 0))/\Same H H'
def pl3 (H:Hp) (l:Addr) (ps:List Pt):L2.St->Hp->Prop:=fun σ H'=>∃(ra rb rc g3:Addr) (o4 o5:Option V),σ=[some (.ref l),some (.ref ra),some (.ref rb),some (.ref rc),o4,o5,some (.ref g3),none,none]/\Abc H' ra rb rc ps/\H' g3=some (.tup [.int (nup ps).x,.int (nup ps).y,.int (nup ps).z])/\Same H H'
def pl4c (H:Hp) (l:Addr) (ps:List Pt):L2.St->Hp->Prop:=fun σ H'=>∃(ra rb rc g3 fl:Addr) (o4 o5:Option V),σ=[some (.ref l),some (.ref ra),some (.ref rb),some (.ref rc),o4,o5,some (.ref g3),some (.ref fl),none]/\Abc H' ra rb rc ps/\H' g3=some (.tup [.int (nup ps).x,.int (nup ps).y,.int (nup ps).z])/\H fl=none/\H' fl=some (.lst (((fo4 ps).take 3).map V.int))/\Same H H'
def pl5 (H:Hp) (l:Addr) (ps:List Pt):L2.St->Hp->Prop:=fun σ H'=>∃(fl:Addr) (o1 o2 o3 o4 o5 o6:Option V),σ=[some (.ref l),o1,o2,o3,o4,o5,o6,some (.ref fl),none]/\H' fl=some (.lst ((fo4 ps).map V.int))/\Same H H'
def pl6 (H:Hp) (l:Addr) (ps:List Pt):L2.St->Hp->Prop:=fun σ H'=>∃(fl:Addr) (o1 o2 o3 o4 o5 o6:Option V),σ=[some (.ref l),o1,o2,o3,o4,o5,o6,some (.ref fl),some (.int (gl (fo4 ps)))]/\H' fl=some (.lst ((fo4 ps).map V.int))/\Same H H'
def Fst (ps:List Pt) (j:Nat):Prop:=j<3/\(∀i,i<j->(fo4 ps).getD i 0=0)/\(fo4 ps).getD j 0≠0
def pl7 (H:Hp) (l:Addr) (ps:List Pt):L2.St->Hp->Prop:=fun σ H'=>∃(fl:Addr) (g:Int) (o1 o2 o3 o4 o5 o6:Option V),σ=[some (.ref l),o1,o2,o3,o4,o5,o6,some (.ref fl),some (.int g)]/\(∃j,Fst ps j/\((0<=(fo4 ps).getD j 0/\g=gl (fo4 ps))\/((fo4 ps).getD j 0<0/\g=-gl (fo4 ps))))/\H' fl=some (.lst ((fo4 ps).map V.int))/\Same H H'
theorem fil3 {p:Nat->Bool} {js:List Nat} (h:(List.range 3).filter p=j::js):j<3/\p j=true/\∀i,i<j->p i=false:=by
 have e:List.range 3=[0,1,2]:=rfl;rw[e] at h;cases h0:p 0<;>cases h1:p 1<;>cases h2:p 2<;>simp [List.filter,h0,h1,h2] at h<;>obtain⟨rfl,_⟩:=h<;>refine⟨by decide,by assumption,fun i hi=>?_⟩<;>(have:i=0\/i=1:=by omega)<;>rcases this with rfl | rfl<;>first | assumption | omega
theorem jhz {rb ra:Addr} {B A:Pt} {R:V->Hp->Prop} (hb:Is4 H rb B) (ha:Is4 H ra A) (cB:Cg B) (cA:Cg A) (hk:k<3) (q:R (.int (cmp (dfr B A) k)) H):jd7 K (V.ref rb) (V.int (0+(k:Int))) H fun x H1=>jd7 K (V.ref ra) (V.int 3) H1 fun y H2=>∃i,x=V.int i/\∃x,y=V.int x/\Fit i/\Fit x/\jd7 K (V.ref ra) (V.int (0+(k:Int))) H2 fun x_1 H1=>jd7 K (V.ref rb) (V.int 3) H1 fun y H2=>∃i_1,x_1=V.int i_1/\∃x_2,y=V.int x_2/\Fit i_1/\Fit x_2/\R (V.int (i*x-i_1*x_2)) H2:=by
 have e:cmp (dfr B A) k=cmp ⟨B.x,B.y,B.z⟩ k*A.w-cmp ⟨A.x,A.y,A.z⟩ k*B.w:=by
  match k,hk with
  | 0,_=>rfl
  | 1,_=>rfl
  | 2,_=>rfl
 rw[e] at q;have f1:Fit (cmp ⟨B.x,B.y,B.z⟩ k):=(jhx (v:=⟨B.x,B.y,B.z⟩) ⟨cB.1.1,cB.1.2.1,cB.1.2.2.1⟩ k).fit;have f2:Fit (cmp ⟨A.x,A.y,A.z⟩ k):=(jhx (v:=⟨A.x,A.y,A.z⟩) ⟨cA.1.1,cA.1.2.1,cA.1.2.2.1⟩ k).fit;exact ixT hb.sq (jpD ⟨B.x,B.y,B.z⟩ B.w hk) (ixT ha.sq (i:=3) rfl ⟨_,rfl,_,rfl,f1,cA.1.2.2.2.fit,ixT ha.sq (jpD ⟨A.x,A.y,A.z⟩ A.w hk) (ixT hb.sq (i:=3) rfl ⟨_,rfl,_,rfl,f2,cB.1.2.2.2.fit,q⟩)⟩)
theorem jpL {z:V} (h:(((fo4 ps).take 3).map V.int)[k]?=some z):z=.int ((fo4 ps).getD k 0)/\k<3:=by
 match k,h with
 | 0,h=>cases h;exact⟨rfl,by decide⟩
 | 1,h=>cases h;exact⟨rfl,by decide⟩
 | 2,h=>cases h;exact⟨rfl,by decide⟩
theorem fo_bd (cA:Cg (pt ps 0)) (bn:(nup ps).bd 1011):Bd 1266 ((fo4 ps).getD 0 0)/\Bd 1266 ((fo4 ps).getD 1 0)/\Bd 1266 ((fo4 ps).getD 2 0)/\Bd 1266 ((fo4 ps).getD 3 0):=by
 obtain⟨n1,n2,n3⟩:=bn;obtain⟨⟨a1,a2,a3,a4⟩,_⟩:=cA;refine⟨Bd.mono (Bd.mul n1 a4),Bd.mono (Bd.mul n2 a4),Bd.mono (Bd.mul n3 a4),?_⟩;exact Bd.add (n:=1265) (Bd.mono (Bd.mul n1 a1)) (Bd.add (n:=1264) (Bd.mono (Bd.mul n2 a2)) (Bd.add (n:=1263) (Bd.mul n3 a3) (by unfold Bd;decide)))
theorem jex (d:g ∣ x) (h:0<x/\0<g\/x<0/\g<0):0<x / g:=by
 obtain⟨k,rfl⟩:=d;have g0:g≠0:=by omega
 rw[Int.mul_ediv_cancel_left _ g0];rcases h with ⟨h1,h2⟩ | ⟨h1,h2⟩
 ·exact xbz h1 h2
 ·have h3:0<(-g)*k:=by rw[xcf];omega
  exact xbz h3 (by omega)
theorem jjL (F:Fst ps j) (hd:∀i∈fo4 ps,g ∣ i) (h:0<(fo4 ps).getD j 0/\0<g\/(fo4 ps).getD j 0<0/\g<0):plb ((fo4 ps).getD 0 0 / g) ((fo4 ps).getD 1 0 / g) ((fo4 ps).getD 2 0 / g)=true:=by
  obtain⟨j3,z,_⟩:=F;unfold plb
  match j,j3,z,h with
  | 0, _, _, h =>
    have p:=jex (hd _ (.head _)) h;change 0<(fo4 ps).getD 0 0 / g at p;rw[if_pos (by omega),decide_eq_true p]
  | 1, _, z, h =>
    have p:=jex (hd _ (.tail _ (.head _))) h;change 0<(fo4 ps).getD 1 0 / g at p;rw[z 0 (by decide),Int.zero_ediv,if_neg (by omega),if_pos (by omega),decide_eq_true p]
  | 2, _, z, h =>
    have p:=jex (hd _ (.tail _ (.tail _ (.head _)))) h;change 0<(fo4 ps).getD 2 0 / g at p;rw[z 0 (by decide),z 1 (by decide),Int.zero_ediv,if_neg (by omega),if_neg (by omega),if_pos (by omega),decide_eq_true p]
theorem jpM (aw:1<=(pt ps 0).w) (na:¬jbB (pt ps 0) (pt ps 1) (pt ps 2)):pln (fo4 ps)=pln (rgh (pt ps 0) (pt ps 1) (pt ps 2)):=by
 obtain⟨m0,m1,m2⟩:=jmi (pt ps 0) (pt ps 1) (pt ps 2);have e:fo4 ps=[(pt ps 0).w*(pt ps 0).w*jaC 0 (pt ps 0) (pt ps 1) (pt ps 2),(pt ps 0).w*(pt ps 0).w*-jaC 1 (pt ps 0) (pt ps 1) (pt ps 2),(pt ps 0).w*(pt ps 0).w*jaC 2 (pt ps 0) (pt ps 1) (pt ps 2),(pt ps 0).w*(pt ps 0).w*jaC 3 (pt ps 0) (pt ps 1) (pt ps 2)]:=by
  unfold fo4 nup;rw[m0,m1,m2];have h0:jaC 0 (pt ps 0) (pt ps 1) (pt ps 2)=jbE (pt ps 0).y (pt ps 0).z (pt ps 0).w (pt ps 1).y (pt ps 1).z (pt ps 1).w (pt ps 2).y (pt ps 2).z (pt ps 2).w:=rfl;have h1:jaC 1 (pt ps 0) (pt ps 1) (pt ps 2)=jbE (pt ps 0).x (pt ps 0).z (pt ps 0).w (pt ps 1).x (pt ps 1).z (pt ps 1).w (pt ps 2).x (pt ps 2).z (pt ps 2).w:=rfl;have h2:jaC 2 (pt ps 0) (pt ps 1) (pt ps 2)=jbE (pt ps 0).x (pt ps 0).y (pt ps 0).w (pt ps 1).x (pt ps 1).y (pt ps 1).w (pt ps 2).x (pt ps 2).y (pt ps 2).w:=rfl;have h3:jaC 3 (pt ps 0) (pt ps 1) (pt ps 2)=jbE (pt ps 0).x (pt ps 0).y (pt ps 0).z (pt ps 1).x (pt ps 1).y (pt ps 1).z (pt ps 2).x (pt ps 2).y (pt ps 2).z:=rfl;rw[h0,h1,h2,h3];unfold jbE;generalize pt ps 0=A;generalize pt ps 1=B;generalize pt ps 2=C;refine xcg.mpr ⟨by grind,xcg.mpr ⟨by grind,xcg.mpr ⟨by grind,xcg.mpr ⟨by grind,rfl⟩⟩⟩⟩
 rw[e];unfold rgh;refine jnz (Int.mul_ne_zero (by omega) (by omega)) fun z=>na ⟨z.1,by omega,z.2.2⟩
theorem jjM (cA:Cg (pt ps 0)) (na:¬jbB (pt ps 0) (pt ps 1) (pt ps 2)) (F:Fst ps j) (sg:(0<=(fo4 ps).getD j 0/\g=gl (fo4 ps))\/((fo4 ps).getD j 0<0/\g=-gl (fo4 ps))):[((nup ps).x*(pt ps 0).w).fdiv g,((nup ps).y*(pt ps 0).w).fdiv g,((nup ps).z*(pt ps 0).w).fdiv g,((nup ps).x*(pt ps 0).x+((nup ps).y*(pt ps 0).y+((nup ps).z*(pt ps 0).z+0))).fdiv g]=pln (rgh (pt ps 0) (pt ps 1) (pt ps 2)):=by
 rw[<- jpM cA.2 na];have hG:∀i∈fo4 ps,gl (fo4 ps) ∣ i:=fun i hi=>jaX hi;have hg:∀i∈fo4 ps,g ∣ i:=fun i hi=>by
  rcases sg with ⟨_,rfl⟩ | ⟨_,rfl⟩
  ·exact hG i hi
  ·exact Int.neg_dvd.mpr (hG i hi)
 have mj:(fo4 ps).getD j 0∈fo4 ps:=by
  match j,F.1 with
  | 0,_=>exact .head _
  | 1,_=>exact .tail _ (.head _)
  | 2,_=>exact .tail _ (.tail _ (.head _))
 have G0:0<gl (fo4 ps):=by
  have nn:=jbg (fo4 ps);rcases Int.lt_or_eq_of_le nn with h | h
  ·exact h
  ·have:=hG _ mj;rw[<- h] at this;exact absurd (Int.zero_dvd.mp this) F.2.2
 have nz:=F.2.2;have e:∀i∈fo4 ps,i.fdiv g=i / g:=fun i hi=>xcb (hg i hi);have pb:=jjL F hg (by omega);have a0:((nup ps).x*(pt ps 0).w).fdiv g=(fo4 ps).getD 0 0 / g:=e _ (.head _);have a1:((nup ps).y*(pt ps 0).w).fdiv g=(fo4 ps).getD 1 0 / g:=e _ (.tail _ (.head _));have a2:((nup ps).z*(pt ps 0).w).fdiv g=(fo4 ps).getD 2 0 / g:=e _ (.tail _ (.tail _ (.head _)));have a3:((nup ps).x*(pt ps 0).x+((nup ps).y*(pt ps 0).y+((nup ps).z*(pt ps 0).z+0))).fdiv g=(fo4 ps).getD 3 0 / g:=e _ (.tail _ (.tail _ (.tail _ (.head _))));rw[a0,a1,a2,a3];have ep:pln (fo4 ps)=if plb ((fo4 ps).getD 0 0 / gl (fo4 ps)) ((fo4 ps).getD 1 0 / gl (fo4 ps)) ((fo4 ps).getD 2 0 / gl (fo4 ps))=true then [(fo4 ps).getD 0 0 / gl (fo4 ps),(fo4 ps).getD 1 0 / gl (fo4 ps),(fo4 ps).getD 2 0 / gl (fo4 ps),(fo4 ps).getD 3 0 / gl (fo4 ps)] else [-((fo4 ps).getD 0 0 / gl (fo4 ps)),-((fo4 ps).getD 1 0 / gl (fo4 ps)),-((fo4 ps).getD 2 0 / gl (fo4 ps)),-((fo4 ps).getD 3 0 / gl (fo4 ps))]:=rfl;rw[ep];rcases sg with ⟨h1,rfl⟩ | ⟨h1,rfl⟩
 ·rw[if_pos pb]
 ·rw[xb0,xb0,xb0] at pb;have pn:=jjq pb;rw[xco,xco,xco] at pn;rw[if_neg (by rw[pn];decide),xb0,xb0,xb0,xb0]
inductive spLPli (vs:List V) (H:Hp) (Q:VK):Prop
 | mk (l:Addr) (rs:List Addr) (ps:List Pt) (_:vs=[.ref l]) (_:(H l=some (.lst (rs.map V.ref))\/H l=some (.tup (rs.map V.ref)))) (_:Sps H rs ps) (_:3<=ps.length) (_:(∀p∈ps,Cg p)) (_:¬jbB (pt ps 0) (pt ps 1) (pt ps 2)) (_:∀(t:Addr) (H':Hp) (x y z v:Int),Same H H'->H' t=some (.tup [.int x,.int y,.int z,.int v])->LP ps x y z v->[x,y,z,v]=pln (rgh (pt ps 0) (pt ps 1) (pt ps 2))->Q (.ref t) H')
def jnO:Sp:=fun vs H Q _=>spLPli vs H Q
theorem jpN (T:Tx K mg t1 t2) (F:At K mg "_law_plane" jaJ ["corners"] []) (dF:jao P w K mg base CX0 1 "_law_upright" ["one","other"] [] (jnE K)) (dE:jao P w K mg base CX0 1 "_law_divisor" ["one","other"] [] jpI):jao P w K mg base CX0 2 "_law_plane" ["corners"] [] jnO:=by
  refine F.ok jdh (by walk_at "ar") (fun f cdv A outer s H vs Q E hr h=>?_);obtain⟨l,rs,ps,rfl,hl,hs,n3,hc,na,q⟩:=h;have S:=jdh;refine⟨_,(jaN (pl0 H l ps) (jbQ (jaY joL (pv 0) jbl (ja5 jab)) (pg_or (joI rfl (jay (jan (i:=1) S.nd rfl (Or.inr rfl)) (jay (jan (i:=2) S.nd rfl (Or.inr rfl)) (jay (jan (i:=3) S.nd rfl (Or.inr rfl)) jbj)))) (jck rfl (jay (jan (i:=1) S.nd rfl (Or.inr rfl)) (jay (jan (i:=2) S.nd rfl (Or.inr rfl)) (jay (jan (i:=3) S.nd rfl (Or.inr rfl)) jbj))))))
    (jaf (jbI (i:=4) rfl S.nd rfl rfl (N':=["k","b","a"]) (ix:=[2,1]) ⟨rfl,rfl,by decide +kernel,by decide +kernel,by decide +kernel,(show ∀y:Str × NameKind,y∈_->y.2=NameKind.free->(jah jaJ).names.lookup y.1=some .cell\/(jah jaJ).names.lookup y.1=some .free from by decide +kernel),(.cons rfl (.inl rfl) rfl (.cons rfl (.inl rfl) rfl .nil))⟩ (jaV rfl T.m_range (jaa jab jad jaj)) (fun _ _ _ _=>jan (i:=0) (show (["k","b","a"]:List Str).Nodup from by decide +kernel) rfl (Or.inl rfl)) (fun _ _ _ _=>jbd) (fun _ _ _ _=>(jau ja6 (jau jaA (jak (ja0 (K:=K) rfl) (pv 1) (pv 0)) (jak (ja0 (K:=K) rfl) (pv 2) jab)) (jau jaA (jak (ja0 (K:=K) rfl) (pv 2) (pv 0)) (jak (ja0 (K:=K) rfl) (pv 1) jab)))))
    (jaN (pl2 K H l ps) (jbI (i:=5) rfl S.nd rfl rfl (N':=["k","c","a"]) (ix:=[3,1]) ⟨rfl,rfl,by decide +kernel,by decide +kernel,by decide +kernel,(show ∀y:Str × NameKind,y∈_->y.2=NameKind.free->(jah jaJ).names.lookup y.1=some .cell\/(jah jaJ).names.lookup y.1=some .free from by decide +kernel),(.cons rfl (.inl rfl) rfl (.cons rfl (.inl rfl) rfl .nil))⟩ (jaV rfl T.m_range (jaa jab jad jaj)) (fun _ _ _ _=>jan (i:=0) (show (["k","c","a"]:List Str).Nodup from by decide +kernel) rfl (Or.inl rfl)) (fun _ _ _ _=>jbd) (fun _ _ _ _=>(jau ja6 (jau jaA (jak (ja0 (K:=K) rfl) (pv 1) (pv 0)) (jak (ja0 (K:=K) rfl) (pv 2) jab)) (jau jaA (jak (ja0 (K:=K) rfl) (pv 2) (pv 0)) (jak (ja0 (K:=K) rfl) (pv 1) jab)))))
    (jaN (pl3 H l ps) (jat (i:=6) S.nd rfl (Or.inr rfl) (jag dF hr.m rfl jav (jaa (pv 4) (jaa (pv 5) jad jae) jae)))
    (jaN (pl4c H l ps) (jat (i:=7) S.nd rfl (Or.inl rfl) (jaM (jaa (jau jaA (jak jam (pv 6) jab) (jak jam (pv 1) jab)) (jaa (jau jaA (jak jam (pv 6) jab) (jak jam (pv 1) jab)) (jaa (jau jaA (jak jam (pv 6) jab) (jak jam (pv 1) jab)) jad ja7) ja7) ja7)))
    (jaN (pl5 H l ps) (jbc (jcq PySem.F.plainAttrs_list PySem.F.slot_list_append PySem.F.type_list_append jaR (pv 7) (jaa (jaG (jkA rfl) rfl T.m_sum boot_sum (jaa (jbb rfl (N':=["k","upright","a"]) (ix:=[6,1]) ⟨rfl,rfl,by decide +kernel,by decide +kernel,by decide +kernel,(show ∀y:Str × NameKind,y∈_->y.2=NameKind.free->(jah jaJ).names.lookup y.1=some .cell\/(jah jaJ).names.lookup y.1=some .free from by decide +kernel),(.cons rfl (.inl rfl) rfl (.cons rfl (.inl rfl) rfl .nil))⟩ (jaV rfl T.m_range (jaa jab jad jaj)) (fun _ _ _ _=>jan (i:=0) (show (["k","upright","a"]:List Str).Nodup from by decide +kernel) rfl (Or.inl rfl)) (fun _ _ _ _=>jbd) (fun _ _ _ _=>(jau jaA (jak (ja0 (K:=K) rfl) (pv 1) (pv 0)) (jak (ja0 (K:=K) rfl) (pv 2) (pv 0))))) jad jcS)) jad jaF)))
    (jaN (pl6 H l ps) (jat (i:=8) S.nd rfl (Or.inr rfl) (jag dE hr.m rfl jav (jaa (jag dE hr.m rfl jav (jaa (jak ix_list (pv 7) jab) (jaa (jak ix_list (pv 7) jab) jad jap) jap)) (jaa (jag dE hr.m rfl jav (jaa (jak ix_list (pv 7) jab) (jaa (jak ix_list (pv 7) jab) jad jap) jap)) jad jaF) jaF)))
    (jaN (pl7 H l ps) (jaL (jaq jgl (jak ix_list (jbb rfl (N':=["number"]) (ix:=[]) ⟨rfl,rfl,by decide +kernel,by decide +kernel,by decide +kernel,(show ∀y:Str × NameKind,y∈_->y.2=NameKind.free->(jah jaJ).names.lookup y.1=some .cell\/(jah jaJ).names.lookup y.1=some .free from by decide +kernel),.nil⟩ (jbk (jaY sl_list (pv 7) jbl (ja5 jab))) (fun _ _ _ _=>jan (i:=0) (show (["number"]:List Str).Nodup from by decide +kernel) rfl (Or.inl rfl)) (fun _ _ _ _=>(jea (jaq jeY (pv 0) jab (jax _)))) (fun _ _ _ _=>(pv 0))) jab) jab (jax _))
    (jai (jat (i:=8) S.nd rfl (Or.inr rfl) (jau ja6 jab (pv 8))))
    jaw)
    (jai (jas (jaU jcc rfl T.m_tuple boot_tuple (jaa (jbb rfl (N':=["number","by"]) (ix:=[8]) ⟨rfl,rfl,by decide +kernel,by decide +kernel,by decide +kernel,(show ∀y:Str × NameKind,y∈_->y.2=NameKind.free->(jah jaJ).names.lookup y.1=some .cell\/(jah jaJ).names.lookup y.1=some .free from by decide +kernel),(.cons rfl (.inl rfl) rfl .nil)⟩ (jbk (pv 7)) (fun _ _ _ _=>jan (i:=0) (show (["number","by"]:List Str).Nodup from by decide +kernel) rfl (Or.inl rfl)) (fun _ _ _ _=>jbd) (fun _ _ _ _=>(jau jkC (pv 0) (pv 1)))) jad jcS)))))))))))),?_⟩
  have cA:=hc _ (jba (i:=0) (by omega));have cB:=hc _ (jba (i:=1) (by omega));have cC:=hc _ (jba (i:=2) (by omega));have lrs:=hs.len;walk_at "rf";refine⟨?_,?_⟩
  . obtain⟨ra,rb,rc,er,h1,h2,h3⟩:=jjK hs n3
    have ec:jb5 (rs.map V.ref) none (some 3)=[.ref ra,.ref rb,.ref rc]:=by
      have z:jb5 (rs.map V.ref) none (some 3)=(rs.map V.ref).take 3:=jdY (f:=3);rw[z,er]
    have fin:∀{J:Hp},Same H J->pl0 H l ps [some (.ref l),some (.ref ra),some (.ref rb),some (.ref rc),none,none,none,none,none] J:=fun j=>⟨ra,rb,rc,rfl,⟨h1.keep j,h2.keep j,h3.keep j⟩,j⟩;rcases hl with hl | hl
    . refine .inl (.inl ⟨l,_,rfl,SqL.of hl,fun p hp=>?_⟩)
      rw[ec];exact .inl ⟨p,_,rfl,SqL.of jac,rfl,_,_,rfl,_,_,rfl,_,_,rfl,rfl,fin (Same.new hp _)⟩
    . by_cases k3:3 < ps.length
      . refine .inl (.inr ⟨l,_,rfl,SqT.of hl,?_,fun p hp=>?_⟩)
        . have z:HT.sIx (rs.map V.ref).length (rs.map V.ref).length (some 3)=min 3 (rs.map V.ref).length:=HT.sIx_nat _ _ 3
          rw[z,xaa];omega
        . rw[ec]
          exact .inr ⟨p,_,rfl,SqT.of jac,rfl,_,_,rfl,_,_,rfl,_,_,rfl,rfl,fin (Same.new hp _)⟩
      . have z:HT.sIx (rs.map V.ref).length (rs.map V.ref).length (some 3)=min 3 (rs.map V.ref).length:=HT.sIx_nat _ _ 3
        have e3:rs.map V.ref=[.ref ra,.ref rb,.ref rc]:=by rw[<- er,xaX (by rw[xaa];omega)]
        refine .inr ⟨l,_,rfl,SqT.of hl,⟨rfl,?_⟩,?_⟩
        . rw[z,xaa]
          omega
        . rw[e3] at hl
          exact .inr ⟨l,_,rfl,SqT.of hl,rfl,_,_,rfl,_,_,rfl,_,_,rfl,rfl,fin (Same.refl _)⟩
  rintro σ0 H0 ⟨ra,rb,rc,rfl,hA,s0⟩;walk_at "rf";refine⟨by decide,by decide,fun g1 hg1=>jhN (n:=3) (fun k=>.int (cmp (dfr (pt ps 1) (pt ps 0)) k)) (by decide) hg1 (fun k H3 R hk s3 hR=>?_) fun H1 s1 e1=>⟨by decide,by decide,fun g2 hg2=>jhN (n:=3) (fun k=>.int (cmp (dfr (pt ps 2) (pt ps 0)) k)) (by decide) hg2 (fun k H3 R hk s3 hR=>?_) fun H2 s2 e2=>?_,?_⟩⟩
  . walk_at "rf"
    exact jhz (hA.2.1.keep s3) (hA.1.keep s3) cB cA hk (hR _ (Same.refl _))
  . walk_at "rf"
    exact jhz (hA.2.2.keep (s1.trans s3)) (hA.1.keep (s1.trans s3)) cC cA hk (hR _ (Same.refl _))
  . exact⟨ra,rb,rc,g1,g2,rfl,hA.keep (s1.trans s2),.inl (SqL.of (s2 _ _ e1)),.inl (SqL.of e2),s0.trans (s1.trans s2)⟩
  rintro σ2 H2 ⟨ra,rb,rc,g1,g2,rfl,hA,l1,l2,s2⟩;walk_at "rf";refine⟨⟨g1,g2,_,_,rfl,l1,l2,jfo (jhy cA cB),jfo (jhy cA cC),fun g3 H3 n3' s3 e3=>⟨ra,rb,rc,g3,_,_,rfl,hA.keep s3,e3,s2.trans s3⟩⟩,?_⟩;have bn:(nup ps).bd 1011:=jpK (jhy cA cB) (jhy cA cC);have fx:Fit (nup ps).x:=bn.1.fit;have fy:Fit (nup ps).y:=bn.2.1.fit;have fz:Fit (nup ps).z:=bn.2.2.fit;have fw:Fit (pt ps 0).w:=cA.1.2.2.2.fit;rintro σ3 H3 ⟨ra,rb,rc,g3,o4,o5,rfl,hA,e3,s3⟩;walk_at "rf";refine⟨?_,?_⟩
  . have kn:=SqT.of (K:=K) e3
    have ka:=hA.1.sq (K:=K);refine ixT kn (i:=0) rfl (ixT ka (i:=3) rfl ⟨_,rfl,_,rfl,fx,fw,ixT kn (i:=1) rfl (ixT ka (i:=3) rfl ⟨_,rfl,_,rfl,fy,fw,ixT kn (i:=2) rfl (ixT ka (i:=3) rfl ⟨_,rfl,_,rfl,fz,fw,by decide,fun p hp=>?_⟩)⟩)⟩);have j:=Same.new hp (.lst [.int ((nup ps).x*(pt ps 0).w),.int ((nup ps).y*(pt ps 0).w),.int ((nup ps).z*(pt ps 0).w)]);exact⟨ra,rb,rc,g3,p,o4,o5,rfl,hA.keep j,j _ _ e3,s3.noneN hp,jac,s3.trans j⟩
  rintro σ4 H4 ⟨ra,rb,rc,g3,fl,o4,o5,rfl,hA,e3,nf,ef,s4⟩;walk_at "rf";refine⟨.inl ⟨_,SqL.of ef⟩,by decide,by decide,fun acc hacc=>jhN (n:=3) (fun k=>.int (cmp (nup ps) k*cmp ⟨(pt ps 0).x,(pt ps 0).y,(pt ps 0).z⟩ k)) (by decide) hacc (fun k H5 R hk s5 hR=>?_) fun H5 s5 e5=>?_,?_⟩
  . have fn:Fit (cmp (nup ps) k):=(jhx bn k).fit
    have fa:Fit (cmp ⟨(pt ps 0).x,(pt ps 0).y,(pt ps 0).z⟩ k):=(jhx (v:=⟨(pt ps 0).x,(pt ps 0).y,(pt ps 0).z⟩) ⟨cA.1.1,cA.1.2.1,cA.1.2.2.1⟩ k).fit;walk_at "rf";exact ixT (SqT.of (s5 _ _ e3)) (cmp3 (nup ps) hk) (ixT (hA.1.keep s5).sq (jpD ⟨(pt ps 0).x,(pt ps 0).y,(pt ps 0).z⟩ (pt ps 0).w hk) ⟨_,rfl,_,rfl,fn,fa,hR _ (Same.refl _)⟩)
  . refine⟨[_,_,_],SqL.of e5,fl,_,_,rfl,rfl,s5 _ _ ef,jaD (show 3 < 1000 by decide),?_⟩
    refine⟨fl,_,_,_,_,_,_,rfl,jac,Same.keepN (s4.trans s5) nf _⟩
  rintro σ5 H5 ⟨fl,o1,o2,o3,o4,o5,o6,rfl,ef,s5⟩;walk_at "rf";have kf:=SqL.of (K:=K) ef;refine⟨ixL kf (i:=0) rfl (ixL kf (i:=1) rfl ⟨_,_,rfl,ixL kf (i:=2) rfl (ixL kf (i:=3) rfl ⟨_,_,rfl,_,_,rfl,?_⟩)⟩),?_⟩
  . refine⟨fl,o1,o2,o3,o4,o5,o6,?_,ef,s5⟩
    rw[gcd4];rfl
  rintro σ6 H6 ⟨fl,o1,o2,o3,o4,o5,o6,rfl,ef,s6⟩;walk_at "rf";obtain⟨k0,hk0,nk0⟩:∃k,k<3/\(fo4 ps).getD k 0≠0:=by
    obtain⟨m0,m1,m2⟩:=jmi (pt ps 0) (pt ps 1) (pt ps 2);have aw:=cA.2;have nw:(pt ps 0).w≠0:=by omega
    refine xal fun z=>na ?_;have z0:(nup ps).x*(pt ps 0).w=0:=xal fun h=>z ⟨0,by decide,h⟩;have z1:(nup ps).y*(pt ps 0).w=0:=xal fun h=>z ⟨1,by decide,h⟩;have z2:(nup ps).z*(pt ps 0).w=0:=xal fun h=>z ⟨2,by decide,h⟩;have y0:=(xax.mp z0).resolve_right nw;have y1:=(xax.mp z1).resolve_right nw;have y2:=(xax.mp z2).resolve_right nw;change (upr _ _).x=0 at y0;change (upr _ _).y=0 at y1;change (upr _ _).z=0 at y2;rw[m0] at y0;rw[m1] at y1;rw[m2] at y2;exact⟨(xax.mp y0).resolve_left nw,(xax.mp (show (pt ps 0).w*jaC 1 (pt ps 0) (pt ps 1) (pt ps 2)=0 by omega)).resolve_left nw,(xax.mp y2).resolve_left nw⟩
  have kf6:=SqL.of (K:=K) ef;refine⟨?_,?_⟩
  . refine⟨fl,_,rfl,kf6,fun p hp=>?_⟩
    have ec:jb5 ((fo4 ps).map V.int) none (some 3)=((fo4 ps).take 3).map V.int:=(jdY (f:=3)).trans rfl;rw[ec];have j:=Same.new hp (.lst (((fo4 ps).take 3).map V.int));have ep:upd H6 p (.lst (((fo4 ps).take 3).map V.int)) p=some (.lst (((fo4 ps).take 3).map V.int)):=jac;have ef':=j _ _ ef;have s7:=s6.trans j;generalize upd H6 p (.lst (((fo4 ps).take 3).map V.int))=H7 at ep ef' s7 |-
    refine⟨p,rfl,⟨_,SqL.of ep⟩,fun acc hacc=>jmS (zs:=((fo4 ps).take 3).map V.int) (fun k=>.int ((fo4 ps).getD k 0)) (fun k=>!decide ((fo4 ps).getD k 0=0)) (by show 3<1000;decide) hacc (SqL.of ep) (fun k z H8 R hz s8 hR=>?_) (fun k z H8 R hz hc' s8 hR=>?_) fun H8 s8 e8=>?_⟩
    . obtain⟨rfl,_⟩:=jpL hz
      walk_at "rf";exact hR _ (Same.refl _)
    . obtain⟨rfl,_⟩:=jpL hz
      walk_at "rf";exact hR _ (Same.refl _)
    . have mem:k0∈(List.range (((fo4 ps).take 3).map V.int).length).filter fun k=>!decide ((fo4 ps).getD k 0=0):=xa2.mpr ⟨xaF.mpr hk0,by rw[decide_eq_false nk0]; rfl⟩
      have ff':∀j js,(List.range (((fo4 ps).take 3).map V.int).length).filter (fun k=>!decide ((fo4 ps).getD k 0=0))=j::js->j<3/\(!decide ((fo4 ps).getD j 0=0))=true/\∀i,i<j->(!decide ((fo4 ps).getD i 0=0))=false:=fun j js h=>fil3 (p:=fun k=>!decide ((fo4 ps).getD k 0=0)) h;generalize (List.range (((fo4 ps).take 3).map V.int).length).filter (fun k=>!decide ((fo4 ps).getD k 0=0))=js at mem e8 ff';cases js with
      | nil=>cases mem
      | cons j0 js =>
        have ff:=ff' j0 js rfl;have F1:Fst ps j0:=⟨ff.1,(fun i hi=>by simpa using ff.2.2 i hi),by simpa using ff.2.1⟩;refine ixL (SqL.of e8) (i:=0) (v:=.int ((fo4 ps).getD j0 0)) (jaK (j:=0) rfl) ⟨_,rfl,jbP (fun c=>?_) fun c=>?_⟩
        . exact⟨fl,_,o1,o2,o3,o4,o5,o6,rfl,⟨j0,F1,.inr ⟨c,by omega⟩⟩,s8 _ _ ef',s7.trans s8⟩
        . exact⟨fl,_,o1,o2,o3,o4,o5,o6,rfl,⟨j0,F1,.inl ⟨by omega,rfl⟩⟩,s8 _ _ ef',s7.trans s8⟩
  rintro σ7 H7 ⟨fl,g,o1,o2,o3,o4,o5,o6,rfl,⟨j1,F1,sg⟩,ef,s7⟩;have eg:g=gl (fo4 ps)\/g=-gl (fo4 ps):=sg.elim (fun h=>.inl h.2) fun h=>.inr h.2;walk_at "rf";obtain⟨bf0,bf1,bf2,bf3⟩:=fo_bd cA bn;have hG:∀i∈fo4 ps,g ∣ i:=fun i hi=>by
    rcases eg with rfl | rfl
    . exact jaX hi
    . exact Int.neg_dvd.mpr (jaX hi)
  have mk:(fo4 ps).getD k0 0∈fo4 ps:=by
    match k0,hk0 with
    | 0,_=>exact .head _
    | 1,_=>exact .tail _ (.head _)
    | 2,_=>exact .tail _ (.tail _ (.head _))
  have bk:Bd 1266 ((fo4 ps).getD k0 0):=by
    match k0,hk0 with
    | 0,_=>exact bf0
    | 1,_=>exact bf1
    | 2,_=>exact bf2
  have g0:g≠0:=fun e=>nk0 (by have:=hG _ mk;rw[e] at this;exact Int.zero_dvd.mp this);have fg:Fit g:=Bd.fit (n:=1266) (xbl (Nat.le_of_dvd (Int.natAbs_pos.mpr nk0) (xcj.mpr (hG _ mk))) bk);have qd:∀{n:Nat} {i:Int},i∈fo4 ps->Bd n i->Bd n (i.fdiv g):=fun {n i} hi hb=>by
    rw[xcb (hG i hi)];exact Bd.div hb
  refine⟨⟨_,SqL.of ef⟩,fun acc hacc=>compL (fun v=>match v with | .int i=>.int (i.fdiv g) | v=>v) (by show 4<1000;decide) hacc (SqL.of ef) (fun z H8 R hz s8 hR=>?_) fun H8 s8 e8=>?_⟩
  . obtain⟨i,hi,rfl⟩:=xao.mp hz
    walk_at "rf";exact⟨g0,fg,hR _ (Same.refl _)⟩
  . refine⟨_,SqL.of e8,fun t ht=>?_⟩
    have j:=Same.new ht (.tup (((fo4 ps).map V.int).map fun v=>match v with | .int i=>.int (i.fdiv g) | v=>v));have mu:∀{i:Int},i∈fo4 ps->g*i.fdiv g=i:=fun {i} hi=>by
      rw[xcb (hG i hi)];exact xbd (hG i hi)
    exact q t _ _ _ _ _ (s7.trans (s8.trans j)) jac ⟨g,g0,mu (.head _),mu (.tail _ (.head _)),mu (.tail _ (.tail _ (.head _))),mu (.tail _ (.tail _ (.tail _ (.head _))))⟩ (jjM cA na F1 sg)
theorem jpO (h:Cn p):Cg p:=⟨⟨Bd.mono h.1.1,Bd.mono h.1.2.1,Bd.mono h.1.2.2,Bd.mono h.2.1⟩,h.2.2⟩
theorem Sta.lst {b:Addr} {xs:List Addr} (h:Sta H L) (e:H b=some (.lst (xs.map V.ref))):b≠L:=fun z=>by
 obtain⟨_,_,h1,_⟩:=h;rw[z,h1] at e;cases xs with
 | nil=>cases e
 | cons _ _=>cases e
theorem jnP {g:Nat} (hf:f<=xs.length) (hg:g<=xs.length):jb5 xs (some (f:Int)) (some (g:Int))=(xs.drop f).take (g-f):=by
 unfold jb5;rw[HT.sIx_nat,HT.sIx_nat,xbf hf,xbf hg]
theorem jmj {cs:List Int} {m:Nat} (ex:x=((f+m:Nat):Int)) (h:f+m<=cs.length):jb5 (cs.map V.int) (some (f:Int)) (some x)=((cs.drop f).take m).map V.int:=by
 rw[ex,jnP (by rw[xaa];omega) (by rw[xaa];exact h),xbt,xbs,show f+m-f=m by omega]
theorem SomeAt.kb {m:Nat} {xs:List (Int × List Pt)} (h:SomeAt m H S xs) (SL:S≠L) (b:Sta H L) (s:SameB L H H'):SomeAt m H' S xs:=by
 obtain⟨rs,h1,h2,h3⟩:=h;exact⟨rs,s _ _ SL h1,h2.mono fun _ _ h=>h.keep (b.t s),h3⟩
def plP (ps:List Pt):Pt:=match pln (rgh (pt ps 0) (pt ps 1) (pt ps 2)) with
 | [a,b,c,d]=>⟨a,b,c,d⟩
 | _=>⟨0,0,0,0⟩
theorem jmk {b:Int} (h:pln (rgh (pt ps 0) (pt ps 1) (pt ps 2))=[a,b,c,d]):plP ps=⟨a,b,c,d⟩:=by
 unfold plP;rw[h]
abbrev Dsc:=Int × Sht × List Tri
def dPc (x:Dsc):Int × List Pt:=(x.1,rgs x.2.1 x.2.2)
structure DOk (x:Dsc):Prop where
 z:SZ x.2.1
 f:VF x.2.2
 l6:x.2.2.length<=6
 c:∀p∈rgs x.2.1 x.2.2,Cn p
theorem jjN:∀xs:List (Int × List Pt),(∀x∈xs,OB x.2)->∃ds:List Dsc,xs=ds.map dPc/\∀d∈ds,DOk d
  | [],_=>⟨[],rfl,fun _ z=>nomatch z⟩
  | (k, ps) :: xs, h => by
    obtain⟨ds,e,hd⟩:=jjN xs fun x hx=>h x (.tail _ hx);obtain⟨⟨Z,ws,h1,h2,h3,h4⟩,h5⟩:=h _ (.head _);change ps=rgs Z ws at h4;subst h4;refine⟨(k,Z,ws)::ds,by rw[xaH,<- e];rfl,fun d hx=>?_⟩;rcases xaG.mp hx with rfl | hx
    . exact⟨h1,h2,h3,h5⟩
    . exact hd d hx
theorem DOk.rr (x:Dsc):RR (x.2.2.map (spt x.2.1)) (rgs x.2.1 x.2.2):=jes _ _
theorem DOk.n3 {x:Dsc} (h:DOk x):3<=(rgs x.2.1 x.2.2).length:=by
 have:=(DOk.rr x).len;rw[xaa] at this;have:=h.f.rg.n3;omega
theorem DOk.pl {x:Dsc} (h:DOk x):pln (rgh (pt (rgs x.2.1 x.2.2) 0) (pt (rgs x.2.1 x.2.2) 1) (pt (rgs x.2.1 x.2.2) 2))=[(plP (rgs x.2.1 x.2.2)).x,(plP (rgs x.2.1 x.2.2)).y,(plP (rgs x.2.1 x.2.2)).z,(plP (rgs x.2.1 x.2.2)).w]/\PlG (plP (rgs x.2.1 x.2.2)):=by
 have n3:=h.n3;obtain⟨pl,ep,gp⟩:=jgH (h.c _ (jba (i:=0) (by omega))) (h.c _ (jba (i:=1) (by omega))) (h.c _ (jba (i:=2) (by omega)));rw[jmk ep];exact⟨ep,gp⟩
theorem DOk.na {x:Dsc} (h:DOk x):¬jbB (pt (rgs x.2.1 x.2.2) 0) (pt (rgs x.2.1 x.2.2) 1) (pt (rgs x.2.1 x.2.2) 2):=jgE h.z.hw h.z.nz h.f.rg (by have:=h.l6;omega) (DOk.rr x)
noncomputable def grT (T:Tr) (x:Dsc):Tr:=grw x.2.1 x.1 (plP (rgs x.2.1 x.2.2)) T x.2.2
inductive spGBxi (vs:List V) (H:Hp) (Q:VK):Prop
 | mk (v:V) (r:Addr) (T:Tr) (c:Nat) (x:Dsc) (_:vs=[v,.ref r]) (_:TrAt H v T) (_:T.ht<9) (_:T.Good c) (_:c<900) (_:PcAt H r (dPc x)) (_:DOk x) (_:∀(t:Addr) (H':Hp),Same H H'->TrAt H' (.ref t) (grT T x)->Q (.ref t) H')
def jpP:Sp:=fun vs H Q _=>spGBxi vs H Q
theorem jpQ (T:Tx K mg t1 t2) (F:At K mg "grown_by" jdA ["tree","piece"] []) (Di:jao P w K mg base CX0 6 "plane_of" ["board"] [] jf3) (dA:jao P w K mg base CX0 16 "grown_with" ["tree","number","board","own"] [] (jnK 9)):jao P w K mg base CX0 17 "grown_by" ["tree","piece"] [] jpP:=by
 refine F.ok jeo (by walk_at "ar") (fun f cdv Ar outer s H vs Q E hr h=>?_);obtain⟨v,r,Tt,c,x,rfl,hT,h9,hG,c9,⟨b,e1,rs,e2,e3⟩,hx,q⟩:=h;have S:=jeo;refine⟨_,(jai (jas (jag dA hr.m rfl jav (jaa (pv 0) (jaa (jak jam (pv 1) jab) (jaa (jak jam (pv 1) jab) (jaa (jag Di hr.m rfl jav (jaa (jak jam (pv 1) jab) jad jap)) jad jaF) jap) jap) jae)))),?_⟩;have k1:SqT K H r [.int x.1,.ref b]:=SqT.of e1;have n3:=hx.n3;have l6:=hx.l6;obtain⟨ep,gp⟩:=hx.pl;walk_at "rf";refine ixT k1 (i:=0) rfl (ixT k1 (i:=1) rfl (ixT k1 (i:=1) rfl ⟨b,rs,rgs x.2.1 x.2.2,rfl,e2,e3,n3,hx.na,fun g H1 s1 eg=>?_⟩));rw[ep] at eg;exact⟨v,x.1,b,g,Tt,_,x.2.1,x.2.2,c,rfl,hT.keep s1.t,h9,hG,c9,⟨eg,gp.sm⟩,gp,hx.z,hx.f,by omega,⟨rs,s1 _ _ e2,e3.keep s1.t⟩,fun t H' s' t'=>q t H' (s1.trans s') t'⟩
theorem jjO (hk:k<=vs.length) (hi:i<vs.length):tr (vs.drop k++vs.take k) i=if k+i<vs.length then tr vs (k+i) else tr vs (k+i-vs.length):=by
 unfold tr;rw[xab];have ld:(vs.drop k).length=vs.length-k:=xam;by_cases c:k+i<vs.length
 ·rw[if_pos c,xaD (by omega),xbI,xab]
 ·rw[if_neg c,xau (by omega),ld,xbX,if_pos (by omega),xab,show i-(vs.length-k)=k+i-vs.length by omega]
theorem jnQ (R:Rng vs) (hk:k<=vs.length):Rng (vs.drop k++vs.take k):=by
 have ln:(vs.drop k++vs.take k).length=vs.length:=by rw[xad,xam,xah];omega
 refine⟨by rw[ln];exact R.n3,fun i j l ij jl ll=>?_,fun v hv=>?_⟩
 ·rw[ln] at ll;rw[jjO hk (by omega),jjO hk (by omega),jjO hk ll];by_cases c1:k+i<vs.length
  ·rw[if_pos c1];by_cases c2:k+j<vs.length
   ·rw[if_pos c2];by_cases c3:k+l<vs.length
    ·rw[if_pos c3];exact R.tp _ _ _ (by omega) (by omega) c3
    ·rw[if_neg c3,<- jcJ];exact R.tp _ _ _ (by omega) (by omega) c2
   ·rw[if_neg c2,if_neg (by omega),jcJ];exact R.tp _ _ _ (by omega) (by omega) c1
  ·rw[if_neg c1,if_neg (by omega),if_neg (by omega)];exact R.tp _ _ _ (by omega) (by omega) (by omega)
 ·rcases xas.mp hv with h | h
  ·exact R.hz v (xbB h)
  ·exact R.hz v (xbc h)
def sw3 (v:Tri):Tri:=⟨v.y,v.x,v.z⟩
def Sht.sw (Z:Sht):Sht:=⟨Z.s,Z.w,Z.d,Z.c⟩
theorem jpR (Z:Sht) (v:Tri):spt Z.sw (sw3 v)=spt Z v:=by
 have e1:rX Z.sw (sw3 v)=rX Z v:=by
  show Z.s.x*v.z+Z.w*(v.y*Z.d.x+v.x*Z.c.x)=Z.s.x*v.z+Z.w*(v.x*Z.c.x+v.y*Z.d.x);rw[Int.add_comm (v.y*Z.d.x)]
 have e2:rY Z.sw (sw3 v)=rY Z v:=by
  show Z.s.y*v.z+Z.w*(v.y*Z.d.y+v.x*Z.c.y)=Z.s.y*v.z+Z.w*(v.x*Z.c.y+v.y*Z.d.y);rw[Int.add_comm (v.y*Z.d.y)]
 have e3:rZ Z.sw (sw3 v)=rZ Z v:=by
  show Z.s.z*v.z+Z.w*(v.y*Z.d.z+v.x*Z.c.z)=Z.s.z*v.z+Z.w*(v.x*Z.c.z+v.y*Z.d.z);rw[Int.add_comm (v.y*Z.d.z)]
 have e4:rW Z.sw (sw3 v)=rW Z v:=rfl;have e5:rG Z.sw (sw3 v)=rG Z v:=by unfold rG;rw[e1,e2,e3,e4]
 unfold spt;rw[e1,e2,e3,e4,e5]
theorem sw_nz (h:Z.u.nz):Z.sw.u.nz:=fun z=>h (by
 obtain⟨z1,z2,z3⟩:=z;have e1:Z.sw.u.x=-Z.u.x:=by show Z.d.y*Z.c.z-Z.d.z*Z.c.y=-(Z.c.y*Z.d.z-Z.c.z*Z.d.y);grind
 have e2:Z.sw.u.y=-Z.u.y:=by show Z.d.z*Z.c.x-Z.d.x*Z.c.z=-(Z.c.z*Z.d.x-Z.c.x*Z.d.z);grind
 have e3:Z.sw.u.z=-Z.u.z:=by show Z.d.x*Z.c.y-Z.d.y*Z.c.x=-(Z.c.x*Z.d.y-Z.c.y*Z.d.x);grind
 omega)
theorem dt_sw (a b c:Tri):dt (sw3 c) (sw3 b) (sw3 a)=dt a b c:=by
 unfold dt jbE sw3;grind
theorem jjP (h:i<vs.length):tr vs.reverse i=tr vs (vs.length-1-i):=by
 unfold tr;rw[xab,xab,xbZ h]
theorem jnR (R:Rng vs):Rng (vs.reverse.map sw3):=by
 have ln:(vs.reverse.map sw3).length=vs.length:=by rw[xaa,xaN]
 refine⟨by rw[ln];exact R.n3,fun i j l ij jl ll=>?_,fun v hv=>?_⟩
 ·rw[ln] at ll;rw[jeV (by rw[xaN];omega),jeV (by rw[xaN];omega),jeV (by rw[xaN];omega),jjP (by omega),jjP (by omega),jjP ll,dt_sw];exact R.tp _ _ _ (by omega) (by omega) (by omega)
 ·obtain⟨u,hu,rfl⟩:=xao.mp hv;exact R.hz u (List.mem_reverse.mp hu)
theorem jnS {m:List Pt} (hw:1<=Z.w) (nz:Z.u.nz) (R:Rng vs) (h:RR (vs.map (spt Z)) m):∃(Z':Sht) (us:List Tri),1<=Z'.w/\Z'.u.nz/\Rng us/\us.length=vs.length/\m=us.map (spt Z'):=by
  generalize el:vs.map (spt Z)=l at h;induction h with
  | refl=>exact⟨Z,vs,hw,nz,R,rfl,el.symm⟩
  | @rot m k h ih =>
    obtain⟨Z',us,h1,h2,h3,h4,rfl⟩:=ih;by_cases c:k<=us.length
    . exact⟨Z',us.drop k++us.take k,h1,h2,jnQ h3 c,by rw[xad,xam,xah];omega,by rw[xaf,xbs,xbt]⟩
    . refine⟨Z',us,h1,h2,h3,h4,?_⟩
      rw[List.drop_eq_nil_of_le (by rw[xaa];omega),xaX (by rw[xaa];omega),xca]
  | rev h ih =>
    obtain⟨Z',us,h1,h2,h3,h4,rfl⟩:=ih;refine⟨Z'.sw,us.reverse.map sw3,h1,sw_nz h2,jnR h3,by rw[xaa,xaN];exact h4,?_⟩;rw[xbp,<- xck];exact xbT fun v _=>(jpR Z' v).symm
theorem jpS {m:List Pt} (hw:1<=Z.w) (nz:Z.u.nz) (R:Rng vs) (n8:vs.length<=8) (h:RR (vs.map (spt Z)) m):Brd m:=by
 obtain⟨Z',us,h1,h2,h3,h4,rfl⟩:=jnS hw nz R h;exact jht h1 h2 h3 (by omega)
def Pt.lo (p:Pt):Prop:=Bd 60 p.x/\Bd 60 p.y/\Bd 60 p.z/\Bd 60 p.w/\1<=p.w
def T3 (H:Hp) (r:Addr) (v:Tri):Prop:=H r=some (.tup [.int v.x,.int v.y,.int v.z])/\v.bd 18
theorem T3.keep (h:T3 H r v) (s:SameT H H'):T3 H' r v:=⟨s _ _ h.1,h.2⟩
theorem T3.t (h:T3 H r v):Tup3 H r v.x v.y v.z:=⟨h.1,Bd.mono h.2.1,Bd.mono h.2.2.1,Bd.mono h.2.2.2⟩
def T2 (n:Nat) (H:Hp) (r:Addr) (t b:Int):Prop:=H r=some (.tup [.int t,.int b])/\Bd n t/\Bd n b/\1<=b
theorem T2.keep {t b:Int} (h:T2 n H r t b) (s:Same H H'):T2 n H' r t b:=⟨s _ _ h.1,h.2⟩
theorem VF.lo (F:VF vs):∀v∈vs,v.bd 221/\1<=v.z:=fun v hv=>⟨F.bi.vb v hv,F.rg.hz v hv⟩
theorem jjQ {b:Int} (h:¬(a=0/\b=0/\c=0)):∃x y z w g:Int,pln [a,b,c,d]=[x,y,z,w]/\g≠0/\g*x=a/\g*y=b/\g*z=c/\g*w=d:=by
 have gp:=gl4 (d:=d) h;have mu:∀{i:Int},i∈[a,b,c,d]->gl [a,b,c,d]*(i / gl [a,b,c,d])=i:=fun hi=>xbd (jaX hi);have ma:=mu (i:=a) (by simp);have mb:=mu (i:=b) (by simp);have mc:=mu (i:=c) (by simp);have md:=mu (i:=d) (by simp);have e:pln [a,b,c,d]=if plb (a / gl [a,b,c,d]) (b / gl [a,b,c,d]) (c / gl [a,b,c,d])=true then [a / gl [a,b,c,d],b / gl [a,b,c,d],c / gl [a,b,c,d],d / gl [a,b,c,d]] else [-(a / gl [a,b,c,d]),-(b / gl [a,b,c,d]),-(c / gl [a,b,c,d]),-(d / gl [a,b,c,d])]:=rfl;rw[e];generalize gl [a,b,c,d]=g at *
 by_cases k:plb (a / g) (b / g) (c / g)=true
 ·rw[if_pos k];exact⟨_,_,_,_,g,rfl,by omega,ma,mb,mc,md⟩
 ·rw[if_neg k];exact⟨_,_,_,_,-g,rfl,by omega,by rw[xcp];exact ma,by rw[xcp];exact mb,by rw[xcp];exact mc,by rw[xcp];exact md⟩
theorem jnT {z w b:Int} (e1:g*x=a) (e2:g*y=b) (e3:g*z=c) (e4:g*w=d) (p:Pt):hgt a b c d p=g*hgt x y z w p:=by
 rw[<- e1,<- e2,<- e3,<- e4];unfold hgt;grind
theorem zero_mul (g0:g≠0) (e:y=g*x):x=0↔y=0:=⟨fun h=>by rw[e,h,xbk],fun h=>(xax.mp (show g*x=0 by omega)).resolve_left g0⟩
def jh1 (n:Nat):Sp:=fun vs H Q _=>∃(v:V) (T:Tr) (c:Nat),vs=[v]/\TrAt H v T/\T.ht<n/\T.Good c/\c<900/\T.pcs.length<=800/\∀(l:Addr) (H':Hp) (rs:List Addr),H l=none->Same H H'->H' l=some (.lst (rs.map V.ref))->All2 (PcAt H') rs T.pcs->Q (.ref l) H'
theorem jjR {l1 l2:Addr} {rs1 rs2:List Addr} (e1:H l1=some (.lst (rs1.map V.ref))) (e2:H l2=some (.lst (rs2.map V.ref))) (h:rs1.length+rs2.length<1000) (q:∀(p:Addr) (H':Hp),H p=none->Same H H'->H' p=some (.lst ((rs1++rs2).map V.ref))->Q (.ref p) H'):rCat (.ref l1) (.ref l2) H Q :=
 ⟨l1,l2,rs1.map V.ref,rs2.map V.ref,rfl,rfl,e1,e2,xaQ (jaD (show (rs1.map V.ref).length+(rs2.map V.ref).length<1000 by rw[xaa,xaa];exact h)),fun p hp=>q p _ hp (Same.new hp _) (by rw[xaf];exact jac)⟩
theorem All2.keepP {rs:List Addr} {xs:List (Int × List Pt)} (h:All2 (PcAt H) rs xs) (s:SameT H H'):All2 (PcAt H') rs xs:=h.mono fun _ _ k=>PcAt.keep k s
theorem jlk (T:Tx K mg t1 t2) (F:At K mg "_law_pieces" jbt ["tree"] []) (db:jao P w K mg base CX0 (7+n) "_law_pieces" ["tree"] [] (jh1 n)):jao P w K mg base CX0 (7+n+1) "_law_pieces" ["tree"] [] (jh1 (n+1)):=by
  refine F.ok jb2 (by walk_at "ar") (fun f cdv Ar outer s H vs Q E hr h=>?_);obtain⟨v,Tt,c,rfl,hT,hn,hG,c9,l8,q⟩:=h;have S:=jb2;refine⟨_,(jaf (jaL (jaq jc8 (pv 0) jaO (jax _))
    (jai (jas (jaM jad)))
    jaw)
    (jai (jas (jau jb7 (jau jb7 (jaU jbx rfl T.m_list boot_list (jaa (jak jam (pv 0) jab) jad jap)) (jag db (hr.mono (by omega)) rfl jav (jaa (jak jam (pv 0) jab) jad jap))) (jag db (hr.mono (by omega)) rfl jav (jaa (jak jam (pv 0) jab) jad jap)))))),?_⟩
  walk_at "rf";cases hT with
  | nil =>
    rw[if_pos rfl];exact⟨xaO _,fun p hp=>q p _ [] hp (Same.new hp _) jac .nil⟩
  | nd et hg eh ah hb ha =>
    rename_i t g h rs vb va pl here b a
    rw[if_neg (by intro z;cases z)];obtain⟨_,_,gb,ga⟩:=hG;have hl:here.length+b.pcs.length+a.pcs.length<=800:=by
      have z:(here++b.pcs++a.pcs).length<=800:=l8;rw[xad,xad] at z;exact z
    have hh:b.ht<n/\a.ht<n:=by
      have z:max b.ht a.ht+1<n+1:=hn;omega
    have kt:=SqT.of (K:=K) et;refine ixT kt (i:=1) rfl ⟨_,rfl,_,.inr (SqT.of eh),fun l1 n1=>?_⟩;refine jeA n1 fun H1 j1 e1=>?_;refine ixT (SqT.of (j1 _ _ et)) (i:=2) rfl ⟨_,b,c,rfl,hb.keep j1.t,hh.1,gb,c9,by omega,fun l2 H2 rs2 n2 s2 e2 a2=>?_⟩;have q1:=ah.len;have q2:=a2.len;refine jjR (s2 _ _ e1) e2 (by omega) fun l3 H3 n3 s3 e3=>?_;have s13:=j1.trans (s2.trans s3);refine ixT (SqT.of (s13 _ _ et)) (i:=3) rfl ⟨_,a,c,rfl,ha.keep s13.t,hh.2,ga,c9,by omega,fun l4 H4 rs4 n4 s4 e4 a4=>?_⟩;have q4:=a4.len;refine jjR (s4 _ _ e3) e4 (by rw[xad];omega) fun l5 H5 n5 s5 e5=>?_;have s45:=s4.trans s5;exact q l5 H5 _ ((s13.trans s4).noneN n5) (s13.trans s45) e5 (((ah.keepP (s13.trans s45).t).app (a2.keepP (s3.trans s45).t)).app (a4.keepP s5.t))
theorem jjS (T:Tx K mg t1 t2) (F:At K mg "_law_pieces" jbt ["tree"] []):∀n:Nat,jao P w K mg base CX0 (7+n) "_law_pieces" ["tree"] [] (jh1 n)
 | 0=>F.ok (k:=6) jb2 (fun vs H Q E ⟨_,_,_,_,_,z,_⟩=>absurd z (xaK _)) fun f cdv Ar outer s H vs Q E hr ⟨_,_,_,_,_,z,_⟩=>absurd z (xaK _)
 | n+1=>jlk T F (jjS T F n)
theorem jpT (T:Tx K mg t1 t2) (F:At K mg "_law_pieces" jbt ["tree"] []):jao P w K mg base CX0 16 "_law_pieces" ["tree"] [] (jh1 9):=by
 exact jjS T F 9
theorem Tr.Good.pcs_len {c:Nat}:∀{T:Tr},T.Good c->T.pcs.length<=c*(2^T.ht-1)
  | .nil,_=>xaO _
  | .nd p h b a, ⟨_, ⟨_, hl⟩, gb, ga⟩ => by
    have ib:=gb.pcs_len;have ia:=ga.pcs_len;show (h++b.pcs++a.pcs).length<=c*(2^(max b.ht a.ht+1)-1);rw[xad,xad];have p0:∀n:Nat,1<=2^n:=fun n=>Nat.one_le_two_pow;have mb:2^b.ht<=2^max b.ht a.ht:=xbA (by decide) (Nat.le_max_left _ _);have ma:2^a.ht<=2^max b.ht a.ht:=xbA (by decide) (Nat.le_max_right _ _);have jb:=xav ib (Nat.mul_le_mul_left c (Nat.sub_le_sub_right mb 1));have ja:=xav ia (Nat.mul_le_mul_left c (Nat.sub_le_sub_right ma 1));have e:c*(2^(max b.ht a.ht+1)-1)=c+c*(2^max b.ht a.ht-1)+c*(2^max b.ht a.ht-1):=by
      have:=p0 (max b.ht a.ht);rw[Nat.pow_succ];generalize 2^max b.ht a.ht=x at this |-
      obtain⟨y,rfl⟩:∃y,x=y+1:=⟨x-1,by omega⟩;have k:(y+1)*2-1=1+y+y:=by omega
      rw[k,Nat.mul_add,Nat.mul_add,Nat.mul_one,Nat.add_sub_cancel]
    omega
theorem Tr.Good.pcs_ok {c:Nat}:∀{T:Tr},T.Good c->∀x∈T.pcs,jjx x.2
  | .nil,_,_,hx=>nomatch hx
  | .nd p h b a, ⟨_, ⟨ho, _⟩, gb, ga⟩, x, hx => by
    have hx:x∈h++b.pcs++a.pcs:=hx;rcases xas.mp hx with hx | hx
    . rcases xas.mp hx with hx | hx
      . exact ho x hx
      . exact gb.pcs_ok x hx
    . exact ga.pcs_ok x hx
theorem Tr.Good.pcs_800 {c:Nat} {T:Tr} (h:T.Good c) (c4:c<=4) (t7:T.ht<=7):T.pcs.length<=800:=by
 have h1:=h.pcs_len;have h2:2^T.ht<=2^7:=xbA (by decide) t7;have h3:2^T.ht-1<=127:=by
  have:(2:Nat)^7=128:=rfl;omega
 have h4:=xcz c4 h3;omega
def ngP (p:Pt):Pt:=⟨-p.x,-p.y,-p.z,-p.w⟩
theorem jll (Z:Sht) (p:Pt) (u:Tri):hf (jcj Z (ngP p)) u=-hf (jcj Z p) u:=jjl ..
theorem jnU (p o:Pt):hgt (ngP p).x (ngP p).y (ngP p).z (ngP p).w o=-hgt p.x p.y p.z p.w o:=by
 show hgt (-p.x) (-p.y) (-p.z) (-p.w) o=_;unfold hgt;grind
theorem jml {l:Ln} {u:Tri} (h:Prp u v) (n:0<=hf l u):0<=hf l v:=by
 obtain⟨k,m,k0,m0,e1,e2,e3⟩:=h;have e:k*hf l u=m*hf l v:=jgB e1 e2 e3;have h1:=xaJ (xbS k0) n;rw[e] at h1;exact xal fun z=>by
  have:=xaB m0 (show hf l v<0 by omega);omega
theorem jpU (n:Int):0<=ab n:=by
 unfold ab;split<;>omega
theorem jlm {l m:Ln} (hz:∀v∈vs,1<=v.z) (n:∀v∈vs,0<=hf l v):∀v∈UP (hf m) vs,0<=hf l v:=fun v hv=>by
 by_cases c:∃v∈vs,0<hf m v
 ·rw[jbO c] at hv;rcases jhl hv with ⟨h,_⟩ | ⟨a,b,ha,hb,o,rfl⟩
  ·exact n v h
  ·refine jml (jeU (hz a ha) (hz b hb) o) ?_;have e:hf l (xp (hf m) a b)=ab (hf m b)*hf l a+ab (hf m a)*hf l b:=by
    unfold xp jeR hf jaH;simp only;generalize ab _=p;generalize ab _=q;grind
   rw[e];exact Int.add_nonneg (xaJ (jpU _) (n a ha)) (xaJ (jpU _) (n b hb))
 ·rw[jc0 c] at hv;cases hv
theorem jpV {m:Ln} (hz:∀v∈vs,1<=v.z):∀v∈UP (hf m) vs,0<=hf m v:=fun v hv=>by
 by_cases c:∃v∈vs,0<hf m v
 ·rw[jbO c] at hv;rcases jhl hv with ⟨_,h⟩ | ⟨a,b,ha,hb,o,rfl⟩
  ·exact h
  ·refine jml (jeU (hz a ha) (hz b hb) o) ?_;have e:hf m (xp (hf m) a b)=0:=jfp o;rw[e];exact xbm _
 ·rw[jc0 c] at hv;cases hv
theorem jjT {l:Ln} (R:Rng us) (n:∀u∈us,0<=hf l u) {w:Tri} (hw:hf l w≠0):∃u∈us,0<hf l u:=xal fun z=>hw (by
 have z0:∀i,i<us.length->hf l (tr us i)=0:=fun i hi=>by
  have h1:=n _ (jdm hi);have h2:¬0<hf l (tr us i):=fun h=>z ⟨_,jdm hi,h⟩;omega
 have n3:=R.n3;have d:=R.tp 0 1 2 (by decide) (by decide) (by omega);have a0:=z0 0 (by omega);have a1:=z0 1 (by omega);have a2:=z0 2 (by omega);generalize tr us 0=a at *
 generalize tr us 1=b at *
 generalize tr us 2=c at *
 obtain⟨c1,c2,c3⟩:=jjn a b c w;have e:dt a b c*hf l w=dt w b c*hf l a+dt a w c*hf l b+dt a b w*hf l c:=by
  unfold hf jaH;grind
 rw[a0,a1,a2,xbk,xbk,xbk] at e;exact (xax.mp (show dt a b c*hf l w=0 by omega)).resolve_left (by omega))
def Abv (p:Pt) (ps:List Pt):Prop:=(∀c∈ps,0<=hgt p.x p.y p.z p.w c)/\∃c∈ps,0<hgt p.x p.y p.z p.w c
def OnP (p:Pt) (ps:List Pt):Prop:=∀c∈ps,hgt p.x p.y p.z p.w c=0
theorem jjU {c:Pt} (h:c∈rgs Z us):∃u∈us,spt Z u=c:=xao.mp ((jes _ _).mem.mp h)
theorem jmm {u:Tri} (h:u∈us):spt Z u∈rgs Z us:=(jes (us.map (spt Z)) (us.map (spt Z))).mem.mpr (xa8 h)
theorem jpW (hw:1<=Z.w) (hz:∀u∈us,1<=u.z) (n:∀u∈us,0<=hf (jcj Z p) u) (e:∃u∈us,0<hf (jcj Z p) u):Abv p (rgs Z us):=by
 refine⟨fun c hc=>?_,?_⟩
 ·obtain⟨u,hu,rfl⟩:=jjU hc;have h:=(jb4 (Z:=Z) (x:=p.x) (y:=p.y) (z:=p.z) (v:=p.w) hw (hz u hu)).2;have n':0<=hL Z p.x p.y p.z p.w u:=n u hu;exact xal fun k=>by
   have:=h.mp (by omega);omega
 ·obtain⟨u,hu,h⟩:=e;exact⟨_,jmm hu,(jb4 (Z:=Z) hw (hz u hu)).1.mpr h⟩
theorem jpX (hw:1<=Z.w) (hz:∀u∈us,1<=u.z) (n:∀u∈us,hf (jcj Z p) u=0):OnP p (rgs Z us):=fun c hc=>by
 obtain⟨u,hu,rfl⟩:=jjU hc;obtain⟨h1,h2⟩:=jb4 (Z:=Z) (x:=p.x) (y:=p.y) (z:=p.z) (v:=p.w) hw (hz u hu);have n':hL Z p.x p.y p.z p.w u=0:=n u hu;have k1:¬0<hgt p.x p.y p.z p.w (spt Z u):=fun h=>by have:=h1.mp h;omega
 have k2:¬hgt p.x p.y p.z p.w (spt Z u)<0:=fun h=>by have:=h2.mp h;omega
 omega
theorem jmn (hw:1<=Z.w) (hz:∀u∈us,1<=u.z) (n:OnP p (rgs Z us)):∀u∈us,hf (jcj Z p) u=0:=fun u hu=>by
 have e:=n _ (jmm hu);obtain⟨h1,h2⟩:=jb4 (Z:=Z) (x:=p.x) (y:=p.y) (z:=p.z) (v:=p.w) hw (hz u hu);have k1:¬0<hL Z p.x p.y p.z p.w u:=fun h=>by have:=h1.mpr h;omega
 have k2:¬hL Z p.x p.y p.z p.w u<0:=fun h=>by have:=h2.mpr h;omega
 show hL Z p.x p.y p.z p.w u=0;omega
structure Sub (ws us:List Tri):Prop where
 r:VF us
 s:∀l:Ln,(∀w∈ws,0<=hf l w)->∀u∈us,0<=hf l u
theorem DOk.on {x:Dsc} (h:DOk x):OnP (plP (rgs x.2.1 x.2.2)) (rgs x.2.1 x.2.2):=fun c hc=>by
 have B:=jpS h.z.hw h.z.nz h.f.rg (by have:=h.l6;omega) (DOk.rr x);obtain⟨i,hi,rfl⟩:=xbo.mp hc;have fl:=B.flat i hi;have ep:pt (rgs x.2.1 x.2.2) i=(rgs x.2.1 x.2.2)[i]:=by
  unfold pt;rw[xab,xac hi];rfl
 rw[ep] at fl;have na:=B.na;have nz:¬(jaC 0 (pt (rgs x.2.1 x.2.2) 0) (pt (rgs x.2.1 x.2.2) 1) (pt (rgs x.2.1 x.2.2) 2)=0/\-jaC 1 (pt (rgs x.2.1 x.2.2) 0) (pt (rgs x.2.1 x.2.2) 1) (pt (rgs x.2.1 x.2.2) 2)=0/\jaC 2 (pt (rgs x.2.1 x.2.2) 0) (pt (rgs x.2.1 x.2.2) 1) (pt (rgs x.2.1 x.2.2) 2)=0):=fun ⟨z0,z1,z2⟩=>na ⟨z0,by omega,z2⟩;obtain⟨a,b,c',d,g,e,g0,i1,i2,i3,i4⟩:=jjQ (d:=jaC 3 (pt (rgs x.2.1 x.2.2) 0) (pt (rgs x.2.1 x.2.2) 1) (pt (rgs x.2.1 x.2.2) 2)) nz;have eP:=jmk (ps:=rgs x.2.1 x.2.2) (a:=a) (b:=b) (c:=c') (d:=d) e;rw[eP];rw[jnT i1 i2 i3 i4] at fl;exact (xax.mp fl).resolve_left g0
inductive spTurnPi (vs:List V) (H:Hp) (Q:VK):Prop
 | mk (a L:Addr) (rs:List Addr) (_:vs=[.ref a,.ref L]) (_:H a=some (.lst (rs.map V.ref))) (_:(∀r∈rs,∃x,PcAt H r x)) (_:a≠L) (_:Sta H L) (_:rs.length<900) (_:∀(l:Addr) (H':Hp) (rs':List Addr),H l=none->SameB L H H'->Sta H' L->H' l=some (.lst (rs'.map V.ref))->rs'.Perm rs->Q (.ref l) H')
def jjV:Sp:=fun vs H Q _=>spTurnPi vs H Q
theorem jln (T:Tx K mg t1 t2) (F:At K mg "_law_turned" jch ["some","state"] []) (da:jao P w K mg base CX0 1 "_law_next" ["state","many"] [] jju):jao P w K mg base CX0 2 "_law_turned" ["some","state"] [] jjV:=by
 refine F.ok jcY (by walk_at "ar") (fun f cdv A outer s H vs Q E hr h=>?_);obtain⟨a,L,rs,rfl,ea,hpc,aL,b0,l9,q⟩:=h;have S:=jcY;refine⟨_,(jaf (jat (i:=2) S.nd rfl (Or.inl rfl) (jaU jbx rfl T.m_list boot_list (jaa (pv 0) jad jae)))
  (jaf (jat (i:=3) S.nd rfl (Or.inl rfl) (jaM jad))
  (jaf (jc7 PassesOwn.never (jaq (jcm (jgi hr)) (pv 2) (jaM jad) (jax _))
  (jai (jbc (jcq PySem.F.plainAttrs_list PySem.F.slot_list_append PySem.F.type_list_append jaR (pv 3) (jaa (jcq PySem.F.plainAttrs_list PySem.F.slot_list_pop PySem.F.type_list_pop jkw (pv 2) (jaa (jag da hr.m rfl jav (jaa (pv 1) (jaa (jaG jaI rfl T.m_len PySem.boot_len (jaa (pv 2) jad jae)) jad jaF) jae)) jad jaF)) jad jaF)))))
  (jai (jas (pv 3)))))),?_⟩
 walk_at "rf";refine⟨_,.inl (SqL.of ea),fun l hl=>⟨by decide,fun p hp=>?_⟩⟩;have j1:=Same.new hl (.lst (rs.map V.ref));have j2:=Same.new hp (.lst []);have lp:l≠p:=jar (show upd H l (.lst (rs.map V.ref)) l=some _ from jac) hp;have el0:=j2 _ _ (show upd H l (.lst (rs.map V.ref)) l=some (.lst (rs.map V.ref)) from jac);have ep0:upd (upd H l (.lst (rs.map V.ref))) p (.lst []) p=some (.lst []):=jac;have s0:=j1.trans j2;have hp0:=j1.noneN hp;generalize upd (upd H l (.lst (rs.map V.ref))) p (.lst [])=H0 at el0 ep0 s0;have lL:l≠L:=b0.ne hl;have pL:p≠L:=b0.ne hp0;refine⟨fun n σ Hk=>σ=[some (.ref a),some (.ref L),some (.ref l),some (.ref p)]/\∃xs ys:List Addr,Hk l=some (.lst (xs.map V.ref))/\Hk p=some (.lst (ys.map V.ref))/\(ys++xs).Perm rs/\SameB L H Hk/\Sta Hk L/\n=xs.length,⟨_,rfl,rs,[],el0,ep0,.rfl,s0.b,b0.keep s0,rfl⟩,?_⟩;rintro n σ Hk ⟨rfl,xs,ys,el,ep,pm,sB,bk,rfl⟩;have tk:SameT H Hk:=b0.t sB;have ln:=pm.length_eq;rw[xad] at ln;walk_at "rf";refine⟨by decide,fun e he=>?_⟩;have j:=Same.new he (.lst []);obtain⟨ds,hds⟩:∃ds,All2 (PcAt Hk) xs ds:=jjJ fun r hr=>by
  obtain⟨x,hx⟩:=hpc r (pm.mem_iff.mp (xaz _ hr));exact⟨x,hx.keep tk⟩
 refine jfx (j _ _ el) (hds.mono fun _ _ h=>h.keep j.t) jac ⟨_,rfl,?_⟩;have el':=j _ _ el;have ep':=j _ _ ep;have sB':=sB.trans j.b;have bk':=bk.keep j;generalize upd Hk e (.lst [])=Hm at el' ep' sB' bk' |-
 refine jbP (fun c=>?_) fun c=>?_
 ·have n0:0<xs.length:=by
   cases xs with
   | nil=>exact absurd c (by decide)
   | cons _ _=>exact Nat.succ_pos _
  refine⟨fun σ' H'=>σ'=[some (.ref a),some (.ref L),some (.ref l),some (.ref p)]/\∃xs' ys':List Addr,H' l=some (.lst (xs'.map V.ref))/\H' p=some (.lst (ys'.map V.ref))/\(ys'++xs').Perm rs/\SameB L H H'/\Sta H' L/\xs'.length<xs.length,fun σ' H' ⟨h1,xs',ys',h2,h3,h4,h6,h7,h8⟩=>⟨_,h8,h1,xs',h2,ys',h3,h4,h6,h7,rfl⟩,.inl ⟨_,SqL.of ep'⟩,.inl ⟨_,SqL.of el'⟩,_,.inl (SqL.of el'),?_⟩;rw[xaa];refine⟨L,_,rfl,bk',by omega,by omega,fun Hn d sn bn d0 dn=>?_⟩;have en:=sn _ _ lL el';have enp:=sn _ _ pL ep';obtain⟨k,rfl⟩:=xbn d0;have hk:k<xs.length:=by omega
  refine⟨l,_,k,k,.ref xs[k],rfl,rfl,en,by omega,by omega (config:={}),(jgn (jjt (by rw[xaa];exact hk))).1,by rw[xae,xac hk];rfl,?_⟩;have em:(xs.map V.ref).eraseIdx k=(xs.eraseIdx k).map V.ref:=by
   rw[xbQ,xbQ,xaf,xbt,xbs]
  rw[em];refine⟨p,_,_,rfl,rfl,by rw[jaz (Ne.symm lp)];exact enp,jaD (by rw[xaa];omega),rfl,xs.eraseIdx k,ys++[xs[k]],by rw[jaz lp,jac],by rw[jac,xaf];rfl,?_,?_,?_,?_⟩
  ·refine .trans ?_ pm;rw[xbD];refine List.Perm.append_left _ ?_;rw[xbQ,List.singleton_append];refine List.Perm.trans ?_ (.of_eq (xa1 k xs));rw[List.drop_eq_getElem_cons hk];exact List.perm_middle.symm
  ·have sn':=sB'.trans sn;intro b o nb hb;have b1:b≠l:=jar hb hl;have b2:b≠p:=jar hb hp0;rw[jaz b2,jaz b1];exact sn' b o nb hb
  ·obtain⟨u,v,h1,h2⟩:=bn;exact⟨u,v,by rw[jaz (Ne.symm pL),jaz (Ne.symm lL)];exact h1,h2⟩
  ·rw[List.length_eraseIdx_of_lt hk];omega
 ·have e0:xs=[]:=by
   cases xs with
   | nil=>rfl
   | cons _ _=>exact absurd rfl c
  subst e0;rw[xaP] at pm;exact q p Hm ys hp0 sB' bk' ep' pm
theorem len2S {v0:L2.St} (h:v0.length=2):∃a b,v0=[a,b]:=match v0,h with | [a,b],_=>⟨a,b,rfl⟩
theorem jjW {α β:Type} (f:α->β) (l:List α) (g:Nat->β) (h:∀i a,l[i]?=some a->g i=f a):(List.range l.length).map g=l.map f:=by
 apply xb2;intro i;rw[xae,xae];by_cases c:i<l.length
 ·rw[xb7 c,xac c];show some (g i)=some (f l[i]);rw[h i l[i] (xac c)]
 ·rw[xaV (by simp;omega),xaV (by omega)];rfl
noncomputable section
def hrP (p:Pt) (x:Dsc):Bool:=decide (dnX x.2.1 p x.2.2=[]/\upX x.2.1 p x.2.2=[])
def loP (p:Pt) (x:Dsc):Option Dsc:=if dnX x.2.1 p x.2.2=[] then none else some (x.1,x.2.1,dnX x.2.1 p x.2.2)
def hiP (p:Pt) (x:Dsc):Option Dsc:=if upX x.2.1 p x.2.2=[] then none else some (x.1,x.2.1,upX x.2.1 p x.2.2)
end
def J:Tr->List Dsc->Prop
 | .nil,xs=>xs=[]
 | .nd p h b a,xs=>((xs.filter (hrP p)).map dPc).Perm h/\J b (xs.filterMap (loP p))/\J a (xs.filterMap (hiP p))
structure PD (n:Nat) (x:Dsc):Prop where
 z:SZ x.2.1
 f:VF x.2.2
 l:x.2.2.length<=n
variable {p q:Pt}
theorem jhA {x y:Dsc} (e:loP p x=some y):y=(x.1,x.2.1,dnX x.2.1 p x.2.2)/\dnX x.2.1 p x.2.2≠[]:=by
 unfold loP at e;split at e
 ·cases e
 ·rename_i n
  cases e;exact⟨rfl,n⟩
theorem jeW {x y:Dsc} (e:hiP p x=some y):y=(x.1,x.2.1,upX x.2.1 p x.2.2)/\upX x.2.1 p x.2.2≠[]:=by
 unfold hiP at e;split at e
 ·cases e
 ·rename_i n
  cases e;exact⟨rfl,n⟩
variable {n k i f j:Nat}
theorem PD.lo {x y:Dsc} (hp:PlG p) (h:PD n x) (e:loP p x=some y):PD (n+1) y:=by
 obtain⟨rfl,ne⟩:=jhA e;have:=jjC (Z:=x.2.1) (p:=p) h.f;have:=h.l;exact⟨h.z,jjA h.z hp h.f ne,by show (dnX x.2.1 p x.2.2).length<=n+1;omega⟩
theorem PD.hi {x y:Dsc} (hp:PlG p) (h:PD n x) (e:hiP p x=some y):PD (n+1) y:=by
 obtain⟨rfl,ne⟩:=jeW e;have:=jjB (Z:=x.2.1) (p:=p) h.f;have:=h.l;exact⟨h.z,jh0 h.z hp h.f ne,by show (upX x.2.1 p x.2.2).length<=n+1;omega⟩
theorem jjX {xs:List Dsc} {y:Dsc} (h:y∈xs.filterMap (loP p)):∃x∈xs,loP p x=some y:=xby.mp h
theorem jgd {xs:List Dsc} {y:Dsc} (h:y∈xs.filterMap (hiP p)):∃x∈xs,hiP p x=some y:=xby.mp h
theorem jhB {f:Dsc->Option Dsc} (hf:∀x y,f x=some y->y.1=x.1):∀xs:List Dsc,((xs.filterMap f).map (·.1)).Sublist (xs.map (·.1))
  | []=>.slnil
  | x :: xs => by
    rw[xay];split
    . exact (jhB hf xs).cons _
    . rename_i y e
      rw[xaH,xaH,hf x y e];exact (jhB hf xs).cons₂ _
theorem jlo {xs:List Dsc} (h:(xs.map (·.1)).Nodup):((xs.filterMap (loP p)).map (·.1)).Nodup:=(jhB (fun x y e=>by rw[(jhA e).1]) xs).nodup h
theorem jlp {xs:List Dsc} (h:(xs.map (·.1)).Nodup):((xs.filterMap (hiP p)).map (·.1)).Nodup:=(jhB (fun x y e=>by rw[(jeW e).1]) xs).nodup h
theorem jlq {xs:List Dsc} (h:(xs.map (·.1)).Nodup):(((xs.filter (hrP p)).map dPc).map (·.1)).Nodup:=by
 rw[xbp];exact (List.Sublist.map (fun x:Dsc=>x.1) xcn).nodup h
theorem jjY:∀{T:Tr} {xs ys:List Dsc},xs.Perm ys->J T xs->J T ys
  | .nil, xs, ys, p, h => by
    have h:xs=[]:=h;subst h;exact xcC.mp p.symm
  | .nd ..,xs,ys,p,⟨h1,h2,h3⟩=>⟨((p.filter _).map _).symm.trans h1,jjY (p.filterMap _) h2,jjY (p.filterMap _) h3⟩
theorem jjZ:∀{T:Tr},J T []->T.pcs=[]
  | .nil,_=>rfl
  | .nd p h b a, ⟨h1, h2, h3⟩ => by
    show h++b.pcs++a.pcs=[];rw[jjZ h2,jjZ h3,xcC.mp (show h.Perm [] from h1.symm)];rfl
theorem jge:∀{T:Tr},T.pcs=[]->J T []
  | .nil,_=>rfl
  | .nd p h b a, e => by
    have e:h++b.pcs++a.pcs=[]:=e;obtain⟨e1,e2⟩:=xbV.mp e;obtain⟨e3,e4⟩:=xbV.mp e1;exact⟨by rw[e3];exact .nil,jge e4,jge e2⟩
theorem jj0:∀{T:Tr} {xs:List Dsc},J T xs->∀x∈xs,∃y∈T.pcs,y.1=x.1
  | .nil, xs, h, x, hx => by
    have h:xs=[]:=h;rw[h] at hx;cases hx
  | .nd p h b a, xs, ⟨h1, h2, h3⟩, x, hx => by
    by_cases c:dnX x.2.1 p x.2.2=[]
    . by_cases d:upX x.2.1 p x.2.2=[]
      . have m:dPc x∈h:=h1.mem_iff.mp (xa8 (xa2.mpr ⟨hx,decide_eq_true ⟨c,d⟩⟩))
        exact⟨_,xaY _ (xaY _ m),rfl⟩
      . obtain⟨y,hy,e⟩:=jj0 h3 (x.1,x.2.1,upX x.2.1 p x.2.2) (xby.mpr ⟨x,hx,if_neg d⟩)
        exact⟨y,xaz _ hy,e⟩
    . obtain⟨y,hy,e⟩:=jj0 h2 (x.1,x.2.1,dnX x.2.1 p x.2.2) (xby.mpr ⟨x,hx,if_neg c⟩)
      exact⟨y,xaY _ (xaz _ hy),e⟩
theorem jj1 {c:Nat}:∀{T:Tr} {xs:List Dsc},J T xs->T.Good c->(∀x∈xs,SZ x.2.1/\VF x.2.2)->∀y∈T.pcs,∃x∈xs,∃us,y=(x.1,rgs x.2.1 us)/\Sub x.2.2 us
  | .nil,_,_,_,_,y,hy=>nomatch hy
  | .nd p h b a, xs, ⟨h1, h2, h3⟩, ⟨g1, _, g4, g5⟩, hk, y, hy => by
    have hy:y∈h++b.pcs++a.pcs:=hy;rcases xas.mp hy with hy | hy
    . rcases xas.mp hy with hy | hy
      . obtain⟨x,hx,e⟩:=xao.mp (h1.mem_iff.mpr hy)
        have hx:=(xa2.mp hx).1;exact⟨x,hx,x.2.2,e.symm,(hk x hx).2,fun _ h=>h⟩
      . obtain⟨z,hz,us,e,s⟩:=jj1 h2 g4 (fun z hz=>by
          obtain⟨x,hx,e⟩:=jjX hz;obtain⟨rfl,ne⟩:=jhA e;exact⟨(hk x hx).1,jjA (hk x hx).1 g1 (hk x hx).2 ne⟩) y hy
        obtain⟨x,hx,e'⟩:=jjX hz;obtain⟨rfl,ne⟩:=jhA e';exact⟨x,hx,us,e,s.r,fun l hl=>s.s l (jlm (hk x hx).2.rg.hz hl)⟩
    . obtain⟨z,hz,us,e,s⟩:=jj1 h3 g5 (fun z hz=>by
        obtain⟨x,hx,e⟩:=jgd hz;obtain⟨rfl,ne⟩:=jeW e;exact⟨(hk x hx).1,jh0 (hk x hx).1 g1 (hk x hx).2 ne⟩) y hy
      obtain⟨x,hx,e'⟩:=jgd hz;obtain⟨rfl,ne⟩:=jeW e';exact⟨x,hx,us,e,s.r,fun l hl=>s.s l (jlm (hk x hx).2.rg.hz hl)⟩
theorem jmo {c:Nat} {T:Tr} {xs ys:List Dsc} (hx:J T xs) (hy:J T ys) (g:T.Good c) (hk:∀y∈ys,SZ y.2.1/\VF y.2.2):∀x∈xs,∃y∈ys,y.1=x.1:=fun x h=>by
 obtain⟨z,hz,e⟩:=jj0 hx x h;obtain⟨y,hy,us,e',_⟩:=jj1 hy g hk z hz;exact⟨y,hy,by rw[<- e,e']⟩
variable {Z:Sht}
variable {us vs ws:List Tri}
theorem jmp {o:Pt} (hZ:SZ Z) (F:VF ws) (on:OnP o (rgs Z ws)) {m:Ln}:OnP o (rgs Z (UP (hf m) ws)):=by
 have z:=jmn hZ.hw F.rg.hz on;by_cases c:∃v∈ws,0<hf m v
 ·refine jpX hZ.hw (jca F.rg c).1.hz fun u hu=>?_;have n1:=jlm (l:=jcj Z o) F.rg.hz (fun v hv=>by rw[z v hv];exact xbm _) u hu;have n2:=jlm (l:=jcj Z (ngP o)) F.rg.hz (fun v hv=>by rw[jll,z v hv];decide) u hu;rw[jll] at n2;omega
 ·rw[jc0 c];exact fun c hc=>by
   obtain⟨u,hu,_⟩:=jjU hc;cases hu
theorem jpY {o:Pt} (hZ:SZ Z) (F:VF ws) (on:OnP o (rgs Z ws)):dnX Z o ws=[]/\upX Z o ws=[]:=by
 have z:=jmn hZ.hw F.rg.hz on;refine⟨jc0 fun ⟨u,hu,h⟩=>?_,jc0 fun ⟨u,hu,h⟩=>?_⟩
 ·have h':0<hf (jcj Z (ngP o)) u:=h;rw[jll,z u hu] at h';exact absurd h' (by decide)
 ·rw[z u hu] at h;exact absurd h (by decide)
theorem jj2 (F:VF ws) (e:dnX Z p ws=[]/\upX Z p ws=[]):∀u∈ws,hf (jcj Z p) u=0:=fun u hu=>by
 have k1:¬0<hf (jcj Z p) u:=fun h=>by
  have z:=(jca F.rg ⟨u,hu,h⟩).1.n3;rw[show UP (hf (jcj Z p)) ws=[] from e.2] at z;exact absurd z (by decide)
 have k2:¬0<hf (jcj Z (ngP p)) u:=fun h=>by
  have z:=(jca F.rg ⟨u,hu,h⟩).1.n3;rw[show UP (hf (jcj Z (ngP p))) ws=[] from e.1] at z;exact absurd z (by decide)
 rw[jll] at k2;omega
theorem jj3 {Z:Sht} {k:Int} {o:Pt} {c:Nat} (hZ:SZ Z):∀{T:Tr} {xs:List Dsc} {ws:List Tri},T.Good c->VF ws->OnP o (rgs Z ws)->J T xs->J (grw Z k o T ws) (xs++[(k,Z,ws)])
  | .nil, xs, ws, _, F, on, h => by
    have h:xs=[]:=h;subst h;obtain⟨e1,e2⟩:=jpY hZ F on;have q:hrP o (k,Z,ws)=true:=decide_eq_true ⟨e1,e2⟩;refine⟨?_,?_,?_⟩
    . rw[xca,xaI,if_pos q]
      exact .refl _
    . show List.filterMap (loP o) [(k,Z,ws)]=[]
      rw[xay,show loP o (k,Z,ws)=none from if_pos e1];rfl
    . show List.filterMap (hiP o) [(k,Z,ws)]=[]
      rw[xay,show hiP o (k,Z,ws)=none from if_pos e2];rfl
  | .nd p h b a, xs, ws, ⟨g1, _, g4, g5⟩, F, on, ⟨h1, h2, h3⟩ => by
    by_cases e:dnX Z p ws=[]/\upX Z p ws=[]
    . rw[jft e]
      have q:hrP p (k,Z,ws)=true:=decide_eq_true e;refine⟨?_,?_,?_⟩
      . rw[xaq,xaI,if_pos q,xaf]
        exact h1.append_right _
      . rw[xa7,xay,show loP p (k,Z,ws)=none from if_pos e.1]
        show J b (_++[]);rw[xaP];exact h2
      . rw[xa7,xay,show hiP p (k,Z,ws)=none from if_pos e.2]
        show J a (_++[]);rw[xaP];exact h3
    . rw[jfu e]
      have q:¬hrP p (k,Z,ws)=true:=fun h=>e (of_decide_eq_true h);refine⟨?_,?_,?_⟩
      . rw[xaq,xaI,if_neg q,xaf]
        show (_++[]).Perm h;rw[xaP];exact h1
      . rw[xa7,xay]
        by_cases z:dnX Z p ws=[]
        . rw[if_pos z,show loP p (k,Z,ws)=none from if_pos z]
          show J b (_++[]);rw[xaP];exact h2
        . rw[if_neg z,show loP p (k,Z,ws)=some (k,Z,dnX Z p ws) from if_neg z]
          exact jj3 hZ g4 (jjA hZ g1 F z) (jmp hZ F on) h2
      . rw[xa7,xay]
        by_cases z:upX Z p ws=[]
        . rw[if_pos z,show hiP p (k,Z,ws)=none from if_pos z]
          show J a (_++[]);rw[xaP];exact h3
        . rw[if_neg z,show hiP p (k,Z,ws)=some (k,Z,upX Z p ws) from if_neg z]
          exact jj3 hZ g5 (jh0 hZ g1 F z) (jmp hZ F on) h3
def Tr.ow:Tr->Tr
 | .nil=>.nil
 | .nd p h b a=>.nd p h.reverse b.ow a.ow
def Tr.ng:Tr->Tr
 | .nil=>.nil
 | .nd p h b a=>.nd (ngP p) h a.ng b.ng
theorem J_ow:∀{T:Tr} {xs:List Dsc},J T xs->J T.ow xs
 | .nil,_,h=>h
 | .nd ..,_,⟨h1,h2,h3⟩=>⟨h1.trans (List.reverse_perm _).symm,J_ow h2,J_ow h3⟩
theorem ng_ng (p:Pt):ngP (ngP p)=p:=by
 cases p;simp [ngP]
theorem jpZ (Z:Sht) (p:Pt) (ws:List Tri):dnX Z (ngP p) ws=upX Z p ws:=by
 show UP (hf (jcj Z (ngP (ngP p)))) ws=_;rw[ng_ng];rfl
theorem ng_up (Z:Sht) (p:Pt) (ws:List Tri):upX Z (ngP p) ws=dnX Z p ws:=rfl
theorem ng_lo (p:Pt):loP (ngP p)=hiP p:=by
 funext x
 unfold loP hiP;rw[jpZ]
theorem jnV (p:Pt):hiP (ngP p)=loP p:=rfl
theorem ng_hr (p:Pt):hrP (ngP p)=hrP p:=by
 funext x
 unfold hrP;rw[jpZ,ng_up];exact decide_eq_decide.mpr and_comm
theorem J_ng:∀{T:Tr} {xs:List Dsc},J T xs->J T.ng xs
 | .nil,_,h=>h
 | .nd ..,_,⟨h1,h2,h3⟩=>⟨by rw[ng_hr];exact h1,by rw[ng_lo];exact J_ng h3,by rw[jnV];exact J_ng h2⟩
inductive Hung (q:Pt):Tr->Tr->Prop
 | leaf:Hung q .nil (.nd q [] .nil .nil)
 | lo {p:Pt} {h:List (Int × List Pt)} {b b' a:Tr}:Hung q b b'->Hung q (.nd p h b a) (.nd p h b' a)
 | hi {p:Pt} {h:List (Int × List Pt)} {b a a':Tr}:Hung q a a'->Hung q (.nd p h b a) (.nd p h b a')
theorem jmq {T T':Tr} (h:Hung q T T'):∀{xs:List Dsc},J T xs->J T' xs:=by
  induction h with
  | leaf =>
    intro xs h;have h:xs=[]:=h;subst h;exact⟨.nil,rfl,rfl⟩
  | lo _ ih=>exact fun ⟨h1,h2,h3⟩=>⟨h1,ih h2,h3⟩
  | hi _ ih=>exact fun ⟨h1,h2,h3⟩=>⟨h1,h2,ih h3⟩
theorem Hung.good {T T':Tr} {c:Nat} (hq:PlG q) (h:Hung q T T'):T.Good c->T'.Good c/\T'.ht<=T.ht+1:=by
  induction h with
  | leaf=>exact fun _=>⟨⟨hq,⟨(fun _ z=>nomatch z),xaO _⟩,trivial,trivial⟩,xag _⟩
  | @lo p h b b' a _ ih =>
    exact fun ⟨g1,g2,g3,g4⟩=>⟨⟨g1,g2,(ih g3).1,g4⟩,by
      have:=(ih g3).2;show max b'.ht a.ht+1<=max b.ht a.ht+1+1;omega⟩
  | @hi p h b a a' _ ih =>
    exact fun ⟨g1,g2,g3,g4⟩=>⟨⟨g1,g2,g3,(ih g4).1⟩,by
      have:=(ih g4).2;show max b.ht a'.ht+1<=max b.ht a.ht+1+1;omega⟩
theorem jdH {c:Nat}:∀{T:Tr},T.Good c->T.ow.Good c/\T.ow.ht=T.ht
  | .nil,_=>⟨trivial,rfl⟩
  | .nd p h b a, ⟨g1, ⟨g2, g3⟩, g4, g5⟩ => ⟨⟨g1, ⟨fun x hx => g2 x (List.mem_reverse.mp hx), by rw [xaN]; exact g3⟩, (jdH g4).1, (jdH g5).1⟩, by
    show max b.ow.ht a.ow.ht+1=max b.ht a.ht+1;rw[(jdH g4).2,(jdH g5).2]⟩
theorem jdI {c:Nat}:∀{T:Tr},T.Good c->T.ng.Good c/\T.ng.ht=T.ht
  | .nil,_=>⟨trivial,rfl⟩
  | .nd p h b a, ⟨g1, g2, g4, g5⟩ => ⟨⟨g1.neg, g2, (jdI g5).1, (jdI g4).1⟩, by
    show max a.ng.ht b.ng.ht+1=max b.ht a.ht+1;rw[(jdI g4).2,(jdI g5).2,Nat.max_comm]⟩
theorem jd1 {c:Nat} {T:Tr} {xs:List Dsc} (hp:PlG p) (g:T.Good c) (hk:∀x∈xs,SZ x.2.1/\VF x.2.2) (h:J T (xs.filterMap (hiP p))):∀y∈T.pcs,Abv p y.2:=fun y hy=>by
 obtain⟨z,hz,us,rfl,s⟩:=jj1 h g (fun z hz=>by
  obtain⟨x,hx,e⟩:=jgd hz;obtain⟨rfl,ne⟩:=jeW e;exact⟨(hk x hx).1,jh0 (hk x hx).1 hp (hk x hx).2 ne⟩) y hy
 obtain⟨x,hx,e'⟩:=jgd hz;obtain⟨rfl,ne⟩:=jeW e';have nn:=s.s (jcj x.2.1 p) (jpV (hk x hx).2.rg.hz);obtain⟨w,_,hw⟩:=jgG (show UP (hf (jcj x.2.1 p)) x.2.2≠[] from ne);exact jpW (hk x hx).1.hw s.r.rg.hz nn (jjT s.r.rg nn (w:=w) (show hf (jcj x.2.1 p) w≠0 by omega))
variable {ps qs l:List Pt}
theorem jmr (h1:Abv p ps) (h2:Abv (ngP p) ps):False:=by
 obtain⟨_,c,hc,h⟩:=h1;have:=h2.1 c hc;rw[jnU] at this;omega
theorem jp0 {c:Nat} {h:List (Int × List Pt)} {b a:Tr} {xs:List Dsc} (g:(Tr.nd p h b a).Good c) (hk:∀x∈xs,SZ x.2.1/\VF x.2.2) (h1:J (.nd p h b a) xs) (ne:b.pcs++a.pcs≠[]):¬J (.nd p h a b) xs:=fun h2=>by
 obtain⟨g1,_,g4,g5⟩:=g;obtain⟨_,b1,a1⟩:=h1;obtain⟨_,a2,b2⟩:=h2;obtain⟨y,hy⟩:=xbM _ ne;rcases xas.mp hy with hy | hy
 ·rw[<- jnV] at b1;exact jmr (jd1 g1 g4 hk b2 y hy) (jd1 g1.neg g4 hk b1 y hy)
 ·rw[<- jnV] at a2;exact jmr (jd1 g1 g5 hk a1 y hy) (jd1 g1.neg g5 hk a2 y hy)
theorem jp1 {h:List (Int × List Pt)} {b a:Tr} {xs:List Dsc} (h1:J (.nd p h b a) xs):(b.pcs≠[]->¬J (.nd p h .nil a) xs)/\(a.pcs≠[]->¬J (.nd p h b .nil) xs):=by
 obtain⟨_,h2,h3⟩:=h1;refine⟨fun n ⟨_,e,_⟩=>?_,fun n ⟨_,_,e⟩=>?_⟩
 ·have e:xs.filterMap (loP p)=[]:=e;rw[e] at h2;exact n (jjZ h2)
 ·have e:xs.filterMap (hiP p)=[]:=e;rw[e] at h3;exact n (jjZ h3)
def Tr.twin:Tr->Option Tr
  | .nil=>none
  | .nd p h b a => if 1 < h.length then some (.nd p (h.take 1 ++ h.take 1 ++ h.drop 2) b a) else match b.twin with
    | some b'=>some (.nd p h b' a)
    | none => match a.twin with
      | some a'=>some (.nd p h b a')
      | none=>none
theorem jj4:∀{T T':Tr} {xs:List Dsc},T.twin=some T'->(xs.map (·.1)).Nodup->¬J T' xs
  | .nil,_,_,e,_,_=>nomatch e
  | .nd p h b a, T', xs, e, nd, k => by
    unfold Tr.twin at e;split at e
    . rename_i l
      cases e;have k1:((xs.filter (hrP p)).map dPc).Perm (h.take 1++h.take 1++h.drop 2):=k.1;have n1:=((k1.map (·.1)).nodup_iff).mp (jlq nd);obtain⟨x,y,r,rfl⟩:∃x y r,h=x::y::r:=match h,l with
        | x::y::r,_=>⟨x,y,r,rfl⟩
      have n1:(x.1::x.1::r.map (·.1)).Nodup:=n1;exact (xa3.mp n1).1 (.head _)
    . split at e
      . rename_i e'
        cases e;exact jj4 e' (jlo nd) k.2.1
      . split at e
        . rename_i e'
          cases e;exact jj4 e' (jlp nd) k.2.2
        . cases e
def spl {α:Type} (f:α->List α):Int->List α->List α
 | _,[]=>[]
 | i,x::h=>(if i=0 then f x else [x])++spl f (i-1) h
theorem jfy {α:Type} (f:α->List α):∀{i:Int} (h:List α),i<0->spl f i h=h
  | _,[],_=>rfl
  | i, x :: h, l => by
    show (if i=0 then f x else [x])++spl f (i-1) h=_;rw[if_neg (by omega),jfy f h (by omega)];rfl
theorem jhC {f:Int × List Pt->List (Int × List Pt)}:∀{i:Nat} {h:List (Int × List Pt)},i<h.length->h.Perm (spl f i h)->∃x,h[i]?=some x/\[x].Perm (f x)
  | 0, x :: h, _, p => by
    have p:(x::h).Perm (f x++spl f (0-1) h):=p;rw[jfy f h (by omega)] at p;exact⟨x,rfl,(List.perm_append_right_iff h).mp (show ([x]++h).Perm (f x++h) from p)⟩
  | i + 1, x :: h, l, p => by
    have p:(x::h).Perm ((if ((i+1:Nat):Int)=0 then f x else [x])++spl f (((i+1:Nat):Int)-1) h):=p;rw[if_neg (by omega),show (((i+1:Nat):Int)-1)=(i:Nat) by omega] at p;exact jhC (i:=i) (h:=h) (by simpa using l) ((List.perm_cons x).mp p)
  | 0,[],l,_=>absurd l (by simp)
  | _+1,[],l,_=>absurd l (by simp)
def spo (f:Int × List Pt->List (Int × List Pt)):Int->Tr->Tr
 | _,.nil=>.nil
 | i,.nd p h b a=>.nd p (spl f i h) (spo f (i-h.length) b) (spo f (i-h.length-b.pcs.length) a)
theorem jnW {f:Int × List Pt->List (Int × List Pt)}:∀{T:Tr} {i:Nat} {xs:List Dsc},i<T.pcs.length->J T xs->J (spo f i T) xs->∃x,T.pcs[i]?=some x/\[x].Perm (f x)
  | .nil,i,_,l,_,_=>absurd l (xaK _)
  | .nd p h b a, i, xs, l, ⟨h1, h2, h3⟩, ⟨k1, k2, k3⟩ => by
    have l:i<(h++b.pcs++a.pcs).length:=l;rw[xad,xad] at l;show ∃x,(h++b.pcs++a.pcs)[i]?=some x/\_;by_cases c:i<h.length
    . obtain⟨x,hx,q⟩:=jhC c (h1.symm.trans k1)
      exact⟨x,by rw[xbD,xaD c];exact hx,q⟩
    . have k2:J (spo f ((i:Int)-h.length) b) (xs.filterMap (loP p)):=k2
      have k3:J (spo f ((i:Int)-h.length-b.pcs.length) a) (xs.filterMap (hiP p)):=k3;by_cases d:i<h.length+b.pcs.length
      . rw[show ((i:Int)-h.length)=((i-h.length:Nat):Int) by omega] at k2
        obtain⟨x,hx,q⟩:=jnW (i:=i-h.length) (by omega) h2 k2;refine⟨x,?_,q⟩;rw[xaD (by rw[xad];omega),xau (by omega)];exact hx
      . rw[show ((i:Int)-h.length-b.pcs.length)=((i-h.length-b.pcs.length:Nat):Int) by omega] at k3
        obtain⟨x,hx,q⟩:=jnW (i:=i-h.length-b.pcs.length) (by omega) h3 k3;refine⟨x,?_,q⟩;rw[xau (by rw[xad];omega),xad,Nat.sub_add_eq];exact hx
theorem jnX {l:Ln} (R:Rng us) (z:∀u∈us,hf l u=0):l.A=0/\l.B=0/\l.C=0:=by
 have k:∀w:Tri,hf l w=0:=fun w=>xal fun n=>by
  obtain⟨u,hu,h⟩:=jjT R (fun u hu=>by rw[z u hu];exact xbm _) n;rw[z u hu] at h;exact absurd h (by decide)
 have a:=k ⟨1,0,0⟩;have b:=k ⟨0,1,0⟩;have c:=k ⟨0,0,1⟩;unfold hf jaH at a b c;simp only at a b c;omega
theorem jhD (hZ:SZ Z) (R:Rng us) (z:∀u∈us,hf (jcj Z p) u=0):(p.x*Z.c.x+p.y*Z.c.y+p.z*Z.c.z=0)/\(p.x*Z.d.x+p.y*Z.d.y+p.z*Z.d.z=0)/\p.x*Z.s.x+p.y*Z.s.y+p.z*Z.s.z-p.w*Z.w=0:=by
 obtain⟨a,b,c⟩:=jnX R z;have hw:=hZ.hw;have w0:Z.w≠0:=by omega
 exact⟨(xax.mp a).resolve_left w0,(xax.mp b).resolve_left w0,c⟩
def jfz (p:Pt):Prop:=p.y=0->p.z=0->p.w=0->p.x=1\/p.x=-1
def qX:Pt:=⟨1,0,0,0⟩
def qY:Pt:=⟨0,1,0,0⟩
def jms (p:Pt):Pt:=if (p.x=1\/p.x=-1)/\p.y=0/\p.z=0/\p.w=0 then qY else qX
theorem jlr (hZ:SZ Z) (R:Rng us) (hp:jfz p) (z1:∀u∈us,hf (jcj Z p) u=0) (z2:∀u∈us,hf (jcj Z (jms p)) u=0):False:=by
 obtain⟨a1,a2,a3⟩:=jhD hZ R z1;obtain⟨b1,b2,b3⟩:=jhD hZ R z2;have nz:=hZ.nz;have hw:=hZ.hw;unfold jms at b1 b2 b3;by_cases c:(p.x=1\/p.x=-1)/\p.y=0/\p.z=0/\p.w=0
 ·rw[if_pos c] at b1 b2 b3;obtain⟨c1,c2,c3,c4⟩:=c;have e1:Z.c.y=0:=by simpa [qY] using b1
  have e2:Z.d.y=0:=by simpa [qY] using b2
  have e3:Z.c.x=0:=by
   rw[c2,c3] at a1;rcases c1 with h | h<;>rw[h] at a1<;>omega
  have e4:Z.d.x=0:=by
   rw[c2,c3] at a2;rcases c1 with h | h<;>rw[h] at a2<;>omega
  refine nz ⟨?_,?_,?_⟩<;>simp [Sht.u,e1,e2,e3,e4]
 ·rw[if_neg c] at b1 b2 b3;have e1:Z.c.x=0:=by simpa [qX] using b1
  have e2:Z.d.x=0:=by simpa [qX] using b2
  have e3:Z.s.x=0:=by simpa [qX] using b3
  have ux:Z.c.y*Z.d.z-Z.c.z*Z.d.y≠0:=fun z=>nz ⟨z,by simp [Sht.u,e1,e2],by simp [Sht.u,e1,e2]⟩;rw[e1] at a1;rw[e2] at a2;rw[e3] at a3;have y0:p.y*(Z.c.y*Z.d.z-Z.c.z*Z.d.y)=0:=by grind
  have z0:p.z*(Z.c.y*Z.d.z-Z.c.z*Z.d.y)=0:=by grind
  have y0:=(xax.mp y0).resolve_right ux;have z0:=(xax.mp z0).resolve_right ux;rw[y0,z0] at a3;have w0:p.w*Z.w=0:=by simpa using a3
  have w0:=(xax.mp w0).resolve_right (by omega);exact c ⟨hp y0 z0 w0,y0,z0,w0⟩
theorem jnY {h:List (Int × List Pt)} {b a b' a':Tr} {xs:List Dsc} (hp:jfz p) (nd:(xs.map (·.1)).Nodup) (hk:∀x∈xs,SZ x.2.1/\VF x.2.2) (ne:h≠[]) (h1:J (.nd p h b a) xs):¬J (.nd (jms p) h b' a') xs:=fun h2=>by
 obtain⟨y,hy⟩:=xbM _ ne;obtain⟨x,hx,e⟩:=xao.mp (h1.1.mem_iff.mpr hy);obtain⟨x',hx',e'⟩:=xao.mp (h2.1.mem_iff.mpr hy);obtain⟨m,c⟩:=xa2.mp hx;obtain⟨m',c'⟩:=xa2.mp hx';have en:x.1=x'.1:=congrArg (fun y:Int × List Pt=>y.1) (e.trans e'.symm);obtain⟨i,hi,ei⟩:=xbo.mp m;obtain⟨j,hj,ej⟩:=xbo.mp m';have ij:i=j:=(List.getElem_inj nd (h₀:=by simpa using hi) (h₁:=by simpa using hj)).mp (by rw[List.getElem_map,List.getElem_map,ei,ej];exact en);subst ij;rw[ei] at ej;subst ej;obtain⟨z,F⟩:=hk x m;exact jlr z F.rg hp (jj2 F (of_decide_eq_true c)) (jj2 F (of_decide_eq_true c'))
variable {a g c d x y A B way:Int}
theorem jj5 {b z w:Int} (h:¬(a=0/\b=0/\c=0)) (e:pln [a,b,c,d]=[x,y,z,w]):jfz ⟨x,y,z,w⟩:=fun hy hz hw=>by
 obtain⟨x',y',z',w',g,e',g0,i1,i2,i3,i4⟩:=jjQ (d:=d) h;rw[e] at e';obtain⟨rfl,rfl,rfl,rfl⟩:x=x'/\y=y'/\z=z'/\w=w':=by simpa using e'
 change y=0 at hy;change z=0 at hz;change w=0 at hw;subst hy;subst hz;subst hw;rw[xbk] at i2 i3 i4;subst i2;subst i3;subst i4;have a0:a≠0:=fun z=>h ⟨z,rfl,rfl⟩;have eg:gl [a,0,0,0]=(a.natAbs:Int):=by simp [G_nil,jeI]
 have el:low [a,0,0,0]=[a / gl [a,0,0,0],0 / gl [a,0,0,0],0 / gl [a,0,0,0],0 / gl [a,0,0,0]]:=rfl;have e2:a / gl [a,0,0,0]=1\/a / gl [a,0,0,0]=-1:=by
  rw[eg];rcases Int.natAbs_eq a with h | h
  ·left
   rw[<- h];exact Int.ediv_self a0
  ·right
   have e3:(a.natAbs:Int)=-a:=by omega
   rw[e3,xb0,Int.ediv_self a0]
 unfold pln at e;rw[el] at e;generalize a / gl [a,0,0,0]=q at e e2;generalize 0 / gl [a,0,0,0]=q0 at e;have e:(if plb q q0 q0=true then [q,q0,q0,q0] else [-q,-q0,-q0,-q0])=[x,0,0,0]:=e;show x=1\/x=-1;split at e
 ·have:q=x:=(List.cons.inj e).1;omega
 ·have:-q=x:=(List.cons.inj e).1;omega
theorem jgf {a b c P:Pt} (na:¬jbB a b c) (e:pln (rgh a b c)=[P.x,P.y,P.z,P.w]):jfz P:=jj5 (d:=jaC 3 a b c) (fun ⟨z0,z1,z2⟩=>na ⟨z0,by omega,z2⟩) e
theorem DOk.px {x:Dsc} (h:DOk x):jfz (plP (rgs x.2.1 x.2.2)):=jgf h.na h.pl.1
def Tr.RP:Tr->Prop
 | .nil=>True
 | .nd p _ _ _=>jfz p
theorem jp2 {k:Int} {o:Pt} {T:Tr} (h:T.RP) (ho:jfz o):(grw Z k o T ws).RP:=by
  cases T with
  | nil=>exact ho
  | nd p h' b a =>
    by_cases e:dnX Z p ws=[]/\upX Z p ws=[]
    . rw[jft e]
      exact h
    . rw[jfu e]
      exact h
inductive spBarei (vs:List V) (H:Hp) (Q:VK):Prop
 | mk (R L:Addr) (rs:List Addr) (zs:List (Sht × Nat)) (_:vs=[.ref R,.ref L]) (_:H R=some (.lst (rs.map V.ref))) (_:All2 (RwAt 8 H) rs zs) (_:R≠L) (_:Sta H L) (_:rs.length<=3) (_:∀(v:V) (H':Hp) (T:Tr),SameB L H H'->Sta H' L->TrAt H' v T->T.Good 0->T.pcs=[]->T.ht<=rs.length->T.RP->Q v H')
def jmt:Sp:=fun vs H Q _=>spBarei vs H Q
def bE:L2.St->Hp->L2.St->Hp->Prop:=fun σ H σ' H'=>∃(L p p':Addr) (o0 o2 o3:Option V),σ=[o0,some (.ref L),o2,o3,some (.ref p)]/\σ'=[o0,some (.ref L),o2,o3,some (.ref p')]/\(∃P,Is4 H' p' P/\PlG P/\jfz P)/\SameB L H H'/\Sta H' L
theorem jnZ (T:Tx K mg t1 t2) (F:At K mg "_law_bare" jbK ["raws","state"] []) (dk:jao P w K mg base CX0 4 "_law_corners" ["raw"] [] jhv) (dH:jao P w K mg base CX0 2 "_law_plane" ["corners"] [] jnO) (da:jao P w K mg base CX0 1 "_law_next" ["state","many"] [] jju):jao P w K mg base CX0 5 "_law_bare" ["raws","state"] [] jmt:=by
 refine F.ok jdR (by walk_at "ar") (fun f cdv A outer s H vs Q E hr h=>?_);obtain⟨R,L,rs,zs,rfl,eR,aR,RL,b0,l3,q⟩:=h;have S:=jdR;refine⟨_,(jaf (jat (i:=2) S.nd rfl (Or.inl rfl) jaO)
  (jaf (jbp PassesOwn.never rfl (jbk (pv 0)) (jan (i:=3) S.nd rfl (Or.inl rfl))
  (jaf (jat (i:=4) S.nd rfl (Or.inl rfl) (jag dH hr.m rfl jav (jaa (jag dk hr.m rfl jav (jaa (pv 3) jad jae)) jad jaF)))
  (jkG bE (jaL (jaq jdr (jag da hr.m rfl jav (jaa (pv 1) (jaa jab jad jaj) jae)) jab (jax _))
  (jai (jat (i:=4) S.nd rfl (Or.inl rfl) (jaU jaZ rfl T.m_tuple boot_tuple (jaa (jbb rfl (N':=["number"]) (ix:=[]) ⟨rfl,rfl,by decide +kernel,by decide +kernel,by decide +kernel,(show ∀y:Str × NameKind,y∈_->y.2=NameKind.free->(jah jbK).names.lookup y.1=some .cell\/(jah jbK).names.lookup y.1=some .free from by decide +kernel),.nil⟩ (jdJ (pv 4)) (fun _ _ _ _=>jan (i:=0) (show (["number"]:List Str).Nodup from by decide +kernel) rfl (Or.inl rfl)) (fun _ _ _ _=>jbd) (fun _ _ _ _=>(jau ja6 jab (pv 0)))) jad jcS))))
  jaw)
  (jai (jat (i:=2) S.nd rfl (Or.inl rfl) (jak ix_list (jaM (jaa (jaB (jaa (pv 4) (jaa (jaB jad) (jaa (pv 2) (jaa jaO jad jaj) jae) jaE) jae)) (jaa (jaB (jaa (pv 4) (jaa (jaB jad) (jaa jaO (jaa (pv 2) jad jae) jaj) jaE) jae)) (jaa (jaB (jaa (pv 4) (jaa (jaB jad) (jaa (pv 2) (jaa (pv 2) jad jae) jae) jaE) jae)) jad jaE) jaE) jaE)) (jag da hr.m rfl jav (jaa (pv 1) (jaa jab jad jaj) jae))))))))
  (jai (jas (pv 2))))),?_⟩
 have kR:SqL K H R (rs.map V.ref):=SqL.of eR;walk_at "rf";refine⟨⟨_,kR⟩,jbw (K:=K) (a:=R) (xs:=rs.map V.ref) (fun i σ Hh=>∃(o3 o4:Option V) (v:V) (T:Tr),σ=[some (.ref R),some (.ref L),some v,o3,o4]/\SameB L H Hh/\Sta Hh L/\TrAt Hh v T/\T.Good 0/\T.pcs=[]/\T.ht<=i/\T.RP) ⟨_,_,_,.nil,rfl,SameB.refl _ _,b0,.nil,trivial,rfl,xag _,trivial⟩ (fun i σ Hh _ ⟨_,_,_,_,_,sB,_⟩=>SqL.of (sB _ _ RL eR)) ?_ ?_⟩
 ·rintro i x σ Hh hi ⟨o3,o4,v,Tt,rfl,sB,bh,tT,gT,pT,hT,rT⟩;rw[xae] at hi;obtain⟨r,hr',rfl⟩:=xaS.mp hi;obtain⟨z,hz,rz⟩:=aR.getA hr';have rz':=rz.keep (b0.t sB);have h6:z.2<6:=by
   obtain⟨⟨_,_,_,_,_,_,_,h⟩,_⟩:=rz';exact h
  walk_at "rf";refine⟨r,8,z,rfl,rz',by decide,fun l H1 ws nl s1 hc1=>?_⟩;have n3:=(jgI z.2 h6).1;have na:=jgE rz'.2.b.w1 rz'.2.nz (jfv h6) (by have:=(jgI z.2 h6).2;omega) (RR.refl ((shp z.2).map (spt z.1)));have cnA:∀i,i<3->Cn (pt ((shp z.2).map (spt z.1)) i):=fun i hi=>by
   obtain⟨u,hu,e⟩:=xao.mp (jba (l:=(shp z.2).map (spt z.1)) (i:=i) (by rw[xaa];omega));rw[<- e];exact jjI rz'.2 (by decide) h6 u hu
  obtain⟨P,eP,gP⟩:=jgH (cnA 0 (by decide)) (cnA 1 (by decide)) (cnA 2 (by decide));have pP:jfz P:=jgf na eP;refine⟨l,ws,_,rfl,.inl hc1.1,hc1.2,by rw[xaa];exact n3,fun p hp=>?_,na,fun t H2 x0 y0 z0 w0 s2 et0 _ ep0=>?_⟩
  ·obtain⟨u,hu,rfl⟩:=xao.mp hp;exact jpO (jjI rz'.2 (by decide) h6 u hu)
  rw[eP] at ep0;obtain⟨rfl,rfl,rfl,rfl⟩:x0=P.x/\y0=P.y/\z0=P.z/\w0=P.w:=by simpa using ep0
  have hP:Is4 H2 t P:=⟨et0,gP.sm⟩;have s12:=s1.trans s2;unfold L2.joJ;walk_at "rf";refine⟨?_,?_⟩
  ·refine⟨L,2,rfl,bh.keep s12,by decide,by decide,fun H3 d s3 b3 d0 d2=>⟨rfl,?_⟩⟩;have hP3:Is4 H3 t P:=⟨s3 _ _ ((bh.keep s12).tup hP.1) hP.1,hP.2⟩;refine jbP (fun _=>?_) fun _=>⟨L,t,t,_,_,_,rfl,rfl,⟨P,hP3,gP,pP⟩,s3,b3⟩;refine⟨⟨_,hP3.sq⟩,fun acc hacc=>jmQ (fun v=>match v with | .int i=>.int (0-i) | v=>v) (by show 4<1000;decide) hacc hP3.sq (fun z H4 R hz s4 hR=>?_) fun H4 s4 e4=>⟨_,.inl ⟨SqL.of e4,fun g hg=>?_⟩⟩⟩
   ·obtain⟨i',rfl⟩:∃i',z=V.int i':=by
     simp only[xaG,xbH,or_false] at hz;rcases hz with rfl | rfl | rfl | rfl<;>exact⟨_,rfl⟩
    walk_at "rf";exact hR _ (Same.refl _)
   ·have j4:=Same.new hg (.tup [.int (0-P.x),.int (0-P.y),.int (0-P.z),.int (0-P.w)]);have G:PlG ⟨0-P.x,0-P.y,0-P.z,0-P.w⟩:=by
     have z:=gP.neg;rw[<- xb1,<- xb1,<- xb1,<- xb1] at z;exact z
    exact⟨L,t,g,_,_,_,rfl,rfl,⟨_,⟨jac,G.sm⟩,G,fun a b c=>by
     have a:0-P.y=0:=a;have b:0-P.z=0:=b;have c:0-P.w=0:=c;have:=pP (by omega) (by omega) (by omega);show 0-P.x=1\/0-P.x=-1;omega⟩,s3.trans (s4.trans j4).b,(b3.keep s4).keep j4⟩
  rintro σ3 H3 ⟨L',p,p',o0,o2,o3',e1,rfl,⟨P',hP',gP',pP'⟩,s3,b3⟩;cases e1;have t3:=(tT.keep s12.t).keep ((bh.keep s12).t s3);walk_at "rf";refine⟨by decide,fun p1 h1=>⟨by decide,fun q1 h2=>⟨by decide,fun p2 h3=>⟨by decide,fun q2 h4=>⟨by decide,fun p3 h5=>⟨by decide,fun q3 h6'=>⟨by decide,fun p7 h7=>?_⟩⟩⟩⟩⟩⟩⟩;have j1:=Same.new h1 (.tup []);have j2:=Same.new h2 (.tup [.ref p',.ref p1,v,.non]);have j3:=Same.new h3 (.tup []);have j4:=Same.new h4 (.tup [.ref p',.ref p2,.non,v]);have j5:=Same.new h5 (.tup []);have j6:=Same.new h6' (.tup [.ref p',.ref p3,v,v]);have j7:=Same.new h7 (.lst [.ref q1,.ref q2,.ref q3]);have j37:=j3.trans (j4.trans (j5.trans (j6.trans j7)));have j57:=j5.trans (j6.trans j7);have J:=j1.trans (j2.trans j37);have f1:=j37 _ _ (j2 _ _ (show upd H3 p1 (.tup []) p1=some (.tup []) from jac));have f2:=j37 _ _ (show upd (upd H3 p1 (.tup [])) q1 (.tup [.ref p',.ref p1,v,.non]) q1=some (.tup [.ref p',.ref p1,v,.non]) from jac);have f3:=j57 _ _ (j4 _ _ (show upd (upd (upd H3 p1 (.tup [])) q1 (.tup [.ref p',.ref p1,v,.non])) p2 (.tup []) p2=some (.tup []) from jac));have f4:=j57 _ _ (show upd (upd (upd (upd H3 p1 (.tup [])) q1 (.tup [.ref p',.ref p1,v,.non])) p2 (.tup [])) q2 (.tup [.ref p',.ref p2,.non,v]) q2=some (.tup [.ref p',.ref p2,.non,v]) from jac);have f5:=j7 _ _ (j6 _ _ (show upd (upd (upd (upd (upd H3 p1 (.tup [])) q1 (.tup [.ref p',.ref p1,v,.non])) p2 (.tup [])) q2 (.tup [.ref p',.ref p2,.non,v])) p3 (.tup []) p3=some (.tup []) from jac));have f6:=j7 _ _ (show upd (upd (upd (upd (upd (upd H3 p1 (.tup [])) q1 (.tup [.ref p',.ref p1,v,.non])) p2 (.tup [])) q2 (.tup [.ref p',.ref p2,.non,v])) p3 (.tup [])) q3 (.tup [.ref p',.ref p3,v,v]) q3=some (.tup [.ref p',.ref p3,v,v]) from jac);have f7:upd (upd (upd (upd (upd (upd (upd H3 p1 (.tup [])) q1 (.tup [.ref p',.ref p1,v,.non])) p2 (.tup [])) q2 (.tup [.ref p',.ref p2,.non,v])) p3 (.tup [])) q3 (.tup [.ref p',.ref p3,v,v])) p7 (.lst [.ref q1,.ref q2,.ref q3]) p7=some (.lst [.ref q1,.ref q2,.ref q3]):=jac;generalize upd (upd (upd (upd (upd (upd (upd H3 p1 (.tup [])) q1 (.tup [.ref p',.ref p1,v,.non])) p2 (.tup [])) q2 (.tup [.ref p',.ref p2,.non,v])) p3 (.tup [])) q3 (.tup [.ref p',.ref p3,v,v])) p7 (.lst [.ref q1,.ref q2,.ref q3])=H9 at J f1 f2 f3 f4 f5 f6 f7 |-
  clear j1 j2 j3 j4 j5 j6 j7 j37 j57 h1 h2 h3 h4 h5 h6' h7;have b9:=b3.keep J;refine⟨L,3,rfl,b9,by decide,by decide,fun H5 d s5 b5 d0 d3=>?_⟩;have tt:=b9.t s5;have e7:=s5 _ _ (b9.lst (xs:=[q1,q2,q3]) f7) f7;have sAll:SameB L H H5:=sB.trans (s12.b.trans (s3.trans (J.b.trans s5)));have hP5:Is4 H5 p' P':=⟨tt _ _ (J _ _ hP'.1),hP'.2⟩;have t5:=(t3.keep J.t).keep tt;have g0:(∀x∈([]:List (Int × List Pt)),jjx x.2)/\([]:List (Int × List Pt)).length<=0:=⟨fun _ z=>(nomatch z),xag _⟩;have:d=0\/d=1\/d=2:=by omega
  rcases this with rfl | rfl | rfl
  ·exact ixL (SqL.of e7) rfl ⟨sAll,b5,.nd P' [] Tt .nil,.nd (rs:=[]) (tt _ _ f2) hP5 (tt _ _ f1) .nil t5 .nil,⟨gP',g0,gT,trivial⟩,by show []++Tt.pcs++[]=[];rw[pT];rfl,by show max Tt.ht 0+1<=_;omega,pP'⟩
  ·exact ixL (SqL.of e7) rfl ⟨sAll,b5,.nd P' [] .nil Tt,.nd (rs:=[]) (tt _ _ f4) hP5 (tt _ _ f3) .nil .nil t5,⟨gP',g0,trivial,gT⟩,by show []++[]++Tt.pcs=[];rw[pT];rfl,by show max 0 Tt.ht+1<=_;omega,pP'⟩
  ·exact ixL (SqL.of e7) rfl ⟨sAll,b5,.nd P' [] Tt Tt,.nd (rs:=[]) (tt _ _ f6) hP5 (tt _ _ f5) .nil t5 t5,⟨gP',g0,gT,gT⟩,by show []++Tt.pcs++Tt.pcs=[];rw[pT];rfl,by show max Tt.ht Tt.ht+1<=_;omega,pP'⟩
 ·rintro σ Hh ⟨o3,o4,v,Tt,rfl,sB,bh,tT,gT,pT,hT,rT⟩;rw[xaa] at hT;exact⟨_,rfl,q v Hh Tt sB bh tT gT pT hT rT⟩
def Tie (rs:List Addr) (h:List (Int × List Pt)):Prop:=∃A:Int->Addr,All2 (fun r x=>r=A x.1) rs h
theorem jgg:∀{rs:List Addr} {h:List (Int × List Pt)},rs.length=h.length->(h.map (·.1)).Nodup->Tie rs h
  | [],[],_,_=>⟨fun _=>0,.nil⟩
  | [],_::_,l,_=>by cases l
  | _::_,[],l,_=>by cases l
  | r :: rs, x :: h, l, nd => by
    rw[xaH,xa3] at nd;obtain⟨A,hA⟩:=jgg (rs:=rs) (h:=h) (by simpa using l) nd.2;refine⟨fun k=>if k=x.1 then r else A k,.cons (if_pos rfl).symm (jev hA.len fun i a ha=>?_)⟩;obtain⟨y,hy,e⟩:=hA.getA ha;refine⟨y,hy,?_⟩;show a=if y.1=x.1 then r else A y.1;rw[if_neg (fun z=>nd.1 (by rw[<- z];exact xa8 (xaC hy)))];exact e
theorem Tie.same {rs:List Addr} {h:List (Int × List Pt)} (t:Tie rs h):∀i j,i<(h.map (·.1)).length->j<(h.map (·.1)).length->(h.map (·.1)).getD i 0=(h.map (·.1)).getD j 0->rs.getD i 0=rs.getD j 0:=fun i j hi hj e=>by
 obtain⟨A,hA⟩:=t;rw[xaa] at hi hj;have g:∀k (hk:k<h.length),(h.map (·.1)).getD k 0=h[k].1:=fun k hk=>by
  rw[xab,xae,xac hk];rfl
 have f:∀k (hk:k<h.length),rs.getD k 0=A h[k].1:=fun k hk=>by
  obtain⟨r,hr,e⟩:=hA.get (xac hk);rw[xab,hr,<- e];rfl
 rw[g i hi,g j hj] at e;rw[f i hi,f j hj,e]
inductive TrW (H:Hp):V->Tr->Prop
 | nil:TrW H .non .nil
 | nd {t g h:Addr} {rs:List Addr} {vb va:V} {p:Pt} {here:List (Int × List Pt)} {b a:Tr}:H t=some (.tup [.ref g,.ref h,vb,va])->Is4 H g p->H h=some (.tup (rs.map V.ref))->All2 (PcAt H) rs here->Tie rs here->TrW H vb b->TrW H va a->TrW H (.ref t) (.nd p here b a)
variable {H H' H1 Hh:Hp}
theorem TrW.keep {v:V} {T:Tr} (h:TrW H v T) (s:SameT H H'):TrW H' v T:=by
 induction h with
 | nil=>exact .nil
 | nd h1 h2 h3 h4 h5 _ _ i1 i2=>exact .nd (s _ _ h1) ⟨s _ _ h2.1,h2.2⟩ (s _ _ h3) (h4.mono fun _ _ k=>k.keep s) h5 i1 i2
theorem jdn {v:V} {T:Tr} (h:TrAt H v T):∀{xs:List Dsc},J T xs->(xs.map (·.1)).Nodup->TrW H v T:=by
 induction h with
 | nil=>exact fun _ _=>.nil
 | nd h1 h2 h3 h4 _ _ i1 i2=>exact fun ⟨j1,j2,j3⟩ nd=>.nd h1 h2 h3 h4 (jgg h4.len (((j1.map (·.1)).nodup_iff).mp (jlq nd))) (i1 j2 (jlo nd)) (i2 j3 (jlp nd))
structure Sp3 (H Hh:Hp) (La Lb Lc:Addr) (y0 y1 y2:List (Int × List Pt)):Prop where
 s:Same H Hh
 e0:∃r0:List Addr,Hh La=some (.lst (r0.map V.ref))/\All2 (PcAt Hh) r0 y0
 e1:∃r1:List Addr,Hh Lb=some (.lst (r1.map V.ref))/\All2 (PcAt Hh) r1 y1
 e2:∃r2:List Addr,Hh Lc=some (.lst (r2.map V.ref))/\All2 (PcAt Hh) r2 y2
variable {r L sd S M La Lb Lc D:Addr}
variable {y0 y1 y2:List (Int × List Pt)}
theorem Sp3.keep (h:Sp3 H Hh La Lb Lc y0 y1 y2) (s:Same Hh H'):Sp3 H H' La Lb Lc y0 y1 y2:=by
 obtain⟨s0,⟨r0,a0,b0⟩,⟨r1,a1,b1⟩,r2,a2,b2⟩:=h;exact⟨s0.trans s,⟨r0,s _ _ a0,b0.keepP s.t⟩,⟨r1,s _ _ a1,b1.keepP s.t⟩,r2,s _ _ a2,b2.keepP s.t⟩
theorem Sp3.rot (h:Sp3 H Hh La Lb Lc y0 y1 y2):Sp3 H Hh Lb Lc La y1 y2 y0:=⟨h.s,h.e1,h.e2,h.e0⟩
theorem Sp3.app (h:Sp3 H Hh La Lb Lc y0 y1 y2) (n0:H La=none) (d1:Lb≠La) (d2:Lc≠La):∃r0:List Addr,Hh La=some (.lst (r0.map V.ref))/\r0.length=y0.length/\∀(r:Addr) (y:Int × List Pt),PcAt Hh r y->Sp3 H (upd Hh La (.lst (r0.map V.ref++[.ref r]))) La Lb Lc (y0++[y]) y1 y2:=by
 obtain⟨s0,⟨r0,a0,b0⟩,⟨r1,a1,b1⟩,r2,a2,b2⟩:=h;refine⟨r0,a0,b0.len,fun r y hr=>?_⟩;have tu:=SameT.upd (ys:=r0.map V.ref++[V.ref r]) a0;exact⟨Same.keepN s0 n0 _,⟨r0++[r],by rw[jac,xaf];rfl,(b0.keepP tu).app (.cons (hr.keep tu) .nil)⟩,⟨r1,by rw[jaz d1];exact a1,b1.keepP tu⟩,r2,by rw[jaz d2];exact a2,b2.keepP tu⟩
variable {Q:VK}
theorem jey {J:Hp} {b:Addr} {k:Int} (I:Sp3 H J La Lb Lc y0 y1 y2) (n0:H La=none) (d1:Lb≠La) (d2:Lc≠La) (lt:y0.length<=5) (bo:BoAt J b ps) (q:∀J',Sp3 H J' La Lb Lc (y0++[(k,ps)]) y1 y2->SameT J J'->Q .non J'):2<=sizeLine/\∀p2:Addr,J p2=none->jgp (V.ref La) [V.ref p2] (upd J p2 (.tup [.int k,.ref b])) Q:=by
 refine⟨by decide,fun p2 hp2=>?_⟩;have j2:=Same.new hp2 (.tup [.int k,.ref b]);have I3:=I.keep j2;obtain⟨r0,e0,l0,fin⟩:=I3.app n0 d1 d2;have tu:=SameT.upd (ys:=r0.map V.ref++[V.ref p2]) e0;exact⟨La,_,_,rfl,rfl,e0,jaD (by rw[xaa];omega),q _ (fin p2 (k,ps) ⟨b,jac,bo.keep j2.t⟩) (j2.t.trans tu)⟩
theorem Sp3.back (h:Sp3 H Hh La Lb Lc y0 y1 y2):Sp3 H Hh Lc La Lb y2 y0 y1:=⟨h.s,h.e2,h.e0,h.e1⟩
inductive spSpli (vs:List V) (H:Hp) (Q:VK):Prop
 | mk (l g:Addr) (rs:List Addr) (xs:List Dsc) (p:Pt) (n:Nat) (_:vs=[.ref l,.ref g]) (_:H l=some (.lst (rs.map V.ref))) (_:All2 (PcAt H) rs (xs.map dPc)) (_:(∀x∈xs,PD n x)) (_:n<=15) (_:Is4 H g p) (_:PlG p) (_:xs.length<=5) (_:∀(t La Lb Lc:Addr) (H':Hp),H' t=some (.tup [.ref La,.ref Lb,.ref Lc])->Sp3 H H' La Lb Lc ((xs.filter (hrP p)).map dPc) ((xs.filterMap (loP p)).map dPc) ((xs.filterMap (hiP p)).map dPc)->Q (.ref t) H')
def jls:Sp:=fun vs H Q _=>spSpli vs H Q
theorem jp3 (T:Tx K mg t1 t2) (F:At K mg "split_by" jdB ["pieces","plane"] []) (dg:jao P w K mg base CX0 6 "cut_by" ["board","plane"] [] jeQ):jao P w K mg base CX0 7 "split_by" ["pieces","plane"] [] jls:=by
 refine F.ok jep (by walk_at "ar") (fun f cdv A outer s H vs Q E hr h=>?_);obtain⟨l,g,rs,xs,p,n,rfl,el,al,hk,n15,hg,gp,l5,q⟩:=h;have S:=jep;refine⟨_,(jaf (jat (i:=2) S.nd rfl (Or.inl rfl) (jaM jad))
  (jaf (jat (i:=3) S.nd rfl (Or.inl rfl) (jaM jad))
  (jaf (jat (i:=4) S.nd rfl (Or.inl rfl) (jaM jad))
  (jaf (jbp PassesOwn.never rfl (jbk (pv 0)) (jck rfl (jay (jan (i:=5) S.nd rfl (Or.inl rfl)) (jay (jan (i:=6) S.nd rfl (Or.inl rfl)) jbj)))
  (jaf (jat (i:=7) S.nd rfl (Or.inl rfl) (jag dg hr.m rfl jav (jaa (pv 6) (jaa (pv 1) jad jae) jae)))
  (jaf (jaL (jaq (jiu (jgi hr)) (pv 7) (jaB (jaa jaO (jaa jaO jad jaj) jaj)) (jax _))
  (jai (jbc (jcq PySem.F.plainAttrs_list PySem.F.slot_list_append PySem.F.type_list_append jaR (pv 2) (jaa (jaB (jaa (pv 5) (jaa (pv 6) jad jae) jae)) jad jaE))))
  jaw)
  (jaf (jaL (jaq jd3 (jak jam (pv 7) jab) jaO (jax _))
  (jai (jbc (jcq PySem.F.plainAttrs_list PySem.F.slot_list_append PySem.F.type_list_append jaR (pv 3) (jaa (jaB (jaa (pv 5) (jaa (jak jam (pv 7) jab) jad jap) jae)) jad jaE))))
  jaw)
  (jai (jaL (jaq jd3 (jak jam (pv 7) jab) jaO (jax _))
  (jai (jbc (jcq PySem.F.plainAttrs_list PySem.F.slot_list_append PySem.F.type_list_append jaR (pv 4) (jaa (jaB (jaa (pv 5) (jaa (jak jam (pv 7) jab) jad jap) jae)) jad jaE))))
  jaw))))))
  (jai (jas (jaB (jaa (pv 2) (jaa (pv 3) (jaa (pv 4) jad jae) jae) jae)))))))),?_⟩
 walk_at "rf";refine⟨by decide,fun La h0=>⟨by decide,fun Lb h1=>⟨by decide,fun Lc h2=>?_⟩⟩⟩;have j0:=Same.new h0 (.lst []);have j1:=Same.new h1 (.lst []);have j2:=Same.new h2 (.lst []);have d01:La≠Lb:=jar (show upd H La (.lst []) La=some _ from jac) h1;have d02:La≠Lc:=jar (j1 _ _ (show upd H La (.lst []) La=some _ from jac)) h2;have d12:Lb≠Lc:=jar (show upd (upd H La (.lst [])) Lb (.lst []) Lb=some _ from jac) h2;have z1:=j0.noneN h1;have z2:=j0.noneN (j1.noneN h2);have I0:Sp3 H (upd (upd (upd H La (.lst [])) Lb (.lst [])) Lc (.lst [])) La Lb Lc [] [] []:=⟨j0.trans (j1.trans j2),⟨[],j2 _ _ (j1 _ _ jac),.nil⟩,⟨[],j2 _ _ jac,.nil⟩,[],jac,.nil⟩;generalize upd (upd (upd H La (.lst [])) Lb (.lst [])) Lc (.lst [])=H0 at I0 |-
 have ll:=al.len;rw[xaa] at ll;refine⟨⟨_,I0.s.seq (SqL.of el)⟩,jbw (K:=K) (a:=l) (xs:=rs.map V.ref) (fun i σ Hh=>∃o5 o6 o7:Option V,σ=[some (.ref l),some (.ref g),some (.ref La),some (.ref Lb),some (.ref Lc),o5,o6,o7]/\Sp3 H Hh La Lb Lc (((xs.take i).filter (hrP p)).map dPc) (((xs.take i).filterMap (loP p)).map dPc) (((xs.take i).filterMap (hiP p)).map dPc)) ⟨_,_,_,rfl,I0⟩ (fun i σ Hh _ ⟨_,_,_,_,sx⟩=>sx.s.seq (SqL.of el)) ?_ ?_⟩
 ·rintro i z σ Hh hi ⟨o5,o6,o7,rfl,I⟩;rw[xae] at hi;obtain⟨r,hr',rfl⟩:=xaS.mp hi;obtain⟨x',hx,b,e1,bo⟩:=al.getA hr';rw[xae] at hx;obtain⟨x,hy,rfl⟩:=xaS.mp hx;have xm:=xaC hy;have il:=(xaj.mp hy).1;have Dx:=hk x xm;have O:=Dx.z.ln _ gp;have hF:=Dx.f;have lx:=Dx.l;walk_at "rf";refine⟨_,SqT.of (I.s _ _ e1),rfl,_,_,rfl,_,_,rfl,rfl,?_⟩;refine jhs hF Dx.z.hw Dx.z.nz (by omega) (fun u hu=>Dx.z.sp u (hF.bi.vb u hu)) O.1 O.2.1 O.2.2.1 O.2.2.2 (show BdAt Hh x.2.1 b x.2.2 from bo.keep I.s.t) (hg.keep I.s) fun t' H1 f0 f1 s1 et P0 P1=>?_;change PtAt H1 x.2.1 f0 (dnX x.2.1 p x.2.2) at P0;change PtAt H1 x.2.1 f1 (upX x.2.1 p x.2.2) at P1;have I1:=I.keep s1;refine⟨by decide,fun p1 hp1=>?_⟩;have j1:=Same.new hp1 (.tup [.non,.non]);have I2:=I1.keep j1;have Q0:=P0.keep j1.t;have Q1:=P1.keep j1.t;have et2:=j1 _ _ et;refine jjy et2 Q0 Q1 jac ⟨_,rfl,?_⟩;generalize upd H1 p1 (.tup [.non,.non])=J at I2 Q0 Q1 et2 |-
  have tk:xs.take (i+1)=xs.take i++[x]:=by rw[xaZ,hy];rfl
  have lt:(xs.take i).length<=5:=by rw[xah];omega
  have l0:(((xs.take i).filter (hrP p)).map dPc).length<=5:=by
   rw[xaa];exact xav (xbv _ _) lt
  have l1:(((xs.take i).filterMap (loP p)).map dPc).length<=5:=by
   rw[xaa];exact xav (xbR _ _) lt
  have l2:(((xs.take i).filterMap (hiP p)).map dPc).length<=5:=by
   rw[xaa];exact xav (xbR _ _) lt
  rw[tk,xaq,xa7,xa7,xaf,xaf,xaf];generalize ((xs.take i).filter (hrP p)).map dPc=y0 at I2 l0 |-
  generalize ((xs.take i).filterMap (loP p)).map dPc=y1 at I2 l1 |-
  generalize ((xs.take i).filterMap (hiP p)).map dPc=y2 at I2 l2 |-
  rcases Q0 with ⟨c0,rfl⟩ | ⟨c0,b0,rfl,rs0,eb0,es0⟩
  ·have A1:([x].filterMap (loP p)).map dPc=[]:=by rw[xay,show loP p x=none from if_pos c0];rfl
   rcases Q1 with ⟨c1,rfl⟩ | ⟨c1,b1,rfl,rs1,eb1,es1⟩
   ·have A0:([x].filter (hrP p)).map dPc=[dPc x]:=by rw[xaI,if_pos (show hrP p x=true from decide_eq_true ⟨c0,c1⟩)];rfl
    have A2:([x].filterMap (hiP p)).map dPc=[]:=by rw[xay,show hiP p x=none from if_pos c1];rfl
    rw[A0,A1,A2,xaP,xaP,decide_eq_true ⟨c0,c1⟩,if_pos rfl];obtain⟨_,f0,_⟩:=I2.e0;refine⟨.inl ⟨_,SqL.of f0⟩,jey I2 h0 d01.symm d02.symm l0 (bo.keep I2.s.t) fun J' I' tJ=>?_⟩;refine ixT (SqT.of (tJ _ _ et2)) (i:=0) rfl ?_;rw[if_pos rfl];refine ixT (SqT.of (tJ _ _ et2)) (i:=1) rfl ?_;rw[if_pos rfl];exact I'
   ·have A0:([x].filter (hrP p)).map dPc=[]:=by rw[xaI,if_neg (show ¬hrP p x=true from fun h=>c1 (of_decide_eq_true h).2)];rfl
    have A2:([x].filterMap (hiP p)).map dPc=[(x.1,rgs x.2.1 (upX x.2.1 p x.2.2))]:=by rw[xay,show hiP p x=some (x.1,x.2.1,upX x.2.1 p x.2.2) from if_neg c1];rfl
    rw[A0,A1,A2,xaP,xaP,decide_eq_false (fun h=>c1 h.2),if_neg (by decide)];refine ixT (SqT.of et2) (i:=0) rfl ?_;rw[if_pos rfl];refine ixT (SqT.of et2) (i:=1) rfl ?_;rw[if_neg (fun z=>nomatch z)];obtain⟨_,f2,_⟩:=I2.e2;exact⟨.inl ⟨_,SqL.of f2⟩,ixT (SqT.of et2) (i:=1) rfl (jey I2.back z2 d02 d12 l2 ⟨rs1,eb1,es1⟩ fun J' I' tJ=>I'.rot)⟩
  ·have A1:([x].filterMap (loP p)).map dPc=[(x.1,rgs x.2.1 (dnX x.2.1 p x.2.2))]:=by rw[xay,show loP p x=some (x.1,x.2.1,dnX x.2.1 p x.2.2) from if_neg c0];rfl
   have A0:([x].filter (hrP p)).map dPc=[]:=by rw[xaI,if_neg (show ¬hrP p x=true from fun h=>c0 (of_decide_eq_true h).1)];rfl
   obtain⟨_,f1',_⟩:=I2.e1;rcases Q1 with ⟨c1,rfl⟩ | ⟨c1,b1,rfl,rs1,eb1,es1⟩
   ·have A2:([x].filterMap (hiP p)).map dPc=[]:=by rw[xay,show hiP p x=none from if_pos c1];rfl
    rw[A0,A1,A2,xaP,xaP,decide_eq_false (fun h=>c0 h.1),if_neg (by decide)];refine ixT (SqT.of et2) (i:=0) rfl ?_;rw[if_neg (fun z=>nomatch z)];refine⟨.inl ⟨_,SqL.of f1'⟩,ixT (SqT.of et2) (i:=0) rfl (jey I2.rot z1 d12.symm d01 l1 ⟨rs0,eb0,es0⟩ fun J' I' tJ=>?_)⟩;refine ixT (SqT.of (tJ _ _ et2)) (i:=1) rfl ?_;rw[if_pos rfl];exact I'.back
   ·have A2:([x].filterMap (hiP p)).map dPc=[(x.1,rgs x.2.1 (upX x.2.1 p x.2.2))]:=by rw[xay,show hiP p x=some (x.1,x.2.1,upX x.2.1 p x.2.2) from if_neg c1];rfl
    rw[A0,A1,A2,xaP,decide_eq_false (fun h=>c0 h.1),if_neg (by decide)];refine ixT (SqT.of et2) (i:=0) rfl ?_;rw[if_neg (fun z=>nomatch z)];refine⟨.inl ⟨_,SqL.of f1'⟩,ixT (SqT.of et2) (i:=0) rfl (jey I2.rot z1 d12.symm d01 l1 ⟨rs0,eb0,es0⟩ fun J' I' tJ=>?_)⟩;refine ixT (SqT.of (tJ _ _ et2)) (i:=1) rfl ?_;rw[if_neg (fun z=>nomatch z)];obtain⟨_,f2,_⟩:=I'.e1;exact⟨.inl ⟨_,SqL.of f2⟩,ixT (SqT.of (tJ _ _ et2)) (i:=1) rfl (jey I'.rot z2 d02 d12 l2 ⟨rs1,tJ _ _ eb1,es1.keep tJ⟩ fun J'' I'' tJ'=>I''.rot)⟩
 ·rintro σ Hh ⟨o5,o6,o7,rfl,I⟩;rw[xaa,ll,xa4] at I;walk_at "rf";refine⟨by decide,fun t' ht=>?_⟩;have j:=Same.new ht (.tup [.ref La,.ref Lb,.ref Lc]);exact q t' La Lb Lc _ jac (I.keep j)
theorem jj6 {x y:List Pt} (h:x.map pl4=y.map pl4):x=y:=by
  induction x generalizing y with
  | nil => cases y with
    | nil=>rfl
    | cons _ _=>cases h
  | cons a x ih => cases y with
    | nil=>cases h
    | cons b y =>
      obtain⟨e1,e2⟩:=List.cons.inj (show pl4 a::x.map pl4=pl4 b::y.map pl4 from h);rw[ih e2,show a=b from jdG e1]
instance:DecidableEq Pt:=fun a b=>decidable_of_iff (pl4 a=pl4 b) ⟨jdG,congrArg pl4⟩
theorem jn0 (x y:Int × List Pt):PyData.eqv (pcD x) (pcD y)=decide (x=y):=by
 obtain⟨k,ps⟩:=x;obtain⟨m,qs⟩:=y;have e:PyData.eqv (pcD (k,ps)) (pcD (m,qs))=(PyData.eqv (.int k) (.int m)&&(PyData.eqvAll (jeF (ps.map pl4)) (jeF (qs.map pl4))&&true)):=rfl;have e1:PyData.eqv (.int k) (.int m)=decide (k=m):=by
  have:=PySem.W.ked_eqvAll [k] [m];simp [PyData.eqvAll] at this;simpa using this
 rw[e,e1,jdX,Bool.and_true];by_cases c:k=m
 ·by_cases d:ps=qs
  ·subst c;subst d;simp
  ·have:¬ps.map pl4=qs.map pl4:=fun z=>d (jj6 z);rw[decide_eq_false this,Bool.and_false,decide_eq_false (fun z=>d (congrArg Prod.snd z))]
 ·rw[decide_eq_false c,Bool.false_and,decide_eq_false (fun z=>c (congrArg Prod.fst z))]
theorem jj7:∀xs ys:List (Int × List Pt),PyData.eqvAll (xs.map pcD) (ys.map pcD)=decide (xs=ys)
  | [],[]=>rfl
  | [],_::_=>rfl
  | _::_,[]=>rfl
  | x :: xs, y :: ys => by
    show (PyData.eqv (pcD x) (pcD y)&&PyData.eqvAll (xs.map pcD) (ys.map pcD))=_;rw[jn0,jj7 xs ys];by_cases c:x=y
    . subst c
      by_cases d:xs=ys
      . subst d
        simp
      . rw[decide_eq_false d,Bool.and_false,decide_eq_false (fun z=>d (List.cons.inj z).2)]
    . rw[decide_eq_false c,Bool.false_and,decide_eq_false (fun z=>c (List.cons.inj z).1)]
theorem jj8 {n:Bool} {l m:Addr} {rs rs':List Addr} {xs ys:List (Int × List Pt)} (e1:H l=some (.lst (rs.map V.ref))) (a1:All2 (PcAt H) rs xs) (e2:H m=some (.lst (rs'.map V.ref))) (a2:All2 (PcAt H) rs' ys) (q:Q (.bl (if n=true then !decide (xs=ys) else decide (xs=ys))) H):jit K n (.ref l) (.ref m) H Q:=by
 have sh:∀zs:List (Int × List Pt),SeqAt.shaped (.list (zs.map pcD))=true:=fun zs=>by
  obtain⟨a,b⟩:=jgJ zs;unfold SeqAt.shaped;simp [PyData.canLay0,PyData.depth,a];omega
 refine⟨_,_,.lst (SqL.of e1) (jfw a1),.lst (SqL.of e2) (jfw a2),sh xs,sh ys,?_⟩;have e:PyData.eqv (.list (xs.map pcD)) (.list (ys.map pcD))=decide (xs=ys):=jj7 xs ys;rw[e];exact q
theorem jgh:∀{xs ys:List (Int × List Pt)},xs.Perm ys->xs.Pairwise (fun x y=>x.1<=y.1)->ys.Pairwise (fun x y=>x.1<=y.1)->(xs.map (·.1)).Nodup->xs=ys
  | [],ys,p,_,_,_=>(xcC.mp p.symm).symm
  | x::xs,[],p,_,_,_=>absurd (xcC.mp p) (by simp)
  | x :: xs, y :: ys, p, hx, hy, nd => by
    have hx':=xbW.mp hx;have hy':=xbW.mp hy;have nd':(x.1::xs.map (·.1)).Nodup:=nd;have e:x=y:=by
      rcases xaG.mp (p.mem_iff.mpr (xa0 (a:=y) (l:=ys))) with h1 | h1
      . exact h1.symm
      . rcases xaG.mp (p.mem_iff.mp (xa0 (a:=x) (l:=xs))) with h2 | h2
        . exact h2
        . have a:=hx'.1 y h1
          have b:=hy'.1 x h2;exact absurd (show x.1∈xs.map (·.1) by rw[show x.1=y.1 by omega];exact xa8 h1) (xa3.mp nd').1
    subst e;rw[jgh ((List.perm_cons x).mp p) hx'.2 hy'.2 (xa3.mp nd').2]
theorem jj9 {rs:List Addr} {ys:List (Int × List Pt)} {is:List Nat} (a:All2 (PcAt H) rs ys) (pm:is.Perm (List.range (ys.map (·.1)).length)) (pw:is.Pairwise fun i j=>(ys.map (·.1)).getD i 0<=(ys.map (·.1)).getD j 0):∃zs:List (Int × List Pt),zs.Perm ys/\zs.Pairwise (fun x y=>x.1<=y.1)/\(is.map fun i=>V.ref (rs.getD i 0))=(is.map fun i=>rs.getD i 0).map V.ref/\All2 (PcAt H) (is.map fun i=>rs.getD i 0) zs:=by
 have la:=a.len;rw[xaa] at pm;refine⟨is.map fun i=>ys.getD i (0,[]),?_,?_,by rw[xbp];rfl,?_⟩
 ·have:=pm.map fun i=>ys.getD i (0,[]);refine this.trans (.of_eq ?_);have:=jjW (fun x=>x) ys (fun i=>ys.getD i (0,[])) fun i a h=>by rw[xab,h];rfl
  rw[this,List.map_id']
 ·rw[List.pairwise_map];refine pw.imp_of_mem fun {i j} hi hj h=>?_;have li:=xaF.mp (pm.mem_iff.mp hi);have lj:=xaF.mp (pm.mem_iff.mp hj);have g:∀k,k<ys.length->(ys.map (·.1)).getD k 0=(ys.getD k (0,[])).1:=fun k hk=>by
   rw[xab,xae,xac hk,xab,xac hk];rfl
  rw[g i li,g j lj] at h;exact h
 ·refine jev (by rw[xaa,xaa]) fun i r hr=>?_;rw[xae] at hr;obtain⟨k,hk,rfl⟩:=xaS.mp hr;have lk:=xaF.mp (pm.mem_iff.mp (xaC hk));have gk:ys[k]?=some ys[k]:=xac lk;obtain⟨r',hr',h⟩:=a.get gk;refine⟨ys[k],by rw[xae,hk];show some (ys.getD k (0,[]))=_;rw[xab,gk];rfl,?_⟩;rw[xab,hr'];exact h
def jp4 (n:Nat):Sp:=fun vs H Q _=>∃(l:Addr) (v:V) (rs:List Addr) (xs:List Dsc) (T:Tr) (m:Nat),vs=[.ref l,v]/\H l=some (.lst (rs.map V.ref))/\All2 (PcAt H) rs (xs.map dPc)/\(∀x∈xs,PD m x)/\m+T.ht<=15/\(xs.map (·.1)).Nodup/\xs.length<=5/\TrW H v T/\T.ht<n/\T.Good 5/\∀(c:Bool) (H':Hp),Same H H'->(c=true↔J T xs)->Q (.bl c) H'
theorem jn1 (T:Tx K mg t1 t2) (F:At K mg "tree_judged" jbr ["some","tree"] []) (di:jao P w K mg base CX0 7 "split_by" ["pieces","plane"] [] jls) (de:jao P w K mg base CX0 (8+n) "tree_judged" ["some","tree"] [] (jp4 n)):jao P w K mg base CX0 (8+n+1) "tree_judged" ["some","tree"] [] (jp4 (n+1)):=by
  refine F.ok jb1 (by walk_at "ar") (fun f cdv Ar outer s H vs Q E hr h=>?_);obtain⟨l,v,rs,xs,Tt,m,rfl,el,al,hk,m15,nd,l5,hT,hn,hG,q⟩:=h;have S:=jb1;refine⟨_,(jaf (jaL (jaq jc8 (pv 1) jaO (jax _))
    (jai (jas (jd4 jdr (jaG jaI rfl T.m_len PySem.boot_len (jaa (pv 0) jad jae)) jab (jax _))))
    jaw)
    (jaf (jat (i:=2) S.nd rfl (Or.inl rfl) (jag di (hr.mono (by omega)) rfl jav (jaa (pv 0) (jaa (jak jam (pv 1) jab) jad jap) jae)))
    (jaf (jaL (jaq (jcm (jgi hr)) (jaG jeH rfl T.m_sorted boot_sorted (jaa (jak jam (pv 2) jab) jad jap)) (jaG jeH rfl T.m_sorted boot_sorted (jaa (jak jam (pv 1) jab) jad jap)) (jax _))
    (jai (jas jcp))
    jaw)
    (jai (jas (jlu (jag de (hr.mono (by omega)) rfl jav (jaa (jak jam (pv 2) jab) (jaa (jak jam (pv 1) jab) jad jap) jap)) (jlt (jag de (hr.mono (by omega)) rfl jav (jaa (jak jam (pv 2) jab) (jaa (jak jam (pv 1) jab) jad jap) jap))))))))),?_⟩
  have ll:=al.len;rw[xaa] at ll;walk_at "rf";refine jbP (fun e=>?_) fun e=>?_
  . subst e
    cases hT;refine⟨_,.inl (SqL.of el),?_⟩;rw[xaa,ll];refine q _ H (Same.refl _) ?_;rw[decide_eq_true_iff];show _↔xs=[];rw[<- xaE];omega
  cases hT with
  | nil=>exact absurd rfl e
  | @nd t g h rh vb va p here B A h1 h2 h3 h4 h7 h5 h6 =>
  obtain⟨g1,⟨g2,g3⟩,g4,g5⟩:=hG;have hh:max B.ht A.ht+1<n+1:=hn;have m15':m+(max B.ht A.ht+1)<=15:=m15;refine ixT (SqT.of h1) (i:=0) rfl ⟨l,g,rs,xs,p,m,rfl,el,al,hk,by omega,h2,g1,l5,fun t' La Lb Lc H1 et I=>?_⟩;obtain⟨s1,⟨r0,e0,a0⟩,⟨r1,e1,a1⟩,r2,e2,a2⟩:=I;have ln0:((xs.filter (hrP p)).map dPc).length<=5:=by
    rw[xaa];exact xav (xbv _ _) l5
  have ln1:(xs.filterMap (loP p)).length<=5:=xav (xbR _ _) l5;have ln2:(xs.filterMap (hiP p)).length<=5:=xav (xbR _ _) l5;have nd0:=jlq (p:=p) nd;have qJ:J (.nd p here B A) xs↔((xs.filter (hrP p)).map dPc).Perm here/\J B (xs.filterMap (loP p))/\J A (xs.filterMap (hiP p)):=Iff.rfl;generalize (xs.filter (hrP p)).map dPc=Y at a0 nd0 ln0 qJ;have la0:=a0.len;have pk:∀{J:Hp} {rs:List Addr} {ys:List (Int × List Pt)},All2 (PcAt J) rs ys->∀(i:Nat) (r:Addr) (k:Int),rs[i]?=some r->(ys.map (·.1))[i]?=some k->∃b,J r=some (.tup [.int k,.ref b]):=fun a i r k hr' hk'=>by
    obtain⟨x,hx,b,e,_⟩:=a.getA hr';rw[xae,hx] at hk';cases hk';exact⟨b,e⟩
  refine ixT (SqT.of et) (i:=0) rfl ⟨La,r0,Y.map (·.1),rfl,.inl e0,by rw[xaa];exact la0,by omega,(jgg la0 nd0).same,pk a0,fun S0 is0 hS0 pm0 pw0=>?_⟩;obtain⟨Z0,pz0,sz0,ez0,az0⟩:=jj9 a0 pm0 pw0;rw[ez0];have j0:=Same.new hS0 (.lst ((is0.map fun i=>r0.getD i 0).map V.ref));have f0:upd H1 S0 (.lst ((is0.map fun i=>r0.getD i 0).map V.ref)) S0=some (.lst ((is0.map fun i=>r0.getD i 0).map V.ref)):=jac;have az0:=az0.keepP j0.t;generalize upd H1 S0 (.lst ((is0.map fun i=>r0.getD i 0).map V.ref))=H2 at j0 f0 az0 |-
  generalize (is0.map fun i=>r0.getD i 0)=q0 at f0 az0;have s2:=s1.trans j0;have h4':=h4.keepP s2.t;have lh:=h4.len;refine ixT (SqT.of (s2 _ _ h1)) (i:=1) rfl ⟨h,rh,here.map (·.1),rfl,.inr (s2 _ _ h3),by rw[xaa];exact lh,by omega,h7.same,pk h4',fun S1 is1 hS1 pm1 pw1=>?_⟩;obtain⟨Z1,pz1,sz1,ez1,az1⟩:=jj9 h4' pm1 pw1;rw[ez1];have j1:=Same.new hS1 (.lst ((is1.map fun i=>rh.getD i 0).map V.ref));refine jj8 (n:=true) (j1 _ _ f0) (az0.keepP j1.t) jac (az1.keepP j1.t) ⟨_,rfl,?_⟩;have s3:=s2.trans j1;have s13:=j0.trans j1;generalize upd H2 S1 (.lst ((is1.map fun i=>rh.getD i 0).map V.ref))=H3 at s3 s13 |-
  rw[if_pos rfl];by_cases c:Z0=Z1
  . rw[decide_eq_true c,if_neg (by decide)]
    have pY:Y.Perm here:=pz0.symm.trans ((List.Perm.of_eq c).trans pz1);refine ixT (SqT.of (s13 _ _ et)) (i:=1) rfl (ixT (SqT.of (s3 _ _ h1)) (i:=2) rfl ⟨Lb,vb,r1,xs.filterMap (loP p),B,m+1,rfl,s13 _ _ e1,a1.keepP s13.t,fun y hy=>let ⟨x,hx,e⟩:=jjX hy;(hk x hx).lo g1 e,by omega,jlo nd,ln1,h5.keep s3.t,by omega,g4,fun c1 J1 sJ1 hc1=>⟨c1,rfl,?_⟩⟩);cases c1 with
    | false =>
      rw[if_neg (by decide)];exact q false J1 (s3.trans sJ1) ⟨(fun z=>nomatch z),fun hj=>absurd (hc1.mpr (qJ.mp hj).2.1) (by decide)⟩
    | true =>
      rw[if_pos rfl];have s14:=s13.trans sJ1;exact ixT (SqT.of (s14 _ _ et)) (i:=2) rfl (ixT (SqT.of ((s3.trans sJ1) _ _ h1)) (i:=3) rfl ⟨Lc,va,r2,xs.filterMap (hiP p),A,m+1,rfl,s14 _ _ e2,a2.keepP s14.t,fun y hy=>let ⟨x,hx,e⟩:=jgd hy;(hk x hx).hi g1 e,by omega,jlp nd,ln2,h6.keep (s3.trans sJ1).t,by omega,g5,fun c2 J2 sJ2 hc2=>q c2 J2 ((s3.trans sJ1).trans sJ2) ⟨fun z=>qJ.mpr ⟨pY,hc1.mp rfl,hc2.mp z⟩,fun hj=>hc2.mpr (qJ.mp hj).2.2⟩⟩)
  . rw[decide_eq_false c,if_pos (by decide)]
    exact q false H3 s3 ⟨(fun z=>nomatch z),fun hj=>absurd (jgh (pz0.trans ((qJ.mp hj).1.trans pz1.symm)) sz0 sz1 (((pz0.map (·.1)).nodup_iff).mpr nd0)) c⟩
theorem jmu (T:Tx K mg t1 t2) (F:At K mg "tree_judged" jbr ["some","tree"] []) (di:jao P w K mg base CX0 7 "split_by" ["pieces","plane"] [] jls):∀n:Nat,jao P w K mg base CX0 (8+n) "tree_judged" ["some","tree"] [] (jp4 n)
 | 0=>F.ok (k:=7) jb1 (fun vs H Q E ⟨_,_,_,_,_,_,_,_,_,_,_,_,_,_,z,_⟩=>absurd z (xaK _)) fun f cdv Ar outer s H vs Q E hr ⟨_,_,_,_,_,_,_,_,_,_,_,_,_,_,z,_⟩=>absurd z (xaK _)
 | n+1=>jn1 T F di (jmu T F di n)
theorem ok_tj (T:Tx K mg t1 t2) (F:At K mg "tree_judged" jbr ["some","tree"] []) (di:jao P w K mg base CX0 7 "split_by" ["pieces","plane"] [] jls):jao P w K mg base CX0 17 "tree_judged" ["some","tree"] [] (jp4 9):=by
 exact jmu T F di 9
theorem jhE {α β:Type} {R:α->β->Prop}:∀{as:List α} {bs:List β},All2 R as bs->All2 R as.reverse bs.reverse
  | _,_,.nil=>.nil
  | _, _, .cons h t => by
    rw[xaM,xaM];exact (jhE t).app (.cons h .nil)
def jka (n:Nat):Sp:=fun vs H Q _=>∃(v:V) (ab:Bool) (T:Tr) (c:Nat),vs=[v,.bl ab]/\TrAt H v T/\T.ht<n/\T.Good c/\c<900/\∀(v':V) (H':Hp),Same H H'->TrAt H' v' (if ab=true then T.ng else T.ow)->Q v' H'
theorem jn2 (T:Tx K mg t1 t2) (F:At K mg "_law_other_way" jaT ["tree","about"] []) (dh:jao P w K mg base CX0 (1+n) "_law_other_way" ["tree","about"] [] (jka n)):jao P w K mg base CX0 (1+n+1) "_law_other_way" ["tree","about"] [] (jka (n+1)):=by
  refine F.ok jbv (by walk_at "ar") (fun f cdv Ar outer s H vs Q E hr h=>?_);obtain⟨v,ab,Tt,c,rfl,hT,hn,hG,c9,q⟩:=h;have S:=jbv;refine⟨_,(jaf (jaL (jaq jc8 (pv 0) jaO (jax _))
    (jai (jas jaO))
    jaw)
    (jaf (jbQ (pv 0) (jck rfl (jay (jan (i:=2) S.nd rfl (Or.inl rfl)) (jay (jan (i:=3) S.nd rfl (Or.inl rfl)) (jay (jan (i:=4) S.nd rfl (Or.inl rfl)) (jay (jan (i:=5) S.nd rfl (Or.inl rfl)) jbj))))))
    (jaf (jaL (jeD (pv 1))
    (jaf (jat (i:=6) S.nd rfl (Or.inl rfl) (jaU jaZ rfl T.m_tuple boot_tuple (jaa (jbb rfl (N':=["number"]) (ix:=[]) ⟨rfl,rfl,by decide +kernel,by decide +kernel,by decide +kernel,(show ∀y:Str × NameKind,y∈_->y.2=NameKind.free->(jah jaT).names.lookup y.1=some .cell\/(jah jaT).names.lookup y.1=some .free from by decide +kernel),.nil⟩ (jdJ (pv 2)) (fun _ _ _ _=>jan (i:=0) (show (["number"]:List Str).Nodup from by decide +kernel) rfl (Or.inl rfl)) (fun _ _ _ _=>jbd) (fun _ _ _ _=>(jau ja6 jab (pv 0)))) jad jcS)))
    (jai (jas (jaB (jaa (pv 6) (jaa (pv 3) (jaa (jag dh (hr.mono (by omega)) rfl jav (jaa (pv 5) (jaa (pv 1) jad jae) jae)) (jaa (jag dh (hr.mono (by omega)) rfl jav (jaa (pv 4) (jaa (pv 1) jad jae) jae)) jad jaF) jaF) jae) jae)))))
    jaw)
    (jai (jas (jaB (jaa (pv 2) (jaa (jfV (pv 3) (jdq jb6 jab)) (jaa (jag dh (hr.mono (by omega)) rfl jav (jaa (pv 4) (jaa (pv 1) jad jae) jae)) (jaa (jag dh (hr.mono (by omega)) rfl jav (jaa (pv 5) (jaa (pv 1) jad jae) jae)) jad jaF) jaF) jap) jae))))))),?_⟩
  walk_at "rf";refine jbP (fun e=>?_) fun e=>?_
  . subst e
    cases hT;refine q .non H (Same.refl _) ?_;cases ab<;>exact .nil
  cases hT with
  | nil=>exact absurd rfl e
  | @nd t g h rh vb va p here B A h1 h2 h3 h4 h5 h6 =>
  obtain⟨g1,⟨g2,g3⟩,g4,g5⟩:=hG;have hh:max B.ht A.ht+1<n+1:=hn;refine⟨t,rfl,_,SqT.of h1,rfl,_,_,rfl,_,_,rfl,_,_,rfl,_,_,rfl,rfl,?_⟩;cases ab with
  | true =>
    rw[if_pos rfl];refine⟨g,rfl,⟨_,h2.sq⟩,fun acc hacc=>jmQ (fun v=>match v with | .int i=>.int (0-i) | v=>v) (by show 4<1000;decide) hacc h2.sq (fun z H4 R hz s4 hR=>?_) fun H4 s4 e4=>⟨_,.inl ⟨SqL.of e4,fun l hl=>?_⟩⟩⟩
    . obtain⟨i',rfl⟩:∃i',z=V.int i':=by
        simp only[xaG,xbH,or_false] at hz;rcases hz with rfl | rfl | rfl | rfl<;>exact⟨_,rfl⟩
      walk_at "rf";exact hR _ (Same.refl _)
    have j:=Same.new hl (.tup [.int (0-p.x),.int (0-p.y),.int (0-p.z),.int (0-p.w)]);have s:=s4.trans j;refine⟨va,true,A,c,rfl,h6.keep s.t,by omega,g5,c9,fun v1 H5 s5 t5=>⟨vb,true,B,c,rfl,h5.keep (s.trans s5).t,by omega,g4,c9,fun v2 H6 s6 t6=>⟨by decide,fun r hr=>?_⟩⟩⟩;have j7:=Same.new hr (.tup [.ref l,.ref h,v1,v2]);have sA:=s.trans (s5.trans (s6.trans j7));have el:=(s5.trans (s6.trans j7)) _ _ (show upd H4 l (.tup [.int (0-p.x),.int (0-p.y),.int (0-p.z),.int (0-p.w)]) l=some (.tup [.int (0-p.x),.int (0-p.y),.int (0-p.z),.int (0-p.w)]) from jac);rw[xb1,xb1,xb1,xb1] at el;exact q _ _ sA (.nd (rs:=rh) (p:=ngP p) jac ⟨el,g1.neg.sm⟩ (sA _ _ h3) (h4.keepP sA.t) (t5.keep (s6.trans j7).t) (t6.keep j7.t))
  | false =>
    rw[if_neg (by decide)];refine⟨_,rfl,1,rfl,rfl,h,_,rfl,SqT.of h3,fun l hl=>?_⟩;have s:=Same.new hl (.tup (rh.map V.ref).reverse);refine⟨vb,false,B,c,rfl,h5.keep s.t,by omega,g4,c9,fun v1 H5 s5 t5=>⟨va,false,A,c,rfl,h6.keep (s.trans s5).t,by omega,g5,c9,fun v2 H6 s6 t6=>⟨by decide,fun r hr=>?_⟩⟩⟩;have j7:=Same.new hr (.tup [.ref g,.ref l,v1,v2]);have sA:=s.trans (s5.trans (s6.trans j7));exact q _ _ sA (.nd (rs:=rh.reverse) (p:=p) jac (h2.keep sA) (by rw[xck];exact (s5.trans (s6.trans j7)) _ _ jac) (jhE (h4.keepP sA.t)) (t5.keep (s6.trans j7).t) (t6.keep j7.t))
theorem jmv (T:Tx K mg t1 t2) (F:At K mg "_law_other_way" jaT ["tree","about"] []):∀n:Nat,jao P w K mg base CX0 (1+n) "_law_other_way" ["tree","about"] [] (jka n)
 | 0=>F.ok (k:=0) jbv (fun vs H Q E ⟨_,_,_,_,_,_,z,_⟩=>absurd z (xaK _)) fun f cdv Ar outer s H vs Q E hr ⟨_,_,_,_,_,_,z,_⟩=>absurd z (xaK _)
 | n+1=>jn2 T F (jmv T F n)
theorem ok_ow (T:Tx K mg t1 t2) (F:At K mg "_law_other_way" jaT ["tree","about"] []):jao P w K mg base CX0 9 "_law_other_way" ["tree","about"] [] (jka 8):=by
 exact jmv T F 8
def jkb (n:Nat):Sp:=fun vs H Q _=>∃(v:V) (g L:Addr) (T:Tr) (p:Pt),vs=[v,.ref g,.ref L]/\TrAt H v T/\T.ht<n/\Is4 H g p/\Sta H L/\∀(v':V) (H':Hp) (T':Tr),SameB L H H'->Sta H' L->TrAt H' v' T'->Hung p T T'->Q v' H'
theorem jn3 (T:Tx K mg t1 t2) (F:At K mg "_law_hung" jbM ["tree","plane","state"] []) (da:jao P w K mg base CX0 1 "_law_next" ["state","many"] [] jju) (dB:jao P w K mg base CX0 (2+n) "_law_hung" ["tree","plane","state"] [] (jkb n)):jao P w K mg base CX0 (2+n+1) "_law_hung" ["tree","plane","state"] [] (jkb (n+1)):=by
 refine F.ok jcH (by walk_at "ar") (fun f cdv Ar outer s H vs Q E hr h=>?_);obtain⟨v,q0,L,Tt,p,rfl,hT,hn,hp,hL,q⟩:=h;have S:=jcH;refine⟨_,(jaf (jaL (jaq jc8 (pv 0) jaO (jax _))
  (jai (jas (jaB (jaa (pv 1) (jaa (jaB jad) (jaa jaO (jaa jaO jad jaj) jaj) jaE) jae))))
  jaw)
  (jaf (jaL (jaq jdr (jag da (hr.mono (by omega)) rfl jav (jaa (pv 2) (jaa jab jad jaj) jae)) jab (jax _))
  (jai (jas (jaB (jaa (jak jam (pv 0) jab) (jaa (jak jam (pv 0) jab) (jaa (jag dB (hr.mono (by omega)) rfl jav (jaa (jak jam (pv 0) jab) (jaa (pv 1) (jaa (pv 2) jad jae) jae) jap)) (jaa (jak jam (pv 0) jab) jad jap) jaF) jap) jap))))
  jaw)
  (jai (jas (jaB (jaa (jak jam (pv 0) jab) (jaa (jak jam (pv 0) jab) (jaa (jak jam (pv 0) jab) (jaa (jag dB (hr.mono (by omega)) rfl jav (jaa (jak jam (pv 0) jab) (jaa (pv 1) (jaa (pv 2) jad jae) jae) jap)) jad jaF) jap) jap) jap)))))),?_⟩
 walk_at "rf";refine jbP (fun e=>?_) fun e=>?_
 ·subst e;cases hT;refine⟨by decide,fun p1 h1=>⟨by decide,fun r1 h2=>?_⟩⟩;have j1:=Same.new h1 (.tup []);have j2:=Same.new h2 (.tup [.ref q0,.ref p1,.non,.non]);exact q _ _ _ (j1.trans j2).b (hL.keep (j1.trans j2)) (.nd (rs:=[]) (p:=p) jac (hp.keep (j1.trans j2)) (j2 _ _ jac) .nil .nil .nil) .leaf
 cases hT with
 | nil=>exact absurd rfl e
 | @nd t g h rh vb va pp here B A h1 h2 h3 h4 h5 h6 =>
 have hh:max B.ht A.ht+1<n+1:=hn;refine⟨L,2,rfl,hL,by decide,by decide,fun H1 d s1 b1 d0 d2=>⟨rfl,?_⟩⟩;have tt:=hL.t s1;have k:=SqT.of (K:=K) (tt _ _ h1);refine jbP (fun z=>?_) fun z=>?_
 ·refine ixT k (i:=0) rfl (ixT k (i:=1) rfl (ixT k (i:=2) rfl ⟨vb,q0,L,B,p,rfl,h5.keep tt,by omega,⟨tt _ _ hp.1,hp.2⟩,b1,fun v1 H2 B' s2 b2 t2 hu=>?_⟩));have tt2:=tt.trans (b1.t s2);refine ixT (SqT.of (tt2 _ _ h1)) (i:=3) rfl ⟨by decide,fun r hr=>?_⟩;have j:=Same.new hr (.tup [.ref g,.ref h,v1,va]);have tA:=tt2.trans j.t;exact q _ _ _ (s1.trans (s2.trans j.b)) (b2.keep j) (.nd (rs:=rh) jac ⟨tA _ _ h2.1,h2.2⟩ (tA _ _ h3) (h4.keepP tA) (t2.keep j.t) (h6.keep tA)) (.lo hu)
 ·refine ixT k (i:=0) rfl (ixT k (i:=1) rfl (ixT k (i:=2) rfl (ixT k (i:=3) rfl ⟨va,q0,L,A,p,rfl,h6.keep tt,by omega,⟨tt _ _ hp.1,hp.2⟩,b1,fun v1 H2 A' s2 b2 t2 hu=>⟨by decide,fun r hr=>?_⟩⟩)));have tt2:=tt.trans (b1.t s2);have j:=Same.new hr (.tup [.ref g,.ref h,vb,v1]);have tA:=tt2.trans j.t;exact q _ _ _ (s1.trans (s2.trans j.b)) (b2.keep j) (.nd (rs:=rh) jac ⟨tA _ _ h2.1,h2.2⟩ (tA _ _ h3) (h4.keepP tA) (h5.keep tA) (t2.keep j.t)) (.hi hu)
theorem jmw (T:Tx K mg t1 t2) (F:At K mg "_law_hung" jbM ["tree","plane","state"] []) (da:jao P w K mg base CX0 1 "_law_next" ["state","many"] [] jju):∀n:Nat,jao P w K mg base CX0 (2+n) "_law_hung" ["tree","plane","state"] [] (jkb n)
 | 0=>F.ok (k:=1) jcH (fun vs H Q E ⟨_,_,_,_,_,_,_,z,_⟩=>absurd z (xaK _)) fun f cdv Ar outer s H vs Q E hr ⟨_,_,_,_,_,_,_,z,_⟩=>absurd z (xaK _)
 | n+1=>jn3 T F da (jmw T F da n)
theorem ok_hu (T:Tx K mg t1 t2) (F:At K mg "_law_hung" jbM ["tree","plane","state"] []) (da:jao P w K mg base CX0 1 "_law_next" ["state","many"] [] jju):jao P w K mg base CX0 10 "_law_hung" ["tree","plane","state"] [] (jkb 8):=by
 exact jmw T F da 8
inductive spCofi (vs:List V) (H:Hp) (Q:VK):Prop
 | mk (t g h:Addr) (rh:List Addr) (vb va:V) (p:Pt) (here:List (Int × List Pt)) (B A:Tr) (c:Nat) (_:vs=[.ref t]) (_:H t=some (.tup [.ref g,.ref h,vb,va])) (_:Is4 H g p) (_:H h=some (.tup (rh.map V.ref))) (_:All2 (PcAt H) rh here) (_:Tie rh here) (_:TrW H vb B) (_:TrW H va A) (_:TrAt H vb B) (_:TrAt H va A) (_:(B.ht<9/\A.ht<9)) (_:(B.Good c/\A.Good c)) (_:c<900) (_:(B.pcs.length<=800/\A.pcs.length<=800)) (_:(B.pcs≠[]->∀(v':V) (H':Hp),Same H H'->TrW H' v' (.nd p here .nil A)->Q v' H')) (_:(A.pcs≠[]->∀(v':V) (H':Hp),Same H H'->TrW H' v' (.nd p here B .nil)->Q v' H')) (_:∀H',Same H H'->Q .non H')
def jp5:Sp:=fun vs H Q _=>spCofi vs H Q
theorem jp6 (T:Tx K mg t1 t2) (F:At K mg "_law_cut_off" jb0 ["tree"] []) (db:jao P w K mg base CX0 16 "_law_pieces" ["tree"] [] (jh1 9)):jao P w K mg base CX0 17 "_law_cut_off" ["tree"] [] jp5:=by
 refine F.ok jcG (by walk_at "ar") (fun f cdv Ar outer s H vs Q E hr h=>?_);obtain⟨t,g,h,rh,vb,va,p,here,B,A,c,rfl,h1,h2,h3,h4,h7,w5,w6,h5,h6,⟨hb,ha⟩,⟨gb,ga⟩,c9,⟨lb,la⟩,qb,qa,qn⟩:=h;have S:=jcG;refine⟨_,(jaf (jbQ (pv 0) (jck rfl (jay (jan (i:=1) S.nd rfl (Or.inl rfl)) (jay (jan (i:=2) S.nd rfl (Or.inl rfl)) (jay (jan (i:=3) S.nd rfl (Or.inl rfl)) (jay (jan (i:=4) S.nd rfl (Or.inl rfl)) jbj))))))
  (jaf (jaL (jaq (jcm (jgi hr)) (jag db hr.m rfl jav (jaa (pv 3) jad jae)) (jaM jad) (jax _))
  (jai (jas (jaB (jaa (pv 1) (jaa (pv 2) (jaa jaO (jaa (pv 4) jad jae) jaj) jae) jae))))
  jaw)
  (jaf (jaL (jaq (jcm (jgi hr)) (jag db hr.m rfl jav (jaa (pv 4) jad jae)) (jaM jad) (jax _))
  (jai (jas (jaB (jaa (pv 1) (jaa (pv 2) (jaa (pv 3) (jaa jaO jad jaj) jae) jae) jae))))
  jaw)
  (jai (jas jaO))))),?_⟩
 walk_at "rf";refine⟨_,SqT.of h1,rfl,_,_,rfl,_,_,rfl,_,_,rfl,_,_,rfl,rfl,?_⟩;refine⟨vb,B,c,rfl,h5,hb,gb,c9,lb,fun l H1 rs n1 s1 e1 a1=>⟨by decide,fun p1 hp1=>?_⟩⟩;have j1:=Same.new hp1 (.lst []);refine jfx (j1 _ _ e1) (a1.keepP j1.t) jac ⟨_,rfl,?_⟩;have s2:=s1.trans j1;have z1:rs=[]↔B.pcs=[]:=by rw[<- xaE,<- xaE,a1.len]
 generalize upd H1 p1 (.lst [])=H2 at s2 |-
 refine jbP (fun z=>?_) fun z=>?_
 ·refine⟨by decide,fun r hr=>?_⟩;have j:=Same.new hr (.tup [.ref g,.ref h,.non,va]);have sA:=s2.trans j;exact qb (fun e=>by rw[decide_eq_true (z1.mpr e)] at z;cases z) _ _ sA (.nd (rs:=rh) jac (h2.keep sA) (sA _ _ h3) (h4.keepP sA.t) h7 .nil (w6.keep sA.t))
 refine⟨va,A,c,rfl,h6.keep s2.t,ha,ga,c9,la,fun l3 H3 rs3 n3 s3 e3 a3=>⟨by decide,fun p3 hp3=>?_⟩⟩;have j3:=Same.new hp3 (.lst []);refine jfx (j3 _ _ e3) (a3.keepP j3.t) jac ⟨_,rfl,?_⟩;have s4:=s2.trans (s3.trans j3);have z3:rs3=[]↔A.pcs=[]:=by rw[<- xaE,<- xaE,a3.len]
 generalize upd H3 p3 (.lst [])=H4 at s4 |-
 refine jbP (fun z=>?_) fun z=>qn H4 s4;refine⟨by decide,fun r hr=>?_⟩;have j:=Same.new hr (.tup [.ref g,.ref h,vb,.non]);have sA:=s4.trans j;exact qa (fun e=>by rw[decide_eq_true (z3.mpr e)] at z;cases z) _ _ sA (.nd (rs:=rh) jac (h2.keep sA) (sA _ _ h3) (h4.keepP sA.t) h7 (w5.keep sA.t) .nil)
theorem tw_good {c:Nat}:∀{T T':Tr},T.Good c->T.twin=some T'->T'.Good c/\T'.ht=T.ht
  | .nil,_,_,e=>nomatch e
  | .nd p h b a, T', ⟨g1, ⟨g2, g3⟩, g4, g5⟩, e => by
    unfold Tr.twin at e;split at e
    . rename_i l
      cases e;refine⟨⟨g1,⟨fun x hx=>?_,?_⟩,g4,g5⟩,rfl⟩
      . rcases xas.mp hx with hx | hx
        . rcases xas.mp hx with hx | hx
          . exact g2 x (xbc hx)
          . exact g2 x (xbc hx)
        . exact g2 x (xbB hx)
      . rw[xad,xad,xah,xam]
        omega
    . split at e
      . rename_i e'
        cases e;obtain⟨i1,i2⟩:=tw_good g4 e';exact⟨⟨g1,⟨g2,g3⟩,i1,g5⟩,by show max _ _+1=max _ _+1;rw[i2]⟩
      . split at e
        . rename_i e'
          cases e;obtain⟨i1,i2⟩:=tw_good g5 e';exact⟨⟨g1,⟨g2,g3⟩,g4,i1⟩,by show max _ _+1=max _ _+1;rw[i2]⟩
        . cases e
variable {xs ys:List V}
theorem jkc (l:1<xs.length):jb5 xs none (some 1)=xs.take 1:=by
 unfold jb5;rw[HT.sIx_none,show (some (1:Int))=some ((1:Nat):Int) from rfl,HT.sIx_nat,xbf (by omega)];rfl
theorem jn4 (l:1<xs.length):jb5 xs (some 2) none=xs.drop 2:=by
 unfold jb5;rw[HT.sIx_none,show (some (2:Int))=some ((2:Nat):Int) from rfl,HT.sIx_nat,xbf (by omega)];exact xaX (by rw[xam];exact xag _)
theorem jcb {α β:Type} {R:α->β->Prop} (n:Nat) {as:List α} {bs:List β} (h:All2 R as bs):All2 R (as.take n) (bs.take n):=by
 refine jev (by rw[xah,xah,h.len]) fun i a ha=>?_;obtain⟨la,ea⟩:=xaj.mp ha;rw[xah] at la;rw[xbX,if_pos (by omega)] at ha;obtain⟨b,hb,r⟩:=h.getA ha;exact⟨b,by rw[xbX,if_pos (by omega)];exact hb,r⟩
theorem jdo {α β:Type} {R:α->β->Prop} (n:Nat) {as:List α} {bs:List β} (h:All2 R as bs):All2 R (as.drop n) (bs.drop n):=by
 refine jev (by rw[xam,xam,h.len]) fun i a ha=>?_;rw[xbI] at ha;obtain⟨b,hb,r⟩:=h.getA ha;exact⟨b,by rw[xbI];exact hb,r⟩
def jkd (n:Nat):Sp:=fun vs H Q _=>∃(v:V) (T:Tr) (c:Nat),vs=[v]/\TrW H v T/\T.ht<n/\T.Good c/\c<900/\∀(v':V) (H':Hp),Same H H'->((T.twin=none/\v'=.non)\/∃T',T.twin=some T'/\TrW H' v' T'/\v'≠.non)->Q v' H'
theorem tw_step (T:Tx K mg t1 t2) (F:At K mg "_law_twin" jbL ["tree"] []) (du:jao P w K mg base CX0 (1+n) "_law_twin" ["tree"] [] (jkd n)):jao P w K mg base CX0 (1+n+1) "_law_twin" ["tree"] [] (jkd (n+1)):=by
 refine F.ok jcF (by walk_at "ar") (fun f cdv Ar outer s H vs Q E hr h=>?_);obtain⟨v,Tt,c,rfl,hT,hn,hG,c9,q⟩:=h;have S:=jcF;refine⟨_,(jaf (jaL (jaq jc8 (pv 0) jaO (jax _))
  (jai (jas jaO))
  jaw)
  (jaf (jbQ (pv 0) (jck rfl (jay (jan (i:=1) S.nd rfl (Or.inl rfl)) (jay (jan (i:=2) S.nd rfl (Or.inl rfl)) (jay (jan (i:=3) S.nd rfl (Or.inl rfl)) (jay (jan (i:=4) S.nd rfl (Or.inl rfl)) jbj))))))
  (jaf (jaL (jaq jgm (jaG jaI rfl T.m_len PySem.boot_len (jaa (pv 2) jad jae)) jab (jax _))
  (jai (jas (jaB (jaa (pv 1) (jaa (jau jeZ (jau jeZ (jaY jfJ (pv 2) jbl (ja5 jab)) (jaY jfJ (pv 2) jbl (ja5 jab))) (jaY jfJ (pv 2) (ja5 jab) jbl)) (jaa (pv 3) (jaa (pv 4) jad jae) jae) ja7) jae))))
  jaw)
  (jaf (jat (i:=5) S.nd rfl (Or.inl rfl) (jag du (hr.mono (by omega)) rfl jav (jaa (pv 3) jad jae)))
  (jaf (jaL (jaq jd3 (pv 5) jaO (jax _))
  (jai (jas (jaB (jaa (pv 1) (jaa (pv 2) (jaa (pv 5) (jaa (pv 4) jad jae) jae) jae) jae))))
  jaw)
  (jaf (jat (i:=6) S.nd rfl (Or.inl rfl) (jag du (hr.mono (by omega)) rfl jav (jaa (pv 4) jad jae)))
  (jaf (jaL (jaq jd3 (pv 6) jaO (jax _))
  (jai (jas (jaB (jaa (pv 1) (jaa (pv 2) (jaa (pv 3) (jaa (pv 6) jad jae) jae) jae) jae))))
  jaw)
  (jai (jas jaO))))))))),?_⟩
 walk_at "rf";refine jbP (fun e=>?_) fun e=>?_
 ·subst e;cases hT;exact q .non H (Same.refl _) (.inl ⟨rfl,rfl⟩)
 cases hT with
 | nil=>exact absurd rfl e
 | @nd t g h rh vb va p here B A h1 h2 h3 h4 h7 h5 h6 =>
 obtain⟨g1,⟨g2,g3⟩,g4,g5⟩:=hG;have hh:max B.ht A.ht+1<n+1:=hn;refine⟨t,rfl,_,SqT.of h1,rfl,_,_,rfl,_,_,rfl,_,_,rfl,_,_,rfl,rfl,?_⟩;have lh:=h4.len;have kh:=SqT.of (K:=K) h3;refine⟨h,rfl,_,.inr kh,?_⟩;rw[xaa];refine jbP (fun l=>?_) fun l=>?_
 ·have l:1<rh.length:=by omega
  have lm:1<(rh.map V.ref).length:=by rw[xaa];exact l
  have wh:∀(o:Int),o≠0->o<2->¬(HT.sIx (rh.map V.ref).length 0 none=0/\HT.sIx (rh.map V.ref).length (rh.map V.ref).length (some 1)=(rh.map V.ref).length):=fun _ _ _ ⟨_,z⟩=>by
   rw[show (some (1:Int))=some ((1:Nat):Int) from rfl,HT.sIx_nat,xbf (by omega)] at z;omega
  have wh2:¬(HT.sIx (rh.map V.ref).length 0 (some 2)=0/\HT.sIx (rh.map V.ref).length (rh.map V.ref).length none=(rh.map V.ref).length):=fun ⟨z,_⟩=>by
   rw[show (some (2:Int))=some ((2:Nat):Int) from rfl,HT.sIx_nat,xbf (by omega)] at z;omega
  have tw:(Tr.nd p here B A).twin=some (.nd p (here.take 1++here.take 1++here.drop 2) B A):=by
   unfold Tr.twin;rw[if_pos (by omega)]
  have m1:(rh.map V.ref).take 1=(rh.take 1).map V.ref:=xbt.symm;have m2:(rh.map V.ref).drop 2=(rh.drop 2).map V.ref:=xbs.symm;have n1:(rh.take 1).map V.ref≠[]:=fun z=>by
   have:=congrArg List.length z;rw[xaa,xah] at this;have:min 1 rh.length=0:=this;omega
  refine⟨h,_,rfl,kh,wh 1 (by decide) (by decide),fun a1 ha1=>?_⟩;rw[jkc lm,m1];refine jeA ha1 fun H1 j1 f1=>?_;refine⟨h,_,rfl,SqT.of (j1 _ _ h3),wh 1 (by decide) (by decide),fun a2 ha2=>?_⟩;rw[jkc lm,m1];have j2:=Same.new ha2 (.tup ((rh.take 1).map V.ref));have f2:upd H1 a2 (.tup ((rh.take 1).map V.ref)) a2=some (.tup ((rh.take 1).map V.ref)):=jac;have f1:=j2 _ _ f1;have s2:=j1.trans j2;generalize upd H1 a2 (.tup ((rh.take 1).map V.ref))=H2 at s2 f1 f2 |-
  clear j1 j2 ha1 ha2;have b5:((rh.take 1).map V.ref).length+((rh.take 1).map V.ref).length<=sizeLine:=xaQ (jaD (by rw[xaa,xah];omega));refine⟨a1,a2,_,_,rfl,rfl,SqT.of f1,SqT.of f2,n1,b5,fun z=>absurd z n1,fun _ a3 ha3=>?_⟩;have j3:=Same.new ha3 (.tup ((rh.take 1).map V.ref++(rh.take 1).map V.ref));have f3:upd H2 a3 (.tup ((rh.take 1).map V.ref++(rh.take 1).map V.ref)) a3=some (.tup ((rh.take 1).map V.ref++(rh.take 1).map V.ref)):=jac;have s3:=s2.trans j3;generalize upd H2 a3 (.tup ((rh.take 1).map V.ref++(rh.take 1).map V.ref))=H3 at s3 f3 |-
  clear j3 ha3 f1 f2;refine⟨h,_,rfl,SqT.of (s3 _ _ h3),wh2,fun a4 ha4=>?_⟩;rw[jn4 lm,m2];have j4:=Same.new ha4 (.tup ((rh.drop 2).map V.ref));have f4:upd H3 a4 (.tup ((rh.drop 2).map V.ref)) a4=some (.tup ((rh.drop 2).map V.ref)):=jac;have f3:=j4 _ _ f3;have s4:=s3.trans j4;generalize upd H3 a4 (.tup ((rh.drop 2).map V.ref))=H4 at s4 f3 f4 |-
  clear j4 ha4;have n2:(rh.take 1).map V.ref++(rh.take 1).map V.ref≠[]:=fun z=>n1 (xbV.mp z).1;have fin:∀(x5 r:Addr) (J:Hp),Same H J->J x5=some (.tup ((rh.take 1).map V.ref++(rh.take 1).map V.ref++(rh.drop 2).map V.ref))->J r=none->Q (V.ref r) (upd J r (HO.tup [V.ref g,V.ref x5,vb,va])):=fun x5 r J sJ e5 nr=>by
   have j:=Same.new nr (.tup [.ref g,.ref x5,vb,va]);have sA:=sJ.trans j;have h4':=h4.keepP sA.t;obtain⟨A',hA⟩:=h7;refine q (.ref r) _ sA (.inr ⟨_,tw,.nd (rs:=rh.take 1++rh.take 1++rh.drop 2) jac (h2.keep sA) (by rw[xaf,xaf];exact j _ _ e5) (((jcb 1 h4').app (jcb 1 h4')).app (jdo 2 h4')) ⟨A',((jcb 1 hA).app (jcb 1 hA)).app (jdo 2 hA)⟩ (h5.keep sA.t) (h6.keep sA.t),fun z=>nomatch z⟩)
  refine⟨a3,a4,_,_,rfl,rfl,SqT.of f3,SqT.of f4,n2,xaQ (jaD (by rw[xad,xaa,xaa,xah,xam];omega)),fun z=>⟨by decide,fun r hr=>fin a3 r H4 s4 (by rw[z,xaP];exact f3) hr⟩,fun _ a5 ha5=>⟨by decide,fun r hr=>fin a5 r _ (s4.trans (Same.new ha5 _)) jac hr⟩⟩
 ·refine⟨vb,B,c,rfl,h5,by omega,g4,c9,fun v1 H1 s1 hv1=>?_⟩;rcases hv1 with ⟨e1,rfl⟩ | ⟨B',e1,w1,ne1⟩
  ·rw[if_pos rfl];refine⟨va,A,c,rfl,h6.keep s1.t,by omega,g5,c9,fun v2 H2 s2 hv2=>?_⟩;have s12:=s1.trans s2;rcases hv2 with ⟨e2,rfl⟩ | ⟨A',e2,w2,ne2⟩
   ·show (if V.non=V.non then _ else _);rw[if_pos rfl];exact q .non H2 s12 (.inl ⟨by unfold Tr.twin;rw[if_neg (by omega),e1,e2],rfl⟩)
   ·show (if v2=V.non then _ else _);rw[if_neg ne2];refine⟨by decide,fun r hr=>?_⟩;have j:=Same.new hr (.tup [.ref g,.ref h,vb,v2]);have sA:=s12.trans j;exact q (.ref r) _ sA (.inr ⟨_,by unfold Tr.twin;rw[if_neg (by omega),e1,e2],.nd (rs:=rh) jac (h2.keep sA) (sA _ _ h3) (h4.keepP sA.t) h7 (h5.keep sA.t) (w2.keep j.t),fun z=>nomatch z⟩)
  ·rw[if_neg ne1];refine⟨by decide,fun r hr=>?_⟩;have j:=Same.new hr (.tup [.ref g,.ref h,v1,va]);have sA:=s1.trans j;exact q (.ref r) _ sA (.inr ⟨_,by unfold Tr.twin;rw[if_neg (by omega),e1],.nd (rs:=rh) jac (h2.keep sA) (sA _ _ h3) (h4.keepP sA.t) h7 (w1.keep j.t) (h6.keep sA.t),fun z=>nomatch z⟩)
theorem tw_all (T:Tx K mg t1 t2) (F:At K mg "_law_twin" jbL ["tree"] []):∀n:Nat,jao P w K mg base CX0 (1+n) "_law_twin" ["tree"] [] (jkd n)
 | 0=>F.ok (k:=0) jcF (fun vs H Q E ⟨_,_,_,_,_,z,_⟩=>absurd z (xaK _)) fun f cdv Ar outer s H vs Q E hr ⟨_,_,_,_,_,z,_⟩=>absurd z (xaK _)
 | n+1=>tw_step T F (tw_all T F n)
theorem ok_tw (T:Tx K mg t1 t2) (F:At K mg "_law_twin" jbL ["tree"] []):jao P w K mg base CX0 9 "_law_twin" ["tree"] [] (jkd 8):=by
 exact tw_all T F 8
theorem jcR (n:Nat) {i:Int} (h:i.natAbs<2):Bd (n+1) i:=by
 show i.natAbs<2^(n+1);have:=Nat.one_le_two_pow (n:=n);rw[Nat.pow_succ];omega
inductive spAski (vs:List V) (H:Hp) (Q:VK):Prop
 | mk (t g h:Addr) (vb va:V) (p:Pt) (_:vs=[.ref t]) (_:H t=some (.tup [.ref g,.ref h,vb,va])) (_:Is4 H g p) (_:∀(r g':Addr) (H':Hp),Same H H'->H' r=some (.tup [.ref g',.ref h,vb,va])->Is4 H' g' (jms p)->Q (.ref r) H')
def jp7:Sp:=fun vs H Q _=>spAski vs H Q
theorem jp8 (T:Tx K mg t1 t2) (F:At K mg "_law_askew" jcx ["tree"] []):jao P w K mg base CX0 1 "_law_askew" ["tree"] [] jp7:=by
 refine F.ok jdi (by walk_at "ar") (fun f cdv Ar outer s H vs Q E hr h=>?_);obtain⟨t,g,h,vb,va,p,rfl,h1,h2,q⟩:=h;have S:=jdi;refine⟨_,(jaf (jaL (jaq (jm1 (jgi hr)) (jak jam (pv 0) jab) (jaM (jaa (jaB (jaa jab (jaa jab (jaa jab (jaa jab jad jaj) jaj) jaj) jaj)) (jaa (jaB (jaa (jdq jb6 jab) (jaa jab (jaa jab (jaa jab jad jaj) jaj) jaj) jhO)) jad jaE) jaE)) rfl)
  (jai (jas (jaB (jaa (jaB (jaa jab (jaa jab (jaa jab (jaa jab jad jaj) jaj) jaj) jaj)) (jaa (jak jam (pv 0) jab) (jaa (jak jam (pv 0) jab) (jaa (jak jam (pv 0) jab) jad jap) jap) jap) jaE))))
  jaw)
  (jai (jas (jaB (jaa (jaB (jaa jab (jaa jab (jaa jab (jaa jab jad jaj) jaj) jaj) jaj)) (jaa (jak jam (pv 0) jab) (jaa (jak jam (pv 0) jab) (jaa (jak jam (pv 0) jab) jad jap) jap) jap) jaE))))),?_⟩
 walk_at "rf";refine ixT (SqT.of h1) (i:=0) rfl ⟨by decide,fun p1 hp1=>⟨by decide,fun p2 hp2=>⟨by decide,fun p3 hp3=>?_⟩⟩⟩;have j1:=Same.new hp1 (.tup [.int 1,.int 0,.int 0,.int 0]);have j2:=Same.new hp2 (.tup [.int (-1),.int 0,.int 0,.int 0]);have j3:=Same.new hp3 (.lst [.ref p1,.ref p2]);have n12:p1≠p2:=jar (show upd H p1 (.tup [.int 1,.int 0,.int 0,.int 0]) p1=some _ from jac) hp2;have f1:=j3 _ _ (j2 _ _ (show upd H p1 (.tup [.int 1,.int 0,.int 0,.int 0]) p1=some (.tup [.int 1,.int 0,.int 0,.int 0]) from jac));have f2:=j3 _ _ (show upd (upd H p1 (.tup [.int 1,.int 0,.int 0,.int 0])) p2 (.tup [.int (-1),.int 0,.int 0,.int 0]) p2=some (.tup [.int (-1),.int 0,.int 0,.int 0]) from jac);have s:=j1.trans (j2.trans j3);refine⟨g,p3,p1,p2,[p.x,p.y,p.z,p.w],[1,0,0,0],[-1,0,0,0],rfl,rfl,(h2.keep s).sq,SqL.of jac,n12,SqT.of f1,SqT.of f2,_,rfl,?_⟩;generalize upd (upd (upd H p1 (.tup [.int 1,.int 0,.int 0,.int 0])) p2 (.tup [.int (-1),.int 0,.int 0,.int 0])) p3 (.lst [.ref p1,.ref p2])=H1 at s |-
 clear f1 f2 n12 j1 j2 j3 hp1 hp2 hp3;have e:(decide (([1,0,0,0]:List Int)=[p.x,p.y,p.z,p.w])||decide (([-1,0,0,0]:List Int)=[p.x,p.y,p.z,p.w]))=decide ((p.x=1\/p.x=-1)/\p.y=0/\p.z=0/\p.w=0):=by
  rw[<- Bool.decide_or];refine decide_eq_decide.mpr ⟨fun h=>?_,fun ⟨h1,h2,h3,h4⟩=>?_⟩
  ·rcases h with h | h
   ·simp at h;omega
   ·simp at h;omega
  ·rw[h2,h3,h4];rcases h1 with h | h<;>rw[h]<;>simp
 rw[e];have fin:∀(u:Pt),u.sm->jms p=u->4<=sizeLine/\∀q0:Addr,H1 q0=none->jd7 K (V.ref t) (V.int 1) (upd H1 q0 (HO.tup [V.int u.x,V.int u.y,V.int u.z,V.int u.w])) fun x H1=>jd7 K (V.ref t) (V.int 2) H1 fun x_1 H1=>jd7 K (V.ref t) (V.int 3) H1 fun x_2 H1=>4<=sizeLine/\∀(p_3:Addr),H1 p_3=none->Q (V.ref p_3) (upd H1 p_3 (HO.tup [V.ref q0,x,x_1,x_2])):=fun u su eu=>⟨by decide,fun q0 hq=>by
  have j:=Same.new hq (.tup [.int u.x,.int u.y,.int u.z,.int u.w]);have sj:=s.trans j;have k:=SqT.of (K:=K) (sj _ _ h1);refine ixT k (i:=1) rfl (ixT k (i:=2) rfl (ixT k (i:=3) rfl ⟨by decide,fun r hr=>?_⟩));have j':=Same.new hr (.tup [.ref q0,.ref h,vb,va]);exact q r q0 _ (sj.trans j') jac (by rw[eu];exact⟨j' _ _ jac,su⟩)⟩
 by_cases c:(p.x=1\/p.x=-1)/\p.y=0/\p.z=0/\p.w=0
 ·rw[decide_eq_true c,if_pos rfl];exact fin qY (PlG.sm ⟨⟨jcR _ (by decide),jcR _ (by decide),jcR _ (by decide)⟩,jcR _ (by decide)⟩) (if_pos c)
 ·rw[decide_eq_false c,if_neg (by decide)];exact fin qX (PlG.sm ⟨⟨jcR _ (by decide),jcR _ (by decide),jcR _ (by decide)⟩,jcR _ (by decide)⟩) (if_neg c)
def fW (way:Int) (o:List Pt) (x:Int × List Pt):List (Int × List Pt):=if way=0 then [] else if way=1 then [x,x] else if way=2 then [(x.1+4000001,x.2)] else [(x.1,o)]
theorem jdp {α:Type} (f:α->List α) (x:α):∀(i:Int) (l:List α),spl f i (l++[x])=spl f i l++(if i=l.length then f x else [x])
  | i, [] => by
    show (if i=0 then f x else [x])++spl f (i-1) []=[]++_;rw[xca];exact xaP _
  | i, y :: l => by
    show (if i=0 then f y else [y])++spl f (i-1) (l++[x])=(if i=0 then f y else [y])++spl f (i-1) l++_;rw[jdp f x (i-1) l,xbD]
    congr 2
    by_cases c:i-1=l.length
    . rw[if_pos c,if_pos (by rw[xaA];omega)]
    . rw[if_neg c,if_neg (by rw[xaA];omega)]
def Tr.Nds:Tr->Prop
 | .nil=>True
 | .nd _ h b a=>(h.map (·.1)).Nodup/\b.Nds/\a.Nds
theorem jn5:∀{T:Tr} {xs:List Dsc},J T xs->(xs.map (·.1)).Nodup->T.Nds
 | .nil,_,_,_=>trivial
 | .nd ..,_,⟨h1,h2,h3⟩,nd=>⟨((h1.map (·.1)).nodup_iff).mp (jlq nd),jn5 h2 (jlo nd),jn5 h3 (jlp nd)⟩
def jke (n:Nat):Sp:=fun vs H Q _=>∃(v:V) (L ob:Addr) (way i:Int) (o:List Pt) (T:Tr) (c:Nat),vs=[v,.ref L,.int way,.ref ob]/\TrW H v T/\T.ht<n/\T.Good c/\c<5/\T.Nds/\(∀x∈T.pcs,-4<=x.1/\x.1<=2000010)/\H L=some (.lst [.int i])/\(0<=way/\way<4)/\BoAt H ob o/\∀(v':V) (H':Hp),SameB L H H'->H' L=some (.lst [.int (i-T.pcs.length)])->TrW H' v' (spo (fW way o) i T)->Q v' H'
theorem jgK {α:Type} {f:α->List α}:∀{i:Int} {h:List α} {y:α},y∈spl f i h->y∈h\/∃x∈h,y∈f x
  | _,[],_,hy=>nomatch hy
  | i, x :: h, y, hy => by
    have hy:y∈(if i=0 then f x else [x])++spl f (i-1) h:=hy;rcases xas.mp hy with hy | hy
    . by_cases c:i=0
      . rw[if_pos c] at hy
        exact .inr ⟨x,.head _,hy⟩
      . rw[if_neg c] at hy
        rw[xar.mp hy];exact .inl (.head _)
    . rcases jgK hy with h1 | ⟨z,hz,h1⟩
      . exact .inl (.tail _ h1)
      . exact .inr ⟨z,.tail _ hz,h1⟩
theorem jmx {f:Int × List Pt->List (Int × List Pt)}:∀{i:Int} {h:List (Int × List Pt)},(h.map (·.1)).Nodup->(∀x∈h,x.1<=2000010)->(∀x∈h,f x=[]\/∃y,f x=[y]/\(y.1=x.1\/2000010<y.1))->((spl f i h).map (·.1)).Nodup
  | _,[],_,_,_=>xch
  | i, x :: h, nd, bd, hf => by
    rw[xaH,xa3] at nd;show (((if i=0 then f x else [x])++spl f (i-1) h).map (·.1)).Nodup;have bx:=bd x (.head _);by_cases c:i=0
    . rw[if_pos c,jfy f h (by omega)]
      rcases hf x (.head _) with e | ⟨y,e,e'⟩
      . rw[e]
        exact nd.2
      . rw[e]
        refine xa3.mpr ⟨fun m=>?_,nd.2⟩;obtain⟨z,hz,ez⟩:=xao.mp m;have ez:z.1=y.1:=ez;have bz:=bd z (.tail _ hz);rcases e' with e' | e'
        . exact nd.1 (by rw[<- e',<- ez];exact xa8 hz)
        . omega
    . rw[if_neg c]
      refine xa3.mpr ⟨fun m=>?_,jmx nd.2 (fun z hz=>bd z (.tail _ hz)) fun z hz=>hf z (.tail _ hz)⟩;obtain⟨y,hy,ey⟩:=xao.mp m;have ey:y.1=x.1:=ey;rcases jgK hy with h1 | ⟨z,hz,h1⟩
      . exact nd.1 (by rw[<- ey];exact xa8 h1)
      . rcases hf z (.tail _ hz) with e | ⟨y',e,e'⟩
        . rw[e] at h1
          cases h1
        . rw[e] at h1
          rw[xar.mp h1] at ey;rcases e' with e' | e'
          . exact nd.1 (by rw[<- ey,e'];exact xa8 hz)
          . omega
theorem jhF {R:Addr->Int × List Pt->Prop} {F:Addr->List Addr} {f:Int × List Pt->List (Int × List Pt)} (hf:∀r x,R r x->All2 R (F r) (f x)):∀{i:Int} {rs:List Addr} {h:List (Int × List Pt)},All2 R rs h->All2 R (spl F i rs) (spl f i h)
  | _,_,_,.nil=>.nil
  | i, r :: rs, x :: h, .cons a b => by
    show All2 R ((if i=0 then F r else [r])++spl F (i-1) rs) ((if i=0 then f x else [x])++spl f (i-1) h);refine All2.app ?_ (jhF hf b);by_cases c:i=0
    . rw[if_pos c,if_pos c]
      exact hf r x a
    . rw[if_neg c,if_neg c]
      exact .cons a .nil
theorem jn6 {ms rs:List Addr} {h:List (Int × List Pt)} {i:Int} {o:List Pt} (lm:ms.length=(spl (fW way o) i h).length) (lr:rs.length=h.length) (nd:(h.map (·.1)).Nodup) (bd:∀x∈h,-4<=x.1/\x.1<=2000010) (wm:way=1->ms=spl (fun r=>[r,r]) i rs):Tie ms (spl (fW way o) i h):=by
 by_cases c:way=1
 ·obtain⟨A,hA⟩:=jgg lr nd;refine⟨A,?_⟩;rw[wm c];refine jhF (fun r x e=>?_) hA;rw[c];exact .cons e (.cons e .nil)
 ·refine jgg lm (jmx nd (fun x hx=>(bd x hx).2) fun x hx=>?_);unfold fW;by_cases c0:way=0
  ·rw[if_pos c0];exact .inl rfl
  ·rw[if_neg c0,if_neg c];by_cases c2:way=2
   ·rw[if_pos c2];refine .inr ⟨_,rfl,.inr ?_⟩;have:=(bd x hx).1;show 2000010<x.1+4000001;omega
   ·rw[if_neg c2];exact .inr ⟨_,rfl,.inl rfl⟩
theorem jp9 (way:Int) (o:List Pt) (x:Int × List Pt):(fW way o x).length<=2:=by
 unfold fW;split
 ·exact xaO _
 ·split
  ·exact xag _
  ·split
   ·exact xb6 _
   ·exact xb6 _
theorem jkf {α:Type} {f:α->List α} (hf:∀x,(f x).length<=2):∀(i:Int) (h:List α),(spl f i h).length<=2*h.length
  | _,[]=>xag _
  | i, x :: h => by
    show ((if i=0 then f x else [x])++spl f (i-1) h).length<=_;have a:=jkf hf (i-1) h;have b:=hf x;rw[xad,xaA];by_cases c:i=0
    . rw[if_pos c];omega
    . rw[if_neg c]
      show 1+_<=_;omega
def soI (H:Hp) (t L ob g h:Addr) (vb va:V) (way i:Int) (o:List Pt) (here:List (Int × List Pt)) (rh:List Addr):Nat->L2.St->Hp->Prop:=fun j σ Hh=>∃(M:Addr) (ms:List Addr) (o9 o10 o11:Option V),σ=[some (.ref t),some (.ref L),some (.int way),some (.ref ob),some (.ref g),some (.ref h),some vb,some va,some (.ref M),o9,o10,o11]/\M≠L/\H M=none/\SameB L H Hh/\Hh L=some (.lst [.int (i-(j:Nat))])/\Hh M=some (.lst (ms.map V.ref))/\All2 (PcAt Hh) ms (spl (fW way o) i (here.take j))/\(way=1->ms=spl (fun r=>[r,r]) i (rh.take j))
theorem jn7 (T:Tx K mg t1 t2) (F:At K mg "_law_spoilt" jbu ["tree","left","way","other"] []) (dq:jao P w K mg base CX0 (1+n) "_law_spoilt" ["tree","left","way","other"] [] (jke n)):jao P w K mg base CX0 (1+n+1) "_law_spoilt" ["tree","left","way","other"] [] (jke (n+1)):=by
  refine F.ok jb3 (by walk_at "ar") (fun f cdv Ar outer s H vs Q E hr h=>?_);obtain⟨v,L,ob,way,i,o,Tt,c,rfl,hT,hn,hG,c5,hN,hB,eL,⟨w0,w4⟩,bo,q⟩:=h;have S:=jb3;refine⟨_,(jaf (jaL (jaq jc8 (pv 0) jaO (jax _))
    (jai (jas jaO))
    jaw)
    (jaf (jbQ (pv 0) (jck rfl (jay (jan (i:=4) S.nd rfl (Or.inl rfl)) (jay (jan (i:=5) S.nd rfl (Or.inl rfl)) (jay (jan (i:=6) S.nd rfl (Or.inl rfl)) (jay (jan (i:=7) S.nd rfl (Or.inl rfl)) jbj))))))
    (jaf (jat (i:=8) S.nd rfl (Or.inl rfl) (jaM jad))
    (jaf (jbp PassesOwn.never rfl (jdJ (pv 5)) (jan (i:=9) S.nd rfl (Or.inl rfl))
    (jaf (jbQ (pv 9) (jck rfl (jay (jan (i:=10) S.nd rfl (Or.inl rfl)) (jay (jan (i:=11) S.nd rfl (Or.inl rfl)) jbj))))
    (jaf (jaL (jaq jdr (jak ix_list (pv 1) jab) jab (jax _))
    (jai (jat (i:=8) S.nd rfl (Or.inl rfl) (jau jb7 (pv 8) (jak ix_list (jaM (jaa (jaM jad) (jaa (jaM (jaa (pv 9) (jaa (pv 9) jad jae) jae)) (jaa (jaM (jaa (jaB (jaa (jau jbf (pv 10) jab) (jaa (pv 11) jad jae) ja7)) jad jaE)) (jaa (jaM (jaa (jaB (jaa (pv 10) (jaa (pv 3) jad jae) jae)) jad jaE)) jad jbS) jbS) jbS) jbS)) (pv 2)))))
    (jai (jbc (jcq PySem.F.plainAttrs_list PySem.F.slot_list_append PySem.F.type_list_append jaR (pv 8) (jaa (pv 9) jad jae)))))
    (jai (jbQ (jau ja6 (jak ix_list (pv 1) jab) jab) (jgP (pv 1) jab jdW))))))
    (jaf (jat (i:=6) S.nd rfl (Or.inl rfl) (jag dq (hr.mono (by omega)) rfl jav (jaa (pv 6) (jaa (pv 1) (jaa (pv 2) (jaa (pv 3) jad jae) jae) jae) jae)))
    (jai (jas (jaB (jaa (pv 4) (jaa (jaU jaZ rfl T.m_tuple boot_tuple (jaa (pv 8) jad jae)) (jaa (pv 6) (jaa (jag dq (hr.mono (by omega)) rfl jav (jaa (pv 7) (jaa (pv 1) (jaa (pv 2) (jaa (pv 3) jad jae) jae) jae) jae)) jad jaF) jae) jaF) jae))))))))),?_⟩
  walk_at "rf";refine jbP (fun e=>?_) fun e=>?_
  . subst e
    cases hT;refine q .non H (SameB.refl _ _) ?_ .nil;rw[eL];show _=some (HO.lst [.int (i-0)]);rw[Int.sub_zero]
  cases hT with
  | nil=>exact absurd rfl e
  | @nd t g h rh vb va p here B A h1 h2 h3 h4 h7 h5 h6 =>
  obtain⟨g1,⟨g2,g3⟩,g4,g5⟩:=hG;obtain⟨n1,n2,n3⟩:=hN;have hh:max B.ht A.ht+1<n+1:=hn;refine⟨t,rfl,_,SqT.of h1,rfl,_,_,rfl,_,_,rfl,_,_,rfl,_,_,rfl,rfl,?_⟩;have lh:=h4.len;refine⟨by decide,fun M hM=>?_⟩;have jM:=Same.new hM (.lst []);have eM:upd H M (.lst []) M=some (.lst []):=jac;have eLM:=jM _ _ eL;have LM:M≠L:=fun z=>by rw[z,eL] at hM;cases hM
  have Bx:Box H L:=⟨i,eL⟩;generalize upd H M (.lst [])=H0 at jM eM eLM |-
  refine⟨h,rfl,⟨_,SqT.of (jM _ _ h3)⟩,jgk (K:=K) (a:=h) (xs:=rh.map V.ref) (soI H t L ob g h vb va way i o here rh) ⟨M,[],_,_,_,rfl,LM,hM,jM.b,by rw[eLM];congr 4;omega,eM,.nil,fun _=>rfl⟩ (fun j σ Hh _ ⟨_,_,_,_,_,_,_,_,sB,_⟩=>SqT.of ((SameB.t sB Bx) _ _ h3)) ?_ ?_⟩
  . rintro j z σ Hh hi ⟨M,ms,o9,o10,o11,rfl,ML,nM,sB,eL',eM,am,wm⟩
    rw[xae] at hi;obtain⟨r,hr1,rfl⟩:=xaS.mp hi;obtain⟨x,hx,b,e1,bo'⟩:=h4.getA hr1;have jl:=(xaj.mp hx).1;have tt:=SameB.t sB Bx;walk_at "rf";refine⟨_,SqT.of (tt _ _ e1),rfl,_,_,rfl,_,_,rfl,rfl,?_⟩;have tkx:here.take (j+1)=here.take j++[x]:=by rw[xaZ,hx];rfl
    have tkr:rh.take (j+1)=rh.take j++[r]:=by rw[xaZ,hr1];rfl
    have lmm:ms.length<=900:=by
      have:=am.len;have:=jkf (f:=fW way o) (jp9 way o) i (here.take j);rw[xah] at this;omega
    have fin:∀(M':Addr) (ms':List Addr) (J:Hp),M'≠L->H M'=none->SameB L H J->J L=some (.lst [.int (i-(j:Nat))])->J M'=some (.lst (ms'.map V.ref))->All2 (PcAt J) ms' (spl (fW way o) i (here.take (j+1)))->(way=1->ms'=spl (fun r=>[r,r]) i (rh.take (j+1)))->jlA K (V.ref L) (V.int 0) J fun x_2 H1=>∃i_2,x_2=V.int i_2/\joc (jkn 1) (tC (V.int 0)) jmM (V.int (i_2-1)) [some (V.ref t),some (V.ref L),some (V.int way),some (V.ref ob),some (V.ref g),some (V.ref h),some vb,some va,some (V.ref M'),some (V.ref r),some (V.int x.fst),some (V.ref b)] H1 (soI H t L ob g h vb va way i o here rh (j+1)):=fun M' ms' J n1 n2 s1 e3 e4 a5 w6=>by
      refine ixL (SqL.of e3) (i:=0) rfl ⟨_,rfl,_,rfl,L,_,0,0,rfl,rfl,e3,rfl,M',ms',_,_,_,rfl,n1,n2,fun b' o' nb hb=>by rw[jaz nb];exact s1 b' o' nb hb,?_,by rw[jaz n1];exact e4,a5.keepP (SameT.upd e3),w6⟩;rw[jac];show some (HO.lst [V.int (i-(j:Nat)-1)])=_
      congr 4
      omega
    refine ixL (SqL.of eL') (i:=0) rfl ⟨rfl,jbP (fun z=>?_) fun z=>?_⟩
    . have ij:i=(j:Nat):=by
        have:=V.int.inj z;omega
      refine⟨by decide,fun p1 k1=>⟨by decide,fun p2 k2=>⟨_,rfl,by decide,fun p3 k3=>⟨by decide,fun p4 k4=>⟨by decide,fun p5 k5=>⟨by decide,fun p6 k6=>⟨by decide,fun p7 k7=>?_⟩⟩⟩⟩⟩⟩⟩;have s1:=Same.new k1 (.lst []);have f1:upd Hh p1 (.lst []) p1=some (.lst []):=jac;generalize upd Hh p1 (.lst [])=H1 at k2 k3 k4 k5 k6 k7 s1 f1 |-
      have s2:=Same.new k2 (.lst [.ref r,.ref r]);have f2:upd H1 p2 (.lst [.ref r,.ref r]) p2=some (.lst [.ref r,.ref r]):=jac;have f1:=s2 _ _ f1;have s1:=s1.trans s2;generalize upd H1 p2 (.lst [.ref r,.ref r])=H2 at k3 k4 k5 k6 k7 s1 f1 f2 |-
      have s3:=Same.new k3 (.tup [.int (x.1+4000001),.ref b]);have f3:upd H2 p3 (.tup [.int (x.1+4000001),.ref b]) p3=some (.tup [.int (x.1+4000001),.ref b]):=jac;have f1:=s3 _ _ f1;have f2:=s3 _ _ f2;have s1:=s1.trans s3;generalize upd H2 p3 (.tup [.int (x.1+4000001),.ref b])=H3 at k4 k5 k6 k7 s1 f1 f2 f3 |-
      have s4:=Same.new k4 (.lst [.ref p3]);have f4:upd H3 p4 (.lst [.ref p3]) p4=some (.lst [.ref p3]):=jac;have f1:=s4 _ _ f1;have f2:=s4 _ _ f2;have f3:=s4 _ _ f3;have s1:=s1.trans s4;generalize upd H3 p4 (.lst [.ref p3])=H4 at k5 k6 k7 s1 f1 f2 f3 f4 |-
      have s5:=Same.new k5 (.tup [.int x.1,.ref ob]);have f5:upd H4 p5 (.tup [.int x.1,.ref ob]) p5=some (.tup [.int x.1,.ref ob]):=jac;have f1:=s5 _ _ f1;have f2:=s5 _ _ f2;have f3:=s5 _ _ f3;have f4:=s5 _ _ f4;have s1:=s1.trans s5;generalize upd H4 p5 (.tup [.int x.1,.ref ob])=H5 at k6 k7 s1 f1 f2 f3 f4 f5 |-
      have s6:=(Same.new k6 (.lst [.ref p5])).trans (Same.new k7 (.lst [.ref p1,.ref p2,.ref p4,.ref p6]));have f6:=Same.new k7 (.lst [.ref p1,.ref p2,.ref p4,.ref p6]) _ _ (show upd H5 p6 (.lst [.ref p5]) p6=some (.lst [.ref p5]) from jac);have f7:upd (upd H5 p6 (.lst [.ref p5])) p7 (.lst [.ref p1,.ref p2,.ref p4,.ref p6]) p7=some (.lst [.ref p1,.ref p2,.ref p4,.ref p6]):=jac;have f1:=s6 _ _ f1;have f2:=s6 _ _ f2;have f3:=s6 _ _ f3;have f4:=s6 _ _ f4;have f5:=s6 _ _ f5;have sA:=s1.trans s6;generalize upd (upd H5 p6 (.lst [.ref p5])) p7 (.lst [.ref p1,.ref p2,.ref p4,.ref p6])=J at sA f1 f2 f3 f4 f5 f6 f7 |-
      clear s1 s2 s3 s4 s5 s6 k1 k2 k3 k4 k5 k6 k7;have eM7:=sA _ _ eM;have eL7:=sA _ _ eL';have am7:=am.keepP sA.t;have tJ:=tt.trans sA.t;have done:∀(y:Addr) (zs:List Addr),J y=some (.lst (zs.map V.ref))->zs.length<=2->(∀J',Same J J'->All2 (PcAt J') zs (fW way o x))->(way=1->zs=[r,r])->rCat (V.ref M) (V.ref y) J fun x_1 H1=>jlA K (V.ref L) (V.int 0) H1 fun x_2 H1=>∃i_2,x_2=V.int i_2/\joc (jkn 1) (tC (V.int 0)) jmM (V.int (i_2-1)) [some (V.ref t),some (V.ref L),some (V.int way),some (V.ref ob),some (V.ref g),some (V.ref h),some vb,some va,some x_1,some (V.ref r),some (V.int x.fst),some (V.ref b)] H1 (soI H t L ob g h vb va way i o here rh (j+1)):=fun y zs ey lz hz wz=>by
        refine⟨M,y,_,_,rfl,rfl,eM7,ey,xaQ (jaD (by rw[xaa,xaa];omega)),fun M' hM'=>?_⟩;have j':=Same.new hM' (.lst (ms.map V.ref++zs.map V.ref));have ML':M'≠L:=fun z=>by rw[z,eL7] at hM';cases hM'
        refine fin M' (ms++zs) _ ML' ?_ (sB.trans (sA.trans j').b) (j' _ _ eL7) (by rw[jac,xaf]) ?_ fun w=>?_
        . cases e:H M' with
          | none=>rfl
          | some u =>
            have:=(sB.trans sA.b) M' u ML' e;rw[hM'] at this;cases this
        . rw[tkx,jdp,if_pos (by rw[xah,ij]; omega)]
          exact (am7.keepP j'.t).app (hz _ j')
        . rw[tkr,jdp,if_pos (by rw[xah,ij];omega),wm w,wz w]
      have ww:way=0\/way=1\/way=2\/way=3:=by omega
      rcases ww with rfl | rfl | rfl | rfl
      . exact ixL (SqL.of f7) (i:=0) rfl (done p1 [] f1 (by decide) (fun J' _=>.nil) fun z=>absurd z (by decide))
      . exact ixL (SqL.of f7) (i:=1) rfl (done p2 [r,r] f2 (xag _) (fun J' s'=>.cons ⟨b,s' _ _ (tJ _ _ e1),(bo'.keep tJ).keep s'.t⟩ (.cons ⟨b,s' _ _ (tJ _ _ e1),(bo'.keep tJ).keep s'.t⟩ .nil)) fun _=>rfl)
      . exact ixL (SqL.of f7) (i:=2) rfl (done p4 [p3] f4 (xb6 1) (fun J' s'=>.cons ⟨b,s' _ _ f3,(bo'.keep tJ).keep s'.t⟩ .nil) fun z=>absurd z (by decide))
      . exact ixL (SqL.of f7) (i:=3) rfl (done p6 [p5] f6 (xb6 1) (fun J' s'=>.cons ⟨ob,s' _ _ f5,(bo.keep tJ).keep s'.t⟩ .nil) fun z=>absurd z (by decide))
    . have ij:i≠(j:Nat):=fun e=>z (by rw[e,Int.sub_self])
      refine⟨.inl ⟨_,SqL.of eM⟩,M,_,_,rfl,rfl,eM,jaD (by rw[xaa];omega),?_⟩;have tu:=SameT.upd (ys:=ms.map V.ref++[V.ref r]) eM;refine fin M (ms++[r]) _ ML nM (fun b' o' nb hb=>?_) (by rw[jaz ML.symm];exact eL') (by rw[jac,xaf];rfl) ?_ fun w=>?_
      . have:b'≠M:=fun z=>by rw[z,nM] at hb; cases hb
        rw[jaz this];exact sB b' o' nb hb
      . rw[tkx,jdp,if_neg (by rw[xah]; omega)]
        exact (am.keepP tu).app (.cons ⟨b,(tt.trans tu) _ _ e1,bo'.keep (tt.trans tu)⟩ .nil)
      . rw[tkr,jdp,if_neg (by rw[xah];omega),wm w]
  . rintro σ Hh ⟨M,ms,o9,o10,o11,rfl,ML,nM,sB,eL',eM,am,wm⟩
    walk_at "rf";rw[xaa,lh] at eL' am;rw[xa4] at am;rw[xaa,xa4] at wm;have tt:=SameB.t sB Bx;have pl:(Tr.nd p here B A).pcs=here++B.pcs++A.pcs:=rfl;have hbb:∀x∈here,-4<=x.1/\x.1<=2000010:=fun x hx=>hB x (xaY _ (xaY _ hx));have tie:=jn6 am.len lh n1 hbb wm;refine⟨vb,L,ob,way,i-here.length,o,B,c,rfl,h5.keep tt,by omega,g4,c5,n2,fun x hx=>hB x (xaY _ (xaz _ hx)),eL',⟨w0,w4⟩,bo.keep tt,fun v1 H1 s1 f1 t1=>⟨_,.inl ⟨SqL.of (s1 _ _ ML eM),fun l hl=>?_⟩⟩⟩;have T1:=SameB.t s1 ⟨_,eL'⟩;have j:=Same.new hl (.tup (ms.map V.ref));have el:upd H1 l (.tup (ms.map V.ref)) l=some (.tup (ms.map V.ref)):=jac;have f1':=j _ _ f1;have t2:=t1.keep j.t;have T2:=tt.trans (T1.trans j.t);have s2:=sB.trans (s1.trans j.b);have am2:=am.keepP (T1.trans j.t);generalize upd H1 l (.tup (ms.map V.ref))=H2 at el f1' t2 T2 s2 am2 |-
    refine⟨va,L,ob,way,i-here.length-B.pcs.length,o,A,c,rfl,h6.keep T2,by omega,g5,c5,n3,fun x hx=>hB x (xaz _ hx),f1',⟨w0,w4⟩,bo.keep T2,fun v2 H3 s3 f3 t3=>⟨by decide,fun r hr=>?_⟩⟩;have T3:=SameB.t s3 ⟨_,f1'⟩;have j3:=Same.new hr (.tup [.ref g,.ref l,v1,v2]);have T4:=T3.trans j3.t;refine q (.ref r) _ (s2.trans (s3.trans j3.b)) ?_ (.nd (rs:=ms) jac ⟨(T2.trans T4) _ _ h2.1,h2.2⟩ (T4 _ _ el) (am2.keepP T4) tie (t2.keep T4) (t3.keep j3.t));rw[j3 _ _ f3,pl,xad,xad]
    congr 4
    omega
theorem jmy (T:Tx K mg t1 t2) (F:At K mg "_law_spoilt" jbu ["tree","left","way","other"] []):∀n:Nat,jao P w K mg base CX0 (1+n) "_law_spoilt" ["tree","left","way","other"] [] (jke n)
 | 0=>F.ok (k:=0) jb3 (fun vs H Q E ⟨_,_,_,_,_,_,_,_,_,_,z,_⟩=>absurd z (xaK _)) fun f cdv Ar outer s H vs Q E hr ⟨_,_,_,_,_,_,_,_,_,_,z,_⟩=>absurd z (xaK _)
 | n+1=>jn7 T F (jmy T F n)
theorem ok_so (T:Tx K mg t1 t2) (F:At K mg "_law_spoilt" jbu ["tree","left","way","other"] []):jao P w K mg base CX0 9 "_law_spoilt" ["tree","left","way","other"] [] (jke 8):=by
 exact jmy T F 8
def WrT (xs:List Dsc) (H:Hp) (v:V):Prop:=∃T:Tr,TrW H v T/\T.Good 5/\T.ht<=7/\¬J T xs
theorem WrT.keep {xs:List Dsc} {v:V} (h:WrT xs H v) (s:SameT H H'):WrT xs H' v:=let ⟨T,a,b⟩:=h;⟨T,a.keep s,b⟩
structure WrS (H H':Hp) (L M:Addr) (xs:List Dsc) (ws:List V) (k:Nat):Prop where
 ML:M≠L
 nM:H M=none
 sB:SameB L H H'
 st:Sta H' L
 eM:H' M=some (.lst ws)
 al:∀z∈ws,WrT xs H' z
 l:ws.length<=k
theorem WrS.keep {H'':Hp} {xs:List Dsc} {ws:List V} (h:WrS H H' L M xs ws k) (s:Same H' H''):WrS H H'' L M xs ws k:=⟨h.ML,h.nM,h.sB.trans s.b,h.st.keep s,s _ _ h.eM,fun z hz=>(h.al z hz).keep s.t,h.l⟩
theorem WrS.mono {xs:List Dsc} {ws:List V} {m:Nat} (h:WrS H H' L M xs ws k) (l:k<=m):WrS H H' L M xs ws m:=⟨h.ML,h.nM,h.sB,h.st,h.eM,h.al,xav h.l l⟩
theorem WrS.app {xs:List Dsc} {ws:List V} {z:V} (h:WrS H H' L M xs ws k) (hz:WrT xs H' z):WrS H (upd H' M (.lst (ws++[z]))) L M xs (ws++[z]) (k+1):=by
 have tu:SameT H' (upd H' M (.lst (ws++[z]))):=fun b vs hb=>by
  rw[jaz (fun e=>by rw[e,h.eM] at hb;cases hb)];exact hb
 refine⟨h.ML,h.nM,fun b o nb hb=>?_,?_,jac,fun y hy=>?_,by rw[xad];exact Nat.succ_le_succ h.l⟩
 ·rw[jaz (jar hb h.nM)];exact h.sB b o nb hb
 ·obtain⟨u,w,h1,h2⟩:=h.st;exact⟨u,w,by rw[jaz h.ML.symm];exact h1,h2⟩
 ·rcases xas.mp hy with hy | hy
  ·exact (h.al y hy).keep tu
  ·rw[xar.mp hy];exact hz.keep tu
theorem WrS.box {H'':Hp} {xs:List Dsc} {ws:List V} (h:WrS H H' L M xs ws k) (s:SameB L H' H'') (b:Sta H'' L):WrS H H'' L M xs ws k:=⟨h.ML,h.nM,h.sB.trans s,b,s _ _ h.ML h.eM,fun z hz=>(h.al z hz).keep (h.st.t s),h.l⟩
theorem jn8 (p:Pt):PlG (jms p):=by
 unfold jms;split
 ·exact⟨⟨jcR _ (by decide),jcR _ (by decide),jcR _ (by decide)⟩,jcR _ (by decide)⟩
 ·exact⟨⟨jcR _ (by decide),jcR _ (by decide),jcR _ (by decide)⟩,jcR _ (by decide)⟩
theorem jqa {n:Bool} {a b:Addr} {x y:List Pt} (ha:BoAt H a x) (hb:BoAt H b y) (q:Q (.bl (if n=true then !decide (x=y) else decide (x=y))) H):jit K n (.ref a) (.ref b) H Q:=by
 obtain⟨rs,e1,s1⟩:=ha;obtain⟨rs',e2,s2⟩:=hb;have sh:∀z:List Pt,SeqAt.shaped (jh3 z)=true:=fun z=>by
  obtain⟨h1,h2,_⟩:=jgw z;unfold SeqAt.shaped;rw[h1,decide_eq_true (by omega)];rfl
 refine⟨_,_,jff e1 s1,jff e2 s2,sh x,sh y,?_⟩;have e:PyData.eqv (jh3 x) (jh3 y)=decide (x=y):=by
  have e:PyData.eqv (jh3 x) (jh3 y)=PyData.eqvAll (jeF (x.map pl4)) (jeF (y.map pl4)):=rfl;rw[e,jdX];exact decide_eq_decide.mpr ⟨jj6,fun h=>by rw[h]⟩
 rw[e];exact q
def wrI (H:Hp) (t L:Addr) (xs:List Dsc) (k:Nat):L2.St->Hp->Prop:=fun σ H'=>∃(M:Addr) (ws:List V) (o3 o4 o5:Option V),σ=[some (.ref t),some (.ref L),some (.ref M),o3,o4,o5]/\WrS H H' L M xs ws k
def wrJ (H:Hp) (t L:Addr) (xs:List Dsc) (pc:List (Int × List Pt)) (k:Nat):L2.St->Hp->Prop:=fun σ H'=>∃(M P:Addr) (ws:List V) (rs:List Addr) (at':Nat) (o5:Option V),σ=[some (.ref t),some (.ref L),some (.ref M),some (.ref P),some (.int (at':Nat)),o5]/\WrS H H' L M xs ws k/\P≠M/\H' P=some (.lst (rs.map V.ref))/\All2 (PcAt H') rs pc/\at'<pc.length
theorem jn9 {l p:Addr} {rs:List Addr} {xs:List (Int × List Pt)} (hl:H l=some (.tup (rs.map V.ref))) (h:All2 (PcAt H) rs xs) (hp:H p=some (.tup [])) (q:Q (.bl (!decide (rs=[]))) H):jit K true (.ref l) (.ref p) H Q:=by
  obtain⟨a,b⟩:=jgJ xs;refine⟨.tuple (xs.map pcD),.tuple [],.tup (SqT.of hl) (jfw h),.tup (SqT.of hp) .nil,?_,by decide,?_⟩
  . unfold SeqAt.shaped
    simp [PyData.canLay0,PyData.depth,a];omega
  . have e:PyData.eqv (.tuple (xs.map pcD)) (.tuple [])=decide (rs=[]):=by
      have l:=h.len;cases xs with
      | nil =>
        have:rs=[]:=xaE.mp l;subst this;rfl
      | cons x xs =>
        have:rs≠[]:=fun z=>by rw[z] at l;cases l
        rw[decide_eq_false this];rfl
    rw[if_pos rfl,e];exact q
theorem jkg (f:Int × List Pt->List (Int × List Pt)):∀(i:Int) (T:Tr),(spo f i T).ht=T.ht
  | _,.nil=>rfl
  | i, .nd p h b a => by
    show max (spo f _ b).ht (spo f _ a).ht+1=max b.ht a.ht+1;rw[jkg f _ b,jkg f _ a]
theorem jkh {α:Type} {f:α->List α} (hf:∀x,(f x).length<=2):∀(i:Int) (h:List α),(spl f i h).length<=h.length+1
  | _,[]=>xaO _
  | i, x :: h => by
    show ((if i=0 then f x else [x])++spl f (i-1) h).length<=_;have b:=hf x;rw[xad,xaA];by_cases c:i=0
    . rw[if_pos c,jfy f h (by omega)]
      omega
    . rw[if_neg c]
      have a:=jkh hf (i-1) h;show 1+_<=_;omega
theorem jfA {f:Int × List Pt->List (Int × List Pt)} (hf:∀x,jjx x.2->∀y∈f x,jjx y.2) (hl:∀x,(f x).length<=2):∀(i:Int) {T:Tr},T.Good 4->(spo f i T).Good 5
  | _,.nil,_=>trivial
  | i,.nd p h b a,⟨g1,⟨g2,g3⟩,g4,g5⟩=>⟨g1,⟨fun y hy=>by
      rcases jgK hy with h1 | ⟨x,hx,h1⟩
      . exact g2 y h1
      . exact hf x (g2 x hx) y h1,by
      have:=jkh hl i h;show (spl f i h).length<=5;omega⟩,jfA hf hl _ g4,jfA hf hl _ g5⟩
theorem fW_ok {o:List Pt} (h:way=3->jjx o) (w:0<=way/\way<4) (x:Int × List Pt) (hx:jjx x.2):∀y∈fW way o x,jjx y.2:=fun y hy=>by
 unfold fW at hy;by_cases c0:way=0
 ·rw[if_pos c0] at hy;cases hy
 ·rw[if_neg c0] at hy;by_cases c1:way=1
  ·rw[if_pos c1] at hy;simp only[xaG,xbH,or_false,or_self] at hy;rw[hy];exact hx
  ·rw[if_neg c1] at hy;by_cases c2:way=2
   ·rw[if_pos c2] at hy;rw[xar.mp hy];exact hx
   ·rw[if_neg c2] at hy;rw[xar.mp hy];exact h (by omega)
theorem jqb {o:List Pt} {x:Int × List Pt} (h:way=3->o≠x.2) (w:0<=way/\way<4):¬[x].Perm (fW way o x):=fun p=>by
 unfold fW at p;by_cases c0:way=0
 ·rw[if_pos c0] at p;have:=p.length_eq;cases this
 ·rw[if_neg c0] at p;by_cases c1:way=1
  ·rw[if_pos c1] at p;have:=p.length_eq;cases this
  ·rw[if_neg c1] at p;by_cases c2:way=2
   ·rw[if_pos c2] at p;have:=p.mem_iff.mp (xar.mpr rfl);have:=congrArg Prod.fst (xar.mp this);have:x.1=x.1+4000001:=this;omega
   ·rw[if_neg c2] at p;have:=p.mem_iff.mp (xar.mpr rfl);exact h (by omega) (congrArg Prod.snd (xar.mp this)).symm
inductive spWri (vs:List V) (H:Hp) (Q:VK):Prop
 | mk (v:V) (L:Addr) (T:Tr) (xs:List Dsc) (_:vs=[v,.ref L]) (_:TrAt H v T) (_:T.ht<=7) (_:T.Good 4) (_:T.RP) (_:Sta H L) (_:(xs.map (·.1)).Nodup) (_:(∀x∈xs,PD 6 x)) (_:(∀x∈xs,-4<=x.1/\x.1<=2000010)) (_:xs≠[]) (_:J T xs) (_:T.pcs.length<=800) (_:∀(l:Addr) (ws:List V) (H':Hp),SameB L H H'->Sta H' L->H' l=some (.lst ws)->l≠L->(∀z∈ws,WrT xs H' z)->ws.length<=20->Q (.ref l) H')
def spWr:Sp:=fun vs H Q _=>spWri vs H Q
theorem ok_wr (T:Tx K mg t1 t2) (F:At K mg "_law_wrong" ja8 ["tree","state"] []) (dS:jao P w K mg base CX0 17 "_law_cut_off" ["tree"] [] jp5) (db:jao P w K mg base CX0 16 "_law_pieces" ["tree"] [] (jh1 9)) (De:jao P w K mg base CX0 1 "_law_askew" ["tree"] [] jp7) (du:jao P w K mg base CX0 9 "_law_twin" ["tree"] [] (jkd 8)) (da:jao P w K mg base CX0 1 "_law_next" ["state","many"] [] jju) (dq:jao P w K mg base CX0 9 "_law_spoilt" ["tree","left","way","other"] [] (jke 8)):jao P w K mg base CX0 18 "_law_wrong" ["tree","state"] [] spWr:=by
 refine F.ok jdj (by walk_at "ar") (fun f cdv Ar outer s H vs Q E hr h=>?_);obtain⟨v,L,Tt,xs,rfl,hT,h7',hG,hR,hL,nd,hk,bd,nx,hJ,l8,q⟩:=h;have S:=jdj;have hW:=jdn hT hJ nd;have hD:=jn5 hJ nd;have hkz:∀x∈xs,SZ x.2.1/\VF x.2.2:=fun x hx=>⟨(hk x hx).z,(hk x hx).f⟩;have hB:∀y∈Tt.pcs,-4<=y.1/\y.1<=2000010:=fun y hy=>by
  obtain⟨x,hx,us,rfl,_⟩:=jj1 hJ hG hkz y hy;exact bd x hx
 have np:Tt.pcs≠[]:=fun e=>by
  obtain⟨x,hx⟩:=xbM _ nx;obtain⟨y,hy,_⟩:=jj0 hJ x hx;rw[e] at hy;cases hy
 obtain⟨pc,epc⟩:∃pc,pc=Tt.pcs:=⟨_,rfl⟩;obtain⟨t,ev⟩:∃t,v=.ref t:=by
  cases hT with
  | nil=>exact absurd rfl np
  | @nd t=>exact⟨t,rfl⟩
 subst ev;refine⟨_,(jaN (wrI H t L xs 1) (jat (i:=2) S.nd rfl (Or.inl rfl) (jaM (jaa (jag dS hr.m rfl jav (jaa (pv 0) jad jae)) jad jaF)))
  (jaN (wrI H t L xs 2) (jaL (jaq (jcm (jgi hr)) (jau jb7 (jag db hr.m rfl jav (jaa (jak jam (pv 0) jab) jad jap)) (jag db hr.m rfl jav (jaa (jak jam (pv 0) jab) jad jap))) (jaM jad) (jax _))
  (jai (jbc (jcq PySem.F.plainAttrs_list PySem.F.slot_list_append PySem.F.type_list_append jaR (pv 2) (jaa (jaB (jaa (jak jam (pv 0) jab) (jaa (jak jam (pv 0) jab) (jaa (jak jam (pv 0) jab) (jaa (jak jam (pv 0) jab) jad jap) jap) jap) jap)) jad jaE))))
  jaw)
  (jaN (wrI H t L xs 3) (jaL (jaq (jcm (jgi hr)) (jak jam (pv 0) jab) (jaB jad) (jax _))
  (jai (jbc (jcq PySem.F.plainAttrs_list PySem.F.slot_list_append PySem.F.type_list_append jaR (pv 2) (jaa (jag De hr.m rfl jav (jaa (pv 0) jad jae)) jad jaF))))
  jaw)
  (jaN (wrI H t L xs 4) (jaL (jaq jd3 (jag du hr.m rfl jav (jaa (pv 0) jad jae)) jaO (jax _))
  (jai (jbc (jcq PySem.F.plainAttrs_list PySem.F.slot_list_append PySem.F.type_list_append jaR (pv 2) (jaa (jag du hr.m rfl jav (jaa (pv 0) jad jae)) jad jaF))))
  jaw)
  (jaf (jat (i:=3) S.nd rfl (Or.inr rfl) (jag db hr.m rfl jav (jaa (pv 0) jad jae)))
  (jaN (wrJ H t L xs pc 4) (jat (i:=4) S.nd rfl (Or.inr rfl) (jag da hr.m rfl jav (jaa (pv 1) (jaa (jaG jaI rfl T.m_len PySem.boot_len (jaa (pv 3) jad jae)) jad jaF) jae)))
  (jaN (wrJ H t L xs pc 5) (jbp PassesOwn.never rfl (jbk (jaY sl_list (jec rfl (N':=["number","board","pieces","at"]) (ix:=[3,4]) (xs0:=["number","board"]) ⟨rfl,rfl,by decide +kernel,by decide +kernel,by decide +kernel,(show ∀y:Str × NameKind,y∈_->y.2=NameKind.free->(jah ja8).names.lookup y.1=some .cell\/(jah ja8).names.lookup y.1=some .free from by decide +kernel),(.cons rfl (.inl rfl) rfl (.cons rfl (.inl rfl) rfl .nil))⟩ (jbk (pv 3)) (fun _ _ _ _=>jgr (K:=K) (n:=2) rfl rfl (jay (jan (i:=0) (show (["number","board","pieces","at"]:List Str).Nodup from by decide +kernel) rfl (Or.inl rfl)) (jay (jan (i:=1) (show (["number","board","pieces","at"]:List Str).Nodup from by decide +kernel) rfl (Or.inl rfl)) jbj))) (fun _ _ _ _=>(jea (jaq (jmR (K:=K) rfl (jgi hr)) (pv 1) (jak (ja0 (K:=K) rfl) (jak (jgW (K:=K) rfl) (pv 2) (pv 3)) jab) (jax _)))) (fun _ _ _ _=>(pv 1))) jbl (ja5 jab))) (jan (i:=5) S.nd rfl (Or.inl rfl))
  (jai (jbc (jcq PySem.F.plainAttrs_list PySem.F.slot_list_append PySem.F.type_list_append jaR (pv 2) (jaa (jag dq hr.m rfl jav (jaa (pv 0) (jaa (jaM (jaa (pv 4) jad jae)) (jaa jab (jaa (pv 5) jad jae) jaj) jbS) jae)) jad jaF)))))
  (jai (jas (jau jb7 (pv 2) (jbb rfl (N':=["way","tree","at"]) (ix:=[0,4]) ⟨rfl,rfl,by decide +kernel,by decide +kernel,by decide +kernel,(show ∀y:Str × NameKind,y∈_->y.2=NameKind.free->(jah ja8).names.lookup y.1=some .cell\/(jah ja8).names.lookup y.1=some .free from by decide +kernel),(.cons rfl (.inl rfl) rfl (.cons rfl (.inl rfl) rfl .nil))⟩ (jaV rfl T.m_range (jaa jab jad jaj)) (fun _ _ _ _=>jan (i:=0) (show (["way","tree","at"]:List Str).Nodup from by decide +kernel) rfl (Or.inl rfl)) (fun _ _ _ _=>jbd) (fun _ _ _ _=>(jag dq hr.m rfl jav (jaa (pv 1) (jaa (jaM (jaa (pv 2) jad jae)) (jaa (pv 0) (jaa (jaB jad) jad jaE) jae) jbS) jae)))))))))))))),?_⟩
 cases hW with
 | @nd _ g h rh vb va p here B A h1 h2 h3 h4 h7 w5 w6 =>
 have hT0:=hT;cases hT with
 | @nd _ g' h' rh' vb' va' _ _ _ _ k1 k2 k3 k4 h5 h6 =>
 rw[h1] at k1;cases k1;clear k2 k3 k4 rh';have hW:TrW H (.ref t) (.nd p here B A):=.nd h1 h2 h3 h4 h7 w5 w6;have hG0:=hG;obtain⟨g1,⟨g2,g3⟩,g4,g5⟩:=hG;have hh:max B.ht A.ht+1<=7:=h7';have lp:(here++B.pcs++A.pcs).length<=800:=l8;rw[xad,xad] at lp;have lh:=h4.len;walk_at "rf";have st0:∀(x:V) (H':Hp),Same H H'->WrT xs H' x->1<=sizeLine/\∀p:Addr,H' p=none->wrI H t L xs 1 [some (V.ref t),some (V.ref L),some (V.ref p),none,none,none] (upd H' p (HO.lst [x])):=fun x H' s' hw=>⟨by decide,fun p hp=>by
  have j:=Same.new hp (.lst [x]);have b':=hL.keep s';exact⟨p,[x],_,_,_,rfl,b'.ne hp,s'.noneN hp,(s'.trans j).b,b'.keep j,jac,fun z hz=>by rw[xar.mp hz];exact hw.keep j.t,xag _⟩⟩
 refine⟨⟨t,g,h,rh,vb,va,p,here,B,A,4,rfl,h1,h2,h3,h4,h7,w5,w6,h5,h6,⟨by omega,by omega⟩,⟨g4,g5⟩,by decide,⟨by omega,by omega⟩,fun nB v' H' s' w'=>st0 v' H' s' ⟨_,w',⟨g1,⟨g2,by omega⟩,trivial,g5.mono (by decide)⟩,by show max 0 A.ht+1<=7;omega,(jp1 hJ).1 nB⟩,fun nA v' H' s' w'=>st0 v' H' s' ⟨_,w',⟨g1,⟨g2,by omega⟩,g4.mono (by decide),trivial⟩,by show max B.ht 0+1<=7;omega,(jp1 hJ).2 nA⟩,fun H' s'=>st0 .non H' s' ⟨.nil,.nil,trivial,xaO _,fun h=>nx h⟩⟩,?_⟩;rintro σ1 H1 ⟨M,ws,o3,o4,o5,rfl,W⟩;walk_at "rf";have tt:=hL.t W.sB;refine⟨?_,?_⟩
 ·refine ixT (SqT.of (tt _ _ h1)) (i:=2) rfl ⟨vb,B,4,rfl,h5.keep tt,by omega,g4,by decide,by omega,fun l1 J1 r1 n1 s1 e1 a1=>?_⟩;have T1:=tt.trans s1.t;refine ixT (SqT.of (T1 _ _ h1)) (i:=3) rfl ⟨va,A,4,rfl,h6.keep T1,by omega,g5,by decide,by omega,fun l2 J2 r2 n2 s2 e2 a2=>?_⟩;have q1:=a1.len;have q2:=a2.len;refine jjR (s2 _ _ e1) e2 (by omega) fun l3 J3 n3 s3 e3=>⟨by decide,fun p3 hp3=>?_⟩;have a3:=(a1.keepP (s2.trans s3).t).app (a2.keepP s3.t);have j4:=Same.new hp3 (.lst []);refine jfx (j4 _ _ e3) (a3.keepP j4.t) jac ⟨_,rfl,?_⟩;have W3:=W.keep (s1.trans (s2.trans (s3.trans j4)));generalize upd J3 p3 (.lst [])=J4 at W3 |-
  have T3:=hL.t W3.sB;refine jbP (fun z=>?_) fun z=>⟨M,ws,_,_,_,rfl,W3.mono (by decide)⟩;have ne:B.pcs++A.pcs≠[]:=fun e=>by
   obtain⟨eb,ea⟩:=xbV.mp e;have:r1++r2=[]:=by
    rw[xaE.mp (show r1.length=0 by rw[q1,eb];rfl),xaE.mp (show r2.length=0 by rw[q2,ea];rfl)];rfl
   rw[decide_eq_true this] at z;cases z
  have k:=SqT.of (K:=K) (T3 _ _ h1);refine⟨.inl ⟨_,SqL.of W3.eM⟩,ixT k (i:=0) rfl (ixT k (i:=1) rfl (ixT k (i:=3) rfl (ixT k (i:=2) rfl ⟨by decide,fun r hr=>?_⟩)))⟩;have j5:=Same.new hr (.tup [.ref g,.ref h,va,vb]);have W4:=W3.keep j5;have T4:=T3.trans j5.t;exact⟨M,_,_,rfl,rfl,W4.eM,jaD (by have:=W4.l;omega),M,_,_,_,_,rfl,W4.app ⟨.nd p here A B,.nd (rs:=rh) jac ⟨T4 _ _ h2.1,h2.2⟩ (T4 _ _ h3) (h4.keepP T4) h7 (w6.keep T4) (w5.keep T4),⟨g1,⟨g2,by omega⟩,g5.mono (by decide),g4.mono (by decide)⟩,by show max A.ht B.ht+1<=7;omega,jp0 hG0 hkz hJ ne⟩⟩
 clear tt W;rintro σ2 H2 ⟨M,ws,o3,o4,o5,rfl,W⟩;walk_at "rf";have tt:=hL.t W.sB;refine⟨?_,?_⟩
 ·refine ixT (SqT.of (tt _ _ h1)) (i:=1) rfl ⟨by decide,fun p3 hp3=>?_⟩;have j4:=Same.new hp3 (.tup []);refine jn9 ((tt.trans j4.t) _ _ h3) (h4.keepP (tt.trans j4.t)) jac ⟨_,rfl,?_⟩;have W3:=W.keep j4;generalize upd H2 p3 (.tup [])=J4 at W3 |-
  have T3:=hL.t W3.sB;refine jbP (fun z=>?_) fun z=>⟨M,ws,_,_,_,rfl,W3.mono (by decide)⟩;have ne:here≠[]:=fun e=>by
   rw[decide_eq_true (xaE.mp (show rh.length=0 by rw[lh,e];rfl))] at z;cases z
  refine⟨.inl ⟨_,SqL.of W3.eM⟩,t,g,h,vb,va,p,rfl,T3 _ _ h1,⟨T3 _ _ h2.1,h2.2⟩,fun r g' J s' er ig=>?_⟩;have W4:=W3.keep s';have T4:=T3.trans s'.t;exact⟨M,_,_,rfl,rfl,W4.eM,jaD (by have:=W4.l;omega),M,_,_,_,_,rfl,W4.app ⟨.nd (jms p) here B A,.nd (rs:=rh) er ig (T4 _ _ h3) (h4.keepP T4) h7 (w5.keep T4) (w6.keep T4),⟨jn8 p,⟨g2,by omega⟩,g4.mono (by decide),g5.mono (by decide)⟩,h7',jnY hR nd hkz ne hJ⟩⟩
 clear tt W;rintro σ3 H3 ⟨M,ws,o3,o4,o5,rfl,W⟩;walk_at "rf";have tt:=hL.t W.sB;refine⟨?_,?_⟩
 ·refine⟨.ref t,_,4,rfl,hW.keep tt,by show max B.ht A.ht+1<8;omega,hG0,by decide,fun v1 J1 s1 hv1=>?_⟩;have W1:=W.keep s1;have T1:=hL.t W1.sB;rcases hv1 with ⟨_,rfl⟩ | ⟨T',e1,_,ne1⟩
  ·show (if V.non=V.non then _ else _);rw[if_pos rfl];exact⟨M,ws,_,_,_,rfl,W1.mono (by decide)⟩
  ·show (if v1=V.non then _ else _);rw[if_neg ne1];refine⟨.inl ⟨_,SqL.of W1.eM⟩,.ref t,_,4,rfl,hW.keep T1,by show max B.ht A.ht+1<8;omega,hG0,by decide,fun v2 J2 s2 hv2=>?_⟩;have W2:=W1.keep s2;rcases hv2 with ⟨e2,_⟩ | ⟨T2,e2,w2,_⟩
   ·rw[e1] at e2;cases e2
   ·obtain⟨i1,i2⟩:=tw_good (hG0.mono (by decide:4<=5)) e2;exact⟨M,_,_,rfl,rfl,W2.eM,jaD (by have:=W2.l;omega),M,_,_,_,_,rfl,W2.app ⟨T2,w2,i1,by rw[i2];exact h7',jj4 e2 nd⟩⟩
 clear tt W;rintro σ4 H4 ⟨M,ws,o3,o4,o5,rfl,W⟩;walk_at "rf";have tt:=hL.t W.sB;refine⟨.ref t,_,4,rfl,hT0.keep tt,by show max B.ht A.ht+1<9;omega,hG0,by decide,l8,fun P J1 rs nP s1 e1 a1=>⟨?_,?_⟩⟩
 ·have W1:=W.keep s1;have PL:P≠L:=W.st.ne nP;have la:=a1.len;have ll:0<rs.length:=Nat.pos_of_ne_zero fun z=>np (xaE.mp (by rw[<- la];exact z));refine⟨P,rfl,_,.inl (SqL.of e1),L,_,rfl,W1.st,?_,?_,fun J2 d s2 b2 d0 dm=>?_⟩
  ·rw[xaa];omega
  ·rw[xaa];have:rs.length<=800:=by rw[la];exact l8
   omega
  ·obtain⟨k,rfl⟩:=xbn d0;rw[xaa] at dm;exact⟨M,P,ws,rs,k,_,rfl,W1.box s2 b2,(jar W.eM nP).symm,s2 _ _ PL e1,by rw[epc];exact a1.keepP (W1.st.t s2),by rw[epc,<- la];omega⟩
 clear tt W;rintro σ5 H5 ⟨M,P,ws,rs,k,o5,rfl,W,PM,eP,aP,kl⟩;walk_at "rf";have lr:=aP.len;have kr:k<rs.length:=by omega
 obtain⟨xk,hxk,bk,ek,bok⟩:=aP.getA (xac kr);have l8':pc.length<=800:=by rw[epc];exact l8
 have pok:∀x∈pc,jjx x.2:=fun x hx=>hG0.pcs_ok x (by rw[<- epc];exact hx);have htn:(Tr.nd p here B A).ht<8:=by show max B.ht A.ht+1<8;omega
 have wrong:∀(k:Nat),k<pc.length->∀(way:Int) (o:List Pt) (J:Hp) (v':V),0<=way/\way<4->(way=3->jjx o/\∀x,pc[k]?=some x->o≠x.2)->TrW J v' (spo (fW way o) (k:Nat) (.nd p here B A))->WrT xs J v':=fun k kl way o J v' w4 w3 hw=>⟨_,hw,jfA (fW_ok (fun e=>(w3 e).1) w4) (jp9 _ _) _ hG0,by rw[jkg];exact h7',fun hj=>by
  obtain⟨x,hx,pm⟩:=jnW (i:=k) (by rw[<- epc];exact kl) hJ hj;rw[<- epc] at hx;exact jqb (fun e=>(w3 e).2 x hx) w4 pm⟩
 refine⟨⟨_,SqL.of eP⟩,fun acc hacc=>?_,?_⟩
 ·refine jhg (fun i=>match H5 (rs.getD i 0) with | some (.tup [_,v])=>v | _=>.non) (fun i=>decide ((pc.getD i (0,[])).2≠xk.2)) (by rw[xaa];omega) hacc (SqL.of eP) (fun i z v0 J Rt Rn hz l0 s3 hRt hRn=>?_) (fun J j2 e2=>?_)
  ·rw[xae] at hz;obtain⟨r,hr1,rfl⟩:=xaS.mp hz;obtain⟨x,hx,b,e1,bo⟩:=aP.getA hr1;obtain⟨v1,v2,rfl⟩:=len2S l0;have gr:rs.getD i 0=r:=by rw[xab,hr1];rfl
   have gx:pc.getD i (0,[])=x:=by rw[xab,hx];rfl
   simp only[gr,e1,gx] at hRt hRn;refine⟨_,_,rfl,SqT.of (s3 _ _ e1),rfl,_,_,rfl,_,_,rfl,rfl,⟨[_,_],rfl,rfl⟩,?_⟩;refine⟨_,rfl,_,rfl,_,rfl,ixL (SqL.of (s3 _ _ eP)) (i:=k) (v:=.ref rs[k]) (jaK (j:=k) (by rw[xae,xac kr];rfl)) ?_⟩;unfold L2.tC;refine ixT (SqT.of (s3 _ _ ek)) (i:=1) rfl ?_;refine jqa (n:=true) (bo.keep s3.t) (bok.keep s3.t) ?_;refine⟨_,rfl,?_⟩;show (if (if true=true then !decide (x.2=xk.2) else decide (x.2=xk.2))=true then _ else Rn J);by_cases c:x.2=xk.2
   ·rw[if_pos rfl,decide_eq_true c,if_neg (by decide)];exact hRn (decide_eq_false (fun n=>n c)) J (Same.refl _)
   ·rw[if_pos rfl,decide_eq_false c,if_pos (by decide)];exact⟨_,rfl,hRt (decide_eq_true c) J (Same.refl _)⟩
  ·have hz0:∀v∈((List.range (rs.map V.ref).length).filter fun i=>decide ((pc.getD i (0,[])).2≠xk.2)).map (fun i=>match H5 (rs.getD i 0) with | some (.tup [_,v])=>v | _=>.non),∃(b:Addr) (x:Int × List Pt),v=.ref b/\x∈pc/\BoAt H5 b x.2/\x.2≠xk.2:=fun v hv=>by
    obtain⟨i,hi,rfl⟩:=xao.mp hv;obtain⟨hi,hc⟩:=xa2.mp hi;have li:=xaF.mp hi;rw[xaa] at li;obtain⟨x,hx,b,e1,bo⟩:=aP.getA (xac li);have gr:rs.getD i 0=rs[i]:=by rw[xab,xac li];rfl
    have gx:pc.getD i (0,[])=x:=by rw[xab,hx];rfl
    rw[gx] at hc;exact⟨b,x,by rw[gr,e1],xaC hx,bo,of_decide_eq_true hc⟩
   generalize ((List.range (rs.map V.ref).length).filter fun i=>decide ((pc.getD i (0,[])).2≠xk.2)).map (fun i=>match H5 (rs.getD i 0) with | some (.tup [_,v])=>v | _=>.non)=Z0 at e2 hz0;refine⟨acc,_,rfl,SqL.of e2,fun p' hp'=>⟨p',rfl,⟨_,SqL.of jac⟩,?_⟩⟩;have j3:=Same.new hp' (.lst (jb5 Z0 none (some 1)));have e3:upd J p' (.lst (jb5 Z0 none (some 1))) p'=some (.lst (jb5 Z0 none (some 1))):=jac;have hz1:∀v∈jb5 Z0 none (some 1),v∈Z0:=fun v hv=>xbB (xbc hv);have l1:(jb5 Z0 none (some 1)).length<=1:=by
    unfold jb5;rw[HT.sIx_none,show (some (1:Int))=some ((1:Nat):Int) from rfl,HT.sIx_nat,xah];omega
   generalize jb5 Z0 none (some 1)=ZS at j3 e3 hz1 l1 |-
   have s53:=j2.trans j3;have W3:=W.keep s53;have MP':p'≠M:=(jar (j2 _ _ W.eM) hp').symm;generalize upd J p' (.lst ZS)=J3 at e3 s53 W3 |-
   refine jbw (K:=K) (a:=p') (xs:=ZS) (fun i σ Hh=>∃(ws':List V) (o5:Option V),σ=[some (.ref t),some (.ref L),some (.ref M),some (.ref P),some (.int (k:Nat)),o5]/\WrS H Hh L M xs ws' (4+i)/\Hh P=some (.lst (rs.map V.ref))/\All2 (PcAt Hh) rs pc/\Hh p'=some (.lst ZS)/\SameT J3 Hh) ⟨ws,_,rfl,W3,s53 _ _ eP,aP.keepP s53.t,e3,fun _ _ h=>h⟩ (fun i σ Hh _ ⟨_,_,_,_,_,_,e,_⟩=>SqL.of e) ?_ ?_
   ·rintro i z σ Hh hi ⟨ws',o5,rfl,Wh,ePh,aPh,eh,th⟩;obtain⟨b,x,rfl,hx,bo,ne⟩:=hz0 z (hz1 z (xaC hi));have il:=(xaj.mp hi).1;walk_at "rf";refine⟨.inl ⟨_,SqL.of Wh.eM⟩,by decide,fun Lb hLb=>?_⟩;have j:=Same.new hLb (.lst [.int (k:Nat)]);have Tj:=hL.t (Wh.keep j).sB;refine⟨.ref t,Lb,b,3,(k:Nat),x.2,.nd p here B A,4,rfl,hW.keep Tj,htn,hG0,by decide,hD,hB,jac,⟨by decide,by decide⟩,((bo.keep s53.t).keep th).keep j.t,fun v' H' sB' e' w'=>?_⟩;have sF:Same Hh H':=SameB.fresh j hLb sB';have WF:=Wh.keep sF;have tu:=SameT.upd (ys:=ws'++[v']) WF.eM;exact⟨M,_,_,rfl,rfl,WF.eM,jaD (by have:=WF.l;omega),ws'++[v'],(WF.app (wrong k kl 3 x.2 H' v' ⟨by decide,by decide⟩ (fun _=>⟨pok x hx,fun y hy=>by rw[hxk] at hy;cases hy;exact ne⟩) w')).mono (by omega),by rw[jaz PM];exact sF _ _ ePh,aPh.keepP (sF.t.trans tu),by rw[jaz MP'];exact sF _ _ eh,th.trans (sF.t.trans tu)⟩
   ·rintro σ Hh ⟨ws',o5,rfl,Wh,ePh,aPh,eh,th⟩;exact⟨M,P,ws',rs,k,o5,rfl,Wh.mono (by omega),PM,ePh,aPh,kl⟩
 rintro σ6 H6 ⟨M,P,ws,rs,k,o5,rfl,W,PM,eP,aP,kl⟩;walk_at "rf";refine⟨by decide,by decide,fun acc hacc=>jlH (lo:=0) (n:=3) (fun _ y J=>WrT xs J y) (fun _ _ _ _ h s=>h.keep s) (by decide) hacc (fun i J R hi s3 hR=>?_) fun ys J j2 e2 l3 hp=>?_⟩
 ·walk_at "rf";refine⟨by decide,fun Lb hLb=>⟨by decide,fun p0 hp0=>?_⟩⟩;have j:=(Same.new hLb (.lst [.int (k:Nat)])).trans (Same.new hp0 (.tup []));have Tj:=hL.t ((W.keep s3).keep j).sB;exact⟨.ref t,Lb,p0,0+(i:Int),(k:Nat),[],.nd p here B A,4,rfl,hW.keep Tj,htn,hG0,by decide,hD,hB,Same.new hp0 (.tup []) _ _ jac,⟨by omega,by omega⟩,⟨[],jac,.nil⟩,fun v' H' sB' e' w'=>hR v' H' (SameB.fresh j hLb sB') (wrong k kl (0+(i:Int)) [] H' v' ⟨by omega,by omega⟩ (fun e=>absurd e (by omega)) w')⟩
 ·have W2:=W.keep j2;have lw:=W.l;refine⟨M,acc,ws,ys,rfl,rfl,W2.eM,e2,xaQ (jaD (by omega)),fun l hl=>?_⟩;have j:=Same.new hl (.lst (ws++ys));have W3:=W2.keep j;refine q l (ws++ys) _ W3.sB W3.st jac (W2.st.ne hl) (fun z hz=>?_) (by rw[xad];omega);rcases xas.mp hz with hz | hz
  ·exact W3.al z hz
  ·obtain⟨i,hi⟩:=List.getElem?_of_mem hz;exact (hp i z hi).keep j.t
section
variable {α β γ:Type}
theorem jki {R:α->β->Prop} {as as':List α} (p:as'.Perm as):∀{bs:List β},All2 R as bs->∃bs':List β,bs'.Perm bs/\All2 R as' bs':=by
  induction p with
  | nil=>exact fun h=>⟨_,.rfl,h⟩
  | cons x p ih =>
    intro bs h;cases h with
    | cons h t =>
      obtain⟨b',p',a'⟩:=ih t;exact⟨_::b',p'.cons _,.cons h a'⟩
  | swap x y l =>
    intro bs h;cases h with
    | cons h1 t =>
      cases t with
      | cons h2 t=>exact⟨_::_::_,.swap ..,.cons h2 (.cons h1 t)⟩
  | trans p q i1 i2 =>
    intro bs h;obtain⟨b1,p1,a1⟩:=i2 h;obtain⟨b2,p2,a2⟩:=i1 a1;exact⟨b2,p2.trans p1,a2⟩
theorem jhG {R:α->γ->Prop} {f:β->γ}:∀{as:List α} {bs:List β},All2 R as (bs.map f)->All2 (fun a b=>R a (f b)) as bs
 | [],[],_=>.nil
 | _::_,[],h=>nomatch h
 | [],_::_,h=>nomatch h
 | _::_,_::_,.cons h t=>.cons h (jhG t)
theorem jkj {R:α->γ->Prop} {f:β->γ}:∀{as:List α} {bs:List β},All2 (fun a b=>R a (f b)) as bs->All2 R as (bs.map f)
 | _,_,.nil=>.nil
 | _,_,.cons h t=>.cons h (jkj t)
end
theorem jmz (l:k<=xs.length):jb5 xs none (some (k:Int))=xs.take k:=by
 unfold jb5;rw[HT.sIx_none,HT.sIx_nat,xbf l];rfl
theorem jmA (l:k<=xs.length):jb5 xs (some (k:Int)) none=xs.drop k:=by
 unfold jb5;rw[HT.sIx_none,HT.sIx_nat,xbf l];exact xaX (by rw[xam];exact xag _)
theorem jqc {xs:List Dsc} (l:k<xs.length) (nd:(xs.map (·.1)).Nodup):((xs.take k++xs.drop (k+1)).map (·.1)).Nodup/\xs[k].1∉(xs.take k++xs.drop (k+1)).map (·.1):=by
 have e:xs=xs.take k++xs[k]::xs.drop (k+1):=by rw[<- List.drop_eq_getElem_cons l,xa1]
 have p:(xs[k]::(xs.take k++xs.drop (k+1))).Perm xs:=List.perm_middle.symm.trans (.of_eq e.symm);have n:=((p.map (·.1)).nodup_iff).mpr nd;rw[xaH,xa3] at n;exact⟨n.2,n.1⟩
theorem nd_in {xs:List Dsc} {x:Dsc} (nd:(xs.map (·.1)).Nodup) (h:x.1∉xs.map (·.1)):((xs.take k++[x]++xs.drop k).map (·.1)).Nodup:=by
 have p:(xs.take k++[x]++xs.drop k).Perm (x::xs):=by
  rw[xbD];refine List.perm_middle.trans ?_;show (x::(xs.take k++xs.drop k)).Perm _;rw[xa1]
 refine ((p.map (·.1)).nodup_iff).mpr ?_;rw[xaH,xa3];exact⟨h,nd⟩
theorem jmB {X:Cx}:OpR X (compareOp .Is) (fun x y H Q=>∃c d,x=.bl c/\y=.bl d/\Q (.bl (c==d)) H):=by
 intro pins s σ H x y v u Q I rx ry h;obtain⟨c,d,rfl,rfl,q⟩:=h;cases rx;cases ry;exact is_bool (jaS I q rfl)
structure B44 (H:Hp) (L S:Addr) (rs:List Addr) (xs:List Dsc):Prop where
 st:Sta H L
 SL:S≠L
 eS:H S=some (.lst (rs.map V.ref))
 aS:All2 (PcAt H) rs (xs.map dPc)
 kx:∀x∈xs,DOk x
 nd:(xs.map (·.1)).Nodup
 bd:∀x∈xs,-4<=x.1/\x.1<=2000010
 l1:1<=xs.length
 l4:xs.length<=4
theorem B44.box {rs:List Addr} {xs:List Dsc} (h:B44 H L S rs xs) (s:SameB L H H') (b:Sta H' L):B44 H' L S rs xs:=⟨b,h.SL,s _ _ h.SL h.eS,h.aS.keepP (h.st.t s),h.kx,h.nd,h.bd,h.l1,h.l4⟩
theorem B44.keep {rs:List Addr} {xs:List Dsc} (h:B44 H L S rs xs) (s:Same H H'):B44 H' L S rs xs:=h.box s.b (h.st.keep s)
theorem B44.pd {rs:List Addr} {xs:List Dsc} (h:B44 H L S rs xs):∀x∈xs,PD 6 x:=fun x hx=>⟨(h.kx x hx).z,(h.kx x hx).f,(h.kx x hx).l6⟩
structure BaT (H:Hp) (v:V) (T:Tr):Prop where
 a:TrAt H v T
 g:T.Good 0
 p:T.pcs=[]
 h:T.ht<=2
 r:T.RP
structure GrT (H:Hp) (v:V) (T:Tr) (xs:List Dsc):Prop where
 a:TrAt H v T
 g:T.Good 4
 h:T.ht<=6
 r:T.RP
 j:J T xs
theorem jkk {Tb:Tr} (g:Tb.Good 0) (p:Tb.pcs=[]) (h:Tb.ht<=2) (r:Tb.RP) {ys:List Dsc} (hk:∀y∈ys,DOk y) (l4:ys.length<=4):∀n,n<=ys.length->((ys.take n).foldl grT Tb).Good n/\((ys.take n).foldl grT Tb).ht<=2+n/\((ys.take n).foldl grT Tb).RP/\J ((ys.take n).foldl grT Tb) (ys.take n)
  | 0,_=>⟨g,h,r,jge p⟩
  | n + 1, l => by
    obtain⟨i1,i2,i3,i4⟩:=jkk g p h r hk l4 n (by omega);have e:ys.take (n+1)=ys.take n++[ys[n]]:=by rw[xaZ,xac (show n<ys.length by omega)];rfl
    have D:=hk _ (xa5 (show n<ys.length by omega));have l6:=D.l6;rw[e,xce];exact⟨jfs D.z D.pl.2 i1 D.f (by omega),xav (jjD ..) (by omega),jp2 i3 D.px,jj3 D.z i1 D.f D.on i4⟩
def RiT (xs:List Dsc) (H:Hp) (v:V):Prop:=∃T:Tr,TrW H v T/\T.Good 5/\T.ht<=7/\J T xs
theorem RiT.keep {xs:List Dsc} {v:V} (h:RiT xs H v) (s:SameT H H'):RiT xs H' v:=let ⟨T,a,b⟩:=h;⟨T,a.keep s,b⟩
theorem BaT.keep {v:V} {T:Tr} (h:BaT H v T) (s:SameT H H'):BaT H' v T:=⟨h.a.keep s,h.g,h.p,h.h,h.r⟩
theorem GrT.keep {v:V} {T:Tr} {xs:List Dsc} (h:GrT H v T xs) (s:SameT H H'):GrT H' v T xs:=⟨h.a.keep s,h.g,h.h,h.r,h.j⟩
def lK2:L2.St->Hp->Prop:=fun σ H'=>∃(cl L S R:Addr) (cs:List Int) (rs:List Addr) (xs:List Dsc) (m:Nat) (o0:Option V),σ=[o0,some (.ref cl),some (.ref L),some (.ref S),some (.ref R),none,none,none,none,none,none,none,none,none]/\B44 H' L S rs xs/\jgc m H' R/\R≠L/\1<=m/\cl≠L/\H' cl=some (.lst (cs.map V.int))/\cs.length=7
def lK3:L2.St->Hp->Prop:=fun σ H'=>∃(L S R:Addr) (b:V) (Tb:Tr) (rs:List Addr) (xs:List Dsc) (m:Nat) (o0 o1:Option V),σ=[o0,o1,some (.ref L),some (.ref S),some (.ref R),some b,none,none,none,none,none,none,none,none]/\B44 H' L S rs xs/\jgc m H' R/\R≠L/\1<=m/\BaT H' b Tb
def lK5:L2.St->Hp->Prop:=fun σ H'=>∃(L S R:Addr) (b t:V) (Tb T:Tr) (rs:List Addr) (xs:List Dsc) (m:Nat) (o0 o1 o7:Option V),σ=[o0,o1,some (.ref L),some (.ref S),some (.ref R),some b,some t,o7,none,none,none,none,none,none]/\B44 H' L S rs xs/\jgc m H' R/\R≠L/\1<=m/\BaT H' b Tb/\GrT H' t T xs
structure M44 (H':Hp) (L S D:Addr) (b t:V) (Tb T:Tr) (rs:List Addr) (xs:List Dsc):Prop where
 B:B44 H' L S rs xs
 b:BaT H' b Tb
 t:GrT H' t T xs
 DL:D≠L
 eD:H' D=some (.lst (rs.map V.ref))
def lK12:L2.St->Hp->Prop:=fun σ H'=>∃(L S D a4:Addr) (b t:V) (Tb T:Tr) (rs ra:List Addr) (xs xa:List Dsc) (o0 o1 o4 o7 o9 o10 o11 o12:Option V),σ=[o0,o1,some (.ref L),some (.ref S),o4,some b,some t,o7,some (.ref D),o9,o10,o11,o12,some (.ref a4)]/\M44 H' L S D b t Tb T rs xs/\H' a4=some (.lst (ra.map V.ref))/\All2 (PcAt H') ra (xa.map dPc)/\(∀x∈xa,PD 6 x)/\(xa.map (·.1)).Nodup/\xa.length<=5/\¬J T xa
theorem M44.box {b t:V} {Tb T:Tr} {rs:List Addr} {xs:List Dsc} (h:M44 H L S D b t Tb T rs xs) (s:SameB L H H') (st:Sta H' L):M44 H' L S D b t Tb T rs xs:=⟨h.B.box s st,h.b.keep (h.B.st.t s),h.t.keep (h.B.st.t s),h.DL,s _ _ h.DL h.eD⟩
theorem M44.keep {b t:V} {Tb T:Tr} {rs:List Addr} {xs:List Dsc} (h:M44 H L S D b t Tb T rs xs) (s:Same H H'):M44 H' L S D b t Tb T rs xs:=h.box s.b (h.B.st.keep s)
def lK7:L2.St->Hp->Prop:=fun σ H'=>∃(L S D g:Addr) (b t:V) (Tb T:Tr) (rs:List Addr) (xs:List Dsc) (q:Pt) (o0 o1 o4 o7:Option V),σ=[o0,o1,some (.ref L),some (.ref S),o4,some b,some t,o7,some (.ref D),some (.ref g),none,none,none,none]/\M44 H' L S D b t Tb T rs xs/\Is4 H' g q/\PlG q
def lK8:L2.St->Hp->Prop:=fun σ H'=>∃(L S D:Addr) (b t:V) (Tb T:Tr) (rs:List Addr) (xs:List Dsc) (o0 o1 o4 o7 o9 o10 o11:Option V),σ=[o0,o1,some (.ref L),some (.ref S),o4,some b,some t,o7,some (.ref D),o9,o10,o11,none,none]/\M44 H' L S D b t Tb T rs xs
def lK11:L2.St->Hp->Prop:=fun σ H'=>∃(L S D:Addr) (b t:V) (Tb T:Tr) (rs:List Addr) (xs:List Dsc) (k:Nat) (o0 o1 o4 o7 o9 o10 o11:Option V),σ=[o0,o1,some (.ref L),some (.ref S),o4,some b,some t,o7,some (.ref D),o9,o10,o11,some (.int (k:Nat)),none]/\M44 H' L S D b t Tb T rs xs/\k<xs.length
theorem jqd {e:Addr} {ed:FuncData} (T:Tx K mg t1 t2) (F:FunD K "law" "law" jfb e ed .none) (dW:jao P w K mg base CX0 2 "_law_folded" ["script","many"] [] (jmd K)) (dI:jao P w K mg base CX0 1 "_law_state" ["cell"] [] jnB) (da:jao P w K mg base CX0 1 "_law_next" ["state","many"] [] jju) (dP:jao P w K mg base CX0 7 "_law_some" ["cells"] [] (jmh K)) (Dh:jao P w K mg base CX0 5 "_law_bare" ["raws","state"] [] jmt) (dZ:jao P w K mg base CX0 2 "_law_turned" ["some","state"] [] jjV) (Dk:jao P w K mg base CX0 17 "grown_by" ["tree","piece"] [] jpP) (dk:jao P w K mg base CX0 4 "_law_corners" ["raw"] [] jhv) (dH:jao P w K mg base CX0 2 "_law_plane" ["corners"] [] jnO) (dh:jao P w K mg base CX0 9 "_law_other_way" ["tree","about"] [] (jka 8)) (dB:jao P w K mg base CX0 10 "_law_hung" ["tree","plane","state"] [] (jkb 8)) (de:jao P w K mg base CX0 17 "tree_judged" ["some","tree"] [] (jp4 9)) (Dd:jao P w K mg base CX0 18 "_law_wrong" ["tree","state"] [] spWr):FnOk P w K mg base CX0 19 e ed ["script"] (jkN K):=by
  refine F.ok jlR (by walk_at "ar") (fun cdv A outer s H vs Q E hr h=>?_);obtain⟨a,ns,rfl,ha,hn,q⟩:=h;have S:=jlR;refine⟨_,(jaf (jat (i:=1) S.nd rfl (Or.inl rfl) (jag dW hr.m rfl jav (jaa (pv 0) (jaa jab jad jaj) jae)))
    (jaf (jat (i:=2) S.nd rfl (Or.inl rfl) (jag dI hr.m rfl jav (jaa (jak ix_list (pv 1) jab) jad jap)))
    (jaN lK2 (jbQ (jag dP hr.m rfl jav (jaa (jaY sl_list (pv 1) (ja5 jab) (ja5 (jau jbf jab (jak ix_list (jaM (jaa jab (jaa jab (jaa jab (jaa jab (jaa jab jad jaj) jaj) jaj) jaj) jaj)) (jag da hr.m rfl jav (jaa (pv 2) (jaa jab jad jaj) jae)))))) jad jap)) (jck rfl (jay (jan (i:=3) S.nd rfl (Or.inl rfl)) (jay (jan (i:=4) S.nd rfl (Or.inl rfl)) jbj))))
    (jaN lK3 (jat (i:=5) S.nd rfl (Or.inl rfl) (jag Dh hr.m rfl jav (jaa (jak jam (jag dP hr.m rfl jav (jaa (jaY sl_list (pv 1) (ja5 jab) (ja5 (jau jbf jab (jag da hr.m rfl jav (jaa (pv 2) (jaa jab jad jaj) jae))))) jad jap)) jab) (jaa (pv 2) jad jae) jap)))
    (jaf (jat (i:=6) S.nd rfl (Or.inl rfl) (pv 5))
    (jaN lK5 (jbp PassesOwn.never rfl (jbk (jag dZ hr.m rfl jav (jaa (pv 3) (jaa (pv 2) jad jae) jae))) (jan (i:=7) S.nd rfl (Or.inl rfl))
    (jai (jat (i:=6) S.nd rfl (Or.inl rfl) (jag Dk hr.m rfl jav (jaa (pv 6) (jaa (pv 7) jad jae) jae)))))
    (jaf (jat (i:=8) S.nd rfl (Or.inl rfl) (jaU jbx rfl T.m_list boot_list (jaa (pv 3) jad jae)))
    (jaN lK7 (jat (i:=9) S.nd rfl (Or.inl rfl) (jag dH hr.m rfl jav (jaa (jag dk hr.m rfl jav (jaa (jak ix_list (pv 4) jab) jad jap)) jad jaF)))
    (jaN lK8 (jbp PassesOwn.never rfl (jbk (jaM (jaa (pv 6) (jaa (jag dh hr.m rfl jav (jaa (pv 6) (jaa jcp jad jaj) jae)) (jaa (jag dh hr.m rfl jav (jaa (pv 6) (jaa jcp jad jaj) jae)) (jaa (jag dB hr.m rfl jav (jaa (pv 6) (jaa (pv 9) (jaa (pv 2) jad jae) jae) jae)) jad jaF) jaF) jaF) jae))) (jan (i:=10) S.nd rfl (Or.inl rfl))
    (jai (jaL (PW.pt (jko (jaq jdb (jag de hr.m rfl jav (jaa (pv 8) (jaa (pv 10) jad jae) jae)) jcp (jax _)) (jgM (jaq (jcm (jgi hr)) (pv 8) (pv 3) (jax _)))))
    (jai (jas jcp))
    jaw)))
    (jaN lK8 (jbp PassesOwn.never rfl (jbk (jag Dd hr.m rfl jav (jaa (pv 6) (jaa (pv 2) jad jae) jae))) (jan (i:=11) S.nd rfl (Or.inl rfl))
    (jai (jaL (PW.pt (jko (jaq jdb (jag de hr.m rfl jav (jaa (pv 8) (jaa (pv 11) jad jae) jae)) jcp (jax _)) (jgM (jaq (jcm (jgi hr)) (pv 8) (pv 3) (jax _)))))
    (jai (jas jcp))
    jaw)))
    (jaf (jat (i:=12) S.nd rfl (Or.inl rfl) (jag da hr.m rfl jav (jaa (pv 2) (jaa (jaG jaI rfl T.m_len PySem.boot_len (jaa (pv 3) jad jae)) jad jaF) jae)))
    (jaN lK11 (jaL (PW.pt (jko (jaq jdb (jag de hr.m rfl jav (jaa (jau jb7 (jaY sl_list (pv 3) jbl (ja5 (pv 12))) (jaY sl_list (pv 3) (ja5 (jau jbf (pv 12) jab)) jbl)) (jaa (pv 6) jad jae) ja7)) jcp (jax _)) (jgM (jaq jdb (jag de hr.m rfl jav (jaa (jaM jad) (jaa (pv 5) jad jae) jbS)) jcp (jax _)))))
    (jai (jas jcp))
    jaw)
    (jaN lK12 (jat (i:=13) S.nd rfl (Or.inl rfl) (jau jb7 (jau jb7 (jaY sl_list (pv 3) jbl (ja5 (pv 12))) (jaM (jaa (jaB (jaa jab (jaa (jak jam (jak ix_list (pv 3) (pv 12)) jab) jad jap) jaj)) jad jaE))) (jaY sl_list (pv 3) (ja5 (pv 12)) jbl)))
    (jai (jas (jlu (jd4 jmB (jag de hr.m rfl jav (jaa (pv 13) (jaa (pv 6) jad jae) jae)) jcp (jax _)) (jlt (jd4 jmB (jag de hr.m rfl jav (jaa (jaM jad) (jaa (pv 6) jad jae) jbS)) jcp (jax _))))))))))))))))))),?_⟩
  walk_at "rf";refine⟨a,ns,7,rfl,ha,hn,by decide,by decide,fun cl H1 cs ncl s1 ecl l7=>?_⟩;have c0:cs[0]?=some cs[0]:=xac (by omega);refine ixL (SqL.of ecl) (i:=0) (v:=.int cs[0]) (jaK (j:=0) (by rw[xae,c0];rfl)) ⟨cs[0],rfl,fun L H2 nL s2 b2=>⟨by decide,fun p5 hp5=>?_,?_⟩⟩
  . have j5:=Same.new hp5 (.lst [.int 1,.int 2,.int 3,.int 3,.int 4])
    have e5:upd H2 p5 (.lst [.int 1,.int 2,.int 3,.int 3,.int 4]) p5=some (.lst [.int 1,.int 2,.int 3,.int 3,.int 4]):=jac;have b2':=b2.keep j5;have p5L:p5≠L:=b2.ne hp5;have nLc:cl≠L:=jar ecl nL;have ecl2:=(s2.trans j5) _ _ ecl;generalize upd H2 p5 (.lst [.int 1,.int 2,.int 3,.int 3,.int 4])=H2' at e5 b2' ecl2 |-
    refine⟨L,5,rfl,b2',by decide,by decide,fun H3 d s3 b3 d0 d5=>?_⟩;obtain⟨m,em,m1,m4⟩:∃m:Nat,atI [V.int 1,V.int 2,V.int 3,V.int 3,V.int 4] d=some (.int (m:Nat))/\1<=m/\m<=4:=by
      have:d=0\/d=1\/d=2\/d=3\/d=4:=by omega
      rcases this with rfl | rfl | rfl | rfl | rfl
      . exact⟨1,rfl,by decide,by decide⟩
      . exact⟨2,rfl,by decide,by decide⟩
      . exact⟨3,rfl,by decide,by decide⟩
      . exact⟨3,rfl,by decide,by decide⟩
      . exact⟨4,rfl,by decide,by decide⟩
    have ecl3:=s3 _ _ nLc ecl2;refine ixL (SqL.of (s3 _ _ p5L e5)) em ⟨_,rfl,cl,_,rfl,SqL.of ecl3,fun p hp=>?_⟩;have ec:jb5 (cs.map V.int) (some 1) (some (1+(m:Int)))=((cs.drop 1).take m).map V.int:=by
      exact jmj (f:=1) (by omega) (by omega)
    rw[ec];have j:=Same.new hp (.lst (((cs.drop 1).take m).map V.int));have lm:((cs.drop 1).take m).length=m:=by rw[xah,xam];omega
    refine⟨p,(cs.drop 1).take m,rfl,SqL.of jac,by omega,fun t S R H5 zs s5 nS nR et hS hR=>⟨t,rfl,_,SqT.of et,rfl,_,_,rfl,_,_,rfl,rfl,?_⟩⟩;rw[lm] at hS hR;have b5:=(b3.keep j).keep s5;have SL:S≠L:=(b3.keep j).ne nS;have RL:R≠L:=(b3.keep j).ne nR;have ecl5:=(j.trans s5) _ _ ecl3;obtain⟨rs,eS,aS,ob,lx,nd,bd⟩:=hS;obtain⟨xs,rfl,okd⟩:=jjN zs ob;rw[xaa] at lx;exact⟨cl,L,S,R,cs,rs,xs,m,_,rfl,⟨b5,SL,eS,aS,okd,by rw[xbp] at nd;exact nd,fun x hx=>bd (dPc x) (xa8 hx),by omega,by omega⟩,hR,RL,m1,nLc,ecl5,l7⟩
  clear s1 s2 b2 ecl nL ncl c0 l7 ha;rintro σ2 H5 ⟨cl,L,S,R,cs,rs,xs,m,o0,rfl,B,hR,RL,m1,nLc,ecl5,l7⟩;walk_at "rf";have b5:=B.st;refine⟨?_,?_⟩
  . refine⟨L,3,rfl,b5,by decide,by decide,fun H6 k s6 b6 k0 k3=>⟨k,rfl,cl,_,rfl,SqL.of (s6 _ _ nLc ecl5),fun p6 hp6=>?_⟩⟩
    obtain⟨k,rfl⟩:=xbn k0;have ec:jb5 (cs.map V.int) (some 5) (some (5+(k:Int)))=((cs.drop 5).take k).map V.int:=jmj (f:=5) (by omega) (by omega);rw[ec];have j:=Same.new hp6 (.lst (((cs.drop 5).take k).map V.int));have lk:((cs.drop 5).take k).length=k:=by rw[xah,xam];omega
    have bj:=b6.keep j;refine⟨p6,(cs.drop 5).take k,rfl,SqL.of jac,by omega,fun t2 S2 R2 H7 xs2 s7 nS2 nR2 et2 hS2 hR2=>?_⟩;have b7:=bj.keep s7;have B7:=(B.box s6 b6).keep (j.trans s7);obtain⟨r1,z1,e1',a1',l1'⟩:=hR;have a7:=a1'.mono fun _ _ h=>(h.keep (b5.t s6)).keep (j.trans s7).t;have e7:=(j.trans s7) _ _ (s6 _ _ RL e1');refine ixT (SqT.of et2) (i:=1) rfl ?_;obtain⟨rs2,zs2,e1,a1,lz⟩:=hR2;have lr:=a1.len;refine⟨R2,L,rs2,zs2,rfl,e1,a1,bj.ne nR2,b7,by omega,fun v H8 Tt s8 b8 tT gT pT hT rT=>?_⟩;exact⟨L,S,R,v,Tt,rs,xs,m,_,_,rfl,B7.box s8 b8,⟨r1,z1,s8 _ _ RL e7,a7.mono fun _ _ h=>h.keep (b7.t s8),l1'⟩,RL,m1,⟨tT,gT,pT,by omega,rT⟩⟩
  clear hR b5 ecl5 RL B;rintro σ3 H3 ⟨L,S,R,b,Tb,rs,xs,m,o0,o1,rfl,B,hR,RL,m1,hb⟩;walk_at "rf";have rk:∀{J:Hp},SameB L H3 J->jgc m J R:=fun s=>by
    obtain⟨r1,z1,e1,a1,l1⟩:=hR;exact⟨r1,z1,s _ _ RL e1,a1.mono fun _ _ h=>h.keep (B.st.t s),l1⟩
  refine⟨?_,?_⟩
  . have lr:=B.aS.len
    have l4:=B.l4;rw[xaa] at lr;refine⟨S,L,rs,rfl,B.eS,fun r hr'=>?_,B.SL,B.st,by omega,fun M H4 rm nM s4 b4 eM pm=>⟨M,rfl,⟨_,SqL.of eM⟩,?_⟩⟩
    . obtain⟨i,hi⟩:=List.getElem?_of_mem hr'
      obtain⟨x,_,hx⟩:=B.aS.getA hi;exact⟨x,hx⟩
    have tt:=B.st.t s4;obtain⟨ys,pm',aM⟩:=jki pm (jhG (B.aS.keepP tt));have aM:=jkj aM;have ky:∀y∈ys,DOk y:=fun y hy=>B.kx y (pm'.mem_iff.mp hy);have ly:=pm'.length_eq;have lM:=aM.len;rw[xaa] at lM;have hb4:=hb.keep tt;refine jbw (K:=K) (a:=M) (xs:=rm.map V.ref) (fun i σ Hh=>∃(t:V) (o7:Option V),σ=[o0,o1,some (.ref L),some (.ref S),some (.ref R),some b,some t,o7,none,none,none,none,none,none]/\Same H4 Hh/\TrAt Hh t ((ys.take i).foldl grT Tb)) ⟨b,none,rfl,Same.refl _,hb4.a⟩ (fun i σ Hh _ ⟨_,_,_,sx,_⟩=>sx.seq (SqL.of eM)) ?_ ?_
    . rintro i w σ Hh hi ⟨t,o7,rfl,sx,tT⟩
      rw[xae] at hi;obtain⟨r,hr',rfl⟩:=xaS.mp hi;obtain⟨x,hx,hp⟩:=aM.getA hr';rw[xae] at hx;obtain⟨y,hy,rfl⟩:=xaS.mp hx;have il:=(xaj.mp hy).1;obtain⟨g1,g2,_,_⟩:=jkk hb.g hb.p hb.h hb.r ky (by omega) i (by omega);walk_at "rf";refine⟨t,r,_,i,y,rfl,tT,by omega,g1,by omega,hp.keep sx.t,ky y (xaC hy),fun t' H' s' tT'=>⟨sx.trans s',?_⟩⟩;rw[xaZ,hy,xce];exact tT'
    . rintro σ Hh ⟨t,o7,rfl,sx,tT⟩
      rw[xaa,lM,xa4] at tT;obtain⟨g1,g2,g3,g4⟩:=jkk hb.g hb.p hb.h hb.r ky (by omega) ys.length (xag _);rw[xa4] at g1 g2 g3 g4;have sB:=s4.trans sx.b;exact⟨L,S,R,b,t,Tb,_,rs,xs,m,_,_,_,rfl,B.box sB (b4.keep sx),rk sB,RL,m1,hb4.keep sx.t,⟨tT,g1.mono (by omega),by omega,g3,jjY pm' g4⟩⟩
  clear rk B hR hb;rintro σ5 H5 ⟨L,S,R,b,t,Tb,Tt,rs,xs,m,o0,o1,o7,rfl,B,hR,RL,m1,hb,hg⟩;walk_at "rf";refine⟨_,.inl (SqL.of B.eS),fun D hD=>?_⟩;have j:=Same.new hD (.lst (rs.map V.ref));have DL:D≠L:=B.st.ne hD;have eD:upd H5 D (.lst (rs.map V.ref)) D=some (.lst (rs.map V.ref)):=jac;generalize upd H5 D (.lst (rs.map V.ref))=H6 at j eD |-
  refine⟨?_,?_⟩
  . obtain⟨r1,z1,e1,a1,l1⟩:=hR
    have lr1:=a1.len;have r10:r1[0]?=some r1[0]:=xac (by omega);obtain⟨z,hz,rz⟩:=a1.getA r10;have h6:z.2<6:=by
      obtain⟨⟨_,_,_,_,_,_,_,h⟩,_⟩:=rz;exact h
    have n3:=(jgI z.2 h6).1;have na:=jgE rz.2.b.w1 rz.2.nz (jfv h6) (by have:=(jgI z.2 h6).2;omega) (RR.refl ((shp z.2).map (spt z.1)));have cnA:∀i,i<3->Cn (pt ((shp z.2).map (spt z.1)) i):=fun i hi=>by
      obtain⟨u,hu,e⟩:=xao.mp (jba (l:=(shp z.2).map (spt z.1)) (i:=i) (by rw[xaa];omega));rw[<- e];exact jjI rz.2 (by decide) h6 u hu
    obtain⟨P,eP,gP⟩:=jgH (cnA 0 (by decide)) (cnA 1 (by decide)) (cnA 2 (by decide));refine ixL (SqL.of (j _ _ e1)) (i:=0) (v:=.ref r1[0]) (jaK (j:=0) (by rw[xae,r10];rfl)) ⟨r1[0],8,z,rfl,rz.keep j.t,by decide,fun l H7 ws nl s7 hc=>?_⟩;refine⟨l,ws,_,rfl,.inl hc.1,hc.2,by rw[xaa];exact n3,fun p hp=>?_,na,fun g H8 x0 y0 z0 w0 s8 et0 _ ep0=>?_⟩
    . obtain⟨u,hu,rfl⟩:=xao.mp hp
      exact jpO (jjI rz.2 (by decide) h6 u hu)
    rw[eP] at ep0;obtain⟨rfl,rfl,rfl,rfl⟩:x0=P.x/\y0=P.y/\z0=P.z/\w0=P.w:=by simpa using ep0
    have sA:=s7.trans s8;exact⟨L,S,D,g,b,t,Tb,Tt,rs,xs,P,_,_,_,_,rfl,⟨B.keep (j.trans sA),hb.keep (j.trans sA).t,hg.keep (j.trans sA).t,DL,sA _ _ eD⟩,⟨et0,gP.sm⟩,gP⟩
  clear j DL eD hD B hR hb hg;rintro σ7 H7 ⟨L,S,D,g,b,t,Tb,Tt,rs,xs,q7,o0,o1,o4,o7,rfl,M,hq,gq⟩;walk_at "rf";have tl:Tt.ht<8:=xbl M.t.h (by decide);have lr:=M.B.aS.len;rw[xaa] at lr;have l4:=M.B.l4;refine⟨?_,?_⟩
  . refine⟨t,false,Tt,4,rfl,M.t.a,tl,M.t.g,by decide,fun v1 H1 s1 t1=>⟨t,true,Tt,4,rfl,M.t.a.keep s1.t,tl,M.t.g,by decide,fun v2 H2 s2 t2=>⟨t,g,L,Tt,q7,rfl,M.t.a.keep (s1.trans s2).t,tl,hq.keep (s1.trans s2),M.B.st.keep (s1.trans s2),fun v3 H3 T3 s3 b3 t3 hu=>?_⟩⟩⟩
    show 4<=sizeLine/\_;refine⟨by decide,fun l hl=>⟨⟨_,SqL.of jac⟩,?_⟩⟩;rw[if_neg (by decide)] at t1;rw[if_pos rfl] at t2;have M2:=M.keep (s1.trans s2);have M3:=M2.box s3 b3;have j:=Same.new hl (.lst [t,v1,v2,v3]);have M4:=M3.keep j;have T13:=M2.B.st.t s3;have nd:=M.B.nd;have hh:=M.t.h;have ri:∀z∈[t,v1,v2,v3],RiT xs (upd H3 l (.lst [t,v1,v2,v3])) z:=fun z hz=>by
      simp only[xaG,xbH,or_false] at hz;rcases hz with rfl | rfl | rfl | rfl
      . exact⟨Tt,jdn M4.t.a M.t.j nd,M.t.g.mono (by decide),by omega,M.t.j⟩
      . exact⟨Tt.ow,jdn (((t1.keep s2.t).keep T13).keep j.t) (J_ow M.t.j) nd,(jdH M.t.g).1.mono (by decide),by rw[(jdH M.t.g).2];omega,J_ow M.t.j⟩
      . exact⟨Tt.ng,jdn ((t2.keep T13).keep j.t) (J_ng M.t.j) nd,(jdI M.t.g).1.mono (by decide),by rw[(jdI M.t.g).2];omega,J_ng M.t.j⟩
      . exact⟨T3,jdn (t3.keep j.t) (jmq hu M.t.j) nd,(hu.good gq M.t.g).1.mono (by decide),by have:=(hu.good gq M.t.g).2;omega,jmq hu M.t.j⟩
    have e4:upd H3 l (.lst [t,v1,v2,v3]) l=some (.lst [t,v1,v2,v3]):=jac;generalize upd H3 l (.lst [t,v1,v2,v3])=H4 at M4 ri e4 |-
    refine jbw (K:=K) (a:=l) (xs:=[t,v1,v2,v3]) (fun i σ Hh=>∃o10:Option V,σ=[o0,o1,some (.ref L),some (.ref S),o4,some b,some t,o7,some (.ref D),some (.ref g),o10,none,none,none]/\Same H4 Hh) ⟨_,rfl,Same.refl _⟩ (fun i σ Hh _ ⟨_,_,sx⟩=>sx.seq (SqL.of e4)) ?_ ?_
    . rintro i z σ Hh hi ⟨o10,rfl,sx⟩
      obtain⟨T',w',g',h',j'⟩:=(ri z (xaC hi)).keep sx.t;have Mh:=M4.keep sx;walk_at "rf";refine⟨D,z,rs,xs,T',6,rfl,Mh.eD,Mh.B.aS,Mh.B.pd,by omega,nd,by omega,w',by omega,g',fun c J s hc=>⟨c,rfl,?_⟩⟩;obtain rfl:=hc.mpr j';rw[if_neg (by decide)];have Mj:=Mh.keep s;refine jj8 (n:=true) Mj.eD Mj.B.aS Mj.B.eS Mj.B.aS ⟨_,rfl,?_⟩;rw[if_pos rfl,decide_eq_true rfl,if_neg (by decide)];exact sx.trans s
    . rintro σ Hh ⟨o10,rfl,sx⟩
      exact⟨L,S,D,b,t,Tb,Tt,rs,xs,_,_,_,_,_,_,_,rfl,M4.keep sx⟩
  clear M hq gq tl lr l4;rintro σ8 H8 ⟨L,S,D,b,t,Tb,Tt,rs,xs,o0,o1,o4,o7,o9,o10,o11,rfl,M⟩;walk_at "rf";have l4:=M.B.l4;have l1:=M.B.l1;have ne:xs≠[]:=fun e=>by rw[e] at l1;exact absurd l1 (by decide)
  have hh:=M.t.h;refine⟨?_,?_⟩
  . refine⟨t,L,Tt,xs,rfl,M.t.a,by omega,M.t.g,M.t.r,M.B.st,M.B.nd,M.B.pd,M.B.bd,ne,M.t.j,M.t.g.pcs_800 (xag _) (by omega),fun l ws H9 s9 b9 el lL hw l20=>⟨l,rfl,⟨_,SqL.of el⟩,?_⟩⟩
    have M9:=M.box s9 b9;refine jbw (K:=K) (a:=l) (xs:=ws) (fun i σ Hh=>∃o11:Option V,σ=[o0,o1,some (.ref L),some (.ref S),o4,some b,some t,o7,some (.ref D),o9,o10,o11,none,none]/\Same H9 Hh) ⟨_,rfl,Same.refl _⟩ (fun i σ Hh _ ⟨_,_,sx⟩=>sx.seq (SqL.of el)) ?_ ?_
    . rintro i z σ Hh hi ⟨o11,rfl,sx⟩
      obtain⟨T',w',g',h',nj⟩:=(hw z (xaC hi)).keep sx.t;have Mh:=M9.keep sx;walk_at "rf";refine⟨D,z,rs,xs,T',6,rfl,Mh.eD,Mh.B.aS,Mh.B.pd,by omega,Mh.B.nd,by omega,w',by omega,g',fun c J s hc=>⟨c,rfl,?_⟩⟩;obtain rfl:c=false:=by
        cases c with
        | false=>rfl
        | true=>exact absurd (hc.mp rfl) nj
      rw[if_neg (by decide)];have Mj:=Mh.keep s;refine jj8 (n:=true) Mj.eD Mj.B.aS Mj.B.eS Mj.B.aS ⟨_,rfl,?_⟩;rw[if_pos rfl,decide_eq_true rfl,if_neg (by decide)];exact sx.trans s
    . rintro σ Hh ⟨o11,rfl,sx⟩
      exact⟨L,S,D,b,t,Tb,Tt,rs,xs,_,_,_,_,_,_,_,rfl,M9.keep sx⟩
  clear M l4 l1 ne hh;rintro σ9 H9 ⟨L,S,D,b,t,Tb,Tt,rs,xs,o0,o1,o4,o7,o9,o10,o11,rfl,M⟩;walk_at "rf";have l4:=M.B.l4;have l1:=M.B.l1;have lr:=M.B.aS.len;rw[xaa] at lr;refine⟨_,.inl (SqL.of M.B.eS),L,_,rfl,M.B.st,by rw[xaa];omega,by rw[xaa];omega,fun J d s bb d0 dm=>?_⟩;obtain⟨k,rfl⟩:=xbn d0;rw[xaa] at dm;have kl:k<xs.length:=by omega
  have M:=M.box s bb;refine⟨?_,?_⟩
  . have nd:=M.B.nd
    have hkz:∀x∈xs,SZ x.2.1/\VF x.2.2:=fun x hx=>⟨(M.B.kx x hx).z,(M.B.kx x hx).f⟩;have hh:=M.t.h;have sub:∀x∈xs.take k++xs.drop (k+1),x∈xs:=fun x hx=>(xas.mp hx).elim xbc xbB;obtain⟨nd1,nd2⟩:=jqc kl nd;refine⟨_,rfl,S,_,rfl,SqL.of M.B.eS,fun a1 h1=>?_⟩;have j1:=Same.new h1 (.lst (jb5 (rs.map V.ref) none (some (k:Int))));rw[jmz (by rw[xaa];omega),<- xbt] at j1 |-
    have e1:upd J a1 (.lst ((rs.take k).map V.ref)) a1=some (.lst ((rs.take k).map V.ref)):=jac;generalize upd J a1 (.lst ((rs.take k).map V.ref))=J1 at j1 e1 |-
    refine⟨_,rfl,S,_,rfl,SqL.of (j1 _ _ M.B.eS),fun a2 h2=>?_⟩;have j2:=Same.new h2 (.lst (jb5 (rs.map V.ref) (some ((k:Int)+1)) none));rw[show ((k:Int)+1)=((k+1:Nat):Int) by omega,jmA (by rw[xaa];omega),<- xbs] at j2 |-
    have e2:upd J1 a2 (.lst ((rs.drop (k+1)).map V.ref)) a2=some (.lst ((rs.drop (k+1)).map V.ref)):=jac;have e1:=j2 _ _ e1;have s2:=j1.trans j2;generalize upd J1 a2 (.lst ((rs.drop (k+1)).map V.ref))=J2 at s2 e1 e2 |-
    refine⟨a1,a2,_,_,rfl,rfl,e1,e2,xaQ (jaD (by rw[xaa,xaa,xah,xam];omega)),fun a3 h3=>?_⟩;have j3:=Same.new h3 (.lst ((rs.take k).map V.ref++(rs.drop (k+1)).map V.ref));have s3:=s2.trans j3;have M3:=M.keep s3;have aX:All2 (PcAt (upd J2 a3 (.lst ((rs.take k).map V.ref++(rs.drop (k+1)).map V.ref)))) (rs.take k++rs.drop (k+1)) ((xs.take k++xs.drop (k+1)).map dPc):=by
      rw[xaf,xbt (f:=dPc),xbs (f:=dPc)];exact (jcb k M3.B.aS).app (jdo (k+1) M3.B.aS)
    refine⟨a3,t,rs.take k++rs.drop (k+1),xs.take k++xs.drop (k+1),Tt,6,rfl,by rw[jac,xaf],aX,fun x hx=>M.B.pd x (sub x hx),by omega,nd1,by rw[xad,xah,xam];omega,jdn M3.t.a M.t.j nd,by omega,M.t.g.mono (by decide),fun c J4 s4 hc=>⟨c,rfl,?_⟩⟩;obtain rfl:c=false:=by
      cases c with
      | false=>rfl
      | true =>
        obtain⟨y,hy,ey⟩:=jmo M.t.j (hc.mp rfl) M.t.g (fun y hy=>hkz y (sub y hy)) xs[k] (xa5 kl);exact absurd (xao.mpr ⟨y,hy,ey⟩) nd2
    rw[if_neg (by decide)];have M4:=M3.keep s4;refine⟨by decide,fun p0 hp0=>?_⟩;have j5:=Same.new hp0 (.lst []);have M5:=M4.keep j5;have hb2:=M.b.h;refine⟨p0,b,[],[],Tb,6,rfl,jac,.nil,(fun _ z=>nomatch z),by omega,xch,xaO _,jdn (xs:=[]) M5.b.a (jge M.b.p) xch,by omega,M.b.g.mono (by decide),fun c J6 s6 hc=>⟨c,rfl,?_⟩⟩;obtain rfl:=hc.mpr (jge M.b.p);rw[if_neg (by decide)];exact⟨L,S,D,b,t,Tb,Tt,rs,xs,k,_,_,_,_,_,_,_,rfl,M5.keep s6,kl⟩
  clear M l4 l1 lr kl dm d0 s bb;rintro σA HA ⟨L,S,D,b,t,Tb,Tt,rs,xs,k,o0,o1,o4,o7,o9,o10,o11,rfl,M,kl⟩;walk_at "rf";refine⟨?_,?_⟩
  . have l4:=M.B.l4
    have l1:=M.B.l1;have lr:=M.B.aS.len;rw[xaa] at lr;have nd:=M.B.nd;have hkz:∀x∈xs,SZ x.2.1/\VF x.2.2:=fun x hx=>⟨(M.B.kx x hx).z,(M.B.kx x hx).f⟩;have hh:=M.t.h;have kr:k<rs.length:=by omega
    have no:(4000002:Int)∉xs.map (·.1):=fun m=>by
      obtain⟨x,hx,e⟩:=xao.mp m;have e:x.1=4000002:=e;have:=M.B.bd x hx;omega
    obtain⟨x',hx',bk,ek,bok⟩:=M.B.aS.getA (xac kr);rw[xae,xac kl] at hx';obtain rfl:dPc xs[k]=x':=by simpa using hx'
    refine⟨S,_,rfl,SqL.of M.B.eS,fun a1 h1=>?_⟩;have j1:=Same.new h1 (.lst (jb5 (rs.map V.ref) none (some (k:Int))));rw[jmz (by rw[xaa];omega),<- xbt] at j1 |-
    have e1:upd HA a1 (.lst ((rs.take k).map V.ref)) a1=some (.lst ((rs.take k).map V.ref)):=jac;generalize upd HA a1 (.lst ((rs.take k).map V.ref))=J1 at j1 e1 |-
    refine ixL (SqL.of (j1 _ _ M.B.eS)) (i:=k) (v:=.ref rs[k]) (jaK (j:=k) (by rw[xae,xac kr];rfl)) (ixT (SqT.of (j1 _ _ ek)) (i:=1) rfl ⟨by decide,fun p0 hp0=>⟨by decide,fun p1 hp1=>?_⟩⟩);have j2:=Same.new hp0 (.tup [.int 4000002,.ref bk]);have j3:=Same.new hp1 (.lst [.ref p0]);have f0:=j3 _ _ (show upd J1 p0 (.tup [.int 4000002,.ref bk]) p0=some (.tup [.int 4000002,.ref bk]) from jac);have f1:upd (upd J1 p0 (.tup [.int 4000002,.ref bk])) p1 (.lst [.ref p0]) p1=some (.lst [.ref p0]):=jac;have e1:=(j2.trans j3) _ _ e1;have s3:=j1.trans (j2.trans j3);generalize upd (upd J1 p0 (.tup [.int 4000002,.ref bk])) p1 (.lst [.ref p0])=J3 at f0 f1 e1 s3 |-
    clear j1 j2 j3 h1 hp0 hp1;refine⟨a1,p1,_,_,rfl,rfl,e1,f1,xaQ (jaD (by rw[xaa,xah];show _+1<1000;omega)),fun a2 h2=>?_⟩;have j4:=Same.new h2 (.lst ((rs.take k).map V.ref++[.ref p0]));have e2:upd J3 a2 (.lst ((rs.take k).map V.ref++[.ref p0])) a2=some (.lst ((rs.take k).map V.ref++[.ref p0])):=jac;have f0:=j4 _ _ f0;have s4:=s3.trans j4;generalize upd J3 a2 (.lst ((rs.take k).map V.ref++[.ref p0]))=J4 at f0 e2 s4 |-
    clear j4 h2 f1 e1 s3;refine⟨S,_,rfl,SqL.of (s4 _ _ M.B.eS),fun a3 h3=>?_⟩;have j5:=Same.new h3 (.lst (jb5 (rs.map V.ref) (some (k:Int)) none));rw[jmA (by rw[xaa];omega),<- xbs] at j5 |-
    have e3:upd J4 a3 (.lst ((rs.drop k).map V.ref)) a3=some (.lst ((rs.drop k).map V.ref)):=jac;have f0:=j5 _ _ f0;have e2:=j5 _ _ e2;have s5:=s4.trans j5;generalize upd J4 a3 (.lst ((rs.drop k).map V.ref))=J5 at f0 e2 e3 s5 |-
    clear j5 h3 s4;refine⟨a2,a3,_,_,rfl,rfl,e2,e3,xaQ (jaD (by rw[xad,xaa,xaa,xah,xam];show _+1+_<1000;omega)),fun a4 h4=>?_⟩;have j6:=Same.new h4 (.lst ((rs.take k).map V.ref++[.ref p0]++(rs.drop k).map V.ref));have f0:=j6 _ _ f0;have s6:=s5.trans j6;have M6:=M.keep s6;have aX:All2 (PcAt (upd J5 a4 (.lst ((rs.take k).map V.ref++[.ref p0]++(rs.drop k).map V.ref)))) (rs.take k++[p0]++rs.drop k) ((xs.take k++[(4000002,xs[k].2)]++xs.drop k).map dPc):=by
      rw[xaf,xaf,xbt (f:=dPc),xbs (f:=dPc)];exact ((jcb k M6.B.aS).app (.cons (show PcAt _ p0 (dPc (4000002,xs[k].2)) from ⟨bk,f0,bok.keep s6.t⟩) .nil)).app (jdo k M6.B.aS)
    have sub:∀x∈xs.take k++[((4000002:Int),xs[k].2)]++xs.drop k,PD 6 x:=fun x hx=>by
      rcases xas.mp hx with hx | hx
      . rcases xas.mp hx with hx | hx
        . exact M.B.pd x (xbc hx)
        . rw[xar.mp hx]
          have z:=M.B.pd xs[k] (xa5 kl);exact⟨z.z,z.f,z.l⟩
      . exact M.B.pd x (xbB hx)
    refine⟨L,S,D,a4,b,t,Tb,Tt,rs,rs.take k++[p0]++rs.drop k,xs,xs.take k++[(4000002,xs[k].2)]++xs.drop k,_,_,_,_,_,_,_,_,rfl,M6,by rw[jac,xaf,xaf];rfl,aX,sub,nd_in nd no,by rw[xad,xad,xah,xam];show _+1+_<=5;omega,fun hj=>?_⟩;obtain⟨y,hy,ey⟩:=jmo hj M.t.j M.t.g hkz (4000002,xs[k].2) (xaY _ (xaz _ (.head _)));exact no (xao.mpr ⟨y,hy,ey⟩)
  clear M kl;rintro σC HC ⟨L,S,D,a4,b,t,Tb,Tt,rs,ra,xs,xa,o0,o1,o4,o7,o9,o10,o11,o12,rfl,M6,eA,aX,sub,ndA,l5,nj⟩;walk_at "rf";have nd:=M6.B.nd;have hh:=M6.t.h;have l1:=M6.B.l1;have hj0:=M6.t.j;refine⟨a4,t,ra,xa,Tt,6,rfl,eA,aX,sub,by omega,ndA,l5,jdn M6.t.a hj0 nd,by omega,M6.t.g.mono (by decide),fun c J7 s7 hc=>⟨c,rfl,?_⟩⟩;obtain rfl:c=false:=by
    cases c with
    | false=>rfl
    | true=>exact absurd (hc.mp rfl) nj
  rw[if_pos (by decide)];refine⟨by decide,fun p9 hp9=>?_⟩;have j8:=Same.new hp9 (.lst []);have M8:=(M6.keep s7).keep j8;refine⟨p9,t,[],[],Tt,6,rfl,jac,.nil,(fun _ z=>nomatch z),by omega,xch,xaO _,jdn M8.t.a hj0 nd,by omega,M6.t.g.mono (by decide),fun c J9 s9 hc=>⟨c,rfl,?_⟩⟩;obtain rfl:c=false:=by
    cases c with
    | false=>rfl
    | true =>
      have pe:=jjZ (hc.mp rfl);obtain⟨y,hy,_⟩:=jj0 hj0 xs[0] (xa5 (by omega));rw[pe] at hy;cases hy
  exact q _
end
@[elab_as_elim] theorem len1 {P:List Value->Prop} (us:List Value) (hl:us.length=1) (h:∀a,P [a]):P us:=by
  cases us with
  | nil=>exact absurd hl (by decide)
  | cons a r =>
    cases r with
    | nil=>exact h a
    | cons b r=>exact absurd (Nat.succ.inj hl) (Nat.succ_ne_zero _)
@[elab_as_elim] theorem len2 {P:List Value->Prop} (us:List Value) (hl:us.length=2) (h:∀a0 a1,P [a0,a1]):P us:=by
 cases us with
 | nil=>exact absurd hl (by decide)
 | cons a0 r=>exact len1 (P:=fun r=>P (a0::r)) r (Nat.succ.inj hl) fun a1=>h a0 a1
@[elab_as_elim] theorem len3 {P:List Value->Prop} (us:List Value) (hl:us.length=3) (h:∀a0 a1 a2,P [a0,a1,a2]):P us:=by
 cases us with
 | nil=>exact absurd hl (by decide)
 | cons a0 r=>exact len2 (P:=fun r=>P (a0::r)) r (Nat.succ.inj hl) fun a1 a2=>h a0 a1 a2
@[elab_as_elim] theorem len4 {P:List Value->Prop} (us:List Value) (hl:us.length=4) (h:∀a0 a1 a2 a3,P [a0,a1,a2,a3]):P us:=by
 cases us with
 | nil=>exact absurd hl (by decide)
 | cons a0 r=>exact len3 (P:=fun r=>P (a0::r)) r (Nat.succ.inj hl) fun a1 a2 a3=>h a0 a1 a2 a3
@[elab_as_elim] theorem len5 {P:List Value->Prop} (us:List Value) (hl:us.length=5) (h:∀a0 a1 a2 a3 a4,P [a0,a1,a2,a3,a4]):P us:=by
 cases us with
 | nil=>exact absurd hl (by decide)
 | cons a0 r=>exact len4 (P:=fun r=>P (a0::r)) r (Nat.succ.inj hl) fun a1 a2 a3 a4=>h a0 a1 a2 a3 a4
inductive AtK (K:PySem.W.Frag) (x:Str) (st:Stmt):Prop
 | mk (f:Addr) (oc kV dc pm cd ct:Value) (od an:Option Addr) (sl:Array (Option Value)) (a:PySem.W.nsIn K mainGlobals x=some (some (.ref f))) (l:K.lookup f=some ⟨oc,od,.func (PySem.W.fnOf x x (jbA st) (jbm st) (jah st) .none kV dc pm an cd ct),sl⟩) (c:PySem.W.codeIn K cd x=true) (k:PySem.W.keepIn K (.ref f)=true)
local macro_rules | `(tactic| walk_at "bn") => `(tactic| first | exact fun _ _ _ _ _ _ us hl => len1 us hl fun _ => rfl | exact fun _ _ _ _ _ _ us hl => len2 us hl fun _ _ => rfl | exact fun _ _ _ _ _ _ us hl => len3 us hl fun _ _ _ => rfl | exact fun _ _ _ _ _ _ us hl => len4 us hl fun _ _ _ _ => rfl | exact fun _ _ _ _ _ _ us hl => len5 us hl fun _ _ _ _ _ => rfl)
theorem AtK.go {K:PySem.W.Frag} {h:Heap} {mg:Str->Option Value} {x:Str} {st:Stmt} {ps:List Str} (H:AtK K x st) (X:K.In h) (G:h.Ns mainGlobals mg) (hb:∀(kV doc pm:Value) (an:Option Addr) (cdv ct:Value) (us:List Value),us.length=ps.length->bindArgs (PySem.W.fnOf x x (jbA st) (jbm st) (jah st) .none kV doc pm an cdv ct) ⟨us,[]⟩=pure (ps.zip us):=by walk_at "bn"):At K mg x st ps [] :=
 let ⟨_,_,_,_,_,_,_,_,_,_,a,l,c,k⟩:=H
 at_mk X G hb a l c k
theorem jqe {l:PySem.W.OpenLaw} {w:World} {K:PySem.W.Frag} {h:Heap} {mg:Str->Option Value} {fa fF:Addr} {t1 t2:Tok} {tD:Tok} (X:K.In h) (G:h.Ns mainGlobals mg) (hfa:mg "law"=some (.ref fa))
  {f51:Addr} {odF anF od51 an51:Option Addr} {slF sl51:Array (Option Value)} {ocF kVF dcF pmF cdF ctF oc51 kV51 dc51 pm51 cd51 ct51:Value} {oD:Obj} {nD:Nat}
  (aS0:PySem.W.nsIn K mainGlobals "SHORT_BITS"=some (some (.int 2000 t1)))
  (aS1:PySem.W.nsIn K mainGlobals "MOST_CORNERS"=some (some (.int 8 t2)))
  (aF:PySem.W.nsIn K mainGlobals "made_spot"=some (some (.ref fF))) (lF:K.lookup fF=some ⟨ocF,odF,.func (PySem.W.fnOf "made_spot" "made_spot" (jbA jbo) (jbm jbo) (jah jbo) (.ref D) kVF dcF pmF anF cdF ctF),slF⟩) (cF:PySem.W.codeIn K cdF "made_spot"=true) (kF:PySem.W.keepIn K (.ref fF)=true) (lD:K.lookup D=some oD) (hD:oD.data=.seq #[.int 1 tD] nD)
  (a0:AtK K "_law_cell_at" jbX)
  (a1:AtK K "_law_folded" jbs)
  (a2:AtK K "_law_state" jcw)
  (a3:AtK K "_law_next" jc5)
  (a4:AtK K "_law_arrow" jbz)
  (a5:AtK K "_law_upright" jbY)
  (a6:AtK K "_law_raw" jb9)
  (a7:AtK K "greatest_divisor" jbq)
  (a8:AtK K "in_lowest_terms" ja2)
  (a9:AtK K "_law_corners" ja1)
  (a10:AtK K "without" jct)
  (a11:AtK K "crossed" jef)
  (a12:AtK K "determinant" jcd)
  (a13:AtK K "minor_of" jdx)
  (a14:AtK K "in_line" jeg)
  (a15:AtK K "rough_plane" jce)
  (a16:AtK K "made_plane" jcu)
  (a17:AtK K "is_plain" jdy)
  (a18:AtK K "turned_about" jbh)
  (a19:AtK K "plane_through" jbJ)
  (a20:AtK K "sign_of" jee)
  (a21:AtK K "height_over" jcf)
  (a22:AtK K "side_of" jeh)
  (a23:AtK K "flat_axis" jc3)
  (a24:AtK K "side_of_edge" jbW)
  (a25:AtK K "is_convex" jc4)
  (a26:AtK K "stands_first" jbV)
  (a27:AtK K "formed" jfa)
  (a28:AtK K "made_board" jcv)
  (a29:AtK K "_law_some" jc6)
  (a30:AtK K "_law_divisor" jbZ)
  (a31:AtK K "_law_plane" jaJ)
  (a32:AtK K "_law_bare" jbK)
  (a33:AtK K "_law_turned" jch)
  (a34:AtK K "plane_of" jdz)
  (a35:AtK K "edges_of" jb8)
  (a36:AtK K "met_at" je9)
  (a37:AtK K "sided_round" jcg)
  (a38:AtK K "cut_by" jbF)
  (a39:AtK K "grown_with" jby)
  (a40:AtK K "grown_by" jdA)
  (a41:AtK K "_law_other_way" jaT)
  (a42:AtK K "_law_hung" jbM)
  (a43:AtK K "split_by" jdB)
  (a44:AtK K "tree_judged" jbr)
  (a45:AtK K "_law_pieces" jbt)
  (a46:AtK K "_law_cut_off" jb0)
  (a47:AtK K "_law_askew" jcx)
  (a48:AtK K "_law_twin" jbL)
  (a49:AtK K "_law_spoilt" jbu)
  (a50:AtK K "_law_wrong" ja8)
  (a51:PySem.W.nsIn K mainGlobals "law"=some (some (.ref f51))) (l51:K.lookup f51=some ⟨oc51,od51,.func (PySem.W.fnOf "law" "law" (jbA jfb) (jbm jfb) (jah jfb) .none kV51 dc51 pm51 an51 cd51 ct51),sl51⟩) (c51:PySem.W.codeIn K cd51 "law"=true) (k51:PySem.W.keepIn K (.ref f51)=true)
  (z0:PySem.W.nsIn K mainGlobals "sum"=some none) (z1:PySem.W.nsIn K mainGlobals "sorted"=some none) (z2:PySem.W.nsIn K mainGlobals "abs"=some none) (z3:PySem.W.nsIn K mainGlobals "max"=some none) (z4:PySem.W.nsIn K mainGlobals "min"=some none) (z5:PySem.W.nsIn K mainGlobals "len"=some none) (z6:PySem.W.nsIn K mainGlobals "range"=some none) (z7:PySem.W.nsIn K mainGlobals "tuple"=some none) (z8:PySem.W.nsIn K mainGlobals "list"=some none) (z9:PySem.W.nsIn K mainGlobals "reversed"=some none) :
  ∃fd:FuncData,(∀(s:Shared) (v:Value),BindsTo s fd ⟨[v],[]⟩ [("script",v)])/\∀base:Heap,K.In base->base.Ns mainGlobals mg->FnOk l.prog w K mg base CX0 19 fa fd ["script"] (jkN K):=by
 have e:=hfa.symm.trans (PySem.W.mg_of X G a51);cases e;have T:Tx K mg t1 t2:=⟨PySem.W.mg_none_of X G z0,PySem.W.mg_none_of X G z1,PySem.W.mg_none_of X G z2,PySem.W.mg_none_of X G z3,PySem.W.mg_none_of X G z4,PySem.W.mg_none_of X G z5,PySem.W.mg_none_of X G z6,PySem.W.mg_none_of X G z7,PySem.W.mg_none_of X G z8,PySem.W.mg_none_of X G z9,PySem.W.mg_of X G aS0,PySem.W.mg_of X G aS1⟩;have AF:At K mg "made_spot" jbo ["x","y","z","w"] []:=jlE (ds:=[]) X G (fun _ _ _ _ _ _ us hl=>match us,hl with | [_,_,_,_],_=>⟨_,rfl,rfl⟩) aF lF cF kF lD hD .nil;have AF1:At K mg "made_spot" jbo ["x","y","z","w"] [.int 1]:=jlE (ds:=[.int 1 tD]) X G (fun _ _ _ _ _ _ us hl=>by
  rw[xad] at hl;have hl2:us.length=3:=by simpa using hl
  match us,hl2 with
  | [u0,u1,u2],_=>exact⟨_,rfl,rfl⟩) aF lF cF kF lD hD (.cons ⟨_,rfl⟩ .nil)
 have FL:=jgq (st:=jfb) l51 c51 k51;refine⟨PySem.W.fnOf "law" "law" (jbA jfb) (jbm jfb) (jah jfb) .none kV51 dc51 pm51 an51 cd51 ct51,fun s v=>.of_eq rfl,fun base _ _=>?_⟩;have D0:=jnC (P:=l.prog) (w:=w) (base:=base) T (a0.go X G);have D1:=jnD (P:=l.prog) (w:=w) (base:=base) T (a1.go X G) D0;have D2:=jpv (P:=l.prog) (w:=w) (base:=base) T (a2.go X G);have D3:=ok_nx (P:=l.prog) (w:=w) (base:=base) T (a3.go X G);have D4:=jpA (P:=l.prog) (w:=w) (base:=base) T (a4.go X G) D3;have D5:=jpw (P:=l.prog) (w:=w) (base:=base) T (a5.go X G);have D6:=jpE (P:=l.prog) (w:=w) (base:=base) T (a6.go X G) D3 D4 D5;have D7:=ok_gd (P:=l.prog) (w:=w) (base:=base) T (a7.go X G);have D8:=joW (P:=l.prog) (w:=w) (base:=base) T (a8.go X G) D7;have D9:=jo9 (P:=l.prog) (w:=w) (base:=base) T AF D8;have D10:=jnJ (P:=l.prog) (w:=w) (base:=base) T (a9.go X G) D9;have D11:=jhV (P:=l.prog) (w:=w) (base:=base) T (a10.go X G);have D12:=jhU (P:=l.prog) (w:=w) (base:=base) T (a11.go X G);have D13:=joX (P:=l.prog) (w:=w) (base:=base) T (a12.go X G) D12;have D14:=jkO (P:=l.prog) (w:=w) (base:=base) T (a13.go X G) D11 D13;have D15:=jm4 (P:=l.prog) (w:=w) (base:=base) T (a14.go X G) D14;have D16:=jkR (P:=l.prog) (w:=w) (base:=base) T (a15.go X G) D14;have D17:=jkS (P:=l.prog) (w:=w) (base:=base) T (a16.go X G) D8;have D18:=jkQ (P:=l.prog) (w:=w) (base:=base) T (a17.go X G);have D19:=jiP (P:=l.prog) (w:=w) (base:=base) T (a18.go X G);have D20:=jhW (P:=l.prog) (w:=w) (base:=base) T (a19.go X G) D16 D17 D18 D19;have D21:=jm5 (P:=l.prog) (w:=w) (base:=base) T (a20.go X G);have D22:=ok_ht (P:=l.prog) (w:=w) (base:=base) T (a21.go X G);have D23:=jm6 (P:=l.prog) (w:=w) (base:=base) T (a22.go X G) D21 D22;have D24:=jm7 (P:=l.prog) (w:=w) (base:=base) T (a23.go X G);have D25:=jm8 (P:=l.prog) (w:=w) (base:=base) T (a24.go X G) D21 D14;have D26:=joY (P:=l.prog) (w:=w) (base:=base) T (a25.go X G) D25;have D27:=jkT (P:=l.prog) (w:=w) (base:=base) T (a26.go X G);have D28:=jiQ (P:=l.prog) (w:=w) (base:=base) T (a27.go X G) D27;have D29:=jkV (P:=l.prog) (w:=w) (base:=base) T (a28.go X G) D15 D20 D23 D24 D26 D28;have D30:=jnN (P:=l.prog) (w:=w) (base:=base) T (a29.go X G) D2 D6 D3 D10 D29;have D31:=jpJ (P:=l.prog) (w:=w) (base:=base) T (a30.go X G);have D32:=jpN (P:=l.prog) (w:=w) (base:=base) T (a31.go X G) D5 D31;have D33:=jnZ (P:=l.prog) (w:=w) (base:=base) T (a32.go X G) D10 D32 D3;have D34:=jln (P:=l.prog) (w:=w) (base:=base) T (a33.go X G) D3;have D35:=jhX (P:=l.prog) (w:=w) (base:=base) T (a34.go X G) D20;have D36:=jkZ (P:=l.prog) (w:=w) (base:=base) T (a35.go X G);have D37:=jpb (P:=l.prog) (w:=w) (base:=base) T (a36.go X G) D22 D9;have D38:=jk4 (P:=l.prog) (w:=w) (base:=base) T (a37.go X G) D36 D23 D37;have D39:=jnd (P:=l.prog) (w:=w) (base:=base) T (a38.go X G) D23 D38 D28;have D40:=ok_gx (P:=l.prog) (w:=w) (base:=base) T (a39.go X G) D39;have D41:=jpQ (P:=l.prog) (w:=w) (base:=base) T (a40.go X G) D35 D40;have D42:=ok_ow (P:=l.prog) (w:=w) (base:=base) T (a41.go X G);have D43:=ok_hu (P:=l.prog) (w:=w) (base:=base) T (a42.go X G) D3;have D44:=jp3 (P:=l.prog) (w:=w) (base:=base) T (a43.go X G) D39;have D45:=ok_tj (P:=l.prog) (w:=w) (base:=base) T (a44.go X G) D44;have D46:=jpT (P:=l.prog) (w:=w) (base:=base) T (a45.go X G);have D47:=jp6 (P:=l.prog) (w:=w) (base:=base) T (a46.go X G) D46;have D48:=jp8 (P:=l.prog) (w:=w) (base:=base) T (a47.go X G);have D49:=ok_tw (P:=l.prog) (w:=w) (base:=base) T (a48.go X G);have D50:=ok_so (P:=l.prog) (w:=w) (base:=base) T (a49.go X G);have D51:=ok_wr (P:=l.prog) (w:=w) (base:=base) T (a50.go X G) D47 D46 D48 D49 D3 D50;exact jqd T FL D1 D2 D3 D30 D33 D34 D41 D10 D32 D42 D43 D45 D51
theorem walk {l:PySem.W.OpenLaw} {q:Program} {loose:List Str} {XP:(Str->Option Value)->Heap->Prop} {YP:World->Heap->Prop} {d:DefRec} {K:Params->PySem.W.Frag} (hn:l.most=some 63) (hdf:d.params.defaults=[])
  (hY:∀(w:World) (h:Heap),YP w h->(K w.params).In h)
  (F:∀(w:World) (mg:Str->Option Value) (fa:Addr) (h:Heap),(K w.params).In h->h.Ns mainGlobals mg->mg d.name=some (.ref fa) ->
   ∃fd:FuncData,(∀(s:Shared) (u:Value),BindsTo s fd ⟨[u],[]⟩ [("script",u)])/\∀base:Heap,(K w.params).In base->base.Ns mainGlobals mg->FnOk l.prog w (K w.params) mg base CX0 19 fa fd ["script"] (jkN (K w.params))) :
  PySem.W.WalkO q loose XP YP l.row.toRowW d [] (fun f vs=>PySem.call f vs) :=
 L2.jmN (n:=63) (k:=19) (x:="script") (CX:=fun _=>CX0) (sp:=fun w=>jkN (K w.params)) hn (by decide) hdf ⟨rfl,by decide,by decide⟩ hY F (fun _ _ a ns hl _ hS=>⟨a,ns,rfl,hS,hl,fun _=>rfl⟩) fun _ _ _ _ _ z=>z
end My
namespace PySem.W.Fast
def tw10081239046073192524:=0
def tw10116361262451048040:=0
def tw10165295827578168812:=0
def tw10473031887164807282:=0
def tw10563747183306634032:=0
def tw10583550032804501933:=0
def tw10589753720139886220:=0
def tw10634427265545606662:=0
def tw10641126188583274573:=0
def tw10687004070368771350:=0
def tw10697664617137299533:=0
def tw10737903630812811064:=0
def tw10775432707555490913:=0
def tw10847403712144885695:=0
def tw1095786049136509630:=0
def tw11118219981410782338:=0
def tw11166303709127637029:=0
def tw11168859410546386305:=0
def tw1121500660733935044:=0
def tw11224209610564849320:=0
def tw11236870073883055857:=0
def tw1143635490141130459:=0
def tw11450861316440122938:=0
def tw1146623400683122350:=0
def tw11611690143408385042:=0
def tw11728472809049695132:=0
def tw11767864616162376192:=0
def tw11774354212062821917:=0
def tw11908734033830355521:=0
def tw11938807323662681817:=0
def tw12012753539583206762:=0
def tw12032749998092013180:=0
def tw12369126124049047693:=0
def tw12438668434267518224:=0
def tw1244544551260362371:=0
def tw12515614735503467652:=0
def tw1251630591324310643:=0
def tw12763437750099143557:=0
def tw12812612117673756357:=0
def tw12826183828486232475:=0
def tw12984303734486057545:=0
def tw13019016634050792834:=0
def tw1306898405118741220:=0
def tw13107832814224968649:=0
def tw13219303570458868666:=0
def tw13400885557619178958:=0
def tw1342201378256491282:=0
def tw13443630877662879841:=0
def tw13503361397380861864:=0
def tw13767378264639574401:=0
def tw13774274021947647294:=0
def tw1385966949387748491:=0
def tw13873469855635908551:=0
def tw14028568892725550678:=0
def tw14167564852342633651:=0
def tw142147011603234250:=0
def tw14301276773732140060:=0
def tw14316666749587424309:=0
def tw14377212393396062046:=0
def tw14468278894917259680:=0
def tw1452530054392050109:=0
def tw14563744190097956184:=0
def tw14650373755111958695:=0
def tw14663120271629624331:=0
def tw14738211940426210447:=0
def tw14755452833412115844:=0
def tw14797678743418388960:=0
def tw14890642169111087940:=0
def tw15065526940916886977:=0
def tw15117103110725265417:=0
def tw15169957850760894254:=0
def tw15173804083717341276:=0
def tw15296416554181550835:=0
def tw15321382245639209477:=0
def tw1534656684916076775:=0
def tw15363379272061574354:=0
def tw15507933259112013581:=0
def tw15602775924460310180:=0
def tw15622550839670567277:=0
def tw15647257735293098928:=0
def tw15853930264604774981:=0
def tw15890694087454831085:=0
def tw15936194386253815963:=0
def tw15979558176027041642:=0
def tw16038026429628322406:=0
def tw16114476935838376532:=0
def tw16205199350611816867:=0
def tw16233503549371640118:=0
def tw16241154980170903837:=0
def tw16317237492047105055:=0
def tw16378635157130943702:=0
def tw16398433162365818065:=0
def tw16424265780662273555:=0
def tw16437546489005687648:=0
def tw16568356000643067675:=0
def tw16598250588192336763:=0
def tw16615021385853069873:=0
def tw16657183647333068808:=0
def tw16666144445745389272:=0
def tw16897347745198727045:=0
def tw16914532014842225139:=0
def tw16927418490028963973:=0
def tw16948455892565425778:=0
def tw16954222278755951640:=0
def tw17035239082135914454:=0
def tw17046945398775490577:=0
def tw17140394977959823558:=0
def tw17168215142865802165:=0
def tw1724626384812746774:=0
def tw17540456239832294063:=0
def tw17658943559904718474:=0
def tw17704198382684175320:=0
def tw17709587481044773192:=0
def tw17728142738693310871:=0
def tw17802682461985534315:=0
def tw17910854609174962751:=0
def tw17965196864643378427:=0
def tw17998629860321531869:=0
def tw18048951515774803043:=0
def tw18195222909320455895:=0
def tw18272434990217224260:=0
def tw1829034942482549525:=0
def tw18333615051288926855:=0
def tw1864741805499155535:=0
def tw1906551795051835942:=0
def tw1924151211466134339:=0
def tw1924495967062803882:=0
def tw2079422427396885311:=0
def tw2160120776937852599:=0
def tw2270290072130306739:=0
def tw2483891309543272362:=0
def tw2486261996611100330:=0
def tw2558545689172331200:=0
def tw256389917080607162:=0
def tw2613076983643044760:=0
def tw263525244233408091:=0
def tw2675585826475607629:=0
def tw2685448162402128237:=0
def tw2688131348328704837:=0
def tw2739393216955196189:=0
def tw2746994718344773020:=0
def tw2754453667055187237:=0
def tw2758356946231847032:=0
def tw2814375050542263415:=0
def tw2840452577289177064:=0
def tw2879867266386219362:=0
def tw2965189417650924339:=0
def tw2967362027570323713:=0
def tw2989603726539805909:=0
def tw3005852237576386096:=0
def tw3050762642031203220:=0
def tw3056782531678379384:=0
def tw3059773129780656180:=0
def tw3080453008973080931:=0
def tw3083997646520986949:=0
def tw3107078811405693951:=0
def tw31908159561473301:=0
def tw3192588467686278398:=0
def tw3197859952418978642:=0
def tw3300385513600171926:=0
def tw3324663710043302209:=0
def tw3354021835977513708:=0
def tw3521887964859963378:=0
def tw3620258627252372308:=0
def tw3865560430109622061:=0
def tw3870342063833014375:=0
def tw3934443084789995823:=0
def tw396411971360372745:=0
def tw4168077052688546270:=0
def tw4212465078939025813:=0
def tw4234882486514853180:=0
def tw4339777105501154106:=0
def tw435466940112631087:=0
def tw4396735022607577602:=0
def tw4450849500088125535:=0
def tw4455318480146813903:=0
def tw4458452312762644599:=0
def tw4470466847740696875:=0
def tw4585171659489125409:=0
def tw4773551776936137195:=0
def tw478489115739521601:=0
def tw4862805126283800506:=0
def tw4880786967113927226:=0
def tw5059129760015883565:=0
def tw517667842066753010:=0
def tw518020480446711623:=0
def tw5216552026734743248:=0
def tw5290788723235643040:=0
def tw5307909167983077996:=0
def tw5340180367634744830:=0
def tw5436690065667371188:=0
def tw54396589998197098:=0
def tw5473613417629908216:=0
def tw5757628445567612924:=0
def tw5944537085403563437:=0
def tw6087143344242504216:=0
def tw6101775469174130525:=0
def tw61831081564088436:=0
def tw6197928294865591717:=0
def tw6308881224499698308:=0
def tw6365590181506092465:=0
def tw6434438396206134395:=0
def tw6562073860295393817:=0
def tw6593610278954177498:=0
def tw6670722023553367821:=0
def tw6695554084293387888:=0
def tw6776302824241854553:=0
def tw6926197994034114137:=0
def tw7014167721108300755:=0
def tw7049687375408626592:=0
def tw7054524672061001038:=0
def tw7091488614411887029:=0
def tw7129450936660695464:=0
def tw7142652471509953823:=0
def tw7158474374009719085:=0
def tw7343353887556811573:=0
def tw7479508645152451129:=0
def tw7569329535122059869:=0
def tw7668723112448499483:=0
def tw7698501790268944347:=0
def tw772031067370835539:=0
def tw7803294078533936495:=0
def tw7815811802007618266:=0
def tw7883703261620216148:=0
def tw7926671415866423964:=0
def tw804697701480477128:=0
def tw8077929601055164918:=0
def tw8137709593059610689:=0
def tw8153387736491936452:=0
def tw8239789879652634651:=0
def tw8272981765804698952:=0
def tw835963321525381177:=0
def tw8393820519037602198:=0
def tw8396122671407420996:=0
def tw840390104084076623:=0
def tw85067151607863995:=0
def tw8662560485656232994:=0
def tw8794348935680623805:=0
def tw8850038653930097599:=0
def tw8863861675760422763:=0
def tw8942010219195387999:=0
def tw8993335096470300787:=0
def tw9189681591469052882:=0
def tw9238301598517443998:=0
def tw9241600149572610305:=0
def tw9288056448586876240:=0
def tw9352877004670978346:=0
def tw9459165993229687602:=0
def tw9478756705407527215:=0
def tw9487077975202073582:=0
def tw9508659840227936968:=0
def tw9551888006148227584:=0
def tw9553958037835703143:=0
def tw9674953431666021348:=0
def tw9688596953580227661:=0
def tw9776936256856462548:=0
def tw9850604011535248926:=0
def tw992206601163480380:=0
end PySem.W.Fast
open PySem PySem.W PyProof.Rows
set_option maxRecDepth 100000 in
set_option maxHeartbeats 0 in
theorem PySem.Challenge.cw_boardsight_k44_trees_judged_holds : PySem.Challenge.rw_boardsight_k44_trees_judged.Holds := by
  w_on;o_law;k_head;(case hw=>w_witness2)
  k_fill
  refine My.walk (l:=PySem.Challenge.rw_boardsight_k44_trees_judged) rfl rfl (fun w h Y=>PySem.W.kIn_of Y) ?F
  case F =>
    intro w mg fa h KX G hmg
    refine' My.jqe KX G hmg ?aS0 ?aS1 ?aF ?lF ?cF ?kF ?lD ?hD ?a0 ?a1 ?a2 ?a3 ?a4 ?a5 ?a6 ?a7 ?a8 ?a9 ?a10 ?a11 ?a12 ?a13 ?a14 ?a15 ?a16 ?a17 ?a18 ?a19 ?a20 ?a21 ?a22 ?a23 ?a24 ?a25 ?a26 ?a27 ?a28 ?a29 ?a30 ?a31 ?a32 ?a33 ?a34 ?a35 ?a36 ?a37 ?a38 ?a39 ?a40 ?a41 ?a42 ?a43 ?a44 ?a45 ?a46 ?a47 ?a48 ?a49 ?a50 ?a51 ?l51 ?c51 ?k51 ?z0 ?z1 ?z2 ?z3 ?z4 ?z5 ?z6 ?z7 ?z8 ?z9
    (case aS0=>k_is)
    (case aS1=>k_is)
    (case aF=>k_is)
    (case lF=>k_is)
    (case cF=>k_is)
    (case kF=>k_is)
    (case lD=>k_is)
    (case hD=>first | rfl | k_is)
    (case a51=>k_is)
    (case l51=>k_is)
    (case c51=>k_is)
    (case k51=>k_is)
    (case z0=>k_is)
    (case z1=>k_is)
    (case z2=>k_is)
    (case z3=>k_is)
    (case z4=>k_is)
    (case z5=>k_is)
    (case z6=>k_is)
    (case z7=>k_is)
    (case z8=>k_is)
    (case z9=>k_is)
    all_goals (apply My.AtK.mk;k_is;k_is;k_is;k_is)
