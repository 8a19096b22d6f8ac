import PyProof.Rows.All
import Wide.All
import OpenK.AllK
import Wide.FinOn
import Lean
import PyProof.EqAt
import PyProof.EqKinds
import PyProof.TupleCall
import PySem.Challenge.RW_boardsight_k30_whole_along_the_sight
set_option Elab.async false
set_option linter.all false
set_option maxRecDepth 100000
local macro_rules | `(tactic| omega) => `(tactic| first | assumption | with_reducible rfl | exact Nat.le_of_lt (by assumption) | exact Int.le_of_lt (by assumption) | omega (config := {}))
def xaa:=@List.length_map
def xab:=@Int.mul_pos
def xac:=@List.getD_eq_getElem?_getD
def xad:=@List.getElem?_eq_getElem
def xae:=@List.getElem?_eq_some_iff
def xaf:=@Int.mul_nonneg
def xag:=@List.mem_cons_of_mem
def xah:=@Int.mul_eq_zero
def xai:=@List.mem_map
def xaj:=@Int.mul_zero
def xak:=@Int.mul_neg_of_pos_of_neg
def xal:=@Nat.mod_eq_of_lt
def xam:=@Nat.le_refl
def xan:=@Int.le_of_lt
def xao:=@List.length_append
def xap:=@List.mem_cons
def xaq:=@List.map_append
def xar:=@Classical.byContradiction
def xas:=@List.size_toArray
def xat:=@List.getElem?_map
def xau:=@Nat.lt_of_lt_of_le
def xav:=@Int.lt_or_gt_of_ne
def xaw:=@List.getElem_mem
def xax:=@Int.mul_nonpos_of_nonneg_of_nonpos
def xay:=@Int.mul_neg_of_neg_of_pos
def xaz:=@Nat.mod_lt
def xaA:=@List.mem_append
def xaB:=@List.length_cons
def xaC:=@Bool.false_ne_true
def xaD:=@List.filter_append
def xaE:=@Int.lt_or_le
def xaF:=@Int.mul_ne_zero
def xaG:=@List.length_drop
def xaH:=@List.mem_range
def xaI:=@Int.le_refl
def xaJ:=@Int.zero_mul
def xaK:=@Nat.ne_of_lt
def xaL:=@Int.mul_comm
def xaM:=@Int.ediv_mul_cancel
def xaN:=@Int.mul_pos_of_neg_of_neg
def xaO:=@List.mem_singleton
def xaP:=@List.getElem?_append_right
def xaQ:=@List.take_append_drop
def xaR:=@List.reverse_cons
def xaS:=@List.mem_cons_self
def xaT:=@List.length_take
def xaU:=@Int.emod_lt_of_pos
def xaV:=@Int.neg_eq_zero
def xaW:=@List.lookup_cons
def xaX:=@List.mem_append_right
def xaY:=@Nat.lt_of_le_of_lt
def xaZ:=@List.range_succ
def xa0:=@Int.emod_nonneg
def xa1:=@Int.ne_of_gt
def xa2:=@List.filter_cons_of_pos
def xa3:=@List.getElem?_append_left
def xa4:=@Nat.le_trans
def xa5:=@List.map_cons
def xa6:=@Nat.zero_le
def xa7:=@Int.dvd_mul_of_dvd_right
def xa8:=@Int.lt_trichotomy
def xa9:=@Nat.not_lt_zero
def xba:=@Int.natAbs_ediv_le_natAbs
def xbb:=@Nat.le_of_lt
def xbc:=@Nat.mod_self
def xbd:=@List.filter_cons_of_neg
def xbe:=@List.length_replicate
def xbf:=@List.length_range
def xbg:=@Nat.add_mod_right
def xbh:=@List.mem_filter
def xbi:=@List.mem_of_getElem?
def xbj:=@Int.mul_ediv_cancel'
def xbk:=@List.replicate_succ
def xbl:=@List.length_reverse
def xbm:=@Int.gcd_dvd_right
def xbn:=@Int.neg_mul
def xbo:=@List.flatMap_cons
def xbp:=@Classical.not_not
def xbq:=@List.getElem?_eq_none
def xbr:=@List.filter_cons
def xbs:=@Int.gcd_dvd_left
def xbt:=@Int.one_mul
def xbu:=@List.mem_flatMap
def xbv:=@List.mem_iff_getElem
def xbw:=@Nat.lt_irrefl
def xbx:=@Int.dvd_trans
def xby:=@Nat.lt_succ_of_lt
def xbz:=@Int.dvd_coe_gcd
def xbA:=@List.take_of_length_le
def xbB:=@Int.mul_nonneg_of_nonpos_of_nonpos
def xbC:=@Int.mul_nonpos_of_nonpos_of_nonneg
def xbD:=@List.take_length
def xbE:=@Nat.zero_add
def xbF:=@List.mem_iff_getElem?
def xbG:=@Bool.and_eq_true_iff
def xbH:=@Nat.pow_le_pow_right
def xbI:=@List.take_add_one
def xbJ:=@Nat.lt_or_ge
def xbK:=@List.map_map
def xbL:=@List.filterMap_cons
def xbM:=@List.map_take
def xbN:=@Int.mul_neg
def xbO:=@Int.natAbs_neg
def xbP:=@List.flatten_cons
def xbQ:=@List.map_drop
def xbR:=@Int.fdiv_eq_ediv_of_nonneg
def xbS:=@List.mem_append_left
def xbT:=@List.mem_of_mem_take
def xbU:=@List.drop_left
def xbV:=@List.take_left
def xbW:=@List.all_eq_true
def xbX:=@List.not_mem_nil
def xbY:=@List.map_reverse
def xbZ:=@Int.mul_add
def xb0:=@List.map_congr_left
def xb1:=@List.flatMap_append
def xb2:=@Int.pos_of_mul_pos_right
def xb3:=@Bool.eq_iff_iff
def xb4:=@Int.ediv_nonneg
def xb5:=@Nat.lt_or_gt_of_ne
def xb6:=@List.sum_cons
def xb7:=@List.drop_of_length_le
def xb8:=@Nat.lt_of_succ_lt_succ
def xb9:=@List.append_assoc
def xca:=@List.map_nil
def xcb:=@List.length_singleton
def xcc:=@List.length_filter_le
def xcd:=@List.getElem?_reverse
def xce:=@Int.zero_add
def xcf:=@List.ext_getElem
def xcg:=@List.getElem?_of_mem
def xch:=@List.mem_of_mem_drop
def xci:=@List.nodup_cons
def xcj:=@List.length_pos_iff
def xck:=@Nat.le_succ
def xcl:=@Bool.false_eq_true
def xcm:=@Int.dvd_refl
def xcn:=@Int.le_trans
def xco:=@Int.natAbs_mul
def xcp:=@Int.mul_le_mul
def xcq:=@List.ext_getElem?
def xcr:=@Int.dvd_mul_right
def xcs:=@Int.mul_assoc
namespace L2
open PySem PySem.Spec PyProof.Rows
abbrev Key:=Sum Int Str
def jom:Key->Value->Bool
 | .inl k,v=>Value.isInt k v
 | .inr x,v=>Value.isStrOf x v
def keyH (w:World):Key->Int
 | .inl k=>hashInt k
 | .inr x=>hashStr w x
theorem ja7:∀{k:Key} {v:Value},jom k v=true->(∃i t,k=Sum.inl i/\v=Value.int i t)\/(∃x t,k=Sum.inr x/\v=Value.str x t)
  | .inl i, v, h => by
    obtain⟨t,e⟩:=Value.isInt_shape (k:=i) (v:=v) h;exact .inl ⟨i,t,rfl,e⟩
  | .inr x, v, h => by
    obtain⟨t,e⟩:=Value.isStrOf_shape (x:=x) (v:=v) h;exact .inr ⟨x,t,rfl,e⟩
theorem jon (a b:Int):decide ((Sum.inl a:Key)=Sum.inl b)=(a==b):=by
 by_cases e:a=b
 ·subst e;simp
 ·have h:¬(Sum.inl a:Key)=Sum.inl b:=fun q=>e (Sum.inl.inj q);rw[decide_eq_false h];exact (beq_eq_false_iff_ne.mpr e).symm
theorem joo (a b:Str):decide ((Sum.inr a:Key)=Sum.inr b)=decide (a=b):=by
 by_cases e:a=b
 ·subst e;simp
 ·have h:¬(Sum.inr a:Key)=Sum.inr b:=fun q=>e (Sum.inr.inj q);rw[decide_eq_false h,decide_eq_false e]
theorem jop (a:Int) (b:Str):decide ((Sum.inl a:Key)=Sum.inr b)=false:=decide_eq_false (fun q=>nomatch q)
theorem joq (a:Str) (b:Int):decide ((Sum.inr a:Key)=Sum.inl b)=false:=decide_eq_false (fun q=>nomatch q)
def jiQ (prog:Program) (w:World):PySem.KeyKind prog w Key where
 is:=jom
 hash:=keyH w
 inj:=fun v a b ha hb=>by
  rcases ja7 ha with ⟨i,t,rfl,rfl⟩ | ⟨x,t,rfl,rfl⟩
  ·rcases ja7 hb with ⟨j,u,rfl,e⟩ | ⟨y,u,rfl,e⟩
   ·injection e with e1 _;rw[e1]
   ·exact nomatch e
  ·rcases ja7 hb with ⟨j,u,rfl,e⟩ | ⟨y,u,rfl,e⟩
   ·exact nomatch e
   ·injection e with e1 _;rw[e1]
 byValue:=fun k v h=>by
  rcases ja7 h with ⟨i,t,rfl,rfl⟩ | ⟨x,t,rfl,rfl⟩<;>rfl
 pyHash:=fun hv h=>by
  rcases ja7 hv with ⟨i,t,rfl,rfl⟩ | ⟨x,t,rfl,rfl⟩
  ·exact wpAny_pyHash_int h
  ·exact wpAny_pyHash_str h
 eqBool:=fun hu hv h=>by
  rcases ja7 hu with ⟨i,t,rfl,rfl⟩ | ⟨x,t,rfl,rfl⟩
  ·rcases ja7 hv with ⟨j,u,rfl,rfl⟩ | ⟨y,u,rfl,rfl⟩
   ·rw[jon] at h;exact wpAny_eqBool_int h
   ·rw[jop] at h;exact SeqAt.EqAt.int_str i t y u _ _ _ _ h
  ·rcases ja7 hv with ⟨j,u,rfl,rfl⟩ | ⟨y,u,rfl,rfl⟩
   ·rw[joq] at h;exact SeqAt.EqAt.str_int x t j u _ _ _ _ h
   ·rw[joo] at h;exact wpAny_eqBool_str h
 «strs»:=fun k x t v h=>by
  rcases ja7 h with ⟨i,u,rfl,e⟩ | ⟨y,u,rfl,e⟩
  ·exact nomatch e
  ·injection e with e1 _
   subst e1
   cases v<;>rfl
inductive V where
 | non | bl (b:Bool) | int (i:Int) | str (x:Str) | byt (b:Array UInt8) | flt (b:UInt64) | ref (a:Addr) | ty (n:String)
 deriving DecidableEq
def RelV:V->Value->Prop
 | .non,u=>u=Value.none
 | .bl b,u=>u=Value.bool b
 | .int i,u=>∃t,u=Value.int i t
 | .str x,u=>∃t,u=Value.str x t
 | .byt b,u=>∃t,u=Value.bytes b t
 | .flt b,u=>∃t,u=Value.float b t
 | .ref a,u=>u=Value.ref a
 | .ty n,u=>u=Value.type n
abbrev Vals:List V->List Value->Prop:=Paired RelV
theorem Vals.length {xs:List V} {us:List Value} (r:Vals xs us):xs.length=us.length:=Paired.length r
theorem Vals.get:∀{xs:List V} {us:List Value} {i:Nat} {x:V},Vals xs us->xs[i]?=some x->∃u,us[i]?=some u/\RelV x u
  | _,_,_,_,.nil,e=>by simp at e
  | _,_,0,_,.cons r _,e=>by simp at e;subst e;exact⟨_,rfl,r⟩
  | _, _, i + 1, x, .cons _ t, e => by
    obtain⟨u,h1,h2⟩:=Vals.get (i:=i) (x:=x) t (by simpa using e);exact⟨u,by simpa using h1,h2⟩
theorem Vals.set {x:V} {u:Value} (r:RelV x u):∀{xs:List V} {us:List Value} (i:Nat),Vals xs us->Vals (xs.set i x) (us.set i u)
 | _,_,_,.nil=>.nil
 | _,_,0,.cons _ t=>.cons r t
 | _,_,i+1,.cons q t=>.cons q (Vals.set r i t)
theorem Vals.append:∀{xs ys:List V} {us ws:List Value},Vals xs us->Vals ys ws->Vals (xs++ys) (us++ws)
 | _,_,_,_,.nil,s=>s
 | _,_,_,_,.cons r t,s=>.cons r (Vals.append t s)
theorem Vals.take:∀{xs:List V} {us:List Value} (n:Nat),Vals xs us->Vals (xs.take n) (us.take n)
 | _,_,0,_=>.nil
 | _,_,_+1,.nil=>.nil
 | _,_,n+1,.cons r t=>.cons r (Vals.take n t)
theorem Vals.drop:∀{xs:List V} {us:List Value} (n:Nat),Vals xs us->Vals (xs.drop n) (us.drop n)
 | _,_,0,r=>r
 | _,_,_+1,.nil=>.nil
 | _,_,n+1,.cons _ t=>Vals.drop n t
def RelO:Option V->Option Value->Prop
 | some v,some u=>RelV v u
 | none,none=>True
 | _,_=>False
def KV {κ:Type}:List (κ × V)->List (κ × Value)->Prop:=Paired fun (p:κ × V) (q:κ × Value)=>p.1=q.1/\RelV p.2 q.2
def kV:Key->V
 | .inl i=>.int i
 | .inr x=>.str x
inductive HO where
 | lst (xs:List V)
 | tup (xs:List V)
 | dK (kvs:List (Key × V)) | dT (kvs:List (List Key × V))
 | set (S:Int->Bool) (n:Nat)
 | ins (C dx:Addr) (fs:List (Str × V))
 | own (x:Addr)
 | xd (fs:List (Str × V))
 | met (f x:Addr)
 | rng (lo hi:Int)
 | frz (o:Obj) (u:HO)
 | tbl (ps:Array Value)
 | ext (φ:Heap->Prop)
abbrev Hp:=Addr->Option HO
def upd (H:Hp) (a:Addr) (o:HO):Hp:=fun b=>if b=a then some o else H b
theorem jam {H:Hp} {a:Addr} {o:HO}:upd H a o a=some o:=by unfold upd;rw[if_pos rfl]
theorem jaT {H:Hp} {a b:Addr} {o:HO} (h:b≠a):upd H a o b=H b:=by unfold upd;rw[if_neg h]
theorem ja0 {H:Hp} {a b:Addr} {o:HO} (h:H a=some o) (h':H b=none):a≠b:=by
 intro e;subst e;rw[h] at h';cases h'
section
variable (P:Program) (w:World)
def ObjOk (H:Hp) (h:Heap) (a:Addr):HO->Prop
 | .lst xs=>xs.length<=sizeLine/\∃(its:List Value) (n:Nat),Vals xs its/\h.get? a=some { cls:=.type "list",data:=.seq its.toArray n }
 | .tup xs=>xs.length<=sizeLine/\∃its:List Value,Vals xs its/\IsTup h a its.toArray
 | .dK kvs=>kvs.length<=sizeLine/\(a==sysModules)=false/\∃vs,KV kvs vs/\h.DictOf (jiQ P w) a vs
 | .dT kvs=>kvs.length <= sizeLine /\ (a==sysModules)=false /\ ∃xs:List (List Key × Addr × Value),
   Paired (fun (p:List Key × V) (q:List Key × Addr × Value)=>p.1=q.1/\H q.2.1=some (.tup (p.1.map kV))/\RelV p.2 q.2.2) kvs xs /\
   ∃o es ep,h.get? a=some o/\o.ExactDict/\o.data=.dict es ep/\es.toList=xs.map (entryOfKey (tupleKind (jiQ P w)))/\(xs.map (·.1)).Nodup
 | .set S n=>h.SetOf (intKind P w) a S n
 | .ins C dx fs=>H dx=some (.own a) /\ fs.length <= 1000 /\ dx≠a /\ h.get? a=some (PySem.W.instObj C dx) /\
   ∃mA,h.Ns1 dx mA/\(∀f,RelO (fs.lookup f) (mA f))/\PySem.Within mA (fs.map (·.1))
 | .own _=>∃o,h.get? a=some o
 | .xd fs=>∃mA,h.Ns1 a mA/\∀f,RelO (fs.lookup f) (mA f)
 | .rng lo hi=>∃t u v,h.get? a=some { cls:=.type "range",data:=.fields #[.int lo t,.int hi u,.int 1 v] }
 | .frz o u=>h.get? a=some o/\ObjOk H h a u
 | .tbl ps=>h.get? a=some { cls:=.none,data:=.fields ps }
 | .met f x=>h.get? a=some (PySem.W.methodObj (.ref f) (.ref x))
 | .ext φ=>φ h/\(∃o,h.get? a=some o)/\∀h1 h2:Heap,φ h1->(∀o,h1.get? a=some o->h2.get? a=some o)->φ h2
def HOk (H:Hp) (h:Heap):Prop:=∀a o,H a=some o->ObjOk P w H h a o
end
section
variable {P:Program} {w:World} {H H':Hp} {h h':Heap} {a:Addr} {o:HO}
theorem ObjOk.lt (x:ObjOk P w H h a o):a<h.objs.size:=by
 cases o with
 | lst xs=>obtain⟨_,_,_,_,e⟩:=x;exact Heap.lt_size e
 | tup xs=>obtain⟨_,_,_,p⟩:=x;exact p.lt
 | dK kvs=>obtain⟨_,_,_,_,o,_,_,e,_⟩:=x;exact Heap.lt_size e
 | dT kvs=>obtain⟨_,_,_,_,o,_,_,e,_⟩:=x;exact Heap.lt_size e
 | set S n=>obtain⟨o,_,_,_,e,_⟩:=x;exact Heap.lt_size e
 | ins C dx fs=>obtain⟨_,_,_,e,_⟩:=x;exact Heap.lt_size e
 | own y=>obtain⟨_,e⟩:=x;exact Heap.lt_size e
 | xd fs=>obtain⟨_,⟨_,_,_,e,_⟩,_⟩:=x;exact Heap.lt_size e
 | rng lo hi=>obtain⟨_,_,_,e⟩:=x;exact Heap.lt_size e
 | frz ob u=>obtain⟨e,_⟩:=x;exact Heap.lt_size e
 | tbl ps=>exact Heap.lt_size (show h.get? a=some _ from x)
 | met f y=>exact Heap.lt_size (show h.get? a=some _ from x)
 | ext φ=>obtain⟨_,⟨_,e⟩,_⟩:=x;exact Heap.lt_size e
theorem Paired.mapP {α β:Type} {F G:α->β->Prop}:∀{l₁:List α} {l₂:List β},Paired F l₁ l₂->(∀a b,F a b->G a b)->Paired G l₁ l₂
 | _,_,.nil,_=>.nil
 | _,_,.cons r t,f=>.cons (f _ _ r) (Paired.mapP t f)
theorem ObjOk.stay (x:ObjOk P w H h a o) (k:∀b u,(b=a\/H b=some (.own a))->h.get? b=some u->h'.get? b=some u)
    (ho:∀b,H b=some (.own a)->H' b=some (.own a)) (ht:∀b xs,H b=some (.tup xs)->H' b=some (.tup xs)):ObjOk P w H' h' a o:=by
  induction o with
  | lst xs=>obtain⟨z,its,n,r,e⟩:=x;exact⟨z,its,n,r,k _ _ (.inl rfl) e⟩
  | tup xs=>obtain⟨z,its,r,ob,e,c⟩:=x;exact⟨z,its,r,ob,k _ _ (.inl rfl) e,c⟩
  | dK kvs=>obtain⟨z,y,vs,r,ob,es,ep,e,c⟩:=x;exact⟨z,y,vs,r,ob,es,ep,k _ _ (.inl rfl) e,c⟩
  | dT kvs =>
    obtain⟨z,y,xs,r,ob,es,ep,e,c⟩:=x;exact⟨z,y,xs,Paired.mapP r fun p q z=>⟨z.1,ht _ _ z.2.1,z.2.2⟩,ob,es,ep,k _ _ (.inl rfl) e,c⟩
  | set S n=>obtain⟨ob,es,ep,t,e,c⟩:=x;exact⟨ob,es,ep,t,k _ _ (.inl rfl) e,c⟩
  | ins C dx fs =>
    obtain⟨d,z,ne,e,mA,⟨od,es,ep,e2,c⟩,r⟩:=x;exact⟨ho _ d,z,ne,k _ _ (.inl rfl) e,mA,⟨od,es,ep,k _ _ (.inr d) e2,c⟩,r⟩
  | own y=>obtain⟨ob,e⟩:=x;exact⟨ob,k _ _ (.inl rfl) e⟩
  | xd fs=>obtain⟨mA,⟨od,es,ep,e,c⟩,r⟩:=x;exact⟨mA,⟨od,es,ep,k _ _ (.inl rfl) e,c⟩,r⟩
  | rng lo hi=>obtain⟨t,u,v,e⟩:=x;exact⟨t,u,v,k _ _ (.inl rfl) e⟩
  | frz ob u ih=>obtain⟨e,q⟩:=x;exact⟨k _ _ (.inl rfl) e,ih q⟩
  | tbl ps =>
    have e:h.get? a=some { cls:=.none,data:=.fields ps }:=x;show h'.get? a=some { cls:=.none,data:=.fields ps };exact k a _ (.inl rfl) e
  | met f y =>
    have e:h.get? a=some (PySem.W.methodObj (.ref f) (.ref y)):=x;show h'.get? a=some (PySem.W.methodObj (.ref f) (.ref y));exact k a _ (.inl rfl) e
  | ext φ=>obtain⟨p,⟨o,e⟩,st⟩:=x;exact⟨st _ _ p fun o q=>k _ _ (.inl rfl) q,⟨o,k _ _ (.inl rfl) e⟩,st⟩
theorem HOk.lt (x:HOk P w H h) (e:H a=some o):a<h.objs.size:=(x a o e).lt
theorem HOk.fresh (x:HOk P w H h) (e:h.objs.size<=a):H a=none:=by
 cases q:H a with
 | none=>rfl
 | some u=>exact absurd (xau (x.lt q) e) (xbw _)
theorem HOk.kept (x:HOk P w H h) (k:∀b u,h.get? b=some u->h'.get? b=some u):HOk P w H h':=fun a o e =>
 (x a o e).stay (fun b u _ q=>k b u q) (fun _ q=>q) fun _ _ q=>q
theorem HOk.laid (x:HOk P w H h) (k:∀b u,h.get? b=some u->h'.get? b=some u) (hp:h.objs.size<=a) (new:ObjOk P w (upd H a o) h' a o):HOk P w (upd H a o) h':=fun b u e=>by
 have hn:=x.fresh hp;by_cases hb:b=a
 ·subst hb;rw[jam] at e;cases e;exact new
 ·rw[jaT hb] at e;exact (x b u e).stay (fun c v _ q=>k c v q) (fun c q=>by rw[jaT (ja0 q hn)];exact q) fun c xs q=>by rw[jaT (ja0 q hn)];exact q
end
def Rd (H:Hp) (a:Addr) (u:HO):Prop:=H a=some u\/∃o,H a=some (.frz o u)
theorem Rd.of {H:Hp} {a:Addr} {u:HO} (h:H a=some u):Rd H a u:=.inl h
theorem Rd.ok {P:Program} {w:World} {H:Hp} {h:Heap} {a:Addr} {u:HO} (r:Rd H a u) (x:HOk P w H h):ObjOk P w H h a u:=by
 rcases r with r | ⟨o,r⟩
 ·exact x a u r
 ·obtain⟨_,q⟩:=x a _ r;exact q
def Mut:Option HO->Prop
 | some (.lst _)=>True
 | some (.dK _)=>True
 | some (.dT _)=>True
 | some (.set _ _)=>True
 | some (.ins _ _ _)=>True
 | some (.ext _)=>True
 | _=>False
section
variable {P:Program} {w:World} {H:Hp} {h h':Heap} {x e:Addr} {o':HO}
theorem HOk.write (ok:HOk P w H h) (mu:Mut (H x)) (he:e=x\/H e=some (.own x)) (k:∀b u,b≠e->h.get? b=some u->h'.get? b=some u) (heo:∃u,h'.get? e=some u)
  (new:ObjOk P w (upd H x o') h' x o'):HOk P w (upd H x o') h':=fun b u q=>by
 have nown:∀c y,H c=some (.own y)->c≠x:=fun c y r z=>by subst z;rw[r] at mu;exact mu
 have ntup:∀c xs,H c=some (.tup xs)->c≠x:=fun c xs r z=>by subst z;rw[r] at mu;exact mu
 by_cases hb:b=x
 ·subst hb;rw[jam] at q;cases q;exact new
 ·rw[jaT hb] at q;by_cases hbe:b=e
  ·have q':H b=some (.own x):=by
    rcases he with z | z
    ·exact absurd (hbe.trans z) hb
    ·rw[hbe];exact z
   rw[q] at q';cases q';obtain⟨v,hv⟩:=heo;exact⟨v,by rw[hbe];exact hv⟩
  ·refine (ok b u q).stay (fun c v hc r=>k c v ?_ r) (fun c r=>by rw[jaT (nown c b r)];exact r) fun c xs r=>by rw[jaT (ntup c xs r)];exact r
   rcases hc with rfl | hc
   ·exact hbe
   ·rintro rfl;rcases he with z | z
    ·exact nown c b hc z
    ·rw[hc] at z;cases z;exact hb rfl
end
structure Un (fs ex:List Addr) (H H':Hp) (h h':Heap):Prop where
 keep:∀b o,h.get? b=some o->H b=none->b∉fs->b∉ex->h'.get? b=some o
 slot:∀b o,h.get? b=some o->H b=none->b∈fs->b∉ex->∃sl,h'.get? b=some { o with slots:=sl }
 free:∀b o,h.get? b=some o->H b=none->b∉ex->H' b=none
 there:∀b o,h.get? b=some o->b∉ex->∃o',h'.get? b=some o'
 tups:∀b xs,H b=some (.tup xs)->H' b=some (.tup xs)
 frzs:∀b o u,H b=some (.frz o u)->H' b=some (.frz o u)
 tbls:∀b ps,H b=some (.tbl ps)->∃more,H' b=some (.tbl (ps++more))
section
variable {fs fs' ex ex':List Addr} {H H1 H2:Hp} {h h1 h2 h':Heap} {a x e:Addr} {o:HO}
theorem Un.any (u:Un fs ex H H1 h h1) {b:Addr} {ob:Obj} (q:h.get? b=some ob) (n:H b=none) (hx:b∉ex):∃sl,h1.get? b=some { ob with slots:=sl }:=by
 by_cases hb:b∈fs
 ·exact u.slot b ob q n hb hx
 ·exact⟨ob.slots,u.keep b ob q n hb hx⟩
theorem Un.trans (a:Un fs ex H H1 h h1) (b:Un fs ex H1 H2 h1 h2):Un fs ex H H2 h h2 where
 keep:=fun c ob q n hc hx=>b.keep c ob (a.keep c ob q n hc hx) (a.free c ob q n hx) hc hx
 slot:=fun c ob q n hc hx=>by
  obtain⟨sl,e1⟩:=a.slot c ob q n hc hx;obtain⟨sl',e2⟩:=b.slot c _ e1 (a.free c ob q n hx) hc hx;exact⟨sl',e2⟩
 free:=fun c ob q n hx=>by
  obtain⟨o',e1⟩:=a.there c ob q hx;exact b.free c o' e1 (a.free c ob q n hx) hx
 there:=fun c ob q hx=>by
  obtain⟨o',e1⟩:=a.there c ob q hx;exact b.there c o' e1 hx
 tups:=fun c xs q=>b.tups c xs (a.tups c xs q)
 frzs:=fun c ob xs q=>b.frzs c ob xs (a.frzs c ob xs q)
 tbls:=fun c ps q=>by
  obtain⟨m1,e1⟩:=a.tbls c ps q;obtain⟨m2,e2⟩:=b.tbls c _ e1;exact⟨m1++m2,by rw[e2,Array.append_assoc]⟩
theorem Un.kept (k:∀b u,h.get? b=some u->h'.get? b=some u):Un fs ex H H h h' :=
 ⟨fun b ob q _ _ _=>k b ob q,fun b ob q _ _ _=>⟨ob.slots,k b ob q⟩,fun _ _ _ n _=>n,fun b ob q _=>⟨ob,k b ob q⟩,fun _ _ q=>q,fun _ _ _ q=>q,fun _ ps q=>⟨#[],by rw[q];simp⟩⟩
theorem Un.refl:Un fs ex H H h h:=Un.kept fun _ _ q=>q
theorem Un.laid (k:∀b u,h.get? b=some u->h'.get? b=some u) (hp:h.objs.size<=a) (hn:H a=none):Un fs ex H (upd H a o) h h' where
 keep:=fun b u q _ _ _=>k b u q
 slot:=fun b u q _ _ _=>⟨u.slots,k b u q⟩
 free:=fun b u q n _=>by rw[jaT (xaK (xau (Heap.lt_size q) hp))];exact n
 there:=fun b u q _=>⟨u,k b u q⟩
 tups:=fun b xs q=>by rw[jaT (ja0 q hn)];exact q
 frzs:=fun b u xs q=>by rw[jaT (ja0 q hn)];exact q
 tbls:=fun b ps q=>⟨#[],by rw[jaT (ja0 q hn),q];simp⟩
theorem Un.write (mu:Mut (H x)) (he:e=x\/H e=some (.own x)) (k:∀b u,b≠e->h.get? b=some u->h'.get? b=some u) (heo:∃u,h'.get? e=some u):Un fs ex H (upd H x o) h h':=by
 have hx:∀b,H b=none->b≠x:=fun b n z=>by subst z;rw[n] at mu;exact mu
 have hb:∀b,H b=none->b≠e:=fun b n z=>by
  subst z;rcases he with r | r
  ·exact hx b n r
  ·rw[n] at r;cases r
 have hm:∀b u,H b=some u->¬Mut (some u)->b≠x:=fun b u q nm z=>by subst z;rw[q] at mu;exact nm mu
 refine⟨fun b u q n _ _=>k b u (hb b n) q,fun b u q n _ _=>⟨u.slots,k b u (hb b n) q⟩,fun b u q n _=>by rw[jaT (hx b n)];exact n,fun b u q _=>?_,
  fun b xs q=>by rw[jaT (hm b _ q fun z=>z)];exact q,fun b u xs q=>by rw[jaT (hm b _ q fun z=>z)];exact q,fun b ps q=>⟨#[],by rw[jaT (hm b _ q fun z=>z),q];simp⟩⟩
 by_cases hbe:b=e
 ·subst hbe;exact heo
 ·exact⟨u,k b u hbe q⟩
theorem Un.mono (u:Un fs ex H H1 h h1) (hs:∀b∈fs,b∈fs') (hx:∀b∈ex,b∈ex'):Un fs' ex' H H1 h h1 :=
 ⟨fun b ob q n hb he=>u.keep b ob q n (fun z=>hb (hs b z)) fun z=>he (hx b z),fun _ _ q n _ he=>u.any q n fun z=>he (hx _ z),fun b ob q n he=>u.free b ob q n fun z=>he (hx b z),fun b ob q he=>u.there b ob q fun z=>he (hx b z),u.tups,u.frzs,u.tbls⟩
end
def trk (h:Heap) (H:Hp):List Addr:=(List.range h.objs.size).filter fun a=>(H a).isSome
def jkG (h:Heap) (H:Hp):Heap:=PySem.W.hideAll h (trk h H)
theorem jiR (h:Heap) (H:Hp):(jkG h H).objs.size=h.objs.size:=PySem.W.hideAll_size _ _
theorem jkH {h:Heap} {H:Hp} {b:Addr} {o:Obj} (e:h.get? b=some o) (n:H b=none):(jkG h H).get? b=some o :=
 PySem.W.hideAll_get _ e fun hm=>by
  have q:(H b).isSome=true:=(xbh.mp hm).2;rw[n] at q;simp at q
theorem jmI {h:Heap} {H:Hp} {b:Addr} {o:Obj} (e:(jkG h H).get? b=some o):h.get? b=some o/\H b=none:=by
  have e':h.get? b=some o:=PySem.W.of_hideAll (trk h H) e;refine⟨e',?_⟩;cases q:H b with
  | none=>rfl
  | some x =>
    have hm:b∈trk h H:=xbh.mpr ⟨xaH.mpr (Heap.lt_size e'),by simp [q]⟩;have z:(jkG h H).get? b=none:=PySem.W.hideAll_none (trk h H) hm;rw[z] at e;cases e
def jmJ (g h:Heap) (L:Addr):List (Addr × Obj):=(List.range h.objs.size).filterMap fun a=>if a=L\/(g.get? a).isSome=true then none else (h.get? a).map fun o=>(a,o)
def jb9 (g h:Heap) (L d:Addr):List (Addr × Obj):=(jmJ g h L).filter fun p=>decide (p.1≠d)
structure Mod (K:PySem.W.Frag) (mg:Str->Option Value) (base:Heap):Prop where
 kin:K.In base
 glob:base.Ns mainGlobals mg
 blt:∃mb,base.Ns builtinsNs mb/\∀x:Str,x≠"__name__"->mb x=bootBuiltins x
 nolimit:base.NoLimit
structure Cx where
 prog:Program
 w:World
 K:PySem.W.Frag
 mg:Str->Option Value
 base:Heap
 A:Around
 N:List Str
 s₀:Shared
 H₀:Hp
 env:Env
 outer:List Env
 stack:List Env
 ex:List Addr
 fn:Str->Bool
 calm:Bool
 pn:List (Addr × Obj)
 xe:Value->Shared->Prop
def frs (l:List Env):List Addr:=l.filterMap (·.frame)
abbrev Cx.fs (X:Cx):List Addr:=frs X.outer
def Vis (sc:Scope) (x:Str):Prop:=sc.names.lookup x=some .local\/sc.names.lookup x=some .cell\/sc.names.lookup x=some .free
def Loc (sc:Scope) (x:Str):Prop:=sc.names.lookup x=some .local\/sc.names.lookup x=some .cell
def Look (env:Env) (h:Heap) (m:Str->Option Value) (x:Str) (u:Value):Prop :=
 (env.kindOf x=some .local/\m x=some u)\/((env.kindOf x=some .cell\/env.kindOf x=some .free)/\∃c,env.cells.lookup x=some c/\h.IsCell c (some u))
structure Cx.Ok (X:Cx):Prop where
 mod:Mod X.K X.mg X.base
 kind:X.env.scope.kind=.function
 glob:X.env.globals=mainGlobals
 blt:X.env.builtins=builtinsNs
 above:X.s₀.heap.objs.size<=X.env.locals
 inj:∀x y c,X.env.cells.lookup x=some c->X.env.cells.lookup y=some c->x=y
 has:∀x,(X.env.kindOf x=some .cell\/X.env.kindOf x=some .free)->∃c,X.env.cells.lookup x=some c
 cab:∀x c,X.fn x=true->X.env.cells.lookup x=some c->X.s₀.heap.objs.size<=c
 hd:X.calm=true->X.A.handled=none
 frames:X.A.frames=some X.stack
 stk:X.stack=X.outer\/(X.stack=X.env::X.outer/\X.env.frame=some X.env.locals)
 exf:∀b∈X.ex,b≠X.env.locals/\∀x c,X.env.cells.lookup x=some c->c≠b
 bs:∀b o,X.base.get? b=some o->X.s₀.heap.get? b=some o/\X.H₀ b=none
 bsz:X.base.objs.size<=X.s₀.heap.objs.size
 noex:∀b o,X.base.get? b=some o->b∉X.ex
 exfs:∀b∈X.ex,b∉X.fs
 funs:X.s₀.heap.FunFrames X.base X.outer
 frf:∀b∈X.fs,X.H₀ b=none
structure Inv (X:Cx) (pins:List (Addr × Obj)) (σ:List (Option V)) (H:Hp) (s:Shared):Prop where
 ok:X.Ok
 os:s.os=X.s₀.os
 bare:AllBare s.gens
 base:Un X.fs X.ex X.H₀ H X.s₀.heap s.heap
 loc:∃m,s.heap.Ns X.env.locals m/\∀(i:Nat) (x:Str) (v:V),X.N[i]?=some x->σ[i]?=some (some v)->Vis X.env.scope x->∃u,RelV v u/\Look X.env s.heap m x u
 cell:∀x c,X.env.cells.lookup x=some c->∃v,s.heap.IsCell c v
 free:H X.env.locals=none
 freeC:∀x c,X.env.cells.lookup x=some c->H c=none
 pin:∀p∈X.pn++pins,s.heap.get? p.1=some p.2/\H p.1=none/\p.1≠X.env.locals/\p.1∉X.fs/\∀v,p.2.data≠.cell v
 hok:HOk X.prog X.w H s.heap
 len:σ.length=X.N.length
section
variable {X:Cx} {pins:List (Addr × Obj)} {σ:List (Option V)} {H H':Hp} {s:Shared} {h':Heap}
theorem Cx.Ok.nofr (ok:X.Ok) {b:Addr} {o:Obj} (e:X.base.get? b=some o):b∉X.fs:=fun hb=>by
 have:=(ok.funs.mem hb).1;rw[e] at this;cases this
theorem Inv.bs (I:Inv X pins σ H s):∀b o,X.base.get? b=some o->s.heap.get? b=some o/\H b=none:=fun b o e =>
 ⟨I.base.keep b o (I.ok.bs b o e).1 (I.ok.bs b o e).2 (I.ok.nofr e) (I.ok.noex b o e),I.base.free b o (I.ok.bs b o e).1 (I.ok.bs b o e).2 (I.ok.noex b o e)⟩
theorem Inv.bk (I:Inv X pins σ H s):∀b o,X.base.get? b=some o->s.heap.get? b=some o:=fun b o e=>(I.bs b o e).1
theorem Inv.mod (I:Inv X pins σ H s):Mod X.K X.mg X.base:=I.ok.mod
theorem Inv.kIn (I:Inv X pins σ H s):X.K.In s.heap:=I.ok.mod.kin.keeps I.bk
theorem Inv.nolimit (I:Inv X pins σ H s):s.heap.NoLimit:=I.ok.mod.nolimit.keeps I.bk
theorem Inv.fr (I:Inv X pins σ H s):∃m,Fr X.base X.env.locals s.heap m :=
 let ⟨m,hn,_⟩:=I.loc
 ⟨m,hn,I.bk,xa4 I.ok.bsz I.ok.above⟩
theorem Inv.lt (I:Inv X pins σ H s):X.env.locals<s.heap.objs.size:=let ⟨_,hn,_⟩:=I.loc;hn.lt
theorem Inv.sz (I:Inv X pins σ H s):X.s₀.heap.objs.size<=s.heap.objs.size:=xa4 I.ok.above (xbb I.lt)
theorem Inv.nofs (I:Inv X pins σ H s) {a:Addr} (h:s.heap.objs.size<=a):a∉X.fs:=fun hb=>by
 obtain⟨_,o,ho,_⟩:=I.ok.funs.mem hb;exact absurd (xau (Heap.lt_size ho) (xa4 I.sz h)) (xbw _)
theorem Inv.cne (I:Inv X pins σ H s):∀x c,X.env.cells.lookup x=some c->c≠X.env.locals:=fun x c e z=>by
 obtain⟨v,o,ho,hd⟩:=I.cell x c e;obtain⟨m,⟨o',es,ep,ho',hd',_⟩,_⟩:=I.loc;rw[z,ho'] at ho;cases ho;rw[hd'] at hd;cases hd
theorem Inv.funs (I:Inv X pins σ H s):s.heap.FunFrames X.base X.outer:=by
  have all:∀(l:List Env),(∀b∈frs l,b∈X.fs)->X.s₀.heap.FunFrames X.base l->s.heap.FunFrames X.base l:=by
    intro l;induction l with
    | nil=>intro _ _;trivial
    | cons env r ih =>
      intro hs hl;obtain⟨hk,⟨L,o,hf,hn,ho,hd⟩,hr⟩:=hl;have hL:L∈X.fs:=hs L (by unfold frs;rw[xbL,hf];exact xaS);obtain⟨sl,e⟩:=I.base.slot L o ho (I.ok.frf L hL) hL fun z=>I.ok.exfs L z hL;exact⟨hk,⟨L,_,hf,hn,e,hd⟩,ih (fun b hb=>hs b (by unfold frs;rw[xbL,hf];exact xag _ hb)) hr⟩
  exact all X.outer (fun _ hb=>hb) I.ok.funs
theorem Inv.stack (I:Inv X pins σ H s):s.heap.FunFrames X.base X.stack:=by
 rcases I.ok.stk with e | ⟨e,hf⟩
 ·rw[e];exact I.funs
 ·rw[e];obtain⟨m,hn,_⟩:=I.loc;refine .cons (by rw[I.ok.kind];decide) hf hn ?_ I.funs;exact Heap.get?_none_of_le (xa4 I.ok.bsz I.ok.above)
theorem Inv.stkSub (I:Inv X pins σ H s):∀b∈frs X.stack,b∈X.env.locals::X.fs:=fun b hb=>by
 rcases I.ok.stk with e | ⟨e,hf⟩
 ·rw[e] at hb;exact xag _ hb
 ·rw[e] at hb;unfold frs at hb;rw[xbL,hf] at hb;exact hb
theorem Inv.stkFree (I:Inv X pins σ H s):∀b∈frs X.stack,H b=none:=fun b hb=>by
 rcases xap.mp (I.stkSub b hb) with e | hb
 ·rw[e];exact I.free
 ·obtain⟨_,o,ho,_⟩:=I.ok.funs.mem hb;exact I.base.free b o ho (I.ok.frf b hb) fun z=>I.ok.exfs b z hb
theorem Inv.step {g':Array GenState} {t':Nat} {d':Drawn} {ch:List Addr} (I:Inv X pins σ H s)
  (hch:∀b∈ch,(b∈X.ex\/X.s₀.heap.objs.size<=b)/\b≠X.env.locals/\(∀x c,X.env.cells.lookup x=some c->c≠b)/\∀p∈X.pn++pins,p.1≠b)
  (keep:∀b o,b≠X.env.locals->b∉X.fs->b∉ch->s.heap.get? b=some o->H b=none->h'.get? b=some o)
  (slot:∀b o,b≠X.env.locals->b∈X.fs->b∉ch->s.heap.get? b=some o->H b=none->∃sl,h'.get? b=some { o with slots:=sl }) (free:∀b o,b∉ch->s.heap.get? b=some o->H b=none->H' b=none)
  (there:∀b o,b∉ch->s.heap.get? b=some o->∃o',h'.get? b=some o')
  (tups:∀b xs,H b=some (.tup xs)->H' b=some (.tup xs)) (frzs:∀b o u,H b=some (.frz o u)->H' b=some (.frz o u)) (tbls:∀b ps,H b=some (.tbl ps)->∃more,H' b=some (.tbl (ps++more)))
  (ns:∀m,s.heap.Ns X.env.locals m->h'.Ns X.env.locals m) (hok:HOk X.prog X.w H' h') (hg:AllBare g') :
  Inv X pins σ H' { s with heap:=h',gens:=g',drawn:=d',toks:=t' }:=by
 have neL:∀b o,X.s₀.heap.get? b=some o->b≠X.env.locals:=fun b o e=>xaK (xau (Heap.lt_size e) I.ok.above);have neC:∀b o,X.s₀.heap.get? b=some o->b∉X.ex->b∉ch:=fun b o e hx hb=>by
  rcases (hch b hb).1 with z | z
  ·exact hx z
  ·exact absurd (xau (Heap.lt_size e) z) (xbw _)
 have cellK:∀x c,X.env.cells.lookup x=some c->∀v,s.heap.IsCell c v->h'.IsCell c v:=fun x c e v ⟨o,ho,hd⟩=>by
  have nch:c∉ch:=fun z=>(hch c z).2.2.1 x c e rfl;by_cases hc:c∈X.fs
  ·obtain⟨sl,q⟩:=slot c o (I.cne x c e) hc nch ho (I.freeC x c e);exact⟨_,q,hd⟩
  ·exact⟨o,keep c o (I.cne x c e) hc nch ho (I.freeC x c e),hd⟩
 refine⟨I.ok,I.os,hg,⟨fun b o e n hb hx=>?_,fun b o e n hb hx=>?_,fun b o e n hx=>?_,fun b o e hx=>?_,fun b xs e=>tups b xs (I.base.tups b xs e),fun b o xs e=>frzs b o xs (I.base.frzs b o xs e),fun b ps e=>?_⟩,?_,fun x c e=>?_,?_,fun x c e=>?_,fun p hp=>?_,hok,I.len⟩
 ·exact keep b o (neL b o e) hb (neC b o e hx) (I.base.keep b o e n hb hx) (I.base.free b o e n hx)
 ·obtain⟨sl,e1⟩:=I.base.slot b o e n hb hx;obtain⟨sl',e2⟩:=slot b _ (neL b o e) hb (neC b o e hx) e1 (I.base.free b o e n hx);exact⟨sl',e2⟩
 ·obtain⟨o',e1⟩:=I.base.there b o e hx;exact free b o' (neC b o e hx) e1 (I.base.free b o e n hx)
 ·obtain⟨o',e1⟩:=I.base.there b o e hx;exact there b o' (neC b o e hx) e1
 ·obtain⟨m1,e1⟩:=I.base.tbls b ps e;obtain⟨m2,e2⟩:=tbls b _ e1;exact⟨m1++m2,by rw[e2,Array.append_assoc]⟩
 ·obtain⟨m,hn,hl⟩:=I.loc;refine⟨m,ns m hn,fun i x v e1 e2 e3=>?_⟩;obtain⟨u,r,l⟩:=hl i x v e1 e2 e3;refine⟨u,r,?_⟩;rcases l with l | ⟨k,c,e,z⟩
  ·exact .inl l
  ·exact .inr ⟨k,c,e,cellK x c e _ z⟩
 ·obtain⟨v,z⟩:=I.cell x c e;exact⟨v,cellK x c e v z⟩
 ·obtain⟨m,⟨o,_,_,ho,_⟩,_⟩:=I.loc;exact free _ o (fun z=>(hch _ z).2.1 rfl) ho I.free
 ·obtain⟨v,o,ho,hd⟩:=I.cell x c e;exact free c o (fun z=>(hch c z).2.2.1 x c e rfl) ho (I.freeC x c e)
 ·obtain⟨e,n,ne,nf,d⟩:=I.pin p hp;have nch:p.1∉ch:=fun z=>(hch p.1 z).2.2.2 p hp rfl;exact⟨keep p.1 p.2 ne nf nch e n,free p.1 p.2 nch e n,ne,nf,d⟩
theorem Inv.un {t':Nat} (I:Inv X pins σ H s) (u:Un X.fs [] H H' s.heap h') (hok:HOk X.prog X.w H' h'):Inv X pins σ H' { s with heap:=h',toks:=t' }:=by
 obtain⟨m,⟨o,es,ep,ho,r⟩,_⟩:=id I.loc;obtain⟨sl,hL⟩:=u.any ho I.free (by simp);exact I.step (g':=s.gens) (d':=s.drawn) (ch:=[]) (fun _ z=>nomatch z) (fun b o _ hb _ e n=>u.keep b o e n hb (by simp)) (fun b o _ hb _ e n=>u.slot b o e n hb (by simp)) (fun b o _ e n=>u.free b o e n (by simp)) (fun b o _ e=>u.there b o e (by simp)) u.tups u.frzs u.tbls (fun m' hm=>by
  obtain⟨o',es',ep',ho',r'⟩:=hm;rw[ho] at ho';cases ho';exact⟨_,es',ep',hL,r'⟩) hok I.bare
theorem Inv.call {g':Array GenState} {t':Nat} {d':Drawn} {ch:List Addr} (I:Inv X pins σ H s) (u:Un (frs X.stack) ch H H' s.heap h') (hok:HOk X.prog X.w H' h') (hg:AllBare g')
  (hch:∀b∈ch,(b∈X.ex\/X.s₀.heap.objs.size<=b)/\b≠X.env.locals/\(∀x c,X.env.cells.lookup x=some c->c≠b)/\∀p∈X.pn++pins,p.1≠b) :
  Inv X pins σ H' { s with heap:=h',gens:=g',drawn:=d',toks:=t' }:=by
 obtain⟨m,⟨o,es,ep,ho,r⟩,_⟩:=id I.loc;obtain⟨sl,hL⟩:=u.any ho I.free fun z=>(hch _ z).2.1 rfl;exact I.step (ch:=ch) hch (fun b o hL hb hc e n=>u.keep b o e n (fun z=>(xap.mp (I.stkSub b z)).elim hL hb) hc) (fun b o _ _ hc e n=>u.any e n hc) (fun b o hc e n=>u.free b o e n hc) (fun b o hc e=>u.there b o e hc) u.tups u.frzs u.tbls (fun m' hm=>by
  obtain⟨o',es',ep',ho',r'⟩:=hm;rw[ho] at ho';cases ho';exact⟨_,es',ep',hL,r'⟩) hok hg
theorem Inv.turned {t':Nat} {it:Addr} (I:Inv X pins σ H s) (k:∀b o,b≠it->s.heap.get? b=some o->h'.get? b=some o) (hn:H it=none) (hL:it≠X.env.locals)
  (h1:it∈X.ex\/X.s₀.heap.objs.size<=it) (h2:∀x c,X.env.cells.lookup x=some c->c≠it) (h3:∀p∈X.pn++pins,p.1≠it):Inv X pins σ H { s with heap:=h',toks:=t' }:=by
 have nit:∀b u,H b=some u->b≠it:=fun b u e z=>by rw[z,hn] at e;cases e
 refine I.step (g':=s.gens) (d':=s.drawn) (ch:=[it]) (fun b hb=>?_) (fun b o _ _ hc e _=>k b o (fun z=>hc (by simp [z])) e) (fun b o _ _ hc e _=>⟨o.slots,k b o (fun z=>hc (by simp [z])) e⟩) (fun _ _ _ _ n=>n)
  (fun b o hc e=>⟨o,k b o (fun z=>hc (by simp [z])) e⟩) (fun _ _ e=>e) (fun _ _ _ e=>e) (fun b ps e=>⟨#[],by rw[e];simp⟩) (fun m hm=>?_) (fun b u e=>?_) I.bare
 ·have e:b=it:=by simpa using hb
  subst e;exact⟨h1,hL,h2,h3⟩
 ·obtain⟨o,es,ep,ho,r⟩:=hm;exact⟨o,es,ep,k _ o (Ne.symm hL) ho,r⟩
 ·refine (I.hok b u e).stay (fun c v hc q=>k c v ?_ q) (fun _ q=>q) fun _ _ q=>q;rcases hc with z | z
  ·rw[z];exact nit b u e
  ·exact nit c _ z
theorem Inv.tok (I:Inv X pins σ H s) (t:Nat):Inv X pins σ H { s with toks:=t }:=I.un (h':=s.heap) (t':=t) Un.refl I.hok
theorem Inv.kept {t':Nat} (I:Inv X pins σ H s) (k:∀b u,s.heap.get? b=some u->h'.get? b=some u):Inv X pins σ H { s with heap:=h',toks:=t' }:=I.un (Un.kept k) (I.hok.kept k)
theorem Inv.laid {a:Addr} {o:HO} {t':Nat} (I:Inv X pins σ H s) (k:∀b u,s.heap.get? b=some u->h'.get? b=some u) (hp:s.heap.objs.size<=a) (new:ObjOk X.prog X.w (upd H a o) h' a o) :
  Inv X pins σ (upd H a o) { s with heap:=h',toks:=t' }:=I.un (Un.laid k hp (I.hok.fresh hp)) (I.hok.laid k hp new)
theorem Inv.write {x e:Addr} {o:HO} {t':Nat} (I:Inv X pins σ H s) (mu:Mut (H x)) (he:e=x\/H e=some (.own x)) (k:∀b u,b≠e->s.heap.get? b=some u->h'.get? b=some u) (heo:∃u,h'.get? e=some u)
  (new:ObjOk X.prog X.w (upd H x o) h' x o):Inv X pins σ (upd H x o) { s with heap:=h',toks:=t' }:=I.un (Un.write mu he k heo) (I.hok.write mu he k heo new)
theorem Inv.pins_of {pins':List (Addr × Obj)} (I:Inv X pins σ H s) (h:∀p∈pins',s.heap.get? p.1=some p.2/\H p.1=none/\p.1≠X.env.locals/\p.1∉X.fs/\∀v,p.2.data≠.cell v):Inv X pins' σ H s :=
 ⟨I.ok,I.os,I.bare,I.base,I.loc,I.cell,I.free,I.freeC,fun p hp=>(xaA.mp hp).elim (fun z=>I.pin p (xbS _ z)) (h p),I.hok,I.len⟩
theorem jhX {N:List Str} (hN:N.Nodup) {i j:Nat} {x:Str} (a:N[i]?=some x) (b:N[j]?=some x):i=j:=by
 obtain⟨h1,e1⟩:=xae.mp a;obtain⟨h2,e2⟩:=xae.mp b;exact (List.getElem_inj hN).mp (e1.trans e2.symm)
theorem jgO {M:Model} {A:Around} {E:Value->Shared->Prop} {i:Nat} {x:Str} {v:V} {u:Value} {Q:Unit->Shared->Prop} (I:Inv X pins σ H s) (hN:X.N.Nodup) (hi:X.N[i]?=some x) (hx:Loc X.env.scope x) (r:RelV v u)
  (h:∀s',Inv X pins (σ.set i (some v)) H s'->(∃a,Heap.SameBut a s.heap s'.heap/\(a=X.env.locals\/X.env.cells.lookup x=some a))->Q () s') (hf:X.fn x=true\/X.env.scope.names.lookup x=some .local:=by first | exact .inl rfl | exact .inr rfl | assumption):wpAny M A (storeName X.env x u) Q E s:=by
 obtain⟨m,hn,hl⟩:=id I.loc;have hcls:(X.env.scope.kind==.class||(X.env.scope.kind==.module&&X.env.locals != X.env.globals))=false:=by rw[I.ok.kind];rfl
 have hiσ:i<σ.length:=by rw[I.len];exact (xae.mp hi).1
 have cne:=I.cne;have tracked:∀{a:Addr} {h':Heap},(∃o,s.heap.get? a=some o/\H a=none)->Heap.SameBut a s.heap h'->HOk X.prog X.w H h':=fun {a h'} ha hs b ob e=>by
  obtain⟨_,_,hfree⟩:=ha;refine (I.hok b ob e).stay (fun c w' hc q=>(hs.2 c ?_).trans q) (fun _ q=>q) fun _ _ q=>q;rintro rfl;rcases hc with rfl | hc
  ·rw[hfree] at e;cases e
  ·rw[hfree] at hc;cases hc
 rcases hx with hk | hk
 ·refine wpAny_storeName_local hk hn (fun h' hn' hs=>?_) hcls;obtain⟨oL,_,_,hoL,_⟩:=id hn;refine h _ ⟨I.ok,I.os,I.bare,⟨fun b o e n hb hx=>?_,fun b o e n hb hx=>?_,I.base.free,fun b o e hx=>?_,I.base.tups,I.base.frzs,I.base.tbls⟩,⟨_,hn',fun j y v' e1 e2 e3=>?_⟩,fun y c e=>?_,I.free,I.freeC,fun p hp=>?_,tracked ⟨oL,hoL,I.free⟩ hs,by simpa using I.len⟩ ⟨_,hs,.inl rfl⟩
  ·exact (hs.2 b (xaK (xau (Heap.lt_size e) I.ok.above))).trans (I.base.keep b o e n hb hx)
  ·obtain⟨sl,e1⟩:=I.base.slot b o e n hb hx;exact⟨sl,(hs.2 b (xaK (xau (Heap.lt_size e) I.ok.above))).trans e1⟩
  ·obtain⟨o',e1⟩:=I.base.there b o e hx;exact⟨o',(hs.2 b (xaK (xau (Heap.lt_size e) I.ok.above))).trans e1⟩
  ·by_cases hj:j=i
   ·subst hj;rw[hi] at e1;cases e1;rw[List.getElem?_set_self hiσ] at e2;cases e2;exact⟨u,r,.inl ⟨hk,by simp⟩⟩
   ·rw[List.getElem?_set_ne (Ne.symm hj)] at e2;obtain⟨u',r',q⟩:=hl j y v' e1 e2 e3;refine⟨u',r',?_⟩;rcases q with ⟨k,e⟩ | ⟨k,c,e,z⟩
    ·refine .inl ⟨k,?_⟩;have:y≠x:=fun e=>hj (jhX hN e1 (e▸hi));simp [this,e]
    ·exact .inr ⟨k,c,e,z.sameBut hs (cne y c e)⟩
  ·obtain⟨w',z⟩:=I.cell y c e;exact⟨w',z.sameBut hs (cne y c e)⟩
  ·obtain⟨e,n,ne,nf,d⟩:=I.pin p hp;exact⟨(hs.2 p.1 ne).trans e,n,ne,nf,d⟩
 ·have hfn:X.fn x=true:=by
   rcases hf with z | z
   ·exact z
   ·rw[z] at hk;cases hk
  obtain⟨c,hc⟩:=I.ok.has x (.inl hk);obtain⟨w',z⟩:=I.cell x c hc;refine wpAny_storeName_cell I.ok.kind hk hc z (fun h' hc' hs=>?_);obtain⟨oc,hoc,hocd⟩:=id z;refine h { s with heap:=h' } ⟨I.ok,I.os,I.bare,⟨fun b o e n hb hx=>?_,fun b o e n hb hx=>?_,I.base.free,fun b o e hx=>?_,I.base.tups,I.base.frzs,I.base.tbls⟩,⟨m,hn.sameBut hs (Ne.symm (cne x c hc)),fun j y v' e1 e2 e3=>?_⟩,fun y c' e=>?_,I.free,I.freeC,fun p hp=>?_,tracked ⟨oc,hoc,I.freeC x c hc⟩ hs,by simpa using I.len⟩ ⟨c,hs,.inr hc⟩
  ·exact (hs.2 b (xaK (xau (Heap.lt_size e) (I.ok.cab x c hfn hc)))).trans (I.base.keep b o e n hb hx)
  ·obtain⟨sl,e1⟩:=I.base.slot b o e n hb hx;exact⟨sl,(hs.2 b (xaK (xau (Heap.lt_size e) (I.ok.cab x c hfn hc)))).trans e1⟩
  ·obtain⟨o',e1⟩:=I.base.there b o e hx;exact⟨o',(hs.2 b (xaK (xau (Heap.lt_size e) (I.ok.cab x c hfn hc)))).trans e1⟩
  ·by_cases hj:j=i
   ·subst hj;rw[hi] at e1;cases e1;rw[List.getElem?_set_self hiσ] at e2;cases e2;exact⟨u,r,.inr ⟨.inl hk,c,hc,hc'⟩⟩
   ·rw[List.getElem?_set_ne (Ne.symm hj)] at e2;obtain⟨u',r',q⟩:=hl j y v' e1 e2 e3;refine⟨u',r',?_⟩;rcases q with q | ⟨k,c',e,z'⟩
    ·exact .inl q
    ·refine .inr ⟨k,c',e,z'.sameBut hs ?_⟩;rintro rfl;exact hj (jhX hN e1 (I.ok.inj _ _ _ e hc▸hi))
  ·by_cases hcc:c'=c
   ·subst hcc;exact⟨_,hc'⟩
   ·obtain⟨w2,z2⟩:=I.cell y c' e;exact⟨w2,z2.sameBut hs hcc⟩
  ·obtain⟨e,n,ne,nf,d⟩:=I.pin p hp;refine⟨(hs.2 p.1 ?_).trans e,n,ne,nf,d⟩;intro q;rw[q,hoc] at e;have q':oc=p.2:=Option.some.inj e;exact d w' (by rw[<- q'];exact hocd)
theorem je2 {M:Model} {A:Around} {E:Value->Shared->Prop} {i:Nat} {x:Str} {v:V} {u:Value} {Q:Unit->Shared->Prop} (I:Inv X pins σ H s) (hN:X.N.Nodup) (hi:X.N[i]?=some x) (hx:Loc X.env.scope x) (r:RelV v u)
  (h:∀s',Inv X pins (σ.set i (some v)) H s'->Q () s') (hf:X.fn x=true\/X.env.scope.names.lookup x=some .local:=by first | exact .inl rfl | exact .inr rfl | assumption):wpAny M A (storeName X.env x u) Q E s :=
 jgO I hN hi hx r (fun s' I' _=>h s' I') hf
theorem Inv.call' {s':Shared} {ch:List Addr} (I:Inv X pins σ H s) (ho:s'.os=s.os) (u:Un (frs X.stack) ch H H' s.heap s'.heap) (hok:HOk X.prog X.w H' s'.heap) (hg:AllBare s'.gens)
  (hch:∀b∈ch,(b∈X.ex\/X.s₀.heap.objs.size<=b)/\b≠X.env.locals/\(∀x c,X.env.cells.lookup x=some c->c≠b)/\∀p∈X.pn++pins,p.1≠b):Inv X pins σ H' s':=by
 obtain⟨h',g',d',t',o'⟩:=s';have e:o'=s.os:=ho;subst e;exact I.call (g':=g') (t':=t') (d':=d') u hok hg hch
end
abbrev XK:=Value->Option Addr->Hp->Prop
abbrev St:=List (Option V)
abbrev VK:=V->Hp->Prop
abbrev TE:=St->Hp->VK->Prop
abbrev TT:=St->Hp->(Bool->Hp->Prop)->Prop
abbrev TA:=St->Hp->(List V->Hp->Prop)->Prop
structure Ends where
 nx:St->Hp->Prop
 rt:VK
 bk:St->Hp->Prop:=fun _ _=>False
 ct:St->Hp->Prop:=fun _ _=>False
abbrev TS:=Ends->St->Hp->Prop
def EP (X:Cx) (pins:List (Addr × Obj)) (σ:St) (Q:VK) (u:Value) (s':Shared):Prop:=∃v H',Inv X pins σ H' s'/\RelV v u/\Q v H'
def TP (X:Cx) (pins:List (Addr × Obj)) (σ:St) (Q:Bool->Hp->Prop) (b:Bool) (s':Shared):Prop:=∃H',Inv X pins σ H' s'/\Q b H'
def AP (X:Cx) (pins:List (Addr × Obj)) (σ:St) (Q:List V->Hp->Prop) (us:List Value) (s':Shared):Prop:=∃vs H',Inv X pins σ H' s'/\Vals vs us/\Q vs H'
def SP (X:Cx) (pins:List (Addr × Obj)) (D:Ends) (f:Flow) (s':Shared):Prop :=
 match f with
 | .next=>∃σ' H',Inv X pins σ' H' s'/\D.nx σ' H'
 | .brk=>∃σ' H',Inv X pins σ' H' s'/\D.bk σ' H'
 | .cont=>∃σ' H',Inv X pins σ' H' s'/\D.ct σ' H'
 | .ret u=>∃v σ' H',Inv X pins σ' H' s'/\RelV v u/\D.rt v H'
def PE (X:Cx) (e:Expr) (t:TE):Prop :=
 ∀(pins:List (Addr × Obj)) (s:Shared) (σ:St) (H:Hp) (Q:VK),Inv X pins σ H s->t σ H Q->wpAny (model X.prog X.w) X.A (eval e X.env) (EP X pins σ Q) X.xe s
def PT (X:Cx) (e:Expr) (t:TT):Prop :=
 ∀(pins:List (Addr × Obj)) (s:Shared) (σ:St) (H:Hp) (Q:Bool->Hp->Prop),Inv X pins σ H s->t σ H Q->wpAny (model X.prog X.w) X.A (isTrue e X.env (eval e X.env)) (TP X pins σ Q) X.xe s
def PW (X:Cx) (e:Expr) (t:TT):Prop :=
 ∀(whole:Sem Value) (pins:List (Addr × Obj)) (s:Shared) (σ:St) (H:Hp) (Q:Bool->Hp->Prop),Inv X pins σ H s->t σ H Q->wpAny (model X.prog X.w) X.A (isTrue e X.env whole) (TP X pins σ Q) X.xe s
theorem PW.pt {X:Cx} {e:Expr} {t:TT} (h:PW X e t):PT X e t:=h _
def PA (X:Cx) (es:List Expr) (t:TA):Prop :=
 ∀(pos:Pos) (pins:List (Addr × Obj)) (s:Shared) (σ:St) (H:Hp) (Q:List V->Hp->Prop),Inv X pins σ H s->t σ H Q->wpAny (model X.prog X.w) X.A (spliced (backTo pos (starEach es X.env))) (AP X pins σ Q) X.xe s
def PS (X:Cx) (st:Stmt) (t:TS):Prop :=
 ∀(pins:List (Addr × Obj)) (s:Shared) (σ:St) (H:Hp) (D:Ends),Inv X pins σ H s->t D σ H->wpAny (model X.prog X.w) X.A (exec st X.env) (SP X pins D) X.xe s
def PSs (X:Cx) (st:List Stmt) (t:TS):Prop :=
 ∀(pins:List (Addr × Obj)) (s:Shared) (σ:St) (H:Hp) (D:Ends),Inv X pins σ H s->t D σ H->wpAny (model X.prog X.w) X.A (execs st X.env) (SP X pins D) X.xe s
theorem thn {α:Type} {t:Sem α} {Q Q':α->Shared->Prop} {M:Model} {A:Around} {E:Value->Shared->Prop} {s:Shared} (h:wpAny M A t Q E s) (hQ:∀a s,Q a s->Q' a s):wpAny M A t Q' E s:=wpAny_mono h hQ fun _ _ x=>x
section
variable {X:Cx}
def jeE (i:Nat):TE:=fun σ H Q=>∃v,σ[i]?=some (some v)/\Q v H
def tC (v:V):TE:=fun _ H Q=>Q v H
theorem jor {i:Nat} {x:Str} {pos:Pos} (hN:X.N[i]?=some x) (hv:Vis X.env.scope x) (hd:(x==("__debug__":Str))=false:=by decide) (hcd:(x==("__classdict__":Str))=false:=by decide):PE X (.Name x pos) (jeE i):=by
 intro pins s σ H Q I h;obtain⟨v,e,h⟩:=h;obtain⟨m,hn,hl⟩:=I.loc;obtain⟨u,r,l⟩:=hl i x v hN e hv;have fin:EP X pins σ Q u s:=⟨v,H,I,r,h⟩;rcases l with ⟨hk,hm⟩ | ⟨hk,c,hc,hcell⟩
 ·exact wpAny_Name (wpAny_loadName_local I.ok.kind hk hn hm fin) hd
 ·rcases hk with hk | hk
  ·exact wpAny_Name (wpAny_loadName_cell I.ok.kind hk hc hcell fin) hd
  ·exact wpAny_Name (wpAny_loadName_free I.ok.kind hk hc hcell fin hcd) hd
theorem jab {i j pos}:PE X (.Constant (.int i) j pos) (tC (.int i)):=fun _ _ _ H _ I h=>wpAny_Constant_int ⟨.int i,H,I.tok _,⟨_,rfl⟩,h⟩
theorem jbz {b j pos}:PE X (.Constant (.bool b) j pos) (tC (.bl b)):=fun _ _ _ H _ I h=>Constant_bool ⟨.bl b,H,I,rfl,h⟩
theorem jcG {j pos}:PE X (.Constant .none j pos) (tC .non):=fun _ _ _ H _ I h=>Constant_none ⟨.non,H,I,rfl,h⟩
theorem jcl {x j pos}:PE X (.Constant (.str x) j pos) (tC (.str x)):=fun _ _ _ H _ I h=>Calls.Constant_str ⟨.str x,H,I.tok _,⟨_,rfl⟩,h⟩
def Gl (X:Cx) (x:Str):Prop:=X.env.kindOf x=some .globalImplicit
theorem jiS {E:Value->Shared->Prop} {pins:List (Addr × Obj)} {s:Shared} {σ:St} {H:Hp} {x:Str} {u:Value} {pos:Pos} {Q:Value->Shared->Prop} (I:Inv X pins σ H s) (hg:Gl X x) (hm:X.mg x=some u) (h:Q u s)
  (hd:(x==("__debug__":Str))=false:=by decide):wpAny (model X.prog X.w) X.A (eval (.Name x pos) X.env) Q E s :=
 Calls.Name_function_global I.ok.kind hg (Calls.loadGlobal_global (by rw[I.ok.glob];exact I.mod.glob.keeps I.bk) hm h) hd
theorem jeF {E:Value->Shared->Prop} {pins:List (Addr × Obj)} {s:Shared} {σ:St} {H:Hp} {x:Str} {u:Value} {pos:Pos} {Q:Value->Shared->Prop} (I:Inv X pins σ H s) (hg:Gl X x) (hm:X.mg x=none) (hv:bootBuiltins x=some u) (h:Q u s)
  (hn:x≠"__name__":=by decide) (hd:(x==("__debug__":Str))=false:=by decide):wpAny (model X.prog X.w) X.A (eval (.Name x pos) X.env) Q E s:=by
 obtain⟨mb,h1,h2⟩:=I.mod.blt;exact Calls.Name_function_global I.ok.kind hg (Calls.loadGlobal_builtin (by rw[I.ok.glob];exact I.mod.glob.keeps I.bk) hm (by rw[I.ok.blt];exact h1.keeps I.bk) ((h2 x hn).trans hv) h) hd
theorem jiT {x:Str} {v:V} {u:Value} {pos:Pos} (hg:Gl X x) (hm:X.mg x=some u) (r:RelV v u) (hd:(x==("__debug__":Str))=false:=by decide):PE X (.Name x pos) (tC v) :=
 fun _ _ _ H _ I h=>jiS I hg hm ⟨v,H,I,r,h⟩ hd
theorem jgk {x:Str} {v:V} {u:Value} {pos:Pos} (hg:Gl X x) (hm:X.mg x=none) (hv:bootBuiltins x=some u) (r:RelV v u) (hn:x≠"__name__":=by decide) (hd:(x==("__debug__":Str))=false:=by decide):PE X (.Name x pos) (tC v) :=
 fun _ _ _ H _ I h=>jeF I hg hm hv ⟨v,H,I,r,h⟩ hn hd
variable {a b:Expr} {ta tb:TE} {pos:Pos}
def tB (t:TE):TT:=fun σ H Q=>t σ H fun x H1=>∃c,x=.bl c/\Q c H1
theorem jbO {e:Expr} {t:TE} (h:PE X e t) (he:∀whole,isTrue e X.env whole=(do let v <- whole;standAt e.pos;holding [v] (truthy v)):=by intro _;rfl):PT X e (tB t):=by
 intro pins s σ H Q I hw;refine isTrue_plain (thn (h pins s σ H _ I hw) fun v s1 ⟨x,H1,I1,r1,q1⟩=>?_) (he _);obtain⟨d,rfl,q⟩:=q1;cases r1;exact wpAny_truthy_bool ⟨H1,I1,q⟩
variable {tA tB':TT} {jb9:List Expr}
def jos (t u:TT):TT:=fun σ H Q=>t σ H fun c H1=>if c=true then u σ H1 Q else Q false H1
def tOr (t u:TT):TT:=fun σ H Q=>t σ H fun c H1=>if c=true then Q true H1 else u σ H1 Q
def jot (t:TT):TT:=fun σ H Q=>t σ H fun c H1=>Q (!c) H1
theorem jhq (ha:PT X a tA):PW X (.BoolOp .And [a] pos) tA:=by
 intro wh pins s σ H Q I h;refine isTrue_and (thn (ha pins s σ H Q I h) fun c s1 e=>?_);cases c with
 | true=>exact isTrue_and_nil e
 | false=>exact e
theorem je8 (ha:PT X a tA):PW X (.BoolOp .Or [a] pos) tA:=by
 intro wh pins s σ H Q I h;refine isTrue_or (thn (ha pins s σ H Q I h) fun c s1 e=>?_);cases c with
 | false=>exact isTrue_or_nil e
 | true=>exact e
theorem jhY (ha:PT X a tA) (hb:PW X (.BoolOp .And (b::jb9) pos) tB'):PW X (.BoolOp .And (a::b::jb9) pos) (jos tA tB'):=by
 intro wh pins s σ H Q I h;refine isTrue_and (thn (ha pins s σ H _ I h) fun c s1 ⟨H1,I1,q1⟩=>?_);cases c with
 | true=>exact hb wh pins s1 σ H1 Q I1 q1
 | false=>exact⟨H1,I1,q1⟩
theorem jfS (ha:PT X a tA) (hb:PW X (.BoolOp .Or (b::jb9) pos) tB'):PW X (.BoolOp .Or (a::b::jb9) pos) (tOr tA tB'):=by
 intro wh pins s σ H Q I h;refine isTrue_or (thn (ha pins s σ H _ I h) fun c s1 ⟨H1,I1,q1⟩=>?_);cases c with
 | true=>exact⟨H1,I1,q1⟩
 | false=>exact hb wh pins s1 σ H1 Q I1 q1
theorem jcR (ha:PT X a tA):PT X (.UnaryOp .Not a pos) (jot tA):=by
 intro pins s σ H Q I h;exact isTrue_not (ha pins s σ H (fun c H1=>Q (!c) H1) I h)
def jiU (ta tb:TE):TE:=fun σ H Q=>ta σ H fun x H1=>∃c,x=.bl c/\if c=true then tb σ H1 Q else Q (.bl false) H1
def tOrV (ta tb:TE):TE:=fun σ H Q=>ta σ H fun x H1=>∃c,x=.bl c/\if c=true then Q (.bl true) H1 else tb σ H1 Q
def jiV (ta:TE):TE:=fun σ H Q=>ta σ H fun x H1=>∃c,x=.bl c/\Q (.bl (!c)) H1
theorem jhZ {op} {t:TE} (h:PE X a t):PE X (.BoolOp op [a] pos) t:=fun pins s σ H Q I hw=>BoolOp_one (h pins s σ H Q I hw)
theorem jgP (ha:PE X a ta) (hb:PE X (.BoolOp .And (b::jb9) pos) tb):PE X (.BoolOp .And (a::b::jb9) pos) (jiU ta tb):=by
 intro pins s σ H Q I h;refine BoolOp_and (thn (ha pins s σ H _ I h) fun v s1 ⟨x,H1,I1,r1,q1⟩=>?_);obtain⟨c,rfl,q1⟩:=q1;cases r1;refine wpAny_truthy_bool ?_;cases c with
 | true=>exact hb pins s1 σ H1 Q I1 q1
 | false=>exact⟨.bl false,H1,I1,rfl,q1⟩
theorem jou (ha:PE X a ta):PE X (.UnaryOp .Not a pos) (jiV ta):=by
 intro pins s σ H Q I h;refine UnaryOp_ (thn (ha pins s σ H _ I h) fun v s1 ⟨x,H1,I1,r1,q1⟩=>?_);obtain⟨c,rfl,q1⟩:=q1;cases r1;exact not_of (wpAny_truthy_bool ⟨.bl (!c),H1,I1,rfl,q1⟩)
end
def SqL (K:PySem.W.Frag) (H:Hp) (a:Addr) (xs:List V):Prop :=
 Rd H a (.lst xs) \/
  ∃(o:Obj) (its:Array Value) (n:Nat),K.lookup a=some o/\o.cls=.type "list"/\o.dict=none/\o.data=.seq its n/\its.size<=sizeLine/\Vals xs its.toList
def SqT (K:PySem.W.Frag) (H:Hp) (a:Addr) (xs:List V):Prop :=
 Rd H a (.tup xs) \/
  ∃(o:Obj) (its:Array Value) (n:Nat),K.lookup a=some o/\o.cls=.type "tuple"/\o.data=.seq its n/\its.size<=sizeLine/\Vals xs its.toList
def absV:Value->Option V
 | .none=>some .non
 | .bool b=>some (.bl b)
 | .int i _=>some (.int i)
 | .str x _=>some (.str x)
 | .bytes b _=>some (.byt b)
 | .float b _=>some (.flt b)
 | .ref a=>some (.ref a)
 | .type n=>some (.ty n)
 | _=>none
theorem RelV.abs {x:V} {u:Value} (r:RelV x u):absV u=some x:=by
 cases x with
 | non=>cases r;rfl
 | bl _=>cases r;rfl
 | int _=>obtain⟨t,rfl⟩:=r;rfl
 | str _=>obtain⟨t,rfl⟩:=r;rfl
 | byt _=>obtain⟨t,rfl⟩:=r;rfl
 | flt _=>obtain⟨t,rfl⟩:=r;rfl
 | ref _=>cases r;rfl
 | ty _=>cases r;rfl
theorem RelV.inj {x y:V} {u:Value} (r:RelV x u) (q:RelV y u):x=y:=Option.some.inj (r.abs.symm.trans q.abs)
theorem Vals.inj:∀{xs ys:List V} {us:List Value},Vals xs us->Vals ys us->xs=ys
 | _,_,_,.nil,.nil=>rfl
 | _,_,_,.cons r t,.cons r' t'=>by rw[r.inj r',Vals.inj t t']
section
variable {X:Cx} {pins:List (Addr × Obj)} {σ:St} {H:Hp} {s:Shared} {a:Addr} {xs ys:List V}
theorem SqL.of {K:PySem.W.Frag} (h:H a=some (.lst xs)):SqL K H a xs:=.inl (.inl h)
theorem SqT.of {K:PySem.W.Frag} (h:H a=some (.tup xs)):SqT K H a xs:=.inl (.inl h)
theorem Inv.list (I:Inv X pins σ H s) (h:SqL X.K H a xs):∃its:List Value,Vals xs its/\PlainL s.heap a its.toArray/\xs.length<=sizeLine:=by
 rcases h with h | ⟨o,its,n,hk,hc,hd,hs,hz,r⟩
 ·obtain⟨z,its,n,r,e⟩:=h.ok I.hok;exact⟨its,r,⟨_,n,e,rfl,rfl,rfl⟩,z⟩
 ·refine⟨its.toList,r,⟨o,n,I.kIn a o hk,hc,hd,by simpa using hs⟩,?_⟩;have e:=r.length;simp only[Array.length_toList] at e;omega
theorem Inv.tuple (I:Inv X pins σ H s) (h:SqT X.K H a xs):∃its:List Value,Vals xs its/\IsTup s.heap a its.toArray/\xs.length<=sizeLine:=by
 rcases h with h | ⟨o,its,n,hk,hc,hs,hz,r⟩
 ·obtain⟨z,its,r,p⟩:=h.ok I.hok;exact⟨its,r,p,z⟩
 ·refine⟨its.toList,r,⟨o,I.kIn a o hk,hc,n,by simpa using hs⟩,?_⟩;have e:=r.length;simp only[Array.length_toList] at e;omega
theorem Inv.list_inj (I:Inv X pins σ H s) (h:SqL X.K H a xs) (h':SqL X.K H a ys):xs=ys:=by
 obtain⟨its,r,⟨o,n,e,_,_,d⟩,_⟩:=I.list h;obtain⟨its',r',⟨o',n',e',_,_,d'⟩,_⟩:=I.list h';rw[e] at e';cases e';rw[d] at d';injection d' with d1 _
 have:its=its':=by simpa using congrArg Array.toList d1
 subst this;exact r.inj r'
theorem Inv.tuple_inj (I:Inv X pins σ H s) (h:SqT X.K H a xs) (h':SqT X.K H a ys):xs=ys:=by
 obtain⟨its,r,⟨o,e,_,n,d⟩,_⟩:=I.tuple h;obtain⟨its',r',⟨o',e',_,n',d'⟩,_⟩:=I.tuple h';rw[e] at e';cases e';rw[d] at d';injection d' with d1 _
 have:its=its':=by simpa using congrArg Array.toList d1
 subst this;exact r.inj r'
end
abbrev Cx.wish (X:Cx) (E:Value->Shared->Prop):Cx:={ X with xe:=E }
abbrev Cx.nox (X:Cx):Cx:=X.wish fun _ _=>False
theorem Cx.Ok.wish {X:Cx} (ok:X.Ok) (E:Value->Shared->Prop):(X.wish E).Ok :=
 ⟨ok.mod,ok.kind,ok.glob,ok.blt,ok.above,ok.inj,ok.has,ok.cab,ok.hd,ok.frames,ok.stk,ok.exf,ok.bs,ok.bsz,ok.noex,ok.exfs,ok.funs,ok.frf⟩
theorem Cx.Ok.unwish {X:Cx} {E:Value->Shared->Prop} (ok:(X.wish E).Ok):X.Ok :=
 ⟨ok.mod,ok.kind,ok.glob,ok.blt,ok.above,ok.inj,ok.has,ok.cab,ok.hd,ok.frames,ok.stk,ok.exf,ok.bs,ok.bsz,ok.noex,ok.exfs,ok.funs,ok.frf⟩
section
variable {X:Cx} {pins:List (Addr × Obj)} {σ:St} {H:Hp} {s:Shared} {E:Value->Shared->Prop}
theorem Inv.wish (I:Inv X pins σ H s) (E:Value->Shared->Prop):Inv (X.wish E) pins σ H s:=⟨I.ok.wish E,I.os,I.bare,I.base,I.loc,I.cell,I.free,I.freeC,I.pin,I.hok,I.len⟩
theorem Inv.unwish (I:Inv (X.wish E) pins σ H s):Inv X pins σ H s:=⟨I.ok.unwish,I.os,I.bare,I.base,I.loc,I.cell,I.free,I.freeC,I.pin,I.hok,I.len⟩
theorem SP.unwish {D:Ends} {f:Flow} {s':Shared} (h:SP (X.wish E) pins D f s'):SP X pins D f s':=by
 cases f with
 | next=>obtain⟨σ',H',I,q⟩:=h;exact⟨σ',H',I.unwish,q⟩
 | brk=>obtain⟨σ',H',I,q⟩:=h;exact⟨σ',H',I.unwish,q⟩
 | cont=>obtain⟨σ',H',I,q⟩:=h;exact⟨σ',H',I.unwish,q⟩
 | ret u=>obtain⟨v,σ',H',I,r,q⟩:=h;exact⟨v,σ',H',I.unwish,r,q⟩
theorem PE.nox {e:Expr} {t:TE} (h:PE X.nox e t):PE X e t:=fun pins s σ H Q I hw =>
 wpAny_mono (h pins s σ H Q (I.wish _) hw) (fun _ _ ⟨v,H',I',r,q⟩=>⟨v,H',I'.unwish,r,q⟩) fun _ _ z=>False.elim z
theorem PT.nox {e:Expr} {t:TT} (h:PT X.nox e t):PT X e t:=fun pins s σ H Q I hw =>
 wpAny_mono (h pins s σ H Q (I.wish _) hw) (fun _ _ ⟨H',I',q⟩=>⟨H',I'.unwish,q⟩) fun _ _ z=>False.elim z
theorem PSs.nox {st:List Stmt} {t:TS} (h:PSs X.nox st t):PSs X st t:=fun pins s σ H D I hw =>
 wpAny_mono (h pins s σ H D (I.wish _) hw) (fun _ _ q=>q.unwish) fun _ _ z=>False.elim z
end
section
variable {X:Cx} {st:Stmt} {jb9:List Stmt} {t u:TS} {e:Expr} {te:TE} {pos:Pos}
def jhr:TS:=fun D σ H=>D.nx σ H
def jov (t u:TS):TS:=fun D σ H=>t { D with nx:=u D } σ H
theorem jax:PSs X [] jhr:=fun _ _ σ H _ I h=>wpAny_execs_nil ⟨σ,H,I,h⟩
theorem jaf (h1:PS X st t) (h2:PSs X jb9 u):PSs X (st::jb9) (jov t u):=by
  intro pins s σ H D I h;refine wpAny_execs_cons (thn (h1 pins s σ H { D with nx:=u D } I h) fun f s1 q=>?_);cases f with
  | next =>
    obtain⟨σ',H',I',q⟩:=q;exact h2 pins s1 σ' H' D I' q
  | ret v=>exact q
  | brk=>exact q
  | cont=>exact q
theorem jag (h1:PS X st t):PSs X [st] t:=by
 intro pins s σ H D I h;refine wpAny_execs_cons (thn (h1 pins s σ H D I h) fun f s1 q=>?_);cases f with
 | next=>exact wpAny_execs_nil q
 | ret v=>exact q
 | brk=>exact q
 | cont=>exact q
def jgQ:TS:=fun D σ H=>D.bk σ H
def jiW:TS:=fun D σ H=>D.ct σ H
theorem jkI:PS X (.Break pos) jgQ:=fun _ _ σ H _ I h=>wpAny_Break ⟨σ,H,I,h⟩
theorem jhs:PS X (.Continue pos) jiW:=fun _ _ σ H _ I h=>wpAny_Continue ⟨σ,H,I,h⟩
theorem Inv.quiet {pins:List (Addr × Obj)} {σ:St} {H:Hp} {s:Shared} (I:Inv X pins σ H s):interactive X.env=false:=by simp [interactive,I.ok.kind]
def jiX (te:TE):TS:=fun D σ H=>te σ H fun _ H1=>D.nx σ H1
theorem je9 (he:PE X e te) (hs:swapsWith e none pos.line X.env=pure false:=by rfl):PS X (.Expr e pos) (jiX te):=by
 intro pins s σ H D I h;exact wpAny_Expr_any (thn (he pins s σ H _ I h) fun v s1 ⟨x,H1,I1,r1,q1⟩=>⟨σ,H1,I1,q1⟩) I.quiet hs
def jiM (te:TE):TS:=fun D σ H=>te σ H D.rt
theorem jan (he:PE X e te):PS X (.Return (some e) pos) (jiM te):=by
 intro pins s σ H D I h;exact wpAny_Return_some (thn (he pins s σ H _ I h) fun v s1 ⟨x,H1,I1,r1,q1⟩=>⟨x,σ,H1,I1,r1,q1⟩)
def jkJ:TS:=fun D _ H=>D.rt .non H
def jmK (c:TT) (t u:TS):TS:=fun D σ H=>c σ H fun b H1=>if b=true then t D σ H1 else u D σ H1
theorem jaM {c:Expr} {a b:List Stmt} {tc:TT} (hc:PT X c tc) (ha:PSs X a t) (hb:PSs X b u):PS X (.If c a b pos) (jmK tc t u):=by
 intro pins s σ H D I h;refine wpAny_If (thn (hc pins s σ H _ I h) fun d s1 ⟨H1,I1,q1⟩=>?_);cases d with
 | true=>exact ha pins s1 σ H1 D I1 q1
 | false=>exact hb pins s1 σ H1 D I1 q1
def jow:TS:=fun _ _ _=>False
theorem jfa {sts:List Stmt}:PSs X sts jow:=fun _ _ _ _ _ _ h=>h.elim
end
abbrev TG:=V->St->Hp->(St->Hp->Prop)->Prop
abbrev TGs:=List V->St->Hp->(St->Hp->Prop)->Prop
def PG (X:Cx) (target:Expr) (t:TG):Prop :=
  ∀ (pins : List (Addr × Obj)) (s : Shared) (σ : St) (H : Hp) (v : V) (u : Value) (Q : St -> Hp -> Prop), Inv X pins σ H s -> RelV v u -> t v σ H Q ->
    wpAny (model X.prog X.w) X.A (assign target X.env u) (fun _ s'=>∃σ' H',Inv X pins σ' H' s'/\Q σ' H') X.xe s
def PGs (X:Cx) (ts:List Expr) (t:TGs):Prop :=
  ∀ (pins : List (Addr × Obj)) (s : Shared) (σ : St) (H : Hp) (vs : List V) (us : List Value) (Q : St -> Hp -> Prop), Inv X pins σ H s -> Vals vs us -> t vs σ H Q ->
    wpAny (model X.prog X.w) X.A (assignInOrder ((assignEach ts X.env).map (·.2)) us) (fun _ s'=>∃σ' H',Inv X pins σ' H' s'/\Q σ' H') X.xe s
abbrev TSet:=V->V->V->Hp->(Hp->Prop)->Prop
def PSet (X:Cx) (t:TSet):Prop :=
  ∀ (pins : List (Addr × Obj)) (s : Shared) (σ : St) (H : Hp) (o i v : V) (ov iv u : Value) (Q : Hp -> Prop), Inv X pins σ H s -> RelV o ov -> RelV i iv -> RelV v u -> t o i v H Q ->
    wpAny (model X.prog X.w) X.A (setItem ov iv u) (fun _ s'=>∃H',Inv X pins σ H' s'/\Q H') X.xe s
section
variable {X:Cx} {pos:Pos}
def jbt (i:Nat):TG:=fun v σ H Q=>Q (σ.set i (some v)) H
theorem jau {i:Nat} {x:Str} (hN:X.N.Nodup) (hi:X.N[i]?=some x) (hx:Loc X.env.scope x) (hf:X.fn x=true\/X.env.scope.names.lookup x=some .local:=by first | exact .inl rfl | exact .inr rfl | assumption):PG X (.Name x pos) (jbt i):=by
 intro pins s σ H v u Q I r h;exact wpAny_assign_Name (je2 I hN hi hx r (fun s' I'=>⟨_,H,I',h⟩) hf)
def joh:TGs:=fun vs σ H Q=>vs=[]/\Q σ H
def jht (t:TG) (u:TGs):TGs:=fun vs σ H Q=>∃v r,vs=v::r/\t v σ H fun σ' H'=>u r σ' H' Q
theorem jfb:PGs X [] joh:=by
 intro pins s σ H vs us Q I r h;obtain⟨e,h⟩:=h;subst e;cases r;exact assignInOrder_nil ⟨σ,H,I,h⟩
theorem jbx {e:Expr} {es:List Expr} {t:TG} {u:TGs} (h1:PG X e t) (h2:PGs X es u)
    (hs:(assignEach (e::es) X.env).map (·.2)=assign e X.env::(assignEach es X.env).map (·.2):=by rfl):PGs X (e::es) (jht t u):=by
  intro pins s σ H vs us Q I r h;obtain⟨v,vr,e1,h⟩:=h;subst e1;cases r with
  | cons r rr =>
    rw[hs];refine assignInOrder_cons (thn (h1 pins s σ H _ _ _ I r h) fun _ s1 ⟨σ1,H1,I1,q1⟩=>?_);exact h2 pins s1 σ1 H1 _ _ Q I1 rr q1
def jmL (K:PySem.W.Frag) (n:Nat) (t:TGs):TG:=fun v σ H Q=>∃a xs,v=.ref a/\SqT K H a xs/\xs.length=n/\t xs σ H Q
theorem jiY {es:List Expr} {k:Nat} {t:TGs} {n:Nat} (hc:X.calm=true) (h:PGs X es t)
  (hn:(assignEach es X.env).length=n:=by rfl) (hst:(assignEach es X.env).findIdx? (·.1)=none:=by rfl):PG X (.Tuple es k pos) (jmL X.K n t):=by
 intro pins s σ H v u Q I r hw;obtain⟨a,xs,e1,hq,hl,hw⟩:=hw;subst e1;cases r;obtain⟨its,rv,ht,hz⟩:=I.tuple hq;refine assign_Tuple_tuple (I.ok.hd hc) ht (by simp [hn,<- hl,rv.length]) hst fun h' hx=>?_;have I1:Inv X pins σ H { s with heap:=h' }:=I.kept (t':=s.toks) fun b o e=>hx b o (xaK (Heap.lt_size e)) e;exact h pins _ σ H xs _ Q I1 (by simpa using rv) hw
def gSub (to ti:TE) (t:TSet):TG:=fun v σ H Q=>to σ H fun o H1=>ti σ H1 fun i H2=>t o i v H2 fun H3=>Q σ H3
theorem jlF {o i:Expr} {to ti:TE} {t:TSet} (ho:PE X o to) (hi:PE X i ti) (hs:PSet X t)
  (ha:∀v,assign (.Subscript o i pos) X.env v=(do
   let ov <- holding [v] (eval o X.env)
   let iv <- holding [v,ov] (eval i X.env)
   standAt pos
   holding [v,ov,iv] (setItem ov iv v)
   release [v,ov,iv] []):=by intro _;rfl):PG X (.Subscript o i pos) (gSub to ti t):=by
 intro pins s σ H v u Q I r h;rw[ha];refine wpAny_bind (wpAny_holding (thn (ho pins s σ H _ I h) fun ov s1 ⟨x,H1,I1,r1,q1⟩=>?_));refine wpAny_bind (wpAny_holding (thn (hi pins s1 σ H1 _ I1 q1) fun iv s2 ⟨y,H2,I2,r2,q2⟩=>?_));refine wpAny_bind (wpAny_standAt (wpAny_bind (wpAny_holding (thn (hs pins s2 σ H2 x y v ov iv u _ I2 r1 r2 r q2) fun _ s3 ⟨H3,I3,q3⟩=>?_))));exact wpAny_release ⟨σ,H3,I3,q3⟩
def jmM (te:TE) (g:TG):TS:=fun D σ H=>te σ H fun x H1=>g x σ H1 D.nx
theorem jiZ {tg e:Expr} {te:TE} {g:TG} (he:PE X e te) (hg:PG X tg g) (hs:swapsWithSole [tg] e pos.line X.env=pure false:=by rfl) (hw:swappedStores [tg] e X.env=pure none:=by rfl)
  (h1:(assignEach [tg] X.env).map (·.2)=[assign tg X.env]:=by rfl):PS X (.Assign [tg] e pos) (jmM te g):=by
 intro pins s σ H D I h;refine wpAny_Assign_stores (thn (he pins s σ H _ I h) fun v s1 ⟨x,H1,I1,r1,q1⟩=>?_) hs hw;rw[h1];exact thn (hg pins s1 σ H1 x v _ I1 r1 q1) fun _ s2 q=>q
theorem jar {i:Nat} {x:Str} {e:Expr} {te:TE} {pos':Pos} (hN:X.N.Nodup) (hi:X.N[i]?=some x) (hx:Loc X.env.scope x) (he:PE X e te) (hs:swapsWith e (some (.Name x pos')) pos.line X.env=pure false:=by rfl) (hf:X.fn x=true\/X.env.scope.names.lookup x=some .local:=by first | exact .inl rfl | exact .inr rfl | assumption) :
  PS X (.Assign [.Name x pos'] e pos) (jmM te (jbt i)):=by
 intro pins s σ H D I h;refine wpAny_Assign_Name (thn (he pins s σ H _ I h) fun v s1 ⟨y,H1,I1,r1,q1⟩=>?_) hs;exact je2 I1 hN hi hx r1 (fun s2 I2=>⟨_,H1,I2,q1⟩) hf
def jox (i j:Nat) (ta:TA):TS:=fun D σ H=>ta σ H fun vs H1=>∃v w,vs=[v,w]/\D.nx ((σ.set i (some v)).set j (some w)) H1
theorem joy {i j:Nat} {x y:Str} {a b:Expr} {ta:TA} {px py pt:Pos} {kt k2 pt2} (hc:X.calm=true) (hN:X.N.Nodup) (hi:X.N[i]?=some x) (hj:X.N[j]?=some y) (hij:i≠j)
    (hx:X.env.scope.names.lookup x=some .local) (hy:X.env.scope.names.lookup y=some .local) (ha:PA X [a,b] ta)
    (hw:swappedStores [.Tuple [.Name x px,.Name y py] kt pt] (.Tuple [a,b] k2 pt2) X.env=pure (some [x,y]))
    (hs:swapsWithSole [.Tuple [.Name x px,.Name y py] kt pt] (.Tuple [a,b] k2 pt2) pos.line X.env=pure false:=by rfl) :
    PS X (.Assign [.Tuple [.Name x px,.Name y py] kt pt] (.Tuple [a,b] k2 pt2) pos) (jox i j ta):=by
  intro pins s σ H D I h;rw[exec_Assign_arm];refine wpAny_bind (wpAny_standAt ?_);rw[hs];refine wpAny_bind (wpAny_pure ?_);rw[if_neg (by decide)];refine wpAny_bind (Tuple_ (thn (ha _ pins s σ H _ I h) fun us s1 ⟨vs,H1,I1,r1,q1⟩=>?_));obtain⟨v,w,e1,q1⟩:=q1;subst e1;obtain⟨u1,u2,rfl,rv,rw'⟩:∃u1 u2,us=[u1,u2]/\RelV v u1/\RelV w u2:=by
    cases r1 with
    | cons p q =>
      cases q with
      | cons p' q' =>
        cases q';exact⟨_,_,rfl,p,p'⟩
  refine wpAny_newObj_type ?_ (by show 2<=sizeLine;decide);have I2:Inv X pins σ H1 { s1 with heap:=s1.heap.push { cls:=.type "tuple",data:=.seq [u1,u2].toArray } }:=I1.kept (t':=s1.toks) fun b o e=>Heap.get?_push_of_some _ e;rw[hw];refine wpAny_bind (wpAny_pure ?_);show wpAny (model X.prog X.w) X.A (do rule "assign.swapped-stores";let items <- unpackItems (.ref s1.heap.objs.size) 2 none;assignInOrder [fun v=>bindName X.env y v,fun v=>bindName X.env x v] items.reverse;pure Flow.next) _ _ _;refine wpAny_bind (wpAny_rule (wpAny_bind (unpackItems_tuple (items:=#[u1,u2]) (I.ok.hd hc) (IsTup.new s1.heap _) fun h' hx'=>?_)));have I3:=I2.kept (h':=h') (t':=s1.toks) fun b o e=>hx' b o (xaK (Heap.lt_size e)) e;show wpAny _ _ (assignInOrder [fun v=>bindName X.env y v,fun v=>bindName X.env x v] [u2,u1] >>= fun _=>pure Flow.next) _ _ _;refine wpAny_bind (assignInOrder_cons (wpAny_bindName (je2 I3 hN hj (.inl hy) rw' (fun s2 I4=>?_) (.inr hy))));refine assignInOrder_cons (wpAny_bindName (je2 I4 hN hi (.inl hx) rv (fun s3 I5=>assignInOrder_nil (wpAny_pure ?_)) (.inr hx)));rw[List.set_comm _ _ (Ne.symm hij)] at I5;exact⟨_,H1,I5,q1⟩
def joz (c:TT) (tb:TS):TS:=fun D σ H=>∃W:Nat->St->Hp->Prop,(∃m,W m σ H)/\∀m σ H,W m σ H ->
 c σ H fun b H1=>if b=true then ∃N:St->Hp->Prop,(∀σ' H',N σ' H'->∃m',m'<m/\W m' σ' H')/\tb { D with nx:=N,ct:=N,bk:=D.nx } σ H1 else D.nx σ H1
theorem je3 {c:Expr} {body:List Stmt} {tc:TT} {tb:TS} (hp:PassesOwn (model X.prog X.w) X.A X.env X.xe) (hc:PT X c tc) (hb:PSs X body tb):PS X (.While c body [] pos) (joz tc tb):=by
  intro pins s σ H D I h;obtain⟨W,⟨m0,w0⟩,turn⟩:=h;refine wpAny_While (codeAny_whileLoop (fun n s'=>∃σ' H',Inv X pins σ' H' s'/\W n σ' H') ?_ m0 ⟨σ,H,I,w0⟩);rintro n s1 ⟨σ1,H1,I1,w1⟩;refine wpAny_passesOwn hp (thn (hc pins s1 σ1 H1 _ I1 (turn n σ1 H1 w1)) fun b s2 ⟨H2,I2,q2⟩=>?_);cases b with
  | true =>
    obtain⟨N,hN,q2⟩:=q2;rw[if_pos rfl];refine wpAny_passesOwn hp (thn (hb pins s2 σ1 H2 _ I2 q2) fun f s3 q3=>?_);cases f with
    | next =>
      obtain⟨σ3,H3,I3,n3⟩:=q3;obtain⟨m',hm,w3⟩:=hN σ3 H3 n3;exact⟨m',hm,σ3,H3,I3,w3⟩
    | cont =>
      obtain⟨σ3,H3,I3,n3⟩:=q3;obtain⟨m',hm,w3⟩:=hN σ3 H3 n3;exact⟨m',hm,σ3,H3,I3,w3⟩
    | brk=>exact q3
    | ret v=>exact q3
  | false =>
    rw[if_neg xaC];exact wpAny_execs_nil ⟨σ1,H2,I2,q2⟩
end
structure It where
 go:Nat->Hp->Prop
 yld:Nat->Hp->V->Hp->Prop
 stop:Nat->Hp->Prop
def jhp (X:Cx) (pins:List (Addr × Obj)) (H:Hp) (b:Addr):Prop :=
 H b=none/\b≠X.env.locals/\b∉X.fs/\(b∈X.ex\/X.s₀.heap.objs.size<=b)/\(∀x c,X.env.cells.lookup x=some c->c≠b)/\∀p∈X.pn++pins,p.1≠b
theorem Inv.fpOk {X:Cx} {pins:List (Addr × Obj)} {σ:St} {H H':Hp} {s:Shared} {b:Addr} (I:Inv X pins σ H s) (hb:s.heap.objs.size<=b) (hn:H' b=none):jhp X pins H' b:=by
 refine⟨hn,Nat.ne_of_gt (xau I.lt hb),I.nofs hb,.inr (xa4 I.sz hb),fun x c e z=>?_,fun p hp z=>?_⟩
 ·obtain⟨v,q⟩:=I.cell x c e;exact absurd (xau q.lt (by rw[z];exact hb)) (xbw _)
 ·exact absurd (xau (Heap.lt_size (I.pin p hp).1) (by rw[z];exact hb)) (xbw _)
structure Turn (P:Program) (w:World) (K:PySem.W.Frag) (tg:Expr) (J:It) (fp:List Addr) (it:Addr) (tn:Nat->Heap->Prop):Prop where
 mem:it∈fp
 obj:∀i h,tn i h->∀b∈fp,∃o,h.get? b=some o/\∀v,o.data≠.cell v
 keep:∀i h h',tn i h->(∀b∈fp,∀o,h.get? b=some o->h'.get? b=some o)->tn i h'
 item:∀(X:Cx),X.prog=P->X.w=w->X.K=K->X.calm=true->∀(i:Nat) (pins:List (Addr × Obj)) (s:Shared) (σ:St) (H:Hp) (E:Value->Shared->Prop),Inv X pins σ H s->(∀b∈fp,jhp X pins H b)->tn i s.heap->J.go i H ->
  wpAny (model P w) X.A (pyNext (.ref it)) (fun r s1=>∃u,r=some u /\
   wpAny (model P w) X.A (letOwnedTupleGo tg (.ref it) u) (fun _ s2=>∃x H',Inv X pins σ H' s2/\RelV x u/\J.yld i H x H'/\tn (i+1) s2.heap/\∀b∈fp,H' b=none) E s1) E s
 done:∀(X:Cx),X.prog=P->X.w=w->X.K=K->X.calm=true->∀(i:Nat) (pins:List (Addr × Obj)) (s:Shared) (σ:St) (H:Hp) (E:Value->Shared->Prop),Inv X pins σ H s->(∀b∈fp,jhp X pins H b)->tn i s.heap->J.stop i H ->
  wpAny (model P w) X.A (pyNext (.ref it)) (fun r s1=>r=none/\Inv X pins σ H s1) E s
 self:∀(A:Around) (i:Nat) (s:Shared) (Q:Value->Shared->Prop) (E:Value->Shared->Prop),tn i s.heap->Q (.ref it) s->wpAny (model P w) A (pyIter (.ref it)) Q E s
abbrev TI:=St->Hp->(It->Hp->Prop)->Prop
def PIE (X:Cx) (pins:List (Addr × Obj)) (σ:St) (tg:Expr) (R:It->Hp->Prop) (itv:Value) (s2:Shared):Prop :=
 ∃(it:Addr) (fp:List Addr) (tn:Nat->Heap->Prop) (J:It) (H':Hp),itv=.ref it/\Inv X pins σ H' s2/\Turn X.prog X.w X.K tg J fp it tn/\tn 0 s2.heap/\(∀b∈fp,jhp X pins H' b)/\R J H'
def PI (X:Cx) (tg iter:Expr) (wi:TI):Prop :=
  ∀ (pins : List (Addr × Obj)) (s : Shared) (σ : St) (H : Hp) (R : It -> Hp -> Prop), Inv X pins σ H s -> wi σ H R ->
    wpAny (model X.prog X.w) X.A (eval iter X.env) (fun v s1=>wpAny (model X.prog X.w) X.A (pyIter v) (PIE X pins σ tg R) X.xe s1) X.xe s
theorem jmN {M:Model} {A:Around} {E:Value->Shared->Prop} {s:Shared} {tg:Expr} {it:Addr} {u:Value} {o:Obj} {n:String} {vs:Array Value} {Q:Unit->Shared->Prop} (ho:s.heap.get? it=some o) (hc:o.cls=.type n) (hd:o.data=.fields vs)
    (hn:["enumerate","zip","dict_itemiterator","dict_reverseitemiterator","odict_iterator","itertools.zip_longest","itertools.pairwise"].contains n=false) (hQ:Q () s):wpAny M A (letOwnedTupleGo tg (.ref it) u) Q E s:=by
  unfold letOwnedTupleGo;cases tg<;>first
    | exact wpAny_pure hQ
    | (cases u<;>first
        | exact wpAny_pure hQ
        | (refine wpAny_bind (wpAny_load ho ?_)
           rw[hc,hd];show wpAny M A (if (["enumerate","zip","dict_itemiterator","dict_reverseitemiterator","odict_iterator","itertools.zip_longest","itertools.pairwise"].contains n&&vs[0]?==some (rawInt _))=true then _ else _) Q E s;rw[if_neg (by intro h;rw[hn,Bool.false_and] at h;cases h)];exact wpAny_pure hQ))
def Itl (K:PySem.W.Frag) (a:Addr):It :=
 ⟨fun i H=>∃xs x,SqL K H a xs/\xs[i]?=some x,fun i H x H'=>H'=H/\∀xs,SqL K H a xs->xs[i]?=some x,fun i H=>∃xs,SqL K H a xs/\xs.length<=i⟩
def Itt (K:PySem.W.Frag) (a:Addr):It :=
 ⟨fun i H=>∃xs x,SqT K H a xs/\xs[i]?=some x,fun i H x H'=>H'=H/\∀xs,SqT K H a xs->xs[i]?=some x,fun i H=>∃xs,SqT K H a xs/\xs.length<=i⟩
def Itr (lo:Int) (n:Nat):It:=⟨fun i _=>i<n,fun i H x H'=>H'=H/\x=.int (lo+i),fun i _=>n<=i⟩
theorem jgR {P:Program} {w:World} {K:PySem.W.Frag} {tg:Expr} (a it:Addr):Turn P w K tg (Itl K a) [it] it (fun i h=>h.IsListIter it a i) where
 mem:=by simp
 obj:=fun i h st b hb=>by
  have e:b=it:=by simpa using hb
  subst e;obtain⟨o,e,c,d⟩:=st;exact⟨o,e,fun v z=>by rw[d] at z;cases z⟩
 keep:=fun i h h' st k=>st.at fun o e=>k it (by simp) o e
 item:=by
  intro X hP hw hK hc i pins s σ H E I hf st hg;subst hP hw hK;obtain⟨xs,x,hq,hx⟩:=hg;obtain⟨its,rv,p,hz⟩:=I.list hq;obtain⟨u,hu,ru⟩:=rv.get hx;obtain⟨f0,f1,f2,f3,f4,f5⟩:=hf it (by simp);refine wpAny_pyNext_list_item st p.isList (x:=u) (by simpa using hu) fun h' st' sb=>?_;have I1:Inv X pins σ H { s with heap:=h' }:=I.turned (t':=s.toks) (fun b o hb e=>(sb.2 b hb).trans e) f0 f1 f3 f4 f5;obtain⟨o,e,c,d⟩:=id st';exact⟨u,rfl,jmN (s:={ s with heap:=h' }) e c d (by decide) ⟨x,H,I1,ru,⟨rfl,fun ys hy=>by rw[I.list_inj hy hq];exact hx⟩,st',fun b hb=>(hf b hb).1⟩⟩
 done:=by
  intro X hP hw hK hc i pins s σ H E I hf st hg;subst hP hw hK;obtain⟨xs,hq,hx⟩:=hg;obtain⟨its,rv,p,hz⟩:=I.list hq;obtain⟨f0,f1,f2,f3,f4,f5⟩:=hf it (by simp);have hl:=rv.length;exact wpAny_pyNext_list_end (I.ok.hd hc) st p.isList (by simp;omega) fun h' eb=>⟨rfl,I.turned (t':=s.toks) (fun b o hb e=>eb b o hb e) f0 f1 f3 f4 f5⟩
 self:=fun _ _ _ _ _ st h=>wpAny_pyIter_listiter st h
theorem jfV {P:Program} {w:World} {K:PySem.W.Frag} {tg:Expr} (a it:Addr):Turn P w K tg (Itt K a) [it] it (fun i h=>h.IsTupleIter it a i) where
 mem:=by simp
 obj:=fun i h st b hb=>by
  have e:b=it:=by simpa using hb
  subst e;obtain⟨o,e,c,d⟩:=st;exact⟨o,e,fun v z=>by rw[d] at z;cases z⟩
 keep:=fun i h h' st k=>st.at fun o e=>k it (by simp) o e
 item:=by
  intro X hP hw hK hc i pins s σ H E I hf st hg;subst hP hw hK;obtain⟨xs,x,hq,hx⟩:=hg;obtain⟨its,rv,p,hz⟩:=I.tuple hq;obtain⟨u,hu,ru⟩:=rv.get hx;obtain⟨f0,f1,f2,f3,f4,f5⟩:=hf it (by simp);refine wpAny_pyNext_tuple_item st (show s.heap.IsTuple a its.toArray from p) (x:=u) (by simpa using hu) fun h' st' sb=>?_;have I1:Inv X pins σ H { s with heap:=h' }:=I.turned (t':=s.toks) (fun b o hb e=>(sb.2 b hb).trans e) f0 f1 f3 f4 f5;obtain⟨o,e,c,d⟩:=id st';exact⟨u,rfl,jmN (s:={ s with heap:=h' }) e c d (by decide) ⟨x,H,I1,ru,⟨rfl,fun ys hy=>by rw[I.tuple_inj hy hq];exact hx⟩,st',fun b hb=>(hf b hb).1⟩⟩
 done:=by
  intro X hP hw hK hc i pins s σ H E I hf st hg;subst hP hw hK;obtain⟨xs,hq,hx⟩:=hg;obtain⟨its,rv,p,hz⟩:=I.tuple hq;obtain⟨f0,f1,f2,f3,f4,f5⟩:=hf it (by simp);have hl:=rv.length;exact wpAny_pyNext_tuple_end (I.ok.hd hc) st (show s.heap.IsTuple a its.toArray from p) (by simp;omega) fun h' eb=>⟨rfl,I.turned (t':=s.toks) (fun b o hb e=>eb b o hb e) f0 f1 f3 f4 f5⟩
 self:=fun _ _ _ _ _ st h=>wpAny_pyIter_tupleiter st h
theorem jix {P:Program} {w:World} {K:PySem.W.Frag} {tg:Expr} (it:Addr) (lo:Int) (n:Nat):Turn P w K tg (Itr lo n) [it] it (fun i h=>IsRangeIter h it (lo+(i:Nat)*1) ((n:Int)-(i:Nat)) 1) where
 mem:=by simp
 obj:=fun i h st b hb=>by
  have e:b=it:=by simpa using hb
  subst e;exact⟨_,st,fun v z=>by
   have z':Data.fields _=Data.cell v:=z;cases z'⟩
 keep:=fun i h h' st k=>k it (by simp) _ st
 item:=by
  intro X hP hw hK hc i pins s σ H E I hf st hg;subst hP hw hK;obtain⟨f0,f1,f2,f3,f4,f5⟩:=hf it (by simp);have W:=Walks.range (prog:=X.prog) (w:=X.w) (I.ok.hd hc) it lo 1 n;refine W.item i s _ _ hg st fun v h' tk hv st' kk=>?_;obtain⟨t,rfl⟩:=hv;have I1:Inv X pins σ H { s with heap:=h',toks:=tk }:=I.turned (fun b o hb e=>kk b o (by simpa using hb) e) f0 f1 f3 f4 f5;refine⟨_,rfl,jmN (s:={ s with heap:=h',toks:=tk }) (n:="range_iterator") st' rfl rfl (by decide) ⟨.int (lo+i),H,I1,⟨t,?_⟩,⟨rfl,rfl⟩,st',fun b hb=>(hf b hb).1⟩⟩;rw[Int.mul_one]
 done:=by
  intro X hP hw hK hc i pins s σ H E I hf st hg;subst hP hw hK;obtain⟨f0,f1,f2,f3,f4,f5⟩:=hf it (by simp);exact wpAny_pyNext_range_end (I.ok.hd hc) st (by have:n<=i:=hg;omega) fun h' eb=>⟨rfl,I.turned (t':=s.toks) (fun b o hb e=>eb b o hb e) f0 f1 f3 f4 f5⟩
 self:=fun _ _ _ _ _ st h=>wpAny_pyIter_rangeiter st h
section
variable {X:Cx} {tg:Expr}
def jkK (K:PySem.W.Frag) (tl:TE):TI:=fun σ H R=>tl σ H fun x H1=>∃a,x=.ref a/\(∃xs,SqL K H1 a xs)/\R (Itl K a) H1
def iTup (K:PySem.W.Frag) (tl:TE):TI:=fun σ H R=>tl σ H fun x H1=>∃a,x=.ref a/\(∃xs,SqT K H1 a xs)/\R (Itt K a) H1
theorem jba {l:Expr} {tl:TE} (hl:PE X l tl):PI X tg l (jkK X.K tl):=by
 intro pins s σ H R I h;refine thn (hl pins s σ H _ I h) fun v s1 ⟨x,H1,I1,r1,q1⟩=>?_;obtain⟨a,e,⟨xs,hq⟩,q⟩:=q1;subst e;cases r1;obtain⟨its,rv,p,hz⟩:=I1.list hq;refine wpAny_pyIter_list p.isList ?_;refine⟨s1.heap.objs.size,[s1.heap.objs.size],_,_,H1,rfl,I1.kept (t':=s1.toks) fun b o e=>Heap.get?_push_of_some _ e,jgR a _,⟨_,Heap.get?_push_size _ rfl,rfl,rfl⟩,fun b hb=>?_,q⟩;have e:b=s1.heap.objs.size:=by simpa using hb
 subst e;exact I1.fpOk (xam _) (I1.hok.fresh (xam _))
theorem jbT {l:Expr} {tl:TE} (hl:PE X l tl):PI X tg l (iTup X.K tl):=by
 intro pins s σ H R I h;refine thn (hl pins s σ H _ I h) fun v s1 ⟨x,H1,I1,r1,q1⟩=>?_;obtain⟨a,e,⟨xs,hq⟩,q⟩:=q1;subst e;cases r1;obtain⟨its,rv,p,hz⟩:=I1.tuple hq;refine wpAny_pyIter_tuple (show s1.heap.IsTuple a its.toArray from p) ?_;refine⟨s1.heap.objs.size,[s1.heap.objs.size],_,_,H1,rfl,I1.kept (t':=s1.toks) fun b o e=>Heap.get?_push_of_some _ e,jfV a _,⟨_,Heap.get?_push_size _ rfl,rfl,rfl⟩,fun b hb=>?_,q⟩;have e:b=s1.heap.objs.size:=by simpa using hb
 subst e;exact I1.fpOk (xam _) (I1.hok.fresh (xam _))
theorem jh0 {pins:List (Addr × Obj)} {σ:St} {H:Hp} {s:Shared} {R:It->Hp->Prop} {E:Value->Shared->Prop} {lo hi:Int} {t u v:Tok} {tk:Nat} (I:Inv X pins σ H s) (h1:-(2^62)<=lo) (h2:lo<2^62) (h3:-(2^62)<=hi) (h4:hi<2^62)
  (q:R (Itr lo (hi-lo).toNat) H):wpAny (model X.prog X.w) X.A (pyIter (.ref s.heap.objs.size)) (PIE X pins σ tg R) E { s with heap:=s.heap.push { cls:=.type "range",data:=.fields #[.int lo t,.int hi u,.int 1 v] },toks:=tk }:=by
 refine wpAny_pyIter_range (IsRange.new ..) (small_one h1 h2 h3 h4) ?_;have I1:Inv X pins σ H { s with heap:=s.heap.push { cls:=.type "range",data:=.fields #[.int lo t,.int hi u,.int 1 v] },toks:=tk }:=I.kept fun b o e=>Heap.get?_push_of_some _ e;refine⟨(s.heap.push { cls:=.type "range",data:=.fields #[.int lo t,.int hi u,.int 1 v] }).objs.size,[(s.heap.push { cls:=.type "range",data:=.fields #[.int lo t,.int hi u,.int 1 v] }).objs.size],_,_,H,rfl,
  I1.kept (t':=tk) fun b o e=>Heap.get?_push_of_some _ e,jix _ lo (hi-lo).toNat,?_,fun b hb=>?_,q⟩
 ·have e1:lo+((0:Nat):Int)*1=lo:=by simp
  have e2:(((hi-lo).toNat:Nat):Int)-((0:Nat):Int)=Builtin.Range.rangeSize lo hi 1:=by rw[rangeSize_one];split<;>omega
  show IsRangeIter _ _ (lo+((0:Nat):Int)*1) ((((hi-lo).toNat:Nat):Int)-((0:Nat):Int)) 1;rw[e1,e2];exact Heap.get?_push_size _ rfl
 ·have e:b=(s.heap.push { cls:=.type "range",data:=.fields #[.int lo t,.int hi u,.int 1 v] }).objs.size:=by simpa using hb
  subst e;exact I1.fpOk (xam _) (I1.hok.fresh (xam _))
def jkL (ta:TA):TI:=fun σ H R=>ta σ H fun vs H1=>∃j:Int,vs=[.int j]/\-(2^62)<=j/\j<2^62/\R (Itr 0 j.toNat) H1
def jmO (ta:TA):TI:=fun σ H R=>ta σ H fun vs H1=>∃i j:Int,vs=[.int i,.int j]/\(-(2^62)<=i/\i<2^62/\-(2^62)<=j/\j<2^62)/\R (Itr i (j-i).toNat) H1
theorem jaH {a:Expr} {ta:TA} {p pos:Pos} (hg:Gl X "range") (hm:X.mg "range"=none) (ha:PA X [a] ta) (hs:starEach [a] X.env=[(false,eval a X.env)]:=by rfl):PI X tg (.Call (.Name "range" p) [a] [] pos) (jkL ta):=by
  intro pins s σ H R I h;refine Call_ (jeF I hg hm boot_range (PyProof.Rows.callWith_type1 (thn (ha pos pins s σ H _ I h) fun us s1 ⟨vs,H1,I1,r1,q1⟩=>?_) hs rfl));obtain⟨j,e,q1,q2,q⟩:=q1;subst e;cases r1 with
  | cons r rr =>
    cases rr;obtain⟨t,rfl⟩:=r;exact call_range_1 (jh0 I1 (by omega) (by omega) q1 q2 (by simpa using q))
theorem jfc {a b:Expr} {ta:TA} {p pos:Pos} (hg:Gl X "range") (hm:X.mg "range"=none) (ha:PA X [a,b] ta) (hs:starEach [a,b] X.env=[(false,eval a X.env),(false,eval b X.env)]:=by rfl) (hs2:starEach [b] X.env=[(false,eval b X.env)]:=by rfl) :
    PI X tg (.Call (.Name "range" p) [a,b] [] pos) (jmO ta):=by
  intro pins s σ H R I h;refine Call_ (jeF I hg hm boot_range (PyProof.Rows.callWith_type1 (thn (ha pos pins s σ H _ I h) fun us s1 ⟨vs,H1,I1,r1,q1⟩=>?_) (by rw[hs,hs2]) (by rw[hs2];rfl)));obtain⟨i,j,e,⟨q1,q2,q3,q4⟩,q⟩:=q1;subst e;cases r1 with
  | cons r rr =>
    cases rr with
    | cons r' rr =>
      cases rr;obtain⟨t,rfl⟩:=r;obtain⟨t',rfl⟩:=r';exact call_range_2 (jh0 I1 q1 q2 q3 q4 q)
def jlG (wi:TI) (g:TG) (tb:TS):TS:=fun D σ H=>wi σ H fun J H1=>∃W:Nat->Nat->St->Hp->Prop,(∃m,W 0 m σ H1)/\∀i m σ H,W i m σ H ->
 (J.stop i H/\D.nx σ H)\/(J.go i H/\∃N:St->Hp->Prop,(∀σ' H',N σ' H'->∃m',m'<m/\W (i+1) m' σ' H')/\∀x H',J.yld i H x H'->g x σ H' fun σ2 H2=>tb { D with nx:=N,ct:=N,bk:=D.nx } σ2 H2)
def jgS (fp:List Addr) (h:Heap):List (Addr × Obj):=fp.filterMap fun b=>(h.get? b).map fun o=>(b,o)
theorem jdq {fp:List Addr} {h:Heap} {b:Addr} {o:Obj} (hb:b∈fp) (e:h.get? b=some o):(b,o)∈jgS fp h:=List.mem_filterMap.mpr ⟨b,hb,by rw[e];rfl⟩
theorem ji0 {fp:List Addr} {h:Heap} {p:Addr × Obj} (hp:p∈jgS fp h):p.1∈fp/\h.get? p.1=some p.2:=by
  obtain⟨b,hb,e⟩:=List.mem_filterMap.mp hp;cases q:h.get? b with
  | none=>rw[q] at e;cases e
  | some o =>
    rw[q] at e;have e':(b,o)=p:=Option.some.inj e;subst e';exact⟨hb,q⟩
theorem Inv.pinned {pins:List (Addr × Obj)} {σ:St} {H:Hp} {s:Shared} {fp:List Addr} (I:Inv X pins σ H s) (hf:∀b∈fp,jhp X pins H b) (ho:∀b∈fp,∃o,s.heap.get? b=some o/\∀v,o.data≠.cell v):Inv X (pins++jgS fp s.heap) σ H s :=
 I.pins_of fun p hp=>(xaA.mp hp).elim (fun z=>I.pin p (xaX _ z)) fun z=>by
  obtain⟨hb,e⟩:=ji0 z;obtain⟨f0,f1,f2,_⟩:=hf p.1 hb;obtain⟨o,e',d⟩:=ho p.1 hb;rw[e] at e';cases e';exact⟨e,f0,f1,f2,d⟩
theorem Inv.unpinned {pins pl:List (Addr × Obj)} {σ:St} {H:Hp} {s:Shared} (I:Inv X (pins++pl) σ H s):Inv X pins σ H s:=I.pins_of fun p hp=>I.pin p (xaX _ (xbS _ hp))
theorem jbb {iter:Expr} {body:List Stmt} {wi:TI} {g:TG} {tb:TS} {pos:Pos} (hp:PassesOwn (model X.prog X.w) X.A X.env X.xe) (hc:X.calm=true) (hi:PI X tg iter wi) (hg:PG X tg g) (hb:PSs X body tb)
  (hs:∀x,foldedSetIterable iter X.env x=pure x:=by intro _;rfl):PS X (.For tg iter body [] pos) (jlG wi g tb):=by
 intro pins s σ H D I h;refine wpAny_For (thn (hi pins s σ H _ I h) fun v s1 h1=>thn h1 fun itv s2 h2=>?_) hs;obtain⟨it,fp,tn,J,H2,e,I2,T,st2,f2,W,⟨m0,w0⟩,turn⟩:=h2;subst e;have stat:∀{H':Hp},(∀b∈fp,H' b=none)->∀b∈fp,jhp X pins H' b:=fun hn b hb=>⟨hn b hb,(f2 b hb).2⟩;refine codeAny_forLoop_any (fun n s'=>∃i σ' H',Inv X pins σ' H' s'/\tn i s'.heap/\(∀b∈fp,H' b=none)/\W i n σ' H') ?_ m0 ⟨0,σ,H2,I2,st2,fun b hb=>(f2 b hb).1,w0⟩;rintro n s3 ⟨i,σ3,H3,I3,st3,fr3,w3⟩;rcases turn i n σ3 H3 w3 with ⟨stop,qn⟩ | ⟨go,N,hN,step⟩
 ·refine wpAny_passesOwn hp (thn (T.done X rfl rfl rfl hc i pins s3 σ3 H3 X.xe I3 (stat fr3) st3 stop) fun r s4 ⟨hr,I4⟩=>?_);subst hr;exact wpAny_execs_nil ⟨σ3,H3,I4,qn⟩
 ·refine wpAny_passesOwn hp (thn (T.item X rfl rfl rfl hc i pins s3 σ3 H3 X.xe I3 (stat fr3) st3 go) fun r s4 ⟨u,hr,h4⟩=>?_);subst hr;refine wpAny_passesOwn hp (thn h4 fun _ s5 ⟨x,H5,I5,r5,y5,st5,fr5⟩=>?_);have I5':=I5.pinned (stat fr5) (T.obj _ _ st5);refine wpAny_passesOwn hp (thn (hg _ s5 σ3 H5 x u _ I5' r5 (step x H5 y5)) fun _ s6 ⟨σ6,H6,I6,q6⟩=>?_);refine wpAny_passesOwn hp (thn (hb _ s6 σ6 H6 _ I6 q6) fun f s7 q7=>?_);have again:∀{σ7:St} {H7:Hp},Inv X (pins++jgS fp s5.heap) σ7 H7 s7->N σ7 H7->∃m,m<n/\∃i σ' H',Inv X pins σ' H' s7/\tn i s7.heap/\(∀b∈fp,H' b=none)/\W i m σ' H':=fun {σ7 H7} I7 n7=>by
   obtain⟨m',hm,w7⟩:=hN σ7 H7 n7;refine⟨m',hm,i+1,σ7,H7,I7.unpinned,T.keep _ _ _ st5 fun b hb o e=>(I7.pin (b,o) (xaX _ (xaX _ (jdq hb e)))).1,fun b hb=>?_,w7⟩;obtain⟨o,e,d⟩:=T.obj _ _ st5 b hb;exact (I7.pin (b,o) (xaX _ (xaX _ (jdq hb e)))).2.1
  cases f with
  | next=>obtain⟨σ7,H7,I7,n7⟩:=q7;exact again I7 n7
  | cont=>obtain⟨σ7,H7,I7,n7⟩:=q7;exact again I7 n7
  | brk=>obtain⟨σ7,H7,I7,q7⟩:=q7;exact⟨σ7,H7,I7.unpinned,q7⟩
  | ret v=>obtain⟨x7,σ7,H7,I7,r7,q7⟩:=q7;exact⟨x7,σ7,H7,I7.unpinned,r7,q7⟩
end
theorem jcr {K:PySem.W.Frag} {a:Addr} {xs:List V} {g:TG} {tb:TS} {D:Ends} {σ:St} {H:Hp} (Pv:Nat->St->Hp->Prop) (h0:Pv 0 σ H) (hl:∀i σ H,i<=xs.length->Pv i σ H->SqL K H a xs)
    (hs:∀i x σ H,xs[i]?=some x->Pv i σ H->g x σ H fun σ2 H2=>tb { D with nx:=Pv (i+1),ct:=Pv (i+1),bk:=D.nx } σ2 H2) (hd:∀σ H,Pv xs.length σ H->D.nx σ H) :
    ∃ W : Nat -> Nat -> St -> Hp -> Prop, (∃ m, W 0 m σ H) /\ ∀ i m σ H, W i m σ H ->
      ((Itl K a).stop i H/\D.nx σ H)\/((Itl K a).go i H/\∃N:St->Hp->Prop,(∀σ' H',N σ' H'->∃m',m'<m/\W (i+1) m' σ' H')/\∀x H',(Itl K a).yld i H x H'->g x σ H' fun σ2 H2=>tb { D with nx:=N,ct:=N,bk:=D.nx } σ2 H2):=by
  refine⟨fun i m σ H=>m=xs.length-i/\i<=xs.length/\Pv i σ H,⟨xs.length,by simp,xa6 _,h0⟩,?_⟩;rintro i m σ H ⟨rfl,hi,p⟩;have q:=hl i σ H hi p;by_cases hlt:i<xs.length
  . refine .inr ⟨⟨xs,xs[i],q,by simp [hlt]⟩,Pv (i+1),fun σ' H' p'=>⟨xs.length-(i+1),by omega,rfl,hlt,p'⟩,fun x H' y=>?_⟩
    obtain⟨e,y⟩:=y;subst e;exact hs i x σ _ (y xs q) p
  . have e:i=xs.length:=by omega
    subst e;exact .inl ⟨⟨xs,q,xam _⟩,hd σ H p⟩
theorem jcS {K:PySem.W.Frag} {a:Addr} {xs:List V} {g:TG} {tb:TS} {D:Ends} {σ:St} {H:Hp} (Pv:Nat->St->Hp->Prop) (h0:Pv 0 σ H) (hl:∀i σ H,i<=xs.length->Pv i σ H->SqT K H a xs)
    (hs:∀i x σ H,xs[i]?=some x->Pv i σ H->g x σ H fun σ2 H2=>tb { D with nx:=Pv (i+1),ct:=Pv (i+1),bk:=D.nx } σ2 H2) (hd:∀σ H,Pv xs.length σ H->D.nx σ H) :
    ∃ W : Nat -> Nat -> St -> Hp -> Prop, (∃ m, W 0 m σ H) /\ ∀ i m σ H, W i m σ H ->
      ((Itt K a).stop i H/\D.nx σ H)\/((Itt K a).go i H/\∃N:St->Hp->Prop,(∀σ' H',N σ' H'->∃m',m'<m/\W (i+1) m' σ' H')/\∀x H',(Itt K a).yld i H x H'->g x σ H' fun σ2 H2=>tb { D with nx:=N,ct:=N,bk:=D.nx } σ2 H2):=by
  refine⟨fun i m σ H=>m=xs.length-i/\i<=xs.length/\Pv i σ H,⟨xs.length,by simp,xa6 _,h0⟩,?_⟩;rintro i m σ H ⟨rfl,hi,p⟩;have q:=hl i σ H hi p;by_cases hlt:i<xs.length
  . refine .inr ⟨⟨xs,xs[i],q,by simp [hlt]⟩,Pv (i+1),fun σ' H' p'=>⟨xs.length-(i+1),by omega,rfl,hlt,p'⟩,fun x H' y=>?_⟩
    obtain⟨e,y⟩:=y;subst e;exact hs i x σ _ (y xs q) p
  . have e:i=xs.length:=by omega
    subst e;exact .inl ⟨⟨xs,q,xam _⟩,hd σ H p⟩
theorem jbA {lo:Int} {n:Nat} {g:TG} {tb:TS} {D:Ends} {σ:St} {H:Hp} (Pv:Nat->St->Hp->Prop) (h0:Pv 0 σ H)
    (hs:∀i σ H,i<n->Pv i σ H->g (.int (lo+i)) σ H fun σ2 H2=>tb { D with nx:=Pv (i+1),ct:=Pv (i+1),bk:=D.nx } σ2 H2) (hd:∀σ H,Pv n σ H->D.nx σ H) :
    ∃ W : Nat -> Nat -> St -> Hp -> Prop, (∃ m, W 0 m σ H) /\ ∀ i m σ H, W i m σ H ->
      ((Itr lo n).stop i H/\D.nx σ H)\/((Itr lo n).go i H/\∃N:St->Hp->Prop,(∀σ' H',N σ' H'->∃m',m'<m/\W (i+1) m' σ' H')/\∀x H',(Itr lo n).yld i H x H'->g x σ H' fun σ2 H2=>tb { D with nx:=N,ct:=N,bk:=D.nx } σ2 H2):=by
  refine⟨fun i m σ H=>m=n-i/\i<=n/\Pv i σ H,⟨n,by simp,xa6 _,h0⟩,?_⟩;rintro i m σ H ⟨rfl,hi,p⟩;by_cases hlt:i<n
  . refine .inr ⟨hlt,Pv (i+1),fun σ' H' p'=>⟨n-(i+1),by omega,rfl,hlt,p'⟩,fun x H' y=>?_⟩
    obtain⟨e,y⟩:=y;subst e y;exact hs i σ _ hlt p
  . have e:i=n:=by omega
    subst e;exact .inl ⟨xam _,hd σ H p⟩
abbrev R2:=V->V->Hp->VK->Prop
def OpR (X:Cx) (f:Value->Value->Sem Value) (r:R2):Prop :=
  ∀ (pins : List (Addr × Obj)) (s : Shared) (σ : St) (H : Hp) (x y : V) (v u : Value) (Q : VK), Inv X pins σ H s -> RelV x v -> RelV y u -> r x y H Q ->
    wpAny (model X.prog X.w) X.A (f v u) (EP X pins σ Q) X.xe s
def UnR (X:Cx) (f:Value->Sem Value) (r:V->Hp->VK->Prop):Prop :=
  ∀ (pins : List (Addr × Obj)) (s : Shared) (σ : St) (H : Hp) (x : V) (v : Value) (Q : VK), Inv X pins σ H s -> RelV x v -> r x H Q ->
    wpAny (model X.prog X.w) X.A (f v) (EP X pins σ Q) X.xe s
def CallR (X:Cx) (f:Value) (r:List V->Hp->VK->Prop):Prop :=
  ∀ (pins : List (Addr × Obj)) (s : Shared) (σ : St) (H : Hp) (xs : List V) (us : List Value) (Q : VK), Inv X pins σ H s -> Vals xs us -> r xs H Q ->
    wpAny (model X.prog X.w) X.A (call f us) (EP X pins σ Q) X.xe s
def tOp (r:R2) (ta tb:TE):TE:=fun σ H Q=>ta σ H fun x H1=>tb σ H1 fun y H2=>r x y H2 Q
def tUn (r:V->Hp->VK->Prop) (ta:TE):TE:=fun σ H Q=>ta σ H fun x H1=>r x H1 Q
def rI (C:Int->Int->Prop) (g:Int->Int->V):R2:=fun x y H Q=>∃i j,x=.int i/\y=.int j/\C i j/\Q (g i j) H
def rI0 (g:Int->Int->V):R2:=fun x y H Q=>∃i j,x=.int i/\y=.int j/\Q (g i j) H
def rU (g:Int->V):V->Hp->VK->Prop:=fun x H Q=>∃i,x=.int i/\Q (g i) H
section
variable {X:Cx} {a b c:Expr} {ta tb tc:TE} {pos:Pos}
theorem binT (ha:PE X a ta) (hb:PE X b tb) {pins:List (Addr × Obj)} {s:Shared} {σ:St} {H:Hp} {R:V->V->Hp->Prop} (I:Inv X pins σ H s)
  (h:ta σ H fun x H1=>tb σ H1 fun y H2=>R x y H2) {Q:Value->Shared->Prop} {f:Value->Value->Sem Value}
  (hf:∀v u s2 x y H2,Inv X pins σ H2 s2->RelV x v->RelV y u->R x y H2->wpAny (model X.prog X.w) X.A (f v u) Q X.xe s2) :
  wpAny (model X.prog X.w) X.A (eval a X.env) (fun v s₁=>wpAny (model X.prog X.w) X.A (eval b X.env) (fun u s₂=>wpAny (model X.prog X.w) X.A (f v u) Q X.xe s₂) X.xe s₁) X.xe s:=by
 refine thn (ha pins s σ H _ I h) fun v s1 ⟨x,H1,I1,r1,q1⟩=>?_;refine thn (hb pins s1 σ H1 _ I1 q1) fun u s2 ⟨y,H2,I2,r2,q2⟩=>?_;exact hf v u s2 x y H2 I2 r1 r2 q2
theorem jap {op:Operator} {r:R2} (ho:OpR X (binaryOp op) r) (ha:PE X a ta) (hb:PE X b tb):PE X (.BinOp a op b pos) (tOp r ta tb):=by
 intro pins s σ H Q I h;exact wpAny_BinOp (binT ha hb I h fun v u s2 x y H2 I2 rx ry q=>ho pins s2 σ H2 x y v u Q I2 rx ry q)
theorem jdV {op:UnaryOp} {r:V->Hp->VK->Prop} (ho:UnR X (unaryOp op) r) (ha:PE X a ta):PE X (.UnaryOp op a pos) (tUn r ta):=by
 intro pins s σ H Q I h;exact UnaryOp_ (thn (ha pins s σ H _ I h) fun v s1 ⟨x,H1,I1,r1,q1⟩=>ho pins s1 σ H1 x v Q I1 r1 q1)
theorem opI {f:Value->Value->Sem Value} {C:Int->Int->Prop} {g:Int->Int->Int}
  (rule:∀(i j:Int) (t u:Tok) (s:Shared) (Q:Value->Shared->Prop) (E:Value->Shared->Prop),C i j->Q (.int (g i j) s.toks) { s with toks:=s.toks+1 }->wpAny (model X.prog X.w) X.A (f (.int i t) (.int j u)) Q E s) :
  OpR X f (rI C fun i j=>.int (g i j)):=by
 intro pins s σ H x y v u Q I rx ry h;obtain⟨i,j,rfl,rfl,hc,q⟩:=h;obtain⟨t,rfl⟩:=rx;obtain⟨t',rfl⟩:=ry;exact rule i j t t' s _ _ hc ⟨.int (g i j),H,I.tok _,⟨_,rfl⟩,q⟩
theorem opI0 {f:Value->Value->Sem Value} {g:Int->Int->Int}
  (rule:∀(i j:Int) (t u:Tok) (s:Shared) (Q:Value->Shared->Prop) (E:Value->Shared->Prop),Q (.int (g i j) s.toks) { s with toks:=s.toks+1 }->wpAny (model X.prog X.w) X.A (f (.int i t) (.int j u)) Q E s) :
  OpR X f (rI0 fun i j=>.int (g i j)):=by
 intro pins s σ H x y v u Q I rx ry h;obtain⟨i,j,rfl,rfl,q⟩:=h;obtain⟨t,rfl⟩:=rx;obtain⟨t',rfl⟩:=ry;exact rule i j t t' s _ _ ⟨.int (g i j),H,I.tok _,⟨_,rfl⟩,q⟩
theorem opB0 {f:Value->Value->Sem Value} {g:Int->Int->Bool}
  (rule:∀(i j:Int) (t u:Tok) (s:Shared) (Q:Value->Shared->Prop) (E:Value->Shared->Prop),Q (.bool (g i j)) s->wpAny (model X.prog X.w) X.A (f (.int i t) (.int j u)) Q E s) :
  OpR X f (rI0 fun i j=>.bl (g i j)):=by
 intro pins s σ H x y v u Q I rx ry h;obtain⟨i,j,rfl,rfl,q⟩:=h;obtain⟨t,rfl⟩:=rx;obtain⟨t',rfl⟩:=ry;exact rule i j t t' s _ _ ⟨.bl (g i j),H,I,rfl,q⟩
def CPow (i j:Int):Prop:=0<=j/\j<=1000000/\i.natAbs<2^64
def CMul (i j:Int):Prop:=(-(2^64)<i/\i<2^64)\/(-(2^64)<j/\j<2^64)
theorem CMul.ok {i j:Int} (h:CMul i j):IntMulOk i j:=by
 rcases h with ⟨h1,h2⟩ | ⟨h1,h2⟩
 ·exact .of_left (intBits_le_64 h1 h2)
 ·exact .of_right (intBits_le_64 h1 h2)
theorem two_pow_nn (k:Nat):(0:Int)<=2^k:=by
 rw[two_pow_cast];exact Int.natCast_nonneg _
theorem jaP:OpR X (binaryOp .Add) (rI0 fun i j=>.int (i+j)):=opI0 fun _ _ _ _ _ _ _ q=>add_int q
theorem jaW:OpR X (binaryOp .Sub) (rI0 fun i j=>.int (i-j)):=opI0 fun _ _ _ _ _ _ _ q=>sub_int q
theorem jlH:OpR X (binaryOp .Mult) (rI CMul fun i j=>.int (i*j)):=opI fun _ _ _ _ _ _ _ hc q=>mul_int q hc.ok
theorem jdt:OpR X (binaryOp .Mod) (rI (fun _ j=>0<j) fun i j=>.int (i % j)):=opI fun i j _ _ _ _ _ hc q=>by
 have h1:(0:Int)<j:=hc;exact mod_int' (by omega) (by rw[Int.fmod_eq_emod_of_nonneg i (by omega)];exact q)
theorem jmP:OpR X (binaryOp .Mod) (rI (fun _ j=>j≠0) fun i j=>.int (i.fmod j)):=opI fun _ _ _ _ _ _ _ hc q=>mod_int' hc q
theorem jlI:OpR X (binaryOp .Pow) (rI CPow fun i j=>.int (i^j.toNat)):=opI fun _ _ _ _ _ _ _ hc q=>pow_int_small hc.1 hc.2.1 hc.2.2 q
theorem jlJ:OpR X (binaryOp .RShift) (rI (fun _ j=>0<=j) fun i j=>.int (i / 2^j.toNat)):=opI fun i j _ _ _ _ _ hc q =>
 rshift_int hc (by rw[xbR i (two_pow_nn _)];exact q)
theorem unI {f:Value->Sem Value} {g:Int->Int}
  (rule:∀(i:Int) (t:Tok) (s:Shared) (Q:Value->Shared->Prop) (E:Value->Shared->Prop),Q (.int (g i) s.toks) { s with toks:=s.toks+1 }->wpAny (model X.prog X.w) X.A (f (.int i t)) Q E s) :
  UnR X f (rU fun i=>.int (g i)):=by
 intro pins s σ H x v Q I rx h;obtain⟨i,rfl,q⟩:=h;obtain⟨t,rfl⟩:=rx;exact rule i t s _ _ ⟨.int (g i),H,I.tok _,⟨_,rfl⟩,q⟩
theorem jca:UnR X (unaryOp .USub) (rU fun i=>.int (-i)):=unI fun _ _ _ _ _ q=>neg_int q
end
def joi:V->V->Bool
 | .non,.non=>true | .non,.int _=>true | .int _,.non=>true | .non,.bl _=>true | .bl _,.non=>true | .non,.str _=>true | .str _,.non=>true
 | .int _,.int _=>true | .bl _,.bl _=>true | .str _,.str _=>true | .byt _,.byt _=>true
 | .int _,.str _=>true | .str _,.int _=>true | .bl _,.str _=>true | .str _,.bl _=>true
 | _,_=>false
def rEq:R2:=fun x y H Q=>joi x y=true/\Q (.bl (decide (x=y))) H
def rNe:R2:=fun x y H Q=>joi x y=true/\Q (.bl (!decide (x=y))) H
theorem ji1 {i j:Int}:decide (V.int i=V.int j)=(i==j):=by
 rw[xb3];simp
theorem jlK {i j:Bool}:decide (V.bl i=V.bl j)=(i==j):=by
 rw[xb3];simp
theorem ji2 {i j:Str}:decide (V.str i=V.str j)=(i==j):=by
 rw[xb3];simp
theorem ji3 {i j:Array UInt8}:decide (V.byt i=V.byt j)=(i.toList==j.toList):=by
 rw[xb3];cases i;cases j;simp
section
variable {X:Cx} {a b c:Expr} {ta tb tc:TE} {pos:Pos}
theorem jaR {pins:List (Addr × Obj)} {σ:St} {H:Hp} {s:Shared} {Q:VK} {k k':Bool} (I:Inv X pins σ H s) (q:Q (.bl k) H) (e:k=k'):EP X pins σ Q (.bool k') s:=by
 subst e;exact⟨.bl k,H,I,rfl,q⟩
theorem jcm:OpR X (compareOp .Eq) rEq:=by
  intro pins s σ H x y v u Q I rx ry h;obtain⟨hs,q⟩:=h;cases x with
  | non =>
    cases rx;cases y with
    | non=>cases ry;exact PySem.EqNone.eq_none_none (jaR I q (by simp))
    | bl j=>cases ry;exact PySem.EqNone.eq_none_bool (jaR I q (by simp))
    | int j=>obtain⟨t',rfl⟩:=ry;exact PySem.EqNone.eq_none_int (jaR I q (by simp))
    | str j=>obtain⟨t',rfl⟩:=ry;exact PySem.EqNone.eq_none_str (jaR I q (by simp))
    | _=>exact absurd (show false=true from hs) xaC
  | bl i =>
    cases rx;cases y with
    | non=>cases ry;exact PySem.EqNone.eq_bool_none (jaR I q (by simp))
    | bl j=>cases ry;exact eq_bool (jaR I q jlK)
    | str j=>obtain⟨t',rfl⟩:=ry;exact PySem.EqMixed.eq_bool_str (jaR I q (by simp))
    | _=>exact absurd (show false=true from hs) xaC
  | int i =>
    obtain⟨t,rfl⟩:=rx;cases y with
    | non=>cases ry;exact PySem.EqNone.eq_int_none (jaR I q (by simp))
    | int j=>obtain⟨t',rfl⟩:=ry;exact eq_int (jaR I q ji1)
    | str j=>obtain⟨t',rfl⟩:=ry;exact PySem.EqMixed.eq_int_str (jaR I q (by simp))
    | _=>exact absurd (show false=true from hs) xaC
  | str i =>
    obtain⟨t,rfl⟩:=rx;cases y with
    | non=>cases ry;exact PySem.EqNone.eq_str_none (jaR I q (by simp))
    | bl j=>cases ry;exact PySem.EqMixed.eq_str_bool (jaR I q (by simp))
    | int j=>obtain⟨t',rfl⟩:=ry;exact PySem.EqMixed.eq_str_int (jaR I q (by simp))
    | str j=>obtain⟨t',rfl⟩:=ry;exact eq_str (jaR I q ji2)
    | _=>exact absurd (show false=true from hs) xaC
  | byt i =>
    obtain⟨t,rfl⟩:=rx;cases y with
    | byt j=>obtain⟨t',rfl⟩:=ry;exact PySem.W.eq_bytes (jaR I q ji3)
    | _=>exact absurd (show false=true from hs) xaC
  | _=>cases y<;>exact absurd (show false=true from hs) xaC
theorem jcT:OpR X (compareOp .NotEq) rNe:=by
  intro pins s σ H x y v u Q I rx ry h;obtain⟨hs,q⟩:=h;cases x with
  | non =>
    cases rx;cases y with
    | non=>cases ry;exact PySem.EqNone.ne_none_none (jaR I q (by simp))
    | bl j=>cases ry;exact PySem.EqNone.ne_none_bool (jaR I q (by simp))
    | int j=>obtain⟨t',rfl⟩:=ry;exact PySem.EqNone.ne_none_int (jaR I q (by simp))
    | str j=>obtain⟨t',rfl⟩:=ry;exact PySem.EqNone.ne_none_str (jaR I q (by simp))
    | _=>exact absurd (show false=true from hs) xaC
  | bl i =>
    cases rx;cases y with
    | non=>cases ry;exact PySem.EqNone.ne_bool_none (jaR I q (by simp))
    | bl j=>cases ry;exact ne_bool (jaR I q (congrArg not jlK))
    | str j=>obtain⟨t',rfl⟩:=ry;exact PySem.EqMixed.ne_bool_str (jaR I q (by simp))
    | _=>exact absurd (show false=true from hs) xaC
  | int i =>
    obtain⟨t,rfl⟩:=rx;cases y with
    | non=>cases ry;exact PySem.EqNone.ne_int_none (jaR I q (by simp))
    | int j=>obtain⟨t',rfl⟩:=ry;exact ne_int (jaR I q (congrArg not ji1))
    | str j=>obtain⟨t',rfl⟩:=ry;exact PySem.EqMixed.ne_int_str (jaR I q (by simp))
    | _=>exact absurd (show false=true from hs) xaC
  | str i =>
    obtain⟨t,rfl⟩:=rx;cases y with
    | non=>cases ry;exact PySem.EqNone.ne_str_none (jaR I q (by simp))
    | bl j=>cases ry;exact PySem.EqMixed.ne_str_bool (jaR I q (by simp))
    | int j=>obtain⟨t',rfl⟩:=ry;exact PySem.EqMixed.ne_str_int (jaR I q (by simp))
    | str j=>obtain⟨t',rfl⟩:=ry;exact ne_str (jaR I q (congrArg not ji2))
    | _=>exact absurd (show false=true from hs) xaC
  | byt i =>
    obtain⟨t,rfl⟩:=rx;cases y with
    | byt j=>obtain⟨t',rfl⟩:=ry;exact PySem.W.ne_bytes (jaR I q (congrArg not ji3))
    | _=>exact absurd (show false=true from hs) xaC
  | _=>cases y<;>exact absurd (show false=true from hs) xaC
theorem jdW:OpR X (compareOp .Lt) (rI0 fun i j=>.bl (decide (i<j))):=opB0 fun _ _ _ _ _ _ _ q=>lt_int q
theorem jkM:OpR X (compareOp .LtE) (rI0 fun i j=>.bl (decide (i<=j))):=opB0 fun _ _ _ _ _ _ _ q=>le_int q
theorem jhu:OpR X (compareOp .Gt) (rI0 fun i j=>.bl (decide (j<i))):=opB0 fun _ _ _ _ _ _ _ q=>gt_int q
theorem jmQ:OpR X (compareOp .GtE) (rI0 fun i j=>.bl (decide (j<=i))):=opB0 fun _ _ _ _ _ _ _ q=>ge_int q
theorem jlL:OpR X (compareOp .Is) (fun x y H Q=>y=.non/\Q (.bl (decide (x=.non))) H):=by
 intro pins s σ H x y v u Q I rx ry h;obtain⟨rfl,q⟩:=h;cases ry;refine is_none_gen (jaR I q ?_);cases x<;>first
  | (cases rx;rfl)
  | (obtain⟨t,rfl⟩:=rx;rfl)
theorem ji4:OpR X (compareOp .IsNot) (fun x y H Q=>y=.non/\Q (.bl (!decide (x=.non))) H):=by
 intro pins s σ H x y v u Q I rx ry h;obtain⟨rfl,q⟩:=h;cases ry;refine isnot_none_gen (jaR I q ?_);cases x<;>first
  | (cases rx;rfl)
  | (obtain⟨t,rfl⟩:=rx;rfl)
theorem OpR.or {f:Value->Value->Sem Value} {r r':R2} (h:OpR X f r) (h':OpR X f r'):OpR X f (fun x y H Q=>r x y H Q\/r' x y H Q):=by
 intro pins s σ H x y v u Q I rx ry q;rcases q with q | q
 ·exact h pins s σ H x y v u Q I rx ry q
 ·exact h' pins s σ H x y v u Q I rx ry q
theorem jaw (b:Expr) {op:CmpOp} (h:op≠.In:=by decide) (h2:op≠.NotIn:=by decide):behindInMarks op b=false:=by
 have e1:(op==CmpOp.In)=false:=by cases op<;>first | rfl | exact absurd rfl h
 have e2:(op==CmpOp.NotIn)=false:=by cases op<;>first | rfl | exact absurd rfl h2
 cases b<;>simp [behindInMarks,e1,e2]
theorem jbp {op:CmpOp} {r:R2} (ho:OpR X (compareOp op) r) (ha:PE X a ta) (hb:PE X b tb) (hm:behindInMarks op b=false):PE X (.Compare a [op] [b] pos) (tOp r ta tb):=by
 intro pins s σ H Q I h;exact wpAny_Compare1 (binT ha hb I h fun v u s2 x y H2 I2 rx ry q=>ho pins s2 σ H2 x y v u Q I2 rx ry q) hm
def jhv (t:TE):TT:=fun σ H Q=>t σ H fun x H'=>∃k,x=.bl k/\Q k H'
theorem jat {op:CmpOp} {r:R2} (ho:OpR X (compareOp op) r) (ha:PE X a ta) (hb:PE X b tb) (hm:behindInMarks op b=false):PT X (.Compare a [op] [b] pos) (jhv (tOp r ta tb)):=by
 intro pins s σ H Q I h;refine wpAny_isTrue_Compare1 (thn (ha pins s σ H _ I h) fun v s1 ⟨x,H1,I1,r1,q1⟩=>thn (hb pins s1 σ H1 _ I1 q1) fun u s2 ⟨y,H2,I2,r2,q2⟩ =>
  thn (ho pins s2 σ H2 x y v u _ I2 r1 r2 q2) fun c s3 ⟨z,H3,I3,r3,k,e,q3⟩=>?_) hm
 subst e;cases r3;exact wpAny_truthy_bool ⟨H3,I3,q3⟩
def jlM (r r':R2) (ta tb tc:TE):TE:=fun σ H Q=>ta σ H fun x H1=>tb σ H1 fun y H2=>r x y H2 fun z H3=>∃k,z=.bl k /\
 (if k=true then tc σ H3 fun w' H4=>r' y w' H4 Q else Q (.bl false) H3)
theorem jh1:(sizeLine:Nat)<2^63:=by rw[sizeLine_eq];decide
theorem jeX {x:V} {us:List Value} (r:Vals [x] us):∃u,us=[u]/\RelV x u:=by
 cases r with
 | cons r1 r2=>cases r2;exact⟨_,rfl,r1⟩
theorem jmR {x y:V} {us:List Value} (r:Vals [x,y] us):∃u w',us=[u,w']/\RelV x u/\RelV y w':=by
  cases r with
  | cons r1 r2 =>
    cases r2 with
    | cons r3 r4=>cases r4;exact⟨_,_,rfl,r1,r3⟩
theorem jdX:CallR X (.builtin "abs") (fun xs H Q=>∃i,xs=[.int i]/\Q (.int (if i<0 then -i else i)) H):=by
 intro pins s σ H xs us Q I r h;obtain⟨i,rfl,q⟩:=h;obtain⟨u,rfl,t,rfl⟩:=jeX r;exact call_abs_int fun u tk=>⟨.int (if i<0 then -i else i),H,I.tok _,⟨_,rfl⟩,q⟩
theorem jdY (hc:X.calm=true):CallR X (.builtin "max") (fun xs H Q=>∃i j,xs=[.int i,.int j]/\Q (.int (if j>i then j else i)) H):=by
 intro pins s σ H xs us Q I r h;obtain⟨i,j,rfl,q⟩:=h;obtain⟨u,w',rfl,⟨t,rfl⟩,⟨t',rfl⟩⟩:=jmR r;refine max_two_ints (I.ok.hd hc) fun h' tk k=>⟨_,H,I.kept k,?_,q⟩;by_cases hj:j>i
 ·rw[if_pos hj,if_pos hj];exact⟨_,rfl⟩
 ·rw[if_neg hj,if_neg hj];exact⟨_,rfl⟩
theorem jfd (hc:X.calm=true):CallR X (.builtin "min") (fun xs H Q=>∃i j,xs=[.int i,.int j]/\Q (.int (if j<i then j else i)) H):=by
 intro pins s σ H xs us Q I r h;obtain⟨i,j,rfl,q⟩:=h;obtain⟨u,w',rfl,⟨t,rfl⟩,⟨t',rfl⟩⟩:=jmR r;refine min_two_ints (I.ok.hd hc) fun h' tk k=>⟨_,H,I.kept k,?_,q⟩;by_cases hj:j<i
 ·rw[if_pos hj,if_pos hj];exact⟨_,rfl⟩
 ·rw[if_neg hj,if_neg hj];exact⟨_,rfl⟩
theorem jgT:CallR X (.type "int") (fun xs H Q=>(∃i,xs=[.int i]/\Q (.int i) H)\/∃k,xs=[.bl k]/\Q (.int (if k then 1 else 0)) H):=by
 intro pins s σ H xs us Q I r h;rcases h with ⟨i,rfl,q⟩ | ⟨k,rfl,q⟩
 ·obtain⟨u,rfl,t,rfl⟩:=jeX r;exact call_int_int ⟨.int i,H,I,⟨_,rfl⟩,q⟩
 ·obtain⟨u,rfl,r1⟩:=jeX r;cases r1;exact call_int_bool ⟨.int (if k then 1 else 0),H,I.tok _,⟨_,rfl⟩,q⟩
end
structure ObjM (h:Heap) (x dx C:Addr) (mA:Str->Option Value):Prop where
 obj:h.get? x=some (PySem.W.instObj C dx)
 ns:h.Ns1 dx mA
 ne:dx≠x
theorem ji5 {h:Heap} {dx:Addr} {mA:Str->Option Value} (n:h.Ns1 dx mA):∃od,h.get? dx=some od/\∀name,PySem.W.lookIn name od=some (mA name):=by
 obtain⟨o,es,ep,ho,hd,hk,_,hm⟩:=n;refine⟨o,ho,fun name=>?_⟩;have e:=hm name;unfold nsFind findBy at e;rw[<- Array.find?_toList] at e;unfold PySem.W.lookIn;rw[hd];dsimp only;split
 ·rename_i y q
  rw[q] at e;exact congrArg some e
 ·rename_i q
  rw[q] at e;have a:es.toList.any (·.refKey)=false:=by
   rw[List.any_eq_false];intro y hy;obtain⟨z,t,hkey⟩:=hk y (Array.mem_toList_iff.mp hy);simp [DictEntry.refKey,hkey]
  have a':¬es.toList.any (·.refKey)=true:=by rw[a];exact xaC
  rw[if_neg a'];exact congrArg some e
theorem ObjM.look {h:Heap} {x dx C:Addr} {mA:Str->Option Value} (I:ObjM h x dx C mA):∃od,PySem.W.InstAt h x (PySem.W.instObj C dx) C (some od)/\∀name,PySem.W.lookIn name od=some (mA name) :=
 let ⟨od,ho,hl⟩:=ji5 I.ns
 ⟨od,⟨I.obj,rfl,rfl,ho⟩,hl⟩
section
variable {P:Program} {w:World} {H H':Hp} {h h':Heap} {a C dx:Addr} {fs fs':List (Str × V)}
theorem jmS (hok:HOk P w H h) (e:H a=some (.ins C dx fs)):∃mA,ObjM h a dx C mA/\(∀f,RelO (fs.lookup f) (mA f))/\PySem.Within mA (fs.map (·.1))/\fs.length<=1000/\H dx=some (.own a):=by
 obtain⟨d,z,ne,ob,mA,n,r,q⟩:=(show ObjOk P w H h a (.ins C dx fs) from hok a _ e);exact⟨mA,⟨ob,n,ne⟩,r,q,z,d⟩
end
structure Cls (K:PySem.W.Frag) (C:Addr):Prop where
 pg:PySem.W.plainGet K C Str.empty=true
 hd:PySem.W.hasDictIn K C=true
 po:PySem.W.plainOver K C=true
 sa:PySem.W.findIn K (.ref C) "__setattr__"=some (some (.builtin "object.__setattr__"))
theorem Cls.get {K:PySem.W.Frag} {C:Addr} (c:Cls K C) (f:Str):PySem.W.plainGet K C f=true:=c.pg
section
variable {X:Cx} {pins:List (Addr × Obj)} {σ:St} {H:Hp} {s:Shared} {A:Around} {E:Value->Shared->Prop} {Q:Value->Shared->Prop} {c:Value} {b:Bool}
inductive TyOf (K:PySem.W.Frag) (H:Hp):V->Value->Prop where
 | non:TyOf K H .non (.type "NoneType")
 | bl (x:Bool):TyOf K H (.bl x) (.type "bool")
 | int (i:Int):TyOf K H (.int i) (.type "int")
 | str (x:Str):TyOf K H (.str x) (.type "str")
 | flt (x:UInt64):TyOf K H (.flt x) (.type "float")
 | lst {a:Addr} {xs:List V} (e:H a=some (.lst xs)):TyOf K H (.ref a) (.type "list")
 | frz {a:Addr} {o:Obj} {xs:List V} (e:H a=some (.frz o (.lst xs))):TyOf K H (.ref a) (.type "list")
 | tup {a:Addr} {xs:List V} (e:H a=some (.tup xs)):TyOf K H (.ref a) (.type "tuple")
 | dK {a:Addr} {kvs:List (Key × V)} (e:H a=some (.dK kvs)):TyOf K H (.ref a) (.type "dict")
 | dT {a:Addr} {kvs:List (List Key × V)} (e:H a=some (.dT kvs)):TyOf K H (.ref a) (.type "dict")
 | ins {a C dx:Addr} {fs:List (Str × V)} (e:H a=some (.ins C dx fs)) (cl:Cls K C) (ha:PySem.W.findIn K (.ref C) "__class__"=some (some (.builtin "object.__class__")))
   (hn:PySem.W.specialIn K (.builtin "object.__class__") "__get__"=some (some (.builtin "getset_descriptor.__get__"))) (htk:PySem.W.takesIn K (.builtin "object.__class__")=some true)
   (hm:PySem.W.mroIn K C (.type "object")=some true):TyOf K H (.ref a) (.ref C)
theorem ji6 {x:V} {u t:Value} (I:Inv X pins σ H s) (rx:RelV x u) (ty:TyOf X.K H x t) (e:PySem.W.kitOne X.K t c=some b) (h:∀tk,Q (.bool b) { s with toks:=tk }) :
    wpAny (model X.prog X.w) A (call (.builtin "isinstance") [u,c]) Q E s:=by
  cases ty with
  | non=>cases (show u=Value.none from rx);exact PySem.W.kia_one PySem.W.kitx_none I.kIn True.intro e (fun z=>nomatch z) h
  | bl y=>cases (show u=Value.bool y from rx);exact PySem.W.kia_one PySem.W.kitx_bool I.kIn True.intro e (fun z=>nomatch z) h
  | int i=>obtain⟨t,q⟩:=(show ∃t,u=Value.int i t from rx);cases q;exact PySem.W.kia_one PySem.W.kitx_int I.kIn True.intro e (fun z=>nomatch z) h
  | str y=>obtain⟨t,q⟩:=(show ∃t,u=Value.str y t from rx);cases q;exact PySem.W.kia_one PySem.W.kitx_str I.kIn True.intro e (fun z=>nomatch z) h
  | flt y=>obtain⟨t,q⟩:=(show ∃t,u=Value.float y t from rx);cases q;exact PySem.W.kia_one PySem.W.kitx_float I.kIn True.intro e (fun z=>nomatch z) h
  | @lst a xs ea =>
    cases (show u=Value.ref a from rx);obtain⟨_,_,n,_,h1⟩:=(show ObjOk X.prog X.w H s.heap a (.lst xs) from I.hok a _ ea);exact PySem.W.kia_one PySem.W.kitx_list I.kIn ⟨_,h1,rfl⟩ e (fun z=>nomatch z) h
  | @frz a ob xs ea =>
    cases (show u=Value.ref a from rx);obtain⟨_,_,_,n,_,h1⟩:=(show ObjOk X.prog X.w H s.heap a (.frz ob (.lst xs)) from I.hok a _ ea);exact PySem.W.kia_one PySem.W.kitx_list I.kIn ⟨_,h1,rfl⟩ e (fun z=>nomatch z) h
  | @tup a xs ea =>
    cases (show u=Value.ref a from rx);obtain⟨_,_,_,p⟩:=(show ObjOk X.prog X.w H s.heap a (.tup xs) from I.hok a _ ea);obtain⟨o,h1,h2,_⟩:=p;exact PySem.W.kia_one PySem.W.kitx_tuple I.kIn ⟨o,h1,h2⟩ e (fun z=>nomatch z) h
  | @dK a kvs ea =>
    cases (show u=Value.ref a from rx);obtain⟨_,_,vs,_,p⟩:=(show ObjOk X.prog X.w H s.heap a (.dK kvs) from I.hok a _ ea);obtain⟨o,es,ep,h1,h2,_⟩:=p;exact PySem.W.kia_one PySem.W.kitx_dict I.kIn ⟨o,h1,h2.1⟩ e (fun z=>nomatch z) h
  | @dT a kvs ea =>
    cases (show u=Value.ref a from rx);obtain⟨_,_,xs,_,o,es,ep,h1,h2,_⟩:=(show ObjOk X.prog X.w H s.heap a (.dT kvs) from I.hok a _ ea);exact PySem.W.kia_one PySem.W.kitx_dict I.kIn ⟨o,h1,h2.1⟩ e (fun z=>nomatch z) h
  | @ins a C dx fs ea cl ha hn htk hm =>
    cases (show u=Value.ref a from rx);obtain⟨mA,O,_⟩:=jmS I.hok ea;obtain⟨od,J,_⟩:=O.look;exact PySem.W.kia_one (PySem.W.kitx_own (cl.get _) cl.hd ha hn htk hm) I.kIn J e (fun z=>nomatch z) h
end
structure Room (k:Nat) (A:Around):Prop where
 hd:A.handled=none
 dp:A.depth+3*k+5<recursionLimit
 un:A.units+16*k+200<cLine
theorem Room.mono {j k:Nat} {A:Around} (r:Room k A) (h:j<=k):Room j A:=⟨r.hd,by have:=r.dp;omega,by have:=r.un;omega⟩
theorem Room.m {j k:Nat} {A:Around} (r:Room k A) (h:j≤k:=by decide):Room j A:=r.mono h
theorem Room.deeper {k:Nat} {A:Around} (r:Room (k+1) A) (env:Env):Room k (A.deeper env) :=
 ⟨r.hd,by have:=r.dp;show A.depth+1+3*k+5<_;omega,by have:=r.un;show A.units+3+16*k+200<_;omega⟩
theorem Room.in1 {k:Nat} {A:Around} (r:Room (k+1) A):Room k A.in1 :=
 ⟨r.hd,by have:=r.dp;show A.depth+3*k+5<_;omega,by have:=r.un;show A.units+1+16*k+200<_;omega⟩
theorem Room.depth {k:Nat} {A:Around} (r:Room k A):A.depth<recursionLimit:=by have:=r.dp;omega
theorem Room.units {k:Nat} {A:Around} (r:Room k A):A.units+64<cLine:=by have:=r.un;omega
def jgU:TA:=fun _ H Q=>Q [] H
def jbF (ta:TE) (tr:TA):TA:=fun σ H Q=>ta σ H fun x H1=>tr σ H1 fun xs H2=>Q (x::xs) H2
section
variable {X:Cx} {e:Expr} {es:List Expr} {te:TE} {t:TA} {pos:Pos}
theorem jad:PA X [] jgU:=fun _ _ _ _ H Q I h=>Calls.spliced_nil ⟨[],H,I,.nil,h⟩
theorem jaa (ha:PE X e te) (hr:PA X es t) (hs:starEach (e::es) X.env=(false,eval e X.env)::starEach es X.env:=by rfl):PA X (e::es) (jbF te t):=by
 intro pos pins s σ H Q I h;rw[hs];show wpAny _ _ (spliced ((false,eval e X.env)::backTo pos (starEach es X.env))) _ _ s;refine Calls.spliced_cons (thn (ha pins s σ H _ I h) fun u s1 ⟨x,H1,I1,r1,q1⟩=>?_);exact thn (hr pos pins s1 σ H1 _ I1 q1) fun us s2 ⟨xs,H2,I2,r2,q2⟩=>⟨x::xs,H2,I2,.cons r1 r2,q2⟩
def jmT (t:TA):TE:=fun σ H Q=>t σ H fun xs H1=>xs.length<=sizeLine/\∀p,H1 p=none->Q (.ref p) (upd H1 p (.tup xs))
def jkN (t:TA):TE:=fun σ H Q=>t σ H fun xs H1=>xs.length<=sizeLine/\∀p,H1 p=none->Q (.ref p) (upd H1 p (.lst xs))
theorem ja4 {x1} (h:PA X es t):PE X (.Tuple es x1 pos) (jmT t):=by
 intro pins s σ H Q I hq;refine wpAny_Tuple_spliced (thn (h pos pins s σ H _ I hq) fun us s1 ⟨xs,H1,I1,r,z,q⟩=>⟨by rw[<- r.length];exact z,?_⟩);have hf:H1 s1.heap.objs.size=none:=I1.hok.fresh (xam _);refine⟨.ref s1.heap.objs.size,upd H1 s1.heap.objs.size (.tup xs),I1.laid (t':=s1.toks) (fun b u e=>Heap.get?_push_of_some _ e) (xam _) ?_,rfl,q _ hf⟩;exact⟨z,us,r,⟨_,Heap.get?_push_size _ rfl,rfl,_,rfl⟩⟩
theorem jaU (h:PA X es t):PE X (.List es pos) (jkN t):=by
 intro pins s σ H Q I hq;refine wpAny_List_spliced (thn (h pos pins s σ H _ I hq) fun us s1 ⟨xs,H1,I1,r,z,q⟩=>⟨by rw[<- r.length];exact z,?_⟩);have hf:H1 s1.heap.objs.size=none:=I1.hok.fresh (xam _);refine⟨.ref s1.heap.objs.size,upd H1 s1.heap.objs.size (.lst xs),I1.laid (t':=s1.toks) (fun b u e=>Heap.get?_push_of_some _ e) (xam _) ?_,rfl,q _ hf⟩;exact⟨z,us,0,r,Heap.get?_push_size _ rfl⟩
end
abbrev Sp:=List V->Hp->VK->XK->Prop
abbrev CXT:=List Env->Hp->Shared->XK->Value->Shared->Prop
structure Env0 (P:Program) (w:World) (K:PySem.W.Frag) (mg:Str->Option Value) (base:Heap) (A:Around) (outer:List Env) (s:Shared) (H:Hp):Prop where
 frames:A.frames=some outer
 mod:Mod K mg base
 bs:∀b o,base.get? b=some o->s.heap.get? b=some o/\H b=none
 bsz:base.objs.size<=s.heap.objs.size
 funs:s.heap.FunFrames base outer
 frf:∀b∈frs outer,H b=none
 hok:HOk P w H s.heap
 bare:AllBare s.gens
def CE (outer:List Env) (P:Program) (w:World) (H:Hp) (s:Shared) (Q:VK) (u:Value) (s':Shared):Prop :=
 ∃v H',s'.os=s.os/\AllBare s'.gens/\Un (frs outer) [] H H' s.heap s'.heap/\HOk P w H' s'.heap/\RelV v u/\Q v H'
def CR (CX:CXT) (outer:List Env) (P:Program) (w:World) (H:Hp) (s:Shared) (Q:VK) (E:XK) (r:Result) (s':Shared):Prop :=
 match r with
 | .ok (.ret u)=>CE outer P w H s Q u s'
 | .ok _=>False
 | .error e=>CX outer H s E e s'
structure FnOk (P:Program) (w:World) (K:PySem.W.Frag) (mg:Str->Option Value) (base:Heap) (CX:CXT) (k:Nat) (f:Addr) (fd:FuncData) (ps:List Str) (sp:Sp):Prop where
 len:∀vs H Q E,sp vs H Q E->vs.length=ps.length
 run:∀(A:Around) (outer:List Env) (s:Shared) (H:Hp) (args:Args) (us:List Value) (vs:List V) (Q:VK) (E:XK),Room k A->Env0 P w K mg base A outer s H->BindsTo s fd args (ps.zip us)->Vals vs us->sp vs H Q E ->
  codeAny (model P w) A (.call (.ref f) args) (CR CX outer P w H s Q E) s
theorem FnOk.mono {P:Program} {w:World} {K:PySem.W.Frag} {mg:Str->Option Value} {base:Heap} {CX:CXT} {j k:Nat} {f:Addr} {fd:FuncData} {ps:List Str} {sp:Sp} (F:FnOk P w K mg base CX j f fd ps sp) (h:j<=k) :
  FnOk P w K mg base CX k f fd ps sp:=⟨F.len,fun A outer s H args us vs Q E hr=>F.run A outer s H args us vs Q E (hr.mono h)⟩
theorem Env0.in1 {P:Program} {w:World} {K:PySem.W.Frag} {mg:Str->Option Value} {base:Heap} {A:Around} {outer:List Env} {s:Shared} {H:Hp} (e:Env0 P w K mg base A outer s H) :
  Env0 P w K mg base A.in1 outer s H:=⟨e.frames,e.mod,e.bs,e.bsz,e.funs,e.frf,e.hok,e.bare⟩
section
variable {X:Cx} {pins:List (Addr × Obj)} {σ:St} {H:Hp} {s s':Shared}
theorem Inv.env0 (I:Inv X pins σ H s):Env0 X.prog X.w X.K X.mg X.base X.A X.stack s H :=
 ⟨I.ok.frames,I.ok.mod,I.bs,xa4 I.ok.bsz I.sz,I.stack,I.stkFree,I.hok,I.bare⟩
theorem Inv.after {Q:VK} {u:Value} (I:Inv X pins σ H s) (h:CE X.stack X.prog X.w H s Q u s'):EP X pins σ Q u s':=by
 obtain⟨v,H',os,bare,un,hok,r,q⟩:=h;obtain⟨hh,g,d,t,os'⟩:=s';obtain rfl:os'=s.os:=os;exact⟨v,H',I.call (h':=hh) (g':=g) (d':=d) (t':=t) (ch:=[]) un hok bare (fun b z=>absurd z (by simp)),r,q⟩
end
def jeY (sp:Sp) (dvs:List V) (E:XK) (t:TA):TE:=fun σ H Q=>t σ H fun vs H1=>sp (vs++dvs) H1 Q E
def Binds (K:PySem.W.Frag) (fd:FuncData) (ps:List Str) (ds:List Value):Prop :=
 ∀(s:Shared) (us:List Value),K.In s.heap->(us++ds).length=ps.length->BindsTo s fd ⟨us,[]⟩ (ps.zip (us++ds))
theorem Binds.all {K:PySem.W.Frag} {fd:FuncData} {ps:List Str} (h:∀us:List Value,us.length=ps.length->bindArgs fd ⟨us,[]⟩=pure (ps.zip us)):Binds K fd ps []:=fun s us _ hl=>by
 rw[List.append_nil] at hl |-
 exact .of_eq (h us hl)
def jh2 (CX:CXT) (X:Cx) (E:XK):Prop:=∀(pins:List (Addr × Obj)) (σ:St) (H:Hp) (s:Shared) (e:Value) (s':Shared),Inv X pins σ H s->CX X.stack H s E e s'->X.xe e s'
section
variable {X:Cx} {CX:CXT} {k:Nat} {f C:Addr} {fd:FuncData} {ps:List Str} {sp:Sp} {dvs:List V} {ds:List Value} {E:XK} {x m:Str} {p pos apos:Pos} {e o:Expr} {es:List Expr} {ta:TE} {t:TA}
theorem joA {pins:List (Addr × Obj)} {σ:St} {H:Hp} {s:Shared} {Q:VK} {us:List Value} {vs:List V} (F:FnOk X.prog X.w X.K X.mg X.base CX k f fd ps sp) (hr:Room k X.A) (hb:Binds X.K fd ps ds) (hd:Vals dvs ds) (hx:jh2 CX X E)
    (I:Inv X pins σ H s) (r:Vals vs us) (h:sp (vs++dvs) H Q E):wpAny (model X.prog X.w) X.A (call (.ref f) us) (EP X pins σ Q) X.xe s:=by
  have r2:Vals (vs++dvs) (us++ds):=r.append hd;have hl:(us++ds).length=ps.length:=by rw[<- r2.length];exact F.len _ _ _ _ h
  refine wpAny_call (codeAny_mono (F.run X.A X.stack s H ⟨us,[]⟩ (us++ds) (vs++dvs) Q E hr I.env0 (hb s us I.kIn hl) r2 h) fun r s' hq=>?_);cases r with
  | error e=>exact hx pins σ H s e s' I hq
  | ok fl =>
    cases fl with
    | ret u=>exact I.after hq
    | next=>exact False.elim hq
    | brk=>exact False.elim hq
    | cont=>exact False.elim hq
theorem jmU (F:FnOk X.prog X.w X.K X.mg X.base CX k f fd ps sp) (hr:Room k X.A) (hg:Gl X x) (hm:X.mg x=some (.ref f)) (hk:PySem.W.keepIn X.K (.ref f)=true) (hb:Binds X.K fd ps ds) (hd:Vals dvs ds) (hx:jh2 CX X E)
  (ha:PA X (e::es) t) (hdb:(x==("__debug__":Str))=false:=by decide) (he:starEach (e::es) X.env=(false,eval e X.env)::starEach es X.env:=by rfl) (hpl:(backTo pos (starEach es X.env)).any (·.1)=false:=by rfl) :
  PE X (.Call (.Name x p) (e::es) [] pos) (jeY sp dvs E t):=by
 intro pins s σ H Q I h;refine wpAny_Call_Name_kw (jiS I hg hm ?_ hdb);refine PySem.W.callWith_K (h₀:=X.base) I.ok.mod.kin hk (thn (ha pos pins s σ H _ I h) fun us s1 ⟨vs,H1,I1,r,q⟩=>⟨I1.kIn,?_⟩) he hpl;exact joA F hr hb hd hx I1 r q
structure Mk (K:PySem.W.Frag) (C f:Addr):Prop where
 makes:PySem.W.makesIn K C=true
 init:PySem.W.findIn K (.ref C) "__init__"=some (some (.ref f))
 fn:PySem.W.isFn K (.ref f)=true
 kp:PySem.W.keepIn K (.ref C)=true
end
section
variable {X:Cx} {CX:CXT} {k:Nat} {f C:Addr} {fd:FuncData} {ps ks:List Str} {sp:Sp} {E:XK} {x m:Str} {p pos apos kpos:Pos} {e o:Expr} {es:List Expr} {kws:List Keyword} {te ta:TE} {t tk:TA} {nm:Option Str}
structure KBinds (K:PySem.W.Frag) (fd:FuncData) (ps ks:List Str) (g:List Value->List Value->List Value) (gV:List V->List V->List V):Prop where
 to:∀(s:Shared) (us ws:List Value),K.In s.heap->(g us ws).length=ps.length->BindsTo s fd ⟨us,ks.zip ws⟩ (ps.zip (g us ws))
 rel:∀{vs:List V} {us:List Value} {zs:List V} {ws:List Value},Vals vs us->Vals zs ws->Vals (gV vs zs) (g us ws)
variable {g:List Value->List Value->List Value} {gV:List V->List V->List V}
end
structure FnScope (N P:List Str) (sc:Scope):Prop where
 kind:sc.kind=.function
 co:sc.isCoroutine=false
 gen:sc.isGenerator=false
 nd:N.Nodup
 pre:N.take P.length=P
 par:∀x∈P,sc.names.lookup x=some .local\/sc.names.lookup x=some .cell
 nofree:∀y∈sc.names,y.2≠.free
theorem jgV {kindOf:Str->Option NameKind} {x:Str}:∀{binds:List (Str × Value)} {m:Str->Option Value},(∀v,(x,v)∉binds)->bindL kindOf binds m x=m x
  | [],_,_=>rfl
  | (n, v) :: r, m, h => by
    unfold bindL;rw[jgV fun w hw=>h w (xag _ hw)];split
    . have:x≠n:=by rintro rfl; exact h v xaS
      simp [this]
    . rfl
theorem jgW {kindOf:Str->Option NameKind} {x:Str}:∀{binds:List (Str × Value)} {m:Str->Option Value},(∀v,(x,v)∉binds)->bindC kindOf binds m x=m x
  | [],_,_=>rfl
  | (n, v) :: r, m, h => by
    unfold bindC;rw[jgW fun w hw=>h w (xag _ hw)];split
    . rfl
    . have:x≠n:=by rintro rfl; exact h v xaS
      simp [this]
theorem jgX {kindOf:Str->Option NameKind} {x:Str} {v:Value}:∀{P:List Str} {vs:List Value} {i:Nat} {m:Str->Option Value},P.Nodup->P[i]?=some x->vs[i]?=some v->kindOf x=some .local ->
    bindL kindOf (P.zip vs) m x=some v
  | [],_,_,_,_,h,_,_=>by simp at h
  | _::_,[],_,_,_,_,h,_=>by simp at h
  | p :: P, w :: vs, 0, m, nd, h1, h2, hk => by
    simp at h1 h2;subst h1;subst h2;show bindL kindOf ((p,w)::P.zip vs) m p=_;unfold bindL;rw[jgV fun v hv=>(xci.mp nd).1 (List.of_mem_zip hv).1,if_pos hk];simp
  | p :: P, w :: vs, i + 1, m, nd, h1, h2, hk => by
    show bindL kindOf ((p,w)::P.zip vs) m x=_;unfold bindL;exact jgX (i:=i) (xci.mp nd).2 (by simpa using h1) (by simpa using h2) hk
theorem jgY {kindOf:Str->Option NameKind} {x:Str} {v:Value}:∀{P:List Str} {vs:List Value} {i:Nat} {m:Str->Option Value},P.Nodup->P[i]?=some x->vs[i]?=some v->kindOf x≠some .local ->
    bindC kindOf (P.zip vs) m x=some v
  | [],_,_,_,_,h,_,_=>by simp at h
  | _::_,[],_,_,_,_,h,_=>by simp at h
  | p :: P, w :: vs, 0, m, nd, h1, h2, hk => by
    simp at h1 h2;subst h1;subst h2;show bindC kindOf ((p,w)::P.zip vs) m p=_;unfold bindC;rw[jgW fun v hv=>(xci.mp nd).1 (List.of_mem_zip hv).1,if_neg hk];simp
  | p :: P, w :: vs, i + 1, m, nd, h1, h2, hk => by
    show bindC kindOf ((p,w)::P.zip vs) m x=_;unfold bindC;exact jgY (i:=i) (xci.mp nd).2 (by simpa using h1) (by simpa using h2) hk
def start (N:List Str) (vs:List V):St:=vs.map some++List.replicate (N.length-vs.length) none
def jiN (CX:CXT) (P:Program) (w:World) (K:PySem.W.Frag) (mg:Str->Option Value) (base:Heap) (N:List Str) (qual:Str) (scope:Scope) (f:Addr) (cd:Value) (A:Around) (outer:List Env) (s:Shared) (H:Hp) (E:XK):Cx where
 prog:=P
 w:=w
 K:=K
 mg:=mg
 base:=base
 A:=A.deeper (envOfC qual scope s.heap.objs.size f cd)
 N:=N
 s₀:=s
 H₀:=H
 env:=envOfC qual scope s.heap.objs.size f cd
 outer:=outer
 stack:=envOfC qual scope s.heap.objs.size f cd::outer
 ex:=[]
 calm:=true
 fn:=fun _=>true
 pn:=[]
 xe:=fun e s'=>wpAny (model P w) (A.deeper (envOfC qual scope s.heap.objs.size f cd)) (leaving (envOfC qual scope s.heap.objs.size f cd) e) (fun _ s''=>CX outer H s E e s'') (fun e' s''=>CX outer H s E e' s'') s'
theorem jh3 {sc:Scope} {n:Nat} {x:Str} (h:sc.names.lookup x=some .cell):∃c,(cellsFrom n sc.names []).lookup x=some c:=by
 have q:=PySem.W.cellsFrom_some sc.names n [] (.inl h);exact Option.isSome_iff_exists.mp q
theorem ji7 {CX:CXT} {P:Program} {w:World} {K:PySem.W.Frag} {mg:Str->Option Value} {base:Heap} {N ps:List Str} {qual:Str} {scope:Scope} {f:Addr} {cd:Value} {A:Around} {outer:List Env} {s s1:Shared} {H:Hp} {E:XK} {us:List Value} {vs:List V}
  (S:FnScope N ps scope) (hd:A.handled=none) (e0:Env0 P w K mg base A outer s H) (hl:vs.length=ps.length) (r:Vals vs us)
  (x:InCallC s s.heap.objs.size (bindL (envOfC qual scope s.heap.objs.size f cd).kindOf (ps.zip us) fun _=>none) (cellsFrom (s.heap.objs.size+1) scope.names []) (bindC (envOfC qual scope s.heap.objs.size f cd).kindOf (ps.zip us) fun _=>none) s1) :
  Inv (jiN CX P w K mg base N qual scope f cd A outer s H E) [] (start N vs) H s1:=by
 have hpl:ps.length<=N.length:=by have:=congrArg List.length S.pre;rw[xaT] at this;omega
 obtain⟨h1,tk,rfl,hk⟩:=x.done;have noA:∀b:Addr,b∉(jiN CX P w K mg base N qual scope f cd A outer s H E).ex:=fun b z=>absurd (show b∈([]:List Addr) from z) (by simp);refine⟨⟨e0.mod,S.kind,rfl,rfl,xam _,fun y z c h1 h2=>?_,fun y hy=>?_,fun y c _ h=>?_,fun _=>hd,Around.frames_deeper e0.frames,.inr ⟨rfl,rfl⟩,fun b z=>absurd z (noA b),e0.bs,e0.bsz,fun b _ _=>noA b,fun b z=>absurd z (noA b),e0.funs,e0.frf⟩,
  rfl,e0.bare,Un.kept hk,⟨_,x.toInCall.ns,fun i y v h1 h2 h3=>?_⟩,fun y c h=>⟨_,x.cell y c h⟩,e0.hok.fresh (xam _),fun y c h=>?_,fun p hp=>absurd (show p∈([]:List (Addr × Obj)) from hp) (by simp),e0.hok.kept hk,?_⟩
 ·exact name_of_addr x.apart (PySem.mem_of_lookup h1) (PySem.mem_of_lookup h2)
 ·have hy:scope.names.lookup y=some .cell\/scope.names.lookup y=some .free:=hy;rcases hy with hy | hy
  ·exact jh3 hy
  ·exact absurd rfl (S.nofree _ (PySem.mem_of_lookup hy))
 ·exact xbb (x.above y c (PySem.mem_of_lookup h))
 ·have hi:i<vs.length:=by
   unfold start at h2;by_cases hi:i<vs.length
   ·exact hi
   ·rw[xaP (by simpa using hi)] at h2;rw[List.getElem?_replicate] at h2;split at h2<;>cases h2
  have ha:vs[i]?=some v:=by
   unfold start at h2;rw[xa3 (by simpa using hi),xat] at h2;cases e:vs[i]? with
   | none=>rw[e] at h2;cases h2
   | some a=>rw[e] at h2;cases h2;rfl
  obtain⟨u,hu,rv⟩:=r.get ha;have hp:ps[i]?=some y:=by
   rw[<- S.pre,List.getElem?_take_of_lt (by omega)];exact h1
  have ndP:ps.Nodup:=by rw[<- S.pre];exact S.nd.sublist (List.take_sublist _ _)
  refine⟨u,rv,?_⟩;rcases S.par y (xbi hp) with k | k
  ·exact .inl ⟨k,jgX ndP hp hu k⟩
  ·obtain⟨c,e⟩:=jh3 (n:=s.heap.objs.size+1) k;refine .inr ⟨.inl k,c,e,?_⟩;have q:=x.cell y c e;rw[jgY ndP hp hu (by show scope.names.lookup y≠_;rw[k];decide)] at q;exact q
 ·exact e0.hok.fresh (xbb (x.above y c (PySem.mem_of_lookup h)))
 ·unfold start;show _=N.length;rw[xao,xaa,xbe];omega
theorem fn_of {CX:CXT} {P:Program} {w:World} {K:PySem.W.Frag} {mg:Str->Option Value} {base:Heap} {k:Nat} {f:Addr} {name qual:Str} {params:Arguments} {body:List Stmt} {scope:Scope} {dV kV doc pm cdv ct oc:Value} {an od:Option Addr}
    {osl:Array (Option Value)} {N ps:List Str} {sp:Sp} (lk:K.lookup f=some ⟨oc,od,.func (PySem.W.fnOf name qual params body scope dV kV doc pm an cdv ct),osl⟩) (hcd:PySem.W.codeIn K cdv qual=true) (S:FnScope N ps scope)
    (len:∀vs H Q E,sp vs H Q E->vs.length=ps.length)
    (hbody:∀(A:Around) (outer:List Env) (s:Shared) (H:Hp) (vs:List V) (Q:VK) (E:XK),Room k (A.deeper (envOfC qual scope s.heap.objs.size f cdv))->sp vs H Q E ->
      ∃t,PSs (jiN CX P w K mg base N qual scope f cdv A outer s H E) body t/\t { nx:=fun _ H'=>Q .non H',rt:=Q } (start N vs) H) :
    FnOk P w K mg base CX (k+1) f (PySem.W.fnOf name qual params body scope dV kV doc pm an cdv ct) ps sp:=by
  refine⟨len,fun A outer s H args us vs Q E hr e0 hb r hsp=>?_⟩;have hl:=len _ _ _ _ hsp;have KX:K.In s.heap:=e0.mod.kin.keeps fun b o e=>(e0.bs b o e).1;have lim:s.heap.NoLimit:=e0.mod.nolimit.keeps fun b o e=>(e0.bs b o e).1;have hkind:∀y∈ps.zip us,scope.names.lookup y.1=some .local\/(scope.names.lookup y.1=some .cell/\((cellsFrom (s.heap.objs.size+1) scope.names []).lookup y.1).isSome=true):=fun ⟨n,v⟩ hy=>by
    rcases S.par n (List.of_mem_zip hy).1 with q | q
    . exact .inl q
    . exact .inr ⟨q,PySem.W.cellsFrom_some _ _ _ (.inl q)⟩
  refine codeAny_call_function hr.depth (KX _ _ lk) rfl S.co S.gen rfl (PySem.W.codeRec_of KX hcd) (hb _ _ _ _ ?_);refine wpAny_newFunctionEnv_cells S.kind hkind fun env he s1 x=>?_;subst he;refine⟨lim.keeps x.toInCall.keep,codeAny_func ?_⟩;obtain⟨t,ht,hq⟩:=hbody A outer s H vs Q E (hr.deeper _) hsp;have I:Inv (jiN CX P w K mg base N qual scope f cdv A outer s H E) [] (start N vs) H s1:=ji7 S hr.hd e0 hl r x;refine wpAny_mono (ht [] s1 (start N vs) H _ I hq) (fun fl s' hs=>?_) fun e s' hs=>hs;have fin:∀{σ':St} {H':Hp} {v:V} {u:Value},Inv (jiN CX P w K mg base N qual scope f cdv A outer s H E) [] σ' H' s'->RelV v u->Q v H'->CE outer P w H s Q u s' :=
    fun {σ' H' v u} J rv q=>⟨v,H',J.os,J.bare,J.base,J.hok,rv,q⟩
  cases fl with
  | ret u =>
    obtain⟨v,σ',H',J,rv,q⟩:=hs;exact fin J rv q
  | next =>
    obtain⟨σ',H',J,q⟩:=hs;exact fin (v:=V.non) (u:=Value.none) J rfl q
  | brk =>
    obtain⟨_,_,_,q⟩:=hs;exact False.elim q
  | cont =>
    obtain⟨_,_,_,q⟩:=hs;exact False.elim q
section
variable {X:Cx} {x:Str} {p pos:Pos} {e:Expr} {es:List Expr} {t:TA} {id T:String} {r:List V->Hp->VK->Prop}
def tCB (r:List V->Hp->VK->Prop) (t:TA):TE:=fun σ H Q=>t σ H fun vs H1=>r vs H1 Q
theorem jaz (hc:CallR X (.builtin id) r) (hg:Gl X x) (hm:X.mg x=none) (hv:bootBuiltins x=some (.builtin id)) (ha:PA X (e::es) t) (hn:x≠"__name__":=by decide) (hdb:(x==("__debug__":Str))=false:=by decide)
  (he:starEach (e::es) X.env=(false,eval e X.env)::starEach es X.env:=by rfl) (hpl:(backTo pos (starEach es X.env)).any (·.1)=false:=by rfl):PE X (.Call (.Name x p) (e::es) [] pos) (tCB r t):=by
 intro pins s σ H Q I h;refine wpAny_Call_Name_kw (jeF I hg hm hv ?_ hn hdb);exact PyProof.Rows.callWith_builtin1 (thn (ha pos pins s σ H _ I h) fun us s1 ⟨vs,H1,I1,r1,q1⟩=>hc pins s1 σ H1 vs us Q I1 r1 q1) he hpl
theorem ja8 (hc:CallR X (.type T) r) (hg:Gl X x) (hm:X.mg x=none) (hv:bootBuiltins x=some (.type T)) (ha:PA X (e::es) t) (hn:x≠"__name__":=by decide) (hdb:(x==("__debug__":Str))=false:=by decide)
  (he:starEach (e::es) X.env=(false,eval e X.env)::starEach es X.env:=by rfl) (hpl:(backTo pos (starEach es X.env)).any (·.1)=false:=by rfl):PE X (.Call (.Name x p) (e::es) [] pos) (tCB r t):=by
 intro pins s σ H Q I h;refine wpAny_Call_Name_kw (jeF I hg hm hv ?_ hn hdb);exact PyProof.Rows.callWith_type1 (thn (ha pos pins s σ H _ I h) fun us s1 ⟨vs,H1,I1,r1,q1⟩=>hc pins s1 σ H1 vs us Q I1 r1 q1) he hpl
end
end L2
namespace HT
open PySem PyProof.Rows
theorem eqAt_int (A:Around) (s:Shared) (a:Int) (t:Tok) (c:Int) (u:Tok):∃e,SeqAt.EqAt A s (.int a t) (.int c u) e/\(e=true↔a=c) :=
 ⟨(a==c),SeqAt.EqAt.int_int a t c u,by simp⟩
theorem rcLt_int (A:Around) (s:Shared) (a:Int) (t:Tok) (c:Int) (u:Tok) (prog:Program) (w:World) (E:Value->Shared->Prop) (Q:Value->Shared->Prop) (h:Q (.bool (decide (a<c))) s) :
  wpAny (model prog w) A (richCompare .Lt (.int a t) (.int c u)) Q E s :=
 (PyProof.Rows.lt_int h:wpAny (model prog w) A (compareOp .Lt (.int a t) (.int c u)) Q E s)
section
open PySem.SeqAt
open PySem.AutoSeq1 (wpAny_loadPart')
open PySem.MeetsSeq PySem.MeetsSeq2 PySem.MeetsSeq3
end
section
variable {prog:Program} {w:World} {A:Around} {E:Value->Shared->Prop} {s:Shared}
theorem cat_tup {t b:Addr} {vs ws:List Value} {Q:Value->Shared->Prop} (ht:IsTup s.heap t vs.toArray) (hb:IsTup s.heap b ws.toArray) (hv:vs≠[])
  (h1:ws=[]->Q (.ref t) s) (h2:ws≠[]->Q (.ref s.heap.objs.size) { s with heap:=s.heap.push { cls:=.type "tuple",data:=.seq (vs++ws).toArray } })
  (hsz:vs.length+ws.length<=sizeLine):wpAny (model prog w) A (binaryOp .Add (.ref t) (.ref b)) Q E s:=by
 obtain⟨⟨cls,dd,data,sl⟩,ho,hc,n,hd⟩:=id ht;obtain⟨⟨cls2,dd2,data2,sl2⟩,ho2,hc2,n2,hd2⟩:=id hb;simp only at hc hd hc2 hd2;subst hc hd hc2 hd2;have e:vs.toArray++ws.toArray=(vs++ws).toArray:=by simp
 by_cases hw:ws=[]
 ·exact concat_meets ⟨_,ho,rfl⟩ ⟨_,ho2,rfl⟩ noFill_tuple_add seq_tuple_add PySem.F.slot_tuple_add PySem.F.entry_tuple_add (PySem.F.args_tuple_add_2 _ _)
   (tuple_addW1 t b vs.toArray ws.toArray n n2 dd dd2 sl sl2 (by simpa using hv) (by simp [hw])) ⟨ho,ho2,h1 hw⟩
 ·refine concat_meets ⟨_,ho,rfl⟩ ⟨_,ho2,rfl⟩ noFill_tuple_add seq_tuple_add PySem.F.slot_tuple_add PySem.F.entry_tuple_add (PySem.F.args_tuple_add_2 _ _)
   (tuple_addW2 t b vs.toArray ws.toArray n n2 dd dd2 sl sl2 (by simpa using hv) (by simpa using hw) (by rw[xas,xas];exact hsz)) ⟨ho,ho2,?_⟩
  rw[e];exact h2 hw
def sIx (n d:Nat):Option Int->Nat
 | none=>d
 | some v=>if v<0 then (v+(n:Int)).toNat else min v.toNat n
theorem sIx_none (n d:Nat):sIx n d none=d:=rfl
theorem sIx_nat (n d k:Nat):sIx n d (some (k:Int))=min k n:=by
 show (if (k:Int)<0 then ((k:Int)+(n:Int)).toNat else min (k:Int).toNat n)=min k n;rw[if_neg (by omega),Int.toNat_natCast]
theorem joB (n d:Nat) (hd:d<=n) (o:Option Int):sIx n d o<=n:=by
  cases o with
  | none=>exact hd
  | some v =>
    show (if v<0 then (v+(n:Int)).toNat else min v.toNat n)<=n;by_cases hv:v<0
    . rw[if_pos hv];omega
    . rw[if_neg hv];exact Nat.min_le_right _ _
theorem ji8 (v:Int) (n d:Nat):(if v<0 then max (v+(n:Int)) 0 else min v (n:Int))=((sIx n d (some v):Nat):Int):=by
 show (if v<0 then max (v+(n:Int)) 0 else min v (n:Int))=(((if v<0 then (v+(n:Int)).toNat else min v.toNat n):Nat):Int);by_cases hv:v<0
 ·simp only[if_pos hv];omega
 ·simp only[if_neg hv];omega
theorem jiy (lo hi:Option Int) (n:Nat):Builtin.Slice.sliceAdjust lo hi 1 (n:Int)=(((sIx n 0 lo:Nat):Int),((sIx n n hi:Nat):Int)):=by
 have h1:¬((1:Int)<0):=by omega
 unfold Builtin.Slice.sliceAdjust;simp only[h1,if_false];refine Prod.ext ?_ ?_
 ·cases lo with
  | none=>rfl
  | some v=>exact ji8 v n 0
 ·cases hi with
  | none=>rfl
  | some v=>exact ji8 v n n
theorem jiz (i j:Nat):Builtin.Slice.slicePlaces (i:Int) (j:Int) 1=j-i:=by
 unfold Builtin.Slice.slicePlaces;have h1:(1:Int)>0:=by omega
 simp only[h1,if_true,Int.ediv_one];split<;>omega
theorem jfW {v:Value} {o:Option Int} {Q:Option Int->Shared->Prop} (p:IsPart v o) (h:Q o s):wpAny (model prog w) A (Builtin.Slice.slicePartIndex v) Q E s:=by
 cases p with
 | none=>exact slicePart_none h
 | int i t=>exact slicePart_int h
theorem jeZ {sl:Addr} {vl vu:Value} {lo hi:Option Int} {n:Nat} {Q:Int × Int × Nat->Shared->Prop} (hs:s.heap.IsSliceOf sl vl vu .none) (pl:IsPart vl lo) (pu:IsPart vu hi)
  (h:Q (((sIx n 0 lo:Nat):Int),1,sIx n n hi-sIx n 0 lo) s):wpAny (model prog w) A (Builtin.Slice.sliceApplied (.ref sl) (pure (n:Int))) Q E s:=by
 obtain⟨os,hos,hcs,hds⟩:=id hs;unfold Builtin.Slice.sliceApplied Builtin.Slice.sliceFields;refine wpAny_bind (wpAny_bind (wpAny_field hos hds (x:=vl) rfl (wpAny_bind (wpAny_field hos hds (x:=vu) rfl (wpAny_bind (wpAny_field hos hds (x:=.none) rfl (wpAny_pure ?_)))))));refine wpAny_bind (slicePart_none ?_);show wpAny _ _ (if ((1:Int)==0)=true then _ else _) _ _ s;rw[if_neg (by decide)];refine wpAny_bind (jfW pl (wpAny_bind (jfW pu (wpAny_bind (wpAny_pure ?_)))));show wpAny _ _ (match Builtin.Slice.sliceAdjust lo hi 1 (n:Int) with | (lo,hi)=>pure (lo,(1:Int),Builtin.Slice.slicePlaces lo hi 1)) _ _ s;rw[jiy lo hi n];show wpAny _ _ (pure (((sIx n 0 lo:Nat):Int),(1:Int),Builtin.Slice.slicePlaces ((sIx n 0 lo:Nat):Int) ((sIx n n hi:Nat):Int) 1)) _ _ s;rw[jiz];exact wpAny_pure h
theorem jkO (xs:Array Value) (i k:Nat):((List.range k).filterMap fun (m:Nat)=>xs[((i:Int)+(m:Int)*1).toNat]?).toArray=((xs.toList.drop i).take k).toArray:=by
 have e:(fun (m:Nat)=>xs[((i:Int)+(m:Int)*1).toNat]?)=fun m=>xs[i+m]?:=by
  funext m
  have:((i:Int)+(m:Int)*1).toNat=i+m:=by omega
  rw[this]
 rw[e];have:=pick_run xs i k;rw[List.filterMap_map] at this;have e2:((fun x=>xs[x]?)∘fun x=>i+x)=fun m=>xs[i+m]?:=rfl;rw[e2] at this;rw[this]
theorem getItem_tuple_cut {t sl:Addr} {items:Array Value} {vl vu:Value} {lo hi:Option Int} {Q:Value->Shared->Prop} (ht:IsTup s.heap t items) (hs:s.heap.IsSliceOf sl vl vu .none) (pl:IsPart vl lo) (pu:IsPart vu hi)
  (hw:¬(sIx items.size 0 lo=0/\sIx items.size items.size hi=items.size))
  (h:Q (.ref s.heap.objs.size) { s with heap:=s.heap.push { cls:=.type "tuple",data:=.seq ((items.toList.drop (sIx items.size 0 lo)).take (sIx items.size items.size hi-sIx items.size 0 lo)).toArray } })
  (hsz:items.size<=sizeLine):wpAny (model prog w) A (getItem (.ref t) (.ref sl)) Q E s:=by
 have htake:sizeOk (.seq ((items.toList.drop (sIx items.size 0 lo)).take (sIx items.size items.size hi-sIx items.size 0 lo)).toArray):=by
  show ((items.toList.drop (sIx items.size 0 lo)).take (sIx items.size items.size hi-sIx items.size 0 lo)).toArray.size<=sizeLine;rw[xas,xaT,xaG,Array.length_toList];omega
 have hj:sIx items.size items.size hi<=items.size:=joB _ _ (xam _) hi;obtain⟨os,hos,hcs,hds⟩:=id hs;have hTs:s.TypeIs (.ref sl) "slice":=⟨os,hos,hcs⟩;unfold getItem;try with_reducible refine wpAny_holding ?_
 first | refine wpAny_bind (wpAny_pure ?_) | skip
 refine wpAny_bind (wpAny_sequenceKey ht.typeIs (by decide) ?_);refine wpAny_bind (wpAny_callSpecial?_slot (name:=Str.ofString "__getitem__") ht.typeIs PyProof.Rows.slot_tuple_getitem
  (wpAny_call_entry PyProof.Rows.slot_tuple_getitem ht.typeIs entry_tuple_getitem ?_ (args_tuple_getitem _ _)))
 show wpAny _ _ (Builtin.Tuple.tupleItemsOf (.ref t) >>= _) _ _ s;refine wpAny_bind (tupleItemsOf_ ht ?_);refine wpAny_bind (wpAny_typeOf hTs ?_);rw[if_pos (by decide)];refine wpAny_bind (jeZ hs pl pu ?_);have hno:¬((((sIx items.size 0 lo:Nat):Int)==0&&(1:Int)==1&&(sIx items.size items.size hi-sIx items.size 0 lo)==items.size)=true):=by
  intro q;rw[Bool.and_eq_true,Bool.and_eq_true] at q;have q1:((sIx items.size 0 lo:Nat):Int)=0:=eq_of_beq q.1.1;have q2:sIx items.size items.size hi-sIx items.size 0 lo=items.size:=eq_of_beq q.2;exact hw ⟨by omega,by omega⟩
 show wpAny _ _ (if (((sIx items.size 0 lo:Nat):Int)==0&&(1:Int)==1&&(sIx items.size items.size hi-sIx items.size 0 lo)==items.size)=true then _ else _) _ _ s;rw[if_neg hno,jkO]
 first
  | exact wpAny_bind (m:=Builtin.Tuple.tupleExact _) (wpAny_newObj_type (wpAny_pure ⟨_,rfl,wpAny_pure h⟩) htake)
  | exact wpAny_bind (m:=Builtin.Tuple.tupleExact _) (wpAny_newObj_type (wpAny_bind (wpAny_pure (wpAny_pure ⟨_,rfl,wpAny_pure h⟩))) htake)
  | exact wpAny_bind (wpAny_bind (m:=Builtin.Tuple.tupleExact _) (wpAny_newObj_type (wpAny_pure (wpAny_pure ⟨_,rfl,wpAny_pure h⟩)) htake))
  | exact wpAny_bind (wpAny_bind (m:=Builtin.Tuple.tupleExact _) (wpAny_newObj_type (wpAny_pure ⟨_,rfl,wpAny_pure h⟩) htake))
end
end HT
namespace L2
open PySem PySem.Spec PyProof.Rows
abbrev TO:=St->Hp->(Option Int->Hp->Prop)->Prop
def PO (X:Cx) (e:Option Expr) (t:TO):Prop :=
  ∀ (pins : List (Addr × Obj)) (s : Shared) (σ : St) (H : Hp) (Q : Option Int -> Hp -> Prop), Inv X pins σ H s -> t σ H Q ->
    wpAny (model X.prog X.w) X.A (evalPart e X.env) (fun u s'=>∃o H',Inv X pins σ H' s'/\IsPart u o/\Q o H') X.xe s
def jfe:TO:=fun _ H Q=>Q none H
def ji9 (t:TE):TO:=fun σ H Q=>t σ H fun x H1=>∃i,x=.int i/\Q (some i) H1
theorem jbS {ns:List Int}:∀{us:List Value},Vals (ns.map V.int) us->IntsAre us ns:=by
  induction ns with
  | nil=>intro us r;rw[xca] at r;cases r;exact .nil
  | cons n ns ih =>
    intro us r;rw[xa5] at r;cases r with
    | cons r1 r2 =>
      obtain⟨t,e⟩:=r1;subst e;exact .cons n t (ih r2)
section
variable {X:Cx} {e:Expr} {te:TE} {lo hi:Option Expr} {tl th:TO} {pos p2:Pos}
theorem jbG:PO X none jfe:=by
 intro pins s σ H Q I h;rw[evalPart_none];exact wpAny_pure ⟨none,H,I,.none,h⟩
theorem jbH (h:PE X e te):PO X (some e) (ji9 te):=by
 intro pins s σ H Q I hw;rw[evalPart_some];refine thn (h pins s σ H _ I hw) fun u s1 ⟨x,H1,I1,r1,q1⟩=>?_;obtain⟨i,rfl,q⟩:=q1;obtain⟨t,rfl⟩:=r1;exact⟨some i,H1,I1,.int i t,q⟩
def SlR (X:Cx) (r:V->Option Int->Option Int->Hp->VK->Prop):Prop :=
  ∀ (pins : List (Addr × Obj)) (s : Shared) (σ : St) (H : Hp) (x : V) (v vl vu : Value) (lo hi : Option Int) (sl : Addr) (Q : VK), Inv X pins σ H s -> RelV x v -> s.heap.IsSliceOf sl vl vu .none -> IsPart vl lo -> IsPart vu hi -> r x lo hi H Q ->
    ∃T id,typeLookup (.type T) "__getitem__"=pure (some (.builtin id))/\s.TypeIs v T/\wpAny (model X.prog X.w) X.A (getItem v (.ref sl)) (EP X pins σ Q) X.xe s
theorem SlR.or {r r':V->Option Int->Option Int->Hp->VK->Prop} (h:SlR X r) (h':SlR X r'):SlR X (fun x lo hi H Q=>r x lo hi H Q\/r' x lo hi H Q):=by
 intro pins s σ H x v vl vu lo hi sl Q I rx hs pl pu q;rcases q with q | q
 ·exact h pins s σ H x v vl vu lo hi sl Q I rx hs pl pu q
 ·exact h' pins s σ H x v vl vu lo hi sl Q I rx hs pl pu q
def tSl (r:V->Option Int->Option Int->Hp->VK->Prop) (te:TE) (tl th:TO):TE:=fun σ H Q=>te σ H fun x H1=>tl σ H1 fun l H2=>th σ H2 fun u H3=>r x l u H3 Q
theorem jbi {r:V->Option Int->Option Int->Hp->VK->Prop} (hr:SlR X r) (he:PE X e te) (hl:PO X lo tl) (hu:PO X hi th):PE X (.Subscript e (.Slice lo hi none p2) pos) (tSl r te tl th):=by
 intro pins s σ H Q I h;refine Subscript_ (thn (he pins s σ H _ I h) fun v s1 ⟨x,H1,I1,r1,q1⟩=>?_);refine wpAny_Slice (thn (hl pins s1 σ H1 _ I1 q1) fun vl s2 ⟨l,H2,I2,pl,q2⟩=>thn (hu pins s2 σ H2 _ I2 q2) fun vu s3 ⟨u,H3,I3,pu,q3⟩=>?_);rw[evalPart_none];refine wpAny_pure ?_;have I4:Inv X pins σ H3 { s3 with heap:=s3.heap.push { cls:=.type "slice",data:=.fields #[vl,vu,.none] } }:=I3.kept (t':=s3.toks) fun b ob q=>Heap.get?_push_of_some _ q;obtain⟨T,id,hT,ht,hg⟩:=hr pins { s3 with heap:=s3.heap.push { cls:=.type "slice",data:=.fields #[vl,vu,.none] } } σ H3 x v vl vu l u s3.heap.objs.size Q I4 r1 (Heap.IsSliceOf.new ..) pl pu q3;show wpAny (model X.prog X.w) X.A (subscriptTail e (.Slice lo hi none p2) v (.ref s3.heap.objs.size)) (EP X pins σ Q) X.xe { s3 with heap:=s3.heap.push { cls:=.type "slice",data:=.fields #[vl,vu,.none] } };exact tail_any (ops:=[.ref s3.heap.objs.size,v]) ht hT hg (by with_unfolding_all rfl)
def jgZ (xs:List V) (lo hi:Option Int):List V:=(xs.drop (HT.sIx xs.length 0 lo)).take (HT.sIx xs.length xs.length hi-HT.sIx xs.length 0 lo)
theorem jff (xs:List V) (lo hi:Option Int):(jgZ xs lo hi).length<=xs.length:=by
 unfold jgZ;rw[xaT,xaG];omega
def rSlT (K:PySem.W.Frag):V->Option Int->Option Int->Hp->VK->Prop:=fun x lo hi H Q=>∃a xs,x=.ref a/\SqT K H a xs /\
 ¬(HT.sIx xs.length 0 lo=0/\HT.sIx xs.length xs.length hi=xs.length)/\∀p,H p=none->Q (.ref p) (upd H p (.tup (jgZ xs lo hi)))
theorem jja:SlR X (rSlT X.K):=by
 intro pins s σ H x v vl vu lo hi sl Q I rx hs pl pu h;obtain⟨a,xs,rfl,hx,hw,q⟩:=h;cases rx;obtain⟨its,r,ht,hz⟩:=I.tuple hx;have hlen:its.toArray.size=xs.length:=by rw[xas];exact r.length.symm
 refine⟨"tuple",_,PyProof.Rows.slot_tuple_getitem.lookup,ht.typeIs,?_⟩;refine HT.getItem_tuple_cut ht hs pl pu (by rw[hlen];exact hw) ?_ (by rw[hlen];exact hz);rw[hlen];refine⟨.ref s.heap.objs.size,_,I.laid (t':=s.toks) (o:=.tup (jgZ xs lo hi)) (fun b ob q=>Heap.get?_push_of_some _ q) (xam _) ?_,rfl,q _ (I.hok.fresh (xam _))⟩;exact⟨xa4 (jff xs lo hi) hz,_,(r.drop (HT.sIx xs.length 0 lo)).take (HT.sIx xs.length xs.length hi-HT.sIx xs.length 0 lo),IsTup.new _ _⟩
def rCatT (K:PySem.W.Frag):R2:=fun x y H Q=>∃a b xs ys,x=.ref a/\y=.ref b/\SqT K H a xs/\SqT K H b ys/\xs≠[]/\xs.length+ys.length<=sizeLine /\
 (ys=[]->Q (.ref a) H)/\(ys≠[]->∀p,H p=none->Q (.ref p) (upd H p (.tup (xs++ys))))
theorem Vals.nil_iff {xs:List V} {us:List Value} (r:Vals xs us):us=[]↔xs=[]:=by
 cases r with
 | nil=>simp
 | cons _ _=>simp
theorem jmV:OpR X (binaryOp .Add) (rCatT X.K):=by
 intro pins s σ H x y v u Q I rx ry h;obtain⟨a,b,xs,ys,rfl,rfl,ha,hb,hx,hz,q1,q2⟩:=h;cases rx;cases ry;obtain⟨its,r1,p1,_⟩:=I.tuple ha;obtain⟨its2,r2,p2,_⟩:=I.tuple hb;refine HT.cat_tup p1 p2 (fun z=>hx (r1.nil_iff.mp z)) (fun z=>⟨.ref a,H,I,rfl,q1 (r2.nil_iff.mp z)⟩) (fun z=>?_) (by rw[<- r1.length,<- r2.length];exact hz);refine⟨.ref s.heap.objs.size,_,I.laid (t':=s.toks) (o:=.tup (xs++ys)) (fun b ob q=>Heap.get?_push_of_some _ q) (xam _) ?_,rfl,q2 (fun w=>z (r2.nil_iff.mpr w)) _ (I.hok.fresh (xam _))⟩;exact⟨by rw[xao];exact hz,_,r1.append r2,IsTup.new _ _⟩
end
def ixN (n:Nat) (i:Int):Option Nat:=if 0<=i then (if i<n then some i.toNat else none) else if -(n:Int)<=i then some (i+n).toNat else none
def atI {α:Type} (xs:List α) (i:Int):Option α:=(ixN xs.length i).bind fun j=>xs[j]?
theorem jjb {n:Nat} {i:Int} {j:Nat} (h:ixN n i=some j):seqIndex? i n=some j/\j<n/\-(n:Int)<=i/\i<n:=by
 unfold ixN at h;by_cases h0:0<=i
 ·rw[if_pos h0] at h;by_cases h1:i<n
  ·rw[if_pos h1] at h;have e:i.toNat=j:=Option.some.inj h;exact⟨by rw[seqIndex_of h0 h1,e],by omega,by omega,h1⟩
  ·rw[if_neg h1] at h;cases h
 ·rw[if_neg h0] at h;by_cases h1:-(n:Int)<=i
  ·rw[if_pos h1] at h;have e:(i+n).toNat=j:=Option.some.inj h;exact⟨by rw[seqIndex_neg (by omega) h1,e],by omega,h1,by omega⟩
  ·rw[if_neg h1] at h;cases h
theorem jjc {α:Type} {xs:List α} {i:Int} {v:α} (h:atI xs i=some v):∃j,seqIndex? i xs.length=some j/\xs[j]?=some v/\j<xs.length/\-(xs.length:Int)<=i/\i<xs.length:=by
  unfold atI at h;cases e:ixN xs.length i with
  | none=>rw[e] at h;cases h
  | some j =>
    rw[e] at h;obtain⟨h1,h2,h3,h4⟩:=jjb e;exact⟨j,h1,h,h2,h3,h4⟩
theorem ja5 {α:Type} {xs:List α} {j:Nat} {v:α} (h:xs[j]?=some v):atI xs (j:Int)=some v:=by
 have hj:j<xs.length:=(xae.mp h).1;have e:ixN xs.length (j:Int)=some j:=by
  unfold ixN;rw[if_pos (by omega),if_pos (by omega)];simp
 unfold atI;rw[e];exact h
theorem jkP {α:Type} (xs:List α) (v:α):atI (xs++[v]) (-1)=some v:=by
 have hl:(xs++[v]).length=xs.length+1:=by simp
 have e:ixN (xs++[v]).length (-1)=some xs.length:=by
  unfold ixN;rw[hl,if_neg (by decide),if_pos (by omega)]
  congr 1
  omega
 unfold atI;rw[e];show (xs++[v])[xs.length]?=some v;simp
def jjd (b:Expr):Prop:=∀o i,subscripted b false o i=operate [o,i] (getItem o i)
def IxR (X:Cx) (r:R2):Prop :=
  ∀ (value slice : Expr) (pins : List (Addr × Obj)) (s : Shared) (σ : St) (H : Hp) (x y : V) (v u : Value) (Q : VK), Inv X pins σ H s -> RelV x v -> RelV y u -> r x y H Q ->
    subscripted slice false v u=operate [v,u] (getItem v u)->wpAny (model X.prog X.w) X.A (subscriptTail value slice v u) (EP X pins σ Q) X.xe s
def MtR (X:Cx) (id:String) (r:V->List V->Hp->VK->Prop):Prop :=
  ∀ (pins : List (Addr × Obj)) (s : Shared) (σ : St) (H : Hp) (x : V) (xs : List V) (v : Value) (us : List Value) (Q : VK), Inv X pins σ H s -> RelV x v -> Vals xs us -> r x xs H Q ->
    wpAny (model X.prog X.w) X.A (call (.builtin id) (v::us)) (EP X pins σ Q) X.xe s
section
variable {X:Cx} {a b:Expr} {ta tb:TE} {pos:Pos}
theorem IxR.or {r r':R2} (h:IxR X r) (h':IxR X r'):IxR X (fun x y H Q=>r x y H Q\/r' x y H Q):=by
 intro value slice pins s σ H x y v u Q I rx ry q hs;rcases q with q | q
 ·exact h value slice pins s σ H x y v u Q I rx ry q hs
 ·exact h' value slice pins s σ H x y v u Q I rx ry q hs
theorem MtR.or {id:String} {r r':V->List V->Hp->VK->Prop} (h:MtR X id r) (h':MtR X id r'):MtR X id (fun x xs H Q=>r x xs H Q\/r' x xs H Q):=by
 intro pins s σ H x xs v us Q I rx rs q;rcases q with q | q
 ·exact h pins s σ H x xs v us Q I rx rs q
 ·exact h' pins s σ H x xs v us Q I rx rs q
theorem jal {r:R2} (hr:IxR X r) (ha:PE X a ta) (hb:PE X b tb) (hs:jjd b:=by exact fun _ _=>rfl):PE X (.Subscript a b pos) (tOp r ta tb):=by
 intro pins s σ H Q I h;exact Subscript_ (binT ha hb I h fun v u s2 x y H2 I2 rx ry q=>hr a b pins s2 σ H2 x y v u Q I2 rx ry q (hs _ _))
def jlN (K:PySem.W.Frag):R2:=fun x y H Q=>∃p xs i v,x=.ref p/\y=.int i/\SqL K H p xs/\atI xs i=some v/\Q v H
def joj (K:PySem.W.Frag):R2:=fun x y H Q=>∃p xs i v,x=.ref p/\y=.int i/\SqT K H p xs/\atI xs i=some v/\Q v H
theorem ix_list:IxR X (jlN X.K):=by
 intro value slice pins s σ H x y v u Q I rx ry h hs;obtain⟨p,xs,i,z,rfl,rfl,hq,he,q⟩:=h;cases rx;obtain⟨t,rfl⟩:=ry;obtain⟨its,r,pl,hz⟩:=I.list hq;obtain⟨j,h1,h2,h3,h4,h5⟩:=jjc he;obtain⟨w,ew,rw'⟩:=r.get h2;have hl:=r.length;have hn:=jh1;have fin:EP X pins σ Q w s:=⟨z,H,I,rw',q⟩;by_cases h0:0<=i
 ·have hj:i.toNat=j:=by
   rw[seqIndex_of h0 h5] at h1;exact Option.some.inj h1
  exact item_listR pl.isList h0 (by omega) (by rw[hj];simpa using ew) fin hs
 ·have hj:(i+(its.toArray.size:Int)).toNat=j:=by
   rw[seqIndex_neg (by omega) h4] at h1;rw[xas,<- hl];exact Option.some.inj h1
  exact subscriptTail_builtinR (x:=w) pl.isList.typeIs slot_list_getitem.lookup
   (wpAny_getItem_list_neg (Q:=fun r s'=>r=w/\EP X pins σ Q r s') pl.isList (by omega) (by rw[xas]<;>omega) (by omega) (by rw[hj];simpa using ew) ⟨rfl,fin⟩) hs
theorem jaq:IxR X (joj X.K):=by
 intro value slice pins s σ H x y v u Q I rx ry h hs;obtain⟨p,xs,i,z,rfl,rfl,hq,he,q⟩:=h;cases rx;obtain⟨t,rfl⟩:=ry;obtain⟨its,r,pl,hz⟩:=I.tuple hq;obtain⟨j,h1,h2,h3,h4,h5⟩:=jjc he;obtain⟨w,ew,rw'⟩:=r.get h2;have hl:=r.length;have hn:=jh1;have fin:EP X pins σ Q w s:=⟨z,H,I,rw',q⟩;exact subscriptTail_builtinR (x:=w) pl.typeIs slot_tuple_getitem.lookup
  (getItem_tuple (j:=j) (Q:=fun r s'=>r=w/\EP X pins σ Q r s') pl (by omega) (by omega) (by rw[xas,<- hl];exact h1) (by simpa using ew) ⟨rfl,fin⟩) hs
theorem jiA (its:List Value) (n j:Nat) (u:Value):Obj.mapSeq (·.setIfInBounds j u) { cls:=.type "list",data:=.seq its.toArray n }={ cls:=.type "list",data:=.seq (its.set j u).toArray n }:=by
 simp [Obj.mapSeq]
theorem Inv.lst {pins:List (Addr × Obj)} {σ:St} {H:Hp} {s:Shared} {p:Addr} {xs:List V} (I:Inv X pins σ H s) (h:H p=some (.lst xs)) :
  ∃(its:List Value) (n:Nat),Vals xs its/\s.heap.get? p=some { cls:=.type "list",data:=.seq its.toArray n }/\xs.length<=sizeLine:=by
 obtain⟨z,its,n,r,e⟩:=I.hok p _ h;exact⟨its,n,r,e,z⟩
theorem Inv.lstUpd {pins:List (Addr × Obj)} {σ:St} {H:Hp} {s:Shared} {p:Addr} {xs ys:List V} {its its':List Value} {n n':Nat} {f:Obj->Obj} (I:Inv X pins σ H s) (h:H p=some (.lst xs))
  (ho:s.heap.get? p=some { cls:=.type "list",data:=.seq its.toArray n }) (hf:f { cls:=.type "list",data:=.seq its.toArray n }={ cls:=.type "list",data:=.seq its'.toArray n' }) (r:Vals ys its') (hz:ys.length<=sizeLine) (t:Nat) :
  Inv X pins σ (upd H p (.lst ys)) { s with heap:=s.heap.update p f,toks:=t }:=by
 have e:(s.heap.update p f).get? p=some { cls:=.type "list",data:=.seq its'.toArray n' }:=by
  rw[Heap.get?_update_self f ho (by rw[hf]<;>rfl),hf]
 refine I.write (x:=p) (e:=p) (by rw[h];trivial) (.inl rfl) (fun b u hb q=>(Heap.get?_update_other _ _ (Ne.symm hb)).trans q) ⟨_,e⟩ ?_;exact⟨hz,its',n',r,e⟩
def rSetL:V->V->V->Hp->(Hp->Prop)->Prop:=fun o i v H Q=>∃p xs k j,o=.ref p/\i=.int k/\H p=some (.lst xs)/\ixN xs.length k=some j/\Q (upd H p (.lst (xs.set j v)))
theorem jh4:PSet X rSetL:=by
 intro pins s σ H o i v ov iv u Q I ro ri rv h;obtain⟨p,xs,k,j,rfl,rfl,hp,hj,q⟩:=h;cases ro;obtain⟨t,rfl⟩:=ri;obtain⟨its,n,r,ho,hz⟩:=I.lst hp;obtain⟨h1,h2,h3,h4⟩:=jjb hj;have hl:=r.length;have hn:=jh1;have I':Inv X pins σ (upd H p (.lst (xs.set j v))) { s with heap:=s.heap.update p (Obj.mapSeq (·.setIfInBounds j u)) } :=
  I.lstUpd hp ho (jiA its n j u) (r.set rv j) (by rw[List.length_set];exact hz) s.toks
 by_cases h0:0<=k
 ·have hk:k.toNat=j:=by
   rw[seqIndex_of h0 h4] at h1;exact Option.some.inj h1
  exact PySem.W.ki_setAt ho h0 (by omega) (by rw[xas,<- hl];exact h4) (by rw[hk];exact⟨_,I',q⟩)
 ·have hk:(k+(its.toArray.size:Int)).toNat=j:=by
   rw[seqIndex_neg (by omega) h3] at h1;rw[xas,<- hl];exact Option.some.inj h1
  exact PySem.W.ki_setBack ho (by omega) (by rw[xas,<- hl];exact h3) (by omega) (by rw[hk];exact⟨_,I',q⟩)
theorem jg0 (lo hi:Option Int) (n:Nat):(sliceBounds lo hi none n).1=((HT.sIx n 0 lo:Nat):Int)/\(sliceBounds lo hi none n).2.1=((HT.sIx n n hi:Nat):Int)/\(sliceBounds lo hi none n).2.2=1:=by
  refine⟨?_,?_,rfl⟩
  . cases lo with
    | none=>simp [sliceBounds,HT.sIx]
    | some i =>
      simp only[sliceBounds,HT.sIx,Option.getD_none,show (1:Int)>0 by decide,if_true];by_cases h:i<0
      . simp only[h,if_true]<;>omega
      . simp only[h,if_false]<;>omega
  . cases hi with
    | none=>simp [sliceBounds,HT.sIx]
    | some i =>
      simp only[sliceBounds,HT.sIx,Option.getD_none,show (1:Int)>0 by decide,if_true];by_cases h:i<0
      . simp only[h,if_true]<;>omega
      . simp only[h,if_false]<;>omega
theorem jgl (its:List Value) (lo hi:Option Int):slicePick its.toArray lo hi none=((its.drop (HT.sIx its.length 0 lo)).take (HT.sIx its.length its.length hi-HT.sIx its.length 0 lo)).toArray:=by
 obtain⟨h1,h2,h3⟩:=jg0 lo hi its.toArray.size;unfold slicePick;rw[h1,h2,h3];simp only[sliceRange_one,pick_run,xas]<;>rfl
def rSlL (K:PySem.W.Frag):V->Option Int->Option Int->Hp->VK->Prop:=fun x lo hi H Q=>∃a xs,x=.ref a/\SqL K H a xs/\∀p,H p=none->Q (.ref p) (upd H p (.lst (jgZ xs lo hi)))
theorem jcs:SlR X (rSlL X.K):=by
 intro pins s σ H x v vl vu lo hi sl Q I rx hs pl pu h;obtain⟨a,xs,rfl,hx,q⟩:=h;cases rx;obtain⟨its,r,ht,hz⟩:=I.list hx;have hlen:=r.length;refine⟨"list",_,slot_list_getitem.lookup,ht.isList.typeIs,?_⟩;refine wpAny_getItem_list_slice ht.isList hs pl pu .none (by simp) ?_ (by rw[xas]<;>omega);rw[jgl,<- hlen];refine⟨.ref s.heap.objs.size,_,I.laid (t':=s.toks) (o:=.lst (jgZ xs lo hi)) (fun b ob q=>Heap.get?_push_of_some _ q) (xam _) ?_,rfl,q _ (I.hok.fresh (xam _))⟩;exact⟨xa4 (jff xs lo hi) hz,_,0,(r.drop (HT.sIx xs.length 0 lo)).take (HT.sIx xs.length xs.length hi-HT.sIx xs.length 0 lo),Heap.get?_push_size _ rfl⟩
theorem jaQ:CallR X (.builtin "len") (fun xs H Q=>∃p ys,xs=[.ref p]/\(SqL X.K H p ys\/SqT X.K H p ys)/\Q (.int ys.length) H):=by
 intro pins s σ H xs us Q I r h;obtain⟨p,ys,rfl,hq,q⟩:=h;obtain⟨u,rfl,rx⟩:=jeX r;cases rx;have hn:=jh1;rcases hq with hq | hq
 ·obtain⟨its,r',pl,hz⟩:=I.list hq;have hlen:=r'.length;exact Calls.call_len_list pl.isList (by simp only[xas]<;>omega) ⟨.int ys.length,H,I.tok _,⟨s.toks+1,by rw[xas,hlen]⟩,q⟩
 ·obtain⟨its,r',pl,hz⟩:=I.tuple hq;have hlen:=r'.length;exact len_tuple pl (by simp only[xas]<;>omega) ⟨.int ys.length,H,I.tok _,⟨s.toks+1,by rw[xas,hlen]⟩,q⟩
theorem CallR.or {f:Value} {r r':List V->Hp->VK->Prop} (h:CallR X f r) (h':CallR X f r'):CallR X f (fun xs H Q=>r xs H Q\/r' xs H Q):=by
 intro pins s σ H xs us Q I rs q;rcases q with q | q
 ·exact h pins s σ H xs us Q I rs q
 ·exact h' pins s σ H xs us Q I rs q
theorem jcU:CallR X (.type "list") (fun xs H Q=>∃p ys,xs=[.ref p]/\(SqL X.K H p ys\/SqT X.K H p ys)/\∀l,H l=none->Q (.ref l) (upd H l (.lst ys))):=by
 intro pins s σ H xs us Q I r h;obtain⟨p,ys,rfl,hq,q⟩:=h;obtain⟨u,rfl,rx⟩:=jeX r;cases rx;have fin:∀(its:List Value),Vals ys its->ys.length<=sizeLine->∀(h':Heap) (c':Nat),(∀b o',s.heap.get? b=some o'->h'.get? b=some o') ->
   h'.get? s.heap.objs.size=some { cls:=.type "list",dict:=none,data:=.seq its.toArray c',slots:=#[] }->EP X pins σ Q (.ref s.heap.objs.size) { s with heap:=h' }:=fun its r' hz h' c' kp e =>
  ⟨.ref s.heap.objs.size,_,I.laid (t':=s.toks) kp (xam _) (show ObjOk X.prog X.w _ h' _ (.lst ys) from ⟨hz,its,c',r',e⟩),rfl,q _ (I.hok.fresh (xam _))⟩
 rcases hq with hq | hq
 ·obtain⟨its,r',pl,hz⟩:=I.list hq;have hlen:=r'.length;obtain⟨o,ho,hc,n,hd⟩:=pl.isList;exact call_list_seq p (.inl rfl) ho hc hd (fun h' c' kp e=>fin its r' hz h' c' kp e) (by simp only[xas]<;>omega)
 ·obtain⟨its,r',pl,hz⟩:=I.tuple hq;have hlen:=r'.length;obtain⟨o,ho,hc,n,hd⟩:=pl;exact call_list_seq p (.inr rfl) ho hc hd (fun h' c' kp e=>fin its r' hz h' c' kp e) (by simp only[xas]<;>omega)
theorem jbd:CallR X (.type "tuple") (fun xs H Q=>∃p ys,xs=[.ref p]/\((SqL X.K H p ys/\∀l,H l=none->Q (.ref l) (upd H l (.tup ys)))\/(SqT X.K H p ys/\Q (.ref p) H))):=by
 intro pins s σ H xs us Q I r h;obtain⟨p,ys,rfl,h⟩:=h;obtain⟨u,rfl,rx⟩:=jeX r;cases rx;rcases h with ⟨hq,q⟩ | ⟨hq,q⟩
 ·obtain⟨its,r',pl,hz⟩:=I.list hq;have hlen:=r'.length;refine call_tuple_list pl.isList (fun h' kp=>?_) (by simp only[xas]<;>omega);have I1:Inv X pins σ H { s with heap:=h' }:=I.kept (t':=s.toks) kp;have I2:Inv X pins σ (upd H h'.objs.size (.tup ys)) { s with heap:=h'.push { cls:=.type "tuple",data:=.seq its.toArray } } :=
   I1.laid (t':=s.toks) (fun b o e=>Heap.get?_push_of_some _ e) (xam _) (show ObjOk X.prog X.w _ _ _ (.tup ys) from ⟨hz,its,r',IsTup.new _ _⟩)
  exact⟨.ref h'.objs.size,_,I2,rfl,q _ (I1.hok.fresh (xam _))⟩
 ·obtain⟨its,r',pl,hz⟩:=I.tuple hq;exact call_tuple_same pl ⟨.ref p,H,I,rfl,q⟩
def tyV (K:PySem.W.Frag) (T:String) (x:V) (H:Hp):Prop:=match x with
 | .str _=>T="str"
 | .int _=>T="int"
 | .ref p=>(T="list" /\ ∃xs,SqL K H p xs) \/ (T="tuple" /\ ∃o,K.lookup p=some o /\ o.cls=.type "tuple" /\ o.dict=none) \/
   (T="dict"/\((∃kvs,H p=some (.dK kvs))\/∃kvs,H p=some (.dT kvs)))\/(T="set"/\∃S n,H p=some (.set S n))
 | _=>False
theorem jlO {pins:List (Addr × Obj)} {σ:St} {H:Hp} {s:Shared} {T:String} {x:V} {v:Value} (I:Inv X pins σ H s) (r:RelV x v) (ty:tyV X.K T x H) :
    s.TypeIs v T/\∀a,v=.ref a->∃ob,s.heap.get? a=some ob/\ob.dict=none:=by
  cases x with
  | str z =>
    obtain⟨t,rfl⟩:=r;cases (show T="str" from ty);exact⟨typeIs_str s z t,fun _ e=>nomatch e⟩
  | int i =>
    obtain⟨t,rfl⟩:=r;cases (show T="int" from ty);exact⟨typeIs_int s i t,fun _ e=>nomatch e⟩
  | ref p =>
    cases r;rcases ty with ⟨rfl,xs,hq⟩ | ⟨rfl,o,hk,hc,hd⟩ | ⟨rfl,hk⟩ | ⟨rfl,S,n,hk⟩
    . obtain⟨its,_,pl,_⟩:=I.list hq
      refine⟨pl.isList.typeIs,fun a e=>?_⟩;cases e;obtain⟨o,n,e,c,hd,_⟩:=pl;exact⟨o,e,hd⟩
    . refine⟨⟨o,I.kIn p o hk,hc⟩,fun a e=>?_⟩
      cases e;exact⟨o,I.kIn _ o hk,hd⟩
    . have z:∃o,s.heap.get? p=some o/\o.ExactDict:=by
        rcases hk with ⟨kvs,hk⟩ | ⟨kvs,hk⟩
        . obtain⟨_,_,_,_,o,_,_,e,ex,_⟩:=I.hok p _ hk
          exact⟨o,e,ex⟩
        . obtain⟨_,_,_,_,o,_,_,e,ex,_⟩:=I.hok p _ hk
          exact⟨o,e,ex⟩
      obtain⟨o,e,ex⟩:=z;refine⟨⟨o,e,ex.1⟩,fun a e2=>?_⟩;cases e2;exact⟨o,e,ex.2.1⟩
    . obtain⟨o,_,_,_,e,ex,_⟩:=I.hok p _ hk
      refine⟨⟨o,e,ex.1⟩,fun a e2=>?_⟩;cases e2;exact⟨o,e,ex.2.1⟩
  | _=>exact False.elim ty
def joC (K:PySem.W.Frag) (T:String) (r:V->List V->Hp->VK->Prop) (to:TE):TE:=fun σ H Q=>to σ H fun x H1=>tyV K T x H1/\r x [] H1 Q
def tBM (K:PySem.W.Frag) (T:String) (r:V->List V->Hp->VK->Prop) (to:TE) (t:TA):TE:=fun σ H Q=>to σ H fun x H1=>tyV K T x H1/\t σ H1 fun xs H2=>r x xs H2 Q
variable {o e:Expr} {es:List Expr} {to:TE} {t:TA} {name:Str} {apos cpos:Pos} {T id:String} {r:V->List V->Hp->VK->Prop}
theorem jlP (pa:PlainAttrs T) (slot:Slot T name id) (hty:typeOf (.builtin id)=pure (.type "method_descriptor")) (hm:MtR X id r) (ho:PE X o to)
  (hbase:attributeBase o name X.env (eval o X.env)=eval o X.env:=by rfl) (hline:(apos.endLine==cpos.line)=true:=by rfl):PE X (.Call (.Attribute o name apos) [] [] cpos) (joC X.K T r to):=by
 intro pins s σ H Q I h;refine wpAny_Call_method0_late hbase hline (thn (ho pins s σ H _ I h) fun v s1 ⟨x,H1,I1,r1,ty,q1⟩=>?_);obtain⟨h1,h2⟩:=jlO I1 r1 ty;exact⟨T,id,pa,slot,hty,h1,h2,Calls.callWith_builtin rfl (PySem.evalArgs_none (hm pins s1 σ H1 x [] v [] Q I1 r1 .nil q1))⟩
theorem jmW (pa:PlainAttrs T) (slot:Slot T name id) (hty:typeOf (.builtin id)=pure (.type "method_descriptor")) (hm:MtR X id r) (ho:PE X o to) (ha:PA X (e::es) t)
  (hbase:attributeBase o name X.env (eval o X.env)=eval o X.env:=by rfl)
  (hfew:((backTo cpos (starEach (e::es) X.env)).all (fun x=>!x.1)&&(backToKw cpos (keywordEach [] X.env)).all (fun x=>x.1.isSome)
   && decide ((e::es).length+([]:List Keyword).length+(if ([]:List Keyword).isEmpty then 0 else 1)<30))=true:=by rfl)
  (hline:(apos.endLine==cpos.line)=true:=by rfl) (hs:starEach (e::es) X.env=(false,eval e X.env)::starEach es X.env:=by rfl) (hplain:(backTo cpos (starEach es X.env)).any (·.1)=false:=by rfl) :
  PE X (.Call (.Attribute o name apos) (e::es) [] cpos) (tBM X.K T r to t):=by
 intro pins s σ H Q I h;refine wpAny_Call_method_late hbase hfew hline rfl (thn (ho pins s σ H _ I h) fun v s1 ⟨x,H1,I1,r1,ty,q1⟩=>?_);obtain⟨h1,h2⟩:=jlO I1 r1 ty;refine⟨T,id,pa,slot,hty,h1,h2,?_⟩;have hA:=ha cpos pins s1 σ H1 _ I1 q1;rw[hs] at hA |-
 refine Calls.callWith_builtin (by show (false||(backTo cpos (starEach es X.env)).any (·.1))=false;rw[hplain]<;>rfl) (Calls.evalArgs_plain ?_);exact thn hA fun us s2 ⟨vs,H2,I2,r2,q2⟩=>hm pins s2 σ H2 x vs v us Q I2 r1 r2 q2
end
def MtM (X:Cx) (id:String) (r:V->List V->Hp->VK->Prop):Prop :=
  ∀ (pins : List (Addr × Obj)) (s : Shared) (σ : St) (H : Hp) (x : V) (xs : List V) (v : Value) (us : List Value) (Q : VK), Inv X pins σ H s -> RelV x v -> Vals xs us -> r x xs H Q ->
    wpAny (model X.prog X.w) X.A (call (.builtin id) (v::us)) (EP X pins σ Q) X.xe s
theorem Vals.one:∀{x:V} {us:List Value},Vals [x] us->∃u,us=[u]/\RelV x u
 | _,_,.cons r .nil=>⟨_,rfl,r⟩
theorem Vals.zero:∀{us:List Value},Vals [] us->us=[]
 | _,.nil=>rfl
theorem Vals.reverse {xs:List V} {us:List Value} (h:Vals xs us):Vals xs.reverse us.reverse:=by
 induction h with
 | nil=>exact .nil
 | cons r t ih=>rw[xaR,xaR];exact Vals.append ih (.cons r .nil)
theorem Vals.rep {xs:List V} {us:List Value} (h:Vals xs us):∀k:Nat,Vals (List.replicate k xs).flatten (List.replicate k us).flatten
  | 0=>.nil
  | k + 1 => by
    rw[xbk,xbk,xbP,xbP];exact Vals.append h (Vals.rep h k)
theorem jg1 (its:List Value):∀(k:Nat) (acc:List Value),
    List.foldl (fun x1 x2=>x1++x2) acc.toArray (List.replicate k its.toArray)=(acc++(List.replicate k its).flatten).toArray
  | 0,acc=>by simp
  | k + 1, acc => by
    have e:acc.toArray++its.toArray=(acc++its).toArray:=by simp
    have e2:(acc++its)++(List.replicate k its).flatten=acc++(List.replicate (k+1) its).flatten:=by
      rw[xbk,xbP,xb9]
    rw[<- e2,<- jg1 its k (acc++its),<- e,xbk,List.foldl_cons]
section
variable {X:Cx} {pins:List (Addr × Obj)} {σ:St} {H:Hp} {s:Shared} {l b:Addr} {xs ys zs:List V}
theorem Inv.lset {its its':List Value} {n:Nat} {f:Array Value->Array Value} {t':Nat} (I:Inv X pins σ H s) (hH:H l=some (.lst xs))
  (e:s.heap.get? l=some { cls:=.type "list",data:=.seq its.toArray n }) (hf:f its.toArray=its'.toArray) (hv:Vals ys its') (hz:ys.length<=sizeLine) :
  Inv X pins σ (upd H l (.lst ys)) { s with heap:=s.heap.update l (Obj.mapSeq f),toks:=t' }:=by
 have q:=PySem.IsL.update e f;rw[hf] at q;refine I.write (x:=l) (e:=l) (by rw[hH];exact trivial) (.inl rfl) (fun b' u hb hu=>(Heap.get?_update_other s.heap (Obj.mapSeq f) (Ne.symm hb)).trans hu) ⟨_,q⟩ ?_;exact⟨hz,its',_,hv,q⟩
theorem Inv.lnew {its:List Value} {t':Nat} (I:Inv X pins σ H s) (hv:Vals ys its) (hz:ys.length<=sizeLine) :
  Inv X pins σ (upd H s.heap.objs.size (.lst ys)) { s with heap:=s.heap.push { cls:=.type "list",data:=.seq its.toArray },toks:=t' } :=
 I.laid (fun _ _ q=>Heap.get?_push_of_some _ q) (xam _) ⟨hz,its,0,hv,Heap.get?_push_size _ rfl⟩
theorem Inv.fresh (I:Inv X pins σ H s):H s.heap.objs.size=none:=I.hok.fresh (xam _)
theorem Inv.lstM (I:Inv X pins σ H s) (hH:H l=some (.lst xs)):xs.length<=sizeLine/\∃(its:List Value) (n:Nat),Vals xs its/\xs.length=its.length/\s.heap.get? l=some { cls:=.type "list",data:=.seq its.toArray n }:=by
 obtain⟨z,its,n,r,e⟩:=I.hok l _ hH;exact⟨z,its,n,r,r.length,e⟩
theorem jkQ {n:Nat} (h:n<=sizeLine):Builtin.List.listTooLong n=false:=by
 unfold Builtin.List.listTooLong;exact decide_eq_false (by omega)
end
section
variable {X:Cx}
def jje:V->List V->Hp->VK->Prop:=fun x vs H Q=>∃l xs y,x=.ref l/\vs=[y]/\H l=some (.lst xs)/\xs.length<sizeLine/\Q .non (upd H l (.lst (xs++[y])))
theorem jfg:MtM X "list.append" jje:=by
 intro pins s σ H x vs v us Q I rx rv h;obtain⟨l,xs,y,rfl,rfl,hH,hz,q⟩:=h;cases rx;obtain⟨u,rfl,ru⟩:=rv.one;obtain⟨z,its,n,r,hl,e⟩:=I.lstM hH;refine call_meets F.slot_list_append ⟨_,e,rfl⟩ F.entry_list_append (F.args_list_append_2 _ _) (PySem.list_append l its.toArray n u (by rw[xas];omega)) ⟨e,?_⟩;refine⟨.non,_,I.lset (its':=its++[u]) hH e (by simp) (r.append (.cons ru .nil)) ?_,rfl,q⟩;rw[xao,xcb];omega
def rCat:R2:=fun x y H Q=>∃l b xs zs,x=.ref l/\y=.ref b/\H l=some (.lst xs)/\H b=some (.lst zs)/\xs.length+zs.length<=sizeLine/\∀p,H p=none->Q (.ref p) (upd H p (.lst (xs++zs)))
theorem jfX:OpR X (binaryOp .Add) rCat:=by
 intro pins s σ H x y v u Q I rx ry h;obtain⟨l,b,xs,zs,rfl,rfl,hH,hB,hz,q⟩:=h;cases rx;cases ry;obtain⟨z,its,n,r,hl,e⟩:=I.lstM hH;obtain⟨z2,its2,n2,r2,hl2,e2⟩:=I.lstM hB;refine PySem.P.add_list e e2 ?_ (by rw[xas,xas];omega);have ea:its.toArray++its2.toArray=(its++its2).toArray:=by simp
 rw[ea];exact⟨.ref _,_,I.lnew (t':=s.toks) (r.append r2) (by rw[xao];omega),rfl,q _ I.fresh⟩
def rRep:R2:=fun x y H Q=>∃l k xs,x=.ref l/\y=.int k/\H l=some (.lst xs)/\-(2^63)<=k/\k<2^63/\xs.length*k.toNat<=sizeLine /\
 ∀p,H p=none->Q (.ref p) (upd H p (.lst (List.replicate k.toNat xs).flatten))
theorem jmX {α:Type} (xs:List α) (k:Nat):(List.replicate k xs).flatten.length=k*xs.length:=by
 induction k with
 | zero=>simp
 | succ k ih=>rw[xbk,xbP,xao,ih,Nat.succ_mul,Nat.add_comm]
theorem joD:OpR X (binaryOp .Mult) rRep:=by
 intro pins s σ H x y v u Q I rx ry h;obtain⟨l,k,xs,rfl,rfl,hH,h1,h2,hz,q⟩:=h;cases rx;obtain⟨t,rfl⟩:=ry;obtain⟨z,its,n,r,hl,e⟩:=I.lstM hH;have hlen:its.toArray.size*k.toNat<=sizeLine:=by rw[xas,<- hl];exact hz
 have hcap:¬its.toArray.size*k.toNat>(2^63-1) / 8:=by
  have:(sizeLine:Nat)<=(2^63-1) / 8:=by decide
  omega
 have hfit:¬(!Builtin.List.listFitsIndex k)=true:=by
  rw[fitsIndex_both h1 h2];exact xaC
 have hlong:¬Builtin.List.listTooLong (its.toArray.size*k.toNat)=true:=by
  rw[jkQ hlen];exact xaC
 have hnew:List.foldl (fun x1 x2=>x1++x2) #[] (List.replicate (if its.toArray.isEmpty=true then 0 else k.toNat) its.toArray)=(List.replicate k.toNat its).flatten.toArray:=by
  have f0:∀m:Nat,List.foldl (fun x1 x2=>x1++x2) #[] (List.replicate m its.toArray)=(List.replicate m its).flatten.toArray:=fun m=>by
   have:=jg1 its m [];rw[List.nil_append] at this;exact this
  rw[f0];cases its with
  | nil=>simp
  | cons a r'=>rw[if_neg (by simp)]
 refine wpAny_binaryOp_repeat_ref (T:="list") (U:="int") (by decide) ⟨_,e,rfl⟩ (fun s'=>typeIs_int s' k t) noFill_list_mul F.fills_int_mul F.slot_int_rmul repeat_list F.slot_int_index.lookup
  (call_meets F.slot_int_rmul (typeIs_int s k t) F.entry_int_rmul (F.args_int_rmul_2 _ _) (int___rmul___int_list k t l its.toArray n)
   ⟨e,rfl,⟨_,e,rfl⟩,call_meets F.slot_list_mul ⟨_,e,rfl⟩ F.entry_list_mul (F.args_list_mul_2 _ _) (AutoListH.list___mul___list_int_3 l its.toArray n k t hfit hcap hlong) ⟨e,?_⟩⟩)
 rw[hnew];exact⟨.ref _,_,I.lnew (t':=s.toks) (r.rep k.toNat) (by rw[jmX,Nat.mul_comm];exact hz),rfl,q _ I.fresh⟩
end
end L2
namespace Att
open PySem PySem.W PySem.Calls PyProof.Rows
theorem jfh {P:Params} {h:Heap}:∀(ns:List Int) (vs:List Value),WellAll P h vs (ns.map WData.int)->IntsAre vs ns:=by
  intro ns;induction ns with
  | nil =>
    intro vs w;rw[xca] at w;cases w;exact .nil
  | cons n ns ih =>
    intro vs w;rw[xa5] at w;cases w with
    | cons a b =>
      cases a;exact .cons _ _ (ih _ b)
theorem jjf {l:OpenLaw} {n:Nat} (hn:l.most=some n) {P:Params} {h:Heap} {args:List WData} {vals:List Value}
    (hpre:l.row.toRowW.claim.pre args=true) (hwl:WellAll P h vals args) :
    ∃a vs ns,vals=[Value.ref a]/\args=[WData.list (ns.map WData.int)]/\h.get? a=some { cls:=.type "list",data:=.seq vs.toArray }/\IntsAre vs ns/\ns.length<=n:=by
  have hsh:WShape.hasAll [] args [.list .int]=true:=(pre_splitW hpre).1;have hc:l.pre.holds [] { args:=args }=true:=(pre_splitW hpre).2;obtain⟨d,r,rfl,h1,h2⟩:=hasAllW_cons hsh;obtain rfl:=hasAllW_nil h2;obtain⟨xs,rfl,h3⟩:=hasW_list h1;obtain⟨ns,rfl⟩:=items_int h3;have hlen:ns.length<=n:=by
    unfold OpenLaw.pre at hc;have h4:(WTm.not (.lt (.lit (.int (n:Int))) (.len (.arg 0)))).holds [] { args:=[.list (ns.map .int)] }=true:=by
      have h4:=(holds_andW hc).1;rw[hn] at h4;exact h4
    have h5:=condW_of h4 (w_not (w_lt w_lit (w_len_list (w_arg rfl))));rw[xaa] at h5;refine Nat.le_of_not_lt fun q=>?_;have q':(n:Int)<((ns.length:Nat):Int):=by omega
    first
      | (rw[decide_eq_true q'] at h5;exact absurd h5 (by decide))
      | (simp at h5;omega)
  cases hwl with
  | cons w1 w2 =>
    cases w2;cases w1 with
    | list ho hall=>exact⟨_,_,ns,rfl,rfl,ho,jfh ns _ hall,hlen⟩
theorem jjg (l:OpenLaw) (args:List WData):l.row.toRowW.claim.post args (.bool true) args=true :=
 postW_of (r:=l.row.toRowW) (X:=(true==true))
  (show WShape.has [] (.bool true) .bool=true by first | rfl | decide | simp [WShape.has,WShape.arms,WShape.armsAll])
  (show (WTm.eq .res (.lit (.bool true))).value [] { args:=args,res:=some (.bool true),after:=args }=some (.bool (true==true)) from w_eq_bool (w_res rfl) w_lit) rfl
theorem attach_call {l:OpenLaw} {n:Nat} {q:Program} {loose:List Str} {XP:(Str->Option Value)->Heap->Prop} {YP:World->Heap->Prop} {d:DefRec}
  (hn:l.most=some n) (hdf:d.params.defaults=[])
  (call:∀(w:World) (s₀ s₁:Shared) (mg mb:Str->Option Value) (fa:Addr) (o:Obj) (pm cd doc:Value) (a:Addr) (vs:List Value) (ns:List Int),
   Ground q loose [] XP w s₀ mg mb s₁.heap->YP w s₁.heap ->
   s₁.heap.get? fa=some o->o.data=.func (docDef d.name d.params d.body d.scope pm cd doc)->s₁.heap.CodeRec cd d.name->mg d.name=some (.ref fa) ->
   s₁.heap.get? a=some { cls:=.type "list",data:=.seq vs.toArray }->IntsAre vs ns->ns.length<=n->s₁.gens=#[] ->
   codeAny (model l.prog w) callerA (.call (.ref fa) ⟨[.ref a],[]⟩) (fun r s'=>r=.ok (.ret (.bool true))/\OldK s₁.heap s'.heap/\s'.os=s₁.os/\AllBare s'.gens) s₁) :
  WalkO q loose XP YP l.row.toRowW d [] (fun f vs=>PySem.call f vs):=by
 intro w s₀ s₁ mg mb G Y fa o pm cd doc dV kV ho hd hcd hD hmg hg args vals as hpre hlay hrd hwl hlo;obtain rfl:dV=.none:=Dflts.none hD hdf;obtain rfl:kV=.none:=Dflts.noKw hD;obtain⟨a,vs,ns,rfl,rfl,hobj,hints,hlen⟩:=jjf hn hpre hwl;refine enter_call (codeAny_mono (call w s₀ s₁ mg mb fa o pm cd doc a vs ns G Y ho (fd_plain hd) hcd hmg hobj hints hlen hg) fun r s' hq=>?_);obtain⟨rfl,h2,h3,h4⟩:=hq;exact⟨.inl ⟨.bool true,.bool true,[],rfl,fun _=>rfl,.bool true,jjg l _,fun _=>⟨List.Pairwise.nil,fun _ hm=>(nomatch hm)⟩⟩,h2,h3,h4⟩
end Att
namespace L2
open PySem PySem.Spec PyProof.Rows
theorem jg2:∀{vs:List Value} {ns:List Int},IntsAre vs ns->Vals (ns.map V.int) vs
 | _,_,.nil=>.nil
 | _,_,.cons n t h=>.cons ⟨t,rfl⟩ (jg2 h)
def Only (H:Hp):Prop:=∀b,H b=none\/∃o xs,H b=some (.frz o (.lst xs))
theorem jkR {P:Program} {w:World} {K:PySem.W.Frag} {mg mb:Str->Option Value} {CX:CXT} {k:Nat} {fa a:Addr} {fd:FuncData} {x:Str} {sp:Sp} {s₁:Shared} {vs:List Value} {ns:List Int}
    (KX:K.In s₁.heap) (hns:s₁.heap.Ns mainGlobals mg) (hb:s₁.heap.Ns builtinsNs mb) (hbb:∀x:Str,x≠"__name__"->mb x=bootBuiltins x) (hlim:s₁.heap.NoLimit) (hg:s₁.gens=#[])
    (ha:s₁.heap.get? a=some { cls:=.type "list",data:=.seq vs.toArray }) (hi:IntsAre vs ns) (hl:ns.length<=sizeLine) (hr:Room k callerA)
    (F:∀base:Heap,K.In base->base.Ns mainGlobals mg->FnOk P w K mg base CX k fa fd [x] sp) (hbind:∀(s:Shared) (u:Value),BindsTo s fd ⟨[u],[]⟩ [(x,u)])
    (hsp:∀H:Hp,Only H->SqL K H a (ns.map V.int)->sp [.ref a] H (fun v _=>v=.bl true) fun _ _ _=>False)
    (hCX:∀H e s',CX [] H s₁ (fun _ _ _=>False) e s'->False) :
    codeAny (model P w) callerA (.call (.ref fa) ⟨[.ref a],[]⟩) (fun r s'=>r=.ok (.ret (.bool true))/\OldK s₁.heap s'.heap/\s'.os=s₁.os/\AllBare s'.gens) s₁:=by
  have rv:=jg2 hi;have lenV:=hi.length;have core:∀H:Hp,Only H->SqL K H a (ns.map V.int)->HOk P w H s₁.heap->(∀b,H b≠none->b=a)->(H a≠none->K.lookup a=none) ->
      codeAny (model P w) callerA (.call (.ref fa) ⟨[.ref a],[]⟩) (fun r s'=>r=.ok (.ret (.bool true))/\OldK s₁.heap s'.heap/\s'.os=s₁.os/\AllBare s'.gens) s₁:=by
    intro H hO hS hok hA hK;have base_of:∀{b:Addr} {o:Obj},s₁.heap.get? b=some o->H b=none->(jkG s₁.heap H).get? b=some o:=fun e n=>jkH e n;have noA:∀{b:Addr} {o:Obj} {es:Array DictEntry} {ep:Nat},s₁.heap.get? b=some o->o.data=.dict es ep->H b=none:=fun {b o es ep} e d=>by
      cases q:H b with
      | none=>rfl
      | some u =>
        have e':b=a:=hA b (by rw[q];simp);subst e';rw[ha] at e;cases e;have d':Data.seq vs.toArray _=Data.dict es ep:=d;cases d'
    have nsK:∀{b:Addr} {m:Str->Option Value},s₁.heap.Ns b m->(jkG s₁.heap H).Ns b m:=fun {b m} ⟨o,es,ep,e,d,r⟩=>⟨o,es,ep,base_of e (noA e d),d,r⟩;have hKb:K.In (jkG s₁.heap H):=fun b o e=>base_of (KX b o e) (by
      cases q:H b with
      | none=>rfl
      | some u =>
        have e':b=a:=hA b (by rw[q];simp);subst e';rw[hK (by rw[q];simp)] at e;cases e)
    have hM:Mod K mg (jkG s₁.heap H):=⟨hKb,nsK hns,⟨mb,nsK hb,hbb⟩,let ⟨mc,h1,h2⟩:=hlim;⟨mc,nsK h1,h2⟩⟩;have e0:Env0 P w K mg (jkG s₁.heap H) callerA [] s₁ H:=⟨rfl,hM,fun b o e=>jmI e,Nat.le_of_eq (jiR _ _),trivial,fun b hb=>absurd (show b∈([]:List Addr) from hb) (by simp),hok,.of_eq hg⟩;refine codeAny_mono ((F _ hKb (nsK hns)).run callerA [] s₁ H ⟨[.ref a],[]⟩ [.ref a] [.ref a] _ _ hr e0 (hbind s₁ (.ref a)) (.cons rfl .nil) (hsp H hO hS)) fun r s' h=>?_;cases r with
    | error e=>exact (hCX H e s' h).elim
    | ok fl =>
      cases fl with
      | next=>exact False.elim h
      | brk=>exact False.elim h
      | cont=>exact False.elim h
      | ret u =>
        obtain⟨v,H',os,bare,un,hok',r',q⟩:=h;have q':v=.bl true:=q;subst q';obtain rfl:u=Value.bool true:=r';refine⟨rfl,OldK.of_keep fun b o e=>?_,os,bare⟩;cases q:H b with
        | none=>exact un.keep b o e q (by intro z;exact absurd (show b∈([]:List Addr) from z) (by simp)) (by simp)
        | some u =>
          rcases hO b with z | ⟨ob,xs,z⟩
          . rw[q] at z;cases z
          . have z2:=un.frzs b ob _ z
            obtain⟨e1,_⟩:=hok b _ z;obtain⟨e2,_⟩:=hok' b _ z2;rw[e] at e1;cases e1;exact e2
  cases hk:K.lookup a with
  | some o =>
    have e:=KX a o hk;rw[ha] at e;cases e;refine core (fun _=>none) (fun _=>.inl rfl) (.inr ⟨_,vs.toArray,_,hk,rfl,rfl,rfl,by rw[xas,lenV];exact hl,by simpa using rv⟩) (fun b u z=>by have z':(none:Option HO)=some u:=z;cases z') (fun b z=>absurd rfl z) fun z=>absurd rfl z
  | none =>
    refine core (fun b=>if b=a then some (.frz { cls:=.type "list",data:=.seq vs.toArray } (.lst (ns.map V.int))) else none) (fun b=>?_) (.inl (.inr ⟨{ cls:=.type "list",data:=.seq vs.toArray },if_pos rfl⟩)) (fun b u z=>?_) (fun b z=>?_) fun _=>hk
    . by_cases hb:b=a
      . exact .inr ⟨_,_,if_pos hb⟩
      . exact .inl (if_neg hb)
    . by_cases hb:b=a
      . have z':=(if_pos hb).symm.trans z
        cases z';subst hb;exact⟨ha,by rw[xaa];exact hl,vs,_,rv,ha⟩
      . have z':=(if_neg hb).symm.trans z
        cases z'
    . by_cases hb:b=a
      . exact hb
      . exact absurd (if_neg hb) z
theorem jmY {l:PySem.W.OpenLaw} {n k:Nat} {q:Program} {loose:List Str} {XP:(Str->Option Value)->Heap->Prop} {YP:World->Heap->Prop} {d:DefRec} {K:Params->PySem.W.Frag} {CX:World->CXT} {sp:World->Sp} {x:Str}
    (hn:l.most=some n) (hn2:n<=sizeLine) (hdf:d.params.defaults=[]) (hr:Room k callerA)
    (hY:∀(w:World) (h:Heap),YP w h->(K w.params).In h)
    (F:∀(w:World) (mg:Str->Option Value) (fa:Addr) (h:Heap),(K w.params).In h->h.Ns mainGlobals mg->mg d.name=some (.ref fa) ->
      ∃ fd : FuncData, (∀ (s : Shared) (u : Value), BindsTo s fd ⟨[u], []⟩ [(x, u)]) /\
        ∀base:Heap,(K w.params).In base->base.Ns mainGlobals mg->FnOk l.prog w (K w.params) mg base (CX w) k fa fd [x] (sp w))
    (hsp:∀(w:World) (H:Hp) (a:Addr) (ns:List Int),ns.length<=n->Only H->SqL (K w.params) H a (ns.map V.int)->sp w [.ref a] H (fun v _=>v=.bl true) fun _ _ _=>False)
    (hCX:∀(w:World) (H:Hp) (s:Shared) (e:Value) (s':Shared),CX w [] H s (fun _ _ _=>False) e s'->False) :
    PySem.W.WalkO q loose XP YP l.row.toRowW d [] (fun f vs=>PySem.call f vs):=by
  refine Att.attach_call hn hdf fun w s₀ s₁ mg mb fa o pm cd doc a vs ns G Y ho hd hcd hmg hobj hints hlen hg=>?_;have KX:=hY w _ Y;obtain⟨fd,hb,hF⟩:=F w mg fa _ KX G.T.g hmg;exact jkR KX G.T.g G.T.b G.T.builtins G.T.nolimit hg hobj hints (xa4 hlen hn2) hr hF hb (fun H hO hS=>hsp w H a ns hlen hO hS) fun H e s'=>hCX w H s₁ e s'
def jbI (s:Stmt):Arguments:=match s with
 | .FunctionDef _ a _ _ _ _ _ _ _ _=>a
 | _=>{ posonlyargs:=[],args:=[],vararg:=none,kwonlyargs:=[],kw_defaults:=[],kwarg:=none,defaults:=[] }
def jbj (s:Stmt):List Stmt:=match s with
 | .FunctionDef _ _ b _ _ _ _ _ _ _=>b
 | _=>[]
def jaj (s:Stmt):Scope:=match s with
 | .FunctionDef _ _ _ _ _ _ sc _ _ _=>sc
 | _=>{ kind:=.function,names:=[],isGenerator:=false,isCoroutine:=false }
abbrev CX0:CXT:=fun _ _ _ _ _ _=>False
abbrev E0:XK:=fun _ _ _=>False
theorem jao {X:Cx}:jh2 CX0 X E0:=fun _ _ _ _ _ _ _ h=>h.elim
theorem jjh {n:Nat} (h:n<=1000):n<sizeLine:=xaY h (by decide)
section
variable {X:Cx}
theorem pv (i:Nat) {x:Str} {pos:Pos} (hN:X.N[i]?=some x:=by rfl) (hv:Vis X.env.scope x:=by first | exact Or.inl rfl | exact Or.inr (Or.inl rfl) | exact Or.inr (Or.inr rfl)) (hd:(x==("__debug__":Str))=false:=by decide)
  (hcd:(x==("__classdict__":Str))=false:=by decide):PE X (.Name x pos) (jeE i):=jor hN hv hd hcd
end
theorem iteT {A B:Prop} (h:A):if true=true then A else B:=by
 rw[if_pos rfl];exact h
theorem jhw {c A B:Prop} [Decidable c] (h1:c->A) (h2:¬c->B):if c then A else B:=by
 by_cases h:c
 ·rw[if_pos h];exact h1 h
 ·rw[if_neg h];exact h2 h
def Same (H H':Hp):Prop:=∀b o,H b=some o->H' b=some o
theorem Same.refl (H:Hp):Same H H:=fun _ _ h=>h
theorem Same.trans {H H1 H2:Hp} (a:Same H H1) (b:Same H1 H2):Same H H2:=fun c o h=>b c o (a c o h)
theorem Same.free {H H':Hp} (e:Same H H') {l:Addr} (h:H' l=Option.none):H l=Option.none:=by
  cases q:H l with
  | none=>rfl
  | some o =>
    rw[e l o q] at h;cases h
theorem Same.seq {K:PySem.W.Frag} {H H':Hp} {a:Addr} {xs:List V} (e:Same H H') (h:SqL K H a xs):SqL K H' a xs:=by
 rcases h with (h | ⟨o,h⟩) | h
 ·exact .inl (.inl (e _ _ h))
 ·exact .inl (.inr ⟨o,e _ _ h⟩)
 ·exact .inr h
section
variable {prog:Program} {w:World} {A:Around} {R:Result->Shared->Prop} {s:Shared}
theorem jg3 {elt target iter:Expr} {ifs:List Expr} {scope:Scope} {pos:Pos} {it acc:Value} {env:Env} (I:Nat->Shared->Prop)
    (turn:∀n s,I n s->wpAny (model prog w) A (pyNext it) (fun r s₁=>match r with
      | none=>R (.ok .next) s₁
      | some v=>wpAny (model prog w) A (letOwnedTupleGo target it v) (fun _ s₁'=>wpAny (model prog w) A (assign target env v) (fun _ s₂ =>
          wpAny (model prog w) A (forIn ifs true fun c r=>if r=true then do let ok <- isTrue c env (eval c env);pure (ForInStep.yield ok) else pure (ForInStep.yield r)) (fun ok s₃ =>
            if ok=true then wpAny (model prog w) A (eval elt env) (fun x s₄ =>
              wpAny (model prog w) A (call (.builtin "list.append") [acc,x]) (fun _ s₅=>∃m,m<n/\I m s₅) (notedBy (model prog w) A env fun e s'=>R (.error e) s') s₄) (notedBy (model prog w) A env fun e s'=>R (.error e) s') s₃
            else ∃m,m<n/\I m s₃) (notedBy (model prog w) A env fun e s'=>R (.error e) s') s₂) (notedBy (model prog w) A env fun e s'=>R (.error e) s') s₁') (notedBy (model prog w) A env fun e s'=>R (.error e) s') s₁) (notedBy (model prog w) A env fun e s'=>R (.error e) s') s)
    (n:Nat) (h:I n s) :
    codeAny (model prog w) A (.compLoop (.ListComp elt [⟨target,iter,ifs,0⟩] scope pos) 0 it acc env) R s:=by
  refine codeAny_loop rfl I (fun n s hI=>?_) n h;show wpAny _ A ((compTurn (.ListComp elt [⟨target,iter,ifs,0⟩] scope pos) 0 it acc env).onRaise (fun x=>do noteFrame x env;theTreesLotGoes x)) _ _ s;refine wpAny_noted ?_;rw[compTurn_list];refine wpAny_bind (wpAny_standAt (wpAny_bind (wpAny_mono (turn n s hI) (fun r s₁ h₁=>?_) fun _ _ h'=>h')));cases r with
  | none=>exact wpAny_pure h₁
  | some v =>
    refine wpAny_bind (wpAny_mono h₁ (fun _ s₁' h₁'=>?_) fun _ _ h'=>h');refine wpAny_bind (wpAny_mono h₁' (fun _ s₂ h₂=>wpAny_bind (wpAny_mono h₂ (fun ok s₃ h₃=>?_) fun _ _ h'=>h')) fun _ _ h'=>h');cases ok with
    | false=>exact wpAny_pure ⟨rfl,h₃⟩
    | true =>
      exact wpAny_bind (wpAny_bind (wpAny_mono h₃ (fun x s₄ h₄=>wpAny_bind (wpAny_mono h₄ (fun _ s₅ h₅=>wpAny_pure (wpAny_pure ⟨rfl,h₅⟩)) fun _ _ h'=>h')) fun _ _ h'=>h'))
end
theorem jel {env:Env}:∀(names:List (Str × NameKind)) (cs:List (Str × Addr)),(∀y∈names,y.2=.free->∃c,env.cells.lookup y.1=some c) ->
    (∀y c,cs.lookup y=some c->env.cells.lookup y=some c) ->
    ∃cl:List (Str × Addr),(forIn (m:=Sem) names cs fun x r=>do
        if (x.2==NameKind.free)=true then do
          let a <- cellOf env x.1
          pure (ForInStep.yield ((x.1,a)::r))
        else pure (ForInStep.yield r))=pure cl/\(∀y c,cl.lookup y=some c->env.cells.lookup y=some c) /\
      (∀y,((y,NameKind.free)∈names\/∃c,cs.lookup y=some c)->∃c,cl.lookup y=some c)
  | [],cs,_,hc=>⟨cs,rfl,hc,fun y h=>h.elim (fun z=>nomatch z) id⟩
  | (n, k) :: r, cs, hn, hc => by
    by_cases hk:k=.free
    . subst hk
      obtain⟨c,e⟩:=hn (n,.free) xaS rfl;have hc':∀y d,((n,c)::cs).lookup y=some d->env.cells.lookup y=some d:=fun y d q=>by
        rw[xaW] at q;cases z:y==n with
        | true =>
          rw[z] at q;have:=beq_iff_eq.mp z;subst this;cases q;exact e
        | false=>rw[z] at q;exact hc y d q
      obtain⟨cl,h1,h2,h3⟩:=jel r ((n,c)::cs) (fun y hy=>hn y (xag _ hy)) hc';refine⟨cl,?_,h2,fun y hy=>h3 y ?_⟩
      . rw[List.forIn_cons]
        have ec:cellOf env n=pure c:=by unfold cellOf;rw[e]
        show ((if (NameKind.free==NameKind.free)=true then _ else _) >>= _)=_;rw[if_pos (by rfl)];show ((cellOf env n >>= _) >>= _)=_;rw[ec];exact h1
      . rcases hy with hy | ⟨d,hy⟩
        . rcases xap.mp hy with z | z
          . cases z
            exact .inr ⟨c,by rw[xaW,beq_self_eq_true]⟩
          . exact .inl z
        . refine .inr ?_
          rw[xaW];cases z:y==n with
          | true=>exact⟨c,rfl⟩
          | false=>exact⟨d,hy⟩
    . obtain⟨cl,h1,h2,h3⟩:=jel r cs (fun y hy=>hn y (xag _ hy)) hc
      refine⟨cl,?_,h2,fun y hy=>h3 y ?_⟩
      . rw[List.forIn_cons]
        have hb:(k==NameKind.free)=false:=by simpa using hk
        show ((if (k==NameKind.free)=true then _ else _) >>= _)=_;rw[if_neg (by rw[hb];decide)];exact h1
      . rcases hy with hy | hy
        . rcases xap.mp hy with z | z
          . cases z;exact absurd rfl hk
          . exact .inl z
        . exact .inr hy
theorem jem {env:Env} {scope:Scope} (hn:∀y∈scope.names,y.2=.free->∃c,env.cells.lookup y.1=some c) :
  ∃cl:List (Str × Addr),closureFor scope env=pure cl/\(∀y c,cl.lookup y=some c->env.cells.lookup y=some c)/\(∀y,(y,NameKind.free)∈scope.names->∃c,cl.lookup y=some c):=by
 obtain⟨cl,h1,h2,h3⟩:=jel (env:=env) scope.names [] hn (fun y c q=>nomatch q);refine⟨cl,?_,h2,fun y hy=>h3 y (.inl hy)⟩;unfold closureFor;show (_ >>= fun cs=>pure cs)=_;have e:∀m:Sem (List (Str × Addr)),(m >>= fun cs=>pure cs)=m:=fun m=>bind_pure m;rw[e];exact h1
inductive Ixs (N:List Str) (sc cs:Scope):List Str->List Nat->Prop
 | nil:Ixs N sc cs [] []
 | cons {y r j q} (h1:N[j]?=some y) (h2:sc.names.lookup y=some .cell\/sc.names.lookup y=some .free) (h3:cs.names.lookup y=some .free) (t:Ixs N sc cs r q):Ixs N sc cs (y::r) (j::q)
structure CompScope (N:List Str) (sc:Scope) (N':List Str) (ix:List Nat) (x:Str) (r:List Str) (cs:Scope):Prop where
 eq:N'=x::r
 kind:cs.kind=.function
 hcell:∀y∈cs.names,y.2≠.cell
 hnames:∀y∈cs.names,y.2=.local->cs.names.lookup y.1=some .local
 hx:cs.names.lookup x=some .local
 nd:(x::r).Nodup
 fr:∀y∈cs.names,y.2=.free->sc.names.lookup y.1=some .cell\/sc.names.lookup y.1=some .free
 ixs:Ixs N sc cs r ix
def jaN (σ:St) (ix:List Nat):St:=ix.map fun j=>(σ[j]?).getD none
def jlQ (X:Cx) (N':List Str) (cs:Scope) (cl:List (Str × Addr)) (s3:Shared) (H3:Hp) (fp:List Addr):Cx :=
 { X with N:=N',s₀:=s3,H₀:=H3,env:=compEnvC cs cl s3.heap.objs.size X.env,outer:=X.stack,stack:=X.stack,ex:=fp,fn:=fun _=>false,pn:=[],xe:=fun _ _=>False }
theorem jeG {env:Env} {cs:Scope} (hcell:∀y∈cs.names,y.2≠.cell) {y:Str} {k:NameKind} (h:(relabel cs env).names.lookup y=some k) (hk:k=.cell\/k=.free):(y,NameKind.free)∈cs.names:=by
 have m:=PySem.mem_of_lookup h;obtain⟨⟨n,k0⟩,h1,h2⟩:=xai.mp m;by_cases c:(k0==NameKind.free&&env.scope.kind==.function&&env.kindOf n==some .cell)=true
 ·have h2':(n,NameKind.cell)=(y,k):=by rw[<- h2];exact (if_pos c).symm
  cases h2';have:k0=.free:=by
   have z:=(xbG.mp (xbG.mp c).1).1;exact beq_iff_eq.mp z
  rw[this] at h1;exact h1
 ·have h2':(n,k0)=(y,k):=by rw[<- h2];exact (if_neg c).symm
  cases h2';rcases hk with rfl | rfl
  ·exact absurd rfl (hcell _ h1)
  ·exact h1
theorem jbk {env:Env}:∀{names:List (Str × NameKind)} {x:Str},names.lookup x=some .free ->
    (names.map fun (n,k)=>if (k==NameKind.free&&env.scope.kind==.function&&env.kindOf n==some .cell) then (n,NameKind.cell) else (n,k)).lookup x=some .cell \/
    (names.map fun (n,k)=>if (k==NameKind.free&&env.scope.kind==.function&&env.kindOf n==some .cell) then (n,NameKind.cell) else (n,k)).lookup x=some .free
  | [],_,h=>by simp at h
  | (n, k) :: r, x, h => by
    have ih:=@jbk env r x;rw[xa5];show List.lookup x ((if (k==NameKind.free&&env.scope.kind==.function&&env.kindOf n==some .cell)=true then (n,NameKind.cell) else (n,k))::_)=_\/List.lookup x ((if (k==NameKind.free&&env.scope.kind==.function&&env.kindOf n==some .cell)=true then (n,NameKind.cell) else (n,k))::_)=_;cases hx:x==n with
    | true =>
      simp only[xaW,hx] at h;cases h;by_cases hc:(NameKind.free==NameKind.free&&env.scope.kind==.function&&env.kindOf n==some .cell)=true
      . rw[if_pos hc];exact .inl (by simp only[xaW,hx])
      . rw[if_neg hc];exact .inr (by simp only[xaW,hx])
    | false =>
      simp only[xaW,hx] at h;by_cases hc:(k==NameKind.free&&env.scope.kind==.function&&env.kindOf n==some .cell)=true
      . rw[if_pos hc];simp only[xaW,hx];exact ih h
      . rw[if_neg hc];simp only[xaW,hx];exact ih h
theorem Ixs.get {N:List Str} {sc cs:Scope}:∀{r:List Str} {ix:List Nat},Ixs N sc cs r ix->∀{i:Nat} {y:Str},r[i]?=some y ->
    ∃j,ix[i]?=some j/\N[j]?=some y/\(sc.names.lookup y=some .cell\/sc.names.lookup y=some .free)/\cs.names.lookup y=some .free
  | _,_,.nil,i,y,h=>by simp at h
  | _,_,.cons h1 h2 h3 t,0,y,h=>by simp at h;subst h;exact⟨_,rfl,h1,h2,h3⟩
  | _, _, .cons h1 h2 h3 t, i + 1, y, h => by
    obtain⟨j,a,b⟩:=Ixs.get t (i:=i) (y:=y) (by simpa using h);exact⟨j,by simpa using a,b⟩
theorem Ixs.len {N:List Str} {sc cs:Scope}:∀{r:List Str} {ix:List Nat},Ixs N sc cs r ix->r.length=ix.length
 | _,_,.nil=>rfl
 | _,_,.cons _ _ _ t=>by rw[xaB,xaB,t.len]
section
variable {X:Cx} {pins:List (Addr × Obj)} {σ:St} {H:Hp} {s:Shared}
theorem Inv.compOk {N' r:List Str} {ix:List Nat} {x:Str} {cs:Scope} {cl:List (Str × Addr)} {fp:List Addr} (I:Inv X pins σ H s) (S:CompScope X.N X.env.scope N' ix x r cs)
  (h2:∀y c,cl.lookup y=some c->X.env.cells.lookup y=some c) (h3:∀y,(y,NameKind.free)∈cs.names->∃c,cl.lookup y=some c) (hf:∀b∈fp,jhp X pins H b) (hfp:∀b∈fp,b<s.heap.objs.size) :
  (jlQ X N' cs cl s H fp).Ok where
 mod:=I.ok.mod
 kind:=S.kind
 glob:=I.ok.glob
 blt:=I.ok.blt
 above:=xam _
 inj:=fun a b c ha hb=>I.ok.inj a b c (h2 a c ha) (h2 b c hb)
 has:=fun y hy=>h3 y (hy.elim (fun z=>jeG S.hcell z (.inl rfl)) fun z=>jeG S.hcell z (.inr rfl))
 cab:=fun _ _ z=>nomatch z
 hd:=I.ok.hd
 frames:=I.ok.frames
 stk:=.inl rfl
 exf:=fun b hb=>⟨xaK (hfp b hb),fun y c e=>(hf b hb).2.2.2.2.1 y c (h2 y c e)⟩
 bs:=I.bs
 bsz:=xa4 I.ok.bsz I.sz
 noex:=fun b o e hb=>by
  rcases (hf b hb).2.2.2.1 with z | z
  ·exact I.ok.noex b o e z
  ·exact absurd (xau (Heap.lt_size e) (xa4 I.ok.bsz z)) (xbw _)
 exfs:=fun b hb hs=>by
  rcases xap.mp (I.stkSub b hs) with z | z
  ·exact (hf b hb).2.1 z
  ·exact (hf b hb).2.2.1 z
 funs:=I.stack
 frf:=I.stkFree
theorem jfi {σ:St} {ix:List Nat} {i:Nat} {v:V} (h:(jaN σ ix)[i]?=some (some v)):∃j,ix[i]?=some j/\σ[j]?=some (some v):=by
  unfold jaN at h;rw[xat] at h;cases e:ix[i]? with
  | none=>rw[e] at h;cases h
  | some j =>
    rw[e] at h;refine⟨j,rfl,?_⟩;cases q:σ[j]? with
    | none =>
      have h':((σ[j]?).getD none)=some v:=by simpa using h
      rw[q] at h';cases h'
    | some o =>
      have h':((σ[j]?).getD none)=some v:=by simpa using h
      rw[q] at h';cases o with
      | none=>cases h'
      | some u=>cases h';rfl
theorem Inv.compStart {N' r:List Str} {ix:List Nat} {x:Str} {cs:Scope} {cl:List (Str × Addr)} {fp:List Addr} {h1:Heap} {tk:Nat} {m:Str->Option Value} (I:Inv X pins σ H s) (S:CompScope X.N X.env.scope N' ix x r cs)
    (h2:∀y c,cl.lookup y=some c->X.env.cells.lookup y=some c) (h3:∀y,(y,NameKind.free)∈cs.names->∃c,cl.lookup y=some c) (hf:∀b∈fp,jhp X pins H b) (hfp:∀b∈fp,b<s.heap.objs.size)
    (hn:h1.Ns s.heap.objs.size m) (hk:∀b o,s.heap.get? b=some o->h1.get? b=some o) :
    Inv (jlQ X N' cs cl s H fp) [] (none::jaN σ ix) H { s with heap:=h1,toks:=tk }:=by
  have ok:=I.compOk (N':=N') (fp:=fp) S h2 h3 hf hfp;obtain⟨mo,hno,hlo⟩:=id I.loc;refine⟨ok,rfl,I.bare,Un.kept hk,⟨m,hn,fun i y v e1 e2 e3=>?_⟩,fun y c e=>?_,I.hok.fresh (xam _),fun y c e=>I.freeC y c (h2 y c e),fun p hp=>absurd (show p∈([]:List (Addr × Obj)) from hp) (by simp),I.hok.kept hk,?_⟩
  . cases i with
    | zero=>cases e2
    | succ i =>
      have e1':r[i]?=some y:=by
        have:N'[i+1]?=some y:=e1;rw[S.eq] at this;simpa using this
      obtain⟨j,j1,j2,j3,j4⟩:=S.ixs.get e1';obtain⟨j',k1,k2⟩:=jfi (σ:=σ) (ix:=ix) (i:=i) (v:=v) (by simpa using e2);rw[j1] at k1;cases k1;obtain⟨u,ru,lk⟩:=hlo j y v j2 k2 (j3.elim (fun z=>.inr (.inl z)) fun z=>.inr (.inr z));refine⟨u,ru,?_⟩;obtain⟨c,hc⟩:=h3 y (PySem.mem_of_lookup j4);rcases lk with ⟨k,_⟩ | ⟨k,c',e',z⟩
      . have k':X.env.scope.names.lookup y=some .local:=k
        rcases j3 with q | q<;>(rw[q] at k';cases k')
      . rw[h2 y c hc] at e'
        cases e';refine .inr ⟨?_,c,hc,?_⟩
        . exact jbk (env:=X.env) j4
        . obtain⟨o,ho,hd⟩:=z
          exact⟨o,hk c o ho,hd⟩
  . obtain⟨v,o,ho,hd⟩:=I.cell y c (h2 y c e)
    exact⟨v,o,hk c o ho,hd⟩
  . show (none::jaN σ ix).length=N'.length
    rw[S.eq,xaB,xaB,S.ixs.len];unfold jaN;rw[xaa]
def PTs (X:Cx) (ifs:List Expr) (t:TT):Prop :=
  ∀ (E : Value -> Shared -> Prop) (pins : List (Addr × Obj)) (s : Shared) (σ : St) (H : Hp) (Q : Bool -> Hp -> Prop), (∀ e s', X.xe e s' -> E e s') -> Inv X pins σ H s -> t σ H Q ->
    wpAny (model X.prog X.w) X.A (forIn ifs true fun c r=>if r=true then do let ok <- isTrue c X.env (eval c X.env);pure (ForInStep.yield ok) else pure (ForInStep.yield r)) (TP X pins σ Q) E s
def jbU:TT:=fun _ H Q=>Q true H
theorem jaK {X:Cx}:PTs X [] jbU:=fun _ _ _ _ H _ _ I h=>wpAny_tests_nil ⟨H,I,h⟩
theorem jgm {X:Cx} {c:Expr} {t:TT} (h:PT X c t):PTs X [c] t:=fun _ pins s σ H Q hE I q=>wpAny_tests_one (wpAny_mono (h pins s σ H Q I q) (fun _ _ z=>z) hE)
def CompGo (J:It) (ρ:St) (g:TG) (tt:TT) (te:TE) (acc:Addr) (Z:Hp->Prop) (H1:Hp):Prop :=
  ∃ W : Nat -> Nat -> List V -> Hp -> Prop, (∃ m, W 0 m [] (upd H1 acc (.lst []))) /\ ∀ i m xs H, W i m xs H ->
    ((J.stop i H /\ Z H) \/ (J.go i H /\ ∃ (Nx : V -> Hp -> Prop) (Nn : Hp -> Prop), (∀ y H4, Nx y H4 -> H4 acc = some (.lst xs) /\ xs.length < sizeLine /\ ∃ m', m' < m /\ W (i + 1) m' (xs ++ [y]) (upd H4 acc (.lst (xs ++ [y])))) /\
      (∀H3,Nn H3->∃m',m'<m/\W (i+1) m' xs H3)/\∀v0 x H',J.yld i H x H'->g x (v0::ρ) H' fun σ2 H2=>(∃v,σ2=v::ρ)/\tt σ2 H2 fun b H3=>if b=true then te σ2 H3 Nx else Nn H3))
end
section
variable {X:Cx} {N' r:List Str} {ix:List Nat} {x:Str} {cs:Scope} {tg iter elt:Expr} {ifs:List Expr} {pos:Pos} {wi:TI} {g:TG} {tt:TT} {te:TE}
def jgn (wi:TI) (ix:List Nat) (g:TG) (tt:TT) (te:TE):TE:=fun σ H Q=>wi σ H fun J H1=>∀acc,H1 acc=none->CompGo J (jaN σ ix) g tt te acc (fun H'=>Q (.ref acc) H') H1
theorem CompScope.clos {sc:Scope} {N:List Str} (S:CompScope N sc N' ix x r cs) {env:Env} (he:env.scope=sc) (has:∀y,(env.kindOf y=some .cell\/env.kindOf y=some .free)->∃c,env.cells.lookup y=some c) :
  ∃cl:List (Str × Addr),closureFor cs env=pure cl/\(∀y c,cl.lookup y=some c->env.cells.lookup y=some c)/\(∀y,(y,NameKind.free)∈cs.names->∃c,cl.lookup y=some c) :=
 jem fun y hy hk=>has y.1 (by
  subst he;exact S.fr y hy hk)
end
section
variable {ρ:St} {g:TG} {tt:TT} {te:TE} {acc:Addr} {Z:Hp->Prop} {H1:Hp}
theorem jen {lo:Int} {n:Nat} (Pv:Nat->List V->Hp->Prop) (h0:Pv 0 [] (upd H1 acc (.lst [])))
  (hs:∀i xs H,i<n->Pv i xs H->te (some (.int (lo+i))::ρ) H fun y H4=>H4 acc=some (.lst xs)/\xs.length<sizeLine/\Pv (i+1) (xs++[y]) (upd H4 acc (.lst (xs++[y]))))
  (hd:∀xs H,Pv n xs H->Z H):CompGo (Itr lo n) ρ (jbt 0) jbU te acc Z H1:=by
 refine⟨fun i m xs H=>Pv i xs H/\i<=n/\m=n-i,⟨n,h0,xa6 _,rfl⟩,?_⟩;rintro i m xs H ⟨hp,hi,rfl⟩;by_cases hlt:i<n
 ·refine .inr ⟨hlt,(fun y H4=>H4 acc=some (.lst xs)/\xs.length<sizeLine/\Pv (i+1) (xs++[y]) (upd H4 acc (.lst (xs++[y])))),fun _=>False,fun y H4 q=>⟨q.1,q.2.1,n-(i+1),by omega,q.2.2,hlt,rfl⟩,fun _ z=>z.elim,?_⟩;rintro v0 x H' ⟨rfl,rfl⟩;exact⟨⟨_,rfl⟩,by simp only[jbU,if_true];exact hs i xs H' hlt hp⟩
 ·have:i=n:=by omega
  subst this;exact .inl ⟨xam _,hd xs H hp⟩
theorem je4 {K:PySem.W.Frag} {a:Addr} {zs:List V} (Pv:Nat->List V->Hp->Prop) (h0:Pv 0 [] (upd H1 acc (.lst []))) (hl:∀i xs H,i<=zs.length->Pv i xs H->SqT K H a zs)
  (hs:∀i z xs H,zs[i]?=some z->Pv i xs H->te (some z::ρ) H fun y H4=>H4 acc=some (.lst xs)/\xs.length<sizeLine/\Pv (i+1) (xs++[y]) (upd H4 acc (.lst (xs++[y]))))
  (hd:∀xs H,Pv zs.length xs H->Z H):CompGo (Itt K a) ρ (jbt 0) jbU te acc Z H1:=by
 refine⟨fun i m xs H=>Pv i xs H/\i<=zs.length/\m=zs.length-i,⟨zs.length,h0,xa6 _,rfl⟩,?_⟩;rintro i m xs H ⟨hp,hi,rfl⟩;have sq:=hl i xs H hi hp;by_cases hlt:i<zs.length
 ·refine .inr ⟨⟨zs,zs[i],sq,xad hlt⟩,(fun y H4=>H4 acc=some (.lst xs)/\xs.length<sizeLine/\Pv (i+1) (xs++[y]) (upd H4 acc (.lst (xs++[y])))),fun _=>False,fun y H4 q=>⟨q.1,q.2.1,zs.length-(i+1),by omega,q.2.2,hlt,rfl⟩,fun _ z=>z.elim,?_⟩;rintro v0 x H' ⟨rfl,hx⟩;exact⟨⟨_,rfl⟩,by simp only[jbU,if_true];exact hs i x xs H' (hx zs sq) hp⟩
 ·have:i=zs.length:=by omega
  subst this;exact .inl ⟨⟨zs,sq,xam _⟩,hd xs H hp⟩
theorem jji {K:PySem.W.Frag} {a:Addr} {zs:List V} (Pv:Nat->List V->Hp->Prop) (h0:Pv 0 [] (upd H1 acc (.lst []))) (hl:∀i xs H,i<=zs.length->Pv i xs H->SqL K H a zs)
  (hs:∀i z xs H,zs[i]?=some z->Pv i xs H->te (some z::ρ) H fun y H4=>H4 acc=some (.lst xs)/\xs.length<sizeLine/\Pv (i+1) (xs++[y]) (upd H4 acc (.lst (xs++[y]))))
  (hd:∀xs H,Pv zs.length xs H->Z H):CompGo (Itl K a) ρ (jbt 0) jbU te acc Z H1:=by
 refine⟨fun i m xs H=>Pv i xs H/\i<=zs.length/\m=zs.length-i,⟨zs.length,h0,xa6 _,rfl⟩,?_⟩;rintro i m xs H ⟨hp,hi,rfl⟩;have sq:=hl i xs H hi hp;by_cases hlt:i<zs.length
 ·refine .inr ⟨⟨zs,zs[i],sq,xad hlt⟩,(fun y H4=>H4 acc=some (.lst xs)/\xs.length<sizeLine/\Pv (i+1) (xs++[y]) (upd H4 acc (.lst (xs++[y])))),fun _=>False,fun y H4 q=>⟨q.1,q.2.1,zs.length-(i+1),by omega,q.2.2,hlt,rfl⟩,fun _ z=>z.elim,?_⟩;rintro v0 x H' ⟨rfl,hx⟩;exact⟨⟨_,rfl⟩,by simp only[jbU,if_true];exact hs i x xs H' (hx zs sq) hp⟩
 ·have:i=zs.length:=by omega
  subst this;exact .inl ⟨⟨zs,sq,xam _⟩,hd xs H hp⟩
end
end L2
namespace L2
open PySem PySem.Spec PyProof.Rows
section
variable {X:Cx}
theorem jeo {k:Int} {n:Nat} (h:k.natAbs<2^n):Builtin.Int.intBits k<=n:=by
 unfold Builtin.Int.intBits;split
 ·exact xa6 _
 ·rename_i h0
  have hk:k.natAbs≠0:=by
   intro z;apply h0;have:k=0:=Int.natAbs_eq_zero.mp z;subst this;rfl
  have:k.natAbs.log2<n:=(Nat.log2_lt hk).mpr h;omega
def Fit (i:Int):Prop:=i.natAbs<2^8000
theorem Fit.mul {i j:Int} (hi:Fit i) (hj:Fit j):IntMulOk i j:=by
 have h1:=jeo hi;have h2:=jeo hj;unfold IntMulOk;intro h;have h3:=(xbG.mp h).2;unfold Builtin.Int.intTooBig at h3;have h4:=of_decide_eq_true h3;have h5:(bitsLine:Int)=134217728:=by decide
 omega
theorem jas:OpR X (binaryOp .Mult) (rI (fun i j=>Fit i/\Fit j) fun i j=>.int (i*j)):=opI fun _ _ _ _ _ _ _ hc q=>mul_int q (hc.1.mul hc.2)
theorem Fit.log {i:Int} (h:Fit i):i.natAbs.log2<9000:=by
 by_cases h0:i.natAbs=0
 ·rw[h0];decide +kernel
 ·have:=(Nat.log2_lt h0).mpr h;omega
theorem jby:OpR X (binaryOp .FloorDiv) (rI (fun _ j=>0<j/\Fit j) fun i j=>.int (i / j)):=opI fun i j _ _ _ _ _ hc q=>by
 have h1:(0:Int)<j:=hc.1;exact floordiv_int (by omega) (by rw[xbR i (by omega)];exact q) (.inl (PyProof.noPylong_of_log2 hc.2.log))
theorem Fit.of {i:Int} {n:Nat} (h:i.natAbs<2^n) (hn:n<=8000:=by decide):Fit i:=xau h (xbH (by decide) hn)
theorem jct:CallR X (.builtin "isinstance") (fun xs H Q=>∃x c t b,xs=[x,.ty c]/\TyOf X.K H x t/\PySem.W.kitOne X.K t (.type c)=some b/\Q (.bl b) H):=by
 intro pins s σ H xs us Q I r h;obtain⟨x,c,t,b,rfl,ty,e,q⟩:=h;obtain⟨u,w',rfl,r1,r2⟩:=jmR r;cases r2;exact ji6 I r1 ty e fun tk=>⟨.bl b,H,I.tok tk,rfl,q⟩
mutual
inductive Rds (K:PySem.W.Frag) (H:Hp):V->PyData->Prop
 | non:Rds K H .non .none
 | bl (b:Bool):Rds K H (.bl b) (.bool b)
 | int (i:Int):Rds K H (.int i) (.int i)
 | str (x:Str):Rds K H (.str x) (.str x)
 | lst {a:Addr} {xs:List V} {ds:List PyData} (h:SqL K H a xs) (t:RdsAll K H xs ds):Rds K H (.ref a) (.list ds)
 | tup {a:Addr} {xs:List V} {ds:List PyData} (h:SqT K H a xs) (t:RdsAll K H xs ds):Rds K H (.ref a) (.tuple ds)
inductive RdsAll (K:PySem.W.Frag) (H:Hp):List V->List PyData->Prop
 | nil:RdsAll K H [] []
 | cons {v:V} {vs:List V} {d:PyData} {ds:List PyData} (h:Rds K H v d) (t:RdsAll K H vs ds):RdsAll K H (v::vs) (d::ds)
end
mutual
theorem Rds.reads {pins:List (Addr × Obj)} {σ:St} {H:Hp} {s:Shared} (I:Inv X pins σ H s):∀{x:V} {d:PyData} {u:Value},Rds X.K H x d->RelV x u->∃as,Reads s.heap u d as
  | _,_,_,.non,r=>by cases r;exact⟨_,.none⟩
  | _,_,_,.bl b,r=>by cases r;exact⟨_,.bool b⟩
  | _,_,_,.int i,r=>by obtain⟨t,rfl⟩:=r;exact⟨_,.int i t⟩
  | _,_,_,.str x,r=>by obtain⟨t,rfl⟩:=r;exact⟨_,.str x t⟩
  | _, _, _, .lst h t, r => by
    cases r;obtain⟨its,rv,pl,_⟩:=I.list h;obtain⟨o,ho,hc,n,hd⟩:=pl.isList;obtain⟨as,q⟩:=RdsAll.reads I t rv;exact⟨_,.list ho hc hd q⟩
  | _, _, _, .tup h t, r => by
    cases r;obtain⟨its,rv,pl,_⟩:=I.tuple h;obtain⟨o,ho,hc,n,hd⟩:=pl;obtain⟨as,q⟩:=RdsAll.reads I t rv;exact⟨_,.tuple ho hc hd q⟩
theorem RdsAll.reads {pins:List (Addr × Obj)} {σ:St} {H:Hp} {s:Shared} (I:Inv X pins σ H s):∀{xs:List V} {ds:List PyData} {us:List Value},RdsAll X.K H xs ds->Vals xs us->∃as,ReadsAll s.heap us ds as
  | _,_,_,.nil,r=>by cases r;exact⟨_,.nil⟩
  | _, _, _, .cons h t, r => by
    cases r with
    | cons r1 r2 =>
      obtain⟨as,q1⟩:=Rds.reads I h r1;obtain⟨bs,q2⟩:=RdsAll.reads I t r2;exact⟨_,.cons q1 q2⟩
end
theorem RdsAll.ints {K:PySem.W.Frag} {H:Hp}:∀ns:List Int,RdsAll K H (ns.map V.int) (ns.map PyData.int)
 | []=>.nil
 | n::r=>.cons (.int n) (RdsAll.ints r)
def jok (K:PySem.W.Frag) (neg:Bool):R2:=fun x y H Q=>∃dx dy,Rds K H x dx/\Rds K H y dy/\SeqAt.shaped dx=true/\SeqAt.shaped dy=true/\Q (.bl (if neg then !PyData.eqv dx dy else PyData.eqv dx dy)) H
theorem jg4 (hu:X.A.units+64<cLine):OpR X (compareOp .Eq) (jok X.K false):=by
 intro pins s σ H x y v u Q I rx ry ⟨dx,dy,hx,hy,sx,sy,q⟩;obtain⟨as,ra⟩:=hx.reads I rx;obtain⟨bs,rb⟩:=hy.reads I ry;exact eq_dataH ra rb sx sy hu ⟨.bl _,H,I,rfl,q⟩
theorem jh5 (hu:X.A.units+64<cLine):OpR X (compareOp .NotEq) (jok X.K true):=by
 intro pins s σ H x y v u Q I rx ry ⟨dx,dy,hx,hy,sx,sy,q⟩;obtain⟨as,ra⟩:=hx.reads I rx;obtain⟨bs,rb⟩:=hy.reads I ry;exact ne_dataH ra rb sx sy hu ⟨.bl _,H,I,rfl,q⟩
theorem jfT (hc:X.calm=true):CallR X (.builtin "all") (fun xs H Q=>∃(a:Addr) (bs:List Bool),xs=[.ref a]/\SqL X.K H a (bs.map V.bl)/\Q (.bl (bs.all id)) H):=by
  intro pins s σ H xs us Q I r h;obtain⟨a,bs,rfl,hq,q⟩:=h;obtain⟨u,rfl,rx⟩:=jeX r;cases rx;obtain⟨its,rv,pl,hz⟩:=I.list hq;have hl:=pl.isList;have hlt:a<s.heap.objs.size:=by obtain⟨_,e,_⟩:=hl;exact Heap.lt_size e
  refine call_all_walk (wpAny_pyIter_list hl ?_);refine⟨_,[s.heap.objs.size,a],[s.heap.objs.size],_,_,_,fun i=>(bs[i]?).getD true,rfl,Walks.list (A:=X.A.in1) (I.ok.hd hc) _ a (xaK hlt) its.toArray,⟨⟨_,Heap.get?_push_size _ rfl,rfl,rfl⟩,hl.push _⟩,?_,?_⟩
  . intro i v s' Q' E' hP hQ
    have hP':its[i]?=some v:=by simpa using hP
    have hb:∃b,bs[i]?=some b/\v=Value.bool b:=by
      cases e:bs[i]? with
      | none =>
        have l1:its.length=(bs.map V.bl).length:=rv.length.symm;rw[xaa] at l1;have l2:=List.getElem?_eq_none_iff.mp e;have l3:=(xae.mp hP').1;omega
      | some b =>
        obtain⟨u,e1,e2⟩:=rv.get (i:=i) (x:=V.bl b) (by rw[xat,e];rfl);rw[e1] at hP';cases hP';exact⟨b,rfl,e2⟩
    obtain⟨b,eb,rfl⟩:=hb;have hQ2:Q' ((bs[i]?).getD true) s':=hQ;rw[eb] at hQ2;exact wpAny_truthy_bool hQ2
  . intro h' tk hk
    have kp:∀b o,s.heap.get? b=some o->h'.get? b=some o:=fun b o e=>hk b o (fun hm=>by
      rcases xap.mp hm with e1 | hm
      . exact absurd (e1▸Heap.lt_size e) (xbw _)
      . cases hm) (Heap.get?_push_of_some _ e)
    refine⟨.bl _,H,I.kept kp,rfl,?_⟩;have l1:its.length=bs.length:=by rw[<- rv.length,xaa]
    have ea:(List.range its.toArray.size).all (fun i=>(bs[i]?).getD true)=bs.all id:=by
      rw[xas,l1,xb3,xbW,xbW];constructor
      . intro h b hb
        obtain⟨i,hi,e⟩:=xbv.mp hb;have z:=h i (xaH.mpr hi);rw[xad hi,e] at z;exact z
      . intro h i hi
        have hi':=xaH.mp hi;rw[xad hi'];exact h _ (xaw hi')
    rw[ea];exact q
end
end L2
namespace L2
open PySem PySem.Spec PyProof.Rows
def DictAt (e dx:Addr) (h:Heap):Prop:=∃o,h.get? e=some o/\o.dict=some dx
theorem DictAt.push {e dx:Addr} {h:Heap} {o:Obj} (z:DictAt e dx h):DictAt e dx (h.push o):=by
 obtain⟨x,h1,h2⟩:=z;exact⟨x,Heap.get?_push_of_some _ h1,h2⟩
theorem DictAt.update {e dx a:Addr} {h:Heap} {f:Obj->Obj} (hd:∀o,(f o).dict=o.dict) (hf:∀o,o.isFreed=false->(f o).isFreed=false) (z:DictAt e dx h):DictAt e dx (h.update a f):=by
 obtain⟨x,h1,h2⟩:=z;by_cases c:a=e
 ·subst c;exact⟨f x,Heap.get?_update_self f h1 (hf x (Heap.get?_some_iff.mp h1).2),(hd x).trans h2⟩
 ·exact⟨x,(Heap.get?_update_other _ _ c).trans h1,h2⟩
def XOk (P:Program) (w:World):CXT:=fun outer H s E e s'=>∃(ea C:Addr) (a0:Value) (H':Hp) (B:Heap) (pd:Option Addr),e=.ref ea/\Heap.FlyingW B outer ea (.ref C) a0 s'.heap/\s'.os=s.os/\AllBare s'.gens /\
 Un (frs outer) [] H H' s.heap s'.heap/\HOk P w H' B/\(∀b o,s.heap.get? b=some o->H b=none->b∉frs outer->B.get? b=some o)/\(∀b o,s.heap.get? b=some o->b∉frs outer->∃o',B.get? b=some o')/\(∀dx,pd=some dx->DictAt ea dx s'.heap)/\E (.ref C) pd H'
section
variable {X:Cx} {pins:List (Addr × Obj)} {σ:St} {H:Hp} {s:Shared}
def XP (X:Cx) (pins:List (Addr × Obj)) (σ:St) (E:XK) (ex:Value) (s':Shared):Prop:=∃H1 s1,Inv X pins σ H1 s1/\XOk X.prog X.w X.stack H1 s1 E ex s'
end
section
variable {P:Program} {w:World} {K:PySem.W.Frag} {mg:Str->Option Value} {base:Heap}
structure FunD (K:PySem.W.Frag) (x qual:Str) (st:Stmt) (f:Addr) (fd:FuncData) (dV:Value):Prop where
 ex:∃(oc:Value) (od:Option Addr) (kV doc pm:Value) (an:Option Addr) (cdv ct:Value) (osl:Array (Option Value)),
  fd=PySem.W.fnOf x qual (jbI st) (jbj st) (jaj st) dV kV doc pm an cdv ct/\K.lookup f=some ⟨oc,od,.func fd,osl⟩/\PySem.W.codeIn K cdv qual=true
 kp:PySem.W.keepIn K (.ref f)=true
theorem FunD.ok {x qual:Str} {st:Stmt} {f:Addr} {fd:FuncData} {dV:Value} {N ps:List Str} {k:Nat} {sp:Sp} (F:FunD K x qual st f fd dV) (S:FnScope N ps (jaj st)) (len:∀vs H Q E,sp vs H Q E->vs.length=ps.length)
  (hbody:∀(cdv:Value) (A:Around) (outer:List Env) (s:Shared) (H:Hp) (vs:List V) (Q:VK) (E:XK),Room k (A.deeper (envOfC qual (jaj st) s.heap.objs.size f cdv))->sp vs H Q E ->
   ∃t,PSs (jiN CX0 P w K mg base N qual (jaj st) f cdv A outer s H E).nox (jbj st) t/\t { nx:=fun _ H'=>Q .non H',rt:=Q } (start N vs) H):FnOk P w K mg base CX0 (k+1) f fd ps sp:=by
 obtain⟨oc,od,kV,doc,pm,an,cdv,ct,osl,rfl,lk,hcd⟩:=F.ex;refine fn_of lk hcd S len fun A outer s H vs Q E hr hsp=>?_;obtain⟨t,h,q⟩:=hbody cdv A outer s H vs Q E hr hsp;exact⟨t,h.nox,q⟩
theorem jhx {x qual:Str} {st:Stmt} {f:Addr} {oc dV:Value} {od an:Option Addr} {osl:Array (Option Value)} {kV doc pm cdv ct:Value} (l:K.lookup f=some ⟨oc,od,.func (PySem.W.fnOf x qual (jbI st) (jbj st) (jaj st) dV kV doc pm an cdv ct),osl⟩)
  (c:PySem.W.codeIn K cdv qual=true) (k:PySem.W.keepIn K (.ref f)=true):FunD K x qual st f (PySem.W.fnOf x qual (jbI st) (jbj st) (jaj st) dV kV doc pm an cdv ct) dV:=⟨⟨oc,od,kV,doc,pm,an,cdv,ct,osl,rfl,l,c⟩,k⟩
end
def At (K:PySem.W.Frag) (mg:Str->Option Value) (x:Str) (st:Stmt) (ps:List Str) (dvs:List V):Prop :=
 ∃f fd dV ds,FunD K x x st f fd dV/\mg x=some (.ref f)/\Binds K fd ps ds/\Vals dvs ds
def jak (P:Program) (w:World) (K:PySem.W.Frag) (mg:Str->Option Value) (base:Heap) (CX:CXT) (k:Nat) (x:Str) (ps:List Str) (dvs:List V) (sp:Sp):Prop :=
 ∃f fd ds,FnOk P w K mg base CX k f fd ps sp/\mg x=some (.ref f)/\PySem.W.keepIn K (.ref f)=true/\Binds K fd ps ds/\Vals dvs ds
section
variable {P:Program} {w:World} {K:PySem.W.Frag} {mg:Str->Option Value} {base:Heap}
theorem At.ok {x:Str} {st:Stmt} {N ps:List Str} {dvs:List V} {k:Nat} {sp:Sp} (F:At K mg x st ps dvs) (S:FnScope N ps (jaj st)) (len:∀vs H Q E,sp vs H Q E->vs.length=ps.length)
  (hbody:∀(f:Addr) (cdv:Value) (A:Around) (outer:List Env) (s:Shared) (H:Hp) (vs:List V) (Q:VK) (E:XK),Room k (A.deeper (envOfC x (jaj st) s.heap.objs.size f cdv))->sp vs H Q E ->
   ∃t,PSs (jiN CX0 P w K mg base N x (jaj st) f cdv A outer s H E).nox (jbj st) t/\t { nx:=fun _ H'=>Q .non H',rt:=Q } (start N vs) H):jak P w K mg base CX0 (k+1) x ps dvs sp:=by
 obtain⟨f,fd,dV,ds,F1,hm,hb,hd⟩:=F;exact⟨f,fd,ds,F1.ok S len (hbody f),hm,F1.kp,hb,hd⟩
end
section
variable {X:Cx} {CX:CXT} {k:Nat} {ps:List Str} {sp:Sp} {dvs:List V} {E:XK} {x:Str} {p pos:Pos} {e:Expr} {es:List Expr} {t:TA}
theorem jae (D:jak X.prog X.w X.K X.mg X.base CX k x ps dvs sp) (hr:Room k X.A) (hg:Gl X x) (hx:jh2 CX X E) (ha:PA X (e::es) t) (hdb:(x==("__debug__":Str))=false:=by decide)
  (he:starEach (e::es) X.env=(false,eval e X.env)::starEach es X.env:=by rfl) (hpl:(backTo pos (starEach es X.env)).any (·.1)=false:=by rfl):PE X (.Call (.Name x p) (e::es) [] pos) (jeY sp dvs E t):=by
 obtain⟨f,fd,ds,F,hm,hk,hb,hd⟩:=D;exact jmU F hr hg hm hk hb hd hx ha hdb he hpl
theorem ix_lt:IxR X (fun x y H Q=>jlN X.K x y H Q\/joj X.K x y H Q):=ix_list.or jaq
theorem jjj:MtR X "int.bit_length" (fun x xs H Q=>∃i,x=.int i/\xs=[]/\Q (.int (Builtin.Int.intBits i:Nat)) H):=by
 intro pins s σ H x xs v us Q I rx rv h;obtain⟨i,rfl,rfl,q⟩:=h;obtain⟨t,rfl⟩:=rx;cases rv;refine wpAny_call (codeAny_call_builtin F.slot_int_bit_length.plain F.entry_int_bit_length (F.slot_int_bit_length.check _ _ _ _ _ _ _ _ (typeIs_int s i t) (F.args_int_bit_length_1 _) (AutoIntG2.int_bit_length_int_0 i t _ _ _ (wants _ _) s ?_)));exact⟨.int _,H,I.tok _,⟨_,rfl⟩,q⟩
end
theorem jiO {k:Nat} {A:Around} (hr:Room k A):A.units+64<cLine:=hr.units
theorem Same.tup {K:PySem.W.Frag} {H H':Hp} {a:Addr} {xs:List V} (e:Same H H') (h:SqT K H a xs):SqT K H' a xs:=by
 rcases h with (h | ⟨o,h⟩) | h
 ·exact .inl (.inl (e _ _ h))
 ·exact .inl (.inr ⟨o,e _ _ h⟩)
 ·exact .inr h
theorem Same.new {H:Hp} {p:Addr} (h:H p=none) (o:HO):Same H (upd H p o):=fun b u q=>by rw[jaT (ja0 q h)];exact q
theorem at_mk {K:PySem.W.Frag} {h:Heap} {mg:Str->Option Value} {x:Str} {st:Stmt} {ps:List Str} {f:Addr} {oc kV doc pm cdv ct:Value} {od an:Option Addr} {osl:Array (Option Value)} (X:K.In h) (G:h.Ns mainGlobals mg)
  (hb:∀(kV doc pm:Value) (an:Option Addr) (cdv ct:Value) (us:List Value),us.length=ps.length->bindArgs (PySem.W.fnOf x x (jbI st) (jbj st) (jaj st) .none kV doc pm an cdv ct) ⟨us,[]⟩=pure (ps.zip us))
  (a:PySem.W.nsIn K mainGlobals x=some (some (.ref f))) (l:K.lookup f=some ⟨oc,od,.func (PySem.W.fnOf x x (jbI st) (jbj st) (jaj st) .none kV doc pm an cdv ct),osl⟩) (c:PySem.W.codeIn K cdv x=true) (k:PySem.W.keepIn K (.ref f)=true) :
  At K mg x st ps []:=⟨f,_,.none,[],jhx l c k,PySem.W.mg_of X G a,.all (hb kV doc pm an cdv ct),.nil⟩
theorem jlR {K:PySem.W.Frag} {h:Heap} {mg:Str->Option Value} {x:Str} {st:Stmt} {ps:List Str} {f D:Addr} {oc kV doc pm cdv ct:Value} {od an:Option Addr} {osl:Array (Option Value)} {oD:Obj} {items:Array Value} {n:Nat} {dvs:List V} {ds:List Value} (X:K.In h) (G:h.Ns mainGlobals mg)
  (hb:∀(kV doc pm:Value) (an:Option Addr) (cdv ct:Value) (us:List Value),(us++ds).length=ps.length->∃kk,bindArgs (PySem.W.fnOf x x (jbI st) (jbj st) (jaj st) (.ref D) kV doc pm an cdv ct) ⟨us,[]⟩=(seqItems? (.ref D) >>= kk)/\kk (some items)=pure (ps.zip (us++ds)))
  (a:PySem.W.nsIn K mainGlobals x=some (some (.ref f))) (l:K.lookup f=some ⟨oc,od,.func (PySem.W.fnOf x x (jbI st) (jbj st) (jaj st) (.ref D) kV doc pm an cdv ct),osl⟩) (c:PySem.W.codeIn K cdv x=true) (k:PySem.W.keepIn K (.ref f)=true)
  (lD:K.lookup D=some oD) (hD:oD.data=.seq items n) (hv:Vals dvs ds):At K mg x st ps dvs :=
 ⟨f,_,.ref D,ds,jhx l c k,PySem.W.mg_of X G a,fun s us KX hl=>by
  obtain⟨kk,h1,h2⟩:=hb kV doc pm an cdv ct us hl;exact BindsTo.of_defaults rfl (KX _ _ lD) hD h1 h2,hv⟩
section
variable {X:Cx} {st:Stmt} {jb9:List Stmt} {t u:TS}
def Rest (M:St->Hp->Prop) (u:TS) (D:Ends):Prop:=∀σ' H',M σ' H'->u D σ' H'
def joE (M:St->Hp->Prop) (t u:TS):TS:=fun D σ H=>t { D with nx:=M } σ H/\Rest M u D
theorem jcu (M:St->Hp->Prop) (h1:PS X st t) (h2:PSs X jb9 u):PSs X (st::jb9) (joE M t u):=by
  intro pins s σ H D I h;refine wpAny_execs_cons (thn (h1 pins s σ H { D with nx:=M } I h.1) fun f s1 q=>?_);cases f with
  | next =>
    obtain⟨σ',H',I',q⟩:=q;exact h2 pins s1 σ' H' D I' (h.2 σ' H' q)
  | ret v=>exact q
  | brk=>exact q
  | cont=>exact q
end
def Bd (n:Nat) (i:Int):Prop:=i.natAbs<2^n
theorem Bd.mul {n m:Nat} {i j:Int} (hi:Bd n i) (hj:Bd m j):Bd (n+m) (i*j):=by
 unfold Bd at *
 rw[xco,Nat.pow_add];exact Nat.mul_lt_mul_of_lt_of_le hi (xbb hj) (Nat.two_pow_pos m)
theorem Bd.mono {n m:Nat} {i:Int} (hi:Bd n i) (h:n<=m:=by decide):Bd m i:=xau hi (xbH (by decide) h)
theorem Bd.add {n:Nat} {i j:Int} (hi:Bd n i) (hj:Bd n j):Bd (n+1) (i+j):=by
 unfold Bd at *
 rw[Nat.pow_succ];have:=Int.natAbs_add_le i j;omega
theorem Bd.sub {n:Nat} {i j:Int} (hi:Bd n i) (hj:Bd n j):Bd (n+1) (i-j):=by
 unfold Bd at *
 rw[Nat.pow_succ];have:=Int.natAbs_sub_le i j;omega
theorem Bd.neg {n:Nat} {i:Int} (hi:Bd n i):Bd n (-i):=by unfold Bd at *;rw[xbO];exact hi
theorem Bd.fit {n:Nat} {i:Int} (hi:Bd n i) (h:n<=8000:=by decide):Fit i:=xau hi (xbH (by decide) h)
theorem Bd.of {i:Int} (h1:-1606938044258990275541962092341162602522202993782792835301376<i) (h2:i<1606938044258990275541962092341162602522202993782792835301376):Bd 200 i:=by
 unfold Bd;have e:(2^200:Nat)=1606938044258990275541962092341162602522202993782792835301376:=by decide
 rw[e];omega
theorem Fit.o {i:Int} (h1:-1606938044258990275541962092341162602522202993782792835301376<i) (h2:i<1606938044258990275541962092341162602522202993782792835301376):Fit i:=(Bd.of h1 h2).fit
def gk {α:Type} (n m:Nat) (us ws:List α):List α:=if us.length=n/\ws.length=m then us++ws else []
def AtK (K:PySem.W.Frag) (mg:Str->Option Value) (x:Str) (st:Stmt) (ps ks:List Str) (n m:Nat):Prop :=
 ∃f fd dV,FunD K x x st f fd dV/\mg x=some (.ref f)/\KBinds K fd ps ks (gk n m) (gk n m)
theorem jaZ {X:Cx} {K:PySem.W.Frag} (h:X.K=K):IxR X (joj K):=h▸jaq
theorem jaL {X:Cx} {K:PySem.W.Frag} (h:X.K=K):IxR X (jlN K):=h▸ix_list
theorem jfj {X:Cx} (hc:X.calm=true):CallR X (.builtin "max") (fun xs H Q=>∃(a:Addr) (ns:List Int),xs=[.ref a]/\SqL X.K H a (ns.map V.int)/\ns≠[]/\∀m:Int,m∈ns->(∀n∈ns,n<=m)->Q (.int m) H):=by
 intro pins s σ H xs us Q I r h;obtain⟨a,ns,rfl,hq,hne,q⟩:=h;obtain⟨u,rfl,rx⟩:=jeX r;cases rx;obtain⟨its,rv,pl,hz⟩:=I.list hq;have ha:=jbS rv;have hall:AllInts its.toArray:=ha.allInts;have hn:numsOf its=ns:=ha.numsOf;obtain⟨ps,e⟩:=hall.items;have hl:s.heap.IsList a (intItems ps):=by rw[<- e];exact pl.isList
 have en:ns=ps.toList.map (·.1):=by
  have z:=nums_intItems ps;rw[<- e] at z;rw[<- hn];exact z
 have hlen:ns.length=ps.size:=by rw[en,xaa,Array.length_toList]
 have hpos:0<ps.size:=by
  rw[<- hlen];exact xcj.mpr hne
 refine max_intList (I.ok.hd hc) hl hpos fun v h' tk hv hk=>?_;obtain⟨t,rfl⟩:=intItems_at hv;obtain⟨b1,b2⟩:=argBest_gt (numAt ps) (ps.size-1);have pick:∀i,i<ps.size->numAt ps i∈ns:=fun i hi=>by
  rw[en];refine xai.mpr ⟨ps[i],by simp,?_⟩;simp [numAt,hi]
 refine⟨.int _,H,I.kept hk,⟨_,rfl⟩,q _ (pick _ (by omega)) fun n hm=>?_⟩;rw[en] at hm;obtain⟨p,hp,rfl⟩:=xai.mp hm;obtain⟨i,hi,rfl⟩:=Array.mem_iff_getElem.mp (Array.mem_toList_iff.mp hp);have z:=b2 i (by omega);have ei:numAt ps i=ps[i].1:=by simp [numAt,hi]
 rw[ei] at z;exact z
end L2
namespace L2
open PySem
theorem ixT {K:PySem.W.Frag} {H:Hp} {r:Addr} {xs:List V} {i:Int} {v:V} {Q:VK} (k:SqT K H r xs) (e:atI xs i=some v) (q:Q v H):joj K (.ref r) (.int i) H Q:=⟨r,xs,i,v,rfl,rfl,k,e,q⟩
theorem ixL {K:PySem.W.Frag} {H:Hp} {r:Addr} {xs:List V} {i:Int} {v:V} {Q:VK} (k:SqL K H r xs) (e:atI xs i=some v) (q:Q v H):jlN K (.ref r) (.int i) H Q:=⟨r,xs,i,v,rfl,rfl,k,e,q⟩
def jkS (J:It) (g:TG) (tb:TS) (D:Ends) (σ:St) (H1:Hp):Prop:=∃W:Nat->Nat->St->Hp->Prop,(∃m,W 0 m σ H1)/\∀i m σ H,W i m σ H ->
 (J.stop i H/\D.nx σ H)\/(J.go i H/\∃N:St->Hp->Prop,(∀σ' H',N σ' H'->∃m',m'<m/\W (i+1) m' σ' H')/\∀x H',J.yld i H x H'->g x σ H' fun σ2 H2=>tb { D with nx:=N,ct:=N,bk:=D.nx } σ2 H2)
section
variable {K:PySem.W.Frag} {ta:TA} {tl:TE} {g:TG} {tb:TS} {D:Ends} {σ:St} {H:Hp} {ix:List Nat} {tt:TT} {te:TE} {Q:VK}
theorem jjk:jlG (jkL ta) g tb D σ H=ta σ H fun vs H1=>∃j:Int,vs=[.int j]/\-(2^62)<=j/\j<2^62/\jkS (Itr 0 j.toNat) g tb D σ H1:=rfl
theorem jjl:jlG (jmO ta) g tb D σ H=ta σ H fun vs H1=>∃i j:Int,vs=[.int i,.int j]/\(-(2^62)<=i/\i<2^62/\-(2^62)<=j/\j<2^62)/\jkS (Itr i (j-i).toNat) g tb D σ H1:=rfl
theorem jlS:jlG (jkK K tl) g tb D σ H=tl σ H fun x H1=>∃a,x=.ref a/\(∃xs,SqL K H1 a xs)/\jkS (Itl K a) g tb D σ H1:=rfl
theorem jlT:jlG (iTup K tl) g tb D σ H=tl σ H fun x H1=>∃a,x=.ref a/\(∃xs,SqT K H1 a xs)/\jkS (Itt K a) g tb D σ H1:=rfl
theorem jh6:jgn (jkL ta) ix g tt te σ H Q=ta σ H fun vs H1=>∃j:Int,vs=[.int j]/\-(2^62)<=j/\j<2^62/\∀acc,H1 acc=none->CompGo (Itr 0 j.toNat) (jaN σ ix) g tt te acc (fun H'=>Q (.ref acc) H') H1:=rfl
theorem jh7:jgn (jmO ta) ix g tt te σ H Q=ta σ H fun vs H1=>∃i j:Int,vs=[.int i,.int j]/\(-(2^62)<=i/\i<2^62/\-(2^62)<=j/\j<2^62)/\∀acc,H1 acc=none->CompGo (Itr i (j-i).toNat) (jaN σ ix) g tt te acc (fun H'=>Q (.ref acc) H') H1:=rfl
theorem jjm:jgn (jkK K tl) ix g tt te σ H Q=tl σ H fun x H1=>∃a,x=.ref a/\(∃xs,SqL K H1 a xs)/\∀acc,H1 acc=none->CompGo (Itl K a) (jaN σ ix) g tt te acc (fun H'=>Q (.ref acc) H') H1:=rfl
theorem jjn:jgn (iTup K tl) ix g tt te σ H Q=tl σ H fun x H1=>∃a,x=.ref a/\(∃xs,SqT K H1 a xs)/\∀acc,H1 acc=none->CompGo (Itt K a) (jaN σ ix) g tt te acc (fun H'=>Q (.ref acc) H') H1:=rfl
theorem FoR.lst {P:Prop} {a:Addr} {xs:List V} (k:SqL K H a xs) (h:P):(∃xs,SqL K H a xs)/\P:=⟨⟨xs,k⟩,h⟩
theorem FoR.tup {P:Prop} {a:Addr} {xs:List V} (k:SqT K H a xs) (h:P):(∃xs,SqT K H a xs)/\P:=⟨⟨xs,k⟩,h⟩
theorem FoR.len {P:List V->Prop} {a:Addr} {xs:List V} (k:SqL K H a xs) (h:P xs):∃x,(SqL K H a x\/SqT K H a x)/\P x:=⟨xs,.inl k,h⟩
theorem FoR.lenT {P:List V->Prop} {a:Addr} {xs:List V} (k:SqT K H a xs) (h:P xs):∃x,(SqL K H a x\/SqT K H a x)/\P x:=⟨xs,.inr k,h⟩
end
end L2
namespace L2
open PySem PySem.Spec PyProof.Rows
theorem Same.keepN {H H':Hp} {p:Addr} (h:Same H H') (n:H p=none) (o:HO):Same H (upd H' p o):=fun b u q=>by rw[jaT (ja0 q n)];exact h b u q
theorem Same.noneN {H H':Hp} {p:Addr} (h:Same H H') (n:H' p=none):H p=none:=by
  cases e:H p with
  | none=>rfl
  | some o =>
    have z:=h _ _ e;rw[n] at z;cases z
theorem jaS {n:Nat} (h:n<1000):n<sizeLine:=xau h (by decide)
section
variable {ρ:St} {te:TE} {tt:TT} {acc:Addr} {Z:Hp->Prop} {H1:Hp}
theorem jfk {lo:Int} {n:Nat} (f:Nat->V) (hn:n<1000) (hacc:H1 acc=none)
  (hs:∀(i:Nat) (H3:Hp) (R:V->Hp->Prop),i<n->Same H1 H3->(∀H4,Same H3 H4->R (f i) H4)->te (some (.int (lo+i))::ρ) H3 R)
  (hd:∀H',Same H1 H'->H' acc=some (.lst ((List.range n).map f))->Z H'):CompGo (Itr lo n) ρ (jbt 0) jbU te acc Z H1:=by
 refine jen (fun i xs H=>Same H1 H/\H acc=some (.lst xs)/\xs=(List.range i).map f) ⟨Same.new hacc _,jam,rfl⟩ ?_ ?_
 ·rintro i xs H hi ⟨g1,g2,rfl⟩;refine hs i H _ hi g1 fun H4 s4=>⟨s4 _ _ g2,jaS ?_,Same.keepN (g1.trans s4) hacc _,jam,?_⟩
  ·rw[xaa,xbf];omega
  ·rw[xaZ,xaq];rfl
 ·rintro xs H ⟨g1,g2,rfl⟩;exact hd H g1 g2
theorem jjo {lo:Int} {n:Nat} (f:Nat->V) (c:Nat->Bool) (hn:n<1000) (hacc:H1 acc=none)
  (ht:∀(i:Nat) (H3:Hp) (R:Bool->Hp->Prop),i<n->Same H1 H3->(∀H4,Same H3 H4->R (c i) H4)->tt (some (.int (lo+i))::ρ) H3 R)
  (hs:∀(i:Nat) (H3:Hp) (R:V->Hp->Prop),i<n->c i=true->Same H1 H3->(∀H4,Same H3 H4->R (f i) H4)->te (some (.int (lo+i))::ρ) H3 R)
  (hd:∀H',Same H1 H'->H' acc=some (.lst (((List.range n).filter c).map f))->Z H'):CompGo (Itr lo n) ρ (jbt 0) tt te acc Z H1:=by
 refine⟨fun i m xs H=>(Same H1 H/\H acc=some (.lst xs)/\xs=((List.range i).filter c).map f)/\i<=n/\m=n-i,⟨n,⟨Same.new hacc _,jam,rfl⟩,xa6 _,rfl⟩,?_⟩;rintro i m xs H ⟨⟨g1,g2,rfl⟩,hi,rfl⟩;have hl:(((List.range i).filter c).map f).length<sizeLine:=jaS (by
  rw[xaa];have:=xcc c (List.range i);rw[xbf] at this;omega)
 by_cases hlt:i<n
 ·refine .inr ⟨hlt,(fun y H4=>y=f i/\c i=true/\Same H1 H4/\H4 acc=some (.lst (((List.range i).filter c).map f))),fun H3=>c i=false/\Same H1 H3/\H3 acc=some (.lst (((List.range i).filter c).map f)),?_,?_,?_⟩
  ·rintro y H4 ⟨rfl,ci,s4,a4⟩;refine⟨a4,hl,n-(i+1),by omega,⟨Same.keepN s4 hacc _,jam,?_⟩,hlt,rfl⟩;rw[xaZ,xaD,xaq,xbr,if_pos ci];rfl
  ·rintro H3 ⟨ci,s3,a3⟩;refine⟨n-(i+1),by omega,⟨s3,a3,?_⟩,hlt,rfl⟩;rw[xaZ,xaD,xaq,xbr,if_neg (by rw[ci];decide)];simp
  ·rintro v0 x H' ⟨rfl,rfl⟩;refine⟨⟨_,rfl⟩,ht i H' _ hlt g1 fun H4 s4=>?_⟩;cases ci:c i with
   | true=>exact if_pos rfl▸hs i H4 _ hlt ci (g1.trans s4) fun H5 s5=>⟨rfl,rfl,g1.trans (s4.trans s5),s5 _ _ (s4 _ _ g2)⟩
   | false=>exact⟨rfl,g1.trans s4,s4 _ _ g2⟩
 ·have:i=n:=by omega
  subst this;exact .inl ⟨xam _,hd H g1 g2⟩
theorem joF {K:PySem.W.Frag} {a:Addr} {zs:List V} (f:V->V) (hn:zs.length<1000) (hacc:H1 acc=none) (hz:SqT K H1 a zs)
  (hs:∀(z:V) (H3:Hp) (R:V->Hp->Prop),z∈zs->Same H1 H3->(∀H4,Same H3 H4->R (f z) H4)->te (some z::ρ) H3 R)
  (hd:∀H',Same H1 H'->H' acc=some (.lst (zs.map f))->Z H'):CompGo (Itt K a) ρ (jbt 0) jbU te acc Z H1:=by
 refine je4 (zs:=zs) (fun i xs H=>Same H1 H/\H acc=some (.lst xs)/\xs=(zs.take i).map f) ⟨Same.new hacc _,jam,rfl⟩ (fun i xs H _ h=>h.1.tup hz) ?_ ?_
 ·rintro i z xs H hi ⟨g1,g2,rfl⟩;refine hs z H _ (xbi hi) g1 fun H4 s4=>⟨s4 _ _ g2,jaS ?_,Same.keepN (g1.trans s4) hacc _,jam,?_⟩
  ·rw[xaa,xaT];omega
  ·rw[xbI,hi,xaq];rfl
 ·rintro xs H ⟨g1,g2,rfl⟩;rw[xbD] at g2;exact hd H g1 g2
end
section
variable {K:PySem.W.Frag} {H:Hp} {a b:Addr} {Q:VK}
theorem jjp (ns:List Int):SeqAt.shaped (.tuple (ns.map PyData.int))=true:=by
 simp [SeqAt.shaped,PyData.canLay0,PyData.depth,PySem.W.ke_canLayAll0,PySem.W.ke_depthAll]
theorem jh8 {x y:List Int} (h1:SqT K H a (x.map V.int)) (h2:SqT K H b (y.map V.int)) (q:Q (.bl (decide (x=y))) H):jok K false (.ref a) (.ref b) H Q :=
 ⟨.tuple (x.map PyData.int),.tuple (y.map PyData.int),.tup h1 (RdsAll.ints _),.tup h2 (RdsAll.ints _),jjp _,jjp _,by
  have e:PyData.eqv (.tuple (x.map PyData.int)) (.tuple (y.map PyData.int))=decide (x=y):=PySem.W.ked_eqvAll x y;simp only[xcl,if_false,e];exact q⟩
theorem jgo {x y:List Int} (h1:SqL K H a (x.map V.int)) (h2:SqL K H b (y.map V.int)) (q:Q (.bl (decide (x=y))) H):jok K false (.ref a) (.ref b) H Q :=
 ⟨.list (x.map PyData.int),.list (y.map PyData.int),.lst h1 (RdsAll.ints _),.lst h2 (RdsAll.ints _),PySem.W.ke_shaped_ints _,PySem.W.ke_shaped_ints _,by
  have e:PyData.eqv (.list (x.map PyData.int)) (.list (y.map PyData.int))=decide (x=y):=PySem.W.ked_eqvAll x y;simp only[xcl,if_false,e];exact q⟩
theorem je5 {x y:List Int} (h1:SqL K H a (x.map V.int)) (h2:SqL K H b (y.map V.int)) (q:Q (.bl (!decide (x=y))) H):jok K true (.ref a) (.ref b) H Q :=
 ⟨.list (x.map PyData.int),.list (y.map PyData.int),.lst h1 (RdsAll.ints _),.lst h2 (RdsAll.ints _),PySem.W.ke_shaped_ints _,PySem.W.ke_shaped_ints _,by
  have e:PyData.eqv (.list (x.map PyData.int)) (.list (y.map PyData.int))=decide (x=y):=PySem.W.ked_eqvAll x y;simp only[if_true,e];exact q⟩
def tupD (nss:List (List Int)):List PyData:=nss.map fun ns=>.tuple (ns.map PyData.int)
theorem FoR.app {X:Prop} {L:Addr} {ps:List V} {x:V} {R:VK} (h:H L=some (.lst ps)) (hl:ps.length<sizeLine) (q:R .non (upd H L (.lst (ps++[x])))):((∃xs,SqL K H L xs)\/X)/\jje (.ref L) [x] H R :=
 ⟨.inl ⟨_,SqL.of h⟩,L,ps,x,rfl,rfl,h,hl,q⟩
end
theorem jkT {X:Cx} (hc:X.calm=true):CallR X (.builtin "sum") (fun xs H Q=>∃(a:Addr) (ns:List Int),xs=[.ref a]/\SqL X.K H a (ns.map V.int)/\Q (.int ns.sum) H):=by
 intro pins s σ H xs us Q I r h;obtain⟨a,ns,rfl,hq,q⟩:=h;obtain⟨u,rfl,rx⟩:=jeX r;cases rx;obtain⟨its,rv,pl,hz⟩:=I.list hq;have ha:=jbS rv;have hall:AllInts its.toArray:=ha.allInts;have hn:numsOf its=ns:=ha.numsOf;obtain⟨ps,e⟩:=hall.items;have hl:s.heap.IsList a (intItems ps):=by rw[<- e];exact pl.isList
 have en:ns=ps.toList.map (·.1):=by
  have z:=nums_intItems ps;rw[<- e] at z;rw[<- hn];exact z
 refine sum_intListG (I.ok.hd hc) hl fun h' tk t' hk=>?_;have es:preSum (numAt ps) ps.size=ns.sum:=by
  rw[preSum_eq,xbA (by simp),en]
 rw[es];exact⟨.int _,H,I.kept hk,⟨_,rfl⟩,q⟩
theorem jcV {X:Cx} (hc:X.calm=true):CallR X (.builtin "min") (fun xs H Q=>∃(a:Addr) (ns:List Int),xs=[.ref a]/\SqL X.K H a (ns.map V.int)/\ns≠[]/\∀m:Int,m∈ns->(∀n∈ns,m<=n)->Q (.int m) H):=by
 intro pins s σ H xs us Q I r h;obtain⟨a,ns,rfl,hq,hne,q⟩:=h;obtain⟨u,rfl,rx⟩:=jeX r;cases rx;obtain⟨its,rv,pl,hz⟩:=I.list hq;have ha:=jbS rv;have hall:AllInts its.toArray:=ha.allInts;have hn:numsOf its=ns:=ha.numsOf;obtain⟨ps,e⟩:=hall.items;have hl:s.heap.IsList a (intItems ps):=by rw[<- e];exact pl.isList
 have en:ns=ps.toList.map (·.1):=by
  have z:=nums_intItems ps;rw[<- e] at z;rw[<- hn];exact z
 have hlen:ns.length=ps.size:=by rw[en,xaa,Array.length_toList]
 have hpos:0<ps.size:=by
  rw[<- hlen];exact xcj.mpr hne
 refine min_intList (I.ok.hd hc) hl hpos fun v h' tk hv hk=>?_;obtain⟨t,rfl⟩:=intItems_at hv;obtain⟨b1,b2⟩:=argBest_lt (numAt ps) (ps.size-1);have pick:∀i,i<ps.size->numAt ps i∈ns:=fun i hi=>by
  rw[en];refine xai.mpr ⟨ps[i],by simp,?_⟩;simp [numAt,hi]
 refine⟨.int _,H,I.kept hk,⟨_,rfl⟩,q _ (pick _ (by omega)) fun n hm=>?_⟩;rw[en] at hm;obtain⟨p,hp,rfl⟩:=xai.mp hm;obtain⟨i,hi,rfl⟩:=Array.mem_iff_getElem.mp (Array.mem_toList_iff.mp hp);have z:=b2 i (by omega);have ei:numAt ps i=ps[i].1:=by simp [numAt,hi]
 rw[ei] at z;exact z
theorem FoR.tupOf {K:PySem.W.Frag} {H:Hp} {p:Addr} {ys:List V} {X:Prop} {R:Addr->Hp->Prop} (k:SqL K H p ys) (h:∀t H',Same H H'->H' t=some (.tup ys)->R t H'):∃ys,(SqL K H p ys/\∀l,H l=none->R l (upd H l (.tup ys)))\/(SqT K H p ys/\R p H) :=
 ⟨ys,.inl ⟨k,fun l hl=>h l _ (Same.new hl _) jam⟩⟩
theorem jaE {es:List Expr} {k:Nat} {jb9:List Expr} {pos:Pos} {env:Env}:starEach (.Tuple es k pos::jb9) env=(false,eval (.Tuple es k pos) env)::starEach jb9 env:=by
 rw[starEach];intro e p h;cases h
theorem jai {c:Const} {k:Nat} {jb9:List Expr} {pos:Pos} {env:Env}:starEach (.Constant c k pos::jb9) env=(false,eval (.Constant c k pos) env)::starEach jb9 env:=by
 rw[starEach];intro e p h;cases h
theorem jgp {op:UnaryOp} {a:Expr} {jb9:List Expr} {pos:Pos} {env:Env}:starEach (.UnaryOp op a pos::jb9) env=(false,eval (.UnaryOp op a pos) env)::starEach jb9 env:=by
 rw[starEach];intro e p h;cases h
theorem jac {x:Str} {jb9:List Expr} {pos:Pos} {env:Env}:starEach (.Name x pos::jb9) env=(false,eval (.Name x pos) env)::starEach jb9 env:=by
 rw[starEach];intro e p h;cases h
theorem jaB {a:Expr} {es:List Expr} {ks:List Keyword} {jb9:List Expr} {pos:Pos} {env:Env}:starEach (.Call a es ks pos::jb9) env=(false,eval (.Call a es ks pos) env)::starEach jb9 env:=by
 rw[starEach];intro e p h;cases h
theorem jbc {a b:Expr} {op:Operator} {jb9:List Expr} {pos:Pos} {env:Env}:starEach (.BinOp a op b pos::jb9) env=(false,eval (.BinOp a op b pos) env)::starEach jb9 env:=by
 rw[starEach];intro e p h;cases h
theorem jav {a b:Expr} {jb9:List Expr} {pos:Pos} {env:Env}:starEach (.Subscript a b pos::jb9) env=(false,eval (.Subscript a b pos) env)::starEach jb9 env:=by
 rw[starEach];intro e p h;cases h
theorem jbu {es:List Expr} {jb9:List Expr} {pos:Pos} {env:Env}:starEach (.List es pos::jb9) env=(false,eval (.List es pos) env)::starEach jb9 env:=by
 rw[starEach];intro e p h;cases h
theorem jcn {a:Expr} {gs:List Comprehension} {sc:Scope} {jb9:List Expr} {pos:Pos} {env:Env}:starEach (.ListComp a gs sc pos::jb9) env=(false,eval (.ListComp a gs sc pos) env)::starEach jb9 env:=by
 rw[starEach];intro e p h;cases h
theorem jjq {a:Expr} {os:List CmpOp} {es:List Expr} {jb9:List Expr} {pos:Pos} {env:Env}:starEach (.Compare a os es pos::jb9) env=(false,eval (.Compare a os es pos) env)::starEach jb9 env:=by
 rw[starEach];intro e p h;cases h
structure WE (X:Cx) (e:Expr) (t:TE):Prop where
 h:PE X e t
structure WA (X:Cx) (es:List Expr) (t:TA):Prop where
 h:PA X es t
structure WS (X:Cx) (st:Stmt) (t:TS):Prop where
 h:PS X st t
structure WSs (X:Cx) (st:List Stmt) (t:TS):Prop where
 h:PSs X st t
section
variable {X:Cx} {pos:Pos}
theorem jmZ {st:Stmt} {t:TS} (h:WS X st t):WSs X [st] t:=⟨jag h.h⟩
theorem joG {e:Expr} {te:TE} (he:WE X e te):WS X (.Return (some e) pos) (jiM te):=⟨jan he.h⟩
theorem we_ix {r:R2} {a b:Expr} {ta tb:TE} (hr:IxR X r) (ha:WE X a ta) (hb:PE X b tb) (hs:jjd b):WE X (.Subscript a b pos) (tOp r ta tb):=⟨jal hr ha.h hb hs⟩
theorem jdu {es:List Expr} {t:TA} (h:WA X es t):WE X (.List es pos) (jkN t):=⟨jaU h.h⟩
theorem jaI {es:List Expr} {k:Nat} {t:TA} (h:WA X es t):WE X (.Tuple es k pos) (jmT t):=⟨ja4 h.h⟩
theorem jaC:WA X [] jgU:=⟨jad⟩
theorem jah {e:Expr} {es:List Expr} {te:TE} {t:TA} (ha:WE X e te) (hr:WA X es t) (hs:starEach (e::es) X.env=(false,eval e X.env)::starEach es X.env):WA X (e::es) (jbF te t):=⟨jaa ha.h hr.h hs⟩
end
section
variable {P:Program} {w:World} {K:PySem.W.Frag} {mg:Str->Option Value} {base:Heap}
theorem At.okW {x:Str} {st:Stmt} {N ps:List Str} {dvs:List V} {k:Nat} {sp:Sp} (F:At K mg x st ps dvs) (S:FnScope N ps (jaj st)) (len:∀vs H Q E,sp vs H Q E->vs.length=ps.length)
  (hbody:∀(f:Addr) (cdv:Value) (A:Around) (outer:List Env) (s:Shared) (H:Hp) (vs:List V) (Q:VK) (E:XK),Room k (A.deeper (envOfC x (jaj st) s.heap.objs.size f cdv))->sp vs H Q E ->
   ∃t,WSs (jiN CX0 P w K mg base N x (jaj st) f cdv A outer s H E).nox (jbj st) t/\t { nx:=fun _ H'=>Q .non H',rt:=Q } (start N vs) H):jak P w K mg base CX0 (k+1) x ps dvs sp :=
 F.ok S len fun f cdv A outer s H vs Q E hr h=>let ⟨t,h1,h2⟩:=hbody f cdv A outer s H vs Q E hr h;⟨t,h1.h,h2⟩
end
section
variable {ρ:St} {te:TE} {tt:TT} {acc:Addr} {Z:Hp->Prop} {H1:Hp}
def SameT (H H':Hp):Prop:=∀a xs,H a=some (.tup xs)->H' a=some (.tup xs)
theorem Same.t {H H':Hp} (s:Same H H'):SameT H H':=fun a xs h=>s a _ h
theorem SameT.trans {H H' J:Hp} (s:SameT H H') (t:SameT H' J):SameT H J:=fun a xs h=>t a xs (s a xs h)
theorem SameT.refl (H:Hp):SameT H H:=fun _ _ h=>h
theorem SameT.upd {H:Hp} {a:Addr} {xs ys:List V} (h:H a=some (.lst xs)):SameT H (upd H a (.lst ys)):=fun b zs hb=>by
 have ne:b≠a:=fun e=>by
  subst e;rw[h] at hb;cases hb
 rw[jaT ne];exact hb
def Stab (p:Nat->V->Hp->Prop):Prop:=∀i y H H',p i y H->SameT H H'->p i y H'
theorem jm0 {p:Nat->V->Hp->Prop} {xs:List V} {y:V} {i:Nat} {H:Hp} (hl:xs.length=i) (hp:∀j z,xs[j]?=some z->p j z H) (py:p i y H):∀j z,(xs++[y])[j]?=some z->p j z H:=fun j z hz=>by
 by_cases cj:j<xs.length
 ·rw[xa3 cj] at hz;exact hp j z hz
 ·have cj2:j<(xs++[y]).length:=(xae.mp hz).1;rw[xao] at cj2;have e:j=i:=by
   have:j<xs.length+1:=cj2;omega
  subst e;rw[xaP (by omega),hl,Nat.sub_self] at hz;cases hz;exact py
theorem joH {lo:Int} {n:Nat} (p:Nat->V->Hp->Prop) (st:Stab p) (hn:n<1000) (hacc:H1 acc=none)
  (hs:∀(i:Nat) (H3:Hp) (R:V->Hp->Prop),i<n->Same H1 H3->(∀y H4,Same H3 H4->p i y H4->R y H4)->te (some (.int (lo+i))::ρ) H3 R)
  (hd:∀ys H',Same H1 H'->H' acc=some (.lst ys)->ys.length=n->(∀i y,ys[i]?=some y->p i y H')->Z H'):CompGo (Itr lo n) ρ (jbt 0) jbU te acc Z H1:=by
 refine jen (fun i xs H=>Same H1 H/\H acc=some (.lst xs)/\xs.length=i/\∀j y,xs[j]?=some y->p j y H) ⟨Same.new hacc _,jam,rfl,fun j y h=>by simp at h⟩ ?_ ?_
 ·rintro i xs H hi ⟨g1,g2,hl,hp⟩;refine hs i H _ hi g1 fun y H4 s4 py=>⟨s4 _ _ g2,jaS (by omega),Same.keepN (g1.trans s4) hacc _,jam,?_,?_⟩
  ·rw[xao,hl];rfl
  ·have u:=SameT.upd (ys:=xs++[y]) (s4 _ _ g2);exact jm0 hl (fun j z hz=>st _ _ _ _ (hp j z hz) (s4.t.trans u)) (st _ _ _ _ py u)
 ·rintro xs H ⟨g1,g2,hl,hp⟩;exact hd xs H g1 g2 hl hp
theorem jg5 {K:PySem.W.Frag} {a:Addr} {zs:List V} (p:Nat->V->Hp->Prop) (st:Stab p) (hn:zs.length<1000) (hacc:H1 acc=none) (hz:SqL K H1 a zs)
  (hs:∀(i:Nat) (z:V) (H3:Hp) (R:V->Hp->Prop),zs[i]?=some z->Same H1 H3->(∀y H4,Same H3 H4->p i y H4->R y H4)->te (some z::ρ) H3 R)
  (hd:∀ys H',Same H1 H'->H' acc=some (.lst ys)->ys.length=zs.length->(∀i y,ys[i]?=some y->p i y H')->Z H'):CompGo (Itl K a) ρ (jbt 0) jbU te acc Z H1:=by
 refine jji (zs:=zs) (fun i xs H=>Same H1 H/\H acc=some (.lst xs)/\xs.length=i/\∀j y,xs[j]?=some y->p j y H) ⟨Same.new hacc _,jam,rfl,fun j y h=>by simp at h⟩ (fun i xs H _ h=>h.1.seq hz) ?_ ?_
 ·rintro i z xs H hi ⟨g1,g2,hl,hp⟩;have hlt:=(xae.mp hi).1;refine hs i z H _ hi g1 fun y H4 s4 py=>⟨s4 _ _ g2,jaS (by omega),Same.keepN (g1.trans s4) hacc _,jam,?_,?_⟩
  ·rw[xao,hl];rfl
  ·have u:=SameT.upd (ys:=xs++[y]) (s4 _ _ g2);exact jm0 hl (fun j z hz=>st _ _ _ _ (hp j z hz) (s4.t.trans u)) (st _ _ _ _ py u)
 ·rintro xs H ⟨g1,g2,hl,hp⟩;exact hd xs H g1 g2 hl hp
theorem jlU {K:PySem.W.Frag} {a:Addr} {zs:List V} (p:Nat->V->Hp->Prop) (st:Stab p) (hn:zs.length<1000) (hacc:H1 acc=none) (hz:SqT K H1 a zs)
  (hs:∀(i:Nat) (z:V) (H3:Hp) (R:V->Hp->Prop),zs[i]?=some z->Same H1 H3->(∀y H4,Same H3 H4->p i y H4->R y H4)->te (some z::ρ) H3 R)
  (hd:∀ys H',Same H1 H'->H' acc=some (.lst ys)->ys.length=zs.length->(∀i y,ys[i]?=some y->p i y H')->Z H'):CompGo (Itt K a) ρ (jbt 0) jbU te acc Z H1:=by
 refine je4 (zs:=zs) (fun i xs H=>Same H1 H/\H acc=some (.lst xs)/\xs.length=i/\∀j y,xs[j]?=some y->p j y H) ⟨Same.new hacc _,jam,rfl,fun j y h=>by simp at h⟩ (fun i xs H _ h=>h.1.tup hz) ?_ ?_
 ·rintro i z xs H hi ⟨g1,g2,hl,hp⟩;have hlt:=(xae.mp hi).1;refine hs i z H _ hi g1 fun y H4 s4 py=>⟨s4 _ _ g2,jaS (by omega),Same.keepN (g1.trans s4) hacc _,jam,?_,?_⟩
  ·rw[xao,hl];rfl
  ·have u:=SameT.upd (ys:=xs++[y]) (s4 _ _ g2);exact jm0 hl (fun j z hz=>st _ _ _ _ (hp j z hz) (s4.t.trans u)) (st _ _ _ _ py u)
 ·rintro xs H ⟨g1,g2,hl,hp⟩;exact hd xs H g1 g2 hl hp
end
section
variable {X:Cx} {tg:Expr}
def Asc (x:Str):Prop:=(x.cps.all fun c=>decide (c<128))=true
def Its (x:Str):It:=⟨fun i _=>i<x.cps.size,fun i H v H'=>H'=H/\∃c,x.cps[i]?=some c/\v=.str ⟨#[c]⟩,fun i _=>x.cps.size<=i⟩
def iStr (tl:TE):TI:=fun σ H R=>tl σ H fun v H1=>∃x,v=.str x/\Asc x/\R (Its x) H1
theorem jjr:OpR X (compareOp .IsNot) (fun x y H Q=>∃c d,x=.bl c/\y=.bl d/\Q (.bl (c != d)) H):=by
 intro pins s σ H x y v u Q I rx ry h;obtain⟨c,d,rfl,rfl,q⟩:=h;cases rx;cases ry;exact isnot_bool (jaR I q rfl)
end
section
variable {tl:TE} {g:TG} {tb:TS} {D:Ends} {σ:St} {H:Hp} {ix:List Nat} {tt:TT} {te:TE} {Q:VK}
theorem jlV:jlG (iStr tl) g tb D σ H=tl σ H fun v H1=>∃x,v=.str x/\Asc x/\jkS (Its x) g tb D σ H1:=rfl
theorem jjs:jgn (iStr tl) ix g tt te σ H Q=tl σ H fun v H1=>∃x,v=.str x/\Asc x/\∀acc,H1 acc=none->CompGo (Its x) (jaN σ ix) g tt te acc (fun H'=>Q (.ref acc) H') H1:=rfl
end
theorem jm1:typeLookup (.type "list_reverseiterator") "__len__"=pure none:=by with_unfolding_all rfl
theorem jkU:typeLookup (.type "list_reverseiterator") "__length_hint__"=pure (some (.builtin "list_reverseiterator.__length_hint__")):=by with_unfolding_all rfl
theorem jkV {M:Model} {A:Around} {E:Value->Shared->Prop} {s:Shared} {Q:Bool->Shared->Prop} {I l:Addr} {i:Int} (h:s.heap.IsRevIter I l i) (q:Q false s):wpAny M A (Builtin.List.listLengthHint (.ref I)) Q E s:=by
 obtain⟨o,ho,hc,hd⟩:=h;have ty:s.TypeIs (.ref I) "list_reverseiterator":=⟨o,ho,hc⟩;unfold Builtin.List.listLengthHint;refine wpAny_bind (wpAny_specialOf ty jm1 ?_);dsimp only;refine wpAny_ite_split (fun c=>absurd c (by decide)) fun _=>?_;refine wpAny_ite_split (fun c=>absurd c (by decide)) fun _=>?_;refine wpAny_bind (wpAny_specialOf ty jkU ?_);dsimp only;have sp:splitId "list_reverseiterator.__length_hint__"=some ("list_reverseiterator","__length_hint__"):=by decide +kernel
 rw[sp];dsimp only;refine wpAny_bind (wpAny_isInstance (b:=true) ty (by with_unfolding_all rfl) ?_);refine wpAny_ite_split (fun c=>absurd c (by decide)) fun _=>?_;refine wpAny_ite_split (fun c=>?_) fun c=>absurd c (by decide);refine wpAny_ite_split (fun c=>absurd c (by decide)) fun _=>?_;exact wpAny_pure q
theorem jiB {prog:Program} {w:World} {A:Around} {s:Shared} {R:Result->Shared->Prop} {I l:Addr} {items:Array Value} (hh:A.handled=none) (hne:l≠I) (S:Addr) (res:Value) (c₀:Nat) (hI:s.heap.IsRevIter I l ((items.size:Int)-1)) (hl:s.heap.IsList l items) (hS:S≠I) (hSl:S≠l)
  (e:s.heap.get? S=some { cls:=.type "list",data:=.seq #[] c₀ }) (hz:items.size<=sizeLine)
  (q:∀(h':Heap) (tk:Nat) (acc':Array Value) (c':Nat),(∀b o,b≠S->b≠I->s.heap.get? b=some o->h'.get? b=some o)->h'.get? S=some { cls:=.type "list",data:=.seq acc' c' }->ItemsOf (fun i v=>items[items.size-1-i]?=some v) acc' items.size->R (.ok (.ret res)) { s with heap:=h',toks:=tk }) :
  wpAny (model prog w) A.in1 (Builtin.List.listExtendWith (.ref S) (.ref I) res)
   (fun fin s'=>match fin with | .done f=>R (.ok f) s' | .again c'=>c'.quiet=true/\codeAny (model prog w) A c' R s') (fun e s'=>R (.error e) s') s:=by
 obtain⟨o,ho,hc,hd⟩:=id hI;have ty:s.TypeIs (.ref I) "list_reverseiterator":=⟨o,ho,hc⟩;unfold Builtin.List.listExtendWith;refine wpAny_bind (wpAny_typeOf ty ?_);refine wpAny_ite_split (fun c=>?_) fun _=>?_
 ·exfalso;have e1:Builtin.List.listSameRef (.ref S) (.ref I)=false:=by
   simp [Builtin.List.listSameRef,hS]
  rw[e1] at c
  revert c
  decide
 refine wpAny_bind (wpAny_pyIter_revIter hI ?_);refine wpAny_bind (wpAny_holding (jkV hI ?_));refine wpAny_ite_split (fun c=>absurd c (by decide)) fun _=>?_;have W:=(Walks.listRev (prog:=prog) (w:=w) (A:=A.in1) hh I l hne items).toS;refine wpAny_pure ⟨plainId_quiet F.plain_extend_loop _,?_⟩;refine codeAny_extend_loopS W hz S (by simp [hS,hSl]) res items.size 0 s #[] c₀ rfl (xa6 _) ⟨xa6 _,by simpa using hI,hl⟩ e ⟨rfl,fun j v h=>by simp at h⟩ fun s' acc' c' mv e' it=>?_;have eq:=Moved.eq_with mv;rw[eq];exact q s'.heap s'.toks acc' c' (fun b o h1 h2 e=>mv.heap b o (by simp [h1,h2]) e) e' it
theorem jkW {prog:Program} {w:World} {A:Around} {s:Shared} {R:Result->Shared->Prop} {I l:Addr} {items:Array Value} (hh:A.handled=none) (hne:l≠I) (S:Addr) (hI:s.heap.IsRevIter I l ((items.size:Int)-1)) (hl:s.heap.IsList l items) (hS:S≠I) (hSl:S≠l)
  (e:s.heap.get? S=some { cls:=.type "list",data:=.seq #[] }) (hz:items.size<=sizeLine)
  (q:∀(h':Heap) (tk:Nat) (acc':Array Value) (c':Nat),(∀b o,b≠S->b≠I->s.heap.get? b=some o->h'.get? b=some o)->h'.get? S=some { cls:=.type "list",data:=.seq acc' c' }->ItemsOf (fun i v=>items[items.size-1-i]?=some v) acc' items.size->R (.ok (.ret .none)) { s with heap:=h',toks:=tk }) :
  wpAny (model prog w) A.in1 (Builtin.«list.__init__» { pos:=[.ref S,.ref I] })
   (fun fin s'=>match fin with | .done f=>R (.ok f) s' | .again c'=>c'.quiet=true/\codeAny (model prog w) A c' R s') (fun e s'=>R (.error e) s') s:=by
 unfold Builtin.«list.__init__»;dsimp only;refine wpAny_ite_split (fun c=>absurd c (by decide)) fun _=>?_;refine wpAny_ite_split (fun c=>absurd c (by simp)) fun _=>?_;refine wpAny_bind (wpAny_bind (wpAny_seqItems e rfl (wpAny_pure ?_)));refine wpAny_bind (wpAny_updateSeq e rfl ?_ (by simp) (by simp));refine wpAny_bind (wpAny_letGo ?_);have eS:=Heap.get?_update_self (Obj.mapSeq fun _=>(#[]:Array Value)) e rfl;have eO:∀b,b≠S->(s.heap.update S (Obj.mapSeq fun _=>(#[]:Array Value))).get? b=s.heap.get? b:=fun b hb=>Heap.get?_update_other s.heap _ (Ne.symm hb);obtain⟨o,ho,hc,hd⟩:=hI;obtain⟨o2,ho2,hc2,n2,hd2⟩:=hl;refine jiB (s:={ s with heap:=s.heap.update S (Obj.mapSeq fun _=>(#[]:Array Value)) }) (items:=items) hh hne S .none _ ⟨o,(eO I (Ne.symm hS)).trans ho,hc,hd⟩ ⟨o2,(eO l (Ne.symm hSl)).trans ho2,hc2,n2,hd2⟩ hS hSl eS hz fun h' tk acc' c' k e' it=>?_;exact q h' tk acc' c' (fun b o h1 h2 hb=>k b o h1 h2 ((eO b h1).trans hb)) e' it
theorem jgq {prog:Program} {w:World} {A:Around} {E:Value->Shared->Prop} {s:Shared} {Q:Value->Shared->Prop} {I l:Addr} {items:Array Value} (hh:A.handled=none) (hne:l≠I) (hI:s.heap.IsRevIter I l ((items.size:Int)-1)) (hl:s.heap.IsList l items) (hz:items.size<=sizeLine)
  (q:∀(h':Heap) (tk:Nat) (acc':Array Value) (c':Nat),(∀b o,b≠I->s.heap.get? b=some o->h'.get? b=some o)->h'.get? s.heap.objs.size=some { cls:=.type "list",data:=.seq acc' c' }->ItemsOf (fun i v=>items[items.size-1-i]?=some v) acc' items.size->Q (.ref s.heap.objs.size) { s with heap:=h',toks:=tk }) :
  wpAny (model prog w) A (call (.type "list") [.ref I]) Q E s:=by
 obtain⟨o,ho,hc,hd⟩:=hI;obtain⟨o2,ho2,hc2,n2,hd2⟩:=hl;have n1:s.heap.objs.size≠I:=Ne.symm (xaK (Heap.lt_size ho));have n2':s.heap.objs.size≠l:=Ne.symm (xaK (Heap.lt_size ho2));refine callType_codes F.called_list (F.typeCall_list_1 _) F.entry_list_init (Q₁:=fun obj s₁=>obj=.ref s.heap.objs.size/\s₁={ s with heap:=s.heap.push { cls:=.type "list",data:=.seq #[] } }) (code_list_new _ ⟨rfl,rfl⟩) ?_;rintro obj s₁ ⟨rfl,rfl⟩;have eS:(s.heap.push { cls:=.type "list",data:=.seq #[] }).get? s.heap.objs.size=some { cls:=.type "list",data:=.seq #[] }:=Heap.get?_push_size _ rfl;refine⟨⟨_,eS,rfl⟩,F.args_list_init_2 _ _,?_⟩;refine jkW (A:=A.in1) (s:={ s with heap:=s.heap.push { cls:=.type "list",data:=.seq #[] } }) (items:=items) hh hne s.heap.objs.size ⟨o,Heap.get?_push_of_some _ ho,hc,hd⟩ ⟨o2,Heap.get?_push_of_some _ ho2,hc2,n2,hd2⟩ n1 n2' eS hz fun h' tk acc' c' k e' it=>?_;exact⟨rfl,q h' tk acc' c' (fun b o h1 hb=>k b o (xaK (Heap.lt_size hb)) h1 (Heap.get?_push_of_some _ hb)) e' it⟩
theorem Vals.app {xs ys:List V} {us vs:List Value} (h:Vals xs us) (k:Vals ys vs):Vals (xs++ys) (us++vs):=by
 induction h with
 | nil=>exact k
 | cons r _ ih=>exact .cons r ih
theorem Vals.rev {xs:List V} {us:List Value} (h:Vals xs us):Vals xs.reverse us.reverse:=by
  induction h with
  | nil=>exact .nil
  | cons r _ ih =>
    rw[xaR,xaR];exact Vals.app ih (.cons r .nil)
theorem jjt {items acc:Array Value} (h:ItemsOf (fun i v=>items[items.size-1-i]?=some v) acc items.size):acc.toList=items.toList.reverse:=by
 obtain⟨h1,h2⟩:=h;refine xcq fun i=>?_;by_cases hi:i<items.size
 ·have e:acc[i]?=some acc[i]:=Array.getElem?_eq_getElem (by omega);have z:=h2 i _ e;rw[xcd (by rw[Array.length_toList];exact hi),Array.length_toList,Array.getElem?_toList,Array.getElem?_toList,e,z]
 ·rw[xbq (by rw[Array.length_toList];omega),xbq (by rw[xbl,Array.length_toList];omega)]
section
variable {X:Cx} {e:Expr} {te:TE} {p p' pos pos':Pos}
def jgr (K:PySem.W.Frag) (te:TE):TE:=fun σ H Q=>te σ H fun x H1=>∃a ys,x=.ref a/\SqL K H1 a ys/\∀l,H1 l=none->Q (.ref l) (upd H1 l (.lst ys.reverse))
theorem jfY (hc:X.calm=true) (hg:Gl X "list") (hm:X.mg "list"=none) (hg':Gl X "reversed") (hm':X.mg "reversed"=none) (he:PE X e te)
  (h1:starEach [e] X.env=[(false,eval e X.env)]:=by rfl) (h2:starEach [.Call (.Name "reversed" p') [e] [] pos'] X.env=[(false,eval (.Call (.Name "reversed" p') [e] [] pos') X.env)]:=by rfl) :
  PE X (.Call (.Name "list" p) [.Call (.Name "reversed" p') [e] [] pos'] [] pos) (jgr X.K te):=by
 intro pins s σ H Q I h;refine wpAny_Call_Name_kw (jeF I hg hm boot_list ?_);refine PyProof.Rows.callWith_type1 ?_ h2 rfl;rw[h2];show wpAny _ _ (spliced ((false,eval (.Call (.Name "reversed" p') [e] [] pos') X.env)::[])) _ _ s;refine Calls.spliced_cons ?_;refine wpAny_Call_Name_kw (jeF I hg' hm' boot_reversed ?_);refine PyProof.Rows.callWith_type1 ?_ h1 rfl;rw[h1];show wpAny _ _ (spliced ((false,eval e X.env)::[])) _ _ s;refine Calls.spliced_cons (thn (he pins s σ H _ I h) fun u s1 ⟨x,H1,I1,r1,q1⟩=>?_);obtain⟨a,ys,rfl,hq,q⟩:=q1;cases r1;obtain⟨its,rv,pl,hz⟩:=I1.list hq;have hlen:=rv.length;refine Calls.spliced_nil ?_;refine call_reversed_list pl.isList ?_;refine Calls.spliced_nil ?_;have hla:a<s1.heap.objs.size:=by
  obtain⟨o,ho,_⟩:=pl.isList;exact Heap.lt_size ho
 have hl':(s1.heap.push (revObj a ((its.toArray.size:Int)-1))).IsList a its.toArray:=by
  obtain⟨o,ho,hc',n,hd⟩:=pl.isList;exact⟨o,Heap.get?_push_of_some _ ho,hc',n,hd⟩
 refine jgq (I1.ok.hd hc) (xaK hla) ⟨_,Heap.get?_push_size _ rfl,rfl,rfl⟩ hl' (by rw[xas];omega) fun h' tk acc' c' k e' it=>?_;have er:=jjt it;rw[List.toList_toArray] at er;have kp:∀(b:Addr) (o:Obj),s1.heap.get? b=some o->h'.get? b=some o:=fun b o hb=>k b o (xaK (Heap.lt_size hb)) (Heap.get?_push_of_some _ hb);have sz:(s1.heap.push (revObj a ((its.toArray.size:Int)-1))).objs.size=s1.heap.objs.size+1:=by
  unfold Heap.push;exact Array.size_push ..
 have hle:s1.heap.objs.size<=(s1.heap.push (revObj a ((its.toArray.size:Int)-1))).objs.size:=by omega
 refine⟨.ref _,_,I1.laid (t':=tk) (o:=.lst ys.reverse) kp hle ?_,rfl,q _ (I1.hok.fresh hle)⟩;refine⟨by rw[xbl];exact hz,its.reverse,c',rv.rev,?_⟩;rw[e',<- er]
end
def jdE (J:It) (n:Nat) (ρ:St) (g:TG) (tt:TT) (te:TE) (acc:Addr) (Z:Hp->Prop) (H1:Hp):Prop :=
  ∃ W : Nat -> Nat -> List V -> Hp -> Prop, (∃ m, W 0 m [] (upd H1 acc (.lst []))) /\ ∀ i m xs H, W i m xs H ->
    ((J.stop i H /\ Z H) \/ (J.go i H /\ ∃ (Nx : V -> Hp -> Prop) (Nn : Hp -> Prop), (∀ y H4, Nx y H4 -> H4 acc = some (.lst xs) /\ xs.length < sizeLine /\ ∃ m', m' < m /\ W (i + 1) m' (xs ++ [y]) (upd H4 acc (.lst (xs ++ [y])))) /\
      (∀H3,Nn H3->∃m',m'<m/\W (i+1) m' xs H3)/\∀(v0:St) x H',v0.length=n->J.yld i H x H'->g x (v0++ρ) H' fun σ2 H2=>(∃v:St,v.length=n/\σ2=v++ρ)/\tt σ2 H2 fun b H3=>if b=true then te σ2 H3 Nx else Nn H3))
section
variable {X:Cx} {N' r xs0:List Str} {ix:List Nat} {cs:Scope} {tg iter elt:Expr} {ifs:List Expr} {pos:Pos} {wi:TI} {g:TG} {tt:TT} {te:TE}
def jlW (wi:TI) (ix:List Nat) (n:Nat) (g:TG) (tt:TT) (te:TE):TE:=fun σ H Q=>wi σ H fun J H1=>∀acc,H1 acc=none->jdE J n (jaN σ ix) g tt te acc (fun H'=>Q (.ref acc) H') H1
end
section
variable {K:PySem.W.Frag} {ta:TA} {tl:TE} {ix:List Nat} {n:Nat} {g:TG} {tt:TT} {te:TE} {σ:St} {H:Hp} {Q:VK}
theorem jh9:jlW (jkK K tl) ix n g tt te σ H Q=tl σ H fun x H1=>∃a,x=.ref a/\(∃xs,SqL K H1 a xs)/\∀acc,H1 acc=none->jdE (Itl K a) n (jaN σ ix) g tt te acc (fun H'=>Q (.ref acc) H') H1:=rfl
end
section
variable {X:Cx}
def rCatQ (K:PySem.W.Frag):R2:=fun x y H Q=>∃l b xs zs,x=.ref l/\y=.ref b/\SqL K H l xs/\SqL K H b zs/\xs.length+zs.length<=sizeLine/\∀p,H p=none->Q (.ref p) (upd H p (.lst (xs++zs)))
theorem jiC {prog:Program} {w:World} {A:Around} {E:Value->Shared->Prop} {s:Shared} {l b:Addr} {vs ws:List Value} {Q:Value->Shared->Prop} (h1:s.heap.IsList l vs.toArray) (h2:s.heap.IsList b ws.toArray) (hz:vs.length+ws.length<=sizeLine)
  (q:Q (.ref s.heap.objs.size) { s with heap:=s.heap.push { cls:=.type "list",data:=.seq (vs++ws).toArray } }):wpAny (model prog w) A (binaryOp .Add (.ref l) (.ref b)) Q E s:=by
 obtain⟨⟨cl,dd,da,sl⟩,ho,hc,n,hd⟩:=id h1;obtain⟨⟨cl2,dd2,da2,sl2⟩,ho2,hc2,n2,hd2⟩:=id h2;simp only at hc hd hc2 hd2;subst hc hd hc2 hd2;have hz':vs.toArray.size+ws.toArray.size<=sizeLine:=by rw[xas,xas];exact hz
 refine concat_meets (T:="list") ⟨_,ho,rfl⟩ ⟨_,ho2,rfl⟩ noFill_list_add seq_list_add F.slot_list_add F.entry_list_add (F.args_list_add_2 _ _) (list_addW l b vs.toArray ws.toArray n n2 dd dd2 sl sl2 hz') ⟨ho,ho2,?_⟩;have ea:vs.toArray++ws.toArray=(vs++ws).toArray:=by simp
 rw[ea];exact q
theorem jhy:OpR X (binaryOp .Add) (rCatQ X.K):=by
 intro pins s σ H x y v u Q I rx ry h;obtain⟨l,b,xs,zs,rfl,rfl,hH,hB,hz,q⟩:=h;cases rx;cases ry;obtain⟨its,r,p,_⟩:=I.list hH;obtain⟨its2,r2,p2,_⟩:=I.list hB;have hl:=r.length;have hl2:=r2.length;refine jiC p.isList p2.isList (by omega) ?_;exact⟨.ref _,_,I.lnew (t':=s.toks) (r.append r2) (by rw[xao];omega),rfl,q _ I.fresh⟩
end
theorem jfl {X:Cx}:CallR X (.type "tuple") (fun xs H Q=>∃p ys,xs=[.ref p]/\SqL X.K H p ys/\∀l,H l=none->Q (.ref l) (upd H l (.tup ys))):=fun pins s σ H xs us Q I r ⟨p,ys,e,k,q⟩=>jbd pins s σ H xs us Q I r ⟨p,ys,e,.inl ⟨k,q⟩⟩
theorem jhz {X:Cx} {K:PySem.W.Frag} {es:List Expr} {k:Nat} {t:TGs} {n:Nat} {pos:Pos} (hK:X.K=K) (hc:X.calm=true) (h:PGs X es t)
  (hn:(assignEach es X.env).length=n:=by rfl) (hst:(assignEach es X.env).findIdx? (·.1)=none:=by rfl):PG X (.Tuple es k pos) (jmL K n t):=hK▸jiY hc h hn hst
def SameB (L:Addr) (H H':Hp):Prop:=∀b o,b≠L->H b=some o->H' b=some o
theorem SameB.refl (L:Addr) (H:Hp):SameB L H H:=fun _ _ _ h=>h
theorem SameB.trans {L:Addr} {H H' J:Hp} (s:SameB L H H') (t:SameB L H' J):SameB L H J:=fun b o n h=>t b o n (s b o n h)
theorem Same.b {L:Addr} {H H':Hp} (s:Same H H'):SameB L H H':=fun b o _ h=>s b o h
theorem SameB.acc {L acc:Addr} {H H':Hp} {o:HO} (s:SameB L H H') (h:H acc=none):SameB L H (upd H' acc o):=fun b u n q=>by rw[jaT (ja0 q h)];exact s b u n q
theorem SameB.box {L:Addr} {H H':Hp} {o:HO} (s:SameB L H H'):SameB L H (upd H' L o):=fun b u n q=>by rw[jaT n];exact s b u n q
theorem SameB.none {L b:Addr} {H H':Hp} (s:SameB L H H') (n:b≠L) (h:H' b=none):H b=none:=by
 cases e:H b with
 | none=>rfl
 | some o=>rw[s b o n e] at h;cases h
theorem SameB.set {L:Addr} {H:Hp} {o:HO}:SameB L H (upd H L o):=fun b u n h=>by rw[jaT n];exact h
end L2
namespace L2
open PySem PyProof.Rows PySem.Calls
end L2
namespace L2
open PySem PySem.Spec PyProof.Rows
section
variable {X:Cx} {tg:Expr}
def It3 (lo c:Int) (n:Nat):It:=⟨fun i _=>i<n,fun i H x H'=>H'=H/\x=.int (lo+i*c),fun i _=>n<=i⟩
def iRng3 (ta:TA):TI:=fun σ H R=>ta σ H fun vs H1=>∃i j c:Int,vs=[.int i,.int j,.int c]/\(-(2^30)<=i/\i<2^30/\-(2^30)<=j/\j<2^30/\1<=c/\c<2^30)/\R (It3 i c (Builtin.Range.rangeSize i j c).toNat) H1
end
end L2
namespace L2
section
variable {K:PySem.W.Frag} {tl:TE} {ta:TA} {ix:List Nat} {g:TG} {tt:TT} {te:TE} {σ:St} {H:Hp} {Q:VK}
theorem jia:jgn (iRng3 ta) ix g tt te σ H Q=ta σ H fun vs H1=>∃i j c:Int,vs=[.int i,.int j,.int c]/\(-(2^30)<=i/\i<2^30/\-(2^30)<=j/\j<2^30/\1<=c/\c<2^30)/\∀acc,H1 acc=none->CompGo (It3 i c (PySem.Builtin.Range.rangeSize i j c).toNat) (jaN σ ix) g tt te acc (fun H'=>Q (.ref acc) H') H1:=rfl
end
end L2
namespace L2
open PySem PySem.Spec PyProof.Rows
theorem jgs {M:Model} {A:Around} {E:Value->Shared->Prop} {s:Shared} {scope:Scope} {globals:Addr} {cl:List (Str × Addr)} {qual:Str} {env:Env} {Q:Env->Shared->Prop}
  (hQ:Q (newEnv scope s.heap.objs.size globals (cellsFrom (s.heap.objs.size+1) scope.names cl) qual none .none (some env) builtinsNs) { s with heap:=pushCells (s.heap.push { cls:=.type "dict",data:=.dict #[] }) scope.names }) :
  wpAny M A (newFunctionEnv scope globals cl [] qual none .none (some env)) Q E s:=by
 simp only[newFunctionEnv,Option.isSome_some,if_true];refine wpAny_bind (wpAny_alloc ?_);refine wpAny_bind (wpAny_layCells _ (fun name kind cells=>by cases hkc:kind==NameKind.cell<;>simp [hkc]) _ _ _ _ ?_);rw[show ({ s with heap:=s.heap.push { cls:=.type "dict",data:=.dict #[] } }:Shared).heap.objs.size=s.heap.objs.size+1 from Heap.size_push ..];rw[List.forIn_nil];exact wpAny_bind (wpAny_pure (wpAny_pure hQ))
structure CfOk (n:Nat) (cs:List (Str × Addr)):Prop where
 lt:∀y c,cs.lookup y=some c->c<n
 inj:∀x y c,cs.lookup x=some c->cs.lookup y=some c->x=y
theorem jm2 {n:Nat} {name:Str} {acc:List (Str × Addr)} (k:CfOk n acc):CfOk (n+1) ((name,n)::acc):=by
  refine⟨fun y c e=>?_,fun x y c e1 e2=>?_⟩
  . rw[xaW] at e
    cases z:y==name with
    | true=>rw[z] at e;cases e;exact Nat.lt_succ_self _
    | false=>rw[z] at e;exact xby (k.lt y c e)
  . rw[xaW] at e1 e2
    cases z1:x==name with
    | true =>
      cases z2:y==name with
      | true=>exact (beq_iff_eq.mp z1).trans (beq_iff_eq.mp z2).symm
      | false =>
        rw[z1] at e1;rw[z2] at e2;cases e1;exact absurd (k.lt y _ e2) (xbw _)
    | false =>
      cases z2:y==name with
      | true =>
        rw[z1] at e1;rw[z2] at e2;cases e2;exact absurd (k.lt x _ e1) (xbw _)
      | false =>
        rw[z1] at e1;rw[z2] at e2;exact k.inj x y c e1 e2
theorem jm3:∀(names:List (Str × NameKind)) (h:Heap) (acc:List (Str × Addr)),CfOk h.objs.size acc->CfOk (pushCells h names).objs.size (cellsFrom h.objs.size names acc)
  | [],_,_,k=>k
  | (name, kind) :: r, h, acc, k => by
    unfold pushCells cellsFrom;split
    . have z:=jm3 r (h.push { cls:=.type "cell",data:=.cell none }) ((name,h.objs.size)::acc) (by rw[Heap.size_push]; exact jm2 k)
      rwa [Heap.size_push] at z
    . exact jm3 r h acc k
theorem jhA:∀(names:List (Str × NameKind)) (h:Heap) (acc:List (Str × Addr)) (y:Str) (c:Addr),(cellsFrom h.objs.size names acc).lookup y=some c ->
    acc.lookup y=some c\/((y,NameKind.cell)∈names/\h.objs.size<=c/\(pushCells h names).IsCell c none)
  | [],_,_,_,_,e=>.inl e
  | (name, kind) :: r, h, acc, y, c, e => by
    unfold pushCells;unfold cellsFrom at e;by_cases hk:(kind==NameKind.cell)=true
    . rw[if_pos hk] at e |-
      rw[<- Heap.size_push (h:=h) (o:={ cls:=.type "cell",data:=.cell none })] at e;rcases jhA r _ _ y c e with z | ⟨z1,z2,z3⟩
      . rw[xaW] at z
        cases q:y==name with
        | true =>
          rw[q] at z;cases z;have e1:=beq_iff_eq.mp q;have e2:=beq_iff_eq.mp hk;subst e1;subst e2;refine .inr ⟨xaS,xam _,⟨_,pushCells_keeps r _ _ _ (Heap.get?_push_size _ rfl),rfl⟩⟩
        | false =>
          rw[q] at z;exact .inl z
      . rw[Heap.size_push] at z2
        exact .inr ⟨xag _ z1,by omega,z3⟩
    . rw[if_neg hk] at e |-
      rcases jhA r h acc y c e with z | ⟨z1,z2,z3⟩
      . exact .inl z
      . exact .inr ⟨xag _ z1,z2,z3⟩
theorem jg6:∀(names:List (Str × NameKind)) (n:Nat) (acc:List (Str × Addr)) (y:Str),(y,NameKind.cell)∉names->(cellsFrom n names acc).lookup y=acc.lookup y
  | [],_,_,_,_=>rfl
  | (name, kind) :: r, n, acc, y, hn => by
    unfold cellsFrom;have hr:(y,NameKind.cell)∉r:=fun z=>hn (xag _ z);by_cases hk:(kind==NameKind.cell)=true
    . rw[if_pos hk,jg6 r _ _ y hr,xaW]
      cases q:y==name with
      | true =>
        have e1:=beq_iff_eq.mp q;have e2:=beq_iff_eq.mp hk;subst e1;subst e2;exact absurd xaS hn
      | false=>rfl
    . rw[if_neg hk,jg6 r _ _ y hr]
theorem jg7:∀(names:List (Str × NameKind)) (n:Nat) (acc:List (Str × Addr)) (y:Str),(y,NameKind.cell)∈names->∃c,(cellsFrom n names acc).lookup y=some c/\n<=c
  | (name, kind) :: r, n, acc, y, hy => by
    unfold cellsFrom;by_cases hr:(y,NameKind.cell)∈r
    . by_cases hk:(kind==NameKind.cell)=true
      . rw[if_pos hk]
        obtain⟨c,h1,h2⟩:=jg7 r (n+1) ((name,n)::acc) y hr;exact⟨c,h1,by omega⟩
      . rw[if_neg hk]
        exact jg7 r n acc y hr
    . rcases xap.mp hy with z | z
      . cases z
        rw[if_pos (by rfl),jg6 r _ _ _ hr,xaW];exact⟨n,by rw[beq_self_eq_true],xam _⟩
      . exact absurd z hr
theorem jm4 {names:List (Str × NameKind)} {n:Nat} {acc:List (Str × Addr)} {y:Str} (h:∃c,acc.lookup y=some c):∃c,(cellsFrom n names acc).lookup y=some c:=by
 by_cases hy:(y,NameKind.cell)∈names
 ·obtain⟨c,h1,_⟩:=jg7 names n acc y hy;exact⟨c,h1⟩
 ·rw[jg6 names n acc y hy];exact h
theorem jm5 {N:List Str} {sc cs:Scope}:∀{r:List Str} {ix:List Nat},Ixs N sc cs r ix->(∀y∈cs.names,y.2=.free->y.1∈r)->∀y∈cs.names,y.2=.free->sc.names.lookup y.1=some .cell\/sc.names.lookup y.1=some .free:=by
 intro r ix t h y hy hk;obtain⟨i,hi⟩:=xcg (h y hy hk);obtain⟨j,_,_,h2,_⟩:=t.get hi;exact h2
structure CompScopeC (N:List Str) (sc:Scope) (N':List Str) (ix:List Nat) (x:Str) (r:List Str) (cs:Scope):Prop where
 eq:N'=x::r
 kind:cs.kind=.function
 hown:∀y∈cs.names,y.2=.cell->cs.names.lookup y.1=some .cell
 hnames:∀y∈cs.names,y.2=.local->cs.names.lookup y.1=some .local
 nd:(x::r).Nodup
 fr:∀y∈cs.names,y.2=.free->sc.names.lookup y.1=some .cell\/sc.names.lookup y.1=some .free
 ixs:Ixs N sc cs r ix
theorem CompScope.nest {N:List Str} {sc:Scope} {N':List Str} {ix:List Nat} {x:Str} {r:List Str} {cs:Scope} (eq:N'=x::r) (kind:cs.kind=.function) (hcell:∀y∈cs.names,y.2≠.cell) (hnames:∀y∈cs.names,y.2=.local->cs.names.lookup y.1=some .local)
  (hx:cs.names.lookup x=some .local) (nd:(x::r).Nodup) (h:∀y∈cs.names,y.2=.free->y.1∈r) (ixs:Ixs N sc cs r ix):CompScope N sc N' ix x r cs:=⟨eq,kind,hcell,hnames,hx,nd,jm5 ixs h,ixs⟩
theorem CompScopeC.nest {N:List Str} {sc:Scope} {N':List Str} {ix:List Nat} {x:Str} {r:List Str} {cs:Scope} (eq:N'=x::r) (kind:cs.kind=.function) (hown:∀y∈cs.names,y.2=.cell->cs.names.lookup y.1=some .cell) (hnames:∀y∈cs.names,y.2=.local->cs.names.lookup y.1=some .local)
  (nd:(x::r).Nodup) (h:∀y∈cs.names,y.2=.free->y.1∈r) (ixs:Ixs N sc cs r ix):CompScopeC N sc N' ix x r cs:=⟨eq,kind,hown,hnames,nd,jm5 ixs h,ixs⟩
def jaX (X:Cx) (N':List Str) (cs:Scope) (cl:List (Str × Addr)) (s3:Shared) (H3:Hp) (fp:List Addr):Cx :=
 { X with N:=N',s₀:=s3,H₀:=H3,env:=compEnvC cs (cellsFrom (s3.heap.objs.size+1) cs.names cl) s3.heap.objs.size X.env,outer:=X.stack,stack:=X.stack,ex:=fp,fn:=fun y=>cs.names.lookup y==some .cell,pn:=[],xe:=fun _ _=>False }
theorem jdZ {env:Env} {cs:Scope} {y:Str} {k:NameKind} (h:(relabel cs env).names.lookup y=some k) (hk:k=.cell\/k=.free):(y,NameKind.free)∈cs.names\/(y,NameKind.cell)∈cs.names:=by
 have m:=PySem.mem_of_lookup h;obtain⟨⟨n,k0⟩,h1,h2⟩:=xai.mp m;by_cases c:(k0==NameKind.free&&env.scope.kind==.function&&env.kindOf n==some .cell)=true
 ·have h2':(n,NameKind.cell)=(y,k):=by rw[<- h2];exact (if_pos c).symm
  cases h2';have:k0=.free:=by
   have z:=(xbG.mp (xbG.mp c).1).1;exact beq_iff_eq.mp z
  rw[this] at h1;exact .inl h1
 ·have h2':(n,k0)=(y,k):=by rw[<- h2];exact (if_neg c).symm
  cases h2';rcases hk with rfl | rfl
  ·exact .inr h1
  ·exact .inl h1
section
variable {X:Cx} {pins:List (Addr × Obj)} {σ:St} {H:Hp} {s:Shared}
theorem Inv.cfs {cs:Scope} {cl:List (Str × Addr)} (I:Inv X pins σ H s) (h2:∀y c,cl.lookup y=some c->X.env.cells.lookup y=some c) :
  CfOk (pushCells (s.heap.push { cls:=.type "dict",data:=.dict #[] }) cs.names).objs.size (cellsFrom (s.heap.objs.size+1) cs.names cl) /\
  ∀y c,(cellsFrom (s.heap.objs.size+1) cs.names cl).lookup y=some c->X.env.cells.lookup y=some c\/((y,NameKind.cell)∈cs.names/\s.heap.objs.size+1<=c/\(pushCells (s.heap.push { cls:=.type "dict",data:=.dict #[] }) cs.names).IsCell c none):=by
 have e:s.heap.objs.size+1=(s.heap.push { cls:=.type "dict",data:=.dict #[] }).objs.size:=(Heap.size_push ..).symm;rw[e];refine⟨jm3 _ _ _ ⟨fun y c q=>?_,fun a b c ha hb=>I.ok.inj a b c (h2 a c ha) (h2 b c hb)⟩,fun y c q=>?_⟩
 ·obtain⟨v,o,ho,_⟩:=I.cell y c (h2 y c q);rw[<- e];exact xby (Heap.lt_size ho)
 ·rcases jhA _ _ _ y c q with z | z
  ·exact .inl (h2 y c z)
  ·exact .inr z
end
section
variable {X:Cx} {N' r:List Str} {ix:List Nat} {x:Str} {cs:Scope} {tg iter elt:Expr} {ifs:List Expr} {pos:Pos} {wi:TI} {g:TG} {tt:TT} {te:TE}
theorem CompScopeC.clos {sc:Scope} {N:List Str} (S:CompScopeC N sc N' ix x r cs) {env:Env} (he:env.scope=sc) (has:∀y,(env.kindOf y=some .cell\/env.kindOf y=some .free)->∃c,env.cells.lookup y=some c) :
  ∃cl:List (Str × Addr),closureFor cs env=pure cl/\(∀y c,cl.lookup y=some c->env.cells.lookup y=some c)/\(∀y,(y,NameKind.free)∈cs.names->∃c,cl.lookup y=some c) :=
 jem fun y hy hk=>has y.1 (by
  subst he;exact S.fr y hy hk)
end
end L2
namespace L2
open PySem PyProof.Rows
section
variable {X:Cx} {K:PySem.W.Frag} {tg l:Expr} {tl:TE}
theorem jm6 (h:X.K=K) (hl:PE X l tl):PI X tg l (iTup K tl):=h▸jbT hl
theorem jju (h:X.K=K) (hc:X.calm=true):CallR X (.builtin "sum") (fun xs H Q=>∃(a:Addr) (ns:List Int),xs=[.ref a]/\SqL K H a (ns.map V.int)/\Q (.int ns.sum) H):=h▸jkT hc
end
end L2
namespace L2
open PySem PySem.Spec PyProof.Rows
section
variable {X:Cx} {pins:List (Addr × Obj)} {σ:St} {H:Hp} {s:Shared} {h':Heap}
theorem Inv.turnedL {t':Nat} {ch:List Addr} (I:Inv X pins σ H s) (k:∀b o,b∉ch->s.heap.get? b=some o->h'.get? b=some o) (hf:∀b∈ch,jhp X pins H b):Inv X pins σ H { s with heap:=h',toks:=t' }:=by
 have nit:∀b u,H b=some u->b∉ch:=fun b u e z=>by rw[(hf b z).1] at e;cases e
 refine I.step (g':=s.gens) (d':=s.drawn) (ch:=ch) (fun b hb=>⟨(hf b hb).2.2.2.1,(hf b hb).2.1,(hf b hb).2.2.2.2.1,(hf b hb).2.2.2.2.2⟩) (fun b o _ _ hc e _=>k b o hc e) (fun b o _ _ hc e _=>⟨o.slots,k b o hc e⟩) (fun _ _ _ _ n=>n)
  (fun b o hc e=>⟨o,k b o hc e⟩) (fun _ _ e=>e) (fun _ _ _ e=>e) (fun b ps e=>⟨#[],by rw[e];simp⟩) (fun m hm=>?_) (fun b u e=>?_) I.bare
 ·obtain⟨o,es,ep,ho,r⟩:=hm;exact⟨o,es,ep,k _ o (fun z=>(hf _ z).2.1 rfl) ho,r⟩
 ·refine (I.hok b u e).stay (fun c v hc q=>k c v ?_ q) (fun _ q=>q) fun _ _ q=>q;rcases hc with z | z
  ·rw[z];exact nit b u e
  ·exact nit c _ z
end
def Ite (K:PySem.W.Frag) (a:Addr):It :=
 ⟨fun i H=>∃xs x,SqL K H a xs/\xs[i]?=some x,fun i H x H'=>∃T v,x=.ref T/\H T=none/\H'=upd H T (.tup [.int i,v])/\∀xs,SqL K H a xs->xs[i]?=some v,fun i H=>∃xs,SqL K H a xs/\xs.length<=i⟩
theorem jjv {P:Program} {w:World} {K:PySem.W.Frag} {elts:List Expr} {x1:Nat} {tpos:Pos} (a e it:Addr) (hei:e≠it):Turn P w K (.Tuple elts x1 tpos) (Ite K a) [e,it] e (fun i h=>(∃old,IsEnum h e it (i:Nat) old)/\h.IsListIter it a i) where
 mem:=by simp
 obj:=fun i h st b hb=>by
  obtain⟨⟨old,he⟩,o,e1,c,d⟩:=st;rcases xap.mp hb with rfl | hb
  ·exact⟨_,he,fun v z=>by
    have z':Data.fields _=Data.cell v:=z;cases z'⟩
  ·have e2:b=it:=by simpa using hb
   subst e2;exact⟨o,e1,fun v z=>by rw[d] at z;cases z⟩
 keep:=fun i h h' st k=>by
  obtain⟨⟨old,he⟩,hi⟩:=st;exact⟨⟨old,k e (by simp) _ he⟩,hi.at fun o q=>k it (by simp) o q⟩
 item:=by
  intro X hP hw hK hc i pins s σ H E I hf st hg;subst hP hw hK;obtain⟨⟨old,he⟩,hit⟩:=st;obtain⟨xs,x,hq,hx⟩:=hg;obtain⟨its,rv,p,hz⟩:=I.list hq;obtain⟨u,hu,ru⟩:=rv.get hx;have heS:e<s.heap.objs.size:=Heap.lt_size he;have hiS:it<s.heap.objs.size:=by
   obtain⟨o,e1,_⟩:=id hit;exact Heap.lt_size e1
  refine wpAny_pyNext_enum_item he hit p.isList (x:=u) (by simpa using hu) hei fun h₁ heo hit₁ ht₁ hz₁ hk₁=>?_;refine⟨_,rfl,wpAny_letOwnedTupleGo_enum heo fun h₂ he₂ hs₂=>?_⟩;have fr:H s.heap.objs.size=none:=I.hok.fresh (xam _);have I1:Inv X pins σ (upd H s.heap.objs.size (.tup [.int i,x])) { s with heap:=s.heap.push { cls:=.type "tuple",data:=.seq #[.int i s.toks,u] } } :=
   I.laid (t':=s.toks) (fun b o q=>Heap.get?_push_of_some _ q) (xam _) ⟨(show 2<=sizeLine by decide),[.int i s.toks,u],.cons ⟨_,rfl⟩ (.cons ru .nil),⟨_,Heap.get?_push_size _ rfl,rfl,_,rfl⟩⟩
  have nT:∀b∈[e,it],b≠s.heap.objs.size:=fun b hb=>by
   rcases xap.mp hb with rfl | hb
   ·exact xaK heS
   ·have e2:b=it:=by simpa using hb
    rw[e2];exact xaK hiS
  have hf1:∀b∈[e,it],jhp X pins (upd H s.heap.objs.size (.tup [.int i,x])) b:=fun b hb=>⟨by rw[jaT (nT b hb)];exact (hf b hb).1,(hf b hb).2⟩;have I2:Inv X pins σ (upd H s.heap.objs.size (.tup [.int i,x])) { s with heap:=h₂,toks:=s.toks+1 }:=Inv.turnedL (s:={ s with heap:=s.heap.push { cls:=.type "tuple",data:=.seq #[.int i s.toks,u] } }) (h':=h₂) (t':=s.toks+1) (ch:=[e,it]) I1 (fun b o hb q=>by
   have nb1:b≠e:=fun z=>hb (by simp [z]);have nb2:b≠it:=fun z=>hb (by simp [z]);refine hs₂.extBut b o nb1 ?_;have q2:(s.heap.push { cls:=.type "tuple",data:=.seq #[.int i s.toks,u] }).get? b=some o:=q;rcases Heap.get?_push_cases q2 with ⟨rfl,rfl⟩ | q'
   ·exact ht₁
   ·exact hk₁ b o nb1 nb2 q') hf1
  refine⟨.ref s.heap.objs.size,_,I2,rfl,(show (Ite X.K a).yld i H _ _ from ⟨_,x,rfl,fr,rfl,fun ys hy=>by rw[I.list_inj hy hq];exact hx⟩),⟨⟨u,?_⟩,hit₁.extBut hs₂.extBut (Ne.symm hei)⟩,fun b hb=>(hf1 b hb).1⟩;exact he₂
 done:=by
  intro X hP hw hK hc i pins s σ H E I hf st hg;subst hP hw hK;obtain⟨⟨old,he⟩,hit⟩:=st;obtain⟨xs,hq,hx⟩:=hg;obtain⟨its,rv,p,hz⟩:=I.list hq;have hl:=rv.length;exact wpAny_pyNext_enum_end (I.ok.hd hc) he hit p.isList (by simp;omega) fun h' eb=>⟨rfl,I.turnedL (ch:=[it]) (t':=s.toks) (fun b o hb q=>eb b o (fun z=>hb (by simp [z])) q) fun b hb=>hf b (by simp at hb;simp [hb])⟩
 self:=fun _ _ _ _ _ st h=>by
  obtain⟨⟨old,he⟩,_⟩:=st;exact wpAny_pyIter_enum he h
section
variable {X:Cx} {elts:List Expr} {x1:Nat} {tpos:Pos}
def joI (K:PySem.W.Frag) (ta:TA):TI:=fun σ H R=>ta σ H fun vs H1=>∃a,vs=[.ref a]/\(∃xs,SqL K H1 a xs)/\R (Ite K a) H1
theorem jm7 {l:Expr} {ta:TA} {p pos:Pos} (hg:Gl X "enumerate") (hm:X.mg "enumerate"=none) (ha:PA X [l] ta) (hs:starEach [l] X.env=[(false,eval l X.env)]:=by rfl):PI X (.Tuple elts x1 tpos) (.Call (.Name "enumerate" p) [l] [] pos) (joI X.K ta):=by
  intro pins s σ H R I h;refine Call_ (jeF I hg hm boot_enumerate (PyProof.Rows.callWith_type1 (thn (ha pos pins s σ H _ I h) fun us s1 ⟨vs,H1,I1,r1,q1⟩=>?_) hs rfl));obtain⟨a,e,⟨xs,hq⟩,q⟩:=q1;subst e;cases r1 with
  | cons r rr =>
    cases rr;cases r;obtain⟨its,rv,pl,hz⟩:=I1.list hq;refine call_enumerate_list pl.isList fun h' he hit hsz hk=>?_;refine wpAny_pyIter_enum he ?_;have I2:Inv X pins σ H1 { s1 with heap:=h' }:=I1.kept (t':=s1.toks) hk;refine⟨s1.heap.objs.size+1,[s1.heap.objs.size+1,s1.heap.objs.size],_,_,H1,rfl,I2,jjv a _ _ (Nat.succ_ne_self _),⟨⟨_,he⟩,hit⟩,fun b hb=>?_,q⟩;rcases xap.mp hb with rfl | hb
    . exact I1.fpOk (xck _) (I1.hok.fresh (xck _))
    . have e2:b=s1.heap.objs.size:=by simpa using hb
      subst e2;exact I1.fpOk (xam _) (I1.hok.fresh (xam _))
end
section
variable {K:PySem.W.Frag} {ta:TA} {tl:TE} {g:TG} {tb:TS} {D:Ends} {σ:St} {H:Hp}
theorem jlX:jlG (joI K ta) g tb D σ H=ta σ H fun vs H1=>∃a,vs=[.ref a]/\(∃xs,SqL K H1 a xs)/\jkS (Ite K a) g tb D σ H1:=rfl
theorem jkX {a:Addr} {xs:List V} (Pv:Nat->St->Hp->Prop) (h0:Pv 0 σ H) (hl:∀i σ H,i<=xs.length->Pv i σ H->SqL K H a xs)
  (hs:∀i x σ H T,xs[i]?=some x->Pv i σ H->H T=none->g (.ref T) σ (upd H T (.tup [.int i,x])) fun σ2 H2=>tb { D with nx:=Pv (i+1),ct:=Pv (i+1),bk:=D.nx } σ2 H2) (hd:∀σ H,Pv xs.length σ H->D.nx σ H) :
  jkS (Ite K a) g tb D σ H:=by
 refine⟨fun i m σ H=>m=xs.length-i/\i<=xs.length/\Pv i σ H,⟨xs.length,by simp,xa6 _,h0⟩,?_⟩;rintro i m σ H ⟨rfl,hi,p⟩;have q:=hl i σ H hi p;by_cases h:i<xs.length
 ·refine .inr ⟨⟨xs,xs[i],q,xad h⟩,Pv (i+1),fun σ' H' z=>⟨xs.length-(i+1),by omega,rfl,by omega,z⟩,?_⟩;rintro x H' ⟨T,v,rfl,hT,rfl,hv⟩;have e:=hv xs q;exact hs i v σ H T e p hT
 ·have e:i=xs.length:=by omega
  subst e;exact .inl ⟨⟨xs,q,xam _⟩,hd σ H p⟩
end
section
variable {P:Program} {w:World} {H:Hp} {h h':Heap} {a:Addr} {o:HO}
theorem ObjOk.get (x:ObjOk P w H h a o):∃ob,h.get? a=some ob:=by
 cases o with
 | lst xs=>obtain⟨_,_,_,_,e⟩:=x;exact⟨_,e⟩
 | tup xs=>obtain⟨_,_,_,ob,e,_⟩:=x;exact⟨_,e⟩
 | dK kvs=>obtain⟨_,_,_,_,o,_,_,e,_⟩:=x;exact⟨_,e⟩
 | dT kvs=>obtain⟨_,_,_,_,o,_,_,e,_⟩:=x;exact⟨_,e⟩
 | set S n=>obtain⟨o,_,_,_,e,_⟩:=x;exact⟨_,e⟩
 | ins C dx fs=>obtain⟨_,_,_,e,_⟩:=x;exact⟨_,e⟩
 | own y=>exact x
 | xd fs=>obtain⟨_,⟨_,_,_,e,_⟩,_⟩:=x;exact⟨_,e⟩
 | rng lo hi=>obtain⟨_,_,_,e⟩:=x;exact⟨_,e⟩
 | frz ob u=>obtain⟨e,_⟩:=x;exact⟨_,e⟩
 | tbl ps=>exact⟨_,(show h.get? a=some _ from x)⟩
 | met f y=>exact⟨_,(show h.get? a=some _ from x)⟩
 | ext φ=>obtain⟨_,e,_⟩:=x;exact e
end
section
open PySem.W PySem.Calls PySem.Builtin PySem.Builtin.ObjectAttr
variable {prog:Program} {w:World} {A:Around} {K:PySem.W.Frag} {x C:Addr} {ox:Obj} {od:Option Obj} {s:Shared} {name:Str} {tk:Tok} {v:Value} {R:Result->Shared->Prop}
end
section
open PySem.W PySem.Calls PySem.Builtin PySem.Builtin.ObjectAttr PySem.Builtin.Getset_descriptor
variable {prog:Program} {w:World} {A:Around} {E:Value->Shared->Prop} {K:PySem.W.Frag} {x C:Addr} {s:Shared} {name:Str} {tk:Tok} {v:Value}
end
@[elab_as_elim] theorem jbJ {C:Hp->Prop} {H:Hp} {p:Addr} {o:HO} (hp:H p=none) (k:∀J,Same H J->J p=some o->C J):C (upd H p o):=k _ (Same.new hp o) jam
theorem lt3 {i:Nat} (h:i<3):i=0\/i=1\/i=2:=by omega
section
variable {X:Cx}
def jjw (K:PySem.W.Frag):V->List V->Hp->VK->Prop:=fun x ys H Q=>∃(p:Addr) (xs:List V) (y:V) (dy:PyData),x=.ref p/\ys=[y]/\SqL K H p xs/\Rds K H y dy/\PyData.canLay0 dy=true/\dy.depth<=8/\PyData.eqv dy dy=true/\(∀v∈xs,∃d,Rds K H v d/\PyData.canLay0 d=true/\d.depth<=8)/\(∃v∈xs,Rds K H v dy)/\xs.length<1000/\∀j:Nat,j<xs.length->Q (.int j) H
theorem jjx (hu:X.A.units+64<cLine):MtR X "list.index" (jjw X.K):=by
 intro pins s σ H x xs v us Q I rx r h;obtain⟨p,zs,y,dy,rfl,rfl,hq,hdy,cy,dpy,ey,hs,⟨v0,hv0,hd0⟩,hn,q⟩:=h;cases (show v=Value.ref p from rx);obtain⟨u,rfl,r1⟩:=jeX r;obtain⟨its,rv,pl,hz⟩:=I.list hq;obtain⟨as,rdy⟩:=hdy.reads I r1;have hl:=rv.length;obtain⟨⟨cls,dd,data,sl⟩,ho,hc,n,hd⟩:=id pl.isList;simp only at hc hd;subst hc hd;have eqs:∀(A:Around),A.units<=X.A.units+8->∀w∈its,(∃b,SeqAt.EqAt A s w u b):=fun A hA w hw=>by
  obtain⟨i,hi⟩:=xcg hw;have hi2:i<zs.length:=by have:=(xae.mp hi).1;omega
  obtain⟨w',hw',rw'⟩:=rv.get (xad hi2);rw[hi] at hw';cases hw';obtain⟨d,hd,cd,dd⟩:=hs _ (xaw hi2);obtain⟨bs,rd⟩:=hd.reads I rw';exact⟨_,SeqAt.eqAt_reads d dy _ s w u bs as rd rdy cd cy (by
   have:=Nat.min_le_left d.depth dy.depth;omega)⟩
 have hits:∀(A:Around),A.units<=X.A.units+8->∃w∈its,SeqAt.EqAt A s w u true:=fun A hA=>by
  obtain⟨i,hi2,e⟩:=xbv.mp hv0;obtain⟨w,hw,rw'⟩:=rv.get (xad hi2);rw[e] at rw';obtain⟨bs,rd⟩:=hd0.reads I rw';refine⟨w,xbi hw,?_⟩;have z:=SeqAt.eqAt_reads dy dy A s w u bs as rd rdy cy cy (by
   have:=Nat.min_le_left dy.depth dy.depth;omega)
  rw[ey] at z;exact z
 have u1:X.A.in1.units=X.A.units+1:=rfl;have dec:∀w,Decidable (SeqAt.EqAt X.A.in1 s w u true):=fun w=>Classical.propDecidable _
 let e:Value->Bool:=fun w=>decide (SeqAt.EqAt X.A.in1 s w u true)
 have he:∀w∈its,SeqAt.EqAt X.A.in1 s w u (e w):=fun w hw=>by
  obtain⟨b,hb⟩:=eqs X.A.in1 (by omega) w hw;by_cases c:SeqAt.EqAt X.A.in1 s w u true
  ·have:e w=true:=decide_eq_true c;rw[this];exact c
  ·have:e w=false:=decide_eq_false c;rw[this];cases b with
   | true=>exact (c hb).elim
   | false=>exact hb
 obtain⟨w0,hw0,hit0⟩:=hits X.A.in1 (by omega);have e0:e w0=true:=decide_eq_true hit0;have hj:its.findIdx e<its.length:=List.findIdx_lt_length_of_exists ⟨w0,hw0,e0⟩;refine call_meets F.slot_list_index ⟨_,ho,rfl⟩ F.entry_list_index (F.args_list_index_2 _ _) (SeqAt.list_indexAt p its.toArray n dd sl u e (its.findIdx e) (by simpa using hj) (by omega) ?_ ?_) ⟨ho,fun w hw=>he w (by simpa using hw),⟨.int _,H,I.tok _,⟨_,rfl⟩,q _ (by omega)⟩⟩
 ·simpa using List.findIdx_getElem (w:=hj)
 ·intro m hm hlt;have:=List.not_of_lt_findIdx hlt;simpa using this
end
section
variable {prog:Program} {w:World} {A:Around} {R:Result->Shared->Prop} {it Z:Addr} {fp wr:List Addr} {n:Nat} {P:Nat->Value->Prop} {St:Nat->Heap->Prop} {G:Heap->Prop}
def Stay (wr:List Addr) (Z:Addr) (h h':Heap):Prop:=∀b o,b∉wr->b≠Z->h.get? b=some o->h'.get? b=some o
theorem Stay.trans {h h' h'':Heap} (a:Stay wr Z h h') (b:Stay wr Z h' h''):Stay wr Z h h'':=fun c o x y e=>b c o x y (a c o x y e)
theorem Stay.set {h:Heap} {g:Obj->Obj}:Stay wr Z h (h.update Z g):=fun _ _ _ y e=>(Heap.get?_update_other _ _ (Ne.symm y)).trans e
def joJ (v:Value) (c:Nat):Obj:={ cls:=.type "list",dict:=none,data:=.seq #[v,v] c,slots:=#[] }
structure MinUse (prog:Program) (w:World) (A:Around) (wr:List Addr) (Z:Addr) (P:Nat->Value->Prop) (G:Heap->Prop):Prop where
 keep:∀h h',G h->Stay wr Z h h'->G h'
 cmp:∀(u v:Value) (s:Shared) (Q:Value->Shared->Prop) (E:Value->Shared->Prop),(∃i,P i u)->(∃j,P j v)->G s.heap->(∀k:Bool,Q (.bool k) s)->wpAny (model prog w) A (richCompare .Lt u v) Q E s
theorem minW (W:Walks prog w A.in1 it fp wr n P St) (M:MinUse prog w A.in1 wr Z P G) (off:Z∉fp):∀(left:Nat) (s:Shared) (best:Value) (c:Nat),left<n->St (n-left) s.heap->(∃i,P i best)->G s.heap->s.heap.get? Z=some (joJ best c) ->
    (∀v h tk,(∃i,P i v)->Stay wr Z s.heap h->R (.ok (.ret v)) { s with heap:=h,toks:=tk })->codeAny (model prog w) A (.builtin "min.loop" ⟨[.ref it,.none,.ref Z],[]⟩) R s:=by
  have zw:Z∉wr:=fun h=>off (W.sub _ h);have fr:∀{i:Nat} {h:Heap} {g:Obj->Obj},St i h->St i (h.update Z g):=fun {i h g} st=>W.frame _ _ _ st fun b bf o e=>(Heap.get?_update_other _ _ (fun x:Z=b=>off (x▸bf))).trans e;have word:(toString "min"++toString ".loop":String)="min.loop":=by decide
  intro left;induction left with
  | zero =>
    intro s best c _ st pb gs hZ q;refine codeAny_builtin F.entry_min_loop (Around.under_plainId F.plain_min_loop _▸?_);refine wpAny_bind (m:=seqItems? (.ref Z)) (wpAny_seqItems hZ rfl (wpAny_bind (m:=tryCatch (pyNext (.ref it)) _) (wpAny_tryCatch (W.done s _ _ st fun h1 t1 k1=>?_))));refine wpAny_bind (m:=updateSeq Z fun _=>#[]) (wpAny_updateSeq (k1 Z _ zw hZ) rfl (wpAny_bind (wpAny_letGo (wpAny_pure ?_))));exact q best _ t1 pb (Stay.trans (fun b o x _ e=>k1 b o x e) Stay.set)
  | succ left ih =>
    intro s best c lt st pb gs hZ q;have en:n-(left+1)+1=n-left:=by omega
    refine codeAny_builtin F.entry_min_loop (Around.under_plainId F.plain_min_loop _▸?_);refine wpAny_bind (m:=seqItems? (.ref Z)) (wpAny_seqItems hZ rfl (wpAny_bind (m:=tryCatch (pyNext (.ref it)) _) (wpAny_tryCatch (W.item (n-(left+1)) s _ _ (by omega) st fun v h1 t1 pv st1 k1=>?_))));have y1:Stay wr Z s.heap h1:=fun b o x _ e=>k1 b o x e;have g1:=M.keep _ _ gs y1;have z1:=k1 Z _ zw hZ;rw[en] at st1;refine wpAny_bind (m:=tryCatch (holding [v,v] (richCompare .Lt v best >>= _)) _) (wpAny_tryCatch (wpAny_holding (wpAny_bind (M.cmp v best _ _ _ ⟨_,pv⟩ pb g1 fun less=>?_))));refine wpAny_bind (wpAny_holding (wpAny_truthy_bool (wpAny_bind (wpAny_letGo (wpAny_pure ?_)))));cases less with
    | true =>
      simp only[if_true];refine wpAny_bind (wpAny_updateSeq z1 rfl (wpAny_bind (wpAny_letGo ?_)));rw[word];exact wpAny_pure ⟨plainId_quiet F.plain_min_loop _,ih _ v _ (by omega) (fr st1) ⟨_,pv⟩ (M.keep _ _ g1 Stay.set) (Heap.get?_update_self _ z1 rfl) fun u h2 t2 pu y2=>q u h2 t2 pu (y1.trans (Stay.set.trans y2))⟩
    | false =>
      simp only[if_false,xcl];refine wpAny_bind (wpAny_letGo ?_);rw[word];exact wpAny_pure ⟨plainId_quiet F.plain_min_loop _,ih _ best c (by omega) st1 pb g1 z1 fun u h2 t2 pu y2=>q u h2 t2 pu (y1.trans y2)⟩
theorem minOf {E:Value->Shared->Prop} {s:Shared} {l:Addr} {xs:Array Value} {Q:Value->Shared->Prop} (hh:A.handled=none) (hl:s.heap.IsList l xs) (hn:0<xs.size) (G:Heap->Prop) (gs:G s.heap)
  (keep:∀h h',G h->(∀b o,b<s.heap.objs.size->h.get? b=some o->h'.get? b=some o)->G h')
  (cmp:∀(u v:Value) (s:Shared) (Q:Value->Shared->Prop) (E:Value->Shared->Prop),u∈xs->v∈xs->G s.heap->(∀k:Bool,Q (.bool k) s)->wpAny (model prog w) A.in1 (richCompare .Lt u v) Q E s)
  (q:∀v h tk,v∈xs->(∀b o,s.heap.get? b=some o->h.get? b=some o)->Q v { s with heap:=h,toks:=tk }):wpAny (model prog w) A (call (.builtin "min") [.ref l]) Q E s:=by
 have lt:l<s.heap.objs.size:=by obtain⟨o,ho,_⟩:=hl;exact Heap.lt_size ho
 have word:(toString "min"++toString ".loop":String)="min.loop":=by decide
 have W:=Walks.list (prog:=prog) (w:=w) (A:=A.in1) hh s.heap.objs.size l (xaK lt) xs;refine call_function_tree F.kind_min F.plain_min F.entry_min (F.args_min1 _) (wpAny_bind (m:=Builtin.Builtins.bindParams "min" ["key","default"] 0 ⟨[],[]⟩) (wpAny_of_eq (a:=[none,none]) rfl (wpAny_bind (wpAny_pure (wpAny_bind (wpAny_pyIter_list hl (wpAny_bind (wpAny_newObj_type ?_))))))));rw[word];obtain⟨h0,e0⟩:∃h0,h0=s.heap.push { cls:=.type "list_iterator",data:=.fields #[.ref l,.int 0 0] }:=⟨_,rfl⟩;obtain⟨h1,e1⟩:∃h1,h1=h0.push { cls:=.type "list",data:=.seq #[] }:=⟨_,rfl⟩;have z0:h0.objs.size=s.heap.objs.size+1:=by rw[e0];exact Heap.size_push ..
 have up:∀b o,s.heap.get? b=some o->h1.get? b=some o:=fun b o e=>by rw[e1];exact Heap.get?_push_of_some _ (by rw[e0];exact Heap.get?_push_of_some _ e)
 have far:∀{b:Nat},b<s.heap.objs.size->b∉[s.heap.objs.size]/\b≠h0.objs.size:=fun {b} hb=>⟨fun m=>xaK hb (xaO.mp m),xaK (Nat.lt_of_lt_of_eq (xby hb) z0.symm)⟩;have off:h0.objs.size∉[s.heap.objs.size,l]:=fun m=>by
  rcases xap.mp m with e | e
  ·exact Nat.succ_ne_self _ (z0.symm.trans e)
  ·exact Nat.ne_of_gt (xby lt) (z0.symm.trans (xaO.mp e))
 have M:MinUse prog w A.in1 [s.heap.objs.size] h0.objs.size (fun i v=>xs[i]?=some v) G:=⟨fun h h' g y=>keep h h' g fun b o hb e=>y b o (far hb).1 (far hb).2 e,fun u v s' Q' E' ⟨i,hi⟩ ⟨j,hj⟩ g q'=>cmp u v s' Q' E' (Array.mem_of_getElem? hi) (Array.mem_of_getElem? hj) g q'⟩;have cell:h1.get? h0.objs.size=some { cls:=.type "list",dict:=none,data:=.seq #[] 0,slots:=#[] }:=by rw[e1];exact Heap.get?_push_size _ rfl
 have st:h1.IsListIter s.heap.objs.size l 0/\h1.IsList l xs:=⟨⟨_,by rw[e1];exact Heap.get?_push_of_some _ (by rw[e0];exact Heap.get?_push_size _ rfl),rfl,rfl⟩,by rw[e1,e0];exact (hl.push _).push _⟩;have zw:h0.objs.size∉[s.heap.objs.size]:=fun m=>off (W.sub _ m);rw[<- e0,<- e1];refine wpAny_pure ⟨plainId_quiet F.plain_min_loop _,codeAny_builtin F.entry_min_loop (Around.under_plainId F.plain_min_loop _▸?_)⟩;refine wpAny_bind (m:=seqItems? (.ref h0.objs.size)) (wpAny_seqItems cell rfl (wpAny_bind (m:=tryCatch (pyNext (.ref s.heap.objs.size)) _) (wpAny_tryCatch (W.item 0 _ _ _ hn st fun v h2 t2 pv st2 k2=>?_))));have z2:=k2 _ _ zw cell;refine wpAny_bind (m:=updateSeq h0.objs.size fun _=>#[v,v]) (wpAny_updateSeq z2 rfl ?_);rw[word];have y2:Stay [s.heap.objs.size] h0.objs.size h1 h2:=fun b o x _ e=>k2 b o x e;refine wpAny_pure ⟨plainId_quiet F.plain_min_loop _,minW W M off (xs.size-1) _ v _ (by omega) ?_ ⟨_,pv⟩ (M.keep _ _ (M.keep _ _ (keep _ _ gs fun b o _ e=>up b o e) y2) Stay.set) (Heap.get?_update_self _ z2 rfl) fun u h3 t3 ⟨i,pu⟩ y3=>?_⟩
 ·rw[show xs.size-(xs.size-1)=0+1 by omega];exact W.frame _ _ _ st2 fun b bf o e=>(Heap.get?_update_other _ _ (fun x:h0.objs.size=b=>off (x▸bf))).trans e
 ·refine q u h3 t3 (Array.mem_of_getElem? pu) fun b o e=>?_;have f:=far (Heap.lt_size e);exact (y2.trans (Stay.set.trans y3)) b o f.1 f.2 (up b o e)
end
section
open PySem.AutoSeq1 (wpAny_loadPart')
open PySem.MeetsSeq3 (plain_eq_loop entry_eq_loop)
def jkY (xs:Array Value):Prop:=∀j (h:j<xs.size),∃a t,xs[j]=.int a t
def joK (dd:Option Addr) (sl:Array (Option Value)) (xs:Array Value) (n:Nat):Obj:={ cls:=.type "list",dict:=dd,data:=.seq xs n,slots:=sl }
theorem ltGo {l m:Addr} {xs ys:Array Value} {n1 n2:Nat} {d1 d2:Option Addr} {o1 o2:Array (Option Value)} (sz:xs.size=ys.size) (ix:jkY xs) (iy:jkY ys) (left:Nat):∀i:Nat,xs.size=i+left ->
    Meets (Builtin.«list.__eq__.loop» ⟨[.ref l,.ref m,rawInt i,rawInt 0],[]⟩) (fun _ R s=>s.heap.get? l=some (joK d1 o1 xs n1)/\s.heap.get? m=some (joK d2 o2 ys n2)/\∀k:Bool,R (.ok (.ret (.bool k))) s):=by
  induction left with
  | zero =>
    rintro i e prog w A R ⟨hp,g,d,tk,os⟩ ⟨a,b,q⟩
    wp_walk using wpAny_loadPart' a,wpAny_loadPart' b
    rw[show xs[((i:Nat):Int).toNat]?=none by simp;omega]
    wp_walk using wpAny_loadPart' a,wpAny_loadPart' b
    exact q _
  | succ left ih =>
    rintro i e prog w A R ⟨hp,g,d,tk,os⟩ ⟨a,b,q⟩;have lx:i<xs.size:=by omega
    have ly:i<ys.size:=by omega
    obtain⟨u,t,eu⟩:=ix i lx;obtain⟨v,t',ev⟩:=iy i ly;have e1:xs[((i:Nat):Int).toNat]?=some (.int u t):=by simp [lx,eu]
    have e2:ys[((i:Nat):Int).toNat]?=some (.int v t'):=by simp [ly,ev]
    wp_walk using wpAny_loadPart' a,wpAny_loadPart' b
    rw[e1,e2];obtain⟨k,hk,_⟩:=HT.eqAt_int A.in1 ⟨hp,g,d,tk,os⟩ u t v t';refine wpAny_bind (hk prog w _ _ ?_);cases k with
    | true =>
      wp_walk
      refine⟨plainId_quiet plain_eq_loop _,codeAny_builtin entry_eq_loop (Around.under_plainId plain_eq_loop _▸?_)⟩;rw[show ((i:Int)+1)=((i+1:Nat):Int) by omega];exact ih (i+1) (by omega) prog w A R _ ⟨a,b,q⟩
    | false =>
      wp_walk using wpAny_loadPart' a,wpAny_loadPart' b
      rw[e1,e2];have less:=HT.rcLt_int A.in1 ⟨hp,g,d,tk,os⟩ u t v t' prog w
      wp_walk using less
      exact q _
theorem ltLst {l m:Addr} {xs ys:Array Value} {n1 n2:Nat} {d1 d2:Option Addr} {o1 o2:Array (Option Value)} (sz:xs.size=ys.size) (ix:jkY xs) (iy:jkY ys) :
  Meets (Builtin.«list.__lt__» ⟨[.ref l,.ref m],[]⟩) (fun _ R s=>s.heap.get? l=some (joK d1 o1 xs n1)/\s.heap.get? m=some (joK d2 o2 ys n2)/\∀k:Bool,R (.ok (.ret (.bool k))) s):=by
 rintro prog w A R ⟨hp,g,d,tk,os⟩ ⟨a,b,q⟩;have sub:=AutoSeq1.sub_list_list;unfold joK at a b
 wp_walk using wpAny_loadPart' a,wpAny_loadPart' b
 exact⟨plainId_quiet plain_eq_loop _,codeAny_builtin entry_eq_loop (Around.under_plainId plain_eq_loop _▸ltGo sz ix iy xs.size 0 (by omega) prog w A R _ ⟨a,b,q⟩)⟩
theorem jjy {prog:Program} {w:World} {A:Around} {E:Value->Shared->Prop} {s:Shared} {l m:Addr} {xs ys:Array Value} {Q:Value->Shared->Prop} (hl:s.heap.IsList l xs) (hm:s.heap.IsList m ys) (sz:xs.size=ys.size) (ix:jkY xs) (iy:jkY ys) (hu:A.units<cLine) (q:∀k:Bool,Q (.bool k) s):wpAny (model prog w) A (compareOp .Lt (.ref l) (.ref m)) Q E s:=by
 obtain⟨⟨c1,d1,a1,o1⟩,h1,e1,n,f1⟩:=id hl;obtain⟨⟨c2,d2,a2,o2⟩,h2,e2,k,f2⟩:=id hm;cases e1;cases e2;cases f1;cases f2;exact richCompare_meets_room (op:=.Lt) ⟨_,h1,rfl⟩ ⟨_,h2,rfl⟩ F.slot_list_lt F.entry_list_lt (F.args_list_lt_2 _ _) (ltLst sz ix iy) ⟨h1,h2,fun k=>⟨(fun x=>nomatch x),q k⟩⟩ hu
theorem jhB {vs:List Value} {ns:List Int} (h:IntsAre vs ns):jkY vs.toArray:=by
  induction h with
  | nil=>exact fun j q=>absurd q (by simp)
  | cons a t _ ih =>
    intro j q;cases j with
    | zero=>exact⟨_,_,rfl⟩
    | succ j =>
      obtain⟨a',t',e⟩:=ih j (by simpa using q);exact⟨a',t',by simpa using e⟩
end
section
variable {X:Cx}
def rLtLQ (K:PySem.W.Frag):R2:=fun x y H Q=>∃(a b:Addr) (ns ms:List Int),x=.ref a/\y=.ref b/\SqL K H a (ns.map V.int)/\SqL K H b (ms.map V.int)/\ns.length=ms.length/\∀k,Q (.bl k) H
theorem jm8 (hu:X.A.units<cLine):OpR X (compareOp .Lt) (rLtLQ X.K):=by
 rintro pins s σ H x y v u Q I rx ry ⟨a,b,ns,ms,rfl,rfl,ha,hb,hl,q⟩;cases rx;cases ry;obtain⟨xs,r1,p1,_⟩:=I.list ha;obtain⟨ys,r2,p2,_⟩:=I.list hb;have i1:IntsAre xs ns:=jbS r1;have i2:IntsAre ys ms:=jbS r2;have z1:=i1.length;have z2:=i2.length;exact jjy p1.isList p2.isList (by simp;omega) (jhB i1) (jhB i2) hu fun k=>⟨.bl k,H,I,rfl,q k⟩
def joL (K:PySem.W.Frag):List V->Hp->VK->Prop:=fun ys H Q=>∃(a:Addr) (rs:List Addr) (m:Nat),ys=[.ref a]/\SqL K H a (rs.map V.ref)/\rs≠[]/\(∀r∈rs,∃ns:List Int,SqL K H r (ns.map V.int)/\ns.length=m)/\∀r∈rs,Q (.ref r) H
theorem jjz (hc:X.calm=true) (hu:X.A.units+64<cLine):CallR X (.builtin "min") (joL X.K):=by
 rintro pins s σ H ys us Q I r ⟨a,rs,m,rfl,hq,ne,hr,q⟩;obtain⟨u,rfl,rx⟩:=jeX r;cases rx;obtain⟨its,rv,pl,hz⟩:=I.list hq;have len:=rv.length;rw[xaa] at len;have ref:∀v∈its,∃r∈rs,v=.ref r:=fun v hv=>by
  obtain⟨i,hi⟩:=xcg hv;have i2:i<rs.length:=by have:=(xae.mp hi).1;omega
  obtain⟨w',e1,e2⟩:=rv.get (i:=i) (show (rs.map V.ref)[i]?=some (.ref rs[i]) by rw[xat,xad i2];rfl);rw[hi] at e1;cases e1;cases e2;exact⟨_,xaw i2,rfl⟩
 have pos:0<its.toArray.size:=by
  have:=xcj.mpr ne;simp;omega
 have lists:∀r∈rs,∃xs:Array Value,s.heap.IsList r xs/\xs.size=m/\jkY xs:=fun r hr'=>by
  obtain⟨ns,h1,h2⟩:=hr r hr';obtain⟨is,r1,p1,_⟩:=I.list h1;have i1:IntsAre is ns:=jbS r1;exact⟨_,p1.isList,by have:=i1.length;simp;omega,jhB i1⟩
 refine minOf (I.ok.hd hc) pl.isList pos (fun h=>∀r∈rs,∃xs:Array Value,h.IsList r xs/\xs.size=m/\jkY xs) lists (fun h h' g k r hr'=>?_) (fun u v s' Q' E' hi hj g q'=>?_) fun v h' tk hv hk=>?_
 ·obtain⟨xs,⟨o,ho,x3⟩,x2⟩:=g r hr';obtain⟨_,⟨o0,ho0,_⟩,_⟩:=lists r hr';exact⟨xs,⟨o,k r o (Heap.lt_size ho0) ho,x3⟩,x2⟩
 ·obtain⟨r1,m1,rfl⟩:=ref u (by simpa using hi);obtain⟨r2,m2,rfl⟩:=ref v (by simpa using hj);obtain⟨xs,x1,x2,x3⟩:=g r1 m1;obtain⟨ys,y1,y2,y3⟩:=g r2 m2;have hu':X.A.in1.units<cLine:=by
   have:X.A.in1.units=X.A.units+1:=rfl;omega
  exact jjy x1 y1 (by omega) x3 y3 hu' q'
 ·obtain⟨r1,m1,rfl⟩:=ref v (by simpa using hv);exact⟨.ref r1,H,I.kept hk,rfl,q r1 m1⟩
end
structure CompScopeMC (N:List Str) (sc:Scope) (N':List Str) (ix:List Nat) (xs0:List Str) (r:List Str) (cs:Scope):Prop where
 eq:N'=xs0++r
 kind:cs.kind=.function
 hown:∀y∈cs.names,y.2=.cell->cs.names.lookup y.1=some .cell
 hnames:∀y∈cs.names,y.2=.local->cs.names.lookup y.1=some .local
 nd:(xs0++r).Nodup
 fr:∀y∈cs.names,y.2=.free->sc.names.lookup y.1=some .cell\/sc.names.lookup y.1=some .free
 ixs:Ixs N sc cs r ix
theorem CompScopeMC.nest {N:List Str} {sc:Scope} {N':List Str} {ix:List Nat} {xs0:List Str} {r:List Str} {cs:Scope} (eq:N'=xs0++r) (kind:cs.kind=.function) (hown:∀y∈cs.names,y.2=.cell→cs.names.lookup y.1=some .cell) (hnames:∀y∈cs.names,y.2=.local→cs.names.lookup y.1=some .local) (nd:(xs0++r).Nodup) (h:∀y∈cs.names,y.2=.free→y.1∈r) (ixs:Ixs N sc cs r ix):CompScopeMC N sc N' ix xs0 r cs:=⟨eq,kind,hown,hnames,nd,jm5 ixs h,ixs⟩
section
variable {X:Cx} {pins:List (Addr × Obj)} {σ:St} {H:Hp} {s:Shared}
theorem Inv.compOkMC {N' r:List Str} {ix:List Nat} {xs0:List Str} {cs:Scope} {cl:List (Str × Addr)} {fp:List Addr} (I:Inv X pins σ H s) (S:CompScopeMC X.N X.env.scope N' ix xs0 r cs)
  (h2:∀y c,cl.lookup y=some c->X.env.cells.lookup y=some c) (h3:∀y,(y,NameKind.free)∈cs.names->∃c,cl.lookup y=some c) (hf:∀b∈fp,jhp X pins H b) (hfp:∀b∈fp,b<s.heap.objs.size) :
  (jaX X N' cs cl s H fp).Ok where
 mod:=I.ok.mod
 kind:=S.kind
 glob:=I.ok.glob
 blt:=I.ok.blt
 above:=xam _
 inj:=(I.cfs (cs:=cs) h2).1.inj
 has:=fun y hy=>by
  rcases hy.elim (fun z=>jdZ z (.inl rfl)) fun z=>jdZ z (.inr rfl) with z | z
  ·exact jm4 (h3 y z)
  ·obtain⟨c,h,_⟩:=jg7 cs.names (s.heap.objs.size+1) cl y z;exact⟨c,h⟩
 cab:=fun y c hy e=>by
  have z:cs.names.lookup y=some .cell:=beq_iff_eq.mp hy;obtain⟨c',h,hl⟩:=jg7 cs.names (s.heap.objs.size+1) cl y (PySem.mem_of_lookup z);have e':(cellsFrom (s.heap.objs.size+1) cs.names cl).lookup y=some c:=e;rw[h] at e';cases e';exact xa4 (xck _) hl
 hd:=I.ok.hd
 frames:=I.ok.frames
 stk:=.inl rfl
 exf:=fun b hb=>⟨xaK (hfp b hb),fun y c e=>by
  rcases (I.cfs (cs:=cs) h2).2 y c e with z | ⟨_,z,_⟩
  ·exact (hf b hb).2.2.2.2.1 y c z
  ·exact Nat.ne_of_gt (xau (xby (hfp b hb)) z)⟩
 bs:=I.bs
 bsz:=xa4 I.ok.bsz I.sz
 noex:=fun b o e hb=>by
  rcases (hf b hb).2.2.2.1 with z | z
  ·exact I.ok.noex b o e z
  ·exact absurd (xau (Heap.lt_size e) (xa4 I.ok.bsz z)) (xbw _)
 exfs:=fun b hb hs=>by
  rcases xap.mp (I.stkSub b hs) with z | z
  ·exact (hf b hb).2.1 z
  ·exact (hf b hb).2.2.1 z
 funs:=I.stack
 frf:=I.stkFree
theorem Inv.compStartMC {N' r:List Str} {ix:List Nat} {xs0:List Str} {cs:Scope} {cl:List (Str × Addr)} {fp:List Addr} (I:Inv X pins σ H s) (S:CompScopeMC X.N X.env.scope N' ix xs0 r cs)
  (h2:∀y c,cl.lookup y=some c->X.env.cells.lookup y=some c) (h3:∀y,(y,NameKind.free)∈cs.names->∃c,cl.lookup y=some c) (hf:∀b∈fp,jhp X pins H b) (hfp:∀b∈fp,b<s.heap.objs.size) :
  Inv (jaX X N' cs cl s H fp) [] (List.replicate xs0.length none++jaN σ ix) H { s with heap:=pushCells (s.heap.push { cls:=.type "dict",data:=.dict #[] }) cs.names }:=by
 have ok:=I.compOkMC (N':=N') (fp:=fp) S h2 h3 hf hfp;obtain⟨mo,hno,hlo⟩:=id I.loc;have hk:∀b o,s.heap.get? b=some o->(pushCells (s.heap.push { cls:=.type "dict",data:=.dict #[] }) cs.names).get? b=some o:=fun b o e=>pushCells_keeps _ _ _ _ (Heap.get?_push_of_some _ e);have cf:=(I.cfs (cs:=cs) h2).2;refine⟨ok,rfl,I.bare,Un.kept hk,⟨fun _=>none,(Heap.Ns.new s.heap (.type "dict")).keeps (pushCells_keeps _ _),fun i y v e1 e2 e3=>?_⟩,fun y c e=>?_,I.hok.fresh (xam _),fun y c e=>?_,fun p hp=>absurd (show p∈([]:List (Addr × Obj)) from hp) (by simp),I.hok.kept hk,?_⟩
 ·by_cases hi:i<xs0.length
  ·rw[xa3 (by rw[xbe];exact hi),List.getElem?_replicate,if_pos hi] at e2;cases e2
  ·have e1':r[i-xs0.length]?=some y:=by
    have:N'[i]?=some y:=e1;rw[S.eq,xaP (by omega)] at this;exact this
   have e2:(jaN σ ix)[i-xs0.length]?=some (some v):=by
    rw[xaP (by rw[xbe];omega),xbe] at e2;exact e2
   obtain⟨j,j1,j2,j3,j4⟩:=S.ixs.get e1';obtain⟨j',k1,k2⟩:=jfi (σ:=σ) (ix:=ix) (i:=i-xs0.length) (v:=v) e2;rw[j1] at k1;cases k1;obtain⟨u,ru,lk⟩:=hlo j y v j2 k2 (j3.elim (fun z=>.inr (.inl z)) fun z=>.inr (.inr z));refine⟨u,ru,?_⟩;obtain⟨c,hc⟩:=h3 y (PySem.mem_of_lookup j4);rcases lk with ⟨k,_⟩ | ⟨k,c',e',z⟩
   ·have k':X.env.scope.names.lookup y=some .local:=k;rcases j3 with q | q<;>(rw[q] at k';cases k')
   ·rw[h2 y c hc] at e';cases e';refine .inr ⟨?_,c,?_,?_⟩
    ·exact jbk (env:=X.env) j4
    ·have no:(y,NameKind.cell)∉cs.names:=fun q=>by
      have:=S.hown _ q rfl;rw[j4] at this;cases this
     show (cellsFrom (s.heap.objs.size+1) cs.names cl).lookup y=some c;rw[jg6 _ _ _ y no];exact hc
    ·obtain⟨o,ho,hd⟩:=z;exact⟨o,hk c o ho,hd⟩
 ·rcases cf y c e with z | ⟨_,_,z⟩
  ·obtain⟨v,o,ho,hd⟩:=I.cell y c z;exact⟨v,o,hk c o ho,hd⟩
  ·exact⟨none,z⟩
 ·rcases cf y c e with z | ⟨_,z,_⟩
  ·exact I.freeC y c z
  ·exact I.hok.fresh (xa4 (xck _) z)
 ·show (List.replicate xs0.length none++jaN σ ix).length=N'.length;rw[S.eq,xao,xao,xbe,S.ixs.len];unfold jaN;rw[xaa]
theorem jdF {N' r:List Str} {ix:List Nat} {xs0:List Str} {cs:Scope} {cl:List (Str × Addr)} {tg iter elt:Expr} {ifs:List Expr} {pos:Pos} {J:It} {fp:List Addr} {it:Addr} {tn:Nat->Heap->Prop} {g:TG} {tt:TT} {te:TE} {Z:Addr->Hp->Prop}
    {RR:Value->Addr->Result->Shared->Prop} {E:Value->Shared->Prop}
    (I:Inv X pins σ H s) (hc:X.calm=true) (S:CompScopeMC X.N X.env.scope N' ix xs0 r cs) (h2:∀y c,cl.lookup y=some c->X.env.cells.lookup y=some c) (h3:∀y,(y,NameKind.free)∈cs.names->∃c,cl.lookup y=some c)
    (T:Turn X.prog X.w X.K tg J fp it tn) (st:tn 0 s.heap) (hf:∀b∈fp,jhp X pins H b)
    (hg:∀s3 H3,PG (jaX X N' cs cl s3 H3 fp) tg g) (ht:∀s3 H3,PTs (jaX X N' cs cl s3 H3 fp) ifs tt) (he:∀s3 H3,PE (jaX X N' cs cl s3 H3 fp) elt te)
    (go:∀acc,H acc=none->jdE J xs0.length (jaN σ ix) g tt te acc (Z acc) H)
    (fin:∀acc C s' H' m,Inv X pins σ H' s'->jhp X pins H' C->s'.heap.Ns C m->Z acc H'->RR (.ref acc) C (.ok .next) s') :
    wpAny (model X.prog X.w) X.A (newList []) (fun acc s₃=>wpAny (model X.prog X.w) X.A (newFunctionEnv cs X.env.globals cl [] X.env.qual none .none (some X.env)) (fun cenv s₄ =>
      codeAny (model X.prog X.w) X.A (.compStart (.ListComp elt [⟨tg,iter,ifs,0⟩] cs pos) 0 (.ref it) acc { cenv with scope:=relabel cs X.env }) (RR acc cenv.locals) s₄) E s₃) E s:=by
  refine wpAny_newObj_type (jgs ?_);dsimp only;have hfs:∀b∈fp,b<s.heap.objs.size:=fun b hb=>by
    obtain⟨o,e,_⟩:=T.obj _ _ st b hb;exact Heap.lt_size e
  have I3:Inv X pins σ (upd H s.heap.objs.size (.lst [])) { s with heap:=s.heap.push { cls:=.type "list",data:=.seq ([]:List Value).toArray } }:=I.lnew (its:=[]) (t':=s.toks) .nil (xa6 _);have nacc:H s.heap.objs.size=none:=I.fresh;have hf3:∀b∈fp,jhp X pins (upd H s.heap.objs.size (.lst [])) b:=fun b hb=>⟨by rw[jaT (xaK (hfs b hb))];exact (hf b hb).1,(hf b hb).2⟩;have hfs3:∀b∈fp,b<(s.heap.push { cls:=.type "list",data:=.seq ([]:List Value).toArray }).objs.size:=fun b hb=>by
    rw[Heap.size_push];exact xby (hfs b hb)
  generalize hs3:({ s with heap:=s.heap.push { cls:=.type "list",data:=.seq ([]:List Value).toArray } }:Shared)=s3 at I3;generalize hH3:upd H s.heap.objs.size (.lst [])=H3 at I3 hf3;have eh:s.heap.push { cls:=.type "list",data:=.seq ([]:List Value).toArray }=s3.heap:=by rw[<- hs3]
  rw[eh] at hfs3;have I4:Inv (jaX X N' cs cl s3 H3 fp) [] (List.replicate xs0.length none++jaN σ ix) H3 { s3 with heap:=pushCells (s3.heap.push { cls:=.type "dict",data:=.dict #[] }) cs.names } :=
    I3.compStartMC S h2 h3 hf3 hfs3
  have cf:=(I3.cfs (cs:=cs) h2).2;have kp2:∀b o,s.heap.get? b=some o->(pushCells (s3.heap.push { cls:=.type "dict",data:=.dict #[] }) cs.names).get? b=some o:=fun b o e=>pushCells_keeps _ _ _ _ (Heap.get?_push_of_some _ (by rw[<- eh];exact Heap.get?_push_of_some _ e));have st4:tn 0 (pushCells (s3.heap.push { cls:=.type "dict",data:=.dict #[] }) cs.names):=T.keep _ _ _ st fun b hb o e=>kp2 b o e;obtain⟨W,⟨m0,w0⟩,turn⟩:=go s.heap.objs.size nacc;rw[hH3] at w0;have stat:∀{H':Hp},(∀b∈fp,H' b=none)->∀b∈fp,jhp (jaX X N' cs cl s3 H3 fp) [] H' b:=fun hn b hb =>
    ⟨hn b hb,xaK (hfs3 b hb),fun hs=>by
      rcases xap.mp (I.stkSub b hs) with z | z
      . exact (hf b hb).2.1 z
      . exact (hf b hb).2.2.1 z,.inl hb,fun y c e=>by
        rcases cf y c e with z | ⟨_,z,_⟩
        . exact (hf b hb).2.2.2.2.1 y c z
        . exact Nat.ne_of_gt (xau (xby (hfs3 b hb)) z),fun p hp=>absurd (show p∈([]:List (Addr × Obj)) from hp) (by simp)⟩
  have es:s3.heap.objs.size=s.heap.objs.size+1:=by rw[<- eh,Heap.size_push]
  have loop:codeAny (model X.prog X.w) X.A (.compLoop (.ListComp elt [⟨tg,iter,ifs,0⟩] cs pos) 0 (.ref it) (.ref s.heap.objs.size) (jaX X N' cs cl s3 H3 fp).env)
      (RR (.ref s.heap.objs.size) s3.heap.objs.size) { s3 with heap:=pushCells (s3.heap.push { cls:=.type "dict",data:=.dict #[] }) cs.names }:=by
    refine jg3 (fun n s'=>∃i v0 H' xs,v0.length=xs0.length/\Inv (jaX X N' cs cl s3 H3 fp) [] (v0++jaN σ ix) H' s'/\tn i s'.heap/\(∀b∈fp,H' b=none)/\W i n xs H') ?_ m0
      ⟨0,List.replicate xs0.length none,H3,[],xbe,I4,st4,fun b hb=>(hf3 b hb).1,w0⟩
    rintro n s5 ⟨i,v0,H5,xs,l5,I5,st5,fr5,w5⟩;rcases turn i n xs H5 w5 with ⟨stop,q⟩ | ⟨hgo,Nx,Nn,hNx,hNn,step⟩
    . refine thn (T.done (jaX X N' cs cl s3 H3 fp) rfl rfl rfl hc i [] s5 _ H5 _ I5 (stat fr5) st5 stop) fun r' s6 ⟨hr,I6⟩=>?_
      subst hr;have u:Un (frs X.stack) fp H H5 s.heap s6.heap:=by
        refine Un.trans (H1:=H3) (h1:=s3.heap) ?_ I6.base;rw[<- hH3,<- eh];exact Un.laid (fun _ _ q=>Heap.get?_push_of_some _ q) (xam _) nacc
      have e3:s3.os=s.os:=by rw[<- hs3]
      have os6:s6.os=s.os:=I6.os.trans e3;have J6:Inv X pins σ H5 s6:=I.call' os6 u I6.hok I6.bare fun b hb=>⟨(hf b hb).2.2.2.1,(hf b hb).2.1,(hf b hb).2.2.2.2.1,(hf b hb).2.2.2.2.2⟩;obtain⟨m6,n6,_⟩:=I6.loc;exact fin _ _ s6 H5 m6 J6 (I.fpOk (by rw[es];exact xck _) I6.free) n6 q
    . refine thn (T.item (jaX X N' cs cl s3 H3 fp) rfl rfl rfl hc i [] s5 _ H5 _ I5 (stat fr5) st5 hgo) fun r' s6 ⟨u,hr,h6⟩=>?_
      subst hr;refine thn h6 fun _ s7 ⟨y,H7,I7,r7,y7,st7,fr7⟩=>?_;have I7':=I7.pinned (stat fr7) (T.obj _ _ st7);refine wpAny_mono (hg s3 H3 _ s7 _ H7 y u _ I7' r7 (step v0 y H7 l5 y7)) (fun _ s8 ⟨σ8,H8,I8,⟨v8,l8,e8⟩,q8⟩=>?_) fun _ _ z=>z.elim;subst e8;have back:∀{s9:Shared} {H9:Hp} {m':Nat} {xs':List V},Inv (jaX X N' cs cl s3 H3 fp) ([]++jgS fp s7.heap) (v8++jaN σ ix) H9 s9->m'<n->W (i+1) m' xs' H9 ->
          ∃m,m<n/\∃i v0 H' xs,v0.length=xs0.length/\Inv (jaX X N' cs cl s3 H3 fp) [] (v0++jaN σ ix) H' s9/\tn i s9.heap/\(∀b∈fp,H' b=none)/\W i m xs H':=fun {s9 H9 m' xs'} I9 hm w9 =>
        ⟨m',hm,i+1,v8,H9,xs',l8,I9.unpinned,T.keep _ _ _ st7 fun b hb o e=>(I9.pin (b,o) (xaX _ (xaX _ (jdq hb e)))).1,fun b hb=>by
          obtain⟨o,e,d⟩:=T.obj _ _ st7 b hb;exact (I9.pin (b,o) (xaX _ (xaX _ (jdq hb e)))).2.1,w9⟩
      refine thn (ht s3 H3 _ _ s8 _ H8 _ (fun _ _ z=>z.elim) I8 q8) fun b s9 ⟨H9,I9,q9⟩=>?_;cases b with
      | false =>
        rw[if_neg xaC] at q9 |-
        obtain⟨m',hm,w9⟩:=hNn H9 q9;exact back I9 hm w9
      | true =>
        rw[if_pos rfl] at q9 |-
        refine wpAny_mono (he s3 H3 _ s9 _ H9 _ I9 q9) (fun u2 s10 ⟨y2,H10,I10,r10,q10⟩=>?_) fun _ _ z=>z.elim;obtain⟨a10,z10,m',hm,w10⟩:=hNx y2 H10 q10;refine wpAny_mono (jfg (X:=jaX X N' cs cl s3 H3 fp) _ s10 _ H10 (.ref s.heap.objs.size) [y2] (.ref s.heap.objs.size) [u2] (fun _ H'=>H'=upd H10 s.heap.objs.size (.lst (xs++[y2]))) I10 rfl (.cons r10 .nil) ⟨_,xs,y2,rfl,rfl,a10,z10,rfl⟩) (fun _ s11 ⟨_,H11,I11,_,e11⟩=>?_) fun _ _ z=>z.elim;subst e11;exact back I11 hm w10
  subst hs3;exact codeAny_compStart_list loop (T.self X.A 0 _ _ _ st4 loop)
end
section
variable {X:Cx} {N' r xs0:List Str} {ix:List Nat} {cs:Scope} {tg iter elt:Expr} {ifs:List Expr} {pos:Pos} {wi:TI} {g:TG} {tt:TT} {te:TE}
theorem CompScopeMC.clos {sc:Scope} {N:List Str} (S:CompScopeMC N sc N' ix xs0 r cs) {env:Env} (he:env.scope=sc) (has:∀y,(env.kindOf y=some .cell\/env.kindOf y=some .free)->∃c,env.cells.lookup y=some c) :
  ∃cl:List (Str × Addr),closureFor cs env=pure cl/\(∀y c,cl.lookup y=some c->env.cells.lookup y=some c)/\(∀y,(y,NameKind.free)∈cs.names->∃c,cl.lookup y=some c) :=
 jem fun y hy hk=>has y.1 (by
  subst he;exact S.fr y hy hk)
theorem jfm (hc:X.calm=true) (S:CompScopeMC X.N X.env.scope N' ix xs0 r cs) (hi:PI X tg iter wi)
  (hg:∀cl s3 H3 fp,PG (jaX X N' cs cl s3 H3 fp) tg g) (ht:∀cl s3 H3 fp,PTs (jaX X N' cs cl s3 H3 fp) ifs tt) (he:∀cl s3 H3 fp,PE (jaX X N' cs cl s3 H3 fp) elt te)
  (hs:∀x,foldedSetIterable iter X.env x=pure x:=by intro _;rfl):PE X (.ListComp elt [⟨tg,iter,ifs,0⟩] cs pos) (jlW wi ix xs0.length g tt te):=by
 intro pins s σ H Q I h;obtain⟨cl,c1,c2,c3⟩:=S.clos rfl I.ok.has;rw[eval_ListComp];refine wpAny_comprehension_free (use:=none) rfl hs c1 S.kind S.hnames (thn (hi pins s σ H _ I h) fun v s1 h1=>thn h1 fun itv s2 h2=>?_);obtain⟨it,fp,tn,J,H2,e,I2,T,st2,f2,R⟩:=h2;subst e;refine jdF (RR:=fun acc C=>compPost (model X.prog X.w) X.A X.xe none (EP X pins σ Q) acc C) I2 hc S c2 c3 T st2 f2 (fun s3 H3=>hg cl s3 H3 fp) (fun s3 H3=>ht cl s3 H3 fp) (fun s3 H3=>he cl s3 H3 fp) R ?_;intro acc C s' H' m I' fC hn q;refine⟨m,hn,fun h' hb=>⟨.ref acc,H',?_,rfl,q⟩⟩;exact I'.turned (t':=s'.toks) (fun b o hne e=>(hb.2 b hne).trans e) fC.1 fC.2.1 fC.2.2.2.1 fC.2.2.2.2.1 fC.2.2.2.2.2
end
section
variable {X:Cx} {tg:Expr}
def iLT (K:PySem.W.Frag) (tl:TE):TI:=fun σ H R=>tl σ H fun x H1=>∃a,x=.ref a/\(((∃xs,SqL K H1 a xs)/\R (Itl K a) H1)\/((∃xs,SqT K H1 a xs)/\R (Itt K a) H1))
theorem pi_lt {l:Expr} {tl:TE} (hl:PE X l tl):PI X tg l (iLT X.K tl):=by
 intro pins s σ H R I h;refine thn (hl pins s σ H _ I h) fun v s1 ⟨x,H1,I1,r1,q1⟩=>?_;obtain⟨a,e,q1⟩:=q1;subst e;cases r1;rcases q1 with ⟨⟨xs,hq⟩,q⟩ | ⟨⟨xs,hq⟩,q⟩
 ·obtain⟨its,rv,p,hz⟩:=I1.list hq;refine wpAny_pyIter_list p.isList ?_;refine⟨s1.heap.objs.size,[s1.heap.objs.size],_,_,H1,rfl,I1.kept (t':=s1.toks) fun b o e=>Heap.get?_push_of_some _ e,jgR a _,⟨_,Heap.get?_push_size _ rfl,rfl,rfl⟩,fun b hb=>?_,q⟩;have e:b=s1.heap.objs.size:=by simpa using hb
  subst e;exact I1.fpOk (xam _) (I1.hok.fresh (xam _))
 ·obtain⟨its,rv,p,hz⟩:=I1.tuple hq;refine wpAny_pyIter_tuple (show s1.heap.IsTuple a its.toArray from p) ?_;refine⟨s1.heap.objs.size,[s1.heap.objs.size],_,_,H1,rfl,I1.kept (t':=s1.toks) fun b o e=>Heap.get?_push_of_some _ e,jfV a _,⟨_,Heap.get?_push_size _ rfl,rfl,rfl⟩,fun b hb=>?_,q⟩;have e:b=s1.heap.objs.size:=by simpa using hb
  subst e;exact I1.fpOk (xam _) (I1.hok.fresh (xam _))
end
section
variable {K:PySem.W.Frag} {tl:TE} {g:TG} {tb:TS} {D:Ends} {σ:St} {H:Hp}
theorem jm9:jlG (iLT K tl) g tb D σ H=tl σ H fun x H1=>∃a,x=.ref a/\(((∃xs,SqL K H1 a xs)/\jkS (Itl K a) g tb D σ H1)\/((∃xs,SqT K H1 a xs)/\jkS (Itt K a) g tb D σ H1)):=rfl
end
theorem CompScopeC.mc {N:List Str} {sc:Scope} {N':List Str} {ix:List Nat} {x:Str} {r:List Str} {cs:Scope} (S:CompScopeC N sc N' ix x r cs):CompScopeMC N sc N' ix [x] r cs:=⟨S.eq,S.kind,S.hown,S.hnames,S.nd,S.fr,S.ixs⟩
theorem CompGo.m1 {J:It} {ρ:St} {g:TG} {tt:TT} {te:TE} {acc:Addr} {Z:Hp->Prop} {H1:Hp} (h:CompGo J ρ g tt te acc Z H1):jdE J [("":Str)].length ρ g tt te acc Z H1:=by
 obtain⟨W,h0,hs⟩:=h;refine⟨W,h0,fun i m xs H w=>?_⟩;rcases hs i m xs H w with h | ⟨hg,Nx,Nn,h1,h2,step⟩
 ·exact .inl h
 ·refine .inr ⟨hg,Nx,Nn,h1,h2,fun v0 x H' l0 y=>?_⟩;obtain⟨a,rfl⟩:=List.length_eq_one_iff.mp l0;have e:(fun (σ2:St) (H2:Hp)=>(∃v,σ2=v::ρ)/\tt σ2 H2 fun b H3=>if b=true then te σ2 H3 Nx else Nn H3)=fun σ2 H2=>(∃v:St,v.length=[("":Str)].length/\σ2=v++ρ)/\tt σ2 H2 fun b H3=>if b=true then te σ2 H3 Nx else Nn H3:=by
   funext σ2 H2
   refine congrArg (·/\_) (propext ⟨fun ⟨v,e⟩=>⟨[v],rfl,e⟩,fun ⟨v,l,e⟩=>?_⟩);obtain⟨b,rfl⟩:=List.length_eq_one_iff.mp l;exact⟨b,e⟩
  have:=step a x H' y;rw[e] at this;exact this
section
variable {X:Cx} {N' r:List Str} {ix:List Nat} {x:Str} {cs:Scope} {tg iter elt:Expr} {ifs:List Expr} {pos:Pos} {wi:TI} {g:TG} {tt:TT} {te:TE}
theorem jaF (hc:X.calm=true) (S:CompScopeC X.N X.env.scope N' ix x r cs) (hi:PI X tg iter wi)
  (hg:∀cl s3 H3 fp,PG (jaX X N' cs cl s3 H3 fp) tg g) (ht:∀cl s3 H3 fp,PTs (jaX X N' cs cl s3 H3 fp) ifs tt) (he:∀cl s3 H3 fp,PE (jaX X N' cs cl s3 H3 fp) elt te)
  (hs:∀x,foldedSetIterable iter X.env x=pure x:=by intro _;rfl):PE X (.ListComp elt [⟨tg,iter,ifs,0⟩] cs pos) (jgn wi ix g tt te):=by
 intro pins s σ H Q I h;obtain⟨cl,c1,c2,c3⟩:=S.mc.clos rfl I.ok.has;rw[eval_ListComp];refine wpAny_comprehension_free (use:=none) rfl hs c1 S.kind S.hnames (thn (hi pins s σ H _ I h) fun v s1 h1=>thn h1 fun itv s2 h2=>?_);obtain⟨it,fp,tn,J,H2,e,I2,T,st2,f2,R⟩:=h2;subst e;refine jdF (RR:=fun acc C=>compPost (model X.prog X.w) X.A X.xe none (EP X pins σ Q) acc C) I2 hc S.mc c2 c3 T st2 f2 (fun s3 H3=>hg cl s3 H3 fp) (fun s3 H3=>ht cl s3 H3 fp) (fun s3 H3=>he cl s3 H3 fp) (fun acc h=>(R acc h).m1) ?_;intro acc C s' H' m I' fC hn q;refine⟨m,hn,fun h' hb=>⟨.ref acc,H',?_,rfl,q⟩⟩;exact I'.turned (t':=s'.toks) (fun b o hne e=>(hb.2 b hne).trans e) fC.1 fC.2.1 fC.2.2.2.1 fC.2.2.2.2.1 fC.2.2.2.2.2
theorem jbV {i:Nat} {y:Str} {py spos:Pos} (hc:X.calm=true) (hN:X.N.Nodup) (hiN:X.N[i]?=some y) (hy:X.env.scope.names.lookup y=some .local) (S:CompScopeC X.N X.env.scope N' ix x r cs) (hi:PI X tg iter wi)
  (hg:∀cl s3 H3 fp,PG (jaX X N' cs cl s3 H3 fp) tg g) (ht:∀cl s3 H3 fp,PTs (jaX X N' cs cl s3 H3 fp) ifs tt) (he:∀cl s3 H3 fp,PE (jaX X N' cs cl s3 H3 fp) elt te)
  (hsw:swapsWith (.ListComp elt [⟨tg,iter,ifs,0⟩] cs pos) (some (.Name y py)) spos.line X.env=pure true:=by rfl)
  (hs:∀x,foldedSetIterable iter X.env x=pure x:=by intro _;rfl):PS X (.Assign [.Name y py] (.ListComp elt [⟨tg,iter,ifs,0⟩] cs pos) spos) (jmM (jgn wi ix g tt te) (jbt i)):=by
 intro pins s σ H D I h;obtain⟨cl,c1,c2,c3⟩:=S.mc.clos rfl I.ok.has;rw[exec_Assign_Name_used _ _ _ _ hsw];refine wpAny_bind (wpAny_standAt (wpAny_bind ?_));show wpAny _ X.A (do let _ <- comprehension (.ListComp elt [⟨tg,iter,ifs,0⟩] cs pos) cs X.env _ (newList []) false (eval iter X.env) (some (assign (.Name y py) X.env))) _ _ s;refine wpAny_bind (wpAny_mono (wpAny_comprehension_free (use:=some (assign (.Name y py) X.env)) (Q:=fun _ s'=>SP X pins D .next s') rfl hs c1 S.kind S.hnames
  (thn (hi pins s σ H _ I h) fun v s1 h1=>thn h1 fun itv s2 h2=>?_)) (fun _ s' hq=>wpAny_pure (wpAny_pure hq)) fun _ _ e=>e)
 obtain⟨it,fp,tn,J,H2,e,I2,T,st2,f2,R⟩:=h2;subst e;refine jdF (RR:=fun acc C=>compPost (model X.prog X.w) X.A X.xe (some (assign (.Name y py) X.env)) (fun _ s'=>SP X pins D .next s') acc C) I2 hc S.mc c2 c3 T st2 f2 (fun s3 H3=>hg cl s3 H3 fp) (fun s3 H3=>ht cl s3 H3 fp) (fun s3 H3=>he cl s3 H3 fp) (fun acc h=>(R acc h).m1) ?_;intro acc C s' H' m I' fC hn q;show wpAny _ X.A (assign (.Name y py) X.env (.ref acc)) _ _ _;refine wpAny_assign_Name (jgO (v:=.ref acc) I' hN hiN (.inl hy) rfl (fun s'' I'' ⟨a,hb,ha⟩=>?_) (.inr hy));have hCa:C≠a:=fun z=>by
  rcases ha with ha | ha
  ·exact fC.2.1 (z.trans ha)
  ·exact fC.2.2.2.2.1 y a ha z.symm
 refine⟨m,hn.sameBut hb hCa,fun h' hb'=>⟨_,H',?_,q⟩⟩;exact I''.turned (t':=s''.toks) (fun b o hne e=>(hb'.2 b hne).trans e) fC.1 fC.2.1 fC.2.2.2.1 fC.2.2.2.2.1 fC.2.2.2.2.2
end
end L2
set_option maxHeartbeats 2000000
namespace My
def G (d:Int) (ns:List Int):Int:=ns.foldl (fun d n=>((Int.gcd d n:Nat):Int)) d
abbrev gl (ns:List Int):Int:=G 0 ns
theorem jg8 (d n:Int) (r:List Int):G d (n::r)=G (Int.gcd d n:Nat) r:=rfl
theorem joM (d:Int) (l:List Int) (n:Int):G d (l++[n])=(Int.gcd (G d l) n:Nat):=by
 unfold G;rw[List.foldl_append];rfl
theorem jib:∀(ns:List Int) (d:Int),0<=d->0<=G d ns
 | [],_,h=>h
 | n::r,d,_=>by rw[jg8];exact jib r _ (by omega)
theorem jbq (ns:List Int):0<=gl ns:=jib ns 0 (by omega)
theorem joN:∀(ns:List Int) (d:Int),G d ns ∣ d/\∀n∈ns,G d ns ∣ n
  | [],d=>⟨xcm d,fun n h=>nomatch h⟩
  | m :: r, d => by
    obtain⟨h1,h2⟩:=joN r (Int.gcd d m:Nat);rw[jg8];refine⟨xbx h1 (xbs ..),fun n hn=>?_⟩;rcases xap.mp hn with rfl | hn
    . exact xbx h1 (xbm ..)
    . exact h2 n hn
variable {ns:List Int}
theorem jaV {n:Int} (h:n∈ns):gl ns ∣ n:=(joN ns 0).2 n h
theorem joO:∀(ns:List Int) (d k:Int),k ∣ d->(∀n∈ns,k ∣ n)->k ∣ G d ns
  | [],_,_,h,_=>h
  | m :: r, d, k, h, hn => by
    rw[jg8];refine joO r _ k ?_ fun n h'=>hn n (xag _ h');have h2:=hn m xaS;exact xbz h h2
variable {k S x0 y0 a x y A B ε m2 α β γ:Int}
theorem jfZ (h:∀n∈ns,k ∣ n):k ∣ gl ns:=joO ns 0 k (Int.dvd_zero k) h
theorem jna (h0:0<=k) (h:k ∣ 1):k=1:=by
 exact Int.eq_one_of_dvd_one h0 h
theorem jg9 (hg:gl ns≠0):gl (ns.map (· / gl ns))=1:=by
 have h0:=jbq ns;refine jna (jbq _) ?_;have h1:∀n∈ns,gl (ns.map (· / gl ns))*gl ns ∣ n:=fun n hn=>by
  obtain⟨c,hc⟩:=jaV (ns:=ns.map (· / gl ns)) (xai.mpr ⟨n,hn,rfl⟩);refine⟨c,?_⟩;have e:n=n / gl ns*gl ns:=(xaM (jaV hn)).symm;rw[e,hc,xcs,xaL c,<- xcs]
 obtain⟨c,hc⟩:=jfZ h1;refine⟨c,?_⟩;have h2:gl ns*1=gl ns*(gl (ns.map (· / gl ns))*c):=by
  rw[Int.mul_one,<- xcs,xaL (gl ns) (gl (ns.map (· / gl ns)))];exact hc
 exact Int.eq_of_mul_eq_mul_left hg h2
theorem joP:∀ns:List Int,G 1 ns=1
  | []=>rfl
  | n :: r => by
    rw[jg8];have:Int.gcd 1 n=1:=by simp
    rw[this];exact joP r
theorem jkZ (d:Int) (a b:List Int):G d (a++b)=G (G d a) b:=by
 unfold G;exact List.foldl_append
variable {n i j:Nat}
theorem jfU (h:gl (ns.take i)=1):gl ns=1:=by
 have e:ns=ns.take i++ns.drop i:=(xaQ i ns).symm;rw[e];show G 0 _=1;rw[jkZ];have h':G 0 (ns.take i)=1:=h;rw[h'];exact joP _
theorem jha {n:Int} (h:ns[i]?=some n):gl (ns.take (i+1))=(Int.gcd (gl (ns.take i)) n:Nat):=by
 rw[xbI,h];exact joM 0 _ n
theorem jhC (ns:List Int):ns.map (· / 1)=ns:=by
 induction ns with
 | nil=>rfl
 | cons a r ih=>rw[xa5,ih,Int.ediv_one]
theorem jic (a b:Int) (ha:0<=a):Int.gcd b (a % b)=Int.gcd a b:=by
 have h1:(a % b).natAbs=a.natAbs % b.natAbs:=Int.natAbs_emod_of_nonneg ha b;rw[Int.gcd_eq_natAbs_gcd_natAbs,Int.gcd_eq_natAbs_gcd_natAbs,h1];rw[Nat.gcd_comm,Nat.gcd_comm a.natAbs,<- Nat.gcd_rec]
theorem jnb (a b:Int):Int.gcd (if a<0 then -a else a) (if b<0 then -b else b)=Int.gcd a b:=by
 split<;>split<;>simp [Int.gcd_neg,Int.neg_gcd]
theorem jiD (a b:Int):Int.gcd (if b>a then b else a) (if b<a then b else a)=Int.gcd a b:=by
 split<;>split
 ·omega
 ·exact Int.gcd_comm b a
 ·rfl
 ·have:a=b:=by omega
  rw[this]
theorem jco {n:Int} (h:n∈ns) (hn:n≠0):0<gl ns:=by
 have h0:=jbq ns;rcases Int.lt_or_eq_of_le h0 with h1 | h1
 ·exact h1
 ·obtain⟨c,hc⟩:=jaV h;rw[<- h1,xaJ] at hc;exact absurd hc hn
end My
namespace My
theorem jfn {n g:Int} (h:g ∣ n) (hn:n≠0):n / g≠0:=fun z=>by
 have e:=xaM h;rw[z,xaJ] at e;exact hn e.symm
end My
local macro_rules | `(tactic| walk_at "cs") => `(tactic| exact .nest rfl rfl (by decide +kernel) (by decide +kernel) (by decide +kernel) (by decide +kernel) (by repeat (first | exact .nil | refine .cons rfl (.inl rfl) rfl ?_)))
local macro_rules | `(tactic| walk_at "ar") => `(tactic| (intro vs H Q E h; cases h; subst_vars; rfl))
local macro_rules | `(tactic| walk_at "rjs") => `(tactic| simp only [L2.start, L2.jov, L2.jhr, L2.jmM, L2.jbt, L2.jeE, L2.tC, L2.tOp, L2.tUn, L2.jhv, L2.tB, L2.jmK, L2.jiM, L2.jkJ, L2.jiX, L2.jgQ, L2.jiW, L2.jos, L2.tOr, L2.jot, L2.jiU, L2.tOrV, L2.jiV, L2.jeY, L2.tCB, L2.jbF, L2.jgU, L2.jmT, L2.jkN, L2.jox, L2.joC, L2.tBM, L2.tyV, L2.joE, L2.gk, and_self, L2.tSl, L2.jfe, L2.ji9, L2.jmL, L2.jht, L2.joh, L2.jiN, and_assoc, L2.rI, L2.rI0, L2.rU, L2.rEq, L2.rNe, L2.joi, List.map_cons, List.map_nil, List.length_cons, List.length_nil, List.replicate_succ, List.replicate_zero, List.cons_append, List.nil_append, List.append_nil, Nat.reduceSub, Nat.reduceAdd, Nat.sub_self, List.set_cons_zero, List.set_cons_succ, List.getElem?_cons_zero, List.getElem?_cons_succ, Option.some.injEq, exists_eq_left', exists_eq_left, L2.V.int.injEq, L2.V.bl.injEq, L2.V.ref.injEq, L2.V.ty.injEq, List.cons.injEq, exists_and_left, and_true, true_and, reduceCtorEq, false_and, and_false, exists_false, or_false, false_or, L2.jaN, Option.getD_some, Bool.true_eq_false, decide_eq_true_eq, Bool.not_eq_true', decide_eq_false_iff_not, decide_not, Bool.false_eq_true, if_true, if_false, ite_not])
local macro_rules | `(tactic| walk_at "rj") => `(tactic| first | ((dsimp only [L2.start, L2.jov, L2.jhr, L2.jmM, L2.jbt, L2.jeE, L2.tC, L2.tOp, L2.tUn, L2.jhv, L2.tB, L2.jmK, L2.jiM, L2.jkJ, L2.jiX, L2.jgQ, L2.jiW, L2.jos, L2.tOr, L2.jot, L2.jiU, L2.tOrV, L2.jiV, L2.jeY, L2.tCB, L2.jbF, L2.jgU, L2.jmT, L2.jkN, L2.jox, L2.joC, L2.tBM, L2.tyV, L2.joE, L2.gk, L2.tSl, L2.jfe, L2.ji9, L2.jmL, L2.jht, L2.joh, L2.jiN, L2.rI, L2.rI0, L2.rU, L2.rEq, L2.rNe, L2.joi, L2.jaN, List.map_cons, List.map_nil, List.length_cons, List.length_nil, List.replicate_succ, List.replicate_zero, List.cons_append, List.nil_append, List.set_cons_zero, List.set_cons_succ, List.getElem?_cons_zero, List.getElem?_cons_succ, Option.getD_some, Nat.reduceSub, Nat.reduceAdd]); (try walk_at "rjs")) | walk_at "rjs")
local macro_rules | `(tactic| walk_at "go") => `(tactic| repeat (first | refine L2.ixT (by assumption) rfl ?_ | refine L2.ixL (by assumption) rfl ?_ | refine And.intro (by assumption) ?_ | walk_at "rj"))
local macro_rules | `(tactic| walk_at "ris") => `(tactic| simp only [L2.start, L2.jov, L2.jhr, L2.jmM, L2.jbt, L2.jeE, L2.tC, L2.tOp, L2.tUn, L2.jhv, L2.tB, L2.jmK, L2.jiM, L2.jkJ, L2.jiX, L2.jgQ, L2.jiW, L2.jos, L2.tOr, L2.jot, L2.jiU, L2.tOrV, L2.jiV, L2.jeY, L2.tCB, L2.jbF, L2.jgU, L2.jmT, L2.jkN, L2.jox, L2.joC, L2.tBM, L2.tyV, L2.joE, L2.gk, and_self, L2.tSl, L2.jfe, L2.ji9, L2.jmL, L2.jht, L2.joh, L2.jiN, and_assoc, L2.rI, L2.rI0, L2.rU, L2.rEq, L2.rNe, L2.joi, List.map_cons, List.map_nil, List.length_cons, List.length_nil, List.replicate_succ, List.replicate_zero, List.cons_append, List.nil_append, List.append_nil, Nat.reduceSub, Nat.reduceAdd, Nat.sub_self, List.set_cons_zero, List.set_cons_succ, List.getElem?_cons_zero, List.getElem?_cons_succ, Option.some.injEq, exists_eq_left', exists_eq_left, L2.V.int.injEq, L2.V.bl.injEq, L2.V.ref.injEq, L2.V.ty.injEq, List.cons.injEq, exists_and_left, and_true, true_and, reduceCtorEq, false_and, and_false, exists_false, or_false, false_or, L2.jaN, Option.getD_some, Bool.true_eq_false, decide_eq_true_eq, Bool.not_eq_true', decide_eq_false_iff_not, decide_not, Bool.false_eq_true, if_true, if_false, ite_not, L2.jjk, L2.jjl, L2.jlS, L2.jlT, L2.jh6, L2.jh7, L2.jjm, L2.jjn, L2.jlV, L2.jjs, L2.jlM, L2.V.str.injEq, L2.jh9, L2.jgr, L2.jia, L2.jlX])
local macro_rules | `(tactic| walk_at "ri") => `(tactic| first | ((dsimp only [L2.start, L2.jov, L2.jhr, L2.jmM, L2.jbt, L2.jeE, L2.tC, L2.tOp, L2.tUn, L2.jhv, L2.tB, L2.jmK, L2.jiM, L2.jkJ, L2.jiX, L2.jgQ, L2.jiW, L2.jos, L2.tOr, L2.jot, L2.jiU, L2.tOrV, L2.jiV, L2.jeY, L2.tCB, L2.jbF, L2.jgU, L2.jmT, L2.jkN, L2.jox, L2.joC, L2.tBM, L2.tyV, L2.joE, L2.gk, L2.tSl, L2.jfe, L2.ji9, L2.jmL, L2.jht, L2.joh, L2.jiN, L2.rI, L2.rI0, L2.rU, L2.rEq, L2.rNe, L2.joi, L2.jaN, L2.jjk, L2.jjl, L2.jlS, L2.jlT, L2.jh6, L2.jh7, L2.jjm, L2.jjn, L2.jlV, L2.jjs, L2.jlM, L2.jh9, L2.jgr, L2.jia, L2.jlX, List.map_cons, List.map_nil, List.length_cons, List.length_nil, List.replicate_succ, List.replicate_zero, List.cons_append, List.nil_append, List.set_cons_zero, List.set_cons_succ, List.getElem?_cons_zero, List.getElem?_cons_succ, Option.getD_some, Nat.reduceSub, Nat.reduceAdd]); (try walk_at "ris")) | walk_at "ris")
local macro_rules | `(tactic| walk_at "sd") => `(tactic| first | assumption | exact L2.Fit.o (by omega) (by omega) | (show L2.CPow _ _; exact ⟨by decide, by decide, by decide⟩) | decide)
local macro_rules | `(tactic| walk_at "gf") => `(tactic| repeat (first | ((with_reducible apply L2.ixT); assumption; rfl) | ((with_reducible apply L2.ixL); assumption; rfl) | ((with_reducible apply L2.FoR.lst); assumption) | ((with_reducible apply L2.FoR.tup); assumption) | ((with_reducible apply L2.FoR.len); assumption) | ((with_reducible apply L2.FoR.lenT); assumption) | ((with_reducible apply And.intro); (walk_at "sd")) | walk_at "ri"))
local macro_rules | `(tactic| walk_at "sc") => `(tactic| exact ⟨rfl, rfl, rfl, by decide +kernel, rfl, by decide +kernel, by decide +kernel⟩)
local macro_rules | `(tactic| walk_at "rd") => `(tactic| try walk_at "rj")
local macro_rules | `(tactic| walk_at "rf") => `(tactic| try walk_at "ri")
namespace My
open PySem L2 PyProof.Rows
def top (i:Nat):Stmt:=PySem.Challenge.pw_boardsight_k30_whole_along_the_sight.main.body.getD i (.Pass ⟨0,0,0,0⟩)
abbrev jfo:Stmt:=top 8
abbrev jbW:Stmt:=top 9
abbrev jbr:Stmt:=top 10
abbrev jbw:Stmt:=top 11
abbrev jfp:Stmt:=top 12
abbrev jcv:Stmt:=top 13
abbrev jbl:Stmt:=top 15
abbrev jcc:Stmt:=top 16
abbrev jbX:Stmt:=top 17
abbrev jfq:Stmt:=top 18
abbrev jep:Stmt:=top 19
abbrev jfr:Stmt:=top 20
abbrev jbs:Stmt:=top 21
abbrev jcW:Stmt:=top 23
abbrev jcd:Stmt:=top 24
abbrev jeq:Stmt:=top 25
abbrev jcw:Stmt:=top 26
abbrev jbY:Stmt:=top 27
abbrev jcx:Stmt:=top 28
abbrev jfs:Stmt:=top 29
abbrev jgt:Stmt:=top 30
abbrev jgu:Stmt:=top 32
abbrev jer:Stmt:=top 33
abbrev jdG:Stmt:=top 34
abbrev jce:Stmt:=top 35
abbrev jes:Stmt:=top 36
abbrev jet:Stmt:=top 37
abbrev jbK:Stmt:=top 38
abbrev jbf:Stmt:=top 39
abbrev jcX:Stmt:=top 45
abbrev jcY:Stmt:=top 46
abbrev jeu:Stmt:=top 47
abbrev jcf:Stmt:=top 48
abbrev jcy:Stmt:=top 41
abbrev jgv:Stmt:=top 42
abbrev jft:Stmt:=top 43
abbrev jbL:Stmt:=top 50
abbrev jcZ:Stmt:=top 51
abbrev jbZ:Stmt:=top 52
abbrev jdH:Stmt:=top 53
abbrev jcz:Stmt:=top 54
abbrev jbm:Stmt:=top 55
abbrev jb0:Stmt:=top 56
abbrev jb1:Stmt:=top 57
abbrev jev:Stmt:=top 58
abbrev jc0:Stmt:=top 60
abbrev jc1:Stmt:=top 61
abbrev jdI:Stmt:=top 62
abbrev jdJ:Stmt:=top 63
abbrev jc2:Stmt:=top 64
abbrev jc3:Stmt:=top 65
abbrev jew:Stmt:=top 66
abbrev jcA:Stmt:=top 67
abbrev jc4:Stmt:=top 68
abbrev jdK:Stmt:=top 69
abbrev jcg:Stmt:=top 70
abbrev jdL:Stmt:=top 71
abbrev jcB:Stmt:=top 72
abbrev jch:Stmt:=top 73
abbrev jdM:Stmt:=top 74
abbrev jex:Stmt:=top 75
abbrev jc5:Stmt:=top 76
abbrev jdN:Stmt:=top 77
abbrev jey:Stmt:=top 78
abbrev jci:Stmt:=top 79
abbrev jcC:Stmt:=top 80
abbrev jdO:Stmt:=top 81
abbrev jdP:Stmt:=top 82
abbrev jc6:Stmt:=top 83
abbrev jcj:Stmt:=top 84
abbrev jc7:Stmt:=top 85
abbrev jdQ:Stmt:=top 86
abbrev jdR:Stmt:=top 87
abbrev jc8:Stmt:=top 88
abbrev jdS:Stmt:=top 89
abbrev jdT:Stmt:=top 90
abbrev jc9:Stmt:=top 91
abbrev jgw:Stmt:=top 92
def Small (i:Int):Prop:=i.natAbs<2^5980
theorem Small.neg {i:Int} (h:Small i):Small (-i):=by unfold Small at *;rw[xbO];exact h
theorem Small.ite {c:Prop} [Decidable c] {i j:Int} (h:Small i) (h':Small j):Small (if c then i else j):=by split<;>assumption
theorem Small.bd {i:Int} (h:Small i):Bd 5980 i:=h
theorem Small.of {i:Int} (h1:-1606938044258990275541962092341162602522202993782792835301376<i) (h2:i<1606938044258990275541962092341162602522202993782792835301376):Small i:=(Bd.of h1 h2).mono
theorem Small.div {i g:Int} (h:Small i):Small (i / g):=xaY (xba i g) h
variable {ns:List Int}
theorem jid (h:∀n∈ns,Small n):Small (gl ns):=by
 by_cases c:∃n∈ns,n≠0
 ·obtain⟨n,hn,h0⟩:=c;have z:=Int.natAbs_dvd_natAbs.mpr (jaV hn);exact xaY (Nat.le_of_dvd (by omega) z) (h n hn)
 ·have z:(0:Int) ∣ gl ns:=jfZ fun n hn=>by
   have:n=0:=xar fun q=>c ⟨n,hn,q⟩;rw[this];exact xcm 0
  rw[Int.zero_dvd.mp z];exact Nat.two_pow_pos _
variable {H H' J H1:Hp}
theorem Same.keep {p:Addr} {o:HO} (h:Same H H') (n:H p=none):Same H (upd H' p o):=fun b u q=>by rw[jaT (ja0 q n)];exact h b u q
variable {n i j:Nat}
theorem jlY {v:V} (h:(ns.map V.int)[i]?=some v):∃z,v=V.int z/\ns[i]?=some z:=by
 rw[xat] at h;cases e:ns[i]? with
 | none=>rw[e] at h;cases h
 | some z=>rw[e] at h;exact⟨z,(Option.some.inj h).symm,rfl⟩
inductive spGdi (vs:List V) (H:Hp) (Q:VK):Prop
 | mk (a b:Int) (_:vs=[.int a,.int b]) (_:Small a) (_:Small b) (_:∀H',Same H H'->Q (.int (Int.gcd a b:Nat)) H')
def spGd:Sp:=fun vs H Q _=>spGdi vs H Q
inductive spLowi (vs:List V) (H:Hp) (Q:VK):Prop
 | mk (a:Addr) (ns:List Int) (_:vs=[.ref a]) (_:H a=some (.tup (ns.map V.int))) (_:ns.length<=10) (_:(∀n∈ns,Small n)) (_:gl ns≠0) (_:∀(r:Addr) (H':Hp),Same H H'->H' r=some (.tup ((ns.map (· / gl ns)).map V.int))->Q (.ref r) H')
def jk1:Sp:=fun vs H Q _=>spLowi vs H Q
inductive spWholei (vs:List V) (H:Hp) (Q:VK):Prop
 | mk (n:Int) (_:vs=[.int n]) (_:Q (.bl true) H)
def jjA:Sp:=fun vs H Q _=>spWholei vs H Q
inductive spLawi (K:PySem.W.Frag) (vs:List V) (H:Hp) (Q:VK):Prop
 | mk (a:Addr) (ns:List Int) (_:vs=[.ref a]) (_:SqL K H a (ns.map V.int)) (_:ns.length<=63) (_:∀H',Q (.bl true) H')
def jk2 (K:PySem.W.Frag):Sp:=fun vs H Q _=>spLawi K vs H Q
structure Tx (K:PySem.W.Frag) (mg:Str->Option Value) (t1 t2:Tok):Prop where
 m_sum:mg "sum"=none
 m_all:mg "all"=none
 m_isinstance:mg "isinstance"=none
 m_bool:mg "bool"=none
 m_int:mg "int"=none
 m_abs:mg "abs"=none
 m_max:mg "max"=none
 m_min:mg "min"=none
 m_len:mg "len"=none
 m_range:mg "range"=none
 m_tuple:mg "tuple"=none
 m_list:mg "list"=none
 m_reversed:mg "reversed"=none
 m_enumerate:mg "enumerate"=none
 m_SHORT_BITS:mg "SHORT_BITS"=some (.int 2000 t1)
 m_LEADING_BITS:mg "LEADING_BITS"=some (.int 120 t2)
theorem Tx.r_LEADING_BITS {K:PySem.W.Frag} {mg:Str->Option Value} {t1 t2:Tok} (_:Tx K mg t1 t2):RelV (.int 120) (.int 120 t2):=⟨_,rfl⟩
theorem Tx.r_SHORT_BITS {K:PySem.W.Frag} {mg:Str->Option Value} {t1 t2:Tok} (_:Tx K mg t1 t2):RelV (.int 2000) (.int 2000 t1):=⟨_,rfl⟩
def low (ns:List Int):List Int:=ns.map (· / gl ns)
def Sm2 (i:Int):Prop:=i.natAbs<2^1980
theorem Sm2.bd {i:Int} (h:Sm2 i):Bd 5980 i:=Bd.mono (n:=1980) h
theorem Sm2.of {i:Int} (h1:-1606938044258990275541962092341162602522202993782792835301376<i) (h2:i<1606938044258990275541962092341162602522202993782792835301376):Sm2 i:=(Bd.of h1 h2).mono
theorem Sm2.div {i g:Int} (h:Sm2 i):Sm2 (i / g):=xaY (xba i g) h
structure Pt where
 x:Int
 y:Int
 z:Int
 w:Int
def Pt.sm (p:Pt):Prop:=Sm2 p.x/\Sm2 p.y/\Sm2 p.z/\Sm2 p.w
def Pt.lo (p:Pt):Prop:=Bd 60 p.x/\Bd 60 p.y/\Bd 60 p.z/\Bd 60 p.w/\1<=p.w
def Is4 (H:Hp) (r:Addr) (p:Pt):Prop:=H r=some (.tup [.int p.x,.int p.y,.int p.z,.int p.w])/\p.sm
variable {p r f s q N:Pt}
theorem Is4.keep {r:Addr} (h:Is4 H r p) (s:Same H H'):Is4 H' r p:=⟨s _ _ h.1,h.2⟩
theorem Is4.sq {K:PySem.W.Frag} {r:Addr} (h:Is4 H r p):SqT K H r [.int p.x,.int p.y,.int p.z,.int p.w]:=SqT.of h.1
theorem Pt.sm.fx (h:p.sm):Fit p.x:=h.1.bd.fit
theorem Pt.sm.fy (h:p.sm):Fit p.y:=h.2.1.bd.fit
theorem Pt.sm.fz (h:p.sm):Fit p.z:=h.2.2.1.bd.fit
theorem Pt.sm.fw (h:p.sm):Fit p.w:=h.2.2.2.bd.fit
def wo (k:Int) (p:Pt):List Int:=if k=0 then [p.y,p.z,p.w] else if k=1 then [p.x,p.z,p.w] else if k=2 then [p.x,p.y,p.w] else [p.x,p.y,p.z]
def ja3 (a b c x y z u v w:Int):Int:=(b*z-c*y)*u+(c*x-a*z)*v+(a*y-b*x)*w
def detL:List Int->List Int->List Int->Int
 | [a,b,c],[x,y,z],[u,v,w]=>ja3 a b c x y z u v w
 | _,_,_=>0
def jaG (k:Int) (p q r:Pt):Int:=detL (wo k p) (wo k q) (wo k r)
def inl (p q r:Pt):Bool:=decide (jaG 0 p q r=0/\jaG 1 p q r=0/\jaG 2 p q r=0)
def Tup3 (H:Hp) (r:Addr) (a b c:Int):Prop:=H r=some (.tup [.int a,.int b,.int c])/\Sm2 a/\Sm2 b/\Sm2 c
inductive spCrossi (vs:List V) (H:Hp) (Q:VK):Prop
 | mk (r p:Addr) (a b c x y z:Int) (_:vs=[.ref r,.ref p]) (_:Tup3 H r a b c) (_:Tup3 H p x y z) (_:∀(t:Addr) (H':Hp),Same H H'->H' t=some (.tup [.int (b*z-c*y),.int (c*x-a*z),.int (a*y-b*x)])->Q (.ref t) H')
def jjB:Sp:=fun vs H Q _=>spCrossi vs H Q
inductive spDeti (vs:List V) (H:Hp) (Q:VK):Prop
 | mk (r p s:Addr) (a b c x y z u v w:Int) (_:vs=[.ref r,.ref p,.ref s]) (_:Tup3 H r a b c) (_:Tup3 H p x y z) (_:Tup3 H s u v w) (_:∀H':Hp,Same H H'->Q (.int (ja3 a b c x y z u v w)) H')
def joQ:Sp:=fun vs H Q _=>spDeti vs H Q
inductive spWithouti (vs:List V) (H:Hp) (Q:VK):Prop
 | mk (r:Addr) (k:Int) (p:Pt) (_:vs=[.ref r,.int k]) (_:Is4 H r p) (_:0<=k) (_:k<=3) (_:∀(t:Addr) (H':Hp),Same H H'->H' t=some (.tup ((wo k p).map V.int))->Q (.ref t) H')
def jhb:Sp:=fun vs H Q _=>spWithouti vs H Q
inductive spMinori (vs:List V) (H:Hp) (Q:VK):Prop
 | mk (r s t:Addr) (k:Int) (p q o:Pt) (_:vs=[.ref r,.ref s,.ref t,.int k]) (_:Is4 H r p) (_:Is4 H s q) (_:Is4 H t o) (_:0<=k) (_:k<=3) (_:∀H':Hp,Same H H'->Q (.int (jaG k p q o)) H')
def jgx:Sp:=fun vs H Q _=>spMinori vs H Q
inductive spLinei (vs:List V) (H:Hp) (Q:VK):Prop
 | mk (r s t:Addr) (p q o:Pt) (_:vs=[.ref r,.ref s,.ref t]) (_:Is4 H r p) (_:Is4 H s q) (_:Is4 H t o) (_:∀H':Hp,Same H H'->Q (.bl (inl p q o)) H')
def jlZ:Sp:=fun vs H Q _=>spLinei vs H Q
inductive spTurnedi (vs:List V) (H:Hp) (Q:VK):Prop
 | mk (r:Addr) (ns:List Int) (_:vs=[.ref r]) (_:H r=some (.tup (ns.map V.int))) (_:ns.length<=10) (_:∀(t:Addr) (H':Hp),Same H H'->H' t=some (.tup ((ns.map fun n=>-n).map V.int))->Q (.ref t) H')
def jdr:Sp:=fun vs H Q _=>spTurnedi vs H Q
def plb (a b c:Int):Bool:=if a≠0 then decide (0<a) else if b≠0 then decide (0<b) else if c≠0 then decide (0<c) else false
inductive spPlaini (vs:List V) (H:Hp) (Q:VK):Prop
 | mk (r:Addr) (a b c d:Int) (_:vs=[.ref r]) (_:H r=some (.tup [.int a,.int b,.int c,.int d])) (_:∀H':Hp,Same H H'->Q (.bl (plb a b c)) H')
def jjC:Sp:=fun vs H Q _=>spPlaini vs H Q
def rgh (p o u:Pt):List Int:=[jaG 0 p o u,-jaG 1 p o u,jaG 2 p o u,jaG 3 p o u]
inductive spRoughi (vs:List V) (H:Hp) (Q:VK):Prop
 | mk (r e t:Addr) (p o u:Pt) (_:vs=[.ref r,.ref e,.ref t]) (_:Is4 H r p) (_:Is4 H e o) (_:Is4 H t u) (_:∀(g:Addr) (H':Hp),Same H H'->H' g=some (.tup ((rgh p o u).map V.int))->Q (.ref g) H')
def jhD:Sp:=fun vs H Q _=>spRoughi vs H Q
def pln (ns:List Int):List Int:=match low ns with
 | [a,b,c,d]=>if plb a b c=true then [a,b,c,d] else [-a,-b,-c,-d]
 | l=>l
def jbn (p o u:Pt):Prop:=jaG 0 p o u=0/\jaG 1 p o u=0/\jaG 2 p o u=0
def hgt (a b c d:Int) (p:Pt):Int:=a*p.x+b*p.y+c*p.z-d*p.w
def sgn (n:Int):Int:=if n>0 then 1 else if n<0 then -1 else 0
inductive spSigni (vs:List V) (H:Hp) (Q:VK):Prop
 | mk (n:Int) (_:vs=[.int n]) (_:Q (.int (sgn n)) H)
def jjD:Sp:=fun vs H Q _=>spSigni vs H Q
def sf (x y z w x' y' z' w':Int):Bool:=if x*w'≠x'*w then decide (x*w'<x'*w) else if y*w'≠y'*w then decide (y*w'<y'*w) else if z*w'≠z'*w then decide (z*w'<z'*w) else false
def sfp (p o:Pt):Bool:=sf p.x p.y p.z p.w o.x o.y o.z o.w
inductive spFirsti (vs:List V) (H:Hp) (Q:VK):Prop
 | mk (r e:Addr) (p o:Pt) (_:vs=[.ref r,.ref e]) (_:Is4 H r p) (_:Is4 H e o) (_:Q (.bl (sfp p o)) H)
def jjE:Sp:=fun vs H Q _=>spFirsti vs H Q
inductive spPlanei (vs:List V) (H:Hp) (Q:VK):Prop
 | mk (a b c d:Int) (_:vs=[.int a,.int b,.int c,.int d]) (_:Small a) (_:Small b) (_:Small c) (_:Small d) (_:¬(a=0/\b=0/\c=0)) (_:∀(r:Addr) (H':Hp),Same H H'->H' r=some (.tup ((low [a,b,c,d]).map V.int))->Q (.ref r) H')
def jhE:Sp:=fun vs H Q _=>spPlanei vs H Q
inductive spThroughi (vs:List V) (H:Hp) (Q:VK):Prop
 | mk (r e t:Addr) (p o u:Pt) (_:vs=[.ref r,.ref e,.ref t]) (_:Is4 H r p) (_:Is4 H e o) (_:Is4 H t u) (_:¬jbn p o u) (_:∀(g:Addr) (H':Hp),Same H H'->H' g=some (.tup ((pln (rgh p o u)).map V.int))->Q (.ref g) H')
def jfu:Sp:=fun vs H Q _=>spThroughi vs H Q
inductive spHti (vs:List V) (H:Hp) (Q:VK):Prop
 | mk (r e:Addr) (a b c d:Int) (p:Pt) (_:vs=[.ref r,.ref e]) (_:H r=some (.tup [.int a,.int b,.int c,.int d])) (_:Small a) (_:Small b) (_:Small c) (_:Small d) (_:Is4 H e p) (_:Q (.int (hgt a b c d p)) H)
def spHt:Sp:=fun vs H Q _=>spHti vs H Q
inductive spSidei (vs:List V) (H:Hp) (Q:VK):Prop
 | mk (r e:Addr) (a b c d:Int) (p:Pt) (_:vs=[.ref r,.ref e]) (_:H r=some (.tup [.int a,.int b,.int c,.int d])) (_:Small a) (_:Small b) (_:Small c) (_:Small d) (_:Is4 H e p) (_:Q (.int (sgn (hgt a b c d p))) H)
def jd0:Sp:=fun vs H Q _=>spSidei vs H Q
inductive Sps (H:Hp):List Addr->List Pt->Prop
 | nil:Sps H [] []
 | cons {r:Addr} {p:Pt} {rs:List Addr} {ps:List Pt} (h:Is4 H r p) (t:Sps H rs ps):Sps H (r::rs) (p::ps)
variable {ps qs cs:List Pt}
theorem Sps.keep {rs:List Addr} (h:Sps H rs ps) (s:SameT H H'):Sps H' rs ps:=by
 induction h with
 | nil=>exact .nil
 | cons h _ ih=>exact .cons ⟨s _ _ h.1,h.2⟩ ih
theorem Sps.len {rs:List Addr} (h:Sps H rs ps):rs.length=ps.length:=by
 induction h with
 | nil=>rfl
 | cons h _ ih=>rw[xaB,xaB,ih]
theorem Sps.app {rs rs':List Addr} {ps':List Pt} (h:Sps H rs ps) (k:Sps H rs' ps'):Sps H (rs++rs') (ps++ps'):=by
 induction h with
 | nil=>exact k
 | cons h _ ih=>exact .cons h ih
theorem Sps.rev {rs:List Addr} (h:Sps H rs ps):Sps H rs.reverse ps.reverse:=by
  induction h with
  | nil=>exact .nil
  | cons h _ ih =>
    rw[xaR,xaR];exact ih.app (.cons h .nil)
theorem Sps.drop {rs:List Addr} (h:Sps H rs ps):∀n,Sps H (rs.drop n) (ps.drop n):=by
  induction h with
  | nil=>intro n;rw[List.drop_nil,List.drop_nil];exact .nil
  | cons h k ih =>
    intro n;cases n with
    | zero=>exact .cons h k
    | succ n=>exact ih n
theorem Sps.take {rs:List Addr} (h:Sps H rs ps):∀n,Sps H (rs.take n) (ps.take n):=by
  induction h with
  | nil=>intro n;rw[List.take_nil,List.take_nil];exact .nil
  | cons h k ih =>
    intro n;cases n with
    | zero=>exact .nil
    | succ n=>exact .cons h (ih n)
def p0:Pt:=⟨0,0,0,0⟩
def pt (ps:List Pt) (i:Nat):Pt:=ps.getD i p0
def ad (rs:List Addr) (i:Nat):Addr:=rs.getD i 0
theorem Sps.get {rs:List Addr} (h:Sps H rs ps):∀{i:Nat},i<ps.length->(rs.map V.ref)[i]?=some (.ref (ad rs i))/\Is4 H (ad rs i) (pt ps i):=by
  induction h with
  | nil=>intro i hi;exact absurd hi (by simp)
  | cons h k ih =>
    intro i hi;cases i with
    | zero=>exact⟨rfl,h⟩
    | succ i=>exact ih (by simpa using hi)
theorem jgy {α:Type} {xs:List α} {v:α} (hn:xs.length=n+1) (h:xs[n]?=some v):atI xs (-1)=some v:=by
 have e:xs=xs.take n++[v]:=by
  have z:=xbI (l:=xs) (i:=n);rw[h,<- hn,xbD] at z;exact z
 rw[e];exact jkP _ _
variable {xs ys zs:List V}
theorem je6 {f:Nat}:jgZ xs (some (f:Int)) none=xs.drop f:=by
 unfold jgZ;rw[HT.sIx_nat,HT.sIx_none];by_cases h:f<=xs.length
 ·rw[Nat.min_eq_left h,xbA (by rw[xaG];exact xam _)]
 ·rw[Nat.min_eq_right (by omega),xb7 (xam _),xb7 (by omega),List.take_nil]
theorem jd1 {f:Nat}:jgZ xs none (some (f:Int))=xs.take f:=by
 unfold jgZ;rw[HT.sIx_nat,HT.sIx_none];by_cases h:f<=xs.length
 ·rw[Nat.min_eq_left h];rfl
 ·rw[Nat.min_eq_right (by omega)];show xs.take (xs.length-0)=_;rw[Nat.sub_zero,xbD,xbA (by omega)]
def jjF (ps:List Pt):Nat->Nat
 | 0=>0
 | i+1=>if sfp (pt ps (i+1)) (pt ps (jjF ps i))=true then i+1 else jjF ps i
theorem jhF (ps:List Pt):∀i,jjF ps i<=i
  | 0=>xam _
  | i + 1 => by
    have:=jhF ps i;unfold jjF;split<;>omega
def rot {α:Type} (f:Nat) (l:List α):List α:=l.drop f++l.take f
def turn {α:Type} (b:Bool) (l:List α):List α:=if b=true then l.take 1++(l.drop 1).reverse else l
def fF (ps:List Pt):Nat:=jjF ps (ps.length-1)
def fB (ps:List Pt):Bool:=sfp (pt (rot (fF ps) ps) (ps.length-1)) (pt (rot (fF ps) ps) 1)
def frm {α:Type} (ps:List Pt) (l:List α):List α:=turn (fB ps) (rot (fF ps) l)
theorem Sps.rot {rs:List Addr} (h:Sps H rs ps) (f:Nat):Sps H (rot f rs) (rot f ps):=(h.drop f).app (h.take f)
theorem Sps.turn {rs:List Addr} (h:Sps H rs ps) (b:Bool):Sps H (turn b rs) (turn b ps):=by
 unfold My.turn;cases b
 ·exact h
 ·exact (h.take 1).app (h.drop 1).rev
def Cor (H:Hp) (l:Addr) (rs:List Addr) (ps:List Pt):Prop:=H l=some (.lst (rs.map V.ref))/\Sps H rs ps
theorem Cor.keep {l:Addr} {rs:List Addr} (h:Cor H l rs ps) (s:Same H H'):Cor H' l rs ps:=⟨s _ _ h.1,h.2.keep s.t⟩
inductive spFormedi (vs:List V) (H:Hp) (Q:VK):Prop
 | mk (l:Addr) (rs:List Addr) (ps:List Pt) (_:vs=[.ref l]) (_:Cor H l rs ps) (_:3<=ps.length) (_:ps.length<=17) (_:∀(t:Addr) (H':Hp),Same H H'->H' t=some (.tup ((frm ps rs).map V.ref))->Q (.ref t) H')
def jie:Sp:=fun vs H Q _=>spFormedi vs H Q
inductive spAxisi (vs:List V) (H:Hp) (Q:VK):Prop
 | mk (r:Addr) (a b c d:Int) (_:vs=[.ref r]) (_:H r=some (.tup [.int a,.int b,.int c,.int d])) (_:¬(a=0/\b=0/\c=0)) (_:∀k:Int,(k=0/\a≠0)\/(k=1/\a=0/\b≠0)\/(k=2/\a=0/\b=0/\c≠0)->Q (.int k) H)
def jl0:Sp:=fun vs H Q _=>spAxisi vs H Q
inductive spEdgei (vs:List V) (H:Hp) (Q:VK):Prop
 | mk (g r e t:Addr) (k:Int) (p o u:Pt) (_:vs=[.ref g,.ref t,.int k]) (_:H g=some (.tup [.ref r,.ref e])) (_:Is4 H r p) (_:Is4 H e o) (_:Is4 H t u) (_:0<=k) (_:k<=3) (_:∀H':Hp,Same H H'->Q (.int (sgn (jaG k p o u))) H')
def jl1:Sp:=fun vs H Q _=>spEdgei vs H Q
section
variable {P:Program} {w:World} {K:PySem.W.Frag} {mg:Str->Option Value} {base:Heap} {t1 t2:Tok}
theorem jf0:FnScope ["number"] ["number"] (jaj jfo):=by walk_at "sc"
theorem jcH:FnScope ["great","small","shift","x","y","a","b","c","d","quotient","rest"] ["great","small"] (jaj jbW):=by walk_at "sc"
theorem jb2:FnScope ["one","other","great","small","steps","rest"] ["one","other"] (jaj jbr):=by walk_at "sc"
theorem jcb:FnScope ["numbers","divisor","number"] ["numbers"] (jaj jbw):=by walk_at "sc"
theorem jf1:FnScope ["one","other"] ["one","other"] (jaj jfp):=by walk_at "sc"
theorem jdv:FnScope ["one","other","third","arrow"] ["one","other","third"] (jaj jcv):=by walk_at "sc"
theorem jeH:FnScope ["x","y","z","w"] ["x","y","z","w"] (jaj jbl):=by walk_at "sc"
theorem jda:FnScope ["one","other","k","mine","yours"] ["one","other"] (jaj jcc):=by walk_at "sc"
theorem jcI:FnScope ["one","other"] ["one","other"] (jaj jbX):=by walk_at "sc"
theorem jf2:FnScope ["spot","place"] ["spot","place"] (jaj jfq):=by walk_at "sc"
theorem jfv:FnScope ["one","other","third","place"] ["one","other","third","place"] (jaj jep):=by walk_at "sc"
theorem jf3:FnScope ["one","other","third","place"] ["one","other","third"] (jaj jfr):=by walk_at "sc"
theorem jb3:FnScope ["near","one","far","back","ahead"] ["near","one","far"] (jaj jbs):=by walk_at "sc"
theorem jd2:FnScope ["a","b","c","d"] ["a","b","c","d"] (jaj jcW):=by walk_at "sc"
theorem jdb:FnScope ["plane"] ["plane"] (jaj jcd):=by walk_at "sc"
theorem jfw:FnScope ["plane","number"] ["plane"] (jaj jeq):=by walk_at "sc"
theorem jdw:FnScope ["one","other","third"] ["one","other","third"] (jaj jcw):=by walk_at "sc"
theorem jcJ:FnScope ["one","other","third","rough","plane"] ["one","other","third"] (jaj jbY):=by walk_at "sc"
theorem jdx:FnScope ["plane","spot"] ["plane","spot"] (jaj jcx):=by walk_at "sc"
theorem jf4:FnScope ["plane","spot"] ["plane","spot"] (jaj jfs):=by walk_at "sc"
theorem jhc:FnScope ["plane","one","other","mine","yours"] ["plane","one","other"] (jaj jgt):=by walk_at "sc"
theorem jhd:FnScope ["corners","first","k","ring"] ["corners"] (jaj jgu):=by walk_at "sc"
theorem jfx:FnScope ["board"] ["board"] (jaj jer):=by walk_at "sc"
theorem jeI:FnScope ["plane","axis"] ["plane"] (jaj jdG):=by walk_at "sc"
theorem jdc:FnScope ["edge","spot","axis"] ["edge","spot","axis"] (jaj jce):=by walk_at "sc"
theorem jfy:FnScope ["board"] ["board"] (jaj jes):=by walk_at "sc"
theorem jfz:FnScope ["board","spot","plane","axis","turn","sides"] ["board","spot"] (jaj jet):=by walk_at "sc"
theorem jcp:FnScope ["boards","spot","number","board"] ["boards","spot"] (jaj jbK):=by walk_at "sc"
theorem jbB:FnScope ["boards","spot","number"] ["boards","spot"] (jaj jbf):=by walk_at "sc"
theorem jd3:FnScope ["plane","one","other","corner"] ["plane","one","other"] (jaj jcX):=by walk_at "sc"
theorem jd4:FnScope ["plane","one","other","spot"] ["plane","one","other","spot"] (jaj jcY):=by walk_at "sc"
theorem jfA:FnScope ["one","other","spot","near","far"] ["one","other","spot","near","far"] (jaj jeu):=by walk_at "sc"
theorem jdd:FnScope ["one","other","spot","told"] ["one","other","spot","told"] (jaj jcf):=by walk_at "sc"
theorem jdy:FnScope ["board","plane","sided","edge","before","side"] ["board","plane"] (jaj jcy):=by walk_at "sc"
theorem jhe:FnScope ["board","plane","sides","sided","below","above"] ["board","plane"] (jaj jgv):=by walk_at "sc"
theorem jf5:FnScope ["board","planes","part","plane"] ["board","planes"] (jaj jft):=by walk_at "sc"
theorem jcq:FnScope ["plane","spots","spot"] ["plane","spots"] (jaj jbL):=by walk_at "sc"
theorem jd5:FnScope ["board","spot"] ["board","spot"] (jaj jcZ):=by walk_at "sc"
theorem jcK:FnScope ["board","spot"] ["board","spot"] (jaj jbZ):=by walk_at "sc"
theorem jeJ:FnScope ["one","other","spot"] ["one","other","spot"] (jaj jdH):=by walk_at "sc"
theorem jdz:FnScope ["board","sums"] ["board"] (jaj jcz):=by walk_at "sc"
theorem jbP:FnScope ["one","other","spot","arrows","pyramid_edges","edge","arrow","rough","plane"] ["one","other","spot"] (jaj jbm):=by walk_at "sc"
theorem jcL:FnScope ["one","other","spot","faces","own","plane"] ["one","other","spot","faces"] (jaj jb0):=by walk_at "sc"
theorem jcM:FnScope ["shown","other","spot","near"] ["shown","other","spot"] (jaj jb1):=by walk_at "sc"
theorem jfB:FnScope ["one","other","spot","faces","shown","sight"] ["one","other","spot"] (jaj jev):=by walk_at "sc"
theorem jd6:FnScope ["script","many","slots","k"] ["script","many"] (jaj jc0):=by walk_at "sc"
theorem jd7:FnScope ["cell","k","near","pot","turn"] ["cell","k"] (jaj jc1):=by walk_at "sc"
theorem jeK:FnScope ["purse","many","found"] ["purse","many"] (jaj jdI):=by walk_at "sc"
theorem jeL:FnScope ["number"] ["number"] (jaj jdJ):=by walk_at "sc"
theorem jd8:FnScope ["purse","wide"] ["purse","wide"] (jaj jc2):=by walk_at "sc"
theorem jd9:FnScope ["one","other"] ["one","other"] (jaj jc3):=by walk_at "sc"
theorem jfC:FnScope ["one","other"] ["one","other"] (jaj jew):=by walk_at "sc"
theorem jdA:FnScope ["one","other"] ["one"] (jaj jcA):=by walk_at "sc"
theorem jea:FnScope ["purse","wide","one","other"] ["purse","wide"] (jaj jc4):=by walk_at "sc"
theorem jeM:FnScope ["number"] ["number"] (jaj jdK):=by walk_at "sc"
theorem jde:FnScope ["one","other"] ["one","other"] (jaj jcg):=by walk_at "sc"
theorem jeN:FnScope ["numbers","w","by"] ["numbers","w"] (jaj jdL):=by walk_at "sc"
theorem jdB:FnScope ["corners","w","at","around"] ["corners","w"] (jaj jcB):=by walk_at "sc"
theorem jdf:FnScope ["purse","wide","base","one","other"] ["purse","wide"] (jaj jch):=by walk_at "sc"
theorem jeO:FnScope ["corners","purse","wide","way","step","i","j","arms","edge","third"] ["corners","purse","wide"] (jaj jdM):=by walk_at "sc"
theorem jfD:FnScope ["purse","wide"] ["purse","wide"] (jaj jex):=by walk_at "sc"
theorem jeb:FnScope ["board","purse","tops","bottom","by","corner","weight"] ["board","purse"] (jaj jc5):=by walk_at "sc"
theorem jeP:FnScope ["near","far","purse","p","q","tops"] ["near","far","purse"] (jaj jdN):=by walk_at "sc"
theorem jfE:FnScope ["one","other"] ["one","other"] (jaj jey):=by walk_at "sc"
theorem jdg:FnScope ["board"] ["board"] (jaj jci):=by walk_at "sc"
theorem jdC:FnScope ["board","spot"] ["board","spot"] (jaj jcC):=by walk_at "sc"
theorem jeQ:FnScope ["boards","spot"] ["boards","spot"] (jaj jdO):=by walk_at "sc"
theorem jeR:FnScope ["number"] ["number"] (jaj jdP):=by walk_at "sc"
theorem jec:FnScope ["board","spot","found","k","wall","inner"] ["board","spot"] (jaj jc6):=by walk_at "sc"
theorem jdh:FnScope ["near","one","far"] ["near","one","far"] (jaj jcj):=by walk_at "sc"
theorem jed:FnScope ["found"] ["found"] (jaj jc7):=by walk_at "sc"
theorem jeS:FnScope ["found"] ["found"] (jaj jdQ):=by walk_at "sc"
theorem jeT:FnScope ["plane","spot"] ["plane","spot"] (jaj jdR):=by walk_at "sc"
theorem jee:FnScope ["plane","one","other","spot"] ["plane","one","other","spot"] (jaj jc8):=by walk_at "sc"
theorem jeU:FnScope ["near","far","one","other","spot"] ["near","far","one","other","spot"] (jaj jdS):=by walk_at "sc"
theorem jeV:FnScope ["found","one","other","spot"] ["found","one","other","spot"] (jaj jdT):=by walk_at "sc"
theorem jef:FnScope ["one","other","near","far","purse","spot"] ["one","other","near","far","purse"] (jaj jc9):=by walk_at "sc"
theorem jl2:FnScope ["script","slots","head","wide","corners","w","one","other","purse","spot","found","k"] ["script"] (jaj jgw):=by walk_at "sc"
theorem linf {z p r g s sh:Int} (hs:(0<=p/\r<=0)\/(p<=0/\0<=r)) (h0:0<sh) (g0:0<=g) (g1:g<sh) (s0:0<=s) (s1:s<sh):(z+p)*sh<=z*sh+p*g+r*s\/(z+r)*sh<=z*sh+p*g+r*s:=by
 rcases hs with ⟨a,b⟩ | ⟨a,b⟩
 ·refine .inr ?_;have h1:=xaf a g0;have h2:r*sh<=r*s:=Int.mul_le_mul_of_nonpos_left b (by omega);rw[Int.add_mul];omega
 ·refine .inl ?_;have h1:=xaf b s0;have h2:p*sh<=p*g:=Int.mul_le_mul_of_nonpos_left a (by omega);rw[Int.add_mul];omega
structure CsI (G S x0 y0 a b c d x y:Int):Prop where
 ex:x=a*x0+b*y0
 ey:y=c*x0+d*y0
 dt:a*d-b*c=1\/a*d-b*c=-1
 sg:(0<=a/\b<=0/\c<=0/\0<=d)\/(a<=0/\0<=b/\0<=c/\d<=0)
 xa:0<=x+a/\x+a<=x0+1
 xb:0<=x+b/\x+b<=x0+1
 yc:0<=y+c/\y+c<=x0+1
 yd:0<=y+d/\y+d<=x0+1
 st:(a=1/\b=0/\c=0/\d=1)\/(y+c<x+a/\y+d<x+b/\a*G+b*S<=S)
structure Led (G S x0 y0:Int):Prop where
 ex:∃sh g s:Int,0<sh/\G=x0*sh+g/\S=y0*sh+s/\0<=g/\g<sh/\0<=s/\s<sh
variable {k S x0 y0 a x y A B ε m2 α β γ:Int}
theorem CsI.gt {G b c d:Int} (h:CsI G S x0 y0 a b c d x y) (l:Led G S x0 y0) (n:y+c<x+a/\y+d<x+b):c*G+d*S<a*G+b*S:=by
 obtain⟨sh,g,s,h0,rfl,rfl,g0,g1,s0,s1⟩:=l.ex;have sg:(0<=a-c/\b-d<=0)\/(a-c<=0/\0<=b-d):=by have:=h.sg;omega
 have e:a*(x0*sh+g)+b*(y0*sh+s)-(c*(x0*sh+g)+d*(y0*sh+s))=(x-y)*sh+(a-c)*g+(b-d)*s:=by
  rw[h.ex,h.ey];grind
 have p1:0<(x-y+(a-c))*sh:=xab (by omega) h0;have p2:0<(x-y+(b-d))*sh:=xab (by omega) h0;rcases linf (z:=x-y) sg h0 g0 g1 s0 s1 with q | q<;>omega
theorem jl3 {G b:Int} (l:Led G S x0 y0) (ex:x=a*x0+b*y0) (sg:(0<=a/\b<=0)\/(a<=0/\0<=b)) (xa:0<=x+a) (xb:0<=x+b):0<=a*G+b*S:=by
 obtain⟨sh,g,s,h0,rfl,rfl,g0,g1,s0,s1⟩:=l.ex;have e:a*(x0*sh+g)+b*(y0*sh+s)=x*sh+a*g+b*s:=by
  rw[ex];grind
 have p1:=xaf xa (xan h0);have p2:=xaf xb (xan h0);rcases linf (z:=x) sg h0 g0 g1 s0 s1 with q | q<;>omega
theorem CsI.bd {G b c d:Int} (h:CsI G S x0 y0 a b c d x y):(-(x0+1)<=a/\a<=x0+1)/\(-(x0+1)<=b/\b<=x0+1)/\(-(x0+1)<=c/\c<=x0+1)/\(-(x0+1)<=d/\d<=x0+1)/\(0<=x/\x<=x0+1)/\(0<=y/\y<=x0+1):=by
 have h1:=h.xa;have h2:=h.xb;have h3:=h.yc;have h4:=h.yd;rcases h.sg with ⟨a1,a2,a3,a4⟩ | ⟨a1,a2,a3,a4⟩
 ·exact⟨⟨by omega,by omega⟩,⟨by omega,by omega⟩,⟨by omega,by omega⟩,⟨by omega,by omega⟩,⟨by omega,by omega⟩,by omega,by omega⟩
 ·exact⟨⟨by omega,by omega⟩,⟨by omega,by omega⟩,⟨by omega,by omega⟩,⟨by omega,by omega⟩,⟨by omega,by omega⟩,by omega,by omega⟩
theorem CsI.step {G b c d q:Int} (h:CsI G S x0 y0 a b c d x y) (l:Led G S x0 y0) (c0:y+c≠0) (d0:y+d≠0) (q1:q=(x+a) / (y+c)) (q2:q=(x+b) / (y+d)):CsI G S x0 y0 c d (a-q*c) (b-q*d) y (x-q*y)/\(x-q*y)+(a-q*c)<y+c:=by
 have yc:=h.yc;have yd:=h.yd;have m1:=xa0 (x+a) c0;have m2:=xaU (x+a) (show 0<y+c by omega);have m3:=xa0 (x+b) d0;have m4:=xaU (x+b) (show 0<y+d by omega);have e1:(x-q*y)+(a-q*c)=(x+a) % (y+c):=by rw[Int.emod_def,<- q1,xaL (y+c) q,xbZ];omega
 have e2:(x-q*y)+(b-q*d)=(x+b) % (y+d):=by rw[Int.emod_def,<- q2,xaL (y+d) q,xbZ];omega
 have q0:0<=q:=by rw[q1];exact xb4 h.xa.1 yc.1
 refine⟨⟨h.ey,?_,?_,?_,yc,yd,by omega,by omega,.inr ⟨by omega,by omega,?_⟩⟩,by omega⟩
 ·rw[h.ex,h.ey];grind
 ·have e:c*(b-q*d)-d*(a-q*c)=-(a*d-b*c):=by grind
  rw[e];have:=h.dt;omega
 ·rcases h.sg with ⟨a1,a2,a3,a4⟩ | ⟨a1,a2,a3,a4⟩
  ·have p1:=xax q0 a3;have p2:=xaf q0 a4;exact .inr ⟨a3,a4,by omega,by omega⟩
  ·have p1:=xaf q0 a3;have p2:=xax q0 a4;exact .inl ⟨a3,a4,by omega,by omega⟩
 ·rcases h.st with ⟨rfl,rfl,rfl,rfl⟩ | ⟨n1,n2,n3⟩
  ·omega
  ·have:=h.gt l ⟨n1,n2⟩;omega
structure CsR (G S a b c d:Int):Prop where
 dt:a*d-b*c=1\/a*d-b*c=-1
 g0:0<=a*G+b*S
 s0:0<=c*G+d*S
 lt:b≠0->c*G+d*S<a*G+b*S/\a*G+b*S<=S
 bd:Bd 130 a/\Bd 130 b/\Bd 130 c/\Bd 130 d
theorem CsI.fin {G b c d:Int} (h:CsI G S x0 y0 a b c d x y) (l:Led G S x0 y0) (hx:0<=x0/\x0<2^121):CsR G S a b c d:=by
 have sg:=h.sg;obtain⟨b1,b2,b3,b4,_⟩:=h.bd;refine⟨h.dt,jl3 l h.ex (by omega) h.xa.1 h.xb.1,jl3 l h.ey (by omega) h.yc.1 h.yd.1,fun b0=>?_,by unfold Bd;omega,by unfold Bd;omega,by unfold Bd;omega,by unfold Bd;omega⟩;rcases h.st with ⟨_,z,_⟩ | ⟨n1,n2,n3⟩
 ·exact absurd z b0
 ·exact⟨h.gt l ⟨n1,n2⟩,n3⟩
theorem CsR.gcd {G b c d:Int} (h:CsR G S a b c d):Int.gcd (a*G+b*S) (c*G+d*S)=Int.gcd G S:=by
 have one:∀{X Y U V:Int},(∀k:Int,k ∣ X->k ∣ Y->k ∣ U/\k ∣ V)->Int.gcd X Y ∣ Int.gcd U V:=fun {X Y U V} f=>by
  obtain⟨h1,h2⟩:=f _ (xbs X Y) (xbm X Y);exact Int.ofNat_dvd.mp (xbz h1 h2)
 refine Nat.dvd_antisymm (one fun k h1 h2=>?_) (one fun k h1 h2=>⟨Int.dvd_add (xa7 h1) (xa7 h2),Int.dvd_add (xa7 h1) (xa7 h2)⟩);have e1:k ∣ (a*d-b*c)*G:=by
  rw[show (a*d-b*c)*G=d*(a*G+b*S)-b*(c*G+d*S) by grind];exact Int.dvd_sub (xa7 h1) (xa7 h2)
 have e2:k ∣ (a*d-b*c)*S:=by
  rw[show (a*d-b*c)*S=a*(c*G+d*S)-c*(a*G+b*S) by grind];exact Int.dvd_sub (xa7 h2) (xa7 h1)
 rcases h.dt with z | z<;>rw[z] at e1 e2
 ·rw[xbt] at e1 e2;exact⟨e1,e2⟩
 ·rw[xbn,xbt] at e1 e2;exact⟨Int.dvd_neg.mp e1,Int.dvd_neg.mp e2⟩
theorem jnc (h:n<Builtin.Int.intBits k):2^n<=k.natAbs:=by
 rcases xbJ k.natAbs (2^n) with c | c
 ·have:=L2.jeo c;omega
 ·exact c
theorem jjG (k:Int):k.natAbs<2^Builtin.Int.intBits k:=by
 unfold Builtin.Int.intBits;split
 ·simp_all
 ·exact Nat.lt_log2_self
theorem joR {G:Int} (j:Nat) (G0:0<=G) (S0:0<=S):Led G S (G / 2^j) (S / 2^j):=by
 have p:(0:Int)<2^j:=Int.pow_pos (by decide);refine⟨2^j,G % 2^j,S % 2^j,p,?_,?_,xa0 _ (xa1 p),xaU _ p,xa0 _ (xa1 p),xaU _ p⟩
 ·exact (Int.ediv_mul_add_emod G _).symm
 ·exact (Int.ediv_mul_add_emod S _).symm
theorem joS {G:Int} {m:Nat} (G0:0<=G) (h:G.natAbs<2^(m+j)):0<=G / 2^j/\G / 2^j<2^m:=by
 have p:(0:Int)<2^j:=Int.pow_pos (by decide);refine⟨xb4 G0 (xan p),Int.ediv_lt_of_lt_mul p ?_⟩;rw[<- Int.pow_add];have e:G=(G.natAbs:Int):=by omega
 rw[e]
 exact_mod_cast h
inductive spCsi (vs:List V) (H:Hp) (Q:VK):Prop
 | mk (G S:Int) (_:vs=[.int G,.int S]) (_:0<=S) (_:S<=G) (_:120<=Builtin.Int.intBits G) (_:∀(t:Addr) (H':Hp) (a b c d:Int),Same H H'->H' t=some (.tup [.int a,.int b,.int c,.int d])->CsR G S a b c d->Q (.ref t) H')
def spCs:Sp:=fun vs H Q _=>spCsi vs H Q
inductive csM (G S k x0 y0:Int) (H:Hp) (B:Int) (σ:L2.St) (H2:Hp):Prop
 | mk (e:H2=H) (a b c d x y:Int) (o9 o10:Option V) (h:σ=[some (V.int G),some (V.int S),some (V.int k),some (V.int x),some (V.int y),some (V.int a),some (V.int b),some (V.int c),some (V.int d),o9,o10]) (I:CsI G S x0 y0 a b c d x y) (l:y+c<B)
theorem ok_cs (T:Tx K mg t1 t2) (F:At K mg "certain_steps" jbW ["great","small"] []):jak P w K mg base CX0 1 "certain_steps" ["great","small"] [] spCs:=by
 refine F.ok jcH (by walk_at "ar") (fun f cdv A outer s H vs Q E hr h=>?_);obtain⟨G,S',rfl,S0,SG,b0,q⟩:=h;have S:=jcH;refine⟨_,(jaf (jar (i:=2) S.nd rfl (Or.inl rfl) (jap jaW (jlP PySem.F.plainAttrs_int PySem.F.slot_int_bit_length PySem.F.type_int_bit_length jjj (pv 0)) (jiT rfl T.m_LEADING_BITS T.r_LEADING_BITS)))
  (jaf (jar (i:=3) S.nd rfl (Or.inl rfl) (jap jlJ (pv 0) (pv 2)))
  (jaf (jar (i:=4) S.nd rfl (Or.inl rfl) (jap jlJ (pv 1) (pv 2)))
  (jaf (jar (i:=5) S.nd rfl (Or.inl rfl) jab)
  (jaf (jar (i:=6) S.nd rfl (Or.inl rfl) jab)
  (jaf (jar (i:=7) S.nd rfl (Or.inl rfl) jab)
  (jaf (jar (i:=8) S.nd rfl (Or.inl rfl) jab)
  (jaf (je3 PassesOwn.never (PW.pt (jhY (jat jcT (jap jaP (pv 4) (pv 7)) jab (jaw _)) (jhq (jat jcT (jap jaP (pv 4) (pv 8)) jab (jaw _)))))
  (jaf (jar (i:=9) S.nd rfl (Or.inl rfl) (jap jby (jap jaP (pv 3) (pv 5)) (jap jaP (pv 4) (pv 7))))
  (jaf (jaM (jat jcT (pv 9) (jap jby (jap jaP (pv 3) (pv 6)) (jap jaP (pv 4) (pv 8))) (jaw _))
  (jag jkI)
  jax)
  (jaf (jar (i:=10) S.nd rfl (Or.inl rfl) (jap jaW (pv 3) (jap jas (pv 9) (pv 4))))
  (jaf (jar (i:=3) S.nd rfl (Or.inl rfl) (pv 4))
  (jaf (jar (i:=4) S.nd rfl (Or.inl rfl) (pv 10))
  (jaf (jar (i:=10) S.nd rfl (Or.inl rfl) (jap jaW (pv 5) (jap jas (pv 9) (pv 7))))
  (jaf (jar (i:=5) S.nd rfl (Or.inl rfl) (pv 7))
  (jaf (jar (i:=7) S.nd rfl (Or.inl rfl) (pv 10))
  (jaf (jar (i:=10) S.nd rfl (Or.inl rfl) (jap jaW (pv 6) (jap jas (pv 9) (pv 8))))
  (jaf (jar (i:=6) S.nd rfl (Or.inl rfl) (pv 8))
  (jag (jar (i:=8) S.nd rfl (Or.inl rfl) (pv 10))))))))))))))
  (jag (jan (ja4 (jaa (pv 5) (jaa (pv 6) (jaa (pv 7) (jaa (pv 8) jad jac) jac) jac) jac)))))))))))),?_⟩
 walk_at "rf";have G0:0<=G:=by omega
 refine⟨by omega,by omega,?_⟩;rw[show ((Builtin.Int.intBits G:Nat):Int)-120=((Builtin.Int.intBits G-120:Nat):Int) by omega,Int.toNat_natCast];have l:=joR (Builtin.Int.intBits G-120) G0 S0;have hx:=joS (m:=120) (j:=Builtin.Int.intBits G-120) G0 (by rw[show 120+(Builtin.Int.intBits G-120)=Builtin.Int.intBits G by omega];exact jjG G);have p:(0:Int)<2^(Builtin.Int.intBits G-120):=Int.pow_pos (by decide);have y1:S' / 2^(Builtin.Int.intBits G-120)<=G / 2^(Builtin.Int.intBits G-120):=Int.ediv_le_ediv p SG;have y2:0<=S' / 2^(Builtin.Int.intBits G-120):=xb4 S0 (xan p);generalize G / 2^(Builtin.Int.intBits G-120)=x0 at *
 generalize S' / 2^(Builtin.Int.intBits G-120)=y0 at *
 refine⟨fun n=>csM G S' ((Builtin.Int.intBits G-120:Nat):Int) x0 y0 H (n+1),⟨y0.toNat,rfl,1,0,0,1,x0,y0,none,none,rfl,⟨by omega,by omega,by omega,by omega,by omega,by omega,by omega,by omega,by omega⟩,by omega⟩,?_⟩;rintro n σ H2 ⟨rfl,a,b,c,d,x,y,o9,o10,rfl,I,ln⟩;have fin:4<=sizeLine/\∀p:Addr,H2 p=none->Q (.ref p) (upd H2 p (.tup [.int a,.int b,.int c,.int d])):=⟨by decide,fun p hp=>q p _ a b c d (Same.new hp _) jam (I.fin l ⟨hx.1,by have:=hx.2;omega⟩)⟩;obtain⟨b1,b2,b3,b4,b5,b6⟩:=I.bd;have yc:=I.yc;have yd:=I.yd;have fit:∀{i:Int},-(x0+1)<=i->i<=x0+1->Fit i:=fun h1 h2=>Bd.fit (n:=122) (by unfold Bd;omega);walk_at "rf";by_cases c0:y+c=0
 ·rw[if_pos c0];exact fin
 rw[if_neg c0];by_cases d0:y+d=0
 ·rw[if_pos d0];exact fin
 rw[if_neg d0];refine⟨csM G S' ((Builtin.Int.intBits G-120:Nat):Int) x0 y0 H2 (y+c),fun σ' H' h=>?_,by omega,fit (by omega) (by omega),by omega,fit (by omega) (by omega),?_⟩
 ·obtain⟨h1,a,b,c',d,x,y',o9,o10,h2,h3,h4⟩:=h;have hy:=h3.yc.1;exact⟨(y'+c').toNat,by omega,h1,a,b,c',d,x,y',o9,o10,h2,h3,by omega⟩
 by_cases e:(x+a) / (y+c)=(x+b) / (y+d);rotate_left
 ·rw[if_neg e];exact fin
 rw[if_pos e];have xa:=I.xa;have q0:0<=(x+a) / (y+c):=xb4 xa.1 yc.1;have q1:(x+a) / (y+c)<=x+a:=Int.ediv_le_self _ xa.1;obtain⟨st,lt⟩:=I.step l c0 d0 rfl e;have fq:Fit ((x+a) / (y+c)):=fit (by omega) (by omega);exact⟨fq,fit (by omega) (by omega),fq,fit b3.1 b3.2,fq,fit b4.1 b4.2,rfl,_,_,_,_,_,_,_,_,rfl,st,lt⟩
inductive gdM (a b:Int) (H:Hp) (B:Int) (σ:L2.St) (H1:Hp):Prop
 | mk (s:Same H H1) (x y:Int) (o4 o5:Option V) (h:σ=[some (.int a),some (.int b),some (.int x),some (.int y),o4,o5]) (y0:0<=y) (yx:y<=x) (x7:x.natAbs<2^5980) (g:Int.gcd x y=Int.gcd a b) (l:y<B)
theorem ok_gd (T:Tx K mg t1 t2) (F:At K mg "greatest_divisor" jbr ["one","other"] []) (Ds:jak P w K mg base CX0 1 "certain_steps" ["great","small"] [] spCs):jak P w K mg base CX0 2 "greatest_divisor" ["one","other"] [] spGd:=by
 refine F.ok jb2 (by walk_at "ar") (fun f cdv A outer s H vs Q E hr h=>?_);obtain⟨a,b,rfl,ha,hb,q⟩:=h;have S:=jb2;refine⟨_,(jaf (jar (i:=2) S.nd rfl (Or.inl rfl) (jaz (jdY rfl) rfl T.m_max boot_max (jaa (jaz jdX rfl T.m_abs boot_abs (jaa (pv 0) jad jac)) (jaa (jaz jdX rfl T.m_abs boot_abs (jaa (pv 1) jad jac)) jad jaB) jaB)))
  (jaf (jar (i:=3) S.nd rfl (Or.inl rfl) (jaz (jfd rfl) rfl T.m_min boot_min (jaa (jaz jdX rfl T.m_abs boot_abs (jaa (pv 0) jad jac)) (jaa (jaz jdX rfl T.m_abs boot_abs (jaa (pv 1) jad jac)) jad jaB) jaB)))
  (jaf (je3 PassesOwn.never (jat jhu (jlP PySem.F.plainAttrs_int PySem.F.slot_int_bit_length PySem.F.type_int_bit_length jjj (pv 3)) (jiT rfl T.m_SHORT_BITS T.r_SHORT_BITS) (jaw _))
  (jaf (jar (i:=4) S.nd rfl (Or.inl rfl) (jae Ds hr.m rfl jao (jaa (pv 2) (jaa (pv 3) jad jac) jac)))
  (jaf (jaM (jat jcm (jal jaq (pv 4) jab) jab (jaw _))
  (jaf (jar (i:=5) S.nd rfl (Or.inl rfl) (jap jdt (pv 2) (pv 3)))
  (jag (jar (i:=2) S.nd rfl (Or.inl rfl) (pv 3))))
  (jaf (jar (i:=5) S.nd rfl (Or.inl rfl) (jap jaP (jap jas (jal jaq (pv 4) jab) (pv 2)) (jap jas (jal jaq (pv 4) jab) (pv 3))))
  (jag (jar (i:=2) S.nd rfl (Or.inl rfl) (jap jaP (jap jas (jal jaq (pv 4) jab) (pv 2)) (jap jas (jal jaq (pv 4) jab) (pv 3)))))))
  (jag (jar (i:=3) S.nd rfl (Or.inl rfl) (pv 5))))))
  (jaf (je3 PassesOwn.never (jat jcT (pv 3) jab (jaw _))
  (jaf (jar (i:=5) S.nd rfl (Or.inl rfl) (jap jdt (pv 2) (pv 3)))
  (jaf (jar (i:=2) S.nd rfl (Or.inl rfl) (pv 3))
  (jag (jar (i:=3) S.nd rfl (Or.inl rfl) (pv 5))))))
  (jag (jan (pv 2))))))),?_⟩
 walk_at "rd";have hg:Int.gcd (if (if b<0 then -b else b)>(if a<0 then -a else a) then (if b<0 then -b else b) else (if a<0 then -a else a)) (if (if b<0 then -b else b)<(if a<0 then -a else a) then (if b<0 then -b else b) else (if a<0 then -a else a))=Int.gcd a b:=(jiD _ _).trans (jnb a b);have hM:0<=(if (if b<0 then -b else b)>(if a<0 then -a else a) then (if b<0 then -b else b) else (if a<0 then -a else a)):=by split<;>split<;>omega
 have hm:0<=(if (if b<0 then -b else b)<(if a<0 then -a else a) then (if b<0 then -b else b) else (if a<0 then -a else a)):=by split<;>split<;>omega
 have hs:Small (if (if b<0 then -b else b)>(if a<0 then -a else a) then (if b<0 then -b else b) else (if a<0 then -a else a)):=Small.ite (Small.ite hb.neg hb) (Small.ite ha.neg ha);have hmM:(if (if b<0 then -b else b)<(if a<0 then -a else a) then (if b<0 then -b else b) else (if a<0 then -a else a))<=(if (if b<0 then -b else b)>(if a<0 then -a else a) then (if b<0 then -b else b) else (if a<0 then -a else a)):=by
  generalize (if b<0 then -b else b)=u;generalize (if a<0 then -a else a)=v;split<;>split<;>omega
 generalize (if (if b<0 then -b else b)>(if a<0 then -a else a) then (if b<0 then -b else b) else (if a<0 then -a else a))=M at hg hM hs hmM |-
 generalize (if (if b<0 then -b else b)<(if a<0 then -a else a) then (if b<0 then -b else b) else (if a<0 then -a else a))=m at hg hm hmM |-
 have hM7:M.natAbs<2^5980:=hs;refine⟨fun n=>gdM a b H (n+1),⟨m.toNat,Same.refl _,M,m,none,none,rfl,hm,hmM,hM7,hg,by omega⟩,?_⟩;rintro n σ H1 ⟨s1,x,y,o4,o5,rfl,y0,yx,x7,gxy,ln⟩;walk_at "rf";have fx:Fit x:=Bd.fit (n:=5980) x7;have fy:Fit y:=Bd.fit (n:=5980) (xaY (by omega) x7);by_cases c:2000<((Builtin.Int.intBits y:Nat):Int)
 ·rw[if_pos c];have yb:=jnc (k:=y) (n:=2000) (by omega);have p2:0<2^2000:=Nat.two_pow_pos _;have y1:0<y:=by omega
  have xb:120<=Builtin.Int.intBits x:=by
   rcases xbJ (Builtin.Int.intBits x) 120 with z | z
   ·have h1:=jjG x;have h2:2^Builtin.Int.intBits x<=2^2000:=xbH (by decide) (by omega);omega
   ·exact z
  refine⟨gdM a b H y,fun σ' H' h=>?_,x,y,rfl,y0,yx,xb,fun t H2 a' b' c' d' s2 e2 R=>?_⟩
  ·obtain⟨h1,x',y',o4,o5,h2,h3,h4,h5,h6,h7⟩:=h;exact⟨y'.toNat,by omega,h1,x',y',o4,o5,h2,h3,h4,h5,h6,by omega⟩
  have kt:SqT K H2 t [.int a',.int b',.int c',.int d']:=SqT.of e2;refine ixT kt rfl ⟨rfl,?_⟩;have m1:=xa0 x (xa1 y1);have m2:=xaU x y1;by_cases z:b'=0
  ·rw[if_pos (by rw[z])];exact⟨y1,s1.trans s2,y,x % y,_,_,rfl,m1,xan m2,xaY (by omega) x7,(jic x y (by omega)).trans gxy,m2⟩
  ·rw[if_neg (fun h=>z (by injection h))];obtain⟨l1,l2⟩:=R.lt z;obtain⟨f0,f1,f2,f3⟩:=R.bd;have r0:=R.g0;exact ixT kt rfl ⟨_,rfl,f2.fit,fx,ixT kt rfl ⟨_,rfl,f3.fit,fy,ixT kt rfl ⟨_,rfl,f0.fit,fx,ixT kt rfl ⟨_,rfl,f1.fit,fy,s1.trans s2,_,_,_,_,rfl,R.s0,xan l1,xaY (by omega) x7,R.gcd.trans gxy,by omega⟩⟩⟩⟩
 ·rw[if_neg c];refine⟨fun n σ H2=>H2=H1/\∃(x y:Int) (o:Option V),σ=[some (.int a),some (.int b),some (.int x),some (.int y),o4,o]/\0<=x/\0<=y/\Int.gcd x y=Int.gcd a b/\n=y.toNat,⟨_,rfl,x,y,o5,rfl,by omega,y0,gxy,rfl⟩,?_⟩;rintro n σ H2 ⟨rfl,x,y,o,rfl,hx,hy,hgg,rfl⟩;walk_at "rf";by_cases c:y=0
  ·subst c;rw[if_pos rfl];have q:=q _ s1;rw[<- hgg,Int.gcd_zero_right] at q;have e2:((x.natAbs:Nat):Int)=x:=by omega
   rw[e2] at q;exact q
  ·rw[if_neg c];have b1:=xa0 x c;have b2:=xaU x (show 0<y by omega);refine⟨fun σ' H'=>σ'=[some (V.int a),some (V.int b),some (V.int y),some (V.int (x % y)),o4,some (V.int (x % y))]/\H'=H2,fun σ' H' ⟨h1,h2⟩=>⟨_,by omega,h2,y,x % y,_,h1,by omega,b1,(jic x y hx).trans hgg,rfl⟩,by omega,rfl,rfl⟩
theorem joT (T:Tx K mg t1 t2) (F:At K mg "in_lowest_terms" jbw ["numbers"] []) (Dp:jak P w K mg base CX0 2 "greatest_divisor" ["one","other"] [] spGd):jak P w K mg base CX0 3 "in_lowest_terms" ["numbers"] [] jk1:=by
 refine F.ok jcb (by walk_at "ar") (fun f cdv A outer s H vs Q E hr h=>?_);obtain⟨a,ns,rfl,ha,hl,hs,hg,q⟩:=h;have S:=jcb;refine⟨_,(jaf (jar (i:=1) S.nd rfl (Or.inr rfl) jab)
  (jaf (jbb PassesOwn.never rfl (jbT (pv 0)) (jau (i:=2) S.nd rfl (Or.inl rfl))
  (jaf (jar (i:=1) S.nd rfl (Or.inr rfl) (jae Dp hr.m rfl jao (jaa (pv 1) (jaa (pv 2) jad jac) jac)))
  (jag (jaM (jat jcm (pv 1) jab (jaw _))
  (jag (jan (ja8 jbd rfl T.m_tuple boot_tuple (jaa (pv 0) jad jac))))
  jax))))
  (jag (jan (ja8 jbd rfl T.m_tuple boot_tuple (jaa (jaF rfl (N':=["number","divisor"]) (ix:=[1]) (by walk_at "cs") (jbT (pv 0)) (fun _ _ _ _=>jau (i:=0) (show (["number","divisor"]:List Str).Nodup from by decide +kernel) rfl (Or.inl rfl)) (fun _ _ _ _=>jaK) (fun _ _ _ _=>(jap jby (pv 0) (pv 1)))) jad jcn)))))),?_⟩
 walk_at "rd";refine⟨_,rfl,a,rfl,⟨_,SqT.of ha⟩,jcS (K:=K) (a:=a) (xs:=ns.map V.int) (fun i σ H2=>Same H H2/\∃o:Option V,σ=[some (.ref a),some (.int (gl (ns.take i))),o]) ⟨Same.refl _,none,rfl⟩ (fun i σ H2 _ ⟨h,_⟩=>SqT.of (h _ _ ha)) ?_ ?_⟩
 ·rintro i v σ H2 hi ⟨sH,o,rfl⟩;obtain⟨z,rfl,hz⟩:=jlY hi;walk_at "rd";refine⟨_,_,rfl,jid fun n hn=>hs n (xbT hn),hs z (xbi hz),fun H3 s3=>?_⟩;walk_at "rd";rw[<- jha hz];refine jhw (fun c=>⟨_,.inr ⟨SqT.of ((sH.trans s3) _ _ ha),?_⟩⟩) fun c=>⟨sH.trans s3,rfl,_,rfl⟩;have g1:gl ns=1:=jfU c;refine q a H3 (sH.trans s3) ?_;rw[g1,jhC];exact (sH.trans s3) _ _ ha
 ·rintro σ H2 ⟨sH,o,rfl⟩;walk_at "rd";have el:(ns.map V.int).length=ns.length:=xaa _;rw[el,xbD];have gp:0<gl ns:=by have:=jbq ns;omega
  refine⟨_,rfl,a,rfl,⟨_,SqT.of (sH _ _ ha)⟩,fun acc hacc=>je4 (K:=K) (a:=a) (zs:=ns.map V.int) (fun i xs H3=>Same H2 H3/\H3 acc=some (.lst xs)/\xs=((ns.take i).map (· / gl ns)).map V.int) ⟨Same.new hacc _,jam,rfl⟩ (fun i xs H3 _ h=>h.1.tup (SqT.of (sH _ _ ha))) ?_ ?_⟩
  ·rintro i v xs H3 hi ⟨h1,h2,rfl⟩;obtain⟨z,rfl,hz⟩:=jlY hi;walk_at "rd";have li:=(xae.mp hz).1;refine⟨gp,(jid hs).bd.fit,h2,?_,Same.keep h1 hacc,jam,?_⟩
   ·rw[xaa,xaa,xaT];exact jjh (by omega)
   ·rw[xbI,hz,xaq,xaq];rfl
  ·rintro xs H3 ⟨h1,h2,rfl⟩;rw[el,xbD] at h2;exact⟨acc,rfl,_,.inl ⟨SqL.of h2,fun l hl=>q l _ (sH.trans (h1.trans (Same.new hl _))) jam⟩⟩
theorem jnd (h:∀(i:Nat) (y:V),ys[i]?=some y->∃v:Int,y=V.int v):∃ms:List Int,ys=ms.map V.int:=by
  induction ys with
  | nil=>exact⟨[],rfl⟩
  | cons y r ih =>
    obtain⟨v,rfl⟩:=h 0 y rfl;obtain⟨ms,rfl⟩:=ih fun i z hz=>h (i+1) z hz;exact⟨v::ms,rfl⟩
theorem jiE (T:Tx K mg t1 t2) (F:At K mg "crossed" jfp ["one","other"] []):jak P w K mg base CX0 2 "crossed" ["one","other"] [] jjB:=by
 refine F.ok jf1 (by walk_at "ar") (fun f cdv A outer s H vs Q E hr h=>?_);obtain⟨r,p,a,b,c,x,y,z,rfl,⟨h1,sa,sb,sc⟩,⟨h2,sx,sy,sz⟩,q⟩:=h;have S:=jf1;refine⟨_,(jag (jan (ja4 (jaa (jap jaW (jap jas (jal jaq (pv 0) jab) (jal jaq (pv 1) jab)) (jap jas (jal jaq (pv 0) jab) (jal jaq (pv 1) jab))) (jaa (jap jaW (jap jas (jal jaq (pv 0) jab) (jal jaq (pv 1) jab)) (jap jas (jal jaq (pv 0) jab) (jal jaq (pv 1) jab))) (jaa (jap jaW (jap jas (jal jaq (pv 0) jab) (jal jaq (pv 1) jab)) (jap jas (jal jaq (pv 0) jab) (jal jaq (pv 1) jab))) jad jbc) jbc) jbc)))),?_⟩;have k1:SqT K H r [.int a,.int b,.int c]:=SqT.of h1;have k2:SqT K H p [.int x,.int y,.int z]:=SqT.of h2;have fa:=sa.bd.fit;have fb:=sb.bd.fit;have fc:=sc.bd.fit;have fx:=sx.bd.fit;have fy:=sy.bd.fit;have fz:=sz.bd.fit;walk_at "rf";walk_at "gf";intro t ht;exact q t _ (Same.new ht _) jam
theorem joU (T:Tx K mg t1 t2) (F:At K mg "determinant" jcv ["one","other","third"] []) (DS:jak P w K mg base CX0 2 "crossed" ["one","other"] [] jjB):jak P w K mg base CX0 3 "determinant" ["one","other","third"] [] joQ:=by
 refine F.ok jdv (by walk_at "ar") (fun f cdv A outer s H vs Q E hr h=>?_);obtain⟨r,p,e,a,b,c,x,y,z,u,v,o,rfl,h1,h2,h3,q⟩:=h;have S:=jdv;refine⟨_,(jaf (jar (i:=3) S.nd rfl (Or.inl rfl) (jae DS hr.m rfl jao (jaa (pv 0) (jaa (pv 1) jad jac) jac)))
  (jag (jan (jap jaP (jap jaP (jap jas (jal jaq (pv 3) jab) (jal jaq (pv 2) jab)) (jap jas (jal jaq (pv 3) jab) (jal jaq (pv 2) jab))) (jap jas (jal jaq (pv 3) jab) (jal jaq (pv 2) jab)))))),?_⟩
 walk_at "rf";refine⟨r,p,a,b,c,x,y,z,rfl,h1,h2,fun t H1 s1 e1=>?_⟩;have k1:SqT K H1 t _:=SqT.of e1;have k2:SqT K H1 e [.int u,.int v,.int o]:=SqT.of (s1 _ _ h3.1);have fu:=h3.2.1.bd.fit;have fv:=h3.2.2.1.bd.fit;have fo:=h3.2.2.2.bd.fit;have ma:∀{i j k l:Int},Sm2 i->Sm2 j->Sm2 k->Sm2 l->Fit (i*j-k*l):=fun h1 h2 h3 h4=>Bd.fit (n:=3961) (Bd.sub (Bd.mul (n:=1980) (m:=1980) h1 h2) (Bd.mul (n:=1980) (m:=1980) h3 h4));have g1:=ma h1.2.2.1 h2.2.2.2 h1.2.2.2 h2.2.2.1;have g2:=ma h1.2.2.2 h2.2.1 h1.2.1 h2.2.2.2;have g3:=ma h1.2.1 h2.2.2.1 h1.2.2.1 h2.2.1;walk_at "gf";exact q _ s1
theorem jiF (T:Tx K mg t1 t2) (F:At K mg "without" jfq ["spot","place"] []):jak P w K mg base CX0 2 "without" ["spot","place"] [] jhb:=by
  refine F.ok jf2 (by walk_at "ar") (fun f cdv A outer s H vs Q E hr h=>?_);obtain⟨r,k,p,rfl,h1,k0,k3,q⟩:=h;have S:=jf2;refine⟨_,(jag (jan (ja8 jbd rfl T.m_tuple boot_tuple (jaa (jaF rfl (N':=["k","spot","place"]) (ix:=[0,1]) (by walk_at "cs") (jaH rfl T.m_range (jaa jab jad jai)) (fun _ _ _ _=>jau (i:=0) (show (["k","spot","place"]:List Str).Nodup from by decide +kernel) rfl (Or.inl rfl)) (fun _ _ _ _=>(jgm (jat jcT (pv 0) (pv 2) (jaw _)))) (fun _ _ _ _=>(jal (jaZ (K:=K) rfl) (pv 1) (pv 0)))) jad jcn)))),?_⟩;have k_h1:=h1.sq (K:=K);have e:k=0\/k=1\/k=2\/k=3:=by omega
  walk_at "rf";walk_at "gf";intro acc hacc;refine jjo (n:=4) (fun i=>.int (match i with | 0=>p.x | 1=>p.y | 2=>p.z | _=>p.w)) (fun i=>!decide ((i:Int)=k)) (by decide) hacc ?_ ?_ ?_
  . intro i H3 R hi s3 hR
    walk_at "rf";have z:=hR H3 (Same.refl _);rw[xce];exact z
  . intro i H3 R hi ci s3 hR
    have k1:=s3.tup k_h1
    match i,hi with
    | 0, _ =>
      walk_at "rf";walk_at "gf";exact hR _ (Same.refl _)
    | 1, _ =>
      walk_at "rf";walk_at "gf";exact hR _ (Same.refl _)
    | 2, _ =>
      walk_at "rf";walk_at "gf";exact hR _ (Same.refl _)
    | 3, _ =>
      walk_at "rf";walk_at "gf";exact hR _ (Same.refl _)
  intro H1 s1 e1;refine FoR.tupOf (X:=True) (SqL.of e1) fun t H2 s2 e2=>q t H2 (s1.trans s2) ?_;rw[e2];rcases e with rfl | rfl | rfl | rfl<;>rfl
theorem jjH {r:Addr} (hp:p.sm) (h:H r=some (.tup ((wo k p).map V.int))):∃a b c,wo k p=[a,b,c]/\Tup3 H r a b c:=by
 by_cases k0:k=0
 ·have e:wo k p=[p.y,p.z,p.w]:=if_pos k0;rw[e] at h;exact⟨_,_,_,e,h,hp.2.1,hp.2.2.1,hp.2.2.2⟩
 by_cases k1:k=1
 ·have e:wo k p=[p.x,p.z,p.w]:=by unfold wo;rw[if_neg k0,if_pos k1]
  rw[e] at h;exact⟨_,_,_,e,h,hp.1,hp.2.2.1,hp.2.2.2⟩
 by_cases k2:k=2
 ·have e:wo k p=[p.x,p.y,p.w]:=by unfold wo;rw[if_neg k0,if_neg k1,if_pos k2]
  rw[e] at h;exact⟨_,_,_,e,h,hp.1,hp.2.1,hp.2.2.2⟩
 have e:wo k p=[p.x,p.y,p.z]:=by unfold wo;rw[if_neg k0,if_neg k1,if_neg k2]
 rw[e] at h;exact⟨_,_,_,e,h,hp.1,hp.2.1,hp.2.2.1⟩
theorem Tup3.keep {r:Addr} {b c:Int} (h:Tup3 H r a b c) (s:Same H H'):Tup3 H' r a b c:=⟨s _ _ h.1,h.2⟩
theorem jk3 (T:Tx K mg t1 t2) (F:At K mg "minor_of" jep ["one","other","third","place"] []) (Dc:jak P w K mg base CX0 2 "without" ["spot","place"] [] jhb) (Dz:jak P w K mg base CX0 3 "determinant" ["one","other","third"] [] joQ):jak P w K mg base CX0 4 "minor_of" ["one","other","third","place"] [] jgx:=by
 refine F.ok jfv (by walk_at "ar") (fun f cdv A outer s H vs Q E hr h=>?_);obtain⟨r,e,t,k,p,o,u,rfl,h1,h2,h3,k0,k3,q⟩:=h;have S:=jfv;refine⟨_,(jag (jan (jae Dz hr.m rfl jao (jaa (jae Dc hr.m rfl jao (jaa (pv 0) (jaa (pv 3) jad jac) jac)) (jaa (jae Dc hr.m rfl jao (jaa (pv 1) (jaa (pv 3) jad jac) jac)) (jaa (jae Dc hr.m rfl jao (jaa (pv 2) (jaa (pv 3) jad jac) jac)) jad jaB) jaB) jaB)))),?_⟩;walk_at "rf";refine⟨r,k,p,rfl,h1,k0,k3,fun t1 H1 s1 e1=>?_⟩;refine⟨e,k,o,rfl,h2.keep s1,k0,k3,fun t2 H2 s2 e2=>?_⟩;refine⟨t,k,u,rfl,h3.keep (s1.trans s2),k0,k3,fun t3 H3 s3 e3=>?_⟩;obtain⟨a,b,c,w1,z1⟩:=jjH h1.2 e1;obtain⟨a2,b2,c2,w2,z2⟩:=jjH h2.2 e2;obtain⟨a3,b3,c3,w3,z3⟩:=jjH h3.2 e3;have em:jaG k p o u=ja3 a b c a2 b2 c2 a3 b3 c3:=by
  unfold jaG;rw[w1,w2,w3];rfl
 refine⟨t1,t2,t3,a,b,c,a2,b2,c2,a3,b3,c3,rfl,z1.keep (s2.trans s3),z2.keep s3,z3,fun H4 s4=>?_⟩;rw[<- em];exact q H4 (s1.trans (s2.trans (s3.trans s4)))
theorem jne (T:Tx K mg t1 t2) (F:At K mg "in_line" jfr ["one","other","third"] []) (dr:jak P w K mg base CX0 4 "minor_of" ["one","other","third","place"] [] jgx):jak P w K mg base CX0 5 "in_line" ["one","other","third"] [] jlZ:=by
  refine F.ok jf3 (by walk_at "ar") (fun f cdv A outer s H vs Q E hr h=>?_);obtain⟨r,e,t,p,o,u,rfl,h1,h2,h3,q⟩:=h;have S:=jf3;refine⟨_,(jaf (jbb PassesOwn.never rfl (jaH rfl T.m_range (jaa jab jad jai)) (jau (i:=3) S.nd rfl (Or.inl rfl))
    (jag (jaM (jat jcT (jae dr hr.m rfl jao (jaa (pv 0) (jaa (pv 1) (jaa (pv 2) (jaa (pv 3) jad jac) jac) jac) jac)) jab (jaw _))
    (jag (jan jbz))
    jax)))
    (jag (jan jbz))),?_⟩
  walk_at "rf";walk_at "gf";refine jbA (lo:=0) (n:=3) (fun i σ H2=>Same H H2/\∃o3:Option V,σ=[some (.ref r),some (.ref e),some (.ref t),o3]/\(1<=i->jaG 0 p o u=0)/\(2<=i->jaG 1 p o u=0)/\(3<=i->jaG 2 p o u=0)) ⟨Same.refl _,none,rfl,by simp,by simp,by simp⟩ ?_ ?_
  . rintro i σ H2 hi ⟨s2,o3,rfl,e0,e1,e2⟩
    walk_at "rf";refine⟨r,e,t,_,p,o,u,rfl,h1.keep s2,h2.keep s2,h3.keep s2,by omega,by omega,fun H3 s3=>?_⟩;have ei:(0:Int)+(i:Int)=(i:Int):=xce _;rw[ei]
    match i,hi with
    | 0, _ =>
      walk_at "rf";refine jhw (fun c=>⟨s2.trans s3,fun _=>c,fun h=>absurd h (by decide),fun h=>absurd h (by decide)⟩) fun c=>?_;have ef:inl p o u=false:=decide_eq_false fun z=>c z.1;exact ef▸q H3 (s2.trans s3)
    | 1, _ =>
      have d0:=e0 (by decide);walk_at "rf";refine jhw (fun c=>⟨s2.trans s3,fun _=>d0,fun _=>c,fun h=>absurd h (by decide)⟩) fun c=>?_;have ef:inl p o u=false:=decide_eq_false fun z=>c z.2.1;exact ef▸q H3 (s2.trans s3)
    | 2, _ =>
      have d0:=e0 (by decide);have d1:=e1 (by decide);walk_at "rf";refine jhw (fun c=>⟨s2.trans s3,fun _=>d0,fun _=>d1,fun _=>c⟩) fun c=>?_;have ef:inl p o u=false:=decide_eq_false fun z=>c z.2.2;exact ef▸q H3 (s2.trans s3)
  . rintro σ H2 ⟨s2,o3,rfl,e0,e1,e2⟩
    have ef:inl p o u=true:=decide_eq_true ⟨e0 (by decide),e1 (by decide),e2 (by decide)⟩;exact ef▸q H2 s2
theorem mem4 {b c d:Int} (ha:Small a) (hb:Small b) (hc:Small c) (hd:Small d):∀n∈[a,b,c,d],Small n:=fun n hn=>by
 simp only[xap,xbX,or_false] at hn;rcases hn with rfl | rfl | rfl | rfl<;>assumption
theorem gl4 {b c d:Int} (h:¬(a=0/\b=0/\c=0)):0<gl [a,b,c,d]:=by
 by_cases c1:a=0
 ·by_cases c2:b=0
  ·exact jco (n:=c) (by simp) fun z=>h ⟨c1,c2,z⟩
  ·exact jco (n:=b) (by simp) c2
 ·exact jco (n:=a) (by simp) c1
def vneg (v:V):V:=match v with | .int i=>.int (-i) | _=>v
theorem jk4 (ns:List Int):(ns.map V.int).map vneg=(ns.map fun n=>-n).map V.int:=by
 rw[xbK,xbK];rfl
theorem jjI (T:Tx K mg t1 t2) (F:At K mg "turned_about" jcd ["plane"] []):jak P w K mg base CX0 2 "turned_about" ["plane"] [] jdr:=by
 refine F.ok jdb (by walk_at "ar") (fun f cdv A outer s H vs Q E hr h=>?_);obtain⟨r,ns,rfl,h1,hl,q⟩:=h;have S:=jdb;refine⟨_,(jag (jan (ja8 jbd rfl T.m_tuple boot_tuple (jaa (jaF rfl (N':=["number"]) (ix:=[]) (by walk_at "cs") (jbT (pv 0)) (fun _ _ _ _=>jau (i:=0) (show (["number"]:List Str).Nodup from by decide +kernel) rfl (Or.inl rfl)) (fun _ _ _ _=>jaK) (fun _ _ _ _=>(jdV jca (pv 0)))) jad jcn)))),?_⟩;have k1:SqT K H r (ns.map V.int):=SqT.of h1;walk_at "rf";walk_at "gf";intro acc hacc;refine joF vneg (by rw[xaa];omega) hacc k1 ?_ ?_
 ·intro z H3 R hz s3 hR;obtain⟨m,hm,rfl⟩:=xai.mp hz;walk_at "rd";exact hR _ (Same.refl _)
 intro H1 s1 e1;rw[jk4] at e1;exact FoR.tupOf (X:=True) (SqL.of e1) fun t H2 s2 e2=>q t H2 (s1.trans s2) e2
theorem jnf (T:Tx K mg t1 t2) (F:At K mg "sign_of" jfo ["number"] []):jak P w K mg base CX0 2 "sign_of" ["number"] [] jjD:=by
 refine F.ok jf0 (by walk_at "ar") (fun f cdv A outer s H vs Q E hr h=>?_);obtain⟨n,rfl,q⟩:=h;have S:=jf0;refine⟨_,(jaf (jaM (jat jhu (pv 0) jab (jaw _))
  (jag (jan jab))
  jax)
  (jaf (jaM (jat jdW (pv 0) jab (jaw _))
  (jag (jan (jdV jca jab)))
  jax)
  (jag (jan jab)))),?_⟩
 unfold sgn at q;walk_at "rd";refine jhw (fun c=>?_) fun c=>jhw (fun c1=>?_) fun c1=>?_
 ·rw[if_pos c] at q;exact q
 ·rw[if_neg c,if_pos c1] at q;exact q
 ·rw[if_neg c,if_neg c1] at q;exact q
theorem jk5 (T:Tx K mg t1 t2) (F:At K mg "is_plain" jeq ["plane"] []):jak P w K mg base CX0 2 "is_plain" ["plane"] [] jjC:=by
  refine F.ok jfw (by walk_at "ar") (fun f cdv A outer s H vs Q E hr h=>?_);obtain⟨r,a,b,c,d,rfl,h1,q⟩:=h;have S:=jfw;refine⟨_,(jaf (jbb PassesOwn.never rfl (jbT (jbi jja (pv 0) jbG (jbH jab))) (jau (i:=1) S.nd rfl (Or.inl rfl))
    (jag (jaM (jat jcT (pv 1) jab (jaw _))
    (jag (jan (jbp jhu (pv 1) jab (jaw _))))
    jax)))
    (jag (jan jbz))),?_⟩
  walk_at "rf";refine⟨r,_,rfl,SqT.of h1,(show ¬(HT.sIx 4 0 none=0/\HT.sIx 4 4 (some 3)=4) by decide),fun p hp=>?_⟩;have sp:=Same.new hp (.tup (jgZ [.int a,.int b,.int c,.int d] none (some 3)));have ep:upd H p (.tup (jgZ [.int a,.int b,.int c,.int d] none (some 3))) p=some (.tup ([a,b,c].map V.int)):=jam;generalize upd H p (.tup (jgZ [.int a,.int b,.int c,.int d] none (some 3)))=H1 at sp ep |-
  have kp:SqT K H1 p ([a,b,c].map V.int):=SqT.of ep;walk_at "gf";have q:=q H1 sp;unfold plb at q;refine jcS (K:=K) (a:=p) (xs:=[a,b,c].map V.int) (fun i σ H2=>H2=H1/\∃o1:Option V,σ=[some (.ref r),o1]/\(1<=i->a=0)/\(2<=i->b=0)/\(3<=i->c=0)) ⟨rfl,none,rfl,by simp,by simp,by simp⟩ (fun i σ H2 _ ⟨h,_⟩=>by rw[h];exact kp) ?_ ?_
  . rintro i v σ H2 hi ⟨rfl,o1,rfl,e0,e1,e2⟩
    match i,hi with
    | 0, hi =>
      cases hi;walk_at "rf";refine jhw (fun cc=>⟨fun _=>cc,fun h=>absurd h (by decide),fun h=>absurd h (by decide)⟩) fun cc=>?_;rw[if_pos cc] at q;exact q
    | 1, hi =>
      cases hi;have d0:=e0 (by decide);walk_at "rf";refine jhw (fun cc=>⟨fun _=>d0,fun _=>cc,fun h=>absurd h (by decide)⟩) fun cc=>?_;rw[if_neg (fun n=>n d0),if_pos cc] at q;exact q
    | 2, hi =>
      cases hi;have d0:=e0 (by decide);have d1:=e1 (by decide);walk_at "rf";refine jhw (fun cc=>⟨fun _=>d0,fun _=>d1,fun _=>cc⟩) fun cc=>?_;rw[if_neg (fun n=>n d0),if_neg (fun n=>n d1),if_pos cc] at q;exact q
  . rintro σ H2 ⟨rfl,o1,rfl,e0,e1,e2⟩
    rw[if_neg (fun n=>n (e0 (show 1<=3 by decide))),if_neg (fun n=>n (e1 (show 2<=3 by decide))),if_neg (fun n=>n (e2 (show 3<=3 by decide)))] at q;exact q
theorem jk6 (T:Tx K mg t1 t2) (F:At K mg "rough_plane" jcw ["one","other","third"] []) (dr:jak P w K mg base CX0 4 "minor_of" ["one","other","third","place"] [] jgx):jak P w K mg base CX0 5 "rough_plane" ["one","other","third"] [] jhD:=by
 refine F.ok jdw (by walk_at "ar") (fun f cdv A outer s H vs Q E hr h=>?_);obtain⟨r,e,t,p,o,u,rfl,h1,h2,h3,q⟩:=h;have S:=jdw;refine⟨_,(jag (jan (ja4 (jaa (jae dr hr.m rfl jao (jaa (pv 0) (jaa (pv 1) (jaa (pv 2) (jaa jab jad jai) jac) jac) jac)) (jaa (jdV jca (jae dr hr.m rfl jao (jaa (pv 0) (jaa (pv 1) (jaa (pv 2) (jaa jab jad jai) jac) jac) jac))) (jaa (jae dr hr.m rfl jao (jaa (pv 0) (jaa (pv 1) (jaa (pv 2) (jaa jab jad jai) jac) jac) jac)) (jaa (jae dr hr.m rfl jao (jaa (pv 0) (jaa (pv 1) (jaa (pv 2) (jaa jab jad jai) jac) jac) jac)) jad jaB) jaB) jgp) jaB)))),?_⟩;walk_at "rf";refine⟨r,e,t,0,p,o,u,rfl,h1,h2,h3,by decide,by decide,fun H1 s1=>?_⟩;refine⟨r,e,t,1,p,o,u,rfl,h1.keep s1,h2.keep s1,h3.keep s1,by decide,by decide,fun H2 s2=>?_⟩;have s12:=s1.trans s2;walk_at "rf";refine⟨r,e,t,2,p,o,u,rfl,h1.keep s12,h2.keep s12,h3.keep s12,by decide,by decide,fun H3 s3=>?_⟩;have s13:=s12.trans s3;refine⟨r,e,t,3,p,o,u,rfl,h1.keep s13,h2.keep s13,h3.keep s13,by decide,by decide,fun H4 s4=>?_⟩;exact⟨by decide,fun g hg=>q g _ (s13.trans (s4.trans (Same.new hg _))) jam⟩
theorem jif {b c z u v w:Int} (ha:Sm2 a) (hb:Sm2 b) (hc:Sm2 c) (hx:Sm2 x) (hy:Sm2 y) (hz:Sm2 z) (hu:Sm2 u) (hv:Sm2 v) (hw:Sm2 w):Bd 5943 (ja3 a b c x y z u v w):=by
 have m:∀{i j k l e:Int},Sm2 i->Sm2 j->Sm2 k->Sm2 l->Sm2 e->Bd 5941 ((i*j-k*l)*e):=fun h1 h2 h3 h4 h5=>Bd.mul (n:=3961) (m:=1980) (Bd.sub (Bd.mul (n:=1980) (m:=1980) h1 h2) (Bd.mul (n:=1980) (m:=1980) h3 h4)) h5;exact Bd.add (Bd.add (m hb hz hc hy hu) (m hc hx ha hz hv)) (Bd.mono (n:=5941) (m ha hy hb hx hw))
theorem jig {o u:Pt} (hp:p.sm) (ho:o.sm) (hu:u.sm):Small (jaG 0 p o u)/\Small (jaG 1 p o u)/\Small (jaG 2 p o u)/\Small (jaG 3 p o u):=by
 obtain⟨a,b,c,d⟩:=hp;obtain⟨a',b',c',d'⟩:=ho;obtain⟨a2,b2,c2,d2⟩:=hu;exact⟨Bd.mono (n:=5943) (jif b c d b' c' d' b2 c2 d2),Bd.mono (n:=5943) (jif a c d a' c' d' a2 c2 d2),Bd.mono (n:=5943) (jif a b d a' b' d' a2 b2 d2),Bd.mono (n:=5943) (jif a b c a' b' c' a2 b2 c2)⟩
theorem jk7 (T:Tx K mg t1 t2) (F:At K mg "made_plane" jcW ["a","b","c","d"] []) (dG:jak P w K mg base CX0 3 "in_lowest_terms" ["numbers"] [] jk1):jak P w K mg base CX0 4 "made_plane" ["a","b","c","d"] [] jhE:=by
 refine F.ok jd2 (by walk_at "ar") (fun f cdv A outer s H vs Q E hr h=>?_);obtain⟨a,b,c,d,rfl,sa,sb,sc,sd,nz,q⟩:=h;have S:=jd2;refine⟨_,(jaf (jaM (PW.pt (jhY (jat jcm (pv 0) jab (jaw _)) (jhY (jat jcm (pv 1) jab (jaw _)) (jhq (jat jcm (pv 2) jab (jaw _))))))
  jfa
  jax)
  (jag (jan (jae dG hr.m rfl jao (jaa (ja4 (jaa (pv 0) (jaa (pv 1) (jaa (pv 2) (jaa (pv 3) jad jac) jac) jac) jac)) jad jaE))))),?_⟩
 have fin:∀p,H p=none->jk1 [.ref p] (upd H p (.tup [.int a,.int b,.int c,.int d])) Q (fun _ _ _=>False):=fun p hp =>
  ⟨p,[a,b,c,d],rfl,jam,by simp,mem4 sa sb sc sd,by have:=gl4 (d:=d) nz;omega,fun r H' h1 h2=>q r H' ((Same.new hp _).trans h1) h2⟩
 walk_at "rf";by_cases c1:a=0
 ·rw[if_pos c1];by_cases c2:b=0
  ·rw[if_pos c2];by_cases c3:c=0
   ·exact absurd ⟨c1,c2,c3⟩ nz
   ·rw[if_neg c3];exact⟨by decide,fin⟩
  ·rw[if_neg c2];exact⟨by decide,fin⟩
 ·rw[if_neg c1];exact⟨by decide,fin⟩
theorem jiG (T:Tx K mg t1 t2) (F:At K mg "plane_through" jbY ["one","other","third"] []) (dS:jak P w K mg base CX0 5 "rough_plane" ["one","other","third"] [] jhD) (dW:jak P w K mg base CX0 4 "made_plane" ["a","b","c","d"] [] jhE) (DQ:jak P w K mg base CX0 2 "is_plain" ["plane"] [] jjC) (dk:jak P w K mg base CX0 2 "turned_about" ["plane"] [] jdr):jak P w K mg base CX0 6 "plane_through" ["one","other","third"] [] jfu:=by
  refine F.ok jcJ (by walk_at "ar") (fun f cdv A outer s H vs Q E hr h=>?_);obtain⟨r,e,t,p,o,u,rfl,h1,h2,h3,na,q⟩:=h;have S:=jcJ;refine⟨_,(jaf (jar (i:=3) S.nd rfl (Or.inl rfl) (jae dS hr.m rfl jao (jaa (pv 0) (jaa (pv 1) (jaa (pv 2) jad jac) jac) jac)))
    (jaf (jar (i:=4) S.nd rfl (Or.inl rfl) (jae dW hr.m rfl jao (jaa (jal jaq (pv 3) jab) (jaa (jal jaq (pv 3) jab) (jaa (jal jaq (pv 3) jab) (jaa (jal jaq (pv 3) jab) jad jav) jav) jav) jav)))
    (jaf (jaM (jbO (jae DQ hr.m rfl jao (jaa (pv 4) jad jac)))
    (jag (jan (pv 4)))
    jax)
    (jag (jan (jae dk hr.m rfl jao (jaa (pv 4) jad jac))))))),?_⟩
  obtain⟨m0,m1,m2,m3⟩:=jig h1.2 h2.2 h3.2;walk_at "rf";refine⟨r,e,t,p,o,u,rfl,h1,h2,h3,fun g H1 s1 e1=>?_⟩;have kg:SqT K H1 g [.int (jaG 0 p o u),.int (-jaG 1 p o u),.int (jaG 2 p o u),.int (jaG 3 p o u)]:=SqT.of e1;walk_at "gf";refine⟨_,_,_,_,rfl,m0,m1.neg,m2,m3,fun z=>na ⟨z.1,by omega,z.2.2⟩,fun g2 H2 s2 e2=>?_⟩;have el:∃a b c d,low (rgh p o u)=[a,b,c,d]:=⟨_,_,_,_,rfl⟩;have e2':H2 g2=some (.tup ((low (rgh p o u)).map V.int)):=e2;obtain⟨a,b,c,d,el⟩:=el;unfold pln at q;rw[el] at q e2';walk_at "rf";refine⟨g2,a,b,c,d,rfl,e2',fun H3 s3=>?_⟩;have s13:=s1.trans (s2.trans s3);dsimp only at q;cases eb:plb a b c with
  | true =>
    rw[eb,if_pos rfl] at q;walk_at "rf";exact q g2 H3 s13 (s3 _ _ e2')
  | false =>
    rw[eb,if_neg (by decide)] at q;walk_at "rf";refine⟨g2,[a,b,c,d],rfl,s3 _ _ e2',by simp,fun g3 H4 s4 e4=>?_⟩;exact q g3 H4 (s13.trans s4) e4
theorem ok_ht (T:Tx K mg t1 t2) (F:At K mg "height_over" jcx ["plane","spot"] []):jak P w K mg base CX0 2 "height_over" ["plane","spot"] [] spHt:=by
 refine F.ok jdx (by walk_at "ar") (fun f cdv A outer s H vs Q E hr h=>?_);obtain⟨r,e,a,b,c,d,p,rfl,h1,sa,sb,sc,sd,h2,q⟩:=h;have S:=jdx;refine⟨_,(jag (jan (jap jaW (jap jaP (jap jaP (jap jas (jal jaq (pv 0) jab) (jal jaq (pv 1) jab)) (jap jas (jal jaq (pv 0) jab) (jal jaq (pv 1) jab))) (jap jas (jal jaq (pv 0) jab) (jal jaq (pv 1) jab))) (jap jas (jal jaq (pv 0) jab) (jal jaq (pv 1) jab))))),?_⟩;have k1:SqT K H r [.int a,.int b,.int c,.int d]:=SqT.of h1;have f1:=sa.bd.fit;have f2:=sb.bd.fit;have f3:=sc.bd.fit;have f4:=sd.bd.fit;have k_h2:=h2.sq (K:=K);have g0:=h2.2.fx;have g1:=h2.2.fy;have g2:=h2.2.fz;have g3:=h2.2.fw;walk_at "rf";walk_at "gf";exact q
theorem jng (T:Tx K mg t1 t2) (F:At K mg "side_of" jfs ["plane","spot"] []) (Db:jak P w K mg base CX0 2 "sign_of" ["number"] [] jjD) (dI:jak P w K mg base CX0 2 "height_over" ["plane","spot"] [] spHt):jak P w K mg base CX0 3 "side_of" ["plane","spot"] [] jd0:=by
 refine F.ok jf4 (by walk_at "ar") (fun f cdv A outer s H vs Q E hr h=>?_);obtain⟨r,e,a,b,c,d,p,rfl,h1,sa,sb,sc,sd,h2,q⟩:=h;have S:=jf4;refine⟨_,(jag (jan (jae Db hr.m rfl jao (jaa (jae dI hr.m rfl jao (jaa (pv 0) (jaa (pv 1) jad jac) jac)) jad jaB)))),?_⟩;walk_at "rf";exact⟨r,e,a,b,c,d,p,rfl,h1,sa,sb,sc,sd,h2,_,rfl,q⟩
theorem jk8 (T:Tx K mg t1 t2) (F:At K mg "stands_first" jcc ["one","other"] []):jak P w K mg base CX0 2 "stands_first" ["one","other"] [] jjE:=by
  refine F.ok jda (by walk_at "ar") (fun f cdv A outer s H vs Q E hr h=>?_);obtain⟨r,e,p,o,rfl,h1,h2,q⟩:=h;have S:=jda;refine⟨_,(jaf (jbb PassesOwn.never rfl (jaH rfl T.m_range (jaa jab jad jai)) (jau (i:=2) S.nd rfl (Or.inl rfl))
    (jaf (jar (i:=3) S.nd rfl (Or.inl rfl) (jap jas (jal jaq (pv 0) (pv 2)) (jal jaq (pv 1) jab)))
    (jaf (jar (i:=4) S.nd rfl (Or.inl rfl) (jap jas (jal jaq (pv 1) (pv 2)) (jal jaq (pv 0) jab)))
    (jag (jaM (jat jcT (pv 3) (pv 4) (jaw _))
    (jag (jan (jbp jdW (pv 3) (pv 4) (jaw _))))
    jax)))))
    (jag (jan jbz))),?_⟩
  have k_h1:=h1.sq (K:=K);have k_h2:=h2.sq (K:=K);have f0:=h1.2.fx;have f1:=h1.2.fy;have f2:=h1.2.fz;have f3:=h1.2.fw;have g0:=h2.2.fx;have g1:=h2.2.fy;have g2:=h2.2.fz;have g3:=h2.2.fw;unfold sfp at q;walk_at "rd";refine⟨3,rfl,by decide,by decide,jbA (lo:=0) (n:=3) (fun i σ H2=>H2=H/\∃(o0 o1 o2:Option V),σ=[some (.ref r),some (.ref e),o0,o1,o2]/\(1<=i->p.x*o.w=o.x*p.w)/\(2<=i->p.y*o.w=o.y*p.w)/\(3<=i->p.z*o.w=o.z*p.w)) ⟨rfl,none,none,none,rfl,by simp,by simp,by simp⟩ ?_ ?_⟩
  . rintro i σ H2 hi ⟨rfl,o0,o1,o2,rfl,e0,e1,e2⟩
    match i,hi with
    | 0, _ =>
      walk_at "rd";walk_at "go";refine jhw (fun c=>⟨fun _=>c,fun h=>absurd h (by decide),fun h=>absurd h (by decide)⟩) fun c=>?_;rw[sf,if_pos c] at q;exact q
    | 1, _ =>
      have d0:=e0 (by decide);walk_at "rd";walk_at "go";refine jhw (fun c=>⟨fun _=>d0,fun _=>c,fun h=>absurd h (by decide)⟩) fun c=>?_;rw[sf,if_neg (fun n=>n d0),if_pos c] at q;exact q
    | 2, _ =>
      have d0:=e0 (by decide);have d1:=e1 (by decide);walk_at "rd";walk_at "go";refine jhw (fun c=>⟨fun _=>d0,fun _=>d1,fun _=>c⟩) fun c=>?_;rw[sf,if_neg (fun n=>n d0),if_neg (fun n=>n d1),if_pos c] at q;exact q
  . rintro σ H2 ⟨rfl,o0,o1,o2,rfl,e0,e1,e2⟩
    rw[sf,if_neg (fun n=>n (e0 (by decide))),if_neg (fun n=>n (e1 (by decide))),if_neg (fun n=>n (e2 (by decide)))] at q;walk_at "rd";exact q
theorem jnh (T:Tx K mg t1 t2) (F:At K mg "flat_axis" jdG ["plane"] []):jak P w K mg base CX0 2 "flat_axis" ["plane"] [] jl0:=by
  refine F.ok jeI (by walk_at "ar") (fun f cdv A outer s H vs Q E hr h=>?_);obtain⟨r,a,b,c,d,rfl,h1,nz,q⟩:=h;have S:=jeI;refine⟨_,(jaf (jbb PassesOwn.never rfl (jaH rfl T.m_range (jaa jab jad jai)) (jau (i:=1) S.nd rfl (Or.inl rfl))
    (jag (jaM (jat jcT (jal jaq (pv 0) (pv 1)) jab (jaw _))
    (jag (jan (pv 1)))
    jax)))
    (jag (jan jcG))),?_⟩
  have k1:SqT K H r [.int a,.int b,.int c,.int d]:=SqT.of h1;walk_at "rf";walk_at "gf";refine jbA (lo:=0) (n:=3) (fun i σ H2=>H2=H/\∃o1:Option V,σ=[some (.ref r),o1]/\(1<=i->a=0)/\(2<=i->b=0)/\(3<=i->c=0)) ⟨rfl,none,rfl,by simp,by simp,by simp⟩ ?_ ?_
  . rintro i σ H2 hi ⟨rfl,o1,rfl,e0,e1,e2⟩
    match i,hi with
    | 0, _ =>
      walk_at "rf";walk_at "gf";refine jhw (fun cc=>⟨fun _=>cc,fun h=>absurd h (by decide),fun h=>absurd h (by decide)⟩) fun cc=>?_;exact q _ (.inl ⟨rfl,cc⟩)
    | 1, _ =>
      have d0:=e0 (by decide);walk_at "rf";walk_at "gf";refine jhw (fun cc=>⟨fun _=>d0,fun _=>cc,fun h=>absurd h (by decide)⟩) fun cc=>?_;exact q _ (.inr (.inl ⟨rfl,d0,cc⟩))
    | 2, _ =>
      have d0:=e0 (by decide);have d1:=e1 (by decide);walk_at "rf";walk_at "gf";refine jhw (fun cc=>⟨fun _=>d0,fun _=>d1,fun _=>cc⟩) fun cc=>?_;exact q _ (.inr (.inr ⟨rfl,d0,d1,cc⟩))
  . rintro σ H2 ⟨rfl,o1,rfl,e0,e1,e2⟩
    exact absurd ⟨e0 (by decide),e1 (by decide),e2 (by decide)⟩ nz
theorem jni (T:Tx K mg t1 t2) (F:At K mg "side_of_edge" jce ["edge","spot","axis"] []) (Db:jak P w K mg base CX0 2 "sign_of" ["number"] [] jjD) (dr:jak P w K mg base CX0 4 "minor_of" ["one","other","third","place"] [] jgx):jak P w K mg base CX0 5 "side_of_edge" ["edge","spot","axis"] [] jl1:=by
 refine F.ok jdc (by walk_at "ar") (fun f cdv A outer s H vs Q E hr h=>?_);obtain⟨g,r,e,t,k,p,o,u,rfl,hg,h1,h2,h3,k0,k3,q⟩:=h;have S:=jdc;refine⟨_,(jag (jan (jae Db hr.m rfl jao (jaa (jae dr hr.m rfl jao (jaa (jal jaq (pv 0) jab) (jaa (jal jaq (pv 0) jab) (jaa (pv 1) (jaa (pv 2) jad jac) jac) jav) jav)) jad jaB)))),?_⟩;have kg:SqT K H g [.ref r,.ref e]:=SqT.of hg;walk_at "rf";walk_at "gf";refine⟨r,e,t,k,p,o,u,rfl,h1,h2,h3,k0,k3,fun H1 s1=>?_⟩;exact⟨_,rfl,q H1 s1⟩
def fM1 (H:Hp) (l:Addr) (ps:List Pt):L2.St->Hp->Prop:=fun σ H'=>∃o2:Option V,σ=[some (.ref l),some (.int (fF ps:Nat)),o2,none]/\H'=H
def fM2 (H:Hp) (l:Addr) (ps:List Pt) (rs:List Addr):L2.St->Hp->Prop:=fun σ H'=>∃(g:Addr) (o1 o2:Option V),σ=[some (.ref l),o1,o2,some (.ref g)]/\H' g=some (.lst ((rot (fF ps) rs).map V.ref))/\Same H H'
def fM3 (H:Hp) (ps:List Pt) (rs:List Addr):L2.St->Hp->Prop:=fun σ H'=>∃(g:Addr) (o0 o1 o2:Option V),σ=[o0,o1,o2,some (.ref g)]/\H' g=some (.lst ((frm ps rs).map V.ref))/\Same H H'
theorem jhG {α:Type} {f:Nat} {l:List α} (h:f<=l.length):(rot f l).length=l.length:=by
 unfold rot;rw[xao,xaG,xaT];omega
theorem jjJ (T:Tx K mg t1 t2) (F:At K mg "formed" jgu ["corners"] []) (Dg:jak P w K mg base CX0 2 "stands_first" ["one","other"] [] jjE):jak P w K mg base CX0 3 "formed" ["corners"] [] jie:=by
  refine F.ok jhd (by walk_at "ar") (fun f cdv A outer s H vs Q E hr h=>?_);obtain⟨l,rs,ps,rfl,hc,n3,n8,q⟩:=h;have S:=jhd;refine⟨_,(jaf (jar (i:=1) S.nd rfl (Or.inl rfl) jab)
    (jcu (fM1 H l ps) (jbb PassesOwn.never rfl (jfc rfl T.m_range (jaa jab (jaa (jaz jaQ rfl T.m_len PySem.boot_len (jaa (pv 0) jad jac)) jad jaB) jai)) (jau (i:=2) S.nd rfl (Or.inl rfl))
    (jag (jaM (jbO (jae Dg hr.m rfl jao (jaa (jal ix_list (pv 0) (pv 2)) (jaa (jal ix_list (pv 0) (pv 1)) jad jav) jav)))
    (jag (jar (i:=1) S.nd rfl (Or.inl rfl) (pv 2)))
    jax)))
    (jcu (fM2 H l ps rs) (jar (i:=3) S.nd rfl (Or.inl rfl) (jap jfX (ja8 jcU rfl T.m_list boot_list (jaa (jbi jcs (pv 0) (jbH (pv 1)) jbG) jad jav)) (ja8 jcU rfl T.m_list boot_list (jaa (jbi jcs (pv 0) jbG (jbH (pv 1))) jad jav))))
    (jcu (fM3 H ps rs) (jaM (jbO (jae Dg hr.m rfl jao (jaa (jal ix_list (pv 3) (jdV jca jab)) (jaa (jal ix_list (pv 3) jab) jad jav) jav)))
    (jag (jar (i:=3) S.nd rfl (Or.inl rfl) (jap jfX (jbi jcs (pv 3) jbG (jbH jab)) (jfY rfl rfl T.m_list rfl T.m_reversed (jbi jcs (pv 3) (jbH jab) jbG)))))
    jax)
    (jag (jan (ja8 jfl rfl T.m_tuple boot_tuple (jaa (pv 3) jad jac)))))))),?_⟩
  have ln:=hc.2.len;have lm:(rs.map V.ref).length=ps.length:=by rw[xaa,ln]
  have kl:SqL K H l (rs.map V.ref):=SqL.of hc.1;walk_at "rf";refine⟨⟨_,.inl kl,by decide,by decide,by omega,by omega,?_⟩,?_⟩
  . refine jbA (lo:=1) (n:=_) (fun i σ H2=>H2=H /\ ∃o2:Option V,σ=[some (.ref l),some (.int (jjF ps i:Nat)),o2,none]) ⟨rfl,none,rfl⟩ ?_ ?_
    . rintro i σ H2 hi ⟨rfl,o2,rfl⟩
      have hi2:i+1<ps.length:=by omega
      have al:=jhF ps i;obtain⟨g1,g2⟩:=hc.2.get hi2;obtain⟨g3,g4⟩:=hc.2.get (i:=jjF ps i) (by omega);have e1:atI (rs.map V.ref) (1+(i:Int))=some (.ref (ad rs (i+1))):=by
        have z:(1+(i:Int))=((i+1:Nat):Int):=by omega
        rw[z];exact ja5 g1
      walk_at "rf";refine ixL kl e1 ?_;refine ixL kl (ja5 g3) ?_;refine⟨_,_,_,_,rfl,g2,g4,?_⟩;have ea:jjF ps (i+1)=if sfp (pt ps (i+1)) (pt ps (jjF ps i))=true then i+1 else jjF ps i:=rfl;walk_at "rf";cases es:sfp (pt ps (i+1)) (pt ps (jjF ps i)) with
      | true =>
        rw[es,if_pos rfl] at ea;rw[ea,if_pos rfl];exact⟨by omega,_,rfl⟩
      | false =>
        rw[es,if_neg (by decide)] at ea;rw[ea,if_neg (by decide)];exact⟨rfl,_,rfl⟩
    . rintro σ H2 ⟨rfl,o2,rfl⟩
      have e:(((List.map V.ref rs).length:Int)-1).toNat=ps.length-1:=by omega
      rw[e];exact⟨_,rfl,rfl⟩
  rintro σ1 H1 ⟨o2,rfl,rfl⟩;have fl:fF ps<ps.length:=by have:=jhF ps (ps.length-1);unfold fF;omega
  walk_at "rf";refine⟨⟨l,_,rfl,kl,fun a1 h1=>?_⟩,?_⟩
  . rw[je6]
    refine jbJ h1 fun J1 s1 e1=>?_;refine⟨a1,rfl,_,.inl (SqL.of e1),fun a2 h2=>?_⟩;refine jbJ h2 fun J2 s2 e2=>?_;refine⟨l,_,rfl,(s1.trans s2).seq kl,fun a3 h3=>?_⟩;rw[jd1];refine jbJ h3 fun J3 s3 e3=>?_;refine⟨a3,rfl,_,.inl (SqL.of e3),fun a4 h4=>?_⟩;refine jbJ h4 fun J4 s4 e4=>?_;refine⟨a2,a4,_,_,rfl,rfl,s4 _ _ (s3 _ _ e2),e4,?_,fun a5 h5=>⟨a5,_,_,rfl,?_,s1.trans (s2.trans (s3.trans (s4.trans (Same.new h5 _))))⟩⟩
    . rw[xaG,xaT]
      exact xa4 (show _<=1000 by omega) (by decide)
    . unfold rot
      rw[xaq,xbQ,xbM];exact jam
  rintro σ2 H2 ⟨g,o1,o2,rfl,hg,s2⟩;have hr2:=(hc.2.keep s2.t).rot (fF ps);have rl:(rot (fF ps) ps).length=ps.length:=jhG (by omega);have rl2:((rot (fF ps) rs).map V.ref).length=ps.length:=by rw[xaa,jhG (by omega),ln]
  have kg:SqL K H2 g ((rot (fF ps) rs).map V.ref):=SqL.of hg;obtain⟨b1,b2⟩:=hr2.get (i:=ps.length-1) (by omega);obtain⟨b3,b4⟩:=hr2.get (i:=1) (by omega);have ef:∀{α:Type} (x:List α),frm ps x=turn (fB ps) (rot (fF ps) x):=fun _=>rfl;have eb:fB ps=sfp (pt (rot (fF ps) ps) (ps.length-1)) (pt (rot (fF ps) ps) 1):=rfl;walk_at "rf";refine⟨ixL kg (jgy (n:=ps.length-1) (by omega) b1) (ixL kg (ja5 (j:=1) b3) ?_),?_⟩
  . refine⟨_,_,_,_,rfl,b2,b4,?_⟩
    rw[<- eb];have ef:=ef rs;cases es:fB ps with
    | false =>
      rw[es] at ef;walk_at "rf";exact⟨g,_,_,_,rfl,by rw[ef];exact hg,s2⟩
    | true =>
      rw[es] at ef;have ef2:frm ps rs=(rot (fF ps) rs).take 1++((rot (fF ps) rs).drop 1).reverse:=ef;walk_at "rf";refine⟨g,_,rfl,kg,fun a1 h1=>?_⟩;have c1:jgZ ((rot (fF ps) rs).map V.ref) none (some 1)=((rot (fF ps) rs).map V.ref).take 1:=jd1 (f:=1);rw[c1];refine jbJ h1 fun J1 s3 e1=>?_;refine⟨g,_,rfl,s3.seq kg,fun a2 h2=>?_⟩;have c2:jgZ ((rot (fF ps) rs).map V.ref) (some 1) none=((rot (fF ps) rs).map V.ref).drop 1:=je6 (f:=1);rw[c2];refine jbJ h2 fun J2 s4 e2=>?_;refine⟨a2,rfl,_,SqL.of e2,fun a3 h3=>?_⟩;refine jbJ h3 fun J3 s5 e3=>?_;refine⟨a1,a3,_,_,rfl,rfl,s5 _ _ (s4 _ _ e1),e3,?_,fun a4 h4=>⟨a4,_,_,_,rfl,?_,s2.trans (s3.trans (s4.trans (s5.trans (Same.new h4 _))))⟩⟩
      . rw[xbl,xaG,xaT]
        exact xa4 (show _<=1000 by omega) (by decide)
      . rw[ef2,xaq,xbM,xbY,xbQ]
        exact jam
  rintro σ3 H3 ⟨g,o0,o1,o2,rfl,hg,s3⟩;walk_at "rf";exact⟨_,SqL.of hg,fun t ht=>q t _ (s3.trans (Same.new ht _)) jam⟩
theorem jnj {b c:Int} (h:¬(a=0/\b=0/\c=0)) (hp:plb a b c=false):plb (-a) (-b) (-c)=true:=by
 by_cases ha:a=0
 ·by_cases hb:b=0
  ·have hc:c≠0:=fun z=>h ⟨ha,hb,z⟩;simp [plb,ha,hb,hc] at hp |-
   omega
  ·simp [plb,ha,hb] at hp |-
   omega
 ·simp [plb,ha] at hp |-
  omega
theorem jl4 (ns:List Int):gl (ns.map fun n=>-n)=gl ns:=by
 have d1:gl (ns.map fun n=>-n) ∣ gl ns:=jfZ fun n hn=>Int.dvd_neg.mp (jaV (xai.mpr ⟨n,hn,rfl⟩));have d2:gl ns ∣ gl (ns.map fun n=>-n):=jfZ fun n hn=>by
  obtain⟨m,hm,rfl⟩:=xai.mp hn;exact Int.dvd_neg.mpr (jaV hm)
 exact Int.dvd_antisymm (jbq _) (jbq _) d1 d2
theorem jjK {b c d:Int} (h:¬(a=0/\b=0/\c=0)) (sa:Small a) (sb:Small b) (sc:Small c) (sd:Small d):∃x y z w:Int,pln [a,b,c,d]=[x,y,z,w]/\Small x/\Small y/\Small z/\Small w/\gl [x,y,z,w]=1/\plb x y z=true/\∀p:Pt,hgt a b c d p=0->hgt x y z w p=0:=by
  have gp:=gl4 (d:=d) h;have g1:gl (low [a,b,c,d])=1:=jg9 (ns:=[a,b,c,d]) (by omega);have nz:¬(a / gl [a,b,c,d]=0/\b / gl [a,b,c,d]=0/\c / gl [a,b,c,d]=0):=fun z=>by
    have g:∀{x:Int},x∈[a,b,c,d]->x / gl [a,b,c,d]=0->x=0:=fun hx z=>xar fun q=>jfn (jaV hx) q z;exact h ⟨g (by simp) z.1,g (by simp) z.2.1,g (by simp) z.2.2⟩
  have el:low [a,b,c,d]=[a / gl [a,b,c,d],b / gl [a,b,c,d],c / gl [a,b,c,d],d / gl [a,b,c,d]]:=rfl;have ea:=xaM (jaV (ns:=[a,b,c,d]) (n:=a) (by simp));have eb:=xaM (jaV (ns:=[a,b,c,d]) (n:=b) (by simp));have ec:=xaM (jaV (ns:=[a,b,c,d]) (n:=c) (by simp));have ed:=xaM (jaV (ns:=[a,b,c,d]) (n:=d) (by simp));have s1:=sa.div (g:=gl [a,b,c,d]);have s2:=sb.div (g:=gl [a,b,c,d]);have s3:=sc.div (g:=gl [a,b,c,d]);have s4:=sd.div (g:=gl [a,b,c,d]);unfold pln;rw[el] at g1 |-
  generalize gl [a,b,c,d]=g at gp g1 nz ea eb ec ed s1 s2 s3 s4 |-
  generalize a / g=x at g1 nz ea s1 |-
  generalize b / g=y at g1 nz eb s2 |-
  generalize c / g=z at g1 nz ec s3 |-
  generalize d / g=w at g1 ed s4 |-
  have hz:∀p:Pt,hgt a b c d p=0->hgt x y z w p=0:=fun p hp=>by
    have e:hgt x y z w p*g=0:=by
      rw[<- hp,<- ea,<- eb,<- ec,<- ed];unfold hgt;grind
    rcases xah.mp e with q | q
    . exact q
    . omega
  show ∃x' y' z' w':Int,(if plb x y z=true then [x,y,z,w] else [-x,-y,-z,-w])=[x',y',z',w']/\_;cases eb:plb x y z with
  | true=>exact⟨x,y,z,w,if_pos rfl,s1,s2,s3,s4,g1,eb,hz⟩
  | false =>
    refine⟨-x,-y,-z,-w,if_neg (by decide),s1.neg,s2.neg,s3.neg,s4.neg,?_,jnj nz eb,fun p hp=>?_⟩
    . rw[<- g1]
      exact jl4 [x,y,z,w]
    . have e:=hz p hp
      have e2:hgt (-x) (-y) (-z) (-w) p=-hgt x y z w p:=by
        unfold hgt;grind
      rw[e2,e];rfl
inductive spPlaneOfi (vs:List V) (H:Hp) (Q:VK):Prop
 | mk (t:Addr) (rs:List Addr) (ps:List Pt) (_:vs=[.ref t]) (_:H t=some (.tup (rs.map V.ref))) (_:Sps H rs ps) (_:3<=ps.length) (_:¬jbn (pt ps 0) (pt ps 1) (pt ps 2)) (_:∀(g:Addr) (H':Hp),Same H H'->H' g=some (.tup ((pln (rgh (pt ps 0) (pt ps 1) (pt ps 2))).map V.int))->Q (.ref g) H')
def jb4:Sp:=fun vs H Q _=>spPlaneOfi vs H Q
theorem jiH (T:Tx K mg t1 t2) (F:At K mg "plane_of" jes ["board"] []) (dO:jak P w K mg base CX0 6 "plane_through" ["one","other","third"] [] jfu):jak P w K mg base CX0 7 "plane_of" ["board"] [] jb4:=by
 refine F.ok jfy (by walk_at "ar") (fun f cdv A outer s H vs Q E hr h=>?_);obtain⟨t,rs,ps,rfl,ht,hc,n3,na,q⟩:=h;have S:=jfy;refine⟨_,(jag (jan (jae dO hr.m rfl jao (jaa (jal jaq (pv 0) jab) (jaa (jal jaq (pv 0) jab) (jaa (jal jaq (pv 0) jab) jad jav) jav) jav)))),?_⟩;have kt:SqT K H t (rs.map V.ref):=SqT.of ht;obtain⟨a1,a2⟩:=hc.get (i:=0) (by omega);obtain⟨a3,a4⟩:=hc.get (i:=1) (by omega);obtain⟨a5,a6⟩:=hc.get (i:=2) (by omega);walk_at "rf";refine ixT kt (ja5 (j:=0) a1) (ixT kt (ja5 (j:=1) a3) (ixT kt (ja5 (j:=2) a5) ?_));exact⟨_,_,_,_,_,_,rfl,a2,a4,a6,na,q⟩
theorem jl5 {n:Int} (h:0<=n):0<=sgn n:=by
 unfold sgn;split
 ·decide
 ·split<;>omega
theorem joV {n:Int} (h:n<=0):sgn n<=0:=by
 unfold sgn;split
 ·omega
 ·split<;>omega
theorem joW {n:Int} (h:0<n):sgn n=1:=by
 unfold sgn;rw[if_pos h]
theorem jk9 {n:Int} (h:n<0):sgn n=-1:=by
 unfold sgn;rw[if_neg (by omega),if_pos h]
theorem joX {n:Int} (h:n=0):sgn n=0:=by rw[h];rfl
theorem jf6 {X:Cx} {K:PySem.W.Frag} (h:X.K=K):IxR X (fun x y H Q=>jlN K x y H Q\/joj K x y H Q):=h▸ix_lt
variable {Q:VK}
theorem jl6 {r:Addr} {i:Int} {v:V} (k:SqL K H r xs\/SqT K H r xs) (e:atI xs i=some v) (q:Q v H):jlN K (.ref r) (.int i) H Q\/joj K (.ref r) (.int i) H Q:=by
 rcases k with k | k
 ·exact .inl (ixL k e q)
 ·exact .inr (ixT k e q)
local macro_rules | `(tactic| walk_at "gl") => `(tactic| repeat (first | ((with_reducible apply L2.ixT); assumption; rfl) | ((with_reducible apply My.jl6); assumption; rfl) | ((with_reducible apply L2.ixL); assumption; rfl) | ((with_reducible apply And.intro); (walk_at "sd")) | walk_at "rf"))
structure Tri where
 x:Int
 y:Int
 z:Int
def Tri.bd (n:Nat) (v:Tri):Prop:=Bd n v.x/\Bd n v.y/\Bd n v.z
structure Sht where
 s:Tri
 w:Int
 c:Tri
 d:Tri
def Sht.u (S:Sht):Tri:=⟨S.c.y*S.d.z-S.c.z*S.d.y,S.c.z*S.d.x-S.c.x*S.d.z,S.c.x*S.d.y-S.c.y*S.d.x⟩
def Tri.nz (v:Tri):Prop:=¬(v.x=0/\v.y=0/\v.z=0)
def Box (H:Hp) (L:Addr):Prop:=∃m:Int,H L=some (.lst [.int m])
variable {g L sd:Addr}
theorem SameB.t (s:SameB L H H') (h:Box H L):SameT H H':=fun b xs hb=>by
 by_cases e:b=L
 ·obtain⟨m,hm⟩:=h;rw[e,hm] at hb;cases hb
 ·exact s b _ e hb
def Ix (ix:List Nat):Prop:=3<=ix.length/\ix.length<=8/\ix.Pairwise (· < ·)/\∀i∈ix,i<8
def rX (S:Sht) (v:Tri):Int:=S.s.x*v.z+S.w*(v.x*S.c.x+v.y*S.d.x)
def rY (S:Sht) (v:Tri):Int:=S.s.y*v.z+S.w*(v.x*S.c.y+v.y*S.d.y)
def rZ (S:Sht) (v:Tri):Int:=S.s.z*v.z+S.w*(v.x*S.c.z+v.y*S.d.z)
def rW (S:Sht) (v:Tri):Int:=S.w*v.z
def rG (S:Sht) (v:Tri):Int:=gl [rX S v,rY S v,rZ S v,rW S v]
def spt (S:Sht) (v:Tri):Pt:=⟨rX S v / rG S v,rY S v / rG S v,rZ S v / rG S v,rW S v / rG S v⟩
def Tri.pl (v:Tri):Prop:=1<=v.z
theorem Bd.div {i g:Int} (h:Bd n i):Bd n (i / g):=xaY (xba i g) h
local macro_rules | `(tactic| walk_at "gl") => `(tactic| repeat (first | ((with_reducible apply L2.ixT); assumption; rfl) | ((with_reducible apply My.jl6); assumption; rfl) | ((with_reducible apply L2.ixL); assumption; rfl) | ((with_reducible apply And.intro); (walk_at "sd")) | walk_at "rf"))
def pl4 (p:Pt):List Int:=[p.x,p.y,p.z,p.w]
theorem Sps.rds {rs:List Addr} (h:Sps H rs ps):RdsAll K H (rs.map V.ref) (tupD (ps.map pl4)):=by
 induction h with
 | nil=>exact .nil
 | cons h _ ih=>exact .cons (.tup (SqT.of h.1) (RdsAll.ints (pl4 _))) ih
theorem jfF:∀(ns:List Int) (d k m:Int),k ∣ m*d->(∀n∈ns,k ∣ m*n)->k ∣ m*G d ns
  | [],_,_,_,h,_=>h
  | n :: r, d, k, m, h, hn => by
    rw[jg8];refine jfF r _ k m ?_ fun n' h'=>hn n' (xag _ h');have h1:=xbz h (hn n xaS);rw[Int.gcd_mul_left,Int.natCast_mul] at h1;exact xbx h1 (Int.mul_dvd_mul (Int.natAbs_dvd.mpr (xcm m)) (xcm _))
theorem jl7 (p o u:Pt):jaG 0 p o u=ja3 p.y p.z p.w o.y o.z o.w u.y u.z u.w:=rfl
theorem jl8 (p o u:Pt):jaG 1 p o u=ja3 p.x p.z p.w o.x o.z o.w u.x u.z u.w:=rfl
theorem jl9 (p o u:Pt):jaG 2 p o u=ja3 p.x p.y p.w o.x o.y o.w u.x u.y u.w:=rfl
theorem joY (p o u:Pt):jaG 3 p o u=ja3 p.x p.y p.z o.x o.y o.z u.x u.y u.z:=rfl
def dt (a b c:Tri):Int:=ja3 a.x a.y a.z b.x b.y b.z c.x c.y c.z
theorem jeg {g1 g2 g3 b c z u v w:Int}:ja3 (g1*a) (g1*b) (g1*c) (g2*x) (g2*y) (g2*z) (g3*u) (g3*v) (g3*w)=ja3 a b c x y z u v w*(g1*g2*g3):=by
 unfold ja3;grind
theorem ja9 (Z:Sht) (v:Tri):rG Z v*(spt Z v).x=rX Z v/\rG Z v*(spt Z v).y=rY Z v/\rG Z v*(spt Z v).z=rZ Z v/\rG Z v*(spt Z v).w=rW Z v :=
 ⟨xbj (jaV (by simp)),xbj (jaV (by simp)),xbj (jaV (by simp)),xbj (jaV (by simp))⟩
def w3 (Z:Sht):Int:=Z.w*Z.w*Z.w
def ud (Z:Sht):Int:=Z.u.x*Z.s.x+Z.u.y*Z.s.y+Z.u.z*Z.s.z
theorem jjL (Z:Sht) (a b c:Tri):jaG 0 (spt Z a) (spt Z b) (spt Z c)*(rG Z a*rG Z b*rG Z c)=w3 Z*Z.u.x*dt a b c:=by
 obtain⟨a1,a2,a3,a4⟩:=ja9 Z a;obtain⟨b1,b2,b3,b4⟩:=ja9 Z b;obtain⟨c1,c2,c3,c4⟩:=ja9 Z c;rw[jl7,<- jeg,a2,a3,a4,b2,b3,b4,c2,c3,c4];unfold w3 dt ja3 rY rZ rW Sht.u;grind
theorem jjM (Z:Sht) (a b c:Tri):-jaG 1 (spt Z a) (spt Z b) (spt Z c)*(rG Z a*rG Z b*rG Z c)=w3 Z*Z.u.y*dt a b c:=by
 obtain⟨a1,a2,a3,a4⟩:=ja9 Z a;obtain⟨b1,b2,b3,b4⟩:=ja9 Z b;obtain⟨c1,c2,c3,c4⟩:=ja9 Z c;rw[xbn,jl8,<- jeg,a1,a3,a4,b1,b3,b4,c1,c3,c4];unfold w3 dt ja3 rX rZ rW Sht.u;grind
theorem jjN (Z:Sht) (a b c:Tri):jaG 2 (spt Z a) (spt Z b) (spt Z c)*(rG Z a*rG Z b*rG Z c)=w3 Z*Z.u.z*dt a b c:=by
 obtain⟨a1,a2,a3,a4⟩:=ja9 Z a;obtain⟨b1,b2,b3,b4⟩:=ja9 Z b;obtain⟨c1,c2,c3,c4⟩:=ja9 Z c;rw[jl9,<- jeg,a1,a2,a4,b1,b2,b4,c1,c2,c4];unfold w3 dt ja3 rX rY rW Sht.u;grind
theorem joZ (Z:Sht) (a b c:Tri):jaG 3 (spt Z a) (spt Z b) (spt Z c)*(rG Z a*rG Z b*rG Z c)=Z.w*Z.w*ud Z*dt a b c:=by
 obtain⟨a1,a2,a3,a4⟩:=ja9 Z a;obtain⟨b1,b2,b3,b4⟩:=ja9 Z b;obtain⟨c1,c2,c3,c4⟩:=ja9 Z c;rw[joY,<- jeg,a1,a2,a3,b1,b2,b3,c1,c2,c3];unfold ud dt ja3 rX rY rZ Sht.u;grind
variable {Z Z1 Z2:Sht}
variable {v:Tri}
theorem jaY (hw:1<=Z.w) (hv:v.pl):0<rG Z v:=by
 have W1:0<rW Z v:=xab (by omega) (show 0<v.z by have:1<=v.z:=hv;omega);exact jco (n:=rW Z v) (by simp) (by omega)
theorem jo0 (hw:1<=Z.w):0<w3 Z:=xab (xab (by omega) (by omega)) (by omega)
theorem jfG {a b c:Tri} (hw:1<=Z.w) (nz:Z.u.nz) (hd:dt a b c≠0):¬jbn (spt Z a) (spt Z b) (spt Z c):=fun ⟨h0,h1,h2⟩=>by
 have e0:=jjL Z a b c;have e1:=jjM Z a b c;have e2:=jjN Z a b c;rw[h0,xaJ] at e0;rw[h1,Int.neg_zero,xaJ] at e1;rw[h2,xaJ] at e2;have w0:=jo0 hw;have c:∀{i:Int},0=w3 Z*i*dt a b c->i=0:=fun {i} e=>by
  rcases xah.mp e.symm with q | q
  ·rcases xah.mp q with r | r
   ·omega
   ·exact r
  ·exact absurd q hd
 exact nz ⟨c e0,c e1,c e2⟩
theorem ix_lt {ix:List Nat} (h:Ix ix) {a:Nat} (ha:a<ix.length):ix.getD a 0<8:=by
 rw[xac,xad ha];exact h.2.2.2 _ (xaw ha)
theorem jjO (hk:0<k) (ns:List Int):gl (ns.map (k*·))=k*gl ns:=by
 refine Int.dvd_antisymm (jbq _) (xaf (by omega) (jbq _)) ?_ ?_
 ·exact jfF ns 0 _ k (by rw[xaj];exact Int.dvd_zero _) fun n hn=>jaV (xai.mpr ⟨n,hn,rfl⟩)
 ·refine jfZ fun n hn=>?_;obtain⟨m,hm,rfl⟩:=xai.mp hn;exact Int.mul_dvd_mul (xcm k) (jaV hm)
theorem jhH (hk:0<k) (ns:List Int):low (ns.map (k*·))=low ns:=by
 unfold low;rw[jjO hk,xbK];refine xb0 fun n _=>?_;exact Int.mul_ediv_mul_of_pos _ _ hk
theorem jih {l:List Pt} {f:Nat} (hf:f<l.length) (hi:i<l.length):pt (rot f l) i=pt l ((f+i) % l.length):=by
 unfold pt rot;rw[xac,xac];by_cases c:f+i<l.length
 ·rw[xal c,xa3 (by rw[xaG];omega),List.getElem?_drop]
 ·have e:(f+i) % l.length=f+i-l.length:=by
   rw[Nat.mod_eq_sub_mod (by omega)];exact xal (by omega)
  rw[e,xaP (by rw[xaG];omega),xaG,List.getElem?_take,if_pos (by omega)]
  congr 2
  omega
theorem jaD {l:List Pt} (h:i<l.length):pt l i∈l:=by
 unfold pt;rw[xac,xad h];exact xaw h
theorem jbQ {l:List Pt} (h:p∈l):∃i,i<l.length/\pt l i=p:=by
 obtain⟨i,hi,e⟩:=xbv.mp h;refine⟨i,hi,?_⟩;unfold pt;rw[xac,xad hi];exact e
theorem jiI {g:Int} (hg:0<g) (e:g*x=y):(0<=y->0<=x)/\(0<y->0<x):=by
 constructor
 ·intro h;apply xar;intro n;have:=xak hg (show x<0 by omega);omega
 ·intro h;apply xar;intro n;have:=xax (show 0<=g by omega) (show x<=0 by omega);omega
theorem SameB.fresh {H3:Hp} (s0:Same H H3) (h:H L=none) (s:SameB L H3 H'):Same H H':=fun b o hb=>s b o (ja0 hb h) (s0 b o hb)
theorem jhf (hw:1<=Z.w) (hv:v.pl):1<=(spt Z v).w:=by
 have W1:0<rW Z v:=xab (by omega) (show 0<v.z by have:1<=v.z:=hv;omega);exact (jiI (jaY hw hv) (ja9 Z v).2.2.2).2 W1
theorem Box.keep (h:Box H L) (s:Same H H'):Box H' L:=by
 obtain⟨m,h⟩:=h;exact⟨m,s _ _ h⟩
theorem jhI (h:x.natAbs<=y.natAbs) (hy:Bd n y):Bd n x:=xaY h hy
theorem jbC {rs:List Addr} (h:i<rs.length):(rs.map V.ref)[i]?=some (.ref (ad rs i)):=by
 unfold ad;rw[xat,xac,xad h];rfl
theorem jfH:∀{ys:List V},(∀(i:Nat) (y:V),ys[i]?=some y->∃e:Addr,y=.ref e)->∃es:List Addr,ys=es.map V.ref
  | [],_=>⟨[],rfl⟩
  | y :: ys, h => by
    obtain⟨e,rfl⟩:=h 0 y rfl;obtain⟨es,rfl⟩:=jfH (ys:=ys) fun i y hy=>h (i+1) y hy;exact⟨e::es,rfl⟩
inductive spEdgesi (vs:List V) (H:Hp) (Q:VK):Prop
 | mk (b:Addr) (rs:List Addr) (_:vs=[.ref b]) (_:H b=some (.tup (rs.map V.ref))) (_:3<=rs.length) (_:rs.length<=17) (_:∀(L:Addr) (H':Hp) (es:List Addr),Same H H'->H' L=some (.lst (es.map V.ref))->es.length=rs.length->(∀i,i<rs.length->H' (ad es i)=some (.tup [.ref (ad rs ((i+(rs.length-1)) % rs.length)),.ref (ad rs i)]))->Q (.ref L) H')
def jfI:Sp:=fun vs H Q _=>spEdgesi vs H Q
theorem jla (T:Tx K mg t1 t2) (F:At K mg "edges_of" jer ["board"] []):jak P w K mg base CX0 2 "edges_of" ["board"] [] jfI:=by
 refine F.ok jfx (by walk_at "ar") (fun f cdv A outer s H vs Q E hr h=>?_);obtain⟨b,rs,rfl,hb,n3,n8,q⟩:=h;have S:=jfx;refine⟨_,(jag (jan (jaF rfl (N':=["k","board"]) (ix:=[0]) (by walk_at "cs") (jaH rfl T.m_range (jaa (jaz jaQ rfl T.m_len PySem.boot_len (jaa (pv 0) jad jac)) jad jaB)) (fun _ _ _ _=>jau (i:=0) (show (["k","board"]:List Str).Nodup from by decide +kernel) rfl (Or.inl rfl)) (fun _ _ _ _=>jaK) (fun _ _ _ _=>(ja4 (jaa (jal (jaZ (K:=K) rfl) (pv 1) (jap jaW (pv 0) jab)) (jaa (jal (jaZ (K:=K) rfl) (pv 1) (pv 0)) jad jav) jav)))))),?_⟩;have lm:(rs.map V.ref).length=rs.length:=xaa _;have kb:SqT K H b (rs.map V.ref):=SqT.of hb;walk_at "rf";refine⟨_,.inr kb,by omega,by omega,fun acc hacc=>?_⟩;have e0:(((rs.map V.ref).length:Int)).toNat=rs.length:=by omega
 rw[e0];refine joH (n:=rs.length) (fun i y H'=>∃e:Addr,y=.ref e/\H' e=some (.tup [.ref (ad rs ((i+(rs.length-1)) % rs.length)),.ref (ad rs i)])) (fun i y J J' ⟨e,h1,h2⟩ st=>⟨e,h1,st _ _ h2⟩) (by omega) hacc ?_ ?_
 ·intro i H3 R hi s4 hR;have kb3:=s4.tup kb;have g1:(rs.map V.ref)[i]?=some (.ref (ad rs i)):=jbC hi;have g2:atI (rs.map V.ref) (0+(i:Int)-1)=some (.ref (ad rs ((i+(rs.length-1)) % rs.length))):=by
   by_cases i0:i=0
   ·subst i0;have e1:(0+(rs.length-1)) % rs.length=rs.length-1:=by rw[xbE];exact xal (by omega)
    rw[e1];exact jgy (n:=rs.length-1) (by omega) (jbC (by omega))
   ·have e1:(i+(rs.length-1)) % rs.length=i-1:=by
     have z:i+(rs.length-1)=i-1+rs.length:=by omega
     rw[z,xbg];exact xal (by omega)
    have e2:(0+(i:Int)-1)=((i-1:Nat):Int):=by omega
    rw[e1,e2];exact ja5 (jbC (by omega))
  walk_at "rf";refine ixT kb3 g2 ?_;refine ixT kb3 (by rw[xce];exact ja5 g1) ?_;exact⟨by decide,fun e he=>hR _ _ (Same.new he _) ⟨e,rfl,jam⟩⟩
 intro ys H3 s4 e4 l4 p4;obtain⟨es,rfl⟩:∃es:List Addr,ys=es.map V.ref:=jfH fun i y hy=>let ⟨e,h1,_⟩:=p4 i y hy;⟨e,h1⟩;rw[xaa] at l4;refine q acc H3 es s4 e4 l4 fun i hi=>?_;obtain⟨e,h1,h2⟩:=p4 i _ (jbC (by omega));cases h1;exact h2
def ab (n:Int):Int:=if n<0 then -n else n
theorem jlb (T:Tx K mg t1 t2) (F:At K mg "_law_whole" jc7 ["found"] []):jak P w K mg base CX0 2 "_law_whole" ["found"] [] jjA:=by
 refine F.ok jed (by walk_at "ar") (fun f cdv A outer s H vs Q E hr h=>?_);obtain⟨n,rfl,q⟩:=h;have S:=jed;refine⟨_,(jag (jan (jgP (jaz jct rfl T.m_isinstance boot_isinstance (jaa (pv 0) (jaa (jgk (v:=.ty "int") rfl T.m_int boot_int rfl) jad jac) jac)) (jhZ (jou (jaz jct rfl T.m_isinstance boot_isinstance (jaa (pv 0) (jaa (jgk (v:=.ty "bool") rfl T.m_bool boot_bool rfl) jad jac) jac))))))),?_⟩;walk_at "rd";exact⟨_,.int n,_,rfl,iteT ⟨_,.int n,_,rfl,q⟩⟩
theorem ix1:∀n,n<18->∀a,a<n->∀f,f<n->∀i,i<n->(a+(f+i) % n) % n=((a+f) % n+i) % n/\(a+(n-(f+i) % n)) % n=((a+(n-f)) % n+(n-i)) % n:=by decide +kernel
theorem ix2:∀n,n<18->∀a,a<n->∀i,i<n->(a+(n-i) % n) % n=(a+(n-i)) % n/\(a+(n-(n-i) % n)) % n=(a+i) % n:=by decide +kernel
theorem ix3:∀n,n<18->∀a,a<n->∀i,i<n->(a+(n-1-i)) % n=((a+(n-1)) % n+(n-i)) % n/\(a+(n-(n-1-i))) % n=((a+1) % n+i) % n:=by decide +kernel
theorem ix4:∀n,n<18->∀a,a<n->∀i,i<n->(a+(i+(n-a)) % n) % n=i/\(a+(n-(a+(n-i)) % n)) % n=i:=by decide +kernel
def Dih (ps qs:List Pt):Prop:=qs.length=ps.length/\∃a,a<ps.length/\((∀i,i<ps.length->pt qs i=pt ps ((a+i) % ps.length))\/(∀i,i<ps.length->pt qs i=pt ps ((a+(ps.length-i)) % ps.length)))
theorem Dih.refl (h:3<=ps.length):Dih ps ps:=⟨rfl,0,by omega,.inl fun i hi=>by rw[xbE,xal hi]⟩
theorem Dih.rot (d:Dih ps qs) (n8:ps.length<=17) {f:Nat} (hf:f<ps.length):Dih ps (rot f qs):=by
 obtain⟨hl,a,ha,d⟩:=d;have rp:∀i,i<ps.length->pt (My.rot f qs) i=pt qs ((f+i) % ps.length):=fun i hi=>by rw[jih (by omega) (by omega),hl]
 have m:∀i,(f+i) % ps.length<ps.length:=fun i=>xaz _ (by omega);refine⟨by rw[jhG (by omega),hl],?_⟩;rcases d with d | d
 ·refine⟨(a+f) % ps.length,xaz _ (by omega),.inl fun i hi=>?_⟩;rw[rp i hi,d _ (m i),(ix1 _ (by omega) a ha f hf i hi).1]
 ·refine⟨(a+(ps.length-f)) % ps.length,xaz _ (by omega),.inr fun i hi=>?_⟩;rw[rp i hi,d _ (m i),(ix1 _ (by omega) a ha f hf i hi).2]
theorem jnk {l:List Pt} (hi:i<l.length):pt (turn true l) i=pt l ((l.length-i) % l.length):=by
  match l,hi with
  | x :: r, hi =>
    have e:turn true (x::r)=x::r.reverse:=rfl;rw[e];cases i with
    | zero=>rw[Nat.sub_zero,xbc];rfl
    | succ j =>
      have hj:j<r.length:=by simpa using hi
      have e2:((x::r).length-(j+1)) % (x::r).length=r.length-1-j+1:=by
        rw[xaB,xal (by omega)];omega
      rw[e2];unfold pt;rw[xac,xac,List.getElem?_cons_succ,List.getElem?_cons_succ,xcd hj]
theorem jlc {l:List Pt} (b:Bool):(turn b l).length=l.length:=by
 unfold turn;cases b
 ·rfl
 ·rw[if_pos rfl,xao,xbl,xaT,xaG];omega
theorem Dih.turn (d:Dih ps qs) (n8:ps.length<=17) (b:Bool):Dih ps (turn b qs):=by
  cases b with
  | false=>exact d
  | true =>
    obtain⟨hl,a,ha,d⟩:=d;refine⟨by rw[jlc,hl],a,ha,?_⟩;have tp:∀i,i<ps.length->pt (My.turn true qs) i=pt qs ((ps.length-i) % ps.length):=fun i hi=>by rw[jnk (by omega),hl]
    have m:∀i,(ps.length-i) % ps.length<ps.length:=fun i=>xaz _ (by omega);rcases d with d | d
    . exact .inr fun i hi=>by rw[tp i hi,d _ (m i),(ix2 _ (by omega) a ha i hi).1]
    . exact .inl fun i hi=>by rw[tp i hi,d _ (m i),(ix2 _ (by omega) a ha i hi).2]
theorem jo1 {l:List Pt} (hi:i<l.length):pt l.reverse i=pt l (l.length-1-i):=by
 unfold pt;rw[xac,xac,xcd hi]
theorem Dih.rev (d:Dih ps qs) (n8:ps.length<=17):Dih ps qs.reverse:=by
 obtain⟨hl,a,ha,d⟩:=d;refine⟨by rw[xbl,hl],?_⟩;have tp:∀i,i<ps.length->pt qs.reverse i=pt qs (ps.length-1-i):=fun i hi=>by rw[jo1 (by omega),hl]
 rcases d with d | d
 ·exact⟨(a+(ps.length-1)) % ps.length,xaz _ (by omega),.inr fun i hi=>by rw[tp i hi,d _ (by omega),(ix3 _ (by omega) a ha i hi).1]⟩
 ·exact⟨(a+1) % ps.length,xaz _ (by omega),.inl fun i hi=>by rw[tp i hi,d _ (by omega),(ix3 _ (by omega) a ha i hi).2]⟩
theorem Dih.mem (d:Dih ps qs) (n8:ps.length<=17) :p∈qs↔p∈ps:=by
 obtain⟨hl,a,ha,d⟩:=d;constructor
 ·intro h;obtain⟨i,hi,rfl⟩:=jbQ h;rcases d with d | d
  ·rw[d i (by omega)];exact jaD (xaz _ (by omega))
  ·rw[d i (by omega)];exact jaD (xaz _ (by omega))
 ·intro h;obtain⟨i,hi,rfl⟩:=jbQ h;rcases d with d | d
  ·have z:=d ((i+(ps.length-a)) % ps.length) (xaz _ (by omega));rw[(ix4 _ (by omega) a ha i hi).1] at z;rw[<- z];exact jaD (by rw[hl];exact xaz _ (by omega))
  ·have z:=d ((a+(ps.length-i)) % ps.length) (xaz _ (by omega));rw[(ix4 _ (by omega) a ha i hi).2] at z;rw[<- z];exact jaD (by rw[hl];exact xaz _ (by omega))
theorem jo2 {b c u v w:Int} (hu:0<u) (hv:0<v) (hw:0<w) (h1:a*v<=b*u) (h2:b*w<=c*v):a*w<=c*u:=by
 have e1:=Int.mul_le_mul_of_nonneg_right h1 (show 0<=w by omega);have e2:=Int.mul_le_mul_of_nonneg_right h2 (show 0<=u by omega);refine Int.le_of_mul_le_mul_right (a:=v) ?_ hv;have z1:a*w*v=a*v*w:=by grind
 have z2:c*u*v=c*v*u:=by grind
 have z3:b*u*w=b*w*u:=by grind
 rw[z1,z2];omega
theorem par2 {b c d u v:Int} (hv:1<=v) (h1:a*v=b*u) (h2:c*v=d*u):a*d=c*b:=by
 refine Int.eq_of_mul_eq_mul_right (a:=v) (by omega) ?_;have e1:a*d*v=a*v*d:=by grind
 have e2:c*b*v=c*v*b:=by grind
 rw[e1,e2,h1,h2];grind
theorem jjP {o:Pt} (u:Pt) (ho:1<=o.w) (h1:p.x*o.w=o.x*p.w) (h2:p.y*o.w=o.y*p.w) (h3:p.z*o.w=o.z*p.w):jbn p o u:=by
 have a1:=par2 ho h2 h3;have a2:=par2 ho h1 h3;have a3:=par2 ho h1 h2;refine⟨?_,?_,?_⟩
 ·rw[jl7];unfold ja3;grind
 ·rw[jl8];unfold ja3;grind
 ·rw[jl9];unfold ja3;grind
theorem ja1 (h:3<=n):∃k,k<n/\j≠k/\i≠k:=by
 by_cases h0:i=0\/j=0
 ·by_cases h1:i=1\/j=1
  ·exact⟨2,by omega,by omega,by omega⟩
  ·exact⟨1,by omega,by omega,by omega⟩
 ·exact⟨0,by omega,by omega,by omega⟩
def sm (h:Nat->Int):Nat->Int
 | 0=>0
 | n+1=>sm h n+h n
def c2 (v v':Tri):Int:=v.x*v'.y-v.y*v'.x
def mi (p q:Pt):Int:=q.w / (Int.gcd p.w q.w:Nat)
def jbg (r:Pt):Pt:=if r.w<0 then ⟨-r.x / gl [-r.x,-r.y,-r.z,-r.w],-r.y / gl [-r.x,-r.y,-r.z,-r.w],-r.z / gl [-r.x,-r.y,-r.z,-r.w],-r.w / gl [-r.x,-r.y,-r.z,-r.w]⟩ else ⟨r.x / gl [r.x,r.y,r.z,r.w],r.y / gl [r.x,r.y,r.z,r.w],r.z / gl [r.x,r.y,r.z,r.w],r.w / gl [r.x,r.y,r.z,r.w]⟩
inductive spMSpi (vs:List V) (H:Hp) (Q:VK):Prop
 | mk (r:Pt) (_:vs=[.int r.x,.int r.y,.int r.z,.int r.w]) (_:(Small r.x/\Small r.y/\Small r.z/\Small r.w)) (_:(jbg r).sm) (_:r.w≠0) (_:∀(g:Addr) (H':Hp),Same H H'->Is4 H' g (jbg r)->Q (.ref g) H')
def jnl:Sp:=fun vs H Q _=>spMSpi vs H Q
theorem Sm2.neg {i:Int} (h:Sm2 i):Sm2 (-i):=by unfold Sm2 at *;rw[xbO];exact h
theorem Sm2.small {i:Int} (h:Sm2 i):Small i:=h.bd
theorem jo3 (T:Tx K mg t1 t2) (F:At K mg "made_spot" jbl ["x","y","z","w"] []) (dG:jak P w K mg base CX0 3 "in_lowest_terms" ["numbers"] [] jk1):jak P w K mg base CX0 4 "made_spot" ["x","y","z","w"] [] jnl:=by
 refine F.ok jeH (by walk_at "ar") (fun f cdv A outer s H vs Q E hr h=>?_);obtain⟨⟨x,y,z,w⟩,rfl,⟨sx,sy,sz,sw⟩,sn,w0,q⟩:=h;have S:=jeH;refine⟨_,(jaf (jaM (jat jcm (pv 3) jab (jaw _))
  jfa
  jax)
  (jaf (jaM (jat jdW (pv 3) jab (jaw _))
  (jag (jan (jae dG hr.m rfl jao (jaa (ja4 (jaa (jdV jca (pv 0)) (jaa (jdV jca (pv 1)) (jaa (jdV jca (pv 2)) (jaa (jdV jca (pv 3)) jad jgp) jgp) jgp) jgp)) jad jaE))))
  jax)
  (jag (jan (jae dG hr.m rfl jao (jaa (ja4 (jaa (pv 0) (jaa (pv 1) (jaa (pv 2) (jaa (pv 3) jad jac) jac) jac) jac)) jad jaE)))))),?_⟩
 walk_at "rf";have w0':¬w=0:=w0;rw[if_neg w0'];by_cases c:w<0
 ·rw[if_pos c];refine⟨by decide,fun p hp=>?_⟩;refine⟨p,[-x,-y,-z,-w],rfl,jam,by simp,mem4 (Small.neg sx) (Small.neg sy) (Small.neg sz) (Small.neg sw),?_,fun r H' h1 h2=>q r H' ((Same.new hp _).trans h1) ?_⟩
  ·have:=jco (ns:=[-x,-y,-z,-w]) (n:=-w) (by simp) (by omega);omega
  ·have e:jbg ⟨x,y,z,w⟩=_:=if_pos c;rw[e];rw[e] at sn;exact⟨h2,sn⟩
 ·rw[if_neg c];refine⟨by decide,fun p hp=>?_⟩;refine⟨p,[x,y,z,w],rfl,jam,by simp,mem4 sx sy sz sw,?_,fun r H' h1 h2=>q r H' ((Same.new hp _).trans h1) ?_⟩
  ·have:=jco (ns:=[x,y,z,w]) (n:=w) (by simp) (by omega);omega
  ·have e:jbg ⟨x,y,z,w⟩=_:=if_neg c;rw[e];rw[e] at sn;exact⟨h2,sn⟩
def Pt.bd (n:Nat) (p:Pt):Prop:=Bd n p.x/\Bd n p.y/\Bd n p.z/\Bd n p.w
theorem jf7 {m:Nat} {z v:Int} (hx:Bd n x) (hy:Bd n y) (hz:Bd n z) (hv:Bd n v) (hp:p.bd m):Bd (n+m+2) (hgt x y z v p):=by
 unfold hgt;have a:=Bd.mul hx hp.1;have b:=Bd.mul hy hp.2.1;have c:=Bd.mul hz hp.2.2.1;have d:=Bd.mul hv hp.2.2.2;rw[Int.add_sub_assoc];exact Bd.add (Bd.add a b) (Bd.sub c d)
def jcD (x y z v:Int) (p o:Pt):Pt:=⟨hgt x y z v o*p.x-hgt x y z v p*o.x,hgt x y z v o*p.y-hgt x y z v p*o.y,hgt x y z v o*p.z-hgt x y z v p*o.z,hgt x y z v o*p.w-hgt x y z v p*o.w⟩
theorem jnm {m:Nat} {z v:Int} {o:Pt} (hx:Bd n x) (hy:Bd n y) (hz:Bd n z) (hv:Bd n v) (hp:p.bd m) (ho:o.bd m):(jcD x y z v p o).bd (n+m+2+m+1):=by
 have h1:=jf7 hx hy hz hv hp;have h2:=jf7 hx hy hz hv ho;exact⟨Bd.sub (Bd.mul h2 hp.1) (Bd.mul h1 ho.1),Bd.sub (Bd.mul h2 hp.2.1) (Bd.mul h1 ho.2.1),Bd.sub (Bd.mul h2 hp.2.2.1) (Bd.mul h1 ho.2.2.1),Bd.sub (Bd.mul h2 hp.2.2.2) (Bd.mul h1 ho.2.2.2)⟩
inductive spMeti (vs:List V) (H:Hp) (Q:VK):Prop
 | mk (n m:Nat) (g r e:Addr) (x y z v:Int) (p o:Pt) (_:vs=[.ref g,.ref r,.ref e]) (_:n+2*m+3<=5900) (_:H g=some (.tup [.int x,.int y,.int z,.int v])) (_:Bd n x) (_:Bd n y) (_:Bd n z) (_:Bd n v) (_:Is4 H r p) (_:Is4 H e o) (_:p.bd m) (_:o.bd m) (_:(jcD x y z v p o).w≠0) (_:(jbg (jcD x y z v p o)).sm) (_:∀(t:Addr) (H':Hp),Same H H'->Is4 H' t (jbg (jcD x y z v p o))->Q (.ref t) H')
def jnn:Sp:=fun vs H Q _=>spMeti vs H Q
theorem jo4 (T:Tx K mg t1 t2) (F:At K mg "met_at" jgt ["plane","one","other"] []) (dI:jak P w K mg base CX0 2 "height_over" ["plane","spot"] [] spHt) (dZ:jak P w K mg base CX0 4 "made_spot" ["x","y","z","w"] [] jnl):jak P w K mg base CX0 5 "met_at" ["plane","one","other"] [] jnn:=by
 refine F.ok jhc (by walk_at "ar") (fun f cdv A outer s H vs Q E hr h=>?_);obtain⟨n,m,g,r,e,x,y,z,v,p,o,rfl,nm,hg,bx,by',bz,bv,hr',he,hp,ho,w0,sn,q⟩:=h;have S:=jhc;refine⟨_,(jaf (jar (i:=3) S.nd rfl (Or.inl rfl) (jae dI hr.m rfl jao (jaa (pv 0) (jaa (pv 2) jad jac) jac)))
  (jaf (jar (i:=4) S.nd rfl (Or.inl rfl) (jae dI hr.m rfl jao (jaa (pv 0) (jaa (pv 1) jad jac) jac)))
  (jag (jan (jae dZ hr.m rfl jao (jaa (jap jaW (jap jas (pv 3) (jal jaq (pv 1) jab)) (jap jas (pv 4) (jal jaq (pv 2) jab))) (jaa (jap jaW (jap jas (pv 3) (jal jaq (pv 1) jab)) (jap jas (pv 4) (jal jaq (pv 2) jab))) (jaa (jap jaW (jap jas (pv 3) (jal jaq (pv 1) jab)) (jap jas (pv 4) (jal jaq (pv 2) jab))) (jaa (jap jaW (jap jas (pv 3) (jal jaq (pv 1) jab)) (jap jas (pv 4) (jal jaq (pv 2) jab))) jad jbc) jbc) jbc) jbc)))))),?_⟩
 have kr:=hr'.sq (K:=K);have ke:=he.sq (K:=K);have sm:∀{i:Int},Bd n i->Small i:=fun h=>Bd.mono h (by omega);walk_at "rf";refine⟨g,e,x,y,z,v,o,rfl,hg,sm bx,sm by',sm bz,sm bv,he,?_⟩;refine⟨g,r,x,y,z,v,p,rfl,hg,sm bx,sm by',sm bz,sm bv,hr',?_⟩;have b1:=(jf7 bx by' bz bv hp).fit (by omega);have b2:=(jf7 bx by' bz bv ho).fit (by omega);have f1:=hp.1.fit (by omega);have f2:=hp.2.1.fit (by omega);have f3:=hp.2.2.1.fit (by omega);have f4:=hp.2.2.2.fit (by omega);have f5:=ho.1.fit (by omega);have f6:=ho.2.1.fit (by omega);have f7:=ho.2.2.1.fit (by omega);have f8:=ho.2.2.2.fit (by omega);try walk_at "rf"
 walk_at "gf";have rb:=jnm bx by' bz bv hp ho
 have s2:∀{i:Int},Bd (n+m+2+m+1) i->Small i:=fun h=>Bd.mono h (by omega);exact⟨jcD x y z v p o,rfl,⟨s2 rb.1,s2 rb.2.1,s2 rb.2.2.1,s2 rb.2.2.2⟩,sn,w0,q⟩
def jiP (x y z v:Int) (p o:Pt):List (Pt × Int):=(if sgn (hgt x y z v p)*sgn (hgt x y z v o)<0 then [(jbg (jcD x y z v p o),0)] else [])++[(o,sgn (hgt x y z v o))]
def sdd (x y z v:Int) (ps:List Pt) (n:Nat):List (Pt × Int):=(List.range n).flatMap fun i=>jiP x y z v (pt ps ((i+(ps.length-1)) % ps.length)) (pt ps i)
def Prs (H:Hp) (es:List Addr) (ds:List (Pt × Int)):Prop:=es.length=ds.length/\∀i,i<ds.length->∃r:Addr,H (ad es i)=some (.tup [.ref r,.int (ds.getD i (⟨0,0,0,0⟩,0)).2])/\Is4 H r (ds.getD i (⟨0,0,0,0⟩,0)).1
theorem jma {z v:Int} {o:Pt} (hp:1<=p.w) (ho:1<=o.w) (h:sgn (hgt x y z v p)*sgn (hgt x y z v o)<0):(jcD x y z v p o).w≠0:=by
 show hgt x y z v o*p.w-hgt x y z v p*o.w≠0;generalize hgt x y z v o=a at *
 generalize hgt x y z v p=b at *
 unfold sgn at h;by_cases c1:b>0
 ·rw[if_pos c1] at h;by_cases c2:a>0
  ·rw[if_pos c2] at h;omega
  ·rw[if_neg c2] at h;by_cases c3:a<0
   ·have h1:=xab c1 (show 0<o.w by omega);have h2:=xab (show 0 < -a by omega) (show 0<p.w by omega);rw[xbn] at h2;omega
   ·rw[if_neg c3] at h;omega
 ·rw[if_neg c1] at h;by_cases c3:b<0
  ·rw[if_pos c3] at h;by_cases c2:a>0
   ·have h1:=xab (show 0 < -b by omega) (show 0<o.w by omega);have h2:=xab c2 (show 0<p.w by omega);rw[xbn] at h1;omega
   ·rw[if_neg c2] at h;by_cases c4:a<0
    ·rw[if_pos c4] at h;omega
    ·rw[if_neg c4] at h;omega
  ·rw[if_neg c3] at h;omega
inductive spSidedi (vs:List V) (H:Hp) (Q:VK):Prop
 | mk (n m:Nat) (b g:Addr) (rs:List Addr) (ps:List Pt) (x y z v:Int) (_:vs=[.ref b,.ref g]) (_:n+2*m+3<=5900) (_:H b=some (.tup (rs.map V.ref))) (_:Sps H rs ps) (_:3<=ps.length) (_:ps.length<=17) (_:(∀i,i<ps.length->(pt ps i).bd m/\1<=(pt ps i).w)) (_:H g=some (.tup [.int x,.int y,.int z,.int v])) (_:Bd n x) (_:Bd n y) (_:Bd n z) (_:Bd n v) (_:(∀i,i<ps.length->sgn (hgt x y z v (pt ps ((i+(ps.length-1)) % ps.length)))*sgn (hgt x y z v (pt ps i))<0->(jbg (jcD x y z v (pt ps ((i+(ps.length-1)) % ps.length)) (pt ps i))).sm)) (_:∀(L:Addr) (H':Hp) (es:List Addr),Same H H'->H' L=some (.lst (es.map V.ref))->Prs H' es (sdd x y z v ps ps.length)->Q (.ref L) H')
def jjQ:Sp:=fun vs H Q _=>spSidedi vs H Q
theorem SameB.is4 {r:Addr} (s:SameB sd H J) (h:H sd=some (.lst xs)) (k:Is4 H r p):Is4 J r p:=⟨s _ _ (fun e=>by rw[<- e,k.1] at h;cases h) k.1,k.2⟩
theorem SameB.tup {r:Addr} (s:SameB sd H J) (h:H sd=some (.lst xs)) (k:H r=some (.tup ys)):J r=some (.tup ys):=s _ _ (fun e=>by rw[<- e,k] at h;cases h) k
theorem jgz (n:Int):Fit (sgn n):=by
 refine Bd.fit (n:=10) ?_;unfold sgn;split
 ·unfold Bd;decide
 ·split
  ·unfold Bd;decide
  ·unfold Bd;decide
variable {ds:List (Pt × Int)}
theorem Prs.keep {es:List Addr} (h:Prs H es ds) (s:Same H H'):Prs H' es ds:=⟨h.1,fun i hi=>by
 obtain⟨r,h1,h2⟩:=h.2 i hi;exact⟨r,s _ _ h1,h2.keep s⟩⟩
theorem Prs.snoc {p r:Addr} {os:List Addr} {s:Int} (h:Prs J os ds) (hsd:J sd=some (.lst xs)) (hp:J p=some (.tup [.ref r,.int s])) (hr:Is4 J r q):Prs (upd J sd (.lst ys)) (os++[p]) (ds++[(q,s)]):=by
 have ne:∀{a:Addr} {zs:List V},J a=some (.tup zs)->a≠sd:=fun h e=>by rw[e,hsd] at h;cases h
 refine⟨by rw[xao,xao,h.1];rfl,fun i hi=>?_⟩;rw[xao,xcb] at hi;by_cases c:i<ds.length
 ·obtain⟨r',h1,h2⟩:=h.2 i c;have e1:ad (os++[p]) i=ad os i:=by
   unfold ad;rw[xac,xac,xa3 (by rw[h.1];exact c)]
  have e2:(ds++[(q,s)]).getD i (⟨0,0,0,0⟩,0)=ds.getD i (⟨0,0,0,0⟩,0):=by
   rw[xac,xac,xa3 c]
  rw[e1,e2];exact⟨r',by rw[jaT (ne h1)];exact h1,by rw[jaT (ne h2.1)];exact h2.1,h2.2⟩
 ·have ei:i=ds.length:=by omega
  subst ei;have e1:ad (os++[p]) ds.length=p:=by
   unfold ad;rw[xac,xaP (by rw[h.1];exact xam _),h.1,Nat.sub_self];rfl
  have e2:(ds++[(q,s)]).getD ds.length (⟨0,0,0,0⟩,0)=(q,s):=by
   rw[xac,xaP (xam _),Nat.sub_self];rfl
  rw[e1,e2];exact⟨r,by rw[jaT (ne hp)];exact hp,by rw[jaT (ne hr.1)];exact hr.1,hr.2⟩
theorem jgA (x y z v:Int) (ps:List Pt) (i:Nat):sdd x y z v ps (i+1)=sdd x y z v ps i++jiP x y z v (pt ps ((i+(ps.length-1)) % ps.length)) (pt ps i):=by
 unfold sdd;rw[xaZ,xb1];simp
theorem jhJ (x y z v:Int) (ps:List Pt):∀n,(sdd x y z v ps n).length<=2*n
  | 0=>xam _
  | n + 1 => by
    have ih:=jhJ x y z v ps n;rw[jgA,xao];have:(jiP x y z v (pt ps ((n+(ps.length-1)) % ps.length)) (pt ps n)).length<=2:=by
      unfold jiP;split<;>simp
    omega
theorem jld (T:Tx K mg t1 t2) (F:At K mg "sided_round" jcy ["board","plane"] []) (dq:jak P w K mg base CX0 2 "edges_of" ["board"] [] jfI) (de:jak P w K mg base CX0 3 "side_of" ["plane","spot"] [] jd0) (De:jak P w K mg base CX0 5 "met_at" ["plane","one","other"] [] jnn):jak P w K mg base CX0 6 "sided_round" ["board","plane"] [] jjQ:=by
 refine F.ok jdy (by walk_at "ar") (fun f cdv A outer s H vs Q E hr h=>?_);obtain⟨n,m,b,g,rs,ps,x,y,z,v,rfl,nm,hb,hs,n3,n9,lo,hg,bx,by',bz,bv,cs,q⟩:=h;have S:=jdy;refine⟨_,(jaf (jar (i:=2) S.nd rfl (Or.inl rfl) (jaU jad))
  (jaf (jbb PassesOwn.never rfl (jba (jae dq hr.m rfl jao (jaa (pv 0) jad jac))) (jau (i:=3) S.nd rfl (Or.inl rfl))
  (jaf (jar (i:=4) S.nd rfl (Or.inl rfl) (jae de hr.m rfl jao (jaa (pv 1) (jaa (jal jaq (pv 3) jab) jad jav) jac)))
  (jaf (jar (i:=5) S.nd rfl (Or.inl rfl) (jae de hr.m rfl jao (jaa (pv 1) (jaa (jal jaq (pv 3) jab) jad jav) jac)))
  (jaf (jaM (jat jdW (jap jas (pv 4) (pv 5)) jab (jaw _))
  (jag (je9 (jmW PySem.F.plainAttrs_list PySem.F.slot_list_append PySem.F.type_list_append jfg (pv 2) (jaa (ja4 (jaa (jae De hr.m rfl jao (jaa (pv 1) (jaa (jal jaq (pv 3) jab) (jaa (jal jaq (pv 3) jab) jad jav) jav) jac)) (jaa jab jad jai) jaB)) jad jaE))))
  jax)
  (jag (je9 (jmW PySem.F.plainAttrs_list PySem.F.slot_list_append PySem.F.type_list_append jfg (pv 2) (jaa (ja4 (jaa (jal jaq (pv 3) jab) (jaa (pv 5) jad jac) jav)) jad jaE))))))))
  (jag (jan (pv 2))))),?_⟩
 have ln:=hs.len;have sm:∀{i:Int},Bd n i->Small i:=fun h=>Bd.mono h (by omega);walk_at "rf";refine⟨by decide,fun sd hsd=>?_⟩;refine jbJ hsd fun H1 s1 e1=>?_;refine⟨b,rs,rfl,s1 _ _ hb,by omega,by omega,fun L H2 es s2 e2 l2 p2=>?_⟩;try walk_at "rf"
 have e1':=s2 _ _ e1;have Lsd:L≠sd:=fun z=>by
  rw[z,e1'] at e2;injection e2 with e2
  injection e2 with e2
  have:=congrArg List.length e2;rw[xaa,l2,ln] at this;simp at this;omega
 have hs2:=(hs.keep s1.t).keep s2.t;refine⟨⟨_,SqL.of e2⟩,jcr (K:=K) (a:=L) (xs:=es.map V.ref) (fun i σ J=>SameB sd H2 J/\i<=ps.length/\∃(os:List Addr) (o3 o4 o5:Option V),σ=[some (.ref b),some (.ref g),some (.ref sd),o3,o4,o5]/\J sd=some (.lst (os.map V.ref))/\Prs J os (sdd x y z v ps i)) ⟨SameB.refl sd H2,xa6 _,[],none,none,none,rfl,e1',rfl,fun i hi=>absurd hi (xa9 _)⟩ (fun i σ J hi hP=>SqL.of (hP.1 _ _ Lsd e2)) ?_ ?_⟩
 ·rintro i ev σ J hi ⟨sJ,li,os,o3,o4,o5,rfl,eJ,hP⟩;have il:i<es.length:=by have:=(xae.mp hi).1;rw[xaa] at this;exact this
  rw[jbC il] at hi;cases hi;have pi:=p2 i (by omega);rw[ln] at pi;have hm:(i+(ps.length-1)) % ps.length<ps.length:=xaz _ (by omega);have q0:=SameB.is4 sJ e1' (hs2.get hm).2;have q1:=SameB.is4 sJ e1' (hs2.get (i:=i) (by omega)).2;have kE:=SqT.of (K:=K) (SameB.tup sJ e1' pi);have kg:=SameB.tup sJ e1' (s2 _ _ (s1 _ _ hg));obtain⟨l0,w0⟩:=lo _ hm;obtain⟨l1,w1⟩:=lo i (by omega);try walk_at "rf"
  refine ixT kE (i:=0) rfl ⟨g,_,x,y,z,v,_,rfl,kg,sm bx,sm by',sm bz,sm bv,q0,?_⟩;refine ixT kE (i:=1) rfl ⟨g,_,x,y,z,v,_,rfl,kg,sm bx,sm by',sm bz,sm bv,q1,?_⟩;try walk_at "rf"
  refine⟨jgz _,jgz _,?_⟩;have dl:=jhJ x y z v ps i;have ol:os.length<=34:=by rw[hP.1];omega
  by_cases c:sgn (hgt x y z v (pt ps ((i+(ps.length-1)) % ps.length)))*sgn (hgt x y z v (pt ps i))<0
  ·rw[if_pos c];refine⟨.inl ⟨_,SqL.of eJ⟩,ixT kE (i:=0) rfl (ixT kE (i:=1) rfl ⟨n,m,g,_,_,x,y,z,v,_,_,rfl,nm,kg,bx,by',bz,bv,q0,q1,l0,l1,jma w0 w1 c,cs i (by omega) c,fun t J1 s3 e3=>⟨by decide,fun p hp=>?_⟩⟩)⟩;refine jbJ hp fun J2 s4 e4=>?_;have S4:=s3.trans s4;have eJ2:=S4 _ _ eJ;refine⟨sd,_,_,rfl,rfl,eJ2,jaS (by rw[xaa];omega),?_⟩;have P5:=(hP.keep S4).snoc (ys:=os.map V.ref++[V.ref p]) eJ2 e4 (e3.keep s4);have e5:upd J2 sd (.lst (os.map V.ref++[V.ref p])) sd=some (.lst ((os++[p]).map V.ref)):=by rw[xaq];exact jam
   have s5:SameB sd J2 (upd J2 sd (.lst (os.map V.ref++[V.ref p]))):=fun b' o' nb hb'=>by rw[jaT nb];exact hb'
   generalize upd J2 sd (.lst (os.map V.ref++[V.ref p]))=J3 at P5 e5 s5 |-
   have S5:SameB sd J J3:=SameB.trans S4.b s5;have kE5:=SqT.of (K:=K) (SameB.tup S5 eJ (SameB.tup sJ e1' pi));have q15:=SameB.is4 S5 eJ q1;refine⟨.inl ⟨_,SqL.of e5⟩,ixT kE5 (i:=1) rfl ⟨by decide,fun p' hp'=>?_⟩⟩;refine jbJ hp' fun J4 s6 e6=>?_;have eJ4:=s6 _ _ e5;refine⟨sd,_,_,rfl,rfl,eJ4,jaS (by rw[xaa,xao,xcb];omega),?_⟩;have P7:=(P5.keep s6).snoc (ys:=(os++[p]).map V.ref++[V.ref p']) eJ4 e6 (q15.keep s6);refine⟨SameB.trans sJ (SameB.trans S5 (SameB.trans s6.b fun b' o' nb hb'=>by rw[jaT nb];exact hb')),by omega,os++[p]++[p'],by rw[jam];simp,?_⟩;have eS:sdd x y z v ps (i+1)=sdd x y z v ps i++[(jbg (jcD x y z v (pt ps ((i+(ps.length-1)) % ps.length)) (pt ps i)),0)]++[(pt ps i,sgn (hgt x y z v (pt ps i)))]:=by
    rw[jgA];unfold jiP;rw[if_pos c,xb9]
   rw[eS];exact P7
  ·rw[if_neg c];refine⟨.inl ⟨_,SqL.of eJ⟩,ixT kE (i:=1) rfl ⟨by decide,fun p' hp'=>?_⟩⟩;refine jbJ hp' fun J4 s6 e6=>?_;have eJ4:=s6 _ _ eJ;refine⟨sd,_,_,rfl,rfl,eJ4,jaS (by rw[xaa];omega),?_⟩;have P7:=(hP.keep s6).snoc (ys:=os.map V.ref++[V.ref p']) eJ4 e6 (q1.keep s6);refine⟨SameB.trans sJ (SameB.trans s6.b fun b' o' nb hb'=>by rw[jaT nb];exact hb'),by omega,os++[p'],by rw[xaq];exact jam,?_⟩;have eS:sdd x y z v ps (i+1)=sdd x y z v ps i++[(pt ps i,sgn (hgt x y z v (pt ps i)))]:=by
    rw[jgA];unfold jiP;rw[if_neg c,List.nil_append]
   rw[eS];exact P7
 ·rintro σ J ⟨sJ,li,os,o3,o4,o5,rfl,eJ,hP⟩;have el:(es.map V.ref).length=ps.length:=by rw[xaa,l2,ln]
  rw[el] at hP;exact⟨_,rfl,q sd J os (SameB.fresh s1 hsd (s2.b.trans sJ)) eJ hP⟩
variable {ρ σ:L2.St}
variable {te:TE}
theorem jle {a:Addr} {g:TG} {tt:TT} {acc:Addr} {Z:Hp->Prop} (f:Nat->V) (c:Nat->Bool) (hn:zs.length<1000) (hacc:H1 acc=none) (hz:SqL K H1 a zs)
  (hs:∀(i:Nat) (z:V) (v0:L2.St) (H3:Hp) (Rt:V->Hp->Prop) (Rn:Hp->Prop),zs[i]?=some z->v0.length=n->Same H1 H3->(c i=true->∀H4,Same H3 H4->Rt (f i) H4)->(c i=false->∀H4,Same H3 H4->Rn H4)->g z (v0++ρ) H3 fun σ2 H2=>(∃v:L2.St,v.length=n/\σ2=v++ρ)/\tt σ2 H2 fun b H3=>if b=true then te σ2 H3 Rt else Rn H3)
  (hd:∀H',Same H1 H'->H' acc=some (.lst (((List.range zs.length).filter c).map f))->Z H'):jdE (Itl K a) n ρ g tt te acc Z H1:=by
 refine⟨fun i m xs H=>(Same H1 H/\H acc=some (.lst xs)/\xs=((List.range i).filter c).map f)/\i<=zs.length/\m=zs.length-i,⟨zs.length,⟨Same.new hacc _,jam,rfl⟩,xa6 _,rfl⟩,?_⟩;rintro i m xs H ⟨⟨g1,g2,rfl⟩,hi,rfl⟩;have sq:=g1.seq hz;have hl:(((List.range i).filter c).map f).length<sizeLine:=jaS (by
  rw[xaa];have:=xcc c (List.range i);rw[xbf] at this;omega)
 by_cases hlt:i<zs.length
 ·have ez:zs[i]?=some zs[i]:=xad hlt;refine .inr ⟨⟨zs,zs[i],sq,ez⟩,(fun y H4=>y=f i/\c i=true/\Same H1 H4/\H4 acc=some (.lst (((List.range i).filter c).map f))),fun H3=>c i=false/\Same H1 H3/\H3 acc=some (.lst (((List.range i).filter c).map f)),?_,?_,?_⟩
  ·rintro y H4 ⟨rfl,ci,s4,a4⟩;refine⟨a4,hl,zs.length-(i+1),by omega,⟨Same.keepN s4 hacc _,jam,?_⟩,hlt,rfl⟩;rw[xaZ,xaD,xaq,xbr,if_pos ci];rfl
  ·rintro H3 ⟨ci,s3,a3⟩;refine⟨zs.length-(i+1),by omega,⟨s3,a3,?_⟩,hlt,rfl⟩;rw[xaZ,xaD,xaq,xbr,if_neg (by rw[ci];decide)];simp
  ·rintro v0 x H' l0 ⟨rfl,hx⟩;have ex:x=zs[i]:=by
    have z:=hx zs sq;rw[ez] at z;exact (Option.some.inj z).symm
   subst ex;exact hs i _ v0 H' _ _ ez l0 g1 (fun ci H4 s4=>⟨rfl,ci,g1.trans s4,s4 _ _ g2⟩) (fun ci H4 s4=>⟨ci,g1.trans s4,s4 _ _ g2⟩)
 ·have e:i=zs.length:=by omega
  subst e;exact .inl ⟨⟨zs,sq,xam _⟩,hd _ g1 g2⟩
def kLo (ds:List (Pt × Int)):List Pt:=(ds.filter fun d=>decide (d.2<=0)).map (·.1)
def kHi (ds:List (Pt × Int)):List Pt:=(ds.filter fun d=>decide (0<=d.2)).map (·.1)
inductive spCutNi (vs:List V) (H:Hp) (Q:VK):Prop
 | mk (n m:Nat) (b g:Addr) (rs:List Addr) (ps:List Pt) (x y z v:Int) (_:vs=[.ref b,.ref g]) (_:n+2*m+3<=5900) (_:H b=some (.tup (rs.map V.ref))) (_:Sps H rs ps) (_:3<=ps.length) (_:ps.length<=17) (_:(∀i,i<ps.length->(pt ps i).bd m/\1<=(pt ps i).w)) (_:H g=some (.tup [.int x,.int y,.int z,.int v])) (_:Bd n x) (_:Bd n y) (_:Bd n z) (_:Bd n v) (_:(∀i,i<ps.length->sgn (hgt x y z v (pt ps ((i+(ps.length-1)) % ps.length)))*sgn (hgt x y z v (pt ps i))<0->(jbg (jcD x y z v (pt ps ((i+(ps.length-1)) % ps.length)) (pt ps i))).sm)) (_:((∀i,i<ps.length->hgt x y z v (pt ps i)=0)/\(∀(t:Addr) (H':Hp),Same H H'->H' t=some (.tup [.non,.non])->Q (.ref t) H')\/(∀i,i<ps.length->0<=hgt x y z v (pt ps i))/\(∃i,i<ps.length/\0<hgt x y z v (pt ps i))/\(∀(t:Addr) (H':Hp),Same H H'->H' t=some (.tup [.non,.ref b])->Q (.ref t) H')\/(∀i,i<ps.length->hgt x y z v (pt ps i)<=0)/\(∃i,i<ps.length/\hgt x y z v (pt ps i)<0)/\(∀(t:Addr) (H':Hp),Same H H'->H' t=some (.tup [.ref b,.non])->Q (.ref t) H')\/(∃i,i<ps.length/\0<hgt x y z v (pt ps i))/\(∃i,i<ps.length/\hgt x y z v (pt ps i)<0)/\3<=(kLo (sdd x y z v ps ps.length)).length/\(kLo (sdd x y z v ps ps.length)).length<=17/\3<=(kHi (sdd x y z v ps ps.length)).length/\(kHi (sdd x y z v ps ps.length)).length<=17/\(∀(t:Addr) (H':Hp) (l1 l2:Addr) (r1 r2:List Addr),Same H H'->H' t=some (.tup [.ref l1,.ref l2])->H' l1=some (.tup (r1.map V.ref))->Sps H' r1 (frm (kLo (sdd x y z v ps ps.length)) (kLo (sdd x y z v ps ps.length)))->H' l2=some (.tup (r2.map V.ref))->Sps H' r2 (frm (kHi (sdd x y z v ps ps.length)) (kHi (sdd x y z v ps ps.length)))->Q (.ref t) H')))
def jjR:Sp:=fun vs H Q _=>spCutNi vs H Q
theorem jii {H:Hp} {ds:List (Pt × Int)} {r:Nat->Addr} (c:Int->Bool):∀n,n<=ds.length->(∀i,i<ds.length->Is4 H (r i) (ds.getD i (⟨0,0,0,0⟩,0)).1)->Sps H (((List.range n).filter fun i=>c (ds.getD i (⟨0,0,0,0⟩,0)).2).map r) (((ds.take n).filter fun d=>c d.2).map (·.1))
  | 0, _, _ => by
    rw[List.take_zero];exact .nil
  | n + 1, hn, h => by
    have ih:=jii c n (by omega) h;have eg:ds[n]?=some (ds.getD n (⟨0,0,0,0⟩,0)):=by
      rw[xac,xad (by omega)];rfl
    rw[xbI,eg,xaZ,xaD,xaq,xaD,xaq];refine ih.app ?_;show Sps H ((List.filter _ [n]).map r) ((List.filter _ [ds.getD n (⟨0,0,0,0⟩,0)]).map (·.1));cases cc:c (ds.getD n (⟨0,0,0,0⟩,0)).2 with
    | true =>
      rw[xbr,if_pos cc,xbr,if_pos cc];exact .cons (h n (by omega)) .nil
    | false =>
      rw[xbr,if_neg (by rw[cc];decide),xbr,if_neg (by rw[cc];decide)];exact .nil
theorem kept {acc:Addr} {es:List Addr} {tt:TT} {Z:Hp->Prop} (c:Int->Bool) (e2:H1 L=some (.lst (es.map V.ref))) (hP:Prs H1 es ds) (hl:ds.length<=100) (hacc:H1 acc=none)
    (ht:∀(r:Addr) (s:Int) (H:Hp) (R:Bool->Hp->Prop),R (c s) H->tt [some (.ref r),some (.int s)] H R)
    (hd:∀(H':Hp) (rs:List Addr),Same H1 H'->H' acc=some (.lst (rs.map V.ref))->Sps H' rs ((ds.filter fun d=>c d.2).map (·.1))->Z H'):jdE (Itl K L) 2 [] (jmL K 2 (jht (jbt 0) (jht (jbt 1) joh))) tt (jeE 0) acc Z H1:=by
  obtain⟨r,hr⟩:∃r:Nat->Addr,∀i,i<ds.length->H1 (ad es i)=some (.tup [.ref (r i),.int (ds.getD i (⟨0,0,0,0⟩,0)).2])/\Is4 H1 (r i) (ds.getD i (⟨0,0,0,0⟩,0)).1:=⟨fun i=>if h:i<ds.length then (hP.2 i h).choose else 0,fun i hi=>by simp only[dif_pos hi];exact (hP.2 i hi).choose_spec⟩;refine jle (fun i=>V.ref (r i)) (fun i=>c (ds.getD i (⟨0,0,0,0⟩,0)).2) (by rw[xaa,hP.1];omega) hacc (SqL.of e2) (fun i z v0 H3 Rt Rn hz l0 s3 ht' hn'=>?_) (fun H' s' e'=>?_)
  . have il:i < es.length:=by have:=(xae.mp hz).1; rw[xaa] at this; exact this
    rw[jbC il] at hz;cases hz;obtain⟨h1,h2⟩:=hr i (by rw[<- hP.1];exact il)
    match v0,l0 with
    | [u, v], _ =>
      refine⟨_,_,rfl,SqT.of (s3 _ _ h1),rfl,_,_,rfl,_,_,rfl,rfl,?_⟩;refine⟨⟨[some (V.ref (r i)),some (V.int (ds.getD i (⟨0,0,0,0⟩,0)).2)],rfl,rfl⟩,ht (r i) _ H3 _ ?_⟩;cases cc:c (ds.getD i (⟨0,0,0,0⟩,0)).2 with
      | true =>
        rw[if_pos rfl];exact⟨_,rfl,ht' cc H3 (Same.refl _)⟩
      | false =>
        rw[if_neg (by decide)];exact hn' cc H3 (Same.refl _)
  . rw[xaa,hP.1] at e'
    have sp:=jii (H:=H') (r:=r) c ds.length (xam _) fun i hi=>(hr i hi).2.keep s';rw[xbD] at sp;exact hd H' _ s' (by rw[xbK];exact e') sp
theorem jno (T:Tx K mg t1 t2) (F:At K mg "cut_by" jgv ["board","plane"] []) (de:jak P w K mg base CX0 3 "side_of" ["plane","spot"] [] jd0) (Dy:jak P w K mg base CX0 6 "sided_round" ["board","plane"] [] jjQ) (Dn:jak P w K mg base CX0 3 "formed" ["corners"] [] jie):jak P w K mg base CX0 7 "cut_by" ["board","plane"] [] jjR:=by
 refine F.ok jhe (by walk_at "ar") (fun f cdv A outer s H vs Q E hr h=>?_);obtain⟨n,m,b,g,rs,ps,x,y,z,v,rfl,nm,hb,hc,n3,n8,lo,hg,bx,by',bz,bv,cs,h⟩:=h;have sx:Small x:=Bd.mono bx (by omega);have sy:Small y:=Bd.mono by' (by omega)
 have sz:Small z:=Bd.mono bz (by omega);have sv:Small v:=Bd.mono bv (by omega);have S:=jhe;refine⟨_,(jaf (jbV (i:=2) rfl S.nd rfl rfl (N':=["corner","plane"]) (ix:=[1]) (by walk_at "cs") (jbT (pv 0)) (fun _ _ _ _=>jau (i:=0) (show (["corner","plane"]:List Str).Nodup from by decide +kernel) rfl (Or.inl rfl)) (fun _ _ _ _=>jaK) (fun _ _ _ _=>(jae de hr.m rfl jao (jaa (pv 1) (jaa (pv 0) jad jac) jac))))
  (jaf (jaM (PW.pt (jhY (jat jcm (jaz (jcV rfl) rfl T.m_min boot_min (jaa (pv 2) jad jac)) jab (jaw _)) (jhq (jat jcm (jaz (jfj rfl) rfl T.m_max boot_max (jaa (pv 2) jad jac)) jab (jaw _)))))
  (jag (jan (ja4 (jaa jcG (jaa jcG jad jai) jai))))
  jax)
  (jaf (jaM (jat jmQ (jaz (jcV rfl) rfl T.m_min boot_min (jaa (pv 2) jad jac)) jab (jaw _))
  (jag (jan (ja4 (jaa jcG (jaa (pv 0) jad jac) jai))))
  jax)
  (jaf (jaM (jat jkM (jaz (jfj rfl) rfl T.m_max boot_max (jaa (pv 2) jad jac)) jab (jaw _))
  (jag (jan (ja4 (jaa (pv 0) (jaa jcG jad jai) jac))))
  jax)
  (jaf (jar (i:=3) S.nd rfl (Or.inl rfl) (jae Dy hr.m rfl jao (jaa (pv 0) (jaa (pv 1) jad jac) jac)))
  (jaf (jar (i:=4) S.nd rfl (Or.inl rfl) (jae Dn hr.m rfl jao (jaa (jfm rfl (N':=["spot","side"]) (ix:=[]) (xs0:=["spot","side"]) (by walk_at "cs") (jba (pv 3)) (fun _ _ _ _=>jhz (K:=K) (n:=2) rfl rfl (jbx (jau (i:=0) (show (["spot","side"]:List Str).Nodup from by decide +kernel) rfl (Or.inl rfl)) (jbx (jau (i:=1) (show (["spot","side"]:List Str).Nodup from by decide +kernel) rfl (Or.inl rfl)) jfb))) (fun _ _ _ _=>(jgm (jat jkM (pv 1) jab (jaw _)))) (fun _ _ _ _=>(pv 0))) jad jcn)))
  (jaf (jar (i:=5) S.nd rfl (Or.inl rfl) (jae Dn hr.m rfl jao (jaa (jfm rfl (N':=["spot","side"]) (ix:=[]) (xs0:=["spot","side"]) (by walk_at "cs") (jba (pv 3)) (fun _ _ _ _=>jhz (K:=K) (n:=2) rfl rfl (jbx (jau (i:=0) (show (["spot","side"]:List Str).Nodup from by decide +kernel) rfl (Or.inl rfl)) (jbx (jau (i:=1) (show (["spot","side"]:List Str).Nodup from by decide +kernel) rfl (Or.inl rfl)) jfb))) (fun _ _ _ _=>(jgm (jat jmQ (pv 1) jab (jaw _)))) (fun _ _ _ _=>(pv 0))) jad jcn)))
  (jag (jan (ja4 (jaa (pv 4) (jaa (pv 5) jad jac) jac))))))))))),?_⟩
 have ln:=hc.len;have lm:(rs.map V.ref).length=ps.length:=by rw[xaa,ln]
 have kb:SqT K H b (rs.map V.ref):=SqT.of hb;walk_at "rf";refine⟨⟨_,kb⟩,fun acc hacc=>?_⟩;refine jlU (zs:=rs.map V.ref) (fun i y' _=>y'=.int (sgn (hgt x y z v (pt ps i)))) (fun _ _ _ _ h _=>h) (by omega) hacc kb ?_ ?_
 ·intro i r H3 R hi s3 hR;have hlt:i<ps.length:=by have:=(xae.mp hi).1;omega
  obtain⟨b1,b2⟩:=(hc.keep s3.t).get hlt;rw[b1] at hi;cases hi;walk_at "rf";exact⟨g,_,x,y,z,v,_,rfl,s3 _ _ hg,sx,sy,sz,sv,b2,hR _ _ (Same.refl _) rfl⟩
 intro ys H1 s1 e1 l1 p1;obtain⟨ms,rfl⟩:=jnd fun i y' hy=>⟨_,p1 i y' hy⟩;rw[xaa,lm] at l1;have gm:∀{i:Nat},i<ps.length->ms[i]?=some (sgn (hgt x y z v (pt ps i))):=fun {i} hi=>by
  have e:ms[i]?=some ms[i]:=xad (by omega);have q:=p1 i (.int ms[i]) (by rw[xat,e];rfl);injection q with q
  rw[e,q]
 have mem:∀{m:Int},m∈ms->∃i,i<ps.length/\m=sgn (hgt x y z v (pt ps i)):=fun {m} hm=>by
  obtain⟨i,hi,rfl⟩:=xbv.mp hm;have z:=gm (i:=i) (by omega);rw[xad hi] at z;exact⟨i,by omega,Option.some.inj z⟩
 have mem2:∀{i:Nat},i<ps.length->sgn (hgt x y z v (pt ps i))∈ms:=fun hi=>xbi (gm hi);have ne:ms≠[]:=fun e=>by rw[e] at l1;simp at l1;omega
 have k1:SqL K H1 acc (ms.map V.int):=SqL.of e1;try walk_at "rf"
 refine⟨_,k1,ne,fun mi hmi lmi=>?_⟩;obtain⟨i1,hi1,ei1⟩:=mem hmi;rcases h with ⟨h0,q⟩ | ⟨h0,⟨j,hj,jp⟩,q⟩ | ⟨h0,⟨j,hj,jp⟩,q⟩ | ⟨⟨k,hk,kp⟩,⟨j,hj,jp⟩,a3,a9,b3,b9,q⟩
 ·have z1:mi=0:=by rw[ei1,joX (h0 i1 hi1)]
  rw[if_pos z1];refine⟨_,k1,ne,fun ma hma lma=>?_⟩;obtain⟨i2,hi2,ei2⟩:=mem hma;have z2:ma=0:=by rw[ei2,joX (h0 i2 hi2)]
  rw[if_pos z2];exact⟨by decide,fun t ht=>q t _ (s1.trans (Same.new ht _)) jam⟩
 ·have z1:0<=mi:=by rw[ei1];exact jl5 (h0 i1 hi1)
  have fin:2<=sizeLine/\∀p:Addr,H1 p=none->Q (.ref p) (upd H1 p (.tup [.non,.ref b])):=⟨by decide,fun t ht=>q t _ (s1.trans (Same.new ht _)) jam⟩;have nn:∀{m:Int},m∈ms->0<=m:=fun hm=>by
   obtain⟨i,hi,e⟩:=mem hm;rw[e];exact jl5 (h0 i hi)
  by_cases z:mi=0
  ·rw[if_pos z];refine⟨_,k1,ne,fun ma hma lma=>?_⟩;have m1:=lma _ (mem2 hj);rw[joW jp] at m1;rw[if_neg (by omega)];refine⟨_,k1,ne,fun m2 hm2 lm2=>?_⟩;rw[if_pos (nn hm2)];exact fin
  ·rw[if_neg z];refine⟨_,k1,ne,fun m2 hm2 lm2=>?_⟩;rw[if_pos (nn hm2)];exact fin
 ·have m1:=lmi _ (mem2 hj);rw[jk9 jp] at m1;rw[if_neg (by omega)];refine⟨_,k1,ne,fun m2 hm2 lm2=>?_⟩;have m3:=lm2 _ (mem2 hj);rw[jk9 jp] at m3;rw[if_neg (by omega)];refine⟨_,k1,ne,fun ma hma lma=>?_⟩;obtain⟨i2,hi2,ei2⟩:=mem hma;have z2:ma<=0:=by rw[ei2];exact joV (h0 i2 hi2)
  rw[if_pos z2];exact⟨by decide,fun t ht=>q t _ (s1.trans (Same.new ht _)) jam⟩
 ·have m1:=lmi _ (mem2 hj);rw[jk9 jp] at m1;rw[if_neg (by omega)];refine⟨_,k1,ne,fun m2 hm2 lm2=>?_⟩;have m3:=lm2 _ (mem2 hj);rw[jk9 jp] at m3;rw[if_neg (by omega)];refine⟨_,k1,ne,fun ma hma lma=>?_⟩;have m4:=lma _ (mem2 hk);rw[joW kp] at m4;rw[if_neg (by omega)];refine⟨n,m,b,g,rs,ps,x,y,z,v,rfl,nm,s1 _ _ hb,hc.keep s1.t,n3,n8,lo,s1 _ _ hg,bx,by',bz,bv,cs,fun L H2 es s2 e2 hP=>?_⟩;have dl:=jhJ x y z v ps ps.length;refine⟨L,rfl,⟨_,SqL.of e2⟩,fun acc hacc=>kept (fun s=>decide (s<=0)) e2 hP (by omega) hacc (fun r s H R h=>?_) fun H3 r1 s3 e3 p3=>?_⟩
  ·walk_at "rf";exact h
  refine⟨acc,r1,kLo (sdd x y z v ps ps.length),rfl,⟨e3,p3⟩,a3,a9,fun t1 H4 s4 e4=>?_⟩;have S4:=s3.trans s4;refine⟨L,rfl,⟨_,SqL.of (S4 _ _ e2)⟩,fun acc2 hacc2=>kept (fun s=>decide (0<=s)) (S4 _ _ e2) (hP.keep S4) (by omega) hacc2 (fun r s H R h=>?_) fun H5 r2 s5 e5 p5=>?_⟩
  ·walk_at "rf";exact h
  refine⟨acc2,r2,kHi (sdd x y z v ps ps.length),rfl,⟨e5,p5⟩,b3,b9,fun t2 H6 s6 e6=>⟨by decide,fun t ht=>?_⟩⟩;have s7:=Same.new ht (.tup [V.ref t1,V.ref t2]);have S6:=s4.trans (s5.trans (s6.trans s7));exact q t _ t1 t2 _ _ (s1.trans (s2.trans (S4.trans (s5.trans (s6.trans s7))))) jam ((s5.trans (s6.trans s7)) _ _ e4) (((p3.rot _).turn _).keep S6.t) (s7 _ _ e6) (((p5.rot _).turn _).keep (s6.trans s7).t)
inductive RR {α:Type}:List α->List α->Prop
 | refl (l:List α):RR l l
 | rot {l m:List α} (k:Nat) (h:RR l m):RR l (m.drop k++m.take k)
 | rev {l m:List α} (h:RR l m):RR l m.reverse
theorem RR.trans {α:Type} {l m n:List α} (h:RR l m) (k:RR m n):RR l n:=by
 induction k with
 | refl=>exact h
 | rot k _ ih=>exact .rot k ih
 | rev _ ih=>exact .rev ih
theorem RR.len {α:Type} {l m:List α} (h:RR l m):m.length=l.length:=by
 induction h with
 | refl=>rfl
 | rot k _ ih=>rw[xao,xaG,xaT,<- ih];omega
 | rev _ ih=>rw[xbl,ih]
theorem RR.mem {α:Type} {l m:List α} (h:RR l m) {x:α}:x∈m↔x∈l:=by
  induction h with
  | refl=>exact Iff.rfl
  | @rot m k _ ih =>
    rw[<- ih,xaA,Or.comm,<- xaA,xaQ]
  | rev _ ih=>rw[List.mem_reverse,ih]
theorem jgB {α:Type} (m:List α) {k:Nat} (h:m.length<=k):m.drop k++m.take k=m:=by
 rw[xb7 h,xbA h,List.nil_append]
theorem jlf {α:Type} (m:List α) {k:Nat} (h:k<=m.length):(m.drop k++m.take k).drop (m.length-k)++(m.drop k++m.take k).take (m.length-k)=m:=by
 have ld:(m.drop k).length=m.length-k:=xaG;have e1:(m.drop k++m.take k).drop (m.length-k)=m.take k:=by rw[<- ld,xbU]
 have e2:(m.drop k++m.take k).take (m.length-k)=m.drop k:=by rw[<- ld,xbV]
 rw[e1,e2,xaQ]
theorem RR.symm {α:Type} {l m:List α} (h:RR l m):RR m l:=by
  induction h with
  | refl=>exact .refl _
  | @rot m k _ ih =>
    by_cases c:k<=m.length
    . have z:=RR.rot (l:=m.drop k++m.take k) (m.length-k) (.refl _)
      rw[jlf m c] at z;exact z.trans ih
    . rw[jgB m (by omega)]
      exact ih
  | @rev m _ ih =>
    have z:=RR.rev (l:=m.reverse) (.refl _);rw[List.reverse_reverse] at z;exact z.trans ih
theorem RR.fm {α β:Type} (f:α->Option β) {l m:List α} (h:RR l m):RR (l.filterMap f) (m.filterMap f):=by
  induction h with
  | refl=>exact .refl _
  | @rot m k _ ih =>
    have z:=RR.rot ((m.take k).filterMap f).length ih;have e:m.filterMap f=(m.take k).filterMap f++(m.drop k).filterMap f:=by rw[<- List.filterMap_append,xaQ]
    rw[e,xbU,xbV,<- List.filterMap_append] at z;exact z
  | @rev m _ ih =>
    rw[List.filterMap_reverse];exact .rev ih
theorem RR.map {α β:Type} (f:α->β) {l m:List α} (h:RR l m):RR (l.map f) (m.map f):=by
 induction h with
 | refl=>exact .refl _
 | rot k _ ih=>rw[xaq,xbQ,xbM];exact .rot k ih
 | rev _ ih=>rw[xbY];exact .rev ih
def nxt {α:Type}:List α->α->List (α × α)
 | [],_=>[]
 | [x],a=>[(x,a)]
 | x::y::r,a=>(x,y)::nxt (y::r) a
def prs {α:Type}:List α->List (α × α)
 | []=>[]
 | x::r=>nxt (x::r) x
theorem jgC {α:Type} (a:α):∀(l:List α) (y:α) (r:List α),nxt (l++y::r) a=nxt l y++nxt (y::r) a
  | [],y,r=>rfl
  | [x],y,r=>rfl
  | x :: x' :: l, y, r => by
    show (x,x')::nxt (x'::l++y::r) a=_;rw[jgC a (x'::l) y r];rfl
theorem jdU {α:Type} (m:List α) (k:Nat):prs (m.drop k++m.take k)=(prs m).drop k++(prs m).take k:=by
  by_cases c:k<m.length
  . match k with
    | 0=>simp
    | k + 1 =>
      match m,c with
      | x :: r, c =>
        have c:k<r.length:=by simpa using c
        have e:x::r=(x::r.take k)++r.drop k:=by rw[List.cons_append,xaQ]
        cases e2:r.drop k with
        | nil=>have:=congrArg List.length e2;rw[xaG] at this;simp at this;omega
        | cons y s =>
          rw[e2] at e;have l1:(x::r.take k).length=k+1:=by rw[xaB,xaT];omega
          have ln:∀(l:List α) (a:α),(nxt l a).length=l.length:=fun l a=>by
            induction l with
            | nil=>rfl
            | cons z t ih => cases t with
              | nil=>rfl
              | cons z' t'=>show (nxt (z'::t') a).length+1=_;rw[ih];rfl
          have d1:(x::r).drop (k+1)=y::s:=by show r.drop k=_;exact e2
          have t1:(x::r).take (k+1)=x::r.take k:=rfl;rw[d1,t1];show nxt (y::s++x::r.take k) y=_;rw[jgC];have p:prs (x::r)=nxt (x::r.take k) y++nxt (y::s) x:=by
            show nxt (x::r) x=_;rw[e,jgC]
          have l2:(nxt (x::r.take k) y).length=k+1:=by rw[ln,l1]
          rw[p,<- l2,xbU,xbV]
  . have lp:(prs m).length=m.length:=by
      have ln:∀(l:List α) (a:α),(nxt l a).length=l.length:=fun l a=>by
        induction l with
        | nil=>rfl
        | cons z t ih => cases t with
          | nil=>rfl
          | cons z' t'=>show (nxt (z'::t') a).length+1=_;rw[ih];rfl
      cases m with
      | nil=>rfl
      | cons x r=>exact ln _ _
    rw[jgB m (by omega),jgB (prs m) (by omega)]
def TT {α:Type} (l:List (α × α)):List (α ⊕ α × α):=l.flatMap fun e=>[.inl e.1,.inr e]
def TB {α:Type} (l:List (α × α)):List (α ⊕ α × α):=l.flatMap fun e=>[.inr e,.inl e.2]
def swE {α:Type} (e:α × α):α × α:=(e.2,e.1)
def swS {α:Type}:α ⊕ α × α->α ⊕ α × α
 | .inl x=>.inl x
 | .inr e=>.inr (swE e)
theorem jmb {α:Type} (l:List (α × α)) (k:Nat):TT (l.drop k++l.take k)=(TT l).drop (2*k)++(TT l).take (2*k):=by
  have h:∀(l:List (α × α)) (k:Nat),TT (l.drop k)=(TT l).drop (2*k)/\TT (l.take k)=(TT l).take (2*k):=fun l=>by
    induction l with
    | nil=>intro k;cases k<;>exact⟨rfl,rfl⟩
    | cons e r ih =>
      intro k;cases k with
      | zero=>exact⟨rfl,rfl⟩
      | succ k =>
        obtain⟨i1,i2⟩:=ih k;refine⟨i1,?_⟩;show .inl e.1::.inr e::TT (r.take k)=_;rw[i2];rfl
  show List.flatMap _ _=_;rw[xb1];exact congr (congrArg _ (h l k).1) (h l k).2
theorem jjS {α:Type} (a:α):∀(x:α) (r:List α),TT (nxt (x::r) a)++[.inl a]=.inl x::TB (nxt (x::r) a)
  | x,[]=>rfl
  | x, y :: r => by
    show .inl x::.inr (x,y)::(TT (nxt (y::r) a)++[.inl a])=_;rw[jjS a y r];rfl
theorem jmc {α:Type} (m:List α):RR (TT (prs m)) (TB (prs m)):=by
  cases m with
  | nil=>exact .refl _
  | cons x r =>
    have h:=jjS x x r;have z:=RR.rot (l:=TT (prs (x::r))) 1 (.refl _);cases e:TT (prs (x::r)) with
    | nil =>
      have e':TT (nxt (x::r) x)=[]:=e;rw[e'] at h;have:=List.tail_eq_of_cons_eq h;show RR [] (TB (nxt (x::r) x));rw[<- this];exact .refl _
    | cons s t =>
      have e':TT (nxt (x::r) x)=s::t:=e;rw[e'] at h;have h1:=List.head_eq_of_cons_eq h;have h2:t++[.inl x]=TB (nxt (x::r) x):=List.tail_eq_of_cons_eq h;rw[e] at z;show RR (s::t) (TB (nxt (x::r) x));rw[<- h2];have e3:(s::t).drop 1++(s::t).take 1=t++[s]:=rfl;subst h1;rw[e3] at z;exact z
theorem jo5 {α:Type} (R:List (α × α)):TT ((R.map swE).reverse)=((TB R).map swS).reverse:=by
  induction R with
  | nil=>rfl
  | cons e r ih =>
    show TT ((swE e::r.map swE).reverse)=_;rw[xaR];show List.flatMap _ _=_;rw[xb1];show TT ((r.map swE).reverse)++[.inl e.2,.inr (swE e)]=_;rw[ih];show _=(.inr (swE e)::.inl e.2::(TB r).map swS).reverse;rw[xaR,xaR,xb9];rfl
def op {α:Type}:List α->List (α × α)
 | []=>[]
 | [_]=>[]
 | x::y::r=>(x,y)::op (y::r)
theorem jij {α:Type} (a:α):∀l:List α,nxt l a=op (l++[a])
  | []=>rfl
  | [x]=>rfl
  | x :: y :: r => by
    show (x,y)::nxt (y::r) a=(x,y)::op (y::r++[a]);rw[jij a (y::r)]
theorem jhK {α:Type} (z a:α):∀l:List α,op (l++[z]++[a])=op (l++[z])++[(z,a)]
  | []=>rfl
  | [x]=>rfl
  | x :: y :: r => by
    show (x,y)::op (y::r++[z]++[a])=(x,y)::op (y::r++[z])++[(z,a)];rw[jhK z a (y::r)];rfl
theorem jmd {α:Type}:∀l:List α,op l.reverse=((op l).map swE).reverse
  | []=>rfl
  | [x]=>rfl
  | x :: y :: r => by
    rw[xaR,xaR,jhK,<- xaR,jmd (y::r)];show _=((swE (x,y))::(op (y::r)).map swE).reverse;rw[xaR];rfl
theorem jjT {α:Type} (l:List α):∃k,prs l.reverse=((((prs l).drop k++(prs l).take k)).map swE).reverse:=by
  rcases List.eq_nil_or_concat l with rfl | ⟨l',z,rfl⟩
  . exact⟨0,rfl⟩
  . have e1:(l'++[z]).reverse=z::l'.reverse:=by simp
    cases l' with
    | nil=>exact⟨0,rfl⟩
    | cons x r =>
      refine⟨(op (x::r++[z])).length,?_⟩;have p:prs (x::r++[z])=op (x::r++[z])++[(z,x)]:=by
        show nxt (x::r++[z]) x=_;rw[jij,jhK]
      have p2:prs (z::(x::r).reverse)=op ((z::(x::r++[z])).reverse):=by
        show nxt (z::(x::r).reverse) z=_;rw[jij]
        congr 1
        simp
      have e0:List.concat (x::r) z=x::r++[z]:=by simp
      rw[e0,e1,p2,p,jmd,xbU,xbV];rfl
theorem jnp {α:Type} {β:Type} (f:α ⊕ α × α->Option β) (hf:∀s,f (swS s)=f s) {l m:List α} (h:RR l m):RR ((TT (prs l)).filterMap f) ((TT (prs m)).filterMap f):=by
  induction h with
  | refl=>exact .refl _
  | @rot m k _ ih =>
    rw[jdU,jmb];exact ih.trans ((RR.rot (2*k) (.refl _)).fm f)
  | @rev m _ ih =>
    obtain⟨k,e⟩:=jjT m;rw[e,<- jdU,jo5];have e2:(((TB (prs (m.drop k++m.take k))).map swS).reverse).filterMap f=((TB (prs (m.drop k++m.take k))).filterMap f).reverse:=by
      rw[List.filterMap_reverse,List.filterMap_map]
      congr 2
      funext s
      exact hf s
    rw[e2];refine ih.trans (.rev ?_);refine RR.trans ?_ ((jmc (m.drop k++m.take k)).fm f);rw[jdU,jmb];exact (RR.rot (2*k) (.refl _)).fm f
def Tp (c:Nat->Tri) (n:Nat):Prop:=∀i j k,i<j->j<k->k<n->0<dt (c i) (c j) (c k)
theorem jck (a b c:Tri):dt a b c=dt b c a:=by
 unfold dt ja3;grind
theorem jcN (a b:Tri):dt a a b=0/\dt a b b=0/\dt a b a=0:=by
 unfold dt ja3;refine⟨?_,?_,?_⟩<;>grind
def jgD (a:Int) (p:Tri) (b:Int) (q:Tri):Tri:=⟨a*p.x+b*q.x,a*p.y+b*q.y,a*p.z+b*q.z⟩
theorem jhg (x y p q:Tri) (a b:Int):dt x y (jgD a p b q)=a*dt x y p+b*dt x y q:=by
 unfold jgD dt ja3;grind
theorem jjU (x y p q:Tri) (a b:Int):dt (jgD a p b q) x y=a*dt p x y+b*dt q x y:=by
 unfold jgD dt ja3;grind
theorem jhL (x y p q:Tri) (a b:Int):dt x (jgD a p b q) y=a*dt x p y+b*dt x q y:=by
 unfold jgD dt ja3;grind
theorem dt8 (p1 q1 p2 q2 p3 q3:Tri) (a1 b1 a2 b2 a3 b3:Int):dt (jgD a1 p1 b1 q1) (jgD a2 p2 b2 q2) (jgD a3 p3 b3 q3) =
  a1*(a2*(a3*dt p1 p2 p3)+a2*(b3*dt p1 p2 q3)+(b2*(a3*dt p1 q2 p3)+b2*(b3*dt p1 q2 q3)))+b1*(a2*(a3*dt q1 p2 p3)+a2*(b3*dt q1 p2 q3)+(b2*(a3*dt q1 q2 p3)+b2*(b3*dt q1 q2 q3))):=by
 rw[jjU,jhL,jhL,jhg,jhg,jhg,jhg];grind
def cw (c:Nat->Tri) (n k:Nat):Tri:=c (k % n)
theorem cw_lt {c:Nat->Tri} {k:Nat} (h:k<n):cw c n k=c k:=by unfold cw;rw[xal h]
theorem cw_n {c:Nat->Tri} :cw c n n=c 0:=by unfold cw;rw[xbc]
theorem D_p {c:Nat->Tri} {k:Nat} (h:Tp c n) (ij:i<j) (jk:j<k) (kn:k<=n) (w:¬(i=0/\k=n)):0<dt (cw c n i) (cw c n j) (cw c n k):=by
 rw[cw_lt (show i<n by omega),cw_lt (show j<n by omega)];by_cases e:k=n
 ·subst e;rw[cw_n,<- jck];exact h 0 i j (by omega) ij (by omega)
 ·rw[cw_lt (show k<n by omega)];exact h i j k ij jk (by omega)
theorem D_n {c:Nat->Tri} {k:Nat} (h:Tp c n) (ij:i<=j) (jk:j<=k) (kn:k<=n):0<=dt (cw c n i) (cw c n j) (cw c n k):=by
 by_cases e1:i=j
 ·subst e1;rw[(jcN _ _).1];exact xaI _
 ·by_cases e2:j=k
  ·subst e2;rw[(jcN _ _).2.1];exact xaI _
  ·by_cases w:i=0/\k=n
   ·obtain⟨rfl,rfl⟩:=w;have z:cw c k k=cw c k 0:=by unfold cw;rw[xbc,Nat.zero_mod]
    rw[z,(jcN _ _).2.2];exact xaI _
   ·exact xan (D_p h (by omega) (by omega) kn w)
theorem jdi {b c d:Int} (ha:0<=a) (hb:0<=b) (hc:0<=c) (h:a=0\/b=0\/c=0\/0<=d):0<=a*(b*(c*d)):=by
 rcases h with rfl | rfl | rfl | h
 ·rw[xaJ];exact xaI _
 ·rw[xaJ,xaj];exact xaI _
 ·rw[xaJ,xaj,xaj];exact xaI _
 ·exact xaf ha (xaf hb (xaf hc h))
theorem jhh {b c d:Int} (ha:0<a) (hb:0<b) (hc:0<c) (h:0<d):0<a*(b*(c*d)):=xab ha (xab hb (xab hc h))
structure On (c:Nat->Tri) (n:Nat) (i:Nat) (e:Bool) (v:Tri):Prop where
 lt:i<n
 is:∃a b:Int,v=jgD a (cw c n i) b (cw c n (i+1))/\0<a/\(e=false->b=0)/\(e=true->0<b)
theorem On.tri {c:Nat->Tri} {k:Nat} {e f g:Bool} {u w:Tri} (n3:3<=n) (h:Tp c n) (hu:On c n i e u) (hv:On c n j f v) (hw:On c n k g w)
  (ij:i<j\/(i=j/\e=false/\f=true)) (jk:j<k\/(j=k/\f=false/\g=true)) (b1:¬(i=j/\k=j+1/\e=false/\f=true/\g=false)) (b2:¬(i=0/\j=n-1/\k=n-1/\e=false/\f=false/\g=true)):0<dt u v w:=by
 obtain⟨hi,x1,y1,rfl,p1,z1,s1⟩:=hu;obtain⟨hj,x2,y2,rfl,p2,z2,s2⟩:=hv;obtain⟨hk,x3,y3,rfl,p3,z3,s3⟩:=hw;have q1:0<=y1:=by cases e with | false=>rw[z1 rfl];exact xaI _ | true=>have:=s1 rfl;omega
 have q2:0<=y2:=by cases f with | false=>rw[z2 rfl];exact xaI _ | true=>have:=s2 rfl;omega
 have q3:0<=y3:=by cases g with | false=>rw[z3 rfl];exact xaI _ | true=>have:=s3 rfl;omega
 have N:∀{a b d:Nat},a<=b->b<=d->d<=n->0<=dt (cw c n a) (cw c n b) (cw c n d):=fun h1 h2 h3=>D_n h h1 h2 h3;have ij':i<j\/y1=0:=by
  rcases ij with r | ⟨r1,r2,r3⟩
  ·exact .inl r
  ·exact .inr (z1 r2)
 have ij0:i<=j:=ij.elim xbb fun r=>Nat.le_of_eq r.1;have jk':j<k\/y2=0:=by
  rcases jk with r | ⟨r1,r2,r3⟩
  ·exact .inl r
  ·exact .inr (z2 r2)
 have jk0:j<=k:=jk.elim xbb fun r=>Nat.le_of_eq r.1;rw[dt8];have t1:0<=x1*(x2*(x3*dt (cw c n i) (cw c n j) (cw c n k))):=jdi (by omega) (by omega) (by omega) (.inr (.inr (.inr (N ij0 jk0 (by omega)))));have t2:0<=x1*(x2*(y3*dt (cw c n i) (cw c n j) (cw c n (k+1)))):=jdi (by omega) (by omega) q3 (.inr (.inr (.inr (N ij0 (by omega) (by omega)))));have t3:0<=x1*(y2*(x3*dt (cw c n i) (cw c n (j+1)) (cw c n k))):=jdi (by omega) q2 (by omega) (by
  rcases jk' with r | r
  ·exact .inr (.inr (.inr (N (by omega) (by omega) (by omega))))
  ·exact .inr (.inl r))
 have t4:0<=x1*(y2*(y3*dt (cw c n i) (cw c n (j+1)) (cw c n (k+1)))):=jdi (by omega) q2 q3 (.inr (.inr (.inr (N (by omega) (by omega) (by omega)))));have t5:0<=y1*(x2*(x3*dt (cw c n (i+1)) (cw c n j) (cw c n k))):=jdi q1 (by omega) (by omega) (by
  rcases ij' with r | r
  ·exact .inr (.inr (.inr (N (by omega) (by omega) (by omega))))
  ·exact .inl r)
 have t6:0<=y1*(x2*(y3*dt (cw c n (i+1)) (cw c n j) (cw c n (k+1)))):=jdi q1 (by omega) q3 (by
  rcases ij' with r | r
  ·exact .inr (.inr (.inr (N (by omega) (by omega) (by omega))))
  ·exact .inl r)
 have t7:0<=y1*(y2*(x3*dt (cw c n (i+1)) (cw c n (j+1)) (cw c n k))):=jdi q1 q2 (by omega) (by
  rcases jk' with r | r
  ·exact .inr (.inr (.inr (N (by omega) (by omega) (by omega))))
  ·exact .inr (.inl r))
 have t8:0<=y1*(y2*(y3*dt (cw c n (i+1)) (cw c n (j+1)) (cw c n (k+1)))):=jdi q1 q2 q3 (.inr (.inr (.inr (N (by omega) (by omega) (by omega)))));have P:∀{a b d:Nat},a<b->b<d->d<=n->¬(a=0/\d=n)->0<dt (cw c n a) (cw c n b) (cw c n d):=fun h1 h2 h3 h4=>D_p h h1 h2 h3 h4;have S:0<x1*(x2*(x3*dt (cw c n i) (cw c n j) (cw c n k)))\/0<x1*(x2*(y3*dt (cw c n i) (cw c n j) (cw c n (k+1))))\/0<x1*(y2*(x3*dt (cw c n i) (cw c n (j+1)) (cw c n k)))\/0<x1*(y2*(y3*dt (cw c n i) (cw c n (j+1)) (cw c n (k+1))))\/0<y1*(x2*(y3*dt (cw c n (i+1)) (cw c n j) (cw c n (k+1)))):=by
  by_cases c1:i<j
  ·by_cases c2:j<k
   ·exact .inl (jhh p1 p2 p3 (P c1 c2 (by omega) (by omega)))
   ·obtain⟨r1,r2,r3⟩:=jk.resolve_left c2;by_cases c3:i=0/\k+1=n
    ·cases e with
     | false=>exact absurd ⟨c3.1,by omega,by omega,rfl,r2,r3⟩ b2
     | true=>exact .inr (.inr (.inr (.inr (jhh (s1 rfl) p2 (s3 r3) (P (by omega) (by omega) (by omega) (by omega))))))
    ·exact .inr (.inl (jhh p1 p2 (s3 r3) (P c1 (by omega) (by omega) c3)))
  ·obtain⟨r1,r2,r3⟩:=ij.resolve_left c1;have c2:j<k:=by
    rcases jk with r | ⟨_,r,_⟩
    ·exact r
    ·rw[r3] at r;cases r
   by_cases c4:j+1<k
   ·exact .inr (.inr (.inl (jhh p1 (s2 r3) p3 (P (by omega) c4 (by omega) (by omega)))))
   ·cases g with
    | false=>exact absurd ⟨r1,by omega,r2,r3,rfl⟩ b1
    | true=>exact .inr (.inr (.inr (.inl (jhh p1 (s2 r3) (s3 rfl) (P (by omega) (by omega) (by omega) (by omega))))))
 rw[xbZ,xbZ,xbZ,xbZ,xbZ,xbZ];omega
def kp (H:Nat->Int) (n p:Nat):Bool:=if p % 2=0 then decide (0<=H (p / 2)) else decide (H (p / 2)*H ((p / 2+1) % n)<0)
def xpt (c:Nat->Tri) (H:Nat->Int) (n i:Nat):Tri:=jgD (ab (H ((i+1) % n))) (c i) (ab (H i)) (c ((i+1) % n))
def el (c:Nat->Tri) (H:Nat->Int) (n p:Nat):Tri:=if p % 2=0 then c (p / 2) else xpt c H n (p / 2)
def clp (H:Nat->Int) (n:Nat):List Nat:=(List.range (2*n)).filter (kp H n)
def clip (c:Nat->Tri) (H:Nat->Int) (n i:Nat):Tri:=el c H n ((clp H n).getD i 0)
theorem jlg (p q:Tri):p=jgD 1 p 0 q:=by
 unfold jgD;simp
theorem jdD {b:Int} (h:a*b<0):a≠0/\b≠0/\¬(0<=a/\0<=b)/\¬(a<=0/\b<=0):=by
 refine⟨fun e=>?_,fun e=>?_,fun e=>?_,fun e=>?_⟩
 ·rw[e,xaJ] at h;omega
 ·rw[e,xaj] at h;omega
 ·have:=xaf e.1 e.2;omega
 ·have:=xbB e.1 e.2;omega
theorem jbM {n:Int} (h:n≠0):0<ab n:=by
 unfold ab;split<;>omega
theorem jnq {c:Nat->Tri} {H:Nat->Int} {p:Nat} (hp:p<2*n) (h:p % 2=0\/H (p / 2)*H ((p / 2+1) % n)<0):On c n (p / 2) (decide (p % 2=1)) (el c H n p):=by
 have hl:p / 2<n:=by omega
 refine⟨hl,?_⟩;unfold el;by_cases e:p % 2=0
 ·rw[if_pos e,decide_eq_false (by omega),cw_lt hl];exact⟨1,0,jlg _ _,by decide,(fun _=>rfl),(fun h=>by cases h)⟩
 ·rw[if_neg e,decide_eq_true (by omega),cw_lt hl];obtain⟨h1,h2,_,_⟩:=jdD (h.resolve_left e);exact⟨_,_,rfl,jbM h2,(fun h=>by cases h),fun _=>jbM h1⟩
theorem clp_mem {H:Nat->Int} {p:Nat}:p∈clp H n↔p<2*n/\kp H n p=true:=by
 unfold clp;rw[xbh,xaH]
theorem jf8 (H:Nat->Int) (n:Nat):(clp H n).Pairwise (· < ·):=List.pairwise_lt_range.sublist List.filter_sublist
theorem jgE {l:List Nat} (h:i<l.length):l.getD i 0∈l:=by
 rw[xac,xad h];exact xaw h
theorem jjV {l:List Nat} (hs:l.Pairwise (· < ·)) (ij:i<j) (hj:j<l.length):l.getD i 0<l.getD j 0:=by
 have z:=List.pairwise_iff_getElem.mp hs i j (by omega) hj ij;rw[xac,xac,xad (by omega),xad hj];exact z
theorem jnr {H:Nat->Int} {p:Nat} (h:kp H n p=true):(p % 2=0/\0<=H (p / 2))\/(p % 2=1/\H (p / 2)*H ((p / 2+1) % n)<0):=by
 unfold kp at h;by_cases e:p % 2=0
 ·rw[if_pos e] at h;exact .inl ⟨e,of_decide_eq_true h⟩
 ·rw[if_neg e] at h;exact .inr ⟨by omega,of_decide_eq_true h⟩
theorem jns {c:Nat->Tri} {H:Nat->Int} (n3:3<=n) (h:Tp c n):Tp (clip c H n) (clp H n).length:=by
 intro i j k ij jk kn;have m1:=clp_mem.mp (jgE (l:=clp H n) (i:=i) (by omega));have m2:=clp_mem.mp (jgE (l:=clp H n) (i:=j) (by omega));have m3:=clp_mem.mp (jgE (l:=clp H n) (i:=k) kn);have o1:=jjV (jf8 H n) ij (by omega);have o2:=jjV (jf8 H n) jk kn;unfold clip;generalize (clp H n).getD i 0=p at *
 generalize (clp H n).getD j 0=q at *
 generalize (clp H n).getD k 0=r at *
 have kp1:=jnr m1.2;have kp2:=jnr m2.2;have kp3:=jnr m3.2;have on1:=jnq (c:=c) (H:=H) m1.1 (by rcases kp1 with r | r;exact .inl r.1;exact .inr r.2);have on2:=jnq (c:=c) (H:=H) m2.1 (by rcases kp2 with r | r;exact .inl r.1;exact .inr r.2);have on3:=jnq (c:=c) (H:=H) m3.1 (by rcases kp3 with r | r;exact .inl r.1;exact .inr r.2);refine On.tri n3 h on1 on2 on3 ?_ ?_ ?_ ?_
 ·by_cases e:p / 2<q / 2
  ·exact .inl e
  ·exact .inr ⟨by omega,decide_eq_false (by omega),decide_eq_true (by omega)⟩
 ·by_cases e:q / 2<r / 2
  ·exact .inl e
  ·exact .inr ⟨by omega,decide_eq_false (by omega),decide_eq_true (by omega)⟩
 ·rintro⟨e1,e2,e3,e4,e5⟩;have f3:=of_decide_eq_false e3;have f4:=of_decide_eq_true e4;have f5:=of_decide_eq_false e5;rcases kp1 with a1 | a1
  ·rcases kp2 with a2 | a2
   ·omega
   ·rcases kp3 with a3 | a3
    ·have z:=(jdD a2.2).2.2.1;have em:(q / 2+1) % n=r / 2:=by rw[<- e2];exact xal (by omega)
     rw[em,<- e1] at z;exact z ⟨a1.2,a3.2⟩
    ·omega
  ·omega
 ·rintro⟨e1,e2,e3,e4,e5,e6⟩;have f4:=of_decide_eq_false e4;have f5:=of_decide_eq_false e5;have f6:=of_decide_eq_true e6;rcases kp1 with a1 | a1
  ·rcases kp2 with a2 | a2
   ·rcases kp3 with a3 | a3
    ·omega
    ·have z:=(jdD a3.2).2.2.1;have em:(r / 2+1) % n=0:=by rw[e3,show n-1+1=n by omega,xbc]
     rw[em,e3] at z;rw[e1] at a1;rw[e2] at a2;exact z ⟨a2.2,a1.2⟩
   ·omega
  ·omega
theorem jjW:∀{l:List Nat} {a b c:Nat},a∈l->b∈l->c∈l->a≠b->b≠c->a≠c->3<=l.length
  | [],_,_,_,h,_,_,_,_,_=>nomatch h
  | [x], a, b, c, h1, h2, h3, n1, n2, n3 => by
    simp at h1 h2;omega
  | [x, y], a, b, c, h1, h2, h3, n1, n2, n3 => by
    simp at h1 h2 h3;rcases h1 with rfl | rfl<;>rcases h2 with rfl | rfl<;>rcases h3 with rfl | rfl<;>first | exact absurd rfl n1 | exact absurd rfl n2 | exact absurd rfl n3
  | x :: y :: z :: l, _, _, _, _, _, _, _, _, _ => by
    simp
theorem jlh {H:Nat->Int} (n3:3<=n) (hi:i<n) (hp:0<H i):3<=(clp H n).length:=by
 have md:∀a,a % n<n:=fun a=>xaz _ (by omega);have ev:∀{k},k<n->0<=H k->2*k∈clp H n:=fun {k} hk h=>clp_mem.mpr ⟨by omega,by
  unfold kp;rw[if_pos (by omega),show 2*k / 2=k by omega];exact decide_eq_true h⟩
 have od:∀{k},k<n->H k*H ((k+1) % n)<0->2*k+1∈clp H n:=fun {k} hk h=>clp_mem.mpr ⟨by omega,by
  unfold kp;rw[if_neg (by omega),show (2*k+1) / 2=k by omega];exact decide_eq_true h⟩
 have A:=ev hi (by omega);have e1:(i+1) % n=if i+1=n then 0 else i+1:=by
  split
  ·rename_i e
   rw[e,xbc]
  ·exact xal (by omega)
 have e2:(i+(n-1)) % n=if i=0 then n-1 else i-1:=by
  split
  ·rename_i e
   rw[e,xbE];exact xal (by omega)
  ·rw[show i+(n-1)=i-1+n by omega,xbg];exact xal (by omega)
 have e3:((i+(n-1)) % n+1) % n=i:=by
  rw[e2];split
  ·rename_i e
   rw[show n-1+1=n by omega,xbc,e]
  ·rw[show i-1+1=i by omega];exact xal hi
 have B:∃p,p∈clp H n/\(p=2*((i+1) % n)\/p=2*i+1):=by
  by_cases c:0<=H ((i+1) % n)
  ·exact⟨_,ev (md _) c,.inl rfl⟩
  ·exact⟨_,od hi (xak hp (by omega)),.inr rfl⟩
 have C:∃p,p∈clp H n/\(p=2*((i+(n-1)) % n)\/p=2*((i+(n-1)) % n)+1):=by
  by_cases c:0<=H ((i+(n-1)) % n)
  ·exact⟨_,ev (md _) c,.inl rfl⟩
  ·exact⟨_,od (md _) (by rw[e3];exact xay (by omega) hp),.inr rfl⟩
 obtain⟨p,hp1,hp2⟩:=B;obtain⟨q,hq1,hq2⟩:=C;rw[e1] at hp2;rw[e2] at hq2;refine jjW A hp1 hq1 ?_ ?_ ?_<;>(split at hp2<;>split at hq2<;>omega)
def jaA (A B C:Int) (v:Tri):Int:=A*v.x+B*v.y+C*v.z
theorem jhM (A B C:Int) (a b c d:Tri):dt b c d*jaA A B C a+dt d a b*jaA A B C c=dt c d a*jaA A B C b+dt a b c*jaA A B C d:=by
 unfold dt ja3 jaA;grind
theorem jo6 {c:Nat->Tri} {k l:Nat} {C:Int} (h:Tp c n) (ij:i<j) (jk:j<k) (kl:k<l) (ln:l<n) :
  ¬(0<jaA A B C (c i)/\jaA A B C (c j)<0/\0<jaA A B C (c k)/\jaA A B C (c l)<0)/\¬(jaA A B C (c i)<0/\0<jaA A B C (c j)/\jaA A B C (c k)<0/\0<jaA A B C (c l)):=by
 have e:=jhM A B C (c i) (c j) (c k) (c l);have p1:=h j k l jk kl ln;have p2:0<dt (c l) (c i) (c j):=by rw[jck];exact h i j l ij (by omega) ln
 have p3:0<dt (c k) (c l) (c i):=by rw[<- jck];exact h i k l (by omega) kl ln
 have p4:=h i j k ij jk (by omega);constructor
 ·rintro⟨h1,h2,h3,h4⟩;have q1:=xab p1 h1;have q2:=xab p2 h3;have q3:=xak p3 h2;have q4:=xak p4 h4;omega
 ·rintro⟨h1,h2,h3,h4⟩;have q1:=xak p1 h1;have q2:=xak p2 h3;have q3:=xab p3 h2;have q4:=xab p4 h4;omega
theorem opp_iff {b:Int}:a*b<0↔(0<a/\b<0)\/(a<0/\0<b):=by
 constructor
 ·intro h;obtain⟨h1,h2,h3,h4⟩:=jdD h;omega
 ·rintro (⟨h1,h2⟩ | ⟨h1,h2⟩)
  ·exact xak h1 h2
  ·exact xay h1 h2
theorem jjX {c:Nat->Tri} {k:Nat} {C:Int} (h:Tp c n) (ij:i<j) (jk:j<k) (kn:k<n)
  (h1:jaA A B C (c i)*jaA A B C (c ((i+1) % n))<0) (h2:jaA A B C (c j)*jaA A B C (c ((j+1) % n))<0) (h3:jaA A B C (c k)*jaA A B C (c ((k+1) % n))<0):False:=by
 have e1:(i+1) % n=i+1:=xal (by omega);have e2:(j+1) % n=j+1:=xal (by omega);rw[e1] at h1;rw[e2] at h2;have N:∀{a b d e:Nat},a<b->b<d->d<e->e<n->¬(0<jaA A B C (c a)/\jaA A B C (c b)<0/\0<jaA A B C (c d)/\jaA A B C (c e)<0)/\¬(jaA A B C (c a)<0/\0<jaA A B C (c b)/\jaA A B C (c d)<0/\0<jaA A B C (c e)):=fun q1 q2 q3 q4=>jo6 h q1 q2 q3 q4;have d1:i+1=j\/i+1<j:=by omega
 have d2:j+1=k\/j+1<k:=by omega
 by_cases w:k+1<n
 ·rw[xal w] at h3;rcases opp_iff.mp h1 with a1 | a1<;>rcases opp_iff.mp h2 with a2 | a2<;>rcases opp_iff.mp h3 with a3 | a3
  all_goals first
   | (have z:=N (a:=i) (b:=i+1) (d:=j) (e:=j+1) (by omega) (by rcases d1 with r | r;(subst r;omega);exact r) (by omega) (by omega);(first | exact z.1 ⟨a1.1,a1.2,a2.1,a2.2⟩ | exact z.2 ⟨a1.1,a1.2,a2.1,a2.2⟩))
   | (have z:=N (a:=j) (b:=j+1) (d:=k) (e:=k+1) (by omega) (by rcases d2 with r | r;(subst r;omega);exact r) (by omega) (by omega);(first | exact z.1 ⟨a2.1,a2.2,a3.1,a3.2⟩ | exact z.2 ⟨a2.1,a2.2,a3.1,a3.2⟩))
   | (have z:=N (a:=i) (b:=i+1) (d:=k) (e:=k+1) (by omega) (by omega) (by omega) (by omega);(first | exact z.1 ⟨a1.1,a1.2,a3.1,a3.2⟩ | exact z.2 ⟨a1.1,a1.2,a3.1,a3.2⟩))
 ·have ek:k=n-1:=by omega
  have e3:(k+1) % n=0:=by rw[show k+1=n by omega,xbc]
  rw[e3] at h3;rcases opp_iff.mp h1 with a1 | a1<;>rcases opp_iff.mp h2 with a2 | a2<;>rcases opp_iff.mp h3 with a3 | a3
  all_goals first
   | (have z:=N (a:=i) (b:=i+1) (d:=j) (e:=j+1) (by omega) (by rcases d1 with r | r;(subst r;omega);exact r) (by omega) (by omega);(first | exact z.1 ⟨a1.1,a1.2,a2.1,a2.2⟩ | exact z.2 ⟨a1.1,a1.2,a2.1,a2.2⟩))
   | (have z:=N (a:=0) (b:=j) (d:=j+1) (e:=k) (by omega) (by omega) (by rcases d2 with r | r;(subst r;omega);exact r) (by omega);(first | exact z.1 ⟨a3.2,a2.1,a2.2,a3.1⟩ | exact z.2 ⟨a3.2,a2.1,a2.2,a3.1⟩))
   | (have z:=N (a:=0) (b:=i) (d:=i+1) (e:=k) (by rcases Nat.eq_zero_or_pos i with r | r;(subst r;omega);exact r) (by omega) (by omega) (by omega);(first | exact z.1 ⟨a3.2,a1.1,a1.2,a3.1⟩ | exact z.2 ⟨a3.2,a1.1,a1.2,a3.1⟩))
theorem jf9 (P:Nat->Bool):∀m,((List.range (2*m)).filter P).length=((List.range m).filter fun i=>P (2*i)).length+((List.range m).filter fun i=>P (2*i+1)).length
  | 0=>rfl
  | m + 1 => by
    have ih:=jf9 P m;rw[show 2*(m+1)=2*m+1+1 by omega,xaZ,xaZ,xaZ (n:=m),xaD,xaD,xaD,xaD,xao,xao,xao,xao,ih];have s:∀(Q:Nat->Bool) (x:Nat),([x].filter Q).length=if Q x=true then 1 else 0:=fun Q x=>by
      cases h:Q x with
      | true=>rw[xa2 h,if_pos rfl];rfl
      | false=>rw[xbd (by rw[h];decide),if_neg (by decide)];rfl
    rw[s,s,s (fun i=>P (2*i)),s (fun i=>P (2*i+1))];omega
theorem jli {l:List Nat} (hs:l.Pairwise (· < ·)) (h:∀a b c,a∈l->b∈l->c∈l->a<b->b<c->False):l.length<=2:=by
  match l,hs,h with
  | [],_,_=>exact xa6 _
  | [_],_,_=>show 1<=2;decide
  | [_,_],_,_=>show 2<=2;decide
  | x :: y :: z :: l, hs, h =>
    have q1:=List.pairwise_cons.mp hs;have q2:=List.pairwise_cons.mp q1.2;exact (h x y z (by simp) (by simp) (by simp) (q1.1 y (by simp)) (q2.1 z (by simp))).elim
theorem jjY {P:Nat->Bool} (hi:i<n) (h:P i=false):((List.range n).filter P).length<n:=by
 have z:((List.range n).filter P).length<(List.range n).length:=by
  refine List.length_filter_lt_length_iff_exists.mpr ⟨i,xaH.mpr hi,?_⟩;rw[h];decide
 rw[xbf] at z;exact z
theorem jjZ {c:Nat->Tri} {C:Int} (h:Tp c n):(clp (fun i=>jaA A B C (c i)) n).length<=n+1:=by
 unfold clp;rw[jf9];have ev:∀i,kp (fun i=>jaA A B C (c i)) n (2*i)=decide (0<=jaA A B C (c i)):=fun i=>by
  unfold kp;rw[if_pos (by omega),show 2*i / 2=i by omega]
 have od:∀i,kp (fun i=>jaA A B C (c i)) n (2*i+1)=decide (jaA A B C (c i)*jaA A B C (c ((i+1) % n))<0):=fun i=>by
  unfold kp;rw[if_neg (by omega),show (2*i+1) / 2=i by omega]
 have l1:((List.range n).filter fun i=>kp (fun i=>jaA A B C (c i)) n (2*i)).length<=n:=by
  have z:=xcc (fun i=>kp (fun i=>jaA A B C (c i)) n (2*i)) (List.range n);rw[xbf] at z;exact z
 have l2:((List.range n).filter fun i=>kp (fun i=>jaA A B C (c i)) n (2*i+1)).length<=2:=by
  refine jli (List.pairwise_lt_range.sublist List.filter_sublist) fun a b d ha hb hd ab bd=>?_;have ha:=xbh.mp ha;have hb:=xbh.mp hb;have hd:=xbh.mp hd;rw[od] at ha hb hd;exact jjX h ab bd (xaH.mp hd.1) (of_decide_eq_true ha.2) (of_decide_eq_true hb.2) (of_decide_eq_true hd.2)
 by_cases e:((List.range n).filter fun i=>kp (fun i=>jaA A B C (c i)) n (2*i+1))=[]
 ·rw[e];show _+0<=n+1;omega
 ·obtain⟨x,hx⟩:=List.exists_mem_of_ne_nil _ e;have hx:=xbh.mp hx;rw[od] at hx;have hn:=xaH.mp hx.1;have z:=opp_iff.mp (of_decide_eq_true hx.2);have l3:((List.range n).filter fun i=>kp (fun i=>jaA A B C (c i)) n (2*i)).length<n:=by
   rcases z with r | r
   ·exact jjY (xaz (x+1) (by omega)) (by rw[ev];exact decide_eq_false (by omega))
   ·exact jjY hn (by rw[ev];exact decide_eq_false (by omega))
  omega
def rs:List Rat->Rat
 | []=>0
 | x::l=>x+rs l
theorem jme:∀l m:List Rat,rs (l++m)=rs l+rs m
  | [],m=>by show rs m=0+rs m;grind
  | x :: l, m => by
    show x+rs (l++m)=x+rs l+rs m;rw[jme l m];grind
theorem jj0 {α:Type} (a:α):∀l:List α,(nxt l a).length=l.length
  | []=>rfl
  | [_]=>rfl
  | x :: y :: r => by
    show (nxt (y::r) a).length+1=_;rw[jj0 a (y::r)];rfl
theorem jj1 {α:Type} (d a:α):∀(l:List α) (i:Nat),i<l.length->(nxt l a)[i]?=some (l.getD i d,if i+1<l.length then l.getD (i+1) d else a)
  | [],i,h=>by simp at h
  | [x], i, h => by
    have e:i=0:=by simpa using h
    subst e;rfl
  | x :: y :: r, 0, h => by
    show some (x,y)=_;rw[if_pos (by simp)];rfl
  | x :: y :: r, i + 1, h => by
    have h':i<(y::r).length:=by simpa using h
    show (nxt (y::r) a)[i]?=_;rw[jj1 d a (y::r) i h'];have e:((i+1+1<(x::y::r).length)↔(i+1<(y::r).length)):=by simp
    simp only[e];rfl
theorem jez {α:Type} (l:List α):(prs l).length=l.length:=by
 cases l with
 | nil=>rfl
 | cons x r=>exact jj0 x (x::r)
theorem jdj {α:Type} (d:α) {l:List α} (h:i<l.length):(prs l)[i]?=some (l.getD i d,l.getD ((i+1) % l.length) d):=by
  cases l with
  | nil=>simp at h
  | cons x r =>
    show (nxt (x::r) x)[i]?=_;rw[jj1 d x (x::r) i h];by_cases c:i+1<(x::r).length
    . rw[if_pos c,xal c]
    . rw[if_neg c,show i+1=(x::r).length by omega,xbc]
      rfl
theorem jmf {α:Type} (d:α) (l:List α):prs l=(List.range l.length).map fun i=>(l.getD i d,l.getD ((i+1) % l.length) d):=by
 refine xcq fun i=>?_;by_cases c:i<l.length
 ·rw[jdj d c,xat,List.getElem?_range c];rfl
 ·rw[xbq (by rw[jez];omega),xbq (by rw[xaa,xbf];omega)]
theorem jmg {α:Type} (d:α) (l:List α):((List.range l.length).map fun i=>(l.getD ((i+(l.length-1)) % l.length) d,l.getD i d))=(prs l).drop (l.length-1)++(prs l).take (l.length-1):=by
  rw[<- jdU,jmf d];have hl:(l.drop (l.length-1)++l.take (l.length-1)).length=l.length:=by
    rw[xao,xaG,xaT];omega
  rw[hl];refine xb0 fun i hi=>?_;have hi:=xaH.mp hi;have G:∀j,j<l.length->(l.drop (l.length-1)++l.take (l.length-1)).getD j d=l.getD ((j+(l.length-1)) % l.length) d:=fun j hj=>by
    rw[xac,xac]
    congr 1
    cases j with
    | zero =>
      rw[xa3 (by rw[xaG];omega),List.getElem?_drop,xbE,xal (by omega)];rfl
    | succ j =>
      rw[xaP (by rw[xaG];omega),xaG,List.getElem?_take,show j+1-(l.length-(l.length-1))=j by omega,if_pos (by omega),show j+1+(l.length-1)=j+l.length by omega,xbg,xal (by omega)]
  rw[G i hi,G _ (xaz _ (by omega))]
  congr 1
  by_cases c:i+1<l.length
  . rw[xal c,show i+1+(l.length-1)=i+l.length by omega,xbg,xal hi]
  . rw[show i+1=l.length by omega,xbc,xbE,xal (by omega),show i=l.length-1 by omega]
theorem jj2 {α β:Type} (f:α->β) (a:α):∀l:List α,nxt (l.map f) (f a)=(nxt l a).map fun e=>(f e.1,f e.2)
  | []=>rfl
  | [_]=>rfl
  | x :: y :: r => by
    show (f x,f y)::nxt ((y::r).map f) (f a)=_;rw[jj2 f a (y::r)];rfl
theorem jnt {α β:Type} (f:α->β) (l:List α):prs (l.map f)=(prs l).map fun e=>(f e.1,f e.2):=by
 cases l with
 | nil=>rfl
 | cons x r=>exact jj2 f x (x::r)
theorem qnz {i:Int} (h:i≠0):(i:Rat)≠0:=fun e=>h (by exact_mod_cast e)
def t0:Tri:=⟨0,0,0⟩
def tr (vs:List Tri) (i:Nat):Tri:=vs.getD i t0
def TpL (vs:List Tri):Prop:=Tp (tr vs) vs.length
theorem jlj {c d:Nat->Tri} (h:Tp c n) (e:∀i,i<n->d i=c i):Tp d n:=fun i j k ij jk kn=>by
 rw[e i (by omega),e j (by omega),e k kn];exact h i j k ij jk kn
def Prp (u v:Tri):Prop:=∃k m:Int,0<k/\0<m/\k*u.x=m*v.x/\k*u.y=m*v.y/\k*u.z=m*v.z
theorem Prp.refl (u:Tri):Prp u u:=⟨1,1,by decide,by decide,rfl,rfl,rfl⟩
theorem Prp.symm {u:Tri} (h:Prp u v):Prp v u:=by
 obtain⟨k,m,h1,h2,e1,e2,e3⟩:=h;exact⟨m,k,h2,h1,e1.symm,e2.symm,e3.symm⟩
theorem Prp.z {u:Tri} (h:Prp u v) (hu:1<=u.z):1<=v.z:=by
 obtain⟨k,m,h1,h2,e1,e2,e3⟩:=h;have:=xab h1 (show 0<u.z by omega);rw[e3] at this;have:=xb2 this (by omega);omega
theorem jo7 {a b c a' b' c':Tri} (ha:Prp a a') (hb:Prp b b') (hc:Prp c c') (h:0<dt a b c):0<dt a' b' c':=by
 obtain⟨k1,m1,p1,q1,x1,y1,z1⟩:=ha;obtain⟨k2,m2,p2,q2,x2,y2,z2⟩:=hb;obtain⟨k3,m3,p3,q3,x3,y3,z3⟩:=hc;have e:k1*k2*k3*dt a b c=m1*m2*m3*dt a' b' c':=by
  have s:∀(g1 g2 g3:Int) (u v w:Tri),g1*g2*g3*dt u v w=dt ⟨g1*u.x,g1*u.y,g1*u.z⟩ ⟨g2*v.x,g2*v.y,g2*v.z⟩ ⟨g3*w.x,g3*w.y,g3*w.z⟩:=fun g1 g2 g3 u v w=>by
   unfold dt ja3;grind
  rw[s,s,x1,y1,z1,x2,y2,z2,x3,y3,z3]
 have h1:=xab (xab (xab p1 p2) p3) h;rw[e] at h1;exact xb2 h1 (xab (xab q1 q2) q3)
inductive PL:List Tri->List Tri->Prop
 | nil:PL [] []
 | cons {u v:Tri} {us vs:List Tri} (h:Prp u v) (t:PL us vs):PL (u::us) (v::vs)
theorem PL.refl:∀l:List Tri,PL l l
 | []=>.nil
 | x::l=>.cons (Prp.refl x) (PL.refl l)
variable {us vs ws:List Tri}
theorem PL.len (h:PL us vs):us.length=vs.length:=by
 induction h with
 | nil=>rfl
 | cons _ _ ih=>rw[xaB,xaB,ih]
theorem PL.app {us' vs':List Tri} (h:PL us vs) (k:PL us' vs'):PL (us++us') (vs++vs'):=by
 induction h with
 | nil=>exact k
 | cons h _ ih=>exact .cons h ih
theorem PL.get (h:PL us vs):∀{i:Nat},i<us.length->Prp (tr us i) (tr vs i):=by
  induction h with
  | nil=>intro i hi;simp at hi
  | cons h _ ih =>
    intro i hi;cases i with
    | zero=>exact h
    | succ i=>exact ih (by simpa using hi)
theorem PL.tp (h:PL us vs) (t:TpL us):TpL vs:=fun i j k ij jk kn=>by
 have l:=h.len;exact jo7 (h.get (by omega)) (h.get (by omega)) (h.get (by omega)) (t i j k ij jk (by omega))
theorem PL.fm {α:Type} {f g:α->List Tri}:∀{l:List α},(∀a∈l,PL (f a) (g a))->PL (l.flatMap f) (l.flatMap g)
  | [],_=>.nil
  | a :: l, h => by
    rw[xbo,xbo];exact (h a (by simp)).app (PL.fm fun b hb=>h b (xag _ hb))
def xp (h:Tri->Int) (a b:Tri):Tri:=jgD (ab (h b)) a (ab (h a)) b
def jhN (v:Tri):Tri:=⟨v.x / gl [v.x,v.y,v.z],v.y / gl [v.x,v.y,v.z],v.z / gl [v.x,v.y,v.z]⟩
theorem jlk (hz:1<=v.z):Prp v (jhN v):=by
 have g0:0<gl [v.x,v.y,v.z]:=jco (n:=v.z) (by simp) (by omega);have d:∀n∈[v.x,v.y,v.z],gl [v.x,v.y,v.z]*(n / gl [v.x,v.y,v.z])=n:=fun n hn=>xbj (jaV hn);refine⟨1,gl [v.x,v.y,v.z],by decide,g0,?_,?_,?_⟩
 ·rw[xbt];exact (d v.x (by simp)).symm
 ·rw[xbt];exact (d v.y (by simp)).symm
 ·rw[xbt];exact (d v.z (by simp)).symm
variable {h:Tri->Int}
theorem xp_z {a b:Tri} (ha:1<=a.z) (hb:1<=b.z) (o:h a*h b<0):1<=(xp h a b).z:=by
 obtain⟨h1,h2,_,_⟩:=jdD o;have p1:=jbM h1;have p2:=jbM h2;have q1:=xab p2 (show 0<a.z by omega);have q2:=xab p1 (show 0<b.z by omega);show 1<=ab (h b)*a.z+ab (h a)*b.z;omega
def upE (h:Tri->Int) (X:Tri->Tri->Tri) (e:Tri × Tri):List Tri:=(if 0<=h e.1 then [e.1] else [])++(if h e.1*h e.2<0 then [X e.1 e.2] else [])
def upL (h:Tri->Int) (X:Tri->Tri->Tri) (vs:List Tri):List Tri:=(prs vs).flatMap (upE h X)
theorem jik {α:Type} (P:Nat->Bool) (g:Nat->α):∀m,((List.range (2*m)).filter P).map g=(List.range m).flatMap fun i=>(if P (2*i)=true then [g (2*i)] else [])++(if P (2*i+1)=true then [g (2*i+1)] else [])
  | 0=>rfl
  | m + 1 => by
    have ih:=jik P g m;have s:∀x:Nat,([x].filter P).map g=if P x=true then [g x] else []:=fun x=>by
      cases h:P x with
      | true=>rw[xa2 h,if_pos rfl];rfl
      | false=>rw[xbd (by rw[h];decide),if_neg (by decide)];rfl
    rw[show 2*(m+1)=2*m+1+1 by omega,xaZ,xaZ,xaZ (n:=m),xaD,xaD,xaq,xaq,ih,s,s,xb1,xb9];simp
theorem jil (h:Tri->Int) (vs:List Tri):upL h (xp h) vs=(clp (fun i=>h (tr vs i)) vs.length).map (el (tr vs) (fun i=>h (tr vs i)) vs.length):=by
 unfold upL clp;rw[jik,jmf t0,List.flatMap_map]
 congr 1
 funext i
 have k0:kp (fun i=>h (tr vs i)) vs.length (2*i)=decide (0<=h (tr vs i)):=by
  unfold kp;rw[if_pos (by omega),show 2*i / 2=i by omega]
 have k1:kp (fun i=>h (tr vs i)) vs.length (2*i+1)=decide (h (tr vs i)*h (tr vs ((i+1) % vs.length))<0):=by
  unfold kp;rw[if_neg (by omega),show (2*i+1) / 2=i by omega]
 have e0:el (tr vs) (fun i=>h (tr vs i)) vs.length (2*i)=tr vs i:=by
  unfold el;rw[if_pos (by omega),show 2*i / 2=i by omega]
 have e1:el (tr vs) (fun i=>h (tr vs i)) vs.length (2*i+1)=xp h (tr vs i) (tr vs ((i+1) % vs.length)):=by
  unfold el;rw[if_neg (by omega),show (2*i+1) / 2=i by omega];rfl
 rw[k0,k1,e0,e1];simp only[decide_eq_true_eq];rfl
variable {X:Tri->Tri->Tri}
theorem jnu (hX:∀a b,a∈vs->b∈vs->h a*h b<0->Prp (xp h a b) (X a b)):PL (upL h (xp h) vs) (upL h X vs):=by
 refine PL.fm fun e he=>?_;obtain⟨i,hi⟩:=xbF.mp he;have il:i<vs.length:=by have:=(xae.mp hi).1;rw[jez] at this;exact this
 rw[jdj t0 il] at hi;have hm:∀j,j<vs.length->vs.getD j t0∈vs:=fun j hj=>by
  rw[xac,xad hj];exact xaw hj
 have ee:=Option.some.inj hi;subst ee;refine PL.app (PL.refl _) ?_;by_cases o:h (vs.getD i t0)*h (vs.getD ((i+1) % vs.length) t0)<0
 ·simp only[if_pos o];exact .cons (hX _ _ (hm i il) (hm _ (xaz _ (by omega))) o) .nil
 ·simp only[if_neg o];exact .nil
theorem jo8 (n3:3<=vs.length) (t:TpL vs):TpL (upL h (xp h) vs):=by
 have z:=jns (c:=tr vs) (H:=fun i=>h (tr vs i)) n3 t;have l:(upL h (xp h) vs).length=(clp (fun i=>h (tr vs i)) vs.length).length:=by rw[jil,xaa]
 unfold TpL;rw[l];refine jlj z fun i hi=>?_;rw[jil];show ((clp (fun i=>h (tr vs i)) vs.length).map (el (tr vs) (fun i=>h (tr vs i)) vs.length)).getD i t0=el (tr vs) (fun i=>h (tr vs i)) vs.length ((clp (fun i=>h (tr vs i)) vs.length).getD i 0);rw[xac,xat,xad hi,xac,xad hi];rfl
theorem up_tp (hX:∀a b,a∈vs->b∈vs->h a*h b<0->Prp (xp h a b) (X a b)) (n3:3<=vs.length) (t:TpL vs):TpL (upL h X vs):=(jnu hX).tp (jo8 n3 t)
theorem jnv (hX:∀a b,a∈vs->b∈vs->h a*h b<0->Prp (xp h a b) (X a b)) (n3:3<=vs.length) (hi:i<vs.length) (hp:0<h (tr vs i)):3<=(upL h X vs).length:=by
 rw[<- (jnu hX).len,jil,xaa];exact jlh (H:=fun i=>h (tr vs i)) n3 hi hp
theorem jnw {C:Int} (hX:∀a b,a∈vs->b∈vs->jaA A B C a*jaA A B C b<0->Prp (xp (jaA A B C) a b) (X a b)) (t:TpL vs):(upL (jaA A B C) X vs).length<=vs.length+1:=by
 rw[<- (jnu hX).len,jil,xaa];exact jjZ t
theorem jmh (hv:v∈upL h X vs):(v∈vs/\0<=h v)\/∃a b,a∈vs/\b∈vs/\h a*h b<0/\v=X a b:=by
 obtain⟨e,he,hv⟩:=xbu.mp hv;obtain⟨i,hi⟩:=xbF.mp he;have il:i<vs.length:=by have:=(xae.mp hi).1;rw[jez] at this;exact this
 rw[jdj t0 il] at hi;have hm:∀j,j<vs.length->vs.getD j t0∈vs:=fun j hj=>by
  rw[xac,xad hj];exact xaw hj
 have ee:=Option.some.inj hi;subst ee;rcases xaA.mp hv with h1 | h1
 ·by_cases c:0<=h (vs.getD i t0)
  ·simp only[if_pos c,xaO] at h1;subst h1;exact .inl ⟨hm i il,c⟩
  ·simp only[if_neg c] at h1;cases h1
 ·by_cases c:h (vs.getD i t0)*h (vs.getD ((i+1) % vs.length) t0)<0
  ·simp only[if_pos c,xaO] at h1;exact .inr ⟨_,_,hm i il,hm _ (xaz _ (by omega)),c,h1⟩
  ·simp only[if_neg c] at h1;cases h1
def Adj {α:Type} (R:α->α->Prop):List α->Prop
 | []=>True
 | [_]=>True
 | a::b::l=>R a b/\Adj R (b::l)
theorem Adj.glue {α:Type} {R:α->α->Prop} {x:α}:∀{l m:List α},Adj R (l++[x])->Adj R (x::m)->Adj R (l++x::m)
 | [],_,_,k=>k
 | [a],_,h,k=>⟨h.1,k⟩
 | a::b::l,m,h,k=>⟨h.1,Adj.glue (l:=b::l) h.2 k⟩
theorem Adj.left {α:Type} {R:α->α->Prop} {x:α}:∀{l m:List α},Adj R (l++x::m)->Adj R (l++[x])
 | [],_,_=>trivial
 | [a],_,h=>⟨h.1,trivial⟩
 | a::b::l,m,h=>⟨h.1,Adj.left (l:=b::l) h.2⟩
theorem Adj.right {α:Type} {R:α->α->Prop} {x:α}:∀{l m:List α},Adj R (l++x::m)->Adj R (x::m)
 | [],_,h=>h
 | [a],_,h=>h.2
 | a::b::l,m,h=>Adj.right (l:=b::l) h.2
theorem Adj.get {α:Type} {R:α->α->Prop}:∀{l:List α},Adj R l->∀(i:Nat) (x y:α),l[i]?=some x->l[i+1]?=some y->R x y
  | [],_,i,x,y,h,_=>by simp at h
  | [a],_,i,x,y,_,h=>by simp at h
  | a :: b :: l, h, 0, x, y, h1, h2 => by
    cases h1;cases h2;exact h.1
  | a::b::l,h,i+1,x,y,h1,h2=>Adj.get (l:=b::l) h.2 i x y h1 h2
def ax (v:Tri):Rat:=(v.x:Rat) / (v.z:Rat)
def ay (v:Tri):Rat:=(v.y:Rat) / (v.z:Rat)
def c2q (a b:Tri):Rat:=ax a*ay b-ay a*ax b
theorem jo9 {a b:Tri} (h:Prp a b) (hz:1<=a.z):ax a=ax b/\ay a=ay b:=by
 have hz':=h.z hz;obtain⟨k,m,h1,h2,e1,e2,e3⟩:=h;have z1:=qnz (show a.z≠0 by omega);have z2:=qnz (show b.z≠0 by omega);have z3:=qnz (show k≠0 by omega);have z4:=qnz (show m≠0 by omega);have f1:(k:Rat)*(a.x:Rat)=(m:Rat)*(b.x:Rat):=by exact_mod_cast e1
 have f2:(k:Rat)*(a.y:Rat)=(m:Rat)*(b.y:Rat):=by exact_mod_cast e2
 have f3:(k:Rat)*(a.z:Rat)=(m:Rat)*(b.z:Rat):=by exact_mod_cast e3
 unfold ax ay;have cancel:∀x y:Rat,(k:Rat)*x=(m:Rat)*y->x / (a.z:Rat)=y / (b.z:Rat):=fun x y e=>by
  have e4:x=((m:Rat)*y) / (k:Rat):=by grind
  have e5:(a.z:Rat)=((m:Rat)*(b.z:Rat)) / (k:Rat):=by grind
  rw[e4,e5];grind
 exact⟨cancel _ _ f1,cancel _ _ f2⟩
theorem jaJ {l:List Tri} (h:i<l.length):tr l i∈l:=by
 unfold tr;rw[xac,xad h];exact xaw h
theorem jeh {l:List Tri} (h:v∈l):∃i,i<l.length/\tr l i=v:=by
 obtain⟨i,hi,rfl⟩:=xbv.mp h;refine⟨i,hi,?_⟩;unfold tr;rw[xac,xad hi];rfl
theorem jnx {a b:Tri} (ha:1<=a.z) (hb:1<=b.z) (o:h a*h b<0) (hv:Prp (xp h a b) v):c2q a v+c2q v b=c2q a b:=by
 obtain⟨e1,e2⟩:=jo9 hv (xp_z ha hb o);obtain⟨h1,h2,_,_⟩:=jdD o;have p1:=jbM h1;have p2:=jbM h2;unfold c2q;rw[<- e1,<- e2];have q1:=xab p2 (show 0<a.z by omega);have q2:=xab p1 (show 0<b.z by omega);have z0:=qnz (show ab (h b)*a.z+ab (h a)*b.z≠0 by omega);have z1:=qnz (show a.z≠0 by omega);have z2:=qnz (show b.z≠0 by omega);have u:ax (xp h a b)*((ab (h b):Rat)*(a.z:Rat)+(ab (h a):Rat)*(b.z:Rat))=(ab (h b):Rat)*(a.z:Rat)*ax a+(ab (h a):Rat)*(b.z:Rat)*ax b:=by
  unfold ax xp jgD
  push_cast at z0 |-
  grind
 have w:ay (xp h a b)*((ab (h b):Rat)*(a.z:Rat)+(ab (h a):Rat)*(b.z:Rat))=(ab (h b):Rat)*(a.z:Rat)*ay a+(ab (h a):Rat)*(b.z:Rat)*ay b:=by
  unfold ay xp jgD
  push_cast at z0 |-
  grind
 push_cast at z0
 generalize ax (xp h a b)=X at *
 generalize ay (xp h a b)=Y at *
 generalize ax a=xa at *
 generalize ay a=ya at *
 generalize ax b=xb at *
 generalize ay b=yb at *
 generalize (ab (h b):Rat)*(a.z:Rat)=p at *
 generalize (ab (h a):Rat)*(b.z:Rat)=q at *
 have f:(xa*Y-ya*X+(X*yb-Y*xb))*(p+q)=(xa*yb-ya*xb)*(p+q):=by grind
 grind
theorem jny {C:Int} {a b c u:Tri} (hu:jaA A B C u≠0) (ha:jaA A B C a=0) (hb:jaA A B C b=0) (hc:jaA A B C c=0):dt a b c=0:=by
 unfold jaA at *
 have k1:A*dt a b c=0:=by unfold dt ja3;grind
 have k2:B*dt a b c=0:=by unfold dt ja3;grind
 have k3:C*dt a b c=0:=by unfold dt ja3;grind
 rcases xah.mp k1 with r1 | r1
 ·rcases xah.mp k2 with r2 | r2
  ·rcases xah.mp k3 with r3 | r3
   ·exact (hu (by rw[r1,r2,r3];grind)).elim
   ·exact r3
  ·exact r2
 ·exact r1
def agE (h:Tri->Int) (X:Tri->Tri->Tri) (e:Tri × Tri):List Tri:=e.1::(if h e.1*h e.2<0 then [X e.1 e.2] else [])
def agL (h:Tri->Int) (X:Tri->Tri->Tri) (vs:List Tri):List Tri:=(prs vs).flatMap (agE h X)
theorem jj3 {h:Tri->Int} {X:Tri->Tri->Tri} (k:Tri->Bool) (g:Tri × Tri->List Tri):∀{l:List (Tri × Tri)},(∀e∈l,(agE h X e).filter k=g e)->(l.flatMap (agE h X)).filter k=l.flatMap g
  | [],_=>rfl
  | e :: l, H => by
    rw[xbo,xbo,xaD,H e (by simp),jj3 k g fun a ha=>H a (xag _ ha)]
variable {e:Tri × Tri}
theorem jdk (he:e∈prs vs):e.1∈vs/\e.2∈vs:=by
 obtain⟨i,hi⟩:=xbF.mp he;have il:i<vs.length:=by have:=(xae.mp hi).1;rw[jez] at this;exact this
 rw[jdj t0 il] at hi;have ee:=Option.some.inj hi;subst ee;exact⟨jaJ il,jaJ (xaz _ (by omega))⟩
theorem ag_up (hX:∀a b,a∈vs->b∈vs->h a*h b<0->h (X a b)=0):(agL h X vs).filter (fun p=>decide (0<=h p))=upL h X vs:=by
 refine jj3 _ _ fun e he=>?_;obtain⟨m1,m2⟩:=jdk he;unfold agE upE;have x0:=hX _ _ m1 m2;by_cases o:h e.1*h e.2<0
 ·have x1:=x0 o;by_cases c:0<=h e.1<;>simp [o,c,x1]
 ·by_cases c:0<=h e.1<;>simp [o,c]
theorem jpa {S:Tri->Prop} (hz:∀v,S v->1<=v.z) (hX:∀a b,S a->S b->h a*h b<0->Prp (xp h a b) (X a b)/\h (X a b)=0) {a:Tri} (sa:S a):∀(r:List Tri) (x:Tri),S x->(∀v∈r,S v) ->
    ∃w,(nxt (x::r) a).flatMap (agE h X)=x::w/\Adj (fun x y=>¬(h x<0/\0<h y)/\¬(0<h x/\h y<0)) (x::w++[a])/\rs ((nxt (x::w) a).map fun e=>c2q e.1 e.2)=rs ((nxt (x::r) a).map fun e=>c2q e.1 e.2):=by
  have one:∀x y,S x->S y->Adj (fun x y=>¬(h x<0/\0<h y)/\¬(0<h x/\h y<0)) (agE h X (x,y)++[y])/\rs ((nxt (agE h X (x,y)) y).map fun e=>c2q e.1 e.2)=c2q x y:=fun x y sx sy=>by
    unfold agE;by_cases o:h x*h y<0
    . obtain⟨k1,k2⟩:=hX x y sx sy o
      simp only[if_pos o];refine⟨⟨⟨by omega,by omega⟩,⟨by omega,by omega⟩,trivial⟩,?_⟩;show c2q x (X x y)+(c2q (X x y) y+0)=_;have:=jnx (hz x sx) (hz y sy) o k1;grind
    . simp only[if_neg o]
      refine⟨⟨⟨fun z=>o (opp_iff.mpr (.inr z)),fun z=>o (opp_iff.mpr (.inl z))⟩,trivial⟩,?_⟩;show c2q x y+0=_;grind
  intro r;induction r with
  | nil =>
    intro x sx _;obtain⟨o1,o2⟩:=one x a sx sa;refine⟨if h x*h a<0 then [X x a] else [],?_,o1,?_⟩
    . show agE h X (x,a)++[]=_
      rw[List.append_nil];rfl
    . show _=c2q x a+0
      exact o2.trans (by grind)
  | cons y r ih =>
    intro x sx sr;obtain⟨w,e1,e2,e3⟩:=ih y (sr y (by simp)) fun v hv=>sr v (xag _ hv);obtain⟨o1,o2⟩:=one x y sx (sr y (by simp));refine⟨(if h x*h y<0 then [X x y] else [])++y::w,?_,?_,?_⟩
    . show agE h X (x,y)++(nxt (y::r) a).flatMap (agE h X)=_
      rw[e1];rfl
    . have g:=Adj.glue (l:=agE h X (x,y)) (x:=y) (m:=w++[a]) o1 e2
      have e:x::((if h x*h y<0 then [X x y] else [])++y::w)++[a]=agE h X (x,y)++y::(w++[a]):=by
        unfold agE;simp
      rw[e];exact g
    . have e:x::((if h x*h y < 0 then [X x y] else [])++y::w)=agE h X (x,y)++y::w:=rfl
      rw[e,jgC,xaq,jme,o2,e3];rfl
theorem jj4 {C m:Int} {u:Tri} (e1:k*u.x=m*v.x) (e2:k*u.y=m*v.y) (e3:k*u.z=m*v.z):k*jaA A B C u=m*jaA A B C v:=by
 unfold jaA;grind
theorem jgF {C:Int} {u:Tri} (h:Prp u v) (z:jaA A B C u=0):jaA A B C v=0:=by
 obtain⟨k,m,k0,m0,e1,e2,e3⟩:=h;have e:=jj4 (A:=A) (B:=B) (C:=C) e1 e2 e3;rw[z,xaj] at e;rcases xah.mp e.symm with r | r
 ·omega
 ·exact r
theorem je7 {α β:Type} {f g:α->List β}:∀{l:List α},(∀a∈l,f a=g a)->l.flatMap f=l.flatMap g
 | [],_=>rfl
 | a::l,h=>by rw[xbo,xbo,h a (by simp),je7 fun b hb=>h b (xag _ hb)]
theorem jeA {α β:Type} {f g:α->Option β}:∀{l:List α},(∀a∈l,f a=g a)->l.filterMap f=l.filterMap g
 | [],_=>rfl
 | a::l,h=>by rw[xbL,xbL,h a (by simp),jeA fun b hb=>h b (xag _ hb)]
theorem jgG (h:pl4 p=pl4 q):p=q:=by
 unfold pl4 at h;injection h with h1 h
 injection h with h2 h
 injection h with h3 h
 injection h with h4 _
 cases p;cases q
 simp_all
def jll (Z:Sht) (v:Tri):List Int:=[rX Z v,rY Z v,rZ Z v,rW Z v]
theorem jhO (Z:Sht) (v:Tri):pl4 (spt Z v)=low (jll Z v):=rfl
theorem jnz {u:Tri} {m:Int} (e1:k*u.x=m*v.x) (e2:k*u.y=m*v.y) (e3:k*u.z=m*v.z):(jll Z u).map (k*·)=(jll Z v).map (m*·):=by
 unfold jll rX rY rZ rW;simp only[xa5,xca]
 congr 1
 ·grind
 ·congr 1
  ·grind
  ·congr 1
   ·grind
   ·congr 1
    grind
theorem jnA {u:Tri} (h:Prp u v):spt Z u=spt Z v:=by
 obtain⟨k,m,k0,m0,e1,e2,e3⟩:=h;refine jgG ?_;rw[jhO,jhO,<- jhH k0 (jll Z u),<- jhH m0 (jll Z v),jnz e1 e2 e3]
def lnA (Z:Sht) (x y z:Int):Int:=Z.w*(x*Z.c.x+y*Z.c.y+z*Z.c.z)
def lnB (Z:Sht) (x y z:Int):Int:=Z.w*(x*Z.d.x+y*Z.d.y+z*Z.d.z)
def lnC (Z:Sht) (x y z v:Int):Int:=x*Z.s.x+y*Z.s.y+z*Z.s.z-v*Z.w
def hL (Z:Sht) (x y z v:Int):Tri->Int:=jaA (lnA Z x y z) (lnB Z x y z) (lnC Z x y z v)
theorem jgH (Z:Sht) (x y z v:Int) (a:Tri):rG Z a*hgt x y z v (spt Z a)=hL Z x y z v a:=by
 obtain⟨e1,e2,e3,e4⟩:=ja9 Z a;have e:rG Z a*hgt x y z v (spt Z a)=x*(rG Z a*(spt Z a).x)+y*(rG Z a*(spt Z a).y)+z*(rG Z a*(spt Z a).z)-v*(rG Z a*(spt Z a).w):=by
  unfold hgt;grind
 rw[e,e1,e2,e3,e4];unfold hL jaA lnA lnB lnC rX rY rZ rW;grind
theorem jeB {z v:Int} {a:Tri} (hw:1<=Z.w) (ha:1<=a.z):(0<hgt x y z v (spt Z a)↔0<hL Z x y z v a)/\(hgt x y z v (spt Z a)<0↔hL Z x y z v a<0):=by
 have g:=jaY (Z:=Z) (v:=a) hw ha;rw[<- jgH];generalize hgt x y z v (spt Z a)=n;refine⟨⟨fun h=>xab g h,fun h=>xb2 h g⟩,⟨fun h=>xak g h,fun h=>?_⟩⟩;rcases xaE n 0 with q | q
 ·exact q
 ·have:=xaf (xan g) q;omega
theorem jj5 {z v:Int} {a b:Tri} (hw:1<=Z.w) (ha:1<=a.z) (hb:1<=b.z):hgt x y z v (spt Z a)*hgt x y z v (spt Z b)<0↔hL Z x y z v a*hL Z x y z v b<0:=by
 rw[opp_iff,opp_iff,(jeB hw ha).1,(jeB hw ha).2,(jeB hw hb).1,(jeB hw hb).2]
theorem sgn_opp {b:Int}:sgn a*sgn b<0↔a*b<0:=by
 rw[opp_iff,opp_iff];unfold sgn;rcases xa8 a 0 with h | h | h<;>rcases xa8 b 0 with k | k | k
 all_goals (simp only[gt_iff_lt];(repeat' split)<;>omega)
theorem jhP (hq:0<q.w) (h:pl4 r=(pl4 q).map (-1*·)):jbg r=jbg q:=by
 have e:r=⟨-q.x,-q.y,-q.z,-q.w⟩:=jgG (h.trans (by unfold pl4;simp));subst e;unfold jbg;rw[if_pos (show -q.w<0 by omega),if_neg (show ¬q.w<0 by omega)];simp only[Int.neg_neg]
theorem jnB (hq:0<q.w):pl4 (jbg q)=low (pl4 q):=by
 unfold jbg;rw[if_neg (show ¬q.w<0 by omega)];rfl
theorem jnC {z v:Int} {a b:Tri} (hw:1<=Z.w) (ha:1<=a.z) (hb:1<=b.z) (o:hL Z x y z v a*hL Z x y z v b<0):jbg (jcD x y z v (spt Z a) (spt Z b))=spt Z (xp (hL Z x y z v) a b):=by
 have o':=(jj5 hw ha hb).mpr o;have ga:=jaY (Z:=Z) (v:=a) hw ha;have gb:=jaY (Z:=Z) (v:=b) hw hb;have wa:=jhf (Z:=Z) hw ha;have wb:=jhf (Z:=Z) hw hb;have la:=jgH Z x y z v a;have lb:=jgH Z x y z v b;obtain⟨a1,a2,a3,a4⟩:=ja9 Z a;obtain⟨b1,b2,b3,b4⟩:=ja9 Z b;obtain⟨n1,n2,_,_⟩:=jdD o';have q1:=jbM n1;have q2:=jbM n2;have abm:∀{g n:Int},0<g->ab (g*n)=g*ab n:=fun {g n} hg=>by
  unfold ab;by_cases c:n<0
  ·rw[if_pos c,if_pos (xak hg c)];grind
  ·rw[if_neg c,if_neg (by have:=xaf (xan hg) (show 0<=n by omega);omega)]
 have ea:ab (hL Z x y z v a)=rG Z a*ab (hgt x y z v (spt Z a)):=by rw[<- la,abm ga]
 have eb:ab (hL Z x y z v b)=rG Z b*ab (hgt x y z v (spt Z b)):=by rw[<- lb,abm gb]
 let q:Pt:=⟨ab (hgt x y z v (spt Z b))*(spt Z a).x+ab (hgt x y z v (spt Z a))*(spt Z b).x,ab (hgt x y z v (spt Z b))*(spt Z a).y+ab (hgt x y z v (spt Z a))*(spt Z b).y,ab (hgt x y z v (spt Z b))*(spt Z a).z+ab (hgt x y z v (spt Z a))*(spt Z b).z,ab (hgt x y z v (spt Z b))*(spt Z a).w+ab (hgt x y z v (spt Z a))*(spt Z b).w⟩
 have qw:0<q.w:=by
  have h1:=xab q2 (show 0<(spt Z a).w by omega);have h2:=xab q1 (show 0<(spt Z b).w by omega);show 0<ab (hgt x y z v (spt Z b))*(spt Z a).w+ab (hgt x y z v (spt Z a))*(spt Z b).w;omega
 have raw:jll Z (xp (hL Z x y z v) a b)=(pl4 q).map (rG Z a*rG Z b*·):=by
  have lin:jll Z (xp (hL Z x y z v) a b)=[ab (hL Z x y z v b)*rX Z a+ab (hL Z x y z v a)*rX Z b,ab (hL Z x y z v b)*rY Z a+ab (hL Z x y z v a)*rY Z b,ab (hL Z x y z v b)*rZ Z a+ab (hL Z x y z v a)*rZ Z b,ab (hL Z x y z v b)*rW Z a+ab (hL Z x y z v a)*rW Z b]:=by
   unfold xp;generalize ab (hL Z x y z v b)=p;generalize ab (hL Z x y z v a)=r;unfold jll rX rY rZ rW jgD;simp only[List.cons.injEq,and_true];refine⟨?_,?_,?_,?_⟩<;>grind
  rw[lin,ea,eb,<- a1,<- a2,<- a3,<- a4,<- b1,<- b2,<- b3,<- b4];show _=[rG Z a*rG Z b*q.x,rG Z a*rG Z b*q.y,rG Z a*rG Z b*q.z,rG Z a*rG Z b*q.w];simp only[q,List.cons.injEq,and_true];refine⟨?_,?_,?_,?_⟩<;>grind
 have fin:jbg (jcD x y z v (spt Z a) (spt Z b))=jbg q:=by
  rcases opp_iff.mp o' with ⟨p1,p2⟩ | ⟨p1,p2⟩
  ·refine jhP qw ?_;have e1:ab (hgt x y z v (spt Z a))=hgt x y z v (spt Z a):=if_neg (by omega);have e2:ab (hgt x y z v (spt Z b))=-hgt x y z v (spt Z b):=if_pos p2;show _=[-1*q.x,-1*q.y,-1*q.z,-1*q.w];simp only[q];rw[e1,e2];unfold pl4 jcD;simp only[List.cons.injEq,and_true];refine⟨?_,?_,?_,?_⟩<;>grind
  ·congr 1
   have e1:ab (hgt x y z v (spt Z a))=-hgt x y z v (spt Z a):=if_pos p1;have e2:ab (hgt x y z v (spt Z b))=hgt x y z v (spt Z b):=if_neg (by omega);refine jgG ?_;show _=[q.x,q.y,q.z,q.w];simp only[q];rw[e1,e2];unfold pl4 jcD;simp only[List.cons.injEq,and_true];refine⟨?_,?_,?_,?_⟩<;>grind
 rw[fin];refine jgG ?_;rw[jnB qw,jhO,raw,jhH (xab ga gb)]
def fK (x y z v:Int):Pt ⊕ Pt × Pt->Option Pt
 | .inl p=>if 0<=hgt x y z v p then some p else none
 | .inr e=>if hgt x y z v e.1*hgt x y z v e.2<0 then some (jbg (jcD x y z v e.1 e.2)) else none
theorem jpb {z v:Int} {o:Pt} (hp:1<=p.w) (ho:1<=o.w) (h:hgt x y z v p*hgt x y z v o<0):jbg (jcD x y z v o p)=jbg (jcD x y z v p o):=by
 have m:∀{p o:Pt},pl4 (jcD x y z v o p)=(pl4 (jcD x y z v p o)).map (-1*·):=fun {p o}=>by
  unfold pl4 jcD;simp only[xa5,xca,List.cons.injEq,and_true];refine⟨?_,?_,?_,?_⟩<;>grind
 rcases opp_iff.mp h with ⟨p1,p2⟩ | ⟨p1,p2⟩
 ·have h1:=xay p2 (show 0<p.w by omega);have h2:=xab p1 (show 0<o.w by omega);exact (jhP (show 0<hgt x y z v p*o.w-hgt x y z v o*p.w by omega) m).symm
 ·have h1:=xab p2 (show 0<p.w by omega);have h2:=xay p1 (show 0<o.w by omega);exact jhP (show 0<hgt x y z v o*p.w-hgt x y z v p*o.w by omega) m
theorem jj6 (d e:List (Pt × Int)):kHi (d++e)=kHi d++kHi e:=by
 unfold kHi;rw[xaD,xaq]
theorem jmi {α:Type} (g:α->List (Pt × Int)):∀l:List α,kHi (l.flatMap g)=l.flatMap fun a=>kHi (g a)
 | []=>rfl
 | a::l=>by rw[xbo,xbo,jj6,jmi g l]
theorem sgn_nn_iff {n:Int}:0<=sgn n↔0<=n:=by
 unfold sgn
 (repeat' split)<;>omega
theorem jpc (x y z v:Int) (p o:Pt):kHi (jiP x y z v p o)=[Sum.inr (p,o),Sum.inl o].filterMap (fK x y z v):=by
 unfold jiP;rw[jj6];have e1:kHi (if sgn (hgt x y z v p)*sgn (hgt x y z v o)<0 then [(jbg (jcD x y z v p o),0)] else [])=if hgt x y z v p*hgt x y z v o<0 then [jbg (jcD x y z v p o)] else []:=by
  by_cases c:hgt x y z v p*hgt x y z v o<0
  ·rw[if_pos (sgn_opp.mpr c),if_pos c];rfl
  ·rw[if_neg (fun h=>c (sgn_opp.mp h)),if_neg c];rfl
 have e2:kHi [(o,sgn (hgt x y z v o))]=if 0<=hgt x y z v o then [o] else []:=by
  unfold kHi;by_cases c:0<=hgt x y z v o
  ·rw[if_pos c,xa2 (by exact decide_eq_true (sgn_nn_iff.mpr c))];rfl
  ·rw[if_neg c,xbd (by simp only[decide_eq_true_eq];exact fun h=>c (sgn_nn_iff.mp h))];rfl
 rw[e1,e2];by_cases c:hgt x y z v p*hgt x y z v o<0<;>by_cases d:0<=hgt x y z v o<;>simp [fK,c,d]
theorem jpd (x y z v:Int) (ps:List Pt):kHi (sdd x y z v ps ps.length)=(TB (prs (ps.drop (ps.length-1)++ps.take (ps.length-1)))).filterMap (fK x y z v):=by
 unfold sdd;rw[jmi,jdU,<- jmg p0];unfold TB;rw[List.filterMap_flatMap,List.flatMap_map]
 congr 1
 funext i
 exact jpc ..
theorem tt_up {z v:Int} (hw:1<=Z.w) (hz:∀u∈vs,1<=u.z) (hX:∀a b,a∈vs->b∈vs->hL Z x y z v a*hL Z x y z v b<0->Prp (xp (hL Z x y z v) a b) (X a b)) :
  (TT (prs (vs.map (spt Z)))).filterMap (fK x y z v)=(upL (hL Z x y z v) X vs).map (spt Z):=by
 unfold TT upL;rw[jnt,List.filterMap_flatMap,List.flatMap_map,List.map_flatMap];refine je7 fun e he=>?_;obtain⟨m1,m2⟩:=jdk he;have z1:=hz _ m1;have z2:=hz _ m2;have i1:(0<=hgt x y z v (spt Z e.1))↔0<=hL Z x y z v e.1:=by
  have:=(jeB (x:=x) (y:=y) (z:=z) (v:=v) hw z1).2;omega
 have i2:=jj5 (x:=x) (y:=y) (z:=z) (v:=v) hw z1 z2;have i3:hL Z x y z v e.1*hL Z x y z v e.2<0->jbg (jcD x y z v (spt Z e.1) (spt Z e.2))=spt Z (X e.1 e.2):=fun o=>(jnC hw z1 z2 o).trans (jnA (hX _ _ m1 m2 o));unfold upE;by_cases c:0<=hL Z x y z v e.1<;>by_cases d:hL Z x y z v e.1*hL Z x y z v e.2<0
 ·have:=i3 d;simp [fK,i1,i2,c,d,this]
 ·simp [fK,i1,i2,c,d]
 ·have:=i3 d;simp [fK,i1,i2,c,d,this]
 ·simp [fK,i1,i2,c,d]
theorem jfJ {z v:Int} (hw:1<=Z.w) (hz:∀u∈vs,1<=u.z) (hX:∀a b,a∈vs->b∈vs->hL Z x y z v a*hL Z x y z v b<0->Prp (xp (hL Z x y z v) a b) (X a b)) (r:RR (vs.map (spt Z)) ps) :
    RR ((upL (hL Z x y z v) X vs).map (spt Z)) (kHi (sdd x y z v ps ps.length)):=by
  have wp:∀p∈ps,1<=p.w:=fun p hp=>by
    obtain⟨u,hu,rfl⟩:=xai.mp (r.mem.mp hp);exact jhf hw (hz u hu)
  let f':Pt ⊕ Pt × Pt->Option Pt:=fun s=>match s with
    | .inl p=>fK x y z v (.inl p)
    | .inr e=>if 1<=e.1.w/\1<=e.2.w then fK x y z v (.inr e) else none
  have sym:∀s,f' (swS s)=f' s:=fun s=>by
    cases s with
    | inl p=>rfl
    | inr e =>
      show (if 1<=e.2.w/\1<=e.1.w then fK x y z v (.inr (e.2,e.1)) else none)=if 1<=e.1.w/\1<=e.2.w then fK x y z v (.inr e) else none;by_cases c:1<=e.1.w/\1<=e.2.w
      . rw[if_pos c,if_pos ⟨c.2,c.1⟩]
        unfold fK;have cm:hgt x y z v e.2*hgt x y z v e.1=hgt x y z v e.1*hgt x y z v e.2:=xaL _ _;by_cases o:hgt x y z v e.1*hgt x y z v e.2<0
        . simp only[cm,if_pos o]
          rw[jpb c.1 c.2 o]
        . simp only[cm,if_neg o]
      . rw[if_neg c,if_neg fun q=>c ⟨q.2,q.1⟩]
  have pm:∀{l:List Pt} {e:Pt × Pt},e∈prs l->e.1∈l/\e.2∈l:=fun {l e} he=>by
    obtain⟨i,hi⟩:=xbF.mp he;have il:i<l.length:=by have:=(xae.mp hi).1;rw[jez] at this;exact this
    rw[jdj p0 il] at hi;have ee:=Option.some.inj hi;subst ee;exact⟨jaD il,jaD (xaz _ (by omega))⟩
  have same:∀{l:List Pt},(∀p∈l,1<=p.w)->∀s:Pt ⊕ Pt × Pt,(s∈TT (prs l)\/s∈TB (prs l))->f' s=fK x y z v s:=fun {l} hl s hs=>by
    cases s with
    | inl p=>rfl
    | inr e =>
      have he:e∈prs l:=by
        rcases hs with h | h
        . obtain⟨e',he',h⟩:=xbu.mp h
          simp at h;rw[h];exact he'
        . obtain⟨e',he',h⟩:=xbu.mp h
          simp at h;rw[h];exact he'
      obtain⟨m1,m2⟩:=pm he;exact if_pos ⟨hl _ m1,hl _ m2⟩
  have w0:∀p∈vs.map (spt Z),1<=p.w:=fun p hp=>wp p (r.mem.mpr hp);have r2:RR (vs.map (spt Z)) (ps.drop (ps.length-1)++ps.take (ps.length-1)):=.rot _ r;have t1:=jnp f' sym r2;have t2:=(jmc (ps.drop (ps.length-1)++ps.take (ps.length-1))).fm f';have w2:∀p∈ps.drop (ps.length-1)++ps.take (ps.length-1),1<=p.w:=fun p hp=>wp p (by
    rcases xaA.mp hp with h | h
    . exact xch h
    . exact xbT h)
  have t3:=t1.trans t2;rw[jeA fun s hs=>same w0 s (.inl hs),jeA (g:=fK x y z v) (l:=TB _) fun s hs=>same w2 s (.inr hs)] at t3;rw[jpd,<- tt_up hw hz hX];exact t3
theorem RR.dih {l m:List Pt} (h:RR l m) (n3:3<=l.length) (n9:l.length<=17):Dih l m:=by
  induction h with
  | refl=>exact Dih.refl n3
  | @rot m k h ih =>
    by_cases c:k<l.length
    . exact ih.rot n9 c
    . rw[jgB m (by have:=h.len; omega)]
      exact ih
  | rev _ ih=>exact ih.rev n9
theorem jpe (l:List Pt) (qs:List Pt):RR l (frm qs l):=by
  have t:∀(b:Bool) (m:List Pt),RR m (turn b m):=fun b m=>by
    unfold turn;by_cases c:b=true
    . rw[if_pos c]
      cases m with
      | nil=>exact .refl _
      | cons x r =>
        have z:=RR.rot (l:=x::r) r.reverse.length (.rev (.refl _));rw[xaR,xbU,xbV] at z;exact z
    . rw[if_neg c]
      exact .refl _
  unfold frm;exact (RR.rot (fF qs) (.refl l)).trans (t _ _)
theorem jpf (hq:q.w≠0):jbg ⟨-q.x,-q.y,-q.z,-q.w⟩=jbg q:=by
 unfold jbg;by_cases c:q.w<0
 ·rw[if_pos c,if_neg (show ¬-q.w<0 by omega)]
 ·rw[if_neg c,if_pos (show -q.w<0 by omega)];simp only[Int.neg_neg]
theorem jim (x y z v:Int) (p:Pt):hgt (-x) (-y) (-z) (-v) p=-hgt x y z v p:=by
 unfold hgt;grind
theorem jmj (n:Int):sgn (-n)=-sgn n:=by
 unfold sgn
 (repeat' split)<;>omega
theorem jpg {z v:Int} {o:Pt} (hp:1<=p.w) (ho:1<=o.w):jiP (-x) (-y) (-z) (-v) p o=(jiP x y z v p o).map fun d=>(d.1,-d.2):=by
 unfold jiP;rw[jim,jim,jmj,jmj];have e:-sgn (hgt x y z v p)*-sgn (hgt x y z v o)=sgn (hgt x y z v p)*sgn (hgt x y z v o):=by grind
 rw[e];by_cases c:sgn (hgt x y z v p)*sgn (hgt x y z v o)<0
 ·have w:=jma hp ho c;have e2:jcD (-x) (-y) (-z) (-v) p o=⟨-(jcD x y z v p o).x,-(jcD x y z v p o).y,-(jcD x y z v p o).z,-(jcD x y z v p o).w⟩:=by
   unfold jcD;simp only[jim]
   congr 1<;>grind
  rw[if_pos c,if_pos c,e2,jpf w];rfl
 ·rw[if_neg c,if_neg c];rfl
theorem jph (l:List (Pt × Int)):kLo l=kHi (l.map fun d=>(d.1,-d.2)):=by
  unfold kLo kHi;induction l with
  | nil=>rfl
  | cons d l ih =>
    rw[xa5];by_cases c:d.2<=0
    . rw[xa2 (by exact decide_eq_true c),xa2 (by simp only[decide_eq_true_eq];omega),xa5,xa5,ih]
    . rw[xbd (by simp only[decide_eq_true_eq];omega),xbd (by simp only[decide_eq_true_eq];omega),ih]
theorem jnD {z v:Int} (hp:∀p∈ps,1<=p.w):kLo (sdd x y z v ps ps.length)=kHi (sdd (-x) (-y) (-z) (-v) ps ps.length):=by
 rw[jph]
 congr 1
 unfold sdd;rw[List.map_flatMap];refine je7 fun i hi=>?_;have hi:=xaH.mp hi;exact (jpg (hp _ (jaD (xaz _ (by omega)))) (hp _ (jaD hi))).symm
theorem jpi (Z:Sht) (x y z v:Int) (a:Tri):hL Z (-x) (-y) (-z) (-v) a=-hL Z x y z v a:=by
 unfold hL jaA lnA lnB lnC;grind
theorem jpj {c:Nat->Tri} {k:Nat} (h:Tp c n) (hi:i<n) (hj:j<n) (hk:k<n) (ij:i≠j) (jk:j≠k) (ik:i≠k):dt (c i) (c j) (c k)≠0:=by
 have s1:∀a b d:Tri,dt a b d=-dt b a d:=fun a b d=>by unfold dt ja3;grind
 have s2:∀a b d:Tri,dt a b d=-dt a d b:=fun a b d=>by unfold dt ja3;grind
 have P:∀{i j k:Nat},i<n->j<n->k<n->i<j->j<k->0<dt (c i) (c j) (c k):=fun _ _ h3 h4 h5=>h _ _ _ h4 h5 h3;rcases xb5 ij with a | a<;>rcases xb5 jk with b | b<;>rcases xb5 ik with d | d
 ·have:=P hi hj hk a b;omega
 ·omega
 ·have:=P hi hk hj d b;have:=s2 (c i) (c j) (c k);omega
 ·have:=P hk hi hj d a;have e1:=s2 (c i) (c j) (c k);have e2:=s1 (c i) (c k) (c j);omega
 ·have:=P hj hi hk a d;have:=s1 (c i) (c j) (c k);omega
 ·have:=P hj hk hi b d;have e1:=s1 (c i) (c j) (c k);have e2:=s2 (c j) (c i) (c k);omega
 ·omega
 ·have:=P hk hj hi b a;have e1:=s1 (c i) (c j) (c k);have e2:=s2 (c j) (c i) (c k);have e3:=s1 (c j) (c k) (c i);omega
theorem jbR (h:i<us.length):pt (us.map (spt Z)) i=spt Z (tr us i):=by
 unfold pt tr;rw[xac,xat,xad h,xac,xad h];rfl
theorem jga {m:Nat} {b c z:Int} (ha:Bd n a) (hb:Bd n b) (hc:Bd n c) (hx:Bd m x) (hy:Bd m y) (hz:Bd m z):Bd (n+m+2) (a*x+b*y+c*z):=Bd.add (Bd.add (Bd.mul ha hx) (Bd.mul hb hy)) (Bd.mono (Bd.mul hc hz) (xck _))
def bt (h:Tri->Int) (a b:Tri):Tri:=jhN (xp h a b)
theorem jpk {α:Type} {xs:List α} {i:Int} {v:α} (e:i=(j:Int)) (h:xs[j]?=some v):atI xs i=some v:=by
 subst e;exact ja5 h
theorem jin {m:Nat} (h:v.bd n) (e:n<=m:=by decide):v.bd m:=⟨Bd.mono h.1 e,Bd.mono h.2.1 e,Bd.mono h.2.2 e⟩
open Classical in
noncomputable def UP (h:Tri->Int) (vs:List Tri):List Tri:=if ∃v∈vs,0<h v then upL h (bt h) vs else []
theorem jhi {a b:Tri} (ha:1<=a.z) (hb:1<=b.z) (o:h a*h b<0):Prp (xp h a b) (bt h a b):=jlk (xp_z ha hb o)
theorem jmk (hh:∀v∈vs,0<=h v):upL h X vs=vs:=by
  unfold upL;have e:(prs vs).flatMap (upE h X)=(prs vs).flatMap fun e=>[e.1]:=je7 fun e he=>by
    obtain⟨m1,m2⟩:=jdk he;unfold upE;rw[if_pos (hh _ m1),if_neg (by have:=xaf (hh _ m1) (hh _ m2);omega)];rfl
  rw[e];have g:∀(r:List Tri) (x a:Tri),(nxt (x::r) a).flatMap (fun e=>[e.1])=x::r:=fun r=>by
    induction r with
    | nil=>intro x a;rfl
    | cons y r ih =>
      intro x a;show x::(nxt (y::r) a).flatMap (fun e=>[e.1])=_;rw[ih]
  cases vs with
  | nil=>rfl
  | cons x r=>exact g r x x
theorem jdl (hp:∃v∈vs,0<h v):UP h vs=upL h (bt h) vs:=by
 unfold UP;exact if_pos hp
theorem jfK (hn:¬∃v∈vs,0<h v):UP h vs=[]:=by
 unfold UP;exact if_neg hn
theorem jhQ {C:Int} {a b:Tri} (o:jaA A B C a*jaA A B C b<0):jaA A B C (xp (jaA A B C) a b)=0:=by
 have e:jaA A B C (xp (jaA A B C) a b)=ab (jaA A B C b)*jaA A B C a+ab (jaA A B C a)*jaA A B C b:=by
  unfold xp jgD;generalize ab (jaA A B C b)=p;generalize ab (jaA A B C a)=q;unfold jaA;grind
 rw[e];unfold ab;rcases opp_iff.mp o with ⟨p1,p2⟩ | ⟨p1,p2⟩
 ·rw[if_pos p2,if_neg (by omega)];grind
 ·rw[if_neg (by omega),if_pos p1];grind
def InR (vs:List Tri) (p:Tri):Prop:=∀e∈prs vs,0<=dt e.1 e.2 p
structure Rng (vs:List Tri):Prop where
 n3:3<=vs.length
 tp:TpL vs
 hz:∀v∈vs,1<=v.z
theorem jb5 (he:e∈prs vs):∃i,i<vs.length/\e=(tr vs i,tr vs ((i+1) % vs.length)):=by
 obtain⟨i,hi⟩:=xbF.mp he;have il:i<vs.length:=by have:=(xae.mp hi).1;rw[jez] at this;exact this
 rw[jdj t0 il] at hi;exact⟨i,il,(Option.some.inj hi).symm⟩
theorem jfL (hi:i<vs.length):(tr vs i,tr vs ((i+1) % vs.length))∈prs vs:=xbi (jdj t0 hi)
theorem jbe {c:Nat->Tri} {k:Nat} (h:Tp c n) (n3:3<=n) (hi:i<n) (hk:k<n) (k1:k≠i) (k2:k≠(i+1) % n):0<dt (c i) (c ((i+1) % n)) (c k):=by
 by_cases w:i+1<n
 ·rw[xal w] at k2 |-
  by_cases q:k<i
  ·rw[<- jck];exact h k i (i+1) q (by omega) w
  ·exact h i (i+1) k (by omega) (by omega) hk
 ·have e:i+1=n:=by omega
  rw[e,xbc] at k2 |-
  rw[jck];exact h 0 k i (by omega) (by omega) hi
theorem jnE {c:Nat->Tri} {k:Nat} (h:Tp c n) (n3:3<=n) (hi:i<n) (hk:k<n):0<=dt (c i) (c ((i+1) % n)) (c k):=by
 by_cases k1:k=i
 ·rw[k1,(jcN _ _).2.2];exact xaI _
 ·by_cases k2:k=(i+1) % n
  ·rw[k2,(jcN _ _).2.1];exact xaI _
  ·exact xan (jbe h n3 hi hk k1 k2)
theorem Rng.own (R:Rng vs) (hv:v∈vs):InR vs v:=fun e he=>by
 obtain⟨i,hi,rfl⟩:=jb5 he;obtain⟨k,hk,rfl⟩:=jeh hv;exact jnE R.tp R.n3 hi hk
theorem jj7 (a b c p:Tri):dt a b c*p.x=dt p b c*a.x+dt a p c*b.x+dt a b p*c.x/\dt a b c*p.y=dt p b c*a.y+dt a p c*b.y+dt a b p*c.y/\dt a b c*p.z=dt p b c*a.z+dt a p c*b.z+dt a b p*c.z:=by
 unfold dt ja3;refine⟨?_,?_,?_⟩<;>grind
theorem jio (A B C:Int) (a b c p:Tri):dt a b c*jaA A B C p=dt p b c*jaA A B C a+dt a p c*jaA A B C b+dt a b p*jaA A B C c:=by
 obtain⟨e1,e2,e3⟩:=jj7 a b c p;have e:dt a b c*jaA A B C p=A*(dt a b c*p.x)+B*(dt a b c*p.y)+C*(dt a b c*p.z):=by unfold jaA;grind
 rw[e,e1,e2,e3];unfold jaA;grind
theorem jgI {g:Nat->Int}:∀m:Nat,0<=g 1->g (m+2)<=0->∃j,1<=j/\j<=m+1/\0<=g j/\g (j+1)<=0
  | 0,h1,h2=>⟨1,by omega,by omega,h1,h2⟩
  | m + 1, h1, h2 => by
    by_cases c:0<=g (m+2)
    . exact⟨m+2,by omega,by omega,c,h2⟩
    . obtain⟨j,a,b,c1,c2⟩:=jgI m h1 (by omega)
      exact⟨j,a,by omega,c1,c2⟩
theorem hull (R:Rng vs) {p:Tri} (hp:InR vs p) (pz:1<=p.z):∃(a b c:Tri) (α β γ D:Int),a∈vs/\b∈vs/\c∈vs/\0<D/\0<=α/\0<=β/\0<=γ/\(0<α\/0<β\/0<γ)/\(D*p.x=α*a.x+β*b.x+γ*c.x/\D*p.y=α*a.y+β*b.y+γ*c.y/\D*p.z=α*a.z+β*b.z+γ*c.z)/\∀A B C:Int,D*jaA A B C p=α*jaA A B C a+β*jaA A B C b+γ*jaA A B C c:=by
 have n3:=R.n3;have m:∀i,i % vs.length<vs.length:=fun i=>xaz _ (by omega);have E:∀i,i<vs.length->0<=dt (tr vs i) (tr vs ((i+1) % vs.length)) p:=fun i hi=>hp _ (jfL hi);have g1:0<=dt (tr vs 0) (tr vs 1) p:=by
  have:=E 0 (by omega);rw[xbE,xal (by omega)] at this;exact this
 have g2:dt (tr vs 0) (tr vs (vs.length-3+2)) p<=0:=by
  have:=E (vs.length-1) (by omega);rw[show vs.length-1+1=vs.length by omega,xbc] at this;rw[show vs.length-3+2=vs.length-1 by omega];have sw:dt (tr vs 0) (tr vs (vs.length-1)) p=-dt (tr vs (vs.length-1)) (tr vs 0) p:=by unfold dt ja3;grind
  omega
 obtain⟨j,j1,j2,h1,h2⟩:=jgI (g:=fun j=>dt (tr vs 0) (tr vs j) p) (vs.length-3) g1 g2;have jl:j+1<vs.length:=by omega
 have h3:=E j (by omega);rw[xal jl] at h3;have D:=R.tp 0 j (j+1) (by omega) (by omega) jl;have s1:dt p (tr vs j) (tr vs (j+1))=dt (tr vs j) (tr vs (j+1)) p:=jck _ _ _;have s2:dt (tr vs 0) p (tr vs (j+1))=-dt (tr vs 0) (tr vs (j+1)) p:=by unfold dt ja3;grind
 have cr:=jj7 (tr vs 0) (tr vs j) (tr vs (j+1)) p;refine⟨tr vs 0,tr vs j,tr vs (j+1),dt p (tr vs j) (tr vs (j+1)),dt (tr vs 0) p (tr vs (j+1)),dt (tr vs 0) (tr vs j) p,dt (tr vs 0) (tr vs j) (tr vs (j+1)),jaJ (by omega),jaJ (by omega),jaJ jl,D,by omega,by omega,h1,?_,cr,fun A B C=>jio A B C _ _ _ _⟩;apply xar;intro n;have a0:dt p (tr vs j) (tr vs (j+1))=0:=by omega
 have b0:dt (tr vs 0) p (tr vs (j+1))=0:=by omega
 have c0:dt (tr vs 0) (tr vs j) p=0:=by
  have:0<=dt (tr vs 0) (tr vs j) p:=h1;omega
 have e:=cr.2.2;rw[a0,b0,c0] at e;have:=xab D (show 0<p.z by omega);omega
theorem jeC (R:Rng vs) {p:Tri} (hp:InR vs p) (pz:1<=p.z) {C:Int} (h:∀v∈vs,0<=jaA A B C v):0<=jaA A B C p:=by
 obtain⟨a,b,c,α,β,γ,D,ha,hb,hc,D0,a0,b0,c0,_,_,e⟩:=hull R hp pz;have e:=e A B C;have h1:=xaf a0 (h a ha);have h2:=xaf b0 (h b hb);have h3:=xaf c0 (h c hc);rcases xaE (jaA A B C p) 0 with q | q
 ·have:=xak D0 q;omega
 ·exact q
theorem jlm (R:Rng vs) {p:Tri} (hp:InR vs p) (pz:1<=p.z) {C:Int} (h:0<jaA A B C p):∃v∈vs,0<jaA A B C v:=by
 apply xar;intro n;have n':∀v∈vs,0<=jaA (-A) (-B) (-C) v:=fun v hv=>by
  have:¬0<jaA A B C v:=fun q=>n ⟨v,hv,q⟩;have e:jaA (-A) (-B) (-C) v=-jaA A B C v:=by unfold jaA;grind
  omega
 have:=jeC R hp pz n';have e:jaA (-A) (-B) (-C) p=-jaA A B C p:=by unfold jaA;grind
 omega
theorem jgb (a b p:Tri):dt a b p=jaA (a.y*b.z-a.z*b.y) (a.z*b.x-a.x*b.z) (a.x*b.y-a.y*b.x) p:=rfl
theorem jhj (hi:i<n):((i+(n-1)) % n+1) % n=i:=by
 by_cases c:i=0
 ·subst c;rw[xbE,xal (show n-1<n by omega),show n-1+1=n by omega,xbc]
 ·rw[show i+(n-1)=i-1+n by omega,xbg,xal (show i-1<n by omega),show i-1+1=i by omega,xal hi]
theorem Rng.corner (R:Rng us) (hi:i<us.length):0<dt (tr us ((i+(us.length-1)) % us.length)) (tr us i) (tr us ((i+1) % us.length)):=by
 have n3:=R.n3;have hm:(i+(us.length-1)) % us.length<us.length:=xaz _ (by omega);have:=jbe (k:=(i+1) % us.length) R.tp n3 hm (xaz _ (by omega)) (by
  by_cases c:i=0
  ·subst c;rw[xbE,xbE,xal (by omega),xal (by omega)];omega
  ·by_cases d:i+1<us.length
   ·rw[show i+(us.length-1)=i-1+us.length by omega,xbg,xal d,xal (by omega)];omega
   ·rw[show i+(us.length-1)=i-1+us.length by omega,xbg,show i+1=us.length by omega,xbc,xal (by omega)];omega) (by
  rw[jhj hi];by_cases d:i+1<us.length
  ·rw[xal d];omega
  ·rw[show i+1=us.length by omega,xbc];omega)
 rw[jhj hi] at this;exact this
theorem Prp.trans {u w:Tri} (h:Prp u v) (k:Prp v w):Prp u w:=by
 obtain⟨a,b,a0,b0,e1,e2,e3⟩:=h;obtain⟨c,d,c0,d0,f1,f2,f3⟩:=k;refine⟨c*a,b*d,xab c0 a0,xab b0 d0,?_,?_,?_⟩
 ·grind
 ·grind
 ·grind
def OnE (vs:List Tri) (a b:Tri):Prop:=∃e∈prs vs,∃k m:Int,0<k/\0<m/\∀q:Tri,k*dt a b q=m*dt e.1 e.2 q
def Nb (h:Tri->Int) (vs:List Tri) (a b:Tri):Prop:=OnE vs a b\/(h a=0/\h b=0)
theorem Adj.mono {α:Type} {R S:α->α->Prop} (i:∀a b,R a b->S a b):∀{l:List α},Adj R l->Adj S l
 | [],_=>trivial
 | [_],_=>trivial
 | _::b::l,h=>⟨i _ _ h.1,Adj.mono i (l:=b::l) h.2⟩
theorem jln {α:Type} {h:α->Int} {P:α->α->Prop} (l:List α):∀x:α,(0<=h x->Adj (fun x y=>¬(h x<0/\0<h y)/\¬(0<h x/\h y<0)) (x::l)->Adj P (x::l)->Adj (fun a b=>P a b\/(h a=0/\h b=0)) (x::l.filter fun p=>decide (0<=h p))) /\
    (∀y:α,h x=0->h y<0->Adj (fun x y=>¬(h x<0/\0<h y)/\¬(0<h x/\h y<0)) (y::l)->Adj P (y::l)->Adj (fun a b=>P a b\/(h a=0/\h b=0)) (x::l.filter fun p=>decide (0<=h p))):=by
  induction l with
  | nil=>exact fun x=>⟨fun _ _ _=>trivial,fun _ _ _ _ _=>trivial⟩
  | cons z l ih =>
    intro x;refine⟨fun hx c p=>?_,fun y hx hy c p=>?_⟩
    . by_cases hz:0 <= h z
      . rw[xa2 (by exact decide_eq_true hz)]
        exact⟨.inl p.1,(ih z).1 hz c.2 p.2⟩
      . rw[xbd (by simpa using hz)]
        have:=c.1;exact (ih x).2 z (by omega) (by omega) c.2 p.2
    . by_cases hz:0 <= h z
      . rw[xa2 (by exact decide_eq_true hz)]
        have:=c.1;exact⟨.inr ⟨hx,by omega⟩,(ih z).1 hz c.2 p.2⟩
      . rw[xbd (by simpa using hz)]
        exact (ih x).2 z hx (by omega) c.2 p.2
theorem jml {α:Type} {R:α->α->Prop}:∀{l:List α},Adj R l->∀e∈op l,R e.1 e.2
  | [],_,e,he=>by cases he
  | [_],_,e,he=>by cases he
  | a :: b :: l, h, e, he => by
    rcases xap.mp (show e∈(a,b)::op (b::l) from he) with q | q
    . rw[q];exact h.1
    . exact jml (l:=b::l) h.2 e q
theorem jpl {α:Type} (x:α) (r:List α):prs (x::r)=op (x::r++[x]):=jij x (x::r)
theorem jpm (hX:∀a b,a∈vs->b∈vs->h a*h b<0->Prp (xp h a b) (X a b)):∀(r:List Tri) (x a:Tri),x∈vs->a∈vs->(∀v∈r,v∈vs)->(∀e∈nxt (x::r) a,e∈prs vs)->∃w,(nxt (x::r) a).flatMap (agE h X)=x::w/\Adj (OnE vs) (x::w++[a]):=by
  have one:∀x y,x∈vs->y∈vs->(x,y)∈prs vs->Adj (OnE vs) (agE h X (x,y)++[y]):=fun x y hx hy he=>by
    unfold agE;by_cases o:h x*h y<0
    . obtain⟨k,m,k0,m0,e1,e2,e3⟩:=hX x y hx hy o
      obtain⟨n1,n2,_,_⟩:=jdD o;have p1:=jbM n1;have p2:=jbM n2;simp only[if_pos o];have lin:∀(a b:Tri),(∀q:Tri,m*dt a (X x y) q=k*dt a (xp h x y) q)/\∀q:Tri,m*dt (X x y) b q=k*dt (xp h x y) b q:=fun a b=>by
        generalize X x y=v at *
        generalize xp h x y=u at *
        refine⟨fun q=>?_,fun q=>?_⟩
        . have:∀(c:Int) (u:Tri),c*dt a u q=dt a ⟨c*u.x,c*u.y,c*u.z⟩ q:=fun c u=>by unfold dt ja3; grind
          rw[this,this,e1,e2,e3]
        . have:∀(c:Int) (u:Tri),c*dt u b q=dt ⟨c*u.x,c*u.y,c*u.z⟩ b q:=fun c u=>by unfold dt ja3; grind
          rw[this,this,e1,e2,e3]
      have f1:∀q,dt x (xp h x y) q=ab (h x)*dt x y q:=fun q=>by
        unfold xp;rw[jhL,(jcN x q).1];grind
      have f2:∀q,dt (xp h x y) y q=ab (h y)*dt x y q:=fun q=>by
        unfold xp;rw[jjU,(jcN y q).1];grind
      refine⟨⟨(x,y),he,m,k*ab (h x),m0,xab k0 p1,fun q=>by rw[(lin x y).1 q,f1 q];grind⟩,⟨(x,y),he,m,k*ab (h y),m0,xab k0 p2,fun q=>by rw[(lin x y).2 q,f2 q];grind⟩,trivial⟩
    . simp only[if_neg o]
      exact⟨⟨(x,y),he,1,1,by decide,by decide,fun _=>rfl⟩,trivial⟩
  intro r;induction r with
  | nil =>
    intro x a hx ha _ he;refine⟨if h x*h a<0 then [X x a] else [],?_,one x a hx ha (he _ (by simp [nxt]))⟩;show agE h X (x,a)++[]=_;rw[List.append_nil];rfl
  | cons y r ih =>
    intro x a hx ha hr he;obtain⟨w,e1,e2⟩:=ih y a (hr y (by simp)) ha (fun v hv=>hr v (xag _ hv)) fun e h'=>he e (by simp [nxt,h']);refine⟨(if h x*h y<0 then [X x y] else [])++y::w,?_,?_⟩
    . show agE h X (x,y)++(nxt (y::r) a).flatMap (agE h X)=_
      rw[e1];rfl
    . have g:=Adj.glue (l:=agE h X (x,y)) (x:=y) (m:=w++[a]) (one x y hx (hr y (by simp)) (he _ (by simp [nxt]))) e2
      have e:x::((if h x*h y<0 then [X x y] else [])++y::w)++[a]=agE h X (x,y)++y::(w++[a]):=by
        unfold agE;simp
      rw[e];exact g
theorem prs_rot_mem {α:Type} {l m:List α} {e:α × α}:e∈prs (l++m)↔e∈prs (m++l):=by
 have z:=jdU (l++m) l.length;rw[xbU,xbV] at z;rw[z,xaA,Or.comm,<- xaA,xaQ]
theorem jnF {C:Int} (hz:∀v∈vs,1<=v.z) (hX:∀a b,a∈vs->b∈vs->jaA A B C a*jaA A B C b<0->Prp (xp (jaA A B C) a b) (X a b)) (up:∃v∈vs,0<jaA A B C v):∀e∈prs (upL (jaA A B C) X vs),Nb (jaA A B C) vs e.1 e.2:=by
  have x0:=fun a b ha hb o=>jgF (hX a b ha hb o) (jhQ (A:=A) (B:=B) (C:=C) o);obtain⟨u,hu,pu⟩:=up;rw[<- ag_up x0]
  match vs,hz,hX,x0,hu with
  | x :: r, hz, hX, x0, hu =>
    obtain⟨w,e1,e2,_⟩:=jpa (h:=jaA A B C) (X:=X) (S:=fun v=>v∈x::r) hz (fun a b ha hb o=>⟨hX a b ha hb o,x0 a b ha hb o⟩) (a:=x) (by simp) r x (by simp) fun v hv=>xag _ hv;obtain⟨w',e1',e3⟩:=jpm (h:=jaA A B C) hX r x x (by simp) (by simp) (fun v hv=>xag _ hv) fun e he=>he;have ww:w'=w:=by
      have:=e1'.symm.trans e1;injection this
    subst ww;have eA:agL (jaA A B C) X (x::r)=x::w':=e1;have um:u∈x::w':=by
      rw[<- eA];obtain⟨i,hi,rfl⟩:=jeh hu;refine xbu.mpr ⟨_,xbi (jdj t0 hi),?_⟩;exact xaS
    obtain⟨l1,l2,el⟩:=List.append_of_mem um;rw[eA,el];have rotA:∀{R:Tri->Tri->Prop},Adj R (x::w'++[x])->Adj R (u::(l2++l1)++[u]):=fun {R} c=>by
      have c1:Adj R (l1++u::(l2++[x])):=by
        have e2:x::w'++[x]=l1++u::(l2++[x]):=by rw[el];simp
        rw[<- e2];exact c
      cases l1 with
      | nil =>
        have:x=u:=by injection el
        subst this;simpa using c1
      | cons x' l1 =>
        have:x=x':=by injection el
        subst this;have g:=Adj.glue (l:=u::l2) (x:=x) (m:=l1++[u]) c1.right c1.left;simpa using g
    have a1:=rotA e2;have a2:=rotA e3;have a1':Adj (fun x y=>¬(jaA A B C x<0/\0<jaA A B C y)/\¬(0<jaA A B C x/\jaA A B C y<0)) (u::((l2++l1)++[u])):=a1;have a2':Adj (OnE (x::r)) (u::((l2++l1)++[u])):=a2;have f:=(jln (h:=jaA A B C) (P:=OnE (x::r)) ((l2++l1)++[u]) u).1 (by omega) a1' a2';rw[xaD,xa2 (by exact decide_eq_true (show 0<=jaA A B C u by omega)),List.filter_nil] at f;intro e he;have he':e∈prs (u::(l2++l1).filter fun p=>decide (0<=jaA A B C p)):=by
      rw[xaD,xa2 (by exact decide_eq_true (show 0<=jaA A B C u by omega))] at he;have z:=prs_rot_mem.mp he;rw[xaD];exact z
    rw[jpl] at he';exact jml f e he'
theorem jfM {C:Int} {a b:Tri} (ha:jaA A B C a=0) (hb:jaA A B C b=0) (q u:Tri):dt a b q*jaA A B C u=jaA A B C q*dt a b u:=by
 unfold jaA at *
 unfold dt ja3;grind
theorem jiJ {C:Int} (R:Rng vs) (hX:∀a b,a∈vs->b∈vs->jaA A B C a*jaA A B C b<0->Prp (xp (jaA A B C) a b) (X a b)) (up:∃v∈vs,0<jaA A B C v):Rng (upL (jaA A B C) X vs)/\∀p:Tri,1<=p.z->(InR (upL (jaA A B C) X vs) p↔InR vs p/\0<=jaA A B C p):=by
 have N:=jnF R.hz hX up;have x0:=fun a b ha hb o=>jgF (hX a b ha hb o) (jhQ (A:=A) (B:=B) (C:=C) o);have R2:Rng (upL (jaA A B C) X vs):=by
  obtain⟨u,hu,pu⟩:=up;obtain⟨i,hi,rfl⟩:=jeh hu;refine⟨jnv hX R.n3 hi pu,up_tp hX R.n3 R.tp,fun v hv=>?_⟩;rcases jmh hv with ⟨h,_⟩ | ⟨a,b,ha,hb,o,rfl⟩
  ·exact R.hz v h
  ·exact (hX a b ha hb o).z (xp_z (R.hz a ha) (R.hz b hb) o)
 have inn:∀v∈upL (jaA A B C) X vs,InR vs v/\0<=jaA A B C v:=fun v hv=>by
  rcases jmh hv with ⟨h,h0⟩ | ⟨a,b,ha,hb,o,rfl⟩
  ·exact⟨R.own h,h0⟩
  ·refine⟨fun e he=>?_,by rw[x0 a b ha hb o];exact xaI _⟩;obtain⟨k,m,k0,m0,e1,e2,e3⟩:=hX a b ha hb o;obtain⟨n1,n2,_,_⟩:=jdD o;have p1:=jbM n1;have p2:=jbM n2;have f1:=R.own ha e he;have f2:=R.own hb e he;have f3:dt e.1 e.2 (xp (jaA A B C) a b)=ab (jaA A B C b)*dt e.1 e.2 a+ab (jaA A B C a)*dt e.1 e.2 b:=by unfold xp;exact jhg ..
   have f4:m*dt e.1 e.2 (X a b)=k*dt e.1 e.2 (xp (jaA A B C) a b):=by
    rw[jgb,jgb];exact (jj4 e1 e2 e3).symm
   have g1:=xaf (xan p2) f1;have g2:=xaf (xan p1) f2;have g3:=xaf (xan k0) (show 0<=dt e.1 e.2 (xp (jaA A B C) a b) by omega);rw[<- f4] at g3;rcases xaE (dt e.1 e.2 (X a b)) 0 with q | q
   ·have:=xak m0 q;omega
   ·exact q
 refine⟨R2,fun p pz=>⟨fun hp=>⟨fun e he=>?_,?_⟩,fun ⟨hp,h0⟩ e he=>?_⟩⟩
 ·rw[jgb];exact jeC R2 hp pz fun v hv=>by rw[<- jgb];exact (inn v hv).1 e he
 ·exact jeC R2 hp pz fun v hv=>(inn v hv).2
 ·rcases N e he with ⟨e',he',k,m,k0,m0,eq⟩ | ⟨z1,z2⟩
  ·have g:=xaf (xan m0) (hp e' he');rw[<- eq p] at g;rcases xaE (dt e.1 e.2 p) 0 with q | q
   ·have:=xak k0 q;omega
   ·exact q
  ·obtain⟨u,hu,pu⟩:=up;have um:u∈upL (jaA A B C) X vs:=by
    obtain⟨i,hi,rfl⟩:=jeh hu;refine xbu.mpr ⟨_,jfL hi,?_⟩;unfold upE;rw[if_pos (by show 0<=jaA A B C (tr vs i);omega)];exact xbS _ (by simp)
   have l:=jfM z1 z2 p u;have g:=xaf h0 (R2.own um e he);rw[<- l] at g;rcases xaE (dt e.1 e.2 p) 0 with q | q
   ·have:=xay q pu;omega
   ·exact q
structure Ln where
 A:Int
 B:Int
 C:Int
def hf (l:Ln):Tri->Int:=jaA l.A l.B l.C
theorem jpn (h:Tri->Int):UP h []=[]:=jfK fun ⟨_,hv,_⟩=>nomatch hv
noncomputable def KP:List Ln->List Tri->List Tri
 | [],vs=>vs
 | l::ls,vs=>KP ls (UP (hf l) vs)
theorem jhk:∀ls:List Ln,KP ls []=[]
 | []=>rfl
 | l::ls=>by show KP ls (UP (hf l) [])=[];rw[jpn,jhk ls]
theorem jj8:∀(ls ms:List Ln) (vs:List Tri),KP (ls++ms) vs=KP ms (KP ls vs)
 | [],_,_=>rfl
 | l::ls,ms,vs=>jj8 ls ms (UP (hf l) vs)
theorem jbD {l:Ln} (R:Rng vs) (up:∃v∈vs,0<hf l v):Rng (UP (hf l) vs)/\∀p:Tri,1<=p.z->(InR (UP (hf l) vs) p↔InR vs p/\0<=hf l p):=by
 rw[jdl up];exact jiJ R (fun a b ha hb o=>jhi (R.hz a ha) (R.hz b hb) o) up
theorem jj9:∀(ls:List Ln) {vs:List Tri},Rng vs->KP ls vs=[]\/(Rng (KP ls vs)/\(∀p:Tri,1<=p.z->(InR (KP ls vs) p↔InR vs p/\∀l∈ls,0<=hf l p))/\∀l∈ls,∃q,hf l q≠0)
  | [],vs,R=>.inr ⟨R,fun p _=>⟨fun h=>⟨h,fun _ hl=>nomatch hl⟩,fun h=>h.1⟩,fun _ hl=>nomatch hl⟩
  | l :: ls, vs, R => by
    by_cases up:∃v∈vs,0<hf l v
    . obtain⟨R2,e2⟩:=jbD R up
      rcases jj9 ls R2 with h | ⟨h1,h2,h3⟩
      . exact .inl h
      . refine .inr ⟨h1,fun p pz=>?_,fun m hm=>?_⟩
        . show InR (KP ls (UP (hf l) vs)) p↔_
          rw[h2 p pz,e2 p pz];constructor
          . rintro⟨⟨a,b⟩,c⟩
            exact⟨a,fun m hm=>by
              rcases xap.mp hm with q | q
              . rw[q];exact b
              . exact c m q⟩
          . rintro⟨a,c⟩
            exact⟨⟨a,c l (by simp)⟩,fun m hm=>c m (xag _ hm)⟩
        . rcases xap.mp hm with q | q
          . obtain⟨v,_,hv⟩:=up
            exact⟨v,by rw[q];omega⟩
          . exact h3 m q
    . left
      show KP ls (UP (hf l) vs)=[];rw[jfK up,jhk]
theorem jpo:∀(ls:List Ln) {vs:List Tri} {c:Tri},Rng vs->InR vs c->1<=c.z->(∀l∈ls,0<hf l c)->KP ls vs≠[]
  | [],vs,c,R,_,_,_=>fun e=>by have:=R.n3;rw[show vs=[] from e] at this;simp at this
  | l :: ls, vs, c, R, hc, cz, h => by
    have h0:=h l (by simp);obtain⟨R2,e2⟩:=jbD R (jlm R hc cz h0);exact jpo ls R2 ((e2 c cz).mpr ⟨hc,by omega⟩) cz fun m hm=>h m (xag _ hm)
def cen:List Tri->Tri
 | []=>⟨0,0,0⟩
 | v::l=>⟨v.x+(cen l).x,v.y+(cen l).y,v.z+(cen l).z⟩
theorem jpp (A B C:Int) (v:Tri) (l:List Tri):jaA A B C (cen (v::l))=jaA A B C v+jaA A B C (cen l):=by
 unfold jaA;show A*(v.x+(cen l).x)+B*(v.y+(cen l).y)+C*(v.z+(cen l).z)=_;grind
theorem jka {A B C:Int}:∀{l:List Tri},(∀v∈l,0<=jaA A B C v)->0<=jaA A B C (cen l)
  | [],_=>by unfold jaA cen;simp
  | v :: l, h => by
    rw[jpp];have h1:=h v (by simp);have h2:=jka (l:=l) fun u hu=>h u (xag _ hu);omega
theorem jkb {A B C:Int}:∀{l:List Tri},(∀v∈l,0<=jaA A B C v)->(∃v∈l,0<jaA A B C v)->0<jaA A B C (cen l)
  | [],_,⟨_,hv,_⟩=>nomatch hv
  | v :: l, h, ⟨u, hu, pu⟩ => by
    rw[jpp];have h1:=h v (by simp);have h2:=jka (l:=l) fun u hu=>h u (xag _ hu);rcases xap.mp hu with q | q
    . subst q;omega
    . have:=jkb (l:=l) (fun u hu=>h u (xag _ hu)) ⟨u,q,pu⟩
      omega
theorem jpq:∀{l:List Tri},(∀v∈l,1<=v.z)->l≠[]->1<=(cen l).z
  | [],_,h=>(h rfl).elim
  | [v], h, _ => by
    have:=h v (by simp);show 1<=v.z+0;omega
  | v :: u :: l, h, _ => by
    have h1:=h v (by simp);have h2:=jpq (l:=u::l) (fun w hw=>h w (xag _ hw)) (by simp);show 1<=v.z+(cen (u::l)).z;omega
theorem Rng.ne (R:Rng us):us≠[]:=fun e=>by have:=R.n3;rw[e] at this;simp at this
theorem Rng.cen (R:Rng us):1<=(cen us).z/\InR us (cen us)/\∀A B C:Int,(∀u∈us,0<=jaA A B C u)->(∃q,jaA A B C q≠0)->0<jaA A B C (cen us):=by
 refine⟨jpq R.hz R.ne,fun e he=>?_,fun A B C h ⟨q,hq⟩=>jkb h ?_⟩
 ·rw[jgb];exact jka fun v hv=>by rw[<- jgb];exact R.own hv e he
 ·apply xar;intro n;have z:∀u∈us,jaA A B C u=0:=fun u hu=>by
   have h1:=h u hu;have:¬0<jaA A B C u:=fun p=>n ⟨u,hu,p⟩;omega
  have n3:=R.n3;have:=R.tp 0 1 2 (by omega) (by omega) (by omega);rw[jny hq (z _ (jaJ (by omega))) (z _ (jaJ (by omega))) (z _ (jaJ (by omega)))] at this;omega
theorem jnG (hv:v∈upL h X vs):(v∈vs/\0<=h v)\/∃e∈prs vs,h e.1*h e.2<0/\v=X e.1 e.2:=by
 obtain⟨e,he,hv⟩:=xbu.mp hv;unfold upE at hv;rcases xaA.mp hv with h1 | h1
 ·by_cases c:0<=h e.1
  ·rw[if_pos c,xaO] at h1;subst h1;exact .inl ⟨(jdk he).1,c⟩
  ·rw[if_neg c] at h1;cases h1
 ·by_cases c:h e.1*h e.2<0
  ·rw[if_pos c,xaO] at h1;exact .inr ⟨e,he,c,h1⟩
  ·rw[if_neg c] at h1;cases h1
structure BI (b:Nat) (vs:List Tri):Prop where
 ed:∀e∈prs vs,∃l:Ln,Bd b l.A/\Bd b l.B/\Bd b l.C/\hf l e.1=0/\hf l e.2=0/\∃q,hf l q≠0
 vb:∀v∈vs,v.bd (b+b+1)
theorem jkc (hz:1<=v.z):gl [(jhN v).x,(jhN v).y,(jhN v).z]=1:=by
 have g0:0<gl [v.x,v.y,v.z]:=jco (n:=v.z) (by simp) (by omega);have d:∀n∈[v.x,v.y,v.z],gl [v.x,v.y,v.z]*(n / gl [v.x,v.y,v.z])=n:=fun n hn=>xbj (jaV hn);have e:=jjO g0 [(jhN v).x,(jhN v).y,(jhN v).z];have e2:[(jhN v).x,(jhN v).y,(jhN v).z].map (gl [v.x,v.y,v.z]*·)=[v.x,v.y,v.z]:=by
  simp only[xa5,xca,jhN];rw[d v.x (by simp),d v.y (by simp),d v.z (by simp)]
 rw[e2] at e;have:gl [v.x,v.y,v.z]*(gl [(jhN v).x,(jhN v).y,(jhN v).z]-1)=0:=by rw[Int.mul_sub];omega
 rcases xah.mp this with q | q<;>omega
theorem prim3 {z b c:Int} (g:gl [x,y,z]=1) (n:¬(a=0/\b=0/\c=0)) (h1:a*y=b*x) (h2:b*z=c*y) (h3:a*z=c*x):x.natAbs<=a.natAbs/\y.natAbs<=b.natAbs/\z.natAbs<=c.natAbs:=by
 have dv:∀{k m:Int},k ∣ m*x->k ∣ m*y->k ∣ m*z->k ∣ m:=fun {k m} d1 d2 d3=>by
  have:=jfF [x,y,z] 0 k m (by rw[xaj];exact Int.dvd_zero k) (fun q hq=>by
   simp only[xap,xbX,or_false] at hq;rcases hq with rfl | rfl | rfl
   ·exact d1
   ·exact d2
   ·exact d3)
  have e:m*G 0 [x,y,z]=m:=by
   show m*gl [x,y,z]=m;rw[g,Int.mul_one]
  rw[e] at this;exact this
 have le:∀{k m:Int},k ∣ m->(m=0->k=0)->k.natAbs<=m.natAbs:=fun {k m} d z=>by
  by_cases m0:m=0
  ·rw[z m0,m0];exact xam _
  ·exact Nat.le_of_dvd (by omega) (Int.natAbs_dvd_natAbs.mpr d)
 have kz:∀{p q:Int},p≠0->p*q=0->q=0:=fun hp h=>(xah.mp h).resolve_left hp;refine⟨le (dv ⟨a,by rw[xaL]⟩ ⟨b,by rw[h1,xaL]⟩ ⟨c,by rw[h3,xaL]⟩) fun e=>?_,le (dv ⟨a,by rw[<- h1,xaL]⟩ ⟨b,by rw[xaL]⟩ ⟨c,by rw[h2,xaL]⟩) fun e=>?_,le (dv ⟨a,by rw[<- h3,xaL]⟩ ⟨b,by rw[<- h2,xaL]⟩ ⟨c,by rw[xaL]⟩) fun e=>?_⟩
 ·subst e;rw[xaJ] at h1 h3;by_cases b0:b=0
  ·exact kz (show c≠0 from fun q=>n ⟨rfl,b0,q⟩) h3.symm
  ·exact kz b0 h1.symm
 ·subst e;rw[xaJ] at h1 h2;by_cases a0:a=0
  ·exact kz (show c≠0 from fun q=>n ⟨a0,rfl,q⟩) h2.symm
  ·exact kz a0 h1
 ·subst e;rw[xaJ] at h2 h3;by_cases a0:a=0
  ·exact kz (show b≠0 from fun q=>n ⟨a0,q,rfl⟩) h2
  ·exact kz a0 h3
theorem BI.up {b:Nat} {l:Ln} (R:Rng vs) (I:BI b vs) (lA:Bd b l.A) (lB:Bd b l.B) (lC:Bd b l.C) (up:∃v∈vs,0<hf l v):BI b (UP (hf l) vs):=by
 rw[jdl up];have hX:∀a b,a∈vs->b∈vs->hf l a*hf l b<0->Prp (xp (hf l) a b) (bt (hf l) a b):=fun a b ha hb o=>jhi (R.hz a ha) (R.hz b hb) o;have N:=jnF (A:=l.A) (B:=l.B) (C:=l.C) R.hz hX up;refine⟨fun e he=>?_,fun v hv=>?_⟩
 ·rcases N e he with ⟨e',he',k,m,k0,m0,eq⟩ | ⟨z1,z2⟩
  ·obtain⟨l',b1,b2,b3,q1,q2,nz⟩:=I.ed e' he';obtain⟨i,hi,rfl⟩:=jb5 he';have n3:=R.n3;obtain⟨j,hj,j1,j2⟩:=ja1 (n:=vs.length) (i:=i) (j:=(i+1) % vs.length) n3;have pos:=jbe R.tp n3 hi hj (Ne.symm j2) (Ne.symm j1);have on:∀a:Tri,dt e.1 e.2 a=0->hf l' a=0:=fun a ha=>by
    have h1:=eq a;rw[ha,xaj] at h1;have h2:=(xah.mp h1.symm).resolve_left (by omega);have h3:=jfM q1 q2 a (tr vs j);simp only at h2 h3;rw[h2,xaJ] at h3;exact (xah.mp h3.symm).resolve_right (by omega)
   exact⟨l',b1,b2,b3,on _ (jcN _ _).2.2,on _ (jcN _ _).2.1,nz⟩
  ·obtain⟨u,_,pu⟩:=up;exact⟨l,lA,lB,lC,z1,z2,u,by omega⟩
 ·rcases jnG hv with ⟨h,_⟩ | ⟨e,he,o,rfl⟩
  ·exact I.vb v h
  ·obtain⟨l',b1,b2,b3,q1,q2,⟨q,nz⟩⟩:=I.ed e he;obtain⟨m1,m2⟩:=jdk he;have xz:=xp_z (h:=hf l) (R.hz _ m1) (R.hz _ m2) o;have p:=hX _ _ m1 m2 o;have r1:hf l (bt (hf l) e.1 e.2)=0:=jgF p (jhQ o);have r2:hf l' (bt (hf l) e.1 e.2)=0:=jgF p (by
    unfold xp jgD;have:jaA l'.A l'.B l'.C e.1=0:=q1;have:jaA l'.A l'.B l'.C e.2=0:=q2;generalize ab (hf l e.2)=s at *
    generalize ab (hf l e.1)=t at *
    unfold jaA at *
    grind)
   have g:=jkc xz;have ne:¬(l'.B*l.C-l'.C*l.B=0/\l'.C*l.A-l'.A*l.C=0/\l'.A*l.B-l'.B*l.A=0):=fun ⟨z1,z2,z3⟩=>by
    have k1:hf l e.1*hf l' q=hf l' e.1*hf l q:=by
     unfold hf jaA;grind
    rw[q1,xaJ] at k1;rcases xah.mp k1 with w | w
    ·exact (jdD o).1 w
    ·exact nz w
   change jaA _ _ _ _=0 at r1 r2;have gg:gl [(bt (hf l) e.1 e.2).x,(bt (hf l) e.1 e.2).y,(bt (hf l) e.1 e.2).z]=1:=g;generalize bt (hf l) e.1 e.2=w at r1 r2 gg |-
   unfold jaA at r1 r2;obtain⟨c1,c2,c3⟩:=prim3 gg ne (by grind) (by grind) (by grind);have cb:∀{i j k m:Int},Bd b i->Bd b j->Bd b k->Bd b m->Bd (b+b+1) (i*j-k*m):=fun h1 h2 h3 h4=>Bd.sub (Bd.mul h1 h2) (Bd.mul h3 h4);exact⟨jhI c1 (cb b2 lC b3 lB),jhI c2 (cb b3 lA b1 lC),jhI c3 (cb b1 lB b2 lA)⟩
def nlD (b:Bool):Nat:=if b then 935 else 140
def nlL (b:Bool):Nat:=if b then 966 else 143
def nlV (b:Bool):Nat:=if b then 1933 else 287
def nlT (b:Bool):Nat:=if b then 1964 else 318
structure VF (lv:Bool) (vs:List Tri):Prop where
 rg:Rng vs
 bi:BI (nlL lv) vs
theorem VF.lo {lv:Bool} (F:VF lv vs):∀v∈vs,v.bd (nlV lv)/\1<=v.z:=fun v hv=>⟨by
 have:=F.bi.vb v hv;cases lv
 ·exact this
 ·exact this,F.rg.hz v hv⟩
theorem jip {l:Ln} (R:Rng vs):(UP (hf l) vs).length<=vs.length+1:=by
 by_cases up:∃v∈vs,0<hf l v
 ·rw[jdl up];exact jnw (fun a b ha hb o=>jhi (R.hz a ha) (R.hz b hb) o) R.tp
 ·rw[jfK up];exact xa6 _
theorem jmm:∀(ls:List Ln) {vs:List Tri},Rng vs->(KP ls vs).length<=vs.length+ls.length
  | [],vs,_=>xam _
  | l :: ls, vs, R => by
    show (KP ls (UP (hf l) vs)).length<=_;by_cases up:∃v∈vs,0<hf l v
    . have h1:=jmm ls (jbD R up).1
      have h2:=jip (l:=l) R;rw[xaB];omega
    . rw[jfK up,jhk]
      exact xa6 _
theorem VF.up {lv:Bool} {l:Ln} (F:VF lv vs) (lA:Bd (nlL lv) l.A) (lB:Bd (nlL lv) l.B) (lC:Bd (nlL lv) l.C) (up:∃v∈vs,0<hf l v):VF lv (UP (hf l) vs):=⟨(jbD F.rg up).1,F.bi.up F.rg lA lB lC up⟩
theorem VF.six {lv:Bool} (R:Rng vs) (b:∀v∈vs,v.bd 6):VF lv vs:=by
 refine⟨R,fun e he=>?_,fun v hv=>by cases lv<;>exact jin (b v hv)⟩;obtain⟨m1,m2⟩:=jdk he;obtain⟨i,hi,rfl⟩:=jb5 he;have n3:=R.n3;obtain⟨j,hj,j1,j2⟩:=ja1 (n:=vs.length) (i:=i) (j:=(i+1) % vs.length) n3;have pos:=jbe R.tp n3 hi hj (Ne.symm j2) (Ne.symm j1);have b1:=b _ m1;have b2:=b _ m2;simp only at b1 b2 pos |-
 generalize tr vs i=a at *
 generalize tr vs ((i+1) % vs.length)=c at *
 have cb:∀{i j k m:Int},Bd 6 i->Bd 6 j->Bd 6 k->Bd 6 m->Bd (nlL lv) (i*j-k*m):=fun h1 h2 h3 h4=>by cases lv<;>exact Bd.mono (n:=13) (Bd.sub (n:=12) (Bd.mul h1 h2) (Bd.mul h3 h4))
 refine⟨⟨a.y*c.z-a.z*c.y,a.z*c.x-a.x*c.z,a.x*c.y-a.y*c.x⟩,cb b1.2.1 b2.2.2 b1.2.2 b2.2.1,cb b1.2.2 b2.1 b1.1 b2.2.2,cb b1.1 b2.2.1 b1.2.1 b2.1,(jcN a c).2.2,(jcN a c).2.1,tr vs j,?_⟩;have:hf ⟨a.y*c.z-a.z*c.y,a.z*c.x-a.x*c.z,a.x*c.y-a.y*c.x⟩ (tr vs j)=dt a c (tr vs j):=rfl;omega
def BdAt (H:Hp) (Z:Sht) (r:Addr) (us:List Tri):Prop:=∃(rs:List Addr) (ps:List Pt),H r=some (.tup (rs.map V.ref))/\Sps H rs ps/\RR (us.map (spt Z)) ps
theorem BdAt.keep {r:Addr} (h:BdAt H Z r us) (s:SameT H H'):BdAt H' Z r us :=
 let ⟨rs,ps,a,b,c⟩:=h
 ⟨rs,ps,s _ _ a,b.keep s,c⟩
def PtAt (H:Hp) (Z:Sht) (f:V) (us:List Tri):Prop:=(us=[]/\f=.non)\/(us≠[]/\∃r:Addr,f=.ref r/\BdAt H Z r us)
def jaO (Z:Sht) (p:Pt):Ln:=⟨lnA Z p.x p.y p.z,lnB Z p.x p.y p.z,lnC Z p.x p.y p.z p.w⟩
variable {E:XK}
theorem jlo {lv:Bool} {b:Addr} (F:VF lv vs) (hw:1<=Z.w) (nz:Z.u.nz) (n16:vs.length<=16) (sb:∀v:Tri,v.bd (nlV lv)->(spt Z v).bd (nlT lv)) (bp:p.bd (nlD lv)) (bA:Bd (nlL lv) (jaO Z p).A) (bB:Bd (nlL lv) (jaO Z p).B) (bC:Bd (nlL lv) (jaO Z p).C)
  (hb:BdAt H Z b vs) (hg:Is4 H g p)
  (q:∀(t:Addr) (H':Hp) (f0 f1:V),Same H H'->H' t=some (.tup [f0,f1])->PtAt H' Z f1 (UP (hf (jaO Z p)) vs)->Q (.ref t) H'):jjR [.ref b,.ref g] H Q E:=by
 obtain⟨rs,ps,hb,hs,r⟩:=hb;have bs:∀u∈vs,(spt Z u).bd (nlT lv):=fun u hu=>sb u (F.lo u hu).1;obtain⟨x,y,z,v⟩:=p;obtain⟨bx,by',bz,bv⟩:=bp;have ln:(vs.map (spt Z)).length=vs.length:=xaa _;have pl:ps.length=vs.length:=by rw[r.len,ln]
 have n3:=F.rg.n3;have mem:∀i,i<ps.length->∃u∈vs,pt ps i=spt Z u:=fun i hi=>by
  obtain⟨u,hu,e⟩:=xai.mp (r.mem.mp (jaD hi));exact⟨u,hu,e.symm⟩
 have mem':∀u∈vs,∃i,i<ps.length/\pt ps i=spt Z u:=fun u hu=>jbQ (r.mem.mpr (xai.mpr ⟨u,hu,rfl⟩));have hz:=F.rg.hz;have sg:=fun u (hu:u∈vs)=>jeB (x:=x) (y:=y) (z:=z) (v:=v) (Z:=Z) (a:=u) hw (hz u hu);have wp:∀p∈ps,1<=p.w:=fun p hp=>by
  obtain⟨u,hu,e⟩:=xai.mp (r.mem.mp hp);rw[<- e];exact jhf hw (hz u hu)
 have hX:∀{x y z v:Int},∀a b,a∈vs->b∈vs->hL Z x y z v a*hL Z x y z v b<0->Prp (xp (hL Z x y z v) a b) (bt (hL Z x y z v) a b):=fun {x y z v} a b ha hb o=>jhi (hz a ha) (hz b hb) o;have eh:hf (jaO Z ⟨x,y,z,v⟩)=hL Z x y z v:=rfl;rw[eh] at q;have ne:vs≠[]:=F.rg.ne;refine⟨nlD lv,nlT lv,b,g,rs,ps,x,y,z,v,rfl,by cases lv<;>decide,hb,hs,by omega,by omega,fun i hi=>?_,hg.1,bx,by',bz,bv,?_,?_⟩
 ·obtain⟨u,hu,e⟩:=mem i hi;rw[e];exact⟨bs u hu,jhf hw (hz u hu)⟩
 ·intro i hi c;have up:∃u∈vs,0<hf (jaO Z ⟨x,y,z,v⟩) u:=by
   have hm:(i+(ps.length-1)) % ps.length<ps.length:=xaz _ (by omega);obtain⟨u,hu,eu⟩:=mem i hi;obtain⟨u',hu',eu'⟩:=mem _ hm;rw[eu,eu'] at c;by_cases p:0<hL Z x y z v u
   ·exact⟨u,hu,p⟩
   ·refine⟨u',hu',xar fun p'=>?_⟩;have a1:¬0<hgt x y z v (spt Z u):=fun h=>p ((sg u hu).1.mp h);have a2:¬0<hgt x y z v (spt Z u'):=fun h=>p' ((sg u' hu').1.mp h);have z:∀{m:Int},¬0<m->sgn m=0\/sgn m=-1:=fun {m} h=>by
     unfold sgn;split
     ·exact absurd ‹_› h
     ·split
      ·exact .inr rfl
      ·exact .inl rfl
    rcases z a1 with z1 | z1<;>rcases z a2 with z2 | z2<;>rw[z1,z2] at c<;>exact absurd c (by decide)
  have R1:=jfJ hw hz hX r (x:=x) (y:=y) (z:=z) (v:=v);obtain⟨u,hu,e⟩:=xai.mp (R1.mem.mp (xai.mpr ⟨(jbg (jcD x y z v (pt ps ((i+(ps.length-1)) % ps.length)) (pt ps i)),0),xbh.mpr ⟨xbu.mpr ⟨i,xaH.mpr hi,by unfold jiP;rw[if_pos c];simp⟩,rfl⟩,rfl⟩));rw[show jbg (jcD x y z v (pt ps ((i+(ps.length-1)) % ps.length)) (pt ps i))=spt Z u from e.symm];have h:=sb u ((F.up bA bB bC up).lo u (by rw[jdl up];exact hu)).1;cases lv
  ·exact⟨Bd.mono h.1,Bd.mono h.2.1,Bd.mono h.2.2.1,Bd.mono h.2.2.2⟩
  ·exact⟨Bd.mono h.1,Bd.mono h.2.1,Bd.mono h.2.2.1,Bd.mono h.2.2.2⟩
 by_cases up:∃u∈vs,0<hL Z x y z v u
 ·obtain⟨u,hu,pu⟩:=up;obtain⟨i,hi,ei⟩:=mem' u hu;by_cases dn:∃u∈vs,hL Z x y z v u<0
  ·obtain⟨d,hd,pd⟩:=dn;obtain⟨j,hj,ej⟩:=mem' d hd;have up':∃u∈vs,0<hf (jaO Z ⟨x,y,z,v⟩) u:=⟨u,hu,pu⟩;have dn':∃u∈vs,0<hf (jaO Z ⟨-x,-y,-z,-v⟩) u:=⟨d,hd,by
    show 0<hL Z (-x) (-y) (-z) (-v) d;rw[jpi];omega⟩
   have F1:=(jbD F.rg up').1;have F2:=(jbD F.rg dn').1;have l3:=jip (l:=jaO Z ⟨x,y,z,v⟩) F.rg;have l4:=jip (l:=jaO Z ⟨-x,-y,-z,-v⟩) F.rg;have a1:=F1.n3;have a3:=F2.n3;have R1:=jfJ hw hz hX r (x:=x) (y:=y) (z:=z) (v:=v);have R2:=jfJ hw hz hX r (x:=-x) (y:=-y) (z:=-z) (v:=-v);rw[<- jnD wp] at R2;have l1:=R1.len;have l2:=R2.len;rw[xaa] at l1 l2;rw[jdl up'] at F1 l3 a1;rw[jdl dn'] at F2 l4 a3;change Rng (upL (hL Z x y z v) (bt (hL Z x y z v)) vs) at F1;change (upL (hL Z x y z v) (bt (hL Z x y z v)) vs).length<=_ at l3;change 3<=(upL (hL Z x y z v) (bt (hL Z x y z v)) vs).length at a1;change (upL (hL Z (-x) (-y) (-z) (-v)) (bt (hL Z (-x) (-y) (-z) (-v))) vs).length<=_ at l4;change 3<=(upL (hL Z (-x) (-y) (-z) (-v)) (bt (hL Z (-x) (-y) (-z) (-v))) vs).length at a3;refine .inr (.inr (.inr ⟨⟨i,hi,by rw[ei];exact (sg u hu).1.mpr pu⟩,⟨j,hj,by rw[ej];exact (sg d hd).2.mpr pd⟩,by omega,by omega,by omega,by omega,fun t H' c1 c2 r1 r2 s' e1 e2 h2 e3 h3=>?_⟩));refine q t H' _ _ s' e1 (.inr ⟨?_,c2,rfl,r2,_,e3,h3,?_⟩)
   ·rw[jdl ⟨u,hu,pu⟩];exact F1.ne
   ·rw[jdl ⟨u,hu,pu⟩];exact R1.trans (jpe _ _)
  ·refine .inr (.inl ⟨fun k hk=>?_,⟨i,hi,by rw[ei];exact (sg u hu).1.mpr pu⟩,fun t H' s' e'=>q t H' _ _ s' e' (.inr ⟨?_,b,rfl,rs,ps,s' _ _ hb,hs.keep s'.t,?_⟩)⟩)
   ·obtain⟨c,hc,e⟩:=mem k hk;rw[e];have:=(sg c hc).2;have:¬hL Z x y z v c<0:=fun h=>dn ⟨c,hc,h⟩;omega
   ·rw[jdl ⟨u,hu,pu⟩,jmk fun c hc=>by
     have:¬hL Z x y z v c<0:=fun h=>dn ⟨c,hc,h⟩;omega]
    exact ne
   ·rw[jdl ⟨u,hu,pu⟩,jmk fun c hc=>by
     have:¬hL Z x y z v c<0:=fun h=>dn ⟨c,hc,h⟩;omega]
    exact r
 ·have z0:UP (hL Z x y z v) vs=[]:=jfK up;by_cases dn:∃u∈vs,hL Z x y z v u<0
  ·obtain⟨d,hd,pd⟩:=dn;obtain⟨j,hj,ej⟩:=mem' d hd;refine .inr (.inr (.inl ⟨fun k hk=>?_,⟨j,hj,by rw[ej];exact (sg d hd).2.mpr pd⟩,fun t H' s' e'=>q t H' _ _ s' e' (.inl ⟨z0,rfl⟩)⟩));obtain⟨c,hc,e⟩:=mem k hk;rw[e];have:=(sg c hc).1;have:¬0<hL Z x y z v c:=fun h=>up ⟨c,hc,h⟩;omega
  ·refine .inl ⟨fun k hk=>?_,fun t H' s' e'=>q t H' _ _ s' e' (.inl ⟨z0,rfl⟩)⟩;obtain⟨c,hc,e⟩:=mem k hk;rw[e];have h1:=(sg c hc).1;have h2:=(sg c hc).2;have:¬0<hL Z x y z v c:=fun h=>up ⟨c,hc,h⟩;have:¬hL Z x y z v c<0:=fun h=>dn ⟨c,hc,h⟩;omega
def PlOk (lv:Bool) (Z:Sht) (p:Pt):Prop:=p.bd (nlD lv)/\Bd (nlL lv) (jaO Z p).A/\Bd (nlL lv) (jaO Z p).B/\Bd (nlL lv) (jaO Z p).C
inductive spKepti (us:List V) (H:Hp) (Q:VK):Prop
 | mk (lv:Bool) (b l:Addr) (Z:Sht) (vs:List Tri) (rs:List Addr) (ps:List Pt) (_:us=[.ref b,.ref l]) (_:1<=Z.w) (_:Z.u.nz) (_:(∀v:Tri,v.bd (nlV lv)->(spt Z v).bd (nlT lv))) (_:VF lv vs) (_:vs.length+ps.length<=17) (_:BdAt H Z b vs) (_:Cor H l rs ps) (_:(∀p∈ps,PlOk lv Z p)) (_:∀(f:V) (H':Hp),Same H H'->PtAt H' Z f (KP (ps.map (jaO Z)) vs)->Q f H')
def jkd:Sp:=fun us H Q _=>spKepti us H Q
theorem jnH (ls:List Ln) (l:Ln) (vs:List Tri):KP (ls++[l]) vs=UP (hf l) (KP ls vs):=jj8 ls [l] vs
theorem jnI (T:Tx K mg t1 t2) (F:At K mg "kept_by" jft ["board","planes"] []) (DT:jak P w K mg base CX0 7 "cut_by" ["board","plane"] [] jjR):jak P w K mg base CX0 8 "kept_by" ["board","planes"] [] jkd:=by
 refine F.ok jf5 (by walk_at "ar") (fun f cdv Ar outer s H vs Q E hr h=>?_);obtain⟨lv,b,l,Z,vs,rs,ps,rfl,hw,nz,sb,Fv,n16,hb,⟨hl,hs⟩,ok,q⟩:=h;have S:=jf5;refine⟨_,(jaf (jar (i:=2) S.nd rfl (Or.inl rfl) (pv 0))
  (jaf (jbb PassesOwn.never rfl (jba (pv 1)) (jau (i:=3) S.nd rfl (Or.inl rfl))
  (jaf (jar (i:=2) S.nd rfl (Or.inl rfl) (jal jaq (jae DT hr.m rfl jao (jaa (pv 2) (jaa (pv 3) jad jac) jac)) jab))
  (jag (jaM (jat jlL (pv 2) jcG (jaw _))
  (jag (jan jcG))
  jax))))
  (jag (jan (pv 2))))),?_⟩
 have lm:(rs.map V.ref).length=ps.length:=by rw[xaa,hs.len]
 have kl:SqL K H l (rs.map V.ref):=SqL.of hl;walk_at "rf";refine⟨⟨_,kl⟩,jcr (K:=K) (a:=l) (xs:=rs.map V.ref) (fun i σ J=>Same H J/\i<=ps.length/\∃(r:Addr) (o3:Option V),σ=[some (.ref b),some (.ref l),some (.ref r),o3]/\BdAt J Z r (KP ((ps.take i).map (jaO Z)) vs)/\VF lv (KP ((ps.take i).map (jaO Z)) vs)/\(KP ((ps.take i).map (jaO Z)) vs).length<=vs.length+i) ⟨Same.refl _,xa6 _,b,none,rfl,hb,Fv,xam _⟩ (fun i σ J _ ⟨h,_⟩=>h.seq kl) ?_ ?_⟩
 ·rintro i v σ J hi ⟨sJ,_,r,o3,rfl,hB,F1,ln1⟩;have il:i<ps.length:=by have:=(xae.mp hi).1;omega
  obtain⟨b1,b2⟩:=hs.get il;rw[b1] at hi;cases hi;have ep:ps[i]?=some (pt ps i):=by
   unfold pt;rw[xac,xad il];rfl
  have pm:=jaD il;have eK:KP ((ps.take (i+1)).map (jaO Z)) vs=UP (hf (jaO Z (pt ps i))) (KP ((ps.take i).map (jaO Z)) vs):=by
   rw[xbI,ep,xaq];exact jnH _ _ _
  have O:=ok _ pm;walk_at "rf";refine jlo F1 hw nz (by omega) sb O.1 O.2.1 O.2.2.1 O.2.2.2 hB (b2.keep sJ) fun t J1 f0 f1 s1 e1 P1=>?_;rw[<- eK] at P1;refine ixT (SqT.of e1) rfl ?_;rcases P1 with ⟨z,rfl⟩ | ⟨z,r',rfl,hB'⟩
  ·rw[if_pos rfl];refine q _ _ (sJ.trans s1) (.inl ⟨?_,rfl⟩);have e:ps.map (jaO Z)=(ps.take (i+1)).map (jaO Z)++(ps.drop (i+1)).map (jaO Z):=by rw[<- xaq,xaQ]
   rw[e,jj8,z,jhk]
  ·rw[if_neg (by intro h;cases h)];have up:∃u∈KP ((ps.take i).map (jaO Z)) vs,0<hf (jaO Z (pt ps i)) u:=xar fun n=>z (by rw[eK,jfK n]);refine⟨sJ.trans s1,il,r',rfl,hB',?_,?_⟩
   ·rw[eK];exact F1.up O.2.1 O.2.2.1 O.2.2.2 up
   ·rw[eK];have:=jip (l:=jaO Z (pt ps i)) F1.rg;omega
 ·rintro σ J ⟨sJ,_,r,o3,rfl,hB,F1,ln1⟩;walk_at "rf";rw[lm,xbD] at hB F1;exact q _ _ sJ (.inr ⟨F1.rg.ne,r,rfl,hB⟩)
theorem jlp {α:Type} {l m:List α} (h:RR l m):∃s:Bool,∀e:α × α,e∈prs m↔(if s=true then e else swE e)∈prs l:=by
  induction h with
  | refl=>exact⟨true,fun e=>Iff.rfl⟩
  | @rot m k _ ih =>
    obtain⟨s,h⟩:=ih;refine⟨s,fun e=>?_⟩;rw[jdU,xaA,Or.comm,<- xaA,xaQ];exact h e
  | @rev m _ ih =>
    obtain⟨s,h⟩:=ih;refine⟨!s,fun e=>?_⟩;obtain⟨k,ek⟩:=jjT m;rw[ek,List.mem_reverse,xai];have sw2:∀e:α × α,swE (swE e)=e:=fun e=>rfl;have e1:(∃a,a∈(prs m).drop k++(prs m).take k/\swE a=e)↔swE e∈prs m:=by
      constructor
      . rintro⟨a,ha,rfl⟩
        rw[xaA,Or.comm,<- xaA,xaQ] at ha;exact ha
      . intro ha
        refine⟨swE e,?_,sw2 e⟩;rw[xaA,Or.comm,<- xaA,xaQ];exact ha
    rw[e1,h];cases s<;>exact Iff.rfl
theorem edg_mem :e∈prs ws↔∃i,i<ws.length/\e=(tr ws ((i+(ws.length-1)) % ws.length),tr ws i):=by
 have h:e∈prs ws↔e∈(prs ws).drop (ws.length-1)++(prs ws).take (ws.length-1):=by rw[xaA,Or.comm,<- xaA,xaQ]
 rw[h,<- jmg t0,xai];constructor
 ·rintro⟨i,hi,rfl⟩;exact⟨i,xaH.mp hi,rfl⟩
 ·rintro⟨i,hi,rfl⟩;exact⟨i,xaH.mpr hi,rfl⟩
theorem jpr:∀n,n<10->3<=n->∀a,a<n->(a+0) % n≠(a+1) % n/\(a+1) % n≠(a+2) % n/\(a+0) % n≠(a+2) % n:=by decide +kernel
theorem jps:∀n,n<10->3<=n->∀a,a<n->(a+(n-0)) % n≠(a+(n-1)) % n/\(a+(n-1)) % n≠(a+(n-2)) % n/\(a+(n-0)) % n≠(a+(n-2)) % n:=by decide +kernel
theorem jnJ (hw:1<=Z.w) (nz:Z.u.nz) (R:Rng us) (n9:us.length<=9) (r:RR (us.map (spt Z)) ps):¬jbn (pt ps 0) (pt ps 1) (pt ps 2):=by
 have ln:(us.map (spt Z)).length=us.length:=xaa _;have n3:=R.n3;obtain⟨hl,a,ha,d⟩:=r.dih (by omega) (by omega);rw[ln] at ha d;have i1:=jpr us.length (by omega) n3 a ha;have i2:=jps us.length (by omega) n3 a ha;have md:∀i,i % us.length<us.length:=fun i=>xaz _ (by omega);rcases d with d | d
 ·rw[d 0 (by omega),d 1 (by omega),d 2 (by omega),jbR (md _),jbR (md _),jbR (md _)];exact jfG hw nz (jpj R.tp (md _) (md _) (md _) i1.1 i1.2.1 i1.2.2)
 ·rw[d 0 (by omega),d 1 (by omega),d 2 (by omega),jbR (md _),jbR (md _),jbR (md _)];exact jfG hw nz (jpj R.tp (md _) (md _) (md _) i2.1 i2.2.1 i2.2.2)
def mv (f g:Int) (v:Tri):Tri:=⟨2*v.x+v.z*f,2*v.y+v.z*g,2*v.z⟩
theorem jgc {f:Tri->Tri} (h:i<vs.length):tr (vs.map f) i=f (tr vs i):=by
 unfold tr;rw[xac,xat,xac,xad h];rfl
theorem Rng.mp {f:Tri->Tri} (R:Rng vs) (k0:0<k) (hd:∀a b c,dt (f a) (f b) (f c)=k*dt a b c) (hz:∀v,1<=v.z->1<=(f v).z):Rng (vs.map f):=by
 refine⟨by rw[xaa];exact R.n3,?_,fun v hv=>?_⟩
 ·intro a b c h1 h2 h3;rw[xaa] at h3;rw[jgc (by omega),jgc (by omega),jgc h3,hd];exact xab k0 (R.tp a b c h1 h2 h3)
 ·obtain⟨u,hu,rfl⟩:=xai.mp hv;exact hz u (R.hz u hu)
theorem PtAt.keep {f:V} (h:PtAt H Z f us) (s:SameT H H'):PtAt H' Z f us:=by
 rcases h with h | ⟨h1,r,h2,h3⟩
 ·exact .inl h
 ·exact .inr ⟨h1,r,h2,h3.keep s⟩
theorem jnK (a b:Int):Int.gcd b (a % b)=Int.gcd a b:=by
 have h1:((Int.gcd b (a % b):Nat):Int) ∣ (Int.gcd a b:Nat):=xbz (by
  have z:((Int.gcd b (a % b):Nat):Int) ∣ b*(a / b)+a % b:=Int.dvd_add (xbx (xbs ..) (xcr _ _)) (xbm ..);rw[Int.mul_ediv_add_emod] at z;exact z) (xbs ..)
 have h2:((Int.gcd a b:Nat):Int) ∣ (Int.gcd b (a % b):Nat):=xbz (xbm ..) (by
  rw[Int.emod_def];exact Int.dvd_sub (xbs ..) (xbx (xbm ..) (xcr _ _)))
 exact Nat.dvd_antisymm (Int.natCast_dvd_natCast.mp h1) (Int.natCast_dvd_natCast.mp h2)
def jpt (k a b c:Int):Prop:=(k=0/\a≠0)\/(k=1/\a=0/\b≠0)\/(k=2/\a=0/\b=0/\c≠0)
def tsd (k:Int) (ps:List Pt) (P:Pt) (i:Nat):Int:=sgn (jaG k (pt ps 0) (pt ps 1) (pt ps 2))*sgn (jaG k (pt ps ((i+(ps.length-1)) % ps.length)) (pt ps i) P)
theorem ax_ex {z:Int} (h:¬(x=0/\y=0/\z=0)):∃k,jpt k x y z:=by
 by_cases hx:x=0
 ·by_cases hy:y=0
  ·exact⟨2,.inr (.inr ⟨rfl,hx,hy,fun hz=>h ⟨hx,hy,hz⟩⟩)⟩
  ·exact⟨1,.inr (.inl ⟨rfl,hx,hy⟩)⟩
 ·exact⟨0,.inl ⟨rfl,hx⟩⟩
inductive spWherei (vs:List V) (H:Hp) (Q:VK):Prop
 | mk (b e:Addr) (rs:List Addr) (ps:List Pt) (P:Pt) (_:vs=[.ref b,.ref e]) (_:H b=some (.tup (rs.map V.ref))) (_:Sps H rs ps) (_:3<=ps.length) (_:ps.length<=8) (_:¬jbn (pt ps 0) (pt ps 1) (pt ps 2)) (_:Is4 H e P) (_:∀k x y z v:Int,pln (rgh (pt ps 0) (pt ps 1) (pt ps 2))=[x,y,z,v]->jpt k x y z->(hgt x y z v P≠0/\∀H',Same H H'->Q (.str "off") H')\/(hgt x y z v P=0/\(∀i,i<ps.length->0<tsd k ps P i)/\∀H',Same H H'->Q (.str "within") H')\/(hgt x y z v P=0/\(∀i,i<ps.length->0<=tsd k ps P i)/\(∃i,i<ps.length/\tsd k ps P i=0)/\∀H',Same H H'->Q (.str "rim") H')\/(hgt x y z v P=0/\(∃i,i<ps.length/\tsd k ps P i<0)/\∀H',Same H H'->Q (.str "off") H'))
def jhR:Sp:=fun vs H Q _=>spWherei vs H Q
theorem jlq (T:Tx K mg t1 t2) (F:At K mg "where_in" jet ["board","spot"] []) (di:jak P w K mg base CX0 7 "plane_of" ["board"] [] jb4) (de:jak P w K mg base CX0 3 "side_of" ["plane","spot"] [] jd0) (DK:jak P w K mg base CX0 2 "flat_axis" ["plane"] [] jl0) (Df:jak P w K mg base CX0 5 "side_of_edge" ["edge","spot","axis"] [] jl1) (dq:jak P w K mg base CX0 2 "edges_of" ["board"] [] jfI):jak P w K mg base CX0 8 "where_in" ["board","spot"] [] jhR:=by
 refine F.ok jfz (by walk_at "ar") (fun f cdv A outer s H vs Q E hr h=>?_);obtain⟨b,e,rs,ps,P,rfl,hb,hs,n3,n8,na,hP,q⟩:=h;have S:=jfz;refine⟨_,(jaf (jar (i:=2) S.nd rfl (Or.inl rfl) (jae di hr.m rfl jao (jaa (pv 0) jad jac)))
  (jaf (jaM (jat jcT (jae de hr.m rfl jao (jaa (pv 2) (jaa (pv 1) jad jac) jac)) jab (jaw _))
  (jag (jan jcl))
  jax)
  (jaf (jar (i:=3) S.nd rfl (Or.inr rfl) (jae DK hr.m rfl jao (jaa (pv 2) jad jac)))
  (jaf (jar (i:=4) S.nd rfl (Or.inr rfl) (jae Df hr.m rfl jao (jaa (ja4 (jaa (jal jaq (pv 0) jab) (jaa (jal jaq (pv 0) jab) jad jav) jav)) (jaa (jal jaq (pv 0) jab) (jaa (pv 3) jad jac) jav) jaE)))
  (jaf (jbV (i:=5) rfl S.nd rfl rfl (N':=["edge","turn","spot","axis"]) (ix:=[4,1,3]) (by walk_at "cs") (jba (jae dq hr.m rfl jao (jaa (pv 0) jad jac))) (fun _ _ _ _=>jau (i:=0) (show (["edge","turn","spot","axis"]:List Str).Nodup from by decide +kernel) rfl (Or.inl rfl)) (fun _ _ _ _=>jaK) (fun _ _ _ _=>(jap jas (pv 1) (jae Df hr.m rfl jao (jaa (pv 0) (jaa (pv 2) (jaa (pv 3) jad jac) jac) jac)))))
  (jaf (jaM (jat jhu (jaz (jcV rfl) rfl T.m_min boot_min (jaa (pv 5) jad jac)) jab (jaw _))
  (jag (jan jcl))
  jax)
  (jaf (jaM (jat jcm (jaz (jcV rfl) rfl T.m_min boot_min (jaa (pv 5) jad jac)) jab (jaw _))
  (jag (jan jcl))
  jax)
  (jag (jan jcl))))))))),?_⟩
 have ln:=hs.len;have lm:(rs.map V.ref).length=ps.length:=by rw[xaa,ln]
 have kb:SqT K H b (rs.map V.ref):=SqT.of hb;obtain⟨m0,m1,m2,m3⟩:=jig (hs.get (i:=0) (by omega)).2.2 (hs.get (i:=1) (by omega)).2.2 (hs.get (i:=2) (by omega)).2.2;obtain⟨x,y,z,v,ep,sx,sy,sz,sv,g1',pb,hz⟩:=jjK (a:=jaG 0 (pt ps 0) (pt ps 1) (pt ps 2)) (b:=-jaG 1 (pt ps 0) (pt ps 1) (pt ps 2)) (c:=jaG 2 (pt ps 0) (pt ps 1) (pt ps 2)) (d:=jaG 3 (pt ps 0) (pt ps 1) (pt ps 2)) (fun z=>na ⟨z.1,by omega,z.2.2⟩) m0 m1.neg m2 m3;have ep':pln (rgh (pt ps 0) (pt ps 1) (pt ps 2))=[x,y,z,v]:=ep;walk_at "rf";refine⟨b,rs,ps,rfl,hb,hs,n3,na,fun g H1 s1 e1=>?_⟩;rw[ep'] at e1;try walk_at "rf"
 refine⟨g,e,x,y,z,v,P,rfl,e1,sx,sy,sz,sv,hP.keep s1,?_⟩;have nzF:¬(x=0/\y=0/\z=0):=fun h=>by
  rw[h.1,h.2.1,h.2.2] at pb;exact absurd pb (by decide)
 refine⟨rfl,?_⟩;have sg0:sgn (0:Int)=0:=rfl;by_cases h0:hgt x y z v P=0
 ·rw[h0,sg0,if_pos rfl];refine⟨g,x,y,z,v,rfl,e1,nzF,fun k hk=>?_⟩;have k02:0<=k/\k<=2:=by omega
  have q:=q k x y z v ep' hk;have kb1:=s1.tup kb;have hs1:=hs.keep s1.t;refine ixT kb1 (ja5 (j:=0) (hs.get (i:=0) (by omega)).1) (ixT kb1 (ja5 (j:=1) (hs.get (i:=1) (by omega)).1) ⟨by decide,fun p hp=>?_⟩);refine jbJ hp fun H2 s2 e2=>?_;have hs2:=hs1.keep s2.t;refine ixT (s2.tup kb1) (ja5 (j:=2) (hs.get (i:=2) (by omega)).1) ?_;refine⟨p,_,_,_,k,_,_,_,rfl,e2,(hs2.get (i:=0) (by omega)).2,(hs2.get (i:=1) (by omega)).2,(hs2.get (i:=2) (by omega)).2,k02.1,by omega,fun H3 s3=>?_⟩;have s13:=s1.trans (s2.trans s3);refine⟨b,rs,rfl,s13 _ _ hb,by omega,by omega,fun L H4 es s4 e4 l4 p4=>?_⟩;have s14:=s13.trans s4;have hs4:=hs.keep s14.t;have hP4:=hP.keep s14;have kL:SqL K H4 L (es.map V.ref):=SqL.of e4;refine⟨L,rfl,⟨_,kL⟩,fun acc hacc=>?_⟩;refine jg5 (zs:=es.map V.ref) (fun i y _=>y=.int (tsd k ps P i)) (fun i y J J' h _=>h) (by rw[xaa];omega) hacc kL ?_ ?_
  ·intro j zv H5 R hj s5 hR;have hjl:j<es.length:=by have:=(xae.mp hj).1;rw[xaa] at this;exact this
   rw[jbC hjl] at hj;cases hj;have hm:(j+(ps.length-1)) % ps.length<ps.length:=xaz _ (by omega);have pj:=p4 j (by omega);rw[ln] at pj;walk_at "rf";refine⟨ad es j,_,_,e,k,_,_,P,rfl,s5 _ _ pj,(hs4.get hm).2.keep s5,(hs4.get (i:=j) (by omega)).2.keep s5,hP4.keep s5,k02.1,by omega,fun H6 s6=>?_⟩;exact⟨_,rfl,jgz _,jgz _,hR _ _ s6 rfl⟩
  intro ys H5 s5 e5 l5 p5;have ey:ys=((List.range ps.length).map (tsd k ps P)).map V.int:=by
   refine xcq fun i=>?_;by_cases hi:i<ps.length
   ·have hy:i<ys.length:=by rw[l5,xaa,l4,ln];exact hi
    have z1:=p5 i ys[i] (xad hy);rw[xad hy,z1,xbK,xat,List.getElem?_range hi];rfl
   ·rw[xbq (by rw[l5,xaa,l4,ln];omega),xbq (by rw[xaa,xaa,xbf];omega)]
  rw[ey] at e5;have mem:∀{m:Int},m∈(List.range ps.length).map (tsd k ps P)->∃i,i<ps.length/\tsd k ps P i=m:=fun h=>by
   obtain⟨i,hi,e⟩:=xai.mp h;exact⟨i,xaH.mp hi,e⟩
  have has:∀{i:Nat},i<ps.length->tsd k ps P i∈(List.range ps.length).map (tsd k ps P):=fun hi=>xai.mpr ⟨_,xaH.mpr hi,rfl⟩;have nn:(List.range ps.length).map (tsd k ps P)≠[]:=fun h=>by
   have:=has (i:=0) (by omega);rw[h] at this;cases this
  have s15:=s14.trans s5;refine⟨_,SqL.of e5,nn,fun m hm hmin=>?_⟩;obtain⟨i0,hi0,em⟩:=mem hm;rcases q with ⟨n,_⟩ | ⟨_,q1,q2⟩ | ⟨_,q1,⟨j,hj,ej⟩,q2⟩ | ⟨_,⟨j,hj,ej⟩,q2⟩
  ·exact absurd h0 n
  ·rw[if_pos (by rw[<- em];exact q1 i0 hi0)];exact q2 _ s15
  ·have z1:=q1 i0 hi0;have z2:=hmin _ (has hj);rw[if_neg (by omega)];refine⟨_,SqL.of e5,nn,fun m' hm' hmin'=>?_⟩;obtain⟨i1,hi1,em1⟩:=mem hm';have z3:=q1 i1 hi1;have z4:=hmin' _ (has hj);rw[if_pos (by omega)];exact q2 _ s15
  ·have z2:=hmin _ (has hj);rw[if_neg (by omega)];refine⟨_,SqL.of e5,nn,fun m' hm' hmin'=>?_⟩;have z4:=hmin' _ (has hj);rw[if_neg (by omega)];exact q2 _ s15
 ·have ns:sgn (hgt x y z v P)≠0:=by
   unfold sgn;by_cases c1:hgt x y z v P>0
   ·rw[if_pos c1];decide
   ·rw[if_neg c1,if_pos (by omega)];decide
  rw[if_neg (fun e=>ns (V.int.inj e))];obtain⟨k,hk⟩:=ax_ex nzF;rcases q k x y z v ep' hk with ⟨_,q2⟩ | ⟨n,_⟩ | ⟨n,_⟩ | ⟨n,_⟩
  ·exact q2 _ s1
  ·exact absurd n h0
  ·exact absurd n h0
  ·exact absurd n h0
theorem hull0 (R:Rng vs) {p:Tri} (hp:InR vs p):0<=p.z/\(p.z=0->p.x=0/\p.y=0):=by
 have n3:=R.n3;have E:∀i,i<vs.length->0<=dt (tr vs i) (tr vs ((i+1) % vs.length)) p:=fun i hi=>hp _ (jfL hi);have g1:0<=dt (tr vs 0) (tr vs 1) p:=by
  have:=E 0 (by omega);rw[xbE,xal (by omega)] at this;exact this
 have g2:dt (tr vs 0) (tr vs (vs.length-3+2)) p<=0:=by
  have:=E (vs.length-1) (by omega);rw[show vs.length-1+1=vs.length by omega,xbc] at this;rw[show vs.length-3+2=vs.length-1 by omega];have sw:dt (tr vs 0) (tr vs (vs.length-1)) p=-dt (tr vs (vs.length-1)) (tr vs 0) p:=by unfold dt ja3;grind
  omega
 obtain⟨j,j1,j2,h1,h2⟩:=jgI (g:=fun j=>dt (tr vs 0) (tr vs j) p) (vs.length-3) g1 g2;have jl:j+1<vs.length:=by omega
 have h3:=E j (by omega);rw[xal jl] at h3;have D:=R.tp 0 j (j+1) (by omega) (by omega) jl;have s1:dt p (tr vs j) (tr vs (j+1))=dt (tr vs j) (tr vs (j+1)) p:=jck _ _ _;have s2:dt (tr vs 0) p (tr vs (j+1))=-dt (tr vs 0) (tr vs (j+1)) p:=by unfold dt ja3;grind
 obtain⟨cx,cy,cz⟩:=jj7 (tr vs 0) (tr vs j) (tr vs (j+1)) p;have h1:0<=dt (tr vs 0) (tr vs j) p:=h1;have h2:dt (tr vs 0) (tr vs (j+1)) p<=0:=h2;have z0:=R.hz _ (jaJ (show 0<vs.length by omega));have z1:=R.hz _ (jaJ (show j<vs.length by omega));have z2:=R.hz _ (jaJ jl);rw[s1,s2] at cx cy cz;generalize dt (tr vs j) (tr vs (j+1)) p=α at *
 have b0:0<=-dt (tr vs 0) (tr vs (j+1)) p:=by omega
 generalize -dt (tr vs 0) (tr vs (j+1)) p=β at *
 generalize dt (tr vs 0) (tr vs j) p=γ at *
 generalize dt (tr vs 0) (tr vs j) (tr vs (j+1))=d at *
 have m1:=xaf h3 (show 0<=(tr vs 0).z by omega);have m2:=xaf b0 (show 0<=(tr vs j).z by omega);have m3:=xaf h1 (show 0<=(tr vs (j+1)).z by omega);constructor
 ·rcases xaE p.z 0 with q | q
  ·have:=xak D q;omega
  ·exact q
 ·intro z;rw[z,xaj] at cz;have a0:α=0:=by
   have:α*(tr vs 0).z=0:=by omega
   rcases xah.mp this with h | h<;>omega
  have b0':β=0:=by
   have:β*(tr vs j).z=0:=by omega
   rcases xah.mp this with h | h<;>omega
  have c0:γ=0:=by
   have:γ*(tr vs (j+1)).z=0:=by omega
   rcases xah.mp this with h | h<;>omega
  rw[a0,b0',c0] at cx cy;constructor
  ·have:d*p.x=0:=by rw[cx];grind
   rcases xah.mp this with h | h<;>omega
  ·have:d*p.y=0:=by rw[cy];grind
   rcases xah.mp this with h | h<;>omega
theorem vert (A B C:Int) (a b c p:Tri):b.z*dt a b c*jaA A B C p=(b.z*jaA A B C c-c.z*jaA A B C b)*dt a b p+(b.z*jaA A B C a-a.z*jaA A B C b)*dt b c p+dt a b c*jaA A B C b*p.z:=by
 unfold jaA dt ja3;grind
theorem jke {f:Tri->Int}:∀{l:List Tri},l≠[]->(∀v∈l,1<=v.z)->∃b∈l,∀v∈l,f v*b.z<=f b*v.z
  | [],n,_=>(n rfl).elim
  | [x],_,_=>⟨x,by simp,fun v hv=>by rw[xaO.mp hv];exact xaI _⟩
  | x :: y :: r, _, hz => by
    obtain⟨b,hb,h⟩:=jke (f:=f) (l:=y::r) (by simp) fun v hv=>hz v (xag _ hv);have zx:=hz x (by simp);have zb:=hz b (xag _ hb);rcases Int.le_total (f x*b.z) (f b*x.z) with c | c
    . refine⟨b,xag _ hb,fun v hv=>?_⟩
      rcases xap.mp hv with rfl | hv
      . exact c
      . exact h v hv
    . refine⟨x,by simp,fun v hv=>?_⟩
      rcases xap.mp hv with rfl | hv
      . exact xaI _
      . have zv:=hz v (xag _ hv)
        exact jo2 (show 0<v.z by omega) (show 0<b.z by omega) (show 0<x.z by omega) (h v hv) c
theorem jkf (R:Rng vs) {l:Ln} (h:∀v∈vs,hf l v<=0):∃e1∈prs vs,∃e2∈prs vs,∃k x y c:Int,0<k/\0<=x/\0<=y/\0<=c/\∀p:Tri,k*hf l p=-(x*dt e1.1 e1.2 p)-y*dt e2.1 e2.2 p-c*p.z:=by
 obtain⟨b,hb,mx⟩:=jke (f:=hf l) R.ne R.hz;obtain⟨i,hi,rfl⟩:=jeh hb;have n3:=R.n3;have hm:(i+(vs.length-1)) % vs.length<vs.length:=xaz _ (by omega);have hn:(i+1) % vs.length<vs.length:=xaz _ (by omega);have D:=R.corner hi;have zb:=R.hz _ (jaJ hi);have m1:=mx _ (jaJ hm);have m2:=mx _ (jaJ hn);have hb0:=h _ (jaJ hi);refine⟨_,edg_mem.mpr ⟨i,hi,rfl⟩,_,jfL hi,_,-((tr vs i).z*hf l (tr vs ((i+1) % vs.length))-(tr vs ((i+1) % vs.length)).z*hf l (tr vs i)),-((tr vs i).z*hf l (tr vs ((i+(vs.length-1)) % vs.length))-(tr vs ((i+(vs.length-1)) % vs.length)).z*hf l (tr vs i)),-(dt (tr vs ((i+(vs.length-1)) % vs.length)) (tr vs i) (tr vs ((i+1) % vs.length))*hf l (tr vs i)),xab (show 0<(tr vs i).z by omega) D,?_,?_,?_,fun p=>?_⟩
 ·have:(tr vs i).z*hf l (tr vs ((i+1) % vs.length))<=(tr vs ((i+1) % vs.length)).z*hf l (tr vs i):=by
   rw[xaL,xaL (tr vs ((i+1) % vs.length)).z];exact m2
  omega
 ·have:(tr vs i).z*hf l (tr vs ((i+(vs.length-1)) % vs.length))<=(tr vs ((i+(vs.length-1)) % vs.length)).z*hf l (tr vs i):=by
   rw[xaL,xaL (tr vs ((i+(vs.length-1)) % vs.length)).z];exact m1
  omega
 ·have:=xaf (xan D) (show 0<=-hf l (tr vs i) by omega);rw[xbN] at this;exact this
 ·have v:=vert l.A l.B l.C (tr vs ((i+(vs.length-1)) % vs.length)) (tr vs i) (tr vs ((i+1) % vs.length)) p;have e:∀u,jaA l.A l.B l.C u=hf l u:=fun u=>rfl;simp only[e] at v;rw[v];grind
def Pos2 (g h:Tri->Int):Prop:=∃k m:Int,0<k/\0<m/\∀p,k*g p=m*h p
theorem Pos2.trans {f g:Tri->Int} (a:Pos2 f g) (b:Pos2 g h):Pos2 f h:=by
 obtain⟨k,m,k0,m0,e⟩:=a;obtain⟨k',m',k0',m0',e'⟩:=b;refine⟨k'*k,m*m',xab k0' k0,xab m0 m0',fun p=>?_⟩;have x1:k'*k*f p=k'*(k*f p):=by grind
 have x2:m*m'*h p=m*(m'*h p):=by grind
 rw[x1,x2,e,<- e'];grind
theorem Pos2.refl (f:Tri->Int):Pos2 f f:=⟨1,1,by decide,by decide,fun _=>rfl⟩
theorem Pos2.le {g:Tri->Int} (a:Pos2 g h) {p:Tri}:(h p<=0->g p<=0)/\(0<=h p->0<=g p)/\(0<h p->0<g p):=by
 obtain⟨k,m,k0,m0,e⟩:=a;have e:=e p;refine⟨fun q=>?_,fun q=>?_,fun q=>?_⟩
 ·rcases xaE 0 (g p) with c | c
  ·have h1:=xab k0 c;have h2:=xaf (xan m0) (show 0<=-h p by omega);rw[xbN] at h2;omega
  ·exact c
 ·rcases xaE (g p) 0 with c | c
  ·have h1:=xak k0 c;have h2:=xaf (xan m0) q;omega
  ·exact c
 ·rcases xaE 0 (g p) with c | c
  ·exact c
  ·have h1:=xaf (xan k0) (show 0<=-g p by omega);rw[xbN] at h1;have h2:=xab m0 q;omega
def Src (vs:List Tri) (ls:List Ln) (g:Tri->Int):Prop:=(∃e∈prs vs,Pos2 g (dt e.1 e.2))\/∃l∈ls,Pos2 g (hf l)
theorem jlr {l:Ln} (R:Rng vs) (up:∃v∈vs,0<hf l v):∀e∈prs (UP (hf l) vs),Src vs [l] (dt e.1 e.2):=fun e he=>by
 obtain⟨R1,reg⟩:=jbD R up;have he0:=he;rw[jdl up] at he;rcases jnF (A:=l.A) (B:=l.B) (C:=l.C) R.hz (fun a b ha hb o=>jhi (R.hz a ha) (R.hz b hb) o) up e he with ⟨e',he',k,m,k0,m0,q⟩ | ⟨z1,z2⟩
 ·exact .inl ⟨e',he',k,m,k0,m0,q⟩
 ·refine .inr ⟨l,by simp,?_⟩;obtain⟨i,hi,ee⟩:=jb5 he0;have n3:=R1.n3;obtain⟨j,hj,j1,j2⟩:=ja1 (n:=(UP (hf l) vs).length) (i:=i) (j:=(i+1) % (UP (hf l) vs).length) n3;have pos:=jbe R1.tp n3 hi hj (Ne.symm j2) (Ne.symm j1);have hu:=jaJ hj;have h0:=((reg _ (R1.hz _ hu)).mp (R1.own hu)).2;have pos:0<dt e.1 e.2 (tr (UP (hf l) vs) j):=by rw[ee];exact pos
  generalize tr (UP (hf l) vs) j=u at *
  obtain⟨w,hw,pw⟩:=up;have lp:=jfM (A:=l.A) (B:=l.B) (C:=l.C) z1 z2;have hup:0<hf l u:=by
   have e1:dt e.1 e.2 u*hf l w=hf l u*dt e.1 e.2 w:=lp u w;have p1:=xab pos pw;rcases xaE 0 (hf l u) with c | c
   ·exact c
   ·have:hf l u=0:=by omega
    rw[this,xaJ] at e1;omega
  refine⟨hf l u,dt e.1 e.2 u,hup,pos,fun q=>?_⟩;have e1:dt e.1 e.2 q*hf l u=hf l q*dt e.1 e.2 u:=lp q u;rw[xaL,e1,xaL]
theorem Src.up {l:Ln} {ls:List Ln} {g:Tri->Int} (R:Rng vs) (up:∃v∈vs,0<hf l v) (h:Src (UP (hf l) vs) ls g):Src vs (l::ls) g:=by
 rcases h with ⟨e,he,p⟩ | ⟨l',hl',p⟩
 ·rcases jlr R up e he with ⟨e',he',p'⟩ | ⟨l',hl',p'⟩
  ·exact .inl ⟨e',he',p.trans p'⟩
  ·rw[xaO.mp hl'] at p';exact .inr ⟨l,by simp,p.trans p'⟩
 ·exact .inr ⟨l',xag _ hl',p⟩
theorem jkg:∀(ls:List Ln) {vs:List Tri},Rng vs->KP ls vs=[]->∃l∈ls,∃g1 g2:Tri->Int,Src vs ls g1/\Src vs ls g2/\∃k x y c:Int,0<k/\0<=x/\0<=y/\0<=c/\∀p:Tri,k*hf l p=-(x*g1 p)-y*g2 p-c*p.z
  | [],vs,R,z=>(R.ne z).elim
  | l :: ls, vs, R, z => by
    by_cases up:∃v∈vs,0<hf l v
    . obtain⟨l',hl',g1,g2,s1,s2,r⟩:=jkg ls (jbD R up).1 z
      exact⟨l',xag _ hl',g1,g2,s1.up R up,s2.up R up,r⟩
    . obtain⟨e1,h1,e2,h2,r⟩:=jkf R (l:=l) fun v hv=>by
        have:¬0<hf l v:=fun h=>up ⟨v,hv,h⟩;omega
      exact⟨l,by simp,_,_,.inl ⟨e1,h1,Pos2.refl _⟩,.inl ⟨e2,h2,Pos2.refl _⟩,r⟩
theorem jgJ {α:Type} {f g:α->Int}:∀{l:List α},l≠[]->(∀v∈l,1<=g v)->∃b∈l,∀v∈l,f v*g b<=f b*g v
  | [],n,_=>(n rfl).elim
  | [x],_,_=>⟨x,by simp,fun v hv=>by rw[xaO.mp hv];exact xaI _⟩
  | x :: y :: r, _, hz => by
    obtain⟨b,hb,h⟩:=jgJ (f:=f) (g:=g) (l:=y::r) (by simp) fun v hv=>hz v (xag _ hv);have zx:=hz x (by simp);have zb:=hz b (xag _ hb);rcases Int.le_total (f x*g b) (f b*g x) with c | c
    . refine⟨b,xag _ hb,fun v hv=>?_⟩
      rcases xap.mp hv with rfl | hv
      . exact c
      . exact h v hv
    . refine⟨x,by simp,fun v hv=>?_⟩
      rcases xap.mp hv with rfl | hv
      . exact xaI _
      . have zv:=hz v (xag _ hv)
        exact jo2 (show 0<g v by omega) (show 0<g b by omega) (show 0<g x by omega) (h v hv) c
def crz (p q:Tri):Tri:=⟨0,q.x*p.y-p.x*q.y,q.x*p.z-p.x*q.z⟩
theorem sil {l:List Tri} (hz:∀v∈l,1<=v.z) (dn:∃v∈l,v.x<0) (up:∃v∈l,0<=v.x):∃p∈l,∃q∈l,p.x<0/\0<=q.x/\∀r∈l,dt p q r<=0:=by
 have pz:∀{p q:Tri},p∈l->q∈l->p.x<0->0<=q.x->1<=(crz p q).z:=fun {p q} hp hq px qx=>by
  have a1:=xaf qx (show 0<=p.z by have:=hz p hp;omega);have a2:=xab (show 0 < -p.x by omega) (show 0<q.z by have:=hz q hq;omega);rw[xbn] at a2;show 1<=q.x*p.z-p.x*q.z;omega
 obtain⟨d0,hd0,dx0⟩:=dn;obtain⟨u0,hu0,ux0⟩:=up;have dm:∀v,v∈l.filter (fun v=>decide (v.x<0))↔v∈l/\v.x<0:=fun v=>by rw[xbh,decide_eq_true_iff]
 have um:∀v,v∈l.filter (fun v=>decide (0<=v.x))↔v∈l/\0<=v.x:=fun v=>by rw[xbh,decide_eq_true_iff]
 generalize l.filter (fun v=>decide (v.x<0))=ds at dm;generalize l.filter (fun v=>decide (0<=v.x))=us at um;have pm:∀e:Tri × Tri,e∈ds.flatMap (fun p=>us.map fun q=>(p,q))↔e.1∈ds/\e.2∈us:=fun e=>by
  rw[xbu];constructor
  ·rintro⟨p,hp,h⟩;obtain⟨q,hq,rfl⟩:=xai.mp h;exact⟨hp,hq⟩
  ·intro h;exact⟨e.1,h.1,xai.mpr ⟨e.2,h.2,rfl⟩⟩
 generalize ds.flatMap (fun p=>us.map fun q=>(p,q))=ps at pm;obtain⟨e0,he0,mx⟩:=jgJ (f:=fun e:Tri × Tri=>(crz e.1 e.2).y) (g:=fun e=>(crz e.1 e.2).z) (l:=ps) (fun h=>by
  have:=(pm (d0,u0)).mpr ⟨(dm d0).mpr ⟨hd0,dx0⟩,(um u0).mpr ⟨hu0,ux0⟩⟩;rw[h] at this;cases this) fun e he=>by
   obtain⟨h1,h2⟩:=(pm e).mp he;obtain⟨a1,a2⟩:=(dm _).mp h1;obtain⟨b1,b2⟩:=(um _).mp h2;exact pz a1 b1 a2 b2
 obtain⟨h1,h2⟩:=(pm e0).mp he0;obtain⟨p0l,p0x⟩:=(dm _).mp h1;obtain⟨q0l,q0x⟩:=(um _).mp h2;have Zp:=pz p0l q0l p0x q0x;have mx':∀{p r:Tri},p∈l->p.x<0->r∈l->0<=r.x->(crz p r).y*(crz e0.1 e0.2).z<=(crz e0.1 e0.2).y*(crz p r).z:=fun {p r} hp px hr rx=>mx (p,r) ((pm _).mpr ⟨(dm _).mpr ⟨hp,px⟩,(um _).mpr ⟨hr,rx⟩⟩);have x0:(crz e0.1 e0.2).x=0:=rfl;have xc:∀g:Tri,dt g (crz e0.1 e0.2) (crz e0.1 e0.2)=0:=fun g=>(jcN g _).2.1;have xl:∀g h:Tri,dt g h (crz e0.1 e0.2)=e0.2.x*dt g h e0.1-e0.1.x*dt g h e0.2:=fun g h=>by
  unfold crz dt ja3;grind
 generalize crz e0.1 e0.2=X at *
 obtain⟨p,hp,mp⟩:=jgJ (f:=fun p:Tri=>p.y*X.z-p.z*X.y) (g:=fun p=>-p.x) (l:=ds) (fun h=>by rw[h] at h1;cases h1) fun v hv=>by
  have:=((dm v).mp hv).2;omega
 obtain⟨pl,px⟩:=(dm _).mp hp;have ex:∀r:Tri,dt p X r=-(p.x*(r.y*X.z-r.z*X.y))+r.x*(p.y*X.z-p.z*X.y):=fun r=>by
  unfold dt ja3;rw[x0];grind
 have all:∀r∈l,dt p X r<=0:=fun r hr=>by
  rcases xaE r.x 0 with c | c
  ·have h:(r.y*X.z-r.z*X.y)*-p.x<=(p.y*X.z-p.z*X.y)*-r.x:=mp r ((dm r).mpr ⟨hr,c⟩);rw[ex,xaL p.x,xaL r.x];rw[xbN,xbN] at h;omega
  ·have h:=mx' pl px hr c;have e:(crz p r).y*X.z-X.y*(crz p r).z=dt p X r:=by
    rw[ex];unfold crz;grind
   omega
 have q0:dt p X e0.2=0:=by
  have h:=xl p X;rw[xc] at h;have a1:=xaf q0x (show 0<=-dt p X e0.1 by have:=all _ p0l;omega);have a2:=xaf (show 0<=-e0.1.x by omega) (show 0<=-dt p X e0.2 by have:=all _ q0l;omega);rw[xbN] at a1;rw[xbn,xbN] at a2;have z:e0.1.x*dt p X e0.2=0:=by omega
  rcases xah.mp z with c | c
  ·omega
  ·exact c
 refine⟨p,pl,e0.2,q0l,px,q0x,fun r hr=>?_⟩;have t1:0<dt p X ⟨0,1,0⟩:=by
  have:dt p X ⟨0,1,0⟩=-p.x*X.z:=by
   unfold dt ja3;rw[x0];simp;grind
  rw[this];exact xab (by omega) (by omega)
 have t2:0<dt p e0.2 ⟨0,1,0⟩:=by
  have:dt p e0.2 ⟨0,1,0⟩=e0.2.x*p.z-p.x*e0.2.z:=by
   unfold dt ja3;simp;grind
  have:=pz pl q0l px q0x;unfold crz at this;simp only at this;omega
 have pk:dt p X r*dt p e0.2 ⟨0,1,0⟩-dt p X ⟨0,1,0⟩*dt p e0.2 r=dt p X e0.2*dt p r ⟨0,1,0⟩:=by
  unfold dt ja3;grind
 rw[q0,xaJ] at pk;rcases xaE 0 (dt p e0.2 r) with c | c
 ·have h1:=xab t1 c;have h2:=xaf (show 0<=-dt p X r by have:=all r hr;omega) (xan t2);rw[xbn] at h2;omega
 ·exact c
def jay (Z:Sht) (q:Tri):Pt:=⟨rX Z q,rY Z q,rZ Z q,rW Z q⟩
def hgP (f p:Pt):Int:=hgt f.x f.y f.z f.w p
theorem jbE (Z:Sht) (f:Pt) (q:Tri):hf (jaO Z f) q=hgP f (jay Z q):=by
 unfold hf jaO jaA lnA lnB lnC hgP hgt jay rX rY rZ rW;grind
structure Fcs (ps fs:List Pt):Prop where
 w:∀p∈ps,1<=p.w
 nn:∀f∈fs,∀p∈ps,0<=hgP f p
 pos:∀f∈fs,∃p∈ps,0<hgP f p
structure Own (Z:Sht) (N:Pt):Prop where
 on:∀q,hgP N (jay Z q)=0
 only:∀G:Pt,(∀q,hgP G (jay Z q)=0)->∃k m:Int,0<k/\∀p,k*hgP G p=m*hgP N p
def co (a:Int) (f:Pt) (b:Int) (g:Pt) (c:Int):Pt:=⟨a*f.x+b*g.x,a*f.y+b*g.y,a*f.z+b*g.z,a*f.w+b*g.w-c⟩
theorem jiK (a:Int) (f:Pt) (b:Int) (g:Pt) (c:Int) (p:Pt):hgP (co a f b g c) p=a*hgP f p+b*hgP g p+c*p.w:=by
 unfold hgP co hgt;grind
def T3p (N E:Pt) (p:Pt):Tri:=⟨hgP N p,hgP E p,p.w⟩
theorem part3 {fs:List Pt} (hw:1<=Z.w) (R:Rng vs) (F:Fcs ps fs) (O:Own Z N) (z:KP (fs.map (jaO Z)) vs=[]) :
  (∃f∈fs,∀v∈vs,hgP f (jay Z v)<=0)\/(∀p∈ps,0<=hgP N p)\/(∀p∈ps,hgP N p<=0) \/
  ∃e∈prs vs,∃E:Pt,(∃t:Int,0<t/\∀q:Tri,hgP E (jay Z q)=t*dt e.1 e.2 q)/\∃p∈ps,∃q∈ps,hgP N p<0/\0<=hgP N q/\(∀r∈ps,dt (T3p N E p) (T3p N E q) (T3p N E r)<=0)/\∀v∈vs,0<=dt (T3p N E p) (T3p N E q) (T3p N E (jay Z v)):=by
 obtain⟨l,hl,g1,g2,s1,s2,k,x,y,c,k0,x0,y0,c0,eq⟩:=jkg _ R z;obtain⟨f,hf0,rfl⟩:=xai.mp hl;have wz:∀q:Tri,(jay Z q).w=Z.w*q.z:=fun q=>rfl;have mixed:∀{a b c:Int} {g:Pt},0<a->0<=b->0<=c->g∈fs->∀p∈ps,0<=hgP (co a f b g c) p:=fun {a b c g} ha hb hc hg p hp=>by
  rw[jiK];have h1:=xaf (xan ha) (F.nn f hf0 p hp);have h2:=xaf hb (F.nn g hg p hp);have h3:=xaf hc (show 0<=p.w by have:=F.w p hp;omega);omega
 have own:∀{a:Int} {G:Pt},0<a->(∀p∈ps,a*hgP f p<=hgP G p)->(∀q:Tri,hgP G (jay Z q)=0)->(∀p∈ps,0<=hgP N p)\/(∀p∈ps,hgP N p<=0):=fun {a G} ha hG h=>by
  obtain⟨k',m',k0',e⟩:=O.only _ h;have nn:∀p∈ps,0<=hgP G p:=fun p hp=>xcn (xaf (xan ha) (F.nn f hf0 p hp)) (hG p hp);have go:∀p∈ps,0<=m'*hgP N p:=fun p hp=>by
   rw[<- e];exact xaf (xan k0') (nn p hp)
  rcases xa8 m' 0 with m0 | m0 | m0
  ·refine .inr fun p hp=>?_;have:=go p hp;rcases xaE 0 (hgP N p) with q | q
   ·have:=xay m0 q;omega
   ·exact q
  ·exfalso;obtain⟨p,hp,pp⟩:=F.pos f hf0;have e:=e p;rw[m0,xaJ] at e;have h1:=xab ha pp;have h2:=hG p hp;rcases xah.mp e with q | q<;>omega
  ·refine .inl fun p hp=>?_;have:=go p hp;rcases xaE (hgP N p) 0 with q | q
   ·have:=xak m0 q;omega
   ·exact q
 have edge:∀{a b c t:Int} {g:Pt} {e:Tri × Tri},0<a->0<=b->0<=c->0<t->g∈fs->e∈prs vs->(∀q:Tri,hgP (co a f b g c) (jay Z q)=-(t*dt e.1 e.2 q))->(∀p∈ps,0<=hgP N p)\/(∀p∈ps,hgP N p<=0)\/∃e∈prs vs,∃E:Pt,(∃t:Int,0<t/\∀q:Tri,hgP E (jay Z q)=t*dt e.1 e.2 q)/\∃p∈ps,∃q∈ps,hgP N p<0/\0<=hgP N q/\(∀r∈ps,dt (T3p N E p) (T3p N E q) (T3p N E r)<=0)/\∀v∈vs,0<=dt (T3p N E p) (T3p N E q) (T3p N E (jay Z v)):=fun {a b c t g e} ha hb hc ht hg he h=>by
  by_cases dn:∃p∈ps,hgP N p<0
  ·by_cases up:∃p∈ps,0<=hgP N p
   ·refine .inr (.inr ⟨e,he,⟨-(co a f b g c).x,-(co a f b g c).y,-(co a f b g c).z,-(co a f b g c).w⟩,?_⟩);have en:∀p,hgP ⟨-(co a f b g c).x,-(co a f b g c).y,-(co a f b g c).z,-(co a f b g c).w⟩ p=-hgP (co a f b g c) p:=fun p=>by
     unfold hgP hgt;grind
    have el:∀p∈ps,hgP ⟨-(co a f b g c).x,-(co a f b g c).y,-(co a f b g c).z,-(co a f b g c).w⟩ p<=0:=fun p hp=>by
     rw[en];have:=mixed ha hb hc hg p hp;omega
    have er:∀q,hgP ⟨-(co a f b g c).x,-(co a f b g c).y,-(co a f b g c).z,-(co a f b g c).w⟩ (jay Z q)=t*dt e.1 e.2 q:=fun q=>by rw[en,h];omega
    generalize (⟨-(co a f b g c).x,-(co a f b g c).y,-(co a f b g c).z,-(co a f b g c).w⟩:Pt)=E at *
    refine⟨⟨t,ht,er⟩,?_⟩;obtain⟨d,hd,dx⟩:=dn;obtain⟨u,hu,ux⟩:=up;obtain⟨p',hp',q',hq',px,qx,al⟩:=sil (l:=ps.map (T3p N E)) (fun v hv=>by
     obtain⟨p,hp,rfl⟩:=xai.mp hv;exact F.w p hp) ⟨_,xai.mpr ⟨d,hd,rfl⟩,dx⟩ ⟨_,xai.mpr ⟨u,hu,rfl⟩,ux⟩
    obtain⟨p,hp,rfl⟩:=xai.mp hp';obtain⟨q,hq,rfl⟩:=xai.mp hq';have px:hgP N p<0:=px;have qx:0<=hgP N q:=qx;refine⟨p,hp,q,hq,px,qx,fun r hr=>al _ (xai.mpr ⟨r,hr,rfl⟩),fun v hv=>?_⟩;have ep:=el p hp;have eq':=el q hq;have ev:0<=hgP E (jay Z v):=by
     rw[er];exact xaf (xan ht) (R.own hv e he)
    have wv:0<=(jay Z v).w:=by
     rw[wz];exact xaf (by omega) (by have:=R.hz v hv;omega)
    have wp:=F.w p hp;have wq:=F.w q hq;have id:dt (T3p N E p) (T3p N E q) (T3p N E (jay Z v))=hgP E (jay Z v)*(p.w*hgP N q-hgP N p*q.w)+(jay Z v).w*(hgP N p*hgP E q-hgP E p*hgP N q):=by
     unfold T3p dt ja3;rw[O.on];simp only;grind
    rw[id];have a1:=xaf (show 0<=p.w by omega) qx;have a2:=xab (show 0 < -hgP N p by omega) (show 0<q.w by omega);have a3:=xaf (show 0<=-hgP N p by omega) (show 0<=-hgP E q by omega);have a4:=xaf (show 0<=-hgP E p by omega) qx;rw[xbn] at a2 a4;rw[xbn,xbN] at a3;exact Int.add_nonneg (xaf ev (by omega)) (xaf wv (by omega))
   ·exact .inr (.inl fun p hp=>by
     have:¬0<=hgP N p:=fun h=>up ⟨p,hp,h⟩;omega)
  ·exact .inl fun p hp=>by
    have:¬hgP N p<0:=fun h=>dn ⟨p,hp,h⟩;omega
 have zw:0<Z.w:=by omega
 have ge:∀{a b c:Int} {g:Pt},0<=b->0<=c->g∈fs->∀p∈ps,a*hgP f p<=hgP (co a f b g c) p:=fun {a b c g} hb hc hg p hp=>by
  rw[jiK];have h2:=xaf hb (F.nn g hg p hp);have h3:=xaf hc (show 0<=p.w by have:=F.w p hp;omega);omega
 have one:∀{g g':Tri->Int} {x y:Int},0<=x->0<=y->(∃e∈prs vs,Pos2 g (dt e.1 e.2))->(∃l∈fs.map (jaO Z),Pos2 g' (hf l))->(∀p:Tri,k*hf (jaO Z f) p=-(x*g p)-y*g' p-c*p.z)->(∀p∈ps,0<=hgP N p)\/(∀p∈ps,hgP N p<=0)\/∃e∈prs vs,∃E:Pt,(∃t:Int,0<t/\∀q:Tri,hgP E (jay Z q)=t*dt e.1 e.2 q)/\∃p∈ps,∃q∈ps,hgP N p<0/\0<=hgP N q/\(∀r∈ps,dt (T3p N E p) (T3p N E q) (T3p N E r)<=0)/\∀v∈vs,0<=dt (T3p N E p) (T3p N E q) (T3p N E (jay Z v)):=fun {g g' x y} x0 y0 ⟨e,he,k1,m1,k10,m10,q1⟩ ⟨l,hl,k2,m2,k20,m20,q2⟩ eq=>by
  obtain⟨f2,hf2,rfl⟩:=xai.mp hl;have kk:=xab k10 k20;have ha:0<Z.w*(k1*k2)*k:=xab (xab zw kk) k0;have hb:0<=Z.w*k1*y*m2:=xaf (xaf (xaf (by omega) (by omega)) y0) (by omega);have hc:0<=k1*k2*c:=xaf (by omega) c0;have id:∀q:Tri,hgP (co (Z.w*(k1*k2)*k) f (Z.w*k1*y*m2) f2 (k1*k2*c)) (jay Z q)=-((Z.w*k2*x*m1)*dt e.1 e.2 q):=fun q=>by
   rw[jiK,<- jbE,<- jbE,wz];have e1:=eq q;have e2:=q1 q;have e3:=q2 q;have x1:Z.w*(k1*k2)*k*hf (jaO Z f) q=Z.w*(k1*k2)*(k*hf (jaO Z f) q):=by grind
   have x2:Z.w*k1*y*m2*hf (jaO Z f2) q=Z.w*k1*y*(m2*hf (jaO Z f2) q):=by grind
   have x3:Z.w*k2*x*m1*dt e.1 e.2 q=Z.w*k2*x*(m1*dt e.1 e.2 q):=by grind
   rw[x1,x2,x3,e1,<- e2,<- e3];grind
  rcases xaE 0 x with xp | xn
  ·exact edge ha hb hc (xab (xab (xab zw k20) xp) m10) hf2 he id
  ·have xz:x=0:=by omega
   have:=own ha (ge hb hc hf2) fun q=>by rw[id,xz];grind
   rcases this with h | h
   ·exact .inl h
   ·exact .inr (.inl h)
 rcases s1 with v1 | l1
 ·rcases s2 with v2 | l2
  ·refine .inl ⟨f,hf0,fun v hv=>?_⟩;rw[<- jbE];obtain⟨e1,he1,p1⟩:=v1;obtain⟨e2,he2,p2⟩:=v2;have q:=eq v;have a1:=xaf x0 ((p1.le (p:=v)).2.1 (R.own hv e1 he1));have a2:=xaf y0 ((p2.le (p:=v)).2.1 (R.own hv e2 he2));have a3:=xaf c0 (show 0<=v.z by have:=R.hz _ hv;omega);rcases xaE 0 (hf (jaO Z f) v) with h | h
   ·have:=xab k0 h;omega
   ·exact h
  ·exact .inr (one x0 y0 v1 l2 eq)
 ·rcases s2 with v2 | l2
  ·exact .inr (one y0 x0 v2 l1 fun p=>by rw[eq p];omega)
  ·obtain⟨l1,hl1,k1,m1,k10,m10,q1⟩:=l1;obtain⟨l2,hl2,k2,m2,k20,m20,q2⟩:=l2;obtain⟨f1,hf1,rfl⟩:=xai.mp hl1;obtain⟨f2,hf2,rfl⟩:=xai.mp hl2;have kk:=xab k10 k20;have ha:0<Z.w*(k1*k2)*k:=xab (xab zw kk) k0;have hb:0<=Z.w*k1*y*m2:=xaf (xaf (xaf (by omega) (by omega)) y0) (by omega);have hb':0<=Z.w*k2*x*m1:=xaf (xaf (xaf (by omega) (by omega)) x0) (by omega);have hc:0<=k1*k2*c:=xaf (by omega) c0;have:=own (G:=co 1 (co (Z.w*(k1*k2)*k) f (Z.w*k1*y*m2) f2 (k1*k2*c)) (Z.w*k2*x*m1) f1 0) ha (fun p hp=>by
    rw[jiK,xbt,xaJ];have h1:=ge (a:=Z.w*(k1*k2)*k) hb hc hf2 p hp;have h2:=xaf hb' (F.nn f1 hf1 p hp);omega) fun q=>by
     rw[jiK,jiK,<- jbE,<- jbE,<- jbE,wz];have e1:=eq q;have e2:=q1 q;have e3:=q2 q;have x1:Z.w*(k1*k2)*k*hf (jaO Z f) q=Z.w*(k1*k2)*(k*hf (jaO Z f) q):=by grind
     have x2:Z.w*k1*y*m2*hf (jaO Z f2) q=Z.w*k1*y*(m2*hf (jaO Z f2) q):=by grind
     have x3:Z.w*k2*x*m1*hf (jaO Z f1) q=Z.w*k2*x*(m1*hf (jaO Z f1) q):=by grind
     rw[x1,x2,x3,e1,<- e2,<- e3];grind
   rcases this with h | h
   ·exact .inr (.inl h)
   ·exact .inr (.inr (.inl h))
def rgQ (a b c:Pt):Pt:=⟨jaG 0 a b c,-jaG 1 a b c,jaG 2 a b c,jaG 3 a b c⟩
def kx (N E:Pt):Pt:=⟨N.y*E.z-N.z*E.y,N.z*E.x-N.x*E.z,N.x*E.y-N.y*E.x,0⟩
theorem jb6 (a b c d:Pt):hgP (rgQ a b c) d=ja3 a.y a.z a.w b.y b.z b.w c.y c.z c.w*d.x-ja3 a.x a.z a.w b.x b.z b.w c.x c.z c.w*d.y+ja3 a.x a.y a.w b.x b.y b.w c.x c.y c.w*d.z-ja3 a.x a.y a.z b.x b.y b.z c.x c.y c.z*d.w:=by
 show jaG 0 a b c*d.x+-jaG 1 a b c*d.y+jaG 2 a b c*d.z-jaG 3 a b c*d.w=_;have e0:jaG 0 a b c=ja3 a.y a.z a.w b.y b.z b.w c.y c.z c.w:=rfl;have e1:jaG 1 a b c=ja3 a.x a.z a.w b.x b.z b.w c.x c.z c.w:=rfl;have e2:jaG 2 a b c=ja3 a.x a.y a.w b.x b.y b.w c.x c.y c.w:=rfl;have e3:jaG 3 a b c=ja3 a.x a.y a.z b.x b.y b.z c.x c.y c.z:=rfl;rw[e0,e1,e2,e3,xbn];omega
theorem jpu (N E p q P:Pt):dt (T3p N E p) (T3p N E q) (T3p N E P)=-hgP (rgQ p q (kx N E)) P:=by
 rw[jb6];unfold dt ja3 T3p kx hgP hgt;simp only;grind
theorem jhl (p q D P:Pt) (k:Int):hgP (rgQ p q ⟨k*D.x,k*D.y,k*D.z,k*D.w⟩) P=k*hgP (rgQ p q D) P:=by
 rw[jb6,jb6];unfold ja3;simp only;grind
theorem cand {E D:Pt} (dN:hgP N D=0) (dE:hgP E D=0) (dw:D.w=0) (dn:¬(D.x=0/\D.y=0/\D.z=0)) (nz:∃P,dt (T3p N E p) (T3p N E q) (T3p N E P)≠0):∃a b:Int,a≠0/\b≠0/\∀P,a*dt (T3p N E p) (T3p N E q) (T3p N E P)=b*hgP (rgQ p q D) P:=by
 have hN:N.x*D.x+N.y*D.y+N.z*D.z=0:=by
  unfold hgP hgt at dN;rw[dw] at dN;omega
 have hE:E.x*D.x+E.y*D.y+E.z*D.z=0:=by
  unfold hgP hgt at dE;rw[dw] at dE;omega
 have c1:(kx N E).x*D.y=(kx N E).y*D.x:=by
  unfold kx;simp only;grind
 have c2:(kx N E).y*D.z=(kx N E).z*D.y:=by
  unfold kx;simp only;grind
 have c3:(kx N E).z*D.x=(kx N E).x*D.z:=by
  unfold kx;simp only;grind
 have kw:(kx N E).w=0:=rfl;have go:∀{d k:Int},d≠0->(⟨d*(kx N E).x,d*(kx N E).y,d*(kx N E).z,d*(kx N E).w⟩:Pt)=⟨k*D.x,k*D.y,k*D.z,k*D.w⟩->∃a b:Int,a≠0/\b≠0/\∀P,a*dt (T3p N E p) (T3p N E q) (T3p N E P)=b*hgP (rgQ p q D) P:=fun {d k} d0 e=>by
  have id:∀P,d*dt (T3p N E p) (T3p N E q) (T3p N E P)=-k*hgP (rgQ p q D) P:=fun P=>by
   rw[jpu,xbN,<- jhl,e,jhl,xbn]
  refine⟨d,-k,d0,fun k0=>?_,id⟩;obtain⟨P,hP⟩:=nz;have:=id P;rw[k0,xaJ] at this;rcases xah.mp this with h | h
  ·exact d0 h
  ·exact hP h
 by_cases x0:D.x=0
 ·by_cases y0:D.y=0
  ·refine go (d:=D.z) (k:=(kx N E).z) (fun z0=>dn ⟨x0,y0,z0⟩) ?_;rw[kw,dw]
   congr 1<;>grind
  ·refine go (d:=D.y) (k:=(kx N E).y) y0 ?_;rw[kw,dw]
   congr 1<;>grind
 ·refine go (d:=D.x) (k:=(kx N E).x) x0 ?_;rw[kw,dw]
  congr 1<;>grind
theorem two_zero (R:Rng vs) {C:Int} (h:∀v∈vs,0<=jaA A B C v) (ij:i+1<j) (jl:j<vs.length) (nw:¬(i=0/\j=vs.length-1)) (hi:jaA A B C (tr vs i)=0) (hj:jaA A B C (tr vs j)=0):∀v∈vs,jaA A B C v=0:=by
 have cell:∀{a b c d:Nat},a<b->b<c->c<d->d<vs.length->(0<dt (tr vs b) (tr vs c) (tr vs d)/\0<dt (tr vs d) (tr vs a) (tr vs b)/\0<dt (tr vs c) (tr vs d) (tr vs a)/\0<dt (tr vs a) (tr vs b) (tr vs c)):=fun {a b c d} ab bc cd dl=>by
  refine⟨R.tp b c d bc cd dl,?_,?_,R.tp a b c ab bc (by omega)⟩
  ·rw[jck];exact R.tp a b d ab (by omega) dl
  ·rw[jck,jck];exact R.tp a c d (by omega) cd dl
 have nn:∀k,k<vs.length->0<=jaA A B C (tr vs k):=fun k hk=>h _ (jaJ hk);have pair:∀k m,i<k->k<j->m<vs.length->(m<i\/j<m)->jaA A B C (tr vs k)=0/\jaA A B C (tr vs m)=0:=fun k m ik kj ml mo=>by
  have hk:=nn k (by omega);have hm:=nn m ml;rcases mo with mi | jm
  ·obtain⟨d1,d2,d3,d4⟩:=cell mi ik kj jl;have e:=jhM A B C (tr vs m) (tr vs i) (tr vs k) (tr vs j);rw[hi,hj,xaj,xaj] at e;have a1:=xaf (xan d1) hm;have a2:=xaf (xan d2) hk;have z1:dt (tr vs i) (tr vs k) (tr vs j)*jaA A B C (tr vs m)=0:=by omega
   have z2:dt (tr vs j) (tr vs m) (tr vs i)*jaA A B C (tr vs k)=0:=by omega
   constructor
   ·rcases xah.mp z2 with q | q
    ·omega
    ·exact q
   ·rcases xah.mp z1 with q | q
    ·omega
    ·exact q
  ·obtain⟨d1,d2,d3,d4⟩:=cell ik kj jm ml;have e:=jhM A B C (tr vs i) (tr vs k) (tr vs j) (tr vs m);rw[hi,hj,xaj,xaj] at e;have a1:=xaf (xan d3) hk;have a2:=xaf (xan d4) hm;have z1:dt (tr vs j) (tr vs m) (tr vs i)*jaA A B C (tr vs k)=0:=by omega
   have z2:dt (tr vs i) (tr vs k) (tr vs j)*jaA A B C (tr vs m)=0:=by omega
   constructor
   ·rcases xah.mp z1 with q | q
    ·omega
    ·exact q
   ·rcases xah.mp z2 with q | q
    ·omega
    ·exact q
 obtain⟨m0,m0l,m0o⟩:∃m,m<vs.length/\(m<i\/j<m):=by
  by_cases c:0<i
  ·exact⟨0,by omega,.inl c⟩
  ·exact⟨vs.length-1,by omega,.inr (by
    have:j≠vs.length-1:=fun e=>nw ⟨by omega,e⟩;omega)⟩
 intro v hv;obtain⟨k,hk,rfl⟩:=jeh hv;rcases Nat.lt_trichotomy k i with c | c | c
 ·exact (pair (i+1) k (by omega) ij hk (.inl c)).2
 ·rw[c];exact hi
 ·rcases Nat.lt_trichotomy k j with c2 | c2 | c2
  ·exact (pair k m0 c c2 m0l m0o).1
  ·rw[c2];exact hj
  ·exact (pair (i+1) k (by omega) ij hk (.inr c2)).2
def nP (Z:Sht):Pt:=⟨Z.w*Z.u.x,Z.w*Z.u.y,Z.w*Z.u.z,Z.u.x*Z.s.x+Z.u.y*Z.s.y+Z.u.z*Z.s.z⟩
theorem jeD (Z:Sht) (q:Tri):hgP (nP Z) (jay Z q)=0:=by
 unfold hgP nP hgt jay rX rY rZ rW Sht.u;grind
theorem own0 (hw:1<=Z.w) (nz:Z.u.nz):Own Z (nP Z):=by
 refine⟨jeD Z,fun G h=>?_⟩;have h1:Z.w*(G.x*Z.c.x+G.y*Z.c.y+G.z*Z.c.z)=0:=by
  have:=h ⟨1,0,0⟩;unfold hgP hgt jay rX rY rZ rW at this;simp at this;grind
 have h2:Z.w*(G.x*Z.d.x+G.y*Z.d.y+G.z*Z.d.z)=0:=by
  have:=h ⟨0,1,0⟩;unfold hgP hgt jay rX rY rZ rW at this;simp at this;grind
 have h3:G.x*Z.s.x+G.y*Z.s.y+G.z*Z.s.z=G.w*Z.w:=by
  have:=h ⟨0,0,1⟩;unfold hgP hgt jay rX rY rZ rW at this;simp at this;omega
 have w0:Z.w≠0:=by omega
 have g1:=(xah.mp h1).resolve_left w0;have g2:=(xah.mp h2).resolve_left w0;have p1:G.x*Z.u.y=G.y*Z.u.x:=by
  unfold Sht.u;simp only;grind
 have p2:G.y*Z.u.z=G.z*Z.u.y:=by
  unfold Sht.u;simp only;grind
 have p3:G.z*Z.u.x=G.x*Z.u.z:=by
  unfold Sht.u;simp only;grind
 have uu:0<Z.u.x*Z.u.x+Z.u.y*Z.u.y+Z.u.z*Z.u.z:=by
  have sq:∀i:Int,0<=i*i/\(i≠0->0<i*i):=fun i=>by
   rcases xa8 i 0 with c | c | c
   ·have:=xaN c c;omega
   ·rw[c];exact⟨by decide,fun n=>(n rfl).elim⟩
   ·have:=xab c c;omega
  have a:=sq Z.u.x;have b:=sq Z.u.y;have c:=sq Z.u.z;by_cases x0:Z.u.x=0
  ·by_cases y0:Z.u.y=0
   ·have:=c.2 fun z0=>nz ⟨x0,y0,z0⟩;omega
   ·have:=b.2 y0;omega
  ·have:=a.2 x0;omega
 generalize hU:Z.u=U at *
 refine⟨Z.w*(U.x*U.x+U.y*U.y+U.z*U.z),G.x*U.x+G.y*U.y+G.z*U.z,xab (by omega) uu,fun p=>?_⟩;have q1:(U.x*U.x+U.y*U.y+U.z*U.z)*G.x=(G.x*U.x+G.y*U.y+G.z*U.z)*U.x:=by grind
 have q2:(U.x*U.x+U.y*U.y+U.z*U.z)*G.y=(G.x*U.x+G.y*U.y+G.z*U.z)*U.y:=by grind
 have q3:(U.x*U.x+U.y*U.y+U.z*U.z)*G.z=(G.x*U.x+G.y*U.y+G.z*U.z)*U.z:=by grind
 unfold hgP nP hgt;rw[hU];simp only;generalize U.x*U.x+U.y*U.y+U.z*U.z=n at *
 generalize G.x*U.x+G.y*U.y+G.z*U.z=m at *
 have q4:n*(G.w*Z.w)=m*(U.x*Z.s.x+U.y*Z.s.y+U.z*Z.s.z):=by
  rw[<- h3];grind
 grind
theorem five (s A B C P:Pt):(hgP (rgQ s B C) P*A.x+hgP (rgQ s C A) P*B.x+hgP (rgQ s A B) P*C.x=hgP (rgQ A B C) P*s.x-hgP (rgQ A B C) s*P.x/\hgP (rgQ s B C) P*A.y+hgP (rgQ s C A) P*B.y+hgP (rgQ s A B) P*C.y=hgP (rgQ A B C) P*s.y-hgP (rgQ A B C) s*P.y) /\
  hgP (rgQ s B C) P*A.z+hgP (rgQ s C A) P*B.z+hgP (rgQ s A B) P*C.z=hgP (rgQ A B C) P*s.z-hgP (rgQ A B C) s*P.z/\hgP (rgQ s B C) P*A.w+hgP (rgQ s C A) P*B.w+hgP (rgQ s A B) P*C.w=hgP (rgQ A B C) P*s.w-hgP (rgQ A B C) s*P.w:=by
 simp only[jb6,ja3];refine⟨⟨?_,?_⟩,?_,?_⟩<;>grind
theorem jkh (s A A' B P:Pt) (x y:Int):hgP (rgQ s ⟨x*A.x+y*A'.x,x*A.y+y*A'.y,x*A.z+y*A'.z,x*A.w+y*A'.w⟩ B) P=x*hgP (rgQ s A B) P+y*hgP (rgQ s A' B) P:=by
 simp only[jb6,ja3];grind
theorem je0 (s A B P:Pt):hgP (rgQ s B A) P=-hgP (rgQ s A B) P:=by
 simp only[jb6,ja3];grind
theorem jfN (s A B:Pt):hgP (rgQ s A B) s=0/\hgP (rgQ s A B) A=0/\hgP (rgQ s A B) B=0:=by
 simp only[jb6,ja3];refine⟨?_,?_,?_⟩<;>grind
def r1 (Z:Sht):Pt:=jay Z ⟨1,0,0⟩
def r2 (Z:Sht):Pt:=jay Z ⟨0,1,0⟩
def r3 (Z:Sht):Pt:=jay Z ⟨0,0,1⟩
theorem jgd (Z:Sht) (a:Tri):jay Z a=⟨a.x*(r1 Z).x+a.y*(r2 Z).x+a.z*(r3 Z).x,a.x*(r1 Z).y+a.y*(r2 Z).y+a.z*(r3 Z).y,a.x*(r1 Z).z+a.y*(r2 Z).z+a.z*(r3 Z).z,a.x*(r1 Z).w+a.y*(r2 Z).w+a.z*(r3 Z).w⟩:=by
 unfold r1 r2 r3 jay rX rY rZ rW
 congr 1<;>grind
theorem jki (Z:Sht) (P:Pt):hgP (rgQ (r1 Z) (r2 Z) (r3 Z)) P=Z.w*Z.w*hgP (nP Z) P:=by
 simp only[jb6,ja3];unfold r1 r2 r3 jay rX rY rZ rW hgP nP hgt Sht.u;grind
def prj (Z:Sht) (s P:Pt):Tri:=⟨hgP (rgQ s (r2 Z) (r3 Z)) P,hgP (rgQ s (r3 Z) (r1 Z)) P,hgP (rgQ s (r1 Z) (r2 Z)) P⟩
theorem jmn (s A A' A'' B P:Pt) (x y z:Int):hgP (rgQ s ⟨x*A.x+y*A'.x+z*A''.x,x*A.y+y*A'.y+z*A''.y,x*A.z+y*A'.z+z*A''.z,x*A.w+y*A'.w+z*A''.w⟩ B) P=x*hgP (rgQ s A B) P+y*hgP (rgQ s A' B) P+z*hgP (rgQ s A'' B) P:=by
 have h1:=jkh s ⟨x*A.x+y*A'.x,x*A.y+y*A'.y,x*A.z+y*A'.z,x*A.w+y*A'.w⟩ A'' B P 1 z;simp only[xbt] at h1;rw[h1,jkh]
theorem jmo (Z:Sht) (s P:Pt) (a b:Tri):dt a b (prj Z s P)=hgP (rgQ s (jay Z a) (jay Z b)) P:=by
 have lin:∀B,hgP (rgQ s (jay Z a) B) P=a.x*hgP (rgQ s (r1 Z) B) P+a.y*hgP (rgQ s (r2 Z) B) P+a.z*hgP (rgQ s (r3 Z) B) P:=fun B=>by
  rw[jgd,jmn]
 have lin':∀A,hgP (rgQ s A (jay Z b)) P=b.x*hgP (rgQ s A (r1 Z)) P+b.y*hgP (rgQ s A (r2 Z)) P+b.z*hgP (rgQ s A (r3 Z)) P:=fun A=>by
  rw[je0,jgd,jmn,je0 s A,je0 s A (r2 Z),je0 s A (r3 Z)];grind
 have z1:∀A,hgP (rgQ s A A) P=0:=fun A=>by have:=je0 s A A P;omega
 rw[lin,lin',lin',lin',z1,z1,z1,je0 s (r1 Z) (r2 Z),je0 s (r2 Z) (r3 Z),je0 s (r3 Z) (r1 Z)];unfold prj dt ja3;simp only;grind
theorem jnL (Z:Sht) (s P:Pt) (g:Pt):hgP g (jay Z (prj Z s P))=Z.w*Z.w*(hgP (nP Z) P*hgP g s-hgP (nP Z) s*hgP g P):=by
 have F:=five s (r1 Z) (r2 Z) (r3 Z) P;rw[jki,jki] at F;obtain⟨⟨e1,e2⟩,e3,e4⟩:=F;rw[jgd];unfold prj;simp only;rw[e1,e2,e3,e4];generalize hgP (nP Z) P=u;generalize hgP (nP Z) s=v;unfold hgP hgt;simp only;grind
def yy (Z:Sht) (s P:Pt) (ε:Int):Tri:=⟨-ε*(prj Z s P).x,-ε*(prj Z s P).y,-ε*(prj Z s P).z⟩
theorem jnM (Z:Sht) (s P:Pt) (ε:Int) (a b:Tri):dt a b (yy Z s P ε)=-ε*hgP (rgQ s (jay Z a) (jay Z b)) P:=by
 rw[<- jmo];unfold yy dt ja3;simp only;grind
theorem jkj (Z:Sht) (s P:Pt) (ε:Int) (g:Pt):hgP g (jay Z (yy Z s P ε))=Z.w*Z.w*(ε*hgP (nP Z) s*hgP g P-ε*hgP (nP Z) P*hgP g s):=by
 have h:=jnL Z s P g;have e:hgP g (jay Z (yy Z s P ε))=-ε*hgP g (jay Z (prj Z s P)):=by
  unfold yy;rw[jgd,jgd];unfold hgP hgt;simp only;grind
 rw[e,h];grind
theorem hg_lc (f A B C:Pt) (x y z:Int):hgP f ⟨x*A.x+y*B.x+z*C.x,x*A.y+y*B.y+z*C.y,x*A.z+y*B.z+z*C.z,x*A.w+y*B.w+z*C.w⟩=x*hgP f A+y*hgP f B+z*hgP f C:=by
 unfold hgP hgt;simp only;grind
theorem jkk (f:Pt) (Z:Sht) (c:Tri):hgP f (jay Z c)=c.x*hgP f (r1 Z)+c.y*hgP f (r2 Z)+c.z*hgP f (r3 Z):=by rw[jgd,hg_lc]
theorem jcO (s A B C:Pt):hgP (rgQ s A B) C=-hgP (rgQ C A B) s/\hgP (rgQ A B C) s=hgP (rgQ B C A) s:=by
 simp only[jb6,ja3];refine⟨?_,?_⟩<;>grind
theorem jbh (Z:Sht) (s:Pt) (a b c:Tri):hgP (rgQ s (jay Z a) (jay Z b)) (jay Z c)=-(Z.w*Z.w*hgP (nP Z) s*dt a b c):=by
 rw[<- jmo];have e1:=jki Z s;have e2:=(jcO s (r1 Z) (r2 Z) (r3 Z)).2;have e3:=(jcO s (r2 Z) (r3 Z) (r1 Z)).2;have c1:hgP (rgQ s (r2 Z) (r3 Z)) (jay Z c)=-(Z.w*Z.w*hgP (nP Z) s*c.x):=by
  rw[jkk,(jfN s (r2 Z) (r3 Z)).2.1,(jfN s (r2 Z) (r3 Z)).2.2,(jcO s (r2 Z) (r3 Z) (r1 Z)).1,e1];grind
 have c2:hgP (rgQ s (r3 Z) (r1 Z)) (jay Z c)=-(Z.w*Z.w*hgP (nP Z) s*c.y):=by
  rw[jkk,(jfN s (r3 Z) (r1 Z)).2.1,(jfN s (r3 Z) (r1 Z)).2.2,(jcO s (r3 Z) (r1 Z) (r2 Z)).1,<- e2,e1];grind
 have c3:hgP (rgQ s (r1 Z) (r2 Z)) (jay Z c)=-(Z.w*Z.w*hgP (nP Z) s*c.z):=by
  rw[jkk,(jfN s (r1 Z) (r2 Z)).2.1,(jfN s (r1 Z) (r2 Z)).2.2,(jcO s (r1 Z) (r2 Z) (r3 Z)).1,<- e3,<- e2,e1];grind
 unfold prj dt ja3;simp only;rw[c1,c2,c3];grind
theorem jpv {P:Pt} (S:Rng ws) (h:∀e∈prs ws,0 < -ε*hgP (rgQ s (jay Z e.1) (jay Z e.2)) P):InR ws (yy Z s P ε)/\1<=(yy Z s P ε).z:=by
 have hi:InR ws (yy Z s P ε):=fun e he=>by rw[jnM];exact xan (h e he)
 refine⟨hi,?_⟩;obtain⟨z0,z1⟩:=hull0 S hi;rcases xaE 0 (yy Z s P ε).z with c | c
 ·exact c
 exfalso;have zz:(yy Z s P ε).z=0:=by omega
 obtain⟨x0,y0⟩:=z1 zz;have n3:=S.n3;have he:=jfL (vs:=ws) (i:=0) (by omega);have:=h _ he;rw[<- jnM] at this;unfold dt ja3 at this;rw[x0,y0,zz] at this;simp at this
theorem sg2 {m:Int} (hk:0<k) (hm:0<m) (e:k*x=m*y):(0<x↔0<y)/\(0<=x↔0<=y)/\(x<=0↔y<=0):=by
 have p:∀{a b:Int},0<a->0<b->0<a*b:=fun h1 h2=>xab h1 h2;have n:∀{a b:Int},0<a->b<0->a*b<0:=fun h1 h2=>xak h1 h2;rcases xa8 x 0 with hx | hx | hx<;>rcases xa8 y 0 with hy | hy | hy
 ·omega
 ·have:=n hk hx;subst hy;rw[xaj] at e;omega
 ·have:=n hk hx;have:=p hm hy;omega
 ·have:=n hm hy;subst hx;rw[xaj] at e;omega
 ·omega
 ·have:=p hm hy;subst hx;rw[xaj] at e;omega
 ·have:=p hk hx;have:=n hm hy;omega
 ·have:=p hk hx;subst hy;rw[xaj] at e;omega
 ·omega
def PosP (f:Pt) (h:Pt->Int):Prop:=∃k m:Int,0<k/\0<m/\∀P,k*hgP f P=m*h P
theorem PosP.sg {h:Pt->Int} (a:PosP f h) (P:Pt):(0<hgP f P↔0<h P)/\(0<=hgP f P↔0<=h P)/\(hgP f P<=0↔h P<=0) :=
 let ⟨_,_,k0,m0,e⟩:=a
 sg2 k0 m0 (e P)
structure Pyr (Z:Sht) (s:Pt) (ws:List Tri) (ε:Int) (fs:List Pt):Prop where
 sg:0<ε*hgP (nP Z) s
 f0:∃f∈fs,PosP f fun P=>ε*hgP (nP Z) P
 fe:∀e∈prs ws,∃f∈fs,PosP f fun P=>-ε*hgP (rgQ s (jay Z e.1) (jay Z e.2)) P
 all:∀f∈fs,PosP f (fun P=>ε*hgP (nP Z) P)\/∃e∈prs ws,PosP f fun P=>-ε*hgP (rgQ s (jay Z e.1) (jay Z e.2)) P
theorem jkl (p q D P:Pt):hgP (rgQ q p D) P=-hgP (rgQ p q D) P:=by
 simp only[jb6,ja3];grind
theorem jls {c b:Int} (c0:c≠0) (h1:c*a<=0) (h2:0<ε*a) (h3:0<=c*b):ε*b<=0:=by
 have a0:a≠0:=fun z=>by rw[z,xaj] at h2;omega
 rcases xav c0 with c1 | c1
 ·have a1:0<a:=by
   rcases xav a0 with q | q
   ·have:=xaN c1 q;omega
   ·exact q
  have e1:0<ε:=by
   rcases xaE 0 ε with q | q
   ·exact q
   ·have:=xbC q (xan a1);omega
  have b1:b<=0:=by
   rcases xaE 0 b with q | q
   ·have:=xay c1 q;omega
   ·exact q
  exact xax (xan e1) b1
 ·have a1:a<0:=by
   rcases xav a0 with q | q
   ·exact q
   ·have:=xab c1 q;omega
  have e1:ε<0:=by
   rcases xaE ε 0 with q | q
   ·exact q
   ·have:=xax q (xan a1);omega
  have b1:0<=b:=by
   rcases xaE b 0 with q | q
   ·have:=xak c1 q;omega
   ·exact q
  exact xbC (xan e1) b1
theorem jkm {g:Pt} (S:Rng ws) (h:∀w∈ws,hgP g (jay Z w)=0) (q:Tri):hgP g (jay Z q)=0:=by
 have n3:=S.n3;have d:=S.tp 0 1 2 (by omega) (by omega) (by omega);have h0:=h _ (jaJ (i:=0) (l:=ws) (by omega));have h1:=h _ (jaJ (i:=1) (l:=ws) (by omega));have h2:=h _ (jaJ (i:=2) (l:=ws) (by omega));rw[<- jbE] at h0 h1 h2 |-
 have c:=jio (jaO Z g).A (jaO Z g).B (jaO Z g).C (tr ws 0) (tr ws 1) (tr ws 2) q;unfold hf at h0 h1 h2 |-
 rw[h0,h1,h2] at c;simp only[xaj,Int.add_zero] at c;rcases xah.mp c with z | z
 ·omega
 ·exact z
def arr (A B:Pt):Pt:=⟨B.x*A.w-A.x*B.w,B.y*A.w-A.y*B.w,B.z*A.w-A.z*B.w,0⟩
theorem jpw (A B g:Pt):hgP g (arr A B)=A.w*hgP g B-B.w*hgP g A:=by
 unfold hgP arr hgt;simp only;grind
theorem jnN (a b:Tri):dt a b a=0/\dt a b b=0:=by
 unfold dt ja3;refine⟨?_,?_⟩<;>grind
structure Dir (Z:Sht) (e:Tri × Tri) (D:Pt):Prop where
 w0:D.w=0
 nz:¬(D.x=0/\D.y=0/\D.z=0)
 al:∃α β:Int,∀g,hgP g D=α*hgP g (jay Z e.1)+β*hgP g (jay Z e.2)
def PyE (Z:Sht) (s:Pt) (ws:List Tri) (p q:Pt):Prop:=(p=s/\∃c∈ws,q=jay Z c)\/∃e∈prs ws,p=jay Z e.1/\q=jay Z e.2
def Cnd (Z1 Z2:Sht) (s:Pt) (vs ws:List Tri) (g:Pt) (τ:Int):Prop:=τ≠0/\(∀v∈vs,0<=τ*hgP g (jay Z1 v))/\(∀r∈s::ws.map (jay Z2),τ*hgP g r<=0)/\∃P,hgP g P≠0
theorem Pyr.fcs {fs:List Pt} (hw:1<=Z.w) (S:Rng ws) (Y:Pyr Z s ws ε fs) (sw:1<=s.w):Fcs (s::ws.map (jay Z)) fs:=by
 have ww:0<Z.w*Z.w:=xab (by omega) (by omega);have ew:=xab ww Y.sg;have ce:∀a b c:Tri,-ε*hgP (rgQ s (jay Z a) (jay Z b)) (jay Z c)=Z.w*Z.w*(ε*hgP (nP Z) s)*dt a b c:=fun a b c=>by
  rw[jbh];grind
 refine⟨fun p hp=>?_,fun f hf p hp=>?_,fun f hf=>?_⟩
 ·rcases xap.mp hp with rfl | hp
  ·exact sw
  ·obtain⟨w,hw',rfl⟩:=xai.mp hp;show 1<=Z.w*w.z;have:=xab (show 0<Z.w by omega) (show 0<w.z by have:=S.hz w hw';omega);omega
 ·rcases Y.all f hf with h | ⟨e,he,h⟩
  ·refine (h.sg p).2.1.mpr ?_;rcases xap.mp hp with rfl | hp
   ·exact xan Y.sg
   ·obtain⟨w,_,rfl⟩:=xai.mp hp;rw[jeD,xaj];exact xaI _
  ·refine (h.sg p).2.1.mpr ?_;rcases xap.mp hp with rfl | hp
   ·rw[(jfN _ _ _).1,xaj];exact xaI _
   ·obtain⟨w,hw',rfl⟩:=xai.mp hp;rw[ce];exact xaf (xan ew) (S.own hw' e he)
 ·rcases Y.all f hf with h | ⟨e,he,h⟩
  ·exact⟨s,xaS,(h.sg s).1.mpr Y.sg⟩
  ·obtain⟨k,hk,rfl⟩:=jb5 he;have n3:=S.n3;obtain⟨j,hj,j1,j2⟩:=ja1 (n:=ws.length) (i:=k) (j:=(k+1) % ws.length) n3;refine⟨jay Z (tr ws j),xag _ (xai.mpr ⟨_,jaJ hj,rfl⟩),(h.sg _).1.mpr ?_⟩;rw[ce];exact xab ew (jbe S.tp n3 hk hj (Ne.symm j2) (Ne.symm j1))
theorem jkn {fs:List Pt} (hw1:1<=Z1.w) (nz1:Z1.u.nz) (hw2:1<=Z2.w) (nz2:Z2.u.nz) (R:Rng vs) (S:Rng ws) (Y:Pyr Z2 s ws ε fs) (sw:1<=s.w) (hD:∀e∈prs vs,∃D,Dir Z1 e D) (z:KP (fs.map (jaO Z1)) vs=[]) :
  (∃f∈fs,∀v∈vs,hgP f (jay Z1 v)<=0)\/(∀p∈s::ws.map (jay Z2),0<=hgP (nP Z1) p)\/(∀p∈s::ws.map (jay Z2),hgP (nP Z1) p<=0) \/
  ∃e∈prs vs,∃p q:Pt,PyE Z2 s ws p q/\∀D,Dir Z1 e D->∃τ,Cnd Z1 Z2 s vs ws (rgQ p q D) τ:=by
 rcases part3 hw1 R (Y.fcs hw2 S sw) (own0 hw1 nz1) z with h | h | h | ⟨e,he,E,⟨t,t0,eE⟩,p,hp,q,hq,np,nq,al,av⟩
 ·exact .inl h
 ·exact .inr (.inl h)
 ·exact .inr (.inr (.inl h))
 have wp:=(Y.fcs hw2 S sw).w p hp;have wq:=(Y.fcs hw2 S sw).w q hq;have nzG:∃P,dt (T3p (nP Z1) E p) (T3p (nP Z1) E q) (T3p (nP Z1) E P)≠0:=by
  refine xar fun n=>?_;have z0:∀P,dt (T3p (nP Z1) E p) (T3p (nP Z1) E q) (T3p (nP Z1) E P)=0:=fun P=>xar fun c=>n ⟨P,c⟩;have id:∀v,dt (T3p (nP Z1) E p) (T3p (nP Z1) E q) (T3p (nP Z1) E (jay Z1 v))=hgP E (jay Z1 v)*(p.w*hgP (nP Z1) q-hgP (nP Z1) p*q.w)+(jay Z1 v).w*(hgP (nP Z1) p*hgP E q-hgP E p*hgP (nP Z1) q):=fun v=>by
   unfold T3p dt ja3;rw[jeD];simp only;grind
  obtain⟨k,hk,rfl⟩:=jb5 he;have n3:=R.n3;obtain⟨j,hj,j1,j2⟩:=ja1 (n:=vs.length) (i:=k) (j:=(k+1) % vs.length) n3;have dj:=jbe R.tp n3 hk hj (Ne.symm j2) (Ne.symm j1);have a1:=id (tr vs k);rw[z0,eE,(jnN _ _).1,xaj,xaJ,xce] at a1;have wk:0<(jay Z1 (tr vs k)).w:=xab (show 0<Z1.w by omega) (show 0<(tr vs k).z by have:=R.hz _ (jaJ hk);omega);have b0:=(xah.mp a1.symm).resolve_left (by omega);have a2:=id (tr vs j);rw[z0,eE,b0,xaj,Int.add_zero] at a2;have c1:=xab t0 dj;have c2:=xaf (show 0<=p.w by omega) nq;have c3:=xay np (show 0<q.w by omega);have c4:=xab c1 (show 0<p.w*hgP (nP Z1) q-hgP (nP Z1) p*q.w by omega);exact absurd a2.symm (xa1 c4)
 have cd:∀D,Dir Z1 e D->∃τ,Cnd Z1 Z2 s vs ws (rgQ p q D) τ:=fun D d=>by
  obtain⟨α,β,ab⟩:=d.al;have dN:hgP (nP Z1) D=0:=by rw[ab,jeD,jeD];simp
  have dE:hgP E D=0:=by rw[ab,eE,eE,(jnN _ _).1,(jnN _ _).2];simp
  obtain⟨a,b,a0,b0,ee⟩:=cand dN dE d.w0 d.nz nzG;have te:∀P,a*b*hgP (rgQ p q D) P=a*a*dt (T3p (nP Z1) E p) (T3p (nP Z1) E q) (T3p (nP Z1) E P):=fun P=>by
   have:=ee P;grind
  have aa:0<a*a:=by
   rcases xav a0 with c | c
   ·exact xaN c c
   ·exact xab c c
  refine⟨a*b,xaF a0 b0,fun v hv=>?_,fun r hr=>?_,?_⟩
  ·rw[te];exact xaf (xan aa) (av v hv)
  ·rw[te];exact xax (xan aa) (al r hr)
  ·obtain⟨P,hP⟩:=nzG;refine⟨P,fun z=>?_⟩;have:=te P;rw[z,xaj] at this;rcases xah.mp this.symm with c | c
   ·omega
   ·exact hP c
 have sw':∀{p q:Pt},(∀D,Dir Z1 e D->∃τ,Cnd Z1 Z2 s vs ws (rgQ p q D) τ)->∀D,Dir Z1 e D->∃τ,Cnd Z1 Z2 s vs ws (rgQ q p D) τ:=fun {p q} h D d=>by
  obtain⟨τ,t0,h1,h2,P,hP⟩:=h D d;have e:∀P,-τ*hgP (rgQ q p D) P=τ*hgP (rgQ p q D) P:=fun P=>by rw[jkl];grind
  exact⟨-τ,by omega,fun v hv=>by rw[e];exact h1 v hv,fun r hr=>by rw[e];exact h2 r hr,P,by rw[jkl];omega⟩
 rcases xap.mp hp with ps | hp'
 ·rcases xap.mp hq with qs | hq'
  ·rw[ps] at np;rw[qs] at nq;omega
  ·obtain⟨c,hc,rfl⟩:=xai.mp hq';exact .inr (.inr (.inr ⟨e,he,p,_,.inl ⟨ps,c,hc,rfl⟩,cd⟩))
 ·obtain⟨c,hc,rfl⟩:=xai.mp hp';rcases xap.mp hq with qs | hq'
  ·exact .inr (.inr (.inr ⟨e,he,q,_,.inl ⟨qs,c,hc,rfl⟩,sw' cd⟩))
  ·obtain⟨c',hc',rfl⟩:=xai.mp hq';by_cases n1:(c,c')∈prs ws
   ·exact .inr (.inr (.inr ⟨e,he,_,_,.inr ⟨_,n1,rfl,rfl⟩,cd⟩))
   by_cases n2:(c',c)∈prs ws
   ·exact .inr (.inr (.inr ⟨e,he,_,_,.inr ⟨_,n2,rfl,rfl⟩,sw' cd⟩))
   refine .inl ?_;obtain⟨D,d⟩:=hD e he;obtain⟨τ,t0,h1,h2,P,hP⟩:=cd D d;generalize hG:rgQ (jay Z2 c) (jay Z2 c') D=G at h1 h2 hP;have g1:hgP G (jay Z2 c)=0:=by rw[<- hG];exact (jfN _ _ _).1
   have g2:hgP G (jay Z2 c')=0:=by rw[<- hG];exact (jfN _ _ _).2.1
   have lin:∀q,jaA (-(τ*(jaO Z2 G).A)) (-(τ*(jaO Z2 G).B)) (-(τ*(jaO Z2 G).C)) q=-(τ*hgP G (jay Z2 q)):=fun q=>by
    rw[<- jbE];unfold hf jaA;grind
   have nn:∀w∈ws,0<=jaA (-(τ*(jaO Z2 G).A)) (-(τ*(jaO Z2 G).B)) (-(τ*(jaO Z2 G).C)) w:=fun w hw=>by
    rw[lin];have:=h2 _ (xag _ (xai.mpr ⟨w,hw,rfl⟩));omega
   obtain⟨i,hi,rfl⟩:=jeh hc;obtain⟨j,hj,rfl⟩:=jeh hc';have n3:=S.n3;have all0:∀w∈ws,jaA (-(τ*(jaO Z2 G).A)) (-(τ*(jaO Z2 G).B)) (-(τ*(jaO Z2 G).C)) w=0:=by
    have za:jaA (-(τ*(jaO Z2 G).A)) (-(τ*(jaO Z2 G).B)) (-(τ*(jaO Z2 G).C)) (tr ws i)=0:=by rw[lin,g1];simp
    have zb:jaA (-(τ*(jaO Z2 G).A)) (-(τ*(jaO Z2 G).B)) (-(τ*(jaO Z2 G).C)) (tr ws j)=0:=by rw[lin,g2];simp
    have ij:i≠j:=fun z=>by
     rw[z] at np;omega
    have m1:(i+1) % ws.length≠j:=fun z=>n1 (by have:=jfL hi;rwa [z] at this);have m2:(j+1) % ws.length≠i:=fun z=>n2 (by have:=jfL hj;rwa [z] at this);have md:∀k,k<ws.length->(k+1) % ws.length=if k+1=ws.length then 0 else k+1:=fun k hk=>by
     split
     ·rename_i h;rw[h,xbc]
     ·exact xal (by omega)
    rw[md i hi] at m1;rw[md j hj] at m2;rcases xb5 ij with o | o
    ·exact two_zero S nn (i:=i) (j:=j) (by split at m1<;>omega) hj (fun ⟨x,y⟩=>by split at m2<;>omega) za zb
    ·exact two_zero S nn (i:=j) (j:=i) (by split at m2<;>omega) hi (fun ⟨x,y⟩=>by split at m1<;>omega) zb za
   have G0:∀w∈ws,hgP G (jay Z2 w)=0:=fun w hw=>by
    have:=all0 w hw;rw[lin] at this;exact (xah.mp (show τ*hgP G (jay Z2 w)=0 by omega)).resolve_left t0
   obtain⟨k,m,k0,ek⟩:=(own0 hw2 nz2).only G (jkm S G0);have m0:m≠0:=fun z=>by
    have:=ek P;rw[z,xaJ] at this;rcases xah.mp this with c | c
    ·omega
    ·exact hP c
   have ct:∀Q,τ*m*hgP (nP Z2) Q=k*(τ*hgP G Q):=fun Q=>by
    have:=ek Q;grind
   obtain⟨f,hf0,pf⟩:=Y.f0;refine⟨f,hf0,fun v hv=>(pf.sg _).2.2.mpr ?_⟩;refine jls (c:=τ*m) (a:=hgP (nP Z2) s) (xaF t0 m0) ?_ Y.sg ?_
   ·rw[ct];exact xax (xan k0) (h2 s xaS)
   ·rw[ct];exact xaf (xan k0) (h1 v hv)
def Purs (H:Hp) (L:Addr):Prop:=∃r:Int,H L=some (.lst [.int r])/\0<=r
inductive spTakePi (vs:List V) (H:Hp) (Q:VK):Prop
 | mk (L:Addr) (n:Int) (_:vs=[.ref L,.int n]) (_:Purs H L) (_:0<n) (_:n<2^60) (_:∀(H':Hp) (d:Int),SameB L H H'->Purs H' L->0<=d->d<n->Q (.int d) H')
def jdm:Sp:=fun vs H Q _=>spTakePi vs H Q
theorem jlt (T:Tx K mg t1 t2) (F:At K mg "_law_take" jdI ["purse","many"] []):jak P w K mg base CX0 2 "_law_take" ["purse","many"] [] jdm:=by
 refine F.ok jeK (by walk_at "ar") (fun f cdv A outer s H vs Q E hr h=>?_);obtain⟨L,n,rfl,⟨r,hL,r0⟩,n0,n60,q⟩:=h;have S:=jeK;refine⟨_,(jaf (jar (i:=2) S.nd rfl (Or.inl rfl) (jap jdt (jal ix_list (pv 0) jab) (pv 1)))
  (jaf (jiZ (jap jby (jal ix_list (pv 0) jab) (pv 1)) (jlF (pv 0) jab jh4))
  (jag (jan (pv 2))))),?_⟩
 have k1:SqL K H L [.int r]:=SqL.of hL;have fn:Fit n:=Bd.fit (n:=61) (by unfold Bd;omega);have a1:=xa0 r (show n≠0 by omega);have a2:=xaU r n0;have a3:0<=r / n:=xb4 (by omega) (by omega);walk_at "rf";walk_at "gf";unfold gSub;walk_at "rf";exact⟨L,_,0,0,rfl,rfl,hL,rfl,q _ _ SameB.set ⟨r / n,jam,a3⟩ a1 a2⟩
theorem jnO {b:Int} (h:b≠0):(a.fmod b).natAbs<b.natAbs:=by
 have h1:=xa0 a h;have h2:=Int.emod_lt a h;have h3:=@Int.fmod_eq_emod a b;by_cases c:0<=b\/b ∣ a
 ·rw[if_pos c] at h3;omega
 ·rw[if_neg c] at h3;have:a % b≠0:=fun e=>c (.inr (Int.dvd_of_emod_eq_zero e));have:¬0<=b:=fun e=>c (.inl e);omega
theorem jlu (a b:Int):Int.gcd b (a.fmod b)=Int.gcd a b:=by
 have e:=@Int.fmod_eq_emod a b;have m:=jnK a b;by_cases c:0<=b\/b ∣ a
 ·rw[if_pos c] at e;rw[e,Int.add_zero,m]
 ·rw[if_neg c] at e;rw[e,<- m];exact Int.gcd_add_self_right _ _
inductive spDvAi (vs:List V) (H:Hp) (Q:VK):Prop
 | mk (x y:Int) (_:vs=[.int x,.int y]) (_:Q (.int (Int.gcd x y:Nat)) H)
def jnP:Sp:=fun vs H Q _=>spDvAi vs H Q
theorem jpx (T:Tx K mg t1 t2) (F:At K mg "_law_divisor" jcg ["one","other"] []):jak P w K mg base CX0 2 "_law_divisor" ["one","other"] [] jnP:=by
 refine F.ok jde (by walk_at "ar") (fun f cdv A outer s H vs Q E hr h=>?_);obtain⟨x,y,rfl,q⟩:=h;have S:=jde;refine⟨_,(jaf (je3 PassesOwn.never (jat jcT (pv 1) jab (jaw _))
  (jag (joy (i:=0) (j:=1) rfl S.nd rfl rfl (by decide) rfl rfl (jaa (pv 1) (jaa (jap jmP (pv 0) (pv 1)) jad jbc) jac) rfl)))
  (jag (jan (jaz jdX rfl T.m_abs boot_abs (jaa (pv 0) jad jac))))),?_⟩
 walk_at "rf";refine⟨fun n σ H3=>H3=H/\∃(a b:Int),σ=[some (.int a),some (.int b)]/\Int.gcd a b=Int.gcd x y/\n=b.natAbs,⟨_,rfl,x,y,rfl,rfl,rfl⟩,?_⟩;rintro n σ H3 ⟨rfl,a,b,rfl,hg,rfl⟩;walk_at "rf";by_cases c:b=0
 ·subst c;have e:(Int.gcd x y:Int)=(a.natAbs:Int):=by
   rw[<- hg,Int.gcd_zero_right]
  rw[if_pos rfl,show (if a<0 then -a else a)=((Int.gcd x y:Nat):Int) by rw[e];split<;>omega];exact q
 ·rw[if_neg c];exact⟨fun σ' H'=>σ'=[some (.int b),some (.int (a.fmod b))]/\H'=H3,fun σ' H' ⟨h1,h2⟩=>⟨(a.fmod b).natAbs,jnO c,h2,b,a.fmod b,h1,(jlu a b).trans hg,rfl⟩,c,rfl,rfl⟩
theorem gcd4 (x y z w:Int):((Int.gcd (Int.gcd x y:Nat) (Int.gcd z w:Nat):Nat):Int)=gl [x,y,z,w]:=by
 have p1:((Int.gcd (Int.gcd x y:Nat) (Int.gcd z w:Nat):Nat):Int) ∣ (Int.gcd x y:Nat):=xbs ..;have p2:((Int.gcd (Int.gcd x y:Nat) (Int.gcd z w:Nat):Nat):Int) ∣ (Int.gcd z w:Nat):=xbm ..;have d:((Int.gcd (Int.gcd x y:Nat) (Int.gcd z w:Nat):Nat):Int) ∣ gl [x,y,z,w]:=jfZ fun n hn=>by
  simp only[xap,xbX,or_false] at hn;rcases hn with rfl | rfl | rfl | rfl
  ·exact xbx p1 (xbs ..)
  ·exact xbx p1 (xbm ..)
  ·exact xbx p2 (xbs ..)
  ·exact xbx p2 (xbm ..)
 have d':gl [x,y,z,w] ∣ ((Int.gcd (Int.gcd x y:Nat) (Int.gcd z w:Nat):Nat):Int):=xbz (xbz (jaV (by simp)) (jaV (by simp))) (xbz (jaV (by simp)) (jaV (by simp)));exact Int.dvd_antisymm (by omega) (jbq _) d d'
inductive spSpAi (K:PySem.W.Frag) (vs:List V) (H:Hp) (Q:VK):Prop
 | mk (a:Addr) (x y z w:Int) (_:vs=[.ref a,.int w]) (_:SqL K H a [.int x,.int y,.int z]) (_:0<w) (_:Fit w) (_:∀(g:Addr) (H':Hp),Same H H'->H' g=some (.tup ((low [x,y,z,w]).map V.int))->Q (.ref g) H')
def jgK (K:PySem.W.Frag):Sp:=fun vs H Q _=>spSpAi K vs H Q
theorem jpy (T:Tx K mg t1 t2) (F:At K mg "_law_spot" jdL ["numbers","w"] []) (dz:jak P w K mg base CX0 2 "_law_divisor" ["one","other"] [] jnP):jak P w K mg base CX0 3 "_law_spot" ["numbers","w"] [] (jgK K):=by
 refine F.ok jeN (by walk_at "ar") (fun f cdv A outer s H vs Q E hr h=>?_);obtain⟨a,x,y,z,v,rfl,k1,v0,fv,q⟩:=h;have S:=jeN;refine⟨_,(jaf (jar (i:=2) S.nd rfl (Or.inl rfl) (jae dz hr.m rfl jao (jaa (jae dz hr.m rfl jao (jaa (jal ix_list (pv 0) jab) (jaa (jal ix_list (pv 0) jab) jad jav) jav)) (jaa (jae dz hr.m rfl jao (jaa (jal ix_list (pv 0) jab) (jaa (pv 1) jad jac) jav)) jad jaB) jaB)))
  (jag (jan (ja4 (jaa (jap jby (jal ix_list (pv 0) jab) (pv 2)) (jaa (jap jby (jal ix_list (pv 0) jab) (pv 2)) (jaa (jap jby (jal ix_list (pv 0) jab) (pv 2)) (jaa (jap jby (pv 1) (pv 2)) jad jbc) jbc) jbc) jbc))))),?_⟩
 walk_at "rf";walk_at "gf";refine⟨x,y,rfl,?_⟩;refine ixL k1 (i:=2) rfl ⟨z,v,rfl,_,_,rfl,?_⟩;rw[gcd4];have gp:0<gl [x,y,z,v]:=jco (n:=v) (by simp) (by omega);have gv:gl [x,y,z,v]<=v:=Int.le_of_dvd v0 (jaV (by simp));have gf:Fit (gl [x,y,z,v]):=xaY (show (gl [x,y,z,v]).natAbs<=v.natAbs by omega) fv;refine ixL k1 (i:=0) rfl ⟨_,rfl,_,rfl,gp,gf,ixL k1 (i:=1) rfl ⟨_,rfl,_,rfl,gp,gf,ixL k1 (i:=2) rfl ⟨_,rfl,_,rfl,gp,gf,_,rfl,gp,gf,by decide,fun p hp=>?_⟩⟩⟩;exact q p _ (Same.new hp _) jam
def L3 (K:PySem.W.Frag) (H:Hp) (a:Addr) (u:Tri):Prop:=SqL K H a [.int u.x,.int u.y,.int u.z]
inductive spCrAi (K:PySem.W.Frag) (vs:List V) (H:Hp) (Q:VK):Prop
 | mk (a b:Addr) (u v:Tri) (_:vs=[.ref a,.ref b]) (_:L3 K H a u) (_:L3 K H b v) (_:(Bd 1800 u.x/\Bd 1800 u.y/\Bd 1800 u.z)) (_:(Bd 1800 v.x/\Bd 1800 v.y/\Bd 1800 v.z)) (_:∀(g:Addr) (H':Hp),H g=none->Same H H'->H' g=some (.lst [.int (u.y*v.z-u.z*v.y),.int (u.z*v.x-u.x*v.z),.int (u.x*v.y-u.y*v.x)])->Q (.ref g) H')
def jhm (K:PySem.W.Frag):Sp:=fun vs H Q _=>spCrAi K vs H Q
theorem jpz (T:Tx K mg t1 t2) (F:At K mg "_law_cross" jc3 ["one","other"] []):jak P w K mg base CX0 2 "_law_cross" ["one","other"] [] (jhm K):=by
 refine F.ok jd9 (by walk_at "ar") (fun f cdv A outer s H vs Q E hr h=>?_);obtain⟨a,b,u,v,rfl,k1,k2,⟨u1,u2,u3⟩,⟨v1,v2,v3⟩,q⟩:=h;have S:=jd9;refine⟨_,(jag (jan (jaU (jaa (jap jaW (jap jas (jal ix_list (pv 0) jab) (jal ix_list (pv 1) jab)) (jap jas (jal ix_list (pv 0) jab) (jal ix_list (pv 1) jab))) (jaa (jap jaW (jap jas (jal ix_list (pv 0) jab) (jal ix_list (pv 1) jab)) (jap jas (jal ix_list (pv 0) jab) (jal ix_list (pv 1) jab))) (jaa (jap jaW (jap jas (jal ix_list (pv 0) jab) (jal ix_list (pv 1) jab)) (jap jas (jal ix_list (pv 0) jab) (jal ix_list (pv 1) jab))) jad jbc) jbc) jbc)))),?_⟩;unfold L3 at k1 k2;have f1:Fit u.x:=u1.fit;have f2:Fit u.y:=u2.fit;have f3:Fit u.z:=u3.fit;have g1:Fit v.x:=v1.fit;have g2:Fit v.y:=v2.fit;have g3:Fit v.z:=v3.fit;walk_at "rf";walk_at "gf";exact fun p hp=>q p _ hp (Same.new hp _) jam
def Dt3 (K:PySem.W.Frag) (H:Hp) (a:Addr) (u:Tri):Prop:=∃xs,(SqL K H a xs\/SqT K H a xs)/\atI xs 0=some (.int u.x)/\atI xs 1=some (.int u.y)/\atI xs 2=some (.int u.z)
theorem L3.d {K:PySem.W.Frag} {a:Addr} {u:Tri} (h:L3 K H a u):Dt3 K H a u:=⟨_,.inl h,rfl,rfl,rfl⟩
theorem Is4.d {K:PySem.W.Frag} {a:Addr} (h:Is4 H a p):Dt3 K H a ⟨p.x,p.y,p.z⟩:=⟨_,.inr h.sq,rfl,rfl,rfl⟩
inductive spDtAi (K:PySem.W.Frag) (vs:List V) (H:Hp) (Q:VK):Prop
 | mk (a b:Addr) (u v:Tri) (_:vs=[.ref a,.ref b]) (_:Dt3 K H a u) (_:Dt3 K H b v) (_:(Bd 2000 u.x/\Bd 2000 u.y/\Bd 2000 u.z)) (_:(Bd 2000 v.x/\Bd 2000 v.y/\Bd 2000 v.z)) (_:Q (.int (u.x*v.x+u.y*v.y+u.z*v.z)) H)
def jko (K:PySem.W.Frag):Sp:=fun vs H Q _=>spDtAi K vs H Q
theorem jpA (T:Tx K mg t1 t2) (F:At K mg "_law_dot" jew ["one","other"] []):jak P w K mg base CX0 2 "_law_dot" ["one","other"] [] (jko K):=by
 refine F.ok jfC (by walk_at "ar") (fun f cdv A outer s H vs Q E hr h=>?_);obtain⟨a,b,u,v,rfl,⟨xs,k1,x1,x2,x3⟩,⟨ys,k2,y1,y2,y3⟩,⟨u1,u2,u3⟩,⟨v1,v2,v3⟩,q⟩:=h;have S:=jfC;refine⟨_,(jag (jan (jap jaP (jap jaP (jap jas (jal (jf6 (K:=K) rfl) (pv 0) jab) (jal (jf6 (K:=K) rfl) (pv 1) jab)) (jap jas (jal (jf6 (K:=K) rfl) (pv 0) jab) (jal (jf6 (K:=K) rfl) (pv 1) jab))) (jap jas (jal (jf6 (K:=K) rfl) (pv 0) jab) (jal (jf6 (K:=K) rfl) (pv 1) jab))))),?_⟩;walk_at "rf";refine jl6 k1 x1 (jl6 k2 y1 ⟨_,rfl,_,rfl,u1.fit,v1.fit,jl6 k1 x2 (jl6 k2 y2 ⟨_,rfl,_,rfl,u2.fit,v2.fit,jl6 k1 x3 (jl6 k2 y3 ⟨_,rfl,_,rfl,u3.fit,v3.fit,q⟩)⟩)⟩)
theorem L3.rds {K:PySem.W.Frag} {a:Addr} {u:Tri} (h:L3 K H a u):Rds K H (.ref a) (.list [.int u.x,.int u.y,.int u.z]):=.lst h (.cons (.int _) (.cons (.int _) (.cons (.int _) .nil)))
def Cors (K:PySem.W.Frag) (H:Hp) (rs:List Addr) (us:List Tri):Prop:=rs.length=us.length/\∀i,i<rs.length->L3 K H (ad rs i) (tr us i)
theorem Cors.mem {K:PySem.W.Frag} {rs:List Addr} (h:Cors K H rs us) {r:Addr} (m:r∈rs):∃u,L3 K H r u:=by
 obtain⟨i,hi,e⟩:=xbv.mp m;have:=h.2 i hi;rw[show ad rs i=r by unfold ad;rw[xac,xad hi];exact e] at this;exact⟨_,this⟩
theorem minIx {K:PySem.W.Frag} {a:Addr} {rs:List Addr} (k1:SqL K H a (rs.map V.ref)) (c:Cors K H rs us) (n1:1<=rs.length) (n8:rs.length<=8) (q:∀j:Nat,j<rs.length->Q (.int j) H):joL K [.ref a] H fun x H1=>jjw K (.ref a) [x] H1 Q:=by
 refine⟨a,rs,3,rfl,k1,fun e=>by rw[e] at n1;exact absurd n1 (by decide),fun r m=>?_,fun r m=>?_⟩
 ·obtain⟨u,hu⟩:=c.mem m;exact⟨[u.x,u.y,u.z],hu,rfl⟩
 ·obtain⟨u,hu⟩:=c.mem m;refine⟨a,_,_,_,rfl,rfl,k1,hu.rds,rfl,by simp [PyData.depth,PyData.depthAll],?_,fun v hv=>?_,⟨_,List.mem_map_of_mem m,hu.rds⟩,?_,?_⟩
  ·simp [PyData.eqv,PyData.eqvAll]
  ·obtain⟨r',m',rfl⟩:=xai.mp hv;obtain⟨u',hu'⟩:=c.mem m';exact⟨_,hu'.rds,rfl,by simp [PyData.depth,PyData.depthAll]⟩
  ·rw[xaa];omega
  ·rw[xaa];exact q
theorem jnQ {K:PySem.W.Frag} {b:Addr} {rs:List Addr} {v:Int} (k:SqL K H1 b (rs.map V.ref)) (c:Cors K H1 rs us) (n8:rs.length<=8) (v0:0<v) (fv:Fit v)
    (q:∀(g:Addr) (H':Hp) (gs:List Addr),Same H1 H'->H' g=some (.tup (gs.map V.ref))->gs.length=us.length->(∀i,i<gs.length->H' (ad gs i)=some (.tup ((low [(tr us i).x,(tr us i).y,(tr us i).z,v]).map V.int)))->Q (.ref g) H') (acc:Addr) (ha:H1 acc=none) :
    CompGo (Itl K b) [some (V.int v)] (jbt 0) jbU (jeY (jgK K) [] E (jbF (jeE 0) (jbF (jeE 1) jgU))) acc (fun H'=>∃x,(SqL K H' acc x/\∀l:Addr,H' l=none->Q (V.ref l) (upd H' l (HO.tup x)))\/SqT K H' acc x/\Q (V.ref acc) H') H1:=by
  refine jg5 (K:=K) (a:=b) (zs:=rs.map V.ref) (fun i y J=>∃r:Addr,y=.ref r/\J r=some (.tup ((low [(tr us i).x,(tr us i).y,(tr us i).z,v]).map V.int))) (fun i y J J' ⟨r,h1,h2⟩ st=>⟨r,h1,st _ _ h2⟩) (by rw[xaa];omega) ha k (fun i z H5 R hz s5 hR=>?_) fun ys J5 s5 e5 l5 p5=>?_
  . rw[xat] at hz
    cases e:rs[i]? with
    | none=>rw[e] at hz;cases hz
    | some r =>
      rw[e] at hz;cases hz;have hi:=(xae.mp e).1;have hc:=c.2 i hi;rw[show ad rs i=r by unfold ad;rw[xac,e];rfl] at hc;walk_at "rf";exact⟨r,_,_,_,v,rfl,s5.seq hc,v0,fv,fun g H6 s6 hg=>hR _ _ s6 ⟨g,rfl,hg⟩⟩
  . obtain⟨es,rfl⟩:∃es:List Addr,ys=es.map V.ref:=jfH fun i y hy=>let ⟨r,h1,_⟩:=p5 i y hy; ⟨r,h1⟩
    rw[xaa,xaa] at l5;refine⟨_,.inl ⟨SqL.of e5,fun l hl=>q l _ es (s5.trans (Same.new hl _)) jam (l5.trans c.1) fun i hi=>?_⟩⟩;obtain⟨r,h1,h2⟩:=p5 i (.ref (ad es i)) (by rw[xat,xad hi];unfold ad;rw[xac,xad hi];rfl);cases h1;exact Same.new hl _ _ _ h2
def Prd (K:PySem.W.Frag) (H:Hp) (ps:List (Addr × Tri)):Prop:=∀p∈ps,L3 K H p.1 p.2
theorem Prd.cors {K:PySem.W.Frag} {ps:List (Addr × Tri)} (h:Prd K H ps):Cors K H (ps.map Prod.fst) (ps.map Prod.snd):=by
 refine⟨by rw[xaa,xaa],fun i hi=>?_⟩;rw[xaa] at hi;have e1:ad (ps.map Prod.fst) i=ps[i].1:=by unfold ad;rw[xac,xat,xad hi];rfl
 have e2:tr (ps.map Prod.snd) i=ps[i].2:=by unfold tr;rw[xac,xat,xad hi];rfl
 rw[e1,e2];exact h _ (xaw hi)
theorem Prd.keep {K:PySem.W.Frag} {ps:List (Addr × Tri)} (h:Prd K H ps) (s:Same H H'):Prd K H' ps:=fun p m=>s.seq (h p m)
def spP (w:Int) (u:Tri):Pt:=⟨u.x / gl [u.x,u.y,u.z,w],u.y / gl [u.x,u.y,u.z,w],u.z / gl [u.x,u.y,u.z,w],w / gl [u.x,u.y,u.z,w]⟩
theorem jpB {w:Int} {u:Tri} (h:u.bd n) (hw:Bd n w):(spP w u).bd n:=⟨Bd.div h.1,Bd.div h.2.1,Bd.div h.2.2,Bd.div hw⟩
theorem Pt.bd.sm' (h:p.bd n) (l:n<=1980):p.sm:=⟨Bd.mono h.1 l,Bd.mono h.2.1 l,Bd.mono h.2.2.1 l,Bd.mono h.2.2.2 l⟩
inductive spFmAi (K:PySem.W.Frag) (vs:List V) (H:Hp) (Q:VK):Prop
 | mk (a:Addr) (ps:List (Addr × Tri)) (w:Int) (_:vs=[.ref a,.int w]) (_:SqL K H a ((ps.map Prod.fst).map V.ref)) (_:Prd K H ps) (_:(∀p∈ps,p.2.bd 600)) (_:3<=ps.length) (_:ps.length<=8) (_:0<w) (_:Bd 60 w) (_:∀(g:Addr) (H':Hp) (gs:List Addr) (us:List Tri),Same H H'->H' g=some (.tup (gs.map V.ref))->RR (ps.map Prod.snd) us->Sps H' gs (us.map (spP w))->Q (.ref g) H')
def jpC (K:PySem.W.Frag):Sp:=fun vs H Q _=>spFmAi K vs H Q
theorem jmp {H:Hp} {v:Int}:∀{gs:List Addr} {us:List Tri},gs.length=us.length->(∀u∈us,u.bd 600)->Bd 60 v->(∀i,i<gs.length->H (ad gs i)=some (.tup ((low [(tr us i).x,(tr us i).y,(tr us i).z,v]).map V.int)))->Sps H gs (us.map (spP v))
 | [],[],_,_,_,_=>.nil
 | g::gs,u::us,l,b,hv,h=>.cons ⟨h 0 (by simp),(jpB (b u (by simp)) (Bd.mono hv)).sm' (by decide)⟩ (jmp (Nat.succ.inj l) (fun x hx=>b x (xag _ hx)) hv fun i hi=>h (i+1) (Nat.succ_lt_succ hi))
theorem jpD (T:Tx K mg t1 t2) (F:At K mg "_law_formed" jcB ["corners","w"] []) (dA:jak P w K mg base CX0 3 "_law_spot" ["numbers","w"] [] (jgK K)):jak P w K mg base CX0 4 "_law_formed" ["corners","w"] [] (jpC K):=by
  refine F.ok jdB (by walk_at "ar") (fun f cdv A outer s H vs Q E hr h=>?_);obtain⟨a,ps,v,rfl,k1,hc,hb,n3,n8,v0,bv,q⟩:=h;have fv:Fit v:=bv.fit;have S:=jdB;refine⟨_,(jaf (jar (i:=2) S.nd rfl (Or.inl rfl) (jmW PySem.F.plainAttrs_list PySem.F.slot_list_index PySem.F.type_list_index (jjx (jiO hr)) (pv 0) (jaa (jaz (jjz rfl (jiO hr)) rfl T.m_min boot_min (jaa (pv 0) jad jac)) jad jaB)))
    (jaf (jar (i:=3) S.nd rfl (Or.inl rfl) (jap jhy (jbi jcs (pv 0) (jbH (pv 2)) jbG) (jbi jcs (pv 0) jbG (jbH (pv 2)))))
    (jaf (jaM (jat (jm8 (xaY (Nat.le_add_right _ 64) (jiO hr))) (jal ix_list (pv 3) (jdV jca jab)) (jal ix_list (pv 3) jab) (jaw _))
    (jag (jar (i:=3) S.nd rfl (Or.inl rfl) (jap jhy (jbi jcs (pv 3) jbG (jbH jab)) (jfY rfl rfl T.m_list rfl T.m_reversed (jbi jcs (pv 3) (jbH jab) jbG)))))
    jax)
    (jag (jan (ja8 jbd rfl T.m_tuple boot_tuple (jaa (jaF rfl (N':=["corner","w"]) (ix:=[1]) (by walk_at "cs") (jba (pv 3)) (fun _ _ _ _=>jau (i:=0) (show (["corner","w"]:List Str).Nodup from by decide +kernel) rfl (Or.inl rfl)) (fun _ _ _ _=>jaK) (fun _ _ _ _=>(jae dA hr.m rfl jao (jaa (pv 0) (jaa (pv 1) jad jac) jac)))) jad jcn))))))),?_⟩
  walk_at "rf";refine⟨.inl ⟨_,k1⟩,minIx k1 hc.cors (by rw[xaa];omega) (by rw[xaa];omega) fun j hj=>⟨_,rfl,a,_,rfl,k1,fun p hp=>⟨_,rfl,a,_,rfl,(Same.new hp _).seq k1,fun p2 hp2=>?_⟩⟩⟩;rw[xaa] at hj;rw[je6] at hp2 |-
  rw[jd1];have s1:=Same.new hp (.lst (((ps.map Prod.fst).map V.ref).drop j));have s2:=Same.new hp2 (.lst (((ps.map Prod.fst).map V.ref).take j));refine⟨p,p2,_,_,rfl,rfl,s2.seq (SqL.of jam),SqL.of jam,xbb (jaS ?_),fun p3 hp3=>?_⟩
  . rw[xaG,xaT,xaa,xaa];omega
  have s3:=Same.new hp3 (.lst (((ps.map Prod.fst).map V.ref).drop j++((ps.map Prod.fst).map V.ref).take j));obtain⟨qs,eq⟩:∃qs,qs=ps.drop j++ps.take j:=⟨_,rfl⟩;have el:((ps.map Prod.fst).map V.ref).drop j++((ps.map Prod.fst).map V.ref).take j=(qs.map Prod.fst).map V.ref:=by rw[eq,xaq,xaq,xbQ,xbQ,xbM,xbM]
  rw[el] at s3 |-
  have s:=s1.trans (s2.trans s3);have ql:qs.length=ps.length:=by rw[eq,xao,xaG,xaT];omega
  have hq:Prd K H qs:=fun x m=>hc x ((xaA.mp (eq▸m)).elim xch xbT);have hbq:∀x∈qs,x.2.bd 600:=fun x m=>hb x ((xaA.mp (eq▸m)).elim xch xbT);have hu:RR (ps.map Prod.snd) (qs.map Prod.snd):=by
    rw[eq,xaq,xbQ,xbM];exact .rot j (.refl _)
  have hJ:=hq.keep s;have k3:SqL K (upd (upd (upd H p (.lst (((ps.map Prod.fst).map V.ref).drop j))) p2 (.lst (((ps.map Prod.fst).map V.ref).take j))) p3 (.lst ((qs.map Prod.fst).map V.ref))) p3 ((qs.map Prod.fst).map V.ref):=SqL.of jam;generalize upd (upd (upd H p _) p2 _) p3 _=J at s hJ k3 |-
  obtain⟨c0,c1,r,rfl⟩:∃c0 c1 r,qs=c0::c1::r:=by
    match qs,ql with
    | [],ql=>exact absurd ql (by simp;omega)
    | [_],ql=>exact absurd ql (by simp;omega)
    | a::b::r,_=>exact⟨a,b,r,rfl⟩
  have hn:r.length+1<(c0::c1::r).length:=by simp
  have fin:∀{b:Addr} {J':Hp} {ts:List (Addr × Tri)},Same J J'->SqL K J' b ((ts.map Prod.fst).map V.ref)->Prd K J' ts->ts.length<=8->(∀x∈ts,x.2.bd 600)->RR (ps.map Prod.snd) (ts.map Prod.snd)->∀(acc:Addr),J' acc=none->CompGo (Itl K b) [some (V.int v)] (jbt 0) jbU (jeY (jgK K) [] E (jbF (jeE 0) (jbF (jeE 1) jgU))) acc (fun H'=>∃x,(SqL K H' acc x/\∀l:Addr,H' l=none->Q (V.ref l) (upd H' l (HO.tup x)))\/SqT K H' acc x/\Q (V.ref acc) H') J':=fun {b J' ts} sJ kb hT l8 bT rT acc hacc =>
    jnQ kb hT.cors (by rw[xaa];exact l8) v0 fv (fun g H' gs s' e l h=>q g H' gs _ (s.trans (sJ.trans s')) e rT (jmp l (fun u hu=>by
      obtain⟨x,hx,rfl⟩:=xai.mp hu;exact bT x hx) bv h)) acc hacc
  refine ixL k3 (v:=.ref ((c0::c1::r)[r.length+1]'hn).1) (jgy (n:=r.length+1) (by simp) (by rw[xat,xat,xad hn];rfl)) (ixL k3 (i:=((1:Nat):Int)) (v:=.ref c1.1) (ja5 rfl) ?_);refine⟨_,_,[_,_,_],[_,_,_],rfl,rfl,hJ _ (xaw hn),hJ c1 (by simp),rfl,fun k=>⟨k,rfl,?_⟩⟩;cases k with
  | false =>
    rw[if_neg (by decide)];exact⟨p3,rfl,⟨_,k3⟩,fin (fun _ _ h=>h) k3 hJ (by omega) hbq hu⟩
  | true =>
    rw[if_pos rfl];refine⟨p3,_,rfl,k3,fun p4 hp4=>⟨p3,_,rfl,(Same.new hp4 _).seq k3,fun p5 hp5=>⟨_,rfl,_,SqL.of jam,fun l hl=>?_⟩⟩⟩;rw[show jgZ (List.map V.ref (List.map Prod.fst (c0::c1::r))) none (some 1)=[.ref c0.1] from jd1 (f:=1)] at hp5 hl |-
    rw[show jgZ (List.map V.ref (List.map Prod.fst (c0::c1::r))) (some 1) none=((c1::r).map Prod.fst).map V.ref from je6 (f:=1)] at hl |-
    have s4:=Same.new hp4 (.lst [.ref c0.1]);have s5:=Same.new hp5 (.lst (((c1::r).map Prod.fst).map V.ref));have s6:=Same.new hl (.lst (((c1::r).map Prod.fst).map V.ref).reverse);refine⟨p4,l,_,_,rfl,rfl,s6.seq (s5.seq (SqL.of jam)),SqL.of jam,xbb (jaS ?_),fun p6 hp6=>?_⟩
    . rw[xbl,xaa,xaa]
      simp at ql |-
      omega
    have e6:[V.ref c0.1]++(((c1::r).map Prod.fst).map V.ref).reverse=((c0::(c1::r).reverse).map Prod.fst).map V.ref:=by
      rw[<- xbY,<- xbY];rfl
    rw[e6];have s7:=Same.new hp6 (.lst (((c0::(c1::r).reverse).map Prod.fst).map V.ref));have sa:=s4.trans (s5.trans (s6.trans s7));have mem:∀x∈c0::(c1::r).reverse,x∈c0::c1::r:=fun x hx=>by
      rcases xap.mp hx with h | h
      . exact h▸xaS
      . exact xag _ (List.mem_reverse.mp h)
    refine⟨p6,rfl,⟨_,SqL.of jam⟩,fin sa (SqL.of jam) (fun x hx=>sa.seq (hJ x (mem x hx))) (by simp at ql |-;omega) (fun x hx=>hbq x (mem x hx)) ?_⟩;refine hu.trans ?_;have z:=RR.rot (l:=(c0::c1::r).map Prod.snd) (r.length+1) (.rev (.refl _));have e7:(c0::(c1::r).reverse).map Prod.snd=(((c0::c1::r).map Prod.snd).reverse).drop (r.length+1)++(((c0::c1::r).map Prod.snd).reverse).take (r.length+1):=by
      have:((c0::c1::r).map Prod.snd).reverse=((c1::r).map Prod.snd).reverse++[c0.2]:=by simp
      rw[this,List.drop_append_of_le_length (by simp),List.take_append_of_le_length (by simp),List.drop_eq_nil_of_le (by simp),xbA (by simp)];simp
    rw[e7];exact z
inductive spSli (K:PySem.W.Frag) (vs:List V) (H:Hp) (Q:VK):Prop
 | mk (a:Addr) (ns:List Int) (m:Nat) (_:vs=[.ref a,.int (m:Int)]) (_:SqL K H a (ns.map V.int)) (_:ns.length<=63) (_:1<=m) (_:m<=60) (_:∀(L:Addr) (H':Hp) (ms:List Int),Same H H'->H' L=some (.lst (ms.map V.int))->ms.length=m->Q (.ref L) H')
def spSl (K:PySem.W.Frag):Sp:=fun vs H Q _=>spSli K vs H Q
theorem jkp {K:PySem.W.Frag} {a:Addr} (h:SqL K H a xs) (s:SameB L H H') (n:H L=none):SqL K H' a xs:=(SameB.fresh (fun _ _ q=>q) n s).seq h
theorem ok_sl (T:Tx K mg t1 t2) (F:At K mg "_law_slots" jc0 ["script","many"] []):jak P w K mg base CX0 2 "_law_slots" ["script","many"] [] (spSl K):=by
 refine F.ok jd6 (by walk_at "ar") (fun f cdv A outer s H vs Q E hr h=>?_);obtain⟨a,ns,m,rfl,hS,h63,m1,m60,q⟩:=h;have S:=jd6;refine⟨_,(jaf (jar (i:=2) S.nd rfl (Or.inl rfl) (jap jhy (ja8 jcU rfl T.m_list boot_list (jaa (jbi jcs (pv 0) jbG (jbH (pv 1))) jad jav)) (jap joD (jaU (jaa jab jad jai)) (jaz (jdY rfl) rfl T.m_max boot_max (jaa jab (jaa (jap jaW (pv 1) (jaz jaQ rfl T.m_len PySem.boot_len (jaa (pv 0) jad jac))) jad jbc) jai)))))
  (jaf (jbb PassesOwn.never rfl (jfc rfl T.m_range (jaa (pv 1) (jaa (jaz jaQ rfl T.m_len PySem.boot_len (jaa (pv 0) jad jac)) jad jaB) jac)) (jau (i:=3) S.nd rfl (Or.inl rfl))
  (jag (jiZ (jap jaP (jap jlH (jal ix_list (pv 2) (jap jdt (pv 3) (pv 1))) jab) (jal ix_list (pv 0) (pv 3))) (jlF (pv 2) (jap jdt (pv 3) (pv 1)) jh4))))
  (jag (jan (pv 2))))),?_⟩
 have el:(ns.map V.int).length=ns.length:=xaa _;walk_at "rf";refine⟨a,_,rfl,hS,fun p1 hp1=>?_⟩;rw[jd1,<- xbM];refine jbJ hp1 fun H1 s1 e1=>⟨p1,rfl,_,.inl (SqL.of e1),fun l hl=>⟨by decide,?_⟩⟩;refine jbJ hl fun H2 s2 e2 p hp=>?_;refine jbJ hp fun H3 s3 e3=>⟨_,.inl ((s1.trans (s2.trans s3)).seq hS),?_⟩;rw[el];refine⟨p,_,_,rfl,rfl,e3,by split<;>omega,by split<;>omega,xbb (jaS (by simp;split<;>omega)),fun p4 hp4=>?_⟩;have rp:(List.replicate (if (m:Int)-ns.length>0 then (m:Int)-ns.length else 0).toNat [V.int 0]).flatten=(List.replicate (m-ns.length) (0:Int)).map V.int:=by
  rw[show (if (m:Int)-ns.length>0 then (m:Int)-ns.length else 0).toNat=m-ns.length by split<;>omega];generalize m-ns.length=k;induction k with
  | zero=>rfl
  | succ k ih=>rw[xbk,xbk,xbP,ih];rfl
 rw[rp];refine jbJ hp4 fun H4 s4 e4=>⟨l,p4,_,_,rfl,rfl,SqL.of (s4 _ _ (s3 _ _ e2)),SqL.of e4,xbb (jaS (by simp;omega)),fun p5 hp5=>?_⟩;rw[<- xaq];have n5:H p5=none:=Same.noneN (s1.trans (s2.trans (s3.trans s4))) hp5;refine jbJ hp5 fun H5 s5 e5=>⟨_,.inl ((s1.trans (s2.trans (s3.trans (s4.trans s5)))).seq hS),by omega,by omega,by omega,by omega,?_⟩;have s:=s1.trans (s2.trans (s3.trans (s4.trans s5)));refine jbA (fun i σ J=>SameB p5 H5 J/\∃(ms:List Int) (o:Option V),σ=[some (.ref a),some (.int (m:Int)),some (.ref p5),o]/\J p5=some (.lst (ms.map V.int))/\ms.length=m) ⟨SameB.refl _ _,_,none,rfl,e5,?_⟩ ?_ ?_
 ·rw[xao,xaT,xbe];omega
 ·rintro i σ J hi ⟨sJ,ms,o,rfl,eJ,lms⟩;have hsJ:SqL K J a (ns.map V.int):=jkp hS (s.b.trans sJ) n5;have m0:=xa0 ((m:Int)+i) (show (m:Int)≠0 by omega);have m1':=xaU ((m:Int)+i) (show (0:Int)<m by omega);obtain⟨j,ej⟩:=Int.eq_ofNat_of_zero_le m0;have hj:j<ms.length:=by omega
  have hi':m+i<ns.length:=by rw[el] at hi;omega
  walk_at "rf";refine⟨by omega,?_⟩;rw[ej];refine ixL (SqL.of eJ) (v:=.int ms[j]) (ja5 (by rw[xat,xad hj];rfl)) ⟨_,rfl,.inr ⟨by decide,by decide⟩,?_⟩;refine ixL hsJ (v:=.int ns[m+i]) (jpk (j:=m+i) (by omega) (by rw[xat,xad hi'];rfl)) ⟨_,rfl,?_⟩;unfold gSub;walk_at "rf";refine⟨by omega,p5,_,_,j,rfl,rfl,eJ,?_,sJ.box,ms.set j (ms[j]*1000003+ns[m+i]),?_,by rw[List.length_set];exact lms⟩
  ·rw[ej,xaa];unfold ixN;rw[if_pos (by omega),if_pos (by omega)];simp
  ·rw[jam,List.map_set]
 ·rintro σ J ⟨sJ,ms,o,rfl,eJ,lms⟩;walk_at "rf";exact q _ _ _ (SameB.fresh s n5 sJ) eJ lms
inductive spPui (vs:List V) (H:Hp) (Q:VK):Prop
 | mk (c k:Int) (_:vs=[.int c,.int k]) (_:0<=k) (_:k<=63) (_:∀(L:Addr) (H':Hp),H L=none->Same H H'->Purs H' L->Q (.ref L) H')
def spPu:Sp:=fun vs H Q _=>spPui vs H Q
theorem ok_pu (T:Tx K mg t1 t2) (F:At K mg "_law_purse" jc1 ["cell","k"] []):jak P w K mg base CX0 2 "_law_purse" ["cell","k"] [] spPu:=by
 refine F.ok jd7 (by walk_at "ar") (fun f cdv A outer s H vs Q E hr h=>?_);obtain⟨c,k,rfl,k0,k63,q⟩:=h;have S:=jd7;refine⟨_,(jaf (jaM (jat jmQ (pv 0) (jap jlI jab jab) (jaw _))
  (jag (jan (jaU (jaa (pv 0) jad jac))))
  jax)
  (jaf (jar (i:=2) S.nd rfl (Or.inl rfl) (jap jdt (jap jas (jap jaP (jap jdt (pv 0) jab) jab) (jap jaP (jap jas jab (pv 1)) jab)) jab))
  (jaf (jar (i:=3) S.nd rfl (Or.inl rfl) jab)
  (jaf (jbb PassesOwn.never rfl (jaH rfl T.m_range (jaa jab jad jai)) (jau (i:=4) S.nd rfl (Or.inl rfl))
  (jaf (jar (i:=2) S.nd rfl (Or.inl rfl) (jap jdt (jap jaP (jap jaP (jap jas (jap jdt (jap jas (pv 2) (pv 2)) jab) jab) (jap jas jab (pv 4))) (jap jas jab (pv 1))) jab))
  (jag (jar (i:=3) S.nd rfl (Or.inl rfl) (jap jaP (jap jlH (pv 3) jab) (pv 2))))))
  (jag (jan (jaU (jaa (pv 3) jad jac)))))))),?_⟩
 walk_at "rf";refine⟨⟨by decide,by decide,by decide⟩,?_⟩;by_cases c0:(10:Int)^Int.toNat 18<=c
 ·rw[if_pos c0];have c1:(0:Int)<=c:=xcn (by decide) c0;exact⟨by decide,fun p hp=>q p _ hp (Same.new hp _) ⟨c,jam,c1⟩⟩
 ·rw[if_neg c0];have b1:=xa0 c (show (998244353:Int)≠0 by decide);have b2:=xaU c (show (0:Int)<998244353 by decide);have d1:=xa0 ((c % 998244353+1)*(2*k+3)) (show (998244353:Int)≠0 by decide);have d2:=xaU ((c % 998244353+1)*(2*k+3)) (show (0:Int)<998244353 by decide);have fk:Fit k:=Bd.fit (n:=10) (by unfold Bd;omega);refine⟨by decide,Bd.fit (n:=10) (by unfold Bd;decide),fk,Bd.fit (n:=40) (by unfold Bd;omega),Bd.fit (n:=40) (by unfold Bd;omega),by decide,by decide,by decide,?_⟩;refine jbA (fun i σ J=>J=H/\∃(near pot:Int) (o4:Option V),σ=[some (.int c),some (.int k),some (.int near),some (.int pot),o4]/\0<=near/\near<2147483629/\0<=pot) ⟨rfl,_,0,none,rfl,d1,by omega,by decide⟩ ?_ ?_
  ·rintro i σ J hi ⟨rfl,near,pot,o4,rfl,n0,n1,p0⟩;have hi8:i<8:=hi;have fn:Fit near:=Bd.fit (n:=40) (by unfold Bd;omega);have g1:=xa0 (near*near) (show (998244341:Int)≠0 by decide);have g2:=xaU (near*near) (show (0:Int)<998244341 by decide);walk_at "rf";refine⟨fn,fn,by decide,Bd.fit (n:=40) (by unfold Bd;omega),Bd.fit (n:=40) (by unfold Bd;decide),Bd.fit (n:=40) (by unfold Bd;decide),Bd.fit (n:=40) (by unfold Bd;omega),Bd.fit (n:=40) (by unfold Bd;decide),fk,by decide,.inr ⟨by decide,by decide⟩,?_⟩;refine⟨xa0 _ (by decide),xaU _ (by decide),?_⟩;have h1:=xa0 (near*near % 998244341*69621+7907*(0+(i:Int))+31*k) (show (2147483629:Int)≠0 by decide);have h2:=xaf p0 (show (0:Int)<=2147483629 by decide);omega
  ·rintro σ J ⟨rfl,near,pot,o4,rfl,n0,n1,p0⟩;walk_at "rf";exact⟨by decide,fun p hp=>q p _ hp (Same.new hp _) ⟨pot,jam,p0⟩⟩
inductive spWdi (vs:List V) (H:Hp) (Q:VK):Prop
 | mk (n:Int) (_:vs=[.int n]) (_:∀(v:Int) (H':Hp),(v=4\/v=9\/v=60\/v=1000000)->Same H H'->Q (.int v) H')
def spWd:Sp:=fun vs H Q _=>spWdi vs H Q
theorem ok_wd (T:Tx K mg t1 t2) (F:At K mg "_law_wide" jdJ ["number"] []):jak P w K mg base CX0 2 "_law_wide" ["number"] [] spWd:=by
 refine F.ok jeL (by walk_at "ar") (fun f cdv A outer s H vs Q E hr h=>?_);obtain⟨n,rfl,q⟩:=h;have S:=jeL;refine⟨_,(jag (jan (jal ix_list (jaU (jaa jab (jaa jab (jaa jab (jaa jab (jaa (jap jlI jab jab) jad jbc) jai) jai) jai) jai)) (jap jdt (pv 0) jab)))),?_⟩;walk_at "rf";refine⟨⟨by decide,by decide,by decide⟩,by decide,fun p hp=>⟨by decide,?_⟩⟩;have m0:=xa0 n (show (5:Int)≠0 by decide);have m4:=xaU n (show (0:Int)<5 by decide);have:n % 5=0\/n % 5=1\/n % 5=2\/n % 5=3\/n % 5=4:=by omega
 rcases this with e | e | e | e | e<;>rw[e]
 ·exact ixL (SqL.of jam) rfl (q 4 _ (by omega) (Same.new hp _))
 ·exact ixL (SqL.of jam) rfl (q 4 _ (by omega) (Same.new hp _))
 ·exact ixL (SqL.of jam) rfl (q 9 _ (by omega) (Same.new hp _))
 ·exact ixL (SqL.of jam) rfl (q 60 _ (by omega) (Same.new hp _))
 ·exact ixL (SqL.of jam) rfl (q _ _ (by decide) (Same.new hp _))
def Tri.le (n:Int) (u:Tri):Prop:=(-n<=u.x/\u.x<=n)/\(-n<=u.y/\u.y<=n)/\-n<=u.z/\u.z<=n
def A3 (H:Hp) (a:Addr) (u:Tri):Prop:=H a=some (.lst [.int u.x,.int u.y,.int u.z])
theorem A3.l3 {K:PySem.W.Frag} {a:Addr} {u:Tri} (h:A3 H a u):L3 K H a u:=SqL.of h
theorem Purs.keep (h:Purs H L) (s:Same H H'):Purs H' L :=
 let ⟨r,a,b⟩:=h
 ⟨r,s _ _ a,b⟩
theorem Purs.ne {p:Addr} (h:Purs H L) (n:H p=none):p≠L :=
 let ⟨_,a,_⟩:=h
 Ne.symm (ja0 a n)
theorem jpE {acc:Addr} {Z:Hp->Prop} {lo:Int} (p:V->Prop) (hn:n<1000) (hacc:H1 acc=none) (b0:Purs H1 L)
  (hs:∀(i:Nat) (H3:Hp) (R:V->Hp->Prop),i<n->SameB L H1 H3->Purs H3 L->(∀y H4,SameB L H3 H4->Purs H4 L->p y->R y H4)->te (some (.int (lo+i))::ρ) H3 R)
  (hd:∀ys H',SameB L H1 H'->Purs H' L->H' acc=some (.lst ys)->ys.length=n->(∀y∈ys,p y)->Z H'):CompGo (Itr lo n) ρ (jbt 0) jbU te acc Z H1:=by
 have ne:=b0.ne hacc;have up:∀{H:Hp} {xs:List V},Purs H L->Purs (upd H acc (.lst xs)) L:=fun {H xs} ⟨r,h1,h2⟩=>⟨r,by rw[jaT (Ne.symm ne)];exact h1,h2⟩;refine jen (fun i xs H=>SameB L H1 H/\Purs H L/\H acc=some (.lst xs)/\xs.length=i/\∀y∈xs,p y) ⟨(Same.new hacc _).b,up b0,jam,rfl,fun y h=>nomatch h⟩ ?_ ?_
 ·rintro i xs H hi ⟨g1,gb,g2,hl,hp⟩;refine hs i H _ hi g1 gb fun y H4 s4 b4 py=>⟨s4 _ _ ne g2,jaS (by omega),(g1.trans s4).acc hacc,up b4,jam,?_,fun z hz=>?_⟩
  ·rw[xao,hl];rfl
  ·rcases xaA.mp hz with hz | hz
   ·exact hp z hz
   ·rw[xaO.mp hz];exact py
 ·rintro xs H ⟨g1,gb,g2,hl,hp⟩;exact hd xs H g1 gb g2 hl hp
theorem ls3 {α:Type} {l:List α} (h:l.length=3):∃a b c,l=[a,b,c]:=by
 match l,h with
 | [a,b,c],_=>exact⟨a,b,c,rfl⟩
inductive spAri (vs:List V) (H:Hp) (Q:VK):Prop
 | mk (L:Addr) (d:Int) (_:vs=[.ref L,.int d]) (_:Purs H L) (_:1<=d) (_:d<=2000000) (_:∀(g:Addr) (H':Hp) (u:Tri),SameB L H H'->Purs H' L->H g=none->g≠L->A3 H' g u->u.le d->Q (.ref g) H')
def jpF:Sp:=fun vs H Q _=>spAri vs H Q
theorem ok_ar (T:Tx K mg t1 t2) (F:At K mg "_law_arrow" jc2 ["purse","wide"] []) (db:jak P w K mg base CX0 2 "_law_take" ["purse","many"] [] jdm):jak P w K mg base CX0 3 "_law_arrow" ["purse","wide"] [] jpF:=by
 refine F.ok jd8 (by walk_at "ar") (fun f cdv A outer s H vs Q E hr h=>?_);obtain⟨L,d,rfl,pL,d1,d2,q⟩:=h;have S:=jd8;refine⟨_,(jag (jan (jaF rfl (N':=["k","purse","wide"]) (ix:=[0,1]) (by walk_at "cs") (jaH rfl T.m_range (jaa jab jad jai)) (fun _ _ _ _=>jau (i:=0) (show (["k","purse","wide"]:List Str).Nodup from by decide +kernel) rfl (Or.inl rfl)) (fun _ _ _ _=>jaK) (fun _ _ _ _=>(jap jaW (jae db hr.m rfl jao (jaa (pv 1) (jaa (jap jaP (jap jas jab (pv 2)) jab) jad jbc) jac)) (pv 2)))))),?_⟩;walk_at "rf";refine⟨by decide,by decide,fun acc hacc=>?_⟩;refine jpE (L:=L) (fun y=>∃z:Int,y=.int z/\-d<=z/\z<=d) (by decide) hacc pL (fun i H3 R hi s3 p3 hR=>?_) fun ys H' s' p' e' l' hy=>?_
 ·walk_at "rf";refine⟨Bd.fit (n:=10) (by unfold Bd;decide),Bd.fit (n:=40) (by unfold Bd;omega),L,_,rfl,p3,by omega,by omega,fun H4 z s4 p4 z0 z1=>?_⟩;exact⟨_,rfl,hR _ _ s4 p4 ⟨_,rfl,by omega,by omega⟩⟩
 ·obtain⟨a,b,c,rfl⟩:=ls3 l';obtain⟨x,rfl,x1,x2⟩:=hy a (by simp);obtain⟨y,rfl,y1,y2⟩:=hy b (by simp);obtain⟨z,rfl,z1,z2⟩:=hy c (by simp);exact q acc H' ⟨x,y,z⟩ s' p' hacc (pL.ne hacc) e' ⟨⟨x1,x2⟩,⟨y1,y2⟩,z1,z2⟩
def cr3 (u v:Tri):Tri:=⟨u.y*v.z-u.z*v.y,u.z*v.x-u.x*v.z,u.x*v.y-u.y*v.x⟩
theorem nzT (h:v.nz):decide ([v.x,v.y,v.z]=[0,0,0])=false:=decide_eq_false fun z=>h (by simp at z;exact z)
theorem nzF (h:v.x=0/\v.y=0/\v.z=0):decide ([v.x,v.y,v.z]=[0,0,0])=true:=decide_eq_true (by rw[h.1,h.2.1,h.2.2])
def un (i:Nat):Tri:=if i=0 then ⟨1,0,0⟩ else if i=1 then ⟨0,1,0⟩ else ⟨0,0,1⟩
theorem jpG (i:Nat):(un i).bd 60/\(un i).le 1:=by
 unfold un Tri.bd Tri.le Bd;split
 ·exact⟨⟨by decide,by decide,by decide⟩,by decide⟩
 ·split
  ·exact⟨⟨by decide,by decide,by decide⟩,by decide⟩
  ·exact⟨⟨by decide,by decide,by decide⟩,by decide⟩
inductive spUli (K:PySem.W.Frag) (vs:List V) (H:Hp) (Q:VK):Prop
 | mk (a:Addr) (u:Tri) (_:vs=[.ref a]) (_:L3 K H a u) (_:u.nz) (_:u.bd 60) (_:∀(g:Addr) (H':Hp) (v:Tri),Same H H'->H g=none->A3 H' g v->v.le 1->(cr3 u v).nz->Q (.ref g) H')
def spUl (K:PySem.W.Frag):Sp:=fun vs H Q _=>spUli K vs H Q
theorem Bd3.mono {u:Tri} {m:Nat} (h:u.bd n) (l:n<=m):Bd m u.x/\Bd m u.y/\Bd m u.z:=⟨Bd.mono h.1 l,Bd.mono h.2.1 l,Bd.mono h.2.2 l⟩
theorem ok_ul (T:Tx K mg t1 t2) (F:At K mg "_law_unlike" jcA ["one"] []) (dg:jak P w K mg base CX0 2 "_law_cross" ["one","other"] [] (jhm K)):jak P w K mg base CX0 3 "_law_unlike" ["one"] [] (spUl K):=by
 refine F.ok jdA (by walk_at "ar") (fun f cdv A outer s H vs Q E hr h=>?_);obtain⟨a,u,rfl,ka,nz,bu,q⟩:=h;have S:=jdA;refine⟨_,(jaf (jbb PassesOwn.never rfl (jba (jaU (jaa (jaU (jaa jab (jaa jab (jaa jab jad jai) jai) jai)) (jaa (jaU (jaa jab (jaa jab (jaa jab jad jai) jai) jai)) (jaa (jaU (jaa jab (jaa jab (jaa jab jad jai) jai) jai)) jad jbu) jbu) jbu))) (jau (i:=1) S.nd rfl (Or.inl rfl))
  (jag (jaM (jat (jh5 (jiO hr)) (jae dg hr.m rfl jao (jaa (pv 0) (jaa (pv 1) jad jac) jac)) (jaU (jaa jab (jaa jab (jaa jab jad jai) jai) jai)) (jaw _))
  (jag (jan (pv 1)))
  jax)))
  (jag (jan (pv 0)))),?_⟩
 walk_at "rf";refine⟨by decide,fun p0 h0=>⟨by decide,?_⟩⟩;refine jbJ h0 fun H0 s0 e0 p1 h1=>⟨by decide,?_⟩;refine jbJ h1 fun H1 s1 e1 p2 h2=>⟨by decide,?_⟩;refine jbJ h2 fun H2 s2 e2 p3 h3=>?_;refine jbJ h3 fun H3 s3 e3=>⟨⟨_,SqL.of e3⟩,?_⟩;have s:=s0.trans (s1.trans (s2.trans s3));have n1:H p1=none:=Same.noneN s0 h1;have n2:H p2=none:=Same.noneN (s0.trans s1) h2;refine jcr (K:=K) (a:=p3) (xs:=[.ref p0,.ref p1,.ref p2]) (fun i σ J=>Same H3 J/\∃o,σ=[some (.ref a),o]/\∀j,j<i->¬(cr3 u (un j)).nz) ⟨fun _ _ h=>h,none,rfl,fun _ h=>absurd h (xa9 _)⟩ (fun i σ J _ h=>SqL.of (h.1 _ _ e3)) ?_ ?_
 ·rintro i v σ J hi ⟨sJ,o,rfl,hz⟩;have st:∀(p:Addr),H p=none->A3 H3 p (un i)->jbt 1 (.ref p) [some (.ref a),o] J (fun σ2 H2=>jmK (jhv (tOp (jok K true) (jeY (jhm K) [] E0 (jbF (jeE 0) (jbF (jeE 1) jgU))) (jkN (jbF (tC (V.int 0)) (jbF (tC (V.int 0)) (jbF (tC (V.int 0)) jgU)))))) (jiM (jeE 1)) jhr { nx:=fun σ J=>Same H3 J/\∃o,σ=[some (.ref a),o]/\∀j,j<i+1->¬(cr3 u (un j)).nz,rt:=Q,bk:=jiM (jeE 0) { nx:=fun x H'=>Q V.non H',rt:=Q },ct:=fun σ J=>Same H3 J/\∃o,σ=[some (.ref a),o]/\∀j,j<i+1->¬(cr3 u (un j)).nz } σ2 H2):=fun p np ep=>by
   walk_at "rf";refine⟨a,p,u,un i,rfl,(s.trans sJ).seq ka,A3.l3 (sJ _ _ ep),Bd3.mono bu (by decide),Bd3.mono (jpG i).1 (by decide),fun g J2 hg s4 e4=>⟨by decide,fun p4 hp4=>?_⟩⟩;have s5:=Same.new hp4 (.lst [V.int 0,V.int 0,V.int 0]);refine je5 (x:=[(cr3 u (un i)).x,(cr3 u (un i)).y,(cr3 u (un i)).z]) (y:=[0,0,0]) (SqL.of (s5 _ _ e4)) (SqL.of jam) ⟨_,rfl,?_⟩;by_cases c:(cr3 u (un i)).nz
   ·rw[nzT c,if_pos (by decide)];exact q p _ _ (s.trans (sJ.trans (s4.trans s5))) np (s5 _ _ (s4 _ _ (sJ _ _ ep))) (jpG i).2 c
   ·have c':=xbp.mp c;rw[nzF c',if_neg (by decide)];refine⟨sJ.trans (s4.trans s5),fun j hj=>?_⟩;rcases xbJ j i with o | o
    ·exact hz j o
    ·rw[show j=i by omega];exact c
  have hl:i<3:=(xae.mp hi).1;obtain rfl | rfl | rfl:=lt3 hl
  ·cases hi;exact st p0 h0 (s3 _ _ (s2 _ _ (s1 _ _ e0)))
  ·cases hi;exact st p1 n1 (s3 _ _ (s2 _ _ e1))
  ·cases hi;exact st p2 n2 (s3 _ _ e2)
 ·rintro σ J ⟨sJ,o,rfl,hz⟩;exfalso;have z0:=xbp.mp (hz 0 (show 0<3 by decide));have z1:=xbp.mp (hz 1 (show 1<3 by decide));unfold cr3 un at z0 z1;simp at z0 z1;exact nz ⟨by omega,by omega,by omega⟩
inductive spSii (vs:List V) (H:Hp) (Q:VK):Prop
 | mk (L:Addr) (d:Int) (_:vs=[.ref L,.int d]) (_:Purs H L) (_:1<=d) (_:d<=1000000) (_:∀(g a b:Addr) (H':Hp) (u v:Tri),SameB L H H'->Purs H' L->H' g=some (.tup [.ref a,.ref b])->a≠L->b≠L->A3 H' a u->A3 H' b v->u.le d->v.le d->(cr3 u v).nz->Q (.ref g) H')
def spSi:Sp:=fun vs H Q _=>spSii vs H Q
def siM (H:Hp) (L:Addr) (d:Int):L2.St->Hp->Prop:=fun σ J=>∃(a:Addr) (u:Tri),σ=[some (.ref L),some (.int d),some (.ref a),none]/\SameB L H J/\Purs J L/\a≠L/\A3 J a u/\u.le d/\u.nz
theorem jnR {u:Tri} {d:Int} (h:u.le d) (l:d<=2000000):u.bd 60:=by
 obtain⟨⟨a,b⟩,⟨c,e⟩,f,g⟩:=h;unfold Tri.bd Bd;omega
theorem ja2 {u:Tri} {d e:Int} (h:u.le d) (l:d<=e):u.le e:=by
 unfold Tri.le at *
 omega
theorem ok_si (T:Tx K mg t1 t2) (F:At K mg "_law_sides" jc4 ["purse","wide"] []) (dh:jak P w K mg base CX0 3 "_law_arrow" ["purse","wide"] [] jpF) (dg:jak P w K mg base CX0 2 "_law_cross" ["one","other"] [] (jhm K)) (Dx:jak P w K mg base CX0 3 "_law_unlike" ["one"] [] (spUl K)):jak P w K mg base CX0 4 "_law_sides" ["purse","wide"] [] spSi:=by
 refine F.ok jea (by walk_at "ar") (fun f cdv A outer s H vs Q E hr h=>?_);obtain⟨L,d,rfl,pL,d1,d2,q⟩:=h;have S:=jea;refine⟨_,(jaf (jar (i:=2) S.nd rfl (Or.inl rfl) (jae dh hr.m rfl jao (jaa (pv 0) (jaa (pv 1) jad jac) jac)))
  (jcu (siM H L d) (jaM (jat (jg4 (jiO hr)) (pv 2) (jaU (jaa jab (jaa jab (jaa jab jad jai) jai) jai)) (jaw _))
  (jag (jar (i:=2) S.nd rfl (Or.inl rfl) (jaU (jaa jab (jaa jab (jaa jab jad jai) jai) jai))))
  jax)
  (jaf (jar (i:=3) S.nd rfl (Or.inl rfl) (jae dh hr.m rfl jao (jaa (pv 0) (jaa (pv 1) jad jac) jac)))
  (jaf (jaM (jat (jg4 (jiO hr)) (jae dg hr.m rfl jao (jaa (pv 2) (jaa (pv 3) jad jac) jac)) (jaU (jaa jab (jaa jab (jaa jab jad jai) jai) jai)) (jaw _))
  (jag (jar (i:=3) S.nd rfl (Or.inl rfl) (jae Dx hr.m rfl jao (jaa (pv 2) jad jac))))
  jax)
  (jag (jan (ja4 (jaa (pv 2) (jaa (pv 3) jad jac) jac)))))))),?_⟩
 walk_at "rf";refine⟨L,d,rfl,pL,d1,by omega,fun g H1 u s1 p1 ng gL eg lu=>⟨by decide,fun p hp=>?_,?_⟩⟩
 ·have s2:=Same.new hp (.lst [V.int 0,V.int 0,V.int 0]);refine jgo (x:=[u.x,u.y,u.z]) (y:=[0,0,0]) (SqL.of (s2 _ _ eg)) (SqL.of jam) ⟨_,rfl,?_⟩;by_cases c:u.nz
  ·rw[nzT c,if_neg (by decide)];exact⟨g,u,rfl,s1.trans s2.b,p1.keep s2,gL,s2 _ _ eg,lu,c⟩
  ·have c':=xbp.mp c;rw[nzF c',if_pos (by decide)];refine⟨by decide,fun p' hp'=>?_⟩;have s3:=Same.new hp' (.lst [V.int 1,V.int 0,V.int 0]);exact⟨p',⟨1,0,0⟩,rfl,s1.trans (s2.trans s3).b,p1.keep (s2.trans s3),(p1.keep s2).ne hp',jam,⟨⟨by show -d<=1;omega,by show 1<=d;omega⟩,⟨by show -d<=0;omega,by show 0<=d;omega⟩,by show -d<=0;omega,by show 0<=d;omega⟩,fun z=>absurd z.1 (by decide)⟩
 ·rintro σ J ⟨a,u,rfl,sJ,pJ,aL,ea,lu,nz⟩;walk_at "rf";refine⟨L,d,rfl,pJ,d1,by omega,fun b J1 v s1 p1 nb bL eb lv=>⟨a,b,u,v,rfl,A3.l3 (s1 _ _ aL ea),A3.l3 eb,Bd3.mono (jnR lu (by omega)) (by decide),Bd3.mono (jnR lv (by omega)) (by decide),fun c J2 nc s2 ec=>⟨by decide,fun p hp=>?_⟩⟩⟩;have s3:=Same.new hp (.lst [V.int 0,V.int 0,V.int 0]);have s23:=s2.trans s3;refine jgo (x:=[(cr3 u v).x,(cr3 u v).y,(cr3 u v).z]) (y:=[0,0,0]) (SqL.of (s3 _ _ ec)) (SqL.of jam) ⟨_,rfl,?_⟩;have ea2:A3 (upd J2 p (.lst [V.int 0,V.int 0,V.int 0])) a u:=s23 _ _ (s1 _ _ aL ea);have p2:=p1.keep s23;by_cases c:(cr3 u v).nz
  ·rw[nzT c,if_neg (by decide)];refine⟨by decide,fun p' hp'=>?_⟩;have s4:=Same.new hp' (.tup [.ref a,.ref b]);exact q p' a b _ u v (sJ.trans (s1.trans (s23.trans s4).b)) (p2.keep s4) jam aL bL (s4 _ _ ea2) (s4 _ _ (s23 _ _ eb)) lu lv c
  ·have c':=xbp.mp c;rw[nzF c',if_pos (by decide)];refine⟨a,u,rfl,A3.l3 ea2,nz,jnR lu (by omega),fun g J4 v' s4 ng eg lg cg=>⟨by decide,fun p' hp'=>?_⟩⟩;have s5:=Same.new hp' (.tup [.ref a,.ref g]);exact q p' a g _ u v' (sJ.trans (s1.trans (s23.trans (s4.trans s5)).b)) (p2.keep (s4.trans s5)) jam aL (p2.ne ng) (s5 _ _ (s4 _ _ ea2)) (s5 _ _ eg) lu (ja2 lg (by omega)) cg
def rfs (ps:List (Addr × Tri)):List V:=(ps.map Prod.fst).map V.ref
theorem jlv (ps:List (Addr × Tri)) (p:Addr × Tri):rfs ps++[.ref p.1]=rfs (ps++[p]):=by
 unfold rfs;simp
def Acc3 (f:Nat->Tri) (H1:Hp) (acc:Addr) (i:Nat) (xs:List V) (H:Hp):Prop:=Same H1 H/\H acc=some (.lst xs)/\∃ps:List (Addr × Tri),xs=rfs ps/\ps.length=i/\ps.map Prod.snd=(List.range i).map f/\∀p∈ps,A3 H p.1 p.2/\p.1≠acc
theorem Acc3.start {f:Nat->Tri} {acc:Addr} (h:H1 acc=none):Acc3 f H1 acc 0 [] (upd H1 acc (.lst [])):=⟨Same.new h _,jam,[],rfl,rfl,rfl,fun _ z=>nomatch z⟩
theorem Acc3.step {f:Nat->Tri} {H4:Hp} {acc r:Addr} (ha:H1 acc=none) (h:Acc3 f H1 acc i xs H) (s4:Same H H4) (hr:H r=none) (e:A3 H4 r (f i)):H4 acc=some (.lst xs)/\Acc3 f H1 acc (i+1) (xs++[.ref r]) (upd H4 acc (.lst (xs++[.ref r]))):=by
 obtain⟨g1,g2,ps,rfl,hl,hm,hp⟩:=h;have ra:r≠acc:=Ne.symm (ja0 g2 hr);refine⟨s4 _ _ g2,Same.keepN (g1.trans s4) ha _,jam,ps++[(r,f i)],jlv ps (r,f i),by rw[xao,hl];rfl,?_,fun p hp'=>?_⟩
 ·rw[xaq,hm,xaZ,xaq];rfl
 ·rcases xaA.mp hp' with h | h
  ·obtain⟨h1,h2⟩:=hp p h;exact⟨by unfold A3;rw[jaT h2];exact s4 _ _ h1,h2⟩
  ·rw[xaO.mp h];exact⟨by unfold A3;rw[jaT ra];exact e,ra⟩
theorem jnS {a:Addr} {g:TG} {acc:Addr} {Z:Hp->Prop} (f:Nat->Tri) (hn:zs.length<1000) (hacc:H1 acc=none) (hz:SqL K H1 a zs)
  (hs:∀(i:Nat) (z:V) (v0:L2.St) (H3:Hp) (R:V->Hp->Prop),zs[i]?=some z->v0.length=n->Same H1 H3->(∀r H4,Same H3 H4->H3 r=none->A3 H4 r (f i)->R (.ref r) H4)->g z (v0++ρ) H3 fun σ2 H2=>(∃v:L2.St,v.length=n/\σ2=v++ρ)/\te σ2 H2 R)
  (hd:∀(ps:List (Addr × Tri)) H',Same H1 H'->H' acc=some (.lst (rfs ps))->ps.map Prod.snd=(List.range zs.length).map f->(∀p∈ps,A3 H' p.1 p.2)->Z H')
  (mono:∀z σ H (A B:L2.St->Hp->Prop),(∀σ' H',A σ' H'->B σ' H')->g z σ H A->g z σ H B):jdE (Itl K a) n ρ g jbU te acc Z H1:=by
 refine⟨fun i m xs H=>Acc3 f H1 acc i xs H/\i<=zs.length/\m=zs.length-i,⟨zs.length,.start hacc,xa6 _,rfl⟩,?_⟩;rintro i m xs H ⟨A,hi,rfl⟩;have sq:=A.1.seq hz;have lx:xs.length=i:=by
  obtain⟨_,_,ps,rfl,hl,_⟩:=A;unfold rfs;rw[xaa,xaa,hl]
 by_cases hlt:i<zs.length
 ·have ez:zs[i]?=some zs[i]:=xad hlt;refine .inr ⟨⟨zs,zs[i],sq,ez⟩,(fun y H4=>∃r,y=.ref r/\Same H H4/\H r=none/\A3 H4 r (f i)),fun _=>False,?_,fun _ z=>z.elim,?_⟩
  ·rintro y H4 ⟨r,rfl,s4,nr,er⟩;obtain⟨h1,h2⟩:=A.step hacc s4 nr er;exact⟨h1,jaS (by omega),zs.length-(i+1),by omega,h2,hlt,rfl⟩
  ·rintro v0 x H' l0 ⟨rfl,hx⟩;have ex:x=zs[i]:=by
    have z:=hx zs sq;rw[ez] at z;exact (Option.some.inj z).symm
   subst ex;refine mono _ _ _ _ _ (fun σ' H'' h=>?_) (hs i _ v0 H' (fun y H4=>∃r,y=.ref r/\Same H' H4/\H' r=none/\A3 H4 r (f i)) ez l0 A.1 fun r H4 s4 nr er=>⟨r,rfl,s4,nr,er⟩);refine⟨h.1,?_⟩;simp only[jbU,if_true];exact h.2
 ·have:i=zs.length:=by omega
  subst this;obtain⟨g1,g2,ps,rfl,hl,hm,hp⟩:=A;exact .inl ⟨⟨zs,sq,xam _⟩,hd ps H g1 g2 hm fun p h=>(hp p h).1⟩
theorem jmq {a:Addr} {acc:Addr} {Z:Hp->Prop} (f:Nat->Tri) (hn:zs.length<1000) (hacc:H1 acc=none) (hz:SqL K H1 a zs)
  (hs:∀(i:Nat) (z:V) (H3:Hp) (R:V->Hp->Prop),zs[i]?=some z->Same H1 H3->(∀r H4,Same H3 H4->H3 r=none->A3 H4 r (f i)->R (.ref r) H4)->te (some z::ρ) H3 R)
  (hd:∀(ps:List (Addr × Tri)) H',Same H1 H'->H' acc=some (.lst (rfs ps))->ps.map Prod.snd=(List.range zs.length).map f->(∀p∈ps,A3 H' p.1 p.2)->Z H'):CompGo (Itl K a) ρ (jbt 0) jbU te acc Z H1:=by
 refine⟨fun i m xs H=>Acc3 f H1 acc i xs H/\i<=zs.length/\m=zs.length-i,⟨zs.length,.start hacc,xa6 _,rfl⟩,?_⟩;rintro i m xs H ⟨A,hi,rfl⟩;have sq:=A.1.seq hz;have lx:xs.length=i:=by
  obtain⟨_,_,ps,rfl,hl,_⟩:=A;unfold rfs;rw[xaa,xaa,hl]
 by_cases hlt:i<zs.length
 ·have ez:zs[i]?=some zs[i]:=xad hlt;refine .inr ⟨⟨zs,zs[i],sq,ez⟩,(fun y H4=>∃r,y=.ref r/\Same H H4/\H r=none/\A3 H4 r (f i)),fun _=>False,?_,fun _ z=>z.elim,?_⟩
  ·rintro y H4 ⟨r,rfl,s4,nr,er⟩;obtain⟨h1,h2⟩:=A.step hacc s4 nr er;exact⟨h1,jaS (by omega),zs.length-(i+1),by omega,h2,hlt,rfl⟩
  ·rintro v0 x H' ⟨rfl,hx⟩;have ex:x=zs[i]:=by
    have z:=hx zs sq;rw[ez] at z;exact (Option.some.inj z).symm
   subst ex;refine⟨⟨_,rfl⟩,?_⟩;simp only[jbU,if_true];exact hs i _ H' (fun y H4=>∃r,y=.ref r/\Same H' H4/\H' r=none/\A3 H4 r (f i)) ez A.1 fun r H4 s4 nr er=>⟨r,rfl,s4,nr,er⟩
 ·have:i=zs.length:=by omega
  subst this;obtain⟨g1,g2,ps,rfl,hl,hm,hp⟩:=A;exact .inl ⟨⟨zs,sq,xam _⟩,hd ps H g1 g2 hm fun p h=>(hp p h).1⟩
def Mk (σ:L2.St) (te:TE) (φ:V->Hp->Prop):Prop:=∀H R,(∀v H',Same H H'->φ v H'->R v H')->te σ H R
def MkA (σ:L2.St) (ta:TA) (φ:List V->Hp->Prop):Prop:=∀H R,(∀v H',Same H H'->φ v H'->R v H')->ta σ H R
inductive PrI (H:Hp):List Addr->List (Int × Int)->Prop
 | nil:PrI H [] []
 | cons {r:Addr} {p:Int × Int} {rs:List Addr} {ps:List (Int × Int)}:H r=some (.tup [.int p.1,.int p.2])->PrI H rs ps->PrI H (r::rs) (p::ps)
theorem PrI.len {rs:List Addr} {ps:List (Int × Int)} (h:PrI H rs ps):rs.length=ps.length:=by
 induction h with
 | nil=>rfl
 | cons _ _ ih=>rw[xaB,xaB,ih]
theorem PrI.keep {rs:List Addr} {ps:List (Int × Int)} (h:PrI H rs ps) (s:SameT H H'):PrI H' rs ps:=by
 induction h with
 | nil=>exact .nil
 | cons e _ ih=>exact .cons (s _ _ e) ih
def IsP (p:Int × Int) (v:V) (H:Hp):Prop:=∃r,v=.ref r/\H r=some (.tup [.int p.1,.int p.2])
def RowA (ps:List (Int × Int)) (vs:List V) (H:Hp):Prop:=∃rs:List Addr,vs=rs.map V.ref/\PrI H rs ps
def IsL (ps:List (Int × Int)) (v:V) (H:Hp):Prop:=∃(l:Addr) (rs:List Addr),v=.ref l/\H l=some (.lst (rs.map V.ref))/\PrI H rs ps
def TabA:List (List (Int × Int))->List V->Hp->Prop
 | [],vs,_=>vs=[]
 | ps::pss,vs,H=>∃v ws,vs=v::ws/\IsL ps v H/\TabA pss ws H
theorem PrI.at :∀{rs:List Addr} {ps:List (Int × Int)},PrI H rs ps->∀{i:Nat},i<rs.length->∃p:Int × Int,(rs.map V.ref)[i]?=some (.ref (ad rs i))/\H (ad rs i)=some (.tup [.int p.1,.int p.2])/\tr (ps.map fun p=>(⟨p.1,p.2,1⟩:Tri)) i=⟨p.1,p.2,1⟩
  | _,_,.cons (p:=p) h _,0,_=>⟨p,rfl,h,rfl⟩
  | _, _, .cons _ t, i + 1, hi => by
    obtain⟨p,h1,h2,h3⟩:=t.at (xb8 hi);exact⟨p,h1,h2,h3⟩
theorem IsL.keep {ps:List (Int × Int)} {v:V} (h:IsL ps v H) (s:Same H H'):IsL ps v H':=by
 obtain⟨l,rs,rfl,h1,h2⟩:=h;exact⟨l,rs,rfl,s _ _ h1,h2.keep s.t⟩
theorem TabA.len:∀{pss:List (List (Int × Int))} {vs:List V} {H:Hp},TabA pss vs H->vs.length=pss.length
 | [],_,_,h=>by cases h;rfl
 | _::_,_,_,⟨_,_,e,_,h⟩=>by rw[e,xaB,xaB,h.len]
theorem TabA.keep:∀{pss:List (List (Int × Int))} {vs:List V} {H H':Hp},TabA pss vs H->Same H H'->TabA pss vs H'
 | [],_,_,_,h,_=>h
 | _::_,_,_,_,⟨v,ws,e,h1,h⟩,s=>⟨v,ws,e,h1.keep s,h.keep s⟩
theorem TabA.get:∀{pss:List (List (Int × Int))} {vs:List V} {H:Hp} {i:Nat},TabA pss vs H->i<pss.length->∃v,vs[i]?=some v/\IsL (pss.getD i []) v H
  | _::_,_,_,0,⟨v,ws,e,h1,_⟩,_=>⟨v,by rw[e];rfl,h1⟩
  | _ :: _, _, _, i + 1, ⟨v, ws, e, _, h⟩, hi => by
    obtain⟨u,h1,h2⟩:=h.get (i:=i) (xb8 hi);exact⟨u,by rw[e];exact h1,h2⟩
def MkI (σ:L2.St) (te:TE) (a:Int):Prop:=∀H R,R (.int a) H->te σ H R
theorem mk_c :MkI σ (tC (.int a)) a:=fun _ _ h=>h
theorem mk_u :MkI σ (tUn (rU fun i=>V.int (-i)) (tC (.int a))) (-a):=fun _ _ h=>⟨a,rfl,h⟩
theorem jnT {ta tb:TE} {b:Int} (ha:MkI σ ta a) (hb:MkI σ tb b):Mk σ (jmT (jbF ta (jbF tb jgU))) (IsP (a,b)):=fun H R q =>
 ha _ _ (hb _ _ ⟨xbb (jaS (show 2<1000 by decide)),fun p hp=>q _ _ (Same.new hp _) ⟨p,rfl,jam⟩⟩)
theorem jlw :MkA σ jgU (RowA []):=fun H R q=>q _ _ (fun _ _ z=>z) ⟨[],rfl,.nil⟩
variable {ta:TA}
theorem jkq {p:Int × Int} {ps:List (Int × Int)} (h:Mk σ te (IsP p)) (k:MkA σ ta (RowA ps)):MkA σ (jbF te ta) (RowA (p::ps)):=fun H R q=>h H _ fun v H1 s1 ⟨r,e,hr⟩=>k H1 _ fun ws H2 s2 ⟨rs,e',hs⟩=>q _ _ (s1.trans s2) ⟨r::rs,by rw[e,e'];rfl,.cons (s2 _ _ hr) hs⟩
theorem jpH {ps:List (Int × Int)} (k:MkA σ ta (RowA ps)) (hl:ps.length<1000):Mk σ (jkN ta) (IsL ps):=fun H R q=>k H _ fun vs H1 s1 ⟨rs,e,hs⟩=>by
 subst e;exact⟨xbb (jaS (by rw[xaa,hs.len];exact hl)),fun p hp=>q _ _ (s1.trans (Same.new hp _)) ⟨p,rs,rfl,jam,hs.keep (Same.new hp _).t⟩⟩
theorem jlx :MkA σ jgU (TabA []):=fun H R q=>q _ _ (fun _ _ z=>z) rfl
theorem jkr {ps:List (Int × Int)} {pss:List (List (Int × Int))} (h:Mk σ te (IsL ps)) (k:MkA σ ta (TabA pss)):MkA σ (jbF te ta) (TabA (ps::pss)):=fun H R q=>h H _ fun v H1 s1 hv=>k H1 _ fun ws H2 s2 hs=>q _ _ (s1.trans s2) ⟨v,ws,rfl,hv.keep s2,hs⟩
theorem jpI {pss:List (List (Int × Int))} (k:MkA σ ta (TabA pss)) (hl:pss.length<1000):Mk σ (jkN ta) (fun v H=>∃(l:Addr) (vs:List V),v=.ref l/\H l=some (.lst vs)/\TabA pss vs H):=fun H R q=>k H _ fun vs H1 s1 hs =>
 ⟨xbb (jaS (by rw[hs.len];exact hl)),fun p hp=>q _ _ (s1.trans (Same.new hp _)) ⟨p,vs,rfl,jam,hs.keep (Same.new hp _)⟩⟩
theorem jpJ {r:R2} {tb:TE} {D:Ends} (h:te σ H fun x H1=>tb σ H1 fun y H2=>r x y H2 D.rt):jiM (tOp r te tb) D σ H:=h
def rowsT:List (List (Int × Int)):=[[(0,0),(2,0),(0,2)],[(0,0),(1,0),(0,3)],[(0,0),(2,0),(2,2),(0,2)],[(0,0),(3,0),(2,2),(0,1)],[(0,0),(2,0),(3,1),(2,3),(0,2)],[(1,0),(3,0),(4,2),(3,4),(1,4),(0,2)],[(-1,-1),(2,-1),(-1,2)],[(1,0),(3,0),(4,2),(4,3),(2,4),(0,3),(0,1)],[(1,0),(3,0),(4,1),(4,3),(3,4),(1,4),(0,3),(0,1)]]
inductive spRwi (vs:List V) (H:Hp) (Q:VK):Prop
 | mk (n:Nat) (_:vs=[.int (n:Int)]) (_:n<9) (_:∀(g:Addr) (H':Hp),Same H H'->IsL (rowsT.getD n []) (.ref g) H'->Q (.ref g) H')
def spRw:Sp:=fun vs H Q _=>spRwi vs H Q
theorem ok_rw (T:Tx K mg t1 t2) (F:At K mg "_law_rows" jdK ["number"] []):jak P w K mg base CX0 2 "_law_rows" ["number"] [] spRw:=by
 refine F.okW jeM (fun vs H Q E h=>?_) (fun f cdv A outer s H vs Q E hr h=>?_)
 ·obtain⟨c,rfl,_⟩:=h;rfl
 obtain⟨n,rfl,n9,q⟩:=h;have S:=jeM;refine⟨_,(jmZ (joG (we_ix ix_list (jdu (jah (jdu (jah (jaI (jah ⟨jab⟩ (jah ⟨jab⟩ jaC jai) jai)) (jah (jaI (jah ⟨jab⟩ (jah ⟨jab⟩ jaC jai) jai)) (jah (jaI (jah ⟨jab⟩ (jah ⟨jab⟩ jaC jai) jai)) jaC jaE) jaE) jaE)) (jah (jdu (jah (jaI (jah ⟨jab⟩ (jah ⟨jab⟩ jaC jai) jai)) (jah (jaI (jah ⟨jab⟩ (jah ⟨jab⟩ jaC jai) jai)) (jah (jaI (jah ⟨jab⟩ (jah ⟨jab⟩ jaC jai) jai)) jaC jaE) jaE) jaE)) (jah (jdu (jah (jaI (jah ⟨jab⟩ (jah ⟨jab⟩ jaC jai) jai)) (jah (jaI (jah ⟨jab⟩ (jah ⟨jab⟩ jaC jai) jai)) (jah (jaI (jah ⟨jab⟩ (jah ⟨jab⟩ jaC jai) jai)) (jah (jaI (jah ⟨jab⟩ (jah ⟨jab⟩ jaC jai) jai)) jaC jaE) jaE) jaE) jaE)) (jah (jdu (jah (jaI (jah ⟨jab⟩ (jah ⟨jab⟩ jaC jai) jai)) (jah (jaI (jah ⟨jab⟩ (jah ⟨jab⟩ jaC jai) jai)) (jah (jaI (jah ⟨jab⟩ (jah ⟨jab⟩ jaC jai) jai)) (jah (jaI (jah ⟨jab⟩ (jah ⟨jab⟩ jaC jai) jai)) jaC jaE) jaE) jaE) jaE)) (jah (jdu (jah (jaI (jah ⟨jab⟩ (jah ⟨jab⟩ jaC jai) jai)) (jah (jaI (jah ⟨jab⟩ (jah ⟨jab⟩ jaC jai) jai)) (jah (jaI (jah ⟨jab⟩ (jah ⟨jab⟩ jaC jai) jai)) (jah (jaI (jah ⟨jab⟩ (jah ⟨jab⟩ jaC jai) jai)) (jah (jaI (jah ⟨jab⟩ (jah ⟨jab⟩ jaC jai) jai)) jaC jaE) jaE) jaE) jaE) jaE)) (jah (jdu (jah (jaI (jah ⟨jab⟩ (jah ⟨jab⟩ jaC jai) jai)) (jah (jaI (jah ⟨jab⟩ (jah ⟨jab⟩ jaC jai) jai)) (jah (jaI (jah ⟨jab⟩ (jah ⟨jab⟩ jaC jai) jai)) (jah (jaI (jah ⟨jab⟩ (jah ⟨jab⟩ jaC jai) jai)) (jah (jaI (jah ⟨jab⟩ (jah ⟨jab⟩ jaC jai) jai)) (jah (jaI (jah ⟨jab⟩ (jah ⟨jab⟩ jaC jai) jai)) jaC jaE) jaE) jaE) jaE) jaE) jaE)) (jah (jdu (jah (jaI (jah ⟨(jdV jca jab)⟩ (jah ⟨(jdV jca jab)⟩ jaC jgp) jgp)) (jah (jaI (jah ⟨jab⟩ (jah ⟨(jdV jca jab)⟩ jaC jgp) jai)) (jah (jaI (jah ⟨(jdV jca jab)⟩ (jah ⟨jab⟩ jaC jai) jgp)) jaC jaE) jaE) jaE)) (jah (jdu (jah (jaI (jah ⟨jab⟩ (jah ⟨jab⟩ jaC jai) jai)) (jah (jaI (jah ⟨jab⟩ (jah ⟨jab⟩ jaC jai) jai)) (jah (jaI (jah ⟨jab⟩ (jah ⟨jab⟩ jaC jai) jai)) (jah (jaI (jah ⟨jab⟩ (jah ⟨jab⟩ jaC jai) jai)) (jah (jaI (jah ⟨jab⟩ (jah ⟨jab⟩ jaC jai) jai)) (jah (jaI (jah ⟨jab⟩ (jah ⟨jab⟩ jaC jai) jai)) (jah (jaI (jah ⟨jab⟩ (jah ⟨jab⟩ jaC jai) jai)) jaC jaE) jaE) jaE) jaE) jaE) jaE) jaE)) (jah (jdu (jah (jaI (jah ⟨jab⟩ (jah ⟨jab⟩ jaC jai) jai)) (jah (jaI (jah ⟨jab⟩ (jah ⟨jab⟩ jaC jai) jai)) (jah (jaI (jah ⟨jab⟩ (jah ⟨jab⟩ jaC jai) jai)) (jah (jaI (jah ⟨jab⟩ (jah ⟨jab⟩ jaC jai) jai)) (jah (jaI (jah ⟨jab⟩ (jah ⟨jab⟩ jaC jai) jai)) (jah (jaI (jah ⟨jab⟩ (jah ⟨jab⟩ jaC jai) jai)) (jah (jaI (jah ⟨jab⟩ (jah ⟨jab⟩ jaC jai) jai)) (jah (jaI (jah ⟨jab⟩ (jah ⟨jab⟩ jaC jai) jai)) jaC jaE) jaE) jaE) jaE) jaE) jaE) jaE) jaE)) jaC jbu) jbu) jbu) jbu) jbu) jbu) jbu) jbu) jbu)) (pv 0) (fun _ _=>rfl)))),?_⟩;refine jpJ ?_;refine jpI (pss:=rowsT) ?_ (by decide) _ _ fun v J2 s2 hv=>?_
 ·unfold rowsT
  repeat first
   | exact jlx
   | refine jkr (jpH ?_ (by decide)) ?_
   | exact jlw
   | refine jkq (jnT (by first | exact mk_c | exact mk_u) (by first | exact mk_c | exact mk_u)) ?_
 obtain⟨l,vs,rfl,hl,hT⟩:=hv;obtain⟨v,e,l',rs,rfl,h1,h2⟩:=hT.get (i:=n) n9;exact⟨_,rfl,ixL (SqL.of hl) (v:=.ref l') (ja5 e) (q l' J2 s2 ⟨l',rs,rfl,h1,h2⟩)⟩
def jek (n:Nat):List Tri:=(rowsT.getD n []).map fun p=>⟨p.1,p.2,1⟩
theorem jds:∀n,n<9->3<=(jek n).length/\(jek n).length<=8:=by decide +kernel
def tpB (vs:List Tri):Bool:=(List.range 8).all fun i=>(List.range 8).all fun j=>(List.range 8).all fun k=>!(decide (i<j)&&decide (j<k)&&decide (k<vs.length))||decide (0<dt (tr vs i) (tr vs j) (tr vs k))
theorem jmr (h:tpB vs=true) {k:Nat} (hi:i<8) (hj:j<8) (hk:k<8) (ij:i<j) (jk:j<k) (kl:k<vs.length):0<dt (tr vs i) (tr vs j) (tr vs k):=by
 unfold tpB at h;have h:=xbW.mp (xbW.mp (xbW.mp h i (xaH.mpr hi)) j (xaH.mpr hj)) k (xaH.mpr hk);simp [ij,jk,kl] at h;exact h
theorem jnU:∀n,n<9->tpB (jek n)=true:=by decide +kernel
theorem jnV:∀n,n<9->∀i,i<8->(jek n).length<=i\/((-4<=(tr (jek n) i).x/\(tr (jek n) i).x<=4)/\(-4<=(tr (jek n) i).y/\(tr (jek n) i).y<=4)/\(tr (jek n) i).z=1):=by decide +kernel
theorem jfO (h:n<9) (hv:v∈jek n):(-4<=v.x/\v.x<=4)/\(-4<=v.y/\v.y<=4)/\v.z=1:=by
 obtain⟨i,hi,rfl⟩:=jeh hv;exact (jnV n h i (by have:=(jds n h).2;omega)).resolve_left (by omega)
theorem jly (h:n<9):Rng (jek n):=by
 obtain⟨a,b⟩:=jds n h;refine⟨a,fun i j k ij jk kl=>jmr (jnU n h) (by omega) (by omega) (by omega) ij jk kl,fun v hv=>?_⟩;have:=(jfO h hv).2.2;omega
def tc (u:Tri) (k:Nat):Int:=if k=0 then u.x else if k=1 then u.y else u.z
theorem at3 {u:Tri} {k:Nat} (h:k<3):atI [V.int u.x,V.int u.y,V.int u.z] (0+(k:Int))=some (V.int (tc u k)):=by
 obtain rfl | rfl | rfl:=lt3 h<;>rfl
theorem jlz {u:Tri} {d:Int} (h:u.le d) (k:Nat):-d<=tc u k/\tc u k<=d:=by
 unfold tc;split
 ·exact h.1
 ·split
  ·exact h.2.1
  ·exact h.2.2
def crn (Z:Sht) (v:Tri):Tri:=⟨Z.s.x+v.x*Z.c.x+v.y*Z.d.x,Z.s.y+v.x*Z.c.y+v.y*Z.d.y,Z.s.z+v.x*Z.c.z+v.y*Z.d.z⟩
def CnL (K:PySem.W.Frag) (H:Hp) (g:Addr) (Z:Sht) (vs:List Tri):Prop:=∃ps:List (Addr × Tri),SqL K H g ((ps.map Prod.fst).map V.ref)/\Prd K H ps/\ps.map Prod.snd=vs.map (crn Z)
structure ShB (d:Int) (Z:Sht):Prop where
 s:Z.s.le d
 c:Z.c.le d
 d:Z.d.le d
 w:Z.w=1
 nz:Z.u.nz
inductive spCoi (K:PySem.W.Frag) (us:List V) (H:Hp) (Q:VK):Prop
 | mk (L:Addr) (d:Int) (_:us=[.ref L,.int d]) (_:Purs H L) (_:4<=d) (_:d<=1000000) (_:∀(g:Addr) (H':Hp) (Z:Sht) (n:Nat),SameB L H H'->Purs H' L->CnL K H' g Z (jek n)->n<9->ShB d Z->Q (.ref g) H')
def spCo (K:PySem.W.Frag):Sp:=fun us H Q _=>spCoi K us H Q
theorem ok_co (T:Tx K mg t1 t2) (F:At K mg "_law_corners" jch ["purse","wide"] []) (dh:jak P w K mg base CX0 3 "_law_arrow" ["purse","wide"] [] jpF) (DF:jak P w K mg base CX0 4 "_law_sides" ["purse","wide"] [] spSi) (db:jak P w K mg base CX0 2 "_law_take" ["purse","many"] [] jdm) (DM:jak P w K mg base CX0 2 "_law_rows" ["number"] [] spRw):jak P w K mg base CX0 5 "_law_corners" ["purse","wide"] [] (spCo K):=by
 refine F.ok jdf (by walk_at "ar") (fun f cdv A outer s H vs Q E hr h=>?_);obtain⟨L,d,rfl,pL,d1,d2,q⟩:=h;have S:=jdf;refine⟨_,(jaf (jar (i:=2) S.nd rfl (Or.inr rfl) (jae dh hr.m rfl jao (jaa (pv 0) (jaa (pv 1) jad jac) jac)))
  (jaf (jiZ (jae DF hr.m rfl jao (jaa (pv 0) (jaa (jaz (jdY rfl) rfl T.m_max boot_max (jaa jab (jaa (jap jby (pv 1) jab) jad jbc) jai)) jad jaB) jac)) (jiY rfl (jbx (jau (i:=3) S.nd rfl (Or.inr rfl)) (jbx (jau (i:=4) S.nd rfl (Or.inr rfl)) jfb))))
  (jag (jan (jfm rfl (N':=["i","j","base","one","other"]) (ix:=[2,3,4]) (xs0:=["i","j"]) (by walk_at "cs") (jba (jae DM hr.m rfl jao (jaa (jae db hr.m rfl jao (jaa (pv 0) (jaa jab jad jai) jac)) jad jaB))) (fun _ _ _ _=>jhz (K:=K) (n:=2) rfl rfl (jbx (jau (i:=0) (show (["i","j","base","one","other"]:List Str).Nodup from by decide +kernel) rfl (Or.inr rfl)) (jbx (jau (i:=1) (show (["i","j","base","one","other"]:List Str).Nodup from by decide +kernel) rfl (Or.inr rfl)) jfb))) (fun _ _ _ _=>jaK) (fun _ _ _ _=>(jaF rfl (N':=["k","base","i","one","j","other"]) (ix:=[2,0,3,1,4]) (CompScopeC.nest rfl rfl (by decide +kernel) (by decide +kernel) (by decide +kernel) (show ∀y:Str × NameKind,y∈_->y.2=NameKind.free->y.1∈(["base","i","one","j","other"]:List Str) from by decide +kernel) (.cons rfl (.inl rfl) rfl (.cons rfl (.inl rfl) rfl (.cons rfl (.inl rfl) rfl (.cons rfl (.inl rfl) rfl (.cons rfl (.inl rfl) rfl .nil)))))) (jaH rfl T.m_range (jaa jab jad jai)) (fun _ _ _ _=>jau (i:=0) (show (["k","base","i","one","j","other"]:List Str).Nodup from by decide +kernel) rfl (Or.inl rfl)) (fun _ _ _ _=>jaK) (fun _ _ _ _=>(jap jaP (jap jaP (jal (jaL (K:=K) rfl) (pv 1) (pv 0)) (jap jas (pv 2) (jal (jaL (K:=K) rfl) (pv 3) (pv 0)))) (jap jas (pv 4) (jal (jaL (K:=K) rfl) (pv 5) (pv 0)))))))))))),?_⟩
 walk_at "rf";refine⟨L,d,rfl,pL,by omega,by omega,fun a H1 u s1 p1 na aL ea lu=>?_⟩;refine⟨by decide,Bd.fit (n:=10) (by unfold Bd;decide),L,_,rfl,p1,by split<;>omega,by split<;>omega,fun g b c H2 o oo s2 p2 eg bL cL eb ec lb lc nz=>?_⟩;refine⟨g,rfl,_,SqT.of eg,rfl,_,_,rfl,_,_,rfl,rfl,?_⟩;refine⟨L,9,rfl,p2,by decide,by decide,fun H3 k s3 p3 k0 k9=>?_⟩;obtain⟨n,rfl⟩:=Int.eq_ofNat_of_zero_le k0;have n9:n<9:=by omega
 refine⟨n,rfl,n9,fun l H4 s4 hl=>?_⟩;obtain⟨l',rs,e,hl',hp⟩:=hl;cases e;refine⟨l,rfl,⟨_,SqL.of hl'⟩,fun acc hacc=>?_⟩;have ea4:A3 H4 a u:=s4 _ _ (s3 _ _ aL (s2 _ _ aL ea));have eb4:A3 H4 b o:=s4 _ _ (s3 _ _ bL eb);have ec4:A3 H4 c oo:=s4 _ _ (s3 _ _ cL ec);have lr:rs.length=(rowsT.getD n []).length:=hp.len;have lv:(jek n).length=rs.length:=by rw[lr];exact xaa _
 have l8:=(jds n n9).2;have ld:(if d / 2>2 then d / 2 else 2)<=d:=by split<;>omega
 have hp4:=hp;refine jnS (fun i=>crn ⟨u,1,o,oo⟩ (tr (jek n) i)) (by rw[xaa];omega) hacc (SqL.of hl') (fun i z v0 H5 R hz l0 s5 hR=>?_) (fun ps H5 s5 e5 pm py=>?_) ?_
 ·have hi:i<rs.length:=by have:=(xae.mp hz).1;rwa [xaa] at this
  obtain⟨pr,h1,h2,h3⟩:=hp.at hi;rw[h1] at hz;cases hz;obtain⟨v1,v2,rfl⟩:∃a b,v0=[a,b]:=match v0,l0 with | [a,b],_=>⟨a,b,rfl⟩
  have hv:=jfO n9 (jaJ (show i<(jek n).length by omega));have ev:tr (jek n) i=⟨pr.1,pr.2,1⟩:=h3;walk_at "rf";refine⟨_,SqT.of (s5 _ _ h2),rfl,_,_,rfl,_,_,rfl,rfl,⟨[_,_],rfl,rfl⟩,by decide,by decide,fun acc' hacc'=>?_⟩;refine jfk (n:=3) (fun k=>.int (tc (crn ⟨u,1,o,oo⟩ (tr (jek n) i)) k)) (by decide) hacc' (fun k H6 R6 hk s6 hR6=>?_) (fun H6 s6 e6=>hR acc' H6 s6 hacc' e6);have s56:=s5.trans s6;have qa:=A3.l3 (K:=K) (s56 _ _ ea4);have qb:=A3.l3 (K:=K) (s56 _ _ eb4);have qc:=A3.l3 (K:=K) (s56 _ _ ec4);unfold L3 at qa qb qc;rw[ev] at hv;simp only at hv;have tb:=jlz (ja2 lb ld) k;have td:=jlz (ja2 lc ld) k;walk_at "rf";refine ixL qa (at3 hk) (ixL qb (at3 hk) ⟨_,rfl,Bd.fit (n:=10) (by unfold Bd;omega),Bd.fit (n:=40) (by unfold Bd;omega),_,rfl,ixL qc (at3 hk) ⟨_,rfl,Bd.fit (n:=10) (by unfold Bd;omega),Bd.fit (n:=40) (by unfold Bd;omega),?_⟩⟩);have:=hR6 _ (fun _ _ h=>h);rw[ev] at this;obtain rfl | rfl | rfl:=lt3 hk<;>exact this
 ·have e1:ps.map Prod.snd=(jek n).map (crn ⟨u,1,o,oo⟩):=by
   rw[pm,xaa,<- lv];refine xcf (by simp) fun j h1 h2=>?_;have hj:j<(jek n).length:=by simpa using h1
   simp;rw[show (jek n)[j]=tr (jek n) j by unfold tr;rw[xac,xad hj];rfl]
  refine q acc H5 ⟨u,1,o,oo⟩ n (s1.trans (s2.trans (s3.trans (s4.b.trans s5.b)))) (p3.keep (s4.trans s5)) ⟨ps,SqL.of e5,fun p hp=>A3.l3 (py p hp),e1⟩ n9 ⟨lu,ja2 lb ld,ja2 lc ld,rfl,nz⟩
 ·intro z σ H A B hAB h;obtain⟨p,xs,h1,h2,h3,h4⟩:=h;refine⟨p,xs,h1,h2,h3,?_⟩;obtain⟨v,r,e1,v',r',e2,e3,h5⟩:=h4;exact⟨v,r,e1,v',r',e2,e3,hAB _ _ h5⟩
def ja6 (p o:Pt):Tri:=⟨o.x*p.w-p.x*o.w,o.y*p.w-p.y*o.w,o.z*p.w-p.z*o.w⟩
inductive spArmi (vs:List V) (H:Hp) (Q:VK):Prop
 | mk (a b:Addr) (p o:Pt) (_:vs=[.ref a,.ref b]) (_:Is4 H a p) (_:Is4 H b o) (_:∀(g:Addr) (H':Hp),Same H H'->H g=none->A3 H' g (ja6 p o)->Q (.ref g) H')
def jks:Sp:=fun vs H Q _=>spArmi vs H Q
theorem jpK (T:Tx K mg t1 t2) (F:At K mg "_law_arm" jey ["one","other"] []):jak P w K mg base CX0 2 "_law_arm" ["one","other"] [] jks:=by
 refine F.ok jfE (by walk_at "ar") (fun f cdv A outer s H vs Q E hr h=>?_);obtain⟨a,b,p,o,rfl,ha,hb,q⟩:=h;have S:=jfE;refine⟨_,(jag (jan (jaF rfl (N':=["k","other","one"]) (ix:=[1,0]) (by walk_at "cs") (jaH rfl T.m_range (jaa jab jad jai)) (fun _ _ _ _=>jau (i:=0) (show (["k","other","one"]:List Str).Nodup from by decide +kernel) rfl (Or.inl rfl)) (fun _ _ _ _=>jaK) (fun _ _ _ _=>(jap jaW (jap jas (jal (jaZ (K:=K) rfl) (pv 1) (pv 0)) (jal (jaZ (K:=K) rfl) (pv 2) jab)) (jap jas (jal (jaZ (K:=K) rfl) (pv 2) (pv 0)) (jal (jaZ (K:=K) rfl) (pv 1) jab))))))),?_⟩;walk_at "rf";refine⟨by decide,by decide,fun acc hacc=>?_⟩;refine jfk (n:=3) (fun k=>.int (tc (ja6 p o) k)) (by decide) hacc (fun k H6 R6 hk s6 hR6=>?_) (fun H6 s6 e6=>q acc H6 s6 hacc e6);have ka:=(ha.keep s6).sq (K:=K);have kb:=(hb.keep s6).sq (K:=K);have:=hR6 _ (fun _ _ h=>h);walk_at "rf";obtain rfl | rfl | rfl:=lt3 hk
 ·exact ixT kb rfl (ixT ka rfl ⟨_,rfl,_,rfl,hb.2.fx,ha.2.fw,ixT ka rfl (ixT kb rfl ⟨_,rfl,_,rfl,ha.2.fx,hb.2.fw,this⟩)⟩)
 ·exact ixT kb rfl (ixT ka rfl ⟨_,rfl,_,rfl,hb.2.fy,ha.2.fw,ixT ka rfl (ixT kb rfl ⟨_,rfl,_,rfl,ha.2.fy,hb.2.fw,this⟩)⟩)
 ·exact ixT kb rfl (ixT ka rfl ⟨_,rfl,_,rfl,hb.2.fz,ha.2.fw,ixT ka rfl (ixT kb rfl ⟨_,rfl,_,rfl,ha.2.fz,hb.2.fw,this⟩)⟩)
def BM (H:Hp) (b:Addr) (ps:List Pt):Prop:=∃rs:List Addr,H b=some (.tup (rs.map V.ref))/\Sps H rs ps
theorem BM.keep {b:Addr} (h:BM H b ps) (s:Same H H'):BM H' b ps :=
 let ⟨rs,a,c⟩:=h
 ⟨rs,s _ _ a,c.keep s.t⟩
theorem BM.at {b:Addr} (h:BM H b ps) (hi:i<ps.length):∃(rs:List Addr) (r:Addr),SqT K H b (rs.map V.ref)/\atI (rs.map V.ref) (i:Int)=some (.ref r)/\Is4 H r (pt ps i) :=
 let ⟨rs,a,c⟩:=h
 ⟨rs,_,SqT.of a,ja5 (c.get hi).1,(c.get hi).2⟩
theorem jei {o:Pt} (hp:p.bd n) (ho:o.bd n):(ja6 p o).bd (n+n+1):=⟨Bd.sub (Bd.mul ho.1 hp.2.2.2) (Bd.mul hp.1 ho.2.2.2),Bd.sub (Bd.mul ho.2.1 hp.2.2.2) (Bd.mul hp.2.1 ho.2.2.2),Bd.sub (Bd.mul ho.2.2.1 hp.2.2.2) (Bd.mul hp.2.2.1 ho.2.2.2)⟩
theorem jdn {m:Nat} {o:Pt} (hp:p.bd n) (ho:o.bd m):(ja6 p o).bd (m+n+1):=⟨Bd.sub (Bd.mul ho.1 hp.2.2.2) (Bd.mono (n:=n+m) (Bd.mul hp.1 ho.2.2.2) (by omega)),Bd.sub (Bd.mul ho.2.1 hp.2.2.2) (Bd.mono (n:=n+m) (Bd.mul hp.2.1 ho.2.2.2) (by omega)),Bd.sub (Bd.mul ho.2.2.1 hp.2.2.2) (Bd.mono (n:=n+m) (Bd.mul hp.2.2.1 ho.2.2.2) (by omega))⟩
theorem jnW {m:Nat} {u:Tri} (hu:u.bd n) (hv:v.bd m):(cr3 u v).bd (n+m+1):=⟨Bd.sub (Bd.mul hu.2.1 hv.2.2) (Bd.mul hu.2.2 hv.2.1),Bd.sub (Bd.mul hu.2.2 hv.1) (Bd.mul hu.1 hv.2.2),Bd.sub (Bd.mul hu.1 hv.2.1) (Bd.mul hu.2.1 hv.1)⟩
def upr (ps:List Pt):Tri:=cr3 (ja6 (pt ps 0) (pt ps 1)) (ja6 (pt ps 0) (pt ps 2))
inductive spUpri (vs:List V) (H:Hp) (Q:VK):Prop
 | mk (b:Addr) (ps:List Pt) (_:vs=[.ref b]) (_:BM H b ps) (_:3<=ps.length) (_:(∀p∈ps,p.bd 100)) (_:∀(g:Addr) (H':Hp),Same H H'->A3 H' g (upr ps)->Q (.ref g) H')
def jnX:Sp:=fun vs H Q _=>spUpri vs H Q
theorem jpL (T:Tx K mg t1 t2) (F:At K mg "_law_upright" jci ["board"] []) (df:jak P w K mg base CX0 2 "_law_arm" ["one","other"] [] jks) (dg:jak P w K mg base CX0 2 "_law_cross" ["one","other"] [] (jhm K)):jak P w K mg base CX0 3 "_law_upright" ["board"] [] jnX:=by
 refine F.ok jdg (by walk_at "ar") (fun f cdv A outer s H vs Q E hr h=>?_);obtain⟨b,ps,rfl,hb,n3,bd,q⟩:=h;have S:=jdg;refine⟨_,(jag (jan (jae dg hr.m rfl jao (jaa (jae df hr.m rfl jao (jaa (jal jaq (pv 0) jab) (jaa (jal jaq (pv 0) jab) jad jav) jav)) (jaa (jae df hr.m rfl jao (jaa (jal jaq (pv 0) jab) (jaa (jal jaq (pv 0) jab) jad jav) jav)) jad jaB) jaB)))),?_⟩;have b0:=bd _ (jaD (l:=ps) (i:=0) (by omega));have b1:=bd _ (jaD (l:=ps) (i:=1) (by omega));have b2:=bd _ (jaD (l:=ps) (i:=2) (by omega));obtain⟨rs0,r0,k0,e0,h0⟩:=hb.at (K:=K) (i:=0) (by omega);obtain⟨rs1,r1,k1,e1,h1⟩:=hb.at (K:=K) (i:=1) (by omega);walk_at "rf";refine ixT k0 e0 (ixT k1 e1 ⟨r0,r1,_,_,rfl,h0,h1,fun g H1 s1 ng eg=>?_⟩);obtain⟨rs2,r2,k2,e2,h2⟩:=(hb.keep s1).at (K:=K) (i:=0) (by omega);obtain⟨rs3,r3,k3,e3,h3⟩:=(hb.keep s1).at (K:=K) (i:=2) (by omega);refine ixT k2 e2 (ixT k3 e3 ⟨r2,r3,_,_,rfl,h2,h3,fun g2 H2 s2 ng2 eg2=>?_⟩);exact⟨g,g2,_,_,rfl,A3.l3 (s2 _ _ eg),A3.l3 eg2,Bd3.mono (jei b0 b1) (by decide),Bd3.mono (jei b0 b2) (by decide),fun g3 H3 n3 s3 e3=>q g3 H3 (s1.trans (s2.trans s3)) e3⟩
def jge (u v:Tri):Int:=u.x*v.x+u.y*v.y+u.z*v.z
def hov (ps:List Pt) (s:Pt):Int:=jge (upr ps) (ja6 (pt ps 0) s)
inductive spHovi (vs:List V) (H:Hp) (Q:VK):Prop
 | mk (b e:Addr) (ps:List Pt) (o:Pt) (_:vs=[.ref b,.ref e]) (_:BM H b ps) (_:Is4 H e o) (_:3<=ps.length) (_:(∀p∈ps,p.bd 100)) (_:o.bd 900) (_:∀H':Hp,Same H H'->Q (.int (hov ps o)) H')
def jnY:Sp:=fun vs H Q _=>spHovi vs H Q
theorem jpM (T:Tx K mg t1 t2) (F:At K mg "_law_height" jcC ["board","spot"] []) (dQ:jak P w K mg base CX0 3 "_law_upright" ["board"] [] jnX) (df:jak P w K mg base CX0 2 "_law_arm" ["one","other"] [] jks) (du:jak P w K mg base CX0 2 "_law_dot" ["one","other"] [] (jko K)):jak P w K mg base CX0 4 "_law_height" ["board","spot"] [] jnY:=by
 refine F.ok jdC (by walk_at "ar") (fun f cdv A outer s H vs Q E hr h=>?_);obtain⟨b,e,ps,o,rfl,hb,he,n3,bd,bo,q⟩:=h;have S:=jdC;refine⟨_,(jag (jan (jae du hr.m rfl jao (jaa (jae dQ hr.m rfl jao (jaa (pv 0) jad jac)) (jaa (jae df hr.m rfl jao (jaa (jal jaq (pv 0) jab) (jaa (pv 1) jad jac) jav)) jad jaB) jaB)))),?_⟩;have b0:=bd _ (jaD (l:=ps) (i:=0) (by omega));have b1:=bd _ (jaD (l:=ps) (i:=1) (by omega));have b2:=bd _ (jaD (l:=ps) (i:=2) (by omega));walk_at "rf";refine⟨b,ps,rfl,hb,n3,bd,fun g H1 s1 eg=>?_⟩;obtain⟨rs0,r0,k0,e0,h0⟩:=(hb.keep s1).at (K:=K) (i:=0) (by omega);refine ixT k0 e0 ⟨r0,e,_,_,rfl,h0,he.keep s1,fun g2 H2 s2 ng2 eg2=>?_⟩;exact⟨g,g2,_,_,rfl,(A3.l3 (s2 _ _ eg)).d,(A3.l3 eg2).d,Bd3.mono (jnW (jei b0 b1) (jei b0 b2)) (by decide),Bd3.mono (jdn b0 bo) (by decide),q _ (s1.trans s2)⟩
inductive spFri (vs:List V) (H:Hp) (Q:VK):Prop
 | mk (l e a b:Addr) (ps qs:List Pt) (o:Pt) (_:vs=[.ref l,.ref e]) (_:H l=some (.lst [.ref a,.ref b])) (_:BM H a ps) (_:BM H b qs) (_:Is4 H e o) (_:3<=ps.length) (_:3<=qs.length) (_:(∀p∈ps,p.bd 100)) (_:(∀p∈qs,p.bd 100)) (_:o.bd 900) (_:∀(g:Addr) (H':Hp) (ks:List Int),Same H H'->H' g=some (.lst (ks.map V.int))->(ks=[]↔hov ps o≠0/\hov qs o≠0)->Q (.ref g) H')
def spFr:Sp:=fun vs H Q _=>spFri vs H Q
theorem ok_fr (T:Tx K mg t1 t2) (F:At K mg "_law_free" jdO ["boards","spot"] []) (dU:jak P w K mg base CX0 4 "_law_height" ["board","spot"] [] jnY):jak P w K mg base CX0 5 "_law_free" ["boards","spot"] [] spFr:=by
 refine F.ok jeQ (by walk_at "ar") (fun f cdv A outer s H vs Q E hr h=>?_);obtain⟨l,e,a,b,ps,qs,o,rfl,hl,ha,hb,he,n3,m3,bp,bq,bo,q⟩:=h;have S:=jeQ;refine⟨_,(jag (jan (jaF rfl (N':=["k","boards","spot"]) (ix:=[0,1]) (by walk_at "cs") (jaH rfl T.m_range (jaa (jaz jaQ rfl T.m_len PySem.boot_len (jaa (pv 0) jad jac)) jad jaB)) (fun _ _ _ _=>jau (i:=0) (show (["k","boards","spot"]:List Str).Nodup from by decide +kernel) rfl (Or.inl rfl)) (fun _ _ _ _=>(jgm (jat jcm (jae dU hr.m rfl jao (jaa (jal (jaL (K:=K) rfl) (pv 1) (pv 0)) (jaa (pv 2) jad jac) jav)) jab (jaw _)))) (fun _ _ _ _=>(pv 0))))),?_⟩;walk_at "rf";refine⟨_,.inl (SqL.of hl),show -2^62<=(2:Int) by decide,show (2:Int)<2^62 by decide,fun acc hacc=>?_⟩;refine jjo (n:=2) (fun i=>.int (0+(i:Int))) (fun i=>decide (hov (if i=0 then ps else qs) o=0)) (by decide) hacc (fun i H3 R hi s3 hR=>?_) (fun i H3 R hi _ s3 hR=>⟨_,rfl,hR _ (fun _ _ h=>h)⟩) (fun H' s' e'=>?_)
 ·have kl:SqL K H3 l [.ref a,.ref b]:=SqL.of (s3 _ _ hl);have i2:i=0\/i=1:=by omega
  walk_at "rf";rcases i2 with rfl | rfl
  ·refine ixL kl rfl ⟨a,e,ps,o,rfl,ha.keep s3,he.keep s3,n3,bp,bo,fun H4 s4=>?_⟩;have:=hR _ s4;walk_at "rf";exact this
  ·refine ixL kl rfl ⟨b,e,qs,o,rfl,hb.keep s3,he.keep s3,m3,bq,bo,fun H4 s4=>?_⟩;have:=hR _ s4;walk_at "rf";exact this
 ·refine q acc H' (((List.range 2).filter fun i=>decide (hov (if i=0 then ps else qs) o=0)).map fun i:Nat=>(0+(i:Int))) s' (by rw[e',xbK];rfl) ?_;rw[List.map_eq_nil_iff,List.filter_eq_nil_iff];constructor
  ·intro h;exact⟨fun z=>h 0 (by decide) (decide_eq_true z),fun z=>h 1 (by decide) (decide_eq_true z)⟩
  ·rintro⟨h1,h2⟩ i hi z;have z':=of_decide_eq_true z;have:i<2:=xaH.mp hi;have i2:i=0\/i=1:=by omega
   rcases i2 with rfl | rfl
   ·exact h1 z'
   ·exact h2 z'
inductive spSgi (vs:List V) (H:Hp) (Q:VK):Prop
 | mk (n:Int) (_:vs=[.int n]) (_:Q (.int (sgn n)) H)
def spSg:Sp:=fun vs H Q _=>spSgi vs H Q
theorem ok_sg (T:Tx K mg t1 t2) (F:At K mg "_law_sign" jdP ["number"] []):jak P w K mg base CX0 2 "_law_sign" ["number"] [] spSg:=by
 refine F.ok jeR (by walk_at "ar") (fun f cdv A outer s H vs Q E hr h=>?_);obtain⟨n,rfl,q⟩:=h;have S:=jeR;refine⟨_,(jag (jan (jap jaW (ja8 jgT rfl T.m_int boot_int (jaa (jbp jhu (pv 0) jab (jaw _)) jad jjq)) (ja8 jgT rfl T.m_int boot_int (jaa (jbp jdW (pv 0) jab (jaw _)) jad jjq))))),?_⟩;walk_at "rf";have e:((if 0<n then 1 else 0)-if n<0 then 1 else 0)=sgn n:=by
  unfold sgn;split<;>split<;>(try split)<;>omega
 rw[e];exact q
inductive spFouri (vs:List V) (H:Hp) (Q:VK):Prop
 | mk (a:Addr) (p:Pt) (_:vs=[.ref a]) (_:Is4 H a p) (_:∀H':Hp,Same H H'->Q (.bl (decide (gl [p.x,p.y,p.z,p.w]=1))) H')
def jkt:Sp:=fun vs H Q _=>spFouri vs H Q
theorem jnZ (T:Tx K mg t1 t2) (F:At K mg "_law_four" jdQ ["found"] []) (DD:jak P w K mg base CX0 2 "_law_whole" ["found"] [] jjA) (dz:jak P w K mg base CX0 2 "_law_divisor" ["one","other"] [] jnP):jak P w K mg base CX0 3 "_law_four" ["found"] [] jkt:=by
 refine F.ok jeS (by walk_at "ar") (fun f cdv A outer s H vs Q E hr h=>?_);obtain⟨a,p,rfl,ha,q⟩:=h;have S:=jeS;refine⟨_,(jaf (jaM (PW.pt (jfS (jcR (jbO (jaz jct rfl T.m_isinstance boot_isinstance (jaa (pv 0) (jaa (jgk (v:=.ty "tuple") rfl T.m_tuple boot_tuple rfl) jad jac) jac)))) (jfS (jat jcT (jaz jaQ rfl T.m_len PySem.boot_len (jaa (pv 0) jad jac)) jab (jaw _)) (je8 (jcR (jbO (jaz (jfT rfl) rfl T.m_all boot_all (jaa (jaF rfl (N':=["number"]) (ix:=[]) (by walk_at "cs") (jbT (pv 0)) (fun _ _ _ _=>jau (i:=0) (show (["number"]:List Str).Nodup from by decide +kernel) rfl (Or.inl rfl)) (fun _ _ _ _=>jaK) (fun _ _ _ _=>(jae DD hr.m rfl jao (jaa (pv 0) jad jac)))) jad jcn))))))))
  (jag (jan jbz))
  jax)
  (jag (jan (jbp jcm (jae dz hr.m rfl jao (jaa (jae dz hr.m rfl jao (jaa (jal jaq (pv 0) jab) (jaa (jal jaq (pv 0) jab) jad jav) jav)) (jaa (jae dz hr.m rfl jao (jaa (jal jaq (pv 0) jab) (jaa (jal jaq (pv 0) jab) jad jav) jav)) jad jaB) jaB)) jab (jaw _))))),?_⟩
 walk_at "rf";refine⟨_,.tup ha.1,_,rfl,?_⟩;rw[if_neg (by decide)];have ka:SqT K H a ([p.x,p.y,p.z,p.w].map V.int):=SqT.of ha.1;refine⟨_,.inr ka,?_⟩;rw[if_pos (show ((([p.x,p.y,p.z,p.w].map V.int).length:Nat):Int)=4 from rfl)];refine⟨⟨_,ka⟩,fun acc hacc=>?_⟩;refine joF (fun _=>.bl true) (by rw[xaa];show 4<1000;decide) hacc ka ?_ ?_
 ·intro z J2 R hz j2 hR;obtain⟨n,hn,rfl⟩:=xai.mp hz;walk_at "rf";exact⟨n,rfl,hR _ (Same.refl _)⟩
 intro J2 j2 e2;refine⟨[true,true,true,true],SqL.of e2,?_⟩;rw[if_neg (by decide)];have k2:SqT K J2 a [.int p.x,.int p.y,.int p.z,.int p.w]:=SqT.of (j2 _ _ ha.1);refine ixT k2 rfl (ixT k2 rfl ⟨_,_,rfl,ixT k2 rfl (ixT k2 rfl ⟨_,_,rfl,_,_,rfl,rfl,?_⟩)⟩);rw[gcd4,show decide (V.int (gl [p.x,p.y,p.z,p.w])=V.int 1)=decide (gl [p.x,p.y,p.z,p.w]=1) from decide_eq_decide.mpr ⟨fun h=>by injection h,fun h=>by rw[h]⟩];exact q _ j2
inductive spSdLi (vs:List V) (H:Hp) (Q:VK):Prop
 | mk (a b:Addr) (f p:Pt) (_:vs=[.ref a,.ref b]) (_:Is4 H a f) (_:Is4 H b p) (_:Q (.int (sgn (hgP f p))) H)
def jn0:Sp:=fun vs H Q _=>spSdLi vs H Q
theorem jpN (T:Tx K mg t1 t2) (F:At K mg "_law_side" jdR ["plane","spot"] []) (du:jak P w K mg base CX0 2 "_law_dot" ["one","other"] [] (jko K)) (dL:jak P w K mg base CX0 2 "_law_sign" ["number"] [] spSg):jak P w K mg base CX0 3 "_law_side" ["plane","spot"] [] jn0:=by
 refine F.ok jeT (by walk_at "ar") (fun f cdv A outer s H vs Q E hr h=>?_);obtain⟨a,b,f,p,rfl,ha,hb,q⟩:=h;have S:=jeT;refine⟨_,(jag (jan (jae dL hr.m rfl jao (jaa (jap jaW (jae du hr.m rfl jao (jaa (pv 0) (jaa (pv 1) jad jac) jac)) (jap jas (jal jaq (pv 0) jab) (jal jaq (pv 1) jab))) jad jbc)))),?_⟩;walk_at "rf";refine⟨a,b,_,_,rfl,ha.d,hb.d,⟨Bd.mono ha.2.1,Bd.mono ha.2.2.1,Bd.mono ha.2.2.2.1⟩,⟨Bd.mono hb.2.1,Bd.mono hb.2.2.1,Bd.mono hb.2.2.2.1⟩,?_⟩;exact ixT ha.sq rfl (ixT hb.sq rfl ⟨_,rfl,_,rfl,ha.2.fw,hb.2.fw,_,rfl,_,rfl,q⟩)
theorem jms {a:Addr} {acc:Addr} {Z:Hp->Prop} (f:Nat->Int) (hn:zs.length<1000) (hacc:H1 acc=none) (hz:SqT K H1 a zs)
  (hs:∀(i:Nat) (z:V) (H3:Hp) (R:V->Hp->Prop),zs[i]?=some z->Same H1 H3->(∀H4,Same H3 H4->R (.int (f i)) H4)->te (some z::ρ) H3 R)
  (hd:∀H',Same H1 H'->H' acc=some (.lst (((List.range zs.length).map f).map V.int))->Z H'):CompGo (Itt K a) ρ (jbt 0) jbU te acc Z H1:=by
 refine je4 (K:=K) (a:=a) (zs:=zs) (fun i xs H=>Same H1 H/\H acc=some (.lst xs)/\xs=((List.range i).map f).map V.int/\i<=zs.length) ⟨Same.new hacc _,jam,rfl,xa6 _⟩ (fun i xs H _ h=>h.1.tup hz) ?_ ?_
 ·rintro i z xs H hi ⟨g1,g2,rfl,li⟩;have hil:=(xae.mp hi).1;refine hs i z H _ hi g1 fun H4 s4=>⟨s4 _ _ g2,jaS (by rw[xaa,xaa,xbf];omega),Same.keepN (g1.trans s4) hacc _,jam,?_,hil⟩;rw[xaZ,xaq,xaq];rfl
 ·rintro xs H ⟨g1,g2,rfl,_⟩;exact hd H g1 g2
theorem jmt {f:Nat->Int} (h:1<=n):(List.range n).map f≠[]:=fun z=>by
 have:=congrArg List.length z;rw[xaa,xbf] at this;exact absurd this (show ¬n=0 by omega)
theorem jbN {n:Int}:(0<=sgn n↔0<=n)/\(sgn n<=0↔n<=0):=by
 unfold sgn;refine⟨?_,?_⟩<;>split<;>(try split)<;>omega
theorem jn1 {l:List Pt} {h:Pt->Int} {m:Int} (hm:m∈(List.range l.length).map fun i=>sgn (h (pt l i))) (le:∀n∈(List.range l.length).map fun i=>sgn (h (pt l i)),m<=n):m<0↔¬∀c∈l,0<=h c:=by
 obtain⟨i,hi,rfl⟩:=xai.mp hm;have hi:=xaH.mp hi;constructor
 ·intro c a;have:=(jbN (n:=h (pt l i))).1.mpr (a _ (jaD hi));omega
 ·intro c;refine xar fun n=>c fun p hp=>?_;obtain⟨j,hj,rfl⟩:=jbQ hp;have:=le _ (xai.mpr ⟨j,xaH.mpr hj,rfl⟩);exact (jbN (n:=h (pt l j))).1.mp (by omega)
theorem jn2 {l:List Pt} {h:Pt->Int} {m:Int} (hm:m∈(List.range l.length).map fun i=>sgn (h (pt l i))) (le:∀n∈(List.range l.length).map fun i=>sgn (h (pt l i)),n<=m):m<=0↔∀c∈l,h c<=0:=by
 obtain⟨i,hi,rfl⟩:=xai.mp hm;have hi:=xaH.mp hi;constructor
 ·intro c p hp;obtain⟨j,hj,rfl⟩:=jbQ hp;have:=le _ (xai.mpr ⟨j,xaH.mpr hj,rfl⟩);exact (jbN (n:=h (pt l j))).2.mp (by omega)
 ·intro c;exact (jbN (n:=h (pt l i))).2.mpr (c _ (jaD hi))
theorem jmu {a:Addr} {rs:List Addr} {acc:Addr} {Z:Hp->Prop} (hg:Is4 H1 g f) (hs:Sps H1 rs ps) (n17:ps.length<=17) (hacc:H1 acc=none) (hz:SqT K H1 a (rs.map V.ref)) (hd:∀H',Same H1 H'->H' acc=some (.lst (((List.range ps.length).map fun i=>sgn (hgP f (pt ps i))).map V.int))->Z H'):CompGo (Itt K a) [some (V.ref g)] (jbt 0) jbU (jeY jn0 [] E0 (jbF (jeE 1) (jbF (jeE 0) jgU))) acc Z H1:=by
 have ln:=hs.len;refine jms (fun i=>sgn (hgP f (pt ps i))) (by rw[xaa];omega) hacc hz (fun i z H3 R hi s3 hR=>?_) (fun H' s' e'=>hd H' s' (by rw[xaa,ln] at e';exact e'));have hl:i<ps.length:=by have:=(xae.mp hi).1;rw[xaa] at this;omega
 obtain⟨b1,b2⟩:=(hs.keep s3.t).get hl;rw[b1] at hi;cases hi;walk_at "rf";exact⟨g,_,f,_,rfl,hg.keep s3,b2,hR _ (Same.refl _)⟩
def ptB (f:Pt) (ps qs:List Pt) (o:Pt):Bool:=decide (hgP f o<=0)&&(decide (∀c∈ps,0<=hgP f c)&&decide (∀c∈qs,hgP f c<=0))
inductive spPtsi (vs:List V) (H:Hp) (Q:VK):Prop
 | mk (g a b e:Addr) (f o:Pt) (ps qs:List Pt) (_:vs=[.ref g,.ref a,.ref b,.ref e]) (_:Is4 H g f) (_:BM H a ps) (_:BM H b qs) (_:Is4 H e o) (_:3<=ps.length) (_:ps.length<=8) (_:3<=qs.length) (_:qs.length<=8) (_:gl [f.x,f.y,f.z,f.w]=1) (_:¬(f.x=0/\f.y=0/\f.z=0)) (_:∀H':Hp,Same H H'->Q (.bl (ptB f ps qs o)) H')
def jpO:Sp:=fun vs H Q _=>spPtsi vs H Q
theorem jpP (T:Tx K mg t1 t2) (F:At K mg "_law_parts" jc8 ["plane","one","other","spot"] []) (dJ:jak P w K mg base CX0 3 "_law_four" ["found"] [] jkt) (Dl:jak P w K mg base CX0 3 "_law_side" ["plane","spot"] [] jn0):jak P w K mg base CX0 4 "_law_parts" ["plane","one","other","spot"] [] jpO:=by
 refine F.ok jee (by walk_at "ar") (fun f cdv A outer s H vs Q E hr h=>?_);obtain⟨g,a,b,e,f,o,ps,qs,rfl,hg,ha,hb,he,n3,n8,m3,m8,g1,nz,q⟩:=h;have S:=jee;refine⟨_,(jaf (jaM (PW.pt (jfS (jcR (jbO (jae dJ hr.m rfl jao (jaa (pv 0) jad jac)))) (je8 (jat (jg4 (jiO hr)) (jbi jja (pv 0) jbG (jbH jab)) (ja4 (jaa jab (jaa jab (jaa jab jad jai) jai) jai)) (jaw _)))))
  (jag (jan jbz))
  jax)
  (jaf (jaM (jat jdW (jaz (jcV rfl) rfl T.m_min boot_min (jaa (jaF rfl (N':=["corner","plane"]) (ix:=[0]) (by walk_at "cs") (jbT (pv 1)) (fun _ _ _ _=>jau (i:=0) (show (["corner","plane"]:List Str).Nodup from by decide +kernel) rfl (Or.inl rfl)) (fun _ _ _ _=>jaK) (fun _ _ _ _=>(jae Dl hr.m rfl jao (jaa (pv 1) (jaa (pv 0) jad jac) jac)))) jad jcn)) jab (jaw _))
  (jag (jan jbz))
  jax)
  (jag (jan (jbp jkM (jaz (jfj rfl) rfl T.m_max boot_max (jaa (jaF rfl (N':=["corner","plane"]) (ix:=[0]) (by walk_at "cs") (jbT (jap jmV (pv 2) (ja4 (jaa (pv 3) jad jac)))) (fun _ _ _ _=>jau (i:=0) (show (["corner","plane"]:List Str).Nodup from by decide +kernel) rfl (Or.inl rfl)) (fun _ _ _ _=>jaK) (fun _ _ _ _=>(jae Dl hr.m rfl jao (jaa (pv 1) (jaa (pv 0) jad jac) jac)))) jad jcn)) jab (jaw _)))))),?_⟩
 walk_at "rf";refine⟨g,f,rfl,hg,fun H1 s1=>?_⟩;refine⟨_,rfl,?_⟩;rw[decide_eq_true g1,if_neg (by decide)];refine⟨g,_,rfl,(hg.keep s1).sq,show ¬(HT.sIx 4 0 none=0/\HT.sIx 4 4 (some 3)=4) by decide,fun p1 hp1=>?_⟩;refine jbJ hp1 fun H2 s2 e2=>⟨by decide,fun p2 hp2=>?_⟩;refine jbJ hp2 fun H3 s3 e3=>?_;have S3:=s1.trans (s2.trans s3);refine jh8 (x:=[f.x,f.y,f.z]) (y:=[0,0,0]) (SqT.of (s3 _ _ e2)) (SqT.of e3) ⟨_,rfl,?_⟩;rw[decide_eq_false (fun z=>nz (by simp at z;exact z)),if_neg (by decide)];obtain⟨rs,hra,hrs⟩:=ha.keep S3;refine⟨⟨_,SqT.of hra⟩,fun acc hacc=>?_⟩;refine jmu (hg.keep S3) hrs (by omega) hacc (SqT.of hra) fun H4 s4 e4=>?_;refine⟨_,SqL.of e4,jmt (by omega),fun m hm le=>?_⟩;have mm:=jn1 hm le;have S4:=S3.trans s4;by_cases c:m<0
 ·rw[if_pos c];have:=q _ S4;rw[show ptB f ps qs o=false by unfold ptB;rw[decide_eq_false (mm.mp c)];simp] at this;exact this
 ·rw[if_neg c];have all:∀c∈ps,0<=hgP f c:=xar fun n=>c (mm.mpr n);refine⟨by decide,fun p5 hp5=>?_⟩;refine jbJ hp5 fun H5 s5 e5=>?_;have S5:=S4.trans s5;obtain⟨rs',hrb,hrs'⟩:=hb.keep S5;have ln':=hrs'.len;refine⟨b,p5,_,_,rfl,rfl,SqT.of hrb,SqT.of e5,fun z=>?_,xbb (jaS (by rw[xaa];simp;omega)),fun z=>(nomatch z),fun _ p6 hp6=>?_⟩
  ·have:=congrArg List.length z;rw[xaa] at this;exact absurd this (show ¬rs'.length=0 by omega)
  refine jbJ hp6 fun H6 s6 e6=>⟨p6,rfl,⟨_,SqT.of e6⟩,fun acc2 hacc2=>?_⟩;have S6:=S5.trans s6;have e6':H6 p6=some (.tup ((rs'++[e]).map V.ref)):=by rw[e6,xaq];rfl
  have sp6:Sps H6 (rs'++[e]) (qs++[o]):=(hrs'.keep s6.t).app (.cons (he.keep S6) .nil);refine jmu (hg.keep S6) sp6 (by simp;omega) hacc2 (SqT.of e6') fun H7 s7 e7=>?_;refine⟨_,SqL.of e7,jmt (by simp),fun m' hm' le'=>?_⟩;have mx:=jn2 hm' le';have:=q _ (S6.trans s7);rw[show ptB f ps qs o=decide (m'<=0) by
   unfold ptB;rw[decide_eq_true all];by_cases c2:m'<=0
   ·have h:=mx.mp c2;rw[decide_eq_true c2,decide_eq_true (h o (by simp)),decide_eq_true (fun c hc=>h c (by simp [hc]))];rfl
   ·rw[decide_eq_false c2];by_cases c3:hgP f o<=0
    ·rw[decide_eq_false (p:=∀c∈qs,hgP f c<=0) fun z=>c2 (mx.mpr fun c hc=>by
      rcases xaA.mp hc with h | h
      ·exact z c h
      ·rw[xaO.mp h];exact c3)]
     simp
    ·rw[decide_eq_false c3];rfl] at this
  exact this
def jb8 (f:Pt):Pt:=⟨-f.x,-f.y,-f.z,-f.w⟩
theorem jbo (f p:Pt):hgP (jb8 f) p=-hgP f p:=jim _ _ _ _ p
structure PlF (r f:Pt):Prop where
 ls:pln [r.x,r.y,r.z,r.w]=[f.x,f.y,f.z,f.w]
 g1:gl [f.x,f.y,f.z,f.w]=1
 nz:¬(f.x=0/\f.y=0/\f.z=0)
 le:(f.x.natAbs<=r.x.natAbs/\f.y.natAbs<=r.y.natAbs)/\f.z.natAbs<=r.z.natAbs/\f.w.natAbs<=r.w.natAbs
 sg:∃g σ:Int,0<g/\(σ=1\/σ=-1)/\∀P,g*hgP f P=σ*hgP r P
theorem jhS (f:Pt):gl [(jb8 f).x,(jb8 f).y,(jb8 f).z,(jb8 f).w]=gl [f.x,f.y,f.z,f.w]:=jl4 [f.x,f.y,f.z,f.w]
theorem plf (h:¬(r.x=0/\r.y=0/\r.z=0)):∃f,PlF r f:=by
  obtain⟨a,b,c,d⟩:=r;have h:¬(a=0/\b=0/\c=0):=h;have gp:=gl4 (d:=d) h;have g1:gl (low [a,b,c,d])=1:=jg9 (ns:=[a,b,c,d]) (by omega);have el:low [a,b,c,d]=[a / gl [a,b,c,d],b / gl [a,b,c,d],c / gl [a,b,c,d],d / gl [a,b,c,d]]:=rfl;have nz:¬(a / gl [a,b,c,d]=0/\b / gl [a,b,c,d]=0/\c / gl [a,b,c,d]=0):=fun z=>by
    have g:∀{x:Int},x∈[a,b,c,d]->x / gl [a,b,c,d]=0->x=0:=fun hx z=>xar fun q=>jfn (jaV hx) q z;exact h ⟨g (by simp) z.1,g (by simp) z.2.1,g (by simp) z.2.2⟩
  have ea:=xaM (jaV (ns:=[a,b,c,d]) (n:=a) (by simp));have eb:=xaM (jaV (ns:=[a,b,c,d]) (n:=b) (by simp));have ec:=xaM (jaV (ns:=[a,b,c,d]) (n:=c) (by simp));have ed:=xaM (jaV (ns:=[a,b,c,d]) (n:=d) (by simp));have l1:=xba a (gl [a,b,c,d]);have l2:=xba b (gl [a,b,c,d]);have l3:=xba c (gl [a,b,c,d]);have l4:=xba d (gl [a,b,c,d]);have ls:pln [a,b,c,d]=if plb (a / gl [a,b,c,d]) (b / gl [a,b,c,d]) (c / gl [a,b,c,d])=true then [a / gl [a,b,c,d],b / gl [a,b,c,d],c / gl [a,b,c,d],d / gl [a,b,c,d]] else [-(a / gl [a,b,c,d]),-(b / gl [a,b,c,d]),-(c / gl [a,b,c,d]),-(d / gl [a,b,c,d])]:=rfl;rw[el] at g1;generalize gl [a,b,c,d]=g at gp g1 nz ea eb ec ed l1 l2 l3 l4 ls;generalize a / g=x at g1 nz ea l1 ls;generalize b / g=y at g1 nz eb l2 ls;generalize c / g=z at g1 nz ec l3 ls;generalize d / g=w at g1 ed l4 ls;have hz:∀P:Pt,g*hgP ⟨x,y,z,w⟩ P=1*hgP ⟨a,b,c,d⟩ P:=fun P=>by
    unfold hgP hgt;simp only;rw[<- ea,<- eb,<- ec,<- ed];grind
  cases hb:plb x y z with
  | true =>
    rw[hb,if_pos rfl] at ls;exact⟨⟨x,y,z,w⟩,ls,g1,nz,⟨⟨l1,l2⟩,l3,l4⟩,g,1,gp,.inl rfl,hz⟩
  | false =>
    rw[hb,if_neg (by decide)] at ls;refine⟨jb8 ⟨x,y,z,w⟩,ls,(jhS _).trans g1,fun ⟨h1,h2,h3⟩=>nz ⟨xaV.mp h1,xaV.mp h2,xaV.mp h3⟩,⟨⟨by show (-x).natAbs<=_;rw[xbO];exact l1,by show (-y).natAbs<=_;rw[xbO];exact l2⟩,by show (-z).natAbs<=_;rw[xbO];exact l3,by show (-w).natAbs<=_;rw[xbO];exact l4⟩,g,-1,gp,.inr rfl,fun P=>?_⟩;rw[jbo];have:=hz P;grind
def ttw (f:Pt) (ps:List Pt):Pt:=if ∀c∈ps,0<=hgP f c then f else jb8 f
inductive spTti (K:PySem.W.Frag) (vs:List V) (H:Hp) (Q:VK):Prop
 | mk (g l:Addr) (rs:List Addr) (f:Pt) (ps:List Pt) (_:vs=[.ref g,.ref l]) (_:Is4 H g f) (_:(SqL K H l (rs.map V.ref)\/SqT K H l (rs.map V.ref))) (_:Sps H rs ps) (_:ps.length<=17) (_:∀(g':Addr) (H':Hp),Same H H'->Is4 H' g' (ttw f ps)->Q (.ref g') H')
def spTt (K:PySem.W.Frag):Sp:=fun vs H Q _=>spTti K vs H Q
theorem Is4.neg (h:H g=some (.tup ([f.x,f.y,f.z,f.w].map fun n=>.int (-n)))) (s:f.sm):Is4 H g (jb8 f):=⟨h,s.1.neg,s.2.1.neg,s.2.2.1.neg,s.2.2.2.neg⟩
theorem Pt.sm.small (h:p.sm):Small p.x/\Small p.y/\Small p.z/\Small p.w:=⟨h.1.small,h.2.1.small,h.2.2.1.small,h.2.2.2.small⟩
theorem ok_tt (T:Tx K mg t1 t2) (F:At K mg "turned_towards" jbL ["plane","spots"] []) (de:jak P w K mg base CX0 3 "side_of" ["plane","spot"] [] jd0) (dk:jak P w K mg base CX0 2 "turned_about" ["plane"] [] jdr):jak P w K mg base CX0 4 "turned_towards" ["plane","spots"] [] (spTt K):=by
 refine F.ok jcq (by walk_at "ar") (fun f cdv A outer s H vs Q E hr h=>?_);obtain⟨g,l,rs,f,ps,rfl,hg,hl,hs,n17,q⟩:=h;have S:=jcq;refine⟨_,(jaf (jbb PassesOwn.never rfl (pi_lt (pv 1)) (jau (i:=2) S.nd rfl (Or.inl rfl))
  (jag (jaM (jat jdW (jae de hr.m rfl jao (jaa (pv 0) (jaa (pv 2) jad jac) jac)) jab (jaw _))
  (jag (jan (jae dk hr.m rfl jao (jaa (pv 0) jad jac))))
  jax)))
  (jag (jan (pv 0)))),?_⟩
 walk_at "rf";simp only[L2.jm9];try walk_at "rf"
 have sm:=hg.2.small;have lr:=hs.len;have lm:(rs.map V.ref).length=ps.length:=by rw[xaa];exact lr
 have step:∀(i:Nat) (v:V) (σ:L2.St) (J:Hp),(rs.map V.ref)[i]?=some v->(J=H/\∃o,σ=[some (.ref g),some (.ref l),o]/\∀j,j<i->0<=hgP f (pt ps j))->jbt 2 v σ J fun σ2 H2=>jmK (jhv (tOp (rI0 fun i j=>V.bl (decide (i<j))) (jeY jd0 [] E0 (jbF (jeE 0) (jbF (jeE 2) jgU))) (tC (V.int 0)))) (jiM (jeY jdr [] E0 (jbF (jeE 0) jgU))) jhr { nx:=fun σ J=>J=H/\∃o,σ=[some (.ref g),some (.ref l),o]/\∀j,j<i+1->0<=hgP f (pt ps j),rt:=Q,bk:=jiM (jeE 0) { nx:=fun x H'=>Q V.non H',rt:=Q },ct:=fun σ J=>J=H/\∃o,σ=[some (.ref g),some (.ref l),o]/\∀j,j<i+1->0<=hgP f (pt ps j) } σ2 H2:=by
  rintro i v σ J hi ⟨rfl,o,rfl,hz⟩;have il:i<ps.length:=by have:=(xae.mp hi).1;omega
  obtain⟨b1,b2⟩:=hs.get il;rw[b1] at hi;cases hi;walk_at "rf";refine⟨g,_,f.x,f.y,f.z,f.w,_,rfl,hg.1,sm.1,sm.2.1,sm.2.2.1,sm.2.2.2,b2,?_⟩;try walk_at "rf"
  by_cases c:sgn (hgt f.x f.y f.z f.w (pt ps i))<0
  ·rw[if_pos c];have nn:¬∀c∈ps,0<=hgP f c:=fun z=>by
    have:=(jbN (n:=hgP f (pt ps i))).1.mpr (z _ (jaD il));exact absurd c (by show ¬sgn (hgP f (pt ps i))<0;omega)
   refine⟨g,[f.x,f.y,f.z,f.w],rfl,hg.1,show 4<=10 by decide,fun t H' s' e'=>q t H' s' ?_⟩;unfold ttw;rw[if_neg nn];exact Is4.neg e' hg.2
  ·rw[if_neg c];intro j hj;rcases xbJ j i with o | o
   ·exact hz j o
   ·rw[show j=i by omega];exact (jbN (n:=hgP f (pt ps i))).1.mp (by show 0<=sgn (hgt f.x f.y f.z f.w (pt ps i));omega)
 have fin:∀(σ:L2.St) (J:Hp),(J=H/\∃o,σ=[some (.ref g),some (.ref l),o]/\∀j,j<(rs.map V.ref).length->0<=hgP f (pt ps j))->jiM (jeE 0) { nx:=fun x H'=>Q V.non H',rt:=Q } σ J:=by
  rintro σ J ⟨rfl,o,rfl,hz⟩;rw[lm] at hz;walk_at "rf";refine q g _ (fun _ _ h=>h) ?_;unfold ttw;rw[if_pos fun c hc=>by
   obtain⟨j,hj,rfl⟩:=jbQ hc;exact hz j hj]
  exact hg
 rcases hl with hl | hl
 ·exact .inl ⟨⟨_,hl⟩,jcr (K:=K) (a:=l) (xs:=rs.map V.ref) (fun i σ J=>J=H/\∃o,σ=[some (.ref g),some (.ref l),o]/\∀j,j<i->0<=hgP f (pt ps j)) ⟨rfl,none,rfl,fun _ h=>absurd h (xa9 _)⟩ (fun i σ J _ h=>h.1▸hl) step fin⟩
 ·exact .inr ⟨⟨_,hl⟩,jcS (K:=K) (a:=l) (xs:=rs.map V.ref) (fun i σ J=>J=H/\∃o,σ=[some (.ref g),some (.ref l),o]/\∀j,j<i->0<=hgP f (pt ps j)) ⟨rfl,none,rfl,fun _ h=>absurd h (xa9 _)⟩ (fun i σ J _ h=>h.1▸hl) step fin⟩
inductive spIbi (vs:List V) (H:Hp) (Q:VK):Prop
 | mk (g a b:Addr) (f:Pt) (ps qs:List Pt) (_:vs=[.ref g,.ref a,.ref b]) (_:Is4 H g f) (_:BM H a ps) (_:BM H b qs) (_:ps.length<=17) (_:qs.length<=17) (_:Q (.bl (decide (∀c∈ps,0<=hgP f c)&&decide (∀c∈qs,hgP f c<=0))) H)
def spIb:Sp:=fun vs H Q _=>spIbi vs H Q
theorem ok_ib (T:Tx K mg t1 t2) (F:At K mg "is_between" jcX ["plane","one","other"] []) (de:jak P w K mg base CX0 3 "side_of" ["plane","spot"] [] jd0):jak P w K mg base CX0 4 "is_between" ["plane","one","other"] [] spIb:=by
 refine F.ok jd3 (by walk_at "ar") (fun f cdv A outer s H vs Q E hr h=>?_);obtain⟨g,a,b,f,ps,qs,rfl,hg,⟨rs,ha,hs⟩,⟨rs',hb,hs'⟩,n17,m17,q⟩:=h;have S:=jd3;refine⟨_,(jaf (jbb PassesOwn.never rfl (jbT (pv 1)) (jau (i:=3) S.nd rfl (Or.inl rfl))
  (jag (jaM (jat jdW (jae de hr.m rfl jao (jaa (pv 0) (jaa (pv 3) jad jac) jac)) jab (jaw _))
  (jag (jan jbz))
  jax)))
  (jaf (jbb PassesOwn.never rfl (jbT (pv 2)) (jau (i:=3) S.nd rfl (Or.inl rfl))
  (jag (jaM (jat jhu (jae de hr.m rfl jao (jaa (pv 0) (jaa (pv 3) jad jac) jac)) jab (jaw _))
  (jag (jan jbz))
  jax)))
  (jag (jan jbz)))),?_⟩
 have sm:=hg.2.small;have lr:=hs.len;have lr':=hs'.len;walk_at "rf";refine⟨⟨_,SqT.of ha⟩,jcS (K:=K) (a:=a) (xs:=rs.map V.ref) (fun i σ J=>J=H/\∃o,σ=[some (.ref g),some (.ref a),some (.ref b),o]/\∀j,j<i->0<=hgP f (pt ps j)) ⟨rfl,none,rfl,fun _ h=>absurd h (xa9 _)⟩ (fun i σ J _ h=>h.1▸SqT.of ha) ?_ ?_⟩
 ·rintro i v σ J hi ⟨rfl,o,rfl,hz⟩;have il:i<ps.length:=by have:=(xae.mp hi).1;rw[xaa] at this;omega
  obtain⟨b1,b2⟩:=hs.get il;rw[b1] at hi;cases hi;walk_at "rf";refine⟨g,_,f.x,f.y,f.z,f.w,_,rfl,hg.1,sm.1,sm.2.1,sm.2.2.1,sm.2.2.2,b2,?_⟩;walk_at "rf";by_cases c:sgn (hgt f.x f.y f.z f.w (pt ps i))<0
  ·rw[if_pos c];have nn:¬∀c∈ps,0<=hgP f c:=fun z=>by
    have:=(jbN (n:=hgP f (pt ps i))).1.mpr (z _ (jaD il));exact absurd c (by show ¬sgn (hgP f (pt ps i))<0;omega)
   rw[decide_eq_false nn] at q;exact q
  ·rw[if_neg c];intro j hj;rcases xbJ j i with o | o
   ·exact hz j o
   ·rw[show j=i by omega];exact (jbN (n:=hgP f (pt ps i))).1.mp (by show 0<=sgn (hgt f.x f.y f.z f.w (pt ps i));omega)
 ·rintro σ J ⟨rfl,o,rfl,hz⟩;rw[xaa,lr] at hz;have all1:∀c∈ps,0<=hgP f c:=fun c hc=>by
   obtain⟨j,hj,rfl⟩:=jbQ hc;exact hz j hj
  rw[decide_eq_true all1,Bool.true_and] at q;walk_at "rf";refine⟨⟨_,SqT.of hb⟩,jcS (K:=K) (a:=b) (xs:=rs'.map V.ref) (fun i σ J'=>J'=J/\∃o,σ=[some (.ref g),some (.ref a),some (.ref b),o]/\∀j,j<i->hgP f (pt qs j)<=0) ⟨rfl,_,rfl,fun _ h=>absurd h (xa9 _)⟩ (fun i σ J _ h=>h.1▸SqT.of hb) ?_ ?_⟩
  ·rintro i v σ J' hi ⟨rfl,o,rfl,hz⟩;have il:i<qs.length:=by have:=(xae.mp hi).1;rw[xaa] at this;omega
   obtain⟨b1,b2⟩:=hs'.get il;rw[b1] at hi;cases hi;walk_at "rf";refine⟨g,_,f.x,f.y,f.z,f.w,_,rfl,hg.1,sm.1,sm.2.1,sm.2.2.1,sm.2.2.2,b2,?_⟩;walk_at "rf";by_cases c:0<sgn (hgt f.x f.y f.z f.w (pt qs i))
   ·rw[if_pos c];have nn:¬∀c∈qs,hgP f c<=0:=fun z=>by
     have:=(jbN (n:=hgP f (pt qs i))).2.mpr (z _ (jaD il));exact absurd c (by show ¬0<sgn (hgP f (pt qs i));omega)
    rw[decide_eq_false nn] at q;exact q
   ·rw[if_neg c];intro j hj;rcases xbJ j i with o | o
    ·exact hz j o
    ·rw[show j=i by omega];exact (jbN (n:=hgP f (pt qs i))).2.mp (by show sgn (hgt f.x f.y f.z f.w (pt qs i))<=0;omega)
  ·rintro σ J' ⟨rfl,o,rfl,hz⟩;rw[xaa,lr'] at hz;have all2:∀c∈qs,hgP f c<=0:=fun c hc=>by
    obtain⟨j,hj,rfl⟩:=jbQ hc;exact hz j hj
   rw[decide_eq_true all2] at q;walk_at "rf";exact q
inductive spIpi (vs:List V) (H:Hp) (Q:VK):Prop
 | mk (g a b e:Addr) (f o:Pt) (ps qs:List Pt) (_:vs=[.ref g,.ref a,.ref b,.ref e]) (_:Is4 H g f) (_:BM H a ps) (_:BM H b qs) (_:Is4 H e o) (_:ps.length<=17) (_:qs.length<=17) (_:Q (.bl (ptB f ps qs o)) H)
def spIp:Sp:=fun vs H Q _=>spIpi vs H Q
theorem ok_ip (T:Tx K mg t1 t2) (F:At K mg "is_parting" jcY ["plane","one","other","spot"] []) (de:jak P w K mg base CX0 3 "side_of" ["plane","spot"] [] jd0) (DC:jak P w K mg base CX0 4 "is_between" ["plane","one","other"] [] spIb):jak P w K mg base CX0 5 "is_parting" ["plane","one","other","spot"] [] spIp:=by
 refine F.ok jd4 (by walk_at "ar") (fun f cdv A outer s H vs Q E hr h=>?_);obtain⟨g,a,b,e,f,o,ps,qs,rfl,hg,ha,hb,he,n17,m17,q⟩:=h;have S:=jd4;refine⟨_,(jag (jan (jgP (jbp jkM (jae de hr.m rfl jao (jaa (pv 0) (jaa (pv 3) jad jac) jac)) jab (jaw _)) (jhZ (jae DC hr.m rfl jao (jaa (pv 0) (jaa (pv 1) (jaa (pv 2) jad jac) jac) jac)))))),?_⟩;have sm:=hg.2.small;walk_at "rf";refine⟨g,e,f.x,f.y,f.z,f.w,o,rfl,hg.1,sm.1,sm.2.1,sm.2.2.1,sm.2.2.2,he,?_⟩;try walk_at "rf"
 have ee:hgt f.x f.y f.z f.w o=hgP f o:=rfl;rw[ee];unfold ptB at q;by_cases c:sgn (hgP f o)<=0
 ·rw[if_pos c];rw[decide_eq_true (jbN.2.mp c),Bool.true_and] at q;exact⟨g,a,b,f,ps,qs,rfl,hg,ha,hb,n17,m17,q⟩
 ·rw[if_neg c];rw[decide_eq_false (fun z=>c (jbN.2.mpr z))] at q;exact q
structure SpB (p:Pt):Prop where
 x:Bd 30 p.x
 y:Bd 30 p.y
 z:Bd 30 p.z
 w:Bd 4 p.w
 w1:1<=p.w
def nlS (b:Bool):Nat:=if b then 870 else 74
def nlW (b:Bool):Nat:=if b then 870 else 43
def nlM (b:Bool):Nat:=if b then 870 else 75
def nlP (b:Bool):Nat:=if b then 933 else 111
def nlQ (b:Bool):Nat:=if b then 933 else 137
structure SpC (lv:Bool) (p:Pt):Prop where
 x:Bd (nlS lv) p.x
 y:Bd (nlS lv) p.y
 z:Bd (nlS lv) p.z
 w:Bd (nlW lv) p.w
 w1:1<=p.w
theorem SpB.c {lv:Bool} (h:SpB p):SpC lv p:=by
 cases lv
 ·exact⟨Bd.mono h.x,Bd.mono h.y,Bd.mono h.z,Bd.mono h.w,h.w1⟩
 ·exact⟨Bd.mono h.x,Bd.mono h.y,Bd.mono h.z,Bd.mono h.w,h.w1⟩
theorem SpC.bd {lv:Bool} (h:SpC lv p):p.bd (nlM lv):=by
 cases lv
 ·exact⟨Bd.mono h.x,Bd.mono h.y,Bd.mono h.z,Bd.mono h.w⟩
 ·exact⟨Bd.mono h.x,Bd.mono h.y,Bd.mono h.z,Bd.mono h.w⟩
def PB (lv:Bool) (f:Pt):Prop:=(Bd (nlP lv) f.x/\Bd (nlP lv) f.y)/\Bd (nlP lv) f.z/\Bd (nlQ lv) f.w
theorem PB.lv {lv:Bool} (h:PB false f):PB lv f:=by
 cases lv
 ·exact h
 ·exact⟨⟨Bd.mono h.1.1,Bd.mono h.1.2⟩,Bd.mono h.2.1,Bd.mono h.2.2⟩
theorem PB.bd {lv:Bool} (h:PB lv f):f.bd (nlQ lv):=by
 cases lv
 ·exact⟨Bd.mono h.1.1,Bd.mono h.1.2,Bd.mono h.2.1,h.2.2⟩
 ·exact⟨h.1.1,h.1.2,h.2.1,h.2.2⟩
theorem PB.sm {lv:Bool} (h:PB lv f):f.sm:=by
 cases lv
 ·exact h.bd.sm' (by decide)
 ·exact h.bd.sm' (by decide)
theorem PB.neg {lv:Bool} (h:PB lv f):PB lv (jb8 f):=⟨⟨h.1.1.neg,h.1.2.neg⟩,h.2.1.neg,h.2.2.neg⟩
theorem SpB.bd (h:SpB p):p.bd 30:=⟨h.x,h.y,h.z,Bd.mono h.w⟩
theorem SpB.sm (h:SpB p):p.sm:=h.bd.sm' (by decide)
theorem jgL {n1 n2 n3:Nat} {b c z u v w:Int} (h1:Bd n1 a) (h2:Bd n2 b) (h3:Bd n3 c) (h4:Bd n1 x) (h5:Bd n2 y) (h6:Bd n3 z) (h7:Bd n1 u) (h8:Bd n2 v) (h9:Bd n3 w):Bd (n1+n2+n3+3) (ja3 a b c x y z u v w):=by
 unfold ja3;have e1:Bd (n1+n2+n3+1) ((b*z-c*y)*u):=Bd.mono (n:=(n2+n3+1)+n1) (Bd.mul (Bd.sub (Bd.mul h2 h6) (Bd.mono (n:=n3+n2) (Bd.mul h3 h5) (by omega))) h7) (by omega);have e2:Bd (n1+n2+n3+1) ((c*x-a*z)*v):=Bd.mono (n:=(n3+n1+1)+n2) (Bd.mul (Bd.sub (Bd.mul h3 h4) (Bd.mono (n:=n1+n3) (Bd.mul h1 h6) (by omega))) h8) (by omega);have e3:Bd (n1+n2+n3+1) ((a*y-b*x)*w):=Bd.mono (n:=(n1+n2+1)+n3) (Bd.mul (Bd.sub (Bd.mul h1 h5) (Bd.mono (n:=n2+n1) (Bd.mul h2 h4) (by omega))) h9) (by omega);exact Bd.mono (n:=n1+n2+n3+1+1+1) (Bd.add (Bd.add e1 e2) (Bd.mono e3 (by omega))) (by omega)
theorem jdo {n1 n2 n3 m1 m2 m3 N:Nat} {b c z u v w:Int} (h1:Bd n1 a) (h2:Bd n2 b) (h3:Bd n3 c) (h4:Bd m1 x) (h5:Bd m2 y) (h6:Bd m3 z) (h7:Bd m1 u) (h8:Bd m2 v) (h9:Bd m3 w) (e1:n1+m2+m3<=N) (e2:n2+m1+m3<=N) (e3:n3+m1+m2<=N):Bd (N+3) (ja3 a b c x y z u v w):=by
 unfold ja3;have f1:Bd (N+1) ((b*z-c*y)*u):=by
  rw[Int.sub_mul];exact Bd.sub (Bd.mono (Bd.mul (Bd.mul h2 h6) h7) (by omega)) (Bd.mono (Bd.mul (Bd.mul h3 h5) h7) (by omega))
 have f2:Bd (N+1) ((c*x-a*z)*v):=by
  rw[Int.sub_mul];exact Bd.sub (Bd.mono (Bd.mul (Bd.mul h3 h4) h8) (by omega)) (Bd.mono (Bd.mul (Bd.mul h1 h6) h8) (by omega))
 have f3:Bd (N+1) ((a*y-b*x)*w):=by
  rw[Int.sub_mul];exact Bd.sub (Bd.mono (Bd.mul (Bd.mul h1 h5) h9) (by omega)) (Bd.mono (Bd.mul (Bd.mul h2 h4) h9) (by omega))
 exact Bd.mono (n:=N+1+1+1) (Bd.add (Bd.add f1 f2) (Bd.mono f3 (by omega))) (by omega)
theorem jmv {lv:Bool} (hp:SpC lv p) (hq:SpB q) (hr:SpB r):PB lv (rgQ p q r):=by
 cases lv
 ·exact⟨⟨jdo (N:=108) hp.y hp.z hp.w hq.y hq.z hq.w hr.y hr.z hr.w (by decide) (by decide) (by decide),Bd.neg (jdo (N:=108) hp.x hp.z hp.w hq.x hq.z hq.w hr.x hr.z hr.w (by decide) (by decide) (by decide))⟩,jdo (N:=108) hp.x hp.y hp.w hq.x hq.y hq.w hr.x hr.y hr.w (by decide) (by decide) (by decide),jdo (N:=134) hp.x hp.y hp.z hq.x hq.y hq.z hr.x hr.y hr.z (by decide) (by decide) (by decide)⟩
 ·exact⟨⟨jdo (N:=930) hp.y hp.z hp.w hq.y hq.z hq.w hr.y hr.z hr.w (by decide) (by decide) (by decide),Bd.neg (jdo (N:=930) hp.x hp.z hp.w hq.x hq.z hq.w hr.x hr.z hr.w (by decide) (by decide) (by decide))⟩,jdo (N:=930) hp.x hp.y hp.w hq.x hq.y hq.w hr.x hr.y hr.w (by decide) (by decide) (by decide),jdo (N:=930) hp.x hp.y hp.z hq.x hq.y hq.z hr.x hr.y hr.z (by decide) (by decide) (by decide)⟩
theorem PlF.pb {lv:Bool} (h:PlF r f) (b:PB lv r):PB lv f:=⟨⟨jhI h.le.1.1 b.1.1,jhI h.le.1.2 b.1.2⟩,jhI h.le.2.1 b.2.1,jhI h.le.2.2 b.2.2⟩
theorem plf3 (h:¬jbn p q r):∃f,PlF (rgQ p q r) f:=plf fun ⟨a,b,c⟩=>h ⟨a,xaV.mp b,c⟩
theorem jcE {b:Addr} (hb:BM H b ps) (n3:3<=ps.length) (na:¬jbn (pt ps 0) (pt ps 1) (pt ps 2)) (bp:∀p∈ps,SpB p)
  (q:∀(g:Addr) (H':Hp) (f:Pt),Same H H'->PlF (rgQ (pt ps 0) (pt ps 1) (pt ps 2)) f->PB false f->Is4 H' g f->Q (.ref g) H'):jb4 [.ref b] H Q E:=by
 obtain⟨rs,h1,h2⟩:=hb;obtain⟨f,hf⟩:=plf3 na;have pb:=hf.pb (jmv (lv:=false) (bp _ (jaD (i:=0) (by omega))).c (bp _ (jaD (i:=1) (by omega))) (bp _ (jaD (i:=2) (by omega))));refine⟨b,rs,ps,rfl,h1,h2,n3,na,fun g H' s' e'=>q g H' f s' hf pb ⟨?_,pb.sm⟩⟩;have:pln (rgh (pt ps 0) (pt ps 1) (pt ps 2))=[f.x,f.y,f.z,f.w]:=hf.ls;rw[this] at e';exact e'
structure Fre (ps:List Pt) (o:Pt):Prop where
 n3:3<=ps.length
 n8:ps.length<=8
 na:¬jbn (pt ps 0) (pt ps 1) (pt ps 2)
 bp:∀p∈ps,SpB p
 fr:hgP (rgQ (pt ps 0) (pt ps 1) (pt ps 2)) o≠0
theorem PlF.ne (h:PlF r f) {P:Pt} (n:hgP r P≠0):hgP f P≠0:=fun z=>by
 obtain⟨g,σ,g0,s1,e⟩:=h.sg;have:=e P;rw[z,xaj] at this;rcases xah.mp this.symm with q | q
 ·omega
 ·exact n q
theorem jpQ {n:Int} (h:n≠0):sgn n≠0:=by
 unfold sgn;split
 ·decide
 ·split
  ·decide
  ·omega
inductive spFnfi (vs:List V) (H:Hp) (Q:VK):Prop
 | mk (l e a b:Addr) (ps qs:List Pt) (o:Pt) (_:vs=[.ref l,.ref e]) (_:H l=some (.lst [.ref a,.ref b])) (_:BM H a ps) (_:BM H b qs) (_:Is4 H e o) (_:Fre ps o) (_:Fre qs o) (_:∀H':Hp,Same H H'->Q .non H')
def jn3:Sp:=fun vs H Q _=>spFnfi vs H Q
theorem jpR (T:Tx K mg t1 t2) (F:At K mg "first_not_free" jbK ["boards","spot"] []) (di:jak P w K mg base CX0 7 "plane_of" ["board"] [] jb4) (de:jak P w K mg base CX0 3 "side_of" ["plane","spot"] [] jd0):jak P w K mg base CX0 8 "first_not_free" ["boards","spot"] [] jn3:=by
 refine F.ok jcp (by walk_at "ar") (fun f cdv A outer s H vs Q E hr h=>?_);obtain⟨l,e,a,b,ps,qs,o,rfl,hl,ha,hb,he,fp,fq,q⟩:=h;have S:=jcp;refine⟨_,(jaf (jbb PassesOwn.never rfl (jm7 rfl T.m_enumerate (jaa (pv 0) jad jac)) (jiY rfl (jbx (jau (i:=2) S.nd rfl (Or.inl rfl)) (jbx (jau (i:=3) S.nd rfl (Or.inl rfl)) jfb)))
  (jag (jaM (jat jcm (jae de hr.m rfl jao (jaa (jae di hr.m rfl jao (jaa (pv 3) jad jac)) (jaa (pv 1) jad jac) jaB)) jab (jaw _))
  (jag (jan (pv 2)))
  jax)))
  (jag (jan jcG))),?_⟩
 walk_at "rf";refine⟨⟨_,SqL.of hl⟩,jkX (K:=K) (a:=l) (xs:=[.ref a,.ref b]) (fun i σ J=>Same H J/\∃(o3 o4:Option V),σ=[some (.ref l),some (.ref e),o3,o4]) ⟨fun _ _ h=>h,none,none,rfl⟩ (fun i σ J _ h=>SqL.of (h.1 _ _ hl)) ?_ ?_⟩
 ·rintro i x σ J T' hx ⟨sJ,o3,o4,rfl⟩ hT;obtain⟨c,us,rfl,hc,fu⟩:∃c us,x=.ref c/\BM H c us/\Fre us o:=by
   have hl2:i<2:=(xae.mp hx).1;have i2:i=0\/i=1:=by omega
   rcases i2 with rfl | rfl
   ·cases hx;exact⟨a,ps,rfl,ha,fp⟩
   ·cases hx;exact⟨b,qs,rfl,hb,fq⟩
  refine jbJ hT fun J1 uT eT=>?_;have s2:=sJ.trans uT;walk_at "rf";refine⟨_,SqT.of eT,rfl,_,_,rfl,_,_,rfl,rfl,?_⟩;refine jcE (hc.keep s2) fu.n3 fu.na fu.bp fun g J2 f s3 hf pb hg=>?_;have sm:=hg.2.small;refine⟨g,e,f.x,f.y,f.z,f.w,o,rfl,hg.1,sm.1,sm.2.1,sm.2.2.1,sm.2.2.2,he.keep (s2.trans s3),?_⟩;try walk_at "rf"
  rw[if_neg (show ¬sgn (hgt f.x f.y f.z f.w o)=0 from jpQ (hf.ne fu.fr))];exact⟨s2.trans s3,_,rfl⟩
 ·rintro σ J ⟨sJ,o3,o4,rfl⟩;walk_at "rf";exact q _ sJ
def jlA:Sp:=jn3
theorem jpS (T:Tx K mg t1 t2) (F:At K mg "refuse_unless_free" jbf ["boards","spot"] []) (Dr:jak P w K mg base CX0 8 "first_not_free" ["boards","spot"] [] jn3):jak P w K mg base CX0 9 "refuse_unless_free" ["boards","spot"] [] jlA:=by
 refine F.ok jbB (by walk_at "ar") (fun f cdv A outer s H vs Q E hr h=>?_);obtain⟨l,e,a,b,ps,qs,o,rfl,hl,ha,hb,he,fp,fq,q⟩:=h;have S:=jbB;refine⟨_,(jaf (jar (i:=2) S.nd rfl (Or.inl rfl) (jae Dr hr.m rfl jao (jaa (pv 0) (jaa (pv 1) jad jac) jac)))
  (jag (jaM (jat ji4 (pv 2) jcG (jaw _))
  jfa
  jax))),?_⟩
 walk_at "rf";refine⟨l,e,a,b,ps,qs,o,rfl,hl,ha,hb,he,fp,fq,fun H' s'=>?_⟩;walk_at "rf";exact q _ s'
def wrp (n i:Nat):Nat:=(i+(n-1)) % n
def SdF (s:Pt) (qs fs:List Pt):Prop:=fs.length=qs.length/\∀i,i<qs.length->∃f,PlF (rgQ s (pt qs (wrp qs.length i)) (pt qs i)) f/\pt fs i=ttw f qs
inductive spSfi (vs:List V) (H:Hp) (Q:VK):Prop
 | mk (lv:Bool) (b e:Addr) (qs:List Pt) (s:Pt) (_:vs=[.ref b,.ref e]) (_:BM H b qs) (_:Is4 H e s) (_:3<=qs.length) (_:qs.length<=8) (_:(∀q∈qs,SpB q)) (_:SpC lv s) (_:(∀i,i<qs.length->¬jbn s (pt qs (wrp qs.length i)) (pt qs i))) (_:∀(L:Addr) (H':Hp) (rs:List Addr) (fs:List Pt),Same H H'->Cor H' L rs fs->(∀f∈fs,PB lv f)->SdF s qs fs->Q (.ref L) H')
def spSf:Sp:=fun vs H Q _=>spSfi vs H Q
theorem jku {H:Hp}:∀(ys:List V) (p:Nat->Pt->Prop),(∀(i:Nat) (y:V),ys[i]?=some y->∃(r:Addr) (f:Pt),y=.ref r/\p i f/\Is4 H r f)->∃(rs:List Addr) (fs:List Pt),ys=rs.map V.ref/\Sps H rs fs/\fs.length=ys.length/\∀i,i<ys.length->p i (pt fs i)
  | [],p,_=>⟨[],[],rfl,.nil,rfl,fun i h=>absurd h (xa9 _)⟩
  | y :: ys, p, h => by
    obtain⟨r,f,rfl,pf,hf⟩:=h 0 y rfl;obtain⟨rs,fs,rfl,hs,hl,hp⟩:=jku ys (fun i=>p (i+1)) fun i y hy=>h (i+1) y hy;refine⟨r::rs,f::fs,rfl,.cons hf hs,by rw[xaB,xaB,hl],fun i hi=>?_⟩;cases i with
    | zero=>exact pf
    | succ i=>exact hp i (xb8 hi)
theorem jmw {lv:Bool} (h:PB lv f):PB lv (ttw f ps):=by
 unfold ttw;split
 ·exact h
 ·exact h.neg
theorem ok_sf (T:Tx K mg t1 t2) (F:At K mg "side_faces" jcZ ["board","spot"] []) (dM:jak P w K mg base CX0 4 "turned_towards" ["plane","spots"] [] (spTt K)) (dO:jak P w K mg base CX0 6 "plane_through" ["one","other","third"] [] jfu) (dq:jak P w K mg base CX0 2 "edges_of" ["board"] [] jfI):jak P w K mg base CX0 7 "side_faces" ["board","spot"] [] spSf:=by
 refine F.ok jd5 (by walk_at "ar") (fun f cdv A outer s H vs Q E hr h=>?_);obtain⟨lv,b,e,qs,o,rfl,⟨rs,hb,hs⟩,he,n3,n8,bq,bo,na,q⟩:=h;have S:=jd5;refine⟨_,(jag (jan (jaF rfl (N':=["edge","spot","board"]) (ix:=[1,0]) (by walk_at "cs") (jba (jae dq hr.m rfl jao (jaa (pv 0) jad jac))) (fun _ _ _ _=>jau (i:=0) (show (["edge","spot","board"]:List Str).Nodup from by decide +kernel) rfl (Or.inl rfl)) (fun _ _ _ _=>jaK) (fun _ _ _ _=>(jae dM hr.m rfl jao (jaa (jae dO hr.m rfl jao (jaa (pv 1) (jaa (jal (jaZ (K:=K) rfl) (pv 0) jab) (jaa (jal (jaZ (K:=K) rfl) (pv 0) jab) jad jav) jav) jac)) (jaa (pv 2) jad jac) jaB)))))),?_⟩;have lr:=hs.len;walk_at "rf";refine⟨b,rs,rfl,hb,by omega,by omega,fun L H1 es s1 e1 l1 p1=>⟨L,rfl,⟨_,SqL.of e1⟩,fun acc hacc=>?_⟩⟩;refine jg5 (K:=K) (a:=L) (zs:=es.map V.ref) (fun i y J=>∃(r:Addr) (f:Pt),y=.ref r/\PlF (rgQ o (pt qs (wrp qs.length i)) (pt qs i)) f/\PB lv f/\Is4 J r (ttw f qs)) (fun i y J J' ⟨r,f,h1,h2,h3,h4⟩ st=>⟨r,f,h1,h2,h3,st _ _ h4.1,h4.2⟩) (by rw[xaa];omega) hacc (SqL.of e1) (fun i z H5 R hz s5 hR=>?_) fun ys J5 s5 e5 l5 p5=>?_
 ·have il:i<qs.length:=by have:=(xae.mp hz).1;rw[xaa] at this;omega
  rw[jbC (by omega)] at hz;cases hz;have pi:=p1 i (by omega);rw[lr] at pi;have hm:wrp qs.length i<qs.length:=xaz _ (by omega);have s15:=s1.trans s5;have q0:=((hs.keep s15.t).get hm).2;have q1:=((hs.keep s15.t).get il).2;have kE:SqT K H5 (ad es i) [.ref (ad rs (wrp qs.length i)),.ref (ad rs i)]:=SqT.of (s5 _ _ pi);obtain⟨f,hf⟩:=plf3 (na i il);have pb:=hf.pb (jmv bo (bq _ (jaD hm)) (bq _ (jaD il)));walk_at "rf";refine ixT kE rfl (ixT kE rfl ⟨e,_,_,_,_,_,rfl,he.keep s15,q0,q1,na i il,fun g H6 s6 e6=>?_⟩);have e6':Is4 H6 g f:=⟨by
   have:pln (rgh o (pt qs (wrp qs.length i)) (pt qs i))=[f.x,f.y,f.z,f.w]:=hf.ls;rw[this] at e6;exact e6,pb.sm⟩
  have s16:=s15.trans s6;exact⟨g,b,rs,f,qs,rfl,e6',.inr (SqT.of (s16 _ _ hb)),hs.keep s16.t,by omega,fun g' H7 s7 h7=>hR _ _ (s6.trans s7) ⟨g',f,rfl,hf,pb,h7⟩⟩
 ·have le5:ys.length=qs.length:=by rw[l5,xaa];omega
  obtain⟨rs',fs,rfl,hfs,lf,hp⟩:=jku ys (fun i F=>∃f,PlF (rgQ o (pt qs (wrp qs.length i)) (pt qs i)) f/\PB lv f/\F=ttw f qs) fun i y hy=>by
   obtain⟨r,f,h1,h2,h3,h4⟩:=p5 i y hy;exact⟨r,_,h1,⟨f,h2,h3,rfl⟩,h4⟩
  refine q acc J5 rs' fs (s1.trans s5) ⟨e5,hfs⟩ (fun F hF=>?_) ⟨by omega,fun i hi=>?_⟩
  ·obtain⟨j,hj,rfl⟩:=jbQ hF;obtain⟨f,_,h3,h4⟩:=hp j (by omega);rw[h4];exact jmw h3
  ·obtain⟨f,h2,_,h4⟩:=hp i (by omega);exact⟨f,h2,h4⟩
def PyF (s:Pt) (qs fs:List Pt):Prop:=∃(f0:Pt) (gs:List Pt),fs=ttw f0 [s]::gs/\PlF (rgQ (pt qs 0) (pt qs 1) (pt qs 2)) f0/\SdF s qs gs
inductive spPyi (vs:List V) (H:Hp) (Q:VK):Prop
 | mk (lv:Bool) (b e:Addr) (qs:List Pt) (s:Pt) (_:vs=[.ref b,.ref e]) (_:BM H b qs) (_:Is4 H e s) (_:Fre qs s) (_:SpC lv s) (_:(∀i,i<qs.length->¬jbn s (pt qs (wrp qs.length i)) (pt qs i))) (_:∀(L:Addr) (H':Hp) (rs:List Addr) (fs:List Pt),Same H H'->Cor H' L rs fs->(∀f∈fs,PB lv f)->PyF s qs fs->Q (.ref L) H')
def spPy:Sp:=fun vs H Q _=>spPyi vs H Q
theorem ok_py (T:Tx K mg t1 t2) (F:At K mg "pyramid_faces" jbZ ["board","spot"] []) (dM:jak P w K mg base CX0 4 "turned_towards" ["plane","spots"] [] (spTt K)) (di:jak P w K mg base CX0 7 "plane_of" ["board"] [] jb4) (DG:jak P w K mg base CX0 7 "side_faces" ["board","spot"] [] spSf):jak P w K mg base CX0 8 "pyramid_faces" ["board","spot"] [] spPy:=by
 refine F.ok jcK (by walk_at "ar") (fun f cdv A outer s H vs Q E hr h=>?_);obtain⟨lv,b,e,qs,o,rfl,hb,he,fq,bo,na,q⟩:=h;have S:=jcK;refine⟨_,(jag (jan (jap jfX (jaU (jaa (jae dM hr.m rfl jao (jaa (jae di hr.m rfl jao (jaa (pv 0) jad jac)) (jaa (jaU (jaa (pv 1) jad jac)) jad jbu) jaB)) jad jaB)) (jae DG hr.m rfl jao (jaa (pv 0) (jaa (pv 1) jad jac) jac))))),?_⟩;walk_at "rf";refine jcE hb fq.n3 fq.na fq.bp fun g H1 f s1 hf pb hg=>?_;try walk_at "rf"
 refine⟨by decide,fun p hp=>?_⟩;refine jbJ hp fun H2 s2 e2=>⟨g,p,[e],f,[o],rfl,hg.keep s2,.inl (SqL.of e2),.cons (he.keep (s1.trans s2)) .nil,show 1<=17 by decide,fun g' H3 s3 h3=>⟨by decide,fun p' hp'=>?_⟩⟩;refine jbJ hp' fun H4 s4 e4=>?_;have s14:=s1.trans (s2.trans (s3.trans s4));refine⟨lv,b,e,qs,o,rfl,hb.keep s14,he.keep s14,fq.n3,fq.n8,fq.bp,bo,na,fun L H5 rs fs s5 c5 pf sf=>?_⟩;try walk_at "rf"
 have lc:=c5.2.len;have m8:=fq.n8;have l8:fs.length=qs.length:=sf.1;refine⟨p',L,_,_,rfl,rfl,s5 _ _ e4,c5.1,xbb (jaS (by rw[xaa];simp;omega)),fun p6 hp6=>?_⟩;have s6:=Same.new hp6 (.lst ([V.ref g']++rs.map V.ref));refine q p6 _ (g'::rs) (ttw f [o]::fs) (s14.trans (s5.trans s6)) ⟨jam,.cons (h3.keep (s4.trans (s5.trans s6))) (c5.2.keep s6.t)⟩ (fun F hF=>?_) ⟨f,fs,rfl,hf,sf⟩;rcases xap.mp hF with rfl | h
 ·exact jmw pb.lv
 ·exact pf F h
inductive spArwi (vs:List V) (H:Hp) (Q:VK):Prop
 | mk (a b:Addr) (p o:Pt) (_:vs=[.ref a,.ref b]) (_:Is4 H a p) (_:Is4 H b o) (_:∀(g:Addr) (H':Hp),Same H H'->H' g=some (.tup [.int (ja6 p o).x,.int (ja6 p o).y,.int (ja6 p o).z])->Q (.ref g) H')
def jn4:Sp:=fun vs H Q _=>spArwi vs H Q
theorem jpT (T:Tx K mg t1 t2) (F:At K mg "arrow_between" jbX ["one","other"] []):jak P w K mg base CX0 2 "arrow_between" ["one","other"] [] jn4:=by
 refine F.ok jcI (by walk_at "ar") (fun f cdv A outer s H vs Q E hr h=>?_);obtain⟨a,b,p,o,rfl,ha,hb,q⟩:=h;have S:=jcI;refine⟨_,(jag (jan (ja8 jfl rfl T.m_tuple boot_tuple (jaa (jaF rfl (N':=["k","other","one"]) (ix:=[1,0]) (by walk_at "cs") (jaH rfl T.m_range (jaa jab jad jai)) (fun _ _ _ _=>jau (i:=0) (show (["k","other","one"]:List Str).Nodup from by decide +kernel) rfl (Or.inl rfl)) (fun _ _ _ _=>jaK) (fun _ _ _ _=>(jap jaW (jap jas (jal (jaZ (K:=K) rfl) (pv 1) (pv 0)) (jal (jaZ (K:=K) rfl) (pv 2) jab)) (jap jas (jal (jaZ (K:=K) rfl) (pv 2) (pv 0)) (jal (jaZ (K:=K) rfl) (pv 1) jab))))) jad jcn)))),?_⟩;walk_at "rf";refine⟨by decide,by decide,fun acc hacc=>?_⟩;refine jfk (n:=3) (fun k=>.int (tc (ja6 p o) k)) (by decide) hacc (fun k H6 R6 hk s6 hR6=>?_) (fun H6 s6 e6=>?_)
 ·have ka:=(ha.keep s6).sq (K:=K);have kb:=(hb.keep s6).sq (K:=K);have:=hR6 _ (fun _ _ h=>h);walk_at "rf";obtain rfl | rfl | rfl:=lt3 hk
  ·exact ixT kb rfl (ixT ka rfl ⟨_,rfl,_,rfl,hb.2.fx,ha.2.fw,ixT ka rfl (ixT kb rfl ⟨_,rfl,_,rfl,ha.2.fx,hb.2.fw,this⟩)⟩)
  ·exact ixT kb rfl (ixT ka rfl ⟨_,rfl,_,rfl,hb.2.fy,ha.2.fw,ixT ka rfl (ixT kb rfl ⟨_,rfl,_,rfl,ha.2.fy,hb.2.fw,this⟩)⟩)
  ·exact ixT kb rfl (ixT ka rfl ⟨_,rfl,_,rfl,hb.2.fz,ha.2.fw,ixT ka rfl (ixT kb rfl ⟨_,rfl,_,rfl,ha.2.fz,hb.2.fw,this⟩)⟩)
 ·exact⟨_,SqL.of e6,fun l hl=>q l _ (s6.trans (Same.new hl _)) jam⟩
def pyE (s:Pt) (qs:List Pt) (i:Nat):Pt × Pt:=if i<qs.length then (s,pt qs i) else (pt qs (wrp qs.length (i-qs.length)),pt qs (i-qs.length))
def rqh (s:Pt) (ps qs:List Pt) (i j:Nat):Pt:=rgQ (pyE s qs i).1 (pyE s qs i).2 (arr (pt ps (wrp ps.length j)) (pt ps j))
def CdB (r:Pt) (ps qs:List Pt) (s:Pt):Prop:=¬(r.x=0/\r.y=0/\r.z=0)/\(ptB r ps qs s=true\/ptB (jb8 r) ps qs s=true)
structure Tol (f:Pt) (ps qs:List Pt) (s:Pt):Prop where
 g1:gl [f.x,f.y,f.z,f.w]=1
 nz:¬(f.x=0/\f.y=0/\f.z=0)
 pt:ptB f ps qs s=true
def PaeR (ps qs:List Pt) (s f:Pt):Prop:=∃i j:Nat,(∀i',i'<i->∀j,j<ps.length->¬CdB (rqh s ps qs i' j) ps qs s)/\(∀j',j'<j->¬CdB (rqh s ps qs i j') ps qs s)/\j<ps.length/\CdB (rqh s ps qs i j) ps qs s/\∃F,F=(if ptB (rqh s ps qs i j) ps qs s=true then rqh s ps qs i j else jb8 (rqh s ps qs i j))/\low [F.x,F.y,F.z,F.w]=[f.x,f.y,f.z,f.w]
theorem Pt4 {g:Pt} (h:[f.x,f.y,f.z,f.w]=[g.x,g.y,g.z,g.w]):f=g:=by
 obtain⟨a,b,c,d⟩:=f;obtain⟨a',b',c',d'⟩:=g;simp at h;obtain⟨rfl,rfl,rfl,rfl⟩:=h;rfl
def jpU (fs:List Pt) (f0:Pt):List Pt:=fs.map jb8++[f0,jb8 f0]
def PpR (ps qs fs:List Pt) (s f:Pt):Prop:=∃f0,PlF (rgQ (pt ps 0) (pt ps 1) (pt ps 2)) f0/\((∃i,i<(jpU fs f0).length/\f=pt (jpU fs f0) i/\ptB f ps qs s=true/\∀j,j<i->ptB (pt (jpU fs f0) j) ps qs s=false)\/((∀F∈jpU fs f0,ptB F ps qs s=false)/\PaeR ps qs s f))
theorem jpV {m:Int} (k0:0<k) (m0:0<m) (e:∀P,k*hgP f P=m*hgP r P) (ps qs:List Pt) (s:Pt):ptB f ps qs s=ptB r ps qs s:=by
 have h:=fun P=>sg2 k0 m0 (e P);unfold ptB;rw[decide_eq_decide.mpr (h s).2.2,decide_eq_decide.mpr (show (∀c∈ps,0<=hgP f c)↔∀c∈ps,0<=hgP r c from ⟨fun z c hc=>(h c).2.1.mp (z c hc),fun z c hc=>(h c).2.1.mpr (z c hc)⟩),decide_eq_decide.mpr (show (∀c∈qs,hgP f c<=0)↔∀c∈qs,hgP r c<=0 from ⟨fun z c hc=>(h c).2.2.mp (z c hc),fun z c hc=>(h c).2.2.mpr (z c hc)⟩)]
theorem jn5 (nz:¬(r.x=0/\r.y=0/\r.z=0)) (sm:r.sm) (h:ptB r ps qs s=true):∃f:Pt,low [r.x,r.y,r.z,r.w]=[f.x,f.y,f.z,f.w]/\Tol f ps qs s/\f.sm:=by
 have gp:=gl4 (d:=r.w) nz;have g1:gl (low [r.x,r.y,r.z,r.w])=1:=jg9 (ns:=[r.x,r.y,r.z,r.w]) (by omega);have d:∀{x:Int},x∈[r.x,r.y,r.z,r.w]->gl [r.x,r.y,r.z,r.w]*(x / gl [r.x,r.y,r.z,r.w])=x:=fun hx=>xbj (jaV hx);refine⟨⟨r.x / gl [r.x,r.y,r.z,r.w],r.y / gl [r.x,r.y,r.z,r.w],r.z / gl [r.x,r.y,r.z,r.w],r.w / gl [r.x,r.y,r.z,r.w]⟩,rfl,⟨g1,fun ⟨a,b,c⟩=>nz ⟨?_,?_,?_⟩,?_⟩,sm.1.div,sm.2.1.div,sm.2.2.1.div,sm.2.2.2.div⟩
 ·rw[<- d (x:=r.x) (by simp),show r.x / gl [r.x,r.y,r.z,r.w]=0 from a,xaj]
 ·rw[<- d (x:=r.y) (by simp),show r.y / gl [r.x,r.y,r.z,r.w]=0 from b,xaj]
 ·rw[<- d (x:=r.z) (by simp),show r.z / gl [r.x,r.y,r.z,r.w]=0 from c,xaj]
 ·rw[jpV (r:=r) gp (show (0:Int)<1 by decide) fun P=>?_]
  ·exact h
  ·have d1:=d (x:=r.x) (by simp);have d2:=d (x:=r.y) (by simp);have d3:=d (x:=r.z) (by simp);have d4:=d (x:=r.w) (by simp);generalize gl [r.x,r.y,r.z,r.w]=g at *
   unfold hgP hgt;simp only;grind
theorem jmx {o:Pt} (hp:SpB p) (ho:SpB o):(Bd 36 (arr p o).x/\Bd 36 (arr p o).y)/\Bd 36 (arr p o).z/\Bd 4 (arr p o).w :=
 ⟨⟨Bd.mono (n:=30+4+1) (Bd.sub (Bd.mul ho.x hp.w) (Bd.mul hp.x ho.w)),Bd.mono (n:=30+4+1) (Bd.sub (Bd.mul ho.y hp.w) (Bd.mul hp.y ho.w))⟩,Bd.mono (n:=30+4+1) (Bd.sub (Bd.mul ho.z hp.w) (Bd.mul hp.z ho.w)),by show Bd 4 0;unfold Bd;decide⟩
theorem jpW {o:Pt} (hp:SpB p) (ho:SpB o):(arr p o).sm:=let ⟨⟨a,b⟩,c,d⟩:=jmx hp ho;⟨Bd.mono a,Bd.mono b,Bd.mono c,Bd.mono d⟩
theorem jpX {u v:Pt} (hp:SpC false p) (hq:SpB q) (hu:SpB u) (hv:SpB v):(rgQ p q (arr u v)).sm:=by
 obtain⟨⟨a,b⟩,c,d⟩:=jmx hu hv;have x1:Bd 74 p.x:=Bd.mono hp.x;have y1:Bd 74 p.y:=Bd.mono hp.y;have z1:Bd 74 p.z:=Bd.mono hp.z;have x2:Bd 74 q.x:=Bd.mono hq.x;have y2:Bd 74 q.y:=Bd.mono hq.y;have z2:Bd 74 q.z:=Bd.mono hq.z;have w2:Bd 43 q.w:=Bd.mono hq.w;have a':Bd 74 (arr u v).x:=Bd.mono a;have b':Bd 74 (arr u v).y:=Bd.mono b;have c':Bd 74 (arr u v).z:=Bd.mono c;have d':Bd 43 (arr u v).w:=Bd.mono d;exact⟨Bd.mono (n:=74+74+43+3) (jgL y1 z1 hp.w y2 z2 w2 b' c' d'),Bd.neg (Bd.mono (n:=74+74+43+3) (jgL x1 z1 hp.w x2 z2 w2 a' c' d')),Bd.mono (n:=74+74+43+3) (jgL x1 y1 hp.w x2 y2 w2 a' b' d'),Bd.mono (n:=74+74+74+3) (jgL x1 y1 z1 x2 y2 z2 a' b' c')⟩
inductive spPaei (vs:List V) (H:Hp) (Q:VK):Prop
 | mk (a b e:Addr) (ps qs:List Pt) (s:Pt) (_:vs=[.ref a,.ref b,.ref e]) (_:BM H a ps) (_:BM H b qs) (_:Is4 H e s) (_:Fre ps s) (_:Fre qs s) (_:SpC false s) (_:(∃i j,i<2*qs.length/\j<ps.length/\CdB (rqh s ps qs i j) ps qs s)) (_:∀(g:Addr) (H':Hp) (f:Pt),Same H H'->Is4 H' g f->Tol f ps qs s->PaeR ps qs s f->Q (.ref g) H')
def jpY:Sp:=fun vs H Q _=>spPaei vs H Q
theorem jpZ (T:Tx K mg t1 t2) (F:At K mg "plane_along_edges" jbm ["one","other","spot"] []) (dH:jak P w K mg base CX0 2 "arrow_between" ["one","other"] [] jn4) (dq:jak P w K mg base CX0 2 "edges_of" ["board"] [] jfI) (dS:jak P w K mg base CX0 5 "rough_plane" ["one","other","third"] [] jhD) (dk:jak P w K mg base CX0 2 "turned_about" ["plane"] [] jdr) (dF:jak P w K mg base CX0 5 "is_parting" ["plane","one","other","spot"] [] spIp) (dW:jak P w K mg base CX0 4 "made_plane" ["a","b","c","d"] [] jhE):jak P w K mg base CX0 6 "plane_along_edges" ["one","other","spot"] [] jpY:=by
  refine F.ok jbP (by walk_at "ar") (fun f cdv A outer s H vs Q E hr h=>?_);obtain⟨a,b,e,ps,qs,o,rfl,ha,hb,he,fp,fq,bo,ex,q⟩:=h;have S:=jbP;refine⟨_,(jaf (jbV (i:=3) rfl S.nd rfl rfl (N':=["edge"]) (ix:=[]) (by walk_at "cs") (jba (jae dq hr.m rfl jao (jaa (pv 0) jad jac))) (fun _ _ _ _=>jau (i:=0) (show (["edge"]:List Str).Nodup from by decide +kernel) rfl (Or.inl rfl)) (fun _ _ _ _=>jaK) (fun _ _ _ _=>(jae dH hr.m rfl jao (jaa (jal (jaZ (K:=K) rfl) (pv 0) jab) (jaa (jal (jaZ (K:=K) rfl) (pv 0) jab) jad jav) jav))))
    (jaf (jar (i:=4) S.nd rfl (Or.inl rfl) (jap jfX (jaF rfl (N':=["corner","spot"]) (ix:=[2]) (by walk_at "cs") (jbT (pv 1)) (fun _ _ _ _=>jau (i:=0) (show (["corner","spot"]:List Str).Nodup from by decide +kernel) rfl (Or.inl rfl)) (fun _ _ _ _=>jaK) (fun _ _ _ _=>(ja4 (jaa (pv 1) (jaa (pv 0) jad jac) jac)))) (jae dq hr.m rfl jao (jaa (pv 1) jad jac))))
    (jaf (jbb PassesOwn.never rfl (jba (pv 4)) (jau (i:=5) S.nd rfl (Or.inl rfl))
    (jag (jbb PassesOwn.never rfl (jba (pv 3)) (jau (i:=6) S.nd rfl (Or.inl rfl))
    (jaf (jar (i:=7) S.nd rfl (Or.inl rfl) (jae dS hr.m rfl jao (jaa (jal jaq (pv 5) jab) (jaa (jal jaq (pv 5) jab) (jaa (ja4 (jaa (jal jaq (pv 6) jab) (jaa (jal jaq (pv 6) jab) (jaa (jal jaq (pv 6) jab) (jaa jab jad jai) jav) jav) jav)) jad jaE) jav) jav)))
    (jaf (jaM (jat (jg4 (jiO hr)) (jbi jja (pv 7) jbG (jbH jab)) (ja4 (jaa jab (jaa jab (jaa jab jad jai) jai) jai)) (jaw _))
    (jag jhs)
    jax)
    (jag (jbb PassesOwn.never rfl (jbT (ja4 (jaa (pv 7) (jaa (jae dk hr.m rfl jao (jaa (pv 7) jad jac)) jad jaB) jac))) (jau (i:=8) S.nd rfl (Or.inl rfl))
    (jag (jaM (jbO (jae dF hr.m rfl jao (jaa (pv 8) (jaa (pv 0) (jaa (pv 1) (jaa (pv 2) jad jac) jac) jac) jac)))
    (jag (jan (jae dW hr.m rfl jao (jaa (jal jaq (pv 8) jab) (jaa (jal jaq (pv 8) jab) (jaa (jal jaq (pv 8) jab) (jaa (jal jaq (pv 8) jab) jad jav) jav) jav) jav))))
    jax)))))))))
    (jag (jan jcG))))),?_⟩
  walk_at "rf";obtain⟨rs,ha1,ha2⟩:=id ha;obtain⟨rs',hb1,hb2⟩:=id hb;have lr:=ha2.len;have lr':=hb2.len;have n3:=fp.n3;have n8:=fp.n8;have m3:=fq.n3;have m8:=fq.n8;have wl:∀{n i:Nat},i<n->wrp n i<n:=fun h=>xaz _ (by omega);refine⟨a,rs,rfl,ha1,by omega,by omega,fun L H1 es s1 e1 l1 p1=>⟨L,rfl,⟨_,SqL.of e1⟩,fun acc hacc=>?_⟩⟩;refine jg5 (K:=K) (a:=L) (zs:=es.map V.ref) (fun i y J=>∃r:Addr,y=.ref r/\J r=some (.tup [.int (ja6 (pt ps (wrp ps.length i)) (pt ps i)).x,.int (ja6 (pt ps (wrp ps.length i)) (pt ps i)).y,.int (ja6 (pt ps (wrp ps.length i)) (pt ps i)).z])) (fun i y J J' ⟨r,h1,h2⟩ st=>⟨r,h1,st _ _ h2⟩) (by rw[xaa];omega) hacc (SqL.of e1) (fun i z H5 R hz s5 hR=>?_) fun ys H2 s2 e2 l2 p2=>?_
  . have il:i < ps.length:=by have:=(xae.mp hz).1; rw[xaa] at this; omega
    rw[jbC (by omega)] at hz;cases hz;have pi:=p1 i (by omega);rw[lr] at pi;have s15:=s1.trans s5;have q0:=((ha2.keep s15.t).get (wl il)).2;have q1:=((ha2.keep s15.t).get il).2;have kE:SqT K H5 (ad es i) [.ref (ad rs (wrp ps.length i)),.ref (ad rs i)]:=SqT.of (s5 _ _ pi);walk_at "rf";exact ixT kE rfl (ixT kE rfl ⟨_,_,_,_,rfl,q0,q1,fun g H6 s6 e6=>hR _ _ s6 ⟨g,rfl,e6⟩⟩)
  obtain⟨as,rfl⟩:∃as:List Addr,ys=as.map V.ref:=jfH fun i y hy=>let ⟨r,h1,_⟩:=p2 i y hy;⟨r,h1⟩;have la:as.length=ps.length:=by rw[xaa,xaa] at l2;omega
  have s02:=s1.trans s2;have pA:∀j,j<ps.length->H2 (ad as j)=some (.tup [.int (ja6 (pt ps (wrp ps.length j)) (pt ps j)).x,.int (ja6 (pt ps (wrp ps.length j)) (pt ps j)).y,.int (ja6 (pt ps (wrp ps.length j)) (pt ps j)).z]):=fun j hj=>by
    obtain⟨r,h1,h2⟩:=p2 j _ (jbC (by omega));cases h1;exact h2
  have kb:SqT K H2 b (rs'.map V.ref):=SqT.of (s02 _ _ hb1);refine⟨⟨_,kb⟩,fun acc2 hacc2=>?_⟩;refine jlU (K:=K) (a:=b) (zs:=rs'.map V.ref) (fun i y J=>∃r:Addr,y=.ref r/\J r=some (.tup [.ref e,.ref (ad rs' i)])) (fun i y J J' ⟨r,h1,h2⟩ st=>⟨r,h1,st _ _ h2⟩) (by rw[xaa];omega) hacc2 kb (fun i z H5 R hz s5 hR=>?_) fun ys H3 s3 e3 l3 p3=>?_
  . have il:i < rs'.length:=by have:=(xae.mp hz).1; rw[xaa] at this; omega
    rw[jbC il] at hz;cases hz;walk_at "rf";exact⟨by decide,fun p hp=>hR _ _ (Same.new hp _) ⟨p,rfl,jam⟩⟩
  obtain⟨bs,rfl⟩:∃bs:List Addr,ys=bs.map V.ref:=jfH fun i y hy=>let ⟨r,h1,_⟩:=p3 i y hy;⟨r,h1⟩;have lb:bs.length=qs.length:=by rw[xaa,xaa] at l3;omega
  have pB:∀j,j<qs.length->H3 (ad bs j)=some (.tup [.ref e,.ref (ad rs' j)]):=fun j hj=>by
    obtain⟨r,h1,h2⟩:=p3 j _ (jbC (by omega));cases h1;exact h2
  have s03:=s02.trans s3;refine⟨b,rs',rfl,s03 _ _ hb1,by omega,by omega,fun L2 H4 es2 s4 e4 l4 p4=>?_⟩;refine⟨acc2,L2,_,_,rfl,rfl,s4 _ _ e3,e4,xbb (jaS (by rw[xaa,xaa];omega)),fun PL hPL=>?_⟩;rw[<- xaq];refine jbJ hPL fun J0 s5 e5=>⟨PL,rfl,⟨_,SqL.of e5⟩,?_⟩;have s05:=s03.trans (s4.trans s5);have s25:=s3.trans (s4.trans s5);have s35:=s4.trans s5;have hA0:J0 acc=some (.lst (as.map V.ref)):=s25 _ _ e2;have lbs:(bs++es2).length=2*qs.length:=by rw[xao];omega
  have pP:∀i,i<2*qs.length->∃r1 r2:Addr,J0 (ad (bs++es2) i)=some (.tup [.ref r1,.ref r2])/\Is4 J0 r1 (pyE o qs i).1/\Is4 J0 r2 (pyE o qs i).2/\SpC false (pyE o qs i).1/\SpB (pyE o qs i).2:=fun i hi=>by
    unfold pyE;by_cases c:i<qs.length
    . rw[if_pos c]
      refine⟨e,ad rs' i,?_,he.keep s05,((hb2.keep s05.t).get c).2,bo,fq.bp _ (jaD c)⟩;rw[show ad (bs++es2) i=ad bs i by unfold ad;rw[xac,xac,xa3 (by omega)]];exact s35 _ _ (pB i c)
    . rw[if_neg c]
      have c':i-qs.length<qs.length:=by omega
      refine⟨ad rs' (wrp qs.length (i-qs.length)),ad rs' (i-qs.length),?_,((hb2.keep s05.t).get (wl c')).2,((hb2.keep s05.t).get c').2,(fq.bp _ (jaD (wl c'))).c,fq.bp _ (jaD c')⟩;rw[show ad (bs++es2) i=ad es2 (i-qs.length) by unfold ad;rw[xac,xac,xaP (by omega),lb]];have:=p4 (i-qs.length) (by omega);rw[lr'] at this;exact s5 _ _ this
  refine jcr (K:=K) (a:=PL) (xs:=(bs++es2).map V.ref) (fun i σ J=>Same J0 J/\∃o5 o6 o7 o8:Option V,σ=[some (.ref a),some (.ref b),some (.ref e),some (.ref acc),some (.ref PL),o5,o6,o7,o8]/\∀i',i'<i->∀j,j<ps.length->¬CdB (rqh o ps qs i' j) ps qs o) ⟨Same.refl _,none,none,none,none,rfl,fun _ h=>absurd h (xa9 _)⟩ (fun i σ J _ h=>SqL.of (h.1 _ _ e5)) ?_ ?_
  . rintro i v σ J hi ⟨sJ,o5,o6,o7,o8,rfl,hz⟩
    have il:i<2*qs.length:=by have:=(xae.mp hi).1;rw[xaa] at this;omega
    rw[jbC (by omega)] at hi;cases hi;obtain⟨r1,r2,f1,f2,f3,f4,f5⟩:=pP i il;walk_at "rf";refine⟨⟨_,SqL.of (sJ _ _ hA0)⟩,jcr (K:=K) (a:=acc) (xs:=as.map V.ref) (fun j σ J'=>Same J0 J'/\∃o6 o7 o8:Option V,σ=[some (.ref a),some (.ref b),some (.ref e),some (.ref acc),some (.ref PL),some (.ref (ad (bs++es2) i)),o6,o7,o8]/\∀j',j'<j->¬CdB (rqh o ps qs i j') ps qs o) ⟨sJ,_,_,_,rfl,fun _ h=>absurd h (xa9 _)⟩ (fun i σ J _ h=>SqL.of (h.1 _ _ hA0)) ?_ ?_⟩
    . rintro j v σ J' hj ⟨sJ',o6',o7',o8',rfl,hz'⟩
      have jl:j<ps.length:=by have:=(xae.mp hj).1;rw[xaa] at this;omega
      rw[jbC (by omega)] at hj;cases hj;have kA:SqT K J' (ad as j) [.int (arr (pt ps (wrp ps.length j)) (pt ps j)).x,.int (arr (pt ps (wrp ps.length j)) (pt ps j)).y,.int (arr (pt ps (wrp ps.length j)) (pt ps j)).z]:=SqT.of ((s25.trans sJ') _ _ (pA j jl));have kE:SqT K J' (ad (bs++es2) i) [.ref r1,.ref r2]:=SqT.of (sJ' _ _ f1);walk_at "rf";refine ixT kE rfl (ixT kE rfl (ixT kA rfl (ixT kA rfl (ixT kA rfl ⟨by decide,fun p hp=>?_⟩))));refine jbJ hp fun J1 u1 d1=>?_;have sb1:=fp.bp _ (jaD (wl jl));have sb2:=fp.bp _ (jaD jl);refine⟨r1,r2,p,_,_,_,rfl,f2.keep (sJ'.trans u1),f3.keep (sJ'.trans u1),⟨d1,jpW sb1 sb2⟩,fun g J2 u2 d2=>?_⟩;have rsm:=jpX f4 f5 sb1 sb2;have hg:Is4 J2 g (rqh o ps qs i j):=⟨d2,rsm⟩;have sj2:=sJ'.trans (u1.trans u2);have nxt:¬CdB (rqh o ps qs i j) ps qs o->∀j',j'<j+1->¬CdB (rqh o ps qs i j') ps qs o:=fun n j' h'=>by
        rcases xbJ j' j with c | c
        . exact hz' j' c
        . rw[show j'=j by omega]
          exact n
      generalize erq:rqh o ps qs i j=r at hg nxt;refine⟨g,_,rfl,hg.sq,show ¬(HT.sIx 4 0 none=0/\HT.sIx 4 4 (some 3)=4) by decide,fun p1 hp1=>?_⟩;refine jbJ hp1 fun J3 u3 d3=>⟨by decide,fun p2 hp2=>?_⟩;refine jbJ hp2 fun J4 u4 d4=>?_;have sj4:=sj2.trans (u3.trans u4);refine jh8 (x:=[r.x,r.y,r.z]) (y:=[0,0,0]) (SqT.of (u4 _ _ d3)) (SqT.of d4) ⟨_,rfl,?_⟩;by_cases c:r.x=0/\r.y=0/\r.z=0
      . rw[decide_eq_true (by rw[c.1,c.2.1,c.2.2]),if_pos rfl]
        exact⟨sj4,nxt fun h=>h.1 c⟩
      . rw[decide_eq_false (fun z=>c (by simp at z; exact z)),if_neg (by decide)]
        refine⟨g,[r.x,r.y,r.z,r.w],rfl,(hg.keep (u3.trans u4)).1,show 4<=10 by decide,fun g' J5 u5 d5=>⟨by decide,fun p3 hp3=>?_⟩⟩;have hg':Is4 J5 g' (jb8 r):=Is4.neg d5 hg.2;have cn:¬((jb8 r).x=0/\(jb8 r).y=0/\(jb8 r).z=0):=fun ⟨h1,h2,h3⟩=>c ⟨xaV.mp h1,xaV.mp h2,xaV.mp h3⟩;refine jbJ hp3 fun J6 u6 d6=>⟨⟨_,SqT.of d6⟩,jcS (K:=K) (a:=p3) (xs:=[.ref g,.ref g']) (fun k σ J7=>Same J6 J7/\∃o8:Option V,σ=[some (V.ref a),some (V.ref b),some (V.ref e),some (V.ref acc),some (V.ref PL),some (V.ref (ad (bs++es2) i)),some (V.ref (ad as j)),some (V.ref g),o8]/\(1<=k->ptB r ps qs o=false)/\(2<=k->ptB (jb8 r) ps qs o=false)) ⟨Same.refl _,_,rfl,fun h=>absurd h (by decide),fun h=>absurd h (by decide)⟩ (fun i σ J _ h=>SqT.of (h.1 _ _ d6)) ?_ ?_⟩
        . rintro k v σ J7 hk ⟨s7,o8,rfl,b1,b2⟩
          obtain⟨gg,F,rfl,hF,nF,sel,nx⟩:∃(gg:Addr) (F:Pt),v=.ref gg/\Is4 J6 gg F/\¬(F.x=0/\F.y=0/\F.z=0)/\(ptB F ps qs o=true->CdB r ps qs o/\F=if ptB r ps qs o=true then r else jb8 r)/\(ptB F ps qs o=false->(1<=k+1->ptB r ps qs o=false)/\(2<=k+1->ptB (jb8 r) ps qs o=false)):=by
            have hl2:k<2:=(xae.mp hk).1;have k2:k=0\/k=1:=by omega
            rcases k2 with rfl | rfl
            . cases hk
              exact⟨g,r,rfl,hg.keep (u3.trans (u4.trans (u5.trans u6))),c,fun h=>⟨⟨c,.inl h⟩,by rw[if_pos h]⟩,fun h=>⟨fun _=>h,fun h=>absurd h (by decide)⟩⟩
            . cases hk
              exact⟨g',jb8 r,rfl,hg'.keep u6,cn,fun h=>⟨⟨c,.inr h⟩,by rw[if_neg (by rw[b1 (by decide)];decide)]⟩,fun h=>⟨fun _=>b1 (by decide),fun _=>h⟩⟩
          have sA:=s05.trans (sj4.trans (u5.trans (u6.trans s7)));walk_at "rf";refine⟨gg,a,b,e,F,o,ps,qs,rfl,hF.keep s7,ha.keep sA,hb.keep sA,he.keep sA,by omega,by omega,?_⟩;refine⟨_,rfl,?_⟩;cases hB:ptB F ps qs o with
          | false =>
            rw[if_neg (by decide)];exact⟨s7,nx hB⟩
          | true =>
            rw[if_pos rfl];have kF:SqT K J7 gg [.int F.x,.int F.y,.int F.z,.int F.w]:=(hF.keep s7).sq;have smF:=hF.2.small;obtain⟨f,h1,h2,h3⟩:=jn5 nF hF.2 hB;refine ixT kF rfl (ixT kF rfl (ixT kF rfl (ixT kF rfl ⟨F.x,F.y,F.z,F.w,rfl,smF.1,smF.2.1,smF.2.2.1,smF.2.2.2,nF,fun g8 J8 s8 e8=>?_⟩)));rw[h1] at e8;obtain⟨cdb,eF⟩:=sel hB;exact q g8 J8 f (sA.trans s8) ⟨e8,h3⟩ h2 ⟨i,j,hz,hz',jl,by rw[erq];exact cdb,F,by rw[erq];exact eF,h1⟩
        . rintro σ J7 ⟨s7,o8,rfl,b1,b2⟩
          exact⟨sj4.trans (u5.trans (u6.trans s7)),_,_,_,rfl,nxt fun h=>by
            rcases h.2 with h | h
            . rw[b1 (show 1<=2 by decide)] at h;cases h
            . rw[b2 (show 2<=2 by decide)] at h;cases h⟩
    . rintro σ J' ⟨sJ',o6',o7',o8',rfl,hz'⟩
      rw[xaa,la] at hz';exact⟨sJ',_,_,_,_,rfl,fun i' h'=>by
        rcases xbJ i' i with c | c
        . exact hz i' c
        . rw[show i'=i by omega]
          exact hz'⟩
  . rintro σ J ⟨sJ,o5,o6,o7,o8,rfl,hz⟩
    exfalso;obtain⟨i,j,hi,hj,hc⟩:=ex;rw[xaa,lbs] at hz;exact hz i hi j hj hc
def Ex1 (ps qs fs:List Pt) (f0 s:Pt):Prop:=(∃f∈fs,ptB (jb8 f) ps qs s=true)\/ptB f0 ps qs s=true\/ptB (jb8 f0) ps qs s=true\/∃i j,i<2*qs.length/\j<ps.length/\CdB (rqh s ps qs i j) ps qs s
def FcG (fs:List Pt):Prop:=∀f∈fs,gl [f.x,f.y,f.z,f.w]=1/\¬(f.x=0/\f.y=0/\f.z=0)
inductive spPpi (vs:List V) (H:Hp) (Q:VK):Prop
 | mk (a b e l:Addr) (rs:List Addr) (ps qs fs:List Pt) (s:Pt) (_:vs=[.ref a,.ref b,.ref e,.ref l]) (_:BM H a ps) (_:BM H b qs) (_:Is4 H e s) (_:Fre ps s) (_:Fre qs s) (_:SpC false s) (_:Cor H l rs fs) (_:fs.length<=9) (_:FcG fs) (_:(∀f0,PlF (rgQ (pt ps 0) (pt ps 1) (pt ps 2)) f0->Ex1 ps qs fs f0 s)) (_:∀(g:Addr) (H':Hp) (f:Pt),Same H H'->Is4 H' g f->Tol f ps qs s->PpR ps qs fs s f->Q (.ref g) H')
def spPp:Sp:=fun vs H Q _=>spPpi vs H Q
theorem ok_pp (T:Tx K mg t1 t2) (F:At K mg "parting_plane" jb0 ["one","other","spot","faces"] []) (di:jak P w K mg base CX0 7 "plane_of" ["board"] [] jb4) (dk:jak P w K mg base CX0 2 "turned_about" ["plane"] [] jdr) (dF:jak P w K mg base CX0 5 "is_parting" ["plane","one","other","spot"] [] spIp) (Do:jak P w K mg base CX0 6 "plane_along_edges" ["one","other","spot"] [] jpY):jak P w K mg base CX0 8 "parting_plane" ["one","other","spot","faces"] [] spPp:=by
  refine F.ok jcL (by walk_at "ar") (fun f cdv A outer s H vs Q E hr h=>?_);obtain⟨a,b,e,l,rs,ps,qs,fs,o,rfl,ha,hb,he,fp,fq,bo,⟨cl,cs⟩,l9,fg,ex,q⟩:=h;have S:=jcL;refine⟨_,(jaf (jar (i:=4) S.nd rfl (Or.inl rfl) (jae di hr.m rfl jao (jaa (pv 0) jad jac)))
    (jaf (jbb PassesOwn.never rfl (jba (jap jfX (jaF rfl (N':=["face"]) (ix:=[]) (by walk_at "cs") (jba (pv 3)) (fun _ _ _ _=>jau (i:=0) (show (["face"]:List Str).Nodup from by decide +kernel) rfl (Or.inl rfl)) (fun _ _ _ _=>jaK) (fun _ _ _ _=>(jae dk hr.m rfl jao (jaa (pv 0) jad jac)))) (jaU (jaa (pv 4) (jaa (jae dk hr.m rfl jao (jaa (pv 4) jad jac)) jad jaB) jac)))) (jau (i:=5) S.nd rfl (Or.inl rfl))
    (jag (jaM (jbO (jae dF hr.m rfl jao (jaa (pv 5) (jaa (pv 0) (jaa (pv 1) (jaa (pv 2) jad jac) jac) jac) jac)))
    (jag (jan (pv 5)))
    jax)))
    (jag (jan (jae Do hr.m rfl jao (jaa (pv 0) (jaa (pv 1) (jaa (pv 2) jad jac) jac) jac)))))),?_⟩
  walk_at "rf";refine jcE ha fp.n3 fp.na fp.bp fun g0 H1 f0 s1 hf0 pb0 h0=>?_;try walk_at "rf"
  have lc:=cs.len;have kl:SqL K H1 l (rs.map V.ref):=SqL.of (s1 _ _ cl);refine⟨⟨_,kl⟩,fun acc hacc=>?_⟩;refine jg5 (K:=K) (a:=l) (zs:=rs.map V.ref) (fun i y J=>∃r:Addr,y=.ref r/\Is4 J r (jb8 (pt fs i))) (fun i y J J' ⟨r,h1,h2⟩ st=>⟨r,h1,st _ _ h2.1,h2.2⟩) (by rw[xaa];omega) hacc kl (fun i z H5 R hz s5 hR=>?_) fun ys H2 s2 e2 l2 p2=>?_
  . have il:i < fs.length:=by have:=(xae.mp hz).1; rw[xaa] at this; omega
    obtain⟨b1,b2⟩:=(cs.keep (s1.trans s5).t).get il;rw[b1] at hz;cases hz;walk_at "rf";exact⟨_,[(pt fs i).x,(pt fs i).y,(pt fs i).z,(pt fs i).w],rfl,b2.1,show 4<=10 by decide,fun t H6 s6 e6=>hR _ _ s6 ⟨t,rfl,Is4.neg e6 b2.2⟩⟩
  obtain⟨as,gs,rfl,hgs,lg,pg⟩:=jku ys (fun i F=>F=jb8 (pt fs i)) fun i y hy=>by
    obtain⟨r,h1,h2⟩:=p2 i y hy;exact⟨r,_,h1,rfl,h2⟩
  rw[xaa,xaa] at l2;rw[xaa] at lg;have h02:=h0.keep s2;refine⟨g0,[f0.x,f0.y,f0.z,f0.w],rfl,h02.1,show 4<=10 by decide,fun g1 H3 s3 d3=>⟨by decide,fun p hp=>?_⟩⟩;have h13:Is4 H3 g1 (jb8 f0):=Is4.neg d3 h02.2;refine jbJ hp fun H4 s4 d4=>?_;refine⟨acc,p,_,_,rfl,rfl,s4 _ _ (s3 _ _ e2),d4,xbb (jaS (by rw[xaa];simp;omega)),fun PL hPL=>?_⟩;rw[show as.map V.ref++[V.ref g0,V.ref g1]=(as++[g0,g1]).map V.ref by rw[xaq];rfl];refine jbJ hPL fun J0 s5 d5=>⟨PL,rfl,⟨_,SqL.of d5⟩,?_⟩;have s35:=s3.trans (s4.trans s5);have s05:=s1.trans (s2.trans s35);have hS:Sps J0 (as++[g0,g1]) (gs++[f0,jb8 f0]):=(hgs.keep s35.t).app (.cons (h02.keep s35) (.cons (h13.keep (s4.trans s5)) .nil));have fgc:∀F∈gs++[f0,jb8 f0],gl [F.x,F.y,F.z,F.w]=1/\¬(F.x=0/\F.y=0/\F.z=0):=fun F hF=>by
    have neg:∀{f:Pt},(gl [f.x,f.y,f.z,f.w]=1/\¬(f.x=0/\f.y=0/\f.z=0))->gl [(jb8 f).x,(jb8 f).y,(jb8 f).z,(jb8 f).w]=1/\¬((jb8 f).x=0/\(jb8 f).y=0/\(jb8 f).z=0):=fun {f} h=>⟨(jhS f).trans h.1,fun ⟨a,b,c⟩=>h.2 ⟨xaV.mp a,xaV.mp b,xaV.mp c⟩⟩;rcases xaA.mp hF with h | h
    . obtain⟨j,hj,rfl⟩:=jbQ h
      rw[pg j (by rw[xaa];omega)];exact neg (fg _ (jaD (by omega)))
    . rcases xap.mp h with rfl | h
      . exact⟨hf0.g1,hf0.nz⟩
      . rw[xaO.mp h]
        exact neg ⟨hf0.g1,hf0.nz⟩
  have eL:gs=fs.map jb8:=by
    refine xcf (by rw[xaa];omega) fun j h1 h2=>?_;have hj:j<fs.length:=by rw[xaa] at h2;exact h2
    have h:=pg j (by rw[xaa];omega);unfold pt at h;rw[xac,xac,xad h1,xad hj] at h;rw[List.getElem_map];exact h
  have eC:gs++[f0,jb8 f0]=jpU fs f0:=by rw[eL];rfl
  have lall:(gs++[f0,jb8 f0]).length=(as++[g0,g1]).length:=hS.len.symm;refine jcr (K:=K) (a:=PL) (xs:=(as++[g0,g1]).map V.ref) (fun i σ J=>Same J0 J/\∃o5:Option V,σ=[some (.ref a),some (.ref b),some (.ref e),some (.ref l),some (.ref g0),o5]/\∀j,j<i->ptB (pt (gs++[f0,jb8 f0]) j) ps qs o=false) ⟨Same.refl _,none,rfl,fun _ h=>absurd h (xa9 _)⟩ (fun i σ J _ h=>SqL.of (h.1 _ _ d5)) ?_ ?_
  . rintro i v σ J hi ⟨sJ,o5,rfl,hz⟩
    have il:i<(gs++[f0,jb8 f0]).length:=by have:=(xae.mp hi).1;rw[xaa] at this;omega
    obtain⟨b1,b2⟩:=(hS.keep sJ.t).get il;rw[b1] at hi;cases hi;have sA:=s05.trans sJ;have n8:=fp.n8;have m8:=fq.n8;walk_at "rf";refine⟨_,a,b,e,_,o,ps,qs,rfl,b2,ha.keep sA,hb.keep sA,he.keep sA,by omega,by omega,?_⟩;refine⟨_,rfl,?_⟩;cases hB:ptB (pt (gs++[f0,jb8 f0]) i) ps qs o with
    | false =>
      rw[if_neg (by decide)];refine⟨sJ,fun j hj=>?_⟩;rcases xbJ j i with c | c
      . exact hz j c
      . rw[show j=i by omega]
        exact hB
    | true =>
      rw[if_pos rfl];have:=fgc _ (jaD il);exact q _ _ _ sA b2 ⟨this.1,this.2,hB⟩ ⟨f0,hf0,.inl ⟨i,by rw[<- eC];exact il,by rw[<- eC],hB,fun j hj=>by rw[<- eC];exact hz j hj⟩⟩
  . rintro σ J ⟨sJ,o5,rfl,hz⟩
    rw[xaa,<- lall] at hz;have no:∀F∈gs++[f0,jb8 f0],ptB F ps qs o=false:=fun F hF=>by
      obtain⟨j,hj,rfl⟩:=jbQ hF;exact hz j hj
    have sA:=s05.trans sJ;walk_at "rf";refine⟨a,b,e,ps,qs,o,rfl,ha.keep sA,hb.keep sA,he.keep sA,fp,fq,bo,?_,fun g H' f s' hg tf pr=>q g H' f (sA.trans s') hg tf ⟨f0,hf0,.inr ⟨by rw[<- eC];exact no,pr⟩⟩⟩;rcases ex f0 hf0 with ⟨f,hf,h⟩ | h | h | h
    . obtain⟨j,hj,rfl⟩:=jbQ hf
      have:=no (pt gs j) (xbS _ (jaD (by omega)));rw[pg j (by rw[xaa];omega),h] at this;cases this
    . rw[no f0 (by simp)] at h
      cases h
    . rw[no (jb8 f0) (by simp)] at h
      cases h
    . exact h
theorem PyF.fg {fs:List Pt} (h:PyF s qs fs):FcG fs:=by
 have tw:∀{f:Pt} {l:List Pt} {r:Pt},PlF r f->gl [(ttw f l).x,(ttw f l).y,(ttw f l).z,(ttw f l).w]=1/\¬((ttw f l).x=0/\(ttw f l).y=0/\(ttw f l).z=0):=fun {f l r} h=>by
  unfold ttw;split
  ·exact⟨h.g1,h.nz⟩
  ·exact⟨(jhS f).trans h.g1,fun ⟨a,b,c⟩=>h.nz ⟨xaV.mp a,xaV.mp b,xaV.mp c⟩⟩
 obtain⟨f0,gs,rfl,h0,l,hs⟩:=h;intro f hf;rcases xap.mp hf with rfl | hf
 ·exact tw h0
 ·obtain⟨j,hj,rfl⟩:=jbQ hf;obtain⟨f,h1,h2⟩:=hs j (by omega);rw[h2];exact tw h1
theorem RR.inv {α β:Type} {f:α->β} {l:List α} {m:List β} (h:RR (l.map f) m):∃l',RR l l'/\m=l'.map f:=by
  generalize hl:l.map f=L at h;induction h with
  | refl=>exact⟨l,.refl _,hl.symm⟩
  | rot k h ih =>
    obtain⟨l',h1,rfl⟩:=ih;exact⟨l'.drop k++l'.take k,.rot k h1,by rw[xaq,xbQ,xbM]⟩
  | rev h ih =>
    obtain⟨l',h1,rfl⟩:=ih;exact⟨l'.reverse,.rev h1,xbY.symm⟩
structure Scn (Z:Sht) (vs:List Tri) (ps:List Pt) (s:Pt):Prop where
 hw:1<=Z.w
 nz:Z.u.nz
 R:Rng vs
 n8:vs.length<=8
 rr:RR (vs.map (spt Z)) ps
 bp:∀p∈ps,SpB p
 fr:hgP (nP Z) s≠0
theorem jfP (Z:Sht) (v:Tri) (f:Pt):rG Z v*hgP f (spt Z v)=hgP f (jay Z v):=by
 obtain⟨e1,e2,e3,e4⟩:=ja9 Z v;unfold hgP hgt jay;simp only;rw[<- e1,<- e2,<- e3,<- e4];grind
theorem jdp (hw:1<=Z.w) (hv:1<=v.z) (f:Pt):(0<hgP f (spt Z v)↔0<hgP f (jay Z v))/\(0<=hgP f (spt Z v)↔0<=hgP f (jay Z v))/\(hgP f (spt Z v)<=0↔hgP f (jay Z v)<=0) :=
 sg2 (jaY hw hv) (show (0:Int)<1 by decide) (by rw[jfP,xbt])
theorem rg_sc (s A B P:Pt) (k m:Int):hgP (rgQ s ⟨k*A.x,k*A.y,k*A.z,k*A.w⟩ ⟨m*B.x,m*B.y,m*B.z,m*B.w⟩) P=k*m*hgP (rgQ s A B) P:=by
 simp only[jb6,ja3];grind
theorem jcF (Z:Sht) (v:Tri):jay Z v=⟨rG Z v*(spt Z v).x,rG Z v*(spt Z v).y,rG Z v*(spt Z v).z,rG Z v*(spt Z v).w⟩:=by
 obtain⟨e1,e2,e3,e4⟩:=ja9 Z v;rw[e1,e2,e3,e4];rfl
theorem jgf (Z:Sht) (s P:Pt) (a b:Tri):rG Z a*rG Z b*hgP (rgQ s (spt Z a) (spt Z b)) P=hgP (rgQ s (jay Z a) (jay Z b)) P:=by
 rw[jcF Z a,jcF Z b,rg_sc]
theorem jkv (Z:Sht) (a b c:Tri) (P:Pt):rG Z a*rG Z b*rG Z c*hgP (rgQ (spt Z a) (spt Z b) (spt Z c)) P=Z.w*Z.w*dt a b c*hgP (nP Z) P:=by
 have e0:=jjL Z a b c;have e1:=jjM Z a b c;have e2:=jjN Z a b c;have e3:=joZ Z a b c;unfold hgP rgQ nP hgt;simp only;unfold w3 at e0 e1 e2;unfold ud at e3;generalize rG Z a*rG Z b*rG Z c=g at *
 generalize jaG 0 (spt Z a) (spt Z b) (spt Z c)=x0 at *
 generalize jaG 1 (spt Z a) (spt Z b) (spt Z c)=x1 at *
 generalize jaG 2 (spt Z a) (spt Z b) (spt Z c)=x2 at *
 generalize jaG 3 (spt Z a) (spt Z b) (spt Z c)=x3 at *
 grind
theorem Scn.ord (h:Scn Z vs ps s):∃us,RR vs us/\ps=us.map (spt Z)/\us.length=vs.length/\ps.length=vs.length:=by
 obtain⟨us,h1,h2⟩:=h.rr.inv;exact⟨us,h1,h2,h1.len,by rw[h2,xaa,h1.len]⟩
theorem Scn.mem (h:Scn Z vs ps s) :p∈ps↔∃v∈vs,p=spt Z v:=by
 rw[h.rr.mem,xai];exact⟨fun ⟨v,a,b⟩=>⟨v,a,b.symm⟩,fun ⟨v,a,b⟩=>⟨v,a,b.symm⟩⟩
theorem Scn.na (h:Scn Z vs ps s):¬jbn (pt ps 0) (pt ps 1) (pt ps 2):=jnJ h.hw h.nz h.R (by have:=h.n8;omega) h.rr
theorem Scn.own (h:Scn Z vs ps s):∃k m:Int,0<k/\m≠0/\∀P,k*hgP (rgQ (pt ps 0) (pt ps 1) (pt ps 2)) P=m*hgP (nP Z) P:=by
 have na:=h.na;obtain⟨us,h1,h2,h3,h4⟩:=h.ord;have n3:=h.R.n3;have hz:∀i,i<us.length->1<=(tr us i).z:=fun i hi=>h.R.hz _ (h1.mem.mp (jaJ hi));rw[h2,jbR (by omega),jbR (by omega),jbR (by omega)] at na |-
 have g:=xab (xab (jaY (Z:=Z) (v:=tr us 0) h.hw (hz 0 (by omega))) (jaY (Z:=Z) (v:=tr us 1) h.hw (hz 1 (by omega)))) (jaY (Z:=Z) (v:=tr us 2) h.hw (hz 2 (by omega)));have d0:dt (tr us 0) (tr us 1) (tr us 2)≠0:=fun z=>by
  have e0:=jjL Z (tr us 0) (tr us 1) (tr us 2);have e1:=jjM Z (tr us 0) (tr us 1) (tr us 2);have e2:=jjN Z (tr us 0) (tr us 1) (tr us 2);rw[z,xaj] at e0 e1 e2;refine na ⟨(xah.mp e0).resolve_right (by omega),?_,(xah.mp e2).resolve_right (by omega)⟩;have:=(xah.mp e1).resolve_right (by omega);omega
 have ww:0<Z.w*Z.w:=xab (by have:=h.hw;omega) (by have:=h.hw;omega);exact⟨_,_,g,xaF (by omega) d0,fun P=>jkv Z _ _ _ P⟩
theorem Scn.fre (h:Scn Z vs ps s):Fre ps s:=by
 obtain⟨us,h1,h2,h3,h4⟩:=h.ord;have n3:=h.R.n3;have n8:=h.n8;refine⟨by omega,by omega,h.na,h.bp,fun z=>?_⟩;obtain⟨k,m,k0,m0,e⟩:=h.own;have:=e s;rw[z,xaj] at this;rcases xah.mp this.symm with q | q
 ·exact m0 q
 ·exact h.fr q
theorem Scn.edgeS (h:Scn Z vs ps s):∃(oe:Nat->Tri × Tri) (sg:Bool),(∀i,i<ps.length->oe i∈prs vs/\(if sg=true then pt ps (wrp ps.length i)=spt Z (oe i).1/\pt ps i=spt Z (oe i).2 else pt ps (wrp ps.length i)=spt Z (oe i).2/\pt ps i=spt Z (oe i).1))/\∀e∈prs vs,∃i,i<ps.length/\oe i=e:=by
  obtain⟨us,h1,h2,h3,h4⟩:=h.ord;obtain⟨sg,hsg⟩:=jlp h1;have n3:=h.R.n3;have lp:ps.length=us.length:=by omega
  rw[lp];have wl:∀{i:Nat},i<us.length->wrp us.length i<us.length:=fun h=>xaz _ (by omega);cases sg with
  | true =>
    refine⟨fun i=>(tr us (wrp us.length i),tr us i),true,fun i hi=>⟨(hsg _).mp (edg_mem.mpr ⟨i,hi,rfl⟩),?_⟩,fun e he=>?_⟩
    . rw[if_pos rfl,h2,jbR (wl hi),jbR hi]
      exact⟨rfl,rfl⟩
    . obtain⟨i,hi,e1⟩:=edg_mem.mp ((hsg e).mpr he)
      exact⟨i,hi,e1.symm⟩
  | false =>
    refine⟨fun i=>(tr us i,tr us (wrp us.length i)),false,fun i hi=>⟨(hsg (tr us (wrp us.length i),tr us i)).mp (edg_mem.mpr ⟨i,hi,rfl⟩),?_⟩,fun e he=>?_⟩
    . rw[if_neg (by decide),h2,jbR (wl hi),jbR hi]
      exact⟨rfl,rfl⟩
    . obtain⟨i,hi,e1⟩:=edg_mem.mp ((hsg (swE e)).mpr he)
      refine⟨i,hi,?_⟩;have:swE e=(tr us (wrp us.length i),tr us i):=e1;have h2:=congrArg swE this;exact h2.symm
theorem Scn.edge (h:Scn Z vs ps s):∃oe:Nat->Tri × Tri,(∀i,i<ps.length->oe i∈prs vs/\((pt ps (wrp ps.length i)=spt Z (oe i).1/\pt ps i=spt Z (oe i).2)\/(pt ps (wrp ps.length i)=spt Z (oe i).2/\pt ps i=spt Z (oe i).1)))/\∀e∈prs vs,∃i,i<ps.length/\oe i=e:=by
 obtain⟨oe,sg,a,c⟩:=h.edgeS;refine⟨oe,fun i hi=>⟨(a i hi).1,?_⟩,c⟩;have:=(a i hi).2;cases sg with
 | true=>exact .inl this
 | false=>exact .inr this
theorem jkw {F:Pt} {h:Pt->Int} {m:Int} (hF:PlF r F) (k0:0<k) (m0:m≠0) (e:∀P,k*hgP r P=m*h P) (nn:∀c∈cs,0<=h c) (pos:∃c∈cs,0<h c):PosP (ttw F cs) h:=by
 obtain⟨g,σ,g0,s1,eg⟩:=hF.sg;have ee:∀P,g*k*hgP F P=σ*m*h P:=fun P=>by
  have h1:=eg P;have h2:=e P;grind
 have gk:=xab g0 k0;have c0:σ*m≠0:=xaF (by omega) m0;generalize σ*m=c at ee c0;rcases xav c0 with c1 | c1
 ·have en:∀P,g*k*hgP (jb8 F) P=-c*h P:=fun P=>by
   rw[jbo];have:=ee P;grind
  obtain⟨p,hp,pp⟩:=pos;have:¬∀c∈cs,0<=hgP F c:=fun z=>by
   have h1:=z p hp;have h2:=(sg2 gk (show 0 < -c by omega) (en p)).1.mpr pp;rw[jbo] at h2;omega
  unfold ttw;rw[if_neg this];exact⟨g*k,-c,gk,by omega,en⟩
 ·unfold ttw;rw[if_pos fun p hp=>(sg2 gk c1 (ee p)).2.1.mpr (nn p hp)];exact⟨g*k,c,gk,c1,ee⟩
theorem jiq {fs:List Pt} (h:Scn Z ws qs s) (sw:1<=s.w) (py:PyF s qs fs):∃ε,Pyr Z s ws ε fs:=by
 obtain⟨ε,e1,es⟩:∃ε:Int,(ε=1\/ε=-1)/\0<ε*hgP (nP Z) s:=by
  rcases xav h.fr with c | c
  ·exact⟨-1,.inr rfl,by omega⟩
  ·exact⟨1,.inl rfl,by omega⟩
 have ee:ε*ε=1:=by rcases e1 with rfl | rfl<;>rfl
 have ww:0<Z.w*Z.w:=xab (by have:=h.hw;omega) (by have:=h.hw;omega);have ew:=xab ww es;obtain⟨f0,gs,rfl,hf0,lg,sd⟩:=py;obtain⟨oe,o1,o2⟩:=h.edge;have n3:=h.R.n3;have p0:PosP (ttw f0 [s]) fun P=>ε*hgP (nP Z) P:=by
  obtain⟨k,m,k0,m0,e⟩:=h.own;refine jkw hf0 k0 (m:=m*ε) (xaF m0 (by omega)) (fun P=>?_) (fun c hc=>?_) ⟨s,by simp,es⟩
  ·rw[e];grind
  ·rw[xaO.mp hc];exact xan es
 have ce:∀a b c:Tri,-ε*hgP (rgQ s (jay Z a) (jay Z b)) (jay Z c)=Z.w*Z.w*(ε*hgP (nP Z) s)*dt a b c:=fun a b c=>by
  rw[jbh];grind
 have pi:∀i,i<qs.length->PosP (pt gs i) fun P=>-ε*hgP (rgQ s (jay Z (oe i).1) (jay Z (oe i).2)) P:=fun i hi=>by
  obtain⟨f,hf,ef⟩:=sd i hi;obtain⟨om,oo⟩:=o1 i hi;rw[ef];obtain⟨k,hk,ek⟩:=jb5 om;have m1:(oe i).1∈ws:=by rw[ek];exact jaJ hk
  have m2:(oe i).2∈ws:=by rw[ek];exact jaJ (xaz _ (by omega))
  have gg:=xab (jaY (Z:=Z) (v:=(oe i).1) h.hw (h.R.hz _ m1)) (jaY (Z:=Z) (v:=(oe i).2) h.hw (h.R.hz _ m2));obtain⟨τ,t1,te⟩:∃τ:Int,(τ=1\/τ=-1)/\∀P,rG Z (oe i).1*rG Z (oe i).2*hgP (rgQ s (pt qs (wrp qs.length i)) (pt qs i)) P=τ*hgP (rgQ s (jay Z (oe i).1) (jay Z (oe i).2)) P:=by
   rcases oo with ⟨x,y⟩ | ⟨x,y⟩
   ·exact⟨1,.inl rfl,fun P=>by rw[x,y,jgf,xbt]⟩
   ·exact⟨-1,.inr rfl,fun P=>by
     rw[x,y,je0,xbN,jgf];omega⟩
  refine jkw hf gg (m:=τ*-ε) (xaF (by omega) (by omega)) (fun P=>?_) (fun c hc=>?_) ?_
  ·rw[te];generalize hgP (rgQ s (jay Z (oe i).1) (jay Z (oe i).2)) P=x;have:τ*-ε*(-ε*x)=τ*(ε*ε)*x:=by grind
   rw[this,ee];grind
  ·obtain⟨v,hv,rfl⟩:=h.mem.mp hc;have h1:=jfP Z v (rgQ s (jay Z (oe i).1) (jay Z (oe i).2));have h2:rG Z v*(-ε*hgP (rgQ s (jay Z (oe i).1) (jay Z (oe i).2)) (spt Z v))=1*(Z.w*Z.w*(ε*hgP (nP Z) s)*dt (oe i).1 (oe i).2 v):=by
    rw[<- ce,<- h1];grind
   exact (sg2 (jaY h.hw (h.R.hz v hv)) (by decide) h2).2.1.mpr (xaf (xan ew) (h.R.own hv _ om))
  ·obtain⟨j,hj,j1,j2⟩:=ja1 (n:=ws.length) (i:=k) (j:=(k+1) % ws.length) n3;have dj:=jbe h.R.tp n3 hk hj (Ne.symm j2) (Ne.symm j1);have hv:=jaJ hj;refine⟨spt Z (tr ws j),h.mem.mpr ⟨_,hv,rfl⟩,?_⟩;have h1:=jfP Z (tr ws j) (rgQ s (jay Z (oe i).1) (jay Z (oe i).2));have h2:rG Z (tr ws j)*(-ε*hgP (rgQ s (jay Z (oe i).1) (jay Z (oe i).2)) (spt Z (tr ws j)))=1*(Z.w*Z.w*(ε*hgP (nP Z) s)*dt (oe i).1 (oe i).2 (tr ws j)):=by
    rw[<- ce,<- h1];grind
   refine (sg2 (jaY h.hw (h.R.hz _ hv)) (by decide) h2).1.mpr (xab ew ?_);rw[ek];exact dj
 refine⟨ε,es,⟨_,xaS,p0⟩,fun e he=>?_,fun f hf=>?_⟩
 ·obtain⟨i,hi,rfl⟩:=o2 e he;exact⟨pt gs i,xag _ (jaD (by omega)),pi i hi⟩
 ·rcases xap.mp hf with rfl | hf
  ·exact .inl p0
  ·obtain⟨i,hi,rfl⟩:=jbQ hf;exact .inr ⟨oe i,(o1 i (by omega)).1,pi i (by omega)⟩
theorem Scn.na2 (h:Scn Z ws qs s) (sw:1<=s.w):∀i,i<qs.length->¬jbn s (pt qs (wrp qs.length i)) (pt qs i):=fun i hi ⟨z0,z1,z2⟩=>by
 obtain⟨oe,o1,o2⟩:=h.edge;obtain⟨om,oo⟩:=o1 i hi;obtain⟨k,hk,ek⟩:=jb5 om;have n3:=h.R.n3;have ww:0<Z.w*Z.w:=xab (by have:=h.hw;omega) (by have:=h.hw;omega);have f:∀P:Pt,hgP (rgQ s (pt qs (wrp qs.length i)) (pt qs i)) P=-((rgQ s (pt qs (wrp qs.length i)) (pt qs i)).w*P.w):=fun P=>by
  have e:hgP (rgQ s (pt qs (wrp qs.length i)) (pt qs i)) P=jaG 0 s (pt qs (wrp qs.length i)) (pt qs i)*P.x+-jaG 1 s (pt qs (wrp qs.length i)) (pt qs i)*P.y+jaG 2 s (pt qs (wrp qs.length i)) (pt qs i)*P.z-(rgQ s (pt qs (wrp qs.length i)) (pt qs i)).w*P.w:=rfl;rw[e,z0,z1,z2];omega
 have w0:(rgQ s (pt qs (wrp qs.length i)) (pt qs i)).w=0:=by
  have h1:=f s;rw[(jfN _ _ _).1] at h1;rcases xah.mp (show (rgQ s (pt qs (wrp qs.length i)) (pt qs i)).w*s.w=0 by omega) with q | q
  ·exact q
  ·omega
 obtain⟨j,hj,j1,j2⟩:=ja1 (n:=ws.length) (i:=k) (j:=(k+1) % ws.length) n3;have dj:=jbe h.R.tp n3 hk hj (Ne.symm j2) (Ne.symm j1);have fz:hgP (rgQ s (pt qs (wrp qs.length i)) (pt qs i)) (jay Z (tr ws j))=0:=by rw[f,w0];simp
 have rz:hgP (rgQ s (jay Z (oe i).1) (jay Z (oe i).2)) (jay Z (tr ws j))=0:=by
  rw[<- jgf];rcases oo with ⟨x,y⟩ | ⟨x,y⟩
  ·rw[<- x,<- y,fz,xaj]
  ·rw[<- x,<- y,je0,fz];simp
 rw[jbh] at rz;have hd:dt (oe i).1 (oe i).2 (tr ws j)≠0:=by rw[ek];exact xa1 dj
 have:=xaF (xaF (xa1 ww) h.fr) hd;omega
theorem jgg {F:Pt} (h1:Scn Z1 vs ps s) (h2:Scn Z2 ws qs s) (a:hgP F s<=0) (b:∀v∈vs,0<=hgP F (jay Z1 v)) (c:∀w∈ws,hgP F (jay Z2 w)<=0):ptB F ps qs s=true:=by
 unfold ptB;rw[decide_eq_true a,decide_eq_true fun p hp=>?_,decide_eq_true fun p hp=>?_]
 ·rfl
 ·obtain⟨v,hv,rfl⟩:=h2.mem.mp hp;exact (jdp h2.hw (h2.R.hz v hv) F).2.2.mpr (c v hv)
 ·obtain⟨v,hv,rfl⟩:=h1.mem.mp hp;exact (jdp h1.hw (h1.R.hz v hv) F).2.1.mpr (b v hv)
theorem jn6 {g:Pt} {τ m:Int} (h1:Scn Z1 vs ps s) (h2:Scn Z2 ws qs s) (sw:1<=s.w) (c:Cnd Z1 Z2 s vs ws g τ) (k0:0<k) (m0:m≠0) (e:∀P,k*hgP r P=m*hgP g P):CdB r ps qs s:=by
 obtain⟨t0,c1,c2,P,hP⟩:=c;have tt:0<τ*τ:=by
  rcases xav t0 with c | c
  ·exact xaN c c
  ·exact xab c c
 have kt:=xab k0 tt;have cc:=xaF m0 t0;have ee:∀P,k*(τ*τ)*hgP r P=m*τ*(τ*hgP g P):=fun P=>by
  have:=e P;grind
 have part:∀{F:Pt} {d:Int},0<d->(∀P,k*(τ*τ)*hgP F P=d*(τ*hgP g P))->ptB F ps qs s=true:=fun {F d} d0 eF =>
  jgg h1 h2 ((sg2 kt d0 (eF s)).2.2.mpr (c2 s (by simp))) (fun v hv=>(sg2 kt d0 (eF _)).2.1.mpr (c1 v hv)) fun w hw=>(sg2 kt d0 (eF _)).2.2.mpr (c2 _ (xag _ (xai.mpr ⟨w,hw,rfl⟩)))
 generalize m*τ=d at ee cc;refine⟨fun ⟨x0,y0,z0⟩=>?_,?_⟩
 ·have f:∀P,hgP r P=-(r.w*P.w):=fun P=>by
   unfold hgP hgt;rw[x0,y0,z0];omega
  have w0:r.w≠0:=fun z=>by
   have h:=ee P;rw[f,z,xaJ,Int.neg_zero,xaj] at h;rcases xah.mp h.symm with h | h
   ·exact cc h
   ·rcases xah.mp h with h | h
    ·exact t0 h
    ·exact hP h
  have n3:=h1.R.n3;have v0:=jaJ (l:=vs) (i:=0) (by omega);have W:0<(jay Z1 (tr vs 0)).w:=xab (show 0<Z1.w by have:=h1.hw;omega) (show 0<(tr vs 0).z by have:=h1.R.hz _ v0;omega);have e1:=ee s;have e2:=ee (jay Z1 (tr vs 0));rw[f] at e1 e2;have a1:=c2 s (by simp);have a2:=c1 _ v0;generalize τ*hgP g s=x at e1 a1;generalize τ*hgP g (jay Z1 (tr vs 0))=y at e2 a2;generalize k*(τ*τ)=q at kt e1 e2;rcases xav w0 with w1 | w1
  ·have p1:=xab kt (show 0 < -(r.w*s.w) by have:=xay w1 (show 0<s.w by omega);omega);have p2:=xab kt (show 0 < -(r.w*(jay Z1 (tr vs 0)).w) by have:=xay w1 W;omega);rcases xav cc with d1 | d1
   ·have:=xbC (xan d1) a2;omega
   ·have:=xax (xan d1) a1;omega
  ·have p1:=xak kt (show -(r.w*s.w)<0 by have:=xab w1 (show 0<s.w by omega);omega);have p2:=xak kt (show -(r.w*(jay Z1 (tr vs 0)).w)<0 by have:=xab w1 W;omega);rcases xav cc with d1 | d1
   ·have:=xbB (xan d1) a1;omega
   ·have:=xaf (xan d1) a2;omega
 ·rcases xav cc with d1 | d1
  ·exact .inr (part (d:=-d) (by omega) fun P=>by
    rw[jbo];have:=ee P;grind)
  ·exact .inl (part d1 ee)
theorem jhT (Z:Sht) (a b:Tri):arr (jay Z a) (jay Z b)=⟨rG Z a*rG Z b*(arr (spt Z a) (spt Z b)).x,rG Z a*rG Z b*(arr (spt Z a) (spt Z b)).y,rG Z a*rG Z b*(arr (spt Z a) (spt Z b)).z,rG Z a*rG Z b*(arr (spt Z a) (spt Z b)).w⟩:=by
 rw[jcF Z a,jcF Z b];unfold arr;simp only
 congr 1<;>grind
theorem jp0 (hw:1<=Z.w) (nz:Z.u.nz) (R:Rng vs) (he:e∈prs vs):¬((arr (spt Z e.1) (spt Z e.2)).x=0/\(arr (spt Z e.1) (spt Z e.2)).y=0/\(arr (spt Z e.1) (spt Z e.2)).z=0):=fun ⟨x0,y0,z0⟩=>by
 obtain⟨k,hk,rfl⟩:=jb5 he;have n3:=R.n3;obtain⟨j,hj,j1,j2⟩:=ja1 (n:=vs.length) (i:=k) (j:=(k+1) % vs.length) n3;have dj:=jbe R.tp n3 hk hj (Ne.symm j2) (Ne.symm j1);have hw2:=jhf (Z:=Z) hw (R.hz _ (jaJ (xaz (k+1) (show 0<vs.length by omega))));unfold arr at x0 y0 z0;simp only at x0 y0 z0;exact jfG hw nz (xa1 dj) (jjP _ hw2 (by omega) (by omega) (by omega))
theorem jp1 {fs:List Pt} {f0:Pt} (h1:Scn Z1 vs ps s) (h2:Scn Z2 ws qs s) (sw:1<=s.w) (py:PyF s qs fs) (z:KP (fs.map (jaO Z1)) vs=[]) (hf0:PlF (rgQ (pt ps 0) (pt ps 1) (pt ps 2)) f0):Ex1 ps qs fs f0 s:=by
 obtain⟨ε,Y⟩:=jiq h2 sw py;have dir:∀e∈prs vs,Dir Z1 e (arr (jay Z1 e.1) (jay Z1 e.2)):=fun e he=>by
  refine⟨rfl,fun hz=>jp0 h1.hw h1.nz h1.R he ?_,⟨-(jay Z1 e.2).w,(jay Z1 e.1).w,fun g=>by rw[jpw];grind⟩⟩;obtain⟨k,hk,rfl⟩:=jb5 he;have gg:=xab (jaY (Z:=Z1) (v:=tr vs k) h1.hw (h1.R.hz _ (jaJ hk))) (jaY (Z:=Z1) (v:=tr vs ((k+1) % vs.length)) h1.hw (h1.R.hz _ (jaJ (xaz _ (by omega)))));rw[jhT] at hz;exact⟨(xah.mp hz.1).resolve_left (xa1 gg),(xah.mp hz.2.1).resolve_left (xa1 gg),(xah.mp hz.2.2).resolve_left (xa1 gg)⟩
 have fc:=Y.fcs h2.hw h2.R sw;rcases jkn h1.hw h1.nz h2.hw h2.nz h1.R h2.R Y sw (fun e he=>⟨_,dir e he⟩) z with ⟨f,hf,h⟩ | h | h | ⟨e,he,p,q,pq,h⟩
 ·refine .inl ⟨f,hf,jgg h1 h2 ?_ (fun v hv=>?_) fun w hw=>?_⟩
  ·rw[jbo];have:=fc.nn f hf s (by simp);omega
  ·rw[jbo];have:=h v hv;omega
  ·rw[jbo];have:=fc.nn f hf _ (xag _ (xai.mpr ⟨w,hw,rfl⟩));omega
 ·obtain⟨k,m,k0,m0,e⟩:=h1.own;obtain⟨g,σ,g0,s1,eg⟩:=hf0.sg;have gk:=xab g0 k0;have cc:σ*m≠0:=xaF (by omega) m0;have ee:∀P,g*k*hgP f0 P=σ*m*hgP (nP Z1) P:=fun P=>by
   have h1:=eg P;have h2:=e P;grind
  generalize σ*m=c at cc ee;have en:∀P,g*k*hgP (jb8 f0) P=-c*hgP (nP Z1) P:=fun P=>by
   rw[jbo];have:=ee P;grind
  rcases xav cc with c1 | c1
  ·refine .inr (.inl (jgg h1 h2 ?_ (fun v hv=>?_) fun w hw=>?_))
   ·have:=(sg2 gk (show 0 < -c by omega) (en s)).2.1.mpr (h s (by simp));rw[jbo] at this;omega
   ·have:=(sg2 gk (show 0 < -c by omega) (en (jay Z1 v))).2.2.mpr (by rw[jeD];exact xaI _);rw[jbo] at this;omega
   ·have:=(sg2 gk (show 0 < -c by omega) (en (jay Z2 w))).2.1.mpr (h _ (xag _ (xai.mpr ⟨w,hw,rfl⟩)));rw[jbo] at this;omega
  ·refine .inr (.inr (.inl (jgg h1 h2 ?_ (fun v hv=>?_) fun w hw=>?_)))
   ·have:=(sg2 gk c1 (ee s)).2.1.mpr (h s (by simp));rw[jbo];omega
   ·have:=(sg2 gk c1 (ee (jay Z1 v))).2.2.mpr (by rw[jeD];exact xaI _);rw[jbo];omega
   ·have:=(sg2 gk c1 (ee (jay Z2 w))).2.1.mpr (h _ (xag _ (xai.mpr ⟨w,hw,rfl⟩)));rw[jbo];omega
 ·obtain⟨k,m,k0,m0,e⟩:=h1.own;obtain⟨g,σ,g0,s1,eg⟩:=hf0.sg;have gk:=xab g0 k0;have cc:σ*m≠0:=xaF (by omega) m0;have ee:∀P,g*k*hgP f0 P=σ*m*hgP (nP Z1) P:=fun P=>by
   have h1:=eg P;have h2:=e P;grind
  generalize σ*m=c at cc ee;have en:∀P,g*k*hgP (jb8 f0) P=-c*hgP (nP Z1) P:=fun P=>by
   rw[jbo];have:=ee P;grind
  rcases xav cc with c1 | c1
  ·refine .inr (.inr (.inl (jgg h1 h2 ?_ (fun v hv=>?_) fun w hw=>?_)))
   ·exact (sg2 gk (show 0 < -c by omega) (en s)).2.2.mpr (h s (by simp))
   ·exact (sg2 gk (show 0 < -c by omega) (en (jay Z1 v))).2.1.mpr (by rw[jeD];exact xaI _)
   ·exact (sg2 gk (show 0 < -c by omega) (en (jay Z2 w))).2.2.mpr (h _ (xag _ (xai.mpr ⟨w,hw,rfl⟩)))
  ·refine .inr (.inl (jgg h1 h2 ?_ (fun v hv=>?_) fun w hw=>?_))
   ·exact (sg2 gk c1 (ee s)).2.2.mpr (h s (by simp))
   ·exact (sg2 gk c1 (ee (jay Z1 v))).2.1.mpr (by rw[jeD];exact xaI _)
   ·exact (sg2 gk c1 (ee (jay Z2 w))).2.2.mpr (h _ (xag _ (xai.mpr ⟨w,hw,rfl⟩)))
 ·refine .inr (.inr (.inr ?_));obtain⟨τ,cn⟩:=h _ (dir e he);obtain⟨oe,o1,o2⟩:=h1.edge;obtain⟨j,hj,rfl⟩:=o2 e he;obtain⟨om,oo⟩:=o1 j hj;obtain⟨k,hk,ek⟩:=jb5 om;have m1:(oe j).1∈vs:=by rw[ek];exact jaJ hk
  have m2:(oe j).2∈vs:=by rw[ek];exact jaJ (xaz _ (by omega))
  have gg:=xab (jaY (Z:=Z1) (v:=(oe j).1) h1.hw (h1.R.hz _ m1)) (jaY (Z:=Z1) (v:=(oe j).2) h1.hw (h1.R.hz _ m2));obtain⟨d,d1,ed⟩:∃d:Int,(d=1\/d=-1)/\∀p q P,rG Z1 (oe j).1*rG Z1 (oe j).2*hgP (rgQ p q (arr (pt ps (wrp ps.length j)) (pt ps j))) P=d*hgP (rgQ p q (arr (jay Z1 (oe j).1) (jay Z1 (oe j).2))) P:=by
   rcases oo with ⟨x,y⟩ | ⟨x,y⟩
   ·refine⟨1,.inl rfl,fun p q P=>?_⟩;rw[x,y,jhT,jhl,xbt]
   ·refine⟨-1,.inr rfl,fun p q P=>?_⟩;rw[x,y,jhT,jhl];have:arr (spt Z1 (oe j).2) (spt Z1 (oe j).1)=⟨-1*(arr (spt Z1 (oe j).1) (spt Z1 (oe j).2)).x,-1*(arr (spt Z1 (oe j).1) (spt Z1 (oe j).2)).y,-1*(arr (spt Z1 (oe j).1) (spt Z1 (oe j).2)).z,-1*(arr (spt Z1 (oe j).1) (spt Z1 (oe j).2)).w⟩:=by
     unfold arr;simp only
     congr 1<;>grind
    rw[this,jhl];grind
  obtain⟨oe2,o3,o4⟩:=h2.edge;have lq:qs.length=ws.length:=(h2.ord).elim fun _ h=>h.2.2.2;obtain⟨i,hi,kk,mm,kk0,mm0,ei⟩:∃i,i<2*qs.length/\∃kk mm:Int,0<kk/\mm≠0/\∀D P,kk*hgP (rgQ (pyE s qs i).1 (pyE s qs i).2 D) P=mm*hgP (rgQ p q D) P:=by
   have sc1:∀(u v D P:Pt) (x y:Int),hgP (rgQ ⟨x*u.x,x*u.y,x*u.z,x*u.w⟩ ⟨y*v.x,y*v.y,y*v.z,y*v.w⟩ D) P=x*y*hgP (rgQ u v D) P:=fun u v D P x y=>by
    simp only[jb6,ja3];grind
   have sc2:∀(u v D P:Pt) (y:Int),hgP (rgQ u ⟨y*v.x,y*v.y,y*v.z,y*v.w⟩ D) P=y*hgP (rgQ u v D) P:=fun u v D P y=>by
    simp only[jb6,ja3];grind
   rcases pq with ⟨rfl,c,hc,rfl⟩ | ⟨e',he',rfl,rfl⟩
   ·obtain⟨i,hi,ei⟩:=jbQ (h2.mem.mpr ⟨c,hc,rfl⟩);refine⟨i,by omega,rG Z2 c,1,jaY h2.hw (h2.R.hz c hc),by decide,fun D P=>?_⟩;unfold pyE;rw[if_pos hi];simp only;rw[ei,jcF Z2 c,sc2,xbt]
   ·obtain⟨i,hi,rfl⟩:=o4 e' he';obtain⟨om2,oo2⟩:=o3 i hi;obtain⟨k2,hk2,ek2⟩:=jb5 om2;have x1:(oe2 i).1∈ws:=by rw[ek2];exact jaJ hk2
    have x2:(oe2 i).2∈ws:=by rw[ek2];exact jaJ (xaz _ (by omega))
    have gg2:=xab (jaY (Z:=Z2) (v:=(oe2 i).1) h2.hw (h2.R.hz _ x1)) (jaY (Z:=Z2) (v:=(oe2 i).2) h2.hw (h2.R.hz _ x2));have ey:pyE s qs (qs.length+i)=(pt qs (wrp qs.length i),pt qs i):=by
     unfold pyE;rw[if_neg (by omega),show qs.length+i-qs.length=i by omega]
    rcases oo2 with ⟨x,y⟩ | ⟨x,y⟩
    ·refine⟨qs.length+i,by omega,_,1,gg2,by decide,fun D P=>?_⟩;rw[ey];simp only;rw[x,y,jcF Z2 (oe2 i).1,jcF Z2 (oe2 i).2,sc1,xbt]
    ·refine⟨qs.length+i,by omega,_,-1,gg2,by decide,fun D P=>?_⟩;rw[ey];simp only;rw[x,y,jcF Z2 (oe2 i).1,jcF Z2 (oe2 i).2,sc1,jkl];grind
  refine⟨i,j,hi,hj,?_⟩;unfold rqh;refine jn6 h1 h2 sw cn (k:=kk*(rG Z1 (oe j).1*rG Z1 (oe j).2)) (m:=mm*d) (xab kk0 gg) (xaF mm0 (by omega)) fun P=>?_;have a1:=ei (arr (pt ps (wrp ps.length j)) (pt ps j)) P;have a2:=ed p q P;generalize rG Z1 (oe j).1*rG Z1 (oe j).2=G at a2;generalize hgP (rgQ (pyE s qs i).1 (pyE s qs i).2 (arr (pt ps (wrp ps.length j)) (pt ps j))) P=X at a1;generalize hgP (rgQ p q (arr (pt ps (wrp ps.length j)) (pt ps j))) P=Y at a1 a2;generalize hgP (rgQ p q (arr (jay Z1 (oe j).1) (jay Z1 (oe j).2))) P=W at a2;grind
theorem jgh (ps:List Pt) (o:Pt):hov ps o=(pt ps 0).w*(pt ps 0).w*hgP (rgQ (pt ps 0) (pt ps 1) (pt ps 2)) o:=by
 unfold hov jge upr cr3 ja6;rw[jb6];unfold ja3;simp only;grind
structure ShL (Z:Sht):Prop where
 s:Z.s.le 310000000
 c:Z.c.le 20000000
 d:Z.d.le 20000000
 w:Z.w=1
 nz:Z.u.nz
theorem ShB.l {d:Int} (h:ShB d Z) (l:d<=1000000):ShL Z:=⟨ja2 h.s (by omega),ja2 h.c (by omega),ja2 h.d (by omega),h.w,h.nz⟩
theorem jbv {b:Int} (h1:-a<=x) (h2:x<=a) (h3:-b<=y) (h4:y<=b):-(a*b)<=x*y/\x*y<=a*b:=by
 have h:=xco x y;have k1:x.natAbs<=a.natAbs:=by omega
 have k2:y.natAbs<=b.natAbs:=by omega
 have k3:=Nat.mul_le_mul k1 k2;rw[<- h,<- xco] at k3;have:0<=a*b:=xaf (by omega) (by omega);omega
theorem ShL.crn (h:ShL Z) (x:-4<=v.x/\v.x<=4) (y:-4<=v.y/\v.y<=4):(crn Z v).le 480000000:=by
 obtain⟨⟨s1,s2⟩,⟨s3,s4⟩,s5,s6⟩:=h.s;obtain⟨⟨c1,c2⟩,⟨c3,c4⟩,c5,c6⟩:=h.c;obtain⟨⟨d1,d2⟩,⟨d3,d4⟩,d5,d6⟩:=h.d;have a1:=jbv x.1 x.2 c1 c2;have a2:=jbv x.1 x.2 c3 c4;have a3:=jbv x.1 x.2 c5 c6;have b1:=jbv y.1 y.2 d1 d2;have b2:=jbv y.1 y.2 d3 d4;have b3:=jbv y.1 y.2 d5 d6;exact⟨⟨by show _<=_+_;omega,by show _+_<=_;omega⟩,⟨by show _<=_+_;omega,by show _+_<=_;omega⟩,by show _<=_+_;omega,by show _+_<=_;omega⟩
structure RowG (vs:List Tri):Prop where
 R:Rng vs
 n8:vs.length<=8
 pl:∀{v:Tri},v∈vs->(-4<=v.x/\v.x<=4)/\(-4<=v.y/\v.y<=4)/\v.z=1
theorem jhn (h:n<9):RowG (jek n):=⟨jly h,(jds n h).2,fun hv=>jfO h hv⟩
theorem RowG.vf {lv:Bool} (G:RowG vs):VF lv vs:=VF.six G.R fun v hv=>by
 have:=G.pl hv;unfold Tri.bd Bd;omega
theorem jmy {al:Tri} (nz:al.nz):1<=jge al al:=by
 have hn:∀x:Int,0<=x*x/\(x≠0->1<=x*x):=fun x=>by
  refine⟨?_,fun h=>?_⟩
  ·rcases Int.le_total 0 x with h | h
   ·exact xaf h h
   ·exact xbB h h
  ·rcases xav h with h | h
   ·exact xaN h h
   ·exact xab h h
 have h1:=hn al.x;have h2:=hn al.y;have h3:=hn al.z;unfold jge;by_cases x0:al.x=0
 ·by_cases y0:al.y=0
  ·have:=h3.2 fun z0=>nz ⟨x0,y0,z0⟩;omega
  ·have:=h2.2 y0;omega
 ·have:=h1.2 x0;omega
theorem jhU (ps:List (Addr × Tri)):(rfs ps).length=ps.length:=by unfold rfs;rw[xaa,xaa]
theorem jp2 {ps:List (Addr × Tri)} {z:V} (h:(rfs ps)[i]?=some z):∃hi:i<ps.length,z=.ref ps[i].1:=by
 have hi:=(xae.mp h).1;rw[jhU] at hi;refine⟨hi,?_⟩;unfold rfs at h;rw[xat,xat,xad hi] at h;exact (Option.some.inj h).symm
theorem ShB.crn {d:Int} (h:ShB d Z) (l:d<=1000000) (x:-4<=v.x/\v.x<=4) (y:-4<=v.y/\v.y<=4):(crn Z v).le 9000000:=by
 obtain⟨⟨s1,s2⟩,⟨s3,s4⟩,s5,s6⟩:=ja2 h.s l;obtain⟨⟨c1,c2⟩,⟨c3,c4⟩,c5,c6⟩:=ja2 h.c l;obtain⟨⟨d1,d2⟩,⟨d3,d4⟩,d5,d6⟩:=ja2 h.d l;have a1:=jbv x.1 x.2 c1 c2;have a2:=jbv x.1 x.2 c3 c4;have a3:=jbv x.1 x.2 c5 c6;have b1:=jbv y.1 y.2 d1 d2;have b2:=jbv y.1 y.2 d3 d4;have b3:=jbv y.1 y.2 d5 d6;exact⟨⟨by show _<=_+_;omega,by show _+_<=_;omega⟩,⟨by show _<=_+_;omega,by show _+_<=_;omega⟩,by show _<=_+_;omega,by show _+_<=_;omega⟩
theorem jkx {u:Tri} {d:Int} (h:u.le d) (l:d<=500000000):u.bd 60:=by
 obtain⟨⟨a,b⟩,⟨c,e⟩,f,g⟩:=h;unfold Tri.bd Bd;omega
def jcQ:List Pt->Pt
 | []=>⟨0,0,0,0⟩
 | p::l=>⟨p.x+(jcQ l).x,p.y+(jcQ l).y,p.z+(jcQ l).z,p.w+(jcQ l).w⟩
theorem jhV (f:Pt):∀l:List Pt,hgP f (jcQ l)=(l.map (hgP f)).sum
  | []=>by unfold jcQ hgP hgt;simp
  | p :: l => by
    have:=jhV f l;rw[xa5,xb6,<- this];show hgP f ⟨p.x+(jcQ l).x,p.y+(jcQ l).y,p.z+(jcQ l).z,p.w+(jcQ l).w⟩=_;generalize jcQ l=q;unfold hgP hgt;simp only;grind
def c4 (p:Pt) (k:Nat):Int:=if k=0 then p.x else if k=1 then p.y else if k=2 then p.z else p.w
theorem at4 {k:Nat} (h:k<4):atI [V.int p.x,V.int p.y,V.int p.z,V.int p.w] (0+(k:Int))=some (V.int (c4 p k)):=by
 have:k=0\/k=1\/k=2\/k=3:=by omega
 rcases this with rfl | rfl | rfl | rfl<;>rfl
theorem jmz (l:List Pt) (k:Nat):(l.map fun p=>c4 p k).sum=c4 (jcQ l) k:=by
  induction l with
  | nil=>unfold jcQ c4;simp
  | cons p l ih =>
    rw[xa5,xb6,ih];show _=c4 ⟨p.x+(jcQ l).x,p.y+(jcQ l).y,p.z+(jcQ l).z,p.w+(jcQ l).w⟩ k;generalize jcQ l=q;unfold c4;simp only;split
    . rfl
    . split
      . rfl
      . split<;>rfl
theorem jmA :∀{l:List Pt},(∀p∈l,p.bd n)->∀m,l.length<=2^m->(jcQ l).bd (n+m+1):=by
  intro l h m hm;have one:∀(g:Pt->Int),(∀p∈l,Bd n (g p))->((l.map g).sum).natAbs<=l.length*2^n:=fun g hg=>by
    clear h hm;induction l with
    | nil=>simp
    | cons p l ih =>
      have h1:=ih fun q hq=>hg q (xag _ hq);have h2:=hg p (by simp);rw[xa5,xb6,xaB,Nat.add_mul,Nat.one_mul];unfold Bd at h2;omega
  have fin:∀{x:Int},x.natAbs<=l.length*2^n->Bd (n+m+1) x:=fun {x} hx=>by
    unfold Bd;have:l.length*2^n<=2^m*2^n:=Nat.mul_le_mul_right _ hm;rw[<- Nat.pow_add] at this;refine xaY (xa4 hx this) (Nat.pow_lt_pow_right (by decide) (by omega))
  have e:∀k,(l.map fun p=>c4 p k).sum=c4 (jcQ l) k:=jmz l;exact⟨fin (by have:=one (fun p=>c4 p 0) (fun p hp=>(h p hp).1);rw[e] at this;exact this),fin (by have:=one (fun p=>c4 p 1) (fun p hp=>(h p hp).2.1);rw[e] at this;exact this),fin (by have:=one (fun p=>c4 p 2) (fun p hp=>(h p hp).2.2.1);rw[e] at this;exact this),fin (by have:=one (fun p=>c4 p 3) (fun p hp=>(h p hp).2.2.2);rw[e] at this;exact this)⟩
theorem jky:∀{l:List Pt},(∀p∈l,1<=p.w)->l≠[]->1<=(jcQ l).w
  | [p],h,_=>by have:=h p (by simp);show 1<=p.w+0;omega
  | p :: q :: l, h, _ => by
    have h1:=h p (by simp);have h2:=jky (l:=q::l) (fun x hx=>h x (xag _ hx)) (by simp);show 1<=p.w+(jcQ (q::l)).w;omega
theorem jir (h:r.bd n):(jbg r).bd n:=by
 unfold jbg;split
 ·exact⟨Bd.div h.1.neg,Bd.div h.2.1.neg,Bd.div h.2.2.1.neg,Bd.div h.2.2.2.neg⟩
 ·exact⟨Bd.div h.1,Bd.div h.2.1,Bd.div h.2.2.1,Bd.div h.2.2.2⟩
inductive spSwi (vs:List V) (H:Hp) (Q:VK):Prop
 | mk (b:Addr) (ps:List Pt) (_:vs=[.ref b]) (_:BM H b ps) (_:1<=ps.length) (_:ps.length<=17) (_:(∀p∈ps,p.bd 318/\1<=p.w)) (_:∀(g:Addr) (H':Hp),Same H H'->Is4 H' g (jbg (jcQ ps))->Q (.ref g) H')
def spSw:Sp:=fun vs H Q _=>spSwi vs H Q
theorem ok_sw (T:Tx K mg t1 t2) (F:At K mg "spot_within" jcz ["board"] []) (dZ:jak P w K mg base CX0 4 "made_spot" ["x","y","z","w"] [] jnl):jak P w K mg base CX0 5 "spot_within" ["board"] [] spSw:=by
 refine F.ok jdz (by walk_at "ar") (fun f cdv A outer s H vs Q E hr h=>?_);obtain⟨b,ps,rfl,⟨rs,hb,hs⟩,n1,n17,bp,q⟩:=h;have S:=jdz;refine⟨_,(jaf (jbV (i:=1) rfl S.nd rfl rfl (N':=["k","board"]) (ix:=[0]) (by walk_at "cs") (jaH rfl T.m_range (jaa jab jad jai)) (fun _ _ _ _=>jau (i:=0) (show (["k","board"]:List Str).Nodup from by decide +kernel) rfl (Or.inr rfl)) (fun _ _ _ _=>jaK) (fun _ _ _ _=>(jaz (jju (K:=K) rfl rfl) rfl T.m_sum boot_sum (jaa (jaF rfl (N':=["corner","k"]) (ix:=[0]) (CompScopeC.nest rfl rfl (by decide +kernel) (by decide +kernel) (by decide +kernel) (show ∀y:Str × NameKind,y∈_->y.2=NameKind.free->y.1∈(["k"]:List Str) from by decide +kernel) (.cons rfl (.inl rfl) rfl .nil)) (jm6 (K:=K) rfl (pv 1)) (fun _ _ _ _=>jau (i:=0) (show (["corner","k"]:List Str).Nodup from by decide +kernel) rfl (Or.inl rfl)) (fun _ _ _ _=>jaK) (fun _ _ _ _=>(jal (jaZ (K:=K) rfl) (pv 0) (pv 1)))) jad jcn))))
  (jag (jan (jae dZ hr.m rfl jao (jaa (jal ix_list (pv 1) jab) (jaa (jal ix_list (pv 1) jab) (jaa (jal ix_list (pv 1) jab) (jaa (jal ix_list (pv 1) jab) jad jav) jav) jav) jav))))),?_⟩
 have lr:=hs.len;have rng:∀g:Pt->Int,(List.range ps.length).map (fun i=>g (pt ps i))=ps.map g:=fun g=>by
  refine xcf (by simp) fun j h1 h2=>?_;have hj:j<ps.length:=by simpa using h1
  simp;unfold pt;rw[xac,xad hj];rfl
 have sb0:=jmA (fun p hp=>(bp p hp).1) 5 (by omega);have w1:1<=(jcQ ps).w:=jky (fun p hp=>(bp p hp).2) fun z=>by rw[z] at n1;exact absurd n1 (by decide)
 walk_at "rf";refine⟨by decide,by decide,fun acc hacc=>?_⟩;refine jfk (n:=4) (fun k=>.int (c4 (jcQ ps) k)) (by decide) hacc (fun k H3 R hk s3 hR=>?_) (fun H' s' e'=>?_)
 ·walk_at "rf";refine⟨⟨_,SqT.of (s3 _ _ hb)⟩,fun acc2 hacc2=>?_⟩;refine jms (fun i=>c4 (pt ps i) k) (by rw[xaa];omega) hacc2 (SqT.of (s3 _ _ hb)) (fun i z H4 R4 hz s4 hR4=>?_) (fun H4 s4 e4=>?_)
  ·have il:i<ps.length:=by have:=(xae.mp hz).1;rw[xaa] at this;omega
   obtain⟨b1,b2⟩:=(hs.keep (s3.trans s4).t).get il;rw[b1] at hz;cases hz;walk_at "rf";exact ixT b2.sq (at4 hk) (hR4 _ (Same.refl _))
  ·rw[xaa,lr,rng fun p=>c4 p k] at e4;refine⟨ps.map fun p=>c4 p k,?_⟩;refine⟨SqL.of e4,?_⟩;rw[jmz];exact hR _ s4
 ·have kS:SqL K H' acc [.int (jcQ ps).x,.int (jcQ ps).y,.int (jcQ ps).z,.int (jcQ ps).w]:=SqL.of e';try walk_at "rf"
  exact ixL kS rfl (ixL kS rfl (ixL kS rfl (ixL kS rfl ⟨jcQ ps,rfl,⟨Bd.mono sb0.1,Bd.mono sb0.2.1,Bd.mono sb0.2.2.1,Bd.mono sb0.2.2.2⟩,(jir sb0).sm' (by decide),by omega,fun g H2 s2 hg=>q g H2 (s'.trans s2) hg⟩)))
def jb7 (ps:List Pt):Pt:=jbg (jcQ ps)
def jiL (f s:Pt) (ps:List Pt):Pt:=jbg (jcD f.x f.y f.z f.w s (jb7 ps))
theorem jis {m1 m2:Nat} {z v:Int} {o:Pt} (hx:Bd n x) (hy:Bd n y) (hz:Bd n z) (hv:Bd n v) (hp:p.bd m1) (ho:o.bd m2):(jcD x y z v p o).bd (n+m1+m2+3):=by
 have h1:=jf7 hx hy hz hv hp;have h2:=jf7 hx hy hz hv ho;have t:∀{i j:Int},Bd m1 i->Bd m2 j->Bd (n+m1+m2+2+1) (hgt x y z v o*i-hgt x y z v p*j):=fun hi hj=>Bd.sub (Bd.mono (Bd.mul h2 hi) (by omega)) (Bd.mono (Bd.mul h1 hj) (by omega));exact⟨t hp.1 ho.1,t hp.2.1 ho.2.1,t hp.2.2.1 ho.2.2.1,t hp.2.2.2 ho.2.2.2⟩
inductive spSti (vs:List V) (H:Hp) (Q:VK):Prop
 | mk (a b e:Addr) (ps qs:List Pt) (s:Pt) (_:vs=[.ref a,.ref b,.ref e]) (_:BM H a ps) (_:1<=ps.length) (_:ps.length<=17) (_:(∀p∈ps,p.bd 318/\1<=p.w)) (_:BM H b qs) (_:Fre qs s) (_:Is4 H e s) (_:SpC false s) (_:(∀f,PlF (rgQ (pt qs 0) (pt qs 1) (pt qs 2)) f->(jcD f.x f.y f.z f.w s (jb7 ps)).w≠0)) (_:∀(t gn gf:Addr) (H':Hp) (f:Pt),Same H H'->H' t=some (.tup [.ref gn,.ref gf])->PlF (rgQ (pt qs 0) (pt qs 1) (pt qs 2)) f->Is4 H' gn (jb7 ps)->Is4 H' gf (jiL f s ps)->(jb7 ps).bd 324->(jiL f s ps).bd 539->Q (.ref t) H')
def spSt:Sp:=fun vs H Q _=>spSti vs H Q
theorem ok_st (T:Tx K mg t1 t2) (F:At K mg "sight_through" jb1 ["shown","other","spot"] []) (DA:jak P w K mg base CX0 5 "spot_within" ["board"] [] spSw) (di:jak P w K mg base CX0 7 "plane_of" ["board"] [] jb4) (De:jak P w K mg base CX0 5 "met_at" ["plane","one","other"] [] jnn):jak P w K mg base CX0 8 "sight_through" ["shown","other","spot"] [] spSt:=by
 refine F.ok jcM (by walk_at "ar") (fun f cdv A outer s H vs Q E hr h=>?_);obtain⟨a,b,e,ps,qs,o,rfl,ha,n1,n17,bp,hb,fq,he,bo,mw,q⟩:=h;have S:=jcM;refine⟨_,(jaf (jar (i:=3) S.nd rfl (Or.inl rfl) (jae DA hr.m rfl jao (jaa (pv 0) jad jac)))
  (jag (jan (ja4 (jaa (pv 3) (jaa (jae De hr.m rfl jao (jaa (jae di hr.m rfl jao (jaa (pv 1) jad jac)) (jaa (pv 2) (jaa (pv 3) jad jac) jac) jaB)) jad jaB) jac))))),?_⟩
 have bs:=jir (jmA (fun p hp=>(bp p hp).1) 5 (by omega));walk_at "rf";refine⟨a,ps,rfl,ha,n1,n17,bp,fun g H1 s1 hg=>?_⟩;try walk_at "rf"
 refine jcE (hb.keep s1) fq.n3 fq.na fq.bp fun gp H2 f s2 hf pb hp=>?_;refine⟨137,324,gp,e,g,f.x,f.y,f.z,f.w,o,jb7 ps,rfl,by decide,hp.1,pb.bd.1,pb.bd.2.1,pb.bd.2.2.1,pb.bd.2.2.2,he.keep (s1.trans s2),hg.keep s2,⟨Bd.mono bo.bd.1,Bd.mono bo.bd.2.1,Bd.mono bo.bd.2.2.1,Bd.mono bo.bd.2.2.2⟩,bs,mw f hf,(jir (jis pb.bd.1 pb.bd.2.1 pb.bd.2.2.1 pb.bd.2.2.2 bo.bd bs)).sm' (by decide),fun gf H3 s3 hf3=>?_⟩;refine⟨by decide,fun t ht=>?_⟩;have s4:=Same.new ht (.tup [.ref g,.ref gf]);exact q t g gf _ f (s1.trans (s2.trans (s3.trans s4))) jam hf (hg.keep (s2.trans (s3.trans s4))) (hf3.keep s4) bs ((fun h=>⟨Bd.mono h.1,Bd.mono h.2.1,Bd.mono h.2.2.1,Bd.mono h.2.2.2⟩:(jiL f o ps).bd 539->(jiL f o ps).bd 539) (jir (jis pb.bd.1 pb.bd.2.1 pb.bd.2.2.1 pb.bd.2.2.2 bo.bd bs)))
theorem VF.kp {lv:Bool}:∀(ls:List Ln) {vs:List Tri},VF lv vs->(∀l∈ls,Bd (nlL lv) l.A/\Bd (nlL lv) l.B/\Bd (nlL lv) l.C)->KP ls vs≠[]->VF lv (KP ls vs)
  | [],_,F,_,_=>F
  | l :: ls, vs, F, h, n => by
    have hl:=h l (by simp);have up:∃v∈vs,0<hf l v:=xar fun q=>n (by
      show KP ls (UP (hf l) vs)=[];rw[jfK q,jhk])
    exact VF.kp ls (F.up hl.1 hl.2.1 hl.2.2 up) (fun m hm=>h m (xag _ hm)) n
theorem jcP (k0:0<k) (h:0<k*x):0<x:=by
 rcases xaE 0 x with c | c
 ·exact c
 ·have:=xax (xan k0) c;omega
theorem jeW (h:1<=r.w):∃k:Int,0<k/\∀g,k*hgP g (jbg r)=hgP g r:=by
 have dv:∀{x:Int},x∈[r.x,r.y,r.z,r.w]->x / gl [r.x,r.y,r.z,r.w]*gl [r.x,r.y,r.z,r.w]=x:=fun hx=>xaM (jaV hx);have e1:=dv (x:=r.x) (by simp);have e2:=dv (x:=r.y) (by simp);have e3:=dv (x:=r.z) (by simp);have e4:=dv (x:=r.w) (by simp);have g0:0<gl [r.x,r.y,r.z,r.w]:=jco (n:=r.w) (by simp) (by omega);refine⟨gl [r.x,r.y,r.z,r.w],g0,fun g=>?_⟩;unfold jbg;rw[if_neg (by omega)];generalize gl [r.x,r.y,r.z,r.w]=k at *
 unfold hgP hgt;simp only;generalize r.x / k=a at *
 generalize r.y / k=b at *
 generalize r.z / k=c at *
 generalize r.w / k=d at *
 rw[<- e1,<- e2,<- e3,<- e4];grind
theorem jkz {α:Type} {g:α->Int}:∀{l:List α},(∀x∈l,0<=g x)->(∃x∈l,0<g x)->0<(l.map g).sum
  | [],_,⟨_,h,_⟩=>nomatch h
  | x :: l, h, e => by
    have nn:∀{l:List α},(∀x∈l,0<=g x)->0<=(l.map g).sum:=fun {l} h=>by
      induction l with
      | nil=>simp
      | cons y l ih =>
        have h1:=h y (by simp);have h2:=ih fun z hz=>h z (xag _ hz);rw[xa5,xb6];omega
    rw[xa5,xb6];have h1:=h x (by simp);have h2:=nn fun z hz=>h z (xag _ hz);obtain⟨y,hy,p⟩:=e;rcases xap.mp hy with rfl | hy
    . omega
    . have:=jkz (fun z hz=>h z (xag _ hz)) ⟨y,hy,p⟩
      omega
theorem jgM {fs:List Pt} (h1:Scn Z1 vs ps s) (nz:KP (fs.map (jaO Z1)) vs≠[]) (rc:RR ((KP (fs.map (jaO Z1)) vs).map (spt Z1)) cs):1<=(jcQ cs).w/\∀f,(∀u∈KP (fs.map (jaO Z1)) vs,0<=hf (jaO Z1 f) u)->(∃q:Tri,hf (jaO Z1 f) q≠0)->0<hgP f (jb7 cs):=by
 rcases jj9 (fs.map (jaO Z1)) h1.R with z | ⟨U,reg,ln⟩
 ·exact absurd z nz
 generalize KP (fs.map (jaO Z1)) vs=us at *
 have cm:∀{c:Pt},c∈cs↔∃u∈us,c=spt Z1 u:=fun {c}=>by
  rw[rc.mem,xai];exact⟨fun ⟨u,a,b⟩=>⟨u,a,b.symm⟩,fun ⟨u,a,b⟩=>⟨u,a,b.symm⟩⟩
 have cw:∀c∈cs,1<=c.w:=fun c hc=>by
  obtain⟨u,hu,rfl⟩:=cm.mp hc;exact jhf h1.hw (U.hz u hu)
 have ne:cs≠[]:=fun z=>by
  have n3:=U.n3;have:=cm.mpr ⟨_,jaJ (l:=us) (i:=0) (by omega),rfl⟩;rw[z] at this;cases this
 have w1:=jky cw ne;refine⟨w1,fun f nn ⟨q,hq⟩=>?_⟩;obtain⟨k,k0,ek⟩:=jeW w1;obtain⟨cz,_,cp⟩:=U.cen;have c0:=cp _ _ _ nn ⟨q,hq⟩;have ex:∃u∈us,0<hf (jaO Z1 f) u:=xar fun no=>by
  have:=cp (-(jaO Z1 f).A) (-(jaO Z1 f).B) (-(jaO Z1 f).C) (fun u hu=>by
   have:¬0<hf (jaO Z1 f) u:=fun p=>no ⟨u,hu,p⟩;unfold hf at this;unfold jaA at *
   grind) ⟨q,fun z=>hq (by
    unfold hf;unfold jaA at *
    grind)⟩
  unfold jaA at this c0;grind
 have:=jkz (g:=hgP f) (l:=cs) (fun c hc=>by
  obtain⟨u,hu,rfl⟩:=cm.mp hc;exact (jdp h1.hw (U.hz u hu) f).2.1.mpr (by rw[<- jbE];exact nn u hu)) (by
  obtain⟨u,hu,p⟩:=ex;exact⟨_,cm.mpr ⟨u,hu,rfl⟩,(jdp h1.hw (U.hz u hu) f).1.mpr (by rw[<- jbE];exact p)⟩)
 rw[<- jhV,<- ek f] at this;exact jcP k0 this
theorem jfQ {fs:List Pt} (h1:Scn Z1 vs ps s) (nz:KP (fs.map (jaO Z1)) vs≠[]) (rc:RR ((KP (fs.map (jaO Z1)) vs).map (spt Z1)) cs):1<=(jcQ cs).w/\∀f∈fs,0<hgP f (jb7 cs):=by
 rcases jj9 (fs.map (jaO Z1)) h1.R with z | ⟨U,reg,ln⟩
 ·exact absurd z nz
 ·exact⟨(jgM h1 nz rc).1,fun f hf0=>(jgM h1 nz rc).2 f (fun u hu=>((reg u (U.hz u hu)).mp (U.own hu)).2 _ (xai.mpr ⟨f,hf0,rfl⟩)) (ln _ (xai.mpr ⟨f,hf0,rfl⟩))⟩
theorem jn7 {fs:List Pt} (h1:Scn Z1 vs ps s) (h2:Scn Z2 ws qs s) (sw:1<=s.w) (py:PyF s qs fs) (nz:KP (fs.map (jaO Z1)) vs≠[]) (rc:RR ((KP (fs.map (jaO Z1)) vs).map (spt Z1)) cs) (hf0:PlF (rgQ (pt qs 0) (pt qs 1) (pt qs 2)) f):(jcD f.x f.y f.z f.w s (jb7 cs)).w≠0:=by
 obtain⟨ε,Y⟩:=jiq h2 sw py;obtain⟨_,nf⟩:=jfQ h1 nz rc;generalize jb7 cs=N at *
 have yin:=jpv (Z:=Z2) (s:=s) (P:=N) (ε:=ε) h2.R fun e he=>by
  obtain⟨F,hF,a⟩:=Y.fe e he;exact (a.sg N).1.mp (nf F hF)
 have yr:=jkj Z2 s N ε ⟨0,0,0,-1⟩;have gw:∀X:Pt,hgP ⟨0,0,0,-1⟩ X=X.w:=fun X=>by
  unfold hgP hgt;simp only;omega
 rw[gw,gw,gw] at yr;have rw0:0<(jay Z2 (yy Z2 s N ε)).w:=xab (show 0<Z2.w by have:=h2.hw;omega) (show 0<(yy Z2 s N ε).z by omega);obtain⟨k,m,k0,m0,e⟩:=h2.own;obtain⟨g,σ,g0,s1,eg⟩:=hf0.sg;intro z;have z:hgP f N*s.w-hgP f s*N.w=0:=z;have eN:k*g*hgP f N=σ*m*hgP (nP Z2) N:=by
  have:=eg N;have:=e N;grind
 have es:k*g*hgP f s=σ*m*hgP (nP Z2) s:=by
  have:=eg s;have:=e s;grind
 have sm:σ*m≠0:=xaF (by omega) m0;have q:σ*m*(hgP (nP Z2) N*s.w-hgP (nP Z2) s*N.w)=0:=by
  have:σ*m*(hgP (nP Z2) N*s.w-hgP (nP Z2) s*N.w)=k*g*(hgP f N*s.w-hgP f s*N.w):=by grind
  rw[this,z,xaj]
 rcases xah.mp q with q | q
 ·exact sm q
 ·have:ε*hgP (nP Z2) s*N.w-ε*hgP (nP Z2) N*s.w=0:=by
   have:ε*hgP (nP Z2) s*N.w-ε*hgP (nP Z2) N*s.w=-ε*(hgP (nP Z2) N*s.w-hgP (nP Z2) s*N.w):=by grind
   rw[this,q,xaj]
  rw[this,xaj] at yr;omega
inductive spDhi (us:List V) (H:Hp) (Q:VK):Prop
 | mk (lv:Bool) (a b e:Addr) (Z1:Sht) (vs:List Tri) (ps qs:List Pt) (s:Pt) (_:us=[.ref a,.ref b,.ref e]) (_:BM H a ps) (_:BM H b qs) (_:Is4 H e s) (_:Fre ps s) (_:Fre qs s) (_:SpC lv s) (_:(∀i,i<qs.length->¬jbn s (pt qs (wrp qs.length i)) (pt qs i))) (_:(∀v:Tri,v.bd (nlV lv)->(spt Z1 v).bd (nlT lv))) (_:VF lv vs) (_:Scn Z1 vs ps s) (_:(∀f,PB lv f->PlOk lv Z1 f)) (_:∀(H':Hp) (fs:List Pt),Same H H'->PyF s qs fs->Q (.bl (!(KP (fs.map (jaO Z1)) vs).isEmpty)) H')
def spDh:Sp:=fun us H Q _=>spDhi us H Q
theorem ok_dh (T:Tx K mg t1 t2) (F:At K mg "does_hide" jdH ["one","other","spot"] []) (dC:jak P w K mg base CX0 9 "refuse_unless_free" ["boards","spot"] [] jlA) (Dd:jak P w K mg base CX0 8 "kept_by" ["board","planes"] [] jkd) (dP:jak P w K mg base CX0 8 "pyramid_faces" ["board","spot"] [] spPy):jak P w K mg base CX0 10 "does_hide" ["one","other","spot"] [] spDh:=by
 refine F.ok jeJ (by walk_at "ar") (fun f cdv A outer s H vs Q E hr h=>?_);obtain⟨lv,a,b,e,Z1,vs,ps,qs,o,rfl,ha,hb,he,fp,fq,bo,na,sb,vf,h1,ok,q⟩:=h;have S:=jeJ;refine⟨_,(jaf (je9 (jae dC hr.m rfl jao (jaa (jaU (jaa (pv 0) (jaa (pv 1) jad jac) jac)) (jaa (pv 2) jad jac) jbu)))
  (jag (jan (jbp ji4 (jae Dd hr.m rfl jao (jaa (pv 0) (jaa (jae dP hr.m rfl jao (jaa (pv 1) (jaa (pv 2) jad jac) jac)) jad jaB) jac)) jcG (jaw _))))),?_⟩
 walk_at "rf";refine⟨by decide,fun p hp=>?_⟩;refine jbJ hp fun H1 s1 e1=>⟨p,e,a,b,ps,qs,o,rfl,e1,ha.keep s1,hb.keep s1,he.keep s1,fp,fq,fun H2 s2=>?_⟩;have s12:=s1.trans s2;refine⟨lv,b,e,qs,o,rfl,hb.keep s12,he.keep s12,fq,bo,na,fun L H3 rs fs s3 c3 pf py=>?_⟩;have s13:=s12.trans s3;obtain⟨rsa,ha1,ha2⟩:=ha.keep s13;have lq:=h1.rr.len;rw[xaa] at lq;have n8:=fp.n8;have m8:=fq.n8;have lf:fs.length=qs.length+1:=by
  obtain⟨f0,gs,rfl,_,sf⟩:=py;rw[xaB,sf.1]
 refine⟨lv,a,L,Z1,vs,rs,fs,rfl,h1.hw,h1.nz,sb,vf,by omega,⟨rsa,ps,ha1,ha2,h1.rr⟩,c3,fun f hf=>ok f (pf f hf),fun f H4 s4 P4=>?_⟩;have q:=q _ fs (s13.trans s4) py;rcases P4 with ⟨z,rfl⟩ | ⟨ne,r,rfl,_⟩
 ·rw[z] at q;exact q
 ·generalize KP (fs.map (jaO Z1)) vs=us at q ne;cases us with
  | nil=>exact absurd rfl ne
  | cons _ _=>exact q
def SoR (H':Hp) (t:Addr) (Z1:Sht) (vs:List Tri) (ps qs:List Pt) (s:Pt):Prop:=∃fs,PyF s qs fs/\((KP (fs.map (jaO Z1)) vs=[]/\∃(g:Addr) (f:Pt),H' t=some (.tup [.str "parted",.ref g])/\Is4 H' g f/\Tol f ps qs s/\PpR ps qs fs s f)\/(KP (fs.map (jaO Z1)) vs≠[]/\∃(gn gf:Addr) (f:Pt) (cs:List Pt),H' t=some (.tup [.str "hides",.ref gn,.ref gf])/\RR ((KP (fs.map (jaO Z1)) vs).map (spt Z1)) cs/\PlF (rgQ (pt qs 0) (pt qs 1) (pt qs 2)) f/\Is4 H' gn (jb7 cs)/\Is4 H' gf (jiL f s cs)/\(jb7 cs).bd 324/\(jiL f s cs).bd 539))
inductive spSoi (us:List V) (H:Hp) (Q:VK):Prop
 | mk (a b e:Addr) (Z1 Z2:Sht) (vs ws:List Tri) (ps qs:List Pt) (s:Pt) (_:us=[.ref a,.ref b,.ref e]) (_:BM H a ps) (_:BM H b qs) (_:Is4 H e s) (_:Fre ps s) (_:Fre qs s) (_:SpC false s) (_:(∀i,i<qs.length->¬jbn s (pt qs (wrp qs.length i)) (pt qs i))) (_:(∀v:Tri,v.bd (nlV false)->(spt Z1 v).bd (nlT false))) (_:VF false vs) (_:Scn Z1 vs ps s) (_:Scn Z2 ws qs s) (_:1<=s.w) (_:(∀f,PB false f->PlOk false Z1 f)) (_:∀(t:Addr) (H':Hp),Same H H'->SoR H' t Z1 vs ps qs s->Q (.ref t) H')
def spSo:Sp:=fun us H Q _=>spSoi us H Q
theorem ok_so (T:Tx K mg t1 t2) (F:At K mg "sight_of" jev ["one","other","spot"] []) (dC:jak P w K mg base CX0 9 "refuse_unless_free" ["boards","spot"] [] jlA) (dP:jak P w K mg base CX0 8 "pyramid_faces" ["board","spot"] [] spPy) (Dd:jak P w K mg base CX0 8 "kept_by" ["board","planes"] [] jkd) (Dt:jak P w K mg base CX0 8 "parting_plane" ["one","other","spot","faces"] [] spPp) (Du:jak P w K mg base CX0 8 "sight_through" ["shown","other","spot"] [] spSt):jak P w K mg base CX0 10 "sight_of" ["one","other","spot"] [] spSo:=by
 refine F.ok jfB (by walk_at "ar") (fun f cdv A outer s H vs Q E hr h=>?_);obtain⟨a,b,e,Z1,Z2,vs,ws,ps,qs,o,rfl,ha,hb,he,fp,fq,bo,na,sb,vf,h1,h2,ow,ok,q⟩:=h;have S:=jfB;refine⟨_,(jaf (je9 (jae dC hr.m rfl jao (jaa (jaU (jaa (pv 0) (jaa (pv 1) jad jac) jac)) (jaa (pv 2) jad jac) jbu)))
  (jaf (jar (i:=3) S.nd rfl (Or.inl rfl) (jae dP hr.m rfl jao (jaa (pv 1) (jaa (pv 2) jad jac) jac)))
  (jaf (jar (i:=4) S.nd rfl (Or.inl rfl) (jae Dd hr.m rfl jao (jaa (pv 0) (jaa (pv 3) jad jac) jac)))
  (jaf (jaM (jat jlL (pv 4) jcG (jaw _))
  (jag (jan (ja4 (jaa jcl (jaa (jae Dt hr.m rfl jao (jaa (pv 0) (jaa (pv 1) (jaa (pv 2) (jaa (pv 3) jad jac) jac) jac) jac)) jad jaB) jai))))
  jax)
  (jaf (jar (i:=5) S.nd rfl (Or.inl rfl) (jae Du hr.m rfl jao (jaa (pv 4) (jaa (pv 1) (jaa (pv 2) jad jac) jac) jac)))
  (jag (jan (ja4 (jaa jcl (jaa (jal jaq (pv 5) jab) (jaa (jal jaq (pv 5) jab) jad jav) jav) jai))))))))),?_⟩
 walk_at "rf";refine⟨by decide,fun p hp=>?_⟩;refine jbJ hp fun H1 s1 e1=>⟨p,e,a,b,ps,qs,o,rfl,e1,ha.keep s1,hb.keep s1,he.keep s1,fp,fq,fun H2 s2=>?_⟩;have s12:=s1.trans s2;refine⟨false,b,e,qs,o,rfl,hb.keep s12,he.keep s12,fq,bo,na,fun L H3 rs fs s3 c3 pf py=>?_⟩;have s13:=s12.trans s3;obtain⟨rsa,ha1,ha2⟩:=ha.keep s13;have lv:=h1.rr.len;rw[xaa] at lv;have n8:=fp.n8;have m8:=fq.n8;have lf:fs.length=qs.length+1:=by
  obtain⟨f0,gs,rfl,_,sf⟩:=py;rw[xaB,sf.1]
 refine⟨false,a,L,Z1,vs,rs,fs,rfl,h1.hw,h1.nz,sb,vf,by omega,⟨rsa,ps,ha1,ha2,h1.rr⟩,c3,fun f hf=>ok f (pf f hf),fun f H4 s4 P4=>?_⟩;have s14:=s13.trans s4;rcases P4 with ⟨z,rfl⟩ | ⟨ne,r,rfl,rk,ks,k1,k2,k3⟩
 ·refine⟨a,b,e,L,rs,ps,qs,fs,o,rfl,ha.keep s14,hb.keep s14,he.keep s14,fp,fq,bo,c3.keep s4,by omega,py.fg,fun f0 hf0=>jp1 h1 h2 ow py z hf0,fun g H5 f s5 hg tf pr=>⟨by decide,fun p6 hp6=>?_⟩⟩;have s6:=Same.new hp6 (.tup [.str "parted",.ref g]);exact q p6 _ (s14.trans (s5.trans s6)) ⟨fs,py,.inl ⟨z,g,f,jam,hg.keep s6,tf,pr⟩⟩
 ·have vk:=vf.kp (fs.map (jaO Z1)) (fun l hl=>by
   obtain⟨F,hF,rfl⟩:=xai.mp hl;exact (ok F (pf F hF)).2) ne
  have kl:=jmm (fs.map (jaO Z1)) vf.rg;rw[xaa] at kl;have l3:=k3.len;rw[xaa] at l3;have n3:=vk.rg.n3;try walk_at "rf"
  refine⟨r,b,e,ks,qs,o,rfl,⟨rk,k1,k2⟩,by omega,by omega,fun c hc=>?_,hb.keep s14,fq,he.keep s14,bo,fun f0 hf0=>jn7 h1 h2 ow py ne k3 hf0,fun t gn gf H5 f s5 ht hf5 hn hg nb fb=>?_⟩
  ·obtain⟨u,hu,rfl⟩:=xai.mp (k3.mem.mp hc);exact⟨sb u (vk.bi.2 u hu),jhf h1.hw (vk.rg.hz u hu)⟩
  ·have kt:=SqT.of (K:=K) ht;try walk_at "rf"
   refine ixT kt rfl (ixT kt rfl ⟨by decide,fun p6 hp6=>?_⟩);have s6:=Same.new hp6 (.tup [.str "hides",.ref gn,.ref gf]);exact q p6 _ (s14.trans (s5.trans s6)) ⟨fs,py,.inr ⟨ne,gn,gf,f,ks,jam,k3,hf5,hn.keep s6,hg.keep s6,nb,fb⟩⟩
theorem jlB {fs:List Pt} {far:Pt} {c:Tri} (h1:Scn Z1 vs ps s) (h2:Scn Z2 ws qs s) (sw:1<=s.w) (py:PyF s qs fs) (cin:InR vs c) (cz:1<=c.z) (a0:0<α) (b0:0<β) (g0:0<γ) (e:∀g,α*hgP g (jay Z1 c)=β*hgP g s+γ*hgP g far) (fn:∀g,(∀q∈qs,0<=hgP g q)->0<=hgP g far) (fp:∀g,(∀q∈qs,0<=hgP g q)->(∃q∈qs,0<hgP g q)->0<hgP g far):KP (fs.map (jaO Z1)) vs≠[]:=by
 obtain⟨ε,Y⟩:=jiq h2 sw py;have ww:0<Z2.w*Z2.w:=xab (by have:=h2.hw;omega) (by have:=h2.hw;omega);have ew:=xab ww Y.sg;refine jpo _ h1.R cin cz fun l hl=>?_;obtain⟨f,hf0,rfl⟩:=xai.mp hl;rw[jbE];have fin:0<β*hgP f s+γ*hgP f far->0<hgP f (jay Z1 c):=fun h=>by
  rw[<- e f] at h;exact jcP a0 h
 refine fin ?_;rcases Y.all f hf0 with a | ⟨d,hd,a⟩
 ·have ps:=xab b0 ((a.sg s).1.mpr Y.sg);have:0<=hgP f far:=fn f fun q hq=>by
   obtain⟨v,hv,rfl⟩:=h2.mem.mp hq;refine (jdp h2.hw (h2.R.hz v hv) f).2.1.mpr ((a.sg _).2.1.mpr ?_);show 0<=ε*hgP (nP Z2) (jay Z2 v);rw[jeD,xaj];exact xaI 0
  have:=xaf (xan g0) this;omega
 ·have ce:∀v:Tri,-ε*hgP (rgQ s (jay Z2 d.1) (jay Z2 d.2)) (jay Z2 v)=Z2.w*Z2.w*(ε*hgP (nP Z2) s)*dt d.1 d.2 v:=fun v=>by
   rw[jbh];grind
  have s0:0<=hgP f s:=(a.sg s).2.1.mpr (by
   show 0<=-ε*hgP (rgQ s (jay Z2 d.1) (jay Z2 d.2)) s;rw[(jfN _ _ _).1,xaj];exact xaI 0)
  have p:0<hgP f far:=fp f (fun q hq=>by
   obtain⟨v,hv,rfl⟩:=h2.mem.mp hq;refine (jdp h2.hw (h2.R.hz v hv) f).2.1.mpr ((a.sg _).2.1.mpr ?_);show 0<=-ε*hgP (rgQ s (jay Z2 d.1) (jay Z2 d.2)) (jay Z2 v);rw[ce];exact xaf (xan ew) (h2.R.own hv _ hd)) (by
   obtain⟨k,hk,ek⟩:=jb5 hd;have n3:=h2.R.n3;obtain⟨j,hj,j1,j2⟩:=ja1 (n:=ws.length) (i:=k) (j:=(k+1) % ws.length) n3;have dj:=jbe h2.R.tp n3 hk hj (Ne.symm j2) (Ne.symm j1);have hv:=jaJ hj;refine⟨_,h2.mem.mpr ⟨_,hv,rfl⟩,(jdp h2.hw (h2.R.hz _ hv) f).1.mpr ((a.sg _).1.mpr ?_)⟩;show 0 < -ε*hgP (rgQ s (jay Z2 d.1) (jay Z2 d.2)) (jay Z2 (tr ws j));rw[ce,ek];exact xab ew dj)
  have h1:=xab g0 p;have h2:=xaf (xan b0) s0;omega
theorem jmB {rs:List Addr} {m:Nat} (hi:i<rs.length) (m1:1<=m) (hm:m<=rs.length):atI (rs.map V.ref) (0+(i:Int)-(m:Int))=some (.ref (ad rs ((i+(rs.length-m)) % rs.length))):=by
 unfold atI ixN;rw[xaa];by_cases c:m<=i
 ·have e1:(i+(rs.length-m)) % rs.length=i-m:=by
   have z:i+(rs.length-m)=i-m+rs.length:=by omega
   rw[z,xbg];exact xal (by omega)
  rw[if_pos (by omega),if_pos (by omega),e1];have e2:(0+(i:Int)-(m:Int)).toNat=i-m:=by omega
  rw[e2];exact jbC (by omega)
 ·have e1:(i+(rs.length-m)) % rs.length=i+(rs.length-m):=xal (by omega);rw[if_neg (by omega),if_pos (by omega),e1];have e2:(0+(i:Int)-(m:Int)+(rs.length:Int)).toNat=i+(rs.length-m):=by omega
  rw[e2];exact jbC (by omega)
theorem sgn3 (n:Int):sgn n=1\/sgn n=0\/sgn n=-1:=by
 unfold sgn;split
 ·simp
 ·split<;>simp
theorem jmC (n:Int):Fit (sgn n):=Bd.fit (n:=10) (by
 unfold Bd;have:=sgn3 n;omega)
theorem jn8 (m n:Int):sgn m*sgn n<=1:=by
 rcases sgn3 m with a | a | a<;>rcases sgn3 n with b | b | b<;>rw[a,b]<;>decide
def jej (n i:Nat):Nat:=(i+(n-2)) % n
def wl (ps:List Pt) (k:Nat) (X:Pt):Int:=jge (cr3 (upr ps) (ja6 (pt ps (wrp ps.length k)) (pt ps k))) (ja6 (pt ps (wrp ps.length k)) X)
def whL (ps:List Pt) (o:Pt):Prop:=hov ps o=0/\∀k,k<ps.length->sgn (wl ps k (pt ps (jej ps.length k)))*sgn (wl ps k o)=1
inductive spWhi (vs:List V) (H:Hp) (Q:VK):Prop
 | mk (b e:Addr) (ps:List Pt) (o:Pt) (_:vs=[.ref b,.ref e]) (_:BM H b ps) (_:Is4 H e o) (_:3<=ps.length) (_:ps.length<=8) (_:(∀p∈ps,p.bd 30)) (_:o.bd 900) (_:∀(H':Hp) (r:Int),Same H H'->(r=1↔whL ps o)->Q (.int r) H')
def spWh:Sp:=fun vs H Q _=>spWhi vs H Q
theorem ok_wh (T:Tx K mg t1 t2) (F:At K mg "_law_where" jc6 ["board","spot"] []) (dU:jak P w K mg base CX0 4 "_law_height" ["board","spot"] [] jnY) (dQ:jak P w K mg base CX0 3 "_law_upright" ["board"] [] jnX) (df:jak P w K mg base CX0 2 "_law_arm" ["one","other"] [] jks) (dg:jak P w K mg base CX0 2 "_law_cross" ["one","other"] [] (jhm K)) (du:jak P w K mg base CX0 2 "_law_dot" ["one","other"] [] (jko K)) (dL:jak P w K mg base CX0 2 "_law_sign" ["number"] [] spSg):jak P w K mg base CX0 5 "_law_where" ["board","spot"] [] spWh:=by
 refine F.ok jec (by walk_at "ar") (fun f cdv A outer s H vs Q E hr h=>?_);obtain⟨b,e,ps,o,rfl,hb,he,n3,n8,bp,bo,q⟩:=h;have S:=jec;refine⟨_,(jaf (jaM (jat jcT (jae dU hr.m rfl jao (jaa (pv 0) (jaa (pv 1) jad jac) jac)) jab (jaw _))
  (jag (jan (jdV jca jab)))
  jax)
  (jaf (jar (i:=2) S.nd rfl (Or.inl rfl) jab)
  (jaf (jbb PassesOwn.never rfl (jaH rfl T.m_range (jaa (jaz jaQ rfl T.m_len PySem.boot_len (jaa (pv 0) jad jac)) jad jaB)) (jau (i:=3) S.nd rfl (Or.inl rfl))
  (jaf (jar (i:=4) S.nd rfl (Or.inl rfl) (jae dg hr.m rfl jao (jaa (jae dQ hr.m rfl jao (jaa (pv 0) jad jac)) (jaa (jae df hr.m rfl jao (jaa (jal jaq (pv 0) (jap jaW (pv 3) jab)) (jaa (jal jaq (pv 0) (pv 3)) jad jav) jav)) jad jaB) jaB)))
  (jaf (jar (i:=5) S.nd rfl (Or.inl rfl) (jae dL hr.m rfl jao (jaa (jae du hr.m rfl jao (jaa (pv 4) (jaa (jae df hr.m rfl jao (jaa (jal jaq (pv 0) (jap jaW (pv 3) jab)) (jaa (jal jaq (pv 0) (jap jaW (pv 3) jab)) jad jav) jav)) jad jaB) jac)) jad jaB)))
  (jag (jar (i:=2) S.nd rfl (Or.inl rfl) (jaz (jfd rfl) rfl T.m_min boot_min (jaa (pv 2) (jaa (jap jas (pv 5) (jae dL hr.m rfl jao (jaa (jae du hr.m rfl jao (jaa (pv 4) (jaa (jae df hr.m rfl jao (jaa (jal jaq (pv 0) (jap jaW (pv 3) jab)) (jaa (pv 1) jad jac) jav)) jad jaB) jac)) jad jaB))) jad jbc) jac)))))))
  (jag (jan (pv 2)))))),?_⟩
 have b100:∀p∈ps,p.bd 100:=fun p hp=>⟨Bd.mono (bp p hp).1,Bd.mono (bp p hp).2.1,Bd.mono (bp p hp).2.2.1,Bd.mono (bp p hp).2.2.2⟩;walk_at "rf";refine⟨b,e,ps,o,rfl,hb,he,n3,b100,bo,fun H1 s1=>?_⟩;refine⟨rfl,?_⟩;by_cases z:hov ps o=0
 ·rw[if_pos (by rw[z])];obtain⟨rs,h1,h2⟩:=hb;have lr:=h2.len;have lm:(rs.map V.ref).length=rs.length:=xaa _;refine⟨rs.map V.ref,.inr (SqT.of (s1 _ _ h1)),by omega,by omega,?_⟩;have e0:(((rs.map V.ref).length:Int)).toNat=ps.length:=by omega
  rw[e0];refine jbA (fun i σ J=>Same H J/\∃(r:Int) (o3 o4 o5:Option V),σ=[some (.ref b),some (.ref e),some (.int r),o3,o4,o5]/\r<=1/\(r=1↔∀k,k<i->sgn (wl ps k (pt ps (jej ps.length k)))*sgn (wl ps k o)=1)) ⟨s1,1,none,none,none,rfl,xaI _,fun _ k hk=>absurd hk (xa9 _),fun _=>rfl⟩ ?_ ?_
  ·rintro i σ J hi ⟨sJ,r,o3,o4,o5,rfl,r1,hr1⟩;have g1:=jmB (rs:=rs) (i:=i) (m:=1) (by omega) (by decide) (by omega);have g2:=jmB (rs:=rs) (i:=i) (m:=2) (by omega) (by decide) (by omega);rw[lr] at g1 g2;have g0:atI (rs.map V.ref) (0+(i:Int))=some (.ref (ad rs i)):=by rw[xce];exact ja5 (jbC (by omega))
   have m1:wrp ps.length i<ps.length:=xaz _ (by omega);have m2:jej ps.length i<ps.length:=xaz _ (by omega);have c1:=bp _ (jaD m1);have c2:=bp _ (jaD m2);have c0:=bp _ (jaD hi);have u0:=bp _ (jaD (l:=ps) (i:=0) (by omega));have u1:=bp _ (jaD (l:=ps) (i:=1) (by omega));have u2:=bp _ (jaD (l:=ps) (i:=2) (by omega));have bu:(upr ps).bd 123:=jnW (jei u0 u1) (jei u0 u2);have bw:(cr3 (upr ps) (ja6 (pt ps (wrp ps.length i)) (pt ps i))).bd 185:=jnW bu (jei c1 c0);walk_at "rf";refine⟨b,ps,rfl,⟨rs,sJ _ _ h1,h2.keep sJ.t⟩,n3,b100,fun g Ha sa eg=>?_⟩;have sA:=sJ.trans sa;refine ixT (SqT.of (sA _ _ h1)) g1 (ixT (SqT.of (sA _ _ h1)) g0 ⟨_,_,_,_,rfl,((h2.keep sA.t).get m1).2,((h2.keep sA.t).get hi).2,fun gb Hb sb nb eb=>?_⟩);have sB:=sA.trans sb;refine⟨g,gb,_,_,rfl,A3.l3 (sb _ _ eg),A3.l3 eb,Bd3.mono bu (by decide),Bd3.mono (jei c1 c0) (by decide),fun gc Hc nc sc ec=>?_⟩;have sC:=sB.trans sc;have kc:A3 Hc gc (cr3 (upr ps) (ja6 (pt ps (wrp ps.length i)) (pt ps i))):=ec;refine ixT (SqT.of (sC _ _ h1)) g1 (ixT (SqT.of (sC _ _ h1)) g2 ⟨_,_,_,_,rfl,((h2.keep sC.t).get m1).2,((h2.keep sC.t).get m2).2,fun gd Hd sd nd ed=>?_⟩);have sD:=sC.trans sd;refine⟨gc,gd,_,_,rfl,(A3.l3 (sd _ _ kc)).d,(A3.l3 ed).d,Bd3.mono bw (by decide),Bd3.mono (jei c1 c2) (by decide),⟨_,rfl,?_⟩⟩;refine ixT (SqT.of (sD _ _ h1)) g1 ⟨_,_,_,_,rfl,((h2.keep sD.t).get m1).2,he.keep sD,fun ge He se ne ee=>?_⟩;refine⟨gc,ge,_,_,rfl,(A3.l3 (se _ _ (sd _ _ kc))).d,(A3.l3 ee).d,Bd3.mono bw (by decide),Bd3.mono (jdn c1 bo) (by decide),⟨_,rfl,?_⟩⟩;refine⟨_,rfl,_,rfl,jmC _,jmC _,sD.trans se,?_⟩;have t1:=jn8 (wl ps i (pt ps (jej ps.length i))) (wl ps i o);change (if sgn (wl ps i (pt ps (jej ps.length i)))*sgn (wl ps i o)<r then sgn (wl ps i (pt ps (jej ps.length i)))*sgn (wl ps i o) else r)<=1/\((if sgn (wl ps i (pt ps (jej ps.length i)))*sgn (wl ps i o)<r then sgn (wl ps i (pt ps (jej ps.length i)))*sgn (wl ps i o) else r)=1↔_);by_cases c:sgn (wl ps i (pt ps (jej ps.length i)))*sgn (wl ps i o)<r
   ·rw[if_pos c];exact⟨t1,fun h=>absurd h (by omega),fun h=>absurd (h i (Nat.lt_succ_self i)) (by omega)⟩
   ·rw[if_neg c];refine⟨r1,fun h k hk=>?_,fun h=>hr1.mpr fun k hk=>h k (by omega)⟩;by_cases ki:k<i
    ·exact hr1.mp h k ki
    ·obtain rfl:k=i:=by omega
     omega
  ·rintro σ J ⟨sJ,r,o3,o4,o5,rfl,r1,hr1⟩;walk_at "rf";exact q _ r sJ ⟨fun h=>⟨z,hr1.mp h⟩,fun h=>hr1.mpr h.2⟩
 ·rw[if_neg (fun h=>z (by injection h))];exact q _ (-1) s1 ⟨fun h=>absurd h (by decide),fun h=>absurd h.1 z⟩
inductive spEyi (vs:List V) (H:Hp) (Q:VK):Prop
 | mk (L:Addr) (d:Int) (_:vs=[.ref L,.int d]) (_:Purs H L) (_:4<=d) (_:d<=1000000) (_:∀(g:Addr) (H':Hp) (p:Pt),SameB L H H'->Purs H' L->Is4 H' g p->SpB p->p.bd 21->gl [p.x,p.y,p.z,p.w]=1->Q (.ref g) H')
def spEy:Sp:=fun vs H Q _=>spEyi vs H Q
theorem ok_ey (T:Tx K mg t1 t2) (F:At K mg "_law_eye" jex ["purse","wide"] []) (dA:jak P w K mg base CX0 3 "_law_spot" ["numbers","w"] [] (jgK K)) (dh:jak P w K mg base CX0 3 "_law_arrow" ["purse","wide"] [] jpF) (db:jak P w K mg base CX0 2 "_law_take" ["purse","many"] [] jdm):jak P w K mg base CX0 4 "_law_eye" ["purse","wide"] [] spEy:=by
 refine F.ok jfD (by walk_at "ar") (fun f cdv A outer s H vs Q E hr h=>?_);obtain⟨L,d,rfl,pu,d4,d6,q⟩:=h;have S:=jfD;refine⟨_,(jag (jan (jae dA hr.m rfl jao (jaa (jae dh hr.m rfl jao (jaa (pv 0) (jaa (jap jas jab (pv 1)) jad jbc) jac)) (jaa (jal ix_list (jaU (jaa jab (jaa jab (jaa jab (jaa jab jad jai) jai) jai) jai)) (jae db hr.m rfl jao (jaa (pv 0) (jaa jab jad jai) jac))) jad jav) jaB)))),?_⟩;walk_at "rf";refine⟨Bd.fit (n:=10) (by unfold Bd;decide),Bd.fit (n:=30) (by unfold Bd;omega),L,2*d,rfl,pu,by omega,by omega,fun g H1 u s1 p1 n1 gL e1 ul=>⟨by decide,fun p hp=>?_⟩⟩;have s2:=Same.new hp (.lst [V.int 1,V.int 1,V.int 2,V.int 7]);obtain⟨r,hL,r0⟩:=p1;have pL:p≠L:=fun z=>by rw[z,hL] at hp;cases hp
 refine⟨L,4,rfl,⟨r,s2 _ _ hL,r0⟩,by decide,by decide,fun H2 t s3 p3 t0 t4=>?_⟩;have kp:SqL K H2 p [V.int 1,V.int 1,V.int 2,V.int 7]:=SqL.of (s3 _ _ pL jam);have s13:SameB L H H2:=s1.trans (s2.b.trans s3);have eg:A3 H2 g u:=s3 _ _ gL (s2 _ _ e1);have go:∀w:Int,1<=w->w<=7->jgK K [V.ref g,V.int w] H2 Q E0:=fun w w1 w7=>by
  obtain⟨b1,b2,b3⟩:=ul;have g0:0<gl [u.x,u.y,u.z,w]:=jco (n:=w) (by simp) (by omega);have e4:=xaM (jaV (ns:=[u.x,u.y,u.z,w]) (n:=w) (by simp));have sb:SpB ⟨u.x / gl [u.x,u.y,u.z,w],u.y / gl [u.x,u.y,u.z,w],u.z / gl [u.x,u.y,u.z,w],w / gl [u.x,u.y,u.z,w]⟩:=by
   refine⟨Bd.div (by unfold Bd;omega),Bd.div (by unfold Bd;omega),Bd.div (by unfold Bd;omega),Bd.div (by unfold Bd;omega),?_⟩;show 1<=w / gl [u.x,u.y,u.z,w];generalize gl [u.x,u.y,u.z,w]=k at *
   have:0<w / k:=jcP g0 (by rw[xaL,e4];omega);omega
  refine⟨g,u.x,u.y,u.z,w,rfl,A3.l3 eg,by omega,Bd.fit (n:=10) (by unfold Bd;omega),fun g4 H4 s4 e5=>q g4 H4 (spP w u) (s13.trans s4.b) ?_ ⟨e5,sb.sm⟩ sb ⟨Bd.div (by unfold Bd;omega),Bd.div (by unfold Bd;omega),Bd.div (by unfold Bd;omega),Bd.div (by unfold Bd;omega)⟩ (jg9 (ns:=[u.x,u.y,u.z,w]) (by omega))⟩;obtain⟨r3,h3,r30⟩:=p3;exact⟨r3,s4 _ _ h3,r30⟩
 have t3:t=0\/t=1\/t=2\/t=3:=by omega
 rcases t3 with rfl | rfl | rfl | rfl
 ·exact ixL kp rfl (go 1 (by decide) (by decide))
 ·exact ixL kp rfl (go 1 (by decide) (by decide))
 ·exact ixL kp rfl (go 2 (by decide) (by decide))
 ·exact ixL kp rfl (go 7 (by decide) (by decide))
structure ShM (Z:Sht):Prop where
 s:Z.s.le 300000000
 c:Z.c.le 20000000
 d:Z.d.le 20000000
 w:Z.w=1
 nz:Z.u.nz
theorem ShB.m {d:Int} (h:ShB d Z) (l:d<=1000000):ShM Z:=⟨ja2 h.s (by omega),ja2 h.c (by omega),ja2 h.d (by omega),h.w,h.nz⟩
theorem ShM.l (h:ShM Z):ShL Z:=⟨ja2 h.s (by omega),h.c,h.d,h.w,h.nz⟩
def mvS (Z:Sht) (t:Tri):Sht:=⟨⟨Z.s.x+t.x,Z.s.y+t.y,Z.s.z+t.z⟩,Z.w,Z.c,Z.d⟩
theorem jp3 (Z:Sht) (t v:Tri):crn (mvS Z t) v=⟨(crn Z v).x+t.x,(crn Z v).y+t.y,(crn Z v).z+t.z⟩:=by
 unfold crn mvS;simp only
 congr 1<;>omega
theorem ShB.mv {d:Int} {t:Tri} (h:ShB d Z) (l:d<=1000000) (b:t.le 200000000):ShM (mvS Z t):=by
 refine⟨?_,ja2 h.c (by omega),ja2 h.d (by omega),h.w,h.nz⟩;obtain⟨⟨a1,a2⟩,⟨a3,a4⟩,a5,a6⟩:=h.s;obtain⟨⟨b1,b2⟩,⟨b3,b4⟩,b5,b6⟩:=b;unfold Tri.le mvS;simp only;omega
def triV:List Tri:=[⟨0,0,1⟩,⟨1,0,1⟩,⟨0,1,1⟩]
theorem jp4:RowG triV:=by
 refine⟨⟨by decide,fun i j k ij jk kl=>jmr (by decide +kernel) ?_ ?_ ?_ ij jk kl,?_⟩,by decide,?_⟩
 ·have:triV.length=3:=rfl;omega
 ·have:triV.length=3:=rfl;omega
 ·have:triV.length=3:=rfl;omega
 ·decide
 ·intro v hv;unfold triV at hv;simp only[xap,xbX,or_false] at hv;rcases hv with rfl | rfl | rfl<;>decide
def je1 (u v:Tri):Tri:=⟨u.x-v.x,u.y-v.y,u.z-v.z⟩
theorem jit {u:Tri} {b:Int} (hu:u.le a) (hv:v.le b):(je1 u v).le (a+b):=by
 obtain⟨⟨a1,a2⟩,⟨a3,a4⟩,a5,a6⟩:=hu;obtain⟨⟨b1,b2⟩,⟨b3,b4⟩,b5,b6⟩:=hv;unfold Tri.le je1;simp only;omega
theorem jmD {c acc:Addr} {ps:List (Addr × Tri)} {t:Tri} {Zp:Hp->Prop} (kc:SqL K H1 c (rfs ps)) (hp:Prd K H1 ps) (kg:L3 K H1 g t) (n8:ps.length<=8) (hacc:H1 acc=none) (hd:∀(qs:List (Addr × Tri)) (H':Hp),Same H1 H'->H' acc=some (.lst (rfs qs))->qs.map Prod.snd=(ps.map Prod.snd).map (fun v=>⟨v.x+t.x,v.y+t.y,v.z+t.z⟩)->(∀p∈qs,A3 H' p.1 p.2)->Zp H'):CompGo (Itl K c) [some (V.ref g)] (jbt 0) jbU (jgn (jkL (jbF (tC (V.int 3)) jgU)) [0,1] (jbt 0) jbU (tOp (rI0 fun i j=>V.int (i+j)) (tOp (jlN K) (jeE 1) (jeE 0)) (tOp (jlN K) (jeE 2) (jeE 0)))) acc Zp H1:=by
 have gp:∀{j:Nat} (hj:j<ps.length),ps.getD j (0,⟨0,0,0⟩)=ps[j]:=fun {j} hj=>by rw[xac,xad hj];rfl
 refine jmq (fun j=>⟨(ps.getD j (0,⟨0,0,0⟩)).2.x+t.x,(ps.getD j (0,⟨0,0,0⟩)).2.y+t.y,(ps.getD j (0,⟨0,0,0⟩)).2.z+t.z⟩) (by rw[jhU];omega) hacc kc (fun j z H3 R hz s3 hR=>?_) (fun qs H2 s2 e2 pm2 py=>?_)
 ·obtain⟨hj,rfl⟩:=jp2 hz;have pmj:=xaw hj;walk_at "rf";refine⟨by decide,by decide,fun acc3 hacc3=>?_⟩;simp only[gp hj] at hR;refine jfk (n:=3) (fun i=>.int (tc ⟨ps[j].2.x+t.x,ps[j].2.y+t.y,ps[j].2.z+t.z⟩ i)) (by decide) hacc3 (fun i H4 R4 hi s4 hR4=>?_) (fun H4 s4 e4=>hR acc3 H4 s4 hacc3 e4);have s34:=s3.trans s4;have kc:=s34.seq (hp _ pmj);have ka:=s34.seq kg;have:=hR4 _ (Same.refl _);walk_at "rf";refine ixL kc (at3 hi) (ixL ka (at3 hi) ⟨_,rfl,_,rfl,?_⟩);obtain rfl | rfl | rfl:=lt3 hi<;>exact this
 ·refine hd qs H2 s2 e2 ?_ py;rw[pm2,jhU,xbK];refine xcf (by simp) fun j h1 h2=>?_;have hj:j<ps.length:=by simpa using h1
  simp [xac,xad hj]
theorem jiu {ps:List (Addr × Tri)} (hi:i<ps.length):atI (rfs ps) (i:Int)=some (.ref ps[i].1):=ja5 (by unfold rfs;rw[xat,xat,xad hi];rfl)
theorem two_of {qs:List (Addr × Tri)} {f:Nat->Tri} (h:qs.map Prod.snd=(List.range 2).map f):∃q0 q1:Addr × Tri,qs=[q0,q1]/\q0.2=f 0/\q1.2=f 1:=by
  have l:=congrArg List.length h;simp at l
  match qs,l with
  | [a, b], _ =>
    have h':[a.2,b.2]=[f 0,f 1]:=h;injection h' with h1 h2
    injection h2 with h2 _
    exact⟨a,b,rfl,h1,h2⟩
theorem jkA (u v:Tri) (k:Nat):tc u k-tc v k=tc (je1 u v) k:=by
 unfold tc je1;split
 ·rfl
 ·split<;>rfl
def stp (i j:Int) (u v:Tri):Tri:=⟨i*u.x+j*v.x,i*u.y+j*v.y,i*u.z+j*v.z⟩
theorem jp5 (i j:Int) (u v:Tri) (k:Nat):i*tc u k+j*tc v k=tc (stp i j u v) k:=by
 unfold tc stp;split
 ·rfl
 ·split<;>rfl
theorem jp6 {i j:Int} {u:Tri} (hu:u.le 18000000) (hv:v.le 18000000) (i1:-2<=i) (i2:i<=2) (j1:-2<=j) (j2:j<=2):(stp i j u v).le 200000000:=by
 obtain⟨⟨u1,u2⟩,⟨u3,u4⟩,u5,u6⟩:=hu;obtain⟨⟨v1,v2⟩,⟨v3,v4⟩,v5,v6⟩:=hv;have a1:=jbv i1 i2 u1 u2;have a2:=jbv i1 i2 u3 u4;have a3:=jbv i1 i2 u5 u6;have b1:=jbv j1 j2 v1 v2;have b2:=jbv j1 j2 v3 v4;have b3:=jbv j1 j2 v5 v6;unfold Tri.le stp;simp only;omega
theorem jn9 (A B C:Tri):triV.map (crn ⟨A,1,je1 B A,je1 C A⟩)=[A,B,C]:=by
 obtain⟨a1,a2,a3⟩:=A;obtain⟨b1,b2,b3⟩:=B;obtain⟨c1,c2,c3⟩:=C;unfold triV;simp only[xa5,xca];unfold crn je1;simp only
 congr 1
 ·congr 1<;>omega
 ·congr 1
  ·congr 1<;>omega
  ·congr 1
   congr 1<;>omega
inductive spMti (K:PySem.W.Frag) (us:List V) (H:Hp) (Q:VK):Prop
 | mk (c L:Addr) (d:Int) (H0:Hp) (Z:Sht) (n:Nat) (_:us=[.ref c,.ref L,.int d]) (_:CnL K H0 c Z (jek n)) (_:n<9) (_:ShB d Z) (_:Same H0 H) (_:H0 L=none) (_:Purs H L) (_:4<=d) (_:d<=1000000) (_:∀(g:Addr) (H':Hp) (Z':Sht) (vs:List Tri),Same H0 H'->CnL K H' g Z' vs->RowG vs->ShM Z'->Q (.ref g) H')
def spMt (K:PySem.W.Frag):Sp:=fun us H Q _=>spMti K us H Q
def mtM (H0:Hp) (c L:Addr) (d:Int):L2.St->Hp->Prop:=fun σ J=>∃way:Int,σ=[some (.ref c),some (.ref L),some (.int d),some (.int way),none,none,none,none,none,none]/\Same H0 J/\Purs J L/\0<=way/\way<8
theorem ok_mt (T:Tx K mg t1 t2) (F:At K mg "_law_mate" jdM ["corners","purse","wide"] []) (db:jak P w K mg base CX0 2 "_law_take" ["purse","many"] [] jdm) (dR:jak P w K mg base CX0 5 "_law_corners" ["purse","wide"] [] (spCo K)) (dh:jak P w K mg base CX0 3 "_law_arrow" ["purse","wide"] [] jpF) (dg:jak P w K mg base CX0 2 "_law_cross" ["one","other"] [] (jhm K)):jak P w K mg base CX0 6 "_law_mate" ["corners","purse","wide"] [] (spMt K):=by
 refine F.ok jeO (by walk_at "ar") (fun f cdv A outer s H vs Q E hr h=>?_);obtain⟨c,L,d,H0,Z,n,rfl,⟨ps,c1,c2,c3⟩,n9,B,s0,nL,pu,d4,d6,q⟩:=h;have S:=jeO;refine⟨_,(jcu (mtM H0 c L d) (jar (i:=3) S.nd rfl (Or.inl rfl) (jae db hr.m rfl jao (jaa (pv 1) (jaa jab jad jai) jac)))
  (jcu (mtM H0 c L d) (jaM (jat jdW (pv 3) jab (jaw _))
  (jag (jan (jae dR hr.m rfl jao (jaa (pv 1) (jaa (pv 2) jad jac) jac))))
  jax)
  (jcu (mtM H0 c L d) (jaM (jat jcm (pv 3) jab (jaw _))
  (jaf (jar (i:=4) S.nd rfl (Or.inr rfl) (jae dh hr.m rfl jao (jaa (pv 1) (jaa jab jad jai) jac)))
  (jag (jan (jaF rfl (N':=["corner","step"]) (ix:=[4]) (by walk_at "cs") (jba (pv 0)) (fun _ _ _ _=>jau (i:=0) (show (["corner","step"]:List Str).Nodup from by decide +kernel) rfl (Or.inr rfl)) (fun _ _ _ _=>jaK) (fun _ _ _ _=>(jaF rfl (N':=["k","corner","step"]) (ix:=[0,1]) (CompScopeC.nest rfl rfl (by decide +kernel) (by decide +kernel) (by decide +kernel) (show ∀y:Str × NameKind,y∈_->y.2=NameKind.free->y.1∈(["corner","step"]:List Str) from by decide +kernel) (.cons rfl (.inl rfl) rfl (.cons rfl (.inl rfl) rfl .nil))) (jaH rfl T.m_range (jaa jab jad jai)) (fun _ _ _ _=>jau (i:=0) (show (["k","corner","step"]:List Str).Nodup from by decide +kernel) rfl (Or.inl rfl)) (fun _ _ _ _=>jaK) (fun _ _ _ _=>(jap jaP (jal (jaL (K:=K) rfl) (pv 1) (pv 0)) (jal (jaL (K:=K) rfl) (pv 2) (pv 0))))))))))
  jax)
  (jcu (mtM H0 c L d) (jaM (jat jcm (pv 3) jab (jaw _))
  (jaf (jar (i:=5) S.nd rfl (Or.inr rfl) (jap jaW (jae db hr.m rfl jao (jaa (pv 1) (jaa jab jad jai) jac)) jab))
  (jaf (jar (i:=6) S.nd rfl (Or.inr rfl) (jap jaW (jae db hr.m rfl jao (jaa (pv 1) (jaa jab jad jai) jac)) jab))
  (jaf (jar (i:=7) S.nd rfl (Or.inr rfl) (jaF rfl (N':=["n","corners"]) (ix:=[0]) (by walk_at "cs") (jba (jaU (jaa jab (jaa jab jad jai) jai))) (fun _ _ _ _=>jau (i:=0) (show (["n","corners"]:List Str).Nodup from by decide +kernel) rfl (Or.inr rfl)) (fun _ _ _ _=>jaK) (fun _ _ _ _=>(jaF rfl (N':=["k","corners","n"]) (ix:=[1,0]) (CompScopeC.nest rfl rfl (by decide +kernel) (by decide +kernel) (by decide +kernel) (show ∀y:Str × NameKind,y∈_->y.2=NameKind.free->y.1∈(["corners","n"]:List Str) from by decide +kernel) (.cons rfl (.inl rfl) rfl (.cons rfl (.inl rfl) rfl .nil))) (jaH rfl T.m_range (jaa jab jad jai)) (fun _ _ _ _=>jau (i:=0) (show (["k","corners","n"]:List Str).Nodup from by decide +kernel) rfl (Or.inl rfl)) (fun _ _ _ _=>jaK) (fun _ _ _ _=>(jap jaW (jal (jaL (K:=K) rfl) (jal (jaL (K:=K) rfl) (pv 1) (pv 2)) (pv 0)) (jal (jaL (K:=K) rfl) (jal (jaL (K:=K) rfl) (pv 1) jab) (pv 0))))))))
  (jaf (jar (i:=4) S.nd rfl (Or.inr rfl) (jaF rfl (N':=["k","i","arms","j"]) (ix:=[5,7,6]) (by walk_at "cs") (jaH rfl T.m_range (jaa jab jad jai)) (fun _ _ _ _=>jau (i:=0) (show (["k","i","arms","j"]:List Str).Nodup from by decide +kernel) rfl (Or.inl rfl)) (fun _ _ _ _=>jaK) (fun _ _ _ _=>(jap jaP (jap jas (pv 1) (jal (jaL (K:=K) rfl) (jal (jaL (K:=K) rfl) (pv 2) jab) (pv 0))) (jap jas (pv 3) (jal (jaL (K:=K) rfl) (jal (jaL (K:=K) rfl) (pv 2) jab) (pv 0)))))))
  (jag (jan (jaF rfl (N':=["corner","step"]) (ix:=[4]) (by walk_at "cs") (jba (pv 0)) (fun _ _ _ _=>jau (i:=0) (show (["corner","step"]:List Str).Nodup from by decide +kernel) rfl (Or.inr rfl)) (fun _ _ _ _=>jaK) (fun _ _ _ _=>(jaF rfl (N':=["k","corner","step"]) (ix:=[0,1]) (CompScopeC.nest rfl rfl (by decide +kernel) (by decide +kernel) (by decide +kernel) (show ∀y:Str × NameKind,y∈_->y.2=NameKind.free->y.1∈(["corner","step"]:List Str) from by decide +kernel) (.cons rfl (.inl rfl) rfl (.cons rfl (.inl rfl) rfl .nil))) (jaH rfl T.m_range (jaa jab jad jai)) (fun _ _ _ _=>jau (i:=0) (show (["k","corner","step"]:List Str).Nodup from by decide +kernel) rfl (Or.inl rfl)) (fun _ _ _ _=>jaK) (fun _ _ _ _=>(jap jaP (jal (jaL (K:=K) rfl) (pv 1) (pv 0)) (jal (jaL (K:=K) rfl) (pv 2) (pv 0)))))))))))))
  jax)
  (jaf (jar (i:=8) S.nd rfl (Or.inr rfl) (jaU (jaa (jal ix_list (pv 0) jab) (jaa (jal ix_list (pv 0) jab) jad jav) jav)))
  (jaf (jar (i:=9) S.nd rfl (Or.inr rfl) (jae dh hr.m rfl jao (jaa (pv 1) (jaa (pv 2) jad jac) jac)))
  (jaf (jar (i:=7) S.nd rfl (Or.inr rfl) (jaU (jaa (jaF rfl (N':=["k","third","edge"]) (ix:=[9,8]) (by walk_at "cs") (jaH rfl T.m_range (jaa jab jad jai)) (fun _ _ _ _=>jau (i:=0) (show (["k","third","edge"]:List Str).Nodup from by decide +kernel) rfl (Or.inl rfl)) (fun _ _ _ _=>jaK) (fun _ _ _ _=>(jap jaW (jal (jaL (K:=K) rfl) (pv 1) (pv 0)) (jal (jaL (K:=K) rfl) (jal (jaL (K:=K) rfl) (pv 2) jab) (pv 0))))) (jaa (jaF rfl (N':=["k","edge"]) (ix:=[8]) (by walk_at "cs") (jaH rfl T.m_range (jaa jab jad jai)) (fun _ _ _ _=>jau (i:=0) (show (["k","edge"]:List Str).Nodup from by decide +kernel) rfl (Or.inl rfl)) (fun _ _ _ _=>jaK) (fun _ _ _ _=>(jap jaW (jal (jaL (K:=K) rfl) (jal (jaL (K:=K) rfl) (pv 1) jab) (pv 0)) (jal (jaL (K:=K) rfl) (jal (jaL (K:=K) rfl) (pv 1) jab) (pv 0))))) jad jcn) jcn)))
  (jaf (jaM (jat (jg4 (jiO hr)) (jae dg hr.m rfl jao (jaa (jal ix_list (pv 7) jab) (jaa (jal ix_list (pv 7) jab) jad jav) jav)) (jaU (jaa jab (jaa jab (jaa jab jad jai) jai) jai)) (jaw _))
  (jag (jan (pv 0)))
  jax)
  (jag (jan (jap jfX (pv 8) (jaU (jaa (pv 9) jad jac))))))))))))),?_⟩
 walk_at "rf";have n8:=(jds n n9).2;have n3:=(jds n n9).1;have lp:ps.length=(jek n).length:=by have:=congrArg List.length c3;rwa [xaa,xaa] at this
 have mv:∀(t:Tri) (qs:List (Addr × Tri)),qs.map Prod.snd=(ps.map Prod.snd).map (fun v=>⟨v.x+t.x,v.y+t.y,v.z+t.z⟩)->qs.map Prod.snd=(jek n).map (crn (mvS Z t)):=fun t qs h=>by
  rw[h,c3,xbK];exact xb0 fun v _=>(jp3 Z t v).symm
 have crn9:∀p∈ps,p.2.le 9000000:=fun p hp=>by
  have:p.2∈ps.map Prod.snd:=xai.mpr ⟨p,hp,rfl⟩;rw[c3] at this;obtain⟨v,hv,e⟩:=xai.mp this;rw[<- e];exact B.crn d6 (jfO n9 hv).1 (jfO n9 hv).2.1
 have pl0:0<ps.length:=by omega
 have pl1:1<ps.length:=by omega
 have pl2:2<ps.length:=by omega
 have st:∀{way:Int} {J:Hp},Same H0 J->Purs J L->0<=way->way<8->mtM H0 c L d [some (V.ref c),some (V.ref L),some (V.int d),some (V.int way),none,none,none,none,none,none] J:=fun a b c d=>⟨_,rfl,a,b,c,d⟩;refine⟨⟨L,8,rfl,pu,by decide,by decide,fun H1 way s1 p1 w0 w8=>st (SameB.fresh s0 nL s1) p1 w0 w8⟩,?_⟩;rintro σ H1 ⟨way,rfl,z1,p1,w0,w8⟩;walk_at "rf";refine⟨?_,?_⟩
 ·by_cases w3:way<3
  ·rw[if_pos w3];exact⟨L,d,rfl,p1,d4,d6,fun g H2 Z2 n2 s2 p2 k2 n29 B2=>q g H2 Z2 _ (SameB.fresh z1 nL s2) k2 (jhn n29) (B2.m d6)⟩
  rw[if_neg w3];exact st z1 p1 w0 w8
 rintro σ H1 ⟨way,rfl,z1,p1,w0,w8⟩;walk_at "rf";refine⟨?_,?_⟩
 ·by_cases e3:way=3
  ·rw[if_pos e3];refine⟨L,2,rfl,p1,by decide,by decide,fun g H2 t s2 p2 ng gL eg lt=>?_⟩;have z2:=SameB.fresh z1 nL s2;refine⟨⟨_,z2.seq c1⟩,fun acc hacc=>?_⟩;exact jmD (z2.seq c1) (c2.keep z2) (A3.l3 eg) (by omega) hacc fun qs H3 s3 e3 pm py=>q acc H3 (mvS Z t) _ (z2.trans s3) ⟨qs,SqL.of e3,fun p hp=>A3.l3 (py p hp),mv t qs pm⟩ (jhn n9) (B.mv d6 (ja2 lt (by decide)))
  rw[if_neg e3];exact st z1 p1 w0 w8
 rintro σ H1 ⟨way,rfl,z1,p1,w0,w8⟩;walk_at "rf";refine⟨?_,?_⟩
 ·by_cases e4:way=4
  ·rw[if_pos e4];refine⟨L,5,rfl,p1,by decide,by decide,fun H2 i s2 p2 i0 i5=>⟨i,rfl,L,5,rfl,p2,by decide,by decide,fun H3 j s3 p3 j0 j5=>⟨j,rfl,by decide,fun p hp=>?_⟩⟩⟩;have z3:=SameB.fresh z1 nL (s2.trans s3);refine jbJ hp fun H4 s4 e4'=>⟨⟨_,SqL.of e4'⟩,fun acc hacc=>?_⟩;have z4:=z3.trans s4;have le0:ps[0].2.le 9000000:=crn9 _ (xaw _);have le1:ps[1].2.le 9000000:=crn9 _ (xaw _);have le2:ps[2].2.le 9000000:=crn9 _ (xaw _);refine jmq (fun m=>je1 (ps.getD (m+1) (0,⟨0,0,0⟩)).2 ps[0].2) (by show 2<1000;decide) hacc (SqL.of e4') (fun m z H5 R hz s5 hR=>?_) (fun qs H5 s5 e5 pm py=>?_)
   ·have hm:m<2:=(xae.mp hz).1;obtain⟨rfl,hm1⟩:z=.int ((m+1:Nat):Int)/\m+1<ps.length:=by
     have m2:m=0\/m=1:=by omega
     rcases m2 with rfl | rfl<;>exact⟨(Option.some.inj hz).symm,by omega⟩
    have gp:(ps.getD (m+1) (0,⟨0,0,0⟩))=ps[m+1]:=by rw[xac,xad hm1];rfl
    rw[gp] at hR;have z5:=z4.trans s5;walk_at "rf";refine⟨by decide,by decide,fun acc3 hacc3=>?_⟩;refine jfk (n:=3) (fun k=>.int (tc (je1 ps[m+1].2 ps[0].2) k)) (by decide) hacc3 (fun k H6 R6 hk s6 hR6=>?_) (fun H6 s6 e6=>hR acc3 H6 s6 hacc3 e6);have z6:=z5.trans s6;have k1:SqL K H6 ps[m+1].1 _:=z6.seq (c2 _ (xaw hm1));have k0:SqL K H6 ps[0].1 _:=z6.seq (c2 _ (xaw (show 0<ps.length by omega)));have:=hR6 _ (Same.refl _);rw[<- jkA] at this;walk_at "rf";exact ixL (z6.seq c1) (jiu hm1) (ixL k1 (at3 hk) (ixL (z6.seq c1) (jiu (i:=0) (by omega)) (ixL k0 (at3 hk) ⟨_,rfl,_,rfl,this⟩)))
   ·obtain⟨q0,q1,rfl,f0,f1⟩:=two_of pm;have h0:=py q0 (by simp);have h1:=py q1 (by simp);rw[f0,show ps.getD (0+1) (0,⟨0,0,0⟩)=ps[1] by rw[xac,xad (show 0+1<ps.length by omega)];rfl] at h0;rw[f1,show ps.getD (1+1) (0,⟨0,0,0⟩)=ps[2] by rw[xac,xad (show 1+1<ps.length by omega)];rfl] at h1;have l1:=jit le1 le0;have l2:=jit le2 le0;generalize je1 ps[1].2 ps[0].2=u1 at *
    generalize je1 ps[2].2 ps[0].2=u2 at *
    refine⟨by decide,by decide,fun acc2 hacc2=>?_⟩;refine jfk (n:=3) (fun k=>.int (tc (stp (i-2) (j-2) u1 u2) k)) (by decide) hacc2 (fun k H6 R6 hk s6 hR6=>?_) (fun H6 s6 e6=>?_)
    ·have kk:SqL K H6 acc [.ref q0.1,.ref q1.1]:=SqL.of (s6 _ _ e5);have k0:SqL K H6 q0.1 _:=A3.l3 (s6 _ _ h0);have k1:SqL K H6 q1.1 _:=A3.l3 (s6 _ _ h1);have t1:=jlz l1 k;have t2:=jlz l2 k;have:=hR6 _ (Same.refl _);rw[<- jp5] at this;walk_at "rf";exact ixL kk rfl (ixL k0 (at3 hk) ⟨_,rfl,Bd.fit (n:=10) (by unfold Bd;omega),Bd.fit (n:=30) (by unfold Bd;omega),ixL kk rfl (ixL k1 (at3 hk) ⟨_,rfl,Bd.fit (n:=10) (by unfold Bd;omega),Bd.fit (n:=30) (by unfold Bd;omega),this⟩)⟩)
    ·have z6:=z4.trans (s5.trans s6);refine⟨⟨_,z6.seq c1⟩,fun acc3 hacc3=>?_⟩;exact jmD (z6.seq c1) (c2.keep z6) (show L3 K H6 acc2 (stp (i-2) (j-2) u1 u2) from SqL.of e6) (by omega) hacc3 fun qs H7 s7 e7 pm py=>q acc3 H7 (mvS Z _) _ (z6.trans s7) ⟨qs,SqL.of e7,fun p hp=>A3.l3 (py p hp),mv _ qs pm⟩ (jhn n9) (B.mv d6 (jp6 l1 l2 (by omega) (by omega) (by omega) (by omega)))
  rw[if_neg e4];exact st z1 p1 w0 w8
 rintro σ H1 ⟨way,rfl,z1,p1,w0,w8⟩;walk_at "rf";have le0:ps[0].2.le 9000000:=crn9 _ (xaw _);have le1:ps[1].2.le 9000000:=crn9 _ (xaw _);refine ixL (z1.seq c1) (jiu (i:=0) (by omega)) (ixL (z1.seq c1) (jiu (i:=1) (by omega)) ⟨by decide,fun p hp=>?_⟩);refine jbJ hp fun H2 s2 e2=>?_;have p2:=p1.keep s2;have pL:p≠L:=fun z=>by obtain⟨r,h,_⟩:=p1;rw[z,h] at hp;cases hp
 refine⟨L,d,rfl,p2,by omega,by omega,fun g H3 u s3 p3 ng gL eg lu=>?_⟩;have z3:=SameB.fresh z1 nL (s2.b.trans s3);have e3':H3 p=some (.lst [.ref ps[0].1,.ref ps[1].1]):=s3 _ _ pL e2;refine⟨by decide,by decide,fun acc hacc=>?_⟩;refine jfk (n:=3) (fun k=>.int (tc (je1 u ps[0].2) k)) (by decide) hacc (fun k H6 R6 hk s6 hR6=>?_) (fun H4 s4 e4'=>?_)
 ·have:=hR6 _ (Same.refl _);rw[<- jkA] at this;have k0:SqL K H6 ps[0].1 _:=(z3.trans s6).seq (c2 _ (xaw (show 0<ps.length by omega)));walk_at "rf";exact ixL (A3.l3 (K:=K) (s6 _ _ eg)) (at3 hk) (ixL (SqL.of (s6 _ _ e3')) rfl (ixL k0 (at3 hk) ⟨_,rfl,_,rfl,this⟩))
 have z4:=z3.trans s4;refine⟨by decide,by decide,fun acc2 hacc2=>?_⟩;refine jfk (n:=3) (fun k=>.int (tc (je1 ps[1].2 ps[0].2) k)) (by decide) hacc2 (fun k H6 R6 hk s6 hR6=>?_) (fun H5 s5 e5=>?_)
 ·have:=hR6 _ (Same.refl _);rw[<- jkA] at this;have k0:SqL K H6 ps[0].1 _:=(z4.trans s6).seq (c2 _ (xaw (show 0<ps.length by omega)));have k1:SqL K H6 ps[1].1 _:=(z4.trans s6).seq (c2 _ (xaw (show 1<ps.length by omega)));have kp:SqL K H6 p [.ref ps[0].1,.ref ps[1].1]:=SqL.of (s6 _ _ (s4 _ _ e3'));walk_at "rf";exact ixL kp rfl (ixL k1 (at3 hk) (ixL kp rfl (ixL k0 (at3 hk) ⟨_,rfl,_,rfl,this⟩)))
 refine⟨by decide,fun pa hpa=>?_⟩;refine jbJ hpa fun H6 s6 e6=>?_;have z6:=z4.trans (s5.trans s6);have lu':=jit lu le0;have lv:=jit le1 le0;refine ixL (SqL.of e6) rfl (ixL (SqL.of e6) rfl ?_);have w1:L3 K H6 acc (je1 u ps[0].2):=SqL.of ((s5.trans s6) _ _ e4');have w2:L3 K H6 acc2 (je1 ps[1].2 ps[0].2):=SqL.of (s6 _ _ e5);refine⟨acc,acc2,_,_,rfl,w1,w2,Bd3.mono (jkx lu' (by omega)) (by decide),Bd3.mono (jkx lv (by decide)) (by decide),fun gx H7 nx s7 e7=>⟨by decide,fun pz hpz=>?_⟩⟩;refine jbJ hpz fun H8 s8 e8=>?_;have z8:=z6.trans (s7.trans s8);have e7':H8 gx=some (.lst ([(cr3 (je1 u ps[0].2) (je1 ps[1].2 ps[0].2)).x,(cr3 (je1 u ps[0].2) (je1 ps[1].2 ps[0].2)).y,(cr3 (je1 u ps[0].2) (je1 ps[1].2 ps[0].2)).z].map V.int)):=s8 _ _ e7;refine jgo (y:=[0,0,0]) (SqL.of e7') (SqL.of e8) ⟨_,rfl,?_⟩;by_cases nz:(cr3 (je1 u ps[0].2) (je1 ps[1].2 ps[0].2)).nz
 ·rw[nzT nz,if_neg (by decide)];refine⟨by decide,fun p3 hp3=>?_⟩;refine jbJ hp3 fun H9 s9 e9=>?_;have s39:=s4.trans (s5.trans (s6.trans (s7.trans (s8.trans s9))));refine⟨p,p3,_,_,rfl,rfl,s39 _ _ e3',e9,show 2+1<=sizeLine by decide,fun PL hPL=>?_⟩;refine jbJ hPL fun Hz sz ez=>?_;have zz:=(z8.trans s9).trans sz;refine q PL Hz ⟨ps[0].2,1,je1 ps[1].2 ps[0].2,je1 u ps[0].2⟩ triV zz ⟨[(ps[0].1,ps[0].2),(ps[1].1,ps[1].2),(g,u)],SqL.of ez,fun x hx=>?_,(jn9 _ _ _).symm⟩ jp4 ⟨ja2 le0 (by decide),ja2 lv (by decide),ja2 lu' (by omega),rfl,fun z=>nz ?_⟩
  ·simp only[xap,xbX,or_false] at hx;rcases hx with rfl | rfl | rfl
   ·exact zz.seq (c2 _ (xaw (show 0<ps.length by omega)))
   ·exact zz.seq (c2 _ (xaw (show 1<ps.length by omega)))
   ·exact A3.l3 ((s39.trans sz) _ _ eg)
  ·obtain⟨x1,x2,x3⟩:=z;unfold Sht.u at x1 x2 x3;unfold cr3;simp only at *
   exact⟨by grind,by grind,by grind⟩
 ·rw[nzF (xbp.mp nz),if_pos rfl];exact q c _ Z _ z8 ⟨ps,z8.seq c1,c2.keep z8,c3⟩ (jhn n9) (B.m d6)
def upT (ps:List Pt):Pt:=⟨(upr ps).x,(upr ps).y,(upr ps).z,0⟩
theorem joa (ps:List Pt) (k:Nat) (X:Pt):wl ps k X=-((pt ps (wrp ps.length k)).w*hgP (rgQ (upT ps) (pt ps (wrp ps.length k)) (pt ps k)) X):=by
 unfold wl upT;generalize upr ps=u;generalize pt ps (wrp ps.length k)=a;generalize pt ps k=b;unfold jge cr3 ja6;rw[jb6];unfold ja3;simp only;grind
theorem Scn.up (h:Scn Z vs ps s):hgP (nP Z) (upT ps)≠0:=by
 obtain⟨k,m,k0,m0,e⟩:=h.own;have n3:=h.fre.n3;have w0:=(h.bp _ (jaD (l:=ps) (i:=0) (by omega))).w1;have un:(upr ps).nz:=fun ⟨a,b,c⟩=>by
  have h1:=jgh ps s;have:hov ps s=0:=by
   unfold hov jge;rw[a,b,c];simp
  rw[this] at h1;have h2:=(xah.mp h1.symm).resolve_left (xa1 (xab (by omega) (by omega)));have h3:=e s;rw[h2,xaj] at h3;exact ((xah.mp h3.symm).elim m0 h.fr)
 have s1:=jmy un;intro z;have h1:=jgh ps (upT ps);have h3:=e (upT ps);rw[z,xaj] at h3;have h4:=(xah.mp h3).resolve_left (by omega);rw[h4,xaj] at h1;have:hov ps (upT ps)=(pt ps 0).w*jge (upr ps) (upr ps):=by
  unfold hov upT;generalize upr ps=u;generalize pt ps 0=a;unfold ja6 jge;simp only;grind
 rw[this] at h1;have:=xab (show 0<(pt ps 0).w by omega) (show 0<jge (upr ps) (upr ps) by omega);omega
def scP (k:Int) (f:Pt):Pt:=⟨k*f.x,k*f.y,k*f.z,k*f.w⟩
theorem jgi (k:Int) (f P:Pt):hgP (scP k f) P=k*hgP f P:=by
 unfold scP hgP hgt;simp only;grind
theorem jlC {fs:List Pt} {g:Pt} (h1:Scn Z1 vs ps s) (nz:KP (fs.map (jaO Z1)) vs≠[]) (rc:RR ((KP (fs.map (jaO Z1)) vs).map (spt Z1)) cs) (nn:∀u,InR vs u->1<=u.z->0<=hgP g (jay Z1 u)) (nt:∃q:Tri,hgP g (jay Z1 q)≠0):0<hgP g (jb7 cs):=by
 rcases jj9 (fs.map (jaO Z1)) h1.R with z | ⟨U,reg,ln⟩
 ·exact absurd z nz
 ·exact (jgM h1 nz rc).2 g (fun u hu=>by rw[jbE];exact nn u ((reg u (U.hz u hu)).mp (U.own hu)).1 (U.hz u hu)) (by obtain⟨q,hq⟩:=nt;exact⟨q,by rw[jbE];exact hq⟩)
theorem jkB {fs:List Pt} (h1:Scn Z1 vs ps s) (nz:KP (fs.map (jaO Z1)) vs≠[]) (rc:RR ((KP (fs.map (jaO Z1)) vs).map (spt Z1)) cs):hgP (nP Z1) (jb7 cs)=0:=by
  rcases jj9 (fs.map (jaO Z1)) h1.R with z | ⟨U,reg,ln⟩
  . exact absurd z nz
  have w1:=(jfQ h1 nz rc).1;obtain⟨k,k0,ek⟩:=jeW w1;have z:∀c∈cs,hgP (nP Z1) c=0:=fun c hc=>by
    obtain⟨u,hu,rfl⟩:=xai.mp (rc.mem.mp hc);have e:=jfP Z1 u (nP Z1);rw[jeD] at e;exact (xah.mp e).resolve_left (xa1 (jaY h1.hw (U.hz u hu)))
  have s0:∀{l:List Pt},(∀c∈l,hgP (nP Z1) c=0)->(l.map (hgP (nP Z1))).sum=0:=fun {l} h=>by
    induction l with
    | nil=>simp
    | cons x l ih =>
      rw[xa5,xb6,h x (by simp),ih fun c hc=>h c (xag _ hc)];rfl
  have e:=ek (nP Z1);rw[jhV,s0 z] at e;exact (xah.mp e).resolve_left (by omega)
theorem jp7 {fs:List Pt} (h1:Scn Z1 vs ps s) (nz:KP (fs.map (jaO Z1)) vs≠[]) (rc:RR ((KP (fs.map (jaO Z1)) vs).map (spt Z1)) cs):1<=(jb7 cs).w:=by
 have w1:=(jfQ h1 nz rc).1;obtain⟨k,k0,ek⟩:=jeW w1;have h:=ek ⟨0,0,0,-1⟩;unfold hgP hgt at h;simp only at h;have:0<(jb7 cs).w:=jcP k0 (by
  have:k*(jbg (jcQ cs)).w=(jcQ cs).w:=by grind
  show 0<k*(jbg (jcQ cs)).w;omega)
 omega
theorem jhW (h:r.w≠0):1<=(jbg r).w/\∃k:Int,k≠0/\∀g,k*hgP g (jbg r)=hgP g r:=by
 have wp:∀{q:Pt},1<=q.w->1<=(jbg q).w:=fun {q} h=>by
  obtain⟨k,k0,ek⟩:=jeW h;have h':=ek ⟨0,0,0,-1⟩;unfold hgP hgt at h';simp only at h';have:0<(jbg q).w:=jcP k0 (by
   have:k*(jbg q).w=q.w:=by grind
   omega)
  omega
 rcases xav h with c | c
 ·have e:jbg r=jbg ⟨-r.x,-r.y,-r.z,-r.w⟩:=by
   unfold jbg;rw[if_pos c,if_neg (show ¬(-r.w)<0 by omega)]
  obtain⟨k,k0,ek⟩:=jeW (r:=⟨-r.x,-r.y,-r.z,-r.w⟩) (show 1<=-r.w by omega);rw[e];refine⟨wp (show 1<=-r.w by omega),-k,by omega,fun g=>?_⟩;have:=ek g;have n:hgP g ⟨-r.x,-r.y,-r.z,-r.w⟩=-hgP g r:=by
   unfold hgP hgt;simp only;grind
  rw[n] at this;rw[xbn,this,Int.neg_neg]
 ·obtain⟨k,k0,ek⟩:=jeW (show 1<=r.w by omega);exact⟨wp (by omega),k,by omega,ek⟩
theorem jp8 (f s N g:Pt):hgP g (jcD f.x f.y f.z f.w s N)=hgP f N*hgP g s-hgP f s*hgP g N:=by
 unfold jcD;unfold hgP;generalize hgt f.x f.y f.z f.w N=a;generalize hgt f.x f.y f.z f.w s=b;unfold hgt;simp only;grind
theorem jp9 {fs:List Pt} (h1:Scn Z1 vs ps s) (h2:Scn Z2 ws qs s) (sw:1<=s.w) (py:PyF s qs fs) (nz:KP (fs.map (jaO Z1)) vs≠[]) (rc:RR ((KP (fs.map (jaO Z1)) vs).map (spt Z1)) cs) (hf0:PlF (rgQ (pt qs 0) (pt qs 1) (pt qs 2)) f):1<=(jiL f s cs).w/\∃(c:Tri) (a b α β:Int),0<a/\0<b/\0<α/\0<β/\(∀e∈prs ws,0<dt e.1 e.2 c)/\(∀g,a*hgP g (jiL f s cs)=b*hgP g (jay Z2 c))/\∀g,α*hgP g (jb7 cs)=β*hgP g s+a*hgP g (jiL f s cs):=by
 have mw:=jn7 h1 h2 sw py nz rc hf0;obtain⟨ε,Y⟩:=jiq h2 sw py;obtain⟨_,nf⟩:=jfQ h1 nz rc;have fw:(jiL f s cs)=jbg (jcD f.x f.y f.z f.w s (jb7 cs)):=rfl;rw[fw];generalize jb7 cs=N at *
 have ed:∀e∈prs ws,0 < -ε*hgP (rgQ s (jay Z2 e.1) (jay Z2 e.2)) N:=fun e he=>by
  obtain⟨F,hF,a⟩:=Y.fe e he;exact (a.sg N).1.mp (nf F hF)
 have yin:=jpv (Z:=Z2) (s:=s) (P:=N) (ε:=ε) h2.R ed;have yr:=jkj Z2 s N ε;have bp:0<ε*hgP (nP Z2) N:=by
  obtain⟨F,hF,a⟩:=Y.f0;exact (a.sg N).1.mp (nf F hF)
 have ap:=Y.sg;have ww:0<Z2.w*Z2.w:=xab (by have:=h2.hw;omega) (by have:=h2.hw;omega);obtain⟨nw,k,k0,ek⟩:=jhW mw;generalize jbg (jcD f.x f.y f.z f.w s N)=Fp at *
 refine⟨nw,yy Z2 s N ε,?_⟩;obtain⟨kk,m,kk0,m0,e⟩:=h2.own;obtain⟨gg,σ,g0,s1,eg⟩:=hf0.sg;have ef:∀P,kk*gg*hgP f P=σ*m*hgP (nP Z2) P:=fun P=>by
  have:=eg P;have:=e P;grind
 have sm:σ*m≠0:=xaF (by omega) m0;have e0:ε≠0:=fun z=>by rw[z] at ap;omega
 have mul:∀g,(kk*gg*(Z2.w*Z2.w)*ε*k)*hgP g Fp=(-(σ*m))*hgP g (jay Z2 (yy Z2 s N ε)):=fun g=>by
  have h:=ek g;rw[jp8] at h;have x1:=ef N;have x2:=ef s;rw[yr g];have:(kk*gg*(Z2.w*Z2.w)*ε*k)*hgP g Fp=Z2.w*Z2.w*ε*(kk*gg*(k*hgP g Fp)):=by grind
  rw[this,h];have:kk*gg*(hgP f N*hgP g s-hgP f s*hgP g N)=(kk*gg*hgP f N)*hgP g s-(kk*gg*hgP f s)*hgP g N:=by grind
  rw[this,x1,x2];grind
 have t1:kk*gg*(Z2.w*Z2.w)*ε*k≠0:=xaF (xaF (xaF (xa1 (xab kk0 g0)) (xa1 ww)) e0) k0;generalize kk*gg*(Z2.w*Z2.w)*ε*k=A at mul t1;have t2:-(σ*m)≠0:=by omega
 generalize -(σ*m)=B at mul t2;have rw0:0<(jay Z2 (yy Z2 s N ε)).w:=xab (show 0<Z2.w by have:=h2.hw;omega) (show 0<(yy Z2 s N ε).z by omega);have gw:∀X:Pt,hgP ⟨0,0,0,-1⟩ X=X.w:=fun X=>by
  unfold hgP hgt;simp only;omega
 have wq:=mul ⟨0,0,0,-1⟩;rw[gw,gw] at wq;have dtp:∀e∈prs ws,0<dt e.1 e.2 (yy Z2 s N ε):=fun e he=>by
  rw[jnM];exact ed e he
 have fin:∀a b:Int,0<a->0<b->(∀g,a*hgP g Fp=b*hgP g (jay Z2 (yy Z2 s N ε)))->∃a b α β:Int,0<a/\0<b/\0<α/\0<β/\(∀e∈prs ws,0<dt e.1 e.2 (yy Z2 s N ε))/\(∀g,a*hgP g Fp=b*hgP g (jay Z2 (yy Z2 s N ε)))/\∀g,α*hgP g N=β*hgP g s+a*hgP g Fp:=fun a b a0 b0 h=>by
  refine⟨a,b,b*(Z2.w*Z2.w*(ε*hgP (nP Z2) s)),b*(Z2.w*Z2.w*(ε*hgP (nP Z2) N)),a0,b0,xab b0 (xab ww ap),xab b0 (xab ww bp),dtp,h,fun g=>?_⟩;rw[h g,yr g];grind
 rcases xav t1 with a | a<;>rcases xav t2 with b | b
 ·exact fin (-A) (-B) (by omega) (by omega) fun g=>by have:=mul g;grind
 ·exfalso;have:=xay a (show 0<Fp.w by omega);have:=xab b rw0;omega
 ·exfalso;have:=xab a (show 0<Fp.w by omega);have:=xay b rw0;omega
 ·exact fin A B a b mul
theorem jqa {m1 f1 f2 w1 w2:Int} (e1:m1*f1=m2*w1) (e2:m1*f2=m2*w2) (z1:m1≠0) (z2:m2≠0) (p1:0<f1) (p2:0<f2):sgn w1*sgn w2=1:=by
 have sq:∀{m:Int},m≠0->0<m*m:=fun {m} h=>by
  rcases xav h with a | a
  ·exact xaN a a
  ·exact xab a a
 have e:(m2*m2)*(w1*w2)=(m1*m1)*(f1*f2):=by
  have:(m2*m2)*(w1*w2)=(m2*w1)*(m2*w2):=by grind
  rw[this,<- e1,<- e2];grind
 have q:0<w1*w2:=jcP (sq z2) (by rw[e];exact xab (sq z1) (xab p1 p2));unfold sgn;rcases xa8 w1 0 with a | a | a<;>rcases xa8 w2 0 with b | b | b
 ·rw[if_neg (by omega),if_pos a,if_neg (by omega),if_pos b];decide
 ·rw[b,xaj] at q;omega
 ·have:=xay a b;omega
 ·rw[a,xaJ] at q;omega
 ·rw[a,xaJ] at q;omega
 ·rw[a,xaJ] at q;omega
 ·have:=xak a b;omega
 ·rw[b,xaj] at q;omega
 ·rw[if_pos a,if_pos b];decide
theorem jiv {k:Nat} (h:Scn Z vs ps s) (e1:0<ε*hgP (nP Z) (upT ps)) (hk:k<ps.length) (he:e∈prs vs) (o:(pt ps (wrp ps.length k)=spt Z e.1/\pt ps k=spt Z e.2)\/(pt ps (wrp ps.length k)=spt Z e.2/\pt ps k=spt Z e.1)):(∃m1 m2:Int,m1≠0/\m2≠0/\∀P,m1*(-ε*hgP (rgQ (upT ps) (jay Z e.1) (jay Z e.2)) P)=m2*wl ps k P)/\0<=-ε*hgP (rgQ (upT ps) (jay Z e.1) (jay Z e.2)) (pt ps (jej ps.length k)):=by
 have n3:=h.fre.n3;have e0:ε≠0:=fun z=>by rw[z] at e1;omega
 have ww:0<Z.w*Z.w:=xab (by have:=h.hw;omega) (by have:=h.hw;omega);have ew:=xab ww e1;have mk:wrp ps.length k<ps.length:=xaz _ (by omega);have m2:jej ps.length k<ps.length:=xaz _ (by omega);have w0:=(h.bp _ (jaD mk)).w1;obtain⟨v,hv,ev⟩:=h.mem.mp (jaD m2);have vz:=h.R.hz v hv;obtain⟨b1,b2⟩:=jdk he;have g1:=jaY (Z:=Z) (v:=e.1) h.hw (h.R.hz _ b1);have g2:=jaY (Z:=Z) (v:=e.2) h.hw (h.R.hz _ b2);constructor
 ·have gg:=xab g1 g2;rcases o with ⟨p1,p2⟩ | ⟨p1,p2⟩
  ·refine⟨(pt ps (wrp ps.length k)).w,ε*(rG Z e.1*rG Z e.2),by omega,xaF e0 (by omega),fun P=>?_⟩;rw[joa,<- jgf,p1,p2];grind
  ·refine⟨(pt ps (wrp ps.length k)).w,-ε*(rG Z e.1*rG Z e.2),by omega,xaF (by omega) (by omega),fun P=>?_⟩;rw[joa,<- jgf,p1,p2,je0];grind
 ·rw[ev];have hs:=jfP Z v (rgQ (upT ps) (jay Z e.1) (jay Z e.2));have g3:=jaY (Z:=Z) (v:=v) h.hw vz;have nn:=xaf (xan ew) (h.R.own hv _ he);have rc:=jbh Z (upT ps) e.1 e.2 v;rw[rc] at hs;have q:rG Z v*(-ε*hgP (rgQ (upT ps) (jay Z e.1) (jay Z e.2)) (spt Z v))=Z.w*Z.w*(ε*hgP (nP Z) (upT ps))*dt e.1 e.2 v:=by
   have:rG Z v*(-ε*hgP (rgQ (upT ps) (jay Z e.1) (jay Z e.2)) (spt Z v))=-ε*(rG Z v*hgP (rgQ (upT ps) (jay Z e.1) (jay Z e.2)) (spt Z v)):=by grind
   rw[this,hs];grind
  rcases xaE (-ε*hgP (rgQ (upT ps) (jay Z e.1) (jay Z e.2)) (spt Z v)) 0 with c | c
  ·have:=xak g3 c;omega
  ·exact c
theorem jlD {X:Pt} (h:Scn Z vs ps s) (zX:hgP (nP Z) X=0) (e1:0<ε*hgP (nP Z) (upT ps)) (all:∀e∈prs vs,0 < -ε*hgP (rgQ (upT ps) (jay Z e.1) (jay Z e.2)) X):hov ps X=0/\∀k,k<ps.length->sgn (wl ps k (pt ps (jej ps.length k)))*sgn (wl ps k X)=1:=by
 have n3:=h.fre.n3;have n8:=h.fre.n8;have e0:ε≠0:=fun z=>by rw[z] at e1;omega
 have ww:0<Z.w*Z.w:=xab (by have:=h.hw;omega) (by have:=h.hw;omega);have ew:=xab ww e1;refine⟨?_,fun k hk=>?_⟩
 ·obtain⟨k,m,k0,m0,e⟩:=h.own;have h3:=e X;rw[zX,xaj] at h3;rw[jgh,(xah.mp h3).resolve_left (by omega),xaj]
 obtain⟨oe,o1,o2⟩:=h.edge;obtain⟨he,o⟩:=o1 k hk;obtain⟨⟨m1,m2',q1,q2,lin⟩,nn⟩:=jiv h e1 hk he o;have m2:jej ps.length k<ps.length:=xaz _ (by omega);have mk:wrp ps.length k<ps.length:=xaz _ (by omega);have w0:=(h.bp _ (jaD mk)).w1;refine jqa (lin _) (lin X) q1 q2 ?_ (all _ he);have nz:-ε*hgP (rgQ (upT ps) (jay Z (oe k).1) (jay Z (oe k).2)) (pt ps (jej ps.length k))≠0:=fun z=>by
  have l0:=lin (pt ps (jej ps.length k));rw[z,xaj] at l0;have w00:=(xah.mp l0.symm).resolve_left q2;rw[joa] at w00;have h0:hgP (rgQ (upT ps) (pt ps (wrp ps.length k)) (pt ps k)) (pt ps (jej ps.length k))=0:=by
   have:=xaV.mp w00;exact (xah.mp this).resolve_left (by omega)
  have hr:Scn Z vs (rot (jej ps.length k) ps) s:=⟨h.hw,h.nz,h.R,h.n8,h.rr.rot _,fun p hp=>h.bp p ((RR.rot (jej ps.length k) (.refl ps)).mem.mp hp),h.fr⟩;obtain⟨kk,m,kk0,m0,e⟩:=hr.own;have e:=e (upT ps);rw[jih m2 (by omega),jih m2 (by omega),jih m2 (by omega)] at e;have i0:(jej ps.length k+0) % ps.length=jej ps.length k:=by rw[Nat.add_zero,xal m2]
  have i1:(jej ps.length k+1) % ps.length=wrp ps.length k:=by
   unfold jej wrp;rw[Nat.mod_add_mod]
   congr 1
   omega
  have i2:(jej ps.length k+2) % ps.length=k:=by
   unfold jej;rw[Nat.mod_add_mod,show k+(ps.length-2)+2=k+ps.length by omega,xbg,xal hk]
  rw[i0,i1,i2,<- (jcO _ _ _ _).2.symm] at e;have z2:hgP (rgQ (pt ps (jej ps.length k)) (pt ps (wrp ps.length k)) (pt ps k)) (upT ps)=0:=by
   have:=(jcO (upT ps) (pt ps (wrp ps.length k)) (pt ps k) (pt ps (jej ps.length k))).1;omega
  have z3:=(jcO (upT ps) (pt ps (jej ps.length k)) (pt ps (wrp ps.length k)) (pt ps k)).2;rw[<- z3,z2,xaj] at e;rcases xah.mp e.symm with c | c
  ·exact m0 c
  ·rw[c] at e1;omega
 omega
theorem eps (h:x≠0):∃ε:Int,0<ε*x:=by
 rcases xav h with c | c
 ·exact⟨-1,by omega⟩
 ·exact⟨1,by omega⟩
theorem job {fs:List Pt} (h1:Scn Z1 vs ps s) (nz:KP (fs.map (jaO Z1)) vs≠[]) (rc:RR ((KP (fs.map (jaO Z1)) vs).map (spt Z1)) cs):hov ps (jb7 cs)=0/\∀k,k<ps.length->sgn (wl ps k (pt ps (jej ps.length k)))*sgn (wl ps k (jb7 cs))=1:=by
 obtain⟨ε,e1⟩:=eps h1.up;have ww:0<Z1.w*Z1.w:=xab (by have:=h1.hw;omega) (by have:=h1.hw;omega);have ew:=xab ww e1;refine jlD h1 (jkB h1 nz rc) e1 fun e he=>?_;have rcn:∀u,hgP (scP (-ε) (rgQ (upT ps) (jay Z1 e.1) (jay Z1 e.2))) (jay Z1 u)=Z1.w*Z1.w*(ε*hgP (nP Z1) (upT ps))*dt e.1 e.2 u:=fun u=>by
  rw[jgi,jbh];grind
 have:=jlC (g:=scP (-ε) (rgQ (upT ps) (jay Z1 e.1) (jay Z1 e.2))) h1 nz rc (fun u hu _=>by
  rw[rcn];exact xaf (xan ew) (hu e he)) (by
  obtain⟨k,hk,ek⟩:=jb5 he;have n3:=h1.R.n3;obtain⟨j,hj,j1,j2⟩:=ja1 (n:=vs.length) (i:=k) (j:=(k+1) % vs.length) n3;have dj:=jbe h1.R.tp n3 hk hj (Ne.symm j2) (Ne.symm j1);refine⟨tr vs j,?_⟩;rw[rcn,ek];exact xa1 (xab ew dj))
 rw[jgi] at this;exact this
theorem jqb {X:Pt} {c:Tri} {b:Int} (h2:Scn Z2 ws qs s) (a0:0<a) (b0:0<b) (d:∀e∈prs ws,0<dt e.1 e.2 c) (m:∀g,a*hgP g X=b*hgP g (jay Z2 c)):hov qs X=0/\∀k,k<qs.length->sgn (wl qs k (pt qs (jej qs.length k)))*sgn (wl qs k X)=1:=by
 obtain⟨ε,e1⟩:=eps h2.up;have ww:0<Z2.w*Z2.w:=xab (by have:=h2.hw;omega) (by have:=h2.hw;omega);have ew:=xab ww e1;refine jlD h2 ?_ e1 fun e he=>?_
 ·have h:=m (nP Z2);rw[jeD,xaj] at h;exact (xah.mp h).resolve_left (by omega)
 ·have h:=m (rgQ (upT qs) (jay Z2 e.1) (jay Z2 e.2));rw[jbh] at h;have q:=xab b0 (xab ew (d e he));refine jcP a0 ?_;have:a*(-ε*hgP (rgQ (upT qs) (jay Z2 e.1) (jay Z2 e.2)) X)=-ε*(a*hgP (rgQ (upT qs) (jay Z2 e.1) (jay Z2 e.2)) X):=by grind
  rw[this,h];have:-ε*(b*-(Z2.w*Z2.w*hgP (nP Z2) (upT qs)*dt e.1 e.2 c))=b*(Z2.w*Z2.w*(ε*hgP (nP Z2) (upT qs))*dt e.1 e.2 c):=by grind
  rw[this];exact q
theorem jmE {F:Pt} (a0:0<α) (b0:0<β) (g0:0<γ) (e:∀g,α*hgP g N=β*hgP g s+γ*hgP g F) (ne:(ja6 N s).nz):¬(cr3 (ja6 s N) (ja6 s F)).nz/\jge (ja6 N s) (ja6 N F)<0:=by
 have ex:=e ⟨1,0,0,0⟩;have ey:=e ⟨0,1,0,0⟩;have ez:=e ⟨0,0,1,0⟩;have ew:=e ⟨0,0,0,-1⟩;unfold hgP hgt at ex ey ez ew;simp only[xbt,xaJ,Int.add_zero,xce,Int.sub_zero,Int.zero_sub,xbn,Int.neg_neg] at ex ey ez ew;constructor
 ·intro h;refine h ?_;have x1:α*(ja6 s N).x=γ*(ja6 s F).x:=by unfold ja6;simp only;grind
  have x2:α*(ja6 s N).y=γ*(ja6 s F).y:=by unfold ja6;simp only;grind
  have x3:α*(ja6 s N).z=γ*(ja6 s F).z:=by unfold ja6;simp only;grind
  generalize ja6 s N=u at *
  generalize ja6 s F=v at *
  have z:∀{x:Int},α*x=0->x=0:=fun h=>(xah.mp h).resolve_left (by omega);unfold cr3;exact⟨z (by simp only;grind),z (by simp only;grind),z (by simp only;grind)⟩
 ·have x1:γ*(ja6 N F).x=-β*(ja6 N s).x:=by unfold ja6;simp only;grind
  have x2:γ*(ja6 N F).y=-β*(ja6 N s).y:=by unfold ja6;simp only;grind
  have x3:γ*(ja6 N F).z=-β*(ja6 N s).z:=by unfold ja6;simp only;grind
  have p:=jmy ne;generalize ja6 N s=u at *
  generalize ja6 N F=v at *
  have q:γ*jge u v=-β*jge u u:=by unfold jge;grind
  have:=xab b0 (show 0<jge u u by omega);rw[xbn] at q;rcases xaE (jge u v) 0 with c | c
  ·exact c
  ·have:=xaf (xan g0) c;omega
theorem jmF (h:Scn Z vs ps s) (w1:1<=N.w) (z:hgP (nP Z) N=0):(ja6 N s).nz:=fun ⟨a,b,c⟩=>by
 refine h.fr ?_;have:N.w*hgP (nP Z) s=s.w*hgP (nP Z) N:=by
  generalize nP Z=f;unfold ja6 at a b c;simp only at a b c;unfold hgP hgt;grind
 rw[z,xaj] at this;exact (xah.mp this).resolve_left (by omega)
def wS (w:Int) (Z:Sht):Sht:=⟨Z.s,w,Z.c,Z.d⟩
def wV (w:Int) (v:Tri):Tri:=⟨v.x,v.y,w⟩
theorem jqc {w:Int} (w1:1<=w):spP w (crn Z v)=spt (wS w Z) (wV w v):=by
 have e1:rX (wS w Z) (wV w v)=w*(crn Z v).x:=by unfold rX crn wS wV;simp only;grind
 have e2:rY (wS w Z) (wV w v)=w*(crn Z v).y:=by unfold rY crn wS wV;simp only;grind
 have e3:rZ (wS w Z) (wV w v)=w*(crn Z v).z:=by unfold rZ crn wS wV;simp only;grind
 have e4:rW (wS w Z) (wV w v)=w*w:=rfl;have g:gl [w*(crn Z v).x,w*(crn Z v).y,w*(crn Z v).z,w*w]=w*gl [(crn Z v).x,(crn Z v).y,(crn Z v).z,w]:=jjO (k:=w) (by omega) [(crn Z v).x,(crn Z v).y,(crn Z v).z,w];unfold spP spt rG;rw[e1,e2,e3,e4,g]
 congr 1<;>exact (Int.mul_ediv_mul_of_pos _ _ (by omega)).symm
theorem jqd {u:Tri} {w:Int} (w1:1<=w) (w3:w<=3) (h:u.le 480000000):SpB (spP w u):=by
 obtain⟨⟨a,b⟩,⟨c,d⟩,e,f⟩:=h;have g0:0<gl [u.x,u.y,u.z,w]:=jco (n:=w) (by simp) (by omega);have e4:=xaM (jaV (ns:=[u.x,u.y,u.z,w]) (n:=w) (by simp));refine⟨Bd.div (by unfold Bd;omega),Bd.div (by unfold Bd;omega),Bd.div (by unfold Bd;omega),Bd.div (by unfold Bd;omega),?_⟩;show 1<=w / gl [u.x,u.y,u.z,w];generalize gl [u.x,u.y,u.z,w]=k at *
 have:0<w / k:=jcP g0 (by rw[xaL,e4];omega);omega
structure Sce (w:Int) (Z:Sht) (vs us:List Tri):Prop where
 w1:1<=w
 w3:w<=3
 M:ShM Z
 G:RowG vs
 rr:RR (vs.map (crn Z)) us
theorem Sce.R {w:Int} (h:Sce w Z vs us):Rng (vs.map (wV w)):=by
 refine⟨by rw[xaa];exact h.G.R.n3,fun i j k ij jk kl=>?_,fun v hv=>?_⟩
 ·rw[xaa] at kl;rw[jgc (by omega),jgc (by omega),jgc (by omega)];have p:=h.G.R.tp i j k ij jk kl;have z1:=(h.G.pl (jaJ (l:=vs) (i:=i) (by omega))).2.2;have z2:=(h.G.pl (jaJ (l:=vs) (i:=j) (by omega))).2.2;have z3:=(h.G.pl (jaJ (l:=vs) (i:=k) (by omega))).2.2;have w1:=h.w1;generalize tr vs i=a at *
  generalize tr vs j=b at *
  generalize tr vs k=c at *
  have e:dt (wV w a) (wV w b) (wV w c)=w*dt a b c:=by
   unfold dt ja3 wV;simp only;rw[z1,z2,z3];grind
  rw[e];exact xab (by omega) p
 ·obtain⟨u,_,rfl⟩:=xai.mp hv;exact h.w1
theorem Sce.bp {w:Int} (h:Sce w Z vs us):∀p∈us.map (spP w),SpB p:=fun p hp=>by
 obtain⟨u,hu,rfl⟩:=xai.mp hp;obtain⟨v,hv,rfl⟩:=xai.mp (h.rr.mem.mp hu);exact jqd h.w1 h.w3 (h.M.l.crn (h.G.pl hv).1 (h.G.pl hv).2.1)
theorem Sce.rs {w:Int} (h:Sce w Z vs us):RR ((vs.map (wV w)).map (spt (wS w Z))) (us.map (spP w)):=by
 have r:=h.rr.map (spP w);rw[xbK] at r |-
 rw[show vs.map (spt (wS w Z)∘wV w)=vs.map (spP w∘crn Z) from xb0 fun v _=>(jqc h.w1).symm];exact r
theorem Sce.len {w:Int} (h:Sce w Z vs us):3<=(us.map (spP w)).length/\(us.map (spP w)).length<=8:=by
 have:=h.rr.len;have:=h.G.R.n3;have:=h.G.n8;rw[xaa] at *
 omega
theorem Sce.scn {w:Int} (h:Sce w Z vs us) (fr:hov (us.map (spP w)) s≠0):Scn (wS w Z) (vs.map (wV w)) (us.map (spP w)) s:=by
 have R:=h.R;have rs:=h.rs;have hw:1<=(wS w Z).w:=h.w1;refine⟨hw,h.M.nz,R,by rw[xaa];exact h.G.n8,rs,h.bp,?_⟩;intro z;obtain⟨ws,h1,h2⟩:=rs.inv;have n3:=R.n3;have lw:=h1.len;have e:=jkv (wS w Z) (tr ws 0) (tr ws 1) (tr ws 2) s;rw[z,xaj] at e;have hz:∀i,i<ws.length->1<=(tr ws i).z:=fun i hi=>R.hz _ (h1.mem.mp (jaJ hi));have g:=xab (xab (jaY (Z:=wS w Z) (v:=tr ws 0) hw (hz 0 (by omega))) (jaY (Z:=wS w Z) (v:=tr ws 1) hw (hz 1 (by omega)))) (jaY (Z:=wS w Z) (v:=tr ws 2) hw (hz 2 (by omega)));have e0:=(xah.mp e).resolve_left (xa1 g);refine fr ?_;rw[jgh,h2,jbR (by omega),jbR (by omega),jbR (by omega),e0,xaj]
theorem Sce.vf {lv:Bool} {w:Int} (h:Sce w Z vs us):VF lv (vs.map (wV w)):=VF.six h.R fun v hv=>by
 obtain⟨u,hu,rfl⟩:=xai.mp hv;have:=h.G.pl hu;have:=h.w1;have:=h.w3;unfold wV Tri.bd Bd;simp only;omega
theorem jgj {u:Tri} {m:Int} (h:u.le m) (l:m.natAbs<2^n):u.bd n:=by
 obtain⟨⟨a,b⟩,⟨c,d⟩,e,f⟩:=h;unfold Tri.bd Bd;omega
theorem Bdw3 {w:Int} (w1:1<=w) (w3:w<=3):Bd 2 w:=by unfold Bd;omega
theorem Sce.sp {lv:Bool} {w:Int} (h:Sce w Z vs us):∀v:Tri,v.bd (nlV lv)->(spt (wS w Z) v).bd (nlT lv):=fun v b=>by
 have bs:=jgj (n:=29) h.M.s (by decide);have bc:=jgj (n:=25) h.M.c (by decide);have bd':=jgj (n:=25) h.M.d (by decide);have bw:=Bdw3 h.w1 h.w3;cases lv
 ·have t:∀{a c d:Int},Bd 29 a->Bd 25 c->Bd 25 d->Bd 318 (a*v.z+w*(v.x*c+v.y*d)):=fun {a c d} h1 h2 h3=>Bd.mono (n:=316+1) (Bd.add (Bd.mono (n:=29+287) (Bd.mul h1 b.2.2)) (Bd.mono (n:=2+(312+1)) (Bd.mul bw (Bd.add (Bd.mul b.1 h2) (Bd.mul b.2.1 h3)))));refine⟨Bd.div (t bs.1 bc.1 bd'.1),Bd.div (t bs.2.1 bc.2.1 bd'.2.1),Bd.div (t bs.2.2 bc.2.2 bd'.2.2),Bd.div ?_⟩;exact Bd.mono (n:=2+287) (Bd.mul bw b.2.2)
 ·have t:∀{a c d:Int},Bd 29 a->Bd 25 c->Bd 25 d->Bd 1964 (a*v.z+w*(v.x*c+v.y*d)):=fun {a c d} h1 h2 h3=>Bd.mono (n:=1962+1) (Bd.add (Bd.mono (n:=29+1933) (Bd.mul h1 b.2.2)) (Bd.mono (n:=2+(1958+1)) (Bd.mul bw (Bd.add (Bd.mul b.1 h2) (Bd.mul b.2.1 h3)))));refine⟨Bd.div (t bs.1 bc.1 bd'.1),Bd.div (t bs.2.1 bc.2.1 bd'.2.1),Bd.div (t bs.2.2 bc.2.2 bd'.2.2),Bd.div ?_⟩;exact Bd.mono (n:=2+1933) (Bd.mul bw b.2.2)
theorem Sce.ok {lv:Bool} {w:Int} (h:Sce w Z vs us):∀f,PB lv f->PlOk lv (wS w Z) f:=fun f pb=>by
 have bs:=jgj (n:=29) h.M.s (by decide);have bc:=jgj (n:=25) h.M.c (by decide);have bd':=jgj (n:=25) h.M.d (by decide);have bw:=Bdw3 h.w1 h.w3;cases lv
 ·refine⟨⟨Bd.mono pb.bd.1,Bd.mono pb.bd.2.1,Bd.mono pb.bd.2.2.1,Bd.mono pb.bd.2.2.2⟩,?_,?_,?_⟩
  ·show Bd _ (lnA (wS w Z) f.x f.y f.z);unfold lnA;exact Bd.mono (n:=2+(111+25+2)) (Bd.mul bw (jga pb.1.1 pb.1.2 pb.2.1 bc.1 bc.2.1 bc.2.2))
  ·show Bd _ (lnB (wS w Z) f.x f.y f.z);unfold lnB;exact Bd.mono (n:=2+(111+25+2)) (Bd.mul bw (jga pb.1.1 pb.1.2 pb.2.1 bd'.1 bd'.2.1 bd'.2.2))
  ·show Bd _ (lnC (wS w Z) f.x f.y f.z f.w);unfold lnC;exact Bd.mono (n:=142+1) (Bd.sub (jga pb.1.1 pb.1.2 pb.2.1 bs.1 bs.2.1 bs.2.2) (Bd.mono (n:=137+2) (Bd.mul pb.2.2 bw)))
 ·refine⟨⟨Bd.mono pb.bd.1,Bd.mono pb.bd.2.1,Bd.mono pb.bd.2.2.1,Bd.mono pb.bd.2.2.2⟩,?_,?_,?_⟩
  ·show Bd _ (lnA (wS w Z) f.x f.y f.z);unfold lnA;exact Bd.mono (n:=2+(933+25+2)) (Bd.mul bw (jga pb.1.1 pb.1.2 pb.2.1 bc.1 bc.2.1 bc.2.2))
  ·show Bd _ (lnB (wS w Z) f.x f.y f.z);unfold lnB;exact Bd.mono (n:=2+(933+25+2)) (Bd.mul bw (jga pb.1.1 pb.1.2 pb.2.1 bd'.1 bd'.2.1 bd'.2.2))
  ·show Bd _ (lnC (wS w Z) f.x f.y f.z f.w);unfold lnC;exact Bd.mono (n:=964+1) (Bd.sub (jga pb.1.1 pb.1.2 pb.2.1 bs.1 bs.2.1 bs.2.2) (Bd.mono (n:=933+2) (Bd.mul pb.2.2 bw)))
def btL (N s F:Pt):Prop:=¬(cr3 (ja6 s N) (ja6 s F)).nz/\jge (ja6 N s) (ja6 N F)<0
inductive spBwLi (vs:List V) (H:Hp) (Q:VK):Prop
 | mk (n e f:Addr) (N s F:Pt) (_:vs=[.ref n,.ref e,.ref f]) (_:Is4 H n N) (_:Is4 H e s) (_:Is4 H f F) (_:N.bd 900) (_:s.bd 870) (_:F.bd 900) (_:∀(H':Hp) (r:Bool),Same H H'->(r=true↔btL N s F)->Q (.bl r) H')
def jqe:Sp:=fun vs H Q _=>spBwLi vs H Q
theorem jqf (T:Tx K mg t1 t2) (F:At K mg "_law_between" jcj ["near","one","far"] []) (dg:jak P w K mg base CX0 2 "_law_cross" ["one","other"] [] (jhm K)) (df:jak P w K mg base CX0 2 "_law_arm" ["one","other"] [] jks) (du:jak P w K mg base CX0 2 "_law_dot" ["one","other"] [] (jko K)):jak P w K mg base CX0 3 "_law_between" ["near","one","far"] [] jqe:=by
 refine F.ok jdh (by walk_at "ar") (fun f cdv A outer s H vs Q E hr h=>?_);obtain⟨n,e,f,N,o,X,rfl,hn,he,hf,bn,bo,bf,q⟩:=h;have S:=jdh;refine⟨_,(jaf (jaM (jat (jh5 (jiO hr)) (jae dg hr.m rfl jao (jaa (jae df hr.m rfl jao (jaa (pv 1) (jaa (pv 0) jad jac) jac)) (jaa (jae df hr.m rfl jao (jaa (pv 1) (jaa (pv 2) jad jac) jac)) jad jaB) jaB)) (jaU (jaa jab (jaa jab (jaa jab jad jai) jai) jai)) (jaw _))
  (jag (jan jbz))
  jax)
  (jag (jan (jbp jdW (jae du hr.m rfl jao (jaa (jae df hr.m rfl jao (jaa (pv 0) (jaa (pv 1) jad jac) jac)) (jaa (jae df hr.m rfl jao (jaa (pv 0) (jaa (pv 2) jad jac) jac)) jad jaB) jaB)) jab (jaw _))))),?_⟩
 walk_at "rf";refine⟨e,n,o,N,rfl,he,hn,fun g1 H1 s1 n1 e1=>?_⟩;refine⟨e,f,o,X,rfl,he.keep s1,hf.keep s1,fun g2 H2 s2 n2 e2=>?_⟩;refine⟨g1,g2,_,_,rfl,A3.l3 (s2 _ _ e1),A3.l3 e2,Bd3.mono (jdn bo bn) (by decide),Bd3.mono (jdn bo bf) (by decide),fun g3 H3 n3 s3 e3=>⟨by decide,fun p hp=>?_⟩⟩;refine jbJ hp fun H4 s4 e4=>?_;have s14:=s1.trans (s2.trans (s3.trans s4));have e3':H4 g3=some (.lst ([(cr3 (ja6 o N) (ja6 o X)).x,(cr3 (ja6 o N) (ja6 o X)).y,(cr3 (ja6 o N) (ja6 o X)).z].map V.int)):=s4 _ _ e3;refine je5 (y:=[0,0,0]) (SqL.of e3') (SqL.of e4) ⟨_,rfl,?_⟩;by_cases nz:(cr3 (ja6 o N) (ja6 o X)).nz
 ·rw[nzT nz,if_pos (by decide)];exact q _ false s14 ⟨fun h=>(nomatch h),fun h=>absurd nz h.1⟩
 ·rw[nzF (xbp.mp nz),if_neg (by decide)];try walk_at "rf"
  refine⟨n,e,N,o,rfl,hn.keep s14,he.keep s14,fun g5 H5 s5 n5 e5=>?_⟩;refine⟨n,f,N,X,rfl,hn.keep (s14.trans s5),hf.keep (s14.trans s5),fun g6 H6 s6 n6 e6=>?_⟩;refine⟨g5,g6,_,_,rfl,(A3.l3 (s6 _ _ e5)).d,(A3.l3 e6).d,Bd3.mono (jdn bn bo) (by decide),Bd3.mono (jdn bn bf) (by decide),?_⟩;have:=q _ (decide (jge (ja6 N o) (ja6 N X)<0)) (s14.trans (s5.trans s6)) ⟨fun h=>⟨nz,of_decide_eq_true h⟩,fun h=>decide_eq_true h.2⟩
  first
  | exact this
  | exact⟨_,rfl,this⟩
def seL (N F:Pt) (ps qs:List Pt) (s:Pt):Prop:=(gl [N.x,N.y,N.z,N.w]=1/\gl [F.x,F.y,F.z,F.w]=1/\1<=N.w/\1<=F.w)/\whL ps N/\whL qs F/\btL N s F
inductive spSeLi (vs:List V) (H:Hp) (Q:VK):Prop
 | mk (n f a b e:Addr) (N F:Pt) (ps qs:List Pt) (s:Pt) (_:vs=[.ref n,.ref f,.ref a,.ref b,.ref e]) (_:Is4 H n N) (_:Is4 H f F) (_:BM H a ps) (_:BM H b qs) (_:Is4 H e s) (_:(3<=ps.length/\ps.length<=8)) (_:(3<=qs.length/\qs.length<=8)) (_:(∀p∈ps,p.bd 30)) (_:(∀p∈qs,p.bd 30)) (_:N.bd 900) (_:F.bd 900) (_:s.bd 870) (_:∀(H':Hp) (r:Bool),Same H H'->(r=true↔seL N F ps qs s)->Q (.bl r) H')
def joc:Sp:=fun vs H Q _=>spSeLi vs H Q
theorem jqg (T:Tx K mg t1 t2) (F:At K mg "_law_sees" jdS ["near","far","one","other","spot"] []) (dJ:jak P w K mg base CX0 3 "_law_four" ["found"] [] jkt) (Dk:jak P w K mg base CX0 5 "_law_where" ["board","spot"] [] spWh) (Dv:jak P w K mg base CX0 3 "_law_between" ["near","one","far"] [] jqe):jak P w K mg base CX0 6 "_law_sees" ["near","far","one","other","spot"] [] joc:=by
 refine F.ok jeU (by walk_at "ar") (fun f cdv A outer s H vs Q E hr h=>?_);obtain⟨n,f,a,b,e,N,X,ps,qs,o,rfl,hn,hf,ha,hb,he,⟨n3,n8⟩,⟨m3,m8⟩,bp,bq,bn,bf,bo,q⟩:=h;have S:=jeU;refine⟨_,(jaf (jaM (PW.pt (jfS (jcR (jbO (jae dJ hr.m rfl jao (jaa (pv 0) jad jac)))) (jfS (jcR (jbO (jae dJ hr.m rfl jao (jaa (pv 1) jad jac)))) (jfS (jat jdW (jal jaq (pv 0) jab) jab (jaw _)) (je8 (jat jdW (jal jaq (pv 1) jab) jab (jaw _)))))))
  (jag (jan jbz))
  jax)
  (jaf (jaM (PW.pt (jfS (jat jcT (jae Dk hr.m rfl jao (jaa (pv 2) (jaa (pv 0) jad jac) jac)) jab (jaw _)) (je8 (jat jcT (jae Dk hr.m rfl jao (jaa (pv 3) (jaa (pv 1) jad jac) jac)) jab (jaw _)))))
  (jag (jan jbz))
  jax)
  (jag (jan (jae Dv hr.m rfl jao (jaa (pv 0) (jaa (pv 4) (jaa (pv 1) jad jac) jac) jac)))))),?_⟩
 walk_at "rf";have no:∀{J:Hp},Same H J->¬seL N X ps qs o->Q (.bl false) J:=fun sJ h=>q _ false sJ ⟨fun h=>(nomatch h),fun k=>absurd k h⟩;refine⟨n,N,rfl,hn,fun H1 s1=>⟨_,rfl,?_⟩⟩;by_cases g1:gl [N.x,N.y,N.z,N.w]=1;rotate_left
 ·rw[decide_eq_false g1,if_pos rfl];exact no s1 fun h=>g1 h.1.1
 rw[decide_eq_true g1,if_neg (by decide)];refine⟨f,X,rfl,hf.keep s1,fun H2 s2=>⟨_,rfl,?_⟩⟩;have s12:=s1.trans s2;by_cases g2:gl [X.x,X.y,X.z,X.w]=1;rotate_left
 ·rw[decide_eq_false g2,if_pos rfl];exact no s12 fun h=>g2 h.1.2.1
 rw[decide_eq_true g2,if_neg (by decide)];refine ixT (hn.keep s12).sq rfl ⟨N.w,rfl,?_⟩;by_cases w1:N.w<1
 ·rw[if_pos w1];exact no s12 fun h=>absurd h.1.2.2.1 (by omega)
 rw[if_neg w1];refine ixT (hf.keep s12).sq rfl ⟨X.w,rfl,?_⟩;by_cases w2:X.w<1
 ·rw[if_pos w2];exact no s12 fun h=>absurd h.1.2.2.2 (by omega)
 rw[if_neg w2];refine⟨a,n,ps,N,rfl,ha.keep s12,hn.keep s12,n3,n8,bp,bn,fun H3 r s3 hr=>⟨rfl,?_⟩⟩;have s13:=s12.trans s3;by_cases r1:r=1;rotate_left
 ·rw[if_neg (fun h=>r1 (by injection h))];exact no s13 fun h=>r1 (hr.mpr h.2.1)
 rw[if_pos (by rw[r1])];refine⟨b,f,qs,X,rfl,hb.keep s13,hf.keep s13,m3,m8,bq,bf,fun H4 r' s4 hr'=>⟨rfl,?_⟩⟩;have s14:=s13.trans s4;by_cases r2:r'=1;rotate_left
 ·rw[if_neg (fun h=>r2 (by injection h))];exact no s14 fun h=>r2 (hr'.mpr h.2.2.1)
 rw[if_pos (by rw[r2])];exact⟨n,e,f,N,o,X,rfl,hn.keep s14,he.keep s14,hf.keep s14,bn,bo,bf,fun H5 v s5 hv=>q _ v (s14.trans s5) ⟨fun h=>⟨⟨g1,g2,by omega,by omega⟩,hr.mp r1,hr'.mp r2,hv.mp h⟩,fun h=>hv.mpr h.2.2.2⟩⟩
inductive spTldi (vs:List V) (H:Hp) (Q:VK):Prop
 | mk (t a b e:Addr) (ps qs:List Pt) (o:Pt) (_:vs=[.ref t,.ref a,.ref b,.ref e]) (_:BM H a ps) (_:BM H b qs) (_:Is4 H e o) (_:(3<=ps.length/\ps.length<=8)) (_:(3<=qs.length/\qs.length<=8)) (_:(∀p∈ps,p.bd 30)) (_:(∀p∈qs,p.bd 30)) (_:o.bd 870) (_:((∃(g:Addr) (f:Pt),H t=some (.tup [.str "parted",.ref g])/\Is4 H g f/\gl [f.x,f.y,f.z,f.w]=1/\¬(f.x=0/\f.y=0/\f.z=0)/\∀H':Hp,Same H H'->Q (.bl (ptB f ps qs o)) H')\/∃(n f:Addr) (N F:Pt),H t=some (.tup [.str "hides",.ref n,.ref f])/\Is4 H n N/\Is4 H f F/\N.bd 900/\F.bd 900/\∀(H':Hp) (r:Bool),Same H H'->(r=true↔seL N F ps qs o)->Q (.bl r) H'))
def jqh:Sp:=fun vs H Q _=>spTldi vs H Q
theorem jqi (T:Tx K mg t1 t2) (F:At K mg "_law_told" jdT ["found","one","other","spot"] []) (dY:jak P w K mg base CX0 6 "_law_sees" ["near","far","one","other","spot"] [] joc) (DE:jak P w K mg base CX0 4 "_law_parts" ["plane","one","other","spot"] [] jpO):jak P w K mg base CX0 7 "_law_told" ["found","one","other","spot"] [] jqh:=by
 refine F.ok jeV (by walk_at "ar") (fun f cdv A outer s H vs Q E hr h=>?_);obtain⟨t,a,b,e,ps,qs,o,rfl,ha,hb,he,⟨n3,n8⟩,⟨m3,m8⟩,bp,bq,bo,q⟩:=h;have S:=jeV;refine⟨_,(jaf (jaM (PW.pt (jfS (jcR (jbO (jaz jct rfl T.m_isinstance boot_isinstance (jaa (pv 0) (jaa (jgk (v:=.ty "tuple") rfl T.m_tuple boot_tuple rfl) jad jac) jac)))) (je8 (jat jdW (jaz jaQ rfl T.m_len PySem.boot_len (jaa (pv 0) jad jac)) jab (jaw _)))))
  (jag (jan jbz))
  jax)
  (jaf (jaM (jat jcm (jal jaq (pv 0) jab) jcl (jaw _))
  (jag (jan (jgP (jbp jcm (jaz jaQ rfl T.m_len PySem.boot_len (jaa (pv 0) jad jac)) jab (jaw _)) (jhZ (jae dY hr.m rfl jao (jaa (jal jaq (pv 0) jab) (jaa (jal jaq (pv 0) jab) (jaa (pv 1) (jaa (pv 2) (jaa (pv 3) jad jac) jac) jac) jav) jav))))))
  jax)
  (jag (jan (jgP (jbp jcm (jal jaq (pv 0) jab) jcl (jaw _)) (jgP (jbp jcm (jaz jaQ rfl T.m_len PySem.boot_len (jaa (pv 0) jad jac)) jab (jaw _)) (jhZ (jae DE hr.m rfl jao (jaa (jal jaq (pv 0) jab) (jaa (pv 1) (jaa (pv 2) (jaa (pv 3) jad jac) jac) jac) jav))))))))),?_⟩
 walk_at "rf";rcases q with ⟨g,f,ht,hg,g1,nz,q⟩ | ⟨n,f,N,X,ht,hn,hf,bn,bf,q⟩
 ·have kt:SqT K H t [.str "parted",.ref g]:=SqT.of ht;refine⟨_,.tup ht,_,rfl,?_⟩;rw[if_neg (by decide)];refine⟨_,.inr kt,?_⟩;rw[if_neg (show ¬((([V.str "parted",V.ref g]:List V).length:Nat):Int)<2 from by show ¬(2:Int)<2;decide)];refine ixT kt rfl ⟨rfl,?_⟩;rw[if_neg (fun h=>by injection h with h;exact absurd h (by decide))];refine ixT kt rfl ⟨rfl,?_⟩;rw[if_pos rfl];refine⟨_,.inr kt,?_⟩;rw[if_pos (show ((([V.str "parted",V.ref g]:List V).length:Nat):Int)=2 from rfl)];exact ixT kt rfl ⟨g,a,b,e,f,o,ps,qs,rfl,hg,ha,hb,he,n3,n8,m3,m8,g1,nz,q⟩
 ·have kt:SqT K H t [.str "hides",.ref n,.ref f]:=SqT.of ht;refine⟨_,.tup ht,_,rfl,?_⟩;rw[if_neg (by decide)];refine⟨_,.inr kt,?_⟩;rw[if_neg (show ¬((([V.str "hides",V.ref n,V.ref f]:List V).length:Nat):Int)<2 from by show ¬(3:Int)<2;decide)];refine ixT kt rfl ⟨rfl,?_⟩;rw[if_pos rfl];refine⟨_,.inr kt,?_⟩;rw[if_pos (show ((([V.str "hides",V.ref n,V.ref f]:List V).length:Nat):Int)=3 from rfl)];exact ixT kt rfl (ixT kt rfl ⟨n,f,a,b,e,N,X,ps,qs,o,rfl,hn,hf,ha,hb,he,⟨n3,n8⟩,⟨m3,m8⟩,bp,bq,bn,bf,bo,q⟩)
theorem jgN (h:r.w≠0):gl [(jbg r).x,(jbg r).y,(jbg r).z,(jbg r).w]=1:=by
 have pos:∀{q:Pt},1<=q.w->gl [(jbg q).x,(jbg q).y,(jbg q).z,(jbg q).w]=1:=fun {q} w1=>by
  unfold jbg;rw[if_neg (by omega)];exact jg9 (ns:=[q.x,q.y,q.z,q.w]) (by have:=jco (ns:=[q.x,q.y,q.z,q.w]) (n:=q.w) (by simp) (by omega);omega)
 rcases xav h with c | c
 ·have e:jbg r=jbg ⟨-r.x,-r.y,-r.z,-r.w⟩:=by
   unfold jbg;rw[if_pos c,if_neg (show ¬(-r.w)<0 by omega)]
  rw[e];exact pos (show 1<=-r.w by omega)
 ·exact pos (by omega)
theorem SoR.right {fs:List Pt} (h1:Scn Z1 vs ps s) (h2:Scn Z2 ws qs s) (sw:1<=s.w) (py:PyF s qs fs) (nz:KP (fs.map (jaO Z1)) vs≠[]) (rc:RR ((KP (fs.map (jaO Z1)) vs).map (spt Z1)) cs) (hf0:PlF (rgQ (pt qs 0) (pt qs 1) (pt qs 2)) f):seL (jb7 cs) (jiL f s cs) ps qs s:=by
 obtain⟨fw,c,a,b,α,β,a0,b0,al,be,d,m,e⟩:=jp9 h1 h2 sw py nz rc hf0;have nw:=jp7 h1 nz rc;exact⟨⟨jgN (by have:=(jfQ h1 nz rc).1;omega),jgN (jn7 h1 h2 sw py nz rc hf0),nw,fw⟩,job h1 nz rc,jqb h2 a0 b0 d m,jmE al be a0 e (jmF h1 nw (jkB h1 nz rc))⟩
theorem jod {m1 f1 f2 w1 w2:Int} (e1:m1*f1=m2*w1) (e2:m1*f2=m2*w2) (z1:m1≠0) (z2:m2≠0) (h:sgn w1*sgn w2=1) (n:0<=f1):0<f2:=by
 have p:0<w1*w2:=by
  rcases xa8 w1 0 with a | a | a<;>rcases xa8 w2 0 with b | b | b
  ·exact xaN a b
  ·exfalso;subst b;unfold sgn at h;simp at h
  ·exfalso;unfold sgn at h;rw[if_neg (by omega),if_pos a,if_pos b] at h;exact absurd h (by decide)
  ·exfalso;subst a;unfold sgn at h;simp at h
  ·exfalso;subst a;unfold sgn at h;simp at h
  ·exfalso;subst a;unfold sgn at h;simp at h
  ·exfalso;unfold sgn at h;rw[if_neg (by omega:¬0<w2),if_pos b,if_pos a] at h;exact absurd h (by decide)
  ·exfalso;subst b;unfold sgn at h;simp at h
  ·exact xab a b
 have e:(m1*m1)*(f1*f2)=(m2*m2)*(w1*w2):=by
  have:(m1*m1)*(f1*f2)=(m1*f1)*(m1*f2):=by grind
  rw[this,e1,e2];grind
 have sq:∀{m:Int},m≠0->0<m*m:=fun {m} h=>by
  rcases xav h with a | a
  ·exact xaN a a
  ·exact xab a a
 have q:0<f1*f2:=jcP (sq z1) (by rw[e];exact xab (sq z2) p);rcases xaE 0 f2 with c | c
 ·exact c
 ·have:=xax n c;omega
def jfR (k:Int):Pt:=if k=0 then ⟨1,0,0,0⟩ else if k=1 then ⟨0,1,0,0⟩ else ⟨0,0,1,0⟩
theorem jkC (h:k=0\/k=1\/k=2) (A B X C D Y:Pt):jaG k A B X*jaG k C D Y=hgP (rgQ (jfR k) A B) X*hgP (rgQ (jfR k) C D) Y:=by
 have e:∀A B X:Pt,hgP (rgQ (jfR k) A B) X=-hgP (rgQ A B X) (jfR k):=fun A B X=>by
  have h1:=jcO (jfR k) A B X;have h2:=(jcO (jfR k) X A B).2;rw[h1.1,h2]
 rw[e,e];rcases h with rfl | rfl | rfl
 ·have c:∀A B X:Pt,hgP (rgQ A B X) (jfR 0)=jaG 0 A B X:=fun A B X=>by
   unfold rgQ hgP hgt jfR;simp
  rw[c,c];grind
 ·have c:∀A B X:Pt,hgP (rgQ A B X) (jfR 1)=-jaG 1 A B X:=fun A B X=>by
   unfold rgQ hgP hgt jfR;simp
  rw[c,c];grind
 ·have c:∀A B X:Pt,hgP (rgQ A B X) (jfR 2)=jaG 2 A B X:=fun A B X=>by
   unfold rgQ hgP hgt jfR;simp
  rw[c,c];grind
theorem joe {X:Pt} (h:Scn Z vs ps s) (zX:hgP (nP Z) X=0):∃(c:Tri) (κ:Int),0<κ/\∀g,hgP g (jay Z c)=κ*hgP g X:=by
 obtain⟨ε,e1⟩:=eps h.up;have ww:0<Z.w*Z.w:=xab (by have:=h.hw;omega) (by have:=h.hw;omega);refine⟨yy Z (upT ps) X ε,Z.w*Z.w*(ε*hgP (nP Z) (upT ps)),xab ww e1,fun g=>?_⟩;rw[jkj,zX];grind
theorem jlE (a b:Int):0<sgn a*sgn b↔0<a*b:=by
 unfold sgn;rcases xa8 a 0 with x | x | x<;>rcases xa8 b 0 with y | y | y
 ·have:=xaN x y;rw[if_neg (by omega),if_pos x,if_neg (by omega),if_pos y];omega
 ·subst y;simp
 ·have:=xay x y;rw[if_neg (by omega),if_pos x,if_pos y];omega
 ·subst x;simp
 ·subst x;simp
 ·subst x;simp
 ·have:=xak x y;rw[if_pos x,if_neg (by omega:¬0<b),if_pos y];omega
 ·subst y;simp
 ·have:=xab x y;rw[if_pos x,if_pos y];omega
theorem jiw {X tip:Pt} {A B:Pt} {sg:Bool} {c:Tri} {κ:Int} (h:Scn Z vs ps s) (he:e∈prs vs) (o:if sg=true then A=spt Z e.1/\B=spt Z e.2 else A=spt Z e.2/\B=spt Z e.1) (k0:0<κ) (ek:∀g,hgP g (jay Z c)=κ*hgP g X):∃m1 m2:Int,0<m1/\0<m2/\m1*hgP (rgQ tip A B) X=m2*((if sg=true then -1 else 1)*hgP (nP Z) tip*dt e.1 e.2 c):=by
  obtain⟨b1,b2⟩:=jdk he;have g1:=jaY (Z:=Z) (v:=e.1) h.hw (h.R.hz _ b1);have g2:=jaY (Z:=Z) (v:=e.2) h.hw (h.R.hz _ b2);have ww:0<Z.w*Z.w:=xab (by have:=h.hw;omega) (by have:=h.hw;omega);have q:=ek (rgQ tip (jay Z e.1) (jay Z e.2));rw[jbh,<- jgf] at q;refine⟨κ*(rG Z e.1*rG Z e.2),Z.w*Z.w,xab k0 (xab g1 g2),ww,?_⟩;cases sg with
  | true =>
    rw[if_pos rfl] at o;rw[if_pos rfl,o.1,o.2];grind
  | false =>
    rw[if_neg (by decide)] at o;rw[if_neg (by decide),o.1,o.2,je0];grind
theorem jqj {m1 n1 n2 t d e:Int} (a1:0<m1) (a2:0<m2) (b1:0<n1) (b2:0<n2) (e1:m1*x=m2*(t*d)) (e2:n1*y=n2*(t*e)) (t0:t≠0) (d0:0<d):0<x*y↔0<e:=by
 have q:(m1*n1)*(x*y)=(m2*n2*(t*t)*d)*e:=by
  have:(m1*n1)*(x*y)=(m1*x)*(n1*y):=by grind
  rw[this,e1,e2];grind
 have p1:=xab a1 b1;have tt:0<t*t:=by
  rcases xav t0 with c | c
  ·exact xaN c c
  ·exact xab c c
 have p2:0<m2*n2*(t*t)*d:=xab (xab (xab a2 b2) tt) d0;constructor
 ·intro h;exact jcP p2 (by rw[<- q];exact xab p1 h)
 ·intro h;exact jcP p1 (by rw[q];exact xab p2 h)
theorem jof {X:Pt} {c:Tri} {κ:Int} (h:Scn Z vs ps s) (zX:hgP (nP Z) X=0) (k0:0<κ) (ek:∀g,hgP g (jay Z c)=κ*hgP g X):whL ps X↔∀e∈prs vs,0<dt e.1 e.2 c:=by
 obtain⟨ε,e1⟩:=eps h.up;have e0:ε≠0:=fun z=>by rw[z] at e1;omega
 have ww:0<Z.w*Z.w:=xab (by have:=h.hw;omega) (by have:=h.hw;omega);have ew:=xab ww e1;have n3:=h.fre.n3;have fd:∀e:Tri × Tri,κ*(-ε*hgP (rgQ (upT ps) (jay Z e.1) (jay Z e.2)) X)=Z.w*Z.w*(ε*hgP (nP Z) (upT ps))*dt e.1 e.2 c:=fun e=>by
  have q:=ek (rgQ (upT ps) (jay Z e.1) (jay Z e.2));rw[jbh] at q;have:κ*(-ε*hgP (rgQ (upT ps) (jay Z e.1) (jay Z e.2)) X)=-ε*(κ*hgP (rgQ (upT ps) (jay Z e.1) (jay Z e.2)) X):=by grind
  rw[this,<- q];grind
 constructor
 ·rintro⟨z,a⟩ e he;refine jcP ew ?_;rw[<- fd e];refine xab k0 ?_;obtain⟨oe,o1,o2⟩:=h.edge;obtain⟨k,hk,rfl⟩:=o2 e he;obtain⟨_,o⟩:=o1 k hk;obtain⟨⟨m1,m2,q1,q2,lin⟩,nn⟩:=jiv h e1 hk he o;exact jod (lin _) (lin X) q1 q2 (a k hk) nn
 ·intro d;exact jlD h zX e1 fun e he=>jcP k0 (by rw[fd e];exact xab ew (d e he))
theorem jkD {X:Pt} {z v:Int} (h:Scn Z vs ps s) (hp:pln (rgh (pt ps 0) (pt ps 1) (pt ps 2))=[x,y,z,v]) (hk:jpt k x y z):(hgt x y z v X=0/\∀i,i<ps.length->0<tsd k ps X i)↔whL ps X:=by
 have n3:=h.fre.n3;have n8:=h.fre.n8;have k3:k=0\/k=1\/k=2:=by unfold jpt at hk;omega
 have w0:=(h.bp _ (jaD (l:=ps) (i:=0) (by omega))).w1;obtain⟨f,hf⟩:=plf3 h.na;have ef:f=⟨x,y,z,v⟩:=Pt4 (hf.ls.symm.trans hp);obtain⟨kk,m,kk0,m0,eo⟩:=h.own;obtain⟨gg,σ,g0,s1,eg⟩:=hf.sg;have fn:∀P,kk*gg*hgP f P=σ*m*hgP (nP Z) P:=fun P=>by
  have:=eg P;have:=eo P;grind
 have sm:σ*m≠0:=xaF (by omega) m0;have kg:=xab kk0 g0;have hz0:∀P,hgP f P=0↔hgP (nP Z) P=0:=fun P=>by
  constructor
  ·intro q;have:=fn P;rw[q,xaj] at this;exact (xah.mp this.symm).resolve_left sm
  ·intro q;have:=fn P;rw[q,xaj] at this;exact (xah.mp this).resolve_left (xa1 kg)
 have hX:hgt x y z v X=hgP f X:=by rw[ef];rfl
 have tip0:hgP (nP Z) (jfR k)≠0:=fun q=>by
  have:=(hz0 (jfR k)).mpr q;rw[ef] at this;unfold jpt at hk;rcases hk with ⟨rfl,a⟩ | ⟨rfl,_,a⟩ | ⟨rfl,_,_,a⟩<;>refine a ?_<;>unfold jfR hgP hgt at this<;>simp at this<;>exact this
 rw[hX];by_cases zX:hgP (nP Z) X=0
 ·obtain⟨c,κ,k0,ek⟩:=joe h zX;rw[jof h zX k0 ek,and_iff_right ((hz0 X).mpr zX)];obtain⟨oe,sg,o1,o2⟩:=h.edgeS;obtain⟨v2,hv2,ev2⟩:=h.mem.mp (jaD (l:=ps) (i:=2) (by omega));have g3:=jaY (Z:=Z) (v:=v2) h.hw (h.R.hz v2 hv2);have ek2:∀g,hgP g (jay Z v2)=rG Z v2*hgP g (pt ps 2):=fun g=>by rw[ev2,jfP]
  obtain⟨he1,oo1⟩:=o1 1 (by omega);have w1:wrp ps.length 1=0:=by
   unfold wrp;rw[show 1+(ps.length-1)=ps.length by omega,xbc]
  rw[w1] at oo1;obtain⟨a1,a2,a1p,a2p,ae⟩:=jiw (tip:=jfR k) h he1 oo1 g3 ek2;have d0:0<dt (oe 1).1 (oe 1).2 v2:=by
   have nn:=h.R.own hv2 _ he1;have ne:dt (oe 1).1 (oe 1).2 v2≠0:=fun q=>by
    rw[q,xaj,xaj] at ae;have l0:=(xah.mp ae).resolve_left (by omega);have c1:=(jcO (jfR k) (pt ps 0) (pt ps 1) (pt ps 2)).1;have c2:=(jcO (jfR k) (pt ps 2) (pt ps 0) (pt ps 1)).2;have q2:=eo (jfR k);rw[show hgP (rgQ (pt ps 0) (pt ps 1) (pt ps 2)) (jfR k)=0 by omega,xaj] at q2;rcases xah.mp q2.symm with c | c
    ·exact m0 c
    ·exact tip0 c
   omega
  have st:(if sg=true then (-1:Int) else 1)*hgP (nP Z) (jfR k)≠0:=xaF (by split<;>decide) tip0;have one:∀i,i<ps.length->(0<tsd k ps X i↔0<dt (oe i).1 (oe i).2 c):=fun i hi=>by
   obtain⟨he,o⟩:=o1 i hi;obtain⟨b1,b2,b1p,b2p,be⟩:=jiw (tip:=jfR k) h he o k0 ek;unfold tsd;rw[jlE,jkC k3];exact jqj a1p a2p b1p b2p ae be st d0
  constructor
  ·intro t e he;obtain⟨i,hi,rfl⟩:=o2 e he;exact (one i hi).mp (t i hi)
  ·intro t i hi;exact (one i hi).mpr (t _ (o1 i hi).1)
 ·constructor
  ·intro q;exact absurd ((hz0 X).mp q.1) zX
  ·intro q;exfalso;refine zX ?_;have h1:=jgh ps X;rw[q.1] at h1;have h2:=(xah.mp h1.symm).resolve_left (xa1 (xab (by omega) (by omega)));have h3:=eo X;rw[h2,xaj] at h3;exact (xah.mp h3.symm).resolve_left m0
theorem jqk {F:Pt} (sw:1<=s.w):(inl N s F=true/\jge (ja6 N s) (ja6 N F)<0)↔btL N s F:=by
 unfold btL inl;rw[decide_eq_true_iff];refine and_congr_left fun _=>?_;have e0:(cr3 (ja6 s N) (ja6 s F)).x=-(s.w*jaG 0 N s F):=by
  show _=-(s.w*ja3 N.y N.z N.w s.y s.z s.w F.y F.z F.w);unfold cr3 ja6 ja3;simp only;grind
 have e1:(cr3 (ja6 s N) (ja6 s F)).y=s.w*jaG 1 N s F:=by
  show _=s.w*ja3 N.x N.z N.w s.x s.z s.w F.x F.z F.w;unfold cr3 ja6 ja3;simp only;grind
 have e2:(cr3 (ja6 s N) (ja6 s F)).z=-(s.w*jaG 2 N s F):=by
  show _=-(s.w*ja3 N.x N.y N.w s.x s.y s.w F.x F.y F.w);unfold cr3 ja6 ja3;simp only;grind
 unfold Tri.nz;rw[xbp,e0,e1,e2];have z:∀x:Int,s.w*x=0↔x=0:=fun x=>⟨fun h=>(xah.mp h).resolve_left (by omega),fun h=>by rw[h,xaj]⟩;rw[xaV,xaV,z,z,z]
inductive spBtPi (vs:List V) (H:Hp) (Q:VK):Prop
 | mk (n e f:Addr) (N s F:Pt) (_:vs=[.ref n,.ref e,.ref f]) (_:Is4 H n N) (_:Is4 H e s) (_:Is4 H f F) (_:N.bd 900) (_:s.bd 870) (_:F.bd 900) (_:1<=s.w) (_:∀(H':Hp) (r:Bool),Same H H'->(r=true↔btL N s F)->Q (.bl r) H')
def jql:Sp:=fun vs H Q _=>spBtPi vs H Q
theorem jqm (T:Tx K mg t1 t2) (F:At K mg "strictly_between" jbs ["near","one","far"] []) (DR:jak P w K mg base CX0 5 "in_line" ["one","other","third"] [] jlZ) (dH:jak P w K mg base CX0 2 "arrow_between" ["one","other"] [] jn4):jak P w K mg base CX0 6 "strictly_between" ["near","one","far"] [] jql:=by
  refine F.ok jb3 (by walk_at "ar") (fun f cdv A outer s H vs Q E hr h=>?_);obtain⟨n,e,f,N,o,X,rfl,hn,he,hf,bn,bo,bf,ow,q⟩:=h;have S:=jb3;refine⟨_,(jaf (jaM (jcR (jbO (jae DR hr.m rfl jao (jaa (pv 0) (jaa (pv 1) (jaa (pv 2) jad jac) jac) jac))))
    (jag (jan jbz))
    jax)
    (jaf (jar (i:=3) S.nd rfl (Or.inl rfl) (jae dH hr.m rfl jao (jaa (pv 0) (jaa (pv 1) jad jac) jac)))
    (jaf (jar (i:=4) S.nd rfl (Or.inl rfl) (jae dH hr.m rfl jao (jaa (pv 0) (jaa (pv 2) jad jac) jac)))
    (jag (jan (jbp jdW (jap jaP (jap jaP (jap jas (jal jaq (pv 3) jab) (jal jaq (pv 4) jab)) (jap jas (jal jaq (pv 3) jab) (jal jaq (pv 4) jab))) (jap jas (jal jaq (pv 3) jab) (jal jaq (pv 4) jab))) jab (jaw _))))))),?_⟩
  walk_at "rf";refine⟨n,e,f,N,o,X,rfl,hn,he,hf,fun H1 s1=>?_⟩;have bi:=jqk (N:=N) (F:=X) ow;generalize inl N o X=b at bi |-
  cases b with
  | false =>
    walk_at "rf";exact q _ false s1 ⟨fun h=>(nomatch h),fun h=>nomatch (bi.mpr h).1⟩
  | true =>
    walk_at "rf";refine⟨n,e,N,o,rfl,hn.keep s1,he.keep s1,fun t1 H2 s2 e2=>?_⟩;refine⟨n,f,N,X,rfl,hn.keep (s1.trans s2),hf.keep (s1.trans s2),fun t2 H3 s3 e3=>?_⟩;have k1:SqT K H3 t1 _:=SqT.of (s3 _ _ e2);have k2:SqT K H3 t2 _:=SqT.of e3;obtain⟨c1,c2,c3⟩:=jdn bn bo;obtain⟨d1,d2,d3⟩:=jdn bn bf;have f1:=c1.fit;have f2:=c2.fit;have f3:=c3.fit;have g1:=d1.fit;have g2:=d2.fit;have g3:=d3.fit;walk_at "gf";exact q _ (decide (jge (ja6 N o) (ja6 N X)<0)) (s1.trans (s2.trans s3)) ⟨fun h=>bi.mp ⟨rfl,of_decide_eq_true h⟩,fun h=>decide_eq_true (bi.mpr h).2⟩
theorem jho {b e:Addr} {X:Pt} (hb:BM H b ps) (S:Scn Z vs ps s) (hX:Is4 H e X) (q1:whL ps X->∀H',Same H H'->Q (.str "within") H') (q2:¬whL ps X->∀(H':Hp) (x:Str),x≠("within":Str)->Same H H'->Q (.str x) H'):jhR [.ref b,.ref e] H Q E:=by
 obtain⟨rs,h1,h2⟩:=hb;refine⟨b,e,rs,ps,X,rfl,h1,h2,S.fre.n3,S.fre.n8,S.na,hX,fun k x y z v hp hk=>?_⟩;have wi:=jkD (X:=X) S hp hk;by_cases h0:hgt x y z v X=0
 ·by_cases al:∀i,i<ps.length->0<tsd k ps X i
  ·exact .inr (.inl ⟨h0,al,q1 (wi.mp ⟨h0,al⟩)⟩)
  ·have no:¬whL ps X:=fun h=>al (wi.mpr h).2;by_cases an:∀i,i<ps.length->0<=tsd k ps X i
   ·refine .inr (.inr (.inl ⟨h0,an,xar fun ne=>al fun i hi=>?_,fun H' s'=>q2 no H' _ (by decide) s'⟩));have a1:=an i hi;have a2:tsd k ps X i≠0:=fun z=>ne ⟨i,hi,z⟩;omega
   ·refine .inr (.inr (.inr ⟨h0,xar fun ne=>an fun i hi=>?_,fun H' s'=>q2 no H' _ (by decide) s'⟩));have a2:¬tsd k ps X i<0:=fun z=>ne ⟨i,hi,z⟩;omega
 ·exact .inl ⟨h0,fun H' s'=>q2 (fun h=>h0 (wi.mpr h).1) H' _ (by decide) s'⟩
inductive spIsgi (us:List V) (H:Hp) (Q:VK):Prop
 | mk (a b e n f:Addr) (N F:Pt) (ps qs:List Pt) (s:Pt) (Z1 Z2:Sht) (vs ws:List Tri) (_:us=[.ref a,.ref b,.ref e,.ref n,.ref f]) (_:BM H a ps) (_:BM H b qs) (_:Is4 H e s) (_:Is4 H n N) (_:Is4 H f F) (_:Scn Z1 vs ps s) (_:Scn Z2 ws qs s) (_:(s.bd 870/\1<=s.w)) (_:N.bd 900) (_:F.bd 900) (_:∀(H':Hp) (r:Bool),Same H H'->(r=true↔whL ps N/\whL qs F/\btL N s F)->Q (.bl r) H')
def jqn:Sp:=fun us H Q _=>spIsgi us H Q
theorem jqo (T:Tx K mg t1 t2) (F:At K mg "is_sight" jeu ["one","other","spot","near","far"] []) (Dm:jak P w K mg base CX0 8 "where_in" ["board","spot"] [] jhR) (Dq:jak P w K mg base CX0 6 "strictly_between" ["near","one","far"] [] jql):jak P w K mg base CX0 9 "is_sight" ["one","other","spot","near","far"] [] jqn:=by
 refine F.ok jfA (by walk_at "ar") (fun f cdv A outer s H vs Q E hr h=>?_);obtain⟨a,b,e,n,f,N,X,ps,qs,o,Z1,Z2,vs,ws,rfl,ha,hb,he,hn,hf,S1,S2,bo,bn,bf,q⟩:=h;have S:=jfA;refine⟨_,(jaf (jaM (PW.pt (jfS (jat jcT (jae Dm hr.m rfl jao (jaa (pv 0) (jaa (pv 3) jad jac) jac)) jcl (jaw _)) (je8 (jat jcT (jae Dm hr.m rfl jao (jaa (pv 1) (jaa (pv 4) jad jac) jac)) jcl (jaw _)))))
  (jag (jan jbz))
  jax)
  (jag (jan (jae Dq hr.m rfl jao (jaa (pv 3) (jaa (pv 2) (jaa (pv 4) jad jac) jac) jac))))),?_⟩
 walk_at "rf";have no:∀{J:Hp},Same H J->¬(whL ps N/\whL qs X/\btL N o X)->Q (.bl false) J:=fun sJ h=>q _ false sJ ⟨fun h=>(nomatch h),fun k=>absurd k h⟩;refine jho ha S1 hn (fun w1 H1 s1=>⟨rfl,?_⟩) (fun w1 H1 x hx s1=>⟨rfl,?_⟩);rotate_left
 ·try rw[if_neg (fun h=>hx (by injection h))]
  exact no s1 fun h=>w1 h.1
 try rw[if_pos rfl]
 refine jho (hb.keep s1) S2 (hf.keep s1) (fun w2 H2 s2=>⟨rfl,?_⟩) (fun w2 H2 x hx s2=>⟨rfl,?_⟩);rotate_left
 ·try rw[if_neg (fun h=>hx (by injection h))]
  exact no (s1.trans s2) fun h=>w2 h.2.1
 try rw[if_pos rfl]
 have s12:=s1.trans s2;exact⟨n,e,f,N,o,X,rfl,hn.keep s12,he.keep s12,hf.keep s12,bn,bo.1,bf,bo.2,fun H3 r s3 hr=>q _ r (s12.trans s3) ⟨fun h=>⟨w1,w2,hr.mp h⟩,fun h=>hr.mpr h.2.2⟩⟩
inductive spJui (us:List V) (H:Hp) (Q:VK):Prop
 | mk (a b e t:Addr) (ps qs:List Pt) (s:Pt) (Z1 Z2:Sht) (vs ws:List Tri) (_:us=[.ref a,.ref b,.ref e,.ref t]) (_:BM H a ps) (_:BM H b qs) (_:Is4 H e s) (_:Scn Z1 vs ps s) (_:Scn Z2 ws qs s) (_:(s.bd 870/\1<=s.w)) (_:((∃(g:Addr) (f:Pt),H t=some (.tup [.str "parted",.ref g])/\Is4 H g f/\∀H':Hp,Same H H'->Q (.bl (ptB f ps qs s)) H')\/∃(n f:Addr) (N F:Pt),H t=some (.tup [.str "hides",.ref n,.ref f])/\Is4 H n N/\Is4 H f F/\N.bd 900/\F.bd 900/\∀(H':Hp) (r:Bool),Same H H'->(r=true↔whL ps N/\whL qs F/\btL N s F)->Q (.bl r) H'))
def spJu:Sp:=fun us H Q _=>spJui us H Q
theorem ok_ju (T:Tx K mg t1 t2) (F:At K mg "sight_judged" jcf ["one","other","spot","told"] []) (dC:jak P w K mg base CX0 9 "refuse_unless_free" ["boards","spot"] [] jlA) (DN:jak P w K mg base CX0 9 "is_sight" ["one","other","spot","near","far"] [] jqn) (dF:jak P w K mg base CX0 5 "is_parting" ["plane","one","other","spot"] [] spIp):jak P w K mg base CX0 10 "sight_judged" ["one","other","spot","told"] [] spJu:=by
 refine F.ok jdd (by walk_at "ar") (fun f cdv A outer s H vs Q E hr h=>?_);obtain⟨a,b,e,t,ps,qs,o,Z1,Z2,vs,ws,rfl,ha,hb,he,S1,S2,bo,q⟩:=h;have S:=jdd;refine⟨_,(jaf (je9 (jae dC hr.m rfl jao (jaa (jaU (jaa (pv 0) (jaa (pv 1) jad jac) jac)) (jaa (pv 2) jad jac) jbu)))
  (jaf (jaM (jat jcm (jal jaq (pv 3) jab) jcl (jaw _))
  (jag (jan (jae DN hr.m rfl jao (jaa (pv 0) (jaa (pv 1) (jaa (pv 2) (jaa (jal jaq (pv 3) jab) (jaa (jal jaq (pv 3) jab) jad jav) jav) jac) jac) jac))))
  jax)
  (jag (jan (jae dF hr.m rfl jao (jaa (jal jaq (pv 3) jab) (jaa (pv 0) (jaa (pv 1) (jaa (pv 2) jad jac) jac) jac) jav)))))),?_⟩
 walk_at "rf";refine⟨by decide,fun p hp=>?_⟩;refine jbJ hp fun H1 s1 e1=>⟨p,e,a,b,ps,qs,o,rfl,e1,ha.keep s1,hb.keep s1,he.keep s1,S1.fre,S2.fre,fun H2 s2=>?_⟩;have s12:=s1.trans s2;have n8:=S1.fre.n8;have m8:=S2.fre.n8;rcases q with ⟨g,f,ht,hg,q⟩ | ⟨n,f,N,X,ht,hn,hf,bn,bf,q⟩
 ·have kt:SqT K H2 t [.str "parted",.ref g]:=SqT.of (s12 _ _ ht);refine ixT kt rfl ⟨rfl,?_⟩;rw[if_neg (fun h=>by injection h with h;exact absurd h (by decide))];exact ixT kt rfl ⟨g,a,b,e,f,o,ps,qs,rfl,hg.keep s12,ha.keep s12,hb.keep s12,he.keep s12,by omega,by omega,q _ s12⟩
 ·have kt:SqT K H2 t [.str "hides",.ref n,.ref f]:=SqT.of (s12 _ _ ht);refine ixT kt rfl ⟨rfl,?_⟩;rw[if_pos rfl];exact ixT kt rfl (ixT kt rfl ⟨a,b,e,n,f,N,X,ps,qs,o,Z1,Z2,vs,ws,rfl,ha.keep s12,hb.keep s12,he.keep s12,hn.keep s12,hf.keep s12,S1,S2,bo,bn,bf,fun H3 r s3 hr=>q _ r (s12.trans s3) hr⟩)
structure Inn (ps:List Pt) (N:Pt):Prop where
 w1:1<=N.w
 g:gl [N.x,N.y,N.z,N.w]=1
 nn:∀f,(∀p∈ps,0<=hgP f p)->0<=hgP f N
 ps:∀f,(∀p∈ps,0<=hgP f p)->(∃p∈ps,0<hgP f p)->0<hgP f N
theorem Inn.on (h:Scn Z vs ps s) (n:Inn ps N):hgP (nP Z) N=0:=by
 have z:∀p∈ps,hgP (nP Z) p=0:=fun p hp=>by
  obtain⟨v,hv,rfl⟩:=h.mem.mp hp;have e:=jfP Z v (nP Z);rw[jeD] at e;exact (xah.mp e).resolve_left (xa1 (jaY h.hw (h.R.hz v hv)))
 have a:=n.nn (nP Z) fun p hp=>by rw[z p hp];exact xaI 0
 have b:=n.nn (scP (-1) (nP Z)) fun p hp=>by rw[jgi,z p hp];exact xaI 0
 rw[jgi] at b;omega
theorem Inn.wh (h:Scn Z vs ps s) (n:Inn ps N):whL ps N:=by
 obtain⟨ε,e1⟩:=eps h.up;have ww:0<Z.w*Z.w:=xab (by have:=h.hw;omega) (by have:=h.hw;omega);have ew:=xab ww e1;refine jlD h (n.on h) e1 fun e he=>?_;have rcn:∀u,hgP (scP (-ε) (rgQ (upT ps) (jay Z e.1) (jay Z e.2))) (jay Z u)=Z.w*Z.w*(ε*hgP (nP Z) (upT ps))*dt e.1 e.2 u:=fun u=>by
  rw[jgi,jbh];grind
 have:=n.ps (scP (-ε) (rgQ (upT ps) (jay Z e.1) (jay Z e.2))) (fun p hp=>by
  obtain⟨v,hv,rfl⟩:=h.mem.mp hp;refine (jdp h.hw (h.R.hz v hv) _).2.1.mpr ?_;rw[rcn];exact xaf (xan ew) (h.R.own hv _ he)) (by
  obtain⟨k,hk,ek⟩:=jb5 he;have n3:=h.R.n3;obtain⟨j,hj,j1,j2⟩:=ja1 (n:=vs.length) (i:=k) (j:=(k+1) % vs.length) n3;have dj:=jbe h.R.tp n3 hk hj (Ne.symm j2) (Ne.symm j1);have hv:=jaJ hj;refine⟨_,h.mem.mpr ⟨_,hv,rfl⟩,(jdp h.hw (h.R.hz _ hv) _).1.mpr ?_⟩;rw[rcn,ek];exact xab ew dj)
 rw[jgi] at this;exact this
theorem jqp {fs:List Pt} {F:Pt} (h1:Scn Z1 vs ps s) (h2:Scn Z2 ws qs s) (sw:1<=s.w) (py:PyF s qs fs) (n:Inn ps N) (m:Inn qs F) (a0:0<α) (b0:0<β) (g0:0<γ) (e:∀g,α*hgP g N=β*hgP g s+γ*hgP g F):KP (fs.map (jaO Z1)) vs≠[]:=by
 have zN:=n.on h1;obtain⟨c,κ,k0,ek⟩:=joe h1 zN;have d:=(jof h1 zN k0 ek).mp (n.wh h1);have cz:1<=c.z:=by
  have q:=ek ⟨0,0,0,-1⟩;have gw:∀X:Pt,hgP ⟨0,0,0,-1⟩ X=X.w:=fun X=>by
   unfold hgP hgt;simp only;omega
  rw[gw,gw] at q;have p:0<Z1.w*c.z:=by
   show 0<(jay Z1 c).w;rw[q];exact xab k0 (by have:=n.w1;omega)
  have:=jcP (show 0<Z1.w by have:=h1.hw;omega) p;omega
 refine jlB (α:=α) (β:=κ*β) (γ:=κ*γ) (far:=F) (c:=c) h1 h2 sw py (fun e he=>xan (d e he)) cz a0 (xab k0 b0) (xab k0 g0) (fun g=>?_) m.nn m.ps;rw[ek g];have:=e g;have x:α*(κ*hgP g N)=κ*(α*hgP g N):=by grind
 rw[x,this];grind
theorem jkE {α:Type} (f:α->Int):∀l:List α,∃M:Int,0<=M/\∀x∈l,f x<=M
  | []=>⟨0,xaI _,fun x h=>nomatch h⟩
  | a :: l => by
    obtain⟨M,m0,h⟩:=jkE f l;by_cases c:f a<=M
    . refine⟨M,m0,fun x hx=>?_⟩
      rcases xap.mp hx with rfl | hx
      . exact c
      . exact h x hx
    . refine⟨f a,by omega,fun x hx=>?_⟩
      rcases xap.mp hx with rfl | hx
      . exact xaI _
      . have:=h x hx
        omega
theorem jqq (R:Rng vs) {c:Tri} {C:Int} (hv:v∈vs) (d:∀e∈prs vs,0<dt e.1 e.2 c) (cz:1<=c.z) (nn:∀u∈vs,0<=jaA A B C u) (p:0<jaA A B C v):0<jaA A B C c:=by
 have n0:=jeC R (fun e he=>xan (d e he)) cz nn;rcases xaE 0 (jaA A B C c) with q | q
 ·exact q
 exfalso;obtain⟨M,m0,hM⟩:=jkE (fun e:Tri × Tri=>dt e.1 e.2 v) (prs vs);have K1:∀x:Int,1<=x->M+v.z+1<=(M+v.z+1)*x:=fun x hx=>by
  have:=R.hz v hv;have:=Int.mul_le_mul_of_nonneg_left hx (show 0<=M+v.z+1 by omega);omega
 have e1:∀a b:Tri,dt a b ⟨(M+v.z+1)*c.x-v.x,(M+v.z+1)*c.y-v.y,(M+v.z+1)*c.z-v.z⟩=(M+v.z+1)*dt a b c-dt a b v:=fun a b=>by
  unfold dt ja3;simp only;grind
 have e2:jaA A B C ⟨(M+v.z+1)*c.x-v.x,(M+v.z+1)*c.y-v.y,(M+v.z+1)*c.z-v.z⟩=(M+v.z+1)*jaA A B C c-jaA A B C v:=by
  unfold jaA;simp only;grind
 have vz:=R.hz v hv;have q1:InR vs ⟨(M+v.z+1)*c.x-v.x,(M+v.z+1)*c.y-v.y,(M+v.z+1)*c.z-v.z⟩:=fun e he=>by
  rw[e1];have h1:=hM e he;have h2:=d e he;have h3:=K1 (dt e.1 e.2 c) h2;omega
 have h4:=K1 c.z cz;have q2:1<=(M+v.z+1)*c.z-v.z:=by omega
 have h:=jeC R q1 q2 nn;rw[e2,show jaA A B C c=0 by omega,xaj] at h;omega
theorem jmG (h:Scn Z vs ps s) (w:whL ps N) (nw:1<=N.w) (g:gl [N.x,N.y,N.z,N.w]=1):Inn ps N:=by
 have n3:=h.fre.n3;have w0:=(h.bp _ (jaD (l:=ps) (i:=0) (by omega))).w1;have zN:hgP (nP Z) N=0:=by
  obtain⟨k,m,k0,m0,e⟩:=h.own;have h1:=jgh ps N;rw[w.1] at h1;have h2:=(xah.mp h1.symm).resolve_left (xa1 (xab (by omega) (by omega)));have h3:=e N;rw[h2,xaj] at h3;exact (xah.mp h3.symm).resolve_left m0
 obtain⟨c,κ,k0,ek⟩:=joe h zN;have d:=(jof h zN k0 ek).mp w;have cz:1<=c.z:=by
  have q:=ek ⟨0,0,0,-1⟩;have gw:∀X:Pt,hgP ⟨0,0,0,-1⟩ X=X.w:=fun X=>by
   unfold hgP hgt;simp only;omega
  rw[gw,gw] at q;have p:0<Z.w*c.z:=by
   show 0<(jay Z c).w;rw[q];exact xab k0 (by omega)
  have:=jcP (show 0<Z.w by have:=h.hw;omega) p;omega
 have up:∀{f:Pt},(∀p∈ps,0<=hgP f p)->∀u∈vs,0<=jaA (jaO Z f).A (jaO Z f).B (jaO Z f).C u:=fun {f} nn u hu=>by
  show 0<=hf (jaO Z f) u;rw[jbE];exact (jdp h.hw (h.R.hz u hu) f).2.1.mp (nn _ (h.mem.mpr ⟨u,hu,rfl⟩))
 refine⟨nw,g,fun f nn=>?_,fun f nn ⟨p,hp,pp⟩=>?_⟩
 ·have q:0<=hf (jaO Z f) c:=jeC h.R (fun e he=>xan (d e he)) cz (up nn);rw[jbE,ek f] at q;rcases xaE (hgP f N) 0 with x | x
  ·have:=xak k0 x;omega
  ·exact x
 ·obtain⟨v,hv,rfl⟩:=h.mem.mp hp;have p2:0<hf (jaO Z f) v:=by
   rw[jbE];exact (jdp h.hw (h.R.hz v hv) f).1.mp pp
  have q:0<hf (jaO Z f) c:=jqq h.R hv d cz (up nn) p2;rw[jbE,ek f] at q;exact jcP k0 q
def wpr (ps:List Pt):Nat->Int
 | 0=>1
 | i+1=>wpr ps i*(pt ps i).w
theorem jkF {ps:List Pt} {j:Nat}:∀{i:Nat},j<i->(pt ps j).w ∣ wpr ps i
  | 0,h=>absurd h (xa9 _)
  | i + 1, h => by
    show _ ∣ wpr ps i*(pt ps i).w;by_cases c:j<i
    . exact xbx (jkF c) (xcr _ _)
    . obtain rfl:j=i:=by omega
      exact Int.dvd_mul_left _ _
theorem jmH {ps:List Pt} (h:∀p∈ps,1<=p.w/\p.w<=3):∀{i:Nat},i<=ps.length->1<=wpr ps i/\wpr ps i<=3^i
  | 0,_=>⟨by show (1:Int)<=1;decide,by show (1:Int)<=1;decide⟩
  | i + 1, hi => by
    obtain⟨a,b⟩:=jmH h (i:=i) (by omega);obtain⟨c,d⟩:=h _ (jaD (l:=ps) (i:=i) (by omega));show 1<=wpr ps i*(pt ps i).w/\wpr ps i*(pt ps i).w<=3^(i+1);rw[Int.pow_succ];refine⟨?_,xcp b d (by omega) (by omega)⟩;have:=xab (show 0<wpr ps i by omega) (show 0<(pt ps i).w by omega);omega
def InW (ps:List Pt) (i:Nat) (X:Pt):Prop:=(X.x.natAbs<=i*(59049*2^30)/\X.y.natAbs<=i*(59049*2^30)/\X.z.natAbs<=i*(59049*2^30)/\X.w.natAbs<=i*59049)/\(i:Int)<=X.w/\(∀f,(∀p∈ps,0<=hgP f p)->0<=hgP f X)/\∀f,(∀p∈ps,0<=hgP f p)->(∃j,j<i/\0<hgP f (pt ps j))->0<hgP f X
def jol (X p:Pt) (t:Int):Pt:=⟨X.x+t*p.x,X.y+t*p.y,X.z+t*p.z,X.w+t*p.w⟩
theorem jog {b:Nat} (h:x.natAbs<=i*b) (k:y.natAbs<=b):(x+y).natAbs<=(i+1)*b:=by
 rw[Nat.add_mul,Nat.one_mul];exact xa4 (Int.natAbs_add_le x y) (Nat.add_le_add h k)
theorem InW.add {X:Pt} {t:Int} (h:InW ps i X) (hi:i<ps.length) (b:SpB (pt ps i)) (t1:1<=t) (t9:t<=59049) (tw:t*(pt ps i).w<=59049):InW ps (i+1) (jol X (pt ps i) t):=by
 obtain⟨⟨a1,a2,a3,a4⟩,a5,a6,a7⟩:=h;have e:∀f,hgP f (jol X (pt ps i) t)=hgP f X+t*hgP f (pt ps i):=fun f=>by
  unfold jol hgP hgt;simp only;grind
 have m:∀{x:Int},Bd 30 x->(t*x).natAbs<=59049*2^30:=fun {x} h=>by
  unfold Bd at h;rw[xco];exact Nat.mul_le_mul (by omega) (by omega)
 have m1:=m b.x;have m2:=m b.y;have m3:=m b.z;have w1:=b.w1;have tp:=xab (show 0<t by omega) (show 0<(pt ps i).w by omega);refine⟨⟨?_,?_,?_,?_⟩,?_,fun f nn=>?_,fun f nn ⟨j,hj,pj⟩=>?_⟩
 ·exact jog a1 m1
 ·exact jog a2 m2
 ·exact jog a3 m3
 ·show (X.w+t*(pt ps i).w).natAbs<=_;generalize t*(pt ps i).w=t at *
  omega
 ·show ((i+1:Nat):Int)<=X.w+t*(pt ps i).w;generalize t*(pt ps i).w=t at *
  omega
 ·rw[e];have:=a6 f nn;have:=xaf (show 0<=t by omega) (nn _ (jaD hi));omega
 ·rw[e];have p0:=nn _ (jaD hi);by_cases ji:j<i
  ·have:=a7 f nn ⟨j,ji,pj⟩;have:=xaf (show 0<=t by omega) p0;omega
  ·obtain rfl:j=i:=by omega
   have:=a6 f nn;have:=xab (show 0<t by omega) pj;omega
structure NB (N:Pt):Prop where
 x:Bd 49 N.x
 y:Bd 49 N.y
 z:Bd 49 N.z
 w:Bd 19 N.w
theorem NB.bd (h:NB N):N.bd 49:=⟨h.x,h.y,h.z,Bd.mono h.w⟩
inductive spIni (vs:List V) (H:Hp) (Q:VK):Prop
 | mk (b L:Addr) (ps:List Pt) (_:vs=[.ref b,.ref L]) (_:BM H b ps) (_:Purs H L) (_:3<=ps.length) (_:ps.length<=8) (_:(∀p∈ps,SpB p/\p.w<=3)) (_:∀(g:Addr) (H':Hp) (N:Pt),SameB L H H'->Purs H' L->Is4 H' g N->NB N->Inn ps N->Q (.ref g) H')
def spIn:Sp:=fun vs H Q _=>spIni vs H Q
theorem ok_in (T:Tx K mg t1 t2) (F:At K mg "_law_inner" jc5 ["board","purse"] []) (db:jak P w K mg base CX0 2 "_law_take" ["purse","many"] [] jdm) (dA:jak P w K mg base CX0 3 "_law_spot" ["numbers","w"] [] (jgK K)):jak P w K mg base CX0 4 "_law_inner" ["board","purse"] [] spIn:=by
 refine F.ok jeb (by walk_at "ar") (fun f cdv A outer s H vs Q E hr h=>?_);obtain⟨b,L,ps,rfl,hb,pu,n3,n8,bp,q⟩:=h;have S:=jeb;refine⟨_,(jaf (jar (i:=2) S.nd rfl (Or.inr rfl) (jaU (jaa jab (jaa jab (jaa jab jad jai) jai) jai)))
  (jaf (jar (i:=3) S.nd rfl (Or.inl rfl) jab)
  (jaf (jar (i:=4) S.nd rfl (Or.inr rfl) jab)
  (jaf (jbb PassesOwn.never rfl (jbT (pv 0)) (jau (i:=5) S.nd rfl (Or.inr rfl))
  (jag (jar (i:=4) S.nd rfl (Or.inr rfl) (jap jas (pv 4) (jal jaq (pv 5) jab)))))
  (jaf (jbb PassesOwn.never rfl (jbT (pv 0)) (jau (i:=5) S.nd rfl (Or.inr rfl))
  (jaf (jar (i:=6) S.nd rfl (Or.inr rfl) (jap jaP jab (jae db hr.m rfl jao (jaa (pv 1) (jaa jab jad jai) jac))))
  (jaf (jar (i:=2) S.nd rfl (Or.inr rfl) (jaF rfl (N':=["k","tops","weight","by","corner"]) (ix:=[2,6,4,5]) (by walk_at "cs") (jaH rfl T.m_range (jaa jab jad jai)) (fun _ _ _ _=>jau (i:=0) (show (["k","tops","weight","by","corner"]:List Str).Nodup from by decide +kernel) rfl (Or.inl rfl)) (fun _ _ _ _=>jaK) (fun _ _ _ _=>(jap jaP (jal (jaL (K:=K) rfl) (pv 1) (pv 0)) (jap jas (jap jas (pv 2) (jap jby (pv 3) (jal (jaZ (K:=K) rfl) (pv 4) jab))) (jal (jaZ (K:=K) rfl) (pv 4) (pv 0)))))))
  (jag (jar (i:=3) S.nd rfl (Or.inl rfl) (jap jaP (pv 3) (jap jas (pv 6) (pv 4))))))))
  (jag (jan (jae dA hr.m rfl jao (jaa (pv 2) (jaa (pv 3) jad jac) jac))))))))),?_⟩
 walk_at "rf";obtain⟨rs,h1,h2⟩:=hb;have lr:=h2.len;have wl:=fun {i:Nat} (hi:i<=ps.length)=>jmH (fun p hp=>⟨(bp p hp).1.w1,(bp p hp).2⟩) hi;have w8:∀{i:Nat},i<=ps.length->1<=wpr ps i/\wpr ps i<=6561:=fun {i} hi=>⟨(wl hi).1,xcn (wl hi).2 (by
  have:(3:Int)^i<=3^8:=by
   have:(3:Nat)^i<=3^8:=xbH (by decide) (by omega)
   exact_mod_cast this
  exact this)⟩
 have fB:∀{i:Nat},i<=ps.length->Fit (wpr ps i):=fun hi=>Bd.fit (n:=13) (by have:=w8 hi;unfold Bd;omega);refine⟨by decide,fun p hp=>?_⟩;have s1:=Same.new hp (.lst [V.int 0,V.int 0,V.int 0]);refine jbJ hp fun H1 _ e1=>?_;have kb:SqT K H1 b (rs.map V.ref):=SqT.of (‹Same H H1› _ _ h1);refine⟨⟨_,kb⟩,jcS (K:=K) (a:=b) (xs:=rs.map V.ref) (fun i σ J=>J=H1/\∃o,σ=[some (.ref b),some (.ref L),some (.ref p),some (.int 0),some (.int (wpr ps i)),o,none]) ⟨rfl,none,rfl⟩ (fun i σ J _ h=>h.1▸kb) ?_ ?_⟩
 ·rintro i v σ J hi ⟨rfl,o5,rfl⟩;have il:i<ps.length:=by have:=(xae.mp hi).1;rw[xaa] at this;omega
  obtain⟨b1,b2⟩:=(h2.keep (Same.t ‹Same H J›)).get il;rw[b1] at hi;cases hi;walk_at "rf";refine ixT b2.sq rfl ⟨_,rfl,fB (by omega),b2.2.fw,?_⟩;exact⟨rfl,rfl,_,rfl⟩
 ·rintro σ J ⟨rfl,o5,rfl⟩;rw[xaa,lr];walk_at "rf";have sJ:Same H J:=‹Same H J›;obtain⟨r0,hL,r00⟩:=pu;have pL:p≠L:=fun z=>by rw[z,hL] at hp;cases hp
  have bL:b≠L:=fun z=>by rw[z,hL] at h1;cases h1
  obtain⟨B1,B2⟩:=w8 (i:=ps.length) (xam _);have fB0:=fB (i:=ps.length) (xam _);have dv:∀{i:Nat},i<ps.length->(pt ps i).w ∣ wpr ps ps.length:=fun hi=>jkF hi;generalize wpr ps ps.length=B at *
  refine⟨⟨_,kb⟩,jcS (K:=K) (a:=b) (xs:=rs.map V.ref) (fun i σ M=>SameB L H M/\Purs M L/\∃(tp:Addr) (X:Pt) (o5 o6:Option V),σ=[some (.ref b),some (.ref L),some (.ref tp),some (.int X.w),some (.int B),o5,o6]/\tp≠L/\A3 M tp ⟨X.x,X.y,X.z⟩/\InW ps i X) ⟨sJ.b,⟨r0,sJ _ _ hL,r00⟩,p,⟨0,0,0,0⟩,o5,none,rfl,pL,e1,?_⟩ (fun i σ M _ h=>SqT.of (h.1 _ _ bL h1)) ?_ ?_⟩
  ·exact⟨⟨by simp,by simp,by simp,by simp⟩,by simp,fun f _=>by unfold hgP hgt;simp,fun f _ ⟨j,hj,_⟩=>absurd hj (xa9 _)⟩
  ·rintro i v σ M hi ⟨sM,pM,tp,X,o5',o6,rfl,tL,et,iw⟩;have il:i<ps.length:=by have:=(xae.mp hi).1;rw[xaa] at this;omega
   obtain⟨b1,b2⟩:=h2.get il;rw[b1] at hi;cases hi;obtain⟨bq,w3⟩:=bp _ (jaD il);have w1:=bq.w1;have dB:=xaM (dv il);have fd0:B.fdiv (pt ps i).w=B / (pt ps i).w:=xbR _ (by omega);walk_at "rf";refine⟨L,9,rfl,pM,by decide,by decide,fun M2 d s2 p2 d0 d9=>?_⟩;have sM2:=sM.trans s2;have q4:Is4 M2 (ad rs i) (pt ps i):=⟨sM2 _ _ (fun e=>by have:=b2.1;rw[e,hL] at this;cases this) b2.1,b2.2⟩;obtain⟨u,eu⟩:∃u,B / (pt ps i).w=u:=⟨_,rfl⟩;rw[eu] at dB fd0;have u1:1<=u:=by
    have:=jcP (show 0<(pt ps i).w by omega) (show 0<(pt ps i).w*u by rw[xaL,dB];omega);omega
   have uB:u<=B:=by
    have:=xcp (xaI u) w1 (by decide) (by omega);omega
   have tB:(1+d)*u*(pt ps i).w=(1+d)*B:=by rw[xcs,dB]
   have t9:(1+d)*u<=59049:=xcn (xcp (show 1+d<=9 by omega) (show u<=6561 by omega) (by omega) (by decide)) (by decide);have tw:(1+d)*u*(pt ps i).w<=59049:=by rw[tB];exact xcn (xcp (show 1+d<=9 by omega) B2 (by omega) (by decide)) (by decide)
   have t1:1<=(1+d)*u:=by have:=xab (show 0<1+d by omega) (show 0<u by omega);omega
   refine⟨d,rfl,by decide,by decide,fun acc hacc=>?_⟩;have kt:SqL K M2 tp [.int X.x,.int X.y,.int X.z]:=SqL.of (s2 _ _ tL et);have fd:Fit (1+d):=Bd.fit (n:=10) (by unfold Bd;omega);refine jfk (n:=3) (fun k=>.int (c4 (jol X (pt ps i) ((1+d)*u)) k)) (by decide) hacc (fun k M3 R hk s3 hR=>?_) (fun M3 s3 e3=>?_)
   ·have:=hR _ (fun _ _ h=>h);have e:c4 (jol X (pt ps i) ((1+d)*u)) k=c4 X k+(1+d)*u*c4 (pt ps i) k:=by obtain rfl | rfl | rfl:=lt3 hk<;>rfl
    have k3:atI [V.int X.x,.int X.y,.int X.z] (0+(k:Int))=some (.int (c4 X k)):=by obtain rfl | rfl | rfl:=lt3 hk<;>rfl
    rw[e] at this;walk_at "rf";refine ixL (s3.seq kt) k3 (ixT (q4.keep s3).sq rfl ⟨_,rfl,by omega,q4.2.fw,fd,?_,ixT (q4.keep s3).sq (at4 (by omega)) ⟨_,rfl,?_,?_,_,rfl,?_⟩⟩)
    ·rw[eu];exact Bd.fit (n:=13) (by unfold Bd;omega)
    ·rw[eu];exact Bd.fit (n:=17) (by unfold Bd;omega)
    ·obtain rfl | rfl | rfl:=lt3 hk<;>first | exact q4.2.fx | exact q4.2.fy | exact q4.2.fz
    ·rw[eu];exact this
   ·refine⟨fd,fB0,sM2.trans s3.b,p2.keep s3,jol X (pt ps i) ((1+d)*u),?_,fun e=>?_,e3,iw.add il bq t1 t9 tw⟩
    ·show X.w+(1+d)*B=X.w+(1+d)*u*(pt ps i).w;rw[tB]
    ·obtain⟨r2,h3,_⟩:=p2;rw[e,h3] at hacc;cases hacc
  ·rintro σ M ⟨sM,pM,tp,X,o5',o6,rfl,tL,et,iw⟩;walk_at "rf";rw[xaa,lr] at iw;obtain⟨⟨a1,a2,a3,a4⟩,a5,a6,a7⟩:=iw;have bd:∀{x:Int},x.natAbs<=ps.length*(59049*2^30)->Bd 49 x:=fun h=>by unfold Bd;omega
   have bw:Bd 19 X.w:=by unfold Bd;omega
   obtain⟨k,k0,ek⟩:=jeW (r:=X) (by omega);have en:jbg X=spP X.w ⟨X.x,X.y,X.z⟩:=by
    unfold jbg;rw[if_neg (by omega)];rfl
   have nw:=(jhW (r:=X) (by omega)).1;rw[en] at nw;have nb:NB (spP X.w ⟨X.x,X.y,X.z⟩):=⟨Bd.div (bd a1),Bd.div (bd a2),Bd.div (bd a3),Bd.div bw⟩;refine⟨tp,X.x,X.y,X.z,X.w,rfl,SqL.of et,by omega,bw.fit,fun g M2 s2 e2=>q g M2 (spP X.w ⟨X.x,X.y,X.z⟩) (sM.trans s2.b) (pM.keep s2) ⟨e2,nb.bd.sm' (by decide)⟩ nb ⟨nw,by rw[<- en];exact jgN (by omega),fun f nn=>?_,fun f nn ⟨p,hp,pp⟩=>?_⟩⟩
   ·rw[<- en];have h:=a6 f nn;rw[<- ek f] at h;rcases xaE (hgP f (jbg X)) 0 with c | c
    ·have:=xak k0 c;omega
    ·exact c
   ·rw[<- en];obtain⟨j,hj,rfl⟩:=jbQ hp;have h:=a7 f nn ⟨j,hj,pp⟩;rw[<- ek f] at h;exact jcP k0 h
theorem SqL.sb {a:Addr} (h:SqL K H a xs) (n:Purs H L) (ne:xs.length≠1) (s:SameB L H H'):SqL K H' a xs:=by
 obtain⟨r,hL,_⟩:=n;rcases h with (h | ⟨o,h⟩) | h
 ·refine .inl (.inl (s _ _ (fun z=>?_) h));rw[z,hL] at h;injection h with h
  injection h with h
  exact ne (by rw[<- h];rfl)
 ·refine .inl (.inr ⟨o,s _ _ (fun z=>?_) h⟩);rw[z,hL] at h;cases h
 ·exact .inr h
theorem BM.sb {b:Addr} (h:BM H b ps) (n:Purs H L) (s:SameB L H H'):BM H' b ps:=by
 obtain⟨r,hL,_⟩:=n;obtain⟨rs,h1,h2⟩:=h;exact⟨rs,s _ _ (fun z=>by rw[z,hL] at h1;cases h1) h1,h2.keep (fun x ys hx=>s _ _ (fun z=>by rw[z,hL] at hx;cases hx) hx)⟩
theorem Is4.sb {b:Addr} (h:Is4 H b p) (n:Purs H L) (s:SameB L H H'):Is4 H' b p:=by
 obtain⟨r,hL,_⟩:=n;exact⟨s _ _ (fun z=>by have:=h.1;rw[z,hL] at this;cases this) h.1,h.2⟩
def lnT (p r:Int) (N F:Pt):Pt:=⟨(p+r)*N.x*F.w-p*F.x*N.w,(p+r)*N.y*F.w-p*F.y*N.w,(p+r)*N.z*F.w-p*F.z*N.w,r*N.w*F.w⟩
theorem jqr (p r:Int) (N F f:Pt):(p+r)*F.w*hgP f N=hgP f (lnT p r N F)+p*N.w*hgP f F:=by
 unfold lnT hgP hgt;simp only;grind
theorem lnT_c (p r:Int) (N F:Pt) {k:Nat} (h:k<3):(p+r)*c4 N k*F.w-p*c4 F k*N.w=c4 (lnT p r N F) k:=by
 obtain rfl | rfl | rfl:=lt3 h<;>rfl
theorem jqs {m:Nat} {p r:Int} {F:Pt} (p1:1<=p) (p12:p<=12) (r1:1<=r) (r6:r<=6) (bn:N.bd n) (bf:F.bd m):(lnT p r N F).bd (n+m+6):=by
 have a:Bd 5 (p+r):=by unfold Bd;omega
 have b:Bd 5 p:=by unfold Bd;omega
 have c:Bd 5 r:=by unfold Bd;omega
 have t:∀{i j:Int},Bd n i->Bd m j->Bd (n+m+5+1) ((p+r)*i*F.w-p*j*N.w):=fun hi hj=>Bd.sub (Bd.mono (Bd.mul (Bd.mul a hi) bf.2.2.2) (by omega)) (Bd.mono (Bd.mul (Bd.mul b hj) bn.2.2.2) (by omega));exact⟨t bn.1 bf.1,t bn.2.1 bf.2.1,t bn.2.2.1 bf.2.2.1,Bd.mono (Bd.mul (Bd.mul c bn.2.2.2) bf.2.2.2) (by omega)⟩
theorem jqt {p r:Int} {F:Pt} (p1:1<=p) (p12:p<=12) (r1:1<=r) (r6:r<=6) (bn:NB N) (bf:NB F):(Bd 74 (lnT p r N F).x/\Bd 74 (lnT p r N F).y/\Bd 74 (lnT p r N F).z)/\Bd 43 (lnT p r N F).w:=by
 have a:Bd 5 (p+r):=by unfold Bd;omega
 have b:Bd 5 p:=by unfold Bd;omega
 have c:Bd 5 r:=by unfold Bd;omega
 have t:∀{i j:Int},Bd 49 i->Bd 49 j->Bd (73+1) ((p+r)*i*F.w-p*j*N.w):=fun hi hj=>Bd.sub (Bd.mul (n:=5+49) (Bd.mul a hi) bf.w) (Bd.mul (n:=5+49) (Bd.mul b hj) bn.w);exact⟨⟨t bn.x bf.x,t bn.y bf.y,t bn.z bf.z⟩,Bd.mul (n:=5+19) (Bd.mul c bn.w) bf.w⟩
inductive spLni (vs:List V) (H:Hp) (Q:VK):Prop
 | mk (i j:Nat) (n f L:Addr) (N F:Pt) (_:vs=[.ref n,.ref f,.ref L]) (_:Is4 H n N) (_:Is4 H f F) (_:Purs H L) (_:N.bd i) (_:F.bd j) (_:i+j<=863) (_:1<=N.w) (_:1<=F.w) (_:∀(g:Addr) (H':Hp) (X:Pt),SameB L H H'->Purs H' L->Is4 H' g X->SpC true X->(NB N->NB F->SpC false X)->(∃α β γ:Int,0<α/\0<β/\0<γ/\∀f,α*hgP f N=β*hgP f X+γ*hgP f F)->Q (.ref g) H')
def spLn:Sp:=fun vs H Q _=>spLni vs H Q
theorem ok_ln (T:Tx K mg t1 t2) (F:At K mg "_law_line" jdN ["near","far","purse"] []) (db:jak P w K mg base CX0 2 "_law_take" ["purse","many"] [] jdm) (dA:jak P w K mg base CX0 3 "_law_spot" ["numbers","w"] [] (jgK K)):jak P w K mg base CX0 4 "_law_line" ["near","far","purse"] [] spLn:=by
 refine F.ok jeP (by walk_at "ar") (fun f cdv A outer s H vs Q E hr h=>?_);obtain⟨bi,bj,n,f,L,N,X,rfl,hn,hf,pu,bn,bf,ij,nw,fw,q⟩:=h;have S:=jeP;refine⟨_,(jaf (jar (i:=3) S.nd rfl (Or.inr rfl) (jap jaP jab (jae db hr.m rfl jao (jaa (pv 2) (jaa jab jad jai) jac))))
  (jaf (jar (i:=4) S.nd rfl (Or.inr rfl) (jap jaP jab (jae db hr.m rfl jao (jaa (pv 2) (jaa jab jad jai) jac))))
  (jaf (jbV (i:=5) rfl S.nd rfl rfl (N':=["k","p","q","near","far"]) (ix:=[3,4,0,1]) (by walk_at "cs") (jaH rfl T.m_range (jaa jab jad jai)) (fun _ _ _ _=>jau (i:=0) (show (["k","p","q","near","far"]:List Str).Nodup from by decide +kernel) rfl (Or.inl rfl)) (fun _ _ _ _=>jaK) (fun _ _ _ _=>(jap jaW (jap jas (jap jas (jap jaP (pv 1) (pv 2)) (jal (jaZ (K:=K) rfl) (pv 3) (pv 0))) (jal (jaZ (K:=K) rfl) (pv 4) jab)) (jap jas (jap jas (pv 1) (jal (jaZ (K:=K) rfl) (pv 4) (pv 0))) (jal (jaZ (K:=K) rfl) (pv 3) jab)))))
  (jag (jan (jae dA hr.m rfl jao (jaa (pv 5) (jaa (jap jas (jap jas (pv 4) (jal jaq (pv 0) jab)) (jal jaq (pv 1) jab)) jad jbc) jac))))))),?_⟩
 walk_at "rf";refine⟨L,12,rfl,pu,by decide,by decide,fun H1 p s1 p1 p0 p12=>⟨p,rfl,L,6,rfl,p1,by decide,by decide,fun H2 r s2 p2 r0 r6=>⟨r,rfl,?_⟩⟩⟩;have s12:=s1.trans s2;have hn2:=hn.sb pu s12;have hf2:=hf.sb pu s12;have bt:=jqs (p:=1+p) (r:=1+r) (by omega) (by omega) (by omega) (by omega) bn bf;refine⟨by decide,by decide,fun acc hacc=>?_⟩;refine jfk (n:=3) (fun k=>.int (c4 (lnT (1+p) (1+r) N X) k)) (by decide) hacc (fun k H3 R hk s3 hR=>?_) (fun H3 s3 e3=>?_)
 ·have:=hR _ (fun _ _ h=>h);rw[<- lnT_c _ _ _ _ hk] at this;have cb:∀{Y:Pt} {i:Nat},Y.bd i->Bd i (c4 Y k):=fun {Y i} h=>by obtain rfl | rfl | rfl:=lt3 hk<;>first | exact h.1 | exact h.2.1 | exact h.2.2.1
  have a:Bd 5 (1+p+(1+r)):=by unfold Bd;omega
  have b:Bd 5 (1+p):=by unfold Bd;omega
  walk_at "rf";exact ixT (hn2.keep s3).sq (at4 (by omega)) ⟨_,rfl,a.fit,(cb bn).fit (by omega),ixT (hf2.keep s3).sq rfl ⟨_,rfl,(Bd.mul a (cb bn)).fit (by omega),bf.2.2.2.fit (by omega),ixT (hf2.keep s3).sq (at4 (by omega)) ⟨_,rfl,b.fit,(cb bf).fit (by omega),ixT (hn2.keep s3).sq rfl ⟨_,rfl,(Bd.mul b (cb bf)).fit (by omega),bn.2.2.2.fit (by omega),this⟩⟩⟩⟩
 ·have c:Bd 5 (1+r):=by unfold Bd;omega
  have k3:SqL K H3 acc [.int (lnT (1+p) (1+r) N X).x,.int (lnT (1+p) (1+r) N X).y,.int (lnT (1+p) (1+r) N X).z]:=SqL.of e3;have w0:0<(lnT (1+p) (1+r) N X).w:=xab (xab (by omega) (by omega)) (by omega);refine ixT (hn2.keep s3).sq rfl ⟨_,rfl,c.fit,bn.2.2.2.fit (by omega),ixT (hf2.keep s3).sq rfl ⟨_,rfl,(Bd.mul c bn.2.2.2).fit (by omega),bf.2.2.2.fit (by omega),?_⟩⟩;have lh:=jqr (1+p) (1+r) N X;have nb:=fun (x:NB N) (y:NB X)=>jqt (p:=1+p) (r:=1+r) (by omega) (by omega) (by omega) (by omega) x y;show jgK K [.ref acc,.int (lnT (1+p) (1+r) N X).w] H3 Q E0;generalize lnT (1+p) (1+r) N X=Y at *
  obtain⟨κ,k0,ek⟩:=jeW (r:=Y) (by omega);have en:jbg Y=spP Y.w ⟨Y.x,Y.y,Y.z⟩:=by
   unfold jbg;rw[if_neg (by omega)];rfl
  have wn:=(jhW (r:=Y) (by omega)).1;rw[en] at wn;have b8:∀{i:Int},Bd (bi+bj+6) i->Bd 870 i:=fun h=>Bd.mono h (by omega);have sc:SpC true (spP Y.w ⟨Y.x,Y.y,Y.z⟩):=⟨Bd.div (b8 bt.1),Bd.div (b8 bt.2.1),Bd.div (b8 bt.2.2.1),Bd.div (b8 bt.2.2.2),wn⟩;have ss:NB N->NB X->SpC false (spP Y.w ⟨Y.x,Y.y,Y.z⟩):=fun x y=>let b:=nb x y;⟨Bd.div b.1.1,Bd.div b.1.2.1,Bd.div b.1.2.2,Bd.div b.2,wn⟩;refine⟨acc,Y.x,Y.y,Y.z,Y.w,rfl,k3,w0,(b8 bt.2.2.2).fit,fun g H4 s4 e4=>q g H4 (spP Y.w ⟨Y.x,Y.y,Y.z⟩) (s12.trans (s3.trans s4).b) (p2.keep (s3.trans s4)) ⟨e4,sc.bd.sm' (by decide)⟩ sc ss ⟨(1+p+(1+r))*X.w,κ,(1+p)*N.w,xab (by omega) (by omega),k0,xab (by omega) (by omega),fun f=>?_⟩⟩;rw[lh f,<- en,ek]
theorem jqu {X:Cx}:OpR X (compareOp .Is) (fun x y H Q=>∃c d,x=.bl c/\y=.bl d/\Q (.bl (c==d)) H):=by
 intro pins s σ H x y v u Q I rx ry h;obtain⟨c,d,rfl,rfl,q⟩:=h;cases rx;cases ry;exact is_bool (jaR I q rfl)
theorem Sce.w3p {w:Int} (h:Sce w Z vs us):∀p∈us.map (spP w),SpB p/\p.w<=3:=fun p hp=>by
 refine⟨h.bp p hp,?_⟩;obtain⟨u,hu,rfl⟩:=xai.mp hp;show w / gl [u.x,u.y,u.z,w]<=3;have:=Int.ediv_le_self (a:=w) (gl [u.x,u.y,u.z,w]) (by have:=h.w1;omega);have:=h.w3;omega
inductive spHoi (us:List V) (H:Hp) (Q:VK):Prop
 | mk (i j:Nat) (a b n f L:Addr) (w1 w2:Int) (Z1 Z2:Sht) (vs1 vs2 us1 us2:List Tri) (N F:Pt) (_:us=[.ref a,.ref b,.ref n,.ref f,.ref L]) (_:BM H a (us1.map (spP w1))) (_:BM H b (us2.map (spP w2))) (_:Is4 H n N) (_:Is4 H f F) (_:Purs H L) (_:Sce w1 Z1 vs1 us1) (_:Sce w2 Z2 vs2 us2) (_:N.bd i) (_:F.bd j) (_:i+j<=863) (_:N.bd 900) (_:F.bd 900) (_:(gl [N.x,N.y,N.z,N.w]=1/\gl [F.x,F.y,F.z,F.w]=1/\1<=N.w/\1<=F.w)) (_:whL (us1.map (spP w1)) N) (_:whL (us2.map (spP w2)) F) (_:∀H',SameB L H H'->Purs H' L->Q (.bl true) H')
def spHo:Sp:=fun us H Q _=>spHoi us H Q
theorem ok_ho (T:Tx K mg t1 t2) (F:At K mg "_law_holds" jc9 ["one","other","near","far","purse"] []) (dX:jak P w K mg base CX0 4 "_law_line" ["near","far","purse"] [] spLn) (Da:jak P w K mg base CX0 5 "_law_free" ["boards","spot"] [] spFr) (DI:jak P w K mg base CX0 10 "does_hide" ["one","other","spot"] [] spDh) (dY:jak P w K mg base CX0 6 "_law_sees" ["near","far","one","other","spot"] [] joc) (Dw:jak P w K mg base CX0 10 "sight_judged" ["one","other","spot","told"] [] spJu):jak P w K mg base CX0 11 "_law_holds" ["one","other","near","far","purse"] [] spHo:=by
 refine F.ok jef (by walk_at "ar") (fun f cdv A outer s H vs Q E hr h=>?_);obtain⟨bi,bj,a,b,gn,gf,L,w1,w2,Z1,Z2,vs1,vs2,us1,us2,N,X,rfl,ha,hb,hn,hf,pu,C1,C2,bn,bf,ij,bn6,bf6,gg,wN,wX,q⟩:=h;have S:=jef;refine⟨_,(jaf (jar (i:=5) S.nd rfl (Or.inl rfl) (jae dX hr.m rfl jao (jaa (pv 2) (jaa (pv 3) (jaa (pv 4) jad jac) jac) jac)))
  (jaf (jaM (jat (jh5 (jiO hr)) (jae Da hr.m rfl jao (jaa (jaU (jaa (pv 0) (jaa (pv 1) jad jac) jac)) (jaa (pv 5) jad jac) jbu)) (jaU jad) (jaw _))
  (jag (jan jbz))
  jax)
  (jaf (jaM (PW.pt (jfS (jat jjr (jae DI hr.m rfl jao (jaa (pv 0) (jaa (pv 1) (jaa (pv 5) jad jac) jac) jac)) jbz (jaw _)) (je8 (jcR (jbO (jae dY hr.m rfl jao (jaa (pv 2) (jaa (pv 3) (jaa (pv 0) (jaa (pv 1) (jaa (pv 5) jad jac) jac) jac) jac) jac)))))))
  (jag (jan jbz))
  jax)
  (jag (jan (jbp jqu (jae Dw hr.m rfl jao (jaa (pv 0) (jaa (pv 1) (jaa (pv 5) (jaa (ja4 (jaa jcl (jaa (pv 2) (jaa (pv 3) jad jac) jac) jai)) jad jaE) jac) jac) jac)) jbz (jaw _))))))),?_⟩
 have b30:∀{p:Pt},SpB p->p.bd 30:=fun b=>⟨b.x,b.y,b.z,Bd.mono b.w⟩;have b100:∀{p:Pt},SpB p->p.bd 100:=fun b=>⟨Bd.mono b.x,Bd.mono b.y,Bd.mono b.z,Bd.mono b.w⟩;have l1:=C1.len;have l2:=C2.len;have p1:=C1.bp;have p2:=C2.bp;walk_at "rf";refine⟨bi,bj,gn,gf,L,N,X,rfl,hn,hf,pu,bn,bf,ij,gg.2.2.1,gg.2.2.2,fun e H3 o s3 pu3 he bo _ ⟨α,β,γ,al,be,ga,el⟩=>?_⟩;have ha:=ha.sb pu s3;have hb:=hb.sb pu s3;have hn:=hn.sb pu s3;have hf:=hf.sb pu s3;have o8:o.bd 870:=bo.bd;refine⟨by decide,fun p hp=>?_⟩;refine jbJ hp fun H4 s4 e4=>⟨p,e,a,b,_,_,o,rfl,e4,ha.keep s4,hb.keep s4,he.keep s4,l1.1,l2.1,fun p hp=>b100 (p1 p hp),fun p hp=>b100 (p2 p hp),⟨Bd.mono o8.1,Bd.mono o8.2.1,Bd.mono o8.2.2.1,Bd.mono o8.2.2.2⟩,fun gk H5 ks s5 e5 iff=>⟨by decide,fun pz hpz=>?_⟩⟩;refine jbJ hpz fun H6 s6 e6=>?_;have s36:=s4.trans (s5.trans s6);refine je5 (x:=ks) (y:=[]) (SqL.of (s6 _ _ e5)) (SqL.of e6) ⟨_,rfl,?_⟩;by_cases ck:ks=[];rotate_left
 ·rw[decide_eq_false ck,if_pos (by decide)];exact q _ (s3.trans s36.b) (pu3.keep s36)
 rw[decide_eq_true ck,if_neg (by decide)];obtain⟨f1,f2⟩:=iff.mp ck;have S1:=C1.scn f1;have S2:=C2.scn f2;have cp:=C1.sp (lv:=true);have cv:=C1.vf (lv:=true);have co:=C1.ok (lv:=true);clear C1 C2;generalize wS w1 Z1=Y1 at *
 generalize wS w2 Z2=Y2 at *
 generalize vs1.map (wV w1)=v1 at *
 generalize vs2.map (wV w2)=v2 at *
 generalize us1.map (spP w1)=ps at *
 generalize us2.map (spP w2)=qs at *
 have iN:=jmG S1 wN gg.2.2.1 gg.1;have iX:=jmG S2 wX gg.2.2.2 gg.2.1;have bt:=jmE al be ga el (jmF S1 iN.w1 (iN.on S1));refine⟨true,a,b,e,Y1,v1,ps,qs,o,rfl,ha.keep s36,hb.keep s36,he.keep s36,S1.fre,S2.fre,bo,S2.na2 bo.w1,cp,cv,S1,co,fun H7 fs s7 py=>?_⟩;have kp:=jqp S1 S2 bo.w1 py iN iX al be ga el;have ke:(!(KP (fs.map (jaO Y1)) v1).isEmpty)=true:=by
  cases hk:KP (fs.map (jaO Y1)) v1 with
  | nil=>exact absurd hk kp
  | cons _ _=>rfl
 rw[ke];have s37:=s36.trans s7;refine⟨true,rfl,?_⟩;rw[if_neg (by decide)];refine⟨gn,gf,a,b,e,N,X,ps,qs,o,rfl,hn.keep s37,hf.keep s37,ha.keep s37,hb.keep s37,he.keep s37,l1,l2,fun p hp=>b30 (p1 p hp),fun p hp=>b30 (p2 p hp),bn6,bf6,o8,fun H8 r s8 hr=>?_⟩;rw[hr.mpr ⟨gg,wN,wX,bt⟩];refine⟨true,rfl,?_⟩;rw[if_neg (by decide)];have s38:=s37.trans s8;refine⟨by decide,fun p hp=>?_⟩;refine jbJ hp fun H9 s9 e9=>?_;have s39:=s38.trans s9;refine⟨a,b,e,p,ps,qs,o,Y1,Y2,v1,v2,rfl,ha.keep s39,hb.keep s39,he.keep s39,S1,S2,⟨o8,bo.w1⟩,.inr ⟨gn,gf,N,X,e9,hn.keep s39,hf.keep s39,bn6,bf6,fun H10 r s10 hr=>?_⟩⟩;rw[hr.mpr ⟨wN,wX,bt⟩];exact⟨true,rfl,q _ (s3.trans (s39.trans s10).b) (pu3.keep (s39.trans s10))⟩
theorem CnL.keep {K:PySem.W.Frag} (h:CnL K H g Z vs) (s:Same H H'):CnL K H' g Z vs :=
 let ⟨ps,a,b,c⟩:=h
 ⟨ps,s.seq a,b.keep s,c⟩
theorem CnL.sb (h:CnL K H g Z vs) (n3:3<=vs.length) (n:Purs H L) (s:SameB L H H'):CnL K H' g Z vs:=by
 obtain⟨ps,a,b,c⟩:=h;have l:ps.length=vs.length:=by have:=congrArg List.length c;rwa [xaa,xaa] at this
 exact⟨ps,SqL.sb a n (by rw[xaa,xaa];omega) s,fun p hp=>SqL.sb (b p hp) n (show 3≠1 by decide) s,c⟩
theorem CnL.le (h:CnL K H g Z vs) (G:RowG vs) (M:ShM Z):∃ps:List (Addr × Tri),SqL K H g ((ps.map Prod.fst).map V.ref)/\Prd K H ps/\ps.map Prod.snd=vs.map (crn Z)/\(∀p∈ps,p.2.bd 600)/\ps.length=vs.length:=by
 obtain⟨ps,a,b,c⟩:=h;have l:ps.length=vs.length:=by have:=congrArg List.length c;rwa [xaa,xaa] at this
 refine⟨ps,a,b,c,fun p hp=>?_,l⟩;have:p.2∈ps.map Prod.snd:=xai.mpr ⟨p,hp,rfl⟩;rw[c] at this;obtain⟨v,hv,e⟩:=xai.mp this;rw[<- e];exact jin (jkx (M.l.crn (G.pl hv).1 (G.pl hv).2.1) (by decide)) (by decide)
inductive lrM (K:PySem.W.Frag) (a:Addr) (ns:List Int) (σ:L2.St) (J:Hp):Prop
 | mk (ss L c1 A1 A2 Lp e:Addr) (wd w:Int) (ms:List Int) (Z1 Z2:Sht) (vs1 vs2 us1 us2:List Tri) (o:Pt) (h:σ=[some (.ref a),some (.ref ss),some (.ref L),some (.int wd),some (.ref c1),some (.int w),some (.ref A1),some (.ref A2),some (.ref Lp),some (.ref e),none,none]) (hS:SqL K J a (ns.map V.int)) (e1:J ss=some (.lst (ms.map V.int))) (l1:ms.length=20) (C1:Sce w Z1 vs1 us1) (C2:Sce w Z2 vs2 us2) (hA:BM J A1 (us1.map (spP w))) (hB:BM J A2 (us2.map (spP w))) (he:Is4 J e o) (bo:SpC false o)
theorem jqv {e:Addr} {ed:FuncData} (T:Tx K mg t1 t2) (F:FunD K "law" "law" jgw e ed .none) (DB:jak P w K mg base CX0 2 "_law_slots" ["script","many"] [] (spSl K)) (dD:jak P w K mg base CX0 2 "_law_purse" ["cell","k"] [] spPu) (db:jak P w K mg base CX0 2 "_law_take" ["purse","many"] [] jdm) (DH:jak P w K mg base CX0 2 "_law_wide" ["number"] [] spWd) (dR:jak P w K mg base CX0 5 "_law_corners" ["purse","wide"] [] (spCo K)) (DL:jak P w K mg base CX0 6 "_law_mate" ["corners","purse","wide"] [] (spMt K)) (Dh:jak P w K mg base CX0 4 "_law_formed" ["corners","w"] [] (jpC K)) (DO:jak P w K mg base CX0 4 "_law_eye" ["purse","wide"] [] spEy) (Di:jak P w K mg base CX0 4 "_law_inner" ["board","purse"] [] spIn) (dX:jak P w K mg base CX0 4 "_law_line" ["near","far","purse"] [] spLn) (Da:jak P w K mg base CX0 5 "_law_free" ["boards","spot"] [] spFr) (DP:jak P w K mg base CX0 10 "sight_of" ["one","other","spot"] [] spSo) (DJ:jak P w K mg base CX0 7 "_law_told" ["found","one","other","spot"] [] jqh) (Dj:jak P w K mg base CX0 11 "_law_holds" ["one","other","near","far","purse"] [] spHo):FnOk P w K mg base CX0 12 e ed ["script"] (jk2 K):=by
 refine F.ok jl2 (by walk_at "ar") (fun cdv A outer s H vs Q E hr h=>?_);obtain⟨a,ns,rfl,hS,h63,q⟩:=h;have S:=jl2;refine⟨_,(jaf (jar (i:=1) S.nd rfl (Or.inl rfl) (jae DB hr.m rfl jao (jaa (pv 0) (jaa jab jad jai) jac)))
  (jaf (jar (i:=2) S.nd rfl (Or.inl rfl) (jae dD hr.m rfl jao (jaa (jal ix_list (pv 1) jab) (jaa jab jad jai) jav)))
  (jaf (jar (i:=3) S.nd rfl (Or.inl rfl) (jae DH hr.m rfl jao (jaa (jae db hr.m rfl jao (jaa (pv 2) (jaa jab jad jai) jac)) jad jaB)))
  (jaf (jar (i:=4) S.nd rfl (Or.inl rfl) (jae dR hr.m rfl jao (jaa (jae dD hr.m rfl jao (jaa (jal ix_list (pv 1) jab) (jaa jab jad jai) jav)) (jaa (pv 3) jad jac) jaB)))
  (jaf (jar (i:=5) S.nd rfl (Or.inl rfl) (jap jaP jab (jae db hr.m rfl jao (jaa (pv 2) (jaa jab jad jai) jac))))
  (jaf (jar (i:=6) S.nd rfl (Or.inl rfl) (jae Dh hr.m rfl jao (jaa (pv 4) (jaa (pv 5) jad jac) jac)))
  (jaf (jar (i:=7) S.nd rfl (Or.inl rfl) (jae Dh hr.m rfl jao (jaa (jae DL hr.m rfl jao (jaa (pv 4) (jaa (jae dD hr.m rfl jao (jaa (jal ix_list (pv 1) jab) (jaa jab jad jai) jav)) (jaa (pv 3) jad jac) jaB) jac)) (jaa (pv 5) jad jac) jaB)))
  (jaf (jar (i:=8) S.nd rfl (Or.inl rfl) (jae dD hr.m rfl jao (jaa (jal ix_list (pv 1) jab) (jaa jab jad jai) jav)))
  (jaf (jar (i:=9) S.nd rfl (Or.inl rfl) (jae DO hr.m rfl jao (jaa (pv 8) (jaa (pv 3) jad jac) jac)))
  (jcu (lrM K a ns) (jaM (jat jhu (jae db hr.m rfl jao (jaa (pv 2) (jaa jab jad jai) jac)) jab (jaw _))
  (jag (jar (i:=9) S.nd rfl (Or.inl rfl) (jae dX hr.m rfl jao (jaa (jae Di hr.m rfl jao (jaa (pv 6) (jaa (pv 8) jad jac) jac)) (jaa (jae Di hr.m rfl jao (jaa (pv 7) (jaa (pv 8) jad jac) jac)) (jaa (pv 8) jad jac) jaB) jaB))))
  jax)
  (jaf (jaM (jat (jh5 (jiO hr)) (jae Da hr.m rfl jao (jaa (jaU (jaa (pv 6) (jaa (pv 7) jad jac) jac)) (jaa (pv 9) jad jac) jbu)) (jaU jad) (jaw _))
  (jag (jan jbz))
  jax)
  (jaf (jar (i:=10) S.nd rfl (Or.inl rfl) (jae DP hr.m rfl jao (jaa (pv 6) (jaa (pv 7) (jaa (pv 9) jad jac) jac) jac)))
  (jaf (jaM (jcR (jbO (jae DJ hr.m rfl jao (jaa (pv 10) (jaa (pv 6) (jaa (pv 7) (jaa (pv 9) jad jac) jac) jac) jac))))
  (jag (jan jbz))
  jax)
  (jaf (jaM (jat jcm (jal jaq (pv 10) jab) jcl (jaw _))
  (jag (jan jbz))
  jax)
  (jaf (jbb PassesOwn.never rfl (jfc rfl T.m_range (jaa jab (jaa (jaz (jdY rfl) rfl T.m_max boot_max (jaa jab (jaa (jaz (jfd rfl) rfl T.m_min boot_min (jaa (jaz jaQ rfl T.m_len PySem.boot_len (jaa (pv 0) jad jac)) (jaa jab jad jai) jaB)) jad jaB) jai)) jad jaB) jai)) (jau (i:=11) S.nd rfl (Or.inl rfl))
  (jaf (jar (i:=8) S.nd rfl (Or.inl rfl) (jae dD hr.m rfl jao (jaa (jal ix_list (pv 1) (pv 11)) (jaa (pv 11) jad jac) jav)))
  (jaf (jaM (jcR (jbO (jae Dj hr.m rfl jao (jaa (pv 6) (jaa (pv 7) (jaa (jal jaq (pv 10) jab) (jaa (jal jaq (pv 10) jab) (jaa (pv 8) jad jac) jav) jav) jac) jac))))
  (jag (jan jbz))
  jax)
  (jag (jaM (jcR (jbO (jae Dj hr.m rfl jao (jaa (pv 7) (jaa (pv 6) (jaa (jal jaq (pv 10) jab) (jaa (jal jaq (pv 10) jab) (jaa (pv 8) jad jac) jav) jav) jac) jac))))
  (jag (jan jbz))
  jax)))))
  (jag (jan jbz))))))))))))))))),?_⟩
 walk_at "rf";refine⟨a,ns,20,rfl,hS,h63,by decide,by decide,fun ss H1 ms s1 e1 l1=>?_⟩;have kS:∀{J:Hp},Same H1 J->SqL K J ss (ms.map V.int):=fun h=>SqL.of (h _ _ e1);have at_:∀i:Nat,i<20->∃m:Int,atI (ms.map V.int) (i:Int)=some (.int m):=fun i hi=>⟨ms[i]'(by omega),ja5 (by rw[xat,xad (by omega)];rfl)⟩;obtain⟨m0,g0⟩:=at_ 0 (by decide);obtain⟨m1,g1⟩:=at_ 1 (by decide);obtain⟨m2,g2⟩:=at_ 2 (by decide);obtain⟨m3,g3⟩:=at_ 3 (by decide);refine ixL (kS (Same.refl _)) g0 ⟨m0,0,rfl,by decide,by decide,fun L H2 nL s2 pL=>⟨L,5,rfl,pL,by decide,by decide,fun H3 d s3 p3 d0 d5=>⟨d,rfl,fun wd H4 hwd s4=>?_⟩⟩⟩;have z4:=(SameB.fresh s2 nL s3).trans s4;have p4:=p3.keep s4;have wd4:4<=wd:=by omega
 have wd6:wd<=1000000:=by omega
 refine ixL (kS z4) g1 ⟨m1,1,rfl,by decide,by decide,fun L1 H5 nL1 s5 pL1=>⟨L1,wd,rfl,pL1,wd4,wd6,fun c1 H6 Z1 n1 s6 p6 k1 n19 B1=>?_⟩⟩;have y6:=SameB.fresh s5 nL1 s6;have z6:=z4.trans y6;have G1:=jhn n19;have M1:=B1.m wd6;refine⟨L,3,rfl,p4.keep y6,by decide,by decide,fun H7 w0 s7 p7 w00 w03=>?_⟩;have z7:=SameB.fresh z6 nL s7;have k7:=k1.sb G1.R.n3 (p4.keep y6) s7;refine⟨w0,rfl,?_⟩;have x13:=G1.R.n3;have x18:=G1.n8;obtain⟨ps1,a1,a2,a3,a4,a5⟩:=k7.le G1 M1;refine⟨c1,ps1,1+w0,rfl,a1,a2,a4,by omega,by omega,by omega,by unfold Bd;omega,fun A1 H8 gs1 us1 s8 e8 rr1 sp1=>?_⟩;rw[a3] at rr1;have C1:Sce (1+w0) Z1 (jek n1) us1:=⟨by omega,by omega,M1,G1,rr1⟩;refine ixL (kS (z7.trans s8)) g2 ⟨m2,2,rfl,by decide,by decide,fun L2 H9 nL2 s9 pL2=>⟨c1,L2,wd,H8,Z1,n1,rfl,k7.keep s8,n19,B1,s9,nL2,pL2,wd4,wd6,fun c2 H10 Z2 vs2 y10 k2 G2 B2=>?_⟩⟩;have x23:=G2.R.n3;have x28:=G2.n8;obtain⟨ps2,b1,b2,b3,b4,b5⟩:=k2.le G2 B2;refine⟨c2,ps2,1+w0,rfl,b1,b2,b4,by omega,by omega,by omega,by unfold Bd;omega,fun A2 H12 gs2 us2 s12 e12 rr2 sp2=>?_⟩;rw[b3] at rr2;have C2:Sce (1+w0) Z2 vs2 us2:=⟨by omega,by omega,B2,G2,rr2⟩;have hA:BM H12 A1 (us1.map (spP (1+w0))):=BM.keep ⟨gs1,e8,sp1⟩ (y10.trans s12);have hB:BM H12 A2 (us2.map (spP (1+w0))):=⟨gs2,e12,sp2⟩;have y12:=s8.trans (y10.trans s12);have z12:=z7.trans y12;refine ixL (kS z12) g3 ⟨m3,3,rfl,by decide,by decide,fun Lp H13 nLp s13 pLp=>⟨Lp,wd,rfl,pLp,wd4,wd6,fun gE H14 o s14 p14 hE bE b21 gE1=>?_⟩⟩;have y14:=SameB.fresh s13 nLp s14;have y14':=y12.trans y14;have z14:=z12.trans y14;refine⟨⟨L,3,rfl,p7.keep y14',by decide,by decide,fun H15 t s15 p15 t0 t3=>⟨t,rfl,?_⟩⟩,?_⟩
 ·have nLp1:H1 Lp=none:=z12.noneN nLp;have LpL:Lp≠L:=fun x=>by
   obtain⟨r,hL,_⟩:=p7.keep y12;rw[x,hL] at nLp;cases nLp
  have pq:=p7.keep y14';have hA15:=(hA.keep y14).sb pq s15;have hB15:=(hB.keep y14).sb pq s15;have hE15:=hE.sb pq s15;have pLp15:Purs H15 Lp:=by
   obtain⟨r,hL,h0⟩:=p14;exact⟨r,s15 _ _ LpL hL,h0⟩
  have z15:=SameB.fresh z14 nL s15;have l1':=C1.len;have l2':=C2.len;by_cases c:0<t
  ·first | rw[if_pos c] | skip
   refine⟨A1,Lp,_,rfl,hA15,pLp15,l1'.1,l1'.2,C1.w3p,fun gn H16 N s16 pu16 hn bn iN=>⟨A2,Lp,_,rfl,hB15.sb pLp15 s16,pu16,l2'.1,l2'.2,C2.w3p,fun gf H17 X s17 pu17 hf bf iX=>⟨49,49,gn,gf,Lp,N,X,rfl,hn.sb pu16 s17,hf,pu17,bn.bd,bf.bd,by decide,iN.w1,iX.w1,fun e H18 o' s18 pu18 he _ sc _=>?_⟩⟩⟩;have k18:=s16.trans (s17.trans s18);have z18:=SameB.fresh z15 nLp1 k18;exact⟨ss,L,c1,A1,A2,Lp,e,wd,1+w0,ms,Z1,Z2,jek n1,vs2,us1,us2,o',rfl,(s1.trans z18).seq hS,z18 _ _ e1,l1,C1,C2,hA15.sb pLp15 k18,hB15.sb pLp15 k18,he,sc bn bf⟩
  ·first | rw[if_neg c] | skip
   exact⟨ss,L,c1,A1,A2,Lp,gE,wd,1+w0,ms,Z1,Z2,jek n1,vs2,us1,us2,o,rfl,(s1.trans z15).seq hS,z15 _ _ e1,l1,C1,C2,hA15,hB15,hE15,bE.c⟩
 clear kS at_ z4 z6 z7 z12 z14 C1 C2;rintro σ J0 ⟨ss,L,c1,A1,A2,Lp,e,wd,w,ms,Z1,Z2,vs1,vs2,us1,us2,o,rfl,hS,e1,l1,C1,C2,hA,hB,he,bo⟩;have kS:∀{J:Hp},Same J0 J->SqL K J ss (ms.map V.int):=fun h=>SqL.of (h _ _ e1);have at_:∀i:Nat,i<20->∃m:Int,atI (ms.map V.int) (i:Int)=some (.int m):=fun i hi=>⟨ms[i]'(by omega),ja5 (by rw[xat,xad (by omega)];rfl)⟩;have l1':=C1.len;have l2':=C2.len;have b30:∀{p:Pt},SpB p->p.bd 30:=fun b=>⟨b.x,b.y,b.z,Bd.mono b.w⟩;have b100:∀{p:Pt},SpB p->p.bd 100:=fun b=>⟨Bd.mono b.x,Bd.mono b.y,Bd.mono b.z,Bd.mono b.w⟩;have p1:=C1.bp;have p2:=C2.bp;have o7:o.bd 75:=bo.bd;have o8:o.bd 870:=⟨Bd.mono o7.1,Bd.mono o7.2.1,Bd.mono o7.2.2.1,Bd.mono o7.2.2.2⟩;have o9:o.bd 900:=⟨Bd.mono o7.1,Bd.mono o7.2.1,Bd.mono o7.2.2.1,Bd.mono o7.2.2.2⟩;walk_at "rf";refine⟨by decide,fun p hp=>?_⟩;refine jbJ hp fun H1 s1 e1'=>⟨p,e,A1,A2,_,_,o,rfl,e1',hA.keep s1,hB.keep s1,he.keep s1,l1'.1,l2'.1,fun p hp=>b100 (p1 p hp),fun p hp=>b100 (p2 p hp),o9,fun gk H2 ks s2 e2 iff=>⟨by decide,fun pz hpz=>?_⟩⟩;refine jbJ hpz fun H3 s3 e3=>?_;have s03:=s1.trans (s2.trans s3);refine je5 (x:=ks) (y:=[]) (SqL.of (s3 _ _ e2)) (SqL.of e3) ⟨_,rfl,?_⟩;by_cases ck:ks=[];rotate_left
 ·rw[decide_eq_false ck,if_pos (by decide)];exact q _
 rw[decide_eq_true ck,if_neg (by decide)];obtain⟨f1,f2⟩:=iff.mp ck;have S1:=C1.scn f1;have S2:=C2.scn f2;refine⟨A1,A2,e,wS w Z1,wS w Z2,vs1.map (wV w),vs2.map (wV w),_,_,o,rfl,hA.keep s03,hB.keep s03,he.keep s03,S1.fre,S2.fre,bo,S2.na2 bo.w1,C1.sp,C1.vf,S1,S2,bo.w1,C1.ok,fun t H4 s4 R1=>?_⟩;have s04:=s03.trans s4;obtain⟨fs,py,R⟩:=R1;rcases R with ⟨z,g,f,a1,a2,a3,a4⟩ | ⟨z,gn,gf,f,cs,a1,a2,a3,a4,a5,nb,fb⟩
 ·refine⟨t,A1,A2,e,_,_,o,rfl,hA.keep s04,hB.keep s04,he.keep s04,l1',l2',fun p hp=>b30 (p1 p hp),fun p hp=>b30 (p2 p hp),o8,.inl ⟨g,f,a1,a2,a3.g1,a3.nz,fun H5 s5=>?_⟩⟩;rw[a3.pt];refine⟨_,rfl,?_⟩;try rw[if_neg (by decide)]
  refine ixT (SqT.of (s5 _ _ a1)) rfl ⟨rfl,?_⟩;rw[if_pos rfl];exact q _
 ·have R:=SoR.right S1 S2 bo.w1 py z a2 a3;have nb9:(jb7 cs).bd 900:=⟨Bd.mono nb.1,Bd.mono nb.2.1,Bd.mono nb.2.2.1,Bd.mono nb.2.2.2⟩;have fb9:(jiL f o cs).bd 900:=⟨Bd.mono fb.1,Bd.mono fb.2.1,Bd.mono fb.2.2.1,Bd.mono fb.2.2.2⟩;refine⟨t,A1,A2,e,_,_,o,rfl,hA.keep s04,hB.keep s04,he.keep s04,l1',l2',fun p hp=>b30 (p1 p hp),fun p hp=>b30 (p2 p hp),o8,.inr ⟨gn,gf,_,_,a1,a4,a5,nb9,fb9,fun H5 r s5 hr=>?_⟩⟩;rw[hr.mpr R];refine⟨_,rfl,?_⟩;try rw[if_neg (by decide)]
  have kt5:SqT K H5 t [.str "hides",.ref gn,.ref gf]:=SqT.of (s5 _ _ a1);refine ixT kt5 rfl ⟨rfl,?_⟩;rw[if_neg (fun h=>by injection h with h;exact absurd h (by decide))];have s05:=s04.trans s5;generalize jb7 cs=N at *
  generalize jiL f o cs=X at *
  have hM1:(if (if 20<(((ns.map V.int).length:Nat):Int) then 20 else (((ns.map V.int).length:Nat):Int))>6 then if 20<(((ns.map V.int).length:Nat):Int) then 20 else (((ns.map V.int).length:Nat):Int) else 6)<=(20:Int)/\(6:Int)<=(if (if 20<(((ns.map V.int).length:Nat):Int) then 20 else (((ns.map V.int).length:Nat):Int))>6 then if 20<(((ns.map V.int).length:Nat):Int) then 20 else (((ns.map V.int).length:Nat):Int) else 6):=by
   split<;>split<;>omega
  refine⟨_,.inl (s05.seq hS),?_⟩;generalize (if (if 20<(((ns.map V.int).length:Nat):Int) then 20 else (((ns.map V.int).length:Nat):Int))>6 then if 20<(((ns.map V.int).length:Nat):Int) then 20 else (((ns.map V.int).length:Nat):Int) else 6)=M at hM1 |-
  refine⟨by decide,by decide,by omega,by omega,jbA (fun i σ J=>Same H5 J/\∃o8 o11:Option V,σ=[some (V.ref a),some (V.ref ss),some (V.ref L),some (V.int wd),some (V.ref c1),some (V.int w),some (V.ref A1),some (V.ref A2),o8,some (V.ref e),some (V.ref t),o11]) ⟨Same.refl _,_,_,rfl⟩ ?_ ?_⟩
  ·rintro k σ J hk ⟨sJ,p8,p11,rfl⟩;obtain⟨m,gm⟩:=at_ (4+k) (by omega);rw[show ((4+k:Nat):Int)=4+(k:Int) by omega] at gm;have v0:=s05.trans sJ;walk_at "rf";refine ixL (kS v0) gm ⟨m,4+(k:Int),rfl,by omega,by omega,fun Lk J1 nLk u1 pLk=>?_⟩;have w1:=v0.trans u1;have w51:=s5.trans (sJ.trans u1);have kt:SqT K J1 t [.str "hides",.ref gn,.ref gf]:=SqT.of (w51 _ _ a1);refine ixT kt rfl (ixT kt rfl ⟨324,539,A1,A2,gn,gf,Lk,w,w,Z1,Z2,vs1,vs2,us1,us2,N,X,rfl,hA.keep w1,hB.keep w1,a4.keep w51,a5.keep w51,pLk,C1,C2,nb,fb,by decide,nb9,fb9,R.1,R.2.1,R.2.2.1,fun J2 u2 p2'=>⟨_,rfl,?_⟩⟩);try rw[if_neg (by decide)]
   have x2:=SameB.fresh u1 nLk u2;have w2:=v0.trans x2;have w52:=s5.trans (sJ.trans x2);have kt2:SqT K J2 t [.str "hides",.ref gn,.ref gf]:=SqT.of (w52 _ _ a1);refine ixT kt2 rfl (ixT kt2 rfl ⟨539,324,A2,A1,gf,gn,Lk,w,w,Z2,Z1,vs2,vs1,us2,us1,X,N,rfl,hB.keep w2,hA.keep w2,a5.keep w52,a4.keep w52,p2',C2,C1,fb,nb,by decide,fb9,nb9,⟨R.1.2.1,R.1.1,R.1.2.2.2,R.1.2.2.1⟩,R.2.2.1,R.2.1,fun J3 u3 p3'=>⟨_,rfl,?_⟩⟩);try rw[if_neg (by decide)]
   exact⟨sJ.trans (SameB.fresh u1 nLk (u2.trans u3)),_,rfl⟩
  ·rintro σ J ⟨sJ,p8,p11,rfl⟩;walk_at "rf";exact q _
end
@[elab_as_elim] theorem len1 {P:List Value->Prop} (us:List Value) (hl:us.length=1) (h:∀a,P [a]):P us:=by
  cases us with
  | nil=>exact absurd hl (by decide)
  | cons a r =>
    cases r with
    | nil=>exact h a
    | cons b r=>exact absurd (Nat.succ.inj hl) (Nat.succ_ne_zero _)
@[elab_as_elim] theorem len2 {P:List Value->Prop} (us:List Value) (hl:us.length=2) (h:∀a0 a1,P [a0,a1]):P us:=by
 cases us with
 | nil=>exact absurd hl (by decide)
 | cons a0 r=>exact len1 (P:=fun r=>P (a0::r)) r (Nat.succ.inj hl) fun a1=>h a0 a1
@[elab_as_elim] theorem len3 {P:List Value->Prop} (us:List Value) (hl:us.length=3) (h:∀a0 a1 a2,P [a0,a1,a2]):P us:=by
 cases us with
 | nil=>exact absurd hl (by decide)
 | cons a0 r=>exact len2 (P:=fun r=>P (a0::r)) r (Nat.succ.inj hl) fun a1 a2=>h a0 a1 a2
@[elab_as_elim] theorem len4 {P:List Value->Prop} (us:List Value) (hl:us.length=4) (h:∀a0 a1 a2 a3,P [a0,a1,a2,a3]):P us:=by
 cases us with
 | nil=>exact absurd hl (by decide)
 | cons a0 r=>exact len3 (P:=fun r=>P (a0::r)) r (Nat.succ.inj hl) fun a1 a2 a3=>h a0 a1 a2 a3
@[elab_as_elim] theorem len5 {P:List Value->Prop} (us:List Value) (hl:us.length=5) (h:∀a0 a1 a2 a3 a4,P [a0,a1,a2,a3,a4]):P us:=by
 cases us with
 | nil=>exact absurd hl (by decide)
 | cons a0 r=>exact len4 (P:=fun r=>P (a0::r)) r (Nat.succ.inj hl) fun a1 a2 a3 a4=>h a0 a1 a2 a3 a4
inductive AtK (K:PySem.W.Frag) (x:Str) (st:Stmt):Prop
 | mk (f:Addr) (oc kV dc pm cd ct:Value) (od an:Option Addr) (sl:Array (Option Value)) (a:PySem.W.nsIn K mainGlobals x=some (some (.ref f))) (l:K.lookup f=some ⟨oc,od,.func (PySem.W.fnOf x x (jbI st) (jbj st) (jaj st) .none kV dc pm an cd ct),sl⟩) (c:PySem.W.codeIn K cd x=true) (k:PySem.W.keepIn K (.ref f)=true)
local macro_rules | `(tactic| walk_at "bn") => `(tactic| first | exact fun _ _ _ _ _ _ us hl => len1 us hl fun _ => rfl | exact fun _ _ _ _ _ _ us hl => len2 us hl fun _ _ => rfl | exact fun _ _ _ _ _ _ us hl => len3 us hl fun _ _ _ => rfl | exact fun _ _ _ _ _ _ us hl => len4 us hl fun _ _ _ _ => rfl | exact fun _ _ _ _ _ _ us hl => len5 us hl fun _ _ _ _ _ => rfl)
theorem AtK.go {K:PySem.W.Frag} {h:Heap} {mg:Str->Option Value} {x:Str} {st:Stmt} {ps:List Str} (H:AtK K x st) (X:K.In h) (G:h.Ns mainGlobals mg) (hb:∀(kV doc pm:Value) (an:Option Addr) (cdv ct:Value) (us:List Value),us.length=ps.length->bindArgs (PySem.W.fnOf x x (jbI st) (jbj st) (jaj st) .none kV doc pm an cdv ct) ⟨us,[]⟩=pure (ps.zip us):=by walk_at "bn"):At K mg x st ps [] :=
 let ⟨_,_,_,_,_,_,_,_,_,_,a,l,c,k⟩:=H
 at_mk X G hb a l c k
theorem jqw {l:PySem.W.OpenLaw} {w:World} {K:PySem.W.Frag} {h:Heap} {mg:Str->Option Value} {fa fF D:Addr} {t1 t2:Tok} {tD:Tok} (X:K.In h) (G:h.Ns mainGlobals mg) (hfa:mg "law"=some (.ref fa))
  {f76:Addr} {odF anF od76 an76:Option Addr} {slF sl76:Array (Option Value)} {ocF kVF dcF pmF cdF ctF oc76 kV76 dc76 pm76 cd76 ct76:Value} {oD:Obj} {nD:Nat}
  (aS0:PySem.W.nsIn K mainGlobals "SHORT_BITS"=some (some (.int 2000 t1)))
  (aS1:PySem.W.nsIn K mainGlobals "LEADING_BITS"=some (some (.int 120 t2)))
  (aF:PySem.W.nsIn K mainGlobals "made_spot"=some (some (.ref fF))) (lF:K.lookup fF=some ⟨ocF,odF,.func (PySem.W.fnOf "made_spot" "made_spot" (jbI jbl) (jbj jbl) (jaj jbl) (.ref D) kVF dcF pmF anF cdF ctF),slF⟩) (cF:PySem.W.codeIn K cdF "made_spot"=true) (kF:PySem.W.keepIn K (.ref fF)=true) (lD:K.lookup D=some oD) (hD:oD.data=.seq #[.int 1 tD] nD)
  (a0:AtK K "_law_slots" jc0)
  (a1:AtK K "_law_purse" jc1)
  (a2:AtK K "_law_take" jdI)
  (a3:AtK K "_law_wide" jdJ)
  (a4:AtK K "_law_arrow" jc2)
  (a5:AtK K "_law_cross" jc3)
  (a6:AtK K "_law_unlike" jcA)
  (a7:AtK K "_law_sides" jc4)
  (a8:AtK K "_law_rows" jdK)
  (a9:AtK K "_law_corners" jch)
  (a10:AtK K "_law_mate" jdM)
  (a11:AtK K "_law_divisor" jcg)
  (a12:AtK K "_law_spot" jdL)
  (a13:AtK K "_law_formed" jcB)
  (a14:AtK K "_law_eye" jex)
  (a15:AtK K "_law_inner" jc5)
  (a16:AtK K "_law_line" jdN)
  (a17:AtK K "_law_arm" jey)
  (a18:AtK K "_law_upright" jci)
  (a19:AtK K "_law_dot" jew)
  (a20:AtK K "_law_height" jcC)
  (a21:AtK K "_law_free" jdO)
  (a22:AtK K "without" jfq)
  (a23:AtK K "crossed" jfp)
  (a24:AtK K "determinant" jcv)
  (a25:AtK K "minor_of" jep)
  (a26:AtK K "rough_plane" jcw)
  (a27:AtK K "certain_steps" jbW)
  (a28:AtK K "greatest_divisor" jbr)
  (a29:AtK K "in_lowest_terms" jbw)
  (a30:AtK K "made_plane" jcW)
  (a31:AtK K "is_plain" jeq)
  (a32:AtK K "turned_about" jcd)
  (a33:AtK K "plane_through" jbY)
  (a34:AtK K "plane_of" jes)
  (a35:AtK K "sign_of" jfo)
  (a36:AtK K "height_over" jcx)
  (a37:AtK K "side_of" jfs)
  (a38:AtK K "first_not_free" jbK)
  (a39:AtK K "refuse_unless_free" jbf)
  (a40:AtK K "turned_towards" jbL)
  (a41:AtK K "edges_of" jer)
  (a42:AtK K "side_faces" jcZ)
  (a43:AtK K "pyramid_faces" jbZ)
  (a44:AtK K "met_at" jgt)
  (a45:AtK K "sided_round" jcy)
  (a46:AtK K "stands_first" jcc)
  (a47:AtK K "formed" jgu)
  (a48:AtK K "cut_by" jgv)
  (a49:AtK K "kept_by" jft)
  (a50:AtK K "is_between" jcX)
  (a51:AtK K "is_parting" jcY)
  (a52:AtK K "arrow_between" jbX)
  (a53:AtK K "plane_along_edges" jbm)
  (a54:AtK K "parting_plane" jb0)
  (a55:AtK K "spot_within" jcz)
  (a56:AtK K "sight_through" jb1)
  (a57:AtK K "sight_of" jev)
  (a58:AtK K "_law_whole" jc7)
  (a59:AtK K "_law_four" jdQ)
  (a60:AtK K "_law_sign" jdP)
  (a61:AtK K "_law_where" jc6)
  (a62:AtK K "_law_between" jcj)
  (a63:AtK K "_law_sees" jdS)
  (a64:AtK K "_law_side" jdR)
  (a65:AtK K "_law_parts" jc8)
  (a66:AtK K "_law_told" jdT)
  (a67:AtK K "does_hide" jdH)
  (a68:AtK K "flat_axis" jdG)
  (a69:AtK K "side_of_edge" jce)
  (a70:AtK K "where_in" jet)
  (a71:AtK K "in_line" jfr)
  (a72:AtK K "strictly_between" jbs)
  (a73:AtK K "is_sight" jeu)
  (a74:AtK K "sight_judged" jcf)
  (a75:AtK K "_law_holds" jc9)
  (a76:PySem.W.nsIn K mainGlobals "law"=some (some (.ref f76))) (l76:K.lookup f76=some ⟨oc76,od76,.func (PySem.W.fnOf "law" "law" (jbI jgw) (jbj jgw) (jaj jgw) .none kV76 dc76 pm76 an76 cd76 ct76),sl76⟩) (c76:PySem.W.codeIn K cd76 "law"=true) (k76:PySem.W.keepIn K (.ref f76)=true)
  (z0:PySem.W.nsIn K mainGlobals "sum"=some none) (z1:PySem.W.nsIn K mainGlobals "all"=some none) (z2:PySem.W.nsIn K mainGlobals "isinstance"=some none) (z3:PySem.W.nsIn K mainGlobals "bool"=some none) (z4:PySem.W.nsIn K mainGlobals "int"=some none) (z5:PySem.W.nsIn K mainGlobals "abs"=some none) (z6:PySem.W.nsIn K mainGlobals "max"=some none) (z7:PySem.W.nsIn K mainGlobals "min"=some none) (z8:PySem.W.nsIn K mainGlobals "len"=some none) (z9:PySem.W.nsIn K mainGlobals "range"=some none) (z10:PySem.W.nsIn K mainGlobals "tuple"=some none) (z11:PySem.W.nsIn K mainGlobals "list"=some none) (z12:PySem.W.nsIn K mainGlobals "reversed"=some none) (z13:PySem.W.nsIn K mainGlobals "enumerate"=some none) :
  ∃fd:FuncData,(∀(s:Shared) (v:Value),BindsTo s fd ⟨[v],[]⟩ [("script",v)])/\∀base:Heap,K.In base->base.Ns mainGlobals mg->FnOk l.prog w K mg base CX0 12 fa fd ["script"] (jk2 K):=by
 have e:=hfa.symm.trans (PySem.W.mg_of X G a76);cases e;have T:Tx K mg t1 t2:=⟨PySem.W.mg_none_of X G z0,PySem.W.mg_none_of X G z1,PySem.W.mg_none_of X G z2,PySem.W.mg_none_of X G z3,PySem.W.mg_none_of X G z4,PySem.W.mg_none_of X G z5,PySem.W.mg_none_of X G z6,PySem.W.mg_none_of X G z7,PySem.W.mg_none_of X G z8,PySem.W.mg_none_of X G z9,PySem.W.mg_none_of X G z10,PySem.W.mg_none_of X G z11,PySem.W.mg_none_of X G z12,PySem.W.mg_none_of X G z13,PySem.W.mg_of X G aS0,PySem.W.mg_of X G aS1⟩;have AF:At K mg "made_spot" jbl ["x","y","z","w"] []:=jlR (ds:=[]) X G (fun _ _ _ _ _ _ us hl=>match us,hl with | [_,_,_,_],_=>⟨_,rfl,rfl⟩) aF lF cF kF lD hD .nil;have AF1:At K mg "made_spot" jbl ["x","y","z","w"] [.int 1]:=jlR (ds:=[.int 1 tD]) X G (fun _ _ _ _ _ _ us hl=>by
  rw[xao] at hl;have hl2:us.length=3:=by simpa using hl
  match us,hl2 with
  | [u0,u1,u2],_=>exact⟨_,rfl,rfl⟩) aF lF cF kF lD hD (.cons ⟨_,rfl⟩ .nil)
 have FL:=jhx (st:=jgw) l76 c76 k76;refine⟨PySem.W.fnOf "law" "law" (jbI jgw) (jbj jgw) (jaj jgw) .none kV76 dc76 pm76 an76 cd76 ct76,fun s v=>.of_eq rfl,fun base _ _=>?_⟩;have D0:=ok_sl (P:=l.prog) (w:=w) (base:=base) T (a0.go X G);have D1:=ok_pu (P:=l.prog) (w:=w) (base:=base) T (a1.go X G);have D2:=jlt (P:=l.prog) (w:=w) (base:=base) T (a2.go X G);have D3:=ok_wd (P:=l.prog) (w:=w) (base:=base) T (a3.go X G);have D4:=ok_ar (P:=l.prog) (w:=w) (base:=base) T (a4.go X G) D2;have D5:=jpz (P:=l.prog) (w:=w) (base:=base) T (a5.go X G);have D6:=ok_ul (P:=l.prog) (w:=w) (base:=base) T (a6.go X G) D5;have D7:=ok_si (P:=l.prog) (w:=w) (base:=base) T (a7.go X G) D4 D5 D6;have D8:=ok_rw (P:=l.prog) (w:=w) (base:=base) T (a8.go X G);have D9:=ok_co (P:=l.prog) (w:=w) (base:=base) T (a9.go X G) D4 D7 D2 D8;have D10:=ok_mt (P:=l.prog) (w:=w) (base:=base) T (a10.go X G) D2 D9 D4 D5;have D11:=jpx (P:=l.prog) (w:=w) (base:=base) T (a11.go X G);have D12:=jpy (P:=l.prog) (w:=w) (base:=base) T (a12.go X G) D11;have D13:=jpD (P:=l.prog) (w:=w) (base:=base) T (a13.go X G) D12;have D14:=ok_ey (P:=l.prog) (w:=w) (base:=base) T (a14.go X G) D12 D4 D2;have D15:=ok_in (P:=l.prog) (w:=w) (base:=base) T (a15.go X G) D2 D12;have D16:=ok_ln (P:=l.prog) (w:=w) (base:=base) T (a16.go X G) D2 D12;have D17:=jpK (P:=l.prog) (w:=w) (base:=base) T (a17.go X G);have D18:=jpL (P:=l.prog) (w:=w) (base:=base) T (a18.go X G) D17 D5;have D19:=jpA (P:=l.prog) (w:=w) (base:=base) T (a19.go X G);have D20:=jpM (P:=l.prog) (w:=w) (base:=base) T (a20.go X G) D18 D17 D19;have D21:=ok_fr (P:=l.prog) (w:=w) (base:=base) T (a21.go X G) D20;have D22:=jiF (P:=l.prog) (w:=w) (base:=base) T (a22.go X G);have D23:=jiE (P:=l.prog) (w:=w) (base:=base) T (a23.go X G);have D24:=joU (P:=l.prog) (w:=w) (base:=base) T (a24.go X G) D23;have D25:=jk3 (P:=l.prog) (w:=w) (base:=base) T (a25.go X G) D22 D24;have D26:=jk6 (P:=l.prog) (w:=w) (base:=base) T (a26.go X G) D25;have D27:=ok_cs (P:=l.prog) (w:=w) (base:=base) T (a27.go X G);have D28:=ok_gd (P:=l.prog) (w:=w) (base:=base) T (a28.go X G) D27;have D29:=joT (P:=l.prog) (w:=w) (base:=base) T (a29.go X G) D28;have D30:=jk7 (P:=l.prog) (w:=w) (base:=base) T (a30.go X G) D29;have D31:=jk5 (P:=l.prog) (w:=w) (base:=base) T (a31.go X G);have D32:=jjI (P:=l.prog) (w:=w) (base:=base) T (a32.go X G);have D33:=jiG (P:=l.prog) (w:=w) (base:=base) T (a33.go X G) D26 D30 D31 D32;have D34:=jiH (P:=l.prog) (w:=w) (base:=base) T (a34.go X G) D33;have D35:=jnf (P:=l.prog) (w:=w) (base:=base) T (a35.go X G);have D36:=ok_ht (P:=l.prog) (w:=w) (base:=base) T (a36.go X G);have D37:=jng (P:=l.prog) (w:=w) (base:=base) T (a37.go X G) D35 D36;have D38:=jpR (P:=l.prog) (w:=w) (base:=base) T (a38.go X G) D34 D37;have D39:=jpS (P:=l.prog) (w:=w) (base:=base) T (a39.go X G) D38;have D40:=ok_tt (P:=l.prog) (w:=w) (base:=base) T (a40.go X G) D37 D32;have D41:=jla (P:=l.prog) (w:=w) (base:=base) T (a41.go X G);have D42:=ok_sf (P:=l.prog) (w:=w) (base:=base) T (a42.go X G) D40 D33 D41;have D43:=ok_py (P:=l.prog) (w:=w) (base:=base) T (a43.go X G) D40 D34 D42;have D44:=jo3 (P:=l.prog) (w:=w) (base:=base) T AF D29;have D45:=jo4 (P:=l.prog) (w:=w) (base:=base) T (a44.go X G) D36 D44;have D46:=jld (P:=l.prog) (w:=w) (base:=base) T (a45.go X G) D41 D37 D45;have D47:=jk8 (P:=l.prog) (w:=w) (base:=base) T (a46.go X G);have D48:=jjJ (P:=l.prog) (w:=w) (base:=base) T (a47.go X G) D47;have D49:=jno (P:=l.prog) (w:=w) (base:=base) T (a48.go X G) D37 D46 D48;have D50:=jnI (P:=l.prog) (w:=w) (base:=base) T (a49.go X G) D49;have D51:=ok_ib (P:=l.prog) (w:=w) (base:=base) T (a50.go X G) D37;have D52:=ok_ip (P:=l.prog) (w:=w) (base:=base) T (a51.go X G) D37 D51;have D53:=jpT (P:=l.prog) (w:=w) (base:=base) T (a52.go X G);have D54:=jpZ (P:=l.prog) (w:=w) (base:=base) T (a53.go X G) D53 D41 D26 D32 D52 D30;have D55:=ok_pp (P:=l.prog) (w:=w) (base:=base) T (a54.go X G) D34 D32 D52 D54;have D56:=ok_sw (P:=l.prog) (w:=w) (base:=base) T (a55.go X G) D44;have D57:=ok_st (P:=l.prog) (w:=w) (base:=base) T (a56.go X G) D56 D34 D45;have D58:=ok_so (P:=l.prog) (w:=w) (base:=base) T (a57.go X G) D39 D43 D50 D55 D57;have D59:=jlb (P:=l.prog) (w:=w) (base:=base) T (a58.go X G);have D60:=jnZ (P:=l.prog) (w:=w) (base:=base) T (a59.go X G) D59 D11;have D61:=ok_sg (P:=l.prog) (w:=w) (base:=base) T (a60.go X G);have D62:=ok_wh (P:=l.prog) (w:=w) (base:=base) T (a61.go X G) D20 D18 D17 D5 D19 D61;have D63:=jqf (P:=l.prog) (w:=w) (base:=base) T (a62.go X G) D5 D17 D19;have D64:=jqg (P:=l.prog) (w:=w) (base:=base) T (a63.go X G) D60 D62 D63;have D65:=jpN (P:=l.prog) (w:=w) (base:=base) T (a64.go X G) D19 D61;have D66:=jpP (P:=l.prog) (w:=w) (base:=base) T (a65.go X G) D60 D65;have D67:=jqi (P:=l.prog) (w:=w) (base:=base) T (a66.go X G) D64 D66;have D68:=ok_dh (P:=l.prog) (w:=w) (base:=base) T (a67.go X G) D39 D50 D43;have D69:=jnh (P:=l.prog) (w:=w) (base:=base) T (a68.go X G);have D70:=jni (P:=l.prog) (w:=w) (base:=base) T (a69.go X G) D35 D25;have D71:=jlq (P:=l.prog) (w:=w) (base:=base) T (a70.go X G) D34 D37 D69 D70 D41;have D72:=jne (P:=l.prog) (w:=w) (base:=base) T (a71.go X G) D25;have D73:=jqm (P:=l.prog) (w:=w) (base:=base) T (a72.go X G) D72 D53;have D74:=jqo (P:=l.prog) (w:=w) (base:=base) T (a73.go X G) D71 D73;have D75:=ok_ju (P:=l.prog) (w:=w) (base:=base) T (a74.go X G) D39 D74 D52;have D76:=ok_ho (P:=l.prog) (w:=w) (base:=base) T (a75.go X G) D16 D21 D68 D64 D75;exact jqv T FL D0 D1 D2 D3 D9 D10 D13 D14 D15 D16 D21 D58 D67 D76
theorem walk {l:PySem.W.OpenLaw} {q:Program} {loose:List Str} {XP:(Str->Option Value)->Heap->Prop} {YP:World->Heap->Prop} {d:DefRec} {K:Params->PySem.W.Frag} (hn:l.most=some 63) (hdf:d.params.defaults=[])
  (hY:∀(w:World) (h:Heap),YP w h->(K w.params).In h)
  (F:∀(w:World) (mg:Str->Option Value) (fa:Addr) (h:Heap),(K w.params).In h->h.Ns mainGlobals mg->mg d.name=some (.ref fa) ->
   ∃fd:FuncData,(∀(s:Shared) (u:Value),BindsTo s fd ⟨[u],[]⟩ [("script",u)])/\∀base:Heap,(K w.params).In base->base.Ns mainGlobals mg->FnOk l.prog w (K w.params) mg base CX0 12 fa fd ["script"] (jk2 (K w.params))) :
  PySem.W.WalkO q loose XP YP l.row.toRowW d [] (fun f vs=>PySem.call f vs) :=
 L2.jmY (n:=63) (k:=12) (x:="script") (CX:=fun _=>CX0) (sp:=fun w=>jk2 (K w.params)) hn (by decide) hdf ⟨rfl,by decide,by decide⟩ hY F (fun _ _ a ns hl _ hS=>⟨a,ns,rfl,hS,hl,fun _=>rfl⟩) fun _ _ _ _ _ z=>z
end My
namespace PySem.W.Fast
def tw10027158391303795782:=0
def tw10098413624599593922:=0
def tw10113455889450841191:=0
def tw10195431436675906507:=0
def tw10209909529073364826:=0
def tw10246534102689686657:=0
def tw10264446497584487115:=0
def tw10450758730363011952:=0
def tw10492473881346420169:=0
def tw10535009014224397040:=0
def tw10589179918360091389:=0
def tw10618089263836560855:=0
def tw10622193875411195651:=0
def tw10701325157610444858:=0
def tw10786424554658271833:=0
def tw10788895167469634980:=0
def tw10838297142201398822:=0
def tw10860457857732388748:=0
def tw10860486148790116231:=0
def tw10873417561827296685:=0
def tw10882568707377831889:=0
def tw10969608837065521386:=0
def tw1097537285621036547:=0
def tw11025590572890845562:=0
def tw11087229895145010994:=0
def tw11095780029444493570:=0
def tw1117101690354555837:=0
def tw11176691256035260576:=0
def tw11241067947728860884:=0
def tw11271264003077553052:=0
def tw11281544297649873579:=0
def tw11324245841169399193:=0
def tw11371425391995369814:=0
def tw11470659705670073372:=0
def tw11473844393941500454:=0
def tw11497795376416848669:=0
def tw11525172964077606448:=0
def tw11549501771651956188:=0
def tw11567110788337728707:=0
def tw11592066990463828371:=0
def tw1161093142005142159:=0
def tw11619122611409216510:=0
def tw11644961453119339570:=0
def tw1165239498424684106:=0
def tw11785257322680268491:=0
def tw1183282374760000797:=0
def tw11847686621978236215:=0
def tw1194515213874939382:=0
def tw11964890711637502158:=0
def tw119697281125940398:=0
def tw12018308626084093602:=0
def tw12024608229403183944:=0
def tw12029072488005849236:=0
def tw12042813443508322013:=0
def tw12045801629325545400:=0
def tw12061864355789787964:=0
def tw12128485781010267073:=0
def tw12130510640477818952:=0
def tw12151157334379164581:=0
def tw12159821267258222453:=0
def tw12166949389678566439:=0
def tw12203719986990311859:=0
def tw12238480944597705773:=0
def tw12288483455712649293:=0
def tw12293710543584953458:=0
def tw1245147159869655534:=0
def tw12591541001014121491:=0
def tw12598077681597998773:=0
def tw12755986767662366214:=0
def tw12925667087986856115:=0
def tw12926656787000120644:=0
def tw12935195193611070096:=0
def tw12996311464806177327:=0
def tw1299818887361143975:=0
def tw13045382589614631683:=0
def tw13100662420133106857:=0
def tw13111966216682085259:=0
def tw13193174785707593671:=0
def tw13196712418618949336:=0
def tw13204814374547056668:=0
def tw13274696029562975036:=0
def tw13294447367834920936:=0
def tw13352564905201594925:=0
def tw13408272533246276824:=0
def tw13435400019896701258:=0
def tw13455856905394011027:=0
def tw13456906038526584288:=0
def tw13466472147700823038:=0
def tw13483603036322467285:=0
def tw1348884737349989522:=0
def tw13505787305895972868:=0
def tw13606181055519726892:=0
def tw13684247493677667535:=0
def tw13691295603454155908:=0
def tw13696933580159230856:=0
def tw13772236942008477388:=0
def tw13837615066878263471:=0
def tw13864299805157313065:=0
def tw13865564821183585656:=0
def tw13886644705415323608:=0
def tw13904983975935568116:=0
def tw13908847815230677466:=0
def tw13914499086585332801:=0
def tw14067171630642499325:=0
def tw14147827256353956092:=0
def tw14148710436118028684:=0
def tw14167864900243167656:=0
def tw14234503197864799537:=0
def tw14261847309975543228:=0
def tw14347161777710514724:=0
def tw14371739390064818199:=0
def tw14495336619868510822:=0
def tw1450845638036615183:=0
def tw14515779104210285955:=0
def tw14530271107204521024:=0
def tw14550248323086486291:=0
def tw14551877541236799485:=0
def tw14572922469218695585:=0
def tw14626630650889598885:=0
def tw14635632576180915684:=0
def tw14637619064755952968:=0
def tw14664258389567931276:=0
def tw14700468162551429297:=0
def tw14705958005637396274:=0
def tw14747605266998721999:=0
def tw14748475437075420481:=0
def tw14796427566825061858:=0
def tw14965223121366783979:=0
def tw14979936466137001343:=0
def tw15009877274881107988:=0
def tw15034815657133333835:=0
def tw15082885876973276353:=0
def tw15099479002279073769:=0
def tw15144444478315044430:=0
def tw15153665632207715040:=0
def tw15268562289567620101:=0
def tw15277713320874973916:=0
def tw15308433098815431980:=0
def tw15308673724739322184:=0
def tw15314854180423668037:=0
def tw15318858590807756269:=0
def tw15372158160456836052:=0
def tw15525430352960691522:=0
def tw15649296884334857820:=0
def tw156841569722711412:=0
def tw15702912326649379621:=0
def tw15710494427722184330:=0
def tw15769874165124264799:=0
def tw15848044719987415095:=0
def tw15965226825020677137:=0
def tw1599453967896275261:=0
def tw16084634677947150400:=0
def tw16120024408544080305:=0
def tw1612390534418882894:=0
def tw16136890509570341001:=0
def tw16209863207141164802:=0
def tw16231028198919306359:=0
def tw16238743305170851629:=0
def tw16264939410062095932:=0
def tw16393459343791070259:=0
def tw16475501281447269395:=0
def tw16518103642161371013:=0
def tw16551233473044912659:=0
def tw16592087316516227598:=0
def tw16605830592105836396:=0
def tw16644003585986033550:=0
def tw16696255402985270907:=0
def tw16713026119389968962:=0
def tw16847928393686073484:=0
def tw16886962735871126012:=0
def tw1693600838076199822:=0
def tw1697605502907255523:=0
def tw17016702035011688885:=0
def tw1705205545343405806:=0
def tw17064208201060267257:=0
def tw1706683943486630550:=0
def tw17149753179719911917:=0
def tw17154791425814887644:=0
def tw17237097870028015744:=0
def tw17269112493820801216:=0
def tw17286923782671395520:=0
def tw17345210843067395058:=0
def tw17418081191138628626:=0
def tw17542892594480555345:=0
def tw17551497444313188351:=0
def tw17774756325025231023:=0
def tw17882847145794754178:=0
def tw17910428133606409575:=0
def tw17957231079809807843:=0
def tw17970702689530198868:=0
def tw17983023548794209630:=0
def tw18045881898348926261:=0
def tw18084074449662153528:=0
def tw18116115449447080099:=0
def tw18129523001131522981:=0
def tw18174119967316221634:=0
def tw1822945569413052730:=0
def tw18308124908419801183:=0
def tw18363062220765832081:=0
def tw183821665112165245:=0
def tw18390306600182146849:=0
def tw18404187925695003767:=0
def tw1868047750025631173:=0
def tw1876597005352683529:=0
def tw2031206609183758373:=0
def tw2036808622519235156:=0
def tw2061259675631297870:=0
def tw206196465550363091:=0
def tw2069142590815193685:=0
def tw2083829064958230269:=0
def tw2095553339206614042:=0
def tw2137583333324684000:=0
def tw2186591871261676753:=0
def tw2228658122243998519:=0
def tw2241748889088469489:=0
def tw2290128863472281473:=0
def tw2380090524772702292:=0
def tw2384389628787387461:=0
def tw2436373660438337697:=0
def tw2453773330847010688:=0
def tw2454371906525826420:=0
def tw2456573141133290116:=0
def tw2610418737124830024:=0
def tw2628961876303057372:=0
def tw2663460356507788500:=0
def tw2663738598533537005:=0
def tw2690243104622749927:=0
def tw2743488393709794375:=0
def tw2759717494305367531:=0
def tw2775994810728668026:=0
def tw2924314191301090194:=0
def tw2968337316816390474:=0
def tw2987191667117410416:=0
def tw2994151022967414433:=0
def tw3176429409803815993:=0
def tw3245812227499361416:=0
def tw3301679902978815146:=0
def tw3506869770395667254:=0
def tw3596224673368686657:=0
def tw3598288526672532932:=0
def tw3653925502891062513:=0
def tw3762417444150874922:=0
def tw3764065123519857497:=0
def tw3787091061966011243:=0
def tw3808090577641272428:=0
def tw3888166271276321306:=0
def tw3888220464900708900:=0
def tw407450594436167378:=0
def tw4080322313713885341:=0
def tw4153316354618594968:=0
def tw4172874840580358527:=0
def tw4202093615921502553:=0
def tw4240853880524931490:=0
def tw4307239769227551669:=0
def tw4327640921251687115:=0
def tw4571832755033191761:=0
def tw4599938656617920566:=0
def tw461054115801289887:=0
def tw4674105463967823239:=0
def tw4754527564255944745:=0
def tw4760599114715016979:=0
def tw4766061141438362513:=0
def tw4786143481439217650:=0
def tw4826448586169020378:=0
def tw4838611337838298939:=0
def tw4845682017537636943:=0
def tw4917653195065384873:=0
def tw5097040582793077938:=0
def tw5135689194943606907:=0
def tw5153069628652935651:=0
def tw5176289053808655332:=0
def tw5246634087184393438:=0
def tw5357861644057277297:=0
def tw5363503466356467308:=0
def tw5382835456928400642:=0
def tw5426010402280413936:=0
def tw5502849338812200116:=0
def tw5630348210788998831:=0
def tw5647566819315255639:=0
def tw5670061415049564225:=0
def tw5779436585724668527:=0
def tw5793600423104106041:=0
def tw5819145758230473750:=0
def tw5930855778774974224:=0
def tw5952555774426631851:=0
def tw6068565533117932493:=0
def tw6069688958817667499:=0
def tw6112776769179042174:=0
def tw6134262777285978287:=0
def tw6141704460659434530:=0
def tw6183999466001098479:=0
def tw6190715169109268577:=0
def tw6231754343972543516:=0
def tw6260561289837323141:=0
def tw6292709744259956833:=0
def tw6307584032883711521:=0
def tw6311025457550524190:=0
def tw6387963040676972917:=0
def tw6418459616838582937:=0
def tw6430488907378934871:=0
def tw6450762242651705167:=0
def tw6459356455040093736:=0
def tw649190594639603840:=0
def tw6664374576334205662:=0
def tw6671036841370293115:=0
def tw6822961882345459391:=0
def tw6831185290785661366:=0
def tw6857655205544426528:=0
def tw6959001241451897695:=0
def tw6960510252672398701:=0
def tw6966226461221645561:=0
def tw7037634424671599771:=0
def tw7050586308723709918:=0
def tw7096200260653695831:=0
def tw7096718341154826420:=0
def tw7185908109488765563:=0
def tw7243305022244176074:=0
def tw7278889817595212533:=0
def tw7320978014809672869:=0
def tw7349459230826868180:=0
def tw7358541423490887012:=0
def tw7407137650308437819:=0
def tw7523754913255646122:=0
def tw7530726034866639517:=0
def tw7537559520703538579:=0
def tw7569844373614714045:=0
def tw7572399124619436897:=0
def tw7602981365941506492:=0
def tw7637973024168725111:=0
def tw7677645037195250655:=0
def tw7685166697095275049:=0
def tw7709972558330761712:=0
def tw7799326003428969606:=0
def tw7816676026376428389:=0
def tw782960732289218750:=0
def tw7846715954831347260:=0
def tw7905616106119395168:=0
def tw7942964380390383881:=0
def tw7972801002940916385:=0
def tw8021228436109199697:=0
def tw8093880053694763991:=0
def tw811137270103071712:=0
def tw8191963538379156353:=0
def tw8205602591902113067:=0
def tw8228816041659505934:=0
def tw8250935414931921488:=0
def tw8266252697891621953:=0
def tw8292472486667426801:=0
def tw8328020960097155325:=0
def tw8402512692127677088:=0
def tw8423087007605635561:=0
def tw8451936250425625966:=0
def tw8592662685205375341:=0
def tw8612914000154746686:=0
def tw8641681671955929690:=0
def tw8656574314780366314:=0
def tw8683140614122388185:=0
def tw868898044270962033:=0
def tw8719824632114632300:=0
def tw878553763428170332:=0
def tw8810594973652668861:=0
def tw8984836561278830449:=0
def tw9226415284960610785:=0
def tw9310231158748032704:=0
def tw9730023738698525835:=0
def tw9766338151332975373:=0
def tw9794172013904149246:=0
def tw9799567682635318420:=0
def tw9836579619173982182:=0
def tw9983717634501160520:=0
end PySem.W.Fast
open PySem PySem.W PyProof.Rows
set_option maxRecDepth 100000 in
set_option maxHeartbeats 0 in
theorem PySem.Challenge.cw_boardsight_k30_whole_along_the_sight_holds : PySem.Challenge.rw_boardsight_k30_whole_along_the_sight.Holds := by
  w_on;o_law;k_head;(case hw=>w_witness2)
  k_fill
  refine My.walk (l:=PySem.Challenge.rw_boardsight_k30_whole_along_the_sight) rfl rfl (fun w h Y=>PySem.W.kIn_of Y) ?F
  case F =>
    intro w mg fa h KX G hmg
    refine' My.jqw KX G hmg ?aS0 ?aS1 ?aF ?lF ?cF ?kF ?lD ?hD ?a0 ?a1 ?a2 ?a3 ?a4 ?a5 ?a6 ?a7 ?a8 ?a9 ?a10 ?a11 ?a12 ?a13 ?a14 ?a15 ?a16 ?a17 ?a18 ?a19 ?a20 ?a21 ?a22 ?a23 ?a24 ?a25 ?a26 ?a27 ?a28 ?a29 ?a30 ?a31 ?a32 ?a33 ?a34 ?a35 ?a36 ?a37 ?a38 ?a39 ?a40 ?a41 ?a42 ?a43 ?a44 ?a45 ?a46 ?a47 ?a48 ?a49 ?a50 ?a51 ?a52 ?a53 ?a54 ?a55 ?a56 ?a57 ?a58 ?a59 ?a60 ?a61 ?a62 ?a63 ?a64 ?a65 ?a66 ?a67 ?a68 ?a69 ?a70 ?a71 ?a72 ?a73 ?a74 ?a75 ?a76 ?l76 ?c76 ?k76 ?z0 ?z1 ?z2 ?z3 ?z4 ?z5 ?z6 ?z7 ?z8 ?z9 ?z10 ?z11 ?z12 ?z13
    (case aS0=>k_is)
    (case aS1=>k_is)
    (case aF=>k_is)
    (case lF=>k_is)
    (case cF=>k_is)
    (case kF=>k_is)
    (case lD=>k_is)
    (case hD=>first | rfl | k_is)
    (case a76=>k_is)
    (case l76=>k_is)
    (case c76=>k_is)
    (case k76=>k_is)
    (case z0=>k_is)
    (case z1=>k_is)
    (case z2=>k_is)
    (case z3=>k_is)
    (case z4=>k_is)
    (case z5=>k_is)
    (case z6=>k_is)
    (case z7=>k_is)
    (case z8=>k_is)
    (case z9=>k_is)
    (case z10=>k_is)
    (case z11=>k_is)
    (case z12=>k_is)
    (case z13=>k_is)
    all_goals (apply My.AtK.mk;k_is;k_is;k_is;k_is)
